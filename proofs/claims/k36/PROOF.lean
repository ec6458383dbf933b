import PyProof.Rows.All
import Wide.All
import OpenK.AllK
import Wide.FinOn
import PyProof.EqAt
import PyProof.EqKinds
import PyProof.TupleCall
import PyProof.P3In
import PyProof.ZipIter
import PyProof.ListRange
import PyProof.SetRoads
import PyProof.Rows.SetFrom
import PyProof.Rows.SeqMore2
import KE.RegKIsAll
import PyProof.StrWalks
import PyProof.EnumMake
import PyProof.Conv_int
import PyProof.Conv_int_bool
import PyProof.StrBlockI
import PyProof.Draws
import PySem.Challenge.RW_farcuts_k36_cuts_looked_at
set_option Elab.async false
set_option linter.all false
set_option maxRecDepth 100000
set_option genSizeOfSpec false
set_option genInjectivity false
/-! THE HAND LAYER, for ints, bools, texts, own classes, LISTS and tuples (index, slices, in, append, pop ..), calls, loops. Paste it whole ahead of your own text; what your proof does not reach may be deleted. -/
open Array renaming map_extract->XC,map_append->XM,size_map->XX,map_push->Qy,map_reverse->QM,getElem?_toList->JR,length_toList->Bm,map->Uu
open Bool renaming and_eq_true->Xo,false_ne_true->XF,false_eq_true->By
open False renaming elim->Vo
open ForInStep renaming yield->JL
open Int renaming toNat_natCast->Qj,gcd->JH,ne_of_gt->Bh,gcd_eq_natAbs_gcd_natAbs->Bl,natAbs_ediv_le_natAbs->Vv,dvd_trans->VD,natAbs_natCast->VL,zero_add->Uy
open List renaming length_map->Xg,getD_eq_getElem?_getD->Xh,getElem?_eq_getElem->Xi,getElem?_eq_some_iff->Xk,getElem?_map->Xm,range->Xn,mem_cons->Xu,size_toArray->Xv,length_range->Xw,replicate->Xy,map_congr_left->Xz,mem_of_getElem?->XR,mem_singleton->Qd,getElem?_eq_none_iff->Qg,mem_map->Qi,map_cons->Ql,mem_append_right->Qq,Nodup->Qs,map_append->Qu,getElem?_set_ne->Qw,map_map->Qx,mem_range->QH,length_append->QJ,length_drop->QL,getElem?_set_self->QQ,getElem?_range->QW,nodup_cons->Q0,mem_append->Q3,lookup_cons->Q4,filterMap_cons->Q8,getElem?_of_mem->Q9,getElem?_eq_none->JC,append_nil->JQ,length_cons->Ba,getElem_mem->Bb,toArray->Bf,drop_eq_nil_of_le->Bq,length_take->Bv,getElem?_append_right->Bx,getElem?_append_left->BR,mem_append_left->BW,replicate_succ->Vb,take_length->Vc,all_eq_true->Vd,length_replicate->Vj,take_succ->Vq,drop_eq_getElem_cons->Vu,any_cons->Vw,mem_filter->Vy,length_set->Vz,find?_cons->VB,map_singleton->VF,getElem?_replicate->VJ,nodup_append->V0,forIn_nil->V1,flatten_cons->V2,append_assoc->V3,not_mem_nil->V7,take_nil->Ub,drop_nil->Uc,mem_cons_of_mem->Ug,eq_nil_of_length_eq_zero->Uh,range_succ->Uk,forIn_cons->Ul,length_pos_iff->Ur,mem_cons_self->UG,getElem?_drop->UJ,getElem?_zip_eq_some->U5,getElem?_nil->U7
open Nat renaming ne_of_lt->Xp,ne_of_gt->XN,le_refl->X6,lt_of_lt_of_le->Qe,le_trans->Qt,not_lt_zero->QB,zero_le->QV,lt_irrefl->JP,lt_succ_self->Ve,lt_trans->Vh,le_add_right->Vt,zero_add->Uw,lt_or_ge->Ux
open Ne renaming symm->Vi
open Option renaming bind_some->Xe,map_some->Qa,map_none->Qp,some->Bo,isSome_iff_exists->U4
open Option.some renaming inj->QC
open Or renaming inr->QG,inl->QS
open PyProof.Rows renaming seqObj->Q5,IntsAre->Bg,callWith_type1->Bj,SortSt->Bs,SortKind->Bw,Keyed->VG,pairsOf->VR,pendingOf->V6,KeysIn->Ud,slot_tupleiter_next->U0
open PyProof.Rows.SortSt renaming mk'->Bu
open PySem renaming PyData->Xa,Value->Xc,Shared->Xd,wpAny_bind->Xf,starEach->Xq,sizeLine->Xr,FuncData->Xx,Program->XH,wpAny->XQ,wpAny_loadPart'->X4,wpAny_pure->X5,model->X7,sizeLine_eq->Qc,mainGlobals->Qh,Around->Qk,bootBuiltins->Qm,World->Qo,assignEach->JF,mem_of_lookup->JN,compareOp->JS,cellsFrom->JT,sliceBounds->JX,NameKind->Bk,foldedSetIterable->Bp,wpAny_mono->Br,IsPair->BJ,wpAny_field->BK,pushCells->BP,backTo->BV,wpAny_seqItems->Vf,SetTable->Vg,wpAny_setField_rec->Vk,wpAny_passesOwn->Vm,wpAny_call_entry->Vx,wpAny_holding->VM,binaryOp->VN,Builtin->V4,wpAny_callSpecial?_slot->V5,wpAny_truthy_bool->V9,wpAny_loadPart_at->Ua,cLine->Ui,Scope->Uj,swapsWith->Uo,assign->Uq,behindInMarks->Ut,pushCells_keeps->UT,letOwnedTupleGo->UV,codeAny_builtin->UW
open PySem.Around renaming under_plainId->V8
open PySem.Builtin.Int renaming intBits->JG,intTooBig->U9
open PySem.Builtin.List renaming listTooLong->Um
open PySem.Builtin.Range renaming rangeSize->Vr
open PySem.Builtin.SmallTypes renaming nextOf->QR,ownedTupleIsFree->JW,ownedTupleHandOut->UL
open PySem.Heap renaming get?_push_of_some->Xj,lt_size->XD,get?_push_size->X3,size_push->JD,SameBut->Vs,get?_update_ne->Us,get?_push_ne->U8
open PySem.MeetsSeq3 renaming plain_eq_loop->Vp
open PySem.NameKind renaming free->QZ,cell->JV
open PySem.Obj renaming mapSeq->QD
open PySem.PassesOwn renaming never->X8
open PySem.PyData renaming int->Xl,eqv->Qz,list->QT,canLayAll0->JK,canLay0->Be,depthAll->Ue,eqvAll->U3
open PySem.SeqAt renaming EqAt->JM,shaped->Bc,canLay_of_shaped->VP
open PySem.SetTable renaming below->JZ
open PySem.Value renaming none->QK,ref->QX,bool->Uv,builtin->U6
open PySem.W renaming Frag->Xb,kas_item->XJ,mg_none_of->QF,nsIn->Q6,kia_one->Q7,Looks->JB,kitOne->BX,keepIn->BZ,findIn->Va,fnOf->Vn
open Rat renaming divInt->Qn,divInt_eq_div->Vl,num_divInt_den->VH
open True renaming intro->Uz
namespace L2
open PySem PySem.Spec PyProof.Rows
noncomputable abbrev Key:=Sum Int Str
noncomputable def Z2g:Key->Xc->Bool
 | .inl k,v=>Xc.isInt k v
 | .inr x,v=>Xc.isStrOf x v
noncomputable def Ydw(w:Qo):Key->Int
 | .inl k=>hashInt k
 | .inr x=>hashStr w x
theorem Wk:∀{k:Key} {v:Xc},Z2g k v=true->(∃i t,k=Sum.inl i∧v=Value.int i t)∨(∃x t,k=Sum.inr x∧v=Value.str x t)
 | .inl i,v,h=>by
  obtain⟨t,e⟩:=Value.isInt_shape (k:=i) (v:=v) h
  exact .inl ⟨i,t,rfl,e⟩
 | .inr x,v,h=>by
  obtain⟨t,e⟩:=Xc.isStrOf_shape (x:=x) (v:=v) h
  exact .inr ⟨x,t,rfl,e⟩
theorem Z2a(a b:Int):decide ((Sum.inl a:Key)=Sum.inl b)=(a==b):=by
 by_cases e:a=b
 ·subst e;simp
 ·have h:¬(Sum.inl a:Key)=Sum.inl b:=λq=>e (Sum.inl.inj q)
  rw[decide_eq_false h]
  exact(beq_eq_false_iff_ne.mpr e).symm
theorem Z5y(a b:Str):decide ((Sum.inr a:Key)=Sum.inr b)=decide (a=b):=by
 by_cases e:a=b
 ·subst e;simp
 ·have h:¬(Sum.inr a:Key)=Sum.inr b:=λq=>e (Sum.inr.inj q)
  rw[decide_eq_false h,decide_eq_false e]
theorem Z24(a:Int)(b:Str):decide ((Sum.inl a:Key)=Sum.inr b)=false:=decide_eq_false (λq=>nomatch q)
theorem Z3h(a:Str)(b:Int):decide ((Sum.inr a:Key)=Sum.inl b)=false:=decide_eq_false (λq=>nomatch q)
noncomputable def Zm9(prog:XH)(w:Qo):PySem.KeyKind prog w Key where
 is:=Z2g
 hash:=Ydw w
 inj:=λv a b ha hb=>by
  rcases Wk ha with⟨i,t,rfl,rfl⟩|⟨x,t,rfl,rfl⟩
  ·rcases Wk hb with⟨j,u,rfl,e⟩|⟨y,u,rfl,e⟩
   ·injection e with e1 _;rw[e1]
   ·exact nomatch e
  ·rcases Wk hb with⟨j,u,rfl,e⟩|⟨y,u,rfl,e⟩
   ·exact nomatch e
   ·injection e with e1 _;rw[e1]
 byValue:=λk v h=>by
  rcases Wk h with⟨i,t,rfl,rfl⟩|⟨x,t,rfl,rfl⟩<;>rfl
 pyHash:=λhv h=>by
  rcases Wk hv with⟨i,t,rfl,rfl⟩|⟨x,t,rfl,rfl⟩
  ·exact wpAny_pyHash_int h
  ·exact wpAny_pyHash_str h
 eqBool:=λhu hv h=>by
  rcases Wk hu with⟨i,t,rfl,rfl⟩|⟨x,t,rfl,rfl⟩
  ·rcases Wk hv with⟨j,u,rfl,rfl⟩|⟨y,u,rfl,rfl⟩
   ·rw[Z2a]at h;exact wpAny_eqBool_int h
   ·rw[Z24]at h;exact SeqAt.EqAt.int_str i t y u _ _ _ _ h
  ·rcases Wk hv with⟨j,u,rfl,rfl⟩|⟨y,u,rfl,rfl⟩
   ·rw[Z3h]at h;exact SeqAt.EqAt.str_int x t j u _ _ _ _ h
   ·rw[Z5y]at h;exact wpAny_eqBool_str h
 «strs»:=λk x t v h=>by
  rcases Wk h with⟨i,u,rfl,e⟩|⟨y,u,rfl,e⟩
  ·exact nomatch e
  ·injection e with e1 _
   subst e1
   cases v<;>rfl
inductive V where
 | non|bl (b:Bool)|int (i:Int)|str (x:Str)|byt (b:Array UInt8)|flt (b:UInt64)|ref (a:Addr)|ty (n:String)
noncomputable def RelV:V->Xc->Prop
 | .non,u=>u=QK
 | .bl b,u=>u=Uv b
 | .int i,u=>∃t,u=Value.int i t
 | .str x,u=>∃t,u=Value.str x t
 | .byt b,u=>∃t,u=Xc.bytes b t
 | .flt b,u=>∃t,u=Xc.float b t
 | .ref a,u=>u=QX a
 | .ty n,u=>u=Xc.type n
noncomputable abbrev Vals:List V->List Xc->Prop:=Paired RelV
theorem Vals.length{xs:List V}{us:List Xc}(r:Vals xs us):xs.length=us.length:=Paired.length r
theorem Vals.get{xs:List V}{us:List Xc}{i:Nat}{x:V}(h:Vals xs us)(e:xs[i]? =some x):∃u,us[i]? =some u∧RelV x u:=by
 induction h generalizing i with
 | nil=>exact(Option.some_ne_none _ (e.symm.trans U7)).elim
 | cons r t ih=>
  cases i with
  | zero=>exact⟨_,rfl,QC e▸r⟩
  | succ i=>exact ih e
theorem Vals.set{x:V}{u:Xc}(r:RelV x u){xs:List V}{us:List Xc}(i:Nat)(h:Vals xs us):Vals (xs.set i x) (us.set i u):=by
 induction h generalizing i with
 | nil=>exact .nil
 | cons q t ih=>
  cases i with
  | zero=>exact .cons r t
  | succ i=>exact .cons q (ih i)
theorem Vals.append{xs ys:List V}{us ws:List Xc}(h:Vals xs us)(s:Vals ys ws):Vals (xs ++ ys) (us ++ ws):=by
 induction h with
 | nil=>exact s
 | cons r t ih=>exact .cons r ih
theorem Vals.take{xs:List V}{us:List Xc}(n:Nat)(h:Vals xs us):Vals (xs.take n) (us.take n):=by
 induction h generalizing n with
 | nil=>rw[Ub,Ub];exact .nil
 | cons r t ih=>
  cases n with
  | zero=>exact .nil
  | succ n=>exact .cons r (ih n)
theorem Vals.drop{xs:List V}{us:List Xc}(n:Nat)(h:Vals xs us):Vals (xs.drop n) (us.drop n):=by
 induction h generalizing n with
 | nil=>rw[Uc,Uc];exact .nil
 | cons r t ih=>
  cases n with
  | zero=>exact .cons r t
  | succ n=>exact ih n
noncomputable def RelO:Option V->Option Xc->Prop
 | some v,some u=>RelV v u
 | none,none=>True
 | _,_=>False
noncomputable def KV{κ:Type}:List (κ×V)->List (κ×Xc)->Prop:=Paired λ(p:κ×V) (q:κ×Xc)=>p.1=q.1∧RelV p.2 q.2
noncomputable def kV:Key->V
 | .inl i=>.int i
 | .inr x=>.str x
inductive HO where
  | lst (xs:List V)
  | tup (xs:List V)
  | dK (kvs:List (Key×V))|dT (kvs:List (List Key×V))
  | set (S:Int->Bool) (n:Nat)
  | ins (C dx:Addr) (fs:List (Str×V))
  | own (x:Addr)
  | xd (fs:List (Str×V))
  | met (f x:Addr)
  | rng (lo hi:Int)
  | frz (o:Obj) (u:HO)
  | tbl (ps:Array Xc)
  | ext (φ:Heap->Prop)
noncomputable abbrev Hp:=Addr->Option HO
noncomputable def upd(H:Hp)(a:Addr)(o:HO):Hp:=λb=>if b=a then some o else H b
theorem Yn{H:Hp}{a:Addr}{o:HO}:upd H a o a=some o:=by unfold upd;rw[if_pos rfl]
theorem Z6{H:Hp}{a b:Addr}{o:HO}(h:b≠a):upd H a o b=H b:=by unfold upd;rw[if_neg h]
theorem Wd{H:Hp}{a b:Addr}{o:HO}(h:H a=some o)(h':H b=none):a≠b:=by
 intro e;subst e;rw[h]at h';cases h'
section
variable (P:XH)(w:Qo)
noncomputable def ObjOk(H:Hp)(h:Heap)(a:Addr):HO->Prop
 | .lst xs=>xs.length≤Xr∧∃(its:List Xc) (n:Nat),Vals xs its∧h.get? a=some { cls:=.type "list",data:=.seq its.toArray n }
 | .tup xs=>xs.length≤Xr∧∃its:List Xc,Vals xs its∧IsTup h a its.toArray
 | .dK kvs=>kvs.length≤Xr∧(a==sysModules)=false∧∃vs,KV kvs vs∧h.DictOf (Zm9 P w) a vs
 | .dT kvs=>kvs.length≤Xr∧(a==sysModules)=false∧∃xs:List (List Key×Addr×Xc),
   Paired (λ(p:List Key×V) (q:List Key×Addr×Xc)=>p.1=q.1∧H q.2.1=some (.tup (p.1.map kV))∧RelV p.2 q.2.2) kvs xs∧
   ∃o es ep,h.get? a=some o∧o.ExactDict∧o.data= .dict es ep∧es.toList=xs.map (entryOfKey (tupleKind (Zm9 P w)))∧(xs.map (·.1)).Nodup
 | .set S n=>h.SetOf (intKind P w) a S n
 | .ins C dx fs=>H dx=some (.own a)∧fs.length≤1000∧dx≠a∧h.get? a=some (PySem.W.instObj C dx)∧
   ∃mA,h.Ns1 dx mA∧(∀f,RelO (fs.lookup f) (mA f))∧PySem.Within mA (fs.map (·.1))
 | .own _=>∃o,h.get? a=some o
 | .xd fs=>∃mA,h.Ns1 a mA∧∀f,RelO (fs.lookup f) (mA f)
 | .rng lo hi=>∃t u v,h.get? a=some { cls:=.type "range",data:=.fields #[.int lo t,.int hi u,.int 1 v] }
 | .frz o u=>h.get? a=some o∧ObjOk H h a u
 | .tbl ps=>h.get? a=some { cls:=.none,data:=.fields ps }
 | .met f x=>h.get? a=some (PySem.W.methodObj (.ref f) (.ref x))
 | .ext φ=>φ h∧(∃o,h.get? a=some o)∧∀h1 h2:Heap,φ h1->(∀o,h1.get? a=some o->h2.get? a=some o)->φ h2
noncomputable def HOk(H:Hp)(h:Heap):Prop:=∀a o,H a=some o->ObjOk P w H h a o
end
section
variable {P:XH}{w:Qo}{H H':Hp}{h h':Heap}{a:Addr}{o:HO}
theorem ObjOk.lt(x:ObjOk P w H h a o):a<h.objs.size:=by
 cases o with
 | lst xs=>obtain⟨_,_,_,_,e⟩:=x;exact XD e
 | tup xs=>obtain⟨_,_,_,p⟩:=x;exact p.lt
 | dK kvs=>obtain⟨_,_,_,_,o,_,_,e,_⟩:=x;exact XD e
 | dT kvs=>obtain⟨_,_,_,_,o,_,_,e,_⟩:=x;exact XD e
 | set S n=>obtain⟨o,_,_,_,e,_⟩:=x;exact XD e
 | ins C dx fs=>obtain⟨_,_,_,e,_⟩:=x;exact XD e
 | own y=>obtain⟨_,e⟩:=x;exact XD e
 | xd fs=>obtain⟨_,⟨_,_,_,e,_⟩,_⟩:=x;exact XD e
 | rng lo hi=>obtain⟨_,_,_,e⟩:=x;exact XD e
 | frz ob u=>obtain⟨e,_⟩:=x;exact XD e
 | tbl ps=>exact XD (show h.get? a=some _ from x)
 | met f y=>exact XD (show h.get? a=some _ from x)
 | ext φ=>obtain⟨_,⟨_,e⟩,_⟩:=x;exact XD e
theorem Paired.mapP{α β:Type}{F G:α->β->Prop}{l₁:List α}{l₂:List β}(h:Paired F l₁ l₂)(f:∀a b,F a b->G a b):Paired G l₁ l₂:=by
 induction h with
 | nil=>exact .nil
 | cons r t ih=>exact .cons (f _ _ r) ih
theorem ObjOk.stay(x:ObjOk P w H h a o)(k:∀b u,(b=a∨H b=some (.own a))->h.get? b=some u->h'.get? b=some u)
  (ho:∀b,H b=some (.own a)->H' b=some (.own a)) (ht:∀b xs,H b=some (.tup xs)->H' b=some (.tup xs)):ObjOk P w H' h' a o:=by
 induction o with
 | lst xs=>obtain⟨z,its,n,r,e⟩:=x;exact⟨z,its,n,r,k _ _ (.inl rfl) e⟩
 | tup xs=>obtain⟨z,its,r,ob,e,c⟩:=x;exact⟨z,its,r,ob,k _ _ (.inl rfl) e,c⟩
 | dK kvs=>obtain⟨z,y,vs,r,ob,es,ep,e,c⟩:=x;exact⟨z,y,vs,r,ob,es,ep,k _ _ (.inl rfl) e,c⟩
 | dT kvs=>
  obtain⟨z,y,xs,r,ob,es,ep,e,c⟩:=x
  exact⟨z,y,xs,Paired.mapP r λp q z=>⟨z.1,ht _ _ z.2.1,z.2.2⟩,ob,es,ep,k _ _ (.inl rfl) e,c⟩
 | set S n=>obtain⟨ob,es,ep,t,e,c⟩:=x;exact⟨ob,es,ep,t,k _ _ (.inl rfl) e,c⟩
 | ins C dx fs=>
  obtain⟨d,z,ne,e,mA,⟨od,es,ep,e2,c⟩,r⟩:=x
  exact⟨ho _ d,z,ne,k _ _ (.inl rfl) e,mA,⟨od,es,ep,k _ _ (.inr d) e2,c⟩,r⟩
 | own y=>obtain⟨ob,e⟩:=x;exact⟨ob,k _ _ (.inl rfl) e⟩
 | xd fs=>obtain⟨mA,⟨od,es,ep,e,c⟩,r⟩:=x;exact⟨mA,⟨od,es,ep,k _ _ (.inl rfl) e,c⟩,r⟩
 | rng lo hi=>obtain⟨t,u,v,e⟩:=x;exact⟨t,u,v,k _ _ (.inl rfl) e⟩
 | frz ob u ih=>obtain⟨e,q⟩:=x;exact⟨k _ _ (.inl rfl) e,ih q⟩
 | tbl ps=>
  have e:h.get? a=some { cls:=.none,data:=.fields ps }:=x
  show h'.get? a=some { cls:=.none,data:=.fields ps }
  exact k a _ (.inl rfl) e
 | met f y=>
  have e:h.get? a=some (PySem.W.methodObj (.ref f) (.ref y)):=x
  show h'.get? a=some (PySem.W.methodObj (.ref f) (.ref y))
  exact k a _ (.inl rfl) e
 | ext φ=>obtain⟨p,⟨o,e⟩,st⟩:=x;exact⟨st _ _ p λo q=>k _ _ (.inl rfl) q,⟨o,k _ _ (.inl rfl) e⟩,st⟩
theorem HOk.lt(x:HOk P w H h)(e:H a=some o):a<h.objs.size:=(x a o e).lt
theorem HOk.fresh(x:HOk P w H h)(e:h.objs.size≤a):H a=none:=by
 cases q:H a with
 | none=>rfl
 | some u=>exact absurd (Qe (x.lt q) e) (JP _)
theorem HOk.kept(x:HOk P w H h)(k:∀b u,h.get? b=some u->h'.get? b=some u):HOk P w H h':=λa o e=>
 (x a o e).stay (λb u _ q=>k b u q) (λ_ q=>q) λ_ _ q=>q
theorem HOk.laid(x:HOk P w H h)(k:∀b u,h.get? b=some u->h'.get? b=some u)(hp:h.objs.size≤a)(new:ObjOk P w (upd H a o) h' a o):HOk P w (upd H a o) h':=λb u e=>by
 have hn:=x.fresh hp
 by_cases hb:b=a
 ·subst hb;rw[Yn]at e;cases e;exact new
 ·rw[Z6 hb]at e
  exact(x b u e).stay (λc v _ q=>k c v q) (λc q=>by rw[Z6 (Wd q hn)];exact q) λc xs q=>by rw[Z6 (Wd q hn)];exact q
end
noncomputable def Rd(H:Hp)(a:Addr)(u:HO):Prop:=H a=some u∨∃o,H a=some (.frz o u)
theorem Rd.ok{P:XH}{w:Qo}{H:Hp}{h:Heap}{a:Addr}{u:HO}(r:Rd H a u)(x:HOk P w H h):ObjOk P w H h a u:=by
 rcases r with r|⟨o,r⟩
 ·exact x a u r
 ·obtain⟨_,q⟩:=x a _ r
  exact q
noncomputable def Mut:Option HO->Prop
 | some (.lst _)=>True
 | some (.dK _)=>True
 | some (.dT _)=>True
 | some (.set _ _)=>True
 | some (.ins _ _ _)=>True
 | some (.ext _)=>True
 | _=>False
section
variable {P:XH}{w:Qo}{H:Hp}{h h':Heap}{x e:Addr}{o':HO}
theorem HOk.write(ok:HOk P w H h)(mu:Mut (H x))(he:e=x∨H e=some (.own x))(k:∀b u,b≠e->h.get? b=some u->h'.get? b=some u)(heo:∃u,h'.get? e=some u)
  (new:ObjOk P w (upd H x o') h' x o'):HOk P w (upd H x o') h':=λb u q=>by
 have nown:∀c y,H c=some (.own y)->c≠x:=λc y r z=>by subst z;rw[r]at mu;exact mu
 have ntup:∀c xs,H c=some (.tup xs)->c≠x:=λc xs r z=>by subst z;rw[r]at mu;exact mu
 by_cases hb:b=x
 ·subst hb;rw[Yn]at q;cases q;exact new
 ·rw[Z6 hb]at q
  by_cases hbe:b=e
  ·have q':H b=some (.own x):=by
    rcases he with z|z
    ·exact absurd (hbe.trans z) hb
    ·rw[hbe];exact z
   rw[q]at q';cases q'
   obtain⟨v,hv⟩:=heo
   exact⟨v,by rw[hbe];exact hv⟩
  ·refine(ok b u q).stay (λc v hc r=>k c v ?_ r) (λc r=>by rw[Z6 (nown c b r)];exact r) λc xs r=>by rw[Z6 (ntup c xs r)];exact r
   rcases hc with rfl|hc
   ·exact hbe
   ·rintro rfl
    rcases he with z|z
    ·exact nown c b hc z
    ·rw[hc]at z;cases z;exact hb rfl
end
structure Un(fs ex:List Addr)(H H':Hp)(h h':Heap):Prop where
 keep:∀b o,h.get? b=some o->H b=none->b∉fs->b∉ex->h'.get? b=some o
 slot:∀b o,h.get? b=some o->H b=none->b∈fs->b∉ex->∃sl,h'.get? b=some { o with slots:=sl }
 free:∀b o,h.get? b=some o->H b=none->b∉ex->H' b=none
 there:∀b o,h.get? b=some o->b∉ex->∃o',h'.get? b=some o'
 tups:∀b xs,H b=some (.tup xs)->H' b=some (.tup xs)
 frzs:∀b o u,H b=some (.frz o u)->H' b=some (.frz o u)
 tbls:∀b ps,H b=some (.tbl ps)->∃more,H' b=some (.tbl (ps ++ more))
section
variable {fs fs' ex ex':List Addr}{H H1 H2:Hp}{h h1 h2 h':Heap}{a x e:Addr}{o:HO}
theorem Un.any(u:Un fs ex H H1 h h1){b:Addr}{ob:Obj}(q:h.get? b=some ob)(n:H b=none)(hx:b∉ex):∃sl,h1.get? b=some { ob with slots:=sl }:=by
 by_cases hb:b∈fs
 ·exact u.slot b ob q n hb hx
 ·exact⟨ob.slots,u.keep b ob q n hb hx⟩
theorem Un.trans(a:Un fs ex H H1 h h1)(b:Un fs ex H1 H2 h1 h2):Un fs ex H H2 h h2 where
 keep:=λc ob q n hc hx=>b.keep c ob (a.keep c ob q n hc hx) (a.free c ob q n hx) hc hx
 slot:=λc ob q n hc hx=>by
  obtain⟨sl,e1⟩:=a.slot c ob q n hc hx
  obtain⟨sl',e2⟩:=b.slot c _ e1 (a.free c ob q n hx) hc hx
  exact⟨sl',e2⟩
 free:=λc ob q n hx=>by
  obtain⟨o',e1⟩:=a.there c ob q hx
  exact b.free c o' e1 (a.free c ob q n hx) hx
 there:=λc ob q hx=>by
  obtain⟨o',e1⟩:=a.there c ob q hx
  exact b.there c o' e1 hx
 tups:=λc xs q=>b.tups c xs (a.tups c xs q)
 frzs:=λc ob xs q=>b.frzs c ob xs (a.frzs c ob xs q)
 tbls:=λc ps q=>by
  obtain⟨m1,e1⟩:=a.tbls c ps q
  obtain⟨m2,e2⟩:=b.tbls c _ e1
  exact⟨m1 ++ m2,by rw[e2,Array.append_assoc]⟩
theorem Un.kept(k:∀b u,h.get? b=some u->h'.get? b=some u):Un fs ex H H h h' :=
 ⟨λb ob q _ _ _=>k b ob q,λb ob q _ _ _=>⟨ob.slots,k b ob q⟩,λ_ _ _ n _=>n,λb ob q _=>⟨ob,k b ob q⟩,λ_ _ q=>q,λ_ _ _ q=>q,λ_ ps q=>⟨#[],by rw[q];simp⟩⟩
theorem Un.refl:Un fs ex H H h h:=Un.kept λ_ _ q=>q
theorem Un.laid(k:∀b u,h.get? b=some u->h'.get? b=some u)(hp:h.objs.size≤a)(hn:H a=none):Un fs ex H (upd H a o) h h' where
 keep:=λb u q _ _ _=>k b u q
 slot:=λb u q _ _ _=>⟨u.slots,k b u q⟩
 free:=λb u q n _=>by rw[Z6 (Xp (Qe (XD q) hp))];exact n
 there:=λb u q _=>⟨u,k b u q⟩
 tups:=λb xs q=>by rw[Z6 (Wd q hn)];exact q
 frzs:=λb u xs q=>by rw[Z6 (Wd q hn)];exact q
 tbls:=λb ps q=>⟨#[],by rw[Z6 (Wd q hn),q];simp⟩
theorem Un.write(mu:Mut (H x))(he:e=x∨H e=some (.own x))(k:∀b u,b≠e->h.get? b=some u->h'.get? b=some u)(heo:∃u,h'.get? e=some u):Un fs ex H (upd H x o) h h':=by
 have hx:∀b,H b=none->b≠x:=λb n z=>by subst z;rw[n]at mu;exact mu
 have hb:∀b,H b=none->b≠e:=λb n z=>by
  subst z
  rcases he with r|r
  ·exact hx b n r
  ·rw[n]at r;cases r
 have hm:∀b u,H b=some u->¬Mut (some u)->b≠x:=λb u q nm z=>by subst z;rw[q]at mu;exact nm mu
 refine⟨λb u q n _ _=>k b u (hb b n) q,λb u q n _ _=>⟨u.slots,k b u (hb b n) q⟩,λb u q n _=>by rw[Z6 (hx b n)];exact n,λb u q _=>?_,
  λb xs q=>by rw[Z6 (hm b _ q λz=>z)];exact q,λb u xs q=>by rw[Z6 (hm b _ q λz=>z)];exact q,λb ps q=>⟨#[],by rw[Z6 (hm b _ q λz=>z),q];simp⟩⟩
 by_cases hbe:b=e
 ·subst hbe;exact heo
 ·exact⟨u,k b u hbe q⟩
theorem Un.mono(u:Un fs ex H H1 h h1)(hs:∀b∈fs,b∈fs')(hx:∀b∈ex,b∈ex'):Un fs' ex' H H1 h h1 :=
 ⟨λb ob q n hb he=>u.keep b ob q n (λz=>hb (hs b z)) λz=>he (hx b z),λ_ _ q n _ he=>u.any q n λz=>he (hx _ z),λb ob q n he=>u.free b ob q n λz=>he (hx b z),λb ob q he=>u.there b ob q λz=>he (hx b z),u.tups,u.frzs,u.tbls⟩
end
noncomputable def trk(h:Heap)(H:Hp):List Addr:=(Xn h.objs.size).filter λa=>(H a).isSome
noncomputable def Zwi(h:Heap)(H:Hp):Heap:=PySem.W.hideAll h (trk h H)
theorem Zsb(h:Heap)(H:Hp):(Zwi h H).objs.size=h.objs.size:=PySem.W.hideAll_size _ _
theorem Zwq{h:Heap}{H:Hp}{b:Addr}{o:Obj}(e:h.get? b=some o)(n:H b=none):(Zwi h H).get? b=some o :=
 PySem.W.hideAll_get _ e λhm=>by
  have q:(H b).isSome=true:=(Vy.mp hm).2
  rw[n]at q;simp at q
theorem Zyh{h:Heap}{H:Hp}{b:Addr}{o:Obj}(e:(Zwi h H).get? b=some o):h.get? b=some o∧H b=none:=by
 have e':h.get? b=some o:=PySem.W.of_hideAll (trk h H) e
 refine⟨e',?_⟩
 cases q:H b with
 | none=>rfl
 | some x=>
  have hm:b∈trk h H:=Vy.mpr ⟨QH.mpr (XD e'),by simp[q]⟩
  have z:(Zwi h H).get? b=none:=PySem.W.hideAll_none (trk h H) hm
  rw[z]at e;cases e
noncomputable def Z0e(g h:Heap)(L:Addr):List (Addr×Obj):=(Xn h.objs.size).filterMap λa=>if a=L∨(g.get? a).isSome=true then none else(h.get? a).map λo=>(a,o)
noncomputable def rest(g h:Heap)(L d:Addr):List (Addr×Obj):=(Z0e g h L).filter λp=>decide (p.1≠d)
structure Mod(K:Xb)(mg:Str->Option Xc)(base:Heap):Prop where
 kin:K.In base
 glob:base.Ns Qh mg
 blt:∃mb,base.Ns builtinsNs mb∧∀x:Str,x≠"__name__" ->mb x=Qm x
 nolimit:base.NoLimit
set_option genInjectivity false in
structure Cx where
 prog:XH
 w:Qo
 K:Xb
 mg:Str->Option Xc
 base:Heap
 A:Qk
 N:List Str
 s₀:Xd
 H₀:Hp
 env:Env
 outer:List Env
 stack:List Env
 ex:List Addr
 fn:Str->Bool
 calm:Bool
 pn:List (Addr×Obj)
 xe:Xc->Xd->Prop
noncomputable def frs(l:List Env):List Addr:=l.filterMap (·.frame)
noncomputable abbrev Cx.fs(X:Cx):List Addr:=frs X.outer
noncomputable def Vis(sc:Uj)(x:Str):Prop:=sc.names.lookup x=some .local∨sc.names.lookup x=some .cell∨sc.names.lookup x=some .free
noncomputable def Loc(sc:Uj)(x:Str):Prop:=sc.names.lookup x=some .local∨sc.names.lookup x=some .cell
noncomputable def Look(env:Env)(h:Heap)(m:Str->Option Xc)(x:Str)(u:Xc):Prop :=
 (env.kindOf x=some .local∧m x=some u)∨((env.kindOf x=some .cell∨env.kindOf x=some .free)∧∃c,env.cells.lookup x=some c∧h.IsCell c (some u))
structure Cx.Ok(X:Cx):Prop where
 mod:Mod X.K X.mg X.base
 kind:X.env.scope.kind= .function
 glob:X.env.globals=Qh
 blt:X.env.builtins=builtinsNs
 above:X.s₀.heap.objs.size≤X.env.locals
 inj:∀x y c,X.env.cells.lookup x=some c->X.env.cells.lookup y=some c->x=y
 has:∀x,(X.env.kindOf x=some .cell∨X.env.kindOf x=some .free)->∃c,X.env.cells.lookup x=some c
 cab:∀x c,X.fn x=true->X.env.cells.lookup x=some c->X.s₀.heap.objs.size≤c
 hd:X.calm=true->X.A.handled=none
 frames:X.A.frames=some X.stack
 stk:X.stack=X.outer∨(X.stack=X.env :: X.outer∧X.env.frame=some X.env.locals)
 exf:∀b∈X.ex,b≠X.env.locals∧∀x c,X.env.cells.lookup x=some c->c≠b
 bs:∀b o,X.base.get? b=some o->X.s₀.heap.get? b=some o∧X.H₀ b=none
 bsz:X.base.objs.size≤X.s₀.heap.objs.size
 noex:∀b o,X.base.get? b=some o->b∉X.ex
 exfs:∀b∈X.ex,b∉X.fs
 funs:X.s₀.heap.FunFrames X.base X.outer
 frf:∀b∈X.fs,X.H₀ b=none
structure Inv(X:Cx)(pins:List (Addr×Obj))(σ:List (Option V))(H:Hp)(s:Xd):Prop where
 ok:X.Ok
 os:s.os=X.s₀.os
 bare:AllBare s.gens
 base:Un X.fs X.ex X.H₀ H X.s₀.heap s.heap
 loc:∃m,s.heap.Ns X.env.locals m∧∀(i:Nat) (x:Str) (v:V),X.N[i]? =some x->σ[i]? =some (some v)->Vis X.env.scope x->∃u,RelV v u∧Look X.env s.heap m x u
 cell:∀x c,X.env.cells.lookup x=some c->∃v,s.heap.IsCell c v
 free:H X.env.locals=none
 freeC:∀x c,X.env.cells.lookup x=some c->H c=none
 pin:∀p∈X.pn ++ pins,s.heap.get? p.1=some p.2∧H p.1=none∧p.1≠X.env.locals∧p.1∉X.fs∧∀v,p.2.data≠ .cell v
 hok:HOk X.prog X.w H s.heap
 len:σ.length=X.N.length
section
variable {X:Cx}{pins:List (Addr×Obj)}{σ:List (Option V)}{H H':Hp}{s:Xd}{h':Heap}
theorem Cx.Ok.nofr(ok:X.Ok){b:Addr}{o:Obj}(e:X.base.get? b=some o):b∉X.fs:=λhb=>by
 have:=(ok.funs.mem hb).1
 rw[e]at this;cases this
theorem Inv.bs(I:Inv X pins σ H s):∀b o,X.base.get? b=some o->s.heap.get? b=some o∧H b=none:=λb o e=>
 ⟨I.base.keep b o (I.ok.bs b o e).1 (I.ok.bs b o e).2 (I.ok.nofr e) (I.ok.noex b o e),I.base.free b o (I.ok.bs b o e).1 (I.ok.bs b o e).2 (I.ok.noex b o e)⟩
theorem Inv.bk(I:Inv X pins σ H s):∀b o,X.base.get? b=some o->s.heap.get? b=some o:=λb o e=>(I.bs b o e).1
theorem Inv.mod(I:Inv X pins σ H s):Mod X.K X.mg X.base:=I.ok.mod
theorem Inv.kIn(I:Inv X pins σ H s):X.K.In s.heap:=I.ok.mod.kin.keeps I.bk
theorem Inv.lt(I:Inv X pins σ H s):X.env.locals<s.heap.objs.size:=let⟨_,hn,_⟩:=I.loc;hn.lt
theorem Inv.sz(I:Inv X pins σ H s):X.s₀.heap.objs.size≤s.heap.objs.size:=Qt I.ok.above (Nat.le_of_lt I.lt)
theorem Inv.nofs(I:Inv X pins σ H s){a:Addr}(h:s.heap.objs.size≤a):a∉X.fs:=λhb=>by
 obtain⟨_,o,ho,_⟩:=I.ok.funs.mem hb
 exact absurd (Qe (XD ho) (Qt I.sz h)) (JP _)
theorem Inv.cne(I:Inv X pins σ H s):∀x c,X.env.cells.lookup x=some c->c≠X.env.locals:=λx c e z=>by
 obtain⟨v,o,ho,hd⟩:=I.cell x c e
 obtain⟨m,⟨o',es,ep,ho',hd',_⟩,_⟩:=I.loc
 rw[z,ho']at ho;cases ho;rw[hd']at hd;cases hd
theorem Inv.funs(I:Inv X pins σ H s):s.heap.FunFrames X.base X.outer:=by
 have all:∀(l:List Env),(∀b∈frs l,b∈X.fs)->X.s₀.heap.FunFrames X.base l->s.heap.FunFrames X.base l:=by
  intro l
  induction l with
  | nil=>intro _ _;trivial
  | cons env r ih=>
   intro hs hl
   obtain⟨hk,⟨L,o,hf,hn,ho,hd⟩,hr⟩:=hl
   have hL:L∈X.fs:=hs L (by unfold frs;rw[Q8,hf];exact UG)
   obtain⟨sl,e⟩:=I.base.slot L o ho (I.ok.frf L hL) hL λz=>I.ok.exfs L z hL
   exact⟨hk,⟨L,_,hf,hn,e,hd⟩,ih (λb hb=>hs b (by unfold frs;rw[Q8,hf];exact Ug _ hb)) hr⟩
 exact all X.outer (λ_ hb=>hb) I.ok.funs
theorem Inv.stack(I:Inv X pins σ H s):s.heap.FunFrames X.base X.stack:=by
 rcases I.ok.stk with e|⟨e,hf⟩
 ·rw[e];exact I.funs
 ·rw[e]
  obtain⟨m,hn,_⟩:=I.loc
  refine .cons (by rw[I.ok.kind];decide) hf hn ?_ I.funs
  exact Heap.get?_none_of_le (Qt I.ok.bsz I.ok.above)
theorem Inv.stkSub(I:Inv X pins σ H s):∀b∈frs X.stack,b∈X.env.locals :: X.fs:=λb hb=>by
 rcases I.ok.stk with e|⟨e,hf⟩
 ·rw[e]at hb;exact Ug _ hb
 ·rw[e]at hb
  unfold frs at hb
  rw[Q8,hf]at hb
  exact hb
theorem Inv.stkFree(I:Inv X pins σ H s):∀b∈frs X.stack,H b=none:=λb hb=>by
 rcases Xu.mp (I.stkSub b hb)with e|hb
 ·rw[e];exact I.free
 ·obtain⟨_,o,ho,_⟩:=I.ok.funs.mem hb
  exact I.base.free b o ho (I.ok.frf b hb) λz=>I.ok.exfs b z hb
theorem Inv.step{g':Array GenState}{t':Nat}{d':Drawn}{ch:List Addr}(I:Inv X pins σ H s)
  (hch:∀b∈ch,(b∈X.ex∨X.s₀.heap.objs.size≤b)∧b≠X.env.locals∧(∀x c,X.env.cells.lookup x=some c->c≠b)∧∀p∈X.pn ++ pins,p.1≠b)
  (keep:∀b o,b≠X.env.locals->b∉X.fs->b∉ch->s.heap.get? b=some o->H b=none->h'.get? b=some o)
  (slot:∀b o,b≠X.env.locals->b∈X.fs->b∉ch->s.heap.get? b=some o->H b=none->∃sl,h'.get? b=some { o with slots:=sl }) (free:∀b o,b∉ch->s.heap.get? b=some o->H b=none->H' b=none)
  (there:∀b o,b∉ch->s.heap.get? b=some o->∃o',h'.get? b=some o')
  (tups:∀b xs,H b=some (.tup xs)->H' b=some (.tup xs)) (frzs:∀b o u,H b=some (.frz o u)->H' b=some (.frz o u)) (tbls:∀b ps,H b=some (.tbl ps)->∃more,H' b=some (.tbl (ps ++ more)))
  (ns:∀m,s.heap.Ns X.env.locals m->h'.Ns X.env.locals m) (hok:HOk X.prog X.w H' h') (hg:AllBare g') :
  Inv X pins σ H' { s with heap:=h',gens:=g',drawn:=d',toks:=t' }:=by
 have neL:∀b o,X.s₀.heap.get? b=some o->b≠X.env.locals:=λb o e=>Xp (Qe (XD e) I.ok.above)
 have neC:∀b o,X.s₀.heap.get? b=some o->b∉X.ex->b∉ch:=λb o e hx hb=>by
  rcases(hch b hb).1 with z|z
  ·exact hx z
  ·exact absurd (Qe (XD e) z) (JP _)
 have cellK:∀x c,X.env.cells.lookup x=some c->∀v,s.heap.IsCell c v->h'.IsCell c v:=λx c e v ⟨o,ho,hd⟩=>by
  have nch:c∉ch:=λz=>(hch c z).2.2.1 x c e rfl
  by_cases hc:c∈X.fs
  ·obtain⟨sl,q⟩:=slot c o (I.cne x c e) hc nch ho (I.freeC x c e)
   exact⟨_,q,hd⟩
  ·exact⟨o,keep c o (I.cne x c e) hc nch ho (I.freeC x c e),hd⟩
 refine⟨I.ok,I.os,hg,⟨λb o e n hb hx=>?_,λb o e n hb hx=>?_,λb o e n hx=>?_,λb o e hx=>?_,λb xs e=>tups b xs (I.base.tups b xs e),λb o xs e=>frzs b o xs (I.base.frzs b o xs e),λb ps e=>?_⟩,?_,λx c e=>?_,?_,λx c e=>?_,λp hp=>?_,hok,I.len⟩
 ·exact keep b o (neL b o e) hb (neC b o e hx) (I.base.keep b o e n hb hx) (I.base.free b o e n hx)
 ·obtain⟨sl,e1⟩:=I.base.slot b o e n hb hx
  obtain⟨sl',e2⟩:=slot b _ (neL b o e) hb (neC b o e hx) e1 (I.base.free b o e n hx)
  exact⟨sl',e2⟩
 ·obtain⟨o',e1⟩:=I.base.there b o e hx
  exact free b o' (neC b o e hx) e1 (I.base.free b o e n hx)
 ·obtain⟨o',e1⟩:=I.base.there b o e hx
  exact there b o' (neC b o e hx) e1
 ·obtain⟨m1,e1⟩:=I.base.tbls b ps e
  obtain⟨m2,e2⟩:=tbls b _ e1
  exact⟨m1 ++ m2,by rw[e2,Array.append_assoc]⟩
 ·obtain⟨m,hn,hl⟩:=I.loc
  refine⟨m,ns m hn,λi x v e1 e2 e3=>?_⟩
  obtain⟨u,r,l⟩:=hl i x v e1 e2 e3
  refine⟨u,r,?_⟩
  rcases l with l|⟨k,c,e,z⟩
  ·exact .inl l
  ·exact .inr ⟨k,c,e,cellK x c e _ z⟩
 ·obtain⟨v,z⟩:=I.cell x c e
  exact⟨v,cellK x c e v z⟩
 ·obtain⟨m,⟨o,_,_,ho,_⟩,_⟩:=I.loc
  exact free _ o (λz=>(hch _ z).2.1 rfl) ho I.free
 ·obtain⟨v,o,ho,hd⟩:=I.cell x c e
  exact free c o (λz=>(hch c z).2.2.1 x c e rfl) ho (I.freeC x c e)
 ·obtain⟨e,n,ne,nf,d⟩:=I.pin p hp
  have nch:p.1∉ch:=λz=>(hch p.1 z).2.2.2 p hp rfl
  exact⟨keep p.1 p.2 ne nf nch e n,free p.1 p.2 nch e n,ne,nf,d⟩
theorem Inv.un{t':Nat}(I:Inv X pins σ H s)(u:Un X.fs [] H H' s.heap h')(hok:HOk X.prog X.w H' h'):Inv X pins σ H' { s with heap:=h',toks:=t' }:=by
 obtain⟨m,⟨o,es,ep,ho,r⟩,_⟩:=id I.loc
 obtain⟨sl,hL⟩:=u.any ho I.free (by simp)
 exact I.step (g':=s.gens) (d':=s.drawn) (ch:=[]) (λ_ z=>nomatch z) (λb o _ hb _ e n=>u.keep b o e n hb (by simp)) (λb o _ hb _ e n=>u.slot b o e n hb (by simp)) (λb o _ e n=>u.free b o e n (by simp)) (λb o _ e=>u.there b o e (by simp)) u.tups u.frzs u.tbls (λm' hm=>by
  obtain⟨o',es',ep',ho',r'⟩:=hm
  rw[ho]at ho';cases ho'
  exact⟨_,es',ep',hL,r'⟩) hok I.bare
theorem Inv.call{g':Array GenState}{t':Nat}{d':Drawn}{ch:List Addr}(I:Inv X pins σ H s)(u:Un (frs X.stack) ch H H' s.heap h')(hok:HOk X.prog X.w H' h')(hg:AllBare g')
  (hch:∀b∈ch,(b∈X.ex∨X.s₀.heap.objs.size≤b)∧b≠X.env.locals∧(∀x c,X.env.cells.lookup x=some c->c≠b)∧∀p∈X.pn ++ pins,p.1≠b) :
  Inv X pins σ H' { s with heap:=h',gens:=g',drawn:=d',toks:=t' }:=by
 obtain⟨m,⟨o,es,ep,ho,r⟩,_⟩:=id I.loc
 obtain⟨sl,hL⟩:=u.any ho I.free λz=>(hch _ z).2.1 rfl
 exact I.step (ch:=ch) hch (λb o hL hb hc e n=>u.keep b o e n (λz=>(Xu.mp (I.stkSub b z)).elim hL hb) hc) (λb o _ _ hc e n=>u.any e n hc) (λb o hc e n=>u.free b o e n hc) (λb o hc e=>u.there b o e hc) u.tups u.frzs u.tbls (λm' hm=>by
  obtain⟨o',es',ep',ho',r'⟩:=hm
  rw[ho]at ho';cases ho'
  exact⟨_,es',ep',hL,r'⟩) hok hg
theorem Inv.turned{t':Nat}{it:Addr}(I:Inv X pins σ H s)(k:∀b o,b≠it->s.heap.get? b=some o->h'.get? b=some o)(hn:H it=none)(hL:it≠X.env.locals)
  (h1:it∈X.ex∨X.s₀.heap.objs.size≤it) (h2:∀x c,X.env.cells.lookup x=some c->c≠it) (h3:∀p∈X.pn ++ pins,p.1≠it):Inv X pins σ H { s with heap:=h',toks:=t' }:=by
 have nit:∀b u,H b=some u->b≠it:=λb u e z=>by rw[z,hn]at e;cases e
 refine I.step (g':=s.gens) (d':=s.drawn) (ch:=[it]) (λb hb=>?_) (λb o _ _ hc e _=>k b o (λz=>hc (by simp[z])) e) (λb o _ _ hc e _=>⟨o.slots,k b o (λz=>hc (by simp[z])) e⟩) (λ_ _ _ _ n=>n)
  (λb o hc e=>⟨o,k b o (λz=>hc (by simp[z])) e⟩) (λ_ _ e=>e) (λ_ _ _ e=>e) (λb ps e=>⟨#[],by rw[e];simp⟩) (λm hm=>?_) (λb u e=>?_) I.bare
 ·have e:b=it:=by simpa using hb
  subst e
  exact⟨h1,hL,h2,h3⟩
 ·obtain⟨o,es,ep,ho,r⟩:=hm
  exact⟨o,es,ep,k _ o (Vi hL) ho,r⟩
 ·refine(I.hok b u e).stay (λc v hc q=>k c v ?_ q) (λ_ q=>q) λ_ _ q=>q
  rcases hc with z|z
  ·rw[z];exact nit b u e
  ·exact nit c _ z
theorem Inv.tok(I:Inv X pins σ H s)(t:Nat):Inv X pins σ H { s with toks:=t }:=I.un (h':=s.heap) (t':=t) Un.refl I.hok
theorem Inv.kept{t':Nat}(I:Inv X pins σ H s)(k:∀b u,s.heap.get? b=some u->h'.get? b=some u):Inv X pins σ H { s with heap:=h',toks:=t' }:=I.un (Un.kept k) (I.hok.kept k)
theorem Inv.laid{a:Addr}{o:HO}{t':Nat}(I:Inv X pins σ H s)(k:∀b u,s.heap.get? b=some u->h'.get? b=some u)(hp:s.heap.objs.size≤a)(new:ObjOk X.prog X.w (upd H a o) h' a o) :
  Inv X pins σ (upd H a o) { s with heap:=h',toks:=t' }:=I.un (Un.laid k hp (I.hok.fresh hp)) (I.hok.laid k hp new)
theorem Inv.write{x e:Addr}{o:HO}{t':Nat}(I:Inv X pins σ H s)(mu:Mut (H x))(he:e=x∨H e=some (.own x))(k:∀b u,b≠e->s.heap.get? b=some u->h'.get? b=some u)(heo:∃u,h'.get? e=some u)
  (new:ObjOk X.prog X.w (upd H x o) h' x o):Inv X pins σ (upd H x o) { s with heap:=h',toks:=t' }:=I.un (Un.write mu he k heo) (I.hok.write mu he k heo new)
theorem Inv.pins_of{pins':List (Addr×Obj)}(I:Inv X pins σ H s)(h:∀p∈pins',s.heap.get? p.1=some p.2∧H p.1=none∧p.1≠X.env.locals∧p.1∉X.fs∧∀v,p.2.data≠ .cell v):Inv X pins' σ H s :=
 ⟨I.ok,I.os,I.bare,I.base,I.loc,I.cell,I.free,I.freeC,λp hp=>(Q3.mp hp).elim (λz=>I.pin p (BW _ z)) (h p),I.hok,I.len⟩
theorem Zor{N:List Str}(hN:N.Nodup){i j:Nat}{x:Str}(a:N[i]? =some x)(b:N[j]? =some x):i=j:=by
 obtain⟨h1,e1⟩:=Xk.mp a
 obtain⟨h2,e2⟩:=Xk.mp b
 exact(List.getElem_inj hN).mp (e1.trans e2.symm)
theorem Zm2{M:Model}{A:Qk}{E:Xc->Xd->Prop}{i:Nat}{x:Str}{v:V}{u:Xc}{Q:Unit->Xd->Prop}(I:Inv X pins σ H s)(hN:X.N.Nodup)(hi:X.N[i]? =some x)(hx:Loc X.env.scope x)(r:RelV v u)
  (h:∀s',Inv X pins (σ.set i (some v)) H s'->(∃a,Vs a s.heap s'.heap∧(a=X.env.locals∨X.env.cells.lookup x=some a))->Q () s') (hf:X.fn x=true∨X.env.scope.names.lookup x=some .local:=by first|exact .inl rfl|exact .inr rfl|assumption):XQ M A (storeName X.env x u) Q E s:=by
 obtain⟨m,hn,hl⟩:=id I.loc
 have hcls:(X.env.scope.kind== .class||(X.env.scope.kind== .module&&X.env.locals !=X.env.globals))=false:=by rw[I.ok.kind];rfl
 have hiσ:i<σ.length:=by rw[I.len];exact(Xk.mp hi).1
 have cne:=I.cne
 have tracked:∀{a:Addr} {h':Heap},(∃o,s.heap.get? a=some o∧H a=none)->Vs a s.heap h'->HOk X.prog X.w H h':=fun{a h'} ha hs b ob e=>by
  obtain⟨_,_,hfree⟩:=ha
  refine(I.hok b ob e).stay (λc w' hc q=>(hs.2 c ?_).trans q) (λ_ q=>q) λ_ _ q=>q
  rintro rfl
  rcases hc with rfl|hc
  ·rw[hfree]at e;cases e
  ·rw[hfree]at hc;cases hc
 rcases hx with hk|hk
 ·refine wpAny_storeName_local hk hn (λh' hn' hs=>?_) hcls
  obtain⟨oL,_,_,hoL,_⟩:=id hn
  refine h _ ⟨I.ok,I.os,I.bare,⟨λb o e n hb hx=>?_,λb o e n hb hx=>?_,I.base.free,λb o e hx=>?_,I.base.tups,I.base.frzs,I.base.tbls⟩,⟨_,hn',λj y v' e1 e2 e3=>?_⟩,λy c e=>?_,I.free,I.freeC,λp hp=>?_,tracked ⟨oL,hoL,I.free⟩ hs,by simpa using I.len⟩ ⟨_,hs,.inl rfl⟩
  ·exact(hs.2 b (Xp (Qe (XD e) I.ok.above))).trans (I.base.keep b o e n hb hx)
  ·obtain⟨sl,e1⟩:=I.base.slot b o e n hb hx
   exact⟨sl,(hs.2 b (Xp (Qe (XD e) I.ok.above))).trans e1⟩
  ·obtain⟨o',e1⟩:=I.base.there b o e hx
   exact⟨o',(hs.2 b (Xp (Qe (XD e) I.ok.above))).trans e1⟩
  ·by_cases hj:j=i
   ·subst hj
    rw[hi]at e1;cases e1
    rw[QQ hiσ]at e2
    cases e2
    exact⟨u,r,.inl ⟨hk,by simp⟩⟩
   ·rw[Qw (Vi hj)]at e2
    obtain⟨u',r',q⟩:=hl j y v' e1 e2 e3
    refine⟨u',r',?_⟩
    rcases q with⟨k,e⟩|⟨k,c,e,z⟩
    ·refine .inl ⟨k,?_⟩
     have:y≠x:=λe=>hj (Zor hN e1 (e▸hi))
     simp[this,e]
    ·exact .inr ⟨k,c,e,z.sameBut hs (cne y c e)⟩
  ·obtain⟨w',z⟩:=I.cell y c e
   exact⟨w',z.sameBut hs (cne y c e)⟩
  ·obtain⟨e,n,ne,nf,d⟩:=I.pin p hp
   exact⟨(hs.2 p.1 ne).trans e,n,ne,nf,d⟩
 ·have hfn:X.fn x=true:=by
   rcases hf with z|z
   ·exact z
   ·rw[z]at hk;cases hk
  obtain⟨c,hc⟩:=I.ok.has x (.inl hk)
  obtain⟨w',z⟩:=I.cell x c hc
  refine wpAny_storeName_cell I.ok.kind hk hc z (λh' hc' hs=>?_)
  obtain⟨oc,hoc,hocd⟩:=id z
  refine h { s with heap:=h' } ⟨I.ok,I.os,I.bare,⟨λb o e n hb hx=>?_,λb o e n hb hx=>?_,I.base.free,λb o e hx=>?_,I.base.tups,I.base.frzs,I.base.tbls⟩,⟨m,hn.sameBut hs (Vi (cne x c hc)),λj y v' e1 e2 e3=>?_⟩,λy c' e=>?_,I.free,I.freeC,λp hp=>?_,tracked ⟨oc,hoc,I.freeC x c hc⟩ hs,by simpa using I.len⟩ ⟨c,hs,.inr hc⟩
  ·exact(hs.2 b (Xp (Qe (XD e) (I.ok.cab x c hfn hc)))).trans (I.base.keep b o e n hb hx)
  ·obtain⟨sl,e1⟩:=I.base.slot b o e n hb hx
   exact⟨sl,(hs.2 b (Xp (Qe (XD e) (I.ok.cab x c hfn hc)))).trans e1⟩
  ·obtain⟨o',e1⟩:=I.base.there b o e hx
   exact⟨o',(hs.2 b (Xp (Qe (XD e) (I.ok.cab x c hfn hc)))).trans e1⟩
  ·by_cases hj:j=i
   ·subst hj
    rw[hi]at e1;cases e1
    rw[QQ hiσ]at e2
    cases e2
    exact⟨u,r,.inr ⟨.inl hk,c,hc,hc'⟩⟩
   ·rw[Qw (Vi hj)]at e2
    obtain⟨u',r',q⟩:=hl j y v' e1 e2 e3
    refine⟨u',r',?_⟩
    rcases q with q|⟨k,c',e,z'⟩
    ·exact .inl q
    ·refine .inr ⟨k,c',e,z'.sameBut hs ?_⟩
     rintro rfl
     exact hj (Zor hN e1 (I.ok.inj _ _ _ e hc▸hi))
  ·by_cases hcc:c'=c
   ·subst hcc;exact⟨_,hc'⟩
   ·obtain⟨w2,z2⟩:=I.cell y c' e
    exact⟨w2,z2.sameBut hs hcc⟩
  ·obtain⟨e,n,ne,nf,d⟩:=I.pin p hp
   refine⟨(hs.2 p.1 ?_).trans e,n,ne,nf,d⟩
   intro q
   rw[q,hoc]at e
   have q':oc=p.2:=QC e
   exact d w' (by rw[←q'];exact hocd)
theorem Zph{M:Model}{A:Qk}{E:Xc->Xd->Prop}{i:Nat}{x:Str}{v:V}{u:Xc}{Q:Unit->Xd->Prop}(I:Inv X pins σ H s)(hN:X.N.Nodup)(hi:X.N[i]? =some x)(hx:Loc X.env.scope x)(r:RelV v u)
  (h:∀s',Inv X pins (σ.set i (some v)) H s'->Q () s') (hf:X.fn x=true∨X.env.scope.names.lookup x=some .local:=by first|exact .inl rfl|exact .inr rfl|assumption):XQ M A (storeName X.env x u) Q E s :=
 Zm2 I hN hi hx r (λs' I' _=>h s' I') hf
theorem Inv.call'{s':Xd}{ch:List Addr}(I:Inv X pins σ H s)(ho:s'.os=s.os)(u:Un (frs X.stack) ch H H' s.heap s'.heap)(hok:HOk X.prog X.w H' s'.heap)(hg:AllBare s'.gens)
  (hch:∀b∈ch,(b∈X.ex∨X.s₀.heap.objs.size≤b)∧b≠X.env.locals∧(∀x c,X.env.cells.lookup x=some c->c≠b)∧∀p∈X.pn ++ pins,p.1≠b):Inv X pins σ H' s':=by
 obtain⟨h',g',d',t',o'⟩:=s'
 have e:o'=s.os:=ho
 subst e
 exact I.call (g':=g') (t':=t') (d':=d') u hok hg hch
end
noncomputable abbrev XK:=Xc->Option Addr->Hp->Prop
noncomputable abbrev St:=List (Option V)
noncomputable abbrev VK:=V->Hp->Prop
noncomputable abbrev TE:=St->Hp->VK->Prop
noncomputable abbrev TT:=St->Hp->(Bool->Hp->Prop)->Prop
noncomputable abbrev TA:=St->Hp->(List V->Hp->Prop)->Prop
set_option genInjectivity false in
structure Ends where
 nx:St->Hp->Prop
 rt:VK
 bk:St->Hp->Prop:=λ_ _=>False
 ct:St->Hp->Prop:=λ_ _=>False
noncomputable abbrev TS:=Ends->St->Hp->Prop
noncomputable def EP(X:Cx)(pins:List (Addr×Obj))(σ:St)(Q:VK)(u:Xc)(s':Xd):Prop:=∃v H',Inv X pins σ H' s'∧RelV v u∧Q v H'
noncomputable def TP(X:Cx)(pins:List (Addr×Obj))(σ:St)(Q:Bool->Hp->Prop)(b:Bool)(s':Xd):Prop:=∃H',Inv X pins σ H' s'∧Q b H'
noncomputable def AP(X:Cx)(pins:List (Addr×Obj))(σ:St)(Q:List V->Hp->Prop)(us:List Xc)(s':Xd):Prop:=∃vs H',Inv X pins σ H' s'∧Vals vs us∧Q vs H'
noncomputable def SP(X:Cx)(pins:List (Addr×Obj))(D:Ends)(f:Flow)(s':Xd):Prop :=
 match f with
 | .next=>∃σ' H',Inv X pins σ' H' s'∧D.nx σ' H'
 | .brk=>∃σ' H',Inv X pins σ' H' s'∧D.bk σ' H'
 | .cont=>∃σ' H',Inv X pins σ' H' s'∧D.ct σ' H'
 | .ret u=>∃v σ' H',Inv X pins σ' H' s'∧RelV v u∧D.rt v H'
noncomputable def PE(X:Cx)(e:Expr)(t:TE):Prop :=
 ∀(pins:List (Addr×Obj)) (s:Xd) (σ:St) (H:Hp) (Q:VK),Inv X pins σ H s->t σ H Q->XQ (X7 X.prog X.w) X.A (eval e X.env) (EP X pins σ Q) X.xe s
noncomputable def PT(X:Cx)(e:Expr)(t:TT):Prop :=
 ∀(pins:List (Addr×Obj)) (s:Xd) (σ:St) (H:Hp) (Q:Bool->Hp->Prop),Inv X pins σ H s->t σ H Q->XQ (X7 X.prog X.w) X.A (isTrue e X.env (eval e X.env)) (TP X pins σ Q) X.xe s
noncomputable def PW(X:Cx)(e:Expr)(t:TT):Prop :=
 ∀(whole:Sem Xc) (pins:List (Addr×Obj)) (s:Xd) (σ:St) (H:Hp) (Q:Bool->Hp->Prop),Inv X pins σ H s->t σ H Q->XQ (X7 X.prog X.w) X.A (isTrue e X.env whole) (TP X pins σ Q) X.xe s
theorem PW.pt{X:Cx}{e:Expr}{t:TT}(h:PW X e t):PT X e t:=h _
noncomputable def PA(X:Cx)(es:List Expr)(t:TA):Prop :=
 ∀(pos:Pos) (pins:List (Addr×Obj)) (s:Xd) (σ:St) (H:Hp) (Q:List V->Hp->Prop),Inv X pins σ H s->t σ H Q->XQ (X7 X.prog X.w) X.A (spliced (BV pos (Xq es X.env))) (AP X pins σ Q) X.xe s
noncomputable def PS(X:Cx)(st:Stmt)(t:TS):Prop :=
 ∀(pins:List (Addr×Obj)) (s:Xd) (σ:St) (H:Hp) (D:Ends),Inv X pins σ H s->t D σ H->XQ (X7 X.prog X.w) X.A (exec st X.env) (SP X pins D) X.xe s
noncomputable def PSs(X:Cx)(st:List Stmt)(t:TS):Prop :=
 ∀(pins:List (Addr×Obj)) (s:Xd) (σ:St) (H:Hp) (D:Ends),Inv X pins σ H s->t D σ H->XQ (X7 X.prog X.w) X.A (execs st X.env) (SP X pins D) X.xe s
theorem thn{α:Type}{t:Sem α}{Q Q':α->Xd->Prop}{M:Model}{A:Qk}{E:Xc->Xd->Prop}{s:Xd}(h:XQ M A t Q E s)(hQ:∀a s,Q a s->Q' a s):XQ M A t Q' E s:=Br h hQ λ_ _ x=>x
section
variable {X:Cx}
noncomputable def Ydi(i:Nat):TE:=λσ H Q=>∃v,σ[i]? =some (some v)∧Q v H
noncomputable def tC(v:V):TE:=λ_ H Q=>Q v H
theorem Z3v{i:Nat}{x:Str}{pos:Pos}(hN:X.N[i]? =some x)(hv:Vis X.env.scope x)(hd:(x==("__debug__" : Str))=false:=by decide)(hcd:(x==("__classdict__" : Str))=false:=by decide):PE X (.Name x pos) (Ydi i):=by
 intro pins s σ H Q I h
 obtain⟨v,e,h⟩:=h
 obtain⟨m,hn,hl⟩:=I.loc
 obtain⟨u,r,l⟩:=hl i x v hN e hv
 have fin:EP X pins σ Q u s:=⟨v,H,I,r,h⟩
 rcases l with⟨hk,hm⟩|⟨hk,c,hc,hcell⟩
 ·exact wpAny_Name (wpAny_loadName_local I.ok.kind hk hn hm fin) hd
 ·rcases hk with hk|hk
  ·exact wpAny_Name (wpAny_loadName_cell I.ok.kind hk hc hcell fin) hd
  ·exact wpAny_Name (wpAny_loadName_free I.ok.kind hk hc hcell fin hcd) hd
theorem Z3c{i j pos}:PE X (.Constant (.int i) j pos) (tC (.int i)):=λ_ _ _ H _ I h=>wpAny_Constant_int ⟨.int i,H,I.tok _,⟨_,rfl⟩,h⟩
theorem Z9i{b j pos}:PE X (.Constant (.bool b) j pos) (tC (.bl b)):=λ_ _ _ H _ I h=>Constant_bool ⟨.bl b,H,I,rfl,h⟩
theorem Z25{x j pos}:PE X (.Constant (.str x) j pos) (tC (.str x)):=λ_ _ _ H _ I h=>Calls.Constant_str ⟨.str x,H,I.tok _,⟨_,rfl⟩,h⟩
noncomputable def Gl(X:Cx)(x:Str):Prop:=X.env.kindOf x=some .globalImplicit
theorem Zyb{E:Xc->Xd->Prop}{pins:List (Addr×Obj)}{s:Xd}{σ:St}{H:Hp}{x:Str}{u:Xc}{pos:Pos}{Q:Xc->Xd->Prop}(I:Inv X pins σ H s)(hg:Gl X x)(hm:X.mg x=some u)(h:Q u s)
  (hd:(x==("__debug__" : Str))=false:=by decide):XQ (X7 X.prog X.w) X.A (eval (.Name x pos) X.env) Q E s :=
 Calls.Name_function_global I.ok.kind hg (Calls.loadGlobal_global (by rw[I.ok.glob];exact I.mod.glob.keeps I.bk) hm h) hd
theorem Zh7{E:Xc->Xd->Prop}{pins:List (Addr×Obj)}{s:Xd}{σ:St}{H:Hp}{x:Str}{u:Xc}{pos:Pos}{Q:Xc->Xd->Prop}(I:Inv X pins σ H s)(hg:Gl X x)(hm:X.mg x=none)(hv:Qm x=some u)(h:Q u s)
  (hn:x≠"__name__" :=by decide) (hd:(x==("__debug__" : Str))=false:=by decide):XQ (X7 X.prog X.w) X.A (eval (.Name x pos) X.env) Q E s:=by
 obtain⟨mb,h1,h2⟩:=I.mod.blt
 exact Calls.Name_function_global I.ok.kind hg (Calls.loadGlobal_builtin (by rw[I.ok.glob];exact I.mod.glob.keeps I.bk) hm (by rw[I.ok.blt];exact h1.keeps I.bk) ((h2 x hn).trans hv) h) hd
theorem Z09{x:Str}{v:V}{u:Xc}{pos:Pos}(hg:Gl X x)(hm:X.mg x=none)(hv:Qm x=some u)(r:RelV v u)(hn:x≠"__name__" :=by decide)(hd:(x==("__debug__" : Str))=false:=by decide):PE X (.Name x pos) (tC v) :=
 λ_ _ _ H _ I h=>Zh7 I hg hm hv ⟨v,H,I,r,h⟩ hn hd
noncomputable def t2I(ta tb:TE)(k:Int->Int->Hp->Prop):St->Hp->Prop:=λσ H=>ta σ H λx H1=>tb σ H1 λy H2=>∃i j,x= .int i∧y= .int j∧k i j H2
variable {a b:Expr}{ta tb:TE}{pos:Pos}
noncomputable def Z1m(p:Int->Int->Bool)(ta tb:TE):TE:=λσ H Q=>t2I ta tb (λi j H2=>Q (.bl (p i j)) H2) σ H
noncomputable abbrev tLt:TE->TE->TE:=Z1m λi j=>decide (i<j)
noncomputable abbrev tLe:TE->TE->TE:=Z1m λi j=>decide (i≤j)
noncomputable abbrev tGt:TE->TE->TE:=Z1m λi j=>decide (j<i)
noncomputable abbrev tGe:TE->TE->TE:=Z1m λi j=>decide (j≤i)
noncomputable abbrev Yfa:TE->TE->TE:=Z1m λi j=>decide (i=j)
noncomputable abbrev Ye9:TE->TE->TE:=Z1m λi j=>!decide (i=j)
noncomputable def tB(t:TE):TT:=λσ H Q=>t σ H λx H1=>∃c,x= .bl c∧Q c H1
variable {tA tB':TT}{rest:List Expr}
noncomputable def Ydt(t u:TT):TT:=λσ H Q=>t σ H λc H1=>if c=true then u σ H1 Q else Q false H1
noncomputable def tOr(t u:TT):TT:=λσ H Q=>t σ H λc H1=>if c=true then Q true H1 else u σ H1 Q
noncomputable def Yd3(t:TT):TT:=λσ H Q=>t σ H λc H1=>Q (!c) H1
theorem Zz3(ha:PT X a tA):PW X (.BoolOp .And [a] pos) tA:=by
 intro wh pins s σ H Q I h
 refine isTrue_and (thn (ha pins s σ H Q I h) λc s1 e=>?_)
 cases c with
 | true=>exact isTrue_and_nil e
 | false=>exact e
theorem Z2p(ha:PT X a tA):PW X (.BoolOp .Or [a] pos) tA:=by
 intro wh pins s σ H Q I h
 refine isTrue_or (thn (ha pins s σ H Q I h) λc s1 e=>?_)
 cases c with
 | false=>exact isTrue_or_nil e
 | true=>exact e
theorem Z47(ha:PT X a tA)(hb:PW X (.BoolOp .And (b :: rest) pos) tB'):PW X (.BoolOp .And (a :: b :: rest) pos) (Ydt tA tB'):=by
 intro wh pins s σ H Q I h
 refine isTrue_and (thn (ha pins s σ H _ I h) λc s1 qz9=>?_)
 obtain⟨H1,I1,q1⟩:=qz9
 cases c with
 | true=>exact hb wh pins s1 σ H1 Q I1 q1
 | false=>exact⟨H1,I1,q1⟩
theorem Z8z(ha:PT X a tA)(hb:PW X (.BoolOp .Or (b :: rest) pos) tB'):PW X (.BoolOp .Or (a :: b :: rest) pos) (tOr tA tB'):=by
 intro wh pins s σ H Q I h
 refine isTrue_or (thn (ha pins s σ H _ I h) λc s1 qz9=>?_)
 obtain⟨H1,I1,q1⟩:=qz9
 cases c with
 | true=>exact⟨H1,I1,q1⟩
 | false=>exact hb wh pins s1 σ H1 Q I1 q1
theorem Z6s(ha:PT X a tA):PT X (.UnaryOp .Not a pos) (Yd3 tA):=by
 intro pins s σ H Q I h
 exact isTrue_not (ha pins s σ H (λc H1=>Q (!c) H1) I h)
noncomputable def Z9d(ta tb:TE):TE:=λσ H Q=>ta σ H λx H1=>∃c,x= .bl c∧if c=true then tb σ H1 Q else Q (.bl false) H1
noncomputable def Z8c(ta:TE):TE:=λσ H Q=>ta σ H λx H1=>∃c,x= .bl c∧Q (.bl (!c)) H1
theorem Z6w{op}{t:TE}(h:PE X a t):PE X (.BoolOp op [a] pos) t:=λpins s σ H Q I hw=>BoolOp_one (h pins s σ H Q I hw)
theorem Z28(ha:PE X a ta)(hb:PE X (.BoolOp .And (b :: rest) pos) tb):PE X (.BoolOp .And (a :: b :: rest) pos) (Z9d ta tb):=by
 intro pins s σ H Q I h
 refine BoolOp_and (thn (ha pins s σ H _ I h) λv s1 qz9=>?_)
 obtain⟨x,H1,I1,r1,q1⟩:=qz9
 obtain⟨c,rfl,q1⟩:=q1
 cases r1
 refine V9 ?_
 cases c with
 | true=>exact hb pins s1 σ H1 Q I1 q1
 | false=>exact⟨.bl false,H1,I1,rfl,q1⟩
theorem Z4n(ha:PE X a ta):PE X (.UnaryOp .Not a pos) (Z8c ta):=by
 intro pins s σ H Q I h
 refine UnaryOp_ (thn (ha pins s σ H _ I h) λv s1 qz9=>?_)
 obtain⟨x,H1,I1,r1,q1⟩:=qz9
 obtain⟨c,rfl,q1⟩:=q1
 cases r1
 exact not_of (V9 ⟨.bl (!c),H1,I1,rfl,q1⟩)
noncomputable def tIf(t:TT)(ta tb:TE):TE:=λσ H Q=>t σ H λc H1=>if c=true then ta σ H1 Q else tb σ H1 Q
theorem Zwh{c:Expr}(hc:PT X c tA)(ha:PE X a ta)(hb:PE X b tb):PE X (.IfExp c a b pos) (tIf tA ta tb):=by
 intro pins s σ H Q I h
 refine wpAny_IfExp (thn (hc pins s σ H _ I h) λd s1 qz9=>?_)
 obtain⟨H1,I1,q1⟩:=qz9
 cases d with
 | true=>exact ha pins s1 σ H1 Q I1 q1
 | false=>exact hb pins s1 σ H1 Q I1 q1
end
noncomputable def SqL(K:Xb)(H:Hp)(a:Addr)(xs:List V):Prop :=
 Rd H a (.lst xs)∨
  ∃(o:Obj) (its:Array Xc) (n:Nat),K.lookup a=some o∧o.cls= .type "list"∧o.dict=none∧o.data= .seq its n∧its.size≤Xr∧Vals xs its.toList
noncomputable def SqT(K:Xb)(H:Hp)(a:Addr)(xs:List V):Prop :=
 Rd H a (.tup xs)∨
  ∃(o:Obj) (its:Array Xc) (n:Nat),K.lookup a=some o∧o.cls= .type "tuple"∧o.data= .seq its n∧its.size≤Xr∧Vals xs its.toList
noncomputable def Ye6:Xc->Option V
 | .none=>some .non
 | .bool b=>some (.bl b)
 | .int i _=>some (.int i)
 | .str x _=>some (.str x)
 | .bytes b _=>some (.byt b)
 | .float b _=>some (.flt b)
 | .ref a=>some (.ref a)
 | .type n=>some (.ty n)
 | _=>none
theorem RelV.abs{x:V}{u:Xc}(r:RelV x u):Ye6 u=some x:=by
 cases x with
 | non=>cases r;rfl
 | bl _=>cases r;rfl
 | int _=>obtain⟨t,rfl⟩:=r;rfl
 | str _=>obtain⟨t,rfl⟩:=r;rfl
 | byt _=>obtain⟨t,rfl⟩:=r;rfl
 | flt _=>obtain⟨t,rfl⟩:=r;rfl
 | ref _=>cases r;rfl
 | ty _=>cases r;rfl
theorem RelV.inj{x y:V}{u:Xc}(r:RelV x u)(q:RelV y u):x=y:=QC (r.abs.symm.trans q.abs)
theorem Vals.inj{xs ys:List V}{us:List Xc}(h:Vals xs us)(k:Vals ys us):xs=ys:=by
 induction h generalizing ys with
 | nil=>cases k;rfl
 | cons r t ih=>
  cases k with
  | cons r' t'=>rw[r.inj r',ih t']
section
variable {X:Cx}{pins:List (Addr×Obj)}{σ:St}{H:Hp}{s:Xd}{a:Addr}{xs ys:List V}
theorem Inv.list(I:Inv X pins σ H s)(h:SqL X.K H a xs):∃its:List Xc,Vals xs its∧PlainL s.heap a its.toArray∧xs.length≤Xr:=by
 rcases h with h|⟨o,its,n,hk,hc,hd,hs,hz,r⟩
 ·obtain⟨z,its,n,r,e⟩:=h.ok I.hok
  exact⟨its,r,⟨_,n,e,rfl,rfl,rfl⟩,z⟩
 ·refine⟨its.toList,r,⟨o,n,I.kIn a o hk,hc,hd,by simpa using hs⟩,?_⟩
  have e:=r.length
  simp only[Bm]at e
  omega
theorem Inv.tuple(I:Inv X pins σ H s)(h:SqT X.K H a xs):∃its:List Xc,Vals xs its∧IsTup s.heap a its.toArray∧xs.length≤Xr:=by
 rcases h with h|⟨o,its,n,hk,hc,hs,hz,r⟩
 ·obtain⟨z,its,r,p⟩:=h.ok I.hok
  exact⟨its,r,p,z⟩
 ·refine⟨its.toList,r,⟨o,I.kIn a o hk,hc,n,by simpa using hs⟩,?_⟩
  have e:=r.length
  simp only[Bm]at e
  omega
theorem Inv.list_inj(I:Inv X pins σ H s)(h:SqL X.K H a xs)(h':SqL X.K H a ys):xs=ys:=by
 obtain⟨its,r,⟨o,n,e,_,_,d⟩,_⟩:=I.list h
 obtain⟨its',r',⟨o',n',e',_,_,d'⟩,_⟩:=I.list h'
 rw[e]at e';cases e'
 rw[d]at d'
 injection d' with d1 _
 have:its=its':=by simpa using congrArg Array.toList d1
 subst this
 exact r.inj r'
theorem Inv.tuple_inj(I:Inv X pins σ H s)(h:SqT X.K H a xs)(h':SqT X.K H a ys):xs=ys:=by
 obtain⟨its,r,⟨o,e,_,n,d⟩,_⟩:=I.tuple h
 obtain⟨its',r',⟨o',e',_,n',d'⟩,_⟩:=I.tuple h'
 rw[e]at e';cases e'
 rw[d]at d'
 injection d' with d1 _
 have:its=its':=by simpa using congrArg Array.toList d1
 subst this
 exact r.inj r'
end
noncomputable abbrev Cx.wish(X:Cx)(E:Xc->Xd->Prop):Cx:={ X with xe:=E }
noncomputable abbrev Cx.nox(X:Cx):Cx:=X.wish λ_ _=>False
theorem Cx.Ok.wish{X:Cx}(ok:X.Ok)(E:Xc->Xd->Prop):(X.wish E).Ok :=
 ⟨ok.mod,ok.kind,ok.glob,ok.blt,ok.above,ok.inj,ok.has,ok.cab,ok.hd,ok.frames,ok.stk,ok.exf,ok.bs,ok.bsz,ok.noex,ok.exfs,ok.funs,ok.frf⟩
theorem Cx.Ok.unwish{X:Cx}{E:Xc->Xd->Prop}(ok:(X.wish E).Ok):X.Ok :=
 ⟨ok.mod,ok.kind,ok.glob,ok.blt,ok.above,ok.inj,ok.has,ok.cab,ok.hd,ok.frames,ok.stk,ok.exf,ok.bs,ok.bsz,ok.noex,ok.exfs,ok.funs,ok.frf⟩
section
variable {X:Cx}{pins:List (Addr×Obj)}{σ:St}{H:Hp}{s:Xd}{E:Xc->Xd->Prop}
theorem Inv.wish(I:Inv X pins σ H s)(E:Xc->Xd->Prop):Inv (X.wish E) pins σ H s:=⟨I.ok.wish E,I.os,I.bare,I.base,I.loc,I.cell,I.free,I.freeC,I.pin,I.hok,I.len⟩
theorem Inv.unwish(I:Inv (X.wish E) pins σ H s):Inv X pins σ H s:=⟨I.ok.unwish,I.os,I.bare,I.base,I.loc,I.cell,I.free,I.freeC,I.pin,I.hok,I.len⟩
theorem SP.unwish{D:Ends}{f:Flow}{s':Xd}(h:SP (X.wish E) pins D f s'):SP X pins D f s':=by
 cases f with
 | next=>obtain⟨σ',H',I,q⟩:=h;exact⟨σ',H',I.unwish,q⟩
 | brk=>obtain⟨σ',H',I,q⟩:=h;exact⟨σ',H',I.unwish,q⟩
 | cont=>obtain⟨σ',H',I,q⟩:=h;exact⟨σ',H',I.unwish,q⟩
 | ret u=>obtain⟨v,σ',H',I,r,q⟩:=h;exact⟨v,σ',H',I.unwish,r,q⟩
theorem PSs.nox{st:List Stmt}{t:TS}(h:PSs X.nox st t):PSs X st t:=λpins s σ H D I hw=>
 Br (h pins s σ H D (I.wish _) hw) (λ_ _ q=>q.unwish) λ_ _ z=>Vo z
end
section
variable {X:Cx}{st:Stmt}{rest:List Stmt}{t u:TS}{e:Expr}{te:TE}{pos:Pos}
noncomputable def Z9v:TS:=λD σ H=>D.nx σ H
noncomputable def Yee(t u:TS):TS:=λD σ H=>t { D with nx:=u D } σ H
theorem Z0b:PSs X [] Z9v:=λ_ _ σ H _ I h=>wpAny_execs_nil ⟨σ,H,I,h⟩
theorem Zww(h1:PS X st t)(h2:PSs X rest u):PSs X (st :: rest) (Yee t u):=by
 intro pins s σ H D I h
 refine wpAny_execs_cons (thn (h1 pins s σ H { D with nx:=u D } I h) λf s1 q=>?_)
 cases f with
 | next=>
  obtain⟨σ',H',I',q⟩:=q
  exact h2 pins s1 σ' H' D I' q
 | ret v=>exact q
 | brk=>exact q
 | cont=>exact q
theorem Zzz(h1:PS X st t):PSs X [st] t:=by
 intro pins s σ H D I h
 refine wpAny_execs_cons (thn (h1 pins s σ H D I h) λf s1 q=>?_)
 cases f with
 | next=>exact wpAny_execs_nil q
 | ret v=>exact q
 | brk=>exact q
 | cont=>exact q
theorem Inv.quiet{pins:List (Addr×Obj)}{σ:St}{H:Hp}{s:Xd}(I:Inv X pins σ H s):interactive X.env=false:=by simp[interactive,I.ok.kind]
noncomputable def Z99(te:TE):TS:=λD σ H=>te σ H λ_ H1=>D.nx σ H1
theorem Zyt(he:PE X e te)(hs:Uo e none pos.line X.env=pure false:=by rfl):PS X (.Expr e pos) (Z99 te):=by
 intro pins s σ H D I h
 refine wpAny_Expr_any (thn (he pins s σ H _ I h) λv s1 qz9=>?_) I.quiet hs
 obtain⟨x,H1,I1,r1,q1⟩:=qz9
 exact⟨σ,H1,I1,q1⟩
noncomputable def Yeb(te:TE):TS:=λD σ H=>te σ H D.rt
theorem Zxm(he:PE X e te):PS X (.Return (some e) pos) (Yeb te):=by
 intro pins s σ H D I h
 refine wpAny_Return_some (thn (he pins s σ H _ I h) λv s1 qz9=>?_)
 obtain⟨x,H1,I1,r1,q1⟩:=qz9
 exact⟨x,σ,H1,I1,r1,q1⟩
noncomputable def Yew(c:TT)(t u:TS):TS:=λD σ H=>c σ H λb H1=>if b=true then t D σ H1 else u D σ H1
theorem Z8f{c:Expr}{a b:List Stmt}{tc:TT}(hc:PT X c tc)(ha:PSs X a t)(hb:PSs X b u):PS X (.If c a b pos) (Yew tc t u):=by
 intro pins s σ H D I h
 refine wpAny_If (thn (hc pins s σ H _ I h) λd s1 qz9=>?_)
 obtain⟨H1,I1,q1⟩:=qz9
 cases d with
 | true=>exact ha pins s1 σ H1 D I1 q1
 | false=>exact hb pins s1 σ H1 D I1 q1
noncomputable def Z59:TS:=λ_ _ _=>False
theorem Zwo:PS X st Z59:=λ_ _ _ _ _ _ h=>h.elim
end
noncomputable abbrev TG:=V->St->Hp->(St->Hp->Prop)->Prop
noncomputable abbrev TGs:=List V->St->Hp->(St->Hp->Prop)->Prop
noncomputable def PG(X:Cx)(target:Expr)(t:TG):Prop :=
 ∀(pins:List (Addr×Obj)) (s:Xd) (σ:St) (H:Hp) (v:V) (u:Xc) (Q:St->Hp->Prop),Inv X pins σ H s->RelV v u->t v σ H Q ->
  XQ (X7 X.prog X.w) X.A (Uq target X.env u) (λ_ s'=>∃σ' H',Inv X pins σ' H' s'∧Q σ' H') X.xe s
noncomputable def PGs(X:Cx)(ts:List Expr)(t:TGs):Prop :=
 ∀(pins:List (Addr×Obj)) (s:Xd) (σ:St) (H:Hp) (vs:List V) (us:List Xc) (Q:St->Hp->Prop),Inv X pins σ H s->Vals vs us->t vs σ H Q ->
  XQ (X7 X.prog X.w) X.A (assignInOrder ((JF ts X.env).map (·.2)) us) (λ_ s'=>∃σ' H',Inv X pins σ' H' s'∧Q σ' H') X.xe s
noncomputable abbrev Z8g:=V->V->V->Hp->(Hp->Prop)->Prop
noncomputable def Ybx(X:Cx)(t:Z8g):Prop :=
 ∀(pins:List (Addr×Obj)) (s:Xd) (σ:St) (H:Hp) (o i v:V) (ov iv u:Xc) (Q:Hp->Prop),Inv X pins σ H s->RelV o ov->RelV i iv->RelV v u->t o i v H Q ->
  XQ (X7 X.prog X.w) X.A (setItem ov iv u) (λ_ s'=>∃H',Inv X pins σ H' s'∧Q H') X.xe s
noncomputable abbrev TIp:=V->V->Hp->VK->Prop
section
variable {X:Cx}{pos:Pos}
noncomputable def Ztq(i:Nat):TG:=λv σ H Q=>Q (σ.set i (some v)) H
theorem Zzo{i:Nat}{x:Str}(hN:X.N.Nodup)(hi:X.N[i]? =some x)(hx:Loc X.env.scope x)(hf:X.fn x=true∨X.env.scope.names.lookup x=some .local:=by first|exact .inl rfl|exact .inr rfl|assumption):PG X (.Name x pos) (Ztq i):=by
 intro pins s σ H v u Q I r h
 exact wpAny_assign_Name (Zph I hN hi hx r (λs' I'=>⟨_,H,I',h⟩) hf)
noncomputable def Ye7:TGs:=λvs σ H Q=>vs=[]∧Q σ H
noncomputable def Z97(t:TG)(u:TGs):TGs:=λvs σ H Q=>∃v r,vs=v :: r∧t v σ H λσ' H'=>u r σ' H' Q
theorem Z0q:PGs X [] Ye7:=by
 intro pins s σ H vs us Q I r h
 obtain⟨e,h⟩:=h
 subst e
 cases r
 exact assignInOrder_nil ⟨σ,H,I,h⟩
theorem Zvz{e:Expr}{es:List Expr}{t:TG}{u:TGs}(h1:PG X e t)(h2:PGs X es u)
  (hs:(JF (e :: es) X.env).map (·.2)=Uq e X.env :: (JF es X.env).map (·.2):=by rfl):PGs X (e :: es) (Z97 t u):=by
 intro pins s σ H vs us Q I r h
 obtain⟨v,vr,e1,h⟩:=h
 subst e1
 cases r with
 | cons r rr=>
  rw[hs]
  refine assignInOrder_cons (thn (h1 pins s σ H _ _ _ I r h) λ_ s1 qz9=>?_)
  obtain⟨σ1,H1,I1,q1⟩:=qz9
  exact h2 pins s1 σ1 H1 _ _ Q I1 rr q1
noncomputable def Yei(K:Xb)(n:Nat)(t:TGs):TG:=λv σ H Q=>∃a xs,v= .ref a∧SqT K H a xs∧xs.length=n∧t xs σ H Q
theorem Z4o{es:List Expr}{k:Nat}{t:TGs}{n:Nat}(hc:X.calm=true)(h:PGs X es t)
  (hn:(JF es X.env).length=n:=by rfl) (hst:(JF es X.env).findIdx? (·.1)=none:=by rfl):PG X (.Tuple es k pos) (Yei X.K n t):=by
 intro pins s σ H v u Q I r hw
 obtain⟨a,xs,e1,hq,hl,hw⟩:=hw
 subst e1
 cases r
 obtain⟨its,rv,ht,hz⟩:=I.tuple hq
 refine assign_Tuple_tuple (I.ok.hd hc) ht (by simp[hn,←hl,rv.length]) hst λh' hx=>?_
 have I1:Inv X pins σ H { s with heap:=h' }:=I.kept (t':=s.toks) λb o e=>hx b o (Xp (XD e)) e
 exact h pins _ σ H xs _ Q I1 (by simpa using rv) hw
noncomputable def Ybp(to ti:TE)(t:Z8g):TG:=λv σ H Q=>to σ H λo H1=>ti σ H1 λi H2=>t o i v H2 λH3=>Q σ H3
theorem Z3l{o i:Expr}{to ti:TE}{t:Z8g}(ho:PE X o to)(hi:PE X i ti)(hs:Ybx X t)
  (ha:∀v,Uq (.Subscript o i pos) X.env v=(do
   let ov←holding [v] (eval o X.env)
   let iv←holding [v,ov] (eval i X.env)
   standAt pos
   holding [v,ov,iv] (setItem ov iv v)
   release [v,ov,iv] []):=by intro _;rfl):PG X (.Subscript o i pos) (Ybp to ti t):=by
 intro pins s σ H v u Q I r h
 rw[ha]
 refine Xf (VM (thn (ho pins s σ H _ I h) λov s1 qz9=>?_))
 obtain⟨x,H1,I1,r1,q1⟩:=qz9
 refine Xf (VM (thn (hi pins s1 σ H1 _ I1 q1) λiv s2 qz9=>?_))
 obtain⟨y,H2,I2,r2,q2⟩:=qz9
 refine Xf (wpAny_standAt (Xf (VM (thn (hs pins s2 σ H2 x y v ov iv u _ I2 r1 r2 r q2) λ_ s3 qz9=>?_))))
 obtain⟨H3,I3,q3⟩:=qz9
 exact wpAny_release ⟨σ,H3,I3,q3⟩
noncomputable def Z5e(te:TE)(g:TG):TS:=λD σ H=>te σ H λx H1=>g x σ H1 D.nx
theorem Zw6{tg e:Expr}{te:TE}{g:TG}(he:PE X e te)(hg:PG X tg g)(hs:swapsWithSole [tg] e pos.line X.env=pure false:=by rfl)(hw:swappedStores [tg] e X.env=pure none:=by rfl)
  (h1:(JF [tg] X.env).map (·.2)=[Uq tg X.env]:=by rfl):PS X (.Assign [tg] e pos) (Z5e te g):=by
 intro pins s σ H D I h
 refine wpAny_Assign_stores (thn (he pins s σ H _ I h) λv s1 qz9=>?_) hs hw
 obtain⟨x,H1,I1,r1,q1⟩:=qz9
 rw[h1]
 exact thn (hg pins s1 σ H1 x v _ I1 r1 q1) λ_ s2 q=>q
theorem Zw1{i:Nat}{x:Str}{e:Expr}{te:TE}{pos':Pos}(hN:X.N.Nodup)(hi:X.N[i]? =some x)(hx:Loc X.env.scope x)(he:PE X e te)(hs:Uo e (some (.Name x pos')) pos.line X.env=pure false:=by rfl)(hf:X.fn x=true∨X.env.scope.names.lookup x=some .local:=by first|exact .inl rfl|exact .inr rfl|assumption) :
  PS X (.Assign [.Name x pos'] e pos) (Z5e te (Ztq i)):=by
 intro pins s σ H D I h
 refine wpAny_Assign_Name (thn (he pins s σ H _ I h) λv s1 qz9=>?_) hs
 obtain⟨y,H1,I1,r1,q1⟩:=qz9
 exact Zph I1 hN hi hx r1 (λs2 I2=>⟨_,H1,I2,q1⟩) hf
end
section
variable {X:Cx}{pos:Pos}
noncomputable def Z62(c:TT)(tb:TS):TS:=λD σ H=>∃W:Nat->St->Hp->Prop,(∃m,W m σ H)∧∀m σ H,W m σ H ->
 c σ H λb H1=>if b=true then∃N:St->Hp->Prop,(∀σ' H',N σ' H'->∃m',m'<m∧W m' σ' H')∧tb { D with nx:=N,ct:=N,bk:=D.nx } σ H1 else D.nx σ H1
theorem Zwx{c:Expr}{body:List Stmt}{tc:TT}{tb:TS}(hp:PassesOwn (X7 X.prog X.w) X.A X.env X.xe)(hc:PT X c tc)(hb:PSs X body tb):PS X (.While c body [] pos) (Z62 tc tb):=by
 intro pins s σ H D I h
 obtain⟨W,⟨m0,w0⟩,turn⟩:=h
 refine wpAny_While (codeAny_whileLoop (λn s'=>∃σ' H',Inv X pins σ' H' s'∧W n σ' H') ?_ m0 ⟨σ,H,I,w0⟩)
 rintro n s1 ⟨σ1,H1,I1,w1⟩
 refine Vm hp (thn (hc pins s1 σ1 H1 _ I1 (turn n σ1 H1 w1)) λb s2 qz9=>?_)
 obtain⟨H2,I2,q2⟩:=qz9
 cases b with
 | true=>
  obtain⟨N,hN,q2⟩:=q2
  rw[if_pos rfl]
  refine Vm hp (thn (hb pins s2 σ1 H2 _ I2 q2) λf s3 q3=>?_)
  cases f with
  | next=>
   obtain⟨σ3,H3,I3,n3⟩:=q3
   obtain⟨m',hm,w3⟩:=hN σ3 H3 n3
   exact⟨m',hm,σ3,H3,I3,w3⟩
  | cont=>
   obtain⟨σ3,H3,I3,n3⟩:=q3
   obtain⟨m',hm,w3⟩:=hN σ3 H3 n3
   exact⟨m',hm,σ3,H3,I3,w3⟩
  | brk=>exact q3
  | ret v=>exact q3
 | false=>
  rw[if_neg XF]
  exact wpAny_execs_nil ⟨σ1,H2,I2,q2⟩
end
set_option genInjectivity false in
structure It where
 go:Nat->Hp->Prop
 yld:Nat->Hp->V->Hp->Prop
 stop:Nat->Hp->Prop
noncomputable def Zlk(X:Cx)(pins:List (Addr×Obj))(H:Hp)(b:Addr):Prop :=
 H b=none∧b≠X.env.locals∧b∉X.fs∧(b∈X.ex∨X.s₀.heap.objs.size≤b)∧(∀x c,X.env.cells.lookup x=some c->c≠b)∧∀p∈X.pn ++ pins,p.1≠b
theorem Inv.fpOk{X:Cx}{pins:List (Addr×Obj)}{σ:St}{H H':Hp}{s:Xd}{b:Addr}(I:Inv X pins σ H s)(hb:s.heap.objs.size≤b)(hn:H' b=none):Zlk X pins H' b:=by
 refine⟨hn,XN (Qe I.lt hb),I.nofs hb,.inr (Qt I.sz hb),λx c e z=>?_,λp hp z=>?_⟩
 ·obtain⟨v,q⟩:=I.cell x c e
  exact absurd (Qe q.lt (by rw[z];exact hb)) (JP _)
 ·exact absurd (Qe (XD (I.pin p hp).1) (by rw[z];exact hb)) (JP _)
structure Turn(P:XH)(w:Qo)(K:Xb)(tg:Expr)(J:It)(fp:List Addr)(it:Addr)(tn:Nat->Heap->Prop):Prop where
 mem:it∈fp
 obj:∀i h,tn i h->∀b∈fp,∃o,h.get? b=some o∧∀v,o.data≠ .cell v
 keep:∀i h h',tn i h->(∀b∈fp,∀o,h.get? b=some o->h'.get? b=some o)->tn i h'
 item:∀(X:Cx),X.prog=P->X.w=w->X.K=K->X.calm=true->∀(i:Nat) (pins:List (Addr×Obj)) (s:Xd) (σ:St) (H:Hp) (E:Xc->Xd->Prop),Inv X pins σ H s->(∀b∈fp,Zlk X pins H b)->tn i s.heap->J.go i H ->
  XQ (X7 P w) X.A (pyNext (.ref it)) (λr s1=>∃u,r=some u∧
   XQ (X7 P w) X.A (UV tg (.ref it) u) (λ_ s2=>∃x H',Inv X pins σ H' s2∧RelV x u∧J.yld i H x H'∧tn (i+1) s2.heap∧∀b∈fp,H' b=none) E s1) E s
 done:∀(X:Cx),X.prog=P->X.w=w->X.K=K->X.calm=true->∀(i:Nat) (pins:List (Addr×Obj)) (s:Xd) (σ:St) (H:Hp) (E:Xc->Xd->Prop),Inv X pins σ H s->(∀b∈fp,Zlk X pins H b)->tn i s.heap->J.stop i H ->
  XQ (X7 P w) X.A (pyNext (.ref it)) (λr s1=>r=none∧Inv X pins σ H s1) E s
 self:∀(A:Qk) (i:Nat) (s:Xd) (Q:Xc->Xd->Prop) (E:Xc->Xd->Prop),tn i s.heap->Q (.ref it) s->XQ (X7 P w) A (pyIter (.ref it)) Q E s
noncomputable abbrev TI:=St->Hp->(It->Hp->Prop)->Prop
noncomputable def PIE(X:Cx)(pins:List (Addr×Obj))(σ:St)(tg:Expr)(R:It->Hp->Prop)(itv:Xc)(s2:Xd):Prop :=
 ∃(it:Addr) (fp:List Addr) (tn:Nat->Heap->Prop) (J:It) (H':Hp),itv= .ref it∧Inv X pins σ H' s2∧Turn X.prog X.w X.K tg J fp it tn∧tn 0 s2.heap∧(∀b∈fp,Zlk X pins H' b)∧R J H'
noncomputable def PI(X:Cx)(tg iter:Expr)(wi:TI):Prop :=
 ∀(pins:List (Addr×Obj)) (s:Xd) (σ:St) (H:Hp) (R:It->Hp->Prop),Inv X pins σ H s->wi σ H R ->
  XQ (X7 X.prog X.w) X.A (eval iter X.env) (λv s1=>XQ (X7 X.prog X.w) X.A (pyIter v) (PIE X pins σ tg R) X.xe s1) X.xe s
theorem Zvo{M:Model}{A:Qk}{E:Xc->Xd->Prop}{s:Xd}{tg:Expr}{it:Addr}{u:Xc}{o:Obj}{n:String}{vs:Array Xc}{Q:Unit->Xd->Prop}(ho:s.heap.get? it=some o)(hc:o.cls= .type n)(hd:o.data= .fields vs)
  (hn:["enumerate","zip","dict_itemiterator","dict_reverseitemiterator","odict_iterator","itertools.zip_longest","itertools.pairwise"].contains n=false) (hQ:Q () s):XQ M A (UV tg (.ref it) u) Q E s:=by
 unfold UV
 cases tg<;>first
  | exact X5 hQ
  | (cases u<;>first
    | exact X5 hQ
    | (refine Xf (wpAny_load ho ?_)
       rw[hc,hd]
       show XQ M A (if(["enumerate","zip","dict_itemiterator","dict_reverseitemiterator","odict_iterator","itertools.zip_longest","itertools.pairwise"].contains n&&vs[0]? ==some (rawInt _))=true then _ else _) Q E s
       rw[if_neg (by intro h;rw[hn,Bool.false_and]at h;cases h)]
       exact X5 hQ))
noncomputable def Itl(K:Xb)(a:Addr):It :=
 ⟨λi H=>∃xs x,SqL K H a xs∧xs[i]? =some x,λi H x H'=>H'=H∧∀xs,SqL K H a xs->xs[i]? =some x,λi H=>∃xs,SqL K H a xs∧xs.length≤i⟩
noncomputable def Itt(K:Xb)(a:Addr):It :=
 ⟨λi H=>∃xs x,SqT K H a xs∧xs[i]? =some x,λi H x H'=>H'=H∧∀xs,SqT K H a xs->xs[i]? =some x,λi H=>∃xs,SqT K H a xs∧xs.length≤i⟩
noncomputable def Itr(lo:Int)(n:Nat):It:=⟨λi _=>i<n,λi H x H'=>H'=H∧x= .int (lo+i),λi _=>n≤i⟩
theorem Zsr{P:XH}{w:Qo}{K:Xb}{tg:Expr}(a it:Addr):Turn P w K tg (Itl K a) [it] it (λi h=>h.IsListIter it a i) where
 mem:=by simp
 obj:=λi h st b hb=>by
  have e:b=it:=by simpa using hb
  subst e
  obtain⟨o,e,c,d⟩:=st
  exact⟨o,e,λv z=>by rw[d]at z;cases z⟩
 keep:=λi h h' st k=>st.at λo e=>k it (by simp) o e
 item:=by
  intro X hP hw hK hc i pins s σ H E I hf st hg
  subst hP hw hK
  obtain⟨xs,x,hq,hx⟩:=hg
  obtain⟨its,rv,p,hz⟩:=I.list hq
  obtain⟨u,hu,ru⟩:=rv.get hx
  obtain⟨f0,f1,f2,f3,f4,f5⟩:=hf it (by simp)
  refine wpAny_pyNext_list_item st p.isList (x:=u) (by simpa using hu) λh' st' sb=>?_
  have I1:Inv X pins σ H { s with heap:=h' }:=I.turned (t':=s.toks) (λb o hb e=>(sb.2 b hb).trans e) f0 f1 f3 f4 f5
  obtain⟨o,e,c,d⟩:=id st'
  exact⟨u,rfl,Zvo (s:={ s with heap:=h' }) e c d (by decide) ⟨x,H,I1,ru,⟨rfl,λys hy=>by rw[I.list_inj hy hq];exact hx⟩,st',λb hb=>(hf b hb).1⟩⟩
 done:=by
  intro X hP hw hK hc i pins s σ H E I hf st hg
  subst hP hw hK
  obtain⟨xs,hq,hx⟩:=hg
  obtain⟨its,rv,p,hz⟩:=I.list hq
  obtain⟨f0,f1,f2,f3,f4,f5⟩:=hf it (by simp)
  have hl:=rv.length
  exact wpAny_pyNext_list_end (I.ok.hd hc) st p.isList (by simp;omega) λh' eb=>⟨rfl,I.turned (t':=s.toks) (λb o hb e=>eb b o hb e) f0 f1 f3 f4 f5⟩
 self:=λ_ _ _ _ _ st h=>wpAny_pyIter_listiter st h
theorem Zpn{P:XH}{w:Qo}{K:Xb}{tg:Expr}(a it:Addr):Turn P w K tg (Itt K a) [it] it (λi h=>h.IsTupleIter it a i) where
 mem:=by simp
 obj:=λi h st b hb=>by
  have e:b=it:=by simpa using hb
  subst e
  obtain⟨o,e,c,d⟩:=st
  exact⟨o,e,λv z=>by rw[d]at z;cases z⟩
 keep:=λi h h' st k=>st.at λo e=>k it (by simp) o e
 item:=by
  intro X hP hw hK hc i pins s σ H E I hf st hg
  subst hP hw hK
  obtain⟨xs,x,hq,hx⟩:=hg
  obtain⟨its,rv,p,hz⟩:=I.tuple hq
  obtain⟨u,hu,ru⟩:=rv.get hx
  obtain⟨f0,f1,f2,f3,f4,f5⟩:=hf it (by simp)
  refine wpAny_pyNext_tuple_item st (show s.heap.IsTuple a its.toArray from p) (x:=u) (by simpa using hu) λh' st' sb=>?_
  have I1:Inv X pins σ H { s with heap:=h' }:=I.turned (t':=s.toks) (λb o hb e=>(sb.2 b hb).trans e) f0 f1 f3 f4 f5
  obtain⟨o,e,c,d⟩:=id st'
  exact⟨u,rfl,Zvo (s:={ s with heap:=h' }) e c d (by decide) ⟨x,H,I1,ru,⟨rfl,λys hy=>by rw[I.tuple_inj hy hq];exact hx⟩,st',λb hb=>(hf b hb).1⟩⟩
 done:=by
  intro X hP hw hK hc i pins s σ H E I hf st hg
  subst hP hw hK
  obtain⟨xs,hq,hx⟩:=hg
  obtain⟨its,rv,p,hz⟩:=I.tuple hq
  obtain⟨f0,f1,f2,f3,f4,f5⟩:=hf it (by simp)
  have hl:=rv.length
  exact wpAny_pyNext_tuple_end (I.ok.hd hc) st (show s.heap.IsTuple a its.toArray from p) (by simp;omega) λh' eb=>⟨rfl,I.turned (t':=s.toks) (λb o hb e=>eb b o hb e) f0 f1 f3 f4 f5⟩
 self:=λ_ _ _ _ _ st h=>wpAny_pyIter_tupleiter st h
theorem Zqn{P:XH}{w:Qo}{K:Xb}{tg:Expr}(it:Addr)(lo:Int)(n:Nat):Turn P w K tg (Itr lo n) [it] it (λi h=>IsRangeIter h it (lo+(i:Nat)*1) ((n:Int)-(i:Nat)) 1) where
 mem:=by simp
 obj:=λi h st b hb=>by
  have e:b=it:=by simpa using hb
  subst e
  exact⟨_,st,λv z=>by
   have z':Data.fields _=Data.cell v:=z
   cases z'⟩
 keep:=λi h h' st k=>k it (by simp) _ st
 item:=by
  intro X hP hw hK hc i pins s σ H E I hf st hg
  subst hP hw hK
  obtain⟨f0,f1,f2,f3,f4,f5⟩:=hf it (by simp)
  have W:=Walks.range (prog:=X.prog) (w:=X.w) (I.ok.hd hc) it lo 1 n
  refine W.item i s _ _ hg st λv h' tk hv st' kk=>?_
  obtain⟨t,rfl⟩:=hv
  have I1:Inv X pins σ H { s with heap:=h',toks:=tk }:=I.turned (λb o hb e=>kk b o (by simpa using hb) e) f0 f1 f3 f4 f5
  refine⟨_,rfl,Zvo (s:={ s with heap:=h',toks:=tk }) (n :="range_iterator") st' rfl rfl (by decide) ⟨.int (lo+i),H,I1,⟨t,?_⟩,⟨rfl,rfl⟩,st',λb hb=>(hf b hb).1⟩⟩
  rw[Int.mul_one]
 done:=by
  intro X hP hw hK hc i pins s σ H E I hf st hg
  subst hP hw hK
  obtain⟨f0,f1,f2,f3,f4,f5⟩:=hf it (by simp)
  exact wpAny_pyNext_range_end (I.ok.hd hc) st (by have:n≤i:=hg;omega) λh' eb=>⟨rfl,I.turned (t':=s.toks) (λb o hb e=>eb b o hb e) f0 f1 f3 f4 f5⟩
 self:=λ_ _ _ _ _ st h=>wpAny_pyIter_rangeiter st h
section
variable {X:Cx}{tg:Expr}
noncomputable def Z6e(K:Xb)(tl:TE):TI:=λσ H R=>tl σ H λx H1=>∃a,x= .ref a∧(∃xs,SqL K H1 a xs)∧R (Itl K a) H1
noncomputable def Yb2(K:Xb)(tl:TE):TI:=λσ H R=>tl σ H λx H1=>∃a,x= .ref a∧(∃xs,SqT K H1 a xs)∧R (Itt K a) H1
theorem Z1j{l:Expr}{tl:TE}(hl:PE X l tl):PI X tg l (Z6e X.K tl):=by
 intro pins s σ H R I h
 refine thn (hl pins s σ H _ I h) λv s1 qz9=>?_
 obtain⟨x,H1,I1,r1,q1⟩:=qz9
 obtain⟨a,e,⟨xs,hq⟩,q⟩:=q1
 subst e
 cases r1
 obtain⟨its,rv,p,hz⟩:=I1.list hq
 refine wpAny_pyIter_list p.isList ?_
 refine⟨s1.heap.objs.size,[s1.heap.objs.size],_,_,H1,rfl,I1.kept (t':=s1.toks) λb o e=>Xj _ e,Zsr a _,⟨_,X3 _ rfl,rfl,rfl⟩,λb hb=>?_,q⟩
 have e:b=s1.heap.objs.size:=by simpa using hb
 subst e
 exact I1.fpOk (X6 _) (I1.hok.fresh (X6 _))
theorem Z2v{l:Expr}{tl:TE}(hl:PE X l tl):PI X tg l (Yb2 X.K tl):=by
 intro pins s σ H R I h
 refine thn (hl pins s σ H _ I h) λv s1 qz9=>?_
 obtain⟨x,H1,I1,r1,q1⟩:=qz9
 obtain⟨a,e,⟨xs,hq⟩,q⟩:=q1
 subst e
 cases r1
 obtain⟨its,rv,p,hz⟩:=I1.tuple hq
 refine wpAny_pyIter_tuple (show s1.heap.IsTuple a its.toArray from p) ?_
 refine⟨s1.heap.objs.size,[s1.heap.objs.size],_,_,H1,rfl,I1.kept (t':=s1.toks) λb o e=>Xj _ e,Zpn a _,⟨_,X3 _ rfl,rfl,rfl⟩,λb hb=>?_,q⟩
 have e:b=s1.heap.objs.size:=by simpa using hb
 subst e
 exact I1.fpOk (X6 _) (I1.hok.fresh (X6 _))
theorem Zpl{pins:List (Addr×Obj)}{σ:St}{H:Hp}{s:Xd}{R:It->Hp->Prop}{E:Xc->Xd->Prop}{lo hi:Int}{t u v:Tok}{tk:Nat}(I:Inv X pins σ H s)(h1:-(2^62)≤lo)(h2:lo<2^62)(h3:-(2^62)≤hi)(h4:hi<2^62)
  (q:R (Itr lo (hi-lo).toNat) H):XQ (X7 X.prog X.w) X.A (pyIter (.ref s.heap.objs.size)) (PIE X pins σ tg R) E { s with heap:=s.heap.push { cls:=.type "range",data:=.fields #[.int lo t,.int hi u,.int 1 v] },toks:=tk }:=by
 refine wpAny_pyIter_range (IsRange.new ..) (small_one h1 h2 h3 h4) ?_
 have I1:Inv X pins σ H { s with heap:=s.heap.push { cls:=.type "range",data:=.fields #[.int lo t,.int hi u,.int 1 v] },toks:=tk }:=I.kept λb o e=>Xj _ e
 refine⟨(s.heap.push { cls:=.type "range",data:=.fields #[.int lo t,.int hi u,.int 1 v] }).objs.size,[(s.heap.push { cls:=.type "range",data:=.fields #[.int lo t,.int hi u,.int 1 v] }).objs.size],_,_,H,rfl,
  I1.kept (t':=tk) λb o e=>Xj _ e,Zqn _ lo (hi-lo).toNat,?_,λb hb=>?_,q⟩
 ·have e1:lo+((0:Nat):Int)*1=lo:=by simp
  have e2:(((hi-lo).toNat:Nat):Int)-((0:Nat):Int)=Vr lo hi 1:=by rw[rangeSize_one];split<;>omega
  show IsRangeIter _ _ (lo+((0:Nat):Int)*1) ((((hi-lo).toNat:Nat):Int)-((0:Nat):Int)) 1
  rw[e1,e2]
  exact X3 _ rfl
 ·have e:b=(s.heap.push { cls:=.type "range",data:=.fields #[.int lo t,.int hi u,.int 1 v] }).objs.size:=by simpa using hb
  subst e
  exact I1.fpOk (X6 _) (I1.hok.fresh (X6 _))
noncomputable def Z9k(ta:TA):TI:=λσ H R=>ta σ H λvs H1=>∃j:Int,vs=[.int j]∧-(2^62)≤j∧j<2^62∧R (Itr 0 j.toNat) H1
noncomputable def Ya2(ta:TA):TI:=λσ H R=>ta σ H λvs H1=>∃i j:Int,vs=[.int i,.int j]∧(-(2^62)≤i∧i<2^62∧-(2^62)≤j∧j<2^62)∧R (Itr i (j-i).toNat) H1
theorem Ztz{a:Expr}{ta:TA}{p pos:Pos}(hg:Gl X "range")(hm:X.mg "range"=none)(ha:PA X [a] ta)(hs:Xq [a] X.env=[(false,eval a X.env)]:=by rfl):PI X tg (.Call (.Name "range" p) [a] [] pos) (Z9k ta):=by
 intro pins s σ H R I h
 refine Call_ (Zh7 I hg hm boot_range (Bj (thn (ha pos pins s σ H _ I h) λus s1 qz9=>?_) hs rfl))
 obtain⟨vs,H1,I1,r1,q1⟩:=qz9
 obtain⟨j,e,q1,q2,q⟩:=q1
 subst e
 cases r1 with
 | cons r rr=>
  cases rr
  obtain⟨t,rfl⟩:=r
  exact call_range_1 (Zpl I1 (by omega) (by omega) q1 q2 (by simpa using q))
theorem Zsa{a b:Expr}{ta:TA}{p pos:Pos}(hg:Gl X "range")(hm:X.mg "range"=none)(ha:PA X [a,b] ta)(hs:Xq [a,b] X.env=[(false,eval a X.env),(false,eval b X.env)]:=by rfl)(hs2:Xq [b] X.env=[(false,eval b X.env)]:=by rfl) :
  PI X tg (.Call (.Name "range" p) [a,b] [] pos) (Ya2 ta):=by
 intro pins s σ H R I h
 refine Call_ (Zh7 I hg hm boot_range (Bj (thn (ha pos pins s σ H _ I h) λus s1 ⟨vs,H1,I1,r1,q1⟩=>?_) (by rw[hs,hs2]) (by rw[hs2];rfl)))
 obtain⟨i,j,e,⟨q1,q2,q3,q4⟩,q⟩:=q1
 subst e
 cases r1 with
 | cons r rr=>
  cases rr with
  | cons r' rr=>
   cases rr
   obtain⟨t,rfl⟩:=r
   obtain⟨t',rfl⟩:=r'
   exact call_range_2 (Zpl I1 q1 q2 q3 q4 q)
noncomputable def Yep(wi:TI)(g:TG)(tb:TS):TS:=λD σ H=>wi σ H λJ H1=>∃W:Nat->Nat->St->Hp->Prop,(∃m,W 0 m σ H1)∧∀i m σ H,W i m σ H ->
 (J.stop i H∧D.nx σ H)∨(J.go i H∧∃N:St->Hp->Prop,(∀σ' H',N σ' H'->∃m',m'<m∧W (i+1) m' σ' H')∧∀x H',J.yld i H x H'->g x σ H' λσ2 H2=>tb { D with nx:=N,ct:=N,bk:=D.nx } σ2 H2)
noncomputable def Zlr(fp:List Addr)(h:Heap):List (Addr×Obj):=fp.filterMap λb=>(h.get? b).map λo=>(b,o)
theorem Zd8{fp:List Addr}{h:Heap}{b:Addr}{o:Obj}(hb:b∈fp)(e:h.get? b=some o):(b,o)∈Zlr fp h:=List.mem_filterMap.mpr ⟨b,hb,by rw[e];rfl⟩
theorem Zqz{fp:List Addr}{h:Heap}{p:Addr×Obj}(hp:p∈Zlr fp h):p.1∈fp∧h.get? p.1=some p.2:=by
 obtain⟨b,hb,e⟩:=List.mem_filterMap.mp hp
 cases q:h.get? b with
 | none=>rw[q]at e;cases e
 | some o=>
  rw[q]at e
  have e':(b,o)=p:=QC e
  subst e'
  exact⟨hb,q⟩
theorem Inv.pinned{pins:List (Addr×Obj)}{σ:St}{H:Hp}{s:Xd}{fp:List Addr}(I:Inv X pins σ H s)(hf:∀b∈fp,Zlk X pins H b)(ho:∀b∈fp,∃o,s.heap.get? b=some o∧∀v,o.data≠ .cell v):Inv X (pins ++ Zlr fp s.heap) σ H s :=
 I.pins_of λp hp=>(Q3.mp hp).elim (λz=>I.pin p (Qq _ z)) λz=>by
  obtain⟨hb,e⟩:=Zqz z
  obtain⟨f0,f1,f2,_⟩:=hf p.1 hb
  obtain⟨o,e',d⟩:=ho p.1 hb
  rw[e]at e';cases e'
  exact⟨e,f0,f1,f2,d⟩
theorem Inv.unpinned{pins pl:List (Addr×Obj)}{σ:St}{H:Hp}{s:Xd}(I:Inv X (pins ++ pl) σ H s):Inv X pins σ H s:=I.pins_of λp hp=>I.pin p (Qq _ (BW _ hp))
theorem Z4e{iter:Expr}{body:List Stmt}{wi:TI}{g:TG}{tb:TS}{pos:Pos}(hp:PassesOwn (X7 X.prog X.w) X.A X.env X.xe)(hc:X.calm=true)(hi:PI X tg iter wi)(hg:PG X tg g)(hb:PSs X body tb)
  (hs:∀x,Bp iter X.env x=pure x:=by intro _;rfl):PS X (.For tg iter body [] pos) (Yep wi g tb):=by
 intro pins s σ H D I h
 refine wpAny_For (thn (hi pins s σ H _ I h) λv s1 h1=>thn h1 λitv s2 h2=>?_) hs
 obtain⟨it,fp,tn,J,H2,e,I2,T,st2,f2,W,⟨m0,w0⟩,turn⟩:=h2
 subst e
 -- what stays true of the iterator's objects through the loop
 have stat:∀{H':Hp},(∀b∈fp,H' b=none)->∀b∈fp,Zlk X pins H' b:=λhn b hb=>⟨hn b hb,(f2 b hb).2⟩
 refine codeAny_forLoop_any (λn s'=>∃i σ' H',Inv X pins σ' H' s'∧tn i s'.heap∧(∀b∈fp,H' b=none)∧W i n σ' H') ?_ m0 ⟨0,σ,H2,I2,st2,λb hb=>(f2 b hb).1,w0⟩
 rintro n s3 ⟨i,σ3,H3,I3,st3,fr3,w3⟩
 rcases turn i n σ3 H3 w3 with⟨stop,qn⟩|⟨go,N,hN,step⟩
 ·refine Vm hp (thn (T.done X rfl rfl rfl hc i pins s3 σ3 H3 X.xe I3 (stat fr3) st3 stop) λr s4 qz9=>?_)
  obtain⟨hr,I4⟩:=qz9
  subst hr
  exact wpAny_execs_nil ⟨σ3,H3,I4,qn⟩
 ·refine Vm hp (thn (T.item X rfl rfl rfl hc i pins s3 σ3 H3 X.xe I3 (stat fr3) st3 go) λr s4 qz9=>?_)
  obtain⟨u,hr,h4⟩:=qz9
  subst hr
  refine Vm hp (thn h4 λ_ s5 qz9=>?_)
  obtain⟨x,H5,I5,r5,y5,st5,fr5⟩:=qz9
  have I5':=I5.pinned (stat fr5) (T.obj _ _ st5)
  refine Vm hp (thn (hg _ s5 σ3 H5 x u _ I5' r5 (step x H5 y5)) λ_ s6 qz9=>?_)
  obtain⟨σ6,H6,I6,q6⟩:=qz9
  refine Vm hp (thn (hb _ s6 σ6 H6 _ I6 q6) λf s7 q7=>?_)
  have again:∀{σ7:St} {H7:Hp},Inv X (pins ++ Zlr fp s5.heap) σ7 H7 s7->N σ7 H7->∃m,m<n∧∃i σ' H',Inv X pins σ' H' s7∧tn i s7.heap∧(∀b∈fp,H' b=none)∧W i m σ' H':=fun{σ7 H7} I7 n7=>by
   obtain⟨m',hm,w7⟩:=hN σ7 H7 n7
   refine⟨m',hm,i+1,σ7,H7,I7.unpinned,T.keep _ _ _ st5 λb hb o e=>(I7.pin (b,o) (Qq _ (Qq _ (Zd8 hb e)))).1,λb hb=>?_,w7⟩
   obtain⟨o,e,d⟩:=T.obj _ _ st5 b hb
   exact(I7.pin (b,o) (Qq _ (Qq _ (Zd8 hb e)))).2.1
  cases f with
  | next=>obtain⟨σ7,H7,I7,n7⟩:=q7;exact again I7 n7
  | cont=>obtain⟨σ7,H7,I7,n7⟩:=q7;exact again I7 n7
  | brk=>obtain⟨σ7,H7,I7,q7⟩:=q7;exact⟨σ7,H7,I7.unpinned,q7⟩
  | ret v=>obtain⟨x7,σ7,H7,I7,r7,q7⟩:=q7;exact⟨x7,σ7,H7,I7.unpinned,r7,q7⟩
end
noncomputable abbrev R2:=V->V->Hp->VK->Prop
noncomputable def OpR(X:Cx)(f:Xc->Xc->Sem Xc)(r:R2):Prop :=
 ∀(pins:List (Addr×Obj)) (s:Xd) (σ:St) (H:Hp) (x y:V) (v u:Xc) (Q:VK),Inv X pins σ H s->RelV x v->RelV y u->r x y H Q ->
  XQ (X7 X.prog X.w) X.A (f v u) (EP X pins σ Q) X.xe s
noncomputable def UnR(X:Cx)(f:Xc->Sem Xc)(r:V->Hp->VK->Prop):Prop :=
 ∀(pins:List (Addr×Obj)) (s:Xd) (σ:St) (H:Hp) (x:V) (v:Xc) (Q:VK),Inv X pins σ H s->RelV x v->r x H Q ->
  XQ (X7 X.prog X.w) X.A (f v) (EP X pins σ Q) X.xe s
noncomputable def Zcd(X:Cx)(f:Xc)(r:List V->Hp->VK->Prop):Prop :=
 ∀(pins:List (Addr×Obj)) (s:Xd) (σ:St) (H:Hp) (xs:List V) (us:List Xc) (Q:VK),Inv X pins σ H s->Vals xs us->r xs H Q ->
  XQ (X7 X.prog X.w) X.A (call f us) (EP X pins σ Q) X.xe s
noncomputable def Yd9(X:Cx)(r:V->Hp->(Bool->Hp->Prop)->Prop):Prop :=
 ∀(pins:List (Addr×Obj)) (s:Xd) (σ:St) (H:Hp) (x:V) (v:Xc) (Q:Bool->Hp->Prop),Inv X pins σ H s->RelV x v->r x H Q ->
  XQ (X7 X.prog X.w) X.A (truthy v) (TP X pins σ Q) X.xe s
noncomputable def tOp(r:R2)(ta tb:TE):TE:=λσ H Q=>ta σ H λx H1=>tb σ H1 λy H2=>r x y H2 Q
noncomputable def tUn(r:V->Hp->VK->Prop)(ta:TE):TE:=λσ H Q=>ta σ H λx H1=>r x H1 Q
noncomputable def rI(C:Int->Int->Prop)(g:Int->Int->V):R2:=λx y H Q=>∃i j,x= .int i∧y= .int j∧C i j∧Q (g i j) H
noncomputable def rI0(g:Int->Int->V):R2:=λx y H Q=>∃i j,x= .int i∧y= .int j∧Q (g i j) H
noncomputable def rU(g:Int->V):V->Hp->VK->Prop:=λx H Q=>∃i,x= .int i∧Q (g i) H
section
variable {X:Cx}{a b c:Expr}{ta tb tc:TE}{pos:Pos}
theorem Z85(ha:PE X a ta)(hb:PE X b tb){pins:List (Addr×Obj)}{s:Xd}{σ:St}{H:Hp}{R:V->V->Hp->Prop}(I:Inv X pins σ H s)
  (h:ta σ H λx H1=>tb σ H1 λy H2=>R x y H2) {Q:Xc->Xd->Prop} {f:Xc->Xc->Sem Xc}
  (hf:∀v u s2 x y H2,Inv X pins σ H2 s2->RelV x v->RelV y u->R x y H2->XQ (X7 X.prog X.w) X.A (f v u) Q X.xe s2) :
  XQ (X7 X.prog X.w) X.A (eval a X.env) (λv s₁=>XQ (X7 X.prog X.w) X.A (eval b X.env) (λu s₂=>XQ (X7 X.prog X.w) X.A (f v u) Q X.xe s₂) X.xe s₁) X.xe s:=by
 refine thn (ha pins s σ H _ I h) λv s1 qz9=>?_
 obtain⟨x,H1,I1,r1,q1⟩:=qz9
 refine thn (hb pins s1 σ H1 _ I1 q1) λu s2 qz9=>?_
 obtain⟨y,H2,I2,r2,q2⟩:=qz9
 exact hf v u s2 x y H2 I2 r1 r2 q2
theorem Z0w{op:Operator}{r:R2}(ho:OpR X (VN op) r)(ha:PE X a ta)(hb:PE X b tb):PE X (.BinOp a op b pos) (tOp r ta tb):=by
 intro pins s σ H Q I h
 exact wpAny_BinOp (Z85 ha hb I h λv u s2 x y H2 I2 rx ry q=>ho pins s2 σ H2 x y v u Q I2 rx ry q)
theorem Z8v{op:UnaryOp}{r:V->Hp->VK->Prop}(ho:UnR X (unaryOp op) r)(ha:PE X a ta):PE X (.UnaryOp op a pos) (tUn r ta):=by
 intro pins s σ H Q I h
 refine UnaryOp_ (thn (ha pins s σ H _ I h) λv s1 qz9=>?_)
 obtain⟨x,H1,I1,r1,q1⟩:=qz9
 exact ho pins s1 σ H1 x v Q I1 r1 q1
theorem opI{f:Xc->Xc->Sem Xc}{C:Int->Int->Prop}{g:Int->Int->Int}
  (rule:∀(i j:Int) (t u:Tok) (s:Xd) (Q:Xc->Xd->Prop) (E:Xc->Xd->Prop),C i j->Q (.int (g i j) s.toks) { s with toks:=s.toks+1 }->XQ (X7 X.prog X.w) X.A (f (.int i t) (.int j u)) Q E s) :
  OpR X f (rI C λi j=>.int (g i j)):=by
 intro pins s σ H x y v u Q I rx ry h
 obtain⟨i,j,rfl,rfl,hc,q⟩:=h
 obtain⟨t,rfl⟩:=rx
 obtain⟨t',rfl⟩:=ry
 exact rule i j t t' s _ _ hc ⟨.int (g i j),H,I.tok _,⟨_,rfl⟩,q⟩
theorem Yb1{f:Xc->Xc->Sem Xc}{g:Int->Int->Int}
  (rule:∀(i j:Int) (t u:Tok) (s:Xd) (Q:Xc->Xd->Prop) (E:Xc->Xd->Prop),Q (.int (g i j) s.toks) { s with toks:=s.toks+1 }->XQ (X7 X.prog X.w) X.A (f (.int i t) (.int j u)) Q E s) :
  OpR X f (rI0 λi j=>.int (g i j)):=by
 intro pins s σ H x y v u Q I rx ry h
 obtain⟨i,j,rfl,rfl,q⟩:=h
 obtain⟨t,rfl⟩:=rx
 obtain⟨t',rfl⟩:=ry
 exact rule i j t t' s _ _ ⟨.int (g i j),H,I.tok _,⟨_,rfl⟩,q⟩
theorem Z7i{f:Xc->Xc->Sem Xc}{g:Int->Int->Bool}
  (rule:∀(i j:Int) (t u:Tok) (s:Xd) (Q:Xc->Xd->Prop) (E:Xc->Xd->Prop),Q (.bool (g i j)) s->XQ (X7 X.prog X.w) X.A (f (.int i t) (.int j u)) Q E s) :
  OpR X f (rI0 λi j=>.bl (g i j)):=by
 intro pins s σ H x y v u Q I rx ry h
 obtain⟨i,j,rfl,rfl,q⟩:=h
 obtain⟨t,rfl⟩:=rx
 obtain⟨t',rfl⟩:=ry
 exact rule i j t t' s _ _ ⟨.bl (g i j),H,I,rfl,q⟩
noncomputable def Z7u(i j:Int):Prop:=0≤j∧j≤1000000∧i.natAbs<2^64
noncomputable def CMul(i j:Int):Prop:=(-(2^64)<i∧i<2^64)∨(-(2^64)<j∧j<2^64)
theorem CMul.ok{i j:Int}(h:CMul i j):IntMulOk i j:=by
 rcases h with⟨h1,h2⟩|⟨h1,h2⟩
 ·exact .of_left (intBits_le_64 h1 h2)
 ·exact .of_right (intBits_le_64 h1 h2)
theorem Z37:OpR X (VN .Add) (rI0 λi j=>.int (i+j)):=Yb1 λ_ _ _ _ _ _ _ q=>add_int q
theorem Z5n:OpR X (VN .Sub) (rI0 λi j=>.int (i-j)):=Yb1 λ_ _ _ _ _ _ _ q=>sub_int q
theorem Zzx:OpR X (VN .Mod) (rI (λ_ j=>j≠0) λi j=>.int (i.fmod j)):=opI λ_ _ _ _ _ _ _ hc q=>mod_int' hc q
theorem Z42:OpR X (VN .Pow) (rI Z7u λi j=>.int (i^j.toNat)):=opI λ_ _ _ _ _ _ _ hc q=>pow_int_small hc.1 hc.2.1 hc.2.2 q
theorem unI{f:Xc->Sem Xc}{g:Int->Int}
  (rule:∀(i:Int) (t:Tok) (s:Xd) (Q:Xc->Xd->Prop) (E:Xc->Xd->Prop),Q (.int (g i) s.toks) { s with toks:=s.toks+1 }->XQ (X7 X.prog X.w) X.A (f (.int i t)) Q E s) :
  UnR X f (rU λi=>.int (g i)):=by
 intro pins s σ H x v Q I rx h
 obtain⟨i,rfl,q⟩:=h
 obtain⟨t,rfl⟩:=rx
 exact rule i t s _ _ ⟨.int (g i),H,I.tok _,⟨_,rfl⟩,q⟩
theorem Z4x:UnR X (unaryOp .USub) (rU λi=>.int (-i)):=unI λ_ _ _ _ _ q=>neg_int q
end
section
variable {X:Cx}{a b c:Expr}{ta tb tc:TE}{pos:Pos}
theorem Zwk:OpR X (JS .Lt) (rI0 λi j=>.bl (decide (i<j))):=Z7i λ_ _ _ _ _ _ _ q=>lt_int q
theorem Yas:OpR X (JS .LtE) (rI0 λi j=>.bl (decide (i≤j))):=Z7i λ_ _ _ _ _ _ _ q=>le_int q
theorem Zye:OpR X (JS .Gt) (rI0 λi j=>.bl (decide (j<i))):=Z7i λ_ _ _ _ _ _ _ q=>gt_int q
theorem Zy2:OpR X (JS .GtE) (rI0 λi j=>.bl (decide (j≤i))):=Z7i λ_ _ _ _ _ _ _ q=>ge_int q
theorem Jr(b:Expr){op:CmpOp}(h:op≠ .In:=by decide)(h2:op≠ .NotIn:=by decide):Ut op b=false:=by
 have e1:(op==CmpOp.In)=false:=by cases op<;>first|rfl|exact absurd rfl h
 have e2:(op==CmpOp.NotIn)=false:=by cases op<;>first|rfl|exact absurd rfl h2
 cases b<;>simp[Ut,e1,e2]
theorem Zy9{op:CmpOp}{r:R2}(ho:OpR X (JS op) r)(ha:PE X a ta)(hb:PE X b tb)(hm:Ut op b=false):PE X (.Compare a [op] [b] pos) (tOp r ta tb):=by
 intro pins s σ H Q I h
 exact wpAny_Compare1 (Z85 ha hb I h λv u s2 x y H2 I2 rx ry q=>ho pins s2 σ H2 x y v u Q I2 rx ry q) hm
noncomputable def Z4m(t:TE):TT:=λσ H Q=>t σ H λx H'=>∃k,x= .bl k∧Q k H'
theorem Zzg{op:CmpOp}{r:R2}(ho:OpR X (JS op) r)(ha:PE X a ta)(hb:PE X b tb)(hm:Ut op b=false):PT X (.Compare a [op] [b] pos) (Z4m (tOp r ta tb)):=by
 intro pins s σ H Q I h
 refine wpAny_isTrue_Compare1 (thn (ha pins s σ H _ I h) λv s1 ⟨x,H1,I1,r1,q1⟩=>thn (hb pins s1 σ H1 _ I1 q1) λu s2 ⟨y,H2,I2,r2,q2⟩=>
  thn (ho pins s2 σ H2 x y v u _ I2 r1 r2 q2) λc s3 ⟨z,H3,I3,r3,k,e,q3⟩=>?_) hm
 subst e
 cases r3
 exact V9 ⟨H3,I3,q3⟩
noncomputable def Z75(K:Xb)(x:V)(H:Hp)(k:Bool):Prop :=
 match x with
 | .non=>k=false
 | .bl b=>k=b
 | .int i=>k=(i !=0)
 | .str y=>y.length≤Xr∧k=((y.length:Int) !=0)
 | .byt y=>y.size≤Xr∧k=((y.size:Int) !=0)
 | .ref p=>(∃xs,SqL K H p xs∧k= !xs.isEmpty)∨(∃xs,SqT K H p xs∧k= !xs.isEmpty)∨∃kvs,H p=some (.dK kvs)∧k= !kvs.isEmpty
 | _=>False
theorem Zp5{κ:Type}{kvs:List (κ×V)}{vs:List (κ×Xc)}(r:KV kvs vs):(!vs.isEmpty)= !kvs.isEmpty:=by
 cases r<;>rfl
theorem Zj8{xs:List V}{its:List Xc}(r:Vals xs its):(!its.toArray.isEmpty)= !xs.isEmpty:=by
 cases r<;>simp
theorem Zj0:(Xr:Nat)<2^63:=by rw[Qc];decide
theorem Z1y:Yd9 X (λx H Q=>∃k,Z75 X.K x H k∧Q k H):=by
 intro pins s σ H x v Q I rx h
 obtain⟨k,e,q⟩:=h
 have hl:=Zj0
 have hs:Xr=16777216:=Qc
 cases x with
 | non=>
  cases rx
  have e':k=false:=e
  subst e'
  exact truthy_none ⟨H,I,q⟩
 | bl b=>
  cases rx
  have e':k=b:=e
  subst e'
  exact V9 ⟨H,I,q⟩
 | int i=>
  obtain⟨t,rfl⟩:=rx
  have e':k=(i !=0):=e
  subst e'
  exact PySem.P.truthy_int ⟨H,I,q⟩
 | str y=>
  obtain⟨t,rfl⟩:=rx
  obtain⟨hy,e'⟩:y.length≤Xr∧k=((y.length:Int) !=0):=e
  subst e'
  exact PySem.P.truthy_str (by omega) ⟨H,I.tok _,q⟩
 | byt y=>
  obtain⟨t,rfl⟩:=rx
  obtain⟨hy,e'⟩:y.size≤Xr∧k=((y.size:Int) !=0):=e
  subst e'
  exact PySem.W.truthy_bytes (by omega) ⟨H,I.tok _,q⟩
 | ref p=>
  cases rx
  have e':(∃xs,SqL X.K H p xs∧k= !xs.isEmpty)∨(∃xs,SqT X.K H p xs∧k= !xs.isEmpty)∨∃kvs,H p=some (.dK kvs)∧k= !kvs.isEmpty:=e
  rcases e' with⟨xs,hx,e'⟩|⟨xs,hx,e'⟩|⟨kvs,hx,e'⟩
  ·subst e'
   obtain⟨its,r,pl,hz⟩:=I.list hx
   have hlen:=r.length
   exact wpAny_truthy_list pl.isList (by simp only[Xv];omega) ⟨H,I.tok _,by rw[Zj8 r];exact q⟩
  ·subst e'
   obtain⟨its,r,pl,hz⟩:=I.tuple hx
   have hlen:=r.length
   exact truthy_tuple pl (by simp only[Xv];omega) ⟨H,I.tok _,by rw[Zj8 r];exact q⟩
  ·subst e'
   obtain⟨hz,hS,vs,r,m⟩:kvs.length≤Xr∧(p==sysModules)=false∧∃vs,KV kvs vs∧s.heap.DictOf (Zm9 X.prog X.w) p vs:=I.hok p _ hx
   have hlen:kvs.length=vs.length:=Paired.length r
   exact wpAny_truthy_dict hS m (by omega) ⟨H,I.tok _,by rw[Zp5 r];exact q⟩
 | _=>exact(show False from e).elim
theorem Zvb(ha:PE X a ta)(he:∀whole,isTrue a X.env whole=(do let v←whole;standAt a.pos;holding [v] (truthy v))) :
  PT X a (λσ H Q=>ta σ H λx H'=>∃k,Z75 X.K x H' k∧Q k H'):=by
 intro pins s σ H Q I h
 refine isTrue_plain (thn (ha pins s σ H _ I h) λv s1 qz9=>?_) (he _)
 obtain⟨x,H1,I1,r1,q1⟩:=qz9
 exact Z1y pins s1 σ H1 x v Q I1 r1 q1
theorem vals1{x:V}{us:List Xc}(r:Vals [x] us):∃u,us=[u]∧RelV x u:=by
 cases r with
 | cons r1 r2=>cases r2;exact⟨_,rfl,r1⟩
theorem vals2{x y:V}{us:List Xc}(r:Vals [x,y] us):∃u w',us=[u,w']∧RelV x u∧RelV y w':=by
 cases r with
 | cons r1 r2=>
  cases r2 with
  | cons r3 r4=>cases r4;exact⟨_,_,rfl,r1,r3⟩
theorem Zlb:Zcd X (.builtin "abs") (λxs H Q=>∃i,xs=[.int i]∧Q (.int (if i<0 then -i else i)) H):=by
 intro pins s σ H xs us Q I r h
 obtain⟨i,rfl,q⟩:=h
 obtain⟨u,rfl,t,rfl⟩:=vals1 r
 exact call_abs_int λu tk=>⟨.int (if i<0 then -i else i),H,I.tok _,⟨_,rfl⟩,q⟩
theorem Zse(hc:X.calm=true):Zcd X (.builtin "max") (λxs H Q=>∃i j,xs=[.int i,.int j]∧Q (.int (if j>i then j else i)) H):=by
 intro pins s σ H xs us Q I r h
 obtain⟨i,j,rfl,q⟩:=h
 obtain⟨u,w',rfl,⟨t,rfl⟩,⟨t',rfl⟩⟩:=vals2 r
 refine max_two_ints (I.ok.hd hc) λh' tk k=>⟨_,H,I.kept k,?_,q⟩
 by_cases hj:j>i
 ·rw[if_pos hj,if_pos hj];exact⟨_,rfl⟩
 ·rw[if_neg hj,if_neg hj];exact⟨_,rfl⟩
theorem Zmu(hc:X.calm=true):Zcd X (.builtin "min") (λxs H Q=>∃i j,xs=[.int i,.int j]∧Q (.int (if j<i then j else i)) H):=by
 intro pins s σ H xs us Q I r h
 obtain⟨i,j,rfl,q⟩:=h
 obtain⟨u,w',rfl,⟨t,rfl⟩,⟨t',rfl⟩⟩:=vals2 r
 refine min_two_ints (I.ok.hd hc) λh' tk k=>⟨_,H,I.kept k,?_,q⟩
 by_cases hj:j<i
 ·rw[if_pos hj,if_pos hj];exact⟨_,rfl⟩
 ·rw[if_neg hj,if_neg hj];exact⟨_,rfl⟩
theorem Zqw:Zcd X (.type "int") (λxs H Q=>(∃i,xs=[.int i]∧Q (.int i) H)∨∃k,xs=[.bl k]∧Q (.int (if k then 1 else 0)) H):=by
 intro pins s σ H xs us Q I r h
 rcases h with⟨i,rfl,q⟩|⟨k,rfl,q⟩
 ·obtain⟨u,rfl,t,rfl⟩:=vals1 r
  exact call_int_int ⟨.int i,H,I,⟨_,rfl⟩,q⟩
 ·obtain⟨u,rfl,r1⟩:=vals1 r
  cases r1
  exact call_int_bool ⟨.int (if k then 1 else 0),H,I.tok _,⟨_,rfl⟩,q⟩
end
structure ObjM(h:Heap)(x dx C:Addr)(mA:Str->Option Xc):Prop where
 obj:h.get? x=some (PySem.W.instObj C dx)
 ns:h.Ns1 dx mA
 ne:dx≠x
theorem Zr3{h:Heap}{dx:Addr}{mA:Str->Option Xc}(n:h.Ns1 dx mA):∃od,h.get? dx=some od∧∀name,PySem.W.lookIn name od=some (mA name):=by
 obtain⟨o,es,ep,ho,hd,hk,_,hm⟩:=n
 refine⟨o,ho,λname=>?_⟩
 have e:=hm name
 unfold nsFind findBy at e
 rw[←Array.find?_toList]at e
 unfold PySem.W.lookIn
 rw[hd]
 dsimp only
 split
 ·rename_i y q
  rw[q]at e
  exact congrArg some e
 ·rename_i q
  rw[q]at e
  have a:es.toList.any (·.refKey)=false:=by
   rw[List.any_eq_false]
   intro y hy
   obtain⟨z,t,hkey⟩:=hk y (Array.mem_toList_iff.mp hy)
   simp[DictEntry.refKey,hkey]
  have a':¬es.toList.any (·.refKey)=true:=by rw[a];exact XF
  rw[if_neg a']
  exact congrArg some e
theorem ObjM.look{h:Heap}{x dx C:Addr}{mA:Str->Option Xc}(I:ObjM h x dx C mA):∃od,PySem.W.InstAt h x (PySem.W.instObj C dx) C (some od)∧∀name,PySem.W.lookIn name od=some (mA name) :=
 let⟨od,ho,hl⟩:=Zr3 I.ns
 ⟨od,⟨I.obj,rfl,rfl,ho⟩,hl⟩
section
variable {prog:XH}{w:Qo}{A:Qk}{E:Xc->Xd->Prop}{s:Xd}{K:Xb}{x dx C f:Addr}{mA:Str->Option Xc}{name:Str}{v:Xc}
end
section
variable {P:XH}{w:Qo}{H H':Hp}{h h':Heap}{a C dx:Addr}{fs fs':List (Str×V)}
theorem Z07(hok:HOk P w H h)(e:H a=some (.ins C dx fs)):∃mA,ObjM h a dx C mA∧(∀f,RelO (fs.lookup f) (mA f))∧PySem.Within mA (fs.map (·.1))∧fs.length≤1000∧H dx=some (.own a):=by
 obtain⟨d,z,ne,ob,mA,n,r,q⟩:=(show ObjOk P w H h a (.ins C dx fs)from hok a _ e)
 exact⟨mA,⟨ob,n,ne⟩,r,q,z,d⟩
end
structure Cls(K:Xb)(C:Addr):Prop where
 pg:PySem.W.plainGet K C Str.empty=true
 hd:PySem.W.hasDictIn K C=true
 po:PySem.W.plainOver K C=true
 sa:Va K (.ref C) "__setattr__"=some (some (.builtin "object.__setattr__"))
theorem Cls.get{K:Xb}{C:Addr}(c:Cls K C)(f:Str):PySem.W.plainGet K C f=true:=c.pg
structure Con(K:Xb)(C:Addr)(f:Str)(v:V)(u:Xc):Prop where
 at_:Va K (.ref C) f=some (some u)
 rel:RelV v u
 get:PySem.W.specialIn K u "__get__"=some none
 cp:PySem.W.copiedNames.contains f=false
structure Meth(K:Xb)(C:Addr)(m:Str)(f:Addr):Prop where
 at_:Va K (.ref C) m=some (some (.ref f))
 fn:PySem.W.isFn K (.ref f)=true
 kp:BZ K (.ref f)=true
section
variable {X:Cx}{pins:List (Addr×Obj)}{σ:St}{H:Hp}{s:Xd}{a C dx:Addr}{fs:List (Str×V)}{f:Str}{v:V}{A:Qk}{E:Xc->Xd->Prop}
end
section
variable {X:Cx}{o e value:Expr}{f:Str}{pos pos' tpos:Pos}{ta tv:TE}
end
section
variable {X:Cx}{pins:List (Addr×Obj)}{σ:St}{H:Hp}{s:Xd}{A:Qk}{E:Xc->Xd->Prop}{Q:Xc->Xd->Prop}{c:Xc}{b:Bool}
inductive Zqr(K:Xb)(H:Hp):V->Xc->Prop where
 | non:Zqr K H .non (.type "NoneType")
 | bl (x:Bool):Zqr K H (.bl x) (.type "bool")
 | int (i:Int):Zqr K H (.int i) (.type "int")
 | str (x:Str):Zqr K H (.str x) (.type "str")
 | flt (x:UInt64):Zqr K H (.flt x) (.type "float")
 | lst {a:Addr} {xs:List V} (e:H a=some (.lst xs)):Zqr K H (.ref a) (.type "list")
 | frz {a:Addr} {o:Obj} {xs:List V} (e:H a=some (.frz o (.lst xs))):Zqr K H (.ref a) (.type "list")
 | tup {a:Addr} {xs:List V} (e:H a=some (.tup xs)):Zqr K H (.ref a) (.type "tuple")
 | dK {a:Addr} {kvs:List (Key×V)} (e:H a=some (.dK kvs)):Zqr K H (.ref a) (.type "dict")
 | dT {a:Addr} {kvs:List (List Key×V)} (e:H a=some (.dT kvs)):Zqr K H (.ref a) (.type "dict")
 | ins {a C dx:Addr} {fs:List (Str×V)} (e:H a=some (.ins C dx fs)) (cl:Cls K C) (ha:Va K (.ref C) "__class__"=some (some (.builtin "object.__class__")))
   (hn:PySem.W.specialIn K (.builtin "object.__class__") "__get__"=some (some (.builtin "getset_descriptor.__get__"))) (htk:PySem.W.takesIn K (.builtin "object.__class__")=some true)
   (hm:PySem.W.mroIn K C (.type "object")=some true):Zqr K H (.ref a) (.ref C)
theorem Zba{x:V}{u t:Xc}(I:Inv X pins σ H s)(rx:RelV x u)(ty:Zqr X.K H x t)(e:BX X.K t c=some b)(h:∀tk,Q (.bool b) { s with toks:=tk }) :
  XQ (X7 X.prog X.w) A (call (.builtin "isinstance") [u,c]) Q E s:=by
 cases ty with
 | non=>cases(show u=QK from rx);exact Q7 PySem.W.kitx_none I.kIn Uz e (λz=>nomatch z) h
 | bl y=>cases(show u=Uv y from rx);exact Q7 PySem.W.kitx_bool I.kIn Uz e (λz=>nomatch z) h
 | int i=>obtain⟨t,q⟩:=(show∃t,u=Value.int i t from rx);cases q;exact Q7 PySem.W.kitx_int I.kIn Uz e (λz=>nomatch z) h
 | str y=>obtain⟨t,q⟩:=(show∃t,u=Value.str y t from rx);cases q;exact Q7 PySem.W.kitx_str I.kIn Uz e (λz=>nomatch z) h
 | flt y=>obtain⟨t,q⟩:=(show∃t,u=Xc.float y t from rx);cases q;exact Q7 PySem.W.kitx_float I.kIn Uz e (λz=>nomatch z) h
 | @lst a xs ea=>
  cases(show u=QX a from rx)
  obtain⟨_,_,n,_,h1⟩:=(show ObjOk X.prog X.w H s.heap a (.lst xs)from I.hok a _ ea)
  exact Q7 PySem.W.kitx_list I.kIn ⟨_,h1,rfl⟩ e (λz=>nomatch z) h
 | @frz a ob xs ea=>
  cases(show u=QX a from rx)
  obtain⟨_,_,_,n,_,h1⟩:=(show ObjOk X.prog X.w H s.heap a (.frz ob (.lst xs))from I.hok a _ ea)
  exact Q7 PySem.W.kitx_list I.kIn ⟨_,h1,rfl⟩ e (λz=>nomatch z) h
 | @tup a xs ea=>
  cases(show u=QX a from rx)
  obtain⟨_,_,_,p⟩:=(show ObjOk X.prog X.w H s.heap a (.tup xs)from I.hok a _ ea)
  obtain⟨o,h1,h2,_⟩:=p
  exact Q7 PySem.W.kitx_tuple I.kIn ⟨o,h1,h2⟩ e (λz=>nomatch z) h
 | @dK a kvs ea=>
  cases(show u=QX a from rx)
  obtain⟨_,_,vs,_,p⟩:=(show ObjOk X.prog X.w H s.heap a (.dK kvs)from I.hok a _ ea)
  obtain⟨o,es,ep,h1,h2,_⟩:=p
  exact Q7 PySem.W.kitx_dict I.kIn ⟨o,h1,h2.1⟩ e (λz=>nomatch z) h
 | @dT a kvs ea=>
  cases(show u=QX a from rx)
  obtain⟨_,_,xs,_,o,es,ep,h1,h2,_⟩:=(show ObjOk X.prog X.w H s.heap a (.dT kvs)from I.hok a _ ea)
  exact Q7 PySem.W.kitx_dict I.kIn ⟨o,h1,h2.1⟩ e (λz=>nomatch z) h
 | @ins a C dx fs ea cl ha hn htk hm=>
  cases(show u=QX a from rx)
  obtain⟨mA,O,_⟩:=Z07 I.hok ea
  obtain⟨od,J,_⟩:=O.look
  exact Q7 (PySem.W.kitx_own (cl.get _) cl.hd ha hn htk hm) I.kIn J e (λz=>nomatch z) h
end
structure Room(k:Nat)(A:Qk):Prop where
 hd:A.handled=none
 dp:A.depth+3*k+5<recursionLimit
 un:A.units+16*k+200<Ui
theorem Room.mono{j k:Nat}{A:Qk}(r:Room k A)(h:j≤k):Room j A:=⟨r.hd,by have:=r.dp;omega,by have:=r.un;omega⟩
theorem Room.deeper{k:Nat}{A:Qk}(r:Room (k+1) A)(env:Env):Room k (A.deeper env) :=
 ⟨r.hd,by have:=r.dp;show A.depth+1+3*k+5<_;omega,by have:=r.un;show A.units+3+16*k+200<_;omega⟩
theorem Room.depth{k:Nat}{A:Qk}(r:Room k A):A.depth<recursionLimit:=by have:=r.dp;omega
theorem Room.units{k:Nat}{A:Qk}(r:Room k A):A.units+64<Ui:=by have:=r.un;omega
noncomputable def Yeh:TA:=λ_ H Q=>Q [] H
noncomputable def Ya0(ta:TE)(tr:TA):TA:=λσ H Q=>ta σ H λx H1=>tr σ H1 λxs H2=>Q (x :: xs) H2
section
variable {X:Cx}{e:Expr}{es:List Expr}{te:TE}{t:TA}{pos:Pos}
theorem Zod:PA X [] Yeh:=λ_ _ _ _ H Q I h=>Calls.spliced_nil ⟨[],H,I,.nil,h⟩
theorem Zja(ha:PE X e te)(hr:PA X es t)(hs:Xq (e :: es) X.env=(false,eval e X.env) :: Xq es X.env:=by rfl):PA X (e :: es) (Ya0 te t):=by
 intro pos pins s σ H Q I h
 rw[hs]
 show XQ _ _ (spliced ((false,eval e X.env) :: BV pos (Xq es X.env))) _ _ s
 refine Calls.spliced_cons (thn (ha pins s σ H _ I h) λu s1 qz9=>?_)
 obtain⟨x,H1,I1,r1,q1⟩:=qz9
 refine thn (hr pos pins s1 σ H1 _ I1 q1) λus s2 qz9=>?_
 obtain⟨xs,H2,I2,r2,q2⟩:=qz9
 exact⟨x :: xs,H2,I2,.cons r1 r2,q2⟩
noncomputable def Ydy(t:TA):TE:=λσ H Q=>t σ H λxs H1=>xs.length≤Xr∧∀p,H1 p=none->Q (.ref p) (upd H1 p (.tup xs))
noncomputable def Yd7(t:TA):TE:=λσ H Q=>t σ H λxs H1=>xs.length≤Xr∧∀p,H1 p=none->Q (.ref p) (upd H1 p (.lst xs))
theorem Zxd{x1}(h:PA X es t):PE X (.Tuple es x1 pos) (Ydy t):=by
 intro pins s σ H Q I hq
 refine wpAny_Tuple_spliced (thn (h pos pins s σ H _ I hq) λus s1 ⟨xs,H1,I1,r,z,q⟩=>⟨by rw[←r.length];exact z,?_⟩)
 have hf:H1 s1.heap.objs.size=none:=I1.hok.fresh (X6 _)
 refine⟨.ref s1.heap.objs.size,upd H1 s1.heap.objs.size (.tup xs),I1.laid (t':=s1.toks) (λb u e=>Xj _ e) (X6 _) ?_,rfl,q _ hf⟩
 exact⟨z,us,r,⟨_,X3 _ rfl,rfl,_,rfl⟩⟩
theorem Zxu(h:PA X es t):PE X (.List es pos) (Yd7 t):=by
 intro pins s σ H Q I hq
 refine wpAny_List_spliced (thn (h pos pins s σ H _ I hq) λus s1 ⟨xs,H1,I1,r,z,q⟩=>⟨by rw[←r.length];exact z,?_⟩)
 have hf:H1 s1.heap.objs.size=none:=I1.hok.fresh (X6 _)
 refine⟨.ref s1.heap.objs.size,upd H1 s1.heap.objs.size (.lst xs),I1.laid (t':=s1.toks) (λb u e=>Xj _ e) (X6 _) ?_,rfl,q _ hf⟩
 exact⟨z,us,0,r,X3 _ rfl⟩
end
noncomputable abbrev Sp:=List V->Hp->VK->XK->Prop
noncomputable abbrev CXT:=List Env->Hp->Xd->XK->Xc->Xd->Prop
structure Z7v(P:XH)(w:Qo)(K:Xb)(mg:Str->Option Xc)(base:Heap)(A:Qk)(outer:List Env)(s:Xd)(H:Hp):Prop where
 frames:A.frames=some outer
 mod:Mod K mg base
 bs:∀b o,base.get? b=some o->s.heap.get? b=some o∧H b=none
 bsz:base.objs.size≤s.heap.objs.size
 funs:s.heap.FunFrames base outer
 frf:∀b∈frs outer,H b=none
 hok:HOk P w H s.heap
 bare:AllBare s.gens
noncomputable def CE(outer:List Env)(P:XH)(w:Qo)(H:Hp)(s:Xd)(Q:VK)(u:Xc)(s':Xd):Prop :=
 ∃v H',s'.os=s.os∧AllBare s'.gens∧Un (frs outer) [] H H' s.heap s'.heap∧HOk P w H' s'.heap∧RelV v u∧Q v H'
noncomputable def CR(CX:CXT)(outer:List Env)(P:XH)(w:Qo)(H:Hp)(s:Xd)(Q:VK)(E:XK)(r:Result)(s':Xd):Prop :=
 match r with
 | .ok (.ret u)=>CE outer P w H s Q u s'
 | .ok _=>False
 | .error e=>CX outer H s E e s'
structure FnOk(P:XH)(w:Qo)(K:Xb)(mg:Str->Option Xc)(base:Heap)(CX:CXT)(k:Nat)(f:Addr)(fd:Xx)(ps:List Str)(sp:Sp):Prop where
 len:∀vs H Q E,sp vs H Q E->vs.length=ps.length
 run:∀(A:Qk) (outer:List Env) (s:Xd) (H:Hp) (args:Args) (us:List Xc) (vs:List V) (Q:VK) (E:XK),Room k A->Z7v P w K mg base A outer s H->BindsTo s fd args (ps.zip us)->Vals vs us->sp vs H Q E ->
  codeAny (X7 P w) A (.call (.ref f) args) (CR CX outer P w H s Q E) s
theorem FnOk.mono{P:XH}{w:Qo}{K:Xb}{mg:Str->Option Xc}{base:Heap}{CX:CXT}{j k:Nat}{f:Addr}{fd:Xx}{ps:List Str}{sp:Sp}(F:FnOk P w K mg base CX j f fd ps sp)(h:j≤k) :
  FnOk P w K mg base CX k f fd ps sp:=⟨F.len,λA outer s H args us vs Q E hr=>F.run A outer s H args us vs Q E (hr.mono h)⟩
theorem FnOk.imp{P:XH}{w:Qo}{K:Xb}{mg:Str->Option Xc}{base:Heap}{CX:CXT}{k:Nat}{f:Addr}{fd:Xx}{ps:List Str}{sp sp':Sp}(F:FnOk P w K mg base CX k f fd ps sp)
  (h:∀vs H Q E,sp' vs H Q E->sp vs H Q E):FnOk P w K mg base CX k f fd ps sp' :=
 ⟨λvs H Q E q=>F.len vs H Q E (h _ _ _ _ q),λA outer s H args us vs Q E hr he hb hv hs=>F.run A outer s H args us vs Q E hr he hb hv (h _ _ _ _ hs)⟩
section
variable {X:Cx}{pins:List (Addr×Obj)}{σ:St}{H:Hp}{s s':Xd}
theorem Inv.env0(I:Inv X pins σ H s):Z7v X.prog X.w X.K X.mg X.base X.A X.stack s H :=
 ⟨I.ok.frames,I.ok.mod,I.bs,Qt I.ok.bsz I.sz,I.stack,I.stkFree,I.hok,I.bare⟩
theorem Inv.after{Q:VK}{u:Xc}(I:Inv X pins σ H s)(h:CE X.stack X.prog X.w H s Q u s'):EP X pins σ Q u s':=by
 obtain⟨v,H',os,bare,un,hok,r,q⟩:=h
 obtain⟨hh,g,d,t,os'⟩:=s'
 obtain rfl:os'=s.os:=os
 exact⟨v,H',I.call (h':=hh) (g':=g) (d':=d) (t':=t) (ch:=[]) un hok bare (λb z=>absurd z (by simp)),r,q⟩
end
noncomputable def Zyc(sp:Sp)(dvs:List V)(E:XK)(t:TA):TE:=λσ H Q=>t σ H λvs H1=>sp (vs ++ dvs) H1 Q E
noncomputable def Binds(K:Xb)(fd:Xx)(ps:List Str)(ds:List Xc):Prop :=
 ∀(s:Xd) (us:List Xc),K.In s.heap->(us ++ ds).length=ps.length->BindsTo s fd ⟨us,[]⟩ (ps.zip (us ++ ds))
theorem Binds.all{K:Xb}{fd:Xx}{ps:List Str}(h:∀us:List Xc,us.length=ps.length->bindArgs fd ⟨us,[]⟩=pure (ps.zip us)):Binds K fd ps []:=λs us _ hl=>by
 rw[JQ]at hl⊢
 exact .of_eq (h us hl)
noncomputable def Zmp(CX:CXT)(X:Cx)(E:XK):Prop:=∀(pins:List (Addr×Obj)) (σ:St) (H:Hp) (s:Xd) (e:Xc) (s':Xd),Inv X pins σ H s->CX X.stack H s E e s'->X.xe e s'
section
variable {X:Cx}{CX:CXT}{k:Nat}{f C:Addr}{fd:Xx}{ps:List Str}{sp:Sp}{dvs:List V}{ds:List Xc}{E:XK}{x m:Str}{p pos apos:Pos}{e o:Expr}{es:List Expr}{ta:TE}{t:TA}
theorem Z4u{pins:List (Addr×Obj)}{σ:St}{H:Hp}{s:Xd}{Q:VK}{us:List Xc}{vs:List V}(F:FnOk X.prog X.w X.K X.mg X.base CX k f fd ps sp)(hr:Room k X.A)(hb:Binds X.K fd ps ds)(hd:Vals dvs ds)(hx:Zmp CX X E)
  (I:Inv X pins σ H s) (r:Vals vs us) (h:sp (vs ++ dvs) H Q E):XQ (X7 X.prog X.w) X.A (call (.ref f) us) (EP X pins σ Q) X.xe s:=by
 have r2:Vals (vs ++ dvs) (us ++ ds):=r.append hd
 have hl:(us ++ ds).length=ps.length:=by rw[←r2.length];exact F.len _ _ _ _ h
 refine wpAny_call (codeAny_mono (F.run X.A X.stack s H ⟨us,[]⟩ (us ++ ds) (vs ++ dvs) Q E hr I.env0 (hb s us I.kIn hl) r2 h) λr s' hq=>?_)
 cases r with
 | error e=>exact hx pins σ H s e s' I hq
 | ok fl=>
  cases fl with
  | ret u=>exact I.after hq
  | next=>exact Vo hq
  | brk=>exact Vo hq
  | cont=>exact Vo hq
theorem Zte(F:FnOk X.prog X.w X.K X.mg X.base CX k f fd ps sp)(hr:Room k X.A)(hg:Gl X x)(hm:X.mg x=some (.ref f))(hk:BZ X.K (.ref f)=true)(hb:Binds X.K fd ps ds)(hd:Vals dvs ds)(hx:Zmp CX X E)
  (ha:PA X (e :: es) t) (hdb:(x==("__debug__" : Str))=false:=by decide) (he:Xq (e :: es) X.env=(false,eval e X.env) :: Xq es X.env:=by rfl) (hpl:(BV pos (Xq es X.env)).any (·.1)=false:=by rfl) :
  PE X (.Call (.Name x p) (e :: es) [] pos) (Zyc sp dvs E t):=by
 intro pins s σ H Q I h
 refine wpAny_Call_Name_kw (Zyb I hg hm ?_ hdb)
 refine PySem.W.callWith_K (h₀:=X.base) I.ok.mod.kin hk (thn (ha pos pins s σ H _ I h) λus s1 qz9=>?_) he hpl
 obtain⟨vs,H1,I1,r,q⟩:=qz9
 refine⟨I1.kIn,?_⟩
 exact Z4u F hr hb hd hx I1 r q
structure Mk(K:Xb)(C f:Addr):Prop where
 makes:PySem.W.makesIn K C=true
 init:Va K (.ref C) "__init__"=some (some (.ref f))
 fn:PySem.W.isFn K (.ref f)=true
 kp:BZ K (.ref C)=true
end
section
variable {X:Cx}{CX:CXT}{k:Nat}{f C:Addr}{fd:Xx}{ps ks:List Str}{sp:Sp}{E:XK}{x m:Str}{p pos apos kpos:Pos}{e o:Expr}{es:List Expr}{kws:List Keyword}{te ta:TE}{t tk:TA}{nm:Option Str}
structure Yc5(K:Xb)(fd:Xx)(ps ks:List Str)(g:List Xc->List Xc->List Xc)(gV:List V->List V->List V):Prop where
 to:∀(s:Xd) (us ws:List Xc),K.In s.heap->(g us ws).length=ps.length->BindsTo s fd ⟨us,ks.zip ws⟩ (ps.zip (g us ws))
 rel:∀{vs:List V} {us:List Xc} {zs:List V} {ws:List Xc},Vals vs us->Vals zs ws->Vals (gV vs zs) (g us ws)
variable {g:List Xc->List Xc->List Xc}{gV:List V->List V->List V}
end
structure Zv(N P:List Str)(sc:Uj):Prop where
 kind:sc.kind= .function
 co:sc.isCoroutine=false
 gen:sc.isGenerator=false
 nd:N.Nodup
 pre:N.take P.length=P
 par:∀x∈P,sc.names.lookup x=some .local∨sc.names.lookup x=some .cell
 nofree:∀y∈sc.names,y.2≠ .free
theorem Zmo{kindOf:Str->Option Bk}{x:Str}:∀{binds:List (Str×Xc)} {m:Str->Option Xc},(∀v,(x,v)∉binds)->bindL kindOf binds m x=m x
 | [],_,_=>rfl
 | (n,v) :: r,m,h=>by
  unfold bindL
  rw[Zmo λw hw=>h w (Ug _ hw)]
  split
  ·have:x≠n:=by rintro rfl;exact h v UG
   simp[this]
  ·rfl
theorem Zlt{kindOf:Str->Option Bk}{x:Str}:∀{binds:List (Str×Xc)} {m:Str->Option Xc},(∀v,(x,v)∉binds)->bindC kindOf binds m x=m x
 | [],_,_=>rfl
 | (n,v) :: r,m,h=>by
  unfold bindC
  rw[Zlt λw hw=>h w (Ug _ hw)]
  split
  ·rfl
  ·have:x≠n:=by rintro rfl;exact h v UG
   simp[this]
theorem Zmm{kindOf:Str->Option Bk}{x:Str}{v:Xc}:∀{P:List Str} {vs:List Xc} {i:Nat} {m:Str->Option Xc},P.Nodup->P[i]? =some x->vs[i]? =some v->kindOf x=some .local ->
  bindL kindOf (P.zip vs) m x=some v
 | [],_,_,_,_,h,_,_=>by simp at h
 | _ :: _,[],_,_,_,_,h,_=>by simp at h
 | p :: P,w :: vs,0,m,nd,h1,h2,hk=>by
  simp at h1 h2;subst h1;subst h2
  show bindL kindOf ((p,w) :: P.zip vs) m p=_
  unfold bindL
  rw[Zmo λv hv=>(Q0.mp nd).1 (List.of_mem_zip hv).1,if_pos hk]
  simp
 | p :: P,w :: vs,i+1,m,nd,h1,h2,hk=>by
  show bindL kindOf ((p,w) :: P.zip vs) m x=_
  unfold bindL
  exact Zmm (i:=i) (Q0.mp nd).2 (by simpa using h1) (by simpa using h2) hk
theorem Zm7{kindOf:Str->Option Bk}{x:Str}{v:Xc}:∀{P:List Str} {vs:List Xc} {i:Nat} {m:Str->Option Xc},P.Nodup->P[i]? =some x->vs[i]? =some v->kindOf x≠some .local ->
  bindC kindOf (P.zip vs) m x=some v
 | [],_,_,_,_,h,_,_=>by simp at h
 | _ :: _,[],_,_,_,_,h,_=>by simp at h
 | p :: P,w :: vs,0,m,nd,h1,h2,hk=>by
  simp at h1 h2;subst h1;subst h2
  show bindC kindOf ((p,w) :: P.zip vs) m p=_
  unfold bindC
  rw[Zlt λv hv=>(Q0.mp nd).1 (List.of_mem_zip hv).1,if_neg hk]
  simp
 | p :: P,w :: vs,i+1,m,nd,h1,h2,hk=>by
  show bindC kindOf ((p,w) :: P.zip vs) m x=_
  unfold bindC
  exact Zm7 (i:=i) (Q0.mp nd).2 (by simpa using h1) (by simpa using h2) hk
noncomputable def start(N:List Str)(vs:List V):St:=vs.map some ++ Xy (N.length-vs.length) none
noncomputable def Zuc(CX:CXT)(P:XH)(w:Qo)(K:Xb)(mg:Str->Option Xc)(base:Heap)(N:List Str)(qual:Str)(scope:Uj)(f:Addr)(cd:Xc)(A:Qk)(outer:List Env)(s:Xd)(H:Hp)(E:XK):Cx where
 prog:=P
 w:=w
 K:=K
 mg:=mg
 base:=base
 A:=A.deeper (envOfC qual scope s.heap.objs.size f cd)
 N:=N
 s₀:=s
 H₀:=H
 env:=envOfC qual scope s.heap.objs.size f cd
 outer:=outer
 stack:=envOfC qual scope s.heap.objs.size f cd :: outer
 ex:=[]
 calm:=true
 fn:=λ_=>true
 pn:=[]
 xe:=λe s'=>XQ (X7 P w) (A.deeper (envOfC qual scope s.heap.objs.size f cd)) (leaving (envOfC qual scope s.heap.objs.size f cd) e) (λ_ s''=>CX outer H s E e s'') (λe' s''=>CX outer H s E e' s'') s'
theorem Zoy{sc:Uj}{n:Nat}{x:Str}(h:sc.names.lookup x=some .cell):∃c,(JT n sc.names []).lookup x=some c:=by
 have q:=PySem.W.cellsFrom_some sc.names n [] (.inl h)
 exact U4.mp q
theorem Zrj{CX:CXT}{P:XH}{w:Qo}{K:Xb}{mg:Str->Option Xc}{base:Heap}{N ps:List Str}{qual:Str}{scope:Uj}{f:Addr}{cd:Xc}{A:Qk}{outer:List Env}{s s1:Xd}{H:Hp}{E:XK}{us:List Xc}{vs:List V}
  (S:Zv N ps scope) (hd:A.handled=none) (e0:Z7v P w K mg base A outer s H) (hl:vs.length=ps.length) (r:Vals vs us)
  (x:InCallC s s.heap.objs.size (bindL (envOfC qual scope s.heap.objs.size f cd).kindOf (ps.zip us) λ_=>none) (JT (s.heap.objs.size+1) scope.names []) (bindC (envOfC qual scope s.heap.objs.size f cd).kindOf (ps.zip us) λ_=>none) s1) :
  Inv (Zuc CX P w K mg base N qual scope f cd A outer s H E) [] (start N vs) H s1:=by
 have hpl:ps.length≤N.length:=by have:=congrArg List.length S.pre;rw[Bv]at this;omega
 obtain⟨h1,tk,rfl,hk⟩:=x.done
 have noA:∀b:Addr,b∉(Zuc CX P w K mg base N qual scope f cd A outer s H E).ex:=λb z=>absurd (show b∈([]:List Addr)from z) (by simp)
 refine⟨⟨e0.mod,S.kind,rfl,rfl,X6 _,λy z c h1 h2=>?_,λy hy=>?_,λy c _ h=>?_,λ_=>hd,Qk.frames_deeper e0.frames,.inr ⟨rfl,rfl⟩,λb z=>absurd z (noA b),e0.bs,e0.bsz,λb _ _=>noA b,λb z=>absurd z (noA b),e0.funs,e0.frf⟩,
  rfl,e0.bare,Un.kept hk,⟨_,x.toInCall.ns,λi y v h1 h2 h3=>?_⟩,λy c h=>⟨_,x.cell y c h⟩,e0.hok.fresh (X6 _),λy c h=>?_,λp hp=>absurd (show p∈([]:List (Addr×Obj))from hp) (by simp),e0.hok.kept hk,?_⟩
 ·exact name_of_addr x.apart (JN h1) (JN h2)
 ·have hy:scope.names.lookup y=some .cell∨scope.names.lookup y=some .free:=hy
  rcases hy with hy|hy
  ·exact Zoy hy
  ·exact absurd rfl (S.nofree _ (JN hy))
 ·exact Nat.le_of_lt (x.above y c (JN h))
 ·have hi:i<vs.length:=by
   unfold start at h2
   by_cases hi:i<vs.length
   ·exact hi
   ·rw[Bx (by simpa using hi)]at h2
    rw[VJ]at h2
    split at h2<;>cases h2
  have ha:vs[i]? =some v:=by
   unfold start at h2
   rw[BR (by simpa using hi),Xm]at h2
   cases e:vs[i]? with
   | none=>rw[e]at h2;cases h2
   | some a=>rw[e]at h2;cases h2;rfl
  obtain⟨u,hu,rv⟩:=r.get ha
  have hp:ps[i]? =some y:=by
   rw[←S.pre,List.getElem?_take_of_lt (by omega)];exact h1
  have ndP:ps.Nodup:=by rw[←S.pre];exact S.nd.sublist (List.take_sublist _ _)
  refine⟨u,rv,?_⟩
  rcases S.par y (XR hp)with k|k
  ·exact .inl ⟨k,Zmm ndP hp hu k⟩
  ·obtain⟨c,e⟩:=Zoy (n:=s.heap.objs.size+1) k
   refine .inr ⟨.inl k,c,e,?_⟩
   have q:=x.cell y c e
   rw[Zm7 ndP hp hu (by show scope.names.lookup y≠_;rw[k];decide)]at q
   exact q
 ·exact e0.hok.fresh (Nat.le_of_lt (x.above y c (JN h)))
 ·unfold start
  show _=N.length
  rw[QJ,Xg,Vj]
  omega
theorem Yar{CX:CXT}{P:XH}{w:Qo}{K:Xb}{mg:Str->Option Xc}{base:Heap}{k:Nat}{f:Addr}{name qual:Str}{params:Arguments}{body:List Stmt}{scope:Uj}{dV kV doc pm cdv ct oc:Xc}{an od:Option Addr}
  {osl:Array (Option Xc)} {N ps:List Str} {sp:Sp} (lk:K.lookup f=some ⟨oc,od,.func (Vn name qual params body scope dV kV doc pm an cdv ct),osl⟩) (hcd:PySem.W.codeIn K cdv qual=true) (S:Zv N ps scope)
  (len:∀vs H Q E,sp vs H Q E->vs.length=ps.length)
  (hbody:∀(A:Qk) (outer:List Env) (s:Xd) (H:Hp) (vs:List V) (Q:VK) (E:XK),Room k (A.deeper (envOfC qual scope s.heap.objs.size f cdv))->sp vs H Q E ->
   ∃t,PSs (Zuc CX P w K mg base N qual scope f cdv A outer s H E) body t∧t { nx:=λ_ H'=>Q .non H',rt:=Q } (start N vs) H) :
  FnOk P w K mg base CX (k+1) f (Vn name qual params body scope dV kV doc pm an cdv ct) ps sp:=by
 refine⟨len,λA outer s H args us vs Q E hr e0 hb r hsp=>?_⟩
 have hl:=len _ _ _ _ hsp
 have KX:K.In s.heap:=e0.mod.kin.keeps λb o e=>(e0.bs b o e).1
 have lim:s.heap.NoLimit:=e0.mod.nolimit.keeps λb o e=>(e0.bs b o e).1
 have hkind:∀y∈ps.zip us,scope.names.lookup y.1=some .local∨(scope.names.lookup y.1=some .cell∧((JT (s.heap.objs.size+1) scope.names []).lookup y.1).isSome=true):=λ⟨n,v⟩ hy=>by
  rcases S.par n (List.of_mem_zip hy).1 with q|q
  ·exact .inl q
  ·exact .inr ⟨q,PySem.W.cellsFrom_some _ _ _ (.inl q)⟩
 refine codeAny_call_function hr.depth (KX _ _ lk) rfl S.co S.gen rfl (PySem.W.codeRec_of KX hcd) (hb _ _ _ _ ?_)
 refine wpAny_newFunctionEnv_cells S.kind hkind λenv he s1 x=>?_
 subst he
 refine⟨lim.keeps x.toInCall.keep,codeAny_func ?_⟩
 obtain⟨t,ht,hq⟩:=hbody A outer s H vs Q E (hr.deeper _) hsp
 have I:Inv (Zuc CX P w K mg base N qual scope f cdv A outer s H E) [] (start N vs) H s1:=Zrj S hr.hd e0 hl r x
 refine Br (ht [] s1 (start N vs) H _ I hq) (λfl s' hs=>?_) λe s' hs=>hs
 have fin:∀{σ':St} {H':Hp} {v:V} {u:Xc},Inv (Zuc CX P w K mg base N qual scope f cdv A outer s H E) [] σ' H' s'->RelV v u->Q v H'->CE outer P w H s Q u s' :=
  fun{σ' H' v u} J rv q=>⟨v,H',J.os,J.bare,J.base,J.hok,rv,q⟩
 cases fl with
 | ret u=>
  obtain⟨v,σ',H',J,rv,q⟩:=hs
  exact fin J rv q
 | next=>
  obtain⟨σ',H',J,q⟩:=hs
  exact fin (v:=V.non) (u:=QK) J rfl q
 | brk=>
  obtain⟨_,_,_,q⟩:=hs
  exact Vo q
 | cont=>
  obtain⟨_,_,_,q⟩:=hs
  exact Vo q
section
variable {X:Cx}{x:Str}{p pos:Pos}{e:Expr}{es:List Expr}{t:TA}{id T:String}{r:List V->Hp->VK->Prop}
noncomputable def tCB(r:List V->Hp->VK->Prop)(t:TA):TE:=λσ H Q=>t σ H λvs H1=>r vs H1 Q
theorem Zkp(hc:Zcd X (.builtin id) r)(hg:Gl X x)(hm:X.mg x=none)(hv:Qm x=some (.builtin id))(ha:PA X (e :: es) t)(hn:x≠"__name__" :=by decide)(hdb:(x==("__debug__" : Str))=false:=by decide)
  (he:Xq (e :: es) X.env=(false,eval e X.env) :: Xq es X.env:=by rfl) (hpl:(BV pos (Xq es X.env)).any (·.1)=false:=by rfl):PE X (.Call (.Name x p) (e :: es) [] pos) (tCB r t):=by
 intro pins s σ H Q I h
 refine wpAny_Call_Name_kw (Zh7 I hg hm hv ?_ hn hdb)
 refine PyProof.Rows.callWith_builtin1 (thn (ha pos pins s σ H _ I h) λus s1 qz9=>?_) he hpl
 obtain⟨vs,H1,I1,r1,q1⟩:=qz9
 exact hc pins s1 σ H1 vs us Q I1 r1 q1
theorem Zmh(hc:Zcd X (.type T) r)(hg:Gl X x)(hm:X.mg x=none)(hv:Qm x=some (.type T))(ha:PA X (e :: es) t)(hn:x≠"__name__" :=by decide)(hdb:(x==("__debug__" : Str))=false:=by decide)
  (he:Xq (e :: es) X.env=(false,eval e X.env) :: Xq es X.env:=by rfl) (hpl:(BV pos (Xq es X.env)).any (·.1)=false:=by rfl):PE X (.Call (.Name x p) (e :: es) [] pos) (tCB r t):=by
 intro pins s σ H Q I h
 refine wpAny_Call_Name_kw (Zh7 I hg hm hv ?_ hn hdb)
 refine Bj (thn (ha pos pins s σ H _ I h) λus s1 qz9=>?_) he hpl
 obtain⟨vs,H1,I1,r1,q1⟩:=qz9
 exact hc pins s1 σ H1 vs us Q I1 r1 q1
end
end L2
namespace HT
open PySem PyProof.Rows
section
open PySem.SeqAt
open PySem.AutoSeq1 (wpAny_loadPart')
open PySem.MeetsSeq PySem.MeetsSeq2 PySem.MeetsSeq3
end
section
variable {prog:XH}{w:Qo}{A:Qk}{E:Xc->Xd->Prop}{s:Xd}
noncomputable def sIx(n d:Nat):Option Int->Nat
 | none=>d
 | some v=>if v<0 then(v+(n:Int)).toNat else min v.toNat n
end
end HT
namespace L2
open PySem PySem.Spec PyProof.Rows
noncomputable abbrev TO:=St->Hp->(Option Int->Hp->Prop)->Prop
noncomputable def PO(X:Cx)(e:Option Expr)(t:TO):Prop :=
 ∀(pins:List (Addr×Obj)) (s:Xd) (σ:St) (H:Hp) (Q:Option Int->Hp->Prop),Inv X pins σ H s->t σ H Q ->
  XQ (X7 X.prog X.w) X.A (evalPart e X.env) (λu s'=>∃o H',Inv X pins σ H' s'∧IsPart u o∧Q o H') X.xe s
noncomputable def Z00:TO:=λ_ H Q=>Q none H
noncomputable def Z8o(t:TE):TO:=λσ H Q=>t σ H λx H1=>∃i,x= .int i∧Q (some i) H1
section
variable {X:Cx}{e:Expr}{te:TE}{lo hi:Option Expr}{tl th:TO}{pos p2:Pos}
theorem Z08:PO X none Z00:=by
 intro pins s σ H Q I h
 rw[evalPart_none]
 exact X5 ⟨none,H,I,.none,h⟩
theorem Zz2(h:PE X e te):PO X (some e) (Z8o te):=by
 intro pins s σ H Q I hw
 rw[evalPart_some]
 refine thn (h pins s σ H _ I hw) λu s1 qz9=>?_
 obtain⟨x,H1,I1,r1,q1⟩:=qz9
 obtain⟨i,rfl,q⟩:=q1
 obtain⟨t,rfl⟩:=r1
 exact⟨some i,H1,I1,.int i t,q⟩
noncomputable def SlR(X:Cx)(r:V->Option Int->Option Int->Hp->VK->Prop):Prop :=
 ∀(pins:List (Addr×Obj)) (s:Xd) (σ:St) (H:Hp) (x:V) (v vl vu:Xc) (lo hi:Option Int) (sl:Addr) (Q:VK),Inv X pins σ H s->RelV x v->s.heap.IsSliceOf sl vl vu .none->IsPart vl lo->IsPart vu hi->r x lo hi H Q ->
  ∃T id,typeLookup (.type T) "__getitem__"=pure (some (.builtin id))∧s.TypeIs v T∧XQ (X7 X.prog X.w) X.A (getItem v (.ref sl)) (EP X pins σ Q) X.xe s
noncomputable def tSl(r:V->Option Int->Option Int->Hp->VK->Prop)(te:TE)(tl th:TO):TE:=λσ H Q=>te σ H λx H1=>tl σ H1 λl H2=>th σ H2 λu H3=>r x l u H3 Q
theorem Zus{r:V->Option Int->Option Int->Hp->VK->Prop}(hr:SlR X r)(he:PE X e te)(hl:PO X lo tl)(hu:PO X hi th):PE X (.Subscript e (.Slice lo hi none p2) pos) (tSl r te tl th):=by
 intro pins s σ H Q I h
 refine Subscript_ (thn (he pins s σ H _ I h) λv s1 qz9=>?_)
 obtain⟨x,H1,I1,r1,q1⟩:=qz9
 refine wpAny_Slice (thn (hl pins s1 σ H1 _ I1 q1) λvl s2 qz9=>?_)
 obtain⟨l,H2,I2,pl,q2⟩:=qz9
 refine thn (hu pins s2 σ H2 _ I2 q2) λvu s3 qz9=>?_
 obtain⟨u,H3,I3,pu,q3⟩:=qz9
 rw[evalPart_none]
 refine X5 ?_
 have I4:Inv X pins σ H3 { s3 with heap:=s3.heap.push { cls:=.type "slice",data:=.fields #[vl,vu,.none] } }:=I3.kept (t':=s3.toks) λb ob q=>Xj _ q
 obtain⟨T,id,hT,ht,hg⟩:=hr pins { s3 with heap:=s3.heap.push { cls:=.type "slice",data:=.fields #[vl,vu,.none] } } σ H3 x v vl vu l u s3.heap.objs.size Q I4 r1 (Heap.IsSliceOf.new ..) pl pu q3
 show XQ (X7 X.prog X.w) X.A (subscriptTail e (.Slice lo hi none p2) v (.ref s3.heap.objs.size)) (EP X pins σ Q) X.xe { s3 with heap:=s3.heap.push { cls:=.type "slice",data:=.fields #[vl,vu,.none] } }
 exact tail_any (ops:=[.ref s3.heap.objs.size,v]) ht hT hg (by with_unfolding_all rfl)
noncomputable def Z1p(xs:List V)(lo hi:Option Int):List V:=(xs.drop (HT.sIx xs.length 0 lo)).take (HT.sIx xs.length xs.length hi-HT.sIx xs.length 0 lo)
theorem Zno(xs:List V)(lo hi:Option Int):(Z1p xs lo hi).length≤xs.length:=by
 unfold Z1p
 rw[Bv,QL]
 omega
end
noncomputable def ixN(n:Nat)(i:Int):Option Nat:=if 0≤i then(if i<n then some i.toNat else none)else if -(n:Int)≤i then some (i+n).toNat else none
noncomputable def atI{α:Type}(xs:List α)(i:Int):Option α:=(ixN xs.length i).bind λj=>xs[j]?
theorem Zrb{n:Nat}{i:Int}{j:Nat}(h:ixN n i=some j):seqIndex? i n=some j∧j<n∧-(n:Int)≤i∧i<n:=by
 unfold ixN at h
 by_cases h0:0≤i
 ·rw[if_pos h0]at h
  by_cases h1:i<n
  ·rw[if_pos h1]at h
   have e:i.toNat=j:=QC h
   exact⟨by rw[seqIndex_of h0 h1,e],by omega,by omega,h1⟩
  ·rw[if_neg h1]at h;cases h
 ·rw[if_neg h0]at h
  by_cases h1:-(n:Int)≤i
  ·rw[if_pos h1]at h
   have e:(i+n).toNat=j:=QC h
   exact⟨by rw[seqIndex_neg (by omega) h1,e],by omega,h1,by omega⟩
  ·rw[if_neg h1]at h;cases h
theorem Zni{α:Type}{xs:List α}{i:Int}{v:α}(h:atI xs i=some v):∃j,seqIndex? i xs.length=some j∧xs[j]? =some v∧j<xs.length∧-(xs.length:Int)≤i∧i<xs.length:=by
 unfold atI at h
 cases e:ixN xs.length i with
 | none=>rw[e]at h;cases h
 | some j=>
  rw[e]at h
  obtain⟨h1,h2,h3,h4⟩:=Zrb e
  exact⟨j,h1,h,h2,h3,h4⟩
theorem Zuq{α:Type}(xs:List α)(v:α):atI (xs ++ [v]) (-1)=some v:=by
 have hl:(xs ++ [v]).length=xs.length+1:=by simp
 have e:ixN (xs ++ [v]).length (-1)=some xs.length:=by
  unfold ixN
  rw[hl,if_neg (by decide),if_pos (by omega)]
  congr 1
  omega
 unfold atI
 rw[e]
 show(xs ++ [v])[xs.length]? =some v
 simp
noncomputable def Zkr(b:Expr):Prop:=∀o i,subscripted b false o i=operate [o,i] (getItem o i)
noncomputable def IxR(X:Cx)(r:R2):Prop :=
 ∀(value slice:Expr) (pins:List (Addr×Obj)) (s:Xd) (σ:St) (H:Hp) (x y:V) (v u:Xc) (Q:VK),Inv X pins σ H s->RelV x v->RelV y u->r x y H Q ->
  subscripted slice false v u=operate [v,u] (getItem v u)->XQ (X7 X.prog X.w) X.A (subscriptTail value slice v u) (EP X pins σ Q) X.xe s
noncomputable def MtR(X:Cx)(id:String)(r:V->List V->Hp->VK->Prop):Prop :=
 ∀(pins:List (Addr×Obj)) (s:Xd) (σ:St) (H:Hp) (x:V) (xs:List V) (v:Xc) (us:List Xc) (Q:VK),Inv X pins σ H s->RelV x v->Vals xs us->r x xs H Q ->
  XQ (X7 X.prog X.w) X.A (call (.builtin id) (v :: us)) (EP X pins σ Q) X.xe s
section
variable {X:Cx}{a b:Expr}{ta tb:TE}{pos:Pos}
theorem IxR.or{r r':R2}(h:IxR X r)(h':IxR X r'):IxR X (λx y H Q=>r x y H Q∨r' x y H Q):=by
 intro value slice pins s σ H x y v u Q I rx ry q hs
 rcases q with q|q
 ·exact h value slice pins s σ H x y v u Q I rx ry q hs
 ·exact h' value slice pins s σ H x y v u Q I rx ry q hs
theorem Z6m{r:R2}(hr:IxR X r)(ha:PE X a ta)(hb:PE X b tb)(hs:Zkr b):PE X (.Subscript a b pos) (tOp r ta tb):=by
 intro pins s σ H Q I h
 exact Subscript_ (Z85 ha hb I h λv u s2 x y H2 I2 rx ry q=>hr a b pins s2 σ H2 x y v u Q I2 rx ry q (hs _ _))
noncomputable def Yam(K:Xb):R2:=λx y H Q=>∃p xs i v,x= .ref p∧y= .int i∧SqL K H p xs∧atI xs i=some v∧Q v H
noncomputable def Yb9(K:Xb):R2:=λx y H Q=>∃p xs i v,x= .ref p∧y= .int i∧SqT K H p xs∧atI xs i=some v∧Q v H
noncomputable def Yci:R2:=λx y H Q=>∃z i c,x= .str z∧y= .int i∧z.length≤Xr∧atI z.cps.toList i=some c∧Q (.str ⟨#[c]⟩) H
theorem Zs2:IxR X (Yam X.K):=by
 intro value slice pins s σ H x y v u Q I rx ry h hs
 obtain⟨p,xs,i,z,rfl,rfl,hq,he,q⟩:=h
 cases rx
 obtain⟨t,rfl⟩:=ry
 obtain⟨its,r,pl,hz⟩:=I.list hq
 obtain⟨j,h1,h2,h3,h4,h5⟩:=Zni he
 obtain⟨w,ew,rw'⟩:=r.get h2
 have hl:=r.length
 have hn:=Zj0
 have fin:EP X pins σ Q w s:=⟨z,H,I,rw',q⟩
 by_cases h0:0≤i
 ·have hj:i.toNat=j:=by
   rw[seqIndex_of h0 h5]at h1
   exact QC h1
  exact item_listR pl.isList h0 (by omega) (by rw[hj];simpa using ew) fin hs
 ·have hj:(i+(its.toArray.size:Int)).toNat=j:=by
   rw[seqIndex_neg (by omega) h4]at h1
   rw[Xv,←hl]
   exact QC h1
  exact subscriptTail_builtinR (x:=w) pl.isList.typeIs slot_list_getitem.lookup
   (wpAny_getItem_list_neg (Q:=λr s'=>r=w∧EP X pins σ Q r s') pl.isList (by omega) (by rw[Xv]<;>omega) (by omega) (by rw[hj];simpa using ew) ⟨rfl,fin⟩) hs
theorem Z6c:IxR X (Yb9 X.K):=by
 intro value slice pins s σ H x y v u Q I rx ry h hs
 obtain⟨p,xs,i,z,rfl,rfl,hq,he,q⟩:=h
 cases rx
 obtain⟨t,rfl⟩:=ry
 obtain⟨its,r,pl,hz⟩:=I.tuple hq
 obtain⟨j,h1,h2,h3,h4,h5⟩:=Zni he
 obtain⟨w,ew,rw'⟩:=r.get h2
 have hl:=r.length
 have hn:=Zj0
 have fin:EP X pins σ Q w s:=⟨z,H,I,rw',q⟩
 exact subscriptTail_builtinR (x:=w) pl.typeIs slot_tuple_getitem.lookup
  (getItem_tuple (j:=j) (Q:=λr s'=>r=w∧EP X pins σ Q r s') pl (by omega) (by omega) (by rw[Xv,←hl];exact h1) (by simpa using ew) ⟨rfl,fin⟩) hs
theorem Z4a:IxR X Yci:=by
 intro value slice pins s σ H x y v u Q I rx ry h hs
 obtain⟨z,i,c,rfl,rfl,hz,he,q⟩:=h
 obtain⟨t,rfl⟩:=rx
 obtain⟨t',rfl⟩:=ry
 obtain⟨j,h1,h2,h3,h4,h5⟩:=Zni he
 have hl:z.cps.toList.length=z.length:=by simp[Str.length]
 rw[hl]at h1 h4 h5
 have hn:=Zj0
 exact tail_any (typeIs_str s z t) slot_str_getitem.lookup (getItem_str (c:=c) (by
  have e1:decide (i< -(2^63:Int))=false:=decide_eq_false (by omega)
  have e2:decide (i≥2^63)=false:=decide_eq_false (by omega)
  rw[e1,e2,Bool.or_false]) (by rw[h1];simpa using h2) ⟨.str ⟨#[c]⟩,H,I.tok _,⟨_,rfl⟩,q⟩) hs
noncomputable def rIx(K:Xb):R2:=λx y H Q=>Yam K x y H Q∨Yb9 K x y H Q∨Yci x y H Q
theorem Z36:IxR X (rIx X.K):=Zs2.or (Z6c.or Z4a)
theorem Zpp(its:List Xc)(n j:Nat)(u:Xc):QD (·.setIfInBounds j u) { cls:=.type "list",data:=.seq its.toArray n }={ cls:=.type "list",data:=.seq (its.set j u).toArray n }:=by
 simp[QD]
theorem Inv.lst{pins:List (Addr×Obj)}{σ:St}{H:Hp}{s:Xd}{p:Addr}{xs:List V}(I:Inv X pins σ H s)(h:H p=some (.lst xs)) :
  ∃(its:List Xc) (n:Nat),Vals xs its∧s.heap.get? p=some { cls:=.type "list",data:=.seq its.toArray n }∧xs.length≤Xr:=by
 obtain⟨z,its,n,r,e⟩:=I.hok p _ h
 exact⟨its,n,r,e,z⟩
theorem Inv.lstUpd{pins:List (Addr×Obj)}{σ:St}{H:Hp}{s:Xd}{p:Addr}{xs ys:List V}{its its':List Xc}{n n':Nat}{f:Obj->Obj}(I:Inv X pins σ H s)(h:H p=some (.lst xs))
  (ho:s.heap.get? p=some { cls:=.type "list",data:=.seq its.toArray n }) (hf:f { cls:=.type "list",data:=.seq its.toArray n }={ cls:=.type "list",data:=.seq its'.toArray n' }) (r:Vals ys its') (hz:ys.length≤Xr) (t:Nat) :
  Inv X pins σ (upd H p (.lst ys)) { s with heap:=s.heap.update p f,toks:=t }:=by
 have e:(s.heap.update p f).get? p=some { cls:=.type "list",data:=.seq its'.toArray n' }:=by
  rw[Heap.get?_update_self f ho (by rw[hf]<;>rfl),hf]
 refine I.write (x:=p) (e:=p) (by rw[h];trivial) (.inl rfl) (λb u hb q=>(Heap.get?_update_other _ _ (Vi hb)).trans q) ⟨_,e⟩ ?_
 exact⟨hz,its',n',r,e⟩
noncomputable def Z2w:V->V->V->Hp->(Hp->Prop)->Prop:=λo i v H Q=>∃p xs k j,o= .ref p∧i= .int k∧H p=some (.lst xs)∧ixN xs.length k=some j∧Q (upd H p (.lst (xs.set j v)))
theorem set_list:Ybx X Z2w:=by
 intro pins s σ H o i v ov iv u Q I ro ri rv h
 obtain⟨p,xs,k,j,rfl,rfl,hp,hj,q⟩:=h
 cases ro
 obtain⟨t,rfl⟩:=ri
 obtain⟨its,n,r,ho,hz⟩:=I.lst hp
 obtain⟨h1,h2,h3,h4⟩:=Zrb hj
 have hl:=r.length
 have hn:=Zj0
 have I':Inv X pins σ (upd H p (.lst (xs.set j v))) { s with heap:=s.heap.update p (QD (·.setIfInBounds j u)) } :=
  I.lstUpd hp ho (Zpp its n j u) (r.set rv j) (by rw[Vz];exact hz) s.toks
 by_cases h0:0≤k
 ·have hk:k.toNat=j:=by
   rw[seqIndex_of h0 h4]at h1
   exact QC h1
  exact PySem.W.ki_setAt ho h0 (by omega) (by rw[Xv,←hl];exact h4) (by rw[hk];exact⟨_,I',q⟩)
 ·have hk:(k+(its.toArray.size:Int)).toNat=j:=by
   rw[seqIndex_neg (by omega) h3]at h1
   rw[Xv,←hl]
   exact QC h1
  exact PySem.W.ki_setBack ho (by omega) (by rw[Xv,←hl];exact h3) (by omega) (by rw[hk];exact⟨_,I',q⟩)
theorem Zl2(lo hi:Option Int)(n:Nat):(JX lo hi none n).1=((HT.sIx n 0 lo:Nat):Int)∧(JX lo hi none n).2.1=((HT.sIx n n hi:Nat):Int)∧(JX lo hi none n).2.2=1:=by
 refine⟨?_,?_,rfl⟩
 ·cases lo with
  | none=>simp[JX,HT.sIx]
  | some i=>
   simp only[JX,HT.sIx,Option.getD_none,show(1:Int)>0 by decide,if_true]
   by_cases h:i<0
   ·simp only[h,if_true]<;>omega
   ·simp only[h,if_false]<;>omega
 ·cases hi with
  | none=>simp[JX,HT.sIx]
  | some i=>
   simp only[JX,HT.sIx,Option.getD_none,show(1:Int)>0 by decide,if_true]
   by_cases h:i<0
   ·simp only[h,if_true]<;>omega
   ·simp only[h,if_false]<;>omega
theorem Zkv(its:List Xc)(lo hi:Option Int):slicePick its.toArray lo hi none=((its.drop (HT.sIx its.length 0 lo)).take (HT.sIx its.length its.length hi-HT.sIx its.length 0 lo)).toArray:=by
 obtain⟨h1,h2,h3⟩:=Zl2 lo hi its.toArray.size
 unfold slicePick
 rw[h1,h2,h3]
 simp only[sliceRange_one,pick_run,Xv]<;>rfl
noncomputable def Yc8(K:Xb):V->Option Int->Option Int->Hp->VK->Prop:=λx lo hi H Q=>∃a xs,x= .ref a∧SqL K H a xs∧∀p,H p=none->Q (.ref p) (upd H p (.lst (Z1p xs lo hi)))
theorem Z0j:SlR X (Yc8 X.K):=by
 intro pins s σ H x v vl vu lo hi sl Q I rx hs pl pu h
 obtain⟨a,xs,rfl,hx,q⟩:=h
 cases rx
 obtain⟨its,r,ht,hz⟩:=I.list hx
 have hlen:=r.length
 refine⟨"list",_,slot_list_getitem.lookup,ht.isList.typeIs,?_⟩
 refine wpAny_getItem_list_slice ht.isList hs pl pu .none (by simp) ?_ (by rw[Xv]<;>omega)
 rw[Zkv,←hlen]
 refine⟨.ref s.heap.objs.size,_,I.laid (t':=s.toks) (o:=.lst (Z1p xs lo hi)) (λb ob q=>Xj _ q) (X6 _) ?_,rfl,q _ (I.hok.fresh (X6 _))⟩
 exact⟨Qt (Zno xs lo hi) hz,_,0,(r.drop (HT.sIx xs.length 0 lo)).take (HT.sIx xs.length xs.length hi-HT.sIx xs.length 0 lo),X3 _ rfl⟩
noncomputable def Zif:V->Bool
 | .non=>true
 | .bl _=>true
 | .int _=>true
 | .str _=>true
 | _=>false
noncomputable def eqV:V->V->Bool
 | .non,.non=>true
 | .bl a,.bl b=>a==b
 | .bl a,.int b=>(if a then 1 else 0)==b
 | .int a,.bl b=>a==(if b then 1 else 0)
 | .int a,.int b=>a==b
 | .str a,.str b=>a==b
 | _,_=>false
theorem Z2r{A:Qk}{s:Xd}{y x:V}{u v:Xc}(ry:RelV y u)(rx:RelV x v)(fy:Zif y=true)(fx:Zif x=true):JM A s u v (eqV y x):=by
 cases y with
 | non=>
  cases ry
  cases x with
  | non=>cases rx;exact JM.same _
  | bl b=>cases rx;exact JM.none_bool b
  | int b=>obtain⟨t,rfl⟩:=rx;exact JM.none_int b t
  | str b=>obtain⟨t,rfl⟩:=rx;exact JM.none_str b t
  | _=>exact absurd (show false=true from fx) XF
 | bl a=>
  cases ry
  cases x with
  | non=>cases rx;exact JM.bool_none a
  | bl b=>cases rx;exact JM.bool_bool a b
  | int b=>obtain⟨t,rfl⟩:=rx;exact JM.bool_int a b t
  | str b=>obtain⟨t,rfl⟩:=rx;exact JM.bool_str a b t
  | _=>exact absurd (show false=true from fx) XF
 | int a=>
  obtain⟨t',rfl⟩:=ry
  cases x with
  | non=>cases rx;exact JM.int_none a t'
  | bl b=>cases rx;exact JM.int_bool a t' b
  | int b=>obtain⟨t,rfl⟩:=rx;exact JM.int_int a t' b t
  | str b=>obtain⟨t,rfl⟩:=rx;exact SeqAt.EqAt.int_str a t' b t
  | _=>exact absurd (show false=true from fx) XF
 | str a=>
  obtain⟨t',rfl⟩:=ry
  cases x with
  | non=>cases rx;exact JM.str_none a t'
  | bl b=>cases rx;exact JM.str_bool a t' b
  | int b=>obtain⟨t,rfl⟩:=rx;exact SeqAt.EqAt.str_int a t' b t
  | str b=>obtain⟨t,rfl⟩:=rx;exact JM.str_str a t' b t
  | _=>exact absurd (show false=true from fx) XF
 | _=>exact absurd (show false=true from fy) XF
noncomputable def eqU(x:V)(u:Xc):Bool:=match u with
 | .none=>eqV .non x
 | .bool b=>eqV (.bl b) x
 | .int i _=>eqV (.int i) x
 | .str z _=>eqV (.str z) x
 | _=>false
theorem Zxt{x y:V}{u:Xc}(r:RelV y u)(f:Zif y=true):eqU x u=eqV y x:=by
 cases y with
 | non=>cases r;rfl
 | bl b=>cases r;rfl
 | int i=>obtain⟨t,rfl⟩:=r;rfl
 | str z=>obtain⟨t,rfl⟩:=r;rfl
 | _=>exact absurd (show false=true from f) XF
theorem Zkj{x:V}{xs:List V}{us:List Xc}(h:Vals xs us)(f:xs.all Zif=true):us.any (eqU x)=xs.any λy=>eqV y x:=by
 induction h with
 | nil=>rfl
 | cons r t ih=>
  rw[List.all_cons,Xo]at f
  rw[Vw,Vw,Zxt r f.1,ih f.2]
theorem Zhn{A:Qk}{s:Xd}{x:V}{v:Xc}(rx:RelV x v)(fx:Zif x=true){xs:List V}{us:List Xc}(h:Vals xs us)(f:xs.all Zif=true):∀u∈us,JM A s u v (eqU x u):=by
 induction h with
 | nil=>intro u hu;cases hu
 | cons r t ih=>
  intro u' hu
  rw[List.all_cons,Xo]at f
  rcases Xu.mp hu with rfl|hu
  ·rw[Zxt r f.1];exact Z2r r rx f.1 fx
  ·exact ih f.2 u' hu
noncomputable def inV(x:V)(xs:List V):Bool:=xs.any λy=>eqV y x
noncomputable def rIn(K:Xb)(neg:Bool):R2:=λx y H Q=>∃p xs,y= .ref p∧(SqL K H p xs∨SqT K H p xs)∧Zif x=true∧xs.all Zif=true∧Q (.bl (if neg then !inV x xs else inV x xs)) H
theorem Zsn:OpR X (JS .In) (rIn X.K false):=by
 intro pins s σ H x y v u Q I rx ry h
 obtain⟨p,xs,rfl,hq,fx,fs,q⟩:=h
 cases ry
 rcases hq with hq|hq
 ·obtain⟨its,r,pl,hz⟩:=I.list hq
  refine SeqAt.in_listAt (eqU x) pl.isList (λw hw=>Zhn rx fx r fs w (by simpa using hw)) ⟨.bl _,H,I,rfl,?_⟩
  rw[show its.toArray.any (eqU x)=its.any (eqU x) by simp,Zkj r fs]
  exact q
 ·obtain⟨its,r,pl,hz⟩:=I.tuple hq
  refine SeqAt.in_tupleAt (eqU x) pl (λw hw=>Zhn rx fx r fs w (by simpa using hw)) ⟨.bl _,H,I,rfl,?_⟩
  rw[show its.toArray.any (eqU x)=its.any (eqU x) by simp,Zkj r fs]
  exact q
theorem Zmy:OpR X (JS .NotIn) (rIn X.K true):=by
 intro pins s σ H x y v u Q I rx ry h
 obtain⟨p,xs,rfl,hq,fx,fs,q⟩:=h
 cases ry
 rcases hq with hq|hq
 ·obtain⟨its,r,pl,hz⟩:=I.list hq
  refine SeqAt.notIn_listAt (eqU x) pl.isList (λw hw=>Zhn rx fx r fs w (by simpa using hw)) ⟨.bl _,H,I,rfl,?_⟩
  rw[show its.toArray.any (eqU x)=its.any (eqU x) by simp,Zkj r fs]
  exact q
 ·obtain⟨its,r,pl,hz⟩:=I.tuple hq
  refine SeqAt.notIn_tupleAt (eqU x) pl (λw hw=>Zhn rx fx r fs w (by simpa using hw)) ⟨.bl _,H,I,rfl,?_⟩
  rw[show its.toArray.any (eqU x)=its.any (eqU x) by simp,Zkj r fs]
  exact q
theorem Zms:Zcd X (.builtin "len") (λxs H Q=>∃p ys,xs=[.ref p]∧(SqL X.K H p ys∨SqT X.K H p ys)∧Q (.int ys.length) H):=by
 intro pins s σ H xs us Q I r h
 obtain⟨p,ys,rfl,hq,q⟩:=h
 obtain⟨u,rfl,rx⟩:=vals1 r
 cases rx
 have hn:=Zj0
 rcases hq with hq|hq
 ·obtain⟨its,r',pl,hz⟩:=I.list hq
  have hlen:=r'.length
  exact Calls.call_len_list pl.isList (by simp only[Xv]<;>omega) ⟨.int ys.length,H,I.tok _,⟨s.toks+1,by rw[Xv,hlen]⟩,q⟩
 ·obtain⟨its,r',pl,hz⟩:=I.tuple hq
  have hlen:=r'.length
  exact len_tuple pl (by simp only[Xv]<;>omega) ⟨.int ys.length,H,I.tok _,⟨s.toks+1,by rw[Xv,hlen]⟩,q⟩
theorem Zls:Zcd X (.type "list") (λxs H Q=>∃p ys,xs=[.ref p]∧(SqL X.K H p ys∨SqT X.K H p ys)∧∀l,H l=none->Q (.ref l) (upd H l (.lst ys))):=by
 intro pins s σ H xs us Q I r h
 obtain⟨p,ys,rfl,hq,q⟩:=h
 obtain⟨u,rfl,rx⟩:=vals1 r
 cases rx
 have fin:∀(its:List Xc),Vals ys its->ys.length≤Xr->∀(h':Heap) (c':Nat),(∀b o',s.heap.get? b=some o'->h'.get? b=some o') ->
   h'.get? s.heap.objs.size=some { cls:=.type "list",dict:=none,data:=.seq its.toArray c',slots:=#[] }->EP X pins σ Q (.ref s.heap.objs.size) { s with heap:=h' }:=λits r' hz h' c' kp e=>
  ⟨.ref s.heap.objs.size,_,I.laid (t':=s.toks) kp (X6 _) (show ObjOk X.prog X.w _ h' _ (.lst ys)from⟨hz,its,c',r',e⟩),rfl,q _ (I.hok.fresh (X6 _))⟩
 rcases hq with hq|hq
 ·obtain⟨its,r',pl,hz⟩:=I.list hq
  have hlen:=r'.length
  obtain⟨o,ho,hc,n,hd⟩:=pl.isList
  exact call_list_seq p (.inl rfl) ho hc hd (λh' c' kp e=>fin its r' hz h' c' kp e) (by simp only[Xv]<;>omega)
 ·obtain⟨its,r',pl,hz⟩:=I.tuple hq
  have hlen:=r'.length
  obtain⟨o,ho,hc,n,hd⟩:=pl
  exact call_list_seq p (.inr rfl) ho hc hd (λh' c' kp e=>fin its r' hz h' c' kp e) (by simp only[Xv]<;>omega)
noncomputable def tyV(K:Xb)(T:String)(x:V)(H:Hp):Prop:=match x with
 | .str _=>T="str"
 | .int _=>T="int"
 | .ref p=>(T="list"∧∃xs,SqL K H p xs)∨(T="tuple"∧∃o,K.lookup p=some o∧o.cls= .type "tuple"∧o.dict=none)∨
   (T="dict"∧((∃kvs,H p=some (.dK kvs))∨∃kvs,H p=some (.dT kvs)))∨(T="set"∧∃S n,H p=some (.set S n))
 | _=>False
theorem Z3s{pins:List (Addr×Obj)}{σ:St}{H:Hp}{s:Xd}{T:String}{x:V}{v:Xc}(I:Inv X pins σ H s)(r:RelV x v)(ty:tyV X.K T x H) :
  s.TypeIs v T∧∀a,v= .ref a->∃ob,s.heap.get? a=some ob∧ob.dict=none:=by
 cases x with
 | str z=>
  obtain⟨t,rfl⟩:=r
  cases(show T="str"from ty)
  exact⟨typeIs_str s z t,λ_ e=>nomatch e⟩
 | int i=>
  obtain⟨t,rfl⟩:=r
  cases(show T="int"from ty)
  exact⟨typeIs_int s i t,λ_ e=>nomatch e⟩
 | ref p=>
  cases r
  rcases ty with⟨rfl,xs,hq⟩|⟨rfl,o,hk,hc,hd⟩|⟨rfl,hk⟩|⟨rfl,S,n,hk⟩
  ·obtain⟨its,_,pl,_⟩:=I.list hq
   refine⟨pl.isList.typeIs,λa e=>?_⟩
   cases e
   obtain⟨o,n,e,c,hd,_⟩:=pl
   exact⟨o,e,hd⟩
  ·refine⟨⟨o,I.kIn p o hk,hc⟩,λa e=>?_⟩
   cases e
   exact⟨o,I.kIn _ o hk,hd⟩
  ·have z:∃o,s.heap.get? p=some o∧o.ExactDict:=by
    rcases hk with⟨kvs,hk⟩|⟨kvs,hk⟩
    ·obtain⟨_,_,_,_,o,_,_,e,ex,_⟩:=I.hok p _ hk
     exact⟨o,e,ex⟩
    ·obtain⟨_,_,_,_,o,_,_,e,ex,_⟩:=I.hok p _ hk
     exact⟨o,e,ex⟩
   obtain⟨o,e,ex⟩:=z
   refine⟨⟨o,e,ex.1⟩,λa e2=>?_⟩
   cases e2
   exact⟨o,e,ex.2.1⟩
  ·obtain⟨o,_,_,_,e,ex,_⟩:=I.hok p _ hk
   refine⟨⟨o,e,ex.1⟩,λa e2=>?_⟩
   cases e2
   exact⟨o,e,ex.2.1⟩
 | _=>exact Vo ty
noncomputable def tBM(K:Xb)(T:String)(r:V->List V->Hp->VK->Prop)(to:TE)(t:TA):TE:=λσ H Q=>to σ H λx H1=>tyV K T x H1∧t σ H1 λxs H2=>r x xs H2 Q
variable {o e:Expr}{es:List Expr}{to:TE}{t:TA}{name:Str}{apos cpos:Pos}{T id:String}{r:V->List V->Hp->VK->Prop}
theorem Z8j(pa:PlainAttrs T)(slot:Slot T name id)(hty:typeOf (.builtin id)=pure (.type "method_descriptor"))(hm:MtR X id r)(ho:PE X o to)(ha:PA X (e :: es) t)
  (hbase:attributeBase o name X.env (eval o X.env)=eval o X.env:=by rfl)
  (hfew:((BV cpos (Xq (e :: es) X.env)).all (λx=>!x.1)&&(backToKw cpos (keywordEach [] X.env)).all (λx=>x.1.isSome)
   &&decide ((e :: es).length+([]:List Keyword).length+(if([]:List Keyword).isEmpty then 0 else 1)<30))=true:=by rfl)
  (hline:(apos.endLine==cpos.line)=true:=by rfl) (hs:Xq (e :: es) X.env=(false,eval e X.env) :: Xq es X.env:=by rfl) (hplain:(BV cpos (Xq es X.env)).any (·.1)=false:=by rfl) :
  PE X (.Call (.Attribute o name apos) (e :: es) [] cpos) (tBM X.K T r to t):=by
 intro pins s σ H Q I h
 refine wpAny_Call_method_late hbase hfew hline rfl (thn (ho pins s σ H _ I h) λv s1 qz9=>?_)
 obtain⟨x,H1,I1,r1,ty,q1⟩:=qz9
 obtain⟨h1,h2⟩:=Z3s I1 r1 ty
 refine⟨T,id,pa,slot,hty,h1,h2,?_⟩
 have hA:=ha cpos pins s1 σ H1 _ I1 q1
 rw[hs]at hA⊢
 refine Calls.callWith_builtin (by show(false||(BV cpos (Xq es X.env)).any (·.1))=false;rw[hplain]<;>rfl) (Calls.evalArgs_plain ?_)
 refine thn hA λus s2 qz9=>?_
 obtain⟨vs,H2,I2,r2,q2⟩:=qz9
 exact hm pins s2 σ H2 x vs v us Q I2 r1 r2 q2
end
noncomputable def MtM(X:Cx)(id:String)(r:V->List V->Hp->VK->Prop):Prop :=
 ∀(pins:List (Addr×Obj)) (s:Xd) (σ:St) (H:Hp) (x:V) (xs:List V) (v:Xc) (us:List Xc) (Q:VK),Inv X pins σ H s->RelV x v->Vals xs us->r x xs H Q ->
  XQ (X7 X.prog X.w) X.A (call (.builtin id) (v :: us)) (EP X pins σ Q) X.xe s
theorem Vals.one{x:V}{us:List Xc}(h:Vals [x] us):∃u,us=[u]∧RelV x u:=by
 cases h with
 | cons r t=>cases t;exact⟨_,rfl,r⟩
theorem Vals.zero:∀{us:List Xc},Vals [] us->us=[]
 | _,.nil=>rfl
theorem Vals.rep{xs:List V}{us:List Xc}(h:Vals xs us):∀k:Nat,Vals (Xy k xs).flatten (Xy k us).flatten
 | 0=>.nil
 | k+1=>by
  rw[Vb,Vb,V2,V2]
  exact Vals.append h (Vals.rep h k)
theorem foldl_rep(its:List Xc):∀(k:Nat) (acc:List Xc),
  List.foldl (λx1 x2=>x1 ++ x2) acc.toArray (Xy k its.toArray)=(acc ++ (Xy k its).flatten).toArray
 | 0,acc=>by simp
 | k+1,acc=>by
  have e:acc.toArray ++ its.toArray=(acc ++ its).toArray:=by simp
  have e2:(acc ++ its) ++ (Xy k its).flatten=acc ++ (Xy (k+1) its).flatten:=by
   rw[Vb,V2,V3]
  rw[←e2,←foldl_rep its k (acc ++ its),←e,Vb,List.foldl_cons]
section
variable {X:Cx}{pins:List (Addr×Obj)}{σ:St}{H:Hp}{s:Xd}{l b:Addr}{xs ys zs:List V}
theorem Inv.lset{its its':List Xc}{n:Nat}{f:Array Xc->Array Xc}{t':Nat}(I:Inv X pins σ H s)(hH:H l=some (.lst xs))
  (e:s.heap.get? l=some { cls:=.type "list",data:=.seq its.toArray n }) (hf:f its.toArray=its'.toArray) (hv:Vals ys its') (hz:ys.length≤Xr) :
  Inv X pins σ (upd H l (.lst ys)) { s with heap:=s.heap.update l (QD f),toks:=t' }:=by
 have q:=PySem.IsL.update e f
 rw[hf]at q
 refine I.write (x:=l) (e:=l) (by rw[hH];exact trivial) (.inl rfl) (λb' u hb hu=>(Heap.get?_update_other s.heap (QD f) (Vi hb)).trans hu) ⟨_,q⟩ ?_
 exact⟨hz,its',_,hv,q⟩
theorem Inv.lnew{its:List Xc}{t':Nat}(I:Inv X pins σ H s)(hv:Vals ys its)(hz:ys.length≤Xr) :
  Inv X pins σ (upd H s.heap.objs.size (.lst ys)) { s with heap:=s.heap.push { cls:=.type "list",data:=.seq its.toArray },toks:=t' } :=
 I.laid (λ_ _ q=>Xj _ q) (X6 _) ⟨hz,its,0,hv,X3 _ rfl⟩
theorem Inv.fresh(I:Inv X pins σ H s):H s.heap.objs.size=none:=I.hok.fresh (X6 _)
theorem Inv.lstM(I:Inv X pins σ H s)(hH:H l=some (.lst xs)):xs.length≤Xr∧∃(its:List Xc) (n:Nat),Vals xs its∧xs.length=its.length∧s.heap.get? l=some { cls:=.type "list",data:=.seq its.toArray n }:=by
 obtain⟨z,its,n,r,e⟩:=I.hok l _ hH
 exact⟨z,its,n,r,r.length,e⟩
theorem Zv6{n:Nat}(h:n≤Xr):Um n=false:=by
 unfold Um
 exact decide_eq_false (by omega)
end
section
variable {X:Cx}
noncomputable def Zy4:V->List V->Hp->VK->Prop:=λx vs H Q=>∃l xs y,x= .ref l∧vs=[y]∧H l=some (.lst xs)∧xs.length<Xr∧Q .non (upd H l (.lst (xs ++ [y])))
theorem Zmq:MtM X "list.append" Zy4:=by
 intro pins s σ H x vs v us Q I rx rv h
 obtain⟨l,xs,y,rfl,rfl,hH,hz,q⟩:=h
 cases rx
 obtain⟨u,rfl,ru⟩:=rv.one
 obtain⟨z,its,n,r,hl,e⟩:=I.lstM hH
 refine call_meets F.slot_list_append ⟨_,e,rfl⟩ F.entry_list_append (F.args_list_append_2 _ _) (PySem.list_append l its.toArray n u (by rw[Xv];omega)) ⟨e,?_⟩
 refine⟨.non,_,I.lset (its':=its ++ [u]) hH e (by simp) (r.append (.cons ru .nil)) ?_,rfl,q⟩
 rw[QJ,List.length_singleton]
 omega
noncomputable def Yds:R2:=λx y H Q=>∃l k xs,x= .ref l∧y= .int k∧H l=some (.lst xs)∧-(2^63)≤k∧k<2^63∧xs.length*k.toNat≤Xr∧
 ∀p,H p=none->Q (.ref p) (upd H p (.lst (Xy k.toNat xs).flatten))
theorem len_rep{α:Type}(xs:List α)(k:Nat):(Xy k xs).flatten.length=k*xs.length:=by
 induction k with
 | zero=>simp
 | succ k ih=>rw[Vb,V2,QJ,ih,Nat.succ_mul,Nat.add_comm]
theorem Z6k:OpR X (VN .Mult) Yds:=by
 intro pins s σ H x y v u Q I rx ry h
 obtain⟨l,k,xs,rfl,rfl,hH,h1,h2,hz,q⟩:=h
 cases rx
 obtain⟨t,rfl⟩:=ry
 obtain⟨z,its,n,r,hl,e⟩:=I.lstM hH
 have hlen:its.toArray.size*k.toNat≤Xr:=by rw[Xv,←hl];exact hz
 have hcap:¬its.toArray.size*k.toNat>(2^63-1)/8:=by
  have:(Xr:Nat)≤(2^63-1)/8:=by decide
  omega
 have hfit:¬(!V4.List.listFitsIndex k)=true:=by
  rw[fitsIndex_both h1 h2]
  exact XF
 have hlong:¬Um (its.toArray.size*k.toNat)=true:=by
  rw[Zv6 hlen]
  exact XF
 have hnew:List.foldl (λx1 x2=>x1 ++ x2) #[] (Xy (if its.toArray.isEmpty=true then 0 else k.toNat) its.toArray)=(Xy k.toNat its).flatten.toArray:=by
  have f0:∀m:Nat,List.foldl (λx1 x2=>x1 ++ x2) #[] (Xy m its.toArray)=(Xy m its).flatten.toArray:=λm=>by
   have:=foldl_rep its m []
   rw[List.nil_append]at this
   exact this
  rw[f0]
  cases its with
  | nil=>simp
  | cons a r'=>rw[if_neg (by simp)]
 refine wpAny_binaryOp_repeat_ref (T :="list") (U :="int") (by decide) ⟨_,e,rfl⟩ (λs'=>typeIs_int s' k t) noFill_list_mul F.fills_int_mul F.slot_int_rmul repeat_list F.slot_int_index.lookup
  (call_meets F.slot_int_rmul (typeIs_int s k t) F.entry_int_rmul (F.args_int_rmul_2 _ _) (int___rmul___int_list k t l its.toArray n)
   ⟨e,rfl,⟨_,e,rfl⟩,call_meets F.slot_list_mul ⟨_,e,rfl⟩ F.entry_list_mul (F.args_list_mul_2 _ _) (AutoListH.list___mul___list_int_3 l its.toArray n k t hfit hcap hlong) ⟨e,?_⟩⟩)
 rw[hnew]
 exact⟨.ref _,_,I.lnew (t':=s.toks) (r.rep k.toNat) (by rw[len_rep,Nat.mul_comm];exact hz),rfl,q _ I.fresh⟩
end
section
variable {prog:XH}{w:Qo}{A:Qk}{E:Xc->Xd->Prop}{s:Xd}
end
section
variable {X:Cx}
end
end L2
namespace Att
open PySem PySem.W PySem.Calls PyProof.Rows
theorem Zi5{P:Params}{h:Heap}:∀(ns:List Int) (vs:List Xc),WellAll P h vs (ns.map WData.int)->Bg vs ns:=by
 intro ns
 induction ns with
 | nil=>
  intro vs w
  rw[List.map_nil]at w
  cases w
  exact .nil
 | cons n ns ih=>
  intro vs w
  rw[Ql]at w
  cases w with
  | cons a b=>
   cases a
   exact .cons _ _ (ih _ b)
theorem Ztw{l:OpenLaw}{n:Nat}(hn:l.most=some n){P:Params}{h:Heap}{args:List WData}{vals:List Xc}
  (hpre:l.row.toRowW.claim.pre args=true) (hwl:WellAll P h vals args) :
  ∃a vs ns,vals=[QX a]∧args=[WData.list (ns.map WData.int)]∧h.get? a=some { cls:=.type "list",data:=.seq vs.toArray }∧Bg vs ns∧ns.length≤n:=by
 have hsh:WShape.hasAll [] args [.list .int]=true:=(pre_splitW hpre).1
 have hc:l.pre.holds [] { args:=args }=true:=(pre_splitW hpre).2
 obtain⟨d,r,rfl,h1,h2⟩:=hasAllW_cons hsh
 obtain rfl:=hasAllW_nil h2
 obtain⟨xs,rfl,h3⟩:=hasW_list h1
 obtain⟨ns,rfl⟩:=items_int h3
 have hlen:ns.length≤n:=by
  unfold OpenLaw.pre at hc
  have h4:(WTm.not (.lt (.lit (.int (n:Int))) (.len (.arg 0)))).holds [] { args:=[.list (ns.map .int)] }=true:=by
   have h4:=(holds_andW hc).1
   rw[hn]at h4
   exact h4
  have h5:=condW_of h4 (w_not (w_lt w_lit (w_len_list (w_arg rfl))))
  rw[Xg]at h5
  refine Nat.le_of_not_lt λq=>?_
  have q':(n:Int)<((ns.length:Nat):Int):=by omega
  first
   | (rw[decide_eq_true q']at h5;exact absurd h5 (by decide))
   | (simp at h5;omega)
 cases hwl with
 | cons w1 w2=>
  cases w2
  cases w1 with
  | list ho hall=>exact⟨_,_,ns,rfl,rfl,ho,Zi5 ns _ hall,hlen⟩
theorem Zsw(l:OpenLaw)(args:List WData):l.row.toRowW.claim.post args (.bool true) args=true :=
 postW_of (r:=l.row.toRowW) (X:=(true==true))
  (show WShape.has [] (.bool true) .bool=true by first|rfl|decide|simp[WShape.has,WShape.arms,WShape.armsAll])
  (show(WTm.eq .res (.lit (.bool true))).value [] { args:=args,res:=some (.bool true),after:=args }=some (.bool (true==true))from w_eq_bool (w_res rfl) w_lit) rfl
theorem attach_call{l:OpenLaw}{n:Nat}{q:XH}{loose:List Str}{XP:(Str->Option Xc)->Heap->Prop}{YP:Qo->Heap->Prop}{d:DefRec}
  (hn:l.most=some n) (hdf:d.params.defaults=[])
  (call:∀(w:Qo) (s₀ s₁:Xd) (mg mb:Str->Option Xc) (fa:Addr) (o:Obj) (pm cd doc:Xc) (a:Addr) (vs:List Xc) (ns:List Int),
   Ground q loose [] XP w s₀ mg mb s₁.heap->YP w s₁.heap ->
   s₁.heap.get? fa=some o->o.data= .func (docDef d.name d.params d.body d.scope pm cd doc)->s₁.heap.CodeRec cd d.name->mg d.name=some (.ref fa) ->
   s₁.heap.get? a=some { cls:=.type "list",data:=.seq vs.toArray }->Bg vs ns->ns.length≤n->s₁.gens=#[] ->
   codeAny (X7 l.prog w) callerA (.call (.ref fa) ⟨[.ref a],[]⟩) (λr s'=>r= .ok (.ret (.bool true))∧OldK s₁.heap s'.heap∧s'.os=s₁.os∧AllBare s'.gens) s₁) :
  WalkO q loose XP YP l.row.toRowW d [] (λf vs=>PySem.call f vs):=by
 intro w s₀ s₁ mg mb G Y fa o pm cd doc dV kV ho hd hcd hD hmg hg args vals as hpre hlay hrd hwl hlo
 obtain rfl:dV= .none:=Dflts.none hD hdf
 obtain rfl:kV= .none:=Dflts.noKw hD
 obtain⟨a,vs,ns,rfl,rfl,hobj,hints,hlen⟩:=Ztw hn hpre hwl
 refine enter_call (codeAny_mono (call w s₀ s₁ mg mb fa o pm cd doc a vs ns G Y ho (fd_plain hd) hcd hmg hobj hints hlen hg) λr s' hq=>?_)
 obtain⟨rfl,h2,h3,h4⟩:=hq
 exact⟨.inl ⟨.bool true,.bool true,[],rfl,λ_=>rfl,.bool true,Zsw l _,λ_=>⟨List.Pairwise.nil,λ_ hm=>(nomatch hm)⟩⟩,h2,h3,h4⟩
section
variable {prog:XH}{w:Qo}{A:Qk}{E:Xc->Xd->Prop}{s:Xd}{K:Frag}
end
end Att
namespace L2
open PySem PySem.Spec PyProof.Rows
theorem Zsc{vs:List Xc}{ns:List Int}(h:Bg vs ns):Vals (ns.map V.int) vs:=by
 induction h with
 | nil=>exact .nil
 | cons n t h ih=>exact .cons ⟨t,rfl⟩ ih
noncomputable def Only(H:Hp):Prop:=∀b,H b=none∨∃o xs,H b=some (.frz o (.lst xs))
theorem Zwj{P:XH}{w:Qo}{K:Xb}{mg mb:Str->Option Xc}{CX:CXT}{k:Nat}{fa a:Addr}{fd:Xx}{x:Str}{sp:Sp}{s₁:Xd}{vs:List Xc}{ns:List Int}
  (KX:K.In s₁.heap) (hns:s₁.heap.Ns Qh mg) (hb:s₁.heap.Ns builtinsNs mb) (hbb:∀x:Str,x≠"__name__" ->mb x=Qm x) (hlim:s₁.heap.NoLimit) (hg:s₁.gens=#[])
  (ha:s₁.heap.get? a=some { cls:=.type "list",data:=.seq vs.toArray }) (hi:Bg vs ns) (hl:ns.length≤Xr) (hr:Room k callerA)
  (F:∀base:Heap,K.In base->base.Ns Qh mg->FnOk P w K mg base CX k fa fd [x] sp) (hbind:∀(s:Xd) (u:Xc),BindsTo s fd ⟨[u],[]⟩ [(x,u)])
  (hsp:∀H:Hp,Only H->SqL K H a (ns.map V.int)->sp [.ref a] H (λv _=>v= .bl true) λ_ _ _=>False)
  (hCX:∀H e s',CX [] H s₁ (λ_ _ _=>False) e s'->False) :
  codeAny (X7 P w) callerA (.call (.ref fa) ⟨[.ref a],[]⟩) (λr s'=>r= .ok (.ret (.bool true))∧OldK s₁.heap s'.heap∧s'.os=s₁.os∧AllBare s'.gens) s₁:=by
 have rv:=Zsc hi
 have lenV:=hi.length
 -- from an abstract heap in which nothing but the script may be tracked
 have core:∀H:Hp,Only H->SqL K H a (ns.map V.int)->HOk P w H s₁.heap->(∀b,H b≠none->b=a)->(H a≠none->K.lookup a=none) ->
   codeAny (X7 P w) callerA (.call (.ref fa) ⟨[.ref a],[]⟩) (λr s'=>r= .ok (.ret (.bool true))∧OldK s₁.heap s'.heap∧s'.os=s₁.os∧AllBare s'.gens) s₁:=by
  intro H hO hS hok hA hK
  have base_of:∀{b:Addr} {o:Obj},s₁.heap.get? b=some o->H b=none->(Zwi s₁.heap H).get? b=some o:=λe n=>Zwq e n
  have noA:∀{b:Addr} {o:Obj} {es:Array DictEntry} {ep:Nat},s₁.heap.get? b=some o->o.data= .dict es ep->H b=none:=fun{b o es ep} e d=>by
   cases q:H b with
   | none=>rfl
   | some u=>
    have e':b=a:=hA b (by rw[q];simp)
    subst e'
    rw[ha]at e;cases e
    have d':Data.seq vs.toArray _=Data.dict es ep:=d
    cases d'
  have nsK:∀{b:Addr} {m:Str->Option Xc},s₁.heap.Ns b m->(Zwi s₁.heap H).Ns b m:=fun{b m} ⟨o,es,ep,e,d,r⟩=>⟨o,es,ep,base_of e (noA e d),d,r⟩
  have hKb:K.In (Zwi s₁.heap H):=λb o e=>base_of (KX b o e) (by
   cases q:H b with
   | none=>rfl
   | some u=>
    have e':b=a:=hA b (by rw[q];simp)
    subst e'
    rw[hK (by rw[q];simp)]at e;cases e)
  have hM:Mod K mg (Zwi s₁.heap H):=⟨hKb,nsK hns,⟨mb,nsK hb,hbb⟩,let⟨mc,h1,h2⟩:=hlim;⟨mc,nsK h1,h2⟩⟩
  have e0:Z7v P w K mg (Zwi s₁.heap H) callerA [] s₁ H:=⟨rfl,hM,λb o e=>Zyh e,Nat.le_of_eq (Zsb _ _),trivial,λb hb=>absurd (show b∈([]:List Addr)from hb) (by simp),hok,.of_eq hg⟩
  refine codeAny_mono ((F _ hKb (nsK hns)).run callerA [] s₁ H ⟨[.ref a],[]⟩ [.ref a] [.ref a] _ _ hr e0 (hbind s₁ (.ref a)) (.cons rfl .nil) (hsp H hO hS)) λr s' h=>?_
  cases r with
  | error e=>exact(hCX H e s' h).elim
  | ok fl=>
   cases fl with
   | next=>exact Vo h
   | brk=>exact Vo h
   | cont=>exact Vo h
   | ret u=>
    obtain⟨v,H',os,bare,un,hok',r',q⟩:=h
    have q':v= .bl true:=q
    subst q'
    obtain rfl:u=Uv true:=r'
    refine⟨rfl,OldK.of_keep λb o e=>?_,os,bare⟩
    cases q:H b with
    | none=>exact un.keep b o e q (by intro z;exact absurd (show b∈([]:List Addr)from z) (by simp)) (by simp)
    | some u=>
     rcases hO b with z|⟨ob,xs,z⟩
     ·rw[q]at z;cases z
     ·have z2:=un.frzs b ob _ z
      obtain⟨e1,_⟩:=hok b _ z
      obtain⟨e2,_⟩:=hok' b _ z2
      rw[e]at e1;cases e1
      exact e2
 cases hk:K.lookup a with
 | some o=>
  -- the script is one of the module's own objects
  have e:=KX a o hk
  rw[ha]at e
  cases e
  refine core (λ_=>none) (λ_=>.inl rfl) (.inr ⟨_,vs.toArray,_,hk,rfl,rfl,rfl,by rw[Xv,lenV];exact hl,by simpa using rv⟩) (λb u z=>by have z':(none:Option HO)=some u:=z;cases z') (λb z=>absurd rfl z) λz=>absurd rfl z
 | none=>
  refine core (λb=>if b=a then some (.frz { cls:=.type "list",data:=.seq vs.toArray } (.lst (ns.map V.int)))else none) (λb=>?_) (.inl (.inr ⟨{ cls:=.type "list",data:=.seq vs.toArray },if_pos rfl⟩)) (λb u z=>?_) (λb z=>?_) λ_=>hk
  ·by_cases hb:b=a
   ·exact .inr ⟨_,_,if_pos hb⟩
   ·exact .inl (if_neg hb)
  ·by_cases hb:b=a
   ·have z':=(if_pos hb).symm.trans z
    cases z'
    subst hb
    exact⟨ha,by rw[Xg];exact hl,vs,_,rv,ha⟩
   ·have z':=(if_neg hb).symm.trans z
    cases z'
  ·by_cases hb:b=a
   ·exact hb
   ·exact absurd (if_neg hb) z
noncomputable abbrev KOf{K:Xb}{h:Heap}(_:K.In h):Xb:=K
theorem Zxy{l:PySem.W.OpenLaw}{n k:Nat}{q:XH}{loose:List Str}{XP:(Str->Option Xc)->Heap->Prop}{YP:Qo->Heap->Prop}{d:DefRec}{K:Params->Xb}{CX:Qo->CXT}{sp:Qo->Sp}{x:Str}
  (hn:l.most=some n) (hn2:n≤Xr) (hdf:d.params.defaults=[]) (hr:Room k callerA)
  (hY:∀(w:Qo) (h:Heap),YP w h->(K w.params).In h)
  (F:∀(w:Qo) (mg:Str->Option Xc) (fa:Addr) (h:Heap),(K w.params).In h->h.Ns Qh mg->mg d.name=some (.ref fa) ->
   ∃fd:Xx,(∀(s:Xd) (u:Xc),BindsTo s fd ⟨[u],[]⟩ [(x,u)])∧
    ∀base:Heap,(K w.params).In base->base.Ns Qh mg->FnOk l.prog w (K w.params) mg base (CX w) k fa fd [x] (sp w))
  (hsp:∀(w:Qo) (H:Hp) (a:Addr) (ns:List Int),ns.length≤n->Only H->SqL (K w.params) H a (ns.map V.int)->sp w [.ref a] H (λv _=>v= .bl true) λ_ _ _=>False)
  (hCX:∀(w:Qo) (H:Hp) (s:Xd) (e:Xc) (s':Xd),CX w [] H s (λ_ _ _=>False) e s'->False) :
  PySem.W.WalkO q loose XP YP l.row.toRowW d [] (λf vs=>PySem.call f vs):=by
 refine Att.attach_call hn hdf λw s₀ s₁ mg mb fa o pm cd doc a vs ns G Y ho hd hcd hmg hobj hints hlen hg=>?_
 have KX:=hY w _ Y
 obtain⟨fd,hb,hF⟩:=F w mg fa _ KX G.T.g hmg
 exact Zwj KX G.T.g G.T.b G.T.builtins G.T.nolimit hg hobj hints (Qt hlen hn2) hr hF hb (λH hO hS=>hsp w H a ns hlen hO hS) λH e s'=>hCX w H s₁ e s'
noncomputable def Zgh(s:Stmt):Arguments:=match s with
 | .FunctionDef _ a _ _ _ _ _ _ _ _=>a
 | _=>{ posonlyargs:=[],args:=[],vararg:=none,kwonlyargs:=[],kw_defaults:=[],kwarg:=none,defaults:=[] }
noncomputable def Zbb(s:Stmt):List Stmt:=match s with
 | .FunctionDef _ _ b _ _ _ _ _ _ _=>b
 | _=>[]
noncomputable def Zn(s:Stmt):Uj:=match s with
 | .FunctionDef _ _ _ _ _ _ sc _ _ _=>sc
 | _=>{ kind:=.function,names:=[],isGenerator:=false,isCoroutine:=false }
noncomputable abbrev CX0:CXT:=λ_ _ _ _ _ _=>False
noncomputable abbrev E0:XK:=λ_ _ _=>False
theorem Z4h{X:Cx}:Zmp CX0 X E0:=λ_ _ _ _ _ _ _ h=>h.elim
structure Fun(K:Xb)(x qual:Str)(st:Stmt)(f:Addr)(fd:Xx):Prop where
 ex:∃(oc:Xc) (od:Option Addr) (kV doc pm:Xc) (an:Option Addr) (cdv ct:Xc) (osl:Array (Option Xc)),
  fd=Vn x qual (Zgh st) (Zbb st) (Zn st) .none kV doc pm an cdv ct∧K.lookup f=some ⟨oc,od,.func fd,osl⟩∧PySem.W.codeIn K cdv qual=true
 kp:BZ K (.ref f)=true
section
variable {P:XH}{w:Qo}{K:Xb}{mg:Str->Option Xc}{base:Heap}
theorem Fun.ok{x qual:Str}{st:Stmt}{f:Addr}{fd:Xx}{N ps:List Str}{k:Nat}{sp:Sp}(F:Fun K x qual st f fd)(S:Zv N ps (Zn st))(len:∀vs H Q E,sp vs H Q E->vs.length=ps.length)
  (hbody:∀(cdv:Xc) (A:Qk) (outer:List Env) (s:Xd) (H:Hp) (vs:List V) (Q:VK) (E:XK),Room k (A.deeper (envOfC qual (Zn st) s.heap.objs.size f cdv))->sp vs H Q E ->
   ∃t,PSs (Zuc CX0 P w K mg base N qual (Zn st) f cdv A outer s H E).nox (Zbb st) t∧t { nx:=λ_ H'=>Q .non H',rt:=Q } (start N vs) H):FnOk P w K mg base CX0 (k+1) f fd ps sp:=by
 obtain⟨oc,od,kV,doc,pm,an,cdv,ct,osl,rfl,lk,hcd⟩:=F.ex
 refine Yar lk hcd S len λA outer s H vs Q E hr hsp=>?_
 obtain⟨t,h,q⟩:=hbody cdv A outer s H vs Q E hr hsp
 exact⟨t,h.nox,q⟩
theorem Fun.binds{x qual:Str}{st:Stmt}{f:Addr}{fd:Xx}{ps:List Str}(F:Fun K x qual st f fd)
  (h:∀(kV doc pm:Xc) (an:Option Addr) (cdv ct:Xc) (us:List Xc),us.length=ps.length->bindArgs (Vn x qual (Zgh st) (Zbb st) (Zn st) .none kV doc pm an cdv ct) ⟨us,[]⟩=pure (ps.zip us)):Binds K fd ps []:=by
 obtain⟨oc,od,kV,doc,pm,an,cdv,ct,osl,rfl,lk,hcd⟩:=F.ex
 exact .all (h kV doc pm an cdv ct)
theorem Z3i{x qual:Str}{st:Stmt}{f:Addr}{oc:Xc}{od an:Option Addr}{osl:Array (Option Xc)}{kV doc pm cdv ct:Xc}(l:K.lookup f=some ⟨oc,od,.func (Vn x qual (Zgh st) (Zbb st) (Zn st) .none kV doc pm an cdv ct),osl⟩)
  (c:PySem.W.codeIn K cdv qual=true) (k:BZ K (.ref f)=true):Fun K x qual st f (Vn x qual (Zgh st) (Zbb st) (Zn st) .none kV doc pm an cdv ct):=⟨⟨oc,od,kV,doc,pm,an,cdv,ct,osl,rfl,l,c⟩,k⟩
end
section
variable {X:Cx}
theorem pv(i:Nat){x:Str}{pos:Pos}(hN:X.N[i]? =some x:=by rfl)(hv:Vis X.env.scope x:=by first|exact QS rfl|exact QG (QS rfl)|exact QG (QG rfl))(hd:(x==("__debug__" : Str))=false:=by decide)
  (hcd:(x==("__classdict__" : Str))=false:=by decide):PE X (.Name x pos) (Ydi i):=Z3v hN hv hd hcd
end
noncomputable def Same(H H':Hp):Prop:=∀b o,H b=some o->H' b=some o
theorem Same.refl(H:Hp):Same H H:=λ_ _ h=>h
theorem Same.trans{H H1 H2:Hp}(a:Same H H1)(b:Same H1 H2):Same H H2:=λc o h=>b c o (a c o h)
theorem Same.free{H H':Hp}(e:Same H H'){l:Addr}(h:H' l=Option.none):H l=Option.none:=by
 cases q:H l with
 | none=>rfl
 | some o=>
  rw[e l o q]at h
  cases h
end L2
set_option maxHeartbeats 4000000
namespace L2
open PySem PySem.Spec PyProof.Rows
noncomputable def Bt(n:Nat)(x:Int):Prop:=x.natAbs<2^n
theorem Bt.mono{m n:Nat}{x:Int}(h:Bt m x)(hn:m≤n):Bt n x:=Qe h (Nat.pow_le_pow_right (by decide) hn)
theorem Bt.mul{m n:Nat}{x y:Int}(h:Bt m x)(k:Bt n y):Bt (m+n) (x*y):=by
 unfold Bt at*
 rw[Int.natAbs_mul,Nat.pow_add]
 exact Nat.mul_lt_mul'' h k
theorem Bt.neg{m:Nat}{x:Int}(h:Bt m x):Bt m (-x):=by
 unfold Bt at*
 rw[Int.natAbs_neg]
 exact h
theorem Bt.add'{m:Nat}{x y:Int}(h:Bt m x)(k:Bt m y):Bt (m+1) (x+y):=by
 unfold Bt at*
 have h3:2^(m+1)=2*2^m:=by rw[Nat.pow_succ];omega
 have h4:=Int.natAbs_add_le x y
 omega
theorem Bt.of_le{m:Nat}{x y:Int}(h:Bt m x)(k:y.natAbs≤x.natAbs):Bt m y:=Nat.lt_of_le_of_lt k h
theorem Bt.of_lt{m:Nat}{x:Int}(h1:-(2^m)<x)(h2:x<2^m):Bt m x:=by
 unfold Bt
 have e:((2^m:Nat):Int)=2^m:=by simp
 omega
theorem Bt.bits{m:Nat}{x:Int}(h:Bt m x):JG x≤m:=by
 unfold JG
 split
 ·exact QV _
 ·rename_i hx
  have hp:x.natAbs≠0:=by
   intro e
   apply hx
   have:x=0:=by omega
   subst this
   rfl
  have:=(Nat.log2_lt hp).mpr h
  omega
theorem Bt.mulOk{m n:Nat}{x y:Int}(h:Bt m x)(k:Bt n y)(hmn:m+n≤100000000:=by decide):IntMulOk x y:=by
 have h1:=h.bits
 have h2:=k.bits
 have h3:U9 (JG x+JG y)=false:=by
  unfold U9 bitsLine
  exact decide_eq_false (by omega)
 unfold IntMulOk
 rw[h3]
 simp
noncomputable def DivOk(_ j:Int):Prop:=j≠0∧j.natAbs.log2<9000
theorem DivOk.of{i j:Int}{n:Nat}(h0:j≠0)(h:Bt n j)(hn:n≤9000:=by decide):DivOk i j:=by
 refine⟨h0,?_⟩
 have hp:j.natAbs≠0:=by omega
 have:=(Nat.log2_lt hp).mpr h
 omega
section
variable {X:Cx}
theorem Zys:OpR X (VN .Mult) (rI IntMulOk λi j=>.int (i*j)):=opI λ_ _ _ _ _ _ _ hc q=>mul_int q hc
theorem Zuz:OpR X (VN .FloorDiv) (rI DivOk λi j=>.int (i.fdiv j)):=opI λ_ _ _ _ _ _ _ hc q=>floordiv_int hc.1 q (.inl (PyProof.noPylong_of_log2 hc.2))
theorem Zyl:OpR X (VN .Pow) (rI Z7u λi j=>.int (i^j.toNat)):=Z42
end
theorem Zjl(elt target iter:Expr)(ifs:List Expr)(scope:Uj)(pos:Pos)(it acc:Xc)(env:Env) :
  compTurn (.ListComp elt [⟨target,iter,ifs,0⟩] scope pos) 0 it acc env=(standAt iter.pos>>= λ_=>pyNext it>>= λr=>match r with
   | none=>pure (.done .next)
   | some v=>UV target it v>>= λ_=>Uq target env v>>= λ_=>
    (forIn ifs true λc r=>if r=true then do let ok←isTrue c env (eval c env);pure (JL ok)else pure (JL r))>>= λok=>
     if ok=true then((eval elt env>>= λx=>call (.builtin "list.append") [acc,x]>>= λ_=>pure ())>>= λ_=>
      again (.compLoop (.ListComp elt [⟨target,iter,ifs,0⟩] scope pos) 0 it acc env))
     else again (.compLoop (.ListComp elt [⟨target,iter,ifs,0⟩] scope pos) 0 it acc env)):=by rfl
theorem Zml{prog:XH}{w:Qo}{A:Qk}{R:Result->Xd->Prop}{s:Xd}{elt target iter:Expr}{ifs:List Expr}{scope:Uj}{pos:Pos}{it acc:Xc}{env:Env}(I:Nat->Xd->Prop)
  (turn:∀n s,I n s->XQ (X7 prog w) A (pyNext it) (λr s₁=>match r with
   | none=>R (.ok .next) s₁
   | some v=>XQ (X7 prog w) A (UV target it v) (λ_ s₁=>XQ (X7 prog w) A (Uq target env v) (λ_ s₂=>
     XQ (X7 prog w) A (forIn ifs true λc r=>if r=true then do let ok←isTrue c env (eval c env);pure (JL ok)else pure (JL r)) (λok s₃=>
      if ok=true then XQ (X7 prog w) A (eval elt env) (λx s₄=>
       XQ (X7 prog w) A (call (.builtin "list.append") [acc,x]) (λ_ s₅=>∃m,m<n∧I m s₅) (notedBy (X7 prog w) A env λe s'=>R (.error e) s') s₄) (notedBy (X7 prog w) A env λe s'=>R (.error e) s') s₃
      else∃m,m<n∧I m s₃) (notedBy (X7 prog w) A env λe s'=>R (.error e) s') s₂) (notedBy (X7 prog w) A env λe s'=>R (.error e) s') s₁) (notedBy (X7 prog w) A env λe s'=>R (.error e) s') s₁) (notedBy (X7 prog w) A env λe s'=>R (.error e) s') s)
  (n:Nat) (h:I n s) :
  codeAny (X7 prog w) A (.compLoop (.ListComp elt [⟨target,iter,ifs,0⟩] scope pos) 0 it acc env) R s:=by
 refine codeAny_loop rfl I (λn s hI=>?_) n h
 show XQ _ A ((compTurn (.ListComp elt [⟨target,iter,ifs,0⟩] scope pos) 0 it acc env).onRaise (λx=>do noteFrame x env;theTreesLotGoes x)) _ _ s
 refine wpAny_noted ?_
 rw[Zjl]
 refine Xf (wpAny_standAt (Xf (Br (turn n s hI) (λr s₁ h₁=>?_) λ_ _ h'=>h')))
 cases r with
 | none=>exact X5 h₁
 | some v=>
  refine Xf (Br h₁ (λ_ s₂ h₂=>?_) λ_ _ h'=>h')
  refine Xf (Br h₂ (λ_ s₂ h₂=>Xf (Br h₂ (λok s₃ h₃=>?_) λ_ _ h'=>h')) λ_ _ h'=>h')
  cases ok with
  | false=>exact X5 ⟨rfl,h₃⟩
  | true=>
   exact Xf (Xf (Br h₃ (λx s₄ h₄=>Xf (Br h₄ (λ_ s₅ h₅=>X5 (X5 ⟨rfl,h₅⟩)) λ_ _ h'=>h')) λ_ _ h'=>h'))
noncomputable def Zjf(env:Env):List (Str×Bk)->List (Str×Addr)->List (Str×Addr)
 | [],acc=>acc
 | (n,k) :: r,acc=>if k== .free then Zjf env r ((n,(env.cells.lookup n).getD 0) :: acc)else Zjf env r acc
theorem Zlo{env:Env}:∀(names:List (Str×Bk)) (acc:List (Str×Addr)),(∀y∈names,y.2= .free->∃c,env.cells.lookup y.1=some c) ->
  (forIn names acc (λ(y:Str×Bk) cs=>(if y.2== .free then(cellOf env y.1>>= λc=>pure (JL ((y.1,c) :: cs)))else pure (JL cs):Sem (ForInStep (List (Str×Addr))))))=pure (Zjf env names acc)
 | [],acc,_=>by rw[V1];rfl
 | (n,k) :: r,acc,h=>by
  by_cases hk:k= .free
  ·subst hk
   obtain⟨c,hc⟩:=h (n,.free) (.head _) rfl
   have hc':env.cells.lookup n=some c:=hc
   have e:=Zlo (env:=env) r ((n,c) :: acc) λy hy=>h y (.tail _ hy)
   have ec:cellOf env n=pure c:=by
    unfold cellOf
    rw[hc']
   rw[Ul]
   simp only[beq_self_eq_true,if_true]
   rw[ec]
   simp only[Zjf,beq_self_eq_true,if_true,hc',Option.getD_some]
   exact e
  ·have e:=Zlo (env:=env) r acc λy hy=>h y (.tail _ hy)
   have hb:(k==QZ)=false:=by simpa using hk
   rw[Ul]
   simp only[Zjf,hb,By,if_false]
   exact e
theorem Zem{scope:Uj}{env:Env}(h:∀y∈scope.names,y.2= .free->∃c,env.cells.lookup y.1=some c):closureFor scope env=pure (Zjf env scope.names []):=by
 have e:=Zlo scope.names [] h
 have e':(forIn scope.names ([]:List (Str×Addr)) (λ(y:Str×Bk) cs=>(match y with|(name,kind)=>do
   if kind== .free then do let a←cellOf env name;pure (JL ((name,a) :: cs))else pure (JL cs):Sem (ForInStep (List (Str×Addr))))))=pure (Zjf env scope.names []):=e
 exact congrArg (λ(m:Sem (List (Str×Addr)))=>m>>= λx=>pure x) e'
theorem Zk9{env:Env}:∀(names:List (Str×Bk)) (acc:List (Str×Addr)),(∀y∈names,y.2= .free->∃c,env.cells.lookup y.1=some c) ->
  ∀n c,(n,c)∈Zjf env names acc->(n,c)∈acc∨((n,QZ)∈names∧env.cells.lookup n=some c)
 | [],acc,_,n,c,h=>.inl h
 | (m,k) :: r,acc,h,n,c,hm=>by
  by_cases hk:k= .free
  ·subst hk
   obtain⟨d,hd⟩:=h (m,.free) (.head _) rfl
   have hd':env.cells.lookup m=some d:=hd
   simp only[Zjf,beq_self_eq_true,if_true,hd',Option.getD_some]at hm
   rcases Zk9 r _ (λy hy=>h y (.tail _ hy)) n c hm with z|⟨z1,z2⟩
   ·rcases Xu.mp z with z|z
    ·cases z;exact .inr ⟨.head _,hd'⟩
    ·exact .inl z
   ·exact .inr ⟨.tail _ z1,z2⟩
  ·have hb:(k==QZ)=false:=by simpa using hk
   simp only[Zjf,hb,By,if_false]at hm
   refine(Zk9 r _ (λy hy=>h y (.tail _ hy)) n c hm).imp id λqz9=>?_
   obtain⟨z1,z2⟩:=qz9
   exact⟨.tail _ z1,z2⟩
theorem Zkh{env:Env}:∀(names:List (Str×Bk)) (acc:List (Str×Addr)),∀p∈acc,p∈Zjf env names acc
 | [],_,_,h=>h
 | (m,k) :: r,acc,p,h=>by
  unfold Zjf
  split
  ·exact Zkh r _ p (.tail _ h)
  ·exact Zkh r _ p h
theorem Zky{env:Env}:∀(names:List (Str×Bk)) (acc:List (Str×Addr)) (n:Str),(n,QZ)∈names->∃c,(n,c)∈Zjf env names acc
 | [],_,_,h=>nomatch h
 | (m,k) :: r,acc,n,h=>by
  rcases Xu.mp h with z|z
  ·cases z
   exact⟨_,by
    simp only[Zjf,beq_self_eq_true,if_true]
    exact Zkh _ _ _ (.head _)⟩
  ·unfold Zjf
   split
   ·exact Zky r _ n z
   ·exact Zky r _ n z
theorem Zga{env:Env}(inj:∀x y c,env.cells.lookup x=some c->env.cells.lookup y=some c->x=y):∀(names:List (Str×Bk)) (acc:List (Str×Addr)),
  (∀ y∈names,y.2= .free->∃c,env.cells.lookup y.1=some c)->(names.map (·.1)).Nodup->(∀p∈acc,env.cells.lookup p.1=some p.2)->(∀p∈acc,p.1∉names.map (·.1))->(acc.Pairwise λx y=>x.2≠y.2) ->
  (Zjf env names acc).Pairwise λx y=>x.2≠y.2
 | [],_,_,_,_,_,h=>h
 | (m,k) :: r,acc,hf,hn,ha,hd,hp=>by
  rw[Ql,Q0]at hn
  have hf':∀y∈r,y.2= .free->∃c,env.cells.lookup y.1=some c:=λy hy=>hf y (.tail _ hy)
  have hd':∀p∈acc,p.1∉r.map (·.1):=λp hp z=>hd p hp (by rw[Ql];exact .tail _ z)
  by_cases hk:k= .free
  ·subst hk
   obtain⟨d,hd0⟩:=hf (m,.free) (.head _) rfl
   have hd1:env.cells.lookup m=some d:=hd0
   simp only[Zjf,beq_self_eq_true,if_true,hd1,Option.getD_some]
   refine Zga inj r _ hf' hn.2 (λp hp'=>?_) (λp hp'=>?_) (List.pairwise_cons.mpr ⟨λp hp' z=>?_,hp⟩)
   ·rcases Xu.mp hp' with rfl|hp'
    ·exact hd1
    ·exact ha p hp'
   ·rcases Xu.mp hp' with rfl|hp'
    ·exact hn.1
    ·exact hd' p hp'
   ·have e:m=p.1:=inj m p.1 d hd1 (by rw[ha p hp',←z])
    exact hd p hp' (by rw[Ql,←e];exact .head _)
  ·have hb:(k==QZ)=false:=by simpa using hk
   simp only[Zjf,hb,By,if_false]
   exact Zga inj r _ hf' hn.2 ha hd' hp
structure Zqp(h:Heap)(lo:Nat)(names:List (Str×Bk))(acc cs:List (Str×Addr)):Prop where
 mem:∀n c,(n,c)∈cs->(n,c)∈acc∨(h.IsCell c none∧lo≤c∧(n,JV)∈names)
 has:∀n,(n,JV)∈names->∃c,(n,c)∈cs
 old:∀p∈acc,p∈cs
theorem Zgm:∀(names:List (Str×Bk)) (h:Heap) (lo:Nat) (acc:List (Str×Addr)),lo≤h.objs.size->Zqp (BP h names) lo names acc (JT h.objs.size names acc)
 | [],_,_,_,_=>⟨λ_ _ m=>.inl m,(λ_ m=>nomatch m),λ_ m=>m⟩
 | (name,kind) :: r,h,lo,acc,hlo=>by
  by_cases hk:(kind==JV)=true
  ·have ek:kind= .cell:=by simpa using hk
   subst ek
   have ih:=Zgm r (h.push { cls:=.type "cell",data:=.cell none }) lo ((name,h.objs.size) :: acc) (by rw[JD];omega)
   rw[JD]at ih
   have e1:JT h.objs.size ((name,.cell) :: r) acc=JT (h.objs.size+1) r ((name,h.objs.size) :: acc):=by
    rw[JT,if_pos hk]
   have e2:BP h ((name,.cell) :: r)=BP (h.push { cls:=.type "cell",data:=.cell none }) r:=by
    rw[BP,if_pos hk]
   rw[e1,e2]
   refine⟨λn c m=>?_,λn m=>?_,λp m=>ih.old p (.tail _ m)⟩
   ·rcases ih.mem n c m with z|⟨z1,z2,z3⟩
    ·rcases Xu.mp z with z|z
     ·cases z
      exact .inr ⟨⟨_,UT _ _ _ _ (X3 _ rfl),rfl⟩,hlo,.head _⟩
     ·exact .inl z
    ·exact .inr ⟨z1,z2,.tail _ z3⟩
   ·rcases Xu.mp m with z|z
    ·cases z
     exact⟨_,ih.old _ (.head _)⟩
    ·exact ih.has n z
  ·have ih:=Zgm r h lo acc hlo
   have e1:JT h.objs.size ((name,kind) :: r) acc=JT h.objs.size r acc:=by
    rw[JT,if_neg hk]
   have e2:BP h ((name,kind) :: r)=BP h r:=by
    rw[BP,if_neg hk]
   rw[e1,e2]
   refine⟨λn c m=>(ih.mem n c m).imp id λ⟨z1,z2,z3⟩=>⟨z1,z2,.tail _ z3⟩,λn m=>?_,ih.old⟩
   rcases Xu.mp m with z|z
   ·cases z
    exact absurd rfl hk
   ·exact ih.has n z
theorem Zhy(names:List (Str×Bk)):∀(h:Heap) (acc:List (Str×Addr)),(acc.Pairwise λx y=>x.2≠y.2)->(∀p∈acc,p.2<h.objs.size)->(JT h.objs.size names acc).Pairwise λx y=>x.2≠y.2:=by
 induction names with
 | nil=>intro h acc ha _;exact ha
 | cons y r ih=>
  intro h acc ha hb
  obtain⟨name,kind⟩:=y
  unfold JT
  split
  ·have:=ih (h.push { cls:=.type "cell",data:=.cell none }) ((name,h.objs.size) :: acc) (List.pairwise_cons.mpr ⟨λp hp=>XN (hb p hp),ha⟩) (λp hp=>by
    rw[JD]
    rcases Xu.mp hp with rfl|hp
    ·exact Ve _
    ·exact Nat.lt_succ_of_lt (hb p hp))
   rwa[JD]at this
  ·exact ih h acc ha hb
theorem Zji{M:Model}{A:Qk}{E:Xc->Xd->Prop}{s:Xd}{scope:Uj}{globals:Addr}{cl:List (Str×Addr)}{qual:Str}{env:Env}{Q:Env->Xd->Prop}
  (hQ:Q (newEnv scope s.heap.objs.size globals (JT (s.heap.objs.size+1) scope.names cl) qual none .none (some env) builtinsNs)
   { s with heap:=BP (s.heap.push { cls:=.type "dict",data:=.dict #[] }) scope.names }) :
  XQ M A (newFunctionEnv scope globals cl [] qual none .none (some env)) Q E s:=by
 simp only[newFunctionEnv,Option.isSome_some,if_true]
 refine Xf (wpAny_alloc ?_)
 refine Xf (wpAny_layCells _ (λname kind cells=>by cases hkc:kind==JV<;>simp[hkc]) _ _ _ _ ?_)
 rw[show({ s with heap:=s.heap.push { cls:=.type "dict",data:=.dict #[] } }:Xd).heap.objs.size=s.heap.objs.size+1 from JD ..]
 rw[V1]
 exact Xf (X5 (X5 hQ))
noncomputable def Wq(X:Cx)(N':List Str)(sc:Uj)(C:Addr)(cells:List (Str×Addr))(s₂:Xd)(H₂:Hp)(fp:List Addr):Cx :=
 { X with N:=N',s₀:=s₂,H₀:=H₂,env:=compEnvC sc cells C X.env,outer:=X.stack,stack:=X.stack,ex:=fp,fn:=λx=>sc.names.lookup x==some .cell,pn:=[],xe:=λ_ _=>False }
theorem Zej{env:Env}:∀{names:List (Str×Bk)} {x:Str} {k:Bk},names.lookup x=some k ->
  (names.map λ(n,k)=>if(k==QZ&&env.scope.kind== .function&&env.kindOf n==some .cell)then(n,JV)else(n,k)).lookup x=
   some (if(k==QZ&&env.scope.kind== .function&&env.kindOf x==some .cell)then JV else k)
 | [],_,_,h=>by simp at h
 | (n,k') :: r,x,k,h=>by
  have ih:=@Zej env r x k
  show List.lookup x ((if(k'==QZ&&env.scope.kind== .function&&env.kindOf n==some .cell)=true then(n,JV)else(n,k')) :: _)=_
  cases hx:x==n with
  | true=>
   simp only[Q4,hx]at h
   cases h
   have e:=beq_iff_eq.mp hx
   subst e
   split<;>simp[Q4]
  | false=>
   simp only[Q4,hx]at h
   split
   ·simp only[Q4,hx];exact ih h
   ·simp only[Q4,hx];exact ih h
theorem Zg5{env:Env}:∀{names:List (Str×Bk)} {x:Str},names.lookup x=none ->
  (names.map λ(n,k)=>if(k==QZ&&env.scope.kind== .function&&env.kindOf n==some .cell)then(n,JV)else(n,k)).lookup x=none
 | [],_,_=>rfl
 | (n,k') :: r,x,h=>by
  have ih:=@Zg5 env r x
  show List.lookup x ((if(k'==QZ&&env.scope.kind== .function&&env.kindOf n==some .cell)=true then(n,JV)else(n,k')) :: _)=_
  cases hx:x==n with
  | true=>
   simp only[Q4,hx]at h
   cases h
  | false=>
   simp only[Q4,hx]at h
   split
   ·simp only[Q4,hx];exact ih h
   ·simp only[Q4,hx];exact ih h
theorem Zfb{α:Type}:∀{l:List (Str×α)} {n:Str} {c:α},(l.map (·.1)).Nodup->(n,c)∈l->l.lookup n=some c
 | (k,v) :: r,n,c,hd,h=>by
  rw[Ql,Q0]at hd
  rcases Xu.mp h with e|hr
  ·cases e
   simp[Q4]
  ·have hne:(n==k)=false:=by
    refine Bool.eq_false_iff.mpr λz=>hd.1 ?_
    have e:n=k:=beq_iff_eq.mp z
    rw[←e]
    exact Qi.mpr ⟨(n,c),hr,rfl⟩
   rw[Q4,hne]
   exact Zfb hd.2 hr
theorem Wa{α:Type}:∀{l:List (Str×α)} {n:Str} {c:α},(n,c)∈l->∃d,l.lookup n=some d∧(n,d)∈l
 | (k,v) :: r,n,c,h=>by
  by_cases e:n=k
  ·subst e
   exact⟨v,by simp[Q4],UG⟩
  ·have hne:(n==k)=false:=by simpa using e
   rcases Xu.mp h with z|z
   ·cases z;exact absurd rfl e
   ·obtain⟨d,h1,h2⟩:=Wa z
    exact⟨d,by rw[Q4,hne];exact h1,.tail _ h2⟩
structure CompScope(X:Cx)(own:List Str)(caps:List Nat)(N':List Str)(sc:Uj):Prop where
 kind:sc.kind= .function
 nd:N'.Nodup
 names:N'=own ++ caps.map λi=>X.N.getD i Str.empty
 nn:(sc.names.map (·.1)).Nodup
 free:(sc.names.all λy=>y.2 != .free||(X.env.kindOf y.1==some .cell||X.env.kindOf y.1==some .free))=true
 caps:(caps.all λi=>sc.names.lookup (X.N.getD i Str.empty)==some .free)=true
noncomputable def Zas(own:List Str)(caps:List Nat)(σ:St):St:=own.map (λ_=>none) ++ caps.map λi=>(σ[i]?).getD none
section
variable {X:Cx}{own:List Str}{caps:List Nat}{N':List Str}{sc:Uj}
theorem CompScope.lk(S:CompScope X own caps N' sc){n:Str}{k:Bk}(h:(n,k)∈sc.names):sc.names.lookup n=some k:=Zfb S.nn h
theorem CompScope.fr(S:CompScope X own caps N' sc){n:Str}(h:(n,QZ)∈sc.names):X.env.kindOf n=some .cell∨X.env.kindOf n=some .free:=by
 have:=Vd.mp S.free _ h
 simpa using this
theorem Zqo{pins:List (Addr×Obj)}{σ:St}{H:Hp}{s:Xd}{fp:List Addr}{cl:List (Str×Addr)}(S:CompScope X own caps N' sc)(I:Inv X pins σ H s)
  (f:∀b∈fp,Zlk X pins H b) (fo:∀b∈fp,∃o,s.heap.get? b=some o)
  (hcl:∀n c,(n,c)∈cl->(n,QZ)∈sc.names∧X.env.cells.lookup n=some c) (hcl2:∀n,(n,QZ)∈sc.names->∃c,(n,c)∈cl) (hapart:cl.Pairwise λx y=>x.2≠y.2) :
  Inv (Wq X N' sc (s.heap.objs.size+1) (JT (s.heap.objs.size+2) sc.names cl) s H fp) [] (Zas own caps σ) (upd H s.heap.objs.size (.lst []))
   { s with heap:=BP ((s.heap.push { cls:=.type "list",data:=.seq #[] }).push { cls:=.type "dict",data:=.dict #[] }) sc.names }:=by
 generalize hh1:s.heap.push { cls:=.type "list",data:=.seq #[] }=h1
 have z1:h1.objs.size=s.heap.objs.size+1:=by rw[←hh1,JD]
 generalize hh2:h1.push { cls:=.type "dict",data:=.dict #[] }=h2
 have z2:h2.objs.size=s.heap.objs.size+2:=by rw[←hh2,JD,z1]
 have BC:=Zgm sc.names h2 (s.heap.objs.size+2) cl (by omega)
 have AP:=Zhy sc.names h2 cl hapart (λp hp=>by
  obtain⟨v,hv⟩:=I.cell p.1 p.2 (hcl p.1 p.2 hp).2
  exact Qe hv.lt (by omega))
 rw[z2]at BC AP
 have keep:∀b o,s.heap.get? b=some o->(BP h2 sc.names).get? b=some o:=λb o e=>UT _ _ _ _ (by
  rw[←hh2]
  refine Xj _ ?_
  rw[←hh1]
  exact Xj _ e)
 have hD:(BP h2 sc.names).get? s.heap.objs.size=some { cls:=.type "list",data:=.seq #[] }:=UT _ _ _ _ (by
  rw[←hh2]
  refine Xj _ ?_
  rw[←hh1]
  exact X3 _ rfl)
 have hC:(BP h2 sc.names).Ns (s.heap.objs.size+1) (λ_=>none):=by
  refine Heap.Ns.keeps ?_ (UT _ _)
  have:=Heap.Ns.new h1 (.type "dict")
  rw[hh2,z1]at this
  exact this
 have cellOld:∀n c,X.env.cells.lookup n=some c->c<s.heap.objs.size:=λn c e=>by
  obtain⟨v,hv⟩:=I.cell n c e
  exact hv.lt
 have lk':∀n c,(JT (s.heap.objs.size+2) sc.names cl).lookup n=some c->(n,c)∈JT (s.heap.objs.size+2) sc.names cl:=λn c e=>JN e
 have hnD:H s.heap.objs.size=none:=I.fresh
 have fresh:∀c,s.heap.objs.size<c->upd H s.heap.objs.size (.lst []) c=none:=λc hc=>by
  rw[Z6 (XN hc)]
  exact I.hok.fresh (Nat.le_of_lt hc)
 have isc:∀n c,(n,c)∈JT (s.heap.objs.size+2) sc.names cl->∃v,(BP h2 sc.names).IsCell c v:=λn c m=>by
  rcases BC.mem n c m with z|⟨z,_⟩
  ·obtain⟨v,hv⟩:=I.cell n c (hcl n c z).2
   exact⟨v,hv.keeps keep⟩
  ·exact⟨none,z⟩
 have okH:HOk X.prog X.w (upd H s.heap.objs.size (.lst [])) (BP h2 sc.names):=by
  refine I.hok.laid keep (X6 _) ?_
  exact⟨QV _,[],0,.nil,hD⟩
 have kinds:∀x k,sc.names.lookup x=some k->(relabel sc X.env).names.lookup x=some (if(k==QZ&&X.env.scope.kind== .function&&X.env.kindOf x==some .cell)then JV else k):=λx k e=>Zej e
 have kindsR:∀x k,(relabel sc X.env).names.lookup x=some k->∃k',(x,k')∈sc.names∧k=(if(k'==QZ&&X.env.scope.kind== .function&&X.env.kindOf x==some .cell)then JV else k'):=λx k e=>by
  cases q:sc.names.lookup x with
  | none=>
   have:=Zg5 (env:=X.env) q
   rw[show(relabel sc X.env).names.lookup x=_ from this]at e
   cases e
  | some k'=>
   refine⟨k',JN q,?_⟩
   rw[kinds x k' q]at e
   exact(QC e).symm
 refine⟨⟨I.ok.mod,S.kind,I.ok.glob,I.ok.blt,?_,?_,?_,?_,I.ok.hd,I.ok.frames,.inl rfl,?_,?_,?_,?_,?_,?_,?_⟩,rfl,I.bare,?_,?_,?_,?_,?_,(λp hp=>nomatch hp),okH,?_⟩
 ·show s.heap.objs.size≤s.heap.objs.size+1;omega
 ·intro x y c e1 e2
  exact name_of_addr AP (lk' x c e1) (lk' y c e2)
 ·intro x hx
  rcases hx with hx|hx
  ·obtain⟨k',hm,hk'⟩:=kindsR x _ hx
   cases k' with
   | cell=>
    obtain⟨c,hc⟩:=BC.has x hm
    obtain⟨d,h1,_⟩:=Wa hc
    exact⟨d,h1⟩
   | free=>
    obtain⟨c,hc⟩:=hcl2 _ hm
    obtain⟨d,h1,_⟩:=Wa (BC.old _ hc)
    exact⟨d,h1⟩
   | _=>simp at hk'
  ·obtain⟨k',hm,hk'⟩:=kindsR x _ hx
   cases k' with
   | free=>
    obtain⟨c,hc⟩:=hcl2 _ hm
    obtain⟨d,h1,_⟩:=Wa (BC.old _ hc)
    exact⟨d,h1⟩
   | _=>simp at hk'
 ·intro x c hf e
  have hf':sc.names.lookup x=some .cell:=by simpa [Wq]using hf
  rcases BC.mem x c (lk' x c e)with z|⟨_,z,_⟩
  ·-- a free one and a cell at once: the name stands once
   exfalso
   have q:=S.lk (hcl x c z).1
   rw[hf']at q
   cases q
  ·show s.heap.objs.size≤c;omega
 ·intro b hb
  obtain⟨o,ho⟩:=fo b hb
  have hlt:=XD ho
  refine⟨Xp (Vh hlt (Ve _)),λx c e z=>?_⟩
  rcases BC.mem x c (lk' x c e)with q|⟨_,q,_⟩
  ·exact(f b hb).2.2.2.2.1 x c (hcl x c q).2 z
  ·subst z
   exact absurd hlt (Nat.not_lt.mpr (Qt (Vt _ 2) q))
 ·exact I.bs
 ·exact Qt I.ok.bsz I.sz
 ·intro b o e hb
  rcases(f b hb).2.2.2.1 with z|z
  ·exact I.ok.noex b o e z
  ·exact absurd (Qe (XD e) I.ok.bsz) (Nat.not_lt.mpr z)
 ·intro b hb z
  rcases Xu.mp (I.stkSub b z)with q|q
  ·exact(f b hb).2.1 q
  ·exact(f b hb).2.2.1 q
 ·exact I.stack
 ·exact I.stkFree
 ·exact Un.laid keep (X6 _) hnD
 ·refine⟨_,hC,λi x v e1 e2 e3=>?_⟩
  have e1':(own ++ caps.map λi=>X.N.getD i Str.empty)[i]? =some x:=by rw[←S.names];exact e1
  have e2':(own.map (λ_=>(none:Option V)) ++ caps.map λi=>(σ[i]?).getD none)[i]? =some (some v):=e2
  by_cases hi:i<own.length
  ·rw[BR (by simpa using hi),Xm]at e2'
   cases q:own[i]? with
   | none=>rw[q]at e2';cases e2'
   | some y=>rw[q]at e2';cases e2'
  ·rw[Bx (by simpa using hi),Xm]at e2'
   rw[Bx (by omega),Xm]at e1'
   rw[Xg]at e2'
   cases q:caps[i-own.length]? with
   | none=>rw[q]at e2';cases e2'
   | some j=>
    rw[q]at e1' e2'
    have e1:X.N.getD j Str.empty=x:=QC e1'
    have e2:(σ[j]?).getD none=some v:=QC e2'
    have e4:σ[j]? =some (some v):=by
     cases r:σ[j]? with
     | none=>rw[r]at e2;cases e2
     | some o=>rw[r]at e2;exact congrArg some e2
    have hj:j<X.N.length:=by rw[←I.len];exact(Xk.mp e4).1
    have e5:X.N[j]? =some x:=by rw[←e1];simp[Xh,hj]
    have hc:=Vd.mp S.caps j (XR q)
    have e6:sc.names.lookup x=some .free:=by rw[←e1];simpa using hc
    have hm:=JN e6
    have kx:=S.fr hm
    obtain⟨m,hn,hl⟩:=I.loc
    obtain⟨u,ru,lo⟩:=hl j x v e5 e4 (by rcases kx with z|z;exact .inr (.inl z);exact .inr (.inr z))
    refine⟨u,ru,.inr ⟨?_,?_⟩⟩
    ·have:=kinds x _ e6
     show(relabel sc X.env).names.lookup x=_∨(relabel sc X.env).names.lookup x=_
     rw[this]
     split
     ·exact .inl rfl
     ·exact .inr rfl
    ·rcases lo with⟨z,_⟩|⟨_,c,hc1,hc2⟩
     ·rcases kx with w|w<;>(rw[w]at z;cases z)
     ·obtain⟨d,hd⟩:=hcl2 x hm
      obtain⟨d',h1,h2⟩:=Wa (BC.old _ hd)
      refine⟨d',h1,?_⟩
      rcases BC.mem x d' h2 with w|⟨_,_,w⟩
      ·have w':=(hcl x d' w).2
       rw[hc1]at w'
       cases w'
       exact hc2.keeps keep
      ·have:=S.lk w
       rw[e6]at this
       cases this
 ·intro x c e
  exact isc x c (lk' x c e)
 ·exact fresh _ (Ve _)
 ·intro x c e
  rcases BC.mem x c (lk' x c e)with z|⟨_,z,_⟩
  ·have e':=(hcl x c z).2
   have hlt:=cellOld x c e'
   rw[Z6 (Xp hlt)]
   exact I.freeC x c e'
  ·exact fresh c (by omega)
 ·show(Zas own caps σ).length=N'.length
  rw[S.names]
  unfold Zas
  simp
end
noncomputable def Zx1(J:It)(g:TG)(tt:TT)(te:TE)(σ0:St)(D:Addr)(Q:Hp->Prop)(H1:Hp):Prop :=
 ∃W:Nat->Nat->St->Hp->Prop,(∃m,W 0 m σ0 (upd H1 D (.lst [])))∧∀i m σ' H',W i m σ' H' ->
  (J.stop i H'∧Q H')∨(J.go i H'∧∀x H2,J.yld i H' x H2->g x σ' H2 λσ2 H3=>tt σ2 H3 λb H4=>
   if b=true then te σ2 H4 λy H5=>∃ys,H5 D=some (.lst ys)∧ys.length<Xr∧∃m',m'<m∧W (i+1) m' σ2 (upd H5 D (.lst (ys ++ [y])))
   else∃m',m'<m∧W (i+1) m' σ2 H4)
noncomputable def Z0c(own:List Str)(caps:List Nat)(wi:TI)(g:TG)(tt:TT)(te:TE):TE:=λσ H Q=>wi σ H λJ H1=>∀D,H1 D=none->Zx1 J g tt te (Zas own caps σ) D (Q (.ref D)) H1
noncomputable def Z91:TT:=λ_ H Q=>Q true H
noncomputable def Z1g(X:Cx)(ifs:List Expr)(t:TT):Prop :=
 ∀(pins:List (Addr×Obj)) (s:Xd) (σ:St) (H:Hp) (Q:Bool->Hp->Prop),Inv X pins σ H s->t σ H Q ->
  XQ (X7 X.prog X.w) X.A (forIn ifs true λc r=>if r=true then do let ok←isTrue c X.env (eval c X.env);pure (JL ok)else pure (JL r)) (TP X pins σ Q) X.xe s
theorem Zyi{X:Cx}:Z1g X [] Z91:=λpins s σ H Q I h=>by
 rw[V1]
 exact X5 ⟨H,I,h⟩
theorem Zyy{X:Cx}{c:Expr}{t:TT}(h:PT X c t):Z1g X [c] t:=λpins s σ H Q I q=>wpAny_tests_one (h pins s σ H Q I q)
theorem Zyo{M:Model}{A:Qk}{α:Type}{t:Sem α}{Q Q':α->Xd->Prop}{E:Xc->Xd->Prop}{s:Xd}(h:XQ M A t Q (λ_ _=>False) s)(hQ:∀a s,Q a s->Q' a s):XQ M A t Q' E s :=
 Br h hQ λ_ _ z=>z.elim
section
variable {X:Cx}{own:List Str}{caps:List Nat}{N':List Str}{sc:Uj}{tg elt iter:Expr}{ifs:List Expr}{pos:Pos}{wi:TI}{g:TG}{tt:TT}{te:TE}
theorem Zoq{pins p':List (Addr×Obj)}{σ σ':St}{H H':Hp}{s s':Xd}{fp:List Addr}{C:Addr}{cells:List (Str×Addr)}{h':Heap}(I:Inv X pins σ H s)(f:∀b∈fp,Zlk X pins H b)
  (I':Inv (Wq X N' sc C cells s H fp) p' σ' H' s') (hs:Vs C s'.heap h'):Inv X pins σ H' { s' with heap:=h' }:=by
 have hC:s.heap.objs.size≤C:=I'.ok.above
 have B:=I'.base
 have ne:∀b o,s.heap.get? b=some o->b≠C:=λb o e=>Xp (Qe (XD e) hC)
 obtain⟨m,⟨oC,_,_,hoC,_⟩,_⟩:=I'.loc
 refine I.call' (ch:=fp) (s':={ s' with heap:=h' }) I'.os ⟨λb o e n hb hx=>?_,λb o e n hb hx=>?_,B.free,λb o e hx=>?_,B.tups,B.frzs,B.tbls⟩ (λb ob e=>?_) I'.bare λb hb=>?_
 ·exact(hs.2 b (ne b o e)).trans (B.keep b o e n hb hx)
 ·obtain⟨sl,q⟩:=B.slot b o e n hb hx
  exact⟨sl,(hs.2 b (ne b o e)).trans q⟩
 ·obtain⟨o',q⟩:=B.there b o e hx
  exact⟨o',(hs.2 b (ne b o e)).trans q⟩
 ·have hfree:H' C=none:=I'.free
  refine(I'.hok b ob e).stay (λc w' hc q=>(hs.2 c ?_).trans q) (λ_ q=>q) λ_ _ q=>q
  rintro rfl
  rcases hc with rfl|hc
  ·rw[hfree]at e;cases e
  ·rw[hfree]at hc;cases hc
 ·obtain⟨_,f1,_,f3,f4,f5⟩:=f b hb
  exact⟨f3,f1,f4,f5⟩
theorem Zj9{Qf:Result->Xd->Prop}(S:CompScope X own caps N' sc)(hc:X.calm=true)
  (hg:∀C cells s₂ H₂ fp,PG (Wq X N' sc C cells s₂ H₂ fp) tg g) (ht:∀C cells s₂ H₂ fp,Z1g (Wq X N' sc C cells s₂ H₂ fp) ifs tt) (he:∀C cells s₂ H₂ fp,PE (Wq X N' sc C cells s₂ H₂ fp) elt te)
  {pins:List (Addr×Obj)} {σ:St} {H:Hp} {s:Xd} {fp:List Addr} {it:Addr} {tn:Nat->Heap->Prop} {J:It} {Q:Hp->Prop} (I:Inv X pins σ H s) (T:Turn X.prog X.w X.K tg J fp it tn) (st:tn 0 s.heap) (f:∀b∈fp,Zlk X pins H b)
  (h:Zx1 J g tt te (Zas own caps σ) s.heap.objs.size Q H)
  (fin:∀s' σ' H' p' C cells,Inv (Wq X N' sc C cells s H fp) p' σ' H' s'->C=s.heap.objs.size+1->Q H'->Qf (.ok .next) s') :
  XQ (X7 X.prog X.w) X.A (newFunctionEnv sc X.env.globals (Zjf X.env sc.names []) [] X.env.qual none .none (some X.env)) (λcenv s₄=>
   cenv.locals=s.heap.objs.size+1∧codeAny (X7 X.prog X.w) X.A (.compStart (.ListComp elt [⟨tg,iter,ifs,0⟩] sc pos) 0 (.ref it) (.ref s.heap.objs.size) { cenv with scope:=relabel sc X.env }) Qf s₄) X.xe
    { s with heap:=s.heap.push { cls:=.type "list",data:=.seq #[] } }:=by
 have hf:∀y∈sc.names,y.2= .free->∃c,X.env.cells.lookup y.1=some c:=λy hy e=>by
  obtain⟨n,k⟩:=y
  have e':k= .free:=e
  subst e'
  exact I.ok.has n (S.fr hy)
 have hcl:∀n c,(n,c)∈Zjf X.env sc.names []->(n,QZ)∈sc.names∧X.env.cells.lookup n=some c:=λn c m=>(Zk9 sc.names [] hf n c m).elim (λz=>nomatch z) id
 have hap:=Zga I.ok.inj sc.names [] hf S.nn (λ_ z=>nomatch z) (λ_ z=>nomatch z) .nil
 have I0:=Zqo (cl:=Zjf X.env sc.names []) S I f (λb hb=>let⟨o,e,_⟩:=T.obj _ _ st b hb;⟨o,e⟩) hcl (λn m=>Zky sc.names [] n m) hap
 refine Zji ?_
 rw[show({ s with heap:=s.heap.push { cls:=.type "list",data:=.seq #[] } }:Xd).heap.objs.size=s.heap.objs.size+1 from JD ..]
 refine⟨rfl,?_⟩
 dsimp only
 generalize hs0:({ s with heap:=BP ((s.heap.push { cls:=.type "list",data:=.seq #[] }).push { cls:=.type "dict",data:=.dict #[] }) sc.names }:Xd)=s0 at I0⊢
 have st0:tn 0 s0.heap:=T.keep _ _ _ st λb hb o e=>by
  rw[←hs0]
  exact UT _ _ _ _ (Xj _ (Xj _ e))
 generalize hcells:JT (s.heap.objs.size+1+1) sc.names (Zjf X.env sc.names [])=cells at I0⊢
 -- the loop
 obtain⟨W,⟨m0,w0⟩,turn⟩:=h
 have loop:codeAny (X7 X.prog X.w) X.A (.compLoop (.ListComp elt [⟨tg,iter,ifs,0⟩] sc pos) 0 (.ref it) (.ref s.heap.objs.size) (Wq X N' sc (s.heap.objs.size+1) cells s H fp).env) Qf s0:=by
  generalize hX':Wq X N' sc (s.heap.objs.size+1) cells s H fp=X' at I0⊢
  have hg':=hg (s.heap.objs.size+1) cells s H fp
  have ht':=ht (s.heap.objs.size+1) cells s H fp
  have he':=he (s.heap.objs.size+1) cells s H fp
  have fin':=λs' σ' H' p' (z:Inv (Wq X N' sc (s.heap.objs.size+1) cells s H fp) p' σ' H' s')=>fin s' σ' H' p' _ _ z rfl
  rw[hX']at hg' ht' he' fin'
  have hxe:X'.xe= λ_ _=>False:=by rw[←hX'];rfl
  have hpr:X'.prog=X.prog:=by rw[←hX'];rfl
  have hw:X'.w=X.w:=by rw[←hX'];rfl
  have hK:X'.K=X.K:=by rw[←hX'];rfl
  have hA:X'.A=X.A:=by rw[←hX'];rfl
  have hcm:X'.calm=true:=by rw[←hX'];exact hc
  have hex:X'.ex=fp:=by rw[←hX'];rfl
  have hpn:X'.pn=[]:=by rw[←hX'];rfl
  have stat:∀{H':Hp},(∀b∈fp,H' b=none)->∀b∈fp,Zlk X' [] H' b:=λhn b hb=>by
   have e1:=I0.ok.exf b (by rw[hex];exact hb)
   have e2:=I0.ok.exfs b (by rw[hex];exact hb)
   exact⟨hn b hb,e1.1,e2,.inl (by rw[hex];exact hb),e1.2,λp hp=>by rw[hpn]at hp;exact nomatch hp⟩
  have frD:∀b∈fp,(upd H s.heap.objs.size (.lst [])) b=none:=λb hb=>by
   obtain⟨o,e,_⟩:=T.obj _ _ st b hb
   rw[Z6 (Xp (XD e))]
   exact(f b hb).1
  have T':Turn X'.prog X'.w X'.K tg J fp it tn:=by rw[hpr,hw,hK];exact T
  rw[←hpr,←hw,←hA]
  refine Zml (λn s'=>∃i σ' H',Inv X' [] σ' H' s'∧tn i s'.heap∧(∀b∈fp,H' b=none)∧W i n σ' H') ?_ m0 ⟨0,_,_,I0,st0,frD,w0⟩
  rintro n s3 ⟨i,σ3,H3,I3,st3,fr3,w3⟩
  rcases turn i n σ3 H3 w3 with⟨stop,qn⟩|⟨go,step⟩
  ·refine Zyo (T'.done X' rfl rfl rfl hcm i [] s3 σ3 H3 _ I3 (stat fr3) st3 stop) λr s4 qz9=>?_
   obtain⟨hr,I4⟩:=qz9
   subst hr
   exact fin' s4 σ3 H3 [] I4 qn
  ·refine Zyo (T'.item X' rfl rfl rfl hcm i [] s3 σ3 H3 _ I3 (stat fr3) st3 go) λr s4 qz9=>?_
   obtain⟨u,hr,h4⟩:=qz9
   subst hr
   refine Zyo h4 λ_ s5 qz9=>?_
   obtain⟨x,H5,I5,r5,y5,st5,fr5⟩:=qz9
   have I5':=I5.pinned (stat fr5) (T.obj _ _ st5)
   have hgg:=hg' _ s5 σ3 H5 x u _ I5' r5 (step x H5 y5)
   rw[hxe]at hgg
   refine Zyo hgg λ_ s6 qz9=>?_
   obtain⟨σ6,H6,I6,q6⟩:=qz9
   have htt:=ht' _ s6 σ6 H6 _ I6 q6
   rw[hxe]at htt
   refine Zyo htt λok s7 qz9=>?_
   obtain⟨H7,I7,q7⟩:=qz9
   have again:∀{σ7:St} {H7:Hp} {s7:Xd} {m:Nat},Inv X' ([] ++ Zlr fp s5.heap) σ7 H7 s7->W (i+1) m σ7 H7->m<n->∃m,m<n∧∃i σ' H',Inv X' [] σ' H' s7∧tn i s7.heap∧(∀b∈fp,H' b=none)∧W i m σ' H':=fun{σ7 H7 s7 m} I7 w7 hm=>by
    refine⟨m,hm,i+1,σ7,H7,I7.unpinned,T.keep _ _ _ st5 λb hb o e=>(I7.pin (b,o) (Qq _ (Qq _ (Zd8 hb e)))).1,λb hb=>?_,w7⟩
    obtain⟨o,e,d⟩:=T.obj _ _ st5 b hb
    exact(I7.pin (b,o) (Qq _ (Qq _ (Zd8 hb e)))).2.1
   cases ok with
   | false=>
    obtain⟨m',hm,w7⟩:=q7
    rw[if_neg XF]
    exact again I7 w7 hm
   | true=>
    rw[if_pos rfl]
    have hee:=he' _ s7 σ6 H7 _ I7 q7
    rw[hxe]at hee
    refine Zyo hee λy s8 qz9=>?_
    obtain⟨vy,H8,I8,r8,ys,hD,hlen,m',hm,w8⟩:=qz9
    have hap:=Zmq (X:=X') _ s8 σ6 H8 (.ref s.heap.objs.size) [vy] (.ref s.heap.objs.size) [y] (λ_ H'=>W (i+1) m' σ6 H') I8 rfl (.cons r8 .nil) ⟨_,ys,vy,rfl,rfl,hD,hlen,w8⟩
    rw[hxe]at hap
    refine Zyo hap λz s9 qz9=>?_
    obtain⟨_,H9,I9,_,w9⟩:=qz9
    exact again I9 w9 hm
 exact codeAny_compStart_list loop (T.self _ 0 _ _ _ st0 loop)
theorem Z0n(S:CompScope X own caps N' sc)(hc:X.calm=true)(hi:PI X tg iter wi)
  (hg:∀C cells s₂ H₂ fp,PG (Wq X N' sc C cells s₂ H₂ fp) tg g) (ht:∀C cells s₂ H₂ fp,Z1g (Wq X N' sc C cells s₂ H₂ fp) ifs tt) (he:∀C cells s₂ H₂ fp,PE (Wq X N' sc C cells s₂ H₂ fp) elt te)
  (hs:∀x,Bp iter X.env x=pure x:=by intro _;rfl):PE X (.ListComp elt [⟨tg,iter,ifs,0⟩] sc pos) (Z0c own caps wi g tt te):=by
 intro pins s σ H Q I h
 rw[eval_ListComp]
 have hf:∀y∈sc.names,y.2= .free->∃c,X.env.cells.lookup y.1=some c:=λy hy e=>by
  obtain⟨n,k⟩:=y
  have e':k= .free:=e
  subst e'
  exact I.ok.has n (S.fr hy)
 refine wpAny_comprehension_free (use:=none) rfl hs (Zem hf) S.kind (λy hy e=>by obtain⟨n,k⟩:=y;have e':k= .local:=e;subst e';exact S.lk hy) ?_
 refine thn (hi pins s σ H _ I h) λv s1 h1=>thn h1 λitv s2 h2=>?_
 obtain⟨it,fp,tn,J,H2,e,I2,T,st2,f2,q⟩:=h2
 subst e
 refine wpAny_newObj_type ?_
 refine thn (Zj9 (iter:=iter) (pos:=pos) (Qf:=compPost (X7 X.prog X.w) X.A X.xe none (EP X pins σ Q) (.ref s2.heap.objs.size) (s2.heap.objs.size+1)) S hc hg ht he I2 T st2 f2 (q s2.heap.objs.size I2.fresh) ?_) λcenv s4 ⟨hl,hr⟩=>?_
 ·intro s' σ' H' p' C cells I' eC q'
  subst eC
  obtain⟨m,hn,_⟩:=id I'.loc
  exact⟨m,hn,λh' hs'=>⟨.ref s2.heap.objs.size,H',Zoq I2 f2 I' hs',rfl,q'⟩⟩
 ·rw[←hl]at hr
  exact hr
end
section
variable {X:Cx}{own:List Str}{caps:List Nat}{N':List Str}{sc:Uj}{tg elt iter:Expr}{ifs:List Expr}{pos:Pos}{wi:TI}{g:TG}{tt:TT}{te:TE}
theorem Zpu{i:Nat}{y:Str}{py spos:Pos}(hN:X.N.Nodup)(hy:X.N[i]? =some y)(hx:Loc X.env.scope y)(S:CompScope X own caps N' sc)(hc:X.calm=true)(hi:PI X tg iter wi)
  (hg:∀C cells s₂ H₂ fp,PG (Wq X N' sc C cells s₂ H₂ fp) tg g) (ht:∀C cells s₂ H₂ fp,Z1g (Wq X N' sc C cells s₂ H₂ fp) ifs tt) (he:∀C cells s₂ H₂ fp,PE (Wq X N' sc C cells s₂ H₂ fp) elt te)
  (hsw:Uo (.ListComp elt [⟨tg,iter,ifs,0⟩] sc pos) (some (.Name y py)) spos.line X.env=pure true:=by rfl)
  (hs:∀x,Bp iter X.env x=pure x:=by intro _;rfl) (hf:X.fn y=true∨X.env.scope.names.lookup y=some .local:=by first|exact .inl rfl|exact .inr rfl|assumption) :
  PS X (.Assign [.Name y py] (.ListComp elt [⟨tg,iter,ifs,0⟩] sc pos) spos) (Z5e (Z0c own caps wi g tt te) (Ztq i)):=by
 intro pins s σ H D I h
 have hfr:∀y∈sc.names,y.2= .free->∃c,X.env.cells.lookup y.1=some c:=λy hy e=>by
  obtain⟨n,k⟩:=y
  have e':k= .free:=e
  subst e'
  exact I.ok.has n (S.fr hy)
 rw[exec_Assign_Name_used _ _ _ _ hsw]
 refine Xf (wpAny_standAt (Xf ?_))
 show XQ _ X.A (do let _←comprehension (.ListComp elt [⟨tg,iter,ifs,0⟩] sc pos) sc X.env _ (newList []) false (eval iter X.env) (some (Uq (.Name y py) X.env))) _ _ s
 refine Xf (Br (wpAny_comprehension_free (use:=some (Uq (.Name y py) X.env)) (Q:=λ_ s'=>SP X pins D .next s') rfl hs (Zem hfr) S.kind (λy hy e=>by obtain⟨n,k⟩:=y;have e':k= .local:=e;subst e';exact S.lk hy) ?_) (λ_ s' hq=>X5 (X5 hq)) λ_ _ e=>e)
 refine thn (hi pins s σ H _ I h) λv s1 h1=>thn h1 λitv s2 h2=>?_
 obtain⟨it,fp,tn,J,H2,e,I2,T,st2,f2,q⟩:=h2
 subst e
 refine wpAny_newObj_type ?_
 refine thn (Zj9 (iter:=iter) (pos:=pos) (Qf:=compPost (X7 X.prog X.w) X.A X.xe (some (Uq (.Name y py) X.env)) (λ_ s'=>SP X pins D .next s') (.ref s2.heap.objs.size) (s2.heap.objs.size+1)) S hc hg ht he I2 T st2 f2 (q s2.heap.objs.size I2.fresh) ?_) λcenv s4 ⟨hl,hr⟩=>?_
 ·intro s' σ' H' p' C cells I' eC q'
  subst eC
  obtain⟨m,hn,_⟩:=id I'.loc
  have I3:Inv X pins σ H' s':=Zoq I2 f2 I' (.refl ..)
  show XQ _ X.A (Uq (.Name y py) X.env (.ref s2.heap.objs.size)) _ _ s'
  refine wpAny_assign_Name (Zm2 (v:=.ref s2.heap.objs.size) I3 hN hy hx rfl (λs5 I5 hsb=>?_) hf)
  have hC:s2.heap.objs.size<s2.heap.objs.size+1:=Ve _
  have ltL:X.env.locals<s2.heap.objs.size:=I2.lt
  have ltC:∀x c,X.env.cells.lookup x=some c->c<s2.heap.objs.size:=λx c e=>by
   obtain⟨w',z⟩:=I2.cell x c e
   exact z.lt
  refine⟨m,?_,λh' hs'=>⟨σ.set i (some (.ref s2.heap.objs.size)),H',?_,q'⟩⟩
  ·obtain⟨a,hsa,ha⟩:=hsb
   refine hn.sameBut hsa ?_
   rcases ha with ha|ha
   ·rw[ha];exact XN (Vh ltL hC)
   ·exact XN (Vh (ltC _ _ ha) hC)
  ·refine I5.turned (t':=s5.toks) (it:=s2.heap.objs.size+1) (λb o hb e=>(hs'.2 b hb).trans e) I'.free (XN (Vh ltL hC)) (.inr (Qt I2.sz (Nat.le_of_lt hC))) (λx c e=>Xp (Vh (ltC x c e) hC)) λp hp=>?_
   obtain⟨e,_⟩:=I2.pin p hp
   exact Xp (Vh (XD e) hC)
 ·rw[←hl]at hr
  exact hr
end
section
variable (n:Nat)(D:Addr)(Pv:Nat->List V->St->Hp->Prop)
variable {n D Pv}
end
mutual
inductive Is(H:Hp)(L:Addr->Prop):V->Xa->Prop where
 | non:Is H L .non .none
 | bl (b:Bool):Is H L (.bl b) (.bool b)
 | int (i:Int):Is H L (.int i) (.int i)
 | str (x:Str):Is H L (.str x) (.str x)
 | lst {a:Addr} {xs:List V} {ds:List Xa}:L a->H a=some (.lst xs)->IsAll H L xs ds->Is H L (.ref a) (.list ds)
 | tup {a:Addr} {xs:List V} {ds:List Xa}:H a=some (.tup xs)->IsAll H L xs ds->Is H L (.ref a) (.tuple ds)
inductive IsAll(H:Hp)(L:Addr->Prop):List V->List Xa->Prop where
 | nil:IsAll H L [] []
 | cons {x:V} {xs:List V} {d:Xa} {ds:List Xa}:Is H L x d->IsAll H L xs ds->IsAll H L (x :: xs) (d :: ds)
end
section
variable {H H':Hp}{L L':Addr->Prop}
theorem IsAll.ind{Q:List V->List Xa->Prop}(n:Q [] [])(c:∀{x:V} {xs:List V} {d:Xa} {ds:List Xa},Is H L x d->IsAll H L xs ds->Q xs ds->Q (x :: xs) (d :: ds)):∀{xs ds},IsAll H L xs ds->Q xs ds:=λh=>
 IsAll.rec (motive_1:=λ_ _ _=>True) (motive_2:=λxs ds _=>Q xs ds) trivial (λ_=>trivial) (λ_=>trivial) (λ_=>trivial) (λ_ _ _ _=>trivial) (λ_ _ _=>trivial) n (λp q _ r=>c p q r) h
theorem IsAll.length{xs:List V}{ds:List Xa}(h:IsAll H L xs ds):xs.length=ds.length:=IsAll.ind (Q:=λxs ds=>xs.length=ds.length) rfl (λ_ _ r=>congrArg (·+1) r) h
theorem IsAll.append{xs ys:List V}{ds es:List Xa}(h:IsAll H L xs ds)(k:IsAll H L ys es):IsAll H L (xs ++ ys) (ds ++ es):=IsAll.ind (Q:=λxs ds=>IsAll H L (xs ++ ys) (ds ++ es)) k (λh _ r=>.cons h r) h
theorem IsAll.snoc{xs:List V}{ds:List Xa}{x:V}{d:Xa}(h:IsAll H L xs ds)(k:Is H L x d):IsAll H L (xs ++ [x]) (ds ++ [d]):=h.append (.cons k .nil)
theorem IsAll.set{xs:List V}{ds:List Xa}{x:V}{d:Xa}(i:Nat)(h:IsAll H L xs ds)(k:Is H L x d):IsAll H L (xs.set i x) (ds.set i d) :=
 IsAll.ind (Q:=λxs ds=>∀i,IsAll H L (xs.set i x) (ds.set i d)) (λ_=>.nil) (λh q r i=>Nat.casesOn i (.cons k q) λi=>.cons h (r i)) h i
end
section
variable {X:Cx}{pins:List (Addr×Obj)}{σ:St}{H:Hp}{s:Xd}{L L':Addr->Prop}
end
noncomputable abbrev Shp(d:Xa):Prop:=Bc d=true
section
variable {X:Cx}
end
mutual
noncomputable def Yq:Xa->Bool
 | .none=>true
 | .int _=>true
 | .str _=>true
 | .list ds=>Zbw ds
 | .tuple ds=>Zbw ds
 | _=>false
noncomputable def Zbw:List Xa->Bool
 | []=>true
 | d :: ds=>Yq d&&Zbw ds
end
mutual
theorem Zkk:∀(d e:Xa),Yq d=true->Yq e=true->(Qz d e=true↔d=e)
 | .none,e,_,he=>by cases e<;>simp_all [Qz,Yq]
 | .int i,e,_,he=>by cases e<;>simp_all [Qz,Yq]
 | .str i,e,_,he=>by cases e<;>simp_all [Qz,Yq]
 | .list ds,e,hd,he=>by
  cases e with
  | list es=>
   rw[Yq]at hd he
   rw[Qz,QT.injEq]
   exact Zge ds es hd he
  | _=>simp_all [Qz,Yq]
 | .tuple ds,e,hd,he=>by
  cases e with
  | tuple es=>
   rw[Yq]at hd he
   rw[Qz,Xa.tuple.injEq]
   exact Zge ds es hd he
  | _=>simp_all [Qz,Yq]
 | .bool b,e,hd,_=>by simp[Yq]at hd
 | .dict b,e,hd,_=>by simp[Yq]at hd
theorem Zge:∀(ds es:List Xa),Zbw ds=true->Zbw es=true->(U3 ds es=true↔ds=es)
 | [],[],_,_=>by simp[U3]
 | [],_ :: _,_,_=>by simp[U3]
 | _ :: _,[],_,_=>by simp[U3]
 | d :: ds,e :: es,hd,he=>by
  rw[Zbw,Xo]at hd he
  rw[U3,Xo,Zkk d e hd.1 he.1,Zge ds es hd.2 he.2,List.cons.injEq]
end
theorem Zrm{d e:Xa}(h:Yq d=true)(k:Yq e=true)(q:d=e):Qz d e=true:=(Zkk d e h k).mpr q
theorem Zxc{d e:Xa}(h:Yq d=true)(k:Yq e=true)(q:d≠e):Qz d e=false:=Bool.eq_false_iff.mpr λz=>q ((Zkk d e h k).mp z)
noncomputable def fr(a b:Int):Xa:=.tuple [.int a,.int b]
theorem Zfe(a b:Int):Yq (fr a b)=true:=rfl
theorem Z57{a b c d:Int}:fr a b=fr c d↔a=c∧b=d:=by
 unfold fr
 simp
theorem Zfv{t b:Int}(hb:b≠0):0<(JH t b:Int):=by
 have:=Int.gcd_pos_of_ne_zero_right t hb
 omega
theorem Zab{t g:Int}(hg:0<g):t.fdiv g=t/g:=Int.fdiv_eq_ediv_of_nonneg t (by omega)
theorem Zdo{t g:Int}(hg:0<g)(h:g∣t):t.fdiv (-g)= -(t/g):=by
 obtain⟨k,rfl⟩:=h
 rw[Int.mul_ediv_cancel_left _ (by omega)]
 have e:g*k=(-k)*(-g):=by rw[Int.neg_mul_neg,Int.mul_comm]
 rw[e,Int.mul_fdiv_cancel _ (by omega)]
noncomputable def shr(t b:Int):Int:=if b<0 then -(JH t b:Int)else(JH t b:Int)
theorem Z1e{t b:Int}(hb:b≠0):t.fdiv (shr t b)=(Qn t b).num:=by
 have hg:=Zfv (t:=t) hb
 have hd:(JH t b:Int)∣t:=Int.gcd_dvd_left ..
 rw[Rat.num_divInt,Int.gcd_comm b t]
 unfold shr
 by_cases h:b<0
 ·rw[if_pos h,Zdo hg hd,Int.sign_eq_neg_one_of_neg h,Int.neg_one_mul,Int.neg_ediv_of_dvd hd]
 ·rw[if_neg h,Zab hg,Int.sign_eq_one_of_pos (by omega),Int.one_mul]
theorem Zz4{t b:Int}(hb:b≠0):b.fdiv (shr t b)=((Qn t b).den:Int):=by
 have hg:=Zfv (t:=t) hb
 have hd:(JH t b:Int)∣b:=Int.gcd_dvd_right ..
 rw[Rat.den_divInt,if_neg hb,Int.gcd_comm b t]
 unfold shr
 by_cases h:b<0
 ·have e:(b.natAbs:Int)= -b:=by omega
  rw[if_pos h,Zdo hg hd,Int.natCast_ediv,e,Int.neg_ediv_of_dvd hd]
 ·have e:(b.natAbs:Int)=b:=by omega
  rw[if_neg h,Zab hg,Int.natCast_ediv,e]
theorem Zxh{t b:Int}(hb:b≠0):shr t b≠0:=by
 have hg:=Zfv (t:=t) hb
 unfold shr
 split<;>omega
theorem Zw5{n:Nat}{t b:Int}(hb:b≠0)(h:Bt n b):Bt n (shr t b):=by
 have h1:Bt n (JH t b:Int):=by
  refine Bt.of_le h ?_
  have:=Int.gcd_le_natAbs_right t hb
  omega
 unfold shr
 split
 ·exact h1.neg
 ·exact h1
theorem Zw4{n:Nat}{t b:Int}(hb:b≠0)(h:Bt n t):Bt n (Qn t b).num:=by
 rw[Rat.num_divInt]
 refine Bt.of_le h ?_
 refine Qt (Vv _ _) ?_
 rw[Int.natAbs_mul]
 have:b.sign.natAbs≤1:=by
  rw[Int.natAbs_sign]
  split<;>omega
 calc b.sign.natAbs*t.natAbs≤1*t.natAbs:=Nat.mul_le_mul_right _ this
  _=t.natAbs:=Nat.one_mul _
theorem Zxq{n:Nat}{t b:Int}(hb:b≠0)(h:Bt n b):Bt n ((Qn t b).den:Int):=by
 rw[Rat.den_divInt,if_neg hb]
 refine Bt.of_le h ?_
 show((b.natAbs/b.gcd t:Nat):Int).natAbs≤_
 rw[VL]
 exact Nat.div_le_self _ _
theorem Ztp(q:Rat):(q.den:Int)≠0:=by
 have:=q.den_pos
 omega
theorem W5(q:Rat):(0:Int)<(q.den:Int):=by
 have:=q.den_pos
 omega
theorem Zwf(q r:Rat):Qn (q.num*(r.den:Int)+r.num*(q.den:Int)) ((q.den:Int)*(r.den:Int))=q+r:=by
 rw[Rat.add_def',←Int.natCast_mul,Rat.divInt_ofNat]
noncomputable def frD(q:Rat):Xa:=fr q.num (q.den:Int)
theorem Zrt{q r:Rat}:frD q=frD r↔q=r:=by
 unfold frD
 rw[Z57]
 constructor
 ·rintro⟨h1,h2⟩
  exact Rat.ext h1 (by omega)
 ·rintro rfl
  exact⟨rfl,rfl⟩
theorem Z56(q r:Rat):Qz (frD q) (frD r)=decide (q=r):=by
 by_cases h:q=r
 ·rw[decide_eq_true h]
  exact Zrm (Zfe _ _) (Zfe _ _) (Zrt.mpr h)
 ·rw[decide_eq_false h]
  exact Zxc (Zfe _ _) (Zfe _ _) λz=>h (Zrt.mp z)
noncomputable def BQ(n:Nat)(q:Rat):Prop:=Bt n q.num∧Bt n (q.den:Int)
theorem BQ.mono{m n:Nat}{q:Rat}(h:BQ m q)(k:m≤n):BQ n q:=⟨h.1.mono k,h.2.mono k⟩
theorem BQ.zero:BQ 1 0:=⟨by unfold Bt;decide,by unfold Bt;decide⟩
section
variable {X:Cx}{K:Xb}{a b o e:Expr}{ta tb tl to:TE}{pos:Pos}
theorem Zwa(hK:X.K=K):IxR X (Yam K):=hK▸Zs2
theorem Zzl(hK:X.K=K):IxR X (rIx K):=hK▸Z36
theorem Zvx(hK:X.K=K):SlR X (Yc8 K):=hK▸Z0j
noncomputable def Ydc(K:Xb):List V->Hp->VK->Prop:=λxs H Q=>∃p ys,xs=[.ref p]∧(SqL K H p ys∨SqT K H p ys)∧Q (.int ys.length) H
theorem Zrv(hK:X.K=K):Zcd X (.builtin "len") (Ydc K):=by subst hK;exact Zms
noncomputable def Zr7(K:Xb):List V->Hp->VK->Prop:=λxs H Q=>∃p ys,xs=[.ref p]∧(SqL K H p ys∨SqT K H p ys)∧∀l,H l=none->Q (.ref l) (upd H l (.lst ys))
theorem Zec(hK:X.K=K):Zcd X (.type "list") (Zr7 K):=by subst hK;exact Zls
noncomputable def Yet(K:Xb)(ta:TE):TT:=λσ H Q=>ta σ H λx H'=>∃k,Z75 K x H' k∧Q k H'
theorem Zzp(hK:X.K=K)(ha:PE X a ta)(he:∀whole,isTrue a X.env whole=(do let v←whole;standAt a.pos;holding [v] (truthy v))):PT X a (Yet K ta):=by subst hK;exact Zvb ha he
theorem Zv5{tg l:Expr}(hK:X.K=K)(hl:PE X l tl):PI X tg l (Z6e K tl):=by subst hK;exact Z1j hl
theorem Z03{tg l:Expr}(hK:X.K=K)(hl:PE X l tl):PI X tg l (Yb2 K tl):=by subst hK;exact Z2v hl
theorem Z2t(hK:X.K=K):OpR X (JS .In) (rIn K false):=by subst hK;exact Zsn
theorem Zl3(hK:X.K=K):OpR X (JS .NotIn) (rIn K true):=by subst hK;exact Zmy
end
theorem Yl{H:Hp}{p:Addr}(h:H p=none)(o:HO):Same H (upd H p o):=λb u q=>by rw[Z6 (Wd q h)];exact q
noncomputable def But(p:Addr)(H H':Hp):Prop:=∀b o,b≠p->H b=some o->H' b=some o
theorem But.trans{p:Addr}{H H1 H2:Hp}(a:But p H H1)(b:But p H1 H2):But p H H2:=λc o n e=>b c o n (a c o n e)
theorem But.upd(p:Addr)(H:Hp)(o:HO):But p H (upd H p o):=λb u n e=>by rw[Z6 n];exact e
noncomputable def Pl(H:Hp)(p:Addr)(n:Nat):Prop:=∃a b c:Int,H p=some (.lst [.int a,.int b,.int c])∧0≤c∧c≤n
theorem Pl.mono{H:Hp}{p:Addr}{m n:Nat}(h:Pl H p m)(k:m≤n):Pl H p n:=by
 obtain⟨a,b,c,e,h1,h2⟩:=h
 exact⟨a,b,c,e,h1,by omega⟩
theorem Pl.at{H:Hp}{p:Addr}{n:Nat}(h:Pl H p n):∃xs,H p=some (.lst xs):=by
 obtain⟨a,b,c,e,h1,h2⟩:=h
 exact⟨_,e⟩
namespace B
theorem boot_abs:Qm "abs"=some (.builtin "abs"):=by decide +kernel
theorem boot_len:Qm "len"=some (.builtin "len"):=by decide +kernel
theorem boot_max:Qm "max"=some (.builtin "max"):=by decide +kernel
theorem boot_min:Qm "min"=some (.builtin "min"):=by decide +kernel
theorem boot_isinstance:Qm "isinstance"=some (.builtin "isinstance"):=by decide +kernel
theorem boot_sum:Qm "sum"=some (.builtin "sum"):=by decide +kernel
theorem boot_sorted:Qm "sorted"=some (.builtin "sorted"):=by decide +kernel
theorem boot_int:Qm "int"=some (.type "int"):=by decide +kernel
theorem boot_bool:Qm "bool"=some (.type "bool"):=by decide +kernel
theorem boot_list:Qm "list"=some (.type "list"):=by decide +kernel
theorem boot_tuple:Qm "tuple"=some (.type "tuple"):=by decide +kernel
theorem boot_range:Qm "range"=some (.type "range"):=by decide +kernel
theorem boot_zip:Qm "zip"=some (.type "zip"):=by decide +kernel
end B
theorem Zhl{a b:Int}(hb:0<b):a.fmod b=a%b:=Int.fmod_eq_emod_of_nonneg a (by omega)
theorem Zul{x y:Int}(hx:0≤x)(hy:0<y):JH y (x.fmod y)=JH x y:=by
 rw[Zhl hy,Int.gcd_comm x y]
 have e:=Int.emod_add_mul_ediv x y
 conv=>rhs;rw[←e]
 rw[Int.gcd_add_mul_left_right]
theorem Z2j:(2:Nat)≤Xr:=by decide
theorem Zu8(q:Rat):Qn q.num (q.den:Int)=q:=VH q
theorem BQ.n{n:Nat}{q:Rat}(h:BQ n q):Bt n q.num:=h.1
theorem BQ.d{n:Nat}{q:Rat}(h:BQ n q):Bt n (q.den:Int):=h.2
theorem Ydv(q:Rat):(((q.den:Int)):Rat)≠0:=by
 intro z
 exact Ztp q (Rat.intCast_eq_zero_iff.mp z)
theorem Yd6(q:Rat):((q.num:Int):Rat)=q*(((q.den:Int)):Rat):=by
 have h:=Zu8 q
 rw[Vl]at h
 have d:=Ydv q
 conv=>rhs;lhs;rw[←h]
 grind
variable {G:Xb}
noncomputable def KS(G:Xb)(a:Addr)(ns:List Int):Prop:=∃(o:Obj) (its:Array Xc) (n:Nat),G.lookup a=some o∧o.cls= .type "list"∧o.dict=none∧o.data= .seq its n∧its.size≤Xr∧Vals (ns.map V.int) its.toList
theorem KS.sq{G:Xb}{H:Hp}{a:Addr}{ns:List Int}(h:KS G a ns):SqL G H a (ns.map V.int):=.inr h
noncomputable def exD(x:Str):Xa:=.dict [(.str x,.none)]
noncomputable def fnD(x:Str):Xa:=.dict [(.str x,.bool true)]
noncomputable def Zjn:Xa->Bool| .dict ((_,.bool _) :: _)=>true|_=>false
noncomputable def ClsAt(G:Xb)(x:Str)(C:Addr):Prop:=Q6 G Qh x=some (some (.ref C))
structure Zik(G:Xb)(C:Addr):Prop where
 ga:Va G (.ref C) "__getattribute__"=some (some (.builtin "BaseException.__getattribute__"))
 gt:Va G (.ref C) "__getattr__"=some none
 cl:Va G (.ref C) "__class__"=some (some (.builtin "object.__class__"))
 isB:PySem.W.subIn G (.ref C) (.type "BaseException")=some true
 isO:PySem.W.subIn G (.ref C) (.type "object")=some true
 isC:(PySem.W.clsIn G C).isSome=true
 k1:BX G (.ref C) (.type "int")=some false
 k2:BX G (.ref C) (.type "bool")=some false
 k3:BX G (.ref C) (.type "str")=some false
 k4:BX G (.ref C) (.type "list")=some false
 k5:BX G (.ref C) (.type "tuple")=some false
noncomputable def ExO(C a:Addr)(h:Heap):Prop:=∃o vs,h.get? a=some o∧o.cls= .ref C∧o.data= .fields vs
inductive ImO where
 | tup (xs:List V)
 | ext (φ:Heap->Prop)
noncomputable def ImO.ho:ImO->HO
 | .tup xs=>.tup xs
 | .ext φ=>.ext φ
inductive MuO where
 | lst (xs:List V)
 | dK (kvs:List (Key×V))
 | dT (kvs:List (List Key×V))
noncomputable def MuO.ho:MuO->HO
 | .lst xs=>.lst xs
 | .dK kvs=>.dK kvs
 | .dT kvs=>.dT kvs
noncomputable def Ybk:Key->Xa
 | .inl i=>.int i
 | .inr x=>.str x
noncomputable def Ydz(ks:List Key):Xa:=.tuple (ks.map Ybk)
noncomputable abbrev KY:=Sum Key (List Key)
noncomputable def kyD:KY->Xa
 | .inl k=>Ybk k
 | .inr ks=>Ydz ks
noncomputable def MuO.dic(t:Bool)(ks:List KY)(xs:List V):MuO->Prop
 | .lst _=>False
 | .dK kvs=>t=false∧ks=kvs.map (λp=>.inl p.1)∧xs=kvs.map (·.2)
 | .dT kvs=>t=true∧ks=kvs.map (λp=>.inr p.1)∧xs=kvs.map (·.2)
noncomputable def dcD(t:Bool)(ks:List KY)(ds:List Xa):Xa:=.dict ((.none,.bool t) :: (ks.map kyD).zip ds)
theorem ImO.nm{H:Hp}{a:Addr}{x:ImO}{y:MuO}(h:H a=some x.ho)(h':H a=some y.ho):False:=by
 rw[h]at h'
 cases x<;>cases y<;>cases h'
theorem ImO.nl{H:Hp}{a:Addr}{x:ImO}{ys:List V}(h:H a=some x.ho)(h':H a=some (.lst ys)):False:=by
 rw[h]at h'
 cases x<;>cases h'
mutual
inductive Da(G:Xb)(H:Hp)(L:Addr->Prop):V->Xa->Prop where
 | non:Da G H L .non .none
 | bl (b:Bool):Da G H L (.bl b) (.bool b)
 | int (i:Int):Da G H L (.int i) (.int i)
 | str (x:Str):Da G H L (.str x) (.str x)
 | lst {a:Addr} {xs:List V} {ds:List Xa}:L a->Rd H a (.lst xs)->Das G H L xs ds->Da G H L (.ref a) (.list ds)
 | tup {a:Addr} {xs:List V} {ds:List Xa}:H a=some (.tup xs)->Das G H L xs ds->Da G H L (.ref a) (.tuple ds)
 | scr {a:Addr} {ns:List Int}:KS G a ns->Da G H L (.ref a) (.list (ns.map Xl))
 | exc {a C:Addr} {x:Str}:Zik G C->ClsAt G x C->H a=some (.ext (ExO C a))->Da G H L (.ref a) (exD x)
 | fn {a:Addr} {x:Str}:ClsAt G x a->Da G H L (.ref a) (fnD x)
 | dic {a:Addr} {o:MuO} {t:Bool} {ks:List KY} {xs:List V} {ds:List Xa}:L a->Rd H a o.ho->o.dic t ks xs->Das G H L xs ds->Da G H L (.ref a) (dcD t ks ds)
inductive Das(G:Xb)(H:Hp)(L:Addr->Prop):List V->List Xa->Prop where
 | nil:Das G H L [] []
 | cons {x:V} {xs:List V} {d:Xa} {ds:List Xa}:Da G H L x d->Das G H L xs ds->Das G H L (x :: xs) (d :: ds)
end
section
variable {H H':Hp}{L L':Addr->Prop}
theorem Da.both{P:V->Xa->Prop}{Q:List V->List Xa->Prop}(c1:P .non .none)(c2:∀b,P (.bl b) (.bool b))(c3:∀i,P (.int i) (.int i))(c4:∀x,P (.str x) (.str x))
  (c5:∀{a:Addr} {xs:List V} {ds:List Xa},L a->Rd H a (.lst xs)->Q xs ds->P (.ref a) (.list ds)) (c6:∀{a:Addr} {xs:List V} {ds:List Xa},H a=some (.tup xs)->Q xs ds->P (.ref a) (.tuple ds))
  (c7:∀{a:Addr} {ns:List Int},KS G a ns->P (.ref a) (.list (ns.map Xl))) (c8:∀{a C:Addr} {x:Str},Zik G C->ClsAt G x C->H a=some (.ext (ExO C a))->P (.ref a) (exD x)) (c9:∀{a:Addr} {x:Str},ClsAt G x a->P (.ref a) (fnD x))
  (c10:∀{a:Addr} {o:MuO} {t:Bool} {ks:List KY} {xs:List V} {ds:List Xa},L a->Rd H a o.ho->o.dic t ks xs->Q xs ds->P (.ref a) (dcD t ks ds)) (n:Q [] []) (c:∀{x:V} {xs:List V} {d:Xa} {ds:List Xa},P x d->Q xs ds->Q (x :: xs) (d :: ds)):(∀{v d},Da G H L v d->P v d)∧∀{xs ds},Das G H L xs ds->Q xs ds :=
 ⟨λh=>Da.rec (motive_1:=λv d _=>P v d) (motive_2:=λxs ds _=>Q xs ds) c1 c2 c3 c4 (λp e _ r=>c5 p e r) (λe _ r=>c6 e r) (λk=>c7 k) (λk l m=>c8 k l m) (λk=>c9 k) (λp e k _ r=>c10 p e k r) n (λ_ _ p q=>c p q) h,
   λh=>Das.rec (motive_1:=λv d _=>P v d) (motive_2:=λxs ds _=>Q xs ds) c1 c2 c3 c4 (λp e _ r=>c5 p e r) (λe _ r=>c6 e r) (λk=>c7 k) (λk l m=>c8 k l m) (λk=>c9 k) (λp e k _ r=>c10 p e k r) n (λ_ _ p q=>c p q) h⟩
theorem Das.ind{Q:List V->List Xa->Prop}(n:Q [] [])(c:∀{x:V} {xs:List V} {d:Xa} {ds:List Xa},Da G H L x d->Das G H L xs ds->Q xs ds->Q (x :: xs) (d :: ds)):∀{xs ds},Das G H L xs ds->Q xs ds:=λh=>
 Das.rec (motive_1:=λ_ _ _=>True) (motive_2:=λxs ds _=>Q xs ds) trivial (λ_=>trivial) (λ_=>trivial) (λ_=>trivial) (λ_ _ _ _=>trivial) (λ_ _ _=>trivial) (λ_=>trivial) (λ_ _ _=>trivial) (λ_=>trivial) (λ_ _ _ _ _=>trivial) n (λp q _ r=>c p q r) h
theorem Da.frame2(hl:∀a (xs:MuO),L a->Rd H a xs.ho->L' a∧Rd H' a xs.ho)(ht:∀a (xs:ImO),H a=some xs.ho->H' a=some xs.ho):(∀{v:V} {d:Xa},Da G H L v d->Da G H' L' v d)∧∀{xs:List V} {ds:List Xa},Das G H L xs ds->Das G H' L' xs ds :=
 Da.both .non .bl .int .str (fun{_ xs _} p e r=>.lst (hl _ (.lst xs) p e).1 (hl _ (.lst xs) p e).2 r) (fun{_ xs _} e r=>.tup (ht _ (.tup xs) e) r) .scr (λc n e=>.exc c n (ht _ (.ext _) e)) .fn (λp e k r=>.dic (hl _ _ p e).1 (hl _ _ p e).2 k r) .nil .cons
theorem Da.frame(hl:∀a (xs:MuO),L a->Rd H a xs.ho->L' a∧Rd H' a xs.ho)(ht:∀a (xs:ImO),H a=some xs.ho->H' a=some xs.ho){v:V}{d:Xa}(h:Da G H L v d):Da G H' L' v d:=(Da.frame2 hl ht).1 h
theorem Das.frame(hl:∀a (xs:MuO),L a->Rd H a xs.ho->L' a∧Rd H' a xs.ho)(ht:∀a (xs:ImO),H a=some xs.ho->H' a=some xs.ho){xs:List V}{ds:List Xa}(h:Das G H L xs ds):Das G H' L' xs ds:=(Da.frame2 hl ht).2 h
theorem Rd.same{a:Addr}{u:HO}(s:Same H H')(h:Rd H a u):Rd H' a u:=h.imp (s _ _) λ⟨o,h⟩=>⟨o,s _ _ h⟩
theorem Rd.some{a:Addr}{u:HO}(h:Rd H a u):H a≠Option.none:=by
 rcases h with h|⟨o,h⟩<;>rw[h]<;>intro z<;>cases z
theorem Da.same(h:Same H H'){v:V}{d:Xa}(x:Da G H L v d):Da G H' L v d:=x.frame (λa xs p e=>⟨p,e.same h⟩) λa xs e=>h _ _ e
theorem Das.same(h:Same H H'){v:List V}{d:List Xa}(x:Das G H L v d):Das G H' L v d:=x.frame (λa xs p e=>⟨p,e.same h⟩) λa xs e=>h _ _ e
theorem Da.wide(h:∀a,L a->H a≠none->L' a){v:V}{d:Xa}(x:Da G H L v d):Da G H L' v d:=x.frame (λa xs p e=>⟨h a p e.some,e⟩) λa xs e=>e
theorem Das.wide(h:∀a,L a->H a≠none->L' a){v:List V}{d:List Xa}(x:Das G H L v d):Das G H L' v d:=x.frame (λa xs p e=>⟨h a p e.some,e⟩) λa xs e=>e
theorem Das.length{xs:List V}{ds:List Xa}(h:Das G H L xs ds):xs.length=ds.length:=Das.ind (Q:=λxs ds=>xs.length=ds.length) rfl (λ_ _ r=>congrArg (·+1) r) h
theorem Das.append{xs ys:List V}{ds es:List Xa}(h:Das G H L xs ds)(k:Das G H L ys es):Das G H L (xs ++ ys) (ds ++ es):=Das.ind (Q:=λxs ds=>Das G H L (xs ++ ys) (ds ++ es)) k (λh _ r=>.cons h r) h
theorem Das.snoc{xs:List V}{ds:List Xa}{x:V}{d:Xa}(h:Das G H L xs ds)(k:Da G H L x d):Das G H L (xs ++ [x]) (ds ++ [d]):=h.append (.cons k .nil)
theorem Das.get{xs:List V}{ds:List Xa}{i:Nat}{d:Xa}(h:Das G H L xs ds):ds[i]? =some d->∃x,xs[i]? =some x∧Da G H L x d :=
 Das.ind (Q:=λxs ds=>∀i,ds[i]? =some d->∃x,xs[i]? =some x∧Da G H L x d) (λ_ e=>(Option.some_ne_none _ (e.symm.trans U7)).elim) (fun{x _ _ _} h _ r i=>Nat.casesOn i (λe=>⟨x,rfl,QC e▸h⟩) λi e=>r i e) h i
theorem Das.get'{xs:List V}{ds:List Xa}{i:Nat}{x:V}(h:Das G H L xs ds):xs[i]? =some x->∃d,ds[i]? =some d∧Da G H L x d :=
 Das.ind (Q:=λxs ds=>∀i,xs[i]? =some x->∃d,ds[i]? =some d∧Da G H L x d) (λ_ e=>(Option.some_ne_none _ (e.symm.trans U7)).elim) (fun{_ _ d _} h _ r i=>Nat.casesOn i (λe=>⟨d,rfl,QC e▸h⟩) λi e=>r i e) h i
theorem Das.take{xs:List V}{ds:List Xa}(n:Nat)(h:Das G H L xs ds):Das G H L (xs.take n) (ds.take n) :=
 Das.ind (Q:=λxs ds=>∀n,Das G H L (xs.take n) (ds.take n)) (λn=>by rw[Ub,Ub];exact .nil) (λh _ r n=>Nat.casesOn n .nil λn=>.cons h (r n)) h n
theorem Das.drop{xs:List V}{ds:List Xa}(n:Nat)(h:Das G H L xs ds):Das G H L (xs.drop n) (ds.drop n) :=
 Das.ind (Q:=λxs ds=>∀n,Das G H L (xs.drop n) (ds.drop n)) (λn=>by rw[Uc,Uc];exact .nil) (λh q r n=>Nat.casesOn n (.cons h q) λn=>r n) h n
theorem Das.ints(ns:List Int):Das G H L (ns.map V.int) (ns.map Xl):=by
 induction ns with
 | nil=>exact .nil
 | cons n ns ih=>exact .cons (.int n) ih
theorem Das.int_inv{xs:List V}{ns:List Int}(h:Das G H L xs (ns.map Xl)):xs=ns.map V.int:=by
 induction ns generalizing xs with
 | nil=>cases h;rfl
 | cons n ns ih=>
  rw[Ql]at h
  cases h with
  | cons h r=>cases h;rw[ih r];rfl
end
theorem Zp1{h:Heap}(ns:List Int){us:List Xc}(v:Vals (ns.map V.int) us):∃as,ReadsAll h us (ns.map Xl) as:=by
 induction ns generalizing us with
 | nil=>cases v;exact⟨_,.nil⟩
 | cons n ns ih=>
  rw[Ql]at v
  cases v with
  | cons r rs=>
   obtain⟨t,e⟩:=(show∃t,_=Value.int n t from r)
   subst e
   obtain⟨bs,k'⟩:=ih rs
   exact⟨_,.cons (.int n t) k'⟩
section
variable {X:Cx}{pins:List (Addr×Obj)}{σ:St}{H:Hp}{s:Xd}{L L':Addr->Prop}
theorem Da.reads2(hG:X.K=G)(I:Inv X pins σ H s):(∀{v:V} {d:Xa},Da G H L v d->∀u,RelV v u->d.canLay0=true->∃as,Reads s.heap u d as)∧∀{xs:List V} {ds:List Xa},Das G H L xs ds->∀us,Vals xs us->JK ds=true->∃as,ReadsAll s.heap us ds as:=by
 refine Da.both ?_ ?_ ?_ ?_ ?_ ?_ ?_ ?_ ?_ ?_ ?_ ?_
 ·intro u r _
  cases(show _=QK from r)
  exact⟨_,.none⟩
 ·intro b u r _
  cases(show _=Uv b from r)
  exact⟨_,.bool b⟩
 ·intro i u r _
  obtain⟨t,e⟩:=(show∃t,_=Value.int i t from r)
  subst e
  exact⟨_,.int i t⟩
 ·intro x u r _
  obtain⟨t,e⟩:=(show∃t,_=Value.str x t from r)
  subst e
  exact⟨_,.str x t⟩
 ·intro a xs ds _ e q u r hcl
  cases(show _=QX a from r)
  obtain⟨_,its,n,vs,h1⟩:=(show ObjOk X.prog X.w H s.heap a (.lst xs)from e.ok I.hok)
  rw[Be]at hcl
  obtain⟨as,k⟩:=q _ vs hcl
  exact⟨_,Reads.list h1 rfl rfl k⟩
 ·intro a xs ds e q u r hcl
  cases(show _=QX a from r)
  obtain⟨_,its,vs,o,ho,hc,n,hd⟩:=(show ObjOk X.prog X.w H s.heap a (.tup xs)from I.hok a _ e)
  rw[Be]at hcl
  obtain⟨as,k⟩:=q _ vs hcl
  exact⟨_,Reads.tuple ho hc hd k⟩
 ·intro a ns k u r _
  cases(show _=QX a from r)
  subst hG
  obtain⟨its,vs,⟨o,n,ho,hc,hd,hs⟩,_⟩:=I.list (k.sq (H:=H))
  obtain⟨as,q⟩:=Zp1 ns vs
  exact⟨_,Reads.list ho hc hs q⟩
 ·intro a C x _ _ e u r hc
  rw[exD,Be]at hc
  cases hc
 ·intro a x _ u r hc
  rw[fnD,Be]at hc
  cases hc
 ·intro a o t ks xs ds _ _ _ _ u r hc
  rw[dcD,Be]at hc
  cases hc
 ·intro us v _
  cases v
  exact⟨_,.nil⟩
 ·intro x xs d ds h q us v hc
  cases v with
  | cons r rs=>
   rw[JK,Xo]at hc
   obtain⟨as,k⟩:=h _ r hc.1
   obtain⟨bs,k'⟩:=q _ rs hc.2
   exact⟨_,.cons k k'⟩
theorem Da.reads(hG:X.K=G)(I:Inv X pins σ H s){v:V}{d:Xa}{u:Xc}(h:Da G H L v d)(r:RelV v u)(c:d.canLay0=true):∃as,Reads s.heap u d as:=(Da.reads2 hG I).1 h u r c
theorem Das.reads(hG:X.K=G)(I:Inv X pins σ H s){xs:List V}{ds:List Xa}{us:List Xc}(h:Das G H L xs ds)(r:Vals xs us)(c:JK ds=true):∃as,ReadsAll s.heap us ds as:=(Da.reads2 hG I).2 h us r c
end
inductive OT where
 | fz (d:Xa)
 | nd (ts:List OT)
 | tp (ts:List OT)
 | dc (t:Bool) (ks:List KY) (ds:List Xa)
mutual
noncomputable def OT.data:OT->Xa
 | .fz d=>d
 | .nd ts=>.list (OT.datas ts)
 | .tp ts=>.tuple (OT.datas ts)
 | .dc t ks ds=>dcD t ks ds
noncomputable def OT.datas:List OT->List Xa
 | []=>[]
 | t :: ts=>t.data :: OT.datas ts
end
theorem OT.datas_map:∀(ts:List OT),OT.datas ts=ts.map OT.data
 | []=>rfl
 | t :: ts=>by rw[OT.datas,OT.datas_map ts];rfl
@[simp] theorem OT.data_fz(d:Xa):(OT.fz d).data=d:=by rw[OT.data]
@[simp] theorem OT.data_nd(ts:List OT):(OT.nd ts).data= .list (ts.map OT.data):=by rw[OT.data,OT.datas_map]
@[simp] theorem OT.data_tp(ts:List OT):(OT.tp ts).data= .tuple (ts.map OT.data):=by rw[OT.data,OT.datas_map]
theorem OT.data_dc(t:Bool)(ks:List KY)(ds:List Xa):(OT.dc t ks ds).data=dcD t ks ds:=by rw[OT.data]
@[simp] theorem OT.map_fz(ds:List Xa):(ds.map OT.fz).map OT.data=ds:=by
 rw[Qx]
 exact(Xz λd _=>OT.data_fz d).trans (List.map_id _)
mutual
inductive Own(G:Xb)(H:Hp)(L:Addr->Prop):V->OT->List Addr->Prop where
 | fz {v:V} {d:Xa}:Da G H L v d->Own G H L v (.fz d) []
 | nd {a:Addr} {xs:List V} {ts:List OT} {bs:List Addr}:H a=some (.lst xs)->Owns G H L xs ts bs->Own G H L (.ref a) (.nd ts) (a :: bs)
 | tp {a:Addr} {xs:List V} {ts:List OT} {bs:List Addr}:H a=some (.tup xs)->Owns G H L xs ts bs->Own G H L (.ref a) (.tp ts) bs
 | dc {a:Addr} {o:MuO} {t:Bool} {ks:List KY} {xs:List V} {ds:List Xa}:H a=some o.ho->o.dic t ks xs->Das G H L xs ds->Own G H L (.ref a) (.dc t ks ds) [a]
inductive Owns(G:Xb)(H:Hp)(L:Addr->Prop):List V->List OT->List Addr->Prop where
 | nil:Owns G H L [] [] []
 | cons {x:V} {xs:List V} {t:OT} {ts:List OT} {as bs:List Addr}:Own G H L x t as->Owns G H L xs ts bs->Owns G H L (x :: xs) (t :: ts) (as ++ bs)
end
section
variable {H H':Hp}{L L':Addr->Prop}
theorem Own.both{P:V->OT->List Addr->Prop}{Q:List V->List OT->List Addr->Prop}(c1:∀{v:V} {d:Xa},Da G H L v d->P v (.fz d) [])(c2:∀{a:Addr} {xs:List V} {ts:List OT} {bs:List Addr},H a=some (.lst xs)->Q xs ts bs->P (.ref a) (.nd ts) (a :: bs))
  (c3:∀{a:Addr} {xs:List V} {ts:List OT} {bs:List Addr},H a=some (.tup xs)->Q xs ts bs->P (.ref a) (.tp ts) bs) (c4:∀{a:Addr} {o:MuO} {t:Bool} {ks:List KY} {xs:List V} {ds:List Xa},H a=some o.ho->o.dic t ks xs->Das G H L xs ds->P (.ref a) (.dc t ks ds) [a]) (n:Q [] [] []) (c:∀{x:V} {xs:List V} {t:OT} {ts:List OT} {as bs:List Addr},P x t as->Q xs ts bs->Q (x :: xs) (t :: ts) (as ++ bs)) :
  (∀ {v t as},Own G H L v t as->P v t as)∧∀{xs ts as},Owns G H L xs ts as->Q xs ts as :=
 ⟨λh=>Own.rec (motive_1:=λv t as _=>P v t as) (motive_2:=λxs ts as _=>Q xs ts as) c1 (λe _ r=>c2 e r) (λe _ r=>c3 e r) (λe k r=>c4 e k r) n (λ_ _ p q=>c p q) h,
   λh=>Owns.rec (motive_1:=λv t as _=>P v t as) (motive_2:=λxs ts as _=>Q xs ts as) c1 (λe _ r=>c2 e r) (λe _ r=>c3 e r) (λe k r=>c4 e k r) n (λ_ _ p q=>c p q) h⟩
theorem Own.frame2(hl:∀a (xs:MuO),L a->Rd H a xs.ho->L' a∧Rd H' a xs.ho)(ht:∀a (xs:ImO),H a=some xs.ho->H' a=some xs.ho) :
  (∀ {v:V} {t:OT} {as:List Addr},Own G H L v t as->(∀a∈as,∀xs:MuO,H a=some xs.ho->H' a=some xs.ho)->Own G H' L' v t as)∧∀{xs:List V} {ts:List OT} {as:List Addr},Owns G H L xs ts as->(∀a∈as,∀xs:MuO,H a=some xs.ho->H' a=some xs.ho)->Owns G H' L' xs ts as :=
 Own.both (λh _=>.fz (h.frame hl ht)) (fun{_ xs _ _} e r ha=>.nd (ha _ (.head _) (.lst xs) e) (r λa m=>ha a (.tail _ m))) (fun{_ xs _ _} e r ha=>.tp (ht _ (.tup xs) e) (r ha)) (λe k r ha=>.dc (ha _ (.head _) _ e) k (r.frame hl ht)) (λ_=>.nil) (λh r ha=>.cons (h λa m=>ha a (BW _ m)) (r λa m=>ha a (Qq _ m)))
theorem Own.frame(hl:∀a (xs:MuO),L a->Rd H a xs.ho->L' a∧Rd H' a xs.ho)(ht:∀a (xs:ImO),H a=some xs.ho->H' a=some xs.ho){v:V}{t:OT}{as:List Addr}(ha:∀a∈as,∀xs:MuO,H a=some xs.ho->H' a=some xs.ho)(h:Own G H L v t as):Own G H' L' v t as:=(Own.frame2 hl ht).1 h ha
theorem Owns.frame(hl:∀a (xs:MuO),L a->Rd H a xs.ho->L' a∧Rd H' a xs.ho)(ht:∀a (xs:ImO),H a=some xs.ho->H' a=some xs.ho){xs:List V}{ts:List OT}{as:List Addr}(ha:∀a∈as,∀xs:MuO,H a=some xs.ho->H' a=some xs.ho)(h:Owns G H L xs ts as):Owns G H' L' xs ts as:=(Own.frame2 hl ht).2 h ha
theorem Own.same(h:Same H H'){v:V}{t:OT}{as:List Addr}(x:Own G H L v t as):Own G H' L v t as:=x.frame (λa xs p e=>⟨p,e.same h⟩) (λa xs e=>h _ _ e) λa _ xs e=>h _ _ e
theorem Own.wide(h:∀a,L a->H a≠none->L' a){v:V}{t:OT}{as:List Addr}(x:Own G H L v t as):Own G H L' v t as:=x.frame (λa xs p e=>⟨h a p e.some,e⟩) (λa xs e=>e) λa _ xs e=>e
theorem Owns.wide(h:∀a,L a->H a≠none->L' a){v:List V}{t:List OT}{as:List Addr}(x:Owns G H L v t as):Owns G H L' v t as:=x.frame (λa xs p e=>⟨h a p e.some,e⟩) (λa xs e=>e) λa _ xs e=>e
theorem Owns.same(h:Same H H'){v:List V}{t:List OT}{as:List Addr}(x:Owns G H L v t as):Owns G H' L v t as:=x.frame (λa xs p e=>⟨p,e.same h⟩) (λa xs e=>h _ _ e) λa _ xs e=>h _ _ e
theorem Own.da2(h:∀a,L a->H a≠none->L' a):(∀{v:V} {t:OT} {as:List Addr},Own G H L v t as->(∀a∈as,L' a)->Da G H L' v t.data)∧∀{v:List V} {t:List OT} {as:List Addr},Owns G H L v t as->(∀a∈as,L' a)->Das G H L' v (OT.datas t) :=
 Own.both (λk _=>by rw[OT.data_fz];exact k.wide h) (λe r ha=>by rw[OT.data];exact .lst (ha _ (.head _)) (.inl e) (r λa m=>ha a (.tail _ m))) (λe r ha=>by rw[OT.data];exact .tup e (r ha)) (λe k r ha=>by rw[OT.data];exact .dic (ha _ (.head _)) (.inl e) k (r.wide h)) (λ_=>.nil) (λk r ha=>.cons (k λa m=>ha a (BW _ m)) (r λa m=>ha a (Qq _ m)))
theorem Own.da(h:∀a,L a->H a≠none->L' a){v:V}{t:OT}{as:List Addr}(ha:∀a∈as,L' a)(k:Own G H L v t as):Da G H L' v t.data:=(Own.da2 h).1 k ha
theorem Owns.das(h:∀a,L a->H a≠none->L' a){v:List V}{t:List OT}{as:List Addr}(ha:∀a∈as,L' a)(k:Owns G H L v t as):Das G H L' v (OT.datas t):=(Own.da2 h).2 k ha
theorem Own.some2:(∀{v:V} {t:OT} {as:List Addr},Own G H L v t as->∀a∈as,∃xs:MuO,H a=some xs.ho)∧∀{v:List V} {t:List OT} {as:List Addr},Owns G H L v t as->∀a∈as,∃xs:MuO,H a=some xs.ho :=
 Own.both (λ_ _ m=>nomatch m) (fun{_ xs _ _} e r a m=>(Xu.mp m).elim (λq=>⟨.lst xs,q▸e⟩) (r a)) (λ_ r=>r) (fun{_ o _ _ _ _} e _ _ a m=>⟨o,Qd.mp m▸e⟩) (λ_ m=>nomatch m) (λk r a m=>(Q3.mp m).elim (k a) (r a))
theorem Own.some{v:V}{t:OT}{as:List Addr}(h:Own G H L v t as):∀a∈as,∃xs:MuO,H a=some xs.ho:=Own.some2.1 h
theorem Owns.some{v:List V}{t:List OT}{as:List Addr}(h:Owns G H L v t as):∀a∈as,∃xs:MuO,H a=some xs.ho:=Own.some2.2 h
theorem Owns.length{xs:List V}{ts:List OT}{as:List Addr}(h:Owns G H L xs ts as):xs.length=ts.length:=(Own.both (P:=λ_ _ _=>True) (Q:=λxs ts _=>xs.length=ts.length) (λ_=>trivial) (λ_ _=>trivial) (λ_ _=>trivial) (λ_ _ _=>trivial) rfl (λ_ r=>congrArg (·+1) r)).2 h
theorem Das.owns{xs:List V}{ds:List Xa}(h:Das G H L xs ds):Owns G H L xs (ds.map OT.fz) []:=Das.ind (Q:=λxs ds=>Owns G H L xs (ds.map OT.fz) []) .nil (λh _ r=>.cons (.fz h) r) h
end
variable {G:Xb}
noncomputable abbrev Zi:=List (Option OT)
noncomputable abbrev Fp:=Nat->List Addr
set_option genInjectivity false in
structure MC(G:Xb) where
 H₀:Hp
 as₀:Addr->Prop
 L:Addr->Prop
 σ₀:St
noncomputable def Foot(fp:Fp)(a:Addr):Prop:=∃i,a∈fp i
noncomputable def Lf(C:MC G)(fp:Fp)(ex:Addr->Prop)(a:Addr):Prop:=¬Foot fp a∧¬ex a∧(C.L a∨C.H₀ a=none)
structure Rel(C:MC G)(io:List Nat)(H:Hp)(σ:St)(δ:Zi)(fp:Fp)(ex:Addr->Prop):Prop where
 len:σ.length=δ.length
 own:∀(i:Nat) (t:OT),δ[i]? =some (some t)->∃v,σ[i]? =some (some v)∧Own G H (Lf C fp ex) v t (fp i)
 emp:∀i:Nat,(∀t,δ[i]? ≠some (some t))->fp i=[]
 nd:∀i,(fp i).Nodup
 dj:∀i j a,a∈fp i->a∈fp j->i=j
 dx:∀i a,a∈fp i->¬ex a
 xa:∀a,ex a->H a≠none
 fr:∀b o,C.H₀ b=some o->¬C.as₀ b->H b=some o
 al:∀b,H b=none->C.H₀ b=none
 new:∀i a,a∈fp i->(i∈io∧C.as₀ a)∨C.H₀ a=none
 io:∀i∈io,σ[i]? =C.σ₀[i]?
structure Stp(p:Bool)(H:Hp)(δ:Zi)(fp:Fp)(H':Hp)(δ':Zi)(fp':Fp):Prop where
 keep:∀b o,H b=some o->(p=true∨¬Foot fp b)->H' b=some o
 env:p=true->δ'=δ∧fp'=fp
 grow:∀a,Foot fp' a->Foot fp a∨H a=none
 al:∀b,H' b=none->H b=none
section
variable {C:MC G}{io:List Nat}{H H' H'':Hp}{σ:St}{δ δ' δ'':Zi}{fp fp' fp'':Fp}{ex ex':Addr->Prop}{p p' c:Bool}{v:V}{d:Xa}{r:OT}{new:List Addr}
theorem Rel.foot(R:Rel C io H σ δ fp ex){a:Addr}(h:Foot fp a):∃xs:MuO,H a=some xs.ho:=by
 obtain⟨i,h⟩:=h
 by_cases q:∃t,δ[i]? =some (some t)
 ·obtain⟨t,q⟩:=q
  obtain⟨v,_,o⟩:=R.own i t q
  exact o.some a h
 ·rw[R.emp i (λt z=>q ⟨t,z⟩)]at h
  exact nomatch h
theorem Rel.footSome(R:Rel C io H σ δ fp ex){a:Addr}(h:H a=none):¬Foot fp a:=λz=>by
 obtain⟨xs,e⟩:=R.foot z
 rw[h]at e
 cases e
theorem Stp.refl(p:Bool)(H:Hp)(δ:Zi)(fp:Fp):Stp p H δ fp H δ fp:=⟨λ_ _ h _=>h,λ_=>⟨rfl,rfl⟩,λ_ h=>.inl h,λ_ h=>h⟩
theorem Stp.same(h:Same H H')(hn:∀b,H' b=none->H b=none):Stp p H δ fp H' δ fp:=⟨λ_ _ q _=>h _ _ q,λ_=>⟨rfl,rfl⟩,λ_ h=>.inl h,hn⟩
theorem Same.al(h:Same H H'):∀b,H' b=none->H b=none:=λ_ q=>h.free q
theorem Stp.trans(a:Stp p H δ fp H' δ' fp')(b:Stp p' H' δ' fp' H'' δ'' fp''):Stp (p&&p') H δ fp H'' δ'' fp'' where
 keep:=λx o e h=>by
  rcases h with h|h
  ·rw[Xo]at h
   exact b.keep x o (a.keep x o e (.inl h.1)) (.inl h.2)
  ·refine b.keep x o (a.keep x o e (.inr h)) (.inr λz=>?_)
   rcases a.grow x z with z|z
   ·exact h z
   ·rw[e]at z;cases z
 env:=λh=>by
  rw[Xo]at h
  obtain⟨e1,e2⟩:=a.env h.1
  obtain⟨e3,e4⟩:=b.env h.2
  exact⟨e3.trans e1,e4.trans e2⟩
 grow:=λx h=>by
  rcases b.grow x h with h|h
  ·exact a.grow x h
  ·exact .inr (a.al x h)
 al:=λx h=>a.al x (b.al x h)
theorem Rel.frameL(R:Rel C io H σ δ fp ex)(S:Stp p H δ fp H' δ' fp')(hc:p=true∨c=true)(hx:∀a,ex' a->ex a∨H a=none) :
  (∀ a (xs:MuO),(c=true->Lf C fp ex a)->Rd H a xs.ho->(c=true->Lf C fp' ex' a)∧Rd H' a xs.ho)∧(∀a (xs:ImO),H a=some xs.ho->H' a=some xs.ho):=by
 have nf:∀a,Foot fp a->∃xs:MuO,H a=some xs.ho:=λa h=>R.foot h
 refine⟨λa xs l q=>⟨λhc'=>?_,?_⟩,λa xs q=>S.keep a _ q (.inr λz=>?_)⟩
 ·obtain⟨l1,l2,l3⟩:=l hc'
  refine⟨λz=>?_,λz=>?_,l3⟩
  ·rcases S.grow a z with z|z
   ·exact l1 z
   ·exact q.some z
  ·rcases hx a z with z|z
   ·exact l2 z
   ·exact q.some z
 ·have hk:p=true∨¬Foot fp a:=by
   rcases hc with h|h
   ·exact .inl h
   ·exact .inr (l h).1
  rcases q with q|⟨o,q⟩
  ·exact .inl (S.keep a _ q hk)
  ·exact .inr ⟨o,S.keep a _ q hk⟩
 ·obtain⟨ys,e⟩:=nf a z
  exact ImO.nm q e
theorem Rel.own_step(R:Rel C io H σ δ fp ex)(S:Stp p H δ fp H' δ' fp')(hc:p=true∨c=true)(hx:∀a,ex' a->ex a∨H a=none)(hn:∀a∈new,ex a)
  (x:Own G H (λa=>c=true->Lf C fp ex a) v r new):Own G H' (λa=>c=true->Lf C fp' ex' a) v r new :=
 x.frame (R.frameL S hc hx).1 (R.frameL S hc hx).2 λa m xs e=>S.keep a _ e (.inr λ⟨i,z⟩=>R.dx i a z (hn a m))
theorem Rel.owns_step(R:Rel C io H σ δ fp ex)(S:Stp p H δ fp H' δ' fp')(hc:p=true∨c=true)(hx:∀a,ex' a->ex a∨H a=none)(hn:∀a∈new,ex a){vs:List V}{rs:List OT}
  (x:Owns G H (λa=>c=true->Lf C fp ex a) vs rs new):Owns G H' (λa=>c=true->Lf C fp' ex' a) vs rs new :=
 x.frame (R.frameL S hc hx).1 (R.frameL S hc hx).2 λa m xs e=>S.keep a _ e (.inr λ⟨i,z⟩=>R.dx i a z (hn a m))
theorem Rel.drop(R:Rel C io H σ δ fp ex)(h:∀a,ex' a->ex a):Rel C io H σ δ fp ex' :=
 ⟨R.len,λi t e=>by
  obtain⟨v,e1,o⟩:=R.own i t e
  exact⟨v,e1,o.wide λa l _=>⟨l.1,λz=>l.2.1 (h a z),l.2.2⟩⟩,R.emp,R.nd,R.dj,λi a m z=>R.dx i a m (h a z),λa z=>R.xa a (h a z),R.fr,R.al,R.new,R.io⟩
theorem Rel.made(R:Rel C io H σ δ fp ex)(s:Same H H')(hn:∀a∈new,H a=none∧H' a≠none):Rel C io H' σ δ fp (λa=>ex a∨a∈new) :=
 ⟨R.len,λi t e=>by
  obtain⟨v,e1,o⟩:=R.own i t e
  refine⟨v,e1,(o.wide λa l q=>⟨l.1,λz=>?_,l.2.2⟩).same s⟩
  rcases z with z|z
  ·exact l.2.1 z
  ·exact q (hn a z).1,R.emp,R.nd,R.dj,λi a m z=>by
   rcases z with z|z
   ·exact R.dx i a m z
   ·exact R.footSome (hn a z).1 ⟨i,m⟩,λa z=>by
   rcases z with z|z
   ·intro q;exact R.xa a z (s.free q)
   ·exact(hn a z).2,λb o e n=>s _ _ (R.fr b o e n),λb q=>R.al b (s.free q),R.new,R.io⟩
end
noncomputable abbrev MEt:=Zi->(OT->Zi->Prop)->Prop
noncomputable abbrev MAt:=Zi->(List OT->Zi->Prop)->Prop
noncomputable abbrev MTt:=Zi->(Bool->Zi->Prop)->Prop
noncomputable abbrev exu(ex:Addr->Prop)(new:List Addr):Addr->Prop:=λa=>ex a∨a∈new
structure RE(C:MC G)(io:List Nat)(p c:Bool)(H:Hp)(σ:St)(δ:Zi)(fp:Fp)(ex:Addr->Prop)(H':Hp)(v:V)(r:OT)(δ':Zi)(fp':Fp)(new:List Addr):Prop where
 rel:Rel C io H' σ δ' fp' (exu ex new)
 stp:Stp p H δ fp H' δ' fp'
 own:Own G H' (λa=>c=true->Lf C fp' (exu ex new) a) v r new
 nd:new.Nodup
 fresh:∀a∈new,H a=none
structure RA(C:MC G)(io:List Nat)(p c:Bool)(H:Hp)(σ:St)(δ:Zi)(fp:Fp)(ex:Addr->Prop)(H':Hp)(v:List V)(r:List OT)(δ':Zi)(fp':Fp)(new:List Addr):Prop where
 rel:Rel C io H' σ δ' fp' (exu ex new)
 stp:Stp p H δ fp H' δ' fp'
 own:Owns G H' (λa=>c=true->Lf C fp' (exu ex new) a) v r new
 nd:new.Nodup
 fresh:∀a∈new,H a=none
noncomputable def SE(G:Xb)(io:List Nat)(p c:Bool)(t:TE)(m:MEt):Prop:=∀(C:MC G) (H:Hp) (σ:St) (δ:Zi) (fp:Fp) (ex:Addr->Prop) (K:OT->Zi->Prop) (Q:VK),Rel C io H σ δ fp ex->m δ K ->
 (∀ H' v r δ' fp' new,RE C io p c H σ δ fp ex H' v r δ' fp' new->K r δ'->Q v H')->t σ H Q
noncomputable def SA(G:Xb)(io:List Nat)(p c:Bool)(t:TA)(m:MAt):Prop:=∀(C:MC G) (H:Hp) (σ:St) (δ:Zi) (fp:Fp) (ex:Addr->Prop) (K:List OT->Zi->Prop) (Q:List V->Hp->Prop),Rel C io H σ δ fp ex->m δ K ->
 (∀ H' v r δ' fp' new,RA C io p c H σ δ fp ex H' v r δ' fp' new->K r δ'->Q v H')->t σ H Q
noncomputable def STt(G:Xb)(io:List Nat)(p:Bool)(t:TT)(m:MTt):Prop:=∀(C:MC G) (H:Hp) (σ:St) (δ:Zi) (fp:Fp) (ex:Addr->Prop) (K:Bool->Zi->Prop) (Q:Bool->Hp->Prop),Rel C io H σ δ fp ex->m δ K ->
 (∀ H' b δ' fp',Rel C io H' σ δ' fp' ex->Stp p H δ fp H' δ' fp'->K b δ'->Q b H')->t σ H Q
noncomputable def ME(X:Cx)(io:List Nat)(p c:Bool)(e:Expr)(m:MEt):Prop:=∃t,PE X e t∧SE X.K io p c t m
noncomputable def MA(X:Cx)(io:List Nat)(p c:Bool)(e:List Expr)(m:MAt):Prop:=∃t,PA X e t∧SA X.K io p c t m
noncomputable def MT(X:Cx)(io:List Nat)(p:Bool)(e:Expr)(m:MTt):Prop:=∃t,PT X e t∧STt X.K io p t m
noncomputable def MW(X:Cx)(io:List Nat)(p:Bool)(e:Expr)(m:MTt):Prop:=∃t,PW X e t∧STt X.K io p t m
section
variable {C:MC G}{io:List Nat}{H H' H'':Hp}{σ:St}{δ δ' δ'':Zi}{fp fp' fp'':Fp}{ex ex':Addr->Prop}{p p' c:Bool}{v:V}{d:Xa}{r:OT}{vs:List V}{rs:List OT}{new:List Addr}
theorem Rel.newOk(R:Rel C io H σ δ fp ex){a:Addr}(h:H a=none):¬Foot fp a∧¬ex a∧C.H₀ a=none:=⟨R.footSome h,λz=>R.xa a z h,R.al a h⟩
theorem RE.da(R:RE C io p c H σ δ fp ex H' v r δ' fp' new)(R0:Rel C io H σ δ fp ex):Da G H' (λa=>c=true->Lf C fp' ex a) v r.data:=by
 refine R.own.da (λa l _ h=>?_) (λa m _=>?_)
 ·exact⟨(l h).1,λz=>(l h).2.1 (.inl z),(l h).2.2⟩
 ·refine⟨λqz9=>?_,(R0.newOk (R.fresh a m)).2.1,.inr (R0.newOk (R.fresh a m)).2.2⟩
  obtain⟨i,z⟩:=qz9
  exact R.rel.dx i a z (.inr m)
theorem RA.das(R:RA C io p c H σ δ fp ex H' vs rs δ' fp' new)(R0:Rel C io H σ δ fp ex):Das G H' (λa=>c=true->Lf C fp' ex a) vs (OT.datas rs):=by
 refine R.own.das (λa l _ h=>?_) (λa m _=>?_)
 ·exact⟨(l h).1,λz=>(l h).2.1 (.inl z),(l h).2.2⟩
 ·refine⟨λqz9=>?_,(R0.newOk (R.fresh a m)).2.1,.inr (R0.newOk (R.fresh a m)).2.2⟩
  obtain⟨i,z⟩:=qz9
  exact R.rel.dx i a z (.inr m)
theorem RE.base(R:RE C io p c H σ δ fp ex H' v r δ' fp' new):Rel C io H' σ δ' fp' ex:=R.rel.drop λa z=>.inl z
theorem RA.base(R:RA C io p c H σ δ fp ex H' vs rs δ' fp' new):Rel C io H' σ δ' fp' ex:=R.rel.drop λa z=>.inl z
theorem Zdr{a:Addr}:exu ex [] a↔ex a:=by simp[exu]
theorem RE.fz(R:Rel C io H' σ δ' fp' ex)(S:Stp p H δ fp H' δ' fp')(h:Da G H' (λa=>c=true->Lf C fp' ex a) v d):RE C io p c H σ δ fp ex H' v (.fz d) δ' fp' [] :=
 ⟨R.drop λa z=>Zdr.mp z,S,.fz (h.wide λa l _ hc=>⟨(l hc).1,λz=>(l hc).2.1 (Zdr.mp z),(l hc).2.2⟩),.nil,λa m=>nomatch m⟩
theorem RE.tree{H1:Hp}(R0:Rel C io H σ δ fp ex)(R:Rel C io H1 σ δ' fp' ex)(S:Stp p H δ fp H1 δ' fp')(s:Same H1 H')(hn:∀a∈new,H1 a=none)(nd:new.Nodup)
  (o:Own G H' (λa=>((c=true->Lf C fp' ex a)∨H1 a=none)∧a∉new) v r new):RE C io p c H σ δ fp ex H' v r δ' fp' new:=by
 refine⟨R.made s λa m=>⟨hn a m,λz=>?_⟩,?_,o.wide λa l q hc=>?_,nd,λa m=>S.al a (hn a m)⟩
 ·obtain⟨xs,e⟩:=o.some a m
  rw[z]at e;cases e
 ·have:=S.trans (p':=true) (Stp.same (p:=true) (δ:=δ') (fp:=fp') s s.al)
  rwa[Bool.and_true]at this
 ·rcases l.1 with l1|l1
  ·exact⟨(l1 hc).1,λz=>z.elim (l1 hc).2.1 l.2,(l1 hc).2.2⟩
  ·exact⟨R.footSome l1,λz=>z.elim (λz=>R.xa a z l1) l.2,.inr (R.al a l1)⟩
end
inductive ScD:V->Xa->Prop where
 | non:ScD .non .none
 | bl (b:Bool):ScD (.bl b) (.bool b)
 | int (i:Int):ScD (.int i) (.int i)
 | str (x:Str):ScD (.str x) (.str x)
theorem ScD.da{H:Hp}{L:Addr->Prop}{v:V}{d:Xa}(h:ScD v d):Da G H L v d:=by
 cases h
 ·exact .non
 ·exact .bl _
 ·exact .int _
 ·exact .str _
section
variable {X:Cx}{io:List Nat}{p p' c c':Bool}{e a b:Expr}{m ma mb:MEt}{es:List Expr}
noncomputable def Z7p(i:Nat):MEt:=λδ K=>match δ[i]? with|some (some (.fz d))=>K (.fz d) δ|_=>False
noncomputable def Z7n(i:Nat):MEt:=λδ K=>match δ[i]? with|some (some t)=>K (.fz t.data) δ|_=>False
noncomputable def mC(d:Xa):MEt:=λδ K=>K (.fz d) δ
theorem mv(i:Nat){x:Str}{pos:Pos}(hN:X.N[i]? =some x:=by rfl)(hv:Vis X.env.scope x:=by first|exact QS rfl|exact QG (QS rfl)|exact QG (QG rfl))(hd:(x==("__debug__" : Str))=false:=by decide)
  (hcd:(x==("__classdict__" : Str))=false:=by decide):ME X io true true (.Name x pos) (Z7p i):=by
 refine⟨_,pv i hN hv hd hcd,λC H σ δ fp ex K Q R h k=>?_⟩
 unfold Z7p at h
 split at h
 ·rename_i d hd
  obtain⟨v,e,o⟩:=R.own i _ hd
  refine⟨v,e,k H v _ δ fp [] (.fz R (.refl _ _ _ _) ?_) h⟩
  generalize fp i=as at o
  cases o with
  | fz q=>exact q.wide λa l _ _=>l
 ·exact h.elim
theorem mo(i:Nat){x:Str}{pos:Pos}(hN:X.N[i]? =some x:=by rfl)(hv:Vis X.env.scope x:=by first|exact QS rfl|exact QG (QS rfl)|exact QG (QG rfl))(hd:(x==("__debug__" : Str))=false:=by decide)
  (hcd:(x==("__classdict__" : Str))=false:=by decide):ME X io true false (.Name x pos) (Z7n i):=by
 refine⟨_,pv i hN hv hd hcd,λC H σ δ fp ex K Q R h k=>?_⟩
 unfold Z7n at h
 split at h
 ·rename_i d hd
  obtain⟨v,e,o⟩:=R.own i _ hd
  exact⟨v,e,k H v _ δ fp [] (.fz R (.refl _ _ _ _) (o.da (λa _ _ z=>(nomatch z)) λa _ z=>(nomatch z))) h⟩
 ·exact h.elim
theorem Znl{t:V}{d:Xa}(h:PE X e (tC t))(s:ScD t d):ME X io true true e (mC d) :=
 ⟨_,h,λC H σ δ fp ex K Q R h k=>k H t _ δ fp [] (.fz R (.refl _ _ _ _) s.da) h⟩
theorem Z6q{i j pos}:ME X io true true (.Constant (.int i) j pos) (mC (.int i)):=Znl Z3c (.int i)
theorem Zae{b j pos}:ME X io true true (.Constant (.bool b) j pos) (mC (.bool b)):=Znl Z9i (.bl b)
theorem Zob{x j pos}:ME X io true true (.Constant (.str x) j pos) (mC (.str x)):=Znl Z25 (.str x)
theorem SE.two{ta tb:TE}(ha:SE G io p c ta ma)(hb:SE G io p' c' tb mb)(hc:p'=true∨c=true){C:MC G}{H:Hp}{σ:St}{δ:Zi}{fp:Fp}{ex:Addr->Prop}{K:OT->OT->Zi->Prop}{Q:V->V->Hp->Prop}
  (R:Rel C io H σ δ fp ex) (h:ma δ λx δ1=>mb δ1 λy δ2=>K x y δ2)
  (k:∀H' x y u v δ' fp',Rel C io H' σ δ' fp' ex->Stp (p&&p') H δ fp H' δ' fp'->Da G H' (λa=>(c&&c')=true->Lf C fp' ex a) x u.data->Da G H' (λa=>(c&&c')=true->Lf C fp' ex a) y v.data->K u v δ'->Q x y H') :
  ta σ H λx H1=>tb σ H1 λy H2=>Q x y H2:=by
 refine ha C H σ δ fp ex _ _ R h λH1 x u δ1 fp1 new1 r1 h1=>?_
 refine hb C H1 σ δ1 fp1 (exu ex new1) _ _ r1.rel h1 λH2 y v δ2 fp2 new2 r2 h2=>?_
 have o1:=r1.rel.own_step (ex':=exu (exu ex new1) new2) r2.stp (c:=c) hc (λa z=>z.imp id λz=>r2.fresh a z) (λa m=>.inr m) r1.own
 have R2:Rel C io H2 σ δ2 fp2 ex:=r2.rel.drop λa z=>.inl (.inl z)
 have q1:Da G H2 (λa=>c=true->Lf C fp2 ex a) x u.data:=by
  refine o1.da (λa l _ z=>?_) (λa m z=>?_)
  ·exact⟨(l z).1,λw=>(l z).2.1 (.inl (.inl w)),(l z).2.2⟩
  ·have:=R.newOk (r1.fresh a m)
   refine⟨λqz9=>?_,this.2.1,.inr this.2.2⟩
   obtain⟨i,w⟩:=qz9
   exact r2.rel.dx i a w (.inl (.inr m))
 have q2:=r2.da r1.rel
 refine k H2 x y u v δ2 fp2 R2 (r1.stp.trans r2.stp) (q1.wide λa l _ z=>l (by rw[Xo]at z;exact z.1)) (q2.wide λa l _ z=>?_) h2
 have l:=l (by rw[Xo]at z;exact z.2)
 exact⟨l.1,λw=>l.2.1 (.inl w),l.2.2⟩
noncomputable def P2s(G:Xb)(r:R2)(rp:Xa->Xa->(Xa->Prop)->Prop):Prop:=∀(H:Hp) (L:Addr->Prop) (x y:V) (d e:Xa) (k:Xa->Prop) (Q:VK),Da G H L x d->Da G H L y e->rp d e k->(∀v d',ScD v d'->k d'->Q v H)->r x y H Q
noncomputable def P2(G:Xb)(r:R2)(rp:Xa->Xa->(OT->Prop)->Prop):Prop:=∀(H:Hp) (L:Addr->Prop) (x y:V) (d e:Xa) (k:OT->Prop) (Q:VK),Da G H L x d->Da G H L y e->rp d e k ->
 (∀ H' v o new,Same H H'->Own G H' (λa=>(L a∨H a=none)∧a∉new) v o new->new.Nodup->(∀a∈new,H a=none)->k o->Q v H')->r x y H Q
noncomputable def Znw(rp:Xa->Xa->(Xa->Prop)->Prop)(ma mb:MEt):MEt:=λδ K=>ma δ λx δ1=>mb δ1 λy δ2=>rp x.data y.data λd=>K (.fz d) δ2
noncomputable def Z7a(rp:Xa->Xa->(OT->Prop)->Prop)(ma mb:MEt):MEt:=λδ K=>ma δ λx δ1=>mb δ1 λy δ2=>rp x.data y.data λd=>K d δ2
theorem Z04{r:R2}{rp}{ta tb:TE}(P:P2s G r rp)(ha:SE G io p c ta ma)(hb:SE G io p' c' tb mb)(hc:p'=true∨c=true):SE G io (p&&p') true (tOp r ta tb) (Znw rp ma mb):=by
 intro C H σ δ fp ex K Q R h k
 refine SE.two (K:=λx y δ2=>rp x.data y.data λd=>K (.fz d) δ2) (Q:=λx y H2=>r x y H2 Q) ha hb hc R h λH' x y u v δ' fp' R' S q1 q2 h'=>?_
 exact P H' _ x y _ _ _ _ q1 q2 h' λw d' sc h''=>k H' w _ δ' fp' [] (.fz R' S sc.da) h''
theorem Ydf{r:R2}{rp}{ta tb:TE}(P:P2 G r rp)(ha:SE G io p c ta ma)(hb:SE G io p' c' tb mb)(hc:p'=true∨c=true):SE G io (p&&p') (c&&c') (tOp r ta tb) (Z7a rp ma mb):=by
 intro C H σ δ fp ex K Q R h k
 refine SE.two (K:=λx y δ2=>rp x.data y.data λd=>K d δ2) (Q:=λx y H2=>r x y H2 Q) ha hb hc R h λH' x y u v δ' fp' R' S q1 q2 h'=>?_
 exact P H' _ x y _ _ _ _ q1 q2 h' λH2 w o new s ow nd hn h''=>k H2 w o δ' fp' new (RE.tree R R' S s hn nd ow) h''
theorem Zqe{op:Operator}{r:R2}{rp}{pos:Pos}(ho:OpR X (VN op) r)(P:P2s X.K r rp)(ha:ME X io p c a ma)(hb:ME X io p' c' b mb)(hc:p'=true∨c=true:=by first|exact QS rfl|exact QG rfl):ME X io (p&&p') true (.BinOp a op b pos) (Znw rp ma mb):=by
 obtain⟨_,A,sa⟩:=ha
 obtain⟨_,B,sb⟩:=hb
 exact⟨_,Z0w ho A B,Z04 P sa sb hc⟩
theorem Zeq{op:Operator}{r:R2}{rp}{pos:Pos}(ho:OpR X (VN op) r)(P:P2 X.K r rp)(ha:ME X io p c a ma)(hb:ME X io p' c' b mb)(hc:p'=true∨c=true:=by first|exact QS rfl|exact QG rfl):ME X io (p&&p') (c&&c') (.BinOp a op b pos) (Z7a rp ma mb):=by
 obtain⟨_,A,sa⟩:=ha
 obtain⟨_,B,sb⟩:=hb
 exact⟨_,Z0w ho A B,Ydf P sa sb hc⟩
theorem Zhh{op:CmpOp}{r:R2}{rp}{pos:Pos}(ho:OpR X (JS op) r)(P:P2s X.K r rp)(ha:ME X io p c a ma)(hb:ME X io p' c' b mb)(hc:p'=true∨c=true:=by first|exact QS rfl|exact QG rfl)(hm:Ut op b=false):ME X io (p&&p') true (.Compare a [op] [b] pos) (Znw rp ma mb):=by
 obtain⟨_,A,sa⟩:=ha
 obtain⟨_,B,sb⟩:=hb
 exact⟨_,Zy9 ho A B hm,Z04 P sa sb hc⟩
theorem Yeq{r:R2}{rp}{pos:Pos}(ho:IxR X r)(P:P2 X.K r rp)(ha:ME X io p c a ma)(hb:ME X io p' c' b mb)(hc:p'=true∨c=true:=by first|exact QS rfl|exact QG rfl)(hs:Zkr b):ME X io (p&&p') (c&&c') (.Subscript a b pos) (Z7a rp ma mb):=by
 obtain⟨_,A,sa⟩:=ha
 obtain⟨_,B,sb⟩:=hb
 exact⟨_,Z6m ho A B hs,Ydf P sa sb hc⟩
noncomputable def kB(K:Bool->Zi->Prop):OT->Zi->Prop:=λo δ=>match o with| .fz (.bool b)=>K b δ|_=>False
theorem Ya7{t:TE}(h:SE G io p c t m):STt G io p (Z4m t) (λδ K=>m δ (kB K)):=by
 intro C H σ δ fp ex K Q R h' k
 refine h C H σ δ fp ex _ _ R h' λH' v r δ' fp' new r1 h1=>?_
 cases r with
 | nd ts=>exact h1.elim
 | tp ts=>exact h1.elim
 | dc _ _ _=>exact h1.elim
 | fz d=>
  cases d with
  | bool b=>
   cases r1.own with
   | fz q=>
    cases q
    exact⟨b,rfl,k H' b δ' fp' r1.base r1.stp h1⟩
  | _=>exact h1.elim
theorem Zda{op:CmpOp}{r:R2}{rp}{pos:Pos}(ho:OpR X (JS op) r)(P:P2s X.K r rp)(ha:ME X io p c a ma)(hb:ME X io p' c' b mb)(hc:p'=true∨c=true:=by first|exact QS rfl|exact QG rfl)(hm:Ut op b=false) :
  MT X io (p&&p') (.Compare a [op] [b] pos) (λδ K=>Znw rp ma mb δ (kB K)):=by
 obtain⟨_,A,sa⟩:=ha
 obtain⟨_,B,sb⟩:=hb
 exact⟨_,Zzg ho A B hm,Ya7 (Z04 P sa sb hc)⟩
end
variable {G:Xb}
section
variable {X:Cx}{io:List Nat}{p p' p'' c c':Bool}{e a b:Expr}{m ma mb:MEt}{es rest:List Expr}{ta tb:MTt}{pos:Pos}
noncomputable def Ybn(t:MTt):MTt:=λδ K=>t δ λb δ'=>K (!b) δ'
noncomputable def Ybw(t u:MTt):MTt:=λδ K=>t δ λb δ'=>if b=true then u δ' K else K false δ'
noncomputable def mOr(t u:MTt):MTt:=λδ K=>t δ λb δ'=>if b=true then K true δ' else u δ' K
theorem Z3w(h:MT X io p a ta):MT X io p (.UnaryOp .Not a pos) (Ybn ta):=by
 obtain⟨_,A,sa⟩:=h
 exact⟨_,Z6s A,λC H σ δ fp ex K Q R h k=>sa C H σ δ fp ex _ _ R h λH' b δ' fp' R' S h'=>k H' (!b) δ' fp' R' S h'⟩
theorem Zet(h:MT X io p a ta):MW X io p (.BoolOp .And [a] pos) ta:=by
 obtain⟨_,A,sa⟩:=h
 exact⟨_,Zz3 A,sa⟩
theorem Zbl(h:MT X io p a ta):MW X io p (.BoolOp .Or [a] pos) ta:=by
 obtain⟨_,A,sa⟩:=h
 exact⟨_,Z2p A,sa⟩
theorem Stp.andL{H H':Hp}{δ δ':Zi}{fp fp':Fp}(S:Stp p H δ fp H' δ' fp'):Stp (p&&p') H δ fp H' δ' fp':=by
 have:=S.trans (Stp.refl p' H' δ' fp')
 exact this
theorem Zia(h:MT X io p a ta)(g:MW X io p' (.BoolOp .And (b :: rest) pos) tb):MW X io (p&&p') (.BoolOp .And (a :: b :: rest) pos) (Ybw ta tb):=by
 obtain⟨_,A,sa⟩:=h
 obtain⟨_,B,sb⟩:=g
 exact⟨_,Z47 A B,λC H σ δ fp ex K Q R h k=>sa C H σ δ fp ex _ _ R h λH' b δ' fp' R' S h'=>by
  cases b with
  | true=>
   rw[if_pos rfl]at h'⊢
   exact sb C H' σ δ' fp' ex _ _ R' h' λH2 b2 δ2 fp2 R2 S2 h2=>k H2 b2 δ2 fp2 R2 (S.trans S2) h2
  | false=>
   rw[if_neg XF]at h'⊢
   exact k H' false δ' fp' R' S.andL h'⟩
theorem Zcw(h:MT X io p a ta)(g:MW X io p' (.BoolOp .Or (b :: rest) pos) tb):MW X io (p&&p') (.BoolOp .Or (a :: b :: rest) pos) (mOr ta tb):=by
 obtain⟨_,A,sa⟩:=h
 obtain⟨_,B,sb⟩:=g
 exact⟨_,Z8z A B,λC H σ δ fp ex K Q R h k=>sa C H σ δ fp ex _ _ R h λH' b δ' fp' R' S h'=>by
  cases b with
  | true=>
   rw[if_pos rfl]at h'⊢
   exact k H' true δ' fp' R' S.andL h'
  | false=>
   rw[if_neg XF]at h'⊢
   exact sb C H' σ δ' fp' ex _ _ R' h' λH2 b2 δ2 fp2 R2 S2 h2=>k H2 b2 δ2 fp2 R2 (S.trans S2) h2⟩
theorem MW.mt(h:MW X io p e ta):MT X io p e ta:=by
 obtain⟨_,A,sa⟩:=h
 exact⟨_,A.pt,sa⟩
noncomputable def Zuj:Xa->Option Bool
 | .none=>some false
 | .bool b=>some b
 | .int i=>some (i !=0)
 | .list ds=>some (!ds.isEmpty)
 | .tuple ds=>some (!ds.isEmpty)
 | _=>none
noncomputable def Yb7(m:MEt):MTt:=λδ K=>m δ λr δ'=>match Zuj r.data with|some b=>K b δ'|none=>False
theorem Das.isEmpty{H:Hp}{L:Addr->Prop}{xs:List V}{ds:List Xa}(h:Das G H L xs ds):xs.isEmpty=ds.isEmpty:=by cases h<;>rfl
theorem Wn(ha:ME X io p c a ma)(he:∀whole,isTrue a X.env whole=(do let v←whole;standAt a.pos;holding [v] (truthy v))):MT X io p a (Yb7 ma):=by
 obtain⟨_,A,sa⟩:=ha
 exact⟨_,Zzp rfl A he,λC H σ δ fp ex K' Q R h k=>sa C H σ δ fp ex _ _ R h λH' v r δ' fp' new r1 h1=>by
  have q:=r1.da R
  generalize r.data=d at q h1
  cases q with
  | non=>exact⟨_,rfl,k H' _ δ' fp' r1.base r1.stp h1⟩
  | bl b=>exact⟨_,rfl,k H' _ δ' fp' r1.base r1.stp h1⟩
  | int b=>exact⟨_,rfl,k H' _ δ' fp' r1.base r1.stp h1⟩
  | str x=>exact h1.elim
  | lst _ e q=>exact⟨_,.inl ⟨_,.inl e,rfl⟩,k H' _ δ' fp' r1.base r1.stp (by rw[q.isEmpty];exact h1)⟩
  | tup e q=>exact⟨_,.inr (.inl ⟨_,.inl (.inl e),rfl⟩),k H' _ δ' fp' r1.base r1.stp (by rw[q.isEmpty];exact h1)⟩
  | scr q=>exact⟨_,.inl ⟨_,q.sq,rfl⟩,k H' _ δ' fp' r1.base r1.stp (by simpa [Zuj]using h1)⟩
  | exc _ _ _=>exact h1.elim
  | fn _=>exact h1.elim
  | dic _ _ _ _=>exact h1.elim⟩
noncomputable def asB(d:Xa)(k:Bool->Prop):Prop:=match d with| .bool b=>k b|_=>False
noncomputable def Z5v(a b:MEt):MEt:=λδ K=>a δ λx δ1=>asB x.data λc=>if c=true then b δ1 K else K (.fz (.bool false)) δ1
noncomputable def Z3t(a:MEt):MEt:=λδ K=>a δ λx δ1=>asB x.data λc=>K (.fz (.bool (!c))) δ1
noncomputable def mIf(t:MTt)(a b:MEt):MEt:=λδ K=>t δ λc δ1=>if c=true then a δ1 K else b δ1 K
theorem Da.boolInv{H:Hp}{L:Addr->Prop}{v:V}{d:Xa}{k:Bool->Prop}(q:Da G H L v d)(h:asB d k):∃b,v= .bl b∧k b:=by
 cases q with
 | bl b=>exact⟨b,rfl,h⟩
 | _=>exact h.elim
theorem RE.step{C:MC G}{H H1 H2:Hp}{σ:St}{δ δ1 δ2:Zi}{fp fp1 fp2:Fp}{ex:Addr->Prop}{v:V}{r:OT}{new:List Addr}(S:Stp p H δ fp H1 δ1 fp1)(R:RE C io p' c H1 σ δ1 fp1 ex H2 v r δ2 fp2 new) :
  RE C io (p&&p') c H σ δ fp ex H2 v r δ2 fp2 new:=⟨R.rel,S.trans R.stp,R.own,R.nd,λa m=>S.al a (R.fresh a m)⟩
theorem Zlx{op}(h:ME X io p c a ma):ME X io p c (.BoolOp op [a] pos) ma:=by
 obtain⟨_,A,sa⟩:=h
 exact⟨_,Z6w A,sa⟩
theorem Zjt(ha:ME X io p c a ma)(hb:ME X io p' c' (.BoolOp .And (b :: rest) pos) mb):ME X io (p&&p') c' (.BoolOp .And (a :: b :: rest) pos) (Z5v ma mb):=by
 obtain⟨_,A,sa⟩:=ha
 obtain⟨_,B,sb⟩:=hb
 exact⟨_,Z28 A B,λC H σ δ fp ex K Q R h k=>sa C H σ δ fp ex _ _ R h λH' v r δ' fp' new r1 h1=>by
  obtain⟨b,rfl,h1⟩:=(r1.da R).boolInv h1
  refine⟨b,rfl,?_⟩
  cases b with
  | true=>
   rw[if_pos rfl]at h1⊢
   exact sb C H' σ δ' fp' ex _ _ r1.base h1 λH2 w r2 δ2 fp2 new2 R2 h2=>k H2 w r2 δ2 fp2 new2 (R2.step r1.stp) h2
  | false=>
   rw[if_neg XF]at h1⊢
   exact k H' _ _ δ' fp' [] (RE.fz r1.base r1.stp.andL (.bl false)) h1⟩
theorem Z9g(ha:ME X io p c a ma):ME X io p true (.UnaryOp .Not a pos) (Z3t ma):=by
 obtain⟨_,A,sa⟩:=ha
 exact⟨_,Z4n A,λC H σ δ fp ex K Q R h k=>sa C H σ δ fp ex _ _ R h λH' v r δ' fp' new r1 h1=>by
  obtain⟨b,rfl,h1⟩:=(r1.da R).boolInv h1
  exact⟨b,rfl,k H' _ _ δ' fp' [] (RE.fz r1.base r1.stp (.bl _)) h1⟩⟩
theorem Stp.cast{p p':Bool}{H H':Hp}{δ δ':Zi}{fp fp':Fp}(h:p'=true->p=true)(S:Stp p H δ fp H' δ' fp'):Stp p' H δ fp H' δ' fp' :=
 ⟨λb o e q=>S.keep b o e (q.imp h id),λq=>S.env (h q),S.grow,S.al⟩
theorem RE.cast{C:MC G}{H H1:Hp}{σ:St}{δ δ1:Zi}{fp fp1:Fp}{ex:Addr->Prop}{v:V}{r:OT}{new:List Addr}(hp:p'=true->p=true)(hc:c'=true->c=true)(R:RE C io p c H σ δ fp ex H1 v r δ1 fp1 new) :
  RE C io p' c' H σ δ fp ex H1 v r δ1 fp1 new:=⟨R.rel,R.stp.cast hp,R.own.wide λa l _ z=>l (hc z),R.nd,R.fresh⟩
theorem Yec{t:Expr}(ht:MT X io p t ta)(ha:ME X io p' c a ma)(hb:ME X io p'' c' b mb):ME X io (p&&(p'&&p'')) (c&&c') (.IfExp t a b pos) (mIf ta ma mb):=by
 obtain⟨_,T,st⟩:=ht
 obtain⟨_,A,sa⟩:=ha
 obtain⟨_,B,sb⟩:=hb
 exact⟨_,Zwh T A B,λC H σ δ fp ex K Q R h k=>st C H σ δ fp ex _ _ R h λH' b δ' fp' R' S h'=>by
  cases b with
  | true=>
   rw[if_pos rfl]at h'⊢
   exact sa C H' σ δ' fp' ex _ _ R' h' λH2 w r2 δ2 fp2 new2 R2 h2=>k H2 w r2 δ2 fp2 new2 ((R2.step S).cast (λz=>by simp at z;simp[z]) (λz=>by simp at z;exact z.1)) h2
  | false=>
   rw[if_neg XF]at h'⊢
   exact sb C H' σ δ' fp' ex _ _ R' h' λH2 w r2 δ2 fp2 new2 R2 h2=>k H2 w r2 δ2 fp2 new2 ((R2.step S).cast (λz=>by simp at z;simp[z]) (λz=>by simp at z;exact z.2)) h2⟩
end
section
variable {X:Cx}{io:List Nat}{p p' p'' c c':Bool}{e a b:Expr}{m ma mb:MEt}{es rest:List Expr}{mr:MAt}{pos:Pos}
noncomputable def Yb5:MAt:=λδ K=>K [] δ
noncomputable def Z53(m:MEt)(mr:MAt):MAt:=λδ K=>m δ λr δ1=>mr δ1 λrs δ2=>K (r :: rs) δ2
theorem Z30:MA X io true true [] Yb5:=⟨_,Zod,λC H σ δ fp ex K Q R h k=>k H [] [] δ fp [] ⟨R.drop λa z=>Zdr.mp z,.refl _ _ _ _,.nil,.nil,λa m=>nomatch m⟩ h⟩
theorem Zzk(ha:ME X io p c e m)(hr:MA X io p' c' es mr)(hc:p'=true∨c=true)(hs:Xq (e :: es) X.env=(false,eval e X.env) :: Xq es X.env:=by rfl):MA X io (p&&p') (c&&c') (e :: es) (Z53 m mr):=by
 obtain⟨tA,A,sa⟩:=ha
 obtain⟨tB,B,sb⟩:=hr
 refine⟨_,Zja A B hs,λC H σ δ fp ex K Q R h k=>?_⟩
 refine sa C H σ δ fp ex _ _ R h λH1 x u δ1 fp1 new1 r1 h1=>?_
 refine sb C H1 σ δ1 fp1 (exu ex new1) _ _ r1.rel h1 λH2 ys us δ2 fp2 new2 r2 h2=>?_
 have o1:=r1.rel.own_step (ex':=exu (exu ex new1) new2) r2.stp (c:=c) hc (λa z=>z.imp id λz=>r2.fresh a z) (λa m=>.inr m) r1.own
 have eqx:∀a,exu ex (new1 ++ new2) a->exu (exu ex new1) new2 a:=λa z=>by
  rcases z with z|z
  ·exact .inl (.inl z)
  ·rcases Q3.mp z with z|z
   ·exact .inl (.inr z)
   ·exact .inr z
 refine k H2 (x :: ys) (u :: us) δ2 fp2 (new1 ++ new2) ⟨r2.rel.drop eqx,r1.stp.trans r2.stp,.cons (o1.wide λa l _ z=>?_) (r2.own.wide λa l _ z=>?_),?_,?_⟩ h2
 ·have l:=l (by rw[Xo]at z;exact z.1)
  exact⟨l.1,λw=>l.2.1 (eqx a w),l.2.2⟩
 ·have l:=l (by rw[Xo]at z;exact z.2)
  exact⟨l.1,λw=>l.2.1 (eqx a w),l.2.2⟩
 ·refine V0.mpr ⟨r1.nd,r2.nd,λa m b m' z=>?_⟩
  subst z
  obtain⟨xs,e⟩:=r1.own.some a m
  rw[r2.fresh a m']at e
  cases e
 ·intro a m
  rcases Q3.mp m with m|m
  ·exact r1.fresh a m
  ·exact r1.stp.al a (r2.fresh a m)
noncomputable def Ycv(m:MAt):MEt:=λδ K=>m δ λrs δ'=>rs.length≤Xr∧K (.fz (.tuple (OT.datas rs))) δ'
noncomputable def Ycl(m:MAt):MEt:=λδ K=>m δ λrs δ'=>rs.length≤Xr∧K (.nd rs) δ'
theorem Z81{x1}(h:MA X io p c es mr):ME X io p c (.Tuple es x1 pos) (Ycv mr):=by
 obtain⟨tA,A,sa⟩:=h
 refine⟨_,Zxd A,λC H σ δ fp ex K Q R h k=>?_⟩
 refine sa C H σ δ fp ex _ _ R h λH1 vs rs δ1 fp1 new1 r1 h1=>⟨by rw[r1.own.length];exact h1.1,λq hq=>?_⟩
 have s:=Yl hq (.tup vs)
 have R1:=r1.base
 have S:=r1.stp.trans (p':=true) (Stp.same (p:=true) (δ:=δ1) (fp:=fp1) s s.al)
 rw[Bool.and_true]at S
 refine k _ _ _ δ1 fp1 [] (.fz ?_ S (.tup Yn ((r1.das R).same s))) h1.2
 exact(R1.made (new:=[]) s λa m=>nomatch m).drop λa z=>.inl z
theorem Z93(h:MA X io p c es mr):ME X io p c (.List es pos) (Ycl mr):=by
 obtain⟨tA,A,sa⟩:=h
 refine⟨_,Zxu A,λC H σ δ fp ex K Q R h k=>?_⟩
 refine sa C H σ δ fp ex _ _ R h λH1 vs rs δ1 fp1 new1 r1 h1=>⟨by rw[r1.own.length];exact h1.1,λq hq=>?_⟩
 have s:=Yl hq (.lst vs)
 have S:=r1.stp.trans (p':=true) (Stp.same (p:=true) (δ:=δ1) (fp:=fp1) s s.al)
 rw[Bool.and_true]at S
 have hqn:q∉new1:=λm=>by
  obtain⟨xs,e⟩:=r1.own.some q m
  rw[hq]at e;cases e
 have R2:=(r1.rel.made (new:=[q]) s λa m=>by
  rcases Qd.mp m with rfl
  exact⟨hq,by rw[Yn];intro z;cases z⟩)
 have eqx:∀a,exu ex (q :: new1) a->exu (exu ex new1) [q] a:=λa z=>by
  rcases z with z|z
  ·exact .inl (.inl z)
  ·rcases Xu.mp z with z|z
   ·exact .inr (Qd.mpr z)
   ·exact .inl (.inr z)
 refine k _ _ _ δ1 fp1 (q :: new1) ⟨R2.drop eqx,S,.nd Yn ((r1.own.wide λa l w z=>?_).same s),Q0.mpr ⟨hqn,r1.nd⟩,λa m=>?_⟩ h1.2
 ·have l:=l z
  refine⟨l.1,λy=>?_,l.2.2⟩
  rcases eqx a y with y|y
  ·exact l.2.1 y
  ·rcases Qd.mp y with rfl
   exact w hq
 ·rcases Xu.mp m with rfl|m
  ·exact r1.stp.al _ hq
  ·exact r1.fresh a m
end
variable {G:Xb}
noncomputable def spD(G:Xb)(S:List Xa->(OT->Prop)->Prop):Sp:=λvs H Q _=>∃L ds k,Das G H L vs ds∧S ds k∧
 ∀r v H' new,k r->Same H H'->Own G H' (λa=>(L a∨H a=none)∧a∉new) v r new->new.Nodup->(∀a∈new,H a=none)->Q v H'
section
variable {X:Cx}{io:List Nat}{p p' p'' c c':Bool}{e a b:Expr}{m ma mb:MEt}{es rest:List Expr}{mr:MAt}{pos:Pos}
variable {CX:CXT}{k:Nat}{f:Addr}{fd:Xx}{ps:List Str}{E:XK}{x:Str}{pp:Pos}
noncomputable def Zzj(S:List Xa->(OT->Prop)->Prop)(mr:MAt):MEt:=λδ K=>mr δ λrs δ1=>S (OT.datas rs) λr=>K r δ1
theorem Z8d{S}{t:TA}(sa:SA G io p c t mr):SE G io p c (Zyc (spD G S) [] E t) (Zzj S mr):=by
 intro C H σ δ fp ex K Q R h kk
 refine sa C H σ δ fp ex _ _ R h λH1 vs rs δ1 fp1 new1 r1 h1=>?_
 rw[JQ]
 refine⟨_,_,_,r1.das R,h1,λr v H' new kr s o nd hn=>?_⟩
 exact kk H' v r δ1 fp1 new (RE.tree R r1.base r1.stp s hn nd o) kr
theorem Z3q{S}(F:FnOk X.prog X.w X.K X.mg X.base CX k f fd ps (spD X.K S))(hr:Room k X.A)(hg:Gl X x)(hm:X.mg x=some (.ref f))(hk:BZ X.K (.ref f)=true)(hb:Binds X.K fd ps [])(hx:Zmp CX X E)
  (ha:MA X io p c (e :: es) mr) (hdb:(x==("__debug__" : Str))=false:=by decide) (he:Xq (e :: es) X.env=(false,eval e X.env) :: Xq es X.env:=by rfl) (hpl:(BV pos (Xq es X.env)).any (·.1)=false:=by rfl) :
  ME X io p c (.Call (.Name x pp) (e :: es) [] pos) (Zzj S mr):=by
 obtain⟨_,A,sa⟩:=ha
 exact⟨_,Zte F hr hg hm hk hb .nil hx A hdb he hpl,Z8d sa⟩
noncomputable def fpu(fp:Fp)(i:Nat)(as:List Addr):Fp:=λj=>if j=i then as else fp j
theorem Ym{fp:Fp}{i:Nat}{as:List Addr}:fpu fp i as i=as:=if_pos rfl
theorem Ws{fp:Fp}{i j:Nat}{as:List Addr}(h:j≠i):fpu fp i as j=fp j:=if_neg h
theorem Foot.of_u{fp:Fp}{i:Nat}{as:List Addr}{a:Addr}(h:Foot (fpu fp i as) a):a∈as∨∃j,j≠i∧a∈fp j:=by
 obtain⟨j,h⟩:=h
 by_cases e:j=i
 ·subst e;rw[Ym]at h;exact .inl h
 ·rw[Ws e]at h;exact .inr ⟨j,e,h⟩
theorem Rel.change{C:MC G}{H H':Hp}{σ:St}{δ:Zi}{fp:Fp}{ex:Addr->Prop}{i:Nat}{t t':OT}{v:V}{as' new:List Addr}(R:Rel C io H σ δ fp ex)(hi:δ[i]? =some (some t))(hv:σ[i]? =some (some v))
  (keep:∀b o,H b=some o->b∉fp i->H' b=some o) (al:∀b,H' b=none->H b=none) (o:Own G H' (Lf C (fpu fp i as') (exu ex new)) v t' as') (nd:as'.Nodup) (new':∀a∈as',a∈fp i∨H a=none)
  (hn:∀a∈new,H a=none∧H' a≠none∧a∉as') :
  Rel C io H' σ (δ.set i (some t')) (fpu fp i as') (exu ex new)∧Stp false H δ fp H' (δ.set i (some t')) (fpu fp i as'):=by
 have hil:i<δ.length:=(Xk.mp hi).1
 have apart:∀j a,j≠i->a∈fp j->a∉as':=λj a e m z=>by
  rcases new' a z with z|z
  ·exact e (R.dj j i a m z)
  ·exact R.footSome z ⟨j,m⟩
 constructor
 ·refine⟨by rw[Vz];exact R.len,λj t'' e=>?_,λj h=>?_,λj=>?_,λj k a h1 h2=>?_,λj a h z=>?_,λa z w=>z.elim (λz=>R.xa a z (al a w)) (λz=>(hn a z).2.1 w),λb ob e n=>?_,λb z=>R.al b (al b z),λj a h=>?_,R.io⟩
  ·by_cases ej:j=i
   ·subst ej
    rw[QQ hil]at e
    cases e
    exact⟨v,hv,by rw[Ym];exact o⟩
   ·rw[Qw (Vi ej)]at e
    obtain⟨w,e1,o1⟩:=R.own j t'' e
    refine⟨w,e1,?_⟩
    rw[Ws ej]
    refine o1.frame (λa xs l q=>?_) (λa xs q=>keep a _ q λz=>?_) λa m xs q=>keep a _ q λz=>ej (R.dj j i a m z)
    ·have na:a∉fp i:=λz=>l.1 ⟨i,z⟩
     refine⟨⟨λz=>?_,λz=>z.elim l.2.1 λz=>q.some (hn a z).1,l.2.2⟩,?_⟩
     ·rcases z.of_u with z|⟨k,_,z⟩
      ·rcases new' a z with z|z
       ·exact na z
       ·exact q.some z
      ·exact l.1 ⟨k,z⟩
     ·rcases q with q|⟨u,q⟩
      ·exact .inl (keep a _ q na)
      ·exact .inr ⟨u,keep a _ q na⟩
    ·obtain⟨ys,e⟩:=R.foot ⟨i,z⟩
     exact ImO.nm q e
  ·by_cases ej:j=i
   ·subst ej
    exact absurd (QQ hil) (h t')
   ·rw[Ws ej]
    refine R.emp j λt'' z=>h t'' ?_
    rw[Qw (Vi ej)]
    exact z
  ·by_cases ej:j=i
   ·subst ej;rw[Ym];exact nd
   ·rw[Ws ej];exact R.nd j
  ·by_cases ej:j=i
   ·subst ej
    rw[Ym]at h1
    by_cases ek:k=j
    ·exact ek.symm
    ·rw[Ws ek]at h2
     exact absurd h1 (apart k a ek h2)
   ·rw[Ws ej]at h1
    by_cases ek:k=i
    ·subst ek
     rw[Ym]at h2
     exact absurd h2 (apart j a ej h1)
    ·rw[Ws ek]at h2
     exact R.dj j k a h1 h2
  ·by_cases ej:j=i
   ·subst ej
    rw[Ym]at h
    rcases z with z|z
    ·rcases new' a h with w|w
     ·exact R.dx _ a w z
     ·exact R.xa a z w
    ·exact(hn a z).2.2 h
   ·rw[Ws ej]at h
    rcases z with z|z
    ·exact R.dx j a h z
    ·exact R.footSome (hn a z).1 ⟨j,h⟩
  ·refine keep b ob (R.fr b ob e n) λz=>?_
   rcases R.new i b z with w|w
   ·exact n w.2
   ·rw[e]at w;cases w
  ·by_cases ej:j=i
   ·subst ej
    rw[Ym]at h
    rcases new' a h with w|w
    ·exact R.new _ a w
    ·exact .inr (R.al a w)
   ·rw[Ws ej]at h
    exact R.new j a h
 ·refine⟨λb ob e q=>keep b ob e λz=>(q.resolve_left (by decide)) ⟨i,z⟩,λz=>(nomatch z),λa z=>?_,al⟩
  rcases z.of_u with z|⟨j,_,z⟩
  ·exact(new' a z).imp (λw=>⟨i,w⟩) id
  ·exact .inl ⟨j,z⟩
noncomputable def PNs(G:Xb)(r:List V->Hp->VK->Prop)(rp:List Xa->(Xa->Prop)->Prop):Prop:=∀(H:Hp) (L:Addr->Prop) (xs:List V) (ds:List Xa) (k:Xa->Prop) (Q:VK),Das G H L xs ds->rp ds k->(∀v d',ScD v d'->k d'->Q v H)->r xs H Q
noncomputable def PN(G:Xb)(r:List V->Hp->VK->Prop)(rp:List Xa->(OT->Prop)->Prop):Prop:=∀(H:Hp) (L:Addr->Prop) (xs:List V) (ds:List Xa) (k:OT->Prop) (Q:VK),Das G H L xs ds->rp ds k ->
 (∀ H' v o new,Same H H'->Own G H' (λa=>(L a∨H a=none)∧a∉new) v o new->new.Nodup->(∀a∈new,H a=none)->k o->Q v H')->r xs H Q
noncomputable def Z7r(rp:List Xa->(Xa->Prop)->Prop)(mr:MAt):MEt:=λδ K=>mr δ λrs δ1=>rp (OT.datas rs) λd=>K (.fz d) δ1
noncomputable def mBl(rp:List Xa->(OT->Prop)->Prop)(mr:MAt):MEt:=λδ K=>mr δ λrs δ1=>rp (OT.datas rs) λo=>K o δ1
theorem Ycf{r rp}{t:TA}(P:PNs G r rp)(sa:SA G io p c t mr):SE G io p true (tCB r t) (Z7r rp mr):=λC H σ δ fp ex K Q R h kk=>
 sa C H σ δ fp ex _ _ R h λH1 vs rs δ1 fp1 new1 r1 h1=>P H1 _ vs _ _ _ (r1.das R) h1 λv d' sc h2=>kk H1 v _ δ1 fp1 [] (.fz r1.base r1.stp sc.da) h2
theorem sBl{r rp}{t:TA}(P:PN G r rp)(sa:SA G io p c t mr):SE G io p c (tCB r t) (mBl rp mr):=λC H σ δ fp ex K Q R h kk=>
 sa C H σ δ fp ex _ _ R h λH1 vs rs δ1 fp1 new1 r1 h1=>P H1 _ vs _ _ _ (r1.das R) h1 λH' v o new s ow nd hn h2=>kk H' v o δ1 fp1 new (RE.tree R r1.base r1.stp s hn nd ow) h2
variable {id T:String}{r:List V->Hp->VK->Prop}
theorem Zi8{rp}(P:PNs X.K r rp)(hc:Zcd X (.builtin id) r)(hg:Gl X x)(hm:X.mg x=none)(hv:Qm x=some (.builtin id))(ha:MA X io p c (e :: es) mr)(hn:x≠"__name__" :=by decide)(hdb:(x==("__debug__" : Str))=false:=by decide)
  (he:Xq (e :: es) X.env=(false,eval e X.env) :: Xq es X.env:=by rfl) (hpl:(BV pos (Xq es X.env)).any (·.1)=false:=by rfl):ME X io p true (.Call (.Name x pp) (e :: es) [] pos) (Z7r rp mr):=by
 obtain⟨_,A,sa⟩:=ha
 exact⟨_,Zkp hc hg hm hv A hn hdb he hpl,Ycf P sa⟩
theorem Z66{rp}(P:PN X.K r rp)(hc:Zcd X (.builtin id) r)(hg:Gl X x)(hm:X.mg x=none)(hv:Qm x=some (.builtin id))(ha:MA X io p c (e :: es) mr)(hn:x≠"__name__" :=by decide)(hdb:(x==("__debug__" : Str))=false:=by decide)
  (he:Xq (e :: es) X.env=(false,eval e X.env) :: Xq es X.env:=by rfl) (hpl:(BV pos (Xq es X.env)).any (·.1)=false:=by rfl):ME X io p c (.Call (.Name x pp) (e :: es) [] pos) (mBl rp mr):=by
 obtain⟨_,A,sa⟩:=ha
 exact⟨_,Zkp hc hg hm hv A hn hdb he hpl,sBl P sa⟩
theorem Z74{rp}(P:PNs X.K r rp)(hc:Zcd X (.type T) r)(hg:Gl X x)(hm:X.mg x=none)(hv:Qm x=some (.type T))(ha:MA X io p c (e :: es) mr)(hn:x≠"__name__" :=by decide)(hdb:(x==("__debug__" : Str))=false:=by decide)
  (he:Xq (e :: es) X.env=(false,eval e X.env) :: Xq es X.env:=by rfl) (hpl:(BV pos (Xq es X.env)).any (·.1)=false:=by rfl):ME X io p true (.Call (.Name x pp) (e :: es) [] pos) (Z7r rp mr):=by
 obtain⟨_,A,sa⟩:=ha
 exact⟨_,Zmh hc hg hm hv A hn hdb he hpl,Ycf P sa⟩
theorem Z7s{rp}(P:PN X.K r rp)(hc:Zcd X (.type T) r)(hg:Gl X x)(hm:X.mg x=none)(hv:Qm x=some (.type T))(ha:MA X io p c (e :: es) mr)(hn:x≠"__name__" :=by decide)(hdb:(x==("__debug__" : Str))=false:=by decide)
  (he:Xq (e :: es) X.env=(false,eval e X.env) :: Xq es X.env:=by rfl) (hpl:(BV pos (Xq es X.env)).any (·.1)=false:=by rfl):ME X io p c (.Call (.Name x pp) (e :: es) [] pos) (mBl rp mr):=by
 obtain⟨_,A,sa⟩:=ha
 exact⟨_,Zmh hc hg hm hv A hn hdb he hpl,sBl P sa⟩
end
variable {G:Xb}
mutual
noncomputable def Zce:Xa->Bool
 | .none=>true
 | .bool _=>true
 | .int _=>true
 | .str _=>true
 | .tuple ds=>Zm4 ds
 | .list _=>false
 | .dict _=>false
noncomputable def Zm4:List Xa->Bool
 | []=>true
 | d :: ds=>Zce d&&Zm4 ds
end
theorem Da.flat2{H:Hp}{L L':Addr->Prop}:(∀{v:V} {d:Xa},Da G H L v d->Zce d=true->Da G H L' v d)∧∀{v:List V} {d:List Xa},Das G H L v d->Zm4 d=true->Das G H L' v d :=
 Da.both (λ_=>.non) (λb _=>.bl b) (λi _=>.int i) (λx _=>.str x) (λ_ _ _ h=>by rw[Zce]at h;cases h) (λe r h=>.tup e (r (by rw[Zce]at h;exact h))) (λk _=>.scr k) (λc n e _=>.exc c n e) (λk _=>.fn k) (λ_ _ _ _ h=>by rw[dcD,Zce]at h;cases h) (λ_=>.nil)
  (λk r h=>by rw[Zm4,Xo]at h;exact .cons (k h.1) (r h.2))
theorem Da.flat{H:Hp}{L L':Addr->Prop}{v:V}{d:Xa}(h:Da G H L v d)(f:Zce d=true):Da G H L' v d:=Da.flat2.1 h f
set_option genInjectivity false in
structure Zix where
 nx:Zi->Prop
 rt:OT->Zi->Prop
 bk:Zi->Prop:=λ_=>False
 ct:Zi->Prop:=λ_=>False
noncomputable abbrev MSt:=Zix->Zi->Prop
noncomputable abbrev Kp(H:Hp)(fp:Fp)(H':Hp)(fp':Fp):Prop:=Stp false H [] fp H' [] fp'
theorem Stp.kp{p:Bool}{H H':Hp}{δ δ':Zi}{fp fp':Fp}(S:Stp p H δ fp H' δ' fp'):Kp H fp H' fp':=⟨λb o e q=>S.keep b o e (.inr (q.resolve_left (by decide))),λz=>(nomatch z),S.grow,S.al⟩
theorem Kp.trans{H H1 H2:Hp}{fp fp1 fp2:Fp}(a:Kp H fp H1 fp1)(b:Kp H1 fp1 H2 fp2):Kp H fp H2 fp2:=Stp.trans a b
theorem Kp.refl(H:Hp)(fp:Fp):Kp H fp H fp:=Stp.refl _ _ _ _
structure RelEnds(C:MC G)(io:List Nat)(ex:Addr->Prop)(H:Hp)(fp:Fp)(D:Zix)(D':Ends):Prop where
 nx:∀H' σ' δ' fp',Rel C io H' σ' δ' fp' ex->Kp H fp H' fp'->D.nx δ'->D'.nx σ' H'
 bk:∀H' σ' δ' fp',Rel C io H' σ' δ' fp' ex->Kp H fp H' fp'->D.bk δ'->D'.bk σ' H'
 ct:∀H' σ' δ' fp',Rel C io H' σ' δ' fp' ex->Kp H fp H' fp'->D.ct δ'->D'.ct σ' H'
 rt:∀H' σ' v r δ' fp' new,Rel C io H' σ' δ' fp' (exu ex new)->Own G H' (Lf C fp' (exu ex new)) v r new->new.Nodup->(∀a∈new,C.H₀ a=none)->D.rt r δ'->D'.rt v H'
theorem RelEnds.shift{C:MC G}{io:List Nat}{ex:Addr->Prop}{H H1:Hp}{fp fp1:Fp}{D:Zix}{D':Ends}(E:RelEnds C io ex H fp D D')(k:Kp H fp H1 fp1):RelEnds C io ex H1 fp1 D D' :=
 ⟨λH' σ' δ' fp' R q=>E.nx H' σ' δ' fp' R (k.trans q),λH' σ' δ' fp' R q=>E.bk H' σ' δ' fp' R (k.trans q),λH' σ' δ' fp' R q=>E.ct H' σ' δ' fp' R (k.trans q),E.rt⟩
noncomputable def SS(G:Xb)(io:List Nat)(t:TS)(m:MSt):Prop:=∀(C:MC G) (H:Hp) (σ:St) (δ:Zi) (fp:Fp) (ex:Addr->Prop) (D:Zix) (D':Ends),Rel C io H σ δ fp ex->m D δ->RelEnds C io ex H fp D D'->t D' σ H
noncomputable def MS(X:Cx)(io:List Nat)(st:Stmt)(m:MSt):Prop:=∃t,PS X st t∧SS X.K io t m
noncomputable def MSs(X:Cx)(io:List Nat)(st:List Stmt)(m:MSt):Prop:=∃t,PSs X st t∧SS X.K io t m
section
variable {X:Cx}{io:List Nat}{p p' p'' c c':Bool}{e a b:Expr}{m ma mb:MEt}{es rest:List Expr}{mr:MAt}{pos:Pos}{st:Stmt}{sts:List Stmt}{u w:MSt}{mt:MTt}
noncomputable def Z5k:MSt:=λD δ=>D.nx δ
noncomputable def Hold(w:MSt)(D:Zix)(δ:Zi):Prop:=w D δ
theorem Hold.go{w:MSt}{D:Zix}{δ:Zi}(h:w D δ):Hold w D δ:=h
noncomputable def Yaz(u w:MSt):MSt:=λD δ=>u { D with nx:=Hold w D } δ
theorem Zyz:MSs X io [] Z5k:=⟨_,Z0b,λC H σ δ fp ex D D' R h E=>E.nx H σ δ fp R (.refl _ _) h⟩
theorem Zh(h:MS X io st u):MSs X io [st] u:=by
 obtain⟨_,A,s⟩:=h
 exact⟨_,Zzz A,s⟩
theorem Zuv(h:MS X io st u)(g:MSs X io sts w):MSs X io (st :: sts) (Yaz u w):=by
 obtain⟨_,A,s⟩:=h
 obtain⟨tb,B,s'⟩:=g
 exact⟨_,Zww A B,λC H σ δ fp ex D D' R h E=>s C H σ δ fp ex _ _ R h ⟨λH1 σ1 δ1 fp1 R1 k1 h1=>s' C H1 σ1 δ1 fp1 ex D D' R1 h1 (E.shift k1),E.bk,E.ct,E.rt⟩⟩
noncomputable def Z4z:MSt:=λ_ _=>False
theorem Zuu:MS X io st Z4z:=⟨_,Zwo,λC H σ δ fp ex D D' R h E=>h.elim⟩
noncomputable def Ycu(m:MEt):MSt:=λD δ=>m δ λr δ'=>D.rt r δ'
theorem Z6o(he:ME X io p true e m):MS X io (.Return (some e) pos) (Ycu m):=by
 obtain⟨_,A,s⟩:=he
 exact⟨_,Zxm A,λC H σ δ fp ex D D' R h E=>s C H σ δ fp ex _ _ R h λH' v r δ' fp' new r1 h1=>E.rt H' σ v r δ' fp' new r1.rel (r1.own.wide λa l _=>l rfl) r1.nd (λa m=>(R.newOk (r1.fresh a m)).2.2) h1⟩
noncomputable def Zwy(i:Nat):MSt:=λD δ=>match δ[i]? with|some (some t)=>D.rt t (δ.set i none)|_=>False
theorem Rel.take{C:MC G}{H:Hp}{σ:St}{δ:Zi}{fp:Fp}{ex:Addr->Prop}{i:Nat}{t:OT}(R:Rel C io H σ δ fp ex)(hi:δ[i]? =some (some t)):Rel C io H σ (δ.set i none) (fpu fp i []) (exu ex (fp i)):=by
 have hil:i<δ.length:=(Xk.mp hi).1
 have get:∀j (t':OT),(δ.set i none)[j]? =some (some t')->j≠i∧δ[j]? =some (some t'):=λj t' e=>by
  by_cases ej:j=i
  ·subst ej;rw[QQ hil]at e;cases e
  ·rw[Qw (Vi ej)]at e;exact⟨ej,e⟩
 have sub:∀j a,a∈fpu fp i [] j->j≠i∧a∈fp j:=λj a m=>by
  by_cases ej:j=i
  ·subst ej;rw[Ym]at m;exact nomatch m
  ·rw[Ws ej]at m;exact⟨ej,m⟩
 have lw:∀a,Lf C fp ex a->Lf C (fpu fp i []) (exu ex (fp i)) a:=λa l=>⟨λ⟨j,z⟩=>l.1 ⟨j,(sub j a z).2⟩,λz=>z.elim l.2.1 λz=>l.1 ⟨i,z⟩,l.2.2⟩
 refine⟨by rw[Vz];exact R.len,λj t' e=>?_,λj h=>?_,λj=>?_,λj k a h1 h2=>R.dj j k a (sub j a h1).2 (sub k a h2).2,λj a h z=>?_,λa z w=>?_,R.fr,R.al,λj a h=>R.new j a (sub j a h).2,R.io⟩
 ·obtain⟨ej,e⟩:=get j t' e
  obtain⟨w,e1,o⟩:=R.own j t' e
  exact⟨w,e1,by rw[Ws ej];exact o.wide λa l _=>lw a l⟩
 ·by_cases ej:j=i
  ·subst ej;rw[Ym]
  ·rw[Ws ej]
   exact R.emp j λt' z=>h t' (by rw[Qw (Vi ej)];exact z)
 ·by_cases ej:j=i
  ·subst ej;rw[Ym];exact .nil
  ·rw[Ws ej];exact R.nd j
 ·obtain⟨ej,h⟩:=sub j a h
  rcases z with z|z
  ·exact R.dx j a h z
  ·exact ej (R.dj j i a h z)
 ·rcases z with z|z
  ·exact R.xa a z w
  ·exact R.footSome w ⟨i,z⟩
theorem Zio(i:Nat){x:Str}{px:Pos}(hio:i∉io:=by decide)(hN:X.N[i]? =some x:=by rfl)(hv:Vis X.env.scope x:=by first|exact QS rfl|exact QG (QS rfl)|exact QG (QG rfl))(hd:(x==("__debug__" : Str))=false:=by decide)
  (hcd:(x==("__classdict__" : Str))=false:=by decide):MS X io (.Return (some (.Name x px)) pos) (Zwy i):=by
 refine⟨_,Zxm (pv i hN hv hd hcd),λC H σ δ fp ex D D' R h E=>?_⟩
 unfold Zwy at h
 split at h
 case h_2=>exact h.elim
 rename_i t hi
 obtain⟨v,e,o⟩:=R.own i t hi
 have lw:∀a,Lf C fp ex a->H a≠none->Lf C (fpu fp i []) (exu ex (fp i)) a:=λa l _=>⟨λz=>by
  rcases z.of_u with z|⟨j,_,z⟩
  ·exact nomatch z
  ·exact l.1 ⟨j,z⟩,λz=>z.elim l.2.1 λz=>l.1 ⟨i,z⟩,l.2.2⟩
 have hn:∀a∈fp i,C.H₀ a=none:=λa m=>by
  rcases R.new i a m with z|z
  ·exact absurd z.1 hio
  ·exact z
 exact⟨v,e,E.rt H σ v t _ _ (fp i) (R.take hi) (o.wide lw) (R.nd i) hn h⟩
noncomputable def Yc2(t:MTt)(u w:MSt):MSt:=λD δ=>t δ λb δ'=>if b=true then u D δ' else w D δ'
theorem Z8b{cnd:Expr}{ss ss':List Stmt}(hc:MT X io p cnd mt)(ha:MSs X io ss u)(hb:MSs X io ss' w):MS X io (.If cnd ss ss' pos) (Yc2 mt u w):=by
 obtain⟨_,T,s⟩:=hc
 obtain⟨_,A,sa⟩:=ha
 obtain⟨_,B,sb⟩:=hb
 exact⟨_,Z8f T A B,λC H σ δ fp ex D D' R h E=>s C H σ δ fp ex _ _ R h λH' b δ' fp' R' S h'=>by
  cases b with
  | true=>
   rw[if_pos rfl]at h'⊢
   exact sa C H' σ δ' fp' ex D D' R' h' (E.shift S.kp)
  | false=>
   rw[if_neg XF]at h'⊢
   exact sb C H' σ δ' fp' ex D D' R' h' (E.shift S.kp)⟩
theorem Rel.put{C:MC G}{H:Hp}{σ:St}{δ:Zi}{fp:Fp}{ex:Addr->Prop}{i:Nat}{v:V}{r:OT}{new:List Addr}(R:Rel C io H σ δ fp (exu ex new))(hio:i∉io)(o:Own G H (Lf C fp (exu ex new)) v r new)(nd:new.Nodup)
  (hn:∀a∈new,C.H₀ a=none∧¬ex a):∃fp',Rel C io H (σ.set i (some v)) (δ.set i (some r)) fp' ex∧∀a,Foot fp' a->Foot fp a∨a∈new:=by
 by_cases hil:i<δ.length
 case neg=>
  refine⟨fp,?_,λa h=>.inl h⟩
  have hl:=R.len
  rw[List.set_eq_of_length_le (show δ.length≤i by omega),List.set_eq_of_length_le (show σ.length≤i by omega)]
  exact R.drop λa z=>.inl z
 have hsl:i<σ.length:=by rw[R.len];exact hil
 have sub:∀a,Foot (fpu fp i new) a->Foot fp a∨a∈new:=λa z=>by
  rcases z.of_u with z|⟨j,_,z⟩
  ·exact .inr z
  ·exact .inl ⟨j,z⟩
 have lw:∀a,Lf C fp (exu ex new) a->Lf C (fpu fp i new) ex a:=λa l=>⟨λz=>(sub a z).elim l.1 λz=>l.2.1 (.inr z),λz=>l.2.1 (.inl z),l.2.2⟩
 refine⟨fpu fp i new,⟨by rw[Vz,Vz];exact R.len,λj t' e=>?_,λj h=>?_,λj=>?_,λj k a h1 h2=>?_,λj a h z=>?_,λa z=>R.xa a (.inl z),R.fr,R.al,λj a h=>?_,λj hj=>?_⟩,sub⟩
 ·by_cases ej:j=i
  ·subst ej
   rw[QQ hil]at e
   cases e
   exact⟨v,QQ hsl,by rw[Ym];exact o.wide λa l _=>lw a l⟩
  ·rw[Qw (Vi ej)]at e
   obtain⟨w,e1,o1⟩:=R.own j t' e
   exact⟨w,by rw[Qw (Vi ej)];exact e1,by rw[Ws ej];exact o1.wide λa l _=>lw a l⟩
 ·by_cases ej:j=i
  ·subst ej;exact absurd (QQ hil) (h r)
  ·rw[Ws ej]
   exact R.emp j λt' z=>h t' (by rw[Qw (Vi ej)];exact z)
 ·by_cases ej:j=i
  ·subst ej;rw[Ym];exact nd
  ·rw[Ws ej];exact R.nd j
 ·by_cases ej:j=i
  ·subst ej
   rw[Ym]at h1
   by_cases ek:k=j
   ·exact ek.symm
   ·rw[Ws ek]at h2
    exact absurd (.inr h1) (R.dx k a h2)
  ·rw[Ws ej]at h1
   by_cases ek:k=i
   ·subst ek
    rw[Ym]at h2
    exact absurd (.inr h2) (R.dx j a h1)
   ·rw[Ws ek]at h2
    exact R.dj j k a h1 h2
 ·by_cases ej:j=i
  ·subst ej
   rw[Ym]at h
   exact(hn a h).2 z
  ·rw[Ws ej]at h
   exact R.dx j a h (.inl z)
 ·by_cases ej:j=i
  ·subst ej
   rw[Ym]at h
   exact .inr (hn a h).1
  ·rw[Ws ej]at h
   exact R.new j a h
 ·have ej:j≠i:=λz=>hio (z▸hj)
  rw[Qw (Vi ej)]
  exact R.io j hj
theorem RE.put{C:MC G}{H H':Hp}{σ:St}{δ δ':Zi}{fp fp':Fp}{ex:Addr->Prop}{i:Nat}{v:V}{r:OT}{new:List Addr}(R:RE C io p true H σ δ fp ex H' v r δ' fp' new)(R0:Rel C io H σ δ fp ex)(hio:i∉io) :
  ∃fp2,Rel C io H' (σ.set i (some v)) (δ'.set i (some r)) fp2 ex∧Kp H fp H' fp2:=by
 obtain⟨fp2,R2,g⟩:=R.rel.put hio (R.own.wide λa l _=>l rfl) R.nd λa m=>⟨(R0.newOk (R.fresh a m)).2.2,(R0.newOk (R.fresh a m)).2.1⟩
 refine⟨fp2,R2,λb o e q=>R.stp.keep b o e (.inr (q.resolve_left (by decide))),λz=>(nomatch z),λa z=>?_,R.stp.al⟩
 rcases g a z with z|z
 ·exact R.stp.grow a z
 ·exact .inr (R.fresh a z)
theorem RE.fzc{C:MC G}{H H':Hp}{σ:St}{δ δ':Zi}{fp fp':Fp}{ex:Addr->Prop}{v:V}{r:OT}{new:List Addr}(R:RE C io p c H σ δ fp ex H' v r δ' fp' new)(R0:Rel C io H σ δ fp ex) :
  RE C io p c H σ δ fp ex H' v (.fz r.data) δ' fp' []:=.fz R.base R.stp (R.da R0)
theorem RE.fzs{C:MC G}{H H':Hp}{σ:St}{δ δ':Zi}{fp fp':Fp}{ex:Addr->Prop}{v:V}{r:OT}{new:List Addr}(R:RE C io p c H σ δ fp ex H' v r δ' fp' new)(R0:Rel C io H σ δ fp ex)(h:Zce r.data=true) :
  RE C io p true H σ δ fp ex H' v (.fz r.data) δ' fp' []:=.fz R.base R.stp ((R.da R0).flat h)
noncomputable def Z1r(i:Nat)(m:MEt):MSt:=λD δ=>m δ λr δ'=>D.nx (δ'.set i (some (.fz r.data)))
noncomputable def Zqg(i:Nat)(m:MEt):MSt:=λD δ=>m δ λr δ'=>D.nx (δ'.set i (some r))
section
variable {i:Nat}{x:Str}{px:Pos}
theorem Yck{t:TE}(s:SE G io p true t m)(hio:i∉io):SS G io (Z5e t (Ztq i)) (Z1r i m):=λC H σ δ fp ex D D' R h E=>s C H σ δ fp ex _ _ R h λH' v r δ' fp' new r1 h1=>by
 obtain⟨fp2,R2,k2⟩:=(r1.fzc R).put R hio
 exact E.nx H' _ _ fp2 R2 k2 h1
theorem Z5j{t:TE}(s:SE G io p true t m)(hio:i∉io):SS G io (Z5e t (Ztq i)) (Zqg i m):=λC H σ δ fp ex D D' R h E=>s C H σ δ fp ex _ _ R h λH' v r δ' fp' new r1 h1=>by
 obtain⟨fp2,R2,k2⟩:=r1.put R hio
 exact E.nx H' _ _ fp2 R2 k2 h1
theorem Zq5(hN:X.N.Nodup)(hi:X.N[i]? =some x)(hx:Loc X.env.scope x)(he:ME X io p true e m)(hio:i∉io:=by decide)(hs:Uo e (some (.Name x px)) pos.line X.env=pure false:=by rfl)(hf:X.fn x=true∨X.env.scope.names.lookup x=some .local:=by first|exact .inl rfl|exact .inr rfl|assumption) :
  MS X io (.Assign [.Name x px] e pos) (Z1r i m):=by
 obtain⟨_,A,s⟩:=he
 exact⟨_,Zw1 hN hi hx A hs hf,Yck s hio⟩
theorem Zsx(hN:X.N.Nodup)(hi:X.N[i]? =some x)(hx:Loc X.env.scope x)(he:ME X io p true e m)(hio:i∉io:=by decide)(hs:Uo e (some (.Name x px)) pos.line X.env=pure false:=by rfl)(hf:X.fn x=true∨X.env.scope.names.lookup x=some .local:=by first|exact .inl rfl|exact .inr rfl|assumption) :
  MS X io (.Assign [.Name x px] e pos) (Zqg i m):=by
 obtain⟨_,A,s⟩:=he
 exact⟨_,Zw1 hN hi hx A hs hf,Z5j s hio⟩
end
noncomputable def Zw7(t:MTt)(u:MSt):MSt:=λD δ=>∃W:Nat->Zi->Prop,(∃n,W n δ)∧∀n δ,W n δ->t δ λb δ'=>if b=true then∃N:Zi->Prop,(∀δ',N δ'->∃n',n'<n∧W n' δ')∧u { D with nx:=N,ct:=N,bk:=D.nx } δ' else D.nx δ'
theorem Zo9{cnd:Expr}{ss:List Stmt}(hp:PassesOwn (X7 X.prog X.w) X.A X.env X.xe)(hc:MT X io p cnd mt)(ha:MSs X io ss u):MS X io (.While cnd ss [] pos) (Zw7 mt u):=by
 obtain⟨_,T,s⟩:=hc
 obtain⟨_,A,sa⟩:=ha
 refine⟨_,Zwx hp T A,λC H σ δ fp ex D D' R h E=>?_⟩
 obtain⟨W,⟨n0,w0⟩,turn⟩:=h
 refine⟨λn σ' H'=>∃δ' fp',Rel C io H' σ' δ' fp' ex∧Kp H fp H' fp'∧W n δ',⟨n0,δ,fp,R,.refl _ _,w0⟩,?_⟩
 rintro n σ1 H1 ⟨δ1,fp1,R1,k1,w1⟩
 refine s C H1 σ1 δ1 fp1 ex _ _ R1 (turn n δ1 w1) λH2 b δ2 fp2 R2 S2 h2=>?_
 have k2:=k1.trans S2.kp
 cases b with
 | true=>
  rw[if_pos rfl]at h2⊢
  obtain⟨N,hN,h2⟩:=h2
  refine⟨λσ' H'=>∃δ' fp',Rel C io H' σ' δ' fp' ex∧Kp H fp H' fp'∧N δ',λσ' H' ⟨δ',fp',R',k',n'⟩=>?_,?_⟩
  ·obtain⟨n1,hn1,w1⟩:=hN δ' n'
   exact⟨n1,hn1,δ',fp',R',k',w1⟩
  ·refine sa C H2 σ1 δ2 fp2 ex _ _ R2 h2 ⟨λH' σ' δ' fp' R' k' n'=>⟨δ',fp',R',k2.trans k',n'⟩,λH' σ' δ' fp' R' k' n'=>E.nx H' σ' δ' fp' R' (k2.trans k') n',λH' σ' δ' fp' R' k' n'=>⟨δ',fp',R',k2.trans k',n'⟩,E.rt⟩
 | false=>
  rw[if_neg XF]at h2⊢
  exact E.nx H2 σ1 δ2 fp2 R2 k2 h2
end
variable {G:Xb}
noncomputable def Zth(N:List Str)(ds:List Xa):Zi:=ds.map (λd=>some (.fz d)) ++ Xy (N.length-ds.length) none
section
variable {H:Hp}{L:Addr->Prop}{vs:List V}{ds:List Xa}{N:List Str}
theorem Zr5{i:Nat}{t:OT}{n:Nat}(h:(ds.map (λd=>some (.fz d)) ++ Xy n none:Zi)[i]? =some (some t)):∃d,ds[i]? =some d∧t= .fz d:=by
 rw[List.getElem?_append]at h
 split at h
 ·rw[Xm]at h
  cases e:ds[i]? with
  | none=>rw[e]at h;cases h
  | some d=>rw[e]at h;cases h;exact⟨d,rfl,rfl⟩
 ·rw[VJ]at h
  split at h
  ·cases h
  ·cases h
theorem Rel.entry(h:Das G H L vs ds):Rel (G:=G) ⟨H,λ_=>False,L,start N vs⟩ [] H (start N vs) (Zth N ds) (λ_=>[]) (λ_=>False):=by
 refine⟨?_,λi t e=>?_,λ_ _=>rfl,λ_=>.nil,λi j a m=>(nomatch m),λi a m=>(nomatch m),λa z=>z.elim,λb o e _=>e,λb e=>e,λi a m=>(nomatch m),λi m=>nomatch m⟩
 ·unfold start Zth
  simp[h.length]
 ·obtain⟨d,e',rfl⟩:=Zr5 e
  obtain⟨x,e1,q⟩:=h.get e'
  refine⟨x,?_,.fz (q.wide λa l _=>⟨λ⟨j,z⟩=>(nomatch z),λz=>z,.inl l⟩)⟩
  unfold L2.start
  rw[BR (by rw[Xg];exact(Xk.mp e1).1),Xm,e1]
  rfl
variable {P:XH}{w:Qo}{K:Xb}{mg:Str->Option Xc}{base:Heap}
noncomputable def Zr0(k:OT->Prop):Zix:={ nx:=λ_=>k (.fz .none),rt:=λr _=>k r }
theorem Fun.okD{x qual:Str}{st:Stmt}{f:Addr}{fd:Xx}{N ps:List Str}{n:Nat}{S:List Xa->(OT->Prop)->Prop}(F:Fun K x qual st f fd)(Sc:Zv N ps (Zn st))(len:∀ds k,S ds k->ds.length=ps.length)
  (hbody:∀(cdv:Xc) (A:Qk) (outer:List Env) (s:Xd) (H:Hp) (E:XK),Room n (A.deeper (envOfC qual (Zn st) s.heap.objs.size f cdv)) ->
   ∃m,MSs (Zuc CX0 P w K mg base N qual (Zn st) f cdv A outer s H E).nox [] (Zbb st) m∧∀ds k,S ds k->m (Zr0 k) (Zth N ds)):FnOk P w K mg base CX0 (n+1) f fd ps (spD K S):=by
 refine F.ok Sc (λvs H Q E h=>?_) (λcdv A outer s H vs Q E hr h=>?_)
 ·obtain⟨L,ds,k,h1,h2,_⟩:=h
  rw[h1.length]
  exact len ds k h2
 ·obtain⟨L,ds,k,h1,h2,h3⟩:=h
  obtain⟨m,⟨t,A1,s1⟩,q⟩:=hbody cdv A outer s H E hr
  refine⟨t,A1,s1 ⟨H,λ_=>False,L,start N vs⟩ H _ _ _ _ (Zr0 k) _ (Rel.entry h1) (q ds k h2) ⟨λH' σ' δ' fp' R _ hk=>?_,λ_ _ _ _ _ _ z=>z.elim,λ_ _ _ _ _ _ z=>z.elim,λH' σ' v r δ' fp' new R o nd hn hk=>?_⟩⟩
  ·exact h3 _ .non H' [] hk (λb o e=>R.fr b o e id) (.fz .non) .nil λa m=>nomatch m
  ·refine h3 r v H' new hk (λb o e=>R.fr b o e id) (o.wide λa l _=>⟨?_,λz=>l.2.1 (.inr z)⟩) nd hn
   exact l.2.2
end
noncomputable abbrev MGt:=Xa->Zi->(Zi->Prop)->Prop
noncomputable abbrev Zue:=List Xa->Zi->(Zi->Prop)->Prop
noncomputable def SG(G:Xb)(io:List Nat)(c:Bool)(t:TG)(g:MGt):Prop:=∀(C:MC G) (H:Hp) (σ:St) (δ:Zi) (fp:Fp) (ex:Addr->Prop) (v:V) (d:Xa) (k:Zi->Prop) (Q:St->Hp->Prop),Rel C io H σ δ fp ex->Da G H (λa=>c=true->Lf C fp ex a) v d->g d δ k ->
 (∀ σ' δ' fp',Rel C io H σ' δ' fp' ex->Kp H fp H fp'->k δ'->Q σ' H)->t v σ H Q
noncomputable def SGs(G:Xb)(io:List Nat)(c:Bool)(t:TGs)(g:Zue):Prop:=∀(C:MC G) (H:Hp) (σ:St) (δ:Zi) (fp:Fp) (ex:Addr->Prop) (v:List V) (d:List Xa) (k:Zi->Prop) (Q:St->Hp->Prop),Rel C io H σ δ fp ex->Das G H (λa=>c=true->Lf C fp ex a) v d->g d δ k ->
 (∀ σ' δ' fp',Rel C io H σ' δ' fp' ex->Kp H fp H fp'->k δ'->Q σ' H)->t v σ H Q
noncomputable def MG(X:Cx)(io:List Nat)(c:Bool)(tg:Expr)(g:MGt):Prop:=∃t,PG X tg t∧SG X.K io c t g
noncomputable def MGs(X:Cx)(io:List Nat)(c:Bool)(tg:List Expr)(g:Zue):Prop:=∃t,PGs X tg t∧SGs X.K io c t g
section
variable {X:Cx}{io:List Nat}{c:Bool}{pos:Pos}{i:Nat}{x:Str}
noncomputable def dName(i:Nat):MGt:=λd δ k=>k (δ.set i (some (.fz d)))
theorem Rel.putD{C:MC G}{H:Hp}{σ:St}{δ:Zi}{fp:Fp}{ex:Addr->Prop}{v:V}{d:Xa}(R:Rel C io H σ δ fp ex)(hio:i∉io)(q:Da G H (Lf C fp ex) v d) :
  ∃fp',Rel C io H (σ.set i (some v)) (δ.set i (some (.fz d))) fp' ex∧Kp H fp H fp':=by
 obtain⟨fp',R',g⟩:=(R.drop λa z=>Zdr.mp z).put (new:=[]) hio (.fz (q.wide λa l _=>⟨l.1,λz=>l.2.1 (Zdr.mp z),l.2.2⟩)) .nil (λa m=>nomatch m)
 exact⟨fp',R',λb o e _=>e,λz=>(nomatch z),λa z=>(g a z).imp id λz=>(nomatch z),λb e=>e⟩
theorem Zx5(hN:X.N.Nodup)(hi:X.N[i]? =some x:=by rfl)(hx:Loc X.env.scope x:=by first|exact QS rfl|exact QG rfl)(hio:i∉io:=by decide)(hf:X.fn x=true∨X.env.scope.names.lookup x=some .local:=by first|exact .inl rfl|exact .inr rfl|assumption):MG X io true (.Name x pos) (dName i) :=
 ⟨_,Zzo hN hi hx hf,λC H σ δ fp ex v d k Q R q h kk=>by
  obtain⟨fp',R',k'⟩:=R.putD hio (q.wide λa l _=>l rfl)
  exact kk _ _ fp' R' k' h⟩
noncomputable def Ybh:Zue:=λds δ k=>ds=[]∧k δ
noncomputable def Z63(g:MGt)(gs:Zue):Zue:=λds δ k=>match ds with|d :: r=>g d δ λδ'=>gs r δ' k|[]=>False
theorem Zzm:MGs X io c [] Ybh:=⟨_,Z0q,λC H σ δ fp ex v d k Q R q h kk=>by
 obtain⟨rfl,h⟩:=h
 cases q
 exact⟨rfl,kk σ δ fp R (.refl _ _) h⟩⟩
theorem Rel.kp_das{C:MC G}{H H':Hp}{σ:St}{δ:Zi}{fp fp':Fp}{ex:Addr->Prop}{vs:List V}{ds:List Xa}(R:Rel C io H σ δ fp ex)(S:Kp H fp H' fp')(h:Das G H (Lf C fp ex) vs ds):Das G H' (Lf C fp' ex) vs ds:=by
 have S':Stp false H δ fp H' δ fp':=⟨S.keep,λz=>(nomatch z),S.grow,S.al⟩
 obtain⟨f1,f2⟩:=R.frameL (c:=true) (ex':=ex) S' (.inr rfl) λa z=>.inl z
 exact h.frame (λa xs l q=>⟨(f1 a xs (λ_=>l) q).1 rfl,(f1 a xs (λ_=>l) q).2⟩) f2
theorem Zpm{e:Expr}{es:List Expr}{g:MGt}{gs:Zue}(h1:MG X io true e g)(h2:MGs X io true es gs)
  (hs:(JF (e :: es) X.env).map (·.2)=Uq e X.env :: (JF es X.env).map (·.2):=by rfl):MGs X io true (e :: es) (Z63 g gs):=by
 obtain⟨_,A,s⟩:=h1
 obtain⟨_,B,s'⟩:=h2
 exact⟨_,Zvz A B hs,λC H σ δ fp ex v d k Q R q h kk=>by
  cases q with
  | nil=>exact h.elim
  | cons q qs=>
   refine⟨_,_,rfl,s C H σ δ fp ex _ _ _ _ R q h λσ1 δ1 fp1 R1 k1 h1=>?_⟩
   exact s' C H σ1 δ1 fp1 ex _ _ _ _ R1 ((R.kp_das k1 (qs.wide λa l _=>l rfl)).wide λa l _ _=>l) h1 λσ2 δ2 fp2 R2 k2 h2=>kk σ2 δ2 fp2 R2 (k1.trans k2) h2⟩
noncomputable def dTup(n:Nat)(gs:Zue):MGt:=λd δ k=>match d with| .tuple ds=>ds.length=n∧gs ds δ k|_=>False
theorem Z38{es:List Expr}{k:Nat}{gs:Zue}{n:Nat}(hc:X.calm=true)(h:MGs X io c es gs)
  (hn:(JF es X.env).length=n:=by rfl) (hst:(JF es X.env).findIdx? (·.1)=none:=by rfl):MG X io c (.Tuple es k pos) (dTup n gs):=by
 obtain⟨_,A,s⟩:=h
 exact⟨_,Z4o hc A hn hst,λC H σ δ fp ex v d k Q R q h kk=>by
  cases q with
  | tup e qs=>exact⟨_,_,rfl,.inl (.inl e),by rw[qs.length];exact h.1,s C H σ δ fp ex _ _ _ _ R qs h.2 kk⟩
  | _=>exact h.elim⟩
noncomputable def Ybg(m:MEt)(g:MGt):MSt:=λD δ=>m δ λr δ'=>g r.data δ' D.nx
theorem Z1z{tg e:Expr}{p:Bool}{m:MEt}{g:MGt}(he:ME X io p c e m)(hg:MG X io c tg g)(hs:swapsWithSole [tg] e pos.line X.env=pure false:=by rfl)(hw:swappedStores [tg] e X.env=pure none:=by rfl)
  (h1:(JF [tg] X.env).map (·.2)=[Uq tg X.env]:=by rfl):MS X io (.Assign [tg] e pos) (Ybg m g):=by
 obtain⟨_,A,s⟩:=he
 obtain⟨_,B,s'⟩:=hg
 exact⟨_,Zw6 A B hs hw h1,λC H σ δ fp ex D D' R h E=>s C H σ δ fp ex _ _ R h λH' v r δ' fp' new r1 h1=>
  s' C H' σ δ' fp' ex v _ _ _ r1.base (r1.da R) h1 λσ2 δ2 fp2 R2 k2 h2=>E.nx H' σ2 δ2 fp2 R2 (r1.stp.kp.trans k2) h2⟩
end
variable {G:Xb}
noncomputable def IterOk(C:MC G)(fp:Fp)(ex:Addr->Prop)(H1:Hp)(c:Bool)(J:It)(ds:List Xa):Prop:=∀H':Hp,(∀b o,H1 b=some o->(c=false∨¬Foot fp b)->H' b=some o)->∀i:Nat,
 (∀ d,ds[i]? =some d->J.go i H'∧∀x H'',J.yld i H' x H''->Same H' H''∧Da G H'' (λa=>c=true->(Lf C fp ex a∧H1 a≠none)) x d)∧(ds[i]? =none->J.stop i H')
noncomputable abbrev MIt:=Zi->(List Xa->Zi->Prop)->Prop
noncomputable def SI(G:Xb)(io:List Nat)(p c:Bool)(t:TI)(m:MIt):Prop:=∀(C:MC G) (H:Hp) (σ:St) (δ:Zi) (fp:Fp) (ex:Addr->Prop) (K:List Xa->Zi->Prop) (Q:It->Hp->Prop),Rel C io H σ δ fp ex->m δ K ->
 (∀ J H1 ds δ1 fp1,Rel C io H1 σ δ1 fp1 ex->Stp p H δ fp H1 δ1 fp1->IterOk C fp1 ex H1 c J ds->K ds δ1->Q J H1)->t σ H Q
noncomputable def MI(X:Cx)(io:List Nat)(p c:Bool)(tg iter:Expr)(m:MIt):Prop:=∃t,PI X tg iter t∧SI X.K io p c t m
section
variable {X:Cx}{io:List Nat}{p c:Bool}{e a b tg:Expr}{m:MEt}{mr:MAt}{K:Xb}
noncomputable def iL(m:MEt):MIt:=λδ K=>m δ λr δ'=>match r.data with| .list ds=>K ds δ'|_=>False
noncomputable def iT(m:MEt):MIt:=λδ K=>m δ λr δ'=>match r.data with| .tuple ds=>K ds δ'|_=>False
theorem Rel.kept{C:MC G}{H H':Hp}{σ:St}{δ:Zi}{fp:Fp}{ex:Addr->Prop}(R:Rel C io H σ δ fp ex)(kp:∀b o,H b=some o->(c=false∨¬Foot fp b)->H' b=some o) :
  (∀ a (xs:MuO),(c=true->Lf C fp ex a)->Rd H a xs.ho->(c=true->(Lf C fp ex a∧H a≠none))∧Rd H' a xs.ho)∧(∀a (xs:ImO),H a=some xs.ho->H' a=some xs.ho):=by
 refine⟨λa xs l q=>⟨λhc=>⟨l hc,q.some⟩,?_⟩,λa xs q=>kp a _ q (.inr λz=>?_)⟩
 ·have hk:c=false∨¬Foot fp a:=by
   cases c with
   | false=>exact .inl rfl
   | true=>exact .inr (l rfl).1
  rcases q with q|⟨o,q⟩
  ·exact .inl (kp a _ q hk)
  ·exact .inr ⟨o,kp a _ q hk⟩
 ·obtain⟨ys,e⟩:=R.foot z
  exact ImO.nm q e
theorem Zyq(h:ME X io p c e m):MI X io p c tg e (iL m):=by
 obtain⟨_,A,s⟩:=h
 exact⟨_,Zv5 rfl A,λC H σ δ fp ex K' Q R h kk=>s C H σ δ fp ex _ _ R h λH1 v r δ1 fp1 new r1 h1=>by
  have q:=r1.da R
  generalize r.data=d at q h1
  cases q with
  | lst l e qs=>
   refine⟨_,rfl,⟨_,.inl e⟩,kk _ H1 _ δ1 fp1 r1.base r1.stp (λH' kp i=>?_) h1⟩
   obtain⟨f1,f2⟩:=r1.base.kept kp
   have e':=(f1 _ (.lst _) l e).2
   have qs':=qs.frame f1 f2
   refine⟨λd hd=>?_,λhd=>?_⟩
   ·obtain⟨x,hx,qx⟩:=qs'.get hd
    refine⟨⟨_,x,.inl e',hx⟩,λy H'' hy=>?_⟩
    obtain⟨rfl,hy⟩:=hy
    have:=hy _ (.inl e')
    rw[hx]at this
    cases this
    exact⟨Same.refl _,qx⟩
   ·exact⟨_,.inl e',by rw[qs'.length];exact Qg.mp hd⟩
  | scr ks=>
   refine⟨_,rfl,⟨_,ks.sq⟩,kk _ H1 _ δ1 fp1 r1.base r1.stp (λH' kp i=>?_) h1⟩
   refine⟨λd hd=>?_,λhd=>?_⟩
   ·obtain⟨x,hx,qx⟩:=(Das.ints (G:=X.K) (H:=H') (L:=λa=>c=true->(Lf C fp1 ex a∧H1 a≠none)) _).get hd
    refine⟨⟨_,x,ks.sq,hx⟩,λy H'' hy=>?_⟩
    obtain⟨rfl,hy⟩:=hy
    have:=hy _ ks.sq
    rw[hx]at this
    cases this
    exact⟨Same.refl _,qx⟩
   ·refine⟨_,ks.sq,?_⟩
    have:=Qg.mp hd
    simpa using this
  | _=>exact h1.elim⟩
theorem Z22(h:ME X io p c e m):MI X io p c tg e (iT m):=by
 obtain⟨_,A,s⟩:=h
 exact⟨_,Z03 rfl A,λC H σ δ fp ex K' Q R h kk=>s C H σ δ fp ex _ _ R h λH1 v r δ1 fp1 new r1 h1=>by
  have q:=r1.da R
  generalize r.data=d at q h1
  cases q with
  | tup e qs=>
   refine⟨_,rfl,⟨_,.inl (.inl e)⟩,kk _ H1 _ δ1 fp1 r1.base r1.stp (λH' kp i=>?_) h1⟩
   obtain⟨f1,f2⟩:=r1.base.kept kp
   have e':=f2 _ (.tup _) e
   have qs':=qs.frame f1 f2
   refine⟨λd hd=>?_,λhd=>?_⟩
   ·obtain⟨x,hx,qx⟩:=qs'.get hd
    refine⟨⟨_,x,.inl (.inl e'),hx⟩,λy H'' hy=>?_⟩
    obtain⟨rfl,hy⟩:=hy
    have:=hy _ (.inl (.inl e'))
    rw[hx]at this
    cases this
    exact⟨Same.refl _,qx⟩
   ·exact⟨_,.inl (.inl e'),by rw[qs'.length];exact Qg.mp hd⟩
  | _=>exact h1.elim⟩
noncomputable def Zje(lo:Int)(n:Nat):List Xa:=(Xn n).map λ(i:Nat)=>Xl (lo+(i:Int))
@[simp] theorem Zah(lo:Int)(n:Nat):(Zje lo n).length=n:=by simp[Zje]
theorem Zbn{lo:Int}{n i:Nat}{d:Xa}(h:(Zje lo n)[i]? =some d):i<n∧d= .int (lo+i):=by
 have hi:i<n:=by
  have:=(Xk.mp h).1
  simpa using this
 unfold Zje at h
 rw[Xm,QW hi]at h
 cases h
 exact⟨hi,rfl⟩
theorem Zom{C:MC G}{fp:Fp}{ex:Addr->Prop}{H1:Hp}{lo:Int}{n:Nat}:IterOk C fp ex H1 true (Itr lo n) (Zje lo n):=λH' _ i=>by
 refine⟨λd hd=>?_,λhd=>?_⟩
 ·obtain⟨hi,rfl⟩:=Zbn hd
  refine⟨hi,λx H'' hy=>?_⟩
  obtain⟨rfl,rfl⟩:=hy
  exact⟨Same.refl _,.int _⟩
 ·have:=Qg.mp hd
  show n≤i
  simpa using this
noncomputable def iR1(mr:MAt):MIt:=λδ K=>mr δ λrs δ'=>match OT.datas rs with|[.int j]=>(-(2^62)≤j∧j<2^62)∧K (Zje 0 j.toNat) δ'|_=>False
noncomputable def iR2(mr:MAt):MIt:=λδ K=>mr δ λrs δ'=>match OT.datas rs with|[.int i,.int j]=>(-(2^62)≤i∧i<2^62∧-(2^62)≤j∧j<2^62)∧K (Zje i (j-i).toNat) δ'|_=>False
theorem Wu{p' pos:Pos}(hg:Gl X "range")(hm:X.mg "range"=none)(ha:MA X io p c [a] mr)(hs:Xq [a] X.env=[(false,eval a X.env)]:=by rfl):MI X io p true tg (.Call (.Name "range" p') [a] [] pos) (iR1 mr):=by
 obtain⟨_,A,s⟩:=ha
 exact⟨_,Ztz hg hm A hs,λC H σ δ fp ex K' Q R h kk=>s C H σ δ fp ex _ _ R h λH1 vs rs δ1 fp1 new r1 h1=>by
  have q:=r1.das R
  generalize OT.datas rs=d at q h1
  split at h1
  case h_2=>exact h1.elim
  cases q with
  | cons q1 q2=>
   cases q1
   cases q2
   exact⟨_,rfl,h1.1.1,h1.1.2,kk _ H1 _ δ1 fp1 r1.base r1.stp Zom h1.2⟩⟩
theorem Zlp{p' pos:Pos}(hg:Gl X "range")(hm:X.mg "range"=none)(ha:MA X io p c [a,b] mr)(hs:Xq [a,b] X.env=[(false,eval a X.env),(false,eval b X.env)]:=by rfl)(hs2:Xq [b] X.env=[(false,eval b X.env)]:=by rfl):MI X io p true tg (.Call (.Name "range" p') [a,b] [] pos) (iR2 mr):=by
 obtain⟨_,A,s⟩:=ha
 exact⟨_,Zsa hg hm A hs hs2,λC H σ δ fp ex K' Q R h kk=>s C H σ δ fp ex _ _ R h λH1 vs rs δ1 fp1 new r1 h1=>by
  have q:=r1.das R
  generalize OT.datas rs=d at q h1
  split at h1
  case h_2=>exact h1.elim
  cases q with
  | cons q1 q2=>
   cases q1
   cases q2 with
   | cons q2 q3=>
    cases q2
    cases q3
    exact⟨_,_,rfl,h1.1,kk _ H1 _ δ1 fp1 r1.base r1.stp Zom h1.2⟩⟩
theorem IterOk.at{C:MC G}{fp fp':Fp}{ex:Addr->Prop}{H1 H' H'':Hp}{J:It}{ds:List Xa}{x:V}{d:Xa}(g:∀a,Foot fp' a->Foot fp a∨H1 a=none)(h:Da G H'' (λa=>true=true->(Lf C fp ex a∧H1 a≠none)) x d):Da G H'' (λa=>true=true->Lf C fp' ex a) x d :=
 h.wide λa l _ z=>⟨λw=>(g a w).elim (l z).1.1 (l z).2,(l z).1.2.1,(l z).1.2.2⟩
noncomputable def Z84(ds:List Xa)(g:MGt)(u:MSt)(D:Zix)(δ1:Zi):Prop:=∃I:Nat->Zi->Prop,I 0 δ1∧(∀(i:Nat) (d:Xa) (δ':Zi),ds[i]? =some d->I i δ'->g d δ' λδ2=>u { D with nx:=I (i+1),ct:=I (i+1),bk:=D.nx } δ2)∧∀δ',I ds.length δ'->D.nx δ'
noncomputable def Ycj(mi:MIt)(g:MGt)(u:MSt):MSt:=λD δ=>mi δ λds δ1=>Z84 ds g u D δ1
theorem Rel.mk0{C:MC G}{H H':Hp}{σ:St}{δ:Zi}{fp:Fp}{ex:Addr->Prop}(R:Rel C io H σ δ fp ex)(s:Same H H'):Rel C io H' σ δ fp ex:=(R.made (new:=[]) s λa m=>nomatch m).drop λa z=>.inl z
theorem Z5t{iter:Expr}{body:List Stmt}{mi:MIt}{g:MGt}{u:MSt}{pos:Pos}(hp:PassesOwn (X7 X.prog X.w) X.A X.env X.xe)(hc:X.calm=true)(hi:MI X io p true tg iter mi)(hg:MG X io true tg g)(hb:MSs X io body u)
  (hs:∀x,Bp iter X.env x=pure x:=by intro _;rfl):MS X io (.For tg iter body [] pos) (Ycj mi g u):=by
 obtain⟨_,A,s⟩:=hi
 obtain⟨_,G,sg⟩:=hg
 obtain⟨_,B,sb⟩:=hb
 refine⟨_,Z4e hp hc A G B hs,λC H σ δ fp ex D D' R h E=>s C H σ δ fp ex _ _ R h λJ H1 ds δ1 fp1 R1 S1 it h1=>?_⟩
 obtain⟨I,h0,turn,fin⟩:=h1
 refine⟨λi n σ' H'=>n=ds.length-i∧i≤ds.length∧∃δ' fp',Rel C io H' σ' δ' fp' ex∧Kp H1 fp1 H' fp'∧I i δ',⟨ds.length,rfl,QV _,δ1,fp1,R1,.refl _ _,h0⟩,?_⟩
 rintro i n σ2 H2 ⟨rfl,hle,δ2,fp2,R2,k2,i2⟩
 have itk:=it H2 (λb o e q=>k2.keep b o e (.inr (q.resolve_left (by decide)))) i
 by_cases hlt:i<ds.length
 ·have hd:ds[i]? =some ds[i]:=Xi hlt
  obtain⟨go,yl⟩:=itk.1 _ hd
  refine .inr ⟨go,λσ' H'=>∃δ' fp',Rel C io H' σ' δ' fp' ex∧Kp H1 fp1 H' fp'∧I (i+1) δ',λσ' H' ⟨δ',fp',R',k',i'⟩=>⟨ds.length-(i+1),by omega,rfl,hlt,δ',fp',R',k',i'⟩,λx H3 hy=>?_⟩
  obtain⟨s3,q3⟩:=yl x H3 hy
  have R3:=R2.mk0 s3
  have k3:Kp H1 fp1 H3 fp2:=k2.trans ⟨λb o e _=>s3 _ _ e,λz=>(nomatch z),λa z=>.inl z,s3.al⟩
  refine sg C H3 σ2 δ2 fp2 ex x _ _ _ R3 (IterOk.at (H':=H2) (J:=J) (ds:=ds) k2.grow q3) (turn i _ δ2 hd i2) λσ4 δ4 fp4 R4 k4 h4=>?_
  have k5:=k3.trans k4
  refine sb C H3 σ4 δ4 fp4 ex _ _ R4 h4 ⟨λH' σ' δ' fp' R' k' n'=>⟨δ',fp',R',k5.trans k',n'⟩,λH' σ' δ' fp' R' k' n'=>E.nx H' σ' δ' fp' R' (S1.kp.trans (k5.trans k')) n',λH' σ' δ' fp' R' k' n'=>⟨δ',fp',R',k5.trans k',n'⟩,E.rt⟩
 ·have e:i=ds.length:=by omega
  subst e
  exact .inl ⟨itk.2 (by simp),E.nx H2 σ2 δ2 fp2 R2 (S1.kp.trans k2) (fin δ2 i2)⟩
end
noncomputable def gM(G:Xb)(io:List Nat)(c:Bool)(g:MGt):TG:=λv σ H Q=>∃(C:MC G) (δ:Zi) (fp:Fp) (ex:Addr->Prop) (d:Xa) (k:Zi->Prop),Rel C io H σ δ fp ex∧Da G H (λa=>c=true->Lf C fp ex a) v d∧g d δ k∧
 ∀σ' δ' fp',Rel C io H σ' δ' fp' ex->Kp H fp H fp'->k δ'->Q σ' H
noncomputable def tM(G:Xb)(io:List Nat)(p c:Bool)(m:MEt):TE:=λσ H Q=>∃(C:MC G) (δ:Zi) (fp:Fp) (ex:Addr->Prop) (K:OT->Zi->Prop),Rel C io H σ δ fp ex∧m δ K∧∀H' v r δ' fp' new,RE C io p c H σ δ fp ex H' v r δ' fp' new->K r δ'->Q v H'
noncomputable def ttM(G:Xb)(io:List Nat)(p:Bool)(m:MTt):TT:=λσ H Q=>∃(C:MC G) (δ:Zi) (fp:Fp) (ex:Addr->Prop) (K:Bool->Zi->Prop),Rel C io H σ δ fp ex∧m δ K∧∀H' b δ' fp',Rel C io H' σ δ' fp' ex->Stp p H δ fp H' δ' fp'->K b δ'->Q b H'
noncomputable def MIfs(X:Cx)(io:List Nat)(p:Bool)(ifs:List Expr)(m:MTt):Prop:=∃t,Z1g X ifs t∧STt X.K io p t m
section
variable {X:Cx}{io:List Nat}{p c:Bool}{e tg:Expr}{m:MEt}{mt:MTt}{g:MGt}{ifs:List Expr}
theorem MG.canon(h:MG X io c tg g):PG X tg (gM X.K io c g):=by
 obtain⟨t,A,s⟩:=h
 rintro pins sh σ H v u Q I r ⟨C,δ,fp,ex,d,k,R,q,h,kk⟩
 exact A pins sh σ H v u Q I r (s C H σ δ fp ex v d k Q R q h kk)
theorem ME.canon(h:ME X io p c e m):PE X e (tM X.K io p c m):=by
 obtain⟨t,A,s⟩:=h
 rintro pins sh σ H Q I ⟨C,δ,fp,ex,K,R,h,kk⟩
 exact A pins sh σ H Q I (s C H σ δ fp ex K Q R h kk)
theorem MIfs.canon(h:MIfs X io p ifs mt):Z1g X ifs (ttM X.K io p mt):=by
 obtain⟨t,A,s⟩:=h
 rintro pins sh σ H Q I ⟨C,δ,fp,ex,K,R,h,kk⟩
 exact A pins sh σ H Q I (s C H σ δ fp ex K Q R h kk)
noncomputable def Z6y:MTt:=λδ K=>K true δ
theorem Wz:MIfs X io true [] Z6y:=⟨_,Zyi,λC H σ δ fp ex K Q R h kk=>kk H true δ fp R (.refl _ _ _ _) h⟩
theorem Zdx{cnd:Expr}(h:MT X io p cnd mt):MIfs X io p [cnd] mt:=by
 obtain⟨_,A,s⟩:=h
 exact⟨_,Zyy A,s⟩
end
variable {G:Xb}
noncomputable def blk(n:Nat)(caps:List Nat)(δ:Zi):Zi:=Xy n none ++ caps.map λi=>(δ[i]?).getD none
noncomputable def J5(n:Nat)(caps:List Nat)(fp:Fp):Fp:=λk=>if k<n then[]else match caps[k-n]? with|some i=>fp i|none=>[]
noncomputable def Zch(n:Nat)(caps:List Nat):List Nat:=(Xn caps.length).map (·+n)
noncomputable def Zxk(C:MC G)(H1:Hp)(fp:Fp)(σ0:St):MC G:=⟨H1,Foot fp,λa=>(C.L a∨C.H₀ a=none)∧¬Foot fp a,σ0⟩
noncomputable def Zhf(ex:Addr->Prop)(D:Addr)(fp fpb:Fp)(a:Addr):Prop:=ex a∨a=D∨(Foot fp a∧¬Foot fpb a)
section
variable {C:MC G}{io:List Nat}{H1 H':Hp}{σ:St}{δ:Zi}{fp:Fp}{ex:Addr->Prop}{own:List Str}{caps:List Nat}{D:Addr}{n:Nat}
theorem Zef{k:Nat}{a:Addr}(h:a∈J5 n caps fp k):∃i,n≤k∧caps[k-n]? =some i∧a∈fp i:=by
 unfold J5 at h
 split at h
 ·exact nomatch h
 ·split at h
  ·rename_i i e
   exact⟨i,by omega,e,h⟩
  ·exact nomatch h
theorem Zwm{j i:Nat}(h:caps[j]? =some i):J5 n caps fp (n+j)=fp i:=by
 unfold J5
 rw[if_neg (by omega),show n+j-n=j by omega,h]
theorem Z2b{k:Nat}{t:OT}(h:(blk n caps δ)[k]? =some (some t)):∃i,n≤k∧caps[k-n]? =some i∧δ[i]? =some (some t):=by
 unfold blk at h
 rw[List.getElem?_append]at h
 split at h
 ·rw[VJ]at h
  split at h<;>cases h
 ·rename_i hk
  rw[Vj]at hk h
  rw[Xm]at h
  cases e:caps[k-n]? with
  | none=>rw[e]at h;cases h
  | some i=>
   rw[e]at h
   refine⟨i,by omega,rfl,?_⟩
   simp only[Qa]at h
   cases e2:δ[i]? with
   | none=>rw[e2]at h;cases h
   | some o=>
    rw[e2]at h
    simpa using h
theorem Rel.block(R:Rel C io H1 σ δ fp ex)(nd:caps.Nodup)(hD:H1 D=none) :
  Rel (Zxk C H1 fp (Zas own caps σ)) (Zch own.length caps) (upd H1 D (.lst [])) (Zas own caps σ) (blk own.length caps δ) (J5 own.length caps fp) (Zhf ex D fp (J5 own.length caps fp)):=by
 have s:=Yl hD (.lst [])
 have sub:∀a,Foot (J5 own.length caps fp) a->Foot fp a:=λa q91=>by
  obtain⟨k,z⟩:=q91
  obtain⟨i,_,_,z⟩:=Zef z
  exact⟨i,z⟩
 have neD:∀a,H1 a≠none->a≠D:=λa h z=>h (z▸hD)
 refine⟨by unfold Zas blk;simp,λk t e=>?_,λk h=>?_,λk=>?_,λk l a h1 h2=>?_,λk a h z=>?_,λa z=>?_,λb o e _=>s _ _ e,λb e=>s.free e,λk a h=>?_,λk _=>rfl⟩
 ·obtain⟨i,hk,e1,e2⟩:=Z2b e
  obtain⟨v,e3,o⟩:=R.own i t e2
  refine⟨v,?_,?_⟩
  ·unfold Zas
   rw[Bx (by simpa using hk),Xg,Xm,e1]
   simp[e3]
  ·have ef:J5 own.length caps fp k=fp i:=by
    have:=Zwm (n:=own.length) (fp:=fp) e1
    rwa[show own.length+(k-own.length)=k by omega]at this
   rw[ef]
   refine(o.wide λa l q=>⟨λz=>l.1 (sub a z),λz=>?_,.inl ⟨l.2.2,l.1⟩⟩).same s
   rcases z with z|z|z
   ·exact l.2.1 z
   ·exact neD a q z
   ·exact l.1 z.1
 ·unfold J5
  split
  ·rfl
  ·split
   ·rename_i i e1
    refine R.emp i λt z=>h t ?_
    unfold blk
    rw[Bx (by rw[Vj];omega),Vj,Xm,e1]
    simp[z]
   ·rfl
 ·unfold J5
  split
  ·exact .nil
  ·split
   ·exact R.nd _
   ·exact .nil
 ·obtain⟨i,hk,e1,m1⟩:=Zef h1
  obtain⟨j,hl,e2,m2⟩:=Zef h2
  have:=R.dj i j a m1 m2
  subst this
  have hlt:=(Xk.mp e1).1
  have:=(List.getElem?_inj hlt nd).mp (e1.trans e2.symm)
  omega
 ·obtain⟨i,hk,e1,m⟩:=Zef h
  rcases z with z|z|z
  ·exact R.dx i a m z
  ·exact R.footSome (z▸hD) ⟨i,m⟩
  ·exact z.2 ⟨k,h⟩
 ·rcases z with z|z|z
  ·intro q;exact R.xa a z (s.free q)
  ·subst z;rw[Yn];intro q;cases q
  ·obtain⟨xs,e⟩:=R.foot z.1
   rw[s _ _ e];intro q;cases q
 ·obtain⟨i,hk,e1,m⟩:=Zef h
  refine .inl ⟨?_,⟨i,m⟩⟩
  have:=(Xk.mp e1).1
  exact Qi.mpr ⟨k-own.length,by simpa using this,by omega⟩
theorem Z4f{σ0:St}{fp':Fp}{ex':Addr->Prop}{a:Addr}(hx:∀a,ex a->ex' a)(l:Lf (Zxk C H1 fp σ0) fp' ex' a):Lf C fp ex a∨H1 a=none:=by
 obtain⟨l1,l2,l3⟩:=l
 rcases l3 with l3|l3
 ·exact .inl ⟨l3.2,λz=>l2 (hx a z),l3.1⟩
 ·exact .inr l3
theorem Rel.poke(R:Rel C io H' σ δ fp ex){xs ys:List V}(hx:ex D)(hD:H' D=some (.lst xs))(h0:C.H₀ D=none):Rel C io (upd H' D (.lst ys)) σ δ fp ex:=by
 have nf:¬Foot fp D:=λ⟨i,z⟩=>R.dx i D z hx
 have kp:∀b o,b≠D->H' b=some o->upd H' D (.lst ys) b=some o:=λb o n e=>by rw[Z6 n];exact e
 refine⟨R.len,λi t e=>?_,R.emp,R.nd,R.dj,R.dx,λa z=>?_,λb o e n=>?_,λb e=>?_,R.new,R.io⟩
 ·obtain⟨v,e1,o⟩:=R.own i t e
  refine⟨v,e1,o.frame (λa zs l q=>⟨l,?_⟩) (λa zs q=>kp a _ (λz=>?_) q) λa m zs q=>kp a _ (λz=>nf ⟨i,z▸m⟩) q⟩
  ·have na:a≠D:=λz=>l.2.1 (z▸hx)
   rcases q with q|⟨u,q⟩
   ·exact .inl (kp a _ na q)
   ·exact .inr ⟨u,kp a _ na q⟩
  ·exact ImO.nl q (z▸hD)
 ·by_cases e:a=D
  ·subst e;rw[Yn];intro q;cases q
  ·rw[Z6 e];exact R.xa a z
 ·refine kp b o (λz=>?_) (R.fr b o e n)
  rw[z,h0]at e;cases e
 ·refine R.al b ?_
  by_cases q:b=D
  ·subst q;rw[Yn]at e;cases e
  ·rwa[Z6 q]at e
theorem Owns.poke{L:Addr->Prop}{xs ys zs:List V}{rs:List OT}{as:List Addr}(o:Owns G H' L zs rs as)(hD:H' D=Bo (HO.lst xs))(hL:¬L D)(hn:D∉as):Owns G (upd H' D (.lst ys)) L zs rs as:=by
 refine o.frame (λa zs l q=>⟨l,?_⟩) (λa zs q=>?_) λa m zs q=>?_
 ·have na:a≠D:=λz=>hL (z▸l)
  rcases q with q|⟨u,q⟩
  ·exact .inl (by rw[Z6 na];exact q)
  ·exact .inr ⟨u,by rw[Z6 na];exact q⟩
 ·rw[Z6 (λz=>ImO.nl q (z▸hD))];exact q
 ·have na:a≠D:=λz=>hn (by rw[←z];exact m)
  rw[Z6 na];exact q
theorem Owns.snoc{L:Addr->Prop}{xs:List V}{rs:List OT}{as bs:List Addr}{x:V}{r:OT}(h:Owns G H' L xs rs as)(k:Own G H' L x r bs):Owns G H' L (xs ++ [x]) (rs ++ [r]) (as ++ bs) :=
 Owns.rec (motive_1:=λ_ _ _ _=>True) (motive_2:=λxs rs as _=>Owns G H' L (xs ++ [x]) (rs ++ [r]) (as ++ bs)) (λ_=>trivial) (λ_ _ _=>trivial) (λ_ _ _=>trivial) (λ_ _ _=>trivial) (by have:=Owns.cons k .nil;rwa[JQ]at this) (λk _ _ ih=>by rw[V3];exact .cons k ih) h
end
structure Zxx(C:MC G)(H1:Hp)(fp1:Fp)(ex:Addr->Prop)(n:Nat)(caps:List Nat)(σ0:St)(D:Addr)(pb:Bool)(H':Hp)(σ':St)(δ':Zi)(fp':Fp)(ys:List V)(rs:List OT)(new:List Addr):Prop where
 keep:∀b o,H1 b=some o->(pb=true∨¬Foot (J5 n caps fp1) b)->H' b=some o
 al:∀b,H' b=none->H1 b=none
 dat:H' D=some (.lst ys)
 rel:Rel (Zxk C H1 fp1 σ0) (Zch n caps) H' σ' δ' fp' (exu (Zhf ex D fp1 (J5 n caps fp1)) new)
 grow:∀a,Foot fp' a->Foot (J5 n caps fp1) a∨H1 a=none
 own:Owns G H' (λa=>true=true->Lf (Zxk C H1 fp1 σ0) fp' (exu (Zhf ex D fp1 (J5 n caps fp1)) new) a) ys rs new
 nd:new.Nodup
 fresh:∀a∈new,H1 a=none∧a≠D
section
variable {io:List Nat}{p c pt pe ci:Bool}{g:MGt}{mt:MTt}{me:MEt}{own:List Str}{caps:List Nat}
theorem Zsq{C:MC G}{H1:Hp}{σ:St}{δ1:Zi}{fp1:Fp}{ex:Addr->Prop}{J:It}{ds:List Xa}{D:Addr}{Qf:Hp->Prop}(I:Nat->List OT->Zi->Prop)(R1:Rel C io H1 σ δ1 fp1 ex)
  (it:∀H':Hp,(∀b o,H1 b=some o->((pt&&pe)=true∨¬Foot (J5 own.length caps fp1) b)->H' b=some o)->∀i:Nat,(∀d,ds[i]? =some d->J.go i H'∧∀x H'',J.yld i H' x H''->Same H' H''∧Da G H'' (λa=>ci=true->(Lf C fp1 ex a∧H1 a≠none)) x d)∧(ds[i]? =none->J.stop i H'))
  (nd:caps.Nodup) (hD:H1 D=none) (hz:ds.length≤Xr) (h0:I 0 [] (blk own.length caps δ1))
  (turn:∀(i:Nat) (d:Xa) (rs:List OT) (δ':Zi),ds[i]? =some d->I i rs δ'->g d δ' λδ2=>mt δ2 λb δ3=>if b=true then me δ3 λr δ4=>I (i+1) (rs ++ [r]) δ4 else I (i+1) rs δ3)
  (fin:∀H' σ' δ' fp' ys rs new,Zxx C H1 fp1 ex own.length caps (Zas own caps σ) D (pt&&pe) H' σ' δ' fp' ys rs new->I ds.length rs δ'->Qf H') :
  Zx1 J (gM G (Zch own.length caps) ci g) (ttM G (Zch own.length caps) pt mt) (tM G (Zch own.length caps) pe true me) (Zas own caps σ) D Qf H1:=by
 have hx:Zhf ex D fp1 (J5 own.length caps fp1) D:=.inr (.inl rfl)
 refine⟨λi n σ' H'=>n=ds.length-i∧i≤ds.length∧∃rs ys new δ' fp',Zxx C H1 fp1 ex own.length caps (Zas own caps σ) D (pt&&pe) H' σ' δ' fp' ys rs new∧ys.length≤i∧I i rs δ',⟨ds.length,rfl,QV _,[],[],[],_,_,⟨λb o e _=>Yl hD _ _ _ e,(Yl hD _).al,Yn,?_,λa z=>.inl z,.nil,.nil,λa m=>(nomatch m)⟩,X6 _,h0⟩,?_⟩
 ·exact(R1.block nd hD).drop λa z=>Zdr.mp z
 rintro i n σ2 H2 ⟨rfl,hle,rs,ys,new,δ2,fp2,B,hl,i2⟩
 have subB:∀b,Foot (J5 own.length caps fp1) b->Foot fp1 b:=λb q92=>by
  obtain⟨k,z⟩:=q92
  obtain⟨i,_,_,z⟩:=Zef z
  exact⟨i,z⟩
 have itk:=it H2 B.keep i
 by_cases hlt:i<ds.length
 case neg=>
  have e:i=ds.length:=by omega
  subst e
  exact .inl ⟨itk.2 (by simp),fin H2 σ2 δ2 fp2 ys rs new B i2⟩
 have hd:ds[i]? =some ds[i]:=Xi hlt
 obtain⟨go,yl⟩:=itk.1 _ hd
 refine .inr ⟨go,λx H3 hy=>?_⟩
 obtain⟨s3,q3⟩:=yl x H3 hy
 have R3:=B.rel.mk0 s3
 have D3:H3 D=some (.lst ys):=s3 _ _ B.dat
 -- the item,clean in the block
 have q3':Da G H3 (λa=>ci=true->Lf (Zxk C H1 fp1 (Zas own caps σ)) fp2 (exu (Zhf ex D fp1 (J5 own.length caps fp1)) new) a) x ds[i]:=by
  refine q3.wide λa l _ z=>?_
  obtain⟨⟨l1,l2,l3⟩,l4⟩:=l z
  refine⟨λw=>?_,λw=>?_,.inl ⟨l3,l1⟩⟩
  ·rcases B.grow a w with w|w
   ·exact l1 (subB a w)
   ·exact l4 w
  ·rcases w with(w|w|w)|w
   ·exact l2 w
   ·subst w;exact l4 hD
   ·exact l1 w.1
   ·exact l4 (B.fresh a w).1
 refine⟨_,δ2,fp2,_,_,_,R3,q3',turn i _ rs δ2 hd i2,λσ4 δ4 fp4 R4 k4 h4=>?_⟩
 refine⟨_,δ4,fp4,_,_,R4,h4,λH5 b δ5 fp5 R5 S5 h5=>?_⟩
 -- the state behind the test
 have keep5:∀b o,H1 b=some o->((pt&&pe)=true∨¬Foot (J5 own.length caps fp1) b)->H5 b=some o:=λb o e q=>by
  refine S5.keep b o (s3 _ _ (B.keep b o e q)) ?_
  rcases q with q|q
  ·rw[Xo]at q;exact .inl q.1
  ·refine .inr λz=>?_
   rcases k4.grow b z with z|z
   ·rcases B.grow b z with z|z
    ·exact q z
    ·rw[e]at z;cases z
   ·rw[s3 _ _ (B.keep b o e (.inr q))]at z;cases z
 have al5:∀b,H5 b=none->H1 b=none:=λb e=>B.al b (s3.al b (S5.al b e))
 have grow4:∀a,Foot fp4 a->Foot (J5 own.length caps fp1) a∨H1 a=none:=λa z=>by
  rcases k4.grow a z with z|z
  ·exact B.grow a z
  ·exact .inr (B.al a (s3.al a z))
 have grow5:∀a,Foot fp5 a->Foot (J5 own.length caps fp1) a∨H1 a=none:=λa z=>by
  rcases S5.grow a z with z|z
  ·exact grow4 a z
  ·exact .inr (B.al a (s3.al a z))
 have D5:H5 D=some (.lst ys):=S5.keep D _ D3 (.inr λ⟨k,z⟩=>R4.dx k D z (.inl hx))
 have own3:=B.own.same s3
 -- the items so far behind the target and the test
 have own4:Owns G H3 (λa=>true=true->Lf (Zxk C H1 fp1 (Zas own caps σ)) fp4 (exu (Zhf ex D fp1 (J5 own.length caps fp1)) new) a) ys rs new:=by
  refine own3.wide λa l q z=>?_
  obtain⟨l1,l2,l3⟩:=l z
  exact⟨λw=>(k4.grow a w).elim l1 q,l2,l3⟩
 have own5:=R4.owns_step (ex':=exu (Zhf ex D fp1 (J5 own.length caps fp1)) new) S5 (c:=true) (.inr rfl) (λa z=>.inl z) (λa m=>.inr m) own4
 dsimp only at h5⊢
 cases b with
 | false=>
  rw[if_neg XF]at h5⊢
  exact⟨ds.length-(i+1),by omega,rfl,hlt,rs,ys,new,δ5,fp5,⟨keep5,al5,D5,R5,grow5,own5,B.nd,B.fresh⟩,by omega,h5⟩
 | true=>
  rw[if_pos rfl]at h5⊢
  refine⟨_,δ5,fp5,_,_,R5,h5,λH6 v r δ6 fp6 nr r6 h6=>?_⟩
  have D6:H6 D=some (.lst ys):=r6.stp.keep D _ D5 (.inr λ⟨k,z⟩=>R5.dx k D z (.inl hx))
  have hDnr:D∉nr:=λz=>by
   have:=r6.fresh D z
   rw[D5]at this;cases this
  have own6:=R5.owns_step (ex':=exu (exu (Zhf ex D fp1 (J5 own.length caps fp1)) new) nr) r6.stp (c:=true) (.inr rfl) (λa z=>z.imp id λz=>r6.fresh a z) (λa m=>.inr m) own5
  have eqx:∀a,exu (Zhf ex D fp1 (J5 own.length caps fp1)) (new ++ nr) a->exu (exu (Zhf ex D fp1 (J5 own.length caps fp1)) new) nr a:=λa z=>by
   rcases z with z|z
   ·exact .inl (.inl z)
   ·rcases Q3.mp z with z|z
    ·exact .inl (.inr z)
    ·exact .inr z
  have lw:∀a,(true=true->Lf (Zxk C H1 fp1 (Zas own caps σ)) fp6 (exu (exu (Zhf ex D fp1 (J5 own.length caps fp1)) new) nr) a)->H6 a≠none->(true=true->Lf (Zxk C H1 fp1 (Zas own caps σ)) fp6 (exu (Zhf ex D fp1 (J5 own.length caps fp1)) (new ++ nr)) a) :=
   λa l _ z=>⟨(l z).1,λw=>(l z).2.1 (eqx a w),(l z).2.2⟩
  have ownA:=(own6.snoc r6.own).wide lw
  refine⟨ys,D6,by omega,ds.length-(i+1),by omega,rfl,hlt,rs ++ [r],ys ++ [v],new ++ nr,δ6,fp6,⟨λb o e q=>?_,λb e=>?_,Yn,?_,λa z=>?_,?_,?_,λa m=>?_⟩,by rw[QJ];show ys.length+1≤i+1;omega,h6⟩
  ·have nD:b≠D:=λz=>by rw[z,hD]at e;cases e
   rw[Z6 nD]
   refine r6.stp.keep b o (keep5 b o e q) ?_
   rcases q with q|q
   ·rw[Xo]at q;exact .inl q.2
   ·refine .inr λz=>?_
    rcases grow5 b z with z|z
    ·exact q z
    ·rw[e]at z;cases z
  ·by_cases q:b=D
   ·subst q;rw[Yn]at e;cases e
   ·rw[Z6 q]at e
    exact al5 b (r6.stp.al b e)
  ·exact(r6.rel.drop eqx).poke (.inl hx) D6 hD
  ·rcases r6.stp.grow a z with z|z
   ·exact grow5 a z
   ·exact .inr (al5 a z)
  ·exact ownA.poke D6 (λz=>(z rfl).2.1 (.inl hx)) (λm=>by
    rcases Q3.mp m with m|m
    ·exact(B.fresh D m).2 rfl
    ·exact hDnr m)
  ·refine V0.mpr ⟨B.nd,r6.nd,λa m b m' z=>?_⟩
   subst z
   obtain⟨xs,e⟩:=own5.some a m
   rw[r6.fresh a m']at e;cases e
  ·rcases Q3.mp m with m|m
   ·exact B.fresh a m
   ·exact⟨al5 a (r6.fresh a m),λz=>hDnr (z▸m)⟩
end
variable {G:Xb}
section
variable {X:Cx}{io:List Nat}{p p' c pt pe ci:Bool}{g:MGt}{mt:MTt}{me m:MEt}{mi:MIt}{own:List Str}{caps:List Nat}{e:Expr}
noncomputable def Z26(m:MEt):MEt:=λδ K=>m δ λr δ'=>Zce r.data=true∧K (.fz r.data) δ'
theorem Zpc(h:ME X io p c e m):ME X io p true e (Z26 m):=by
 obtain⟨_,A,s⟩:=h
 exact⟨_,A,λC H σ δ fp ex K Q R h k=>s C H σ δ fp ex _ _ R h λH' v r δ' fp' new r1 h1=>k H' v _ δ' fp' [] (r1.fzs R h1.1) h1.2⟩
noncomputable def Ybu(m:MEt):MEt:=λδ K=>m δ λr δ'=>K (.fz r.data) δ'
theorem Z73(h:ME X io p c e m):ME X io p c e (Ybu m):=by
 obtain⟨_,A,s⟩:=h
 exact⟨_,A,λC H σ δ fp ex K Q R h k=>s C H σ δ fp ex _ _ R h λH' v r δ' fp' new r1 h1=>k H' v _ δ' fp' [] (r1.fzc R) h1⟩
noncomputable def Z3b(n:Nat)(caps:List Nat)(ds:List Xa)(g:MGt)(mt:MTt)(me:MEt)(δ1:Zi)(K:OT->Zi->Prop):Prop:=ds.length≤Xr∧∃I:Nat->List OT->Zi->Prop,I 0 [] (blk n caps δ1)∧
 (∀ (i:Nat) (d:Xa) (rs:List OT) (δ':Zi),ds[i]? =some d->I i rs δ'->g d δ' λδ2=>mt δ2 λb δ3=>if b=true then me δ3 λr δ4=>I (i+1) (rs ++ [r]) δ4 else I (i+1) rs δ3)∧
 ∀rs δ',I ds.length rs δ'->K (.nd rs) δ1
noncomputable def Zil(n:Nat)(caps:List Nat)(mi:MIt)(g:MGt)(mt:MTt)(me:MEt):MEt:=λδ K=>mi δ λds δ1=>Z3b n caps ds g mt me δ1 K
theorem Zyp{wi:TI}(si:SI G io p ci wi mi)(nd:caps.Nodup)(hp:(pt&&pe)=true) :
  SE G io p true (Z0c own caps wi (gM G (Zch own.length caps) ci g) (ttM G (Zch own.length caps) pt mt) (tM G (Zch own.length caps) pe true me)) (Zil own.length caps mi g mt me):=by
 intro C H σ δ fp ex K Q R h k
 refine si C H σ δ fp ex _ _ R h λJ H1 ds δ1 fp1 R1 S1 it h1 D hD=>?_
 obtain⟨hz,I,h0,turn,fin⟩:=h1
 refine Zsq I R1 (λH' kp=>it H' λb o e _=>kp b o e (.inl hp)) nd hD hz h0 turn λH' σ' δ' fp' ys rs new B i'=>?_
 have s:Same H1 H':=λb o e=>B.keep b o e (.inl hp)
 refine k H' (.ref D) (.nd rs) δ1 fp1 (D :: new) (RE.tree R R1 S1 s (λa m=>?_) (Q0.mpr ⟨λm=>(B.fresh D m).2 rfl,B.nd⟩) (.nd B.dat (B.own.wide λa l _=>?_))) (fin rs δ' i')
 ·rcases Xu.mp m with rfl|m
  ·exact hD
  ·exact(B.fresh a m).1
 ·refine⟨?_,λm=>?_⟩
  ·rcases Z4f (λa z=>.inl (.inl z)) (l rfl)with z|z
   ·exact .inl λ_=>z
   ·exact .inr z
  ·rcases Xu.mp m with z|z
   ·exact(l rfl).2.1 (.inl (.inr (.inl z)))
   ·exact(l rfl).2.1 (.inr z)
variable {N':List Str}{sc:Uj}{tg elt iter:Expr}{ifs:List Expr}{pos:Pos}
theorem Z3j(S:CompScope X own caps N' sc)(hc:X.calm=true)(nd:caps.Nodup)(hi:MI X io p ci tg iter mi)
  (hg:∀C cells s₂ H₂ fp,MG (Wq X N' sc C cells s₂ H₂ fp) (Zch own.length caps) ci tg g) (ht:∀C cells s₂ H₂ fp,MIfs (Wq X N' sc C cells s₂ H₂ fp) (Zch own.length caps) pt ifs mt) (he:∀C cells s₂ H₂ fp,ME (Wq X N' sc C cells s₂ H₂ fp) (Zch own.length caps) pe true elt me)
  (hp:(pt&&pe)=true:=by rfl) (hs:∀x,Bp iter X.env x=pure x:=by intro _;rfl):ME X io p true (.ListComp elt [⟨tg,iter,ifs,0⟩] sc pos) (Zil own.length caps mi g mt me):=by
 obtain⟨_,A,si⟩:=hi
 exact⟨_,Z0n S hc A (λC cells s₂ H₂ fp=>(hg C cells s₂ H₂ fp).canon) (λC cells s₂ H₂ fp=>(ht C cells s₂ H₂ fp).canon) (λC cells s₂ H₂ fp=>(he C cells s₂ H₂ fp).canon) hs,Zyp si nd hp⟩
section
variable {i:Nat}{y:Str}{py spos:Pos}
theorem Zaw(own':Bool)(hN:X.N.Nodup)(hy:X.N[i]? =some y)(hx:Loc X.env.scope y)(S:CompScope X own caps N' sc)(hc:X.calm=true)(nd:caps.Nodup)(hi:MI X io p ci tg iter mi)
  (hg:∀C cells s₂ H₂ fp,MG (Wq X N' sc C cells s₂ H₂ fp) (Zch own.length caps) ci tg g) (ht:∀C cells s₂ H₂ fp,MIfs (Wq X N' sc C cells s₂ H₂ fp) (Zch own.length caps) pt ifs mt) (he:∀C cells s₂ H₂ fp,ME (Wq X N' sc C cells s₂ H₂ fp) (Zch own.length caps) pe true elt me)
  (hp:(pt&&pe)=true:=by rfl) (hio:i∉io:=by decide)
  (hsw:Uo (.ListComp elt [⟨tg,iter,ifs,0⟩] sc pos) (some (.Name y py)) spos.line X.env=pure true:=by rfl)
  (hs:∀x,Bp iter X.env x=pure x:=by intro _;rfl) (hf:X.fn y=true∨X.env.scope.names.lookup y=some .local:=by first|exact .inl rfl|exact .inr rfl|assumption) :
  MS X io (.Assign [.Name y py] (.ListComp elt [⟨tg,iter,ifs,0⟩] sc pos) spos) (if own'=true then Zqg i (Zil own.length caps mi g mt me)else Z1r i (Zil own.length caps mi g mt me)):=by
 obtain⟨_,A,si⟩:=hi
 refine⟨_,Zpu (g:=gM X.K (Zch own.length caps) ci g) (tt:=ttM X.K (Zch own.length caps) pt mt) (te:=tM X.K (Zch own.length caps) pe true me) hN hy hx S hc A (λC cells s₂ H₂ fp=>(hg C cells s₂ H₂ fp).canon) (λC cells s₂ H₂ fp=>(ht C cells s₂ H₂ fp).canon) (λC cells s₂ H₂ fp=>(he C cells s₂ H₂ fp).canon) hsw hs hf,?_⟩
 cases own'
 ·exact Yck (Zyp si nd hp) hio
 ·exact Z5j (Zyp si nd hp) hio
end
end
variable {G:Xb}
section
variable {X:Cx}{pins:List (Addr×Obj)}{σ:St}{H:Hp}{s:Xd}{l:Addr}{xs:List V}
noncomputable def Z4p(K:Xb):R2:=λx y H Q=>∃l b xs zs,x= .ref l∧y= .ref b∧SqL K H l xs∧SqL K H b zs∧xs.length+zs.length≤Xr∧∀p,H p=none->Q (.ref p) (upd H p (.lst (xs ++ zs)))
theorem Inv.lstQ{K:Xb}(hK:X.K=K)(I:Inv X pins σ H s)(hH:SqL K H l xs):∃(its:List Xc) (n:Nat),Vals xs its∧xs.length=its.length∧∃o,s.heap.get? l=some o∧o.cls= .type "list"∧o.dict=none∧o.data= .seq its.toArray n:=by
 subst hK
 obtain⟨its,r,⟨o,n,e,h1,h2,h3⟩,_⟩:=I.list hH
 exact⟨its,n,r,r.length,o,e,h1,h2,h3⟩
theorem Z8{K:Xb}(hK:X.K=K):OpR X (VN .Add) (Z4p K):=by
 intro pins s σ H x y v u Q I rx ry h
 obtain⟨l,b,xs,zs,rfl,rfl,hH,hB,hz,q⟩:=h
 cases rx
 cases ry
 obtain⟨its,n,r,hl,⟨cls,dd,data,sl⟩,ho,hc,_,hd⟩:=I.lstQ hK hH
 obtain⟨its2,n2,r2,hl2,⟨cls2,dd2,data2,sl2⟩,ho2,hc2,_,hd2⟩:=I.lstQ hK hB
 simp only at hc hd hc2 hd2
 subst hc hd hc2 hd2
 have ea:its.toArray ++ its2.toArray=(its ++ its2).toArray:=by simp
 refine concat_meets ⟨_,ho,rfl⟩ ⟨_,ho2,rfl⟩ noFill_list_add seq_list_add PySem.F.slot_list_add PySem.F.entry_list_add (PySem.F.args_list_add_2 _ _) (list_addW l b its.toArray its2.toArray n n2 dd dd2 sl sl2 (by simp only[Xv];omega)) ⟨ho,ho2,?_⟩
 rw[ea]
 exact⟨.ref _,_,I.lnew (t':=s.toks) (r.append r2) (by rw[QJ];omega),rfl,q _ I.fresh⟩
end
noncomputable def asI(d:Xa)(k:Int->Prop):Prop:=match d with| .int i=>k i|_=>False
noncomputable def asL(d:Xa)(k:List Xa->Prop):Prop:=match d with| .list ds=>k ds|_=>False
section
variable {H:Hp}{L:Addr->Prop}{v:V}{d:Xa}
theorem Da.intInv{k:Int->Prop}(q:Da G H L v d)(h:asI d k):∃i,v= .int i∧k i:=by
 cases q with
 | int b=>exact⟨b,rfl,h⟩
 | _=>exact h.elim
theorem Da.lstInv{k:List Xa->Prop}(q:Da G H L v d)(h:asL d k):∃a xs ds,v= .ref a∧SqL G H a xs∧Das G H L xs ds∧k ds:=by
 cases q with
 | lst l e r=>exact⟨_,_,_,rfl,.inl e,r,h⟩
 | scr s=>exact⟨_,_,_,rfl,s.sq,.ints _,h⟩
 | _=>exact h.elim
end
noncomputable def d2I(C:Int->Int->Prop)(g:Int->Int->Xa):Xa->Xa->(Xa->Prop)->Prop:=λd e k=>asI d λi=>asI e λj=>C i j∧k (g i j)
noncomputable def Zug(g:Int->Int->Xa):Xa->Xa->(Xa->Prop)->Prop:=λd e k=>asI d λi=>asI e λj=>k (g i j)
theorem Z5a{C:Int->Int->Prop}{f:Int->Int->Int}:P2s G (rI C λi j=>.int (f i j)) (d2I C λi j=>.int (f i j)):=λH L x y d e k Q hx hy h kk=>by
 obtain⟨i,rfl,h⟩:=hx.intInv h
 obtain⟨j,rfl,h⟩:=hy.intInv h
 exact⟨i,j,rfl,rfl,h.1,kk _ _ (.int _) h.2⟩
structure MulOk(i j:Int):Prop where
 ok:IntMulOk i j
structure Ycb(i j:Int):Prop where
 ok:DivOk i j
structure Ybi(i j:Int):Prop where
 ok:Z7u i j
theorem Z55{f:Int->Int->Int}:P2s G (rI IntMulOk λi j=>.int (f i j)) (d2I MulOk λi j=>.int (f i j)):=λH L x y d e k Q hx hy h kk=>by
 obtain⟨i,rfl,h⟩:=hx.intInv h
 obtain⟨j,rfl,h⟩:=hy.intInv h
 exact⟨i,j,rfl,rfl,h.1.ok,kk _ _ (.int _) h.2⟩
theorem Z60{f:Int->Int->Int}:P2s G (rI DivOk λi j=>.int (f i j)) (d2I Ycb λi j=>.int (f i j)):=λH L x y d e k Q hx hy h kk=>by
 obtain⟨i,rfl,h⟩:=hx.intInv h
 obtain⟨j,rfl,h⟩:=hy.intInv h
 exact⟨i,j,rfl,rfl,h.1.ok,kk _ _ (.int _) h.2⟩
theorem Z5u{f:Int->Int->Int}:P2s G (rI Z7u λi j=>.int (f i j)) (d2I Ybi λi j=>.int (f i j)):=λH L x y d e k Q hx hy h kk=>by
 obtain⟨i,rfl,h⟩:=hx.intInv h
 obtain⟨j,rfl,h⟩:=hy.intInv h
 exact⟨i,j,rfl,rfl,h.1.ok,kk _ _ (.int _) h.2⟩
theorem Zr8{f:Int->Int->Int}:P2s G (rI0 λi j=>.int (f i j)) (Zug λi j=>.int (f i j)):=λH L x y d e k Q hx hy h kk=>by
 obtain⟨i,rfl,h⟩:=hx.intInv h
 obtain⟨j,rfl,h⟩:=hy.intInv h
 exact⟨i,j,rfl,rfl,kk _ _ (.int _) h⟩
theorem Zdi{f:Int->Int->Bool}:P2s G (rI0 λi j=>.bl (f i j)) (Zug λi j=>.bool (f i j)):=λH L x y d e k Q hx hy h kk=>by
 obtain⟨i,rfl,h⟩:=hx.intInv h
 obtain⟨j,rfl,h⟩:=hy.intInv h
 exact⟨i,j,rfl,rfl,kk _ _ (.bl _) h⟩
section
variable {X:Cx}
noncomputable def Ybv(K:Xb):R2:=λx y H Q=>∃(L L':Addr->Prop) (d e:Xa),Da K H L x d∧Da K H L' y e∧Shp d∧Shp e∧Q (.bl (Qz d e)) H
noncomputable def Ych(K:Xb):R2:=λx y H Q=>∃(L L':Addr->Prop) (d e:Xa),Da K H L x d∧Da K H L' y e∧Shp d∧Shp e∧Q (.bl (!Qz d e)) H
theorem Zie(hu:X.A.units+64<Ui):OpR X (JS .Eq) (Ybv X.K):=by
 intro pins s σ H x y v u Q I rx ry h
 obtain⟨L,L',d,e,h1,h2,s1,s2,q⟩:=h
 obtain⟨as,k1⟩:=h1.reads rfl I rx (VP s1)
 obtain⟨bs,k2⟩:=h2.reads rfl I ry (VP s2)
 exact eq_dataH k1 k2 s1 s2 hu ⟨.bl _,H,I,rfl,q⟩
theorem Z45(hu:X.A.units+64<Ui):OpR X (JS .NotEq) (Ych X.K):=by
 intro pins s σ H x y v u Q I rx ry h
 obtain⟨L,L',d,e,h1,h2,s1,s2,q⟩:=h
 obtain⟨as,k1⟩:=h1.reads rfl I rx (VP s1)
 obtain⟨bs,k2⟩:=h2.reads rfl I ry (VP s2)
 exact ne_dataH k1 k2 s1 s2 hu ⟨.bl _,H,I,rfl,q⟩
end
structure Z5h(d:Xa):Prop where
 ok:Shp d
noncomputable def dEq:Xa->Xa->(Xa->Prop)->Prop:=λd e k=>Z5h d∧Z5h e∧k (.bool (Qz d e))
noncomputable def dNe:Xa->Xa->(Xa->Prop)->Prop:=λd e k=>Z5h d∧Z5h e∧k (.bool (!Qz d e))
theorem Zna:P2s G (Ybv G) dEq:=λH L x y d e k Q hx hy h kk=>⟨L,L,d,e,hx,hy,h.1.ok,h.2.1.ok,kk _ _ (.bl _) h.2.2⟩
theorem Z8y:P2s G (Ych G) dNe:=λH L x y d e k Q hx hy h kk=>⟨L,L,d,e,hx,hy,h.1.ok,h.2.1.ok,kk _ _ (.bl _) h.2.2⟩
noncomputable def Zlf:Xa->Bool
 | .none=>true
 | _=>false
noncomputable def scD:Xa->Bool
 | .none=>true
 | .bool _=>true
 | .int _=>true
 | .str _=>true
 | _=>false
noncomputable def eqS:Xa->Xa->Bool
 | .none,.none=>true
 | .bool a,.bool b=>a==b
 | .bool a,.int b=>(if a then 1 else 0)==b
 | .int a,.bool b=>a==(if b then 1 else 0)
 | .int a,.int b=>a==b
 | .str a,.str b=>a==b
 | _,_=>false
noncomputable def memS(d:Xa)(ds:List Xa):Bool:=ds.any λe=>eqS e d
theorem Da.toSc{H:Hp}{L:Addr->Prop}{v:V}{d:Xa}(h:Da G H L v d)(s:scD d=true):ScD v d:=by
 cases h with
 | non=>exact .non
 | bl b=>exact .bl b
 | int i=>exact .int i
 | str x=>exact .str x
 | _=>cases s
theorem Da.sc{H:Hp}{L:Addr->Prop}{v:V}{d:Xa}(h:Da G H L v d)(s:scD d=true):Zif v=true:=by
 cases h.toSc s<;>rfl
theorem Das.sc{H:Hp}{L:Addr->Prop}{vs:List V}{ds:List Xa}(h:Das G H L vs ds):ds.all scD=true->vs.all Zif=true :=
 Das.ind (Q:=λvs ds=>ds.all scD=true->vs.all Zif=true) (λ_=>rfl) (λh _ r s=>by
  rw[List.all_cons,Xo]at s
  rw[List.all_cons,h.sc s.1,r s.2];rfl) h
theorem Da.eqS{H:Hp}{L:Addr->Prop}{v u:V}{d e:Xa}(h:Da G H L v d)(g:Da G H L u e)(s:scD d=true)(t:scD e=true):eqV v u=L2.eqS d e:=by
 cases h.toSc s<;>cases g.toSc t<;>rfl
theorem Das.memS{H:Hp}{L:Addr->Prop}{v:V}{d:Xa}(h:Da G H L v d)(s:scD d=true){vs:List V}{ds:List Xa}(g:Das G H L vs ds):ds.all scD=true->inV v vs=L2.memS d ds :=
 Das.ind (Q:=λvs ds=>ds.all scD=true->inV v vs=L2.memS d ds) (λ_=>rfl) (λg _ r t=>by
  rw[List.all_cons,Xo]at t
  have:=r t.2
  unfold inV L2.memS at*
  rw[Vw,Vw,this,g.eqS h t.1 s]) g
noncomputable def dIn(neg:Bool):Xa->Xa->(Xa->Prop)->Prop:=λd e k=>scD d=true∧match e with
 | .list ds=>ds.all scD=true∧k (.bool (if neg then !memS d ds else memS d ds))
 | .tuple ds=>ds.all scD=true∧k (.bool (if neg then !memS d ds else memS d ds))
 | _=>False
theorem Zz6{neg:Bool}:P2s G (rIn G neg) (dIn neg):=λH L x y d e k Q hx hy h kk=>by
 obtain⟨s,h⟩:=h
 cases hy with
 | lst l e r=>exact⟨_,_,rfl,.inl (.inl e),hx.sc s,r.sc h.1,by rw[Das.memS hx s r h.1];exact kk _ _ (.bl _) h.2⟩
 | tup e r=>exact⟨_,_,rfl,.inr (.inl (.inl e)),hx.sc s,r.sc h.1,by rw[Das.memS hx s r h.1];exact kk _ _ (.bl _) h.2⟩
 | scr ks=>exact⟨_,_,rfl,.inl ks.sq,hx.sc s,(Das.ints (G:=G) (H:=H) (L:=L) _).sc h.1,by rw[Das.memS hx s (Das.ints (G:=G) (H:=H) (L:=L) _) h.1];exact kk _ _ (.bl _) h.2⟩
 | _=>exact h.elim
noncomputable def ixD(d e:Xa):Option Xa:=match d,e with
 | .list ds,.int i=>atI ds i
 | .tuple ds,.int i=>atI ds i
 | _,_=>none
noncomputable def dIx:Xa->Xa->(OT->Prop)->Prop:=λd e k=>match ixD d e with|some x=>k (.fz x)|none=>False
theorem Das.atI{H:Hp}{L:Addr->Prop}{xs:List V}{ds:List Xa}{i:Int}{d:Xa}(h:Das G H L xs ds)(e:L2.atI ds i=some d):∃x,L2.atI xs i=some x∧Da G H L x d:=by
 unfold L2.atI at*
 rw[h.length]
 cases q:ixN ds.length i with
 | none=>rw[q]at e;cases e
 | some j=>
  rw[q]at e
  exact h.get e
theorem Z8p:P2 G (rIx G) dIx:=λH L x y d e k Q hx hy h kk=>by
 unfold dIx at h
 split at h
 case h_2=>exact h.elim
 rename_i z ez
 have fin:∀v,Da G H L v z->Q v H:=λv q=>kk H v (.fz z) [] (Same.refl _) (.fz (q.wide λa l _=>⟨.inl l,λm=>nomatch m⟩)) .nil (λa m=>nomatch m) h
 cases hx with
 | lst l e1 r=>
  cases hy with
  | int i=>
   obtain⟨v,e2,q⟩:=r.atI (show L2.atI _ i=some z from ez)
   exact .inl ⟨_,_,i,v,rfl,rfl,.inl e1,e2,fin v q⟩
  | _=>cases ez
 | tup e1 r=>
  cases hy with
  | int i=>
   obtain⟨v,e2,q⟩:=r.atI (show L2.atI _ i=some z from ez)
   exact .inr (.inl ⟨_,_,i,v,rfl,rfl,.inl (.inl e1),e2,fin v q⟩)
  | _=>cases ez
 | scr ks=>
  cases hy with
  | int i=>
   obtain⟨v,e2,q⟩:=(Das.ints (G:=G) (H:=H) (L:=L) _).atI (show L2.atI _ i=some z from ez)
   exact .inl ⟨_,_,i,v,rfl,rfl,ks.sq,e2,fin v q⟩
  | _=>cases ez
 | _=>cases ez
theorem Own.list{H:Hp}{L:Addr->Prop}{p:Addr}{xs:List V}{ds:List Xa}(hp:H p=none)(h:Das G H L xs ds):Own G (upd H p (.lst xs)) (λa=>(L a∨H a=none)∧a∉[p]) (.ref p) (.nd (ds.map OT.fz)) [p] :=
 .nd Yn (((h.wide λa l q=>⟨.inl l,λm=>q (by rw[Qd.mp m];exact hp)⟩).same (Yl hp _)).owns)
theorem Zcv{H:Hp}{p:Addr}(hp:H p=none):∀a∈[p],H a=none:=λa m=>by rw[Qd.mp m];exact hp
theorem Zff(p:Addr):[p].Nodup:=Q0.mpr ⟨λm=>(nomatch m),.nil⟩
noncomputable def dCat:Xa->Xa->(OT->Prop)->Prop:=λd e k=>asL d λds=>asL e λes=>ds.length+es.length≤Xr∧k (.nd ((ds ++ es).map OT.fz))
theorem Yw:P2 G (Z4p G) dCat:=λH L x y d e k Q hx hy h kk=>by
 obtain⟨a,xs,ds,rfl,e1,r1,h⟩:=hx.lstInv h
 obtain⟨b,ys,es,rfl,e2,r2,h⟩:=hy.lstInv h
 exact⟨a,b,xs,ys,rfl,rfl,e1,e2,by rw[r1.length,r2.length];exact h.1,λp hp=>kk _ _ _ [p] (Yl hp _) (Own.list hp (r1.append r2)) (Zff p) (Zcv hp) h.2⟩
noncomputable def n1(k:Xa->Prop)(ds:List Xa):Prop:=match ds with|[d]=>k d|_=>False
noncomputable def n2(k:Xa->Xa->Prop)(ds:List Xa):Prop:=match ds with|[d,e]=>k d e|_=>False
theorem Das.one{H:Hp}{L:Addr->Prop}{vs:List V}{ds:List Xa}{k:Xa->Prop}(q:Das G H L vs ds)(h:n1 k ds):∃v d,vs=[v]∧ds=[d]∧Da G H L v d∧k d:=by
 cases q with
 | nil=>exact h.elim
 | cons q r=>
  cases r with
  | nil=>exact⟨_,_,rfl,rfl,q,h⟩
  | cons _ _=>exact h.elim
theorem Das.two{H:Hp}{L:Addr->Prop}{vs:List V}{ds:List Xa}{k:Xa->Xa->Prop}(q:Das G H L vs ds)(h:n2 k ds):∃v u d e,vs=[v,u]∧ds=[d,e]∧Da G H L v d∧Da G H L u e∧k d e:=by
 cases q with
 | nil=>exact h.elim
 | cons q r=>
  cases r with
  | nil=>exact h.elim
  | cons q' r'=>
   cases r' with
   | nil=>exact⟨_,_,_,_,rfl,rfl,q,q',h⟩
   | cons _ _=>exact h.elim
noncomputable def Zvg:Xa->Option Nat
 | .list ds=>some ds.length
 | .tuple ds=>some ds.length
 | _=>none
noncomputable def Yb3:List Xa->(Xa->Prop)->Prop:=λds k=>n1 (λd=>match Zvg d with|some n=>k (.int n)|none=>False) ds
theorem Z6b:PNs G (Ydc G) Yb3:=λH L xs ds k Q hx h kk=>by
 obtain⟨v,d,rfl,rfl,q,h⟩:=hx.one h
 cases q with
 | lst l e r=>exact⟨_,_,rfl,.inl (.inl e),by rw[r.length];exact kk _ _ (.int _) h⟩
 | tup e r=>exact⟨_,_,rfl,.inr (.inl (.inl e)),by rw[r.length];exact kk _ _ (.int _) h⟩
 | scr ks=>exact⟨_,_,rfl,.inl ks.sq,by rw[(Das.ints (G:=G) (H:=H) (L:=L) _).length];exact kk _ _ (.int _) h⟩
 | _=>exact h.elim
noncomputable def Ycx:List Xa->(Xa->Prop)->Prop:=λds k=>n1 (λd=>asI d λi=>k (.int (if i<0 then -i else i))) ds
theorem Ztk:PNs G (λxs H Q=>∃i,xs=[.int i]∧Q (.int (if i<0 then -i else i)) H) Ycx:=λH L xs ds k Q hx h kk=>by
 obtain⟨v,d,rfl,rfl,q,h⟩:=hx.one h
 obtain⟨i,rfl,h⟩:=q.intInv h
 exact⟨i,rfl,kk _ _ (.int _) h⟩
noncomputable def Ycg:List Xa->(Xa->Prop)->Prop:=λds k=>n2 (λd e=>asI d λi=>asI e λj=>k (.int (if j>i then j else i))) ds
theorem Zy5:PNs G (λxs H Q=>∃i j,xs=[.int i,.int j]∧Q (.int (if j>i then j else i)) H) Ycg:=λH L xs ds k Q hx h kk=>by
 obtain⟨v,u,d,e,rfl,rfl,q,q',h⟩:=hx.two h
 obtain⟨i,rfl,h⟩:=q.intInv h
 obtain⟨j,rfl,h⟩:=q'.intInv h
 exact⟨i,j,rfl,kk _ _ (.int _) h⟩
noncomputable def Ycd:List Xa->(Xa->Prop)->Prop:=λds k=>n2 (λd e=>asI d λi=>asI e λj=>k (.int (if j<i then j else i))) ds
theorem Zr1:PNs G (λxs H Q=>∃i j,xs=[.int i,.int j]∧Q (.int (if j<i then j else i)) H) Ycd:=λH L xs ds k Q hx h kk=>by
 obtain⟨v,u,d,e,rfl,rfl,q,q',h⟩:=hx.two h
 obtain⟨i,rfl,h⟩:=q.intInv h
 obtain⟨j,rfl,h⟩:=q'.intInv h
 exact⟨i,j,rfl,kk _ _ (.int _) h⟩
noncomputable def Ybf:List Xa->(Xa->Prop)->Prop:=λds k=>n1 (λd=>match d with| .int i=>k (.int i)| .bool b=>k (.int (if b then 1 else 0))|_=>False) ds
theorem Z6z:PNs G (λxs H Q=>(∃i,xs=[.int i]∧Q (.int i) H)∨∃k,xs=[.bl k]∧Q (.int (if k then 1 else 0)) H) Ybf:=λH L xs ds k Q hx h kk=>by
 obtain⟨v,d,rfl,rfl,q,h⟩:=hx.one h
 cases q with
 | int i=>exact .inl ⟨i,rfl,kk _ _ (.int _) h⟩
 | bl b=>exact .inr ⟨b,rfl,kk _ _ (.int _) h⟩
 | _=>exact h.elim
noncomputable def Zj6:Xa->Option (List Xa)
 | .list ds=>some ds
 | .tuple ds=>some ds
 | _=>none
noncomputable def Z17:List Xa->(OT->Prop)->Prop:=λds k=>n1 (λd=>match Zj6 d with|some es=>k (.nd (es.map OT.fz))|none=>False) ds
theorem Zke:PN G (Zr7 G) Z17:=λH L xs ds k Q hx h kk=>by
 obtain⟨v,d,rfl,rfl,q,h⟩:=hx.one h
 cases q with
 | lst l e r=>exact⟨_,_,rfl,.inl (.inl e),λp hp=>kk _ _ _ [p] (Yl hp _) (Own.list hp r) (Zff p) (Zcv hp) h⟩
 | tup e r=>exact⟨_,_,rfl,.inr (.inl (.inl e)),λp hp=>kk _ _ _ [p] (Yl hp _) (Own.list hp r) (Zff p) (Zcv hp) h⟩
 | scr ks=>exact⟨_,_,rfl,.inl ks.sq,λp hp=>kk _ _ _ [p] (Yl hp _) (Own.list hp (Das.ints _)) (Zff p) (Zcv hp) h⟩
 | _=>exact h.elim
section
variable {X:Cx}{io:List Nat}{p c:Bool}{a:Expr}{ma:MEt}{pos:Pos}
noncomputable def Yb0(m:MEt):MEt:=λδ K=>m δ λr δ'=>asI r.data λi=>K (.fz (.int (-i))) δ'
theorem Zmw(ha:ME X io p c a ma):ME X io p true (.UnaryOp .USub a pos) (Yb0 ma):=by
 obtain⟨_,A,s⟩:=ha
 exact⟨_,Z8v Z4x A,λC H σ δ fp ex K Q R h k=>s C H σ δ fp ex _ _ R h λH' v r δ' fp' new r1 h1=>by
  obtain⟨i,rfl,h1⟩:=(r1.da R).intInv h1
  exact⟨i,rfl,k H' _ _ δ' fp' [] (.fz r1.base r1.stp (.int _)) h1⟩⟩
noncomputable def Zqs(T:String):Xa->Bool
 | .none=>false
 | .bool _=>T=="bool"||T=="int"
 | .int _=>T=="int"
 | .str _=>T=="str"
 | .list _=>T=="list"
 | .tuple _=>T=="tuple"
 | .dict _=>false
noncomputable def Ycz(T:String)(m:MEt):MEt:=λδ K=>m δ λr δ'=>Zjn r.data=false∧K (.fz (.bool (Zqs T r.data))) δ'
end
section
variable {prog:XH}{w:Qo}{A:Qk}{E:Xc->Xd->Prop}{h:Heap}{g:Array GenState}{d:Drawn}{t:Nat}{os:OsState}{a C:Addr}{o:Obj}{K:Xb}
theorem Z0r(M:Model)(hx:h.get? a=some o)(hc:o.cls= .ref C):JB M h (typeOf (.ref a)) (.ref C):=hc▸(JB.ld hx).andThen .now
theorem Zwd{R:Result->Xd->Prop}(X:K.In h)(Z:Zik K C)(hx:h.get? a=some o)(hc:o.cls= .ref C)(hq:R (.ok (.ret (.ref C))) ⟨h,g,d,t,os⟩) :
  codeAny (X7 prog w) A (.call (.builtin "getset_descriptor.__get__") ⟨[.builtin "object.__class__",.ref a,.ref C],[]⟩) R ⟨h,g,d,t,os⟩:=by
 have L1:JB (X7 prog w) h (isSubtype (.ref C) (.type (".".intercalate ("object.__class__".cutAt '.').dropLast))) true:=by
  rw[F.owner_object_class]
  exact PySem.W.looks_subIn X Z.isO
 have T5:(⟨h,g,d,t,os⟩:Xd).TypeIs (.builtin "object.__class__") "getset_descriptor" :=F.typeOf_object_class
 refine codeAny_call_builtin F.slot_gs_get.plain F.entry_gs_get (F.slot_gs_get.check _ _ _ _ _ _ _ _ T5 (F.args_gs_get _ _ _) ?_)
 repeat (any_goals (first|assumption|(with_reducible refine Ua hx ?_;rw[hc])|(with_reducible refine Xf (JB.at L1 ?_))|(with_reducible refine JB.at L1 ?_)|wp_step))
 refine⟨Code.quiet_builtin _ (by decide +kernel),UW F.entry_object_class ?_⟩
 repeat (any_goals (first|assumption|(with_reducible refine Ua hx ?_;rw[hc])|wp_step))
theorem Zp0{tk:Tok}{Q:Fin->Xd->Prop}(X:K.In h)(Z:Zik K C)(hx:h.get? a=some o)(hc:o.cls= .ref C)(hq:Q (.done (.ret (.ref C))) ⟨h,g,d,t,os⟩) :
  XQ (X7 prog w) A (V4.«object.__getattribute__» ⟨[.ref a,.str "__class__" tk],[]⟩) Q E ⟨h,g,d,t,os⟩:=by
 have T5:(⟨h,g,d,t,os⟩:Xd).TypeIs (.builtin "object.__class__") "getset_descriptor" :=F.typeOf_object_class
 have g5:=F.typeOf_object_class
 have g6:=F.slot_gs_get.lookup
 have g7:=F.slot_gs_set.lookup
 have L4:=PySem.W.looks_findIn (M:=X7 prog w) X Z.cl
 repeat (any_goals (first|assumption|(with_reducible refine Ua hx ?_;rw[hc])|(with_reducible refine Xf (JB.at L4 ?_))|(with_reducible refine JB.at L4 ?_)|wp_step))
 refine Zwd X Z hx hc ?_
 repeat (any_goals (first|assumption|wp_step))
theorem Zpq{M:Model}{nameV:Xc}{Q:Unit->Xd->Prop}(X:K.In h)(Z:Zik K C)(hx:h.get? a=some o)(hc:o.cls= .ref C)(hq:Q () ⟨h,g,d,t,os⟩) :
  XQ M A (checkBuiltinCall "BaseException.__getattribute__" ⟨[.ref a,nameV],[]⟩) Q E ⟨h,g,d,t,os⟩:=by
 have e1:builtinKind "BaseException.__getattribute__"=some .slot:=by decide +kernel
 have e2:splitId "BaseException.__getattribute__"=some ("BaseException","__getattribute__"):=by decide +kernel
 have L1:=PySem.W.looks_subIn (M:=M) X Z.isB
 have e3:=F.args_bexc_ga (.ref a) nameV
 simp only[checkBuiltinCall,e1,e2]
 refine Xf ?_
 unfold isInstance
 repeat (first|(with_reducible refine Ua hx ?_;rw[hc])|(with_reducible refine Xf (JB.at L1 ?_))|(with_reducible refine JB.at L1 ?_)|wp_step)
 exact hq
theorem Zsf{tk:Tok}{R:Result->Xd->Prop}(X:K.In h)(Z:Zik K C)(hx:h.get? a=some o)(hc:o.cls= .ref C)(hq:R (.ok (.ret (.ref C))) ⟨h,g,d,t,os⟩) :
  codeAny (X7 prog w) A (.call (.builtin "BaseException.__getattribute__") ⟨[.ref a,.str "__class__" tk],[]⟩) R ⟨h,g,d,t,os⟩ :=
 codeAny_call_builtin F.excAttr_ValueError.ga.plain F.entry_bexc_ga (Zpq X Z hx hc (Zp0 X Z hx hc hq))
theorem Zz5{tk:Tok}{fill expr:Bool}{Q:Xc->Xd->Prop}(X:K.In h)(Z:Zik K C)(hx:h.get? a=some o)(hc:o.cls= .ref C)(hq:Q (.ref C) ⟨h,g,d,t,os⟩) :
  XQ (X7 prog w) A (getAttrBy (.ref a) (.str "__class__" tk) fill expr) Q E ⟨h,g,d,t,os⟩:=by
 have f3:=F.excAttr_ValueError.ga.bind (.ref a)
 have y0:(expr&&onTheHeap (U6 "BaseException.__getattribute__"))=false:=by cases expr<;>rfl
 have y2:(U6 "BaseException.__getattribute__"==U6 "object.__getattribute__")=false:=by decide +kernel
 have y1:(onTheHeap (QX C)&&U6 "BaseException.__getattribute__"==U6 "object.__getattribute__")=false:=by rw[y2];rfl
 have L2:=PySem.W.looks_findIn (M:=X7 prog w) X Z.ga
 have L3:=PySem.W.looks_findIn (M:=X7 prog w) X Z.gt
 repeat (any_goals (first|assumption|(with_reducible refine Ua hx ?_;rw[hc])|(with_reducible refine JB.at L2 ?_)|(with_reducible refine JB.at L3 ?_)|(with_reducible refine Xf (JB.at L2 ?_))|(with_reducible refine Xf (JB.at L3 ?_))|wp_step))
 refine Zsf X Z hx hc ?_
 repeat (any_goals (first|assumption|wp_step))
theorem Ztc{Q:Option Xc->Xd->Prop}(X:K.In h)(Z:Zik K C)(hx:h.get? a=some o)(hc:o.cls= .ref C)(hq:Q (some (.ref C)) ⟨h,g,d,t+1,os⟩) :
  XQ (X7 prog w) A (getAttr? (.ref a) "__class__") Q E ⟨h,g,d,t,os⟩:=by
 unfold getAttr? getAttrBy?
 repeat (any_goals (first|assumption|with_reducible apply Zz5 X Z hx hc|wp_step))
end
theorem Zuk{K:Xb}{a C:Addr}(Z:Zik K C):PySem.W.KitX K (.ref a) (.ref C) (λh=>∃o,h.get? a=some o∧o.cls= .ref C) where
 ty:=λM h _ p=>let⟨_,hx,hc⟩:=p;Z0r M hx hc
 it:=λM h X _=>by
  have z:=Z.isC
  unfold PySem.W.clsIn at z
  split at z
  ·rename_i ho
   intro A' Q' E' s' k q
   unfold isType loadHead
   exact Xf (wpAny_loadPart (k _ _ (X _ _ ho)) (X5 q))
  ·cases z
 ne:=λh tp dd its n sl X htp=>by
  have z:=Z.isC
  refine Bool.eq_false_iff.mpr λq=>?_
  have e:C=tp:=QX.inj (beq_iff_eq.mp q)
  subst e
  unfold PySem.W.clsIn at z
  split at z
  ·rename_i ho
   have z:=(X _ _ ho).symm.trans htp
   cases z
  ·cases z
 ca:=fun{_ _ _ _ _ s} X p k=>by
  obtain⟨h,g,d,t,os⟩:=s
  obtain⟨_,hx,hc⟩:=p
  exact Ztc X Z hx hc k
variable {G:Xb}
noncomputable def tyD:Xa->String
 | .none=>"NoneType"
 | .bool _=>"bool"
 | .int _=>"int"
 | .str _=>"str"
 | .list _=>"list"
 | .tuple _=>"tuple"
 | .dict _=>"dict"
theorem Zxr{K:Xb}{T:String}{d:Xa}(h:T="int"∨T="bool"∨T="str"∨T="list"∨T="tuple")(hd:∀kvs,d≠ .dict kvs):BX K (.type (tyD d)) (.type T)=some (Zqs T d):=by
 rcases h with rfl|rfl|rfl|rfl|rfl<;>cases d<;>first|rfl|(exact absurd rfl (hd _))|(unfold BX PySem.W.kitCls;rfl)|(simp only[tyD,Zqs];decide +kernel)
noncomputable def Z9u(G:Xb):List V->Hp->VK->Prop:=λxs H Q=>∃(x:V) (T:String) (L:Addr->Prop) (d:Xa),xs=[x,.ty T]∧Da G H L x d∧Zjn d=false∧(T="int"∨T="bool"∨T="str"∨T="list"∨T="tuple")∧Q (.bl (Zqs T d)) H
theorem Ztn{X:Cx}(hK:X.K=G):Zcd X (.builtin "isinstance") (Z9u G):=by
 subst hK
 intro pins s σ H xs us Q I r h
 obtain⟨x,T,L,d,rfl,q,hf,hT,h⟩:=h
 obtain⟨u,w',rfl,r1,r2⟩:=vals2 r
 cases(show w'=Xc.type T from r2)
 have fin:∀tk:Nat,EP X pins σ Q (.bool (Zqs T d)) { s with toks:=tk }:=λtk=>⟨.bl _,H,I.tok tk,rfl,h⟩
 cases q with
 | non=>exact Zba I r1 .non (Zxr (d:=.none) hT λ_ z=>by cases z) fin
 | bl b=>exact Zba I r1 (.bl b) (Zxr (d:=.bool b) hT λ_ z=>by cases z) fin
 | int b=>exact Zba I r1 (.int b) (Zxr (d:=.int b) hT λ_ z=>by cases z) fin
 | str b=>exact Zba I r1 (.str b) (Zxr (d:=.str b) hT λ_ z=>by cases z) fin
 | lst l e qs=>
  rename_i ds
  rcases e with e|⟨o,e⟩
  ·exact Zba I r1 (.lst e) (Zxr (d:=.list ds) hT λ_ z=>by cases z) fin
  ·exact Zba I r1 (.frz e) (Zxr (d:=.list ds) hT λ_ z=>by cases z) fin
 | tup e qs=>
  rename_i ds
  exact Zba I r1 (.tup e) (Zxr (d:=.tuple ds) hT λ_ z=>by cases z) fin
 | scr ks=>
  rename_i a ns
  cases(show u=QX a from r1)
  obtain⟨its,vs,⟨o,n,ho,hc,hd,hs⟩,_⟩:=I.list (ks.sq (H:=H))
  exact Q7 PySem.W.kitx_list I.kIn ⟨o,ho,hc⟩ (Zxr (d:=.list (ns.map Xl)) hT λ_ z=>by cases z) (λz=>nomatch z) fin
 | exc Z hn e=>
  rename_i a C x
  cases(show u=QX a from r1)
  obtain⟨⟨o,vs,ho,hc,_⟩,_,_⟩:=(show ObjOk X.prog X.w H s.heap a (.ext (ExO C a))from I.hok a _ e)
  refine Q7 (Zuk Z) I.kIn ⟨o,ho,hc⟩ (b:=Zqs T (exD x)) ?_ (λz=>nomatch z) fin
  rcases hT with rfl|rfl|rfl|rfl|rfl
  ·exact Z.k1
  ·exact Z.k2
  ·exact Z.k3
  ·exact Z.k4
  ·exact Z.k5
 | fn _=>cases hf
 | dic _ _ _ _=>unfold dcD Zjn at hf;cases hf
section
variable {X:Cx}{io:List Nat}{p c p' c':Bool}{a b e:Expr}{ma m:MEt}{pos pp p2:Pos}{K:Xb}
theorem Zdl{T:Str}{T':String}(hT:T'="int"∨T'="bool"∨T'="str"∨T'="list"∨T'="tuple")(hg:Gl X "isinstance")(hm:X.mg "isinstance"=none)(hv:Qm "isinstance"=some (.builtin "isinstance"))
  (hg2:Gl X T) (hm2:X.mg T=none) (hv2:Qm T=some (.type T')) (ha:ME X io p c a ma) (hn:T≠"__name__" :=by decide) (hd:(T==("__debug__" : Str))=false:=by decide)
  (he:Xq [a,.Name T p2] X.env=(false,eval a X.env) :: Xq [.Name T p2] X.env:=by rfl) (he2:Xq [.Name T p2] X.env=(false,eval (.Name T p2) X.env) :: Xq [] X.env:=by rfl) (hpl:(BV pos (Xq [.Name T p2] X.env)).any (·.1)=false:=by rfl) :
  ME X io p true (.Call (.Name "isinstance" pp) [a,.Name T p2] [] pos) (Ycz T' ma):=by
 obtain⟨_,A,s⟩:=ha
 refine⟨_,Zkp (Ztn rfl) hg hm hv (Zja A (Zja (Z09 (v:=.ty T') hg2 hm2 hv2 rfl hn hd) Zod he2) he) (by decide) (by decide) he hpl,?_⟩
 intro C H σ δ fp ex K' Q R h k
 refine s C H σ δ fp ex _ _ R h λH' v r δ' fp' new r1 h1=>?_
 exact⟨v,T',_,_,rfl,r1.da R,h1.1,hT,k H' _ _ δ' fp' [] (.fz r1.base r1.stp (.bl _)) h1.2⟩
noncomputable abbrev MOt:=Zi->(Option Int->Zi->Prop)->Prop
noncomputable def MO(X:Cx)(io:List Nat)(p:Bool)(e:Option Expr)(m:MOt):Prop:=∃t,PO X e t∧∀(C:MC X.K) (H:Hp) (σ:St) (δ:Zi) (fp:Fp) (ex:Addr->Prop) (K:Option Int->Zi->Prop) (Q:Option Int->Hp->Prop),Rel C io H σ δ fp ex->m δ K ->
 (∀ H' b δ' fp',Rel C io H' σ δ' fp' ex->Stp p H δ fp H' δ' fp'->K b δ'->Q b H')->t σ H Q
noncomputable def Zsu:MOt:=λδ K=>K none δ
noncomputable def Z52(m:MEt):MOt:=λδ K=>m δ λr δ'=>asI r.data λi=>K (some i) δ'
theorem Z5:MO X io true none Zsu:=⟨_,Z08,λC H σ δ fp ex K Q R h k=>k H none δ fp R (.refl _ _ _ _) h⟩
theorem Z2(h:ME X io p c e m):MO X io p (some e) (Z52 m):=by
 obtain⟨_,A,s⟩:=h
 exact⟨_,Zz2 A,λC H σ δ fp ex K Q R h k=>s C H σ δ fp ex _ _ R h λH' v r δ' fp' new r1 h1=>by
  obtain⟨i,rfl,h1⟩:=(r1.da R).intInv h1
  exact⟨i,rfl,k H' _ δ' fp' r1.base r1.stp h1⟩⟩
noncomputable def cutD(ds:List Xa)(lo hi:Option Int):List Xa:=(ds.drop (HT.sIx ds.length 0 lo)).take (HT.sIx ds.length ds.length hi-HT.sIx ds.length 0 lo)
theorem Das.cut{H:Hp}{L:Addr->Prop}{xs:List V}{ds:List Xa}(h:Das G H L xs ds)(lo hi:Option Int):Das G H L (Z1p xs lo hi) (cutD ds lo hi):=by
 unfold Z1p cutD
 rw[h.length]
 exact(h.drop _).take _
noncomputable def mSl(m:MEt)(ml mh:MOt):MEt:=λδ K=>m δ λr δ1=>ml δ1 λlo δ2=>mh δ2 λhi δ3=>asL r.data λds=>K (.nd ((cutD ds lo hi).map OT.fz)) δ3
theorem Jh{lo hi:Option Expr}{ml mh:MOt}(ha:ME X io true c a ma)(hl:MO X io true lo ml)(hh:MO X io true hi mh):ME X io true c (.Subscript a (.Slice lo hi none p2) pos) (mSl ma ml mh):=by
 obtain⟨_,A,s⟩:=ha
 obtain⟨_,B,sl⟩:=hl
 obtain⟨_,D,sh⟩:=hh
 refine⟨_,Zus (Zvx rfl) A B D,?_⟩
 intro C H σ δ fp ex K' Q R h k
 refine s C H σ δ fp ex _ _ R h λH1 v r δ1 fp1 new r1 h1=>?_
 refine sl C H1 σ δ1 fp1 ex _ _ r1.base h1 λH2 l δ2 fp2 R2 S2 h2=>?_
 refine sh C H2 σ δ2 fp2 ex _ _ R2 h2 λH3 u δ3 fp3 R3 S3 h3=>?_
 have s2:Same H1 H2:=λb o e=>S2.keep b o e (.inl rfl)
 have s3:Same H2 H3:=λb o e=>S3.keep b o e (.inl rfl)
 obtain⟨e1,e2⟩:=r1.stp.env rfl
 obtain⟨e3,e4⟩:=S2.env rfl
 obtain⟨e5,e6⟩:=S3.env rfl
 have q:=((r1.da R).same s2).same s3
 obtain⟨a',xs,ds,rfl,e,qs,h3⟩:=q.lstInv h3
 refine⟨a',xs,rfl,e,λp hp=>?_⟩
 have S:=(r1.stp.trans S2).trans S3
 refine k _ _ _ δ3 fp3 [p] (RE.tree R R3 S (Yl hp _) (Zcv hp) (Zff p) (Own.list hp ((qs.cut l u).wide λa l _=>?_))) h3
 rw[e6,e4]
 exact l
theorem Owns.set{H:Hp}{L:Addr->Prop}{x:V}{r:OT}(hr:Own G H L x r []):∀{xs:List V} {ts:List OT} {as:List Addr} (j:Nat),Owns G H L xs ts as->∃bs,Owns G H L (xs.set j x) (ts.set j r) bs∧bs.Sublist as
 | _,_,_,_,.nil=>⟨[],.nil,.refl _⟩
 | _,_,_,0,.cons k t=>⟨_,.cons hr t,by simp⟩
 | _,_,_,j+1,.cons (as:=as) k t=>by
  obtain⟨bs,o,s⟩:=Owns.set hr j t
  exact⟨as ++ bs,.cons k o,List.Sublist.append_left s as⟩
theorem Owns.get{H:Hp}{L:Addr->Prop}:∀{xs:List V} {ts:List OT} {as:List Addr} {j:Nat} {t:OT},Owns G H L xs ts as->ts[j]? =Bo t->∃x bs,xs[j]? =Bo x∧Own G H L x t bs∧bs.Sublist as
 | _,_,_,_,_,.nil,e=>by simp at e
 | _,_,_,0,_,.cons k _,e=>by simp at e;subst e;exact⟨_,_,rfl,k,List.sublist_append_left _ _⟩
 | _,_,_,j+1,t,.cons _ r,e=>by
  obtain⟨x,bs,h1,h2,h3⟩:=Owns.get (j:=j) (t:=t) r (by simpa using e)
  exact⟨x,bs,by simpa using h1,h2,h3.trans (List.sublist_append_right _ _)⟩
theorem Rel.top{C:MC G}{H:Hp}{σ:St}{δ:Zi}{fp:Fp}{ex:Addr->Prop}{i:Nat}{ts ts':List OT}{a':Addr}{xs ys:List V}{bs bs':List Addr}(R:Rel C io H σ δ fp ex)(hi:δ[i]? =some (some (.nd ts)))(hv:σ[i]? =some (some (.ref a')))
  (hf:fp i=a' :: bs) (hx:H a'=some (.lst xs)) (o:Owns G H (Lf C fp ex) ys ts' bs') (hs:bs'.Sublist bs) :
  Rel C io (upd H a' (.lst ys)) σ (δ.set i (some (.nd ts'))) (fpu fp i (a' :: bs')) ex∧Stp false H δ fp (upd H a' (.lst ys)) (δ.set i (some (.nd ts'))) (fpu fp i (a' :: bs')):=by
 have nd:=R.nd i
 rw[hf]at nd
 have hn:=Q0.mp nd
 have hm:a'∈fp i:=by rw[hf];exact .head _
 have ne':∀a,¬Foot fp a->a≠a':=λa h z=>h ⟨i,by rw[z];exact hm⟩
 have kp:∀b o,H b=some o->b≠a'->upd H a' (.lst ys) b=some o:=λb o e n=>by rw[Z6 n];exact e
 have sub:∀a,a∈a' :: bs'->a∈fp i:=λa m=>by
  rw[hf]
  rcases Xu.mp m with rfl|m
  ·exact .head _
  ·exact .tail _ (hs.subset m)
 have o':Owns G (upd H a' (.lst ys)) (Lf C (fpu fp i (a' :: bs')) (exu ex [])) ys ts' bs':=by
  have f0:∀a,¬Foot fp a->¬Foot (fpu fp i (a' :: bs')) a:=λa h z=>by
   rcases z.of_u with z|⟨j,_,z⟩
   ·exact h ⟨i,sub a z⟩
   ·exact h ⟨j,z⟩
  have f1:∀a (zs:MuO),Lf C fp ex a->Rd H a zs.ho->Lf C (fpu fp i (a' :: bs')) (exu ex []) a∧Rd (upd H a' (.lst ys)) a zs.ho:=λa zs l q=>by
   refine⟨⟨f0 a l.1,λz=>l.2.1 (Zdr.mp z),l.2.2⟩,?_⟩
   rcases q with q|⟨u,q⟩
   ·exact .inl (kp a _ q (ne' a l.1))
   ·exact .inr ⟨u,kp a _ q (ne' a l.1)⟩
  have f2:∀a (zs:ImO),H a=some zs.ho->upd H a' (.lst ys) a=some zs.ho:=λa zs q=>kp a _ q λz=>ImO.nl q (z▸hx)
  exact o.frame f1 f2 λa m zs q=>kp a _ q λz=>hn.1 (hs.subset (z▸m))
 have key:=R.change (new:=[]) (as':=a' :: bs') (t':=.nd ts') (H':=upd H a' (.lst ys)) hi hv (λb o e nb=>kp b o e λz=>nb (by rw[z];exact hm)) (λb e=>by
   by_cases q:b=a'
   ·subst q;rw[Yn]at e;cases e
   ·rwa[Z6 q]at e) (.nd Yn o') (Q0.mpr ⟨λm=>hn.1 (hs.subset m),hn.2.sublist hs⟩) (λa m=>.inl (sub a m)) (λa m=>nomatch m)
 exact⟨key.1.drop λa z=>.inl z,key.2⟩
end
variable {G:Xb}
section
variable {X:Cx}{io:List Nat}{p c p' c':Bool}{a b e:Expr}{ma m mi mj:MEt}{pos pp p2 apos cpos px:Pos}{K:Xb}{i:Nat}{x:Str}
theorem Rel.ownNd{C:MC G}{H:Hp}{σ:St}{δ:Zi}{fp:Fp}{ex:Addr->Prop}{ts:List OT}(R:Rel C io H σ δ fp ex)(hi:δ[i]? =some (some (.nd ts))) :
  ∃a' xs bs,σ[i]? =some (some (.ref a'))∧H a'=some (.lst xs)∧Owns G H (Lf C fp ex) xs ts bs∧fp i=a' :: bs:=by
 obtain⟨v,e,o⟩:=R.own i _ hi
 generalize hf:fp i=as at o
 cases o with
 | nd h r=>exact⟨_,_,_,e,h,r,rfl⟩
noncomputable def Zk8(i:Nat)(m:MEt):MSt:=λD δ=>match δ[i]? with
 | some (some (.nd _))=>m δ λr δ1=>match δ1[i]? with
  | some (some (.nd ts))=>ts.length<Xr∧D.nx (δ1.set i (some (.nd (ts ++ [.fz r.data]))))
  | _=>False
 | _=>False
theorem Zb5(i:Nat)(he:ME X io p true e m)(hN:X.N[i]? =some x:=by rfl)(hv:Vis X.env.scope x:=by first|exact QS rfl|exact QG (QS rfl)|exact QG (QG rfl))(hd:(x==("__debug__" : Str))=false:=by decide)
  (hcd:(x==("__classdict__" : Str))=false:=by decide)
  (hbase:attributeBase (.Name x px) "append" X.env (eval (.Name x px) X.env)=eval (.Name x px) X.env:=by rfl)
  (hfew:((BV cpos (Xq [e] X.env)).all (λx=>!x.1)&&(backToKw cpos (keywordEach [] X.env)).all (λx=>x.1.isSome)
   &&decide ([e].length+([]:List Keyword).length+(if([]:List Keyword).isEmpty then 0 else 1)<30))=true:=by rfl)
  (hline:(apos.endLine==cpos.line)=true:=by rfl) (hs:Xq [e] X.env=(false,eval e X.env) :: Xq [] X.env:=by rfl) (hplain:(BV cpos (Xq [] X.env)).any (·.1)=false:=by rfl)
  (hsw:Uo (.Call (.Attribute (.Name x px) "append" apos) [e] [] cpos) none pos.line X.env=pure false:=by rfl) :
  MS X io (.Expr (.Call (.Attribute (.Name x px) "append" apos) [e] [] cpos) pos) (Zk8 i m):=by
 obtain⟨_,A,s⟩:=he
 refine⟨_,Zyt (Z8j PySem.F.plainAttrs_list PySem.F.slot_list_append PySem.F.type_list_append Zmq (pv i hN hv hd hcd) (Zja A Zod hs) hbase hfew hline hs hplain) hsw,λC H σ δ fp ex D D' R h E=>?_⟩
 unfold Zk8 at h
 split at h
 case h_2=>exact h.elim
 rename_i ts0 hi0
 obtain⟨a',xs0,bs0,hv0,hx0,_,_⟩:=R.ownNd hi0
 refine⟨_,hv0,.inl ⟨rfl,xs0,.inl (.inl hx0)⟩,?_⟩
 refine s C H σ δ fp ex _ _ R h λH1 v r δ1 fp1 new r1 h1=>?_
 split at h1
 case h_2=>exact h1.elim
 rename_i ts1 hi1
 have R1:=r1.base
 obtain⟨a1,xs1,bs1,hv1,hx1,o1,hf1⟩:=R1.ownNd hi1
 rw[hv0]at hv1
 cases hv1
 have q:=(r1.da R).wide (L':=Lf C fp1 ex) λa l _=>l rfl
 refine⟨a',xs1,v,rfl,rfl,hx1,by rw[o1.length];exact h1.1,?_⟩
 have o2:=o1.snoc (.fz q)
 obtain⟨R2,S2⟩:=R1.top hi1 hv0 hf1 hx1 o2 (by simp)
 exact E.nx _ σ _ _ R2 (r1.stp.kp.trans S2.kp) h1.2
noncomputable def Z20(i:Nat)(m mi mj:MEt):MSt:=λD δ=>m δ λr δ1=>match δ1[i]? with
 | some (some (.nd ts))=>mi δ1 λn _=>asI n.data λk=>match ixN ts.length k with
  | some j=>match ts[j]? with
   | some (.nd us)=>mj δ1 λn' _=>asI n'.data λk'=>match ixN us.length k' with
    | some j'=>D.nx (δ1.set i (some (.nd (ts.set j (.nd (us.set j' (.fz r.data)))))))
    | none=>False
   | _=>False
  | none=>False
 | _=>False
theorem SE.pureAfter{t:TE}{C:MC G}{H:Hp}{σ:St}{δ:Zi}{fp:Fp}{ex:Addr->Prop}{K':OT->Zi->Prop}{Q:VK}(s:SE G io true c t m)(R:Rel C io H σ δ fp ex)(h:m δ K')(k:∀H' v r,Rel C io H' σ δ fp ex->Same H H'->Da G H' (λa=>c=true->Lf C fp ex a) v r.data->K' r δ->Q v H'):t σ H Q :=
 s C H σ δ fp ex _ _ R h λH1 v r δ1 fp1 new r1 h1=>by
  obtain⟨e1,e2⟩:=r1.stp.env rfl
  have q:=r1.da R
  have R1:=r1.base
  rw[e1]at R1 h1
  rw[e2]at R1 q
  exact k H1 v r R1 (λb o e=>r1.stp.keep b o e (.inl rfl)) q h1
theorem Owns.deep{H:Hp}{L:Addr->Prop}{b':Addr}{ws ws':List V}{us us':List OT}(hb:H b'=Bo (HO.lst ws))(hL:¬L b')(hc:∀cs,Owns G H L ws us cs->∃cs',Owns G H L ws' us' cs'∧cs'.Sublist cs) :
  ∀{xs:List V} {ts:List OT} {as:List Addr} {j:Nat},Owns G H L xs ts as->as.Nodup->xs[j]? =Bo (.ref b')->ts[j]? =Bo (.nd us)->∃as',Owns G (upd H b' (.lst ws')) L xs (ts.set j (.nd us')) as'∧as'.Sublist as∧b'∈as
 | _,_,_,_,.nil,_,e,_=>by simp at e
 | _,_,_,0,.cons (as:=as) (bs:=bs) k t,nd,e,e'=>by
  simp at e e'
  subst e e'
  have nd':=V0.mp nd
  have kp:∀a o,a≠b'->H a=Bo o->upd H b' (.lst ws') a=Bo o:=λa o n q=>by rw[Z6 n];exact q
  have f1:∀a (zs:MuO),L a->Rd H a zs.ho->L a∧Rd (upd H b' (.lst ws')) a zs.ho:=λa zs l q=>⟨l,by
   have na:a≠b':=λz=>hL (z▸l)
   rcases q with q|⟨u,q⟩
   ·exact .inl (kp a _ na q)
   ·exact .inr ⟨u,kp a _ na q⟩⟩
  have f2:∀a (zs:ImO),H a=Bo zs.ho->upd H b' (.lst ws') a=Bo zs.ho:=λa zs q=>kp a _ (λz=>ImO.nl q (z▸hb)) q
  cases k with
  | nd h r=>
   rename_i xs0 as0
   rw[hb]at h
   cases h
   have nd2:=Q0.mp nd'.1
   obtain⟨cs',o',s'⟩:=hc _ r
   refine⟨b' :: cs' ++ bs,.cons (.nd Yn (o'.frame f1 f2 λa m zs q=>kp a _ (λz=>nd2.1 (s'.subset (z▸m))) q)) (t.frame f1 f2 λa m zs q=>kp a _ (λz=>nd'.2.2 b' (.head _) a m z.symm) q),List.Sublist.append_right (List.Sublist.cons₂ _ s') bs,BW _ (.head _)⟩
 | _,_,_,j+1,.cons (as:=as) (bs:=bs) k t,nd,e,e'=>by
  have nd':=V0.mp nd
  obtain⟨as',o,s,m⟩:=Owns.deep hb hL hc (j:=j) t nd'.2.1 (by simpa using e) (by simpa using e')
  have nb:b'∉as:=λz=>nd'.2.2 b' z b' m rfl
  refine⟨as ++ as',.cons ?_ o,List.Sublist.append_left s as,Qq _ m⟩
  have kp:∀a o,a≠b'->H a=Bo o->upd H b' (.lst ws') a=Bo o:=λa o n q=>by rw[Z6 n];exact q
  refine k.frame (λa zs l q=>⟨l,?_⟩) (λa zs q=>kp a _ (λz=>ImO.nl q (z▸hb)) q) λa m' zs q=>kp a _ (λz=>nb (z▸m')) q
  have na:a≠b':=λz=>hL (z▸l)
  rcases q with q|⟨u,q⟩
  ·exact .inl (kp a _ na q)
  ·exact .inr ⟨u,kp a _ na q⟩
theorem Zgw(i:Nat)(he:ME X io p true e m)(hj:ME X io true c a mi)(hk:ME X io true c' b mj)(hPa:Zkr a)(hN:X.N[i]? =some x:=by rfl)(hv:Vis X.env.scope x:=by first|exact QS rfl|exact QG (QS rfl)|exact QG (QG rfl))(hd:(x==("__debug__" : Str))=false:=by decide)
  (hcd:(x==("__classdict__" : Str))=false:=by decide)
  (hpg:∀{to ti:TE},PE X (.Subscript (.Name x px) a pp) to->PE X b ti->PG X (.Subscript (.Subscript (.Name x px) a pp) b p2) (Ybp to ti Z2w):=by intro _ _ A B;exact Z3l A B set_list)
  (hs:swapsWithSole [.Subscript (.Subscript (.Name x px) a pp) b p2] e pos.line X.env=pure false:=by rfl) (hw:swappedStores [.Subscript (.Subscript (.Name x px) a pp) b p2] e X.env=pure none:=by rfl)
  (h1:(JF [.Subscript (.Subscript (.Name x px) a pp) b p2] X.env).map (·.2)=[Uq (.Subscript (.Subscript (.Name x px) a pp) b p2) X.env]:=by rfl) :
  MS X io (.Assign [.Subscript (.Subscript (.Name x px) a pp) b p2] e pos) (Z20 i m mi mj):=by
 obtain⟨_,A,s⟩:=he
 obtain⟨_,B,sj⟩:=hj
 obtain⟨_,B2,sk⟩:=hk
 refine⟨_,Zw6 A (hpg (Z6m (Zwa rfl) (pv i hN hv hd hcd) B hPa) B2) hs hw h1,λC H σ δ fp ex D D' R h E=>?_⟩
 refine s C H σ δ fp ex _ _ R h λH1 v r δ1 fp1 new r1 h1=>?_
 have R1:=r1.base
 have q:=(r1.da R).wide (L':=Lf C fp1 ex) λa l _=>l rfl
 split at h1
 case h_2=>exact h1.elim
 rename_i ts hi
 obtain⟨a',_,_,hv0,_⟩:=R1.ownNd hi
 refine⟨_,hv0,?_⟩
 refine sj.pureAfter R1 h1 λH2 w n R2 s2 q2 h2=>?_
 obtain⟨k,rfl,h2⟩:=q2.intInv h2
 split at h2
 case h_2=>exact h2.elim
 rename_i j hj
 split at h2
 case h_2=>exact h2.elim
 rename_i us hus
 -- the row
 obtain⟨a2,xs2,bs2,hv2,hx2,o2,hf2⟩:=R2.ownNd hi
 rw[hv0]at hv2
 cases hv2
 obtain⟨xr,cr,hxr,orow,_⟩:=o2.get hus
 obtain⟨b',rfl⟩:∃b',xr=V.ref b':=by
  cases orow with
  | nd h r=>exact⟨_,rfl⟩
 refine⟨a',xs2,k,V.ref b',rfl,rfl,.inl (.inl hx2),?_,?_⟩
 ·unfold atI
  rw[o2.length,hj]
  exact hxr
 refine sk.pureAfter R2 h2 λH3 w' n' R3 s3 q3 h3=>?_
 obtain⟨k',rfl,h3⟩:=q3.intInv h3
 split at h3
 case h_2=>exact h3.elim
 rename_i j' hj'
 obtain⟨a3,xs3,bs3,hv3,hx3,o3,hf3⟩:=R3.ownNd hi
 rw[hv0]at hv3
 cases hv3
 have exs:xs3=xs2:=by
  have:=s3 _ _ hx2
  rw[hx3]at this
  cases this;rfl
 subst exs
 obtain⟨xr3,cr3,hxr3,orow3,hsub3⟩:=o3.get hus
 rw[hxr]at hxr3
 cases hxr3
 have nd3:=R3.nd i
 rw[hf3]at nd3
 have hn3:=Q0.mp nd3
 cases orow3 with
 | nd hb r3=>
  rename_i ws3 bs4
  have hbm:b'∈bs3:=hsub3.subset (.head _)
  have hbf:b'∈fp1 i:=by rw[hf3];exact .tail _ hbm
  have hLb:¬Lf C fp1 ex b':=λl=>l.1 ⟨i,hbf⟩
  obtain⟨as',oo,ss,_⟩:=Owns.deep (ws':=ws3.set j' v) (us':=us.set j' (.fz r.data)) hb hLb (λcs hcs=>Owns.set (.fz ((q.same s2).same s3)) j' hcs) o3 hn3.2 hxr hus
  refine⟨b',ws3,k',j',rfl,rfl,hb,by rw[r3.length];exact hj',?_⟩
  have hba:a'≠b':=λz=>hn3.1 (z▸hbm)
  -- the change
  have sub:∀a,a∈a' :: as'->a∈fp1 i:=λa m=>by
   rw[hf3]
   rcases Xu.mp m with rfl|m
   ·exact .head _
   ·exact .tail _ (ss.subset m)
  have kp:∀b o,H3 b=some o->b≠b'->upd H3 b' (.lst (ws3.set j' v)) b=some o:=λb o e n=>by rw[Z6 n];exact e
  have lw:∀a,Lf C fp1 ex a->upd H3 b' (.lst (ws3.set j' v)) a≠none->Lf C (fpu fp1 i (a' :: as')) (exu ex []) a:=λa l _=>⟨λz=>by
   rcases z.of_u with z|⟨j,_,z⟩
   ·exact l.1 ⟨i,sub a z⟩
   ·exact l.1 ⟨j,z⟩,λz=>l.2.1 (Zdr.mp z),l.2.2⟩
  obtain⟨R4,S4⟩:=R3.change (new:=[]) (as':=a' :: as') (t':=.nd (ts.set j (.nd (us.set j' (.fz r.data))))) (H':=upd H3 b' (.lst (ws3.set j' v))) hi hv0 (λb o e nb=>kp b o e λz=>nb (by rw[z];exact hbf)) (λb e=>by
    by_cases q:b=b'
    ·subst q;rw[Yn]at e;cases e
    ·rwa[Z6 q]at e) (.nd (by rw[Z6 hba];exact hx3) (oo.wide lw)) (Q0.mpr ⟨λm=>hn3.1 (ss.subset m),hn3.2.sublist ss⟩) (λa m=>.inl (sub a m)) (λa m=>nomatch m)
  have k23:Kp H1 fp1 H3 fp1:=⟨λb o e _=>s3 _ _ (s2 _ _ e),λz=>(nomatch z),λa z=>.inl z,λb e=>s2.al b (s3.al b e)⟩
  exact E.nx _ σ _ _ (R4.drop λa z=>.inl z) (r1.stp.kp.trans (k23.trans S4.kp)) h3
end
variable {G:Xb}
mutual
noncomputable def Ziu:OT->Bool
 | .fz d=>Zce d
 | .nd ts=>Zi1 ts
 | .tp ts=>Zi1 ts
 | .dc _ _ _=>false
noncomputable def Zi1:List OT->Bool
 | []=>true
 | t :: ts=>Ziu t&&Zi1 ts
end
theorem Own.flat2{H:Hp}{L L':Addr->Prop}:(∀{v:V} {t:OT} {as:List Addr},Own G H L v t as->Ziu t=true->Own G H L' v t as)∧∀{v:List V} {t:List OT} {as:List Addr},Owns G H L v t as->Zi1 t=true->Owns G H L' v t as :=
 Own.both (λq h=>.fz (q.flat (by rw[Ziu]at h;exact h))) (λe r h=>.nd e (r (by rw[Ziu]at h;exact h))) (λe r h=>.tp e (r (by rw[Ziu]at h;exact h))) (λ_ _ _ h=>by rw[Ziu]at h;cases h) (λ_=>.nil) (λk r h=>by rw[Zi1,Xo]at h;exact .cons (k h.1) (r h.2))
theorem Own.flat{H:Hp}{L L':Addr->Prop}{v:V}{t:OT}{as:List Addr}(h:Own G H L v t as)(f:Ziu t=true):Own G H L' v t as:=Own.flat2.1 h f
section
variable {X:Cx}{io:List Nat}{p c:Bool}{e:Expr}{m:MEt}
noncomputable def Zwz(m:MEt):MEt:=λδ K=>m δ λr δ'=>Ziu r=true∧K r δ'
theorem Zyv(h:ME X io p c e m):ME X io p true e (Zwz m):=by
 obtain⟨_,A,s⟩:=h
 exact⟨_,A,λC H σ δ fp ex K Q R h k=>s C H σ δ fp ex _ _ R h λH' v r δ' fp' new r1 h1=>k H' v r δ' fp' new ⟨r1.rel,r1.stp,r1.own.flat h1.1,r1.nd,r1.fresh⟩ h1.2⟩
theorem Rel.freeze{C:MC G}{H:Hp}{σ:St}{δ:Zi}{fp:Fp}{ex:Addr->Prop}{i:Nat}{t:OT}(R:Rel C io H σ δ fp ex)(hio:i∉io)(hi:δ[i]? =some (some t)):Rel C io H σ (δ.set i (some (.fz t.data))) (fpu fp i []) ex:=by
 have hil:i<δ.length:=(Xk.mp hi).1
 have sub:∀j a,a∈fpu fp i [] j->j≠i∧a∈fp j:=λj a m=>by
  by_cases ej:j=i
  ·subst ej;rw[Ym]at m;exact nomatch m
  ·rw[Ws ej]at m;exact⟨ej,m⟩
 have lw:∀a,Lf C fp ex a->Lf C (fpu fp i []) ex a:=λa l=>⟨λ⟨j,z⟩=>l.1 ⟨j,(sub j a z).2⟩,l.2.1,l.2.2⟩
 have ln:∀a∈fp i,Lf C (fpu fp i []) ex a:=λa m=>⟨λ⟨j,z⟩=>(sub j a z).1 (R.dj j i a (sub j a z).2 m),R.dx i a m,.inr (by
  rcases R.new i a m with z|z
  ·exact absurd z.1 hio
  ·exact z)⟩
 refine⟨by rw[Vz];exact R.len,λj t' e=>?_,λj h=>?_,λj=>?_,λj k a h1 h2=>R.dj j k a (sub j a h1).2 (sub k a h2).2,λj a h z=>R.dx j a (sub j a h).2 z,R.xa,R.fr,R.al,λj a h=>R.new j a (sub j a h).2,R.io⟩
 ·by_cases ej:j=i
  ·subst ej
   rw[QQ hil]at e
   cases e
   obtain⟨v,e1,o⟩:=R.own j t hi
   exact⟨v,e1,by rw[Ym];exact .fz (o.da (λa l _=>lw a l) ln)⟩
  ·rw[Qw (Vi ej)]at e
   obtain⟨w,e1,o⟩:=R.own j t' e
   exact⟨w,e1,by rw[Ws ej];exact o.wide λa l _=>lw a l⟩
 ·by_cases ej:j=i
  ·subst ej;rw[Ym]
  ·rw[Ws ej]
   exact R.emp j λt' z=>h t' (by rw[Qw (Vi ej)];exact z)
 ·by_cases ej:j=i
  ·subst ej;rw[Ym];exact .nil
  ·rw[Ws ej];exact R.nd j
noncomputable def Zk6(i:Nat)(u:MSt):MSt:=λD δ=>match δ[i]? with|some (some t)=>u D (δ.set i (some (.fz t.data)))|_=>False
theorem Zfg{st:Stmt}{u:MSt}(i:Nat)(h:MS X io st u)(hio:i∉io:=by decide):MS X io st (Zk6 i u):=by
 obtain⟨_,A,s⟩:=h
 exact⟨_,A,λC H σ δ fp ex D D' R h E=>by
  unfold Zk6 at h
  split at h
  case h_2=>exact h.elim
  rename_i t hi
  refine s C H σ _ _ ex D D' (R.freeze hio hi) h (E.shift ⟨λb o e _=>e,λz=>(nomatch z),λa z=>?_,λb e=>e⟩)
  rcases z.of_u with z|⟨j,_,z⟩
  ·exact nomatch z
  ·exact .inl ⟨j,z⟩⟩
end
variable {G:Xb}
noncomputable def Z2e(ds:List Xa)(k:OT->Prop):Prop:=∃ns:List Int,ds=[.list (ns.map Xl)]∧ns.length≤63∧k (.fz (.bool true))
theorem Z23{H:Hp}{a:Addr}{ns:List Int}{E:XK}(hl:ns.length≤63)(h:SqL G H a (ns.map V.int)):spD G Z2e [.ref a] H (λv _=>v= .bl true) E:=by
 refine⟨λ_=>True,[.list (ns.map Xl)],λr=>r= .fz (.bool true),.cons ?_ .nil,⟨ns,rfl,hl,rfl⟩,λr v H' new kr s o _ _=>?_⟩
 ·rcases h with h|h
  ·exact .lst trivial h (.ints ns)
  ·exact .scr h
 ·subst kr
  cases o with
  | fz q=>cases q;rfl
section
variable {P:XH}{w:Qo}{mg:Str->Option Xc}{base:Heap}{CX:CXT}{n:Nat}{f:Addr}{fd:Xx}{ps:List Str}
noncomputable def plT(a b c:Int):OT:=.nd [.fz (.int a),.fz (.int b),.fz (.int c)]
noncomputable def PlT(t:OT)(n:Nat):Prop:=∃a b c:Int,t=plT a b c∧0≤c∧c≤n
theorem PlT.mono{t:OT}{m n:Nat}(h:PlT t m)(k:m≤n):PlT t n:=by
 obtain⟨a,b,c,e,h1,h2⟩:=h
 exact⟨a,b,c,e,h1,by omega⟩
theorem Pl.own{H:Hp}{L:Addr->Prop}{p:Addr}{n:Nat}(h:Pl H p n):∃t,PlT t n∧Own G H L (.ref p) t [p]:=by
 obtain⟨a,b,c,e,h1,h2⟩:=h
 exact⟨plT a b c,⟨a,b,c,rfl,h1,h2⟩,.nd e (.cons (.fz (.int a)) (.cons (.fz (.int b)) (.cons (.fz (.int c)) .nil)))⟩
theorem Da.ints_sq{H:Hp}{L:Addr->Prop}{v:V}{ns:List Int}(h:Da G H L v (.list (ns.map Xl))):∃a,v= .ref a∧SqL G H a (ns.map V.int):=by
 generalize e:QT (ns.map Xl)=d at h
 cases h with
 | lst l e1 r=>
  cases e
  rw[r.int_inv]at e1
  exact⟨_,rfl,.inl e1⟩
 | scr k=>
  rename_i a ms
  have e':=PyData.list.inj e
  have:ns=ms:=(List.map_inj_right (λ_ _ h=>by cases h;rfl)).mp e'
  subst this
  exact⟨_,rfl,k.sq⟩
 | _=>cases e
end
@[simp] theorem Zij:OT.datas []=[]:=rfl
@[simp] theorem Zgd(t:OT)(ts:List OT):OT.datas (t :: ts)=t.data :: OT.datas ts:=rfl
theorem Zm1{α:Type}{xs:List α}{i:Int}(h0:0≤i):atI xs i=xs[i.toNat]?:=by
 unfold atI ixN
 rw[if_pos h0]
 split
 ·rfl
 ·rename_i h
  symm
  exact Qg.mpr (by omega)
theorem Zg4{α:Type}{xs:List α}{i:Nat}:atI xs (i:Int)=xs[i]?:=by
 rw[Zm1 (by omega),Qj]
@[simp] theorem Yev{α:Type}(x:α)(xs:List α):atI (x :: xs) 0=some x:=by
 rw[Zm1 (by decide)];rfl
@[simp] theorem Ydr{α:Type}(x y:α)(xs:List α):atI (x :: y :: xs) 1=some y:=by
 rw[Zm1 (by decide)];rfl
@[simp] theorem Ydj{α:Type}(x y z:α)(xs:List α):atI (x :: y :: z :: xs) 2=some z:=by
 rw[Zm1 (by decide)];rfl
@[simp] theorem Z7b(ds:List Xa)(i:Int):ixD (.list ds) (.int i)=atI ds i:=rfl
@[simp] theorem Yag(ds:List Xa)(i:Int):ixD (.tuple ds) (.int i)=atI ds i:=rfl
@[simp] theorem Z4s(ds:List Xa):Zvg (.list ds)=some ds.length:=rfl
@[simp] theorem Z7l(ds:List Xa):Zvg (.tuple ds)=some ds.length:=rfl
noncomputable def Zb4(r:List Rat):Xa:=.list (r.map frD)
noncomputable def tbD(T:List (List Rat)):Xa:=.list (T.map Zb4)
noncomputable def Z69(r:List Rat):OT:=.nd (r.map λq=>.fz (frD q))
noncomputable def tbT(T:List (List Rat)):OT:=.nd (T.map Z69)
@[simp] theorem Zss(r:List Rat):(Z69 r).data=Zb4 r:=by
 unfold Z69 Zb4
 rw[OT.data_nd,Qx]
 rfl
@[simp] theorem Z70(T:List (List Rat)):(tbT T).data=tbD T:=by
 unfold tbT tbD
 rw[OT.data_nd,Qx]
 exact congrArg QT (Xz λr _=>Zss r)
noncomputable def Sq(n:Nat)(T:List (List Rat)):Prop:=T.length=n∧∀r∈T,r.length=n
noncomputable def dd(T:List (List Rat))(i j:Nat):Rat:=(T.getD i []).getD j 0
@[simp] theorem Z9x(T:List (List Rat)):Zvg (tbD T)=some T.length:=by unfold tbD Zvg;simp
@[simp] theorem Z7j(r:List Rat):Zvg (Zb4 r)=some r.length:=by unfold Zb4 Zvg;simp
@[simp] theorem Yau(q:Rat):Zce (frD q)=true:=by unfold frD fr;simp[Zce,Zm4]
theorem Zrx{n a:Nat}(h:a<n):ixN n (a:Int)=some a:=by
 unfold ixN
 rw[if_pos (by omega),if_pos (by omega)];simp
theorem Sq.ixN{n a:Nat}{T:List (List Rat)}(h:Sq n T)(ha:a<n):ixN (T.map Z69).length (a:Int)=some a:=Zrx (by rw[Xg,h.1];exact ha)
theorem Zk0{d:Xa}(h:Yq d=true):Qz d d=true:=Zrm h h rfl
structure Sh(n:Nat)(d:Xa):Prop where
 lay:Be d=true
 dep:PyData.depth d≤n
theorem Sh.shp{n:Nat}{d:Xa}(h:Sh n d)(hn:n≤64:=by decide):Z5h d:=⟨by
 show(Be d&&decide (PyData.depth d≤64))=true
 rw[h.lay,decide_eq_true (Qt h.dep hn)];rfl⟩
theorem Sh.mono{m n:Nat}{d:Xa}(h:Sh m d)(k:m≤n):Sh n d:=⟨h.lay,Qt h.dep k⟩
theorem Zmk{n:Nat}:∀{ds:List Xa},(∀d∈ds,Sh n d)->JK ds=true∧Ue ds≤n
 | [],_=>⟨by rw[JK],by rw[Ue];exact QV _⟩
 | d :: ds,h=>by
  obtain⟨h1,h2⟩:=Zmk λe m=>h e (.tail _ m)
  have h3:=h d (.head _)
  refine⟨by rw[JK,h3.lay,h1];rfl,?_⟩
  rw[Ue]
  exact Nat.max_le.mpr ⟨h3.dep,h2⟩
theorem Zdn{n:Nat}{ds:List Xa}(h:∀d∈ds,Sh n d):Sh (n+1) (.list ds) :=
 ⟨by rw[Be];exact(Zmk h).1,by rw[PyData.depth];exact Nat.succ_le_succ (Zmk h).2⟩
theorem Zl4{n:Nat}{ds:List Xa}(h:∀d∈ds,Sh n d):Sh (n+1) (.tuple ds) :=
 ⟨by rw[Be];exact(Zmk h).1,by rw[PyData.depth];exact Nat.succ_le_succ (Zmk h).2⟩
theorem Zop(i:Int):Sh 0 (.int i):=⟨rfl,Nat.le_of_eq rfl⟩
theorem Zur(q:Rat):Sh 1 (frD q):=Zl4 λd m=>by
 simp at m
 rcases m with rfl|rfl<;>exact Zop _
theorem Z6t(r:List Rat):Sh 2 (Zb4 r):=Zdn λd m=>by
 obtain⟨q,_,rfl⟩:=Qi.mp m
 exact Zur q
section
variable {X:Cx}{pins:List (Addr×Obj)}{σ:St}{H:Hp}{s:Xd}
theorem Inv.turnTup{h':Heap}{ch:List Addr}{T:Addr}{xs:List V}{its:List Xc}(I:Inv X pins σ H s)(f:∀b∈ch,Zlk X pins H b)(k:∀b o,b∉ch->s.heap.get? b=some o->h'.get? b=some o)
  (th:∀b∈ch,∃o,h'.get? b=some o) (hT:s.heap.objs.size≤T) (hz:xs.length≤Xr) (r:Vals xs its) (ht:IsTup h' T its.toArray):Inv X pins σ (upd H T (.tup xs)) { s with heap:=h' }:=by
 have hn:H T=none:=I.hok.fresh hT
 have nch:∀b u,H b=some u->b∉ch:=λb u e z=>by rw[(f b z).1]at e;cases e
 have new:ObjOk X.prog X.w (upd H T (.tup xs)) h' T (.tup xs):=⟨hz,its,r,ht⟩
 refine I.call (ch:=ch) (g':=s.gens) (d':=s.drawn) (t':=s.toks) ⟨λb o e _ _ hc=>k b o hc e,λb o e _ _ hc=>⟨o.slots,k b o hc e⟩,λb o e n _=>?_,λb o e hc=>?_,λb ys e=>?_,λb o u e=>?_,λb ps e=>?_⟩ (λb u e=>?_) I.bare (λb hb=>?_)
 ·rw[Z6 (λz=>by rw[z]at e;exact absurd (XD e) (Nat.not_lt.mpr hT))];exact n
 ·exact⟨o,k b o hc e⟩
 ·rw[Z6 (Wd e hn)];exact e
 ·rw[Z6 (Wd e hn)];exact e
 ·exact⟨#[],by rw[Z6 (Wd e hn),e];simp⟩
 ·by_cases hb:b=T
  ·subst hb;rw[Yn]at e;cases e;exact new
  ·rw[Z6 hb]at e
   refine(I.hok b u e).stay (λc v hc q=>k c v ?_ q) (λc q=>by rw[Z6 (Wd q hn)];exact q) λc ys q=>by rw[Z6 (Wd q hn)];exact q
   rcases hc with rfl|hc
   ·exact nch _ _ e
   ·exact nch _ _ hc
 ·obtain⟨f0,f1,f2,f3,f4,f5⟩:=f b hb
  exact⟨f3,f1,f4,f5⟩
theorem Inv.turnAll{h':Heap}{ch:List Addr}(I:Inv X pins σ H s)(f:∀b∈ch,Zlk X pins H b)(k:∀b o,b∉ch->s.heap.get? b=some o->h'.get? b=some o):Inv X pins σ H { s with heap:=h' }:=by
 have nch:∀b u,H b=some u->b∉ch:=λb u e z=>by rw[(f b z).1]at e;cases e
 refine I.call (ch:=ch) (g':=s.gens) (d':=s.drawn) (t':=s.toks) ⟨λb o e _ _ hc=>k b o hc e,λb o e _ _ hc=>⟨o.slots,k b o hc e⟩,λb o e n _=>n,λb o e hc=>⟨o,k b o hc e⟩,λb ys e=>e,λb o u e=>e,λb ps e=>⟨#[],by rw[e];simp⟩⟩ (λb u e=>?_) I.bare (λb hb=>?_)
 ·refine(I.hok b u e).stay (λc v hc q=>k c v ?_ q) (λc q=>q) λc ys q=>q
  rcases hc with rfl|hc
  ·exact nch _ _ e
  ·exact nch _ _ hc
 ·obtain⟨f0,f1,f2,f3,f4,f5⟩:=f b hb
  exact⟨f3,f1,f4,f5⟩
end
variable {G:Xb}
section
variable {X:Cx}{io:List Nat}{p c:Bool}{e a b tg:Expr}{m:MEt}{mr:MAt}
theorem Rel.keptList{C:MC G}{H:Hp}{σ:St}{δ:Zi}{fp:Fp}{ex:Addr->Prop}{v:V}{ds:List Xa}(R:Rel C io H σ δ fp ex)(q:Da G H (λa=>c=true->Lf C fp ex a) v (.list ds)) :
  ∃a xs,v= .ref a∧∀H':Hp,(∀b o,H b=some o->(c=false∨¬Foot fp b)->H' b=some o)->SqL G H' a xs∧Das G H' (λa=>c=true->(Lf C fp ex a∧H a≠none)) xs ds:=by
 generalize hd:QT ds=d at q
 cases q with
 | lst l e r=>
  cases hd
  rename_i a0 xs0
  refine⟨a0,xs0,rfl,λH' kp=>?_⟩
  obtain⟨f1,f2⟩:=R.kept kp
  exact⟨.inl (f1 _ (.lst _) l e).2,r.frame f1 f2⟩
 | scr k=>
  rename_i a ns
  have:=PyData.list.inj hd
  subst this
  exact⟨a,_,rfl,λH' _=>⟨k.sq,.ints ns⟩⟩
 | _=>cases hd
noncomputable def Zpj(as bs:List Xa):List Xa:=(as.zip bs).map λx=>.tuple [x.1,x.2]
theorem Zv1{as bs:List Xa}{i:Nat}{d:Xa}(h:(Zpj as bs)[i]? =some d):∃x y,as[i]? =some x∧bs[i]? =some y∧d= .tuple [x,y]:=by
 unfold Zpj at h
 rw[Xm]at h
 cases e:(as.zip bs)[i]? with
 | none=>rw[e]at h;cases h
 | some z=>
  rw[e]at h
  cases h
  obtain⟨h1,h2⟩:=U5.mp e
  exact⟨z.1,z.2,h1,h2,rfl⟩
theorem Zst{as bs:List Xa}{i:Nat}(h:(Zpj as bs)[i]? =none):as.length≤i∨bs.length≤i:=by
 unfold Zpj at h
 have:=Qg.mp h
 simp at this
 omega
@[simp] theorem Zyn(as bs:List Xa):(Zpj as bs).length=min as.length bs.length:=by simp[Zpj]
end
variable {G:Xb}
section
variable {X:Cx}{io:List Nat}{c1 c2 c3:Bool}{a b e:Expr}{ma mb mc:MEt}{pos:Pos}{f g:Int->Int->Bool}
end
theorem Zf2:∀{ns:List Int} {its:List Xc},Vals (ns.map V.int) its->∃xs:List (Int×Tok),its=xs.map (λp=>Value.int p.1 p.2)∧xs.map (·.1)=ns
 | [],_,.nil=>⟨[],rfl,rfl⟩
 | n :: ns,_,.cons r rs=>by
  obtain⟨t,e⟩:=(show∃t,_=Value.int n t from r)
  obtain⟨xs,h1,h2⟩:=Zf2 rs
  exact⟨(n,t) :: xs,by rw[e,h1];rfl,by rw[Ql,h2]⟩
noncomputable def Yc3(K:Xb):List V->Hp->VK->Prop:=λxs H Q=>∃(a:Addr) (ns:List Int),xs=[.ref a]∧SqL K H a (ns.map V.int)∧Q (.int ns.sum) H
theorem Zig{X:Cx}{K:Xb}(hK:X.K=K)(hc:X.calm=true):Zcd X (.builtin "sum") (Yc3 K):=by
 subst hK
 intro pins s σ H xs us Q I r h
 obtain⟨a,ns,rfl,hs,q⟩:=h
 obtain⟨u,rfl,ru⟩:=vals1 r
 cases(show u=QX a from ru)
 obtain⟨its,rv,pl,hz⟩:=I.list hs
 obtain⟨ps,rfl,e2⟩:=Zf2 rv
 refine sum_intListG (xs:=ps.toArray) (I.ok.hd hc) (by simpa [intItems]using pl.isList) λh' tk t' hk=>?_
 refine⟨.int ns.sum,H,I.kept (t':=tk) hk,⟨t',?_⟩,q⟩
 congr 1
 rw[preSum_eq,List.take_of_length_le (by simp)]
 show(ps.map (·.1)).sum=ns.sum
 rw[e2]
noncomputable def Ydg:List Xa->(Xa->Prop)->Prop:=λds k=>n1 (λd=>∃ns:List Int,d= .list (ns.map Xl)∧k (.int ns.sum)) ds
theorem Ztb:PNs G (Yc3 G) Ydg:=λH L xs ds k Q hx h kk=>by
 obtain⟨v,d,rfl,rfl,q,ns,e,h'⟩:=hx.one h
 subst e
 obtain⟨a,rfl,hs⟩:=q.ints_sq
 exact⟨a,ns,rfl,hs,kk _ _ (.int _) h'⟩
section
variable {X:Cx}{io:List Nat}{p c:Bool}{a b e:Expr}{ma mb m:MEt}{pos pl:Pos}
noncomputable def Ycm(m mb:MEt):MEt:=λδ K=>m δ λr δ1=>mb δ1 λn _=>asI n.data λk=>(-(2^63)≤k∧k<2^63∧k.toNat≤Xr)∧K (.nd (Xy k.toNat (.fz r.data))) δ1
theorem Zpe{α:Type}(x:α):∀n:Nat,(Xy n [x]).flatten=Xy n x
 | 0=>rfl
 | n+1=>by rw[Vb,V2,Zpe x n];rfl
theorem Das.rep{H:Hp}{L:Addr->Prop}{v:V}{d:Xa}(h:Da G H L v d):∀n:Nat,Das G H L (Xy n v) (Xy n d)
 | 0=>.nil
 | n+1=>.cons h (Das.rep h n)
theorem Z5b(ha:ME X io p true a m)(hb:ME X io true c b mb)(hs:Xq [a] X.env=(false,eval a X.env) :: Xq [] X.env:=by rfl):ME X io p true (.BinOp (.List [a] pl) .Mult b pos) (Ycm m mb):=by
 obtain⟨_,A,sa⟩:=ha
 obtain⟨_,B,sb⟩:=hb
 refine⟨_,Z0w Z6k (Zxu (Zja A Zod hs)) B,λC H σ δ fp ex K Q R h k=>?_⟩
 refine sa C H σ δ fp ex _ _ R h λH1 v r δ1 fp1 new r1 h1=>⟨(by show 1≤Xr;decide),λl hl=>?_⟩
 have R1:=r1.base
 have s1:=Yl hl (.lst [v])
 refine sb.pureAfter (R1.mk0 s1) h1 λH2 w n R2 s2 q2 h2=>?_
 obtain⟨i,rfl,h2⟩:=q2.intInv h2
 have q:=(((r1.da R).wide (L':=Lf C fp1 ex) λa l _=>l rfl).same s1).same s2
 refine⟨l,i,[v],rfl,rfl,s2 _ _ Yn,h2.1.1,h2.1.2.1,by show 1*i.toNat≤Xr;rw[Nat.one_mul];exact h2.1.2.2,λt ht=>?_⟩
 rw[Zpe]
 have S:Stp p H δ fp H2 δ1 fp1:=by
  have:=r1.stp.trans (p':=true) (Stp.same (p:=true) (δ:=δ1) (fp:=fp1) (s1.trans s2) (s1.trans s2).al)
  rwa[Bool.and_true]at this
 refine k _ _ _ δ1 fp1 [t] (RE.tree R R2 S (Yl ht _) (Zcv ht) (Zff t) ?_) h2.2
 have:=Own.list ht ((Das.rep q i.toNat).wide (L':=λa=>true=true->Lf C fp1 ex a) λa l _ _=>l)
 rwa[List.map_replicate]at this
end
structure Apart(X:Cx)(pins:List (Addr×Obj))(H:Hp)(b:Addr):Prop where
 fr:H b=none
 new:X.s₀.heap.get? b=none
 loc:b≠X.env.locals
 cel:∀x c,X.env.cells.lookup x=some c->c≠b
 pin:∀p∈X.pn ++ pins,p.1≠b
section
variable {X:Cx}{pins:List (Addr×Obj)}{σ:St}{H H':Hp}{s:Xd}{h':Heap}{b a C:Addr}
noncomputable def Fl(ap:Addr->Prop)(C a:Addr)(fl:Xc)(h:Heap):Prop:=∃a0 oe vs T oT ts,h.get? a=some oe∧(oe.cls= .ref C∧vs[0]? =some a0)∧oe.data= .fields vs∧vs[1]? =some (.ref T)∧T≠a∧h.get? T=some oT∧oT.data= .fields ts∧ts[3]? =some fl∧ap a∧ap T
noncomputable def Fl0(ap:Addr->Prop)(C a:Addr)(h:Heap):Prop:=∃a0 oe vs,h.get? a=some oe∧(oe.cls= .ref C∧vs[0]? =some a0)∧oe.data= .fields vs∧vs[1]? =some .none∧ap a
noncomputable def FlA(ap:Addr->Prop)(fl:Xc)(C a:Addr)(h:Heap):Prop:=Fl ap C a .none h∨Fl0 ap C a h∨Fl ap C a fl h
theorem Fl.imp{ap ap':Addr->Prop}{fl:Xc}{h:Heap}(f:∀b,ap b->ap' b)(x:Fl ap C a fl h):Fl ap' C a fl h:=by
 obtain⟨a0,oe,vs,T,oT,ts,h1,h2,h3,h4,h5,h6,h7,h8,h9,h10⟩:=x
 exact⟨a0,oe,vs,T,oT,ts,h1,h2,h3,h4,h5,h6,h7,h8,f _ h9,f _ h10⟩
section
variable {M:Model}{A:Qk}{E:Xc->Xd->Prop}{Q:Unit->Xd->Prop}{ch:List Addr}
end
end
noncomputable def Z2n(K:Xb)(C:Addr):Prop:=PySem.W.excIn K C [.type "ValueError",.type "Exception",.type "BaseException",.type "object"] "ValueError.__new__"=true
noncomputable abbrev MXt:=Zi->(Addr->Zi->Prop)->Prop
noncomputable def XW(X:Cx)(C:MC X.K)(io:List Nat)(pins:List (Addr×Obj))(ex:Addr->Prop)(H:Hp)(fp:Fp)(k:Addr->Zi->Prop)(e:Xc)(s':Xd):Prop :=
 ∃a cl σ' H' δ' fp',e= .ref a∧Inv X pins σ' H' s'∧FlA (Apart X pins H') (rawInt X.env.locals) cl a s'.heap∧Rel C io H' σ' δ' fp' ex∧Kp H fp H' fp'∧k cl δ'
noncomputable def XS(X:Cx)(io:List Nat)(st:Stmt)(m:MXt):Prop:=∀(C:MC X.K) (pins:List (Addr×Obj)) (s:Xd) (σ:St) (H:Hp) (δ:Zi) (fp:Fp) (ex:Addr->Prop) (k:Addr->Zi->Prop),Inv X pins σ H s->Rel C io H σ δ fp ex->m δ k ->
 XQ (X7 X.prog X.w) X.A (exec st X.env) (λ_ _=>False) (XW X C io pins ex H fp k) s
noncomputable def XSs(X:Cx)(io:List Nat)(sts:List Stmt)(m:MXt):Prop:=∀(C:MC X.K) (pins:List (Addr×Obj)) (s:Xd) (σ:St) (H:Hp) (δ:Zi) (fp:Fp) (ex:Addr->Prop) (k:Addr->Zi->Prop),Inv X pins σ H s->Rel C io H σ δ fp ex->m δ k ->
 XQ (X7 X.prog X.w) X.A (execs sts X.env) (λ_ _=>False) (XW X C io pins ex H fp k) s
section
variable {X:Cx}{io:List Nat}{p c:Bool}{e:Expr}{es:List Expr}{mr:MAt}{m:MXt}{pos:Pos}{st:Stmt}{sts a b:List Stmt}{u:MSt}{w v:MXt}{mt:MTt}{i:Nat}{x:Str}
end
section
variable {P:XH}{w:Qo}{K:Xb}{mg:Str->Option Xc}{base:Heap}
end
section
variable {X:Cx}{io:List Nat}{p c:Bool}{e:Expr}{es:List Expr}{mr:MAt}{pos pp:Pos}{k:Nat}{f:Addr}{fd:Xx}{ps:List Str}{x:Str}
end
section
variable {X:Cx}{pins:List (Addr×Obj)}{σ:St}{H:Hp}{s:Xd}{a C:Addr}
noncomputable abbrev Cx.suite(X:Cx)(a:Addr):Cx:={ X with A:=X.A.mark (some (.ref a)),calm:=false }
end
theorem Zw2(b:Bool)(k:Bool->Prop):asB (.bool b) k=k b:=rfl
inductive ClsV:V->Xc->Prop where
 | own (D:Addr):ClsV (.ref D) (.ref D)
 | ty (T:String):ClsV (.ty T) (.type T)
theorem ClsV.val{v:V}{c u:Xc}(h:ClsV v c)(r:RelV v u):u=c:=by
 cases h with
 | own D=>exact r
 | ty T=>exact r
inductive ClsVs:List V->List Xc->Prop where
 | nil:ClsVs [] []
 | cons {v:V} {c:Xc} {vs:List V} {cs:List Xc}:ClsV v c->ClsVs vs cs->ClsVs (v :: vs) (c :: cs)
theorem ClsVs.length:∀{vs:List V} {cs:List Xc},ClsVs vs cs->vs.length=cs.length
 | _,_,.nil=>rfl
 | _,_,.cons _ t=>by simp[t.length]
section
variable {X:Cx}{io:List Nat}{p c:Bool}{a b:Expr}{ma:MEt}{pos pp p2:Pos}
end
end L2
namespace L2
open PySem PySem.Spec PyProof.Rows PySem.P
section
variable {prog:XH}{w:Qo}{A:Qk}{E:Xc->Xd->Prop}{s:Xd}{e t0 C:Addr}{o:Obj}{vs:Array Xc}{K:Xb}{m:Str}{tk:Tok}
structure Yd1(s:Xd)(e C t0:Addr)(m:Str)(tk:Tok):Prop where
 ob:∃o vs,s.heap.get? e=some o∧o.cls= .ref C∧o.data= .fields vs∧vs[0]? =some (.ref t0)
 tx:s.heap.TupAt t0 [.str m tk]
end
section
variable {X:Cx}{C:Addr}{x j:Str}{jk:Nat}{np cpos pos kp p1:Pos}
end
end L2
namespace L2
open PySem PySem.Spec PyProof.Rows
noncomputable abbrev FE:=Zi->Option (OT×Zi)
noncomputable abbrev FA:=Zi->Option (List OT×Zi)
noncomputable abbrev FT:=Zi->Option (Bool×Zi)
noncomputable abbrev FI:=Zi->Option (List Xa×Zi)
noncomputable abbrev FO:=Zi->Option (Option Int×Zi)
noncomputable abbrev FG:=Xa->Zi->Option Zi
noncomputable abbrev FGs:=List Xa->Zi->Option Zi
noncomputable def o2{α:Type}(f:Zi->Option (α×Zi)):Zi->(α->Zi->Prop)->Prop:=λδ K=>∃r δ',f δ=some (r,δ')∧K r δ'
noncomputable def oG(g:FG):MGt:=λd δ k=>∃δ',g d δ=some δ'∧k δ'
noncomputable def oGs(g:FGs):Zue:=λd δ k=>∃δ',g d δ=some δ'∧k δ'
section
variable {X:Cx}{io:List Nat}{p c:Bool}{e tg:Expr}{es:List Expr}{m m':MEt}{mr mr':MAt}{mt mt':MTt}{mi mi':MIt}{g g':MGt}{gs gs':Zue}{mo mo':MOt}{st:Stmt}{sts:List Stmt}{u u':MSt}{eo:Option Expr}
theorem ME.weak(h:ME X io p c e m)(w:∀δ K,m' δ K->m δ K):ME X io p c e m':=let⟨t,A,s⟩:=h;⟨t,A,λC H σ δ fp ex K Q R h k=>s C H σ δ fp ex K Q R (w δ K h) k⟩
theorem MA.weak(h:MA X io p c es mr)(w:∀δ K,mr' δ K->mr δ K):MA X io p c es mr':=let⟨t,A,s⟩:=h;⟨t,A,λC H σ δ fp ex K Q R h k=>s C H σ δ fp ex K Q R (w δ K h) k⟩
theorem MT.weak(h:MT X io p e mt)(w:∀δ K,mt' δ K->mt δ K):MT X io p e mt':=let⟨t,A,s⟩:=h;⟨t,A,λC H σ δ fp ex K Q R h k=>s C H σ δ fp ex K Q R (w δ K h) k⟩
theorem MW.weak(h:MW X io p e mt)(w:∀δ K,mt' δ K->mt δ K):MW X io p e mt':=let⟨t,A,s⟩:=h;⟨t,A,λC H σ δ fp ex K Q R h k=>s C H σ δ fp ex K Q R (w δ K h) k⟩
theorem MIfs.weak(h:MIfs X io p es mt)(w:∀δ K,mt' δ K->mt δ K):MIfs X io p es mt':=let⟨t,A,s⟩:=h;⟨t,A,λC H σ δ fp ex K Q R h k=>s C H σ δ fp ex K Q R (w δ K h) k⟩
theorem MI.weak(h:MI X io p c tg e mi)(w:∀δ K,mi' δ K->mi δ K):MI X io p c tg e mi':=let⟨t,A,s⟩:=h;⟨t,A,λC H σ δ fp ex K Q R h k=>s C H σ δ fp ex K Q R (w δ K h) k⟩
theorem MO.weak(h:MO X io p eo mo)(w:∀δ K,mo' δ K->mo δ K):MO X io p eo mo':=let⟨t,A,s⟩:=h;⟨t,A,λC H σ δ fp ex K Q R h k=>s C H σ δ fp ex K Q R (w δ K h) k⟩
theorem MG.weak(h:MG X io c tg g)(w:∀d δ K,g' d δ K->g d δ K):MG X io c tg g':=let⟨t,A,s⟩:=h;⟨t,A,λC H σ δ fp ex v d k Q R q h kk=>s C H σ δ fp ex v d k Q R q (w d δ k h) kk⟩
theorem MGs.weak(h:MGs X io c es gs)(w:∀d δ K,gs' d δ K->gs d δ K):MGs X io c es gs':=let⟨t,A,s⟩:=h;⟨t,A,λC H σ δ fp ex v d k Q R q h kk=>s C H σ δ fp ex v d k Q R q (w d δ k h) kk⟩
theorem MS.weak(h:MS X io st u)(w:∀D δ,u' D δ->u D δ):MS X io st u':=let⟨t,A,s⟩:=h;⟨t,A,λC H σ δ fp ex D D' R h E=>s C H σ δ fp ex D D' R (w D δ h) E⟩
theorem MSs.weak(h:MSs X io sts u)(w:∀D δ,u' D δ->u D δ):MSs X io sts u':=let⟨t,A,s⟩:=h;⟨t,A,λC H σ δ fp ex D D' R h E=>s C H σ δ fp ex D D' R (w D δ h) E⟩
end
noncomputable def Zd(i:Nat):FE:=λδ=>match δ[i]? with|some (some (.fz d))=>some (.fz d,δ)|_=>none
noncomputable def Zn0(i:Nat):FE:=λδ=>match δ[i]? with|some (some t)=>some (.fz t.data,δ)|_=>none
noncomputable def fC(d:Xa):FE:=λδ=>some (.fz d,δ)
noncomputable def Ze(g:Xa->Xa->Option Xa)(a b:FE):FE:=λδ=>(a δ).bind λp=>(b p.2).bind λq=>(g p.1.data q.1.data).bind λd=>some (.fz d,q.2)
noncomputable def Zq(g:Xa->Xa->Option OT)(a b:FE):FE:=λδ=>(a δ).bind λp=>(b p.2).bind λq=>(g p.1.data q.1.data).bind λd=>some (d,q.2)
noncomputable def fUn(g:Xa->Option Xa)(a:FE):FE:=λδ=>(a δ).bind λp=>(g p.1.data).bind λd=>some (.fz d,p.2)
noncomputable def Zk3(a b:FE):FE:=λδ=>(a δ).bind λp=>match p.1.data with| .bool true=>b p.2| .bool false=>some (.fz (.bool false),p.2)|_=>none
noncomputable def fOr(a b:FE):FE:=λδ=>(a δ).bind λp=>match p.1.data with| .bool true=>some (.fz (.bool true),p.2)| .bool false=>b p.2|_=>none
noncomputable def fIf(t:FT)(a b:FE):FE:=λδ=>(t δ).bind λp=>if p.1=true then a p.2 else b p.2
noncomputable def tV(e:FE):FT:=λδ=>(e δ).bind λp=>match p.1 with| .fz (.bool b)=>some (b,p.2)|_=>none
noncomputable def tNo(t:FT):FT:=λδ=>(t δ).bind λp=>some (!p.1,p.2)
noncomputable def tAn(t u:FT):FT:=λδ=>(t δ).bind λp=>if p.1=true then u p.2 else some (false,p.2)
noncomputable def tO(t u:FT):FT:=λδ=>(t δ).bind λp=>if p.1=true then some (true,p.2)else u p.2
noncomputable def tD(e:FE):FT:=λδ=>(e δ).bind λp=>(Zuj p.1.data).bind λb=>some (b,p.2)
noncomputable def Zo:FA:=λδ=>some ([],δ)
noncomputable def Zc(e:FE)(a:FA):FA:=λδ=>(e δ).bind λp=>(a p.2).bind λq=>some (p.1 :: q.1,q.2)
noncomputable def Zc2(a:FA):FE:=λδ=>(a δ).bind λp=>if p.1.length≤Xr then some (.fz (.tuple (OT.datas p.1)),p.2)else none
noncomputable def Zav(a:FA):FE:=λδ=>(a δ).bind λp=>if p.1.length≤Xr then some (.nd p.1,p.2)else none
noncomputable def Zl6(e:FE):FE:=λδ=>(e δ).bind λp=>if Zce p.1.data=true then some (.fz p.1.data,p.2)else none
noncomputable def Ya4(e:FE):FE:=λδ=>(e δ).bind λp=>some (.fz p.1.data,p.2)
noncomputable def Zov(e:FE):FE:=λδ=>(e δ).bind λp=>if Ziu p.1=true then some (p.1,p.2)else none
inductive RF where
 | ok (r:OT)
 | exn (c:Str)
 | bad
noncomputable abbrev FD:=List Xa->RF
noncomputable abbrev FIO:=OT->List Xa->Option (OT×OT)
noncomputable def Zw(F:FD)(a:FA):FE:=λδ=>(a δ).bind λp=>match F (OT.datas p.1)with| .ok r=>some (r,p.2)|_=>none
noncomputable def Zw3(i:Nat)(F:FIO)(a:FA):FE:=λδ=>match δ[i]? with
 | some (some _)=>(a δ).bind λp=>match p.2[i]? with
  | some (some t)=>(F t (OT.datas p.1)).bind λq=>some (q.1,p.2.set i (some q.2))
  | _=>none
 | _=>none
noncomputable def Zal(g:List Xa->Option Xa)(a:FA):FE:=λδ=>(a δ).bind λp=>(g (OT.datas p.1)).bind λd=>some (.fz d,p.2)
noncomputable def fBl(g:List Xa->Option OT)(a:FA):FE:=λδ=>(a δ).bind λp=>(g (OT.datas p.1)).bind λd=>some (d,p.2)
noncomputable def Zjc(T:String)(e:FE):FE:=λδ=>(e δ).bind λp=>if Zjn p.1.data=true then none else some (.fz (.bool (Zqs T p.1.data)),p.2)
noncomputable def oN:FO:=λδ=>some (none,δ)
noncomputable def oI(e:FE):FO:=λδ=>(e δ).bind λp=>match p.1.data with| .int i=>some (some i,p.2)|_=>none
noncomputable def fSl(e:FE)(lo hi:FO):FE:=λδ=>(e δ).bind λp=>(lo p.2).bind λq=>(hi q.2).bind λr=>match p.1.data with| .list ds=>some (.nd ((cutD ds q.1 r.1).map OT.fz),r.2)|_=>none
noncomputable def Zcl(e:FE):FI:=λδ=>(e δ).bind λp=>match p.1.data with| .list ds=>some (ds,p.2)|_=>none
noncomputable def iTp(e:FE):FI:=λδ=>(e δ).bind λp=>match p.1.data with| .tuple ds=>some (ds,p.2)|_=>none
noncomputable def rOk(j:Int):Bool:=decide (-(2^62)≤j)&&decide (j<2^62)
theorem Zdz{j:Int}(h:rOk j=true):-(2^62)≤j∧j<2^62:=by
 unfold rOk at h
 rw[Xo]at h
 exact⟨of_decide_eq_true h.1,of_decide_eq_true h.2⟩
theorem Zib{j:Int}(h0:-1000000≤j)(h1:j≤1000000):rOk j=true:=by
 unfold rOk
 rw[decide_eq_true (show -(2^62)≤j by omega),decide_eq_true (show j<2^62 by omega)];rfl
noncomputable def iRa(a:FA):FI:=λδ=>(a δ).bind λp=>match OT.datas p.1 with|[.int j]=>if rOk j=true then some (Zje 0 j.toNat,p.2)else none|_=>none
noncomputable def iRb(a:FA):FI:=λδ=>(a δ).bind λp=>match OT.datas p.1 with|[.int i,.int j]=>if(rOk i&&rOk j)=true then some (Zje i (j-i).toNat,p.2)else none|_=>none
noncomputable def Z4r(a:FA):FI:=λδ=>(a δ).bind λp=>match OT.datas p.1 with|[.list as,.list bs]=>some (Zpj as bs,p.2)|_=>none
noncomputable def gNm(i:Nat):FG:=λd δ=>some (δ.set i (some (.fz d)))
noncomputable def Yd2(i:Nat):FG:=λd δ=>if Zce d=true then some (δ.set i (some (.fz d)))else none
noncomputable def gNl:FGs:=λds δ=>match ds with|[]=>some δ|_=>none
noncomputable def gCn(g:FG)(gs:FGs):FGs:=λds δ=>match ds with|d :: r=>(g d δ).bind (gs r)|[]=>none
noncomputable def gTp(n:Nat)(gs:FGs):FG:=λd δ=>match d with| .tuple ds=>if ds.length=n then gs ds δ else none|_=>none
noncomputable def gLs(n:Nat)(gs:FGs):FG:=λd δ=>match d with| .list ds=>if ds.length=n then gs ds δ else none|_=>none
noncomputable def compLoop(g:FG)(t:FT)(e:FE):List Xa->Zi->Option (List OT×Zi)
 | [],δ=>some ([],δ)
 | d :: ds,δ=>(g d δ).bind λδ1=>(t δ1).bind λp=>if p.1=true then(e p.2).bind λq=>(compLoop g t e ds q.2).bind λz=>some (q.1 :: z.1,z.2)else compLoop g t e ds p.2
noncomputable def Yk(n:Nat)(caps:List Nat)(it:FI)(g:FG)(t:FT)(e:FE):FE:=λδ=>(it δ).bind λp=>if p.1.length≤Xr then(compLoop g t e p.1 (blk n caps p.2)).bind λz=>some (.nd z.1,p.2)else none
noncomputable def Zen:FT:=λδ=>some (true,δ)
inductive RS where
 | nx (δ:Zi)
 | rt (r:OT) (δ:Zi)
 | bk (δ:Zi)
 | ct (δ:Zi)
 | ex (c:Str) (δ:Zi)
 | bad
noncomputable abbrev FS:=Zi->RS
noncomputable def RS.fits(D:Zix):RS->Prop
 | .nx δ=>D.nx δ
 | .rt r δ=>D.rt r δ
 | .bk δ=>D.bk δ
 | .ct δ=>D.ct δ
 | _=>False
noncomputable def oS(f:FS):MSt:=λD δ=>(f δ).fits D
noncomputable def xS(K:Xb)(f:FS):MXt:=λδ k=>∃c C δ',f δ= .ex c δ'∧ClsAt K c C∧k C δ'
noncomputable def Zz(f g:FS):FS:=λδ=>match f δ with| .nx δ'=>g δ'|r=>r
noncomputable def fNx:FS:=λδ=>.nx δ
noncomputable def Ye3:FS:=λδ=>.bk δ
noncomputable def Ydo:FS:=λδ=>.ct δ
noncomputable def wE(e:FE)(k:OT->Zi->RS):FS:=λδ=>match e δ with|some (r,δ')=>k r δ'|none=>.bad
noncomputable def wX(F:FD)(a:FA)(k:OT->Zi->RS):FS:=λδ=>match a δ with
 | some (rs,δ1)=>match F (OT.datas rs)with
  | .ok r=>k r δ1
  | .exn c=>.ex c δ1
  | .bad=>.bad
 | none=>.bad
noncomputable def Z90:OT->Zi->RS:=λ_ δ=>.nx δ
noncomputable def Yr:OT->Zi->RS:=λr δ=>.rt r δ
noncomputable def Z8e:OT->Zi->RS:=λr δ=>if Zce r.data=true then .rt (.fz r.data) δ else .bad
noncomputable def Wb(i:Nat):OT->Zi->RS:=λr δ=>.nx (δ.set i (some (.fz r.data)))
noncomputable def Z95(i:Nat):OT->Zi->RS:=λr δ=>if Zce r.data=true then .nx (δ.set i (some (.fz r.data)))else .bad
noncomputable def Ze7(i:Nat):OT->Zi->RS:=λr δ=>.nx (δ.set i (some r))
noncomputable def Z2i(g:FG):OT->Zi->RS:=λr δ=>match g r.data δ with|some δ'=>.nx δ'|none=>.bad
noncomputable def Z8m:FS:=λδ=>.rt (.fz .none) δ
noncomputable def Ziq(i:Nat):FS:=λδ=>match δ[i]? with|some (some t)=>.rt t (δ.set i none)|_=>.bad
noncomputable def Jc(t:FT)(u w:FS):FS:=λδ=>match t δ with|some (b,δ')=>if b=true then u δ' else w δ'|none=>.bad
noncomputable def Zt8(c:Str):FS:=λδ=>.ex c δ
noncomputable def Jz(i:Nat)(e:FE):FS:=λδ=>match δ[i]? with
 | some (some (.nd _))=>wE e (λr δ1=>match δ1[i]? with
  | some (some (.nd ts))=>if ts.length<Xr then .nx (δ1.set i (some (.nd (ts ++ [.fz r.data]))))else .bad
  | _=>.bad) δ
 | _=>.bad
noncomputable def Zoo(i:Nat)(e:FE):FS:=λδ=>match δ[i]? with
 | some (some (.nd _))=>wE e (λr δ1=>match δ1[i]? with
  | some (some (.nd ts))=>if ts.length<Xr then .nx (δ1.set i (some (.nd (ts ++ [r]))))else .bad
  | _=>.bad) δ
 | _=>.bad
noncomputable def Ybt(i:Nat)(e j:FE):FS:=wE e λr δ1=>match δ1[i]? with
 | some (some (.nd ts))=>wE j (λn _=>match n.data with
  | .int k=>match ixN ts.length k with
   | some j=>.nx (δ1.set i (some (.nd (ts.set j (.fz r.data)))))
   | none=>.bad
  | _=>.bad) δ1
 | _=>.bad
noncomputable def Zgf(i:Nat)(e j j2:FE):FS:=wE e λr δ1=>match δ1[i]? with
 | some (some (.nd ts))=>wE j (λn _=>match n.data with
  | .int k=>match ixN ts.length k with
   | some j=>match ts[j]? with
    | some (.nd us)=>wE j2 (λn' _=>match n'.data with
     | .int k'=>match ixN us.length k' with
      | some j'=>.nx (δ1.set i (some (.nd (ts.set j (.nd (us.set j' (.fz r.data)))))))
      | none=>.bad
     | _=>.bad) δ1
    | _=>.bad
   | none=>.bad
  | _=>.bad) δ1
 | _=>.bad
noncomputable def Zc4(i:Nat)(u:FS):FS:=λδ=>match δ[i]? with|some (some t)=>u (δ.set i (some (.fz t.data)))|_=>.bad
noncomputable def forLoop(g:FG)(u:FS):List Xa->Zi->RS
 | [],δ=>.nx δ
 | d :: ds,δ=>match g d δ with
  | none=>.bad
  | some δ1=>match u δ1 with
   | .nx δ2=>forLoop g u ds δ2
   | .ct δ2=>forLoop g u ds δ2
   | .bk δ2=>.nx δ2
   | r=>r
noncomputable def Zco(it:FI)(g:FG)(u:FS):FS:=λδ=>match it δ with|some (ds,δ1)=>forLoop g u ds δ1|none=>.bad
noncomputable def whileLoop(t:FT)(u:FS):Nat->Zi->RS
 | 0,_=>.bad
 | n+1,δ=>match t δ with
  | none=>.bad
  | some (b,δ1)=>if b=true then match u δ1 with
   | .nx δ2=>whileLoop t u n δ2
   | .ct δ2=>whileLoop t u n δ2
   | .bk δ2=>.nx δ2
   | .rt r δ2=>.rt r δ2
   | _=>.bad
   else .nx δ1
open Classical in
noncomputable def Zkc(t:FT)(u:FS):FS:=λδ=>if h:∃n,whileLoop t u n δ≠ .bad then whileLoop t u (Classical.choose h) δ else .bad
noncomputable def Zfs(n:Nat)(ds:List Xa):Zi:=ds.map (λd=>some (.fz d)) ++ Xy (n-ds.length) none
noncomputable def Yav(n:Nat)(t:OT)(ds:List Xa):Zi:=some t :: (ds.map (λd=>some (.fz d)) ++ Xy (n-(ds.length+1)) none)
noncomputable def RS.told:RS->RF
 | .nx _=>.ok (.fz .none)
 | .rt r _=>.ok r
 | .ex c _=>.exn c
 | _=>.bad
noncomputable def Zan(np n:Nat)(S:FS):FD:=λds=>if ds.length=np then(S (Zfs n ds)).told else .bad
noncomputable def sD(F:FD):List Xa->(OT->Prop)->Prop:=λds k=>∃r,F ds= .ok r∧k r
theorem bs{α β:Type}{x:Option α}{f:α->Option β}{b:β}(h:x.bind f=some b):∃a,x=some a∧f a=some b:=Option.bind_eq_some_iff.mp h
section
variable {X:Cx}{io:List Nat}{p c:Bool}{e tg:Expr}{es:List Expr}{st:Stmt}{sts:List Stmt}{eo:Option Expr}{fa fb fc:FE}{ra:FA}{ta tb:FT}{i:Nat}
theorem Z13(h:ME X io p c e (Z7p i)):ME X io p c e (o2 (Zd i)):=h.weak λδ K q91=>by
 obtain⟨r,δ',h,k⟩:=q91
 unfold Zd at h;unfold Z7p
 split at h
 ·rename_i d hd;(try rw[hd]);cases h;exact k
 ·cases h
theorem Z3z(h:ME X io p c e (Z7n i)):ME X io p c e (o2 (Zn0 i)):=h.weak λδ K q92=>by
 obtain⟨r,δ',h,k⟩:=q92
 unfold Zn0 at h;unfold Z7n
 split at h
 ·rename_i d hd;(try rw[hd]);cases h;exact k
 ·cases h
theorem Zeo{d:Xa}(h:ME X io p c e (mC d)):ME X io p c e (o2 (fC d)):=h.weak λδ K ⟨r,δ',h,k⟩=>by cases h;exact k
noncomputable def ByS(g:Xa->Xa->Option Xa)(rp:Xa->Xa->(Xa->Prop)->Prop):Prop:=∀d e r k,g d e=some r->k r->rp d e k
noncomputable def ByO(g:Xa->Xa->Option OT)(rp:Xa->Xa->(OT->Prop)->Prop):Prop:=∀d e r k,g d e=some r->k r->rp d e k
theorem Zxe{g rp}(G:ByS g rp){δ:Zi}{K:OT->Zi->Prop}(h:o2 (Ze g fa fb) δ K):Znw rp (o2 fa) (o2 fb) δ K:=by
 obtain⟨r,δ',h,k⟩:=h
 obtain⟨⟨x,δ1⟩,h1,h⟩:=bs h
 obtain⟨⟨y,δ2⟩,h2,h⟩:=bs h
 obtain⟨d,h3,h⟩:=bs h
 cases h
 exact⟨x,δ1,h1,y,δ2,h2,G _ _ _ _ h3 k⟩
theorem W0{g rp}(G:ByS g rp)(h:ME X io p c e (Znw rp (o2 fa) (o2 fb))):ME X io p c e (o2 (Ze g fa fb)):=h.weak λδ K z=>Zxe G z
theorem Yd8{f:FE}{δ:Zi}{K:Bool->Zi->Prop}(h:o2 (tV f) δ K):o2 f δ (kB K):=by
 obtain⟨b,δ',h,k⟩:=h
 obtain⟨⟨x,δ1⟩,h1,h⟩:=bs h
 refine⟨x,δ1,h1,?_⟩
 unfold kB
 try dsimp only at h⊢
 split at h
 ·cases h;exact k
 ·cases h
theorem Zdb{g rp}(G:ByS g rp)(h:MT X io p e (λδ K=>Znw rp (o2 fa) (o2 fb) δ (kB K))):MT X io p e (o2 (tV (Ze g fa fb))):=h.weak λδ K z=>Zxe G (Yd8 z)
theorem Yt{g rp}(G:ByO g rp)(h:ME X io p c e (Z7a rp (o2 fa) (o2 fb))):ME X io p c e (o2 (Zq g fa fb)):=h.weak λδ K h=>by
 obtain⟨r,δ',h,k⟩:=h
 obtain⟨⟨x,δ1⟩,h1,h⟩:=bs h
 obtain⟨⟨y,δ2⟩,h2,h⟩:=bs h
 obtain⟨d,h3,h⟩:=bs h
 cases h
 exact⟨x,δ1,h1,y,δ2,h2,G _ _ _ _ h3 k⟩
noncomputable def Zp4:Xa->Option Xa| .int i=>some (.int (-i))|_=>none
noncomputable def Yat:Xa->Option Xa| .bool b=>some (.bool (!b))|_=>none
theorem Zg2(h:ME X io p c e (Yb0 (o2 fa))):ME X io p c e (o2 (fUn Zp4 fa)):=h.weak λδ K h=>by
 obtain⟨r,δ',h,k⟩:=h
 obtain⟨⟨x,δ1⟩,h1,h⟩:=bs h
 obtain⟨d,h3,h⟩:=bs h
 cases h
 refine⟨x,δ1,h1,?_⟩
 dsimp only at h3⊢
 cases q:x.data<;>rw[q]at h3<;>cases h3
 exact k
theorem Zx6(h:ME X io p c e (Z3t (o2 fa))):ME X io p c e (o2 (fUn Yat fa)):=h.weak λδ K h=>by
 obtain⟨r,δ',h,k⟩:=h
 obtain⟨⟨x,δ1⟩,h1,h⟩:=bs h
 obtain⟨d,h3,h⟩:=bs h
 cases h
 refine⟨x,δ1,h1,?_⟩
 dsimp only at h3⊢
 cases q:x.data<;>rw[q]at h3<;>cases h3
 exact k
theorem Zb2(h:ME X io p c e (Z5v (o2 fa) (o2 fb))):ME X io p c e (o2 (Zk3 fa fb)):=h.weak λδ K h=>by
 obtain⟨r,δ',h,k⟩:=h
 obtain⟨⟨x,δ1⟩,h1,h⟩:=bs h
 refine⟨x,δ1,h1,?_⟩
 try dsimp only at h⊢
 split at h
 ·rename_i q;(try rw[q]);rw[Zw2,if_pos rfl];exact⟨r,δ',h,k⟩
 ·rename_i q;(try rw[q]);cases h;rw[Zw2,if_neg XF];exact k
 ·cases h
theorem Z8i(h:ME X io p c e (mIf (o2 ta) (o2 fa) (o2 fb))):ME X io p c e (o2 (fIf ta fa fb)):=h.weak λδ K h=>by
 obtain⟨r,δ',h,k⟩:=h
 obtain⟨⟨x,δ1⟩,h1,h⟩:=bs h
 refine⟨x,δ1,h1,?_⟩
 try dsimp only at h⊢
 split at h
 ·rename_i q;rw[if_pos q];exact⟨r,δ',h,k⟩
 ·rename_i q;rw[if_neg q];exact⟨r,δ',h,k⟩
theorem Z6l(h:MT X io p e (Ybn (o2 ta))):MT X io p e (o2 (tNo ta)):=h.weak λδ K h=>by
 obtain⟨r,δ',h,k⟩:=h
 obtain⟨⟨x,δ1⟩,h1,h⟩:=bs h
 cases h
 exact⟨x,δ1,h1,k⟩
theorem Zi6(h:MW X io p e (Ybw (o2 ta) (o2 tb))):MW X io p e (o2 (tAn ta tb)):=h.weak λδ K h=>by
 obtain⟨r,δ',h,k⟩:=h
 obtain⟨⟨x,δ1⟩,h1,h⟩:=bs h
 refine⟨x,δ1,h1,?_⟩
 try dsimp only at h⊢
 split at h
 ·rename_i q;rw[if_pos q];exact⟨r,δ',h,k⟩
 ·rename_i q;rw[if_neg q];cases h;exact k
theorem Zc1(h:MW X io p e (mOr (o2 ta) (o2 tb))):MW X io p e (o2 (tO ta tb)):=h.weak λδ K h=>by
 obtain⟨r,δ',h,k⟩:=h
 obtain⟨⟨x,δ1⟩,h1,h⟩:=bs h
 refine⟨x,δ1,h1,?_⟩
 try dsimp only at h⊢
 split at h
 ·rename_i q;rw[if_pos q];cases h;exact k
 ·rename_i q;rw[if_neg q];exact⟨r,δ',h,k⟩
theorem Wr(h:MT X io p e (Yb7 (o2 fa))):MT X io p e (o2 (tD fa)):=h.weak λδ K h=>by
 obtain⟨r,δ',h,k⟩:=h
 obtain⟨⟨x,δ1⟩,h1,h⟩:=bs h
 obtain⟨d,h3,h⟩:=bs h
 cases h
 refine⟨x,δ1,h1,?_⟩
 dsimp only at h3⊢
 rw[h3]
 exact k
theorem Z5c(h:MA X io p c es Yb5):MA X io p c es (o2 Zo):=h.weak λδ K ⟨r,δ',h,k⟩=>by cases h;exact k
theorem Z0m(h:MA X io p c es (Z53 (o2 fa) (o2 ra))):MA X io p c es (o2 (Zc fa ra)):=h.weak λδ K h=>by
 obtain⟨r,δ',h,k⟩:=h
 obtain⟨⟨x,δ1⟩,h1,h⟩:=bs h
 obtain⟨⟨y,δ2⟩,h2,h⟩:=bs h
 cases h
 exact⟨x,δ1,h1,y,δ2,h2,k⟩
theorem Z4t(h:ME X io p c e (Ycv (o2 ra))):ME X io p c e (o2 (Zc2 ra)):=h.weak λδ K h=>by
 obtain⟨r,δ',h,k⟩:=h
 obtain⟨⟨x,δ1⟩,h1,h⟩:=bs h
 refine⟨x,δ1,h1,?_⟩
 dsimp only at h
 split at h
 ·rename_i q;cases h;exact⟨q,k⟩
 ·cases h
theorem Z27(h:ME X io p c e (Ycl (o2 ra))):ME X io p c e (o2 (Zav ra)):=h.weak λδ K h=>by
 obtain⟨r,δ',h,k⟩:=h
 obtain⟨⟨x,δ1⟩,h1,h⟩:=bs h
 refine⟨x,δ1,h1,?_⟩
 dsimp only at h
 split at h
 ·rename_i q;cases h;exact⟨q,k⟩
 ·cases h
theorem Zku(h:ME X io p c e (Z26 (o2 fa))):ME X io p c e (o2 (Zl6 fa)):=h.weak λδ K h=>by
 obtain⟨r,δ',h,k⟩:=h
 obtain⟨⟨x,δ1⟩,h1,h⟩:=bs h
 refine⟨x,δ1,h1,?_⟩
 dsimp only at h
 split at h
 ·rename_i q;cases h;exact⟨q,k⟩
 ·cases h
theorem Zvp(h:ME X io p c e (Zwz (o2 fa))):ME X io p c e (o2 (Zov fa)):=h.weak λδ K h=>by
 obtain⟨r,δ',h,k⟩:=h
 obtain⟨⟨x,δ1⟩,h1,h⟩:=bs h
 refine⟨x,δ1,h1,?_⟩
 dsimp only at h
 split at h
 ·rename_i q;cases h;exact⟨q,k⟩
 ·cases h
theorem Z1w(h:ME X io p c e (Ybu (o2 fa))):ME X io p c e (o2 (Ya4 fa)):=h.weak λδ K h=>by
 obtain⟨r,δ',h,k⟩:=h
 obtain⟨⟨x,δ1⟩,h1,h⟩:=bs h
 cases h
 exact⟨x,δ1,h1,k⟩
theorem Zyg{F:FD}(h:ME X io p c e (Zzj (sD F) (o2 ra))):ME X io p c e (o2 (Zw F ra)):=h.weak λδ K h=>by
 obtain⟨r,δ',h,k⟩:=h
 obtain⟨⟨x,δ1⟩,h1,h⟩:=bs h
 refine⟨x,δ1,h1,?_⟩
 dsimp only at h
 split at h
 ·rename_i q;cases h;exact⟨_,q,k⟩
 ·cases h
theorem Zdc{g rp}(G:∀ds r k,g ds=some r->k r->rp ds k)(h:ME X io p c e (Z7r rp (o2 ra))):ME X io p c e (o2 (Zal g ra)):=h.weak λδ K h=>by
 obtain⟨r,δ',h,k⟩:=h
 obtain⟨⟨x,δ1⟩,h1,h⟩:=bs h
 obtain⟨d,h3,h⟩:=bs h
 cases h
 exact⟨x,δ1,h1,G _ _ _ h3 k⟩
theorem Zm0{g rp}(G:∀ds r k,g ds=some r->k r->rp ds k)(h:ME X io p c e (mBl rp (o2 ra))):ME X io p c e (o2 (fBl g ra)):=h.weak λδ K h=>by
 obtain⟨r,δ',h,k⟩:=h
 obtain⟨⟨x,δ1⟩,h1,h⟩:=bs h
 obtain⟨d,h3,h⟩:=bs h
 cases h
 exact⟨x,δ1,h1,G _ _ _ h3 k⟩
theorem Zam{T:String}(h:ME X io p c e (Ycz T (o2 fa))):ME X io p c e (o2 (Zjc T fa)):=h.weak λδ K h=>by
 obtain⟨r,δ',h,k⟩:=h
 obtain⟨⟨x,δ1⟩,h1,h⟩:=bs h
 by_cases hf:Zjn x.data=true
 ·have h':(if Zjn x.data=true then none else some (OT.fz (.bool (Zqs T x.data)),δ1))=some (r,δ'):=h
  rw[if_pos hf]at h'
  cases h'
 ·have h':(if Zjn x.data=true then none else some (OT.fz (.bool (Zqs T x.data)),δ1))=some (r,δ'):=h
  rw[if_neg hf]at h'
  injection h' with h'
  injection h' with e1 e2
  subst e1 e2
  exact⟨x,_,h1,Bool.eq_false_iff.mpr hf,k⟩
theorem Z7(h:MO X io p eo Zsu):MO X io p eo (o2 oN):=h.weak λδ K ⟨r,δ',h,k⟩=>by cases h;exact k
theorem Z1(h:MO X io p eo (Z52 (o2 fa))):MO X io p eo (o2 (oI fa)):=h.weak λδ K h=>by
 obtain⟨r,δ',h,k⟩:=h
 obtain⟨⟨x,δ1⟩,h1,h⟩:=bs h
 refine⟨x,δ1,h1,?_⟩
 try dsimp only at h⊢
 split at h
 ·rename_i q;(try rw[q]);cases h;exact k
 ·cases h
theorem Jf{lo hi:FO}(h:ME X io p c e (mSl (o2 fa) (o2 lo) (o2 hi))):ME X io p c e (o2 (fSl fa lo hi)):=h.weak λδ K h=>by
 obtain⟨r,δ',h,k⟩:=h
 obtain⟨⟨x,δ1⟩,h1,h⟩:=bs h
 obtain⟨⟨y,δ2⟩,h2,h⟩:=bs h
 obtain⟨⟨z,δ3⟩,h3,h⟩:=bs h
 refine⟨x,δ1,h1,y,δ2,h2,z,δ3,h3,?_⟩
 try dsimp only at h⊢
 split at h
 ·rename_i q;(try rw[q]);cases h;exact k
 ·cases h
theorem Zx2(h:MI X io p c tg e (iL (o2 fa))):MI X io p c tg e (o2 (Zcl fa)):=h.weak λδ K h=>by
 obtain⟨r,δ',h,k⟩:=h
 obtain⟨⟨x,δ1⟩,h1,h⟩:=bs h
 refine⟨x,δ1,h1,?_⟩
 try dsimp only at h⊢
 split at h
 ·rename_i q;(try rw[q]);cases h;exact k
 ·cases h
theorem Z58(h:MI X io p c tg e (iT (o2 fa))):MI X io p c tg e (o2 (iTp fa)):=h.weak λδ K h=>by
 obtain⟨r,δ',h,k⟩:=h
 obtain⟨⟨x,δ1⟩,h1,h⟩:=bs h
 refine⟨x,δ1,h1,?_⟩
 try dsimp only at h⊢
 split at h
 ·rename_i q;(try rw[q]);cases h;exact k
 ·cases h
theorem Zhg(h:MI X io p c tg e (iR1 (o2 ra))):MI X io p c tg e (o2 (iRa ra)):=h.weak λδ K h=>by
 obtain⟨r,δ',h,k⟩:=h
 obtain⟨⟨x,δ1⟩,h1,h⟩:=bs h
 refine⟨x,δ1,h1,?_⟩
 try dsimp only at h⊢
 split at h
 case h_2=>cases h
 rename_i q
 (try rw[q])
 try dsimp only
 split at h
 ·rename_i b;cases h;exact⟨Zdz b,k⟩
 ·cases h
theorem Z6d(h:MI X io p c tg e (iR2 (o2 ra))):MI X io p c tg e (o2 (iRb ra)):=h.weak λδ K h=>by
 obtain⟨r,δ',h,k⟩:=h
 obtain⟨⟨x,δ1⟩,h1,h⟩:=bs h
 refine⟨x,δ1,h1,?_⟩
 try dsimp only at h⊢
 split at h
 case h_2=>cases h
 rename_i q
 (try rw[q])
 try dsimp only
 split at h
 ·rename_i b
  cases h
  rw[Xo]at b
  exact⟨⟨(Zdz b.1).1,(Zdz b.1).2,(Zdz b.2).1,(Zdz b.2).2⟩,k⟩
 ·cases h
theorem Zy1(h:MG X io c tg (dName i)):MG X io c tg (oG (gNm i)):=h.weak λd δ K ⟨δ',h,k⟩=>by cases h;exact k
theorem Zyu(h:MGs X io c es Ybh):MGs X io c es (oGs gNl):=h.weak λd δ K q94=>by
 obtain⟨δ',h,k⟩:=q94
 unfold gNl at h
 split at h
 ·cases h;exact⟨rfl,k⟩
 ·cases h
theorem Zow{g:FG}{gs:FGs}(h:MGs X io c es (Z63 (oG g) (oGs gs))):MGs X io c es (oGs (gCn g gs)):=h.weak λd δ K q95=>by
 obtain⟨δ',h,k⟩:=q95
 unfold gCn at h
 split at h
 ·obtain⟨δ1,h1,h⟩:=bs h
  exact⟨δ1,h1,δ',h,k⟩
 ·cases h
theorem Z43{n:Nat}{gs:FGs}(h:MG X io c tg (dTup n (oGs gs))):MG X io c tg (oG (gTp n gs)):=h.weak λd δ K q96=>by
 obtain⟨δ',h,k⟩:=q96
 unfold gTp at h
 split at h
 case h_2=>cases h
 split at h
 ·rename_i q;exact⟨q,δ',h,k⟩
 ·cases h
theorem Wx(h:MIfs X io p es Z6y):MIfs X io p es (o2 Zen):=h.weak λδ K ⟨r,δ',h,k⟩=>by cases h;exact k
theorem Z0k{g:FG}{t:FT}{me:FE}{ds:List Xa}{δ0:Zi}{zs:List OT}{δe:Zi}(h:compLoop g t me ds δ0=some (zs,δe)) :
  ∃I:Nat->List OT->Zi->Prop,I 0 [] δ0∧
 (∀ (i:Nat) (d:Xa) (rs:List OT) (δ':Zi),ds[i]? =some d->I i rs δ'->oG g d δ' λδ2=>o2 t δ2 λb δ3=>if b=true then o2 me δ3 λr δ4=>I (i+1) (rs ++ [r]) δ4 else I (i+1) rs δ3)∧
 ∀rs δ',I ds.length rs δ'->rs=zs∧δ'=δe:=by
 refine⟨λi rs δ'=>∃ys,rs ++ ys=zs∧compLoop g t me (ds.drop i) δ'=some (ys,δe),⟨zs,rfl,by rw[List.drop_zero];exact h⟩,?_,?_⟩
 ·rintro i d rs δ' hd ⟨ys,e,hl⟩
  obtain⟨hi,hdi⟩:=Xk.mp hd
  rw[Vu hi,hdi]at hl
  unfold compLoop at hl
  obtain⟨δ1,h1,hl⟩:=bs hl
  obtain⟨⟨b,δ2⟩,h2,hl⟩:=bs hl
  refine⟨δ1,h1,b,δ2,h2,?_⟩
  dsimp only at hl
  split at hl
  ·rename_i hb
   rw[if_pos hb]
   obtain⟨⟨r,δ3⟩,h3,hl⟩:=bs hl
   obtain⟨⟨ws,δ4⟩,h4,hl⟩:=bs hl
   cases hl
   exact⟨r,δ3,h3,ws,by rw[V3];exact e,h4⟩
  ·rename_i hb
   rw[if_neg hb]
   exact⟨ys,e,hl⟩
 ·rintro rs δ' ⟨ys,e,hl⟩
  rw[List.drop_length]at hl
  unfold compLoop at hl
  cases hl
  exact⟨by rw[←e,JQ],rfl⟩
theorem Zsl{n:Nat}{caps:List Nat}{it:FI}{g:FG}{t:FT}{me:FE}{δ:Zi}{K:OT->Zi->Prop}(h:o2 (Yk n caps it g t me) δ K):Zil n caps (o2 it) (oG g) (o2 t) (o2 me) δ K:=by
 obtain⟨r,δ',h,k⟩:=h
 obtain⟨⟨ds,δ1⟩,h1,h⟩:=bs h
 refine⟨ds,δ1,h1,?_⟩
 dsimp only at h
 split at h
 case isFalse=>cases h
 rename_i hz
 obtain⟨⟨zs,δe⟩,h2,h⟩:=bs h
 cases h
 obtain⟨I,i0,st,en⟩:=Z0k h2
 refine⟨hz,I,i0,st,λrs δ'' q=>?_⟩
 obtain⟨rfl,rfl⟩:=en rs δ'' q
 exact k
theorem Wg{n:Nat}{caps:List Nat}{it:FI}{g:FG}{t:FT}{me:FE}(h:ME X io p c e (Zil n caps (o2 it) (oG g) (o2 t) (o2 me))):ME X io p c e (o2 (Yk n caps it g t me)):=h.weak λδ K z=>Zsl z
end
section
variable {X:Cx}{io:List Nat}{p c:Bool}{e tg iter:Expr}{es:List Expr}{st:Stmt}{sts:List Stmt}{fa fb fc:FE}{ra:FA}{ta tb:FT}{i:Nat}{f g u w:FS}
theorem Z11(h:MSs X io sts (Yaz (oS f) (oS g))):MSs X io sts (oS (Zz f g)):=h.weak λD δ h=>by
 unfold oS Zz at h;unfold Yaz oS
 cases q:f δ<;>rw[q]at h<;>exact h
theorem Zz7(h:MSs X io sts Z5k):MSs X io sts (oS fNx):=h.weak λD δ h=>h
theorem Zuf{k:OT->Zi->RS}{D:Zix}{δ:Zi}(h:oS (wE fa k) D δ):o2 fa δ λr δ'=>(k r δ').fits D:=by
 unfold oS wE at h
 split at h
 ·rename_i q;exact⟨_,_,q,h⟩
 ·exact h.elim
theorem o2.imp{α:Type}{f:Zi->Option (α×Zi)}{δ:Zi}{K K':α->Zi->Prop}(h:o2 f δ K)(k:∀r δ',K r δ'->K' r δ'):o2 f δ K':=let⟨r,δ',e,q⟩:=h;⟨r,δ',e,k r δ' q⟩
theorem Zvy{P:Prop}[Decidable P]{a:RS}{D:Zix}(h:(if P then a else .bad:RS).fits D):P∧a.fits D:=by
 split at h
 ·exact⟨‹_›,h⟩
 ·exact h.elim
theorem Z31(h:MS X io st (Ycu (o2 fa))):MS X io st (oS (wE fa Yr)):=h.weak λD δ h=>Zuf h
theorem Zh1(h:MS X io st (Zwy i)):MS X io st (oS (Ziq i)):=h.weak λD δ h=>by
 unfold oS Ziq at h;unfold Zwy
 split at h
 ·rename_i q;(try rw[q]);exact h
 ·exact h.elim
theorem Z83(h:MS X io st (Yc2 (o2 ta) (oS u) (oS w))):MS X io st (oS (Jc ta u w)):=h.weak λD δ h=>by
 unfold oS Jc at h
 split at h
 ·rename_i b δ' q
  refine⟨b,δ',q,?_⟩
  split at h
  ·rename_i hb;rw[if_pos hb];exact h
  ·rename_i hb;rw[if_neg hb];exact h
 ·exact h.elim
theorem Zt5(h:MS X io st (Z1r i (o2 fa))):MS X io st (oS (wE fa (Wb i))):=h.weak λD δ h=>Zuf h
theorem Zre(h:MS X io st (Zqg i (o2 fa))):MS X io st (oS (wE fa (Ze7 i))):=h.weak λD δ h=>Zuf h
section
variable {n:Nat}{caps:List Nat}{o q:Nat}{it:FI}{gg:FG}{t:FT}{me:FE}
theorem Zhs(h:MS X io st (if true=true then Zqg i (Zil n caps (o2 it) (oG gg) (o2 t) (o2 me))else Z1r i (Zil n caps (o2 it) (oG gg) (o2 t) (o2 me)))):MS X io st (oS (wE (Yk n caps it gg t me) (Ze7 i))) :=
 h.weak λD δ h=>by rw[if_pos rfl];exact Zsl (Zuf h)
theorem Zub(h:MS X io st (if false=true then Zqg i (Zil n caps (o2 it) (oG gg) (o2 t) (o2 me))else Z1r i (Zil n caps (o2 it) (oG gg) (o2 t) (o2 me)))):MS X io st (oS (wE (Yk n caps it gg t me) (Wb i))) :=
 h.weak λD δ h=>by rw[if_neg XF];exact Zsl (Zuf h)
end
theorem Z6r{gg:FG}(h:MS X io st (Ybg (o2 fa) (oG gg))):MS X io st (oS (wE fa (Z2i gg))):=h.weak λD δ h=>(Zuf h).imp λr δ' q=>by
 unfold Z2i at q
 split at q
 ·rename_i z;exact⟨_,z,q⟩
 ·exact q.elim
theorem Zb6(h:MS X io st (Zk8 i (o2 fa))):MS X io st (oS (Jz i fa)):=h.weak λD δ h=>by
 unfold oS Jz at h;unfold Zk8
 split at h
 case h_2=>exact h.elim
 rename_i q;(try rw[q])
 refine(Zuf h).imp λr δ' z=>?_
 split at z
 ·rename_i q2;(try rw[q2]);exact Zvy z
 ·exact z.elim
theorem Zgu(h:MS X io st (Z20 i (o2 fa) (o2 fb) (o2 fc))):MS X io st (oS (Zgf i fa fb fc)):=h.weak λD δ h=>by
 refine(Zuf h).imp λr δ' z=>?_
 split at z
 case h_2=>exact z.elim
 rename_i q;(try rw[q])
 refine(Zuf z).imp λn δ2 z=>?_
 split at z
 case h_2=>exact z.elim
 rename_i k q2;(try rw[q2])
 show match ixN _ k with|some j=>_|none=>_
 split at z
 case h_2=>exact z.elim
 rename_i q3;(try rw[q3])
 try dsimp only
 split at z
 case h_2=>exact z.elim
 rename_i q4;(try rw[q4])
 refine(Zuf z).imp λn' δ3 z=>?_
 split at z
 case h_2=>exact z.elim
 rename_i k' q5;(try rw[q5])
 show match ixN _ k' with|some j=>_|none=>_
 split at z
 ·rename_i q6;(try rw[q6]);exact z
 ·exact z.elim
theorem Zfu(h:MS X io st (Zk6 i (oS u))):MS X io st (oS (Zc4 i u)):=h.weak λD δ h=>by
 unfold oS Zc4 at h;unfold Zk6
 split at h
 ·rename_i q;(try rw[q]);exact h
 ·exact h.elim
theorem Zg1{gg:FG}{d:Xa}{ds:List Xa}{δ:Zi}:forLoop gg u (d :: ds) δ=match gg d δ with
  | none=>.bad
  | some δ1=>match u δ1 with
   | .nx δ2=>forLoop gg u ds δ2
   | .ct δ2=>forLoop gg u ds δ2
   | .bk δ2=>.nx δ2
   | r=>r:=rfl
theorem Z2u{it:FI}{gg:FG}(h:MS X io st (Ycj (o2 it) (oG gg) (oS u))):MS X io st (oS (Zco it gg u)):=h.weak λD δ h=>by
 unfold oS Zco at h
 split at h
 case h_2=>exact h.elim
 rename_i ds δ1 q
 refine⟨ds,δ1,q,λi δ'=>(forLoop gg u (ds.drop i) δ').fits D,by show RS.fits D (forLoop gg u (ds.drop 0) δ1);rw[List.drop_zero];exact h,λi d δ' hd z=>?_,λδ' z=>?_⟩
 ·obtain⟨hi,hdi⟩:=Xk.mp hd
  replace z:RS.fits D (forLoop gg u (ds.drop i) δ'):=z
  rw[Vu hi,hdi,Zg1]at z
  split at z
  case h_1=>exact z.elim
  rename_i δ2 q2
  refine⟨δ2,q2,?_⟩
  unfold oS
  cases q3:u δ2<;>rw[q3]at z<;>(try rw[q3])<;>exact z
 ·replace z:RS.fits D (forLoop gg u (ds.drop ds.length) δ'):=z
  rw[List.drop_length]at z;exact z
theorem Zo5(h:MS X io st (Zw7 (o2 ta) (oS u))):MS X io st (oS (Zkc ta u)):=h.weak λD δ h=>by
 unfold oS Zkc at h
 split at h
 case isFalse=>exact h.elim
 rename_i hn
 refine⟨λn δ'=>(whileLoop ta u n δ').fits D,⟨_,h⟩,λn δ' z=>?_⟩
 cases n with
 | zero=>exact z.elim
 | succ n=>
  unfold whileLoop at z
  split at z
  case h_1=>exact z.elim
  rename_i b δ1 q
  refine⟨b,δ1,q,?_⟩
  split at z
  ·rename_i hb
   rw[if_pos hb]
   refine⟨λδ''=>(whileLoop ta u n δ'').fits D,λδ'' y=>⟨n,Ve n,y⟩,?_⟩
   unfold oS
   cases q3:u δ1<;>rw[q3]at z<;>exact z
  ·rename_i hb
   rw[if_neg hb]
   exact z
theorem Zei{n m:Nat}:∀{δ:Zi},whileLoop ta u n δ≠ .bad->whileLoop ta u (n+m) δ=whileLoop ta u n δ:=by
 induction n with
 | zero=>intro δ h;exact absurd rfl h
 | succ n ih=>
  intro δ h
  rw[Nat.succ_add]
  unfold whileLoop at h⊢
  cases q:ta δ with
  | none=>rfl
  | some x=>
   obtain⟨b,δ1⟩:=x
   rw[q]at h
   try dsimp only at h⊢
   split
   ·rename_i hb
    rw[if_pos hb]at h
    cases q3:u δ1<;>rw[q3]at h<;>first|exact ih h|rfl
   ·rfl
theorem Zl9{r:RS}{δ:Zi}(n:Nat)(h:whileLoop ta u n δ=r)(hr:r≠ .bad):Zkc ta u δ=r:=by
 have hn:∃n,whileLoop ta u n δ≠ .bad:=⟨n,by rw[h];exact hr⟩
 unfold Zkc
 rw[dif_pos hn]
 have h1:=Classical.choose_spec hn
 have e1:=Zei (m:=n) h1
 have e2:=Zei (m:=Classical.choose hn) (show whileLoop ta u n δ≠ .bad by rw[h];exact hr)
 rw[Nat.add_comm]at e2
 rw[←e1,e2,h]
theorem Zvl{cn:Str}:MS X io st (oS (Zt8 cn)):=Zuu.weak λD δ h=>h
class NoEx (f:FS):Prop where
 no:∀δ cn δ',f δ≠ .ex cn δ'
class NoExK (k:OT->Zi->RS):Prop where
 no:∀r δ cn δ',k r δ≠ .ex cn δ'
end
section
variable {P:XH}{w:Qo}{K:Xb}{mg:Str->Option Xc}{base:Heap}{x qual:Str}{st:Stmt}{f:Addr}{fd:Xx}{N ps:List Str}{n np nn:Nat}{S:FS}
theorem RS.told_fits{r:RS}{o:OT}{k:OT->Prop}(h:r.told= .ok o)(hk:k o):r.fits (Zr0 k):=by
 cases r<;>unfold RS.told at h<;>first|(cases h;exact hk)|cases h
theorem Yd(F:Fun K x qual st f fd)(Sc:Zv N ps (Zn st))(hN:N.length=nn)(hp:np=ps.length)
  (hb:∀(cdv:Xc) (A:Qk) (outer:List Env) (s:Xd) (H:Hp) (E:XK),Room n (A.deeper (envOfC qual (Zn st) s.heap.objs.size f cdv))->MSs (Zuc CX0 P w K mg base N qual (Zn st) f cdv A outer s H E).nox [] (Zbb st) (oS S)) :
  FnOk P w K mg base CX0 (n+1) f fd ps (spD K (sD (Zan np nn S))):=by
 subst hN hp
 refine F.okD Sc (λds k h=>?_) λcdv A outer s H E hr=>⟨_,hb cdv A outer s H E hr,λds k h=>?_⟩
 ·obtain⟨r,h,_⟩:=h
  unfold Zan at h
  split at h
  ·assumption
  ·cases h
 ·obtain⟨r,h,hk⟩:=h
  unfold Zan at h
  split at h
  ·exact RS.told_fits h hk
  ·cases h
end
noncomputable def i2(g:Int->Int->Xa):Xa->Xa->Option Xa:=λd e=>match d,e with| .int i,.int j=>some (g i j)|_,_=>none
noncomputable def i2c(c:Int->Int->Bool)(g:Int->Int->Xa):Xa->Xa->Option Xa:=λd e=>match d,e with| .int i,.int j=>if c i j=true then some (g i j)else none|_,_=>none
theorem Zp3{g:Int->Int->Xa}:ByS (i2 g) (Zug g):=λd e r k h hk=>by
 unfold i2 at h
 split at h
 ·cases h;exact hk
 ·cases h
theorem Zo4{c:Int->Int->Bool}{C:Int->Int->Prop}{g:Int->Int->Xa}(hc:∀i j,c i j=true->C i j):ByS (i2c c g) (d2I C g):=λd e r k h hk=>by
 unfold i2c at h
 split at h
 ·split at h
  ·cases h;exact⟨hc _ _ ‹_›,hk⟩
  ·cases h
 ·cases h
noncomputable def Zze(a b:Int):Bool:=!(decide (JG a>shortFactorBits)&&decide (JG b>shortFactorBits)&&U9 (JG a+JG b))
noncomputable def Z2y(_ j:Int):Bool:=decide (j≠0)&&decide (j.natAbs.log2<9000)
noncomputable def Yce(_ j:Int):Bool:=decide (j≠0)
noncomputable def Yeg(i j:Int):Bool:=decide (0≤j∧j≤1000000∧i.natAbs<2^64)
theorem Zhi{a b:Int}:Zze a b=true↔IntMulOk a b:=by
 unfold Zze IntMulOk
 rw[Bool.not_eq_true',Bool.not_eq_true]
noncomputable def Zaq:=i2 λi j=>.int (i+j)
noncomputable def gSb:=i2 λi j=>.int (i-j)
noncomputable def Ze8:=i2c Zze λi j=>.int (i*j)
noncomputable def J6:=i2c Z2y λi j=>.int (i.fdiv j)
noncomputable def Je:=i2c Yce λi j=>.int (i.fmod j)
noncomputable def Zrn:=i2c Yeg λi j=>.int (i^j.toNat)
noncomputable def gLt:=i2 λi j=>.bool (decide (i<j))
noncomputable def gLe:=i2 λi j=>.bool (decide (i≤j))
noncomputable def gGt:=i2 λi j=>.bool (decide (j<i))
noncomputable def gGe:=i2 λi j=>.bool (decide (j≤i))
theorem Z8n:ByS Zaq (Zug λi j=>.int (i+j)):=Zp3
theorem Z9c:ByS gSb (Zug λi j=>.int (i-j)):=Zp3
theorem Z8k:ByS Ze8 (d2I MulOk λi j=>.int (i*j)):=Zo4 λi j h=>⟨Zhi.mp h⟩
theorem Z6v:ByS J6 (d2I Ycb λi j=>.int (i.fdiv j)):=Zo4 λi j h=>⟨by
 unfold Z2y at h
 rw[Xo]at h
 exact⟨of_decide_eq_true h.1,of_decide_eq_true h.2⟩⟩
theorem Ya6:ByS Je (d2I (λ_ j=>j≠0) λi j=>.int (i.fmod j)):=Zo4 λi j h=>of_decide_eq_true h
theorem Z9b:ByS Zrn (d2I Ybi λi j=>.int (i^j.toNat)):=Zo4 λi j h=>⟨(of_decide_eq_true h:0≤j∧j≤1000000∧i.natAbs<2^64)⟩
theorem Z7y:ByS gLt (Zug λi j=>.bool (decide (i<j))):=Zp3
theorem Yex:ByS gLe (Zug λi j=>.bool (decide (i≤j))):=Zp3
theorem Yao:ByS gGt (Zug λi j=>.bool (decide (j<i))):=Zp3
theorem Yac:ByS gGe (Zug λi j=>.bool (decide (j≤i))):=Zp3
noncomputable def gEq:Xa->Xa->Option Xa:=λd e=>if(Bc d&&Bc e)=true then some (.bool (Qz d e))else none
noncomputable def gNe:Xa->Xa->Option Xa:=λd e=>if(Bc d&&Bc e)=true then some (.bool (!Qz d e))else none
theorem Zyd:ByS gEq dEq:=λd e r k h hk=>by
 unfold gEq at h
 split at h
 ·rename_i q
  rw[Xo]at q
  cases h
  exact⟨⟨q.1⟩,⟨q.2⟩,hk⟩
 ·cases h
theorem Yek:ByS gNe dNe:=λd e r k h hk=>by
 unfold gNe at h
 split at h
 ·rename_i q
  rw[Xo]at q
  cases h
  exact⟨⟨q.1⟩,⟨q.2⟩,hk⟩
 ·cases h
noncomputable def gIs:Xa->Xa->Option Xa:=λd e=>match e with| .none=>some (.bool (Zlf d))|_=>none
noncomputable def Z6u:Xa->Xa->Option Xa:=λd e=>match e with| .none=>some (.bool (!Zlf d))|_=>none
noncomputable def Zyx(neg:Bool):Xa->Xa->Option Xa:=λd e=>match Zj6 e with
 | some ds=>if(scD d&&ds.all scD)=true then some (.bool (if neg then !memS d ds else memS d ds))else none
 | none=>none
theorem Z0s{neg:Bool}:ByS (Zyx neg) (dIn neg):=λd e r k h hk=>by
 unfold Zyx at h
 split at h
 case h_2=>cases h
 rename_i ds q
 split at h
 case isFalse=>cases h
 rename_i q2
 rw[Xo]at q2
 cases h
 refine⟨q2.1,?_⟩
 cases e<;>cases q
 ·exact⟨q2.2,hk⟩
 ·exact⟨q2.2,hk⟩
noncomputable def gIx:Xa->Xa->Option OT:=λd e=>(ixD d e).bind λx=>some (.fz x)
theorem Ydu:ByO gIx dIx:=λd e r k h hk=>by
 obtain⟨x,h1,h2⟩:=bs h
 cases h2
 unfold dIx
 rw[h1]
 exact hk
noncomputable def Zbx:Xa->Xa->Option OT:=λd e=>match d,e with| .list ds,.list es=>if ds.length+es.length≤Xr then some (.nd ((ds ++ es).map OT.fz))else none|_,_=>none
theorem Jm:ByO Zbx dCat:=λd e r k h hk=>by
 unfold Zbx at h
 split at h
 ·split at h
  ·cases h;exact⟨‹_›,hk⟩
  ·cases h
 ·cases h
noncomputable def Zcp:List Xa->Option Xa:=λds=>match ds with|[d]=>(Zvg d).bind λn=>some (.int n)|_=>none
theorem Z77:∀ds r k,Zcp ds=some r->k r->Yb3 ds k:=λds r k h hk=>by
 unfold Zcp at h
 split at h
 ·obtain⟨n,h1,h2⟩:=bs h
  cases h2
  show match Zvg _ with|some n=>_|none=>_
  rw[h1]
  exact hk
 ·cases h
noncomputable def Z1u:List Xa->Option Xa:=λds=>match ds with|[.int i]=>some (.int (if i<0 then -i else i))|_=>none
theorem Z05:∀ds r k,Z1u ds=some r->k r->Ycx ds k:=λds r k h hk=>by
 unfold Z1u at h
 split at h
 ·cases h;exact hk
 ·cases h
noncomputable def Z2s:List Xa->Option Xa:=λds=>match ds with|[.int i,.int j]=>some (.int (if j>i then j else i))|_=>none
theorem Yak:∀ds r k,Z2s ds=some r->k r->Ycg ds k:=λds r k h hk=>by
 unfold Z2s at h
 split at h
 ·cases h;exact hk
 ·cases h
noncomputable def Z1n:List Xa->Option Xa:=λds=>match ds with|[.int i,.int j]=>some (.int (if j<i then j else i))|_=>none
theorem Z4g:∀ds r k,Z1n ds=some r->k r->Ycd ds k:=λds r k h hk=>by
 unfold Z1n at h
 split at h
 ·cases h;exact hk
 ·cases h
noncomputable def Z1l:List Xa->Option Xa:=λds=>match ds with|[.int i]=>some (.int i)|[.bool b]=>some (.int (if b then 1 else 0))|_=>none
theorem Yaj:∀ds r k,Z1l ds=some r->k r->Ybf ds k:=λds r k h hk=>by
 unfold Z1l at h
 split at h
 ·cases h;exact hk
 ·cases h;exact hk
 ·cases h
noncomputable def Zlm:List Xa->Option OT:=λds=>match ds with|[d]=>(Zj6 d).bind λes=>some (.nd (es.map OT.fz))|_=>none
theorem Zoc:∀ds r k,Zlm ds=some r->k r->Z17 ds k:=λds r k h hk=>by
 unfold Zlm at h
 split at h
 ·obtain⟨n,h1,h2⟩:=bs h
  cases h2
  show match Zj6 _ with|some n=>_|none=>_
  rw[h1]
  exact hk
 ·cases h
noncomputable def Zb8:List Xa->Option (List Int)
 | []=>some []
 | .int i :: r=>(Zb8 r).bind λl=>some (i :: l)
 | _ :: _=>none
theorem Zaj:∀{ds:List Xa} {ns:List Int},Zb8 ds=some ns->ds=ns.map Xl
 | [],_,h=>by cases h;rfl
 | .int i :: r,_,h=>by
  obtain⟨l,h1,h2⟩:=bs h
  cases h2
  rw[Zaj h1];rfl
 | .none :: _,_,h=>by cases h
 | .bool _ :: _,_,h=>by cases h
 | .str _ :: _,_,h=>by cases h
 | .list _ :: _,_,h=>by cases h
 | .tuple _ :: _,_,h=>by cases h
 | .dict _ :: _,_,h=>by cases h
@[simp] theorem Jw:∀ns:List Int,Zb8 (ns.map Xl)=some ns
 | []=>rfl
 | n :: ns=>by rw[Ql,Zb8,Jw ns];rfl
noncomputable def Zzi:List Xa->Option Xa:=λds=>match ds with|[.list es]=>(Zb8 es).bind λns=>some (.int ns.sum)|_=>none
theorem Z0p:∀ds r k,Zzi ds=some r->k r->Ydg ds k:=λds r k h hk=>by
 unfold Zzi at h
 split at h
 ·obtain⟨n,h1,h2⟩:=bs h
  cases h2
  exact⟨n,by rw[Zaj h1],hk⟩
 ·cases h
section
variable {X:Cx}{io:List Nat}{p c:Bool}{e tg:Expr}{es:List Expr}{st:Stmt}{fa fb fc:FE}{ra:FA}{i:Nat}
noncomputable def Ycc(a:FA):FE:=λδ=>(a δ).bind λp=>match OT.datas p.1 with|[.int j]=>if rOk j=true∧j.toNat≤Xr then some (.nd ((Zje 0 j.toNat).map OT.fz),p.2)else none|_=>none
noncomputable def Zud(a b:FE):FE:=λδ=>(a δ).bind λp=>(b p.2).bind λq=>match q.1.data with| .int k=>if rOk k=true∧k.toNat≤Xr then some (.nd (Xy k.toNat (.fz p.1.data)),p.2)else none|_=>none
theorem Zxw(h:ME X io p c e (Ycm (o2 fa) (o2 fb))):ME X io p c e (o2 (Zud fa fb)):=h.weak λδ K h=>by
 obtain⟨r,δ',h,k⟩:=h
 obtain⟨⟨x,δ1⟩,h1,h⟩:=bs h
 obtain⟨⟨y,δ2⟩,h2,h⟩:=bs h
 refine⟨x,δ1,h1,y,δ2,h2,?_⟩
 try dsimp only at h⊢
 split at h
 case h_2=>cases h
 rename_i q
 (try rw[q])
 split at h
 case isFalse=>cases h
 rename_i b
 cases h
 have z:=Zdz b.1
 exact⟨⟨by omega,by omega,b.2⟩,k⟩
end
variable {G:Xb}
section
variable {X:Cx}{io:List Nat}{p c:Bool}{e a b:Expr}{es:List Expr}{m ma mb:MEt}{mr:MAt}{pos apos cpos px py pt sp kp:Pos}{i j:Nat}{x y:Str}{fa fb:FE}{ra:FA}{st:Stmt}
noncomputable def Z39(m:MAt):MEt:=λδ K=>m δ λrs δ'=>rs.length≤Xr∧K (.tp rs) δ'
theorem Zxl{x1}(h:MA X io p c es mr):ME X io p c (.Tuple es x1 pos) (Z39 mr):=by
 obtain⟨tA,A,sa⟩:=h
 refine⟨_,Zxd A,λC H σ δ fp ex K Q R h k=>?_⟩
 refine sa C H σ δ fp ex _ _ R h λH1 vs rs δ1 fp1 new1 r1 h1=>⟨by rw[r1.own.length];exact h1.1,λq hq=>?_⟩
 have s:=Yl hq (.tup vs)
 have S:=r1.stp.trans (p':=true) (Stp.same (p:=true) (δ:=δ1) (fp:=fp1) s s.al)
 rw[Bool.and_true]at S
 exact k _ _ _ δ1 fp1 new1 ⟨(r1.rel.made (new:=[]) s λa m=>nomatch m).drop λa z=>.inl z,S,.tp Yn (r1.own.same s),r1.nd,r1.fresh⟩ h1.2
noncomputable def Zq7(a:FA):FE:=λδ=>(a δ).bind λp=>if p.1.length≤Xr then some (.tp p.1,p.2)else none
theorem Ztx(h:ME X io p c e (Z39 (o2 ra))):ME X io p c e (o2 (Zq7 ra)):=h.weak λδ K h=>by
 obtain⟨r,δ',h,k⟩:=h
 obtain⟨⟨x,δ1⟩,h1,h⟩:=bs h
 refine⟨x,δ1,h1,?_⟩
 dsimp only at h
 split at h
 ·rename_i q;cases h;exact⟨q,k⟩
 ·cases h
noncomputable def Zw8(i c:Nat)(e:FE):FS:=λδ=>match δ[i]? with
 | some (some (.tp ts))=>match ts[c]? with
  | some (.nd us)=>wE e (λr _=>if us.length<Xr then .nx (δ.set i (some (.tp (ts.set c (.nd (us ++ [.fz r.data]))))))else .bad) δ
  | _=>.bad
 | _=>.bad
noncomputable def Ybs(i j:Nat)(a:FA):FS:=λδ=>match a δ with
 | some (rs,δ1)=>match OT.datas rs with
  | [d,e]=>.nx ((δ1.set i (some (.fz d))).set j (some (.fz e)))
  | _=>.bad
 | none=>.bad
end
class NoStar (e:Expr):Prop where
 h:∀es env,Xq (e :: es) env=(false,eval e env) :: Xq es env
instance nx_Name{x:Str}{p:Pos}:NoStar (.Name x p):=⟨λ_ _=>rfl⟩
instance nx_Constant{x k}{p:Pos}:NoStar (.Constant x k p):=⟨λ_ _=>rfl⟩
instance nx_BinOp{a o b}{p:Pos}:NoStar (.BinOp a o b p):=⟨λ_ _=>rfl⟩
instance nx_UnaryOp{o a}{p:Pos}:NoStar (.UnaryOp o a p):=⟨λ_ _=>rfl⟩
instance nx_Compare{a o b}{p:Pos}:NoStar (.Compare a o b p):=⟨λ_ _=>rfl⟩
instance nx_Call{f a k}{p:Pos}:NoStar (.Call f a k p):=⟨λ_ _=>rfl⟩
instance nx_List{a}{p:Pos}:NoStar (.List a p):=⟨λ_ _=>rfl⟩
instance nx_Tuple{a k}{p:Pos}:NoStar (.Tuple a k p):=⟨λ_ _=>rfl⟩
instance nx_Subscript{a b}{p:Pos}:NoStar (.Subscript a b p):=⟨λ_ _=>rfl⟩
instance nx_ListComp{a b s}{p:Pos}:NoStar (.ListComp a b s p):=⟨λ_ _=>rfl⟩
theorem Zg{X:Cx}{io:List Nat}{p p' c c' p2 c2:Bool}{e:Expr}{es:List Expr}{fa:FE}{ra:FA}[NoStar e](ha:ME X io p c e (o2 fa))(hr:MA X io p' c' es (o2 ra))(hc:p'=true∨c=true:=by first|exact QS rfl|exact QG rfl)(h2:(p&&p')=p2:=by rfl)(h3:(c&&c')=c2:=by rfl):MA X io p2 c2 (e :: es) (o2 (Zc fa ra)) :=
 h2▸h3▸Z0m (Zzk ha hr hc (NoStar.h es X.env))
theorem Ji{X:Cx}{io:List Nat}{p p' c c':Bool}{e:Expr}{m:MEt}(h:ME X io p c e m)(h2:p=p':=by rfl)(h3:c=c':=by rfl):ME X io p' c' e m:=h2▸h3▸h
structure Gives(P:XH)(w:Qo)(it:Addr)(f:List Addr)(St:Heap->Prop)(x:Xc)(St':Heap->Prop):Prop where
 mem:it∈f
 run:∀{A:Qk} {E:Xc->Xd->Prop} {s:Xd} {Q:Xc->Xd->Prop},St s.heap->(∀h',St' h'->Vs it s.heap h'->Q x { s with heap:=h' })->XQ (X7 P w) A (QR (.ref it)) Q E s
 keep:∀h h',(∀c∈f,∀o,h.get? c=some o->h'.get? c=some o)->St h->St h'
 keep':∀h h',(∀c∈f,∀o,h.get? c=some o->h'.get? c=some o)->St' h->St' h'
structure Zj1(P:XH)(w:Qo)(it:Addr)(f:List Addr)(St:Heap->Prop):Prop where
 mem:it∈f
 run:∀{A:Qk} {E:Xc->Xd->Prop} {s:Xd} {Q:Xc->Xd->Prop},A.handled=none->St s.heap->(∀h' e,Heap.ExtBut it s.heap h'->(∃o,h'.get? e=some o∧o.cls= .type "StopIteration")->E (.ref e) { s with heap:=h' })->XQ (X7 P w) A (QR (.ref it)) Q E s
 keep:∀h h',(∀c∈f,∀o,h.get? c=some o->h'.get? c=some o)->St h->St h'
structure ZA(z TI TO i1 i2:Addr)(f1 f2:List Addr):Prop where
 TIz:TI≠z
 TOz:TO≠z
 a1:∀c∈f1,c≠z∧c≠TO∧c≠i2
 a2:∀c∈f2,c≠z∧c≠TO∧c≠i1
section
variable {P:XH}{w:Qo}{A:Qk}{E:Xc->Xd->Prop}{s:Xd}
theorem Zlg{T:Addr}{a b x:Xc}{k:Nat}{Q:Unit->Xd->Prop}(hT:BJ s.heap T a b)(h:∀h',h'.get? T=some { cls:=.type "tuple",data:=.seq ((#[a,b]:Array Xc).setIfInBounds k x) }->Vs T s.heap h'->Q () { s with heap:=h' }) :
  XQ (X7 P w) A (updateSeq T (·.setIfInBounds k x)) Q E s:=wpAny_updateSeq_pair hT h
theorem Zqv{z TI TO i1 i2:Addr}{f1 f2:List Addr}{S1 T1 S2 T2:Heap->Prop}{x y a b:Xc}{Q:Xc->Xd->Prop}(D:ZA z TI TO i1 i2 f1 f2)(G1:Gives P w i1 f1 S1 x T1)(G2:Gives P w i2 f2 S2 y T2)
  (hz:IsZip s.heap z TI TO .none) (hTI:BJ s.heap TI (.ref i1) (.ref i2)) (hTO:BJ s.heap TO a b) (h1:S1 s.heap) (h2:S2 s.heap)
  (hQ:∀h',IsZip h' z TI TO (rawInt s.heap.objs.size)->BJ h' TO x y->T1 h'->T2 h'->BJ h' s.heap.objs.size x y ->
   (∀ c o,c∉[z,TO,i1,i2]->s.heap.get? c=some o->h'.get? c=some o)->Q (.ref s.heap.objs.size) { s with heap:=h' }) :
  XQ (X7 P w) A (V4.«zip.__next__» ⟨[.ref z],[]⟩) (λfin s'=>∃v,fin= .done (.ret v)∧Q v s') E s:=by
 obtain⟨i1z,i1O,i12⟩:=D.a1 i1 G1.mem
 obtain⟨i2z,i2O,i21⟩:=D.a2 i2 G2.mem
 have r1:z∉f1∧TO∉f1∧i2∉f1:=⟨λm=>(D.a1 z m).1 rfl,λm=>(D.a1 TO m).2.1 rfl,λm=>(D.a1 i2 m).2.2 rfl⟩
 have r2:z∉f2∧TO∉f2∧i1∉f2:=⟨λm=>(D.a2 z m).1 rfl,λm=>(D.a2 TO m).2.1 rfl,λm=>(D.a2 i1 m).2.2 rfl⟩
 have st:∀{b:Addr} {h h':Heap} {f:List Addr},Vs b h h'->b∉f->∀c∈f,∀o,h.get? c=some o->h'.get? c=some o:=λsb hb c hc o e=>sb.extBut _ _ (λq=>hb (q▸hc)) e
 show XQ _ _ (field (.ref z) 2>>=_) _ _ _
 refine Xf (BK hz rfl (x:=.bool false) rfl ?_)
 show XQ _ _ (field (.ref z) 3>>=_) _ _ _
 refine Xf (BK hz rfl (x:=.ref TI) rfl (Xf (Vf hTI rfl ?_)))
 show XQ _ _ (JW (.ref z)>>=_) _ _ _
 refine Xf ?_
 unfold JW
 refine Xf (BK hz rfl (x:=.none) rfl (X5 ?_))
 simp only[if_true]
 refine Xf (wpAny_rule (Xf (BK hz rfl (x:=.ref TO) rfl (Xf (Vk hz (by simp) λh3 z3 b3=>?_)))))
 replace z3:IsZip h3 z TI TO .ellipsis:=z3
 refine Xf ?_
 simp only[List.zipIdx_cons,List.zipIdx_nil,Ul,V1]
 refine Xf (Xf (wpAny_onRaise ?_))
 show XQ _ _ (QR (.ref i1)>>=_) _ _ _
 refine Xf (G1.run (s:={ s with heap:=h3 }) (G1.keep _ _ (st b3 r1.1) h1) λh4 k4 b4=>X5 ?_)
 have o4:BJ h4 TO a b:=b4.extBut _ _ i1O.symm (b3.extBut _ _ D.TOz hTO)
 refine Xf (Vf o4 rfl (Xf (Zlg (s:={ s with heap:=h4 }) o4 λh5 o5 b5=>Xf (wpAny_letGo (X5 ?_)))))
 replace o5:BJ h5 TO x b:=o5
 refine Xf (Xf (wpAny_onRaise ?_))
 show XQ _ _ (QR (.ref i2)>>=_) _ _ _
 refine Xf (G2.run (s:={ s with heap:=h5 }) (G2.keep _ _ (st b5 r2.2.1) (G2.keep _ _ (st b4 r2.2.2) (G2.keep _ _ (st b3 r2.1) h2))) λh6 k6 b6=>X5 ?_)
 have o6:BJ h6 TO x b:=b6.extBut _ _ i2O.symm o5
 refine Xf (Vf o6 rfl (Xf (Zlg (s:={ s with heap:=h6 }) o6 λh7 o7 b7=>Xf (wpAny_letGo (X5 (X5 ?_))))))
 replace o7:BJ h7 TO x y:=o7
 refine Xf (Vf o7 rfl (Xf (wpAny_newTuple ?_)))
 have sz:h7.objs.size=s.heap.objs.size:=by rw[b7.1,b6.1,b5.1,b4.1,b3.1]
 have z7:IsZip h7 z TI TO .ellipsis:=b7.extBut _ _ D.TOz.symm (b6.extBut _ _ i2z.symm (b5.extBut _ _ D.TOz.symm (b4.extBut _ _ i1z.symm z3)))
 have t1:T1 h7:=G1.keep' _ _ (st b7 r1.2.1) (G1.keep' _ _ (st b6 r1.2.2) (G1.keep' _ _ (st b5 r1.2.1) k4))
 have t2:T2 h7:=G2.keep' _ _ (st b7 r2.2.1) k6
 have old:∀c o,c∉[z,TO,i1,i2]->s.heap.get? c=some o->h7.get? c=some o:=λc o n e=>by
  simp only[Xu,V7,or_false,not_or]at n
  exact b7.extBut _ _ n.2.1 (b6.extBut _ _ n.2.2.2 (b5.extBut _ _ n.2.1 (b4.extBut _ _ n.2.2.1 (b3.extBut _ _ n.1 e))))
 show XQ _ _ (UL (.ref z) (.ref h7.objs.size)>>=_) _ _ _
 refine Xf ?_
 unfold UL
 have zp:IsZip (h7.push { cls:=.type "tuple",data:=.seq #[x,y] }) z TI TO .ellipsis:=Xj _ z7
 refine Xf (Vk zp (by simp) λh8 z8 b8=>?_)
 replace z8:IsZip h8 z TI TO (rawInt h7.objs.size):=z8
 refine Vk z8 (by simp) λh9 z9 b9=>?_
 replace z9:IsZip h9 z TI TO (rawInt h7.objs.size):=z9
 have up:∀c o,c≠z->h7.get? c=some o->h9.get? c=some o:=λc o n e=>b9.extBut _ _ n (b8.extBut _ _ n (Xj _ e))
 have nz:h7.objs.size≠z:=XN (XD z7)
 have p9:BJ h9 h7.objs.size x y:=b9.extBut _ _ nz (b8.extBut _ _ nz (X3 _ rfl))
 refine X5 ⟨_,rfl,?_⟩
 show Q (.ref h7.objs.size) _
 rw[sz]at z9 p9⊢
 exact hQ h9 z9 (up _ _ D.TOz o7) (G1.keep' _ _ (λc hc o e=>up c o (λq=>r1.1 (q▸hc)) e) t1) (G2.keep' _ _ (λc hc o e=>up c o (λq=>r2.1 (q▸hc)) e) t2) p9 λc o n e=>up c o (λq=>n (by simp[q])) (old c o n e)
theorem Zu4{z TI TO i1 i2:Addr}{f1 f2:List Addr}{S1 T1 S2:Heap->Prop}{a b:Xc}{Q:Fin->Xd->Prop}(hh:A.handled=none)(D:ZA z TI TO i1 i2 f1 f2)(g1:Zj1 P w i1 f1 S1∨(∃x,Gives P w i1 f1 S1 x T1)∧Zj1 P w i2 f2 S2)
  (hz:IsZip s.heap z TI TO .none) (hTI:BJ s.heap TI (.ref i1) (.ref i2)) (hTO:BJ s.heap TO a b) (h1:S1 s.heap) (h2:S2 s.heap)
  (hE:∀h' e,(∀c o,c∉[z,TO,i1,i2]->s.heap.get? c=some o->h'.get? c=some o)->(∃o,h'.get? e=some o∧o.cls= .type "StopIteration")->E (.ref e) { s with heap:=h' }) :
  XQ (X7 P w) A (V4.«zip.__next__» ⟨[.ref z],[]⟩) Q E s:=by
 have r1:z∉f1∧TO∉f1∧i2∉f1:=⟨λm=>(D.a1 z m).1 rfl,λm=>(D.a1 TO m).2.1 rfl,λm=>(D.a1 i2 m).2.2 rfl⟩
 have r2:z∉f2∧TO∉f2∧i1∉f2:=⟨λm=>(D.a2 z m).1 rfl,λm=>(D.a2 TO m).2.1 rfl,λm=>(D.a2 i1 m).2.2 rfl⟩
 have st:∀{b:Addr} {h h':Heap} {f:List Addr},Vs b h h'->b∉f->∀c∈f,∀o,h.get? c=some o->h'.get? c=some o:=λsb hb c hc o e=>sb.extBut _ _ (λq=>hb (q▸hc)) e
 show XQ _ _ (field (.ref z) 2>>=_) _ _ _
 refine Xf (BK hz rfl (x:=.bool false) rfl ?_)
 show XQ _ _ (field (.ref z) 3>>=_) _ _ _
 refine Xf (BK hz rfl (x:=.ref TI) rfl (Xf (Vf hTI rfl ?_)))
 show XQ _ _ (JW (.ref z)>>=_) _ _ _
 refine Xf ?_
 unfold JW
 refine Xf (BK hz rfl (x:=.none) rfl (X5 ?_))
 simp only[if_true]
 refine Xf (wpAny_rule (Xf (BK hz rfl (x:=.ref TO) rfl (Xf (Vk hz (by simp) λh3 z3 b3=>?_)))))
 replace z3:IsZip h3 z TI TO .ellipsis:=z3
 refine Xf ?_
 simp only[List.zipIdx_cons,List.zipIdx_nil,Ul,V1]
 refine Xf (Xf (wpAny_onRaise ?_))
 show XQ _ _ (QR (.ref i1)>>=_) _ _ _
 rcases g1 with G1|⟨⟨x,G1⟩,G2⟩
 ·obtain⟨i1z,i1O,i12⟩:=D.a1 i1 G1.mem
  refine Xf (G1.run (s:={ s with heap:=h3 }) hh (G1.keep _ _ (st b3 r1.1) h1) λh4 e b4 he=>?_)
  obtain⟨oe,hoe,hce⟩:=he
  have z4:IsZip h4 z TI TO .ellipsis:=b4 _ _ i1z.symm z3
  have ez:e≠z:=λq=>by subst q;rw[z4]at hoe;cases hoe;simp at hce
  refine Vk z4 (by simp) λh5 _ b5=>hE h5 e (λc o n q=>?_) ⟨oe,b5.extBut _ _ ez hoe,hce⟩
  simp only[Xu,V7,or_false,not_or]at n
  exact b5.extBut _ _ n.1 (b4 _ _ n.2.2.1 (b3.extBut _ _ n.1 q))
 ·obtain⟨i1z,i1O,i12⟩:=D.a1 i1 G1.mem
  obtain⟨i2z,i2O,i21⟩:=D.a2 i2 G2.mem
  refine Xf (G1.run (s:={ s with heap:=h3 }) (G1.keep _ _ (st b3 r1.1) h1) λh4 k4 b4=>X5 ?_)
  have o4:BJ h4 TO a b:=b4.extBut _ _ i1O.symm (b3.extBut _ _ D.TOz hTO)
  refine Xf (Vf o4 rfl (Xf (Zlg (s:={ s with heap:=h4 }) o4 λh5 o5 b5=>Xf (wpAny_letGo (X5 ?_)))))
  refine Xf (Xf (wpAny_onRaise ?_))
  show XQ _ _ (QR (.ref i2)>>=_) _ _ _
  refine Xf (G2.run (s:={ s with heap:=h5 }) hh (G2.keep _ _ (st b5 r2.2.1) (G2.keep _ _ (st b4 r2.2.2) (G2.keep _ _ (st b3 r2.1) h2))) λh6 e b6 he=>?_)
  obtain⟨oe,hoe,hce⟩:=he
  have z6:IsZip h6 z TI TO .ellipsis:=b6 _ _ i2z.symm (b5.extBut _ _ D.TOz.symm (b4.extBut _ _ i1z.symm z3))
  have ez:e≠z:=λq=>by subst q;rw[z6]at hoe;cases hoe;simp at hce
  refine Vk z6 (by simp) λh7 _ b7=>hE h7 e (λc o n q=>?_) ⟨oe,b7.extBut _ _ ez hoe,hce⟩
  simp only[Xu,V7,or_false,not_or]at n
  exact b7.extBut _ _ n.1 (b6 _ _ n.2.2.2 (b5.extBut _ _ n.2.1 (b4.extBut _ _ n.2.2.1 (b3.extBut _ _ n.1 q))))
theorem Zqa{z TI TO i1 i2:Addr}{f1 f2:List Addr}{S1 T1 S2 T2:Heap->Prop}{x y a b:Xc}{Q:Option Xc->Xd->Prop}(D:ZA z TI TO i1 i2 f1 f2)(G1:Gives P w i1 f1 S1 x T1)(G2:Gives P w i2 f2 S2 y T2)
  (hz:IsZip s.heap z TI TO .none) (hTI:BJ s.heap TI (.ref i1) (.ref i2)) (hTO:BJ s.heap TO a b) (h1:S1 s.heap) (h2:S2 s.heap)
  (hQ:∀h',IsZip h' z TI TO (rawInt s.heap.objs.size)->BJ h' TO x y->T1 h'->T2 h'->BJ h' s.heap.objs.size x y ->
   (∀ c o,c∉[z,TO,i1,i2]->s.heap.get? c=some o->h'.get? c=some o)->Q (some (.ref s.heap.objs.size)) { s with heap:=h' }):XQ (X7 P w) A (pyNext (.ref z)) Q E s:=by
 have hT:s.TypeIs (.ref z) "zip" :=⟨_,hz,rfl⟩
 unfold pyNext
 exact Xf (wpAny_attempt (V5 (name:=Str.ofString "__next__") hT F.slot_zip_next (Vx F.slot_zip_next hT F.entry_zip_next (Zqv D G1 G2 hz hTI hTO h1 h2 λh' a1 a2 a3 a4 a5 a6=>X5 (hQ h' a1 a2 a3 a4 a5 a6)) (F.args_zip_next_1 _))))
theorem Zsp{z TI TO i1 i2:Addr}{f1 f2:List Addr}{S1 T1 S2:Heap->Prop}{a b:Xc}{Q:Option Xc->Xd->Prop}(hh:A.handled=none)(D:ZA z TI TO i1 i2 f1 f2)(g1:Zj1 P w i1 f1 S1∨(∃x,Gives P w i1 f1 S1 x T1)∧Zj1 P w i2 f2 S2)
  (hz:IsZip s.heap z TI TO .none) (hTI:BJ s.heap TI (.ref i1) (.ref i2)) (hTO:BJ s.heap TO a b) (h1:S1 s.heap) (h2:S2 s.heap)
  (hQ:∀h',(∀c o,c∉[z,TO,i1,i2]->s.heap.get? c=some o->h'.get? c=some o)->Q none { s with heap:=h' }):XQ (X7 P w) A (pyNext (.ref z)) Q E s:=by
 have hT:s.TypeIs (.ref z) "zip" :=⟨_,hz,rfl⟩
 unfold pyNext
 refine Xf (wpAny_attempt (V5 (name:=Str.ofString "__next__") hT F.slot_zip_next (Vx F.slot_zip_next hT F.entry_zip_next (Zu4 hh D g1 hz hTI hTO h1 h2 λh' e hk he=>?_) (F.args_zip_next_1 _))))
 obtain⟨o,ho,hc⟩:=he
 exact Xf (wpAny_isInstance (T :="StopIteration") (b:=true) ⟨o,ho,hc⟩ isSubtype_stop (X5 (hQ _ hk)))
theorem Zqu{it t:Addr}{i:Nat}{items:Array Xc}{x:Xc}(hx:items[i]? =some x):Gives P w it [it,t] (λh=>IsTupIter h it t i∧IsTup h t items) x (λh=>IsTupIter h it t (i+1)) where
 mem:=by simp
 run:=fun{A E s Q} ⟨hit,ht⟩ hQ=>by
  obtain⟨o,ho,hc,hd⟩:=id hit
  obtain⟨ol,hol,_,nl,hdl⟩:=ht
  unfold QR
  refine Xf (V5 (name:=Str.ofString "__next__") hit.typeIs U0 (Vx U0 hit.typeIs entry_tupleiter_next ?_ (args_tupleiter_next _)))
  show XQ _ _ (field (.ref it) 0>>=_) _ _ s
  refine Xf (BK ho hd (x:=.ref t) rfl ?_)
  show XQ _ _ (if(QX t==QK)=true then _ else _) _ _ s
  rw[if_neg (show¬((QX t==QK)=true)from XF)]
  show XQ _ _ (field (.ref it) 1>>=_) _ _ s
  refine Xf (BK ho hd (x:=.int i 0) rfl ?_)
  show XQ _ _ (seqItems? (.ref t)>>=_) _ _ s
  refine Xf (Vf hol hdl ?_)
  simp only[Qj,hx]
  refine Xf (wpAny_setField ho hd (by simp) (X5 ⟨x,rfl,X5 (hQ _ ?_ (Heap.SameBut.update ..))⟩))
  exact⟨_,Heap.get?_update_self _ ho (Obj.isFreed_of_fields (Obj.data_mapFields hd _)),(Obj.cls_mapFields ..).trans hc,by rw[Obj.data_mapFields hd];simp[rawInt]⟩
 keep:=λh h' k ⟨⟨o,a1,a2⟩,⟨o',b1,b2⟩⟩=>⟨⟨o,k it (by simp) o a1,a2⟩,⟨o',k t (by simp) o' b1,b2⟩⟩
 keep':=λh h' k ⟨o,a1,a2⟩=>⟨o,k it (by simp) o a1,a2⟩
theorem Zwl{it t:Addr}{i:Nat}{items:Array Xc}(hx:items[i]? =none):Zj1 P w it [it,t] (λh=>IsTupIter h it t i∧IsTup h t items) where
 mem:=by simp
 run:=fun{A E s Q} hh ⟨hit,ht⟩ hE=>by
  obtain⟨o,ho,hc,hd⟩:=id hit
  obtain⟨ol,hol,_,nl,hdl⟩:=ht
  unfold QR
  refine Xf (V5 (name:=Str.ofString "__next__") hit.typeIs U0 (Vx U0 hit.typeIs entry_tupleiter_next ?_ (args_tupleiter_next _)))
  show XQ _ _ (field (.ref it) 0>>=_) _ _ s
  refine Xf (BK ho hd (x:=.ref t) rfl ?_)
  show XQ _ _ (if(QX t==QK)=true then _ else _) _ _ s
  rw[if_neg (show¬((QX t==QK)=true)from XF)]
  show XQ _ _ (field (.ref it) 1>>=_) _ _ s
  refine Xf (BK ho hd (x:=.int i 0) rfl ?_)
  show XQ _ _ (seqItems? (.ref t)>>=_) _ _ s
  refine Xf (Vf hol hdl ?_)
  simp only[Qj,hx]
  refine Xf (wpAny_rule (Xf (wpAny_setField ho hd (by simp) ?_)))
  show XQ _ _ (newExc (.type "StopIteration") []>>=_) _ _ _
  refine Xf ?_
  simp only[newExc,newTuple]
  refine Xf (wpAny_newObj_type ?_ (by size_fits))
  refine Xf (m:=firstArgMember _ _) (wpAny_of_eq (a:=QK) (by first|rfl|(simp only[firstArgMember];rfl)) ?_)
  refine wpAny_newObj_type ?_ (by size_fits)
  simp only[raiseNew]
  refine Xf (wpAny_handled ?_)
  first|rw[show A.in1.handled=none from hh]|rw[hh]
  exact Xf (X5 (wpAny_throw (hE _ _ (((Heap.SameBut.update ..).extBut.push _).push _) ⟨_,X3 _ rfl,rfl⟩)))
 keep:=λh h' k ⟨⟨o,a1,a2⟩,⟨o',b1,b2⟩⟩=>⟨⟨o,k it (by simp) o a1,a2⟩,⟨o',k t (by simp) o' b1,b2⟩⟩
end
noncomputable abbrev zT1(h:Heap)(a:Addr):Heap:=h.push { cls:=.type "tuple_iterator",data:=.fields #[.ref a,.int 0 0] }
noncomputable abbrev zT2(h:Heap)(a b:Addr):Heap:=(zT1 h a).push { cls:=.type "tuple_iterator",data:=.fields #[.ref b,.int 0 0] }
noncomputable abbrev zT3(h:Heap)(a b:Addr):Heap:=(zT2 h a b).push { cls:=.type "tuple",data:=.seq #[.ref h.objs.size,.ref (zT1 h a).objs.size] }
noncomputable abbrev zT4(h:Heap)(a b:Addr):Heap:=(zT3 h a b).push { cls:=.type "tuple",data:=.seq #[.none,.none] }
noncomputable abbrev zT5(h:Heap)(a b:Addr):Heap:=(zT4 h a b).push { cls:=.type "zip",data:=.fields #[.none,.bool false,.bool false,.ref (zT2 h a b).objs.size,.ref (zT3 h a b).objs.size] }
theorem Zve(a b:Addr)(xs ys:Array Xc) :
  Meets (V4.«zip.__new__» ⟨[.type "zip",.ref a,.ref b],[]⟩) (λ_ R s=>IsTup s.heap a xs∧IsTup s.heap b ys∧R (.ok (.ret (.ref (zT4 s.heap a b).objs.size))) { s with heap:=zT5 s.heap a b }) :=
 .of_wp λprog w A R s h=>by
  obtain⟨hp,g,d,tk,os⟩:=s
  obtain⟨h1,h2,h⟩:=h
  have hsub:=sub_zip
  have hL1:IsTup (Xd.heap ⟨hp,g,d,tk,os⟩) a xs:=h1
  have hL2:IsTup (Xd.heap ⟨hp.push { cls:=.type "tuple_iterator",data:=.fields #[.ref a,.int 0 0] },g,d,tk,os⟩) b ys:=h2.push _
  wp_walk using iter_tuple hL1,iter_tuple hL2
  exact⟨_,rfl,h⟩
section
variable {P:XH}{w:Qo}{A:Qk}{E:Xc->Xd->Prop}{s:Xd}
theorem Zs4{a b:Addr}{xs ys:Array Xc}{Q:Xc->Xd->Prop}(h1:IsTup s.heap a xs)(h2:IsTup s.heap b ys)
  (h:∀h' n,n=s.heap.objs.size->IsZip h' (n+4) (n+2) (n+3) .none->BJ h' (n+2) (.ref n) (.ref (n+1))->BJ h' (n+3) .none .none->IsTupIter h' n a 0->IsTupIter h' (n+1) b 0 ->
   (∀ c o,s.heap.get? c=some o->h'.get? c=some o)->Q (.ref (n+4)) { s with heap:=h' }):XQ (X7 P w) A (call (.type "zip") [.ref a,.ref b]) Q E s:=by
 refine callType_new F.called_zip (by decide) (F.typeCall_zip_2 _ _) (F.newCall_zip_2 _ _) (λobj=>F.args_object_init_3 obj _ _) F.entry_zip_new (Zve a b xs ys) ⟨h1,h2,?_⟩
 have e1:(zT1 s.heap a).objs.size=s.heap.objs.size+1:=JD ..
 have e2:(zT2 s.heap a b).objs.size=s.heap.objs.size+2:=by rw[JD,e1]
 have e3:(zT3 s.heap a b).objs.size=s.heap.objs.size+3:=by rw[JD,e2]
 have e4:(zT4 s.heap a b).objs.size=s.heap.objs.size+4:=by rw[JD,e3]
 have up:∀{c o},(zT1 s.heap a).get? c=some o->(zT5 s.heap a b).get? c=some o:=λx=>Xj _ (Xj _ (Xj _ (Xj _ x)))
 have p5:(zT5 s.heap a b).get? (zT4 s.heap a b).objs.size=some _:=X3 _ rfl
 have p4:(zT5 s.heap a b).get? (zT3 s.heap a b).objs.size=some _:=Xj _ (X3 _ rfl)
 have p3:(zT5 s.heap a b).get? (zT2 s.heap a b).objs.size=some _:=Xj _ (Xj _ (X3 _ rfl))
 have p2:(zT5 s.heap a b).get? (zT1 s.heap a).objs.size=some _:=Xj _ (Xj _ (Xj _ (X3 _ rfl)))
 have p1:(zT5 s.heap a b).get? s.heap.objs.size=some _:=up (X3 _ rfl)
 show _∧_
 rw[e2,e3,e4]at p5
 rw[e1,e2]at p3
 rw[e3]at p4
 rw[e1]at p2
 rw[e4]
 exact⟨⟨_,p5,rfl⟩,h _ _ rfl p5 p3 p4 ⟨_,p1,rfl,rfl⟩ ⟨_,p2,rfl,rfl⟩ λc o x=>up (Xj _ x)⟩
end
theorem nn{n a b:Nat}(h:a≠b):n+a≠n+b:=λe=>h (Nat.add_left_cancel e)
theorem n0{n b:Nat}(h:0≠b):n≠n+b:=λe=>h (Nat.add_left_cancel (n:=n) e)
theorem nlt{n a c:Nat}(h:a<n):a≠n+c:=Xp (Qe h (Vt ..))
theorem ZA.new{n a b:Nat}(h1:a<n)(h2:b<n):ZA (n+4) (n+2) (n+3) n (n+1) [n,a] [n+1,b] where
 TIz:=(by first|exact nn (by decide)|exact n0 (by decide)|exact(n0 (by decide)).symm|exact nlt h1|exact nlt h2|exact(nlt h1).symm|exact(nlt h2).symm|exact Xp h1|exact Xp h2|exact XN h1|exact XN h2|omega)
 TOz:=(by first|exact nn (by decide)|exact n0 (by decide)|exact(n0 (by decide)).symm|exact nlt h1|exact nlt h2|exact(nlt h1).symm|exact(nlt h2).symm|exact Xp h1|exact Xp h2|exact XN h1|exact XN h2|omega)
 a1:=λc hc=>by
  simp only[Xu,V7,or_false]at hc
  rcases hc with rfl|rfl
  ·exact⟨(by first|exact nn (by decide)|exact n0 (by decide)|exact(n0 (by decide)).symm|exact nlt h1|exact nlt h2|exact(nlt h1).symm|exact(nlt h2).symm|exact Xp h1|exact Xp h2|exact XN h1|exact XN h2|omega),(by first|exact nn (by decide)|exact n0 (by decide)|exact(n0 (by decide)).symm|exact nlt h1|exact nlt h2|exact(nlt h1).symm|exact(nlt h2).symm|exact Xp h1|exact Xp h2|exact XN h1|exact XN h2|omega),(by first|exact nn (by decide)|exact n0 (by decide)|exact(n0 (by decide)).symm|exact nlt h1|exact nlt h2|exact(nlt h1).symm|exact(nlt h2).symm|exact Xp h1|exact Xp h2|exact XN h1|exact XN h2|omega)⟩
  ·exact⟨(by first|exact nn (by decide)|exact n0 (by decide)|exact(n0 (by decide)).symm|exact nlt h1|exact nlt h2|exact(nlt h1).symm|exact(nlt h2).symm|exact Xp h1|exact Xp h2|exact XN h1|exact XN h2|omega),(by first|exact nn (by decide)|exact n0 (by decide)|exact(n0 (by decide)).symm|exact nlt h1|exact nlt h2|exact(nlt h1).symm|exact(nlt h2).symm|exact Xp h1|exact Xp h2|exact XN h1|exact XN h2|omega),(by first|exact nn (by decide)|exact n0 (by decide)|exact(n0 (by decide)).symm|exact nlt h1|exact nlt h2|exact(nlt h1).symm|exact(nlt h2).symm|exact Xp h1|exact Xp h2|exact XN h1|exact XN h2|omega)⟩
 a2:=λc hc=>by
  simp only[Xu,V7,or_false]at hc
  rcases hc with rfl|rfl
  ·exact⟨(by first|exact nn (by decide)|exact n0 (by decide)|exact(n0 (by decide)).symm|exact nlt h1|exact nlt h2|exact(nlt h1).symm|exact(nlt h2).symm|exact Xp h1|exact Xp h2|exact XN h1|exact XN h2|omega),(by first|exact nn (by decide)|exact n0 (by decide)|exact(n0 (by decide)).symm|exact nlt h1|exact nlt h2|exact(nlt h1).symm|exact(nlt h2).symm|exact Xp h1|exact Xp h2|exact XN h1|exact XN h2|omega),(by first|exact nn (by decide)|exact n0 (by decide)|exact(n0 (by decide)).symm|exact nlt h1|exact nlt h2|exact(nlt h1).symm|exact(nlt h2).symm|exact Xp h1|exact Xp h2|exact XN h1|exact XN h2|omega)⟩
  ·exact⟨(by first|exact nn (by decide)|exact n0 (by decide)|exact(n0 (by decide)).symm|exact nlt h1|exact nlt h2|exact(nlt h1).symm|exact(nlt h2).symm|exact Xp h1|exact Xp h2|exact XN h1|exact XN h2|omega),(by first|exact nn (by decide)|exact n0 (by decide)|exact(n0 (by decide)).symm|exact nlt h1|exact nlt h2|exact(nlt h1).symm|exact(nlt h2).symm|exact Xp h1|exact Xp h2|exact XN h1|exact XN h2|omega),(by first|exact nn (by decide)|exact n0 (by decide)|exact(n0 (by decide)).symm|exact nlt h1|exact nlt h2|exact(nlt h1).symm|exact(nlt h2).symm|exact Xp h1|exact Xp h2|exact XN h1|exact XN h2|omega)⟩
theorem ZA.new2(n:Nat):(n+2:Nat)≠n+3∧(n+2:Nat)≠n∧(n+2:Nat)≠n+1:=⟨nn (by decide),(n0 (by decide)).symm,nn (by decide)⟩
section
variable {X:Cx}{io:List Nat}{p c:Bool}{a b:Expr}{mr:MAt}
noncomputable def Z41(ds:List Xa):Option (List Xa):=match ds with|[.list as,.list bs]=>some (Zpj as bs)|[.tuple as,.tuple bs]=>some (Zpj as bs)|_=>none
noncomputable def Zeg(a:FA):FI:=λδ=>(a δ).bind λp=>(Z41 (OT.datas p.1)).bind λds=>some (ds,p.2)
end
noncomputable def Zgc{α:Type}(xs:List α)(lo hi st:Option Int):List α :=
 (sliceRange (JX lo hi st xs.length).1 (JX lo hi st xs.length).2.1 (JX lo hi st xs.length).2.2).filterMap (xs[·]?)
theorem Vals.places:∀{xs:List V} {its:List Xc},Vals xs its->∀js:List Nat,Vals (js.filterMap (xs[·]?)) (js.filterMap (its[·]?))
 | _,_,_,[]=>.nil
 | xs,its,h,j :: js=>by
  have ih:=Vals.places h js
  cases hn:xs[j]? with
  | some x=>
   obtain⟨u,hu,ru⟩:=h.get hn
   simp only[Q8,hn,hu]
   exact .cons ru ih
  | none=>
   have hv:its[j]? =none:=by
    rw[Qg]at hn⊢
    rw[←h.length];exact hn
   simp only[Q8,hn,hv]
   exact ih
theorem Das.places{G:Xb}{H:Hp}{L:Addr->Prop}{xs:List V}{ds:List Xa}(h:Das G H L xs ds):∀js:List Nat,Das G H L (js.filterMap (xs[·]?)) (js.filterMap (ds[·]?))
 | []=>.nil
 | j :: js=>by
  have ih:=Das.places h js
  cases hn:ds[j]? with
  | some x=>
   obtain⟨u,hu,ru⟩:=h.get hn
   simp only[Q8,hn,hu]
   exact .cons ru ih
  | none=>
   have hv:xs[j]? =none:=by
    rw[Qg]at hn⊢
    rw[h.length];exact hn
   simp only[Q8,hn,hv]
   exact ih
theorem Das.pick{G:Xb}{H:Hp}{L:Addr->Prop}{xs:List V}{ds:List Xa}(h:Das G H L xs ds)(lo hi st:Option Int):Das G H L (Zgc xs lo hi st) (Zgc ds lo hi st):=by
 unfold Zgc
 rw[h.length]
 exact h.places _
theorem Vals.pick{xs:List V}{its:List Xc}(h:Vals xs its)(lo hi st:Option Int):Vals (Zgc xs lo hi st) (slicePick its.toArray lo hi st).toList:=by
 have e:(slicePick its.toArray lo hi st).toList=(sliceRange (JX lo hi st xs.length).1 (JX lo hi st xs.length).2.1 (JX lo hi st xs.length).2.2).filterMap (its[·]?):=by
  simp[slicePick,h.length]
 rw[e]
 exact h.places _
theorem Zi9{xs:List V}{its:List Xc}(h:Vals xs its)(lo hi st:Option Int):(Zgc xs lo hi st).length≤xs.length:=by
 have e:=(h.pick lo hi st).length
 have s:=slicePick_size_le its.toArray lo hi st
 have l:=h.length
 simp only[Bm,Xv]at e s
 omega
section
variable {X:Cx}{e:Expr}{te:TE}{lo hi:Option Expr}{se:Expr}{tl th ts:TO}{pos p2:Pos}
noncomputable def tSt(K:Xb)(te:TE)(tl th ts:TO):TE:=λσ H Q=>te σ H λx H1=>tl σ H1 λl H2=>th σ H2 λu H3=>ts σ H3 λk H4=>∃a xs,x= .ref a∧SqL K H4 a xs∧k≠some 0∧∀p,H4 p=none->Q (.ref p) (upd H4 p (.lst (Zgc xs l u k)))
theorem Z1f(he:PE X e te)(hl:PO X lo tl)(hu:PO X hi th)(hst:PO X (some se) ts):PE X (.Subscript e (.Slice lo hi (some se) p2) pos) (tSt X.K te tl th ts):=by
 intro pins s σ H Q I h
 refine Subscript_ (thn (he pins s σ H _ I h) λv s1 qz9=>?_)
 obtain⟨x,H1,I1,r1,q1⟩:=qz9
 refine wpAny_Slice (thn (hl pins s1 σ H1 _ I1 q1) λvl s2 qz9=>?_)
 obtain⟨l,H2,I2,pl,q2⟩:=qz9
 refine thn (hu pins s2 σ H2 _ I2 q2) λvu s3 qz9=>?_
 obtain⟨u,H3,I3,pu,q3⟩:=qz9
 refine thn (hst pins s3 σ H3 _ I3 q3) λvs s4 qz9=>?_
 obtain⟨k,H4,I4,ps,q4⟩:=qz9
 obtain⟨a,xs,rfl,hx,hk,q⟩:=q4
 cases r1
 have I5:Inv X pins σ H4 { s4 with heap:=s4.heap.push { cls:=.type "slice",data:=.fields #[vl,vu,vs] } }:=I4.kept (t':=s4.toks) λb ob q=>Xj _ q
 obtain⟨its,r,ht,hz⟩:=I5.list hx
 have hlen:=r.length
 show XQ (X7 X.prog X.w) X.A (subscriptTail e (.Slice lo hi (some se) p2) (.ref a) (.ref s4.heap.objs.size)) (EP X pins σ Q) X.xe { s4 with heap:=s4.heap.push { cls:=.type "slice",data:=.fields #[vl,vu,vs] } }
 refine tail_any (ops:=[.ref a,.ref s4.heap.objs.size]) ht.isList.typeIs slot_list_getitem.lookup ?_ (by with_unfolding_all rfl)
 refine wpAny_getItem_list_slice ht.isList (Heap.IsSliceOf.new ..) pl pu ps hk ?_ (by rw[Xv]<;>omega)
 refine⟨.ref _,_,I5.laid (t':=s4.toks) (o:=.lst (Zgc xs l u k)) (λb ob q=>Xj _ q) (X6 _) ?_,rfl,q _ (I5.hok.fresh (X6 _))⟩
 exact⟨Qt (Zi9 r l u k) hz,_,0,r.pick l u k,X3 _ rfl⟩
end
section
variable {X:Cx}{io:List Nat}{p c:Bool}{a e:Expr}{ma:MEt}{lo hi:Option Expr}{se:Expr}{ml mh ms:MOt}{pos p2:Pos}{fa:FE}
noncomputable def Z19(m:MEt)(ml mh ms:MOt):MEt:=λδ K=>m δ λr δ1=>ml δ1 λlo δ2=>mh δ2 λhi δ3=>ms δ3 λst δ4=>st≠some 0∧asL r.data λds=>K (.nd ((Zgc ds lo hi st).map OT.fz)) δ4
theorem Z2c(ha:ME X io true c a ma)(hl:MO X io true lo ml)(hh:MO X io true hi mh)(hs:MO X io true (some se) ms):ME X io true c (.Subscript a (.Slice lo hi (some se) p2) pos) (Z19 ma ml mh ms):=by
 obtain⟨_,A,s⟩:=ha
 obtain⟨_,B,sl⟩:=hl
 obtain⟨_,D,sh⟩:=hh
 obtain⟨_,F,ss⟩:=hs
 refine⟨_,Z1f A B D F,?_⟩
 intro C H σ δ fp ex K' Q R h k
 refine s C H σ δ fp ex _ _ R h λH1 v r δ1 fp1 new r1 h1=>?_
 refine sl C H1 σ δ1 fp1 ex _ _ r1.base h1 λH2 l δ2 fp2 R2 S2 h2=>?_
 refine sh C H2 σ δ2 fp2 ex _ _ R2 h2 λH3 u δ3 fp3 R3 S3 h3=>?_
 refine ss C H3 σ δ3 fp3 ex _ _ R3 h3 λH4 w δ4 fp4 R4 S4 h4=>?_
 obtain⟨hw,h4⟩:=h4
 have s2:Same H1 H2:=λb o e=>S2.keep b o e (.inl rfl)
 have s3:Same H2 H3:=λb o e=>S3.keep b o e (.inl rfl)
 have s4:Same H3 H4:=λb o e=>S4.keep b o e (.inl rfl)
 obtain⟨e3,e4⟩:=S2.env rfl
 obtain⟨e5,e6⟩:=S3.env rfl
 obtain⟨e7,e8⟩:=S4.env rfl
 have q:=(((r1.da R).same s2).same s3).same s4
 obtain⟨a',xs,ds,rfl,e,qs,h4⟩:=q.lstInv h4
 refine⟨a',xs,rfl,e,hw,λp hp=>?_⟩
 have S:=((r1.stp.trans S2).trans S3).trans S4
 refine k _ _ _ δ4 fp4 [p] (RE.tree R R4 S (Yl hp _) (Zcv hp) (Zff p) (Own.list hp ((qs.pick l u w).wide λa l _=>?_))) h4
 rw[e8,e6,e4]
 exact l
noncomputable def stepOf(d:Xa)(lo hi st:Option Int):Option OT:=match d with| .list ds=>if st=some 0 then none else some (.nd ((Zgc ds lo hi st).map OT.fz))|_=>none
noncomputable def Zs7(e:FE)(lo hi st:FO):FE:=λδ=>(e δ).bind λp=>(lo p.2).bind λq=>(hi q.2).bind λr=>(st r.2).bind λt=>(stepOf p.1.data q.1 r.1 t.1).bind λo=>some (o,t.2)
theorem Z0g{lo hi st:FO}(h:ME X io p c e (Z19 (o2 fa) (o2 lo) (o2 hi) (o2 st))):ME X io p c e (o2 (Zs7 fa lo hi st)):=h.weak λδ K h=>by
 obtain⟨r,δ',h,k⟩:=h
 obtain⟨⟨x,δ1⟩,h1,h⟩:=bs h
 obtain⟨⟨y,δ2⟩,h2,h⟩:=bs h
 obtain⟨⟨z,δ3⟩,h3,h⟩:=bs h
 obtain⟨⟨t,δ4⟩,h4,h⟩:=bs h
 obtain⟨o,h5,h⟩:=bs h
 cases h
 refine⟨x,δ1,h1,y,δ2,h2,z,δ3,h3,t,δ4,h4,?_⟩
 unfold stepOf at h5
 dsimp only at h5⊢
 split at h5
 ·rename_i q
  split at h5
  ·cases h5
  ·rename_i n
   cases h5
   refine⟨n,?_⟩
   rw[show x.data=_ from q]
   exact k
 ·cases h5
end
theorem Zo1{α β:Type}{f g:α->Option β}:∀{l:List α},(∀k∈l,f k=g k)->l.filterMap f=l.filterMap g
 | [],_=>rfl
 | a :: l,h=>by
  rw[Q8,Q8,h a (by simp),Zo1 λk hk=>h k (by simp[hk])]
theorem Ztl{α:Type}(xs:List α):Zgc xs none none (some (-1))=xs.reverse:=by
 unfold Zgc sliceRange JX
 simp only[Option.getD_some]
 have d0:¬((-1:Int)>0):=by decide
 simp only[if_neg d0]
 have hc:(if(xs.length:Int)-1> -1 then((xs.length:Int)-1- -1- -1-1)/(- -1)else 0)=(xs.length:Int):=by
  split
  ·simp
  ·omega
 rw[hc,List.filterMap_map,Qj]
 apply List.ext_getElem?
 intro i
 have hf:List.filterMap ((λx=>xs[x]?)∘ λk:Nat=>((xs.length:Int)-1+ -1*(k:Int)).toNat) (Xn xs.length)=xs.reverse:=by
  have:∀k∈Xn xs.length,((λx=>xs[x]?)∘ λk:Nat=>((xs.length:Int)-1+ -1*(k:Int)).toNat) k=xs.reverse[k]?:=λk hk=>by
   have hk:=QH.mp hk
   show xs[((xs.length:Int)-1+ -1*(k:Int)).toNat]? =_
   rw[List.getElem?_reverse hk]
   congr 1
   omega
  rw[Zo1 this]
  have gen:∀(ys:List α) (m:Nat),m=ys.length->List.filterMap (λk=>ys[k]?) (Xn m)=ys:=by
   intro ys
   induction ys with
   | nil=>intro m hm;subst hm;rfl
   | cons y ys ih=>
    intro m hm
    subst hm
    rw[Ba,List.range_succ_eq_map,Q8]
    simp only[List.getElem?_cons_zero,List.filterMap_map]
    exact congrArg _ (ih _ rfl)
  exact gen _ _ (by simp)
 rw[hf]
variable {G:Xb}
section
variable {X:Cx}{io:List Nat}{p c:Bool}{a b e:Expr}{mr:MAt}{ra:FA}{i:Nat}
noncomputable def isFn(y:Str)(d:Xa):Bool:=match d with| .dict [(.str x,.bool true)]=>decide (x=y)|_=>false
end
noncomputable def Zuh:List Int->Int
 | []=>0
 | x :: xs=>xs.foldl min x
theorem Ztu(xs:List Int)(x:Int):xs.foldl min x∈x :: xs∧∀a∈x :: xs,xs.foldl min x≤a:=by
 induction xs generalizing x with
 | nil=>exact⟨.head _,λa h=>by rw[Qd.mp h];exact Int.le_refl _⟩
 | cons y ys ih=>
  obtain⟨h1,h2⟩:=ih (min x y)
  rw[List.foldl_cons]
  refine⟨?_,λa h=>?_⟩
  ·rcases Xu.mp h1 with h|h
   ·rw[h]
    rcases Int.le_total x y with z|z
    ·rw[Int.min_eq_left z];exact .head _
    ·rw[Int.min_eq_right z];exact .tail _ (.head _)
   ·exact .tail _ (.tail _ h)
  ·have h0:=h2 _ (.head _)
   rcases Xu.mp h with rfl|h
   ·exact Int.le_trans h0 (Int.min_le_left ..)
   ·rcases Xu.mp h with rfl|h
    ·exact Int.le_trans h0 (Int.min_le_right ..)
    ·exact h2 a (.tail _ h)
theorem Zq8{ns:List Int}(h:0<ns.length):Zuh ns∈ns∧∀a∈ns,Zuh ns≤a:=by
 cases ns with
 | nil=>cases h
 | cons x xs=>exact Ztu xs x
noncomputable def Z3n(K:Xb):List V->Hp->VK->Prop:=λxs H Q=>∃(a:Addr) (ns:List Int),xs=[.ref a]∧SqL K H a (ns.map V.int)∧0<ns.length∧Q (.int (Zuh ns)) H
theorem Ztv{X:Cx}{K:Xb}(hK:X.K=K)(hc:X.calm=true):Zcd X (.builtin "min") (Z3n K):=by
 subst hK
 intro pins s σ H xs us Q I r h
 obtain⟨a,ns,rfl,hs,hp,q⟩:=h
 obtain⟨u,rfl,ru⟩:=vals1 r
 cases(show u=QX a from ru)
 obtain⟨its,rv,pl,hz⟩:=I.list hs
 obtain⟨ps,rfl,e2⟩:=Zf2 rv
 have hl:ps.length=ns.length:=by rw[←e2,Xg]
 refine min_intList (xs:=ps.toArray) (I.ok.hd hc) (by simpa [intItems]using pl.isList) (by simpa using hl▸hp) λv h' tk hv hk=>?_
 obtain⟨t,rfl⟩:=intItems_at hv
 obtain⟨h1,h2⟩:=argBest_lt (numAt ps.toArray) (ps.toArray.size-1)
 have hn:∀j,j<ps.length->numAt ps.toArray j=ns.getD j 0:=λj hj=>by
  rw[numAt_eq,←e2]
 refine⟨.int (Zuh ns),H,I.kept (t':=tk) hk,⟨t,?_⟩,q⟩
 have sz:ps.toArray.size=ns.length:=by rw[Xv,hl]
 rw[sz]at h1 h2⊢
 obtain⟨m1,m2⟩:=Zq8 hp
 congr 1
 generalize ej:argBest (λi j=>decide (numAt ps.toArray i<numAt ps.toArray j)) (ns.length-1)=j at h1 h2⊢
 rw[hn j (by omega)]
 refine Int.le_antisymm ?_ (m2 _ ?_)
 ·obtain⟨j',hj',e⟩:=List.getElem_of_mem m1
  have:=h2 j' (by omega)
  rw[hn j (by omega),hn j' (by omega),Xh (i:=j'),Xi hj',e]at this
  exact this
 ·rw[Xh,Xi (by omega)]
  exact Bb _
noncomputable def Z3p:List Xa->(Xa->Prop)->Prop:=λds k=>n1 (λd=>∃ns:List Int,d= .list (ns.map Xl)∧0<ns.length∧k (.int (Zuh ns))) ds
theorem Zzh:PNs G (Z3n G) Z3p:=λH L xs ds k Q hx h kk=>by
 obtain⟨v,d,rfl,rfl,q,ns,e,hp,h'⟩:=hx.one h
 subst e
 obtain⟨a,rfl,hs⟩:=q.ints_sq
 exact⟨a,ns,rfl,hs,hp,kk _ _ (.int _) h'⟩
noncomputable def Zts:List Xa->Option Xa:=λds=>match ds with|[.list es]=>(Zb8 es).bind λns=>if 0<ns.length then some (.int (Zuh ns))else none|_=>none
theorem Z5f:∀ds r k,Zts ds=some r->k r->Z3p ds k:=λds r k h hk=>by
 unfold Zts at h
 split at h
 case h_2=>cases h
 obtain⟨ns,h1,h⟩:=bs h
 by_cases hp:0<ns.length
 ·rw[if_pos hp]at h
  cases h
  exact⟨ns,by rw[Zaj h1],hp,hk⟩
 ·rw[if_neg hp]at h;cases h
section
variable {X:Cx}{io:List Nat}{p c:Bool}{a:Expr}{mr:MAt}{ra:FA}
end
variable {G:Xb}
theorem Z6x{α:Type}{p:α->Prop}{a b c d:α}(h1:p a)(h2:p b)(h3:p c)(h4:p d):∀x∈[a,b,c,d],p x:=by
 intro x hx
 rcases Xu.mp hx with rfl|hx
 ·exact h1
 rcases Xu.mp hx with rfl|hx
 ·exact h2
 rcases Xu.mp hx with rfl|hx
 ·exact h3
 rcases Qd.mp hx with rfl
 exact h4
theorem Z82{α:Type}{p:α->Prop}{a b c d e:α}(h1:p a)(h2:p b)(h3:p c)(h4:p d)(h5:p e):∀x∈[a,b,c,d,e],p x:=λx hx=>(Xu.mp hx).elim (λq=>q▸h1) (Z6x h2 h3 h4 h5 x)
theorem no4{α:Type}{a b c d x:α}(h1:x≠a)(h2:x≠b)(h3:x≠c)(h4:x≠d):x∉[a,b,c,d]:=λhx=>Z6x (p:=λy=>x≠y) h1 h2 h3 h4 x hx rfl
noncomputable def SqB(K:Xb)(t:Bool)(H:Hp)(a:Addr)(xs:List V):Prop:=match t with|true=>H a=some (.tup xs)|false=>SqL K H a xs
noncomputable def IsB(t:Bool)(h:Heap)(a:Addr)(its:Array Xc):Prop:=match t with|true=>IsTup h a its|false=>h.IsList a its
noncomputable def ItB(t:Bool)(h:Heap)(it a:Addr)(i:Nat):Prop:=match t with|true=>IsTupIter h it a i|false=>h.IsListIter it a i
theorem ItB.at{t:Bool}{h h':Heap}{it a:Addr}{i:Nat}(x:ItB t h it a i)(k:∀o,h.get? it=some o->h'.get? it=some o):ItB t h' it a i:=by
 cases t with
 | false=>exact Heap.IsListIter.at x k
 | true=>
  obtain⟨o,ho,r⟩:=x
  exact⟨o,k o ho,r⟩
theorem ItB.obj{t:Bool}{h:Heap}{it a:Addr}{i:Nat}(x:ItB t h it a i):∃o,h.get? it=some o∧∀v,o.data≠ .cell v:=by
 cases t with
 | false=>
  obtain⟨o,ho,_,d⟩:=x
  exact⟨o,ho,λv q=>by rw[d]at q;cases q⟩
 | true=>
  obtain⟨o,ho,_,d⟩:=x
  exact⟨o,ho,λv q=>by rw[d]at q;cases q⟩
theorem IsB.lt{t:Bool}{h:Heap}{a:Addr}{its:Array Xc}(x:IsB t h a its):a<h.objs.size:=by
 cases t with
 | false=>
  obtain⟨o,ho,_⟩:=x
  exact XD ho
 | true=>
  obtain⟨o,ho,_⟩:=x
  exact XD ho
theorem SqB.its{X:Cx}{pins:List (Addr×Obj)}{σ:St}{H:Hp}{s:Xd}{t:Bool}{a:Addr}{xs:List V}(I:Inv X pins σ H s)(h:SqB X.K t H a xs):∃its:List Xc,Vals xs its∧IsB t s.heap a its.toArray:=by
 cases t with
 | false=>
  obtain⟨its,r,p,_⟩:=I.list h
  exact⟨its,r,p.isList⟩
 | true=>
  obtain⟨_,its,r,p⟩:=(show ObjOk X.prog X.w H s.heap a (.tup xs)from I.hok a _ h)
  exact⟨its,r,p⟩
theorem SqB.inj{X:Cx}{pins:List (Addr×Obj)}{σ:St}{H:Hp}{s:Xd}{t:Bool}{a:Addr}{xs ys:List V}(I:Inv X pins σ H s)(h:SqB X.K t H a xs)(k:SqB X.K t H a ys):xs=ys:=by
 cases t with
 | false=>exact I.list_inj h k
 | true=>
  have:=(show H a=some (.tup xs)from h).symm.trans k
  cases this
  rfl
section
variable {P:XH}{w:Qo}
theorem Zs0{t:Bool}{it a:Addr}{i:Nat}{items:Array Xc}{x:Xc}(hx:items[i]? =some x):Gives P w it [it,a] (λh=>ItB t h it a i∧IsB t h a items) x (λh=>ItB t h it a (i+1)):=by
 cases t with
 | true=>exact Zqu hx
 | false=>
  exact⟨.head _,λst hQ=>wpAny_nextOf_list_item st.1 st.2 hx hQ,λh h' k st=>⟨Heap.IsListIter.at st.1 λo e=>k it (.head _) o e,by
   obtain⟨o,ho,r⟩:=st.2
   exact⟨o,k a (.tail _ (.head _)) o ho,r⟩⟩,λh h' k st=>Heap.IsListIter.at st λo e=>k it (.head _) o e⟩
theorem Z2q{t:Bool}{it a:Addr}{i:Nat}{items:Array Xc}(hx:items[i]? =none):Zj1 P w it [it,a] (λh=>ItB t h it a i∧IsB t h a items):=by
 cases t with
 | true=>exact Zwl hx
 | false=>
  exact⟨.head _,λhh st hE=>wpAny_nextOf_list_end hh st.1 st.2 hx hE,λh h' k st=>⟨Heap.IsListIter.at st.1 λo e=>k it (.head _) o e,by
   obtain⟨o,ho,r⟩:=st.2
   exact⟨o,k a (.tail _ (.head _)) o ho,r⟩⟩⟩
end
noncomputable def Ybb(K:Xb)(t:Bool)(a b:Addr):It :=
 ⟨λi H=>∃xs ys x y,SqB K t H a xs∧SqB K t H b ys∧xs[i]? =some x∧ys[i]? =some y,
   λi H v H'=>∃p x y,H p=none∧v= .ref p∧H'=upd H p (.tup [x,y])∧(∀xs,SqB K t H a xs->xs[i]? =some x)∧∀ys,SqB K t H b ys->ys[i]? =some y,
   λi H=>∃xs ys,SqB K t H a xs∧SqB K t H b ys∧(xs.length≤i∨ys.length≤i)⟩
noncomputable def Ycy(t:Bool)(z TI TO i1 i2 a b:Addr)(i:Nat)(h:Heap):Prop:=IsZip h z TI TO .none∧BJ h TI (.ref i1) (.ref i2)∧(∃x y,BJ h TO x y)∧ItB t h i1 a i∧ItB t h i2 b i
theorem Zs5{P:XH}{w:Qo}{K:Xb}{es:List Expr}{kk:Nat}{pos:Pos}{t:Bool}{z TI TO i1 i2 a b:Addr}(D:ZA z TI TO i1 i2 [i1,a] [i2,b])(D2:TI≠TO∧TI≠i1∧TI≠i2):Turn P w K (.Tuple es kk pos) (Ybb K t a b) [z,TI,TO,i1,i2] z (Ycy t z TI TO i1 i2 a b) where
 mem:=.head _
 obj:=λi h st=>by
  obtain⟨s1,s2,⟨x,y,s3⟩,s4,s5⟩:=st
  exact Z82 ⟨_,s1,λv q=>by cases q⟩ ⟨_,s2,λv q=>by cases q⟩ ⟨_,s3,λv q=>by cases q⟩ s4.obj s5.obj
 keep:=λi h h' st k=>by
  obtain⟨s1,s2,⟨x,y,s3⟩,s4,s5⟩:=st
  have m2:TI∈[z,TI,TO,i1,i2]:=.tail _ (.head _)
  have m3:TO∈[z,TI,TO,i1,i2]:=.tail _ (.tail _ (.head _))
  have m4:i1∈[z,TI,TO,i1,i2]:=.tail _ (.tail _ (.tail _ (.head _)))
  have m5:i2∈[z,TI,TO,i1,i2]:=.tail _ (.tail _ (.tail _ (.tail _ (.head _))))
  exact⟨k z (.head _) _ s1,k TI m2 _ s2,⟨x,y,k TO m3 _ s3⟩,s4.at (k i1 m4),s5.at (k i2 m5)⟩
 item:=by
  intro X hP hw hK hc i pins s σ H E I hf st hg
  subst hP hw hK
  obtain⟨s1,s2,⟨x0,y0,s3⟩,s4,s5⟩:=st
  obtain⟨xs,ys,x,y,hx,hy,ex,ey⟩:=hg
  obtain⟨its,rx,px⟩:=hx.its I
  obtain⟨its',ry,py⟩:=hy.its I
  obtain⟨u,hu,ru⟩:=rx.get ex
  obtain⟨u',hu',ru'⟩:=ry.get ey
  rw[←List.getElem?_toArray]at hu hu'
  refine Zqa D (Zs0 hu) (Zs0 hu') s1 s2 s3 ⟨s4,px⟩ ⟨s5,py⟩ λh' g1 g2 g3 g4 g5 g6=>?_
  refine⟨_,rfl,wpAny_letOwnedTupleGo_zip (s:={ s with heap:=h' }) g1 λh2 z2 sb=>?_⟩
  have up:∀c o,c≠z->h'.get? c=some o->h2.get? c=some o:=λc o n e=>(sb.2 c n).trans e
  have kp:∀c o,c∉[z,TO,i1,i2]->s.heap.get? c=some o->h2.get? c=some o:=λc o n e=>up c o (λq=>n (q▸ .head _)) (g6 c o n e)
  have t5:BJ h2 s.heap.objs.size u u':=up _ _ (XN (XD s1)) g5
  have i1z:=(D.a1 i1 (.head _)).1
  have i2z:=(D.a2 i2 (.head _)).1
  have n3:=g3.at (up i1 · i1z)
  have n4:=g4.at (up i2 · i2z)
  obtain⟨f1,f2,f3,f4,f5⟩:(Zlk X pins H z∧Zlk X pins H TI∧Zlk X pins H TO∧Zlk X pins H i1∧Zlk X pins H i2):=⟨hf _ (.head _),hf _ (.tail _ (.head _)),hf _ (.tail _ (.tail _ (.head _))),hf _ (.tail _ (.tail _ (.tail _ (.head _)))),hf _ (.tail _ (.tail _ (.tail _ (.tail _ (.head _)))))⟩
  have I2:Inv X pins σ (upd H s.heap.objs.size (.tup [x,y])) { s with heap:=h2 } :=
   I.turnTup (ch:=[z,TO,i1,i2]) (its:=[u,u']) (Z6x f1 f3 f4 f5) kp (Z6x ⟨_,z2⟩ ⟨_,up _ _ D.TOz g2⟩ (n3.obj.imp λ_ q=>q.1) (n4.obj.imp λ_ q=>q.1)) (X6 _) Z2j (.cons ru (.cons ru' .nil)) ⟨_,t5,rfl,0,rfl⟩
  have lt:∀{c:Addr} {o:Obj},s.heap.get? c=some o->Zlk X pins H c->upd H s.heap.objs.size (.tup [x,y]) c=none:=λe f=>by rw[Z6 (Xp (XD e))];exact f.1
  refine⟨.ref s.heap.objs.size,_,I2,rfl,⟨_,x,y,I.fresh,rfl,rfl,λzs hz=>by rw[hz.inj I hx];exact ex,λzs hz=>by rw[hz.inj I hy];exact ey⟩,⟨z2,kp TI _ (no4 D.TIz D2.1 D2.2.1 D2.2.2) s2,⟨_,_,up _ _ D.TOz g2⟩,n3,n4⟩,?_⟩
  obtain⟨o4,e4,_⟩:=s4.obj
  obtain⟨o5,e5,_⟩:=s5.obj
  exact Z82 (lt s1 f1) (lt s2 f2) (lt s3 f3) (lt e4 f4) (lt e5 f5)
 done:=by
  intro X hP hw hK hc i pins s σ H E I hf st hg
  subst hP hw hK
  obtain⟨s1,s2,⟨x0,y0,s3⟩,s4,s5⟩:=st
  obtain⟨xs,ys,hx,hy,he⟩:=hg
  obtain⟨its,rx,px⟩:=hx.its I
  obtain⟨its',ry,py⟩:=hy.its I
  have l1:=rx.length
  have l2:=ry.length
  refine Zsp (I.ok.hd hc) D (S1:=λh=>ItB t h i1 a i∧IsB t h a its.toArray) (T1:=λh=>ItB t h i1 a (i+1)) (S2:=λh=>ItB t h i2 b i∧IsB t h b its'.toArray) ?_ s1 s2 s3 ⟨s4,px⟩ ⟨s5,py⟩ λh' k=>⟨rfl,I.turnAll (ch:=[z,TO,i1,i2]) (Z6x (hf _ (.head _)) (hf _ (.tail _ (.tail _ (.head _)))) (hf _ (.tail _ (.tail _ (.tail _ (.head _))))) (hf _ (.tail _ (.tail _ (.tail _ (.tail _ (.head _))))))) k⟩
  cases q:its.toArray[i]? with
  | none=>exact .inl (Z2q q)
  | some v=>
   refine .inr ⟨⟨v,Zs0 q⟩,Z2q ?_⟩
   have:=(Array.getElem?_eq_some_iff.mp q).1
   rw[Xv]at this
   rw[Array.getElem?_eq_none_iff,Xv]
   omega
 self:=λ_ _ _ _ _ st h=>wpAny_pyIter_zip st.1 h
theorem Zrp{P:XH}{w:Qo}{A:Qk}{E:Xc->Xd->Prop}{s:Xd}{t:Bool}{a b:Addr}{xs ys:Array Xc}{Q:Xc->Xd->Prop}(h1:IsB t s.heap a xs)(h2:IsB t s.heap b ys)
  (h:∀h' n,n=s.heap.objs.size->IsZip h' (n+4) (n+2) (n+3) .none->BJ h' (n+2) (.ref n) (.ref (n+1))->BJ h' (n+3) .none .none->ItB t h' n a 0->ItB t h' (n+1) b 0 ->
   (∀ c o,s.heap.get? c=some o->h'.get? c=some o)->Q (.ref (n+4)) { s with heap:=h' }):XQ (X7 P w) A (call (.type "zip") [.ref a,.ref b]) Q E s:=by
 cases t with
 | true=>exact Zs4 h1 h2 h
 | false=>exact call_zip_2 h1 h2 λh' g1 g2 g3 g4 g5 _ g7=>h h' _ rfl g1 g2 g3 g4 g5 g7
noncomputable def Yaf(K:Xb)(ta:TA):TI:=λσ H R=>ta σ H λvs H1=>∃t a b,vs=[.ref a,.ref b]∧(∃xs,SqB K t H1 a xs)∧(∃ys,SqB K t H1 b ys)∧R (Ybb K t a b) H1
theorem Zx8{X:Cx}{K:Xb}{a b:Expr}{ta:TA}{p pos pt:Pos}{es:List Expr}{kk:Nat}(hK:X.K=K)(hg:Gl X "zip")(hm:X.mg "zip"=none)(hv:Qm "zip"=some (.type "zip"))(ha:PA X [a,b] ta)
  (he:Xq [a,b] X.env=(false,eval a X.env) :: Xq [b] X.env:=by rfl) (hpl:(BV pos (Xq [b] X.env)).any (·.1)=false:=by rfl) :
  PI X (.Tuple es kk pt) (.Call (.Name "zip" p) [a,b] [] pos) (Yaf K ta):=by
 subst hK
 intro pins s σ H R I h
 refine wpAny_Call_Name_kw (Zh7 I hg hm hv ?_ (by decide) (by decide))
 refine Bj (thn (ha pos pins s σ H _ I h) λus s1 q=>?_) he hpl
 obtain⟨vs,H1,I1,r1,t,l1,l2,e1,⟨xs,hx⟩,⟨ys,hy⟩,q⟩:=q
 subst e1
 obtain⟨u,u',rfl,ru,ru'⟩:=vals2 r1
 cases(show u=QX l1 from ru)
 cases(show u'=QX l2 from ru')
 obtain⟨its,rx,px⟩:=hx.its I1
 obtain⟨its',ry,py⟩:=hy.its I1
 refine Zrp px py λh' n en g1 g2 g3 g4 g5 g7=>?_
 have I2:Inv X pins σ H1 { s1 with heap:=h' }:=I1.kept (t':=s1.toks) g7
 refine wpAny_pyIter_zip (s:={ s1 with heap:=h' }) g1 ?_
 refine⟨_,[_,_,_,_,_],Ycy _ _ _ _ _ _ _ _,_,H1,rfl,I2,Zs5 (ZA.new (en▸px.lt) (en▸py.lt)) (ZA.new2 n),⟨g1,g2,⟨_,_,g3⟩,g4,g5⟩,?_,q⟩
 subst en
 have ok:∀k:Nat,Zlk X pins H1 (s1.heap.objs.size+k):=λk=>I1.fpOk (Vt _ _) (I1.hok.fresh (Vt _ _))
 exact Z82 (ok 4) (ok 2) (ok 3) (ok 0) (ok 1)
section
variable {X:Cx}{io:List Nat}{p c:Bool}{a b:Expr}{mr:MAt}{ra:FA}
noncomputable def Z7t(t:Bool)(as:List Xa):Xa:=match t with|true=>.tuple as|false=>.list as
theorem Rel.keptSq{C:MC G}{H:Hp}{σ:St}{δ:Zi}{fp:Fp}{ex:Addr->Prop}{v:V}{t:Bool}{ds:List Xa}(R:Rel C io H σ δ fp ex)(q:Da G H (λa=>c=true->Lf C fp ex a) v (Z7t t ds)) :
  ∃a xs,v= .ref a∧∀H':Hp,(∀b o,H b=some o->(c=false∨¬Foot fp b)->H' b=some o)->SqB G t H' a xs∧Das G H' (λa=>c=true->(Lf C fp ex a∧H a≠none)) xs ds:=by
 cases t with
 | false=>exact R.keptList q
 | true=>
  generalize hd:Z7t true ds=d at q
  cases q with
  | tup e r=>
   cases hd
   rename_i a0 xs0
   refine⟨a0,xs0,rfl,λH' kp=>?_⟩
   obtain⟨f1,f2⟩:=R.kept kp
   exact⟨f2 _ (.tup _) e,r.frame f1 f2⟩
  | _=>cases hd
theorem Zvt{ds es:List Xa}(h:Z41 ds=some es):∃t as bs,ds=[Z7t t as,Z7t t bs]∧es=Zpj as bs:=by
 unfold Z41 at h
 split at h
 ·cases h;exact⟨false,_,_,rfl,rfl⟩
 ·cases h;exact⟨true,_,_,rfl,rfl⟩
 ·cases h
noncomputable def iZB(mr:MAt):MIt:=λδ K=>mr δ λrs δ'=>∃es,Z41 (OT.datas rs)=some es∧K es δ'
theorem Zgt{p' pos pt:Pos}{es:List Expr}{kk:Nat}(hg:Gl X "zip")(hm:X.mg "zip"=none)(hv:Qm "zip"=some (.type "zip"))(ha:MA X io p c [a,b] mr)
  (he:Xq [a,b] X.env=(false,eval a X.env) :: Xq [b] X.env:=by rfl) (hpl:(BV pos (Xq [b] X.env)).any (·.1)=false:=by rfl):MI X io p c (.Tuple es kk pt) (.Call (.Name "zip" p') [a,b] [] pos) (iZB mr):=by
 obtain⟨_,A,s⟩:=ha
 refine⟨_,Zx8 rfl hg hm hv A he hpl,λC H σ δ fp ex K' Q R h kk=>s C H σ δ fp ex _ _ R h λH1 vs rs δ1 fp1 new r1 h1=>?_⟩
 have q:=r1.das R
 obtain⟨es,hz,h1⟩:=h1
 obtain⟨t,as,bs,e,rfl⟩:=Zvt hz
 rw[e]at q
 cases q with
 | cons q1 q2=>
  cases q2 with
  | cons q2 q3=>
   cases q3
   have R1:=r1.base
   obtain⟨l1,xs,rfl,k1⟩:=R1.keptSq q1
   obtain⟨l2,ys,rfl,k2⟩:=R1.keptSq q2
   refine⟨t,l1,l2,rfl,⟨_,(k1 H1 λ_ _ e _=>e).1⟩,⟨_,(k2 H1 λ_ _ e _=>e).1⟩,kk _ H1 _ δ1 fp1 R1 r1.stp (λH' kp i=>?_) h1⟩
   obtain⟨s1,d1⟩:=k1 H' kp
   obtain⟨s2,d2⟩:=k2 H' kp
   refine⟨λd hd=>?_,λhd=>⟨_,_,s1,s2,by rw[d1.length,d2.length];exact Zst hd⟩⟩
   obtain⟨x,y,hx,hy,rfl⟩:=Zv1 hd
   obtain⟨u,hu,qu⟩:=d1.get hx
   obtain⟨w,hw,qw⟩:=d2.get hy
   refine⟨⟨_,_,u,w,s1,s2,hu,hw⟩,λv H'' hyl=>?_⟩
   obtain⟨t',u',w',ht,rfl,rfl,hu',hw'⟩:=hyl
   cases hu.symm.trans (hu' _ s1)
   cases hw.symm.trans (hw' _ s2)
   exact⟨Yl ht _,.tup Yn (.cons (qu.same (Yl ht _)) (.cons (qw.same (Yl ht _)) .nil))⟩
theorem Zf6{tg e:Expr}(g:MI X io p c tg e (iZB (o2 ra))):MI X io p c tg e (o2 (Zeg ra)):=g.weak λδ K h=>by
 obtain⟨r,δ',h,k⟩:=h
 obtain⟨⟨x,δ1⟩,h1,h⟩:=bs h
 obtain⟨ds,h2,h⟩:=bs h
 cases h
 exact⟨x,_,h1,_,h2,k⟩
end
end L2
namespace L2
open PySem PySem.Spec PyProof.Rows PySem.W
noncomputable def kEv{α:Type}(lt:Nat->Nat->Bool):KasT α->α
 | .ret a=>a
 | .ask i j k=>kEv lt (k (lt i j))
noncomputable def kGood{α:Type}(n:Nat)(P:α->Prop):KasT α->Prop
 | .ret a=>P a
 | .ask i j k=>i<n∧j<n∧∀b,kGood n P (k b)
theorem kGood.bind{α β:Type}{n:Nat}{P:α->Prop}{R:β->Prop}{f:α->KasT β}(hf:∀a,P a->kGood n R (f a)){t:KasT α}(h:kGood n P t):kGood n R (t.bind f):=by
 induction t with
 | ret a=>exact hf a h
 | ask i j k ih=>exact⟨h.1,h.2.1,λb=>ih b (h.2.2 b)⟩
theorem kGood.ev{α:Type}{n:Nat}{P:α->Prop}{lt:Nat->Nat->Bool}{t:KasT α}(h:kGood n P t):P (kEv lt t):=by
 induction t with
 | ret a=>exact h
 | ask i j k ih=>exact ih _ (h.2.2 _)
theorem kGood.wp{α:Type}{n:Nat}{P:α->Prop}{lt:Nat->Nat->Bool}{cmp:Nat->Nat->(Bool->Xd->Prop)->Xd->Prop}{s:Xd}{Q:α->Xd->Prop}(hc:∀i j C,i<n->j<n->C (lt i j) s->cmp i j C s){t:KasT α}(h:kGood n P t)(q:Q (kEv lt t) s):t.kasWp cmp Q s:=by
 induction t with
 | ret a=>exact q
 | ask i j k ih=>exact hc i j _ h.1 h.2.1 (ih _ (h.2.2 _) q)
noncomputable def kP(n:Nat)(p:Array Nat):Prop:=p.toList.Perm (Xn n)
theorem kP.at{n:Nat}{p:Array Nat}(h:kP n p)(h0:0<n)(i:Nat):p.getD i 0<n:=by
 by_cases c:i<p.size
 ·have e:p.getD i 0=p[i]:=by simp[Array.getD,c]
  rw[e]
  exact QH.mp (h.mem_iff.mp (Array.getElem_mem_toList c))
 ·have e:p.getD i 0=0:=by simp[Array.getD,c]
  rw[e];exact h0
theorem kP.rev{n:Nat}{p:Array Nat}(h:kP n p)(i j:Nat):kP n (kas_rev p i j):=(Array.perm_iff_toList_perm.mp (mirror_perm p i j _)).trans h
theorem kP.bub{n:Nat}{p:Array Nat}(h:kP n p)(i j:Nat):kP n (bubble p i j):=(Array.perm_iff_toList_perm.mp (bubble_perm p i j)).trans h
theorem Zou{n:Nat}{p:Array Nat}(h:kP n p)(h0:0<n)(f m:Nat):kGood n (λ_=>True) (kas_asc p f m):=by
 induction f generalizing m with
 | zero=>exact trivial
 | succ f ih=>
  refine⟨h.at h0 _,h.at h0 _,λb=>?_⟩
  cases b
  ·exact ih _
  ·exact trivial
theorem Ztj{n:Nat}(h0:0<n)(f:Nat){p:Array Nat}(h:kP n p)(m q:Nat):kGood n (λr:Array Nat×Nat×Nat=>kP n r.1) (kas_desc f p m q):=by
 induction f generalizing p m q with
 | zero=>exact h
 | succ f ih=>
  refine⟨h.at h0 _,h.at h0 _,λb=>?_⟩
  cases b
  ·refine⟨h.at h0 _,h.at h0 _,λb=>?_⟩
   cases b
   ·exact ih h _ _
   ·exact h
  ·show kGood n _ (if q>0 then _ else _)
   split
   ·exact ih (h.rev _ _) _ _
   ·exact ih h _ _
theorem Zmb{n:Nat}{p:Array Nat}(h:kP n p)(h0:0<n)(m r:Nat):kGood n (λr:Nat×Array Nat=>kP n r.2) (kas_tail3 m r p):=by
 refine kGood.bind (P:=λ_=>True) (λa _=>?_) (Zou (h.rev _ _) h0 _ _)
 exact h.rev _ _
theorem Ze9{n:Nat}{p:Array Nat}(h:kP n p)(h0:0<n)(m r:Nat):kGood n (λr:Nat×Array Nat=>kP n r.2) (kas_descPart m r p) :=
 (Ztj h0 _ h _ _).bind λx hx=>by
  show kGood n _ (if x.2.2>0 then _ else _)
  split
  ·exact Zmb (hx.rev _ _) h0 _ _
  ·exact Zmb hx h0 _ _
theorem Zqb{n:Nat}{p:Array Nat}(h:kP n p)(h0:0<n)(r:Nat):kGood n (λr:Nat×Array Nat=>kP n r.2) (kas_count r p) :=
 (Zou h h0 _ _).bind λm _=>by
  show kGood n _ (if(m==r)=true then _ else if m>1 then _ else _)
  split
  ·exact h
  ·split
   ·refine⟨h.at h0 _,h.at h0 _,λb=>?_⟩
    cases b
    ·exact Ze9 (h.rev _ _) h0 _ _
    ·exact h
   ·exact Ze9 h h0 _ _
theorem Zpy{n:Nat}{p:Array Nat}(h:kP n p)(h0:0<n)(k f l r:Nat):kGood n (λ_=>True) (kas_place p k f l r):=by
 induction f generalizing l r with
 | zero=>exact trivial
 | succ f ih=>
  show kGood n _ (if l≥r then _ else _)
  split
  ·exact trivial
  ·refine⟨h.at h0 _,h.at h0 _,λb=>?_⟩
   cases b
   ·exact ih _ _
   ·exact ih _ _
theorem Zut{n:Nat}(h0:0<n)(f:Nat){p:Array Nat}(h:kP n p)(k:Nat):kGood n (kP n) (kas_bin f p k):=by
 induction f generalizing p k with
 | zero=>exact h
 | succ f ih=>exact(Zpy h h0 _ _ _ _).bind λl _=>ih (h.bub _ _) _
theorem Zma{n:Nat}(h0:0<n):kGood n (kP n) (kas_sort n) :=
 (Zqb (p:=Bf (Xn n)) (.refl _) h0 n).bind λr hr=>by
  show kGood n _ (if r.1<n then _ else _)
  split
  ·exact Zut h0 _ hr _
  ·exact hr
noncomputable def Z1o(lt:Nat->Nat->Bool)(n:Nat):List Nat:=(kEv lt (kas_sort n)).toList
theorem Zin{lt:Nat->Nat->Bool}{n:Nat}(h0:0<n):(Z1o lt n).Perm (Xn n):=(Zma h0).ev (P:=kP n)
end L2
namespace L2
open PySem PySem.Spec PyProof.Rows PySem.W PySem.SeqAt
open AutoSeq1 (wpAny_loadPart')
open MeetsSeq MeetsSeq2 MeetsSeq3 SeqRoads2
noncomputable def ltI:List Int->List Int->Bool
 | [],[]=>false
 | [],_ :: _=>true
 | _ :: _,[]=>false
 | x :: xs,y :: ys=>if x=y then ltI xs ys else decide (x<y)
theorem Zjy{vs:List Xc}{ns:List Int}(h:Bg vs ns)(i:Nat)(hi:i<vs.length):∃x t,vs[i]? =some (.int x t)∧ns.drop i=x :: ns.drop (i+1):=by
 induction h generalizing i with
 | nil=>exact absurd hi (QB i)
 | cons n t h ih=>
  cases i with
  | zero=>exact⟨n,t,rfl,rfl⟩
  | succ i=>exact ih i (Nat.lt_of_succ_lt_succ hi)
theorem Zea{vs:List Xc}{ns:List Int}(h:Bg vs ns):vs.length=ns.length:=by
 induction h with
 | nil=>rfl
 | cons n t h ih=>exact congrArg Nat.succ ih
theorem Zh8{xs ys:List Int}(h:xs=[]∨ys=[]):ltI xs ys=decide (xs.length<ys.length):=by
 cases xs<;>cases ys<;>first|rfl|(rcases h with h|h<;>cases h)|exact(decide_eq_true (Nat.succ_pos _)).symm
theorem Zq4(l b:Addr)(items items2:Array Xc)(n n2:Nat)(dd dd2:Option Addr)(sl sl2:Array (Option Xc)){xs ys:List Int}(h1:Bg items.toList xs)(h2:Bg items2.toList ys)(k:Nat) :
  ∀i:Nat,items.size-i=k->i≤items.size->i≤items2.size->Meets (V4.«list.__eq__.loop» ⟨[.ref l,.ref b,rawInt i,rawInt 0],[]⟩)
   (λA R s=>s.heap.get? l=some { cls:=.type "list",dict:=dd,data:=.seq items n,slots:=sl }∧s.heap.get? b=some { cls:=.type "list",dict:=dd2,data:=.seq items2 n2,slots:=sl2 }∧
    R (.ok (.ret (.bool (ltI (xs.drop i) (ys.drop i))))) s):=by
 have e1:items.size=xs.length:=Zea h1
 have e2:items2.size=ys.length:=Zea h2
 have fin:∀i,i≤items.size->i≤items2.size->(i=items.size∨i=items2.size)->ltI (xs.drop i) (ys.drop i)=decide (items.size<items2.size):=λi u1 u2 c=>by
  rw[Zh8 (c.imp (λc=>Bq (by omega)) λc=>Bq (by omega)),QL,QL]
  exact decide_eq_decide.mpr (by omega)
 induction k with
 | zero=>
  intro i hk u1 u2 prog w A R s h
  obtain⟨hp,g,d,tk,os⟩:=s;obtain⟨hl,hb,h⟩:=h
  wp_walk using X4 hl,X4 hb
  have hi1:items[((i:Nat):Int).toNat]? =none:=by simp;omega
  rw[fin i u1 u2 (.inl (by omega))]at h
  rw[hi1]
  wp_walk using X4 hl,X4 hb
  exact h
 | succ k ih=>
  intro i hk u1 u2 prog w A R s h
  obtain⟨hp,g,d,tk,os⟩:=s;obtain⟨hl,hb,h⟩:=h
  have hlt:i<items.size:=by omega
  obtain⟨x,t,q1,q2⟩:=Zjy h1 i hlt
  have hi1:items[((i:Nat):Int).toNat]? =some (.int x t):=by rw[Qj,←q1,JR]
  wp_walk using X4 hl,X4 hb
  by_cases c:i<items2.size
  ·obtain⟨y,u,q3,q4⟩:=Zjy h2 i c
   have hi2:items2[((i:Nat):Int).toNat]? =some (.int y u):=by rw[Qj,←q3,JR]
   have hc:((i:Int)+1)=((i+1:Nat):Int):=by push_cast;rfl
   rw[q2,q4]at h
   unfold ltI at h
   rw[hi1,hi2]
   refine Xf (EqAt.int_int x t y u prog w _ _ ?_)
   by_cases cx:x=y
   ·rw[if_pos cx]at h
    rw[beq_iff_eq.mpr cx]
    wp_walk
    rw[hc]
    exact⟨plainId_quiet Vp _,UW entry_eq_loop (by
     rw[V8 Vp _]
     exact ih (i+1) (by omega) (by omega) (by omega) prog w A R _ ⟨hl,hb,h⟩)⟩
   ·rw[if_neg cx]at h
    rw[beq_eq_false_iff_ne.mpr cx]
    wp_walk using X4 hl,X4 hb
    rw[hi1,hi2]
    refine Xf (lt_int ?_)
    wp_walk
    exact h
  ·have hi2:items2[((i:Nat):Int).toNat]? =none:=by simp;omega
   rw[fin i u1 u2 (.inr (by omega))]at h
   rw[hi1,hi2]
   wp_walk using X4 hl,X4 hb
   exact h
theorem Zmv(l b:Addr)(items items2:Array Xc)(n n2:Nat)(dd dd2:Option Addr)(sl sl2:Array (Option Xc)){xs ys:List Int}(h1:Bg items.toList xs)(h2:Bg items2.toList ys) :
  Meets (V4.«list.__lt__» ⟨[.ref l,.ref b],[]⟩)
   (λA R s=>s.heap.get? l=some { cls:=.type "list",dict:=dd,data:=.seq items n,slots:=sl }∧s.heap.get? b=some { cls:=.type "list",dict:=dd2,data:=.seq items2 n2,slots:=sl2 }∧
    R (.ok (.ret (.bool (ltI xs ys)))) s):=by
 intro prog w A R s h
 obtain⟨hp,g,d,tk,os⟩:=s;obtain⟨hl,hb,h⟩:=h
 have f3:=AutoSeq1.sub_list_list
 wp_walk using X4 hl,X4 hb
 exact⟨plainId_quiet Vp _,UW entry_eq_loop (by
  rw[V8 Vp _]
  exact Zq4 l b items items2 n n2 dd dd2 sl sl2 h1 h2 _ 0 rfl (QV _) (QV _) prog w A R _ ⟨hl,hb,h⟩)⟩
section
variable {prog:XH}{w:Qo}{A:Qk}{E:Xc->Xd->Prop}{s:Xd}
theorem Zka{l b:Addr}{items items2:Array Xc}{xs ys:List Int}{Q:Bool->Xd->Prop}(hu:A.units<Ui)(hl:s.heap.IsList l items)(hb:s.heap.IsList b items2)(h1:Bg items.toList xs)(h2:Bg items2.toList ys)(h:Q (ltI xs ys) s) :
  XQ (X7 prog w) A (oneLt' true (.ref l) (.ref b)) Q E s:=by
 obtain⟨⟨cls,dd,data,sl⟩,hl,hc,n,hd⟩:=hl
 obtain⟨⟨cls2,dd2,data2,sl2⟩,hb,hc2,n2,hd2⟩:=hb
 simp only at hc hd hc2 hd2
 subst hc hd hc2 hd2
 rw[oneLt'_eq]
 simp only[if_true]
 refine Xf (wpAny_cRoomFor hu ?_)
 refine Xf (wpAny_callSpecialIfBound?_slot ⟨_,hl,rfl⟩ F.slot_list_lt (call_meets F.slot_list_lt ⟨_,hl,rfl⟩ F.entry_list_lt (F.args_list_lt_2 _ _) (Zmv l b items items2 n n2 dd dd2 sl sl2 h1 h2) ⟨hl,hb,?_⟩))
 exact V9 h
end
theorem Z5m{prog:XH}{w:Qo}{A:Qk}{E:Xc->Xd->Prop}{s:Xd}{a b:Int}{t u:Tok}{Q:Xc->Xd->Prop}(h:Q (.bool (decide (a<b))) s):XQ (X7 prog w) A (richCompare .Lt (.int a t) (.int b u)) Q E s:=lt_int h
theorem Zqd(l b:Addr)(items items2:Array Xc)(n n2:Nat)(dd dd2:Option Addr)(sl sl2:Array (Option Xc)){xs ys:List Int}(h1:Bg items.toList xs)(h2:Bg items2.toList ys) :
  Meets (V4.«tuple.__lt__» ⟨[.ref l,.ref b],[]⟩)
   (λA R s=>s.heap.get? l=some { cls:=.type "tuple",dict:=dd,data:=.seq items n,slots:=sl }∧s.heap.get? b=some { cls:=.type "tuple",dict:=dd2,data:=.seq items2 n2,slots:=sl2 }∧
    R (.ok (.ret (.bool (ltI xs ys)))) s) :=
 .of_wp λprog w A R s h=>by
  obtain⟨hp,g,d,tk,os⟩:=s;obtain⟨hl,hb,h⟩:=h
  have f2:=AutoSeq1.sub_tuple_tuple
  have e1:items.toList.length=xs.length:=Zea h1
  have e2:items2.toList.length=ys.length:=Zea h2
  wp_walk using X4 hl,X4 hb,wpAny_forIn_list _ (λrest b s'=>b.1=none∧s'=⟨hp,g,d,tk,os⟩∧∃i,rest=(items.toList.zip items2.toList).drop i∧i≤items.toList.length∧i≤items2.toList.length∧
   R (.ok (.ret (.bool (ltI (xs.drop i) (ys.drop i))))) ⟨hp,g,d,tk,os⟩) _
  case turn=>
   rintro⟨v,u⟩ rest b s' ⟨hb',rfl,i,hz,u1,u2,hR⟩
   have hlt:i<(items.toList.zip items2.toList).length:=by
    rcases Ux i (items.toList.zip items2.toList).length with h'|h'
    ·exact h'
    ·rw[List.drop_of_length_le h']at hz;cases hz
   have hm:=hlt
   rw[List.length_zip]at hm
   obtain⟨x,t,q1,q2⟩:=Zjy h1 i (by omega)
   obtain⟨y,r,q3,q4⟩:=Zjy h2 i (by omega)
   rw[Vu hlt]at hz
   injection hz with hyx hrest
   have hz0:(items.toList.zip items2.toList)[i]? =some (.int x t,.int y r):=by rw[U5];exact⟨q1,q3⟩
   rw[Xi hlt]at hz0
   injection hz0 with hz0
   rw[hz0]at hyx
   cases hyx
   rw[q2,q4]at hR
   unfold ltI at hR
   refine Xf (EqAt.int_int x t y r prog w _ _ ?_)
   by_cases cx:x=y
   ·rw[if_pos cx]at hR
    rw[beq_iff_eq.mpr cx]
    wp_walk
    exact⟨rfl,rfl,i+1,hrest,by omega,by omega,hR⟩
   ·rw[if_neg cx]at hR
    rw[beq_eq_false_iff_ne.mpr cx]
    wp_walk using Z5m
    exact⟨_,rfl,hR⟩
  case fin=>
   rintro⟨b1,b2⟩ s' ⟨hb',rfl,i,hz,u1,u2,hR⟩
   simp only at hb'
   subst hb'
   have hge:min items.toList.length items2.toList.length≤i:=by
    rcases Ux i (items.toList.zip items2.toList).length with h'|h'
    ·rw[Vu h']at hz;cases hz
    ·rw[List.length_zip]at h';exact h'
   have hv:ltI (xs.drop i) (ys.drop i)=decide (items.size<items2.size):=by
    rw[Zh8 ((show i=items.toList.length∨i=items2.toList.length by omega).imp (λc=>Bq (by omega)) λc=>Bq (by omega)),QL,QL]
    rw[Bm]at e1 e2 u1 u2
    exact decide_eq_decide.mpr (by omega)
   rw[hv]at hR
   wp_walk
   exact⟨_,rfl,hR⟩
  case h=>
   exact⟨rfl,rfl,0,rfl,QV _,QV _,h⟩
section
variable {prog:XH}{w:Qo}{A:Qk}{E:Xc->Xd->Prop}{s:Xd}
theorem Ztf{l b:Addr}{items items2:Array Xc}{xs ys:List Int}{Q:Bool->Xd->Prop}(hu:A.units<Ui)(hl:s.heap.IsTuple l items)(hb:s.heap.IsTuple b items2)(h1:Bg items.toList xs)(h2:Bg items2.toList ys)(h:Q (ltI xs ys) s) :
  XQ (X7 prog w) A (oneLt' false (.ref l) (.ref b)) Q E s:=by
 obtain⟨⟨cls,dd,data,sl⟩,hl,hc,n,hd⟩:=hl
 obtain⟨⟨cls2,dd2,data2,sl2⟩,hb,hc2,n2,hd2⟩:=hb
 simp only at hc hd hc2 hd2
 subst hc hd hc2 hd2
 exact kat_one _ _ (richCompare_meets_room (op:=.Lt) ⟨_,hl,rfl⟩ ⟨_,hb,rfl⟩ F.slot_tuple_lt F.entry_tuple_lt (F.args_tuple_lt_2 _ _) (Zqd l b items items2 n n2 dd dd2 sl sl2 h1 h2)
  ⟨hl,hb,show Uv (ltI xs ys)≠Value.notImplemented∧_ from⟨(λx=>nomatch x),h⟩⟩ hu)
end
end L2
namespace L2
open PySem PySem.Spec PyProof.Rows PySem.W
noncomputable def sLay{α:Type}(d:α)(lt:Nat->Nat->Bool)(vs:List α):List α:=if vs.length<2 then vs else(Z1o lt vs.length).map λi=>vs.getD i d
theorem Zp6{α:Type}(d:α)(vs:List α):((Xn vs.length).map λi=>vs.getD i d)=vs:=by
 refine List.ext_getElem? λi=>?_
 rw[Xm]
 by_cases c:i<vs.length
 ·rw[QW c,Xi c]
  show some (vs.getD i d)=_
  rw[Xh,Xi c];rfl
 ·rw[JC (by rw[Xw];omega),JC (by omega)];rfl
theorem Zfy{α:Type}(d:α)(lt:Nat->Nat->Bool)(vs:List α):(sLay d lt vs).Perm vs:=by
 unfold sLay
 split
 ·exact .refl _
 ·have:=(Zin (lt:=lt) (n:=vs.length) (by omega)).map λi=>vs.getD i d
  rwa[Zp6]at this
theorem Zvv{α β:Type}(f:α->β)(d:α)(lt:Nat->Nat->Bool)(vs:List α):sLay (f d) lt (vs.map f)=(sLay d lt vs).map f:=by
 unfold sLay
 rw[Xg]
 split
 ·rfl
 ·rw[Qx]
  refine Xz λi _=>?_
  show(vs.map f).getD i (f d)=f (vs.getD i d)
  rw[Xh,Xh,Xm]
  cases vs[i]? <;>rfl
theorem Zrq{lt:Nat->Nat->Bool}{xs:List V}{us:List Xc}(h:Vals xs us):Vals (sLay .non lt xs) (sLay .none lt us):=by
 unfold sLay
 rw[h.length]
 split
 ·exact h
 ·generalize Z1o lt _=l
  induction l with
  | nil=>exact .nil
  | cons i l ih=>
   refine .cons ?_ ih
   show RelV (xs.getD i V.non) (us.getD i QK)
   rw[Xh,Xh]
   cases e:xs[i]? with
   | some x=>
    obtain⟨u,e',r⟩:=h.get e
    rw[e'];exact r
   | none=>
    have:us[i]? =none:=JC (by rw[←h.length];exact Qg.mp e)
    rw[this];exact rfl
section
variable {prog:XH}{w:Qo}{A:Qk}{E:Xc->Xd->Prop}{s:Xd}
theorem Zpv{κ:Bw}{lt:Nat->Nat->Bool}{h0:Heap}{a:Addr}{vs:List Xc}{n:Nat}{P:PySem.Fin->Xd->Prop}(ho:s.heap.get? a=some (Q5 "list" vs.toArray n))
  (k0:∀b o,h0.get? b=some o->s.heap.get? b=some o) (ha0:h0.get? a=none) (h64:vs.length<64)
  (hk:2≤vs.length->∀s':Xd,(∀b o,h0.get? b=some o->s'.heap.get? b=some o)->∀Q:Bw->Xd->Prop,Q κ s'->XQ (X7 prog w) A (keyKind' vs.toArray) Q E s')
  (hc:2≤vs.length->∀s':Xd,(∀b o,h0.get? b=some o->s'.heap.get? b=some o)->∀i j C,i<vs.length->j<vs.length->C (lt i j) s'->kas_ask prog w A κ vs i j C s')
  (h:P (.done (.ret .none)) { s with heap:=sortedHeap s.heap a vs (Bf (sLay QK lt vs)) }):XQ (X7 prog w) A (V4.«list.sort» ⟨[.ref a],[]⟩) P E s:=by
 have ha:a<s.heap.objs.size:=XD ho
 obtain⟨e1,ho1⟩:∃e1,(s.heap.update a (QD λ_=>(#[]:Array Xc))).get? a=some (Q5 "list" #[] e1):=⟨_,get?_update_seq ho λ_=>#[]⟩
 have ho6:(((s.heap.update a (QD λ_=>(#[]:Array Xc))).push (Q5 "tuple" vs.toArray 0)).push (Q5 "list" #[] 0)).get? a=some (Q5 "list" #[] e1):=Xj _ (Xj _ ho1)
 have k6:∀b o,h0.get? b=some o->(((s.heap.update a (QD λ_=>(#[]:Array Xc))).push (Q5 "tuple" vs.toArray 0)).push (Q5 "list" #[] 0)).get? b=some o:=λb o e=>by
  refine Xj _ (Xj _ ?_)
  rw[Us _ _ _ _ (λq=>by rw[q,ha0]at e;cases e)]
  exact k0 b o e
 rw[list_sort_plain]
 refine Xf (listItems_at ho rfl ?_)
 refine Xf (listUpdate_at ho rfl ?_ (by rw[Xv,Qc];omega) (QV _))
 refine Xf (seqEpoch_at ho1 rfl ?_)
 refine Xf (wpAny_newTuple ?_ (by show vs.length≤_;rw[Qc];omega))
 refine Xf (wpAny_newList ?_ (QV _))
 refine VM ?_
 show XQ (X7 prog w) A _ P E { s with heap:=((s.heap.update a (QD λ_=>(#[]:Array Xc))).push (Q5 "tuple" vs.toArray 0)).push (Q5 "list" #[] 0) }
 dsimp only
 have hs:vs.toArray.size=vs.length:=Xv ..
 by_cases h2:vs.toArray.size<2
 ·have el:sLay QK lt vs=vs:=if_pos (hs▸h2)
  rw[el]at h
  rw[if_pos h2,if_pos h2]
  refine Xf (X5 ?_)
  rw[StateT.run_pure]
  refine Xf (X5 ?_)
  dsimp only
  refine Xf (seqEpoch_at ho6 rfl ?_)
  have ez:((vs.toArray.zip vs.toArray).map (·.2))=vs.toArray:=by
   apply Array.toList_inj.mp
   rw[Array.toList_map,Array.toList_zip,List.map_snd_zip (X6 _)]
  show XQ _ _ (Builtin.List.listUpdate _ (λ_=>(vs.toArray.zip vs.toArray).map (·.2))>>=_) _ _ _
  rw[ez]
  refine Xf (listUpdate_at ho6 rfl ?_ (QV _) (by rw[hs,Qc];omega))
  simp only[bne_self_eq_false,By,if_false]
  exact X5 h
 ·rw[if_neg h2,if_neg h2]
  have h2':2≤vs.length:=by omega
  have el:sLay QK lt vs=(Z1o lt vs.length).map λi=>vs.getD i QK:=if_neg (by omega)
  rw[el]at h
  refine Xf (hk h2' _ k6 _ ?_)
  have est:Bu κ (vs.toArray.zip vs.toArray) #[] 7 none=kas_st κ (VR vs) (Bf (Xn vs.length)):=by
   have e:=kas_range (VR vs)
   rw[pairsOf_size]at e
   show Bu κ (VR vs) #[] 7 none=Bu κ ((Bf (Xn vs.length)).map (XJ (VR vs))) #[] 7 none
   rw[e]
  have run:=kas_runs (prog:=prog) (w:=w) (A:=A) (κ:=κ) (it:=VR vs) (E:=E) (s:={ s with heap:=((s.heap.update a (QD λ_=>(#[]:Array Xc))).push (Q5 "tuple" vs.toArray 0)).push (Q5 "list" #[] 0) })
   (Q:=λ_ st' s'=>arrOf st'=(kEv lt (kas_sort vs.length)).map (XJ (VR vs))∧failedOf st'=none∧s'={ s with heap:=((s.heap.update a (QD λ_=>(#[]:Array Xc))).push (Q5 "tuple" vs.toArray 0)).push (Q5 "list" #[] 0) })
   (G:=λp s'=>p=kEv lt (kas_sort vs.length)∧s'={ s with heap:=((s.heap.update a (QD λ_=>(#[]:Array Xc))).push (Q5 "tuple" vs.toArray 0)).push (Q5 "list" #[] 0) })
   h2' h64 (λp' st' s' _ a2 a3 a4=>⟨a4.1▸a2,a3,a4.2⟩) (by
    rw[←kas_ask_eq]
    exact(Zma (n:=vs.length) (by omega)).wp (hc h2' _ k6) ⟨rfl,rfl⟩)
  rw[←est]at run
  refine Xf (Br run ?_ λ_ _ e=>e)
  intro r s' z
  obtain⟨har,hf,rfl⟩:=z
  have hout:(arrOf r.2).map (·.2)=Bf ((Z1o lt vs.length).map λi=>vs.getD i QK):=by
   apply Array.toList_inj.mp
   rw[har,Array.map_map,Array.toList_map]
   exact Xz λi _=>by show(XJ (VR vs) i).2=_;rw[kas_item_eq]
  rw[hout]
  refine Xf (seqEpoch_at ho6 rfl ?_)
  refine Xf (listUpdate_at ho6 rfl ?_ (QV _) (by rw[Xv,Xg,(Zin (by omega)).length_eq,Xw,Qc];omega))
  rw[hf]
  simp only[bne_self_eq_false,By,if_false]
  exact X5 h
theorem Zy0{κ:Bw}{lt:Nat->Nat->Bool}{l:Addr}{vs:List Xc}{Q:Xc->Xd->Prop}(hl:s.heap.IsList l vs.toArray)(h64:vs.length<64)
  (hk:2≤vs.length->∀s':Xd,(∀b o,s.heap.get? b=some o->s'.heap.get? b=some o)->∀Q:Bw->Xd->Prop,Q κ s'->XQ (X7 prog w) A.in1.in1 (keyKind' vs.toArray) Q E s')
  (hc:2≤vs.length->∀s':Xd,(∀b o,s.heap.get? b=some o->s'.heap.get? b=some o)->∀i j C,i<vs.length->j<vs.length->C (lt i j) s'->kas_ask prog w A.in1.in1 κ vs i j C s')
  (h:Q (.ref (s.heap.objs.size+1)) { s with heap:=sortedAll s.heap vs (Bf (sLay QK lt vs)) }):XQ (X7 prog w) A (call (.builtin "sorted") [.ref l]) Q E s:=by
 refine Calls.call_function_entry kind_sorted plain_sorted entry_sorted (args_sorted1 _) ?_
 unfold V4.«sorted»
 refine Xf (m:=checkCount "sorted" 1 1 _) (X5 ?_)
 refine Xf (collect_list hl ?_ (by rw[Qc];omega))
 refine Xf (wpAny_newList ?_ (by rw[Qc];omega))
 have hsz:((s.heap.push (Q5 "list" #[] 0)).update s.heap.objs.size (QD (· ++ vs.toArray))).objs.size=s.heap.objs.size+1:=by
  rw[Heap.size_update,size_push']
 have hoL:(((s.heap.push (Q5 "list" #[] 0)).update s.heap.objs.size (QD (· ++ vs.toArray))).push (Q5 "list" vs.toArray 0)).get? (s.heap.objs.size+1)=some (Q5 "list" vs.toArray 0):=by
  rw[←hsz];exact X3 _ rfl
 have keep:∀b o,s.heap.get? b=some o->(((s.heap.push (Q5 "list" #[] 0)).update s.heap.objs.size (QD (· ++ vs.toArray))).push (Q5 "list" vs.toArray 0)).get? b=some o:=λb o q=>by
  have hlt:b<s.heap.objs.size:=XD q
  rw[U8 _ _ _ (by rw[hsz];exact Xp (Nat.lt_succ_of_lt hlt)),Us _ _ _ _ (Xp hlt),U8 _ _ _ (Xp hlt)]
  exact q
 show XQ _ _ _ _ _ { s with heap:=((s.heap.push (Q5 "list" #[] 0)).update s.heap.objs.size (QD (· ++ vs.toArray))).push (Q5 "list" vs.toArray 0) }
 rw[hsz]
 refine Xf (VM (Vx slot_list_sort ⟨_,hoL,rfl⟩ entry_list_sort (Zpv (h0:=s.heap) hoL keep (Heap.get?_none_of_le (Nat.le_succ _)) h64 hk hc ⟨_,rfl,?_⟩) (args_list_sort _)))
 exact X5 ⟨_,rfl,h⟩
end
end L2
namespace L2
open PySem PySem.Spec PyProof.Rows PySem.W
variable {G:Xb}
structure Z21{α:Type}(kd:Xa->Option α)(lt:α->α->Bool):Prop where
 lay:∀d k,kd d=some k->d.canLay0=true
 run:∃κ:Bw,(∀(prog:XH) (w:Qo) (A:Qk) (E:Xc->Xd->Prop) (s:Xd) (vs:List Xc) (ds:List Xa) (as:List Addr) (Q:Bw->Xd->Prop),2≤vs.length->ReadsAll s.heap vs ds as->(∀d∈ds,∃k,kd d=some k)->Q κ s->XQ (X7 prog w) A (keyKind' vs.toArray) Q E s)∧
  ∀(prog:XH) (w:Qo) (A:Qk) (E:Xc->Xd->Prop) (s:Xd) (u v:Xc) (d e:Xa) (as bs:List Addr) (k m:α) (C:Bool->Xd->Prop),A.units+32<Ui->Reads s.heap u d as->Reads s.heap v e bs->kd d=some k->kd e=some m->C (lt k m) s->XQ (X7 prog w) A (keyLt' κ u v) C E s
theorem readsAll_ints{h:Heap}(ns:List Int){vs:List Xc}{as:List Addr}(r:ReadsAll h vs (ns.map Xl) as):Bg vs ns:=by
 induction ns generalizing vs as with
 | nil=>cases r;exact .nil
 | cons n ns ih=>
  cases r with
  | cons r q=>
   cases r
   exact .cons _ _ (ih q)
theorem Wc{h:Heap}{ns:List Int}{u:Xc}{as:List Addr}(r:Reads h u (.list (ns.map Xl)) as):∃a items,u= .ref a∧h.IsList a items∧Bg items.toList ns:=by
 cases r with
 | list e c d q=>exact⟨_,_,rfl,⟨_,e,c,_,d⟩,readsAll_ints ns q⟩
theorem Zf7{h:Heap}{ns:List Int}{u:Xc}{as:List Addr}(r:Reads h u (.tuple (ns.map Xl)) as):∃a items,u= .ref a∧h.IsTuple a items∧Bg items.toList ns:=by
 cases r with
 | tuple e c d q=>exact⟨_,_,rfl,⟨_,e,c,_,d⟩,readsAll_ints ns q⟩
theorem readsAll_get{h:Heap}{vs:List Xc}{ds:List Xa}{as:List Addr}(r:ReadsAll h vs ds as):vs.length=ds.length∧∀(i:Nat) d,ds[i]? =some d->∃v bs,vs[i]? =some v∧Reads h v d bs:=by
 induction ds generalizing vs as with
 | nil=>cases r;exact⟨rfl,λi d e=>by rw[U7]at e;cases e⟩
 | cons d ds ih=>
  cases r with
  | cons r q=>
   obtain⟨z1,z2⟩:=ih q
   refine⟨congrArg Nat.succ z1,λi e he=>?_⟩
   cases i with
   | zero=>cases he;exact⟨_,_,rfl,r⟩
   | succ i=>exact z2 i e he
theorem lay_ints(ns:List Int):Sh 1 (.list (ns.map Xl)):=Zdn λd m=>by
 obtain⟨x,_,rfl⟩:=Qi.mp m
 exact Zop x
theorem Zfo(ns:List Int):Sh 1 (.tuple (ns.map Xl)):=Zl4 λd m=>by
 obtain⟨x,_,rfl⟩:=Qi.mp m
 exact Zop x
theorem Zj4{M:Model}{h:Heap}{a:Addr}{items:Array Xc}(e:h.IsList a items):Looks M h (typeOf (.ref a)) (.type "list"):=by
 obtain⟨o,e,c,_⟩:=e
 have:Looks M h (typeOf (.ref a)) o.cls:=(Looks.ld e).andThen .now
 rwa[c]at this
noncomputable def kdL:Xa->Option (List Int):=λd=>match d with| .list es=>Zb8 es|_=>none
theorem Zhp{d:Xa}{k:List Int}(h:kdL d=some k):d= .list (k.map Xl):=by
 cases d with
 | list es=>exact congrArg QT (Zaj h)
 | _=>cases h
theorem Zro{h:Heap}{vs:List Xc}{ds:List Xa}{as:List Addr}(r:ReadsAll h vs ds as){v:Xc}(hv:v∈vs):∃d∈ds,∃bs,Reads h v d bs:=by
 obtain⟨i,hi⟩:=Q9 hv
 obtain⟨z1,z2⟩:=readsAll_get r
 have c:i<ds.length:=z1▸(Xk.mp hi).1
 obtain⟨v',bs,e,q⟩:=z2 i _ (Xi c)
 rw[hi]at e
 cases e
 exact⟨_,Bb c,bs,q⟩
theorem Zxi:Z21 kdL ltI:=by
 refine⟨λd k h=>by rw[Zhp h];exact(lay_ints k).1,oneType',λprog w A E s vs ds as Q h2 r hk q=>kas_kind (T:=.type "list") h2 (λv hv=>?_) rfl rfl q,λprog w A E s u v d e as bs k m C hu r1 r2 h1 h2 h=>?_⟩
 ·obtain⟨d,hd,bs,z⟩:=Zro r hv
  obtain⟨k,hk⟩:=hk d hd
  rw[Zhp hk]at z
  obtain⟨a,items,rfl,e,_⟩:=Wc z
  exact Zj4 e
 ·rw[Zhp h1]at r1
  rw[Zhp h2]at r2
  obtain⟨a,i1,rfl,e1,z1⟩:=Wc r1
  obtain⟨b,i2,rfl,e2,z2⟩:=Wc r2
  rw[keyLt'_oneType]
  exact Zka (by omega) e1 e2 z1 z2 h
noncomputable def kdT:Xa->Option (List Int×List Int):=λd=>match d with| .tuple [.list es,.tuple fs]=>(Zb8 es).bind λns=>(Zb8 fs).bind λms=>some (ns,ms)|_=>none
noncomputable def ltT:List Int×List Int->List Int×List Int->Bool:=λa b=>if a.1=b.1 then(if a.2=b.2 then false else ltI a.2 b.2)else ltI a.1 b.1
theorem Zhw{d:Xa}{k:List Int×List Int}(h:kdT d=some k):d= .tuple [.list (k.1.map Xl),.tuple (k.2.map Xl)]:=by
 unfold kdT at h
 split at h
 case h_2=>cases h
 obtain⟨ns,h1,h⟩:=bs h
 obtain⟨ms,h2,h⟩:=bs h
 cases h
 rw[Zaj h1,Zaj h2]
theorem Znv{h:Heap}{k:List Int×List Int}{u:Xc}{as:List Addr}(r:Reads h u (.tuple [.list (k.1.map Xl),.tuple (k.2.map Xl)]) as):∃t o n a b,u= .ref t∧h.get? t=some o∧o.cls= .type "tuple"∧o.data= .seq #[.ref a,.ref b] n∧(∃bs,Reads h (.ref a) (.list (k.1.map Xl)) bs)∧∃bs,Reads h (.ref b) (.tuple (k.2.map Xl)) bs:=by
 cases r with
 | @tuple t o vs n xs as e c d q=>
  obtain⟨l,hl⟩:∃l,l=vs.toList:=⟨_,rfl⟩
  rw[←hl]at q
  cases q with
  | cons r1 q=>
   cases q with
   | cons r2 q=>
    cases q
    obtain⟨a,_,rfl,_⟩:=Wc r1
    obtain⟨b,_,rfl,_⟩:=Zf7 r2
    have:vs=#[.ref a,.ref b]:=Array.toList_inj.mp hl.symm
    subst this
    exact⟨t,o,n,a,b,rfl,e,c,d,⟨_,r1⟩,_,r2⟩
theorem Zh6(a b:List Int):Qz (.list (a.map Xl)) (.list (b.map Xl))=decide (a=b):=by
 have p:∀l:List Int,Yq (.list (l.map Xl))=true:=λl=>by rw[Yq];induction l with|nil=>rfl|cons x l ih=>exact ih
 have inj:∀{l m:List Int},QT (l.map Xl)= .list (m.map Xl)->l=m:=λh=>by
  injection h with h
  exact(List.map_inj_right λx y z=>by injection z).mp h
 by_cases c:a=b
 ·rw[Zrm (p a) (p b) (by rw[c]),decide_eq_true c]
 ·rw[Zxc (p a) (p b) λz=>c (inj z),decide_eq_false c]
theorem Zrc(a b:List Int):Qz (.tuple (a.map Xl)) (.tuple (b.map Xl))=decide (a=b):=by
 have e:∀xs ys:List Xa,Qz (.tuple xs) (.tuple ys)=Qz (.list xs) (.list ys):=λxs ys=>by
  rw[Qz,Qz]
 rw[e,Zh6]
theorem Zxg:Z21 kdT ltT:=by
 refine⟨λd k h=>?_,tuples' true,λprog w A E s vs ds as Q h2 r hk q=>?_,λprog w A E s u v d e as bs k m C hu r1 r2 h1 h2 h=>?_⟩
 ·rw[Zhw h]
  exact(Zl4 (n:=1) λd m=>by
   rcases Xu.mp m with rfl|m
   ·exact lay_ints _
   ·rw[Qd.mp m];exact Zfo _).1
 ·have key:∃fs:List Xc,KatTups s.heap vs fs∧fs.length=vs.length∧∀v∈fs,∃a items,v= .ref a∧s.heap.IsList a items:=by
   clear h2 q
   induction ds generalizing vs as with
   | nil=>cases r;exact⟨[],trivial,rfl,λ_ m=>nomatch m⟩
   | cons d ds ih=>
    cases r with
    | cons r q=>
     obtain⟨fs,t,l,z⟩:=ih _ _ q λd m=>hk d (.tail _ m)
     obtain⟨k,hk⟩:=hk d (.head _)
     rw[Zhw hk]at r
     obtain⟨t',o,n,a,b,rfl,e,c,hd,⟨_,x1⟩,_⟩:=Znv r
     obtain⟨a',items,ea,ex,_⟩:=Wc x1
     cases ea
     refine⟨.ref a :: fs,KatTups.cons e c hd rfl t,congrArg Nat.succ l,λv hv=>?_⟩
     rcases Xu.mp hv with rfl|hv
     ·exact⟨a,items,rfl,ex⟩
     ·exact z v hv
  obtain⟨fs,t,l,z⟩:=key
  exact kat_kind (T:=.type "list") t (by omega) (λv hv=>by obtain⟨a,items,rfl,e⟩:=z v hv;exact Zj4 e) rfl q
 ·rw[Zhw h1]at r1
  rw[Zhw h2]at r2
  obtain⟨t1,o1,n1,a1,b1,rfl,g1,c1,d1,⟨_,x1⟩,_,y1⟩:=Znv r1
  obtain⟨t2,o2,n2,a2,b2,rfl,g2,c2,d2,⟨_,x2⟩,_,y2⟩:=Znv r2
  refine kat_lt g1 d1 g2 d2 (kat_cons ?_)
  refine SeqAt.eqAt_reads _ _ A s _ _ _ _ x1 x2 (lay_ints _).1 (lay_ints _).1 (by have:=(lay_ints k.1).2;omega) prog w _ _ ?_
  rw[Zh6]
  unfold ltT at h
  obtain⟨p1,i1,e1,l1,z1⟩:=Wc x1
  obtain⟨p2,i2,e2,l2,z2⟩:=Wc x2
  cases e1;cases e2
  by_cases c:k.1=m.1
  ·rw[if_pos c]at h
   rw[decide_eq_true c]
   refine kat_yes (kat_cons ?_)
   refine SeqAt.eqAt_reads _ _ A s _ _ _ _ y1 y2 (Zfo _).1 (Zfo _).1 (by have:=(Zfo k.2).2;omega) prog w _ _ ?_
   rw[Zrc]
   obtain⟨p1,i1,e1,l1,z1⟩:=Zf7 y1
   obtain⟨p2,i2,e2,l2,z2⟩:=Zf7 y2
   cases e1;cases e2
   by_cases c':k.2=m.2
   ·rw[if_pos c']at h
    rw[decide_eq_true c']
    exact kat_yes (kat_nil h)
   ·rw[if_neg c']at h
    rw[decide_eq_false c']
    exact kat_no (Ztf (by omega) l1 l2 z1 z2 h)
  ·rw[if_neg c]at h
   rw[decide_eq_false c]
   exact kat_no (Zka (by omega) l1 l2 z1 z2 h)
end L2
namespace L2
open PySem PySem.Spec PyProof.Rows PySem.W
variable {G:Xb}
noncomputable def lk{α:Type}(kd:Xa->Option α)(lt:α->α->Bool)(es:List Xa):Nat->Nat->Bool:=λi j=>((kd (es.getD i .none)).bind λa=>(kd (es.getD j .none)).map λb=>lt a b).getD false
noncomputable def keyed{α:Type}(kd:Xa->Option α)(es:List Xa):Prop:=∀d∈es,∃k,kd d=some k
theorem Zj3{es:List Xa}(h:∀d∈es,d.canLay0=true):JK es=true:=by
 induction es with
 | nil=>rw[JK]
 | cons d es ih=>rw[JK,h d (.head _),ih λd m=>h d (.tail _ m)];rfl
theorem Das.sLay{H:Hp}{L:Addr->Prop}{lt:Nat->Nat->Bool}{xs:List V}{ds:List Xa}(h:Das G H L xs ds):Das G H L (L2.sLay .non lt xs) (L2.sLay .none lt ds):=by
 unfold L2.sLay
 rw[h.length]
 split
 ·exact h
 ·generalize Z1o lt _=l
  induction l with
  | nil=>exact .nil
  | cons i l ih=>
   refine .cons ?_ ih
   show Da G H L (xs.getD i .non) (ds.getD i .none)
   rw[Xh,Xh]
   cases e:xs[i]? with
   | some x=>
    obtain⟨u,e',r⟩:=h.get' e
    rw[e'];exact r
   | none=>
    have:ds[i]? =none:=JC (by rw[←h.length];exact Qg.mp e)
    rw[this];exact .non
noncomputable def Zo2{α:Type}(kd:Xa->Option α)(lt:α->α->Bool)(K:Xb):List V->Hp->VK->Prop:=λxs H Q=>∃(a:Addr) (vs:List V) (L:Addr->Prop) (es:List Xa),xs=[.ref a]∧SqL K H a vs∧Das K H L vs es∧vs.length<64∧keyed kd es∧∀l,H l=none->Q (.ref l) (upd H l (.lst (sLay .non (lk kd lt es) vs)))
section
variable {X:Cx}{α:Type}{kd:Xa->Option α}{lt:α->α->Bool}
theorem Zee{K:Xb}(S:Z21 kd lt)(hK:X.K=K)(hu:X.A.units+64<Ui):Zcd X (.builtin "sorted") (Zo2 kd lt K):=by
 subst hK
 intro pins s σ H xs us Q I r h
 obtain⟨l,vs,L,es,rfl,hs,hd,h64,hk,q⟩:=h
 obtain⟨u,rfl,ru⟩:=vals1 r
 cases(show u=QX l from ru)
 obtain⟨its,rv,pl,hz⟩:=I.list hs
 have hl:=rv.length
 obtain⟨as,ra⟩:=hd.reads rfl I rv (Zj3 λd m=>by obtain⟨k,e⟩:=hk d m;exact S.lay d k e)
 obtain⟨κ,S1,S2⟩:=S.run
 obtain⟨z1,z2⟩:=readsAll_get ra
 refine Zy0 (κ:=κ) (lt:=lk kd lt es) pl.isList (by omega) (λh2 s' k Q q=>S1 _ _ _ _ s' _ es as Q h2 (ReadsAll.keeps k ra) hk q) (λh2 s' k i j C hi hj hc=>?_) ?_
 ·rw[z1]at hi hj
  obtain⟨v,b1,e1,r1⟩:=z2 i _ (Xi hi)
  obtain⟨w,b2,e2,r2⟩:=z2 j _ (Xi hj)
  obtain⟨k1,q1⟩:=hk _ (Bb hi)
  obtain⟨k2,q2⟩:=hk _ (Bb hj)
  have ek:lk kd lt es i j=lt k1 k2:=by
   unfold lk
   rw[Xh,Xh,Xi hi,Xi hj]
   show((kd es[i]).bind λa=>(kd es[j]).map λb=>lt a b).getD false=_
   rw[q1,q2];rfl
  rw[ek]at hc
  unfold kas_ask
  rw[Xh,Xh,e1,e2]
  exact S2 _ _ _ _ s' v w _ _ _ _ k1 k2 C (show X.A.units+1+1+32<Ui by omega) (Reads.keeps k r1) (Reads.keeps k r2) q1 q2 hc
 ·obtain⟨e,he⟩:=sortedAll_at s.heap its (Bf (sLay QK (lk kd lt es) its))
  refine⟨.ref (s.heap.objs.size+1),_,I.laid (t':=s.toks) (o:=.lst (sLay .non (lk kd lt es) vs)) (λb ob q=>sortedAll_old q) (by omega) ⟨?_,sLay QK (lk kd lt es) its,e,Zrq rv,he⟩,rfl,q _ (I.hok.fresh (by omega))⟩
  rw[(Zfy _ _ _).length_eq,Qc];omega
noncomputable def Zol(kd:Xa->Option α)(lt:α->α->Bool):List Xa->(OT->Prop)->Prop:=λds k=>n1 (λd=>∃es:List Xa,d= .list es∧es.length<64∧keyed kd es∧k (.nd ((sLay .none (lk kd lt es) es).map OT.fz))) ds
theorem Zho:PN G (Zo2 kd lt G) (Zol kd lt):=λH L xs ds k Q hx h kk=>by
 obtain⟨v,d,rfl,rfl,q,es,e,h64,hk,h⟩:=hx.one h
 have fin:∀(vs:List V) (p:Addr),Das G H L vs es->H p=none->Q (.ref p) (upd H p (.lst (sLay .non (lk kd lt es) vs))):=λvs p hv hp=>kk _ _ _ [p] (Yl hp _) (Own.list hp hv.sLay) (Zff p) (Zcv hp) h
 subst e
 generalize ed:QT es=d at q
 cases q with
 | lst l e r=>
  cases ed
  exact⟨_,_,L,es,rfl,.inl e,r,by rw[r.length];exact h64,hk,λp hp=>fin _ p r hp⟩
 | scr ks=>
  cases ed
  exact⟨_,_,L,_,rfl,ks.sq,Das.ints _,by rw[(Das.ints (G:=G) (H:=H) (L:=L) _).length];exact h64,hk,λp hp=>fin _ p (Das.ints _) hp⟩
 | _=>cases ed
noncomputable def Zg0(kd:Xa->Option α)(lt:α->α->Bool):List Xa->Option OT:=λds=>match ds with|[.list es]=>if(decide (es.length<64)&&es.all λd=>(kd d).isSome)=true then some (.nd ((sLay .none (lk kd lt es) es).map OT.fz))else none|_=>none
theorem Zle:∀ds r k,Zg0 kd lt ds=some r->k r->Zol kd lt ds k:=λds r k h hk=>by
 unfold Zg0 at h
 split at h
 case h_2=>cases h
 split at h
 case isFalse=>cases h
 rename_i h2
 rw[Xo]at h2
 cases h
 exact⟨_,rfl,of_decide_eq_true h2.1,λd m=>U4.mp (Vd.mp h2.2 d m),hk⟩
end
end L2
namespace L2
open PySem PySem.Spec PyProof.Rows
section
variable {X:Cx}{io:List Nat}{p p' c c' q r:Bool}{a b e:Expr}{fa fb:FE}{es:List Expr}{ra:FA}{st:Stmt}{sts ss ss':List Stmt}{f g:FS}{ta:FT}
theorem xv(i:Nat){x:Str}{pos:Pos}(hN:X.N[i]? =some x:=by rfl)(hv:Vis X.env.scope x:=by first|exact QS rfl|exact QG (QS rfl)|exact QG (QG rfl))(hd:(x==("__debug__" : Str))=false:=by decide)(he:(x==("__classdict__" : Str))=false:=by decide):ME X io true true (.Name x pos) (o2 (Zd i)):=Z13 (mv i hN hv hd he)
theorem xo(i:Nat){x:Str}{pos:Pos}(hN:X.N[i]? =some x:=by rfl)(hv:Vis X.env.scope x:=by first|exact QS rfl|exact QG (QS rfl)|exact QG (QG rfl))(hd:(x==("__debug__" : Str))=false:=by decide)(he:(x==("__classdict__" : Str))=false:=by decide):ME X io true false (.Name x pos) (o2 (Zn0 i)):=Z3z (mo i hN hv hd he)
theorem xci{i:Int}{j:Nat}{pos:Pos}:ME X io true true (.Constant (.int i) j pos) (o2 (fC (.int i))):=Zeo Z6q
theorem xix{pos:Pos}(ha:ME X io p c a (o2 fa))(hb:ME X io p' c' b (o2 fb))(hc:p'=true∨c=true:=by first|exact QS rfl|exact QG rfl)(hs:Zkr b:=by exact λ_ _=>rfl)(h2:(p&&p')=q:=by rfl)(h3:(c&&c')=r:=by rfl):ME X io q r (.Subscript a b pos) (o2 (Zq gIx fa fb)):=h2▸h3▸Yt Ydu (Yeq (Zzl rfl) Z8p ha hb hc (hs:=hs))
theorem xa0:MA X io true true [] (o2 Zo):=Z5c Z30
theorem xa1[NoStar e](ha:ME X io p c e (o2 fa))(h2:(p&&true)=q:=by rfl)(h3:(c&&true)=r:=by rfl):MA X io q r [e] (o2 (Zc fa Zo)):=Zg ha xa0 (.inl rfl) h2 h3
theorem xsq(h:MS X io st (oS f))(k:MSs X io sts (oS g)):MSs X io (st :: sts) (oS (Zz f g)):=Z11 (Zuv h k)
theorem xst{pos px:Pos}(i:Nat){x:Str}(hN:X.N.Nodup)(he:ME X io p true e (o2 fa))(hi:X.N[i]? =some x:=by rfl)(hx:Loc X.env.scope x:=by first|exact QS rfl|exact QG rfl)(hio:i∉io:=by decide)(hs:Uo e (some (.Name x px)) pos.line X.env=pure false:=by rfl)(hf:X.fn x=true∨X.env.scope.names.lookup x=some .local:=by first|exact .inl rfl|exact .inr rfl|assumption):MS X io (.Assign [.Name x px] e pos) (oS (wE fa (Wb i))):=Zt5 (Zq5 hN hi hx he hio hs hf)
theorem xrt{pos:Pos}(h:ME X io p true e (o2 fa)):MS X io (.Return (some e) pos) (oS (wE fa Yr)):=Z31 (Z6o h)
theorem xg{pos:Pos}(i:Nat){x:Str}(hN:X.N.Nodup)(hi:X.N[i]? =some x:=by rfl)(hx:Loc X.env.scope x:=by first|exact QS rfl|exact QG rfl)(hio:i∉io:=by decide)(hf:X.fn x=true∨X.env.scope.names.lookup x=some .local:=by first|exact .inl rfl|exact .inr rfl|assumption):MG X io true (.Name x pos) (oG (gNm i)):=Zy1 (Zx5 hN hi hx hio hf)
theorem xif{pos:Pos}(h:MT X io p e (o2 ta))(k:MSs X io ss (oS f))(l:MSs X io ss' (oS g)):MS X io (.If e ss ss' pos) (oS (Jc ta f g)):=Z83 (Z8b h k l)
theorem xnl:MSs X io [] (oS fNx):=Zz7 Zyz
theorem xtp{pos:Pos}{n:Nat}(h:MA X io p c es (o2 ra)):ME X io p c (.Tuple es n pos) (o2 (Zc2 ra)):=Z4t (Z81 h)
theorem xls{pos:Pos}(h:MA X io p c es (o2 ra)):ME X io p c (.List es pos) (o2 (Zav ra)):=Z27 (Z93 h)
theorem xil{tg:Expr}(h:ME X io p c e (o2 fa)):MI X io p c tg e (o2 (Zcl fa)):=Zx2 (Zyq h)
theorem xno{pos:Pos}(h:MT X io p e (o2 ta)):MT X io p (.UnaryOp .Not e pos) (o2 (tNo ta)):=Z6l (Z3w h)
theorem Zex{pos:Pos}(ha:ME X io p c a (o2 fa))(hb:ME X io p' c' b (o2 fb))(hc:p'=true∨c=true:=by first|exact QS rfl|exact QG rfl)(h2:(p&&p')=q:=by rfl):ME X io q true (.BinOp a .Add b pos) (o2 (Ze Zaq fa fb)):=h2▸W0 Z8n (Zqe Z37 Zr8 ha hb hc)
theorem Zp9{pos:Pos}(ha:ME X io p c a (o2 fa))(hb:ME X io p' c' b (o2 fb))(hc:p'=true∨c=true:=by first|exact QS rfl|exact QG rfl)(h2:(p&&p')=q:=by rfl):ME X io q true (.BinOp a .Sub b pos) (o2 (Ze gSb fa fb)):=h2▸W0 Z9c (Zqe Z5n Zr8 ha hb hc)
theorem Zm8{pos:Pos}(ha:ME X io p c a (o2 fa))(hb:ME X io p' c' b (o2 fb))(hc:p'=true∨c=true:=by first|exact QS rfl|exact QG rfl)(h2:(p&&p')=q:=by rfl):ME X io q true (.BinOp a .Mult b pos) (o2 (Ze Ze8 fa fb)):=h2▸W0 Z8k (Zqe Zys Z55 ha hb hc)
theorem Zbe{pos:Pos}(ha:ME X io p c a (o2 fa))(hb:ME X io p' c' b (o2 fb))(hc:p'=true∨c=true:=by first|exact QS rfl|exact QG rfl)(h2:(p&&p')=q:=by rfl):ME X io q true (.BinOp a .Mod b pos) (o2 (Ze Je fa fb)):=h2▸W0 Ya6 (Zqe Zzx Z5a ha hb hc)
theorem Zqq{pos:Pos}(ha:ME X io p c a (o2 fa))(hb:ME X io p' c' b (o2 fb))(hc:p'=true∨c=true:=by first|exact QS rfl|exact QG rfl)(h2:(p&&p')=q:=by rfl):ME X io q true (.BinOp a .FloorDiv b pos) (o2 (Ze J6 fa fb)):=h2▸W0 Z6v (Zqe Zuz Z60 ha hb hc)
theorem Z67{pos:Pos}(ha:ME X io p c a (o2 fa))(hb:ME X io p' c' b (o2 fb))(hc:p'=true∨c=true:=by first|exact QS rfl|exact QG rfl)(h2:(p&&p')=q:=by rfl):ME X io q true (.BinOp a .Pow b pos) (o2 (Ze Zrn fa fb)):=h2▸W0 Z9b (Zqe Zyl Z5u ha hb hc)
theorem xeq{pos:Pos}(hu:X.A.units+64<Ui)(ha:ME X io p c a (o2 fa))(hb:ME X io p' c' b (o2 fb))(hc:p'=true∨c=true:=by first|exact QS rfl|exact QG rfl)(h2:(p&&p')=q:=by rfl):MT X io q (.Compare a [.Eq] [b] pos) (o2 (tV (Ze gEq fa fb))):=h2▸Zdb Zyd (Zda (Zie hu) Zna ha hb hc (hm:=Jr _))
theorem xne{pos:Pos}(hu:X.A.units+64<Ui)(ha:ME X io p c a (o2 fa))(hb:ME X io p' c' b (o2 fb))(hc:p'=true∨c=true:=by first|exact QS rfl|exact QG rfl)(h2:(p&&p')=q:=by rfl):MT X io q (.Compare a [.NotEq] [b] pos) (o2 (tV (Ze gNe fa fb))):=h2▸Zdb Yek (Zda (Z45 hu) Z8y ha hb hc (hm:=Jr _))
theorem xlt{pos:Pos}(ha:ME X io p c a (o2 fa))(hb:ME X io p' c' b (o2 fb))(hc:p'=true∨c=true:=by first|exact QS rfl|exact QG rfl)(h2:(p&&p')=q:=by rfl):MT X io q (.Compare a [.Lt] [b] pos) (o2 (tV (Ze gLt fa fb))):=h2▸Zdb Z7y (Zda Zwk Zdi ha hb hc (hm:=Jr _))
theorem xgt{pos:Pos}(ha:ME X io p c a (o2 fa))(hb:ME X io p' c' b (o2 fb))(hc:p'=true∨c=true:=by first|exact QS rfl|exact QG rfl)(h2:(p&&p')=q:=by rfl):MT X io q (.Compare a [.Gt] [b] pos) (o2 (tV (Ze gGt fa fb))):=h2▸Zdb Yao (Zda Zye Zdi ha hb hc (hm:=Jr _))
theorem xle{pos:Pos}(ha:ME X io p c a (o2 fa))(hb:ME X io p' c' b (o2 fb))(hc:p'=true∨c=true:=by first|exact QS rfl|exact QG rfl)(h2:(p&&p')=q:=by rfl):MT X io q (.Compare a [.LtE] [b] pos) (o2 (tV (Ze gLe fa fb))):=h2▸Zdb Yex (Zda Yas Zdi ha hb hc (hm:=Jr _))
theorem xge{pos:Pos}(ha:ME X io p c a (o2 fa))(hb:ME X io p' c' b (o2 fb))(hc:p'=true∨c=true:=by first|exact QS rfl|exact QG rfl)(h2:(p&&p')=q:=by rfl):MT X io q (.Compare a [.GtE] [b] pos) (o2 (tV (Ze gGe fa fb))):=h2▸Zdb Yac (Zda Zy2 Zdi ha hb hc (hm:=Jr _))
theorem xfr{pos:Pos}{tg:Expr}{it:FI}{gg:FG}(hp:PassesOwn (X7 X.prog X.w) X.A X.env X.xe)(hc:X.calm=true)(hi:MI X io p true tg e (o2 it))(hg:MG X io true tg (oG gg))(hb:MSs X io ss (oS f))(hs:∀x,Bp e X.env x=pure x:=by intro _;rfl):MS X io (.For tg e ss [] pos) (oS (Zco it gg f)):=Z2u (Z5t hp hc hi hg hb hs)
theorem xg2{pos:Pos}{n:Nat}{g1 g2:FG}(hc:X.calm=true)(ha:MG X io true a (oG g1))(hb:MG X io true b (oG g2))(h1:List.map (λx=>x.snd) (JF [a,b] X.env)=Uq a X.env :: List.map (λx=>x.snd) (JF [b] X.env):=by rfl)(h2:List.map (λx=>x.snd) (JF [b] X.env)=Uq b X.env :: List.map (λx=>x.snd) (JF [] X.env):=by rfl)(h3:(JF [a,b] X.env).length=2:=by rfl)(h4:List.findIdx? (λx=>x.fst) (JF [a,b] X.env)=none:=by rfl):MG X io true (.Tuple [a,b] n pos) (oG (gTp 2 (gCn g1 (gCn g2 gNl)))):=Z43 (Z38 (n:=2) hc (Zow (Zpm ha (Zow (Zpm hb (Zyu Zzm) h2)) h1)) h3 h4)
theorem xso{pos px:Pos}(i:Nat){x:Str}(hN:X.N.Nodup)(he:ME X io p true e (o2 fa))(hi:X.N[i]? =some x:=by rfl)(hx:Loc X.env.scope x:=by first|exact QS rfl|exact QG rfl)(hio:i∉io:=by decide)(hs:Uo e (some (.Name x px)) pos.line X.env=pure false:=by rfl)(hf:X.fn x=true∨X.env.scope.names.lookup x=some .local:=by first|exact .inl rfl|exact .inr rfl|assumption):MS X io (.Assign [.Name x px] e pos) (oS (wE fa (Ze7 i))):=Zre (Zsx hN hi hx he hio hs hf)
theorem xcl{pos pp:Pos}{k:Nat}{f:Addr}{fd:Xx}{ps:List Str}{x:Str}{F:FD}(G:FnOk X.prog X.w X.K X.mg X.base CX0 k f fd ps (spD X.K (sD F)))(hr:Room k X.A)(hm:X.mg x=some (.ref f))(hk:BZ X.K (.ref f)=true)(hb:Binds X.K fd ps [])(ha:MA X io p c (e :: es) (o2 ra))(hg:Gl X x:=by rfl)(h1:(x==("__debug__" : Str))=false:=by decide)(h2:Xq (e :: es) X.env=(false,eval e X.env) :: Xq es X.env:=by rfl)(h3:((BV pos (Xq es X.env)).any λx=>x.fst)=false:=by rfl):ME X io p c (.Call (.Name x pp) (e :: es) [] pos) (o2 (Zw F ra)):=Zyg (Z3q G hr hg hm hk hb Z4h ha h1 h2 h3)
theorem xln{pos pp:Pos}(hm:X.mg "len"=none)(ha:MA X io p c [e] (o2 ra))(hg:Gl X "len" :=by rfl)(h2:Xq [e] X.env=(false,eval e X.env) :: Xq [] X.env:=by rfl):ME X io p true (.Call (.Name "len" pp) [e] [] pos) (o2 (Zal Zcp ra)):=Zdc Z77 (Zi8 Z6b (Zrv rfl) hg hm L2.B.boot_len ha (by decide) (by decide) h2 (by rfl))
end
noncomputable def Itd(lo:Int)(n:Nat):It:=⟨λi _=>i<n,λi H x H'=>H'=H∧x= .int (lo-i),λi _=>n≤i⟩
theorem Zrr{P:XH}{w:Qo}{K:Xb}{tg:Expr}(it:Addr)(lo:Int)(n:Nat):Turn P w K tg (Itd lo n) [it] it (λi h=>IsRangeIter h it (lo+(i:Nat)*(-1)) ((n:Int)-(i:Nat)) (-1)) where
 mem:=by simp
 obj:=λi h st b hb=>by
  have e:b=it:=by simpa using hb
  subst e
  exact⟨_,st,λv z=>by
   have z':Data.fields _=Data.cell v:=z
   cases z'⟩
 keep:=λi h h' st k=>k it (by simp) _ st
 item:=by
  intro X hP hw hK hc i pins s σ H E I hf st hg
  subst hP hw hK
  obtain⟨f0,f1,f2,f3,f4,f5⟩:=hf it (by simp)
  have W:=Walks.range (prog:=X.prog) (w:=X.w) (I.ok.hd hc) it lo (-1) n
  refine W.item i s _ _ hg st λv h' tk hv st' kk=>?_
  obtain⟨t,rfl⟩:=hv
  have I1:Inv X pins σ H { s with heap:=h',toks:=tk }:=I.turned (λb o hb e=>kk b o (by simpa using hb) e) f0 f1 f3 f4 f5
  refine⟨_,rfl,Zvo (s:={ s with heap:=h',toks:=tk }) (n :="range_iterator") st' rfl rfl (by decide) ⟨.int (lo-i),H,I1,⟨t,?_⟩,⟨rfl,rfl⟩,st',λb hb=>(hf b hb).1⟩⟩
  rw[Int.mul_neg,Int.mul_one];rfl
 done:=by
  intro X hP hw hK hc i pins s σ H E I hf st hg
  subst hP hw hK
  obtain⟨f0,f1,f2,f3,f4,f5⟩:=hf it (by simp)
  exact wpAny_pyNext_range_end (I.ok.hd hc) st (by have:n≤i:=hg;omega) λh' eb=>⟨rfl,I.turned (t':=s.toks) (λb o hb e=>eb b o hb e) f0 f1 f3 f4 f5⟩
 self:=λ_ _ _ _ _ st h=>wpAny_pyIter_rangeiter st h
theorem rangeSize_down(a b:Int):Vr a b (-1)=if b<a then a-b else 0:=by
 unfold Vr
 simp only[show¬((-1:Int)>0) by decide,if_false,Int.neg_neg,Int.ediv_one]
 split<;>omega
theorem small_down{a b:Int}(ha:-(2^62)≤a)(ha':a<2^62)(hb:-(2^62)≤b)(hb':b<2^62):Builtin.Range.small a b (-1)=true:=by
 unfold Builtin.Range.small
 rw[rangeSize_down]
 simp only[Builtin.Range.rangeFitsLong,Xo,Bool.or_eq_true,decide_eq_true_eq,beq_iff_eq,show¬((-1:Int)>0) by decide,if_false]
 split<;>omega
section
variable {X:Cx}{tg:Expr}{io:List Nat}{p c:Bool}{a b d e:Expr}{mr:MAt}{ra:FA}
theorem Zt0{pins:List (Addr×Obj)}{σ:St}{H:Hp}{s:Xd}{R:It->Hp->Prop}{E:Xc->Xd->Prop}{lo hi:Int}{t u v:Tok}{tk:Nat}(I:Inv X pins σ H s)(h1:-(2^62)≤lo)(h2:lo<2^62)(h3:-(2^62)≤hi)(h4:hi<2^62)
  (q:R (Itd lo (lo-hi).toNat) H):XQ (X7 X.prog X.w) X.A (pyIter (.ref s.heap.objs.size)) (PIE X pins σ tg R) E { s with heap:=s.heap.push { cls:=.type "range",data:=.fields #[.int lo t,.int hi u,.int (-1) v] },toks:=tk }:=by
 refine wpAny_pyIter_range (IsRange.new ..) (small_down h1 h2 h3 h4) ?_
 have I1:Inv X pins σ H { s with heap:=s.heap.push { cls:=.type "range",data:=.fields #[.int lo t,.int hi u,.int (-1) v] },toks:=tk }:=I.kept λb o e=>Xj _ e
 refine⟨(s.heap.push { cls:=.type "range",data:=.fields #[.int lo t,.int hi u,.int (-1) v] }).objs.size,[(s.heap.push { cls:=.type "range",data:=.fields #[.int lo t,.int hi u,.int (-1) v] }).objs.size],_,_,H,rfl,
  I1.kept (t':=tk) λb o e=>Xj _ e,Zrr _ lo (lo-hi).toNat,?_,λb hb=>?_,q⟩
 ·have e1:lo+((0:Nat):Int)*(-1)=lo:=by simp
  have e2:(((lo-hi).toNat:Nat):Int)-((0:Nat):Int)=Vr lo hi (-1):=by rw[rangeSize_down];split<;>omega
  show IsRangeIter _ _ (lo+((0:Nat):Int)*(-1)) ((((lo-hi).toNat:Nat):Int)-((0:Nat):Int)) (-1)
  rw[e1,e2]
  exact X3 _ rfl
 ·have e:b=(s.heap.push { cls:=.type "range",data:=.fields #[.int lo t,.int hi u,.int (-1) v] }).objs.size:=by simpa using hb
  subst e
  exact I1.fpOk (X6 _) (I1.hok.fresh (X6 _))
noncomputable def Yaa(ta:TA):TI:=λσ H R=>ta σ H λvs H1=>∃i j:Int,vs=[.int i,.int j,.int (-1)]∧(-(2^62)≤i∧i<2^62∧-(2^62)≤j∧j<2^62)∧R (Itd i (i-j).toNat) H1
theorem Zso{ta:TA}{p pos:Pos}(hg:Gl X "range")(hm:X.mg "range"=none)(ha:PA X [a,b,d] ta)(hs:Xq [a,b,d] X.env=[(false,eval a X.env),(false,eval b X.env),(false,eval d X.env)]:=by rfl)(hs2:Xq [b,d] X.env=[(false,eval b X.env),(false,eval d X.env)]:=by rfl) :
  PI X tg (.Call (.Name "range" p) [a,b,d] [] pos) (Yaa ta):=by
 intro pins s σ H R I h
 refine Call_ (Zh7 I hg hm boot_range (Bj (thn (ha pos pins s σ H _ I h) λus s1 qz=>?_) (by rw[hs,hs2]) (by rw[hs2];rfl)))
 obtain⟨vs,H1,I1,r1,q1⟩:=qz
 obtain⟨i,j,e,⟨q1,q2,q3,q4⟩,q⟩:=q1
 subst e
 cases r1 with
 | cons r rr=>
  cases rr with
  | cons r' rr=>
   cases rr with
   | cons r'' rr=>
    cases rr
    obtain⟨t,rfl⟩:=r
    obtain⟨t',rfl⟩:=r'
    obtain⟨t'',rfl⟩:=r''
    exact call_range_3 (by decide) (Zt0 I1 q1 q2 q3 q4 q) (.inl (PyProof.noPylong_small (by decide)))
noncomputable def Zr2(lo:Int)(n:Nat):List Xa:=(Xn n).map λi=>.int (lo-(i:Nat))
theorem Zpi{lo:Int}{n i:Nat}{d:Xa}(h:(Zr2 lo n)[i]? =some d):i<n∧d= .int (lo-(i:Nat)):=by
 have hi:i<n:=by
  have:=(Xk.mp h).1
  simpa [Zr2]using this
 unfold Zr2 at h
 rw[Xm,QW hi]at h
 cases h
 exact⟨hi,rfl⟩
theorem Zu7{G:Xb}{C:MC G}{fp:Fp}{ex:Addr->Prop}{H1:Hp}{lo:Int}{n:Nat}:IterOk C fp ex H1 true (Itd lo n) (Zr2 lo n):=λH' _ i=>by
 refine⟨λd hd=>?_,λhd=>?_⟩
 ·obtain⟨hi,rfl⟩:=Zpi hd
  refine⟨hi,λx H'' hy=>?_⟩
  obtain⟨rfl,rfl⟩:=hy
  exact⟨Same.refl _,.int _⟩
 ·have:=Qg.mp hd
  show n≤i
  simpa [Zr2]using this
noncomputable def iR3(mr:MAt):MIt:=λδ K=>mr δ λrs δ'=>∃i j:Int,OT.datas rs=[.int i,.int j,.int (-1)]∧(-(2^62)≤i∧i<2^62∧-(2^62)≤j∧j<2^62)∧K (Zr2 i (i-j).toNat) δ'
theorem Zq6{p' pos:Pos}(hg:Gl X "range")(hm:X.mg "range"=none)(ha:MA X io p c [a,b,d] mr)(hs:Xq [a,b,d] X.env=[(false,eval a X.env),(false,eval b X.env),(false,eval d X.env)]:=by rfl)(hs2:Xq [b,d] X.env=[(false,eval b X.env),(false,eval d X.env)]:=by rfl):MI X io p true tg (.Call (.Name "range" p') [a,b,d] [] pos) (iR3 mr):=by
 obtain⟨_,A,s⟩:=ha
 exact⟨_,Zso hg hm A hs hs2,λC H σ δ fp ex K' Q R h kk=>s C H σ δ fp ex _ _ R h λH1 vs rs δ1 fp1 new r1 h1=>by
  have q:=r1.das R
  obtain⟨i,j,e,h1,h2⟩:=h1
  rw[e]at q
  cases q with
  | cons q1 q2=>
   cases q1
   cases q2 with
   | cons q2 q3=>
    cases q2
    cases q3 with
    | cons q3 q4=>
     cases q3
     cases q4
     exact⟨_,_,rfl,h1,kk _ H1 _ δ1 fp1 r1.base r1.stp Zu7 h2⟩⟩
noncomputable def dn3(ds:List Xa):Option (Int×Int):=match ds with|[.int i,.int j,.int k]=>if k= -1∧rOk i=true∧rOk j=true then some (i,j)else none|_=>none
noncomputable def iRc(a:FA):FI:=λδ=>(a δ).bind λp=>(dn3 (OT.datas p.1)).bind λij=>some (Zr2 ij.1 (ij.1-ij.2).toNat,p.2)
theorem Z2d{ds:List Xa}{ij:Int×Int}(h:dn3 ds=some ij):ds=[.int ij.1,.int ij.2,.int (-1)]∧rOk ij.1=true∧rOk ij.2=true:=by
 unfold dn3 at h
 split at h
 case h_2=>cases h
 split at h
 ·rename_i c;cases h;exact⟨by rw[c.1],c.2.1,c.2.2⟩
 ·cases h
theorem Z92(h:MI X io p c tg e (iR3 (o2 ra))):MI X io p c tg e (o2 (iRc ra)):=h.weak λδ K h=>by
 obtain⟨r,δ',h,k⟩:=h
 obtain⟨⟨x,δ1⟩,h1,h⟩:=bs h
 refine⟨x,δ1,h1,?_⟩
 obtain⟨ij,h2,h3⟩:=bs h
 obtain⟨e,a1,a2⟩:=Z2d h2
 cases h3
 have b1:=Zdz a1
 have b2:=Zdz a2
 exact⟨ij.1,ij.2,e,⟨b1.1,b1.2,b2.1,b2.2⟩,k⟩
end
noncomputable def tbl(P:List Nat)(led:Bool):Vg:={ mask:=7,place:=P.toArray,dummies:=#[],finger:=0,led,moves:=0,plain:=true }
noncomputable def hT(k:List Int):Int:=reduceHash (Builtin.Tuple.tupleHashOf (k.map hashInt))
noncomputable def hAt(ks:List (List Int))(i:Nat):Int:=(ks[i]?.map hT).getD 0
noncomputable def Z9t(P:List Nat)(j:Nat):List Nat:=((tbl P false).put j).1.place.toList
noncomputable def Yco(P:List Nat)(j:Nat):Nat:=((tbl P false).put j).2
noncomputable def Yef(ks:List (List Int))(p:Nat)(k:List Int):List (List Int):=ks.take p ++ k :: ks.drop p
noncomputable def Yej(P:List Nat)(ks:List (List Int))(k:List Int):Option (List Nat×List (List Int)) :=
 match(tbl P false).probe (hAt ks) (hT k) ((tbl P false).probeStart (hT k))with
 | some (.empty j none)=>if(tbl (Z9t P j) false).tooFull=false∧(Z9t P j).length=ks.length+1∧ks.length≤6∧Yco P j≤ks.length then some (Z9t P j,Yef ks (Yco P j) k)else none
 | some (.candidate _ i _)=>if ks[i]? =some k then some (P,ks)else none
 | _=>none
noncomputable def grow(K:List (List Int)):Nat->List (List Nat×List (List Int))->List (List Nat×List (List Int))
 | 0,S=>S
 | n+1,S=>grow K n (S ++ (S.flatMap λs=>K.filterMap λk=>Yej s.1 s.2 k).filter λs=>!S.contains s)
noncomputable def K2:List (List Int):=[[0,0],[0,1],[1,0],[1,1]]
noncomputable def S2:List (List Nat×List (List Int)):=(grow K2 4 [([],[])]).eraseDups
section
variable {prog:XH}{w:Qo}{A:Qk}{E:Xc->Xd->Prop}{s:Xd}
inductive Ud(U:Addr->List Int->Prop):List (List Int)->List (Int×Xc)->Prop
 | nil:Ud U [] []
 | cons {k:List Int} {a:Addr} {ks:List (List Int)} {l:List (Int×Xc)} (h:U a k) (t:Ud U ks l):Ud U (k :: ks) ((hT k,.ref a) :: l)
theorem Ud.len{U:Addr->List Int->Prop}{ks:List (List Int)}{l:List (Int×Xc)}(h:Ud U ks l):ks.length=l.length:=by
 induction h with
 | nil=>rfl
 | cons _ _ ih=>rw[Ba,Ba,ih]
theorem Ud.hash{U:Addr->List Int->Prop}{ks:List (List Int)}{l:List (Int×Xc)}(h:Ud U ks l):l.map (·.1)=ks.map hT:=by
 induction h with
 | nil=>rfl
 | cons _ _ ih=>rw[Ql,Ql,ih]
theorem Ud.take{U:Addr->List Int->Prop}{ks:List (List Int)}{l:List (Int×Xc)}(h:Ud U ks l)(p:Nat):Ud U (ks.take p) (l.take p):=by
 induction h generalizing p with
 | nil=>rw[Ub,Ub];exact .nil
 | cons u t ih=>
  cases p with
  | zero=>exact .nil
  | succ p=>exact .cons u (ih p)
theorem Ud.drop{U:Addr->List Int->Prop}{ks:List (List Int)}{l:List (Int×Xc)}(h:Ud U ks l)(p:Nat):Ud U (ks.drop p) (l.drop p):=by
 induction h generalizing p with
 | nil=>rw[Uc,Uc];exact .nil
 | cons u t ih=>
  cases p with
  | zero=>exact .cons u t
  | succ p=>exact ih p
noncomputable abbrev IK(prog:XH)(w:Qo)(h:Heap)(k:List Int)(a:Addr):Prop:=IsTupleKey (intKind prog w) h k a
theorem items_int{ks:List Int}{vs:List Xc}(h:ItemsAre (intKind prog w) ks vs):∀v∈vs,∃i t,v= .int i t:=by
 induction h with
 | nil=>exact λ_ m=>nomatch m
 | cons h _ ih=>
  intro v hv
  rcases Xu.mp hv with rfl|hv
  ·obtain⟨t,e⟩:=Value.isInt_shape h
   exact⟨_,t,e⟩
  ·exact ih v hv
theorem Ud.at{U:Addr->List Int->Prop}{ks:List (List Int)}{es:Array (Int×Xc)}(h:Ud U ks es.toList)(i:Nat):(es[i]?.map (·.1)).getD 0=hAt ks i:=by
 unfold hAt
 rw[←Xm,←h.hash,Xm,JR]
end
section
variable {prog:XH}{w:Qo}{A:Qk}{R:Result->Xd->Prop}{I:Addr}{fp wr:List Addr}{n:Nat}{Pv:Nat->Xc->Prop}{St:Nat->Heap->Prop}
end
inductive Z9n(H:Hp):List V->List (List Int)->Prop
 | nil:Z9n H [] []
 | cons {a:Addr} {k:List Int} {xs:List V} {ks:List (List Int)} (h:H a=some (.tup (k.map V.int))) (t:Z9n H xs ks):Z9n H (.ref a :: xs) (k :: ks)
section
variable {X:Cx}{p c:Bool}{io:List Nat}{a e:Expr}{pos pos' pl pr:Pos}{t:TA}{mr:MAt}{ra:FA}
end
section
variable {X:Cx}{G:Xb}
noncomputable def Z7o(d:Xa)(ds:List Xa):Bool:=ds.any λy=>Qz y d
noncomputable def Ycn(neg:Bool)(K:Xb):R2:=λx y H Q=>∃(L L':Addr->Prop) (d e:Xa) (ds:List Xa),Da K H L x d∧Da K H L' y e∧Zj6 e=some ds∧d.canLay0=true∧e.canLay0=true∧d.depth≤32∧Q (.bl (if neg then !Z7o d ds else Z7o d ds)) H
theorem Z2o{A:Qk}{d:Xa}{ds:List Xa}(hd:d.depth≤32)(hu:A.units+64<Ui):A.units+1+min (Ue ds) d.depth<Ui:=by
 have:=Nat.min_le_right (Ue ds) d.depth
 omega
theorem Zq0(hu:X.A.units+64<Ui):OpR X (JS .NotIn) (Ycn true X.K):=by
 intro pins s σ H x y v u Q I rx ry h
 obtain⟨L,L',d,e,ds,h1,h2,h3,s1,s2,hd,q⟩:=h
 obtain⟨as,k1⟩:=h1.reads rfl I rx s1
 obtain⟨bs,k2⟩:=h2.reads rfl I ry s2
 cases e<;>cases h3
 ·exact SeqAt.notIn_list_reads k2 k1 s2 s1 (Z2o hd hu) ⟨.bl _,H,I,rfl,q⟩
 ·exact SeqAt.notIn_tuple_reads k2 k1 s2 s1 (Z2o hd hu) ⟨.bl _,H,I,rfl,q⟩
noncomputable def Znn(neg:Bool):Xa->Xa->Option Xa:=λd e=>match Zj6 e with
 | some ds=>if(d.canLay0&&(e.canLay0&&decide (d.depth≤32)))=true then some (.bool (if neg then !Z7o d ds else Z7o d ds))else none
 | none=>none
noncomputable def Ybd(neg:Bool):Xa->Xa->(Xa->Prop)->Prop:=λd e k=>∃r,Znn neg d e=some r∧k r
theorem Z46{neg:Bool}:P2s G (Ycn neg G) (Ybd neg):=λH L x y d e k Q hx hy h kk=>by
 obtain⟨r,h,hk⟩:=h
 unfold Znn at h
 split at h
 case h_2=>cases h
 rename_i ds q
 split at h
 case isFalse=>cases h
 rename_i q2
 rw[Xo,Xo,decide_eq_true_eq]at q2
 cases h
 exact⟨L,L,d,e,ds,hx,hy,q,q2.1,q2.2.1,q2.2.2,kk _ _ (.bl _) hk⟩
theorem Z5d{neg:Bool}:ByS (Znn neg) (Ybd neg):=λd e r k h hk=>⟨r,h,hk⟩
end
noncomputable abbrev Yen(h:Heap)(T:Addr)(a b c:Xc):Prop:=h.get? T=some { cls:=.type "tuple",data:=.seq #[a,b,c] }
structure Z3A(z TI TO i1 i2 i3:Addr)(f1 f2 f3:List Addr):Prop where
 TIz:TI≠z
 TOz:TO≠z
 a1:∀c∈f1,c≠z∧c≠TO∧c≠i2∧c≠i3
 a2:∀c∈f2,c≠z∧c≠TO∧c≠i1∧c≠i3
 a3:∀c∈f3,c≠z∧c≠TO∧c≠i1∧c≠i2
section
variable {P:XH}{w:Qo}{A:Qk}{E:Xc->Xd->Prop}{s:Xd}
end
noncomputable abbrev z3A(h:Heap)(a:Addr):Heap:=h.push { cls:=.type "list_iterator",data:=.fields #[.ref a,.int 0 0] }
noncomputable abbrev z3B(h:Heap)(a b:Addr):Heap:=z3A (z3A h a) b
noncomputable abbrev z3C(h:Heap)(a b c:Addr):Heap:=z3A (z3B h a b) c
noncomputable abbrev z3D(h:Heap)(a b c:Addr):Heap:=(z3C h a b c).push { cls:=.type "tuple",data:=.seq #[.ref h.objs.size,.ref (z3A h a).objs.size,.ref (z3B h a b).objs.size] }
noncomputable abbrev z3E(h:Heap)(a b c:Addr):Heap:=(z3D h a b c).push { cls:=.type "tuple",data:=.seq #[.none,.none,.none] }
noncomputable abbrev z3F(h:Heap)(a b c:Addr):Heap:=(z3E h a b c).push { cls:=.type "zip",data:=.fields #[.none,.bool false,.bool false,.ref (z3C h a b c).objs.size,.ref (z3D h a b c).objs.size] }
section
variable {P:XH}{w:Qo}{A:Qk}{E:Xc->Xd->Prop}{s:Xd}
end
section
variable {X:Cx}{io:List Nat}{p c:Bool}{a b e:Expr}{mr:MAt}{ra:FA}
end
noncomputable def Up(xs:List Nat):Prop:=xs.Pairwise (·<·)
theorem Zl1{xs:List Nat}(h:Up xs){i j:Nat}{a b:Nat}(ha:xs[i]? =some a)(hb:xs[j]? =some b)(l:i<j):a<b:=by
 obtain⟨hi,rfl⟩:=Xk.mp ha
 obtain⟨hj,rfl⟩:=Xk.mp hb
 exact List.pairwise_iff_getElem.mp h i j hi hj l
theorem getD_at{xs:Array Nat}{i d:Nat}(h:i<xs.size):xs.toList[i]? =some (xs.getD i d):=by
 rw[JR,Array.getElem?_eq_getElem h,Array.getD,dif_pos h];rfl
theorem Zwb{xs:Array Nat}{j:Nat}(up:Up xs.toList):∀(fuel lo hi:Nat),hi-lo≤fuel->lo≤hi->hi≤xs.size->(∀i a,i<lo->xs.toList[i]? =some a->a<j)->(∀i a,hi≤i->xs.toList[i]? =some a->j≤a) ->
  ∃p,SetTable.below.go xs j fuel lo hi=p∧p≤xs.size∧(∀i a,i<p->xs.toList[i]? =some a->a<j)∧∀i a,p≤i->xs.toList[i]? =some a->j≤a:=by
 intro fuel
 induction fuel with
 | zero=>
  intro lo hi f l z h1 h2
  have e:lo=hi:=by omega
  exact⟨lo,rfl,by omega,h1,λi a q=>h2 i a (by omega)⟩
 | succ fuel ih=>
  intro lo hi f l z h1 h2
  rw[SetTable.below.go]
  by_cases c:lo<hi
  ·rw[if_pos c]
   have hm:(lo+hi)/2<xs.size:=by omega
   have em:=getD_at (xs:=xs) (d:=j) hm
   by_cases q:xs.getD ((lo+hi)/2) j<j
   ·simp only[if_pos q]
    refine ih _ _ (by omega) (by omega) z (λi a li ea=>?_) h2
    by_cases e:i=(lo+hi)/2
    ·subst e
     rw[em]at ea
     cases ea
     exact q
    ·exact Vh (Zl1 up ea em (by omega)) q
   ·simp only[if_neg q]
    refine ih _ _ (by omega) (by omega) (by omega) h1 λi a li ea=>?_
    by_cases e:i=(lo+hi)/2
    ·subst e
     rw[em]at ea
     cases ea
     omega
    ·have:=Zl1 up em ea (by omega)
     omega
  ·rw[if_neg c]
   have e:lo=hi:=by omega
   exact⟨lo,rfl,by omega,h1,λi a q=>h2 i a (by omega)⟩
theorem Zvw{xs:Array Nat}(up:Up xs.toList)(j:Nat):JZ xs j≤xs.size∧(∀i a,i<JZ xs j->xs.toList[i]? =some a->a<j)∧∀i a,JZ xs j≤i->xs.toList[i]? =some a->j≤a:=by
 obtain⟨p,e,h⟩:=Zwb (j:=j) up xs.size 0 xs.size (by omega) (QV _) (X6 _) (λi a q=>absurd q (QB _)) λi a q ea=>by
  have:=(Xk.mp ea).1
  rw[Bm]at this
  omega
 unfold JZ
 rw[e];exact h
theorem Z3k{xs:List Nat}(up:Up xs){p j:Nat}(h1:∀i a,i<p->xs[i]? =some a->a<j)(h2:∀i a,p≤i->xs[i]? =some a->j<a):Up (xs.take p ++ j :: xs.drop p):=by
 refine List.pairwise_append.mpr ⟨up.sublist (List.take_sublist ..),List.pairwise_cons.mpr ⟨λa ha=>?_,up.sublist (List.drop_sublist ..)⟩,λa ha b hb=>?_⟩
 ·obtain⟨i,hi⟩:=Q9 ha
  rw[UJ]at hi
  exact h2 _ a (Vt _ _) hi
 ·obtain⟨i,hi⟩:=Q9 ha
  have ip:i<p:=by
   have:=(Xk.mp hi).1
   rw[Bv]at this
   omega
  rw[List.getElem?_take_of_lt ip]at hi
  have aj:=h1 i a ip hi
  rcases Xu.mp hb with rfl|hb
  ·exact aj
  ·obtain⟨k,hk⟩:=Q9 hb
   rw[UJ]at hk
   exact Vh aj (h2 _ b (Vt _ _) hk)
noncomputable def Zf1(t:Vg)(j:Nat):Prop:=t.place[JZ t.place j]? ≠some j
structure Tb(b:Bool)(t:Vg):Prop where
 led:t.led=b
 up:t.plain=true->Up t.place.toList
theorem Zon{t:Vg}{j:Nat}(h:t.slot j= .empty∨t.slot j= .dummy):Zf1 t j:=λz=>by
 have:t.slot j= .live (JZ t.place j):=by
  unfold Vg.slot
  rw[if_pos (beq_iff_eq.mpr z)]
 rcases h with h|h<;>rw[this]at h<;>cases h
theorem Zsk{t:Vg}{f:Nat->Int}{h:Int}:∀(fuel:Nat) (p:SetTable.Probe),(∀d,p.dummy=some d->Zf1 t d)->∀j dm,SetTable.probe.go t f h fuel p=some (.empty j dm)->Zf1 t j∧∀d,dm=some d->Zf1 t d:=by
 intro fuel
 induction fuel with
 | zero=>intro p _ j dm e;cases e
 | succ fuel ih=>
  have adv:∀q:SetTable.Probe,(t.advance q).dummy=q.dummy:=λq=>by
   unfold Vg.advance
   split<;>rfl
  intro p hp j dm e
  rw[SetTable.probe.go]at e
  split at e
  ·rename_i c
   cases e
   exact⟨Zon (.inl c),hp⟩
  ·rename_i c
   refine ih _ (λd hd=>?_) j dm e
   rw[adv]at hd
   cases hd
   exact Zon (.inr c)
  ·split at e
   ·cases e
   ·exact ih _ (λd hd=>hp d (by rw[adv]at hd;exact hd)) j dm e
theorem Zuy{t:Vg}{h:Int}{j:Nat}{d:Bool}(e:t.freeSlot h=some (j,d)):Zf1 t j:=by
 unfold Vg.freeSlot at e
 split at e
 ·rename_i j' dm q
  cases e
  obtain⟨h1,h2⟩:=Zsk _ _ (λd hd=>by cases hd) _ _ q
  cases dm with
  | none=>exact h1
  | some d=>exact h2 d rfl
 ·cases e
theorem Z3o{t:Vg}{j:Nat}(up:Up t.place.toList)(n:Zf1 t j):Up (t.put j).1.place.toList:=by
 show Up (Vg.insertAt t.place (JZ t.place j) j).toList
 obtain⟨b0,b1,b2⟩:=Zvw up j
 rw[SetTable.toList_insertAt]
 refine Z3k up b1 λi a l ea=>?_
 have ja:=b2 i a l ea
 rcases Ux j a with c|c
 ·exact c
 ·have e:a=j:=by omega
  subst e
  exfalso
  rcases Ux (JZ t.place a) i with c2|c2
  ·have hs:JZ t.place a<t.place.toList.length:=Vh c2 (Xk.mp ea).1
   have e1:=Xi hs
   have:=Zl1 up e1 ea c2
   have:=b2 _ _ (X6 _) e1
   omega
  ·have e:i=JZ t.place a:=by omega
   subst e
   exact n (by rw[←JR];exact ea)
theorem Tb.stand{b:Bool}{t:Vg}(h:Tb b t)(n:Nat):Tb b (t.standIn n):=⟨h.led,λz=>nomatch z⟩
theorem Tb.lay{b:Bool}{t:Vg}(h:Tb b t)(es:Array (Int×Xc))(k:Int)(x:Xc):Tb b (layNew t es k x).2.1:=by
 unfold layNew
 split
 ·rename_i j d e
  dsimp only
  unfold Vg.orStandIn
  split
  ·exact⟨h.led,λz=>Z3o (h.up z) (Zuy e)⟩
  ·exact⟨h.led,λz=>nomatch z⟩
 ·exact h.stand _
noncomputable def vI:Xc->Int
 | .int k _=>k
 | _=>0
noncomputable def SetI(prog:XH)(w:Qo)(b:Bool)(h:Heap)(S:Addr)(ks:List Int):Prop :=
 ∃o es ep t,h.get? S=some o∧o.ExactSet∧o.data= .set es ep t∧ElemsOf (intKind prog w) es.toList∧es.size<scanBound∧t.fits es.size=true∧Tb b t∧es.toList.map (λe=>vI e.2)=ks
section
variable {prog:XH}{w:Qo}{A:Qk}{E:Xc->Xd->Prop}{s:Xd}{b:Bool}
theorem SetI.len{h:Heap}{S:Addr}{ks:List Int}(hS:SetI prog w b h S ks):ks.length<scanBound:=by
 obtain⟨o,es,ep,t,_,_,_,_,l,_,_,rfl⟩:=hS
 rw[Xg,Bm];exact l
theorem SetI.put{h:Heap}{S:Addr}{o:Obj}{es es':Array (Int×Xc)}{ep:Nat}{t t':Vg}(ho:h.get? S=some o)(hex:o.ExactSet)(hd:o.data= .set es ep t)(he:ElemsOf (intKind prog w) es'.toList)(hb:es'.size<scanBound)(hf:t'.fits es'.size=true)(ht:Tb b t') :
  (h.update S (Obj.putSet es' t')).get? S=some { o with data:=.set es' (ep+1) t' }∧SetI prog w b (h.update S (Obj.putSet es' t')) S (es'.toList.map λe=>vI e.2):=by
 have g:=Heap.get?_update_self (Obj.putSet es' t') ho (by rw[putSet_of es' t' hd];rfl)
 rw[putSet_of es' t' hd]at g
 exact⟨g,_,es',ep+1,t',g,hex,rfl,he,hb,hf,ht,rfl⟩
end
noncomputable def OfL{α:Type}(ks ns:List α):Prop:=ks.Nodup∧∀x,x∈ks↔x∈ns
noncomputable abbrev Of(ks ns:List Int):Prop:=OfL ks ns
structure Yfb{τ:Type}(prog:XH)(w:Qo)(A:Qk)(S:Addr)(T:Heap->List τ->Prop)(h0:Heap)(n:Nat)(Ok:Xc->τ->Prop):Prop where
 stay:∀h h' ks,T h ks->(∀o,h.get? S=some o->h'.get? S=some o)->T h' ks
 add:∀(s:Xd) (E:Xc->Xd->Prop) (v:Xc) (k:τ) (ks:List τ) (Q:Bool->Xd->Prop),Ok v k->(∀b o,b<S->h0.get? b=some o->s.heap.get? b=some o)->T s.heap ks->ks.length<n->(∀c h' tk ks',Vs S s.heap h'->T h' ks'->(k∈ks->ks'=ks)->(k∉ks->ks'.Perm (ks ++ [k]))->Q c { s with heap:=h',toks:=tk })->XQ (X7 prog w) A (setAdd S v) Q E s
section
variable {prog:XH}{w:Qo}{A:Qk}{R:Result->Xd->Prop}{I S:Addr}{fp wr:List Addr}{n:Nat}{Pv:Nat->Xc->Prop}{St:Nat->Heap->Prop}{τ:Type}{T:Heap->List τ->Prop}{h0:Heap}{Ok:Xc->τ->Prop}
end
section
variable {prog:XH}{w:Qo}{A:Qk}{E:Xc->Xd->Prop}{s:Xd}
end
section
variable {κ:Type}[DecidableEq κ]
noncomputable def Zqi(kvs:List (κ×V))(k:κ):Option V:=(kvs.find? λkv=>decide (kv.1=k)).map (·.2)
noncomputable def putK(kvs:List (κ×V))(k:κ)(v:V):List (κ×V) :=
 if(kvs.any λkv=>decide (kv.1=k))=true then kvs.map (λkv=>if kv.1=k then(kv.1,v)else kv)else kvs ++ [(k,v)]
noncomputable def Z6p(kvs:List (κ×V))(k:κ):List (κ×V):=kvs.filter λkv=>decide (kv.1≠k)
theorem Zhv{p:κ×V}{r:List (κ×V)}{k:κ}(e:p.1=k):Zqi (p :: r) k=some p.2:=by simp[Zqi,VB,e]
theorem Zhj{p:κ×V}{r:List (κ×V)}{k:κ}(e:¬p.1=k):Zqi (p :: r) k=Zqi r k:=by simp[Zqi,VB,e]
theorem Zoe(k:κ):∀kvs:List (κ×V),(kvs.any λkv=>decide (kv.1=k))=(Zqi kvs k).isSome
 | []=>rfl
 | p :: r=>by
  rw[Vw]
  by_cases e:p.1=k
  ·simp only[Zhv e,decide_eq_true e,Bool.true_or,Option.isSome_some]
  ·rw[Zhj e,decide_eq_false e,Bool.false_or];exact Zoe k r
theorem RelO.isSome_eq{o:Option V}{u:Option Xc}(r:RelO o u):o.isSome=u.isSome:=by
 cases o with
 | none=>cases u with
  | none=>rfl
  | some _=>exact(show False from r).elim
 | some _=>cases u with
  | none=>exact(show False from r).elim
  | some _=>rfl
theorem RelO.getD{o:Option V}{u:Option Xc}{d:V}{d':Xc}(r:RelO o u)(rd:RelV d d'):RelV (o.getD d) (u.getD d'):=by
 cases o with
 | none=>cases u with
  | none=>exact rd
  | some _=>exact(show False from r).elim
 | some _=>cases u with
  | none=>exact(show False from r).elim
  | some _=>exact r
theorem KV.val{kvs:List (κ×V)}{vs:List (κ×Xc)}(r:KV kvs vs)(k:κ):RelO (Zqi kvs k) (valueAt vs k):=by
 unfold KV at r
 induction r with
 | nil=>exact Uz
 | @cons p q ps qs h t ih=>
  obtain⟨h1,h2⟩:=h
  by_cases e:p.1=k
  ·have e':q.1=k:=h1.symm.trans e
   have b:valueAt (q :: qs) k=some q.2:=by simp[valueAt,VB,e']
   rw[Zhv e,b];exact h2
  ·have e':¬q.1=k:=λz=>e (h1.trans z)
   have b:valueAt (q :: qs) k=valueAt qs k:=by simp[valueAt,VB,e']
   rw[Zhj e,b];exact ih
theorem KV.any{kvs:List (κ×V)}{vs:List (κ×Xc)}(r:KV kvs vs)(k:κ):(kvs.any λkv=>decide (kv.1=k))=vs.any λkv=>decide (kv.1=k):=by
 unfold KV at r
 induction r with
 | nil=>rfl
 | cons h t ih=>rw[Vw,Vw,ih,h.1]
theorem KV.repl{kvs:List (κ×V)}{vs:List (κ×Xc)}(r:KV kvs vs)(k:κ){y:V}{u:Xc}(ry:RelV y u) :
  KV (kvs.map λkv=>if kv.1=k then(kv.1,y)else kv) (vs.map λkv=>if kv.1=k then(kv.1,u)else kv):=by
 unfold KV at r⊢
 induction r with
 | nil=>exact .nil
 | @cons p q ps qs h t ih=>
  rw[Ql,Ql]
  refine .cons ?_ ih
  obtain⟨h1,h2⟩:=h
  by_cases e:p.1=k
  ·rw[if_pos e,if_pos (h1.symm.trans e)];exact⟨h1,ry⟩
  ·rw[if_neg e,if_neg (λz=>e (h1.trans z))];exact⟨h1,h2⟩
theorem KV.put{kvs:List (κ×V)}{vs:List (κ×Xc)}(r:KV kvs vs)(k:κ){y:V}{u:Xc}(ry:RelV y u):KV (putK kvs k y) (stored vs k u):=by
 unfold putK stored
 rw[r.any k]
 by_cases e:(vs.any λkv=>decide (kv.1=k))=true
 ·rw[if_pos e,if_pos e];exact r.repl k ry
 ·rw[if_neg e,if_neg e];exact Paired.snoc r ⟨rfl,ry⟩
theorem KV.drop{kvs:List (κ×V)}{vs:List (κ×Xc)}(r:KV kvs vs)(k:κ):KV (Z6p kvs k) (without vs k):=by
 unfold KV at r⊢
 unfold Z6p without
 induction r with
 | nil=>exact .nil
 | @cons p q ps qs h t ih=>
  obtain⟨h1,h2⟩:=h
  rw[List.filter_cons,List.filter_cons]
  by_cases e:p.1=k
  ·have a:¬decide (p.1≠k)=true:=by simp[e]
   have b:¬decide (q.1≠k)=true:=by simp[h1.symm.trans e]
   rw[if_neg a,if_neg b];exact ih
  ·have e':¬q.1=k:=λz=>e (h1.trans z)
   have a:decide (p.1≠k)=true:=by simp[e]
   have b:decide (q.1≠k)=true:=by simp[e']
   rw[if_pos a,if_pos b];exact .cons ⟨h1,h2⟩ ih
theorem KV.length{kvs:List (κ×V)}{vs:List (κ×Xc)}(r:KV kvs vs):kvs.length=vs.length:=Paired.length r
end
noncomputable abbrev KT(H:Hp):List (List Key×V)->List (List Key×Addr×Xc)->Prop:=Paired λp q=>p.1=q.1∧H q.2.1=some (.tup (p.1.map kV))∧RelV p.2 q.2.2
theorem KT.val{H:Hp}{kvs:List (List Key×V)}{xs:List (List Key×Addr×Xc)}(r:KT H kvs xs)(k:List Key):RelO (Zqi kvs k) ((atKey xs k).map (·.2)):=by
 induction r with
 | nil=>exact Uz
 | @cons p q ps qs h t ih=>
  obtain⟨h1,_,h2⟩:=h
  by_cases e:p.1=k
  ·have e':q.1=k:=h1.symm.trans e
   have b:atKey (q :: qs) k=some q.2:=by simp[atKey,VB,e']
   rw[Zhv e,b];exact h2
  ·have e':¬q.1=k:=λz=>e (h1.trans z)
   have b:atKey (q :: qs) k=atKey qs k:=by simp[atKey,VB,e']
   rw[Zhj e,b];exact ih
theorem KT.repl{H:Hp}{kvs:List (List Key×V)}{xs:List (List Key×Addr×Xc)}(r:KT H kvs xs)(k:List Key){y:V}{u:Xc}(ry:RelV y u) :
  KT H (kvs.map λkv=>if kv.1=k then(kv.1,y)else kv) (xs.map (putAt k u)):=by
 induction r with
 | nil=>exact .nil
 | @cons p q ps qs h t ih=>
  rw[Ql,Ql]
  refine .cons ?_ ih
  obtain⟨h1,h2,h3⟩:=h
  unfold putAt
  by_cases e:p.1=k
  ·rw[if_pos e,if_pos (h1.symm.trans e)];exact⟨h1,h2,ry⟩
  ·rw[if_neg e,if_neg (λz=>e (h1.trans z))];exact⟨h1,h2,h3⟩
theorem KT.put{H:Hp}{kvs:List (List Key×V)}{xs:List (List Key×Addr×Xc)}(r:KT H kvs xs)(k:List Key){b:Addr}{y:V}{u:Xc}(hb:H b=some (.tup (k.map kV)))(ry:RelV y u) :
  KT H (putK kvs k y) (storedH xs k b u):=by
 have e:(kvs.any λkv=>decide (kv.1=k))=(atKey xs k).isSome:=by
  rw[Zoe,(r.val k).isSome_eq,Option.isSome_map]
 unfold putK storedH
 rw[e]
 by_cases q:(atKey xs k).isSome=true
 ·rw[if_pos q,if_pos q];exact r.repl k ry
 ·rw[if_neg q,if_neg q];exact Paired.snoc r ⟨rfl,hb,ry⟩
section
variable {P:XH}{w:Qo}{H:Hp}{h:Heap}{a:Addr}
end
noncomputable def DGet(H:Hp)(a:Addr)(y:V)(r:Option V):Prop :=
 (∃ kvs k,Rd H a (.dK kvs)∧y=kV k∧r=Zqi kvs k)∨∃kvs k b,Rd H a (.dT kvs)∧y= .ref b∧H b=some (.tup (k.map kV))∧r=Zqi kvs k
noncomputable def DPut(H:Hp)(a:Addr)(y v:V)(H':Hp):Prop :=
 (∃ kvs k,H a=some (.dK kvs)∧y=kV k∧kvs.length<Xr∧H'=upd H a (.dK (putK kvs k v)))∨
 ∃kvs k b,H a=some (.dT kvs)∧y= .ref b∧H b=some (.tup (k.map kV))∧kvs.length<Xr∧H'=upd H a (.dT (putK kvs k v))
theorem DGet.k{H:Hp}{a:Addr}{kvs:List (Key×V)}{k:Key}(e:H a=some (.dK kvs)):DGet H a (kV k) (Zqi kvs k):=.inl ⟨kvs,k,.inl e,rfl,rfl⟩
theorem DGet.t{H:Hp}{a b:Addr}{kvs:List (List Key×V)}{k:List Key}(e:H a=some (.dT kvs))(eb:H b=some (.tup (k.map kV))):DGet H a (.ref b) (Zqi kvs k):=.inr ⟨kvs,k,b,.inl e,rfl,eb,rfl⟩
theorem DPut.k{H:Hp}{a:Addr}{kvs:List (Key×V)}{k:Key}{v:V}(e:H a=some (.dK kvs))(hl:kvs.length<Xr):DPut H a (kV k) v (upd H a (.dK (putK kvs k v))):=.inl ⟨kvs,k,e,rfl,hl,rfl⟩
theorem DPut.t{H:Hp}{a b:Addr}{kvs:List (List Key×V)}{k:List Key}{v:V}(e:H a=some (.dT kvs))(eb:H b=some (.tup (k.map kV)))(hl:kvs.length<Xr) :
  DPut H a (.ref b) v (upd H a (.dT (putK kvs k v))):=.inr ⟨kvs,k,b,e,rfl,eb,hl,rfl⟩
section
variable {X:Cx}{pins:List (Addr×Obj)}{σ:St}{H:Hp}{s:Xd}{a:Addr}{y v:V}{u r:Xc}{o:Option V}{A:Qk}{E:Xc->Xd->Prop}
end
section
variable {X:Cx}{pins:List (Addr×Obj)}{σ:St}{H:Hp}{s:Xd}{a:Addr}{kvs:List (Key×V)}{k:Key}{u:Xc}{A:Qk}{E:Xc->Xd->Prop}
end
section
variable {X:Cx}{o i e value:Expr}{pos pos' tpos:Pos}{td ty tv:TE}
end
section
variable {X:Cx}{pos:Pos}
end
noncomputable abbrev VV:List (V×V)->List (Xc×Xc)->Prop:=Paired λp q=>RelV p.1 q.1∧RelV p.2 q.2
structure M1(X:Cx)(o:Expr)(m:Str)(apos:Pos)(e:Expr)(cpos:Pos):Prop where
 base:attributeBase o m X.env (eval o X.env)=eval o X.env
 few:((BV cpos (Xq [e] X.env)).all (λx=>!x.1)&&(backToKw cpos (keywordEach [] X.env)).all (λx=>x.1.isSome)
  &&decide (([e]:List Expr).length+([]:List Keyword).length+(if([]:List Keyword).isEmpty then 0 else 1)<30))=true
 line:(apos.endLine==cpos.line)=true
 trees:BV cpos (Xq [e] X.env)=[(false,eval e X.env)]
structure M2(X:Cx)(o:Expr)(m:Str)(apos:Pos)(e f:Expr)(cpos:Pos):Prop where
 base:attributeBase o m X.env (eval o X.env)=eval o X.env
 few:((BV cpos (Xq [e,f] X.env)).all (λx=>!x.1)&&(backToKw cpos (keywordEach [] X.env)).all (λx=>x.1.isSome)
  &&decide (([e,f]:List Expr).length+([]:List Keyword).length+(if([]:List Keyword).isEmpty then 0 else 1)<30))=true
 line:(apos.endLine==cpos.line)=true
 trees:BV cpos (Xq [e,f] X.env)=[(false,eval e X.env),(false,eval f X.env)]
section
variable {X:Cx}{pins:List (Addr×Obj)}{σ:St}{H:Hp}{s:Xd}{a:Addr}{y d:V}{u r:Xc}{o:Option V}{A:Qk}{E:Xc->Xd->Prop}
end
section
variable {X:Cx}{o e f:Expr}{apos cpos:Pos}{td ty tx:TE}
end
variable {G:Xb}
noncomputable def Z8t(k:KY):List KY->List Xa->Option Xa
 | [],_=>none
 | _ :: _,[]=>none
 | j :: ks,d :: ds=>if j=k then some d else Z8t k ks ds
section
variable {H:Hp}{L:Addr->Prop}{κ:Type}[DecidableEq κ]{f:κ->KY}
noncomputable def Yb8(G:Xb)(H:Hp)(L:Addr->Prop)(a:Option V)(b:Option Xa):Prop:=(∃v d,a=some v∧b=some d∧Da G H L v d)∨(a=none∧b=none)
theorem look(hf:∀a b,f a=f b->a=b)(k:κ)(kvs:List (κ×V)):∀ds,Das G H L (kvs.map (·.2)) ds->Yb8 G H L (Zqi kvs k) (Z8t (f k) (kvs.map λp=>f p.1) ds):=by
 induction kvs with
 | nil=>exact λds _=>.inr ⟨rfl,rfl⟩
 | cons p kvs ih=>
  intro ds h
  cases h with
  | cons h r=>
   rename_i d ds
   show Yb8 G H L _ (if f p.1=f k then some d else Z8t (f k) (kvs.map λp=>f p.1) ds)
   by_cases e:p.1=k
   ·rw[Zhv e,if_pos (congrArg f e)]
    exact .inl ⟨_,_,rfl,rfl,h⟩
   ·rw[Zhj e,if_neg λz=>e (hf _ _ z)]
    exact ih _ r
end
section
variable {H:Hp}{L:Addr->Prop}{y:V}{e:Xa}
end
end L2
namespace L2
open PySem PySem.Spec PyProof.Rows PySem.W PySem.SeqAt
variable {G:Xb}
section
variable {prog:XH}{w:Qo}{A:Qk}{E:Xc->Xd->Prop}{s:Xd}
theorem Zpf{a:Addr}{Q:Unit->Xd->Prop}(na:(a==sysModules)=false)(h:Q () s):XQ (X7 prog w) A (Builtin.Dict.showsAll a) Q E s:=by
 unfold Builtin.Dict.showsAll
 rw[if_neg (by rw[na];exact XF)]
 exact X5 h
end
theorem Paired.at{α β:Type}{R:α->β->Prop}{as:List α}{bs:List β}(h:PySem.Paired R as bs):∀{i:Nat} {y:β},bs[i]? =some y->∃x,as[i]? =some x∧R x y:=by
 induction h with
 | nil=>intro i y z;cases z
 | cons h t ih=>
  intro i y z
  cases i with
  | zero=>cases z;exact⟨_,rfl,h⟩
  | succ i=>exact ih z
end L2
namespace L2
open PySem PySem.Spec PyProof.Rows
noncomputable def Yc0(o:Option (Option OT))(δ:Zi):Option (OT×Zi):=match o with|some (some (.fz d))=>some (.fz d,δ)|_=>none
theorem Zx7(d:Xa)(δ:Zi):Yc0 (some (some (.fz d))) δ=some (.fz d,δ):=rfl
noncomputable def Z4j(o:Option (Option OT))(δ:Zi):Option (OT×Zi):=match o with|some (some t)=>some (.fz t.data,δ)|_=>none
theorem Zz0(t:OT)(δ:Zi):Z4j (some (some t)) δ=some (.fz t.data,δ):=rfl
theorem Zzn(i:Nat)(δ:Zi):Zd i δ=Yc0 δ[i]? δ:=rfl
theorem Z1a(i:Nat)(δ:Zi):Zn0 i δ=Z4j δ[i]? δ:=rfl
theorem Z8u(d:Xa)(δ:Zi):fC d δ=some (.fz d,δ):=rfl
theorem Zv4(g:Xa->Xa->Option Xa)(a b:FE)(δ:Zi):Ze g a b δ=(a δ).bind λp=>(b p.2).bind λq=>(g p.1.data q.1.data).bind λd=>some (.fz d,q.2):=rfl
theorem Zt3(g:Xa->Xa->Option OT)(a b:FE)(δ:Zi):Zq g a b δ=(a δ).bind λp=>(b p.2).bind λq=>(g p.1.data q.1.data).bind λd=>some (d,q.2):=rfl
theorem Z6a(g:Xa->Option Xa)(a:FE)(δ:Zi):fUn g a δ=(a δ).bind λp=>(g p.1.data).bind λd=>some (.fz d,p.2):=rfl
noncomputable def onB{α:Type}(d:Xa)(x y:Option α):Option α:=match d with| .bool true=>x| .bool false=>y|_=>none
theorem Z79{α:Type}(x y:Option α):onB (.bool true) x y=x:=rfl
theorem Z8h{α:Type}(x y:Option α):onB (.bool false) x y=y:=rfl
theorem Zsy(a b:FE)(δ:Zi):Zk3 a b δ=(a δ).bind λp=>onB p.1.data (b p.2) (some (.fz (.bool false),p.2)):=by
 unfold Zk3 onB
 cases a δ with
 | none=>rfl
 | some p=>first|rfl|(simp only[Xe];done)|(simp only[Xe];generalize p.1.data=d;cases d<;>first|rfl|(rename_i b;cases b<;>rfl))
theorem Yda(a b:FE)(δ:Zi):fOr a b δ=(a δ).bind λp=>onB p.1.data (some (.fz (.bool true),p.2)) (b p.2):=by
 unfold fOr onB
 cases a δ with
 | none=>rfl
 | some p=>first|rfl|(simp only[Xe];done)|(simp only[Xe];generalize p.1.data=d;cases d<;>first|rfl|(rename_i b;cases b<;>rfl))
theorem Yc6(t:FT)(a b:FE)(δ:Zi):fIf t a b δ=(t δ).bind λp=>if p.1=true then a p.2 else b p.2:=rfl
noncomputable def Yad(t:OT)(δ:Zi):Option (Bool×Zi):=match t with| .fz (.bool b)=>some (b,δ)|_=>none
theorem Z6n(b:Bool)(δ:Zi):Yad (.fz (.bool b)) δ=some (b,δ):=rfl
theorem Z9r(e:FE)(δ:Zi):tV e δ=(e δ).bind λp=>Yad p.1 p.2:=by
 unfold tV Yad
 cases e δ with
 | none=>rfl
 | some p=>rfl
theorem Z4w(t:FT)(δ:Zi):tNo t δ=(t δ).bind λp=>some (!p.1,p.2):=rfl
theorem Zxb(t u:FT)(δ:Zi):tAn t u δ=(t δ).bind λp=>if p.1=true then u p.2 else some (false,p.2):=rfl
theorem Z34(t u:FT)(δ:Zi):tO t u δ=(t δ).bind λp=>if p.1=true then some (true,p.2)else u p.2:=rfl
theorem Yab(e:FE)(δ:Zi):tD e δ=(e δ).bind λp=>(Zuj p.1.data).bind λb=>some (b,p.2):=rfl
theorem Z9a(δ:Zi):Zen δ=some (true,δ):=rfl
theorem Zyw(δ:Zi):Zo δ=some ([],δ):=rfl
theorem Zk2(e:FE)(a:FA)(δ:Zi):Zc e a δ=(e δ).bind λp=>(a p.2).bind λq=>some (p.1 :: q.1,q.2):=rfl
theorem Zri(a:FA)(δ:Zi):Zc2 a δ=(a δ).bind λp=>if p.1.length≤Xr then some (.fz (.tuple (OT.datas p.1)),p.2)else none:=rfl
theorem Zqt(a:FA)(δ:Zi):Zav a δ=(a δ).bind λp=>if p.1.length≤Xr then some (.nd p.1,p.2)else none:=rfl
theorem Zv3(a:FA)(δ:Zi):Zq7 a δ=(a δ).bind λp=>if p.1.length≤Xr then some (.tp p.1,p.2)else none:=rfl
theorem Zwr(e:FE)(δ:Zi):Zl6 e δ=(e δ).bind λp=>if Zce p.1.data=true then some (.fz p.1.data,p.2)else none:=rfl
theorem Zt1(e:FE)(δ:Zi):Zov e δ=(e δ).bind λp=>if Ziu p.1=true then some (p.1,p.2)else none:=rfl
noncomputable def okO(x:RF)(δ:Zi):Option (OT×Zi):=match x with| .ok r=>some (r,δ)|_=>none
theorem Z6j(r:OT)(δ:Zi):okO (.ok r) δ=some (r,δ):=rfl
theorem Zkq(F:FD)(a:FA)(δ:Zi):Zw F a δ=(a δ).bind λp=>okO (F (OT.datas p.1)) p.2:=by
 unfold Zw okO
 cases a δ with
 | none=>rfl
 | some p=>rfl
noncomputable def atO{α:Type}(o:Option (Option OT))(k:OT->Option α):Option α:=match o with|some (some t)=>k t|_=>none
theorem Yeu{α:Type}(t:OT)(k:OT->Option α):atO (some (some t)) k=k t:=rfl
theorem Z5l(i:Nat)(F:FIO)(a:FA)(δ:Zi):Zw3 i F a δ=atO δ[i]? λ_=>(a δ).bind λp=>atO p.2[i]? λt=>(F t (OT.datas p.1)).bind λq=>some (q.1,p.2.set i (some q.2)):=by
 unfold Zw3
 generalize δ[i]? =o
 rcases o with _|_|t
 ·rfl
 ·rfl
 ·show(a δ).bind _=(a δ).bind _
  cases a δ with
  | none=>rfl
  | some p=>
   show(λo:Option (Option OT)=>(match o with|some (some t)=>(F t (OT.datas p.1)).bind λq=>some (q.1,p.2.set i (some q.2))|_=>none)) p.2[i]? =atO p.2[i]? _
   generalize p.2[i]? =o
   rcases o with _|_|t<;>rfl
theorem Z1h(g:List Xa->Option Xa)(a:FA)(δ:Zi):Zal g a δ=(a δ).bind λp=>(g (OT.datas p.1)).bind λd=>some (.fz d,p.2):=rfl
theorem Zw0(g:List Xa->Option OT)(a:FA)(δ:Zi):fBl g a δ=(a δ).bind λp=>(g (OT.datas p.1)).bind λd=>some (d,p.2):=rfl
theorem Zz9(T:String)(e:FE)(δ:Zi):Zjc T e δ=(e δ).bind λp=>if Zjn p.1.data=true then none else some (.fz (.bool (Zqs T p.1.data)),p.2):=rfl
theorem Yd5(δ:Zi):oN δ=some (none,δ):=rfl
noncomputable def asInt{α:Type}(d:Xa)(k:Int->Option α):Option α:=match d with| .int i=>k i|_=>none
theorem Zn3{α:Type}(i:Int)(k:Int->Option α):asInt (.int i) k=k i:=rfl
noncomputable def Zt2{α:Type}(d:Xa)(k:List Xa->Option α):Option α:=match d with| .list i=>k i|_=>none
theorem Ztd{α:Type}(i:List Xa)(k:List Xa->Option α):Zt2 (.list i) k=k i:=rfl
noncomputable def Zx0{α:Type}(d:Xa)(k:List Xa->Option α):Option α:=match d with| .tuple i=>k i|_=>none
theorem Z8q{α:Type}(i:List Xa)(k:List Xa->Option α):Zx0 (.tuple i) k=k i:=rfl
theorem Ya5(e:FE)(δ:Zi):oI e δ=(e δ).bind λp=>asInt p.1.data λi=>some (some i,p.2):=by
 unfold oI asInt
 cases e δ with
 | none=>rfl
 | some p=>rfl
theorem Z5r(e:FE)(lo hi:FO)(δ:Zi):fSl e lo hi δ=(e δ).bind λp=>(lo p.2).bind λq=>(hi q.2).bind λr=>Zt2 p.1.data λds=>some (.nd ((cutD ds q.1 r.1).map OT.fz),r.2):=by
 unfold fSl Zt2;rfl
theorem Z1k(e:FE)(δ:Zi):Zcl e δ=(e δ).bind λp=>Zt2 p.1.data λds=>some (ds,p.2):=by
 unfold Zcl Zt2;rfl
theorem Z40(e:FE)(δ:Zi):iTp e δ=(e δ).bind λp=>Zx0 p.1.data λds=>some (ds,p.2):=by
 unfold iTp Zx0;rfl
noncomputable def as1{α:Type}(ds:List Xa)(k:Int->Option α):Option α:=match ds with|[.int i]=>k i|_=>none
theorem Yap{α:Type}(i:Int)(k:Int->Option α):as1 [.int i] k=k i:=rfl
noncomputable def as2{α:Type}(ds:List Xa)(k:Int->Int->Option α):Option α:=match ds with|[.int i,.int j]=>k i j|_=>none
theorem Ya8{α:Type}(i j:Int)(k:Int->Int->Option α):as2 [.int i,.int j] k=k i j:=rfl
theorem Z2f(a:FA)(δ:Zi):iRa a δ=(a δ).bind λp=>as1 (OT.datas p.1) λj=>if rOk j=true then some (Zje 0 j.toNat,p.2)else none:=by
 unfold iRa as1;rfl
theorem Z54(a:FA)(δ:Zi):iRb a δ=(a δ).bind λp=>as2 (OT.datas p.1) λi j=>if(rOk i&&rOk j)=true then some (Zje i (j-i).toNat,p.2)else none:=by
 unfold iRb as2;rfl
theorem Z8s(a:FA)(δ:Zi):Ycc a δ=(a δ).bind λp=>as1 (OT.datas p.1) λj=>if rOk j=true∧j.toNat≤Xr then some (.nd ((Zje 0 j.toNat).map OT.fz),p.2)else none:=by
 unfold Ycc as1;rfl
theorem Zli(a b:FE)(δ:Zi):Zud a b δ=(a δ).bind λp=>(b p.2).bind λq=>asInt q.1.data λk=>if rOk k=true∧k.toNat≤Xr then some (.nd (Xy k.toNat (.fz p.1.data)),p.2)else none:=by
 unfold Zud asInt;rfl
noncomputable def Z86{α:Type}(ds:List Xa)(k:List Xa->List Xa->Option α):Option α:=match ds with|[.list i,.list j]=>k i j|_=>none
theorem Yc1{α:Type}(i j:List Xa)(k:List Xa->List Xa->Option α):Z86 [.list i,.list j] k=k i j:=rfl
theorem Z7d(a:FA)(δ:Zi):Z4r a δ=(a δ).bind λp=>Z86 (OT.datas p.1) λas bs=>some (Zpj as bs,p.2):=by
 unfold Z4r Z86;rfl
theorem Yde(i:Nat)(d:Xa)(δ:Zi):gNm i d δ=some (δ.set i (some (.fz d))):=rfl
theorem Yay(i:Nat)(d:Xa)(δ:Zi):Yd2 i d δ=if Zce d=true then some (δ.set i (some (.fz d)))else none:=rfl
theorem Ybm(δ:Zi):gNl [] δ=some δ:=rfl
theorem Ycr(g:FG)(gs:FGs)(d:Xa)(r:List Xa)(δ:Zi):gCn g gs (d :: r) δ=(g d δ).bind (gs r):=rfl
theorem Ydb(n:Nat)(gs:FGs)(ds:List Xa)(δ:Zi):gTp n gs (.tuple ds) δ=if ds.length=n then gs ds δ else none:=rfl
theorem Yca(n:Nat)(gs:FGs)(ds:List Xa)(δ:Zi):gLs n gs (.list ds) δ=if ds.length=n then gs ds δ else none:=rfl
noncomputable def RS.thn(r:RS)(g:FS):RS:=match r with| .nx δ=>g δ|r=>r
theorem Zrl(δ:Zi)(g:FS):(RS.nx δ).thn g=g δ:=rfl
theorem Zxo(r:OT)(δ:Zi)(g:FS):(RS.rt r δ).thn g= .rt r δ:=rfl
theorem Yb6(δ:Zi)(g:FS):(RS.bk δ).thn g= .bk δ:=rfl
theorem Ybo(δ:Zi)(g:FS):(RS.ct δ).thn g= .ct δ:=rfl
theorem Yba(c:Str)(δ:Zi)(g:FS):(RS.ex c δ).thn g= .ex c δ:=rfl
theorem Ziy(f g:FS)(δ:Zi):Zz f g δ=(f δ).thn g:=rfl
theorem Yct(δ:Zi):fNx δ= .nx δ:=rfl
theorem Z78(δ:Zi):Ye3 δ= .bk δ:=rfl
theorem Z9h(δ:Zi):Ydo δ= .ct δ:=rfl
theorem Z2h(c:Str)(δ:Zi):Zt8 c δ= .ex c δ:=rfl
theorem Z7w(δ:Zi):Z8m δ= .rt (.fz .none) δ:=rfl
noncomputable def onO{α:Type}(o:Option (α×Zi))(k:α->Zi->RS):RS:=match o with|some (r,δ')=>k r δ'|none=>.bad
theorem J3{α:Type}(r:α)(δ:Zi)(k:α->Zi->RS):onO (some (r,δ)) k=k r δ:=rfl
theorem Zfd(e:FE)(k:OT->Zi->RS)(δ:Zi):wE e k δ=onO (e δ) k:=by
 unfold wE onO
 cases e δ<;>rfl
noncomputable def onF(x:RF)(δ:Zi)(k:OT->Zi->RS):RS:=match x with| .ok r=>k r δ| .exn c=>.ex c δ| .bad=>.bad
theorem Ycs(r:OT)(δ:Zi)(k:OT->Zi->RS):onF (.ok r) δ k=k r δ:=rfl
theorem Ybl(c:Str)(δ:Zi)(k:OT->Zi->RS):onF (.exn c) δ k= .ex c δ:=rfl
theorem Ydk(F:FD)(a:FA)(k:OT->Zi->RS)(δ:Zi):wX F a k δ=onO (a δ) λrs δ1=>onF (F (OT.datas rs)) δ1 k:=by
 unfold wX onO onF
 cases a δ with
 | none=>rfl
 | some p=>rfl
theorem Zqx(t:FT)(u w:FS)(δ:Zi):Jc t u w δ=onO (t δ) λb δ'=>if b=true then u δ' else w δ':=by
 unfold Jc onO
 cases t δ<;>rfl
theorem Z01(it:FI)(g:FG)(u:FS)(δ:Zi):Zco it g u δ=onO (it δ) λds δ1=>forLoop g u ds δ1:=by
 unfold Zco onO
 cases it δ<;>rfl
theorem Z64(r:OT)(δ:Zi):Z90 r δ= .nx δ:=rfl
theorem Zz1(r:OT)(δ:Zi):Yr r δ= .rt r δ:=rfl
theorem Z7q(r:OT)(δ:Zi):Z8e r δ=if Zce r.data=true then .rt (.fz r.data) δ else .bad:=rfl
theorem Zz8(i:Nat)(r:OT)(δ:Zi):Wb i r δ= .nx (δ.set i (some (.fz r.data))):=rfl
theorem Z7e(i:Nat)(r:OT)(δ:Zi):Z95 i r δ=if Zce r.data=true then .nx (δ.set i (some (.fz r.data)))else .bad:=rfl
theorem Zvr(i:Nat)(r:OT)(δ:Zi):Ze7 i r δ= .nx (δ.set i (some r)):=rfl
noncomputable def onD(o:Option Zi):RS:=match o with|some δ=>.nx δ|none=>.bad
theorem Z7h(δ:Zi):onD (some δ)= .nx δ:=rfl
theorem Z9z(g:FG)(r:OT)(δ:Zi):Z2i g r δ=onD (g r.data δ):=rfl
noncomputable def onT(o:Option (Option OT))(k:OT->RS):RS:=match o with|some (some t)=>k t|_=>.bad
theorem Z4d(t:OT)(k:OT->RS):onT (some (some t)) k=k t:=rfl
theorem Zvf(i:Nat)(δ:Zi):Ziq i δ=onT δ[i]? λt=>.rt t (δ.set i none):=rfl
theorem Zp7(i:Nat)(u:FS)(δ:Zi):Zc4 i u δ=onT δ[i]? λt=>u (δ.set i (some (.fz t.data))):=rfl
noncomputable def onN(o:Option (Option OT))(k:List OT->RS):RS:=match o with|some (some (.nd ts))=>k ts|_=>.bad
theorem Z2x(t:List OT)(k:List OT->RS):onN (some (some (.nd t))) k=k t:=rfl
theorem Zql(i:Nat)(e:FE)(δ:Zi):Jz i e δ=onN δ[i]? λ_=>onO (e δ) λr δ1=>onN δ1[i]? λts=>if ts.length<Xr then .nx (δ1.set i (some (.nd (ts ++ [.fz r.data]))))else .bad:=by
 unfold Jz
 generalize δ[i]? =o
 rcases o with _|_|(_|_|_|_)
 ·rfl
 ·rfl
 ·rfl
 ·show wE e _ δ=onO (e δ) _
  rw[Zfd]
  congr 1
 ·rfl
 ·rfl
theorem Z0h(i:Nat)(e:FE)(δ:Zi):Zoo i e δ=onN δ[i]? λ_=>onO (e δ) λr δ1=>onN δ1[i]? λts=>if ts.length<Xr then .nx (δ1.set i (some (.nd (ts ++ [r]))))else .bad:=by
 unfold Zoo
 generalize δ[i]? =o
 rcases o with _|_|(_|_|_|_)
 ·rfl
 ·rfl
 ·rfl
 ·show wE e _ δ=onO (e δ) _
  rw[Zfd]
  congr 1
 ·rfl
 ·rfl
noncomputable def onI(d:Xa)(k:Int->RS):RS:=match d with| .int i=>k i|_=>.bad
theorem Ye5(i:Int)(k:Int->RS):onI (.int i) k=k i:=rfl
noncomputable def onX(o:Option Nat)(k:Nat->RS):RS:=match o with|some i=>k i|_=>.bad
theorem Ye2(i:Nat)(k:Nat->RS):onX (some i) k=k i:=rfl
theorem Z76(i:Nat)(e j:FE)(δ:Zi):Ybt i e j δ=onO (e δ) λr δ1=>onN δ1[i]? λts=>onO (j δ1) λn _=>onI n.data λk=>onX (ixN ts.length k) λj=>.nx (δ1.set i (some (.nd (ts.set j (.fz r.data))))):=by
 unfold Ybt
 rw[Zfd]
 congr 1
 funext r δ1
 generalize δ1[i]? =o
 rcases o with _|_|(_|_|_|_)
 ·rfl
 ·rfl
 ·rfl
 ·show wE j _ δ1=onO (j δ1) _
  rw[Zfd]
  congr 1
  funext n δ2
  generalize n.data=d
  cases d<;>try rfl
  show(match ixN _ _ with|some j=>_|none=>_)=onX (ixN _ _) _
  generalize ixN _ _=x
  cases x<;>rfl
 ·rfl
 ·rfl
noncomputable def onU(o:Option OT)(k:List OT->RS):RS:=match o with|some (.nd ts)=>k ts|_=>.bad
theorem Ydn(t:List OT)(k:List OT->RS):onU (some (.nd t)) k=k t:=rfl
noncomputable def onP(o:Option (Option OT))(k:List OT->RS):RS:=match o with|some (some (.tp ts))=>k ts|_=>.bad
theorem Yer(t:List OT)(k:List OT->RS):onP (some (some (.tp t))) k=k t:=rfl
theorem Z4b(i c:Nat)(e:FE)(δ:Zi):Zw8 i c e δ=onP δ[i]? λts=>onU ts[c]? λus=>onO (e δ) λr _=>if us.length<Xr then .nx (δ.set i (some (.tp (ts.set c (.nd (us ++ [.fz r.data]))))))else .bad:=by
 unfold Zw8
 generalize δ[i]? =o
 rcases o with _|_|(_|_|ts|_)
 ·rfl
 ·rfl
 ·rfl
 ·rfl
 ·show(match ts[c]? with|some (.nd us)=>wE e _ δ|_=>_)=onU ts[c]? _
  generalize ts[c]? =o
  rcases o with _|(_|_|_|_)
  ·rfl
  ·rfl
  ·show wE e _ δ=onO (e δ) _
   rw[Zfd]
  ·rfl
  ·rfl
 ·rfl
noncomputable def on2(ds:List Xa)(k:Xa->Xa->RS):RS:=match ds with|[d,e]=>k d e|_=>.bad
theorem Yd4(d e:Xa)(k:Xa->Xa->RS):on2 [d,e] k=k d e:=rfl
theorem Z9o(i j:Nat)(a:FA)(δ:Zi):Ybs i j a δ=onO (a δ) λrs δ1=>on2 (OT.datas rs) λd e=>.nx ((δ1.set i (some (.fz d))).set j (some (.fz e))):=by
 unfold Ybs onO on2
 cases a δ<;>rfl
theorem Zlj{np n:Nat}{S:FS}{ds:List Xa}(h:ds.length=np):Zan np n S ds=(S (Zfs n ds)).told:=by
 unfold Zan;rw[if_pos h]
theorem Z87(δ:Zi):(RS.nx δ).told= .ok (.fz .none):=rfl
theorem Zy7(r:OT)(δ:Zi):(RS.rt r δ).told= .ok r:=rfl
theorem Z9e(c:Str)(δ:Zi):(RS.ex c δ).told= .exn c:=rfl
theorem Ycp(i j:Int):Zaq (.int i) (.int j)=some (.int (i+j)):=rfl
theorem Yem(i j:Int):gSb (.int i) (.int j)=some (.int (i-j)):=rfl
theorem Ydl(i j:Int):gLt (.int i) (.int j)=some (.bool (decide (i<j))):=rfl
theorem Ydq(i j:Int):gLe (.int i) (.int j)=some (.bool (decide (i≤j))):=rfl
theorem Yax(i j:Int):gGt (.int i) (.int j)=some (.bool (decide (j<i))):=rfl
theorem Z94(i j:Int):gGe (.int i) (.int j)=some (.bool (decide (j≤i))):=rfl
theorem Zir{i j:Int}(h:Zze i j=true):Ze8 (.int i) (.int j)=some (.int (i*j)):=by
 unfold Ze8 i2c;dsimp only;rw[if_pos h]
theorem Ziw{i j:Int}(h:Z2y i j=true):J6 (.int i) (.int j)=some (.int (i.fdiv j)):=by
 unfold J6 i2c;dsimp only;rw[if_pos h]
theorem Z6f{i j:Int}(h:j≠0):Je (.int i) (.int j)=some (.int (i.fmod j)):=by
 unfold Je i2c Yce;dsimp only;rw[if_pos (decide_eq_true h)]
theorem Zic{m n:Nat}{x y:Int}(h:Bt m x)(k:Bt n y)(hmn:m+n≤100000000:=by decide):Zze x y=true:=Zhi.mpr (h.mulOk k hmn)
theorem Z3e{x y:Int}(h:x.natAbs<2^64):Zze x y=true:=Zhi.mpr (.of_left (intBits_le_64 (by omega) (by omega)))
theorem Z29{x y:Int}(h:y.natAbs<2^64):Zze x y=true:=Zhi.mpr (.of_right (intBits_le_64 (by omega) (by omega)))
theorem Zh9{n:Nat}{i j:Int}(h0:j≠0)(h:Bt n j)(hn:n≤9000:=by decide):Z2y i j=true:=by
 obtain⟨h1,h2⟩:=DivOk.of (i:=i) h0 h hn
 unfold Z2y
 rw[decide_eq_true h1,decide_eq_true h2];rfl
theorem Ya1(i j:Int):gEq (.int i) (.int j)=some (.bool (decide (i=j))):=by
 show some (PyData.bool (i==j))=_
 rw[show(i==j)=decide (i=j)from rfl]
theorem Z9p(i j:Int):gNe (.int i) (.int j)=some (.bool (!decide (i=j))):=by
 show some (PyData.bool (!(i==j)))=_
 rw[show(i==j)=decide (i=j)from rfl]
theorem Ydp(d:Xa):gIs d .none=some (.bool (Zlf d)):=rfl
theorem Z7f(d:Xa):Z6u d .none=some (.bool (!Zlf d)):=rfl
theorem Zi7(ds:List Xa)(i:Int):gIx (.list ds) (.int i)=(atI ds i).bind λx=>some (.fz x):=rfl
theorem Yd0(ds:List Xa)(i:Int):gIx (.tuple ds) (.int i)=(atI ds i).bind λx=>some (.fz x):=rfl
theorem Z5i(ds:List Xa):Zcp [.list ds]=some (.int ds.length):=rfl
theorem Zlq(ds:List Xa):Zcp [.tuple ds]=some (.int ds.length):=rfl
theorem Zrf(i:Int):Z1u [.int i]=some (.int (i.natAbs:Int)):=by
 show some (Xl (if i<0 then -i else i))=_
 congr 2;split<;>omega
theorem Z10(i j:Int):Z2s [.int i,.int j]=some (.int (if j>i then j else i)):=rfl
theorem Zxn(i j:Int):Z1n [.int i,.int j]=some (.int (if j<i then j else i)):=rfl
theorem Yc4(i:Int):Z1l [.int i]=some (.int i):=rfl
theorem Ybz(b:Bool):Z1l [.bool b]=some (.int (if b then 1 else 0)):=rfl
theorem Zne(ds:List Xa):Zlm [.list ds]=some (.nd (ds.map OT.fz)):=rfl
theorem Z96(ds:List Xa):Zlm [.tuple ds]=some (.nd (ds.map OT.fz)):=rfl
theorem Z2z{ds es:List Xa}(h:ds.length+es.length≤Xr):Zbx (.list ds) (.list es)=some (.nd ((ds ++ es).map OT.fz)):=by
 unfold Zbx;dsimp only;rw[if_pos h]
theorem Z2m(i:Int):Zp4 (.int i)=some (.int (-i)):=rfl
theorem Yb4(b:Bool):Yat (.bool b)=some (.bool (!b)):=rfl
theorem Ybc(b:Bool):Zuj (.bool b)=some b:=rfl
theorem Ydd(i:Int):Zuj (.int i)=some (i !=0):=rfl
theorem Ybq:Zuj .none=some false:=rfl
theorem Yc9(ds:List Xa):Zuj (.list ds)=some (!ds.isEmpty):=rfl
theorem Zvd{n:Nat}{d:Xa}(h:Sh n d)(hp:Yq d=true)(hn:n≤60):gNe d d=some (.bool false):=by
 have s:Bc d=true:=(h.shp (by omega)).ok
 unfold gNe
 rw[if_pos (by rw[s];rfl),Zk0 hp];rfl
theorem Zpg{gg:FG}{u:FS}{ds:List Xa}{δ:Zi}(I:Nat->Zi->Prop)(h0:I 0 δ)
  (turn:∀(i:Nat) (d:Xa) (δ:Zi),ds[i]? =some d->I i δ->∃δ1 δ2,gg d δ=some δ1∧(u δ1= .nx δ2∨u δ1= .ct δ2)∧I (i+1) δ2):∃δ',forLoop gg u ds δ= .nx δ'∧I ds.length δ':=by
 induction ds generalizing δ I with
 | nil=>exact⟨δ,rfl,h0⟩
 | cons d ds ih=>
  obtain⟨δ1,δ2,e1,e2,h1⟩:=turn 0 d δ rfl h0
  obtain⟨δ',e3,h3⟩:=ih (δ:=δ2) (λi δ=>I (i+1) δ) h1 λi d' δ hd hi=>turn (i+1) d' δ (by simpa using hd) hi
  refine⟨δ',?_,h3⟩
  rw[Zg1,e1]
  dsimp only
  rcases e2 with e2|e2<;>rw[e2]<;>exact e3
noncomputable def Goes(r:RS)(Q:Zi->Prop):Prop:=∃δ,(r= .nx δ∨r= .ct δ)∧Q δ
theorem Goes.nx{δ:Zi}{Q:Zi->Prop}(h:Q δ):Goes (.nx δ) Q:=⟨δ,.inl rfl,h⟩
theorem Goes.ct{δ:Zi}{Q:Zi->Prop}(h:Q δ):Goes (.ct δ) Q:=⟨δ,.inr rfl,h⟩
theorem Ztt{α:Type}{me:FE}{cs:Zi}(mk:α->Xa)(f:α->OT):∀(xs:List α) (z:Option OT),(∀x∈xs,me (some (.fz (mk x)) :: cs)=some (f x,some (.fz (mk x)) :: cs)) ->
  ∃z',compLoop (gNm 0) Zen me (xs.map mk) (z :: cs)=some (xs.map f,z' :: cs)
 | [],z,_=>⟨z,rfl⟩
 | x :: xs,z,h=>by
  obtain⟨z',e⟩:=Ztt mk f xs (some (.fz (mk x))) λy hy=>h y (.tail _ hy)
  refine⟨z',?_⟩
  rw[Ql,compLoop]
  show(some (some (OT.fz (mk x)) :: cs)).bind _=_
  rw[Xe]
  show(some (true,some (OT.fz (mk x)) :: cs)).bind _=_
  rw[Xe,if_pos rfl,h x (.head _),Xe,e];rfl
theorem Zo8{α:Type}{t:FT}{me:FE}{cs:Zi}(mk:α->Xa)(p:α->Bool)(f:α->OT):∀(xs:List α) (z:Option OT),(∀x∈xs,t (some (.fz (mk x)) :: cs)=some (p x,some (.fz (mk x)) :: cs))->(∀x∈xs,p x=true->me (some (.fz (mk x)) :: cs)=some (f x,some (.fz (mk x)) :: cs)) ->
  ∃z',compLoop (gNm 0) t me (xs.map mk) (z :: cs)=some ((xs.filter p).map f,z' :: cs)
 | [],z,_,_=>⟨z,rfl⟩
 | x :: xs,z,ht,h=>by
  obtain⟨z',e⟩:=Zo8 mk p f xs (some (.fz (mk x))) (λy hy=>ht y (.tail _ hy)) λy hy=>h y (.tail _ hy)
  refine⟨z',?_⟩
  rw[Ql,compLoop]
  show(some (some (OT.fz (mk x)) :: cs)).bind _=_
  rw[Xe,ht x (.head _),Xe]
  dsimp only
  by_cases hp:p x=true
  ·rw[if_pos hp,h x (.head _) hp,Xe,e,List.filter_cons_of_pos hp];rfl
  ·rw[if_neg hp,e,List.filter_cons_of_neg hp]
theorem Zhk{α:Type}{caps:List Nat}{it:FI}{me:FE}{cs δ δ1:Zi}(xs:List α)(mk:α->Xa)(f:α->OT)(hi:it δ=some (xs.map mk,δ1))(hz:xs.length≤Xr)(hb:blk 1 caps δ1=none :: cs)
  (h:∀x∈xs,me (some (.fz (mk x)) :: cs)=some (f x,some (.fz (mk x)) :: cs)):Yk 1 caps it (gNm 0) Zen me δ=some (.nd (xs.map f),δ1):=by
 unfold Yk
 rw[hi,Xe]
 dsimp only
 rw[if_pos (by rw[Xg];exact hz),hb]
 obtain⟨z',e⟩:=Ztt (me:=me) (cs:=cs) mk f xs none h
 rw[e];rfl
theorem Zmc{α:Type}{caps:List Nat}{it:FI}{t:FT}{me:FE}{cs δ δ1:Zi}(xs:List α)(mk:α->Xa)(p:α->Bool)(f:α->OT)(hi:it δ=some (xs.map mk,δ1))(hz:xs.length≤Xr)(hb:blk 1 caps δ1=none :: cs)
  (ht:∀x∈xs,t (some (.fz (mk x)) :: cs)=some (p x,some (.fz (mk x)) :: cs)) (h:∀x∈xs,p x=true->me (some (.fz (mk x)) :: cs)=some (f x,some (.fz (mk x)) :: cs)):Yk 1 caps it (gNm 0) t me δ=some (.nd ((xs.filter p).map f),δ1):=by
 unfold Yk
 rw[hi,Xe]
 dsimp only
 rw[if_pos (by rw[Xg];exact hz),hb]
 obtain⟨z',e⟩:=Zo8 (t:=t) (me:=me) (cs:=cs) mk p f xs none ht h
 rw[e];rfl
theorem Ydm:(2≤Xr)=True:=by simp[Qc]
theorem Yes:(1≤Xr)=True:=by simp[Qc]
theorem Yed:(0≤Xr)=True:=by simp
theorem Yah:(3≤Xr)=True:=by simp[Qc]
theorem Zps{α:Type}(f:α->Xa)(xs:List α):(xs.map λx=>OT.fz (f x)).map OT.data=xs.map f:=by
 rw[Qx];exact Xz λx _=>OT.data_fz _
theorem Zyk{α:Type}{j:Int}{x:α}(h0:0≤j)(h1:j≤1000000):(if rOk j=true then some x else none)=some x:=if_pos (Zib (by omega) h1)
theorem Zy6{α:Type}{i j:Int}{x:α}(h0:0≤i)(h1:i≤1000000)(h2:0≤j)(h3:j≤1000000):(if(rOk i&&rOk j)=true then some x else none)=some x:=if_pos (by rw[Zib (by omega) h1,Zib (by omega) h3];rfl)
theorem Z3x{r:RS}{k:Nat}(h:k≤1000000):(if k<Xr then r else .bad)=r:=if_pos (by rw[Qc];omega)
noncomputable def EvV(e:FE)(δ:Zi)(d:Xa):Prop:=∃t,e δ=some (t,δ)∧t.data=d
noncomputable def EvA(a:FA)(δ:Zi)(ds:List Xa):Prop:=∃ts,a δ=some (ts,δ)∧OT.datas ts=ds
noncomputable def EvT(t:FT)(δ:Zi)(b:Bool):Prop:=t δ=some (b,δ)
noncomputable def Told(F:FD)(ds:List Xa)(d:Xa):Prop:=∃t,F ds= .ok t∧t.data=d
section
variable {e a b:FE}{as:FA}{δ δ':Zi}{x y d:Xa}{xs ds:List Xa}{i j:Nat}{p q:Bool}{t u:FT}{S S':FS}{r:RS}
theorem EvV.cast{e:FE}{δ:Zi}{x y:Xa}(h:EvV e δ x)(k:x=y):EvV e δ y:=k▸h
theorem Za(h:δ[i]? =some (some (.fz d)):=by rfl):EvV (Zd i) δ d:=⟨_,by rw[Zzn,h,Zx7],OT.data_fz _⟩
theorem Ztr{t:OT}(h:δ[i]? =some (some t))(hd:t.data=d):EvV (Zn0 i) δ d:=⟨_,by rw[Z1a,h,Zz0],by rw[OT.data_fz,hd]⟩
theorem Zr:EvV (fC d) δ d:=⟨_,rfl,OT.data_fz _⟩
theorem Zx{g:Xa->Xa->Option Xa}(ha:EvV a δ x)(hb:EvV b δ y)(h:g x y=some d):EvV (Ze g a b) δ d:=by
 obtain⟨_,e1,d1⟩:=ha
 obtain⟨_,e2,d2⟩:=hb
 exact⟨_,by rw[Zv4,e1,Xe,e2,Xe,d1,d2,h,Xe],OT.data_fz _⟩
theorem Zxp{g:Xa->Xa->Option OT}{o:OT}(ha:EvV a δ x)(hb:EvV b δ y)(h:g x y=some o)(hd:o.data=d):EvV (Zq g a b) δ d:=by
 obtain⟨_,e1,d1⟩:=ha
 obtain⟨_,e2,d2⟩:=hb
 exact⟨_,by rw[Zt3,e1,Xe,e2,Xe,d1,d2,h,Xe],hd⟩
theorem Z0(ha:EvV a δ x)(hb:EvV b δ y)(h:gIx x y=some (.fz d)):EvV (Zq gIx a b) δ d:=Zxp ha hb h (OT.data_fz _)
theorem Wj{i j:Int}(ha:EvV a δ (.int i))(hb:EvV b δ (.int j)):EvV (Ze Zaq a b) δ (.int (i+j)):=Zx ha hb rfl
theorem Zfi{i j:Int}(ha:EvV a δ (.int i))(hb:EvV b δ (.int j)):EvV (Ze gSb a b) δ (.int (i-j)):=Zx ha hb rfl
theorem Z9f{g:Xa->Option Xa}(ha:EvV a δ x)(h:g x=some d):EvV (fUn g a) δ d:=by
 obtain⟨_,e1,d1⟩:=ha
 exact⟨_,by rw[Z6a,e1,Xe,d1,h,Xe],OT.data_fz _⟩
theorem Zbt(ha:EvV a δ (.bool true))(hb:EvV b δ d):EvV (Zk3 a b) δ d:=by
 obtain⟨_,e1,d1⟩:=ha
 obtain⟨_,e2,d2⟩:=hb
 exact⟨_,by rw[Zsy,e1,Xe,d1,Z79,e2],d2⟩
theorem Zhq(ha:EvV a δ (.bool false)):EvV (Zk3 a b) δ (.bool false):=by
 obtain⟨_,e1,d1⟩:=ha
 exact⟨_,by rw[Zsy,e1,Xe,d1,Z8h],OT.data_fz _⟩
theorem Z4c{T:String}(ha:EvV a δ x)(hf:Zjn x=false:=by rfl):EvV (Zjc T a) δ (.bool (Zqs T x)):=by
 obtain⟨_,e1,d1⟩:=ha
 exact⟨_,by rw[Zz9,e1,Xe,d1,if_neg (by rw[hf];decide)],OT.data_fz _⟩
theorem Zk:EvA Zo δ []:=⟨_,rfl,Zij⟩
theorem Zb(h:EvV e δ d)(k:EvA as δ ds):EvA (Zc e as) δ (d :: ds):=by
 obtain⟨_,e1,d1⟩:=h
 obtain⟨_,e2,d2⟩:=k
 exact⟨_,by rw[Zk2,e1,Xe,e2,Xe],by rw[Zgd,d1,d2]⟩
theorem Zu{F:FD}(h:EvA as δ ds)(k:Told F ds d):EvV (Zw F as) δ d:=by
 obtain⟨_,e1,d1⟩:=h
 obtain⟨_,e2,d2⟩:=k
 exact⟨_,by rw[Zkq,e1,Xe,d1,e2,Z6j],d2⟩
theorem Zbc{g:List Xa->Option Xa}(h:EvA as δ ds)(k:g ds=some d):EvV (Zal g as) δ d:=by
 obtain⟨_,e1,d1⟩:=h
 exact⟨_,by rw[Z1h,e1,Xe,d1,k,Xe],OT.data_fz _⟩
theorem Zra{g:List Xa->Option OT}{o:OT}(h:EvA as δ ds)(k:g ds=some o)(hd:o.data=d):EvV (fBl g as) δ d:=by
 obtain⟨_,e1,d1⟩:=h
 exact⟨_,by rw[Zw0,e1,Xe,d1,k,Xe],hd⟩
theorem Zfn:∀ts:List OT,(OT.datas ts).length=ts.length
 | []=>by rw[Zij];rfl
 | t :: ts=>by rw[Zgd,Ba,Ba,Zfn ts]
theorem datas_map:∀ts:List OT,OT.datas ts=ts.map OT.data
 | []=>Zij
 | t :: ts=>by rw[Zgd,Ql,datas_map ts]
theorem Zaa(h:EvA as δ ds)(hl:ds.length≤1000):EvV (Zc2 as) δ (.tuple ds):=by
 obtain⟨ts,e1,d1⟩:=h
 have:=Zfn ts
 rw[d1]at this
 exact⟨_,by rw[Zri,e1,Xe,if_pos (by rw[Qc];show ts.length≤_;omega)],by rw[OT.data_fz];exact congrArg _ d1⟩
theorem Jp(h:EvA as δ ds)(hl:ds.length≤1000):EvV (Zav as) δ (.list ds):=by
 obtain⟨ts,e1,d1⟩:=h
 have:=Zfn ts
 rw[d1]at this
 exact⟨_,by rw[Zqt,e1,Xe,if_pos (by rw[Qc];show ts.length≤_;omega)],by rw[OT.data_nd,←datas_map,d1]⟩
theorem Zmd{o:OT}{b:Bool}(h:o.data= .bool b):o= .fz (.bool b):=by
 cases o with
 | fz d=>rw[OT.data_fz]at h;rw[h]
 | nd ts=>rw[OT.data_nd]at h;cases h
 | tp ts=>rw[OT.data_tp]at h;cases h
 | dc _ _ _=>rw[OT.data_dc]at h;cases h
theorem Zay(h:EvV e δ (.bool p)):EvT (tV e) δ p:=by
 obtain⟨_,e1,d1⟩:=h
 unfold EvT
 rw[Z9r,e1,Xe,Zmd d1,Z6n]
theorem Ye4(h:EvV e δ d)(k:Zuj d=some p):EvT (tD e) δ p:=by
 obtain⟨_,e1,d1⟩:=h
 unfold EvT
 rw[Yab,e1,Xe,d1,k,Xe]
theorem Zbd(h:EvV e δ (.bool p)):EvT (tD e) δ p:=Ye4 h rfl
theorem Zb1(h:EvT t δ p):EvT (tNo t) δ (!p):=by
 unfold EvT at h⊢
 rw[Z4w,h,Xe]
theorem Z8l(h:EvT t δ true)(k:EvT u δ p):EvT (tAn t u) δ p:=by
 unfold EvT at h k⊢
 rw[Zxb,h,Xe,if_pos rfl,k]
theorem Zsv(h:EvT t δ false):EvT (tAn t u) δ false:=by
 unfold EvT at h⊢
 rw[Zxb,h,Xe,if_neg XF]
theorem Zll(h:EvT t δ false)(k:EvT u δ p):EvT (tO t u) δ p:=by
 unfold EvT at h k⊢
 rw[Z34,h,Xe,if_neg XF,k]
theorem Z5w(h:EvT t δ true):EvT (tO t u) δ true:=by
 unfold EvT at h⊢
 rw[Z34,h,Xe,if_pos rfl]
theorem W9(h:S δ= .nx δ')(k:S' δ'=r):Zz S S' δ=r:=by rw[Ziy,h,Zrl,k]
theorem Zrk{o:OT}(h:S δ= .rt o δ'):Zz S S' δ= .rt o δ':=by rw[Ziy,h,Zxo]
theorem Zy(h:EvV e δ d):wE e (Wb i) δ= .nx (δ.set i (some (.fz d))):=by
 obtain⟨_,e1,d1⟩:=h
 rw[Zfd,e1,J3,Zz8,d1]
theorem Z3m(h:EvV e δ d):∃o,wE e Yr δ= .rt o δ∧o.data=d:=by
 obtain⟨_,e1,d1⟩:=h
 exact⟨_,by rw[Zfd,e1,J3,Zz1],d1⟩
theorem Zgg(h:EvT t δ true)(k:S δ=r):Jc t S S' δ=r:=by
 unfold EvT at h
 rw[Zqx,h,J3,if_pos rfl,k]
theorem Y4(h:EvT t δ false)(k:S' δ=r):Jc t S S' δ=r:=by
 unfold EvT at h
 rw[Zqx,h,J3,if_neg (by decide),k]
noncomputable def Znz(S:FS)(δ:Zi)(d:Xa):Prop:=∃o δ',S δ= .rt o δ'∧o.data=d
theorem Y0(h:S δ= .nx δ')(k:Znz S' δ' d):Znz (Zz S S') δ d:=by
 obtain⟨o,δ2,e,hd⟩:=k
 exact⟨o,δ2,W9 h e,hd⟩
theorem Zbk(k:Znz S δ d):Znz (Zz S S') δ d:=by
 obtain⟨o,δ2,e,hd⟩:=k
 exact⟨o,δ2,Zrk e,hd⟩
theorem Yz(h:EvV e δ d):Znz (wE e Yr) δ d:=by
 obtain⟨o,e1,hd⟩:=Z3m h
 exact⟨o,δ,e1,hd⟩
theorem Zd4(h:EvT t δ true)(k:Znz S δ d):Znz (Jc t S S') δ d:=by
 obtain⟨o,δ2,e,hd⟩:=k
 exact⟨o,δ2,Zgg h e,hd⟩
theorem Yb{np n:Nat}(hl:xs.length=np)(k:Znz S (Zfs n xs) d):Told (Zan np n S) xs d:=by
 obtain⟨o,δ2,e,hd⟩:=k
 exact⟨o,by rw[Zlj hl,e,Zy7],hd⟩
noncomputable def EvO(o:FO)(δ:Zi)(l:Option Int):Prop:=o δ=some (l,δ)
theorem Zmg:EvO oN δ none:=rfl
theorem Zjb{i:Int}(h:EvV e δ (.int i)):EvO (oI e) δ (some i):=by
 obtain⟨_,e1,d1⟩:=h
 unfold EvO
 rw[Ya5,e1,Xe,d1,Zn3]
theorem Zlh{lo hi:FO}{l h:Option Int}(he:EvV e δ (.list ds))(hl:EvO lo δ l)(hh:EvO hi δ h):EvV (fSl e lo hi) δ (.list (cutD ds l h)):=by
 obtain⟨_,e1,d1⟩:=he
 unfold EvO at hl hh
 exact⟨_,by rw[Z5r,e1,Xe,hl,Xe,hh,Xe,d1,Ztd],by rw[OT.data_nd,OT.map_fz]⟩
theorem Zos{es:List Xa}(ha:EvV a δ (.list ds))(hb:EvV b δ (.list es))(h:ds.length+es.length≤1000000):EvV (Zq Zbx a b) δ (.list (ds ++ es)) :=
 Zxp ha hb (Z2z (by rw[Qc];omega)) (by rw[OT.data_nd,OT.map_fz])
noncomputable def EvI(it:FI)(δ:Zi)(ds:List Xa):Prop:=it δ=some (ds,δ)
theorem Jg(h:EvV e δ (.list ds)):EvI (Zcl e) δ ds:=by
 obtain⟨_,e1,d1⟩:=h
 unfold EvI
 rw[Z1k,e1,Xe,d1,Ztd]
theorem Zhe{n:Nat}(h:EvA as δ [.int n])(hn:n≤1000000):EvI (iRa as) δ (Zje 0 n):=by
 obtain⟨_,e1,d1⟩:=h
 unfold EvI
 rw[Z2f,e1,Xe,d1,Yap,Zyk (by omega) (by omega),Qj]
theorem Zox{it:FI}{g:FG}(h:EvI it δ ds)(k:forLoop g S ds δ=r):Zco it g S δ=r:=by
 unfold EvI at h
 rw[Z01,h,J3,k]
theorem Za2{α:Type}{caps:List Nat}{it:FI}{me:FE}{cs:Zi}(xs:List α)(mk f:α->Xa)(hi:EvI it δ (xs.map mk))(hz:xs.length≤1000000)(hb:blk 1 caps δ=none :: cs)(h:∀x∈xs,EvV me (some (.fz (mk x)) :: cs) (f x)):EvV (Yk 1 caps it (gNm 0) Zen me) δ (.list (xs.map f)):=by
 have g:∀x,∃o:OT,x∈xs->me (some (.fz (mk x)) :: cs)=some (o,some (.fz (mk x)) :: cs)∧o.data=f x:=λx=>by
  by_cases c:x∈xs
  ·obtain⟨o,h1,h2⟩:=h x c
   exact⟨o,λ_=>⟨h1,h2⟩⟩
  ·exact⟨.fz .none,λz=>absurd z c⟩
 obtain⟨o,ho⟩:=Classical.axiomOfChoice g
 unfold EvI at hi
 refine⟨_,Zhk (cs:=cs) xs mk o hi (by rw[Qc];omega) hb (λx hx=>(ho x hx).1),?_⟩
 rw[OT.data_nd,Qx]
 exact congrArg _ (Xz λx hx=>(ho x hx).2)
theorem Zm3{ts:List OT}(h:EvV e δ d)(hi:δ[i]? =some (some (.nd ts)))(hl:ts.length≤1000000):Jz i e δ= .nx (δ.set i (some (.nd (ts ++ [.fz d])))):=by
 obtain⟨_,e1,d1⟩:=h
 rw[Zql,hi,Z2x,e1,J3,hi,Z2x,Z3x hl,d1]
theorem Zis{o:OT}(h:e δ=some (o,δ)):wE e (Ze7 i) δ= .nx (δ.set i (some o)):=by rw[Zfd,h,J3,Zvr]
theorem Ybe{o:OT}(h:δ[i]? =some (some o))(hd:o.data=d):Znz (Ziq i) δ d:=⟨o,_,by rw[Zvf,h,Z4d],hd⟩
theorem Zfq{o:OT}(h:δ[i]? =some (some o))(k:S (δ.set i (some (.fz o.data)))=r):Zc4 i S δ=r:=by rw[Zp7,h,Z4d,k]
theorem Told.ok{F:FD}{b:Bool}(h:Told F ds (.bool b)):F ds= .ok (.fz (.bool b)):=by
 obtain⟨o,e1,d1⟩:=h
 rw[e1,Zmd d1]
theorem Zv0{o:OT}{i:Int}(h:o.data= .int i):o= .fz (.int i):=by
 cases o with
 | fz d=>rw[OT.data_fz]at h;rw[h]
 | nd ts=>rw[OT.data_nd]at h;cases h
 | tp ts=>rw[OT.data_tp]at h;cases h
 | dc _ _ _=>rw[OT.data_dc]at h;cases h
theorem Told.int{F:FD}{i:Int}(h:Told F ds (.int i)):F ds= .ok (.fz (.int i)):=by
 obtain⟨o,e1,d1⟩:=h
 rw[e1,Zv0 d1]
theorem Zsi{o:OT}(h:o.data= .none):o= .fz .none:=by
 cases o with
 | fz d=>rw[OT.data_fz]at h;rw[h]
 | nd ts=>rw[OT.data_nd]at h;cases h
 | tp ts=>rw[OT.data_tp]at h;cases h
 | dc _ _ _=>rw[OT.data_dc]at h;cases h
theorem Told.of{F:FD}{o:OT}(h:F ds= .ok o)(hd:o.data=d):Told F ds d:=⟨o,h,hd⟩
end
section
variable {e a b:FE}{as:FA}{δ δ':Zi}{x y d:Xa}{xs ds:List Xa}{i j:Int}{k:Nat}{p q:Bool}{t u:FT}{S S':FS}{r:RS}{Q:Xa->Prop}
theorem Z9(ha:EvV a δ (.int i))(hb:EvV b δ (.int j))(h:j≠0):EvV (Ze Je a b) δ (.int (i.fmod j)):=Zx ha hb (Z6f h)
theorem Z4i{i j:Int}(h:(decide (0<j)&&decide (j<18446744073709551616))=true):J6 (.int i) (.int j)=some (.int (i.fdiv j)):=by
 rw[Xo,decide_eq_true_eq,decide_eq_true_eq]at h
 exact Ziw (Zh9 (n:=64) (by omega) (Bt.of_lt (by omega) (by omega)))
theorem Zf5(ha:EvV a δ (.int i))(hb:EvV b δ (.int j))(h:(decide (0<j)&&decide (j<18446744073709551616))=true:=by decide):EvV (Ze J6 a b) δ (.int (i.fdiv j)):=Zx ha hb (Z4i h)
theorem Zeu(ha:EvV a δ (.int i))(hb:EvV b δ (.int j))(h:i.natAbs<2^64:=by decide):EvV (Ze Ze8 a b) δ (.int (i*j)):=Zx ha hb (Zir (Z3e h))
theorem Znp(ha:EvV a δ (.int i))(hb:EvV b δ (.int j))(h:j.natAbs<2^64:=by decide):EvV (Ze Ze8 a b) δ (.int (i*j)):=Zx ha hb (Zir (Z29 h))
theorem Zjg(ha:EvV a δ (.int i))(hb:EvV b δ (.int j))(h:decide (i<j)=p):EvV (Ze gLt a b) δ (.bool p):=h▸Zx ha hb rfl
theorem Yal(ha:EvV a δ (.int i))(hb:EvV b δ (.int j))(h:decide (i≤j)=p):EvV (Ze gLe a b) δ (.bool p):=h▸Zx ha hb rfl
theorem Zlu(ha:EvV a δ (.int i))(hb:EvV b δ (.int j))(h:decide (j<i)=p):EvV (Ze gGt a b) δ (.bool p):=h▸Zx ha hb (Yax _ _)
theorem Zt6(ha:EvV a δ (.int i))(hb:EvV b δ (.int j))(h:decide (j≤i)=p):EvV (Ze gGe a b) δ (.bool p):=h▸Zx ha hb (Z94 _ _)
theorem Zjm(ha:EvV a δ (.int i))(hb:EvV b δ (.int j))(h:decide (i=j)=p):EvV (Ze gEq a b) δ (.bool p):=h▸Zx ha hb (Ya1 _ _)
theorem Zmt(ha:EvV a δ (.int i))(hb:EvV b δ (.int j))(h:(!decide (i=j))=p):EvV (Ze gNe a b) δ (.bool p):=h▸Zx ha hb (Z9p _ _)
theorem Zg9(ha:EvV a δ (.int i)):EvV (fUn Zp4 a) δ (.int (-i)):=Z9f ha (Z2m _)
theorem Zfx{ds:List Xa}(h:EvV e δ (.list ds)):EvV (Zal Zcp (Zc e Zo)) δ (.int ds.length):=Zbc (Zb h Zk) (Z5i ds)
theorem Z35(ha:EvV a δ (.list ds))(hb:EvV b δ (.int i))(h:atI ds i=some d):EvV (Zq gIx a b) δ d:=Z0 ha hb (by rw[Zi7,h];rfl)
noncomputable def Zk5(S:FS)(δ:Zi)(Q:Xa->Prop):Prop:=∃d,Znz S δ d∧Q d
theorem Js(h:S δ= .nx δ')(k:Zk5 S' δ' Q):Zk5 (Zz S S') δ Q:=k.imp λ_ k=>⟨Y0 h k.1,k.2⟩
theorem Zv7(k:Zk5 S δ Q):Zk5 (Zz S S') δ Q:=k.imp λ_ k=>⟨Zbk k.1,k.2⟩
theorem Zjz(h:EvV e δ d)(k:Q d):Zk5 (wE e Yr) δ Q:=⟨d,Yz h,k⟩
theorem Zzw(h:EvT t δ true)(k:Zk5 S δ Q):Zk5 (Jc t S S') δ Q:=k.imp λ_ k=>⟨Zd4 h k.1,k.2⟩
theorem Ye8{o:OT}(h:δ[k]? =some (some o))(hd:Q o.data):Zk5 (Ziq k) δ Q:=⟨_,Ybe h rfl,hd⟩
theorem Zsj{np n:Nat}(hl:xs.length=np)(h:Zk5 S (Zfs n xs) Q):∃d,Told (Zan np n S) xs d∧Q d:=h.imp λ_ k=>⟨Yb hl k.1,k.2⟩
theorem Zsg{it:FI}{g:FG}(I:Nat->Zi->Prop)(hi:EvI it δ ds)(h0:I 0 δ)(turn:∀(i:Nat) (d:Xa) (δ:Zi),ds[i]? =some d->I i δ->∃δ1 δ2,g d δ=some δ1∧(S δ1= .nx δ2∨S δ1= .ct δ2)∧I (i+1) δ2)(k:∀δ',I ds.length δ'->Zk5 S' δ' Q):Zk5 (Zz (Zco it g S) S') δ Q:=by
 obtain⟨δ',e,h⟩:=Zpg I h0 turn
 exact Js (Zox hi e) (k δ' h)
theorem Zlz{it:FI}{g:FG}(I:Nat->Zi->Prop)(hi:EvI it δ ds)(h0:I 0 δ)(turn:∀(i:Nat) (d:Xa) (δ:Zi),ds[i]? =some d->I i δ->∃δ1 δ2,g d δ=some δ1∧(S δ1= .nx δ2∨S δ1= .ct δ2)∧I (i+1) δ2)(k:∀δ',I ds.length δ'->Znz S' δ' d):Znz (Zz (Zco it g S) S') δ d:=by
 obtain⟨δ',e,h⟩:=Zpg I h0 turn
 exact Y0 (Zox hi e) (k δ' h)
theorem Znq{it:FI}{g:FG}(I:Nat->Zi->Prop)(hi:EvI it δ ds)(h0:I 0 δ)(turn:∀(i:Nat) (d:Xa) (δ:Zi),ds[i]? =some d->I i δ->∃δ1 δ2,g d δ=some δ1∧(S δ1= .nx δ2∨S δ1= .ct δ2)∧I (i+1) δ2):∃δ',Zco it g S δ= .nx δ'∧I ds.length δ':=by
 obtain⟨δ',e,h⟩:=Zpg I h0 turn
 exact⟨δ',Zox hi e,h⟩
theorem Yaw{m n:Nat}(h:EvA as δ [.int m,.int n])(hm:m≤1000000)(hn:n≤1000000):EvI (iRb as) δ (Zje m (n-m)):=by
 obtain⟨_,e1,d1⟩:=h
 unfold EvI
 rw[Z54,e1,Xe,d1,Ya8,Zy6 (by omega) (by omega) (by omega) (by omega),show((n:Int)-(m:Int)).toNat=n-m by omega]
theorem Z8x{m n:Nat}(h:EvA as δ [.int m,.int n,.int (-1)])(hm:m≤1000000)(hn:n≤1000000):EvI (iRc as) δ (Zr2 m (m-n)):=by
 obtain⟨_,e1,d1⟩:=h
 unfold EvI iRc
 rw[e1,Xe,d1]
 show(if(-1:Int)= -1∧rOk m=true∧rOk n=true then some ((m:Int),(n:Int))else none).bind _=_
 rw[if_pos ⟨rfl,Zib (by omega) (by omega),Zib (by omega) (by omega)⟩,Xe,show((m:Int)-(n:Int)).toNat=m-n by omega]
theorem Zpa:wE (Zav Zo) (Ze7 k) δ= .nx (δ.set k (some (.nd []))):=Zis (by rw[Zqt];rfl)
theorem Zer{i:Int}(h:0<j):0≤i.fmod j:=by rw[Zhl h];exact Int.emod_nonneg _ (by omega)
theorem Ze2{i:Int}(h:0<j):i.fmod j<j:=by rw[Zhl h];exact Int.emod_lt_of_pos _ h
theorem Yu(i:Int){n:Nat}(h:0<n):∃m:Nat,i.fmod (n:Int)=m∧m<n:=by
 have h0:=Zer (i:=i) (j:=n) (by omega)
 have h1:=Ze2 (i:=i) (j:=n) (by omega)
 exact⟨(i.fmod n).toNat,by omega,by omega⟩
theorem Zsd{o:OT}(h:δ[k]? =some (some o))(g:Zk5 S (δ.set k (some (.fz o.data))) Q):Zk5 (Zc4 k S) δ Q:=by
 obtain⟨d,⟨o',δ2,e,hd⟩,hq⟩:=g
 exact⟨d,⟨o',δ2,Zfq h e,hd⟩,hq⟩
theorem Z0i{es:List Xa}(h:EvA as δ ds)(hz:Z41 ds=some es):EvI (Zeg as) δ es:=by
 obtain⟨_,e1,d1⟩:=h
 unfold EvI Zeg
 rw[e1,Xe,d1,hz,Xe]
theorem Z3f{n:Nat}(hn:n≤1000000){v:Option OT}:(Zud (fC d) (Zd 1)) [v,some (.fz (.int n))]=some (.nd (Xy n (.fz d)),[v,some (.fz (.int n))]):=by
 obtain⟨_,e1,d1⟩:=Za (δ:=[v,some (.fz (.int n))]) (i:=1) (d:=.int n)
 rw[Zli,Z8u,Xe,e1,Xe,d1,Zn3,if_pos ⟨Zib (by omega) (by omega),by rw[Qc];omega⟩,Qj,OT.data_fz]
theorem Zks{it:FI}{g gg:FG}{δ1:Zi}(I:Nat->Zi->Prop){J:Zi->Prop}(hg:gg d δ=some δ1)(hi:EvI it δ1 ds)(h0:I 0 δ1)(turn:∀(i:Nat) (d:Xa) (δ:Zi),ds[i]? =some d->I i δ->∃δ1 δ2,g d δ=some δ1∧(S δ1= .nx δ2∨S δ1= .ct δ2)∧I (i+1) δ2)(hJ:∀δ',I ds.length δ'->J δ'):∃δ1 δ2,gg d δ=some δ1∧(Zco it g S δ1= .nx δ2∨Zco it g S δ1= .ct δ2)∧J δ2:=by
 obtain⟨δ',e,h⟩:=Zpg I h0 turn
 exact⟨δ1,δ',hg,.inl (Zox hi e),hJ δ' h⟩
theorem Za4{T:String}(ha:EvV a δ x)(h:Zqs T x=p)(hf:Zjn x=false:=by rfl):EvV (Zjc T a) δ (.bool p):=(Z4c ha hf).cast (by rw[h])
theorem Zn6{a b:FE}{bs es:List Xa}{as:List Xa}(ha:EvV a δ (.list as))(hb:EvV b δ (.list bs))(hz:Zpj as bs=es):EvI (Zeg (Zc a (Zc b Zo))) δ es:=Z0i (Zb ha (Zb hb Zk)) (congrArg some hz)
theorem Zhr{α:Type}{caps:List Nat}{it:FI}{me:FE}{t:FT}{cs:Zi}(xs:List α)(mk:α->Xa)(pr:α->Bool)(hi:EvI it δ (xs.map mk))(hz:xs.length≤1000000)(hb:blk 1 caps δ=none :: cs)(ht:∀x∈xs,EvT t (some (.fz (mk x)) :: cs) (pr x))(h:∀x∈xs,pr x=true->me (some (.fz (mk x)) :: cs)=some (.fz (mk x),some (.fz (mk x)) :: cs)):EvV (Yk 1 caps it (gNm 0) t me) δ (.list ((xs.filter pr).map mk)):=by
 unfold EvI at hi
 refine⟨_,Zmc (cs:=cs) xs mk pr (λx=>.fz (mk x)) hi (by rw[Qc];omega) hb (λx hx=>ht x hx) h,?_⟩
 rw[OT.data_nd,Qx]
 exact congrArg _ (Xz λx _=>OT.data_fz _)
theorem Told.none{F:FD}(h:Told F ds .none):F ds= .ok (.fz .none):=by
 obtain⟨o,e1,d1⟩:=h
 rw[e1,Zsi d1]
end
end L2
namespace My
open PySem L2 PySem.Spec
noncomputable def J0:FS :=
 (Zz (wE (Zal Z1u (Zc (Zd 0) Zo)) (Wb 0))
  (Zz (wE (Zal Z1u (Zc (Zd 1) Zo)) (Wb 1))
  (Zz (Zkc (tV (Ze gNe (Zd 1) (fC (.int 0)))) (Zz (wE (Ze Je (Zd 0) (Zd 1)) (Wb 2))
  (Zz (wE (Zd 1) (Wb 0))
  (wE (Zd 2) (Wb 1)))))
  (wE (Zd 0) Yr))))
noncomputable def Z3:FD:=Zan 2 3 J0
theorem Zkz{f1 f2:Int->Int->Option OT->Zi}{t:FT}{u:FS}(ht:∀x y z,t (f1 x y z)=some (!decide (y=0),f1 x y z))(hu:∀x y z,y≠0->∃z',u (f1 x y z)= .nx (f1 y (x.fmod y) z')) :
  ∀(n:Nat) (x y:Int) (z:Option OT),0≤x->0≤y->y.toNat<n->∃z',whileLoop t u n (f1 x y z)= .nx (f1 (JH x y:Int) 0 z')
 | 0,_,_,_,_,_,h=>absurd h (QB _)
 | n+1,x,y,z,hx,hy,h=>by
  unfold whileLoop
  rw[ht]
  dsimp only
  by_cases c:y=0
  ·subst c
   refine⟨z,?_⟩
   simp only[decide_true,Bool.not_true,By,if_false]
   rw[Int.gcd_zero_right]
   congr 2
   omega
  ·simp only[c,decide_false,Bool.not_false,if_true]
   obtain⟨z1,e1⟩:=hu x y z c
   rw[e1]
   dsimp only
   have hm:x.fmod y=x%y:=Zhl (by omega)
   have h1:0≤x%y:=Int.emod_nonneg x c
   have h2:x%y<y:=Int.emod_lt_of_pos x (by omega)
   obtain⟨z2,e2⟩:=Zkz (f1:=f1) (f2:=f2) ht hu n y (x.fmod y) z1 hy (by omega) (by omega)
   exact⟨z2,by rw[e2,Zul hx (by omega)]⟩
theorem Jl(a b:Int):Z3 [.int a,.int b]= .ok (.fz (.int (JH a b:Int))):=by
 obtain⟨z',e⟩:=Zkz (f1:=λx y z=>[some (.fz (.int x)),some (.fz (.int y)),z]) (f2:=λx y z=>[]) (t:=tV (Ze gNe (Zd 1) (fC (.int 0)))) (u:=Zz (wE (Ze Je (Zd 0) (Zd 1)) (Wb 2)) (Zz (wE (Zd 1) (Wb 0)) (wE (Zd 2) (Wb 1)))) (λx y z=>Zay (Zmt Za Zr rfl)) (λx y z hy=>⟨_,W9 (Zy (Z9 Za Za hy)) (W9 (Zy Za) (Zy Za))⟩) ((b.natAbs:Int).toNat+1) (a.natAbs:Int) (b.natAbs:Int) none (by omega) (by omega) (by omega)
 rw[Bl,VL,VL]at e
 exact Told.int<|Yb rfl<|Y0 (Zy (Zbc (Zb Za Zk) (Zrf a)))<|Y0 (Zy (Zbc (Zb Za Zk) (Zrf b)))<|Y0 (Zl9 _ e (by intro z;cases z)) (Yz Za)
noncomputable def Zdm:FS :=
 (Zz (wE (Zw Z3 (Zc (Zd 0) (Zc (Zd 1) Zo))) (Wb 2))
  (Zz (Jc (tV (Ze gLt (Zd 1) (fC (.int 0))))
  (wE (fUn Zp4 (Zd 2)) (Wb 2))
  fNx)
  (wE (Zc2 (Zc (Ze J6 (Zd 0) (Zd 2)) (Zc (Ze J6 (Zd 1) (Zd 2)) Zo))) Yr)))
noncomputable def Za9:FD:=Zan 2 3 Zdm
theorem Z15{n:Nat}{t b:Int}(hb:b≠0)(hB:Bt n b)(hn:n≤9000)(s:Int)(e:s=shr t b):J6 (.int t) (.int s)=some (.int (Qn t b).num)∧J6 (.int b) (.int s)=some (.int ((Qn t b).den:Int)):=by
 subst e
 rw[Ziw (Zh9 (Zxh hb) (Zw5 hb hB) hn),Ziw (Zh9 (Zxh hb) (Zw5 hb hB) hn),Z1e hb,Zz4 hb]
 exact⟨rfl,rfl⟩
theorem Zn9{n:Nat}{t b:Int}(hb:b≠0)(hB:Bt n b)(hn:n≤9000:=by decide):Told Za9 [.int t,.int b] (frD (Qn t b)):=by
 have fin:∀{δ:Zi} {s:Int},s=shr t b->δ[0]? =some (some (.fz (.int t)))->δ[1]? =some (some (.fz (.int b)))->δ[2]? =some (some (.fz (.int s)))->Znz (wE (Zc2 (Zc (Ze J6 (Zd 0) (Zd 2)) (Zc (Ze J6 (Zd 1) (Zd 2)) Zo))) Yr) δ (frD (Qn t b)):=λe h0 h1 h2=>by
  obtain⟨e1,e2⟩:=Z15 hb hB hn _ e
  exact Yz (Zaa (Zb (Zx (Za h0) (Za h2) e1) (Zb (Zx (Za h1) (Za h2) e2) Zk)) (show 2≤1000 by decide))
 have g:Told Z3 [.int t,.int b] _:=.of (Jl t b) (OT.data_fz _)
 by_cases c:b<0
 ·exact Yb rfl<|Y0 (Zy (Zu (Zb Za (Zb Za Zk)) g))<|Y0 (Zgg (Zay (Zjg Za Zr (decide_eq_true c))) (Zy (Zg9 Za))) (fin (by unfold shr;rw[if_pos c]) rfl rfl rfl)
 ·exact Yb rfl<|Y0 (Zy (Zu (Zb Za (Zb Za Zk)) g))<|Y0 (Y4 (Zay (Zjg Za Zr (decide_eq_false c))) rfl) (fin (by unfold shr;rw[if_neg c]) rfl rfl rfl)
noncomputable def Zdg:FS :=
 (wE (Zk3 (Zjc "int" (Zd 0)) (fUn Yat (Zjc "bool" (Zd 0)))) Yr)
noncomputable def Ye:FD:=Zan 1 1 Zdg
theorem Zds(i:Int):Ye [.int i]= .ok (.fz (.bool true)):=rfl
noncomputable def Zdy:FS :=
 (Zz (Jc (tO (tNo (tD (Zw Ye (Zc (Zd 0) Zo)))) (tO (tNo (tD (Zw Ye (Zc (Zd 1) Zo)))) (tV (Ze gEq (Zd 1) (fC (.int 0))))))
  (Zt8 "NoNumber")
  fNx)
  (wE (Zw Za9 (Zc (Zd 0) (Zc (Zd 1) Zo))) Yr))
noncomputable def W8:FD:=Zan 2 2 Zdy
theorem Zn1{n:Nat}{t b:Int}(hb:b≠0)(hB:Bt n b)(hn:n≤9000:=by decide):Told W8 [.int t,.int b] (frD (Qn t b)):=by
 have w:∀{i:Int},Told Ye [.int i] (.bool true):=fun{i}=>.of (Zds i) (OT.data_fz _)
 exact Yb rfl<|Y0 (Y4 (Zll (Zb1 (p:=true) (Zbd (Zu (Zb Za Zk) w))) (Zll (Zb1 (p:=true) (Zbd (Zu (Zb Za Zk) w))) (Zay (Zjm Za Zr (decide_eq_false hb))))) rfl) (Yz (Zu (Zb Za (Zb Za Zk)) (Zn9 hb hB hn)))
noncomputable def Zat:FS :=
 (Zz (wE (fC (.int 1)) (Wb 1))
  (Zz (Zco (Zcl (Zd 0)) (gNm 2)
  (wE (Ze Ze8 (Ze J6 (Zd 1) (Zw Z3 (Zc (Zd 1) (Zc (Zq gIx (Zd 2) (fC (.int 1))) Zo)))) (Zq gIx (Zd 2) (fC (.int 1)))) (Wb 1)))
  (wE (Zd 1) Yr)))
noncomputable def Z4:FD:=Zan 1 3 Zat
noncomputable def prD(p:Int×Int):Xa:=.tuple [.int p.1,.int p.2]
theorem Zu0{a b B:Int}(ha:0<a)(hb:0<b)(h1:a∣B)(h2:b∣B)(hB:0<B):0<a.fdiv (JH a b)*b∧a∣a.fdiv (JH a b)*b∧b∣a.fdiv (JH a b)*b∧a.fdiv (JH a b)*b∣B:=by
 have hg:0<(JH a b:Int):=Zfv (by omega)
 have d1:(JH a b:Int)∣a:=Int.gcd_dvd_left ..
 have d2:(JH a b:Int)∣b:=Int.gcd_dvd_right ..
 rw[Zab hg]
 have e:a/(JH a b:Int)*b=(Int.lcm a b:Int):=by
  have q:=Int.gcd_mul_lcm a b
  have h3:(JH a b:Int)*(Int.lcm a b:Int)=a*b:=by
   rw[←Int.natCast_mul,q,Int.natCast_mul,Int.natAbs_of_nonneg (by omega),Int.natAbs_of_nonneg (by omega)]
  obtain⟨k,hk⟩:=d1
  have e1:a/(JH a b:Int)=k:=Int.ediv_eq_of_eq_mul_right (by omega) hk
  rw[e1]
  apply Int.eq_of_mul_eq_mul_left (a:=(JH a b:Int)) (by omega)
  rw[h3,←Int.mul_assoc,←hk]
 rw[e]
 refine⟨?_,Int.dvd_lcm_left ..,Int.dvd_lcm_right ..,Int.coe_lcm_dvd h1 h2⟩
 have:Int.lcm a b≠0:=by
  rw[Ne,Int.lcm_eq_zero_iff]
  omega
 omega
theorem Zly{n:Nat}{a B:Int}(hB:0<B)(h:a∣B)(b:Bt n B):Bt n a:=by
 refine Bt.of_le b ?_
 have:=Int.natAbs_dvd_natAbs.mpr h
 exact Nat.le_of_dvd (by omega) this
theorem Zhd{n:Nat}{B:Int}(hB:0<B)(bB:Bt n B)(hn:n≤9000:=by decide)(ps:List (Int×Int))(h:∀p∈ps,0<p.2∧p.2∣B) :
  ∃m,Told Z4 [.list (ps.map prD)] (.int m)∧0<m∧(∀p∈ps,p.2∣m)∧m∣B:=by
 have key:∃d,Told Z4 [.list (ps.map prD)] d∧∃m,d= .int m∧0<m∧(∀p∈ps,p.2∣m)∧m∣B:=by
  refine Zsj rfl<|Js (Zy Zr)<|Zsg (ds:=ps.map prD) (λi δ=>∃m z,δ=[some (.fz (.list (ps.map prD))),some (.fz (.int m)),z]∧0<m∧(∀j p,j<i->ps[j]? =some p->p.2∣m)∧m∣B) (Jg Za) ⟨1,none,rfl,by decide,λj p hj=>absurd hj (QB j),Int.one_dvd _⟩ (λi d δ hd hi=>?_) λδ' hi=>?_
  ·obtain⟨m,z,hδ,h1,h2,h3⟩:=hi
   subst hδ
   rw[Xm]at hd
   cases e:ps[i]? with
   | none=>rw[e]at hd;cases hd
   | some p=>
    rw[e]at hd
    cases hd
    obtain⟨q1,q2⟩:=h p (XR e)
    obtain⟨s1,s2,s3,s4⟩:=Zu0 h1 q1 h3 q2 hB
    have g0:0<(JH m p.2:Int):=Zfv (by omega)
    have bg:Bt n (JH m p.2:Int):=Zly hB (VD (Int.gcd_dvd_right ..) q2) bB
    have bm:Bt n (m.fdiv (JH m p.2)):=by
     rw[Zab g0]
     exact Bt.of_le (Zly hB h3 bB) (Vv _ _)
    have at1:∀{δ:Zi},δ[2]? =some (some (.fz (prD p)))->EvV (Zq gIx (Zd 2) (fC (.int 1))) δ (.int p.2):=λh=>Z0 (Za h) Zr rfl
    refine⟨_,_,rfl,.inl (Zy (Zx (Zx Za (Zu (Zb Za (Zb (at1 rfl) Zk)) (.of (Jl m p.2) (OT.data_fz _))) (Ziw (Zh9 (by omega) bg hn))) (at1 rfl) (Zir (Zic bm (Zly hB q2 bB) (by omega))))),_,_,rfl,s1,λj p' hj hp=>?_,s4⟩
    by_cases z:j=i
    ·subst z
     rw[e]at hp;cases hp
     exact s3
    ·exact VD (h2 j p' (by omega) hp) s2
  ·obtain⟨m,z,rfl,h1,h2,h3⟩:=hi
   refine Zjz Za ⟨m,rfl,h1,λp hp=>?_,h3⟩
   obtain⟨j,hj⟩:=Q9 hp
   exact h2 j p (by have:=(Xk.mp hj).1;rwa[Xg]) hj
 obtain⟨d,h,m,rfl,hm⟩:=key
 exact⟨m,h,hm⟩
noncomputable def Zev:FS :=
 (Zz (wE (fC (.int 1)) (Wb 1))
  (Zz (Zco (Zcl (Zd 0)) (gNm 2)
  (wE (Zw Z4 (Zc (Zq Zbx (Zav (Zc (Zc2 (Zc (fC (.int 1)) (Zc (Zd 1) Zo))) Zo)) (Zd 2)) Zo)) (Wb 1)))
  (wE (Zd 1) Yr)))
noncomputable def Zn8:FD:=Zan 1 3 Zev
noncomputable def scI(m:Int)(q:Rat):Int:=q.num*(m/(q.den:Int))
theorem Zxv{m:Int}{q:Rat}(h:(q.den:Int)∣m):(scI m q:Rat)=q*(m:Rat):=by
 obtain⟨k,rfl⟩:=h
 unfold scI
 rw[Int.mul_ediv_cancel_left _ (Ztp q)]
 rw[Rat.intCast_mul,Rat.intCast_mul,Yd6,Rat.mul_assoc]
noncomputable def Zdd:FS :=
 (wE (Yk 1 [0] (Zcl (Zd 1)) (gNm 0) Zen (Ze Ze8 (Zq gIx (Zd 0) (fC (.int 0))) (Ze J6 (Zd 1) (Zq gIx (Zd 0) (fC (.int 1)))))) Yr)
noncomputable def Y5:FD:=Zan 2 2 Zdd
theorem Zme{n:Nat}{m:Int}(hm:0<m)(bm:Bt n m)(r:List Rat)(hz:r.length≤1000)(h:∀q∈r,(q.den:Int)∣m∧Bt n q.num)(hn:n≤9000:=by decide) :
  Told Y5 [.int m,Zb4 r] (.list (r.map λq=>.int (scI m q))) :=
 Yb rfl<|Yz<|Za2 (cs:=[some (.fz (.int m))]) r frD (λq=>.int (scI m q)) (Jg Za) (by omega) rfl λq hq=>by
  obtain⟨h1,h2⟩:=h q hq
  refine(Zx (Z0 (d:=.int q.num) Za Zr rfl) (Zx Za (Z0 (d:=.int (q.den:Int)) Za Zr rfl) (Ziw (Zh9 (Ztp q) (Zly hm h1 bm) hn))) (Zir ?_)).cast ?_
  ·rw[Zab (W5 q)]
   exact Zic h2 (Bt.of_le bm (Vv _ _)) (by omega)
  ·rw[Zab (W5 q)];rfl
noncomputable def Zgo:FS :=
 (wE (Yk 1 [0] (Zcl (Zd 1)) (gNm 0) Zen (Zw Y5 (Zc (Zd 1) (Zc (Zd 0) Zo)))) Yr)
noncomputable def Zqh:FD:=Zan 2 2 Zgo
noncomputable def Zdk:FS :=
 (Zz (wE (Zav Zo) (Ze7 1))
  (Zz (Zco (iRa (Zc (Zd 0) Zo)) (gNm 2)
  (Zco (iRb (Zc (Ze Zaq (Zd 2) (fC (.int 1))) (Zc (Zd 0) Zo))) (gNm 3)
  (Jz 1 (Zc2 (Zc (Zd 2) (Zc (Zd 3) Zo))))))
  (Ziq 1)))
noncomputable def Yg:FD:=Zan 1 4 Zdk
noncomputable def Wi(n:Nat):List (Nat×Nat):=(Xn n).flatMap λi=>(Xn (n-(i+1))).map λj=>(i,i+1+j)
noncomputable def ptD(p:Nat×Nat):Xa:=.tuple [.int p.1,.int p.2]
theorem Zfz{n:Nat}{p:Nat×Nat}(h:p∈Wi n):p.1<p.2∧p.2<n:=by
 unfold Wi at h
 obtain⟨i,hi,hp⟩:=List.mem_flatMap.mp h
 obtain⟨j,hj,rfl⟩:=Qi.mp hp
 have:=QH.mp hi
 have:=QH.mp hj
 dsimp only
 omega
theorem Zkb{n i j:Nat}(h:i<j)(hj:j<n):(i,j)∈Wi n:=by
 unfold Wi
 exact List.mem_flatMap.mpr ⟨i,QH.mpr (by omega),Qi.mpr ⟨j-(i+1),QH.mpr (by omega),by congr 1;omega⟩⟩
noncomputable def Zk4(n i:Nat):List (Nat×Nat):=(Xn i).flatMap λi=>(Xn (n-(i+1))).map λj=>(i,i+1+j)
theorem Zi3(n:Nat):∀i,(Zk4 n i).length≤i*n
 | 0=>by simp[Zk4]
 | i+1=>by
  have:=Zi3 n i
  unfold Zk4 at this⊢
  rw[Uk,List.flatMap_append,QJ]
  simp only[List.flatMap_cons,List.flatMap_nil,JQ,Xg,Xw]
  have e:(i+1)*n=i*n+n:=by rw[Nat.succ_mul]
  omega
theorem Zp8(n i:Nat):Zk4 n (i+1)=Zk4 n i ++ (Xn (n-(i+1))).map λj=>(i,i+1+j):=by
 unfold Zk4;rw[Uk,List.flatMap_append];simp
theorem Ziv(n:Nat)(hn:n≤1000):Told Yg [.int n] (.list ((Wi n).map ptD)):=by
 refine Yb rfl<|Y0 Zpa<|Zlz (ds:=Zje 0 n) (λi δ=>∃z1 z2,δ=[some (.fz (.int n)),some (.nd (((Zk4 n i).map ptD).map OT.fz)),z1,z2]) (Zhe (Zb Za Zk) (by omega)) ⟨_,_,rfl⟩ (λi d δ hd h=>?_) λδ' h=>?_
 ·obtain⟨z1,z2,rfl⟩:=h
  obtain⟨hi,rfl⟩:=Zbn hd
  rw[Uy]
  have ln:=Zi3 n i
  have l2:i*n≤999*1000:=Nat.mul_le_mul (by omega) hn
  refine Zks (ds:=Zje ((i+1:Nat):Int) (n-(i+1))) (λj δ=>∃z,δ=[some (.fz (.int n)),some (.nd (((Zk4 n i ++ (Xn j).map λj=>(i,i+1+j)).map ptD).map OT.fz)),some (.fz (.int i)),z]) rfl (Yaw (m:=i+1) (Zb (EvV.cast (Wj Za Zr) rfl) (Zb Za Zk)) (by omega) (by omega)) ⟨z2,by rw[List.range_zero,List.map_nil,JQ];rfl⟩ (λj d δ hd h=>?_) λδ' h=>?_
  ·obtain⟨z,rfl⟩:=h
   obtain⟨hj,rfl⟩:=Zbn hd
   refine⟨_,_,rfl,.inl (Zm3 (Zaa (Zb Za (Zb Za Zk)) (show 2≤1000 by decide)) rfl (by rw[Xg,Xg,QJ,Xg,Xw];omega)),some (.fz (.int (((i+1:Nat):Int)+j))),?_⟩
   rw[Uk]
   simp only[Qu,V3]
   rfl
  ·obtain⟨z,rfl⟩:=h
   rw[Zah,←Zp8]
   exact⟨_,_,rfl⟩
 ·obtain⟨z1,z2,rfl⟩:=h
  rw[Zah]
  exact Ybe rfl (by rw[OT.data_nd,OT.map_fz];rfl)
end My
namespace My
open PySem L2 PySem.Spec
noncomputable def Zbm:FS :=
 (Zz (Jc (tV (Ze gLt (Zd 1) (Zal Zcp (Zc (Zd 0) Zo))))
  (wE (Zq gIx (Zd 0) (Zd 1)) Yr)
  fNx)
  (wE (fC (.int 0)) Yr))
noncomputable def J2:FD:=Zan 2 2 Zbm
noncomputable def Zh4:FS :=
 (Zz (Jc (tV (Ze gEq (Ze Je (Ze J6 (Zd 0) (fC (.int 7))) (fC (.int 8))) (fC (.int 3))))
  (wE (Ze Zaq (Ze Zaq (Zd 2) (fC (.int 1))) (Ze Je (Ze J6 (Zd 0) (fC (.int 56))) (Ze gSb (Zd 3) (Zd 2)))) Yr)
  fNx)
  (wE (Ze Zaq (Zd 1) (Ze Je (Zd 0) (Ze gSb (Ze Zaq (Zd 2) (fC (.int 1))) (Zd 1)))) Yr))
noncomputable def Zs1:FD:=Zan 4 4 Zh4
noncomputable def Zi0:FS :=
 (Zz (wE (Ze Je (Ze Ze8 (Ze Zaq (Ze Zaq (Ze Je (Zd 0) (fC (.int 2147483629))) (Ze Ze8 (fC (.int 9973)) (Zd 1))) (fC (.int 5))) (fC (.int 48271))) (fC (.int 2147483647))) (Wb 2))
  (Zz (wE (Ze Je (Ze Ze8 (Zd 2) (Zd 2)) (fC (.int 2147483587))) (Wb 2))
  (wE (Ze J6 (Ze Je (Ze Ze8 (Ze Zaq (Zd 2) (Ze Ze8 (fC (.int 7919)) (Zd 1))) (fC (.int 16807))) (fC (.int 2147483563))) (fC (.int 8))) Yr)))
noncomputable def Zip:FD:=Zan 2 3 Zi0
noncomputable def Zfw:FS :=
 (Zz (wE (Zav Zo) (Ze7 2))
  (Zz (wE (Zd 0) (Wb 3))
  (Zz (Zco (iRa (Zc (Zd 1) Zo)) (gNm 4)
  (Zz (wE (Zw Zip (Zc (Zd 0) (Zc (Zd 4) Zo))) (Wb 5))
  (Zz (Jc (tV (Ze gGe (Zd 0) (Ze Zrn (fC (.int 10)) (fC (.int 18)))))
  (wE (Ze Je (Zd 3) (fC (.int 720720))) (Wb 5))
  fNx)
  (Zz (wE (Ze J6 (Zd 3) (fC (.int 720720))) (Wb 3))
  (Jz 2 (Zd 5))))))
  (Ziq 2))))
noncomputable def Zoj:FD:=Zan 2 6 Zfw
noncomputable def Zm(p:List Int):Xa:=.list (p.map Xl)
theorem Zo7{p:List Int}{i:Int}(h0:0≤i)(h1:i<p.length):atI (p.map Xl) i=some (.int (p.getD i.toNat 0)):=by
 rw[Zm1 h0,Xm,Xi (by omega)]
 simp[Xh,Xi (show i.toNat<p.length by omega)]
theorem Zl8{a b:FE}{δ:Zi}{p:List Int}{i:Int}(ha:EvV a δ (Zm p))(hb:EvV b δ (.int i))(h0:0≤i)(h1:i<p.length):EvV (Zq gIx a b) δ (.int (p.getD i.toNat 0)):=Z35 ha hb (Zo7 h0 h1)
theorem We{a:FE}{δ:Zi}{p:List Int}(ha:EvV a δ (Zm p)):EvV (Zal Zcp (Zc a Zo)) δ (.int p.length):=by
 have:=Zfx (ds:=p.map Xl) ha
 rwa[Xg]at this
theorem Yea:Zrn (.int 10) (.int 18)=some (.int 1000000000000000000):=rfl
theorem Zpw(ns:List Int){k:Int}(h0:0≤k):∃c,J2 [Zm ns,.int k]= .ok (.fz (.int c)):=by
 by_cases c:k<ns.length
 ·exact⟨_,Told.int<|Yb rfl<|Zbk (Zd4 (Zay (Zjg Za (We Za) (decide_eq_true c))) (Yz (Zl8 Za Za h0 c)))⟩
 ·exact⟨_,Told.int<|Yb rfl<|Y0 (Y4 (Zay (Zjg Za (We Za) (decide_eq_false c))) rfl) (Yz Zr)⟩
theorem Zok{i:Nat}{e:FE}{δ:Zi}{vs:List Int}{v:Int}(h:EvV e δ (.int v))(hi:δ[i]? =some (some (.nd (vs.map λv=>.fz (.int v)))))(hl:vs.length≤1000000):Jz i e δ= .nx (δ.set i (some (.nd ((vs ++ [v]).map λv=>.fz (.int v))))):=by
 rw[Zm3 h hi (by rw[Xg];exact hl),Qu];rfl
theorem Zvu(vs:List Int):(OT.nd (vs.map λv=>OT.fz (.int v))).data=Zm vs:=by rw[OT.data_nd,Zps];rfl
end My
namespace L2
open PySem PySem.Spec PyProof.Rows PySem.W
structure TmS where
 p:Array Nat
 q:Array (Nat×Nat×Nat)
 g:Nat
noncomputable def TM(α:Type):Type:=TmS->KasT (Option (α×TmS))
noncomputable def TM.nxt{α β:Type}(f:α->TM β):Option (α×TmS)->KasT (Option (β×TmS))
 | none=>.ret none
 | some r=>f r.1 r.2
noncomputable instance:Monad TM where
 pure a:=λt=>.ret (some (a,t))
 bind m f:=λt=>(m t).bind (TM.nxt f)
noncomputable def Zsh{α:Type}:TM α:=λ_=>.ret none
noncomputable def Z1s(i j:Nat):TM (Option Bool):=λt=>.ask i j λb=>.ret (some (some b,t))
noncomputable def Zgz(a:Array Nat)(i:Nat):TM Nat:=match a[i]? with|some x=>pure x|none=>Zsh
noncomputable def Zjj:TM TmS:=λt=>.ret (some (t,t))
noncomputable def Zk7(f:TmS->TmS):TM PUnit:=λt=>.ret (some (⟨⟩,f t))
noncomputable def Zup{β:Type}:List Nat->β->(Nat->β->TM (ForInStep β))->TM β
 | [],b,_=>pure b
 | x :: l,b,f=>do
  match←f x b with
  | .done b=>pure b
  | .yield b=>Zup l b f
noncomputable def stM{α β:Type}(f:α->β):ForInStep α->ForInStep β
 | .done a=>.done (f a)
 | .yield a=>.yield (f a)
section
variable {prog:XH}{w:Qo}{A:Qk}{E:Xc->Xd->Prop}{κ:Bw}{it:Array VG}
noncomputable def toS(κ:Bw)(it:Array VG)(t:TmS):Bs:=Bu κ (t.p.map (XJ it)) t.q t.g none
noncomputable def Sim(prog:XH)(w:Qo)(A:Qk)(E:Xc->Xd->Prop)(κ:Bw)(it:Array VG){α β:Type}(φ:β->α)(m:StateT Bs Sem α)(t:TM β):Prop:=∀(u:TmS) (s:Xd) (Q:α->Bs->Xd->Prop),
 (t u).kasWp (kas_cmp prog w A κ it) (λo s'=>∃r,o=some r∧Q (φ r.1) (toS κ it r.2) s') s->kasC (X7 prog w) A E m Q (toS κ it u) s
variable {α β α' β':Type}
theorem Zf{φ:β->α}{a:α}{b:β}(h:φ b=a):Sim prog w A E κ it φ (pure a) (pure b):=λu s Q h1=>by
 obtain⟨r,e,h2⟩:=h1
 cases e
 rw[h]at h2
 exact kasC_pure h2
theorem Zj{φ:β->α}{ψ:β'->α'}{m:StateT Bs Sem α}{t:TM β}{f:α->StateT Bs Sem α'}{g:β->TM β'}(h:Sim prog w A E κ it φ m t)(k:∀b,Sim prog w A E κ it ψ (f (φ b)) (g b)):Sim prog w A E κ it ψ (m>>=f) (t>>=g):=λu s Q h1=>by
 have h2:((t u).bind (TM.nxt g)).kasWp (kas_cmp prog w A κ it) (λo s'=>∃r,o=some r∧Q (ψ r.1) (toS κ it r.2) s') s:=h1
 rw[KasT.kasWp_bind]at h2
 refine kasC_bind (h u s _ (kas_wp_mono h2 λo s' h3=>?_))
 cases o with
 | none=>
  obtain⟨r,e,_⟩:=h3
  cases e
 | some r=>exact⟨r,rfl,k r.1 r.2 s' Q h3⟩
theorem Zcs:Sim prog w A E κ it (toS κ it) (get:StateT Bs Sem Bs) Zjj:=λu s Q h1=>by
 obtain⟨r,e,h2⟩:=h1
 cases e
 exact kasC_get h2
theorem Zez{f:Bs->Bs}{g:TmS->TmS}(h:∀t,f (toS κ it t)=toS κ it (g t)):Sim prog w A E κ it id (modify f:StateT Bs Sem PUnit) (Zk7 g):=λu s Q h1=>by
 obtain⟨r,e,h2⟩:=h1
 cases e
 refine kasC_modify ?_
 rw[h]
 exact h2
theorem Zh5{φ:β->α}{m:StateT Bs Sem α}:Sim prog w A E κ it φ m Zsh:=λu s Q h1=>by
 obtain⟨r,e,_⟩:=h1
 cases e
theorem W6{a:Array Nat}{i:Nat}:Sim prog w A E κ it (XJ it) (elem' (a.map (XJ it)) i) (Zgz a i):=by
 rw[elem'_eq]
 unfold Zgz
 rw[Array.getElem?_map]
 cases a[i]? with
 | none=>exact Zh5
 | some x=>exact Zf rfl
theorem Zl5{i j:Nat}:Sim prog w A E κ it id (lt' (XJ it i) (XJ it j)) (Z1s i j):=λu s Q h1=>by
 have h2:kas_cmp prog w A κ it i j (λb s'=>∃r,some (some b,u)=some r∧Q (id r.1) (toS κ it r.2) s') s:=h1
 rw[lt'_eq]
 refine kasC_bind (kasC_get ?_)
 refine kasC_bind (kasC_lift (wpAny_attempt (Br h2 (λc s' hc=>?_) λ_ _ hF=>hF.elim)))
 obtain⟨r,e,h3⟩:=hc
 cases e
 exact kasC_pure h3
theorem Zvj{φ:β->α}{f:Nat->α->StateT Bs Sem (ForInStep α)}{g:Nat->β->TM (ForInStep β)}(h:∀x b,Sim prog w A E κ it (stM φ) (f x (φ b)) (g x b))(l:List Nat)(b:β):Sim prog w A E κ it φ (forIn l (φ b) f) (Zup l b g):=by
 induction l generalizing b with
 | nil=>rw[V1];exact Zf rfl
 | cons x l ih=>
  rw[Ul]
  refine Zj (h x b) λr=>?_
  cases r with
  | done b=>exact Zf rfl
  | yield b=>exact ih b
theorem Zs9{φ:β->α}{f:Nat->α->StateT Bs Sem (ForInStep α)}{g:Nat->β->TM (ForInStep β)}{x y:Nat}{a:α}{b:β}(e:φ b=a)(h:∀x b,Sim prog w A E κ it (stM φ) (f x (φ b)) (g x b)):Sim prog w A E κ it φ (forIn [x:y] a f) (Zup (List.range' x (y-x)) b g):=λu s Q h1=>by
 refine kasC_range ?_
 rw[←e]
 exact Zvj h _ b u s Q h1
theorem Zt{φ:β->α}{c:Prop}[Decidable c]{m n:StateT Bs Sem α}{t v:TM β}(h1:Sim prog w A E κ it φ m t)(h2:Sim prog w A E κ it φ n v):Sim prog w A E κ it φ (if c then m else n) (if c then t else v):=by
 split
 ·exact h1
 ·exact h2
end
end L2
namespace L2
open PySem PySem.Spec PyProof.Rows PySem.W
structure Rg where
 a:Nat
 b:Nat
noncomputable instance:ForIn TM Rg Nat where
 forIn r b f:=Zup (List.range' r.a (r.b-r.a)) b f
noncomputable def Ybr:Bool->VG->Array VG->Nat->Nat->Nat->StateT Bs Sem (Option Nat):=sortPriv%PySem.Builtin.gallop
noncomputable def Zr9(le:Bool)(key:Nat)(arr:Array Nat)(base i:Nat):TM (Option Bool):=do
 let x←Zgz arr (base+i)
 if le then Z1s x key else return(←Z1s key x).map (!·)
noncomputable def Zlc(le:Bool)(key:Nat)(arr:Array Nat)(base n hint:Nat):TM (Option Nat):=do
 let mut last:=0
 let mut ofs:=1
 let mut lo:=0
 let mut hi:=0
 let some right←Zr9 le key arr base hint|return none
 if right then
  let most:=n-hint
  for _ in Rg.mk 0 n do
   if ofs≥most then break
   let some more←Zr9 le key arr base (hint+ofs)|return none
   if !more then break
   last:=ofs
   ofs:=2*ofs+1
  lo:=hint+last+1
  hi:=hint+min ofs most
 else
  let most:=hint+1
  for _ in Rg.mk 0 n do
   if ofs≥most then break
   let some more←Zr9 le key arr base (hint-ofs)|return none
   if more then break
   last:=ofs
   ofs:=2*ofs+1
  lo:=hint+1-min ofs most
  hi:=hint-last
 for _ in Rg.mk 0 n do
  if lo≥hi then break
  let m:=lo+(hi-lo)/2
  let some more←Zr9 le key arr base m|return none
  if more then lo:=m+1 else hi:=m
 return some hi
section
variable {prog:XH}{w:Qo}{A:Qk}{E:Xc->Xd->Prop}{κ:Bw}{it:Array VG}{α β:Type}
theorem Zc8{φ:β->α}{f:Nat->α->StateT Bs Sem (ForInStep α)}{g:Nat->β->TM (ForInStep β)}{x y:Nat}{a:α}{b:β}(e:φ b=a)(h:∀x b,Sim prog w A E κ it (stM φ) (f x (φ b)) (g x b)):Sim prog w A E κ it φ (forIn [x:y] a f) (forIn (Rg.mk x y) b g):=Zs9 e h
theorem Zh2{le:Bool}{key:Nat}{arr:Array Nat}{base n hint:Nat}:Sim prog w A E κ it id (Ybr le (XJ it key) (arr.map (XJ it)) base n hint) (Zlc le key arr base n hint):=by
 have bey:∀i,Sim prog w A E κ it id (do
   let x←elem' (arr.map (XJ it)) (base+i)
   if le then lt' x (XJ it key)else return(←lt' (XJ it key) x).map (!·)) (Zr9 le key arr base i):=λi=>Zj W6 λx=>Zt Zl5 (Zj Zl5 λo=>Zf rfl)
 unfold Zlc
 refine Zj (bey hint) λo=>?_
 cases o with
 | none=>exact Zf rfl
 | some right=>
  refine Zt ?_ ?_
  ·refine Zj (Zc8 (φ:=id) rfl λx b=>?_) λr=>?_
   ·exact Zt (Zf rfl) (Zj (bey _) λo=>by
     cases o with
     | none=>exact Zf rfl
     | some m=>exact Zt (Zf rfl) (Zf rfl))
   ·obtain⟨r1,last,ofs⟩:=r
    cases r1 with
    | some v=>exact Zf rfl
    | none=>
     refine Zj (Zc8 (φ:=id) rfl λx b=>?_) λr=>?_
     ·exact Zt (Zf rfl) (Zj (bey _) λo=>by
       cases o with
       | none=>exact Zf rfl
       | some m=>exact Zt (Zf rfl) (Zf rfl))
     ·obtain⟨r1,lo,hi⟩:=r
      cases r1 with
      | some v=>exact Zf rfl
      | none=>exact Zf rfl
  ·refine Zj (Zc8 (φ:=id) rfl λx b=>?_) λr=>?_
   ·exact Zt (Zf rfl) (Zj (bey _) λo=>by
     cases o with
     | none=>exact Zf rfl
     | some m=>exact Zt (Zf rfl) (Zf rfl))
   ·obtain⟨r1,last,ofs⟩:=r
    cases r1 with
    | some v=>exact Zf rfl
    | none=>
     refine Zj (Zc8 (φ:=id) rfl λx b=>?_) λr=>?_
     ·exact Zt (Zf rfl) (Zj (bey _) λo=>by
       cases o with
       | none=>exact Zf rfl
       | some m=>exact Zt (Zf rfl) (Zf rfl))
     ·obtain⟨r1,lo,hi⟩:=r
      cases r1 with
      | some v=>exact Zf rfl
      | none=>exact Zf rfl
end
end L2
namespace L2
open PySem PySem.Spec PyProof.Rows PySem.W
noncomputable def Ycq:Array VG->Array VG->StateT Bs Sem (Array VG):=sortPriv%PySem.Builtin.mergeLo
noncomputable def Ya3:Nat->StateT Bs Sem PUnit:=sortPriv%PySem.Builtin.setMinGallop
noncomputable def Zlv(g:Nat):TM PUnit:=Zk7 λt=>{ t with g:=g }
noncomputable def Z71(a b:Array Nat):TM (Array Nat):=do
 let total:=a.size+b.size
 let fin (out:Array Nat) (i j:Nat):=out ++ a.extract i a.size ++ b.extract j b.size
 let lst (out:Array Nat) (i j:Nat):=out ++ b.extract j b.size ++ a.extract i a.size
 let mut out:Array Nat:=#[←Zgz b 0]
 let mut i:=0
 let mut j:=1
 if j==b.size then return fin out i j
 if i+1==a.size then return lst out i j
 let mut mg:=(←Zjj).g
 for _ in Rg.mk 0 total do
  let mut na:=0
  let mut nb:=0
  for _ in Rg.mk 0 total do
   let some c←Z1s (←Zgz b j) (←Zgz a i)|return fin out i j
   if c then
    out:=out.push (←Zgz b j);j:=j+1;nb:=nb+1;na:=0
    if j==b.size then return fin out i j
    if nb≥mg then break
   else
    out:=out.push (←Zgz a i);i:=i+1;na:=na+1;nb:=0
    if i+1==a.size then return lst out i j
    if na≥mg then break
  mg:=mg+1
  for _ in Rg.mk 0 total do
   if mg>1 then mg:=mg-1
   Zlv mg
   let some k←Zlc false (←Zgz b j) a i (a.size-i) 0|return fin out i j
   na:=k
   if k>0 then
    out:=out ++ a.extract i (i+k);i:=i+k
    if i+1==a.size then return lst out i j
    if i==a.size then return fin out i j
   out:=out.push (←Zgz b j);j:=j+1
   if j==b.size then return fin out i j
   let some k←Zlc true (←Zgz a i) b j (b.size-j) 0|return fin out i j
   nb:=k
   if k>0 then
    out:=out ++ b.extract j (j+k);j:=j+k
    if j==b.size then return fin out i j
   out:=out.push (←Zgz a i);i:=i+1
   if i+1==a.size then return lst out i j
   if na<7&&nb<7 then break
  mg:=mg+1
  Zlv mg
 Zsh
section
variable {prog:XH}{w:Qo}{A:Qk}{E:Xc->Xd->Prop}{κ:Bw}{it:Array VG}{α β γ:Type}
theorem Zd9{φ:β->α}{x:String}{f:PUnit->StateT Bs Sem α}{t:TM β}(h:Sim prog w A E κ it φ (f ⟨⟩) t):Sim prog w A E κ it φ ((liftM (rule x):StateT Bs Sem PUnit)>>=f) t:=λu s Q h1=>kasC_bind (kasC_lift (wpAny_rule (h u s Q h1)))
theorem Jv{φ:β->α}{c d:Prop}[Decidable c][Decidable d]{m n:StateT Bs Sem α}{t v:TM β}(e:c↔d)(h1:Sim prog w A E κ it φ m t)(h2:Sim prog w A E κ it φ n v):Sim prog w A E κ it φ (if c then m else n) (if d then t else v):=by
 by_cases q:d
 ·rw[if_pos q,if_pos (e.mpr q)];exact h1
 ·rw[if_neg q,if_neg λz=>q (e.mp z)];exact h2
theorem Zgv{φ:β->α}{f:Nat->α->StateT Bs Sem (ForInStep α)}{g:Nat->β->TM (ForInStep β)}{x y y':Nat}{a:α}{b:β}(ey:y'=y)(e:φ b=a)(h:∀x b,Sim prog w A E κ it (stM φ) (f x (φ b)) (g x b)):Sim prog w A E κ it φ (forIn [x:y'] a f) (forIn (Rg.mk x y) b g):=ey▸Zs9 e h
theorem Zoz{le:Bool}{key:Nat}{arr:Array Nat}{base n n' hint:Nat}(e:n'=n):Sim prog w A E κ it id (Ybr le (XJ it key) (arr.map (XJ it)) base n' hint) (Zlc le key arr base n hint):=e▸Zh2
noncomputable def mpS(f:Nat->VG)(b:Option (Array Nat)×Array Nat×γ):Option (Array VG)×Array VG×γ:=(b.1.map (Uu f),b.2.1.map f,b.2.2)
theorem Zhm{g:Nat}:Sim prog w A E κ it id (Ya3 g) (Zlv g):=Zez λt=>rfl
theorem Yx{φ:β->α}{m:StateT Bs Sem (Option γ)}{t:TM (Option γ)}{f:Option γ->StateT Bs Sem α}{g:Option γ->TM β}(h:Sim prog w A E κ it id m t)(k0:Sim prog w A E κ it φ (f none) (g none))(k:∀c,Sim prog w A E κ it φ (f (some c)) (g (some c))):Sim prog w A E κ it φ (m>>=f) (t>>=g):=Zj h λo=>by
 cases o with
 | none=>exact k0
 | some c=>exact k c
theorem Z4q{a b:Array Nat}:Sim prog w A E κ it (Uu (XJ it)) (Ycq (a.map (XJ it)) (b.map (XJ it))) (Z71 a b):=by
 have sz:∀(a:Array Nat) (k:Nat),(k==(a.map (XJ it)).size)=true↔(k==a.size)=true:=λa k=>by rw[XX]
 have tot:(a.map (XJ it)).size+(b.map (XJ it)).size=a.size+b.size:=by rw[XX,XX]
 have m1:∀x,Uu (XJ it) #[x]=#[XJ it x]:=λx=>by simp
 unfold Z71
 refine Zd9 (Zj W6 λx0=>?_)
 refine Jv (sz _ _) (Zf (by simp only[XM,XC,XX,m1])) (Jv (sz _ _) (Zf (by simp only[XM,XC,XX,m1])) (Zj Zcs λt0=>?_))
 refine Zj (Zgv (φ:=mpS (XJ it)) tot (by simp only[mpS,m1];rfl) λx b=>?_) λr=>?_
 ·refine Zj (Zgv (φ:=mpS (XJ it)) tot rfl λx b=>?_) λr=>?_
  ·refine Zj W6 λx=>Zj W6 λy=>Yx Zl5 ?_ λc=>?_
   ·exact Zf (by simp only[stM,mpS,XM,XC,XX,Qa])
   ·refine Zt (Zj W6 λz=>Jv (sz _ _) (Zf ?_) (Zt (Zf ?_) (Zf ?_))) (Zj W6 λz=>Jv (sz _ _) (Zf ?_) (Zt (Zf ?_) (Zf ?_)))<;>simp only[stM,mpS,Qy,XM,XC,XX,Qa,Qp]
  ·obtain⟨r1,r2⟩:=r
   cases r1 with
   | some v=>exact Zf rfl
   | none=>
    refine Zd9 (Zj (Zgv (φ:=mpS (XJ it)) tot rfl λx b=>?_) λr=>?_)
    ·refine Zt ?_ ?_<;>(
      refine Zj Zhm λ_=>Zj W6 λy=>Yx (Zoz (by rw[XX];rfl)) (Zf (by simp only[stM,mpS,Qy,XM,XC,XX,Qa,Qp])) λk=>?_
      refine Zt (Jv (sz _ _) (Zf (by simp only[stM,mpS,Qy,XM,XC,XX,Qa,Qp])) (Jv (sz _ _) (Zf (by simp only[stM,mpS,Qy,XM,XC,XX,Qa,Qp])) ?_)) ?_<;>(
       refine Zj W6 λz=>Jv (sz _ _) (Zf (by simp only[stM,mpS,Qy,XM,XC,XX,Qa,Qp])) (Zj W6 λy2=>Yx (Zoz (by rw[XX];rfl)) (Zf (by simp only[stM,mpS,Qy,XM,XC,XX,Qa,Qp])) λk2=>?_)
       refine Zt (Jv (sz _ _) (Zf (by simp only[stM,mpS,Qy,XM,XC,XX,Qa,Qp])) ?_) ?_<;>(
        refine Zj W6 λz2=>Jv (sz _ _) (Zf (by simp only[stM,mpS,Qy,XM,XC,XX,Qa,Qp])) (Zt (Zf (by simp only[stM,mpS,Qy,XM,XC,XX,Qa,Qp])) (Zf (by simp only[stM,mpS,Qy,XM,XC,XX,Qa,Qp]))))))
    ·obtain⟨r1,r2⟩:=r
     cases r1 with
     | some v=>exact Zf rfl
     | none=>exact Zj Zhm λ_=>Zf rfl
 ·obtain⟨r1,r2⟩:=r
  cases r1 with
  | some v=>exact Zf rfl
  | none=>exact Zh5
end
end L2
namespace L2
open PySem PySem.Spec PyProof.Rows PySem.W
noncomputable def Yby:Array VG->Array VG->StateT Bs Sem (Array VG):=sortPriv%PySem.Builtin.mergeHi
noncomputable def Z7x(a b:Array Nat):TM (Array Nat):=do
 let total:=a.size+b.size
 let fin (out:Array Nat) (i j:Nat):=a.extract 0 i ++ b.extract 0 j ++ out.reverse
 let fst (out:Array Nat) (i j:Nat):=b.extract 0 j ++ a.extract 0 i ++ out.reverse
 let mut i:=a.size-1
 let mut j:=b.size
 let mut out:Array Nat:=#[←Zgz a i]
 if i==0 then return fin out i j
 if j==1 then return fst out i j
 let mut mg:=(←Zjj).g
 for _ in Rg.mk 0 total do
  let mut na:=0
  let mut nb:=0
  for _ in Rg.mk 0 total do
   let some c←Z1s (←Zgz b (j-1)) (←Zgz a (i-1))|return fin out i j
   if c then
    i:=i-1;out:=out.push (←Zgz a i);na:=na+1;nb:=0
    if i==0 then return fin out i j
    if na≥mg then break
   else
    j:=j-1;out:=out.push (←Zgz b j);nb:=nb+1;na:=0
    if j==1 then return fst out i j
    if nb≥mg then break
  mg:=mg+1
  for _ in Rg.mk 0 total do
   if mg>1 then mg:=mg-1
   Zlv mg
   let some x←Zlc false (←Zgz b (j-1)) a 0 i (i-1)|return fin out i j
   let k:=i-x
   na:=k
   if k>0 then
    out:=out ++ (a.extract x i).reverse;i:=x
    if i==0 then return fin out i j
   j:=j-1;out:=out.push (←Zgz b j)
   if j==1 then return fst out i j
   let some x←Zlc true (←Zgz a (i-1)) b 0 j (j-1)|return fin out i j
   let k:=j-x
   nb:=k
   if k>0 then
    out:=out ++ (b.extract x j).reverse;j:=x
    if j==1 then return fst out i j
    if j==0 then return fin out i j
   i:=i-1;out:=out.push (←Zgz a i)
   if i==0 then return fin out i j
   if na<7&&nb<7 then break
  mg:=mg+1
  Zlv mg
 Zsh
section
variable {prog:XH}{w:Qo}{A:Qk}{E:Xc->Xd->Prop}{κ:Bw}{it:Array VG}{α β γ:Type}
noncomputable def mpH(f:Nat->VG)(b:Option (Array Nat)×Nat×Nat×Array Nat×γ):Option (Array VG)×Nat×Nat×Array VG×γ:=(b.1.map (Uu f),b.2.1,b.2.2.1,b.2.2.2.1.map f,b.2.2.2.2)
theorem Zym{a:Array Nat}{i j:Nat}(e:j=i):Sim prog w A E κ it (XJ it) (elem' (a.map (XJ it)) j) (Zgz a i):=e▸W6
theorem Z4k{a b:Array Nat}:Sim prog w A E κ it (Uu (XJ it)) (Yby (a.map (XJ it)) (b.map (XJ it))) (Z7x a b):=by
 have tot:(a.map (XJ it)).size+(b.map (XJ it)).size=a.size+b.size:=by rw[XX,XX]
 have m1:∀x,Uu (XJ it) #[x]=#[XJ it x]:=λx=>by simp
 unfold Z7x
 refine Zd9 (Zj (Zym (by rw[XX])) λx0=>?_)
 refine Jv (by rw[XX]) (Zf (by simp only[XM,XC,QM,XX,m1])) (Jv (by rw[XX]) (Zf (by simp only[XM,XC,QM,XX,m1])) (Zj Zcs λt0=>?_))
 refine Zj (Zgv (φ:=mpH (XJ it)) tot (by simp only[mpH,m1,XX];rfl) λx b=>?_) λr=>?_
 ·refine Zj (Zgv (φ:=mpH (XJ it)) tot rfl λx b=>?_) λr=>?_
  ·refine Zj W6 λx=>Zj W6 λy=>Yx Zl5 ?_ λc=>?_
   ·exact Zf (by simp only[stM,mpH,XM,XC,QM,Qa])
   ·refine Zt (Zj W6 λz=>Zt (Zf ?_) (Zt (Zf ?_) (Zf ?_))) (Zj W6 λz=>Zt (Zf ?_) (Zt (Zf ?_) (Zf ?_)))<;>simp only[stM,mpH,Qy,XM,XC,QM,Qa,Qp]
  ·obtain⟨r1,r2⟩:=r
   cases r1 with
   | some v=>exact Zf rfl
   | none=>
    refine Zd9 (Zj (Zgv (φ:=mpH (XJ it)) tot rfl λx b=>?_) λr=>?_)
    ·refine Zt ?_ ?_<;>(
      refine Zj Zhm λ_=>Zj W6 λy=>Yx Zh2 (Zf (by simp only[stM,mpH,Qy,XM,XC,QM,Qa,Qp])) λk=>?_
      refine Zt (Zt (Zf (by simp only[stM,mpH,Qy,XM,XC,QM,Qa,Qp])) ?_) ?_<;>(
       refine Zj W6 λz=>Zt (Zf (by simp only[stM,mpH,Qy,XM,XC,QM,Qa,Qp])) (Zj W6 λy2=>Yx Zh2 (Zf (by simp only[stM,mpH,Qy,XM,XC,QM,Qa,Qp])) λk2=>?_)
       refine Zt (Zt (Zf (by simp only[stM,mpH,Qy,XM,XC,QM,Qa,Qp])) (Zt (Zf (by simp only[stM,mpH,Qy,XM,XC,QM,Qa,Qp])) ?_)) ?_<;>(
        refine Zj W6 λz2=>Zt (Zf (by simp only[stM,mpH,Qy,XM,XC,QM,Qa,Qp])) (Zt (Zf (by simp only[stM,mpH,Qy,XM,XC,QM,Qa,Qp])) (Zf (by simp only[stM,mpH,Qy,XM,XC,QM,Qa,Qp]))))))
    ·obtain⟨r1,r2⟩:=r
     cases r1 with
     | some v=>exact Zf rfl
     | none=>exact Zj Zhm λ_=>Zf rfl
 ·obtain⟨r1,r2⟩:=r
  cases r1 with
  | some v=>exact Zf rfl
  | none=>exact Zh5
end
end L2
namespace L2
open PySem PySem.Spec PyProof.Rows PySem.W
noncomputable def Znx(i j:Nat):TM (Option Bool):=do
 let t←Zjj
 let x←Zgz t.p i
 let y←Zgz t.p j
 Z1s x y
noncomputable def Ztg(i j:Nat):TM PUnit:=Zk7 λt=>{ t with p:=kas_rev t.p i j }
noncomputable def Z4l(i j:Nat):TM PUnit:=Zk7 λt=>{ t with p:=bubble t.p i (i-j) }
noncomputable def Zy3(lo m:Nat):TM (Option Nat):=do
 let mut n:=1
 for _ in Rg.mk 1 m do
  let some c←Znx (lo+n) (lo+n-1)|return none
  if c then break
  n:=n+1
 if n==m then return some n
 if n>1 then
  let some c←Znx lo (lo+n-1)|return none
  if c then return some n
  Ztg lo (lo+n)
 n:=n+1
 let mut e:=0
 for _ in Rg.mk n m do
  let some c←Znx (lo+n) (lo+n-1)|return none
  if c then
   if e>0 then Ztg (lo+n-(e+1)) (lo+n)
   e:=0
  else
   let some d←Znx (lo+n-1) (lo+n)|return none
   if d then break
   e:=e+1
  n:=n+1
 if e>0 then Ztg (lo+n-(e+1)) (lo+n)
 Ztg lo (lo+n)
 for _ in Rg.mk n m do
  let some c←Znx (lo+n) (lo+n-1)|return none
  if c then break
  n:=n+1
 return some n
noncomputable def Z1d(lo n ok:Nat):TM Bool:=do
 for k in Rg.mk (max ok 1) n do
  let mut l:=0
  let mut r:=k
  for _ in Rg.mk 0 k do
   if l≥r then break
   let m:=(l+r)/2
   let some c←Znx (lo+k) (lo+m)|return false
   if c then r:=m else l:=m+1
  Z4l (lo+k) (lo+l)
 return true
section
variable {prog:XH}{w:Qo}{A:Qk}{E:Xc->Xd->Prop}{κ:Bw}{it:Array VG}{α β γ:Type}
theorem Zgr{i j:Nat}:Sim prog w A E κ it id (ltAt' i j) (Znx i j):=Zj Zcs λt=>Zj W6 λx=>Zj W6 λy=>Zl5
theorem Zk1{i j:Nat}:Sim prog w A E κ it id (reverseSlice' i j) (Ztg i j):=by
 rw[reverseSlice'_eq]
 exact Zez λt=>by
  show Bu κ (mirror (t.p.map (XJ it)) i j ((j-i)/2)) t.q t.g none=Bu κ ((mirror t.p i j ((j-i)/2)).map (XJ it)) t.q t.g none
  rw[show mirror (t.p.map (XJ it)) i j ((j-i)/2)=(mirror t.p i j ((j-i)/2)).map (XJ it)from kas_swaps_map (XJ it) (λk=>i+k) (λk=>j-1-k) _ t.p]
theorem Zzv{i j:Nat}:Sim prog w A E κ it id (moveDown' i j) (Z4l i j):=by
 rw[moveDown'_eq]
 exact Zez λt=>by
  show Bu κ (bubble (t.p.map (XJ it)) i (i-j)) t.q t.g none=Bu κ ((bubble t.p i (i-j)).map (XJ it)) t.q t.g none
  rw[show bubble (t.p.map (XJ it)) i (i-j)=(bubble t.p i (i-j)).map (XJ it)from kas_swaps_map (XJ it) (λk=>i-k) (λk=>i-k-1) _ t.p]
theorem Zzc{lo m:Nat}:Sim prog w A E κ it id (countRun' lo m) (Zy3 lo m):=by
 unfold Zy3
 refine Zj (Zc8 (φ:=id) rfl λx b=>Yx Zgr (Zf rfl) λc=>Zt (Zf rfl) (Zf rfl)) λr=>?_
 obtain⟨r1,n⟩:=r
 cases r1 with
 | some v=>exact Zf rfl
 | none=>
  refine Zt (Zf rfl) (Zt (Yx Zgr (Zf rfl) λc=>Zt (Zf rfl) (Zj Zk1 λ_=>?_)) ?_)<;>(
   refine Zd9 (Zj (Zc8 (φ:=id) rfl λx b=>Yx Zgr (Zf rfl) λc=>Zt (Zt (Zj Zk1 λ_=>Zf rfl) (Zf rfl)) (Yx Zgr (Zf rfl) λd=>Zt (Zf rfl) (Zf rfl))) λr=>?_)
   obtain⟨r1,n,e⟩:=r
   cases r1 with
   | some v=>exact Zf rfl
   | none=>
    refine Zt (Zj Zk1 λ_=>?_) ?_<;>(
     refine Zj Zk1 λ_=>Zj (Zc8 (φ:=id) rfl λx b=>Yx Zgr (Zf rfl) λc=>Zt (Zf rfl) (Zf rfl)) λr=>?_
     obtain⟨r1,n⟩:=r
     cases r1 with
     | some v=>exact Zf rfl
     | none=>exact Zf rfl))
theorem Zx3{lo n ok:Nat}:Sim prog w A E κ it id (binarySort' lo n ok) (Z1d lo n ok):=by
 unfold Z1d
 refine Zj (Zc8 (φ:=id) rfl λk b=>?_) λr=>?_
 ·refine Zj (Zc8 (φ:=id) rfl λx b=>Zt (Zf rfl) (Yx Zgr (Zf rfl) λc=>Zt (Zf rfl) (Zf rfl))) λr=>?_
  obtain⟨r1,l,m⟩:=r
  cases r1 with
  | some v=>exact Zf rfl
  | none=>exact Zj Zzv λ_=>Zf rfl
 ·obtain⟨r1,r2⟩:=r
  cases r1 with
  | some v=>exact Zf rfl
  | none=>exact Zf rfl
end
end L2
namespace L2
open PySem PySem.Spec PyProof.Rows PySem.W
noncomputable def layA{γ:Type}(k:Nat)(m a:Array γ):Array γ:=m.toList.zipIdx.foldl (λa q=>a.setIfInBounds (k+q.2) q.1) a
noncomputable def Z7z(i:Nat):TM Bool:=do
 let t←Zjj
 let(some (c,n,u),some (d,m,_)):=(t.q[i]?,t.q[i+1]?)|Zsh
 Zk7 λ_=>{ t with q:=(t.q.setIfInBounds i (c,n+m,u)).eraseIdxIfInBounds (i+1) }
 let some k←Zlc false (←Zgz t.p d) t.p c n 0|return false
 let(c,n):=(c+k,n-k)
 if n==0 then return true
 let some m←Zlc true (←Zgz t.p (c+n-1)) t.p d m (m-1)|return false
 if m==0 then return true
 let x:=t.p.extract c d
 let y:=t.p.extract d (d+m)
 let z←if n≤m then Z71 x y else Z7x x y
 Zk7 λt=>{ t with p:=layA c z t.p }
 let _←Zjj
 return true
section
variable {prog:XH}{w:Qo}{A:Qk}{E:Xc->Xd->Prop}{κ:Bw}{it:Array VG}{α β γ:Type}
theorem Z0f{a:Bs}{t:TmS}(h:toS κ it t=a):Sim prog w A E κ it id (set a:StateT Bs Sem PUnit) (Zk7 λ_=>t):=λu s Q h1=>by
 obtain⟨r,e,h2⟩:=h1
 cases e
 unfold kasC
 rw[StateT.run_set,←h]
 exact X5 h2
theorem Zza{α β:Type}(f:α->β)(xs:Array α)(i:Nat)(v:α):(xs.map f).setIfInBounds i (f v)=(xs.setIfInBounds i v).map f:=by
 apply Array.ext_getElem?
 intro k
 rw[Array.getElem?_map,Array.getElem?_setIfInBounds,Array.getElem?_setIfInBounds,XX]
 split
 ·split<;>rfl
 ·rw[Array.getElem?_map]
theorem Zvh{α β:Type}(f:α->β)(k:Nat)(m a:Array α):layA k (m.map f) (a.map f)=(layA k m a).map f:=by
 unfold layA
 rw[Array.toList_map,List.zipIdx_map,List.foldl_map]
 generalize m.toList.zipIdx=l
 induction l generalizing a with
 | nil=>rfl
 | cons q l ih=>
  rw[List.foldl_cons,List.foldl_cons]
  show List.foldl _ ((a.map f).setIfInBounds (k+q.2) (f q.1)) l=_
  rw[Zza]
  exact ih _
theorem Z1b{a b:Array Nat}{c d:Array VG}(e:c=a.map (XJ it))(e':d=b.map (XJ it)):Sim prog w A E κ it (Uu (XJ it)) (Ycq c d) (Z71 a b):=e▸e'▸Z4q
theorem Z0u{a b:Array Nat}{c d:Array VG}(e:c=a.map (XJ it))(e':d=b.map (XJ it)):Sim prog w A E κ it (Uu (XJ it)) (Yby c d) (Z7x a b):=e▸e'▸Z4k
theorem Zxa{i:Nat}:Sim prog w A E κ it id (mergeAt' i) (Z7z i):=by
 unfold Z7z
 refine Zj Zcs λt=>?_
 have e1:(V6 (toS κ it t))[i]? =t.q[i]?:=rfl
 have e2:(V6 (toS κ it t))[i+1]? =t.q[i+1]?:=rfl
 generalize(V6 (toS κ it t))[i]? =o1 at e1⊢
 generalize(V6 (toS κ it t))[i+1]? =o2 at e2⊢
 subst e1 e2
 cases t.q[i]? with
 | none=>exact Zh5
 | some x=>
  cases t.q[i+1]? with
  | none=>exact Zh5
  | some y=>
   obtain⟨c,n,u⟩:=x
   obtain⟨d,m,v⟩:=y
   refine Zj (Z0f rfl) λ_=>Zj W6 λx=>Yx Zh2 (Zf rfl) λk=>Zt (Zf rfl) (Zj W6 λy=>Yx Zh2 (Zf rfl) λm=>Zt (Zf rfl) ?_)
   have ex:∀i j,(t.p.map (XJ it)).extract i j=(t.p.extract i j).map (XJ it):=λi j=>by rw[XC]
   refine Zt (Zj (Z1b (ex _ _) (ex _ _)) λz=>?_) (Zj (Z0u (ex _ _) (ex _ _)) λz=>?_)<;>(
    refine Zj (Zez λt=>?_) λ_=>Zj Zcs λt=>Zf rfl
    show Bu κ (layA (c+k) (z.map (XJ it)) (t.p.map (XJ it))) t.q t.g none=Bu κ ((layA (c+k) z t.p).map (XJ it)) t.q t.g none
    rw[Zvh])
noncomputable def Zt9:TM PUnit:=do
 let sz:=(←Zjj).p.size
 let mr:=minRun' sz sz 0
 let mut lo:=0
 for _ in Rg.mk 0 sz do
  if lo≥sz then break
  let some f←Zy3 lo (sz-lo)|return
  let mut n:=f
  if n<mr then
   let fo:=min (sz-lo) mr
   if !(←Z1d lo fo n)then return
   n:=fo
  if let some (c,m,_):=(←Zjj).q.back? then
   let u:=power' sz (2*c+m) (2*c+m+m+n) sz
   for _ in Rg.mk 0 sz do
    let z:=(←Zjj).q
    let some (_,_,v):=(if z.size>1 then z[z.size-2]? else none)|break
    if v≤u then break
    if !(←Z7z (z.size-2))then return
   Zk7 λt=>{ t with q:=t.q.modify (t.q.size-1) λ(c,m,_)=>(c,m,u) }
  Zk7 λt=>{ t with q:=t.q.push (lo,n,0) }
  lo:=lo+n
 for _ in Rg.mk 0 sz do
  let z:=(←Zjj).q
  if z.size≤1 then break
  let k:=z.size-2
  let bf:=if k>0 then z[k-1]?.map (·.2.1)else none
  let k:=if bf.any (·<(z[k+1]?.elim 0 (·.2.1)))then k-1 else k
  if !(←Z7z k)then return
theorem Zu5:Sim prog w A E κ it id sortRuns' Zt9:=by
 rw[sortRuns'_eq]
 unfold Zt9
 refine Zj Zcs λt=>?_
 have sz:(arrOf (toS κ it t)).size=t.p.size:=XX ..
 generalize(arrOf (toS κ it t)).size=n1 at sz⊢
 subst sz
 refine Zj (Zc8 (φ:=id) rfl λx b=>?_) λr=>?_
 ·refine Zt (Zf rfl) (Yx Zzc (Zf rfl) λf=>?_)
  refine Zt (Zd9 (Zj Zx3 λc=>Zt (Zf rfl) ?_)) ?_<;>(
   refine Zj Zcs λt2=>?_
   have e1:(V6 (toS κ it t2)).back? =t2.q.back?:=rfl
   generalize(V6 (toS κ it t2)).back? =o1 at e1⊢
   subst e1
   cases t2.q.back? with
   | none=>exact Zj (Zez λt=>rfl) λ_=>Zf rfl
   | some y=>
    obtain⟨c,m,v⟩:=y
    refine Zj (Zc8 (φ:=id) rfl λx b=>?_) λr=>?_
    ·refine Zj Zcs λt3=>?_
     have e1:V6 (toS κ it t3)=t3.q:=rfl
     generalize V6 (toS κ it t3)=z at e1⊢
     subst e1
     show Sim prog w A E κ it _ (match(if t3.q.size>1 then t3.q[t3.q.size-2]? else none)with|some (_,_,_)=>_|_=>_) (match(if t3.q.size>1 then t3.q[t3.q.size-2]? else none)with|some (_,_,_)=>_|_=>_)
     generalize(if t3.q.size>1 then t3.q[t3.q.size-2]? else none)=o
     cases o with
     | none=>exact Zf rfl
     | some y=>
      obtain⟨_,_,v⟩:=y
      exact Zt (Zf rfl) (Zj Zxa λc=>Zt (Zf rfl) (Zf rfl))
    ·obtain⟨r1,r2⟩:=r
     cases r1 with
     | some v=>exact Zf rfl
     | none=>exact Zj (Zez λt=>rfl) λ_=>Zj (Zez λt=>rfl) λ_=>Zf rfl)
 ·obtain⟨r1,lo⟩:=r
  cases r1 with
  | some v=>exact Zf rfl
  | none=>
   refine Zj (Zc8 (φ:=id) rfl λx b=>?_) λr=>?_
   ·refine Zj Zcs λt3=>?_
    have e1:V6 (toS κ it t3)=t3.q:=rfl
    generalize V6 (toS κ it t3)=z at e1⊢
    subst e1
    exact Zt (Zf rfl) (Zj Zxa λc=>Zt (Zf rfl) (Zf rfl))
   ·obtain⟨r1,r2⟩:=r
    cases r1 with
    | some v=>exact Zf rfl
    | none=>exact Zf rfl
end
end L2
namespace L2
open PySem PySem.Spec PyProof.Rows PySem.W
noncomputable def Z7c{α:Type}(lt:Nat->Nat->Bool)(n:Nat):KasT α->Option α
 | .ret a=>some a
 | .ask i j k=>if(Nat.blt i n&&Nat.blt j n)=true then Z7c lt n (k (lt i j))else none
theorem Z0l{α:Type}{lt:Nat->Nat->Bool}{n:Nat}{cmp:Nat->Nat->(Bool->Xd->Prop)->Xd->Prop}{s:Xd}{Q:α->Xd->Prop}(hc:∀i j C,i<n->j<n->C (lt i j) s->cmp i j C s){t:KasT α}{a:α}(h:Z7c lt n t=some a)(q:Q a s):t.kasWp cmp Q s:=by
 induction t with
 | ret b=>cases h;exact q
 | ask i j k ih=>
  rw[Z7c]at h
  split at h
  ·rename_i c
   rw[Xo]at c
   exact hc i j _ (Nat.le_of_ble_eq_true c.1) (Nat.le_of_ble_eq_true c.2) (ih _ h)
  ·cases h
noncomputable def Zrs(lt:Nat->Nat->Bool)(n:Nat):Option (List Nat):=(Z7c lt n (Zt9 ⟨(Xn n).toArray,#[],7⟩)).bind λo=>o.map λr=>r.2.p.toList
noncomputable def tLay{α:Type}(d:α)(l:List Nat)(vs:List α):List α:=l.map λi=>vs.getD i d
section
variable {prog:XH}{w:Qo}{A:Qk}{E:Xc->Xd->Prop}{s:Xd}
theorem Zqk{κ:Bw}{lt:Nat->Nat->Bool}{h0:Heap}{a:Addr}{vs:List Xc}{n:Nat}{P:PySem.Fin->Xd->Prop}{l:List Nat}(ho:s.heap.get? a=some (Q5 "list" vs.toArray n))
  (k0:∀b o,h0.get? b=some o->s.heap.get? b=some o) (ha0:h0.get? a=none) (h2:2≤vs.length) (hz:vs.length≤10000) (hl:Zrs lt vs.length=some l) (hp:l.length=vs.length)
  (hk:∀s':Xd,(∀b o,h0.get? b=some o->s'.heap.get? b=some o)->∀Q:Bw->Xd->Prop,Q κ s'->XQ (X7 prog w) A (keyKind' vs.toArray) Q E s')
  (hc:∀s':Xd,(∀b o,h0.get? b=some o->s'.heap.get? b=some o)->∀i j C,i<vs.length->j<vs.length->C (lt i j) s'->kas_ask prog w A κ vs i j C s')
  (h:P (.done (.ret .none)) { s with heap:=sortedHeap s.heap a vs (Bf (tLay QK l vs)) }):XQ (X7 prog w) A (V4.«list.sort» ⟨[.ref a],[]⟩) P E s:=by
 have ha:a<s.heap.objs.size:=XD ho
 obtain⟨e1,ho1⟩:∃e1,(s.heap.update a (QD λ_=>(#[]:Array Xc))).get? a=some (Q5 "list" #[] e1):=⟨_,get?_update_seq ho λ_=>#[]⟩
 have ho6:(((s.heap.update a (QD λ_=>(#[]:Array Xc))).push (Q5 "tuple" vs.toArray 0)).push (Q5 "list" #[] 0)).get? a=some (Q5 "list" #[] e1):=Xj _ (Xj _ ho1)
 have k6:∀b o,h0.get? b=some o->(((s.heap.update a (QD λ_=>(#[]:Array Xc))).push (Q5 "tuple" vs.toArray 0)).push (Q5 "list" #[] 0)).get? b=some o:=λb o e=>by
  refine Xj _ (Xj _ ?_)
  rw[Us _ _ _ _ (λq=>by rw[q,ha0]at e;cases e)]
  exact k0 b o e
 rw[list_sort_plain]
 refine Xf (listItems_at ho rfl ?_)
 refine Xf (listUpdate_at ho rfl ?_ (by rw[Xv,Qc];omega) (QV _))
 refine Xf (seqEpoch_at ho1 rfl ?_)
 refine Xf (wpAny_newTuple ?_ (by show vs.length≤_;rw[Qc];omega))
 refine Xf (wpAny_newList ?_ (QV _))
 refine VM ?_
 show XQ (X7 prog w) A _ P E { s with heap:=((s.heap.update a (QD λ_=>(#[]:Array Xc))).push (Q5 "tuple" vs.toArray 0)).push (Q5 "list" #[] 0) }
 dsimp only
 have hs:vs.toArray.size=vs.length:=Xv ..
 have n2:¬vs.toArray.size<2:=by omega
 rw[if_neg n2,if_neg n2]
 refine Xf (hk _ k6 _ ?_)
 have est:Bu κ (vs.toArray.zip vs.toArray) #[] 7 none=toS κ (VR vs) ⟨(Xn vs.length).toArray,#[],7⟩:=by
  have e:=kas_range (VR vs)
  rw[pairsOf_size]at e
  show Bu κ (VR vs) #[] 7 none=Bu κ ((Bf (Xn vs.length)).map (XJ (VR vs))) #[] 7 none
  rw[e]
 obtain⟨o,eo,hl⟩:=Option.bind_eq_some_iff.mp hl
 obtain⟨r0,er,hq⟩:=Option.map_eq_some_iff.mp hl
 subst er
 have run:=Zu5 (prog:=prog) (w:=w) (A:=A) (E:=E) (κ:=κ) (it:=VR vs) ⟨(Xn vs.length).toArray,#[],7⟩ { s with heap:=((s.heap.update a (QD λ_=>(#[]:Array Xc))).push (Q5 "tuple" vs.toArray 0)).push (Q5 "list" #[] 0) }
  (λ_ st' s'=>arrOf st'=r0.2.p.map (XJ (VR vs))∧failedOf st'=none∧s'={ s with heap:=((s.heap.update a (QD λ_=>(#[]:Array Xc))).push (Q5 "tuple" vs.toArray 0)).push (Q5 "list" #[] 0) })
  (Z0l (λi j C hi hj hC=>by
   have:=hc _ k6 i j C hi hj hC
   rw[kas_ask_eq]at this
   exact this) eo ⟨r0,rfl,rfl,rfl,rfl⟩)
 rw[←est]at run
 refine Xf (Br run ?_ λ_ _ e=>e)
 intro r s' z
 obtain⟨har,hf,rfl⟩:=z
 have hout:(arrOf r.2).map (·.2)=Bf (tLay QK l vs):=by
  apply Array.toList_inj.mp
  rw[har,Array.map_map,Array.toList_map,←hq]
  exact Xz λi _=>by show(XJ (VR vs) i).2=_;rw[kas_item_eq]
 rw[hout]
 refine Xf (seqEpoch_at ho6 rfl ?_)
 refine Xf (listUpdate_at ho6 rfl ?_ (QV _) (by rw[Xv,tLay,Xg,hp,Qc];omega))
 rw[hf]
 simp only[bne_self_eq_false,By,if_false]
 exact X5 h
theorem Zzy{κ:Bw}{lt:Nat->Nat->Bool}{l:Addr}{vs:List Xc}{p:List Nat}{Q:Xc->Xd->Prop}(hl:s.heap.IsList l vs.toArray)(h2:2≤vs.length)(hz:vs.length≤10000)(ho:Zrs lt vs.length=some p)(hp:p.length=vs.length)
  (hk:∀s':Xd,(∀b o,s.heap.get? b=some o->s'.heap.get? b=some o)->∀Q:Bw->Xd->Prop,Q κ s'->XQ (X7 prog w) A.in1.in1 (keyKind' vs.toArray) Q E s')
  (hc:∀s':Xd,(∀b o,s.heap.get? b=some o->s'.heap.get? b=some o)->∀i j C,i<vs.length->j<vs.length->C (lt i j) s'->kas_ask prog w A.in1.in1 κ vs i j C s')
  (h:Q (.ref (s.heap.objs.size+1)) { s with heap:=sortedAll s.heap vs (Bf (tLay QK p vs)) }):XQ (X7 prog w) A (call (.builtin "sorted") [.ref l]) Q E s:=by
 refine Calls.call_function_entry kind_sorted plain_sorted entry_sorted (args_sorted1 _) ?_
 unfold V4.«sorted»
 refine Xf (m:=checkCount "sorted" 1 1 _) (X5 ?_)
 refine Xf (collect_list hl ?_ (by rw[Qc];omega))
 refine Xf (wpAny_newList ?_ (by rw[Qc];omega))
 have hsz:((s.heap.push (Q5 "list" #[] 0)).update s.heap.objs.size (QD (· ++ vs.toArray))).objs.size=s.heap.objs.size+1:=by
  rw[Heap.size_update,size_push']
 have hoL:(((s.heap.push (Q5 "list" #[] 0)).update s.heap.objs.size (QD (· ++ vs.toArray))).push (Q5 "list" vs.toArray 0)).get? (s.heap.objs.size+1)=some (Q5 "list" vs.toArray 0):=by
  rw[←hsz];exact X3 _ rfl
 have keep:∀b o,s.heap.get? b=some o->(((s.heap.push (Q5 "list" #[] 0)).update s.heap.objs.size (QD (· ++ vs.toArray))).push (Q5 "list" vs.toArray 0)).get? b=some o:=λb o q=>by
  have hlt:b<s.heap.objs.size:=XD q
  rw[U8 _ _ _ (by rw[hsz];exact Xp (Nat.lt_succ_of_lt hlt)),Us _ _ _ _ (Xp hlt),U8 _ _ _ (Xp hlt)]
  exact q
 show XQ _ _ _ _ _ { s with heap:=((s.heap.push (Q5 "list" #[] 0)).update s.heap.objs.size (QD (· ++ vs.toArray))).push (Q5 "list" vs.toArray 0) }
 rw[hsz]
 refine Xf (VM (Vx slot_list_sort ⟨_,hoL,rfl⟩ entry_list_sort (Zqk (h0:=s.heap) hoL keep (Heap.get?_none_of_le (Nat.le_succ _)) h2 hz ho hp hk hc ⟨_,rfl,?_⟩) (args_list_sort _)))
 exact X5 ⟨_,rfl,h⟩
end
variable {G:Xb}
theorem Zsz{p:List Nat}{xs:List V}{us:List Xc}(h:Vals xs us):Vals (tLay .non p xs) (tLay .none p us):=by
 unfold tLay
 induction p with
 | nil=>exact .nil
 | cons i l ih=>
  refine .cons ?_ ih
  show RelV (xs.getD i V.non) (us.getD i QK)
  rw[Xh,Xh]
  cases e:xs[i]? with
  | some x=>
   obtain⟨u,e',r⟩:=h.get e
   rw[e'];exact r
  | none=>
   have:us[i]? =none:=JC (by rw[←h.length];exact Qg.mp e)
   rw[this];exact rfl
theorem Das.tLay{H:Hp}{L:Addr->Prop}{p:List Nat}{xs:List V}{ds:List Xa}(h:Das G H L xs ds):Das G H L (L2.tLay .non p xs) (L2.tLay .none p ds):=by
 unfold L2.tLay
 induction p with
 | nil=>exact .nil
 | cons i l ih=>
  refine .cons ?_ ih
  show Da G H L (xs.getD i .non) (ds.getD i .none)
  rw[Xh,Xh]
  cases e:xs[i]? with
  | some x=>
   obtain⟨u,e',r⟩:=h.get' e
   rw[e'];exact r
  | none=>
   have:ds[i]? =none:=JC (by rw[←h.length];exact Qg.mp e)
   rw[this];exact .non
noncomputable def Zog{α:Type}(kd:Xa->Option α)(lt:α->α->Bool)(K:Xb):List V->Hp->VK->Prop:=λxs H Q=>∃(a:Addr) (vs:List V) (L:Addr->Prop) (es:List Xa) (p:List Nat),xs=[.ref a]∧SqL K H a vs∧Das K H L vs es∧2≤vs.length∧vs.length≤10000∧Zrs (lk kd lt es) vs.length=some p∧p.length=vs.length∧keyed kd es∧∀l,H l=none->Q (.ref l) (upd H l (.lst (tLay .non p vs)))
section
variable {X:Cx}{α:Type}{kd:Xa->Option α}{lt:α->α->Bool}
theorem Zpz{K:Xb}(S:Z21 kd lt)(hK:X.K=K)(hu:X.A.units+64<Ui):Zcd X (.builtin "sorted") (Zog kd lt K):=by
 subst hK
 intro pins s σ H xs us Q I r h
 obtain⟨l,vs,L,es,p,rfl,hs,hd,h2,hz0,ho,hp,hk,q⟩:=h
 obtain⟨u,rfl,ru⟩:=vals1 r
 cases(show u=QX l from ru)
 obtain⟨its,rv,pl,hz⟩:=I.list hs
 have hl:=rv.length
 obtain⟨as,ra⟩:=hd.reads rfl I rv (Zj3 λd m=>by obtain⟨k,e⟩:=hk d m;exact S.lay d k e)
 obtain⟨κ,S1,S2⟩:=S.run
 obtain⟨z1,z2⟩:=readsAll_get ra
 rw[hl]at h2 hz0 ho hp
 refine Zzy (κ:=κ) (lt:=lk kd lt es) pl.isList h2 hz0 ho hp (λs' k Q q=>S1 _ _ _ _ s' _ es as Q h2 (ReadsAll.keeps k ra) hk q) (λs' k i j C hi hj hc=>?_) ?_
 ·rw[z1]at hi hj
  obtain⟨v,b1,e1,r1⟩:=z2 i _ (Xi hi)
  obtain⟨w,b2,e2,r2⟩:=z2 j _ (Xi hj)
  obtain⟨k1,q1⟩:=hk _ (Bb hi)
  obtain⟨k2,q2⟩:=hk _ (Bb hj)
  have ek:lk kd lt es i j=lt k1 k2:=by
   unfold lk
   rw[Xh,Xh,Xi hi,Xi hj]
   show((kd es[i]).bind λa=>(kd es[j]).map λb=>lt a b).getD false=_
   rw[q1,q2];rfl
  rw[ek]at hc
  unfold kas_ask
  rw[Xh,Xh,e1,e2]
  exact S2 _ _ _ _ s' v w _ _ _ _ k1 k2 C (show X.A.units+1+1+32<Ui by omega) (Reads.keeps k r1) (Reads.keeps k r2) q1 q2 hc
 ·obtain⟨e,he⟩:=sortedAll_at s.heap its (Bf (tLay QK p its))
  refine⟨.ref (s.heap.objs.size+1),_,I.laid (t':=s.toks) (o:=.lst (tLay .non p vs)) (λb ob q=>sortedAll_old q) (by omega) ⟨?_,tLay QK p its,e,Zsz rv,he⟩,rfl,q _ (I.hok.fresh (by omega))⟩
  rw[tLay,Xg,hp,Qc];omega
theorem Zqj{K:Xb}(S:Z21 kd lt)(hK:X.K=K)(hu:X.A.units+64<Ui):Zcd X (.builtin "sorted") (λxs H Q=>Zo2 kd lt K xs H Q∨Zog kd lt K xs H Q):=by
 intro pins s σ H xs us Q I r h
 rcases h with h|h
 ·exact Zee S hK hu pins s σ H xs us Q I r h
 ·exact Zpz S hK hu pins s σ H xs us Q I r h
noncomputable def Zr6(kd:Xa->Option α)(lt:α->α->Bool):List Xa->(OT->Prop)->Prop:=λds k=>n1 (λd=>∃(es:List Xa) (p:List Nat),d= .list es∧2≤es.length∧es.length≤10000∧Zrs (lk kd lt es) es.length=some p∧p.length=es.length∧keyed kd es∧k (.nd ((tLay .none p es).map OT.fz))) ds
theorem Zwu:PN G (Zog kd lt G) (Zr6 kd lt):=λH L xs ds k Q hx h kk=>by
 obtain⟨v,d,rfl,rfl,q,es,p,e,h2,hz,ho,hp,hk,h⟩:=hx.one h
 have fin:∀(vs:List V) (r:Addr),Das G H L vs es->H r=none->Q (.ref r) (upd H r (.lst (tLay .non p vs))):=λvs r hv hr=>kk _ _ _ [r] (Yl hr _) (Own.list hr hv.tLay) (Zff r) (Zcv hr) h
 subst e
 generalize ed:QT es=d at q
 cases q with
 | lst l e r=>
  cases ed
  exact⟨_,_,L,es,p,rfl,.inl e,r,by rw[r.length];exact h2,by rw[r.length];exact hz,by rw[r.length];exact ho,by rw[r.length];exact hp,hk,λp hp=>fin _ p r hp⟩
 | scr ks=>
  cases ed
  exact⟨_,_,L,_,p,rfl,ks.sq,Das.ints _,by rw[(Das.ints (G:=G) (H:=H) (L:=L) _).length];exact h2,by rw[(Das.ints (G:=G) (H:=H) (L:=L) _).length];exact hz,by rw[(Das.ints (G:=G) (H:=H) (L:=L) _).length];exact ho,by rw[(Das.ints (G:=G) (H:=H) (L:=L) _).length];exact hp,hk,λp hp=>fin _ p (Das.ints _) hp⟩
 | _=>cases ed
theorem Zu9:PN G (λxs H Q=>Zo2 kd lt G xs H Q∨Zog kd lt G xs H Q) (λds k=>Zol kd lt ds k∨Zr6 kd lt ds k):=λH L xs ds k Q hx h kk=>by
 rcases h with h|h
 ·exact .inl (Zho H L xs ds k Q hx h kk)
 ·exact .inr (Zwu H L xs ds k Q hx h kk)
noncomputable def Zxs(kd:Xa->Option α)(lt:α->α->Bool):List Xa->Option OT:=λds=>match ds with
 | [.list es]=>(Zrs (lk kd lt es) es.length).bind λp=>if(decide (2≤es.length)&&decide (es.length≤10000)&&decide (p.length=es.length)&&es.all λd=>(kd d).isSome)=true then some (.nd ((tLay .none p es).map OT.fz))else none
 | _=>none
noncomputable def Zry(kd:Xa->Option α)(lt:α->α->Bool):List Xa->Option OT:=λds=>match Zg0 kd lt ds with|some o=>some o|none=>Zxs kd lt ds
theorem Z0d:∀ds r k,Zry kd lt ds=some r->k r->Zol kd lt ds k∨Zr6 kd lt ds k:=λds r k h hk=>by
 unfold Zry at h
 split at h
 ·rename_i e
  cases h
  exact .inl (Zle ds _ k e hk)
 ·refine .inr ?_
  unfold Zxs at h
  split at h
  case h_2=>cases h
  obtain⟨p,hp,h⟩:=Option.bind_eq_some_iff.mp h
  split at h
  case isFalse=>cases h
  rename_i c
  rw[Xo,Xo,Xo]at c
  cases h
  exact⟨_,p,rfl,of_decide_eq_true c.1.1.1,of_decide_eq_true c.1.1.2,hp,of_decide_eq_true c.1.2,λd m=>U4.mp (Vd.mp c.2 d m),hk⟩
end
end L2
namespace L2
open PySem PySem.Spec PyProof.Rows PySem.W
structure Tot(lt:Nat->Nat->Bool)(n:Nat):Prop where
 tr:∀i j k,i<n->j<n->k<n->lt i j=true->lt j k=true->lt i k=true
 tot:∀i j,i<n->j<n->i≠j->lt i j=false->lt j i=true
 asy:∀i j,i<n->j<n->lt i j=true->lt j i=false
section
variable {lt:Nat->Nat->Bool}{n:Nat}
noncomputable abbrev gD(p:Array Nat)(i:Nat):Nat:=p.getD i 0
theorem kP.size{p:Array Nat}(h:kP n p):p.size=n:=by rw[←Bm,List.Perm.length_eq h,Xw]
variable (T:Tot lt n)
include T
end
end L2
namespace L2
open PySem PySem.Spec
noncomputable def EvP(e:FE)(δ:Zi)(Q:Xa->Zi->Prop):Prop:=∃t δ',e δ=some (t,δ')∧Q t.data δ'
noncomputable def EpT(t:FT)(δ:Zi)(Q:Bool->Zi->Prop):Prop:=∃b δ',t δ=some (b,δ')∧Q b δ'
noncomputable def EpS(S:FS)(δ:Zi)(N:Zi->Prop)(R:Xa->Zi->Prop):Prop:=(∃δ',S δ= .nx δ'∧N δ')∨∃o δ',S δ= .rt o δ'∧R o.data δ'
noncomputable def ToldI(F:FIO)(t:OT)(ds:List Xa)(Q:Xa->OT->Prop):Prop:=∃r t',F t ds=some (r,t')∧Q r.data t'
section
variable {e a b:FE}{as:FA}{δ:Zi}{Q:Xa->Zi->Prop}{QA:List Xa->Zi->Prop}{T:Bool->Zi->Prop}{t u:FT}{S S':FS}{N:Zi->Prop}{R:Xa->Zi->Prop}{i:Nat}{d:Xa}
theorem Zap(h:EvV e δ d)(q:Q d δ):EvP e δ Q:=by
 obtain⟨t,e1,e2⟩:=h
 exact⟨t,δ,e1,e2▸q⟩
theorem EvP.mono{Q':Xa->Zi->Prop}(h:EvP e δ Q)(k:∀d δ',Q d δ'->Q' d δ'):EvP e δ Q':=by
 obtain⟨t,δ',e1,q⟩:=h
 exact⟨t,δ',e1,k _ _ q⟩
theorem Zak{p:Bool}(h:EvT t δ p)(q:T p δ):EpT t δ T:=⟨p,δ,h,q⟩
theorem Z50{δ':Zi}(h:S δ= .nx δ')(q:N δ'):EpS S δ N R:=.inl ⟨δ',h,q⟩
theorem Zdj(h:EpS S δ (λδ'=>EpS S' δ' N R) R):EpS (Zz S S') δ N R:=by
 rcases h with⟨δ',e,h⟩|⟨o,δ',e,h⟩
 ·rcases h with⟨δ2,e2,q⟩|⟨o,δ2,e2,q⟩
  ·exact .inl ⟨δ2,by rw[Ziy,e,Zrl,e2],q⟩
  ·exact .inr ⟨o,δ2,by rw[Ziy,e,Zrl,e2],q⟩
 ·exact .inr ⟨o,δ',by rw[Ziy,e,Zxo],h⟩
theorem Zbz(h:EvP e δ R):EpS (wE e Yr) δ N R:=by
 obtain⟨t,δ',e1,q⟩:=h
 exact .inr ⟨t,δ',by rw[Zfd,e1];rfl,q⟩
theorem Zg8(h:EpT t δ λp δ'=>(p=true->EpS S δ' N R)∧(p=false->EpS S' δ' N R)):EpS (Jc t S S') δ N R:=by
 obtain⟨p,δ',e1,q1,q2⟩:=h
 have e:Jc t S S' δ=if p=true then S δ' else S' δ':=by unfold Jc;rw[e1]
 cases p with
 | true=>
  have g:=q1 rfl
  unfold EpS at g⊢
  rw[e];exact g
 | false=>
  have g:=q2 rfl
  unfold EpS at g⊢
  rw[e];exact g
theorem Zg7(q:N δ):EpS fNx δ N R:=.inl ⟨δ,rfl,q⟩
theorem EpS.mono{N':Zi->Prop}{R':Xa->Zi->Prop}(h:EpS S δ N R)(k:∀δ',N δ'->N' δ')(k2:∀d δ',R d δ'->R' d δ'):EpS S δ N' R' :=
 h.imp (λ⟨δ',e,q⟩=>⟨δ',e,k _ q⟩) λ⟨o,δ',e,q⟩=>⟨o,δ',e,k2 _ _ q⟩
theorem Zv2{g:FG}(I:Nat->Zi->Prop)(ds:List Xa)(m:Nat)(h0:I m δ)(turn:∀(k:Nat) (d:Xa) (δ:Zi),ds[k]? =some d->I (m+k) δ->∃δ1,g d δ=some δ1∧EpS S δ1 (I (m+k+1)) R)(fin:∀δ',I (m+ds.length) δ'->N δ') :
  (∃ δ',forLoop g S ds δ= .nx δ'∧N δ')∨∃o δ',forLoop g S ds δ= .rt o δ'∧R o.data δ':=by
 induction ds generalizing m δ with
 | nil=>exact .inl ⟨δ,rfl,fin δ h0⟩
 | cons d ds ih=>
  obtain⟨δ1,e1,h⟩:=turn 0 d δ rfl h0
  rcases h with⟨δ2,e2,q⟩|⟨o,δ2,e2,q⟩
  ·have e:forLoop g S (d :: ds) δ=forLoop g S ds δ2:=by rw[forLoop,e1];show(match S δ1 with| .nx δ2=>_| .ct δ2=>_| .bk δ2=>_|r=>_)=_;rw[e2]
   rw[e]
   refine ih (m+1) q (λk d' δ' hk hI=>?_) λδ' hI=>fin δ' (by rw[Ba];rw[show m+1+ds.length=m+(ds.length+1) by omega]at hI;exact hI)
   have:=turn (k+1) d' δ' hk (by rw[show m+(k+1)=m+1+k by omega];exact hI)
   rwa[show m+(k+1)+1=m+1+k+1 by omega]at this
  ·refine .inr ⟨o,δ2,?_,q⟩
   rw[forLoop,e1];show(match S δ1 with| .nx δ2=>_| .ct δ2=>_| .bk δ2=>_|r=>_)=_;rw[e2]
theorem Zln{it:FI}{g:FG}{ds:List Xa}{δ0:Zi}(I:Nat->Zi->Prop)(hi:it δ=some (ds,δ0))(h0:I 0 δ0)(turn:∀(k:Nat) (d:Xa) (δ:Zi),ds[k]? =some d->I k δ->∃δ1,g d δ=some δ1∧EpS S δ1 (I (k+1)) R)(fin:∀δ',I ds.length δ'->N δ'):EpS (Zco it g S) δ N R:=by
 have e:Zco it g S δ=forLoop g S ds δ0:=by unfold Zco;rw[hi]
 have h:=Zv2 (R:=R) (N:=N) (S:=S) (g:=g) (δ:=δ0) I ds 0 h0 (λk d δ hk hI=>by rw[Uw]at hI⊢;exact turn k d δ hk hI) (λδ' hI=>by rw[Uw]at hI;exact fin δ' hI)
 unfold EpS
 rw[e];exact h
theorem ToldI.mono{F:FIO}{t0:OT}{ds:List Xa}{Q Q':Xa->OT->Prop}(h:ToldI F t0 ds Q)(k:∀d t,Q d t->Q' d t):ToldI F t0 ds Q':=by
 obtain⟨r,t',e,q⟩:=h
 exact⟨r,t',e,k _ _ q⟩
theorem Z48{g:FG}(I:Nat->List Xa->Zi->Prop)(ds:List Xa)(m:Nat)(acc:List Xa)(h0:I m acc δ)(turn:∀(k:Nat) (d:Xa) (acc:List Xa) (δ:Zi),ds[k]? =some d->I (m+k) acc δ->∃δ1,g d δ=some δ1∧EpT t δ1 λp δ2=>(p=true->EvP e δ2 λd δ3=>I (m+k+1) (acc ++ [d]) δ3)∧(p=false->I (m+k+1) acc δ2)) :
  ∃ts δ',compLoop g t e ds δ=some (ts,δ')∧I (m+ds.length) (acc ++ ts.map OT.data) δ':=by
 induction ds generalizing m acc δ with
 | nil=>exact⟨[],δ,rfl,by rw[List.map_nil,JQ];exact h0⟩
 | cons d ds ih=>
  obtain⟨δ1,e1,p,δ2,e2,q1,q2⟩:=turn 0 d acc δ rfl h0
  have next:∀(k:Nat) (d:Xa) (acc:List Xa) (δ:Zi),ds[k]? =some d->I (m+1+k) acc δ->∃δ1,g d δ=some δ1∧EpT t δ1 λp δ2=>(p=true->EvP e δ2 λd δ3=>I (m+1+k+1) (acc ++ [d]) δ3)∧(p=false->I (m+1+k+1) acc δ2):=λk d acc δ hk hI=>by
   have:=turn (k+1) d acc δ hk (by rw[show m+(k+1)=m+1+k by omega];exact hI)
   rwa[show m+(k+1)+1=m+1+k+1 by omega]at this
  have el:m+1+ds.length=m+(ds.length+1):=by omega
  cases p with
  | true=>
   obtain⟨o,δ3,e3,hI⟩:=q1 rfl
   obtain⟨ts,δ',e4,hf⟩:=ih (m+1) (acc ++ [o.data]) hI next
   refine⟨o :: ts,δ',?_,?_⟩
   ·rw[compLoop,e1];show(t δ1).bind _=_;rw[e2];show(e δ2).bind _=_;rw[e3];show(compLoop g t e ds δ3).bind _=_;rw[e4];rfl
   ·rw[Ba,←el,Ql];rw[V3]at hf;exact hf
  | false=>
   obtain⟨ts,δ',e4,hf⟩:=ih (m+1) acc (q2 rfl) next
   refine⟨ts,δ',?_,by rw[Ba,←el];exact hf⟩
   rw[compLoop,e1];show(t δ1).bind _=_;rw[e2];exact e4
end
end L2
namespace L2
open PySem PySem.Spec PyProof.Rows
variable {G:Xb}
open Classical in
noncomputable def les(H:Hp)(bs:List Addr):Hp:=λb=>if b∈bs then none else H b
theorem Zs3{H:Hp}{bs:List Addr}{b:Addr}(h:b∈bs):les H bs b=none:=by unfold les;exact if_pos h
theorem Zcx{H:Hp}{bs:List Addr}{b:Addr}(h:b∉bs):les H bs b=H b:=by unfold les;exact if_neg h
theorem Zkd{H:Hp}{bs:List Addr}{b:Addr}(h:les H bs b=none):b∈bs∨H b=none:=by
 by_cases z:b∈bs
 ·exact .inl z
 ·rw[Zcx z]at h;exact .inr h
theorem Zuw{H:Hp}{bs:List Addr}{b:Addr}{o}(h:les H bs b=some o):b∉bs∧H b=some o:=by
 by_cases z:b∈bs
 ·rw[Zs3 z]at h;cases h
 ·rw[Zcx z]at h;exact⟨z,h⟩
section
variable {X:Cx}{io:List Nat}{p p' p'' c c':Bool}{e a b:Expr}{m ma mb:MEt}{es rest:List Expr}{mr:MAt}{pos:Pos}
variable {CX:CXT}{k:Nat}{f:Addr}{fd:Xx}{ps:List Str}{E:XK}{x:Str}{pp:Pos}
theorem Rel.less{C:MC G}{H:Hp}{σ:St}{δ:Zi}{fp:Fp}{ex:Addr->Prop}{new:List Addr}(R:Rel C io H σ δ fp (exu ex new))(hm:∀a∈new,∃xs:MuO,H a=some xs.ho)(h0:∀a∈new,C.H₀ a=none)(hx:∀a∈new,¬ex a) :
  Rel C io (les H new) σ δ fp ex:=by
 refine⟨R.len,λi t e=>?_,R.emp,R.nd,R.dj,λi a h z=>R.dx i a h (.inl z),λa z w=>?_,λb o e n=>?_,λb z=>?_,R.new,R.io⟩
 ·obtain⟨v,e1,o⟩:=R.own i t e
  refine⟨v,e1,o.frame (λa xs l q=>?_) (λa xs q=>?_) λa m xs q=>?_⟩
  ·have na:a∉new:=λz=>l.2.1 (.inr z)
   refine⟨⟨l.1,λz=>l.2.1 (.inl z),l.2.2⟩,?_⟩
   rcases q with q|⟨u,q⟩
   ·exact .inl (by rw[Zcx na];exact q)
   ·exact .inr ⟨u,by rw[Zcx na];exact q⟩
  ·rw[Zcx λz=>by
    obtain⟨ys,e⟩:=hm a z
    exact ImO.nm q e]
   exact q
  ·rw[Zcx λz=>R.dx i a m (.inr z)]
   exact q
 ·rcases Zkd w with w|w
  ·exact hx a w z
  ·exact R.xa a (.inl z) w
 ·rw[Zcx λz=>by rw[h0 b z]at e;cases e]
  exact R.fr b o e n
 ·rcases Zkd z with z|z
  ·exact h0 b z
  ·exact R.al b z
end
section
variable {H:Hp}{L:Addr->Prop}{vs:List V}{ds:List Xa}{N:List Str}
variable {P:XH}{w:Qo}{K:Xb}{mg:Str->Option Xc}{base:Heap}
end
noncomputable abbrev FJO:=OT->OT->Option (OT×OT)
section
variable {X:Cx}{io:List Nat}{p c:Bool}{e:Expr}{i:Nat}{ra:FE}
variable {P:XH}{w:Qo}{K:Xb}{mg:Str->Option Xc}{base:Heap}{x qual:Str}{st:Stmt}{f:Addr}{fd:Xx}{N ps:List Str}{n np nn:Nat}{S:FS}
noncomputable def ToldJ(F:FJO)(t t1:OT)(Q:OT->OT->Prop):Prop:=∃r t',F t t1=some (r,t')∧Q r t'
theorem ToldJ.mono{F:FJO}{t t1:OT}{Q Q':OT->OT->Prop}(h:ToldJ F t t1 Q)(k:∀r t',Q r t'->Q' r t'):ToldJ F t t1 Q':=by
 obtain⟨r,t',h,q⟩:=h
 exact⟨r,t',h,k _ _ q⟩
end
variable {G:Xb}
noncomputable def spM(G:Xb)(S:List OT->(OT->Prop)->Prop):Sp:=λvs H Q _=>∃L ts as k,Owns G H L vs ts as∧as.Nodup∧(∀a∈as,¬L a)∧S ts k∧
 ∀r v H' new,k r->Same (les H as) H'->Own G H' (λa=>(L a∨les H as a=none)∧a∉new) v r new->new.Nodup->(∀a∈new,les H as a=none)->Q v H'
section
variable {X:Cx}{io:List Nat}{p c:Bool}{e:Expr}{es:List Expr}{mr:MAt}{pos:Pos}
variable {CX:CXT}{k:Nat}{f:Addr}{fd:Xx}{ps:List Str}{E:XK}{x:Str}{pp:Pos}
noncomputable def Zrg(S:List OT->(OT->Prop)->Prop)(mr:MAt):MEt:=λδ K=>mr δ λrs δ1=>S rs λr=>K r δ1
theorem Z3d{S}{t:TA}(sa:SA G io p true t mr):SE G io p true (Zyc (spM G S) [] E t) (Zrg S mr):=by
 intro C H σ δ fp ex K Q R h kk
 refine sa C H σ δ fp ex _ _ R h λH1 vs rs δ1 fp1 new1 r1 h1=>?_
 rw[JQ]
 refine⟨Lf C fp1 (exu ex new1),rs,new1,_,r1.own.wide λa l _=>l rfl,r1.nd,λa m l=>l.2.1 (.inr m),h1,λr v H' new kr s o nd hn=>?_⟩
 have Rm:Rel C io (les H1 new1) σ δ1 fp1 ex:=r1.rel.less (λa z=>r1.own.some a z) (λa z=>R.al a (r1.fresh a z)) λa z w=>R.xa a w (r1.fresh a z)
 have S1:Stp p H δ fp (les H1 new1) δ1 fp1:=⟨λb o e q=>by
   rw[Zcx λz=>by rw[r1.fresh b z]at e;cases e]
   exact r1.stp.keep b o e q,r1.stp.env,r1.stp.grow,λb z=>by
   rcases Zkd z with z|z
   ·exact r1.fresh b z
   ·exact r1.stp.al b z⟩
 refine kk H' v r δ1 fp1 new (RE.tree R Rm S1 s hn nd (o.wide λa l _=>⟨?_,l.2⟩)) kr
 rcases l.1 with l1|l1
 ·exact .inl λ_=>⟨l1.1,λz=>l1.2.1 (.inl z),l1.2.2⟩
 ·exact .inr l1
theorem Zzr{S}(F:FnOk X.prog X.w X.K X.mg X.base CX k f fd ps (spM X.K S))(hr:Room k X.A)(hg:Gl X x)(hm:X.mg x=some (.ref f))(hk:BZ X.K (.ref f)=true)(hb:Binds X.K fd ps [])(hx:Zmp CX X E)
  (ha:MA X io p true (e :: es) mr) (hdb:(x==("__debug__" : Str))=false:=by decide) (he:Xq (e :: es) X.env=(false,eval e X.env) :: Xq es X.env:=by rfl) (hpl:(BV pos (Xq es X.env)).any (·.1)=false:=by rfl) :
  ME X io p true (.Call (.Name x pp) (e :: es) [] pos) (Zrg S mr):=by
 obtain⟨_,A,sa⟩:=ha
 exact⟨_,Zte F hr hg hm hk hb .nil hx A hdb he hpl,Z3d sa⟩
end
noncomputable def startM(n:Nat)(ts:List OT):Zi:=ts.map some ++ Xy (n-ts.length) none
section
variable {H:Hp}{L:Addr->Prop}{vs:List V}{N:List Str}
theorem Zu3{ts:List OT}{as:List Addr}(h:Owns G H L vs ts as):∃fp:Fp,(∀i t,ts[i]? =some t->∃v,vs[i]? =some v∧Own G H L v t (fp i))∧(∀i,ts[i]? =none->fp i=[])∧(∀i a,a∈fp i->a∈as)∧
  (as.Nodup->(∀i,(fp i).Nodup)∧∀i j a,a∈fp i->a∈fp j->i=j):=by
 induction ts generalizing vs as with
 | nil=>
  cases h
  exact⟨λ_=>[],λi t e=>by simp at e,λ_ _=>rfl,(λi a m=>nomatch m),λ_=>⟨λ_=>.nil,λi j a m=>nomatch m⟩⟩
 | cons t ts ih=>
  cases h with
  | cons o r=>
   rename_i y ys bs cs
   obtain⟨fp,h1,h2,h3,h4⟩:=ih r
   refine⟨λi=>Nat.casesOn i bs fp,λi u e=>?_,λi e=>?_,λi a m=>?_,λnd=>?_⟩
   ·cases i with
    | zero=>cases e;exact⟨_,rfl,o⟩
    | succ i=>exact h1 i u e
   ·cases i with
    | zero=>cases e
    | succ i=>exact h2 i e
   ·cases i with
    | zero=>exact BW _ m
    | succ i=>exact Qq _ (h3 i a m)
   ·obtain⟨n1,n2,n3⟩:=V0.mp nd
    obtain⟨h5,h6⟩:=h4 n2
    refine⟨λi=>?_,λi j a m m'=>?_⟩
    ·cases i with
     | zero=>exact n1
     | succ i=>exact h5 i
    ·cases i with
     | zero=>cases j with
      | zero=>rfl
      | succ j=>exact(n3 a m a (h3 j a m') rfl).elim
     | succ i=>cases j with
      | zero=>exact(n3 a m' a (h3 i a m) rfl).elim
      | succ j=>exact congrArg _ (h6 i j a m m')
theorem Zt4{ts:List OT}{i n:Nat}{t:OT}(h:(ts.map some ++ Xy n none:Zi)[i]? =some (some t)):ts[i]? =some t:=by
 rw[List.getElem?_append]at h
 split at h
 ·rw[Xm]at h
  cases e:ts[i]? with
  | none=>rw[e]at h;cases h
  | some d=>rw[e]at h;cases h;rfl
 ·rw[VJ]at h
  split at h<;>cases h
theorem Rel.entryM{ts:List OT}{as:List Addr}{fp:Fp}(o:Owns G H L vs ts as)(hL:∀a∈as,¬L a)(h1:∀i t,ts[i]? =some t->∃v,vs[i]? =some v∧Own G H L v t (fp i))(h2:∀i,ts[i]? =none->fp i=[])(h3:∀i a,a∈fp i->a∈as)(h5:∀i,(fp i).Nodup)(h6:∀i j a,a∈fp i->a∈fp j->i=j) :
  Rel (G:=G) ⟨les H as,λ_=>False,L,start N vs⟩ [] H (start N vs) (startM N.length ts) fp (λ_=>False):=by
 refine⟨?_,λi t e=>?_,λi h=>?_,h5,h6,λi a m z=>z,λa z=>z.elim,λb o e _=>(Zuw e).2,λb e=>?_,λi a m=>.inr (Zs3 (h3 i a m)),λi m=>nomatch m⟩
 ·unfold L2.start L2.startM
  simp[o.length]
 ·obtain⟨v,e1,q⟩:=h1 i t (Zt4 e)
  refine⟨v,?_,q.wide λa l _=>⟨λz=>?_,λz=>z,.inl l⟩⟩
  ·unfold L2.start
   rw[BR (by rw[Xg];exact(Xk.mp e1).1),Xm,e1];rfl
  ·obtain⟨j,z⟩:=z
   exact hL a (h3 j a z) l
 ·cases q:ts[i]? with
  | none=>exact h2 i q
  | some t=>
   refine absurd ?_ (h t)
   unfold L2.startM
   rw[BR (by rw[Xg];exact(Xk.mp q).1),Xm,q];rfl
 ·show les H as b=none
  by_cases z:b∈as
  ·exact Zs3 z
  ·rw[Zcx z];exact e
variable {P:XH}{w:Qo}{K:Xb}{mg:Str->Option Xc}{base:Heap}
theorem Fun.okM{x qual:Str}{st:Stmt}{f:Addr}{fd:Xx}{N ps:List Str}{n:Nat}{S:List OT->(OT->Prop)->Prop}(F:Fun K x qual st f fd)(Sc:Zv N ps (Zn st))(len:∀ts k,S ts k->ts.length=ps.length)
  (hbody:∀(cdv:Xc) (A:Qk) (outer:List Env) (s:Xd) (H:Hp) (E:XK),Room n (A.deeper (envOfC qual (Zn st) s.heap.objs.size f cdv)) ->
   ∃m,MSs (Zuc CX0 P w K mg base N qual (Zn st) f cdv A outer s H E).nox [] (Zbb st) m∧∀ts k,S ts k->m (Zr0 k) (startM N.length ts)):FnOk P w K mg base CX0 (n+1) f fd ps (spM K S):=by
 refine F.ok Sc (λvs H Q E h=>?_) (λcdv A outer s H vs Q E hr h=>?_)
 ·obtain⟨L,ts,as,k,o,_,_,h2,_⟩:=h
  rw[o.length]
  exact len ts k h2
 ·obtain⟨L,ts,as,k,o,nd,hL,h2,h3⟩:=h
  obtain⟨m,⟨t,A1,s1⟩,q⟩:=hbody cdv A outer s H E hr
  obtain⟨fp,g1,g2,g3,g4⟩:=Zu3 o
  refine⟨t,A1,s1 ⟨les H as,λ_=>False,L,start N vs⟩ H _ _ _ _ (Zr0 k) _ (Rel.entryM o hL g1 g2 g3 (g4 nd).1 (g4 nd).2) (q ts k h2) ⟨λH' σ' δ' fp' R _ hk=>?_,λ_ _ _ _ _ _ z=>z.elim,λ_ _ _ _ _ _ z=>z.elim,λH' σ' v r δ' fp' new R o nd hn hk=>?_⟩⟩
  ·exact h3 _ .non H' [] hk (λb o e=>R.fr b o e id) (.fz .non) .nil λa m=>nomatch m
  ·refine h3 r v H' new hk (λb o e=>R.fr b o e id) (o.wide λa l _=>⟨l.2.2,λz=>l.2.1 (.inr z)⟩) nd hn
end
noncomputable abbrev FM:=List OT->RF
noncomputable def sM(F:FM):List OT->(OT->Prop)->Prop:=λts k=>∃r,F ts= .ok r∧k r
noncomputable def Z1v(np n:Nat)(S:FS):FM:=λts=>if ts.length=np then(S (startM n ts)).told else .bad
noncomputable def Zpb(F:FM)(a:FA):FE:=λδ=>(a δ).bind λp=>match F p.1 with| .ok r=>some (r,p.2)|_=>none
section
variable {X:Cx}{io:List Nat}{p c:Bool}{e:Expr}{ra:FA}
theorem Zwt{F:FM}(h:ME X io p c e (Zrg (sM F) (o2 ra))):ME X io p c e (o2 (Zpb F ra)):=h.weak λδ K h=>by
 obtain⟨r,δ',h,k⟩:=h
 obtain⟨⟨x,δ1⟩,h1,h⟩:=bs h
 refine⟨x,δ1,h1,?_⟩
 dsimp only at h
 split at h
 ·rename_i q;cases h;exact⟨_,q,k⟩
 ·cases h
variable {P:XH}{w:Qo}{K:Xb}{mg:Str->Option Xc}{base:Heap}{x qual:Str}{st:Stmt}{f:Addr}{fd:Xx}{N ps:List Str}{n np nn:Nat}{S:FS}
theorem Z5p(F:Fun K x qual st f fd)(Sc:Zv N ps (Zn st))(hN:N.length=nn)(hp:np=ps.length)
  (hb:∀(cdv:Xc) (A:Qk) (outer:List Env) (s:Xd) (H:Hp) (E:XK),Room n (A.deeper (envOfC qual (Zn st) s.heap.objs.size f cdv))->MSs (Zuc CX0 P w K mg base N qual (Zn st) f cdv A outer s H E).nox [] (Zbb st) (oS S)) :
  FnOk P w K mg base CX0 (n+1) f fd ps (spM K (sM (Z1v np nn S))):=by
 subst hN hp
 refine F.okM Sc (λds k h=>?_) λcdv A outer s H E hr=>⟨_,hb cdv A outer s H E hr,λds k h=>?_⟩
 ·obtain⟨r,h,_⟩:=h
  unfold Z1v at h
  split at h
  ·assumption
  ·cases h
 ·obtain⟨r,h,hk⟩:=h
  unfold Z1v at h
  split at h
  ·exact RS.told_fits h hk
  ·cases h
end
variable {G:Xb}
noncomputable def Sg(z:Str)(t:Tok)(it:Addr)(i:Nat)(h:Heap):Prop:=h.IsStrIter it "str_ascii_iterator" z t i∨h.IsStrIter it "str_iterator" z t i
theorem Sg.keep{z:Str}{t:Tok}{it:Addr}{i:Nat}{h h':Heap}(q:Sg z t it i h)(k:∀o,h.get? it=some o->h'.get? it=some o):Sg z t it i h' :=
 q.imp (λ⟨o,a,b⟩=>⟨o,k o a,b⟩) λ⟨o,a,b⟩=>⟨o,k o a,b⟩
section
variable {P:XH}{w:Qo}{A:Qk}{E:Xc->Xd->Prop}{s:Xd}
structure Ap(z TI TO i1 i2:Addr):Prop where
 a1:TI≠z
 a2:TO≠z
 a3:i1≠z
 a4:i2≠z
 a5:i1≠TO
 a6:i2≠TO
 a7:i1≠i2
 a8:TI≠TO
 a9:TI≠i1
 a10:TI≠i2
noncomputable abbrev yT1(h:Heap)(x:Str)(t:Tok):Heap:=h.push { cls:=.type (strIterType x),data:=.fields #[.str x t,.int 0 0] }
noncomputable abbrev yT2(h:Heap)(x y:Str)(t u:Tok):Heap:=yT1 (yT1 h x t) y u
noncomputable abbrev yT3(h:Heap)(x y:Str)(t u:Tok):Heap:=(yT2 h x y t u).push { cls:=.type "tuple",data:=.seq #[.ref h.objs.size,.ref (yT1 h x t).objs.size] }
noncomputable abbrev yT4(h:Heap)(x y:Str)(t u:Tok):Heap:=(yT3 h x y t u).push { cls:=.type "tuple",data:=.seq #[.none,.none] }
noncomputable abbrev yT5(h:Heap)(x y:Str)(t u:Tok):Heap:=(yT4 h x y t u).push { cls:=.type "zip",data:=.fields #[.none,.bool false,.bool false,.ref (yT2 h x y t u).objs.size,.ref (yT3 h x y t u).objs.size] }
theorem Sg.at{h:Heap}{x:Str}{t:Tok}{it:Addr}(e:h.get? it=some { cls:=.type (strIterType x),data:=.fields #[.str x t,.int 0 0] }):Sg x t it 0 h:=by
 unfold strIterType at e
 split at e
 ·exact .inl ⟨_,e,rfl,rfl⟩
 ·exact .inr ⟨_,e,rfl,rfl⟩
end
section
variable {X:Cx}{io:List Nat}{p c:Bool}{a b:Expr}{mr:MAt}{ra:FA}
end
end L2
namespace L2
open PySem PySem.Spec PyProof.Rows PySem.W PySem.SeqAt
open AutoSeq1 (wpAny_loadPart')
open MeetsSeq MeetsSeq2 MeetsSeq3 SeqRoads2
theorem Zrw(l b:Addr)(items items2:Array Xc)(n n2:Nat)(dd dd2:Option Addr)(sl sl2:Array (Option Xc)){xs ys:List Int}(h1:Bg items.toList xs)(h2:Bg items2.toList ys)(k:Nat) :
  ∀i:Nat,items.size-i=k->i≤items.size->i≤items2.size->Meets (V4.«list.__eq__.loop» ⟨[.ref l,.ref b,rawInt i,rawInt 5],[]⟩)
   (λA R s=>s.heap.get? l=some { cls:=.type "list",dict:=dd,data:=.seq items n,slots:=sl }∧s.heap.get? b=some { cls:=.type "list",dict:=dd2,data:=.seq items2 n2,slots:=sl2 }∧
    R (.ok (.ret (.bool (!ltI (xs.drop i) (ys.drop i))))) s):=by
 have e1:items.size=xs.length:=Zea h1
 have e2:items2.size=ys.length:=Zea h2
 have fin:∀i,i≤items.size->i≤items2.size->(i=items.size∨i=items2.size)->(!ltI (xs.drop i) (ys.drop i))=decide (items.size≥items2.size):=λi u1 u2 c=>by
  rw[Zh8 (c.imp (λc=>Bq (by omega)) λc=>Bq (by omega)),QL,QL,←decide_not]
  exact decide_eq_decide.mpr (by omega)
 induction k with
 | zero=>
  intro i hk u1 u2 prog w A R s h
  obtain⟨hp,g,d,tk,os⟩:=s;obtain⟨hl,hb,h⟩:=h
  wp_walk using X4 hl,X4 hb
  have hi1:items[((i:Nat):Int).toNat]? =none:=by simp;omega
  rw[fin i u1 u2 (.inl (by omega))]at h
  rw[hi1]
  wp_walk using X4 hl,X4 hb
  exact h
 | succ k ih=>
  intro i hk u1 u2 prog w A R s h
  obtain⟨hp,g,d,tk,os⟩:=s;obtain⟨hl,hb,h⟩:=h
  have hlt:i<items.size:=by omega
  obtain⟨x,t,q1,q2⟩:=Zjy h1 i hlt
  have hi1:items[((i:Nat):Int).toNat]? =some (.int x t):=by rw[Qj,←q1,JR]
  wp_walk using X4 hl,X4 hb
  by_cases c:i<items2.size
  ·obtain⟨y,u,q3,q4⟩:=Zjy h2 i c
   have hi2:items2[((i:Nat):Int).toNat]? =some (.int y u):=by rw[Qj,←q3,JR]
   have hc:((i:Int)+1)=((i+1:Nat):Int):=by push_cast;rfl
   rw[q2,q4]at h
   unfold ltI at h
   rw[hi1,hi2]
   refine Xf (EqAt.int_int x t y u prog w _ _ ?_)
   by_cases cx:x=y
   ·rw[if_pos cx]at h
    rw[beq_iff_eq.mpr cx]
    wp_walk
    rw[hc]
    exact⟨plainId_quiet Vp _,UW entry_eq_loop (by
     rw[V8 Vp _]
     exact ih (i+1) (by omega) (by omega) (by omega) prog w A R _ ⟨hl,hb,h⟩)⟩
   ·rw[if_neg cx,←decide_not,decide_eq_decide.mpr (show¬x<y↔y≤x by omega)]at h
    rw[beq_eq_false_iff_ne.mpr cx]
    wp_walk using X4 hl,X4 hb
    rw[hi1,hi2]
    refine Xf (PyProof.Rows.ge_int ?_)
    wp_walk
    exact h
  ·have hi2:items2[((i:Nat):Int).toNat]? =none:=by simp;omega
   rw[fin i u1 u2 (.inr (by omega))]at h
   rw[hi1,hi2]
   wp_walk using X4 hl,X4 hb
   exact h
theorem Zto(l b:Addr)(items items2:Array Xc)(n n2:Nat)(dd dd2:Option Addr)(sl sl2:Array (Option Xc)){xs ys:List Int}(h1:Bg items.toList xs)(h2:Bg items2.toList ys) :
  Meets (V4.«list.__ge__» ⟨[.ref l,.ref b],[]⟩)
   (λA R s=>s.heap.get? l=some { cls:=.type "list",dict:=dd,data:=.seq items n,slots:=sl }∧s.heap.get? b=some { cls:=.type "list",dict:=dd2,data:=.seq items2 n2,slots:=sl2 }∧
    R (.ok (.ret (.bool (!ltI xs ys)))) s):=by
 intro prog w A R s h
 obtain⟨hp,g,d,tk,os⟩:=s;obtain⟨hl,hb,h⟩:=h
 have f3:=AutoSeq1.sub_list_list
 wp_walk using X4 hl,X4 hb
 exact⟨plainId_quiet Vp _,UW entry_eq_loop (by
  rw[V8 Vp _]
  exact Zrw l b items items2 n n2 dd dd2 sl sl2 h1 h2 _ 0 rfl (QV _) (QV _) prog w A R _ ⟨hl,hb,h⟩)⟩
end L2
namespace L2
open PySem PySem.Spec PyProof.Rows
variable {G:Xb}
section
variable {X:Cx}
noncomputable def Ya9(K:Xb):R2:=λx y H Q=>∃(L L':Addr->Prop) (ns ms:List Int),Da K H L x (.list (ns.map Xl))∧Da K H L' y (.list (ms.map Xl))∧Q (.bl (!ltI ns ms)) H
theorem Z61(hu:X.A.units+64<Ui):OpR X (JS .GtE) (Ya9 X.K):=by
 intro pins s σ H x y v u Q I rx ry h
 obtain⟨L,L',ns,ms,h1,h2,q⟩:=h
 obtain⟨as,k1⟩:=h1.reads rfl I rx (lay_ints ns).1
 obtain⟨bs,k2⟩:=h2.reads rfl I ry (lay_ints ms).1
 obtain⟨a,i1,rfl,⟨⟨cls,dd,data,sl⟩,hl,hc,n,hd⟩,z1⟩:=Wc k1
 obtain⟨b,i2,rfl,⟨⟨cls2,dd2,data2,sl2⟩,hl2,hc2,n2,hd2⟩,z2⟩:=Wc k2
 simp only at hc hd hc2 hd2
 subst hc hd hc2 hd2
 exact richCompare_meets_room (op:=.GtE) ⟨_,hl,rfl⟩ ⟨_,hl2,rfl⟩ F.slot_list_ge F.entry_list_ge (F.args_list_ge_2 _ _) (Zto a b i1 i2 n n2 dd dd2 sl sl2 z1 z2)
  ⟨hl,hl2,show Uv (!ltI ns ms)≠Value.notImplemented∧_ from⟨(λx=>nomatch x),⟨.bl (!ltI ns ms),H,I,rfl,q⟩⟩⟩ (by omega)
noncomputable def Z6g:Xa->Xa->Option Xa:=λd e=>match d,e with
 | .list ds,.list es=>(Zb8 ds).bind λns=>(Zb8 es).bind λms=>some (.bool (!ltI ns ms))
 | _,_=>none
noncomputable def Yc7:Xa->Xa->(Xa->Prop)->Prop:=λd e k=>∃r,Z6g d e=some r∧k r
theorem Z80:ByS Z6g Yc7:=λ_ _ r _ h hk=>⟨r,h,hk⟩
theorem Z18:P2s G (Ya9 G) Yc7:=λH L x y d e k Q hx hy h kk=>by
 obtain⟨r,h,hk⟩:=h
 unfold Z6g at h
 split at h
 case h_2=>cases h
 obtain⟨ns,h1,h⟩:=bs h
 obtain⟨ms,h2,h⟩:=bs h
 cases h
 rw[Zaj h1]at hx
 rw[Zaj h2]at hy
 exact⟨L,L,ns,ms,hx,hy,kk _ _ (.bl _) hk⟩
end
variable {G:Xb}
section
variable {X:Cx}
noncomputable def Z72(K:Xb):R2:=λx y H Q=>∃(L L':Addr->Prop) (ns ms:List Int),Da K H L x (.list (ns.map Xl))∧Da K H L' y (.list (ms.map Xl))∧Q (.bl (ltI ns ms)) H
theorem Z5z(hu:X.A.units+64<Ui):OpR X (JS .Lt) (Z72 X.K):=by
 intro pins s σ H x y v u Q I rx ry h
 obtain⟨L,L',ns,ms,h1,h2,q⟩:=h
 obtain⟨as,k1⟩:=h1.reads rfl I rx (lay_ints ns).1
 obtain⟨bs,k2⟩:=h2.reads rfl I ry (lay_ints ms).1
 obtain⟨a,i1,rfl,⟨⟨cls,dd,data,sl⟩,hl,hc,n,hd⟩,z1⟩:=Wc k1
 obtain⟨b,i2,rfl,⟨⟨cls2,dd2,data2,sl2⟩,hl2,hc2,n2,hd2⟩,z2⟩:=Wc k2
 simp only at hc hd hc2 hd2
 subst hc hd hc2 hd2
 exact richCompare_meets_room (op:=.Lt) ⟨_,hl,rfl⟩ ⟨_,hl2,rfl⟩ F.slot_list_lt F.entry_list_lt (F.args_list_lt_2 _ _) (Zmv a b i1 i2 n n2 dd dd2 sl sl2 z1 z2)
  ⟨hl,hl2,show Uv (ltI ns ms)≠Value.notImplemented∧_ from⟨(λx=>nomatch x),⟨.bl (ltI ns ms),H,I,rfl,q⟩⟩⟩ (by omega)
noncomputable def Z7m:Xa->Xa->Option Xa:=λd e=>match d,e with
 | .list ds,.list es=>(Zb8 ds).bind λns=>(Zb8 es).bind λms=>some (.bool (ltI ns ms))
 | _,_=>none
noncomputable def Z9j:Xa->Xa->(Xa->Prop)->Prop:=λd e k=>∃r,Z7m d e=some r∧k r
theorem Z9s:ByS Z7m Z9j:=λ_ _ r _ h hk=>⟨r,h,hk⟩
theorem Z2k:P2s G (Z72 G) Z9j:=λH L x y d e k Q hx hy h kk=>by
 obtain⟨r,h,hk⟩:=h
 unfold Z7m at h
 split at h
 case h_2=>cases h
 obtain⟨ns,h1,h⟩:=bs h
 obtain⟨ms,h2,h⟩:=bs h
 cases h
 rw[Zaj h1]at hx
 rw[Zaj h2]at hy
 exact⟨L,L,ns,ms,hx,hy,kk _ _ (.bl _) hk⟩
end
variable {G:Xb}{X:Cx}
noncomputable def Ycw(K:Xb):R2:=λx y H Q=>rI0 (λi j=>.bl (decide (i<j))) x y H Q∨Z72 K x y H Q
theorem Z32(hu:X.A.units+64<Ui):OpR X (JS .Lt) (Ycw X.K):=λpins s σ H x y v u Q I rx ry h=>h.elim (Zwk pins s σ H x y v u Q I rx ry) (Z5z hu pins s σ H x y v u Q I rx ry)
noncomputable def Ydh:Xa->Xa->(Xa->Prop)->Prop:=λd e k=>Zug (λi j=>.bool (decide (i<j))) d e k∨Z9j d e k
noncomputable def Z1t:Xa->Xa->Option Xa:=λd e=>(gLt d e).or (Z7m d e)
theorem Z8r:ByS Z1t Ydh:=λd e r k h hk=>by
 unfold Z1t at h
 cases c:gLt d e with
 | some z=>
  rw[c]at h
  cases h
  exact .inl (Z7y d e _ k c hk)
 | none=>
  rw[c]at h
  exact .inr (Z9s d e r k h hk)
theorem Z3u:P2s G (Ycw G) Ydh:=λH L x y d e k Q hx hy h kk=>h.elim (λh=>.inl (Zdi H L x y d e k Q hx hy h kk)) λh=>.inr (Z2k H L x y d e k Q hx hy h kk)
end L2
namespace My
open PySem L2 PySem.Spec
noncomputable def Zd0:FS :=
 (Zz (wE (Ze Je (Zq gIx (Zd 2) (fC (.int 0))) (fC (.int 9))) (Wb 3))
  (Zz (wE (Ze Je (Zq gIx (Zd 2) (fC (.int 1))) (Zal Zcp (Zc (Zd 0) Zo))) (Wb 4))
  (Zz (wE (Ze Je (Zq gIx (Zd 2) (fC (.int 2))) (Ze Zaq (Zal Zcp (Zc (Zd 0) Zo)) (fC (.int 1)))) (Wb 5))
  (Zz (Jc (tV (Ze gEq (Zd 3) (fC (.int 0))))
  (wE (Yk 1 [0] (iRa (Zc (Zd 1) Zo)) (gNm 0) (tV (Ze (Zyx true) (Zd 0) (Zd 1))) (Zd 0)) Yr)
  fNx)
  (Zz (Jc (tV (Ze gEq (Zd 3) (fC (.int 1))))
  (wE (Zq Zbx (Zq Zbx (fSl (Zd 0) oN (oI (Zd 4))) (Zav (Zc (Zq gIx (Zd 0) (Zd 4)) Zo))) (fSl (Zd 0) (oI (Zd 4)) oN)) Yr)
  fNx)
  (Zz (Jc (tV (Ze gEq (Zd 3) (fC (.int 2))))
  (wE (Zq Zbx (Zs7 (Zd 0) oN oN (oI (fUn Zp4 (fC (.int 1))))) (Zud (Zq gIx (Zd 0) (fC (.int 0))) (Zal Z1l (Zc (Ze gEq (Zal Zcp (Zc (Zd 0) Zo)) (fC (.int 1))) Zo)))) Yr)
  fNx)
  (Zz (Jc (tV (Ze gEq (Zd 3) (fC (.int 3))))
  (wE (Zq Zbx (Zq Zbx (fSl (Zd 0) oN (oI (Zd 5))) (Zav (Zc (Ze Zaq (Zd 1) (Ze Je (Zq gIx (Zd 2) (fC (.int 1))) (fC (.int 3)))) Zo))) (fSl (Zd 0) (oI (Zd 5)) oN)) Yr)
  fNx)
  (Zz (Jc (tV (Ze gEq (Zd 3) (fC (.int 4))))
  (wE (Zq Zbx (Zq Zbx (fSl (Zd 0) oN (oI (Zd 5))) (Zav (Zc (Zq gIx (Zav (Zc (fC (.int 0)) (Zc (Ze gSb (fUn Zp4 (fC (.int 1))) (Ze Je (Zq gIx (Zd 2) (fC (.int 1))) (fC (.int 3)))) Zo))) (Ze Je (Ze J6 (Zq gIx (Zd 2) (fC (.int 1))) (fC (.int 3))) (fC (.int 2)))) Zo))) (fSl (Zd 0) (oI (Zd 5)) oN)) Yr)
  fNx)
  (Zz (Jc (tV (Ze gEq (Zd 3) (fC (.int 5))))
  (wE (Zq Zbx (Zq Zbx (fSl (Zd 0) oN (oI (Zd 4))) (Zav (Zc (Zq gIx (Zav (Zc (fC (.int 0)) (Zc (Zd 1) (Zc (fUn Zp4 (fC (.int 1))) (Zc (fC (.int 99)) Zo))))) (Ze Je (Zq gIx (Zd 2) (fC (.int 2))) (fC (.int 4)))) Zo))) (fSl (Zd 0) (oI (Ze Zaq (Zd 4) (fC (.int 1)))) oN)) Yr)
  fNx)
  (Zz (Jc (tAn (tV (Ze gLt (Zd 3) (fC (.int 8)))) (tV (Ze gGt (Zal Zcp (Zc (Zd 0) Zo)) (fC (.int 1)))))
  (Zz (wE (Ze Zaq (fC (.int 1)) (Ze Je (Zq gIx (Zd 2) (fC (.int 1))) (Ze gSb (Zal Zcp (Zc (Zd 0) Zo)) (fC (.int 1))))) (Wb 4))
  (wE (Zq Zbx (Zq Zbx (fSl (Zd 0) oN (oI (Ze gSb (Zd 4) (fC (.int 1))))) (Zav (Zc (Zq gIx (Zd 0) (Zd 4)) (Zc (Zq gIx (Zd 0) (Ze gSb (Zd 4) (fC (.int 1)))) Zo)))) (fSl (Zd 0) (oI (Ze Zaq (Zd 4) (fC (.int 1)))) oN)) Yr))
  fNx)
  (wE (Zav Zo) Yr)))))))))))
noncomputable def J1:FD:=Zan 3 6 Zd0
noncomputable def Zd1:FS :=
 (Zz (wE (Zav (Zc (Zav Zo) Zo)) (Wb 1))
  (Zz (Zco (iRc (Zc (Ze gSb (Zd 0) (fC (.int 1))) (Zc (fC (.int 0)) (Zc (fUn Zp4 (fC (.int 1))) Zo)))) (gNm 2)
  (wE (Zq Zbx (Yk 1 [2] (Zcl (Zd 1)) (gNm 0) Zen (Zq Zbx (Zav (Zc (Zd 1) Zo)) (Zd 0))) (Zd 1)) (Wb 1)))
  (wE (fBl (Zg0 kdL ltI) (Zc (Yk 1 [] (Zcl (Zd 1)) (gNm 0) (tV (Ze gNe (Zd 0) (Zav Zo))) (Zd 0)) Zo)) Yr)))
noncomputable def Wh:FD:=Zan 1 3 Zd1
noncomputable def Zel:FS :=
 (Zz (wE (Zal Z1u (Zc (Zd 0) Zo)) (Wb 2))
  (Zz (wE (Zd 1) (Wb 3))
  (Zz (Zkc (tV (Ze gNe (Zd 3) (fC (.int 0)))) (Zz (wE (Ze Je (Zd 2) (Zd 3)) (Wb 4))
  (Zz (wE (Zd 3) (Wb 2))
  (wE (Zd 4) (Wb 3)))))
  (wE (Zc2 (Zc (Ze J6 (Zd 0) (Zd 2)) (Zc (Ze J6 (Zd 1) (Zd 2)) Zo))) Yr))))
noncomputable def Yj:FD:=Zan 2 5 Zel
noncomputable def Zdu:FS :=
 (wE (Zw Yj (Zc (Ze Zaq (Ze Ze8 (Zq gIx (Zd 0) (fC (.int 0))) (Zq gIx (Zd 1) (fC (.int 1)))) (Ze Ze8 (Zq gIx (Zd 1) (fC (.int 0))) (Zq gIx (Zd 0) (fC (.int 1))))) (Zc (Ze Ze8 (Zq gIx (Zd 0) (fC (.int 1))) (Zq gIx (Zd 1) (fC (.int 1)))) Zo))) Yr)
noncomputable def Yv:FD:=Zan 2 2 Zdu
noncomputable def Zbr:FS :=
 (Zz (wE (Ze Je (Zq gIx (Zd 2) (fC (.int 0))) (Zal Zcp (Zc (Zd 0) Zo))) (Wb 3))
  (Zz (wE (Zq gIx (Zd 0) (Zd 3)) (Z2i (gTp 2 (gCn (gNm 4) (gCn (gNm 5) gNl)))))
  (Zz (wE (Ze Je (Zq gIx (Zd 2) (fC (.int 1))) (fC (.int 12))) (Wb 6))
  (Zz (Jc (tV (Ze gLt (Zd 6) (fC (.int 4))))
  (Zz (wE (Zq gIx (Zav (Zc (Zc2 (Zc (Ze gSb (fC (.int 0)) (Zq gIx (Zd 5) (fC (.int 0)))) (Zc (Zq gIx (Zd 5) (fC (.int 1))) Zo))) (Zc (Zc2 (Zc (fUn Zp4 (fC (.int 1))) (Zc (Ze Zrn (fC (.int 10)) (fC (.int 6))) Zo))) Zo))) (Ze Je (Zq gIx (Zd 2) (fC (.int 3))) (fC (.int 2)))) (Wb 7))
  (Zz (wE (Zav (Zc (Zw Yv (Zc (Zd 5) (Zc (Zc2 (Zc (fC (.int 1)) (Zc (fC (.int 7)) Zo))) Zo))) (Zc (Zd 7) (Zc (Zc2 (Zc (fC (.int 0)) (Zc (fC (.int 1)) Zo))) (Zc (Zw Yv (Zc (Zd 5) (Zc (Zc2 (Zc (fUn Zp4 (fC (.int 1))) (Zc (Ze Zrn (fC (.int 10)) (fC (.int 9))) Zo))) Zo))) Zo))))) (Wb 8))
  (wE (Zq Zbx (Zq Zbx (fSl (Zd 0) oN (oI (Zd 3))) (Zav (Zc (Zc2 (Zc (Zd 4) (Zc (Zq gIx (Zd 8) (Zd 6)) Zo))) Zo))) (fSl (Zd 0) (oI (Ze Zaq (Zd 3) (fC (.int 1)))) oN)) Yr)))
  fNx)
  (Zz (Jc (tV (Ze gEq (Zd 6) (fC (.int 4))))
  (wE (Zq Zbx (fSl (Zd 0) oN (oI (Zd 3))) (fSl (Zd 0) (oI (Ze Zaq (Zd 3) (fC (.int 1)))) oN)) Yr)
  fNx)
  (Zz (Jc (tV (Ze gEq (Zd 6) (fC (.int 5))))
  (wE (Zq Zbx (Zq Zbx (fSl (Zd 0) oN (oI (Zd 3))) (Zav (Zc (Zq gIx (Zd 0) (Zd 3)) Zo))) (fSl (Zd 0) (oI (Zd 3)) oN)) Yr)
  fNx)
  (Zz (Jc (tV (Ze gEq (Zd 6) (fC (.int 6))))
  (Zz (wE (Zc2 (Zc (Zq gIx (Zd 5) (fC (.int 0))) (Zc (Ze Ze8 (fC (.int 2)) (Zq gIx (Zd 5) (fC (.int 1)))) Zo))) (Wb 9))
  (Zz (wE (Zw Yj (Zc (Zq gIx (Zd 9) (fC (.int 0))) (Zc (Zq gIx (Zd 9) (fC (.int 1))) Zo))) (Wb 9))
  (wE (Zq Zbx (Zq Zbx (fSl (Zd 0) oN (oI (Zd 3))) (Zav (Zc (Zc2 (Zc (Zd 4) (Zc (Zd 9) Zo))) (Zc (Zc2 (Zc (Zd 4) (Zc (Zd 9) Zo))) Zo)))) (fSl (Zd 0) (oI (Ze Zaq (Zd 3) (fC (.int 1)))) oN)) Yr)))
  fNx)
  (Zz (Jc (tV (Ze gEq (Zd 6) (fC (.int 7))))
  (wE (Zq Zbx (fSl (Zd 0) (oI (fC (.int 1))) oN) (fSl (Zd 0) oN (oI (fC (.int 1))))) Yr)
  fNx)
  (Zz (Jc (tAn (tV (Ze gEq (Zd 6) (fC (.int 8)))) (tV (Ze gGt (Zd 3) (fC (.int 0)))))
  (wE (Zq Zbx (Zq Zbx (fSl (Zd 0) oN (oI (Ze gSb (Zd 3) (fC (.int 1))))) (Zav (Zc (Zc2 (Zc (Zq gIx (Zq gIx (Zd 0) (Ze gSb (Zd 3) (fC (.int 1)))) (fC (.int 0))) (Zc (Zd 5) Zo))) (Zc (Zc2 (Zc (Zd 4) (Zc (Zq gIx (Zq gIx (Zd 0) (Ze gSb (Zd 3) (fC (.int 1)))) (fC (.int 1))) Zo))) Zo)))) (fSl (Zd 0) (oI (Ze Zaq (Zd 3) (fC (.int 1)))) oN)) Yr)
  fNx)
  (Zz (Jc (tV (Ze gEq (Zd 6) (fC (.int 9))))
  (Zz (wE (Zq gIx (Zw Wh (Zc (Zd 1) Zo)) (Ze Je (Zq gIx (Zd 2) (fC (.int 2))) (Zal Zcp (Zc (Zw Wh (Zc (Zd 1) Zo)) Zo)))) (Wb 4))
  (wE (fBl (Zg0 kdT ltT) (Zc (Zq Zbx (Yk 1 [4] (Zcl (Zd 0)) (gNm 0) (tV (Ze gNe (Zq gIx (Zd 0) (fC (.int 0))) (Zd 1))) (Zd 0)) (Zav (Zc (Zc2 (Zc (Zd 4) (Zc (Zc2 (Zc (Ze Zaq (fC (.int 1)) (Ze Je (Zq gIx (Zd 2) (fC (.int 3))) (fC (.int 5)))) (Zc (fC (.int 1)) Zo))) Zo))) Zo))) Zo)) Yr))
  fNx)
  (Zz (Jc (tV (Ze gEq (Zd 6) (fC (.int 10))))
  (wE (Zq Zbx (Zd 0) (Zav (Zc (Zq7 (Zc (Zav (Zc (Ze gSb (Zd 1) (fC (.int 1))) (Zc (Zd 1) Zo))) (Zc (Zc2 (Zc (fC (.int 1)) (Zc (fC (.int 1)) Zo))) Zo))) Zo))) Yr)
  fNx)
  (wE (Zq Zbx (Zq Zbx (fSl (Zd 0) oN (oI (Zd 3))) (Zav (Zc (Zc2 (Zc (Zw J1 (Zc (Zd 4) (Zc (Zd 1) (Zc (fSl (Zd 2) (oI (fC (.int 2))) oN) Zo)))) (Zc (Zd 5) Zo))) Zo))) (fSl (Zd 0) (oI (Ze Zaq (Zd 3) (fC (.int 1)))) oN)) Yr))))))))))))
noncomputable def W2:FD:=Zan 3 10 Zbr
noncomputable def Zdh:FS :=
 (wE (Yk 1 [] (Zcl (Zd 0)) (gNm 0) Zen (fBl Zlm (Zc (Zd 0) Zo))) Yr)
noncomputable def Za8:FD:=Zan 1 1 Zdh
noncomputable def Zbh:FS :=
 (Zz (wE (Zav Zo) (Ze7 2))
  (Zz (wE (Zd 0) (Wb 3))
  (Zz (wE (Ze Je (Zd 0) (fC (.int 2147483647))) (Wb 4))
  (Zz (Zco (iRa (Zc (Zd 1) Zo)) (gNm 5)
  (Jc (tAn (tV (Ze gGe (Zd 0) (Ze Zrn (fC (.int 10)) (fC (.int 18))))) (tV (Ze gGt (Zd 3) (fC (.int 0)))))
  (Zz (Jz 2 (Ze Je (Zd 3) (fC (.int 64))))
  (wE (Ze J6 (Zd 3) (fC (.int 64))) (Wb 3)))
  (Zz (wE (Ze Je (Ze Ze8 (Ze Zaq (Ze Zaq (Zd 4) (Ze Ze8 (fC (.int 7)) (Zd 5))) (fC (.int 3))) (fC (.int 48271))) (fC (.int 2147483647))) (Wb 4))
  (Zz (wE (Ze Je (Ze Ze8 (Ze Je (Ze Ze8 (Zd 4) (Zd 4)) (fC (.int 2147483629))) (fC (.int 69621))) (fC (.int 2147483587))) (Wb 6))
  (Jz 2 (Ze Je (Ze J6 (Zd 6) (fC (.int 8))) (fC (.int 720720))))))))
  (Ziq 2)))))
noncomputable def W3:FD:=Zan 2 7 Zbh
noncomputable def J9:FS :=
 (Zz (wE (Zal Zcp (Zc (Zn0 0) Zo)) (Wb 2))
  (Zz (Jc (tAn (tV (Ze gEq (Ze Je (Zq gIx (Zd 1) (fC (.int 0))) (fC (.int 7))) (fC (.int 1)))) (tV (Ze gGt (Zd 2) (fC (.int 1)))))
  (Zz (wE (Ze Je (Zq gIx (Zd 1) (fC (.int 1))) (Zd 2)) (Wb 3))
  (Zz (wE (Ze Je (Ze Zaq (Ze Zaq (Zd 3) (fC (.int 1))) (Ze Je (Zq gIx (Zd 1) (fC (.int 2))) (Ze gSb (Zd 2) (fC (.int 1))))) (Zd 2)) (Wb 4))
  (Zz (Zgf 0 (Zl6 (Zw Yv (Zc (Zq gIx (Zq gIx (Zn0 0) (Zd 3)) (Zd 4)) (Zc (Zc2 (Zc (fC (.int 1)) (Zc (Ze Zaq (fC (.int 1)) (Ze Je (Zq gIx (Zd 1) (fC (.int 3))) (fC (.int 5)))) Zo))) Zo)))) (Zd 3) (Zd 4))
  (Zgf 0 (Zl6 (Zq gIx (Zq gIx (Zn0 0) (Zd 3)) (Zd 4))) (Zd 4) (Zd 3)))))
  fNx)
  (Zz (Jc (tV (Ze gEq (Ze Je (Zq gIx (Zd 1) (fC (.int 0))) (fC (.int 7))) (fC (.int 2))))
  (Zz (Zc4 0 (wE (Yk 1 [] (Zcl (Zd 0)) (gNm 0) Zen (Zq Zbx (Zd 0) (Zav (Zc (Zq gIx (Zd 0) (fC (.int 0))) Zo)))) (Ze7 0)))
  (Jz 0 (Zov (fBl Zlm (Zc (Zq gIx (Zn0 0) (fC (.int 0))) Zo)))))
  fNx)
  (Zz (Jc (tAn (tV (Ze gEq (Ze Je (Zq gIx (Zd 1) (fC (.int 0))) (fC (.int 7))) (fC (.int 3)))) (tV (Ze gGt (Zd 2) (fC (.int 1)))))
  (Zc4 0 (wE (Yk 1 [2] (Zcl (fSl (Zd 0) oN (oI (Ze gSb (Zd 2) (fC (.int 1)))))) (gNm 0) Zen (fSl (Zd 0) oN (oI (Ze gSb (Zd 1) (fC (.int 1)))))) (Ze7 0)))
  fNx)
  (Ziq 0)))))
noncomputable def Wv:FM:=Z1v 2 5 J9
noncomputable def Zci:FS :=
 (Zz (Jc (tO (tNo (tD (Zjc "list" (Zd 1)))) (tV (Ze gEq (Zd 1) (Zav Zo))))
  (wE (fC (.bool false)) Yr)
  fNx)
  (Zz (Zco (iRa (Zc (Zal Zcp (Zc (Zd 1) Zo)) Zo)) (gNm 2)
  (Jc (tO (tNo (tD (Zjc "int" (Zq gIx (Zd 1) (Zd 2))))) (tO (tD (Zjc "bool" (Zq gIx (Zd 1) (Zd 2)))) (tO (tV (Ze gGe (Zq gIx (Zd 1) (Zd 2)) (Zd 0))) (tV (Ze gLe (Zq gIx (Zd 1) (Zd 2)) (Zq gIx (Zq Zbx (Zav (Zc (fC (.int 0)) Zo)) (Zd 1)) (Zd 2)))))))
  (wE (fC (.bool false)) Yr)
  fNx))
  (wE (fC (.bool true)) Yr)))
noncomputable def Jd:FD:=Zan 2 3 Zci
noncomputable def J7:FS :=
 (Zz (Jc (tO (tNo (tD (Zjc "tuple" (Zd 0)))) (tV (Ze gNe (Zal Zcp (Zc (Zd 0) Zo)) (fC (.int 2)))))
  (wE (fC (.bool false)) Yr)
  fNx)
  (Zz (Zco (iTp (Zd 0)) (gNm 1)
  (Jc (tO (tNo (tD (Zjc "int" (Zd 1)))) (tD (Zjc "bool" (Zd 1))))
  (wE (fC (.bool false)) Yr)
  fNx))
  (wE (Zk3 (Ze gGt (Zq gIx (Zd 0) (fC (.int 1))) (fC (.int 0))) (Ze gEq (Zw Yj (Zc (Zq gIx (Zd 0) (fC (.int 0))) (Zc (Zq gIx (Zd 0) (fC (.int 1))) Zo))) (Zd 0))) Yr)))
noncomputable def Ww:FD:=Zan 1 2 J7
noncomputable def Zde:FS :=
 (Zz (wE (Yk 1 [0] (iRa (Zc (Zd 0) Zo)) (gNm 0) Zen (Yk 1 [] (iRa (Zc (Zd 1) Zo)) (gNm 0) Zen (Zc2 (Zc (fC (.int 0)) (Zc (fC (.int 1)) Zo))))) (Ze7 2))
  (Zz (Zco (Zcl (Zd 1)) (gTp 2 (gCn (gNm 3) (gCn (gNm 4) gNl)))
  (Zco (Zcl (Zd 3)) (gNm 5)
  (Zco (iRa (Zc (Zd 0) Zo)) (gNm 6)
  (Jc (tV (Ze (Zyx true) (Zd 6) (Zd 3)))
  (Zz (Zgf 2 (Zl6 (Zw Yv (Zc (Zq gIx (Zq gIx (Zn0 2) (Zd 5)) (Zd 6)) (Zc (Zd 4) Zo)))) (Zd 5) (Zd 6))
  (Zgf 2 (Zl6 (Zq gIx (Zq gIx (Zn0 2) (Zd 5)) (Zd 6))) (Zd 6) (Zd 5)))
  fNx))))
  (Ziq 2)))
noncomputable def Yh:FD:=Zan 2 7 Zde
noncomputable def Zb9:FS :=
 (Zz (Jc (tNo (tD (Zjc "list" (Zd 1))))
  (wE (fC (.bool false)) Yr)
  fNx)
  (Zz (Zco (Zcl (Zd 1)) (gNm 3)
  (Zz (Jc (tO (tNo (tD (Zjc "tuple" (Zd 3)))) (tO (tV (Ze gNe (Zal Zcp (Zc (Zd 3) Zo)) (fC (.int 2)))) (tNo (tD (Zw Jd (Zc (Zd 0) (Zc (Zq gIx (Zd 3) (fC (.int 0))) Zo)))))))
  (wE (fC (.bool false)) Yr)
  fNx)
  (Jc (tO (tNo (tD (Zw Ww (Zc (Zq gIx (Zd 3) (fC (.int 1))) Zo)))) (tV (Ze gLt (Zq gIx (Zq gIx (Zd 3) (fC (.int 1))) (fC (.int 0))) (fC (.int 1)))))
  (wE (fC (.bool false)) Yr)
  fNx)))
  (Zz (Zco (Zeg (Zc (Zd 1) (Zc (fSl (Zd 1) (oI (fC (.int 1))) oN) Zo))) (gTp 2 (gCn (gNm 3) (gCn (gNm 4) gNl)))
  (Jc (tV (Ze Z6g (Zq gIx (Zd 3) (fC (.int 0))) (Zq gIx (Zd 4) (fC (.int 0)))))
  (wE (fC (.bool false)) Yr)
  fNx))
  (wE (Ze gEq (Zw Yh (Zc (Zd 0) (Zc (Zd 1) Zo))) (Zd 2)) Yr))))
noncomputable def Wf:FD:=Zan 3 5 Zb9
noncomputable def Zcj:FS :=
 (Zz (Jc (tV (Ze gEq (Ze Je (Zd 1) (fC (.int 4))) (fC (.int 0))))
  (wE (Zc2 (Zc (Ze Zaq (fC (.int 1)) (Ze Je (Zd 0) (fC (.int 9)))) (Zc (fC (.int 1)) Zo))) Yr)
  fNx)
  (Zz (Jc (tV (Ze gEq (Ze Je (Zd 1) (fC (.int 4))) (fC (.int 1))))
  (wE (Zw Yj (Zc (Ze Zaq (fC (.int 1)) (Ze Je (Zd 0) (fC (.int 12)))) (Zc (Ze Zaq (fC (.int 1)) (Ze Je (Ze J6 (Zd 0) (fC (.int 12))) (fC (.int 5)))) Zo))) Yr)
  fNx)
  (Zz (Jc (tV (Ze gEq (Ze Je (Zd 1) (fC (.int 4))) (fC (.int 2))))
  (wE (Zw Yj (Zc (Ze Zaq (fC (.int 1)) (Ze Je (Ze Ze8 (Zd 0) (fC (.int 641))) (fC (.int 100003)))) (Zc (Ze Zaq (fC (.int 1)) (Ze Je (Ze J6 (Zd 0) (fC (.int 3))) (fC (.int 97)))) Zo))) Yr)
  fNx)
  (wE (Zc2 (Zc (Ze Zaq (Ze Ze8 (Ze Zaq (fC (.int 1)) (Ze Je (Zd 0) (fC (.int 63)))) (Ze Zrn (fC (.int 10)) (fC (.int 30)))) (Zd 0)) (Zc (fC (.int 1)) Zo))) Yr))))
noncomputable def Zaf:FD:=Zan 2 2 Zcj
noncomputable def Za1:FS :=
 (Zz (wE (Zw Wh (Zc (Zd 0) Zo)) (Wb 2))
  (Zz (wE (Zav Zo) (Ze7 3))
  (Zz (Zco (iRa (Zc (Zal Z1n (Zc (Zal Zcp (Zc (Zd 2) Zo)) (Zc (fC (.int 16)) Zo))) Zo)) (gNm 4)
  (Zz (wE (Ze Je (Ze Zaq (Zq gIx (Zd 1) (fC (.int 0))) (Ze Ze8 (Zd 4) (Ze Zaq (fC (.int 1)) (Ze Ze8 (fC (.int 2)) (Ze Je (Zq gIx (Zd 1) (fC (.int 1))) (fC (.int 8))))))) (Zal Zcp (Zc (Zd 2) Zo))) (Wb 5))
  (Jc (tV (Ze gEq (Ze Je (Zq gIx (Zd 1) (Ze Zaq (fC (.int 2)) (Zd 4))) (Zq gIx (Zav (Zc (fC (.int 2)) (Zc (fC (.int 3)) (Zc (fC (.int 5)) (Zc (fC (.int 8)) Zo))))) (Ze Je (Zq gIx (Zd 1) (fC (.int 18))) (fC (.int 4))))) (fC (.int 0))))
  (Jz 3 (Zc2 (Zc (Zq gIx (Zd 2) (Zd 5)) (Zc (Zw Zaf (Zc (Ze Zaq (Ze J6 (Zq gIx (Zd 1) (Ze Zaq (fC (.int 2)) (Zd 4))) (fC (.int 8))) (Ze Ze8 (fC (.int 8)) (Zq gIx (Zd 1) (fC (.int 0))))) (Zc (Zq gIx (Zd 1) (fC (.int 19))) Zo))) Zo))))
  fNx)))
  (Zc4 3 (wE (fBl (Zg0 kdT ltT) (Zc (Yk 1 [3] (iRa (Zc (Zal Zcp (Zc (Zd 3) Zo)) Zo)) (gNm 0) (tV (Ze (Znn true) (Zq gIx (Zq gIx (Zd 1) (Zd 0)) (fC (.int 0))) (Yk 1 [] (Zcl (fSl (Zd 1) oN (oI (Zd 0)))) (gNm 0) Zen (Zq gIx (Zd 0) (fC (.int 0)))))) (Zq gIx (Zd 1) (Zd 0))) Zo)) Yr)))))
noncomputable def Wl:FD:=Zan 2 6 Za1
noncomputable def Zdv:FS :=
 (Zz (wE (Zav (Zc (Zav Zo) Zo)) (Wb 1))
  (Zz (Zco (iRb (Zc (fC (.int 1)) (Zc (Zd 0) Zo))) (gNm 2)
  (wE (Zq Zbx (Zd 1) (Yk 1 [2] (Zcl (Zd 1)) (gNm 0) Zen (Zq Zbx (Zd 0) (Zav (Zc (Zd 1) Zo))))) (Wb 1)))
  (wE (Yk 1 [] (Zcl (fBl (Zry kdL ltI) (Zc (Zd 1) Zo))) (gNm 0) (tV (Ze gGt (Zal Zcp (Zc (Zd 0) Zo)) (fC (.int 0)))) (Zd 0)) Yr)))
noncomputable def Zdq:FD:=Zan 1 3 Zdv
noncomputable def Zcg:FS :=
 (wE (Zal Zzi (Zc (Yk 2 [2] (Zeg (Zc (Zd 0) (Zc (Zd 1) Zo))) (gTp 2 (gCn (gNm 0) (gCn (gNm 1) gNl))) (tV (Ze gNe (Zq gIx (Zd 2) (Zq gIx (Zd 0) (fC (.int 0)))) (Zq gIx (Zd 2) (Zq gIx (Zd 0) (fC (.int 1)))))) (Zd 1)) Zo)) Yr)
noncomputable def Zck:FD:=Zan 3 3 Zcg
noncomputable def Zd3:FS :=
 (wE (Yk 1 [1] (iRa (Zc (Zd 0) Zo)) (gNm 0) Zen (fIf (tV (Ze (Zyx false) (Zd 0) (Zd 1))) (fC (.int 1)) (fC (.int 0)))) Yr)
noncomputable def Ju:FD:=Zan 2 2 Zd3
noncomputable def Zbp:FS :=
 (Zz (wE (Zw Yg (Zc (Zd 0) Zo)) (Wb 2))
  (Zz (Zco (Zcl (Zw Zdq (Zc (Zd 0) Zo))) (gNm 3)
  (Jc (tV (Ze gLt (Zw Zck (Zc (Zd 2) (Zc (Zd 1) (Zc (Zw Ju (Zc (Zd 0) (Zc (Zd 3) Zo))) Zo)))) (fC (.int 0))))
  (wE (fC (.bool false)) Yr)
  fNx))
  (wE (fC (.bool true)) Yr)))
noncomputable def Zbu:FD:=Zan 2 4 Zbp
noncomputable def Za6:FS :=
 (wE (Yk 2 [0] (Zcl (Zw Yg (Zc (Zal Zcp (Zc (Zd 0) Zo)) Zo))) (gTp 2 (gCn (gNm 0) (gCn (gNm 1) gNl))) Zen (Zq gIx (Zq gIx (Zd 2) (Zd 0)) (Zd 1))) Yr)
noncomputable def Zaz:FD:=Zan 1 1 Za6
noncomputable def Zbs:FS :=
 (Zz (Jc (tO (tNo (tD (Zjc "tuple" (Zd 0)))) (tV (Ze gNe (Zal Zcp (Zc (Zd 0) Zo)) (fC (.int 2)))))
  (wE (fC (.bool false)) Yr)
  fNx)
  (Zz (Jc (tO (tNo (tD (Zw Ye (Zc (Zq gIx (Zd 0) (fC (.int 0))) Zo)))) (tNo (tD (Zw Ye (Zc (Zq gIx (Zd 0) (fC (.int 1))) Zo)))))
  (wE (fC (.bool false)) Yr)
  fNx)
  (wE (Zk3 (Ze gGe (Zq gIx (Zd 0) (fC (.int 1))) (fC (.int 1))) (Ze gEq (Zw Z3 (Zc (Zq gIx (Zd 0) (fC (.int 0))) (Zc (Zq gIx (Zd 0) (fC (.int 1))) Zo))) (fC (.int 1)))) Yr)))
noncomputable def Y6:FD:=Zan 1 1 Zbs
noncomputable def Zcm:FS :=
 (Zz (Jc (tO (tNo (tD (Zjc "list" (Zd 1)))) (tV (Ze gNe (Zal Zcp (Zc (Zd 1) Zo)) (Zal Zcp (Zc (Zw Yg (Zc (Zd 0) Zo)) Zo)))))
  (wE (fC (.bool false)) Yr)
  fNx)
  (Zz (Zco (Zcl (Zd 1)) (gNm 2)
  (Jc (tNo (tD (Zw Y6 (Zc (Zd 2) Zo))))
  (wE (fC (.bool false)) Yr)
  fNx))
  (wE (fC (.bool true)) Yr)))
noncomputable def Zcn:FD:=Zan 2 3 Zcm
noncomputable def Zcf:FS :=
 (Zz (wE (Zal Zcp (Zc (Zd 0) Zo)) (Wb 2))
  (Zz (Jc (tNo (tD (Zw Zcn (Zc (Zd 2) (Zc (Zd 1) Zo)))))
  (wE (fC (.bool false)) Yr)
  fNx)
  (Zz (wE (Zw Y5 (Zc (Zw Z4 (Zc (Zd 1) Zo)) (Zc (Zd 1) Zo))) (Wb 3))
  (Zz (wE (Zw Zaz (Zc (Zd 0) Zo)) (Wb 4))
  (Zz (wE (Zw Y5 (Zc (Zw Z4 (Zc (Zd 4) Zo)) (Zc (Zd 4) Zo))) (Wb 5))
  (wE (Zk3 (Ze gLt (Zal Zzi (Zc (Yk 2 [] (Zeg (Zc (Zd 3) (Zc (Zd 5) Zo))) (gTp 2 (gCn (gNm 0) (gCn (gNm 1) gNl))) Zen (Ze Ze8 (Zd 0) (Zd 1))) Zo)) (fC (.int 0))) (Zw Zbu (Zc (Zd 2) (Zc (Zd 3) Zo)))) Yr))))))
noncomputable def Zcb:FD:=Zan 2 6 Zcf
noncomputable def Zc6:FS :=
 (Zz (Zco (Zeg (Zc (Zd 0) (Zc (fSl (Zd 0) (oI (fC (.int 1))) oN) Zo))) (gTp 2 (gCn (gNm 1) (gCn (gNm 2) gNl)))
  (Jc (tNo (tV (Ze Z1t (Zd 1) (Zd 2))))
  (wE (fC (.bool false)) Yr)
  fNx))
  (wE (fC (.bool true)) Yr))
noncomputable def Yp:FD:=Zan 1 3 Zc6
noncomputable def Zft:FS :=
 (Zz (Jc (tO (tNo (tD (Zjc "list" (Zd 1)))) (tV (Ze gEq (Zal Zcp (Zc (Zd 1) Zo)) (fC (.int 0)))))
  (wE (fC (.bool false)) Yr)
  fNx)
  (Zz (Zco (Zcl (Zd 1)) (gNm 2)
  (Jc (tNo (tD (Zw Ye (Zc (Zd 2) Zo))))
  (wE (fC (.bool false)) Yr)
  fNx))
  (wE (Zk3 (Zw Yp (Zc (Zd 1) Zo)) (Zk3 (Ze gGe (Zq gIx (Zd 1) (fC (.int 0))) (fC (.int 1))) (Ze gLt (Zq gIx (Zd 1) (fUn Zp4 (fC (.int 1)))) (Zd 0)))) Yr)))
noncomputable def Jt:FD:=Zan 2 3 Zft
noncomputable def J8:FS :=
 (Zz (Jc (tO (tNo (tD (Zjc "tuple" (Zd 1)))) (tV (Ze gNe (Zal Zcp (Zc (Zd 1) Zo)) (fC (.int 2)))))
  (wE (fC (.bool false)) Yr)
  fNx)
  (wE (Zk3 (Zw Jt (Zc (Zd 0) (Zc (Zq gIx (Zd 1) (fC (.int 0))) Zo))) (Zk3 (Zw Y6 (Zc (Zq gIx (Zd 1) (fC (.int 1))) Zo)) (Ze gGt (Zq gIx (Zq gIx (Zd 1) (fC (.int 1))) (fC (.int 0))) (fC (.int 0))))) Yr))
noncomputable def Yy:FD:=Zan 2 2 J8
noncomputable def Zbf:FS :=
 (Zz (Jc (tNo (tD (Zjc "list" (Zd 1))))
  (wE (fC (.bool false)) Yr)
  fNx)
  (Zz (Zco (Zcl (Zd 1)) (gNm 2)
  (Jc (tNo (tD (Zw Yy (Zc (Zd 0) (Zc (Zd 2) Zo)))))
  (wE (fC (.bool false)) Yr)
  fNx))
  (wE (Zw Yp (Zc (Yk 1 [] (Zcl (Zd 1)) (gNm 0) Zen (Zq gIx (Zd 0) (fC (.int 0)))) Zo)) Yr)))
noncomputable def W4:FD:=Zan 2 3 Zbf
noncomputable def Zdf:FS :=
 (wE (Yk 1 [0] (Zcl (Zd 1)) (gNm 0) Zen (Zw Ju (Zc (Zd 1) (Zc (Zq gIx (Zd 0) (fC (.int 0))) Zo)))) Yr)
noncomputable def Zar:FD:=Zan 2 2 Zdf
noncomputable def Y8:FS :=
 (Zz (wE (Yk 1 [0] (iRa (Zc (Zd 0) Zo)) (gNm 0) Zen (Zud (Zc2 (Zc (fC (.int 0)) (Zc (fC (.int 1)) Zo))) (Zd 1))) (Ze7 2))
  (Zz (Zco (Zeg (Zc (Zw Yg (Zc (Zd 0) Zo)) (Zc (Zd 1) Zo))) (gTp 2 (gCn (gNm 3) (gCn (gNm 4) gNl)))
  (Zz (Zgf 2 (Zd 4) (Zq gIx (Zd 3) (fC (.int 0))) (Zq gIx (Zd 3) (fC (.int 1))))
  (Zgf 2 (Zd 4) (Zq gIx (Zd 3) (fC (.int 1))) (Zq gIx (Zd 3) (fC (.int 0))))))
  (Ziq 2)))
noncomputable def Y9:FD:=Zan 2 5 Y8
noncomputable def J4:FS :=
 (Zz (wE (Yk 1 [] (Zcl (Zd 1)) (gNm 0) Zen (Zq gIx (Zd 0) (fC (.int 1)))) (Wb 2))
  (Zz (wE (Zw Z4 (Zc (Zd 2) Zo)) (Wb 3))
  (Zz (wE (Zw Y5 (Zc (Zd 3) (Zc (Zd 2) Zo))) (Wb 4))
  (Zz (wE (Zw Zar (Zc (Zd 0) (Zc (Zd 1) Zo))) (Wb 5))
  (Zz (wE (Zav Zo) (Ze7 6))
  (Zz (Zco (Zcl (Zw Yg (Zc (Zd 0) Zo))) (gTp 2 (gCn (gNm 7) (gCn (gNm 8) gNl)))
  (Zz (wE (Yk 2 [7,8] (Zeg (Zc (Zd 5) (Zc (Zd 4) Zo))) (gTp 2 (gCn (gNm 0) (gCn (gNm 1) gNl))) (tV (Ze gNe (Zq gIx (Zd 0) (Zd 2)) (Zq gIx (Zd 0) (Zd 3)))) (Zd 1)) (Wb 9))
  (Jz 6 (Zw W8 (Zc (Zal Zzi (Zc (Zd 9) Zo)) (Zc (Zd 3) Zo))))))
  (Zc4 6 (wE (Zw Y9 (Zc (Zd 0) (Zc (Zd 6) Zo))) Yr))))))))
noncomputable def Ja:FD:=Zan 2 10 J4
noncomputable def Zc7:FS :=
 (Zz (wE (Zal Zcp (Zc (Zd 0) Zo)) (Wb 2))
  (wE (Zk3 (Zw W4 (Zc (Zd 2) (Zc (Zd 1) Zo))) (Ze gEq (Zw Ja (Zc (Zd 2) (Zc (Zd 1) Zo))) (Zd 0))) Yr))
noncomputable def Jj:FD:=Zan 2 3 Zc7
noncomputable def Zg3:FS :=
 (Zz (Jc (tO (tNo (tD (Zjc "tuple" (Zd 1)))) (tV (Ze gNe (Zal Zcp (Zc (Zd 1) Zo)) (fC (.int 2)))))
  (wE (fC (.bool false)) Yr)
  fNx)
  (Zz (Jc (tV (Ze gEq (Zq gIx (Zd 1) (fC (.int 0))) (fC (.str "cuts"))))
  (wE (Zw Jj (Zc (Zd 0) (Zc (Zq gIx (Zd 1) (fC (.int 1))) Zo))) Yr)
  fNx)
  (wE (Zk3 (Ze gEq (Zq gIx (Zd 1) (fC (.int 0))) (fC (.str "bars"))) (Zw Zcb (Zc (Zd 0) (Zc (Zq gIx (Zd 1) (fC (.int 1))) Zo)))) Yr)))
noncomputable def Zbv:FD:=Zan 2 2 Zg3
noncomputable def Zjx:FS :=
 (Zz (Zco (iRa (Zc (Zal Z2s (Zc (fC (.int 1)) (Zc (Zal Z1n (Zc (Zal Zcp (Zc (Zd 0) Zo)) (Zc (fC (.int 10)) Zo))) Zo))) Zo)) (gNm 1)
  (Zz (wE (Zw W3 (Zc (Zw J2 (Zc (Zd 0) (Zc (Zd 1) Zo))) (Zc (fC (.int 34)) Zo))) (Wb 2))
  (Zz (wE (Ze Zaq (fC (.int 1)) (Ze Je (Zq gIx (Zd 2) (fC (.int 20))) (fC (.int 5)))) (Wb 3))
  (Zz (wE (Zw Wl (Zc (Zd 3) (Zc (Zd 2) Zo))) (Wb 4))
  (Zz (wE (Zpb Wv (Zc (Zw Yh (Zc (Zd 3) (Zc (Zd 4) Zo))) (Zc (Ya4 (fSl (Zd 2) (oI (fC (.int 22))) (oI (fC (.int 26))))) Zo))) (Wb 5))
  (Zz (wE (fBl Zlm (Zc (Zd 4) Zo)) (Wb 6))
  (Zz (Jc (tAn (tV (Ze gNe (Zd 4) (Zav Zo))) (tV (Ze gGt (Ze Je (Zq gIx (Zd 2) (fC (.int 21))) (fC (.int 3))) (fC (.int 0)))))
  (Zz (wE (Zw W2 (Zc (Zd 4) (Zc (Zd 3) (Zc (fSl (Zd 2) (oI (fC (.int 26))) (oI (fC (.int 32)))) Zo)))) (Wb 6))
  (Jc (tAn (tV (Ze gLt (Ze Je (Zq gIx (Zd 2) (fC (.int 27))) (fC (.int 12))) (fC (.int 4)))) (tV (Ze gGt (Ze Je (Zq gIx (Zd 2) (fC (.int 32))) (fC (.int 4))) (fC (.int 0)))))
  (Zz (wE (Zw Yh (Zc (Zd 3) (Zc (Zd 6) Zo))) (Wb 7))
  (Jc (tV (Ze gEq (Yk 1 [] (Zcl (Zd 7)) (gNm 0) (tV (Ze gLt (Zal Zts (Zc (Yk 1 [] (Zcl (Zd 0)) (gNm 0) Zen (Zq gIx (Zd 0) (fC (.int 0)))) Zo)) (fC (.int 0)))) (Zd 0)) (Zav Zo)))
  (wE (Zd 7) (Wb 5))
  fNx))
  fNx))
  fNx)
  (Zz (wE (Zq7 (Zc (fC (.str "cuts")) (Zc (Yk 2 [] (Zcl (Zd 6)) (gTp 2 (gCn (gNm 0) (gCn (gNm 1) gNl))) Zen (Zc2 (Zc (fBl Zlm (Zc (Zd 0) Zo)) (Zc (Zd 1) Zo)))) Zo))) (Wb 8))
  (Zz (wE (Zw Zbv (Zc (Zw Za8 (Zc (Zd 5) Zo)) (Zc (Zd 8) Zo))) (Wb 9))
  (Zz (wE (Zw Wf (Zc (Zal Zcp (Zc (Zd 5) Zo)) (Zc (Zd 6) (Zc (Zd 5) Zo)))) (Wb 10))
  (Jc (tO (tNo (tD (Zjc "bool" (Zd 9)))) (tO (tV (Ze gNe (Zd 9) (Zd 10))) (tV (Ze gNe (Zd 8) (Zc2 (Zc (fC (.str "cuts")) (Zc (Zd 6) Zo)))))))
  (wE (fC (.bool false)) Yr)
  fNx)))))))))))
  (wE (fC (.bool true)) Yr))
noncomputable def Zgi:FD:=Zan 1 11 Zjx
end My
namespace My
open PySem L2 PySem.Spec
theorem Ze6(p:List Int):Sh 1 (Zm p):=Zdn λd m=>by
 obtain⟨x,_,rfl⟩:=Qi.mp m
 exact Zop x
theorem Zj2{ds:List Xa}(h:∀d∈ds,Yq d=true):Yq (.list ds)=true:=by
 rw[Yq]
 induction ds with
 | nil=>rfl
 | cons d ds ih=>rw[Zbw,h d (.head _),ih λe he=>h e (.tail _ he)];rfl
theorem Zed(p:List Int):Yq (Zm p)=true:=Zj2 λd m=>by
 obtain⟨x,_,rfl⟩:=Qi.mp m
 rfl
theorem Zof{a b:List Int}(h:Zm a=Zm b):a=b:=by
 unfold Zm at h
 injection h with h
 exact List.map_inj_right (λx y z=>by injection z)|>.mp h
theorem Zoh(a b:List Int):gNe (Zm a) (Zm b)=some (.bool (!decide (a=b))):=by
 have s:Bc (Zm a)=true:=((Ze6 a).shp (by omega)).ok
 have t:Bc (Zm b)=true:=((Ze6 b).shp (by omega)).ok
 unfold gNe
 rw[if_pos (by rw[s,t];rfl)]
 by_cases c:a=b
 ·subst c
  rw[Zk0 (Zed a)]
  simp
 ·have:Qz (Zm a) (Zm b)=false:=by
   cases e:Qz (Zm a) (Zm b)with
   | false=>rfl
   | true=>exact absurd (Zof ((Zkk _ _ (Zed a) (Zed b)).mp e)) c
  rw[this,decide_eq_false c]
theorem Zbi{p:List Int}{i:Int}(h0:0≤i)(h1:i<p.length):gIx (Zm p) (.int i)=some (.fz (.int (p.getD i.toNat 0))):=by
 unfold Zm
 rw[Zi7,Zo7 h0 h1];rfl
theorem Zun{p:List Int}(h:0<p.length):gIx (Zm p) (.int (-1))=some (.fz (.int (p.getD (p.length-1) 0))):=by
 unfold Zm
 rw[Zi7]
 have e:p=p.dropLast ++ [p.getLast (by intro z;rw[z]at h;simp at h)]:=(List.dropLast_concat_getLast _).symm
 have g:p.getD (p.length-1) 0=p.getLast (by intro z;rw[z]at h;simp at h):=by
  rw[List.getLast_eq_getElem,Xh,Xi (by omega)];rfl
 rw[g]
 conv=>lhs;rw[e,Qu]
 rw[Ql,List.map_nil,Zuq];rfl
noncomputable def Qb(n:Nat)(q:Rat):Prop:=Bt n q.num∧Bt n (q.den:Int)
theorem Qb.up{m n:Nat}{q:Rat}(h:Qb m q)(k:m≤n):Qb n q:=⟨h.1.mono k,h.2.mono k⟩
theorem btc{n:Nat}{m:Int}(h1:decide (-(2^n)<m)=true)(h2:decide (m<2^n)=true):Bt n m:=Bt.of_lt (of_decide_eq_true h1) (of_decide_eq_true h2)
theorem Zwn{n:Nat}{t b:Int}(hb:b≠0)(ht:Bt n t)(hB:Bt n b):Qb n (Qn t b):=⟨Zw4 hb ht,Zxq hb hB⟩
theorem at0{δ:Zi}{i:Nat}{q:Rat}(h:δ[i]? =some (some (.fz (frD q)))):EvV (Zq gIx (Zd i) (fC (.int 0))) δ (.int q.num):=Z0 (Za h) Zr rfl
theorem at1{δ:Zi}{i:Nat}{q:Rat}(h:δ[i]? =some (some (.fz (frD q)))):EvV (Zq gIx (Zd i) (fC (.int 1))) δ (.int (q.den:Int)):=Z0 (Za h) Zr rfl
theorem Zvs(q r:Rat):0<(q.den:Int)*(r.den:Int):=Int.mul_pos (W5 q) (W5 r)
theorem Qb.add{m n:Nat}{q r:Rat}(h:Qb m q)(k:Qb n r):Qb (m+n+1) (q+r):=by
 rw[←Zwf]
 have h1:=k.1.mul h.2
 rw[Nat.add_comm]at h1
 exact Zwn (Bh (Zvs q r)) (Bt.add' (h.1.mul k.2) h1) ((h.2.mul k.2).mono (by omega))
noncomputable def Qv(b:Int)(n:Nat)(q:Rat):Prop:=∃x,q=Qn x b∧Bt n x
theorem Qv.up{b:Int}{m n:Nat}{q:Rat}(h:Qv b m q)(k:m≤n):Qv b n q:=by
 obtain⟨x,e,bx⟩:=h
 exact⟨x,e,bx.mono k⟩
theorem Zzb{x y b:Int}:Qn x b+Qn y b=Qn (x+y) b:=by
 rw[Vl,Vl,Vl,Rat.div_def,Rat.div_def,Rat.div_def,Rat.intCast_add,Rat.add_mul]
theorem Qv.add{b:Int}{n:Nat}{q r:Rat}(h:Qv b n q)(k:Qv b n r):Qv b (n+1) (q+r):=by
 obtain⟨x,rfl,bx⟩:=h
 obtain⟨y,rfl,b2⟩:=k
 exact⟨x+y,Zzb,bx.add' b2⟩
theorem Qv.zero(b:Int)(n:Nat):Qv b (n+1) 0:=⟨0,(Rat.zero_divInt b).symm,(btc (n:=1) (by decide) (by decide)).mono (by omega)⟩
theorem Ztm{t b:Int}(hb:b≠0):((Qn t b).den:Int)∣b:=by
 rw[Rat.den_divInt,if_neg hb]
 have:(b.natAbs/b.gcd t:Nat)∣b.natAbs:=Nat.div_dvd_of_dvd (by rw[Bl];exact Nat.gcd_dvd_left ..)
 exact Int.ofNat_dvd_left.mpr this
structure Bot(b:Int):Prop where
 lo:1≤b
 hi:b≤1000000000
noncomputable def Z7g(p:List Int)(lo hi:Option Int):List Int:=(p.drop (HT.sIx p.length 0 lo)).take (HT.sIx p.length p.length hi-HT.sIx p.length 0 lo)
theorem Zvk(p:List Int)(lo hi:Option Int):cutD (p.map Xl) lo hi=(Z7g p lo hi).map Xl:=by
 unfold cutD Z7g
 rw[Xg,List.map_take,List.map_drop]
theorem Z98{e:FE}{δ:Zi}{r p:List Int}{lo hi:FO}{l h:Option Int}(he:EvV e δ (Zm r))(hl:EvO lo δ l)(hh:EvO hi δ h)(hp:Z7g r l h=p):EvV (fSl e lo hi) δ (Zm p):=hp▸(Zlh (ds:=r.map Xl) he hl hh).cast (by rw[Zvk];rfl)
theorem Zi4{t u:FT}{δ:Zi}{p q:Bool}(h:EvT t δ p)(k:EvT u δ q):EvT (tAn t u) δ (p&&q):=by
 cases p with
 | true=>exact Z8l h k
 | false=>exact Zsv h
theorem Zit(neg:Bool)(x:Int)(p:List Int):Zyx neg (.int x) (Zm p)=some (.bool (if neg then !decide (x∈p)else decide (x∈p))):=by
 have e:memS (.int x) (p.map Xl)=decide (x∈p):=by
  unfold memS
  rw[List.any_map]
  rw[Bool.eq_iff_iff,List.any_eq_true,decide_eq_true_eq]
  constructor
  ·rintro⟨y,hy,h⟩
   have:(y==x)=true:=h
   rw[←eq_of_beq this];exact hy
  ·intro h
   exact⟨x,h,(show(x==x)=true from beq_self_eq_true x)⟩
 have s:(p.map Xl).all scD=true:=by
  rw[Vd]
  intro d hd
  obtain⟨y,_,rfl⟩:=Qi.mp hd
  rfl
 show(if(scD (.int x)&&(p.map Xl).all scD)=true then some (PyData.bool (if neg then !memS (.int x) (p.map Xl)else memS (.int x) (p.map Xl)))else none)=_
 rw[s,e];rfl
theorem Zvq(xs:List Rat)(x:Rat):(xs ++ [x]).sum=xs.sum+x:=by
 induction xs with
 | nil=>show x+0=0+x;rw[Rat.add_zero,Rat.zero_add]
 | cons y ys ih=>rw[List.cons_append,List.sum_cons,List.sum_cons,ih,Rat.add_assoc]
theorem members{α β:Type}{f:α->β}{L:List α}:∀{l:List β},(∀d∈l,∃p∈L,d=f p)->∃L1:List α,l=L1.map f∧(∀p∈L1,p∈L)
 | [],_=>⟨[],rfl,λ_ m=>nomatch m⟩
 | d :: l,h=>by
  obtain⟨p,hp,rfl⟩:=h d (.head _)
  obtain⟨L1,e,h1⟩:=members λd m=>h d (.tail _ m)
  exact⟨p :: L1,by rw[e];rfl,λq hq=>(Xu.mp hq).elim (λe=>e▸hp) (h1 q)⟩
theorem Znk(L:List (List Int))(h:L.length<64):∃L1:List (List Int),Zg0 kdL ltI [.list (L.map Zm)]=some (.nd ((L1.map Zm).map OT.fz))∧(∀p,p∈L1↔p∈L)∧L1.length<64:=by
 have pm:=Zfy PyData.none (lk kdL ltI (L.map Zm)) (L.map Zm)
 obtain⟨L1,e,h1⟩:=members (f:=Zm) (L:=L) (l:=sLay PyData.none (lk kdL ltI (L.map Zm)) (L.map Zm)) λd m=>by
  obtain⟨p,hp,rfl⟩:=Qi.mp (pm.mem_iff.mp m)
  exact⟨p,hp,rfl⟩
 have el:=congrArg List.length e
 rw[pm.length_eq,Xg,Xg]at el
 refine⟨L1,?_,λp=>⟨h1 p,λhp=>?_⟩,by omega⟩
 ·show(if(decide ((L.map Zm).length<64)&&(L.map Zm).all λd=>(kdL d).isSome)=true then some (OT.nd ((sLay PyData.none (lk kdL ltI (L.map Zm)) (L.map Zm)).map OT.fz))else none)=_
  rw[if_pos,e]
  rw[Xo,decide_eq_true_eq,Xg,Vd]
  refine⟨h,λd m=>?_⟩
  obtain⟨p,_,rfl⟩:=Qi.mp m
  show(Zb8 (p.map Xl)).isSome=true
  rw[Jw];rfl
 ·have m:Zm p∈L1.map Zm:=by rw[←e];exact pm.mem_iff.mpr (Qi.mpr ⟨p,hp,rfl⟩)
  obtain⟨q,hq,e⟩:=Qi.mp m
  rw[←Zof e];exact hq
theorem Zs6{a b:FE}{δ:Zi}{p q:List Int}(ha:EvV a δ (Zm p))(hb:EvV b δ (Zm q))(h:p.length+q.length≤1000):EvV (Zq Zbx a b) δ (Zm (p ++ q)):=(Zos (ds:=p.map Xl) (es:=q.map Xl) ha hb (by rw[Xg,Xg];omega)).cast (by unfold Zm;rw[Qu])
noncomputable def LL(L:List (List Int)):Xa:=.list (L.map Zm)
theorem Z5g{a b:FE}{δ:Zi}{p q:List (List Int)}(ha:EvV a δ (LL p))(hb:EvV b δ (LL q))(h:p.length+q.length≤1000):EvV (Zq Zbx a b) δ (LL (p ++ q)):=(Zos (ds:=p.map Zm) (es:=q.map Zm) ha hb (by rw[Xg,Xg];omega)).cast (by unfold LL;rw[Qu])
theorem Z16(x y:Bool):gNe (.bool x) (.bool y)=some (.bool (x !=y)):=by cases x<;>cases y<;>rfl
noncomputable def ctD(p:List Int×Rat):Xa:=.tuple [Zm p.1,frD p.2]
noncomputable def Wy(L:List (List Int×Rat)):Xa:=.list (L.map ctD)
theorem Zo0{α:Type}(f g:α->Xa)(L:List α):Zpj (L.map f) (L.map g)=L.map λp=>.tuple [f p,g p]:=by
 induction L with
 | nil=>rfl
 | cons x L ih=>exact congrArg (_ :: ·) ih
theorem Z0v{t:FT}{a b:FE}{δ:Zi}{d:Xa}(h:EvT t δ true)(k:EvV a δ d):EvV (fIf t a b) δ d:=by
 obtain⟨o,e1,e2⟩:=k
 exact⟨o,by unfold fIf;unfold EvT at h;rw[h];exact e1,e2⟩
theorem Zyj{t:FT}{a b:FE}{δ:Zi}{d:Xa}(h:EvT t δ false)(k:EvV b δ d):EvV (fIf t a b) δ d:=by
 obtain⟨o,e1,e2⟩:=k
 exact⟨o,by unfold fIf;unfold EvT at h;rw[h];exact e1,e2⟩
noncomputable def sd(p:List Int×Rat)(i:Nat):Int:=if(i:Int)∈p.1 then 1 else 0
noncomputable def Zgn(n:Nat)(p:List Int×Rat):Xa:=.list ((Xn n).map λi=>.int (sd p i))
theorem Zns{n:Nat}(hn:n≤10)(p:List Int×Rat):Told Ju [.int n,Zm p.1] (Zgn n p) :=
 Yb rfl<|Yz<|Za2 (cs:=[some (.fz (Zm p.1))]) (Xn n) (λi:Nat=>Xl (0+(i:Int))) (λi=>.int (sd p i)) (Zhe (Zb Za Zk) (by omega)) (by rw[Xw];omega) rfl λi _=>by
  have t:∀{b:Bool},decide ((i:Int)∈p.1)=b->EvT (tV (Ze (Zyx false) (Zd 0) (Zd 1))) [some (.fz (.int (0+(i:Int)))),some (.fz (Zm p.1))] b:=λhb=>hb▸Zay (Zx Za Za (by rw[Zit,Uy];rfl))
  unfold sd
  by_cases c:(i:Int)∈p.1
  ·rw[if_pos c];exact Z0v (t (decide_eq_true c)) Zr
  ·rw[if_neg c];exact Zyj (t (decide_eq_false c)) Zr
theorem Zmz{n:Nat}(hn:n≤10)(L:List (List Int×Rat))(hl:L.length<64):Told Zar [.int n,Wy L] (.list (L.map (Zgn n))) :=
 Yb rfl<|Yz<|Za2 (cs:=[some (.fz (.int n))]) L ctD (Zgn n) (Jg Za) (by omega) rfl λp _=>Zu (Zb Za (Zb (Z0 (d:=Zm p.1) Za Zr rfl) Zk)) (Zns hn p)
noncomputable def prt(i j:Nat)(p:List Int×Rat):Bool:=!decide (sd p i=sd p j)
noncomputable def Sm(L:List (List Int×Rat))(i j:Nat):Rat:=((L.filter (prt i j)).map λp=>p.2).sum
noncomputable def Zih(L:List (List Int×Rat)):Nat×Nat->Xa:=λp=>frD (Sm L p.1 p.2)
theorem Zxf{m:Int}:∀(L:List (List Int×Rat)),(∀p∈L,(p.2.den:Int)∣m)->(((L.map λp=>scI m p.2).sum:Int):Rat)=(L.map λp=>p.2).sum*(m:Rat)
 | [],_=>by simp
 | p :: L,h=>by
  rw[Ql,Ql,List.sum_cons,List.sum_cons,Rat.intCast_add,Zxv (h p (.head _)),Zxf L λq hq=>h q (.tail _ hq),Rat.add_mul]
theorem Zxz{m:Int}(hm:0<m)(L:List (List Int×Rat))(h:∀p∈L,(p.2.den:Int)∣m):Qn (L.map λp=>scI m p.2).sum m=(L.map λp=>p.2).sum:=by
 have m0:(m:Rat)≠0:=λz=>by
  have:=Rat.intCast_inj.mp (z.trans (Rat.intCast_zero).symm)
  omega
 rw[Vl,Zxf L h,Rat.div_def,Rat.mul_assoc,Rat.mul_inv_cancel _ m0,Rat.mul_one]
theorem Zsm(es:List Int):Zzi [Zm es]=some (.int es.sum):=by
 show(Zb8 (es.map Xl)).bind _=_
 rw[Jw];rfl
theorem Zpx{n:Nat}{m:Int}{L:List (List Int×Rat)}{a b:Nat}{δ:Zi}(ha:a<n)(hb:b<n)(hl:L.length<64)(h5:δ[5]? =some (some (.fz (.list (L.map (Zgn n))))))(h4:δ[4]? =some (some (.fz (.list (L.map λp=>.int (scI m p.2))))))(hk:blk 2 [7,8] δ=[none,none,some (.fz (.int a)),some (.fz (.int b))]) :
  EvV (Yk 2 [7,8] (Zeg (Zc (Zd 5) (Zc (Zd 4) Zo))) (gTp 2 (gCn (gNm 0) (gCn (gNm 1) gNl))) (tV (Ze gNe (Zq gIx (Zd 0) (Zd 2)) (Zq gIx (Zd 0) (Zd 3)))) (Zd 1)) δ (Zm ((L.filter (prt a b)).map λp=>scI m p.2)):=by
 have hi:EvI (Zeg (Zc (Zd 5) (Zc (Zd 4) Zo))) δ (L.map λp=>.tuple [Zgn n p,.int (scI m p.2)]):=Zn6 (Za h5) (Za h4) (Zo0 (Zgn n) (λp=>.int (scI m p.2)) L)
 obtain⟨ts,δ',e1,z0,z1,rfl,e2⟩:=Z48 (t:=tV (Ze gNe (Zq gIx (Zd 0) (Zd 2)) (Zq gIx (Zd 0) (Zd 3)))) (e:=Zd 1) (g:=gTp 2 (gCn (gNm 0) (gCn (gNm 1) gNl))) (δ:=[none,none,some (.fz (.int a)),some (.fz (.int b))])
  (λk acc δ=>∃z0 z1,δ=[z0,z1,some (.fz (.int a)),some (.fz (.int b))]∧acc=(((L.take k).filter (prt a b)).map λp=>scI m p.2).map Xl) (L.map λp=>.tuple [Zgn n p,.int (scI m p.2)]) 0 [] ⟨none,none,rfl,by simp⟩ (λk d acc δ hd q=>by
   obtain⟨z0,z1,rfl,rfl⟩:=q
   rw[Uw]at*
   rw[Xm]at hd
   cases e:L[k]? with
   | none=>rw[e]at hd;cases hd
   | some p=>
    rw[e]at hd
    cases hd
    have et:L.take (k+1)=L.take k ++ [p]:=by rw[Vq,e];rfl
    have at':∀{c:Nat},c<n->gIx (Zgn n p) (.int (c:Int))=some (.fz (.int (sd p c))):=λhc=>by
     unfold Zgn
     rw[Zi7,Zg4,Xm,QW hc];rfl
    refine⟨_,rfl,Zak (Zay (Zmt (Z0 (d:=.int (sd p a)) Za Za (at' ha)) (Z0 (d:=.int (sd p b)) Za Za (at' hb)) (p:=prt a b p) rfl)) ⟨λc=>?_,λc=>?_⟩⟩
    ·refine Zap (d:=.int (scI m p.2)) Za ⟨_,_,rfl,?_⟩
     rw[et,List.filter_append,List.filter_cons_of_pos c,List.filter_nil,Qu,Qu];rfl
    ·refine⟨_,_,rfl,?_⟩
     rw[et,List.filter_append,List.filter_cons_of_neg (by rw[c];decide),List.filter_nil,JQ])
 rw[Uw,Xg,Vc,List.nil_append]at e2
 refine⟨.nd ts,?_,by rw[OT.data_nd,e2];rfl⟩
 unfold EvI at hi
 unfold Yk
 rw[hi]
 show(if(L.map λp=>Xa.tuple [Zgn n p,.int (scI m p.2)]).length≤Xr then _ else none)=_
 rw[if_pos (by rw[Xg,Qc];omega),hk,e1];rfl
noncomputable def Y7(n:Nat)(f:Nat->Nat->Xa):OT:=.nd ((Xn n).map λi=>.nd ((Xn n).map λj=>.fz (f i j)))
noncomputable def Wo(n:Nat)(f:Nat->Nat->Xa):Xa:=.list ((Xn n).map λi=>.list ((Xn n).map λj=>f i j))
theorem Zai(n:Nat)(f:Nat->Nat->Xa):(Y7 n f).data=Wo n f:=by
 unfold Y7 Wo
 rw[OT.data_nd,Qx]
 refine congrArg QT (Xz λi _=>?_)
 show(OT.nd _).data=_
 rw[OT.data_nd,Qx]
 exact congrArg QT (Xz λj _=>OT.data_fz _)
theorem Zot{n:Nat}{f g:Nat->Nat->Xa}(h:∀i j,i<n->j<n->f i j=g i j):Y7 n f=Y7 n g:=by
 unfold Y7
 refine congrArg OT.nd (Xz λi hi=>congrArg OT.nd (Xz λj hj=>congrArg OT.fz (h i j (QH.mp hi) (QH.mp hj))))
noncomputable def upG(f:Nat->Nat->Xa)(a b:Nat)(d:Xa):Nat->Nat->Xa:=λi j=>if i=a∧j=b then d else f i j
theorem Zmx{α:Type}{n a:Nat}(f:Nat->α)(x:α):((Xn n).map f).set a x=(Xn n).map λi=>if i=a then x else f i:=by
 refine List.ext_getElem? λi=>?_
 rw[List.getElem?_set,Xg,Xw,Xm,Xm]
 by_cases h:a=i
 ·subst h
  by_cases c:a<n
  ·rw[if_pos rfl,if_pos c,QW c];simp
  ·rw[if_pos rfl,if_neg c,JC (by simp;omega)];rfl
 ·rw[if_neg h]
  by_cases c:i<n
  ·rw[QW c];simp[Vi h]
  ·rw[JC (by simp;omega)];rfl
theorem Zfc{i n:Nat}{e j j2:FE}{δ:Zi}{d:Xa}{f:Nat->Nat->Xa}{a b:Nat}(he:EvV e δ d)(hi:δ[i]? =some (some (Y7 n f)))(hj:EvV j δ (.int a))(ha:a<n)(hk:EvV j2 δ (.int b))(hb:b<n) :
  Zgf i e j j2 δ= .nx (δ.set i (some (Y7 n (upG f a b d)))):=by
 obtain⟨_,e2,d2⟩:=he
 obtain⟨_,e3,d3⟩:=hj
 obtain⟨_,e4,d4⟩:=hk
 unfold Zgf Y7 at*
 rw[Zfd,e2,J3,hi]
 dsimp only
 rw[Zfd,e3,J3,d3]
 dsimp only
 rw[Zrx (by rw[Xg,Xw];exact ha)]
 dsimp only
 rw[Xm,QW ha,Qa]
 dsimp only
 rw[Zfd,e4,J3,d4]
 dsimp only
 rw[Zrx (by rw[Xg,Xw];exact hb)]
 dsimp only
 rw[d2,Zmx,Zmx]
 refine congrArg RS.nx (congrArg (δ.set i) (congrArg some (congrArg OT.nd (Xz λk _=>?_))))
 by_cases c:k=a
 ·subst c
  rw[if_pos rfl]
  refine congrArg OT.nd (Xz λl _=>?_)
  unfold upG
  by_cases c2:l=b
  ·rw[if_pos c2,if_pos ⟨rfl,c2⟩]
  ·rw[if_neg c2,if_neg λz=>c2 z.2]
 ·rw[if_neg c]
  refine congrArg OT.nd (Xz λl _=>?_)
  unfold upG
  rw[if_neg λz=>c z.1]
noncomputable def Zjk:Xa:=.tuple [.int 0,.int 1]
noncomputable def Zmf(g:Nat×Nat->Xa)(i j:Nat):Xa:=if i<j then g (i,j)else if j<i then g (j,i)else Zjk
theorem Zgq{n:Nat}(hn:n≤10)(g:Nat×Nat->Xa):Y9 [.int n,.list ((Wi n).map g)]= .ok (Y7 n (Zmf g)):=by
 have e0:(Yk 1 [0] (iRa (Zc (Zd 0) Zo)) (gNm 0) Zen (Zud (Zc2 (Zc (fC (.int 0)) (Zc (fC (.int 1)) Zo))) (Zd 1))) [some (.fz (.int n)),some (.fz (.list ((Wi n).map g))),none,none,none]=some (Y7 n λ_ _=>Zjk,[some (.fz (.int n)),some (.fz (.list ((Wi n).map g))),none,none,none]):=by
  have er:∀v:Option OT,(Zud (Zc2 (Zc (fC (.int 0)) (Zc (fC (.int 1)) Zo))) (Zd 1)) [v,some (.fz (.int n))]=some (.nd (Xy n (.fz Zjk)),[v,some (.fz (.int n))]):=λv=>by
   have e2:(Zc2 (Zc (fC (.int 0)) (Zc (fC (.int 1)) Zo))) [v,some (.fz (.int n))]=fC Zjk [v,some (.fz (.int n))]:=by
    rw[Zri]
    exact if_pos (e:=none) (show 2≤Xr by rw[Qc];omega)
   rw[←Z3f (d:=Zjk) (n:=n) (by omega)]
   rw[Zli,Zli,e2]
  rw[Zhk (cs:=[some (.fz (.int n))]) (Xn n) (λi:Nat=>Xl (0+(i:Int))) (λ_=>.nd (Xy n (.fz Zjk))) (Zhe (Zb Za Zk) (by omega)) (by rw[Xw,Qc];omega) rfl λx _=>er _]
  unfold Y7
  have ec:((Xn n).map λ_=>OT.fz Zjk)=Xy n (OT.fz Zjk):=by rw[List.map_const',Xw]
  rw[←ec]
 have key:∃δ',Y8 [some (.fz (.int n)),some (.fz (.list ((Wi n).map g))),none,none,none]= .rt (Y7 n (Zmf g)) δ':=by
  obtain⟨δ',e1,f,z3,z4,rfl,h1,h2⟩:=Znq (it:=Zeg (Zc (Zw Yg (Zc (Zd 0) Zo)) (Zc (Zd 1) Zo))) (g:=gTp 2 (gCn (gNm 3) (gCn (gNm 4) gNl))) (S:=Zz (Zgf 2 (Zd 4) (Zq gIx (Zd 3) (fC (.int 0))) (Zq gIx (Zd 3) (fC (.int 1)))) (Zgf 2 (Zd 4) (Zq gIx (Zd 3) (fC (.int 1))) (Zq gIx (Zd 3) (fC (.int 0)))))
   (δ:=[some (.fz (.int n)),some (.fz (.list ((Wi n).map g))),some (Y7 n λ_ _=>Zjk),none,none]) (ds:=(Wi n).map λp=>.tuple [ptD p,g p])
   (λk δ=>∃(f:Nat->Nat->Xa) (z3 z4:Option OT),δ=[some (.fz (.int n)),some (.fz (.list ((Wi n).map g))),some (Y7 n f),z3,z4]∧(∀i,f i i=Zjk)∧∀l p,l<k->(Wi n)[l]? =some p->f p.1 p.2=g p∧f p.2 p.1=g p)
   (Zn6 (Zu (Zb Za Zk) (Ziv n (by omega))) Za (Zo0 ptD g _)) ⟨_,none,none,rfl,λ_=>rfl,λl p hl=>absurd hl (QB l)⟩ (λk d δ hd q=>by
    obtain⟨f,z3,z4,rfl,h1,h2⟩:=q
    rw[Xm]at hd
    cases e:(Wi n)[k]? with
    | none=>rw[e]at hd;cases hd
    | some p=>
     rw[e]at hd
     cases hd
     obtain⟨m1,m2⟩:=Zfz (XR e)
     have i0:∀{δ:Zi},δ[3]? =some (some (.fz (ptD p)))->EvV (Zq gIx (Zd 3) (fC (.int 0))) δ (.int (p.1:Int)):=λh=>Z0 (Za h) Zr rfl
     have i1:∀{δ:Zi},δ[3]? =some (some (.fz (ptD p)))->EvV (Zq gIx (Zd 3) (fC (.int 1))) δ (.int (p.2:Int)):=λh=>Z0 (Za h) Zr rfl
     refine⟨_,_,rfl,.inl (W9 (Zfc (n:=n) (f:=f) (a:=p.1) (b:=p.2) (d:=g p) Za rfl (i0 rfl) (by omega) (i1 rfl) (by omega)) (Zfc (n:=n) (a:=p.2) (b:=p.1) (d:=g p) Za rfl (i1 rfl) (by omega) (i0 rfl) (by omega))),_,_,_,rfl,λi=>?_,λl q hl hq=>?_⟩
     ·unfold upG
      rw[if_neg (by omega),if_neg (by omega)]
      exact h1 i
     ·by_cases c:q=p
      ·subst c
       unfold upG
       exact⟨by split<;>(try rfl);rw[if_pos ⟨rfl,rfl⟩],by rw[if_pos ⟨rfl,rfl⟩]⟩
      ·have hl':l<k:=by
        rcases Ux l k with z|z
        ·exact z
        ·have:l=k:=by omega
         subst this
         rw[e]at hq
         cases hq
         exact absurd rfl c
       obtain⟨q1,q2⟩:=Zfz (XR hq)
       have ne:¬(q.1=p.1∧q.2=p.2):=λz=>c (Prod.ext z.1 z.2)
       obtain⟨g1,g2⟩:=h2 l q hl' hq
       unfold upG
       rw[if_neg (by omega),if_neg (by omega),if_neg (by omega),if_neg (by omega)]
       exact⟨g1,g2⟩)
  rw[Xg]at h2
  refine⟨[some (.fz (.int n)),some (.fz (.list ((Wi n).map g))),none,z3,z4],W9 (Zis e0) (W9 e1 ?_)⟩
  have eG:Y7 n f=Y7 n (Zmf g):=Zot λi j hi hj=>?_
  ·rw[eG];rfl
  unfold Zmf
  rcases Nat.lt_trichotomy i j with c|c|c
  ·obtain⟨l,hl⟩:=Q9 (Zkb c hj)
   rw[if_pos c]
   exact(h2 l _ (Xk.mp hl).1 hl).1
  ·subst c
   rw[if_neg (JP _),if_neg (JP _)]
   exact h1 i
  ·obtain⟨l,hl⟩:=Q9 (Zkb c hi)
   rw[if_neg (by omega),if_pos c]
   exact(h2 l _ (Xk.mp hl).1 hl).2
 obtain⟨δ',e⟩:=key
 unfold Y9
 rw[Zlj (np:=2) (by rfl)]
 show(Y8 [some (.fz (.int n)),some (.fz (.list ((Wi n).map g))),none,none,none]).told=_
 rw[e];rfl
theorem Z9y{F:FD}{as:FA}{δ:Zi}{ds:List Xa}{o:OT}(h:EvA as δ ds)(k:F ds= .ok o):Zw F as δ=some (o,δ):=by
 obtain⟨ts,e1,e2⟩:=h
 rw[Zkq,e1]
 show okO (F (OT.datas ts)) δ=_
 rw[e2,k];rfl
theorem Z0a{F:FD}{as:FA}{δ:Zi}{ds:List Xa}{o:OT}(h:EvA as δ ds)(k:F ds= .ok o):wE (Zw F as) Yr δ= .rt o δ:=by rw[Zfd,Z9y h k];rfl
theorem Znj{n:Nat}(hn:n≤10)(L:List (List Int×Rat))(hl:L.length<64){B:Int}(B0:0<B)(bB:Bt 200 B)(hw:∀p∈L,(p.2.den:Int)∣B∧Bt 200 p.2.num):Ja [.int n,Wy L]= .ok (Y7 n (Zmf (Zih L))):=by
 obtain⟨m,eB,m0,m1,m2⟩:=Zhd (n:=200) B0 bB (by decide) (L.map λp=>(p.2.num,(p.2.den:Int))) λp hp=>by
  obtain⟨q,hq,rfl⟩:=Qi.mp hp
  exact⟨W5 q.2,(hw q hq).1⟩
 have bm:Bt 200 m:=Zly B0 m2 bB
 have dm:∀p∈L,(p.2.den:Int)∣m:=λp hp=>m1 (p.2.num,(p.2.den:Int)) (Qi.mpr ⟨p,hp,rfl⟩)
 have eW:(L.map λp=>(p.2.num,(p.2.den:Int))).map prD=(L.map λp=>p.2).map frD:=by rw[Qx,Qx];rfl
 rw[eW]at eB
 have eT:=Zme (n:=200) m0 bm (L.map λp=>p.2) (by rw[Xg];omega) λq hq=>by
  obtain⟨p,hp,rfl⟩:=Qi.mp hq
  exact⟨dm p hp,(hw p hp).2⟩
 rw[Qx]at eT
 have lp:(Wi n).length≤100:=by
  have:=Zi3 n n
  have e:Zk4 n n=Wi n:=rfl
  rw[e]at this
  exact Qt this (Nat.mul_le_mul hn hn)
 have key:∃δ',J4 [some (.fz (.int n)),some (.fz (Wy L)),none,none,none,none,none,none,none,none]= .rt (Y7 n (Zmf (Zih L))) δ':=by
  obtain⟨δ',e1,z7,z8,z9,rfl⟩:=Znq (it:=Zcl (Zw Yg (Zc (Zd 0) Zo))) (g:=gTp 2 (gCn (gNm 7) (gCn (gNm 8) gNl)))
   (S:=Zz (wE (Yk 2 [7,8] (Zeg (Zc (Zd 5) (Zc (Zd 4) Zo))) (gTp 2 (gCn (gNm 0) (gCn (gNm 1) gNl))) (tV (Ze gNe (Zq gIx (Zd 0) (Zd 2)) (Zq gIx (Zd 0) (Zd 3)))) (Zd 1)) (Wb 9)) (Jz 6 (Zw W8 (Zc (Zal Zzi (Zc (Zd 9) Zo)) (Zc (Zd 3) Zo)))))
   (δ:=[some (.fz (.int n)),some (.fz (Wy L)),some (.fz (.list ((L.map λp=>p.2).map frD))),some (.fz (.int m)),some (.fz (.list (L.map λp=>.int (scI m p.2)))),some (.fz (.list (L.map (Zgn n)))),some (.nd []),none,none,none]) (ds:=(Wi n).map ptD)
   (λk δ=>∃z7 z8 z9,δ=[some (.fz (.int n)),some (.fz (Wy L)),some (.fz (.list ((L.map λp=>p.2).map frD))),some (.fz (.int m)),some (.fz (.list (L.map λp=>.int (scI m p.2)))),some (.fz (.list (L.map (Zgn n)))),some (.nd ((((Wi n).take k).map (Zih L)).map OT.fz)),z7,z8,z9])
   (Jg (Zu (Zb Za Zk) (Ziv n (by omega)))) ⟨none,none,none,rfl⟩ (λk d δ hd q=>by
    obtain⟨z7,z8,z9,rfl⟩:=q
    rw[Xm]at hd
    cases e:(Wi n)[k]? with
    | none=>rw[e]at hd;cases hd
    | some p=>
     rw[e]at hd
     cases hd
     obtain⟨q1,q2⟩:=Zfz (XR e)
     have eF:Told W8 [.int ((L.filter (prt p.1 p.2)).map λp=>scI m p.2).sum,.int m] (Zih L p):=by
      have:=Zn1 (t:=((L.filter (prt p.1 p.2)).map λp=>scI m p.2).sum) (b:=m) (n:=200) (by omega) bm
      rwa[Zxz m0 _ λp hp=>dm p (Vy.mp hp).1]at this
     have et:(Wi n).take (k+1)=(Wi n).take k ++ [p]:=by rw[Vq,e];rfl
     refine⟨_,_,rfl,.inl (W9 (Zy (Zpx (n:=n) (m:=m) (L:=L) (a:=p.1) (b:=p.2) (by omega) q2 hl rfl rfl rfl)) (Zm3 (d:=Zih L p) (Zu (Zb (Zbc (Zb Za Zk) (Zsm _)) (Zb Za Zk)) eF) rfl ?_)),some (.fz (.int (p.1:Int))),some (.fz (.int (p.2:Int))),some (.fz (Zm ((L.filter (prt p.1 p.2)).map λp=>scI m p.2))),?_⟩
     ·rw[Xg,Xg]
      exact Qt (List.length_take_le' ..) (by omega)
     ·rw[et,Qu,Qu];rfl)
  rw[Xg,Vc]at e1
  have ef:(OT.nd (((Wi n).map (Zih L)).map OT.fz)).data= .list ((Wi n).map (Zih L)):=by rw[OT.data_nd,OT.map_fz]
  refine⟨[some (.fz (.int n)),some (.fz (Wy L)),some (.fz (.list ((L.map λp=>p.2).map frD))),some (.fz (.int m)),some (.fz (.list (L.map λp=>.int (scI m p.2)))),some (.fz (.list (L.map (Zgn n)))),some (.fz (.list ((Wi n).map (Zih L)))),z7,z8,z9],?_⟩
  refine W9 (Zy (EvV.cast (Za2 (cs:=[]) L ctD (λp=>frD p.2) (Jg Za) (by omega) rfl λp _=>Z0 (d:=frD p.2) Za Zr rfl) (y:=.list ((L.map λp=>p.2).map frD)) (by rw[Qx];rfl))) ?_
  refine W9 (Zy (Zu (Zb Za Zk) eB)) (W9 (Zy (Zu (Zb Za (Zb Za Zk)) eT)) (W9 (Zy (Zu (Zb Za (Zb Za Zk)) (Zmz hn L hl))) (W9 Zpa (W9 e1 (Zfq rfl ?_)))))
  rw[ef]
  exact Z0a (Zb Za (Zb Za Zk)) (Zgq hn (Zih L))
 obtain⟨δ',e⟩:=key
 unfold Ja
 rw[Zlj (np:=2) (by rfl)]
 show(J4 [some (.fz (.int n)),some (.fz (Wy L)),none,none,none,none,none,none,none,none]).told=_
 rw[e];rfl
noncomputable def frG(T:Nat->Nat->Rat):Nat->Nat->Xa:=λi j=>frD (T i j)
theorem Zw9{n:Nat}{f:Nat->Nat->Xa}{δ:Zi}(h:δ[0]? =some (some (.fz (Wo n f)))):EvV (Zal Zcp (Zc (Zd 0) Zo)) δ (.int n):=(Zfx (ds:=(Xn n).map λi=>.list ((Xn n).map λj=>f i j)) (Za h)).cast (by rw[Xg,Xw])
theorem Zws{α:Type}{δ:Zi}{it:FI}{g:FG}{me:FE}(xs:List α)(mk f:α->Xa)(hi:EvI it δ (xs.map mk))(hz:xs.length≤1000000)(h:∀x∈xs,∀z0 z1,∃w0 w1,g (mk x) [z0,z1]=some [w0,w1]∧EvV me [w0,w1] (f x)):EvV (Yk 2 [] it g Zen me) δ (.list (xs.map f)):=by
 obtain⟨ts,δ',e1,z0,z1,rfl,e2⟩:=Z48 (t:=Zen) (e:=me) (g:=g) (δ:=[none,none])
  (λk acc δ=>∃z0 z1,δ=[z0,z1]∧acc=(xs.take k).map f) (xs.map mk) 0 [] ⟨none,none,rfl,rfl⟩ (λk d acc δ hd q=>by
   obtain⟨z0,z1,rfl,rfl⟩:=q
   rw[Uw]at*
   rw[Xm]at hd
   cases e:xs[k]? with
   | none=>rw[e]at hd;cases hd
   | some p=>
    rw[e]at hd
    cases hd
    have et:xs.take (k+1)=xs.take k ++ [p]:=by rw[Vq,e];rfl
    obtain⟨w0,w1,e1,e2⟩:=h p (XR e) z0 z1
    refine⟨_,e1,Zak rfl ⟨λ_=>Zap e2 ⟨_,_,rfl,?_⟩,λz=>nomatch z⟩⟩
    rw[et,Qu];rfl)
 rw[Uw,Xg,Vc,List.nil_append]at e2
 refine⟨.nd ts,?_,by rw[OT.data_nd,e2]⟩
 unfold EvI at hi
 unfold Yk
 rw[hi]
 show(if(xs.map mk).length≤Xr then _ else none)=_
 rw[if_pos (by rw[Xg,Qc];omega)]
 show(compLoop _ _ _ _ [none,none]).bind _=_
 rw[e1];rfl
theorem Yan{m:Int}(h:0<m):(0:Rat)<(m:Rat):=Rat.intCast_pos.mpr h
theorem Z1x(q r:Rat):gEq (frD q) (frD r)=some (.bool (decide (q=r))):=by
 have s:∀q,Bc (frD q)=true:=λq=>((Zur q).shp).ok
 unfold gEq
 rw[if_pos (by rw[s,s];rfl),Z56]
noncomputable def Zjd{α:Type}(p:List α)(lo hi:Option Int):List α:=(p.drop (HT.sIx p.length 0 lo)).take (HT.sIx p.length p.length hi-HT.sIx p.length 0 lo)
theorem Zv8{α:Type}{p:List α}{lo hi:Option Int}{x:α}(h:x∈Zjd p lo hi):x∈p:=List.mem_of_mem_drop (List.mem_of_mem_take h)
theorem Z3y(q:Rat):frD (-q)= .tuple [.int (0-q.num),.int (q.den:Int)]:=by
 unfold frD;rw[Rat.neg_num,Rat.neg_den,Int.zero_sub];rfl
theorem Qb.neg{n:Nat}{q:Rat}(h:Qb n q):Qb n (-q):=⟨by rw[Rat.neg_num];exact h.1.neg,by rw[Rat.neg_den];exact h.2⟩
theorem Zht{np n:Nat}{S:FS}{xs:List Xa}{Q:Xa->Prop}(hl:xs.length=np)(h:EpS S (Zfs n xs) (λ_=>False) λd _=>Q d):∃d,Told (Zan np n S) xs d∧Q d:=by
 rcases h with⟨_,_,z⟩|⟨o,δ',e,h⟩
 ·exact z.elim
 ·exact⟨_,Yb hl ⟨o,δ',e,rfl⟩,h⟩
theorem Z33(p:List Int×Rat):kdT (ctD p)=some (p.1,[p.2.num,(p.2.den:Int)]):=by
 show((Zb8 (p.1.map Xl)).bind λns=>(Zb8 [.int p.2.num,.int (p.2.den:Int)]).bind λms=>some (ns,ms))=_
 rw[Jw];rfl
noncomputable def sCt(L:List (List Int×Rat)):List (List Int×Rat):=sLay ([],0) (lk kdT ltT (L.map ctD)) L
theorem Zyr{α:Type}(d d':α)(lt:Nat->Nat->Bool)(vs:List α):sLay d lt vs=sLay d' lt vs:=by
 unfold sLay
 split
 ·rfl
 ·refine Xz λi hi=>?_
  have:=QH.mp ((Zin (by omega)).mem_iff.mp hi)
  rw[Xh,Xh,Xi this];rfl
theorem Zru{e:FE}{δ:Zi}{L:List (List Int×Rat)}(he:EvV e δ (Wy L))(h:L.length<64):EvV (fBl (Zg0 kdT ltT) (Zc e Zo)) δ (Wy (sCt L)):=by
 refine Zra (Zb he Zk) (o:=.nd (((sCt L).map ctD).map OT.fz)) ?_ (by rw[OT.data_nd,OT.map_fz];rfl)
 unfold sCt
 rw[←Zvv,Zyr (ctD ([],0)) PyData.none]
 refine if_pos ?_
 rw[Xo,decide_eq_true_eq,Xg,Vd]
 refine⟨h,λd m=>?_⟩
 obtain⟨p,_,rfl⟩:=Qi.mp m
 rw[Z33];rfl
theorem Z0t{d:Xa}{n:Nat}(h:Sh n d)(hn:n≤64)(hp:Yq d=true):gEq d d=some (.bool true)∧gNe d d=some (.bool false):=by
 have s:=(h.shp hn).ok
 unfold gEq gNe
 rw[if_pos (by rw[s];rfl),if_pos (by rw[s];rfl),Zk0 hp]
 exact⟨rfl,rfl⟩
theorem Zxj{w:Str}(h:PyData.strOk w=true):Sh 0 (.str w):=⟨by rw[Be];exact h,Nat.le_of_eq rfl⟩
theorem Zm5(w:Str):Yq (.str w)=true:=by rw[Yq]
theorem Zva{w:Str}(h:PyData.strOk w=true):gNe (.str w) (.str w)=some (.bool false)∧gEq (.str w) (.str w)=some (.bool true):=by
 have:=Z0t (Zxj h) (by decide) (Zm5 w)
 exact⟨this.2,this.1⟩
theorem Sh.up{m n:Nat}{d:Xa}(h:Sh m d)(k:m≤n):Sh n d:=⟨h.1,Qt h.2 k⟩
theorem Zca{n:Nat}{t b:Int}(hb:0<b)(hB:Bt n b)(hn:n≤9000:=by decide):Told Yj [.int t,.int b] (frD (Qn t b)):=by
 obtain⟨z',e⟩:=Zkz (f1:=λx y z=>[some (.fz (.int t)),some (.fz (.int b)),some (.fz (.int x)),some (.fz (.int y)),z]) (f2:=λx y z=>[]) (t:=tV (Ze gNe (Zd 3) (fC (.int 0)))) (u:=Zz (wE (Ze Je (Zd 2) (Zd 3)) (Wb 4)) (Zz (wE (Zd 3) (Wb 2)) (wE (Zd 4) (Wb 3)))) (λx y z=>Zay (Zmt Za Zr rfl)) (λx y z hy=>⟨_,W9 (Zy (Z9 Za Za hy)) (W9 (Zy Za) (Zy Za))⟩) (b.toNat+1) (t.natAbs:Int) b none (by omega) (by omega) (by omega)
 have eg:(JH (t.natAbs:Int) b:Int)=shr t b:=by
  unfold shr
  rw[if_neg (by omega),Bl,Bl,VL]
 obtain⟨e1,e2⟩:=Z15 (t:=t) (b:=b) (by omega) hB hn _ eg
 exact Yb rfl<|Y0 (Zy (Zbc (Zb Za Zk) (Zrf t)))<|Y0 (Zy Za)<|Y0 (Zl9 _ e (by intro z;cases z)) (Yz (Zaa (Zb (Zx Za Za e1) (Zb (Zx Za Za e2) Zk)) (show 2≤1000 by decide)))
theorem Zu2{m n:Nat}{q:Rat}{t b:Int}(h:Qb m q)(ht:Bt n t)(hb:0<b)(hB:Bt n b)(hmn:m+n≤9000):Told Yv [frD q,.tuple [.int t,.int b]] (frD (q+Qn t b)):=by
 have e:q+Qn t b=Qn (q.num*b+t*(q.den:Int)) ((q.den:Int)*b):=by
  conv=>lhs;rw[←VH q]
  rw[Rat.divInt_add_divInt _ _ (Bh (W5 q)) (Bh hb)]
 rw[e]
 exact Yb rfl<|Yz<|Zu (Zb (Wj (Zx (at0 rfl) (Z0 (Za (i:=1) rfl) (Zr (d:=.int 1)) rfl) (Zir (Zic h.1 hB (by omega)))) (Zx (Z0 (Za (i:=1) rfl) (Zr (d:=.int 0)) rfl) (at1 rfl) (Zir (Zic ht h.2 (by omega))))) (Zb (Zx (at1 rfl) (Z0 (Za (i:=1) rfl) (Zr (d:=.int 1)) rfl) (Zir (Zic h.2 hB (by omega)))) Zk)) (Zca (Int.mul_pos (W5 q) hb) (h.2.mul hB) hmn)
theorem Zx4{m n:Nat}{q r:Rat}(h:Qb m q)(k:Qb n r)(hmn:m+n≤9000):Told Yv [frD q,frD r] (frD (q+r)):=by
 have:=Zu2 h k.1 (W5 r) k.2 hmn
 rw[VH]at this
 exact this
noncomputable def Nm(v:Int):Prop:=0≤v∧v<720720
theorem Znd(c:Int)(m:Nat)(hm:m≤1000):∃vs:List Int,Told W3 [.int c,.int m] (Zm vs)∧vs.length=m∧∀v∈vs,Nm v:=by
 have key:∃d,Told W3 [.int c,.int m] d∧∃vs,d=Zm vs∧vs.length=m∧∀v∈vs,Nm v:=by
  refine Zsj rfl<|Js Zpa<|Js (Zy Za)<|Js (Zy (Z9 Za Zr (by decide)))<|Zsg (ds:=Zje 0 m) (λi δ=>∃(vs:List Int) (x s:Int) (z1 z2:Option OT),δ=[some (.fz (.int c)),some (.fz (.int m)),some (.nd (vs.map λv=>.fz (.int v))),some (.fz (.int x)),some (.fz (.int s)),z1,z2]∧vs.length=i∧∀v∈vs,Nm v)
   (Zhe (Zb Za Zk) (by omega)) ⟨[],c,_,none,none,rfl,rfl,λ_ m=>nomatch m⟩ (λi d δ hd q=>?_) λδ' q=>?_
  ·obtain⟨vs,x,s,z1,z2,rfl,hl,hv⟩:=q
   obtain⟨hi,rfl⟩:=Zbn hd
   have snoc:∀w:Int,Nm w->∀v∈vs ++ [w],Nm v:=λw hw v hv'=>by
    rcases Q3.mp hv' with h|h
    ·exact hv v h
    ·rw[Qd.mp h];exact hw
   have ta:=Zay (Zt6 (δ:=[some (.fz (.int c)),some (.fz (.int m)),some (.nd (vs.map λv=>.fz (.int v))),some (.fz (.int x)),some (.fz (.int s)),some (.fz (.int (0+(i:Int)))),z2]) (Za (i:=0) rfl) (Zx (Zr (d:=.int 10)) (Zr (d:=.int 18)) Yea) rfl)
   have tb:=Zay (Zlu (δ:=[some (.fz (.int c)),some (.fz (.int m)),some (.nd (vs.map λv=>.fz (.int v))),some (.fz (.int x)),some (.fz (.int s)),some (.fz (.int (0+(i:Int)))),z2]) (Za (i:=3) rfl) (Zr (d:=.int 0)) rfl)
   have t:=Zi4 ta tb
   cases q:(decide ((1000000000000000000:Int)≤c)&&decide (0<x))with
   | true=>
    rw[q]at t
    exact⟨_,_,rfl,.inl (Zgg t (W9 (Zok (vs:=vs) (Z9 (Za (i:=3) rfl) Zr (by decide)) rfl (by omega)) (Zy (Zf5 Za Zr)))),_,_,_,_,_,rfl,by rw[QJ,hl];rfl,snoc _ ⟨Zer (by decide),Int.lt_trans (Ze2 (by decide)) (by decide)⟩⟩
   | false=>
    rw[q]at t
    have s0:=Zer (i:=(s+7*(0+(i:Int))+3)*48271) (j:=2147483647) (by decide)
    have s1:=Ze2 (i:=(s+7*(0+(i:Int))+3)*48271) (j:=2147483647) (by decide)
    have st1:=Zy (i:=4) (δ:=[some (.fz (.int c)),some (.fz (.int m)),some (.nd (vs.map λv=>.fz (.int v))),some (.fz (.int x)),some (.fz (.int s)),some (.fz (.int (0+(i:Int)))),z2]) (Z9 (Znp (Wj (Wj (Za (i:=4) (d:=.int s)) (Zeu (Zr (d:=.int 7)) (Za (i:=5) (d:=.int (0+(i:Int)))))) (Zr (d:=.int 3))) (Zr (d:=.int 48271))) (Zr (d:=.int 2147483647)) (by decide))
    generalize((s+7*(0+(i:Int))+3)*48271).fmod 2147483647=s' at s0 s1 st1
    exact⟨_,_,rfl,.inl (Y4 t (W9 st1 (W9 (Zy (Z9 (Znp (Z9 (Zeu Za Za (by omega)) Zr (by decide)) Zr) Zr (by decide))) (Zok (vs:=vs) (Z9 (Zf5 Za Zr) Zr (by decide)) rfl (by omega))))),_,_,_,_,_,rfl,by rw[QJ,hl];rfl,snoc _ ⟨Zer (by decide),Ze2 (by decide)⟩⟩
  ·obtain⟨vs,x,s,z1,z2,rfl,hl,hv⟩:=q
   rw[Zah]at hl
   exact Ye8 rfl ⟨vs,Zvu vs,hl,hv⟩
 obtain⟨d,h,vs,rfl,hl⟩:=key
 exact⟨vs,h,hl⟩
theorem Z14{δ:Zi}{e:FE}{vs:List Int}{lo hi:FO}{a b:Nat}(he:EvV e δ (Zm vs))(hl:EvO lo δ (some (a:Int)))(hh:EvO hi δ (some (b:Int)))(hab:a≤b)(hb:b≤vs.length)(hv:∀v∈vs,Nm v):∃us,EvV (fSl e lo hi) δ (Zm us)∧us.length=b-a∧∀v∈us,Nm v:=by
 refine⟨_,Z98 he hl hh rfl,?_,λv m=>hv v (List.mem_of_mem_drop (List.mem_of_mem_take m))⟩
 unfold Z7g
 have e1:HT.sIx vs.length 0 (some (a:Int))=a:=by unfold HT.sIx;simp;rw[if_neg (by omega)];omega
 have e2:HT.sIx vs.length vs.length (some (b:Int))=b:=by unfold HT.sIx;simp;rw[if_neg (by omega)];omega
 rw[e1,e2,Bv,QL];omega
noncomputable def sdL:Nat->List (List Int)
 | 0=>[[]]
 | k+1=>sdL k ++ (sdL k).map λs=>s ++ [(k:Int)+1]
noncomputable def lc2(n:Nat):Nat->List (List Int)
 | 0=>[[]]
 | k+1=>((lc2 n k).map λc=>[((n-1:Nat):Int)-k] ++ c) ++ lc2 n k
theorem Zq2:∀n≤7,∀k≤6,(lc2 n k).length≤64∧∀s∈lc2 n k,s.length≤6:=by decide +kernel
theorem Z02:∀n≤7,1≤n->((lc2 n (n-1)).filter λs=>decide (s≠[])).length<64∧(∀s∈lc2 n (n-1),s∈sdL (n-1))∧∀s∈sdL (n-1),s∈lc2 n (n-1):=by decide +kernel
theorem Z06(b:Bool):Z1l [.bool b]=some (.int (if b then 1 else 0)):=by cases b<;>rfl
noncomputable def Yel(n:Nat)(s:List Int):Prop:=s∈sdL (n-1)∧s≠[]
theorem Zh0{n:Nat}(h0:1≤n)(hn:n≤7):∃Ls:List (List Int),Told Wh [.int n] (LL Ls)∧(∀s,s∈Ls↔Yel n s)∧Ls.length<64:=by
 obtain⟨a1,a2,a3⟩:=Z02 n hn h0
 obtain⟨Ls,eS,hS,lS⟩:=Znk ((lc2 n (n-1)).filter λs=>decide (s≠[])) a1
 refine⟨Ls,?_,λs=>?_,lS⟩
 ·refine Yb rfl<|Y0 (Zy (d:=LL (lc2 n 0)) (Jp (Zb (Jp Zk (show 0≤1000 by decide)) Zk) (show 1≤1000 by decide)))<|Zlz (ds:=Zr2 ((n-1:Nat):Int) (n-1-0)) (λk δ=>∃z,δ=[some (.fz (.int n)),some (.fz (LL (lc2 n k))),z]) (Z8x (m:=n-1) (n:=0) (Zb (EvV.cast (Zfi Za Zr) (congrArg Xl (by omega))) (Zb Zr (Zb (Zg9 Zr) Zk))) (by omega) (by decide)) ⟨none,rfl⟩ (λk d δ hd q=>?_) λδ' q=>?_
  ·obtain⟨z,rfl⟩:=q
   obtain⟨hk,rfl⟩:=Zpi hd
   obtain⟨f1,f2⟩:=Zq2 n hn k (by omega)
   refine⟨_,_,rfl,.inl (Zy (d:=LL (lc2 n (k+1))) (Z5g (p:=(lc2 n k).map λc=>[((n-1:Nat):Int)-k] ++ c) (EvV.cast (Za2 (cs:=[some (.fz (.int (((n-1:Nat):Int)-k)))]) (lc2 n k) Zm (λc=>Zm ([((n-1:Nat):Int)-k] ++ c)) (Jg Za) (by omega) rfl λc hc=>Zs6 (p:=[((n-1:Nat):Int)-k]) (Jp (Zb Za Zk) (show 1≤1000 by decide)) Za ?_) ?_) Za ?_)),_,rfl⟩
   ·have:=f2 c hc
    show 1+_≤_
    omega
   ·unfold LL;rw[Qx];rfl
   ·rw[Xg];omega
  ·obtain⟨z,rfl⟩:=q
   rw[show(Zr2 ((n-1:Nat):Int) (n-1-0)).length=n-1 by unfold Zr2;rw[Xg,Xw];rfl]
   obtain⟨f1,_⟩:=Zq2 n hn (n-1) (by omega)
   exact Yz (Zra (Zb (Zhr (cs:=[]) (lc2 n (n-1)) Zm (λs=>decide (s≠[])) (Jg Za) (by omega) rfl (λs _=>Zay (Zx Za (Jp Zk (show 0≤1000 by decide)) ((Zoh s []).trans (by rw[decide_not])))) λs _ _=>rfl) Zk) eS (by rw[OT.data_nd,OT.map_fz];rfl))
 ·rw[hS,Vy,decide_eq_true_eq]
  exact⟨λz=>⟨a2 s z.1,z.2⟩,λz=>⟨a3 s z.1,z.2⟩⟩
noncomputable def Wt(q:Rat):Prop:=Bt 8 (q.den:Int)∧Bt 110 q.num
theorem Z12{t b:Int}(b0:0<b)(ht:Bt 110 t)(hb:Bt 8 b):Wt (Qn t b):=⟨Zxq (Bh b0) hb,Zw4 (Bh b0) ht⟩
theorem Ye0:Zrn (.int 10) (.int 30)=some (.int 1000000000000000000000000000000):=rfl
theorem Zti{x:Int}(x0:0≤x)(x1:x<100000000)(k:Int):∃q:Rat,Told Zaf [.int x,.int k] (frD q)∧Wt q:=by
 have te:∀j:Int,EvT (tV (Ze gEq (Ze Je (Zd 1) (fC (.int 4))) (fC (.int j)))) (Zfs 2 [.int x,.int k]) (decide (k.fmod 4=j)):=λj=>Zay (Zjm (Z9 (Za (i:=1) rfl) Zr (by decide)) Zr rfl)
 have nn:∀(i j:Int),0<j->0≤i.fmod j∧i.fmod j<j:=λi j h=>⟨Zer h,Ze2 h⟩
 by_cases c0:k.fmod 4=0
 ·have:=nn x 9 (by decide)
  refine⟨((1+x.fmod 9:Int):Rat),Yb rfl (Zbk (Zd4 (decide_eq_true c0▸te 0) (Yz (Zaa (Zb (Wj Zr (Z9 (Za (i:=0) rfl) Zr (by decide))) (Zb Zr Zk)) (show 2≤1000 by decide))))),btc (n:=8) (m:=1) (by decide) (by decide),(Bt.of_lt (m:=10) (by show -(2^10)<1+x.fmod 9;omega) (by show 1+x.fmod 9<2^10;omega)).mono (by decide)⟩
 have s0:=Y4 (S:=wE (Zc2 (Zc (Ze Zaq (fC (.int 1)) (Ze Je (Zd 0) (fC (.int 9)))) (Zc (fC (.int 1)) Zo))) Yr) (S':=fNx) (decide_eq_false c0▸te 0) rfl
 by_cases c1:k.fmod 4=1
 ·have:=nn x 12 (by decide)
  have:=nn (x.fdiv 12) 5 (by decide)
  exact⟨_,Yb rfl (Y0 s0 (Zbk (Zd4 (decide_eq_true c1▸te 1) (Yz (Zu (Zb (Wj Zr (Z9 (Za (i:=0) rfl) Zr (by decide))) (Zb (Wj Zr (Z9 (Zf5 (Za (i:=0) rfl) Zr) Zr (by decide))) Zk)) (Zca (n:=8) (by omega) (Bt.of_lt (by omega) (by omega)))))))),Z12 (by omega) ((Bt.of_lt (m:=10) (by omega) (by omega)).mono (by decide)) (Bt.of_lt (by omega) (by omega))⟩
 have s1:=Y4 (S:=wE (Zw Yj (Zc (Ze Zaq (fC (.int 1)) (Ze Je (Zd 0) (fC (.int 12)))) (Zc (Ze Zaq (fC (.int 1)) (Ze Je (Ze J6 (Zd 0) (fC (.int 12))) (fC (.int 5)))) Zo))) Yr) (S':=fNx) (decide_eq_false c1▸te 1) rfl
 by_cases c2:k.fmod 4=2
 ·have:=nn (x*641) 100003 (by decide)
  have:=nn (x.fdiv 3) 97 (by decide)
  exact⟨_,Yb rfl (Y0 s0 (Y0 s1 (Zbk (Zd4 (decide_eq_true c2▸te 2) (Yz (Zu (Zb (Wj Zr (Z9 (Znp (Za (i:=0) rfl) Zr) Zr (by decide))) (Zb (Wj Zr (Z9 (Zf5 (Za (i:=0) rfl) Zr) Zr (by decide))) Zk)) (Zca (n:=8) (by omega) (Bt.of_lt (by omega) (by omega))))))))),Z12 (by omega) ((Bt.of_lt (m:=20) (by omega) (by omega)).mono (by decide)) (Bt.of_lt (by omega) (by omega))⟩
 ·have:=nn x 63 (by decide)
  have s2:=Y4 (S:=wE (Zw Yj (Zc (Ze Zaq (fC (.int 1)) (Ze Je (Ze Ze8 (Zd 0) (fC (.int 641))) (fC (.int 100003)))) (Zc (Ze Zaq (fC (.int 1)) (Ze Je (Ze J6 (Zd 0) (fC (.int 3))) (fC (.int 97)))) Zo))) Yr) (S':=fNx) (decide_eq_false c2▸te 2) rfl
  refine⟨(((1+x.fmod 63)*1000000000000000000000000000000+x:Int):Rat),Yb rfl (Y0 s0 (Y0 s1 (Y0 s2 (Yz (Zaa (Zb (Wj (Zeu (Wj Zr (Z9 (Za (i:=0) rfl) Zr (by decide))) (Zx Zr Zr Ye0) (by omega)) (Za (i:=0) rfl)) (Zb Zr Zk)) (show 2≤1000 by decide)))))),btc (n:=8) (m:=1) (by decide) (by decide),?_⟩
  have b1:Bt 7 (1+x.fmod 63):=Bt.of_lt (by omega) (by omega)
  have b2:Bt 100 (1000000000000000000000000000000:Int):=btc (by decide +kernel) (by decide +kernel)
  exact(Bt.add' ((b1.mul b2).mono (show 7+100≤107 by decide)) ((Bt.of_lt (m:=30) (x:=x) (by omega) (by omega)).mono (show 30≤107 by decide))).mono (by decide)
noncomputable def Gc(n:Nat)(p:List Int×Rat):Prop:=(∀x∈p.1,1≤x∧x<(n:Int))∧p.1.length≤4∧p.1≠[]∧Wt p.2
theorem sd4:∀n≤5,∀s∈sdL (n-1),s≠[]->s.length≤4∧∀x∈s,1≤x∧x<(n:Int):=by decide +kernel
theorem Zbo{α:Type}(f:α->Xa)(L:List α)(lo hi:Option Int):cutD (L.map f) lo hi=(Zjd L lo hi).map f:=by
 unfold cutD Zjd
 rw[Xg,List.map_take,List.map_drop]
theorem Zum(c:List Int)(L:List (List Int)):∃b,Znn true (Zm c) (.list (L.map Zm))=some (.bool b):=by
 have d32:(Zm c).depth≤32:=Qt (Ze6 c).2 (by decide)
 have ly:(QT (L.map Zm)).canLay0=true:=(Zdn (n:=1) λd m=>by
  obtain⟨q,_,rfl⟩:=Qi.mp m
  exact Ze6 q).1
 exact⟨_,if_pos (by rw[(Ze6 c).1,ly,decide_eq_true d32];rfl)⟩
theorem Ydx{w:Nat}(h:w<4):∃d:Int,gIx (.list [.int 2,.int 3,.int 5,.int 8]) (.int (w:Int))=some (.fz (.int d))∧0<d:=by
 obtain rfl|rfl|rfl|rfl:w=0∨w=1∨w=2∨w=3:=by omega
 all_goals exact⟨_,rfl,by decide⟩
theorem Zqy{L:List (List Int×Rat)}{k:Nat}(h:k<L.length):gIx (Wy L) (.int (k:Int))=some (.fz (ctD (L.getD k ([],0)))):=by
 unfold Wy
 rw[Zi7,Zg4,Xm,Xi h,Xh,Xi h];rfl
theorem Zmi{n:Nat}(h1:1≤n)(h5:n≤5){xs:List Int}(lx:xs.length=34)(hx:∀v∈xs,Nm v):∃L:List (List Int×Rat),Told Wl [.int n,Zm xs] (Wy L)∧L.length≤16∧∀p∈L,Gc n p:=by
 obtain⟨Ls,Tc,hC,lC⟩:=Zh0 (n:=n) h1 (by omega)
 have vAt:∀k:Nat,k<34->Nm (xs.getD k 0):=λk hk=>hx _ (by rw[Xh,Xi (by omega)];exact Bb _)
 have gAt:∀{k:Nat},k<34->gIx (Zm xs) (.int (k:Int))=some (.fz (.int (xs.getD k 0))):=fun{k} hk=>by rw[Zbi (by omega) (by omega),Qj]
 have key:∃d,Told Wl [.int n,Zm xs] d∧∃L:List (List Int×Rat),d=Wy L∧L.length≤16∧∀p∈L,Gc n p:=by
  have em:∀{z3 z4 z5:Option OT},EvV (Zal Z1n (Zc (Zal Zcp (Zc (Zd 2) Zo)) (Zc (fC (.int 16)) Zo))) [some (.fz (.int n)),some (.fz (Zm xs)),some (.fz (LL Ls)),z3,z4,z5] (.int (min Ls.length 16:Nat)):=fun{z3 z4 z5}=>(Zbc (Zb ((Zfx (ds:=Ls.map Zm) (Za (i:=2) rfl)).cast (by rw[Xg])) (Zb (Zr (d:=.int 16)) Zk)) (Zxn _ _)).cast (congrArg Xl (by split<;>omega))
  refine Zsj rfl<|Js (Zy (Zu (Zb Za Zk) Tc))<|Js Zpa<|Zsg (ds:=Zje 0 (min Ls.length 16)) (λk δ=>∃(L:List (List Int×Rat)) (z4 z5:Option OT),δ=[some (.fz (.int n)),some (.fz (Zm xs)),some (.fz (LL Ls)),some (.nd ((L.map ctD).map OT.fz)),z4,z5]∧L.length≤k∧∀p∈L,Gc n p) (Zhe (Zb em Zk) (by omega)) ⟨[],none,none,rfl,X6 _,λ_ m=>nomatch m⟩ (λk d δ hd q=>?_) λδ' q=>?_
  ·obtain⟨L,z4,z5,rfl,lL,hL⟩:=q
   obtain⟨hk,rfl⟩:=Zbn hd
   have pos:0<Ls.length:=by omega
   have v0:=vAt 0 (by decide)
   have v2:=vAt (2+k) (by omega)
   obtain⟨a,ea,la⟩:=Yu (xs.getD 0 0+(0+(k:Int))*(1+2*(xs.getD 1 0).fmod 8)) pos
   obtain⟨E,hE⟩:∃E:Option OT->Zi,E= λz5=>[some (.fz (.int n)),some (.fz (Zm xs)),some (.fz (LL Ls)),some (.nd ((L.map ctD).map OT.fz)),some (.fz (.int (0+(k:Int)))),z5]:=⟨_,rfl⟩
   have w1:∀{z},(E z)[1]? =some (some (.fz (Zm xs))):=by rw[hE];exact fun{_}=>rfl
   have w2:∀{z},(E z)[2]? =some (some (.fz (LL Ls))):=by rw[hE];exact fun{_}=>rfl
   have w4:∀{z},(E z)[4]? =some (some (.fz (.int (0+(k:Int))))):=by rw[hE];exact fun{_}=>rfl
   have e2k:∀{z},EvV (Zq gIx (Zd 1) (Ze Zaq (fC (.int 2)) (Zd 4))) (E z) (.int (xs.getD (2+k) 0)):=fun{z}=>Z0 (Za w1) ((Wj (Zr (d:=.int 2)) (Za w4)).cast (congrArg Xl (by omega:(2:Int)+(0+(k:Int))=((2+k:Nat):Int)))) (gAt (by omega))
   have s5:wE (Ze Je (Ze Zaq (Zq gIx (Zd 1) (fC (.int 0))) (Ze Ze8 (Zd 4) (Ze Zaq (fC (.int 1)) (Ze Ze8 (fC (.int 2)) (Ze Je (Zq gIx (Zd 1) (fC (.int 1))) (fC (.int 8))))))) (Zal Zcp (Zc (Zd 2) Zo))) (Wb 5) (E z5)= .nx (E (some (.fz (.int (a:Int))))):=(Zy (d:=.int (a:Int)) (ea▸Z9 (Wj (Z0 (Za w1) (Zr (d:=.int 0)) (gAt (k:=0) (by decide))) (Zeu (Za w4) (Wj Zr (Zeu (Zr (d:=.int 2)) (Z9 (Z0 (Za w1) (Zr (d:=.int 1)) (gAt (k:=1) (by decide))) Zr (by decide)))) (by omega))) ((Zfx (ds:=Ls.map Zm) (Za w2)).cast (by rw[Xg])) (by omega))).trans (by rw[hE];rfl)
   obtain⟨w,ew,lw⟩:=Yu (xs.getD 18 0) (n:=4) (by decide)
   obtain⟨dv,edv,dv0⟩:=Ydx lw
   have t:=Zay (Zjm (δ:=E (some (.fz (.int (a:Int))))) (Z9 e2k (Z0 (Jp (Zb Zr (Zb Zr (Zb Zr (Zb Zr Zk)))) (show 4≤1000 by decide)) (ew▸Z9 (Z0 (Za w1) (Zr (d:=.int 18)) (gAt (k:=18) (by decide))) (Zr (d:=.int 4)) (by decide)) edv) (by omega)) (Zr (d:=.int 0)) rfl)
   cases c:decide ((xs.getD (2+k) 0).fmod dv=0)with
   | false=>
    rw[c]at t
    exact⟨E z5,_,by rw[hE];rfl,.inl (W9 s5 (Y4 t rfl)),L,some (.fz (.int (0+(k:Int)))),_,by rw[hE],by omega,hL⟩
   | true=>
    rw[c]at t
    unfold Nm at v0 v2
    have f8:0≤(xs.getD (2+k) 0).fdiv 8∧(xs.getD (2+k) 0).fdiv 8<720720:=by rw[Int.fdiv_eq_ediv_of_nonneg _ (by decide)];omega
    obtain⟨q,Tq,hq⟩:=Zti (x:=(xs.getD (2+k) 0).fdiv 8+8*xs.getD 0 0) (by omega) (by omega) (xs.getD 19 0)
    have hc:=(hC (Ls.getD a [])).mp (by rw[Xh,Xi la];exact Bb _)
    obtain⟨c1,c2⟩:=sd4 n h5 _ hc.1 hc.2
    refine⟨E z5,_,by rw[hE];rfl,.inl (W9 s5 (Zgg t (Zm3 (ts:=(L.map ctD).map OT.fz) (d:=ctD (Ls.getD a [],q)) (Zaa (Zb (Z0 (Za w2) (Za (i:=5) (d:=.int (a:Int)) (by rw[hE];rfl)) ?_) (Zb (Zu (Zb (Wj (Zf5 e2k Zr) (Zeu (Zr (d:=.int 8)) (Z0 (Za w1) (Zr (d:=.int 0)) (gAt (k:=0) (by decide))))) (Zb (Z0 (Za w1) (Zr (d:=.int 19)) (gAt (k:=19) (by decide))) Zk)) Tq) Zk)) (show 2≤1000 by decide)) (by rw[hE];rfl) (by rw[Xg,Xg];omega)))),L ++ [(Ls.getD a [],q)],some (.fz (.int (0+(k:Int)))),some (.fz (.int (a:Int))),?_,by rw[QJ,List.length_singleton];omega,λp m=>?_⟩
    ·unfold LL
     rw[Zi7,Zg4,Xm,Xi la,Xh,Xi la];rfl
    ·rw[hE,Qu,Qu];rfl
    ·rcases Q3.mp m with m|m
     ·exact hL p m
     ·rw[Qd.mp m];exact⟨c2,c1,hc.2,hq⟩
  ·obtain⟨L,z4,z5,rfl,lL,hL⟩:=q
   rw[Zah]at lL
   have mem:∀k:Nat,∃b:Bool,k∈Xn L.length->EvT (tV (Ze (Znn true) (Zq gIx (Zq gIx (Zd 1) (Zd 0)) (fC (.int 0))) (Yk 1 [] (Zcl (fSl (Zd 1) oN (oI (Zd 0)))) (gNm 0) Zen (Zq gIx (Zd 0) (fC (.int 0)))))) [some (.fz (.int (0+(k:Int)))),some (.fz (Wy L))] b:=λk=>by
    by_cases hk:k<L.length
    ·obtain⟨b,hb⟩:=Zum (L.getD k ([],0)).1 ((Zjd L none (some (0+(k:Int)))).map λp=>p.1)
     refine⟨b,λ_=>Zay (Zx (Z0 (Z0 (Za (i:=1) rfl) ((Za (i:=0) (d:=.int (0+(k:Int))) rfl).cast (by rw[Uy])) (Zqy hk)) (Zr (d:=.int 0)) rfl) (Za2 (cs:=[]) (Zjd L none (some (0+(k:Int)))) ctD (λp=>Zm p.1) (Jg ((Zlh (ds:=L.map ctD) (Za (i:=1) rfl) Zmg (Zjb (Za (i:=0) (d:=.int (0+(k:Int))) rfl))).cast (by rw[Zbo]))) (Qt (show(Zjd L none (some (0+(k:Int)))).length≤16 by unfold Zjd;rw[Bv,QL];omega) (by decide)) rfl λp _=>Z0 (Za (i:=0) (d:=ctD p) rfl) (Zr (d:=.int 0)) rfl) (by rw[Qx]at hb;exact hb))⟩
    ·exact⟨true,λm=>absurd (QH.mp m) hk⟩
   obtain⟨pr,hpr⟩:=Classical.axiomOfChoice mem
   have ec:EvV (Yk 1 [3] (iRa (Zc (Zal Zcp (Zc (Zd 3) Zo)) Zo)) (gNm 0) (tV (Ze (Znn true) (Zq gIx (Zq gIx (Zd 1) (Zd 0)) (fC (.int 0))) (Yk 1 [] (Zcl (fSl (Zd 1) oN (oI (Zd 0)))) (gNm 0) Zen (Zq gIx (Zd 0) (fC (.int 0)))))) (Zq gIx (Zd 1) (Zd 0))) [some (.fz (.int n)),some (.fz (Zm xs)),some (.fz (LL Ls)),some (.fz (Wy L)),z4,z5] (Wy (((Xn L.length).filter pr).map λk=>L.getD k ([],0))):=by
    refine⟨_,Zmc (cs:=[some (.fz (Wy L))]) (Xn L.length) (λk:Nat=>Xl (0+(k:Int))) pr (λk=>.fz (ctD (L.getD k ([],0)))) (Zhe (n:=L.length) (Zb ((Zfx (ds:=L.map ctD) (Za (i:=3) rfl)).cast (by rw[Xg])) Zk) (by omega)) (by rw[Xw,Qc];omega) rfl (λk hk=>hpr k hk) (λk hk _=>?_),?_⟩
    ·obtain⟨_,e1,d1⟩:=Za (δ:=[some (.fz (Xl (0+(k:Int)))),some (.fz (Wy L))]) (i:=1) (d:=Wy L) rfl
     obtain⟨_,e2,d2⟩:=Za (δ:=[some (.fz (Xl (0+(k:Int)))),some (.fz (Wy L))]) (i:=0) (d:=.int (0+(k:Int))) rfl
     rw[Zt3,e1,Xe,e2,Xe,d1,d2,Uy,Zqy (QH.mp hk),Xe]
    ·rw[OT.data_nd,Qx]
     unfold Wy
     rw[Qx]
     exact congrArg QT (Xz λk _=>OT.data_fz _)
   obtain⟨L2,hL2⟩:∃L2,L2=((Xn L.length).filter pr).map λk=>L.getD k ([],0):=⟨_,rfl⟩
   rw[←hL2]at ec
   have l2:L2.length≤16:=by
    rw[hL2,Xg]
    exact Qt (List.length_filter_le _ _) (by rw[Xw];omega)
   have g2:∀p∈L2,Gc n p:=λp m=>by
    rw[hL2]at m
    obtain⟨k,hk,rfl⟩:=Qi.mp m
    have hk:=QH.mp (Vy.mp hk).1
    exact hL _ (by rw[Xh,Xi hk];exact Bb _)
   have pm:(sCt L2).Perm L2:=Zfy _ _ _
   refine Zsd (o:=.nd ((L.map ctD).map OT.fz)) rfl ?_
   rw[OT.data_nd,OT.map_fz]
   exact Zjz (Zru ec (by omega)) ⟨sCt L2,rfl,by rw[pm.length_eq];exact l2,λp m=>g2 p (pm.mem_iff.mp m)⟩
 obtain⟨d,h,L,rfl,hL⟩:=key
 exact⟨L,h,hL⟩
theorem Znc{e:FE}{δ:Zi}{d:Xa}(h:EvV e δ d)(hf:Zce d=true):EvV (Zl6 e) δ d:=by
 obtain⟨_,e1,d1⟩:=h
 exact⟨_,by rw[Zwr,e1,Xe,d1,if_pos hf],OT.data_fz _⟩
theorem Zkt{s n i j:Nat}{a b:FE}{δ:Zi}{f:Nat->Nat->Xa}(hs:δ[s]? =some (some (Y7 n f)))(ha:EvV a δ (.int (i:Int)))(hi:i<n)(hb:EvV b δ (.int (j:Int)))(hj:j<n):EvV (Zq gIx (Zq gIx (Zn0 s) a) b) δ (f i j):=by
 refine Z0 (Z0 (Ztr hs (Zai n f)) ha (d:=.list ((Xn n).map λj=>f i j)) ?_) hb ?_
 ·unfold Wo
  rw[Zi7,Zg4,Xm,QW hi];rfl
 ·rw[Zi7,Zg4,Xm,QW hj];rfl
noncomputable def upT(T:Nat->Nat->Rat)(i j:Nat)(q:Rat):Nat->Nat->Rat:=λx y=>if x=j∧y=i then q else if x=i∧y=j then q else T x y
theorem Zoi{s ia ib n i j:Nat}{e:FE}{δ:Zi}{T:Nat->Nat->Rat}{q:Rat}(he:EvV e δ (frD q))(hs:δ[s]? =some (some (Y7 n (frG T))))(hi:δ[ia]? =some (some (.fz (.int (i:Int)))))(hj:δ[ib]? =some (some (.fz (.int (j:Int)))))(h1:s≠ia)(h2:s≠ib)(li:i<n)(lj:j<n) :
  Zz (Zgf s e (Zd ia) (Zd ib)) (Zgf s (Zl6 (Zq gIx (Zq gIx (Zn0 s) (Zd ia)) (Zd ib))) (Zd ib) (Zd ia)) δ= .nx (δ.set s (some (Y7 n (frG (upT T i j q))))):=by
 have hl:=(Xk.mp hs).1
 have p1:=Zfc he hs (Za hi) li (Za hj) lj
 have s1:(δ.set s (some (Y7 n (upG (frG T) i j (frD q)))))[s]? =some (some (Y7 n (upG (frG T) i j (frD q)))):=QQ hl
 have i1:(δ.set s (some (Y7 n (upG (frG T) i j (frD q)))))[ia]? =some (some (.fz (.int (i:Int)))):=by rw[Qw h1];exact hi
 have j1:(δ.set s (some (Y7 n (upG (frG T) i j (frD q)))))[ib]? =some (some (.fz (.int (j:Int)))):=by rw[Qw h2];exact hj
 have e1:upG (frG T) i j (frD q) i j=frD q:=if_pos ⟨rfl,rfl⟩
 have p2:=Zfc (d:=frD q) (Znc (e1▸Zkt s1 (Za i1) li (Za j1) lj) rfl) s1 (Za j1) lj (Za i1) li
 refine W9 p1 (p2.trans ?_)
 rw[List.set_set]
 refine congrArg (λz=>RS.nx (δ.set s (some z))) (Zot λx y _ _=>?_)
 unfold upG frG upT
 split
 ·rfl
 ·split<;>rfl
theorem Zj5{n:Nat}:∀(r:List Rat),(∀q∈r,Bt n (q.den:Int))->∃B:Int,0<B∧Bt (r.length*n+1) B∧∀q∈r,(q.den:Int)∣B
 | [],_=>⟨1,by decide,by rw[List.length_nil,Nat.zero_mul];exact btc (by decide) (by decide),λ_ m=>nomatch m⟩
 | q :: r,h=>by
  obtain⟨B,h0,h1,h2⟩:=Zj5 r λp hp=>h p (.tail _ hp)
  refine⟨(q.den:Int)*B,Int.mul_pos (W5 q) h0,?_,λp hp=>?_⟩
  ·rw[Ba,Nat.succ_mul]
   exact((h q (.head _)).mul h1).mono (by omega)
  ·rcases Xu.mp hp with rfl|hp
   ·exact Int.dvd_mul_right ..
   ·exact VD (h2 p hp) (Int.dvd_mul_left ..)
noncomputable def Gw(B:Int)(q:Rat):Prop:=(q.den:Int)∣B∧Qb 200 q
theorem Z8a{B:Int}(B0:0<B)(bB:Bt 200 B){q:Rat}(h:Gw B q):Qv B 400 q:=by
 refine⟨scI B q,?_,h.2.1.mul (bB.of_le (Vv _ _))⟩
 rw[Vl,Zxv h.1,Rat.mul_div_cancel (Rat.ne_of_gt (Yan B0))]
theorem Zx9{B:Int}(B0:0<B)(bB:Bt 200 B){N:Nat}(hN:200≤N){q:Rat}(h:Qv B N q):Qb N q:=by
 obtain⟨x,rfl,bx⟩:=h
 exact Zwn (Bh B0) bx (bB.mono hN)
theorem Zzd{L:List (List Int×Rat)}{c:Nat}{p:List Int×Rat}(h:L[c]? =some p)(i j:Nat):Sm (L.take (c+1)) i j=Sm (L.take c) i j+if prt i j p=true then p.2 else 0:=by
 unfold Sm
 rw[Vq,h,Option.toList_some,List.filter_append,Qu,List.filter_cons,List.filter_nil]
 by_cases z:prt i j p=true
 ·rw[if_pos z,if_pos z,VF,Zvq]
 ·rw[if_neg z,if_neg z,List.map_nil,JQ,Rat.add_zero]
theorem Zu6(i j:Nat)(p:List Int×Rat):prt i j p=prt j i p:=by
 unfold prt
 exact congrArg Bool.not (decide_eq_decide.mpr ⟨Eq.symm,Eq.symm⟩)
theorem Zrz(L:List (List Int×Rat))(i j:Nat):Sm L i j=Sm L j i:=by
 unfold Sm
 rw[show prt i j=prt j i from funext λp=>Zu6 i j p]
theorem Z0z(i j:Nat)(p:List Int×Rat):prt i j p=true↔((i:Int)∈p.1∧(j:Int)∉p.1)∨((j:Int)∈p.1∧(i:Int)∉p.1):=by
 unfold prt sd
 by_cases a:(i:Int)∈p.1<;>by_cases b:(j:Int)∈p.1<;>simp[a,b]
noncomputable def Rg(p:List Int)(a i b x y:Nat):Prop:=((x:Int)∈p.take a∧(y:Int)∉p)∨((y:Int)∈p.take a∧(x:Int)∉p)∨(x=i∧y<b∧(y:Int)∉p)∨(y=i∧x<b∧(x:Int)∉p)
noncomputable def rg(p:List Int)(w:Rat)(a i b x y:Nat):Rat:=@ite Rat (Rg p a i b x y) (Classical.propDecidable _) w 0
theorem Zhu{p:List Int}{w:Rat}{a i b x y a' i' b' x' y':Nat}(h:Rg p a i b x y↔Rg p a' i' b' x' y'):rg p w a i b x y=rg p w a' i' b' x' y':=by
 unfold rg
 by_cases c:Rg p a i b x y
 ·rw[if_pos c,if_pos (h.mp c)]
 ·rw[if_neg c,if_neg λz=>c (h.mpr z)]
theorem Zs8{p:List Int}{w:Rat}{a i b x y:Nat}(h:Rg p a i b x y):rg p w a i b x y=w:=if_pos h
theorem Z1i{p:List Int}{w:Rat}{a i b x y:Nat}(h:¬Rg p a i b x y):rg p w a i b x y=0:=if_neg h
theorem Yez{p:List Int}{a i x y:Nat}:Rg p a i 0 x y↔Rg p a 0 0 x y:=by
 unfold Rg
 constructor
 ·rintro(z|z|z|z)
  ·exact .inl z
  ·exact .inr (.inl z)
  ·exact absurd z.2.1 (QB _)
  ·exact absurd z.2.1 (QB _)
 ·rintro(z|z|z|z)
  ·exact .inl z
  ·exact .inr (.inl z)
  ·exact absurd z.2.1 (QB _)
  ·exact absurd z.2.1 (QB _)
theorem Z9q{p:List Int}{a i b x y:Nat}(h:(b:Int)∈p):Rg p a i (b+1) x y↔Rg p a i b x y:=by
 unfold Rg
 have f:∀u:Nat,u<b+1∧(u:Int)∉p↔u<b∧(u:Int)∉p:=λu=>⟨λz=>⟨by
  rcases Ux u b with c|c
  ·exact c
  ·have:u=b:=by omega
   exact absurd (this▸h) z.2,z.2⟩,λz=>⟨by omega,z.2⟩⟩
 rw[f x,f y]
theorem Zu1{p:List Int}{a i b x y:Nat}(h1:¬(x=b∧y=i))(h2:¬(x=i∧y=b)):Rg p a i (b+1) x y↔Rg p a i b x y:=by
 unfold Rg
 have f1:(x=i∧y<b+1∧(y:Int)∉p)↔(x=i∧y<b∧(y:Int)∉p):=⟨λz=>⟨z.1,by have:=z.1;have:=z.2.1;omega,z.2.2⟩,λz=>⟨z.1,by have:=z.2.1;omega,z.2.2⟩⟩
 have f2:(y=i∧x<b+1∧(x:Int)∉p)↔(y=i∧x<b∧(x:Int)∉p):=⟨λz=>⟨z.1,by have:=z.1;have:=z.2.1;omega,z.2.2⟩,λz=>⟨z.1,by have:=z.2.1;omega,z.2.2⟩⟩
 rw[f1,f2]
theorem Z1c{p:List Int}{a:Nat}{x:Int}(nd:p.Nodup)(h:p[a]? =some x):x∉p.take a:=λm=>by
 obtain⟨j,hj⟩:=Q9 m
 rw[List.getElem?_take]at hj
 split at hj
 ·have:=(List.getElem?_inj (Xk.mp hj).1 nd).mp (hj.trans h.symm)
  omega
 ·cases hj
theorem Z49{p:List Int}{a i b:Nat}(nd:p.Nodup)(h:p[a]? =some (i:Int))(hb:(b:Int)∉p):¬Rg p a i b i b:=by
 have hi:=XR h
 rintro(z|z|z|z)
 ·exact Z1c nd h z.1
 ·exact z.2 hi
 ·exact absurd z.2.1 (JP _)
 ·exact z.2.2 hi
theorem Z3g{p:List Int}{a i n x y:Nat}(h:p[a]? =some (i:Int))(hx:x<n)(hy:y<n):Rg p a i n x y↔Rg p (a+1) 0 0 x y:=by
 unfold Rg
 have e:p.take (a+1)=p.take a ++ [(i:Int)]:=by rw[Vq,h];rfl
 have m:∀u:Nat,(u:Int)∈p.take (a+1)↔(u:Int)∈p.take a∨u=i:=λu=>by rw[e,Q3,Qd,Int.natCast_inj]
 rw[m x,m y]
 constructor
 ·rintro(z|z|z|z)
  ·exact .inl ⟨.inl z.1,z.2⟩
  ·exact .inr (.inl ⟨.inl z.1,z.2⟩)
  ·exact .inl ⟨.inr z.1,z.2.2⟩
  ·exact .inr (.inl ⟨.inr z.1,z.2.2⟩)
 ·rintro(⟨z|z,w⟩|⟨z|z,w⟩|z|z)
  ·exact .inl ⟨z,w⟩
  ·exact .inr (.inr (.inl ⟨z,hy,w⟩))
  ·exact .inr (.inl ⟨z,w⟩)
  ·exact .inr (.inr (.inr ⟨z,hx,w⟩))
  ·exact absurd z.2.1 (QB _)
  ·exact absurd z.2.1 (QB _)
theorem Z51(p:List Int×Rat)(x y:Nat):rg p.1 p.2 p.1.length 0 0 x y=if prt x y p=true then p.2 else 0:=by
 have e:Rg p.1 p.1.length 0 0 x y↔prt x y p=true:=by
  rw[Z0z]
  unfold Rg
  rw[Vc]
  constructor
  ·rintro(z|z|z|z)
   ·exact .inl z
   ·exact .inr z
   ·exact absurd z.2.1 (QB _)
   ·exact absurd z.2.1 (QB _)
  ·rintro(z|z)
   ·exact .inl z
   ·exact .inr (.inl z)
 by_cases c:prt x y p=true
 ·rw[if_pos c,Zs8 (e.mpr c)]
 ·rw[if_neg c,Z1i λz=>c (e.mp z)]
theorem Zwv(p:List Int)(w:Rat)(x y:Nat):rg p w 0 0 0 x y=0:=Z1i (by
 unfold Rg
 rw[List.take_zero]
 rintro(z|z|z|z)
 ·exact nomatch z.1
 ·exact nomatch z.1
 ·exact absurd z.2.1 (QB _)
 ·exact absurd z.2.1 (QB _))
noncomputable def RO(S:FS)(δ:Zi)(Q:OT->Prop):Prop:=∃o δ',S δ= .rt o δ'∧Q o
theorem Zm6{S S':FS}{δ δ':Zi}{Q:OT->Prop}(h:S δ= .nx δ')(k:RO S' δ' Q):RO (Zz S S') δ Q:=by
 obtain⟨o,e,h1,h2⟩:=k
 exact⟨o,e,W9 h h1,h2⟩
theorem Z44{it:FI}{g:FG}{S S':FS}{δ:Zi}{ds:List Xa}{Q:OT->Prop}(I:Nat->Zi->Prop)(hi:EvI it δ ds)(h0:I 0 δ)(turn:∀(i:Nat) (d:Xa) (δ:Zi),ds[i]? =some d->I i δ->∃δ1 δ2,g d δ=some δ1∧(S δ1= .nx δ2∨S δ1= .ct δ2)∧I (i+1) δ2)(k:∀δ',I ds.length δ'->RO S' δ' Q):RO (Zz (Zco it g S) S') δ Q:=by
 obtain⟨δ',e,h⟩:=Znq I hi h0 turn
 exact Zm6 e (k δ' h)
theorem Z3r{np n:Nat}{S:FS}{xs:List Xa}{Q:OT->Prop}(hl:xs.length=np)(h:RO S (Zfs n xs) Q):∃o,Zan np n S xs= .ok o∧Q o:=by
 obtain⟨o,e,h1,h2⟩:=h
 exact⟨o,by rw[Zlj hl,h1];rfl,h2⟩
theorem Zii{n:Nat}(h6:n≤6){B:Int}(B0:0<B)(bB:Bt 200 B){L:List (List Int×Rat)}(lL:L.length≤40)(hL:∀p∈L,(∀x∈p.1,0≤x∧x<(n:Int))∧p.1.length≤12∧Gw B p.2):∃T,Yh [.int n,Wy L]= .ok (Y7 n (frG T))∧(∀i j,i<n->j<n->Qb 3300 (T i j))∧((∀p∈L,p.1.Nodup)->∀i j,i<n->j<n->T i j=Sm L i j):=by
 have wq:∀p∈L,Qv B 400 p.2:=λp hp=>Z8a B0 bB (hL p hp).2.2
 have key:∃o,Yh [.int n,Wy L]= .ok o∧∃T,o=Y7 n (frG T)∧(∀i j,i<n->j<n->Qb 3300 (T i j))∧((∀p∈L,p.1.Nodup)->∀i j,i<n->j<n->T i j=Sm L i j):=by
  have e0:Yk 1 [0] (iRa (Zc (Zd 0) Zo)) (gNm 0) Zen (Yk 1 [] (iRa (Zc (Zd 1) Zo)) (gNm 0) Zen (Zc2 (Zc (fC (.int 0)) (Zc (fC (.int 1)) Zo)))) (Zfs 7 [.int n,Wy L])=some (Y7 n (frG λ_ _=>0),Zfs 7 [.int n,Wy L]):=by
   refine(Zhk (cs:=[some (.fz (.int n))]) (Xn n) (λi:Nat=>Xl (0+(i:Int))) (λi=>.nd ((Xn n).map λj=>.fz (frD 0))) (Zhe (n:=n) (Zb (Za (i:=0) rfl) Zk) (by omega)) (by rw[Xw,Qc];omega) rfl λx _=>?_).trans rfl
   exact Zhk (cs:=[]) (Xn n) (λi:Nat=>Xl (0+(i:Int))) (λ_=>.fz (frD 0)) (Zhe (n:=n) (Zb (Za (i:=1) rfl) Zk) (by omega)) (by rw[Xw,Qc];omega) rfl λx _=>rfl
  refine Z3r rfl<|Zm6 (Zis e0)<|Z44 (ds:=L.map ctD) (λc δ=>∃(T:Nat->Nat->Rat) (z3 z4 z5 z6:Option OT),δ=[some (.fz (.int n)),some (.fz (Wy L)),some (Y7 n (frG T)),z3,z4,z5,z6]∧(∀i j,i<n->j<n->Qv B (400+c*72) (T i j))∧((∀p∈L,p.1.Nodup)->∀i j,i<n->j<n->T i j=Sm (L.take c) i j)) (Jg (Za (i:=1) rfl)) ⟨_,none,none,none,none,rfl,λi j _ _=>⟨0,(Rat.zero_divInt B).symm,(btc (n:=1) (by decide) (by decide)).mono (by decide)⟩,λ_ _ _ _ _=>rfl⟩ (λc d δ hd q=>?_) λδ' q=>?_
  ·obtain⟨T,z3,z4,z5,z6,rfl,hT,hX⟩:=q
   rw[Xm]at hd
   cases hp:L[c]? with
   | none=>rw[hp]at hd;cases hd
   | some p=>
    rw[hp]at hd
    cases hd
    have mp:=XR hp
    have hc:=(Xk.mp hp).1
    obtain⟨g1,g2,_⟩:=hL p mp
    have wp:=wq p mp
    refine Zks (δ1:=[some (.fz (.int n)),some (.fz (Wy L)),some (Y7 n (frG T)),some (.fz (Zm p.1)),some (.fz (frD p.2)),z5,z6]) (ds:=p.1.map Xl) (λa δ=>∃(T:Nat->Nat->Rat) (z5 z6:Option OT),δ=[some (.fz (.int n)),some (.fz (Wy L)),some (Y7 n (frG T)),some (.fz (Zm p.1)),some (.fz (frD p.2)),z5,z6]∧(∀i j,i<n->j<n->Qv B (400+c*72+a*6) (T i j))∧((∀p∈L,p.1.Nodup)->∀i j,i<n->j<n->T i j=Sm (L.take c) i j+rg p.1 p.2 a 0 0 i j)) rfl (Jg (Za (i:=3) rfl)) ⟨T,z5,z6,rfl,hT,λz i j hi hj=>by rw[hX z i j hi hj,Zwv,Rat.add_zero]⟩ (λa d δ hd q=>?_) λδ' q=>?_
    ·obtain⟨T,z5,z6,rfl,hT,hX⟩:=q
     rw[Xm]at hd
     cases hx:p.1[a]? with
     | none=>rw[hx]at hd;cases hd
     | some x=>
      rw[hx]at hd
      cases hd
      have ha:=(Xk.mp hx).1
      obtain⟨x0,x5⟩:=g1 x (XR hx)
      obtain⟨i,rfl⟩:∃i:Nat,x=(i:Int):=⟨x.toNat,by omega⟩
      refine Zks (δ1:=[some (.fz (.int n)),some (.fz (Wy L)),some (Y7 n (frG T)),some (.fz (Zm p.1)),some (.fz (frD p.2)),some (.fz (.int (i:Int))),z6]) (ds:=Zje 0 n) (λb δ=>∃(T:Nat->Nat->Rat) (z6:Option OT),δ=[some (.fz (.int n)),some (.fz (Wy L)),some (Y7 n (frG T)),some (.fz (Zm p.1)),some (.fz (frD p.2)),some (.fz (.int (i:Int))),z6]∧(∀i j,i<n->j<n->Qv B (400+c*72+a*6+b) (T i j))∧((∀p∈L,p.1.Nodup)->∀x y,x<n->y<n->T x y=Sm (L.take c) x y+rg p.1 p.2 a i b x y)) rfl (Zhe (n:=n) (Zb (Za (i:=0) rfl) Zk) (by omega)) ⟨T,z6,rfl,hT,λz x y hx hy=>by rw[hX z x y hx hy,Zhu Yez.symm]⟩ (λb d δ hd q=>?_) λδ' q=>?_
      ·obtain⟨T,z6,rfl,hT,hX⟩:=q
       obtain⟨hb,rfl⟩:=Zbn hd
       rw[Uy]
       have t:=Zay (Zx (δ:=[some (.fz (.int n)),some (.fz (Wy L)),some (Y7 n (frG T)),some (.fz (Zm p.1)),some (.fz (frD p.2)),some (.fz (.int (i:Int))),some (.fz (.int (b:Int)))]) (Za (i:=6) rfl) (Za (i:=3) rfl) (Zit true (b:Int) p.1))
       have t:EvT _ _ (!decide ((b:Int)∈p.1)):=t
       cases c2:!decide ((b:Int)∈p.1)with
       | false=>
        rw[c2]at t
        exact⟨_,_,rfl,.inl (Y4 t rfl),T,_,rfl,λx y hx hy=>(hT x y hx hy).up (by omega),λz x y hx hy=>by rw[hX z x y hx hy,Zhu (Z9q (by simpa using c2)).symm]⟩
       | true=>
        rw[c2]at t
        have q1:=hT i b (by omega) (by omega)
        have q2:Qv B (400+c*72+a*6+b+1) (T i b+p.2):=q1.add (wp.up (by omega))
        refine⟨_,_,rfl,.inl (Zgg t (Zoi (s:=2) (ia:=5) (ib:=6) (q:=T i b+p.2) (Znc (Zu (Zb (Zkt (f:=frG T) rfl (Za (i:=5) rfl) (by omega) (Za (i:=6) rfl) (by omega)) (Zb (Za (i:=4) rfl) Zk)) (Zx4 (Zx9 B0 bB (by omega) q1) (Zx9 B0 bB (by decide) wp) (by omega))) rfl) rfl rfl rfl (by decide) (by decide) (by omega) (by omega))),upT T i b (T i b+p.2),_,rfl,λx y hx hy=>?_,λz x y hx' hy=>?_⟩
        ·unfold upT
         split
         ·exact q2
         ·split
          ·exact q2
          ·exact(hT x y hx hy).up (by omega)
        ·have nb:(b:Int)∉p.1:=by simpa using c2
         have v:=hX z i b (by omega) (by omega)
         rw[Z1i (Z49 (z p mp) hx nb),Rat.add_zero]at v
         unfold upT
         by_cases k1:x=b∧y=i
         ·rw[if_pos k1,v,k1.1,k1.2,Zrz,Zs8 (.inr (.inr (.inr ⟨rfl,Ve _,nb⟩)))]
         ·rw[if_neg k1]
          by_cases k2:x=i∧y=b
          ·rw[if_pos k2,v,k2.1,k2.2,Zs8 (.inr (.inr (.inl ⟨rfl,Ve _,nb⟩)))]
          ·rw[if_neg k2,hX z x y hx' hy,Zhu (Zu1 k1 k2).symm]
      ·obtain⟨T,z6,e,hT,hX⟩:=q
       rw[Zah]at hT hX
       exact⟨T,_,_,e,λx y hx hy=>(hT x y hx hy).up (by omega),λz x y hx' hy=>by rw[hX z x y hx' hy,Zhu (Z3g hx hx' hy)]⟩
    ·obtain⟨T,z5,z6,e,hT,hX⟩:=q
     rw[Xg]at hT hX
     exact⟨T,_,_,_,_,e,λx y hx hy=>(hT x y hx hy).up (by omega),λz x y hx hy=>by rw[hX z x y hx hy,Z51,Zzd hp]⟩
  ·obtain⟨T,z3,z4,z5,z6,rfl,hT,hX⟩:=q
   rw[Xg]at hT hX
   rw[Vc]at hX
   exact⟨_,_,rfl,T,rfl,λi j hi hj=>(Zx9 B0 bB (by omega) (hT i j hi hj)).up (by omega),hX⟩
 obtain⟨d,h,T,rfl,hT⟩:=key
 exact⟨T,h,hT⟩
theorem Yai{e:FE}{δ:Zi}{ds:List Xa}(h:EvV e δ (.tuple ds)):EvI (iTp e) δ ds:=by
 obtain⟨t,e1,d1⟩:=h
 unfold EvI
 rw[Z40,e1,Xe,d1];rfl
theorem Zfm{N:Nat}{q:Rat}(hq:Qb N q)(hN:N≤9000):Told Ww [frD q] (.bool true):=by
 have b:=W5 q
 refine Yb rfl<|Y0 (Y4 (Zll (Zb1 (p:=true) (Zbd (Za4 Za rfl))) (Zay (Zmt (Zbc (Zb (Za (d:=frD q)) Zk) (Zlq [.int q.num,.int (q.den:Int)])) Zr rfl))) rfl)<|Zlz (ds:=[.int q.num,.int (q.den:Int)]) (λ_ δ=>∃z,δ=[some (.fz (frD q)),z]) (Yai (Za rfl)) ⟨_,rfl⟩ (λk d δ hd z=>?_) λδ' z=>?_
 ·obtain⟨z,rfl⟩:=z
  obtain⟨x,rfl⟩:∃x:Int,d= .int x:=by
   rcases Xu.mp (XR hd)with h|h
   ·exact⟨_,h⟩
   ·exact⟨_,Qd.mp h⟩
  exact⟨_,_,rfl,.inl (Y4 (Zll (Zb1 (p:=true) (Zbd (Za4 (Za (i:=1) rfl) rfl))) (Zbd (Za4 (Za (i:=1) rfl) rfl))) rfl),_,rfl⟩
 ·obtain⟨z,rfl⟩:=z
  have L:=Zca (t:=q.num) b hq.2 hN
  rw[VH]at L
  exact Yz (Zbt (Zlu (at1 rfl) Zr (decide_eq_true b)) (Zx (Zu (Zb (at0 rfl) (Zb (at1 rfl) Zk)) L) (Za (i:=0) rfl) ((Z1x q q).trans (by rw[decide_eq_true rfl]))))
theorem Z5o{α:Type}(p:List α):Zjd p (some 1) none=p.drop 1:=by
 cases p with
 | nil=>rfl
 | cons x p=>
  unfold Zjd
  have e1:HT.sIx (x :: p).length 0 (some (1:Int))=1:=by unfold HT.sIx;simp
  have e2:HT.sIx (x :: p).length (x :: p).length none=(x :: p).length:=rfl
  rw[e1,e2]
  exact List.take_of_length_le (by rw[QL];omega)
noncomputable def Ris{α:Type}(lt:α->α->Bool)(p:List α):Prop:=∀k x y,p[k]? =some x->p[k+1]? =some y->lt x y=true
theorem scan2{α:Type}{enc:α->Xa}{lt:α->α->Bool}{p:List α}{S S':FS}{i:Nat}{g:FG}{R:Xa->Zi->Prop}{E:Option OT->Option OT->Zi}(hp:∀z z',(E z z')[i]? =some (some (.fz (.list (p.map enc)))))(hg:∀x y z z',g (.tuple [enc x,enc y]) (E z z')=some (E (some (.fz (enc x))) (some (.fz (enc y)))))
  (hS:∀x y,x∈p->y∈p->∀N:Zi->Prop,(lt x y=true->N (E (some (.fz (enc x))) (some (.fz (enc y)))))->(lt x y=false->R (.bool false) (E (some (.fz (enc x))) (some (.fz (enc y)))))->EpS S (E (some (.fz (enc x))) (some (.fz (enc y)))) N R)
  (no:¬Ris lt p->∀δ,R (.bool false) δ) (yes:Ris lt p->∀z z',EpS S' (E z z') (λ_=>False) R) (z z':Option OT):EpS (Zz (Zco (Zeg (Zc (Zd i) (Zc (fSl (Zd i) (oI (fC (.int 1))) oN) Zo))) g S) S') (E z z') (λ_=>False) R:=by
 have ez:EvI (Zeg (Zc (Zd i) (Zc (fSl (Zd i) (oI (fC (.int 1))) oN) Zo))) (E z z') ((p.zip (p.drop 1)).map λq=>.tuple [enc q.1,enc q.2]):=by
  refine Zn6 (as:=p.map enc) (bs:=(p.drop 1).map enc) (Za (hp z z')) ((Zlh (ds:=p.map enc) (Za (hp z z')) (Zjb (Zr (d:=.int 1))) Zmg).cast (by rw[Zbo,Z5o])) ?_
  unfold Zpj
  rw[List.zip_map,Qx];rfl
 refine Zdj (Zln (ds:=(p.zip (p.drop 1)).map λq:α×α=>.tuple [enc q.1,enc q.2]) (λk δ=>(∃z z',δ=E z z')∧∀j x y,j<k->p[j]? =some x->p[j+1]? =some y->lt x y=true) ez ⟨⟨_,_,rfl⟩,λj _ _ hj=>absurd hj (QB j)⟩ (λk d δ hd q=>?_) λδ' q=>?_)
 ·obtain⟨⟨z,z',rfl⟩,hq⟩:=q
  rw[Xm]at hd
  cases e:(p.zip (p.drop 1))[k]? with
  | none=>rw[e]at hd;cases hd
  | some xy=>
   rw[e]at hd
   cases hd
   obtain⟨a,b⟩:=U5.mp e
   rw[UJ,Nat.add_comm]at b
   refine⟨_,hg _ _ _ _,hS xy.1 xy.2 (XR a) (XR b) _ (λl=>⟨⟨_,_,rfl⟩,λj x y hj ha hb=>?_⟩) λl=>no (λr=>?_) _⟩
   ·by_cases c:j=k
    ·subst c
     rw[a]at ha
     rw[b]at hb
     cases ha
     cases hb
     exact l
    ·exact hq j x y (by omega) ha hb
   ·rw[r k _ _ a b]at l;cases l
 ·obtain⟨⟨z,z',rfl⟩,hq⟩:=q
  refine yes (λk x y ha hb=>hq k x y ?_ ha hb) z z'
  have:=(Xk.mp hb).1
  rw[Xg,List.length_zip,QL]
  omega
theorem Zim{α:Type}{enc:α->Xa}{lt:α->α->Bool}(hl:∀a b,Z1t (enc a) (enc b)=some (.bool (lt a b)))(p:List α):∃b:Bool,Told Yp [.list (p.map enc)] (.bool b)∧(b=true↔Ris lt p):=by
 have key:∃d,Told Yp [.list (p.map enc)] d∧∃b,d= .bool b∧(b=true↔Ris lt p):=by
  refine Zht rfl (scan2 (enc:=enc) (lt:=lt) (p:=p) (E:=λz z'=>[some (.fz (.list (p.map enc))),z,z']) (λ_ _=>rfl) (λ_ _ _ _=>rfl) (λx y _ _ N h1 h2=>?_) (λn _=>⟨false,rfl,(λz=>nomatch z),λz=>absurd z n⟩) (λr z z'=>Zbz (Zap Zr ⟨true,rfl,λ_=>r,λ_=>rfl⟩)) none none)
  exact Zg8 (Zak (Zb1 (Zay (Zx (Za (i:=1) rfl) (Za (i:=2) rfl) (hl x y)))) ⟨λc=>Zbz (Zap Zr (h2 (by simpa using c))),λc=>Zg7 (h1 (by simpa using c))⟩)
 obtain⟨d,h,b,rfl,hb⟩:=key
 exact⟨b,h,hb⟩
theorem Z4v(a b:Int):Z1t (.int a) (.int b)=some (.bool (decide (a<b))):=rfl
theorem Z3a(a b:List Int):Z1t (Zm a) (Zm b)=some (.bool (ltI a b)):=by
 show((none:Option Xa).or ((Zb8 (a.map Xl)).bind _))=_
 rw[Jw,Xe,Jw,Xe];rfl
noncomputable def Zux(n:Int)(p:List Int):Prop:=p≠[]∧Ris (λa b=>decide (a<b)) p∧1≤p.getD 0 0∧p.getD (p.length-1) 0<n
theorem Zjp(q:Rat):Told Y6 [frD q] (.bool true):=by
 have g1:(JH q.num (q.den:Int):Int)=1:=by
  rw[Bl,VL]
  exact congrArg Int.ofNat q.reduced
 have w:∀{δ:Zi} {k i:Int},EvV (Zq gIx (Zd 0) (fC (.int k))) δ (.int i)->EvT (tNo (tD (Zw Ye (Zc (Zq gIx (Zd 0) (fC (.int k))) Zo)))) δ false:=λh=>Zb1 (p:=true) (Zbd (Zu (Zb h Zk) (.of (Zds _) (OT.data_fz _))))
 exact Yb rfl<|Y0 (Y4 (Zll (Zb1 (p:=true) (Zbd (Za4 Za rfl))) (Zay (Zmt (Zbc (Zb (Za (d:=frD q)) Zk) (Zlq [.int q.num,.int (q.den:Int)])) Zr rfl))) rfl)<|
  Y0 (Y4 (Zll (w (at0 rfl)) (w (at1 rfl))) rfl)<|Yz (Zbt (Zt6 (at1 rfl) Zr (decide_eq_true (W5 q))) (Zjm (Zu (Zb (at0 rfl) (Zb (at1 rfl) Zk)) (.of (Jl _ _) (OT.data_fz _))) Zr (by rw[g1];rfl)))
theorem Zl1{p:List Int}(h:Ris (λa b=>decide (a<b)) p):∀d i x y,p[i]? =some x->p[i+d+1]? =some y->x<y
 | 0,i,x,y,hx,hy=>of_decide_eq_true (h i x y hx hy)
 | d+1,i,x,y,hx,hy=>by
  have l:=(Xk.mp hy).1
  obtain⟨z,hz⟩:∃z,p[i+d+1]? =some z:=⟨_,Xi (by omega)⟩
  have a:=Zl1 h d i x z hx hz
  have b:=of_decide_eq_true (h (i+d+1) z y hz hy)
  have b:z<y:=b
  omega
theorem Zgy{p:List Int}{k:Nat}{x:Int}(h:p[k]? =some x):p.getD k 0=x:=by rw[Xh,h];rfl
theorem Zkf{n:Int}{p:List Int}(h:Zux n p):p.Nodup∧∀x∈p,1≤x∧x<n:=by
 obtain⟨h0,h1,h2,h3⟩:=h
 have pos:0<p.length:=Ur.mpr h0
 obtain⟨u,hu⟩:∃u,p[0]? =some u:=⟨_,Xi pos⟩
 obtain⟨v,hv⟩:∃v,p[p.length-1]? =some v:=⟨_,Xi (by omega)⟩
 rw[Zgy hu]at h2
 rw[Zgy hv]at h3
 refine⟨List.nodup_iff_pairwise_ne.mpr (List.pairwise_iff_getElem.mpr λi j hi hj hij=>?_),λx hx=>?_⟩
 ·have:=Zl1 h1 (j-i-1) i p[i] p[j] (Xi hi) (by rw[show i+(j-i-1)+1=j by omega];exact Xi hj)
  omega
 ·obtain⟨k,hk⟩:=Q9 hx
  have lk:=(Xk.mp hk).1
  constructor
  ·by_cases c:k=0
   ·subst c;rw[hk]at hu;cases hu;exact h2
   ·have:=Zl1 h1 (k-1) 0 u x hu (by rw[show 0+(k-1)+1=k by omega];exact hk)
    omega
  ·by_cases c:k=p.length-1
   ·subst c;rw[hk]at hv;cases hv;exact h3
   ·have:=Zl1 h1 (p.length-2-k) k x v hk (by rw[show k+(p.length-2-k)+1=p.length-1 by omega];exact hv)
    omega
theorem Zo6{n:Int}{p:List Int}:Zux n p↔p≠[]∧∀k,k<p.length->p.getD k 0<n∧(0 :: p).getD k 0<p.getD k 0:=by
 constructor
 ·intro h
  have hp:=(Zkf h).2
  refine⟨h.1,λk hk=>?_⟩
  obtain⟨x,hx⟩:∃x,p[k]? =some x:=⟨_,Xi hk⟩
  have mx:=hp x (XR hx)
  rw[Zgy hx]
  refine⟨mx.2,?_⟩
  cases k with
  | zero=>show(0:Int)<x;omega
  | succ k=>
   obtain⟨y,hy⟩:∃y,p[k]? =some y:=⟨_,Xi (by omega)⟩
   show p.getD k 0<x
   rw[Zgy hy]
   exact of_decide_eq_true (h.2.1 k y x hy hx)
 ·rintro⟨h0,h⟩
  have pos:0<p.length:=Ur.mpr h0
  refine⟨h0,λk x y hx hy=>decide_eq_true ?_,?_,(h _ (by omega)).1⟩
  ·have l:=(Xk.mp hy).1
   have:=(h (k+1) l).2
   have e:(0 :: p).getD (k+1) 0=p.getD k 0:=rfl
   rw[e,Zgy hx,Zgy hy]at this
   exact this
  ·have:=(h 0 pos).2
   have e:(0 :: p).getD 0 0=0:=rfl
   rw[e]at this
   omega
theorem Zty(n:Int)(p:List Int):∃b:Bool,Told Jt [.int n,Zm p] (.bool b)∧(b=true↔Zux n p):=by
 by_cases c:p.length=0
 ·refine⟨false,Yb rfl<|Zbk<|Zd4 (Zll (Zb1 (p:=true) (Zbd (Za4 (Za (i:=1) (d:=Zm p) rfl) rfl))) (Zay (Zjm (We (Za rfl)) Zr (decide_eq_true (by omega))))) (Yz Zr),(λz=>nomatch z),λz=>absurd (List.length_eq_zero_iff.mp c) z.1⟩
 have ne:p≠[]:=λz=>c (by rw[z];rfl)
 obtain⟨r,Tr,hr⟩:=Zim Z4v p
 have head:∀{d:Xa},(∀z,Znz (wE (Zk3 (Zw Yp (Zc (Zd 1) Zo)) (Zk3 (Ze gGe (Zq gIx (Zd 1) (fC (.int 0))) (fC (.int 1))) (Ze gLt (Zq gIx (Zd 1) (fUn Zp4 (fC (.int 1)))) (Zd 0)))) Yr) [some (.fz (.int n)),some (.fz (Zm p)),z] d)->Told Jt [.int n,Zm p] d:=fun{d} hd=>Yb rfl<|Y0 (Y4 (Zll (Zb1 (p:=true) (Zbd (Za4 (Za (i:=1) (d:=Zm p) rfl) rfl))) (Zay (Zjm (We (Za rfl)) Zr (decide_eq_false (by omega))))) rfl)<|Zlz (ds:=p.map Xl) (λi δ=>∃z,δ=[some (.fz (.int n)),some (.fz (Zm p)),z]) (Jg (Za (i:=1) rfl)) ⟨_,rfl⟩ (λi d δ hd q=>by
  obtain⟨z,rfl⟩:=q
  obtain⟨x,_,rfl⟩:=Qi.mp (XR hd)
  exact⟨_,_,rfl,.inl (Y4 (Zb1 (p:=true) (Zbd (Zu (Zb (Za (i:=2) rfl) Zk) (.of (Zds x) (OT.data_fz _))))) rfl),_,rfl⟩) λδ' q=>by
  obtain⟨z,rfl⟩:=q
  exact hd z
 have er:∀z,EvV (Zw Yp (Zc (Zd 1) Zo)) [some (.fz (.int n)),some (.fz (Zm p)),z] (.bool r):=λz=>Zu (Zb (Za (i:=1) rfl) Zk) Tr
 cases r with
 | false=>exact⟨false,head λz=>Yz (Zhq (er z)),(λz=>nomatch z),λz=>hr.mpr z.2.1⟩
 | true=>
  have a0:∀z,EvV (Zq gIx (Zd 1) (fC (.int 0))) [some (.fz (.int n)),some (.fz (Zm p)),z] (.int (p.getD 0 0)):=λz=>Zl8 (Za (i:=1) rfl) (Zr (d:=.int 0)) (by decide) (by omega)
  by_cases c3:1≤p.getD 0 0
  ·refine⟨decide (p.getD (p.length-1) 0<n),head λz=>Yz (Zbt (er z) (Zbt (Zt6 (a0 z) Zr (decide_eq_true c3)) (Zjg (Z0 (Za (i:=1) rfl) (Zg9 Zr) (Zun (by omega))) (Za (i:=0) rfl) rfl))),λz=>⟨ne,hr.mp rfl,c3,of_decide_eq_true z⟩,λz=>decide_eq_true z.2.2.2⟩
  ·exact⟨false,head λz=>Yz (Zbt (er z) (Zhq (Zt6 (a0 z) Zr (decide_eq_false c3)))),(λz=>nomatch z),λz=>absurd z.2.2.1 c3⟩
noncomputable def WL(n:Int)(L:List (List Int×Rat)):Prop:=(∀p∈L,Zux n p.1∧0<p.2.num)∧Ris (λa b:List Int×Rat=>ltI a.1 b.1) L
theorem Zfl(n:Int)(p:List Int×Rat):∃b:Bool,Told Yy [.int n,ctD p] (.bool b)∧(b=true↔Zux n p.1∧0<p.2.num):=by
 obtain⟨r,Tr,hr⟩:=Zty n p.1
 have head:∀{d:Xa},Znz (wE (Zk3 (Zw Jt (Zc (Zd 0) (Zc (Zq gIx (Zd 1) (fC (.int 0))) Zo))) (Zk3 (Zw Y6 (Zc (Zq gIx (Zd 1) (fC (.int 1))) Zo)) (Ze gGt (Zq gIx (Zq gIx (Zd 1) (fC (.int 1))) (fC (.int 0))) (fC (.int 0))))) Yr) [some (.fz (.int n)),some (.fz (ctD p))] d->Told Yy [.int n,ctD p] d:=λh=>Yb rfl<|Y0 (Y4 (Zll (Zb1 (p:=true) (Zbd (Za4 (Za (i:=1) (d:=ctD p) rfl) rfl))) (Zay (Zmt (Zbc (Zb (Za (i:=1) (d:=ctD p) rfl) Zk) (Zlq [Zm p.1,frD p.2])) Zr rfl))) rfl) h
 have e1:EvV (Zq gIx (Zd 1) (fC (.int 1))) [some (.fz (.int n)),some (.fz (ctD p))] (frD p.2):=Z0 (Za (i:=1) (d:=ctD p) rfl) (Zr (d:=.int 1)) rfl
 have er:=Zu (δ:=[some (.fz (.int n)),some (.fz (ctD p))]) (Zb (Za (i:=0) rfl) (Zb (Z0 (Za (i:=1) (d:=ctD p) rfl) (Zr (d:=.int 0)) rfl) Zk)) Tr
 cases r with
 | false=>exact⟨false,head (Yz (Zhq er)),(λz=>nomatch z),λz=>hr.mpr z.1⟩
 | true=>exact⟨decide (0<p.2.num),head (Yz (Zbt er (Zbt (Zu (Zb e1 Zk) (Zjp p.2)) (Zlu (Z0 e1 (Zr (d:=.int 0)) rfl) Zr rfl)))),λz=>⟨hr.mp rfl,of_decide_eq_true z⟩,λz=>decide_eq_true z.2⟩
theorem Zjv(n:Int)(L:List (List Int×Rat))(hl:L.length≤1000):∃b:Bool,Told W4 [.int n,Wy L] (.bool b)∧(b=true↔WL n L):=by
 obtain⟨r,Tr,hr⟩:=Zim Z3a (L.map λp=>p.1)
 have hr2:r=true↔Ris (λa b:List Int×Rat=>ltI a.1 b.1) L:=hr.trans ⟨λh k x y hx hy=>h k x.1 y.1 (by rw[Xm,hx];rfl) (by rw[Xm,hy];rfl),λh k x y hx hy=>by
  rw[Xm]at hx hy
  cases ex:L[k]? with
  | none=>rw[ex]at hx;cases hx
  | some u=>
   cases ey:L[k+1]? with
   | none=>rw[ey]at hy;cases hy
   | some v=>
    rw[ex]at hx
    rw[ey]at hy
    cases hx
    cases hy
    exact h k u v ex ey⟩
 have key:∃d,Told W4 [.int n,Wy L] d∧∃b,d= .bool b∧(b=true↔WL n L):=by
  refine Zht rfl (Zdj (Zg8 (Zak (Zb1 (p:=true) (Zbd (Za4 (Za (i:=1) (d:=Wy L) rfl) rfl))) ⟨(λc=>nomatch c),λ_=>Zg7 (Zdj (Zln (ds:=L.map ctD) (λk δ=>(∃z,δ=[some (.fz (.int n)),some (.fz (Wy L)),z])∧∀p∈L.take k,Zux n p.1∧0<p.2.num) (Jg (Za (i:=1) rfl)) ⟨⟨_,rfl⟩,λ_ m=>nomatch m⟩ (λk d δ hd q=>?_) λδ' q=>?_))⟩)))
  ·obtain⟨⟨z,rfl⟩,hq⟩:=q
   rw[Xm]at hd
   cases e:L[k]? with
   | none=>rw[e]at hd;cases hd
   | some p=>
    rw[e]at hd
    cases hd
    obtain⟨b,Tb,hb⟩:=Zfl n p
    refine⟨_,rfl,Zg8 (Zak (Zb1 (Zbd (Zu (Zb (Za (i:=0) rfl) (Zb (Za (i:=2) rfl) Zk)) Tb))) ⟨λc=>Zbz (Zap Zr ⟨false,rfl,(λz=>nomatch z),λz=>?_⟩),λc=>Zg7 ⟨⟨_,rfl⟩,λt ht=>?_⟩⟩)⟩
    ·rw[hb.mpr (z.1 p (XR e))]at c;cases c
    ·rw[Vq,e]at ht
     rcases Q3.mp ht with m|m
     ·exact hq t m
     ·rw[Qd.mp m];exact hb.mp (by simpa using c)
  ·obtain⟨⟨z,rfl⟩,hq⟩:=q
   rw[Xg,Vc]at hq
   refine Zbz (Zap (Zu (Zb (EvV.cast (Za2 (cs:=[]) L ctD (λp=>Zm p.1) (Jg (Za (i:=1) rfl)) (by omega) rfl λp _=>Z0 (Za (i:=0) (d:=ctD p) rfl) (Zr (d:=.int 0)) rfl) (y:=.list ((L.map λp=>p.1).map Zm)) ?_) Zk) Tr) ⟨r,rfl,λz=>⟨hq,hr2.mp z⟩,λz=>hr2.mpr z.2⟩)
   rw[Qx];rfl
 obtain⟨d,h,b,rfl,hb⟩:=key
 exact⟨b,h,hb⟩
theorem Zwe(a b:List Int):gEq (Zm a) (Zm b)=some (.bool (decide (a=b))):=by
 have s:∀p,Bc (Zm p)=true:=λp=>((Ze6 p).shp (by omega)).ok
 unfold gEq
 rw[if_pos (by rw[s,s];rfl)]
 exact congrArg (λz=>some (PyData.bool z)) (Zh6 a b)
theorem Zq9(a b:List Int):Z6g (Zm a) (Zm b)=some (.bool (!ltI a b)):=by
 show(Zb8 (a.map Xl)).bind _=_
 rw[Jw,Xe,Jw,Xe]
theorem Z88{t u:FT}{δ:Zi}{p q:Bool}(h:EvT t δ p)(k:EvT u δ q):EvT (tO t u) δ (p||q):=by
 cases p with
 | true=>exact Z5w h
 | false=>exact Zll h k
theorem Zkw(n:Int)(p:List Int)(lp:p.length≤900):∃b:Bool,Told Jd [.int n,Zm p] (.bool b)∧(b=true↔Zux n p):=by
 have t1:EvT (tO (tNo (tD (Zjc "list" (Zd 1)))) (tV (Ze gEq (Zd 1) (Zav Zo)))) [some (.fz (.int n)),some (.fz (Zm p)),none] (decide (p=[])):=Zll (Zb1 (p:=true) (Zbd (Za4 (Za (i:=1) (d:=Zm p) rfl) rfl))) (Zay (Zx (Za (i:=1) (d:=Zm p) rfl) (Jp Zk (show 0≤1000 by decide)) (Zwe p [])))
 by_cases c:p=[]
 ·rw[decide_eq_true c]at t1
  exact⟨false,Yb rfl<|Zbk<|Zd4 t1 (Yz Zr),(λz=>nomatch z),λz=>absurd c z.1⟩
 rw[decide_eq_false c]at t1
 have key:∃d,Told Jd [.int n,Zm p] d∧∃b,d= .bool b∧(b=true↔Zux n p):=by
  refine Zht rfl (Zdj (Z50 (Y4 t1 rfl) (Zdj (Zln (ds:=Zje 0 p.length) (λk δ=>(∃z,δ=[some (.fz (.int n)),some (.fz (Zm p)),z])∧∀j,j<k->p.getD j 0<n∧(0 :: p).getD j 0<p.getD j 0) (Zhe (Zb (We (Za (i:=1) rfl)) Zk) (by omega)) ⟨⟨_,rfl⟩,λj hj=>absurd hj (QB j)⟩ (λk d δ hd q=>?_) λδ' q=>?_))))
  ·obtain⟨⟨z,rfl⟩,hq⟩:=q
   obtain⟨hk,rfl⟩:=Zbn hd
   have v:∀{δ:Zi},δ[2]? =some (some (.fz (.int (0+(k:Int)))))->EvV (Zd 2) δ (.int (k:Int)):=λh=>(Za h).cast (by rw[Uy])
   have eA:EvV (Zq gIx (Zd 1) (Zd 2)) [some (.fz (.int n)),some (.fz (Zm p)),some (.fz (.int (0+(k:Int))))] (.int (p.getD k 0)):=Z0 (Za (i:=1) rfl) (v rfl) (by rw[Zbi (by omega) (by omega),Qj])
   have eB:EvV (Zq gIx (Zq Zbx (Zav (Zc (fC (.int 0)) Zo)) (Zd 1)) (Zd 2)) [some (.fz (.int n)),some (.fz (Zm p)),some (.fz (.int (0+(k:Int))))] (.int ((0 :: p).getD k 0)):=Z0 (Zs6 (p:=[0]) (q:=p) (Jp (Zb Zr Zk) (show 1≤1000 by decide)) (Za (i:=1) rfl) (by show 1+_≤_;omega)) (v rfl) (by rw[Zbi (by omega) (by rw[QJ];show(k:Int)<((1+p.length:Nat):Int);omega),Qj];rfl)
   have t:=Zll (Zb1 (p:=true) (Zbd (Za4 (T :="int") eA rfl))) (Zll (Zbd (Za4 (T :="bool") eA rfl)) (Z88 (Zay (Zt6 eA (Za (i:=0) rfl) rfl)) (Zay (Yal eA eB rfl))))
   refine⟨_,rfl,Zg8 (Zak t ⟨λc=>Zbz (Zap Zr ⟨false,rfl,(λz=>nomatch z),λz=>?_⟩),λc=>Zg7 ⟨⟨_,rfl⟩,λj hj=>?_⟩⟩)⟩
   ·have:=(Zo6.mp z).2 k hk
    rw[Bool.or_eq_true,decide_eq_true_eq,decide_eq_true_eq]at c
    omega
   ·by_cases cj:j=k
    ·rw[cj]
     rw[Bool.or_eq_false_iff,decide_eq_false_iff_not,decide_eq_false_iff_not]at c
     omega
    ·exact hq j (by omega)
  ·obtain⟨⟨z,rfl⟩,hq⟩:=q
   rw[Zah]at hq
   exact Zbz (Zap Zr ⟨true,rfl,λ_=>Zo6.mpr ⟨c,hq⟩,λ_=>rfl⟩)
 obtain⟨d,h,b,rfl,hb⟩:=key
 exact⟨b,h,hb⟩
theorem Zo3{n:Nat}{f g:Nat->Nat->Xa}(h:∀i j,i<n->j<n->f i j=g i j):Wo n f=Wo n g:=by
 unfold Wo
 refine congrArg QT (Xz λi hi=>congrArg QT (Xz λj hj=>h i j (QH.mp hi) (QH.mp hj)))
noncomputable def Bd(B:Int)(L:List (List Int×Rat)):Prop:=L.length≤40∧∀p∈L,p.1.length≤12∧Gw B p.2
theorem Zta{n:Nat}(h6:n≤6){B:Int}(B0:0<B)(bB:Bt 200 B){L:List (List Int×Rat)}(hL:Bd B L){d:Xa}{e:Bool}(he:gEq (Wo n (frG (Sm L))) d=some (.bool e)):∃b:Bool,Told Wf [.int n,Wy L,d] (.bool b)∧(b=true↔WL n L∧e=true):=by
 obtain⟨l1,l2⟩:=hL
 have key:∃v,Told Wf [.int n,Wy L,d] v∧∃b,v= .bool b∧(b=true↔WL n L∧e=true):=by
  refine Zht rfl (Zdj (Zg8 (Zak (Zb1 (p:=true) (Zbd (Za4 (Za (i:=1) (d:=Wy L) rfl) rfl))) ⟨(λc=>nomatch c),λ_=>Zg7 (Zdj (Zln (ds:=L.map ctD) (λk δ=>(∃z,δ=[some (.fz (.int n)),some (.fz (Wy L)),some (.fz d),z,none])∧∀p∈L.take k,Zux n p.1∧0<p.2.num) (Jg (Za (i:=1) rfl)) ⟨⟨_,rfl⟩,λ_ m=>nomatch m⟩ (λk v δ hd q=>?_) λδ' q=>?_))⟩)))
  ·obtain⟨⟨z,rfl⟩,hq⟩:=q
   rw[Xm]at hd
   cases e:L[k]? with
   | none=>rw[e]at hd;cases hd
   | some p=>
    rw[e]at hd
    cases hd
    have mp:=XR e
    obtain⟨b,Tb,hb⟩:=Zkw n p.1 (Qt (l2 p mp).1 (by decide))
    obtain⟨δ,hδ⟩:∃δ:Zi,δ=[some (.fz (.int n)),some (.fz (Wy L)),some (.fz d),some (.fz (ctD p)),none]:=⟨_,rfl⟩
    have e3:EvV (Zd 3) δ (ctD p):=Za (by rw[hδ];rfl)
    have e31:EvV (Zq gIx (Zd 3) (fC (.int 1))) δ (frD p.2):=Z0 e3 (Zr (d:=.int 1)) rfl
    have t1:=Zll (Zb1 (p:=true) (Zbd (Za4 (T :="tuple") e3 rfl))) (Zll (Zay (Zmt (Zbc (Zb e3 Zk) (Zlq [Zm p.1,frD p.2])) (Zr (d:=.int 2)) rfl)) (Zb1 (Zbd (Zu (Zb (Za (i:=0) (d:=.int n) (by rw[hδ];rfl)) (Zb (Z0 e3 (Zr (d:=.int 0)) rfl) Zk)) Tb))))
    have t2:=Zll (Zb1 (p:=true) (Zbd (Zu (Zb e31 Zk) (Zfm (l2 p mp).2.2 (by decide))))) (Zay (Zjg (Z0 e31 (Zr (d:=.int 0)) rfl) (Zr (d:=.int 1)) rfl))
    refine⟨δ,by rw[hδ];rfl,Zdj (Zg8 (Zak t1 ⟨λc=>Zbz (Zap Zr ⟨false,rfl,(λz=>nomatch z),λz=>?_⟩),λc=>Zg7 (Zg8 (Zak t2 ⟨λc2=>Zbz (Zap Zr ⟨false,rfl,(λz=>nomatch z),λz=>?_⟩),λc2=>Zg7 ⟨⟨_,hδ⟩,λt ht=>?_⟩⟩))⟩))⟩
    ·rw[hb.mpr (z.1.1 p mp).1]at c;cases c
    ·have:=(z.1.1 p mp).2
     have:=of_decide_eq_true c2
     omega
    ·rw[Vq,e]at ht
     rcases Q3.mp ht with m|m
     ·exact hq t m
     ·rw[Qd.mp m]
      refine⟨hb.mp (by simpa using c),?_⟩
      have:=of_decide_eq_false c2
      omega
  ·obtain⟨⟨z,rfl⟩,hq⟩:=q
   rw[Xg,Vc]at hq
   refine scan2 (enc:=ctD) (lt:=λa b:List Int×Rat=>ltI a.1 b.1) (p:=L) (E:=λz z'=>[some (.fz (.int n)),some (.fz (Wy L)),some (.fz d),z,z']) (λ_ _=>rfl) (λ_ _ _ _=>rfl) (λx y _ _ N h1 h2=>?_) (λn _=>⟨false,rfl,(λz=>nomatch z),λz=>absurd z.1.2 n⟩) (λr z z'=>?_) z none
   ·exact Zg8 (Zak (Zay (Zx (Z0 (Za (i:=3) (d:=ctD x) rfl) (Zr (d:=.int 0)) rfl) (Z0 (Za (i:=4) (d:=ctD y) rfl) (Zr (d:=.int 0)) rfl) (Zq9 x.1 y.1))) ⟨λc=>Zbz (Zap Zr (h2 (by simpa using c))),λc=>Zg7 (h1 (by simpa using c))⟩)
   ·obtain⟨T,eT,_,hX⟩:=Zii h6 B0 bB l1 λp hp=>⟨λx hx=>by have:=(Zkf (hq p hp).1).2 x hx;omega,l2 p hp⟩
    have TT:Told Yh [.int n,Wy L] (Wo n (frG T)):=.of eT (Zai _ _)
    rw[Zo3 (f:=frG T) (g:=frG (Sm L)) λi j hi hj=>congrArg frD (hX (λp hp=>(Zkf (hq p hp).1).1) i j hi hj)]at TT
    exact Zbz (Zap (Zx (Zu (Zb (Za (i:=0) rfl) (Zb (Za (i:=1) rfl) Zk)) TT) (Za (i:=2) rfl) he) ⟨e,rfl,λz=>⟨⟨hq,r⟩,z⟩,λz=>z.2⟩)
 obtain⟨v,h,b,rfl,hb⟩:=key
 exact⟨b,h,hb⟩
theorem Zzt(L:List (List Int×Rat))(i:Nat):Sm L i i=0:=by
 unfold Sm
 rw[List.filter_eq_nil_iff.mpr λp _=>by unfold prt;rw[decide_eq_true rfl];decide];rfl
theorem Zwg(L:List (List Int×Rat))(i j:Nat):Zmf (Zih L) i j=frG (Sm L) i j:=by
 unfold Zmf Zih frG
 rcases Nat.lt_trichotomy i j with c|c|c
 ·rw[if_pos c]
 ·subst c;rw[if_neg (JP _),if_neg (JP _),Zzt];rfl
 ·rw[if_neg (by omega),if_pos c,Zrz]
theorem Zmr{n:Nat}(h6:n≤6){B:Int}(B0:0<B)(bB:Bt 200 B){L:List (List Int×Rat)}(hL:Bd B L){f:Nat->Nat->Xa}{e:Bool}(he:gEq (Wo n (frG (Sm L))) (Wo n f)=some (.bool e)):∃b:Bool,Told Jj [Wo n f,Wy L] (.bool b)∧(b=true↔WL n L∧e=true):=by
 obtain⟨l1,l2⟩:=hL
 obtain⟨b,Tb,hb⟩:=Zjv n L (by omega)
 have TT:Told Ja [.int n,Wy L] (Wo n (frG (Sm L))):=.of (Znj (n:=n) (by omega) L (by omega) B0 bB λp hp=>⟨(l2 p hp).2.1,(l2 p hp).2.2.1⟩) (by rw[Zai];exact Zo3 λi j _ _=>Zwg L i j)
 have er:=Zu (δ:=[some (.fz (Wo n f)),some (.fz (Wy L)),some (.fz (.int n))]) (Zb (Za (i:=2) rfl) (Zb (Za (i:=1) rfl) Zk)) Tb
 cases b with
 | false=>exact⟨false,Yb rfl<|Y0 (Zy (Zw9 rfl))<|Yz (Zhq er),(λz=>nomatch z),λz=>hb.mpr z.1⟩
 | true=>exact⟨e,Yb rfl<|Y0 (Zy (Zw9 rfl))<|Yz (Zbt er (Zx (Zu (Zb (Za (i:=2) rfl) (Zb (Za (i:=1) rfl) Zk)) TT) (Za (i:=0) rfl) he)),λz=>⟨hb.mp rfl,z⟩,λz=>z.2⟩
theorem Zt7:PyData.strOk "cuts"=true:=by decide +kernel
theorem Zpf{t r:Xa}{b:Bool}(h:Told Jj [t,r] (.bool b)):Told Zbv [t,.tuple [.str "cuts",r]] (.bool b):=by
 have e0:∀{δ:Zi},δ[1]? =some (some (.fz (.tuple [.str "cuts",r])))->EvV (Zq gIx (Zd 1) (fC (.int 0))) δ (.str "cuts"):=λz=>Z0 (Za z) (Zr (d:=.int 0)) rfl
 exact Yb rfl<|Y0 (Y4 (Zll (Zb1 (p:=true) (Zbd (Za4 (Za (i:=1) (d:=.tuple [.str "cuts",r]) rfl) rfl))) (Zay (Zmt (Zbc (Zb (Za (i:=1) (d:=.tuple [.str "cuts",r]) rfl) Zk) (Zlq [.str "cuts",r])) Zr rfl))) rfl)<|Zbk (Zd4 (Zay (Zx (e0 rfl) (Zr (d:=.str "cuts")) (Zva Zt7).2)) (Yz (Zu (Zb (Za (i:=0) rfl) (Zb (Z0 (Za (i:=1) rfl) (Zr (d:=.int 1)) rfl) Zk)) h)))
noncomputable def IV(e:FE)(δ:Zi)(k:Nat):Prop:=∃p:List Int,EvV e δ (Zm p)∧p.length≤k
theorem Zpd{α:Type}(p:List α)(l h:Option Int):(Zjd p l h).length≤p.length:=by
 unfold Zjd
 rw[Bv,QL]
 omega
theorem Zj7{e:FE}{δ:Zi}{lo hi:FO}{l h:Option Int}{k:Nat}(he:IV e δ k)(hl:EvO lo δ l)(hh:EvO hi δ h):IV (fSl e lo hi) δ k:=by
 obtain⟨p,e1,l1⟩:=he
 exact⟨Zjd p l h,(Zlh (ds:=p.map Xl) e1 hl hh).cast (by rw[Zbo];rfl),Qt (Zpd p l h) l1⟩
theorem Za3{a b:FE}{δ:Zi}{j k:Nat}(ha:IV a δ j)(hb:IV b δ k)(h:j+k≤900):IV (Zq Zbx a b) δ (j+k):=by
 obtain⟨p,e1,l1⟩:=ha
 obtain⟨q,e2,l2⟩:=hb
 exact⟨p ++ q,Zs6 e1 e2 (by omega),by rw[QJ];omega⟩
theorem Z65{e:FE}{δ:Zi}{x:Int}(h:EvV e δ (.int x)):IV (Zav (Zc e Zo)) δ 1:=⟨[x],Jp (Zb h Zk) (show 1≤1000 by decide),X6 1⟩
theorem Z1q{i:Nat}{δ:Zi}{p:List Int}(h:δ[i]? =some (some (.fz (Zm p)))):IV (Zd i) δ p.length:=⟨p,Za h,X6 _⟩
theorem Zzs{a b:FE}{δ:Zi}{d:Xa}{k:Nat}(ha:EvV a δ d)(hb:EvV b δ (.int k))(hk:k≤1000000):EvV (Zud a b) δ (.list (Xy k d)):=by
 obtain⟨x,e1,d1⟩:=ha
 obtain⟨y,e2,d2⟩:=hb
 refine⟨.nd (Xy k (.fz d)),?_,by rw[OT.data_nd,List.map_replicate,OT.data_fz]⟩
 rw[Zli,e1,Xe,e2,Xe,d2,Zn3,if_pos ⟨Zib (by omega) (by omega),by rw[Qc];omega⟩,Qj,d1]
theorem Zp2{e:FE}{δ:Zi}{k:Nat}{Q:Xa->Prop}(h:IV e δ k)(hk:k≤12)(hQ:∀p:List Int,p.length≤12->Q (Zm p)):Zk5 (wE e Yr) δ Q:=by
 obtain⟨p,e1,l1⟩:=h
 exact Zjz e1 (hQ p (by omega))
theorem Zzq{e:FE}{st:FO}{δ:Zi}{ds:List Xa}{k:Int}(h:EvV e δ (.list ds))(hs:EvO st δ (some k))(hk:k≠0):EvV (Zs7 e oN oN st) δ (.list (Zgc ds none none (some k))):=by
 obtain⟨t,e1,e2⟩:=h
 unfold EvO at hs
 refine⟨.nd ((Zgc ds none none (some k)).map OT.fz),?_,by rw[OT.data_nd,OT.map_fz]⟩
 unfold Zs7
 rw[e1]
 show(st δ).bind _=_
 rw[hs]
 show(stepOf t.data none none (some k)).bind _=_
 rw[e2]
 show(if some k=some 0 then none else some _:Option OT).bind _=_
 rw[if_neg (λz=>hk (QC z))];rfl
theorem Ze4{t:FT}{S S':FS}{δ:Zi}{Q:Xa->Prop}{p:Bool}(h:EvT t δ p)(k1:p=true->Zk5 S δ Q)(k2:p=false->Zk5 S' δ Q):Zk5 (Zz (Jc t S fNx) S') δ Q:=by
 cases p with
 | true=>exact Zv7 (Zzw h (k1 rfl))
 | false=>exact Js (Y4 h rfl) (k2 rfl)
theorem Z9l{x y:Int}{w:Nat}(h:w<2):∃v:Int,gIx (.list [.int x,.int y]) (.int (w:Int))=some (.fz (.int v)):=by
 obtain rfl|rfl:w=0∨w=1:=by omega
 all_goals exact⟨_,rfl⟩
theorem Z9w{x y z u:Int}{w:Nat}(h:w<4):∃v:Int,gIx (.list [.int x,.int y,.int z,.int u]) (.int (w:Int))=some (.fz (.int v)):=by
 obtain rfl|rfl|rfl|rfl:w=0∨w=1∨w=2∨w=3:=by omega
 all_goals exact⟨_,rfl⟩
theorem Zya{n:Nat}(hn:n≤5){c xs:List Int}(c0:c≠[])(lc:c.length≤4)(lx:xs.length=4):∃p:List Int,Told J1 [Zm c,.int n,Zm xs] (Zm p)∧p.length≤12:=by
 have pos:0<c.length:=Ur.mpr c0
 have gX:∀{k:Nat},k<4->gIx (Zm xs) (.int (k:Int))=some (.fz (.int (xs.getD k 0))):=fun{k} hk=>by rw[Zbi (by omega) (by omega),Qj]
 have gC:∀{k:Nat},k<c.length->gIx (Zm c) (.int (k:Int))=some (.fz (.int (c.getD k 0))):=fun{k} hk=>by rw[Zbi (by omega) (by omega),Qj]
 obtain⟨a,ea,la⟩:=Yu (xs.getD 1 0) pos
 obtain⟨to,et,lt⟩:=Yu (xs.getD 2 0) (n:=c.length+1) (by omega)
 have key:∃d,Told J1 [Zm c,.int n,Zm xs] d∧∃p:List Int,d=Zm p∧p.length≤12:=by
  obtain⟨E,hE⟩:∃E:Nat->Zi,E= λa=>[some (.fz (Zm c)),some (.fz (.int n)),some (.fz (Zm xs)),some (.fz (.int ((xs.getD 0 0).fmod 9))),some (.fz (.int (a:Int))),some (.fz (.int (to:Int)))]:=⟨_,rfl⟩
  have w0:∀{a},(E a)[0]? =some (some (.fz (Zm c))):=by rw[hE];exact fun{_}=>rfl
  have w1:∀{a},(E a)[1]? =some (some (.fz (.int n))):=by rw[hE];exact fun{_}=>rfl
  have w2:∀{a},(E a)[2]? =some (some (.fz (Zm xs))):=by rw[hE];exact fun{_}=>rfl
  have w3:∀{a},(E a)[3]? =some (some (.fz (.int ((xs.getD 0 0).fmod 9)))):=by rw[hE];exact fun{_}=>rfl
  have w4:∀{a},(E a)[4]? =some (some (.fz (.int (a:Int)))):=by rw[hE];exact fun{_}=>rfl
  have w5:∀{a},(E a)[5]? =some (some (.fz (.int (to:Int)))):=by rw[hE];exact fun{_}=>rfl
  have x1:∀{a},EvV (Zq gIx (Zd 2) (fC (.int 1))) (E a) (.int (xs.getD 1 0)):=fun{a}=>Z0 (Za w2) (Zr (d:=.int 1)) (gX (k:=1) (by decide))
  have x2:∀{a},EvV (Zq gIx (Zd 2) (fC (.int 2))) (E a) (.int (xs.getD 2 0)):=fun{a}=>Z0 (Za w2) (Zr (d:=.int 2)) (gX (k:=2) (by decide))
  have sl1:∀{a:Nat} {k:FE} {x:Int},EvV k (E a) (.int x)->IV (fSl (Zd 0) oN (oI k)) (E a) c.length:=λh=>Zj7 (Z1q w0) Zmg (Zjb h)
  refine Zsj rfl<|Js (Zy (Z9 (Z0 (Za (i:=2) rfl) (Zr (d:=.int 0)) (gX (k:=0) (by decide))) Zr (by decide)))<|Js (Zy (d:=.int (a:Int)) (ea▸Z9 (Z0 (Za (i:=2) rfl) (Zr (d:=.int 1)) (gX (k:=1) (by decide))) (We (Za (i:=0) rfl)) (by omega)))<|Js (δ':=E a) ((Zy (d:=.int (to:Int)) (et▸(Z9 (Z0 (Za (i:=2) rfl) (Zr (d:=.int 2)) (gX (k:=2) (by decide))) ((Wj (We (Za (i:=0) rfl)) (Zr (d:=.int 1))).cast (congrArg Xl (by omega:(c.length:Int)+1=((c.length+1:Nat):Int)))) (by omega)))).trans (by rw[hE];rfl)) ?_
  have way:∀k:Int,EvT (tV (Ze gEq (Zd 3) (fC (.int k)))) (E a) (decide ((xs.getD 0 0).fmod 9=k)):=λk=>Zay (Zjm (Za w3) Zr rfl)
  refine Ze4 (way 0) (λ_=>?_) λ_=>Ze4 (way 1) (λ_=>?_) λ_=>Ze4 (way 2) (λ_=>?_) λ_=>Ze4 (way 3) (λ_=>?_) λ_=>Ze4 (way 4) (λ_=>?_) λ_=>Ze4 (way 5) (λ_=>?_) λ_=>Ze4 (Zi4 (Zay (Zjg (Za w3) (Zr (d:=.int 8)) rfl)) (Zay (Zlu (We (Za w0)) (Zr (d:=.int 1)) rfl))) (λh=>?_) λ_=>Zjz (Jp Zk (show 0≤1000 by decide)) ⟨[],rfl,QV _⟩
  ·refine Zjz (Zhr (cs:=[some (.fz (Zm c))]) (Xn n) (λi:Nat=>Xl (0+(i:Int))) (λi=>!decide ((0+(i:Int))∈c)) (Zhe (n:=n) (Zb (Za w1) Zk) (by omega)) (by rw[Xw];omega) (by rw[hE];rfl) (λi _=>Zay (Zx (Za (i:=0) rfl) (Za (i:=1) rfl) (Zit true _ c))) λi _ _=>rfl) ⟨((Xn n).filter λi:Nat=>!decide ((0+(i:Int))∈c)).map λi:Nat=>0+(i:Int),by unfold Zm;rw[Qx];rfl,?_⟩
   rw[Xg]
   exact Qt (List.length_filter_le ..) (by rw[Xw];omega)
  ·exact Zp2 (Za3 (Za3 (sl1 (Za w4)) (Z65 (Z0 (Za w0) (Za w4) (gC la))) (by omega)) (Zj7 (Z1q w0) (Zjb (Za w4)) Zmg) (by omega)) (by omega) λp hp=>⟨p,rfl,by omega⟩
  ·have er:IV (Zs7 (Zd 0) oN oN (oI (fUn Zp4 (fC (.int 1))))) (E a) c.length:=⟨c.reverse,(Zzq (k:=-1) (Za w0) (Zjb (Zg9 Zr)) (by decide)).cast (by rw[Ztl];unfold Zm;rw[List.map_reverse]),by rw[List.length_reverse];exact X6 _⟩
   have e2:∀b:Bool,IV (Zud (Zq gIx (Zd 0) (fC (.int 0))) (Zal Z1l (Zc (Ze gEq (Zal Zcp (Zc (Zd 0) Zo)) (fC (.int 1))) Zo))) (E a) 1∨b≠decide ((c.length:Int)=1):=λb=>by
    by_cases hb:b=decide ((c.length:Int)=1)
    ·refine .inl ⟨Xy (if b then 1 else 0) (c.getD 0 0),(Zzs (k:=if b then 1 else 0) (Z0 (Za w0) (Zr (d:=.int 0)) (gC (k:=0) pos)) ((Zbc (Zb (Zjm (We (Za w0)) (Zr (d:=.int 1)) hb.symm) Zk) (Z06 b)).cast (by cases b<;>rfl)) (by split<;>decide)).cast (by unfold Zm;rw[List.map_replicate]),by rw[Vj];split<;>decide⟩
    ·exact .inr hb
   rcases e2 _ with h|h
   ·exact Zp2 (Za3 er h (by omega)) (by omega) λp hp=>⟨p,rfl,hp⟩
   ·exact absurd rfl h
  ·exact Zp2 (Za3 (Za3 (sl1 (Za w5)) (Z65 (Wj (Za w1) (Z9 x1 Zr (by decide)))) (by omega)) (Zj7 (Z1q w0) (Zjb (Za w5)) Zmg) (by omega)) (by omega) λp hp=>⟨p,rfl,by omega⟩
  ·obtain⟨w,ew,lw⟩:=Yu ((xs.getD 1 0).fdiv 3) (n:=2) (by decide)
   obtain⟨v,ev⟩:=Z9l (x:=0) (y:=-1-(xs.getD 1 0).fmod 3) lw
   exact Zp2 (Za3 (Za3 (sl1 (Za w5)) (Z65 (Z0 (Jp (Zb Zr (Zb (Zfi (Zg9 Zr) (Z9 x1 Zr (by decide))) Zk)) (show 2≤1000 by decide)) (ew▸Z9 (Zf5 x1 Zr) (Zr (d:=.int 2)) (by decide)) ev)) (by omega)) (Zj7 (Z1q w0) (Zjb (Za w5)) Zmg) (by omega)) (by omega) λp hp=>⟨p,rfl,by omega⟩
  ·obtain⟨w,ew,lw⟩:=Yu (xs.getD 2 0) (n:=4) (by decide)
   obtain⟨v,ev⟩:=Z9w (x:=0) (y:=n) (z:=-1) (u:=99) lw
   exact Zp2 (Za3 (Za3 (sl1 (Za w4)) (Z65 (Z0 (Jp (Zb Zr (Zb (Za w1) (Zb (Zg9 Zr) (Zb Zr Zk)))) (show 4≤1000 by decide)) (ew▸Z9 x2 (Zr (d:=.int 4)) (by decide)) ev)) (by omega)) (Zj7 (Z1q w0) (Zjb (Wj (Za w4) Zr)) Zmg) (by omega)) (by omega) λp hp=>⟨p,rfl,by omega⟩
  ·have l1:1<c.length:=by
    rw[Xo,decide_eq_true_eq,decide_eq_true_eq]at h
    omega
   obtain⟨b,eb,lb⟩:=Yu (xs.getD 1 0) (n:=c.length-1) (by omega)
   refine Js (δ':=E (1+b)) ((Zy (d:=.int ((1+b:Nat):Int)) (EvV.cast (Wj Zr (eb▸Z9 x1 ((Zfi (We (Za w0)) (Zr (d:=.int 1))).cast (congrArg Xl (by omega:(c.length:Int)-1=((c.length-1:Nat):Int)))) (by omega))) (congrArg Xl (by omega)))).trans (by rw[hE];rfl)) ?_
   have m1:EvV (Ze gSb (Zd 4) (fC (.int 1))) (E (1+b)) (.int ((b:Nat):Int)):=(Zfi (Za w4) (Zr (d:=.int 1))).cast (congrArg Xl (by omega))
   exact Zp2 (Za3 (Za3 (sl1 m1) ⟨[c.getD (1+b) 0,c.getD b 0],Jp (Zb (Z0 (Za w0) (Za w4) (gC (by omega))) (Zb (Z0 (Za w0) m1 (gC (by omega))) Zk)) (show 2≤1000 by decide),X6 2⟩ (by omega)) (Zj7 (Z1q w0) (Zjb (Wj (Za w4) Zr)) Zmg) (by omega)) (by omega) λp hp=>⟨p,rfl,by omega⟩
 obtain⟨d,h,p,rfl,hp⟩:=key
 exact⟨p,h,hp⟩
theorem Z5q{e:FE}{δ δ':Zi}{d:Xa}{g:FG}(h:EvV e δ d)(hg:g d δ=some δ'):wE e (Z2i g) δ= .nx δ':=by
 obtain⟨t,e1,e2⟩:=h
 rw[Zfd,e1,J3]
 show(match g t.data δ with|some δ'=>RS.nx δ'|none=>.bad)=_
 rw[e2,hg]
noncomputable def KK:Int:=14000000000000000
theorem Wt.qb{q:Rat}(h:Wt q):Qb 110 q:=⟨h.2,h.1.mono (by decide)⟩
theorem Z7k{BL:Int}{q:Rat}(h:Wt q)(hd:(q.den:Int)∣BL):Gw (BL*KK) q:=⟨VD hd (Int.dvd_mul_right ..),h.qb.up (by decide)⟩
theorem Zq1{BL:Int}{q:Rat}{t b:Int}(hq:(q.den:Int)∣BL)(h:Wt q)(hb:0<b)(hk:b∣KK)(ht:Bt 40 t)(hbb:Bt 40 b):Gw (BL*KK) (q+Qn t b):=by
 refine⟨?_,(h.qb.add (Zwn (Bh hb) ht hbb)).up (by decide)⟩
 have e:q+Qn t b=Qn (q.num*b+t*(q.den:Int)) ((q.den:Int)*b):=by
  conv=>lhs;rw[←VH q]
  rw[Rat.divInt_add_divInt _ _ (Bh (W5 q)) (Bh hb)]
 rw[e]
 exact VD (Ztm (Bh (Int.mul_pos (W5 q) hb))) (Int.mul_dvd_mul hq hk)
theorem Z68{BL:Int}{q:Rat}(hd:(q.den:Int)∣KK)(h:Qb 200 q):Gw (BL*KK) q:=⟨VD hd (Int.dvd_mul_left ..),h⟩
theorem Yeo{BL:Int}:Gw (BL*KK) 1:=Z68 (by decide) ⟨btc (by decide +kernel) (by decide +kernel),btc (by decide +kernel) (by decide +kernel)⟩
noncomputable def CV(P:List Int×Rat->Prop)(e:FE)(δ:Zi)(k:Nat):Prop:=∃L:List (List Int×Rat),EvV e δ (Wy L)∧L.length≤k∧∀p∈L,P p
theorem Zqm{P:List Int×Rat->Prop}{e:FE}{δ:Zi}{lo hi:FO}{l h:Option Int}{k:Nat}(he:CV P e δ k)(hl:EvO lo δ l)(hh:EvO hi δ h):CV P (fSl e lo hi) δ k:=by
 obtain⟨p,e1,l1,h1⟩:=he
 exact⟨Zjd p l h,(Zlh (ds:=p.map ctD) e1 hl hh).cast (by rw[Zbo];rfl),Qt (Zpd p l h) l1,λq m=>h1 q (Zv8 m)⟩
theorem Zbg{P:List Int×Rat->Prop}{a b:FE}{δ:Zi}{j k:Nat}(ha:CV P a δ j)(hb:CV P b δ k)(h:j+k≤900):CV P (Zq Zbx a b) δ (j+k):=by
 obtain⟨p,e1,l1,h1⟩:=ha
 obtain⟨q,e2,l2,h2⟩:=hb
 exact⟨p ++ q,(Zos (ds:=p.map ctD) (es:=q.map ctD) e1 e2 (by rw[Xg,Xg];omega)).cast (by unfold Wy;rw[Qu]),by rw[QJ];omega,λx m=>(Q3.mp m).elim (h1 x) (h2 x)⟩
theorem Z6h{P:List Int×Rat->Prop}{e:FE}{δ:Zi}{p:List Int×Rat}(h:EvV e δ (ctD p))(hp:P p):CV P (Zav (Zc e Zo)) δ 1:=⟨[p],Jp (Zb h Zk) (show 1≤1000 by decide),X6 1,λx m=>Qd.mp m▸hp⟩
theorem Ybj{P:List Int×Rat->Prop}{e f:FE}{δ:Zi}{p q:List Int×Rat}(h:EvV e δ (ctD p))(k:EvV f δ (ctD q))(hp:P p)(hq:P q):CV P (Zav (Zc e (Zc f Zo))) δ 2:=⟨[p,q],Jp (Zb h (Zb k Zk)) (show 2≤1000 by decide),X6 2,λx m=>(Xu.mp m).elim (λz=>z▸hp) λz=>Qd.mp z▸hq⟩
theorem Zqc{a b:FE}{δ:Zi}{p:List Int}{q:Rat}(h:EvV a δ (Zm p))(k:EvV b δ (frD q)):EvV (Zc2 (Zc a (Zc b Zo))) δ (ctD (p,q)):=Zaa (Zb h (Zb k Zk)) (show 2≤1000 by decide)
theorem Zua{as:FA}{δ:Zi}{ds:List Xa}(h:EvA as δ ds)(hl:ds.length≤1000):EvV (Zq7 as) δ (.tuple ds):=by
 obtain⟨ts,e1,d1⟩:=h
 have:=Zfn ts
 rw[d1]at this
 refine⟨.tp ts,?_,by rw[OT.data_tp,←OT.datas_map,d1]⟩
 rw[Zv3,e1,Xe,if_pos (by rw[Qc];show ts.length≤_;omega)]
theorem gP6:Zrn (.int 10) (.int 6)=some (.int 1000000):=rfl
theorem gP9:Zrn (.int 10) (.int 9)=some (.int 1000000000):=rfl
noncomputable def w6:Rat:=⟨-1,1000000,by decide,by decide⟩
theorem Yey{x y:Rat}{w:Nat}(h:w<2):∃v:Rat,gIx (Zb4 [x,y]) (.int (w:Int))=some (.fz (frD v))∧(v=x∨v=y):=by
 obtain rfl|rfl:w=0∨w=1:=by omega
 ·exact⟨_,rfl,.inl rfl⟩
 ·exact⟨_,rfl,.inr rfl⟩
theorem Ye1{x y z u:Rat}{w:Nat}(h:w<4):∃v:Rat,gIx (Zb4 [x,y,z,u]) (.int (w:Int))=some (.fz (frD v))∧(v=x∨v=y∨v=z∨v=u):=by
 obtain rfl|rfl|rfl|rfl:w=0∨w=1∨w=2∨w=3:=by omega
 ·exact⟨_,rfl,.inl rfl⟩
 ·exact⟨_,rfl,.inr (.inl rfl)⟩
 ·exact⟨_,rfl,.inr (.inr (.inl rfl))⟩
 ·exact⟨_,rfl,.inr (.inr (.inr rfl))⟩
theorem Z5x{P:List Int×Rat->Prop}{e:FE}{δ:Zi}{k:Nat}{Q:Xa->Prop}(h:CV P e δ k)(hk:k≤40)(hQ:∀L:List (List Int×Rat),L.length≤k->(∀p∈L,P p)->Q (Wy L)):Zk5 (wE e Yr) δ Q:=by
 obtain⟨p,e1,l1,h1⟩:=h
 exact Zjz e1 (hQ p l1 h1)
noncomputable def Pt(n:Nat)(p:List Int×Rat):Prop:=∀x∈p.1,1≤x∧x<(n:Int)
theorem Zpt{n:Nat}(h1:1≤n)(hn:n≤5){BL:Int}{L:List (List Int×Rat)}(l0:L≠[])(lL:L.length≤16)(hL:∀p∈L,Gc n p∧(p.2.den:Int)∣BL){xs:List Int}(lx:xs.length=6):∃L':List (List Int×Rat),Told W2 [Wy L,.int n,Zm xs] (Wy L')∧L'.length≤40∧(∀p∈L',p.1.length≤12∧Gw (BL*KK) p.2)∧((xs.getD 1 0).fmod 12<4->∀p∈L',Pt n p):=by
 have pos:0<L.length:=Ur.mpr l0
 have gX:∀{k:Nat},k<6->gIx (Zm xs) (.int (k:Int))=some (.fz (.int (xs.getD k 0))):=fun{k} hk=>by rw[Zbi (by omega) (by omega),Qj]
 obtain⟨a,ea,la⟩:=Yu (xs.getD 0 0) pos
 obtain⟨wy,ewy,lwy⟩:=Yu (xs.getD 1 0) (n:=12) (by decide)
 have ewy:(xs.getD 1 0).fmod 12=(wy:Int):=ewy
 obtain⟨p,hp⟩:∃p,L[a]? =some p:=⟨_,Xi la⟩
 have mp:=XR hp
 obtain⟨⟨g1,g2,g3,g4⟩,g5⟩:=hL p mp
 have ep:L.getD a ([],0)=p:=by rw[Xh,hp];rfl
 have gp:=Z7k g4 g5
 have all:∀p∈L,p.1.length≤12∧Gw (BL*KK) p.2:=λp hp=>⟨by have:=(hL p hp).1.2.1;omega,Z7k (hL p hp).1.2.2.2 (hL p hp).2⟩
 have key:∃d,Told W2 [Wy L,.int n,Zm xs] d∧∃L':List (List Int×Rat),d=Wy L'∧L'.length≤40∧(∀p∈L',p.1.length≤12∧Gw (BL*KK) p.2)∧((xs.getD 1 0).fmod 12<4->∀p∈L',Pt n p):=by
  obtain⟨E,hE⟩:∃E:Xa->Option OT->Option OT->Option OT->Zi,E= λc z7 z8 z9=>[some (.fz (Wy L)),some (.fz (.int n)),some (.fz (Zm xs)),some (.fz (.int (a:Int))),some (.fz c),some (.fz (frD p.2)),some (.fz (.int (wy:Int))),z7,z8,z9]:=⟨_,rfl⟩
  have w0:∀{c x y z},(E c x y z)[0]? =some (some (.fz (Wy L))):=by rw[hE];exact fun{_ _ _ _}=>rfl
  have w1:∀{c x y z},(E c x y z)[1]? =some (some (.fz (.int n))):=by rw[hE];exact fun{_ _ _ _}=>rfl
  have w2:∀{c x y z},(E c x y z)[2]? =some (some (.fz (Zm xs))):=by rw[hE];exact fun{_ _ _ _}=>rfl
  have w3:∀{c x y z},(E c x y z)[3]? =some (some (.fz (.int (a:Int)))):=by rw[hE];exact fun{_ _ _ _}=>rfl
  have w4:∀{c x y z},(E c x y z)[4]? =some (some (.fz c)):=by rw[hE];exact fun{_ _ _ _}=>rfl
  have w5:∀{c x y z},(E c x y z)[5]? =some (some (.fz (frD p.2))):=by rw[hE];exact fun{_ _ _ _}=>rfl
  have w6':∀{c x y z},(E c x y z)[6]? =some (some (.fz (.int (wy:Int)))):=by rw[hE];exact fun{_ _ _ _}=>rfl
  have xA:∀{c x y z} (k:Nat),k<6->EvV (Zq gIx (Zd 2) (fC (.int (k:Int)))) (E c x y z) (.int (xs.getD k 0)):=fun{c x y z} k hk=>Z0 (Za w2) (Zr (d:=.int (k:Int))) (gX hk)
  have cv:∀{P:List Int×Rat->Prop} {c x y z},(∀p∈L,P p)->CV P (Zd 0) (E c x y z) 16:=fun{P c x y z} h=>⟨L,Za w0,lL,h⟩
  have slA:∀{P:List Int×Rat->Prop} {c x y z},(∀p∈L,P p)->CV P (fSl (Zd 0) oN (oI (Zd 3))) (E c x y z) 16:=λh=>Zqm (cv h) Zmg (Zjb (Za w3))
  have slB:∀{P:List Int×Rat->Prop} {c x y z},(∀p∈L,P p)->CV P (fSl (Zd 0) (oI (Ze Zaq (Zd 3) (fC (.int 1)))) oN) (E c x y z) 16:=λh=>Zqm (cv h) (Zjb (Wj (Za w3) Zr)) Zmg
  have way:∀k:Int,EvT (tV (Ze gEq (Zd 6) (fC (.int k)))) (E (Zm p.1) none none none) (decide ((wy:Int)=k)):=λk=>Zay (Zjm (Za w6') Zr rfl)
  have fin:∀{e:FE} {δ:Zi} {k:Nat},¬wy<4->CV (λp=>p.1.length≤12∧Gw (BL*KK) p.2) e δ k->k≤40->Zk5 (wE e Yr) δ λd=>∃L':List (List Int×Rat),d=Wy L'∧L'.length≤40∧(∀p∈L',p.1.length≤12∧Gw (BL*KK) p.2)∧((xs.getD 1 0).fmod 12<4->∀p∈L',Pt n p):=λh4 h hk=>Z5x h hk λL' l q=>⟨L',rfl,by omega,q,λz=>absurd z (by omega)⟩
  refine Zsj rfl<|Js (Zy (d:=.int (a:Int)) (ea▸Z9 (Z0 (Za (i:=2) rfl) (Zr (d:=.int 0)) (gX (k:=0) (by decide))) ((Zfx (ds:=L.map ctD) (Za (i:=0) rfl)).cast (by rw[Xg])) (by omega)))<|Js (Z5q (Z0 (Za (i:=0) rfl) (Za (i:=3) rfl) (Zqy la)) (by rw[ep];rfl))<|Js (δ':=E (Zm p.1) none none none) ((Zy (d:=.int (wy:Int)) (ewy▸Z9 (Z0 (Za (i:=2) rfl) (Zr (d:=.int 1)) (gX (k:=1) (by decide))) (Zr (d:=.int 12)) (by decide))).trans (by rw[hE];rfl)) ?_
  refine Ze4 (Zay (Zjg (Za w6') (Zr (d:=.int 4)) rfl)) (λh4=>?_) λh4=>?_
  ·have l4:wy<4:=by have:=of_decide_eq_true h4;omega
   obtain⟨v,hv,lv⟩:=Yu (xs.getD 3 0) (n:=2) (by decide)
   obtain⟨r,er,hr⟩:=Yey (x:=-p.2) (y:=w6) lv
   have gr:Gw (BL*KK) r:=by
    rcases hr with rfl|rfl
    ·exact⟨by rw[Rat.neg_den];exact gp.1,gp.2.neg⟩
    ·exact Z68 (by decide) ⟨btc (by decide +kernel) (by decide +kernel),btc (by decide +kernel) (by decide +kernel)⟩
   have T1:=Zu2 (t:=1) (b:=7) g4.qb (btc (n:=40) (by decide +kernel) (by decide +kernel)) (by decide) (btc (n:=40) (by decide +kernel) (by decide +kernel)) (by decide)
   have T2:=Zu2 (t:=-1) (b:=1000000000) g4.qb (btc (n:=40) (by decide +kernel) (by decide +kernel)) (by decide) (btc (n:=40) (by decide +kernel) (by decide +kernel)) (by decide)
   obtain⟨s,es,hs⟩:=Ye1 (x:=p.2+Qn 1 7) (y:=r) (z:=0) (u:=p.2+Qn (-1) 1000000000) l4
   have gs:Gw (BL*KK) s:=by
    rcases hs with rfl|rfl|rfl|rfl
    ·exact Zq1 g5 g4 (by decide) (by decide) (btc (by decide +kernel) (by decide +kernel)) (btc (by decide +kernel) (by decide +kernel))
    ·exact gr
    ·exact Z68 (by decide) ⟨btc (by decide +kernel) (by decide +kernel),btc (by decide +kernel) (by decide +kernel)⟩
    ·exact Zq1 g5 g4 (by decide) (by decide) (btc (by decide +kernel) (by decide +kernel)) (btc (by decide +kernel) (by decide +kernel))
   have two:(2:Nat)≤1000:=by decide
   refine Js (δ':=E (Zm p.1) (some (.fz (frD r))) none none) ((Zy (d:=frD r) (Z0 (d:=frD r) (EvV.cast (y:=Zb4 [-p.2,w6]) (Jp (Zb (Zaa (Zb (Zfi Zr (Z0 (Za w5) (Zr (d:=.int 0)) rfl)) (Zb (Z0 (Za w5) (Zr (d:=.int 1)) rfl) Zk)) two) (Zb (Zaa (Zb (Zg9 Zr) (Zb (Zx Zr Zr gP6) Zk)) two) Zk)) two) (by unfold Zb4;rw[Ql,Z3y];rfl)) (hv▸Z9 (xA 3 (by decide)) (Zr (d:=.int 2)) (by decide)) er)).trans (by rw[hE];rfl))<|Js (δ':=E (Zm p.1) (some (.fz (frD r))) (some (.fz (Zb4 [p.2+Qn 1 7,r,0,p.2+Qn (-1) 1000000000]))) none) ((Zy (Jp (Zb (Zu (Zb (Za w5) (Zb (Zaa (Zb Zr (Zb Zr Zk)) two) Zk)) T1) (Zb (Za (i:=7) (d:=frD r) (by rw[hE];rfl)) (Zb (Zaa (Zb Zr (Zb Zr Zk)) two) (Zb (Zu (Zb (Za w5) (Zb (Zaa (Zb (Zg9 Zr) (Zb (Zx Zr Zr gP9) Zk)) two) Zk)) T2) Zk)))) (show 4≤1000 by decide))).trans (by rw[hE];rfl))<|Z5x (P:=λp=>(p.1.length≤12∧Gw (BL*KK) p.2)∧Pt n p) (Zbg (Zbg (slA λq m=>⟨all q m,(hL q m).1.1⟩) (Z6h (Zqc (Za w4) (Z0 (Za (i:=8) (by rw[hE];rfl)) (Za w6') es)) ⟨⟨by show p.1.length≤12;omega,gs⟩,g1⟩) (by decide)) (slB λq m=>⟨all q m,(hL q m).1.1⟩) (by decide)) (by decide) λL' l q=>⟨L',rfl,by omega,λp m=>(q p m).1,λ_ p m=>(q p m).2⟩
  have l4:¬wy<4:=by have:=of_decide_eq_false h4;omega
  refine Ze4 (way 4) (λ_=>fin l4 (Zbg (slA all) (slB all) (by decide)) (by decide)) λ_=>Ze4 (way 5) (λ_=>fin l4 (Zbg (Zbg (slA all) (Z6h (p:=p) (Z0 (Za w0) (Za w3) (by rw[Zqy la,ep])) (all p mp)) (by decide)) (Zqm (cv all) (Zjb (Za w3)) Zmg) (by decide)) (by decide)) λ_=>Ze4 (way 6) (λ_=>?_) λ_=>Ze4 (way 7) (λ_=>fin l4 (Zbg (Zqm (cv all) (Zjb Zr) Zmg) (Zqm (cv all) Zmg (Zjb Zr)) (by decide)) (by decide)) λ_=>Ze4 (Zi4 (way 8) (Zay (Zlu (Za w3) (Zr (d:=.int 0)) rfl))) (λh=>?_) λ_=>Ze4 (way 9) (λ_=>?_) λ_=>Ze4 (way 10) (λ_=>fin l4 (Zbg (cv all) (Z6h (p:=([(n:Int)-1,(n:Int)],1)) (Zua (Zb (Jp (Zb (Zfi (Za w1) Zr) (Zb (Za w1) Zk)) (show 2≤1000 by decide)) (Zb (Zaa (Zb Zr (Zb Zr Zk)) (show 2≤1000 by decide)) Zk)) (show 2≤1000 by decide)) ⟨show 2≤12 by decide,Yeo⟩) (by decide)) (by decide)) λ_=>?_
  ·have b0:0<2*(p.2.den:Int):=Int.mul_pos (by decide) (W5 p.2)
   have bt2:Bt 20 (2*(p.2.den:Int)):=(Bt.mul (btc (n:=3) (m:=2) (by decide) (by decide)) g4.1).mono (by decide)
   have gh:Gw (BL*KK) (Qn p.2.num (2*(p.2.den:Int))):=⟨VD (Ztm (Bh b0)) (by rw[Int.mul_comm];exact Int.mul_dvd_mul g5 (by decide)),Zwn (Bh b0) (g4.2.mono (by decide)) (bt2.mono (by decide))⟩
   have e9:∀{δ:Zi} {q:Rat},δ[4]? =some (some (.fz (Zm p.1)))->δ[9]? =some (some (.fz (frD q)))->EvV (Zc2 (Zc (Zd 4) (Zc (Zd 9) Zo))) δ (ctD (p.1,q)):=λh k=>Zqc (Za h) (Za k)
   have i9:∀(k:Int) (x y:Int),(k=0∧x=p.2.num)∨(k=1∧x=2*(p.2.den:Int))->EvV (Zq gIx (Zd 9) (fC (.int k))) (E (Zm p.1) none none (some (.fz (.tuple [.int p.2.num,.int (2*(p.2.den:Int))])))) (.int x):=λk x y h=>by
    rcases h with⟨rfl,rfl⟩|⟨rfl,rfl⟩
    ·exact Z0 (Za (i:=9) (d:=.tuple [.int p.2.num,.int (2*(p.2.den:Int))]) (by rw[hE];rfl)) (Zr (d:=.int 0)) rfl
    ·exact Z0 (Za (i:=9) (d:=.tuple [.int p.2.num,.int (2*(p.2.den:Int))]) (by rw[hE];rfl)) (Zr (d:=.int 1)) rfl
   have ok:p.1.length≤12∧Gw (BL*KK) (Qn p.2.num (2*(p.2.den:Int))):=⟨by omega,gh⟩
   refine Js (δ':=E (Zm p.1) none none (some (.fz (.tuple [.int p.2.num,.int (2*(p.2.den:Int))])))) ((Zy (Zaa (Zb (Z0 (Za w5) (Zr (d:=.int 0)) rfl) (Zb (Zeu Zr (Z0 (Za w5) (Zr (d:=.int 1)) rfl)) Zk)) (show 2≤1000 by decide))).trans (by rw[hE];rfl))<|Js (δ':=E (Zm p.1) none none (some (.fz (frD (Qn p.2.num (2*(p.2.den:Int))))))) ((Zy (Zu (Zb (i9 0 _ 0 (.inl ⟨rfl,rfl⟩)) (Zb (i9 1 _ 0 (.inr ⟨rfl,rfl⟩)) Zk)) (Zca b0 bt2))).trans (by rw[hE];rfl))<|fin l4 (Zbg (Zbg (slA all) (Ybj (e9 w4 (by rw[hE];rfl)) (e9 w4 (by rw[hE];rfl)) ok ok) (by decide)) (slB all) (by decide)) (by decide)
  ·have a0:0<a:=by
    rw[Xo,decide_eq_true_eq,decide_eq_true_eq]at h
    omega
   obtain⟨q,hq⟩:∃q,L[a-1]? =some q:=⟨_,Xi (by omega)⟩
   have mq:=XR hq
   have eq:L.getD (a-1) ([],0)=q:=by rw[Xh,hq];rfl
   have m1:∀{c x y z},EvV (Ze gSb (Zd 3) (fC (.int 1))) (E c x y z) (.int ((a-1:Nat):Int)):=fun{c x y z}=>(Zfi (Za w3) (Zr (d:=.int 1))).cast (congrArg Xl (by omega))
   have eQ:∀{c x y z},EvV (Zq gIx (Zd 0) (Ze gSb (Zd 3) (fC (.int 1)))) (E c x y z) (ctD q):=fun{c x y z}=>Z0 (Za w0) m1 (by rw[Zqy (by omega),eq])
   exact fin l4 (Zbg (Zbg (Zqm (cv all) Zmg (Zjb m1)) (Ybj (Zqc (p:=q.1) (Z0 eQ (Zr (d:=.int 0)) rfl) (Za w5)) (Zqc (q:=q.2) (Za w4) (Z0 eQ (Zr (d:=.int 1)) rfl)) ⟨(all q mq).1,gp⟩ ⟨(all p mp).1,(all q mq).2⟩) (by decide)) (slB all) (by decide)) (by decide)
  ·obtain⟨Ls,Tc,hC,lC⟩:=Zh0 (n:=n) h1 (by omega)
   have n2:1<n:=by
    obtain⟨x,hx⟩:=List.exists_mem_of_ne_nil _ g3
    have:=g1 x hx
    omega
   have pos2:0<Ls.length:=List.length_pos_of_mem ((hC [1]).mpr (by
    obtain rfl|rfl|rfl|rfl:n=2∨n=3∨n=4∨n=5:=by omega
    all_goals exact⟨by decide,by decide⟩))
   obtain⟨b,eb,lb⟩:=Yu (xs.getD 2 0) pos2
   obtain⟨c,hc⟩:∃c,Ls[b]? =some c:=⟨_,Xi lb⟩
   have cS:=(hC c).mp (XR hc)
   have lc:=(sd4 n hn c cS.1 cS.2).1
   have eL:∀{x y z u},EvV (Zw Wh (Zc (Zd 1) Zo)) (E x y z u) (LL Ls):=fun{x y z u}=>Zu (Zb (Za w1) Zk) Tc
   have gL:gIx (LL Ls) (.int (b:Int))=some (.fz (Zm c)):=by
    unfold LL
    rw[Zi7,Zg4,Xm,hc];rfl
   have f5:0≤(xs.getD 3 0).fmod 5∧(xs.getD 3 0).fmod 5<5:=⟨Zer (by decide),Ze2 (by decide)⟩
   have gv:Gw (BL*KK) ((1+(xs.getD 3 0).fmod 5:Int):Rat):=Z68 (by show(1:Int)∣KK;decide) ⟨Bt.of_lt (m:=200) (by show -(2^200)<1+(xs.getD 3 0).fmod 5;omega) (by show 1+(xs.getD 3 0).fmod 5<2^200;omega),btc (m:=1) (by decide +kernel) (by decide +kernel)⟩
   refine Js (δ':=E (Zm c) none none none) ((Zy (Z0 eL (eb▸Z9 (xA 2 (by decide)) ((Zfx (ds:=Ls.map Zm) eL).cast (by rw[Xg])) (by omega)) gL)).trans (by rw[hE];rfl)) ?_
   obtain⟨L2,e2,l2,h2⟩:=Zbg (P:=λp=>p.1.length≤12∧Gw (BL*KK) p.2) (δ:=E (Zm c) none none none) (a:=Yk 1 [4] (Zcl (Zd 0)) (gNm 0) (tV (Ze gNe (Zq gIx (Zd 0) (fC (.int 0))) (Zd 1))) (Zd 0)) (j:=16) ⟨L.filter λq=>!decide (q.1=c),Zhr (cs:=[some (.fz (Zm c))]) L ctD (λq=>!decide (q.1=c)) (Jg (Za w0)) (by omega) (by rw[hE];rfl) (λq _=>Zay (Zx (Z0 (Za (i:=0) (d:=ctD q) rfl) (Zr (d:=.int 0)) rfl) (Za (i:=1) rfl) (Zoh q.1 c))) (λq _ _=>rfl),Qt (List.length_filter_le ..) lL,λq m=>all q (Vy.mp m).1⟩ (Z6h (p:=(c,((1+(xs.getD 3 0).fmod 5:Int):Rat))) (Zqc (Za w4) (Zaa (Zb (Wj Zr (Z9 (xA 3 (by decide)) Zr (by decide))) (Zb Zr Zk)) (show 2≤1000 by decide))) ⟨by show c.length≤12;omega,gv⟩) (by decide)
   have pm:(sCt L2).Perm L2:=Zfy _ _ _
   exact fin l4 ⟨sCt L2,Zru e2 (by omega),by rw[pm.length_eq];exact l2,λp m=>h2 p (pm.mem_iff.mp m)⟩ (by decide)
  ·have lu:(Zjd xs (some 2) none).length=4:=by
    unfold Zjd
    rw[Bv,QL,lx];rfl
   obtain⟨b,Tb,lb⟩:=Zya (n:=n) hn g3 g2 lu
   have sx:EvV (fSl (Zd 2) (oI (fC (.int 2))) oN) (E (Zm p.1) none none none) (Zm (Zjd xs (some 2) none)):=(Zlh (ds:=xs.map Xl) (Za w2) (Zjb (Zr (d:=.int 2))) Zmg).cast (by rw[Zbo];rfl)
   exact fin l4 (Zbg (Zbg (slA all) (Z6h (Zqc (Zu (Zb (Za w4) (Zb (Za w1) (Zb sx Zk))) Tb) (Za w5)) ⟨lb,gp⟩) (by decide)) (slB all) (by decide)) (by decide)
 obtain⟨d,h,L',rfl,hL'⟩:=key
 exact⟨L',h,hL'⟩
noncomputable def Goes(S:FS)(δ:Zi)(I:Zi->Prop):Prop:=∃δ',S δ= .nx δ'∧I δ'
theorem Zbj{S S':FS}{δ δ':Zi}{I:Zi->Prop}(h:S δ= .nx δ')(k:Goes S' δ' I):Goes (Zz S S') δ I:=by
 obtain⟨e,h1,h2⟩:=k
 exact⟨e,W9 h h1,h2⟩
theorem Z0x{S S':FS}{δ:Zi}{I J:Zi->Prop}(h:Goes S δ J)(k:∀δ',J δ'->Goes S' δ' I):Goes (Zz S S') δ I:=by
 obtain⟨e,h1,h2⟩:=h
 exact Zbj h1 (k e h2)
theorem Zqf{t:FT}{S S':FS}{δ:Zi}{I:Zi->Prop}{p:Bool}(h:EvT t δ p)(k1:p=true->Goes S δ I)(k2:p=false->Goes S' δ I):Goes (Jc t S S') δ I:=by
 cases p with
 | true=>
  obtain⟨e,h1,h2⟩:=k1 rfl
  exact⟨e,Zgg h h1,h2⟩
 | false=>
  obtain⟨e,h1,h2⟩:=k2 rfl
  exact⟨e,Y4 h h1,h2⟩
theorem Zvm{m:Nat}{caps:List Nat}{it:FI}{g:FG}{t:FT}{e:FE}{δ δ':Zi}{o:OT}(h:Yk m caps it g t e δ=some (o,δ')):∃ts,o= .nd ts:=by
 unfold Yk at h
 obtain⟨p,h1,h⟩:=bs h
 split at h
 ·obtain⟨q,h2,h⟩:=bs h
  cases h
  exact⟨_,rfl⟩
 ·cases h
theorem Zv9(r:List Rat):Zi1 ((r.map frD).map OT.fz)=true:=by
 induction r with
 | nil=>rfl
 | cons q r ih=>rw[Ql,Ql,Zi1,ih];rfl
theorem Znr{S S':FS}{δ:Zi}{J:Zi->Prop}{Q:OT->Prop}(h:Goes S δ J)(k:∀δ',J δ'->RO S' δ' Q):RO (Zz S S') δ Q:=by
 obtain⟨e,h1,h2⟩:=h
 exact Zm6 h1 (k e h2)
theorem Zy8{np n:Nat}{S:FS}{ts:List OT}{Q:OT->Prop}(hl:ts.length=np)(h:RO S (startM n ts) Q):∃o,Z1v np n S ts= .ok o∧Q o:=by
 obtain⟨o,e,h1,h2⟩:=h
 refine⟨o,?_,h2⟩
 unfold Z1v
 rw[if_pos hl,h1];rfl
noncomputable def rowOf(m:Nat)(T:Nat->Nat->Rat)(i:Nat):List Rat:=(Xn m).map λj=>T i j
theorem Zn4(m:Nat)(T:Nat->Nat->Rat)(i:Nat):Zb4 (rowOf m T i)= .list ((Xn m).map λj=>frG T i j):=by unfold Zb4 rowOf;rw[Qx];rfl
theorem Zwp{n:Nat}(h1:1≤n)(hn:n≤5){T:Nat->Nat->Rat}(hT:∀i j,i<n->j<n->Qb 3300 (T i j)){us:List Int}(lu:us.length=4):∃o,Wv [Y7 n (frG T),.fz (Zm us)]= .ok o∧∃(m:Nat) (T':Nat->Nat->Rat),1≤m∧m≤6∧o.data=Wo m (frG T'):=by
 have gX:∀{k:Nat},k<4->gIx (Zm us) (.int (k:Int))=some (.fz (.int (us.getD k 0))):=fun{k} hk=>by rw[Zbi (by omega) (by omega),Qj]
 obtain⟨E,hE⟩:∃E:OT->Option OT->Option OT->Zi,E= λg z3 z4=>[some g,some (.fz (Zm us)),some (.fz (.int n)),z3,z4]:=⟨_,rfl⟩
 have w0:∀{g x y},(E g x y)[0]? =some (some g):=by rw[hE];exact fun{_ _ _}=>rfl
 have w1:∀{g x y},(E g x y)[1]? =some (some (.fz (Zm us))):=by rw[hE];exact fun{_ _ _}=>rfl
 have w2:∀{g x y},(E g x y)[2]? =some (some (.fz (.int n))):=by rw[hE];exact fun{_ _ _}=>rfl
 have xA:∀{g x y} (k:Nat),k<4->EvV (Zq gIx (Zd 1) (fC (.int (k:Int)))) (E g x y) (.int (us.getD k 0)):=fun{g x y} k hk=>Z0 (Za w1) (Zr (d:=.int (k:Int))) (gX hk)
 have way:∀{g x y} (k:Int),EvT (tV (Ze gEq (Ze Je (Zq gIx (Zd 1) (fC (.int 0))) (fC (.int 7))) (fC (.int k)))) (E g x y) (decide ((us.getD 0 0).fmod 7=k)):=λk=>Zay (Zjm (Z9 (xA 0 (by decide)) Zr (by decide)) Zr rfl)
 have big:∀{g x y},EvT (tV (Ze gGt (Zd 2) (fC (.int 1)))) (E g x y) (decide ((1:Int)<n)):=Zay (Zlu (Za w2) Zr rfl)
 have st:wE (Zal Zcp (Zc (Zn0 0) Zo)) (Wb 2) (startM 5 [Y7 n (frG T),.fz (Zm us)])= .nx (E (Y7 n (frG T)) none none):=(Zy (d:=.int n) ((Zfx (ds:=(Xn n).map λi=>.list ((Xn n).map λj=>frG T i j)) (Ztr (i:=0) rfl (Zai n (frG T)))).cast (by rw[Xg,Xw]))).trans (by rw[hE];rfl)
 refine Zy8 rfl (Zm6 st (Znr (J:=λδ=>∃(T':Nat->Nat->Rat) (z3 z4:Option OT),δ=E (Y7 n (frG T')) z3 z4) (Zqf (Zi4 (way 1) big) (λc=>?_) λ_=>⟨_,rfl,T,none,none,rfl⟩) λδ' q=>?_))
 ·have n2:1<n:=by
   rw[Xo,decide_eq_true_eq,decide_eq_true_eq]at c
   omega
  obtain⟨i,ei,li⟩:=Yu (us.getD 1 0) (n:=n) (by omega)
  obtain⟨a,ea,la⟩:=Yu (us.getD 2 0) (n:=n-1) (by omega)
  obtain⟨j,ej,lj⟩:=Yu ((i:Int)+1+(a:Int)) (n:=n) (by omega)
  have f5:0≤(us.getD 3 0).fmod 5∧(us.getD 3 0).fmod 5<5:=⟨Zer (by decide),Ze2 (by decide)⟩
  have Tp:=Zu2 (t:=1) (b:=1+(us.getD 3 0).fmod 5) (hT i j li lj) (btc (n:=40) (by decide +kernel) (by decide +kernel)) (by omega) (Bt.of_lt (m:=40) (by omega) (by omega)) (by decide)
  refine Zbj (δ':=E (Y7 n (frG T)) (some (.fz (.int (i:Int)))) none) ((Zy (d:=.int (i:Int)) (ei▸Z9 (xA 1 (by decide)) (Za w2) (by omega))).trans (by rw[hE];rfl))<|Zbj (δ':=E (Y7 n (frG T)) (some (.fz (.int (i:Int)))) (some (.fz (.int (j:Int))))) ((Zy (d:=.int (j:Int)) (ej▸Z9 (Wj (Wj (Za (i:=3) (d:=.int (i:Int)) (by rw[hE];rfl)) Zr) (ea▸Z9 (xA 2 (by decide)) ((Zfi (Za w2) (Zr (d:=.int 1))).cast (congrArg Xl (by omega:(n:Int)-1=((n-1:Nat):Int)))) (by omega))) (Za w2) (by omega))).trans (by rw[hE];rfl)) ⟨_,Zoi (s:=0) (ia:=3) (ib:=4) (n:=n) (T:=T) (Znc (Zu (Zb (Zkt (n:=n) (f:=frG T) w0 (Za (i:=3) (d:=.int (i:Int)) (by rw[hE];rfl)) li (Za (i:=4) (d:=.int (j:Int)) (by rw[hE];rfl)) lj) (Zb (Zaa (Zb Zr (Zb (Wj Zr (Z9 (xA 3 (by decide)) Zr (by decide))) Zk)) (show 2≤1000 by decide)) Zk)) Tp) rfl) w0 (by rw[hE];rfl) (by rw[hE];rfl) (by decide) (by decide) li lj,_,_,_,by rw[hE];rfl⟩
 obtain⟨T,z3,z4,rfl⟩:=q
 have eG:(Y7 n (frG T)).data= .list ((Xn n).map λi=>Zb4 (rowOf n T i)):=by
  rw[Zai]
  unfold Wo
  exact congrArg QT (Xz λi _=>(Zn4 n T i).symm)
 have l0:∀i,0<(rowOf n T i).length:=λi=>by unfold rowOf;rw[Xg,Xw];omega
 have lr:∀i,(rowOf n T i).length=n:=λi=>by unfold rowOf;rw[Xg,Xw]
 refine Znr (J:=λδ=>((us.getD 0 0).fmod 7=2∧∃(o:OT) (T':Nat->Nat->Rat),o.data=Wo (n+1) (frG T')∧δ=E o z3 z4)∨((us.getD 0 0).fmod 7≠2∧δ=E (Y7 n (frG T)) z3 z4)) (Zqf (way 2) (λc=>?_) λc=>⟨_,rfl,.inr ⟨of_decide_eq_false c,rfl⟩⟩) λδ' q=>?_
 ·obtain⟨o,eo,d⟩:=Za2 (caps:=[]) (it:=Zcl (Zd 0)) (me:=Zq Zbx (Zd 0) (Zav (Zc (Zq gIx (Zd 0) (fC (.int 0))) Zo))) (δ:=E (.fz (.list ((Xn n).map λi=>Zb4 (rowOf n T i)))) z3 z4) (cs:=[]) (Xn n) (λi=>Zb4 (rowOf n T i)) (λi=>Zb4 (rowOf n T i ++ [T i 0])) (Jg (Za w0)) (by rw[Xw];omega) (by rw[hE];rfl) λi _=>by
   have e0:(rowOf n T i)[0]? =some (T i 0):=by unfold rowOf;rw[Xm,QW (by omega)];rfl
   refine(Zos (ds:=(rowOf n T i).map frD) (es:=[frD (T i 0)]) (Za rfl) (Jp (Zb (Z0 (Za rfl) (Zr (d:=.int 0)) (show gIx (.list ((rowOf n T i).map frD)) (.int ((0:Nat):Int))=some (.fz (frD (T i 0))) by rw[Zi7,Zg4,Xm,e0];rfl)) Zk) (show 1≤1000 by decide)) (by rw[Xg,lr];show n+1≤_;omega)).cast ?_
   unfold Zb4
   rw[Qu];rfl
  obtain⟨ts,rfl⟩:=Zvm eo
  rw[OT.data_nd]at d
  have d:=PyData.list.inj d
  have lt:ts.length=n:=by
   have:=congrArg List.length d
   rw[Xg,Xg,Xw]at this
   exact this
  have e0:gIx (.list ((Xn n).map λi=>Zb4 (rowOf n T i ++ [T i 0]))) (.int ((0:Nat):Int))=some (.fz (Zb4 (rowOf n T 0 ++ [T 0 0]))):=by
   rw[Zi7,Zg4,Xm,QW (by omega)];rfl
  have ef:EvV (Zov (fBl Zlm (Zc (Zq gIx (Zn0 0) (fC (.int 0))) Zo))) (E (.nd ts) z3 z4) (Zb4 (rowOf n T 0 ++ [T 0 0])):=by
   obtain⟨us',e1,d1⟩:=Zb (Z0 (Ztr (w0 (g:=.nd ts) (x:=z3) (y:=z4)) (by rw[OT.data_nd,d])) (Zr (d:=.int 0)) e0) (Zk (δ:=E (.nd ts) z3 z4))
   refine⟨.nd (((rowOf n T 0 ++ [T 0 0]).map frD).map OT.fz),?_,by rw[OT.data_nd,OT.map_fz];rfl⟩
   rw[Zt1,Zw0,e1,Xe,d1]
   show(some (OT.nd (((rowOf n T 0 ++ [T 0 0]).map frD).map OT.fz),_):Option (OT×Zi)).bind _=_
   rw[Xe,if_pos (by rw[Ziu];exact Zv9 _)]
  refine Zbj (δ':=E (.nd ts) z3 z4) (Zfq w0 ?_) ⟨_,Zm3 ef w0 (by omega),.inl ⟨of_decide_eq_true c,.nd (ts ++ [.fz (Zb4 (rowOf n T 0 ++ [T 0 0]))]),λi j=>T (if i<n then i else 0) (if j<n then j else 0),?_,by rw[hE];rfl⟩⟩
  ·rw[eG]
   have:(E (Y7 n (frG T)) z3 z4).set 0 (some (.fz (.list ((Xn n).map λi=>Zb4 (rowOf n T i)))))=E (.fz (.list ((Xn n).map λi=>Zb4 (rowOf n T i)))) z3 z4:=by rw[hE];rfl
   rw[this]
   exact(Zis eo).trans (by rw[hE];rfl)
  ·have row:∀i,Zb4 (rowOf n T i ++ [T i 0])= .list ((Xn (n+1)).map λj=>frD (T i (if j<n then j else 0))):=λi=>by
    unfold Zb4 rowOf
    rw[Uk,Qu,Qu,Qx]
    refine congrArg QT (congr (congrArg _ (Xz λj hj=>?_)) ?_)
    ·rw[if_pos (QH.mp hj)];rfl
    ·rw[VF,VF,if_neg (JP _)]
   rw[OT.data_nd,Qu,d,VF,OT.data_fz]
   have hR:∀f:Nat->Xa,(Xn (n+1)).map f=(Xn n).map f ++ [f n]:=λf=>by rw[Uk,Qu,VF]
   have col:∀i k,(if i<n then i else 0)=k->Zb4 (rowOf n T k ++ [T k 0])= .list ((Xn (n+1)).map λj=>frG (λi j=>T (if i<n then i else 0) (if j<n then j else 0)) i j):=λi k h=>by
    subst h
    rw[row];rfl
   unfold Wo
   rw[hR λi=>QT ((Xn (n+1)).map λj=>frG (λi j=>T (if i<n then i else 0) (if j<n then j else 0)) i j),←col n 0 (if_neg (JP _))]
   refine congrArg QT (congrArg (· ++ _) (Xz λi hi=>?_))
   exact col i i (if_pos (QH.mp hi))
 rcases q with⟨c,o,T',d,rfl⟩|⟨c,rfl⟩
 ·exact Zm6 (Y4 (Zsv (by have:=way (g:=o) (x:=z3) (y:=z4) 3;rwa[decide_eq_false (by omega)]at this)) rfl) ⟨o,_,by rw[hE];rfl,n+1,T',by omega,by omega,d⟩
 ·refine Znr (J:=λδ=>∃(o:OT) (m:Nat) (T':Nat->Nat->Rat),1≤m∧m≤6∧o.data=Wo m (frG T')∧δ=E o z3 z4) (Zqf (Zi4 (way 3) big) (λc=>?_) λ_=>⟨_,rfl,_,n,T,h1,by omega,Zai _ _,rfl⟩) λδ' q=>?_
  ·have n2:1<n:=by
    rw[Xo,decide_eq_true_eq,decide_eq_true_eq]at c
    omega
   have m1:∀{δ:Zi} {i:Nat},δ[i]? =some (some (.fz (.int n)))->EvV (Ze gSb (Zd i) (fC (.int 1))) δ (.int ((n-1:Nat):Int)):=λh=>(Zfi (Za h) (Zr (d:=.int 1))).cast (congrArg Xl (by omega))
   have ct:∀{α:Type} (f:Nat->α),Zjd ((Xn n).map f) none (some ((n-1:Nat):Int))=(Xn (n-1)).map f:=λf=>by
    unfold Zjd
    rw[Xg,Xw,show HT.sIx n 0 none=0 from rfl,show HT.sIx n n (some ((n-1:Nat):Int))=n-1 by unfold HT.sIx;simp;omega,List.drop_zero,Nat.sub_zero,←List.map_take,List.take_range,Nat.min_eq_left (by omega)]
   obtain⟨o,eo,d⟩:=Za2 (caps:=[2]) (it:=Zcl (fSl (Zd 0) oN (oI (Ze gSb (Zd 2) (fC (.int 1)))))) (me:=fSl (Zd 0) oN (oI (Ze gSb (Zd 1) (fC (.int 1))))) (δ:=E (.fz (.list ((Xn n).map λi=>Zb4 (rowOf n T i)))) z3 z4) (cs:=[some (.fz (.int n))]) (Xn (n-1)) (λi=>Zb4 (rowOf n T i)) (λi=>Zb4 (rowOf (n-1) T i)) (Jg ((Zlh (ds:=(Xn n).map λi=>Zb4 (rowOf n T i)) (Za w0) Zmg (Zjb (m1 w2))).cast (by
    have:=Zbo (λx:Xa=>x) ((Xn n).map λi=>Zb4 (rowOf n T i)) none (some ((n-1:Nat):Int))
    rw[List.map_id']at this
    rw[this,ct,List.map_id']))) (by rw[Xw];omega) (by rw[hE];rfl) λi _=>(Zlh (ds:=(rowOf n T i).map frD) (Za (i:=0) rfl) Zmg (Zjb (m1 (i:=1) rfl))).cast (by rw[Zbo];unfold rowOf;rw[ct];rfl)
   refine⟨E o z3 z4,Zfq w0 ?_,o,n-1,T,by omega,by omega,?_,rfl⟩
   ·rw[eG]
    have:(E (Y7 n (frG T)) z3 z4).set 0 (some (.fz (.list ((Xn n).map λi=>Zb4 (rowOf n T i)))))=E (.fz (.list ((Xn n).map λi=>Zb4 (rowOf n T i)))) z3 z4:=by rw[hE];rfl
    rw[this]
    exact(Zis eo).trans (by rw[hE];rfl)
   ·rw[d]
    unfold Wo
    exact congrArg QT (Xz λi _=>Zn4 (n-1) T i)
  ·obtain⟨o,m,T',m1,m6,d,rfl⟩:=q
   exact⟨o,_,by rw[hE];rfl,m,T',m1,m6,d⟩
theorem Z0y{n:Nat}(hn:n≤10)(f:Nat->Nat->Xa):Told Za8 [Wo n f] (Wo n f) :=
 Yb rfl<|Yz (Za2 (cs:=[]) (Xn n) (λi=>.list ((Xn n).map λj=>f i j)) (λi=>.list ((Xn n).map λj=>f i j)) (Jg (Za (i:=0) (d:=Wo n f) rfl)) (by rw[Xw];omega) rfl λx _=>Zra (Zb (Za rfl) Zk) (Zne _) (by rw[OT.data_nd,OT.map_fz]))
theorem Zpk{a b:Xa}(ha:Yq a=true)(hb:Yq b=true):Yq (.tuple [a,b])=true:=by
 rw[Yq,Zbw,ha,Zbw,hb,Zbw];rfl
theorem Z9m(p:List Int×Rat):Sh 2 (ctD p):=Zl4 λd m=>by
 rcases Xu.mp m with rfl|m
 ·exact Ze6 p.1
 ·rw[Qd.mp m];exact Zur p.2
theorem Zr4(L:List (List Int×Rat)):Sh 3 (Wy L):=Zdn λd m=>by
 obtain⟨p,_,rfl⟩:=Qi.mp m
 exact Z9m p
theorem Zpo(L:List (List Int×Rat)):Yq (Wy L)=true:=Zj2 λd m=>by
 obtain⟨p,_,rfl⟩:=Qi.mp m
 exact Zpk (Zed p.1) (Zfe _ _)
theorem Zzf(L:List (List Int×Rat)):Sh 4 (.tuple [.str "cuts",Wy L]):=Zl4 λd m=>by
 rcases Xu.mp m with rfl|m
 ·exact Sh.up (Zxj Zt7) (by decide)
 ·rw[Qd.mp m];exact Zr4 L
theorem Zrh(n:Nat)(T:Nat->Nat->Rat):Sh 3 (Wo n (frG T)):=Zdn λd m=>by
 obtain⟨i,_,rfl⟩:=Qi.mp m
 exact Zdn λd m=>by
  obtain⟨j,_,rfl⟩:=Qi.mp m
  exact Zur _
theorem Zwc(n:Nat)(T U:Nat->Nat->Rat):∃e:Bool,gEq (Wo n (frG T)) (Wo n (frG U))=some (.bool e):=by
 unfold gEq
 exact⟨_,if_pos (by rw[((Zrh n T).shp).ok,((Zrh n U).shp).ok];rfl)⟩
theorem Zvi(L:List (List Int×Rat)):gNe (Wy L) (.list [])=some (.bool (!decide (L=[]))):=by
 have s:Bc (Wy L)=true:=((Zr4 L).shp).ok
 unfold gNe
 rw[if_pos (by rw[s];rfl)]
 cases L with
 | nil=>rfl
 | cons q r=>rfl
theorem Zq3(L:List (List Rat)):gEq (.list (L.map Zb4)) (.list [])=some (.bool (decide (L=[]))):=by
 have s:Sh 3 (.list (L.map Zb4)):=Zdn λd m=>by
  obtain⟨x,_,rfl⟩:=Qi.mp m
  exact Z6t x
 have s':Bc (.list (L.map Zb4))=true:=(s.shp).ok
 unfold gEq
 rw[if_pos (by rw[s'];rfl)]
 cases L with
 | nil=>rfl
 | cons q r=>rfl
theorem Z0o{m:Nat}(m6:m≤6){B:Int}(B0:0<B)(bB:Bt 200 B){L:List (List Int×Rat)}(hL:Bd B L)(T:Nat->Nat->Rat):∃b:Bool,Told Zbv [Wo m (frG T),.tuple [.str "cuts",Wy L]] (.bool b)∧Told Wf [.int m,Wy L,Wo m (frG T)] (.bool b):=by
 obtain⟨e,he⟩:=Zwc m (Sm L) T
 obtain⟨b1,T1,h1⟩:=Zmr m6 B0 bB hL he
 obtain⟨b2,T2,h2⟩:=Zta m6 B0 bB hL he
 have:b1=b2:=Bool.eq_iff_iff.mpr (h1.trans h2.symm)
 exact⟨b1,Zpf T1,this▸T2⟩
theorem Yae{a b:FE}{δ:Zi}{s t:OT}(ha:a δ=some (s,δ))(hb:b δ=some (t,δ)):Zc a (Zc b Zo) δ=some ([s,t],δ):=by
 rw[Zk2,ha,Xe,Zk2,hb,Xe,Zyw,Xe,Xe]
theorem Z89{F:FM}{as:FA}{δ:Zi}{ts:List OT}{o:OT}(h:as δ=some (ts,δ))(hF:F ts= .ok o):Zpb F as δ=some (o,δ):=by
 unfold Zpb
 rw[h]
 show(match F ts with| .ok r=>some (r,δ)|_=>none)=_
 rw[hF]
theorem Z5s{F:FD}{as:FA}{δ:Zi}{ds:List Xa}{o:OT}(h:EvA as δ ds)(k:F ds= .ok o):Zw F as δ=some (o,δ):=by
 obtain⟨ts,e1,e2⟩:=h
 rw[Zkq,e1]
 show okO (F (OT.datas ts)) δ=_
 rw[e2,k];rfl
theorem Z6i{e:FE}{δ:Zi}{d:Xa}(h:EvV e δ d):Ya4 e δ=some (.fz d,δ):=by
 obtain⟨o,e1,d1⟩:=h
 show(e δ).bind _=_
 rw[e1,Xe,d1]
theorem Zpr{ns:List Int}(h:0<ns.length):Zts [Zm ns]=some (.int (Zuh ns)):=by
 show(Zb8 (ns.map Xl)).bind _=_
 rw[Jw,Xe,if_pos h]
theorem Z8w:Bt 54 KK:=btc (by decide +kernel) (by decide +kernel)
theorem Yaq{xs:List Int}(lx:xs.length=34):(Zjd xs (some 26) (some 32)).length=6∧(Zjd xs (some 26) (some 32)).getD 1 0=xs.getD 27 0:=by
 have e:Zjd xs (some 26) (some 32)=(xs.drop 26).take 6:=by unfold Zjd;rw[lx];rfl
 rw[e]
 refine⟨by rw[Bv,QL,lx];rfl,?_⟩
 rw[Xh,List.getElem?_take,if_pos (by decide),UJ,Xh]
theorem Zuo{n:Nat}(h1:1≤n)(hn:n≤10)(T:Nat->Nat->Rat){δ:Zi}(h7:δ[7]? =some (some (.fz (Wo n (frG T))))):∃b:Bool,EvT (tV (Ze gEq (Yk 1 [] (Zcl (Zd 7)) (gNm 0) (tV (Ze gLt (Zal Zts (Zc (Yk 1 [] (Zcl (Zd 0)) (gNm 0) Zen (Zq gIx (Zd 0) (fC (.int 0)))) Zo)) (fC (.int 0)))) (Zd 0)) (Zav Zo))) δ b:=by
 have er:Wo n (frG T)= .list ((Xn n).map λi=>Zb4 (rowOf n T i)):=by
  unfold Wo
  exact congrArg QT (Xz λi _=>(Zn4 n T i).symm)
 rw[er]at h7
 have lr:∀i,(rowOf n T i).length=n:=λi=>by unfold rowOf;rw[Xg,Xw]
 refine⟨decide ((((Xn n).filter λi=>decide (Zuh ((rowOf n T i).map λq=>q.num)<0)).map λi=>rowOf n T i)=[]),Zay (Zx (EvV.cast (Zhr (cs:=[]) (Xn n) (λi=>Zb4 (rowOf n T i)) (λi=>decide (Zuh ((rowOf n T i).map λq=>q.num)<0)) (Jg (Za h7)) (by rw[Xw];omega) rfl (λi _=>Zay (Zjg (Zbc (Zb (EvV.cast (Za2 (cs:=[]) (rowOf n T i) frD (λq=>.int q.num) (Jg (Za (i:=0) (d:=Zb4 (rowOf n T i)) rfl)) (by rw[lr];omega) rfl λq _=>Z0 (Za (i:=0) (d:=frD q) rfl) (Zr (d:=.int 0)) rfl) (y:=Zm ((rowOf n T i).map λq=>q.num)) (by unfold Zm;rw[Qx];rfl)) Zk) (Zpr (by rw[Xg,lr];omega))) Zr rfl)) λi _ _=>rfl) (y:=.list ((((Xn n).filter λi=>decide (Zuh ((rowOf n T i).map λq=>q.num)<0)).map λi=>rowOf n T i).map Zb4)) (by rw[Qx];rfl)) (Jp Zk (show 0≤1000 by decide)) (Zq3 _))⟩
theorem Zvn(ns:List Int)(hl:ns.length≤63):Zgi [.list (ns.map Xl)]= .ok (.fz (.bool true)):=by
 show Zgi [Zm ns]=_
 obtain⟨m,em,hm⟩:∃m:Nat,Z2s [.int 1,.int (if(10:Int)<(ns.length:Int)then 10 else(ns.length:Int))]=some (.int (m:Int))∧m≤1000:=by
  refine⟨max 1 (min ns.length 10),?_,by omega⟩
  rw[Z10]
  exact congrArg (λz=>some (Xl z)) (by split<;>split<;>omega)
 refine Told.ok (Yb rfl ?_)
 refine Zlz (ds:=Zje 0 m) (λ_ δ=>∃z1 z2 z3 z4 z5 z6 z7 z8 z9 z10:Option OT,δ=[some (.fz (Zm ns)),z1,z2,z3,z4,z5,z6,z7,z8,z9,z10]) (Zhe (Zb (Zbc (Zb Zr (Zb (Zbc (Zb (We (Za (i:=0) rfl)) (Zb Zr Zk)) (Zxn _ _)) Zk)) em) Zk) (by omega)) ⟨_,_,_,_,_,_,_,_,_,_,rfl⟩ (λk d δ hd q=>?_) λδ' q=>?_
 ·obtain⟨z1,z2,z3,z4,z5,z6,z7,z8,z9,z10,rfl⟩:=q
  obtain⟨hk,rfl⟩:=Zbn hd
  obtain⟨c,ec⟩:=Zpw ns (k:=0+(k:Int)) (by omega)
  obtain⟨xs,Tx,lx,hx⟩:=Znd c 34 (by decide)
  have gAt:∀{j:Nat},j<34->gIx (Zm xs) (.int (j:Int))=some (.fz (.int (xs.getD j 0))):=fun{j} hj=>by rw[Zbi (by omega) (by omega),Qj]
  have xAt:∀{δ:Zi} (j:Nat),j<34->δ[2]? =some (some (.fz (Zm xs)))->EvV (Zq gIx (Zd 2) (fC (.int (j:Int)))) δ (.int (xs.getD j 0)):=fun{δ} j hj h=>Z0 (Za h) (Zr (d:=.int (j:Int))) (gAt hj)
  suffices g:Goes _ [some (.fz (Zm ns)),some (.fz (.int (0+(k:Int)))),z2,z3,z4,z5,z6,z7,z8,z9,z10] (λδ=>∃z1 z2 z3 z4 z5 z6 z7 z8 z9 z10:Option OT,δ=[some (.fz (Zm ns)),z1,z2,z3,z4,z5,z6,z7,z8,z9,z10]) by
   obtain⟨δ2,g1,g2⟩:=g
   exact⟨_,δ2,rfl,.inl g1,g2⟩
  obtain⟨a,ea,la⟩:=Yu (xs.getD 20 0) (n:=5) (by decide)
  have ea:(xs.getD 20 0).fmod 5=(a:Int):=ea
  obtain⟨n,hn⟩:∃n,n=1+a:=⟨_,rfl⟩
  have h1:1≤n:=by omega
  have h5:n≤5:=by omega
  obtain⟨L,TL,lL,hL⟩:=Zmi h1 h5 lx hx
  obtain⟨BL,BL0,bBL',hBL⟩:=Zj5 (n:=8) (L.map λp=>p.2) λq m=>by
   obtain⟨p,hp,rfl⟩:=Qi.mp m
   exact(hL p hp).2.2.2.1
  have bBL:Bt 129 BL:=bBL'.mono (by rw[Xg];omega)
  have dv:∀p∈L,(p.2.den:Int)∣BL:=λp hp=>hBL p.2 (Qi.mpr ⟨p,hp,rfl⟩)
  have B0:0<BL*KK:=Int.mul_pos BL0 (by decide)
  have bB:Bt 200 (BL*KK):=(bBL.mul Z8w).mono (by decide)
  obtain⟨T0,e0,hT0,_⟩:=Zii (n:=n) (by omega) B0 bB (L:=L) (by omega) λp hp=>⟨λx hx=>by have:=(hL p hp).1 x hx;omega,by have:=(hL p hp).2.1;omega,Z7k (hL p hp).2.2.2 (dv p hp)⟩
  obtain⟨us,eu,lu,hu⟩:=Z14 (δ:=[some (.fz (Zm ns)),some (.fz (.int (0+(k:Int)))),some (.fz (Zm xs)),some (.fz (.int n)),some (.fz (Wy L)),z5,z6,z7,z8,z9,z10]) (a:=22) (b:=26) (Za (i:=2) rfl) (Zjb (Zr (d:=.int ((22:Nat):Int)))) (Zjb (Zr (d:=.int ((26:Nat):Int)))) (by decide) (by omega) hx
  obtain⟨o,eo,mm,T1,m1,m6,do'⟩:=Zwp h1 h5 hT0 (us:=us) (by omega)
  refine Zbj (Zy (Zu (Zb (Zu (Zb (Za (i:=0) rfl) (Zb (Za (i:=1) rfl) Zk)) (.of ec (OT.data_fz _))) (Zb Zr Zk)) Tx))<|Zbj (Zy (d:=.int (n:Int)) (EvV.cast (Wj Zr (Z9 (xAt 20 (by decide) rfl) Zr (by decide))) (congrArg Xl (by rw[ea];omega))))<|Zbj (Zy (Zu (Zb (Za (i:=3) rfl) (Zb (Za (i:=2) rfl) Zk)) TL))<|Zbj (Zy (d:=Wo mm (frG T1)) ⟨o,Z89 (Yae (Z5s (Zb (Za (i:=3) rfl) (Zb (Za (i:=4) rfl) Zk)) e0) (Z6i eu)) eo,do'⟩)<|Zbj (Zy (d:=Wy L) (Zra (Zb (Za (i:=4) (d:=Wy L) rfl) Zk) (Zne _) (by rw[OT.data_nd,OT.map_fz];rfl)))<|Z0x (J:=λδ=>∃(mm:Nat) (T1:Nat->Nat->Rat) (L1:List (List Int×Rat)) (z7:Option OT),1≤mm∧mm≤6∧Bd (BL*KK) L1∧δ=[some (.fz (Zm ns)),some (.fz (.int (0+(k:Int)))),some (.fz (Zm xs)),some (.fz (.int n)),some (.fz (Wy L)),some (.fz (Wo mm (frG T1))),some (.fz (Wy L1)),z7,z8,z9,z10]) (Zqf (Zi4 (Zay (Zx (Za (i:=4) (d:=Wy L) rfl) (Jp Zk (show 0≤1000 by decide)) (Zvi L))) (Zay (Zlu (Z9 (xAt 21 (by decide) rfl) Zr (by decide)) Zr rfl))) (λc=>?_) λ_=>⟨_,rfl,mm,T1,L,_,m1,m6,⟨by omega,λp hp=>⟨by have:=(hL p hp).2.1;omega,Z7k (hL p hp).2.2.2 (dv p hp)⟩⟩,rfl⟩) λδ' q=>?_
  ·have ne:L≠[]:=λz=>by rw[z]at c;cases c
   obtain⟨l6,g27⟩:=Yaq lx
   obtain⟨L1,T2,l1,b1,p1⟩:=Zpt h1 h5 ne lL (λp hp=>⟨hL p hp,dv p hp⟩) l6
   rw[g27]at p1
   refine Zbj (Zy (Zu (Zb (Za (i:=4) rfl) (Zb (Za (i:=3) rfl) (Zb ((Zlh (ds:=xs.map Xl) (Za (i:=2) rfl) (Zjb (Zr (d:=.int 26))) (Zjb (Zr (d:=.int 32)))).cast (by rw[Zbo];rfl)) Zk))) T2)) (Zqf (Zi4 (Zay (Zjg (Z9 (xAt 27 (by decide) rfl) (Zr (d:=.int 12)) (by decide)) (Zr (d:=.int 4)) rfl)) (Zay (Zlu (Z9 (xAt 32 (by decide) rfl) (Zr (d:=.int 4)) (by decide)) (Zr (d:=.int 0)) rfl))) (λc2=>?_) λ_=>⟨_,rfl,mm,T1,L1,_,m1,m6,⟨l1,b1⟩,rfl⟩)
   rw[Xo,decide_eq_true_eq]at c2
   obtain⟨T3,e3,_,_⟩:=Zii (n:=n) (by omega) B0 bB (L:=L1) l1 λp hp=>⟨λx hx=>by have:=p1 c2.1 p hp x hx;omega,b1 p hp⟩
   have s7:wE (Zw Yh (Zc (Zd 3) (Zc (Zd 6) Zo))) (Wb 7) [some (.fz (Zm ns)),some (.fz (.int (0+(k:Int)))),some (.fz (Zm xs)),some (.fz (.int n)),some (.fz (Wy L)),some (.fz (Wo mm (frG T1))),some (.fz (Wy L1)),z7,z8,z9,z10]= .nx [some (.fz (Zm ns)),some (.fz (.int (0+(k:Int)))),some (.fz (Zm xs)),some (.fz (.int n)),some (.fz (Wy L)),some (.fz (Wo mm (frG T1))),some (.fz (Wy L1)),some (.fz (Wo n (frG T3))),z8,z9,z10]:=Zy (Zu (Zb (Za (i:=3) rfl) (Zb (Za (i:=6) rfl) Zk)) (.of e3 (Zai _ _)))
   obtain⟨b,eb⟩:=Zuo h1 (by omega) T3 (δ:=[some (.fz (Zm ns)),some (.fz (.int (0+(k:Int)))),some (.fz (Zm xs)),some (.fz (.int n)),some (.fz (Wy L)),some (.fz (Wo mm (frG T1))),some (.fz (Wy L1)),some (.fz (Wo n (frG T3))),z8,z9,z10]) rfl
   exact Zbj s7 (Zqf eb (λ_=>⟨_,Zy (Za (i:=7) rfl),n,T3,L1,_,h1,by omega,⟨l1,b1⟩,rfl⟩) λ_=>⟨_,rfl,mm,T1,L1,_,m1,m6,⟨l1,b1⟩,rfl⟩)
  obtain⟨mm,T1,L1,z7,m1,m6,hB,rfl⟩:=q
  obtain⟨b,Tb1,Tb2⟩:=Z0o m6 B0 bB hB T1
  have two:(2:Nat)≤1000:=by decide
  refine Zbj (Zy (d:=.tuple [.str "cuts",Wy L1]) (Zua (Zb (Zr (d:=.str "cuts")) (Zb (Zws L1 ctD ctD (Jg (Za (i:=6) rfl)) (by have:=hB.1;omega) λp _ z0 z1=>⟨_,_,rfl,Zaa (Zb (Zra (Zb (Za (i:=0) (d:=Zm p.1) rfl) Zk) (Zne _) (by rw[OT.data_nd,OT.map_fz];rfl)) (Zb (Za (i:=1) (d:=frD p.2) rfl) Zk)) two⟩) Zk)) two))<|Zbj (Zy (Zu (Zb (Zu (Zb (Za (i:=5) rfl) Zk) (Z0y (n:=mm) (by omega) (frG T1))) (Zb (Za (i:=8) rfl) Zk)) Tb1))<|Zbj (Zy (Zu (Zb ((Zfx (ds:=(Xn mm).map λi=>.list ((Xn mm).map λj=>frG T1 i j)) (Za (i:=5) rfl)).cast (by rw[Xg,Xw])) (Zb (Za (i:=6) rfl) (Zb (Za (i:=5) rfl) Zk))) Tb2)) ⟨_,Y4 (Zll (Zb1 (p:=true) (Zbd (Za4 (Za (i:=9) (d:=.bool b) rfl) rfl))) (Zll (Zay (Zx (Za (i:=9) rfl) (Za (i:=10) rfl) ((Z16 b b).trans (by cases b<;>rfl)))) (Zay (Zx (Za (i:=8) rfl) (Zaa (Zb (Zr (d:=.str "cuts")) (Zb (Za (i:=6) rfl) Zk)) two) (Zvd (Zzf L1) (Zpk (Zm5 _) (Zpo L1)) (by decide)))))) rfl,_,_,_,_,_,_,_,_,_,_,rfl⟩
 ·exact Yz Zr
end My
namespace L2
open PySem PySem.Spec PyProof.Rows
structure Ei(K:Xb)(x:Str)(st:Stmt)(f:Addr)(fd:Xx):Prop where
 a:Q6 K Qh x=some (some (.ref f))
 F:Fun K x x st f fd
structure En(K:Xb)(mg:Str->Option Xc)(x:Str)(st:Stmt)(ps:List Str)(f:Addr)(fd:Xx):Prop where
 F:Fun K x x st f fd
 b:Binds K fd ps []
 m:mg x=some (.ref f)
structure Ec(K:Xb)(mg:Str->Option Xc)(x:Str)(f:Addr):Prop where
 m:mg x=some (.ref f)
 a:ClsAt K x f
section
variable {K:Xb}{h:Heap}{mg:Str->Option Xc}{x:Str}{st:Stmt}{f:Addr}{fd:Xx}
theorem en0(X:K.In h)(G:h.Ns Qh mg)(q:Ei K x st f fd){ps:List Str}(hb:∀(kV doc pm:Xc) (an:Option Addr) (cdv ct:Xc) (us:List Xc),us.length=ps.length->bindArgs (Vn x x (Zgh st) (Zbb st) (Zn st) .none kV doc pm an cdv ct) ⟨us,[]⟩=pure (ps.zip us)):En K mg x st ps f fd:=⟨q.F,q.F.binds hb,PySem.W.mg_of X G q.a⟩
noncomputable abbrev Bd(x:Str)(st:Stmt)(ps:List Str)(us:List Xc):Prop:=∀(kV doc pm:Xc) (an:Option Addr) (cdv ct:Xc),bindArgs (Vn x x (Zgh st) (Zbb st) (Zn st) .none kV doc pm an cdv ct) ⟨us,[]⟩=pure (ps.zip us)
theorem l_c{us:List Xc}{n:Nat}(h:us.length=n+1):∃u vs,us=u :: vs∧vs.length=n:=by
 cases us with
 | nil=>cases h
 | cons u vs=>exact⟨u,vs,rfl,Nat.succ.inj h⟩
theorem en1(X:K.In h)(G:h.Ns Qh mg)(q:Ei K x st f fd){p0:Str}(hb:∀v0,Bd x st [p0] [v0]:=by exact λ_ _ _ _ _ _ _=>rfl):En K mg x st [p0] f fd:=en0 X G q λa b c d e g us hl=>by
 have h0:us.length=1:=hl
 obtain⟨u0,us0,e0,h1⟩:=l_c h0
 cases Uh h1
 subst e0
 exact hb u0 a b c d e g
theorem en2(X:K.In h)(G:h.Ns Qh mg)(q:Ei K x st f fd){p0 p1:Str}(hb:∀v0 v1,Bd x st [p0,p1] [v0,v1]:=by exact λ_ _ _ _ _ _ _ _=>rfl):En K mg x st [p0,p1] f fd:=en0 X G q λa b c d e g us hl=>by
 have h0:us.length=2:=hl
 obtain⟨u0,us0,e0,h1⟩:=l_c h0
 obtain⟨u1,us1,e1,h2⟩:=l_c h1
 cases Uh h2
 subst e1
 subst e0
 exact hb u0 u1 a b c d e g
theorem en3(X:K.In h)(G:h.Ns Qh mg)(q:Ei K x st f fd){p0 p1 p2:Str}(hb:∀v0 v1 v2,Bd x st [p0,p1,p2] [v0,v1,v2]:=by exact λ_ _ _ _ _ _ _ _ _=>rfl):En K mg x st [p0,p1,p2] f fd:=en0 X G q λa b c d e g us hl=>by
 have h0:us.length=3:=hl
 obtain⟨u0,us0,e0,h1⟩:=l_c h0
 obtain⟨u1,us1,e1,h2⟩:=l_c h1
 obtain⟨u2,us2,e2,h3⟩:=l_c h2
 cases Uh h3
 subst e2
 subst e1
 subst e0
 exact hb u0 u1 u2 a b c d e g
theorem ec(X:K.In h)(G:h.Ns Qh mg)(a:Q6 K Qh x=some (some (.ref f))):Ec K mg x f:=⟨PySem.W.mg_of X G a,a⟩
end
theorem fsc{N P:List Str}{sc:Uj}(h1:sc.kind= .function:=by rfl)(h2:sc.isCoroutine=false:=by rfl)(h3:sc.isGenerator=false:=by rfl)(h4:N.Nodup:=by decide +kernel)(h5:N.take P.length=P:=by rfl)(h6:∀x∈P,sc.names.lookup x=some .local∨sc.names.lookup x=some .cell:=by decide +kernel)(h7:∀y∈sc.names,y.2≠ .free:=by decide +kernel):Zv N P sc:=⟨h1,h2,h3,h4,h5,h6,h7⟩
section
variable {X:Cx}{io:List Nat}{st:Stmt}{sts ss ss':List Stmt}{f g:FS}{e:Expr}{es:List Expr}{p c:Bool}{ta:FT}{pos:Pos}{ra:FA}
noncomputable abbrev BS(X:Cx)(io:List Nat)(st:Stmt)(f:FS):Prop:=MS X io st (oS f)∧XS X io st (xS X.K f)
noncomputable abbrev BSs(X:Cx)(io:List Nat)(sts:List Stmt)(f:FS):Prop:=MSs X io sts (oS f)∧XSs X io sts (xS X.K f)
end
section
variable {X:Cx}{io:List Nat}{e:Expr}{es:List Expr}{p c:Bool}{ra:FA}{pos pp:Pos}{k k':Nat}{f:Addr}{fd:Xx}{ps:List Str}{x:Str}{F:FD}{st:Stmt}
theorem xce(G:FnOk X.prog X.w X.K X.mg X.base CX0 k f fd ps (spD X.K (sD F)))(hr:Room k' X.A)(E:En X.K X.mg x st ps f fd)(ha:MA X io p c (e :: es) (o2 ra))(hle:k≤k':=by decide)(hg:Gl X x:=by rfl)(h1:(x==("__debug__" : Str))=false:=by decide)(h2:Xq (e :: es) X.env=(false,eval e X.env) :: Xq es X.env:=by rfl)(h3:((BV pos (Xq es X.env)).any λx=>x.fst)=false:=by rfl):ME X io p c (.Call (.Name x pp) (e :: es) [] pos) (o2 (Zw F ra)):=xcl G (hr.mono hle) E.m E.F.kp E.b ha hg h1 h2 h3
end
section
variable {X:Cx}{io:List Nat}{p ci pt pe:Bool}{tg iter elt:Expr}{ifs:List Expr}{sc:Uj}{pos:Pos}{mi:MIt}{g:MGt}{mt:MTt}{me:MEt}
theorem Zcc(own:List Str)(caps:List Nat)(N':List Str)(hi:MI X io p ci tg iter mi)
  (hg:∀C cells s₂ H₂ fp,MG (Wq X N' sc C cells s₂ H₂ fp) (Zch own.length caps) ci tg g) (ht:∀C cells s₂ H₂ fp,MIfs (Wq X N' sc C cells s₂ H₂ fp) (Zch own.length caps) pt ifs mt) (he:∀C cells s₂ H₂ fp,ME (Wq X N' sc C cells s₂ H₂ fp) (Zch own.length caps) pe true elt me)
  (S:CompScope X own caps N' sc:=by exact⟨rfl,by decide +kernel,rfl,by decide +kernel,rfl,rfl⟩) (hc:X.calm=true:=by rfl) (nd:caps.Nodup:=by decide) (hp:(pt&&pe)=true:=by rfl) (hs:∀x,Bp iter X.env x=pure x:=by intro _;rfl):ME X io p true (.ListComp elt [⟨tg,iter,ifs,0⟩] sc pos) (Zil own.length caps mi g mt me):=Z3j S hc nd hi hg ht he hp hs
end
end L2
namespace My
open PySem L2 PySem.Spec
noncomputable def top(i:Nat):Stmt:=PySem.Challenge.pw_farcuts_k36_cuts_looked_at.main.body.getD i (.Pass ⟨0,0,0,0⟩)
noncomputable abbrev Zc3:Stmt:=top 33
noncomputable abbrev Zf0:Stmt:=top 45
noncomputable abbrev Zgb:Stmt:=top 37
noncomputable abbrev Zhz:Stmt:=top 35
noncomputable abbrev Zgj:Stmt:=top 36
noncomputable abbrev Zc0:Stmt:=top 46
noncomputable abbrev Zgl:Stmt:=top 44
noncomputable abbrev Zcq:Stmt:=top 34
noncomputable abbrev Zad:Stmt:=top 47
noncomputable abbrev Zd2:Stmt:=top 42
noncomputable abbrev Zag:Stmt:=top 41
noncomputable abbrev Ze5:Stmt:=top 38
noncomputable abbrev Zd5:Stmt:=top 43
noncomputable abbrev Zd7:Stmt:=top 39
noncomputable abbrev Zb3:Stmt:=top 40
noncomputable abbrev Zf4:Stmt:=top 19
noncomputable abbrev Zgk:Stmt:=top 10
noncomputable abbrev Zdw:Stmt:=top 28
noncomputable abbrev Zf8:Stmt:=top 22
noncomputable abbrev Zc5:Stmt:=top 29
noncomputable abbrev Zby:Stmt:=top 12
noncomputable abbrev Jx:Stmt:=top 5
noncomputable abbrev Zf3:Stmt:=top 4
noncomputable abbrev Zcr:Stmt:=top 6
noncomputable abbrev Zd6:Stmt:=top 27
noncomputable abbrev Za0:Stmt:=top 14
noncomputable abbrev Ze1:Stmt:=top 15
noncomputable abbrev Zdp:Stmt:=top 30
noncomputable abbrev Zey:Stmt:=top 17
noncomputable abbrev Zkl:Stmt:=top 18
noncomputable abbrev Zac:Stmt:=top 20
noncomputable abbrev Zct:Stmt:=top 21
noncomputable abbrev Ze3:Stmt:=top 23
noncomputable abbrev Zgp:Stmt:=top 7
noncomputable abbrev Zgs:Stmt:=top 8
noncomputable abbrev Zao:Stmt:=top 11
noncomputable abbrev Zgx:Stmt:=top 24
noncomputable abbrev Zew:Stmt:=top 26
noncomputable abbrev Zoa:Stmt:=top 31
noncomputable abbrev Zzu:Stmt:=top 48
set_option genInjectivity false in
set_option genSizeOfSpec false in
structure Txt(K:Xb)(mg:Str->Option Xc)(f:Nat->Addr)(fd:Nat->Xx)(cls:Nat->Addr):Prop where
 e_law_cell_at:En K mg "_law_cell_at" Zc3 ["script","k"] (f 0) (fd 0)
 e_law_bent:En K mg "_law_bent" Zf0 ["cut","n","xs"] (f 1) (fd 1)
 e_law_cuts:En K mg "_law_cuts" Zgb ["n"] (f 2) (fd 2)
 e_law_low:En K mg "_law_low" Zhz ["top","bottom"] (f 3) (fd 3)
 e_law_plus:En K mg "_law_plus" Zgj ["q","r"] (f 4) (fd 4)
 e_law_changed:En K mg "_law_changed" Zc0 ["cuts","n","xs"] (f 5) (fd 5)
 e_law_copy:En K mg "_law_copy" Zgl ["table"] (f 6) (fd 6)
 e_law_numbers:En K mg "_law_numbers" Zcq ["cell","many"] (f 7) (fd 7)
 e_law_other_table:En K mg "_law_other_table" Zad ["table","xs"] (f 8) (fd 8)
 e_law_is_cut:En K mg "_law_is_cut" Zd2 ["n","cut"] (f 9) (fd 9)
 e_law_is_fraction:En K mg "_law_is_fraction" Zag ["found"] (f 10) (fd 10)
 e_law_table:En K mg "_law_table" Ze5 ["n","cuts"] (f 11) (fd 11)
 e_law_sum_of:En K mg "_law_sum_of" Zd5 ["n","cuts","table"] (f 12) (fd 12)
 e_law_weight:En K mg "_law_weight" Zd7 ["number","kind"] (f 13) (fd 13)
 e_law_weighted:En K mg "_law_weighted" Zb3 ["n","xs"] (f 14) (fd 14)
 e_all_cuts:En K mg "all_cuts" Zf4 ["n"] (f 15) (fd 15)
 e_pairs_of:En K mg "pairs_of" Zgk ["n"] (f 16) (fd 16)
 e_parted_sum:En K mg "parted_sum" Zdw ["pairs","tops","sides"] (f 17) (fd 17)
 e_sides_of:En K mg "sides_of" Zf8 ["n","cut"] (f 18) (fd 18)
 e_bars_no_cut:En K mg "bars_no_cut" Zc5 ["n","tops"] (f 19) (fd 19)
 e_distances_of:En K mg "distances_of" Zby ["table"] (f 20) (fd 20)
 e_greatest_divisor:En K mg "greatest_divisor" Jx ["a","b"] (f 21) (fd 21)
 e_is_whole:En K mg "is_whole" Zf3 ["thing"] (f 22) (fd 22)
 e_is_fraction:En K mg "is_fraction" Zcr ["thing"] (f 23) (fd 23)
 e_is_row_for:En K mg "is_row_for" Zd6 ["n","thing"] (f 24) (fd 24)
 e_shared_bottom:En K mg "shared_bottom" Za0 ["numbers"] (f 25) (fd 25)
 e_tops_over:En K mg "tops_over" Ze1 ["bottom","numbers"] (f 26) (fd 26)
 e_shows_bars:En K mg "shows_bars" Zdp ["table","numbers"] (f 27) (fd 27)
 e_is_rising:En K mg "is_rising" Zey ["things"] (f 28) (fd 28)
 e_is_cut:En K mg "is_cut" Zkl ["n","thing"] (f 29) (fd 29)
 e_is_weighted_cut:En K mg "is_weighted_cut" Zac ["n","thing"] (f 30) (fd 30)
 e_is_weighted:En K mg "is_weighted" Zct ["n","thing"] (f 31) (fd 31)
 e_all_sides:En K mg "all_sides" Ze3 ["n","cuts"] (f 32) (fd 32)
 e_in_least:En K mg "in_least" Zgp ["top","bottom"] (f 33) (fd 33)
 e_fraction:En K mg "fraction" Zgs ["top","bottom"] (f 34) (fd 34)
 e_table_of_pairs:En K mg "table_of_pairs" Zao ["n","distances"] (f 35) (fd 35)
 e_table_of:En K mg "table_of" Zgx ["n","cuts"] (f 36) (fd 36)
 e_shows_sum:En K mg "shows_sum" Zew ["table","cuts"] (f 37) (fd 37)
 e_shows:En K mg "shows" Zoa ["table","answer"] (f 38) (fd 38)
 e_law:En K mg "law" Zzu ["script"] (f 39) (fd 39)
 z_abs:mg "abs"=none
 z_bool:mg "bool"=none
 z_int:mg "int"=none
 z_isinstance:mg "isinstance"=none
 z_len:mg "len"=none
 z_list:mg "list"=none
 z_max:mg "max"=none
 z_min:mg "min"=none
 z_range:mg "range"=none
 z_sorted:mg "sorted"=none
 z_sum:mg "sum"=none
 z_tuple:mg "tuple"=none
 z_zip:mg "zip"=none
 c_NoNumber:Ec K mg "NoNumber" (cls 0)
 x_NoNumber:Zik K (cls 0)
 r_NoNumber:Z2n K (cls 0)
section
variable {P:XH}{w:Qo}{K:Xb}{mg:Str->Option Xc}{base:Heap}
theorem Zjo:Zv ["script","k"] ["script","k"] (Zn Zc3):=fsc
theorem Zjq{f:Nat->Addr}{fd:Nat->Xx}{cls:Nat->Addr}(T:Txt K mg f fd cls):FnOk P w K mg base CX0 1 (f 0) (fd 0) ["script","k"] (spD K (sD J2)):=by
 refine Yd T.e_law_cell_at.F Zjo (S:=Zbm) rfl rfl (λcdv A outer s H E hr=>?_)
 exact(xsq (xif (xlt (xv 1) (xln T.z_len (xa1 (xv 0)))) (Zh (xrt (xix (xv 0) (xv 1)))) xnl) (Zh (xrt xci)))
theorem Za5:Zv ["cut","n","xs","way","at","to"] ["cut","n","xs"] (Zn Zf0):=fsc
theorem Znm{f:Nat->Addr}{fd:Nat->Xx}{cls:Nat->Addr}(T:Txt K mg f fd cls):FnOk P w K mg base CX0 1 (f 1) (fd 1) ["cut","n","xs"] (spD K (sD J1)):=by
 refine Yd T.e_law_bent.F Za5 (S:=Zd0) rfl rfl (λcdv A outer s H E hr=>?_)
 have hu:=hr.units
 exact(xsq (xst 3 Za5.nd (Zbe (xix (xv 2) xci) xci)) (xsq (xst 4 Za5.nd (Zbe (xix (xv 2) xci) (xln T.z_len (xa1 (xv 0))))) (xsq (xst 5 Za5.nd (Zbe (xix (xv 2) xci) (Zex (xln T.z_len (xa1 (xv 0))) xci))) (xsq (xif (xeq hu (xv 3) xci) (Zh (xrt (Wg (Zcc ["point"] [0] ["point","cut"] (Zhg (Wu (by rfl) T.z_range (xa1 (xv 1)))) (λ_ _ _ _ _=>(xg 0 (by show Qs (["point","cut"]:List Str);decide +kernel))) (λ_ _ _ _ _=>(Zdx (Zdb Z0s (Zda (Zl3 rfl) Zz6 (xv 0) (xv 1) (hm:=(by with_unfolding_all rfl)))))) (λ_ _ _ _ _=>(xv 0)))))) xnl) (xsq (xif (xeq hu (xv 3) xci) (Zh (xrt (Ji (Yt Jm (Zeq (Z8 rfl) Yw (Ji (Yt Jm (Zeq (Z8 rfl) Yw (Jf (Jh (xv 0) (Z7 Z5) (Z1 (Z2 (xv 4))))) (xls (xa1 (xix (xv 0) (xv 4))))))) (Jf (Jh (xv 0) (Z1 (Z2 (xv 4))) (Z7 Z5)))))))) xnl) (xsq (xif (xeq hu (xv 3) xci) (Zh (xrt (Ji (Yt Jm (Zeq (Z8 rfl) Yw (Z0g (Z2c (xv 0) (Z7 Z5) (Z7 Z5) (Z1 (Z2 (Zg2 (Zmw xci)))))) (Zxw (Z5b (xix (xv 0) xci) (Zdc Yaj (Z74 Z6z Zqw (by rfl) T.z_int L2.B.boot_int (xa1 (W0 Zyd (Zhh (Zie hu) Zna (xln T.z_len (xa1 (xv 0))) xci (hm:=(Jr _)))))))))))))) xnl) (xsq (xif (xeq hu (xv 3) xci) (Zh (xrt (Ji (Yt Jm (Zeq (Z8 rfl) Yw (Ji (Yt Jm (Zeq (Z8 rfl) Yw (Jf (Jh (xv 0) (Z7 Z5) (Z1 (Z2 (xv 5))))) (xls (xa1 (Zex (xv 1) (Zbe (xix (xv 2) xci) xci))))))) (Jf (Jh (xv 0) (Z1 (Z2 (xv 5))) (Z7 Z5)))))))) xnl) (xsq (xif (xeq hu (xv 3) xci) (Zh (xrt (Ji (Yt Jm (Zeq (Z8 rfl) Yw (Ji (Yt Jm (Zeq (Z8 rfl) Yw (Jf (Jh (xv 0) (Z7 Z5) (Z1 (Z2 (xv 5))))) (xls (xa1 (xix (xls (Zg xci (xa1 (Zp9 (Zg2 (Zmw xci)) (Zbe (xix (xv 2) xci) xci))))) (Zbe (Zqq (xix (xv 2) xci) xci) xci))))))) (Jf (Jh (xv 0) (Z1 (Z2 (xv 5))) (Z7 Z5)))))))) xnl) (xsq (xif (xeq hu (xv 3) xci) (Zh (xrt (Ji (Yt Jm (Zeq (Z8 rfl) Yw (Ji (Yt Jm (Zeq (Z8 rfl) Yw (Jf (Jh (xv 0) (Z7 Z5) (Z1 (Z2 (xv 4))))) (xls (xa1 (xix (xls (Zg xci (Zg (xv 1) (Zg (Zg2 (Zmw xci)) (xa1 xci))))) (Zbe (xix (xv 2) xci) xci))))))) (Jf (Jh (xv 0) (Z1 (Z2 (Zex (xv 4) xci))) (Z7 Z5)))))))) xnl) (xsq (xif (MW.mt (Zi6 (Zia (xlt (xv 3) xci) (Zet (xgt (xln T.z_len (xa1 (xv 0))) xci))))) (xsq (xst 4 Za5.nd (Zex xci (Zbe (xix (xv 2) xci) (Zp9 (xln T.z_len (xa1 (xv 0))) xci)))) (Zh (xrt (Ji (Yt Jm (Zeq (Z8 rfl) Yw (Ji (Yt Jm (Zeq (Z8 rfl) Yw (Jf (Jh (xv 0) (Z7 Z5) (Z1 (Z2 (Zp9 (xv 4) xci))))) (xls (Zg (xix (xv 0) (xv 4)) (xa1 (xix (xv 0) (Zp9 (xv 4) xci)))))))) (Jf (Jh (xv 0) (Z1 (Z2 (Zex (xv 4) xci))) (Z7 Z5))))))))) xnl) (Zh (xrt (xls xa0)))))))))))))
theorem Zcy:Zv ["n","found","point"] ["n"] (Zn Zgb):=fsc
theorem Ziz{f:Nat->Addr}{fd:Nat->Xx}{cls:Nat->Addr}(T:Txt K mg f fd cls):FnOk P w K mg base CX0 1 (f 2) (fd 2) ["n"] (spD K (sD Wh)):=by
 refine Yd T.e_law_cuts.F Zcy (S:=Zd1) rfl rfl (λcdv A outer s H E hr=>?_)
 have hu:=hr.units
 exact(xsq (xst 1 Zcy.nd (xls (xa1 (xls xa0)))) (xsq (xfr X8 rfl (Z92 (Zq6 (by rfl) T.z_range (Zg (Zp9 (xv 0) xci) (Zg xci (xa1 (Zg2 (Zmw xci))))))) (xg 2 Zcy.nd) (Zh (xst 1 Zcy.nd (Ji (Yt Jm (Zeq (Z8 rfl) Yw (Wg (Zcc ["cut"] [2] ["cut","point"] (xil (xv 1)) (λ_ _ _ _ _=>(xg 0 (by show Qs (["cut","point"]:List Str);decide +kernel))) (λ_ _ _ _ _=>(Wx Wz)) (λ_ _ _ _ _=>(Ji (Yt Jm (Zeq (Z8 rfl) Yw (xls (xa1 (xv 1))) (xv 0))))))) (xv 1))))))) (Zh (xrt (Zm0 Zle (Z66 Zho (Zee Zxi rfl hu) (by rfl) T.z_sorted L2.B.boot_sorted (xa1 (Wg (Zcc ["cut"] [] ["cut"] (xil (xv 1)) (λ_ _ _ _ _=>(xg 0 (by show Qs (["cut"]:List Str);decide +kernel))) (λ_ _ _ _ _=>(Zdx (xne hu (xv 0) (xls xa0)))) (λ_ _ _ _ _=>(xv 0)))))))))))
theorem Zax:Zv ["top","bottom","one","other","rest"] ["top","bottom"] (Zn Zhz):=fsc
theorem Zeb{f:Nat->Addr}{fd:Nat->Xx}{cls:Nat->Addr}(T:Txt K mg f fd cls):FnOk P w K mg base CX0 1 (f 3) (fd 3) ["top","bottom"] (spD K (sD Yj)):=by
 refine Yd T.e_law_low.F Zax (S:=Zel) rfl rfl (λcdv A outer s H E hr=>?_)
 have hu:=hr.units
 exact(xsq (xst 2 Zax.nd (Zdc Z05 (Zi8 Ztk Zlb (by rfl) T.z_abs L2.B.boot_abs (xa1 (xv 0))))) (xsq (xst 3 Zax.nd (xv 1)) (xsq (Zo5 (Zo9 X8 (xne hu (xv 3) xci) (xsq (xst 4 Zax.nd (Zbe (xv 2) (xv 3))) (xsq (xst 2 Zax.nd (xv 3)) (Zh (xst 3 Zax.nd (xv 4))))))) (Zh (xrt (xtp (Zg (Zqq (xv 0) (xv 2)) (xa1 (Zqq (xv 1) (xv 2))))))))))
theorem Znu:Zv ["q","r"] ["q","r"] (Zn Zgj):=fsc
theorem Zes{f:Nat->Addr}{fd:Nat->Xx}{cls:Nat->Addr}(T:Txt K mg f fd cls):FnOk P w K mg base CX0 2 (f 4) (fd 4) ["q","r"] (spD K (sD Yv)):=by
 have G_law_low:=Zeb (P:=P) (w:=w) (base:=base) T
 refine Yd T.e_law_plus.F Znu (S:=Zdu) rfl rfl (λcdv A outer s H E hr=>?_)
 exact(Zh (xrt (xce G_law_low hr T.e_law_low (Zg (Zex (Zm8 (xix (xv 0) xci) (xix (xv 1) xci)) (Zm8 (xix (xv 1) xci) (xix (xv 0) xci))) (xa1 (Zm8 (xix (xv 0) xci) (xix (xv 1) xci)))))))
theorem Yc:Zv ["cuts","n","xs","at","cut","weight","way","less","some","half"] ["cuts","n","xs"] (Zn Zc0):=fsc
theorem Zjh{f:Nat->Addr}{fd:Nat->Xx}{cls:Nat->Addr}(T:Txt K mg f fd cls):FnOk P w K mg base CX0 3 (f 5) (fd 5) ["cuts","n","xs"] (spD K (sD W2)):=by
 have G_law_bent:=Znm (P:=P) (w:=w) (base:=base) T
 have G_law_cuts:=Ziz (P:=P) (w:=w) (base:=base) T
 have G_law_low:=Zeb (P:=P) (w:=w) (base:=base) T
 have G_law_plus:=Zes (P:=P) (w:=w) (base:=base) T
 refine Yd T.e_law_changed.F Yc (S:=Zbr) rfl rfl (λcdv A outer s H E hr=>?_)
 have hu:=hr.units
 exact(xsq (xst 3 Yc.nd (Zbe (xix (xv 2) xci) (xln T.z_len (xa1 (xv 0))))) (xsq (Z6r (Z1z (xix (xv 0) (xv 3)) (xg2 rfl (xg 4 Yc.nd) (xg 5 Yc.nd)))) (xsq (xst 6 Yc.nd (Zbe (xix (xv 2) xci) xci)) (xsq (xif (xlt (xv 6) xci) (xsq (xst 7 Yc.nd (xix (xls (Zg (xtp (Zg (Zp9 xci (xix (xv 5) xci)) (xa1 (xix (xv 5) xci)))) (xa1 (xtp (Zg (Zg2 (Zmw xci)) (xa1 (Z67 xci xci))))))) (Zbe (xix (xv 2) xci) xci))) (xsq (xst 8 Yc.nd (xls (Zg (xce G_law_plus hr T.e_law_plus (Zg (xv 5) (xa1 (xtp (Zg xci (xa1 xci)))))) (Zg (xv 7) (Zg (xtp (Zg xci (xa1 xci))) (xa1 (xce G_law_plus hr T.e_law_plus (Zg (xv 5) (xa1 (xtp (Zg (Zg2 (Zmw xci)) (xa1 (Z67 xci xci))))))))))))) (Zh (xrt (Ji (Yt Jm (Zeq (Z8 rfl) Yw (Ji (Yt Jm (Zeq (Z8 rfl) Yw (Jf (Jh (xv 0) (Z7 Z5) (Z1 (Z2 (xv 3))))) (xls (xa1 (xtp (Zg (xv 4) (xa1 (xix (xv 8) (xv 6)))))))))) (Jf (Jh (xv 0) (Z1 (Z2 (Zex (xv 3) xci))) (Z7 Z5)))))))))) xnl) (xsq (xif (xeq hu (xv 6) xci) (Zh (xrt (Ji (Yt Jm (Zeq (Z8 rfl) Yw (Jf (Jh (xv 0) (Z7 Z5) (Z1 (Z2 (xv 3))))) (Jf (Jh (xv 0) (Z1 (Z2 (Zex (xv 3) xci))) (Z7 Z5)))))))) xnl) (xsq (xif (xeq hu (xv 6) xci) (Zh (xrt (Ji (Yt Jm (Zeq (Z8 rfl) Yw (Ji (Yt Jm (Zeq (Z8 rfl) Yw (Jf (Jh (xv 0) (Z7 Z5) (Z1 (Z2 (xv 3))))) (xls (xa1 (xix (xv 0) (xv 3))))))) (Jf (Jh (xv 0) (Z1 (Z2 (xv 3))) (Z7 Z5)))))))) xnl) (xsq (xif (xeq hu (xv 6) xci) (xsq (xst 9 Yc.nd (xtp (Zg (xix (xv 5) xci) (xa1 (Zm8 xci (xix (xv 5) xci)))))) (xsq (xst 9 Yc.nd (xce G_law_low hr T.e_law_low (Zg (xix (xv 9) xci) (xa1 (xix (xv 9) xci))))) (Zh (xrt (Ji (Yt Jm (Zeq (Z8 rfl) Yw (Ji (Yt Jm (Zeq (Z8 rfl) Yw (Jf (Jh (xv 0) (Z7 Z5) (Z1 (Z2 (xv 3))))) (xls (Zg (xtp (Zg (xv 4) (xa1 (xv 9)))) (xa1 (xtp (Zg (xv 4) (xa1 (xv 9)))))))))) (Jf (Jh (xv 0) (Z1 (Z2 (Zex (xv 3) xci))) (Z7 Z5)))))))))) xnl) (xsq (xif (xeq hu (xv 6) xci) (Zh (xrt (Ji (Yt Jm (Zeq (Z8 rfl) Yw (Jf (Jh (xv 0) (Z1 (Z2 xci)) (Z7 Z5))) (Jf (Jh (xv 0) (Z7 Z5) (Z1 (Z2 xci))))))))) xnl) (xsq (xif (MW.mt (Zi6 (Zia (xeq hu (xv 6) xci) (Zet (xgt (xv 3) xci))))) (Zh (xrt (Ji (Yt Jm (Zeq (Z8 rfl) Yw (Ji (Yt Jm (Zeq (Z8 rfl) Yw (Jf (Jh (xv 0) (Z7 Z5) (Z1 (Z2 (Zp9 (xv 3) xci))))) (xls (Zg (xtp (Zg (xix (xix (xv 0) (Zp9 (xv 3) xci)) xci) (xa1 (xv 5)))) (xa1 (xtp (Zg (xv 4) (xa1 (xix (xix (xv 0) (Zp9 (xv 3) xci)) xci)))))))))) (Jf (Jh (xv 0) (Z1 (Z2 (Zex (xv 3) xci))) (Z7 Z5)))))))) xnl) (xsq (xif (xeq hu (xv 6) xci) (xsq (Zt5 (Zq5 (i:=4) Yc.nd rfl (QG rfl) (xix (xce G_law_cuts hr T.e_law_cuts (xa1 (xv 1))) (Zbe (xix (xv 2) xci) (xln T.z_len (xa1 (xce G_law_cuts hr T.e_law_cuts (xa1 (xv 1))))))))) (Zh (xrt (Zm0 Zle (Z66 Zho (Zee Zxg rfl hu) (by rfl) T.z_sorted L2.B.boot_sorted (xa1 (Ji (Yt Jm (Zeq (Z8 rfl) Yw (Wg (Zcc ["one"] [4] ["one","cut"] (xil (xv 0)) (λ_ _ _ _ _=>(xg 0 (by show Qs (["one","cut"]:List Str);decide +kernel))) (λ_ _ _ _ _=>(Zdx (xne hu (xix (xv 0) xci) (xv 1)))) (λ_ _ _ _ _=>(xv 0)))) (xls (xa1 (xtp (Zg (xv 4) (xa1 (xtp (Zg (Zex xci (Zbe (xix (xv 2) xci) xci)) (xa1 xci))))))))))))))))) xnl) (xsq (xif (xeq hu (xv 6) xci) (Zh (xrt (Ji (Yt Jm (Zeq (Z8 rfl) Yw (xv 0) (xls (xa1 (Ztx (Zxl (Zg (xls (Zg (Zp9 (xv 1) xci) (xa1 (xv 1)))) (xa1 (xtp (Zg xci (xa1 xci)))))))))))))) xnl) (Zh (xrt (Ji (Yt Jm (Zeq (Z8 rfl) Yw (Ji (Yt Jm (Zeq (Z8 rfl) Yw (Jf (Jh (xv 0) (Z7 Z5) (Z1 (Z2 (xv 3))))) (xls (xa1 (xtp (Zg (xce G_law_bent hr T.e_law_bent (Zg (xv 4) (Zg (xv 1) (xa1 (Jf (Jh (xv 2) (Z1 (Z2 xci)) (Z7 Z5))))))) (xa1 (xv 5))))))))) (Jf (Jh (xv 0) (Z1 (Z2 (Zex (xv 3) xci))) (Z7 Z5)))))))))))))))))))
theorem Zn2:Zv ["table"] ["table"] (Zn Zgl):=fsc
theorem Zn5{f:Nat->Addr}{fd:Nat->Xx}{cls:Nat->Addr}(T:Txt K mg f fd cls):FnOk P w K mg base CX0 1 (f 6) (fd 6) ["table"] (spD K (sD Za8)):=by
 refine Yd T.e_law_copy.F Zn2 (S:=Zdh) rfl rfl (λcdv A outer s H E hr=>?_)
 exact(Zh (xrt (Wg (Zcc ["row"] [] ["row"] (xil (xv 0)) (λ_ _ _ _ _=>(xg 0 (by show Qs (["row"]:List Str);decide +kernel))) (λ_ _ _ _ _=>(Wx Wz)) (λ_ _ _ _ _=>(Zm0 Zoc (Z7s Zke (Zec rfl) (by rfl) T.z_list L2.B.boot_list (xa1 (xv 0)))))))))
theorem Ys:Zv ["cell","many","found","rest","stir","k","again"] ["cell","many"] (Zn Zcq):=fsc
theorem Zjw{f:Nat->Addr}{fd:Nat->Xx}{cls:Nat->Addr}(T:Txt K mg f fd cls):FnOk P w K mg base CX0 1 (f 7) (fd 7) ["cell","many"] (spD K (sD W3)):=by
 refine Yd T.e_law_numbers.F Ys (S:=Zbh) rfl rfl (λcdv A outer s H E hr=>?_)
 exact(xsq (xso 2 Ys.nd (xls xa0)) (xsq (xst 3 Ys.nd (xv 0)) (xsq (xst 4 Ys.nd (Zbe (xv 0) xci)) (xsq (xfr X8 rfl (Zhg (Wu (by rfl) T.z_range (xa1 (xv 1)))) (xg 5 Ys.nd) (Zh (xif (MW.mt (Zi6 (Zia (xge (xv 0) (Z67 xci xci)) (Zet (xgt (xv 3) xci))))) (xsq (Zb6 (Zb5 2 (Zbe (xv 3) xci))) (Zh (xst 3 Ys.nd (Zqq (xv 3) xci)))) (xsq (xst 4 Ys.nd (Zbe (Zm8 (Zex (Zex (xv 4) (Zm8 xci (xv 5))) xci) xci) xci)) (xsq (xst 6 Ys.nd (Zbe (Zm8 (Zbe (Zm8 (xv 4) (xv 4)) xci) xci) xci)) (Zh (Zb6 (Zb5 2 (Zbe (Zqq (xv 6) xci) xci))))))))) (Zh (Zh1 (Zio 2)))))))
theorem Yo:Zv ["table","xs","n","i","j"] ["table","xs"] (Zn Zad):=fsc
theorem Zfj{f:Nat->Addr}{fd:Nat->Xx}{cls:Nat->Addr}(T:Txt K mg f fd cls):FnOk P w K mg base CX0 3 (f 8) (fd 8) ["table","xs"] (spM K (sM Wv)):=by
 have G_law_plus:=Zes (P:=P) (w:=w) (base:=base) T
 refine Z5p T.e_law_other_table.F Yo (S:=J9) rfl rfl (λcdv A outer s H E hr=>?_)
 have hu:=hr.units
 exact(xsq (Zt5 (Zq5 (i:=2) Yo.nd rfl (QG rfl) (xln T.z_len (xa1 (xo 0))))) (xsq (xif (MW.mt (Zi6 (Zia (xeq hu (Zbe (xix (xv 1) xci) xci) xci) (Zet (xgt (xv 2) xci))))) (xsq (xst 3 Yo.nd (Zbe (xix (xv 1) xci) (xv 2))) (xsq (xst 4 Yo.nd (Zbe (Zex (Zex (xv 3) xci) (Zbe (xix (xv 1) xci) (Zp9 (xv 2) xci))) (xv 2))) (xsq (Zgu (Zgw 0 (Zku (Zpc (xce G_law_plus hr T.e_law_plus (Zg (xix (xix (xo 0) (xv 3)) (xv 4)) (xa1 (xtp (Zg xci (xa1 (Zex xci (Zbe (xix (xv 1) xci) xci)))))))))) (xv 3) (xv 4) (λ_ _=>rfl))) (Zh (Zgu (Zgw 0 (Zku (Zpc (xix (xix (xo 0) (xv 3)) (xv 4)))) (xv 4) (xv 3) (λ_ _=>rfl))))))) xnl) (xsq (xif (xeq hu (Zbe (xix (xv 1) xci) xci) xci) (xsq (Zfu (Zfg 0 (Zhs (Zaw (i:=0) (own:=["row"]) (caps:=[]) (N':=["row"]) true Yo.nd rfl (QS rfl) (by exact⟨rfl,by decide +kernel,rfl,by decide +kernel,rfl,rfl⟩) (by rfl) (by decide) (xil (xv 0)) (λ_ _ _ _ _=>(xg 0 (by show Qs (["row"]:List Str);decide +kernel))) (λ_ _ _ _ _=>(Wx Wz)) (λ_ _ _ _ _=>(Ji (Yt Jm (Zeq (Z8 rfl) Yw (xv 0) (xls (xa1 (xix (xv 0) xci))))))))))) (Zh (Zb6 (Zb5 0 (Zvp (Zyv (Zm0 Zoc (Z7s Zke (Zec rfl) (by rfl) T.z_list L2.B.boot_list (xa1 (xix (xo 0) xci)))))))))) xnl) (xsq (xif (MW.mt (Zi6 (Zia (xeq hu (Zbe (xix (xv 1) xci) xci) xci) (Zet (xgt (xv 2) xci))))) (Zh (Zfu (Zfg 0 (Zhs (Zaw (i:=0) (own:=["row"]) (caps:=[2]) (N':=["row","n"]) true Yo.nd rfl (QS rfl) (by exact⟨rfl,by decide +kernel,rfl,by decide +kernel,rfl,rfl⟩) (by rfl) (by decide) (xil (Jf (Jh (xv 0) (Z7 Z5) (Z1 (Z2 (Zp9 (xv 2) xci)))))) (λ_ _ _ _ _=>(xg 0 (by show Qs (["row","n"]:List Str);decide +kernel))) (λ_ _ _ _ _=>(Wx Wz)) (λ_ _ _ _ _=>(Jf (Jh (xv 0) (Z7 Z5) (Z1 (Z2 (Zp9 (xv 1) xci))))))))))) xnl) (Zh (Zh1 (Zio 0)))))))
theorem Zfh:Zv ["n","cut","k"] ["n","cut"] (Zn Zd2):=fsc
theorem Zkx{f:Nat->Addr}{fd:Nat->Xx}{cls:Nat->Addr}(T:Txt K mg f fd cls):FnOk P w K mg base CX0 1 (f 9) (fd 9) ["n","cut"] (spD K (sD Jd)):=by
 refine Yd T.e_law_is_cut.F Zfh (S:=Zci) rfl rfl (λcdv A outer s H E hr=>?_)
 have hu:=hr.units
 exact(xsq (xif (MW.mt (Zc1 (Zcw (xno (Wr (Wn (Zam (Zdl (by decide) (by rfl) T.z_isinstance L2.B.boot_isinstance (by rfl) T.z_list L2.B.boot_list (xv 1))) (λ_=>rfl)))) (Zbl (xeq hu (xv 1) (xls xa0)))))) (Zh (xrt (Zeo Zae))) xnl) (xsq (xfr X8 rfl (Zhg (Wu (by rfl) T.z_range (xa1 (xln T.z_len (xa1 (xv 1)))))) (xg 2 Zfh.nd) (Zh (xif (MW.mt (Zc1 (Zcw (xno (Wr (Wn (Zam (Zdl (by decide) (by rfl) T.z_isinstance L2.B.boot_isinstance (by rfl) T.z_int L2.B.boot_int (xix (xv 1) (xv 2)))) (λ_=>rfl)))) (Zc1 (Zcw (Wr (Wn (Zam (Zdl (by decide) (by rfl) T.z_isinstance L2.B.boot_isinstance (by rfl) T.z_bool L2.B.boot_bool (xix (xv 1) (xv 2)))) (λ_=>rfl))) (Zc1 (Zcw (xge (xix (xv 1) (xv 2)) (xv 0)) (Zbl (xle (xix (xv 1) (xv 2)) (xix (Ji (Yt Jm (Zeq (Z8 rfl) Yw (xls (xa1 xci)) (xv 1)))) (xv 2))))))))))) (Zh (xrt (Zeo Zae))) xnl))) (Zh (xrt (Zeo Zae)))))
theorem Zbq:Zv ["found","one"] ["found"] (Zn Zag):=fsc
theorem Zfa{f:Nat->Addr}{fd:Nat->Xx}{cls:Nat->Addr}(T:Txt K mg f fd cls):FnOk P w K mg base CX0 2 (f 10) (fd 10) ["found"] (spD K (sD Ww)):=by
 have G_law_low:=Zeb (P:=P) (w:=w) (base:=base) T
 refine Yd T.e_law_is_fraction.F Zbq (S:=J7) rfl rfl (λcdv A outer s H E hr=>?_)
 have hu:=hr.units
 exact(xsq (xif (MW.mt (Zc1 (Zcw (xno (Wr (Wn (Zam (Zdl (by decide) (by rfl) T.z_isinstance L2.B.boot_isinstance (by rfl) T.z_tuple L2.B.boot_tuple (xv 0))) (λ_=>rfl)))) (Zbl (xne hu (xln T.z_len (xa1 (xv 0))) xci))))) (Zh (xrt (Zeo Zae))) xnl) (xsq (xfr X8 rfl (Z58 (Z22 (xv 0))) (xg 1 Zbq.nd) (Zh (xif (MW.mt (Zc1 (Zcw (xno (Wr (Wn (Zam (Zdl (by decide) (by rfl) T.z_isinstance L2.B.boot_isinstance (by rfl) T.z_int L2.B.boot_int (xv 1))) (λ_=>rfl)))) (Zbl (Wr (Wn (Zam (Zdl (by decide) (by rfl) T.z_isinstance L2.B.boot_isinstance (by rfl) T.z_bool L2.B.boot_bool (xv 1))) (λ_=>rfl))))))) (Zh (xrt (Zeo Zae))) xnl))) (Zh (xrt (Zb2 (Zjt (W0 Yao (Zhh Zye Zdi (xix (xv 0) xci) xci (hm:=(Jr _)))) (Zlx (W0 Zyd (Zhh (Zie hu) Zna (xce G_law_low hr T.e_law_low (Zg (xix (xv 0) xci) (xa1 (xix (xv 0) xci)))) (xv 0) (hm:=(Jr _)))))))))))
theorem Jq:Zv ["n","cuts","table","cut","weight","i","j"] ["n","cuts"] (Zn Ze5):=fsc
theorem Zg6{f:Nat->Addr}{fd:Nat->Xx}{cls:Nat->Addr}(T:Txt K mg f fd cls):FnOk P w K mg base CX0 3 (f 11) (fd 11) ["n","cuts"] (spD K (sD Yh)):=by
 have G_law_plus:=Zes (P:=P) (w:=w) (base:=base) T
 refine Yd T.e_law_table.F Jq (S:=Zde) rfl rfl (λcdv A outer s H E hr=>?_)
 exact(xsq (Zhs (Zaw (i:=2) (own:=["i"]) (caps:=[0]) (N':=["i","n"]) true Jq.nd rfl (QS rfl) (by exact⟨rfl,by decide +kernel,rfl,by decide +kernel,rfl,rfl⟩) (by rfl) (by decide) (Zhg (Wu (by rfl) T.z_range (xa1 (xv 0)))) (λ_ _ _ _ _=>(xg 0 (by show Qs (["i","n"]:List Str);decide +kernel))) (λ_ _ _ _ _=>(Wx Wz)) (λ_ _ _ _ _=>(Wg (Zcc ["j"] [] ["j"] (Zhg (Wu (by rfl) T.z_range (xa1 (xv 1)))) (λ_ _ _ _ _=>(xg 0 (by show Qs (["j"]:List Str);decide +kernel))) (λ_ _ _ _ _=>(Wx Wz)) (λ_ _ _ _ _=>(xtp (Zg xci (xa1 xci))))))))) (xsq (xfr X8 rfl (xil (xv 1)) (xg2 rfl (xg 3 Jq.nd) (xg 4 Jq.nd)) (Zh (xfr X8 rfl (xil (xv 3)) (xg 5 Jq.nd) (Zh (xfr X8 rfl (Zhg (Wu (by rfl) T.z_range (xa1 (xv 0)))) (xg 6 Jq.nd) (Zh (xif (Zdb Z0s (Zda (Zl3 rfl) Zz6 (xv 6) (xv 3) (hm:=(by with_unfolding_all rfl)))) (xsq (Zgu (Zgw 2 (Zku (Zpc (xce G_law_plus hr T.e_law_plus (Zg (xix (xix (xo 2) (xv 5)) (xv 6)) (xa1 (xv 4)))))) (xv 5) (xv 6) (λ_ _=>rfl))) (Zh (Zgu (Zgw 2 (Zku (Zpc (xix (xix (xo 2) (xv 5)) (xv 6)))) (xv 6) (xv 5) (λ_ _=>rfl))))) xnl))))))) (Zh (Zh1 (Zio 2)))))
theorem Zau:Zv ["n","cuts","table","one","other"] ["n","cuts","table"] (Zn Zd5):=fsc
theorem Zkn{f:Nat->Addr}{fd:Nat->Xx}{cls:Nat->Addr}(T:Txt K mg f fd cls):FnOk P w K mg base CX0 4 (f 12) (fd 12) ["n","cuts","table"] (spD K (sD Wf)):=by
 have G_law_is_cut:=Zkx (P:=P) (w:=w) (base:=base) T
 have G_law_is_fraction:=Zfa (P:=P) (w:=w) (base:=base) T
 have G_law_table:=Zg6 (P:=P) (w:=w) (base:=base) T
 refine Yd T.e_law_sum_of.F Zau (S:=Zb9) rfl rfl (λcdv A outer s H E hr=>?_)
 have hu:=hr.units
 exact(xsq (xif (xno (Wr (Wn (Zam (Zdl (by decide) (by rfl) T.z_isinstance L2.B.boot_isinstance (by rfl) T.z_list L2.B.boot_list (xv 1))) (λ_=>rfl)))) (Zh (xrt (Zeo Zae))) xnl) (xsq (xfr X8 rfl (xil (xv 1)) (xg 3 Zau.nd) (xsq (xif (MW.mt (Zc1 (Zcw (xno (Wr (Wn (Zam (Zdl (by decide) (by rfl) T.z_isinstance L2.B.boot_isinstance (by rfl) T.z_tuple L2.B.boot_tuple (xv 3))) (λ_=>rfl)))) (Zc1 (Zcw (xne hu (xln T.z_len (xa1 (xv 3))) xci) (Zbl (xno (Wr (Wn (xce G_law_is_cut hr T.e_law_is_cut (Zg (xv 0) (xa1 (xix (xv 3) xci)))) (λ_=>rfl)))))))))) (Zh (xrt (Zeo Zae))) xnl) (Zh (xif (MW.mt (Zc1 (Zcw (xno (Wr (Wn (xce G_law_is_fraction hr T.e_law_is_fraction (xa1 (xix (xv 3) xci))) (λ_=>rfl)))) (Zbl (xlt (xix (xix (xv 3) xci) xci) xci))))) (Zh (xrt (Zeo Zae))) xnl)))) (xsq (xfr X8 rfl (Zf6 (Zgt (by rfl) T.z_zip L2.B.boot_zip (Zg (xv 1) (xa1 (Jf (Jh (xv 1) (Z1 (Z2 xci)) (Z7 Z5))))))) (xg2 rfl (xg 3 Zau.nd) (xg 4 Zau.nd)) (Zh (xif (Zdb Z80 (Zda (Z61 hu) Z18 (xix (xv 3) xci) (xix (xv 4) xci) (hm:=(Jr _)))) (Zh (xrt (Zeo Zae))) xnl))) (Zh (xrt (W0 Zyd (Zhh (Zie hu) Zna (xce G_law_table hr T.e_law_table (Zg (xv 0) (xa1 (xv 1)))) (xv 2) (hm:=(Jr _)))))))))
theorem Zkm:Zv ["number","kind"] ["number","kind"] (Zn Zd7):=fsc
theorem Zla{f:Nat->Addr}{fd:Nat->Xx}{cls:Nat->Addr}(T:Txt K mg f fd cls):FnOk P w K mg base CX0 2 (f 13) (fd 13) ["number","kind"] (spD K (sD Zaf)):=by
 have G_law_low:=Zeb (P:=P) (w:=w) (base:=base) T
 refine Yd T.e_law_weight.F Zkm (S:=Zcj) rfl rfl (λcdv A outer s H E hr=>?_)
 have hu:=hr.units
 exact(xsq (xif (xeq hu (Zbe (xv 1) xci) xci) (Zh (xrt (xtp (Zg (Zex xci (Zbe (xv 0) xci)) (xa1 xci))))) xnl) (xsq (xif (xeq hu (Zbe (xv 1) xci) xci) (Zh (xrt (xce G_law_low hr T.e_law_low (Zg (Zex xci (Zbe (xv 0) xci)) (xa1 (Zex xci (Zbe (Zqq (xv 0) xci) xci))))))) xnl) (xsq (xif (xeq hu (Zbe (xv 1) xci) xci) (Zh (xrt (xce G_law_low hr T.e_law_low (Zg (Zex xci (Zbe (Zm8 (xv 0) xci) xci)) (xa1 (Zex xci (Zbe (Zqq (xv 0) xci) xci))))))) xnl) (Zh (xrt (xtp (Zg (Zex (Zm8 (Zex xci (Zbe (xv 0) xci)) (Z67 xci xci)) (xv 0)) (xa1 xci))))))))
theorem W7:Zv ["n","xs","cuts","found","k","at"] ["n","xs"] (Zn Zb3):=fsc
theorem Zhx{f:Nat->Addr}{fd:Nat->Xx}{cls:Nat->Addr}(T:Txt K mg f fd cls):FnOk P w K mg base CX0 3 (f 14) (fd 14) ["n","xs"] (spD K (sD Wl)):=by
 have G_law_cuts:=Ziz (P:=P) (w:=w) (base:=base) T
 have G_law_weight:=Zla (P:=P) (w:=w) (base:=base) T
 refine Yd T.e_law_weighted.F W7 (S:=Za1) rfl rfl (λcdv A outer s H E hr=>?_)
 have hu:=hr.units
 exact(xsq (xst 2 W7.nd (xce G_law_cuts hr T.e_law_cuts (xa1 (xv 0)))) (xsq (Zre (Zsx (i:=3) W7.nd rfl (QG rfl) (xls xa0))) (xsq (xfr X8 rfl (Zhg (Wu (by rfl) T.z_range (xa1 (Zdc Z4g (Zi8 Zr1 (Zmu (by rfl)) (by rfl) T.z_min L2.B.boot_min (Zg (xln T.z_len (xa1 (xv 2))) (xa1 xci))))))) (xg 4 W7.nd) (xsq (xst 5 W7.nd (Zbe (Zex (xix (xv 1) xci) (Zm8 (xv 4) (Zex xci (Zm8 xci (Zbe (xix (xv 1) xci) xci))))) (xln T.z_len (xa1 (xv 2))))) (Zh (xif (xeq hu (Zbe (xix (xv 1) (Zex xci (xv 4))) (xix (xls (Zg xci (Zg xci (Zg xci (xa1 xci))))) (Zbe (xix (xv 1) xci) xci))) xci) (Zh (Zb6 (Zb5 3 (xtp (Zg (xix (xv 2) (xv 5)) (xa1 (xce G_law_weight hr T.e_law_weight (Zg (Zex (Zqq (xix (xv 1) (Zex xci (xv 4))) xci) (Zm8 xci (xix (xv 1) xci))) (xa1 (xix (xv 1) xci)))))))))) xnl)))) (Zh (Zfu (Zfg 3 (xrt (Zm0 Zle (Z66 Zho (Zee Zxg rfl hu) (by rfl) T.z_sorted L2.B.boot_sorted (xa1 (Wg (Zcc ["k"] [3] ["k","found"] (Zhg (Wu (by rfl) T.z_range (xa1 (xln T.z_len (xa1 (xv 3)))))) (λ_ _ _ _ _=>(xg 0 (by show Qs (["k","found"]:List Str);decide +kernel))) (λ_ _ _ _ _=>(Zdx (Zdb Z5d (Zda (Zq0 hu) Z46 (xix (xix (xv 1) (xv 0)) xci) (Wg (Zcc ["one"] [] ["one"] (xil (Jf (Jh (xv 1) (Z7 Z5) (Z1 (Z2 (xv 0)))))) (λ_ _ _ _ _=>(xg 0 (by show Qs (["one"]:List Str);decide +kernel))) (λ_ _ _ _ _=>(Wx Wz)) (λ_ _ _ _ _=>(xix (xv 0) xci)))) (hm:=(by with_unfolding_all rfl)))))) (λ_ _ _ _ _=>(xix (xv 1) (xv 0)))))))))))))))
theorem Zcu:Zv ["n","sides","point"] ["n"] (Zn Zf4):=fsc
theorem Zn7{f:Nat->Addr}{fd:Nat->Xx}{cls:Nat->Addr}(T:Txt K mg f fd cls):FnOk P w K mg base CX0 1 (f 15) (fd 15) ["n"] (spD K (sD Zdq)):=by
 refine Yd T.e_all_cuts.F Zcu (S:=Zdv) rfl rfl (λcdv A outer s H E hr=>?_)
 have hu:=hr.units
 exact(xsq (xst 1 Zcu.nd (xls (xa1 (xls xa0)))) (xsq (xfr X8 rfl (Z6d (Zlp (by rfl) T.z_range (Zg xci (xa1 (xv 0))))) (xg 2 Zcu.nd) (Zh (xst 1 Zcu.nd (Ji (Yt Jm (Zeq (Z8 rfl) Yw (xv 1) (Wg (Zcc ["side"] [2] ["side","point"] (xil (xv 1)) (λ_ _ _ _ _=>(xg 0 (by show Qs (["side","point"]:List Str);decide +kernel))) (λ_ _ _ _ _=>(Wx Wz)) (λ_ _ _ _ _=>(Ji (Yt Jm (Zeq (Z8 rfl) Yw (xv 0) (xls (xa1 (xv 1))))))))))))))) (Zh (xrt (Wg (Zcc ["side"] [] ["side"] (xil (Zm0 Z0d (Z66 Zu9 (Zqj Zxi rfl hu) (by rfl) T.z_sorted L2.B.boot_sorted (xa1 (xv 1))))) (λ_ _ _ _ _=>(xg 0 (by show Qs (["side"]:List Str);decide +kernel))) (λ_ _ _ _ _=>(Zdx (xgt (xln T.z_len (xa1 (xv 0))) xci))) (λ_ _ _ _ _=>(xv 0))))))))
theorem Zcz:Zv ["n","pairs","i","j"] ["n"] (Zn Zgk):=fsc
theorem Za7{f:Nat->Addr}{fd:Nat->Xx}{cls:Nat->Addr}(T:Txt K mg f fd cls):FnOk P w K mg base CX0 1 (f 16) (fd 16) ["n"] (spD K (sD Yg)):=by
 refine Yd T.e_pairs_of.F Zcz (S:=Zdk) rfl rfl (λcdv A outer s H E hr=>?_)
 exact(xsq (xso 1 Zcz.nd (xls xa0)) (xsq (xfr X8 rfl (Zhg (Wu (by rfl) T.z_range (xa1 (xv 0)))) (xg 2 Zcz.nd) (Zh (xfr X8 rfl (Z6d (Zlp (by rfl) T.z_range (Zg (Zex (xv 2) xci) (xa1 (xv 0))))) (xg 3 Zcz.nd) (Zh (Zb6 (Zb5 1 (xtp (Zg (xv 2) (xa1 (xv 3)))))))))) (Zh (Zh1 (Zio 1)))))
theorem Zki:Zv ["pairs","tops","sides"] ["pairs","tops","sides"] (Zn Zdw):=fsc
theorem Zkg{f:Nat->Addr}{fd:Nat->Xx}{cls:Nat->Addr}(T:Txt K mg f fd cls):FnOk P w K mg base CX0 1 (f 17) (fd 17) ["pairs","tops","sides"] (spD K (sD Zck)):=by
 refine Yd T.e_parted_sum.F Zki (S:=Zcg) rfl rfl (λcdv A outer s H E hr=>?_)
 have hu:=hr.units
 exact(Zh (xrt (Zdc Z0p (Zi8 Ztb (Zig rfl (by rfl)) (by rfl) T.z_sum L2.B.boot_sum (xa1 (Wg (Zcc ["pair","top"] [2] ["pair","top","sides"] (Zf6 (Zgt (by rfl) T.z_zip L2.B.boot_zip (Zg (xv 0) (xa1 (xv 1))))) (λ_ _ _ _ _=>(xg2 rfl (xg 0 (by show Qs (["pair","top","sides"]:List Str);decide +kernel)) (xg 1 (by show Qs (["pair","top","sides"]:List Str);decide +kernel)))) (λ_ _ _ _ _=>(Zdx (xne hu (xix (xv 2) (xix (xv 0) xci)) (xix (xv 2) (xix (xv 0) xci))))) (λ_ _ _ _ _=>(xv 1)))))))))
theorem Zny:Zv ["n","cut"] ["n","cut"] (Zn Zf8):=fsc
theorem Zid{f:Nat->Addr}{fd:Nat->Xx}{cls:Nat->Addr}(T:Txt K mg f fd cls):FnOk P w K mg base CX0 1 (f 18) (fd 18) ["n","cut"] (spD K (sD Ju)):=by
 refine Yd T.e_sides_of.F Zny (S:=Zd3) rfl rfl (λcdv A outer s H E hr=>?_)
 exact(Zh (xrt (Wg (Zcc ["point"] [1] ["point","cut"] (Zhg (Wu (by rfl) T.z_range (xa1 (xv 0)))) (λ_ _ _ _ _=>(xg 0 (by show Qs (["point","cut"]:List Str);decide +kernel))) (λ_ _ _ _ _=>(Wx Wz)) (λ_ _ _ _ _=>(Ji (Z8i (Yec (Zdb Z0s (Zda (Z2t rfl) Zz6 (xv 0) (xv 1) (hm:=(by with_unfolding_all rfl)))) xci xci))))))))
theorem Zb0:Zv ["n","tops","pairs","cut"] ["n","tops"] (Zn Zc5):=fsc
theorem Zju{f:Nat->Addr}{fd:Nat->Xx}{cls:Nat->Addr}(T:Txt K mg f fd cls):FnOk P w K mg base CX0 2 (f 19) (fd 19) ["n","tops"] (spD K (sD Zbu)):=by
 have G_all_cuts:=Zn7 (P:=P) (w:=w) (base:=base) T
 have G_pairs_of:=Za7 (P:=P) (w:=w) (base:=base) T
 have G_parted_sum:=Zkg (P:=P) (w:=w) (base:=base) T
 have G_sides_of:=Zid (P:=P) (w:=w) (base:=base) T
 refine Yd T.e_bars_no_cut.F Zb0 (S:=Zbp) rfl rfl (λcdv A outer s H E hr=>?_)
 exact(xsq (xst 2 Zb0.nd (xce G_pairs_of hr T.e_pairs_of (xa1 (xv 0)))) (xsq (xfr X8 rfl (xil (xce G_all_cuts hr T.e_all_cuts (xa1 (xv 0)))) (xg 3 Zb0.nd) (Zh (xif (xlt (xce G_parted_sum hr T.e_parted_sum (Zg (xv 2) (Zg (xv 1) (xa1 (xce G_sides_of hr T.e_sides_of (Zg (xv 0) (xa1 (xv 3)))))))) xci) (Zh (xrt (Zeo Zae))) xnl))) (Zh (xrt (Zeo Zae)))))
theorem Zh3:Zv ["table"] ["table"] (Zn Zby):=fsc
theorem Zi2{f:Nat->Addr}{fd:Nat->Xx}{cls:Nat->Addr}(T:Txt K mg f fd cls):FnOk P w K mg base CX0 2 (f 20) (fd 20) ["table"] (spD K (sD Zaz)):=by
 have G_pairs_of:=Za7 (P:=P) (w:=w) (base:=base) T
 refine Yd T.e_distances_of.F Zh3 (S:=Za6) rfl rfl (λcdv A outer s H E hr=>?_)
 exact(Zh (xrt (Wg (Zcc ["i","j"] [0] ["i","j","table"] (xil (xce G_pairs_of hr T.e_pairs_of (xa1 (xln T.z_len (xa1 (xv 0)))))) (λ_ _ _ _ _=>(xg2 rfl (xg 0 (by show Qs (["i","j","table"]:List Str);decide +kernel)) (xg 1 (by show Qs (["i","j","table"]:List Str);decide +kernel)))) (λ_ _ _ _ _=>(Wx Wz)) (λ_ _ _ _ _=>(xix (xix (xv 2) (xv 0)) (xv 1)))))))
theorem Yi:Zv ["a","b","left"] ["a","b"] (Zn Jx):=fsc
theorem Jo{f:Nat->Addr}{fd:Nat->Xx}{cls:Nat->Addr}(T:Txt K mg f fd cls):FnOk P w K mg base CX0 1 (f 21) (fd 21) ["a","b"] (spD K (sD Z3)):=by
 refine Yd T.e_greatest_divisor.F Yi (S:=J0) rfl rfl (λcdv A outer s H E hr=>?_)
 have hu:=hr.units
 exact(xsq (xst 0 Yi.nd (Zdc Z05 (Zi8 Ztk Zlb (by rfl) T.z_abs L2.B.boot_abs (xa1 (xv 0))))) (xsq (xst 1 Yi.nd (Zdc Z05 (Zi8 Ztk Zlb (by rfl) T.z_abs L2.B.boot_abs (xa1 (xv 1))))) (xsq (Zo5 (Zo9 X8 (xne hu (xv 1) xci) (xsq (xst 2 Yi.nd (Zbe (xv 0) (xv 1))) (xsq (xst 0 Yi.nd (xv 1)) (Zh (xst 1 Yi.nd (xv 2))))))) (Zh (xrt (xv 0))))))
theorem Znb:Zv ["thing"] ["thing"] (Zn Zf3):=fsc
theorem Ze0{f:Nat->Addr}{fd:Nat->Xx}{cls:Nat->Addr}(T:Txt K mg f fd cls):FnOk P w K mg base CX0 1 (f 22) (fd 22) ["thing"] (spD K (sD Ye)):=by
 refine Yd T.e_is_whole.F Znb (S:=Zdg) rfl rfl (λcdv A outer s H E hr=>?_)
 exact(Zh (xrt (Zb2 (Zjt (Zam (Zdl (by decide) (by rfl) T.z_isinstance L2.B.boot_isinstance (by rfl) T.z_int L2.B.boot_int (xv 0))) (Zlx (Zx6 (Z9g (Zam (Zdl (by decide) (by rfl) T.z_isinstance L2.B.boot_isinstance (by rfl) T.z_bool L2.B.boot_bool (xv 0))))))))))
theorem Zjs:Zv ["thing"] ["thing"] (Zn Zcr):=fsc
theorem Zek{f:Nat->Addr}{fd:Nat->Xx}{cls:Nat->Addr}(T:Txt K mg f fd cls):FnOk P w K mg base CX0 2 (f 23) (fd 23) ["thing"] (spD K (sD Y6)):=by
 have G_greatest_divisor:=Jo (P:=P) (w:=w) (base:=base) T
 have G_is_whole:=Ze0 (P:=P) (w:=w) (base:=base) T
 refine Yd T.e_is_fraction.F Zjs (S:=Zbs) rfl rfl (λcdv A outer s H E hr=>?_)
 have hu:=hr.units
 exact(xsq (xif (MW.mt (Zc1 (Zcw (xno (Wr (Wn (Zam (Zdl (by decide) (by rfl) T.z_isinstance L2.B.boot_isinstance (by rfl) T.z_tuple L2.B.boot_tuple (xv 0))) (λ_=>rfl)))) (Zbl (xne hu (xln T.z_len (xa1 (xv 0))) xci))))) (Zh (xrt (Zeo Zae))) xnl) (xsq (xif (MW.mt (Zc1 (Zcw (xno (Wr (Wn (xce G_is_whole hr T.e_is_whole (xa1 (xix (xv 0) xci))) (λ_=>rfl)))) (Zbl (xno (Wr (Wn (xce G_is_whole hr T.e_is_whole (xa1 (xix (xv 0) xci))) (λ_=>rfl)))))))) (Zh (xrt (Zeo Zae))) xnl) (Zh (xrt (Zb2 (Zjt (W0 Yac (Zhh Zy2 Zdi (xix (xv 0) xci) xci (hm:=(Jr _)))) (Zlx (W0 Zyd (Zhh (Zie hu) Zna (xce G_greatest_divisor hr T.e_greatest_divisor (Zg (xix (xv 0) xci) (xa1 (xix (xv 0) xci)))) xci (hm:=(Jr _)))))))))))
theorem Zfp:Zv ["n","thing","number"] ["n","thing"] (Zn Zd6):=fsc
theorem Zko{f:Nat->Addr}{fd:Nat->Xx}{cls:Nat->Addr}(T:Txt K mg f fd cls):FnOk P w K mg base CX0 3 (f 24) (fd 24) ["n","thing"] (spD K (sD Zcn)):=by
 have G_is_fraction:=Zek (P:=P) (w:=w) (base:=base) T
 have G_pairs_of:=Za7 (P:=P) (w:=w) (base:=base) T
 refine Yd T.e_is_row_for.F Zfp (S:=Zcm) rfl rfl (λcdv A outer s H E hr=>?_)
 have hu:=hr.units
 exact(xsq (xif (MW.mt (Zc1 (Zcw (xno (Wr (Wn (Zam (Zdl (by decide) (by rfl) T.z_isinstance L2.B.boot_isinstance (by rfl) T.z_list L2.B.boot_list (xv 1))) (λ_=>rfl)))) (Zbl (xne hu (xln T.z_len (xa1 (xv 1))) (xln T.z_len (xa1 (xce G_pairs_of hr T.e_pairs_of (xa1 (xv 0)))))))))) (Zh (xrt (Zeo Zae))) xnl) (xsq (xfr X8 rfl (xil (xv 1)) (xg 2 Zfp.nd) (Zh (xif (xno (Wr (Wn (xce G_is_fraction hr T.e_is_fraction (xa1 (xv 2))) (λ_=>rfl)))) (Zh (xrt (Zeo Zae))) xnl))) (Zh (xrt (Zeo Zae)))))
theorem Jk:Zv ["numbers","bottom","q"] ["numbers"] (Zn Za0):=fsc
theorem Zc9{f:Nat->Addr}{fd:Nat->Xx}{cls:Nat->Addr}(T:Txt K mg f fd cls):FnOk P w K mg base CX0 2 (f 25) (fd 25) ["numbers"] (spD K (sD Z4)):=by
 have G_greatest_divisor:=Jo (P:=P) (w:=w) (base:=base) T
 refine Yd T.e_shared_bottom.F Jk (S:=Zat) rfl rfl (λcdv A outer s H E hr=>?_)
 exact(xsq (xst 1 Jk.nd xci) (xsq (xfr X8 rfl (xil (xv 0)) (xg 2 Jk.nd) (Zh (xst 1 Jk.nd (Zm8 (Zqq (xv 1) (xce G_greatest_divisor hr T.e_greatest_divisor (Zg (xv 1) (xa1 (xix (xv 2) xci))))) (xix (xv 2) xci))))) (Zh (xrt (xv 1)))))
theorem Zmj:Zv ["bottom","numbers"] ["bottom","numbers"] (Zn Ze1):=fsc
theorem Zhc{f:Nat->Addr}{fd:Nat->Xx}{cls:Nat->Addr}(T:Txt K mg f fd cls):FnOk P w K mg base CX0 1 (f 26) (fd 26) ["bottom","numbers"] (spD K (sD Y5)):=by
 refine Yd T.e_tops_over.F Zmj (S:=Zdd) rfl rfl (λcdv A outer s H E hr=>?_)
 exact(Zh (xrt (Wg (Zcc ["q"] [0] ["q","bottom"] (xil (xv 1)) (λ_ _ _ _ _=>(xg 0 (by show Qs (["q","bottom"]:List Str);decide +kernel))) (λ_ _ _ _ _=>(Wx Wz)) (λ_ _ _ _ _=>(Zm8 (xix (xv 0) xci) (Zqq (xv 1) (xix (xv 0) xci))))))))
theorem Jy:Zv ["table","numbers","n","tops","distances","far"] ["table","numbers"] (Zn Zdp):=fsc
theorem Zld{f:Nat->Addr}{fd:Nat->Xx}{cls:Nat->Addr}(T:Txt K mg f fd cls):FnOk P w K mg base CX0 4 (f 27) (fd 27) ["table","numbers"] (spD K (sD Zcb)):=by
 have G_bars_no_cut:=Zju (P:=P) (w:=w) (base:=base) T
 have G_distances_of:=Zi2 (P:=P) (w:=w) (base:=base) T
 have G_is_row_for:=Zko (P:=P) (w:=w) (base:=base) T
 have G_shared_bottom:=Zc9 (P:=P) (w:=w) (base:=base) T
 have G_tops_over:=Zhc (P:=P) (w:=w) (base:=base) T
 refine Yd T.e_shows_bars.F Jy (S:=Zcf) rfl rfl (λcdv A outer s H E hr=>?_)
 exact(xsq (xst 2 Jy.nd (xln T.z_len (xa1 (xv 0)))) (xsq (xif (xno (Wr (Wn (xce G_is_row_for hr T.e_is_row_for (Zg (xv 2) (xa1 (xv 1)))) (λ_=>rfl)))) (Zh (xrt (Zeo Zae))) xnl) (xsq (xst 3 Jy.nd (xce G_tops_over hr T.e_tops_over (Zg (xce G_shared_bottom hr T.e_shared_bottom (xa1 (xv 1))) (xa1 (xv 1))))) (xsq (xst 4 Jy.nd (xce G_distances_of hr T.e_distances_of (xa1 (xv 0)))) (xsq (xst 5 Jy.nd (xce G_tops_over hr T.e_tops_over (Zg (xce G_shared_bottom hr T.e_shared_bottom (xa1 (xv 4))) (xa1 (xv 4))))) (Zh (xrt (Zb2 (Zjt (W0 Z7y (Zhh Zwk Zdi (Zdc Z0p (Zi8 Ztb (Zig rfl (by rfl)) (by rfl) T.z_sum L2.B.boot_sum (xa1 (Wg (Zcc ["a","b"] [] ["a","b"] (Zf6 (Zgt (by rfl) T.z_zip L2.B.boot_zip (Zg (xv 3) (xa1 (xv 5))))) (λ_ _ _ _ _=>(xg2 rfl (xg 0 (by show Qs (["a","b"]:List Str);decide +kernel)) (xg 1 (by show Qs (["a","b"]:List Str);decide +kernel)))) (λ_ _ _ _ _=>(Wx Wz)) (λ_ _ _ _ _=>(Zm8 (xv 0) (xv 1)))))))) xci (hm:=(Jr _)))) (Zlx (xce G_bars_no_cut hr T.e_bars_no_cut (Zg (xv 2) (xa1 (xv 3))))))))))))))
theorem Zdt:Zv ["things","one","behind"] ["things"] (Zn Zey):=fsc
theorem Zha{f:Nat->Addr}{fd:Nat->Xx}{cls:Nat->Addr}(T:Txt K mg f fd cls):FnOk P w K mg base CX0 1 (f 28) (fd 28) ["things"] (spD K (sD Yp)):=by
 refine Yd T.e_is_rising.F Zdt (S:=Zc6) rfl rfl (λcdv A outer s H E hr=>?_)
 have hu:=hr.units
 exact(xsq (xfr X8 rfl (Zf6 (Zgt (by rfl) T.z_zip L2.B.boot_zip (Zg (xv 0) (xa1 (Jf (Jh (xv 0) (Z1 (Z2 xci)) (Z7 Z5))))))) (xg2 rfl (xg 1 Zdt.nd) (xg 2 Zdt.nd)) (Zh (xif (xno (Zdb Z8r (Zda (Z32 hu) Z3u (xv 1) (xv 2) (hm:=(Jr _))))) (Zh (xrt (Zeo Zae))) xnl))) (Zh (xrt (Zeo Zae))))
theorem Zmn:Zv ["n","thing","point"] ["n","thing"] (Zn Zkl):=fsc
theorem Zrd{f:Nat->Addr}{fd:Nat->Xx}{cls:Nat->Addr}(T:Txt K mg f fd cls):FnOk P w K mg base CX0 2 (f 29) (fd 29) ["n","thing"] (spD K (sD Jt)):=by
 have G_is_rising:=Zha (P:=P) (w:=w) (base:=base) T
 have G_is_whole:=Ze0 (P:=P) (w:=w) (base:=base) T
 refine Yd T.e_is_cut.F Zmn (S:=Zft) rfl rfl (λcdv A outer s H E hr=>?_)
 have hu:=hr.units
 exact(xsq (xif (MW.mt (Zc1 (Zcw (xno (Wr (Wn (Zam (Zdl (by decide) (by rfl) T.z_isinstance L2.B.boot_isinstance (by rfl) T.z_list L2.B.boot_list (xv 1))) (λ_=>rfl)))) (Zbl (xeq hu (xln T.z_len (xa1 (xv 1))) xci))))) (Zh (xrt (Zeo Zae))) xnl) (xsq (xfr X8 rfl (xil (xv 1)) (xg 2 Zmn.nd) (Zh (xif (xno (Wr (Wn (xce G_is_whole hr T.e_is_whole (xa1 (xv 2))) (λ_=>rfl)))) (Zh (xrt (Zeo Zae))) xnl))) (Zh (xrt (Zb2 (Zjt (xce G_is_rising hr T.e_is_rising (xa1 (xv 1))) (Zb2 (Zjt (W0 Yac (Zhh Zy2 Zdi (xix (xv 1) xci) xci (hm:=(Jr _)))) (Zlx (W0 Z7y (Zhh Zwk Zdi (xix (xv 1) (Zg2 (Zmw xci))) (xv 0) (hm:=(Jr _)))))))))))))
theorem Zfk:Zv ["n","thing"] ["n","thing"] (Zn Zac):=fsc
theorem Zfr{f:Nat->Addr}{fd:Nat->Xx}{cls:Nat->Addr}(T:Txt K mg f fd cls):FnOk P w K mg base CX0 3 (f 30) (fd 30) ["n","thing"] (spD K (sD Yy)):=by
 have G_is_cut:=Zrd (P:=P) (w:=w) (base:=base) T
 have G_is_fraction:=Zek (P:=P) (w:=w) (base:=base) T
 refine Yd T.e_is_weighted_cut.F Zfk (S:=J8) rfl rfl (λcdv A outer s H E hr=>?_)
 have hu:=hr.units
 exact(xsq (xif (MW.mt (Zc1 (Zcw (xno (Wr (Wn (Zam (Zdl (by decide) (by rfl) T.z_isinstance L2.B.boot_isinstance (by rfl) T.z_tuple L2.B.boot_tuple (xv 1))) (λ_=>rfl)))) (Zbl (xne hu (xln T.z_len (xa1 (xv 1))) xci))))) (Zh (xrt (Zeo Zae))) xnl) (Zh (xrt (Zb2 (Zjt (xce G_is_cut hr T.e_is_cut (Zg (xv 0) (xa1 (xix (xv 1) xci)))) (Zb2 (Zjt (xce G_is_fraction hr T.e_is_fraction (xa1 (xix (xv 1) xci))) (Zlx (W0 Yao (Zhh Zye Zdi (xix (xix (xv 1) xci) xci) xci (hm:=(Jr _))))))))))))
theorem Zeh:Zv ["n","thing","weighted"] ["n","thing"] (Zn Zct):=fsc
theorem Zjr{f:Nat->Addr}{fd:Nat->Xx}{cls:Nat->Addr}(T:Txt K mg f fd cls):FnOk P w K mg base CX0 4 (f 31) (fd 31) ["n","thing"] (spD K (sD W4)):=by
 have G_is_rising:=Zha (P:=P) (w:=w) (base:=base) T
 have G_is_weighted_cut:=Zfr (P:=P) (w:=w) (base:=base) T
 refine Yd T.e_is_weighted.F Zeh (S:=Zbf) rfl rfl (λcdv A outer s H E hr=>?_)
 exact(xsq (xif (xno (Wr (Wn (Zam (Zdl (by decide) (by rfl) T.z_isinstance L2.B.boot_isinstance (by rfl) T.z_list L2.B.boot_list (xv 1))) (λ_=>rfl)))) (Zh (xrt (Zeo Zae))) xnl) (xsq (xfr X8 rfl (xil (xv 1)) (xg 2 Zeh.nd) (Zh (xif (xno (Wr (Wn (xce G_is_weighted_cut hr T.e_is_weighted_cut (Zg (xv 0) (xa1 (xv 2)))) (λ_=>rfl)))) (Zh (xrt (Zeo Zae))) xnl))) (Zh (xrt (xce G_is_rising hr T.e_is_rising (xa1 (Wg (Zcc ["weighted"] [] ["weighted"] (xil (xv 1)) (λ_ _ _ _ _=>(xg 0 (by show Qs (["weighted"]:List Str);decide +kernel))) (λ_ _ _ _ _=>(Wx Wz)) (λ_ _ _ _ _=>(xix (xv 0) xci))))))))))
theorem Zl0:Zv ["n","cuts"] ["n","cuts"] (Zn Ze3):=fsc
theorem Zl7{f:Nat->Addr}{fd:Nat->Xx}{cls:Nat->Addr}(T:Txt K mg f fd cls):FnOk P w K mg base CX0 2 (f 32) (fd 32) ["n","cuts"] (spD K (sD Zar)):=by
 have G_sides_of:=Zid (P:=P) (w:=w) (base:=base) T
 refine Yd T.e_all_sides.F Zl0 (S:=Zdf) rfl rfl (λcdv A outer s H E hr=>?_)
 exact(Zh (xrt (Wg (Zcc ["weighted"] [0] ["weighted","n"] (xil (xv 1)) (λ_ _ _ _ _=>(xg 0 (by show Qs (["weighted","n"]:List Str);decide +kernel))) (λ_ _ _ _ _=>(Wx Wz)) (λ_ _ _ _ _=>(xce G_sides_of hr T.e_sides_of (Zg (xv 1) (xa1 (xix (xv 0) xci)))))))))
theorem Zep:Zv ["top","bottom","shared"] ["top","bottom"] (Zn Zgp):=fsc
theorem Znh{f:Nat->Addr}{fd:Nat->Xx}{cls:Nat->Addr}(T:Txt K mg f fd cls):FnOk P w K mg base CX0 2 (f 33) (fd 33) ["top","bottom"] (spD K (sD Za9)):=by
 have G_greatest_divisor:=Jo (P:=P) (w:=w) (base:=base) T
 refine Yd T.e_in_least.F Zep (S:=Zdm) rfl rfl (λcdv A outer s H E hr=>?_)
 exact(xsq (xst 2 Zep.nd (xce G_greatest_divisor hr T.e_greatest_divisor (Zg (xv 0) (xa1 (xv 1))))) (xsq (xif (xlt (xv 1) xci) (Zh (xst 2 Zep.nd (Zg2 (Zmw (xv 2))))) xnl) (Zh (xrt (xtp (Zg (Zqq (xv 0) (xv 2)) (xa1 (Zqq (xv 1) (xv 2)))))))))
theorem Znt:Zv ["top","bottom"] ["top","bottom"] (Zn Zgs):=fsc
theorem Znf{f:Nat->Addr}{fd:Nat->Xx}{cls:Nat->Addr}(T:Txt K mg f fd cls):FnOk P w K mg base CX0 3 (f 34) (fd 34) ["top","bottom"] (spD K (sD W8)):=by
 have G_in_least:=Znh (P:=P) (w:=w) (base:=base) T
 have G_is_whole:=Ze0 (P:=P) (w:=w) (base:=base) T
 refine Yd T.e_fraction.F Znt (S:=Zdy) rfl rfl (λcdv A outer s H E hr=>?_)
 have hu:=hr.units
 exact(xsq (xif (MW.mt (Zc1 (Zcw (xno (Wr (Wn (xce G_is_whole hr T.e_is_whole (xa1 (xv 0))) (λ_=>rfl)))) (Zc1 (Zcw (xno (Wr (Wn (xce G_is_whole hr T.e_is_whole (xa1 (xv 1))) (λ_=>rfl)))) (Zbl (xeq hu (xv 1) xci))))))) (Zh Zvl) xnl) (Zh (xrt (xce G_in_least hr T.e_in_least (Zg (xv 0) (xa1 (xv 1)))))))
theorem Jb:Zv ["n","distances","table","pair","distance"] ["n","distances"] (Zn Zao):=fsc
theorem Zf9{f:Nat->Addr}{fd:Nat->Xx}{cls:Nat->Addr}(T:Txt K mg f fd cls):FnOk P w K mg base CX0 2 (f 35) (fd 35) ["n","distances"] (spD K (sD Y9)):=by
 have G_pairs_of:=Za7 (P:=P) (w:=w) (base:=base) T
 refine Yd T.e_table_of_pairs.F Jb (S:=Y8) rfl rfl (λcdv A outer s H E hr=>?_)
 exact(xsq (Zhs (Zaw (i:=2) (own:=["point"]) (caps:=[0]) (N':=["point","n"]) true Jb.nd rfl (QS rfl) (by exact⟨rfl,by decide +kernel,rfl,by decide +kernel,rfl,rfl⟩) (by rfl) (by decide) (Zhg (Wu (by rfl) T.z_range (xa1 (xv 0)))) (λ_ _ _ _ _=>(xg 0 (by show Qs (["point","n"]:List Str);decide +kernel))) (λ_ _ _ _ _=>(Wx Wz)) (λ_ _ _ _ _=>(Zxw (Z5b (xtp (Zg xci (xa1 xci))) (xv 1)))))) (xsq (xfr X8 rfl (Zf6 (Zgt (by rfl) T.z_zip L2.B.boot_zip (Zg (xce G_pairs_of hr T.e_pairs_of (xa1 (xv 0))) (xa1 (xv 1))))) (xg2 rfl (xg 3 Jb.nd) (xg 4 Jb.nd)) (xsq (Zgu (Zgw 2 (xv 4) (xix (xv 3) xci) (xix (xv 3) xci) (λ_ _=>rfl))) (Zh (Zgu (Zgw 2 (xv 4) (xix (xv 3) xci) (xix (xv 3) xci) (λ_ _=>rfl)))))) (Zh (Zh1 (Zio 2)))))
theorem Wm:Zv ["n","cuts","weights","bottom","tops","sides","distances","i","j","parting"] ["n","cuts"] (Zn Zgx):=fsc
theorem Zng{f:Nat->Addr}{fd:Nat->Xx}{cls:Nat->Addr}(T:Txt K mg f fd cls):FnOk P w K mg base CX0 4 (f 36) (fd 36) ["n","cuts"] (spD K (sD Ja)):=by
 have G_all_sides:=Zl7 (P:=P) (w:=w) (base:=base) T
 have G_fraction:=Znf (P:=P) (w:=w) (base:=base) T
 have G_pairs_of:=Za7 (P:=P) (w:=w) (base:=base) T
 have G_shared_bottom:=Zc9 (P:=P) (w:=w) (base:=base) T
 have G_table_of_pairs:=Zf9 (P:=P) (w:=w) (base:=base) T
 have G_tops_over:=Zhc (P:=P) (w:=w) (base:=base) T
 refine Yd T.e_table_of.F Wm (S:=J4) rfl rfl (λcdv A outer s H E hr=>?_)
 have hu:=hr.units
 exact(xsq (Zub (Zaw (i:=2) (own:=["weighted"]) (caps:=[]) (N':=["weighted"]) false Wm.nd rfl (QS rfl) (by exact⟨rfl,by decide +kernel,rfl,by decide +kernel,rfl,rfl⟩) (by rfl) (by decide) (xil (xv 1)) (λ_ _ _ _ _=>(xg 0 (by show Qs (["weighted"]:List Str);decide +kernel))) (λ_ _ _ _ _=>(Wx Wz)) (λ_ _ _ _ _=>(xix (xv 0) xci)))) (xsq (xst 3 Wm.nd (xce G_shared_bottom hr T.e_shared_bottom (xa1 (xv 2)))) (xsq (xst 4 Wm.nd (xce G_tops_over hr T.e_tops_over (Zg (xv 3) (xa1 (xv 2))))) (xsq (xst 5 Wm.nd (xce G_all_sides hr T.e_all_sides (Zg (xv 0) (xa1 (xv 1))))) (xsq (xso 6 Wm.nd (xls xa0)) (xsq (xfr X8 rfl (xil (xce G_pairs_of hr T.e_pairs_of (xa1 (xv 0)))) (xg2 rfl (xg 7 Wm.nd) (xg 8 Wm.nd)) (xsq (Zub (Zaw (i:=9) (own:=["side","top"]) (caps:=[7,8]) (N':=["side","top","i","j"]) false Wm.nd rfl (QS rfl) (by exact⟨rfl,by decide +kernel,rfl,by decide +kernel,rfl,rfl⟩) (by rfl) (by decide) (Zf6 (Zgt (by rfl) T.z_zip L2.B.boot_zip (Zg (xv 5) (xa1 (xv 4))))) (λ_ _ _ _ _=>(xg2 rfl (xg 0 (by show Qs (["side","top","i","j"]:List Str);decide +kernel)) (xg 1 (by show Qs (["side","top","i","j"]:List Str);decide +kernel)))) (λ_ _ _ _ _=>(Zdx (xne hu (xix (xv 0) (xv 2)) (xix (xv 0) (xv 3))))) (λ_ _ _ _ _=>(xv 1)))) (Zh (Zb6 (Zb5 6 (xce G_fraction hr T.e_fraction (Zg (Zdc Z0p (Zi8 Ztb (Zig rfl (by rfl)) (by rfl) T.z_sum L2.B.boot_sum (xa1 (xv 9)))) (xa1 (xv 3))))))))) (Zh (Zfu (Zfg 6 (xrt (xce G_table_of_pairs hr T.e_table_of_pairs (Zg (xv 0) (xa1 (xv 6))))))))))))))
theorem Zhb:Zv ["table","cuts","n"] ["table","cuts"] (Zn Zew):=fsc
theorem Zlw{f:Nat->Addr}{fd:Nat->Xx}{cls:Nat->Addr}(T:Txt K mg f fd cls):FnOk P w K mg base CX0 5 (f 37) (fd 37) ["table","cuts"] (spD K (sD Jj)):=by
 have G_is_weighted:=Zjr (P:=P) (w:=w) (base:=base) T
 have G_table_of:=Zng (P:=P) (w:=w) (base:=base) T
 refine Yd T.e_shows_sum.F Zhb (S:=Zc7) rfl rfl (λcdv A outer s H E hr=>?_)
 have hu:=hr.units
 exact(xsq (xst 2 Zhb.nd (xln T.z_len (xa1 (xv 0)))) (Zh (xrt (Zb2 (Zjt (xce G_is_weighted hr T.e_is_weighted (Zg (xv 2) (xa1 (xv 1)))) (Zlx (W0 Zyd (Zhh (Zie hu) Zna (xce G_table_of hr T.e_table_of (Zg (xv 2) (xa1 (xv 1)))) (xv 0) (hm:=(Jr _))))))))))
theorem Zvc:Zv ["table","answer"] ["table","answer"] (Zn Zoa):=fsc
theorem Zui{f:Nat->Addr}{fd:Nat->Xx}{cls:Nat->Addr}(T:Txt K mg f fd cls):FnOk P w K mg base CX0 6 (f 38) (fd 38) ["table","answer"] (spD K (sD Zbv)):=by
 have G_shows_bars:=Zld (P:=P) (w:=w) (base:=base) T
 have G_shows_sum:=Zlw (P:=P) (w:=w) (base:=base) T
 refine Yd T.e_shows.F Zvc (S:=Zg3) rfl rfl (λcdv A outer s H E hr=>?_)
 have hu:=hr.units
 exact(xsq (xif (MW.mt (Zc1 (Zcw (xno (Wr (Wn (Zam (Zdl (by decide) (by rfl) T.z_isinstance L2.B.boot_isinstance (by rfl) T.z_tuple L2.B.boot_tuple (xv 1))) (λ_=>rfl)))) (Zbl (xne hu (xln T.z_len (xa1 (xv 1))) xci))))) (Zh (xrt (Zeo Zae))) xnl) (xsq (xif (xeq hu (xix (xv 1) xci) (Zeo Zob)) (Zh (xrt (xce G_shows_sum hr T.e_shows_sum (Zg (xv 0) (xa1 (xix (xv 1) xci)))))) xnl) (Zh (xrt (Zb2 (Zjt (W0 Zyd (Zhh (Zie hu) Zna (xix (xv 1) xci) (Zeo Zob) (hm:=(Jr _)))) (Zlx (xce G_shows_bars hr T.e_shows_bars (Zg (xv 0) (xa1 (xix (xv 1) xci)))))))))))
theorem Zb7:Zv ["script","k","xs","n","cuts","table","told","other","handed","found","due"] ["script"] (Zn Zzu):=fsc
theorem Z2l{f:Nat->Addr}{fd:Nat->Xx}{cls:Nat->Addr}(T:Txt K mg f fd cls):FnOk P w K mg base CX0 7 (f 39) (fd 39) ["script"] (spD K (sD Zgi)):=by
 have G_law_cell_at:=Zjq (P:=P) (w:=w) (base:=base) T
 have G_law_changed:=Zjh (P:=P) (w:=w) (base:=base) T
 have G_law_copy:=Zn5 (P:=P) (w:=w) (base:=base) T
 have G_law_numbers:=Zjw (P:=P) (w:=w) (base:=base) T
 have G_law_other_table:=Zfj (P:=P) (w:=w) (base:=base) T
 have G_law_sum_of:=Zkn (P:=P) (w:=w) (base:=base) T
 have G_law_table:=Zg6 (P:=P) (w:=w) (base:=base) T
 have G_law_weighted:=Zhx (P:=P) (w:=w) (base:=base) T
 have G_shows:=Zui (P:=P) (w:=w) (base:=base) T
 refine Yd T.e_law.F Zb7 (S:=Zjx) rfl rfl (λcdv A outer s H E hr=>?_)
 have hu:=hr.units
 exact(xsq (xfr X8 rfl (Zhg (Wu (by rfl) T.z_range (xa1 (Zdc Yak (Zi8 Zy5 (Zse (by rfl)) (by rfl) T.z_max L2.B.boot_max (Zg xci (xa1 (Zdc Z4g (Zi8 Zr1 (Zmu (by rfl)) (by rfl) T.z_min L2.B.boot_min (Zg (xln T.z_len (xa1 (xv 0))) (xa1 xci))))))))))) (xg 1 Zb7.nd) (xsq (xst 2 Zb7.nd (xce G_law_numbers hr T.e_law_numbers (Zg (xce G_law_cell_at hr T.e_law_cell_at (Zg (xv 0) (xa1 (xv 1)))) (xa1 xci)))) (xsq (xst 3 Zb7.nd (Zex xci (Zbe (xix (xv 2) xci) xci))) (xsq (xst 4 Zb7.nd (xce G_law_weighted hr T.e_law_weighted (Zg (xv 3) (xa1 (xv 2))))) (xsq (xst 5 Zb7.nd (Zwt (Zzr G_law_other_table (hr.mono (by decide)) (by rfl) T.e_law_other_table.m T.e_law_other_table.F.kp T.e_law_other_table.b Z4h (Zg (xce G_law_table hr T.e_law_table (Zg (xv 3) (xa1 (xv 4)))) (xa1 (Z1w (Z73 (Jf (Jh (xv 2) (Z1 (Z2 xci)) (Z1 (Z2 xci))))))))))) (xsq (xst 6 Zb7.nd (Zm0 Zoc (Z7s Zke (Zec rfl) (by rfl) T.z_list L2.B.boot_list (xa1 (xv 4))))) (xsq (xif (MW.mt (Zi6 (Zia (xne hu (xv 4) (xls xa0)) (Zet (xgt (Zbe (xix (xv 2) xci) xci) xci))))) (xsq (xst 6 Zb7.nd (xce G_law_changed hr T.e_law_changed (Zg (xv 4) (Zg (xv 3) (xa1 (Jf (Jh (xv 2) (Z1 (Z2 xci)) (Z1 (Z2 xci))))))))) (Zh (xif (MW.mt (Zi6 (Zia (xlt (Zbe (xix (xv 2) xci) xci) xci) (Zet (xgt (Zbe (xix (xv 2) xci) xci) xci))))) (xsq (xst 7 Zb7.nd (xce G_law_table hr T.e_law_table (Zg (xv 3) (xa1 (xv 6))))) (Zh (xif (xeq hu (Wg (Zcc ["row"] [] ["row"] (xil (xv 7)) (λ_ _ _ _ _=>(xg 0 (by show Qs (["row"]:List Str);decide +kernel))) (λ_ _ _ _ _=>(Zdx (xlt (Zdc Z5f (Zi8 Zzh (Ztv rfl (by rfl)) (by rfl) T.z_min L2.B.boot_min (xa1 (Wg (Zcc ["far"] [] ["far"] (xil (xv 0)) (λ_ _ _ _ _=>(xg 0 (by show Qs (["far"]:List Str);decide +kernel))) (λ_ _ _ _ _=>(Wx Wz)) (λ_ _ _ _ _=>(xix (xv 0) xci))))))) xci))) (λ_ _ _ _ _=>(xv 0)))) (xls xa0)) (Zh (xst 5 Zb7.nd (xv 7))) xnl))) xnl))) xnl) (xsq (xst 8 Zb7.nd (Ztx (Zxl (Zg (Zeo Zob) (xa1 (Wg (Zcc ["cut","weight"] [] ["cut","weight"] (xil (xv 6)) (λ_ _ _ _ _=>(xg2 rfl (xg 0 (by show Qs (["cut","weight"]:List Str);decide +kernel)) (xg 1 (by show Qs (["cut","weight"]:List Str);decide +kernel)))) (λ_ _ _ _ _=>(Wx Wz)) (λ_ _ _ _ _=>(xtp (Zg (Zm0 Zoc (Z7s Zke (Zec rfl) (by rfl) T.z_list L2.B.boot_list (xa1 (xv 0)))) (xa1 (xv 1)))))))))))) (xsq (xst 9 Zb7.nd (xce G_shows hr T.e_shows (Zg (xce G_law_copy hr T.e_law_copy (xa1 (xv 5))) (xa1 (xv 8))))) (xsq (xst 10 Zb7.nd (xce G_law_sum_of hr T.e_law_sum_of (Zg (xln T.z_len (xa1 (xv 5))) (Zg (xv 6) (xa1 (xv 5)))))) (Zh (xif (MW.mt (Zc1 (Zcw (xno (Wr (Wn (Zam (Zdl (by decide) (by rfl) T.z_isinstance L2.B.boot_isinstance (by rfl) T.z_bool L2.B.boot_bool (xv 9))) (λ_=>rfl)))) (Zc1 (Zcw (xne hu (xv 9) (xv 10)) (Zbl (xne hu (xv 8) (xtp (Zg (Zeo Zob) (xa1 (xv 6))))))))))) (Zh (xrt (Zeo Zae))) xnl)))))))))))) (Zh (xrt (Zeo Zae))))
theorem Zyf{f:Nat->Addr}{fd:Nat->Xx}{cls:Nat->Addr}(T:Txt K mg f fd cls):FnOk P w K mg base CX0 7 (f 39) (fd 39) ["script"] (spD K Z2e):=(Z2l T).imp λvs H Q E q=>by
 obtain⟨L,ds,k,h1,⟨ns,e,hl,hk⟩,h3⟩:=q
 exact⟨L,ds,k,h1,⟨_,by rw[e];exact Zvn ns hl,hk⟩,h3⟩
end
theorem Z4y{l:PySem.W.OpenLaw}{w:Qo}{K:Xb}{h:Heap}{mg:Str->Option Xc}{fa:Addr}(X:K.In h)(G:h.Ns Qh mg)(hfa:mg "law"=some (.ref fa))
  (q1:Ei K "_law_cell_at" Zc3 f1 d1)
  (q2:Ei K "_law_bent" Zf0 f2 d2)
  (q3:Ei K "_law_cuts" Zgb f3 d3)
  (q4:Ei K "_law_low" Zhz f4 d4)
  (q5:Ei K "_law_plus" Zgj f5 d5)
  (q6:Ei K "_law_changed" Zc0 f6 d6)
  (q7:Ei K "_law_copy" Zgl f7 d7)
  (q8:Ei K "_law_numbers" Zcq f8 d8)
  (q9:Ei K "_law_other_table" Zad f9 d9)
  (q10:Ei K "_law_is_cut" Zd2 f10 d10)
  (q11:Ei K "_law_is_fraction" Zag f11 d11)
  (q12:Ei K "_law_table" Ze5 f12 d12)
  (q13:Ei K "_law_sum_of" Zd5 f13 d13)
  (q14:Ei K "_law_weight" Zd7 f14 d14)
  (q15:Ei K "_law_weighted" Zb3 f15 d15)
  (q16:Ei K "all_cuts" Zf4 f16 d16)
  (q17:Ei K "pairs_of" Zgk f17 d17)
  (q18:Ei K "parted_sum" Zdw f18 d18)
  (q19:Ei K "sides_of" Zf8 f19 d19)
  (q20:Ei K "bars_no_cut" Zc5 f20 d20)
  (q21:Ei K "distances_of" Zby f21 d21)
  (q22:Ei K "greatest_divisor" Jx f22 d22)
  (q23:Ei K "is_whole" Zf3 f23 d23)
  (q24:Ei K "is_fraction" Zcr f24 d24)
  (q25:Ei K "is_row_for" Zd6 f25 d25)
  (q26:Ei K "shared_bottom" Za0 f26 d26)
  (q27:Ei K "tops_over" Ze1 f27 d27)
  (q28:Ei K "shows_bars" Zdp f28 d28)
  (q29:Ei K "is_rising" Zey f29 d29)
  (q30:Ei K "is_cut" Zkl f30 d30)
  (q31:Ei K "is_weighted_cut" Zac f31 d31)
  (q32:Ei K "is_weighted" Zct f32 d32)
  (q33:Ei K "all_sides" Ze3 f33 d33)
  (q34:Ei K "in_least" Zgp f34 d34)
  (q35:Ei K "fraction" Zgs f35 d35)
  (q36:Ei K "table_of_pairs" Zao f36 d36)
  (q37:Ei K "table_of" Zgx f37 d37)
  (q38:Ei K "shows_sum" Zew f38 d38)
  (q39:Ei K "shows" Zoa f39 d39)
  (q40:Ei K "law" Zzu f40 d40)
  (z0:Q6 K Qh "abs"=some none)
  (z1:Q6 K Qh "bool"=some none)
  (z2:Q6 K Qh "int"=some none)
  (z3:Q6 K Qh "isinstance"=some none)
  (z4:Q6 K Qh "len"=some none)
  (z5:Q6 K Qh "list"=some none)
  (z6:Q6 K Qh "max"=some none)
  (z7:Q6 K Qh "min"=some none)
  (z8:Q6 K Qh "range"=some none)
  (z9:Q6 K Qh "sorted"=some none)
  (z10:Q6 K Qh "sum"=some none)
  (z11:Q6 K Qh "tuple"=some none)
  (z12:Q6 K Qh "zip"=some none)
  (cc_NoNumber:Q6 K Qh "NoNumber"=some (some (.ref C_NoNumber)))
  (x_NoNumber:Zik K C_NoNumber)
  (r_NoNumber:Z2n K C_NoNumber)
  :∃fd:Xx,(∀(s:Xd) (v:Xc),BindsTo s fd ⟨[v],[]⟩ [("script",v)])∧∀base:Heap,K.In base->base.Ns Qh mg->FnOk l.prog w K mg base CX0 7 fa fd ["script"] (spD K Z2e):=by
 have e:=hfa.symm.trans (PySem.W.mg_of X G q40.a)
 cases e
 have T:Txt K mg (λk=>[f1,f2,f3,f4,f5,f6,f7,f8,f9,f10,f11,f12,f13,f14,f15,f16,f17,f18,f19,f20,f21,f22,f23,f24,f25,f26,f27,f28,f29,f30,f31,f32,f33,f34,f35,f36,f37,f38,f39,f40].getD k 0) (λk=>[d1,d2,d3,d4,d5,d6,d7,d8,d9,d10,d11,d12,d13,d14,d15,d16,d17,d18,d19,d20,d21,d22,d23,d24,d25,d26,d27,d28,d29,d30,d31,d32,d33,d34,d35,d36,d37,d38,d39,d40].getD k d40) (λk=>[C_NoNumber].getD k 0):=⟨en2 X G q1,en3 X G q2,en1 X G q3,en2 X G q4,en2 X G q5,en3 X G q6,en1 X G q7,en2 X G q8,en2 X G q9,en2 X G q10,en1 X G q11,en2 X G q12,en3 X G q13,en2 X G q14,en2 X G q15,en1 X G q16,en1 X G q17,en3 X G q18,en2 X G q19,en2 X G q20,en1 X G q21,en2 X G q22,en1 X G q23,en1 X G q24,en2 X G q25,en1 X G q26,en2 X G q27,en2 X G q28,en1 X G q29,en2 X G q30,en2 X G q31,en2 X G q32,en2 X G q33,en2 X G q34,en2 X G q35,en2 X G q36,en2 X G q37,en2 X G q38,en2 X G q39,en1 X G q40,QF X G z0,QF X G z1,QF X G z2,QF X G z3,QF X G z4,QF X G z5,QF X G z6,QF X G z7,QF X G z8,QF X G z9,QF X G z10,QF X G z11,QF X G z12,ec X G cc_NoNumber,x_NoNumber,r_NoNumber⟩
 refine⟨d40,λs v=>?_,λbase _ _=>Zyf (P:=l.prog) (w:=w) (base:=base) T⟩
 obtain⟨_,_,_,_,_,_,_,_,_,rfl,_,_⟩:=q40.F.ex
 exact .of_eq rfl
theorem walk{l:PySem.W.OpenLaw}{q:XH}{loose:List Str}{XP:(Str->Option Xc)->Heap->Prop}{YP:Qo->Heap->Prop}{d:DefRec}{K:Params->Xb}(hn:l.most=some 63)(hdf:d.params.defaults=[])
  (hY:∀(w:Qo) (h:Heap),YP w h->(K w.params).In h)
  (F:∀(w:Qo) (mg:Str->Option Xc) (fa:Addr) (h:Heap),(K w.params).In h->h.Ns Qh mg->mg d.name=some (.ref fa) ->
   ∃fd:Xx,(∀(s:Xd) (u:Xc),BindsTo s fd ⟨[u],[]⟩ [("script",u)])∧∀base:Heap,(K w.params).In base->base.Ns Qh mg->FnOk l.prog w (K w.params) mg base CX0 7 fa fd ["script"] (spD (K w.params) Z2e)) :
  PySem.W.WalkO q loose XP YP l.row.toRowW d [] (λf vs=>PySem.call f vs) :=
 L2.Zxy (n:=63) (k:=7) (x :="script") (CX:=λ_=>CX0) (sp:=λw=>spD (K w.params) Z2e) hn (by decide) hdf ⟨rfl,by decide,by decide⟩ hY F (λ_ _ a ns hl _ hS=>Z23 hl hS) λ_ _ _ _ _ z=>z
end My
open PySem PySem.W PyProof.Rows
theorem PySem.W.Fast.tw15240794229180750298:True:=trivial
theorem PySem.W.Fast.tw10865691761183565918:True:=trivial
theorem PySem.W.Fast.tw2167263672553753873:True:=trivial
theorem PySem.W.Fast.tw7219265336266367481:True:=trivial
theorem PySem.W.Fast.tw15792916936618798499:True:=trivial
theorem PySem.W.Fast.tw12327346797996003945:True:=trivial
theorem PySem.W.Fast.tw3276493164264119554:True:=trivial
theorem PySem.W.Fast.tw17617054084100241614:True:=trivial
theorem PySem.W.Fast.tw8780057388839907429:True:=trivial
theorem PySem.W.Fast.tw5528957867008585075:True:=trivial
theorem PySem.W.Fast.tw9358600686636458106:True:=trivial
theorem PySem.W.Fast.tw16418251948261077649:True:=trivial
theorem PySem.W.Fast.tw14276189321902612299:True:=trivial
theorem PySem.W.Fast.tw868178188506989449:True:=trivial
theorem PySem.W.Fast.tw5194589745251332256:True:=trivial
theorem PySem.W.Fast.tw9147617831976914240:True:=trivial
theorem PySem.W.Fast.tw4667285579625579581:True:=trivial
theorem PySem.W.Fast.tw8789253922712987337:True:=trivial
theorem PySem.W.Fast.tw1202693323834834450:True:=trivial
theorem PySem.W.Fast.tw14401334697335483214:True:=trivial
theorem PySem.W.Fast.tw3788850933684689594:True:=trivial
theorem PySem.W.Fast.tw4196802771010557066:True:=trivial
theorem PySem.W.Fast.tw9059848529616443117:True:=trivial
theorem PySem.W.Fast.tw11343216106690969055:True:=trivial
theorem PySem.W.Fast.tw5466546142586235012:True:=trivial
theorem PySem.W.Fast.tw7003110598186307545:True:=trivial
theorem PySem.W.Fast.tw6381241669724319282:True:=trivial
theorem PySem.W.Fast.tw15070273026640845668:True:=trivial
theorem PySem.W.Fast.tw11460049932609946426:True:=trivial
theorem PySem.W.Fast.tw5897217137920213390:True:=trivial
theorem PySem.W.Fast.tw5543126397982697055:True:=trivial
theorem PySem.W.Fast.tw14797249383394697549:True:=trivial
theorem PySem.W.Fast.tw7165006607992262404:True:=trivial
theorem PySem.W.Fast.tw11192897270114159673:True:=trivial
theorem PySem.W.Fast.tw15016508669080099144:True:=trivial
theorem PySem.W.Fast.tw4533111529438093403:True:=trivial
theorem PySem.W.Fast.tw12864854642168219026:True:=trivial
theorem PySem.W.Fast.tw10633331706238388741:True:=trivial
theorem PySem.W.Fast.tw1883148058230690102:True:=trivial
theorem PySem.W.Fast.tw375241015924412906:True:=trivial
set_option maxRecDepth 100000 in
set_option maxHeartbeats 0 in
theorem PySem.Challenge.cw_farcuts_k36_cuts_looked_at_holds : PySem.Challenge.rw_farcuts_k36_cuts_looked_at.Holds := by
 w_on;o_law;k_head;(case hw=>w_witness2)
 k_fill
 refine My.walk (l:=PySem.Challenge.rw_farcuts_k36_cuts_looked_at) rfl rfl (λw h Y=>PySem.W.kIn_of Y) ?F
 case F=>
  intro w mg fa h KX G hmg
  refine' My.Z4y KX G hmg ?_ ?_ ?_ ?_ ?_ ?_ ?_ ?_ ?_ ?_ ?_ ?_ ?_ ?_ ?_ ?_ ?_ ?_ ?_ ?_ ?_ ?_ ?_ ?_ ?_ ?_ ?_ ?_ ?_ ?_ ?_ ?_ ?_ ?_ ?_ ?_ ?_ ?_ ?_ ?_ ?_ ?_ ?_ ?_ ?_ ?_ ?_ ?_ ?_ ?_ ?_ ?_ ?_ ?_ ?_ ?_
  all_goals try (first|(refine' ⟨?a,L2.Z3i ?l ?c ?k⟩;(case a=>k_is);(case l=>k_is);(case c=>k_is);(case k=>k_is))|k_is|kit_is|(show PySem.W.excIn _ _ _ _=true;k_exc)|(refine' ⟨?_,?_,?_,?_,?_,?_,?_,?_,?_,?_,?_⟩<;>first|k_is|kit_is|(show PySem.W.isClsIn _ _=true;k_is)))
#print axioms PySem.Challenge.cw_farcuts_k36_cuts_looked_at_holds
