import PyProof.Rows.All
import Wide.All
import OpenK.AllK
import Wide.FinOn
import PyProof.EqAt
import PyProof.EqKinds
import PyProof.TupleCall
import PyProof.P3In
import PyProof.ZipIter
import PyProof.ListRange
import PyProof.SetRoads
import PyProof.Rows.SetFrom
import PyProof.Rows.SeqMore2
import KE.RegKIsAll
import PyProof.StrWalks
import PyProof.EnumMake
import PyProof.Conv_int
import PyProof.Conv_int_bool
import KE.KIntText
import PyProof.StrLawsTight
import PyProof.Rows.StrItems
import PyProof.Rows.StrJoin2
import PyProof.StrBlockI
import PyProof.Draws
import PyProof.DictItems
import KE.KDictList
import PySem.Challenge.RW_farcuts_k82_whole_texts_tell_apart
set_option Elab.async false
set_option linter.all false
set_option maxRecDepth 100000
set_option genSizeOfSpec false
set_option genInjectivity false
/-! THE HAND LAYER, for ints, bools, texts, own classes, LISTS and tuples (index, slices, in, append, pop ..), calls, loops. Paste it whole ahead of your own text; what your proof does not reach may be deleted. -/
open Array renaming getElem?_toList->QZ,length_toList->JC,getElem?_eq_getElem->BP,getElem?_eq_none->Vk
open Bool renaming false_ne_true->Xm,and_eq_true->XX,false_eq_true->Bf
open Classical renaming propDecidable->Bk,axiomOfChoice->V0
open False renaming elim->Vy
open ForInStep renaming yield->JP
open Int renaming gcd->Q3,toNat_natCast->JG,lt_of_lt_of_le->Bx,eq_ofNat_of_zero_le->Vj,lt_of_le_of_lt->Vn,natAbs_natCast->V9,gcd_eq_natAbs_gcd_natAbs->Uw,zero_add->UW,fdiv_eq_ediv_of_nonneg->U9
open List renaming length_map->Xc,getElem?_eq_some_iff->Xi,getElem?_map->Xj,mem_singleton->Xn,mem_cons->Xo,mem_map->Xp,getD_eq_getElem?_getD->Xq,map_map->Xr,map_cons->Xv,getElem?_eq_getElem->Xx,range->Xz,length_range->XD,size_toArray->XM,map_congr_left->XN,mem_of_getElem?->X5,replicate->X6,length_append->X7,length_cons->Qh,mem_append_right->Qi,map_append->Qj,nodup_cons->Qm,mem_range->Qn,mem_append->Qq,getElem?_set_ne->Qs,getElem?_set_self->Qz,Nodup->QD,getElem?_range->QM,lookup_cons->QR,append_nil->QX,getElem?_eq_none->Q0,getElem_mem->Q5,getElem?_eq_none_iff->JB,sum_cons->JS,getElem?_append_right->JV,append_assoc->JW,length_set->JZ,exists_cons_of_ne_nil->Bv,replicate_succ->Vb,map_eq_nil_iff->Vc,length_drop->Vd,filter_cons_of_pos->Ve,filter_cons_of_neg->Vf,filter_append->Vl,nodup_append->Vs,flatten_cons->Vt,mem_append_left->VB,getElem?_of_mem->VD,toArray->VF,take_length->VG,not_mem_nil->VH,all_eq_true->VJ,pairwise_iff_getElem->VN,getElem?_append_left->VP,length_pos_iff->VR,any_cons->V2,mem_filter->V5,find?_cons->V6,filter_nil->V7,take_succ->Ue,length_singleton->Uk,length_replicate->Ul,cons_ne_nil->Um,mem_cons_of_mem->Us,length->Ut,eq_nil_of_length_eq_zero->Uu,mem_cons_self->U0,forIn_nil->U3
open List.cons renaming inj->QW
open Nat renaming ne_of_lt->Xu,le_refl->XC,ne_of_gt->X3,le_trans->Qa,lt_of_lt_of_le->Qe,le_of_ble_eq_true->QB,lt_irrefl->QC,zero_le->JF,le_add_right->Bu,lt_succ_self->Vi,not_lt_zero->Vo,lt_trichotomy->Vv,zero_add->Ug,lt_trans->Uh,lt_or_ge->Ui
open Ne renaming symm->Bo
open Option renaming bind_some->Xf,map_eq_some_iff->Q4,some->JL
open Option.some renaming inj->Qu
open Or renaming inr->Qt,inl->Qw
open Prod renaming fst->BW
open PyProof.Rows renaming seqObj->Vg,callWith_type1->Vh,IntsAre->VL,SortKind->Ub
open PySem renaming PyData->Xa,wpAny_bind->Xd,Value->Xe,Shared->Xg,sizeLine->Xk,starEach->Xw,wpAny_pure->Xy,FuncData->XF,Program->XJ,wpAny->XR,sizeLine_eq->Qc,mainGlobals->Qd,model->Qg,Around->Qk,World->Ql,bootBuiltins->Qp,compareOp->QS,assignEach->Q6,wpAny_loadPart'->Q9,mem_of_lookup->JT,foldedSetIterable->Ba,cellsFrom->Bb,backTo->Bg,wpAny_mono->Bm,NameKind->Bp,wpAny_truthy_bool->Bq,wpAny_newObj_type->Br,wpAny_callSpecial?_slot->Bs,IsPair->Bw,wpAny_field->By,wpAny_call_entry->BJ,swapsWith->BK,pushCells->BL,sysModules->BV,wpAny_seqItems->Vm,wpAny_typeNameOfWhole_keyiter->Vp,wpAny_setField_rec->Vq,wpAny_passesOwn->Vw,Keyword->V8,attributeBase->Ua,Scope->Ud,wpAny_loadPart_at->Uo,binaryOp->Uq,assign->Ur,wpAny_holding->Ux,swapsWithSole->Uy,swappedStores->Uz,behindInMarks->UG,sliceBounds->UL,keywordEach->UT,cLine->UV,pushCells_keeps->U5,letOwnedTupleGo->U6,Paired->U7
open PySem.Builtin.Int renaming intBits->JM
open PySem.Builtin.List renaming listTooLong->Uv
open PySem.Builtin.SmallTypes renaming nextOf->QK,ownedTupleIsFree->Be,ownedTupleHandOut->U4
open PySem.Builtin.Str renaming occurrences->QJ,strKind->BR
open PySem.F renaming slot_dict_keyiterator_next->JK,slot_str_split->Bl,type_str_split->V1
open PySem.Heap renaming get?_push_of_some->Xh,lt_size->XH,get?_push_size->XQ,size_push->JH,SameBut->BX
open PySem.Heap.SameBut renaming update->Uj
open PySem.NameKind renaming free->QQ,cell->Bc
open PySem.Obj renaming mapSeq->JX,data_mapFields->U8
open PySem.PassesOwn renaming never->X8
open PySem.PyData renaming int->Xl,tuple->QF,eqv->QL,str->QT,canLayAll0->JN,list->Bh,canLay0->Bj,bool->V4
open PySem.SeqAt renaming shaped->JQ,EqAt->JR,canLay_of_shaped->Uc
open PySem.Str renaming ofString_eq_toList->Q7,ofString->Q8
open PySem.Txt renaming split->Qy,join->V3
open PySem.Value renaming ref->Qo,none->QH,int->UJ
open PySem.W renaming Frag->Xb,nsIn->Qx,mg_none_of->QG,kia_one->QV,Looks->JD,kitOne->BZ,findIn->Va,keepIn->Vr,fnOf->Vx,mg_of->VM
open Rat renaming divInt->X4,divInt_eq_div->Vu
open True renaming intro->Vz
noncomputable section
namespace L2
open PySem PySem.Spec PyProof.Rows
abbrev Key:=Sum Int Str
def Zr3:Key->Xe->Bool
 | .inl k,v=>Xe.isInt k v
 | .inr x,v=>Value.isStrOf x v
def Yko(w:Ql):Key->Int
 | .inl k=>hashInt k
 | .inr x=>hashStr w x
theorem We:∀{k:Key} {v:Xe},Zr3 k v=true->(∃i t,k=Sum.inl i/\v=UJ i t)\/(∃x t,k=Sum.inr x/\v=Value.str x t)
 | .inl i,v,h=>by
  obtain⟨t,e⟩:=Value.isInt_shape (k:=i) (v:=v) h
  exact .inl ⟨i,t,rfl,e⟩
 | .inr x,v,h=>by
  obtain⟨t,e⟩:=Xe.isStrOf_shape (x:=x) (v:=v) h
  exact .inr ⟨x,t,rfl,e⟩
theorem Zv2(i:Int)(t:Tok):Zr3 (.inl i) (.int i t)=true:=by simp[Zr3,Xe.isInt]
theorem Zv9(x:Str)(t:Tok):Zr3 (.inr x) (.str x t)=true:=by simp[Zr3,Value.isStrOf]
theorem Ybo(a b:Int):decide ((Sum.inl a:Key)=Sum.inl b)=(a==b):=by
 by_cases e:a=b
 .subst e;simp
 .have h:¬(Sum.inl a:Key)=Sum.inl b:=λq=>e (Sum.inl.inj q)
  rw[decide_eq_false h]
  exact(beq_eq_false_iff_ne.mpr e).symm
theorem Ybc(a b:Str):decide ((Sum.inr a:Key)=Sum.inr b)=decide (a=b):=by
 by_cases e:a=b
 .subst e;simp
 .have h:¬(Sum.inr a:Key)=Sum.inr b:=λq=>e (Sum.inr.inj q)
  rw[decide_eq_false h,decide_eq_false e]
theorem Z9d(a:Int)(b:Str):decide ((Sum.inl a:Key)=Sum.inr b)=false:=decide_eq_false (λq=>nomatch q)
theorem Ybs(a:Str)(b:Int):decide ((Sum.inr a:Key)=Sum.inl b)=false:=decide_eq_false (λq=>nomatch q)
def Jw(prog:XJ)(w:Ql):PySem.KeyKind prog w Key where
 is:=Zr3
 hash:=Yko w
 inj:=λv a b ha hb=>by
  rcases We ha with⟨i,t,rfl,rfl⟩|⟨x,t,rfl,rfl⟩
  .rcases We hb with⟨j,u,rfl,e⟩|⟨y,u,rfl,e⟩
   .injection e with e1 _;rw[e1]
   .exact nomatch e
  .rcases We hb with⟨j,u,rfl,e⟩|⟨y,u,rfl,e⟩
   .exact nomatch e
   .injection e with e1 _;rw[e1]
 byValue:=λk v h=>by
  rcases We h with⟨i,t,rfl,rfl⟩|⟨x,t,rfl,rfl⟩<;>rfl
 pyHash:=λhv h=>by
  rcases We hv with⟨i,t,rfl,rfl⟩|⟨x,t,rfl,rfl⟩
  .exact wpAny_pyHash_int h
  .exact wpAny_pyHash_str h
 eqBool:=λhu hv h=>by
  rcases We hu with⟨i,t,rfl,rfl⟩|⟨x,t,rfl,rfl⟩
  .rcases We hv with⟨j,u,rfl,rfl⟩|⟨y,u,rfl,rfl⟩
   .rw[Ybo]at h;exact wpAny_eqBool_int h
   .rw[Z9d]at h;exact SeqAt.EqAt.int_str i t y u _ _ _ _ h
  .rcases We hv with⟨j,u,rfl,rfl⟩|⟨y,u,rfl,rfl⟩
   .rw[Ybs]at h;exact SeqAt.EqAt.str_int x t j u _ _ _ _ h
   .rw[Ybc]at h;exact wpAny_eqBool_str h
 «strs»:=λk x t v h=>by
  rcases We h with⟨i,u,rfl,e⟩|⟨y,u,rfl,e⟩
  .exact nomatch e
  .injection e with e1 _
   subst e1
   cases v<;>rfl
theorem Zpc(prog:XJ)(w:Ql)(i:Int)(t:Tok):(Jw prog w).is (.inl i) (.int i t)=true:=Zv2 i t
theorem Zpz(prog:XJ)(w:Ql)(x:Str)(t:Tok):(Jw prog w).is (.inr x) (.str x t)=true:=Zv9 x t
inductive V where
 | non|bl (b:Bool)|int (i:Int)|str (x:Str)|byt (b:Array UInt8)|flt (b:UInt64)|ref (a:Addr)|ty (n:String)
 deriving DecidableEq
def RelV:V->Xe->Prop
 | .non,u=>u=QH
 | .bl b,u=>u=Value.bool b
 | .int i,u=>∃t,u=UJ i t
 | .str x,u=>∃t,u=Value.str x t
 | .byt b,u=>∃t,u=Xe.bytes b t
 | .flt b,u=>∃t,u=Xe.float b t
 | .ref a,u=>u=Qo a
 | .ty n,u=>u=Value.type n
abbrev Vals:List V->List Xe->Prop:=U7 RelV
theorem Vals.length{xs:List V}{us:List Xe}(r:Vals xs us):xs.length=us.length:=Paired.length r
theorem Vals.get{xs:List V}{us:List Xe}{i:Nat}{x:V}(h:Vals xs us)(e:xs[i]? =some x):∃u,us[i]? =some u/\RelV x u:=by
 induction h generalizing i with
 | nil=>exact(Option.some_ne_none _ (e.symm.trans List.getElem?_nil)).elim
 | cons r t ih=>
  cases i with
  | zero=>exact⟨_,rfl,Qu e▸r⟩
  | succ i=>exact ih e
theorem Vals.set{x:V}{u:Xe}(r:RelV x u){xs:List V}{us:List Xe}(i:Nat)(h:Vals xs us):Vals (xs.set i x) (us.set i u):=by
 induction h generalizing i with
 | nil=>exact .nil
 | cons q t ih=>
  cases i with
  | zero=>exact .cons r t
  | succ i=>exact .cons q (ih i)
theorem Vals.append{xs ys:List V}{us ws:List Xe}(h:Vals xs us)(s:Vals ys ws):Vals (xs ++ ys) (us ++ ws):=by
 induction h with
 | nil=>exact s
 | cons r t ih=>exact .cons r ih
theorem Vals.take{xs:List V}{us:List Xe}(n:Nat)(h:Vals xs us):Vals (xs.take n) (us.take n):=by
 induction h generalizing n with
 | nil=>rw[List.take_nil,List.take_nil];exact .nil
 | cons r t ih=>
  cases n with
  | zero=>exact .nil
  | succ n=>exact .cons r (ih n)
theorem Vals.drop{xs:List V}{us:List Xe}(n:Nat)(h:Vals xs us):Vals (xs.drop n) (us.drop n):=by
 induction h generalizing n with
 | nil=>rw[List.drop_nil,List.drop_nil];exact .nil
 | cons r t ih=>
  cases n with
  | zero=>exact .cons r t
  | succ n=>exact ih n
def RelO:Option V->Option Xe->Prop
 | some v,some u=>RelV v u
 | none,none=>True
 | _,_=>False
def KV{κ:Type}:List (κ×V)->List (κ×Xe)->Prop:=U7 λ(p:κ×V) (q:κ×Xe)=>p.1=q.1/\RelV p.2 q.2
def kV:Key->V
 | .inl i=>.int i
 | .inr x=>.str x
inductive HO where
  | lst (xs:List V)
  | tup (xs:List V)
  | dK (kvs:List (Key×V))|dT (kvs:List (List Key×V))
  | set (S:Int->Bool) (n:Nat)
  | ins (C dx:Addr) (fs:List (Str×V))
  | own (x:Addr)
  | xd (fs:List (Str×V))
  | met (f x:Addr)
  | rng (lo hi:Int)
  | frz (o:Obj) (u:HO)
  | tbl (ps:Array Xe)
  | ext (φ:Heap->Prop)
abbrev Hp:=Addr->Option HO
def upd(H:Hp)(a:Addr)(o:HO):Hp:=λb=>if b=a then some o else H b
theorem Zy{H:Hp}{a:Addr}{o:HO}:upd H a o a=some o:=by unfold upd;rw[if_pos rfl]
theorem Zt{H:Hp}{a b:Addr}{o:HO}(h:b≠a):upd H a o b=H b:=by unfold upd;rw[if_neg h]
theorem Ydx{H:Hp}{a b:Addr}{o u:HO}(h:H a=some o)(h':H b=some u)(d:o≠u):a≠b:=by
 intro e;subst e;rw[h]at h';exact d (Qu h')
theorem Y7{H:Hp}{a b:Addr}{o:HO}(h:H a=some o)(h':H b=none):a≠b:=by
 intro e;subst e;rw[h]at h';cases h'
section
variable (P:XJ)(w:Ql)
def ObjOk(H:Hp)(h:Heap)(a:Addr):HO->Prop
 | .lst xs=>xs.length<=Xk/\∃(its:List Xe) (n:Nat),Vals xs its/\h.get? a=some { cls:=.type "list",data:=.seq its.toArray n }
 | .tup xs=>xs.length<=Xk/\∃its:List Xe,Vals xs its/\IsTup h a its.toArray
 | .dK kvs=>kvs.length<=Xk/\(a==BV)=false/\∃vs,KV kvs vs/\h.DictOf (Jw P w) a vs
 | .dT kvs=>kvs.length<=Xk/\(a==BV)=false/\∃xs:List (List Key×Addr×Xe),
   U7 (λ(p:List Key×V) (q:List Key×Addr×Xe)=>p.1=q.1/\H q.2.1=some (.tup (p.1.map kV))/\RelV p.2 q.2.2) kvs xs/\
   ∃o es ep,h.get? a=some o/\o.ExactDict/\o.data= .dict es ep/\es.toList=xs.map (entryOfKey (tupleKind (Jw P w)))/\(xs.map (·.1)).Nodup
 | .set S n=>h.SetOf (intKind P w) a S n
 | .ins C dx fs=>H dx=some (.own a)/\fs.length<=1000/\dx≠a/\h.get? a=some (PySem.W.instObj C dx)/\
   ∃mA,h.Ns1 dx mA/\(∀f,RelO (fs.lookup f) (mA f))/\PySem.Within mA (fs.map (·.1))
 | .own _=>∃o,h.get? a=some o
 | .xd fs=>∃mA,h.Ns1 a mA/\∀f,RelO (fs.lookup f) (mA f)
 | .rng lo hi=>∃t u v,h.get? a=some { cls:=.type "range",data:=.fields #[.int lo t,.int hi u,.int 1 v] }
 | .frz o u=>h.get? a=some o/\ObjOk H h a u
 | .tbl ps=>h.get? a=some { cls:=.none,data:=.fields ps }
 | .met f x=>h.get? a=some (PySem.W.methodObj (.ref f) (.ref x))
 | .ext φ=>φ h/\(∃o,h.get? a=some o)/\∀h1 h2:Heap,φ h1->(∀o,h1.get? a=some o->h2.get? a=some o)->φ h2
def HOk(H:Hp)(h:Heap):Prop:=∀a o,H a=some o->ObjOk P w H h a o
end
section
variable {P:XJ}{w:Ql}{H H':Hp}{h h':Heap}{a:Addr}{o:HO}
theorem ObjOk.lt(x:ObjOk P w H h a o):a<h.objs.size:=by
 cases o with
 | lst xs=>obtain⟨_,_,_,_,e⟩:=x;exact XH e
 | tup xs=>obtain⟨_,_,_,p⟩:=x;exact p.lt
 | dK kvs=>obtain⟨_,_,_,_,o,_,_,e,_⟩:=x;exact XH e
 | dT kvs=>obtain⟨_,_,_,_,o,_,_,e,_⟩:=x;exact XH e
 | set S n=>obtain⟨o,_,_,_,e,_⟩:=x;exact XH e
 | ins C dx fs=>obtain⟨_,_,_,e,_⟩:=x;exact XH e
 | own y=>obtain⟨_,e⟩:=x;exact XH e
 | xd fs=>obtain⟨_,⟨_,_,_,e,_⟩,_⟩:=x;exact XH e
 | rng lo hi=>obtain⟨_,_,_,e⟩:=x;exact XH e
 | frz ob u=>obtain⟨e,_⟩:=x;exact XH e
 | tbl ps=>exact XH (show h.get? a=some _ from x)
 | met f y=>exact XH (show h.get? a=some _ from x)
 | ext φ=>obtain⟨_,⟨_,e⟩,_⟩:=x;exact XH e
theorem U7.mapP{α β:Type}{F G:α->β->Prop}{l₁:List α}{l₂:List β}(h:U7 F l₁ l₂)(f:∀a b,F a b->G a b):U7 G l₁ l₂:=by
 induction h with
 | nil=>exact .nil
 | cons r t ih=>exact .cons (f _ _ r) ih
theorem ObjOk.stay(x:ObjOk P w H h a o)(k:∀b u,(b=a\/H b=some (.own a))->h.get? b=some u->h'.get? b=some u)
  (ho:∀b,H b=some (.own a)->H' b=some (.own a)) (ht:∀b xs,H b=some (.tup xs)->H' b=some (.tup xs)):ObjOk P w H' h' a o:=by
 induction o with
 | lst xs=>obtain⟨z,its,n,r,e⟩:=x;exact⟨z,its,n,r,k _ _ (.inl rfl) e⟩
 | tup xs=>obtain⟨z,its,r,ob,e,c⟩:=x;exact⟨z,its,r,ob,k _ _ (.inl rfl) e,c⟩
 | dK kvs=>obtain⟨z,y,vs,r,ob,es,ep,e,c⟩:=x;exact⟨z,y,vs,r,ob,es,ep,k _ _ (.inl rfl) e,c⟩
 | dT kvs=>
  obtain⟨z,y,xs,r,ob,es,ep,e,c⟩:=x
  exact⟨z,y,xs,U7.mapP r λp q z=>⟨z.1,ht _ _ z.2.1,z.2.2⟩,ob,es,ep,k _ _ (.inl rfl) e,c⟩
 | set S n=>obtain⟨ob,es,ep,t,e,c⟩:=x;exact⟨ob,es,ep,t,k _ _ (.inl rfl) e,c⟩
 | ins C dx fs=>
  obtain⟨d,z,ne,e,mA,⟨od,es,ep,e2,c⟩,r⟩:=x
  exact⟨ho _ d,z,ne,k _ _ (.inl rfl) e,mA,⟨od,es,ep,k _ _ (.inr d) e2,c⟩,r⟩
 | own y=>obtain⟨ob,e⟩:=x;exact⟨ob,k _ _ (.inl rfl) e⟩
 | xd fs=>obtain⟨mA,⟨od,es,ep,e,c⟩,r⟩:=x;exact⟨mA,⟨od,es,ep,k _ _ (.inl rfl) e,c⟩,r⟩
 | rng lo hi=>obtain⟨t,u,v,e⟩:=x;exact⟨t,u,v,k _ _ (.inl rfl) e⟩
 | frz ob u ih=>obtain⟨e,q⟩:=x;exact⟨k _ _ (.inl rfl) e,ih q⟩
 | tbl ps=>
  have e:h.get? a=some { cls:=.none,data:=.fields ps }:=x
  show h'.get? a=some { cls:=.none,data:=.fields ps }
  exact k a _ (.inl rfl) e
 | met f y=>
  have e:h.get? a=some (PySem.W.methodObj (.ref f) (.ref y)):=x
  show h'.get? a=some (PySem.W.methodObj (.ref f) (.ref y))
  exact k a _ (.inl rfl) e
 | ext φ=>obtain⟨p,⟨o,e⟩,st⟩:=x;exact⟨st _ _ p λo q=>k _ _ (.inl rfl) q,⟨o,k _ _ (.inl rfl) e⟩,st⟩
theorem HOk.lt(x:HOk P w H h)(e:H a=some o):a<h.objs.size:=(x a o e).lt
theorem HOk.fresh(x:HOk P w H h)(e:h.objs.size<=a):H a=none:=by
 cases q:H a with
 | none=>rfl
 | some u=>exact absurd (Qe (x.lt q) e) (QC _)
theorem HOk.kept(x:HOk P w H h)(k:∀b u,h.get? b=some u->h'.get? b=some u):HOk P w H h':=λa o e=>
 (x a o e).stay (λb u _ q=>k b u q) (λ_ q=>q) λ_ _ q=>q
theorem HOk.laid(x:HOk P w H h)(k:∀b u,h.get? b=some u->h'.get? b=some u)(hp:h.objs.size<=a)(new:ObjOk P w (upd H a o) h' a o):HOk P w (upd H a o) h':=λb u e=>by
 have hn:=x.fresh hp
 by_cases hb:b=a
 .subst hb;rw[Zy]at e;cases e;exact new
 .rw[Zt hb]at e
  exact(x b u e).stay (λc v _ q=>k c v q) (λc q=>by rw[Zt (Y7 q hn)];exact q) λc xs q=>by rw[Zt (Y7 q hn)];exact q
end
def Rd(H:Hp)(a:Addr)(u:HO):Prop:=H a=some u\/∃o,H a=some (.frz o u)
theorem Rd.ok{P:XJ}{w:Ql}{H:Hp}{h:Heap}{a:Addr}{u:HO}(r:Rd H a u)(x:HOk P w H h):ObjOk P w H h a u:=by
 rcases r with r|⟨o,r⟩
 .exact x a u r
 .obtain⟨_,q⟩:=x a _ r
  exact q
def Mut:Option HO->Prop
 | some (.lst _)=>True
 | some (.dK _)=>True
 | some (.dT _)=>True
 | some (.set _ _)=>True
 | some (.ins _ _ _)=>True
 | some (.ext _)=>True
 | _=>False
section
variable {P:XJ}{w:Ql}{H:Hp}{h h':Heap}{x e:Addr}{o':HO}
theorem HOk.write(ok:HOk P w H h)(mu:Mut (H x))(he:e=x\/H e=some (.own x))(k:∀b u,b≠e->h.get? b=some u->h'.get? b=some u)(heo:∃u,h'.get? e=some u)
  (new:ObjOk P w (upd H x o') h' x o'):HOk P w (upd H x o') h':=λb u q=>by
 have nown:∀c y,H c=some (.own y)->c≠x:=λc y r z=>by subst z;rw[r]at mu;exact mu
 have ntup:∀c xs,H c=some (.tup xs)->c≠x:=λc xs r z=>by subst z;rw[r]at mu;exact mu
 by_cases hb:b=x
 .subst hb;rw[Zy]at q;cases q;exact new
 .rw[Zt hb]at q
  by_cases hbe:b=e
  .have q':H b=some (.own x):=by
    rcases he with z|z
    .exact absurd (hbe.trans z) hb
    .rw[hbe];exact z
   rw[q]at q';cases q'
   obtain⟨v,hv⟩:=heo
   exact⟨v,by rw[hbe];exact hv⟩
  .refine(ok b u q).stay (λc v hc r=>k c v ?_ r) (λc r=>by rw[Zt (nown c b r)];exact r) λc xs r=>by rw[Zt (ntup c xs r)];exact r
   rcases hc with rfl|hc
   .exact hbe
   .rintro rfl
    rcases he with z|z
    .exact nown c b hc z
    .rw[hc]at z;cases z;exact hb rfl
end
structure Un(fs ex:List Addr)(H H':Hp)(h h':Heap):Prop where
 keep:∀b o,h.get? b=some o->H b=none->b∉fs->b∉ex->h'.get? b=some o
 slot:∀b o,h.get? b=some o->H b=none->b∈fs->b∉ex->∃sl,h'.get? b=some { o with slots:=sl }
 free:∀b o,h.get? b=some o->H b=none->b∉ex->H' b=none
 there:∀b o,h.get? b=some o->b∉ex->∃o',h'.get? b=some o'
 tups:∀b xs,H b=some (.tup xs)->H' b=some (.tup xs)
 frzs:∀b o u,H b=some (.frz o u)->H' b=some (.frz o u)
 tbls:∀b ps,H b=some (.tbl ps)->∃more,H' b=some (.tbl (ps ++ more))
section
variable {fs fs' ex ex':List Addr}{H H1 H2:Hp}{h h1 h2 h':Heap}{a x e:Addr}{o:HO}
theorem Un.any(u:Un fs ex H H1 h h1){b:Addr}{ob:Obj}(q:h.get? b=some ob)(n:H b=none)(hx:b∉ex):∃sl,h1.get? b=some { ob with slots:=sl }:=by
 by_cases hb:b∈fs
 .exact u.slot b ob q n hb hx
 .exact⟨ob.slots,u.keep b ob q n hb hx⟩
theorem Un.kept(k:∀b u,h.get? b=some u->h'.get? b=some u):Un fs ex H H h h' :=
 ⟨λb ob q _ _ _=>k b ob q,λb ob q _ _ _=>⟨ob.slots,k b ob q⟩,λ_ _ _ n _=>n,λb ob q _=>⟨ob,k b ob q⟩,λ_ _ q=>q,λ_ _ _ q=>q,λ_ ps q=>⟨#[],by rw[q];simp⟩⟩
theorem Un.refl:Un fs ex H H h h:=Un.kept λ_ _ q=>q
theorem Un.laid(k:∀b u,h.get? b=some u->h'.get? b=some u)(hp:h.objs.size<=a)(hn:H a=none):Un fs ex H (upd H a o) h h' where
 keep:=λb u q _ _ _=>k b u q
 slot:=λb u q _ _ _=>⟨u.slots,k b u q⟩
 free:=λb u q n _=>by rw[Zt (Xu (Qe (XH q) hp))];exact n
 there:=λb u q _=>⟨u,k b u q⟩
 tups:=λb xs q=>by rw[Zt (Y7 q hn)];exact q
 frzs:=λb u xs q=>by rw[Zt (Y7 q hn)];exact q
 tbls:=λb ps q=>⟨#[],by rw[Zt (Y7 q hn),q];simp⟩
theorem Un.write(mu:Mut (H x))(he:e=x\/H e=some (.own x))(k:∀b u,b≠e->h.get? b=some u->h'.get? b=some u)(heo:∃u,h'.get? e=some u):Un fs ex H (upd H x o) h h':=by
 have hx:∀b,H b=none->b≠x:=λb n z=>by subst z;rw[n]at mu;exact mu
 have hb:∀b,H b=none->b≠e:=λb n z=>by
  subst z
  rcases he with r|r
  .exact hx b n r
  .rw[n]at r;cases r
 have hm:∀b u,H b=some u->¬Mut (some u)->b≠x:=λb u q nm z=>by subst z;rw[q]at mu;exact nm mu
 refine⟨λb u q n _ _=>k b u (hb b n) q,λb u q n _ _=>⟨u.slots,k b u (hb b n) q⟩,λb u q n _=>by rw[Zt (hx b n)];exact n,λb u q _=>?_,
  λb xs q=>by rw[Zt (hm b _ q λz=>z)];exact q,λb u xs q=>by rw[Zt (hm b _ q λz=>z)];exact q,λb ps q=>⟨#[],by rw[Zt (hm b _ q λz=>z),q];simp⟩⟩
 by_cases hbe:b=e
 .subst hbe;exact heo
 .exact⟨u,k b u hbe q⟩
end
def trk(h:Heap)(H:Hp):List Addr:=(Xz h.objs.size).filter λa=>(H a).isSome
def Zzl(h:Heap)(H:Hp):Heap:=PySem.W.hideAll h (trk h H)
theorem Ztc(h:Heap)(H:Hp):(Zzl h H).objs.size=h.objs.size:=PySem.W.hideAll_size _ _
theorem Zzs{h:Heap}{H:Hp}{b:Addr}{o:Obj}(e:h.get? b=some o)(n:H b=none):(Zzl h H).get? b=some o :=
 PySem.W.hideAll_get _ e λhm=>by
  have q:(H b).isSome=true:=(V5.mp hm).2
  rw[n]at q;simp at q
theorem Z5f{h:Heap}{H:Hp}{b:Addr}{o:Obj}(e:(Zzl h H).get? b=some o):h.get? b=some o/\H b=none:=by
 have e':h.get? b=some o:=PySem.W.of_hideAll (trk h H) e
 refine⟨e',?_⟩
 cases q:H b with
 | none=>rfl
 | some x=>
  have hm:b∈trk h H:=V5.mpr ⟨Qn.mpr (XH e'),by simp[q]⟩
  have z:(Zzl h H).get? b=none:=PySem.W.hideAll_none (trk h H) hm
  rw[z]at e;cases e
def Z2x(g h:Heap)(L:Addr):List (Addr×Obj):=(Xz h.objs.size).filterMap λa=>if a=L\/(g.get? a).isSome=true then none else(h.get? a).map λo=>(a,o)
def rest(g h:Heap)(L d:Addr):List (Addr×Obj):=(Z2x g h L).filter λp=>decide (p.1≠d)
structure Mod(K:Xb)(mg:Str->Option Xe)(base:Heap):Prop where
 kin:K.In base
 glob:base.Ns Qd mg
 blt:∃mb,base.Ns builtinsNs mb/\∀x:Str,x≠"__name__" ->mb x=Qp x
 nolimit:base.NoLimit
set_option genInjectivity false in
structure Cx where
 prog:XJ
 w:Ql
 K:Xb
 mg:Str->Option Xe
 base:Heap
 A:Qk
 N:List Str
 s₀:Xg
 H₀:Hp
 env:Env
 outer:List Env
 stack:List Env
 ex:List Addr
 fn:Str->Bool
 calm:Bool
 pn:List (Addr×Obj)
 xe:Xe->Xg->Prop
def frs(l:List Env):List Addr:=l.filterMap (·.frame)
abbrev Cx.fs(X:Cx):List Addr:=frs X.outer
def Vis(sc:Ud)(x:Str):Prop:=sc.names.lookup x=some .local\/sc.names.lookup x=some .cell\/sc.names.lookup x=some .free
def Loc(sc:Ud)(x:Str):Prop:=sc.names.lookup x=some .local\/sc.names.lookup x=some .cell
def Look(env:Env)(h:Heap)(m:Str->Option Xe)(x:Str)(u:Xe):Prop :=
 (env.kindOf x=some .local/\m x=some u)\/((env.kindOf x=some .cell\/env.kindOf x=some .free)/\∃c,env.cells.lookup x=some c/\h.IsCell c (some u))
structure Cx.Ok(X:Cx):Prop where
 mod:Mod X.K X.mg X.base
 kind:X.env.scope.kind= .function
 glob:X.env.globals=Qd
 blt:X.env.builtins=builtinsNs
 above:X.s₀.heap.objs.size<=X.env.locals
 inj:∀x y c,X.env.cells.lookup x=some c->X.env.cells.lookup y=some c->x=y
 has:∀x,(X.env.kindOf x=some .cell\/X.env.kindOf x=some .free)->∃c,X.env.cells.lookup x=some c
 cab:∀x c,X.fn x=true->X.env.cells.lookup x=some c->X.s₀.heap.objs.size<=c
 hd:X.calm=true->X.A.handled=none
 frames:X.A.frames=some X.stack
 stk:X.stack=X.outer\/(X.stack=X.env :: X.outer/\X.env.frame=some X.env.locals)
 exf:∀b∈X.ex,b≠X.env.locals/\∀x c,X.env.cells.lookup x=some c->c≠b
 bs:∀b o,X.base.get? b=some o->X.s₀.heap.get? b=some o/\X.H₀ b=none
 bsz:X.base.objs.size<=X.s₀.heap.objs.size
 noex:∀b o,X.base.get? b=some o->b∉X.ex
 exfs:∀b∈X.ex,b∉X.fs
 funs:X.s₀.heap.FunFrames X.base X.outer
 frf:∀b∈X.fs,X.H₀ b=none
structure Inv(X:Cx)(pins:List (Addr×Obj))(σ:List (Option V))(H:Hp)(s:Xg):Prop where
 ok:X.Ok
 os:s.os=X.s₀.os
 bare:AllBare s.gens
 base:Un X.fs X.ex X.H₀ H X.s₀.heap s.heap
 loc:∃m,s.heap.Ns X.env.locals m/\∀(i:Nat) (x:Str) (v:V),X.N[i]? =some x->σ[i]? =some (some v)->Vis X.env.scope x->∃u,RelV v u/\Look X.env s.heap m x u
 cell:∀x c,X.env.cells.lookup x=some c->∃v,s.heap.IsCell c v
 free:H X.env.locals=none
 freeC:∀x c,X.env.cells.lookup x=some c->H c=none
 pin:∀p∈X.pn ++ pins,s.heap.get? p.1=some p.2/\H p.1=none/\p.1≠X.env.locals/\p.1∉X.fs/\∀v,p.2.data≠ .cell v
 hok:HOk X.prog X.w H s.heap
 len:σ.length=X.N.length
section
variable {X:Cx}{pins:List (Addr×Obj)}{σ:List (Option V)}{H H':Hp}{s:Xg}{h':Heap}
theorem Cx.Ok.nofr(ok:X.Ok){b:Addr}{o:Obj}(e:X.base.get? b=some o):b∉X.fs:=λhb=>by
 have:=(ok.funs.mem hb).1
 rw[e]at this;cases this
theorem Inv.bs(I:Inv X pins σ H s):∀b o,X.base.get? b=some o->s.heap.get? b=some o/\H b=none:=λb o e=>
 ⟨I.base.keep b o (I.ok.bs b o e).1 (I.ok.bs b o e).2 (I.ok.nofr e) (I.ok.noex b o e),I.base.free b o (I.ok.bs b o e).1 (I.ok.bs b o e).2 (I.ok.noex b o e)⟩
theorem Inv.bk(I:Inv X pins σ H s):∀b o,X.base.get? b=some o->s.heap.get? b=some o:=λb o e=>(I.bs b o e).1
theorem Inv.mod(I:Inv X pins σ H s):Mod X.K X.mg X.base:=I.ok.mod
theorem Inv.kIn(I:Inv X pins σ H s):X.K.In s.heap:=I.ok.mod.kin.keeps I.bk
theorem Inv.lt(I:Inv X pins σ H s):X.env.locals<s.heap.objs.size:=let⟨_,hn,_⟩:=I.loc;hn.lt
theorem Inv.sz(I:Inv X pins σ H s):X.s₀.heap.objs.size<=s.heap.objs.size:=Qa I.ok.above (Nat.le_of_lt I.lt)
theorem Inv.nofs(I:Inv X pins σ H s){a:Addr}(h:s.heap.objs.size<=a):a∉X.fs:=λhb=>by
 obtain⟨_,o,ho,_⟩:=I.ok.funs.mem hb
 exact absurd (Qe (XH ho) (Qa I.sz h)) (QC _)
theorem Inv.cne(I:Inv X pins σ H s):∀x c,X.env.cells.lookup x=some c->c≠X.env.locals:=λx c e z=>by
 obtain⟨v,o,ho,hd⟩:=I.cell x c e
 obtain⟨m,⟨o',es,ep,ho',hd',_⟩,_⟩:=I.loc
 rw[z,ho']at ho;cases ho;rw[hd']at hd;cases hd
theorem Inv.funs(I:Inv X pins σ H s):s.heap.FunFrames X.base X.outer:=by
 have all:∀(l:List Env),(∀b∈frs l,b∈X.fs)->X.s₀.heap.FunFrames X.base l->s.heap.FunFrames X.base l:=by
  intro l
  induction l with
  | nil=>intro _ _;trivial
  | cons env r ih=>
   intro hs hl
   obtain⟨hk,⟨L,o,hf,hn,ho,hd⟩,hr⟩:=hl
   have hL:L∈X.fs:=hs L (by unfold frs;rw[List.filterMap_cons,hf];exact U0)
   obtain⟨sl,e⟩:=I.base.slot L o ho (I.ok.frf L hL) hL λz=>I.ok.exfs L z hL
   exact⟨hk,⟨L,_,hf,hn,e,hd⟩,ih (λb hb=>hs b (by unfold frs;rw[List.filterMap_cons,hf];exact Us _ hb)) hr⟩
 exact all X.outer (λ_ hb=>hb) I.ok.funs
theorem Inv.stack(I:Inv X pins σ H s):s.heap.FunFrames X.base X.stack:=by
 rcases I.ok.stk with e|⟨e,hf⟩
 .rw[e];exact I.funs
 .rw[e]
  obtain⟨m,hn,_⟩:=I.loc
  refine .cons (by rw[I.ok.kind];decide) hf hn ?_ I.funs
  exact Heap.get?_none_of_le (Qa I.ok.bsz I.ok.above)
theorem Inv.stkSub(I:Inv X pins σ H s):∀b∈frs X.stack,b∈X.env.locals :: X.fs:=λb hb=>by
 rcases I.ok.stk with e|⟨e,hf⟩
 .rw[e]at hb;exact Us _ hb
 .rw[e]at hb
  unfold frs at hb
  rw[List.filterMap_cons,hf]at hb
  exact hb
theorem Inv.stkFree(I:Inv X pins σ H s):∀b∈frs X.stack,H b=none:=λb hb=>by
 rcases Xo.mp (I.stkSub b hb)with e|hb
 .rw[e];exact I.free
 .obtain⟨_,o,ho,_⟩:=I.ok.funs.mem hb
  exact I.base.free b o ho (I.ok.frf b hb) λz=>I.ok.exfs b z hb
theorem Inv.step{g':Array GenState}{t':Nat}{d':Drawn}{ch:List Addr}(I:Inv X pins σ H s)
  (hch:∀b∈ch,(b∈X.ex\/X.s₀.heap.objs.size<=b)/\b≠X.env.locals/\(∀x c,X.env.cells.lookup x=some c->c≠b)/\∀p∈X.pn ++ pins,p.1≠b)
  (keep:∀b o,b≠X.env.locals->b∉X.fs->b∉ch->s.heap.get? b=some o->H b=none->h'.get? b=some o)
  (slot:∀b o,b≠X.env.locals->b∈X.fs->b∉ch->s.heap.get? b=some o->H b=none->∃sl,h'.get? b=some { o with slots:=sl }) (free:∀b o,b∉ch->s.heap.get? b=some o->H b=none->H' b=none)
  (there:∀b o,b∉ch->s.heap.get? b=some o->∃o',h'.get? b=some o')
  (tups:∀b xs,H b=some (.tup xs)->H' b=some (.tup xs)) (frzs:∀b o u,H b=some (.frz o u)->H' b=some (.frz o u)) (tbls:∀b ps,H b=some (.tbl ps)->∃more,H' b=some (.tbl (ps ++ more)))
  (ns:∀m,s.heap.Ns X.env.locals m->h'.Ns X.env.locals m) (hok:HOk X.prog X.w H' h') (hg:AllBare g') :
  Inv X pins σ H' { s with heap:=h',gens:=g',drawn:=d',toks:=t' }:=by
 have neL:∀b o,X.s₀.heap.get? b=some o->b≠X.env.locals:=λb o e=>Xu (Qe (XH e) I.ok.above)
 have neC:∀b o,X.s₀.heap.get? b=some o->b∉X.ex->b∉ch:=λb o e hx hb=>by
  rcases(hch b hb).1 with z|z
  .exact hx z
  .exact absurd (Qe (XH e) z) (QC _)
 have cellK:∀x c,X.env.cells.lookup x=some c->∀v,s.heap.IsCell c v->h'.IsCell c v:=λx c e v ⟨o,ho,hd⟩=>by
  have nch:c∉ch:=λz=>(hch c z).2.2.1 x c e rfl
  by_cases hc:c∈X.fs
  .obtain⟨sl,q⟩:=slot c o (I.cne x c e) hc nch ho (I.freeC x c e)
   exact⟨_,q,hd⟩
  .exact⟨o,keep c o (I.cne x c e) hc nch ho (I.freeC x c e),hd⟩
 refine⟨I.ok,I.os,hg,⟨λb o e n hb hx=>?_,λb o e n hb hx=>?_,λb o e n hx=>?_,λb o e hx=>?_,λb xs e=>tups b xs (I.base.tups b xs e),λb o xs e=>frzs b o xs (I.base.frzs b o xs e),λb ps e=>?_⟩,?_,λx c e=>?_,?_,λx c e=>?_,λp hp=>?_,hok,I.len⟩
 .exact keep b o (neL b o e) hb (neC b o e hx) (I.base.keep b o e n hb hx) (I.base.free b o e n hx)
 .obtain⟨sl,e1⟩:=I.base.slot b o e n hb hx
  obtain⟨sl',e2⟩:=slot b _ (neL b o e) hb (neC b o e hx) e1 (I.base.free b o e n hx)
  exact⟨sl',e2⟩
 .obtain⟨o',e1⟩:=I.base.there b o e hx
  exact free b o' (neC b o e hx) e1 (I.base.free b o e n hx)
 .obtain⟨o',e1⟩:=I.base.there b o e hx
  exact there b o' (neC b o e hx) e1
 .obtain⟨m1,e1⟩:=I.base.tbls b ps e
  obtain⟨m2,e2⟩:=tbls b _ e1
  exact⟨m1 ++ m2,by rw[e2,Array.append_assoc]⟩
 .obtain⟨m,hn,hl⟩:=I.loc
  refine⟨m,ns m hn,λi x v e1 e2 e3=>?_⟩
  obtain⟨u,r,l⟩:=hl i x v e1 e2 e3
  refine⟨u,r,?_⟩
  rcases l with l|⟨k,c,e,z⟩
  .exact .inl l
  .exact .inr ⟨k,c,e,cellK x c e _ z⟩
 .obtain⟨v,z⟩:=I.cell x c e
  exact⟨v,cellK x c e v z⟩
 .obtain⟨m,⟨o,_,_,ho,_⟩,_⟩:=I.loc
  exact free _ o (λz=>(hch _ z).2.1 rfl) ho I.free
 .obtain⟨v,o,ho,hd⟩:=I.cell x c e
  exact free c o (λz=>(hch c z).2.2.1 x c e rfl) ho (I.freeC x c e)
 .obtain⟨e,n,ne,nf,d⟩:=I.pin p hp
  have nch:p.1∉ch:=λz=>(hch p.1 z).2.2.2 p hp rfl
  exact⟨keep p.1 p.2 ne nf nch e n,free p.1 p.2 nch e n,ne,nf,d⟩
theorem Inv.un{t':Nat}(I:Inv X pins σ H s)(u:Un X.fs [] H H' s.heap h')(hok:HOk X.prog X.w H' h'):Inv X pins σ H' { s with heap:=h',toks:=t' }:=by
 obtain⟨m,⟨o,es,ep,ho,r⟩,_⟩:=id I.loc
 obtain⟨sl,hL⟩:=u.any ho I.free (by simp)
 exact I.step (g':=s.gens) (d':=s.drawn) (ch:=[]) (λ_ z=>nomatch z) (λb o _ hb _ e n=>u.keep b o e n hb (by simp)) (λb o _ hb _ e n=>u.slot b o e n hb (by simp)) (λb o _ e n=>u.free b o e n (by simp)) (λb o _ e=>u.there b o e (by simp)) u.tups u.frzs u.tbls (λm' hm=>by
  obtain⟨o',es',ep',ho',r'⟩:=hm
  rw[ho]at ho';cases ho'
  exact⟨_,es',ep',hL,r'⟩) hok I.bare
theorem Inv.call{g':Array GenState}{t':Nat}{d':Drawn}{ch:List Addr}(I:Inv X pins σ H s)(u:Un (frs X.stack) ch H H' s.heap h')(hok:HOk X.prog X.w H' h')(hg:AllBare g')
  (hch:∀b∈ch,(b∈X.ex\/X.s₀.heap.objs.size<=b)/\b≠X.env.locals/\(∀x c,X.env.cells.lookup x=some c->c≠b)/\∀p∈X.pn ++ pins,p.1≠b) :
  Inv X pins σ H' { s with heap:=h',gens:=g',drawn:=d',toks:=t' }:=by
 obtain⟨m,⟨o,es,ep,ho,r⟩,_⟩:=id I.loc
 obtain⟨sl,hL⟩:=u.any ho I.free λz=>(hch _ z).2.1 rfl
 exact I.step (ch:=ch) hch (λb o hL hb hc e n=>u.keep b o e n (λz=>(Xo.mp (I.stkSub b z)).elim hL hb) hc) (λb o _ _ hc e n=>u.any e n hc) (λb o hc e n=>u.free b o e n hc) (λb o hc e=>u.there b o e hc) u.tups u.frzs u.tbls (λm' hm=>by
  obtain⟨o',es',ep',ho',r'⟩:=hm
  rw[ho]at ho';cases ho'
  exact⟨_,es',ep',hL,r'⟩) hok hg
theorem Inv.turned{t':Nat}{it:Addr}(I:Inv X pins σ H s)(k:∀b o,b≠it->s.heap.get? b=some o->h'.get? b=some o)(hn:H it=none)(hL:it≠X.env.locals)
  (h1:it∈X.ex\/X.s₀.heap.objs.size<=it) (h2:∀x c,X.env.cells.lookup x=some c->c≠it) (h3:∀p∈X.pn ++ pins,p.1≠it):Inv X pins σ H { s with heap:=h',toks:=t' }:=by
 have nit:∀b u,H b=some u->b≠it:=λb u e z=>by rw[z,hn]at e;cases e
 refine I.step (g':=s.gens) (d':=s.drawn) (ch:=[it]) (λb hb=>?_) (λb o _ _ hc e _=>k b o (λz=>hc (by simp[z])) e) (λb o _ _ hc e _=>⟨o.slots,k b o (λz=>hc (by simp[z])) e⟩) (λ_ _ _ _ n=>n)
  (λb o hc e=>⟨o,k b o (λz=>hc (by simp[z])) e⟩) (λ_ _ e=>e) (λ_ _ _ e=>e) (λb ps e=>⟨#[],by rw[e];simp⟩) (λm hm=>?_) (λb u e=>?_) I.bare
 .have e:b=it:=by simpa using hb
  subst e
  exact⟨h1,hL,h2,h3⟩
 .obtain⟨o,es,ep,ho,r⟩:=hm
  exact⟨o,es,ep,k _ o (Bo hL) ho,r⟩
 .refine(I.hok b u e).stay (λc v hc q=>k c v ?_ q) (λ_ q=>q) λ_ _ q=>q
  rcases hc with z|z
  .rw[z];exact nit b u e
  .exact nit c _ z
theorem Inv.tok(I:Inv X pins σ H s)(t:Nat):Inv X pins σ H { s with toks:=t }:=I.un (h':=s.heap) (t':=t) Un.refl I.hok
theorem Inv.kept{t':Nat}(I:Inv X pins σ H s)(k:∀b u,s.heap.get? b=some u->h'.get? b=some u):Inv X pins σ H { s with heap:=h',toks:=t' }:=I.un (Un.kept k) (I.hok.kept k)
theorem Inv.laid{a:Addr}{o:HO}{t':Nat}(I:Inv X pins σ H s)(k:∀b u,s.heap.get? b=some u->h'.get? b=some u)(hp:s.heap.objs.size<=a)(new:ObjOk X.prog X.w (upd H a o) h' a o) :
  Inv X pins σ (upd H a o) { s with heap:=h',toks:=t' }:=I.un (Un.laid k hp (I.hok.fresh hp)) (I.hok.laid k hp new)
theorem Inv.write{x e:Addr}{o:HO}{t':Nat}(I:Inv X pins σ H s)(mu:Mut (H x))(he:e=x\/H e=some (.own x))(k:∀b u,b≠e->s.heap.get? b=some u->h'.get? b=some u)(heo:∃u,h'.get? e=some u)
  (new:ObjOk X.prog X.w (upd H x o) h' x o):Inv X pins σ (upd H x o) { s with heap:=h',toks:=t' }:=I.un (Un.write mu he k heo) (I.hok.write mu he k heo new)
theorem Inv.pins_of{pins':List (Addr×Obj)}(I:Inv X pins σ H s)(h:∀p∈pins',s.heap.get? p.1=some p.2/\H p.1=none/\p.1≠X.env.locals/\p.1∉X.fs/\∀v,p.2.data≠ .cell v):Inv X pins' σ H s :=
 ⟨I.ok,I.os,I.bare,I.base,I.loc,I.cell,I.free,I.freeC,λp hp=>(Qq.mp hp).elim (λz=>I.pin p (VB _ z)) (h p),I.hok,I.len⟩
theorem Zqq{N:List Str}(hN:N.Nodup){i j:Nat}{x:Str}(a:N[i]? =some x)(b:N[j]? =some x):i=j:=by
 obtain⟨h1,e1⟩:=Xi.mp a
 obtain⟨h2,e2⟩:=Xi.mp b
 exact(List.getElem_inj hN).mp (e1.trans e2.symm)
theorem Zm7{M:Model}{A:Qk}{E:Xe->Xg->Prop}{i:Nat}{x:Str}{v:V}{u:Xe}{Q:Unit->Xg->Prop}(I:Inv X pins σ H s)(hN:X.N.Nodup)(hi:X.N[i]? =some x)(hx:Loc X.env.scope x)(r:RelV v u)
  (h:∀s',Inv X pins (σ.set i (some v)) H s'->(∃a,BX a s.heap s'.heap/\(a=X.env.locals\/X.env.cells.lookup x=some a))->Q () s') (hf:X.fn x=true\/X.env.scope.names.lookup x=some .local:=by first|exact .inl rfl|exact .inr rfl|assumption):XR M A (storeName X.env x u) Q E s:=by
 obtain⟨m,hn,hl⟩:=id I.loc
 have hcls:(X.env.scope.kind== .class||(X.env.scope.kind== .module&&X.env.locals !=X.env.globals))=false:=by rw[I.ok.kind];rfl
 have hiσ:i<σ.length:=by rw[I.len];exact(Xi.mp hi).1
 have cne:=I.cne
 have tracked:∀{a:Addr} {h':Heap},(∃o,s.heap.get? a=some o/\H a=none)->BX a s.heap h'->HOk X.prog X.w H h':=fun{a h'} ha hs b ob e=>by
  obtain⟨_,_,hfree⟩:=ha
  refine(I.hok b ob e).stay (λc w' hc q=>(hs.2 c ?_).trans q) (λ_ q=>q) λ_ _ q=>q
  rintro rfl
  rcases hc with rfl|hc
  .rw[hfree]at e;cases e
  .rw[hfree]at hc;cases hc
 rcases hx with hk|hk
 .refine wpAny_storeName_local hk hn (λh' hn' hs=>?_) hcls
  obtain⟨oL,_,_,hoL,_⟩:=id hn
  refine h _ ⟨I.ok,I.os,I.bare,⟨λb o e n hb hx=>?_,λb o e n hb hx=>?_,I.base.free,λb o e hx=>?_,I.base.tups,I.base.frzs,I.base.tbls⟩,⟨_,hn',λj y v' e1 e2 e3=>?_⟩,λy c e=>?_,I.free,I.freeC,λp hp=>?_,tracked ⟨oL,hoL,I.free⟩ hs,by simpa using I.len⟩ ⟨_,hs,.inl rfl⟩
  .exact(hs.2 b (Xu (Qe (XH e) I.ok.above))).trans (I.base.keep b o e n hb hx)
  .obtain⟨sl,e1⟩:=I.base.slot b o e n hb hx
   exact⟨sl,(hs.2 b (Xu (Qe (XH e) I.ok.above))).trans e1⟩
  .obtain⟨o',e1⟩:=I.base.there b o e hx
   exact⟨o',(hs.2 b (Xu (Qe (XH e) I.ok.above))).trans e1⟩
  .by_cases hj:j=i
   .subst hj
    rw[hi]at e1;cases e1
    rw[Qz hiσ]at e2
    cases e2
    exact⟨u,r,.inl ⟨hk,by simp⟩⟩
   .rw[Qs (Bo hj)]at e2
    obtain⟨u',r',q⟩:=hl j y v' e1 e2 e3
    refine⟨u',r',?_⟩
    rcases q with⟨k,e⟩|⟨k,c,e,z⟩
    .refine .inl ⟨k,?_⟩
     have:y≠x:=λe=>hj (Zqq hN e1 (e▸hi))
     simp[this,e]
    .exact .inr ⟨k,c,e,z.sameBut hs (cne y c e)⟩
  .obtain⟨w',z⟩:=I.cell y c e
   exact⟨w',z.sameBut hs (cne y c e)⟩
  .obtain⟨e,n,ne,nf,d⟩:=I.pin p hp
   exact⟨(hs.2 p.1 ne).trans e,n,ne,nf,d⟩
 .have hfn:X.fn x=true:=by
   rcases hf with z|z
   .exact z
   .rw[z]at hk;cases hk
  obtain⟨c,hc⟩:=I.ok.has x (.inl hk)
  obtain⟨w',z⟩:=I.cell x c hc
  refine wpAny_storeName_cell I.ok.kind hk hc z (λh' hc' hs=>?_)
  obtain⟨oc,hoc,hocd⟩:=id z
  refine h { s with heap:=h' } ⟨I.ok,I.os,I.bare,⟨λb o e n hb hx=>?_,λb o e n hb hx=>?_,I.base.free,λb o e hx=>?_,I.base.tups,I.base.frzs,I.base.tbls⟩,⟨m,hn.sameBut hs (Bo (cne x c hc)),λj y v' e1 e2 e3=>?_⟩,λy c' e=>?_,I.free,I.freeC,λp hp=>?_,tracked ⟨oc,hoc,I.freeC x c hc⟩ hs,by simpa using I.len⟩ ⟨c,hs,.inr hc⟩
  .exact(hs.2 b (Xu (Qe (XH e) (I.ok.cab x c hfn hc)))).trans (I.base.keep b o e n hb hx)
  .obtain⟨sl,e1⟩:=I.base.slot b o e n hb hx
   exact⟨sl,(hs.2 b (Xu (Qe (XH e) (I.ok.cab x c hfn hc)))).trans e1⟩
  .obtain⟨o',e1⟩:=I.base.there b o e hx
   exact⟨o',(hs.2 b (Xu (Qe (XH e) (I.ok.cab x c hfn hc)))).trans e1⟩
  .by_cases hj:j=i
   .subst hj
    rw[hi]at e1;cases e1
    rw[Qz hiσ]at e2
    cases e2
    exact⟨u,r,.inr ⟨.inl hk,c,hc,hc'⟩⟩
   .rw[Qs (Bo hj)]at e2
    obtain⟨u',r',q⟩:=hl j y v' e1 e2 e3
    refine⟨u',r',?_⟩
    rcases q with q|⟨k,c',e,z'⟩
    .exact .inl q
    .refine .inr ⟨k,c',e,z'.sameBut hs ?_⟩
     rintro rfl
     exact hj (Zqq hN e1 (I.ok.inj _ _ _ e hc▸hi))
  .by_cases hcc:c'=c
   .subst hcc;exact⟨_,hc'⟩
   .obtain⟨w2,z2⟩:=I.cell y c' e
    exact⟨w2,z2.sameBut hs hcc⟩
  .obtain⟨e,n,ne,nf,d⟩:=I.pin p hp
   refine⟨(hs.2 p.1 ?_).trans e,n,ne,nf,d⟩
   intro q
   rw[q,hoc]at e
   have q':oc=p.2:=Qu e
   exact d w' (by rw[<-q'];exact hocd)
theorem Zie{M:Model}{A:Qk}{E:Xe->Xg->Prop}{i:Nat}{x:Str}{v:V}{u:Xe}{Q:Unit->Xg->Prop}(I:Inv X pins σ H s)(hN:X.N.Nodup)(hi:X.N[i]? =some x)(hx:Loc X.env.scope x)(r:RelV v u)
  (h:∀s',Inv X pins (σ.set i (some v)) H s'->Q () s') (hf:X.fn x=true\/X.env.scope.names.lookup x=some .local:=by first|exact .inl rfl|exact .inr rfl|assumption):XR M A (storeName X.env x u) Q E s :=
 Zm7 I hN hi hx r (λs' I' _=>h s' I') hf
theorem Inv.call'{s':Xg}{ch:List Addr}(I:Inv X pins σ H s)(ho:s'.os=s.os)(u:Un (frs X.stack) ch H H' s.heap s'.heap)(hok:HOk X.prog X.w H' s'.heap)(hg:AllBare s'.gens)
  (hch:∀b∈ch,(b∈X.ex\/X.s₀.heap.objs.size<=b)/\b≠X.env.locals/\(∀x c,X.env.cells.lookup x=some c->c≠b)/\∀p∈X.pn ++ pins,p.1≠b):Inv X pins σ H' s':=by
 obtain⟨h',g',d',t',o'⟩:=s'
 have e:o'=s.os:=ho
 subst e
 exact I.call (g':=g') (t':=t') (d':=d') u hok hg hch
end
abbrev XK:=Xe->Option Addr->Hp->Prop
abbrev St:=List (Option V)
abbrev VK:=V->Hp->Prop
abbrev TE:=St->Hp->VK->Prop
abbrev TT:=St->Hp->(Bool->Hp->Prop)->Prop
abbrev TA:=St->Hp->(List V->Hp->Prop)->Prop
set_option genInjectivity false in
structure Ends where
 nx:St->Hp->Prop
 rt:VK
 bk:St->Hp->Prop:=λ_ _=>False
 ct:St->Hp->Prop:=λ_ _=>False
abbrev TS:=Ends->St->Hp->Prop
def EP(X:Cx)(pins:List (Addr×Obj))(σ:St)(Q:VK)(u:Xe)(s':Xg):Prop:=∃v H',Inv X pins σ H' s'/\RelV v u/\Q v H'
def TP(X:Cx)(pins:List (Addr×Obj))(σ:St)(Q:Bool->Hp->Prop)(b:Bool)(s':Xg):Prop:=∃H',Inv X pins σ H' s'/\Q b H'
def AP(X:Cx)(pins:List (Addr×Obj))(σ:St)(Q:List V->Hp->Prop)(us:List Xe)(s':Xg):Prop:=∃vs H',Inv X pins σ H' s'/\Vals vs us/\Q vs H'
def SP(X:Cx)(pins:List (Addr×Obj))(D:Ends)(f:Flow)(s':Xg):Prop :=
 match f with
 | .next=>∃σ' H',Inv X pins σ' H' s'/\D.nx σ' H'
 | .brk=>∃σ' H',Inv X pins σ' H' s'/\D.bk σ' H'
 | .cont=>∃σ' H',Inv X pins σ' H' s'/\D.ct σ' H'
 | .ret u=>∃v σ' H',Inv X pins σ' H' s'/\RelV v u/\D.rt v H'
def PE(X:Cx)(e:Expr)(t:TE):Prop :=
 ∀(pins:List (Addr×Obj)) (s:Xg) (σ:St) (H:Hp) (Q:VK),Inv X pins σ H s->t σ H Q->XR (Qg X.prog X.w) X.A (eval e X.env) (EP X pins σ Q) X.xe s
def PT(X:Cx)(e:Expr)(t:TT):Prop :=
 ∀(pins:List (Addr×Obj)) (s:Xg) (σ:St) (H:Hp) (Q:Bool->Hp->Prop),Inv X pins σ H s->t σ H Q->XR (Qg X.prog X.w) X.A (isTrue e X.env (eval e X.env)) (TP X pins σ Q) X.xe s
def PW(X:Cx)(e:Expr)(t:TT):Prop :=
 ∀(whole:Sem Xe) (pins:List (Addr×Obj)) (s:Xg) (σ:St) (H:Hp) (Q:Bool->Hp->Prop),Inv X pins σ H s->t σ H Q->XR (Qg X.prog X.w) X.A (isTrue e X.env whole) (TP X pins σ Q) X.xe s
theorem PW.pt{X:Cx}{e:Expr}{t:TT}(h:PW X e t):PT X e t:=h _
def PA(X:Cx)(es:List Expr)(t:TA):Prop :=
 ∀(pos:Pos) (pins:List (Addr×Obj)) (s:Xg) (σ:St) (H:Hp) (Q:List V->Hp->Prop),Inv X pins σ H s->t σ H Q->XR (Qg X.prog X.w) X.A (spliced (Bg pos (Xw es X.env))) (AP X pins σ Q) X.xe s
def PS(X:Cx)(st:Stmt)(t:TS):Prop :=
 ∀(pins:List (Addr×Obj)) (s:Xg) (σ:St) (H:Hp) (D:Ends),Inv X pins σ H s->t D σ H->XR (Qg X.prog X.w) X.A (exec st X.env) (SP X pins D) X.xe s
def PSs(X:Cx)(st:List Stmt)(t:TS):Prop :=
 ∀(pins:List (Addr×Obj)) (s:Xg) (σ:St) (H:Hp) (D:Ends),Inv X pins σ H s->t D σ H->XR (Qg X.prog X.w) X.A (execs st X.env) (SP X pins D) X.xe s
theorem thn{α:Type}{t:Sem α}{Q Q':α->Xg->Prop}{M:Model}{A:Qk}{E:Xe->Xg->Prop}{s:Xg}(h:XR M A t Q E s)(hQ:∀a s,Q a s->Q' a s):XR M A t Q' E s:=Bm h hQ λ_ _ x=>x
section
variable {X:Cx}
def Yi8(i:Nat):TE:=λσ H Q=>∃v,σ[i]? =some (some v)/\Q v H
def tC(v:V):TE:=λ_ H Q=>Q v H
theorem Z67{i:Nat}{x:Str}{pos:Pos}(hN:X.N[i]? =some x)(hv:Vis X.env.scope x)(hd:(x==("__debug__" : Str))=false:=by decide)(hcd:(x==("__classdict__" : Str))=false:=by decide):PE X (.Name x pos) (Yi8 i):=by
 intro pins s σ H Q I h
 obtain⟨v,e,h⟩:=h
 obtain⟨m,hn,hl⟩:=I.loc
 obtain⟨u,r,l⟩:=hl i x v hN e hv
 have fin:EP X pins σ Q u s:=⟨v,H,I,r,h⟩
 rcases l with⟨hk,hm⟩|⟨hk,c,hc,hcell⟩
 .exact wpAny_Name (wpAny_loadName_local I.ok.kind hk hn hm fin) hd
 .rcases hk with hk|hk
  .exact wpAny_Name (wpAny_loadName_cell I.ok.kind hk hc hcell fin) hd
  .exact wpAny_Name (wpAny_loadName_free I.ok.kind hk hc hcell fin hcd) hd
theorem Z9u{i j pos}:PE X (.Constant (.int i) j pos) (tC (.int i)):=λ_ _ _ H _ I h=>wpAny_Constant_int ⟨.int i,H,I.tok _,⟨_,rfl⟩,h⟩
theorem Yep{b j pos}:PE X (.Constant (.bool b) j pos) (tC (.bl b)):=λ_ _ _ H _ I h=>Constant_bool ⟨.bl b,H,I,rfl,h⟩
theorem Z7f{j pos}:PE X (.Constant .none j pos) (tC .non):=λ_ _ _ H _ I h=>Constant_none ⟨.non,H,I,rfl,h⟩
theorem Yaj{x j pos}:PE X (.Constant (.str x) j pos) (tC (.str x)):=λ_ _ _ H _ I h=>Calls.Constant_str ⟨.str x,H,I.tok _,⟨_,rfl⟩,h⟩
def Gl(X:Cx)(x:Str):Prop:=X.env.kindOf x=some .globalImplicit
theorem Zv6{E:Xe->Xg->Prop}{pins:List (Addr×Obj)}{s:Xg}{σ:St}{H:Hp}{x:Str}{u:Xe}{pos:Pos}{Q:Xe->Xg->Prop}(I:Inv X pins σ H s)(hg:Gl X x)(hm:X.mg x=some u)(h:Q u s)
  (hd:(x==("__debug__" : Str))=false:=by decide):XR (Qg X.prog X.w) X.A (eval (.Name x pos) X.env) Q E s :=
 Calls.Name_function_global I.ok.kind hg (Calls.loadGlobal_global (by rw[I.ok.glob];exact I.mod.glob.keeps I.bk) hm h) hd
theorem Zk2{E:Xe->Xg->Prop}{pins:List (Addr×Obj)}{s:Xg}{σ:St}{H:Hp}{x:Str}{u:Xe}{pos:Pos}{Q:Xe->Xg->Prop}(I:Inv X pins σ H s)(hg:Gl X x)(hm:X.mg x=none)(hv:Qp x=some u)(h:Q u s)
  (hn:x≠"__name__" :=by decide) (hd:(x==("__debug__" : Str))=false:=by decide):XR (Qg X.prog X.w) X.A (eval (.Name x pos) X.env) Q E s:=by
 obtain⟨mb,h1,h2⟩:=I.mod.blt
 exact Calls.Name_function_global I.ok.kind hg (Calls.loadGlobal_builtin (by rw[I.ok.glob];exact I.mod.glob.keeps I.bk) hm (by rw[I.ok.blt];exact h1.keeps I.bk) ((h2 x hn).trans hv) h) hd
theorem Ztu{x:Str}{v:V}{u:Xe}{pos:Pos}(hg:Gl X x)(hm:X.mg x=some u)(r:RelV v u)(hd:(x==("__debug__" : Str))=false:=by decide):PE X (.Name x pos) (tC v) :=
 λ_ _ _ H _ I h=>Zv6 I hg hm ⟨v,H,I,r,h⟩ hd
theorem Z3s{x:Str}{v:V}{u:Xe}{pos:Pos}(hg:Gl X x)(hm:X.mg x=none)(hv:Qp x=some u)(r:RelV v u)(hn:x≠"__name__" :=by decide)(hd:(x==("__debug__" : Str))=false:=by decide):PE X (.Name x pos) (tC v) :=
 λ_ _ _ H _ I h=>Zk2 I hg hm hv ⟨v,H,I,r,h⟩ hn hd
def t2I(ta tb:TE)(k:Int->Int->Hp->Prop):St->Hp->Prop:=λσ H=>ta σ H λx H1=>tb σ H1 λy H2=>∃i j,x= .int i/\y= .int j/\k i j H2
variable {a b:Expr}{ta tb:TE}{pos:Pos}
def Z6s(p:Int->Int->Bool)(ta tb:TE):TE:=λσ H Q=>t2I ta tb (λi j H2=>Q (.bl (p i j)) H2) σ H
abbrev tLt:TE->TE->TE:=Z6s λi j=>decide (i<j)
abbrev tLe:TE->TE->TE:=Z6s λi j=>decide (i<=j)
abbrev tGt:TE->TE->TE:=Z6s λi j=>decide (j<i)
abbrev tGe:TE->TE->TE:=Z6s λi j=>decide (j<=i)
abbrev Yls:TE->TE->TE:=Z6s λi j=>decide (i=j)
abbrev Ylt:TE->TE->TE:=Z6s λi j=>!decide (i=j)
def tB(t:TE):TT:=λσ H Q=>t σ H λx H1=>∃c,x= .bl c/\Q c H1
variable {tA tB':TT}{rest:List Expr}
def Ylb(t u:TT):TT:=λσ H Q=>t σ H λc H1=>if c=true then u σ H1 Q else Q false H1
def tOr(t u:TT):TT:=λσ H Q=>t σ H λc H1=>if c=true then Q true H1 else u σ H1 Q
def Yj8(t:TT):TT:=λσ H Q=>t σ H λc H1=>Q (!c) H1
theorem Z6d(ha:PT X a tA):PW X (.BoolOp .And [a] pos) tA:=by
 intro wh pins s σ H Q I h
 refine isTrue_and (thn (ha pins s σ H Q I h) λc s1 e=>?_)
 cases c with
 | true=>exact isTrue_and_nil e
 | false=>exact e
theorem Z9v(ha:PT X a tA):PW X (.BoolOp .Or [a] pos) tA:=by
 intro wh pins s σ H Q I h
 refine isTrue_or (thn (ha pins s σ H Q I h) λc s1 e=>?_)
 cases c with
 | false=>exact isTrue_or_nil e
 | true=>exact e
theorem Z83(ha:PT X a tA)(hb:PW X (.BoolOp .And (b :: rest) pos) tB'):PW X (.BoolOp .And (a :: b :: rest) pos) (Ylb tA tB'):=by
 intro wh pins s σ H Q I h
 refine isTrue_and (thn (ha pins s σ H _ I h) λc s1 qz9=>?_)
 obtain⟨H1,I1,q1⟩:=qz9
 cases c with
 | true=>exact hb wh pins s1 σ H1 Q I1 q1
 | false=>exact⟨H1,I1,q1⟩
theorem Yfh(ha:PT X a tA)(hb:PW X (.BoolOp .Or (b :: rest) pos) tB'):PW X (.BoolOp .Or (a :: b :: rest) pos) (tOr tA tB'):=by
 intro wh pins s σ H Q I h
 refine isTrue_or (thn (ha pins s σ H _ I h) λc s1 qz9=>?_)
 obtain⟨H1,I1,q1⟩:=qz9
 cases c with
 | true=>exact⟨H1,I1,q1⟩
 | false=>exact hb wh pins s1 σ H1 Q I1 q1
theorem Ybv(ha:PT X a tA):PT X (.UnaryOp .Not a pos) (Yj8 tA):=by
 intro pins s σ H Q I h
 exact isTrue_not (ha pins s σ H (λc H1=>Q (!c) H1) I h)
def Ygg(ta tb:TE):TE:=λσ H Q=>ta σ H λx H1=>∃c,x= .bl c/\if c=true then tb σ H1 Q else Q (.bl false) H1
def Ykb(ta tb:TE):TE:=λσ H Q=>ta σ H λx H1=>∃c,x= .bl c/\if c=true then Q (.bl true) H1 else tb σ H1 Q
def Ygq(ta:TE):TE:=λσ H Q=>ta σ H λx H1=>∃c,x= .bl c/\Q (.bl (!c)) H1
theorem Z8f{op}{t:TE}(h:PE X a t):PE X (.BoolOp op [a] pos) t:=λpins s σ H Q I hw=>BoolOp_one (h pins s σ H Q I hw)
theorem Z65(ha:PE X a ta)(hb:PE X (.BoolOp .And (b :: rest) pos) tb):PE X (.BoolOp .And (a :: b :: rest) pos) (Ygg ta tb):=by
 intro pins s σ H Q I h
 refine BoolOp_and (thn (ha pins s σ H _ I h) λv s1 qz9=>?_)
 obtain⟨x,H1,I1,r1,q1⟩:=qz9
 obtain⟨c,rfl,q1⟩:=q1
 cases r1
 refine Bq ?_
 cases c with
 | true=>exact hb pins s1 σ H1 Q I1 q1
 | false=>exact⟨.bl false,H1,I1,rfl,q1⟩
theorem Yef(ha:PE X a ta)(hb:PE X (.BoolOp .Or (b :: rest) pos) tb):PE X (.BoolOp .Or (a :: b :: rest) pos) (Ykb ta tb):=by
 intro pins s σ H Q I h
 refine BoolOp_or (thn (ha pins s σ H _ I h) λv s1 qz9=>?_)
 obtain⟨x,H1,I1,r1,q1⟩:=qz9
 obtain⟨c,rfl,q1⟩:=q1
 cases r1
 refine Bq ?_
 cases c with
 | false=>exact hb pins s1 σ H1 Q I1 q1
 | true=>exact⟨.bl true,H1,I1,rfl,q1⟩
theorem Z78(ha:PE X a ta):PE X (.UnaryOp .Not a pos) (Ygq ta):=by
 intro pins s σ H Q I h
 refine UnaryOp_ (thn (ha pins s σ H _ I h) λv s1 qz9=>?_)
 obtain⟨x,H1,I1,r1,q1⟩:=qz9
 obtain⟨c,rfl,q1⟩:=q1
 cases r1
 exact not_of (Bq ⟨.bl (!c),H1,I1,rfl,q1⟩)
def tIf(t:TT)(ta tb:TE):TE:=λσ H Q=>t σ H λc H1=>if c=true then ta σ H1 Q else tb σ H1 Q
theorem Zyn{c:Expr}(hc:PT X c tA)(ha:PE X a ta)(hb:PE X b tb):PE X (.IfExp c a b pos) (tIf tA ta tb):=by
 intro pins s σ H Q I h
 refine wpAny_IfExp (thn (hc pins s σ H _ I h) λd s1 qz9=>?_)
 obtain⟨H1,I1,q1⟩:=qz9
 cases d with
 | true=>exact ha pins s1 σ H1 Q I1 q1
 | false=>exact hb pins s1 σ H1 Q I1 q1
end
def SqL(K:Xb)(H:Hp)(a:Addr)(xs:List V):Prop :=
 Rd H a (.lst xs)\/
  ∃(o:Obj) (its:Array Xe) (n:Nat),K.lookup a=some o/\o.cls= .type "list"/\o.dict=none/\o.data= .seq its n/\its.size<=Xk/\Vals xs its.toList
def SqT(K:Xb)(H:Hp)(a:Addr)(xs:List V):Prop :=
 Rd H a (.tup xs)\/
  ∃(o:Obj) (its:Array Xe) (n:Nat),K.lookup a=some o/\o.cls= .type "tuple"/\o.data= .seq its n/\its.size<=Xk/\Vals xs its.toList
def Yky:Xe->Option V
 | .none=>some .non
 | .bool b=>some (.bl b)
 | .int i _=>some (.int i)
 | .str x _=>some (.str x)
 | .bytes b _=>some (.byt b)
 | .float b _=>some (.flt b)
 | .ref a=>some (.ref a)
 | .type n=>some (.ty n)
 | _=>none
theorem RelV.abs{x:V}{u:Xe}(r:RelV x u):Yky u=some x:=by
 cases x with
 | non=>cases r;rfl
 | bl _=>cases r;rfl
 | int _=>obtain⟨t,rfl⟩:=r;rfl
 | str _=>obtain⟨t,rfl⟩:=r;rfl
 | byt _=>obtain⟨t,rfl⟩:=r;rfl
 | flt _=>obtain⟨t,rfl⟩:=r;rfl
 | ref _=>cases r;rfl
 | ty _=>cases r;rfl
theorem RelV.inj{x y:V}{u:Xe}(r:RelV x u)(q:RelV y u):x=y:=Qu (r.abs.symm.trans q.abs)
theorem Vals.inj{xs ys:List V}{us:List Xe}(h:Vals xs us)(k:Vals ys us):xs=ys:=by
 induction h generalizing ys with
 | nil=>cases k;rfl
 | cons r t ih=>
  cases k with
  | cons r' t'=>rw[r.inj r',ih t']
section
variable {X:Cx}{pins:List (Addr×Obj)}{σ:St}{H:Hp}{s:Xg}{a:Addr}{xs ys:List V}
theorem Inv.list(I:Inv X pins σ H s)(h:SqL X.K H a xs):∃its:List Xe,Vals xs its/\PlainL s.heap a its.toArray/\xs.length<=Xk:=by
 rcases h with h|⟨o,its,n,hk,hc,hd,hs,hz,r⟩
 .obtain⟨z,its,n,r,e⟩:=h.ok I.hok
  exact⟨its,r,⟨_,n,e,rfl,rfl,rfl⟩,z⟩
 .refine⟨its.toList,r,⟨o,n,I.kIn a o hk,hc,hd,by simpa using hs⟩,?_⟩
  have e:=r.length
  simp only[JC]at e
  omega
theorem Inv.tuple(I:Inv X pins σ H s)(h:SqT X.K H a xs):∃its:List Xe,Vals xs its/\IsTup s.heap a its.toArray/\xs.length<=Xk:=by
 rcases h with h|⟨o,its,n,hk,hc,hs,hz,r⟩
 .obtain⟨z,its,r,p⟩:=h.ok I.hok
  exact⟨its,r,p,z⟩
 .refine⟨its.toList,r,⟨o,I.kIn a o hk,hc,n,by simpa using hs⟩,?_⟩
  have e:=r.length
  simp only[JC]at e
  omega
theorem Inv.list_inj(I:Inv X pins σ H s)(h:SqL X.K H a xs)(h':SqL X.K H a ys):xs=ys:=by
 obtain⟨its,r,⟨o,n,e,_,_,d⟩,_⟩:=I.list h
 obtain⟨its',r',⟨o',n',e',_,_,d'⟩,_⟩:=I.list h'
 rw[e]at e';cases e'
 rw[d]at d'
 injection d' with d1 _
 have:its=its':=by simpa using congrArg Array.toList d1
 subst this
 exact r.inj r'
end
abbrev Cx.wish(X:Cx)(E:Xe->Xg->Prop):Cx:={ X with xe:=E }
abbrev Cx.nox(X:Cx):Cx:=X.wish λ_ _=>False
theorem Cx.Ok.wish{X:Cx}(ok:X.Ok)(E:Xe->Xg->Prop):(X.wish E).Ok :=
 ⟨ok.mod,ok.kind,ok.glob,ok.blt,ok.above,ok.inj,ok.has,ok.cab,ok.hd,ok.frames,ok.stk,ok.exf,ok.bs,ok.bsz,ok.noex,ok.exfs,ok.funs,ok.frf⟩
theorem Cx.Ok.unwish{X:Cx}{E:Xe->Xg->Prop}(ok:(X.wish E).Ok):X.Ok :=
 ⟨ok.mod,ok.kind,ok.glob,ok.blt,ok.above,ok.inj,ok.has,ok.cab,ok.hd,ok.frames,ok.stk,ok.exf,ok.bs,ok.bsz,ok.noex,ok.exfs,ok.funs,ok.frf⟩
section
variable {X:Cx}{pins:List (Addr×Obj)}{σ:St}{H:Hp}{s:Xg}{E:Xe->Xg->Prop}
theorem Inv.wish(I:Inv X pins σ H s)(E:Xe->Xg->Prop):Inv (X.wish E) pins σ H s:=⟨I.ok.wish E,I.os,I.bare,I.base,I.loc,I.cell,I.free,I.freeC,I.pin,I.hok,I.len⟩
theorem Inv.unwish(I:Inv (X.wish E) pins σ H s):Inv X pins σ H s:=⟨I.ok.unwish,I.os,I.bare,I.base,I.loc,I.cell,I.free,I.freeC,I.pin,I.hok,I.len⟩
theorem SP.unwish{D:Ends}{f:Flow}{s':Xg}(h:SP (X.wish E) pins D f s'):SP X pins D f s':=by
 cases f with
 | next=>obtain⟨σ',H',I,q⟩:=h;exact⟨σ',H',I.unwish,q⟩
 | brk=>obtain⟨σ',H',I,q⟩:=h;exact⟨σ',H',I.unwish,q⟩
 | cont=>obtain⟨σ',H',I,q⟩:=h;exact⟨σ',H',I.unwish,q⟩
 | ret u=>obtain⟨v,σ',H',I,r,q⟩:=h;exact⟨v,σ',H',I.unwish,r,q⟩
theorem PSs.nox{st:List Stmt}{t:TS}(h:PSs X.nox st t):PSs X st t:=λpins s σ H D I hw=>
 Bm (h pins s σ H D (I.wish _) hw) (λ_ _ q=>q.unwish) λ_ _ z=>Vy z
end
section
variable {X:Cx}{st:Stmt}{rest:List Stmt}{t u:TS}{e:Expr}{te:TE}{pos:Pos}
def Yds:TS:=λD σ H=>D.nx σ H
def Yj5(t u:TS):TS:=λD σ H=>t { D with nx:=u D } σ H
theorem Z2j:PSs X [] Yds:=λ_ _ σ H _ I h=>wpAny_execs_nil ⟨σ,H,I,h⟩
theorem Zzb(h1:PS X st t)(h2:PSs X rest u):PSs X (st :: rest) (Yj5 t u):=by
 intro pins s σ H D I h
 refine wpAny_execs_cons (thn (h1 pins s σ H { D with nx:=u D } I h) λf s1 q=>?_)
 cases f with
 | next=>
  obtain⟨σ',H',I',q⟩:=q
  exact h2 pins s1 σ' H' D I' q
 | ret v=>exact q
 | brk=>exact q
 | cont=>exact q
theorem Z5y(h1:PS X st t):PSs X [st] t:=by
 intro pins s σ H D I h
 refine wpAny_execs_cons (thn (h1 pins s σ H D I h) λf s1 q=>?_)
 cases f with
 | next=>exact wpAny_execs_nil q
 | ret v=>exact q
 | brk=>exact q
 | cont=>exact q
theorem Inv.quiet{pins:List (Addr×Obj)}{σ:St}{H:Hp}{s:Xg}(I:Inv X pins σ H s):interactive X.env=false:=by simp[interactive,I.ok.kind]
def Yfo(te:TE):TS:=λD σ H=>te σ H λ_ H1=>D.nx σ H1
theorem Zo9(he:PE X e te)(hs:BK e none pos.line X.env=pure false:=by rfl):PS X (.Expr e pos) (Yfo te):=by
 intro pins s σ H D I h
 refine wpAny_Expr_any (thn (he pins s σ H _ I h) λv s1 qz9=>?_) I.quiet hs
 obtain⟨x,H1,I1,r1,q1⟩:=qz9
 exact⟨σ,H1,I1,q1⟩
def Yj2(te:TE):TS:=λD σ H=>te σ H D.rt
theorem Z1f(he:PE X e te):PS X (.Return (some e) pos) (Yj2 te):=by
 intro pins s σ H D I h
 refine wpAny_Return_some (thn (he pins s σ H _ I h) λv s1 qz9=>?_)
 obtain⟨x,H1,I1,r1,q1⟩:=qz9
 exact⟨x,σ,H1,I1,r1,q1⟩
def Yjz(c:TT)(t u:TS):TS:=λD σ H=>c σ H λb H1=>if b=true then t D σ H1 else u D σ H1
theorem Ydp{c:Expr}{a b:List Stmt}{tc:TT}(hc:PT X c tc)(ha:PSs X a t)(hb:PSs X b u):PS X (.If c a b pos) (Yjz tc t u):=by
 intro pins s σ H D I h
 refine wpAny_If (thn (hc pins s σ H _ I h) λd s1 qz9=>?_)
 obtain⟨H1,I1,q1⟩:=qz9
 cases d with
 | true=>exact ha pins s1 σ H1 D I1 q1
 | false=>exact hb pins s1 σ H1 D I1 q1
def Yax:TS:=λ_ _ _=>False
theorem Zx2:PS X st Yax:=λ_ _ _ _ _ _ h=>h.elim
end
abbrev TG:=V->St->Hp->(St->Hp->Prop)->Prop
abbrev TGs:=List V->St->Hp->(St->Hp->Prop)->Prop
def PG(X:Cx)(target:Expr)(t:TG):Prop :=
 ∀(pins:List (Addr×Obj)) (s:Xg) (σ:St) (H:Hp) (v:V) (u:Xe) (Q:St->Hp->Prop),Inv X pins σ H s->RelV v u->t v σ H Q ->
  XR (Qg X.prog X.w) X.A (Ur target X.env u) (λ_ s'=>∃σ' H',Inv X pins σ' H' s'/\Q σ' H') X.xe s
def PGs(X:Cx)(ts:List Expr)(t:TGs):Prop :=
 ∀(pins:List (Addr×Obj)) (s:Xg) (σ:St) (H:Hp) (vs:List V) (us:List Xe) (Q:St->Hp->Prop),Inv X pins σ H s->Vals vs us->t vs σ H Q ->
  XR (Qg X.prog X.w) X.A (assignInOrder ((Q6 ts X.env).map (·.2)) us) (λ_ s'=>∃σ' H',Inv X pins σ' H' s'/\Q σ' H') X.xe s
abbrev Yfj:=V->V->V->Hp->(Hp->Prop)->Prop
def Yhr(X:Cx)(t:Yfj):Prop :=
 ∀(pins:List (Addr×Obj)) (s:Xg) (σ:St) (H:Hp) (o i v:V) (ov iv u:Xe) (Q:Hp->Prop),Inv X pins σ H s->RelV o ov->RelV i iv->RelV v u->t o i v H Q ->
  XR (Qg X.prog X.w) X.A (setItem ov iv u) (λ_ s'=>∃H',Inv X pins σ H' s'/\Q H') X.xe s
abbrev TIp:=V->V->Hp->VK->Prop
section
variable {X:Cx}{pos:Pos}
def Zrt(i:Nat):TG:=λv σ H Q=>Q (σ.set i (some v)) H
theorem Z4b{i:Nat}{x:Str}(hN:X.N.Nodup)(hi:X.N[i]? =some x)(hx:Loc X.env.scope x)(hf:X.fn x=true\/X.env.scope.names.lookup x=some .local:=by first|exact .inl rfl|exact .inr rfl|assumption):PG X (.Name x pos) (Zrt i):=by
 intro pins s σ H v u Q I r h
 exact wpAny_assign_Name (Zie I hN hi hx r (λs' I'=>⟨_,H,I',h⟩) hf)
def Yjt:TGs:=λvs σ H Q=>vs=[]/\Q σ H
def Yd1(t:TG)(u:TGs):TGs:=λvs σ H Q=>∃v r,vs=v :: r/\t v σ H λσ' H'=>u r σ' H' Q
theorem Z54:PGs X [] Yjt:=by
 intro pins s σ H vs us Q I r h
 obtain⟨e,h⟩:=h
 subst e
 cases r
 exact assignInOrder_nil ⟨σ,H,I,h⟩
theorem Zye{e:Expr}{es:List Expr}{t:TG}{u:TGs}(h1:PG X e t)(h2:PGs X es u)
  (hs:(Q6 (e :: es) X.env).map (·.2)=Ur e X.env :: (Q6 es X.env).map (·.2):=by rfl):PGs X (e :: es) (Yd1 t u):=by
 intro pins s σ H vs us Q I r h
 obtain⟨v,vr,e1,h⟩:=h
 subst e1
 cases r with
 | cons r rr=>
  rw[hs]
  refine assignInOrder_cons (thn (h1 pins s σ H _ _ _ I r h) λ_ s1 qz9=>?_)
  obtain⟨σ1,H1,I1,q1⟩:=qz9
  exact h2 pins s1 σ1 H1 _ _ Q I1 rr q1
def Ykz(K:Xb)(n:Nat)(t:TGs):TG:=λv σ H Q=>∃a xs,v= .ref a/\SqT K H a xs/\xs.length=n/\t xs σ H Q
theorem Ya3{es:List Expr}{k:Nat}{t:TGs}{n:Nat}(hc:X.calm=true)(h:PGs X es t)
  (hn:(Q6 es X.env).length=n:=by rfl) (hst:(Q6 es X.env).findIdx? (·.1)=none:=by rfl):PG X (.Tuple es k pos) (Ykz X.K n t):=by
 intro pins s σ H v u Q I r hw
 obtain⟨a,xs,e1,hq,hl,hw⟩:=hw
 subst e1
 cases r
 obtain⟨its,rv,ht,hz⟩:=I.tuple hq
 refine assign_Tuple_tuple (I.ok.hd hc) ht (by simp[hn,<-hl,rv.length]) hst λh' hx=>?_
 have I1:Inv X pins σ H { s with heap:=h' }:=I.kept (t':=s.toks) λb o e=>hx b o (Xu (XH e)) e
 exact h pins _ σ H xs _ Q I1 (by simpa using rv) hw
def Ye7(to ti:TE)(t:Yfj):TG:=λv σ H Q=>to σ H λo H1=>ti σ H1 λi H2=>t o i v H2 λH3=>Q σ H3
theorem Z05{o i:Expr}{to ti:TE}{t:Yfj}(ho:PE X o to)(hi:PE X i ti)(hs:Yhr X t)
  (ha:∀v,Ur (.Subscript o i pos) X.env v=(do
   let ov<-holding [v] (eval o X.env)
   let iv<-holding [v,ov] (eval i X.env)
   standAt pos
   holding [v,ov,iv] (setItem ov iv v)
   release [v,ov,iv] []):=by intro _;rfl):PG X (.Subscript o i pos) (Ye7 to ti t):=by
 intro pins s σ H v u Q I r h
 rw[ha]
 refine Xd (Ux (thn (ho pins s σ H _ I h) λov s1 qz9=>?_))
 obtain⟨x,H1,I1,r1,q1⟩:=qz9
 refine Xd (Ux (thn (hi pins s1 σ H1 _ I1 q1) λiv s2 qz9=>?_))
 obtain⟨y,H2,I2,r2,q2⟩:=qz9
 refine Xd (wpAny_standAt (Xd (Ux (thn (hs pins s2 σ H2 x y v ov iv u _ I2 r1 r2 r q2) λ_ s3 qz9=>?_))))
 obtain⟨H3,I3,q3⟩:=qz9
 exact wpAny_release ⟨σ,H3,I3,q3⟩
def Z6p(te:TE)(g:TG):TS:=λD σ H=>te σ H λx H1=>g x σ H1 D.nx
theorem Zwq{tg e:Expr}{te:TE}{g:TG}(he:PE X e te)(hg:PG X tg g)(hs:Uy [tg] e pos.line X.env=pure false:=by rfl)(hw:Uz [tg] e X.env=pure none:=by rfl)
  (h1:(Q6 [tg] X.env).map (·.2)=[Ur tg X.env]:=by rfl):PS X (.Assign [tg] e pos) (Z6p te g):=by
 intro pins s σ H D I h
 refine wpAny_Assign_stores (thn (he pins s σ H _ I h) λv s1 qz9=>?_) hs hw
 obtain⟨x,H1,I1,r1,q1⟩:=qz9
 rw[h1]
 exact thn (hg pins s1 σ H1 x v _ I1 r1 q1) λ_ s2 q=>q
theorem Zwu{i:Nat}{x:Str}{e:Expr}{te:TE}{pos':Pos}(hN:X.N.Nodup)(hi:X.N[i]? =some x)(hx:Loc X.env.scope x)(he:PE X e te)(hs:BK e (some (.Name x pos')) pos.line X.env=pure false:=by rfl)(hf:X.fn x=true\/X.env.scope.names.lookup x=some .local:=by first|exact .inl rfl|exact .inr rfl|assumption) :
  PS X (.Assign [.Name x pos'] e pos) (Z6p te (Zrt i)):=by
 intro pins s σ H D I h
 refine wpAny_Assign_Name (thn (he pins s σ H _ I h) λv s1 qz9=>?_) hs
 obtain⟨y,H1,I1,r1,q1⟩:=qz9
 exact Zie I1 hN hi hx r1 (λs2 I2=>⟨_,H1,I2,q1⟩) hf
def Ykc(i j:Nat)(ta:TA):TS:=λD σ H=>ta σ H λvs H1=>∃v w,vs=[v,w]/\D.nx ((σ.set i (some v)).set j (some w)) H1
theorem Ycf{i j:Nat}{x y:Str}{a b:Expr}{ta:TA}{px py pt:Pos}{kt k2 pt2}(hc:X.calm=true)(hN:X.N.Nodup)(hi:X.N[i]? =some x)(hj:X.N[j]? =some y)(hij:i≠j)
  (hx:X.env.scope.names.lookup x=some .local) (hy:X.env.scope.names.lookup y=some .local) (ha:PA X [a,b] ta)
  (hw:Uz [.Tuple [.Name x px,.Name y py] kt pt] (.Tuple [a,b] k2 pt2) X.env=pure (some [x,y]))
  (hs:Uy [.Tuple [.Name x px,.Name y py] kt pt] (.Tuple [a,b] k2 pt2) pos.line X.env=pure false:=by rfl) :
  PS X (.Assign [.Tuple [.Name x px,.Name y py] kt pt] (.Tuple [a,b] k2 pt2) pos) (Ykc i j ta):=by
 intro pins s σ H D I h
 rw[exec_Assign_arm]
 refine Xd (wpAny_standAt ?_)
 rw[hs]
 refine Xd (Xy ?_)
 rw[if_neg (by decide)]
 refine Xd (Tuple_ (thn (ha _ pins s σ H _ I h) λus s1 qz9=>?_))
 obtain⟨vs,H1,I1,r1,q1⟩:=qz9
 obtain⟨v,w,e1,q1⟩:=q1
 subst e1
 obtain⟨u1,u2,rfl,rv,rw'⟩:∃u1 u2,us=[u1,u2]/\RelV v u1/\RelV w u2:=by
  cases r1 with
  | cons p q=>
   cases q with
   | cons p' q'=>
    cases q'
    exact⟨_,_,rfl,p,p'⟩
 refine Br ?_ (by show 2<=Xk;decide)
 have I2:Inv X pins σ H1 { s1 with heap:=s1.heap.push { cls:=.type "tuple",data:=.seq [u1,u2].toArray } }:=I1.kept (t':=s1.toks) λb o e=>Xh _ e
 rw[hw]
 refine Xd (Xy ?_)
 show XR (Qg X.prog X.w) X.A (do rule "assign.swapped-stores";let items<-unpackItems (.ref s1.heap.objs.size) 2 none;assignInOrder [λv=>bindName X.env y v,λv=>bindName X.env x v] items.reverse;pure Flow.next) _ _ _
 refine Xd (wpAny_rule (Xd (unpackItems_tuple (items:=#[u1,u2]) (I.ok.hd hc) (IsTup.new s1.heap _) λh' hx'=>?_)))
 have I3:=I2.kept (h':=h') (t':=s1.toks) λb o e=>hx' b o (Xu (XH e)) e
 show XR _ _ (assignInOrder [λv=>bindName X.env y v,λv=>bindName X.env x v] [u2,u1]>>= λ_=>pure Flow.next) _ _ _
 refine Xd (assignInOrder_cons (wpAny_bindName (Zie I3 hN hj (.inl hy) rw' (λs2 I4=>?_) (.inr hy))))
 refine assignInOrder_cons (wpAny_bindName (Zie I4 hN hi (.inl hx) rv (λs3 I5=>assignInOrder_nil (Xy ?_)) (.inr hx)))
 rw[List.set_comm _ _ (Bo hij)]at I5
 exact⟨_,H1,I5,q1⟩
end
section
variable {X:Cx}{pos:Pos}
def Ya2(c:TT)(tb:TS):TS:=λD σ H=>∃W:Nat->St->Hp->Prop,(∃m,W m σ H)/\∀m σ H,W m σ H ->
 c σ H λb H1=>if b=true then∃N:St->Hp->Prop,(∀σ' H',N σ' H'->∃m',m'<m/\W m' σ' H')/\tb { D with nx:=N,ct:=N,bk:=D.nx } σ H1 else D.nx σ H1
theorem Zyo{c:Expr}{body:List Stmt}{tc:TT}{tb:TS}(hp:PassesOwn (Qg X.prog X.w) X.A X.env X.xe)(hc:PT X c tc)(hb:PSs X body tb):PS X (.While c body [] pos) (Ya2 tc tb):=by
 intro pins s σ H D I h
 obtain⟨W,⟨m0,w0⟩,turn⟩:=h
 refine wpAny_While (codeAny_whileLoop (λn s'=>∃σ' H',Inv X pins σ' H' s'/\W n σ' H') ?_ m0 ⟨σ,H,I,w0⟩)
 rintro n s1 ⟨σ1,H1,I1,w1⟩
 refine Vw hp (thn (hc pins s1 σ1 H1 _ I1 (turn n σ1 H1 w1)) λb s2 qz9=>?_)
 obtain⟨H2,I2,q2⟩:=qz9
 cases b with
 | true=>
  obtain⟨N,hN,q2⟩:=q2
  rw[if_pos rfl]
  refine Vw hp (thn (hb pins s2 σ1 H2 _ I2 q2) λf s3 q3=>?_)
  cases f with
  | next=>
   obtain⟨σ3,H3,I3,n3⟩:=q3
   obtain⟨m',hm,w3⟩:=hN σ3 H3 n3
   exact⟨m',hm,σ3,H3,I3,w3⟩
  | cont=>
   obtain⟨σ3,H3,I3,n3⟩:=q3
   obtain⟨m',hm,w3⟩:=hN σ3 H3 n3
   exact⟨m',hm,σ3,H3,I3,w3⟩
  | brk=>exact q3
  | ret v=>exact q3
 | false=>
  rw[if_neg Xm]
  exact wpAny_execs_nil ⟨σ1,H2,I2,q2⟩
end
set_option genInjectivity false in
structure It where
 go:Nat->Hp->Prop
 yld:Nat->Hp->V->Hp->Prop
 stop:Nat->Hp->Prop
def Zk6(X:Cx)(pins:List (Addr×Obj))(H:Hp)(b:Addr):Prop :=
 H b=none/\b≠X.env.locals/\b∉X.fs/\(b∈X.ex\/X.s₀.heap.objs.size<=b)/\(∀x c,X.env.cells.lookup x=some c->c≠b)/\∀p∈X.pn ++ pins,p.1≠b
theorem Inv.fpOk{X:Cx}{pins:List (Addr×Obj)}{σ:St}{H H':Hp}{s:Xg}{b:Addr}(I:Inv X pins σ H s)(hb:s.heap.objs.size<=b)(hn:H' b=none):Zk6 X pins H' b:=by
 refine⟨hn,X3 (Qe I.lt hb),I.nofs hb,.inr (Qa I.sz hb),λx c e z=>?_,λp hp z=>?_⟩
 .obtain⟨v,q⟩:=I.cell x c e
  exact absurd (Qe q.lt (by rw[z];exact hb)) (QC _)
 .exact absurd (Qe (XH (I.pin p hp).1) (by rw[z];exact hb)) (QC _)
structure Turn(P:XJ)(w:Ql)(K:Xb)(tg:Expr)(J:It)(fp:List Addr)(it:Addr)(tn:Nat->Heap->Prop):Prop where
 mem:it∈fp
 obj:∀i h,tn i h->∀b∈fp,∃o,h.get? b=some o/\∀v,o.data≠ .cell v
 keep:∀i h h',tn i h->(∀b∈fp,∀o,h.get? b=some o->h'.get? b=some o)->tn i h'
 item:∀(X:Cx),X.prog=P->X.w=w->X.K=K->X.calm=true->∀(i:Nat) (pins:List (Addr×Obj)) (s:Xg) (σ:St) (H:Hp) (E:Xe->Xg->Prop),Inv X pins σ H s->(∀b∈fp,Zk6 X pins H b)->tn i s.heap->J.go i H ->
  XR (Qg P w) X.A (pyNext (.ref it)) (λr s1=>∃u,r=some u/\
   XR (Qg P w) X.A (U6 tg (.ref it) u) (λ_ s2=>∃x H',Inv X pins σ H' s2/\RelV x u/\J.yld i H x H'/\tn (i+1) s2.heap/\∀b∈fp,H' b=none) E s1) E s
 done:∀(X:Cx),X.prog=P->X.w=w->X.K=K->X.calm=true->∀(i:Nat) (pins:List (Addr×Obj)) (s:Xg) (σ:St) (H:Hp) (E:Xe->Xg->Prop),Inv X pins σ H s->(∀b∈fp,Zk6 X pins H b)->tn i s.heap->J.stop i H ->
  XR (Qg P w) X.A (pyNext (.ref it)) (λr s1=>r=none/\Inv X pins σ H s1) E s
 self:∀(A:Qk) (i:Nat) (s:Xg) (Q:Xe->Xg->Prop) (E:Xe->Xg->Prop),tn i s.heap->Q (.ref it) s->XR (Qg P w) A (pyIter (.ref it)) Q E s
abbrev TI:=St->Hp->(It->Hp->Prop)->Prop
def PIE(X:Cx)(pins:List (Addr×Obj))(σ:St)(tg:Expr)(R:It->Hp->Prop)(itv:Xe)(s2:Xg):Prop :=
 ∃(it:Addr) (fp:List Addr) (tn:Nat->Heap->Prop) (J:It) (H':Hp),itv= .ref it/\Inv X pins σ H' s2/\Turn X.prog X.w X.K tg J fp it tn/\tn 0 s2.heap/\(∀b∈fp,Zk6 X pins H' b)/\R J H'
def PI(X:Cx)(tg iter:Expr)(wi:TI):Prop :=
 ∀(pins:List (Addr×Obj)) (s:Xg) (σ:St) (H:Hp) (R:It->Hp->Prop),Inv X pins σ H s->wi σ H R ->
  XR (Qg X.prog X.w) X.A (eval iter X.env) (λv s1=>XR (Qg X.prog X.w) X.A (pyIter v) (PIE X pins σ tg R) X.xe s1) X.xe s
theorem Zyu{M:Model}{A:Qk}{E:Xe->Xg->Prop}{s:Xg}{tg:Expr}{it:Addr}{u:Xe}{o:Obj}{n:String}{vs:Array Xe}{Q:Unit->Xg->Prop}(ho:s.heap.get? it=some o)(hc:o.cls= .type n)(hd:o.data= .fields vs)
  (hn:["enumerate","zip","dict_itemiterator","dict_reverseitemiterator","odict_iterator","itertools.zip_longest","itertools.pairwise"].contains n=false) (hQ:Q () s):XR M A (U6 tg (.ref it) u) Q E s:=by
 unfold U6
 cases tg<;>first
  | exact Xy hQ
  | (cases u<;>first
    | exact Xy hQ
    | (refine Xd (wpAny_load ho ?_)
       rw[hc,hd]
       show XR M A (if(["enumerate","zip","dict_itemiterator","dict_reverseitemiterator","odict_iterator","itertools.zip_longest","itertools.pairwise"].contains n&&vs[0]? ==some (rawInt _))=true then _ else _) Q E s
       rw[if_neg (by intro h;rw[hn,Bool.false_and]at h;cases h)]
       exact Xy hQ))
def Itl(K:Xb)(a:Addr):It :=
 ⟨λi H=>∃xs x,SqL K H a xs/\xs[i]? =some x,λi H x H'=>H'=H/\∀xs,SqL K H a xs->xs[i]? =some x,λi H=>∃xs,SqL K H a xs/\xs.length<=i⟩
def Itr(lo:Int)(n:Nat):It:=⟨λi _=>i<n,λi H x H'=>H'=H/\x= .int (lo+i),λi _=>n<=i⟩
theorem Zvm{P:XJ}{w:Ql}{K:Xb}{tg:Expr}(a it:Addr):Turn P w K tg (Itl K a) [it] it (λi h=>h.IsListIter it a i) where
 mem:=by simp
 obj:=λi h st b hb=>by
  have e:b=it:=by simpa using hb
  subst e
  obtain⟨o,e,c,d⟩:=st
  exact⟨o,e,λv z=>by rw[d]at z;cases z⟩
 keep:=λi h h' st k=>st.at λo e=>k it (by simp) o e
 item:=by
  intro X hP hw hK hc i pins s σ H E I hf st hg
  subst hP hw hK
  obtain⟨xs,x,hq,hx⟩:=hg
  obtain⟨its,rv,p,hz⟩:=I.list hq
  obtain⟨u,hu,ru⟩:=rv.get hx
  obtain⟨f0,f1,f2,f3,f4,f5⟩:=hf it (by simp)
  refine wpAny_pyNext_list_item st p.isList (x:=u) (by simpa using hu) λh' st' sb=>?_
  have I1:Inv X pins σ H { s with heap:=h' }:=I.turned (t':=s.toks) (λb o hb e=>(sb.2 b hb).trans e) f0 f1 f3 f4 f5
  obtain⟨o,e,c,d⟩:=id st'
  exact⟨u,rfl,Zyu (s:={ s with heap:=h' }) e c d (by decide) ⟨x,H,I1,ru,⟨rfl,λys hy=>by rw[I.list_inj hy hq];exact hx⟩,st',λb hb=>(hf b hb).1⟩⟩
 done:=by
  intro X hP hw hK hc i pins s σ H E I hf st hg
  subst hP hw hK
  obtain⟨xs,hq,hx⟩:=hg
  obtain⟨its,rv,p,hz⟩:=I.list hq
  obtain⟨f0,f1,f2,f3,f4,f5⟩:=hf it (by simp)
  have hl:=rv.length
  exact wpAny_pyNext_list_end (I.ok.hd hc) st p.isList (by simp;omega) λh' eb=>⟨rfl,I.turned (t':=s.toks) (λb o hb e=>eb b o hb e) f0 f1 f3 f4 f5⟩
 self:=λ_ _ _ _ _ st h=>wpAny_pyIter_listiter st h
theorem Zsr{P:XJ}{w:Ql}{K:Xb}{tg:Expr}(it:Addr)(lo:Int)(n:Nat):Turn P w K tg (Itr lo n) [it] it (λi h=>IsRangeIter h it (lo+(i:Nat)*1) ((n:Int)-(i:Nat)) 1) where
 mem:=by simp
 obj:=λi h st b hb=>by
  have e:b=it:=by simpa using hb
  subst e
  exact⟨_,st,λv z=>by
   have z':Data.fields _=Data.cell v:=z
   cases z'⟩
 keep:=λi h h' st k=>k it (by simp) _ st
 item:=by
  intro X hP hw hK hc i pins s σ H E I hf st hg
  subst hP hw hK
  obtain⟨f0,f1,f2,f3,f4,f5⟩:=hf it (by simp)
  have W:=Walks.range (prog:=X.prog) (w:=X.w) (I.ok.hd hc) it lo 1 n
  refine W.item i s _ _ hg st λv h' tk hv st' kk=>?_
  obtain⟨t,rfl⟩:=hv
  have I1:Inv X pins σ H { s with heap:=h',toks:=tk }:=I.turned (λb o hb e=>kk b o (by simpa using hb) e) f0 f1 f3 f4 f5
  refine⟨_,rfl,Zyu (s:={ s with heap:=h',toks:=tk }) (n :="range_iterator") st' rfl rfl (by decide) ⟨.int (lo+i),H,I1,⟨t,?_⟩,⟨rfl,rfl⟩,st',λb hb=>(hf b hb).1⟩⟩
  rw[Int.mul_one]
 done:=by
  intro X hP hw hK hc i pins s σ H E I hf st hg
  subst hP hw hK
  obtain⟨f0,f1,f2,f3,f4,f5⟩:=hf it (by simp)
  exact wpAny_pyNext_range_end (I.ok.hd hc) st (by have:n<=i:=hg;omega) λh' eb=>⟨rfl,I.turned (t':=s.toks) (λb o hb e=>eb b o hb e) f0 f1 f3 f4 f5⟩
 self:=λ_ _ _ _ _ st h=>wpAny_pyIter_rangeiter st h
end L2
open PySem PySem.Spec L2
variable {a:Addr}{X:Cx}{e tg iter:Expr}{h h':Heap}{H H' H1 H2:Hp}{lo:Int}{pins:List (Addr×Obj)}{ch:List Addr}{es:List Expr}{body:List Stmt}{N:List Str}{xs ys:List V}{us:List Xe}{M:Model}{i t' j:Nat}{pos' px py:Pos}{A:Qk}{w:Ql}{st:Stmt}{x:Str}{ta tb te to tl:TE}{α β:Type}{v y:V}{P:XJ}{K:Xb}{u:Xe}{E Q:Xe->Xg->Prop}{s s':Xg}
namespace L2
open PySem PySem.Spec PyProof.Rows
def Z9z(K:Xb)(tl:TE):TI:=λσ H R=>tl σ H λx H1=>∃a,x= .ref a/\(∃xs,SqL K H1 a xs)/\R (Itl K a) H1
theorem Z57{l:Expr}(hl:PE X l tl):PI X tg l (Z9z X.K tl):=by
 intro pins s σ H R I h
 refine thn (hl pins s σ H _ I h) λv s1 qz9=>?_
 obtain⟨x,H1,I1,r1,q1⟩:=qz9
 obtain⟨a,e,⟨xs,hq⟩,q⟩:=q1
 subst e
 cases r1
 obtain⟨its,rv,p,hz⟩:=I1.list hq
 refine wpAny_pyIter_list p.isList ?_
 refine⟨s1.heap.objs.size,[s1.heap.objs.size],_,_,H1,rfl,I1.kept (t':=s1.toks) λb o e=>Xh _ e,Zvm a _,⟨_,XQ _ rfl,rfl,rfl⟩,λb hb=>?_,q⟩
 have e:b=s1.heap.objs.size:=by simpa using hb
 subst e
 exact I1.fpOk (XC _) (I1.hok.fresh (XC _))
theorem Zra{σ:St}{R:It->Hp->Prop}{hi:Int}{t u v:Tok}{tk:Nat}(I:Inv X pins σ H s)(h1:-(2^62)<=lo)(h2:lo<2^62)(h3:-(2^62)<=hi)(h4:hi<2^62)
  (q:R (Itr lo (hi-lo).toNat) H):XR (Qg X.prog X.w) X.A (pyIter (.ref s.heap.objs.size)) (PIE X pins σ tg R) E { s with heap:=s.heap.push { cls:=.type "range",data:=.fields #[.int lo t,.int hi u,.int 1 v] },toks:=tk }:=by
 refine wpAny_pyIter_range (IsRange.new ..) (small_one h1 h2 h3 h4) ?_
 have I1:Inv X pins σ H { s with heap:=s.heap.push { cls:=.type "range",data:=.fields #[.int lo t,.int hi u,.int 1 v] },toks:=tk }:=I.kept λb o e=>Xh _ e
 refine⟨(s.heap.push { cls:=.type "range",data:=.fields #[.int lo t,.int hi u,.int 1 v] }).objs.size,[(s.heap.push { cls:=.type "range",data:=.fields #[.int lo t,.int hi u,.int 1 v] }).objs.size],_,_,H,rfl,
  I1.kept (t':=tk) λb o e=>Xh _ e,Zsr _ lo (hi-lo).toNat,?_,λb hb=>?_,q⟩
 .have e1:lo+((0:Nat):Int)*1=lo:=by simp
  have e2:(((hi-lo).toNat:Nat):Int)-((0:Nat):Int)=Builtin.Range.rangeSize lo hi 1:=by rw[rangeSize_one];split<;>omega
  show IsRangeIter _ _ (lo+((0:Nat):Int)*1) ((((hi-lo).toNat:Nat):Int)-((0:Nat):Int)) 1
  rw[e1,e2]
  exact XQ _ rfl
 .have e:b=(s.heap.push { cls:=.type "range",data:=.fields #[.int lo t,.int hi u,.int 1 v] }).objs.size:=by simpa using hb
  subst e
  exact I1.fpOk (XC _) (I1.hok.fresh (XC _))
def Yf1(ta:TA):TI:=λσ H R=>ta σ H λvs H1=>∃j:Int,vs=[.int j]/\-(2^62)<=j/\j<2^62/\R (Itr 0 j.toNat) H1
def Yet(ta:TA):TI:=λσ H R=>ta σ H λvs H1=>∃i j:Int,vs=[.int i,.int j]/\(-(2^62)<=i/\i<2^62/\-(2^62)<=j/\j<2^62)/\R (Itr i (j-i).toNat) H1
theorem Zw2{a:Expr}{ta:TA}{p pos:Pos}(hg:Gl X "range")(hm:X.mg "range"=none)(ha:PA X [a] ta)(hs:Xw [a] X.env=[(false,eval a X.env)]:=by rfl):PI X tg (.Call (.Name "range" p) [a] [] pos) (Yf1 ta):=by
 intro pins s σ H R I h
 refine Call_ (Zk2 I hg hm boot_range (Vh (thn (ha pos pins s σ H _ I h) λus s1 qz9=>?_) hs rfl))
 obtain⟨vs,H1,I1,r1,q1⟩:=qz9
 obtain⟨j,e,q1,q2,q⟩:=q1
 subst e
 cases r1 with
 | cons r rr=>
  cases rr
  obtain⟨t,rfl⟩:=r
  exact call_range_1 (Zra I1 (by omega) (by omega) q1 q2 (by simpa using q))
theorem Ztk{a b:Expr}{ta:TA}{p pos:Pos}(hg:Gl X "range")(hm:X.mg "range"=none)(ha:PA X [a,b] ta)(hs:Xw [a,b] X.env=[(false,eval a X.env),(false,eval b X.env)]:=by rfl)(hs2:Xw [b] X.env=[(false,eval b X.env)]:=by rfl) :
  PI X tg (.Call (.Name "range" p) [a,b] [] pos) (Yet ta):=by
 intro pins s σ H R I h
 refine Call_ (Zk2 I hg hm boot_range (Vh (thn (ha pos pins s σ H _ I h) λus s1 ⟨vs,H1,I1,r1,q1⟩=>?_) (by rw[hs,hs2]) (by rw[hs2];rfl)))
 obtain⟨i,j,e,⟨q1,q2,q3,q4⟩,q⟩:=q1
 subst e
 cases r1 with
 | cons r rr=>
  cases rr with
  | cons r' rr=>
   cases rr
   obtain⟨t,rfl⟩:=r
   obtain⟨t',rfl⟩:=r'
   exact call_range_2 (Zra I1 q1 q2 q3 q4 q)
def Ykl(wi:TI)(g:TG)(tb:TS):TS:=λD σ H=>wi σ H λJ H1=>∃W:Nat->Nat->St->Hp->Prop,(∃m,W 0 m σ H1)/\∀i m σ H,W i m σ H ->
 (J.stop i H/\D.nx σ H)\/(J.go i H/\∃N:St->Hp->Prop,(∀σ' H',N σ' H'->∃m',m'<m/\W (i+1) m' σ' H')/\∀x H',J.yld i H x H'->g x σ H' λσ2 H2=>tb { D with nx:=N,ct:=N,bk:=D.nx } σ2 H2)
def Zm3(fp:List Addr)(h:Heap):List (Addr×Obj):=fp.filterMap λb=>(h.get? b).map λo=>(b,o)
theorem Zer{fp:List Addr}{b:Addr}{o:Obj}(hb:b∈fp)(e:h.get? b=some o):(b,o)∈Zm3 fp h:=List.mem_filterMap.mpr ⟨b,hb,by rw[e];rfl⟩
theorem Zu6{fp:List Addr}{p:Addr×Obj}(hp:p∈Zm3 fp h):p.1∈fp/\h.get? p.1=some p.2:=by
 obtain⟨b,hb,e⟩:=List.mem_filterMap.mp hp
 cases q:h.get? b with
 | none=>rw[q]at e;cases e
 | some o=>
  rw[q]at e
  have e':(b,o)=p:=Qu e
  subst e'
  exact⟨hb,q⟩
theorem Inv.pinned{σ:St}{fp:List Addr}(I:Inv X pins σ H s)(hf:∀b∈fp,Zk6 X pins H b)(ho:∀b∈fp,∃o,s.heap.get? b=some o/\∀v,o.data≠ .cell v):Inv X (pins ++ Zm3 fp s.heap) σ H s :=
 I.pins_of λp hp=>(Qq.mp hp).elim (λz=>I.pin p (Qi _ z)) λz=>by
  obtain⟨hb,e⟩:=Zu6 z
  obtain⟨f0,f1,f2,_⟩:=hf p.1 hb
  obtain⟨o,e',d⟩:=ho p.1 hb
  rw[e]at e';cases e'
  exact⟨e,f0,f1,f2,d⟩
theorem Inv.unpinned{pl:List (Addr×Obj)}{σ:St}(I:Inv X (pins ++ pl) σ H s):Inv X pins σ H s:=I.pins_of λp hp=>I.pin p (Qi _ (VB _ hp))
theorem Z8n{wi:TI}{g:TG}{tb:TS}{pos:Pos}(hp:PassesOwn (Qg X.prog X.w) X.A X.env X.xe)(hc:X.calm=true)(hi:PI X tg iter wi)(hg:PG X tg g)(hb:PSs X body tb)
  (hs:∀x,Ba iter X.env x=pure x:=by intro _;rfl):PS X (.For tg iter body [] pos) (Ykl wi g tb):=by
 intro pins s σ H D I h
 refine wpAny_For (thn (hi pins s σ H _ I h) λv s1 h1=>thn h1 λitv s2 h2=>?_) hs
 obtain⟨it,fp,tn,J,H2,e,I2,T,st2,f2,W,⟨m0,w0⟩,turn⟩:=h2
 subst e
 -- what stays true of the iterator's objects through the loop
 have stat:∀{H':Hp},(∀b∈fp,H' b=none)->∀b∈fp,Zk6 X pins H' b:=λhn b hb=>⟨hn b hb,(f2 b hb).2⟩
 refine codeAny_forLoop_any (λn s'=>∃i σ' H',Inv X pins σ' H' s'/\tn i s'.heap/\(∀b∈fp,H' b=none)/\W i n σ' H') ?_ m0 ⟨0,σ,H2,I2,st2,λb hb=>(f2 b hb).1,w0⟩
 rintro n s3 ⟨i,σ3,H3,I3,st3,fr3,w3⟩
 rcases turn i n σ3 H3 w3 with⟨stop,qn⟩|⟨go,N,hN,step⟩
 .refine Vw hp (thn (T.done X rfl rfl rfl hc i pins s3 σ3 H3 X.xe I3 (stat fr3) st3 stop) λr s4 qz9=>?_)
  obtain⟨hr,I4⟩:=qz9
  subst hr
  exact wpAny_execs_nil ⟨σ3,H3,I4,qn⟩
 .refine Vw hp (thn (T.item X rfl rfl rfl hc i pins s3 σ3 H3 X.xe I3 (stat fr3) st3 go) λr s4 qz9=>?_)
  obtain⟨u,hr,h4⟩:=qz9
  subst hr
  refine Vw hp (thn h4 λ_ s5 qz9=>?_)
  obtain⟨x,H5,I5,r5,y5,st5,fr5⟩:=qz9
  have I5':=I5.pinned (stat fr5) (T.obj _ _ st5)
  refine Vw hp (thn (hg _ s5 σ3 H5 x u _ I5' r5 (step x H5 y5)) λ_ s6 qz9=>?_)
  obtain⟨σ6,H6,I6,q6⟩:=qz9
  refine Vw hp (thn (hb _ s6 σ6 H6 _ I6 q6) λf s7 q7=>?_)
  have again:∀{σ7:St} {H7:Hp},Inv X (pins ++ Zm3 fp s5.heap) σ7 H7 s7->N σ7 H7->∃m,m<n/\∃i σ' H',Inv X pins σ' H' s7/\tn i s7.heap/\(∀b∈fp,H' b=none)/\W i m σ' H':=fun{σ7 H7} I7 n7=>by
   obtain⟨m',hm,w7⟩:=hN σ7 H7 n7
   refine⟨m',hm,i+1,σ7,H7,I7.unpinned,T.keep _ _ _ st5 λb hb o e=>(I7.pin (b,o) (Qi _ (Qi _ (Zer hb e)))).1,λb hb=>?_,w7⟩
   obtain⟨o,e,d⟩:=T.obj _ _ st5 b hb
   exact(I7.pin (b,o) (Qi _ (Qi _ (Zer hb e)))).2.1
  cases f with
  | next=>obtain⟨σ7,H7,I7,n7⟩:=q7;exact again I7 n7
  | cont=>obtain⟨σ7,H7,I7,n7⟩:=q7;exact again I7 n7
  | brk=>obtain⟨σ7,H7,I7,q7⟩:=q7;exact⟨σ7,H7,I7.unpinned,q7⟩
  | ret v=>obtain⟨x7,σ7,H7,I7,r7,q7⟩:=q7;exact⟨x7,σ7,H7,I7.unpinned,r7,q7⟩
abbrev R2:=V->V->Hp->VK->Prop
def OpR(X:Cx)(f:Xe->Xe->Sem Xe)(r:R2):Prop :=
 ∀(pins:List (Addr×Obj)) (s:Xg) (σ:St) (H:Hp) (x y:V) (v u:Xe) (Q:VK),Inv X pins σ H s->RelV x v->RelV y u->r x y H Q ->
  XR (Qg X.prog X.w) X.A (f v u) (EP X pins σ Q) X.xe s
def UnR(X:Cx)(f:Xe->Sem Xe)(r:V->Hp->VK->Prop):Prop :=
 ∀(pins:List (Addr×Obj)) (s:Xg) (σ:St) (H:Hp) (x:V) (v:Xe) (Q:VK),Inv X pins σ H s->RelV x v->r x H Q ->
  XR (Qg X.prog X.w) X.A (f v) (EP X pins σ Q) X.xe s
def Zb3(X:Cx)(f:Xe)(r:List V->Hp->VK->Prop):Prop :=
 ∀(pins:List (Addr×Obj)) (s:Xg) (σ:St) (H:Hp) (xs:List V) (us:List Xe) (Q:VK),Inv X pins σ H s->Vals xs us->r xs H Q ->
  XR (Qg X.prog X.w) X.A (call f us) (EP X pins σ Q) X.xe s
def Yk5(X:Cx)(r:V->Hp->(Bool->Hp->Prop)->Prop):Prop :=
 ∀(pins:List (Addr×Obj)) (s:Xg) (σ:St) (H:Hp) (x:V) (v:Xe) (Q:Bool->Hp->Prop),Inv X pins σ H s->RelV x v->r x H Q ->
  XR (Qg X.prog X.w) X.A (truthy v) (TP X pins σ Q) X.xe s
def tOp(r:R2)(ta tb:TE):TE:=λσ H Q=>ta σ H λx H1=>tb σ H1 λy H2=>r x y H2 Q
def tUn(r:V->Hp->VK->Prop)(ta:TE):TE:=λσ H Q=>ta σ H λx H1=>r x H1 Q
def rI(C:Int->Int->Prop)(g:Int->Int->V):R2:=λx y H Q=>∃i j,x= .int i/\y= .int j/\C i j/\Q (g i j) H
def rI0(g:Int->Int->V):R2:=λx y H Q=>∃i j,x= .int i/\y= .int j/\Q (g i j) H
def rU(g:Int->V):V->Hp->VK->Prop:=λx H Q=>∃i,x= .int i/\Q (g i) H
section
variable {a b c:Expr}{tc:TE}{pos:Pos}
theorem Yd2(ha:PE X a ta)(hb:PE X b tb){σ:St}{R:V->V->Hp->Prop}(I:Inv X pins σ H s)
  (h:ta σ H λx H1=>tb σ H1 λy H2=>R x y H2)  {f:Xe->Xe->Sem Xe}
  (hf:∀v u s2 x y H2,Inv X pins σ H2 s2->RelV x v->RelV y u->R x y H2->XR (Qg X.prog X.w) X.A (f v u) Q X.xe s2) :
  XR (Qg X.prog X.w) X.A (eval a X.env) (λv s₁=>XR (Qg X.prog X.w) X.A (eval b X.env) (λu s₂=>XR (Qg X.prog X.w) X.A (f v u) Q X.xe s₂) X.xe s₁) X.xe s:=by
 refine thn (ha pins s σ H _ I h) λv s1 qz9=>?_
 obtain⟨x,H1,I1,r1,q1⟩:=qz9
 refine thn (hb pins s1 σ H1 _ I1 q1) λu s2 qz9=>?_
 obtain⟨y,H2,I2,r2,q2⟩:=qz9
 exact hf v u s2 x y H2 I2 r1 r2 q2
theorem Z9o{op:Operator}{r:R2}(ho:OpR X (Uq op) r)(ha:PE X a ta)(hb:PE X b tb):PE X (.BinOp a op b pos) (tOp r ta tb):=by
 intro pins s σ H Q I h
 exact wpAny_BinOp (Yd2 ha hb I h λv u s2 x y H2 I2 rx ry q=>ho pins s2 σ H2 x y v u Q I2 rx ry q)
theorem Ydk{op:UnaryOp}{r:V->Hp->VK->Prop}(ho:UnR X (unaryOp op) r)(ha:PE X a ta):PE X (.UnaryOp op a pos) (tUn r ta):=by
 intro pins s σ H Q I h
 refine UnaryOp_ (thn (ha pins s σ H _ I h) λv s1 qz9=>?_)
 obtain⟨x,H1,I1,r1,q1⟩:=qz9
 exact ho pins s1 σ H1 x v Q I1 r1 q1
theorem opI{f:Xe->Xe->Sem Xe}{C:Int->Int->Prop}{g:Int->Int->Int}
  (rule:∀(i j:Int) (t u:Tok) (s:Xg) (Q:Xe->Xg->Prop) (E:Xe->Xg->Prop),C i j->Q (.int (g i j) s.toks) { s with toks:=s.toks+1 }->XR (Qg X.prog X.w) X.A (f (.int i t) (.int j u)) Q E s) :
  OpR X f (rI C λi j=>.int (g i j)):=by
 intro pins s σ H x y v u Q I rx ry h
 obtain⟨i,j,rfl,rfl,hc,q⟩:=h
 obtain⟨t,rfl⟩:=rx
 obtain⟨t',rfl⟩:=ry
 exact rule i j t t' s _ _ hc ⟨.int (g i j),H,I.tok _,⟨_,rfl⟩,q⟩
theorem Yg0{f:Xe->Xe->Sem Xe}{g:Int->Int->Int}
  (rule:∀(i j:Int) (t u:Tok) (s:Xg) (Q:Xe->Xg->Prop) (E:Xe->Xg->Prop),Q (.int (g i j) s.toks) { s with toks:=s.toks+1 }->XR (Qg X.prog X.w) X.A (f (.int i t) (.int j u)) Q E s) :
  OpR X f (rI0 λi j=>.int (g i j)):=by
 intro pins s σ H x y v u Q I rx ry h
 obtain⟨i,j,rfl,rfl,q⟩:=h
 obtain⟨t,rfl⟩:=rx
 obtain⟨t',rfl⟩:=ry
 exact rule i j t t' s _ _ ⟨.int (g i j),H,I.tok _,⟨_,rfl⟩,q⟩
theorem Yck{f:Xe->Xe->Sem Xe}{g:Int->Int->Bool}
  (rule:∀(i j:Int) (t u:Tok) (s:Xg) (Q:Xe->Xg->Prop) (E:Xe->Xg->Prop),Q (.bool (g i j)) s->XR (Qg X.prog X.w) X.A (f (.int i t) (.int j u)) Q E s) :
  OpR X f (rI0 λi j=>.bl (g i j)):=by
 intro pins s σ H x y v u Q I rx ry h
 obtain⟨i,j,rfl,rfl,q⟩:=h
 obtain⟨t,rfl⟩:=rx
 obtain⟨t',rfl⟩:=ry
 exact rule i j t t' s _ _ ⟨.bl (g i j),H,I,rfl,q⟩
def Yc8(i j:Int):Prop:=0<=j/\j<=1000000/\i.natAbs<2^64
def CMul(i j:Int):Prop:=(-(2^64)<i/\i<2^64)\/(-(2^64)<j/\j<2^64)
theorem CMul.ok{i j:Int}(h:CMul i j):IntMulOk i j:=by
 rcases h with⟨h1,h2⟩|⟨h1,h2⟩
 .exact .of_left (intBits_le_64 h1 h2)
 .exact .of_right (intBits_le_64 h1 h2)
theorem Yac:OpR X (Uq .Add) (rI0 λi j=>.int (i+j)):=Yg0 λ_ _ _ _ _ _ _ q=>add_int q
theorem Z9a:OpR X (Uq .Sub) (rI0 λi j=>.int (i-j)):=Yg0 λ_ _ _ _ _ _ _ q=>sub_int q
theorem Z4v:OpR X (Uq .Mod) (rI (λ_ j=>j≠0) λi j=>.int (i.fmod j)):=opI λ_ _ _ _ _ _ _ hc q=>mod_int' hc q
theorem Ybe:OpR X (Uq .Pow) (rI Yc8 λi j=>.int (i^j.toNat)):=opI λ_ _ _ _ _ _ _ hc q=>pow_int_small hc.1 hc.2.1 hc.2.2 q
theorem unI{f:Xe->Sem Xe}{g:Int->Int}
  (rule:∀(i:Int) (t:Tok) (s:Xg) (Q:Xe->Xg->Prop) (E:Xe->Xg->Prop),Q (.int (g i) s.toks) { s with toks:=s.toks+1 }->XR (Qg X.prog X.w) X.A (f (.int i t)) Q E s) :
  UnR X f (rU λi=>.int (g i)):=by
 intro pins s σ H x v Q I rx h
 obtain⟨i,rfl,q⟩:=h
 obtain⟨t,rfl⟩:=rx
 exact rule i t s _ _ ⟨.int (g i),H,I.tok _,⟨_,rfl⟩,q⟩
theorem Z9s:UnR X (unaryOp .USub) (rU λi=>.int (-i)):=unI λ_ _ _ _ _ q=>neg_int q
end
section
variable {a b c:Expr}{tc:TE}{pos:Pos}
theorem Ycg{σ:St}{Q:VK}{k k':Bool}(I:Inv X pins σ H s)(q:Q (.bl k) H)(e:k=k'):EP X pins σ Q (.bool k') s:=by
 subst e
 exact⟨.bl k,H,I,rfl,q⟩
theorem Z30:OpR X (QS .Lt) (rI0 λi j=>.bl (decide (i<j))):=Yck λ_ _ _ _ _ _ _ q=>lt_int q
theorem Zx0:OpR X (QS .LtE) (rI0 λi j=>.bl (decide (i<=j))):=Yck λ_ _ _ _ _ _ _ q=>le_int q
theorem Z8p:OpR X (QS .Gt) (rI0 λi j=>.bl (decide (j<i))):=Yck λ_ _ _ _ _ _ _ q=>gt_int q
theorem Zyh:OpR X (QS .GtE) (rI0 λi j=>.bl (decide (j<=i))):=Yck λ_ _ _ _ _ _ _ q=>ge_int q
theorem Z2b:OpR X (QS .Is) (λx y H Q=>y= .non/\Q (.bl (decide (x= .non))) H):=by
 intro pins s σ H x y v u Q I rx ry h
 obtain⟨rfl,q⟩:=h
 cases ry
 refine is_none_gen (Ycg I q ?_)
 cases x<;>first
  | (cases rx;rfl)
  | (obtain⟨t,rfl⟩:=rx;rfl)
theorem Wa(b:Expr){op:CmpOp}(h:op≠ .In:=by decide)(h2:op≠ .NotIn:=by decide):UG op b=false:=by
 have e1:(op==CmpOp.In)=false:=by cases op<;>first|rfl|exact absurd rfl h
 have e2:(op==CmpOp.NotIn)=false:=by cases op<;>first|rfl|exact absurd rfl h2
 cases b<;>simp[UG,e1,e2]
theorem Z4m{op:CmpOp}{r:R2}(ho:OpR X (QS op) r)(ha:PE X a ta)(hb:PE X b tb)(hm:UG op b=false):PE X (.Compare a [op] [b] pos) (tOp r ta tb):=by
 intro pins s σ H Q I h
 exact wpAny_Compare1 (Yd2 ha hb I h λv u s2 x y H2 I2 rx ry q=>ho pins s2 σ H2 x y v u Q I2 rx ry q) hm
def Z3d(t:TE):TT:=λσ H Q=>t σ H λx H'=>∃k,x= .bl k/\Q k H'
theorem Z2t{op:CmpOp}{r:R2}(ho:OpR X (QS op) r)(ha:PE X a ta)(hb:PE X b tb)(hm:UG op b=false):PT X (.Compare a [op] [b] pos) (Z3d (tOp r ta tb)):=by
 intro pins s σ H Q I h
 refine wpAny_isTrue_Compare1 (thn (ha pins s σ H _ I h) λv s1 ⟨x,H1,I1,r1,q1⟩=>thn (hb pins s1 σ H1 _ I1 q1) λu s2 ⟨y,H2,I2,r2,q2⟩=>
  thn (ho pins s2 σ H2 x y v u _ I2 r1 r2 q2) λc s3 ⟨z,H3,I3,r3,k,e,q3⟩=>?_) hm
 subst e
 cases r3
 exact Bq ⟨H3,I3,q3⟩
def Zul(r r':R2)(ta tb tc:TE):TE:=λσ H Q=>ta σ H λx H1=>tb σ H1 λy H2=>r x y H2 λz H3=>∃k,z= .bl k/\
 (if k=true then tc σ H3 λw' H4=>r' y w' H4 Q else Q (.bl false) H3)
theorem Zy2{op op':CmpOp}{r r':R2}(ho:OpR X (QS op) r)(ho':OpR X (QS op') r')(ha:PE X a ta)(hb:PE X b tb)(hc:PE X c tc)
  (hm:lastMarks [op,op'] [b,c]=false:=by with_unfolding_all rfl):PE X (.Compare a [op,op'] [b,c] pos) (Zul r r' ta tb tc):=by
 intro pins s σ H Q I h
 refine Compare_chain (thn (ha pins s σ H _ I h) λv s1 ⟨x,H1,I1,r1,q1⟩=>chain_link (thn (hb pins s1 σ H1 _ I1 q1) λu s2 ⟨y,H2,I2,r2,q2⟩=>
  thn (ho pins s2 σ H2 x y v u _ I2 r1 r2 q2) λd s3 ⟨z,H3,I3,r3,k,e,q3⟩=>?_)) hm
 subst e
 cases r3
 refine Bq ?_
 cases k with
 | false=>exact ite_ff ⟨.bl false,H3,I3,rfl,q3⟩
 | true=>exact ite_tt (chain_last (thn (hc pins s3 σ H3 _ I3 q3) λw' s4 ⟨z',H4,I4,r4,q4⟩=>ho' pins s4 σ H4 y z' u w' Q I4 r2 r4 q4))
theorem Zzf{op op':CmpOp}{r r':R2}(ho:OpR X (QS op) r)(ho':OpR X (QS op') r')(ha:PE X a ta)(hb:PE X b tb)(hc:PE X c tc)
  (hm:lastMarks [op,op'] [b,c]=false:=by with_unfolding_all rfl):PT X (.Compare a [op,op'] [b,c] pos) (Z3d (Zul r r' ta tb tc)):=by
 intro pins s σ H Q I h
 refine isTrue_chain (thn (ha pins s σ H _ I h) λv s1 ⟨x,H1,I1,r1,q1⟩=>test_link (thn (hb pins s1 σ H1 _ I1 q1) λu s2 ⟨y,H2,I2,r2,q2⟩=>
  thn (ho pins s2 σ H2 x y v u _ I2 r1 r2 q2) λd s3 ⟨z,H3,I3,r3,k,e,q3⟩=>?_)) hm
 subst e
 cases r3
 refine Bq ?_
 cases k with
 | false=>
  obtain⟨k',e',q'⟩:=q3
  cases e'
  exact ite_ff ⟨H3,I3,q'⟩
 | true=>
  refine ite_tt (test_last (thn (hc pins s3 σ H3 _ I3 q3) λw' s4 qz9=>?_))
  obtain⟨z',H4,I4,r4,q4⟩:=qz9
  refine thn (ho' pins s4 σ H4 y z' u w' _ I4 r2 r4 q4) λd' s5 qz9=>?_
  obtain⟨z2,H5,I5,r5,k2,e2,q5⟩:=qz9
  subst e2
  cases r5
  exact Bq ⟨H5,I5,q5⟩
def Ygk(K:Xb)(x:V)(H:Hp)(k:Bool):Prop :=
 match x with
 | .non=>k=false
 | .bl b=>k=b
 | .int i=>k=(i !=0)
 | .str y=>y.length<=Xk/\k=((y.length:Int) !=0)
 | .byt y=>y.size<=Xk/\k=((y.size:Int) !=0)
 | .ref p=>(∃xs,SqL K H p xs/\k= !xs.isEmpty)\/(∃xs,SqT K H p xs/\k= !xs.isEmpty)\/∃kvs,H p=some (.dK kvs)/\k= !kvs.isEmpty
 | _=>False
theorem Zsh{κ:Type}{kvs:List (κ×V)}{vs:List (κ×Xe)}(r:KV kvs vs):(!vs.isEmpty)= !kvs.isEmpty:=by
 cases r<;>rfl
theorem Zk1{its:List Xe}(r:Vals xs its):(!its.toArray.isEmpty)= !xs.isEmpty:=by
 cases r<;>simp
theorem Zit:(Xk:Nat)<2^63:=by rw[Qc];decide
theorem Z9f:Yk5 X (λx H Q=>∃k,Ygk X.K x H k/\Q k H):=by
 intro pins s σ H x v Q I rx h
 obtain⟨k,e,q⟩:=h
 have hl:=Zit
 have hs:Xk=16777216:=Qc
 cases x with
 | non=>
  cases rx
  have e':k=false:=e
  subst e'
  exact truthy_none ⟨H,I,q⟩
 | bl b=>
  cases rx
  have e':k=b:=e
  subst e'
  exact Bq ⟨H,I,q⟩
 | int i=>
  obtain⟨t,rfl⟩:=rx
  have e':k=(i !=0):=e
  subst e'
  exact PySem.P.truthy_int ⟨H,I,q⟩
 | str y=>
  obtain⟨t,rfl⟩:=rx
  obtain⟨hy,e'⟩:y.length<=Xk/\k=((y.length:Int) !=0):=e
  subst e'
  exact PySem.P.truthy_str (by omega) ⟨H,I.tok _,q⟩
 | byt y=>
  obtain⟨t,rfl⟩:=rx
  obtain⟨hy,e'⟩:y.size<=Xk/\k=((y.size:Int) !=0):=e
  subst e'
  exact PySem.W.truthy_bytes (by omega) ⟨H,I.tok _,q⟩
 | ref p=>
  cases rx
  have e':(∃xs,SqL X.K H p xs/\k= !xs.isEmpty)\/(∃xs,SqT X.K H p xs/\k= !xs.isEmpty)\/∃kvs,H p=some (.dK kvs)/\k= !kvs.isEmpty:=e
  rcases e' with⟨xs,hx,e'⟩|⟨xs,hx,e'⟩|⟨kvs,hx,e'⟩
  .subst e'
   obtain⟨its,r,pl,hz⟩:=I.list hx
   have hlen:=r.length
   exact wpAny_truthy_list pl.isList (by simp only[XM];omega) ⟨H,I.tok _,by rw[Zk1 r];exact q⟩
  .subst e'
   obtain⟨its,r,pl,hz⟩:=I.tuple hx
   have hlen:=r.length
   exact truthy_tuple pl (by simp only[XM];omega) ⟨H,I.tok _,by rw[Zk1 r];exact q⟩
  .subst e'
   obtain⟨hz,hS,vs,r,m⟩:kvs.length<=Xk/\(p==BV)=false/\∃vs,KV kvs vs/\s.heap.DictOf (Jw X.prog X.w) p vs:=I.hok p _ hx
   have hlen:kvs.length=vs.length:=Paired.length r
   exact wpAny_truthy_dict hS m (by omega) ⟨H,I.tok _,by rw[Zsh r];exact q⟩
 | _=>exact(show False from e).elim
theorem Zxv(ha:PE X a ta)(he:∀whole,isTrue a X.env whole=(do let v<-whole;standAt a.pos;holding [v] (truthy v))) :
  PT X a (λσ H Q=>ta σ H λx H'=>∃k,Ygk X.K x H' k/\Q k H'):=by
 intro pins s σ H Q I h
 refine isTrue_plain (thn (ha pins s σ H _ I h) λv s1 qz9=>?_) (he _)
 obtain⟨x,H1,I1,r1,q1⟩:=qz9
 exact Z9f pins s1 σ H1 x v Q I1 r1 q1
theorem Zes:OpR X (Uq .Add) (λx y H Q=>∃i j,x= .str i/\y= .str j/\i.length+j.length<=Xk/\Q (.str (i ++ j)) H):=by
 intro pins s σ H x y v u Q I rx ry h
 obtain⟨i,j,rfl,rfl,hz,q⟩:=h
 obtain⟨t,rfl⟩:=rx
 obtain⟨t',rfl⟩:=ry
 exact add_str (λt' tk=>⟨.str (i ++ j),H,I.tok _,⟨_,rfl⟩,q⟩) hz
theorem vals1{x:V}(r:Vals [x] us):∃u,us=[u]/\RelV x u:=by
 cases r with
 | cons r1 r2=>cases r2;exact⟨_,rfl,r1⟩
theorem vals2{x:V}(r:Vals [x,y] us):∃u w',us=[u,w']/\RelV x u/\RelV y w':=by
 cases r with
 | cons r1 r2=>
  cases r2 with
  | cons r3 r4=>cases r4;exact⟨_,_,rfl,r1,r3⟩
theorem Zln:Zb3 X (.builtin "abs") (λxs H Q=>∃i,xs=[.int i]/\Q (.int (if i<0 then -i else i)) H):=by
 intro pins s σ H xs us Q I r h
 obtain⟨i,rfl,q⟩:=h
 obtain⟨u,rfl,t,rfl⟩:=vals1 r
 exact call_abs_int λu tk=>⟨.int (if i<0 then -i else i),H,I.tok _,⟨_,rfl⟩,q⟩
theorem Zdn:Zb3 X (.type "str") (λxs H Q=>∃i,xs=[.int i]/\i.natAbs.log2<1920/\Q (.str (toString i)) H):=by
 intro pins s σ H xs us Q I r h
 obtain⟨i,rfl,hz,q⟩:=h
 obtain⟨u,rfl,t,rfl⟩:=vals1 r
 exact PySem.P.str_of_int hz ⟨.str _,H,I.tok _,⟨_,rfl⟩,q⟩
end
structure ObjM(h:Heap)(x dx C:Addr)(mA:Str->Option Xe):Prop where
 obj:h.get? x=some (PySem.W.instObj C dx)
 ns:h.Ns1 dx mA
 ne:dx≠x
theorem Zve{dx:Addr}{mA:Str->Option Xe}(n:h.Ns1 dx mA):∃od,h.get? dx=some od/\∀name,PySem.W.lookIn name od=some (mA name):=by
 obtain⟨o,es,ep,ho,hd,hk,_,hm⟩:=n
 refine⟨o,ho,λname=>?_⟩
 have e:=hm name
 unfold nsFind findBy at e
 rw[<-Array.find?_toList]at e
 unfold PySem.W.lookIn
 rw[hd]
 dsimp only
 split
 .rename_i y q
  rw[q]at e
  exact congrArg some e
 .rename_i q
  rw[q]at e
  have a:es.toList.any (·.refKey)=false:=by
   rw[List.any_eq_false]
   intro y hy
   obtain⟨z,t,hkey⟩:=hk y (Array.mem_toList_iff.mp hy)
   simp[DictEntry.refKey,hkey]
  have a':¬es.toList.any (·.refKey)=true:=by rw[a];exact Xm
  rw[if_neg a']
  exact congrArg some e
theorem ObjM.look{x dx C:Addr}{mA:Str->Option Xe}(I:ObjM h x dx C mA):∃od,PySem.W.InstAt h x (PySem.W.instObj C dx) C (some od)/\∀name,PySem.W.lookIn name od=some (mA name) :=
 let⟨od,ho,hl⟩:=Zve I.ns
 ⟨od,⟨I.obj,rfl,rfl,ho⟩,hl⟩
section
variable {prog:XJ}{x dx C f:Addr}{mA:Str->Option Xe}{name:Str}{v:Xe}
end
theorem RelO.some_of{o:Option Xe}(r:RelO (some v) o):∃u,o=some u/\RelV v u:=by
 cases o with
 | none=>exact(show False from r).elim
 | some u=>exact⟨u,rfl,r⟩
section
variable {C dx:Addr}{fs fs':List (Str×V)}
theorem Z5g(hok:HOk P w H h)(e:H a=some (.ins C dx fs)):∃mA,ObjM h a dx C mA/\(∀f,RelO (fs.lookup f) (mA f))/\PySem.Within mA (fs.map (·.1))/\fs.length<=1000/\H dx=some (.own a):=by
 obtain⟨d,z,ne,ob,mA,n,r,q⟩:=(show ObjOk P w H h a (.ins C dx fs)from hok a _ e)
 exact⟨mA,⟨ob,n,ne⟩,r,q,z,d⟩
end
structure Cls(K:Xb)(C:Addr):Prop where
 pg:PySem.W.plainGet K C Str.empty=true
 hd:PySem.W.hasDictIn K C=true
 po:PySem.W.plainOver K C=true
 sa:Va K (.ref C) "__setattr__"=some (some (.builtin "object.__setattr__"))
theorem Cls.get{C:Addr}(c:Cls K C)(f:Str):PySem.W.plainGet K C f=true:=c.pg
structure Con(K:Xb)(C:Addr)(f:Str)(v:V)(u:Xe):Prop where
 at_:Va K (.ref C) f=some (some u)
 rel:RelV v u
 get:PySem.W.specialIn K u "__get__"=some none
 cp:PySem.W.copiedNames.contains f=false
structure Meth(K:Xb)(C:Addr)(m:Str)(f:Addr):Prop where
 at_:Va K (.ref C) m=some (some (.ref f))
 fn:PySem.W.isFn K (.ref f)=true
 kp:Vr K (.ref f)=true
section
variable {σ:St}{C dx:Addr}{fs:List (Str×V)}{f:Str}
end
section
variable {o value:Expr}{f:Str}{pos tpos:Pos}{tv:TE}
end
section
variable {σ:St}{c:Xe}{b:Bool}
inductive Zsy(K:Xb)(H:Hp):V->Xe->Prop where
 | non:Zsy K H .non (.type "NoneType")
 | bl (x:Bool):Zsy K H (.bl x) (.type "bool")
 | int (i:Int):Zsy K H (.int i) (.type "int")
 | str (x:Str):Zsy K H (.str x) (.type "str")
 | flt (x:UInt64):Zsy K H (.flt x) (.type "float")
 | lst {a:Addr} {xs:List V} (e:H a=some (.lst xs)):Zsy K H (.ref a) (.type "list")
 | frz {a:Addr} {o:Obj} {xs:List V} (e:H a=some (.frz o (.lst xs))):Zsy K H (.ref a) (.type "list")
 | tup {a:Addr} {xs:List V} (e:H a=some (.tup xs)):Zsy K H (.ref a) (.type "tuple")
 | dK {a:Addr} {kvs:List (Key×V)} (e:H a=some (.dK kvs)):Zsy K H (.ref a) (.type "dict")
 | dT {a:Addr} {kvs:List (List Key×V)} (e:H a=some (.dT kvs)):Zsy K H (.ref a) (.type "dict")
 | ins {a C dx:Addr} {fs:List (Str×V)} (e:H a=some (.ins C dx fs)) (cl:Cls K C) (ha:Va K (.ref C) "__class__"=some (some (.builtin "object.__class__")))
   (hn:PySem.W.specialIn K (.builtin "object.__class__") "__get__"=some (some (.builtin "getset_descriptor.__get__"))) (htk:PySem.W.takesIn K (.builtin "object.__class__")=some true)
   (hm:PySem.W.mroIn K C (.type "object")=some true):Zsy K H (.ref a) (.ref C)
theorem Za1{x:V}{t:Xe}(I:Inv X pins σ H s)(rx:RelV x u)(ty:Zsy X.K H x t)(e:BZ X.K t c=some b)(h:∀tk,Q (.bool b) { s with toks:=tk }) :
  XR (Qg X.prog X.w) A (call (.builtin "isinstance") [u,c]) Q E s:=by
 cases ty with
 | non=>cases(show u=QH from rx);exact QV PySem.W.kitx_none I.kIn Vz e (λz=>nomatch z) h
 | bl y=>cases(show u=Value.bool y from rx);exact QV PySem.W.kitx_bool I.kIn Vz e (λz=>nomatch z) h
 | int i=>obtain⟨t,q⟩:=(show∃t,u=UJ i t from rx);cases q;exact QV PySem.W.kitx_int I.kIn Vz e (λz=>nomatch z) h
 | str y=>obtain⟨t,q⟩:=(show∃t,u=Value.str y t from rx);cases q;exact QV PySem.W.kitx_str I.kIn Vz e (λz=>nomatch z) h
 | flt y=>obtain⟨t,q⟩:=(show∃t,u=Xe.float y t from rx);cases q;exact QV PySem.W.kitx_float I.kIn Vz e (λz=>nomatch z) h
 | @lst a xs ea=>
  cases(show u=Qo a from rx)
  obtain⟨_,_,n,_,h1⟩:=(show ObjOk X.prog X.w H s.heap a (.lst xs)from I.hok a _ ea)
  exact QV PySem.W.kitx_list I.kIn ⟨_,h1,rfl⟩ e (λz=>nomatch z) h
 | @frz a ob xs ea=>
  cases(show u=Qo a from rx)
  obtain⟨_,_,_,n,_,h1⟩:=(show ObjOk X.prog X.w H s.heap a (.frz ob (.lst xs))from I.hok a _ ea)
  exact QV PySem.W.kitx_list I.kIn ⟨_,h1,rfl⟩ e (λz=>nomatch z) h
 | @tup a xs ea=>
  cases(show u=Qo a from rx)
  obtain⟨_,_,_,p⟩:=(show ObjOk X.prog X.w H s.heap a (.tup xs)from I.hok a _ ea)
  obtain⟨o,h1,h2,_⟩:=p
  exact QV PySem.W.kitx_tuple I.kIn ⟨o,h1,h2⟩ e (λz=>nomatch z) h
 | @dK a kvs ea=>
  cases(show u=Qo a from rx)
  obtain⟨_,_,vs,_,p⟩:=(show ObjOk X.prog X.w H s.heap a (.dK kvs)from I.hok a _ ea)
  obtain⟨o,es,ep,h1,h2,_⟩:=p
  exact QV PySem.W.kitx_dict I.kIn ⟨o,h1,h2.1⟩ e (λz=>nomatch z) h
 | @dT a kvs ea=>
  cases(show u=Qo a from rx)
  obtain⟨_,_,xs,_,o,es,ep,h1,h2,_⟩:=(show ObjOk X.prog X.w H s.heap a (.dT kvs)from I.hok a _ ea)
  exact QV PySem.W.kitx_dict I.kIn ⟨o,h1,h2.1⟩ e (λz=>nomatch z) h
 | @ins a C dx fs ea cl ha hn htk hm=>
  cases(show u=Qo a from rx)
  obtain⟨mA,O,_⟩:=Z5g I.hok ea
  obtain⟨od,J,_⟩:=O.look
  exact QV (PySem.W.kitx_own (cl.get _) cl.hd ha hn htk hm) I.kIn J e (λz=>nomatch z) h
end
structure Room(k:Nat)(A:Qk):Prop where
 hd:A.handled=none
 dp:A.depth+3*k+5<recursionLimit
 un:A.units+16*k+200<UV
theorem Room.mono{k:Nat}(r:Room k A)(h:j<=k):Room j A:=⟨r.hd,by have:=r.dp;omega,by have:=r.un;omega⟩
theorem Room.deeper{k:Nat}(r:Room (k+1) A)(env:Env):Room k (A.deeper env) :=
 ⟨r.hd,by have:=r.dp;show A.depth+1+3*k+5<_;omega,by have:=r.un;show A.units+3+16*k+200<_;omega⟩
theorem Room.depth{k:Nat}(r:Room k A):A.depth<recursionLimit:=by have:=r.dp;omega
theorem Room.units{k:Nat}(r:Room k A):A.units+64<UV:=by have:=r.un;omega
def Ylm:TA:=λ_ H Q=>Q [] H
def Yf3(ta:TE)(tr:TA):TA:=λσ H Q=>ta σ H λx H1=>tr σ H1 λxs H2=>Q (x :: xs) H2
section
variable {t:TA}{pos:Pos}
theorem Zny:PA X [] Ylm:=λ_ _ _ _ H Q I h=>Calls.spliced_nil ⟨[],H,I,.nil,h⟩
theorem Zgq(ha:PE X e te)(hr:PA X es t)(hs:Xw (e :: es) X.env=(false,eval e X.env) :: Xw es X.env:=by rfl):PA X (e :: es) (Yf3 te t):=by
 intro pos pins s σ H Q I h
 rw[hs]
 show XR _ _ (spliced ((false,eval e X.env) :: Bg pos (Xw es X.env))) _ _ s
 refine Calls.spliced_cons (thn (ha pins s σ H _ I h) λu s1 qz9=>?_)
 obtain⟨x,H1,I1,r1,q1⟩:=qz9
 refine thn (hr pos pins s1 σ H1 _ I1 q1) λus s2 qz9=>?_
 obtain⟨xs,H2,I2,r2,q2⟩:=qz9
 exact⟨x :: xs,H2,I2,.cons r1 r2,q2⟩
def Yj4(t:TA):TE:=λσ H Q=>t σ H λxs H1=>xs.length<=Xk/\∀p,H1 p=none->Q (.ref p) (upd H1 p (.tup xs))
def Yjy(t:TA):TE:=λσ H Q=>t σ H λxs H1=>xs.length<=Xk/\∀p,H1 p=none->Q (.ref p) (upd H1 p (.lst xs))
theorem Z0f{x1}(h:PA X es t):PE X (.Tuple es x1 pos) (Yj4 t):=by
 intro pins s σ H Q I hq
 refine wpAny_Tuple_spliced (thn (h pos pins s σ H _ I hq) λus s1 ⟨xs,H1,I1,r,z,q⟩=>⟨by rw[<-r.length];exact z,?_⟩)
 have hf:H1 s1.heap.objs.size=none:=I1.hok.fresh (XC _)
 refine⟨.ref s1.heap.objs.size,upd H1 s1.heap.objs.size (.tup xs),I1.laid (t':=s1.toks) (λb u e=>Xh _ e) (XC _) ?_,rfl,q _ hf⟩
 exact⟨z,us,r,⟨_,XQ _ rfl,rfl,_,rfl⟩⟩
theorem Z10(h:PA X es t):PE X (.List es pos) (Yjy t):=by
 intro pins s σ H Q I hq
 refine wpAny_List_spliced (thn (h pos pins s σ H _ I hq) λus s1 ⟨xs,H1,I1,r,z,q⟩=>⟨by rw[<-r.length];exact z,?_⟩)
 have hf:H1 s1.heap.objs.size=none:=I1.hok.fresh (XC _)
 refine⟨.ref s1.heap.objs.size,upd H1 s1.heap.objs.size (.lst xs),I1.laid (t':=s1.toks) (λb u e=>Xh _ e) (XC _) ?_,rfl,q _ hf⟩
 exact⟨z,us,0,r,XQ _ rfl⟩
end
abbrev Sp:=List V->Hp->VK->XK->Prop
abbrev CXT:=List Env->Hp->Xg->XK->Xe->Xg->Prop
structure Ycz(P:XJ)(w:Ql)(K:Xb)(mg:Str->Option Xe)(base:Heap)(A:Qk)(outer:List Env)(s:Xg)(H:Hp):Prop where
 frames:A.frames=some outer
 mod:Mod K mg base
 bs:∀b o,base.get? b=some o->s.heap.get? b=some o/\H b=none
 bsz:base.objs.size<=s.heap.objs.size
 funs:s.heap.FunFrames base outer
 frf:∀b∈frs outer,H b=none
 hok:HOk P w H s.heap
 bare:AllBare s.gens
def CE(outer:List Env)(P:XJ)(w:Ql)(H:Hp)(s:Xg)(Q:VK)(u:Xe)(s':Xg):Prop :=
 ∃v H',s'.os=s.os/\AllBare s'.gens/\Un (frs outer) [] H H' s.heap s'.heap/\HOk P w H' s'.heap/\RelV v u/\Q v H'
def CR(CX:CXT)(outer:List Env)(P:XJ)(w:Ql)(H:Hp)(s:Xg)(Q:VK)(E:XK)(r:Result)(s':Xg):Prop :=
 match r with
 | .ok (.ret u)=>CE outer P w H s Q u s'
 | .ok _=>False
 | .error e=>CX outer H s E e s'
structure FnOk(P:XJ)(w:Ql)(K:Xb)(mg:Str->Option Xe)(base:Heap)(CX:CXT)(k:Nat)(f:Addr)(fd:XF)(ps:List Str)(sp:Sp):Prop where
 len:∀vs H Q E,sp vs H Q E->vs.length=ps.length
 run:∀(A:Qk) (outer:List Env) (s:Xg) (H:Hp) (args:Args) (us:List Xe) (vs:List V) (Q:VK) (E:XK),Room k A->Ycz P w K mg base A outer s H->BindsTo s fd args (ps.zip us)->Vals vs us->sp vs H Q E ->
  codeAny (Qg P w) A (.call (.ref f) args) (CR CX outer P w H s Q E) s
theorem FnOk.imp{mg:Str->Option Xe}{base:Heap}{CX:CXT}{k:Nat}{f:Addr}{fd:XF}{ps:List Str}{sp sp':Sp}(F:FnOk P w K mg base CX k f fd ps sp)
  (h:∀vs H Q E,sp' vs H Q E->sp vs H Q E):FnOk P w K mg base CX k f fd ps sp' :=
 ⟨λvs H Q E q=>F.len vs H Q E (h _ _ _ _ q),λA outer s H args us vs Q E hr he hb hv hs=>F.run A outer s H args us vs Q E hr he hb hv (h _ _ _ _ hs)⟩
section
variable {σ:St}
theorem Inv.env0(I:Inv X pins σ H s):Ycz X.prog X.w X.K X.mg X.base X.A X.stack s H :=
 ⟨I.ok.frames,I.ok.mod,I.bs,Qa I.ok.bsz I.sz,I.stack,I.stkFree,I.hok,I.bare⟩
theorem Inv.after{Q:VK}(I:Inv X pins σ H s)(h:CE X.stack X.prog X.w H s Q u s'):EP X pins σ Q u s':=by
 obtain⟨v,H',os,bare,un,hok,r,q⟩:=h
 obtain⟨hh,g,d,t,os'⟩:=s'
 obtain rfl:os'=s.os:=os
 exact⟨v,H',I.call (h':=hh) (g':=g) (d':=d) (t':=t) (ch:=[]) un hok bare (λb z=>absurd z (by simp)),r,q⟩
end
def Yaw(sp:Sp)(dvs:List V)(E:XK)(t:TA):TE:=λσ H Q=>t σ H λvs H1=>sp (vs ++ dvs) H1 Q E
def Binds(K:Xb)(fd:XF)(ps:List Str)(ds:List Xe):Prop :=
 ∀(s:Xg) (us:List Xe),K.In s.heap->(us ++ ds).length=ps.length->BindsTo s fd ⟨us,[]⟩ (ps.zip (us ++ ds))
theorem Binds.all{fd:XF}{ps:List Str}(h:∀us:List Xe,us.length=ps.length->bindArgs fd ⟨us,[]⟩=pure (ps.zip us)):Binds K fd ps []:=λs us _ hl=>by
 rw[QX]at hl|-
 exact .of_eq (h us hl)
def Zrp(CX:CXT)(X:Cx)(E:XK):Prop:=∀(pins:List (Addr×Obj)) (σ:St) (H:Hp) (s:Xg) (e:Xe) (s':Xg),Inv X pins σ H s->CX X.stack H s E e s'->X.xe e s'
section
variable {CX:CXT}{k:Nat}{f C:Addr}{fd:XF}{ps:List Str}{sp:Sp}{dvs:List V}{ds:List Xe}{E:XK}{m:Str}{p pos apos:Pos}{o:Expr}{t:TA}
theorem Z6y{σ:St}{Q:VK}{vs:List V}(F:FnOk X.prog X.w X.K X.mg X.base CX k f fd ps sp)(hr:Room k X.A)(hb:Binds X.K fd ps ds)(hd:Vals dvs ds)(hx:Zrp CX X E)
  (I:Inv X pins σ H s) (r:Vals vs us) (h:sp (vs ++ dvs) H Q E):XR (Qg X.prog X.w) X.A (call (.ref f) us) (EP X pins σ Q) X.xe s:=by
 have r2:Vals (vs ++ dvs) (us ++ ds):=r.append hd
 have hl:(us ++ ds).length=ps.length:=by rw[<-r2.length];exact F.len _ _ _ _ h
 refine wpAny_call (codeAny_mono (F.run X.A X.stack s H ⟨us,[]⟩ (us ++ ds) (vs ++ dvs) Q E hr I.env0 (hb s us I.kIn hl) r2 h) λr s' hq=>?_)
 cases r with
 | error e=>exact hx pins σ H s e s' I hq
 | ok fl=>
  cases fl with
  | ret u=>exact I.after hq
  | next=>exact Vy hq
  | brk=>exact Vy hq
  | cont=>exact Vy hq
theorem Z3o(F:FnOk X.prog X.w X.K X.mg X.base CX k f fd ps sp)(hr:Room k X.A)(hg:Gl X x)(hm:X.mg x=some (.ref f))(hk:Vr X.K (.ref f)=true)(hb:Binds X.K fd ps ds)(hd:Vals dvs ds)(hx:Zrp CX X E)
  (ha:PA X (e :: es) t) (hdb:(x==("__debug__" : Str))=false:=by decide) (he:Xw (e :: es) X.env=(false,eval e X.env) :: Xw es X.env:=by rfl) (hpl:(Bg pos (Xw es X.env)).any (·.1)=false:=by rfl) :
  PE X (.Call (.Name x p) (e :: es) [] pos) (Yaw sp dvs E t):=by
 intro pins s σ H Q I h
 refine wpAny_Call_Name_kw (Zv6 I hg hm ?_ hdb)
 refine PySem.W.callWith_K (h₀:=X.base) I.ok.mod.kin hk (thn (ha pos pins s σ H _ I h) λus s1 qz9=>?_) he hpl
 obtain⟨vs,H1,I1,r,q⟩:=qz9
 refine⟨I1.kIn,?_⟩
 exact Z6y F hr hb hd hx I1 r q
structure Mk(K:Xb)(C f:Addr):Prop where
 makes:PySem.W.makesIn K C=true
 init:Va K (.ref C) "__init__"=some (some (.ref f))
 fn:PySem.W.isFn K (.ref f)=true
 kp:Vr K (.ref C)=true
end
section
variable {CX:CXT}{k:Nat}{f C:Addr}{fd:XF}{ps ks:List Str}{sp:Sp}{E:XK}{m:Str}{p pos apos kpos:Pos}{o:Expr}{kws:List V8}{t tk:TA}{nm:Option Str}
structure Ygv(K:Xb)(fd:XF)(ps ks:List Str)(g:List Xe->List Xe->List Xe)(gV:List V->List V->List V):Prop where
 to:∀(s:Xg) (us ws:List Xe),K.In s.heap->(g us ws).length=ps.length->BindsTo s fd ⟨us,ks.zip ws⟩ (ps.zip (g us ws))
 rel:∀{vs:List V} {us:List Xe} {zs:List V} {ws:List Xe},Vals vs us->Vals zs ws->Vals (gV vs zs) (g us ws)
variable {g:List Xe->List Xe->List Xe}{gV:List V->List V->List V}
end
structure Zm(N P:List Str)(sc:Ud):Prop where
 kind:sc.kind= .function
 co:sc.isCoroutine=false
 gen:sc.isGenerator=false
 nd:N.Nodup
 pre:N.take P.length=P
 par:∀x∈P,sc.names.lookup x=some .local\/sc.names.lookup x=some .cell
 nofree:∀y∈sc.names,y.2≠ .free
theorem Zol{kindOf:Str->Option Bp}:∀{binds:List (Str×Xe)} {m:Str->Option Xe},(∀v,(x,v)∉binds)->bindL kindOf binds m x=m x
 | [],_,_=>rfl
 | (n,v) :: r,m,h=>by
  unfold bindL
  rw[Zol λw hw=>h w (Us _ hw)]
  split
  .have:x≠n:=by rintro rfl;exact h v U0
   simp[this]
  .rfl
theorem Zn4{kindOf:Str->Option Bp}:∀{binds:List (Str×Xe)} {m:Str->Option Xe},(∀v,(x,v)∉binds)->bindC kindOf binds m x=m x
 | [],_,_=>rfl
 | (n,v) :: r,m,h=>by
  unfold bindC
  rw[Zn4 λw hw=>h w (Us _ hw)]
  split
  .rfl
  .have:x≠n:=by rintro rfl;exact h v U0
   simp[this]
theorem Zoi{kindOf:Str->Option Bp}{v:Xe}:∀{P:List Str} {vs:List Xe} {i:Nat} {m:Str->Option Xe},P.Nodup->P[i]? =some x->vs[i]? =some v->kindOf x=some .local ->
  bindL kindOf (P.zip vs) m x=some v
 | [],_,_,_,_,h,_,_=>by simp at h
 | _ :: _,[],_,_,_,_,h,_=>by simp at h
 | p :: P,w :: vs,0,m,nd,h1,h2,hk=>by
  simp at h1 h2;subst h1;subst h2
  show bindL kindOf ((p,w) :: P.zip vs) m p=_
  unfold bindL
  rw[Zol λv hv=>(Qm.mp nd).1 (List.of_mem_zip hv).1,if_pos hk]
  simp
 | p :: P,w :: vs,i+1,m,nd,h1,h2,hk=>by
  show bindL kindOf ((p,w) :: P.zip vs) m x=_
  unfold bindL
  exact Zoi (i:=i) (Qm.mp nd).2 (by simpa using h1) (by simpa using h2) hk
theorem Zmp{kindOf:Str->Option Bp}{v:Xe}:∀{P:List Str} {vs:List Xe} {i:Nat} {m:Str->Option Xe},P.Nodup->P[i]? =some x->vs[i]? =some v->kindOf x≠some .local ->
  bindC kindOf (P.zip vs) m x=some v
 | [],_,_,_,_,h,_,_=>by simp at h
 | _ :: _,[],_,_,_,_,h,_=>by simp at h
 | p :: P,w :: vs,0,m,nd,h1,h2,hk=>by
  simp at h1 h2;subst h1;subst h2
  show bindC kindOf ((p,w) :: P.zip vs) m p=_
  unfold bindC
  rw[Zn4 λv hv=>(Qm.mp nd).1 (List.of_mem_zip hv).1,if_neg hk]
  simp
 | p :: P,w :: vs,i+1,m,nd,h1,h2,hk=>by
  show bindC kindOf ((p,w) :: P.zip vs) m x=_
  unfold bindC
  exact Zmp (i:=i) (Qm.mp nd).2 (by simpa using h1) (by simpa using h2) hk
def start(N:List Str)(vs:List V):St:=vs.map some ++ X6 (N.length-vs.length) none
def Z13(CX:CXT)(P:XJ)(w:Ql)(K:Xb)(mg:Str->Option Xe)(base:Heap)(N:List Str)(qual:Str)(scope:Ud)(f:Addr)(cd:Xe)(A:Qk)(outer:List Env)(s:Xg)(H:Hp)(E:XK):Cx where
 prog:=P
 w:=w
 K:=K
 mg:=mg
 base:=base
 A:=A.deeper (envOfC qual scope s.heap.objs.size f cd)
 N:=N
 s₀:=s
 H₀:=H
 env:=envOfC qual scope s.heap.objs.size f cd
 outer:=outer
 stack:=envOfC qual scope s.heap.objs.size f cd :: outer
 ex:=[]
 calm:=true
 fn:=λ_=>true
 pn:=[]
 xe:=λe s'=>XR (Qg P w) (A.deeper (envOfC qual scope s.heap.objs.size f cd)) (leaving (envOfC qual scope s.heap.objs.size f cd) e) (λ_ s''=>CX outer H s E e s'') (λe' s''=>CX outer H s E e' s'') s'
theorem Zrf{sc:Ud}{n:Nat}(h:sc.names.lookup x=some .cell):∃c,(Bb n sc.names []).lookup x=some c:=by
 have q:=PySem.W.cellsFrom_some sc.names n [] (.inl h)
 exact Option.isSome_iff_exists.mp q
theorem Zuf{CX:CXT}{mg:Str->Option Xe}{base:Heap}{ps:List Str}{qual:Str}{scope:Ud}{f:Addr}{cd:Xe}{outer:List Env}{s1:Xg}{E:XK}{vs:List V}
  (S:Zm N ps scope) (hd:A.handled=none) (e0:Ycz P w K mg base A outer s H) (hl:vs.length=ps.length) (r:Vals vs us)
  (x:InCallC s s.heap.objs.size (bindL (envOfC qual scope s.heap.objs.size f cd).kindOf (ps.zip us) λ_=>none) (Bb (s.heap.objs.size+1) scope.names []) (bindC (envOfC qual scope s.heap.objs.size f cd).kindOf (ps.zip us) λ_=>none) s1) :
  Inv (Z13 CX P w K mg base N qual scope f cd A outer s H E) [] (start N vs) H s1:=by
 have hpl:ps.length<=N.length:=by have:=congrArg Ut S.pre;rw[List.length_take]at this;omega
 obtain⟨h1,tk,rfl,hk⟩:=x.done
 have noA:∀b:Addr,b∉(Z13 CX P w K mg base N qual scope f cd A outer s H E).ex:=λb z=>absurd (show b∈([]:List Addr)from z) (by simp)
 refine⟨⟨e0.mod,S.kind,rfl,rfl,XC _,λy z c h1 h2=>?_,λy hy=>?_,λy c _ h=>?_,λ_=>hd,Qk.frames_deeper e0.frames,.inr ⟨rfl,rfl⟩,λb z=>absurd z (noA b),e0.bs,e0.bsz,λb _ _=>noA b,λb z=>absurd z (noA b),e0.funs,e0.frf⟩,
  rfl,e0.bare,Un.kept hk,⟨_,x.toInCall.ns,λi y v h1 h2 h3=>?_⟩,λy c h=>⟨_,x.cell y c h⟩,e0.hok.fresh (XC _),λy c h=>?_,λp hp=>absurd (show p∈([]:List (Addr×Obj))from hp) (by simp),e0.hok.kept hk,?_⟩
 .exact name_of_addr x.apart (JT h1) (JT h2)
 .have hy:scope.names.lookup y=some .cell\/scope.names.lookup y=some .free:=hy
  rcases hy with hy|hy
  .exact Zrf hy
  .exact absurd rfl (S.nofree _ (JT hy))
 .exact Nat.le_of_lt (x.above y c (JT h))
 .have hi:i<vs.length:=by
   unfold start at h2
   by_cases hi:i<vs.length
   .exact hi
   .rw[JV (by simpa using hi)]at h2
    rw[List.getElem?_replicate]at h2
    split at h2<;>cases h2
  have ha:vs[i]? =some v:=by
   unfold start at h2
   rw[VP (by simpa using hi),Xj]at h2
   cases e:vs[i]? with
   | none=>rw[e]at h2;cases h2
   | some a=>rw[e]at h2;cases h2;rfl
  obtain⟨u,hu,rv⟩:=r.get ha
  have hp:ps[i]? =some y:=by
   rw[<-S.pre,List.getElem?_take_of_lt (by omega)];exact h1
  have ndP:ps.Nodup:=by rw[<-S.pre];exact S.nd.sublist (List.take_sublist _ _)
  refine⟨u,rv,?_⟩
  rcases S.par y (X5 hp)with k|k
  .exact .inl ⟨k,Zoi ndP hp hu k⟩
  .obtain⟨c,e⟩:=Zrf (n:=s.heap.objs.size+1) k
   refine .inr ⟨.inl k,c,e,?_⟩
   have q:=x.cell y c e
   rw[Zmp ndP hp hu (by show scope.names.lookup y≠_;rw[k];decide)]at q
   exact q
 .exact e0.hok.fresh (Nat.le_of_lt (x.above y c (JT h)))
 .unfold start
  show _=N.length
  rw[X7,Xc,Ul]
  omega
theorem Ygp{CX:CXT}{mg:Str->Option Xe}{base:Heap}{k:Nat}{f:Addr}{name qual:Str}{params:Arguments}{scope:Ud}{dV kV doc pm cdv ct oc:Xe}{an od:Option Addr}
  {osl:Array (Option Xe)} {ps:List Str} {sp:Sp} (lk:K.lookup f=some ⟨oc,od,.func (Vx name qual params body scope dV kV doc pm an cdv ct),osl⟩) (hcd:PySem.W.codeIn K cdv qual=true) (S:Zm N ps scope)
  (len:∀vs H Q E,sp vs H Q E->vs.length=ps.length)
  (hbody:∀(A:Qk) (outer:List Env) (s:Xg) (H:Hp) (vs:List V) (Q:VK) (E:XK),Room k (A.deeper (envOfC qual scope s.heap.objs.size f cdv))->sp vs H Q E ->
   ∃t,PSs (Z13 CX P w K mg base N qual scope f cdv A outer s H E) body t/\t { nx:=λ_ H'=>Q .non H',rt:=Q } (start N vs) H) :
  FnOk P w K mg base CX (k+1) f (Vx name qual params body scope dV kV doc pm an cdv ct) ps sp:=by
 refine⟨len,λA outer s H args us vs Q E hr e0 hb r hsp=>?_⟩
 have hl:=len _ _ _ _ hsp
 have KX:K.In s.heap:=e0.mod.kin.keeps λb o e=>(e0.bs b o e).1
 have lim:s.heap.NoLimit:=e0.mod.nolimit.keeps λb o e=>(e0.bs b o e).1
 have hkind:∀y∈ps.zip us,scope.names.lookup y.1=some .local\/(scope.names.lookup y.1=some .cell/\((Bb (s.heap.objs.size+1) scope.names []).lookup y.1).isSome=true):=λ⟨n,v⟩ hy=>by
  rcases S.par n (List.of_mem_zip hy).1 with q|q
  .exact .inl q
  .exact .inr ⟨q,PySem.W.cellsFrom_some _ _ _ (.inl q)⟩
 refine codeAny_call_function hr.depth (KX _ _ lk) rfl S.co S.gen rfl (PySem.W.codeRec_of KX hcd) (hb _ _ _ _ ?_)
 refine wpAny_newFunctionEnv_cells S.kind hkind λenv he s1 x=>?_
 subst he
 refine⟨lim.keeps x.toInCall.keep,codeAny_func ?_⟩
 obtain⟨t,ht,hq⟩:=hbody A outer s H vs Q E (hr.deeper _) hsp
 have I:Inv (Z13 CX P w K mg base N qual scope f cdv A outer s H E) [] (start N vs) H s1:=Zuf S hr.hd e0 hl r x
 refine Bm (ht [] s1 (start N vs) H _ I hq) (λfl s' hs=>?_) λe s' hs=>hs
 have fin:∀{σ':St} {H':Hp} {v:V} {u:Xe},Inv (Z13 CX P w K mg base N qual scope f cdv A outer s H E) [] σ' H' s'->RelV v u->Q v H'->CE outer P w H s Q u s' :=
  fun{σ' H' v u} J rv q=>⟨v,H',J.os,J.bare,J.base,J.hok,rv,q⟩
 cases fl with
 | ret u=>
  obtain⟨v,σ',H',J,rv,q⟩:=hs
  exact fin J rv q
 | next=>
  obtain⟨σ',H',J,q⟩:=hs
  exact fin (v:=V.non) (u:=QH) J rfl q
 | brk=>
  obtain⟨_,_,_,q⟩:=hs
  exact Vy q
 | cont=>
  obtain⟨_,_,_,q⟩:=hs
  exact Vy q
section
variable {p pos:Pos}{t:TA}{id T:String}{r:List V->Hp->VK->Prop}
def tCB(r:List V->Hp->VK->Prop)(t:TA):TE:=λσ H Q=>t σ H λvs H1=>r vs H1 Q
theorem Zl9(hc:Zb3 X (.builtin id) r)(hg:Gl X x)(hm:X.mg x=none)(hv:Qp x=some (.builtin id))(ha:PA X (e :: es) t)(hn:x≠"__name__" :=by decide)(hdb:(x==("__debug__" : Str))=false:=by decide)
  (he:Xw (e :: es) X.env=(false,eval e X.env) :: Xw es X.env:=by rfl) (hpl:(Bg pos (Xw es X.env)).any (·.1)=false:=by rfl):PE X (.Call (.Name x p) (e :: es) [] pos) (tCB r t):=by
 intro pins s σ H Q I h
 refine wpAny_Call_Name_kw (Zk2 I hg hm hv ?_ hn hdb)
 refine PyProof.Rows.callWith_builtin1 (thn (ha pos pins s σ H _ I h) λus s1 qz9=>?_) he hpl
 obtain⟨vs,H1,I1,r1,q1⟩:=qz9
 exact hc pins s1 σ H1 vs us Q I1 r1 q1
theorem Zoh(hc:Zb3 X (.type T) r)(hg:Gl X x)(hm:X.mg x=none)(hv:Qp x=some (.type T))(ha:PA X (e :: es) t)(hn:x≠"__name__" :=by decide)(hdb:(x==("__debug__" : Str))=false:=by decide)
  (he:Xw (e :: es) X.env=(false,eval e X.env) :: Xw es X.env:=by rfl) (hpl:(Bg pos (Xw es X.env)).any (·.1)=false:=by rfl):PE X (.Call (.Name x p) (e :: es) [] pos) (tCB r t):=by
 intro pins s σ H Q I h
 refine wpAny_Call_Name_kw (Zk2 I hg hm hv ?_ hn hdb)
 refine Vh (thn (ha pos pins s σ H _ I h) λus s1 qz9=>?_) he hpl
 obtain⟨vs,H1,I1,r1,q1⟩:=qz9
 exact hc pins s1 σ H1 vs us Q I1 r1 q1
end
end L2
namespace HT
open PySem PyProof.Rows
section
open PySem.SeqAt
open PySem.AutoSeq1 (wpAny_loadPart')
open PySem.MeetsSeq PySem.MeetsSeq2 PySem.MeetsSeq3
end
section
variable {prog:XJ}
def sIx(n d:Nat):Option Int->Nat
 | none=>d
 | some v=>if v<0 then(v+(n:Int)).toNat else min v.toNat n
theorem sIx_nat(n d k:Nat):sIx n d (some (k:Int))=min k n:=by
 show(if(k:Int)<0 then((k:Int)+(n:Int)).toNat else min (k:Int).toNat n)=min k n
 rw[if_neg (by omega),JG]
end
end HT
namespace L2
open PySem PySem.Spec PyProof.Rows
abbrev TO:=St->Hp->(Option Int->Hp->Prop)->Prop
def PO(X:Cx)(e:Option Expr)(t:TO):Prop :=
 ∀(pins:List (Addr×Obj)) (s:Xg) (σ:St) (H:Hp) (Q:Option Int->Hp->Prop),Inv X pins σ H s->t σ H Q ->
  XR (Qg X.prog X.w) X.A (evalPart e X.env) (λu s'=>∃o H',Inv X pins σ H' s'/\IsPart u o/\Q o H') X.xe s
def Z5m:TO:=λ_ H Q=>Q none H
def Ygi(t:TE):TO:=λσ H Q=>t σ H λx H1=>∃i,x= .int i/\Q (some i) H1
section
variable {lo hi:Option Expr}{tl th:TO}{pos p2:Pos}
theorem Z44:PO X none Z5m:=by
 intro pins s σ H Q I h
 rw[evalPart_none]
 exact Xy ⟨none,H,I,.none,h⟩
theorem Z4z(h:PE X e te):PO X (some e) (Ygi te):=by
 intro pins s σ H Q I hw
 rw[evalPart_some]
 refine thn (h pins s σ H _ I hw) λu s1 qz9=>?_
 obtain⟨x,H1,I1,r1,q1⟩:=qz9
 obtain⟨i,rfl,q⟩:=q1
 obtain⟨t,rfl⟩:=r1
 exact⟨some i,H1,I1,.int i t,q⟩
def SlR(X:Cx)(r:V->Option Int->Option Int->Hp->VK->Prop):Prop :=
 ∀(pins:List (Addr×Obj)) (s:Xg) (σ:St) (H:Hp) (x:V) (v vl vu:Xe) (lo hi:Option Int) (sl:Addr) (Q:VK),Inv X pins σ H s->RelV x v->s.heap.IsSliceOf sl vl vu .none->IsPart vl lo->IsPart vu hi->r x lo hi H Q ->
  ∃T id,typeLookup (.type T) "__getitem__"=pure (some (.builtin id))/\s.TypeIs v T/\XR (Qg X.prog X.w) X.A (getItem v (.ref sl)) (EP X pins σ Q) X.xe s
def tSl(r:V->Option Int->Option Int->Hp->VK->Prop)(te:TE)(tl th:TO):TE:=λσ H Q=>te σ H λx H1=>tl σ H1 λl H2=>th σ H2 λu H3=>r x l u H3 Q
theorem Zxt{r:V->Option Int->Option Int->Hp->VK->Prop}(hr:SlR X r)(he:PE X e te)(hl:PO X lo tl)(hu:PO X hi th):PE X (.Subscript e (.Slice lo hi none p2) pos) (tSl r te tl th):=by
 intro pins s σ H Q I h
 refine Subscript_ (thn (he pins s σ H _ I h) λv s1 qz9=>?_)
 obtain⟨x,H1,I1,r1,q1⟩:=qz9
 refine wpAny_Slice (thn (hl pins s1 σ H1 _ I1 q1) λvl s2 qz9=>?_)
 obtain⟨l,H2,I2,pl,q2⟩:=qz9
 refine thn (hu pins s2 σ H2 _ I2 q2) λvu s3 qz9=>?_
 obtain⟨u,H3,I3,pu,q3⟩:=qz9
 rw[evalPart_none]
 refine Xy ?_
 have I4:Inv X pins σ H3 { s3 with heap:=s3.heap.push { cls:=.type "slice",data:=.fields #[vl,vu,.none] } }:=I3.kept (t':=s3.toks) λb ob q=>Xh _ q
 obtain⟨T,id,hT,ht,hg⟩:=hr pins { s3 with heap:=s3.heap.push { cls:=.type "slice",data:=.fields #[vl,vu,.none] } } σ H3 x v vl vu l u s3.heap.objs.size Q I4 r1 (Heap.IsSliceOf.new ..) pl pu q3
 show XR (Qg X.prog X.w) X.A (subscriptTail e (.Slice lo hi none p2) v (.ref s3.heap.objs.size)) (EP X pins σ Q) X.xe { s3 with heap:=s3.heap.push { cls:=.type "slice",data:=.fields #[vl,vu,.none] } }
 exact tail_any (ops:=[.ref s3.heap.objs.size,v]) ht hT hg (by with_unfolding_all rfl)
def Z6q(xs:List V)(lo hi:Option Int):List V:=(xs.drop (HT.sIx xs.length 0 lo)).take (HT.sIx xs.length xs.length hi-HT.sIx xs.length 0 lo)
theorem Zp4(xs:List V)(lo hi:Option Int):(Z6q xs lo hi).length<=xs.length:=by
 unfold Z6q
 rw[List.length_take,Vd]
 omega
end
def ixN(n:Nat)(i:Int):Option Nat:=if 0<=i then(if i<n then some i.toNat else none)else if -(n:Int)<=i then some (i+n).toNat else none
def atI(xs:List α)(i:Int):Option α:=(ixN xs.length i).bind λj=>xs[j]?
theorem Zvs{n:Nat}{i:Int}(h:ixN n i=some j):seqIndex? i n=some j/\j<n/\-(n:Int)<=i/\i<n:=by
 unfold ixN at h
 by_cases h0:0<=i
 .rw[if_pos h0]at h
  by_cases h1:i<n
  .rw[if_pos h1]at h
   have e:i.toNat=j:=Qu h
   exact⟨by rw[seqIndex_of h0 h1,e],by omega,by omega,h1⟩
  .rw[if_neg h1]at h;cases h
 .rw[if_neg h0]at h
  by_cases h1:-(n:Int)<=i
  .rw[if_pos h1]at h
   have e:(i+n).toNat=j:=Qu h
   exact⟨by rw[seqIndex_neg (by omega) h1,e],by omega,h1,by omega⟩
  .rw[if_neg h1]at h;cases h
theorem Zov{xs:List α}{i:Int}{v:α}(h:atI xs i=some v):∃j,seqIndex? i xs.length=some j/\xs[j]? =some v/\j<xs.length/\-(xs.length:Int)<=i/\i<xs.length:=by
 unfold atI at h
 cases e:ixN xs.length i with
 | none=>rw[e]at h;cases h
 | some j=>
  rw[e]at h
  obtain⟨h1,h2,h3,h4⟩:=Zvs e
  exact⟨j,h1,h,h2,h3,h4⟩
theorem Zy5(xs:List α)(v:α):atI (xs ++ [v]) (-1)=some v:=by
 have hl:(xs ++ [v]).length=xs.length+1:=by simp
 have e:ixN (xs ++ [v]).length (-1)=some xs.length:=by
  unfold ixN
  rw[hl,if_neg (by decide),if_pos (by omega)]
  congr 1
  omega
 unfold atI
 rw[e]
 show(xs ++ [v])[xs.length]? =some v
 simp
def Zjc(b:Expr):Prop:=∀o i,subscripted b false o i=operate [o,i] (getItem o i)
def IxR(X:Cx)(r:R2):Prop :=
 ∀(value slice:Expr) (pins:List (Addr×Obj)) (s:Xg) (σ:St) (H:Hp) (x y:V) (v u:Xe) (Q:VK),Inv X pins σ H s->RelV x v->RelV y u->r x y H Q ->
  subscripted slice false v u=operate [v,u] (getItem v u)->XR (Qg X.prog X.w) X.A (subscriptTail value slice v u) (EP X pins σ Q) X.xe s
def MtR(X:Cx)(id:String)(r:V->List V->Hp->VK->Prop):Prop :=
 ∀(pins:List (Addr×Obj)) (s:Xg) (σ:St) (H:Hp) (x:V) (xs:List V) (v:Xe) (us:List Xe) (Q:VK),Inv X pins σ H s->RelV x v->Vals xs us->r x xs H Q ->
  XR (Qg X.prog X.w) X.A (call (.builtin id) (v :: us)) (EP X pins σ Q) X.xe s
section
variable {a b:Expr}{pos:Pos}
theorem IxR.or{r r':R2}(h:IxR X r)(h':IxR X r'):IxR X (λx y H Q=>r x y H Q\/r' x y H Q):=by
 intro value slice pins s σ H x y v u Q I rx ry q hs
 rcases q with q|q
 .exact h value slice pins s σ H x y v u Q I rx ry q hs
 .exact h' value slice pins s σ H x y v u Q I rx ry q hs
theorem Z2u{r:R2}(hr:IxR X r)(ha:PE X a ta)(hb:PE X b tb)(hs:Zjc b):PE X (.Subscript a b pos) (tOp r ta tb):=by
 intro pins s σ H Q I h
 exact Subscript_ (Yd2 ha hb I h λv u s2 x y H2 I2 rx ry q=>hr a b pins s2 σ H2 x y v u Q I2 rx ry q (hs _ _))
def Yd3(K:Xb):R2:=λx y H Q=>∃p xs i v,x= .ref p/\y= .int i/\SqL K H p xs/\atI xs i=some v/\Q v H
def Yh2(K:Xb):R2:=λx y H Q=>∃p xs i v,x= .ref p/\y= .int i/\SqT K H p xs/\atI xs i=some v/\Q v H
def Yhb:R2:=λx y H Q=>∃z i c,x= .str z/\y= .int i/\z.length<=Xk/\atI z.cps.toList i=some c/\Q (.str ⟨#[c]⟩) H
theorem Zv0:IxR X (Yd3 X.K):=by
 intro value slice pins s σ H x y v u Q I rx ry h hs
 obtain⟨p,xs,i,z,rfl,rfl,hq,he,q⟩:=h
 cases rx
 obtain⟨t,rfl⟩:=ry
 obtain⟨its,r,pl,hz⟩:=I.list hq
 obtain⟨j,h1,h2,h3,h4,h5⟩:=Zov he
 obtain⟨w,ew,rw'⟩:=r.get h2
 have hl:=r.length
 have hn:=Zit
 have fin:EP X pins σ Q w s:=⟨z,H,I,rw',q⟩
 by_cases h0:0<=i
 .have hj:i.toNat=j:=by
   rw[seqIndex_of h0 h5]at h1
   exact Qu h1
  exact item_listR pl.isList h0 (by omega) (by rw[hj];simpa using ew) fin hs
 .have hj:(i+(its.toArray.size:Int)).toNat=j:=by
   rw[seqIndex_neg (by omega) h4]at h1
   rw[XM,<-hl]
   exact Qu h1
  exact subscriptTail_builtinR (x:=w) pl.isList.typeIs slot_list_getitem.lookup
   (wpAny_getItem_list_neg (Q:=λr s'=>r=w/\EP X pins σ Q r s') pl.isList (by omega) (by rw[XM]<;>omega) (by omega) (by rw[hj];simpa using ew) ⟨rfl,fin⟩) hs
theorem Ybi:IxR X (Yh2 X.K):=by
 intro value slice pins s σ H x y v u Q I rx ry h hs
 obtain⟨p,xs,i,z,rfl,rfl,hq,he,q⟩:=h
 cases rx
 obtain⟨t,rfl⟩:=ry
 obtain⟨its,r,pl,hz⟩:=I.tuple hq
 obtain⟨j,h1,h2,h3,h4,h5⟩:=Zov he
 obtain⟨w,ew,rw'⟩:=r.get h2
 have hl:=r.length
 have hn:=Zit
 have fin:EP X pins σ Q w s:=⟨z,H,I,rw',q⟩
 exact subscriptTail_builtinR (x:=w) pl.typeIs slot_tuple_getitem.lookup
  (getItem_tuple (j:=j) (Q:=λr s'=>r=w/\EP X pins σ Q r s') pl (by omega) (by omega) (by rw[XM,<-hl];exact h1) (by simpa using ew) ⟨rfl,fin⟩) hs
theorem Ybw:IxR X Yhb:=by
 intro value slice pins s σ H x y v u Q I rx ry h hs
 obtain⟨z,i,c,rfl,rfl,hz,he,q⟩:=h
 obtain⟨t,rfl⟩:=rx
 obtain⟨t',rfl⟩:=ry
 obtain⟨j,h1,h2,h3,h4,h5⟩:=Zov he
 have hl:z.cps.toList.length=z.length:=by simp[Str.length]
 rw[hl]at h1 h4 h5
 have hn:=Zit
 exact tail_any (typeIs_str s z t) slot_str_getitem.lookup (getItem_str (c:=c) (by
  have e1:decide (i< -(2^63:Int))=false:=decide_eq_false (by omega)
  have e2:decide (i>=2^63)=false:=decide_eq_false (by omega)
  rw[e1,e2,Bool.or_false]) (by rw[h1];simpa using h2) ⟨.str ⟨#[c]⟩,H,I.tok _,⟨_,rfl⟩,q⟩) hs
def rIx(K:Xb):R2:=λx y H Q=>Yd3 K x y H Q\/Yh2 K x y H Q\/Yhb x y H Q
theorem Yav:IxR X (rIx X.K):=Zv0.or (Ybi.or Ybw)
theorem Zr0(its:List Xe)(n j:Nat)(u:Xe):JX (·.setIfInBounds j u) { cls:=.type "list",data:=.seq its.toArray n }={ cls:=.type "list",data:=.seq (its.set j u).toArray n }:=by
 simp[JX]
theorem Inv.lst{σ:St}{p:Addr}(I:Inv X pins σ H s)(h:H p=some (.lst xs)) :
  ∃(its:List Xe) (n:Nat),Vals xs its/\s.heap.get? p=some { cls:=.type "list",data:=.seq its.toArray n }/\xs.length<=Xk:=by
 obtain⟨z,its,n,r,e⟩:=I.hok p _ h
 exact⟨its,n,r,e,z⟩
theorem Inv.lstUpd{σ:St}{p:Addr}{its its':List Xe}{n n':Nat}{f:Obj->Obj}(I:Inv X pins σ H s)(h:H p=some (.lst xs))
  (ho:s.heap.get? p=some { cls:=.type "list",data:=.seq its.toArray n }) (hf:f { cls:=.type "list",data:=.seq its.toArray n }={ cls:=.type "list",data:=.seq its'.toArray n' }) (r:Vals ys its') (hz:ys.length<=Xk) (t:Nat) :
  Inv X pins σ (upd H p (.lst ys)) { s with heap:=s.heap.update p f,toks:=t }:=by
 have e:(s.heap.update p f).get? p=some { cls:=.type "list",data:=.seq its'.toArray n' }:=by
  rw[Heap.get?_update_self f ho (by rw[hf]<;>rfl),hf]
 refine I.write (x:=p) (e:=p) (by rw[h];trivial) (.inl rfl) (λb u hb q=>(Heap.get?_update_other _ _ (Bo hb)).trans q) ⟨_,e⟩ ?_
 exact⟨hz,its',n',r,e⟩
def Z4i:V->V->V->Hp->(Hp->Prop)->Prop:=λo i v H Q=>∃p xs k j,o= .ref p/\i= .int k/\H p=some (.lst xs)/\ixN xs.length k=some j/\Q (upd H p (.lst (xs.set j v)))
theorem set_list:Yhr X Z4i:=by
 intro pins s σ H o i v ov iv u Q I ro ri rv h
 obtain⟨p,xs,k,j,rfl,rfl,hp,hj,q⟩:=h
 cases ro
 obtain⟨t,rfl⟩:=ri
 obtain⟨its,n,r,ho,hz⟩:=I.lst hp
 obtain⟨h1,h2,h3,h4⟩:=Zvs hj
 have hl:=r.length
 have hn:=Zit
 have I':Inv X pins σ (upd H p (.lst (xs.set j v))) { s with heap:=s.heap.update p (JX (·.setIfInBounds j u)) } :=
  I.lstUpd hp ho (Zr0 its n j u) (r.set rv j) (by rw[JZ];exact hz) s.toks
 by_cases h0:0<=k
 .have hk:k.toNat=j:=by
   rw[seqIndex_of h0 h4]at h1
   exact Qu h1
  exact PySem.W.ki_setAt ho h0 (by omega) (by rw[XM,<-hl];exact h4) (by rw[hk];exact⟨_,I',q⟩)
 .have hk:(k+(its.toArray.size:Int)).toNat=j:=by
   rw[seqIndex_neg (by omega) h3]at h1
   rw[XM,<-hl]
   exact Qu h1
  exact PySem.W.ki_setBack ho (by omega) (by rw[XM,<-hl];exact h3) (by omega) (by rw[hk];exact⟨_,I',q⟩)
theorem Zob(lo hi:Option Int)(n:Nat):(UL lo hi none n).1=((HT.sIx n 0 lo:Nat):Int)/\(UL lo hi none n).2.1=((HT.sIx n n hi:Nat):Int)/\(UL lo hi none n).2.2=1:=by
 refine⟨?_,?_,rfl⟩
 .cases lo with
  | none=>simp[UL,HT.sIx]
  | some i=>
   simp only[UL,HT.sIx,Option.getD_none,show(1:Int)>0 by decide,if_true]
   by_cases h:i<0
   .simp only[h,if_true]<;>omega
   .simp only[h,if_false]<;>omega
 .cases hi with
  | none=>simp[UL,HT.sIx]
  | some i=>
   simp only[UL,HT.sIx,Option.getD_none,show(1:Int)>0 by decide,if_true]
   by_cases h:i<0
   .simp only[h,if_true]<;>omega
   .simp only[h,if_false]<;>omega
theorem Zld(its:List Xe)(lo hi:Option Int):slicePick its.toArray lo hi none=((its.drop (HT.sIx its.length 0 lo)).take (HT.sIx its.length its.length hi-HT.sIx its.length 0 lo)).toArray:=by
 obtain⟨h1,h2,h3⟩:=Zob lo hi its.toArray.size
 unfold slicePick
 rw[h1,h2,h3]
 simp only[sliceRange_one,pick_run,XM]<;>rfl
def Yhm(K:Xb):V->Option Int->Option Int->Hp->VK->Prop:=λx lo hi H Q=>∃a xs,x= .ref a/\SqL K H a xs/\∀p,H p=none->Q (.ref p) (upd H p (.lst (Z6q xs lo hi)))
theorem Z23:SlR X (Yhm X.K):=by
 intro pins s σ H x v vl vu lo hi sl Q I rx hs pl pu h
 obtain⟨a,xs,rfl,hx,q⟩:=h
 cases rx
 obtain⟨its,r,ht,hz⟩:=I.list hx
 have hlen:=r.length
 refine⟨"list",_,slot_list_getitem.lookup,ht.isList.typeIs,?_⟩
 refine wpAny_getItem_list_slice ht.isList hs pl pu .none (by simp) ?_ (by rw[XM]<;>omega)
 rw[Zld,<-hlen]
 refine⟨.ref s.heap.objs.size,_,I.laid (t':=s.toks) (o:=.lst (Z6q xs lo hi)) (λb ob q=>Xh _ q) (XC _) ?_,rfl,q _ (I.hok.fresh (XC _))⟩
 exact⟨Qa (Zp4 xs lo hi) hz,_,0,(r.drop (HT.sIx xs.length 0 lo)).take (HT.sIx xs.length xs.length hi-HT.sIx xs.length 0 lo),XQ _ rfl⟩
def Zjr:V->Bool
 | .non=>true
 | .bl _=>true
 | .int _=>true
 | .str _=>true
 | _=>false
def eqV:V->V->Bool
 | .non,.non=>true
 | .bl a,.bl b=>a==b
 | .bl a,.int b=>(if a then 1 else 0)==b
 | .int a,.bl b=>a==(if b then 1 else 0)
 | .int a,.int b=>a==b
 | .str a,.str b=>a==b
 | _,_=>false
theorem Z8e{x:V}{v:Xe}(ry:RelV y u)(rx:RelV x v)(fy:Zjr y=true)(fx:Zjr x=true):JR A s u v (eqV y x):=by
 cases y with
 | non=>
  cases ry
  cases x with
  | non=>cases rx;exact JR.same _
  | bl b=>cases rx;exact JR.none_bool b
  | int b=>obtain⟨t,rfl⟩:=rx;exact JR.none_int b t
  | str b=>obtain⟨t,rfl⟩:=rx;exact JR.none_str b t
  | _=>exact absurd (show false=true from fx) Xm
 | bl a=>
  cases ry
  cases x with
  | non=>cases rx;exact JR.bool_none a
  | bl b=>cases rx;exact JR.bool_bool a b
  | int b=>obtain⟨t,rfl⟩:=rx;exact JR.bool_int a b t
  | str b=>obtain⟨t,rfl⟩:=rx;exact JR.bool_str a b t
  | _=>exact absurd (show false=true from fx) Xm
 | int a=>
  obtain⟨t',rfl⟩:=ry
  cases x with
  | non=>cases rx;exact JR.int_none a t'
  | bl b=>cases rx;exact JR.int_bool a t' b
  | int b=>obtain⟨t,rfl⟩:=rx;exact JR.int_int a t' b t
  | str b=>obtain⟨t,rfl⟩:=rx;exact SeqAt.EqAt.int_str a t' b t
  | _=>exact absurd (show false=true from fx) Xm
 | str a=>
  obtain⟨t',rfl⟩:=ry
  cases x with
  | non=>cases rx;exact JR.str_none a t'
  | bl b=>cases rx;exact JR.str_bool a t' b
  | int b=>obtain⟨t,rfl⟩:=rx;exact SeqAt.EqAt.str_int a t' b t
  | str b=>obtain⟨t,rfl⟩:=rx;exact JR.str_str a t' b t
  | _=>exact absurd (show false=true from fx) Xm
 | _=>exact absurd (show false=true from fy) Xm
def eqU(x:V)(u:Xe):Bool:=match u with
 | .none=>eqV .non x
 | .bool b=>eqV (.bl b) x
 | .int i _=>eqV (.int i) x
 | .str z _=>eqV (.str z) x
 | _=>false
theorem Z08{x:V}(r:RelV y u)(f:Zjr y=true):eqU x u=eqV y x:=by
 cases y with
 | non=>cases r;rfl
 | bl b=>cases r;rfl
 | int i=>obtain⟨t,rfl⟩:=r;rfl
 | str z=>obtain⟨t,rfl⟩:=r;rfl
 | _=>exact absurd (show false=true from f) Xm
theorem Zvd{x:V}(h:Vals xs us)(f:xs.all Zjr=true):us.any (eqU x)=xs.any λy=>eqV y x:=by
 induction h with
 | nil=>rfl
 | cons r t ih=>
  rw[List.all_cons,XX]at f
  rw[V2,V2,Z08 r f.1,ih f.2]
theorem Zqi{x:V}{v:Xe}(rx:RelV x v)(fx:Zjr x=true)(h:Vals xs us)(f:xs.all Zjr=true):∀u∈us,JR A s u v (eqU x u):=by
 induction h with
 | nil=>intro u hu;cases hu
 | cons r t ih=>
  intro u' hu
  rw[List.all_cons,XX]at f
  rcases Xo.mp hu with rfl|hu
  .rw[Z08 r f.1];exact Z8e r rx f.1 fx
  .exact ih f.2 u' hu
def inV(x:V)(xs:List V):Bool:=xs.any λy=>eqV y x
def rIn(K:Xb)(neg:Bool):R2:=λx y H Q=>∃p xs,y= .ref p/\(SqL K H p xs\/SqT K H p xs)/\Zjr x=true/\xs.all Zjr=true/\Q (.bl (if neg then !inV x xs else inV x xs)) H
theorem Zs4:OpR X (QS .In) (rIn X.K false):=by
 intro pins s σ H x y v u Q I rx ry h
 obtain⟨p,xs,rfl,hq,fx,fs,q⟩:=h
 cases ry
 rcases hq with hq|hq
 .obtain⟨its,r,pl,hz⟩:=I.list hq
  refine SeqAt.in_listAt (eqU x) pl.isList (λw hw=>Zqi rx fx r fs w (by simpa using hw)) ⟨.bl _,H,I,rfl,?_⟩
  rw[show its.toArray.any (eqU x)=its.any (eqU x) by simp,Zvd r fs]
  exact q
 .obtain⟨its,r,pl,hz⟩:=I.tuple hq
  refine SeqAt.in_tupleAt (eqU x) pl (λw hw=>Zqi rx fx r fs w (by simpa using hw)) ⟨.bl _,H,I,rfl,?_⟩
  rw[show its.toArray.any (eqU x)=its.any (eqU x) by simp,Zvd r fs]
  exact q
theorem Zm5:OpR X (QS .NotIn) (λx y H Q=>∃i j,x= .str i/\y= .str j/\Q (.bl (!(!(QJ j i 0 j.length 1).isEmpty))) H):=by
 intro pins s σ H x y v u Q I rx ry h
 obtain⟨i,j,rfl,rfl,q⟩:=h
 obtain⟨t,rfl⟩:=rx
 obtain⟨t',rfl⟩:=ry
 exact notIn_str ⟨.bl _,H,I,rfl,q⟩
theorem Zof:Zb3 X (.builtin "len") (λxs H Q=>∃p ys,xs=[.ref p]/\(SqL X.K H p ys\/SqT X.K H p ys)/\Q (.int ys.length) H):=by
 intro pins s σ H xs us Q I r h
 obtain⟨p,ys,rfl,hq,q⟩:=h
 obtain⟨u,rfl,rx⟩:=vals1 r
 cases rx
 have hn:=Zit
 rcases hq with hq|hq
 .obtain⟨its,r',pl,hz⟩:=I.list hq
  have hlen:=r'.length
  exact Calls.call_len_list pl.isList (by simp only[XM]<;>omega) ⟨.int ys.length,H,I.tok _,⟨s.toks+1,by rw[XM,hlen]⟩,q⟩
 .obtain⟨its,r',pl,hz⟩:=I.tuple hq
  have hlen:=r'.length
  exact len_tuple pl (by simp only[XM]<;>omega) ⟨.int ys.length,H,I.tok _,⟨s.toks+1,by rw[XM,hlen]⟩,q⟩
theorem Znw:Zb3 X (.builtin "len") (λxs H Q=>∃z,xs=[.str z]/\z.length<=Xk/\Q (.int z.length) H):=by
 intro pins s σ H xs us Q I r h
 obtain⟨z,rfl,hz,q⟩:=h
 obtain⟨u,rfl,t,rfl⟩:=vals1 r
 have hn:=Zit
 exact len_str (by omega) ⟨.int z.length,H,I.tok _,⟨_,rfl⟩,q⟩
theorem Zoo:Zb3 X (.type "list") (λxs H Q=>∃p ys,xs=[.ref p]/\(SqL X.K H p ys\/SqT X.K H p ys)/\∀l,H l=none->Q (.ref l) (upd H l (.lst ys))):=by
 intro pins s σ H xs us Q I r h
 obtain⟨p,ys,rfl,hq,q⟩:=h
 obtain⟨u,rfl,rx⟩:=vals1 r
 cases rx
 have fin:∀(its:List Xe),Vals ys its->ys.length<=Xk->∀(h':Heap) (c':Nat),(∀b o',s.heap.get? b=some o'->h'.get? b=some o') ->
   h'.get? s.heap.objs.size=some { cls:=.type "list",dict:=none,data:=.seq its.toArray c',slots:=#[] }->EP X pins σ Q (.ref s.heap.objs.size) { s with heap:=h' }:=λits r' hz h' c' kp e=>
  ⟨.ref s.heap.objs.size,_,I.laid (t':=s.toks) kp (XC _) (show ObjOk X.prog X.w _ h' _ (.lst ys)from⟨hz,its,c',r',e⟩),rfl,q _ (I.hok.fresh (XC _))⟩
 rcases hq with hq|hq
 .obtain⟨its,r',pl,hz⟩:=I.list hq
  have hlen:=r'.length
  obtain⟨o,ho,hc,n,hd⟩:=pl.isList
  exact call_list_seq p (.inl rfl) ho hc hd (λh' c' kp e=>fin its r' hz h' c' kp e) (by simp only[XM]<;>omega)
 .obtain⟨its,r',pl,hz⟩:=I.tuple hq
  have hlen:=r'.length
  obtain⟨o,ho,hc,n,hd⟩:=pl
  exact call_list_seq p (.inr rfl) ho hc hd (λh' c' kp e=>fin its r' hz h' c' kp e) (by simp only[XM]<;>omega)
theorem Zlf:Zb3 X (.type "tuple") (λxs H Q=>∃p ys,xs=[.ref p]/\((SqL X.K H p ys/\∀l,H l=none->Q (.ref l) (upd H l (.tup ys)))\/(SqT X.K H p ys/\Q (.ref p) H))):=by
 intro pins s σ H xs us Q I r h
 obtain⟨p,ys,rfl,h⟩:=h
 obtain⟨u,rfl,rx⟩:=vals1 r
 cases rx
 rcases h with⟨hq,q⟩|⟨hq,q⟩
 .obtain⟨its,r',pl,hz⟩:=I.list hq
  have hlen:=r'.length
  refine call_tuple_list pl.isList (λh' kp=>?_) (by simp only[XM]<;>omega)
  have I1:Inv X pins σ H { s with heap:=h' }:=I.kept (t':=s.toks) kp
  have I2:Inv X pins σ (upd H h'.objs.size (.tup ys)) { s with heap:=h'.push { cls:=.type "tuple",data:=.seq its.toArray } } :=
   I1.laid (t':=s.toks) (λb o e=>Xh _ e) (XC _) (show ObjOk X.prog X.w _ _ _ (.tup ys)from⟨hz,its,r',IsTup.new _ _⟩)
  exact⟨.ref h'.objs.size,_,I2,rfl,q _ (I1.hok.fresh (XC _))⟩
 .obtain⟨its,r',pl,hz⟩:=I.tuple hq
  exact call_tuple_same pl ⟨.ref p,H,I,rfl,q⟩
def tyV(K:Xb)(T:String)(x:V)(H:Hp):Prop:=match x with
 | .str _=>T="str"
 | .int _=>T="int"
 | .ref p=>(T="list"/\∃xs,SqL K H p xs)\/(T="tuple"/\∃o,K.lookup p=some o/\o.cls= .type "tuple"/\o.dict=none)\/
   (T="dict"/\((∃kvs,H p=some (.dK kvs))\/∃kvs,H p=some (.dT kvs)))\/(T="set"/\∃S n,H p=some (.set S n))
 | _=>False
theorem Z9q{σ:St}{T:String}{x:V}{v:Xe}(I:Inv X pins σ H s)(r:RelV x v)(ty:tyV X.K T x H) :
  s.TypeIs v T/\∀a,v= .ref a->∃ob,s.heap.get? a=some ob/\ob.dict=none:=by
 cases x with
 | str z=>
  obtain⟨t,rfl⟩:=r
  cases(show T="str"from ty)
  exact⟨typeIs_str s z t,λ_ e=>nomatch e⟩
 | int i=>
  obtain⟨t,rfl⟩:=r
  cases(show T="int"from ty)
  exact⟨typeIs_int s i t,λ_ e=>nomatch e⟩
 | ref p=>
  cases r
  rcases ty with⟨rfl,xs,hq⟩|⟨rfl,o,hk,hc,hd⟩|⟨rfl,hk⟩|⟨rfl,S,n,hk⟩
  .obtain⟨its,_,pl,_⟩:=I.list hq
   refine⟨pl.isList.typeIs,λa e=>?_⟩
   cases e
   obtain⟨o,n,e,c,hd,_⟩:=pl
   exact⟨o,e,hd⟩
  .refine⟨⟨o,I.kIn p o hk,hc⟩,λa e=>?_⟩
   cases e
   exact⟨o,I.kIn _ o hk,hd⟩
  .have z:∃o,s.heap.get? p=some o/\o.ExactDict:=by
    rcases hk with⟨kvs,hk⟩|⟨kvs,hk⟩
    .obtain⟨_,_,_,_,o,_,_,e,ex,_⟩:=I.hok p _ hk
     exact⟨o,e,ex⟩
    .obtain⟨_,_,_,_,o,_,_,e,ex,_⟩:=I.hok p _ hk
     exact⟨o,e,ex⟩
   obtain⟨o,e,ex⟩:=z
   refine⟨⟨o,e,ex.1⟩,λa e2=>?_⟩
   cases e2
   exact⟨o,e,ex.2.1⟩
  .obtain⟨o,_,_,_,e,ex,_⟩:=I.hok p _ hk
   refine⟨⟨o,e,ex.1⟩,λa e2=>?_⟩
   cases e2
   exact⟨o,e,ex.2.1⟩
 | _=>exact Vy ty
def tBM(K:Xb)(T:String)(r:V->List V->Hp->VK->Prop)(to:TE)(t:TA):TE:=λσ H Q=>to σ H λx H1=>tyV K T x H1/\t σ H1 λxs H2=>r x xs H2 Q
variable {o:Expr}{t:TA}{name:Str}{apos cpos:Pos}{T id:String}{r:V->List V->Hp->VK->Prop}
theorem Zzx(pa:PlainAttrs T)(slot:Slot T name id)(hty:typeOf (.builtin id)=pure (.type "method_descriptor"))(hm:MtR X id r)(ho:PE X o to)(ha:PA X (e :: es) t)
  (hbase:Ua o name X.env (eval o X.env)=eval o X.env:=by rfl)
  (hfew:((Bg cpos (Xw (e :: es) X.env)).all (λx=>!x.1)&&(backToKw cpos (UT [] X.env)).all (λx=>x.1.isSome)
   &&decide ((e :: es).length+([]:List V8).length+(if([]:List V8).isEmpty then 0 else 1)<30))=true:=by rfl)
  (hline:(apos.endLine==cpos.line)=true:=by rfl) (hs:Xw (e :: es) X.env=(false,eval e X.env) :: Xw es X.env:=by rfl) (hplain:(Bg cpos (Xw es X.env)).any (·.1)=false:=by rfl) :
  PE X (.Call (.Attribute o name apos) (e :: es) [] cpos) (tBM X.K T r to t):=by
 intro pins s σ H Q I h
 refine wpAny_Call_method_late hbase hfew hline rfl (thn (ho pins s σ H _ I h) λv s1 qz9=>?_)
 obtain⟨x,H1,I1,r1,ty,q1⟩:=qz9
 obtain⟨h1,h2⟩:=Z9q I1 r1 ty
 refine⟨T,id,pa,slot,hty,h1,h2,?_⟩
 have hA:=ha cpos pins s1 σ H1 _ I1 q1
 rw[hs]at hA|-
 refine Calls.callWith_builtin (by show(false||(Bg cpos (Xw es X.env)).any (·.1))=false;rw[hplain]<;>rfl) (Calls.evalArgs_plain ?_)
 refine thn hA λus s2 qz9=>?_
 obtain⟨vs,H2,I2,r2,q2⟩:=qz9
 exact hm pins s2 σ H2 x vs v us Q I2 r1 r2 q2
end
def MtM(X:Cx)(id:String)(r:V->List V->Hp->VK->Prop):Prop :=
 ∀(pins:List (Addr×Obj)) (s:Xg) (σ:St) (H:Hp) (x:V) (xs:List V) (v:Xe) (us:List Xe) (Q:VK),Inv X pins σ H s->RelV x v->Vals xs us->r x xs H Q ->
  XR (Qg X.prog X.w) X.A (call (.builtin id) (v :: us)) (EP X pins σ Q) X.xe s
theorem Vals.one{x:V}(h:Vals [x] us):∃u,us=[u]/\RelV x u:=by
 cases h with
 | cons r t=>cases t;exact⟨_,rfl,r⟩
theorem Vals.zero:∀{us:List Xe},Vals [] us->us=[]
 | _,.nil=>rfl
theorem Vals.rep(h:Vals xs us):∀k:Nat,Vals (X6 k xs).flatten (X6 k us).flatten
 | 0=>.nil
 | k+1=>by
  rw[Vb,Vb,Vt,Vt]
  exact Vals.append h (Vals.rep h k)
theorem foldl_rep(its:List Xe):∀(k:Nat) (acc:List Xe),
  List.foldl (λx1 x2=>x1 ++ x2) acc.toArray (X6 k its.toArray)=(acc ++ (X6 k its).flatten).toArray
 | 0,acc=>by simp
 | k+1,acc=>by
  have e:acc.toArray ++ its.toArray=(acc ++ its).toArray:=by simp
  have e2:(acc ++ its) ++ (X6 k its).flatten=acc ++ (X6 (k+1) its).flatten:=by
   rw[Vb,Vt,JW]
  rw[<-e2,<-foldl_rep its k (acc ++ its),<-e,Vb,List.foldl_cons]
section
variable {σ:St}{l b:Addr}{zs:List V}
theorem Inv.lset{its its':List Xe}{n:Nat}{f:Array Xe->Array Xe}(I:Inv X pins σ H s)(hH:H l=some (.lst xs))
  (e:s.heap.get? l=some { cls:=.type "list",data:=.seq its.toArray n }) (hf:f its.toArray=its'.toArray) (hv:Vals ys its') (hz:ys.length<=Xk) :
  Inv X pins σ (upd H l (.lst ys)) { s with heap:=s.heap.update l (JX f),toks:=t' }:=by
 have q:=PySem.IsL.update e f
 rw[hf]at q
 refine I.write (x:=l) (e:=l) (by rw[hH];exact trivial) (.inl rfl) (λb' u hb hu=>(Heap.get?_update_other s.heap (JX f) (Bo hb)).trans hu) ⟨_,q⟩ ?_
 exact⟨hz,its',_,hv,q⟩
theorem Inv.lnew{its:List Xe}(I:Inv X pins σ H s)(hv:Vals ys its)(hz:ys.length<=Xk) :
  Inv X pins σ (upd H s.heap.objs.size (.lst ys)) { s with heap:=s.heap.push { cls:=.type "list",data:=.seq its.toArray },toks:=t' } :=
 I.laid (λ_ _ q=>Xh _ q) (XC _) ⟨hz,its,0,hv,XQ _ rfl⟩
theorem Inv.fresh(I:Inv X pins σ H s):H s.heap.objs.size=none:=I.hok.fresh (XC _)
theorem Inv.lstM(I:Inv X pins σ H s)(hH:H l=some (.lst xs)):xs.length<=Xk/\∃(its:List Xe) (n:Nat),Vals xs its/\xs.length=its.length/\s.heap.get? l=some { cls:=.type "list",data:=.seq its.toArray n }:=by
 obtain⟨z,its,n,r,e⟩:=I.hok l _ hH
 exact⟨z,its,n,r,r.length,e⟩
theorem Zyr{n:Nat}(h:n<=Xk):Uv n=false:=by
 unfold Uv
 exact decide_eq_false (by omega)
end
def Z5s:V->List V->Hp->VK->Prop:=λx vs H Q=>∃l xs y,x= .ref l/\vs=[y]/\H l=some (.lst xs)/\xs.length<Xk/\Q .non (upd H l (.lst (xs ++ [y])))
theorem Zjn:MtM X "list.append" Z5s:=by
 intro pins s σ H x vs v us Q I rx rv h
 obtain⟨l,xs,y,rfl,rfl,hH,hz,q⟩:=h
 cases rx
 obtain⟨u,rfl,ru⟩:=rv.one
 obtain⟨z,its,n,r,hl,e⟩:=I.lstM hH
 refine call_meets F.slot_list_append ⟨_,e,rfl⟩ F.entry_list_append (F.args_list_append_2 _ _) (PySem.list_append l its.toArray n u (by rw[XM];omega)) ⟨e,?_⟩
 refine⟨.non,_,I.lset (its':=its ++ [u]) hH e (by simp) (r.append (.cons ru .nil)) ?_,rfl,q⟩
 rw[X7,Uk]
 omega
def Yj9:R2:=λx y H Q=>∃l k xs,x= .ref l/\y= .int k/\H l=some (.lst xs)/\-(2^63)<=k/\k<2^63/\xs.length*k.toNat<=Xk/\
 ∀p,H p=none->Q (.ref p) (upd H p (.lst (X6 k.toNat xs).flatten))
theorem len_rep(xs:List α)(k:Nat):(X6 k xs).flatten.length=k*xs.length:=by
 induction k with
 | zero=>simp
 | succ k ih=>rw[Vb,Vt,X7,ih,Nat.succ_mul,Nat.add_comm]
theorem Z69:OpR X (Uq .Mult) Yj9:=by
 intro pins s σ H x y v u Q I rx ry h
 obtain⟨l,k,xs,rfl,rfl,hH,h1,h2,hz,q⟩:=h
 cases rx
 obtain⟨t,rfl⟩:=ry
 obtain⟨z,its,n,r,hl,e⟩:=I.lstM hH
 have hlen:its.toArray.size*k.toNat<=Xk:=by rw[XM,<-hl];exact hz
 have hcap:¬its.toArray.size*k.toNat>(2^63-1)/8:=by
  have:(Xk:Nat)<=(2^63-1)/8:=by decide
  omega
 have hfit:¬(!Builtin.List.listFitsIndex k)=true:=by
  rw[fitsIndex_both h1 h2]
  exact Xm
 have hlong:¬Uv (its.toArray.size*k.toNat)=true:=by
  rw[Zyr hlen]
  exact Xm
 have hnew:List.foldl (λx1 x2=>x1 ++ x2) #[] (X6 (if its.toArray.isEmpty=true then 0 else k.toNat) its.toArray)=(X6 k.toNat its).flatten.toArray:=by
  have f0:∀m:Nat,List.foldl (λx1 x2=>x1 ++ x2) #[] (X6 m its.toArray)=(X6 m its).flatten.toArray:=λm=>by
   have:=foldl_rep its m []
   rw[List.nil_append]at this
   exact this
  rw[f0]
  cases its with
  | nil=>simp
  | cons a r'=>rw[if_neg (by simp)]
 refine wpAny_binaryOp_repeat_ref (T :="list") (U :="int") (by decide) ⟨_,e,rfl⟩ (λs'=>typeIs_int s' k t) noFill_list_mul F.fills_int_mul F.slot_int_rmul repeat_list F.slot_int_index.lookup
  (call_meets F.slot_int_rmul (typeIs_int s k t) F.entry_int_rmul (F.args_int_rmul_2 _ _) (int___rmul___int_list k t l its.toArray n)
   ⟨e,rfl,⟨_,e,rfl⟩,call_meets F.slot_list_mul ⟨_,e,rfl⟩ F.entry_list_mul (F.args_list_mul_2 _ _) (AutoListH.list___mul___list_int_3 l its.toArray n k t hfit hcap hlong) ⟨e,?_⟩⟩)
 rw[hnew]
 exact⟨.ref _,_,I.lnew (t':=s.toks) (r.rep k.toNat) (by rw[len_rep,Nat.mul_comm];exact hz),rfl,q _ I.fresh⟩
section
variable {prog:XJ}
end
end L2
namespace Att
open PySem PySem.W PySem.Calls PyProof.Rows
theorem Zjd{P:Params}:∀(ns:List Int) (vs:List Xe),WellAll P h vs (ns.map WData.int)->VL vs ns:=by
 intro ns
 induction ns with
 | nil=>
  intro vs w
  rw[List.map_nil]at w
  cases w
  exact .nil
 | cons n ns ih=>
  intro vs w
  rw[Xv]at w
  cases w with
  | cons a b=>
   cases a
   exact .cons _ _ (ih _ b)
theorem Zwg{l:OpenLaw}{n:Nat}(hn:l.most=some n){P:Params}{args:List WData}{vals:List Xe}
  (hpre:l.row.toRowW.claim.pre args=true) (hwl:WellAll P h vals args) :
  ∃a vs ns,vals=[Qo a]/\args=[WData.list (ns.map WData.int)]/\h.get? a=some { cls:=.type "list",data:=.seq vs.toArray }/\VL vs ns/\ns.length<=n:=by
 have hsh:WShape.hasAll [] args [.list .int]=true:=(pre_splitW hpre).1
 have hc:l.pre.holds [] { args:=args }=true:=(pre_splitW hpre).2
 obtain⟨d,r,rfl,h1,h2⟩:=hasAllW_cons hsh
 obtain rfl:=hasAllW_nil h2
 obtain⟨xs,rfl,h3⟩:=hasW_list h1
 obtain⟨ns,rfl⟩:=items_int h3
 have hlen:ns.length<=n:=by
  unfold OpenLaw.pre at hc
  have h4:(WTm.not (.lt (.lit (.int (n:Int))) (.len (.arg 0)))).holds [] { args:=[.list (ns.map .int)] }=true:=by
   have h4:=(holds_andW hc).1
   rw[hn]at h4
   exact h4
  have h5:=condW_of h4 (w_not (w_lt w_lit (w_len_list (w_arg rfl))))
  rw[Xc]at h5
  refine Nat.le_of_not_lt λq=>?_
  have q':(n:Int)<((ns.length:Nat):Int):=by omega
  first
   | (rw[decide_eq_true q']at h5;exact absurd h5 (by decide))
   | (simp at h5;omega)
 cases hwl with
 | cons w1 w2=>
  cases w2
  cases w1 with
  | list ho hall=>exact⟨_,_,ns,rfl,rfl,ho,Zjd ns _ hall,hlen⟩
theorem Zt7(l:OpenLaw)(args:List WData):l.row.toRowW.claim.post args (.bool true) args=true :=
 postW_of (r:=l.row.toRowW) (X:=(true==true))
  (show WShape.has [] (.bool true) .bool=true by first|rfl|decide|simp[WShape.has,WShape.arms,WShape.armsAll])
  (show(WTm.eq .res (.lit (.bool true))).value [] { args:=args,res:=some (.bool true),after:=args }=some (.bool (true==true))from w_eq_bool (w_res rfl) w_lit) rfl
end Att
variable {XP:(Str->Option Xe)->Heap->Prop}{dx C l:Addr}{CX:CXT}{op op':CmpOp}{value:Expr}{ps loose:List Str}{apos p2 cpos:Pos}{YP:Ql->Heap->Prop}{r r':R2}{sp:Sp}{name qual:Str}{kindOf:Str->Option Bp}{mA mg:Str->Option Xe}{id:String}{tc:TE}{scope:Ud}{prog:XJ}
namespace Att
open PySem PySem.W PySem.Calls PyProof.Rows
theorem attach_call{l:OpenLaw}{n:Nat}{q:XJ}{d:DefRec}
  (hn:l.most=some n) (hdf:d.params.defaults=[])
  (call:∀(w:Ql) (s₀ s₁:Xg) (mg mb:Str->Option Xe) (fa:Addr) (o:Obj) (pm cd doc:Xe) (a:Addr) (vs:List Xe) (ns:List Int),
   Ground q loose [] XP w s₀ mg mb s₁.heap->YP w s₁.heap ->
   s₁.heap.get? fa=some o->o.data= .func (docDef d.name d.params d.body d.scope pm cd doc)->s₁.heap.CodeRec cd d.name->mg d.name=some (.ref fa) ->
   s₁.heap.get? a=some { cls:=.type "list",data:=.seq vs.toArray }->VL vs ns->ns.length<=n->s₁.gens=#[] ->
   codeAny (Qg l.prog w) callerA (.call (.ref fa) ⟨[.ref a],[]⟩) (λr s'=>r= .ok (.ret (.bool true))/\OldK s₁.heap s'.heap/\s'.os=s₁.os/\AllBare s'.gens) s₁) :
  WalkO q loose XP YP l.row.toRowW d [] (λf vs=>PySem.call f vs):=by
 intro w s₀ s₁ mg mb G Y fa o pm cd doc dV kV ho hd hcd hD hmg hg args vals as hpre hlay hrd hwl hlo
 obtain rfl:dV= .none:=Dflts.none hD hdf
 obtain rfl:kV= .none:=Dflts.noKw hD
 obtain⟨a,vs,ns,rfl,rfl,hobj,hints,hlen⟩:=Zwg hn hpre hwl
 refine enter_call (codeAny_mono (call w s₀ s₁ mg mb fa o pm cd doc a vs ns G Y ho (fd_plain hd) hcd hmg hobj hints hlen hg) λr s' hq=>?_)
 obtain⟨rfl,h2,h3,h4⟩:=hq
 exact⟨.inl ⟨.bool true,.bool true,[],rfl,λ_=>rfl,.bool true,Zt7 l _,λ_=>⟨List.Pairwise.nil,λ_ hm=>(nomatch hm)⟩⟩,h2,h3,h4⟩
section
variable {K:Frag}
end
end Att
namespace L2
open PySem PySem.Spec PyProof.Rows
theorem Zuu{vs:List Xe}{ns:List Int}(h:VL vs ns):Vals (ns.map V.int) vs:=by
 induction h with
 | nil=>exact .nil
 | cons n t h ih=>exact .cons ⟨t,rfl⟩ ih
def Only(H:Hp):Prop:=∀b,H b=none\/∃o xs,H b=some (.frz o (.lst xs))
theorem Zxl{mb:Str->Option Xe}{k:Nat}{fa:Addr}{fd:XF}{s₁:Xg}{vs:List Xe}{ns:List Int}
  (KX:K.In s₁.heap) (hns:s₁.heap.Ns Qd mg) (hb:s₁.heap.Ns builtinsNs mb) (hbb:∀x:Str,x≠"__name__" ->mb x=Qp x) (hlim:s₁.heap.NoLimit) (hg:s₁.gens=#[])
  (ha:s₁.heap.get? a=some { cls:=.type "list",data:=.seq vs.toArray }) (hi:VL vs ns) (hl:ns.length<=Xk) (hr:Room k callerA)
  (F:∀base:Heap,K.In base->base.Ns Qd mg->FnOk P w K mg base CX k fa fd [x] sp) (hbind:∀(s:Xg) (u:Xe),BindsTo s fd ⟨[u],[]⟩ [(x,u)])
  (hsp:∀H:Hp,Only H->SqL K H a (ns.map V.int)->sp [.ref a] H (λv _=>v= .bl true) λ_ _ _=>False)
  (hCX:∀H e s',CX [] H s₁ (λ_ _ _=>False) e s'->False) :
  codeAny (Qg P w) callerA (.call (.ref fa) ⟨[.ref a],[]⟩) (λr s'=>r= .ok (.ret (.bool true))/\OldK s₁.heap s'.heap/\s'.os=s₁.os/\AllBare s'.gens) s₁:=by
 have rv:=Zuu hi
 have lenV:=hi.length
 -- from an abstract heap in which nothing but the script may be tracked
 have core:∀H:Hp,Only H->SqL K H a (ns.map V.int)->HOk P w H s₁.heap->(∀b,H b≠none->b=a)->(H a≠none->K.lookup a=none) ->
   codeAny (Qg P w) callerA (.call (.ref fa) ⟨[.ref a],[]⟩) (λr s'=>r= .ok (.ret (.bool true))/\OldK s₁.heap s'.heap/\s'.os=s₁.os/\AllBare s'.gens) s₁:=by
  intro H hO hS hok hA hK
  have base_of:∀{b:Addr} {o:Obj},s₁.heap.get? b=some o->H b=none->(Zzl s₁.heap H).get? b=some o:=λe n=>Zzs e n
  have noA:∀{b:Addr} {o:Obj} {es:Array DictEntry} {ep:Nat},s₁.heap.get? b=some o->o.data= .dict es ep->H b=none:=fun{b o es ep} e d=>by
   cases q:H b with
   | none=>rfl
   | some u=>
    have e':b=a:=hA b (by rw[q];simp)
    subst e'
    rw[ha]at e;cases e
    have d':Data.seq vs.toArray _=Data.dict es ep:=d
    cases d'
  have nsK:∀{b:Addr} {m:Str->Option Xe},s₁.heap.Ns b m->(Zzl s₁.heap H).Ns b m:=fun{b m} ⟨o,es,ep,e,d,r⟩=>⟨o,es,ep,base_of e (noA e d),d,r⟩
  have hKb:K.In (Zzl s₁.heap H):=λb o e=>base_of (KX b o e) (by
   cases q:H b with
   | none=>rfl
   | some u=>
    have e':b=a:=hA b (by rw[q];simp)
    subst e'
    rw[hK (by rw[q];simp)]at e;cases e)
  have hM:Mod K mg (Zzl s₁.heap H):=⟨hKb,nsK hns,⟨mb,nsK hb,hbb⟩,let⟨mc,h1,h2⟩:=hlim;⟨mc,nsK h1,h2⟩⟩
  have e0:Ycz P w K mg (Zzl s₁.heap H) callerA [] s₁ H:=⟨rfl,hM,λb o e=>Z5f e,Nat.le_of_eq (Ztc _ _),trivial,λb hb=>absurd (show b∈([]:List Addr)from hb) (by simp),hok,.of_eq hg⟩
  refine codeAny_mono ((F _ hKb (nsK hns)).run callerA [] s₁ H ⟨[.ref a],[]⟩ [.ref a] [.ref a] _ _ hr e0 (hbind s₁ (.ref a)) (.cons rfl .nil) (hsp H hO hS)) λr s' h=>?_
  cases r with
  | error e=>exact(hCX H e s' h).elim
  | ok fl=>
   cases fl with
   | next=>exact Vy h
   | brk=>exact Vy h
   | cont=>exact Vy h
   | ret u=>
    obtain⟨v,H',os,bare,un,hok',r',q⟩:=h
    have q':v= .bl true:=q
    subst q'
    obtain rfl:u=Value.bool true:=r'
    refine⟨rfl,OldK.of_keep λb o e=>?_,os,bare⟩
    cases q:H b with
    | none=>exact un.keep b o e q (by intro z;exact absurd (show b∈([]:List Addr)from z) (by simp)) (by simp)
    | some u=>
     rcases hO b with z|⟨ob,xs,z⟩
     .rw[q]at z;cases z
     .have z2:=un.frzs b ob _ z
      obtain⟨e1,_⟩:=hok b _ z
      obtain⟨e2,_⟩:=hok' b _ z2
      rw[e]at e1;cases e1
      exact e2
 cases hk:K.lookup a with
 | some o=>
  -- the script is one of the module's own objects
  have e:=KX a o hk
  rw[ha]at e
  cases e
  refine core (λ_=>none) (λ_=>.inl rfl) (.inr ⟨_,vs.toArray,_,hk,rfl,rfl,rfl,by rw[XM,lenV];exact hl,by simpa using rv⟩) (λb u z=>by have z':(none:Option HO)=some u:=z;cases z') (λb z=>absurd rfl z) λz=>absurd rfl z
 | none=>
  refine core (λb=>if b=a then some (.frz { cls:=.type "list",data:=.seq vs.toArray } (.lst (ns.map V.int)))else none) (λb=>?_) (.inl (.inr ⟨{ cls:=.type "list",data:=.seq vs.toArray },if_pos rfl⟩)) (λb u z=>?_) (λb z=>?_) λ_=>hk
  .by_cases hb:b=a
   .exact .inr ⟨_,_,if_pos hb⟩
   .exact .inl (if_neg hb)
  .by_cases hb:b=a
   .have z':=(if_pos hb).symm.trans z
    cases z'
    subst hb
    exact⟨ha,by rw[Xc];exact hl,vs,_,rv,ha⟩
   .have z':=(if_neg hb).symm.trans z
    cases z'
  .by_cases hb:b=a
   .exact hb
   .exact absurd (if_neg hb) z
abbrev KOf(_:K.In h):Xb:=K
theorem Z39{l:PySem.W.OpenLaw}{n k:Nat}{q:XJ}{d:DefRec}{K:Params->Xb}{CX:Ql->CXT}{sp:Ql->Sp}
  (hn:l.most=some n) (hn2:n<=Xk) (hdf:d.params.defaults=[]) (hr:Room k callerA)
  (hY:∀(w:Ql) (h:Heap),YP w h->(K w.params).In h)
  (F:∀(w:Ql) (mg:Str->Option Xe) (fa:Addr) (h:Heap),(K w.params).In h->h.Ns Qd mg->mg d.name=some (.ref fa) ->
   ∃fd:XF,(∀(s:Xg) (u:Xe),BindsTo s fd ⟨[u],[]⟩ [(x,u)])/\
    ∀base:Heap,(K w.params).In base->base.Ns Qd mg->FnOk l.prog w (K w.params) mg base (CX w) k fa fd [x] (sp w))
  (hsp:∀(w:Ql) (H:Hp) (a:Addr) (ns:List Int),ns.length<=n->Only H->SqL (K w.params) H a (ns.map V.int)->sp w [.ref a] H (λv _=>v= .bl true) λ_ _ _=>False)
  (hCX:∀(w:Ql) (H:Hp) (s:Xg) (e:Xe) (s':Xg),CX w [] H s (λ_ _ _=>False) e s'->False) :
  PySem.W.WalkO q loose XP YP l.row.toRowW d [] (λf vs=>PySem.call f vs):=by
 refine Att.attach_call hn hdf λw s₀ s₁ mg mb fa o pm cd doc a vs ns G Y ho hd hcd hmg hobj hints hlen hg=>?_
 have KX:=hY w _ Y
 obtain⟨fd,hb,hF⟩:=F w mg fa _ KX G.T.g hmg
 exact Zxl KX G.T.g G.T.b G.T.builtins G.T.nolimit hg hobj hints (Qa hlen hn2) hr hF hb (λH hO hS=>hsp w H a ns hlen hO hS) λH e s'=>hCX w H s₁ e s'
def Zgr(s:Stmt):Arguments:=match s with
 | .FunctionDef _ a _ _ _ _ _ _ _ _=>a
 | _=>{ posonlyargs:=[],args:=[],vararg:=none,kwonlyargs:=[],kw_defaults:=[],kwarg:=none,defaults:=[] }
def Zcf(s:Stmt):List Stmt:=match s with
 | .FunctionDef _ _ b _ _ _ _ _ _ _=>b
 | _=>[]
def Zi(s:Stmt):Ud:=match s with
 | .FunctionDef _ _ _ _ _ _ sc _ _ _=>sc
 | _=>{ kind:=.function,names:=[],isGenerator:=false,isCoroutine:=false }
abbrev CX0:CXT:=λ_ _ _ _ _ _=>False
abbrev E0:XK:=λ_ _ _=>False
theorem Z43:Zrp CX0 X E0:=λ_ _ _ _ _ _ _ h=>h.elim
structure Fun(K:Xb)(x qual:Str)(st:Stmt)(f:Addr)(fd:XF):Prop where
 ex:∃(oc:Xe) (od:Option Addr) (kV doc pm:Xe) (an:Option Addr) (cdv ct:Xe) (osl:Array (Option Xe)),
  fd=Vx x qual (Zgr st) (Zcf st) (Zi st) .none kV doc pm an cdv ct/\K.lookup f=some ⟨oc,od,.func fd,osl⟩/\PySem.W.codeIn K cdv qual=true
 kp:Vr K (.ref f)=true
section
variable {base:Heap}
theorem Fun.ok{f:Addr}{fd:XF}{k:Nat}(F:Fun K x qual st f fd)(S:Zm N ps (Zi st))(len:∀vs H Q E,sp vs H Q E->vs.length=ps.length)
  (hbody:∀(cdv:Xe) (A:Qk) (outer:List Env) (s:Xg) (H:Hp) (vs:List V) (Q:VK) (E:XK),Room k (A.deeper (envOfC qual (Zi st) s.heap.objs.size f cdv))->sp vs H Q E ->
   ∃t,PSs (Z13 CX0 P w K mg base N qual (Zi st) f cdv A outer s H E).nox (Zcf st) t/\t { nx:=λ_ H'=>Q .non H',rt:=Q } (start N vs) H):FnOk P w K mg base CX0 (k+1) f fd ps sp:=by
 obtain⟨oc,od,kV,doc,pm,an,cdv,ct,osl,rfl,lk,hcd⟩:=F.ex
 refine Ygp lk hcd S len λA outer s H vs Q E hr hsp=>?_
 obtain⟨t,h,q⟩:=hbody cdv A outer s H vs Q E hr hsp
 exact⟨t,h.nox,q⟩
theorem Fun.binds{f:Addr}{fd:XF}(F:Fun K x qual st f fd)
  (h:∀(kV doc pm:Xe) (an:Option Addr) (cdv ct:Xe) (us:List Xe),us.length=ps.length->bindArgs (Vx x qual (Zgr st) (Zcf st) (Zi st) .none kV doc pm an cdv ct) ⟨us,[]⟩=pure (ps.zip us)):Binds K fd ps []:=by
 obtain⟨oc,od,kV,doc,pm,an,cdv,ct,osl,rfl,lk,hcd⟩:=F.ex
 exact .all (h kV doc pm an cdv ct)
theorem Z7e{f:Addr}{oc:Xe}{od an:Option Addr}{osl:Array (Option Xe)}{kV doc pm cdv ct:Xe}(l:K.lookup f=some ⟨oc,od,.func (Vx x qual (Zgr st) (Zcf st) (Zi st) .none kV doc pm an cdv ct),osl⟩)
  (c:PySem.W.codeIn K cdv qual=true) (k:Vr K (.ref f)=true):Fun K x qual st f (Vx x qual (Zgr st) (Zcf st) (Zi st) .none kV doc pm an cdv ct):=⟨⟨oc,od,kV,doc,pm,an,cdv,ct,osl,rfl,l,c⟩,k⟩
end
theorem pv(i:Nat){pos:Pos}(hN:X.N[i]? =some x:=by rfl)(hv:Vis X.env.scope x:=by first|exact Qw rfl|exact Qt (Qw rfl)|exact Qt (Qt rfl))(hd:(x==("__debug__" : Str))=false:=by decide)
  (hcd:(x==("__classdict__" : Str))=false:=by decide):PE X (.Name x pos) (Yi8 i):=Z67 hN hv hd hcd
def Same(H H':Hp):Prop:=∀b o,H b=some o->H' b=some o
theorem Same.refl(H:Hp):Same H H:=λ_ _ h=>h
theorem Same.trans(a:Same H H1)(b:Same H1 H2):Same H H2:=λc o h=>b c o (a c o h)
theorem Same.free(e:Same H H')(h:H' l=Option.none):H l=Option.none:=by
 cases q:H l with
 | none=>rfl
 | some o=>
  rw[e l o q]at h
  cases h
end L2
set_option maxHeartbeats 4000000
namespace L2
open PySem PySem.Spec PyProof.Rows
def Bt(n:Nat)(x:Int):Prop:=x.natAbs<2^n
theorem Bt.mono{m n:Nat}{x:Int}(h:Bt m x)(hn:m<=n):Bt n x:=Qe h (Nat.pow_le_pow_right (by decide) hn)
theorem Bt.mul{m n:Nat}{x y:Int}(h:Bt m x)(k:Bt n y):Bt (m+n) (x*y):=by
 unfold Bt at*
 rw[Int.natAbs_mul,Nat.pow_add]
 exact Nat.mul_lt_mul'' h k
theorem Bt.neg{m:Nat}{x:Int}(h:Bt m x):Bt m (-x):=by
 unfold Bt at*
 rw[Int.natAbs_neg]
 exact h
theorem Bt.add'{m:Nat}{x y:Int}(h:Bt m x)(k:Bt m y):Bt (m+1) (x+y):=by
 unfold Bt at*
 have h3:2^(m+1)=2*2^m:=by rw[Nat.pow_succ];omega
 have h4:=Int.natAbs_add_le x y
 omega
theorem Bt.of_le{m:Nat}{x y:Int}(h:Bt m x)(k:y.natAbs<=x.natAbs):Bt m y:=Nat.lt_of_le_of_lt k h
theorem Bt.of_lt{m:Nat}{x:Int}(h1:-(2^m)<x)(h2:x<2^m):Bt m x:=by
 unfold Bt
 have e:((2^m:Nat):Int)=2^m:=by simp
 omega
theorem Bt.bits{m:Nat}{x:Int}(h:Bt m x):JM x<=m:=by
 unfold JM
 split
 .exact JF _
 .rename_i hx
  have hp:x.natAbs≠0:=by
   intro e
   apply hx
   have:x=0:=by omega
   subst this
   rfl
  have:=(Nat.log2_lt hp).mpr h
  omega
theorem Bt.mulOk{m n:Nat}{x y:Int}(h:Bt m x)(k:Bt n y)(hmn:m+n<=100000000:=by decide):IntMulOk x y:=by
 have h1:=h.bits
 have h2:=k.bits
 have h3:Builtin.Int.intTooBig (JM x+JM y)=false:=by
  unfold Builtin.Int.intTooBig bitsLine
  exact decide_eq_false (by omega)
 unfold IntMulOk
 rw[h3]
 simp
def DivOk(_ j:Int):Prop:=j≠0/\j.natAbs.log2<9000
theorem DivOk.of{i j:Int}{n:Nat}(h0:j≠0)(h:Bt n j)(hn:n<=9000:=by decide):DivOk i j:=by
 refine⟨h0,?_⟩
 have hp:j.natAbs≠0:=by omega
 have:=(Nat.log2_lt hp).mpr h
 omega
theorem Z3z:OpR X (Uq .Mult) (rI IntMulOk λi j=>.int (i*j)):=opI λ_ _ _ _ _ _ _ hc q=>mul_int q hc
theorem Zzc:OpR X (Uq .FloorDiv) (rI DivOk λi j=>.int (i.fdiv j)):=opI λ_ _ _ _ _ _ _ hc q=>floordiv_int hc.1 q (.inl (PyProof.noPylong_of_log2 hc.2))
theorem Z4u:OpR X (Uq .Pow) (rI Yc8 λi j=>.int (i^j.toNat)):=Ybe
theorem Zjy(elt target iter:Expr)(ifs:List Expr)(scope:Ud)(pos:Pos)(it acc:Xe)(env:Env) :
  compTurn (.ListComp elt [⟨target,iter,ifs,0⟩] scope pos) 0 it acc env=(standAt iter.pos>>= λ_=>pyNext it>>= λr=>match r with
   | none=>pure (.done .next)
   | some v=>U6 target it v>>= λ_=>Ur target env v>>= λ_=>
    (forIn ifs true λc r=>if r=true then do let ok<-isTrue c env (eval c env);pure (JP ok)else pure (JP r))>>= λok=>
     if ok=true then((eval elt env>>= λx=>call (.builtin "list.append") [acc,x]>>= λ_=>pure ())>>= λ_=>
      again (.compLoop (.ListComp elt [⟨target,iter,ifs,0⟩] scope pos) 0 it acc env))
     else again (.compLoop (.ListComp elt [⟨target,iter,ifs,0⟩] scope pos) 0 it acc env)):=by rfl
theorem Zmw{R:Result->Xg->Prop}{elt target:Expr}{ifs:List Expr}{pos:Pos}{it acc:Xe}{env:Env}(I:Nat->Xg->Prop)
  (turn:∀n s,I n s->XR (Qg prog w) A (pyNext it) (λr s₁=>match r with
   | none=>R (.ok .next) s₁
   | some v=>XR (Qg prog w) A (U6 target it v) (λ_ s₁=>XR (Qg prog w) A (Ur target env v) (λ_ s₂=>
     XR (Qg prog w) A (forIn ifs true λc r=>if r=true then do let ok<-isTrue c env (eval c env);pure (JP ok)else pure (JP r)) (λok s₃=>
      if ok=true then XR (Qg prog w) A (eval elt env) (λx s₄=>
       XR (Qg prog w) A (call (.builtin "list.append") [acc,x]) (λ_ s₅=>∃m,m<n/\I m s₅) (notedBy (Qg prog w) A env λe s'=>R (.error e) s') s₄) (notedBy (Qg prog w) A env λe s'=>R (.error e) s') s₃
      else∃m,m<n/\I m s₃) (notedBy (Qg prog w) A env λe s'=>R (.error e) s') s₂) (notedBy (Qg prog w) A env λe s'=>R (.error e) s') s₁) (notedBy (Qg prog w) A env λe s'=>R (.error e) s') s₁) (notedBy (Qg prog w) A env λe s'=>R (.error e) s') s)
  (n:Nat) (h:I n s) :
  codeAny (Qg prog w) A (.compLoop (.ListComp elt [⟨target,iter,ifs,0⟩] scope pos) 0 it acc env) R s:=by
 refine codeAny_loop rfl I (λn s hI=>?_) n h
 show XR _ A ((compTurn (.ListComp elt [⟨target,iter,ifs,0⟩] scope pos) 0 it acc env).onRaise (λx=>do noteFrame x env;theTreesLotGoes x)) _ _ s
 refine wpAny_noted ?_
 rw[Zjy]
 refine Xd (wpAny_standAt (Xd (Bm (turn n s hI) (λr s₁ h₁=>?_) λ_ _ h'=>h')))
 cases r with
 | none=>exact Xy h₁
 | some v=>
  refine Xd (Bm h₁ (λ_ s₂ h₂=>?_) λ_ _ h'=>h')
  refine Xd (Bm h₂ (λ_ s₂ h₂=>Xd (Bm h₂ (λok s₃ h₃=>?_) λ_ _ h'=>h')) λ_ _ h'=>h')
  cases ok with
  | false=>exact Xy ⟨rfl,h₃⟩
  | true=>
   exact Xd (Xd (Bm h₃ (λx s₄ h₄=>Xd (Bm h₄ (λ_ s₅ h₅=>Xy (Xy ⟨rfl,h₅⟩)) λ_ _ h'=>h')) λ_ _ h'=>h'))
def Zjw(env:Env):List (Str×Bp)->List (Str×Addr)->List (Str×Addr)
 | [],acc=>acc
 | (n,k) :: r,acc=>if k== .free then Zjw env r ((n,(env.cells.lookup n).getD 0) :: acc)else Zjw env r acc
theorem Zlb{env:Env}:∀(names:List (Str×Bp)) (acc:List (Str×Addr)),(∀y∈names,y.2= .free->∃c,env.cells.lookup y.1=some c) ->
  (forIn names acc (λ(y:Str×Bp) cs=>(if y.2== .free then(cellOf env y.1>>= λc=>pure (JP ((y.1,c) :: cs)))else pure (JP cs):Sem (ForInStep (List (Str×Addr))))))=pure (Zjw env names acc)
 | [],acc,_=>by rw[U3];rfl
 | (n,k) :: r,acc,h=>by
  by_cases hk:k= .free
  .subst hk
   obtain⟨c,hc⟩:=h (n,.free) (.head _) rfl
   have hc':env.cells.lookup n=some c:=hc
   have e:=Zlb (env:=env) r ((n,c) :: acc) λy hy=>h y (.tail _ hy)
   have ec:cellOf env n=pure c:=by
    unfold cellOf
    rw[hc']
   rw[List.forIn_cons]
   simp only[beq_self_eq_true,if_true]
   rw[ec]
   simp only[Zjw,beq_self_eq_true,if_true,hc',Option.getD_some]
   exact e
  .have e:=Zlb (env:=env) r acc λy hy=>h y (.tail _ hy)
   have hb:(k==QQ)=false:=by simpa using hk
   rw[List.forIn_cons]
   simp only[Zjw,hb,Bf,if_false]
   exact e
theorem Ze7{env:Env}(h:∀y∈scope.names,y.2= .free->∃c,env.cells.lookup y.1=some c):closureFor scope env=pure (Zjw env scope.names []):=by
 have e:=Zlb scope.names [] h
 have e':(forIn scope.names ([]:List (Str×Addr)) (λ(y:Str×Bp) cs=>(match y with|(name,kind)=>do
   if kind== .free then do let a<-cellOf env name;pure (JP ((name,a) :: cs))else pure (JP cs):Sem (ForInStep (List (Str×Addr))))))=pure (Zjw env scope.names []):=e
 exact congrArg (λ(m:Sem (List (Str×Addr)))=>m>>= λx=>pure x) e'
theorem Zl7{env:Env}:∀(names:List (Str×Bp)) (acc:List (Str×Addr)),(∀y∈names,y.2= .free->∃c,env.cells.lookup y.1=some c) ->
  ∀n c,(n,c)∈Zjw env names acc->(n,c)∈acc\/((n,QQ)∈names/\env.cells.lookup n=some c)
 | [],acc,_,n,c,h=>.inl h
 | (m,k) :: r,acc,h,n,c,hm=>by
  by_cases hk:k= .free
  .subst hk
   obtain⟨d,hd⟩:=h (m,.free) (.head _) rfl
   have hd':env.cells.lookup m=some d:=hd
   simp only[Zjw,beq_self_eq_true,if_true,hd',Option.getD_some]at hm
   rcases Zl7 r _ (λy hy=>h y (.tail _ hy)) n c hm with z|⟨z1,z2⟩
   .rcases Xo.mp z with z|z
    .cases z;exact .inr ⟨.head _,hd'⟩
    .exact .inl z
   .exact .inr ⟨.tail _ z1,z2⟩
  .have hb:(k==QQ)=false:=by simpa using hk
   simp only[Zjw,hb,Bf,if_false]at hm
   refine(Zl7 r _ (λy hy=>h y (.tail _ hy)) n c hm).imp id λqz9=>?_
   obtain⟨z1,z2⟩:=qz9
   exact⟨.tail _ z1,z2⟩
theorem Zmg{env:Env}:∀(names:List (Str×Bp)) (acc:List (Str×Addr)),∀p∈acc,p∈Zjw env names acc
 | [],_,_,h=>h
 | (m,k) :: r,acc,p,h=>by
  unfold Zjw
  split
  .exact Zmg r _ p (.tail _ h)
  .exact Zmg r _ p h
theorem Zl4{env:Env}:∀(names:List (Str×Bp)) (acc:List (Str×Addr)) (n:Str),(n,QQ)∈names->∃c,(n,c)∈Zjw env names acc
 | [],_,_,h=>nomatch h
 | (m,k) :: r,acc,n,h=>by
  rcases Xo.mp h with z|z
  .cases z
   exact⟨_,by
    simp only[Zjw,beq_self_eq_true,if_true]
    exact Zmg _ _ _ (.head _)⟩
  .unfold Zjw
   split
   .exact Zl4 r _ n z
   .exact Zl4 r _ n z
theorem Zhl{env:Env}(inj:∀x y c,env.cells.lookup x=some c->env.cells.lookup y=some c->x=y):∀(names:List (Str×Bp)) (acc:List (Str×Addr)),
  (∀ y∈names,y.2= .free->∃c,env.cells.lookup y.1=some c)->(names.map (·.1)).Nodup->(∀p∈acc,env.cells.lookup p.1=some p.2)->(∀p∈acc,p.1∉names.map (·.1))->(acc.Pairwise λx y=>x.2≠y.2) ->
  (Zjw env names acc).Pairwise λx y=>x.2≠y.2
 | [],_,_,_,_,_,h=>h
 | (m,k) :: r,acc,hf,hn,ha,hd,hp=>by
  rw[Xv,Qm]at hn
  have hf':∀y∈r,y.2= .free->∃c,env.cells.lookup y.1=some c:=λy hy=>hf y (.tail _ hy)
  have hd':∀p∈acc,p.1∉r.map (·.1):=λp hp z=>hd p hp (by rw[Xv];exact .tail _ z)
  by_cases hk:k= .free
  .subst hk
   obtain⟨d,hd0⟩:=hf (m,.free) (.head _) rfl
   have hd1:env.cells.lookup m=some d:=hd0
   simp only[Zjw,beq_self_eq_true,if_true,hd1,Option.getD_some]
   refine Zhl inj r _ hf' hn.2 (λp hp'=>?_) (λp hp'=>?_) (List.pairwise_cons.mpr ⟨λp hp' z=>?_,hp⟩)
   .rcases Xo.mp hp' with rfl|hp'
    .exact hd1
    .exact ha p hp'
   .rcases Xo.mp hp' with rfl|hp'
    .exact hn.1
    .exact hd' p hp'
   .have e:m=p.1:=inj m p.1 d hd1 (by rw[ha p hp',<-z])
    exact hd p hp' (by rw[Xv,<-e];exact .head _)
  .have hb:(k==QQ)=false:=by simpa using hk
   simp only[Zjw,hb,Bf,if_false]
   exact Zhl inj r _ hf' hn.2 ha hd' hp
structure Zse(h:Heap)(lo:Nat)(names:List (Str×Bp))(acc cs:List (Str×Addr)):Prop where
 mem:∀n c,(n,c)∈cs->(n,c)∈acc\/(h.IsCell c none/\lo<=c/\(n,Bc)∈names)
 has:∀n,(n,Bc)∈names->∃c,(n,c)∈cs
 old:∀p∈acc,p∈cs
theorem Zg2:∀(names:List (Str×Bp)) (h:Heap) (lo:Nat) (acc:List (Str×Addr)),lo<=h.objs.size->Zse (BL h names) lo names acc (Bb h.objs.size names acc)
 | [],_,_,_,_=>⟨λ_ _ m=>.inl m,(λ_ m=>nomatch m),λ_ m=>m⟩
 | (name,kind) :: r,h,lo,acc,hlo=>by
  by_cases hk:(kind==Bc)=true
  .have ek:kind= .cell:=by simpa using hk
   subst ek
   have ih:=Zg2 r (h.push { cls:=.type "cell",data:=.cell none }) lo ((name,h.objs.size) :: acc) (by rw[JH];omega)
   rw[JH]at ih
   have e1:Bb h.objs.size ((name,.cell) :: r) acc=Bb (h.objs.size+1) r ((name,h.objs.size) :: acc):=by
    rw[Bb,if_pos hk]
   have e2:BL h ((name,.cell) :: r)=BL (h.push { cls:=.type "cell",data:=.cell none }) r:=by
    rw[BL,if_pos hk]
   rw[e1,e2]
   refine⟨λn c m=>?_,λn m=>?_,λp m=>ih.old p (.tail _ m)⟩
   .rcases ih.mem n c m with z|⟨z1,z2,z3⟩
    .rcases Xo.mp z with z|z
     .cases z
      exact .inr ⟨⟨_,U5 _ _ _ _ (XQ _ rfl),rfl⟩,hlo,.head _⟩
     .exact .inl z
    .exact .inr ⟨z1,z2,.tail _ z3⟩
   .rcases Xo.mp m with z|z
    .cases z
     exact⟨_,ih.old _ (.head _)⟩
    .exact ih.has n z
  .have ih:=Zg2 r h lo acc hlo
   have e1:Bb h.objs.size ((name,kind) :: r) acc=Bb h.objs.size r acc:=by
    rw[Bb,if_neg hk]
   have e2:BL h ((name,kind) :: r)=BL h r:=by
    rw[BL,if_neg hk]
   rw[e1,e2]
   refine⟨λn c m=>(ih.mem n c m).imp id λ⟨z1,z2,z3⟩=>⟨z1,z2,.tail _ z3⟩,λn m=>?_,ih.old⟩
   rcases Xo.mp m with z|z
   .cases z
    exact absurd rfl hk
   .exact ih.has n z
theorem Zjj(names:List (Str×Bp)):∀(h:Heap) (acc:List (Str×Addr)),(acc.Pairwise λx y=>x.2≠y.2)->(∀p∈acc,p.2<h.objs.size)->(Bb h.objs.size names acc).Pairwise λx y=>x.2≠y.2:=by
 induction names with
 | nil=>intro h acc ha _;exact ha
 | cons y r ih=>
  intro h acc ha hb
  obtain⟨name,kind⟩:=y
  unfold Bb
  split
  .have:=ih (h.push { cls:=.type "cell",data:=.cell none }) ((name,h.objs.size) :: acc) (List.pairwise_cons.mpr ⟨λp hp=>X3 (hb p hp),ha⟩) (λp hp=>by
    rw[JH]
    rcases Xo.mp hp with rfl|hp
    .exact Vi _
    .exact Nat.lt_succ_of_lt (hb p hp))
   rwa[JH]at this
  .exact ih h acc ha hb
theorem Zkc{globals:Addr}{cl:List (Str×Addr)}{env:Env}{Q:Env->Xg->Prop}
  (hQ:Q (newEnv scope s.heap.objs.size globals (Bb (s.heap.objs.size+1) scope.names cl) qual none .none (some env) builtinsNs)
   { s with heap:=BL (s.heap.push { cls:=.type "dict",data:=.dict #[] }) scope.names }) :
  XR M A (newFunctionEnv scope globals cl [] qual none .none (some env)) Q E s:=by
 simp only[newFunctionEnv,Option.isSome_some,if_true]
 refine Xd (wpAny_alloc ?_)
 refine Xd (wpAny_layCells _ (λname kind cells=>by cases hkc:kind==Bc<;>simp[hkc]) _ _ _ _ ?_)
 rw[show({ s with heap:=s.heap.push { cls:=.type "dict",data:=.dict #[] } }:Xg).heap.objs.size=s.heap.objs.size+1 from JH ..]
 rw[U3]
 exact Xd (Xy (Xy hQ))
def Y4(X:Cx)(N':List Str)(sc:Ud)(C:Addr)(cells:List (Str×Addr))(s₂:Xg)(H₂:Hp)(fp:List Addr):Cx :=
 { X with N:=N',s₀:=s₂,H₀:=H₂,env:=compEnvC sc cells C X.env,outer:=X.stack,stack:=X.stack,ex:=fp,fn:=λx=>sc.names.lookup x==some .cell,pn:=[],xe:=λ_ _=>False }
theorem Zey{env:Env}:∀{names:List (Str×Bp)} {x:Str} {k:Bp},names.lookup x=some k ->
  (names.map λ(n,k)=>if(k==QQ&&env.scope.kind== .function&&env.kindOf n==some .cell)then(n,Bc)else(n,k)).lookup x=
   some (if(k==QQ&&env.scope.kind== .function&&env.kindOf x==some .cell)then Bc else k)
 | [],_,_,h=>by simp at h
 | (n,k') :: r,x,k,h=>by
  have ih:=@Zey env r x k
  show List.lookup x ((if(k'==QQ&&env.scope.kind== .function&&env.kindOf n==some .cell)=true then(n,Bc)else(n,k')) :: _)=_
  cases hx:x==n with
  | true=>
   simp only[QR,hx]at h
   cases h
   have e:=beq_iff_eq.mp hx
   subst e
   split<;>simp[QR]
  | false=>
   simp only[QR,hx]at h
   split
   .simp only[QR,hx];exact ih h
   .simp only[QR,hx];exact ih h
theorem Zhr{env:Env}:∀{names:List (Str×Bp)} {x:Str},names.lookup x=none ->
  (names.map λ(n,k)=>if(k==QQ&&env.scope.kind== .function&&env.kindOf n==some .cell)then(n,Bc)else(n,k)).lookup x=none
 | [],_,_=>rfl
 | (n,k') :: r,x,h=>by
  have ih:=@Zhr env r x
  show List.lookup x ((if(k'==QQ&&env.scope.kind== .function&&env.kindOf n==some .cell)=true then(n,Bc)else(n,k')) :: _)=_
  cases hx:x==n with
  | true=>
   simp only[QR,hx]at h
   cases h
  | false=>
   simp only[QR,hx]at h
   split
   .simp only[QR,hx];exact ih h
   .simp only[QR,hx];exact ih h
theorem Zge:∀{l:List (Str×α)} {n:Str} {c:α},(l.map (·.1)).Nodup->(n,c)∈l->l.lookup n=some c
 | (k,v) :: r,n,c,hd,h=>by
  rw[Xv,Qm]at hd
  rcases Xo.mp h with e|hr
  .cases e
   simp[QR]
  .have hne:(n==k)=false:=by
    refine Bool.eq_false_iff.mpr λz=>hd.1 ?_
    have e:n=k:=beq_iff_eq.mp z
    rw[<-e]
    exact Xp.mpr ⟨(n,c),hr,rfl⟩
   rw[QR,hne]
   exact Zge hd.2 hr
theorem Yw:∀{l:List (Str×α)} {n:Str} {c:α},(n,c)∈l->∃d,l.lookup n=some d/\(n,d)∈l
 | (k,v) :: r,n,c,h=>by
  by_cases e:n=k
  .subst e
   exact⟨v,by simp[QR],U0⟩
  .have hne:(n==k)=false:=by simpa using e
   rcases Xo.mp h with z|z
   .cases z;exact absurd rfl e
   .obtain⟨d,h1,h2⟩:=Yw z
    exact⟨d,by rw[QR,hne];exact h1,.tail _ h2⟩
structure CompScope(X:Cx)(own:List Str)(caps:List Nat)(N':List Str)(sc:Ud):Prop where
 kind:sc.kind= .function
 nd:N'.Nodup
 names:N'=own ++ caps.map λi=>X.N.getD i Str.empty
 nn:(sc.names.map (·.1)).Nodup
 free:(sc.names.all λy=>y.2 != .free||(X.env.kindOf y.1==some .cell||X.env.kindOf y.1==some .free))=true
 caps:(caps.all λi=>sc.names.lookup (X.N.getD i Str.empty)==some .free)=true
def Zap(own:List Str)(caps:List Nat)(σ:St):St:=own.map (λ_=>none) ++ caps.map λi=>(σ[i]?).getD none
section
variable {own:List Str}{caps:List Nat}{N':List Str}{sc:Ud}
theorem CompScope.lk(S:CompScope X own caps N' sc){n:Str}{k:Bp}(h:(n,k)∈sc.names):sc.names.lookup n=some k:=Zge S.nn h
theorem CompScope.fr(S:CompScope X own caps N' sc){n:Str}(h:(n,QQ)∈sc.names):X.env.kindOf n=some .cell\/X.env.kindOf n=some .free:=by
 have:=VJ.mp S.free _ h
 simpa using this
theorem Zrx{σ:St}{fp:List Addr}{cl:List (Str×Addr)}(S:CompScope X own caps N' sc)(I:Inv X pins σ H s)
  (f:∀b∈fp,Zk6 X pins H b) (fo:∀b∈fp,∃o,s.heap.get? b=some o)
  (hcl:∀n c,(n,c)∈cl->(n,QQ)∈sc.names/\X.env.cells.lookup n=some c) (hcl2:∀n,(n,QQ)∈sc.names->∃c,(n,c)∈cl) (hapart:cl.Pairwise λx y=>x.2≠y.2) :
  Inv (Y4 X N' sc (s.heap.objs.size+1) (Bb (s.heap.objs.size+2) sc.names cl) s H fp) [] (Zap own caps σ) (upd H s.heap.objs.size (.lst []))
   { s with heap:=BL ((s.heap.push { cls:=.type "list",data:=.seq #[] }).push { cls:=.type "dict",data:=.dict #[] }) sc.names }:=by
 generalize hh1:s.heap.push { cls:=.type "list",data:=.seq #[] }=h1
 have z1:h1.objs.size=s.heap.objs.size+1:=by rw[<-hh1,JH]
 generalize hh2:h1.push { cls:=.type "dict",data:=.dict #[] }=h2
 have z2:h2.objs.size=s.heap.objs.size+2:=by rw[<-hh2,JH,z1]
 have BC:=Zg2 sc.names h2 (s.heap.objs.size+2) cl (by omega)
 have AP:=Zjj sc.names h2 cl hapart (λp hp=>by
  obtain⟨v,hv⟩:=I.cell p.1 p.2 (hcl p.1 p.2 hp).2
  exact Qe hv.lt (by omega))
 rw[z2]at BC AP
 have keep:∀b o,s.heap.get? b=some o->(BL h2 sc.names).get? b=some o:=λb o e=>U5 _ _ _ _ (by
  rw[<-hh2]
  refine Xh _ ?_
  rw[<-hh1]
  exact Xh _ e)
 have hD:(BL h2 sc.names).get? s.heap.objs.size=some { cls:=.type "list",data:=.seq #[] }:=U5 _ _ _ _ (by
  rw[<-hh2]
  refine Xh _ ?_
  rw[<-hh1]
  exact XQ _ rfl)
 have hC:(BL h2 sc.names).Ns (s.heap.objs.size+1) (λ_=>none):=by
  refine Heap.Ns.keeps ?_ (U5 _ _)
  have:=Heap.Ns.new h1 (.type "dict")
  rw[hh2,z1]at this
  exact this
 have cellOld:∀n c,X.env.cells.lookup n=some c->c<s.heap.objs.size:=λn c e=>by
  obtain⟨v,hv⟩:=I.cell n c e
  exact hv.lt
 have lk':∀n c,(Bb (s.heap.objs.size+2) sc.names cl).lookup n=some c->(n,c)∈Bb (s.heap.objs.size+2) sc.names cl:=λn c e=>JT e
 have hnD:H s.heap.objs.size=none:=I.fresh
 have fresh:∀c,s.heap.objs.size<c->upd H s.heap.objs.size (.lst []) c=none:=λc hc=>by
  rw[Zt (X3 hc)]
  exact I.hok.fresh (Nat.le_of_lt hc)
 have isc:∀n c,(n,c)∈Bb (s.heap.objs.size+2) sc.names cl->∃v,(BL h2 sc.names).IsCell c v:=λn c m=>by
  rcases BC.mem n c m with z|⟨z,_⟩
  .obtain⟨v,hv⟩:=I.cell n c (hcl n c z).2
   exact⟨v,hv.keeps keep⟩
  .exact⟨none,z⟩
 have okH:HOk X.prog X.w (upd H s.heap.objs.size (.lst [])) (BL h2 sc.names):=by
  refine I.hok.laid keep (XC _) ?_
  exact⟨JF _,[],0,.nil,hD⟩
 have kinds:∀x k,sc.names.lookup x=some k->(relabel sc X.env).names.lookup x=some (if(k==QQ&&X.env.scope.kind== .function&&X.env.kindOf x==some .cell)then Bc else k):=λx k e=>Zey e
 have kindsR:∀x k,(relabel sc X.env).names.lookup x=some k->∃k',(x,k')∈sc.names/\k=(if(k'==QQ&&X.env.scope.kind== .function&&X.env.kindOf x==some .cell)then Bc else k'):=λx k e=>by
  cases q:sc.names.lookup x with
  | none=>
   have:=Zhr (env:=X.env) q
   rw[show(relabel sc X.env).names.lookup x=_ from this]at e
   cases e
  | some k'=>
   refine⟨k',JT q,?_⟩
   rw[kinds x k' q]at e
   exact(Qu e).symm
 refine⟨⟨I.ok.mod,S.kind,I.ok.glob,I.ok.blt,?_,?_,?_,?_,I.ok.hd,I.ok.frames,.inl rfl,?_,?_,?_,?_,?_,?_,?_⟩,rfl,I.bare,?_,?_,?_,?_,?_,(λp hp=>nomatch hp),okH,?_⟩
 .show s.heap.objs.size<=s.heap.objs.size+1;omega
 .intro x y c e1 e2
  exact name_of_addr AP (lk' x c e1) (lk' y c e2)
 .intro x hx
  rcases hx with hx|hx
  .obtain⟨k',hm,hk'⟩:=kindsR x _ hx
   cases k' with
   | cell=>
    obtain⟨c,hc⟩:=BC.has x hm
    obtain⟨d,h1,_⟩:=Yw hc
    exact⟨d,h1⟩
   | free=>
    obtain⟨c,hc⟩:=hcl2 _ hm
    obtain⟨d,h1,_⟩:=Yw (BC.old _ hc)
    exact⟨d,h1⟩
   | _=>simp at hk'
  .obtain⟨k',hm,hk'⟩:=kindsR x _ hx
   cases k' with
   | free=>
    obtain⟨c,hc⟩:=hcl2 _ hm
    obtain⟨d,h1,_⟩:=Yw (BC.old _ hc)
    exact⟨d,h1⟩
   | _=>simp at hk'
 .intro x c hf e
  have hf':sc.names.lookup x=some .cell:=by simpa [Y4]using hf
  rcases BC.mem x c (lk' x c e)with z|⟨_,z,_⟩
  .-- a free one and a cell at once: the name stands once
   exfalso
   have q:=S.lk (hcl x c z).1
   rw[hf']at q
   cases q
  .show s.heap.objs.size<=c;omega
 .intro b hb
  obtain⟨o,ho⟩:=fo b hb
  have hlt:=XH ho
  refine⟨Xu (Uh hlt (Vi _)),λx c e z=>?_⟩
  rcases BC.mem x c (lk' x c e)with q|⟨_,q,_⟩
  .exact(f b hb).2.2.2.2.1 x c (hcl x c q).2 z
  .subst z
   exact absurd hlt (Nat.not_lt.mpr (Qa (Bu _ 2) q))
 .exact I.bs
 .exact Qa I.ok.bsz I.sz
 .intro b o e hb
  rcases(f b hb).2.2.2.1 with z|z
  .exact I.ok.noex b o e z
  .exact absurd (Qe (XH e) I.ok.bsz) (Nat.not_lt.mpr z)
 .intro b hb z
  rcases Xo.mp (I.stkSub b z)with q|q
  .exact(f b hb).2.1 q
  .exact(f b hb).2.2.1 q
 .exact I.stack
 .exact I.stkFree
 .exact Un.laid keep (XC _) hnD
 .refine⟨_,hC,λi x v e1 e2 e3=>?_⟩
  have e1':(own ++ caps.map λi=>X.N.getD i Str.empty)[i]? =some x:=by rw[<-S.names];exact e1
  have e2':(own.map (λ_=>(none:Option V)) ++ caps.map λi=>(σ[i]?).getD none)[i]? =some (some v):=e2
  by_cases hi:i<own.length
  .rw[VP (by simpa using hi),Xj]at e2'
   cases q:own[i]? with
   | none=>rw[q]at e2';cases e2'
   | some y=>rw[q]at e2';cases e2'
  .rw[JV (by simpa using hi),Xj]at e2'
   rw[JV (by omega),Xj]at e1'
   rw[Xc]at e2'
   cases q:caps[i-own.length]? with
   | none=>rw[q]at e2';cases e2'
   | some j=>
    rw[q]at e1' e2'
    have e1:X.N.getD j Str.empty=x:=Qu e1'
    have e2:(σ[j]?).getD none=some v:=Qu e2'
    have e4:σ[j]? =some (some v):=by
     cases r:σ[j]? with
     | none=>rw[r]at e2;cases e2
     | some o=>rw[r]at e2;exact congrArg some e2
    have hj:j<X.N.length:=by rw[<-I.len];exact(Xi.mp e4).1
    have e5:X.N[j]? =some x:=by rw[<-e1];simp[Xq,hj]
    have hc:=VJ.mp S.caps j (X5 q)
    have e6:sc.names.lookup x=some .free:=by rw[<-e1];simpa using hc
    have hm:=JT e6
    have kx:=S.fr hm
    obtain⟨m,hn,hl⟩:=I.loc
    obtain⟨u,ru,lo⟩:=hl j x v e5 e4 (by rcases kx with z|z;exact .inr (.inl z);exact .inr (.inr z))
    refine⟨u,ru,.inr ⟨?_,?_⟩⟩
    .have:=kinds x _ e6
     show(relabel sc X.env).names.lookup x=_\/(relabel sc X.env).names.lookup x=_
     rw[this]
     split
     .exact .inl rfl
     .exact .inr rfl
    .rcases lo with⟨z,_⟩|⟨_,c,hc1,hc2⟩
     .rcases kx with w|w<;>(rw[w]at z;cases z)
     .obtain⟨d,hd⟩:=hcl2 x hm
      obtain⟨d',h1,h2⟩:=Yw (BC.old _ hd)
      refine⟨d',h1,?_⟩
      rcases BC.mem x d' h2 with w|⟨_,_,w⟩
      .have w':=(hcl x d' w).2
       rw[hc1]at w'
       cases w'
       exact hc2.keeps keep
      .have:=S.lk w
       rw[e6]at this
       cases this
 .intro x c e
  exact isc x c (lk' x c e)
 .exact fresh _ (Vi _)
 .intro x c e
  rcases BC.mem x c (lk' x c e)with z|⟨_,z,_⟩
  .have e':=(hcl x c z).2
   have hlt:=cellOld x c e'
   rw[Zt (Xu hlt)]
   exact I.freeC x c e'
  .exact fresh c (by omega)
 .show(Zap own caps σ).length=N'.length
  rw[S.names]
  unfold Zap
  simp
end
def Z5w(J:It)(g:TG)(tt:TT)(te:TE)(σ0:St)(D:Addr)(Q:Hp->Prop)(H1:Hp):Prop :=
 ∃W:Nat->Nat->St->Hp->Prop,(∃m,W 0 m σ0 (upd H1 D (.lst [])))/\∀i m σ' H',W i m σ' H' ->
  (J.stop i H'/\Q H')\/(J.go i H'/\∀x H2,J.yld i H' x H2->g x σ' H2 λσ2 H3=>tt σ2 H3 λb H4=>
   if b=true then te σ2 H4 λy H5=>∃ys,H5 D=some (.lst ys)/\ys.length<Xk/\∃m',m'<m/\W (i+1) m' σ2 (upd H5 D (.lst (ys ++ [y])))
   else∃m',m'<m/\W (i+1) m' σ2 H4)
def Z47(own:List Str)(caps:List Nat)(wi:TI)(g:TG)(tt:TT)(te:TE):TE:=λσ H Q=>wi σ H λJ H1=>∀D,H1 D=none->Z5w J g tt te (Zap own caps σ) D (Q (.ref D)) H1
def Ygm:TT:=λ_ H Q=>Q true H
def Z53(X:Cx)(ifs:List Expr)(t:TT):Prop :=
 ∀(pins:List (Addr×Obj)) (s:Xg) (σ:St) (H:Hp) (Q:Bool->Hp->Prop),Inv X pins σ H s->t σ H Q ->
  XR (Qg X.prog X.w) X.A (forIn ifs true λc r=>if r=true then do let ok<-isTrue c X.env (eval c X.env);pure (JP ok)else pure (JP r)) (TP X pins σ Q) X.xe s
theorem Z4e:Z53 X [] Ygm:=λpins s σ H Q I h=>by
 rw[U3]
 exact Xy ⟨H,I,h⟩
theorem Z4q{c:Expr}{t:TT}(h:PT X c t):Z53 X [c] t:=λpins s σ H Q I q=>wpAny_tests_one (h pins s σ H Q I q)
theorem Z6h{t:Sem α}{Q Q':α->Xg->Prop}(h:XR M A t Q (λ_ _=>False) s)(hQ:∀a s,Q a s->Q' a s):XR M A t Q' E s :=
 Bm h hQ λ_ _ z=>z.elim
section
variable {own:List Str}{caps:List Nat}{N':List Str}{sc:Ud}{elt:Expr}{ifs:List Expr}{pos:Pos}{wi:TI}{g:TG}{tt:TT}
theorem Zqr{p':List (Addr×Obj)}{σ σ':St}{fp:List Addr}{cells:List (Str×Addr)}(I:Inv X pins σ H s)(f:∀b∈fp,Zk6 X pins H b)
  (I':Inv (Y4 X N' sc C cells s H fp) p' σ' H' s') (hs:BX C s'.heap h'):Inv X pins σ H' { s' with heap:=h' }:=by
 have hC:s.heap.objs.size<=C:=I'.ok.above
 have B:=I'.base
 have ne:∀b o,s.heap.get? b=some o->b≠C:=λb o e=>Xu (Qe (XH e) hC)
 obtain⟨m,⟨oC,_,_,hoC,_⟩,_⟩:=I'.loc
 refine I.call' (ch:=fp) (s':={ s' with heap:=h' }) I'.os ⟨λb o e n hb hx=>?_,λb o e n hb hx=>?_,B.free,λb o e hx=>?_,B.tups,B.frzs,B.tbls⟩ (λb ob e=>?_) I'.bare λb hb=>?_
 .exact(hs.2 b (ne b o e)).trans (B.keep b o e n hb hx)
 .obtain⟨sl,q⟩:=B.slot b o e n hb hx
  exact⟨sl,(hs.2 b (ne b o e)).trans q⟩
 .obtain⟨o',q⟩:=B.there b o e hx
  exact⟨o',(hs.2 b (ne b o e)).trans q⟩
 .have hfree:H' C=none:=I'.free
  refine(I'.hok b ob e).stay (λc w' hc q=>(hs.2 c ?_).trans q) (λ_ q=>q) λ_ _ q=>q
  rintro rfl
  rcases hc with rfl|hc
  .rw[hfree]at e;cases e
  .rw[hfree]at hc;cases hc
 .obtain⟨_,f1,_,f3,f4,f5⟩:=f b hb
  exact⟨f3,f1,f4,f5⟩
theorem Zkr{Qf:Result->Xg->Prop}(S:CompScope X own caps N' sc)(hc:X.calm=true)
  (hg:∀C cells s₂ H₂ fp,PG (Y4 X N' sc C cells s₂ H₂ fp) tg g) (ht:∀C cells s₂ H₂ fp,Z53 (Y4 X N' sc C cells s₂ H₂ fp) ifs tt) (he:∀C cells s₂ H₂ fp,PE (Y4 X N' sc C cells s₂ H₂ fp) elt te)
   {σ:St}   {fp:List Addr} {it:Addr} {tn:Nat->Heap->Prop} {J:It} {Q:Hp->Prop} (I:Inv X pins σ H s) (T:Turn X.prog X.w X.K tg J fp it tn) (st:tn 0 s.heap) (f:∀b∈fp,Zk6 X pins H b)
  (h:Z5w J g tt te (Zap own caps σ) s.heap.objs.size Q H)
  (fin:∀s' σ' H' p' C cells,Inv (Y4 X N' sc C cells s H fp) p' σ' H' s'->C=s.heap.objs.size+1->Q H'->Qf (.ok .next) s') :
  XR (Qg X.prog X.w) X.A (newFunctionEnv sc X.env.globals (Zjw X.env sc.names []) [] X.env.qual none .none (some X.env)) (λcenv s₄=>
   cenv.locals=s.heap.objs.size+1/\codeAny (Qg X.prog X.w) X.A (.compStart (.ListComp elt [⟨tg,iter,ifs,0⟩] sc pos) 0 (.ref it) (.ref s.heap.objs.size) { cenv with scope:=relabel sc X.env }) Qf s₄) X.xe
    { s with heap:=s.heap.push { cls:=.type "list",data:=.seq #[] } }:=by
 have hf:∀y∈sc.names,y.2= .free->∃c,X.env.cells.lookup y.1=some c:=λy hy e=>by
  obtain⟨n,k⟩:=y
  have e':k= .free:=e
  subst e'
  exact I.ok.has n (S.fr hy)
 have hcl:∀n c,(n,c)∈Zjw X.env sc.names []->(n,QQ)∈sc.names/\X.env.cells.lookup n=some c:=λn c m=>(Zl7 sc.names [] hf n c m).elim (λz=>nomatch z) id
 have hap:=Zhl I.ok.inj sc.names [] hf S.nn (λ_ z=>nomatch z) (λ_ z=>nomatch z) .nil
 have I0:=Zrx (cl:=Zjw X.env sc.names []) S I f (λb hb=>let⟨o,e,_⟩:=T.obj _ _ st b hb;⟨o,e⟩) hcl (λn m=>Zl4 sc.names [] n m) hap
 refine Zkc ?_
 rw[show({ s with heap:=s.heap.push { cls:=.type "list",data:=.seq #[] } }:Xg).heap.objs.size=s.heap.objs.size+1 from JH ..]
 refine⟨rfl,?_⟩
 dsimp only
 generalize hs0:({ s with heap:=BL ((s.heap.push { cls:=.type "list",data:=.seq #[] }).push { cls:=.type "dict",data:=.dict #[] }) sc.names }:Xg)=s0 at I0|-
 have st0:tn 0 s0.heap:=T.keep _ _ _ st λb hb o e=>by
  rw[<-hs0]
  exact U5 _ _ _ _ (Xh _ (Xh _ e))
 generalize hcells:Bb (s.heap.objs.size+1+1) sc.names (Zjw X.env sc.names [])=cells at I0|-
 -- the loop
 obtain⟨W,⟨m0,w0⟩,turn⟩:=h
 have loop:codeAny (Qg X.prog X.w) X.A (.compLoop (.ListComp elt [⟨tg,iter,ifs,0⟩] sc pos) 0 (.ref it) (.ref s.heap.objs.size) (Y4 X N' sc (s.heap.objs.size+1) cells s H fp).env) Qf s0:=by
  generalize hX':Y4 X N' sc (s.heap.objs.size+1) cells s H fp=X' at I0|-
  have hg':=hg (s.heap.objs.size+1) cells s H fp
  have ht':=ht (s.heap.objs.size+1) cells s H fp
  have he':=he (s.heap.objs.size+1) cells s H fp
  have fin':=λs' σ' H' p' (z:Inv (Y4 X N' sc (s.heap.objs.size+1) cells s H fp) p' σ' H' s')=>fin s' σ' H' p' _ _ z rfl
  rw[hX']at hg' ht' he' fin'
  have hxe:X'.xe= λ_ _=>False:=by rw[<-hX'];rfl
  have hpr:X'.prog=X.prog:=by rw[<-hX'];rfl
  have hw:X'.w=X.w:=by rw[<-hX'];rfl
  have hK:X'.K=X.K:=by rw[<-hX'];rfl
  have hA:X'.A=X.A:=by rw[<-hX'];rfl
  have hcm:X'.calm=true:=by rw[<-hX'];exact hc
  have hex:X'.ex=fp:=by rw[<-hX'];rfl
  have hpn:X'.pn=[]:=by rw[<-hX'];rfl
  have stat:∀{H':Hp},(∀b∈fp,H' b=none)->∀b∈fp,Zk6 X' [] H' b:=λhn b hb=>by
   have e1:=I0.ok.exf b (by rw[hex];exact hb)
   have e2:=I0.ok.exfs b (by rw[hex];exact hb)
   exact⟨hn b hb,e1.1,e2,.inl (by rw[hex];exact hb),e1.2,λp hp=>by rw[hpn]at hp;exact nomatch hp⟩
  have frD:∀b∈fp,(upd H s.heap.objs.size (.lst [])) b=none:=λb hb=>by
   obtain⟨o,e,_⟩:=T.obj _ _ st b hb
   rw[Zt (Xu (XH e))]
   exact(f b hb).1
  have T':Turn X'.prog X'.w X'.K tg J fp it tn:=by rw[hpr,hw,hK];exact T
  rw[<-hpr,<-hw,<-hA]
  refine Zmw (λn s'=>∃i σ' H',Inv X' [] σ' H' s'/\tn i s'.heap/\(∀b∈fp,H' b=none)/\W i n σ' H') ?_ m0 ⟨0,_,_,I0,st0,frD,w0⟩
  rintro n s3 ⟨i,σ3,H3,I3,st3,fr3,w3⟩
  rcases turn i n σ3 H3 w3 with⟨stop,qn⟩|⟨go,step⟩
  .refine Z6h (T'.done X' rfl rfl rfl hcm i [] s3 σ3 H3 _ I3 (stat fr3) st3 stop) λr s4 qz9=>?_
   obtain⟨hr,I4⟩:=qz9
   subst hr
   exact fin' s4 σ3 H3 [] I4 qn
  .refine Z6h (T'.item X' rfl rfl rfl hcm i [] s3 σ3 H3 _ I3 (stat fr3) st3 go) λr s4 qz9=>?_
   obtain⟨u,hr,h4⟩:=qz9
   subst hr
   refine Z6h h4 λ_ s5 qz9=>?_
   obtain⟨x,H5,I5,r5,y5,st5,fr5⟩:=qz9
   have I5':=I5.pinned (stat fr5) (T.obj _ _ st5)
   have hgg:=hg' _ s5 σ3 H5 x u _ I5' r5 (step x H5 y5)
   rw[hxe]at hgg
   refine Z6h hgg λ_ s6 qz9=>?_
   obtain⟨σ6,H6,I6,q6⟩:=qz9
   have htt:=ht' _ s6 σ6 H6 _ I6 q6
   rw[hxe]at htt
   refine Z6h htt λok s7 qz9=>?_
   obtain⟨H7,I7,q7⟩:=qz9
   have again:∀{σ7:St} {H7:Hp} {s7:Xg} {m:Nat},Inv X' ([] ++ Zm3 fp s5.heap) σ7 H7 s7->W (i+1) m σ7 H7->m<n->∃m,m<n/\∃i σ' H',Inv X' [] σ' H' s7/\tn i s7.heap/\(∀b∈fp,H' b=none)/\W i m σ' H':=fun{σ7 H7 s7 m} I7 w7 hm=>by
    refine⟨m,hm,i+1,σ7,H7,I7.unpinned,T.keep _ _ _ st5 λb hb o e=>(I7.pin (b,o) (Qi _ (Qi _ (Zer hb e)))).1,λb hb=>?_,w7⟩
    obtain⟨o,e,d⟩:=T.obj _ _ st5 b hb
    exact(I7.pin (b,o) (Qi _ (Qi _ (Zer hb e)))).2.1
   cases ok with
   | false=>
    obtain⟨m',hm,w7⟩:=q7
    rw[if_neg Xm]
    exact again I7 w7 hm
   | true=>
    rw[if_pos rfl]
    have hee:=he' _ s7 σ6 H7 _ I7 q7
    rw[hxe]at hee
    refine Z6h hee λy s8 qz9=>?_
    obtain⟨vy,H8,I8,r8,ys,hD,hlen,m',hm,w8⟩:=qz9
    have hap:=Zjn (X:=X') _ s8 σ6 H8 (.ref s.heap.objs.size) [vy] (.ref s.heap.objs.size) [y] (λ_ H'=>W (i+1) m' σ6 H') I8 rfl (.cons r8 .nil) ⟨_,ys,vy,rfl,rfl,hD,hlen,w8⟩
    rw[hxe]at hap
    refine Z6h hap λz s9 qz9=>?_
    obtain⟨_,H9,I9,_,w9⟩:=qz9
    exact again I9 w9 hm
 exact codeAny_compStart_list loop (T.self _ 0 _ _ _ st0 loop)
theorem Z31(S:CompScope X own caps N' sc)(hc:X.calm=true)(hi:PI X tg iter wi)
  (hg:∀C cells s₂ H₂ fp,PG (Y4 X N' sc C cells s₂ H₂ fp) tg g) (ht:∀C cells s₂ H₂ fp,Z53 (Y4 X N' sc C cells s₂ H₂ fp) ifs tt) (he:∀C cells s₂ H₂ fp,PE (Y4 X N' sc C cells s₂ H₂ fp) elt te)
  (hs:∀x,Ba iter X.env x=pure x:=by intro _;rfl):PE X (.ListComp elt [⟨tg,iter,ifs,0⟩] sc pos) (Z47 own caps wi g tt te):=by
 intro pins s σ H Q I h
 rw[eval_ListComp]
 have hf:∀y∈sc.names,y.2= .free->∃c,X.env.cells.lookup y.1=some c:=λy hy e=>by
  obtain⟨n,k⟩:=y
  have e':k= .free:=e
  subst e'
  exact I.ok.has n (S.fr hy)
 refine wpAny_comprehension_free (use:=none) rfl hs (Ze7 hf) S.kind (λy hy e=>by obtain⟨n,k⟩:=y;have e':k= .local:=e;subst e';exact S.lk hy) ?_
 refine thn (hi pins s σ H _ I h) λv s1 h1=>thn h1 λitv s2 h2=>?_
 obtain⟨it,fp,tn,J,H2,e,I2,T,st2,f2,q⟩:=h2
 subst e
 refine Br ?_
 refine thn (Zkr (iter:=iter) (pos:=pos) (Qf:=compPost (Qg X.prog X.w) X.A X.xe none (EP X pins σ Q) (.ref s2.heap.objs.size) (s2.heap.objs.size+1)) S hc hg ht he I2 T st2 f2 (q s2.heap.objs.size I2.fresh) ?_) λcenv s4 ⟨hl,hr⟩=>?_
 .intro s' σ' H' p' C cells I' eC q'
  subst eC
  obtain⟨m,hn,_⟩:=id I'.loc
  exact⟨m,hn,λh' hs'=>⟨.ref s2.heap.objs.size,H',Zqr I2 f2 I' hs',rfl,q'⟩⟩
 .rw[<-hl]at hr
  exact hr
end
section
variable {own:List Str}{caps:List Nat}{N':List Str}{sc:Ud}{elt:Expr}{ifs:List Expr}{pos:Pos}{wi:TI}{g:TG}{tt:TT}
theorem Zky{y:Str}{spos:Pos}(hN:X.N.Nodup)(hy:X.N[i]? =some y)(hx:Loc X.env.scope y)(S:CompScope X own caps N' sc)(hc:X.calm=true)(hi:PI X tg iter wi)
  (hg:∀C cells s₂ H₂ fp,PG (Y4 X N' sc C cells s₂ H₂ fp) tg g) (ht:∀C cells s₂ H₂ fp,Z53 (Y4 X N' sc C cells s₂ H₂ fp) ifs tt) (he:∀C cells s₂ H₂ fp,PE (Y4 X N' sc C cells s₂ H₂ fp) elt te)
  (hsw:BK (.ListComp elt [⟨tg,iter,ifs,0⟩] sc pos) (some (.Name y py)) spos.line X.env=pure true:=by rfl)
  (hs:∀x,Ba iter X.env x=pure x:=by intro _;rfl) (hf:X.fn y=true\/X.env.scope.names.lookup y=some .local:=by first|exact .inl rfl|exact .inr rfl|assumption) :
  PS X (.Assign [.Name y py] (.ListComp elt [⟨tg,iter,ifs,0⟩] sc pos) spos) (Z6p (Z47 own caps wi g tt te) (Zrt i)):=by
 intro pins s σ H D I h
 have hfr:∀y∈sc.names,y.2= .free->∃c,X.env.cells.lookup y.1=some c:=λy hy e=>by
  obtain⟨n,k⟩:=y
  have e':k= .free:=e
  subst e'
  exact I.ok.has n (S.fr hy)
 rw[exec_Assign_Name_used _ _ _ _ hsw]
 refine Xd (wpAny_standAt (Xd ?_))
 show XR _ X.A (do let _<-comprehension (.ListComp elt [⟨tg,iter,ifs,0⟩] sc pos) sc X.env _ (newList []) false (eval iter X.env) (some (Ur (.Name y py) X.env))) _ _ s
 refine Xd (Bm (wpAny_comprehension_free (use:=some (Ur (.Name y py) X.env)) (Q:=λ_ s'=>SP X pins D .next s') rfl hs (Ze7 hfr) S.kind (λy hy e=>by obtain⟨n,k⟩:=y;have e':k= .local:=e;subst e';exact S.lk hy) ?_) (λ_ s' hq=>Xy (Xy hq)) λ_ _ e=>e)
 refine thn (hi pins s σ H _ I h) λv s1 h1=>thn h1 λitv s2 h2=>?_
 obtain⟨it,fp,tn,J,H2,e,I2,T,st2,f2,q⟩:=h2
 subst e
 refine Br ?_
 refine thn (Zkr (iter:=iter) (pos:=pos) (Qf:=compPost (Qg X.prog X.w) X.A X.xe (some (Ur (.Name y py) X.env)) (λ_ s'=>SP X pins D .next s') (.ref s2.heap.objs.size) (s2.heap.objs.size+1)) S hc hg ht he I2 T st2 f2 (q s2.heap.objs.size I2.fresh) ?_) λcenv s4 ⟨hl,hr⟩=>?_
 .intro s' σ' H' p' C cells I' eC q'
  subst eC
  obtain⟨m,hn,_⟩:=id I'.loc
  have I3:Inv X pins σ H' s':=Zqr I2 f2 I' (.refl ..)
  show XR _ X.A (Ur (.Name y py) X.env (.ref s2.heap.objs.size)) _ _ s'
  refine wpAny_assign_Name (Zm7 (v:=.ref s2.heap.objs.size) I3 hN hy hx rfl (λs5 I5 hsb=>?_) hf)
  have hC:s2.heap.objs.size<s2.heap.objs.size+1:=Vi _
  have ltL:X.env.locals<s2.heap.objs.size:=I2.lt
  have ltC:∀x c,X.env.cells.lookup x=some c->c<s2.heap.objs.size:=λx c e=>by
   obtain⟨w',z⟩:=I2.cell x c e
   exact z.lt
  refine⟨m,?_,λh' hs'=>⟨σ.set i (some (.ref s2.heap.objs.size)),H',?_,q'⟩⟩
  .obtain⟨a,hsa,ha⟩:=hsb
   refine hn.sameBut hsa ?_
   rcases ha with ha|ha
   .rw[ha];exact X3 (Uh ltL hC)
   .exact X3 (Uh (ltC _ _ ha) hC)
  .refine I5.turned (t':=s5.toks) (it:=s2.heap.objs.size+1) (λb o hb e=>(hs'.2 b hb).trans e) I'.free (X3 (Uh ltL hC)) (.inr (Qa I2.sz (Nat.le_of_lt hC))) (λx c e=>Xu (Uh (ltC x c e) hC)) λp hp=>?_
   obtain⟨e,_⟩:=I2.pin p hp
   exact Xu (Uh (XH e) hC)
 .rw[<-hl]at hr
  exact hr
end
section
variable (n:Nat)(D:Addr)(Pv:Nat->List V->St->Hp->Prop)
variable {n D Pv}
end
mutual
inductive Is(H:Hp)(L:Addr->Prop):V->Xa->Prop where
 | non:Is H L .non .none
 | bl (b:Bool):Is H L (.bl b) (.bool b)
 | int (i:Int):Is H L (.int i) (.int i)
 | str (x:Str):Is H L (.str x) (.str x)
 | lst {a:Addr} {xs:List V} {ds:List Xa}:L a->H a=some (.lst xs)->IsAll H L xs ds->Is H L (.ref a) (.list ds)
 | tup {a:Addr} {xs:List V} {ds:List Xa}:H a=some (.tup xs)->IsAll H L xs ds->Is H L (.ref a) (.tuple ds)
inductive IsAll(H:Hp)(L:Addr->Prop):List V->List Xa->Prop where
 | nil:IsAll H L [] []
 | cons {x:V} {xs:List V} {d:Xa} {ds:List Xa}:Is H L x d->IsAll H L xs ds->IsAll H L (x :: xs) (d :: ds)
end
section
variable {L L':Addr->Prop}
theorem IsAll.ind{Q:List V->List Xa->Prop}(n:Q [] [])(c:∀{x:V} {xs:List V} {d:Xa} {ds:List Xa},Is H L x d->IsAll H L xs ds->Q xs ds->Q (x :: xs) (d :: ds)):∀{xs ds},IsAll H L xs ds->Q xs ds:=λh=>
 IsAll.rec (motive_1:=λ_ _ _=>True) (motive_2:=λxs ds _=>Q xs ds) trivial (λ_=>trivial) (λ_=>trivial) (λ_=>trivial) (λ_ _ _ _=>trivial) (λ_ _ _=>trivial) n (λp q _ r=>c p q r) h
theorem IsAll.length{ds:List Xa}(h:IsAll H L xs ds):xs.length=ds.length:=IsAll.ind (Q:=λxs ds=>xs.length=ds.length) rfl (λ_ _ r=>congrArg (·+1) r) h
theorem IsAll.set{xs:List V}{ds:List Xa}{x:V}{d:Xa}(i:Nat)(h:IsAll H L xs ds)(k:Is H L x d):IsAll H L (xs.set i x) (ds.set i d) :=
 IsAll.ind (Q:=λxs ds=>∀i,IsAll H L (xs.set i x) (ds.set i d)) (λ_=>.nil) (λh q r i=>Nat.casesOn i (.cons k q) λi=>.cons h (r i)) h i
end
section
variable {σ:St}{L L':Addr->Prop}
end
abbrev Shp(d:Xa):Prop:=JQ d=true
mutual
def Yq:Xa->Bool
 | .none=>true
 | .int _=>true
 | .str _=>true
 | .list ds=>Zfc ds
 | .tuple ds=>Zfc ds
 | _=>false
def Zfc:List Xa->Bool
 | []=>true
 | d :: ds=>Yq d&&Zfc ds
end
mutual
theorem Zi9:∀(d e:Xa),Yq d=true->Yq e=true->(QL d e=true↔d=e)
 | .none,e,_,he=>by cases e<;>simp_all [QL,Yq]
 | .int i,e,_,he=>by cases e<;>simp_all [QL,Yq]
 | .str i,e,_,he=>by cases e<;>simp_all [QL,Yq]
 | .list ds,e,hd,he=>by
  cases e with
  | list es=>
   rw[Yq]at hd he
   rw[QL,Bh.injEq]
   exact Zg1 ds es hd he
  | _=>simp_all [QL,Yq]
 | .tuple ds,e,hd,he=>by
  cases e with
  | tuple es=>
   rw[Yq]at hd he
   rw[QL,QF.injEq]
   exact Zg1 ds es hd he
  | _=>simp_all [QL,Yq]
 | .bool b,e,hd,_=>by simp[Yq]at hd
 | .dict b,e,hd,_=>by simp[Yq]at hd
theorem Zg1:∀(ds es:List Xa),Zfc ds=true->Zfc es=true->(PyData.eqvAll ds es=true↔ds=es)
 | [],[],_,_=>by simp[PyData.eqvAll]
 | [],_ :: _,_,_=>by simp[PyData.eqvAll]
 | _ :: _,[],_,_=>by simp[PyData.eqvAll]
 | d :: ds,e :: es,hd,he=>by
  rw[Zfc,XX]at hd he
  rw[PyData.eqvAll,XX,Zi9 d e hd.1 he.1,Zg1 ds es hd.2 he.2,List.cons.injEq]
end
theorem Z1j{d e:Xa}(h:Yq d=true)(k:Yq e=true)(q:d=e):QL d e=true:=(Zi9 d e h k).mpr q
theorem Z90{d e:Xa}(h:Yq d=true)(k:Yq e=true)(q:d≠e):QL d e=false:=Bool.eq_false_iff.mpr λz=>q ((Zi9 d e h k).mp z)
def fr(a b:Int):Xa:=.tuple [.int a,.int b]
theorem Zic(a b:Int):Yq (fr a b)=true:=rfl
theorem Z9m{a b c d:Int}:fr a b=fr c d↔a=c/\b=d:=by
 unfold fr
 simp
theorem Zf8{t b:Int}(hb:b≠0):0<(Q3 t b:Int):=by
 have:=Int.gcd_pos_of_ne_zero_right t hb
 omega
theorem J3{t g:Int}(hg:0<g):t.fdiv g=t/g:=U9 t (by omega)
theorem Zd2{t g:Int}(hg:0<g)(h:g∣t):t.fdiv (-g)= -(t/g):=by
 obtain⟨k,rfl⟩:=h
 rw[Int.mul_ediv_cancel_left _ (by omega)]
 have e:g*k=(-k)*(-g):=by rw[Int.neg_mul_neg,Int.mul_comm]
 rw[e,Int.mul_fdiv_cancel _ (by omega)]
def shr(t b:Int):Int:=if b<0 then -(Q3 t b:Int)else(Q3 t b:Int)
theorem Z59{t b:Int}(hb:b≠0):t.fdiv (shr t b)=(X4 t b).num:=by
 have hg:=Zf8 (t:=t) hb
 have hd:(Q3 t b:Int)∣t:=Int.gcd_dvd_left ..
 rw[Rat.num_divInt,Int.gcd_comm b t]
 unfold shr
 by_cases h:b<0
 .rw[if_pos h,Zd2 hg hd,Int.sign_eq_neg_one_of_neg h,Int.neg_one_mul,Int.neg_ediv_of_dvd hd]
 .rw[if_neg h,J3 hg,Int.sign_eq_one_of_pos (by omega),Int.one_mul]
theorem Z5c{t b:Int}(hb:b≠0):b.fdiv (shr t b)=((X4 t b).den:Int):=by
 have hg:=Zf8 (t:=t) hb
 have hd:(Q3 t b:Int)∣b:=Int.gcd_dvd_right ..
 rw[Rat.den_divInt,if_neg hb,Int.gcd_comm b t]
 unfold shr
 by_cases h:b<0
 .have e:(b.natAbs:Int)= -b:=by omega
  rw[if_pos h,Zd2 hg hd,Int.natCast_ediv,e,Int.neg_ediv_of_dvd hd]
 .have e:(b.natAbs:Int)=b:=by omega
  rw[if_neg h,J3 hg,Int.natCast_ediv,e]
theorem Z0e{t b:Int}(hb:b≠0):shr t b≠0:=by
 have hg:=Zf8 (t:=t) hb
 unfold shr
 split<;>omega
theorem Z17{n:Nat}{t b:Int}(hb:b≠0)(h:Bt n b):Bt n (shr t b):=by
 have h1:Bt n (Q3 t b:Int):=by
  refine Bt.of_le h ?_
  have:=Int.gcd_le_natAbs_right t hb
  omega
 unfold shr
 split
 .exact h1.neg
 .exact h1
theorem Z60{n:Nat}{t b:Int}(hb:b≠0)(h:Bt n t):Bt n (X4 t b).num:=by
 rw[Rat.num_divInt]
 refine Bt.of_le h ?_
 refine Qa (Int.natAbs_ediv_le_natAbs _ _) ?_
 rw[Int.natAbs_mul]
 have:b.sign.natAbs<=1:=by
  rw[Int.natAbs_sign]
  split<;>omega
 calc b.sign.natAbs*t.natAbs<=1*t.natAbs:=Nat.mul_le_mul_right _ this
  _=t.natAbs:=Nat.one_mul _
theorem Z9p{n:Nat}{t b:Int}(hb:b≠0)(h:Bt n b):Bt n ((X4 t b).den:Int):=by
 rw[Rat.den_divInt,if_neg hb]
 refine Bt.of_le h ?_
 show((b.natAbs/b.gcd t:Nat):Int).natAbs<=_
 rw[V9]
 exact Nat.div_le_self _ _
theorem Zwt(q:Rat):(q.den:Int)≠0:=by
 have:=q.den_pos
 omega
theorem Zbo(q:Rat):(0:Int)<(q.den:Int):=by
 have:=q.den_pos
 omega
theorem Zzz(q r:Rat):X4 (q.num*(r.den:Int)+r.num*(q.den:Int)) ((q.den:Int)*(r.den:Int))=q+r:=by
 rw[Rat.add_def',<-Int.natCast_mul,Rat.divInt_ofNat]
def frD(q:Rat):Xa:=fr q.num (q.den:Int)
theorem Zw7{q r:Rat}:frD q=frD r↔q=r:=by
 unfold frD
 rw[Z9m]
 constructor
 .rintro⟨h1,h2⟩
  exact Rat.ext h1 (by omega)
 .rintro rfl
  exact⟨rfl,rfl⟩
theorem Yap(q r:Rat):QL (frD q) (frD r)=decide (q=r):=by
 by_cases h:q=r
 .rw[decide_eq_true h]
  exact Z1j (Zic _ _) (Zic _ _) (Zw7.mpr h)
 .rw[decide_eq_false h]
  exact Z90 (Zic _ _) (Zic _ _) λz=>h (Zw7.mp z)
def BQ(n:Nat)(q:Rat):Prop:=Bt n q.num/\Bt n (q.den:Int)
theorem BQ.zero:BQ 1 0:=⟨by unfold Bt;decide,by unfold Bt;decide⟩
section
variable {a b o:Expr}{pos:Pos}
theorem Zzm(hK:X.K=K):IxR X (Yd3 K):=hK▸Zv0
theorem Zqf(hK:X.K=K):IxR X (rIx K):=hK▸Yav
theorem Zyg(hK:X.K=K):SlR X (Yhm K):=hK▸Z23
def Yjm(K:Xb):List V->Hp->VK->Prop:=λxs H Q=>∃p ys,xs=[.ref p]/\(SqL K H p ys\/SqT K H p ys)/\Q (.int ys.length) H
theorem Ziy(hK:X.K=K):Zb3 X (.builtin "len") (Yjm K):=by subst hK;exact Zof
def Ztl(K:Xb):List V->Hp->VK->Prop:=λxs H Q=>∃p ys,xs=[.ref p]/\(SqL K H p ys\/SqT K H p ys)/\∀l,H l=none->Q (.ref l) (upd H l (.lst ys))
theorem Zhf(hK:X.K=K):Zb3 X (.type "list") (Ztl K):=by subst hK;exact Zoo
def Z1s(K:Xb):List V->Hp->VK->Prop:=λxs H Q=>∃p ys,xs=[.ref p]/\((SqL K H p ys/\∀l,H l=none->Q (.ref l) (upd H l (.tup ys)))\/(SqT K H p ys/\Q (.ref p) H))
theorem Zjm(hK:X.K=K):Zb3 X (.type "tuple") (Z1s K):=by subst hK;exact Zlf
def Yki(K:Xb)(ta:TE):TT:=λσ H Q=>ta σ H λx H'=>∃k,Ygk K x H' k/\Q k H'
theorem Z3m(hK:X.K=K)(ha:PE X a ta)(he:∀whole,isTrue a X.env whole=(do let v<-whole;standAt a.pos;holding [v] (truthy v))):PT X a (Yki K ta):=by subst hK;exact Zxv ha he
theorem Zxx{l:Expr}(hK:X.K=K)(hl:PE X l tl):PI X tg l (Z9z K tl):=by subst hK;exact Z57 hl
theorem Zuh(hK:X.K=K):OpR X (QS .In) (rIn K false):=by subst hK;exact Zs4
end
theorem Ye{p:Addr}(h:H p=none)(o:HO):Same H (upd H p o):=λb u q=>by rw[Zt (Y7 q h)];exact q
def But(p:Addr)(H H':Hp):Prop:=∀b o,b≠p->H b=some o->H' b=some o
theorem But.upd(p:Addr)(H:Hp)(o:HO):But p H (upd H p o):=λb u n e=>by rw[Zt n];exact e
def Pl(H:Hp)(p:Addr)(n:Nat):Prop:=∃a b c:Int,H p=some (.lst [.int a,.int b,.int c])/\0<=c/\c<=n
theorem Pl.at{H:Hp}{p:Addr}{n:Nat}(h:Pl H p n):∃xs,H p=some (.lst xs):=by
 obtain⟨a,b,c,e,h1,h2⟩:=h
 exact⟨_,e⟩
namespace B
theorem boot_abs:Qp "abs"=some (.builtin "abs"):=by decide +kernel
theorem boot_len:Qp "len"=some (.builtin "len"):=by decide +kernel
theorem boot_isinstance:Qp "isinstance"=some (.builtin "isinstance"):=by decide +kernel
theorem boot_sum:Qp "sum"=some (.builtin "sum"):=by decide +kernel
theorem boot_sorted:Qp "sorted"=some (.builtin "sorted"):=by decide +kernel
theorem boot_int:Qp "int"=some (.type "int"):=by decide +kernel
theorem boot_bool:Qp "bool"=some (.type "bool"):=by decide +kernel
theorem boot_str:Qp "str"=some (.type "str"):=by decide +kernel
theorem boot_list:Qp "list"=some (.type "list"):=by decide +kernel
theorem boot_tuple:Qp "tuple"=some (.type "tuple"):=by decide +kernel
theorem boot_range:Qp "range"=some (.type "range"):=by decide +kernel
theorem boot_zip:Qp "zip"=some (.type "zip"):=by decide +kernel
end B
theorem Zfs{a b:Int}(hb:0<b):a.fmod b=a%b:=Int.fmod_eq_emod_of_nonneg a (by omega)
theorem Zz7{x y:Int}(hx:0<=x)(hy:0<y):Q3 y (x.fmod y)=Q3 x y:=by
 rw[Zfs hy,Int.gcd_comm x y]
 have e:=Int.emod_add_mul_ediv x y
 conv=>rhs;rw[<-e]
 rw[Int.gcd_add_mul_left_right]
theorem Yan:(2:Nat)<=Xk:=by decide
theorem Zx3(q:Rat):X4 q.num (q.den:Int)=q:=Rat.num_divInt_den q
theorem BQ.n{n:Nat}{q:Rat}(h:BQ n q):Bt n q.num:=h.1
theorem BQ.d{n:Nat}{q:Rat}(h:BQ n q):Bt n (q.den:Int):=h.2
theorem Ykt(q:Rat):(((q.den:Int)):Rat)≠0:=by
 intro z
 exact Zwt q (Rat.intCast_eq_zero_iff.mp z)
theorem Yk9(q:Rat):((q.num:Int):Rat)=q*(((q.den:Int)):Rat):=by
 have h:=Zx3 q
 rw[Vu]at h
 have d:=Ykt q
 conv=>rhs;lhs;rw[<-h]
 grind
variable {L L':Addr->Prop}{env:Env}{elt:Expr}{b:Int}{J:It}{ifs:List Expr}{ns:List Int}{caps:List Nat}{own N':List Str}{vs:List Xe}{spos:Pos}{q:Rat}{R:Result->Xg->Prop}{G:Xb}
def KS(G:Xb)(a:Addr)(ns:List Int):Prop:=∃(o:Obj) (its:Array Xe) (n:Nat),G.lookup a=some o/\o.cls= .type "list"/\o.dict=none/\o.data= .seq its n/\its.size<=Xk/\Vals (ns.map V.int) its.toList
theorem KS.sq(h:KS G a ns):SqL G H a (ns.map V.int):=.inr h
def exD(x:Str):Xa:=.dict [(.str x,.none)]
def fnD(x:Str):Xa:=.dict [(.str x,.bool true)]
def Zir:Xa->Bool| .dict ((_,.bool _) :: _)=>true|_=>false
def ClsAt(G:Xb)(x:Str)(C:Addr):Prop:=Qx G Qd x=some (some (.ref C))
structure Zhc(G:Xb)(C:Addr):Prop where
 ga:Va G (.ref C) "__getattribute__"=some (some (.builtin "BaseException.__getattribute__"))
 gt:Va G (.ref C) "__getattr__"=some none
 cl:Va G (.ref C) "__class__"=some (some (.builtin "object.__class__"))
 isB:PySem.W.subIn G (.ref C) (.type "BaseException")=some true
 isO:PySem.W.subIn G (.ref C) (.type "object")=some true
 isC:(PySem.W.clsIn G C).isSome=true
 k1:BZ G (.ref C) (.type "int")=some false
 k2:BZ G (.ref C) (.type "bool")=some false
 k3:BZ G (.ref C) (.type "str")=some false
 k4:BZ G (.ref C) (.type "list")=some false
 k5:BZ G (.ref C) (.type "tuple")=some false
def ExO(C a:Addr)(h:Heap):Prop:=∃o vs,h.get? a=some o/\o.cls= .ref C/\o.data= .fields vs
inductive ImO where
 | tup (xs:List V)
 | ext (φ:Heap->Prop)
def ImO.ho:ImO->HO
 | .tup xs=>.tup xs
 | .ext φ=>.ext φ
inductive MuO where
 | lst (xs:List V)
 | dK (kvs:List (Key×V))
 | dT (kvs:List (List Key×V))
def MuO.ho:MuO->HO
 | .lst xs=>.lst xs
 | .dK kvs=>.dK kvs
 | .dT kvs=>.dT kvs
def Z3x:Key->Xa
 | .inl i=>.int i
 | .inr x=>.str x
def keyT(ks:List Key):Xa:=.tuple (ks.map Z3x)
abbrev KY:=Sum Key (List Key)
def kyD:KY->Xa
 | .inl k=>Z3x k
 | .inr ks=>keyT ks
def MuO.dic(t:Bool)(ks:List KY)(xs:List V):MuO->Prop
 | .lst _=>False
 | .dK kvs=>t=false/\ks=kvs.map (λp=>.inl p.1)/\xs=kvs.map (·.2)
 | .dT kvs=>t=true/\ks=kvs.map (λp=>.inr p.1)/\xs=kvs.map (·.2)
def dcD(t:Bool)(ks:List KY)(ds:List Xa):Xa:=.dict ((.none,.bool t) :: (ks.map kyD).zip ds)
theorem ImO.nm{H:Hp}{a:Addr}{x:ImO}{y:MuO}(h:H a=some x.ho)(h':H a=some y.ho):False:=by
 rw[h]at h'
 cases x<;>cases y<;>cases h'
theorem ImO.nl{x:ImO}(h:H a=some x.ho)(h':H a=some (.lst ys)):False:=by
 rw[h]at h'
 cases x<;>cases h'
mutual
inductive Da(G:Xb)(H:Hp)(L:Addr->Prop):V->Xa->Prop where
 | non:Da G H L .non .none
 | bl (b:Bool):Da G H L (.bl b) (.bool b)
 | int (i:Int):Da G H L (.int i) (.int i)
 | str (x:Str):Da G H L (.str x) (.str x)
 | lst {a:Addr} {xs:List V} {ds:List Xa}:L a->Rd H a (.lst xs)->Das G H L xs ds->Da G H L (.ref a) (.list ds)
 | tup {a:Addr} {xs:List V} {ds:List Xa}:H a=some (.tup xs)->Das G H L xs ds->Da G H L (.ref a) (.tuple ds)
 | scr {a:Addr} {ns:List Int}:KS G a ns->Da G H L (.ref a) (.list (ns.map Xl))
 | exc {a C:Addr} {x:Str}:Zhc G C->ClsAt G x C->H a=some (.ext (ExO C a))->Da G H L (.ref a) (exD x)
 | fn {a:Addr} {x:Str}:ClsAt G x a->Da G H L (.ref a) (fnD x)
 | dic {a:Addr} {o:MuO} {t:Bool} {ks:List KY} {xs:List V} {ds:List Xa}:L a->Rd H a o.ho->o.dic t ks xs->Das G H L xs ds->Da G H L (.ref a) (dcD t ks ds)
inductive Das(G:Xb)(H:Hp)(L:Addr->Prop):List V->List Xa->Prop where
 | nil:Das G H L [] []
 | cons {x:V} {xs:List V} {d:Xa} {ds:List Xa}:Da G H L x d->Das G H L xs ds->Das G H L (x :: xs) (d :: ds)
end
theorem Da.both{P:V->Xa->Prop}{Q:List V->List Xa->Prop}(c1:P .non .none)(c2:∀b,P (.bl b) (.bool b))(c3:∀i,P (.int i) (.int i))(c4:∀x,P (.str x) (.str x))
  (c5:∀{a:Addr} {xs:List V} {ds:List Xa},L a->Rd H a (.lst xs)->Q xs ds->P (.ref a) (.list ds)) (c6:∀{a:Addr} {xs:List V} {ds:List Xa},H a=some (.tup xs)->Q xs ds->P (.ref a) (.tuple ds))
  (c7:∀{a:Addr} {ns:List Int},KS G a ns->P (.ref a) (.list (ns.map Xl))) (c8:∀{a C:Addr} {x:Str},Zhc G C->ClsAt G x C->H a=some (.ext (ExO C a))->P (.ref a) (exD x)) (c9:∀{a:Addr} {x:Str},ClsAt G x a->P (.ref a) (fnD x))
  (c10:∀{a:Addr} {o:MuO} {t:Bool} {ks:List KY} {xs:List V} {ds:List Xa},L a->Rd H a o.ho->o.dic t ks xs->Q xs ds->P (.ref a) (dcD t ks ds)) (n:Q [] []) (c:∀{x:V} {xs:List V} {d:Xa} {ds:List Xa},P x d->Q xs ds->Q (x :: xs) (d :: ds)):(∀{v d},Da G H L v d->P v d)/\∀{xs ds},Das G H L xs ds->Q xs ds :=
 ⟨λh=>Da.rec (motive_1:=λv d _=>P v d) (motive_2:=λxs ds _=>Q xs ds) c1 c2 c3 c4 (λp e _ r=>c5 p e r) (λe _ r=>c6 e r) (λk=>c7 k) (λk l m=>c8 k l m) (λk=>c9 k) (λp e k _ r=>c10 p e k r) n (λ_ _ p q=>c p q) h,
   λh=>Das.rec (motive_1:=λv d _=>P v d) (motive_2:=λxs ds _=>Q xs ds) c1 c2 c3 c4 (λp e _ r=>c5 p e r) (λe _ r=>c6 e r) (λk=>c7 k) (λk l m=>c8 k l m) (λk=>c9 k) (λp e k _ r=>c10 p e k r) n (λ_ _ p q=>c p q) h⟩
theorem Das.ind{Q:List V->List Xa->Prop}(n:Q [] [])(c:∀{x:V} {xs:List V} {d:Xa} {ds:List Xa},Da G H L x d->Das G H L xs ds->Q xs ds->Q (x :: xs) (d :: ds)):∀{xs ds},Das G H L xs ds->Q xs ds:=λh=>
 Das.rec (motive_1:=λ_ _ _=>True) (motive_2:=λxs ds _=>Q xs ds) trivial (λ_=>trivial) (λ_=>trivial) (λ_=>trivial) (λ_ _ _ _=>trivial) (λ_ _ _=>trivial) (λ_=>trivial) (λ_ _ _=>trivial) (λ_=>trivial) (λ_ _ _ _ _=>trivial) n (λp q _ r=>c p q r) h
theorem Da.frame2(hl:∀a (xs:MuO),L a->Rd H a xs.ho->L' a/\Rd H' a xs.ho)(ht:∀a (xs:ImO),H a=some xs.ho->H' a=some xs.ho):(∀{v:V} {d:Xa},Da G H L v d->Da G H' L' v d)/\∀{xs:List V} {ds:List Xa},Das G H L xs ds->Das G H' L' xs ds :=
 Da.both .non .bl .int .str (fun{_ xs _} p e r=>.lst (hl _ (.lst xs) p e).1 (hl _ (.lst xs) p e).2 r) (fun{_ xs _} e r=>.tup (ht _ (.tup xs) e) r) .scr (λc n e=>.exc c n (ht _ (.ext _) e)) .fn (λp e k r=>.dic (hl _ _ p e).1 (hl _ _ p e).2 k r) .nil .cons
theorem Da.frame(hl:∀a (xs:MuO),L a->Rd H a xs.ho->L' a/\Rd H' a xs.ho)(ht:∀a (xs:ImO),H a=some xs.ho->H' a=some xs.ho){v:V}{d:Xa}(h:Da G H L v d):Da G H' L' v d:=(Da.frame2 hl ht).1 h
theorem Das.frame(hl:∀a (xs:MuO),L a->Rd H a xs.ho->L' a/\Rd H' a xs.ho)(ht:∀a (xs:ImO),H a=some xs.ho->H' a=some xs.ho){xs:List V}{ds:List Xa}(h:Das G H L xs ds):Das G H' L' xs ds:=(Da.frame2 hl ht).2 h
theorem Rd.same{u:HO}(s:Same H H')(h:Rd H a u):Rd H' a u:=h.imp (s _ _) λ⟨o,h⟩=>⟨o,s _ _ h⟩
theorem Rd.some{a:Addr}{u:HO}(h:Rd H a u):H a≠Option.none:=by
 rcases h with h|⟨o,h⟩<;>rw[h]<;>intro z<;>cases z
theorem Da.same(h:Same H H'){d:Xa}(x:Da G H L v d):Da G H' L v d:=x.frame (λa xs p e=>⟨p,e.same h⟩) λa xs e=>h _ _ e
theorem Das.same(h:Same H H'){v:List V}{d:List Xa}(x:Das G H L v d):Das G H' L v d:=x.frame (λa xs p e=>⟨p,e.same h⟩) λa xs e=>h _ _ e
theorem Da.wide(h:∀a,L a->H a≠none->L' a){d:Xa}(x:Da G H L v d):Da G H L' v d:=x.frame (λa xs p e=>⟨h a p e.some,e⟩) λa xs e=>e
theorem Das.wide(h:∀a,L a->H a≠none->L' a){v:List V}{d:List Xa}(x:Das G H L v d):Das G H L' v d:=x.frame (λa xs p e=>⟨h a p e.some,e⟩) λa xs e=>e
theorem Das.length{ds:List Xa}(h:Das G H L xs ds):xs.length=ds.length:=Das.ind (Q:=λxs ds=>xs.length=ds.length) rfl (λ_ _ r=>congrArg (·+1) r) h
theorem Das.append{ds es:List Xa}(h:Das G H L xs ds)(k:Das G H L ys es):Das G H L (xs ++ ys) (ds ++ es):=Das.ind (Q:=λxs ds=>Das G H L (xs ++ ys) (ds ++ es)) k (λh _ r=>.cons h r) h
theorem Das.snoc{ds:List Xa}{x:V}{d:Xa}(h:Das G H L xs ds)(k:Da G H L x d):Das G H L (xs ++ [x]) (ds ++ [d]):=h.append (.cons k .nil)
theorem Das.get{ds:List Xa}{d:Xa}(h:Das G H L xs ds):ds[i]? =some d->∃x,xs[i]? =some x/\Da G H L x d :=
 Das.ind (Q:=λxs ds=>∀i,ds[i]? =some d->∃x,xs[i]? =some x/\Da G H L x d) (λ_ e=>(Option.some_ne_none _ (e.symm.trans List.getElem?_nil)).elim) (fun{x _ _ _} h _ r i=>Nat.casesOn i (λe=>⟨x,rfl,Qu e▸h⟩) λi e=>r i e) h i
theorem Das.get'{ds:List Xa}{x:V}(h:Das G H L xs ds):xs[i]? =some x->∃d,ds[i]? =some d/\Da G H L x d :=
 Das.ind (Q:=λxs ds=>∀i,xs[i]? =some x->∃d,ds[i]? =some d/\Da G H L x d) (λ_ e=>(Option.some_ne_none _ (e.symm.trans List.getElem?_nil)).elim) (fun{_ _ d _} h _ r i=>Nat.casesOn i (λe=>⟨d,rfl,Qu e▸h⟩) λi e=>r i e) h i
theorem Das.take{ds:List Xa}(n:Nat)(h:Das G H L xs ds):Das G H L (xs.take n) (ds.take n) :=
 Das.ind (Q:=λxs ds=>∀n,Das G H L (xs.take n) (ds.take n)) (λn=>by rw[List.take_nil,List.take_nil];exact .nil) (λh _ r n=>Nat.casesOn n .nil λn=>.cons h (r n)) h n
theorem Das.drop{xs:List V}{ds:List Xa}(n:Nat)(h:Das G H L xs ds):Das G H L (xs.drop n) (ds.drop n) :=
 Das.ind (Q:=λxs ds=>∀n,Das G H L (xs.drop n) (ds.drop n)) (λn=>by rw[List.drop_nil,List.drop_nil];exact .nil) (λh q r n=>Nat.casesOn n (.cons h q) λn=>r n) h n
theorem Das.ints(ns:List Int):Das G H L (ns.map V.int) (ns.map Xl):=by
 induction ns with
 | nil=>exact .nil
 | cons n ns ih=>exact .cons (.int n) ih
theorem Das.int_inv(h:Das G H L xs (ns.map Xl)):xs=ns.map V.int:=by
 induction ns generalizing xs with
 | nil=>cases h;rfl
 | cons n ns ih=>
  rw[Xv]at h
  cases h with
  | cons h r=>cases h;rw[ih r];rfl
theorem Zst(ns:List Int)(v:Vals (ns.map V.int) us):∃as,ReadsAll h us (ns.map Xl) as:=by
 induction ns generalizing us with
 | nil=>cases v;exact⟨_,.nil⟩
 | cons n ns ih=>
  rw[Xv]at v
  cases v with
  | cons r rs=>
   obtain⟨t,e⟩:=(show∃t,_=UJ n t from r)
   subst e
   obtain⟨bs,k'⟩:=ih rs
   exact⟨_,.cons (.int n t) k'⟩
section
variable {σ:St}
theorem Da.reads2(hG:X.K=G)(I:Inv X pins σ H s):(∀{v:V} {d:Xa},Da G H L v d->∀u,RelV v u->d.canLay0=true->∃as,Reads s.heap u d as)/\∀{xs:List V} {ds:List Xa},Das G H L xs ds->∀us,Vals xs us->JN ds=true->∃as,ReadsAll s.heap us ds as:=by
 refine Da.both ?_ ?_ ?_ ?_ ?_ ?_ ?_ ?_ ?_ ?_ ?_ ?_
 .intro u r _
  cases(show _=QH from r)
  exact⟨_,.none⟩
 .intro b u r _
  cases(show _=Value.bool b from r)
  exact⟨_,.bool b⟩
 .intro i u r _
  obtain⟨t,e⟩:=(show∃t,_=UJ i t from r)
  subst e
  exact⟨_,.int i t⟩
 .intro x u r _
  obtain⟨t,e⟩:=(show∃t,_=Value.str x t from r)
  subst e
  exact⟨_,.str x t⟩
 .intro a xs ds _ e q u r hcl
  cases(show _=Qo a from r)
  obtain⟨_,its,n,vs,h1⟩:=(show ObjOk X.prog X.w H s.heap a (.lst xs)from e.ok I.hok)
  rw[Bj]at hcl
  obtain⟨as,k⟩:=q _ vs hcl
  exact⟨_,Reads.list h1 rfl rfl k⟩
 .intro a xs ds e q u r hcl
  cases(show _=Qo a from r)
  obtain⟨_,its,vs,o,ho,hc,n,hd⟩:=(show ObjOk X.prog X.w H s.heap a (.tup xs)from I.hok a _ e)
  rw[Bj]at hcl
  obtain⟨as,k⟩:=q _ vs hcl
  exact⟨_,Reads.tuple ho hc hd k⟩
 .intro a ns k u r _
  cases(show _=Qo a from r)
  subst hG
  obtain⟨its,vs,⟨o,n,ho,hc,hd,hs⟩,_⟩:=I.list (k.sq (H:=H))
  obtain⟨as,q⟩:=Zst ns vs
  exact⟨_,Reads.list ho hc hs q⟩
 .intro a C x _ _ e u r hc
  rw[exD,Bj]at hc
  cases hc
 .intro a x _ u r hc
  rw[fnD,Bj]at hc
  cases hc
 .intro a o t ks xs ds _ _ _ _ u r hc
  rw[dcD,Bj]at hc
  cases hc
 .intro us v _
  cases v
  exact⟨_,.nil⟩
 .intro x xs d ds h q us v hc
  cases v with
  | cons r rs=>
   rw[JN,XX]at hc
   obtain⟨as,k⟩:=h _ r hc.1
   obtain⟨bs,k'⟩:=q _ rs hc.2
   exact⟨_,.cons k k'⟩
theorem Da.reads(hG:X.K=G)(I:Inv X pins σ H s){d:Xa}(h:Da G H L v d)(r:RelV v u)(c:d.canLay0=true):∃as,Reads s.heap u d as:=(Da.reads2 hG I).1 h u r c
theorem Das.reads(hG:X.K=G)(I:Inv X pins σ H s){ds:List Xa}(h:Das G H L xs ds)(r:Vals xs us)(c:JN ds=true):∃as,ReadsAll s.heap us ds as:=(Da.reads2 hG I).2 h us r c
end
inductive OT where
 | fz (d:Xa)
 | nd (ts:List OT)
 | tp (ts:List OT)
 | dc (t:Bool) (ks:List KY) (ds:List Xa)
mutual
def OT.data:OT->Xa
 | .fz d=>d
 | .nd ts=>.list (OT.datas ts)
 | .tp ts=>.tuple (OT.datas ts)
 | .dc t ks ds=>dcD t ks ds
def OT.datas:List OT->List Xa
 | []=>[]
 | t :: ts=>t.data :: OT.datas ts
end
theorem OT.datas_map:∀(ts:List OT),OT.datas ts=ts.map OT.data
 | []=>rfl
 | t :: ts=>by rw[OT.datas,OT.datas_map ts];rfl
@[simp] theorem OT.data_fz(d:Xa):(OT.fz d).data=d:=by rw[OT.data]
@[simp] theorem OT.data_nd(ts:List OT):(OT.nd ts).data= .list (ts.map OT.data):=by rw[OT.data,OT.datas_map]
@[simp] theorem OT.data_tp(ts:List OT):(OT.tp ts).data= .tuple (ts.map OT.data):=by rw[OT.data,OT.datas_map]
theorem OT.data_dc(t:Bool)(ks:List KY)(ds:List Xa):(OT.dc t ks ds).data=dcD t ks ds:=by rw[OT.data]
@[simp] theorem OT.map_fz(ds:List Xa):(ds.map OT.fz).map OT.data=ds:=by
 rw[Xr]
 exact(XN λd _=>OT.data_fz d).trans (List.map_id _)
mutual
inductive Own(G:Xb)(H:Hp)(L:Addr->Prop):V->OT->List Addr->Prop where
 | fz {v:V} {d:Xa}:Da G H L v d->Own G H L v (.fz d) []
 | nd {a:Addr} {xs:List V} {ts:List OT} {bs:List Addr}:H a=some (.lst xs)->Owns G H L xs ts bs->Own G H L (.ref a) (.nd ts) (a :: bs)
 | tp {a:Addr} {xs:List V} {ts:List OT} {bs:List Addr}:H a=some (.tup xs)->Owns G H L xs ts bs->Own G H L (.ref a) (.tp ts) bs
 | dc {a:Addr} {o:MuO} {t:Bool} {ks:List KY} {xs:List V} {ds:List Xa}:H a=some o.ho->o.dic t ks xs->Das G H L xs ds->Own G H L (.ref a) (.dc t ks ds) [a]
inductive Owns(G:Xb)(H:Hp)(L:Addr->Prop):List V->List OT->List Addr->Prop where
 | nil:Owns G H L [] [] []
 | cons {x:V} {xs:List V} {t:OT} {ts:List OT} {as bs:List Addr}:Own G H L x t as->Owns G H L xs ts bs->Owns G H L (x :: xs) (t :: ts) (as ++ bs)
end
theorem Own.both{P:V->OT->List Addr->Prop}{Q:List V->List OT->List Addr->Prop}(c1:∀{v:V} {d:Xa},Da G H L v d->P v (.fz d) [])(c2:∀{a:Addr} {xs:List V} {ts:List OT} {bs:List Addr},H a=some (.lst xs)->Q xs ts bs->P (.ref a) (.nd ts) (a :: bs))
  (c3:∀{a:Addr} {xs:List V} {ts:List OT} {bs:List Addr},H a=some (.tup xs)->Q xs ts bs->P (.ref a) (.tp ts) bs) (c4:∀{a:Addr} {o:MuO} {t:Bool} {ks:List KY} {xs:List V} {ds:List Xa},H a=some o.ho->o.dic t ks xs->Das G H L xs ds->P (.ref a) (.dc t ks ds) [a]) (n:Q [] [] []) (c:∀{x:V} {xs:List V} {t:OT} {ts:List OT} {as bs:List Addr},P x t as->Q xs ts bs->Q (x :: xs) (t :: ts) (as ++ bs)) :
  (∀ {v t as},Own G H L v t as->P v t as)/\∀{xs ts as},Owns G H L xs ts as->Q xs ts as :=
 ⟨λh=>Own.rec (motive_1:=λv t as _=>P v t as) (motive_2:=λxs ts as _=>Q xs ts as) c1 (λe _ r=>c2 e r) (λe _ r=>c3 e r) (λe k r=>c4 e k r) n (λ_ _ p q=>c p q) h,
   λh=>Owns.rec (motive_1:=λv t as _=>P v t as) (motive_2:=λxs ts as _=>Q xs ts as) c1 (λe _ r=>c2 e r) (λe _ r=>c3 e r) (λe k r=>c4 e k r) n (λ_ _ p q=>c p q) h⟩
theorem Own.frame2(hl:∀a (xs:MuO),L a->Rd H a xs.ho->L' a/\Rd H' a xs.ho)(ht:∀a (xs:ImO),H a=some xs.ho->H' a=some xs.ho) :
  (∀ {v:V} {t:OT} {as:List Addr},Own G H L v t as->(∀a∈as,∀xs:MuO,H a=some xs.ho->H' a=some xs.ho)->Own G H' L' v t as)/\∀{xs:List V} {ts:List OT} {as:List Addr},Owns G H L xs ts as->(∀a∈as,∀xs:MuO,H a=some xs.ho->H' a=some xs.ho)->Owns G H' L' xs ts as :=
 Own.both (λh _=>.fz (h.frame hl ht)) (fun{_ xs _ _} e r ha=>.nd (ha _ (.head _) (.lst xs) e) (r λa m=>ha a (.tail _ m))) (fun{_ xs _ _} e r ha=>.tp (ht _ (.tup xs) e) (r ha)) (λe k r ha=>.dc (ha _ (.head _) _ e) k (r.frame hl ht)) (λ_=>.nil) (λh r ha=>.cons (h λa m=>ha a (VB _ m)) (r λa m=>ha a (Qi _ m)))
theorem Own.frame(hl:∀a (xs:MuO),L a->Rd H a xs.ho->L' a/\Rd H' a xs.ho)(ht:∀a (xs:ImO),H a=some xs.ho->H' a=some xs.ho){v:V}{t:OT}{as:List Addr}(ha:∀a∈as,∀xs:MuO,H a=some xs.ho->H' a=some xs.ho)(h:Own G H L v t as):Own G H' L' v t as:=(Own.frame2 hl ht).1 h ha
theorem Owns.frame(hl:∀a (xs:MuO),L a->Rd H a xs.ho->L' a/\Rd H' a xs.ho)(ht:∀a (xs:ImO),H a=some xs.ho->H' a=some xs.ho){xs:List V}{ts:List OT}{as:List Addr}(ha:∀a∈as,∀xs:MuO,H a=some xs.ho->H' a=some xs.ho)(h:Owns G H L xs ts as):Owns G H' L' xs ts as:=(Own.frame2 hl ht).2 h ha
theorem Own.same(h:Same H H'){t:OT}{as:List Addr}(x:Own G H L v t as):Own G H' L v t as:=x.frame (λa xs p e=>⟨p,e.same h⟩) (λa xs e=>h _ _ e) λa _ xs e=>h _ _ e
theorem Own.wide(h:∀a,L a->H a≠none->L' a){t:OT}{as:List Addr}(x:Own G H L v t as):Own G H L' v t as:=x.frame (λa xs p e=>⟨h a p e.some,e⟩) (λa xs e=>e) λa _ xs e=>e
theorem Owns.wide(h:∀a,L a->H a≠none->L' a){v:List V}{t:List OT}{as:List Addr}(x:Owns G H L v t as):Owns G H L' v t as:=x.frame (λa xs p e=>⟨h a p e.some,e⟩) (λa xs e=>e) λa _ xs e=>e
theorem Owns.same(h:Same H H'){v:List V}{t:List OT}{as:List Addr}(x:Owns G H L v t as):Owns G H' L v t as:=x.frame (λa xs p e=>⟨p,e.same h⟩) (λa xs e=>h _ _ e) λa _ xs e=>h _ _ e
theorem Own.da2(h:∀a,L a->H a≠none->L' a):(∀{v:V} {t:OT} {as:List Addr},Own G H L v t as->(∀a∈as,L' a)->Da G H L' v t.data)/\∀{v:List V} {t:List OT} {as:List Addr},Owns G H L v t as->(∀a∈as,L' a)->Das G H L' v (OT.datas t) :=
 Own.both (λk _=>by rw[OT.data_fz];exact k.wide h) (λe r ha=>by rw[OT.data];exact .lst (ha _ (.head _)) (.inl e) (r λa m=>ha a (.tail _ m))) (λe r ha=>by rw[OT.data];exact .tup e (r ha)) (λe k r ha=>by rw[OT.data];exact .dic (ha _ (.head _)) (.inl e) k (r.wide h)) (λ_=>.nil) (λk r ha=>.cons (k λa m=>ha a (VB _ m)) (r λa m=>ha a (Qi _ m)))
theorem Own.da(h:∀a,L a->H a≠none->L' a){t:OT}{as:List Addr}(ha:∀a∈as,L' a)(k:Own G H L v t as):Da G H L' v t.data:=(Own.da2 h).1 k ha
theorem Owns.das(h:∀a,L a->H a≠none->L' a){v:List V}{t:List OT}{as:List Addr}(ha:∀a∈as,L' a)(k:Owns G H L v t as):Das G H L' v (OT.datas t):=(Own.da2 h).2 k ha
theorem Own.some2:(∀{v:V} {t:OT} {as:List Addr},Own G H L v t as->∀a∈as,∃xs:MuO,H a=some xs.ho)/\∀{v:List V} {t:List OT} {as:List Addr},Owns G H L v t as->∀a∈as,∃xs:MuO,H a=some xs.ho :=
 Own.both (λ_ _ m=>nomatch m) (fun{_ xs _ _} e r a m=>(Xo.mp m).elim (λq=>⟨.lst xs,q▸e⟩) (r a)) (λ_ r=>r) (fun{_ o _ _ _ _} e _ _ a m=>⟨o,Xn.mp m▸e⟩) (λ_ m=>nomatch m) (λk r a m=>(Qq.mp m).elim (k a) (r a))
theorem Own.some{v:V}{t:OT}{as:List Addr}(h:Own G H L v t as):∀a∈as,∃xs:MuO,H a=some xs.ho:=Own.some2.1 h
theorem Owns.some{v:List V}{t:List OT}{as:List Addr}(h:Owns G H L v t as):∀a∈as,∃xs:MuO,H a=some xs.ho:=Own.some2.2 h
theorem Owns.length{ts:List OT}{as:List Addr}(h:Owns G H L xs ts as):xs.length=ts.length:=(Own.both (P:=λ_ _ _=>True) (Q:=λxs ts _=>xs.length=ts.length) (λ_=>trivial) (λ_ _=>trivial) (λ_ _=>trivial) (λ_ _ _=>trivial) rfl (λ_ r=>congrArg (·+1) r)).2 h
theorem Das.owns{ds:List Xa}(h:Das G H L xs ds):Owns G H L xs (ds.map OT.fz) []:=Das.ind (Q:=λxs ds=>Owns G H L xs (ds.map OT.fz) []) .nil (λh _ r=>.cons (.fz h) r) h
abbrev Zg:=List (Option OT)
abbrev Fp:=Nat->List Addr
set_option genInjectivity false in
structure MC(G:Xb) where
 H₀:Hp
 as₀:Addr->Prop
 L:Addr->Prop
 σ₀:St
def Foot(fp:Fp)(a:Addr):Prop:=∃i,a∈fp i
def Lf(C:MC G)(fp:Fp)(ex:Addr->Prop)(a:Addr):Prop:=¬Foot fp a/\¬ex a/\(C.L a\/C.H₀ a=none)
structure Rel(C:MC G)(io:List Nat)(H:Hp)(σ:St)(δ:Zg)(fp:Fp)(ex:Addr->Prop):Prop where
 len:σ.length=δ.length
 own:∀(i:Nat) (t:OT),δ[i]? =some (some t)->∃v,σ[i]? =some (some v)/\Own G H (Lf C fp ex) v t (fp i)
 emp:∀i:Nat,(∀t,δ[i]? ≠some (some t))->fp i=[]
 nd:∀i,(fp i).Nodup
 dj:∀i j a,a∈fp i->a∈fp j->i=j
 dx:∀i a,a∈fp i->¬ex a
 xa:∀a,ex a->H a≠none
 fr:∀b o,C.H₀ b=some o->¬C.as₀ b->H b=some o
 al:∀b,H b=none->C.H₀ b=none
 new:∀i a,a∈fp i->(i∈io/\C.as₀ a)\/C.H₀ a=none
 io:∀i∈io,σ[i]? =C.σ₀[i]?
structure Stp(p:Bool)(H:Hp)(δ:Zg)(fp:Fp)(H':Hp)(δ':Zg)(fp':Fp):Prop where
 keep:∀b o,H b=some o->(p=true\/¬Foot fp b)->H' b=some o
 env:p=true->δ'=δ/\fp'=fp
 grow:∀a,Foot fp' a->Foot fp a\/H a=none
 al:∀b,H' b=none->H b=none
section
variable {C:MC G}{io:List Nat}{H'':Hp}{σ:St}{δ δ' δ'':Zg}{fp fp' fp'':Fp}{ex ex':Addr->Prop}{p p' c:Bool}{d:Xa}{r:OT}{new:List Addr}
theorem Rel.foot(R:Rel C io H σ δ fp ex)(h:Foot fp a):∃xs:MuO,H a=some xs.ho:=by
 obtain⟨i,h⟩:=h
 by_cases q:∃t,δ[i]? =some (some t)
 .obtain⟨t,q⟩:=q
  obtain⟨v,_,o⟩:=R.own i t q
  exact o.some a h
 .rw[R.emp i (λt z=>q ⟨t,z⟩)]at h
  exact nomatch h
theorem Rel.footSome(R:Rel C io H σ δ fp ex)(h:H a=none):¬Foot fp a:=λz=>by
 obtain⟨xs,e⟩:=R.foot z
 rw[h]at e
 cases e
theorem Stp.refl(p:Bool)(H:Hp)(δ:Zg)(fp:Fp):Stp p H δ fp H δ fp:=⟨λ_ _ h _=>h,λ_=>⟨rfl,rfl⟩,λ_ h=>.inl h,λ_ h=>h⟩
theorem Stp.same(h:Same H H')(hn:∀b,H' b=none->H b=none):Stp p H δ fp H' δ fp:=⟨λ_ _ q _=>h _ _ q,λ_=>⟨rfl,rfl⟩,λ_ h=>.inl h,hn⟩
theorem Same.al(h:Same H H'):∀b,H' b=none->H b=none:=λ_ q=>h.free q
theorem Stp.trans(a:Stp p H δ fp H' δ' fp')(b:Stp p' H' δ' fp' H'' δ'' fp''):Stp (p&&p') H δ fp H'' δ'' fp'' where
 keep:=λx o e h=>by
  rcases h with h|h
  .rw[XX]at h
   exact b.keep x o (a.keep x o e (.inl h.1)) (.inl h.2)
  .refine b.keep x o (a.keep x o e (.inr h)) (.inr λz=>?_)
   rcases a.grow x z with z|z
   .exact h z
   .rw[e]at z;cases z
 env:=λh=>by
  rw[XX]at h
  obtain⟨e1,e2⟩:=a.env h.1
  obtain⟨e3,e4⟩:=b.env h.2
  exact⟨e3.trans e1,e4.trans e2⟩
 grow:=λx h=>by
  rcases b.grow x h with h|h
  .exact a.grow x h
  .exact .inr (a.al x h)
 al:=λx h=>a.al x (b.al x h)
theorem Rel.frameL(R:Rel C io H σ δ fp ex)(S:Stp p H δ fp H' δ' fp')(hc:p=true\/c=true)(hx:∀a,ex' a->ex a\/H a=none) :
  (∀ a (xs:MuO),(c=true->Lf C fp ex a)->Rd H a xs.ho->(c=true->Lf C fp' ex' a)/\Rd H' a xs.ho)/\(∀a (xs:ImO),H a=some xs.ho->H' a=some xs.ho):=by
 have nf:∀a,Foot fp a->∃xs:MuO,H a=some xs.ho:=λa h=>R.foot h
 refine⟨λa xs l q=>⟨λhc'=>?_,?_⟩,λa xs q=>S.keep a _ q (.inr λz=>?_)⟩
 .obtain⟨l1,l2,l3⟩:=l hc'
  refine⟨λz=>?_,λz=>?_,l3⟩
  .rcases S.grow a z with z|z
   .exact l1 z
   .exact q.some z
  .rcases hx a z with z|z
   .exact l2 z
   .exact q.some z
 .have hk:p=true\/¬Foot fp a:=by
   rcases hc with h|h
   .exact .inl h
   .exact .inr (l h).1
  rcases q with q|⟨o,q⟩
  .exact .inl (S.keep a _ q hk)
  .exact .inr ⟨o,S.keep a _ q hk⟩
 .obtain⟨ys,e⟩:=nf a z
  exact ImO.nm q e
theorem Rel.own_step(R:Rel C io H σ δ fp ex)(S:Stp p H δ fp H' δ' fp')(hc:p=true\/c=true)(hx:∀a,ex' a->ex a\/H a=none)(hn:∀a∈new,ex a)
  (x:Own G H (λa=>c=true->Lf C fp ex a) v r new):Own G H' (λa=>c=true->Lf C fp' ex' a) v r new :=
 x.frame (R.frameL S hc hx).1 (R.frameL S hc hx).2 λa m xs e=>S.keep a _ e (.inr λ⟨i,z⟩=>R.dx i a z (hn a m))
theorem Rel.owns_step(R:Rel C io H σ δ fp ex)(S:Stp p H δ fp H' δ' fp')(hc:p=true\/c=true)(hx:∀a,ex' a->ex a\/H a=none)(hn:∀a∈new,ex a){vs:List V}{rs:List OT}
  (x:Owns G H (λa=>c=true->Lf C fp ex a) vs rs new):Owns G H' (λa=>c=true->Lf C fp' ex' a) vs rs new :=
 x.frame (R.frameL S hc hx).1 (R.frameL S hc hx).2 λa m xs e=>S.keep a _ e (.inr λ⟨i,z⟩=>R.dx i a z (hn a m))
theorem Rel.drop(R:Rel C io H σ δ fp ex)(h:∀a,ex' a->ex a):Rel C io H σ δ fp ex' :=
 ⟨R.len,λi t e=>by
  obtain⟨v,e1,o⟩:=R.own i t e
  exact⟨v,e1,o.wide λa l _=>⟨l.1,λz=>l.2.1 (h a z),l.2.2⟩⟩,R.emp,R.nd,R.dj,λi a m z=>R.dx i a m (h a z),λa z=>R.xa a (h a z),R.fr,R.al,R.new,R.io⟩
theorem Rel.made(R:Rel C io H σ δ fp ex)(s:Same H H')(hn:∀a∈new,H a=none/\H' a≠none):Rel C io H' σ δ fp (λa=>ex a\/a∈new) :=
 ⟨R.len,λi t e=>by
  obtain⟨v,e1,o⟩:=R.own i t e
  refine⟨v,e1,(o.wide λa l q=>⟨l.1,λz=>?_,l.2.2⟩).same s⟩
  rcases z with z|z
  .exact l.2.1 z
  .exact q (hn a z).1,R.emp,R.nd,R.dj,λi a m z=>by
   rcases z with z|z
   .exact R.dx i a m z
   .exact R.footSome (hn a z).1 ⟨i,m⟩,λa z=>by
   rcases z with z|z
   .intro q;exact R.xa a z (s.free q)
   .exact(hn a z).2,λb o e n=>s _ _ (R.fr b o e n),λb q=>R.al b (s.free q),R.new,R.io⟩
end
abbrev MEt:=Zg->(OT->Zg->Prop)->Prop
abbrev MAt:=Zg->(List OT->Zg->Prop)->Prop
abbrev MTt:=Zg->(Bool->Zg->Prop)->Prop
abbrev exu(ex:Addr->Prop)(new:List Addr):Addr->Prop:=λa=>ex a\/a∈new
structure RE(C:MC G)(io:List Nat)(p c:Bool)(H:Hp)(σ:St)(δ:Zg)(fp:Fp)(ex:Addr->Prop)(H':Hp)(v:V)(r:OT)(δ':Zg)(fp':Fp)(new:List Addr):Prop where
 rel:Rel C io H' σ δ' fp' (exu ex new)
 stp:Stp p H δ fp H' δ' fp'
 own:Own G H' (λa=>c=true->Lf C fp' (exu ex new) a) v r new
 nd:new.Nodup
 fresh:∀a∈new,H a=none
structure RA(C:MC G)(io:List Nat)(p c:Bool)(H:Hp)(σ:St)(δ:Zg)(fp:Fp)(ex:Addr->Prop)(H':Hp)(v:List V)(r:List OT)(δ':Zg)(fp':Fp)(new:List Addr):Prop where
 rel:Rel C io H' σ δ' fp' (exu ex new)
 stp:Stp p H δ fp H' δ' fp'
 own:Owns G H' (λa=>c=true->Lf C fp' (exu ex new) a) v r new
 nd:new.Nodup
 fresh:∀a∈new,H a=none
def SE(G:Xb)(io:List Nat)(p c:Bool)(t:TE)(m:MEt):Prop:=∀(C:MC G) (H:Hp) (σ:St) (δ:Zg) (fp:Fp) (ex:Addr->Prop) (K:OT->Zg->Prop) (Q:VK),Rel C io H σ δ fp ex->m δ K ->
 (∀ H' v r δ' fp' new,RE C io p c H σ δ fp ex H' v r δ' fp' new->K r δ'->Q v H')->t σ H Q
def SA(G:Xb)(io:List Nat)(p c:Bool)(t:TA)(m:MAt):Prop:=∀(C:MC G) (H:Hp) (σ:St) (δ:Zg) (fp:Fp) (ex:Addr->Prop) (K:List OT->Zg->Prop) (Q:List V->Hp->Prop),Rel C io H σ δ fp ex->m δ K ->
 (∀ H' v r δ' fp' new,RA C io p c H σ δ fp ex H' v r δ' fp' new->K r δ'->Q v H')->t σ H Q
def STt(G:Xb)(io:List Nat)(p:Bool)(t:TT)(m:MTt):Prop:=∀(C:MC G) (H:Hp) (σ:St) (δ:Zg) (fp:Fp) (ex:Addr->Prop) (K:Bool->Zg->Prop) (Q:Bool->Hp->Prop),Rel C io H σ δ fp ex->m δ K ->
 (∀ H' b δ' fp',Rel C io H' σ δ' fp' ex->Stp p H δ fp H' δ' fp'->K b δ'->Q b H')->t σ H Q
def ME(X:Cx)(io:List Nat)(p c:Bool)(e:Expr)(m:MEt):Prop:=∃t,PE X e t/\SE X.K io p c t m
def MA(X:Cx)(io:List Nat)(p c:Bool)(e:List Expr)(m:MAt):Prop:=∃t,PA X e t/\SA X.K io p c t m
def MT(X:Cx)(io:List Nat)(p:Bool)(e:Expr)(m:MTt):Prop:=∃t,PT X e t/\STt X.K io p t m
def MW(X:Cx)(io:List Nat)(p:Bool)(e:Expr)(m:MTt):Prop:=∃t,PW X e t/\STt X.K io p t m
section
variable {C:MC G}{io:List Nat}{H'':Hp}{σ:St}{δ δ' δ'':Zg}{fp fp' fp'':Fp}{ex ex':Addr->Prop}{p p' c:Bool}{d:Xa}{r:OT}{vs:List V}{rs:List OT}{new:List Addr}
theorem Rel.newOk(R:Rel C io H σ δ fp ex)(h:H a=none):¬Foot fp a/\¬ex a/\C.H₀ a=none:=⟨R.footSome h,λz=>R.xa a z h,R.al a h⟩
theorem RE.da(R:RE C io p c H σ δ fp ex H' v r δ' fp' new)(R0:Rel C io H σ δ fp ex):Da G H' (λa=>c=true->Lf C fp' ex a) v r.data:=by
 refine R.own.da (λa l _ h=>?_) (λa m _=>?_)
 .exact⟨(l h).1,λz=>(l h).2.1 (.inl z),(l h).2.2⟩
 .refine⟨λqz9=>?_,(R0.newOk (R.fresh a m)).2.1,.inr (R0.newOk (R.fresh a m)).2.2⟩
  obtain⟨i,z⟩:=qz9
  exact R.rel.dx i a z (.inr m)
theorem RA.das(R:RA C io p c H σ δ fp ex H' vs rs δ' fp' new)(R0:Rel C io H σ δ fp ex):Das G H' (λa=>c=true->Lf C fp' ex a) vs (OT.datas rs):=by
 refine R.own.das (λa l _ h=>?_) (λa m _=>?_)
 .exact⟨(l h).1,λz=>(l h).2.1 (.inl z),(l h).2.2⟩
 .refine⟨λqz9=>?_,(R0.newOk (R.fresh a m)).2.1,.inr (R0.newOk (R.fresh a m)).2.2⟩
  obtain⟨i,z⟩:=qz9
  exact R.rel.dx i a z (.inr m)
theorem RE.base(R:RE C io p c H σ δ fp ex H' v r δ' fp' new):Rel C io H' σ δ' fp' ex:=R.rel.drop λa z=>.inl z
theorem RA.base(R:RA C io p c H σ δ fp ex H' vs rs δ' fp' new):Rel C io H' σ δ' fp' ex:=R.rel.drop λa z=>.inl z
theorem Zcw{a:Addr}:exu ex [] a↔ex a:=by simp[exu]
theorem RE.fz(R:Rel C io H' σ δ' fp' ex)(S:Stp p H δ fp H' δ' fp')(h:Da G H' (λa=>c=true->Lf C fp' ex a) v d):RE C io p c H σ δ fp ex H' v (.fz d) δ' fp' [] :=
 ⟨R.drop λa z=>Zcw.mp z,S,.fz (h.wide λa l _ hc=>⟨(l hc).1,λz=>(l hc).2.1 (Zcw.mp z),(l hc).2.2⟩),.nil,λa m=>nomatch m⟩
theorem RE.tree(R0:Rel C io H σ δ fp ex)(R:Rel C io H1 σ δ' fp' ex)(S:Stp p H δ fp H1 δ' fp')(s:Same H1 H')(hn:∀a∈new,H1 a=none)(nd:new.Nodup)
  (o:Own G H' (λa=>((c=true->Lf C fp' ex a)\/H1 a=none)/\a∉new) v r new):RE C io p c H σ δ fp ex H' v r δ' fp' new:=by
 refine⟨R.made s λa m=>⟨hn a m,λz=>?_⟩,?_,o.wide λa l q hc=>?_,nd,λa m=>S.al a (hn a m)⟩
 .obtain⟨xs,e⟩:=o.some a m
  rw[z]at e;cases e
 .have:=S.trans (p':=true) (Stp.same (p:=true) (δ:=δ') (fp:=fp') s s.al)
  rwa[Bool.and_true]at this
 .rcases l.1 with l1|l1
  .exact⟨(l1 hc).1,λz=>z.elim (l1 hc).2.1 l.2,(l1 hc).2.2⟩
  .exact⟨R.footSome l1,λz=>z.elim (λz=>R.xa a z l1) l.2,.inr (R.al a l1)⟩
end
inductive ScD:V->Xa->Prop where
 | non:ScD .non .none
 | bl (b:Bool):ScD (.bl b) (.bool b)
 | int (i:Int):ScD (.int i) (.int i)
 | str (x:Str):ScD (.str x) (.str x)
theorem ScD.da{d:Xa}(h:ScD v d):Da G H L v d:=by
 cases h
 .exact .non
 .exact .bl _
 .exact .int _
 .exact .str _
section
variable {io:List Nat}{p p' c c':Bool}{a b:Expr}{m ma mb:MEt}
def Ycv(i:Nat):MEt:=λδ K=>match δ[i]? with|some (some (.fz d))=>K (.fz d) δ|_=>False
def Yc1(i:Nat):MEt:=λδ K=>match δ[i]? with|some (some t)=>K (.fz t.data) δ|_=>False
def mC(d:Xa):MEt:=λδ K=>K (.fz d) δ
theorem mv(i:Nat){pos:Pos}(hN:X.N[i]? =some x:=by rfl)(hv:Vis X.env.scope x:=by first|exact Qw rfl|exact Qt (Qw rfl)|exact Qt (Qt rfl))(hd:(x==("__debug__" : Str))=false:=by decide)
  (hcd:(x==("__classdict__" : Str))=false:=by decide):ME X io true true (.Name x pos) (Ycv i):=by
 refine⟨_,pv i hN hv hd hcd,λC H σ δ fp ex K Q R h k=>?_⟩
 unfold Ycv at h
 split at h
 .rename_i d hd
  obtain⟨v,e,o⟩:=R.own i _ hd
  refine⟨v,e,k H v _ δ fp [] (.fz R (.refl _ _ _ _) ?_) h⟩
  generalize fp i=as at o
  cases o with
  | fz q=>exact q.wide λa l _ _=>l
 .exact h.elim
theorem mo(i:Nat){pos:Pos}(hN:X.N[i]? =some x:=by rfl)(hv:Vis X.env.scope x:=by first|exact Qw rfl|exact Qt (Qw rfl)|exact Qt (Qt rfl))(hd:(x==("__debug__" : Str))=false:=by decide)
  (hcd:(x==("__classdict__" : Str))=false:=by decide):ME X io true false (.Name x pos) (Yc1 i):=by
 refine⟨_,pv i hN hv hd hcd,λC H σ δ fp ex K Q R h k=>?_⟩
 unfold Yc1 at h
 split at h
 .rename_i d hd
  obtain⟨v,e,o⟩:=R.own i _ hd
  exact⟨v,e,k H v _ δ fp [] (.fz R (.refl _ _ _ _) (o.da (λa _ _ z=>(nomatch z)) λa _ z=>(nomatch z))) h⟩
 .exact h.elim
theorem Zl0{t:V}{d:Xa}(h:PE X e (tC t))(s:ScD t d):ME X io true true e (mC d) :=
 ⟨_,h,λC H σ δ fp ex K Q R h k=>k H t _ δ fp [] (.fz R (.refl _ _ _ _) s.da) h⟩
theorem Yah{i j pos}:ME X io true true (.Constant (.int i) j pos) (mC (.int i)):=Zl0 Z9u (.int i)
theorem J1{b j pos}:ME X io true true (.Constant (.bool b) j pos) (mC (.bool b)):=Zl0 Yep (.bl b)
theorem Zmr{j pos}:ME X io true true (.Constant .none j pos) (mC .none):=Zl0 Z7f .non
theorem Zbj{x j pos}:ME X io true true (.Constant (.str x) j pos) (mC (.str x)):=Zl0 Yaj (.str x)
theorem SE.two(ha:SE G io p c ta ma)(hb:SE G io p' c' tb mb)(hc:p'=true\/c=true){C:MC G}{σ:St}{δ:Zg}{fp:Fp}{ex:Addr->Prop}{K:OT->OT->Zg->Prop}{Q:V->V->Hp->Prop}
  (R:Rel C io H σ δ fp ex) (h:ma δ λx δ1=>mb δ1 λy δ2=>K x y δ2)
  (k:∀H' x y u v δ' fp',Rel C io H' σ δ' fp' ex->Stp (p&&p') H δ fp H' δ' fp'->Da G H' (λa=>(c&&c')=true->Lf C fp' ex a) x u.data->Da G H' (λa=>(c&&c')=true->Lf C fp' ex a) y v.data->K u v δ'->Q x y H') :
  ta σ H λx H1=>tb σ H1 λy H2=>Q x y H2:=by
 refine ha C H σ δ fp ex _ _ R h λH1 x u δ1 fp1 new1 r1 h1=>?_
 refine hb C H1 σ δ1 fp1 (exu ex new1) _ _ r1.rel h1 λH2 y v δ2 fp2 new2 r2 h2=>?_
 have o1:=r1.rel.own_step (ex':=exu (exu ex new1) new2) r2.stp (c:=c) hc (λa z=>z.imp id λz=>r2.fresh a z) (λa m=>.inr m) r1.own
 have R2:Rel C io H2 σ δ2 fp2 ex:=r2.rel.drop λa z=>.inl (.inl z)
 have q1:Da G H2 (λa=>c=true->Lf C fp2 ex a) x u.data:=by
  refine o1.da (λa l _ z=>?_) (λa m z=>?_)
  .exact⟨(l z).1,λw=>(l z).2.1 (.inl (.inl w)),(l z).2.2⟩
  .have:=R.newOk (r1.fresh a m)
   refine⟨λqz9=>?_,this.2.1,.inr this.2.2⟩
   obtain⟨i,w⟩:=qz9
   exact r2.rel.dx i a w (.inl (.inr m))
 have q2:=r2.da r1.rel
 refine k H2 x y u v δ2 fp2 R2 (r1.stp.trans r2.stp) (q1.wide λa l _ z=>l (by rw[XX]at z;exact z.1)) (q2.wide λa l _ z=>?_) h2
 have l:=l (by rw[XX]at z;exact z.2)
 exact⟨l.1,λw=>l.2.1 (.inl w),l.2.2⟩
def P2s(G:Xb)(r:R2)(rp:Xa->Xa->(Xa->Prop)->Prop):Prop:=∀(H:Hp) (L:Addr->Prop) (x y:V) (d e:Xa) (k:Xa->Prop) (Q:VK),Da G H L x d->Da G H L y e->rp d e k->(∀v d',ScD v d'->k d'->Q v H)->r x y H Q
def P2(G:Xb)(r:R2)(rp:Xa->Xa->(OT->Prop)->Prop):Prop:=∀(H:Hp) (L:Addr->Prop) (x y:V) (d e:Xa) (k:OT->Prop) (Q:VK),Da G H L x d->Da G H L y e->rp d e k ->
 (∀ H' v o new,Same H H'->Own G H' (λa=>(L a\/H a=none)/\a∉new) v o new->new.Nodup->(∀a∈new,H a=none)->k o->Q v H')->r x y H Q
def Zqa(rp:Xa->Xa->(Xa->Prop)->Prop)(ma mb:MEt):MEt:=λδ K=>ma δ λx δ1=>mb δ1 λy δ2=>rp x.data y.data λd=>K (.fz d) δ2
def Ycy(rp:Xa->Xa->(OT->Prop)->Prop)(ma mb:MEt):MEt:=λδ K=>ma δ λx δ1=>mb δ1 λy δ2=>rp x.data y.data λd=>K d δ2
theorem Z28{rp}(P:P2s G r rp)(ha:SE G io p c ta ma)(hb:SE G io p' c' tb mb)(hc:p'=true\/c=true):SE G io (p&&p') true (tOp r ta tb) (Zqa rp ma mb):=by
 intro C H σ δ fp ex K Q R h k
 refine SE.two (K:=λx y δ2=>rp x.data y.data λd=>K (.fz d) δ2) (Q:=λx y H2=>r x y H2 Q) ha hb hc R h λH' x y u v δ' fp' R' S q1 q2 h'=>?_
 exact P H' _ x y _ _ _ _ q1 q2 h' λw d' sc h''=>k H' w _ δ' fp' [] (.fz R' S sc.da) h''
theorem Yhe{rp}(P:P2 G r rp)(ha:SE G io p c ta ma)(hb:SE G io p' c' tb mb)(hc:p'=true\/c=true):SE G io (p&&p') (c&&c') (tOp r ta tb) (Ycy rp ma mb):=by
 intro C H σ δ fp ex K Q R h k
 refine SE.two (K:=λx y δ2=>rp x.data y.data λd=>K d δ2) (Q:=λx y H2=>r x y H2 Q) ha hb hc R h λH' x y u v δ' fp' R' S q1 q2 h'=>?_
 exact P H' _ x y _ _ _ _ q1 q2 h' λH2 w o new s ow nd hn h''=>k H2 w o δ' fp' new (RE.tree R R' S s hn nd ow) h''
theorem Zkl{op:Operator}{rp}{pos:Pos}(ho:OpR X (Uq op) r)(P:P2s X.K r rp)(ha:ME X io p c a ma)(hb:ME X io p' c' b mb)(hc:p'=true\/c=true:=by first|exact Qw rfl|exact Qt rfl):ME X io (p&&p') true (.BinOp a op b pos) (Zqa rp ma mb):=by
 obtain⟨_,A,sa⟩:=ha
 obtain⟨_,B,sb⟩:=hb
 exact⟨_,Z9o ho A B,Z28 P sa sb hc⟩
theorem Zdf{rp}{pos:Pos}(ho:OpR X (QS op) r)(P:P2s X.K r rp)(ha:ME X io p c a ma)(hb:ME X io p' c' b mb)(hc:p'=true\/c=true:=by first|exact Qw rfl|exact Qt rfl)(hm:UG op b=false):ME X io (p&&p') true (.Compare a [op] [b] pos) (Zqa rp ma mb):=by
 obtain⟨_,A,sa⟩:=ha
 obtain⟨_,B,sb⟩:=hb
 exact⟨_,Z4m ho A B hm,Z28 P sa sb hc⟩
theorem Yhq{rp}{pos:Pos}(ho:IxR X r)(P:P2 X.K r rp)(ha:ME X io p c a ma)(hb:ME X io p' c' b mb)(hc:p'=true\/c=true:=by first|exact Qw rfl|exact Qt rfl)(hs:Zjc b):ME X io (p&&p') (c&&c') (.Subscript a b pos) (Ycy rp ma mb):=by
 obtain⟨_,A,sa⟩:=ha
 obtain⟨_,B,sb⟩:=hb
 exact⟨_,Z2u ho A B hs,Yhe P sa sb hc⟩
def kB(K:Bool->Zg->Prop):OT->Zg->Prop:=λo δ=>match o with| .fz (.bool b)=>K b δ|_=>False
theorem Z7c{t:TE}(h:SE G io p c t m):STt G io p (Z3d t) (λδ K=>m δ (kB K)):=by
 intro C H σ δ fp ex K Q R h' k
 refine h C H σ δ fp ex _ _ R h' λH' v r δ' fp' new r1 h1=>?_
 cases r with
 | nd ts=>exact h1.elim
 | tp ts=>exact h1.elim
 | dc _ _ _=>exact h1.elim
 | fz d=>
  cases d with
  | bool b=>
   cases r1.own with
   | fz q=>
    cases q
    exact⟨b,rfl,k H' b δ' fp' r1.base r1.stp h1⟩
  | _=>exact h1.elim
theorem Zc4{rp}{pos:Pos}(ho:OpR X (QS op) r)(P:P2s X.K r rp)(ha:ME X io p c a ma)(hb:ME X io p' c' b mb)(hc:p'=true\/c=true:=by first|exact Qw rfl|exact Qt rfl)(hm:UG op b=false) :
  MT X io (p&&p') (.Compare a [op] [b] pos) (λδ K=>Zqa rp ma mb δ (kB K)):=by
 obtain⟨_,A,sa⟩:=ha
 obtain⟨_,B,sb⟩:=hb
 exact⟨_,Z2t ho A B hm,Z7c (Z28 P sa sb hc)⟩
end
section
variable {io:List Nat}{p p' p'' c c':Bool}{a b:Expr}{m ma mb:MEt}{rest:List Expr}{ta tb:MTt}{pos:Pos}
def Yhj(t:MTt):MTt:=λδ K=>t δ λb δ'=>K (!b) δ'
def Yjk(t u:MTt):MTt:=λδ K=>t δ λb δ'=>if b=true then u δ' K else K false δ'
def mOr(t u:MTt):MTt:=λδ K=>t δ λb δ'=>if b=true then K true δ' else u δ' K
theorem Z1r(h:MT X io p a ta):MT X io p (.UnaryOp .Not a pos) (Yhj ta):=by
 obtain⟨_,A,sa⟩:=h
 exact⟨_,Ybv A,λC H σ δ fp ex K Q R h k=>sa C H σ δ fp ex _ _ R h λH' b δ' fp' R' S h'=>k H' (!b) δ' fp' R' S h'⟩
theorem Zva(h:MT X io p a ta):MW X io p (.BoolOp .And [a] pos) ta:=by
 obtain⟨_,A,sa⟩:=h
 exact⟨_,Z6d A,sa⟩
theorem Ze6(h:MT X io p a ta):MW X io p (.BoolOp .Or [a] pos) ta:=by
 obtain⟨_,A,sa⟩:=h
 exact⟨_,Z9v A,sa⟩
theorem Stp.andL{δ δ':Zg}{fp fp':Fp}(S:Stp p H δ fp H' δ' fp'):Stp (p&&p') H δ fp H' δ' fp':=by
 have:=S.trans (Stp.refl p' H' δ' fp')
 exact this
theorem Z1d(h:MT X io p a ta)(g:MW X io p' (.BoolOp .And (b :: rest) pos) tb):MW X io (p&&p') (.BoolOp .And (a :: b :: rest) pos) (Yjk ta tb):=by
 obtain⟨_,A,sa⟩:=h
 obtain⟨_,B,sb⟩:=g
 exact⟨_,Z83 A B,λC H σ δ fp ex K Q R h k=>sa C H σ δ fp ex _ _ R h λH' b δ' fp' R' S h'=>by
  cases b with
  | true=>
   rw[if_pos rfl]at h'|-
   exact sb C H' σ δ' fp' ex _ _ R' h' λH2 b2 δ2 fp2 R2 S2 h2=>k H2 b2 δ2 fp2 R2 (S.trans S2) h2
  | false=>
   rw[if_neg Xm]at h'|-
   exact k H' false δ' fp' R' S.andL h'⟩
theorem Zi5(h:MT X io p a ta)(g:MW X io p' (.BoolOp .Or (b :: rest) pos) tb):MW X io (p&&p') (.BoolOp .Or (a :: b :: rest) pos) (mOr ta tb):=by
 obtain⟨_,A,sa⟩:=h
 obtain⟨_,B,sb⟩:=g
 exact⟨_,Yfh A B,λC H σ δ fp ex K Q R h k=>sa C H σ δ fp ex _ _ R h λH' b δ' fp' R' S h'=>by
  cases b with
  | true=>
   rw[if_pos rfl]at h'|-
   exact k H' true δ' fp' R' S.andL h'
  | false=>
   rw[if_neg Xm]at h'|-
   exact sb C H' σ δ' fp' ex _ _ R' h' λH2 b2 δ2 fp2 R2 S2 h2=>k H2 b2 δ2 fp2 R2 (S.trans S2) h2⟩
theorem MW.mt(h:MW X io p e ta):MT X io p e ta:=by
 obtain⟨_,A,sa⟩:=h
 exact⟨_,A.pt,sa⟩
def Zys:Xa->Option Bool
 | .none=>some false
 | .bool b=>some b
 | .int i=>some (i !=0)
 | .list ds=>some (!ds.isEmpty)
 | .tuple ds=>some (!ds.isEmpty)
 | _=>none
def Yi9(m:MEt):MTt:=λδ K=>m δ λr δ'=>match Zys r.data with|some b=>K b δ'|none=>False
theorem Das.isEmpty{ds:List Xa}(h:Das G H L xs ds):xs.isEmpty=ds.isEmpty:=by cases h<;>rfl
theorem Yt(ha:ME X io p c a ma)(he:∀whole,isTrue a X.env whole=(do let v<-whole;standAt a.pos;holding [v] (truthy v))):MT X io p a (Yi9 ma):=by
 obtain⟨_,A,sa⟩:=ha
 exact⟨_,Z3m rfl A he,λC H σ δ fp ex K' Q R h k=>sa C H σ δ fp ex _ _ R h λH' v r δ' fp' new r1 h1=>by
  have q:=r1.da R
  generalize r.data=d at q h1
  cases q with
  | non=>exact⟨_,rfl,k H' _ δ' fp' r1.base r1.stp h1⟩
  | bl b=>exact⟨_,rfl,k H' _ δ' fp' r1.base r1.stp h1⟩
  | int b=>exact⟨_,rfl,k H' _ δ' fp' r1.base r1.stp h1⟩
  | str x=>exact h1.elim
  | lst _ e q=>exact⟨_,.inl ⟨_,.inl e,rfl⟩,k H' _ δ' fp' r1.base r1.stp (by rw[q.isEmpty];exact h1)⟩
  | tup e q=>exact⟨_,.inr (.inl ⟨_,.inl (.inl e),rfl⟩),k H' _ δ' fp' r1.base r1.stp (by rw[q.isEmpty];exact h1)⟩
  | scr q=>exact⟨_,.inl ⟨_,q.sq,rfl⟩,k H' _ δ' fp' r1.base r1.stp (by simpa [Zys]using h1)⟩
  | exc _ _ _=>exact h1.elim
  | fn _=>exact h1.elim
  | dic _ _ _ _=>exact h1.elim⟩
def asB(d:Xa)(k:Bool->Prop):Prop:=match d with| .bool b=>k b|_=>False
def Yal(a b:MEt):MEt:=λδ K=>a δ λx δ1=>asB x.data λc=>if c=true then b δ1 K else K (.fz (.bool false)) δ1
def Yjp(a b:MEt):MEt:=λδ K=>a δ λx δ1=>asB x.data λc=>if c=true then K (.fz (.bool true)) δ1 else b δ1 K
def Yba(a:MEt):MEt:=λδ K=>a δ λx δ1=>asB x.data λc=>K (.fz (.bool (!c))) δ1
def mIf(t:MTt)(a b:MEt):MEt:=λδ K=>t δ λc δ1=>if c=true then a δ1 K else b δ1 K
theorem Da.boolInv{d:Xa}{k:Bool->Prop}(q:Da G H L v d)(h:asB d k):∃b,v= .bl b/\k b:=by
 cases q with
 | bl b=>exact⟨b,rfl,h⟩
 | _=>exact h.elim
theorem RE.step{C:MC G}{σ:St}{δ δ1 δ2:Zg}{fp fp1 fp2:Fp}{ex:Addr->Prop}{r:OT}{new:List Addr}(S:Stp p H δ fp H1 δ1 fp1)(R:RE C io p' c H1 σ δ1 fp1 ex H2 v r δ2 fp2 new) :
  RE C io (p&&p') c H σ δ fp ex H2 v r δ2 fp2 new:=⟨R.rel,S.trans R.stp,R.own,R.nd,λa m=>S.al a (R.fresh a m)⟩
theorem Zkm{op}(h:ME X io p c a ma):ME X io p c (.BoolOp op [a] pos) ma:=by
 obtain⟨_,A,sa⟩:=h
 exact⟨_,Z8f A,sa⟩
theorem Ziq(ha:ME X io p c a ma)(hb:ME X io p' c' (.BoolOp .And (b :: rest) pos) mb):ME X io (p&&p') c' (.BoolOp .And (a :: b :: rest) pos) (Yal ma mb):=by
 obtain⟨_,A,sa⟩:=ha
 obtain⟨_,B,sb⟩:=hb
 exact⟨_,Z65 A B,λC H σ δ fp ex K Q R h k=>sa C H σ δ fp ex _ _ R h λH' v r δ' fp' new r1 h1=>by
  obtain⟨b,rfl,h1⟩:=(r1.da R).boolInv h1
  refine⟨b,rfl,?_⟩
  cases b with
  | true=>
   rw[if_pos rfl]at h1|-
   exact sb C H' σ δ' fp' ex _ _ r1.base h1 λH2 w r2 δ2 fp2 new2 R2 h2=>k H2 w r2 δ2 fp2 new2 (R2.step r1.stp) h2
  | false=>
   rw[if_neg Xm]at h1|-
   exact k H' _ _ δ' fp' [] (RE.fz r1.base r1.stp.andL (.bl false)) h1⟩
theorem Ykx(ha:ME X io p c a ma)(hb:ME X io p' c' (.BoolOp .Or (b :: rest) pos) mb):ME X io (p&&p') c' (.BoolOp .Or (a :: b :: rest) pos) (Yjp ma mb):=by
 obtain⟨_,A,sa⟩:=ha
 obtain⟨_,B,sb⟩:=hb
 exact⟨_,Yef A B,λC H σ δ fp ex K Q R h k=>sa C H σ δ fp ex _ _ R h λH' v r δ' fp' new r1 h1=>by
  obtain⟨b,rfl,h1⟩:=(r1.da R).boolInv h1
  refine⟨b,rfl,?_⟩
  cases b with
  | true=>
   rw[if_pos rfl]at h1|-
   exact k H' _ _ δ' fp' [] (RE.fz r1.base r1.stp.andL (.bl true)) h1
  | false=>
   rw[if_neg Xm]at h1|-
   exact sb C H' σ δ' fp' ex _ _ r1.base h1 λH2 w r2 δ2 fp2 new2 R2 h2=>k H2 w r2 δ2 fp2 new2 (R2.step r1.stp) h2⟩
theorem Z9t(ha:ME X io p c a ma):ME X io p true (.UnaryOp .Not a pos) (Yba ma):=by
 obtain⟨_,A,sa⟩:=ha
 exact⟨_,Z78 A,λC H σ δ fp ex K Q R h k=>sa C H σ δ fp ex _ _ R h λH' v r δ' fp' new r1 h1=>by
  obtain⟨b,rfl,h1⟩:=(r1.da R).boolInv h1
  exact⟨b,rfl,k H' _ _ δ' fp' [] (RE.fz r1.base r1.stp (.bl _)) h1⟩⟩
theorem Stp.cast{p p':Bool}{δ δ':Zg}{fp fp':Fp}(h:p'=true->p=true)(S:Stp p H δ fp H' δ' fp'):Stp p' H δ fp H' δ' fp' :=
 ⟨λb o e q=>S.keep b o e (q.imp h id),λq=>S.env (h q),S.grow,S.al⟩
theorem RE.cast{C:MC G}{σ:St}{δ δ1:Zg}{fp fp1:Fp}{ex:Addr->Prop}{r:OT}{new:List Addr}(hp:p'=true->p=true)(hc:c'=true->c=true)(R:RE C io p c H σ δ fp ex H1 v r δ1 fp1 new) :
  RE C io p' c' H σ δ fp ex H1 v r δ1 fp1 new:=⟨R.rel,R.stp.cast hp,R.own.wide λa l _ z=>l (hc z),R.nd,R.fresh⟩
theorem Yei{t:Expr}(ht:MT X io p t ta)(ha:ME X io p' c a ma)(hb:ME X io p'' c' b mb):ME X io (p&&(p'&&p'')) (c&&c') (.IfExp t a b pos) (mIf ta ma mb):=by
 obtain⟨_,T,st⟩:=ht
 obtain⟨_,A,sa⟩:=ha
 obtain⟨_,B,sb⟩:=hb
 exact⟨_,Zyn T A B,λC H σ δ fp ex K Q R h k=>st C H σ δ fp ex _ _ R h λH' b δ' fp' R' S h'=>by
  cases b with
  | true=>
   rw[if_pos rfl]at h'|-
   exact sa C H' σ δ' fp' ex _ _ R' h' λH2 w r2 δ2 fp2 new2 R2 h2=>k H2 w r2 δ2 fp2 new2 ((R2.step S).cast (λz=>by simp at z;simp[z]) (λz=>by simp at z;exact z.1)) h2
  | false=>
   rw[if_neg Xm]at h'|-
   exact sb C H' σ δ' fp' ex _ _ R' h' λH2 w r2 δ2 fp2 new2 R2 h2=>k H2 w r2 δ2 fp2 new2 ((R2.step S).cast (λz=>by simp at z;simp[z]) (λz=>by simp at z;exact z.2)) h2⟩
end
section
variable {io:List Nat}{p p' p'' c c':Bool}{a b:Expr}{m ma mb:MEt}{rest:List Expr}{mr:MAt}{pos:Pos}
def Yht:MAt:=λδ K=>K [] δ
def Z73(m:MEt)(mr:MAt):MAt:=λδ K=>m δ λr δ1=>mr δ1 λrs δ2=>K (r :: rs) δ2
theorem Zk3:MA X io true true [] Yht:=⟨_,Zny,λC H σ δ fp ex K Q R h k=>k H [] [] δ fp [] ⟨R.drop λa z=>Zcw.mp z,.refl _ _ _ _,.nil,.nil,λa m=>nomatch m⟩ h⟩
theorem Z2e(ha:ME X io p c e m)(hr:MA X io p' c' es mr)(hc:p'=true\/c=true)(hs:Xw (e :: es) X.env=(false,eval e X.env) :: Xw es X.env:=by rfl):MA X io (p&&p') (c&&c') (e :: es) (Z73 m mr):=by
 obtain⟨tA,A,sa⟩:=ha
 obtain⟨tB,B,sb⟩:=hr
 refine⟨_,Zgq A B hs,λC H σ δ fp ex K Q R h k=>?_⟩
 refine sa C H σ δ fp ex _ _ R h λH1 x u δ1 fp1 new1 r1 h1=>?_
 refine sb C H1 σ δ1 fp1 (exu ex new1) _ _ r1.rel h1 λH2 ys us δ2 fp2 new2 r2 h2=>?_
 have o1:=r1.rel.own_step (ex':=exu (exu ex new1) new2) r2.stp (c:=c) hc (λa z=>z.imp id λz=>r2.fresh a z) (λa m=>.inr m) r1.own
 have eqx:∀a,exu ex (new1 ++ new2) a->exu (exu ex new1) new2 a:=λa z=>by
  rcases z with z|z
  .exact .inl (.inl z)
  .rcases Qq.mp z with z|z
   .exact .inl (.inr z)
   .exact .inr z
 refine k H2 (x :: ys) (u :: us) δ2 fp2 (new1 ++ new2) ⟨r2.rel.drop eqx,r1.stp.trans r2.stp,.cons (o1.wide λa l _ z=>?_) (r2.own.wide λa l _ z=>?_),?_,?_⟩ h2
 .have l:=l (by rw[XX]at z;exact z.1)
  exact⟨l.1,λw=>l.2.1 (eqx a w),l.2.2⟩
 .have l:=l (by rw[XX]at z;exact z.2)
  exact⟨l.1,λw=>l.2.1 (eqx a w),l.2.2⟩
 .refine Vs.mpr ⟨r1.nd,r2.nd,λa m b m' z=>?_⟩
  subst z
  obtain⟨xs,e⟩:=r1.own.some a m
  rw[r2.fresh a m']at e
  cases e
 .intro a m
  rcases Qq.mp m with m|m
  .exact r1.fresh a m
  .exact r1.stp.al a (r2.fresh a m)
def Yi4(m:MAt):MEt:=λδ K=>m δ λrs δ'=>rs.length<=Xk/\K (.fz (.tuple (OT.datas rs))) δ'
def Yje(m:MAt):MEt:=λδ K=>m δ λrs δ'=>rs.length<=Xk/\K (.nd rs) δ'
theorem Yed{x1}(h:MA X io p c es mr):ME X io p c (.Tuple es x1 pos) (Yi4 mr):=by
 obtain⟨tA,A,sa⟩:=h
 refine⟨_,Z0f A,λC H σ δ fp ex K Q R h k=>?_⟩
 refine sa C H σ δ fp ex _ _ R h λH1 vs rs δ1 fp1 new1 r1 h1=>⟨by rw[r1.own.length];exact h1.1,λq hq=>?_⟩
 have s:=Ye hq (.tup vs)
 have R1:=r1.base
 have S:=r1.stp.trans (p':=true) (Stp.same (p:=true) (δ:=δ1) (fp:=fp1) s s.al)
 rw[Bool.and_true]at S
 refine k _ _ _ δ1 fp1 [] (.fz ?_ S (.tup Zy ((r1.das R).same s))) h1.2
 exact(R1.made (new:=[]) s λa m=>nomatch m).drop λa z=>.inl z
theorem Yff(h:MA X io p c es mr):ME X io p c (.List es pos) (Yje mr):=by
 obtain⟨tA,A,sa⟩:=h
 refine⟨_,Z10 A,λC H σ δ fp ex K Q R h k=>?_⟩
 refine sa C H σ δ fp ex _ _ R h λH1 vs rs δ1 fp1 new1 r1 h1=>⟨by rw[r1.own.length];exact h1.1,λq hq=>?_⟩
 have s:=Ye hq (.lst vs)
 have S:=r1.stp.trans (p':=true) (Stp.same (p:=true) (δ:=δ1) (fp:=fp1) s s.al)
 rw[Bool.and_true]at S
 have hqn:q∉new1:=λm=>by
  obtain⟨xs,e⟩:=r1.own.some q m
  rw[hq]at e;cases e
 have R2:=(r1.rel.made (new:=[q]) s λa m=>by
  rcases Xn.mp m with rfl
  exact⟨hq,by rw[Zy];intro z;cases z⟩)
 have eqx:∀a,exu ex (q :: new1) a->exu (exu ex new1) [q] a:=λa z=>by
  rcases z with z|z
  .exact .inl (.inl z)
  .rcases Xo.mp z with z|z
   .exact .inr (Xn.mpr z)
   .exact .inl (.inr z)
 refine k _ _ _ δ1 fp1 (q :: new1) ⟨R2.drop eqx,S,.nd Zy ((r1.own.wide λa l w z=>?_).same s),Qm.mpr ⟨hqn,r1.nd⟩,λa m=>?_⟩ h1.2
 .have l:=l z
  refine⟨l.1,λy=>?_,l.2.2⟩
  rcases eqx a y with y|y
  .exact l.2.1 y
  .rcases Xn.mp y with rfl
   exact w hq
 .rcases Xo.mp m with rfl|m
  .exact r1.stp.al _ hq
  .exact r1.fresh a m
end
def spD(G:Xb)(S:List Xa->(OT->Prop)->Prop):Sp:=λvs H Q _=>∃L ds k,Das G H L vs ds/\S ds k/\
 ∀r v H' new,k r->Same H H'->Own G H' (λa=>(L a\/H a=none)/\a∉new) v r new->new.Nodup->(∀a∈new,H a=none)->Q v H'
section
variable {io:List Nat}{p p' p'' c c':Bool}{a b:Expr}{m ma mb:MEt}{rest:List Expr}{mr:MAt}{pos:Pos}
variable {k:Nat}{f:Addr}{fd:XF}{E:XK}{pp:Pos}
def Z49(S:List Xa->(OT->Prop)->Prop)(mr:MAt):MEt:=λδ K=>mr δ λrs δ1=>S (OT.datas rs) λr=>K r δ1
theorem Ydq{S}{t:TA}(sa:SA G io p c t mr):SE G io p c (Yaw (spD G S) [] E t) (Z49 S mr):=by
 intro C H σ δ fp ex K Q R h kk
 refine sa C H σ δ fp ex _ _ R h λH1 vs rs δ1 fp1 new1 r1 h1=>?_
 rw[QX]
 refine⟨_,_,_,r1.das R,h1,λr v H' new kr s o nd hn=>?_⟩
 exact kk H' v r δ1 fp1 new (RE.tree R r1.base r1.stp s hn nd o) kr
theorem Zwi{S}(F:FnOk X.prog X.w X.K X.mg X.base CX k f fd ps (spD X.K S))(hr:Room k X.A)(hg:Gl X x)(hm:X.mg x=some (.ref f))(hk:Vr X.K (.ref f)=true)(hb:Binds X.K fd ps [])(hx:Zrp CX X E)
  (ha:MA X io p c (e :: es) mr) (hdb:(x==("__debug__" : Str))=false:=by decide) (he:Xw (e :: es) X.env=(false,eval e X.env) :: Xw es X.env:=by rfl) (hpl:(Bg pos (Xw es X.env)).any (·.1)=false:=by rfl) :
  ME X io p c (.Call (.Name x pp) (e :: es) [] pos) (Z49 S mr):=by
 obtain⟨_,A,sa⟩:=ha
 exact⟨_,Z3o F hr hg hm hk hb .nil hx A hdb he hpl,Ydq sa⟩
def fpu(fp:Fp)(i:Nat)(as:List Addr):Fp:=λj=>if j=i then as else fp j
theorem Z6{fp:Fp}{as:List Addr}:fpu fp i as i=as:=if_pos rfl
theorem Yl{fp:Fp}{as:List Addr}(h:j≠i):fpu fp i as j=fp j:=if_neg h
theorem Foot.of_u{fp:Fp}{i:Nat}{as:List Addr}{a:Addr}(h:Foot (fpu fp i as) a):a∈as\/∃j,j≠i/\a∈fp j:=by
 obtain⟨j,h⟩:=h
 by_cases e:j=i
 .subst e;rw[Z6]at h;exact .inl h
 .rw[Yl e]at h;exact .inr ⟨j,e,h⟩
theorem Rel.change{C:MC G}{H H':Hp}{σ:St}{δ:Zg}{fp:Fp}{ex:Addr->Prop}{i:Nat}{t t':OT}{v:V}{as' new:List Addr}(R:Rel C io H σ δ fp ex)(hi:δ[i]? =some (some t))(hv:σ[i]? =some (some v))
  (keep:∀b o,H b=some o->b∉fp i->H' b=some o) (al:∀b,H' b=none->H b=none) (o:Own G H' (Lf C (fpu fp i as') (exu ex new)) v t' as') (nd:as'.Nodup) (new':∀a∈as',a∈fp i\/H a=none)
  (hn:∀a∈new,H a=none/\H' a≠none/\a∉as') :
  Rel C io H' σ (δ.set i (some t')) (fpu fp i as') (exu ex new)/\Stp false H δ fp H' (δ.set i (some t')) (fpu fp i as'):=by
 have hil:i<δ.length:=(Xi.mp hi).1
 have apart:∀j a,j≠i->a∈fp j->a∉as':=λj a e m z=>by
  rcases new' a z with z|z
  .exact e (R.dj j i a m z)
  .exact R.footSome z ⟨j,m⟩
 constructor
 .refine⟨by rw[JZ];exact R.len,λj t'' e=>?_,λj h=>?_,λj=>?_,λj k a h1 h2=>?_,λj a h z=>?_,λa z w=>z.elim (λz=>R.xa a z (al a w)) (λz=>(hn a z).2.1 w),λb ob e n=>?_,λb z=>R.al b (al b z),λj a h=>?_,R.io⟩
  .by_cases ej:j=i
   .subst ej
    rw[Qz hil]at e
    cases e
    exact⟨v,hv,by rw[Z6];exact o⟩
   .rw[Qs (Bo ej)]at e
    obtain⟨w,e1,o1⟩:=R.own j t'' e
    refine⟨w,e1,?_⟩
    rw[Yl ej]
    refine o1.frame (λa xs l q=>?_) (λa xs q=>keep a _ q λz=>?_) λa m xs q=>keep a _ q λz=>ej (R.dj j i a m z)
    .have na:a∉fp i:=λz=>l.1 ⟨i,z⟩
     refine⟨⟨λz=>?_,λz=>z.elim l.2.1 λz=>q.some (hn a z).1,l.2.2⟩,?_⟩
     .rcases z.of_u with z|⟨k,_,z⟩
      .rcases new' a z with z|z
       .exact na z
       .exact q.some z
      .exact l.1 ⟨k,z⟩
     .rcases q with q|⟨u,q⟩
      .exact .inl (keep a _ q na)
      .exact .inr ⟨u,keep a _ q na⟩
    .obtain⟨ys,e⟩:=R.foot ⟨i,z⟩
     exact ImO.nm q e
  .by_cases ej:j=i
   .subst ej
    exact absurd (Qz hil) (h t')
   .rw[Yl ej]
    refine R.emp j λt'' z=>h t'' ?_
    rw[Qs (Bo ej)]
    exact z
  .by_cases ej:j=i
   .subst ej;rw[Z6];exact nd
   .rw[Yl ej];exact R.nd j
  .by_cases ej:j=i
   .subst ej
    rw[Z6]at h1
    by_cases ek:k=j
    .exact ek.symm
    .rw[Yl ek]at h2
     exact absurd h1 (apart k a ek h2)
   .rw[Yl ej]at h1
    by_cases ek:k=i
    .subst ek
     rw[Z6]at h2
     exact absurd h2 (apart j a ej h1)
    .rw[Yl ek]at h2
     exact R.dj j k a h1 h2
  .by_cases ej:j=i
   .subst ej
    rw[Z6]at h
    rcases z with z|z
    .rcases new' a h with w|w
     .exact R.dx _ a w z
     .exact R.xa a z w
    .exact(hn a z).2.2 h
   .rw[Yl ej]at h
    rcases z with z|z
    .exact R.dx j a h z
    .exact R.footSome (hn a z).1 ⟨j,h⟩
  .refine keep b ob (R.fr b ob e n) λz=>?_
   rcases R.new i b z with w|w
   .exact n w.2
   .rw[e]at w;cases w
  .by_cases ej:j=i
   .subst ej
    rw[Z6]at h
    rcases new' a h with w|w
    .exact R.new _ a w
    .exact .inr (R.al a w)
   .rw[Yl ej]at h
    exact R.new j a h
 .refine⟨λb ob e q=>keep b ob e λz=>(q.resolve_left (by decide)) ⟨i,z⟩,λz=>(nomatch z),λa z=>?_,al⟩
  rcases z.of_u with z|⟨j,_,z⟩
  .exact(new' a z).imp (λw=>⟨i,w⟩) id
  .exact .inl ⟨j,z⟩
def PNs(G:Xb)(r:List V->Hp->VK->Prop)(rp:List Xa->(Xa->Prop)->Prop):Prop:=∀(H:Hp) (L:Addr->Prop) (xs:List V) (ds:List Xa) (k:Xa->Prop) (Q:VK),Das G H L xs ds->rp ds k->(∀v d',ScD v d'->k d'->Q v H)->r xs H Q
def PN(G:Xb)(r:List V->Hp->VK->Prop)(rp:List Xa->(OT->Prop)->Prop):Prop:=∀(H:Hp) (L:Addr->Prop) (xs:List V) (ds:List Xa) (k:OT->Prop) (Q:VK),Das G H L xs ds->rp ds k ->
 (∀ H' v o new,Same H H'->Own G H' (λa=>(L a\/H a=none)/\a∉new) v o new->new.Nodup->(∀a∈new,H a=none)->k o->Q v H')->r xs H Q
def Ycp(rp:List Xa->(Xa->Prop)->Prop)(mr:MAt):MEt:=λδ K=>mr δ λrs δ1=>rp (OT.datas rs) λd=>K (.fz d) δ1
def mBl(rp:List Xa->(OT->Prop)->Prop)(mr:MAt):MEt:=λδ K=>mr δ λrs δ1=>rp (OT.datas rs) λo=>K o δ1
theorem Yhx{r rp}{t:TA}(P:PNs G r rp)(sa:SA G io p c t mr):SE G io p true (tCB r t) (Ycp rp mr):=λC H σ δ fp ex K Q R h kk=>
 sa C H σ δ fp ex _ _ R h λH1 vs rs δ1 fp1 new1 r1 h1=>P H1 _ vs _ _ _ (r1.das R) h1 λv d' sc h2=>kk H1 v _ δ1 fp1 [] (.fz r1.base r1.stp sc.da) h2
theorem sBl{r rp}{t:TA}(P:PN G r rp)(sa:SA G io p c t mr):SE G io p c (tCB r t) (mBl rp mr):=λC H σ δ fp ex K Q R h kk=>
 sa C H σ δ fp ex _ _ R h λH1 vs rs δ1 fp1 new1 r1 h1=>P H1 _ vs _ _ _ (r1.das R) h1 λH' v o new s ow nd hn h2=>kk H' v o δ1 fp1 new (RE.tree R r1.base r1.stp s hn nd ow) h2
variable {T:String}{r:List V->Hp->VK->Prop}
theorem Zop{rp}(P:PNs X.K r rp)(hc:Zb3 X (.builtin id) r)(hg:Gl X x)(hm:X.mg x=none)(hv:Qp x=some (.builtin id))(ha:MA X io p c (e :: es) mr)(hn:x≠"__name__" :=by decide)(hdb:(x==("__debug__" : Str))=false:=by decide)
  (he:Xw (e :: es) X.env=(false,eval e X.env) :: Xw es X.env:=by rfl) (hpl:(Bg pos (Xw es X.env)).any (·.1)=false:=by rfl):ME X io p true (.Call (.Name x pp) (e :: es) [] pos) (Ycp rp mr):=by
 obtain⟨_,A,sa⟩:=ha
 exact⟨_,Zl9 hc hg hm hv A hn hdb he hpl,Yhx P sa⟩
theorem Yln{rp}(P:PN X.K r rp)(hc:Zb3 X (.builtin id) r)(hg:Gl X x)(hm:X.mg x=none)(hv:Qp x=some (.builtin id))(ha:MA X io p c (e :: es) mr)(hn:x≠"__name__" :=by decide)(hdb:(x==("__debug__" : Str))=false:=by decide)
  (he:Xw (e :: es) X.env=(false,eval e X.env) :: Xw es X.env:=by rfl) (hpl:(Bg pos (Xw es X.env)).any (·.1)=false:=by rfl):ME X io p c (.Call (.Name x pp) (e :: es) [] pos) (mBl rp mr):=by
 obtain⟨_,A,sa⟩:=ha
 exact⟨_,Zl9 hc hg hm hv A hn hdb he hpl,sBl P sa⟩
theorem Zxw{rp}(P:PNs X.K r rp)(hc:Zb3 X (.type T) r)(hg:Gl X x)(hm:X.mg x=none)(hv:Qp x=some (.type T))(ha:MA X io p c (e :: es) mr)(hn:x≠"__name__" :=by decide)(hdb:(x==("__debug__" : Str))=false:=by decide)
  (he:Xw (e :: es) X.env=(false,eval e X.env) :: Xw es X.env:=by rfl) (hpl:(Bg pos (Xw es X.env)).any (·.1)=false:=by rfl):ME X io p true (.Call (.Name x pp) (e :: es) [] pos) (Ycp rp mr):=by
 obtain⟨_,A,sa⟩:=ha
 exact⟨_,Zoh hc hg hm hv A hn hdb he hpl,Yhx P sa⟩
theorem Z6o{rp}(P:PN X.K r rp)(hc:Zb3 X (.type T) r)(hg:Gl X x)(hm:X.mg x=none)(hv:Qp x=some (.type T))(ha:MA X io p c (e :: es) mr)(hn:x≠"__name__" :=by decide)(hdb:(x==("__debug__" : Str))=false:=by decide)
  (he:Xw (e :: es) X.env=(false,eval e X.env) :: Xw es X.env:=by rfl) (hpl:(Bg pos (Xw es X.env)).any (·.1)=false:=by rfl):ME X io p c (.Call (.Name x pp) (e :: es) [] pos) (mBl rp mr):=by
 obtain⟨_,A,sa⟩:=ha
 exact⟨_,Zoh hc hg hm hv A hn hdb he hpl,sBl P sa⟩
end
mutual
def Zbg:Xa->Bool
 | .none=>true
 | .bool _=>true
 | .int _=>true
 | .str _=>true
 | .tuple ds=>Znt ds
 | .list _=>false
 | .dict _=>false
def Znt:List Xa->Bool
 | []=>true
 | d :: ds=>Zbg d&&Znt ds
end
theorem Da.flat2:(∀{v:V} {d:Xa},Da G H L v d->Zbg d=true->Da G H L' v d)/\∀{v:List V} {d:List Xa},Das G H L v d->Znt d=true->Das G H L' v d :=
 Da.both (λ_=>.non) (λb _=>.bl b) (λi _=>.int i) (λx _=>.str x) (λ_ _ _ h=>by rw[Zbg]at h;cases h) (λe r h=>.tup e (r (by rw[Zbg]at h;exact h))) (λk _=>.scr k) (λc n e _=>.exc c n e) (λk _=>.fn k) (λ_ _ _ _ h=>by rw[dcD,Zbg]at h;cases h) (λ_=>.nil)
  (λk r h=>by rw[Znt,XX]at h;exact .cons (k h.1) (r h.2))
theorem Da.flat{d:Xa}(h:Da G H L v d)(f:Zbg d=true):Da G H L' v d:=Da.flat2.1 h f
set_option genInjectivity false in
structure Zka where
 nx:Zg->Prop
 rt:OT->Zg->Prop
 bk:Zg->Prop:=λ_=>False
 ct:Zg->Prop:=λ_=>False
abbrev MSt:=Zka->Zg->Prop
abbrev Kp(H:Hp)(fp:Fp)(H':Hp)(fp':Fp):Prop:=Stp false H [] fp H' [] fp'
theorem Stp.kp{p:Bool}{H H':Hp}{δ δ':Zg}{fp fp':Fp}(S:Stp p H δ fp H' δ' fp'):Kp H fp H' fp':=⟨λb o e q=>S.keep b o e (.inr (q.resolve_left (by decide))),λz=>(nomatch z),S.grow,S.al⟩
theorem Kp.trans{fp fp1 fp2:Fp}(a:Kp H fp H1 fp1)(b:Kp H1 fp1 H2 fp2):Kp H fp H2 fp2:=Stp.trans a b
theorem Kp.refl(H:Hp)(fp:Fp):Kp H fp H fp:=Stp.refl _ _ _ _
structure RelEnds(C:MC G)(io:List Nat)(ex:Addr->Prop)(H:Hp)(fp:Fp)(D:Zka)(D':Ends):Prop where
 nx:∀H' σ' δ' fp',Rel C io H' σ' δ' fp' ex->Kp H fp H' fp'->D.nx δ'->D'.nx σ' H'
 bk:∀H' σ' δ' fp',Rel C io H' σ' δ' fp' ex->Kp H fp H' fp'->D.bk δ'->D'.bk σ' H'
 ct:∀H' σ' δ' fp',Rel C io H' σ' δ' fp' ex->Kp H fp H' fp'->D.ct δ'->D'.ct σ' H'
 rt:∀H' σ' v r δ' fp' new,Rel C io H' σ' δ' fp' (exu ex new)->Own G H' (Lf C fp' (exu ex new)) v r new->new.Nodup->(∀a∈new,C.H₀ a=none)->D.rt r δ'->D'.rt v H'
theorem RelEnds.shift{C:MC G}{io:List Nat}{ex:Addr->Prop}{fp fp1:Fp}{D:Zka}{D':Ends}(E:RelEnds C io ex H fp D D')(k:Kp H fp H1 fp1):RelEnds C io ex H1 fp1 D D' :=
 ⟨λH' σ' δ' fp' R q=>E.nx H' σ' δ' fp' R (k.trans q),λH' σ' δ' fp' R q=>E.bk H' σ' δ' fp' R (k.trans q),λH' σ' δ' fp' R q=>E.ct H' σ' δ' fp' R (k.trans q),E.rt⟩
def SS(G:Xb)(io:List Nat)(t:TS)(m:MSt):Prop:=∀(C:MC G) (H:Hp) (σ:St) (δ:Zg) (fp:Fp) (ex:Addr->Prop) (D:Zka) (D':Ends),Rel C io H σ δ fp ex->m D δ->RelEnds C io ex H fp D D'->t D' σ H
def MS(X:Cx)(io:List Nat)(st:Stmt)(m:MSt):Prop:=∃t,PS X st t/\SS X.K io t m
def MSs(X:Cx)(io:List Nat)(st:List Stmt)(m:MSt):Prop:=∃t,PSs X st t/\SS X.K io t m
section
variable {io:List Nat}{p p' p'' c c':Bool}{a b:Expr}{m ma mb:MEt}{rest:List Expr}{mr:MAt}{pos:Pos}{sts:List Stmt}{u w:MSt}{mt:MTt}
def Z79:MSt:=λD δ=>D.nx δ
def Yld(w:MSt)(D:Zka)(δ:Zg):Prop:=w D δ
def Yfr(u w:MSt):MSt:=λD δ=>u { D with nx:=Yld w D } δ
theorem Zdo:MSs X io [] Z79:=⟨_,Z2j,λC H σ δ fp ex D D' R h E=>E.nx H σ δ fp R (.refl _ _) h⟩
theorem Zc(h:MS X io st u):MSs X io [st] u:=by
 obtain⟨_,A,s⟩:=h
 exact⟨_,Z5y A,s⟩
theorem Zbt(h:MS X io st u)(g:MSs X io sts w):MSs X io (st :: sts) (Yfr u w):=by
 obtain⟨_,A,s⟩:=h
 obtain⟨tb,B,s'⟩:=g
 exact⟨_,Zzb A B,λC H σ δ fp ex D D' R h E=>s C H σ δ fp ex _ _ R h ⟨λH1 σ1 δ1 fp1 R1 k1 h1=>s' C H1 σ1 δ1 fp1 ex D D' R1 h1 (E.shift k1),E.bk,E.ct,E.rt⟩⟩
def Yby:MSt:=λ_ _=>False
theorem Zyz:MS X io st Yby:=⟨_,Zx2,λC H σ δ fp ex D D' R h E=>h.elim⟩
def Ybb(m:MEt):MSt:=λD δ=>m δ λ_ δ'=>D.nx δ'
theorem Ztr(he:ME X io p c e m)(hs:BK e none pos.line X.env=pure false:=by rfl):MS X io (.Expr e pos) (Ybb m):=by
 obtain⟨_,A,s⟩:=he
 exact⟨_,Zo9 A hs,λC H σ δ fp ex D D' R h E=>s C H σ δ fp ex _ _ R h λH' v r δ' fp' new r1 h1=>E.nx H' σ δ' fp' r1.base r1.stp.kp h1⟩
def Yip(m:MEt):MSt:=λD δ=>m δ λr δ'=>D.rt r δ'
theorem Zf7(he:ME X io p true e m):MS X io (.Return (some e) pos) (Yip m):=by
 obtain⟨_,A,s⟩:=he
 exact⟨_,Z1f A,λC H σ δ fp ex D D' R h E=>s C H σ δ fp ex _ _ R h λH' v r δ' fp' new r1 h1=>E.rt H' σ v r δ' fp' new r1.rel (r1.own.wide λa l _=>l rfl) r1.nd (λa m=>(R.newOk (r1.fresh a m)).2.2) h1⟩
def Zxm(i:Nat):MSt:=λD δ=>match δ[i]? with|some (some t)=>D.rt t (δ.set i none)|_=>False
theorem Rel.take{C:MC G}{σ:St}{δ:Zg}{fp:Fp}{ex:Addr->Prop}{t:OT}(R:Rel C io H σ δ fp ex)(hi:δ[i]? =some (some t)):Rel C io H σ (δ.set i none) (fpu fp i []) (exu ex (fp i)):=by
 have hil:i<δ.length:=(Xi.mp hi).1
 have get:∀j (t':OT),(δ.set i none)[j]? =some (some t')->j≠i/\δ[j]? =some (some t'):=λj t' e=>by
  by_cases ej:j=i
  .subst ej;rw[Qz hil]at e;cases e
  .rw[Qs (Bo ej)]at e;exact⟨ej,e⟩
 have sub:∀j a,a∈fpu fp i [] j->j≠i/\a∈fp j:=λj a m=>by
  by_cases ej:j=i
  .subst ej;rw[Z6]at m;exact nomatch m
  .rw[Yl ej]at m;exact⟨ej,m⟩
 have lw:∀a,Lf C fp ex a->Lf C (fpu fp i []) (exu ex (fp i)) a:=λa l=>⟨λ⟨j,z⟩=>l.1 ⟨j,(sub j a z).2⟩,λz=>z.elim l.2.1 λz=>l.1 ⟨i,z⟩,l.2.2⟩
 refine⟨by rw[JZ];exact R.len,λj t' e=>?_,λj h=>?_,λj=>?_,λj k a h1 h2=>R.dj j k a (sub j a h1).2 (sub k a h2).2,λj a h z=>?_,λa z w=>?_,R.fr,R.al,λj a h=>R.new j a (sub j a h).2,R.io⟩
 .obtain⟨ej,e⟩:=get j t' e
  obtain⟨w,e1,o⟩:=R.own j t' e
  exact⟨w,e1,by rw[Yl ej];exact o.wide λa l _=>lw a l⟩
 .by_cases ej:j=i
  .subst ej;rw[Z6]
  .rw[Yl ej]
   exact R.emp j λt' z=>h t' (by rw[Qs (Bo ej)];exact z)
 .by_cases ej:j=i
  .subst ej;rw[Z6];exact .nil
  .rw[Yl ej];exact R.nd j
 .obtain⟨ej,h⟩:=sub j a h
  rcases z with z|z
  .exact R.dx j a h z
  .exact ej (R.dj j i a h z)
 .rcases z with z|z
  .exact R.xa a z w
  .exact R.footSome w ⟨i,z⟩
theorem Zeb(i:Nat)(hio:i∉io:=by decide)(hN:X.N[i]? =some x:=by rfl)(hv:Vis X.env.scope x:=by first|exact Qw rfl|exact Qt (Qw rfl)|exact Qt (Qt rfl))(hd:(x==("__debug__" : Str))=false:=by decide)
  (hcd:(x==("__classdict__" : Str))=false:=by decide):MS X io (.Return (some (.Name x px)) pos) (Zxm i):=by
 refine⟨_,Z1f (pv i hN hv hd hcd),λC H σ δ fp ex D D' R h E=>?_⟩
 unfold Zxm at h
 split at h
 case h_2=>exact h.elim
 rename_i t hi
 obtain⟨v,e,o⟩:=R.own i t hi
 have lw:∀a,Lf C fp ex a->H a≠none->Lf C (fpu fp i []) (exu ex (fp i)) a:=λa l _=>⟨λz=>by
  rcases z.of_u with z|⟨j,_,z⟩
  .exact nomatch z
  .exact l.1 ⟨j,z⟩,λz=>z.elim l.2.1 λz=>l.1 ⟨i,z⟩,l.2.2⟩
 have hn:∀a∈fp i,C.H₀ a=none:=λa m=>by
  rcases R.new i a m with z|z
  .exact absurd z.1 hio
  .exact z
 exact⟨v,e,E.rt H σ v t _ _ (fp i) (R.take hi) (o.wide lw) (R.nd i) hn h⟩
def Yjb(t:MTt)(u w:MSt):MSt:=λD δ=>t δ λb δ'=>if b=true then u D δ' else w D δ'
theorem Zm2{cnd:Expr}{ss ss':List Stmt}(hc:MT X io p cnd mt)(ha:MSs X io ss u)(hb:MSs X io ss' w):MS X io (.If cnd ss ss' pos) (Yjb mt u w):=by
 obtain⟨_,T,s⟩:=hc
 obtain⟨_,A,sa⟩:=ha
 obtain⟨_,B,sb⟩:=hb
 exact⟨_,Ydp T A B,λC H σ δ fp ex D D' R h E=>s C H σ δ fp ex _ _ R h λH' b δ' fp' R' S h'=>by
  cases b with
  | true=>
   rw[if_pos rfl]at h'|-
   exact sa C H' σ δ' fp' ex D D' R' h' (E.shift S.kp)
  | false=>
   rw[if_neg Xm]at h'|-
   exact sb C H' σ δ' fp' ex D D' R' h' (E.shift S.kp)⟩
theorem Rel.put{C:MC G}{σ:St}{δ:Zg}{fp:Fp}{ex:Addr->Prop}{r:OT}{new:List Addr}(R:Rel C io H σ δ fp (exu ex new))(hio:i∉io)(o:Own G H (Lf C fp (exu ex new)) v r new)(nd:new.Nodup)
  (hn:∀a∈new,C.H₀ a=none/\¬ex a):∃fp',Rel C io H (σ.set i (some v)) (δ.set i (some r)) fp' ex/\∀a,Foot fp' a->Foot fp a\/a∈new:=by
 by_cases hil:i<δ.length
 case neg=>
  refine⟨fp,?_,λa h=>.inl h⟩
  have hl:=R.len
  rw[List.set_eq_of_length_le (show δ.length<=i by omega),List.set_eq_of_length_le (show σ.length<=i by omega)]
  exact R.drop λa z=>.inl z
 have hsl:i<σ.length:=by rw[R.len];exact hil
 have sub:∀a,Foot (fpu fp i new) a->Foot fp a\/a∈new:=λa z=>by
  rcases z.of_u with z|⟨j,_,z⟩
  .exact .inr z
  .exact .inl ⟨j,z⟩
 have lw:∀a,Lf C fp (exu ex new) a->Lf C (fpu fp i new) ex a:=λa l=>⟨λz=>(sub a z).elim l.1 λz=>l.2.1 (.inr z),λz=>l.2.1 (.inl z),l.2.2⟩
 refine⟨fpu fp i new,⟨by rw[JZ,JZ];exact R.len,λj t' e=>?_,λj h=>?_,λj=>?_,λj k a h1 h2=>?_,λj a h z=>?_,λa z=>R.xa a (.inl z),R.fr,R.al,λj a h=>?_,λj hj=>?_⟩,sub⟩
 .by_cases ej:j=i
  .subst ej
   rw[Qz hil]at e
   cases e
   exact⟨v,Qz hsl,by rw[Z6];exact o.wide λa l _=>lw a l⟩
  .rw[Qs (Bo ej)]at e
   obtain⟨w,e1,o1⟩:=R.own j t' e
   exact⟨w,by rw[Qs (Bo ej)];exact e1,by rw[Yl ej];exact o1.wide λa l _=>lw a l⟩
 .by_cases ej:j=i
  .subst ej;exact absurd (Qz hil) (h r)
  .rw[Yl ej]
   exact R.emp j λt' z=>h t' (by rw[Qs (Bo ej)];exact z)
 .by_cases ej:j=i
  .subst ej;rw[Z6];exact nd
  .rw[Yl ej];exact R.nd j
 .by_cases ej:j=i
  .subst ej
   rw[Z6]at h1
   by_cases ek:k=j
   .exact ek.symm
   .rw[Yl ek]at h2
    exact absurd (.inr h1) (R.dx k a h2)
  .rw[Yl ej]at h1
   by_cases ek:k=i
   .subst ek
    rw[Z6]at h2
    exact absurd (.inr h2) (R.dx j a h1)
   .rw[Yl ek]at h2
    exact R.dj j k a h1 h2
 .by_cases ej:j=i
  .subst ej
   rw[Z6]at h
   exact(hn a h).2 z
  .rw[Yl ej]at h
   exact R.dx j a h (.inl z)
 .by_cases ej:j=i
  .subst ej
   rw[Z6]at h
   exact .inr (hn a h).1
  .rw[Yl ej]at h
   exact R.new j a h
 .have ej:j≠i:=λz=>hio (z▸hj)
  rw[Qs (Bo ej)]
  exact R.io j hj
theorem RE.put{C:MC G}{σ:St}{δ δ':Zg}{fp fp':Fp}{ex:Addr->Prop}{r:OT}{new:List Addr}(R:RE C io p true H σ δ fp ex H' v r δ' fp' new)(R0:Rel C io H σ δ fp ex)(hio:i∉io) :
  ∃fp2,Rel C io H' (σ.set i (some v)) (δ'.set i (some r)) fp2 ex/\Kp H fp H' fp2:=by
 obtain⟨fp2,R2,g⟩:=R.rel.put hio (R.own.wide λa l _=>l rfl) R.nd λa m=>⟨(R0.newOk (R.fresh a m)).2.2,(R0.newOk (R.fresh a m)).2.1⟩
 refine⟨fp2,R2,λb o e q=>R.stp.keep b o e (.inr (q.resolve_left (by decide))),λz=>(nomatch z),λa z=>?_,R.stp.al⟩
 rcases g a z with z|z
 .exact R.stp.grow a z
 .exact .inr (R.fresh a z)
theorem RE.fzc{C:MC G}{σ:St}{δ δ':Zg}{fp fp':Fp}{ex:Addr->Prop}{r:OT}{new:List Addr}(R:RE C io p c H σ δ fp ex H' v r δ' fp' new)(R0:Rel C io H σ δ fp ex) :
  RE C io p c H σ δ fp ex H' v (.fz r.data) δ' fp' []:=.fz R.base R.stp (R.da R0)
theorem RE.fzs{C:MC G}{σ:St}{δ δ':Zg}{fp fp':Fp}{ex:Addr->Prop}{r:OT}{new:List Addr}(R:RE C io p c H σ δ fp ex H' v r δ' fp' new)(R0:Rel C io H σ δ fp ex)(h:Zbg r.data=true) :
  RE C io p true H σ δ fp ex H' v (.fz r.data) δ' fp' []:=.fz R.base R.stp ((R.da R0).flat h)
def Z6v(i:Nat)(m:MEt):MSt:=λD δ=>m δ λr δ'=>D.nx (δ'.set i (some (.fz r.data)))
def Z25(i:Nat)(m:MEt):MSt:=λD δ=>m δ λr δ'=>Zbg r.data=true/\D.nx (δ'.set i (some (.fz r.data)))
def Zn3(i:Nat)(m:MEt):MSt:=λD δ=>m δ λr δ'=>D.nx (δ'.set i (some r))
theorem Yiv{t:TE}(s:SE G io p true t m)(hio:i∉io):SS G io (Z6p t (Zrt i)) (Z6v i m):=λC H σ δ fp ex D D' R h E=>s C H σ δ fp ex _ _ R h λH' v r δ' fp' new r1 h1=>by
 obtain⟨fp2,R2,k2⟩:=(r1.fzc R).put R hio
 exact E.nx H' _ _ fp2 R2 k2 h1
theorem Ye3{t:TE}(s:SE G io p c t m)(hio:i∉io):SS G io (Z6p t (Zrt i)) (Z25 i m):=λC H σ δ fp ex D D' R h E=>s C H σ δ fp ex _ _ R h λH' v r δ' fp' new r1 h1=>by
 obtain⟨fp2,R2,k2⟩:=(r1.fzs R h1.1).put R hio
 exact E.nx H' _ _ fp2 R2 k2 h1.2
theorem Z21{t:TE}(s:SE G io p true t m)(hio:i∉io):SS G io (Z6p t (Zrt i)) (Zn3 i m):=λC H σ δ fp ex D D' R h E=>s C H σ δ fp ex _ _ R h λH' v r δ' fp' new r1 h1=>by
 obtain⟨fp2,R2,k2⟩:=r1.put R hio
 exact E.nx H' _ _ fp2 R2 k2 h1
theorem Ybj(hN:X.N.Nodup)(hi:X.N[i]? =some x)(hx:Loc X.env.scope x)(he:ME X io p true e m)(hio:i∉io:=by decide)(hs:BK e (some (.Name x px)) pos.line X.env=pure false:=by rfl)(hf:X.fn x=true\/X.env.scope.names.lookup x=some .local:=by first|exact .inl rfl|exact .inr rfl|assumption) :
  MS X io (.Assign [.Name x px] e pos) (Z6v i m):=by
 obtain⟨_,A,s⟩:=he
 exact⟨_,Zwu hN hi hx A hs hf,Yiv s hio⟩
theorem Z3g(hN:X.N.Nodup)(hi:X.N[i]? =some x)(hx:Loc X.env.scope x)(he:ME X io p c e m)(hio:i∉io:=by decide)(hs:BK e (some (.Name x px)) pos.line X.env=pure false:=by rfl)(hf:X.fn x=true\/X.env.scope.names.lookup x=some .local:=by first|exact .inl rfl|exact .inr rfl|assumption) :
  MS X io (.Assign [.Name x px] e pos) (Z25 i m):=by
 obtain⟨_,A,s⟩:=he
 exact⟨_,Zwu hN hi hx A hs hf,Ye3 s hio⟩
theorem Zwy(hN:X.N.Nodup)(hi:X.N[i]? =some x)(hx:Loc X.env.scope x)(he:ME X io p true e m)(hio:i∉io:=by decide)(hs:BK e (some (.Name x px)) pos.line X.env=pure false:=by rfl)(hf:X.fn x=true\/X.env.scope.names.lookup x=some .local:=by first|exact .inl rfl|exact .inr rfl|assumption) :
  MS X io (.Assign [.Name x px] e pos) (Zn3 i m):=by
 obtain⟨_,A,s⟩:=he
 exact⟨_,Zwu hN hi hx A hs hf,Z21 s hio⟩
def Z2d(t:MTt)(u:MSt):MSt:=λD δ=>∃W:Nat->Zg->Prop,(∃n,W n δ)/\∀n δ,W n δ->t δ λb δ'=>if b=true then∃N:Zg->Prop,(∀δ',N δ'->∃n',n'<n/\W n' δ')/\u { D with nx:=N,ct:=N,bk:=D.nx } δ' else D.nx δ'
theorem Zqt{cnd:Expr}{ss:List Stmt}(hp:PassesOwn (Qg X.prog X.w) X.A X.env X.xe)(hc:MT X io p cnd mt)(ha:MSs X io ss u):MS X io (.While cnd ss [] pos) (Z2d mt u):=by
 obtain⟨_,T,s⟩:=hc
 obtain⟨_,A,sa⟩:=ha
 refine⟨_,Zyo hp T A,λC H σ δ fp ex D D' R h E=>?_⟩
 obtain⟨W,⟨n0,w0⟩,turn⟩:=h
 refine⟨λn σ' H'=>∃δ' fp',Rel C io H' σ' δ' fp' ex/\Kp H fp H' fp'/\W n δ',⟨n0,δ,fp,R,.refl _ _,w0⟩,?_⟩
 rintro n σ1 H1 ⟨δ1,fp1,R1,k1,w1⟩
 refine s C H1 σ1 δ1 fp1 ex _ _ R1 (turn n δ1 w1) λH2 b δ2 fp2 R2 S2 h2=>?_
 have k2:=k1.trans S2.kp
 cases b with
 | true=>
  rw[if_pos rfl]at h2|-
  obtain⟨N,hN,h2⟩:=h2
  refine⟨λσ' H'=>∃δ' fp',Rel C io H' σ' δ' fp' ex/\Kp H fp H' fp'/\N δ',λσ' H' ⟨δ',fp',R',k',n'⟩=>?_,?_⟩
  .obtain⟨n1,hn1,w1⟩:=hN δ' n'
   exact⟨n1,hn1,δ',fp',R',k',w1⟩
  .refine sa C H2 σ1 δ2 fp2 ex _ _ R2 h2 ⟨λH' σ' δ' fp' R' k' n'=>⟨δ',fp',R',k2.trans k',n'⟩,λH' σ' δ' fp' R' k' n'=>E.nx H' σ' δ' fp' R' (k2.trans k') n',λH' σ' δ' fp' R' k' n'=>⟨δ',fp',R',k2.trans k',n'⟩,E.rt⟩
 | false=>
  rw[if_neg Xm]at h2|-
  exact E.nx H2 σ1 δ2 fp2 R2 k2 h2
end
def Zv5(N:List Str)(ds:List Xa):Zg:=ds.map (λd=>some (.fz d)) ++ X6 (N.length-ds.length) none
section
variable {vs:List V}{ds:List Xa}
theorem Zts{t:OT}{n:Nat}(h:(ds.map (λd=>some (.fz d)) ++ X6 n none:Zg)[i]? =some (some t)):∃d,ds[i]? =some d/\t= .fz d:=by
 rw[List.getElem?_append]at h
 split at h
 .rw[Xj]at h
  cases e:ds[i]? with
  | none=>rw[e]at h;cases h
  | some d=>rw[e]at h;cases h;exact⟨d,rfl,rfl⟩
 .rw[List.getElem?_replicate]at h
  split at h
  .cases h
  .cases h
theorem Rel.entry(h:Das G H L vs ds):Rel (G:=G) ⟨H,λ_=>False,L,start N vs⟩ [] H (start N vs) (Zv5 N ds) (λ_=>[]) (λ_=>False):=by
 refine⟨?_,λi t e=>?_,λ_ _=>rfl,λ_=>.nil,λi j a m=>(nomatch m),λi a m=>(nomatch m),λa z=>z.elim,λb o e _=>e,λb e=>e,λi a m=>(nomatch m),λi m=>nomatch m⟩
 .unfold start Zv5
  simp[h.length]
 .obtain⟨d,e',rfl⟩:=Zts e
  obtain⟨x,e1,q⟩:=h.get e'
  refine⟨x,?_,.fz (q.wide λa l _=>⟨λ⟨j,z⟩=>(nomatch z),λz=>z,.inl l⟩)⟩
  unfold L2.start
  rw[VP (by rw[Xc];exact(Xi.mp e1).1),Xj,e1]
  rfl
variable {base:Heap}
def Z2i(k:OT->Prop):Zka:={ nx:=λ_=>k (.fz .none),rt:=λr _=>k r }
theorem Fun.okD{f:Addr}{fd:XF}{n:Nat}{S:List Xa->(OT->Prop)->Prop}(F:Fun K x qual st f fd)(Sc:Zm N ps (Zi st))(len:∀ds k,S ds k->ds.length=ps.length)
  (hbody:∀(cdv:Xe) (A:Qk) (outer:List Env) (s:Xg) (H:Hp) (E:XK),Room n (A.deeper (envOfC qual (Zi st) s.heap.objs.size f cdv)) ->
   ∃m,MSs (Z13 CX0 P w K mg base N qual (Zi st) f cdv A outer s H E).nox [] (Zcf st) m/\∀ds k,S ds k->m (Z2i k) (Zv5 N ds)):FnOk P w K mg base CX0 (n+1) f fd ps (spD K S):=by
 refine F.ok Sc (λvs H Q E h=>?_) (λcdv A outer s H vs Q E hr h=>?_)
 .obtain⟨L,ds,k,h1,h2,_⟩:=h
  rw[h1.length]
  exact len ds k h2
 .obtain⟨L,ds,k,h1,h2,h3⟩:=h
  obtain⟨m,⟨t,A1,s1⟩,q⟩:=hbody cdv A outer s H E hr
  refine⟨t,A1,s1 ⟨H,λ_=>False,L,start N vs⟩ H _ _ _ _ (Z2i k) _ (Rel.entry h1) (q ds k h2) ⟨λH' σ' δ' fp' R _ hk=>?_,λ_ _ _ _ _ _ z=>z.elim,λ_ _ _ _ _ _ z=>z.elim,λH' σ' v r δ' fp' new R o nd hn hk=>?_⟩⟩
  .exact h3 _ .non H' [] hk (λb o e=>R.fr b o e id) (.fz .non) .nil λa m=>nomatch m
  .refine h3 r v H' new hk (λb o e=>R.fr b o e id) (o.wide λa l _=>⟨?_,λz=>l.2.1 (.inr z)⟩) nd hn
   exact l.2.2
end
abbrev MGt:=Xa->Zg->(Zg->Prop)->Prop
abbrev Zxb:=List Xa->Zg->(Zg->Prop)->Prop
def SG(G:Xb)(io:List Nat)(c:Bool)(t:TG)(g:MGt):Prop:=∀(C:MC G) (H:Hp) (σ:St) (δ:Zg) (fp:Fp) (ex:Addr->Prop) (v:V) (d:Xa) (k:Zg->Prop) (Q:St->Hp->Prop),Rel C io H σ δ fp ex->Da G H (λa=>c=true->Lf C fp ex a) v d->g d δ k ->
 (∀ σ' δ' fp',Rel C io H σ' δ' fp' ex->Kp H fp H fp'->k δ'->Q σ' H)->t v σ H Q
def SGs(G:Xb)(io:List Nat)(c:Bool)(t:TGs)(g:Zxb):Prop:=∀(C:MC G) (H:Hp) (σ:St) (δ:Zg) (fp:Fp) (ex:Addr->Prop) (v:List V) (d:List Xa) (k:Zg->Prop) (Q:St->Hp->Prop),Rel C io H σ δ fp ex->Das G H (λa=>c=true->Lf C fp ex a) v d->g d δ k ->
 (∀ σ' δ' fp',Rel C io H σ' δ' fp' ex->Kp H fp H fp'->k δ'->Q σ' H)->t v σ H Q
def MG(X:Cx)(io:List Nat)(c:Bool)(tg:Expr)(g:MGt):Prop:=∃t,PG X tg t/\SG X.K io c t g
def MGs(X:Cx)(io:List Nat)(c:Bool)(tg:List Expr)(g:Zxb):Prop:=∃t,PGs X tg t/\SGs X.K io c t g
variable {ex ex':Addr->Prop}{c p p' c' p'':Bool}{cnd:Expr}{fp fp' fp1:Fp}{H'':Hp}{as:List Addr}{io:List Nat}{ts rs:List OT}{sts ss ss':List Stmt}{mr:MAt}{m ma mb:MEt}{pp:Pos}{δ δ' δ1:Zg}{gs:Zxb}
section
variable {pos:Pos}
def dName(i:Nat):MGt:=λd δ k=>k (δ.set i (some (.fz d)))
theorem Rel.putD{C:MC G}{σ:St}{d:Xa}(R:Rel C io H σ δ fp ex)(hio:i∉io)(q:Da G H (Lf C fp ex) v d) :
  ∃fp',Rel C io H (σ.set i (some v)) (δ.set i (some (.fz d))) fp' ex/\Kp H fp H fp':=by
 obtain⟨fp',R',g⟩:=(R.drop λa z=>Zcw.mp z).put (new:=[]) hio (.fz (q.wide λa l _=>⟨l.1,λz=>l.2.1 (Zcw.mp z),l.2.2⟩)) .nil (λa m=>nomatch m)
 exact⟨fp',R',λb o e _=>e,λz=>(nomatch z),λa z=>(g a z).imp id λz=>(nomatch z),λb e=>e⟩
theorem Zos(hN:X.N.Nodup)(hi:X.N[i]? =some x:=by rfl)(hx:Loc X.env.scope x:=by first|exact Qw rfl|exact Qt rfl)(hio:i∉io:=by decide)(hf:X.fn x=true\/X.env.scope.names.lookup x=some .local:=by first|exact .inl rfl|exact .inr rfl|assumption):MG X io true (.Name x pos) (dName i) :=
 ⟨_,Z4b hN hi hx hf,λC H σ δ fp ex v d k Q R q h kk=>by
  obtain⟨fp',R',k'⟩:=R.putD hio (q.wide λa l _=>l rfl)
  exact kk _ _ fp' R' k' h⟩
def Yg5:Zxb:=λds δ k=>ds=[]/\k δ
def Z8s(g:MGt)(gs:Zxb):Zxb:=λds δ k=>match ds with|d :: r=>g d δ λδ'=>gs r δ' k|[]=>False
theorem Zwz:MGs X io c [] Yg5:=⟨_,Z54,λC H σ δ fp ex v d k Q R q h kk=>by
 obtain⟨rfl,h⟩:=h
 cases q
 exact⟨rfl,kk σ δ fp R (.refl _ _) h⟩⟩
theorem Rel.kp_das{C:MC G}{σ:St}{vs:List V}{ds:List Xa}(R:Rel C io H σ δ fp ex)(S:Kp H fp H' fp')(h:Das G H (Lf C fp ex) vs ds):Das G H' (Lf C fp' ex) vs ds:=by
 have S':Stp false H δ fp H' δ fp':=⟨S.keep,λz=>(nomatch z),S.grow,S.al⟩
 obtain⟨f1,f2⟩:=R.frameL (c:=true) (ex':=ex) S' (.inr rfl) λa z=>.inl z
 exact h.frame (λa xs l q=>⟨(f1 a xs (λ_=>l) q).1 rfl,(f1 a xs (λ_=>l) q).2⟩) f2
theorem Zih{g:MGt}(h1:MG X io true e g)(h2:MGs X io true es gs)
  (hs:(Q6 (e :: es) X.env).map (·.2)=Ur e X.env :: (Q6 es X.env).map (·.2):=by rfl):MGs X io true (e :: es) (Z8s g gs):=by
 obtain⟨_,A,s⟩:=h1
 obtain⟨_,B,s'⟩:=h2
 exact⟨_,Zye A B hs,λC H σ δ fp ex v d k Q R q h kk=>by
  cases q with
  | nil=>exact h.elim
  | cons q qs=>
   refine⟨_,_,rfl,s C H σ δ fp ex _ _ _ _ R q h λσ1 δ1 fp1 R1 k1 h1=>?_⟩
   exact s' C H σ1 δ1 fp1 ex _ _ _ _ R1 ((R.kp_das k1 (qs.wide λa l _=>l rfl)).wide λa l _ _=>l) h1 λσ2 δ2 fp2 R2 k2 h2=>kk σ2 δ2 fp2 R2 (k1.trans k2) h2⟩
def dTup(n:Nat)(gs:Zxb):MGt:=λd δ k=>match d with| .tuple ds=>ds.length=n/\gs ds δ k|_=>False
theorem Z00{k:Nat}{n:Nat}(hc:X.calm=true)(h:MGs X io c es gs)
  (hn:(Q6 es X.env).length=n:=by rfl) (hst:(Q6 es X.env).findIdx? (·.1)=none:=by rfl):MG X io c (.Tuple es k pos) (dTup n gs):=by
 obtain⟨_,A,s⟩:=h
 exact⟨_,Ya3 hc A hn hst,λC H σ δ fp ex v d k Q R q h kk=>by
  cases q with
  | tup e qs=>exact⟨_,_,rfl,.inl (.inl e),by rw[qs.length];exact h.1,s C H σ δ fp ex _ _ _ _ R qs h.2 kk⟩
  | _=>exact h.elim⟩
def Yi0(m:MEt)(g:MGt):MSt:=λD δ=>m δ λr δ'=>g r.data δ' D.nx
theorem Z7m{g:MGt}(he:ME X io p c e m)(hg:MG X io c tg g)(hs:Uy [tg] e pos.line X.env=pure false:=by rfl)(hw:Uz [tg] e X.env=pure none:=by rfl)
  (h1:(Q6 [tg] X.env).map (·.2)=[Ur tg X.env]:=by rfl):MS X io (.Assign [tg] e pos) (Yi0 m g):=by
 obtain⟨_,A,s⟩:=he
 obtain⟨_,B,s'⟩:=hg
 exact⟨_,Zwq A B hs hw h1,λC H σ δ fp ex D D' R h E=>s C H σ δ fp ex _ _ R h λH' v r δ' fp' new r1 h1=>
  s' C H' σ δ' fp' ex v _ _ _ r1.base (r1.da R) h1 λσ2 δ2 fp2 R2 k2 h2=>E.nx H' σ2 δ2 fp2 R2 (r1.stp.kp.trans k2) h2⟩
end
def IterOk(C:MC G)(fp:Fp)(ex:Addr->Prop)(H1:Hp)(c:Bool)(J:It)(ds:List Xa):Prop:=∀H':Hp,(∀b o,H1 b=some o->(c=false\/¬Foot fp b)->H' b=some o)->∀i:Nat,
 (∀ d,ds[i]? =some d->J.go i H'/\∀x H'',J.yld i H' x H''->Same H' H''/\Da G H'' (λa=>c=true->(Lf C fp ex a/\H1 a≠none)) x d)/\(ds[i]? =none->J.stop i H')
abbrev MIt:=Zg->(List Xa->Zg->Prop)->Prop
def SI(G:Xb)(io:List Nat)(p c:Bool)(t:TI)(m:MIt):Prop:=∀(C:MC G) (H:Hp) (σ:St) (δ:Zg) (fp:Fp) (ex:Addr->Prop) (K:List Xa->Zg->Prop) (Q:It->Hp->Prop),Rel C io H σ δ fp ex->m δ K ->
 (∀ J H1 ds δ1 fp1,Rel C io H1 σ δ1 fp1 ex->Stp p H δ fp H1 δ1 fp1->IterOk C fp1 ex H1 c J ds->K ds δ1->Q J H1)->t σ H Q
def MI(X:Cx)(io:List Nat)(p c:Bool)(tg iter:Expr)(m:MIt):Prop:=∃t,PI X tg iter t/\SI X.K io p c t m
section
variable {a b:Expr}
def iL(m:MEt):MIt:=λδ K=>m δ λr δ'=>match r.data with| .list ds=>K ds δ'|_=>False
theorem Rel.kept{C:MC G}{H H':Hp}{σ:St}{δ:Zg}{fp:Fp}{ex:Addr->Prop}(R:Rel C io H σ δ fp ex)(kp:∀b o,H b=some o->(c=false\/¬Foot fp b)->H' b=some o) :
  (∀ a (xs:MuO),(c=true->Lf C fp ex a)->Rd H a xs.ho->(c=true->(Lf C fp ex a/\H a≠none))/\Rd H' a xs.ho)/\(∀a (xs:ImO),H a=some xs.ho->H' a=some xs.ho):=by
 refine⟨λa xs l q=>⟨λhc=>⟨l hc,q.some⟩,?_⟩,λa xs q=>kp a _ q (.inr λz=>?_)⟩
 .have hk:c=false\/¬Foot fp a:=by
   cases c with
   | false=>exact .inl rfl
   | true=>exact .inr (l rfl).1
  rcases q with q|⟨o,q⟩
  .exact .inl (kp a _ q hk)
  .exact .inr ⟨o,kp a _ q hk⟩
 .obtain⟨ys,e⟩:=R.foot z
  exact ImO.nm q e
theorem Z5n(h:ME X io p c e m):MI X io p c tg e (iL m):=by
 obtain⟨_,A,s⟩:=h
 exact⟨_,Zxx rfl A,λC H σ δ fp ex K' Q R h kk=>s C H σ δ fp ex _ _ R h λH1 v r δ1 fp1 new r1 h1=>by
  have q:=r1.da R
  generalize r.data=d at q h1
  cases q with
  | lst l e qs=>
   refine⟨_,rfl,⟨_,.inl e⟩,kk _ H1 _ δ1 fp1 r1.base r1.stp (λH' kp i=>?_) h1⟩
   obtain⟨f1,f2⟩:=r1.base.kept kp
   have e':=(f1 _ (.lst _) l e).2
   have qs':=qs.frame f1 f2
   refine⟨λd hd=>?_,λhd=>?_⟩
   .obtain⟨x,hx,qx⟩:=qs'.get hd
    refine⟨⟨_,x,.inl e',hx⟩,λy H'' hy=>?_⟩
    obtain⟨rfl,hy⟩:=hy
    have:=hy _ (.inl e')
    rw[hx]at this
    cases this
    exact⟨Same.refl _,qx⟩
   .exact⟨_,.inl e',by rw[qs'.length];exact JB.mp hd⟩
  | scr ks=>
   refine⟨_,rfl,⟨_,ks.sq⟩,kk _ H1 _ δ1 fp1 r1.base r1.stp (λH' kp i=>?_) h1⟩
   refine⟨λd hd=>?_,λhd=>?_⟩
   .obtain⟨x,hx,qx⟩:=(Das.ints (G:=X.K) (H:=H') (L:=λa=>c=true->(Lf C fp1 ex a/\H1 a≠none)) _).get hd
    refine⟨⟨_,x,ks.sq,hx⟩,λy H'' hy=>?_⟩
    obtain⟨rfl,hy⟩:=hy
    have:=hy _ ks.sq
    rw[hx]at this
    cases this
    exact⟨Same.refl _,qx⟩
   .refine⟨_,ks.sq,?_⟩
    have:=JB.mp hd
    simpa using this
  | _=>exact h1.elim⟩
def Zk0(lo:Int)(n:Nat):List Xa:=(Xz n).map λ(i:Nat)=>Xl (lo+(i:Int))
@[simp] theorem Zff(lo:Int)(n:Nat):(Zk0 lo n).length=n:=by simp[Zk0]
theorem Zep{n:Nat}{d:Xa}(h:(Zk0 lo n)[i]? =some d):i<n/\d= .int (lo+i):=by
 have hi:i<n:=by
  have:=(Xi.mp h).1
  simpa using this
 unfold Zk0 at h
 rw[Xj,QM hi]at h
 cases h
 exact⟨hi,rfl⟩
theorem Zri{C:MC G}{n:Nat}:IterOk C fp ex H1 true (Itr lo n) (Zk0 lo n):=λH' _ i=>by
 refine⟨λd hd=>?_,λhd=>?_⟩
 .obtain⟨hi,rfl⟩:=Zep hd
  refine⟨hi,λx H'' hy=>?_⟩
  obtain⟨rfl,rfl⟩:=hy
  exact⟨Same.refl _,.int _⟩
 .have:=JB.mp hd
  show n<=i
  simpa using this
def iR1(mr:MAt):MIt:=λδ K=>mr δ λrs δ'=>match OT.datas rs with|[.int j]=>(-(2^62)<=j/\j<2^62)/\K (Zk0 0 j.toNat) δ'|_=>False
def iR2(mr:MAt):MIt:=λδ K=>mr δ λrs δ'=>match OT.datas rs with|[.int i,.int j]=>(-(2^62)<=i/\i<2^62/\-(2^62)<=j/\j<2^62)/\K (Zk0 i (j-i).toNat) δ'|_=>False
theorem Ja{p' pos:Pos}(hg:Gl X "range")(hm:X.mg "range"=none)(ha:MA X io p c [a] mr)(hs:Xw [a] X.env=[(false,eval a X.env)]:=by rfl):MI X io p true tg (.Call (.Name "range" p') [a] [] pos) (iR1 mr):=by
 obtain⟨_,A,s⟩:=ha
 exact⟨_,Zw2 hg hm A hs,λC H σ δ fp ex K' Q R h kk=>s C H σ δ fp ex _ _ R h λH1 vs rs δ1 fp1 new r1 h1=>by
  have q:=r1.das R
  generalize OT.datas rs=d at q h1
  split at h1
  case h_2=>exact h1.elim
  cases q with
  | cons q1 q2=>
   cases q1
   cases q2
   exact⟨_,rfl,h1.1.1,h1.1.2,kk _ H1 _ δ1 fp1 r1.base r1.stp Zri h1.2⟩⟩
theorem Zm9{p' pos:Pos}(hg:Gl X "range")(hm:X.mg "range"=none)(ha:MA X io p c [a,b] mr)(hs:Xw [a,b] X.env=[(false,eval a X.env),(false,eval b X.env)]:=by rfl)(hs2:Xw [b] X.env=[(false,eval b X.env)]:=by rfl):MI X io p true tg (.Call (.Name "range" p') [a,b] [] pos) (iR2 mr):=by
 obtain⟨_,A,s⟩:=ha
 exact⟨_,Ztk hg hm A hs hs2,λC H σ δ fp ex K' Q R h kk=>s C H σ δ fp ex _ _ R h λH1 vs rs δ1 fp1 new r1 h1=>by
  have q:=r1.das R
  generalize OT.datas rs=d at q h1
  split at h1
  case h_2=>exact h1.elim
  cases q with
  | cons q1 q2=>
   cases q1
   cases q2 with
   | cons q2 q3=>
    cases q2
    cases q3
    exact⟨_,_,rfl,h1.1,kk _ H1 _ δ1 fp1 r1.base r1.stp Zri h1.2⟩⟩
theorem IterOk.at{C:MC G}{fp fp':Fp}{ex:Addr->Prop}{H1 H' H'':Hp}{J:It}{ds:List Xa}{x:V}{d:Xa}(g:∀a,Foot fp' a->Foot fp a\/H1 a=none)(h:Da G H'' (λa=>true=true->(Lf C fp ex a/\H1 a≠none)) x d):Da G H'' (λa=>true=true->Lf C fp' ex a) x d :=
 h.wide λa l _ z=>⟨λw=>(g a w).elim (l z).1.1 (l z).2,(l z).1.2.1,(l z).1.2.2⟩
def Ygc(ds:List Xa)(g:MGt)(u:MSt)(D:Zka)(δ1:Zg):Prop:=∃I:Nat->Zg->Prop,I 0 δ1/\(∀(i:Nat) (d:Xa) (δ':Zg),ds[i]? =some d->I i δ'->g d δ' λδ2=>u { D with nx:=I (i+1),ct:=I (i+1),bk:=D.nx } δ2)/\∀δ',I ds.length δ'->D.nx δ'
def Yim(mi:MIt)(g:MGt)(u:MSt):MSt:=λD δ=>mi δ λds δ1=>Ygc ds g u D δ1
theorem Rel.mk0{C:MC G}{σ:St}(R:Rel C io H σ δ fp ex)(s:Same H H'):Rel C io H' σ δ fp ex:=(R.made (new:=[]) s λa m=>nomatch m).drop λa z=>.inl z
theorem Z0y{mi:MIt}{g:MGt}{u:MSt}{pos:Pos}(hp:PassesOwn (Qg X.prog X.w) X.A X.env X.xe)(hc:X.calm=true)(hi:MI X io p true tg iter mi)(hg:MG X io true tg g)(hb:MSs X io body u)
  (hs:∀x,Ba iter X.env x=pure x:=by intro _;rfl):MS X io (.For tg iter body [] pos) (Yim mi g u):=by
 obtain⟨_,A,s⟩:=hi
 obtain⟨_,G,sg⟩:=hg
 obtain⟨_,B,sb⟩:=hb
 refine⟨_,Z8n hp hc A G B hs,λC H σ δ fp ex D D' R h E=>s C H σ δ fp ex _ _ R h λJ H1 ds δ1 fp1 R1 S1 it h1=>?_⟩
 obtain⟨I,h0,turn,fin⟩:=h1
 refine⟨λi n σ' H'=>n=ds.length-i/\i<=ds.length/\∃δ' fp',Rel C io H' σ' δ' fp' ex/\Kp H1 fp1 H' fp'/\I i δ',⟨ds.length,rfl,JF _,δ1,fp1,R1,.refl _ _,h0⟩,?_⟩
 rintro i n σ2 H2 ⟨rfl,hle,δ2,fp2,R2,k2,i2⟩
 have itk:=it H2 (λb o e q=>k2.keep b o e (.inr (q.resolve_left (by decide)))) i
 by_cases hlt:i<ds.length
 .have hd:ds[i]? =some ds[i]:=Xx hlt
  obtain⟨go,yl⟩:=itk.1 _ hd
  refine .inr ⟨go,λσ' H'=>∃δ' fp',Rel C io H' σ' δ' fp' ex/\Kp H1 fp1 H' fp'/\I (i+1) δ',λσ' H' ⟨δ',fp',R',k',i'⟩=>⟨ds.length-(i+1),by omega,rfl,hlt,δ',fp',R',k',i'⟩,λx H3 hy=>?_⟩
  obtain⟨s3,q3⟩:=yl x H3 hy
  have R3:=R2.mk0 s3
  have k3:Kp H1 fp1 H3 fp2:=k2.trans ⟨λb o e _=>s3 _ _ e,λz=>(nomatch z),λa z=>.inl z,s3.al⟩
  refine sg C H3 σ2 δ2 fp2 ex x _ _ _ R3 (IterOk.at (H':=H2) (J:=J) (ds:=ds) k2.grow q3) (turn i _ δ2 hd i2) λσ4 δ4 fp4 R4 k4 h4=>?_
  have k5:=k3.trans k4
  refine sb C H3 σ4 δ4 fp4 ex _ _ R4 h4 ⟨λH' σ' δ' fp' R' k' n'=>⟨δ',fp',R',k5.trans k',n'⟩,λH' σ' δ' fp' R' k' n'=>E.nx H' σ' δ' fp' R' (S1.kp.trans (k5.trans k')) n',λH' σ' δ' fp' R' k' n'=>⟨δ',fp',R',k5.trans k',n'⟩,E.rt⟩
 .have e:i=ds.length:=by omega
  subst e
  exact .inl ⟨itk.2 (by simp),E.nx H2 σ2 δ2 fp2 R2 (S1.kp.trans k2) (fin δ2 i2)⟩
end
def gM(G:Xb)(io:List Nat)(c:Bool)(g:MGt):TG:=λv σ H Q=>∃(C:MC G) (δ:Zg) (fp:Fp) (ex:Addr->Prop) (d:Xa) (k:Zg->Prop),Rel C io H σ δ fp ex/\Da G H (λa=>c=true->Lf C fp ex a) v d/\g d δ k/\
 ∀σ' δ' fp',Rel C io H σ' δ' fp' ex->Kp H fp H fp'->k δ'->Q σ' H
def tM(G:Xb)(io:List Nat)(p c:Bool)(m:MEt):TE:=λσ H Q=>∃(C:MC G) (δ:Zg) (fp:Fp) (ex:Addr->Prop) (K:OT->Zg->Prop),Rel C io H σ δ fp ex/\m δ K/\∀H' v r δ' fp' new,RE C io p c H σ δ fp ex H' v r δ' fp' new->K r δ'->Q v H'
def ttM(G:Xb)(io:List Nat)(p:Bool)(m:MTt):TT:=λσ H Q=>∃(C:MC G) (δ:Zg) (fp:Fp) (ex:Addr->Prop) (K:Bool->Zg->Prop),Rel C io H σ δ fp ex/\m δ K/\∀H' b δ' fp',Rel C io H' σ δ' fp' ex->Stp p H δ fp H' δ' fp'->K b δ'->Q b H'
def MIfs(X:Cx)(io:List Nat)(p:Bool)(ifs:List Expr)(m:MTt):Prop:=∃t,Z53 X ifs t/\STt X.K io p t m
section
variable {mt:MTt}{g:MGt}
theorem MG.canon(h:MG X io c tg g):PG X tg (gM X.K io c g):=by
 obtain⟨t,A,s⟩:=h
 rintro pins sh σ H v u Q I r ⟨C,δ,fp,ex,d,k,R,q,h,kk⟩
 exact A pins sh σ H v u Q I r (s C H σ δ fp ex v d k Q R q h kk)
theorem ME.canon(h:ME X io p c e m):PE X e (tM X.K io p c m):=by
 obtain⟨t,A,s⟩:=h
 rintro pins sh σ H Q I ⟨C,δ,fp,ex,K,R,h,kk⟩
 exact A pins sh σ H Q I (s C H σ δ fp ex K Q R h kk)
theorem MIfs.canon(h:MIfs X io p ifs mt):Z53 X ifs (ttM X.K io p mt):=by
 obtain⟨t,A,s⟩:=h
 rintro pins sh σ H Q I ⟨C,δ,fp,ex,K,R,h,kk⟩
 exact A pins sh σ H Q I (s C H σ δ fp ex K Q R h kk)
def Z6z:MTt:=λδ K=>K true δ
theorem Wi:MIfs X io true [] Z6z:=⟨_,Z4e,λC H σ δ fp ex K Q R h kk=>kk H true δ fp R (.refl _ _ _ _) h⟩
theorem Zv3(h:MT X io p cnd mt):MIfs X io p [cnd] mt:=by
 obtain⟨_,A,s⟩:=h
 exact⟨_,Z4q A,s⟩
end
def blk(n:Nat)(caps:List Nat)(δ:Zg):Zg:=X6 n none ++ caps.map λi=>(δ[i]?).getD none
def Jz(n:Nat)(caps:List Nat)(fp:Fp):Fp:=λk=>if k<n then[]else match caps[k-n]? with|some i=>fp i|none=>[]
def Zac(n:Nat)(caps:List Nat):List Nat:=(Xz caps.length).map (·+n)
def Z1x(C:MC G)(H1:Hp)(fp:Fp)(σ0:St):MC G:=⟨H1,Foot fp,λa=>(C.L a\/C.H₀ a=none)/\¬Foot fp a,σ0⟩
def Zh1(ex:Addr->Prop)(D:Addr)(fp fpb:Fp)(a:Addr):Prop:=ex a\/a=D\/(Foot fp a/\¬Foot fpb a)
section
variable {C:MC G}{σ:St}{D:Addr}{n:Nat}
theorem Zen{k:Nat}(h:a∈Jz n caps fp k):∃i,n<=k/\caps[k-n]? =some i/\a∈fp i:=by
 unfold Jz at h
 split at h
 .exact nomatch h
 .split at h
  .rename_i i e
   exact⟨i,by omega,e,h⟩
  .exact nomatch h
theorem Zx4(h:caps[j]? =some i):Jz n caps fp (n+j)=fp i:=by
 unfold Jz
 rw[if_neg (by omega),show n+j-n=j by omega,h]
theorem Z68{k:Nat}{t:OT}(h:(blk n caps δ)[k]? =some (some t)):∃i,n<=k/\caps[k-n]? =some i/\δ[i]? =some (some t):=by
 unfold blk at h
 rw[List.getElem?_append]at h
 split at h
 .rw[List.getElem?_replicate]at h
  split at h<;>cases h
 .rename_i hk
  rw[Ul]at hk h
  rw[Xj]at h
  cases e:caps[k-n]? with
  | none=>rw[e]at h;cases h
  | some i=>
   rw[e]at h
   refine⟨i,by omega,rfl,?_⟩
   simp only[Option.map_some]at h
   cases e2:δ[i]? with
   | none=>rw[e2]at h;cases h
   | some o=>
    rw[e2]at h
    simpa using h
theorem Rel.block(R:Rel C io H1 σ δ fp ex)(nd:caps.Nodup)(hD:H1 D=none) :
  Rel (Z1x C H1 fp (Zap own caps σ)) (Zac own.length caps) (upd H1 D (.lst [])) (Zap own caps σ) (blk own.length caps δ) (Jz own.length caps fp) (Zh1 ex D fp (Jz own.length caps fp)):=by
 have s:=Ye hD (.lst [])
 have sub:∀a,Foot (Jz own.length caps fp) a->Foot fp a:=λa q91=>by
  obtain⟨k,z⟩:=q91
  obtain⟨i,_,_,z⟩:=Zen z
  exact⟨i,z⟩
 have neD:∀a,H1 a≠none->a≠D:=λa h z=>h (z▸hD)
 refine⟨by unfold Zap blk;simp,λk t e=>?_,λk h=>?_,λk=>?_,λk l a h1 h2=>?_,λk a h z=>?_,λa z=>?_,λb o e _=>s _ _ e,λb e=>s.free e,λk a h=>?_,λk _=>rfl⟩
 .obtain⟨i,hk,e1,e2⟩:=Z68 e
  obtain⟨v,e3,o⟩:=R.own i t e2
  refine⟨v,?_,?_⟩
  .unfold Zap
   rw[JV (by simpa using hk),Xc,Xj,e1]
   simp[e3]
  .have ef:Jz own.length caps fp k=fp i:=by
    have:=Zx4 (n:=own.length) (fp:=fp) e1
    rwa[show own.length+(k-own.length)=k by omega]at this
   rw[ef]
   refine(o.wide λa l q=>⟨λz=>l.1 (sub a z),λz=>?_,.inl ⟨l.2.2,l.1⟩⟩).same s
   rcases z with z|z|z
   .exact l.2.1 z
   .exact neD a q z
   .exact l.1 z.1
 .unfold Jz
  split
  .rfl
  .split
   .rename_i i e1
    refine R.emp i λt z=>h t ?_
    unfold blk
    rw[JV (by rw[Ul];omega),Ul,Xj,e1]
    simp[z]
   .rfl
 .unfold Jz
  split
  .exact .nil
  .split
   .exact R.nd _
   .exact .nil
 .obtain⟨i,hk,e1,m1⟩:=Zen h1
  obtain⟨j,hl,e2,m2⟩:=Zen h2
  have:=R.dj i j a m1 m2
  subst this
  have hlt:=(Xi.mp e1).1
  have:=(List.getElem?_inj hlt nd).mp (e1.trans e2.symm)
  omega
 .obtain⟨i,hk,e1,m⟩:=Zen h
  rcases z with z|z|z
  .exact R.dx i a m z
  .exact R.footSome (z▸hD) ⟨i,m⟩
  .exact z.2 ⟨k,h⟩
 .rcases z with z|z|z
  .intro q;exact R.xa a z (s.free q)
  .subst z;rw[Zy];intro q;cases q
  .obtain⟨xs,e⟩:=R.foot z.1
   rw[s _ _ e];intro q;cases q
 .obtain⟨i,hk,e1,m⟩:=Zen h
  refine .inl ⟨?_,⟨i,m⟩⟩
  have:=(Xi.mp e1).1
  exact Xp.mpr ⟨k-own.length,by simpa using this,by omega⟩
theorem Yb2{σ0:St}(hx:∀a,ex a->ex' a)(l:Lf (Z1x C H1 fp σ0) fp' ex' a):Lf C fp ex a\/H1 a=none:=by
 obtain⟨l1,l2,l3⟩:=l
 rcases l3 with l3|l3
 .exact .inl ⟨l3.2,λz=>l2 (hx a z),l3.1⟩
 .exact .inr l3
theorem Rel.poke(R:Rel C io H' σ δ fp ex)(hx:ex D)(hD:H' D=some (.lst xs))(h0:C.H₀ D=none):Rel C io (upd H' D (.lst ys)) σ δ fp ex:=by
 have nf:¬Foot fp D:=λ⟨i,z⟩=>R.dx i D z hx
 have kp:∀b o,b≠D->H' b=some o->upd H' D (.lst ys) b=some o:=λb o n e=>by rw[Zt n];exact e
 refine⟨R.len,λi t e=>?_,R.emp,R.nd,R.dj,R.dx,λa z=>?_,λb o e n=>?_,λb e=>?_,R.new,R.io⟩
 .obtain⟨v,e1,o⟩:=R.own i t e
  refine⟨v,e1,o.frame (λa zs l q=>⟨l,?_⟩) (λa zs q=>kp a _ (λz=>?_) q) λa m zs q=>kp a _ (λz=>nf ⟨i,z▸m⟩) q⟩
  .have na:a≠D:=λz=>l.2.1 (z▸hx)
   rcases q with q|⟨u,q⟩
   .exact .inl (kp a _ na q)
   .exact .inr ⟨u,kp a _ na q⟩
  .exact ImO.nl q (z▸hD)
 .by_cases e:a=D
  .subst e;rw[Zy];intro q;cases q
  .rw[Zt e];exact R.xa a z
 .refine kp b o (λz=>?_) (R.fr b o e n)
  rw[z,h0]at e;cases e
 .refine R.al b ?_
  by_cases q:b=D
  .subst q;rw[Zy]at e;cases e
  .rwa[Zt q]at e
theorem Owns.poke{zs:List V}(o:Owns G H' L zs rs as)(hD:H' D=JL (HO.lst xs))(hL:¬L D)(hn:D∉as):Owns G (upd H' D (.lst ys)) L zs rs as:=by
 refine o.frame (λa zs l q=>⟨l,?_⟩) (λa zs q=>?_) λa m zs q=>?_
 .have na:a≠D:=λz=>hL (z▸l)
  rcases q with q|⟨u,q⟩
  .exact .inl (by rw[Zt na];exact q)
  .exact .inr ⟨u,by rw[Zt na];exact q⟩
 .rw[Zt (λz=>ImO.nl q (z▸hD))];exact q
 .have na:a≠D:=λz=>hn (by rw[<-z];exact m)
  rw[Zt na];exact q
theorem Owns.snoc{bs:List Addr}{x:V}{r:OT}(h:Owns G H' L xs rs as)(k:Own G H' L x r bs):Owns G H' L (xs ++ [x]) (rs ++ [r]) (as ++ bs) :=
 Owns.rec (motive_1:=λ_ _ _ _=>True) (motive_2:=λxs rs as _=>Owns G H' L (xs ++ [x]) (rs ++ [r]) (as ++ bs)) (λ_=>trivial) (λ_ _ _=>trivial) (λ_ _ _=>trivial) (λ_ _ _=>trivial) (by have:=Owns.cons k .nil;rwa[QX]at this) (λk _ _ ih=>by rw[JW];exact .cons k ih) h
end
structure Z09(C:MC G)(H1:Hp)(fp1:Fp)(ex:Addr->Prop)(n:Nat)(caps:List Nat)(σ0:St)(D:Addr)(pb:Bool)(H':Hp)(σ':St)(δ':Zg)(fp':Fp)(ys:List V)(rs:List OT)(new:List Addr):Prop where
 keep:∀b o,H1 b=some o->(pb=true\/¬Foot (Jz n caps fp1) b)->H' b=some o
 al:∀b,H' b=none->H1 b=none
 dat:H' D=some (.lst ys)
 rel:Rel (Z1x C H1 fp1 σ0) (Zac n caps) H' σ' δ' fp' (exu (Zh1 ex D fp1 (Jz n caps fp1)) new)
 grow:∀a,Foot fp' a->Foot (Jz n caps fp1) a\/H1 a=none
 own:Owns G H' (λa=>true=true->Lf (Z1x C H1 fp1 σ0) fp' (exu (Zh1 ex D fp1 (Jz n caps fp1)) new) a) ys rs new
 nd:new.Nodup
 fresh:∀a∈new,H1 a=none/\a≠D
section
variable {pt pe ci:Bool}{g:MGt}{mt:MTt}{me:MEt}
theorem Zw8{C:MC G}{σ:St}{ds:List Xa}{D:Addr}{Qf:Hp->Prop}(I:Nat->List OT->Zg->Prop)(R1:Rel C io H1 σ δ1 fp1 ex)
  (it:∀H':Hp,(∀b o,H1 b=some o->((pt&&pe)=true\/¬Foot (Jz own.length caps fp1) b)->H' b=some o)->∀i:Nat,(∀d,ds[i]? =some d->J.go i H'/\∀x H'',J.yld i H' x H''->Same H' H''/\Da G H'' (λa=>ci=true->(Lf C fp1 ex a/\H1 a≠none)) x d)/\(ds[i]? =none->J.stop i H'))
  (nd:caps.Nodup) (hD:H1 D=none) (hz:ds.length<=Xk) (h0:I 0 [] (blk own.length caps δ1))
  (turn:∀(i:Nat) (d:Xa) (rs:List OT) (δ':Zg),ds[i]? =some d->I i rs δ'->g d δ' λδ2=>mt δ2 λb δ3=>if b=true then me δ3 λr δ4=>I (i+1) (rs ++ [r]) δ4 else I (i+1) rs δ3)
  (fin:∀H' σ' δ' fp' ys rs new,Z09 C H1 fp1 ex own.length caps (Zap own caps σ) D (pt&&pe) H' σ' δ' fp' ys rs new->I ds.length rs δ'->Qf H') :
  Z5w J (gM G (Zac own.length caps) ci g) (ttM G (Zac own.length caps) pt mt) (tM G (Zac own.length caps) pe true me) (Zap own caps σ) D Qf H1:=by
 have hx:Zh1 ex D fp1 (Jz own.length caps fp1) D:=.inr (.inl rfl)
 refine⟨λi n σ' H'=>n=ds.length-i/\i<=ds.length/\∃rs ys new δ' fp',Z09 C H1 fp1 ex own.length caps (Zap own caps σ) D (pt&&pe) H' σ' δ' fp' ys rs new/\ys.length<=i/\I i rs δ',⟨ds.length,rfl,JF _,[],[],[],_,_,⟨λb o e _=>Ye hD _ _ _ e,(Ye hD _).al,Zy,?_,λa z=>.inl z,.nil,.nil,λa m=>(nomatch m)⟩,XC _,h0⟩,?_⟩
 .exact(R1.block nd hD).drop λa z=>Zcw.mp z
 rintro i n σ2 H2 ⟨rfl,hle,rs,ys,new,δ2,fp2,B,hl,i2⟩
 have subB:∀b,Foot (Jz own.length caps fp1) b->Foot fp1 b:=λb q92=>by
  obtain⟨k,z⟩:=q92
  obtain⟨i,_,_,z⟩:=Zen z
  exact⟨i,z⟩
 have itk:=it H2 B.keep i
 by_cases hlt:i<ds.length
 case neg=>
  have e:i=ds.length:=by omega
  subst e
  exact .inl ⟨itk.2 (by simp),fin H2 σ2 δ2 fp2 ys rs new B i2⟩
 have hd:ds[i]? =some ds[i]:=Xx hlt
 obtain⟨go,yl⟩:=itk.1 _ hd
 refine .inr ⟨go,λx H3 hy=>?_⟩
 obtain⟨s3,q3⟩:=yl x H3 hy
 have R3:=B.rel.mk0 s3
 have D3:H3 D=some (.lst ys):=s3 _ _ B.dat
 -- the item,clean in the block
 have q3':Da G H3 (λa=>ci=true->Lf (Z1x C H1 fp1 (Zap own caps σ)) fp2 (exu (Zh1 ex D fp1 (Jz own.length caps fp1)) new) a) x ds[i]:=by
  refine q3.wide λa l _ z=>?_
  obtain⟨⟨l1,l2,l3⟩,l4⟩:=l z
  refine⟨λw=>?_,λw=>?_,.inl ⟨l3,l1⟩⟩
  .rcases B.grow a w with w|w
   .exact l1 (subB a w)
   .exact l4 w
  .rcases w with(w|w|w)|w
   .exact l2 w
   .subst w;exact l4 hD
   .exact l1 w.1
   .exact l4 (B.fresh a w).1
 refine⟨_,δ2,fp2,_,_,_,R3,q3',turn i _ rs δ2 hd i2,λσ4 δ4 fp4 R4 k4 h4=>?_⟩
 refine⟨_,δ4,fp4,_,_,R4,h4,λH5 b δ5 fp5 R5 S5 h5=>?_⟩
 -- the state behind the test
 have keep5:∀b o,H1 b=some o->((pt&&pe)=true\/¬Foot (Jz own.length caps fp1) b)->H5 b=some o:=λb o e q=>by
  refine S5.keep b o (s3 _ _ (B.keep b o e q)) ?_
  rcases q with q|q
  .rw[XX]at q;exact .inl q.1
  .refine .inr λz=>?_
   rcases k4.grow b z with z|z
   .rcases B.grow b z with z|z
    .exact q z
    .rw[e]at z;cases z
   .rw[s3 _ _ (B.keep b o e (.inr q))]at z;cases z
 have al5:∀b,H5 b=none->H1 b=none:=λb e=>B.al b (s3.al b (S5.al b e))
 have grow4:∀a,Foot fp4 a->Foot (Jz own.length caps fp1) a\/H1 a=none:=λa z=>by
  rcases k4.grow a z with z|z
  .exact B.grow a z
  .exact .inr (B.al a (s3.al a z))
 have grow5:∀a,Foot fp5 a->Foot (Jz own.length caps fp1) a\/H1 a=none:=λa z=>by
  rcases S5.grow a z with z|z
  .exact grow4 a z
  .exact .inr (B.al a (s3.al a z))
 have D5:H5 D=some (.lst ys):=S5.keep D _ D3 (.inr λ⟨k,z⟩=>R4.dx k D z (.inl hx))
 have own3:=B.own.same s3
 -- the items so far behind the target and the test
 have own4:Owns G H3 (λa=>true=true->Lf (Z1x C H1 fp1 (Zap own caps σ)) fp4 (exu (Zh1 ex D fp1 (Jz own.length caps fp1)) new) a) ys rs new:=by
  refine own3.wide λa l q z=>?_
  obtain⟨l1,l2,l3⟩:=l z
  exact⟨λw=>(k4.grow a w).elim l1 q,l2,l3⟩
 have own5:=R4.owns_step (ex':=exu (Zh1 ex D fp1 (Jz own.length caps fp1)) new) S5 (c:=true) (.inr rfl) (λa z=>.inl z) (λa m=>.inr m) own4
 dsimp only at h5|-
 cases b with
 | false=>
  rw[if_neg Xm]at h5|-
  exact⟨ds.length-(i+1),by omega,rfl,hlt,rs,ys,new,δ5,fp5,⟨keep5,al5,D5,R5,grow5,own5,B.nd,B.fresh⟩,by omega,h5⟩
 | true=>
  rw[if_pos rfl]at h5|-
  refine⟨_,δ5,fp5,_,_,R5,h5,λH6 v r δ6 fp6 nr r6 h6=>?_⟩
  have D6:H6 D=some (.lst ys):=r6.stp.keep D _ D5 (.inr λ⟨k,z⟩=>R5.dx k D z (.inl hx))
  have hDnr:D∉nr:=λz=>by
   have:=r6.fresh D z
   rw[D5]at this;cases this
  have own6:=R5.owns_step (ex':=exu (exu (Zh1 ex D fp1 (Jz own.length caps fp1)) new) nr) r6.stp (c:=true) (.inr rfl) (λa z=>z.imp id λz=>r6.fresh a z) (λa m=>.inr m) own5
  have eqx:∀a,exu (Zh1 ex D fp1 (Jz own.length caps fp1)) (new ++ nr) a->exu (exu (Zh1 ex D fp1 (Jz own.length caps fp1)) new) nr a:=λa z=>by
   rcases z with z|z
   .exact .inl (.inl z)
   .rcases Qq.mp z with z|z
    .exact .inl (.inr z)
    .exact .inr z
  have lw:∀a,(true=true->Lf (Z1x C H1 fp1 (Zap own caps σ)) fp6 (exu (exu (Zh1 ex D fp1 (Jz own.length caps fp1)) new) nr) a)->H6 a≠none->(true=true->Lf (Z1x C H1 fp1 (Zap own caps σ)) fp6 (exu (Zh1 ex D fp1 (Jz own.length caps fp1)) (new ++ nr)) a) :=
   λa l _ z=>⟨(l z).1,λw=>(l z).2.1 (eqx a w),(l z).2.2⟩
  have ownA:=(own6.snoc r6.own).wide lw
  refine⟨ys,D6,by omega,ds.length-(i+1),by omega,rfl,hlt,rs ++ [r],ys ++ [v],new ++ nr,δ6,fp6,⟨λb o e q=>?_,λb e=>?_,Zy,?_,λa z=>?_,?_,?_,λa m=>?_⟩,by rw[X7];show ys.length+1<=i+1;omega,h6⟩
  .have nD:b≠D:=λz=>by rw[z,hD]at e;cases e
   rw[Zt nD]
   refine r6.stp.keep b o (keep5 b o e q) ?_
   rcases q with q|q
   .rw[XX]at q;exact .inl q.2
   .refine .inr λz=>?_
    rcases grow5 b z with z|z
    .exact q z
    .rw[e]at z;cases z
  .by_cases q:b=D
   .subst q;rw[Zy]at e;cases e
   .rw[Zt q]at e
    exact al5 b (r6.stp.al b e)
  .exact(r6.rel.drop eqx).poke (.inl hx) D6 hD
  .rcases r6.stp.grow a z with z|z
   .exact grow5 a z
   .exact .inr (al5 a z)
  .exact ownA.poke D6 (λz=>(z rfl).2.1 (.inl hx)) (λm=>by
    rcases Qq.mp m with m|m
    .exact(B.fresh D m).2 rfl
    .exact hDnr m)
  .refine Vs.mpr ⟨B.nd,r6.nd,λa m b m' z=>?_⟩
   subst z
   obtain⟨xs,e⟩:=own5.some a m
   rw[r6.fresh a m']at e;cases e
  .rcases Qq.mp m with m|m
   .exact B.fresh a m
   .exact⟨al5 a (r6.fresh a m),λz=>hDnr (z▸m)⟩
end
section
variable {pt pe ci:Bool}{g:MGt}{mt:MTt}{me:MEt}{mi:MIt}
def Z7b(m:MEt):MEt:=λδ K=>m δ λr δ'=>Zbg r.data=true/\K (.fz r.data) δ'
theorem Z7r(h:ME X io p c e m):ME X io p true e (Z7b m):=by
 obtain⟨_,A,s⟩:=h
 exact⟨_,A,λC H σ δ fp ex K Q R h k=>s C H σ δ fp ex _ _ R h λH' v r δ' fp' new r1 h1=>k H' v _ δ' fp' [] (r1.fzs R h1.1) h1.2⟩
def Z7o(n:Nat)(caps:List Nat)(ds:List Xa)(g:MGt)(mt:MTt)(me:MEt)(δ1:Zg)(K:OT->Zg->Prop):Prop:=ds.length<=Xk/\∃I:Nat->List OT->Zg->Prop,I 0 [] (blk n caps δ1)/\
 (∀ (i:Nat) (d:Xa) (rs:List OT) (δ':Zg),ds[i]? =some d->I i rs δ'->g d δ' λδ2=>mt δ2 λb δ3=>if b=true then me δ3 λr δ4=>I (i+1) (rs ++ [r]) δ4 else I (i+1) rs δ3)/\
 ∀rs δ',I ds.length rs δ'->K (.nd rs) δ1
def Zg5(n:Nat)(caps:List Nat)(mi:MIt)(g:MGt)(mt:MTt)(me:MEt):MEt:=λδ K=>mi δ λds δ1=>Z7o n caps ds g mt me δ1 K
theorem Zxu{wi:TI}(si:SI G io p ci wi mi)(nd:caps.Nodup)(hp:(pt&&pe)=true) :
  SE G io p true (Z47 own caps wi (gM G (Zac own.length caps) ci g) (ttM G (Zac own.length caps) pt mt) (tM G (Zac own.length caps) pe true me)) (Zg5 own.length caps mi g mt me):=by
 intro C H σ δ fp ex K Q R h k
 refine si C H σ δ fp ex _ _ R h λJ H1 ds δ1 fp1 R1 S1 it h1 D hD=>?_
 obtain⟨hz,I,h0,turn,fin⟩:=h1
 refine Zw8 I R1 (λH' kp=>it H' λb o e _=>kp b o e (.inl hp)) nd hD hz h0 turn λH' σ' δ' fp' ys rs new B i'=>?_
 have s:Same H1 H':=λb o e=>B.keep b o e (.inl hp)
 refine k H' (.ref D) (.nd rs) δ1 fp1 (D :: new) (RE.tree R R1 S1 s (λa m=>?_) (Qm.mpr ⟨λm=>(B.fresh D m).2 rfl,B.nd⟩) (.nd B.dat (B.own.wide λa l _=>?_))) (fin rs δ' i')
 .rcases Xo.mp m with rfl|m
  .exact hD
  .exact(B.fresh a m).1
 .refine⟨?_,λm=>?_⟩
  .rcases Yb2 (λa z=>.inl (.inl z)) (l rfl)with z|z
   .exact .inl λ_=>z
   .exact .inr z
  .rcases Xo.mp m with z|z
   .exact(l rfl).2.1 (.inl (.inr (.inl z)))
   .exact(l rfl).2.1 (.inr z)
variable {sc:Ud}{pos:Pos}
theorem Z81(S:CompScope X own caps N' sc)(hc:X.calm=true)(nd:caps.Nodup)(hi:MI X io p ci tg iter mi)
  (hg:∀C cells s₂ H₂ fp,MG (Y4 X N' sc C cells s₂ H₂ fp) (Zac own.length caps) ci tg g) (ht:∀C cells s₂ H₂ fp,MIfs (Y4 X N' sc C cells s₂ H₂ fp) (Zac own.length caps) pt ifs mt) (he:∀C cells s₂ H₂ fp,ME (Y4 X N' sc C cells s₂ H₂ fp) (Zac own.length caps) pe true elt me)
  (hp:(pt&&pe)=true:=by rfl) (hs:∀x,Ba iter X.env x=pure x:=by intro _;rfl):ME X io p true (.ListComp elt [⟨tg,iter,ifs,0⟩] sc pos) (Zg5 own.length caps mi g mt me):=by
 obtain⟨_,A,si⟩:=hi
 exact⟨_,Z31 S hc A (λC cells s₂ H₂ fp=>(hg C cells s₂ H₂ fp).canon) (λC cells s₂ H₂ fp=>(ht C cells s₂ H₂ fp).canon) (λC cells s₂ H₂ fp=>(he C cells s₂ H₂ fp).canon) hs,Zxu si nd hp⟩
section
variable {y:Str}
theorem Zay(own':Bool)(hN:X.N.Nodup)(hy:X.N[i]? =some y)(hx:Loc X.env.scope y)(S:CompScope X own caps N' sc)(hc:X.calm=true)(nd:caps.Nodup)(hi:MI X io p ci tg iter mi)
  (hg:∀C cells s₂ H₂ fp,MG (Y4 X N' sc C cells s₂ H₂ fp) (Zac own.length caps) ci tg g) (ht:∀C cells s₂ H₂ fp,MIfs (Y4 X N' sc C cells s₂ H₂ fp) (Zac own.length caps) pt ifs mt) (he:∀C cells s₂ H₂ fp,ME (Y4 X N' sc C cells s₂ H₂ fp) (Zac own.length caps) pe true elt me)
  (hp:(pt&&pe)=true:=by rfl) (hio:i∉io:=by decide)
  (hsw:BK (.ListComp elt [⟨tg,iter,ifs,0⟩] sc pos) (some (.Name y py)) spos.line X.env=pure true:=by rfl)
  (hs:∀x,Ba iter X.env x=pure x:=by intro _;rfl) (hf:X.fn y=true\/X.env.scope.names.lookup y=some .local:=by first|exact .inl rfl|exact .inr rfl|assumption) :
  MS X io (.Assign [.Name y py] (.ListComp elt [⟨tg,iter,ifs,0⟩] sc pos) spos) (if own'=true then Zn3 i (Zg5 own.length caps mi g mt me)else Z6v i (Zg5 own.length caps mi g mt me)):=by
 obtain⟨_,A,si⟩:=hi
 refine⟨_,Zky (g:=gM X.K (Zac own.length caps) ci g) (tt:=ttM X.K (Zac own.length caps) pt mt) (te:=tM X.K (Zac own.length caps) pe true me) hN hy hx S hc A (λC cells s₂ H₂ fp=>(hg C cells s₂ H₂ fp).canon) (λC cells s₂ H₂ fp=>(ht C cells s₂ H₂ fp).canon) (λC cells s₂ H₂ fp=>(he C cells s₂ H₂ fp).canon) hsw hs hf,?_⟩
 cases own'
 .exact Yiv (Zxu si nd hp) hio
 .exact Z21 (Zxu si nd hp) hio
end
end
section
variable {σ:St}
theorem Inv.lstQ(hK:X.K=K)(I:Inv X pins σ H s)(hH:SqL K H l xs):∃(its:List Xe) (n:Nat),Vals xs its/\xs.length=its.length/\∃o,s.heap.get? l=some o/\o.cls= .type "list"/\o.dict=none/\o.data= .seq its.toArray n:=by
 subst hK
 obtain⟨its,r,⟨o,n,e,h1,h2,h3⟩,_⟩:=I.list hH
 exact⟨its,n,r,r.length,o,e,h1,h2,h3⟩
end
def asI(d:Xa)(k:Int->Prop):Prop:=match d with| .int i=>k i|_=>False
def asL(d:Xa)(k:List Xa->Prop):Prop:=match d with| .list ds=>k ds|_=>False
section
variable {d:Xa}
theorem Da.intInv{k:Int->Prop}(q:Da G H L v d)(h:asI d k):∃i,v= .int i/\k i:=by
 cases q with
 | int b=>exact⟨b,rfl,h⟩
 | _=>exact h.elim
theorem Da.lstInv{k:List Xa->Prop}(q:Da G H L v d)(h:asL d k):∃a xs ds,v= .ref a/\SqL G H a xs/\Das G H L xs ds/\k ds:=by
 cases q with
 | lst l e r=>exact⟨_,_,_,rfl,.inl e,r,h⟩
 | scr s=>exact⟨_,_,_,rfl,s.sq,.ints _,h⟩
 | _=>exact h.elim
end
def d2I(C:Int->Int->Prop)(g:Int->Int->Xa):Xa->Xa->(Xa->Prop)->Prop:=λd e k=>asI d λi=>asI e λj=>C i j/\k (g i j)
def Zzr(g:Int->Int->Xa):Xa->Xa->(Xa->Prop)->Prop:=λd e k=>asI d λi=>asI e λj=>k (g i j)
theorem Z9g{C:Int->Int->Prop}{f:Int->Int->Int}:P2s G (rI C λi j=>.int (f i j)) (d2I C λi j=>.int (f i j)):=λH L x y d e k Q hx hy h kk=>by
 obtain⟨i,rfl,h⟩:=hx.intInv h
 obtain⟨j,rfl,h⟩:=hy.intInv h
 exact⟨i,j,rfl,rfl,h.1,kk _ _ (.int _) h.2⟩
structure MulOk(i j:Int):Prop where
 ok:IntMulOk i j
structure Yh4(i j:Int):Prop where
 ok:DivOk i j
structure Yhf(i j:Int):Prop where
 ok:Yc8 i j
theorem Z92{f:Int->Int->Int}:P2s G (rI IntMulOk λi j=>.int (f i j)) (d2I MulOk λi j=>.int (f i j)):=λH L x y d e k Q hx hy h kk=>by
 obtain⟨i,rfl,h⟩:=hx.intInv h
 obtain⟨j,rfl,h⟩:=hy.intInv h
 exact⟨i,j,rfl,rfl,h.1.ok,kk _ _ (.int _) h.2⟩
theorem Z8r{f:Int->Int->Int}:P2s G (rI DivOk λi j=>.int (f i j)) (d2I Yh4 λi j=>.int (f i j)):=λH L x y d e k Q hx hy h kk=>by
 obtain⟨i,rfl,h⟩:=hx.intInv h
 obtain⟨j,rfl,h⟩:=hy.intInv h
 exact⟨i,j,rfl,rfl,h.1.ok,kk _ _ (.int _) h.2⟩
theorem Z72{f:Int->Int->Int}:P2s G (rI Yc8 λi j=>.int (f i j)) (d2I Yhf λi j=>.int (f i j)):=λH L x y d e k Q hx hy h kk=>by
 obtain⟨i,rfl,h⟩:=hx.intInv h
 obtain⟨j,rfl,h⟩:=hy.intInv h
 exact⟨i,j,rfl,rfl,h.1.ok,kk _ _ (.int _) h.2⟩
theorem Zwb{f:Int->Int->Int}:P2s G (rI0 λi j=>.int (f i j)) (Zzr λi j=>.int (f i j)):=λH L x y d e k Q hx hy h kk=>by
 obtain⟨i,rfl,h⟩:=hx.intInv h
 obtain⟨j,rfl,h⟩:=hy.intInv h
 exact⟨i,j,rfl,rfl,kk _ _ (.int _) h⟩
theorem Zfw{f:Int->Int->Bool}:P2s G (rI0 λi j=>.bl (f i j)) (Zzr λi j=>.bool (f i j)):=λH L x y d e k Q hx hy h kk=>by
 obtain⟨i,rfl,h⟩:=hx.intInv h
 obtain⟨j,rfl,h⟩:=hy.intInv h
 exact⟨i,j,rfl,rfl,kk _ _ (.bl _) h⟩
def Yhz(K:Xb):R2:=λx y H Q=>∃(L L':Addr->Prop) (d e:Xa),Da K H L x d/\Da K H L' y e/\Shp d/\Shp e/\Q (.bl (QL d e)) H
def Yi5(K:Xb):R2:=λx y H Q=>∃(L L':Addr->Prop) (d e:Xa),Da K H L x d/\Da K H L' y e/\Shp d/\Shp e/\Q (.bl (!QL d e)) H
theorem Zex(hu:X.A.units+64<UV):OpR X (QS .Eq) (Yhz X.K):=by
 intro pins s σ H x y v u Q I rx ry h
 obtain⟨L,L',d,e,h1,h2,s1,s2,q⟩:=h
 obtain⟨as,k1⟩:=h1.reads rfl I rx (Uc s1)
 obtain⟨bs,k2⟩:=h2.reads rfl I ry (Uc s2)
 exact eq_dataH k1 k2 s1 s2 hu ⟨.bl _,H,I,rfl,q⟩
theorem Zne(hu:X.A.units+64<UV):OpR X (QS .NotEq) (Yi5 X.K):=by
 intro pins s σ H x y v u Q I rx ry h
 obtain⟨L,L',d,e,h1,h2,s1,s2,q⟩:=h
 obtain⟨as,k1⟩:=h1.reads rfl I rx (Uc s1)
 obtain⟨bs,k2⟩:=h2.reads rfl I ry (Uc s2)
 exact ne_dataH k1 k2 s1 s2 hu ⟨.bl _,H,I,rfl,q⟩
structure Yak(d:Xa):Prop where
 ok:Shp d
def dEq:Xa->Xa->(Xa->Prop)->Prop:=λd e k=>Yak d/\Yak e/\k (.bool (QL d e))
def dNe:Xa->Xa->(Xa->Prop)->Prop:=λd e k=>Yak d/\Yak e/\k (.bool (!QL d e))
theorem Zj6:P2s G (Yhz G) dEq:=λH L x y d e k Q hx hy h kk=>⟨L,L,d,e,hx,hy,h.1.ok,h.2.1.ok,kk _ _ (.bl _) h.2.2⟩
theorem Zu1:P2s G (Yi5 G) dNe:=λH L x y d e k Q hx hy h kk=>⟨L,L,d,e,hx,hy,h.1.ok,h.2.1.ok,kk _ _ (.bl _) h.2.2⟩
def Zdr:Xa->Bool
 | .none=>true
 | _=>false
theorem Da.isNone{d:Xa}(h:Da G H L v d):decide (v= .non)=Zdr d:=by
 cases h<;>rfl
def Yiy:Xa->Xa->(Xa->Prop)->Prop:=λd e k=>e= .none/\k (.bool (Zdr d))
theorem Z1g:P2s G (λx y H Q=>y= .non/\Q (.bl (decide (x= .non))) H) Yiy:=λH L x y d e k Q hx hy h kk=>by
 obtain⟨rfl,h⟩:=h
 cases hy
 exact⟨rfl,by rw[hx.isNone];exact kk _ _ (.bl _) h⟩
def scD:Xa->Bool
 | .none=>true
 | .bool _=>true
 | .int _=>true
 | .str _=>true
 | _=>false
def eqS:Xa->Xa->Bool
 | .none,.none=>true
 | .bool a,.bool b=>a==b
 | .bool a,.int b=>(if a then 1 else 0)==b
 | .int a,.bool b=>a==(if b then 1 else 0)
 | .int a,.int b=>a==b
 | .str a,.str b=>a==b
 | _,_=>false
def memS(d:Xa)(ds:List Xa):Bool:=ds.any λe=>eqS e d
theorem Da.toSc{d:Xa}(h:Da G H L v d)(s:scD d=true):ScD v d:=by
 cases h with
 | non=>exact .non
 | bl b=>exact .bl b
 | int i=>exact .int i
 | str x=>exact .str x
 | _=>cases s
theorem Da.sc{d:Xa}(h:Da G H L v d)(s:scD d=true):Zjr v=true:=by
 cases h.toSc s<;>rfl
theorem Das.sc{vs:List V}{ds:List Xa}(h:Das G H L vs ds):ds.all scD=true->vs.all Zjr=true :=
 Das.ind (Q:=λvs ds=>ds.all scD=true->vs.all Zjr=true) (λ_=>rfl) (λh _ r s=>by
  rw[List.all_cons,XX]at s
  rw[List.all_cons,h.sc s.1,r s.2];rfl) h
theorem Da.eqS{u:V}{d e:Xa}(h:Da G H L v d)(g:Da G H L u e)(s:scD d=true)(t:scD e=true):eqV v u=L2.eqS d e:=by
 cases h.toSc s<;>cases g.toSc t<;>rfl
theorem Das.memS{d:Xa}(h:Da G H L v d)(s:scD d=true){vs:List V}{ds:List Xa}(g:Das G H L vs ds):ds.all scD=true->inV v vs=L2.memS d ds :=
 Das.ind (Q:=λvs ds=>ds.all scD=true->inV v vs=L2.memS d ds) (λ_=>rfl) (λg _ r t=>by
  rw[List.all_cons,XX]at t
  have:=r t.2
  unfold inV L2.memS at*
  rw[V2,V2,this,g.eqS h t.1 s]) g
def dIn(neg:Bool):Xa->Xa->(Xa->Prop)->Prop:=λd e k=>scD d=true/\match e with
 | .list ds=>ds.all scD=true/\k (.bool (if neg then !memS d ds else memS d ds))
 | .tuple ds=>ds.all scD=true/\k (.bool (if neg then !memS d ds else memS d ds))
 | _=>False
theorem Z29{neg:Bool}:P2s G (rIn G neg) (dIn neg):=λH L x y d e k Q hx hy h kk=>by
 obtain⟨s,h⟩:=h
 cases hy with
 | lst l e r=>exact⟨_,_,rfl,.inl (.inl e),hx.sc s,r.sc h.1,by rw[Das.memS hx s r h.1];exact kk _ _ (.bl _) h.2⟩
 | tup e r=>exact⟨_,_,rfl,.inr (.inl (.inl e)),hx.sc s,r.sc h.1,by rw[Das.memS hx s r h.1];exact kk _ _ (.bl _) h.2⟩
 | scr ks=>exact⟨_,_,rfl,.inl ks.sq,hx.sc s,(Das.ints (G:=G) (H:=H) (L:=L) _).sc h.1,by rw[Das.memS hx s (Das.ints (G:=G) (H:=H) (L:=L) _) h.1];exact kk _ _ (.bl _) h.2⟩
 | _=>exact h.elim
def ixD(d e:Xa):Option Xa:=match d,e with
 | .list ds,.int i=>atI ds i
 | .tuple ds,.int i=>atI ds i
 | _,_=>none
def dIx:Xa->Xa->(OT->Prop)->Prop:=λd e k=>match ixD d e with|some x=>k (.fz x)|none=>False
theorem Das.atI{ds:List Xa}{i:Int}{d:Xa}(h:Das G H L xs ds)(e:L2.atI ds i=some d):∃x,L2.atI xs i=some x/\Da G H L x d:=by
 unfold L2.atI at*
 rw[h.length]
 cases q:ixN ds.length i with
 | none=>rw[q]at e;cases e
 | some j=>
  rw[q]at e
  exact h.get e
theorem Ye4:P2 G (rIx G) dIx:=λH L x y d e k Q hx hy h kk=>by
 unfold dIx at h
 split at h
 case h_2=>exact h.elim
 rename_i z ez
 have fin:∀v,Da G H L v z->Q v H:=λv q=>kk H v (.fz z) [] (Same.refl _) (.fz (q.wide λa l _=>⟨.inl l,λm=>nomatch m⟩)) .nil (λa m=>nomatch m) h
 cases hx with
 | lst l e1 r=>
  cases hy with
  | int i=>
   obtain⟨v,e2,q⟩:=r.atI (show L2.atI _ i=some z from ez)
   exact .inl ⟨_,_,i,v,rfl,rfl,.inl e1,e2,fin v q⟩
  | _=>cases ez
 | tup e1 r=>
  cases hy with
  | int i=>
   obtain⟨v,e2,q⟩:=r.atI (show L2.atI _ i=some z from ez)
   exact .inr (.inl ⟨_,_,i,v,rfl,rfl,.inl (.inl e1),e2,fin v q⟩)
  | _=>cases ez
 | scr ks=>
  cases hy with
  | int i=>
   obtain⟨v,e2,q⟩:=(Das.ints (G:=G) (H:=H) (L:=L) _).atI (show L2.atI _ i=some z from ez)
   exact .inl ⟨_,_,i,v,rfl,rfl,ks.sq,e2,fin v q⟩
  | _=>cases ez
 | _=>cases ez
theorem Own.list{p:Addr}{ds:List Xa}(hp:H p=none)(h:Das G H L xs ds):Own G (upd H p (.lst xs)) (λa=>(L a\/H a=none)/\a∉[p]) (.ref p) (.nd (ds.map OT.fz)) [p] :=
 .nd Zy (((h.wide λa l q=>⟨.inl l,λm=>q (by rw[Xn.mp m];exact hp)⟩).same (Ye hp _)).owns)
theorem Zct{p:Addr}(hp:H p=none):∀a∈[p],H a=none:=λa m=>by rw[Xn.mp m];exact hp
theorem Ze1(p:Addr):[p].Nodup:=Qm.mpr ⟨λm=>(nomatch m),.nil⟩
def n1(k:Xa->Prop)(ds:List Xa):Prop:=match ds with|[d]=>k d|_=>False
def n2(k:Xa->Xa->Prop)(ds:List Xa):Prop:=match ds with|[d,e]=>k d e|_=>False
theorem Das.one{vs:List V}{ds:List Xa}{k:Xa->Prop}(q:Das G H L vs ds)(h:n1 k ds):∃v d,vs=[v]/\ds=[d]/\Da G H L v d/\k d:=by
 cases q with
 | nil=>exact h.elim
 | cons q r=>
  cases r with
  | nil=>exact⟨_,_,rfl,rfl,q,h⟩
  | cons _ _=>exact h.elim
def Zzi:Xa->Option Nat
 | .list ds=>some ds.length
 | .tuple ds=>some ds.length
 | _=>none
def Yi6:List Xa->(Xa->Prop)->Prop:=λds k=>n1 (λd=>match Zzi d with|some n=>k (.int n)|none=>False) ds
theorem Zt6:PNs G (Yjm G) Yi6:=λH L xs ds k Q hx h kk=>by
 obtain⟨v,d,rfl,rfl,q,h⟩:=hx.one h
 cases q with
 | lst l e r=>exact⟨_,_,rfl,.inl (.inl e),by rw[r.length];exact kk _ _ (.int _) h⟩
 | tup e r=>exact⟨_,_,rfl,.inr (.inl (.inl e)),by rw[r.length];exact kk _ _ (.int _) h⟩
 | scr ks=>exact⟨_,_,rfl,.inl ks.sq,by rw[(Das.ints (G:=G) (H:=H) (L:=L) _).length];exact kk _ _ (.int _) h⟩
 | _=>exact h.elim
def Yg4:List Xa->(Xa->Prop)->Prop:=λds k=>n1 (λd=>asI d λi=>k (.int (if i<0 then -i else i))) ds
theorem Zwv:PNs G (λxs H Q=>∃i,xs=[.int i]/\Q (.int (if i<0 then -i else i)) H) Yg4:=λH L xs ds k Q hx h kk=>by
 obtain⟨v,d,rfl,rfl,q,h⟩:=hx.one h
 obtain⟨i,rfl,h⟩:=q.intInv h
 exact⟨i,rfl,kk _ _ (.int _) h⟩
def Zhv:Xa->Option (List Xa)
 | .list ds=>some ds
 | .tuple ds=>some ds
 | _=>none
def Z88:List Xa->(OT->Prop)->Prop:=λds k=>n1 (λd=>match Zhv d with|some es=>k (.nd (es.map OT.fz))|none=>False) ds
theorem Zpx:PN G (Ztl G) Z88:=λH L xs ds k Q hx h kk=>by
 obtain⟨v,d,rfl,rfl,q,h⟩:=hx.one h
 cases q with
 | lst l e r=>exact⟨_,_,rfl,.inl (.inl e),λp hp=>kk _ _ _ [p] (Ye hp _) (Own.list hp r) (Ze1 p) (Zct hp) h⟩
 | tup e r=>exact⟨_,_,rfl,.inr (.inl (.inl e)),λp hp=>kk _ _ _ [p] (Ye hp _) (Own.list hp r) (Ze1 p) (Zct hp) h⟩
 | scr ks=>exact⟨_,_,rfl,.inl ks.sq,λp hp=>kk _ _ _ [p] (Ye hp _) (Own.list hp (Das.ints _)) (Ze1 p) (Zct hp) h⟩
 | _=>exact h.elim
section
variable {a:Expr}{pos:Pos}
def Yin(m:MEt):MEt:=λδ K=>m δ λr δ'=>asI r.data λi=>K (.fz (.int (-i))) δ'
theorem Yb0(ha:ME X io p c a ma):ME X io p true (.UnaryOp .USub a pos) (Yin ma):=by
 obtain⟨_,A,s⟩:=ha
 exact⟨_,Ydk Z9s A,λC H σ δ fp ex K Q R h k=>s C H σ δ fp ex _ _ R h λH' v r δ' fp' new r1 h1=>by
  obtain⟨i,rfl,h1⟩:=(r1.da R).intInv h1
  exact⟨i,rfl,k H' _ _ δ' fp' [] (.fz r1.base r1.stp (.int _)) h1⟩⟩
def Zpd(T:String):Xa->Bool
 | .none=>false
 | .bool _=>T=="bool"||T=="int"
 | .int _=>T=="int"
 | .str _=>T=="str"
 | .list _=>T=="list"
 | .tuple _=>T=="tuple"
 | .dict _=>false
def Yjq(T:String)(m:MEt):MEt:=λδ K=>m δ λr δ'=>Zir r.data=false/\K (.fz (.bool (Zpd T r.data))) δ'
end
section
variable {g:Array GenState}{d:Drawn}{t:Nat}{os:OsState}{o:Obj}
theorem Z40(M:Model)(hx:h.get? a=some o)(hc:o.cls= .ref C):JD M h (typeOf (.ref a)) (.ref C):=hc▸(JD.ld hx).andThen .now
theorem Zyl(X:K.In h)(Z:Zhc K C)(hx:h.get? a=some o)(hc:o.cls= .ref C)(hq:R (.ok (.ret (.ref C))) ⟨h,g,d,t,os⟩) :
  codeAny (Qg prog w) A (.call (.builtin "getset_descriptor.__get__") ⟨[.builtin "object.__class__",.ref a,.ref C],[]⟩) R ⟨h,g,d,t,os⟩:=by
 have L1:JD (Qg prog w) h (isSubtype (.ref C) (.type (".".intercalate ("object.__class__".cutAt '.').dropLast))) true:=by
  rw[F.owner_object_class]
  exact PySem.W.looks_subIn X Z.isO
 have T5:(⟨h,g,d,t,os⟩:Xg).TypeIs (.builtin "object.__class__") "getset_descriptor" :=F.typeOf_object_class
 refine codeAny_call_builtin F.slot_gs_get.plain F.entry_gs_get (F.slot_gs_get.check _ _ _ _ _ _ _ _ T5 (F.args_gs_get _ _ _) ?_)
 repeat (any_goals (first|assumption|(with_reducible refine Uo hx ?_;rw[hc])|(with_reducible refine Xd (JD.at L1 ?_))|(with_reducible refine JD.at L1 ?_)|wp_step))
 refine⟨Code.quiet_builtin _ (by decide +kernel),codeAny_builtin F.entry_object_class ?_⟩
 repeat (any_goals (first|assumption|(with_reducible refine Uo hx ?_;rw[hc])|wp_step))
theorem Zr8{tk:Tok}{Q:Fin->Xg->Prop}(X:K.In h)(Z:Zhc K C)(hx:h.get? a=some o)(hc:o.cls= .ref C)(hq:Q (.done (.ret (.ref C))) ⟨h,g,d,t,os⟩) :
  XR (Qg prog w) A (Builtin.«object.__getattribute__» ⟨[.ref a,.str "__class__" tk],[]⟩) Q E ⟨h,g,d,t,os⟩:=by
 have T5:(⟨h,g,d,t,os⟩:Xg).TypeIs (.builtin "object.__class__") "getset_descriptor" :=F.typeOf_object_class
 have g5:=F.typeOf_object_class
 have g6:=F.slot_gs_get.lookup
 have g7:=F.slot_gs_set.lookup
 have L4:=PySem.W.looks_findIn (M:=Qg prog w) X Z.cl
 repeat (any_goals (first|assumption|(with_reducible refine Uo hx ?_;rw[hc])|(with_reducible refine Xd (JD.at L4 ?_))|(with_reducible refine JD.at L4 ?_)|wp_step))
 refine Zyl X Z hx hc ?_
 repeat (any_goals (first|assumption|wp_step))
theorem Zsf{nameV:Xe}{Q:Unit->Xg->Prop}(X:K.In h)(Z:Zhc K C)(hx:h.get? a=some o)(hc:o.cls= .ref C)(hq:Q () ⟨h,g,d,t,os⟩) :
  XR M A (checkBuiltinCall "BaseException.__getattribute__" ⟨[.ref a,nameV],[]⟩) Q E ⟨h,g,d,t,os⟩:=by
 have e1:builtinKind "BaseException.__getattribute__"=some .slot:=by decide +kernel
 have e2:splitId "BaseException.__getattribute__"=some ("BaseException","__getattribute__"):=by decide +kernel
 have L1:=PySem.W.looks_subIn (M:=M) X Z.isB
 have e3:=F.args_bexc_ga (.ref a) nameV
 simp only[checkBuiltinCall,e1,e2]
 refine Xd ?_
 unfold isInstance
 repeat (first|(with_reducible refine Uo hx ?_;rw[hc])|(with_reducible refine Xd (JD.at L1 ?_))|(with_reducible refine JD.at L1 ?_)|wp_step)
 exact hq
theorem Zs0{tk:Tok}(X:K.In h)(Z:Zhc K C)(hx:h.get? a=some o)(hc:o.cls= .ref C)(hq:R (.ok (.ret (.ref C))) ⟨h,g,d,t,os⟩) :
  codeAny (Qg prog w) A (.call (.builtin "BaseException.__getattribute__") ⟨[.ref a,.str "__class__" tk],[]⟩) R ⟨h,g,d,t,os⟩ :=
 codeAny_call_builtin F.excAttr_ValueError.ga.plain F.entry_bexc_ga (Zsf X Z hx hc (Zr8 X Z hx hc hq))
theorem Z5z{tk:Tok}{fill expr:Bool}(X:K.In h)(Z:Zhc K C)(hx:h.get? a=some o)(hc:o.cls= .ref C)(hq:Q (.ref C) ⟨h,g,d,t,os⟩) :
  XR (Qg prog w) A (getAttrBy (.ref a) (.str "__class__" tk) fill expr) Q E ⟨h,g,d,t,os⟩:=by
 have f3:=F.excAttr_ValueError.ga.bind (.ref a)
 have y0:(expr&&onTheHeap (Value.builtin "BaseException.__getattribute__"))=false:=by cases expr<;>rfl
 have y2:(Value.builtin "BaseException.__getattribute__"==Value.builtin "object.__getattribute__")=false:=by decide +kernel
 have y1:(onTheHeap (Qo C)&&Value.builtin "BaseException.__getattribute__"==Value.builtin "object.__getattribute__")=false:=by rw[y2];rfl
 have L2:=PySem.W.looks_findIn (M:=Qg prog w) X Z.ga
 have L3:=PySem.W.looks_findIn (M:=Qg prog w) X Z.gt
 repeat (any_goals (first|assumption|(with_reducible refine Uo hx ?_;rw[hc])|(with_reducible refine JD.at L2 ?_)|(with_reducible refine JD.at L3 ?_)|(with_reducible refine Xd (JD.at L2 ?_))|(with_reducible refine Xd (JD.at L3 ?_))|wp_step))
 refine Zs0 X Z hx hc ?_
 repeat (any_goals (first|assumption|wp_step))
theorem Zu5{Q:Option Xe->Xg->Prop}(X:K.In h)(Z:Zhc K C)(hx:h.get? a=some o)(hc:o.cls= .ref C)(hq:Q (some (.ref C)) ⟨h,g,d,t+1,os⟩) :
  XR (Qg prog w) A (getAttr? (.ref a) "__class__") Q E ⟨h,g,d,t,os⟩:=by
 unfold getAttr? getAttrBy?
 repeat (any_goals (first|assumption|with_reducible apply Z5z X Z hx hc|wp_step))
end
theorem Z0c(Z:Zhc K C):PySem.W.KitX K (.ref a) (.ref C) (λh=>∃o,h.get? a=some o/\o.cls= .ref C) where
 ty:=λM h _ p=>let⟨_,hx,hc⟩:=p;Z40 M hx hc
 it:=λM h X _=>by
  have z:=Z.isC
  unfold PySem.W.clsIn at z
  split at z
  .rename_i ho
   intro A' Q' E' s' k q
   unfold isType loadHead
   exact Xd (wpAny_loadPart (k _ _ (X _ _ ho)) (Xy q))
  .cases z
 ne:=λh tp dd its n sl X htp=>by
  have z:=Z.isC
  refine Bool.eq_false_iff.mpr λq=>?_
  have e:C=tp:=Qo.inj (beq_iff_eq.mp q)
  subst e
  unfold PySem.W.clsIn at z
  split at z
  .rename_i ho
   have z:=(X _ _ ho).symm.trans htp
   cases z
  .cases z
 ca:=fun{_ _ _ _ _ s} X p k=>by
  obtain⟨h,g,d,t,os⟩:=s
  obtain⟨_,hx,hc⟩:=p
  exact Zu5 X Z hx hc k
def tyD:Xa->String
 | .none=>"NoneType"
 | .bool _=>"bool"
 | .int _=>"int"
 | .str _=>"str"
 | .list _=>"list"
 | .tuple _=>"tuple"
 | .dict _=>"dict"
theorem Z0t{T:String}{d:Xa}(h:T="int"\/T="bool"\/T="str"\/T="list"\/T="tuple")(hd:∀kvs,d≠ .dict kvs):BZ K (.type (tyD d)) (.type T)=some (Zpd T d):=by
 rcases h with rfl|rfl|rfl|rfl|rfl<;>cases d<;>first|rfl|(exact absurd rfl (hd _))|(unfold BZ PySem.W.kitCls;rfl)|(simp only[tyD,Zpd];decide +kernel)
def Ye9(G:Xb):List V->Hp->VK->Prop:=λxs H Q=>∃(x:V) (T:String) (L:Addr->Prop) (d:Xa),xs=[x,.ty T]/\Da G H L x d/\Zir d=false/\(T="int"\/T="bool"\/T="str"\/T="list"\/T="tuple")/\Q (.bl (Zpd T d)) H
theorem Zua(hK:X.K=G):Zb3 X (.builtin "isinstance") (Ye9 G):=by
 subst hK
 intro pins s σ H xs us Q I r h
 obtain⟨x,T,L,d,rfl,q,hf,hT,h⟩:=h
 obtain⟨u,w',rfl,r1,r2⟩:=vals2 r
 cases(show w'=Value.type T from r2)
 have fin:∀tk:Nat,EP X pins σ Q (.bool (Zpd T d)) { s with toks:=tk }:=λtk=>⟨.bl _,H,I.tok tk,rfl,h⟩
 cases q with
 | non=>exact Za1 I r1 .non (Z0t (d:=.none) hT λ_ z=>by cases z) fin
 | bl b=>exact Za1 I r1 (.bl b) (Z0t (d:=.bool b) hT λ_ z=>by cases z) fin
 | int b=>exact Za1 I r1 (.int b) (Z0t (d:=.int b) hT λ_ z=>by cases z) fin
 | str b=>exact Za1 I r1 (.str b) (Z0t (d:=.str b) hT λ_ z=>by cases z) fin
 | lst l e qs=>
  rename_i ds
  rcases e with e|⟨o,e⟩
  .exact Za1 I r1 (.lst e) (Z0t (d:=.list ds) hT λ_ z=>by cases z) fin
  .exact Za1 I r1 (.frz e) (Z0t (d:=.list ds) hT λ_ z=>by cases z) fin
 | tup e qs=>
  rename_i ds
  exact Za1 I r1 (.tup e) (Z0t (d:=.tuple ds) hT λ_ z=>by cases z) fin
 | scr ks=>
  rename_i a ns
  cases(show u=Qo a from r1)
  obtain⟨its,vs,⟨o,n,ho,hc,hd,hs⟩,_⟩:=I.list (ks.sq (H:=H))
  exact QV PySem.W.kitx_list I.kIn ⟨o,ho,hc⟩ (Z0t (d:=.list (ns.map Xl)) hT λ_ z=>by cases z) (λz=>nomatch z) fin
 | exc Z hn e=>
  rename_i a C x
  cases(show u=Qo a from r1)
  obtain⟨⟨o,vs,ho,hc,_⟩,_,_⟩:=(show ObjOk X.prog X.w H s.heap a (.ext (ExO C a))from I.hok a _ e)
  refine QV (Z0c Z) I.kIn ⟨o,ho,hc⟩ (b:=Zpd T (exD x)) ?_ (λz=>nomatch z) fin
  rcases hT with rfl|rfl|rfl|rfl|rfl
  .exact Z.k1
  .exact Z.k2
  .exact Z.k3
  .exact Z.k4
  .exact Z.k5
 | fn _=>cases hf
 | dic _ _ _ _=>unfold dcD Zir at hf;cases hf
variable {a':Addr}{pe ci:Bool}{mi:MIt}{tk:Tok}
section
variable {a b:Expr}{pos:Pos}
theorem Zb1{T:Str}{T':String}(hT:T'="int"\/T'="bool"\/T'="str"\/T'="list"\/T'="tuple")(hg:Gl X "isinstance")(hm:X.mg "isinstance"=none)(hv:Qp "isinstance"=some (.builtin "isinstance"))
  (hg2:Gl X T) (hm2:X.mg T=none) (hv2:Qp T=some (.type T')) (ha:ME X io p c a ma) (hn:T≠"__name__" :=by decide) (hd:(T==("__debug__" : Str))=false:=by decide)
  (he:Xw [a,.Name T p2] X.env=(false,eval a X.env) :: Xw [.Name T p2] X.env:=by rfl) (he2:Xw [.Name T p2] X.env=(false,eval (.Name T p2) X.env) :: Xw [] X.env:=by rfl) (hpl:(Bg pos (Xw [.Name T p2] X.env)).any (·.1)=false:=by rfl) :
  ME X io p true (.Call (.Name "isinstance" pp) [a,.Name T p2] [] pos) (Yjq T' ma):=by
 obtain⟨_,A,s⟩:=ha
 refine⟨_,Zl9 (Zua rfl) hg hm hv (Zgq A (Zgq (Z3s (v:=.ty T') hg2 hm2 hv2 rfl hn hd) Zny he2) he) (by decide) (by decide) he hpl,?_⟩
 intro C H σ δ fp ex K' Q R h k
 refine s C H σ δ fp ex _ _ R h λH' v r δ' fp' new r1 h1=>?_
 exact⟨v,T',_,_,rfl,r1.da R,h1.1,hT,k H' _ _ δ' fp' [] (.fz r1.base r1.stp (.bl _)) h1.2⟩
abbrev MOt:=Zg->(Option Int->Zg->Prop)->Prop
def MO(X:Cx)(io:List Nat)(p:Bool)(e:Option Expr)(m:MOt):Prop:=∃t,PO X e t/\∀(C:MC X.K) (H:Hp) (σ:St) (δ:Zg) (fp:Fp) (ex:Addr->Prop) (K:Option Int->Zg->Prop) (Q:Option Int->Hp->Prop),Rel C io H σ δ fp ex->m δ K ->
 (∀ H' b δ' fp',Rel C io H' σ δ' fp' ex->Stp p H δ fp H' δ' fp'->K b δ'->Q b H')->t σ H Q
def Ztp:MOt:=λδ K=>K none δ
def Z74(m:MEt):MOt:=λδ K=>m δ λr δ'=>asI r.data λi=>K (some i) δ'
theorem Z5t:MO X io true none Ztp:=⟨_,Z44,λC H σ δ fp ex K Q R h k=>k H none δ fp R (.refl _ _ _ _) h⟩
theorem Zph(h:ME X io p c e m):MO X io p (some e) (Z74 m):=by
 obtain⟨_,A,s⟩:=h
 exact⟨_,Z4z A,λC H σ δ fp ex K Q R h k=>s C H σ δ fp ex _ _ R h λH' v r δ' fp' new r1 h1=>by
  obtain⟨i,rfl,h1⟩:=(r1.da R).intInv h1
  exact⟨i,rfl,k H' _ δ' fp' r1.base r1.stp h1⟩⟩
def cutD(ds:List Xa)(lo hi:Option Int):List Xa:=(ds.drop (HT.sIx ds.length 0 lo)).take (HT.sIx ds.length ds.length hi-HT.sIx ds.length 0 lo)
theorem Das.cut{ds:List Xa}(h:Das G H L xs ds)(lo hi:Option Int):Das G H L (Z6q xs lo hi) (cutD ds lo hi):=by
 unfold Z6q cutD
 rw[h.length]
 exact(h.drop _).take _
def mSl(m:MEt)(ml mh:MOt):MEt:=λδ K=>m δ λr δ1=>ml δ1 λlo δ2=>mh δ2 λhi δ3=>asL r.data λds=>K (.nd ((cutD ds lo hi).map OT.fz)) δ3
theorem Z75{lo hi:Option Expr}{ml mh:MOt}(ha:ME X io true c a ma)(hl:MO X io true lo ml)(hh:MO X io true hi mh):ME X io true c (.Subscript a (.Slice lo hi none p2) pos) (mSl ma ml mh):=by
 obtain⟨_,A,s⟩:=ha
 obtain⟨_,B,sl⟩:=hl
 obtain⟨_,D,sh⟩:=hh
 refine⟨_,Zxt (Zyg rfl) A B D,?_⟩
 intro C H σ δ fp ex K' Q R h k
 refine s C H σ δ fp ex _ _ R h λH1 v r δ1 fp1 new r1 h1=>?_
 refine sl C H1 σ δ1 fp1 ex _ _ r1.base h1 λH2 l δ2 fp2 R2 S2 h2=>?_
 refine sh C H2 σ δ2 fp2 ex _ _ R2 h2 λH3 u δ3 fp3 R3 S3 h3=>?_
 have s2:Same H1 H2:=λb o e=>S2.keep b o e (.inl rfl)
 have s3:Same H2 H3:=λb o e=>S3.keep b o e (.inl rfl)
 obtain⟨e1,e2⟩:=r1.stp.env rfl
 obtain⟨e3,e4⟩:=S2.env rfl
 obtain⟨e5,e6⟩:=S3.env rfl
 have q:=((r1.da R).same s2).same s3
 obtain⟨a',xs,ds,rfl,e,qs,h3⟩:=q.lstInv h3
 refine⟨a',xs,rfl,e,λp hp=>?_⟩
 have S:=(r1.stp.trans S2).trans S3
 refine k _ _ _ δ3 fp3 [p] (RE.tree R R3 S (Ye hp _) (Zct hp) (Ze1 p) (Own.list hp ((qs.cut l u).wide λa l _=>?_))) h3
 rw[e6,e4]
 exact l
theorem Owns.set{H:Hp}{L:Addr->Prop}{x:V}{r:OT}(hr:Own G H L x r []):∀{xs:List V} {ts:List OT} {as:List Addr} (j:Nat),Owns G H L xs ts as->∃bs,Owns G H L (xs.set j x) (ts.set j r) bs/\bs.Sublist as
 | _,_,_,_,.nil=>⟨[],.nil,.refl _⟩
 | _,_,_,0,.cons k t=>⟨_,.cons hr t,by simp⟩
 | _,_,_,j+1,.cons (as:=as) k t=>by
  obtain⟨bs,o,s⟩:=Owns.set hr j t
  exact⟨as ++ bs,.cons k o,List.Sublist.append_left s as⟩
theorem Owns.get:∀{xs:List V} {ts:List OT} {as:List Addr} {j:Nat} {t:OT},Owns G H L xs ts as->ts[j]? =JL t->∃x bs,xs[j]? =JL x/\Own G H L x t bs/\bs.Sublist as
 | _,_,_,_,_,.nil,e=>by simp at e
 | _,_,_,0,_,.cons k _,e=>by simp at e;subst e;exact⟨_,_,rfl,k,List.sublist_append_left _ _⟩
 | _,_,_,j+1,t,.cons _ r,e=>by
  obtain⟨x,bs,h1,h2,h3⟩:=Owns.get (j:=j) (t:=t) r (by simpa using e)
  exact⟨x,bs,by simpa using h1,h2,h3.trans (List.sublist_append_right _ _)⟩
theorem Rel.top{C:MC G}{σ:St}{ts':List OT}{bs bs':List Addr}(R:Rel C io H σ δ fp ex)(hi:δ[i]? =some (some (.nd ts)))(hv:σ[i]? =some (some (.ref a')))
  (hf:fp i=a' :: bs) (hx:H a'=some (.lst xs)) (o:Owns G H (Lf C fp ex) ys ts' bs') (hs:bs'.Sublist bs) :
  Rel C io (upd H a' (.lst ys)) σ (δ.set i (some (.nd ts'))) (fpu fp i (a' :: bs')) ex/\Stp false H δ fp (upd H a' (.lst ys)) (δ.set i (some (.nd ts'))) (fpu fp i (a' :: bs')):=by
 have nd:=R.nd i
 rw[hf]at nd
 have hn:=Qm.mp nd
 have hm:a'∈fp i:=by rw[hf];exact .head _
 have ne':∀a,¬Foot fp a->a≠a':=λa h z=>h ⟨i,by rw[z];exact hm⟩
 have kp:∀b o,H b=some o->b≠a'->upd H a' (.lst ys) b=some o:=λb o e n=>by rw[Zt n];exact e
 have sub:∀a,a∈a' :: bs'->a∈fp i:=λa m=>by
  rw[hf]
  rcases Xo.mp m with rfl|m
  .exact .head _
  .exact .tail _ (hs.subset m)
 have o':Owns G (upd H a' (.lst ys)) (Lf C (fpu fp i (a' :: bs')) (exu ex [])) ys ts' bs':=by
  have f0:∀a,¬Foot fp a->¬Foot (fpu fp i (a' :: bs')) a:=λa h z=>by
   rcases z.of_u with z|⟨j,_,z⟩
   .exact h ⟨i,sub a z⟩
   .exact h ⟨j,z⟩
  have f1:∀a (zs:MuO),Lf C fp ex a->Rd H a zs.ho->Lf C (fpu fp i (a' :: bs')) (exu ex []) a/\Rd (upd H a' (.lst ys)) a zs.ho:=λa zs l q=>by
   refine⟨⟨f0 a l.1,λz=>l.2.1 (Zcw.mp z),l.2.2⟩,?_⟩
   rcases q with q|⟨u,q⟩
   .exact .inl (kp a _ q (ne' a l.1))
   .exact .inr ⟨u,kp a _ q (ne' a l.1)⟩
  have f2:∀a (zs:ImO),H a=some zs.ho->upd H a' (.lst ys) a=some zs.ho:=λa zs q=>kp a _ q λz=>ImO.nl q (z▸hx)
  exact o.frame f1 f2 λa m zs q=>kp a _ q λz=>hn.1 (hs.subset (z▸m))
 have key:=R.change (new:=[]) (as':=a' :: bs') (t':=.nd ts') (H':=upd H a' (.lst ys)) hi hv (λb o e nb=>kp b o e λz=>nb (by rw[z];exact hm)) (λb e=>by
   by_cases q:b=a'
   .subst q;rw[Zy]at e;cases e
   .rwa[Zt q]at e) (.nd Zy o') (Qm.mpr ⟨λm=>hn.1 (hs.subset m),hn.2.sublist hs⟩) (λa m=>.inl (sub a m)) (λa m=>nomatch m)
 exact⟨key.1.drop λa z=>.inl z,key.2⟩
end
section
variable {a b:Expr}{mi mj:MEt}{pos:Pos}
theorem Rel.ownNd{C:MC G}{σ:St}(R:Rel C io H σ δ fp ex)(hi:δ[i]? =some (some (.nd ts))) :
  ∃a' xs bs,σ[i]? =some (some (.ref a'))/\H a'=some (.lst xs)/\Owns G H (Lf C fp ex) xs ts bs/\fp i=a' :: bs:=by
 obtain⟨v,e,o⟩:=R.own i _ hi
 generalize hf:fp i=as at o
 cases o with
 | nd h r=>exact⟨_,_,_,e,h,r,rfl⟩
def Zla(i:Nat)(m:MEt):MSt:=λD δ=>match δ[i]? with
 | some (some (.nd _))=>m δ λr δ1=>match δ1[i]? with
  | some (some (.nd ts))=>ts.length<Xk/\D.nx (δ1.set i (some (.nd (ts ++ [.fz r.data]))))
  | _=>False
 | _=>False
theorem Za9(i:Nat)(he:ME X io p true e m)(hN:X.N[i]? =some x:=by rfl)(hv:Vis X.env.scope x:=by first|exact Qw rfl|exact Qt (Qw rfl)|exact Qt (Qt rfl))(hd:(x==("__debug__" : Str))=false:=by decide)
  (hcd:(x==("__classdict__" : Str))=false:=by decide)
  (hbase:Ua (.Name x px) "append" X.env (eval (.Name x px) X.env)=eval (.Name x px) X.env:=by rfl)
  (hfew:((Bg cpos (Xw [e] X.env)).all (λx=>!x.1)&&(backToKw cpos (UT [] X.env)).all (λx=>x.1.isSome)
   &&decide ([e].length+([]:List V8).length+(if([]:List V8).isEmpty then 0 else 1)<30))=true:=by rfl)
  (hline:(apos.endLine==cpos.line)=true:=by rfl) (hs:Xw [e] X.env=(false,eval e X.env) :: Xw [] X.env:=by rfl) (hplain:(Bg cpos (Xw [] X.env)).any (·.1)=false:=by rfl)
  (hsw:BK (.Call (.Attribute (.Name x px) "append" apos) [e] [] cpos) none pos.line X.env=pure false:=by rfl) :
  MS X io (.Expr (.Call (.Attribute (.Name x px) "append" apos) [e] [] cpos) pos) (Zla i m):=by
 obtain⟨_,A,s⟩:=he
 refine⟨_,Zo9 (Zzx PySem.F.plainAttrs_list PySem.F.slot_list_append PySem.F.type_list_append Zjn (pv i hN hv hd hcd) (Zgq A Zny hs) hbase hfew hline hs hplain) hsw,λC H σ δ fp ex D D' R h E=>?_⟩
 unfold Zla at h
 split at h
 case h_2=>exact h.elim
 rename_i ts0 hi0
 obtain⟨a',xs0,bs0,hv0,hx0,_,_⟩:=R.ownNd hi0
 refine⟨_,hv0,.inl ⟨rfl,xs0,.inl (.inl hx0)⟩,?_⟩
 refine s C H σ δ fp ex _ _ R h λH1 v r δ1 fp1 new r1 h1=>?_
 split at h1
 case h_2=>exact h1.elim
 rename_i ts1 hi1
 have R1:=r1.base
 obtain⟨a1,xs1,bs1,hv1,hx1,o1,hf1⟩:=R1.ownNd hi1
 rw[hv0]at hv1
 cases hv1
 have q:=(r1.da R).wide (L':=Lf C fp1 ex) λa l _=>l rfl
 refine⟨a',xs1,v,rfl,rfl,hx1,by rw[o1.length];exact h1.1,?_⟩
 have o2:=o1.snoc (.fz q)
 obtain⟨R2,S2⟩:=R1.top hi1 hv0 hf1 hx1 o2 (by simp)
 exact E.nx _ σ _ _ R2 (r1.stp.kp.trans S2.kp) h1.2
def Yjc(i:Nat)(m mi:MEt):MSt:=λD δ=>m δ λr δ1=>match δ1[i]? with
 | some (some (.nd ts))=>mi δ1 λn _=>asI n.data λk=>match ixN ts.length k with
  | some j=>D.nx (δ1.set i (some (.nd (ts.set j (.fz r.data)))))
  | none=>False
 | _=>False
def Z63(i:Nat)(m mi mj:MEt):MSt:=λD δ=>m δ λr δ1=>match δ1[i]? with
 | some (some (.nd ts))=>mi δ1 λn _=>asI n.data λk=>match ixN ts.length k with
  | some j=>match ts[j]? with
   | some (.nd us)=>mj δ1 λn' _=>asI n'.data λk'=>match ixN us.length k' with
    | some j'=>D.nx (δ1.set i (some (.nd (ts.set j (.nd (us.set j' (.fz r.data)))))))
    | none=>False
   | _=>False
  | none=>False
 | _=>False
theorem SE.pureAfter{t:TE}{C:MC G}{σ:St}{K':OT->Zg->Prop}{Q:VK}(s:SE G io true c t m)(R:Rel C io H σ δ fp ex)(h:m δ K')(k:∀H' v r,Rel C io H' σ δ fp ex->Same H H'->Da G H' (λa=>c=true->Lf C fp ex a) v r.data->K' r δ->Q v H'):t σ H Q :=
 s C H σ δ fp ex _ _ R h λH1 v r δ1 fp1 new r1 h1=>by
  obtain⟨e1,e2⟩:=r1.stp.env rfl
  have q:=r1.da R
  have R1:=r1.base
  rw[e1]at R1 h1
  rw[e2]at R1 q
  exact k H1 v r R1 (λb o e=>r1.stp.keep b o e (.inl rfl)) q h1
theorem Z2a(i:Nat)(he:ME X io p true e m)(hj:ME X io true c a mi)(hN:X.N[i]? =some x:=by rfl)(hv:Vis X.env.scope x:=by first|exact Qw rfl|exact Qt (Qw rfl)|exact Qt (Qt rfl))(hd:(x==("__debug__" : Str))=false:=by decide)
  (hcd:(x==("__classdict__" : Str))=false:=by decide)
  (hpg:∀{to ti:TE},PE X (.Name x px) to->PE X a ti->PG X (.Subscript (.Name x px) a pp) (Ye7 to ti Z4i):=by intro _ _ A B;exact Z05 A B set_list)
  (hs:Uy [.Subscript (.Name x px) a pp] e pos.line X.env=pure false:=by rfl) (hw:Uz [.Subscript (.Name x px) a pp] e X.env=pure none:=by rfl)
  (h1:(Q6 [.Subscript (.Name x px) a pp] X.env).map (·.2)=[Ur (.Subscript (.Name x px) a pp) X.env]:=by rfl):MS X io (.Assign [.Subscript (.Name x px) a pp] e pos) (Yjc i m mi):=by
 obtain⟨_,A,s⟩:=he
 obtain⟨_,B,sj⟩:=hj
 refine⟨_,Zwq A (hpg (pv i hN hv hd hcd) B) hs hw h1,λC H σ δ fp ex D D' R h E=>?_⟩
 refine s C H σ δ fp ex _ _ R h λH1 v r δ1 fp1 new r1 h1=>?_
 have R1:=r1.base
 have q:=(r1.da R).wide (L':=Lf C fp1 ex) λa l _=>l rfl
 split at h1
 case h_2=>exact h1.elim
 rename_i ts hi
 obtain⟨a',_,_,hv0,_⟩:=R1.ownNd hi
 refine⟨_,hv0,?_⟩
 refine sj.pureAfter R1 h1 λH2 w n R2 s2 q2 h2=>?_
 obtain⟨k,rfl,h2⟩:=q2.intInv h2
 split at h2
 case h_2=>exact h2.elim
 rename_i j hj
 obtain⟨a2,xs,bs,hv2,hx,o,hf⟩:=R2.ownNd hi
 rw[hv0]at hv2
 cases hv2
 obtain⟨bs',o',hs'⟩:=Owns.set (.fz (q.same s2)) j o
 refine⟨a',xs,k,j,rfl,rfl,hx,by rw[o.length];exact hj,?_⟩
 obtain⟨R3,S3⟩:=R2.top hi hv0 hf hx o' hs'
 exact E.nx _ σ _ _ R3 (r1.stp.kp.trans (Kp.trans ⟨λb o e _=>s2 _ _ e,λz=>(nomatch z),λa z=>.inl z,s2.al⟩ S3.kp)) h2
theorem Owns.deep{b':Addr}{ws ws':List V}{us us':List OT}(hb:H b'=JL (HO.lst ws))(hL:¬L b')(hc:∀cs,Owns G H L ws us cs->∃cs',Owns G H L ws' us' cs'/\cs'.Sublist cs) :
  ∀{xs:List V} {ts:List OT} {as:List Addr} {j:Nat},Owns G H L xs ts as->as.Nodup->xs[j]? =JL (.ref b')->ts[j]? =JL (.nd us)->∃as',Owns G (upd H b' (.lst ws')) L xs (ts.set j (.nd us')) as'/\as'.Sublist as/\b'∈as
 | _,_,_,_,.nil,_,e,_=>by simp at e
 | _,_,_,0,.cons (as:=as) (bs:=bs) k t,nd,e,e'=>by
  simp at e e'
  subst e e'
  have nd':=Vs.mp nd
  have kp:∀a o,a≠b'->H a=JL o->upd H b' (.lst ws') a=JL o:=λa o n q=>by rw[Zt n];exact q
  have f1:∀a (zs:MuO),L a->Rd H a zs.ho->L a/\Rd (upd H b' (.lst ws')) a zs.ho:=λa zs l q=>⟨l,by
   have na:a≠b':=λz=>hL (z▸l)
   rcases q with q|⟨u,q⟩
   .exact .inl (kp a _ na q)
   .exact .inr ⟨u,kp a _ na q⟩⟩
  have f2:∀a (zs:ImO),H a=JL zs.ho->upd H b' (.lst ws') a=JL zs.ho:=λa zs q=>kp a _ (λz=>ImO.nl q (z▸hb)) q
  cases k with
  | nd h r=>
   rename_i xs0 as0
   rw[hb]at h
   cases h
   have nd2:=Qm.mp nd'.1
   obtain⟨cs',o',s'⟩:=hc _ r
   refine⟨b' :: cs' ++ bs,.cons (.nd Zy (o'.frame f1 f2 λa m zs q=>kp a _ (λz=>nd2.1 (s'.subset (z▸m))) q)) (t.frame f1 f2 λa m zs q=>kp a _ (λz=>nd'.2.2 b' (.head _) a m z.symm) q),List.Sublist.append_right (List.Sublist.cons₂ _ s') bs,VB _ (.head _)⟩
 | _,_,_,j+1,.cons (as:=as) (bs:=bs) k t,nd,e,e'=>by
  have nd':=Vs.mp nd
  obtain⟨as',o,s,m⟩:=Owns.deep hb hL hc (j:=j) t nd'.2.1 (by simpa using e) (by simpa using e')
  have nb:b'∉as:=λz=>nd'.2.2 b' z b' m rfl
  refine⟨as ++ as',.cons ?_ o,List.Sublist.append_left s as,Qi _ m⟩
  have kp:∀a o,a≠b'->H a=JL o->upd H b' (.lst ws') a=JL o:=λa o n q=>by rw[Zt n];exact q
  refine k.frame (λa zs l q=>⟨l,?_⟩) (λa zs q=>kp a _ (λz=>ImO.nl q (z▸hb)) q) λa m' zs q=>kp a _ (λz=>nb (z▸m')) q
  have na:a≠b':=λz=>hL (z▸l)
  rcases q with q|⟨u,q⟩
  .exact .inl (kp a _ na q)
  .exact .inr ⟨u,kp a _ na q⟩
theorem Zl3(i:Nat)(he:ME X io p true e m)(hj:ME X io true c a mi)(hk:ME X io true c' b mj)(hPa:Zjc a)(hN:X.N[i]? =some x:=by rfl)(hv:Vis X.env.scope x:=by first|exact Qw rfl|exact Qt (Qw rfl)|exact Qt (Qt rfl))(hd:(x==("__debug__" : Str))=false:=by decide)
  (hcd:(x==("__classdict__" : Str))=false:=by decide)
  (hpg:∀{to ti:TE},PE X (.Subscript (.Name x px) a pp) to->PE X b ti->PG X (.Subscript (.Subscript (.Name x px) a pp) b p2) (Ye7 to ti Z4i):=by intro _ _ A B;exact Z05 A B set_list)
  (hs:Uy [.Subscript (.Subscript (.Name x px) a pp) b p2] e pos.line X.env=pure false:=by rfl) (hw:Uz [.Subscript (.Subscript (.Name x px) a pp) b p2] e X.env=pure none:=by rfl)
  (h1:(Q6 [.Subscript (.Subscript (.Name x px) a pp) b p2] X.env).map (·.2)=[Ur (.Subscript (.Subscript (.Name x px) a pp) b p2) X.env]:=by rfl) :
  MS X io (.Assign [.Subscript (.Subscript (.Name x px) a pp) b p2] e pos) (Z63 i m mi mj):=by
 obtain⟨_,A,s⟩:=he
 obtain⟨_,B,sj⟩:=hj
 obtain⟨_,B2,sk⟩:=hk
 refine⟨_,Zwq A (hpg (Z2u (Zzm rfl) (pv i hN hv hd hcd) B hPa) B2) hs hw h1,λC H σ δ fp ex D D' R h E=>?_⟩
 refine s C H σ δ fp ex _ _ R h λH1 v r δ1 fp1 new r1 h1=>?_
 have R1:=r1.base
 have q:=(r1.da R).wide (L':=Lf C fp1 ex) λa l _=>l rfl
 split at h1
 case h_2=>exact h1.elim
 rename_i ts hi
 obtain⟨a',_,_,hv0,_⟩:=R1.ownNd hi
 refine⟨_,hv0,?_⟩
 refine sj.pureAfter R1 h1 λH2 w n R2 s2 q2 h2=>?_
 obtain⟨k,rfl,h2⟩:=q2.intInv h2
 split at h2
 case h_2=>exact h2.elim
 rename_i j hj
 split at h2
 case h_2=>exact h2.elim
 rename_i us hus
 -- the row
 obtain⟨a2,xs2,bs2,hv2,hx2,o2,hf2⟩:=R2.ownNd hi
 rw[hv0]at hv2
 cases hv2
 obtain⟨xr,cr,hxr,orow,_⟩:=o2.get hus
 obtain⟨b',rfl⟩:∃b',xr=V.ref b':=by
  cases orow with
  | nd h r=>exact⟨_,rfl⟩
 refine⟨a',xs2,k,V.ref b',rfl,rfl,.inl (.inl hx2),?_,?_⟩
 .unfold atI
  rw[o2.length,hj]
  exact hxr
 refine sk.pureAfter R2 h2 λH3 w' n' R3 s3 q3 h3=>?_
 obtain⟨k',rfl,h3⟩:=q3.intInv h3
 split at h3
 case h_2=>exact h3.elim
 rename_i j' hj'
 obtain⟨a3,xs3,bs3,hv3,hx3,o3,hf3⟩:=R3.ownNd hi
 rw[hv0]at hv3
 cases hv3
 have exs:xs3=xs2:=by
  have:=s3 _ _ hx2
  rw[hx3]at this
  cases this;rfl
 subst exs
 obtain⟨xr3,cr3,hxr3,orow3,hsub3⟩:=o3.get hus
 rw[hxr]at hxr3
 cases hxr3
 have nd3:=R3.nd i
 rw[hf3]at nd3
 have hn3:=Qm.mp nd3
 cases orow3 with
 | nd hb r3=>
  rename_i ws3 bs4
  have hbm:b'∈bs3:=hsub3.subset (.head _)
  have hbf:b'∈fp1 i:=by rw[hf3];exact .tail _ hbm
  have hLb:¬Lf C fp1 ex b':=λl=>l.1 ⟨i,hbf⟩
  obtain⟨as',oo,ss,_⟩:=Owns.deep (ws':=ws3.set j' v) (us':=us.set j' (.fz r.data)) hb hLb (λcs hcs=>Owns.set (.fz ((q.same s2).same s3)) j' hcs) o3 hn3.2 hxr hus
  refine⟨b',ws3,k',j',rfl,rfl,hb,by rw[r3.length];exact hj',?_⟩
  have hba:a'≠b':=λz=>hn3.1 (z▸hbm)
  -- the change
  have sub:∀a,a∈a' :: as'->a∈fp1 i:=λa m=>by
   rw[hf3]
   rcases Xo.mp m with rfl|m
   .exact .head _
   .exact .tail _ (ss.subset m)
  have kp:∀b o,H3 b=some o->b≠b'->upd H3 b' (.lst (ws3.set j' v)) b=some o:=λb o e n=>by rw[Zt n];exact e
  have lw:∀a,Lf C fp1 ex a->upd H3 b' (.lst (ws3.set j' v)) a≠none->Lf C (fpu fp1 i (a' :: as')) (exu ex []) a:=λa l _=>⟨λz=>by
   rcases z.of_u with z|⟨j,_,z⟩
   .exact l.1 ⟨i,sub a z⟩
   .exact l.1 ⟨j,z⟩,λz=>l.2.1 (Zcw.mp z),l.2.2⟩
  obtain⟨R4,S4⟩:=R3.change (new:=[]) (as':=a' :: as') (t':=.nd (ts.set j (.nd (us.set j' (.fz r.data))))) (H':=upd H3 b' (.lst (ws3.set j' v))) hi hv0 (λb o e nb=>kp b o e λz=>nb (by rw[z];exact hbf)) (λb e=>by
    by_cases q:b=b'
    .subst q;rw[Zy]at e;cases e
    .rwa[Zt q]at e) (.nd (by rw[Zt hba];exact hx3) (oo.wide lw)) (Qm.mpr ⟨λm=>hn3.1 (ss.subset m),hn3.2.sublist ss⟩) (λa m=>.inl (sub a m)) (λa m=>nomatch m)
  have k23:Kp H1 fp1 H3 fp1:=⟨λb o e _=>s3 _ _ (s2 _ _ e),λz=>(nomatch z),λa z=>.inl z,λb e=>s2.al b (s3.al b e)⟩
  exact E.nx _ σ _ _ (R4.drop λa z=>.inl z) (r1.stp.kp.trans (k23.trans S4.kp)) h3
end
mutual
def Z41:OT->Bool
 | .fz d=>Zbg d
 | .nd ts=>Zum ts
 | .tp ts=>Zum ts
 | .dc _ _ _=>false
def Zum:List OT->Bool
 | []=>true
 | t :: ts=>Z41 t&&Zum ts
end
theorem Rel.freeze{C:MC G}{σ:St}{t:OT}(R:Rel C io H σ δ fp ex)(hio:i∉io)(hi:δ[i]? =some (some t)):Rel C io H σ (δ.set i (some (.fz t.data))) (fpu fp i []) ex:=by
 have hil:i<δ.length:=(Xi.mp hi).1
 have sub:∀j a,a∈fpu fp i [] j->j≠i/\a∈fp j:=λj a m=>by
  by_cases ej:j=i
  .subst ej;rw[Z6]at m;exact nomatch m
  .rw[Yl ej]at m;exact⟨ej,m⟩
 have lw:∀a,Lf C fp ex a->Lf C (fpu fp i []) ex a:=λa l=>⟨λ⟨j,z⟩=>l.1 ⟨j,(sub j a z).2⟩,l.2.1,l.2.2⟩
 have ln:∀a∈fp i,Lf C (fpu fp i []) ex a:=λa m=>⟨λ⟨j,z⟩=>(sub j a z).1 (R.dj j i a (sub j a z).2 m),R.dx i a m,.inr (by
  rcases R.new i a m with z|z
  .exact absurd z.1 hio
  .exact z)⟩
 refine⟨by rw[JZ];exact R.len,λj t' e=>?_,λj h=>?_,λj=>?_,λj k a h1 h2=>R.dj j k a (sub j a h1).2 (sub k a h2).2,λj a h z=>R.dx j a (sub j a h).2 z,R.xa,R.fr,R.al,λj a h=>R.new j a (sub j a h).2,R.io⟩
 .by_cases ej:j=i
  .subst ej
   rw[Qz hil]at e
   cases e
   obtain⟨v,e1,o⟩:=R.own j t hi
   exact⟨v,e1,by rw[Z6];exact .fz (o.da (λa l _=>lw a l) ln)⟩
  .rw[Qs (Bo ej)]at e
   obtain⟨w,e1,o⟩:=R.own j t' e
   exact⟨w,e1,by rw[Yl ej];exact o.wide λa l _=>lw a l⟩
 .by_cases ej:j=i
  .subst ej;rw[Z6]
  .rw[Yl ej]
   exact R.emp j λt' z=>h t' (by rw[Qs (Bo ej)];exact z)
 .by_cases ej:j=i
  .subst ej;rw[Z6];exact .nil
  .rw[Yl ej];exact R.nd j
def Zl6(i:Nat)(u:MSt):MSt:=λD δ=>match δ[i]? with|some (some t)=>u D (δ.set i (some (.fz t.data)))|_=>False
theorem Zft{u:MSt}(i:Nat)(h:MS X io st u)(hio:i∉io:=by decide):MS X io st (Zl6 i u):=by
 obtain⟨_,A,s⟩:=h
 exact⟨_,A,λC H σ δ fp ex D D' R h E=>by
  unfold Zl6 at h
  split at h
  case h_2=>exact h.elim
  rename_i t hi
  refine s C H σ _ _ ex D D' (R.freeze hio hi) h (E.shift ⟨λb o e _=>e,λz=>(nomatch z),λa z=>?_,λb e=>e⟩)
  rcases z.of_u with z|⟨j,_,z⟩
  .exact nomatch z
  .exact .inl ⟨j,z⟩⟩
def Yau(ds:List Xa)(k:OT->Prop):Prop:=∃ns:List Int,ds=[.list (ns.map Xl)]/\ns.length<=63/\k (.fz (.bool true))
theorem Z85{E:XK}(hl:ns.length<=63)(h:SqL G H a (ns.map V.int)):spD G Yau [.ref a] H (λv _=>v= .bl true) E:=by
 refine⟨λ_=>True,[.list (ns.map Xl)],λr=>r= .fz (.bool true),.cons ?_ .nil,⟨ns,rfl,hl,rfl⟩,λr v H' new kr s o _ _=>?_⟩
 .rcases h with h|h
  .exact .lst trivial h (.ints ns)
  .exact .scr h
 .subst kr
  cases o with
  | fz q=>cases q;rfl
section
variable {base:Heap}{n:Nat}{f:Addr}{fd:XF}
theorem Da.ints_sq(h:Da G H L v (.list (ns.map Xl))):∃a,v= .ref a/\SqL G H a (ns.map V.int):=by
 generalize e:Bh (ns.map Xl)=d at h
 cases h with
 | lst l e1 r=>
  cases e
  rw[r.int_inv]at e1
  exact⟨_,rfl,.inl e1⟩
 | scr k=>
  rename_i a ms
  have e':=PyData.list.inj e
  have:ns=ms:=(List.map_inj_right (λ_ _ h=>by cases h;rfl)).mp e'
  subst this
  exact⟨_,rfl,k.sq⟩
 | _=>cases e
end
@[simp] theorem Zf9:OT.datas []=[]:=rfl
@[simp] theorem Zel(t:OT)(ts:List OT):OT.datas (t :: ts)=t.data :: OT.datas ts:=rfl
theorem Zn0{xs:List α}{i:Int}(h0:0<=i):atI xs i=xs[i.toNat]?:=by
 unfold atI ixN
 rw[if_pos h0]
 split
 .rfl
 .rename_i h
  symm
  exact JB.mpr (by omega)
theorem Znd{xs:List α}:atI xs (i:Int)=xs[i]?:=by
 rw[Zn0 (by omega),JG]
@[simp] theorem Ykk{α:Type}(x:α)(xs:List α):atI (x :: xs) 0=some x:=by
 rw[Zn0 (by decide)];rfl
@[simp] theorem Yj7{α:Type}(x y:α)(xs:List α):atI (x :: y :: xs) 1=some y:=by
 rw[Zn0 (by decide)];rfl
@[simp] theorem Ykh{α:Type}(x y z:α)(xs:List α):atI (x :: y :: z :: xs) 2=some z:=by
 rw[Zn0 (by decide)];rfl
@[simp] theorem Yc4(ds:List Xa)(i:Int):ixD (.list ds) (.int i)=atI ds i:=rfl
@[simp] theorem Yey(ds:List Xa)(i:Int):ixD (.tuple ds) (.int i)=atI ds i:=rfl
@[simp] theorem Yca(ds:List Xa):Zzi (.list ds)=some ds.length:=rfl
@[simp] theorem Ycu(ds:List Xa):Zzi (.tuple ds)=some ds.length:=rfl
def Zjx(r:List Rat):Xa:=.list (r.map frD)
def tbD(T:List (List Rat)):Xa:=.list (T.map Zjx)
def Yf5(r:List Rat):OT:=.nd (r.map λq=>.fz (frD q))
def tbT(T:List (List Rat)):OT:=.nd (T.map Yf5)
@[simp] theorem Zvx(r:List Rat):(Yf5 r).data=Zjx r:=by
 unfold Yf5 Zjx
 rw[OT.data_nd,Xr]
 rfl
@[simp] theorem Yc5(T:List (List Rat)):(tbT T).data=tbD T:=by
 unfold tbT tbD
 rw[OT.data_nd,Xr]
 exact congrArg Bh (XN λr _=>Zvx r)
def dd(T:List (List Rat))(i j:Nat):Rat:=(T.getD i []).getD j 0
@[simp] theorem Yee(T:List (List Rat)):Zzi (tbD T)=some T.length:=by unfold tbD Zzi;simp
@[simp] theorem Yct(r:List Rat):Zzi (Zjx r)=some r.length:=by unfold Zjx Zzi;simp
@[simp] theorem Yfy(q:Rat):Zbg (frD q)=true:=by unfold frD fr;simp[Zbg,Znt]
theorem Zro{n a:Nat}(h:a<n):ixN n (a:Int)=some a:=by
 unfold ixN
 rw[if_pos (by omega),if_pos (by omega)];simp
theorem Zzn{d:Xa}(h:Yq d=true):QL d d=true:=Z1j h h rfl
structure Sh(n:Nat)(d:Xa):Prop where
 lay:Bj d=true
 dep:PyData.depth d<=n
theorem Sh.shp{n:Nat}{d:Xa}(h:Sh n d)(hn:n<=64:=by decide):Yak d:=⟨by
 show(Bj d&&decide (PyData.depth d<=64))=true
 rw[h.lay,decide_eq_true (Qa h.dep hn)];rfl⟩
theorem Zmx{n:Nat}:∀{ds:List Xa},(∀d∈ds,Sh n d)->JN ds=true/\PyData.depthAll ds<=n
 | [],_=>⟨by rw[JN],by rw[PyData.depthAll];exact JF _⟩
 | d :: ds,h=>by
  obtain⟨h1,h2⟩:=Zmx λe m=>h e (.tail _ m)
  have h3:=h d (.head _)
  refine⟨by rw[JN,h3.lay,h1];rfl,?_⟩
  rw[PyData.depthAll]
  exact Nat.max_le.mpr ⟨h3.dep,h2⟩
theorem Zi8{n:Nat}{ds:List Xa}(h:∀d∈ds,Sh n d):Sh (n+1) (.list ds) :=
 ⟨by rw[Bj];exact(Zmx h).1,by rw[PyData.depth];exact Nat.succ_le_succ (Zmx h).2⟩
theorem Zux{n:Nat}{ds:List Xa}(h:∀d∈ds,Sh n d):Sh (n+1) (.tuple ds) :=
 ⟨by rw[Bj];exact(Zmx h).1,by rw[PyData.depth];exact Nat.succ_le_succ (Zmx h).2⟩
theorem Zqz(i:Int):Sh 0 (.int i):=⟨rfl,Nat.le_of_eq rfl⟩
theorem Z5x(q:Rat):Sh 1 (frD q):=Zux λd m=>by
 simp at m
 rcases m with rfl|rfl<;>exact Zqz _
section
variable {σ:St}
theorem Inv.turnTup{T:Addr}{its:List Xe}(I:Inv X pins σ H s)(f:∀b∈ch,Zk6 X pins H b)(k:∀b o,b∉ch->s.heap.get? b=some o->h'.get? b=some o)
  (th:∀b∈ch,∃o,h'.get? b=some o) (hT:s.heap.objs.size<=T) (hz:xs.length<=Xk) (r:Vals xs its) (ht:IsTup h' T its.toArray):Inv X pins σ (upd H T (.tup xs)) { s with heap:=h' }:=by
 have hn:H T=none:=I.hok.fresh hT
 have nch:∀b u,H b=some u->b∉ch:=λb u e z=>by rw[(f b z).1]at e;cases e
 have new:ObjOk X.prog X.w (upd H T (.tup xs)) h' T (.tup xs):=⟨hz,its,r,ht⟩
 refine I.call (ch:=ch) (g':=s.gens) (d':=s.drawn) (t':=s.toks) ⟨λb o e _ _ hc=>k b o hc e,λb o e _ _ hc=>⟨o.slots,k b o hc e⟩,λb o e n _=>?_,λb o e hc=>?_,λb ys e=>?_,λb o u e=>?_,λb ps e=>?_⟩ (λb u e=>?_) I.bare (λb hb=>?_)
 .rw[Zt (λz=>by rw[z]at e;exact absurd (XH e) (Nat.not_lt.mpr hT))];exact n
 .exact⟨o,k b o hc e⟩
 .rw[Zt (Y7 e hn)];exact e
 .rw[Zt (Y7 e hn)];exact e
 .exact⟨#[],by rw[Zt (Y7 e hn),e];simp⟩
 .by_cases hb:b=T
  .subst hb;rw[Zy]at e;cases e;exact new
  .rw[Zt hb]at e
   refine(I.hok b u e).stay (λc v hc q=>k c v ?_ q) (λc q=>by rw[Zt (Y7 q hn)];exact q) λc ys q=>by rw[Zt (Y7 q hn)];exact q
   rcases hc with rfl|hc
   .exact nch _ _ e
   .exact nch _ _ hc
 .obtain⟨f0,f1,f2,f3,f4,f5⟩:=f b hb
  exact⟨f3,f1,f4,f5⟩
theorem Inv.turnAll(I:Inv X pins σ H s)(f:∀b∈ch,Zk6 X pins H b)(k:∀b o,b∉ch->s.heap.get? b=some o->h'.get? b=some o):Inv X pins σ H { s with heap:=h' }:=by
 have nch:∀b u,H b=some u->b∉ch:=λb u e z=>by rw[(f b z).1]at e;cases e
 refine I.call (ch:=ch) (g':=s.gens) (d':=s.drawn) (t':=s.toks) ⟨λb o e _ _ hc=>k b o hc e,λb o e _ _ hc=>⟨o.slots,k b o hc e⟩,λb o e n _=>n,λb o e hc=>⟨o,k b o hc e⟩,λb ys e=>e,λb o u e=>e,λb ps e=>⟨#[],by rw[e];simp⟩⟩ (λb u e=>?_) I.bare (λb hb=>?_)
 .refine(I.hok b u e).stay (λc v hc q=>k c v ?_ q) (λc q=>q) λc ys q=>q
  rcases hc with rfl|hc
  .exact nch _ _ e
  .exact nch _ _ hc
 .obtain⟨f0,f1,f2,f3,f4,f5⟩:=f b hb
  exact⟨f3,f1,f4,f5⟩
end
section
variable {a b:Expr}
theorem Rel.keptList{C:MC G}{H:Hp}{σ:St}{δ:Zg}{fp:Fp}{ex:Addr->Prop}{v:V}{ds:List Xa}(R:Rel C io H σ δ fp ex)(q:Da G H (λa=>c=true->Lf C fp ex a) v (.list ds)) :
  ∃a xs,v= .ref a/\∀H':Hp,(∀b o,H b=some o->(c=false\/¬Foot fp b)->H' b=some o)->SqL G H' a xs/\Das G H' (λa=>c=true->(Lf C fp ex a/\H a≠none)) xs ds:=by
 generalize hd:Bh ds=d at q
 cases q with
 | lst l e r=>
  cases hd
  rename_i a0 xs0
  refine⟨a0,xs0,rfl,λH' kp=>?_⟩
  obtain⟨f1,f2⟩:=R.kept kp
  exact⟨.inl (f1 _ (.lst _) l e).2,r.frame f1 f2⟩
 | scr k=>
  rename_i a ns
  have:=PyData.list.inj hd
  subst this
  exact⟨a,_,rfl,λH' _=>⟨k.sq,.ints ns⟩⟩
 | _=>cases hd
def Zmj(as bs:List Xa):List Xa:=(as.zip bs).map λx=>.tuple [x.1,x.2]
theorem Zrb{as bs:List Xa}{d:Xa}(h:(Zmj as bs)[i]? =some d):∃x y,as[i]? =some x/\bs[i]? =some y/\d= .tuple [x,y]:=by
 unfold Zmj at h
 rw[Xj]at h
 cases e:(as.zip bs)[i]? with
 | none=>rw[e]at h;cases h
 | some z=>
  rw[e]at h
  cases h
  obtain⟨h1,h2⟩:=List.getElem?_zip_eq_some.mp e
  exact⟨z.1,z.2,h1,h2,rfl⟩
theorem Zvp{as bs:List Xa}(h:(Zmj as bs)[i]? =none):as.length<=i\/bs.length<=i:=by
 unfold Zmj at h
 have:=JB.mp h
 simp at this
 omega
@[simp] theorem Z5r(as bs:List Xa):(Zmj as bs).length=min as.length bs.length:=by simp[Zmj]
end
section
variable {c1 c2 c3:Bool}{a b:Expr}{mc:MEt}{pos:Pos}{f g:Int->Int->Bool}
def Zk5(f g:Int->Int->Bool)(ma mb mc:MEt):MEt:=λδ K=>ma δ λx δ1=>mb δ1 λy δ2=>asI x.data λi=>asI y.data λj=>if f i j=true then mc δ2 λz δ3=>asI z.data λk=>K (.fz (.bool (g j k))) δ3 else K (.fz (.bool false)) δ2
theorem Z0n(ha:SE G io true c1 ta ma)(hb:SE G io true c2 tb mb)(hc:SE G io true c3 tc mc):SE G io true true (Zul (rI0 λi j=>.bl (f i j)) (rI0 λi j=>.bl (g i j)) ta tb tc) (Zk5 f g ma mb mc):=by
 intro C H σ δ fp ex K Q R h k
 refine ha.pureAfter R h λH1 x u R1 s1 q1 h1=>?_
 refine hb.pureAfter R1 h1 λH2 y v R2 s2 q2 h2=>?_
 obtain⟨i,rfl,h2⟩:=q1.intInv h2
 obtain⟨j,rfl,h2⟩:=q2.intInv h2
 refine⟨i,j,rfl,rfl,f i j,rfl,?_⟩
 by_cases hf:f i j=true
 .rw[if_pos hf]at h2|-
  refine hc.pureAfter R2 h2 λH3 z w R3 s3 q3 h3=>?_
  obtain⟨l,rfl,h3⟩:=q3.intInv h3
  have s13:Same H H3:=(s1.trans s2).trans s3
  exact⟨j,l,rfl,rfl,k H3 _ _ δ fp [] (.fz R3 (.same s13 s13.al) (.bl _)) h3⟩
 .rw[if_neg hf]at h2|-
  have s12:Same H H2:=s1.trans s2
  exact k H2 _ _ δ fp [] (.fz R2 (.same s12 s12.al) (.bl _)) h2
theorem Z5v(ho:OpR X (QS op) (rI0 λi j=>.bl (f i j)))(ho':OpR X (QS op') (rI0 λi j=>.bl (g i j)))(ha:ME X io true c1 a ma)(hb:ME X io true c2 b mb)(hc:ME X io true c3 e mc)
  (hm:lastMarks [op,op'] [b,e]=false:=by with_unfolding_all rfl):ME X io true true (.Compare a [op,op'] [b,e] pos) (Zk5 f g ma mb mc):=by
 obtain⟨_,A,sa⟩:=ha
 obtain⟨_,B,sb⟩:=hb
 obtain⟨_,D,sc⟩:=hc
 exact⟨_,Zy2 ho ho' A B D hm,Z0n sa sb sc⟩
theorem Zyk(ho:OpR X (QS op) (rI0 λi j=>.bl (f i j)))(ho':OpR X (QS op') (rI0 λi j=>.bl (g i j)))(ha:ME X io true c1 a ma)(hb:ME X io true c2 b mb)(hc:ME X io true c3 e mc)
  (hm:lastMarks [op,op'] [b,e]=false:=by with_unfolding_all rfl):MT X io true (.Compare a [op,op'] [b,e] pos) (λδ K=>Zk5 f g ma mb mc δ (kB K)):=by
 obtain⟨_,A,sa⟩:=ha
 obtain⟨_,B,sb⟩:=hb
 obtain⟨_,D,sc⟩:=hc
 exact⟨_,Zzf ho ho' A B D hm,Z7c (Z0n sa sb sc)⟩
end
theorem Zkx:∀{ns:List Int} {its:List Xe},Vals (ns.map V.int) its->∃xs:List (Int×Tok),its=xs.map (λp=>UJ p.1 p.2)/\xs.map (·.1)=ns
 | [],_,.nil=>⟨[],rfl,rfl⟩
 | n :: ns,_,.cons r rs=>by
  obtain⟨t,e⟩:=(show∃t,_=UJ n t from r)
  obtain⟨xs,h1,h2⟩:=Zkx rs
  exact⟨(n,t) :: xs,by rw[e,h1];rfl,by rw[Xv,h2]⟩
def Yig(K:Xb):List V->Hp->VK->Prop:=λxs H Q=>∃(a:Addr) (ns:List Int),xs=[.ref a]/\SqL K H a (ns.map V.int)/\Q (.int ns.sum) H
theorem Ztd(hK:X.K=K)(hc:X.calm=true):Zb3 X (.builtin "sum") (Yig K):=by
 subst hK
 intro pins s σ H xs us Q I r h
 obtain⟨a,ns,rfl,hs,q⟩:=h
 obtain⟨u,rfl,ru⟩:=vals1 r
 cases(show u=Qo a from ru)
 obtain⟨its,rv,pl,hz⟩:=I.list hs
 obtain⟨ps,rfl,e2⟩:=Zkx rv
 refine sum_intListG (xs:=ps.toArray) (I.ok.hd hc) (by simpa [intItems]using pl.isList) λh' tk t' hk=>?_
 refine⟨.int ns.sum,H,I.kept (t':=tk) hk,⟨t',?_⟩,q⟩
 congr 1
 rw[preSum_eq,List.take_of_length_le (by simp)]
 show(ps.map (·.1)).sum=ns.sum
 rw[e2]
def Yij:List Xa->(Xa->Prop)->Prop:=λds k=>n1 (λd=>∃ns:List Int,d= .list (ns.map Xl)/\k (.int ns.sum)) ds
theorem Z94:PNs G (Yig G) Yij:=λH L xs ds k Q hx h kk=>by
 obtain⟨v,d,rfl,rfl,q,ns,e,h'⟩:=hx.one h
 subst e
 obtain⟨a,rfl,hs⟩:=q.ints_sq
 exact⟨a,ns,rfl,hs,kk _ _ (.int _) h'⟩
section
variable {a b:Expr}{pos pl:Pos}
def Yhs(m mb:MEt):MEt:=λδ K=>m δ λr δ1=>mb δ1 λn _=>asI n.data λk=>(-(2^63)<=k/\k<2^63/\k.toNat<=Xk)/\K (.nd (X6 k.toNat (.fz r.data))) δ1
theorem Zqk(x:α):∀n:Nat,(X6 n [x]).flatten=X6 n x
 | 0=>rfl
 | n+1=>by rw[Vb,Vt,Zqk x n];rfl
theorem Das.rep{d:Xa}(h:Da G H L v d):∀n:Nat,Das G H L (X6 n v) (X6 n d)
 | 0=>.nil
 | n+1=>.cons h (Das.rep h n)
theorem Ygf(ha:ME X io p true a m)(hb:ME X io true c b mb)(hs:Xw [a] X.env=(false,eval a X.env) :: Xw [] X.env:=by rfl):ME X io p true (.BinOp (.List [a] pl) .Mult b pos) (Yhs m mb):=by
 obtain⟨_,A,sa⟩:=ha
 obtain⟨_,B,sb⟩:=hb
 refine⟨_,Z9o Z69 (Z10 (Zgq A Zny hs)) B,λC H σ δ fp ex K Q R h k=>?_⟩
 refine sa C H σ δ fp ex _ _ R h λH1 v r δ1 fp1 new r1 h1=>⟨(by show 1<=Xk;decide),λl hl=>?_⟩
 have R1:=r1.base
 have s1:=Ye hl (.lst [v])
 refine sb.pureAfter (R1.mk0 s1) h1 λH2 w n R2 s2 q2 h2=>?_
 obtain⟨i,rfl,h2⟩:=q2.intInv h2
 have q:=(((r1.da R).wide (L':=Lf C fp1 ex) λa l _=>l rfl).same s1).same s2
 refine⟨l,i,[v],rfl,rfl,s2 _ _ Zy,h2.1.1,h2.1.2.1,by show 1*i.toNat<=Xk;rw[Nat.one_mul];exact h2.1.2.2,λt ht=>?_⟩
 rw[Zqk]
 have S:Stp p H δ fp H2 δ1 fp1:=by
  have:=r1.stp.trans (p':=true) (Stp.same (p:=true) (δ:=δ1) (fp:=fp1) (s1.trans s2) (s1.trans s2).al)
  rwa[Bool.and_true]at this
 refine k _ _ _ δ1 fp1 [t] (RE.tree R R2 S (Ye ht _) (Zct ht) (Ze1 t) ?_) h2.2
 have:=Own.list ht ((Das.rep q i.toNat).wide (L':=λa=>true=true->Lf C fp1 ex a) λa l _ _=>l)
 rwa[List.map_replicate]at this
end
structure Apart(X:Cx)(pins:List (Addr×Obj))(H:Hp)(b:Addr):Prop where
 fr:H b=none
 new:X.s₀.heap.get? b=none
 loc:b≠X.env.locals
 cel:∀x c,X.env.cells.lookup x=some c->c≠b
 pin:∀p∈X.pn ++ pins,p.1≠b
section
variable {σ:St}{b:Addr}
def Fl(ap:Addr->Prop)(C a:Addr)(fl:Xe)(h:Heap):Prop:=∃a0 oe vs T oT ts,h.get? a=some oe/\(oe.cls= .ref C/\vs[0]? =some a0)/\oe.data= .fields vs/\vs[1]? =some (.ref T)/\T≠a/\h.get? T=some oT/\oT.data= .fields ts/\ts[3]? =some fl/\ap a/\ap T
def Fl0(ap:Addr->Prop)(C a:Addr)(h:Heap):Prop:=∃a0 oe vs,h.get? a=some oe/\(oe.cls= .ref C/\vs[0]? =some a0)/\oe.data= .fields vs/\vs[1]? =some .none/\ap a
def FlA(ap:Addr->Prop)(fl:Xe)(C a:Addr)(h:Heap):Prop:=Fl ap C a .none h\/Fl0 ap C a h\/Fl ap C a fl h
section
variable {Q:Unit->Xg->Prop}
end
end
def Z0b(K:Xb)(C:Addr):Prop:=PySem.W.excIn K C [.type "ValueError",.type "Exception",.type "BaseException",.type "object"] "ValueError.__new__"=true
abbrev MXt:=Zg->(Addr->Zg->Prop)->Prop
def XW(X:Cx)(C:MC X.K)(io:List Nat)(pins:List (Addr×Obj))(ex:Addr->Prop)(H:Hp)(fp:Fp)(k:Addr->Zg->Prop)(e:Xe)(s':Xg):Prop :=
 ∃a cl σ' H' δ' fp',e= .ref a/\Inv X pins σ' H' s'/\FlA (Apart X pins H') (rawInt X.env.locals) cl a s'.heap/\Rel C io H' σ' δ' fp' ex/\Kp H fp H' fp'/\k cl δ'
def XS(X:Cx)(io:List Nat)(st:Stmt)(m:MXt):Prop:=∀(C:MC X.K) (pins:List (Addr×Obj)) (s:Xg) (σ:St) (H:Hp) (δ:Zg) (fp:Fp) (ex:Addr->Prop) (k:Addr->Zg->Prop),Inv X pins σ H s->Rel C io H σ δ fp ex->m δ k ->
 XR (Qg X.prog X.w) X.A (exec st X.env) (λ_ _=>False) (XW X C io pins ex H fp k) s
def XSs(X:Cx)(io:List Nat)(sts:List Stmt)(m:MXt):Prop:=∀(C:MC X.K) (pins:List (Addr×Obj)) (s:Xg) (σ:St) (H:Hp) (δ:Zg) (fp:Fp) (ex:Addr->Prop) (k:Addr->Zg->Prop),Inv X pins σ H s->Rel C io H σ δ fp ex->m δ k ->
 XR (Qg X.prog X.w) X.A (execs sts X.env) (λ_ _=>False) (XW X C io pins ex H fp k) s
section
variable {m:MXt}{pos:Pos}{a b:List Stmt}{u:MSt}{w v:MXt}{mt:MTt}
end
section
variable {base:Heap}
end
section
variable {pos:Pos}{k:Nat}{f:Addr}{fd:XF}
end
section
variable {σ:St}
abbrev Cx.suite(X:Cx)(a:Addr):Cx:={ X with A:=X.A.mark (some (.ref a)),calm:=false }
end
theorem Zqx(b:Bool)(k:Bool->Prop):asB (.bool b) k=k b:=rfl
inductive Yf2:V->Xe->Prop where
 | own (D:Addr):Yf2 (.ref D) (.ref D)
 | ty (T:String):Yf2 (.ty T) (.type T)
inductive ClsVs:List V->List Xe->Prop where
 | nil:ClsVs [] []
 | cons {v:V} {c:Xe} {vs:List V} {cs:List Xe}:Yf2 v c->ClsVs vs cs->ClsVs (v :: vs) (c :: cs)
theorem ClsVs.length:∀{vs:List V} {cs:List Xe},ClsVs vs cs->vs.length=cs.length
 | _,_,.nil=>rfl
 | _,_,.cons _ t=>by simp[t.length]
section
variable {a b:Expr}{pos:Pos}
end
end L2
namespace L2
open PySem PySem.Spec PyProof.Rows PySem.P
section
variable {e t0:Addr}{o:Obj}{vs:Array Xe}{m:Str}
structure Ykm(s:Xg)(e C t0:Addr)(m:Str)(tk:Tok):Prop where
 ob:∃o vs,s.heap.get? e=some o/\o.cls= .ref C/\o.data= .fields vs/\vs[0]? =some (.ref t0)
 tx:s.heap.TupAt t0 [.str m tk]
end
section
variable {j:Str}{jk:Nat}{np pos kp p1:Pos}
end
end L2
namespace L2
open PySem PySem.Spec PyProof.Rows
variable {G:Xb}
theorem Rel.topN{io:List Nat}{C:MC G}{σ:St}{ts':List OT}{bs bs' new:List Addr}(R:Rel C io H σ δ fp (exu ex new))(hi:δ[i]? =some (some (.nd ts)))(hv:σ[i]? =some (some (.ref a')))
  (hf:fp i=a' :: bs) (hx:H a'=some (.lst xs)) (o:Owns G H (Lf C fp (exu ex new)) ys ts' bs') (hs:∀a∈bs',a∈bs\/a∈new) (ndb:(a' :: bs').Nodup) (hn:∀a∈new,C.H₀ a=none/\¬ex a) :
  Rel C io (upd H a' (.lst ys)) σ (δ.set i (some (.nd ts'))) (fpu fp i (a' :: bs')) ex/\∀a,Foot (fpu fp i (a' :: bs')) a->Foot fp a\/a∈new:=by
 have hil:i<δ.length:=(Xi.mp hi).1
 have hm:a'∈fp i:=by rw[hf];exact .head _
 have kp:∀b o,H b=some o->b≠a'->upd H a' (.lst ys) b=some o:=λb o e n=>by rw[Zt n];exact e
 have mem:∀a,a∈a' :: bs'->a∈fp i\/a∈new:=λa m=>by
  rw[hf]
  rcases Xo.mp m with rfl|m
  .exact .inl (.head _)
  .exact(hs a m).imp (λz=>.tail _ z) id
 have sub:∀a,Foot (fpu fp i (a' :: bs')) a->Foot fp a\/a∈new:=λa z=>by
  rcases z.of_u with z|⟨j,_,z⟩
  .exact(mem a z).imp (λz=>⟨i,z⟩) id
  .exact .inl ⟨j,z⟩
 have lw:∀a,Lf C fp (exu ex new) a->Lf C (fpu fp i (a' :: bs')) ex a:=λa l=>⟨λz=>(sub a z).elim l.1 λz=>l.2.1 (.inr z),λz=>l.2.1 (.inl z),l.2.2⟩
 have f1:∀a (zs:MuO),Lf C fp (exu ex new) a->Rd H a zs.ho->Lf C (fpu fp i (a' :: bs')) ex a/\Rd (upd H a' (.lst ys)) a zs.ho:=λa zs l q=>by
  have na:a≠a':=λz=>l.1 ⟨i,by rw[z];exact hm⟩
  refine⟨lw a l,?_⟩
  rcases q with q|⟨u,q⟩
  .exact .inl (kp a _ q na)
  .exact .inr ⟨u,kp a _ q na⟩
 have f2:∀a (zs:ImO),H a=some zs.ho->upd H a' (.lst ys) a=some zs.ho:=λa zs q=>kp a _ q λz=>ImO.nl q (z▸hx)
 have hn':=Qm.mp ndb
 refine⟨⟨by rw[JZ];exact R.len,λj t' e=>?_,λj h=>?_,λj=>?_,λj k a h1 h2=>?_,λj a h z=>?_,λa z=>?_,λb ob e nb=>?_,λb e=>?_,λj a h=>?_,R.io⟩,sub⟩
 .by_cases ej:j=i
  .subst ej
   rw[Qz hil]at e
   cases e
   exact⟨_,hv,by rw[Z6];exact .nd Zy (o.frame f1 f2 λa m zs q=>kp a _ q λz=>hn'.1 (z▸m))⟩
  .rw[Qs (Bo ej)]at e
   obtain⟨w,e1,o1⟩:=R.own j t' e
   exact⟨w,e1,by rw[Yl ej];exact o1.frame f1 f2 λa m zs q=>kp a _ q λz=>ej (R.dj j i a m (z▸hm))⟩
 .by_cases ej:j=i
  .subst ej;exact absurd (Qz hil) (h _)
  .rw[Yl ej]
   exact R.emp j λt' z=>h t' (by rw[Qs (Bo ej)];exact z)
 .by_cases ej:j=i
  .subst ej;rw[Z6];exact ndb
  .rw[Yl ej];exact R.nd j
 .have one:∀k,k≠i->a∈a' :: bs'->a∈fp k->False:=λk ek m1 m2=>by
   rcases mem a m1 with z|z
   .exact ek (R.dj k i a m2 z)
   .exact R.dx k a m2 (.inr z)
  by_cases ej:j=i
  .by_cases ek:k=i
   .rw[ej,ek]
   .rw[ej,Z6]at h1
    rw[Yl ek]at h2
    exact(one k ek h1 h2).elim
  .rw[Yl ej]at h1
   by_cases ek:k=i
   .rw[ek,Z6]at h2
    exact(one j ej h2 h1).elim
   .rw[Yl ek]at h2
    exact R.dj j k a h1 h2
 .by_cases ej:j=i
  .rw[ej,Z6]at h
   rcases mem a h with m|m
   .exact R.dx i a m (.inl z)
   .exact(hn a m).2 z
  .rw[Yl ej]at h
   exact R.dx j a h (.inl z)
 .by_cases e:a=a'
  .subst e;rw[Zy];intro q;cases q
  .rw[Zt e];exact R.xa a (.inl z)
 .refine kp b ob (R.fr b ob e nb) λz=>?_
  rcases R.new i a' hm with y|y
  .exact nb (z▸y.2)
  .rw[z,y]at e;cases e
 .refine R.al b ?_
  by_cases q:b=a'
  .subst q;rw[Zy]at e;cases e
  .rwa[Zt q]at e
 .by_cases ej:j=i
  .rw[ej,Z6]at h
   rcases mem a h with m|m
   .rw[ej];exact R.new i a m
   .exact .inr (hn a m).1
  .rw[Yl ej]at h
   exact R.new j a h
def Zid(i:Nat)(m:MEt):MSt:=λD δ=>match δ[i]? with
 | some (some (.nd _))=>m δ λr δ1=>match δ1[i]? with
  | some (some (.nd ts))=>ts.length<Xk/\D.nx (δ1.set i (some (.nd (ts ++ [r]))))
  | _=>False
 | _=>False
section
variable {X:Cx}{io:List Nat}{p c:Bool}{e:Expr}{m:MEt}{pos apos cpos px:Pos}{i:Nat}{x:Str}
theorem Zsa(i:Nat)(he:ME X io p true e m)(hN:X.N[i]? =some x:=by rfl)(hv:Vis X.env.scope x:=by first|exact Qw rfl|exact Qt (Qw rfl)|exact Qt (Qt rfl))(hd:(x==("__debug__" : Str))=false:=by decide)
  (hcd:(x==("__classdict__" : Str))=false:=by decide)
  (hbase:Ua (.Name x px) "append" X.env (eval (.Name x px) X.env)=eval (.Name x px) X.env:=by rfl)
  (hfew:((Bg cpos (Xw [e] X.env)).all (λx=>!x.1)&&(backToKw cpos (UT [] X.env)).all (λx=>x.1.isSome)
   &&decide ([e].length+([]:List V8).length+(if([]:List V8).isEmpty then 0 else 1)<30))=true:=by rfl)
  (hline:(apos.endLine==cpos.line)=true:=by rfl) (hs:Xw [e] X.env=(false,eval e X.env) :: Xw [] X.env:=by rfl) (hplain:(Bg cpos (Xw [] X.env)).any (·.1)=false:=by rfl)
  (hsw:BK (.Call (.Attribute (.Name x px) "append" apos) [e] [] cpos) none pos.line X.env=pure false:=by rfl) :
  MS X io (.Expr (.Call (.Attribute (.Name x px) "append" apos) [e] [] cpos) pos) (Zid i m):=by
 obtain⟨_,A,s⟩:=he
 refine⟨_,Zo9 (Zzx PySem.F.plainAttrs_list PySem.F.slot_list_append PySem.F.type_list_append Zjn (pv i hN hv hd hcd) (Zgq A Zny hs) hbase hfew hline hs hplain) hsw,λC H σ δ fp ex D D' R h E=>?_⟩
 unfold Zid at h
 split at h
 case h_2=>exact h.elim
 rename_i ts0 hi0
 obtain⟨a',xs0,bs0,hv0,hx0,_,_⟩:=R.ownNd hi0
 refine⟨_,hv0,.inl ⟨rfl,xs0,.inl (.inl hx0)⟩,?_⟩
 refine s C H σ δ fp ex _ _ R h λH1 v r δ1 fp1 new r1 h1=>?_
 split at h1
 case h_2=>exact h1.elim
 rename_i ts1 hi1
 have R1:=r1.rel
 obtain⟨a1,xs1,bs1,hv1,hx1,o1,hf1⟩:=R1.ownNd hi1
 rw[hv0]at hv1
 cases hv1
 refine⟨a',xs1,v,rfl,rfl,hx1,by rw[o1.length];exact h1.1,?_⟩
 have ow:Own X.K H1 (Lf C fp1 (exu ex new)) v r new:=r1.own.wide λa l _=>l rfl
 have o2:=o1.snoc ow
 have nd1:=R1.nd i
 rw[hf1]at nd1
 have hn1:=Qm.mp nd1
 have hm1:∀a,a∈a' :: bs1->a∈fp1 i:=λa m=>by rw[hf1];exact m
 have apart:∀a,a∈new->a∉a' :: bs1:=λa m z=>R1.dx i a (hm1 a z) (.inr m)
 obtain⟨R2,sub⟩:=R1.topN hi1 hv0 hf1 hx1 o2 (λa m=>Qq.mp m) (Qm.mpr ⟨λm=>by
   rcases Qq.mp m with z|z
   .exact hn1.1 z
   .exact apart a' z (.head _),Vs.mpr ⟨hn1.2,r1.nd,λa m b m' z=>apart b m' (by rw[<-z];exact .tail _ m)⟩⟩) λa m=>⟨(R.newOk (r1.fresh a m)).2.2,(R.newOk (r1.fresh a m)).2.1⟩
 refine E.nx _ σ _ _ R2 ⟨λb o eb q=>?_,λz=>(nomatch z),λa z=>?_,λb eb=>?_⟩ h1.2
 .have q':=q.resolve_left (by decide)
  rw[Zt]
  .exact r1.stp.keep b o eb (.inr q')
  .rintro rfl
   rcases r1.stp.grow b ⟨i,hm1 b (.head _)⟩with z|z
   .exact q' z
   .rw[eb]at z;cases z
 .rcases sub a z with z|z
  .exact r1.stp.grow a z
  .exact .inr (r1.fresh a z)
 .refine r1.stp.al b ?_
  by_cases q:b=a'
  .subst q;rw[Zy]at eb;cases eb
  .rwa[Zt q]at eb
end
abbrev FE:=Zg->Option (OT×Zg)
abbrev FA:=Zg->Option (List OT×Zg)
abbrev FT:=Zg->Option (Bool×Zg)
abbrev FI:=Zg->Option (List Xa×Zg)
abbrev FO:=Zg->Option (Option Int×Zg)
abbrev FG:=Xa->Zg->Option Zg
abbrev FGs:=List Xa->Zg->Option Zg
def o2(f:Zg->Option (α×Zg)):Zg->(α->Zg->Prop)->Prop:=λδ K=>∃r δ',f δ=some (r,δ')/\K r δ'
def oG(g:FG):MGt:=λd δ k=>∃δ',g d δ=some δ'/\k δ'
def oGs(g:FGs):Zxb:=λd δ k=>∃δ',g d δ=some δ'/\k δ'
section
variable {X:Cx}{io:List Nat}{p c:Bool}{e tg:Expr}{es:List Expr}{m m':MEt}{mr mr':MAt}{mt mt':MTt}{mi mi':MIt}{g g':MGt}{gs gs':Zxb}{mo mo':MOt}{st:Stmt}{sts:List Stmt}{u u':MSt}{eo:Option Expr}
theorem ME.weak(h:ME X io p c e m)(w:∀δ K,m' δ K->m δ K):ME X io p c e m':=let⟨t,A,s⟩:=h;⟨t,A,λC H σ δ fp ex K Q R h k=>s C H σ δ fp ex K Q R (w δ K h) k⟩
theorem MA.weak(h:MA X io p c es mr)(w:∀δ K,mr' δ K->mr δ K):MA X io p c es mr':=let⟨t,A,s⟩:=h;⟨t,A,λC H σ δ fp ex K Q R h k=>s C H σ δ fp ex K Q R (w δ K h) k⟩
theorem MT.weak(h:MT X io p e mt)(w:∀δ K,mt' δ K->mt δ K):MT X io p e mt':=let⟨t,A,s⟩:=h;⟨t,A,λC H σ δ fp ex K Q R h k=>s C H σ δ fp ex K Q R (w δ K h) k⟩
theorem MW.weak(h:MW X io p e mt)(w:∀δ K,mt' δ K->mt δ K):MW X io p e mt':=let⟨t,A,s⟩:=h;⟨t,A,λC H σ δ fp ex K Q R h k=>s C H σ δ fp ex K Q R (w δ K h) k⟩
theorem MIfs.weak(h:MIfs X io p es mt)(w:∀δ K,mt' δ K->mt δ K):MIfs X io p es mt':=let⟨t,A,s⟩:=h;⟨t,A,λC H σ δ fp ex K Q R h k=>s C H σ δ fp ex K Q R (w δ K h) k⟩
theorem MI.weak(h:MI X io p c tg e mi)(w:∀δ K,mi' δ K->mi δ K):MI X io p c tg e mi':=let⟨t,A,s⟩:=h;⟨t,A,λC H σ δ fp ex K Q R h k=>s C H σ δ fp ex K Q R (w δ K h) k⟩
theorem MO.weak(h:MO X io p eo mo)(w:∀δ K,mo' δ K->mo δ K):MO X io p eo mo':=let⟨t,A,s⟩:=h;⟨t,A,λC H σ δ fp ex K Q R h k=>s C H σ δ fp ex K Q R (w δ K h) k⟩
theorem MG.weak(h:MG X io c tg g)(w:∀d δ K,g' d δ K->g d δ K):MG X io c tg g':=let⟨t,A,s⟩:=h;⟨t,A,λC H σ δ fp ex v d k Q R q h kk=>s C H σ δ fp ex v d k Q R q (w d δ k h) kk⟩
theorem MGs.weak(h:MGs X io c es gs)(w:∀d δ K,gs' d δ K->gs d δ K):MGs X io c es gs':=let⟨t,A,s⟩:=h;⟨t,A,λC H σ δ fp ex v d k Q R q h kk=>s C H σ δ fp ex v d k Q R q (w d δ k h) kk⟩
theorem MS.weak(h:MS X io st u)(w:∀D δ,u' D δ->u D δ):MS X io st u':=let⟨t,A,s⟩:=h;⟨t,A,λC H σ δ fp ex D D' R h E=>s C H σ δ fp ex D D' R (w D δ h) E⟩
theorem MSs.weak(h:MSs X io sts u)(w:∀D δ,u' D δ->u D δ):MSs X io sts u':=let⟨t,A,s⟩:=h;⟨t,A,λC H σ δ fp ex D D' R h E=>s C H σ δ fp ex D D' R (w D δ h) E⟩
end
def Zw(i:Nat):FE:=λδ=>match δ[i]? with|some (some (.fz d))=>some (.fz d,δ)|_=>none
def Zvn(i:Nat):FE:=λδ=>match δ[i]? with|some (some t)=>some (.fz t.data,δ)|_=>none
def fC(d:Xa):FE:=λδ=>some (.fz d,δ)
def Zh(g:Xa->Xa->Option Xa)(a b:FE):FE:=λδ=>(a δ).bind λp=>(b p.2).bind λq=>(g p.1.data q.1.data).bind λd=>some (.fz d,q.2)
def W8(g:Xa->Xa->Option OT)(a b:FE):FE:=λδ=>(a δ).bind λp=>(b p.2).bind λq=>(g p.1.data q.1.data).bind λd=>some (d,q.2)
def fUn(g:Xa->Option Xa)(a:FE):FE:=λδ=>(a δ).bind λp=>(g p.1.data).bind λd=>some (.fz d,p.2)
def Zoq(a b:FE):FE:=λδ=>(a δ).bind λp=>match p.1.data with| .bool true=>b p.2| .bool false=>some (.fz (.bool false),p.2)|_=>none
def fOr(a b:FE):FE:=λδ=>(a δ).bind λp=>match p.1.data with| .bool true=>some (.fz (.bool true),p.2)| .bool false=>b p.2|_=>none
def fIf(t:FT)(a b:FE):FE:=λδ=>(t δ).bind λp=>if p.1=true then a p.2 else b p.2
def tV(e:FE):FT:=λδ=>(e δ).bind λp=>match p.1 with| .fz (.bool b)=>some (b,p.2)|_=>none
def tNo(t:FT):FT:=λδ=>(t δ).bind λp=>some (!p.1,p.2)
def tAn(t u:FT):FT:=λδ=>(t δ).bind λp=>if p.1=true then u p.2 else some (false,p.2)
def tO(t u:FT):FT:=λδ=>(t δ).bind λp=>if p.1=true then some (true,p.2)else u p.2
def tD(e:FE):FT:=λδ=>(e δ).bind λp=>(Zys p.1.data).bind λb=>some (b,p.2)
def Z5:FA:=λδ=>some ([],δ)
def Zd(e:FE)(a:FA):FA:=λδ=>(e δ).bind λp=>(a p.2).bind λq=>some (p.1 :: q.1,q.2)
def Zji(a:FA):FE:=λδ=>(a δ).bind λp=>if p.1.length<=Xk then some (.fz (.tuple (OT.datas p.1)),p.2)else none
def Zsb(a:FA):FE:=λδ=>(a δ).bind λp=>if p.1.length<=Xk then some (.nd p.1,p.2)else none
def Zxr(e:FE):FE:=λδ=>(e δ).bind λp=>if Zbg p.1.data=true then some (.fz p.1.data,p.2)else none
def Z7z(e:FE):FE:=λδ=>(e δ).bind λp=>if Z41 p.1=true then some (p.1,p.2)else none
inductive RF where
 | ok (r:OT)
 | exn (c:Str)
 | bad
abbrev FD:=List Xa->RF
abbrev FIO:=OT->List Xa->Option (OT×OT)
def Zo(F:FD)(a:FA):FE:=λδ=>(a δ).bind λp=>match F (OT.datas p.1)with| .ok r=>some (r,p.2)|_=>none
def Z14(i:Nat)(F:FIO)(a:FA):FE:=λδ=>match δ[i]? with
 | some (some _)=>(a δ).bind λp=>match p.2[i]? with
  | some (some t)=>(F t (OT.datas p.1)).bind λq=>some (q.1,p.2.set i (some q.2))
  | _=>none
 | _=>none
def Zgl(g:List Xa->Option Xa)(a:FA):FE:=λδ=>(a δ).bind λp=>(g (OT.datas p.1)).bind λd=>some (.fz d,p.2)
def fBl(g:List Xa->Option OT)(a:FA):FE:=λδ=>(a δ).bind λp=>(g (OT.datas p.1)).bind λd=>some (d,p.2)
def Zhy(T:String)(e:FE):FE:=λδ=>(e δ).bind λp=>if Zir p.1.data=true then none else some (.fz (.bool (Zpd T p.1.data)),p.2)
def oN:FO:=λδ=>some (none,δ)
def oI(e:FE):FO:=λδ=>(e δ).bind λp=>match p.1.data with| .int i=>some (some i,p.2)|_=>none
def fSl(e:FE)(lo hi:FO):FE:=λδ=>(e δ).bind λp=>(lo p.2).bind λq=>(hi q.2).bind λr=>match p.1.data with| .list ds=>some (.nd ((cutD ds q.1 r.1).map OT.fz),r.2)|_=>none
def Zjk(f g:Int->Int->Bool)(a b c:FE):FE:=λδ=>(a δ).bind λp=>(b p.2).bind λq=>match p.1.data,q.1.data with
 | .int i,.int j=>if f i j=true then(c q.2).bind λr=>match r.1.data with| .int k=>some (.fz (.bool (g j k)),r.2)|_=>none else some (.fz (.bool false),q.2)
 | _,_=>none
def Zcd(e:FE):FI:=λδ=>(e δ).bind λp=>match p.1.data with| .list ds=>some (ds,p.2)|_=>none
def iTp(e:FE):FI:=λδ=>(e δ).bind λp=>match p.1.data with| .tuple ds=>some (ds,p.2)|_=>none
def rOk(j:Int):Bool:=decide (-(2^62)<=j)&&decide (j<2^62)
theorem Zg9{j:Int}(h:rOk j=true):-(2^62)<=j/\j<2^62:=by
 unfold rOk at h
 rw[XX]at h
 exact⟨of_decide_eq_true h.1,of_decide_eq_true h.2⟩
theorem Zq7{j:Int}(h0:-1000000<=j)(h1:j<=1000000):rOk j=true:=by
 unfold rOk
 rw[decide_eq_true (show -(2^62)<=j by omega),decide_eq_true (show j<2^62 by omega)];rfl
def iRa(a:FA):FI:=λδ=>(a δ).bind λp=>match OT.datas p.1 with|[.int j]=>if rOk j=true then some (Zk0 0 j.toNat,p.2)else none|_=>none
def iRb(a:FA):FI:=λδ=>(a δ).bind λp=>match OT.datas p.1 with|[.int i,.int j]=>if(rOk i&&rOk j)=true then some (Zk0 i (j-i).toNat,p.2)else none|_=>none
def Z7a(a:FA):FI:=λδ=>(a δ).bind λp=>match OT.datas p.1 with|[.list as,.list bs]=>some (Zmj as bs,p.2)|_=>none
def gNm(i:Nat):FG:=λd δ=>some (δ.set i (some (.fz d)))
def Yj6(i:Nat):FG:=λd δ=>if Zbg d=true then some (δ.set i (some (.fz d)))else none
def gNl:FGs:=λds δ=>match ds with|[]=>some δ|_=>none
def gCn(g:FG)(gs:FGs):FGs:=λds δ=>match ds with|d :: r=>(g d δ).bind (gs r)|[]=>none
def gTp(n:Nat)(gs:FGs):FG:=λd δ=>match d with| .tuple ds=>if ds.length=n then gs ds δ else none|_=>none
def gLs(n:Nat)(gs:FGs):FG:=λd δ=>match d with| .list ds=>if ds.length=n then gs ds δ else none|_=>none
def compLoop(g:FG)(t:FT)(e:FE):List Xa->Zg->Option (List OT×Zg)
 | [],δ=>some ([],δ)
 | d :: ds,δ=>(g d δ).bind λδ1=>(t δ1).bind λp=>if p.1=true then(e p.2).bind λq=>(compLoop g t e ds q.2).bind λz=>some (q.1 :: z.1,z.2)else compLoop g t e ds p.2
def Yn(n:Nat)(caps:List Nat)(it:FI)(g:FG)(t:FT)(e:FE):FE:=λδ=>(it δ).bind λp=>if p.1.length<=Xk then(compLoop g t e p.1 (blk n caps p.2)).bind λz=>some (.nd z.1,p.2)else none
def Zdx:FT:=λδ=>some (true,δ)
inductive RS where
 | nx (δ:Zg)
 | rt (r:OT) (δ:Zg)
 | bk (δ:Zg)
 | ct (δ:Zg)
 | ex (c:Str) (δ:Zg)
 | bad
abbrev FS:=Zg->RS
def RS.fits(D:Zka):RS->Prop
 | .nx δ=>D.nx δ
 | .rt r δ=>D.rt r δ
 | .bk δ=>D.bk δ
 | .ct δ=>D.ct δ
 | _=>False
def oS(f:FS):MSt:=λD δ=>(f δ).fits D
def xS(K:Xb)(f:FS):MXt:=λδ k=>∃c C δ',f δ= .ex c δ'/\ClsAt K c C/\k C δ'
def Z3(f g:FS):FS:=λδ=>match f δ with| .nx δ'=>g δ'|r=>r
def fNx:FS:=λδ=>.nx δ
def Ykr:FS:=λδ=>.bk δ
def Yku:FS:=λδ=>.ct δ
def wE(e:FE)(k:OT->Zg->RS):FS:=λδ=>match e δ with|some (r,δ')=>k r δ'|none=>.bad
def wX(F:FD)(a:FA)(k:OT->Zg->RS):FS:=λδ=>match a δ with
 | some (rs,δ1)=>match F (OT.datas rs)with
  | .ok r=>k r δ1
  | .exn c=>.ex c δ1
  | .bad=>.bad
 | none=>.bad
def Zwe:OT->Zg->RS:=λ_ δ=>.nx δ
def W7:OT->Zg->RS:=λr δ=>.rt r δ
def Ygd:OT->Zg->RS:=λr δ=>if Zbg r.data=true then .rt (.fz r.data) δ else .bad
def Zaa(i:Nat):OT->Zg->RS:=λr δ=>.nx (δ.set i (some (.fz r.data)))
def Zya(i:Nat):OT->Zg->RS:=λr δ=>if Zbg r.data=true then .nx (δ.set i (some (.fz r.data)))else .bad
def Zbh(i:Nat):OT->Zg->RS:=λr δ=>.nx (δ.set i (some r))
def Ya0(g:FG):OT->Zg->RS:=λr δ=>match g r.data δ with|some δ'=>.nx δ'|none=>.bad
def Yd7:FS:=λδ=>.rt (.fz .none) δ
def Zgc(i:Nat):FS:=λδ=>match δ[i]? with|some (some t)=>.rt t (δ.set i none)|_=>.bad
def Jd(t:FT)(u w:FS):FS:=λδ=>match t δ with|some (b,δ')=>if b=true then u δ' else w δ'|none=>.bad
def Zk8(c:Str):FS:=λδ=>.ex c δ
def W2(i:Nat)(e:FE):FS:=λδ=>match δ[i]? with
 | some (some (.nd _))=>wE e (λr δ1=>match δ1[i]? with
  | some (some (.nd ts))=>if ts.length<Xk then .nx (δ1.set i (some (.nd (ts ++ [.fz r.data]))))else .bad
  | _=>.bad) δ
 | _=>.bad
def Zch(i:Nat)(e:FE):FS:=λδ=>match δ[i]? with
 | some (some (.nd _))=>wE e (λr δ1=>match δ1[i]? with
  | some (some (.nd ts))=>if ts.length<Xk then .nx (δ1.set i (some (.nd (ts ++ [r]))))else .bad
  | _=>.bad) δ
 | _=>.bad
def Z6w(i:Nat)(e j:FE):FS:=wE e λr δ1=>match δ1[i]? with
 | some (some (.nd ts))=>wE j (λn _=>match n.data with
  | .int k=>match ixN ts.length k with
   | some j=>.nx (δ1.set i (some (.nd (ts.set j (.fz r.data)))))
   | none=>.bad
  | _=>.bad) δ1
 | _=>.bad
def Zlz(i:Nat)(e j j2:FE):FS:=wE e λr δ1=>match δ1[i]? with
 | some (some (.nd ts))=>wE j (λn _=>match n.data with
  | .int k=>match ixN ts.length k with
   | some j=>match ts[j]? with
    | some (.nd us)=>wE j2 (λn' _=>match n'.data with
     | .int k'=>match ixN us.length k' with
      | some j'=>.nx (δ1.set i (some (.nd (ts.set j (.nd (us.set j' (.fz r.data)))))))
      | none=>.bad
     | _=>.bad) δ1
    | _=>.bad
   | none=>.bad
  | _=>.bad) δ1
 | _=>.bad
def Zcu(i:Nat)(u:FS):FS:=λδ=>match δ[i]? with|some (some t)=>u (δ.set i (some (.fz t.data)))|_=>.bad
def forLoop(g:FG)(u:FS):List Xa->Zg->RS
 | [],δ=>.nx δ
 | d :: ds,δ=>match g d δ with
  | none=>.bad
  | some δ1=>match u δ1 with
   | .nx δ2=>forLoop g u ds δ2
   | .ct δ2=>forLoop g u ds δ2
   | .bk δ2=>.nx δ2
   | r=>r
def Zb2(it:FI)(g:FG)(u:FS):FS:=λδ=>match it δ with|some (ds,δ1)=>forLoop g u ds δ1|none=>.bad
def whileLoop(t:FT)(u:FS):Nat->Zg->RS
 | 0,_=>.bad
 | n+1,δ=>match t δ with
  | none=>.bad
  | some (b,δ1)=>if b=true then match u δ1 with
   | .nx δ2=>whileLoop t u n δ2
   | .ct δ2=>whileLoop t u n δ2
   | .bk δ2=>.nx δ2
   | .rt r δ2=>.rt r δ2
   | _=>.bad
   else .nx δ1
open Classical in
def Zkt(t:FT)(u:FS):FS:=λδ=>if h:∃n,whileLoop t u n δ≠ .bad then whileLoop t u (Classical.choose h) δ else .bad
def Zb9(n:Nat)(ds:List Xa):Zg:=ds.map (λd=>some (.fz d)) ++ X6 (n-ds.length) none
def Yex(n:Nat)(t:OT)(ds:List Xa):Zg:=some t :: (ds.map (λd=>some (.fz d)) ++ X6 (n-(ds.length+1)) none)
def RS.told:RS->RF
 | .nx _=>.ok (.fz .none)
 | .rt r _=>.ok r
 | .ex c _=>.exn c
 | _=>.bad
def Jb(np n:Nat)(S:FS):FD:=λds=>if ds.length=np then(S (Zb9 n ds)).told else .bad
def sD(F:FD):List Xa->(OT->Prop)->Prop:=λds k=>∃r,F ds= .ok r/\k r
theorem bs{x:Option α}{f:α->Option β}{b:β}(h:x.bind f=some b):∃a,x=some a/\f a=some b:=Option.bind_eq_some_iff.mp h
section
variable {X:Cx}{io:List Nat}{p c:Bool}{e tg:Expr}{es:List Expr}{st:Stmt}{sts:List Stmt}{eo:Option Expr}{fa fb fc:FE}{ra:FA}{ta tb:FT}{i:Nat}
theorem Wg(h:ME X io p c e (Ycv i)):ME X io p c e (o2 (Zw i)):=h.weak λδ K q91=>by
 obtain⟨r,δ',h,k⟩:=q91
 unfold Zw at h;unfold Ycv
 split at h
 .rename_i d hd;(try rw[hd]);cases h;exact k
 .cases h
theorem Yat(h:ME X io p c e (Yc1 i)):ME X io p c e (o2 (Zvn i)):=h.weak λδ K q92=>by
 obtain⟨r,δ',h,k⟩:=q92
 unfold Zvn at h;unfold Yc1
 split at h
 .rename_i d hd;(try rw[hd]);cases h;exact k
 .cases h
theorem Zaf{d:Xa}(h:ME X io p c e (mC d)):ME X io p c e (o2 (fC d)):=h.weak λδ K ⟨r,δ',h,k⟩=>by cases h;exact k
def ByS(g:Xa->Xa->Option Xa)(rp:Xa->Xa->(Xa->Prop)->Prop):Prop:=∀d e r k,g d e=some r->k r->rp d e k
def ByO(g:Xa->Xa->Option OT)(rp:Xa->Xa->(OT->Prop)->Prop):Prop:=∀d e r k,g d e=some r->k r->rp d e k
theorem Z1c{g rp}(G:ByS g rp){K:OT->Zg->Prop}(h:o2 (Zh g fa fb) δ K):Zqa rp (o2 fa) (o2 fb) δ K:=by
 obtain⟨r,δ',h,k⟩:=h
 obtain⟨⟨x,δ1⟩,h1,h⟩:=bs h
 obtain⟨⟨y,δ2⟩,h2,h⟩:=bs h
 obtain⟨d,h3,h⟩:=bs h
 cases h
 exact⟨x,δ1,h1,y,δ2,h2,G _ _ _ _ h3 k⟩
theorem Yd{g rp}(G:ByS g rp)(h:ME X io p c e (Zqa rp (o2 fa) (o2 fb))):ME X io p c e (o2 (Zh g fa fb)):=h.weak λδ K z=>Z1c G z
theorem Yji{f:FE}{K:Bool->Zg->Prop}(h:o2 (tV f) δ K):o2 f δ (kB K):=by
 obtain⟨b,δ',h,k⟩:=h
 obtain⟨⟨x,δ1⟩,h1,h⟩:=bs h
 refine⟨x,δ1,h1,?_⟩
 unfold kB
 try dsimp only at h|-
 split at h
 .cases h;exact k
 .cases h
theorem Zc0{g rp}(G:ByS g rp)(h:MT X io p e (λδ K=>Zqa rp (o2 fa) (o2 fb) δ (kB K))):MT X io p e (o2 (tV (Zh g fa fb))):=h.weak λδ K z=>Z1c G (Yji z)
theorem Ztn{g rp}(G:ByO g rp)(h:ME X io p c e (Ycy rp (o2 fa) (o2 fb))):ME X io p c e (o2 (W8 g fa fb)):=h.weak λδ K h=>by
 obtain⟨r,δ',h,k⟩:=h
 obtain⟨⟨x,δ1⟩,h1,h⟩:=bs h
 obtain⟨⟨y,δ2⟩,h2,h⟩:=bs h
 obtain⟨d,h3,h⟩:=bs h
 cases h
 exact⟨x,δ1,h1,y,δ2,h2,G _ _ _ _ h3 k⟩
def Ybn:Xa->Option Xa| .int i=>some (.int (-i))|_=>none
def Ycx:Xa->Option Xa| .bool b=>some (.bool (!b))|_=>none
theorem Z1q(h:ME X io p c e (Yin (o2 fa))):ME X io p c e (o2 (fUn Ybn fa)):=h.weak λδ K h=>by
 obtain⟨r,δ',h,k⟩:=h
 obtain⟨⟨x,δ1⟩,h1,h⟩:=bs h
 obtain⟨d,h3,h⟩:=bs h
 cases h
 refine⟨x,δ1,h1,?_⟩
 dsimp only at h3|-
 cases q:x.data<;>rw[q]at h3<;>cases h3
 exact k
theorem Zu4(h:ME X io p c e (Yba (o2 fa))):ME X io p c e (o2 (fUn Ycx fa)):=h.weak λδ K h=>by
 obtain⟨r,δ',h,k⟩:=h
 obtain⟨⟨x,δ1⟩,h1,h⟩:=bs h
 obtain⟨d,h3,h⟩:=bs h
 cases h
 refine⟨x,δ1,h1,?_⟩
 dsimp only at h3|-
 cases q:x.data<;>rw[q]at h3<;>cases h3
 exact k
theorem Za6(h:ME X io p c e (Yal (o2 fa) (o2 fb))):ME X io p c e (o2 (Zoq fa fb)):=h.weak λδ K h=>by
 obtain⟨r,δ',h,k⟩:=h
 obtain⟨⟨x,δ1⟩,h1,h⟩:=bs h
 refine⟨x,δ1,h1,?_⟩
 try dsimp only at h|-
 split at h
 .rename_i q;(try rw[q]);rw[Zqx,if_pos rfl];exact⟨r,δ',h,k⟩
 .rename_i q;(try rw[q]);cases h;rw[Zqx,if_neg Xm];exact k
 .cases h
theorem Z8z(h:ME X io p c e (Yjp (o2 fa) (o2 fb))):ME X io p c e (o2 (fOr fa fb)):=h.weak λδ K h=>by
 obtain⟨r,δ',h,k⟩:=h
 obtain⟨⟨x,δ1⟩,h1,h⟩:=bs h
 refine⟨x,δ1,h1,?_⟩
 try dsimp only at h|-
 split at h
 .rename_i q;(try rw[q]);cases h;rw[Zqx,if_pos rfl];exact k
 .rename_i q;(try rw[q]);rw[Zqx,if_neg Xm];exact⟨r,δ',h,k⟩
 .cases h
theorem Z3p(h:ME X io p c e (mIf (o2 ta) (o2 fa) (o2 fb))):ME X io p c e (o2 (fIf ta fa fb)):=h.weak λδ K h=>by
 obtain⟨r,δ',h,k⟩:=h
 obtain⟨⟨x,δ1⟩,h1,h⟩:=bs h
 refine⟨x,δ1,h1,?_⟩
 try dsimp only at h|-
 split at h
 .rename_i q;rw[if_pos q];exact⟨r,δ',h,k⟩
 .rename_i q;rw[if_neg q];exact⟨r,δ',h,k⟩
theorem Z0g(h:MT X io p e (Yhj (o2 ta))):MT X io p e (o2 (tNo ta)):=h.weak λδ K h=>by
 obtain⟨r,δ',h,k⟩:=h
 obtain⟨⟨x,δ1⟩,h1,h⟩:=bs h
 cases h
 exact⟨x,δ1,h1,k⟩
theorem Z15(h:MW X io p e (Yjk (o2 ta) (o2 tb))):MW X io p e (o2 (tAn ta tb)):=h.weak λδ K h=>by
 obtain⟨r,δ',h,k⟩:=h
 obtain⟨⟨x,δ1⟩,h1,h⟩:=bs h
 refine⟨x,δ1,h1,?_⟩
 try dsimp only at h|-
 split at h
 .rename_i q;rw[if_pos q];exact⟨r,δ',h,k⟩
 .rename_i q;rw[if_neg q];cases h;exact k
theorem Zjb(h:MW X io p e (mOr (o2 ta) (o2 tb))):MW X io p e (o2 (tO ta tb)):=h.weak λδ K h=>by
 obtain⟨r,δ',h,k⟩:=h
 obtain⟨⟨x,δ1⟩,h1,h⟩:=bs h
 refine⟨x,δ1,h1,?_⟩
 try dsimp only at h|-
 split at h
 .rename_i q;rw[if_pos q];cases h;exact k
 .rename_i q;rw[if_neg q];exact⟨r,δ',h,k⟩
theorem Yu(h:MT X io p e (Yi9 (o2 fa))):MT X io p e (o2 (tD fa)):=h.weak λδ K h=>by
 obtain⟨r,δ',h,k⟩:=h
 obtain⟨⟨x,δ1⟩,h1,h⟩:=bs h
 obtain⟨d,h3,h⟩:=bs h
 cases h
 refine⟨x,δ1,h1,?_⟩
 dsimp only at h3|-
 rw[h3]
 exact k
theorem Zko(h:MA X io p c es Yht):MA X io p c es (o2 Z5):=h.weak λδ K ⟨r,δ',h,k⟩=>by cases h;exact k
theorem Z4n(h:MA X io p c es (Z73 (o2 fa) (o2 ra))):MA X io p c es (o2 (Zd fa ra)):=h.weak λδ K h=>by
 obtain⟨r,δ',h,k⟩:=h
 obtain⟨⟨x,δ1⟩,h1,h⟩:=bs h
 obtain⟨⟨y,δ2⟩,h2,h⟩:=bs h
 cases h
 exact⟨x,δ1,h1,y,δ2,h2,k⟩
theorem Z9r(h:ME X io p c e (Yi4 (o2 ra))):ME X io p c e (o2 (Zji ra)):=h.weak λδ K h=>by
 obtain⟨r,δ',h,k⟩:=h
 obtain⟨⟨x,δ1⟩,h1,h⟩:=bs h
 refine⟨x,δ1,h1,?_⟩
 dsimp only at h
 split at h
 .rename_i q;cases h;exact⟨q,k⟩
 .cases h
theorem Z9l(h:ME X io p c e (Yje (o2 ra))):ME X io p c e (o2 (Zsb ra)):=h.weak λδ K h=>by
 obtain⟨r,δ',h,k⟩:=h
 obtain⟨⟨x,δ1⟩,h1,h⟩:=bs h
 refine⟨x,δ1,h1,?_⟩
 dsimp only at h
 split at h
 .rename_i q;cases h;exact⟨q,k⟩
 .cases h
theorem Z3r(h:ME X io p c e (Z7b (o2 fa))):ME X io p c e (o2 (Zxr fa)):=h.weak λδ K h=>by
 obtain⟨r,δ',h,k⟩:=h
 obtain⟨⟨x,δ1⟩,h1,h⟩:=bs h
 refine⟨x,δ1,h1,?_⟩
 dsimp only at h
 split at h
 .rename_i q;cases h;exact⟨q,k⟩
 .cases h
theorem Zo3{F:FD}(h:ME X io p c e (Z49 (sD F) (o2 ra))):ME X io p c e (o2 (Zo F ra)):=h.weak λδ K h=>by
 obtain⟨r,δ',h,k⟩:=h
 obtain⟨⟨x,δ1⟩,h1,h⟩:=bs h
 refine⟨x,δ1,h1,?_⟩
 dsimp only at h
 split at h
 .rename_i q;cases h;exact⟨_,q,k⟩
 .cases h
theorem Zdd{g rp}(G:∀ds r k,g ds=some r->k r->rp ds k)(h:ME X io p c e (Ycp rp (o2 ra))):ME X io p c e (o2 (Zgl g ra)):=h.weak λδ K h=>by
 obtain⟨r,δ',h,k⟩:=h
 obtain⟨⟨x,δ1⟩,h1,h⟩:=bs h
 obtain⟨d,h3,h⟩:=bs h
 cases h
 exact⟨x,δ1,h1,G _ _ _ h3 k⟩
theorem Zp6{g rp}(G:∀ds r k,g ds=some r->k r->rp ds k)(h:ME X io p c e (mBl rp (o2 ra))):ME X io p c e (o2 (fBl g ra)):=h.weak λδ K h=>by
 obtain⟨r,δ',h,k⟩:=h
 obtain⟨⟨x,δ1⟩,h1,h⟩:=bs h
 obtain⟨d,h3,h⟩:=bs h
 cases h
 exact⟨x,δ1,h1,G _ _ _ h3 k⟩
theorem Jc{T:String}(h:ME X io p c e (Yjq T (o2 fa))):ME X io p c e (o2 (Zhy T fa)):=h.weak λδ K h=>by
 obtain⟨r,δ',h,k⟩:=h
 obtain⟨⟨x,δ1⟩,h1,h⟩:=bs h
 by_cases hf:Zir x.data=true
 .have h':(if Zir x.data=true then none else some (OT.fz (.bool (Zpd T x.data)),δ1))=some (r,δ'):=h
  rw[if_pos hf]at h'
  cases h'
 .have h':(if Zir x.data=true then none else some (OT.fz (.bool (Zpd T x.data)),δ1))=some (r,δ'):=h
  rw[if_neg hf]at h'
  injection h' with h'
  injection h' with e1 e2
  subst e1 e2
  exact⟨x,_,h1,Bool.eq_false_iff.mpr hf,k⟩
theorem Z52(h:MO X io p eo Ztp):MO X io p eo (o2 oN):=h.weak λδ K ⟨r,δ',h,k⟩=>by cases h;exact k
theorem Zpn(h:MO X io p eo (Z74 (o2 fa))):MO X io p eo (o2 (oI fa)):=h.weak λδ K h=>by
 obtain⟨r,δ',h,k⟩:=h
 obtain⟨⟨x,δ1⟩,h1,h⟩:=bs h
 refine⟨x,δ1,h1,?_⟩
 try dsimp only at h|-
 split at h
 .rename_i q;(try rw[q]);cases h;exact k
 .cases h
theorem Z9e{lo hi:FO}(h:ME X io p c e (mSl (o2 fa) (o2 lo) (o2 hi))):ME X io p c e (o2 (fSl fa lo hi)):=h.weak λδ K h=>by
 obtain⟨r,δ',h,k⟩:=h
 obtain⟨⟨x,δ1⟩,h1,h⟩:=bs h
 obtain⟨⟨y,δ2⟩,h2,h⟩:=bs h
 obtain⟨⟨z,δ3⟩,h3,h⟩:=bs h
 refine⟨x,δ1,h1,y,δ2,h2,z,δ3,h3,?_⟩
 try dsimp only at h|-
 split at h
 .rename_i q;(try rw[q]);cases h;exact k
 .cases h
theorem Ztf{f g:Int->Int->Bool}{K:OT->Zg->Prop}(h:o2 (Zjk f g fa fb fc) δ K):Zk5 f g (o2 fa) (o2 fb) (o2 fc) δ K:=by
 obtain⟨r,δ',h,k⟩:=h
 obtain⟨⟨x,δ1⟩,h1,h⟩:=bs h
 obtain⟨⟨y,δ2⟩,h2,h⟩:=bs h
 refine⟨x,δ1,h1,y,δ2,h2,?_⟩
 try dsimp only at h|-
 split at h
 case h_2=>cases h
 rename_i i j q1 q2
 (try rw[q1,q2])
 show(if f i j=true then _ else _)
 split at h
 .rename_i hf
  rw[if_pos hf]
  obtain⟨⟨z,δ3⟩,h3,h⟩:=bs h
  refine⟨z,δ3,h3,?_⟩
  try dsimp only at h|-
  split at h
  .rename_i q;(try rw[q]);cases h;exact k
  .cases h
 .rename_i hf
  rw[if_neg hf]
  cases h
  exact k
theorem Zy3{f g:Int->Int->Bool}(h:ME X io p c e (Zk5 f g (o2 fa) (o2 fb) (o2 fc))):ME X io p c e (o2 (Zjk f g fa fb fc)):=h.weak λδ K z=>Ztf z
theorem Zym{f g:Int->Int->Bool}(h:MT X io p e (λδ K=>Zk5 f g (o2 fa) (o2 fb) (o2 fc) δ (kB K))):MT X io p e (o2 (tV (Zjk f g fa fb fc))):=h.weak λδ K z=>Ztf (Yji z)
theorem Z4a(h:MI X io p c tg e (iL (o2 fa))):MI X io p c tg e (o2 (Zcd fa)):=h.weak λδ K h=>by
 obtain⟨r,δ',h,k⟩:=h
 obtain⟨⟨x,δ1⟩,h1,h⟩:=bs h
 refine⟨x,δ1,h1,?_⟩
 try dsimp only at h|-
 split at h
 .rename_i q;(try rw[q]);cases h;exact k
 .cases h
theorem Zj9(h:MI X io p c tg e (iR1 (o2 ra))):MI X io p c tg e (o2 (iRa ra)):=h.weak λδ K h=>by
 obtain⟨r,δ',h,k⟩:=h
 obtain⟨⟨x,δ1⟩,h1,h⟩:=bs h
 refine⟨x,δ1,h1,?_⟩
 try dsimp only at h|-
 split at h
 case h_2=>cases h
 rename_i q
 (try rw[q])
 try dsimp only
 split at h
 .rename_i b;cases h;exact⟨Zg9 b,k⟩
 .cases h
theorem Z8t(h:MI X io p c tg e (iR2 (o2 ra))):MI X io p c tg e (o2 (iRb ra)):=h.weak λδ K h=>by
 obtain⟨r,δ',h,k⟩:=h
 obtain⟨⟨x,δ1⟩,h1,h⟩:=bs h
 refine⟨x,δ1,h1,?_⟩
 try dsimp only at h|-
 split at h
 case h_2=>cases h
 rename_i q
 (try rw[q])
 try dsimp only
 split at h
 .rename_i b
  cases h
  rw[XX]at b
  exact⟨⟨(Zg9 b.1).1,(Zg9 b.1).2,(Zg9 b.2).1,(Zg9 b.2).2⟩,k⟩
 .cases h
theorem Zp0(h:MG X io c tg (dName i)):MG X io c tg (oG (gNm i)):=h.weak λd δ K ⟨δ',h,k⟩=>by cases h;exact k
theorem Zvf(h:MGs X io c es Yg5):MGs X io c es (oGs gNl):=h.weak λd δ K q94=>by
 obtain⟨δ',h,k⟩:=q94
 unfold gNl at h
 split at h
 .cases h;exact⟨rfl,k⟩
 .cases h
theorem Zil{g:FG}{gs:FGs}(h:MGs X io c es (Z8s (oG g) (oGs gs))):MGs X io c es (oGs (gCn g gs)):=h.weak λd δ K q95=>by
 obtain⟨δ',h,k⟩:=q95
 unfold gCn at h
 split at h
 .obtain⟨δ1,h1,h⟩:=bs h
  exact⟨δ1,h1,δ',h,k⟩
 .cases h
theorem Z03{n:Nat}{gs:FGs}(h:MG X io c tg (dTup n (oGs gs))):MG X io c tg (oG (gTp n gs)):=h.weak λd δ K q96=>by
 obtain⟨δ',h,k⟩:=q96
 unfold gTp at h
 split at h
 case h_2=>cases h
 split at h
 .rename_i q;exact⟨q,δ',h,k⟩
 .cases h
theorem Wj(h:MIfs X io p es Z6z):MIfs X io p es (o2 Zdx):=h.weak λδ K ⟨r,δ',h,k⟩=>by cases h;exact k
theorem Z4g{g:FG}{t:FT}{me:FE}{ds:List Xa}{δ0:Zg}{zs:List OT}{δe:Zg}(h:compLoop g t me ds δ0=some (zs,δe)) :
  ∃I:Nat->List OT->Zg->Prop,I 0 [] δ0/\
 (∀ (i:Nat) (d:Xa) (rs:List OT) (δ':Zg),ds[i]? =some d->I i rs δ'->oG g d δ' λδ2=>o2 t δ2 λb δ3=>if b=true then o2 me δ3 λr δ4=>I (i+1) (rs ++ [r]) δ4 else I (i+1) rs δ3)/\
 ∀rs δ',I ds.length rs δ'->rs=zs/\δ'=δe:=by
 refine⟨λi rs δ'=>∃ys,rs ++ ys=zs/\compLoop g t me (ds.drop i) δ'=some (ys,δe),⟨zs,rfl,by rw[List.drop_zero];exact h⟩,?_,?_⟩
 .rintro i d rs δ' hd ⟨ys,e,hl⟩
  obtain⟨hi,hdi⟩:=Xi.mp hd
  rw[List.drop_eq_getElem_cons hi,hdi]at hl
  unfold compLoop at hl
  obtain⟨δ1,h1,hl⟩:=bs hl
  obtain⟨⟨b,δ2⟩,h2,hl⟩:=bs hl
  refine⟨δ1,h1,b,δ2,h2,?_⟩
  dsimp only at hl
  split at hl
  .rename_i hb
   rw[if_pos hb]
   obtain⟨⟨r,δ3⟩,h3,hl⟩:=bs hl
   obtain⟨⟨ws,δ4⟩,h4,hl⟩:=bs hl
   cases hl
   exact⟨r,δ3,h3,ws,by rw[JW];exact e,h4⟩
  .rename_i hb
   rw[if_neg hb]
   exact⟨ys,e,hl⟩
 .rintro rs δ' ⟨ys,e,hl⟩
  rw[List.drop_length]at hl
  unfold compLoop at hl
  cases hl
  exact⟨by rw[<-e,QX],rfl⟩
theorem Zqv{n:Nat}{it:FI}{g:FG}{t:FT}{me:FE}{K:OT->Zg->Prop}(h:o2 (Yn n caps it g t me) δ K):Zg5 n caps (o2 it) (oG g) (o2 t) (o2 me) δ K:=by
 obtain⟨r,δ',h,k⟩:=h
 obtain⟨⟨ds,δ1⟩,h1,h⟩:=bs h
 refine⟨ds,δ1,h1,?_⟩
 dsimp only at h
 split at h
 case isFalse=>cases h
 rename_i hz
 obtain⟨⟨zs,δe⟩,h2,h⟩:=bs h
 cases h
 obtain⟨I,i0,st,en⟩:=Z4g h2
 refine⟨hz,I,i0,st,λrs δ'' q=>?_⟩
 obtain⟨rfl,rfl⟩:=en rs δ'' q
 exact k
theorem J5{n:Nat}{it:FI}{g:FG}{t:FT}{me:FE}(h:ME X io p c e (Zg5 n caps (o2 it) (oG g) (o2 t) (o2 me))):ME X io p c e (o2 (Yn n caps it g t me)):=h.weak λδ K z=>Zqv z
end
end L2
variable {ra:FA}{F:FD}{me fa fb fc:FE}{g gg:FG}{it:FI}{hi:FO}{pl:Pos}
namespace L2
open PySem PySem.Spec PyProof.Rows
section
variable {X:Cx}{io:List Nat}{p c:Bool}{e tg iter:Expr}{es:List Expr}{st:Stmt}{sts:List Stmt}{fa fb fc:FE}{ra:FA}{ta tb:FT}{i:Nat}{f g u w:FS}
theorem Zhn(h:MSs X io sts (Yfr (oS f) (oS g))):MSs X io sts (oS (Z3 f g)):=h.weak λD δ h=>by
 unfold oS Z3 at h;unfold Yfr oS
 cases q:f δ<;>rw[q]at h<;>exact h
theorem Zds(h:MSs X io sts Z79):MSs X io sts (oS fNx):=h.weak λD δ h=>h
theorem Zmk{k:OT->Zg->RS}{D:Zka}(h:oS (wE fa k) D δ):o2 fa δ λr δ'=>(k r δ').fits D:=by
 unfold oS wE at h
 split at h
 .rename_i q;exact⟨_,_,q,h⟩
 .exact h.elim
theorem o2.imp{f:Zg->Option (α×Zg)}{K K':α->Zg->Prop}(h:o2 f δ K)(k:∀r δ',K r δ'->K' r δ'):o2 f δ K':=let⟨r,δ',e,q⟩:=h;⟨r,δ',e,k r δ' q⟩
theorem Zii{P:Prop}[Decidable P]{a:RS}{D:Zka}(h:(if P then a else .bad:RS).fits D):P/\a.fits D:=by
 split at h
 .exact⟨‹_›,h⟩
 .exact h.elim
theorem Zwr(h:MS X io st (Ybb (o2 fa))):MS X io st (oS (wE fa Zwe)):=h.weak λD δ h=>Zmk h
theorem Zf3(h:MS X io st (Yip (o2 fa))):MS X io st (oS (wE fa W7)):=h.weak λD δ h=>Zmk h
theorem Zee(h:MS X io st (Zxm i)):MS X io st (oS (Zgc i)):=h.weak λD δ h=>by
 unfold oS Zgc at h;unfold Zxm
 split at h
 .rename_i q;(try rw[q]);exact h
 .exact h.elim
theorem Zm1(h:MS X io st (Yjb (o2 ta) (oS u) (oS w))):MS X io st (oS (Jd ta u w)):=h.weak λD δ h=>by
 unfold oS Jd at h
 split at h
 .rename_i b δ' q
  refine⟨b,δ',q,?_⟩
  split at h
  .rename_i hb;rw[if_pos hb];exact h
  .rename_i hb;rw[if_neg hb];exact h
 .exact h.elim
theorem Z7p(h:MS X io st (Z6v i (o2 fa))):MS X io st (oS (wE fa (Zaa i))):=h.weak λD δ h=>Zmk h
theorem Z5d(h:MS X io st (Z25 i (o2 fa))):MS X io st (oS (wE fa (Zya i))):=h.weak λD δ h=>(Zmk h).imp λr δ' q=>Zii q
theorem Zt3(h:MS X io st (Zn3 i (o2 fa))):MS X io st (oS (wE fa (Zbh i))):=h.weak λD δ h=>Zmk h
section
variable {n:Nat}{o q:Nat}{t:FT}
theorem Zmh(h:MS X io st (if true=true then Zn3 i (Zg5 n caps (o2 it) (oG gg) (o2 t) (o2 me))else Z6v i (Zg5 n caps (o2 it) (oG gg) (o2 t) (o2 me)))):MS X io st (oS (wE (Yn n caps it gg t me) (Zbh i))) :=
 h.weak λD δ h=>by rw[if_pos rfl];exact Zqv (Zmk h)
theorem Zo1(h:MS X io st (if false=true then Zn3 i (Zg5 n caps (o2 it) (oG gg) (o2 t) (o2 me))else Z6v i (Zg5 n caps (o2 it) (oG gg) (o2 t) (o2 me)))):MS X io st (oS (wE (Yn n caps it gg t me) (Zaa i))) :=
 h.weak λD δ h=>by rw[if_neg Xm];exact Zqv (Zmk h)
end
theorem Z99(h:MS X io st (Yi0 (o2 fa) (oG gg))):MS X io st (oS (wE fa (Ya0 gg))):=h.weak λD δ h=>(Zmk h).imp λr δ' q=>by
 unfold Ya0 at q
 split at q
 .rename_i z;exact⟨_,z,q⟩
 .exact q.elim
theorem Zba(h:MS X io st (Zla i (o2 fa))):MS X io st (oS (W2 i fa)):=h.weak λD δ h=>by
 unfold oS W2 at h;unfold Zla
 split at h
 case h_2=>exact h.elim
 rename_i q;(try rw[q])
 refine(Zmk h).imp λr δ' z=>?_
 split at z
 .rename_i q2;(try rw[q2]);exact Zii z
 .exact z.elim
theorem Zsm(h:MS X io st (Zid i (o2 fa))):MS X io st (oS (Zch i fa)):=h.weak λD δ h=>by
 unfold oS Zch at h;unfold Zid
 split at h
 case h_2=>exact h.elim
 rename_i q;(try rw[q])
 refine(Zmk h).imp λr δ' z=>?_
 split at z
 .rename_i q2;(try rw[q2]);exact Zii z
 .exact z.elim
theorem Z1m(h:MS X io st (Yjc i (o2 fa) (o2 fb))):MS X io st (oS (Z6w i fa fb)):=h.weak λD δ h=>by
 refine(Zmk h).imp λr δ' z=>?_
 split at z
 case h_2=>exact z.elim
 rename_i q;(try rw[q])
 refine(Zmk z).imp λn δ2 z=>?_
 split at z
 case h_2=>exact z.elim
 rename_i k q2;(try rw[q2])
 show match ixN _ k with|some j=>_|none=>_
 split at z
 .rename_i q3;(try rw[q3]);exact z
 .exact z.elim
theorem Zlh(h:MS X io st (Z63 i (o2 fa) (o2 fb) (o2 fc))):MS X io st (oS (Zlz i fa fb fc)):=h.weak λD δ h=>by
 refine(Zmk h).imp λr δ' z=>?_
 split at z
 case h_2=>exact z.elim
 rename_i q;(try rw[q])
 refine(Zmk z).imp λn δ2 z=>?_
 split at z
 case h_2=>exact z.elim
 rename_i k q2;(try rw[q2])
 show match ixN _ k with|some j=>_|none=>_
 split at z
 case h_2=>exact z.elim
 rename_i q3;(try rw[q3])
 try dsimp only
 split at z
 case h_2=>exact z.elim
 rename_i q4;(try rw[q4])
 refine(Zmk z).imp λn' δ3 z=>?_
 split at z
 case h_2=>exact z.elim
 rename_i k' q5;(try rw[q5])
 show match ixN _ k' with|some j=>_|none=>_
 split at z
 .rename_i q6;(try rw[q6]);exact z
 .exact z.elim
theorem Zga(h:MS X io st (Zl6 i (oS u))):MS X io st (oS (Zcu i u)):=h.weak λD δ h=>by
 unfold oS Zcu at h;unfold Zl6
 split at h
 .rename_i q;(try rw[q]);exact h
 .exact h.elim
theorem Zho{d:Xa}{ds:List Xa}:forLoop gg u (d :: ds) δ=match gg d δ with
  | none=>.bad
  | some δ1=>match u δ1 with
   | .nx δ2=>forLoop gg u ds δ2
   | .ct δ2=>forLoop gg u ds δ2
   | .bk δ2=>.nx δ2
   | r=>r:=rfl
theorem Z0q(h:MS X io st (Yim (o2 it) (oG gg) (oS u))):MS X io st (oS (Zb2 it gg u)):=h.weak λD δ h=>by
 unfold oS Zb2 at h
 split at h
 case h_2=>exact h.elim
 rename_i ds δ1 q
 refine⟨ds,δ1,q,λi δ'=>(forLoop gg u (ds.drop i) δ').fits D,by show RS.fits D (forLoop gg u (ds.drop 0) δ1);rw[List.drop_zero];exact h,λi d δ' hd z=>?_,λδ' z=>?_⟩
 .obtain⟨hi,hdi⟩:=Xi.mp hd
  replace z:RS.fits D (forLoop gg u (ds.drop i) δ'):=z
  rw[List.drop_eq_getElem_cons hi,hdi,Zho]at z
  split at z
  case h_1=>exact z.elim
  rename_i δ2 q2
  refine⟨δ2,q2,?_⟩
  unfold oS
  cases q3:u δ2<;>rw[q3]at z<;>(try rw[q3])<;>exact z
 .replace z:RS.fits D (forLoop gg u (ds.drop ds.length) δ'):=z
  rw[List.drop_length]at z;exact z
theorem Zq2(h:MS X io st (Z2d (o2 ta) (oS u))):MS X io st (oS (Zkt ta u)):=h.weak λD δ h=>by
 unfold oS Zkt at h
 split at h
 case isFalse=>exact h.elim
 rename_i hn
 refine⟨λn δ'=>(whileLoop ta u n δ').fits D,⟨_,h⟩,λn δ' z=>?_⟩
 cases n with
 | zero=>exact z.elim
 | succ n=>
  unfold whileLoop at z
  split at z
  case h_1=>exact z.elim
  rename_i b δ1 q
  refine⟨b,δ1,q,?_⟩
  split at z
  .rename_i hb
   rw[if_pos hb]
   refine⟨λδ''=>(whileLoop ta u n δ'').fits D,λδ'' y=>⟨n,Vi n,y⟩,?_⟩
   unfold oS
   cases q3:u δ1<;>rw[q3]at z<;>exact z
  .rename_i hb
   rw[if_neg hb]
   exact z
theorem Ze3{n m:Nat}:∀{δ:Zg},whileLoop ta u n δ≠ .bad->whileLoop ta u (n+m) δ=whileLoop ta u n δ:=by
 induction n with
 | zero=>intro δ h;exact absurd rfl h
 | succ n ih=>
  intro δ h
  rw[Nat.succ_add]
  unfold whileLoop at h|-
  cases q:ta δ with
  | none=>rfl
  | some x=>
   obtain⟨b,δ1⟩:=x
   rw[q]at h
   try dsimp only at h|-
   split
   .rename_i hb
    rw[if_pos hb]at h
    cases q3:u δ1<;>rw[q3]at h<;>first|exact ih h|rfl
   .rfl
theorem Zmu{r:RS}(n:Nat)(h:whileLoop ta u n δ=r)(hr:r≠ .bad):Zkt ta u δ=r:=by
 have hn:∃n,whileLoop ta u n δ≠ .bad:=⟨n,by rw[h];exact hr⟩
 unfold Zkt
 rw[dif_pos hn]
 have h1:=Classical.choose_spec hn
 have e1:=Ze3 (m:=n) h1
 have e2:=Ze3 (m:=Classical.choose hn) (show whileLoop ta u n δ≠ .bad by rw[h];exact hr)
 rw[Nat.add_comm]at e2
 rw[<-e1,e2,h]
theorem Zij{cn:Str}:MS X io st (oS (Zk8 cn)):=Zyz.weak λD δ h=>h
class NoEx (f:FS):Prop where
 no:∀δ cn δ',f δ≠ .ex cn δ'
class NoExK (k:OT->Zg->RS):Prop where
 no:∀r δ cn δ',k r δ≠ .ex cn δ'
end
section
variable {P:XJ}{w:Ql}{K:Xb}{mg:Str->Option Xe}{base:Heap}{x qual:Str}{st:Stmt}{f:Addr}{fd:XF}{N ps:List Str}{n np nn:Nat}{S:FS}
theorem RS.told_fits{r:RS}{o:OT}{k:OT->Prop}(h:r.told= .ok o)(hk:k o):r.fits (Z2i k):=by
 cases r<;>unfold RS.told at h<;>first|(cases h;exact hk)|cases h
theorem Z0(F:Fun K x qual st f fd)(Sc:Zm N ps (Zi st))(hN:N.length=nn)(hp:np=ps.length)
  (hb:∀(cdv:Xe) (A:Qk) (outer:List Env) (s:Xg) (H:Hp) (E:XK),Room n (A.deeper (envOfC qual (Zi st) s.heap.objs.size f cdv))->MSs (Z13 CX0 P w K mg base N qual (Zi st) f cdv A outer s H E).nox [] (Zcf st) (oS S)) :
  FnOk P w K mg base CX0 (n+1) f fd ps (spD K (sD (Jb np nn S))):=by
 subst hN hp
 refine F.okD Sc (λds k h=>?_) λcdv A outer s H E hr=>⟨_,hb cdv A outer s H E hr,λds k h=>?_⟩
 .obtain⟨r,h,_⟩:=h
  unfold Jb at h
  split at h
  .assumption
  .cases h
 .obtain⟨r,h,hk⟩:=h
  unfold Jb at h
  split at h
  .exact RS.told_fits h hk
  .cases h
end
def i2(g:Int->Int->Xa):Xa->Xa->Option Xa:=λd e=>match d,e with| .int i,.int j=>some (g i j)|_,_=>none
def i2c(c:Int->Int->Bool)(g:Int->Int->Xa):Xa->Xa->Option Xa:=λd e=>match d,e with| .int i,.int j=>if c i j=true then some (g i j)else none|_,_=>none
theorem Zu3{g:Int->Int->Xa}:ByS (i2 g) (Zzr g):=λd e r k h hk=>by
 unfold i2 at h
 split at h
 .cases h;exact hk
 .cases h
theorem Zre{c:Int->Int->Bool}{C:Int->Int->Prop}{g:Int->Int->Xa}(hc:∀i j,c i j=true->C i j):ByS (i2c c g) (d2I C g):=λd e r k h hk=>by
 unfold i2c at h
 split at h
 .split at h
  .cases h;exact⟨hc _ _ ‹_›,hk⟩
  .cases h
 .cases h
def Z6b(a b:Int):Bool:=!(decide (JM a>shortFactorBits)&&decide (JM b>shortFactorBits)&&Builtin.Int.intTooBig (JM a+JM b))
def Yb4(_ j:Int):Bool:=decide (j≠0)&&decide (j.natAbs.log2<9000)
def Yid(_ j:Int):Bool:=decide (j≠0)
def Yev(i j:Int):Bool:=decide (0<=j/\j<=1000000/\i.natAbs<2^64)
theorem Zik{a:Int}:Z6b a b=true↔IntMulOk a b:=by
 unfold Z6b IntMulOk
 rw[Bool.not_eq_true',Bool.not_eq_true]
def Zhz:=i2 λi j=>.int (i+j)
def gSb:=i2 λi j=>.int (i-j)
def Zkh:=i2c Z6b λi j=>.int (i*j)
def J6:=i2c Yb4 λi j=>.int (i.fdiv j)
def Zdh:=i2c Yid λi j=>.int (i.fmod j)
def Znz:=i2c Yev λi j=>.int (i^j.toNat)
def gLt:=i2 λi j=>.bool (decide (i<j))
def gLe:=i2 λi j=>.bool (decide (i<=j))
def gGt:=i2 λi j=>.bool (decide (j<i))
def gGe:=i2 λi j=>.bool (decide (j<=i))
theorem Yfw:ByS Zhz (Zzr λi j=>.int (i+j)):=Zu3
theorem Yew:ByS gSb (Zzr λi j=>.int (i-j)):=Zu3
theorem Ygb:ByS Zkh (d2I MulOk λi j=>.int (i*j)):=Zre λi j h=>⟨Zik.mp h⟩
theorem Z8g:ByS J6 (d2I Yh4 λi j=>.int (i.fdiv j)):=Zre λi j h=>⟨by
 unfold Yb4 at h
 rw[XX]at h
 exact⟨of_decide_eq_true h.1,of_decide_eq_true h.2⟩⟩
theorem Ygh:ByS Zdh (d2I (λ_ j=>j≠0) λi j=>.int (i.fmod j)):=Zre λi j h=>of_decide_eq_true h
theorem Yel:ByS Znz (d2I Yhf λi j=>.int (i^j.toNat)):=Zre λi j h=>⟨(of_decide_eq_true h:0<=j/\j<=1000000/\i.natAbs<2^64)⟩
theorem Ydz:ByS gLt (Zzr λi j=>.bool (decide (i<j))):=Zu3
theorem Yg8:ByS gGt (Zzr λi j=>.bool (decide (j<i))):=Zu3
theorem Yda:ByS gGe (Zzr λi j=>.bool (decide (j<=i))):=Zu3
def gEq:Xa->Xa->Option Xa:=λd e=>if(JQ d&&JQ e)=true then some (.bool (QL d e))else none
def gNe:Xa->Xa->Option Xa:=λd e=>if(JQ d&&JQ e)=true then some (.bool (!QL d e))else none
theorem Zxf:ByS gEq dEq:=λd e r k h hk=>by
 unfold gEq at h
 split at h
 .rename_i q
  rw[XX]at q
  cases h
  exact⟨⟨q.1⟩,⟨q.2⟩,hk⟩
 .cases h
theorem Ych:ByS gNe dNe:=λd e r k h hk=>by
 unfold gNe at h
 split at h
 .rename_i q
  rw[XX]at q
  cases h
  exact⟨⟨q.1⟩,⟨q.2⟩,hk⟩
 .cases h
def gIs:Xa->Xa->Option Xa:=λd e=>match e with| .none=>some (.bool (Zdr d))|_=>none
def Z7q:Xa->Xa->Option Xa:=λd e=>match e with| .none=>some (.bool (!Zdr d))|_=>none
theorem Yii:ByS gIs Yiy:=λd e r k h hk=>by
 unfold gIs at h
 split at h
 .cases h;exact⟨rfl,hk⟩
 .cases h
def Z5a(neg:Bool):Xa->Xa->Option Xa:=λd e=>match Zhv e with
 | some ds=>if(scD d&&ds.all scD)=true then some (.bool (if neg then !memS d ds else memS d ds))else none
 | none=>none
theorem Z5i{neg:Bool}:ByS (Z5a neg) (dIn neg):=λd e r k h hk=>by
 unfold Z5a at h
 split at h
 case h_2=>cases h
 rename_i ds q
 split at h
 case isFalse=>cases h
 rename_i q2
 rw[XX]at q2
 cases h
 refine⟨q2.1,?_⟩
 cases e<;>cases q
 .exact⟨q2.2,hk⟩
 .exact⟨q2.2,hk⟩
def gIx:Xa->Xa->Option OT:=λd e=>(ixD d e).bind λx=>some (.fz x)
theorem Yk8:ByO gIx dIx:=λd e r k h hk=>by
 obtain⟨x,h1,h2⟩:=bs h
 cases h2
 unfold dIx
 rw[h1]
 exact hk
def Ylh:Xa->Xa->Option OT:=λd e=>match d,e with| .list ds,.list es=>if ds.length+es.length<=Xk then some (.nd ((ds ++ es).map OT.fz))else none|_,_=>none
def Zll:List Xa->Option Xa:=λds=>match ds with|[d]=>(Zzi d).bind λn=>some (.int n)|_=>none
theorem Z3l:∀ds r k,Zll ds=some r->k r->Yi6 ds k:=λds r k h hk=>by
 unfold Zll at h
 split at h
 .obtain⟨n,h1,h2⟩:=bs h
  cases h2
  show match Zzi _ with|some n=>_|none=>_
  rw[h1]
  exact hk
 .cases h
def Z6x:List Xa->Option Xa:=λds=>match ds with|[.int i]=>some (.int (if i<0 then -i else i))|_=>none
theorem Z34:∀ds r k,Z6x ds=some r->k r->Yg4 ds k:=λds r k h hk=>by
 unfold Z6x at h
 split at h
 .cases h;exact hk
 .cases h
def Yk1:List Xa->Option Xa:=λds=>match ds with|[.int i,.int j]=>some (.int (if j>i then j else i))|_=>none
def Ylf:List Xa->Option Xa:=λds=>match ds with|[.int i,.int j]=>some (.int (if j<i then j else i))|_=>none
def Yh5:List Xa->Option Xa:=λds=>match ds with|[.int i]=>some (.int i)|[.bool b]=>some (.int (if b then 1 else 0))|_=>none
def Znn:List Xa->Option OT:=λds=>match ds with|[d]=>(Zhv d).bind λes=>some (.nd (es.map OT.fz))|_=>none
theorem Zw5:∀ds r k,Znn ds=some r->k r->Z88 ds k:=λds r k h hk=>by
 unfold Znn at h
 split at h
 .obtain⟨n,h1,h2⟩:=bs h
  cases h2
  show match Zhv _ with|some n=>_|none=>_
  rw[h1]
  exact hk
 .cases h
def Zkb:List Xa->Option (List Int)
 | []=>some []
 | .int i :: r=>(Zkb r).bind λl=>some (i :: l)
 | _ :: _=>none
theorem Zgg:∀{ds:List Xa} {ns:List Int},Zkb ds=some ns->ds=ns.map Xl
 | [],_,h=>by cases h;rfl
 | .int i :: r,_,h=>by
  obtain⟨l,h1,h2⟩:=bs h
  cases h2
  rw[Zgg h1];rfl
 | .none :: _,_,h=>by cases h
 | .bool _ :: _,_,h=>by cases h
 | .str _ :: _,_,h=>by cases h
 | .list _ :: _,_,h=>by cases h
 | .tuple _ :: _,_,h=>by cases h
 | .dict _ :: _,_,h=>by cases h
@[simp] theorem Zdt:∀ns:List Int,Zkb (ns.map Xl)=some ns
 | []=>rfl
 | n :: ns=>by rw[Xv,Zkb,Zdt ns];rfl
def Ycw:List Xa->Option Xa:=λds=>match ds with|[.list es]=>(Zkb es).bind λns=>some (.int ns.sum)|_=>none
theorem Yfi:∀ds r k,Ycw ds=some r->k r->Yij ds k:=λds r k h hk=>by
 unfold Ycw at h
 split at h
 .obtain⟨n,h1,h2⟩:=bs h
  cases h2
  exact⟨n,by rw[Zgg h1],hk⟩
 .cases h
section
variable {X:Cx}{io:List Nat}{p c:Bool}{e tg:Expr}{es:List Expr}{st:Stmt}{fa fb fc:FE}{ra:FA}{i:Nat}
def Yih(a:FA):FE:=λδ=>(a δ).bind λp=>match OT.datas p.1 with|[.int j]=>if rOk j=true/\j.toNat<=Xk then some (.nd ((Zk0 0 j.toNat).map OT.fz),p.2)else none|_=>none
def Z4l(a b:FE):FE:=λδ=>(a δ).bind λp=>(b p.2).bind λq=>match q.1.data with| .int k=>if rOk k=true/\k.toNat<=Xk then some (.nd (X6 k.toNat (.fz p.1.data)),p.2)else none|_=>none
theorem Yae(h:ME X io p c e (Yhs (o2 fa) (o2 fb))):ME X io p c e (o2 (Z4l fa fb)):=h.weak λδ K h=>by
 obtain⟨r,δ',h,k⟩:=h
 obtain⟨⟨x,δ1⟩,h1,h⟩:=bs h
 obtain⟨⟨y,δ2⟩,h2,h⟩:=bs h
 refine⟨x,δ1,h1,y,δ2,h2,?_⟩
 try dsimp only at h|-
 split at h
 case h_2=>cases h
 rename_i q
 (try rw[q])
 split at h
 case isFalse=>cases h
 rename_i b
 cases h
 have z:=Zg9 b.1
 exact⟨⟨by omega,by omega,b.2⟩,k⟩
end
variable {G:Xb}
section
variable {X:Cx}{io:List Nat}{p c:Bool}{e a b:Expr}{es:List Expr}{m ma mb:MEt}{mr:MAt}{pos apos cpos px py pt sp kp:Pos}{i j:Nat}{x y:Str}{fa fb:FE}{ra:FA}{st:Stmt}
def Z8d(m:MAt):MEt:=λδ K=>m δ λrs δ'=>rs.length<=Xk/\K (.tp rs) δ'
theorem Z01{x1}(h:MA X io p c es mr):ME X io p c (.Tuple es x1 pos) (Z8d mr):=by
 obtain⟨tA,A,sa⟩:=h
 refine⟨_,Z0f A,λC H σ δ fp ex K Q R h k=>?_⟩
 refine sa C H σ δ fp ex _ _ R h λH1 vs rs δ1 fp1 new1 r1 h1=>⟨by rw[r1.own.length];exact h1.1,λq hq=>?_⟩
 have s:=Ye hq (.tup vs)
 have S:=r1.stp.trans (p':=true) (Stp.same (p:=true) (δ:=δ1) (fp:=fp1) s s.al)
 rw[Bool.and_true]at S
 exact k _ _ _ δ1 fp1 new1 ⟨(r1.rel.made (new:=[]) s λa m=>nomatch m).drop λa z=>.inl z,S,.tp Zy (r1.own.same s),r1.nd,r1.fresh⟩ h1.2
def Zrw(a:FA):FE:=λδ=>(a δ).bind λp=>if p.1.length<=Xk then some (.tp p.1,p.2)else none
theorem Zv4(h:ME X io p c e (Z8d (o2 ra))):ME X io p c e (o2 (Zrw ra)):=h.weak λδ K h=>by
 obtain⟨r,δ',h,k⟩:=h
 obtain⟨⟨x,δ1⟩,h1,h⟩:=bs h
 refine⟨x,δ1,h1,?_⟩
 dsimp only at h
 split at h
 .rename_i q;cases h;exact⟨q,k⟩
 .cases h
def Z1o(i c:Nat)(e:FE):FS:=λδ=>match δ[i]? with
 | some (some (.tp ts))=>match ts[c]? with
  | some (.nd us)=>wE e (λr _=>if us.length<Xk then .nx (δ.set i (some (.tp (ts.set c (.nd (us ++ [.fz r.data]))))))else .bad) δ
  | _=>.bad
 | _=>.bad
def Yhp(i j:Nat)(mr:MAt):MSt:=λD δ=>mr δ λrs δ1=>∃d e,OT.datas rs=[d,e]/\D.nx ((δ1.set i (some (.fz d))).set j (some (.fz e)))
theorem Yam{kt k2:Nat}{pt2:Pos}(hc:X.calm=true)(hN:X.N.Nodup)(hi:X.N[i]? =some x)(hj:X.N[j]? =some y)(hij:i≠j)(hx:X.env.scope.names.lookup x=some .local)(hy:X.env.scope.names.lookup y=some .local)(ha:MA X io p true [a,b] mr)
  (hi':i∉io:=by decide) (hj':j∉io:=by decide)
  (hw:Uz [.Tuple [.Name x px,.Name y py] kt pt] (.Tuple [a,b] k2 pt2) X.env=pure (some [x,y]):=by rfl)
  (hs:Uy [.Tuple [.Name x px,.Name y py] kt pt] (.Tuple [a,b] k2 pt2) pos.line X.env=pure false:=by rfl) :
  MS X io (.Assign [.Tuple [.Name x px,.Name y py] kt pt] (.Tuple [a,b] k2 pt2) pos) (Yhp i j mr):=by
 obtain⟨_,A,s⟩:=ha
 refine⟨_,Ycf hc hN hi hj hij hx hy A hw hs,λC H σ δ fp ex D D' R h E=>?_⟩
 refine s C H σ δ fp ex _ _ R h λH1 vs rs δ1 fp1 new r1 h1=>?_
 obtain⟨d,e,hd,h1⟩:=h1
 have q:=(r1.das R).wide (L':=Lf C fp1 ex) λa l _=>l rfl
 rw[hd]at q
 cases q with
 | cons q1 q=>
  cases q with
  | cons q2 q=>
   cases q
   obtain⟨fp2,R2,k2⟩:=r1.base.putD hi' q1
   have z:=r1.base.kp_das k2 (.cons q2 .nil)
   cases z with
   | cons q2' _=>
    obtain⟨fp3,R3,k3⟩:=R2.putD hj' q2'
    exact⟨_,_,rfl,E.nx _ _ _ fp3 R3 (r1.stp.kp.trans (k2.trans k3)) h1⟩
def Zxi(i j:Nat)(a:FA):FS:=λδ=>match a δ with
 | some (rs,δ1)=>match OT.datas rs with
  | [d,e]=>.nx ((δ1.set i (some (.fz d))).set j (some (.fz e)))
  | _=>.bad
 | none=>.bad
theorem Ybm(h:MS X io st (Yhp i j (o2 ra))):MS X io st (oS (Zxi i j ra)):=h.weak λD δ h=>by
 unfold oS Zxi at h
 split at h
 case h_2=>exact h.elim
 rename_i rs δ1 q
 refine⟨rs,δ1,q,?_⟩
 split at h
 .rename_i q2;exact⟨_,_,q2,h⟩
 .exact h.elim
end
class NoStar (e:Expr):Prop where
 h:∀es env,Xw (e :: es) env=(false,eval e env) :: Xw es env
instance nx_Name{p:Pos}:NoStar (.Name x p):=⟨λ_ _=>rfl⟩
instance nx_Constant{x k}{p:Pos}:NoStar (.Constant x k p):=⟨λ_ _=>rfl⟩
instance nx_BinOp{a o b}{p:Pos}:NoStar (.BinOp a o b p):=⟨λ_ _=>rfl⟩
instance nx_Call{f a k}{p:Pos}:NoStar (.Call f a k p):=⟨λ_ _=>rfl⟩
instance nx_List{a}{p:Pos}:NoStar (.List a p):=⟨λ_ _=>rfl⟩
instance nx_Subscript{a b}{p:Pos}:NoStar (.Subscript a b p):=⟨λ_ _=>rfl⟩
instance nx_ListComp{a b s}{p:Pos}:NoStar (.ListComp a b s p):=⟨λ_ _=>rfl⟩
theorem Ze{p2 c2:Bool}[NoStar e](ha:ME X io p c e (o2 fa))(hr:MA X io p' c' es (o2 ra))(hc:p'=true\/c=true:=by first|exact Qw rfl|exact Qt rfl)(h2:(p&&p')=p2:=by rfl)(h3:(c&&c')=c2:=by rfl):MA X io p2 c2 (e :: es) (o2 (Zd fa ra)) :=
 h2▸h3▸Z4n (Z2e ha hr hc (NoStar.h es X.env))
theorem Zw4(h:ME X io p c e m)(h2:p=p':=by rfl)(h3:c=c':=by rfl):ME X io p' c' e m:=h2▸h3▸h
theorem Z3c{base:Heap}{k:Nat}{f:Addr}{fd:XF}{S:List Xa->(OT->Prop)->Prop}(h:∀ds k,¬S ds k):FnOk P w K mg base CX k f fd ps (spD K S):=by
 have h':∀{vs H Q E},spD K S vs H Q E->False:=λq=>by
  obtain⟨_,ds,k,_,z,_⟩:=q
  exact h ds k z
 exact⟨λvs H Q E q=>(h' q).elim,λA outer s H args us vs Q E _ _ _ _ q=>(h' q).elim⟩
structure Gives(P:XJ)(w:Ql)(it:Addr)(f:List Addr)(St:Heap->Prop)(x:Xe)(St':Heap->Prop):Prop where
 mem:it∈f
 run:∀{A:Qk} {E:Xe->Xg->Prop} {s:Xg} {Q:Xe->Xg->Prop},St s.heap->(∀h',St' h'->BX it s.heap h'->Q x { s with heap:=h' })->XR (Qg P w) A (QK (.ref it)) Q E s
 keep:∀h h',(∀c∈f,∀o,h.get? c=some o->h'.get? c=some o)->St h->St h'
 keep':∀h h',(∀c∈f,∀o,h.get? c=some o->h'.get? c=some o)->St' h->St' h'
structure Zkz(P:XJ)(w:Ql)(it:Addr)(f:List Addr)(St:Heap->Prop):Prop where
 mem:it∈f
 run:∀{A:Qk} {E:Xe->Xg->Prop} {s:Xg} {Q:Xe->Xg->Prop},A.handled=none->St s.heap->(∀h' e,Heap.ExtBut it s.heap h'->(∃o,h'.get? e=some o/\o.cls= .type "StopIteration")->E (.ref e) { s with heap:=h' })->XR (Qg P w) A (QK (.ref it)) Q E s
 keep:∀h h',(∀c∈f,∀o,h.get? c=some o->h'.get? c=some o)->St h->St h'
structure ZA(z TI TO i1 i2:Addr)(f1 f2:List Addr):Prop where
 TIz:TI≠z
 TOz:TO≠z
 a1:∀c∈f1,c≠z/\c≠TO/\c≠i2
 a2:∀c∈f2,c≠z/\c≠TO/\c≠i1
section
variable {P:XJ}{w:Ql}{A:Qk}{E:Xe->Xg->Prop}{s:Xg}
theorem Zls{T:Addr}{a b x:Xe}{k:Nat}{Q:Unit->Xg->Prop}(hT:Bw s.heap T a b)(h:∀h',h'.get? T=some { cls:=.type "tuple",data:=.seq ((#[a,b]:Array Xe).setIfInBounds k x) }->BX T s.heap h'->Q () { s with heap:=h' }) :
  XR (Qg P w) A (updateSeq T (·.setIfInBounds k x)) Q E s:=wpAny_updateSeq_pair hT h
theorem Zvr{z TI TO i1 i2:Addr}{f1 f2:List Addr}{S1 T1 S2 T2:Heap->Prop}{x y a b:Xe}(D:ZA z TI TO i1 i2 f1 f2)(G1:Gives P w i1 f1 S1 x T1)(G2:Gives P w i2 f2 S2 y T2)
  (hz:IsZip s.heap z TI TO .none) (hTI:Bw s.heap TI (.ref i1) (.ref i2)) (hTO:Bw s.heap TO a b) (h1:S1 s.heap) (h2:S2 s.heap)
  (hQ:∀h',IsZip h' z TI TO (rawInt s.heap.objs.size)->Bw h' TO x y->T1 h'->T2 h'->Bw h' s.heap.objs.size x y ->
   (∀ c o,c∉[z,TO,i1,i2]->s.heap.get? c=some o->h'.get? c=some o)->Q (.ref s.heap.objs.size) { s with heap:=h' }) :
  XR (Qg P w) A (Builtin.«zip.__next__» ⟨[.ref z],[]⟩) (λfin s'=>∃v,fin= .done (.ret v)/\Q v s') E s:=by
 obtain⟨i1z,i1O,i12⟩:=D.a1 i1 G1.mem
 obtain⟨i2z,i2O,i21⟩:=D.a2 i2 G2.mem
 have r1:z∉f1/\TO∉f1/\i2∉f1:=⟨λm=>(D.a1 z m).1 rfl,λm=>(D.a1 TO m).2.1 rfl,λm=>(D.a1 i2 m).2.2 rfl⟩
 have r2:z∉f2/\TO∉f2/\i1∉f2:=⟨λm=>(D.a2 z m).1 rfl,λm=>(D.a2 TO m).2.1 rfl,λm=>(D.a2 i1 m).2.2 rfl⟩
 have st:∀{b:Addr} {h h':Heap} {f:List Addr},BX b h h'->b∉f->∀c∈f,∀o,h.get? c=some o->h'.get? c=some o:=λsb hb c hc o e=>sb.extBut _ _ (λq=>hb (q▸hc)) e
 show XR _ _ (field (.ref z) 2>>=_) _ _ _
 refine Xd (By hz rfl (x:=.bool false) rfl ?_)
 show XR _ _ (field (.ref z) 3>>=_) _ _ _
 refine Xd (By hz rfl (x:=.ref TI) rfl (Xd (Vm hTI rfl ?_)))
 show XR _ _ (Be (.ref z)>>=_) _ _ _
 refine Xd ?_
 unfold Be
 refine Xd (By hz rfl (x:=.none) rfl (Xy ?_))
 simp only[if_true]
 refine Xd (wpAny_rule (Xd (By hz rfl (x:=.ref TO) rfl (Xd (Vq hz (by simp) λh3 z3 b3=>?_)))))
 replace z3:IsZip h3 z TI TO .ellipsis:=z3
 refine Xd ?_
 simp only[List.zipIdx_cons,List.zipIdx_nil,List.forIn_cons,U3]
 refine Xd (Xd (wpAny_onRaise ?_))
 show XR _ _ (QK (.ref i1)>>=_) _ _ _
 refine Xd (G1.run (s:={ s with heap:=h3 }) (G1.keep _ _ (st b3 r1.1) h1) λh4 k4 b4=>Xy ?_)
 have o4:Bw h4 TO a b:=b4.extBut _ _ i1O.symm (b3.extBut _ _ D.TOz hTO)
 refine Xd (Vm o4 rfl (Xd (Zls (s:={ s with heap:=h4 }) o4 λh5 o5 b5=>Xd (wpAny_letGo (Xy ?_)))))
 replace o5:Bw h5 TO x b:=o5
 refine Xd (Xd (wpAny_onRaise ?_))
 show XR _ _ (QK (.ref i2)>>=_) _ _ _
 refine Xd (G2.run (s:={ s with heap:=h5 }) (G2.keep _ _ (st b5 r2.2.1) (G2.keep _ _ (st b4 r2.2.2) (G2.keep _ _ (st b3 r2.1) h2))) λh6 k6 b6=>Xy ?_)
 have o6:Bw h6 TO x b:=b6.extBut _ _ i2O.symm o5
 refine Xd (Vm o6 rfl (Xd (Zls (s:={ s with heap:=h6 }) o6 λh7 o7 b7=>Xd (wpAny_letGo (Xy (Xy ?_))))))
 replace o7:Bw h7 TO x y:=o7
 refine Xd (Vm o7 rfl (Xd (wpAny_newTuple ?_)))
 have sz:h7.objs.size=s.heap.objs.size:=by rw[b7.1,b6.1,b5.1,b4.1,b3.1]
 have z7:IsZip h7 z TI TO .ellipsis:=b7.extBut _ _ D.TOz.symm (b6.extBut _ _ i2z.symm (b5.extBut _ _ D.TOz.symm (b4.extBut _ _ i1z.symm z3)))
 have t1:T1 h7:=G1.keep' _ _ (st b7 r1.2.1) (G1.keep' _ _ (st b6 r1.2.2) (G1.keep' _ _ (st b5 r1.2.1) k4))
 have t2:T2 h7:=G2.keep' _ _ (st b7 r2.2.1) k6
 have old:∀c o,c∉[z,TO,i1,i2]->s.heap.get? c=some o->h7.get? c=some o:=λc o n e=>by
  simp only[Xo,VH,or_false,not_or]at n
  exact b7.extBut _ _ n.2.1 (b6.extBut _ _ n.2.2.2 (b5.extBut _ _ n.2.1 (b4.extBut _ _ n.2.2.1 (b3.extBut _ _ n.1 e))))
 show XR _ _ (U4 (.ref z) (.ref h7.objs.size)>>=_) _ _ _
 refine Xd ?_
 unfold U4
 have zp:IsZip (h7.push { cls:=.type "tuple",data:=.seq #[x,y] }) z TI TO .ellipsis:=Xh _ z7
 refine Xd (Vq zp (by simp) λh8 z8 b8=>?_)
 replace z8:IsZip h8 z TI TO (rawInt h7.objs.size):=z8
 refine Vq z8 (by simp) λh9 z9 b9=>?_
 replace z9:IsZip h9 z TI TO (rawInt h7.objs.size):=z9
 have up:∀c o,c≠z->h7.get? c=some o->h9.get? c=some o:=λc o n e=>b9.extBut _ _ n (b8.extBut _ _ n (Xh _ e))
 have nz:h7.objs.size≠z:=X3 (XH z7)
 have p9:Bw h9 h7.objs.size x y:=b9.extBut _ _ nz (b8.extBut _ _ nz (XQ _ rfl))
 refine Xy ⟨_,rfl,?_⟩
 show Q (.ref h7.objs.size) _
 rw[sz]at z9 p9|-
 exact hQ h9 z9 (up _ _ D.TOz o7) (G1.keep' _ _ (λc hc o e=>up c o (λq=>r1.1 (q▸hc)) e) t1) (G2.keep' _ _ (λc hc o e=>up c o (λq=>r2.1 (q▸hc)) e) t2) p9 λc o n e=>up c o (λq=>n (by simp[q])) (old c o n e)
theorem Zyb{z TI TO i1 i2:Addr}{f1 f2:List Addr}{S1 T1 S2:Heap->Prop}{a b:Xe}{Q:Fin->Xg->Prop}(hh:A.handled=none)(D:ZA z TI TO i1 i2 f1 f2)(g1:Zkz P w i1 f1 S1\/(∃x,Gives P w i1 f1 S1 x T1)/\Zkz P w i2 f2 S2)
  (hz:IsZip s.heap z TI TO .none) (hTI:Bw s.heap TI (.ref i1) (.ref i2)) (hTO:Bw s.heap TO a b) (h1:S1 s.heap) (h2:S2 s.heap)
  (hE:∀h' e,(∀c o,c∉[z,TO,i1,i2]->s.heap.get? c=some o->h'.get? c=some o)->(∃o,h'.get? e=some o/\o.cls= .type "StopIteration")->E (.ref e) { s with heap:=h' }) :
  XR (Qg P w) A (Builtin.«zip.__next__» ⟨[.ref z],[]⟩) Q E s:=by
 have r1:z∉f1/\TO∉f1/\i2∉f1:=⟨λm=>(D.a1 z m).1 rfl,λm=>(D.a1 TO m).2.1 rfl,λm=>(D.a1 i2 m).2.2 rfl⟩
 have r2:z∉f2/\TO∉f2/\i1∉f2:=⟨λm=>(D.a2 z m).1 rfl,λm=>(D.a2 TO m).2.1 rfl,λm=>(D.a2 i1 m).2.2 rfl⟩
 have st:∀{b:Addr} {h h':Heap} {f:List Addr},BX b h h'->b∉f->∀c∈f,∀o,h.get? c=some o->h'.get? c=some o:=λsb hb c hc o e=>sb.extBut _ _ (λq=>hb (q▸hc)) e
 show XR _ _ (field (.ref z) 2>>=_) _ _ _
 refine Xd (By hz rfl (x:=.bool false) rfl ?_)
 show XR _ _ (field (.ref z) 3>>=_) _ _ _
 refine Xd (By hz rfl (x:=.ref TI) rfl (Xd (Vm hTI rfl ?_)))
 show XR _ _ (Be (.ref z)>>=_) _ _ _
 refine Xd ?_
 unfold Be
 refine Xd (By hz rfl (x:=.none) rfl (Xy ?_))
 simp only[if_true]
 refine Xd (wpAny_rule (Xd (By hz rfl (x:=.ref TO) rfl (Xd (Vq hz (by simp) λh3 z3 b3=>?_)))))
 replace z3:IsZip h3 z TI TO .ellipsis:=z3
 refine Xd ?_
 simp only[List.zipIdx_cons,List.zipIdx_nil,List.forIn_cons,U3]
 refine Xd (Xd (wpAny_onRaise ?_))
 show XR _ _ (QK (.ref i1)>>=_) _ _ _
 rcases g1 with G1|⟨⟨x,G1⟩,G2⟩
 .obtain⟨i1z,i1O,i12⟩:=D.a1 i1 G1.mem
  refine Xd (G1.run (s:={ s with heap:=h3 }) hh (G1.keep _ _ (st b3 r1.1) h1) λh4 e b4 he=>?_)
  obtain⟨oe,hoe,hce⟩:=he
  have z4:IsZip h4 z TI TO .ellipsis:=b4 _ _ i1z.symm z3
  have ez:e≠z:=λq=>by subst q;rw[z4]at hoe;cases hoe;simp at hce
  refine Vq z4 (by simp) λh5 _ b5=>hE h5 e (λc o n q=>?_) ⟨oe,b5.extBut _ _ ez hoe,hce⟩
  simp only[Xo,VH,or_false,not_or]at n
  exact b5.extBut _ _ n.1 (b4 _ _ n.2.2.1 (b3.extBut _ _ n.1 q))
 .obtain⟨i1z,i1O,i12⟩:=D.a1 i1 G1.mem
  obtain⟨i2z,i2O,i21⟩:=D.a2 i2 G2.mem
  refine Xd (G1.run (s:={ s with heap:=h3 }) (G1.keep _ _ (st b3 r1.1) h1) λh4 k4 b4=>Xy ?_)
  have o4:Bw h4 TO a b:=b4.extBut _ _ i1O.symm (b3.extBut _ _ D.TOz hTO)
  refine Xd (Vm o4 rfl (Xd (Zls (s:={ s with heap:=h4 }) o4 λh5 o5 b5=>Xd (wpAny_letGo (Xy ?_)))))
  refine Xd (Xd (wpAny_onRaise ?_))
  show XR _ _ (QK (.ref i2)>>=_) _ _ _
  refine Xd (G2.run (s:={ s with heap:=h5 }) hh (G2.keep _ _ (st b5 r2.2.1) (G2.keep _ _ (st b4 r2.2.2) (G2.keep _ _ (st b3 r2.1) h2))) λh6 e b6 he=>?_)
  obtain⟨oe,hoe,hce⟩:=he
  have z6:IsZip h6 z TI TO .ellipsis:=b6 _ _ i2z.symm (b5.extBut _ _ D.TOz.symm (b4.extBut _ _ i1z.symm z3))
  have ez:e≠z:=λq=>by subst q;rw[z6]at hoe;cases hoe;simp at hce
  refine Vq z6 (by simp) λh7 _ b7=>hE h7 e (λc o n q=>?_) ⟨oe,b7.extBut _ _ ez hoe,hce⟩
  simp only[Xo,VH,or_false,not_or]at n
  exact b7.extBut _ _ n.1 (b6 _ _ n.2.2.2 (b5.extBut _ _ n.2.1 (b4.extBut _ _ n.2.2.1 (b3.extBut _ _ n.1 q))))
theorem Zsc{z TI TO i1 i2:Addr}{f1 f2:List Addr}{S1 T1 S2 T2:Heap->Prop}{x y a b:Xe}{Q:Option Xe->Xg->Prop}(D:ZA z TI TO i1 i2 f1 f2)(G1:Gives P w i1 f1 S1 x T1)(G2:Gives P w i2 f2 S2 y T2)
  (hz:IsZip s.heap z TI TO .none) (hTI:Bw s.heap TI (.ref i1) (.ref i2)) (hTO:Bw s.heap TO a b) (h1:S1 s.heap) (h2:S2 s.heap)
  (hQ:∀h',IsZip h' z TI TO (rawInt s.heap.objs.size)->Bw h' TO x y->T1 h'->T2 h'->Bw h' s.heap.objs.size x y ->
   (∀ c o,c∉[z,TO,i1,i2]->s.heap.get? c=some o->h'.get? c=some o)->Q (some (.ref s.heap.objs.size)) { s with heap:=h' }):XR (Qg P w) A (pyNext (.ref z)) Q E s:=by
 have hT:s.TypeIs (.ref z) "zip" :=⟨_,hz,rfl⟩
 unfold pyNext
 exact Xd (wpAny_attempt (Bs (name:=Q8 "__next__") hT F.slot_zip_next (BJ F.slot_zip_next hT F.entry_zip_next (Zvr D G1 G2 hz hTI hTO h1 h2 λh' a1 a2 a3 a4 a5 a6=>Xy (hQ h' a1 a2 a3 a4 a5 a6)) (F.args_zip_next_1 _))))
theorem Zvj{z TI TO i1 i2:Addr}{f1 f2:List Addr}{S1 T1 S2:Heap->Prop}{a b:Xe}{Q:Option Xe->Xg->Prop}(hh:A.handled=none)(D:ZA z TI TO i1 i2 f1 f2)(g1:Zkz P w i1 f1 S1\/(∃x,Gives P w i1 f1 S1 x T1)/\Zkz P w i2 f2 S2)
  (hz:IsZip s.heap z TI TO .none) (hTI:Bw s.heap TI (.ref i1) (.ref i2)) (hTO:Bw s.heap TO a b) (h1:S1 s.heap) (h2:S2 s.heap)
  (hQ:∀h',(∀c o,c∉[z,TO,i1,i2]->s.heap.get? c=some o->h'.get? c=some o)->Q none { s with heap:=h' }):XR (Qg P w) A (pyNext (.ref z)) Q E s:=by
 have hT:s.TypeIs (.ref z) "zip" :=⟨_,hz,rfl⟩
 unfold pyNext
 refine Xd (wpAny_attempt (Bs (name:=Q8 "__next__") hT F.slot_zip_next (BJ F.slot_zip_next hT F.entry_zip_next (Zyb hh D g1 hz hTI hTO h1 h2 λh' e hk he=>?_) (F.args_zip_next_1 _))))
 obtain⟨o,ho,hc⟩:=he
 exact Xd (wpAny_isInstance (T :="StopIteration") (b:=true) ⟨o,ho,hc⟩ isSubtype_stop (Xy (hQ _ hk)))
theorem Zu9{it t:Addr}{items:Array Xe}{x:Xe}(hx:items[i]? =some x):Gives P w it [it,t] (λh=>IsTupIter h it t i/\IsTup h t items) x (λh=>IsTupIter h it t (i+1)) where
 mem:=by simp
 run:=fun{A E s Q} ⟨hit,ht⟩ hQ=>by
  obtain⟨o,ho,hc,hd⟩:=id hit
  obtain⟨ol,hol,_,nl,hdl⟩:=ht
  unfold QK
  refine Xd (Bs (name:=Q8 "__next__") hit.typeIs slot_tupleiter_next (BJ slot_tupleiter_next hit.typeIs entry_tupleiter_next ?_ (args_tupleiter_next _)))
  show XR _ _ (field (.ref it) 0>>=_) _ _ s
  refine Xd (By ho hd (x:=.ref t) rfl ?_)
  show XR _ _ (if(Qo t==QH)=true then _ else _) _ _ s
  rw[if_neg (show¬((Qo t==QH)=true)from Xm)]
  show XR _ _ (field (.ref it) 1>>=_) _ _ s
  refine Xd (By ho hd (x:=.int i 0) rfl ?_)
  show XR _ _ (seqItems? (.ref t)>>=_) _ _ s
  refine Xd (Vm hol hdl ?_)
  simp only[JG,hx]
  refine Xd (wpAny_setField ho hd (by simp) (Xy ⟨x,rfl,Xy (hQ _ ?_ (Uj ..))⟩))
  exact⟨_,Heap.get?_update_self _ ho (Obj.isFreed_of_fields (U8 hd _)),(Obj.cls_mapFields ..).trans hc,by rw[U8 hd];simp[rawInt]⟩
 keep:=λh h' k ⟨⟨o,a1,a2⟩,⟨o',b1,b2⟩⟩=>⟨⟨o,k it (by simp) o a1,a2⟩,⟨o',k t (by simp) o' b1,b2⟩⟩
 keep':=λh h' k ⟨o,a1,a2⟩=>⟨o,k it (by simp) o a1,a2⟩
theorem Zz3{it t:Addr}{items:Array Xe}(hx:items[i]? =none):Zkz P w it [it,t] (λh=>IsTupIter h it t i/\IsTup h t items) where
 mem:=by simp
 run:=fun{A E s Q} hh ⟨hit,ht⟩ hE=>by
  obtain⟨o,ho,hc,hd⟩:=id hit
  obtain⟨ol,hol,_,nl,hdl⟩:=ht
  unfold QK
  refine Xd (Bs (name:=Q8 "__next__") hit.typeIs slot_tupleiter_next (BJ slot_tupleiter_next hit.typeIs entry_tupleiter_next ?_ (args_tupleiter_next _)))
  show XR _ _ (field (.ref it) 0>>=_) _ _ s
  refine Xd (By ho hd (x:=.ref t) rfl ?_)
  show XR _ _ (if(Qo t==QH)=true then _ else _) _ _ s
  rw[if_neg (show¬((Qo t==QH)=true)from Xm)]
  show XR _ _ (field (.ref it) 1>>=_) _ _ s
  refine Xd (By ho hd (x:=.int i 0) rfl ?_)
  show XR _ _ (seqItems? (.ref t)>>=_) _ _ s
  refine Xd (Vm hol hdl ?_)
  simp only[JG,hx]
  refine Xd (wpAny_rule (Xd (wpAny_setField ho hd (by simp) ?_)))
  show XR _ _ (newExc (.type "StopIteration") []>>=_) _ _ _
  refine Xd ?_
  simp only[newExc,newTuple]
  refine Xd (Br ?_ (by size_fits))
  refine Xd (m:=firstArgMember _ _) (wpAny_of_eq (a:=QH) (by first|rfl|(simp only[firstArgMember];rfl)) ?_)
  refine Br ?_ (by size_fits)
  simp only[raiseNew]
  refine Xd (wpAny_handled ?_)
  first|rw[show A.in1.handled=none from hh]|rw[hh]
  exact Xd (Xy (wpAny_throw (hE _ _ (((Uj ..).extBut.push _).push _) ⟨_,XQ _ rfl,rfl⟩)))
 keep:=λh h' k ⟨⟨o,a1,a2⟩,⟨o',b1,b2⟩⟩=>⟨⟨o,k it (by simp) o a1,a2⟩,⟨o',k t (by simp) o' b1,b2⟩⟩
end
abbrev zT1(h:Heap)(a:Addr):Heap:=h.push { cls:=.type "tuple_iterator",data:=.fields #[.ref a,.int 0 0] }
abbrev zT2(h:Heap)(a b:Addr):Heap:=(zT1 h a).push { cls:=.type "tuple_iterator",data:=.fields #[.ref b,.int 0 0] }
abbrev zT3(h:Heap)(a b:Addr):Heap:=(zT2 h a b).push { cls:=.type "tuple",data:=.seq #[.ref h.objs.size,.ref (zT1 h a).objs.size] }
abbrev zT4(h:Heap)(a b:Addr):Heap:=(zT3 h a b).push { cls:=.type "tuple",data:=.seq #[.none,.none] }
abbrev zT5(h:Heap)(a b:Addr):Heap:=(zT4 h a b).push { cls:=.type "zip",data:=.fields #[.none,.bool false,.bool false,.ref (zT2 h a b).objs.size,.ref (zT3 h a b).objs.size] }
theorem Z0a(a b:Addr)(xs ys:Array Xe) :
  Meets (Builtin.«zip.__new__» ⟨[.type "zip",.ref a,.ref b],[]⟩) (λ_ R s=>IsTup s.heap a xs/\IsTup s.heap b ys/\R (.ok (.ret (.ref (zT4 s.heap a b).objs.size))) { s with heap:=zT5 s.heap a b }) :=
 .of_wp λprog w A R s h=>by
  obtain⟨hp,g,d,tk,os⟩:=s
  obtain⟨h1,h2,h⟩:=h
  have hsub:=sub_zip
  have hL1:IsTup (Xg.heap ⟨hp,g,d,tk,os⟩) a xs:=h1
  have hL2:IsTup (Xg.heap ⟨hp.push { cls:=.type "tuple_iterator",data:=.fields #[.ref a,.int 0 0] },g,d,tk,os⟩) b ys:=h2.push _
  wp_walk using iter_tuple hL1,iter_tuple hL2
  exact⟨_,rfl,h⟩
section
variable {P:XJ}{w:Ql}{A:Qk}{E:Xe->Xg->Prop}{s:Xg}
theorem Zvz{b:Addr}{xs ys:Array Xe}(h1:IsTup s.heap a xs)(h2:IsTup s.heap b ys)
  (h:∀h' n,n=s.heap.objs.size->IsZip h' (n+4) (n+2) (n+3) .none->Bw h' (n+2) (.ref n) (.ref (n+1))->Bw h' (n+3) .none .none->IsTupIter h' n a 0->IsTupIter h' (n+1) b 0 ->
   (∀ c o,s.heap.get? c=some o->h'.get? c=some o)->Q (.ref (n+4)) { s with heap:=h' }):XR (Qg P w) A (call (.type "zip") [.ref a,.ref b]) Q E s:=by
 refine callType_new F.called_zip (by decide) (F.typeCall_zip_2 _ _) (F.newCall_zip_2 _ _) (λobj=>F.args_object_init_3 obj _ _) F.entry_zip_new (Z0a a b xs ys) ⟨h1,h2,?_⟩
 have e1:(zT1 s.heap a).objs.size=s.heap.objs.size+1:=JH ..
 have e2:(zT2 s.heap a b).objs.size=s.heap.objs.size+2:=by rw[JH,e1]
 have e3:(zT3 s.heap a b).objs.size=s.heap.objs.size+3:=by rw[JH,e2]
 have e4:(zT4 s.heap a b).objs.size=s.heap.objs.size+4:=by rw[JH,e3]
 have up:∀{c o},(zT1 s.heap a).get? c=some o->(zT5 s.heap a b).get? c=some o:=λx=>Xh _ (Xh _ (Xh _ (Xh _ x)))
 have p5:(zT5 s.heap a b).get? (zT4 s.heap a b).objs.size=some _:=XQ _ rfl
 have p4:(zT5 s.heap a b).get? (zT3 s.heap a b).objs.size=some _:=Xh _ (XQ _ rfl)
 have p3:(zT5 s.heap a b).get? (zT2 s.heap a b).objs.size=some _:=Xh _ (Xh _ (XQ _ rfl))
 have p2:(zT5 s.heap a b).get? (zT1 s.heap a).objs.size=some _:=Xh _ (Xh _ (Xh _ (XQ _ rfl)))
 have p1:(zT5 s.heap a b).get? s.heap.objs.size=some _:=up (XQ _ rfl)
 show _/\_
 rw[e2,e3,e4]at p5
 rw[e1,e2]at p3
 rw[e3]at p4
 rw[e1]at p2
 rw[e4]
 exact⟨⟨_,p5,rfl⟩,h _ _ rfl p5 p3 p4 ⟨_,p1,rfl,rfl⟩ ⟨_,p2,rfl,rfl⟩ λc o x=>up (Xh _ x)⟩
end
theorem nn{n a b:Nat}(h:a≠b):n+a≠n+b:=λe=>h (Nat.add_left_cancel e)
theorem n0{n b:Nat}(h:0≠b):n≠n+b:=λe=>h (Nat.add_left_cancel (n:=n) e)
theorem nlt{n a c:Nat}(h:a<n):a≠n+c:=Xu (Qe h (Bu ..))
theorem ZA.new{n a b:Nat}(h1:a<n)(h2:b<n):ZA (n+4) (n+2) (n+3) n (n+1) [n,a] [n+1,b] where
 TIz:=(by first|exact nn (by decide)|exact n0 (by decide)|exact(n0 (by decide)).symm|exact nlt h1|exact nlt h2|exact(nlt h1).symm|exact(nlt h2).symm|exact Xu h1|exact Xu h2|exact X3 h1|exact X3 h2|omega)
 TOz:=(by first|exact nn (by decide)|exact n0 (by decide)|exact(n0 (by decide)).symm|exact nlt h1|exact nlt h2|exact(nlt h1).symm|exact(nlt h2).symm|exact Xu h1|exact Xu h2|exact X3 h1|exact X3 h2|omega)
 a1:=λc hc=>by
  simp only[Xo,VH,or_false]at hc
  rcases hc with rfl|rfl
  .exact⟨(by first|exact nn (by decide)|exact n0 (by decide)|exact(n0 (by decide)).symm|exact nlt h1|exact nlt h2|exact(nlt h1).symm|exact(nlt h2).symm|exact Xu h1|exact Xu h2|exact X3 h1|exact X3 h2|omega),(by first|exact nn (by decide)|exact n0 (by decide)|exact(n0 (by decide)).symm|exact nlt h1|exact nlt h2|exact(nlt h1).symm|exact(nlt h2).symm|exact Xu h1|exact Xu h2|exact X3 h1|exact X3 h2|omega),(by first|exact nn (by decide)|exact n0 (by decide)|exact(n0 (by decide)).symm|exact nlt h1|exact nlt h2|exact(nlt h1).symm|exact(nlt h2).symm|exact Xu h1|exact Xu h2|exact X3 h1|exact X3 h2|omega)⟩
  .exact⟨(by first|exact nn (by decide)|exact n0 (by decide)|exact(n0 (by decide)).symm|exact nlt h1|exact nlt h2|exact(nlt h1).symm|exact(nlt h2).symm|exact Xu h1|exact Xu h2|exact X3 h1|exact X3 h2|omega),(by first|exact nn (by decide)|exact n0 (by decide)|exact(n0 (by decide)).symm|exact nlt h1|exact nlt h2|exact(nlt h1).symm|exact(nlt h2).symm|exact Xu h1|exact Xu h2|exact X3 h1|exact X3 h2|omega),(by first|exact nn (by decide)|exact n0 (by decide)|exact(n0 (by decide)).symm|exact nlt h1|exact nlt h2|exact(nlt h1).symm|exact(nlt h2).symm|exact Xu h1|exact Xu h2|exact X3 h1|exact X3 h2|omega)⟩
 a2:=λc hc=>by
  simp only[Xo,VH,or_false]at hc
  rcases hc with rfl|rfl
  .exact⟨(by first|exact nn (by decide)|exact n0 (by decide)|exact(n0 (by decide)).symm|exact nlt h1|exact nlt h2|exact(nlt h1).symm|exact(nlt h2).symm|exact Xu h1|exact Xu h2|exact X3 h1|exact X3 h2|omega),(by first|exact nn (by decide)|exact n0 (by decide)|exact(n0 (by decide)).symm|exact nlt h1|exact nlt h2|exact(nlt h1).symm|exact(nlt h2).symm|exact Xu h1|exact Xu h2|exact X3 h1|exact X3 h2|omega),(by first|exact nn (by decide)|exact n0 (by decide)|exact(n0 (by decide)).symm|exact nlt h1|exact nlt h2|exact(nlt h1).symm|exact(nlt h2).symm|exact Xu h1|exact Xu h2|exact X3 h1|exact X3 h2|omega)⟩
  .exact⟨(by first|exact nn (by decide)|exact n0 (by decide)|exact(n0 (by decide)).symm|exact nlt h1|exact nlt h2|exact(nlt h1).symm|exact(nlt h2).symm|exact Xu h1|exact Xu h2|exact X3 h1|exact X3 h2|omega),(by first|exact nn (by decide)|exact n0 (by decide)|exact(n0 (by decide)).symm|exact nlt h1|exact nlt h2|exact(nlt h1).symm|exact(nlt h2).symm|exact Xu h1|exact Xu h2|exact X3 h1|exact X3 h2|omega),(by first|exact nn (by decide)|exact n0 (by decide)|exact(n0 (by decide)).symm|exact nlt h1|exact nlt h2|exact(nlt h1).symm|exact(nlt h2).symm|exact Xu h1|exact Xu h2|exact X3 h1|exact X3 h2|omega)⟩
theorem ZA.new2(n:Nat):(n+2:Nat)≠n+3/\(n+2:Nat)≠n/\(n+2:Nat)≠n+1:=⟨nn (by decide),(n0 (by decide)).symm,nn (by decide)⟩
section
variable {X:Cx}{io:List Nat}{p c:Bool}{a b:Expr}{mr:MAt}
def Z6r(ds:List Xa):Option (List Xa):=match ds with|[.list as,.list bs]=>some (Zmj as bs)|[.tuple as,.tuple bs]=>some (Zmj as bs)|_=>none
def Zgk(a:FA):FI:=λδ=>(a δ).bind λp=>(Z6r (OT.datas p.1)).bind λds=>some (ds,p.2)
end
variable {G:Xb}
section
variable {X:Cx}{io:List Nat}{p c:Bool}{a b e:Expr}{mr:MAt}{ra:FA}{i:Nat}
def isFn(y:Str)(d:Xa):Bool:=match d with| .dict [(.str x,.bool true)]=>decide (x=y)|_=>false
end
section
variable {X:Cx}{io:List Nat}{p c:Bool}{a:Expr}{mr:MAt}{ra:FA}
end
variable {G:Xb}
theorem Z8b{p:α->Prop}{a b c d:α}(h1:p a)(h2:p b)(h3:p c)(h4:p d):∀x∈[a,b,c,d],p x:=by
 intro x hx
 rcases Xo.mp hx with rfl|hx
 .exact h1
 rcases Xo.mp hx with rfl|hx
 .exact h2
 rcases Xo.mp hx with rfl|hx
 .exact h3
 rcases Xn.mp hx with rfl
 exact h4
theorem Ydm{p:α->Prop}{a b c d e:α}(h1:p a)(h2:p b)(h3:p c)(h4:p d)(h5:p e):∀x∈[a,b,c,d,e],p x:=λx hx=>(Xo.mp hx).elim (λq=>q▸h1) (Z8b h2 h3 h4 h5 x)
theorem no4{a b c d x:α}(h1:x≠a)(h2:x≠b)(h3:x≠c)(h4:x≠d):x∉[a,b,c,d]:=λhx=>Z8b (p:=λy=>x≠y) h1 h2 h3 h4 x hx rfl
def SqB(K:Xb)(t:Bool)(H:Hp)(a:Addr)(xs:List V):Prop:=match t with|true=>H a=some (.tup xs)|false=>SqL K H a xs
def IsB(t:Bool)(h:Heap)(a:Addr)(its:Array Xe):Prop:=match t with|true=>IsTup h a its|false=>h.IsList a its
def ItB(t:Bool)(h:Heap)(it a:Addr)(i:Nat):Prop:=match t with|true=>IsTupIter h it a i|false=>h.IsListIter it a i
theorem ItB.at{t:Bool}{h h':Heap}{it a:Addr}{i:Nat}(x:ItB t h it a i)(k:∀o,h.get? it=some o->h'.get? it=some o):ItB t h' it a i:=by
 cases t with
 | false=>exact Heap.IsListIter.at x k
 | true=>
  obtain⟨o,ho,r⟩:=x
  exact⟨o,k o ho,r⟩
theorem ItB.obj{t:Bool}{it:Addr}(x:ItB t h it a i):∃o,h.get? it=some o/\∀v,o.data≠ .cell v:=by
 cases t with
 | false=>
  obtain⟨o,ho,_,d⟩:=x
  exact⟨o,ho,λv q=>by rw[d]at q;cases q⟩
 | true=>
  obtain⟨o,ho,_,d⟩:=x
  exact⟨o,ho,λv q=>by rw[d]at q;cases q⟩
theorem IsB.lt{t:Bool}{its:Array Xe}(x:IsB t h a its):a<h.objs.size:=by
 cases t with
 | false=>
  obtain⟨o,ho,_⟩:=x
  exact XH ho
 | true=>
  obtain⟨o,ho,_⟩:=x
  exact XH ho
theorem SqB.its{σ:St}{t:Bool}(I:Inv X pins σ H s)(h:SqB X.K t H a xs):∃its:List Xe,Vals xs its/\IsB t s.heap a its.toArray:=by
 cases t with
 | false=>
  obtain⟨its,r,p,_⟩:=I.list h
  exact⟨its,r,p.isList⟩
 | true=>
  obtain⟨_,its,r,p⟩:=(show ObjOk X.prog X.w H s.heap a (.tup xs)from I.hok a _ h)
  exact⟨its,r,p⟩
theorem SqB.inj{σ:St}{t:Bool}(I:Inv X pins σ H s)(h:SqB X.K t H a xs)(k:SqB X.K t H a ys):xs=ys:=by
 cases t with
 | false=>exact I.list_inj h k
 | true=>
  have:=(show H a=some (.tup xs)from h).symm.trans k
  cases this
  rfl
section
variable {P:XJ}{w:Ql}
theorem Zt2{t:Bool}{it:Addr}{items:Array Xe}{x:Xe}(hx:items[i]? =some x):Gives P w it [it,a] (λh=>ItB t h it a i/\IsB t h a items) x (λh=>ItB t h it a (i+1)):=by
 cases t with
 | true=>exact Zu9 hx
 | false=>
  exact⟨.head _,λst hQ=>wpAny_nextOf_list_item st.1 st.2 hx hQ,λh h' k st=>⟨Heap.IsListIter.at st.1 λo e=>k it (.head _) o e,by
   obtain⟨o,ho,r⟩:=st.2
   exact⟨o,k a (.tail _ (.head _)) o ho,r⟩⟩,λh h' k st=>Heap.IsListIter.at st λo e=>k it (.head _) o e⟩
theorem Z86{t:Bool}{it:Addr}{items:Array Xe}(hx:items[i]? =none):Zkz P w it [it,a] (λh=>ItB t h it a i/\IsB t h a items):=by
 cases t with
 | true=>exact Zz3 hx
 | false=>
  exact⟨.head _,λhh st hE=>wpAny_nextOf_list_end hh st.1 st.2 hx hE,λh h' k st=>⟨Heap.IsListIter.at st.1 λo e=>k it (.head _) o e,by
   obtain⟨o,ho,r⟩:=st.2
   exact⟨o,k a (.tail _ (.head _)) o ho,r⟩⟩⟩
end
def Ygs(K:Xb)(t:Bool)(a b:Addr):It :=
 ⟨λi H=>∃xs ys x y,SqB K t H a xs/\SqB K t H b ys/\xs[i]? =some x/\ys[i]? =some y,
   λi H v H'=>∃p x y,H p=none/\v= .ref p/\H'=upd H p (.tup [x,y])/\(∀xs,SqB K t H a xs->xs[i]? =some x)/\∀ys,SqB K t H b ys->ys[i]? =some y,
   λi H=>∃xs ys,SqB K t H a xs/\SqB K t H b ys/\(xs.length<=i\/ys.length<=i)⟩
def Ygu(t:Bool)(z TI TO i1 i2 a b:Addr)(i:Nat)(h:Heap):Prop:=IsZip h z TI TO .none/\Bw h TI (.ref i1) (.ref i2)/\(∃x y,Bw h TO x y)/\ItB t h i1 a i/\ItB t h i2 b i
theorem Zvy{kk:Nat}{pos:Pos}{t:Bool}{z TI TO i1 i2 b:Addr}(D:ZA z TI TO i1 i2 [i1,a] [i2,b])(D2:TI≠TO/\TI≠i1/\TI≠i2):Turn P w K (.Tuple es kk pos) (Ygs K t a b) [z,TI,TO,i1,i2] z (Ygu t z TI TO i1 i2 a b) where
 mem:=.head _
 obj:=λi h st=>by
  obtain⟨s1,s2,⟨x,y,s3⟩,s4,s5⟩:=st
  exact Ydm ⟨_,s1,λv q=>by cases q⟩ ⟨_,s2,λv q=>by cases q⟩ ⟨_,s3,λv q=>by cases q⟩ s4.obj s5.obj
 keep:=λi h h' st k=>by
  obtain⟨s1,s2,⟨x,y,s3⟩,s4,s5⟩:=st
  have m2:TI∈[z,TI,TO,i1,i2]:=.tail _ (.head _)
  have m3:TO∈[z,TI,TO,i1,i2]:=.tail _ (.tail _ (.head _))
  have m4:i1∈[z,TI,TO,i1,i2]:=.tail _ (.tail _ (.tail _ (.head _)))
  have m5:i2∈[z,TI,TO,i1,i2]:=.tail _ (.tail _ (.tail _ (.tail _ (.head _))))
  exact⟨k z (.head _) _ s1,k TI m2 _ s2,⟨x,y,k TO m3 _ s3⟩,s4.at (k i1 m4),s5.at (k i2 m5)⟩
 item:=by
  intro X hP hw hK hc i pins s σ H E I hf st hg
  subst hP hw hK
  obtain⟨s1,s2,⟨x0,y0,s3⟩,s4,s5⟩:=st
  obtain⟨xs,ys,x,y,hx,hy,ex,ey⟩:=hg
  obtain⟨its,rx,px⟩:=hx.its I
  obtain⟨its',ry,py⟩:=hy.its I
  obtain⟨u,hu,ru⟩:=rx.get ex
  obtain⟨u',hu',ru'⟩:=ry.get ey
  rw[<-List.getElem?_toArray]at hu hu'
  refine Zsc D (Zt2 hu) (Zt2 hu') s1 s2 s3 ⟨s4,px⟩ ⟨s5,py⟩ λh' g1 g2 g3 g4 g5 g6=>?_
  refine⟨_,rfl,wpAny_letOwnedTupleGo_zip (s:={ s with heap:=h' }) g1 λh2 z2 sb=>?_⟩
  have up:∀c o,c≠z->h'.get? c=some o->h2.get? c=some o:=λc o n e=>(sb.2 c n).trans e
  have kp:∀c o,c∉[z,TO,i1,i2]->s.heap.get? c=some o->h2.get? c=some o:=λc o n e=>up c o (λq=>n (q▸ .head _)) (g6 c o n e)
  have t5:Bw h2 s.heap.objs.size u u':=up _ _ (X3 (XH s1)) g5
  have i1z:=(D.a1 i1 (.head _)).1
  have i2z:=(D.a2 i2 (.head _)).1
  have n3:=g3.at (up i1 · i1z)
  have n4:=g4.at (up i2 · i2z)
  obtain⟨f1,f2,f3,f4,f5⟩:(Zk6 X pins H z/\Zk6 X pins H TI/\Zk6 X pins H TO/\Zk6 X pins H i1/\Zk6 X pins H i2):=⟨hf _ (.head _),hf _ (.tail _ (.head _)),hf _ (.tail _ (.tail _ (.head _))),hf _ (.tail _ (.tail _ (.tail _ (.head _)))),hf _ (.tail _ (.tail _ (.tail _ (.tail _ (.head _)))))⟩
  have I2:Inv X pins σ (upd H s.heap.objs.size (.tup [x,y])) { s with heap:=h2 } :=
   I.turnTup (ch:=[z,TO,i1,i2]) (its:=[u,u']) (Z8b f1 f3 f4 f5) kp (Z8b ⟨_,z2⟩ ⟨_,up _ _ D.TOz g2⟩ (n3.obj.imp λ_ q=>q.1) (n4.obj.imp λ_ q=>q.1)) (XC _) Yan (.cons ru (.cons ru' .nil)) ⟨_,t5,rfl,0,rfl⟩
  have lt:∀{c:Addr} {o:Obj},s.heap.get? c=some o->Zk6 X pins H c->upd H s.heap.objs.size (.tup [x,y]) c=none:=λe f=>by rw[Zt (Xu (XH e))];exact f.1
  refine⟨.ref s.heap.objs.size,_,I2,rfl,⟨_,x,y,I.fresh,rfl,rfl,λzs hz=>by rw[hz.inj I hx];exact ex,λzs hz=>by rw[hz.inj I hy];exact ey⟩,⟨z2,kp TI _ (no4 D.TIz D2.1 D2.2.1 D2.2.2) s2,⟨_,_,up _ _ D.TOz g2⟩,n3,n4⟩,?_⟩
  obtain⟨o4,e4,_⟩:=s4.obj
  obtain⟨o5,e5,_⟩:=s5.obj
  exact Ydm (lt s1 f1) (lt s2 f2) (lt s3 f3) (lt e4 f4) (lt e5 f5)
 done:=by
  intro X hP hw hK hc i pins s σ H E I hf st hg
  subst hP hw hK
  obtain⟨s1,s2,⟨x0,y0,s3⟩,s4,s5⟩:=st
  obtain⟨xs,ys,hx,hy,he⟩:=hg
  obtain⟨its,rx,px⟩:=hx.its I
  obtain⟨its',ry,py⟩:=hy.its I
  have l1:=rx.length
  have l2:=ry.length
  refine Zvj (I.ok.hd hc) D (S1:=λh=>ItB t h i1 a i/\IsB t h a its.toArray) (T1:=λh=>ItB t h i1 a (i+1)) (S2:=λh=>ItB t h i2 b i/\IsB t h b its'.toArray) ?_ s1 s2 s3 ⟨s4,px⟩ ⟨s5,py⟩ λh' k=>⟨rfl,I.turnAll (ch:=[z,TO,i1,i2]) (Z8b (hf _ (.head _)) (hf _ (.tail _ (.tail _ (.head _)))) (hf _ (.tail _ (.tail _ (.tail _ (.head _))))) (hf _ (.tail _ (.tail _ (.tail _ (.tail _ (.head _))))))) k⟩
  cases q:its.toArray[i]? with
  | none=>exact .inl (Z86 q)
  | some v=>
   refine .inr ⟨⟨v,Zt2 q⟩,Z86 ?_⟩
   have:=(Array.getElem?_eq_some_iff.mp q).1
   rw[XM]at this
   rw[Array.getElem?_eq_none_iff,XM]
   omega
 self:=λ_ _ _ _ _ st h=>wpAny_pyIter_zip st.1 h
theorem Zs5{t:Bool}{b:Addr}{xs ys:Array Xe}(h1:IsB t s.heap a xs)(h2:IsB t s.heap b ys)
  (h:∀h' n,n=s.heap.objs.size->IsZip h' (n+4) (n+2) (n+3) .none->Bw h' (n+2) (.ref n) (.ref (n+1))->Bw h' (n+3) .none .none->ItB t h' n a 0->ItB t h' (n+1) b 0 ->
   (∀ c o,s.heap.get? c=some o->h'.get? c=some o)->Q (.ref (n+4)) { s with heap:=h' }):XR (Qg P w) A (call (.type "zip") [.ref a,.ref b]) Q E s:=by
 cases t with
 | true=>exact Zvz h1 h2 h
 | false=>exact call_zip_2 h1 h2 λh' g1 g2 g3 g4 g5 _ g7=>h h' _ rfl g1 g2 g3 g4 g5 g7
def Ydn(K:Xb)(ta:TA):TI:=λσ H R=>ta σ H λvs H1=>∃t a b,vs=[.ref a,.ref b]/\(∃xs,SqB K t H1 a xs)/\(∃ys,SqB K t H1 b ys)/\R (Ygs K t a b) H1
theorem Z2g{a b:Expr}{ta:TA}{p pos pt:Pos}{kk:Nat}(hK:X.K=K)(hg:Gl X "zip")(hm:X.mg "zip"=none)(hv:Qp "zip"=some (.type "zip"))(ha:PA X [a,b] ta)
  (he:Xw [a,b] X.env=(false,eval a X.env) :: Xw [b] X.env:=by rfl) (hpl:(Bg pos (Xw [b] X.env)).any (·.1)=false:=by rfl) :
  PI X (.Tuple es kk pt) (.Call (.Name "zip" p) [a,b] [] pos) (Ydn K ta):=by
 subst hK
 intro pins s σ H R I h
 refine wpAny_Call_Name_kw (Zk2 I hg hm hv ?_ (by decide) (by decide))
 refine Vh (thn (ha pos pins s σ H _ I h) λus s1 q=>?_) he hpl
 obtain⟨vs,H1,I1,r1,t,l1,l2,e1,⟨xs,hx⟩,⟨ys,hy⟩,q⟩:=q
 subst e1
 obtain⟨u,u',rfl,ru,ru'⟩:=vals2 r1
 cases(show u=Qo l1 from ru)
 cases(show u'=Qo l2 from ru')
 obtain⟨its,rx,px⟩:=hx.its I1
 obtain⟨its',ry,py⟩:=hy.its I1
 refine Zs5 px py λh' n en g1 g2 g3 g4 g5 g7=>?_
 have I2:Inv X pins σ H1 { s1 with heap:=h' }:=I1.kept (t':=s1.toks) g7
 refine wpAny_pyIter_zip (s:={ s1 with heap:=h' }) g1 ?_
 refine⟨_,[_,_,_,_,_],Ygu _ _ _ _ _ _ _ _,_,H1,rfl,I2,Zvy (ZA.new (en▸px.lt) (en▸py.lt)) (ZA.new2 n),⟨g1,g2,⟨_,_,g3⟩,g4,g5⟩,?_,q⟩
 subst en
 have ok:∀k:Nat,Zk6 X pins H1 (s1.heap.objs.size+k):=λk=>I1.fpOk (Bu _ _) (I1.hok.fresh (Bu _ _))
 exact Ydm (ok 4) (ok 2) (ok 3) (ok 0) (ok 1)
section
variable {X:Cx}{io:List Nat}{p c:Bool}{a b:Expr}{mr:MAt}{ra:FA}
def Yci(t:Bool)(as:List Xa):Xa:=match t with|true=>.tuple as|false=>.list as
theorem Rel.keptSq{C:MC G}{H:Hp}{σ:St}{δ:Zg}{fp:Fp}{ex:Addr->Prop}{v:V}{t:Bool}{ds:List Xa}(R:Rel C io H σ δ fp ex)(q:Da G H (λa=>c=true->Lf C fp ex a) v (Yci t ds)) :
  ∃a xs,v= .ref a/\∀H':Hp,(∀b o,H b=some o->(c=false\/¬Foot fp b)->H' b=some o)->SqB G t H' a xs/\Das G H' (λa=>c=true->(Lf C fp ex a/\H a≠none)) xs ds:=by
 cases t with
 | false=>exact R.keptList q
 | true=>
  generalize hd:Yci true ds=d at q
  cases q with
  | tup e r=>
   cases hd
   rename_i a0 xs0
   refine⟨a0,xs0,rfl,λH' kp=>?_⟩
   obtain⟨f1,f2⟩:=R.kept kp
   exact⟨f2 _ (.tup _) e,r.frame f1 f2⟩
  | _=>cases hd
theorem Zyf{ds es:List Xa}(h:Z6r ds=some es):∃t as bs,ds=[Yci t as,Yci t bs]/\es=Zmj as bs:=by
 unfold Z6r at h
 split at h
 .cases h;exact⟨false,_,_,rfl,rfl⟩
 .cases h;exact⟨true,_,_,rfl,rfl⟩
 .cases h
def iZB(mr:MAt):MIt:=λδ K=>mr δ λrs δ'=>∃es,Z6r (OT.datas rs)=some es/\K es δ'
theorem Zjp{p' pos pt:Pos}{kk:Nat}(hg:Gl X "zip")(hm:X.mg "zip"=none)(hv:Qp "zip"=some (.type "zip"))(ha:MA X io p c [a,b] mr)
  (he:Xw [a,b] X.env=(false,eval a X.env) :: Xw [b] X.env:=by rfl) (hpl:(Bg pos (Xw [b] X.env)).any (·.1)=false:=by rfl):MI X io p c (.Tuple es kk pt) (.Call (.Name "zip" p') [a,b] [] pos) (iZB mr):=by
 obtain⟨_,A,s⟩:=ha
 refine⟨_,Z2g rfl hg hm hv A he hpl,λC H σ δ fp ex K' Q R h kk=>s C H σ δ fp ex _ _ R h λH1 vs rs δ1 fp1 new r1 h1=>?_⟩
 have q:=r1.das R
 obtain⟨es,hz,h1⟩:=h1
 obtain⟨t,as,bs,e,rfl⟩:=Zyf hz
 rw[e]at q
 cases q with
 | cons q1 q2=>
  cases q2 with
  | cons q2 q3=>
   cases q3
   have R1:=r1.base
   obtain⟨l1,xs,rfl,k1⟩:=R1.keptSq q1
   obtain⟨l2,ys,rfl,k2⟩:=R1.keptSq q2
   refine⟨t,l1,l2,rfl,⟨_,(k1 H1 λ_ _ e _=>e).1⟩,⟨_,(k2 H1 λ_ _ e _=>e).1⟩,kk _ H1 _ δ1 fp1 R1 r1.stp (λH' kp i=>?_) h1⟩
   obtain⟨s1,d1⟩:=k1 H' kp
   obtain⟨s2,d2⟩:=k2 H' kp
   refine⟨λd hd=>?_,λhd=>⟨_,_,s1,s2,by rw[d1.length,d2.length];exact Zvp hd⟩⟩
   obtain⟨x,y,hx,hy,rfl⟩:=Zrb hd
   obtain⟨u,hu,qu⟩:=d1.get hx
   obtain⟨w,hw,qw⟩:=d2.get hy
   refine⟨⟨_,_,u,w,s1,s2,hu,hw⟩,λv H'' hyl=>?_⟩
   obtain⟨t',u',w',ht,rfl,rfl,hu',hw'⟩:=hyl
   cases hu.symm.trans (hu' _ s1)
   cases hw.symm.trans (hw' _ s2)
   exact⟨Ye ht _,.tup Zy (.cons (qu.same (Ye ht _)) (.cons (qw.same (Ye ht _)) .nil))⟩
theorem Ziw(g:MI X io p c tg e (iZB (o2 ra))):MI X io p c tg e (o2 (Zgk ra)):=g.weak λδ K h=>by
 obtain⟨r,δ',h,k⟩:=h
 obtain⟨⟨x,δ1⟩,h1,h⟩:=bs h
 obtain⟨ds,h2,h⟩:=bs h
 cases h
 exact⟨x,_,h1,_,h2,k⟩
end
end L2
namespace L2
open PySem PySem.Spec PyProof.Rows PySem.W
def kEv(lt:Nat->Nat->Bool):KasT α->α
 | .ret a=>a
 | .ask i j k=>kEv lt (k (lt i j))
def kGood(n:Nat)(P:α->Prop):KasT α->Prop
 | .ret a=>P a
 | .ask i j k=>i<n/\j<n/\∀b,kGood n P (k b)
theorem kGood.bind{n:Nat}{P:α->Prop}{R:β->Prop}{f:α->KasT β}(hf:∀a,P a->kGood n R (f a)){t:KasT α}(h:kGood n P t):kGood n R (t.bind f):=by
 induction t with
 | ret a=>exact hf a h
 | ask i j k ih=>exact⟨h.1,h.2.1,λb=>ih b (h.2.2 b)⟩
theorem kGood.ev{n:Nat}{P:α->Prop}{lt:Nat->Nat->Bool}{t:KasT α}(h:kGood n P t):P (kEv lt t):=by
 induction t with
 | ret a=>exact h
 | ask i j k ih=>exact ih _ (h.2.2 _)
theorem kGood.wp{n:Nat}{P:α->Prop}{lt:Nat->Nat->Bool}{cmp:Nat->Nat->(Bool->Xg->Prop)->Xg->Prop}{Q:α->Xg->Prop}(hc:∀i j C,i<n->j<n->C (lt i j) s->cmp i j C s){t:KasT α}(h:kGood n P t)(q:Q (kEv lt t) s):t.kasWp cmp Q s:=by
 induction t with
 | ret a=>exact q
 | ask i j k ih=>exact hc i j _ h.1 h.2.1 (ih _ (h.2.2 _) q)
def kP(n:Nat)(p:Array Nat):Prop:=p.toList.Perm (Xz n)
theorem kP.at{n:Nat}{p:Array Nat}(h:kP n p)(h0:0<n)(i:Nat):p.getD i 0<n:=by
 by_cases c:i<p.size
 .have e:p.getD i 0=p[i]:=by simp[Array.getD,c]
  rw[e]
  exact Qn.mp (h.mem_iff.mp (Array.getElem_mem_toList c))
 .have e:p.getD i 0=0:=by simp[Array.getD,c]
  rw[e];exact h0
theorem kP.rev{n:Nat}{p:Array Nat}(h:kP n p)(i j:Nat):kP n (kas_rev p i j):=(Array.perm_iff_toList_perm.mp (mirror_perm p i j _)).trans h
theorem kP.bub{n:Nat}{p:Array Nat}(h:kP n p)(i j:Nat):kP n (bubble p i j):=(Array.perm_iff_toList_perm.mp (bubble_perm p i j)).trans h
theorem Zq5{n:Nat}{p:Array Nat}(h:kP n p)(h0:0<n)(f m:Nat):kGood n (λ_=>True) (kas_asc p f m):=by
 induction f generalizing m with
 | zero=>exact trivial
 | succ f ih=>
  refine⟨h.at h0 _,h.at h0 _,λb=>?_⟩
  cases b
  .exact ih _
  .exact trivial
theorem Zt0{n:Nat}(h0:0<n)(f:Nat){p:Array Nat}(h:kP n p)(m q:Nat):kGood n (λr:Array Nat×Nat×Nat=>kP n r.1) (kas_desc f p m q):=by
 induction f generalizing p m q with
 | zero=>exact h
 | succ f ih=>
  refine⟨h.at h0 _,h.at h0 _,λb=>?_⟩
  cases b
  .refine⟨h.at h0 _,h.at h0 _,λb=>?_⟩
   cases b
   .exact ih h _ _
   .exact h
  .show kGood n _ (if q>0 then _ else _)
   split
   .exact ih (h.rev _ _) _ _
   .exact ih h _ _
theorem Znf{n:Nat}{p:Array Nat}(h:kP n p)(h0:0<n)(m r:Nat):kGood n (λr:Nat×Array Nat=>kP n r.2) (kas_tail3 m r p):=by
 refine kGood.bind (P:=λ_=>True) (λa _=>?_) (Zq5 (h.rev _ _) h0 _ _)
 exact h.rev _ _
theorem Zgj{n:Nat}{p:Array Nat}(h:kP n p)(h0:0<n)(m r:Nat):kGood n (λr:Nat×Array Nat=>kP n r.2) (kas_descPart m r p) :=
 (Zt0 h0 _ h _ _).bind λx hx=>by
  show kGood n _ (if x.2.2>0 then _ else _)
  split
  .exact Znf (hx.rev _ _) h0 _ _
  .exact Znf hx h0 _ _
theorem Zsj{n:Nat}{p:Array Nat}(h:kP n p)(h0:0<n)(r:Nat):kGood n (λr:Nat×Array Nat=>kP n r.2) (kas_count r p) :=
 (Zq5 h h0 _ _).bind λm _=>by
  show kGood n _ (if(m==r)=true then _ else if m>1 then _ else _)
  split
  .exact h
  .split
   .refine⟨h.at h0 _,h.at h0 _,λb=>?_⟩
    cases b
    .exact Zgj (h.rev _ _) h0 _ _
    .exact h
   .exact Zgj h h0 _ _
theorem Zsd{n:Nat}{p:Array Nat}(h:kP n p)(h0:0<n)(k f l r:Nat):kGood n (λ_=>True) (kas_place p k f l r):=by
 induction f generalizing l r with
 | zero=>exact trivial
 | succ f ih=>
  show kGood n _ (if l>=r then _ else _)
  split
  .exact trivial
  .refine⟨h.at h0 _,h.at h0 _,λb=>?_⟩
   cases b
   .exact ih _ _
   .exact ih _ _
theorem Zx7{n:Nat}(h0:0<n)(f:Nat){p:Array Nat}(h:kP n p)(k:Nat):kGood n (kP n) (kas_bin f p k):=by
 induction f generalizing p k with
 | zero=>exact h
 | succ f ih=>exact(Zsd h h0 _ _ _ _).bind λl _=>ih (h.bub _ _) _
theorem Zja{n:Nat}(h0:0<n):kGood n (kP n) (kas_sort n) :=
 (Zsj (p:=VF (Xz n)) (.refl _) h0 n).bind λr hr=>by
  show kGood n _ (if r.1<n then _ else _)
  split
  .exact Zx7 h0 _ hr _
  .exact hr
def Zsu(lt:Nat->Nat->Bool)(n:Nat):List Nat:=(kEv lt (kas_sort n)).toList
theorem Ziz{lt:Nat->Nat->Bool}{n:Nat}(h0:0<n):(Zsu lt n).Perm (Xz n):=(Zja h0).ev (P:=kP n)
end L2
namespace L2
open PySem PySem.Spec PyProof.Rows PySem.W PySem.SeqAt
open PySem.AutoSeq1 (wpAny_loadPart')
open MeetsSeq MeetsSeq2 MeetsSeq3 SeqRoads2
def ltI:List Int->List Int->Bool
 | [],[]=>false
 | [],_ :: _=>true
 | _ :: _,[]=>false
 | x :: xs,y :: ys=>if x=y then ltI xs ys else decide (x<y)
theorem Z0z(h:VL vs ns)(i:Nat)(hi:i<vs.length):∃x t,vs[i]? =some (.int x t)/\ns.drop i=x :: ns.drop (i+1):=by
 induction h generalizing i with
 | nil=>exact absurd hi (Vo i)
 | cons n t h ih=>
  cases i with
  | zero=>exact⟨n,t,rfl,rfl⟩
  | succ i=>exact ih i (Nat.lt_of_succ_lt_succ hi)
theorem Zh8(h:VL vs ns):vs.length=ns.length:=by
 induction h with
 | nil=>rfl
 | cons n t h ih=>exact congrArg Nat.succ ih
theorem Zvo{xs ys:List Int}(h:xs=[]\/ys=[]):ltI xs ys=decide (xs.length<ys.length):=by
 cases xs<;>cases ys<;>first|rfl|(rcases h with h|h<;>cases h)|exact(decide_eq_true (Nat.succ_pos _)).symm
theorem Zvq(l b:Addr)(items items2:Array Xe)(n n2:Nat)(dd dd2:Option Addr)(sl sl2:Array (Option Xe)){xs ys:List Int}(h1:VL items.toList xs)(h2:VL items2.toList ys)(k:Nat) :
  ∀i:Nat,items.size-i=k->i<=items.size->i<=items2.size->Meets (Builtin.«list.__eq__.loop» ⟨[.ref l,.ref b,rawInt i,rawInt 0],[]⟩)
   (λA R s=>s.heap.get? l=some { cls:=.type "list",dict:=dd,data:=.seq items n,slots:=sl }/\s.heap.get? b=some { cls:=.type "list",dict:=dd2,data:=.seq items2 n2,slots:=sl2 }/\
    R (.ok (.ret (.bool (ltI (xs.drop i) (ys.drop i))))) s):=by
 have e1:items.size=xs.length:=Zh8 h1
 have e2:items2.size=ys.length:=Zh8 h2
 have fin:∀i,i<=items.size->i<=items2.size->(i=items.size\/i=items2.size)->ltI (xs.drop i) (ys.drop i)=decide (items.size<items2.size):=λi u1 u2 c=>by
  rw[Zvo (c.imp (λc=>List.drop_eq_nil_of_le (by omega)) λc=>List.drop_eq_nil_of_le (by omega)),Vd,Vd]
  exact decide_eq_decide.mpr (by omega)
 induction k with
 | zero=>
  intro i hk u1 u2 prog w A R s h
  obtain⟨hp,g,d,tk,os⟩:=s;obtain⟨hl,hb,h⟩:=h
  wp_walk using Q9 hl,Q9 hb
  have hi1:items[((i:Nat):Int).toNat]? =none:=by simp;omega
  rw[fin i u1 u2 (.inl (by omega))]at h
  rw[hi1]
  wp_walk using Q9 hl,Q9 hb
  exact h
 | succ k ih=>
  intro i hk u1 u2 prog w A R s h
  obtain⟨hp,g,d,tk,os⟩:=s;obtain⟨hl,hb,h⟩:=h
  have hlt:i<items.size:=by omega
  obtain⟨x,t,q1,q2⟩:=Z0z h1 i hlt
  have hi1:items[((i:Nat):Int).toNat]? =some (.int x t):=by rw[JG,<-q1,QZ]
  wp_walk using Q9 hl,Q9 hb
  by_cases c:i<items2.size
  .obtain⟨y,u,q3,q4⟩:=Z0z h2 i c
   have hi2:items2[((i:Nat):Int).toNat]? =some (.int y u):=by rw[JG,<-q3,QZ]
   have hc:((i:Int)+1)=((i+1:Nat):Int):=by push_cast;rfl
   rw[q2,q4]at h
   unfold ltI at h
   rw[hi1,hi2]
   refine Xd (EqAt.int_int x t y u prog w _ _ ?_)
   by_cases cx:x=y
   .rw[if_pos cx]at h
    rw[beq_iff_eq.mpr cx]
    wp_walk
    rw[hc]
    exact⟨plainId_quiet plain_eq_loop _,codeAny_builtin entry_eq_loop (by
     rw[Around.under_plainId plain_eq_loop _]
     exact ih (i+1) (by omega) (by omega) (by omega) prog w A R _ ⟨hl,hb,h⟩)⟩
   .rw[if_neg cx]at h
    rw[beq_eq_false_iff_ne.mpr cx]
    wp_walk using Q9 hl,Q9 hb
    rw[hi1,hi2]
    refine Xd (lt_int ?_)
    wp_walk
    exact h
  .have hi2:items2[((i:Nat):Int).toNat]? =none:=by simp;omega
   rw[fin i u1 u2 (.inr (by omega))]at h
   rw[hi1,hi2]
   wp_walk using Q9 hl,Q9 hb
   exact h
theorem Zw1(l b:Addr)(items items2:Array Xe)(n n2:Nat)(dd dd2:Option Addr)(sl sl2:Array (Option Xe)){xs ys:List Int}(h1:VL items.toList xs)(h2:VL items2.toList ys) :
  Meets (Builtin.«list.__lt__» ⟨[.ref l,.ref b],[]⟩)
   (λA R s=>s.heap.get? l=some { cls:=.type "list",dict:=dd,data:=.seq items n,slots:=sl }/\s.heap.get? b=some { cls:=.type "list",dict:=dd2,data:=.seq items2 n2,slots:=sl2 }/\
    R (.ok (.ret (.bool (ltI xs ys)))) s):=by
 intro prog w A R s h
 obtain⟨hp,g,d,tk,os⟩:=s;obtain⟨hl,hb,h⟩:=h
 have f3:=AutoSeq1.sub_list_list
 wp_walk using Q9 hl,Q9 hb
 exact⟨plainId_quiet plain_eq_loop _,codeAny_builtin entry_eq_loop (by
  rw[Around.under_plainId plain_eq_loop _]
  exact Zvq l b items items2 n n2 dd dd2 sl sl2 h1 h2 _ 0 rfl (JF _) (JF _) prog w A R _ ⟨hl,hb,h⟩)⟩
theorem Ya5{a:Int}{t u:Tok}(h:Q (.bool (decide (a<b))) s):XR (Qg prog w) A (richCompare .Lt (.int a t) (.int b u)) Q E s:=lt_int h
end L2
namespace L2
open PySem PySem.Spec PyProof.Rows PySem.W
def sLay(d:α)(lt:Nat->Nat->Bool)(vs:List α):List α:=if vs.length<2 then vs else(Zsu lt vs.length).map λi=>vs.getD i d
theorem Zr4(d:α)(vs:List α):((Xz vs.length).map λi=>vs.getD i d)=vs:=by
 refine List.ext_getElem? λi=>?_
 rw[Xj]
 by_cases c:i<vs.length
 .rw[QM c,Xx c]
  show some (vs.getD i d)=_
  rw[Xq,Xx c];rfl
 .rw[Q0 (by rw[XD];omega),Q0 (by omega)];rfl
theorem Zon(d:α)(lt:Nat->Nat->Bool)(vs:List α):(sLay d lt vs).Perm vs:=by
 unfold sLay
 split
 .exact .refl _
 .have:=(Ziz (lt:=lt) (n:=vs.length) (by omega)).map λi=>vs.getD i d
  rwa[Zr4]at this
theorem Zud{lt:Nat->Nat->Bool}(h:Vals xs us):Vals (sLay .non lt xs) (sLay .none lt us):=by
 unfold sLay
 rw[h.length]
 split
 .exact h
 .generalize Zsu lt _=l
  induction l with
  | nil=>exact .nil
  | cons i l ih=>
   refine .cons ?_ ih
   show RelV (xs.getD i V.non) (us.getD i QH)
   rw[Xq,Xq]
   cases e:xs[i]? with
   | some x=>
    obtain⟨u,e',r⟩:=h.get e
    rw[e'];exact r
   | none=>
    have:us[i]? =none:=Q0 (by rw[<-h.length];exact JB.mp e)
    rw[this];exact rfl
end L2
variable {i1:Addr}{items:Array Xe}{S:FS}{S1 T1:Heap->Prop}{np kk:Nat}{o:OT}{κ:Ub}
namespace L2
open PySem PySem.Spec PyProof.Rows PySem.W
theorem Zsn{lt:Nat->Nat->Bool}{h0:Heap}{n:Nat}{P:PySem.Fin->Xg->Prop}(ho:s.heap.get? a=some (Vg "list" vs.toArray n))
  (k0:∀b o,h0.get? b=some o->s.heap.get? b=some o) (ha0:h0.get? a=none) (h64:vs.length<64)
  (hk:2<=vs.length->∀s':Xg,(∀b o,h0.get? b=some o->s'.heap.get? b=some o)->∀Q:Ub->Xg->Prop,Q κ s'->XR (Qg prog w) A (keyKind' vs.toArray) Q E s')
  (hc:2<=vs.length->∀s':Xg,(∀b o,h0.get? b=some o->s'.heap.get? b=some o)->∀i j C,i<vs.length->j<vs.length->C (lt i j) s'->kas_ask prog w A κ vs i j C s')
  (h:P (.done (.ret .none)) { s with heap:=sortedHeap s.heap a vs (VF (sLay QH lt vs)) }):XR (Qg prog w) A (Builtin.«list.sort» ⟨[.ref a],[]⟩) P E s:=by
 have ha:a<s.heap.objs.size:=XH ho
 obtain⟨e1,ho1⟩:∃e1,(s.heap.update a (JX λ_=>(#[]:Array Xe))).get? a=some (Vg "list" #[] e1):=⟨_,get?_update_seq ho λ_=>#[]⟩
 have ho6:(((s.heap.update a (JX λ_=>(#[]:Array Xe))).push (Vg "tuple" vs.toArray 0)).push (Vg "list" #[] 0)).get? a=some (Vg "list" #[] e1):=Xh _ (Xh _ ho1)
 have k6:∀b o,h0.get? b=some o->(((s.heap.update a (JX λ_=>(#[]:Array Xe))).push (Vg "tuple" vs.toArray 0)).push (Vg "list" #[] 0)).get? b=some o:=λb o e=>by
  refine Xh _ (Xh _ ?_)
  rw[Heap.get?_update_ne _ _ _ _ (λq=>by rw[q,ha0]at e;cases e)]
  exact k0 b o e
 rw[list_sort_plain]
 refine Xd (listItems_at ho rfl ?_)
 refine Xd (listUpdate_at ho rfl ?_ (by rw[XM,Qc];omega) (JF _))
 refine Xd (seqEpoch_at ho1 rfl ?_)
 refine Xd (wpAny_newTuple ?_ (by show vs.length<=_;rw[Qc];omega))
 refine Xd (wpAny_newList ?_ (JF _))
 refine Ux ?_
 show XR (Qg prog w) A _ P E { s with heap:=((s.heap.update a (JX λ_=>(#[]:Array Xe))).push (Vg "tuple" vs.toArray 0)).push (Vg "list" #[] 0) }
 dsimp only
 have hs:vs.toArray.size=vs.length:=XM ..
 by_cases h2:vs.toArray.size<2
 .have el:sLay QH lt vs=vs:=if_pos (hs▸h2)
  rw[el]at h
  rw[if_pos h2,if_pos h2]
  refine Xd (Xy ?_)
  rw[StateT.run_pure]
  refine Xd (Xy ?_)
  dsimp only
  refine Xd (seqEpoch_at ho6 rfl ?_)
  have ez:((vs.toArray.zip vs.toArray).map (·.2))=vs.toArray:=by
   apply Array.toList_inj.mp
   rw[Array.toList_map,Array.toList_zip,List.map_snd_zip (XC _)]
  show XR _ _ (Builtin.List.listUpdate _ (λ_=>(vs.toArray.zip vs.toArray).map (·.2))>>=_) _ _ _
  rw[ez]
  refine Xd (listUpdate_at ho6 rfl ?_ (JF _) (by rw[hs,Qc];omega))
  simp only[bne_self_eq_false,Bf,if_false]
  exact Xy h
 .rw[if_neg h2,if_neg h2]
  have h2':2<=vs.length:=by omega
  have el:sLay QH lt vs=(Zsu lt vs.length).map λi=>vs.getD i QH:=if_neg (by omega)
  rw[el]at h
  refine Xd (hk h2' _ k6 _ ?_)
  have est:SortSt.mk' κ (vs.toArray.zip vs.toArray) #[] 7 none=kas_st κ (pairsOf vs) (VF (Xz vs.length)):=by
   have e:=kas_range (pairsOf vs)
   rw[pairsOf_size]at e
   show SortSt.mk' κ (pairsOf vs) #[] 7 none=SortSt.mk' κ ((VF (Xz vs.length)).map (kas_item (pairsOf vs))) #[] 7 none
   rw[e]
  have run:=kas_runs (prog:=prog) (w:=w) (A:=A) (κ:=κ) (it:=pairsOf vs) (E:=E) (s:={ s with heap:=((s.heap.update a (JX λ_=>(#[]:Array Xe))).push (Vg "tuple" vs.toArray 0)).push (Vg "list" #[] 0) })
   (Q:=λ_ st' s'=>arrOf st'=(kEv lt (kas_sort vs.length)).map (kas_item (pairsOf vs))/\failedOf st'=none/\s'={ s with heap:=((s.heap.update a (JX λ_=>(#[]:Array Xe))).push (Vg "tuple" vs.toArray 0)).push (Vg "list" #[] 0) })
   (G:=λp s'=>p=kEv lt (kas_sort vs.length)/\s'={ s with heap:=((s.heap.update a (JX λ_=>(#[]:Array Xe))).push (Vg "tuple" vs.toArray 0)).push (Vg "list" #[] 0) })
   h2' h64 (λp' st' s' _ a2 a3 a4=>⟨a4.1▸a2,a3,a4.2⟩) (by
    rw[<-kas_ask_eq]
    exact(Zja (n:=vs.length) (by omega)).wp (hc h2' _ k6) ⟨rfl,rfl⟩)
  rw[<-est]at run
  refine Xd (Bm run ?_ λ_ _ e=>e)
  intro r s' z
  obtain⟨har,hf,rfl⟩:=z
  have hout:(arrOf r.2).map (·.2)=VF ((Zsu lt vs.length).map λi=>vs.getD i QH):=by
   apply Array.toList_inj.mp
   rw[har,Array.map_map,Array.toList_map]
   exact XN λi _=>by show(kas_item (pairsOf vs) i).2=_;rw[kas_item_eq]
  rw[hout]
  refine Xd (seqEpoch_at ho6 rfl ?_)
  refine Xd (listUpdate_at ho6 rfl ?_ (JF _) (by rw[XM,Xc,(Ziz (by omega)).length_eq,XD,Qc];omega))
  rw[hf]
  simp only[bne_self_eq_false,Bf,if_false]
  exact Xy h
theorem Z2v{lt:Nat->Nat->Bool}(hl:s.heap.IsList l vs.toArray)(h64:vs.length<64)
  (hk:2<=vs.length->∀s':Xg,(∀b o,s.heap.get? b=some o->s'.heap.get? b=some o)->∀Q:Ub->Xg->Prop,Q κ s'->XR (Qg prog w) A.in1.in1 (keyKind' vs.toArray) Q E s')
  (hc:2<=vs.length->∀s':Xg,(∀b o,s.heap.get? b=some o->s'.heap.get? b=some o)->∀i j C,i<vs.length->j<vs.length->C (lt i j) s'->kas_ask prog w A.in1.in1 κ vs i j C s')
  (h:Q (.ref (s.heap.objs.size+1)) { s with heap:=sortedAll s.heap vs (VF (sLay QH lt vs)) }):XR (Qg prog w) A (call (.builtin "sorted") [.ref l]) Q E s:=by
 refine Calls.call_function_entry kind_sorted plain_sorted entry_sorted (args_sorted1 _) ?_
 unfold Builtin.«sorted»
 refine Xd (m:=checkCount "sorted" 1 1 _) (Xy ?_)
 refine Xd (collect_list hl ?_ (by rw[Qc];omega))
 refine Xd (wpAny_newList ?_ (by rw[Qc];omega))
 have hsz:((s.heap.push (Vg "list" #[] 0)).update s.heap.objs.size (JX (· ++ vs.toArray))).objs.size=s.heap.objs.size+1:=by
  rw[Heap.size_update,size_push']
 have hoL:(((s.heap.push (Vg "list" #[] 0)).update s.heap.objs.size (JX (· ++ vs.toArray))).push (Vg "list" vs.toArray 0)).get? (s.heap.objs.size+1)=some (Vg "list" vs.toArray 0):=by
  rw[<-hsz];exact XQ _ rfl
 have keep:∀b o,s.heap.get? b=some o->(((s.heap.push (Vg "list" #[] 0)).update s.heap.objs.size (JX (· ++ vs.toArray))).push (Vg "list" vs.toArray 0)).get? b=some o:=λb o q=>by
  have hlt:b<s.heap.objs.size:=XH q
  rw[Heap.get?_push_ne _ _ _ (by rw[hsz];exact Xu (Nat.lt_succ_of_lt hlt)),Heap.get?_update_ne _ _ _ _ (Xu hlt),Heap.get?_push_ne _ _ _ (Xu hlt)]
  exact q
 show XR _ _ _ _ _ { s with heap:=((s.heap.push (Vg "list" #[] 0)).update s.heap.objs.size (JX (· ++ vs.toArray))).push (Vg "list" vs.toArray 0) }
 rw[hsz]
 refine Xd (Ux (BJ slot_list_sort ⟨_,hoL,rfl⟩ entry_list_sort (Zsn (h0:=s.heap) hoL keep (Heap.get?_none_of_le (Nat.le_succ _)) h64 hk hc ⟨_,rfl,?_⟩) (args_list_sort _)))
 exact Xy ⟨_,rfl,h⟩
end L2
namespace L2
open PySem PySem.Spec PyProof.Rows PySem.W
structure Yhv{α:Type}(kd:Xa->Option α)(lt:α->α->Bool):Prop where
 lay:∀d k,kd d=some k->d.canLay0=true
 run:∃κ:Ub,(∀(prog:XJ) (w:Ql) (A:Qk) (E:Xe->Xg->Prop) (s:Xg) (vs:List Xe) (ds:List Xa) (as:List Addr) (Q:Ub->Xg->Prop),2<=vs.length->ReadsAll s.heap vs ds as->(∀d∈ds,∃k,kd d=some k)->Q κ s->XR (Qg prog w) A (keyKind' vs.toArray) Q E s)/\
  ∀(prog:XJ) (w:Ql) (A:Qk) (E:Xe->Xg->Prop) (s:Xg) (u v:Xe) (d e:Xa) (as bs:List Addr) (k m:α) (C:Bool->Xg->Prop),A.units+32<UV->Reads s.heap u d as->Reads s.heap v e bs->kd d=some k->kd e=some m->C (lt k m) s->XR (Qg prog w) A (keyLt' κ u v) C E s
theorem readsAll_ints(ns:List Int)(r:ReadsAll h vs (ns.map Xl) as):VL vs ns:=by
 induction ns generalizing vs as with
 | nil=>cases r;exact .nil
 | cons n ns ih=>
  cases r with
  | cons r q=>
   cases r
   exact .cons _ _ (ih q)
theorem Zkv(r:Reads h u (.list (ns.map Xl)) as):∃a items,u= .ref a/\h.IsList a items/\VL items.toList ns:=by
 cases r with
 | list e c d q=>exact⟨_,_,rfl,⟨_,e,c,_,d⟩,readsAll_ints ns q⟩
theorem Zhd(r:Reads h u (.tuple (ns.map Xl)) as):∃a items,u= .ref a/\h.IsTuple a items/\VL items.toList ns:=by
 cases r with
 | tuple e c d q=>exact⟨_,_,rfl,⟨_,e,c,_,d⟩,readsAll_ints ns q⟩
theorem readsAll_get{ds:List Xa}(r:ReadsAll h vs ds as):vs.length=ds.length/\∀(i:Nat) d,ds[i]? =some d->∃v bs,vs[i]? =some v/\Reads h v d bs:=by
 induction ds generalizing vs as with
 | nil=>cases r;exact⟨rfl,λi d e=>by rw[List.getElem?_nil]at e;cases e⟩
 | cons d ds ih=>
  cases r with
  | cons r q=>
   obtain⟨z1,z2⟩:=ih q
   refine⟨congrArg Nat.succ z1,λi e he=>?_⟩
   cases i with
   | zero=>cases he;exact⟨_,_,rfl,r⟩
   | succ i=>exact z2 i e he
theorem lay_ints(ns:List Int):Sh 1 (.list (ns.map Xl)):=Zi8 λd m=>by
 obtain⟨x,_,rfl⟩:=Xp.mp m
 exact Zqz x
theorem Zjl(ns:List Int):Sh 1 (.tuple (ns.map Xl)):=Zux λd m=>by
 obtain⟨x,_,rfl⟩:=Xp.mp m
 exact Zqz x
end L2
namespace L2
open PySem PySem.Spec PyProof.Rows PySem.W
def lk(kd:Xa->Option α)(lt:α->α->Bool)(es:List Xa):Nat->Nat->Bool:=λi j=>((kd (es.getD i .none)).bind λa=>(kd (es.getD j .none)).map λb=>lt a b).getD false
def keyed(kd:Xa->Option α)(es:List Xa):Prop:=∀d∈es,∃k,kd d=some k
theorem Zry{es:List Xa}(h:∀d∈es,d.canLay0=true):JN es=true:=by
 induction es with
 | nil=>rw[JN]
 | cons d es ih=>rw[JN,h d (.head _),ih λd m=>h d (.tail _ m)];rfl
theorem Das.sLay{lt:Nat->Nat->Bool}{ds:List Xa}(h:Das G H L xs ds):Das G H L (L2.sLay .non lt xs) (L2.sLay .none lt ds):=by
 unfold L2.sLay
 rw[h.length]
 split
 .exact h
 .generalize Zsu lt _=l
  induction l with
  | nil=>exact .nil
  | cons i l ih=>
   refine .cons ?_ ih
   show Da G H L (xs.getD i .non) (ds.getD i .none)
   rw[Xq,Xq]
   cases e:xs[i]? with
   | some x=>
    obtain⟨u,e',r⟩:=h.get' e
    rw[e'];exact r
   | none=>
    have:ds[i]? =none:=Q0 (by rw[<-h.length];exact JB.mp e)
    rw[this];exact .non
def Z0r(kd:Xa->Option α)(lt:α->α->Bool)(K:Xb):List V->Hp->VK->Prop:=λxs H Q=>∃(a:Addr) (vs:List V) (L:Addr->Prop) (es:List Xa),xs=[.ref a]/\SqL K H a vs/\Das K H L vs es/\vs.length<64/\keyed kd es/\∀l,H l=none->Q (.ref l) (upd H l (.lst (sLay .non (lk kd lt es) vs)))
section
variable {kd:Xa->Option α}{lt:α->α->Bool}
theorem Zsp(S:Yhv kd lt)(hK:X.K=K)(hu:X.A.units+64<UV):Zb3 X (.builtin "sorted") (Z0r kd lt K):=by
 subst hK
 intro pins s σ H xs us Q I r h
 obtain⟨l,vs,L,es,rfl,hs,hd,h64,hk,q⟩:=h
 obtain⟨u,rfl,ru⟩:=vals1 r
 cases(show u=Qo l from ru)
 obtain⟨its,rv,pl,hz⟩:=I.list hs
 have hl:=rv.length
 obtain⟨as,ra⟩:=hd.reads rfl I rv (Zry λd m=>by obtain⟨k,e⟩:=hk d m;exact S.lay d k e)
 obtain⟨κ,S1,S2⟩:=S.run
 obtain⟨z1,z2⟩:=readsAll_get ra
 refine Z2v (κ:=κ) (lt:=lk kd lt es) pl.isList (by omega) (λh2 s' k Q q=>S1 _ _ _ _ s' _ es as Q h2 (ReadsAll.keeps k ra) hk q) (λh2 s' k i j C hi hj hc=>?_) ?_
 .rw[z1]at hi hj
  obtain⟨v,b1,e1,r1⟩:=z2 i _ (Xx hi)
  obtain⟨w,b2,e2,r2⟩:=z2 j _ (Xx hj)
  obtain⟨k1,q1⟩:=hk _ (Q5 hi)
  obtain⟨k2,q2⟩:=hk _ (Q5 hj)
  have ek:lk kd lt es i j=lt k1 k2:=by
   unfold lk
   rw[Xq,Xq,Xx hi,Xx hj]
   show((kd es[i]).bind λa=>(kd es[j]).map λb=>lt a b).getD false=_
   rw[q1,q2];rfl
  rw[ek]at hc
  unfold kas_ask
  rw[Xq,Xq,e1,e2]
  exact S2 _ _ _ _ s' v w _ _ _ _ k1 k2 C (show X.A.units+1+1+32<UV by omega) (Reads.keeps k r1) (Reads.keeps k r2) q1 q2 hc
 .obtain⟨e,he⟩:=sortedAll_at s.heap its (VF (sLay QH (lk kd lt es) its))
  refine⟨.ref (s.heap.objs.size+1),_,I.laid (t':=s.toks) (o:=.lst (sLay .non (lk kd lt es) vs)) (λb ob q=>sortedAll_old q) (by omega) ⟨?_,sLay QH (lk kd lt es) its,e,Zud rv,he⟩,rfl,q _ (I.hok.fresh (by omega))⟩
  rw[(Zon _ _ _).length_eq,Qc];omega
def Z0j(kd:Xa->Option α)(lt:α->α->Bool):List Xa->(OT->Prop)->Prop:=λds k=>n1 (λd=>∃es:List Xa,d= .list es/\es.length<64/\keyed kd es/\k (.nd ((sLay .none (lk kd lt es) es).map OT.fz))) ds
theorem Zy0:PN G (Z0r kd lt G) (Z0j kd lt):=λH L xs ds k Q hx h kk=>by
 obtain⟨v,d,rfl,rfl,q,es,e,h64,hk,h⟩:=hx.one h
 have fin:∀(vs:List V) (p:Addr),Das G H L vs es->H p=none->Q (.ref p) (upd H p (.lst (sLay .non (lk kd lt es) vs))):=λvs p hv hp=>kk _ _ _ [p] (Ye hp _) (Own.list hp hv.sLay) (Ze1 p) (Zct hp) h
 subst e
 generalize ed:Bh es=d at q
 cases q with
 | lst l e r=>
  cases ed
  exact⟨_,_,L,es,rfl,.inl e,r,by rw[r.length];exact h64,hk,λp hp=>fin _ p r hp⟩
 | scr ks=>
  cases ed
  exact⟨_,_,L,_,rfl,ks.sq,Das.ints _,by rw[(Das.ints (G:=G) (H:=H) (L:=L) _).length];exact h64,hk,λp hp=>fin _ p (Das.ints _) hp⟩
 | _=>cases ed
def Zmq(kd:Xa->Option α)(lt:α->α->Bool):List Xa->Option OT:=λds=>match ds with|[.list es]=>if(decide (es.length<64)&&es.all λd=>(kd d).isSome)=true then some (.nd ((sLay .none (lk kd lt es) es).map OT.fz))else none|_=>none
theorem Z5k:∀ds r k,Zmq kd lt ds=some r->k r->Z0j kd lt ds k:=λds r k h hk=>by
 unfold Zmq at h
 split at h
 case h_2=>cases h
 split at h
 case isFalse=>cases h
 rename_i h2
 rw[XX]at h2
 cases h
 exact⟨_,rfl,of_decide_eq_true h2.1,λd m=>Option.isSome_iff_exists.mp (VJ.mp h2.2 d m),hk⟩
end
end L2
namespace L2
open PySem PySem.Spec PyProof.Rows
section
variable {X:Cx}{io:List Nat}{p p' c c' q r:Bool}{a b e:Expr}{fa fb:FE}{es:List Expr}{ra:FA}{st:Stmt}{sts ss ss':List Stmt}{f g:FS}{ta:FT}
theorem xv(i:Nat){pos:Pos}(hN:X.N[i]? =some x:=by rfl)(hv:Vis X.env.scope x:=by first|exact Qw rfl|exact Qt (Qw rfl)|exact Qt (Qt rfl))(hd:(x==("__debug__" : Str))=false:=by decide)(he:(x==("__classdict__" : Str))=false:=by decide):ME X io true true (.Name x pos) (o2 (Zw i)):=Wg (mv i hN hv hd he)
theorem xo(i:Nat){pos:Pos}(hN:X.N[i]? =some x:=by rfl)(hv:Vis X.env.scope x:=by first|exact Qw rfl|exact Qt (Qw rfl)|exact Qt (Qt rfl))(hd:(x==("__debug__" : Str))=false:=by decide)(he:(x==("__classdict__" : Str))=false:=by decide):ME X io true false (.Name x pos) (o2 (Zvn i)):=Yat (mo i hN hv hd he)
theorem xci{i:Int}{pos:Pos}:ME X io true true (.Constant (.int i) j pos) (o2 (fC (.int i))):=Zaf Yah
theorem xix{pos:Pos}(ha:ME X io p c a (o2 fa))(hb:ME X io p' c' b (o2 fb))(hc:p'=true\/c=true:=by first|exact Qw rfl|exact Qt rfl)(hs:Zjc b:=by exact λ_ _=>rfl)(h2:(p&&p')=q:=by rfl)(h3:(c&&c')=r:=by rfl):ME X io q r (.Subscript a b pos) (o2 (W8 gIx fa fb)):=h2▸h3▸Ztn Yk8 (Yhq (Zqf rfl) Ye4 ha hb hc (hs:=hs))
theorem xa0:MA X io true true [] (o2 Z5):=Zko Zk3
theorem xa1[NoStar e](ha:ME X io p c e (o2 fa))(h2:(p&&true)=q:=by rfl)(h3:(c&&true)=r:=by rfl):MA X io q r [e] (o2 (Zd fa Z5)):=Ze ha xa0 (.inl rfl) h2 h3
theorem xsq(h:MS X io st (oS f))(k:MSs X io sts (oS g)):MSs X io (st :: sts) (oS (Z3 f g)):=Zhn (Zbt h k)
theorem xst{pos:Pos}(i:Nat)(hN:X.N.Nodup)(he:ME X io p true e (o2 fa))(hi:X.N[i]? =some x:=by rfl)(hx:Loc X.env.scope x:=by first|exact Qw rfl|exact Qt rfl)(hio:i∉io:=by decide)(hs:BK e (some (.Name x px)) pos.line X.env=pure false:=by rfl)(hf:X.fn x=true\/X.env.scope.names.lookup x=some .local:=by first|exact .inl rfl|exact .inr rfl|assumption):MS X io (.Assign [.Name x px] e pos) (oS (wE fa (Zaa i))):=Z7p (Ybj hN hi hx he hio hs hf)
theorem xrt{pos:Pos}(h:ME X io p true e (o2 fa)):MS X io (.Return (some e) pos) (oS (wE fa W7)):=Zf3 (Zf7 h)
theorem xg{pos:Pos}(i:Nat)(hN:X.N.Nodup)(hi:X.N[i]? =some x:=by rfl)(hx:Loc X.env.scope x:=by first|exact Qw rfl|exact Qt rfl)(hio:i∉io:=by decide)(hf:X.fn x=true\/X.env.scope.names.lookup x=some .local:=by first|exact .inl rfl|exact .inr rfl|assumption):MG X io true (.Name x pos) (oG (gNm i)):=Zp0 (Zos hN hi hx hio hf)
theorem xif{pos:Pos}(h:MT X io p e (o2 ta))(k:MSs X io ss (oS f))(l:MSs X io ss' (oS g)):MS X io (.If e ss ss' pos) (oS (Jd ta f g)):=Zm1 (Zm2 h k l)
theorem xnl:MSs X io [] (oS fNx):=Zds Zdo
theorem xtp{pos:Pos}{n:Nat}(h:MA X io p c es (o2 ra)):ME X io p c (.Tuple es n pos) (o2 (Zji ra)):=Z9r (Yed h)
theorem xls{pos:Pos}(h:MA X io p c es (o2 ra)):ME X io p c (.List es pos) (o2 (Zsb ra)):=Z9l (Yff h)
theorem xil(h:ME X io p c e (o2 fa)):MI X io p c tg e (o2 (Zcd fa)):=Z4a (Z5n h)
theorem xno{pos:Pos}(h:MT X io p e (o2 ta)):MT X io p (.UnaryOp .Not e pos) (o2 (tNo ta)):=Z0g (Z1r h)
theorem Zqs{pos:Pos}(ha:ME X io p c a (o2 fa))(hb:ME X io p' c' b (o2 fb))(hc:p'=true\/c=true:=by first|exact Qw rfl|exact Qt rfl)(h2:(p&&p')=q:=by rfl):ME X io q true (.BinOp a .Add b pos) (o2 (Zh Zhz fa fb)):=h2▸Yd Yfw (Zkl Yac Zwb ha hb hc)
theorem Yhu{pos:Pos}(ha:ME X io p c a (o2 fa))(hb:ME X io p' c' b (o2 fb))(hc:p'=true\/c=true:=by first|exact Qw rfl|exact Qt rfl)(h2:(p&&p')=q:=by rfl):ME X io q true (.BinOp a .Sub b pos) (o2 (Zh gSb fa fb)):=h2▸Yd Yew (Zkl Z9a Zwb ha hb hc)
theorem Zxc{pos:Pos}(ha:ME X io p c a (o2 fa))(hb:ME X io p' c' b (o2 fb))(hc:p'=true\/c=true:=by first|exact Qw rfl|exact Qt rfl)(h2:(p&&p')=q:=by rfl):ME X io q true (.BinOp a .Mult b pos) (o2 (Zh Zkh fa fb)):=h2▸Yd Ygb (Zkl Z3z Z92 ha hb hc)
theorem Zh9{pos:Pos}(ha:ME X io p c a (o2 fa))(hb:ME X io p' c' b (o2 fb))(hc:p'=true\/c=true:=by first|exact Qw rfl|exact Qt rfl)(h2:(p&&p')=q:=by rfl):ME X io q true (.BinOp a .Mod b pos) (o2 (Zh Zdh fa fb)):=h2▸Yd Ygh (Zkl Z4v Z9g ha hb hc)
theorem Zrq{pos:Pos}(ha:ME X io p c a (o2 fa))(hb:ME X io p' c' b (o2 fb))(hc:p'=true\/c=true:=by first|exact Qw rfl|exact Qt rfl)(h2:(p&&p')=q:=by rfl):ME X io q true (.BinOp a .FloorDiv b pos) (o2 (Zh J6 fa fb)):=h2▸Yd Z8g (Zkl Zzc Z8r ha hb hc)
theorem Zxj{pos:Pos}(ha:ME X io p c a (o2 fa))(hb:ME X io p' c' b (o2 fb))(hc:p'=true\/c=true:=by first|exact Qw rfl|exact Qt rfl)(h2:(p&&p')=q:=by rfl):ME X io q true (.BinOp a .Pow b pos) (o2 (Zh Znz fa fb)):=h2▸Yd Yel (Zkl Z4u Z72 ha hb hc)
theorem xeq{pos:Pos}(hu:X.A.units+64<UV)(ha:ME X io p c a (o2 fa))(hb:ME X io p' c' b (o2 fb))(hc:p'=true\/c=true:=by first|exact Qw rfl|exact Qt rfl)(h2:(p&&p')=q:=by rfl):MT X io q (.Compare a [.Eq] [b] pos) (o2 (tV (Zh gEq fa fb))):=h2▸Zc0 Zxf (Zc4 (Zex hu) Zj6 ha hb hc (hm:=Wa _))
theorem xne{pos:Pos}(hu:X.A.units+64<UV)(ha:ME X io p c a (o2 fa))(hb:ME X io p' c' b (o2 fb))(hc:p'=true\/c=true:=by first|exact Qw rfl|exact Qt rfl)(h2:(p&&p')=q:=by rfl):MT X io q (.Compare a [.NotEq] [b] pos) (o2 (tV (Zh gNe fa fb))):=h2▸Zc0 Ych (Zc4 (Zne hu) Zu1 ha hb hc (hm:=Wa _))
theorem xlt{pos:Pos}(ha:ME X io p c a (o2 fa))(hb:ME X io p' c' b (o2 fb))(hc:p'=true\/c=true:=by first|exact Qw rfl|exact Qt rfl)(h2:(p&&p')=q:=by rfl):MT X io q (.Compare a [.Lt] [b] pos) (o2 (tV (Zh gLt fa fb))):=h2▸Zc0 Ydz (Zc4 Z30 Zfw ha hb hc (hm:=Wa _))
theorem xgt{pos:Pos}(ha:ME X io p c a (o2 fa))(hb:ME X io p' c' b (o2 fb))(hc:p'=true\/c=true:=by first|exact Qw rfl|exact Qt rfl)(h2:(p&&p')=q:=by rfl):MT X io q (.Compare a [.Gt] [b] pos) (o2 (tV (Zh gGt fa fb))):=h2▸Zc0 Yg8 (Zc4 Z8p Zfw ha hb hc (hm:=Wa _))
theorem xge{pos:Pos}(ha:ME X io p c a (o2 fa))(hb:ME X io p' c' b (o2 fb))(hc:p'=true\/c=true:=by first|exact Qw rfl|exact Qt rfl)(h2:(p&&p')=q:=by rfl):MT X io q (.Compare a [.GtE] [b] pos) (o2 (tV (Zh gGe fa fb))):=h2▸Zc0 Yda (Zc4 Zyh Zfw ha hb hc (hm:=Wa _))
theorem xfr{pos:Pos}(hp:PassesOwn (Qg X.prog X.w) X.A X.env X.xe)(hc:X.calm=true)(hi:MI X io p true tg e (o2 it))(hg:MG X io true tg (oG gg))(hb:MSs X io ss (oS f))(hs:∀x,Ba e X.env x=pure x:=by intro _;rfl):MS X io (.For tg e ss [] pos) (oS (Zb2 it gg f)):=Z0q (Z0y hp hc hi hg hb hs)
theorem xg2{pos:Pos}{n:Nat}{g1 g2:FG}(hc:X.calm=true)(ha:MG X io true a (oG g1))(hb:MG X io true b (oG g2))(h1:List.map (λx=>x.snd) (Q6 [a,b] X.env)=Ur a X.env :: List.map (λx=>x.snd) (Q6 [b] X.env):=by rfl)(h2:List.map (λx=>x.snd) (Q6 [b] X.env)=Ur b X.env :: List.map (λx=>x.snd) (Q6 [] X.env):=by rfl)(h3:(Q6 [a,b] X.env).length=2:=by rfl)(h4:List.findIdx? (λx=>x.fst) (Q6 [a,b] X.env)=none:=by rfl):MG X io true (.Tuple [a,b] n pos) (oG (gTp 2 (gCn g1 (gCn g2 gNl)))):=Z03 (Z00 (n:=2) hc (Zil (Zih ha (Zil (Zih hb (Zvf Zwz) h2)) h1)) h3 h4)
theorem xso{pos:Pos}(i:Nat)(hN:X.N.Nodup)(he:ME X io p true e (o2 fa))(hi:X.N[i]? =some x:=by rfl)(hx:Loc X.env.scope x:=by first|exact Qw rfl|exact Qt rfl)(hio:i∉io:=by decide)(hs:BK e (some (.Name x px)) pos.line X.env=pure false:=by rfl)(hf:X.fn x=true\/X.env.scope.names.lookup x=some .local:=by first|exact .inl rfl|exact .inr rfl|assumption):MS X io (.Assign [.Name x px] e pos) (oS (wE fa (Zbh i))):=Zt3 (Zwy hN hi hx he hio hs hf)
theorem xcl{pos:Pos}{k:Nat}{f:Addr}{fd:XF}(G:FnOk X.prog X.w X.K X.mg X.base CX0 k f fd ps (spD X.K (sD F)))(hr:Room k X.A)(hm:X.mg x=some (.ref f))(hk:Vr X.K (.ref f)=true)(hb:Binds X.K fd ps [])(ha:MA X io p c (e :: es) (o2 ra))(hg:Gl X x:=by rfl)(h1:(x==("__debug__" : Str))=false:=by decide)(h2:Xw (e :: es) X.env=(false,eval e X.env) :: Xw es X.env:=by rfl)(h3:((Bg pos (Xw es X.env)).any λx=>x.fst)=false:=by rfl):ME X io p c (.Call (.Name x pp) (e :: es) [] pos) (o2 (Zo F ra)):=Zo3 (Zwi G hr hg hm hk hb Z43 ha h1 h2 h3)
theorem xln{pos:Pos}(hm:X.mg "len"=none)(ha:MA X io p c [e] (o2 ra))(hg:Gl X "len" :=by rfl)(h2:Xw [e] X.env=(false,eval e X.env) :: Xw [] X.env:=by rfl):ME X io p true (.Call (.Name "len" pp) [e] [] pos) (o2 (Zgl Zll ra)):=Zdd Z3l (Zop Zt6 (Ziy rfl) hg hm L2.B.boot_len ha (by decide) (by decide) h2 (by rfl))
end
def tbl(P:List Nat)(led:Bool):SetTable:={ mask:=7,place:=P.toArray,dummies:=#[],finger:=0,led,moves:=0,plain:=true }
def hT(k:List Int):Int:=reduceHash (Builtin.Tuple.tupleHashOf (k.map hashInt))
def hAt(ks:List (List Int))(i:Nat):Int:=(ks[i]?.map hT).getD 0
def Yfb(P:List Nat)(j:Nat):List Nat:=((tbl P false).put j).1.place.toList
def Yh7(P:List Nat)(j:Nat):Nat:=((tbl P false).put j).2
def Yjs(ks:List (List Int))(p:Nat)(k:List Int):List (List Int):=ks.take p ++ k :: ks.drop p
def Yju(P:List Nat)(ks:List (List Int))(k:List Int):Option (List Nat×List (List Int)) :=
 match(tbl P false).probe (hAt ks) (hT k) ((tbl P false).probeStart (hT k))with
 | some (.empty j none)=>if(tbl (Yfb P j) false).tooFull=false/\(Yfb P j).length=ks.length+1/\ks.length<=6/\Yh7 P j<=ks.length then some (Yfb P j,Yjs ks (Yh7 P j) k)else none
 | some (.candidate _ i _)=>if ks[i]? =some k then some (P,ks)else none
 | _=>none
def grow(K:List (List Int)):Nat->List (List Nat×List (List Int))->List (List Nat×List (List Int))
 | 0,S=>S
 | n+1,S=>grow K n (S ++ (S.flatMap λs=>K.filterMap λk=>Yju s.1 s.2 k).filter λs=>!S.contains s)
def K2:List (List Int):=[[0,0],[0,1],[1,0],[1,1]]
def S2:List (List Nat×List (List Int)):=(grow K2 4 [([],[])]).eraseDups
section
variable {prog:XJ}{w:Ql}{A:Qk}{E:Xe->Xg->Prop}{s:Xg}
inductive KeysIn(U:Addr->List Int->Prop):List (List Int)->List (Int×Xe)->Prop
 | nil:KeysIn U [] []
 | cons {k:List Int} {a:Addr} {ks:List (List Int)} {l:List (Int×Xe)} (h:U a k) (t:KeysIn U ks l):KeysIn U (k :: ks) ((hT k,.ref a) :: l)
theorem KeysIn.hash{U:Addr->List Int->Prop}{ks:List (List Int)}{l:List (Int×Xe)}(h:KeysIn U ks l):l.map (·.1)=ks.map hT:=by
 induction h with
 | nil=>rfl
 | cons _ _ ih=>rw[Xv,Xv,ih]
abbrev IK(prog:XJ)(w:Ql)(h:Heap)(k:List Int)(a:Addr):Prop:=IsTupleKey (intKind prog w) h k a
theorem items_int{ks:List Int}(h:ItemsAre (intKind prog w) ks vs):∀v∈vs,∃i t,v= .int i t:=by
 induction h with
 | nil=>exact λ_ m=>nomatch m
 | cons h _ ih=>
  intro v hv
  rcases Xo.mp hv with rfl|hv
  .obtain⟨t,e⟩:=Value.isInt_shape h
   exact⟨_,t,e⟩
  .exact ih v hv
theorem KeysIn.at{U:Addr->List Int->Prop}{ks:List (List Int)}{es:Array (Int×Xe)}(h:KeysIn U ks es.toList)(i:Nat):(es[i]?.map (·.1)).getD 0=hAt ks i:=by
 unfold hAt
 rw[<-Xj,<-h.hash,Xj,QZ]
end
section
variable {prog:XJ}{w:Ql}{A:Qk}{R:Result->Xg->Prop}{I:Addr}{fp wr:List Addr}{n:Nat}{Pv:Nat->Xe->Prop}{St:Nat->Heap->Prop}
end
inductive Yfm(H:Hp):List V->List (List Int)->Prop
 | nil:Yfm H [] []
 | cons {a:Addr} {k:List Int} {xs:List V} {ks:List (List Int)} (h:H a=some (.tup (k.map V.int))) (t:Yfm H xs ks):Yfm H (.ref a :: xs) (k :: ks)
section
variable {X:Cx}{p c:Bool}{io:List Nat}{a e:Expr}{pos pos' pl pr:Pos}{t:TA}{mr:MAt}{ra:FA}
end
section
variable {G:Xb}{io:List Nat}{p pt pe:Bool}{own:List Str}{caps:List Nat}{g:MGt}{mt:MTt}{me:MEt}{i:Nat}
def Zp1:List OT->Bool
 | []=>true
 | .fz _ :: r=>Zp1 r
 | _ :: _=>false
theorem Owns.fz_das:∀{ts:List OT} {xs:List V} {bs:List Addr},Owns G H L xs ts bs->Zp1 ts=true->Das G H L xs (OT.datas ts):=fun{ts}=>by
 induction ts with
 | nil=>
  intro xs bs h _
  cases h
  rw[Zf9];exact .nil
 | cons t ts ih=>
  intro xs bs h a
  cases t with
  | fz d=>
   cases h with
   | cons h r=>
    cases h with
    | fz q=>
     rw[Zel,OT.data_fz]
     exact .cons q (ih r a)
  | nd _=>cases a
  | tp _=>cases a
  | dc _ _ _=>cases a
end
section
variable {X:Cx}{io:List Nat}{p pt pe:Bool}{own:List Str}{caps:List Nat}{N':List Str}{sc:Ud}{i:Nat}{x:Str}{px:Pos}{tg elt:Expr}{ifs:List Expr}{g:MGt}{mt:MTt}{me:MEt}{pos:Pos}
def Ycs(o:Option (Option OT)):Option (List OT):=match o with|some (some (.nd ts))=>if Zp1 ts=true then some ts else none|_=>none
theorem Z6g{o:Option (Option OT)}(h:Ycs o=some ts):o=some (some (.nd ts))/\Zp1 ts=true:=by
 unfold Ycs at h
 split at h
 .split at h
  .cases h;exact⟨rfl,‹_›⟩
  .cases h
 .cases h
end
abbrev Yj1(h:Heap)(T:Addr)(a b c:Xe):Prop:=h.get? T=some { cls:=.type "tuple",data:=.seq #[a,b,c] }
structure Z3A(z TI TO i1 i2 i3:Addr)(f1 f2 f3:List Addr):Prop where
 TIz:TI≠z
 TOz:TO≠z
 a1:∀c∈f1,c≠z/\c≠TO/\c≠i2/\c≠i3
 a2:∀c∈f2,c≠z/\c≠TO/\c≠i1/\c≠i3
 a3:∀c∈f3,c≠z/\c≠TO/\c≠i1/\c≠i2
section
variable {P:XJ}{w:Ql}{A:Qk}{E:Xe->Xg->Prop}{s:Xg}
end
abbrev z3A(h:Heap)(a:Addr):Heap:=h.push { cls:=.type "list_iterator",data:=.fields #[.ref a,.int 0 0] }
abbrev z3B(h:Heap)(a b:Addr):Heap:=z3A (z3A h a) b
abbrev z3C(h:Heap)(a b c:Addr):Heap:=z3A (z3B h a b) c
abbrev z3D(h:Heap)(a b c:Addr):Heap:=(z3C h a b c).push { cls:=.type "tuple",data:=.seq #[.ref h.objs.size,.ref (z3A h a).objs.size,.ref (z3B h a b).objs.size] }
abbrev z3E(h:Heap)(a b c:Addr):Heap:=(z3D h a b c).push { cls:=.type "tuple",data:=.seq #[.none,.none,.none] }
abbrev z3F(h:Heap)(a b c:Addr):Heap:=(z3E h a b c).push { cls:=.type "zip",data:=.fields #[.none,.bool false,.bool false,.ref (z3C h a b c).objs.size,.ref (z3D h a b c).objs.size] }
section
variable {P:XJ}{w:Ql}{A:Qk}{E:Xe->Xg->Prop}{s:Xg}
end
section
variable {X:Cx}{io:List Nat}{p c:Bool}{a b e:Expr}{mr:MAt}{ra:FA}
end
def Up(xs:List Nat):Prop:=xs.Pairwise (·<·)
structure Tb(b:Bool)(t:SetTable):Prop where
 led:t.led=b
 up:t.plain=true->Up t.place.toList
def OfL(ks ns:List α):Prop:=ks.Nodup/\∀x,x∈ks↔x∈ns
abbrev Of(ks ns:List Int):Prop:=OfL ks ns
structure Ylr{τ:Type}(prog:XJ)(w:Ql)(A:Qk)(S:Addr)(T:Heap->List τ->Prop)(h0:Heap)(n:Nat)(Ok:Xe->τ->Prop):Prop where
 stay:∀h h' ks,T h ks->(∀o,h.get? S=some o->h'.get? S=some o)->T h' ks
 add:∀(s:Xg) (E:Xe->Xg->Prop) (v:Xe) (k:τ) (ks:List τ) (Q:Bool->Xg->Prop),Ok v k->(∀b o,b<S->h0.get? b=some o->s.heap.get? b=some o)->T s.heap ks->ks.length<n->(∀c h' tk ks',BX S s.heap h'->T h' ks'->(k∈ks->ks'=ks)->(k∉ks->ks'.Perm (ks ++ [k]))->Q c { s with heap:=h',toks:=tk })->XR (Qg prog w) A (setAdd S v) Q E s
section
variable {prog:XJ}{w:Ql}{A:Qk}{R:Result->Xg->Prop}{I S:Addr}{fp wr:List Addr}{n:Nat}{Pv:Nat->Xe->Prop}{St:Nat->Heap->Prop}{τ:Type}{T:Heap->List τ->Prop}{h0:Heap}{Ok:Xe->τ->Prop}
end
section
variable {prog:XJ}{w:Ql}{A:Qk}{E:Xe->Xg->Prop}{s:Xg}
end
section
variable {κ:Type}[DecidableEq κ]
def Zr9(kvs:List (κ×V))(k:κ):Option V:=(kvs.find? λkv=>decide (kv.1=k)).map (·.2)
def putK(kvs:List (κ×V))(k:κ)(v:V):List (κ×V) :=
 if(kvs.any λkv=>decide (kv.1=k))=true then kvs.map (λkv=>if kv.1=k then(kv.1,v)else kv)else kvs ++ [(k,v)]
theorem Zib{p:κ×V}{r:List (κ×V)}{k:κ}(e:p.1=k):Zr9 (p :: r) k=some p.2:=by simp[Zr9,V6,e]
theorem Zif{p:κ×V}{r:List (κ×V)}{k:κ}(e:¬p.1=k):Zr9 (p :: r) k=Zr9 r k:=by simp[Zr9,V6,e]
theorem Zq6(k:κ):∀kvs:List (κ×V),(kvs.any λkv=>decide (kv.1=k))=(Zr9 kvs k).isSome
 | []=>rfl
 | p :: r=>by
  rw[V2]
  by_cases e:p.1=k
  .simp only[Zib e,decide_eq_true e,Bool.true_or,Option.isSome_some]
  .rw[Zif e,decide_eq_false e,Bool.false_or];exact Zq6 k r
theorem Zi1(kvs:List (κ×V))(k:κ)(v:V):(putK kvs k v).length<=kvs.length+1:=by
 unfold putK
 split
 .rw[Xc];omega
 .rw[X7,Qh,List.length_nil];omega
theorem RelO.isSome_eq{o:Option V}{u:Option Xe}(r:RelO o u):o.isSome=u.isSome:=by
 cases o with
 | none=>cases u with
  | none=>rfl
  | some _=>exact(show False from r).elim
 | some _=>cases u with
  | none=>exact(show False from r).elim
  | some _=>rfl
theorem RelO.getD{o:Option V}{u:Option Xe}{d:V}{d':Xe}(r:RelO o u)(rd:RelV d d'):RelV (o.getD d) (u.getD d'):=by
 cases o with
 | none=>cases u with
  | none=>exact rd
  | some _=>exact(show False from r).elim
 | some _=>cases u with
  | none=>exact(show False from r).elim
  | some _=>exact r
theorem KV.val{kvs:List (κ×V)}{vs:List (κ×Xe)}(r:KV kvs vs)(k:κ):RelO (Zr9 kvs k) (valueAt vs k):=by
 unfold KV at r
 induction r with
 | nil=>exact Vz
 | @cons p q ps qs h t ih=>
  obtain⟨h1,h2⟩:=h
  by_cases e:p.1=k
  .have e':q.1=k:=h1.symm.trans e
   have b:valueAt (q :: qs) k=some q.2:=by simp[valueAt,V6,e']
   rw[Zib e,b];exact h2
  .have e':¬q.1=k:=λz=>e (h1.trans z)
   have b:valueAt (q :: qs) k=valueAt qs k:=by simp[valueAt,V6,e']
   rw[Zif e,b];exact ih
theorem KV.any{kvs:List (κ×V)}{vs:List (κ×Xe)}(r:KV kvs vs)(k:κ):(kvs.any λkv=>decide (kv.1=k))=vs.any λkv=>decide (kv.1=k):=by
 unfold KV at r
 induction r with
 | nil=>rfl
 | cons h t ih=>rw[V2,V2,ih,h.1]
theorem KV.repl{kvs:List (κ×V)}{vs:List (κ×Xe)}(r:KV kvs vs)(k:κ)(ry:RelV y u) :
  KV (kvs.map λkv=>if kv.1=k then(kv.1,y)else kv) (vs.map λkv=>if kv.1=k then(kv.1,u)else kv):=by
 unfold KV at r|-
 induction r with
 | nil=>exact .nil
 | @cons p q ps qs h t ih=>
  rw[Xv,Xv]
  refine .cons ?_ ih
  obtain⟨h1,h2⟩:=h
  by_cases e:p.1=k
  .rw[if_pos e,if_pos (h1.symm.trans e)];exact⟨h1,ry⟩
  .rw[if_neg e,if_neg (λz=>e (h1.trans z))];exact⟨h1,h2⟩
theorem KV.put{kvs:List (κ×V)}{vs:List (κ×Xe)}(r:KV kvs vs)(k:κ)(ry:RelV y u):KV (putK kvs k y) (stored vs k u):=by
 unfold putK stored
 rw[r.any k]
 by_cases e:(vs.any λkv=>decide (kv.1=k))=true
 .rw[if_pos e,if_pos e];exact r.repl k ry
 .rw[if_neg e,if_neg e];exact U7.snoc r ⟨rfl,ry⟩
theorem KV.length{kvs:List (κ×V)}{vs:List (κ×Xe)}(r:KV kvs vs):kvs.length=vs.length:=Paired.length r
end
theorem Z3k{k:Key}(r:RelV (kV k) u):(Jw P w).is k u=true:=by
 cases k with
 | inl i=>obtain⟨t,e⟩:=(show∃t,u=UJ i t from r);subst e;exact Zpc P w i t
 | inr x=>obtain⟨t,e⟩:=(show∃t,u=Value.str x t from r);subst e;exact Zpz P w x t
theorem Zmm:∀{ks:List Key} {us:List Xe},Vals (ks.map kV) us->ItemsAre (Jw P w) ks us
 | [],_,r=>by rw[List.map_nil]at r;cases r;exact .nil
 | k :: ks,_,r=>by
  rw[Xv]at r
  cases r with
  | cons h t=>exact .cons (Z3k h) (Zmm t)
abbrev KT(H:Hp):List (List Key×V)->List (List Key×Addr×Xe)->Prop:=U7 λp q=>p.1=q.1/\H q.2.1=some (.tup (p.1.map kV))/\RelV p.2 q.2.2
theorem KT.val{kvs:List (List Key×V)}{xs:List (List Key×Addr×Xe)}(r:KT H kvs xs)(k:List Key):RelO (Zr9 kvs k) ((atKey xs k).map (·.2)):=by
 induction r with
 | nil=>exact Vz
 | @cons p q ps qs h t ih=>
  obtain⟨h1,_,h2⟩:=h
  by_cases e:p.1=k
  .have e':q.1=k:=h1.symm.trans e
   have b:atKey (q :: qs) k=some q.2:=by simp[atKey,V6,e']
   rw[Zib e,b];exact h2
  .have e':¬q.1=k:=λz=>e (h1.trans z)
   have b:atKey (q :: qs) k=atKey qs k:=by simp[atKey,V6,e']
   rw[Zif e,b];exact ih
theorem KT.repl{kvs:List (List Key×V)}{xs:List (List Key×Addr×Xe)}(r:KT H kvs xs)(k:List Key)(ry:RelV y u) :
  KT H (kvs.map λkv=>if kv.1=k then(kv.1,y)else kv) (xs.map (putAt k u)):=by
 induction r with
 | nil=>exact .nil
 | @cons p q ps qs h t ih=>
  rw[Xv,Xv]
  refine .cons ?_ ih
  obtain⟨h1,h2,h3⟩:=h
  unfold putAt
  by_cases e:p.1=k
  .rw[if_pos e,if_pos (h1.symm.trans e)];exact⟨h1,h2,ry⟩
  .rw[if_neg e,if_neg (λz=>e (h1.trans z))];exact⟨h1,h2,h3⟩
theorem KT.put{kvs:List (List Key×V)}{xs:List (List Key×Addr×Xe)}(r:KT H kvs xs)(k:List Key){b:Addr}(hb:H b=some (.tup (k.map kV)))(ry:RelV y u) :
  KT H (putK kvs k y) (storedH xs k b u):=by
 have e:(kvs.any λkv=>decide (kv.1=k))=(atKey xs k).isSome:=by
  rw[Zq6,(r.val k).isSome_eq,Option.isSome_map]
 unfold putK storedH
 rw[e]
 by_cases q:(atKey xs k).isSome=true
 .rw[if_pos q,if_pos q];exact r.repl k ry
 .rw[if_neg q,if_neg q];exact U7.snoc r ⟨rfl,hb,ry⟩
theorem KT.keeps{kvs:List (List Key×V)}{xs:List (List Key×Addr×Xe)}(r:KT H kvs xs)(ht:∀b ys,H b=some (.tup ys)->H' b=some (.tup ys)):KT H' kvs xs :=
 U7.mapP r λ_ _ z=>⟨z.1,ht _ _ z.2.1,z.2.2⟩
section
variable {P:XJ}{w:Ql}{H:Hp}{h:Heap}{a:Addr}
theorem Z7x{u:HO}(ok:HOk P w H h)(e:Rd H a u):ObjOk P w H h a u:=e.ok ok
theorem Zx6{kvs:List (Key×V)}(ok:HOk P w H h)(e:Rd H a (.dK kvs)):kvs.length<=Xk/\(a==BV)=false/\∃vs,KV kvs vs/\h.DictOf (Jw P w) a vs :=
 show ObjOk P w H h a (.dK kvs)from Z7x ok e
theorem Yd9{kvs:List (Key×V)}(ok:HOk P w H h)(e:H a=some (.dK kvs)):kvs.length<=Xk/\(a==BV)=false/\∃vs,KV kvs vs/\h.DictOf (Jw P w) a vs:=Zx6 ok (.inl e)
theorem Zte{ks:List Key}(ok:HOk P w H h)(e:H a=some (.tup (ks.map kV))):(tupleKind (Jw P w)).is h ks a:=by
 obtain⟨_,its,r,o,h1,h2,n,h3⟩:=(show ObjOk P w H h a (.tup (ks.map kV))from ok a _ e)
 exact⟨o,its.toArray,n,h1,h2,h3,by simpa using Zmm r⟩
theorem Zze{kvs:List (List Key×V)}(ok:HOk P w H h)(e:Rd H a (.dT kvs)):kvs.length<=Xk/\(a==BV)=false/\
  ∃xs,KT H kvs xs/\h.DictOfH (tupleKind (Jw P w)) a xs:=by
 obtain⟨z,y,xs,r,o,es,ep,h1,h2,h3,h4,h5⟩:=(show ObjOk P w H h a (.dT kvs)from Z7x ok e)
 refine⟨z,y,xs,r,o,es,ep,h1,h2,h3,h4,λx hx=>?_,h5⟩
 have all:∀{l:List (List Key×V)} {m:List (List Key×Addr×Xe)},KT H l m->∀x∈m,(tupleKind (Jw P w)).is h x.1 x.2.1:=by
  intro l m q
  induction q with
  | nil=>intro x hx;exact nomatch hx
  | @cons p q ps qs hq t ih=>
   intro x hx
   rcases Xo.mp hx with e|hx
   .subst e
    exact Zte ok (by rw[<-hq.1];exact hq.2.1)
   .exact ih x hx
 exact all r x hx
theorem Ygn{kvs:List (List Key×V)}(ok:HOk P w H h)(e:H a=some (.dT kvs)):kvs.length<=Xk/\(a==BV)=false/\
  ∃xs,KT H kvs xs/\h.DictOfH (tupleKind (Jw P w)) a xs:=Zze ok (.inl e)
end
def DGet(H:Hp)(a:Addr)(y:V)(r:Option V):Prop :=
 (∃ kvs k,Rd H a (.dK kvs)/\y=kV k/\r=Zr9 kvs k)\/∃kvs k b,Rd H a (.dT kvs)/\y= .ref b/\H b=some (.tup (k.map kV))/\r=Zr9 kvs k
def DPut(H:Hp)(a:Addr)(y v:V)(H':Hp):Prop :=
 (∃ kvs k,H a=some (.dK kvs)/\y=kV k/\kvs.length<Xk/\H'=upd H a (.dK (putK kvs k v)))\/
 ∃kvs k b,H a=some (.dT kvs)/\y= .ref b/\H b=some (.tup (k.map kV))/\kvs.length<Xk/\H'=upd H a (.dT (putK kvs k v))
theorem DGet.k{H:Hp}{a:Addr}{kvs:List (Key×V)}{k:Key}(e:H a=some (.dK kvs)):DGet H a (kV k) (Zr9 kvs k):=.inl ⟨kvs,k,.inl e,rfl,rfl⟩
theorem DGet.t{H:Hp}{a b:Addr}{kvs:List (List Key×V)}{k:List Key}(e:H a=some (.dT kvs))(eb:H b=some (.tup (k.map kV))):DGet H a (.ref b) (Zr9 kvs k):=.inr ⟨kvs,k,b,.inl e,rfl,eb,rfl⟩
theorem DPut.k{H:Hp}{a:Addr}{kvs:List (Key×V)}{k:Key}{v:V}(e:H a=some (.dK kvs))(hl:kvs.length<Xk):DPut H a (kV k) v (upd H a (.dK (putK kvs k v))):=.inl ⟨kvs,k,e,rfl,hl,rfl⟩
theorem DPut.t{H:Hp}{a b:Addr}{kvs:List (List Key×V)}{k:List Key}{v:V}(e:H a=some (.dT kvs))(eb:H b=some (.tup (k.map kV)))(hl:kvs.length<Xk) :
  DPut H a (.ref b) v (upd H a (.dT (putK kvs k v))):=.inr ⟨kvs,k,b,e,rfl,eb,hl,rfl⟩
section
variable {X:Cx}{pins:List (Addr×Obj)}{σ:St}{H:Hp}{s:Xg}{a:Addr}{y v:V}{u r:Xe}{o:Option V}{A:Qk}{E:Xe->Xg->Prop}
theorem Inv.big(I:Inv X pins σ H s):BV<s.heap.objs.size:=by
 have h:Qd<s.heap.objs.size:=(I.mod.glob.keeps I.bk).lt
 exact Uh (by decide) h
theorem Zsz(hu:A.units+1<UV)(I:Inv X pins σ H s)(g:DGet H a y (some v))(ry:RelV y u)(h:∀w' s',Inv X pins σ H s'->RelV v w'->Q w' s') :
  XR (Qg X.prog X.w) A (getItem (.ref a) u) Q E s:=by
 rcases g with⟨kvs,k,e,ey,l⟩|⟨kvs,k,b,e,ey,eb,l⟩
 .subst ey
  obtain⟨z,hd,vs,rel,dd⟩:=Zx6 I.hok e
  obtain⟨w',hw,rw'⟩:=RelO.some_of (v:=v) (o:=valueAt vs k) (by rw[l];exact rel.val k)
  exact wpAny_getItem_of (Z3k ry) dd.mapOf hw (h w' _ (I.tok _) rw')
 .subst ey
  cases(show u=Qo b from ry)
  obtain⟨z,hd,xs,rel,dd⟩:=Zze I.hok e
  obtain⟨w',hw,rw'⟩:=RelO.some_of (v:=v) (o:=(atKey xs k).map (·.2)) (by rw[l];exact rel.val k)
  obtain⟨p,hp,hp2⟩:=Q4.mp hw
  refine wpAny_getItem_heap (tupleKind_room_in1 hu) (Zte I.hok eb) dd hp ?_
  rw[hp2]
  exact h w' _ (I.tok _) rw'
theorem Zwc{ob:HO}(I:Inv X pins σ H s)(mu:Mut (H a))(hs:BX a s.heap h')(he:∃q,h'.get? a=some q)(new:ObjOk X.prog X.w (upd H a ob) h' a ob) :
  Inv X pins σ (upd H a ob) { s with heap:=h',toks:=t' } :=
 I.write (x:=a) (e:=a) mu (.inl rfl) (λb q hb z=>(hs.2 b hb).trans z) he new
theorem Z8m{kvs:List (Key×V)}{vs:List (Key×Xe)}(z:kvs.length<=Xk)(hd:(a==BV)=false)(rel:KV kvs vs)(dd:h'.DictOf (Jw P w) a vs) :
  ObjOk P w H' h' a (.dK kvs):=⟨z,hd,vs,rel,dd⟩
theorem Zu0{Q:Unit->Xg->Prop}(hu:A.units+1<UV)(I:Inv X pins σ H s)(g:DPut H a y v H')(ry:RelV y u)(rv:RelV v r)(h:∀s',Inv X pins σ H' s'->Q () s') :
  XR (Qg X.prog X.w) A (setItem (.ref a) u r) Q E s:=by
 rcases g with⟨kvs,k,e,ey,l,eH⟩|⟨kvs,k,b,e,ey,eb,l,eH⟩
 .subst ey eH
  obtain⟨z,hd,vs,rel,dd⟩:=Yd9 I.hok e
  have hz:vs.length<=Xk:=by rw[<-rel.length];exact z
  have hl:(putK kvs k v).length<=Xk:=by have:=Zi1 kvs k v;omega
  refine wpAny_setItem_pairs (hsz:=hz) (Z3k ry) dd λh' dd' hs=>h _ ?_
  have he:∃q,h'.get? a=some q:=let⟨q,_,_,hq,_⟩:=dd';⟨q,hq⟩
  exact Zwc I (by rw[e];exact Vz) hs he (Z8m hl hd (rel.put k rv) dd')
 .subst ey eH
  cases(show u=Qo b from ry)
  obtain⟨z,hd,xs,rel,dd⟩:=Ygn I.hok e
  have hz:xs.length<=Xk:=by rw[<-Paired.length rel];exact z
  have hl:(putK kvs k v).length<=Xk:=by have:=Zi1 kvs k v;omega
  refine wpAny_setItem_heap (hsz:=hz) (tupleKind_room_in1 hu) (Zte I.hok eb) dd λh' dd' hs=>h _ ?_
  obtain⟨q,es,ep,hq,h2,h3,h4,_,h5⟩:=dd'
  refine Zwc I (by rw[e];exact Vz) hs ⟨q,hq⟩ ⟨hl,hd,_,(rel.put k eb rv).keeps λc ys ec=>?_,q,es,ep,hq,h2,h3,h4,h5⟩
  rw[Zt (Ydx ec e (λz=>nomatch z))]
  exact ec
end
section
variable {X:Cx}{pins:List (Addr×Obj)}{σ:St}{H:Hp}{s:Xg}{a:Addr}{kvs:List (Key×V)}{k:Key}{u:Xe}{A:Qk}{E:Xe->Xg->Prop}
end
def Ydj(i:Expr):Prop:=∀ov iv,subscripted i false ov iv=operate [ov,iv] (getItem ov iv)
theorem Z4r{slice:Expr}{pos:Pos}{T:String}
  (hl:typeLookup (.type T) "__getitem__"=pure (some (.builtin id))) (hs:Ydj slice)
  (h:XR (Qg prog w) A (eval value env) (λo s₁=>XR (Qg prog w) A (eval slice env) (λi s₂=>s₂.TypeIs o T/\XR (Qg prog w) A (getItem o i) Q E s₂) E s₁) E s) :
  XR (Qg prog w) A (eval (.Subscript value slice pos) env) Q E s:=by
 refine Subscript_ (Bm h (λo s₁ h₁=>Bm h₁ (λi s₂ h₂=>?_) λ_ _ x=>x) λ_ _ x=>x)
 obtain⟨hT,h₂⟩:=h₂
 unfold subscriptTail
 refine Xd ?_
 rw[getitemInPython_of_ne hT.not_modules]
 refine Xd (wpAny_specialOf hT hl ?_)
 have fin:XR (Qg prog w) A (subscripted slice false o i) (λr s₃=>XR (Qg prog w) A (letTemporaryGo value o r>>= λ_=>pure r) Q E s₃) E s₂:=by
  rw[hs o i]
  exact wpAny_operating (Bm h₂ (λr s₃ h₃=>Xd (wpAny_letTemporaryGo (Xy h₃))) λ_ _ x=>x)
 first
  | exact Xy (Xd fin)
  | exact Xd (Xy (Xd fin))
  | exact Xd fin
theorem Zp7{σ:St}{o:Option V}(I:Inv X pins σ H s)(g:DGet H a y o):s.TypeIs (.ref a) "dict" :=by
 rcases g with⟨kvs,k,e,_,_⟩|⟨kvs,k,b,e,_,_,_⟩
 .obtain⟨_,_,vs,_,dd⟩:=Zx6 I.hok e
  exact dd.typeIs
 .obtain⟨_,_,xs,_,dd⟩:=Zze I.hok e
  exact dd.typeIs
def Yd5(td ty:TE):TE:=λσ H Q=>td σ H λx H1=>ty σ H1 λy H2=>∃a v,x= .ref a/\DGet H2 a y (some v)/\Q v H2
def Ye0(td ty tv:TE):TS:=λD σ H=>tv σ H λv H1=>td σ H1 λx H2=>ty σ H2 λy H3=>∃a H4,x= .ref a/\DPut H3 a y v H4/\D.nx σ H4
section
variable {X:Cx}{o i e value:Expr}{pos pos' tpos:Pos}{td ty tv:TE}
theorem Z6f(hu:X.A.units+1<UV)(ho:PE X o td)(hi:PE X i ty)(hs:Ydj i):PE X (.Subscript o i pos) (Yd5 td ty):=by
 intro pins s σ H Q I h
 refine Z4r PySem.F.slot_dict_getitem.lookup hs (thn (ho pins s σ H _ I h) λu s1 ⟨x,H1,I1,rx,q1⟩=>thn (hi pins s1 σ H1 _ I1 q1) λiv s2 ⟨y,H2,I2,ry,a,v,ex,g,q2⟩=>?_)
 subst ex
 obtain rfl:u=Qo a:=rx
 exact⟨Zp7 I2 g,Zsz hu I2 g ry λw' s3 I3 rw'=>⟨v,H2,I3,rw',q2⟩⟩
theorem Z2p(hu:X.A.units+1<UV)(ho:PE X o td)(hi:PE X i ty)(hv:PE X value tv)(hs:BK value (some (.Subscript o i pos')) pos.line X.env=pure false) :
  PS X (.Assign [.Subscript o i pos'] value pos) (Ye0 td ty tv):=by
 intro pins s σ H D I h
 refine wpAny_Assign_Subscript (thn (hv pins s σ H _ I h) λr s1 ⟨v,H1,I1,rv,q1⟩=>thn (ho pins s1 σ H1 _ I1 q1) λu s2 ⟨x,H2,I2,rx,q2⟩=>thn (hi pins s2 σ H2 _ I2 q2) λiv s3 ⟨y,H3,I3,ry,a,H4,ex,g,q3⟩=>?_) hs
 subst ex
 obtain rfl:u=Qo a:=rx
 exact Zu0 hu I3 g ry rv λs4 I4=>⟨σ,H4,I4,q3⟩
end
theorem Zxo(h:Heap)(hb:BV<h.objs.size):ObjOk P w H (h.push { cls:=.type "dict",data:=.dict #[] }) h.objs.size (.dT []) :=
 ⟨JF _,beq_eq_false_iff_ne.mpr (Bo (Xu hb)),[],.nil,_,#[],0,XQ _ rfl,⟨rfl,rfl,rfl⟩,rfl,rfl,List.nodup_nil⟩
def Yaa:TE:=λ_ H Q=>∀p,H p=none->Q (.ref p) (upd H p (.dT []))
section
variable {X:Cx}{pos:Pos}
theorem Zyw:PE X (.Dict [] [] pos) Yaa:=λpins s σ H Q I h=>
 wpAny_Dict_empty ⟨.ref s.heap.objs.size,_,I.laid (a:=s.heap.objs.size) (o:=.dT []) (t':=s.toks) (λ_ _ q=>Xh _ q) (XC _) (Zxo s.heap I.big),rfl,h _ (I.hok.fresh (XC _))⟩
end
abbrev VV:List (V×V)->List (Xe×Xe)->Prop:=U7 λp q=>RelV p.1 q.1/\RelV p.2 q.2
structure M1(X:Cx)(o:Expr)(m:Str)(apos:Pos)(e:Expr)(cpos:Pos):Prop where
 base:Ua o m X.env (eval o X.env)=eval o X.env
 few:((Bg cpos (Xw [e] X.env)).all (λx=>!x.1)&&(backToKw cpos (UT [] X.env)).all (λx=>x.1.isSome)
  &&decide (([e]:List Expr).length+([]:List V8).length+(if([]:List V8).isEmpty then 0 else 1)<30))=true
 line:(apos.endLine==cpos.line)=true
 trees:Bg cpos (Xw [e] X.env)=[(false,eval e X.env)]
structure M2(X:Cx)(o:Expr)(m:Str)(apos:Pos)(e f:Expr)(cpos:Pos):Prop where
 base:Ua o m X.env (eval o X.env)=eval o X.env
 few:((Bg cpos (Xw [e,f] X.env)).all (λx=>!x.1)&&(backToKw cpos (UT [] X.env)).all (λx=>x.1.isSome)
  &&decide (([e,f]:List Expr).length+([]:List V8).length+(if([]:List V8).isEmpty then 0 else 1)<30))=true
 line:(apos.endLine==cpos.line)=true
 trees:Bg cpos (Xw [e,f] X.env)=[(false,eval e X.env),(false,eval f X.env)]
def IsD(H:Hp)(a:Addr):Prop:=(∃kvs,Rd H a (.dK kvs))\/∃kvs,Rd H a (.dT kvs)
theorem Z8x{σ:St}(I:Inv X pins σ H s)(d:IsD H a) :
  s.TypeIs (.ref a) "dict"/\(∀b,Qo a= .ref b->∃ob,s.heap.get? b=some ob/\ob.dict=none)/\(a==BV)=false:=by
 rcases d with⟨kvs,e⟩|⟨kvs,e⟩
 .obtain⟨_,hd,vs,_,dd⟩:=Zx6 I.hok e
  refine⟨dd.typeIs,λb q=>?_,hd⟩
  cases q
  obtain⟨ob,_,_,h1,h2,_⟩:=dd
  exact⟨ob,h1,h2.2.1⟩
 .obtain⟨_,hd,xs,_,dd⟩:=Zze I.hok e
  refine⟨dd.typeIs,λb q=>?_,hd⟩
  cases q
  obtain⟨ob,_,_,h1,h2,_⟩:=dd
  exact⟨ob,h1,h2.2.1⟩
section
variable {X:Cx}{pins:List (Addr×Obj)}{σ:St}{H:Hp}{s:Xg}{a:Addr}{y d:V}{u r:Xe}{o:Option V}{A:Qk}{E:Xe->Xg->Prop}
end
section
variable {X:Cx}{o e f:Expr}{apos cpos:Pos}{td ty tx:TE}
end
variable {G:Xb}
def Zkf:Xa->Option Key
 | .int i=>some (.inl i)
 | .str x=>some (.inr x)
 | _=>none
def Znq:List Xa->Option (List Key)
 | []=>some []
 | d :: ds=>(Zkf d).bind λk=>(Znq ds).bind λks=>some (k :: ks)
def Zoj:Xa->Option KY
 | .tuple ds=>(Znq ds).map .inr
 | d=>(Zkf d).map .inl
def Z11:KY->Bool
 | .inl _=>false
 | .inr _=>true
theorem Z56(k:Key):Zkf (Z3x k)=some k:=by cases k<;>rfl
theorem Z3y(ks:List Key):Znq (ks.map Z3x)=some ks:=by
 induction ks with
 | nil=>rfl
 | cons k ks ih=>rw[Xv,Znq,Z56,ih];rfl
theorem Z04(k:KY):Zoj (kyD k)=some k:=by
 cases k with
 | inl k=>cases k<;>rfl
 | inr ks=>show(Znq (ks.map Z3x)).map (Sum.inr:List Key->KY)=_;rw[Z3y];rfl
def Z26(k:KY):List KY->List Xa->Option Xa
 | [],_=>none
 | _ :: _,[]=>none
 | j :: ks,d :: ds=>if j=k then some d else Z26 k ks ds
def Yar(k:KY)(x:Xa):List KY->List Xa->List Xa
 | [],ds=>ds
 | _ :: _,[]=>[]
 | j :: ks,d :: ds=>(if j=k then x else d) :: Yar k x ks ds
def Zxe(k:KY)(ks:List KY):Bool:=ks.any λj=>decide (j=k)
def Zom(k:KY)(ks:List KY):List KY:=if Zxe k ks=true then ks else ks ++ [k]
def Zmt(k:KY)(x:Xa)(ks:List KY)(ds:List Xa):List Xa:=if Zxe k ks=true then Yar k x ks ds else ds ++ [x]
section
variable {H:Hp}{L:Addr->Prop}{κ:Type}[DecidableEq κ]{f:κ->KY}
def Yez(G:Xb)(H:Hp)(L:Addr->Prop)(a:Option V)(b:Option Xa):Prop:=(∃v d,a=some v/\b=some d/\Da G H L v d)\/(a=none/\b=none)
theorem look(hf:∀a b,f a=f b->a=b)(k:κ)(kvs:List (κ×V)):∀ds,Das G H L (kvs.map (·.2)) ds->Yez G H L (Zr9 kvs k) (Z26 (f k) (kvs.map λp=>f p.1) ds):=by
 induction kvs with
 | nil=>exact λds _=>.inr ⟨rfl,rfl⟩
 | cons p kvs ih=>
  intro ds h
  cases h with
  | cons h r=>
   rename_i d ds
   show Yez G H L _ (if f p.1=f k then some d else Z26 (f k) (kvs.map λp=>f p.1) ds)
   by_cases e:p.1=k
   .rw[Zib e,if_pos (congrArg f e)]
    exact .inl ⟨_,_,rfl,rfl,h⟩
   .rw[Zif e,if_neg λz=>e (hf _ _ z)]
    exact ih _ r
theorem Yix(hf:∀a b,f a=f b->a=b)(k:κ)(kvs:List (κ×V)):(kvs.any λkv=>decide (kv.1=k))=Zxe (f k) (kvs.map λp=>f p.1):=by
 unfold Zxe
 rw[List.any_map]
 refine congrArg (List.any kvs) (funext λp=>?_)
 exact decide_eq_decide.mpr ⟨congrArg f,hf _ _⟩
theorem Yj3(k:κ)(v:V)(kvs:List (κ×V)):(kvs.map (λkv=>if kv.1=k then(kv.1,v)else kv)).map (λp=>f p.1)=kvs.map λp=>f p.1:=by
 rw[Xr]
 refine XN λp _=>?_
 show f (if p.1=k then(p.1,v)else p).1=f p.1
 by_cases c:p.1=k
 .rw[if_pos c]
 .rw[if_neg c]
theorem Ylj(hf:∀a b,f a=f b->a=b)(k:κ){x:Xa}(hv:Da G H L v x)(kvs:List (κ×V)):∀ds,Das G H L (kvs.map (·.2)) ds->Das G H L ((kvs.map (λkv=>if kv.1=k then(kv.1,v)else kv)).map (·.2)) (Yar (f k) x (kvs.map λp=>f p.1) ds):=by
 induction kvs with
 | nil=>intro ds h;cases h;exact .nil
 | cons p kvs ih=>
  intro ds h
  cases h with
  | cons h r=>
   rename_i d ds
   refine .cons ?_ (ih _ r)
   show Da G H L (if p.1=k then(p.1,v)else p).2 (if f p.1=f k then x else d)
   by_cases e:p.1=k
   .rw[if_pos e,if_pos (congrArg f e)];exact hv
   .rw[if_neg e,if_neg λz=>e (hf _ _ z)];exact h
theorem Zqg(hf:∀a b,f a=f b->a=b)(k:κ)(v:V)(kvs:List (κ×V)):(putK kvs k v).map (λp=>f p.1)=Zom (f k) (kvs.map λp=>f p.1):=by
 unfold putK Zom
 rw[Yix hf]
 cases c:Zxe (f k) (kvs.map λp=>f p.1)with
 | true=>rw[if_pos rfl,if_pos rfl,Yj3]
 | false=>rw[if_neg Xm,if_neg Xm,Qj];rfl
theorem Zqn(hf:∀a b,f a=f b->a=b)(k:κ){x:Xa}(hv:Da G H L v x)(kvs:List (κ×V)){ds:List Xa}(h:Das G H L (kvs.map (·.2)) ds):Das G H L ((putK kvs k v).map (·.2)) (Zmt (f k) x (kvs.map λp=>f p.1) ds):=by
 unfold putK Zmt
 rw[Yix hf]
 cases c:Zxe (f k) (kvs.map λp=>f p.1)with
 | true=>rw[if_pos rfl,if_pos rfl];exact Ylj hf k hv kvs _ h
 | false=>rw[if_neg Xm,if_neg Xm,Qj];exact h.snoc hv
end
theorem Zpu:∀a b:Key,(Sum.inl a:KY)=Sum.inl b->a=b:=λ_ _ h=>Sum.inl.inj h
theorem Zow:∀a b:List Key,(Sum.inr a:KY)=Sum.inr b->a=b:=λ_ _ h=>Sum.inr.inj h
section
variable {H:Hp}{L:Addr->Prop}{y:V}{e:Xa}
theorem Da.key1{k:Key}(h:Da G H L y e)(hk:Zkf e=some k):y=kV k:=by
 cases h with
 | int i=>cases hk;rfl
 | str x=>cases hk;rfl
 | exc _ _ _=>unfold exD Zkf at hk;cases hk
 | fn _=>unfold fnD Zkf at hk;cases hk
 | dic _ _ _ _=>unfold dcD Zkf at hk;cases hk
 | _=>cases hk
theorem Das.keys{ds:List Xa}(h:Das G H L xs ds):∀ks,Znq ds=some ks->xs=ks.map kV :=
 Das.ind (Q:=λxs ds=>∀ks,Znq ds=some ks->xs=ks.map kV) (λks h=>by cases h;rfl) (fun{x xs d ds} h _ ih ks hk=>by
  rw[Znq]at hk
  obtain⟨k,h1,hk⟩:=bs hk
  obtain⟨ks',h2,hk⟩:=bs hk
  cases hk
  rw[h.key1 h1,ih _ h2];rfl) h
theorem Da.keyT{ks:List Key}(h:Da G H L y e)(hk:Zoj e=some (.inr ks)):∃b,y= .ref b/\H b=some (.tup (ks.map kV)):=by
 cases h with
 | tup e1 r=>
  rw[Zoj]at hk
  obtain⟨ks',h1,h2⟩:=Q4.mp hk
  cases h2
  exact⟨_,rfl,by rw[<-r.keys _ h1];exact e1⟩
 | exc _ _ _=>unfold exD Zoj Zkf at hk;cases hk
 | fn _=>unfold fnD Zoj Zkf at hk;cases hk
 | dic _ _ _ _=>unfold dcD Zoj Zkf at hk;cases hk
 | _=>cases hk
theorem Da.keyS{k:Key}(h:Da G H L y e)(hk:Zoj e=some (.inl k)):y=kV k:=by
 refine h.key1 ?_
 unfold Zoj at hk
 split at hk
 .obtain⟨_,_,z⟩:=Q4.mp hk;cases z
 .obtain⟨_,h1,z⟩:=Q4.mp hk;cases z;exact h1
def Zr6(k:KY):List (Xa×Xa)->Option Xa
 | []=>none
 | p :: r=>if Zoj p.1=some k then some p.2 else Zr6 k r
theorem Zn8(k:KY)(ks:List KY):∀ds,Zr6 k ((ks.map kyD).zip ds)=Z26 k ks ds:=by
 induction ks with
 | nil=>intro ds;rfl
 | cons j ks ih=>
  intro ds
  cases ds with
  | nil=>rfl
  | cons d ds=>
   show(if Zoj (kyD j)=some k then some d else Zr6 k ((ks.map kyD).zip ds))=if j=k then some d else Z26 k ks ds
   rw[Z04,ih]
   by_cases c:j=k
   .rw[if_pos c,if_pos (congrArg some c)]
   .rw[if_neg c,if_neg λz=>c (Qu z)]
theorem Da.dget{x:V}{t:Bool}{kvs:List (Xa×Xa)}{k:KY}(h:Da G H L x (.dict ((.none,.bool t) :: kvs)))(hy:Da G H L y e)(hk:Zoj e=some k)(ht:Z11 k=t):∃a o,x= .ref a/\IsD H a/\DGet H a y o/\Yez G H L o (Zr6 k kvs):=by
 generalize ed:Xa.dict ((.none,.bool t) :: kvs)=d at h
 cases h with
 | dic l r dk q=>
  rename_i a o t' ks xs ds
  unfold dcD at ed
  injection ed with ed
  injection ed with e1 e2
  injection e1 with _ e1
  injection e1 with e1
  subst e1 e2
  rw[Zn8]
  cases o with
  | lst _=>exact dk.elim
  | dK kv=>
   obtain⟨rfl,rfl,rfl⟩:=dk
   cases k with
   | inr _=>cases ht
   | inl k=>exact⟨a,_,rfl,.inl ⟨kv,r⟩,.inl ⟨kv,k,r,hy.keyS hk,rfl⟩,look Zpu k kv _ q⟩
  | dT kv=>
   obtain⟨rfl,rfl,rfl⟩:=dk
   cases k with
   | inl _=>cases ht
   | inr k=>
    obtain⟨b,hb,eb⟩:=hy.keyT hk
    exact⟨a,_,rfl,.inr ⟨kv,r⟩,.inr ⟨kv,k,b,r,hb,eb,rfl⟩,look Zow k kv _ q⟩
 | exc _ _ _=>unfold exD at ed;cases ed
 | fn _=>unfold fnD at ed;cases ed
 | _=>cases ed
end
variable {G:Xb}
end L2
variable {kvs:List (List Key×V)}{ks:List KY}
namespace L2
open PySem PySem.Spec PyProof.Rows
section
variable {X:Cx}{io:List Nat}{p c p' c':Bool}{a b e f o:Expr}{ma mb m mi mo me mf:MEt}{pos pp apos cpos px:Pos}{i:Nat}{x:Str}
theorem hu1{n:Nat}(h:n+64<UV):n+1<UV:=Nat.lt_of_le_of_lt (Nat.add_le_add_left (by decide:1<=64) _) h
def Z1a:Xa->Xa->Option OT:=λd e=>match d with
 | .dict ((.none,.bool t) :: kvs)=>(Zoj e).bind λk=>if Z11 k=t then(Zr6 k kvs).map OT.fz else none
 | _=>none
def Ye6:Xa->Xa->(OT->Prop)->Prop:=λd e k=>∃r,Z1a d e=some r/\k r
def Yi7:R2:=λx y H Q=>∃a v,x= .ref a/\DGet H a y (some v)/\Q v H
theorem Yfa:ByO Z1a Ye6:=λ_ _ r _ h hk=>⟨r,h,hk⟩
theorem Yaz:P2 G Yi7 Ye6:=λH L x y d e k Q hx hy h kk=>by
 obtain⟨r,h,hk⟩:=h
 unfold Z1a at h
 split at h
 case h_2=>cases h
 rename_i t kvs
 obtain⟨ky,h1,h⟩:=bs h
 by_cases ht:Z11 ky=t
 .rw[if_pos ht]at h
  obtain⟨a,o,rfl,_,g,R⟩:=hx.dget hy h1 ht
  obtain⟨z,hz,rfl⟩:=Q4.mp h
  rcases R with⟨v,d,rfl,hd,q⟩|⟨_,hd⟩
  .rw[hz]at hd
   cases hd
   exact⟨a,v,rfl,g,kk H v (.fz z) [] (Same.refl _) (.fz (q.wide λa l _=>⟨.inl l,λm=>nomatch m⟩)) .nil (λa m=>nomatch m) hk⟩
  .rw[hz]at hd;cases hd
 .rw[if_neg ht]at h;cases h
theorem Yf4(hu:X.A.units+64<UV)(ha:ME X io p c a ma)(hb:ME X io p' c' b mb)(hc:p'=true\/c=true:=by first|exact Qw rfl|exact Qt rfl)(hs:Ydj b):ME X io (p&&p') (c&&c') (.Subscript a b pos) (Ycy Ye6 ma mb):=by
 obtain⟨_,A,sa⟩:=ha
 obtain⟨_,B,sb⟩:=hb
 exact⟨_,Z6f (hu1 hu) A B hs,Yhe (r:=Yi7) Yaz sa sb hc⟩
def Yb9(t:Bool):MEt:=λδ K=>K (.dc t [] []) δ
theorem Z2k:ME X io true true (.Dict [] [] pos) (Yb9 true):=⟨_,Zyw,λC H σ δ fp ex K Q R h k q hq=>by
 refine k _ _ _ δ fp [q] (RE.tree (H1:=H) R R (Stp.same (Same.refl H) λ_ z=>z) (Ye hq (.dT [])) (Zct hq) (Ze1 q) ?_) h
 exact .dc (o:=.dT []) Zy ⟨rfl,rfl,rfl⟩ .nil⟩
def Z8h(t:Bool):FE:=λδ=>some (.dc t [] [],δ)
theorem Z3n{t:Bool}(h:ME X io p c e (Yb9 t)):ME X io p c e (o2 (Z8h t)):=h.weak λδ K z=>by
 obtain⟨r,δ',h,k⟩:=z
 cases h;exact k
theorem Rel.ownDc{C:MC G}{H:Hp}{σ:St}{δ:Zg}{fp:Fp}{ex:Addr->Prop}{t:Bool}{ks:List KY}{ds:List Xa}(R:Rel C io H σ δ fp ex)(hi:δ[i]? =some (some (.dc t ks ds))) :
  ∃a' ob xs,σ[i]? =some (some (.ref a'))/\H a'=some (MuO.ho ob)/\ob.dic t ks xs/\Das G H (Lf C fp ex) xs ds/\fp i=[a']:=by
 obtain⟨v,e,o⟩:=R.own i _ hi
 generalize hf:fp i=as at o
 cases o with
 | dc h k r=>exact⟨_,_,_,e,h,k,r,rfl⟩
theorem Rel.topD{C:MC G}{H:Hp}{σ:St}{δ:Zg}{fp:Fp}{ex:Addr->Prop}{t:Bool}{ks ks':List KY}{ds ds':List Xa}{a':Addr}{ob ob':MuO}{ys:List V}(R:Rel C io H σ δ fp ex)(hi:δ[i]? =some (some (.dc t ks ds)))(hv:σ[i]? =some (some (.ref a')))
  (hf:fp i=[a']) (hx:H a'=some ob.ho) (dk:ob'.dic t ks' ys) (o:Das G H (Lf C fp ex) ys ds') :
  Rel C io (upd H a' ob'.ho) σ (δ.set i (some (.dc t ks' ds'))) (fpu fp i [a']) ex/\Stp false H δ fp (upd H a' ob'.ho) (δ.set i (some (.dc t ks' ds'))) (fpu fp i [a']):=by
 have hm:a'∈fp i:=by rw[hf];exact .head _
 have ne':∀a,¬Foot fp a->a≠a':=λa h z=>h ⟨i,by rw[z];exact hm⟩
 have kp:∀b o,H b=some o->b≠a'->upd H a' ob'.ho b=some o:=λb o e n=>by rw[Zt n];exact e
 have sub:∀a,a∈[a']->a∈fp i:=λa m=>by rw[hf];exact m
 have o':Das G (upd H a' ob'.ho) (Lf C (fpu fp i [a']) (exu ex [])) ys ds':=by
  have f0:∀a,¬Foot fp a->¬Foot (fpu fp i [a']) a:=λa h z=>by
   rcases z.of_u with z|⟨j,_,z⟩
   .exact h ⟨i,sub a z⟩
   .exact h ⟨j,z⟩
  refine o.frame (λa zs l q=>⟨⟨f0 a l.1,λz=>l.2.1 (Zcw.mp z),l.2.2⟩,?_⟩) λa zs q=>kp a _ q λz=>ImO.nm q (z▸hx)
  rcases q with q|⟨u,q⟩
  .exact .inl (kp a _ q (ne' a l.1))
  .exact .inr ⟨u,kp a _ q (ne' a l.1)⟩
 have key:=R.change (new:=[]) (as':=[a']) (t':=.dc t ks' ds') (H':=upd H a' ob'.ho) hi hv (λb o e nb=>kp b o e λz=>nb (by rw[z];exact hm)) (λb e=>by
   by_cases q:b=a'
   .subst q;rw[Zy]at e;cases e
   .rwa[Zt q]at e) (.dc Zy dk o') (Ze1 a') (λa m=>.inl (sub a m)) (λa m=>nomatch m)
 exact⟨key.1.drop λa z=>.inl z,key.2⟩
def Yad(i:Nat)(m mi:MEt):MSt:=λD δ=>m δ λr δ1=>match δ1[i]? with
 | some (some (.dc t ks ds))=>mi δ1 λn _=>match Zoj n.data with
  | some k=>(Z11 k=t/\ks.length<Xk)/\D.nx (δ1.set i (some (.dc t (Zom k ks) (Zmt k r.data ks ds))))
  | none=>False
 | _=>False
theorem Z42(i:Nat)(hu:X.A.units+64<UV)(he:ME X io p true e m)(hj:ME X io true c a mi)(hN:X.N[i]? =some x:=by rfl)(hv:Vis X.env.scope x:=by first|exact Qw rfl|exact Qt (Qw rfl)|exact Qt (Qt rfl))(hd:(x==("__debug__" : Str))=false:=by decide)
  (hcd:(x==("__classdict__" : Str))=false:=by decide)
  (hs:BK e (some (.Subscript (.Name x px) a pp)) pos.line X.env=pure false:=by rfl):MS X io (.Assign [.Subscript (.Name x px) a pp] e pos) (Yad i m mi):=by
 obtain⟨_,A,s⟩:=he
 obtain⟨_,B,sj⟩:=hj
 refine⟨_,Z2p (hu1 hu) (pv i hN hv hd hcd) B A hs,λC H σ δ fp ex D D' R h E=>?_⟩
 refine s C H σ δ fp ex _ _ R h λH1 v r δ1 fp1 new r1 h1=>?_
 have R1:=r1.base
 have q:=(r1.da R).wide (L':=Lf C fp1 ex) λa l _=>l rfl
 split at h1
 case h_2=>exact h1.elim
 rename_i t ks ds hi
 obtain⟨a',_,_,hv0,_⟩:=R1.ownDc hi
 refine⟨_,hv0,?_⟩
 refine sj.pureAfter R1 h1 λH2 w n R2 s2 q2 h2=>?_
 split at h2
 case h_2=>exact h2.elim
 rename_i k hk
 obtain⟨⟨ht,hl⟩,h2⟩:=h2
 obtain⟨a2,ob,xs,hv2,hx,dk,o,hf⟩:=R2.ownDc hi
 rw[hv0]at hv2
 cases hv2
 have q':=q.same s2
 have kpp:Kp H1 fp1 H2 fp1:=⟨λb o e _=>s2 _ _ e,λz=>(nomatch z),λa z=>.inl z,s2.al⟩
 cases ob with
 | lst _=>exact dk.elim
 | dK kv=>
  obtain⟨rfl,rfl,rfl⟩:=dk
  rw[Xc]at hl
  cases k with
  | inr _=>cases ht
  | inl k=>
   obtain⟨R3,S3⟩:=R2.topD (ob':=.dK (putK kv k v)) hi hv0 hf hx ⟨rfl,(Zqg Zpu k v kv).symm,rfl⟩ (Zqn Zpu k q' kv o)
   exact⟨a',_,rfl,.inl ⟨kv,k,hx,q2.keyS hk,hl,rfl⟩,E.nx _ σ _ _ R3 (r1.stp.kp.trans (Kp.trans kpp S3.kp)) h2⟩
 | dT kv=>
  obtain⟨rfl,rfl,rfl⟩:=dk
  rw[Xc]at hl
  cases k with
  | inl _=>cases ht
  | inr k=>
   obtain⟨b',hb,eb⟩:=q2.keyT hk
   obtain⟨R3,S3⟩:=R2.topD (ob':=.dT (putK kv k v)) hi hv0 hf hx ⟨rfl,(Zqg Zow k v kv).symm,rfl⟩ (Zqn Zow k q' kv o)
   exact⟨a',_,rfl,.inr ⟨kv,k,b',hx,hb,eb,hl,rfl⟩,E.nx _ σ _ _ R3 (r1.stp.kp.trans (Kp.trans kpp S3.kp)) h2⟩
def Zxn(i:Nat)(e j:FE):FS:=wE e λr δ1=>match δ1[i]? with
 | some (some (.dc t ks ds))=>wE j (λn _=>match Zoj n.data with
  | some k=>if Z11 k=t/\ks.length<Xk then .nx (δ1.set i (some (.dc t (Zom k ks) (Zmt k r.data ks ds))))else .bad
  | none=>.bad) δ1
 | _=>.bad
theorem Z6e(h:MS X io st (Yad i (o2 fa) (o2 fb))):MS X io st (oS (Zxn i fa fb)):=h.weak λD δ h=>by
 refine(Zmk h).imp λr δ' z=>?_
 split at z
 case h_2=>exact z.elim
 rename_i q;(try rw[q])
 refine(Zmk z).imp λn δ2 z=>?_
 split at z
 case h_2=>exact z.elim
 rename_i k q2;(try rw[q2])
 exact Zii z
end
def Z0w:List Xa->Option Xa:=λds=>match ds with|[.int i]=>if i.natAbs.log2<1920 then some (.str (toString i))else none|_=>none
def Yie:List Xa->(Xa->Prop)->Prop:=λds k=>∃r,Z0w ds=some r/\k r
theorem Z4k:∀ds r k,Z0w ds=some r->k r->Yie ds k:=λ_ r _ h hk=>⟨r,h,hk⟩
theorem Ztv:PNs G (λxs H Q=>∃i,xs=[.int i]/\i.natAbs.log2<1920/\Q (.str (toString i)) H) Yie:=λH L xs ds k Q hx h kk=>by
 obtain⟨r,h,hk⟩:=h
 unfold Z0w at h
 split at h
 case h_2=>cases h
 rename_i i
 cases hx with
 | cons q r0=>
  cases r0
  cases q
  by_cases c:i.natAbs.log2<1920
  .rw[if_pos c]at h
   cases h
   exact⟨i,rfl,c,kk _ _ (.str _) hk⟩
  .rw[if_neg c]at h;cases h
def Zke:Xa->Xa->Option Xa:=λd e=>match d,e with| .str x,.str y=>if x.length+y.length<=Xk then some (.str (x ++ y))else none|_,_=>none
def Yb6:Xa->Xa->(Xa->Prop)->Prop:=λd e k=>∃r,Zke d e=some r/\k r
theorem Zqu:ByS Zke Yb6:=λ_ _ r _ h hk=>⟨r,h,hk⟩
theorem Zlw:P2s G (λx y H Q=>∃i j,x= .str i/\y= .str j/\i.length+j.length<=Xk/\Q (.str (i ++ j)) H) Yb6:=λH L x y d e k Q hx hy h kk=>by
 obtain⟨r,h,hk⟩:=h
 unfold Zke at h
 split at h
 case h_2=>cases h
 rename_i i j
 cases hx
 cases hy
 by_cases c:i.length+j.length<=Xk
 .rw[if_pos c]at h
  cases h
  exact⟨i,j,rfl,rfl,c,kk _ _ (.str _) hk⟩
 .rw[if_neg c]at h;cases h
def Ydc:Xa->Xa->Option OT:=λd e=>match d,e with| .str x,.int i=>if x.length<=Xk then(atI x.cps.toList i).map λc=>.fz (.str ⟨#[c]⟩)else none|_,_=>none
def Yjr:Xa->Xa->(OT->Prop)->Prop:=λd e k=>∃r,Ydc d e=some r/\k r
theorem Yeu:ByO Ydc Yjr:=λ_ _ r _ h hk=>⟨r,h,hk⟩
theorem Yb1:P2 G (rIx G) Yjr:=λH L x y d e k Q hx hy h kk=>by
 obtain⟨r,h,hk⟩:=h
 unfold Ydc at h
 split at h
 case h_2=>cases h
 rename_i z i
 cases hx
 cases hy
 by_cases c:z.length<=Xk
 .rw[if_pos c]at h
  obtain⟨ch,h1,rfl⟩:=Q4.mp h
  exact .inr (.inr ⟨z,i,ch,rfl,rfl,c,h1,kk H _ (.fz (.str ⟨#[ch]⟩)) [] (Same.refl _) (.fz (.str _)) .nil (λa m=>nomatch m) hk⟩)
 .rw[if_neg c]at h;cases h
end L2
namespace L2
open PySem PySem.Spec PyProof.Rows PySem.W PySem.SeqAt
theorem U7.at{α β:Type}{R:α->β->Prop}{as:List α}{bs:List β}(h:PySem.Paired R as bs):∀{i:Nat} {y:β},bs[i]? =some y->∃x,as[i]? =some x/\R x y:=by
 induction h with
 | nil=>intro i y z;cases z
 | cons h t ih=>
  intro i y z
  cases i with
  | zero=>cases z;exact⟨_,rfl,h⟩
  | succ i=>exact ih z
end L2
namespace L2
open PySem PySem.Spec PyProof.Rows
def Yhc(o:Option (Option OT))(δ:Zg):Option (OT×Zg):=match o with|some (some (.fz d))=>some (.fz d,δ)|_=>none
theorem Z48(d:Xa)(δ:Zg):Yhc (some (some (.fz d))) δ=some (.fz d,δ):=rfl
def Z61(o:Option (Option OT))(δ:Zg):Option (OT×Zg):=match o with|some (some t)=>some (.fz t.data,δ)|_=>none
theorem Z3i(t:OT)(δ:Zg):Z61 (some (some t)) δ=some (.fz t.data,δ):=rfl
theorem Z4x(i:Nat)(δ:Zg):Zw i δ=Yhc δ[i]? δ:=rfl
theorem Z5p(i:Nat)(δ:Zg):Zvn i δ=Z61 δ[i]? δ:=rfl
theorem Yfq(d:Xa)(δ:Zg):fC d δ=some (.fz d,δ):=rfl
theorem Zza(g:Xa->Xa->Option Xa)(a b:FE)(δ:Zg):Zh g a b δ=(a δ).bind λp=>(b p.2).bind λq=>(g p.1.data q.1.data).bind λd=>some (.fz d,q.2):=rfl
theorem Z2s(g:Xa->Xa->Option OT)(a b:FE)(δ:Zg):W8 g a b δ=(a δ).bind λp=>(b p.2).bind λq=>(g p.1.data q.1.data).bind λd=>some (d,q.2):=rfl
theorem Yb3(g:Xa->Option Xa)(a:FE)(δ:Zg):fUn g a δ=(a δ).bind λp=>(g p.1.data).bind λd=>some (.fz d,p.2):=rfl
def onB(d:Xa)(x y:Option α):Option α:=match d with| .bool true=>x| .bool false=>y|_=>none
theorem Yaf(x y:Option α):onB (.bool true) x y=x:=rfl
theorem Z7g(x y:Option α):onB (.bool false) x y=y:=rfl
theorem Zue(a b:FE)(δ:Zg):Zoq a b δ=(a δ).bind λp=>onB p.1.data (b p.2) (some (.fz (.bool false),p.2)):=by
 unfold Zoq onB
 cases a δ with
 | none=>rfl
 | some p=>first|rfl|(simp only[Xf];done)|(simp only[Xf];generalize p.1.data=d;cases d<;>first|rfl|(rename_i b;cases b<;>rfl))
theorem Z1e(a b:FE)(δ:Zg):fOr a b δ=(a δ).bind λp=>onB p.1.data (some (.fz (.bool true),p.2)) (b p.2):=by
 unfold fOr onB
 cases a δ with
 | none=>rfl
 | some p=>first|rfl|(simp only[Xf];done)|(simp only[Xf];generalize p.1.data=d;cases d<;>first|rfl|(rename_i b;cases b<;>rfl))
theorem Yho(t:FT)(a b:FE)(δ:Zg):fIf t a b δ=(t δ).bind λp=>if p.1=true then a p.2 else b p.2:=rfl
def Yfn(t:OT)(δ:Zg):Option (Bool×Zg):=match t with| .fz (.bool b)=>some (b,δ)|_=>none
theorem Z8l(b:Bool)(δ:Zg):Yfn (.fz (.bool b)) δ=some (b,δ):=rfl
theorem Yfl(e:FE)(δ:Zg):tV e δ=(e δ).bind λp=>Yfn p.1 p.2:=by
 unfold tV Yfn
 cases e δ with
 | none=>rfl
 | some p=>rfl
theorem Z8w(t:FT)(δ:Zg):tNo t δ=(t δ).bind λp=>some (!p.1,p.2):=rfl
theorem Z18(t u:FT)(δ:Zg):tAn t u δ=(t δ).bind λp=>if p.1=true then u p.2 else some (false,p.2):=rfl
theorem Yge(t u:FT)(δ:Zg):tO t u δ=(t δ).bind λp=>if p.1=true then some (true,p.2)else u p.2:=rfl
theorem Ydu(e:FE)(δ:Zg):tD e δ=(e δ).bind λp=>(Zys p.1.data).bind λb=>some (b,p.2):=rfl
theorem Yek(δ:Zg):Zdx δ=some (true,δ):=rfl
theorem Z22(δ:Zg):Z5 δ=some ([],δ):=rfl
theorem Zlt(e:FE)(a:FA)(δ:Zg):Zd e a δ=(e δ).bind λp=>(a p.2).bind λq=>some (p.1 :: q.1,q.2):=rfl
theorem Zlj(a:FA)(δ:Zg):Zji a δ=(a δ).bind λp=>if p.1.length<=Xk then some (.fz (.tuple (OT.datas p.1)),p.2)else none:=rfl
theorem Zqe(a:FA)(δ:Zg):Zsb a δ=(a δ).bind λp=>if p.1.length<=Xk then some (.nd p.1,p.2)else none:=rfl
theorem Zrk(a:FA)(δ:Zg):Zrw a δ=(a δ).bind λp=>if p.1.length<=Xk then some (.tp p.1,p.2)else none:=rfl
theorem Zyx(e:FE)(δ:Zg):Zxr e δ=(e δ).bind λp=>if Zbg p.1.data=true then some (.fz p.1.data,p.2)else none:=rfl
theorem Z9n(e:FE)(δ:Zg):Z7z e δ=(e δ).bind λp=>if Z41 p.1=true then some (p.1,p.2)else none:=rfl
def okO(x:RF)(δ:Zg):Option (OT×Zg):=match x with| .ok r=>some (r,δ)|_=>none
theorem Yb8(r:OT)(δ:Zg):okO (.ok r) δ=some (r,δ):=rfl
theorem Zlg(F:FD)(a:FA)(δ:Zg):Zo F a δ=(a δ).bind λp=>okO (F (OT.datas p.1)) p.2:=by
 unfold Zo okO
 cases a δ with
 | none=>rfl
 | some p=>rfl
def atO(o:Option (Option OT))(k:OT->Option α):Option α:=match o with|some (some t)=>k t|_=>none
theorem Ykg(t:OT)(k:OT->Option α):atO (some (some t)) k=k t:=rfl
theorem Z97(i:Nat)(F:FIO)(a:FA)(δ:Zg):Z14 i F a δ=atO δ[i]? λ_=>(a δ).bind λp=>atO p.2[i]? λt=>(F t (OT.datas p.1)).bind λq=>some (q.1,p.2.set i (some q.2)):=by
 unfold Z14
 generalize δ[i]? =o
 rcases o with _|_|t
 .rfl
 .rfl
 .show(a δ).bind _=(a δ).bind _
  cases a δ with
  | none=>rfl
  | some p=>
   show(λo:Option (Option OT)=>(match o with|some (some t)=>(F t (OT.datas p.1)).bind λq=>some (q.1,p.2.set i (some q.2))|_=>none)) p.2[i]? =atO p.2[i]? _
   generalize p.2[i]? =o
   rcases o with _|_|t<;>rfl
theorem Z3t(g:List Xa->Option Xa)(a:FA)(δ:Zg):Zgl g a δ=(a δ).bind λp=>(g (OT.datas p.1)).bind λd=>some (.fz d,p.2):=rfl
theorem Z0o(g:List Xa->Option OT)(a:FA)(δ:Zg):fBl g a δ=(a δ).bind λp=>(g (OT.datas p.1)).bind λd=>some (d,p.2):=rfl
theorem Z3f(T:String)(e:FE)(δ:Zg):Zhy T e δ=(e δ).bind λp=>if Zir p.1.data=true then none else some (.fz (.bool (Zpd T p.1.data)),p.2):=rfl
theorem Ykw(δ:Zg):oN δ=some (none,δ):=rfl
def asInt(d:Xa)(k:Int->Option α):Option α:=match d with| .int i=>k i|_=>none
theorem Zwd(i:Int)(k:Int->Option α):asInt (.int i) k=k i:=rfl
def Ztg(d:Xa)(k:List Xa->Option α):Option α:=match d with| .list i=>k i|_=>none
theorem Zwx(i:List Xa)(k:List Xa->Option α):Ztg (.list i) k=k i:=rfl
def Z5u(d:Xa)(k:List Xa->Option α):Option α:=match d with| .tuple i=>k i|_=>none
theorem Yf6(i:List Xa)(k:List Xa->Option α):Z5u (.tuple i) k=k i:=rfl
theorem Ydl(e:FE)(δ:Zg):oI e δ=(e δ).bind λp=>asInt p.1.data λi=>some (some i,p.2):=by
 unfold oI asInt
 cases e δ with
 | none=>rfl
 | some p=>rfl
theorem Z66(e:FE)(lo hi:FO)(δ:Zg):fSl e lo hi δ=(e δ).bind λp=>(lo p.2).bind λq=>(hi q.2).bind λr=>Ztg p.1.data λds=>some (.nd ((cutD ds q.1 r.1).map OT.fz),r.2):=by
 unfold fSl Ztg;rfl
theorem Z3e(e:FE)(δ:Zg):Zcd e δ=(e δ).bind λp=>Ztg p.1.data λds=>some (ds,p.2):=by
 unfold Zcd Ztg;rfl
theorem Yh9(e:FE)(δ:Zg):iTp e δ=(e δ).bind λp=>Z5u p.1.data λds=>some (ds,p.2):=by
 unfold iTp Z5u;rfl
def as1(ds:List Xa)(k:Int->Option α):Option α:=match ds with|[.int i]=>k i|_=>none
theorem Ydw(i:Int)(k:Int->Option α):as1 [.int i] k=k i:=rfl
def as2(ds:List Xa)(k:Int->Int->Option α):Option α:=match ds with|[.int i,.int j]=>k i j|_=>none
theorem Yd8(i j:Int)(k:Int->Int->Option α):as2 [.int i,.int j] k=k i j:=rfl
theorem Z8o(a:FA)(δ:Zg):iRa a δ=(a δ).bind λp=>as1 (OT.datas p.1) λj=>if rOk j=true then some (Zk0 0 j.toNat,p.2)else none:=by
 unfold iRa as1;rfl
theorem Z8u(a:FA)(δ:Zg):iRb a δ=(a δ).bind λp=>as2 (OT.datas p.1) λi j=>if(rOk i&&rOk j)=true then some (Zk0 i (j-i).toNat,p.2)else none:=by
 unfold iRb as2;rfl
theorem Ydi(a:FA)(δ:Zg):Yih a δ=(a δ).bind λp=>as1 (OT.datas p.1) λj=>if rOk j=true/\j.toNat<=Xk then some (.nd ((Zk0 0 j.toNat).map OT.fz),p.2)else none:=by
 unfold Yih as1;rfl
theorem Zps(a b:FE)(δ:Zg):Z4l a b δ=(a δ).bind λp=>(b p.2).bind λq=>asInt q.1.data λk=>if rOk k=true/\k.toNat<=Xk then some (.nd (X6 k.toNat (.fz p.1.data)),p.2)else none:=by
 unfold Z4l asInt;rfl
def Yfv(ds:List Xa)(k:List Xa->List Xa->Option α):Option α:=match ds with|[.list i,.list j]=>k i j|_=>none
theorem Yh0(i j:List Xa)(k:List Xa->List Xa->Option α):Yfv [.list i,.list j] k=k i j:=rfl
theorem Ycn(a:FA)(δ:Zg):Z7a a δ=(a δ).bind λp=>Yfv (OT.datas p.1) λas bs=>some (Zmj as bs,p.2):=by
 unfold Z7a Yfv;rfl
theorem Yhk(i:Nat)(d:Xa)(δ:Zg):gNm i d δ=some (δ.set i (some (.fz d))):=rfl
theorem Yer(i:Nat)(d:Xa)(δ:Zg):Yj6 i d δ=if Zbg d=true then some (δ.set i (some (.fz d)))else none:=rfl
theorem Ygr(δ:Zg):gNl [] δ=some δ:=rfl
theorem Yg3(g:FG)(gs:FGs)(d:Xa)(r:List Xa)(δ:Zg):gCn g gs (d :: r) δ=(g d δ).bind (gs r):=rfl
theorem Yg9(n:Nat)(gs:FGs)(ds:List Xa)(δ:Zg):gTp n gs (.tuple ds) δ=if ds.length=n then gs ds δ else none:=rfl
theorem Yib(n:Nat)(gs:FGs)(ds:List Xa)(δ:Zg):gLs n gs (.list ds) δ=if ds.length=n then gs ds δ else none:=rfl
def RS.thn(r:RS)(g:FS):RS:=match r with| .nx δ=>g δ|r=>r
theorem Zu7(δ:Zg)(g:FS):(RS.nx δ).thn g=g δ:=rfl
theorem Z1k(r:OT)(δ:Zg)(g:FS):(RS.rt r δ).thn g= .rt r δ:=rfl
theorem Yhg(δ:Zg)(g:FS):(RS.bk δ).thn g= .bk δ:=rfl
theorem Yic(δ:Zg)(g:FS):(RS.ct δ).thn g= .ct δ:=rfl
theorem Yjh(c:Str)(δ:Zg)(g:FS):(RS.ex c δ).thn g= .ex c δ:=rfl
theorem Zjt(f g:FS)(δ:Zg):Z3 f g δ=(f δ).thn g:=rfl
theorem Yhy(δ:Zg):fNx δ= .nx δ:=rfl
theorem Yeq(δ:Zg):Ykr δ= .bk δ:=rfl
theorem Ydg(δ:Zg):Yku δ= .ct δ:=rfl
theorem Yag(c:Str)(δ:Zg):Zk8 c δ= .ex c δ:=rfl
theorem Ycl(δ:Zg):Yd7 δ= .rt (.fz .none) δ:=rfl
def onO(o:Option (α×Zg))(k:α->Zg->RS):RS:=match o with|some (r,δ')=>k r δ'|none=>.bad
theorem Yr(r:α)(δ:Zg)(k:α->Zg->RS):onO (some (r,δ)) k=k r δ:=rfl
theorem Zbv(e:FE)(k:OT->Zg->RS)(δ:Zg):wE e k δ=onO (e δ) k:=by
 unfold wE onO
 cases e δ<;>rfl
def onF(x:RF)(δ:Zg)(k:OT->Zg->RS):RS:=match x with| .ok r=>k r δ| .exn c=>.ex c δ| .bad=>.bad
theorem Yhl(r:OT)(δ:Zg)(k:OT->Zg->RS):onF (.ok r) δ k=k r δ:=rfl
theorem Yiq(c:Str)(δ:Zg)(k:OT->Zg->RS):onF (.exn c) δ k= .ex c δ:=rfl
theorem Ykv(F:FD)(a:FA)(k:OT->Zg->RS)(δ:Zg):wX F a k δ=onO (a δ) λrs δ1=>onF (F (OT.datas rs)) δ1 k:=by
 unfold wX onO onF
 cases a δ with
 | none=>rfl
 | some p=>rfl
theorem Zt8(t:FT)(u w:FS)(δ:Zg):Jd t u w δ=onO (t δ) λb δ'=>if b=true then u δ' else w δ':=by
 unfold Jd onO
 cases t δ<;>rfl
theorem Z36(it:FI)(g:FG)(u:FS)(δ:Zg):Zb2 it g u δ=onO (it δ) λds δ1=>forLoop g u ds δ1:=by
 unfold Zb2 onO
 cases it δ<;>rfl
theorem Zy9(r:OT)(δ:Zg):Zwe r δ= .nx δ:=rfl
theorem Z4t(r:OT)(δ:Zg):W7 r δ= .rt r δ:=rfl
theorem Ycj(r:OT)(δ:Zg):Ygd r δ=if Zbg r.data=true then .rt (.fz r.data) δ else .bad:=rfl
theorem Z27(i:Nat)(r:OT)(δ:Zg):Zaa i r δ= .nx (δ.set i (some (.fz r.data))):=rfl
theorem Zzj(i:Nat)(r:OT)(δ:Zg):Zya i r δ=if Zbg r.data=true then .nx (δ.set i (some (.fz r.data)))else .bad:=rfl
theorem Zx9(i:Nat)(r:OT)(δ:Zg):Zbh i r δ= .nx (δ.set i (some r)):=rfl
def onD(o:Option Zg):RS:=match o with|some δ=>.nx δ|none=>.bad
theorem Yc0(δ:Zg):onD (some δ)= .nx δ:=rfl
theorem Yfu(g:FG)(r:OT)(δ:Zg):Ya0 g r δ=onD (g r.data δ):=rfl
def onT(o:Option (Option OT))(k:OT->RS):RS:=match o with|some (some t)=>k t|_=>.bad
theorem Z80(t:OT)(k:OT->RS):onT (some (some t)) k=k t:=rfl
theorem Zl8(i:Nat)(δ:Zg):Zgc i δ=onT δ[i]? λt=>.rt t (δ.set i none):=rfl
theorem Zss(i:Nat)(u:FS)(δ:Zg):Zcu i u δ=onT δ[i]? λt=>u (δ.set i (some (.fz t.data))):=rfl
def onN(o:Option (Option OT))(k:List OT->RS):RS:=match o with|some (some (.nd ts))=>k ts|_=>.bad
theorem Zzk(t:List OT)(k:List OT->RS):onN (some (some (.nd t))) k=k t:=rfl
theorem Zrz(i:Nat)(e:FE)(δ:Zg):W2 i e δ=onN δ[i]? λ_=>onO (e δ) λr δ1=>onN δ1[i]? λts=>if ts.length<Xk then .nx (δ1.set i (some (.nd (ts ++ [.fz r.data]))))else .bad:=by
 unfold W2
 generalize δ[i]? =o
 rcases o with _|_|(_|_|_|_)
 .rfl
 .rfl
 .rfl
 .show wE e _ δ=onO (e δ) _
  rw[Zbv]
  congr 1
 .rfl
 .rfl
theorem Zpe(i:Nat)(e:FE)(δ:Zg):Zch i e δ=onN δ[i]? λ_=>onO (e δ) λr δ1=>onN δ1[i]? λts=>if ts.length<Xk then .nx (δ1.set i (some (.nd (ts ++ [r]))))else .bad:=by
 unfold Zch
 generalize δ[i]? =o
 rcases o with _|_|(_|_|_|_)
 .rfl
 .rfl
 .rfl
 .show wE e _ δ=onO (e δ) _
  rw[Zbv]
  congr 1
 .rfl
 .rfl
def onI(d:Xa)(k:Int->RS):RS:=match d with| .int i=>k i|_=>.bad
theorem Ykq(i:Int)(k:Int->RS):onI (.int i) k=k i:=rfl
def onX(o:Option Nat)(k:Nat->RS):RS:=match o with|some i=>k i|_=>.bad
theorem Ykn(i:Nat)(k:Nat->RS):onX (some i) k=k i:=rfl
theorem Z4s(i:Nat)(e j:FE)(δ:Zg):Z6w i e j δ=onO (e δ) λr δ1=>onN δ1[i]? λts=>onO (j δ1) λn _=>onI n.data λk=>onX (ixN ts.length k) λj=>.nx (δ1.set i (some (.nd (ts.set j (.fz r.data))))):=by
 unfold Z6w
 rw[Zbv]
 congr 1
 funext r δ1
 generalize δ1[i]? =o
 rcases o with _|_|(_|_|_|_)
 .rfl
 .rfl
 .rfl
 .show wE j _ δ1=onO (j δ1) _
  rw[Zbv]
  congr 1
  funext n δ2
  generalize n.data=d
  cases d<;>try rfl
  show(match ixN _ _ with|some j=>_|none=>_)=onX (ixN _ _) _
  generalize ixN _ _=x
  cases x<;>rfl
 .rfl
 .rfl
def onU(o:Option OT)(k:List OT->RS):RS:=match o with|some (.nd ts)=>k ts|_=>.bad
theorem Ylk(t:List OT)(k:List OT->RS):onU (some (.nd t)) k=k t:=rfl
def onP(o:Option (Option OT))(k:List OT->RS):RS:=match o with|some (some (.tp ts))=>k ts|_=>.bad
theorem Ylc(t:List OT)(k:List OT->RS):onP (some (some (.tp t))) k=k t:=rfl
theorem Ybp(i c:Nat)(e:FE)(δ:Zg):Z1o i c e δ=onP δ[i]? λts=>onU ts[c]? λus=>onO (e δ) λr _=>if us.length<Xk then .nx (δ.set i (some (.tp (ts.set c (.nd (us ++ [.fz r.data]))))))else .bad:=by
 unfold Z1o
 generalize δ[i]? =o
 rcases o with _|_|(_|_|ts|_)
 .rfl
 .rfl
 .rfl
 .rfl
 .show(match ts[c]? with|some (.nd us)=>wE e _ δ|_=>_)=onU ts[c]? _
  generalize ts[c]? =o
  rcases o with _|(_|_|_|_)
  .rfl
  .rfl
  .show wE e _ δ=onO (e δ) _
   rw[Zbv]
  .rfl
  .rfl
 .rfl
def on2(ds:List Xa)(k:Xa->Xa->RS):RS:=match ds with|[d,e]=>k d e|_=>.bad
theorem Ykp(d e:Xa)(k:Xa->Xa->RS):on2 [d,e] k=k d e:=rfl
theorem Yf8(i j:Nat)(a:FA)(δ:Zg):Zxi i j a δ=onO (a δ) λrs δ1=>on2 (OT.datas rs) λd e=>.nx ((δ1.set i (some (.fz d))).set j (some (.fz e))):=by
 unfold Zxi onO on2
 cases a δ<;>rfl
theorem Zg3{n:Nat}{ds:List Xa}(h:ds.length=np):Jb np n S ds=(S (Zb9 n ds)).told:=by
 unfold Jb;rw[if_pos h]
theorem Z2r(δ:Zg):(RS.nx δ).told= .ok (.fz .none):=rfl
theorem Zvb(r:OT)(δ:Zg):(RS.rt r δ).told= .ok r:=rfl
theorem Yfg(c:Str)(δ:Zg):(RS.ex c δ).told= .exn c:=rfl
theorem Ygy(i j:Int):Zhz (.int i) (.int j)=some (.int (i+j)):=rfl
theorem Yla(i j:Int):gSb (.int i) (.int j)=some (.int (i-j)):=rfl
theorem Yjv(i j:Int):gLt (.int i) (.int j)=some (.bool (decide (i<j))):=rfl
theorem Yjx(i j:Int):gLe (.int i) (.int j)=some (.bool (decide (i<=j))):=rfl
theorem Ygj(i j:Int):gGt (.int i) (.int j)=some (.bool (decide (j<i))):=rfl
theorem Yf9(i j:Int):gGe (.int i) (.int j)=some (.bool (decide (j<=i))):=rfl
theorem Ze4{i j:Int}(h:Z6b i j=true):Zkh (.int i) (.int j)=some (.int (i*j)):=by
 unfold Zkh i2c;dsimp only;rw[if_pos h]
theorem Zin{i j:Int}(h:Yb4 i j=true):J6 (.int i) (.int j)=some (.int (i.fdiv j)):=by
 unfold J6 i2c;dsimp only;rw[if_pos h]
theorem Ybz{i j:Int}(h:j≠0):Zdh (.int i) (.int j)=some (.int (i.fmod j)):=by
 unfold Zdh i2c Yid;dsimp only;rw[if_pos (decide_eq_true h)]
theorem Z95{i j:Int}(h:Yev i j=true):Znz (.int i) (.int j)=some (.int (i^j.toNat)):=by
 unfold Znz i2c;dsimp only;rw[if_pos h]
theorem Zdy{m n:Nat}{x y:Int}(h:Bt m x)(k:Bt n y)(hmn:m+n<=100000000:=by decide):Z6b x y=true:=Zik.mpr (h.mulOk k hmn)
theorem Z7w{x y:Int}(h:x.natAbs<2^64):Z6b x y=true:=Zik.mpr (.of_left (intBits_le_64 (by omega) (by omega)))
theorem Z7y{x y:Int}(h:y.natAbs<2^64):Z6b x y=true:=Zik.mpr (.of_right (intBits_le_64 (by omega) (by omega)))
theorem Zim{n:Nat}{i j:Int}(h0:j≠0)(h:Bt n j)(hn:n<=9000:=by decide):Yb4 i j=true:=by
 obtain⟨h1,h2⟩:=DivOk.of (i:=i) h0 h hn
 unfold Yb4
 rw[decide_eq_true h1,decide_eq_true h2];rfl
theorem Z8k(i j:Int):gEq (.int i) (.int j)=some (.bool (decide (i=j))):=by
 show some (V4 (i==j))=_
 rw[show(i==j)=decide (i=j)from rfl]
theorem Ye1(i j:Int):gNe (.int i) (.int j)=some (.bool (!decide (i=j))):=by
 show some (V4 (!(i==j)))=_
 rw[show(i==j)=decide (i=j)from rfl]
theorem Yfd(d:Xa):gIs d .none=some (.bool (Zdr d)):=rfl
theorem Ydf(d:Xa):Z7q d .none=some (.bool (!Zdr d)):=rfl
theorem Zso(ds:List Xa)(i:Int):gIx (.list ds) (.int i)=(atI ds i).bind λx=>some (.fz x):=rfl
theorem Yj0(ds:List Xa)(i:Int):gIx (.tuple ds) (.int i)=(atI ds i).bind λx=>some (.fz x):=rfl
theorem Z0v(ds:List Xa):Zll [.list ds]=some (.int ds.length):=rfl
theorem Zug(ds:List Xa):Zll [.tuple ds]=some (.int ds.length):=rfl
theorem Ztx(i:Int):Z6x [.int i]=some (.int (i.natAbs:Int)):=by
 show some (Xl (if i<0 then -i else i))=_
 congr 2;split<;>omega
theorem Yio(i j:Int):Yk1 [.int i,.int j]=some (.int (if j>i then j else i)):=rfl
theorem Yil(i j:Int):Ylf [.int i,.int j]=some (.int (if j<i then j else i)):=rfl
theorem Yia(i:Int):Yh5 [.int i]=some (.int i):=rfl
theorem Yh8(b:Bool):Yh5 [.bool b]=some (.int (if b then 1 else 0)):=rfl
theorem Zto(ds:List Xa):Znn [.list ds]=some (.nd (ds.map OT.fz)):=rfl
theorem Z4d(ds:List Xa):Znn [.tuple ds]=some (.nd (ds.map OT.fz)):=rfl
theorem Z84(i:Int):Ybn (.int i)=some (.int (-i)):=rfl
theorem Yja(b:Bool):Ycx (.bool b)=some (.bool (!b)):=rfl
theorem Yif(b:Bool):Zys (.bool b)=some b:=rfl
theorem Yis(i:Int):Zys (.int i)=some (i !=0):=rfl
theorem Yg7:Zys .none=some false:=rfl
theorem Yjj(ds:List Xa):Zys (.list ds)=some (!ds.isEmpty):=rfl
theorem Zrc{u:FS}{ds:List Xa}(I:Nat->Zg->Prop)(h0:I 0 δ)
  (turn:∀(i:Nat) (d:Xa) (δ:Zg),ds[i]? =some d->I i δ->∃δ1 δ2,gg d δ=some δ1/\(u δ1= .nx δ2\/u δ1= .ct δ2)/\I (i+1) δ2):∃δ',forLoop gg u ds δ= .nx δ'/\I ds.length δ':=by
 induction ds generalizing δ I with
 | nil=>exact⟨δ,rfl,h0⟩
 | cons d ds ih=>
  obtain⟨δ1,δ2,e1,e2,h1⟩:=turn 0 d δ rfl h0
  obtain⟨δ',e3,h3⟩:=ih (δ:=δ2) (λi δ=>I (i+1) δ) h1 λi d' δ hd hi=>turn (i+1) d' δ (by simpa using hd) hi
  refine⟨δ',?_,h3⟩
  rw[Zho,e1]
  dsimp only
  rcases e2 with e2|e2<;>rw[e2]<;>exact e3
def Goes(r:RS)(Q:Zg->Prop):Prop:=∃δ,(r= .nx δ\/r= .ct δ)/\Q δ
theorem Goes.nx{Q:Zg->Prop}(h:Q δ):Goes (.nx δ) Q:=⟨δ,.inl rfl,h⟩
theorem Goes.ct{Q:Zg->Prop}(h:Q δ):Goes (.ct δ) Q:=⟨δ,.inr rfl,h⟩
theorem Zs3{cs:Zg}(mk:α->Xa)(f:α->OT):∀(xs:List α) (z:Option OT),(∀x∈xs,me (some (.fz (mk x)) :: cs)=some (f x,some (.fz (mk x)) :: cs)) ->
  ∃z',compLoop (gNm 0) Zdx me (xs.map mk) (z :: cs)=some (xs.map f,z' :: cs)
 | [],z,_=>⟨z,rfl⟩
 | x :: xs,z,h=>by
  obtain⟨z',e⟩:=Zs3 mk f xs (some (.fz (mk x))) λy hy=>h y (.tail _ hy)
  refine⟨z',?_⟩
  rw[Xv,compLoop]
  show(some (some (OT.fz (mk x)) :: cs)).bind _=_
  rw[Xf]
  show(some (true,some (OT.fz (mk x)) :: cs)).bind _=_
  rw[Xf,if_pos rfl,h x (.head _),Xf,e];rfl
theorem Zq1{t:FT}{cs:Zg}(mk:α->Xa)(p:α->Bool)(f:α->OT):∀(xs:List α) (z:Option OT),(∀x∈xs,t (some (.fz (mk x)) :: cs)=some (p x,some (.fz (mk x)) :: cs))->(∀x∈xs,p x=true->me (some (.fz (mk x)) :: cs)=some (f x,some (.fz (mk x)) :: cs)) ->
  ∃z',compLoop (gNm 0) t me (xs.map mk) (z :: cs)=some ((xs.filter p).map f,z' :: cs)
 | [],z,_,_=>⟨z,rfl⟩
 | x :: xs,z,ht,h=>by
  obtain⟨z',e⟩:=Zq1 mk p f xs (some (.fz (mk x))) (λy hy=>ht y (.tail _ hy)) λy hy=>h y (.tail _ hy)
  refine⟨z',?_⟩
  rw[Xv,compLoop]
  show(some (some (OT.fz (mk x)) :: cs)).bind _=_
  rw[Xf,ht x (.head _),Xf]
  dsimp only
  by_cases hp:p x=true
  .rw[if_pos hp,h x (.head _) hp,Xf,e,Ve hp];rfl
  .rw[if_neg hp,e,Vf hp]
theorem Zf6{cs:Zg}(xs:List α)(mk:α->Xa)(f:α->OT)(hi:it δ=some (xs.map mk,δ1))(hz:xs.length<=Xk)(hb:blk 1 caps δ1=none :: cs)
  (h:∀x∈xs,me (some (.fz (mk x)) :: cs)=some (f x,some (.fz (mk x)) :: cs)):Yn 1 caps it (gNm 0) Zdx me δ=some (.nd (xs.map f),δ1):=by
 unfold Yn
 rw[hi,Xf]
 dsimp only
 rw[if_pos (by rw[Xc];exact hz),hb]
 obtain⟨z',e⟩:=Zs3 (me:=me) (cs:=cs) mk f xs none h
 rw[e];rfl
theorem Ztz{t:FT}{cs:Zg}(xs:List α)(mk:α->Xa)(p:α->Bool)(f:α->OT)(hi:it δ=some (xs.map mk,δ1))(hz:xs.length<=Xk)(hb:blk 1 caps δ1=none :: cs)
  (ht:∀x∈xs,t (some (.fz (mk x)) :: cs)=some (p x,some (.fz (mk x)) :: cs)) (h:∀x∈xs,p x=true->me (some (.fz (mk x)) :: cs)=some (f x,some (.fz (mk x)) :: cs)):Yn 1 caps it (gNm 0) t me δ=some (.nd ((xs.filter p).map f),δ1):=by
 unfold Yn
 rw[hi,Xf]
 dsimp only
 rw[if_pos (by rw[Xc];exact hz),hb]
 obtain⟨z',e⟩:=Zq1 (t:=t) (me:=me) (cs:=cs) mk p f xs none ht h
 rw[e];rfl
theorem Ykf:(2<=Xk)=True:=by simp[Qc]
theorem Ylo:(1<=Xk)=True:=by simp[Qc]
theorem Yk0:(0<=Xk)=True:=by simp
theorem Ydy:(3<=Xk)=True:=by simp[Qc]
theorem Zsq(f:α->Xa)(xs:List α):(xs.map λx=>OT.fz (f x)).map OT.data=xs.map f:=by
 rw[Xr];exact XN λx _=>OT.data_fz _
theorem Z2f{j:Int}{x:α}(h0:0<=j)(h1:j<=1000000):(if rOk j=true then some x else none)=some x:=if_pos (Zq7 (by omega) h1)
theorem Z4h{i j:Int}{x:α}(h0:0<=i)(h1:i<=1000000)(h2:0<=j)(h3:j<=1000000):(if(rOk i&&rOk j)=true then some x else none)=some x:=if_pos (by rw[Zq7 (by omega) h1,Zq7 (by omega) h3];rfl)
theorem Z0d{r:RS}{k:Nat}(h:k<=1000000):(if k<Xk then r else .bad)=r:=if_pos (by rw[Qc];omega)
def EvV(e:FE)(δ:Zg)(d:Xa):Prop:=∃t,e δ=some (t,δ)/\t.data=d
def EvA(a:FA)(δ:Zg)(ds:List Xa):Prop:=∃ts,a δ=some (ts,δ)/\OT.datas ts=ds
def EvT(t:FT)(δ:Zg)(b:Bool):Prop:=t δ=some (b,δ)
def Told(F:FD)(ds:List Xa)(d:Xa):Prop:=∃t,F ds= .ok t/\t.data=d
section
variable {e a b:FE}{as:FA}{x y d:Xa}{xs ds:List Xa}{q:Bool}{t u:FT}{S':FS}{r:RS}
theorem EvV.cast{e:FE}{x y:Xa}(h:EvV e δ x)(k:x=y):EvV e δ y:=k▸h
theorem Za(h:δ[i]? =some (some (.fz d)):=by rfl):EvV (Zw i) δ d:=⟨_,by rw[Z4x,h,Z48],OT.data_fz _⟩
theorem Zdu{t:OT}(h:δ[i]? =some (some t))(hd:t.data=d):EvV (Zvn i) δ d:=⟨_,by rw[Z5p,h,Z3i],by rw[OT.data_fz,hd]⟩
theorem Zv:EvV (fC d) δ d:=⟨_,rfl,OT.data_fz _⟩
theorem Zk{g:Xa->Xa->Option Xa}(ha:EvV a δ x)(hb:EvV b δ y)(h:g x y=some d):EvV (Zh g a b) δ d:=by
 obtain⟨_,e1,d1⟩:=ha
 obtain⟨_,e2,d2⟩:=hb
 exact⟨_,by rw[Zza,e1,Xf,e2,Xf,d1,d2,h,Xf],OT.data_fz _⟩
theorem Zuv{g:Xa->Xa->Option OT}(ha:EvV a δ x)(hb:EvV b δ y)(h:g x y=some o)(hd:o.data=d):EvV (W8 g a b) δ d:=by
 obtain⟨_,e1,d1⟩:=ha
 obtain⟨_,e2,d2⟩:=hb
 exact⟨_,by rw[Z2s,e1,Xf,e2,Xf,d1,d2,h,Xf],hd⟩
theorem Wv(ha:EvV a δ x)(hb:EvV b δ y)(h:gIx x y=some (.fz d)):EvV (W8 gIx a b) δ d:=Zuv ha hb h (OT.data_fz _)
theorem Zbe{i j:Int}(ha:EvV a δ (.int i))(hb:EvV b δ (.int j)):EvV (Zh Zhz a b) δ (.int (i+j)):=Zk ha hb rfl
theorem Z0l{i j:Int}(ha:EvV a δ (.int i))(hb:EvV b δ (.int j)):EvV (Zh gSb a b) δ (.int (i-j)):=Zk ha hb rfl
theorem Z7u{g:Xa->Option Xa}(ha:EvV a δ x)(h:g x=some d):EvV (fUn g a) δ d:=by
 obtain⟨_,e1,d1⟩:=ha
 exact⟨_,by rw[Yb3,e1,Xf,d1,h,Xf],OT.data_fz _⟩
theorem Zaw(ha:EvV a δ (.bool true))(hb:EvV b δ d):EvV (Zoq a b) δ d:=by
 obtain⟨_,e1,d1⟩:=ha
 obtain⟨_,e2,d2⟩:=hb
 exact⟨_,by rw[Zue,e1,Xf,d1,Yaf,e2],d2⟩
theorem Zlq(ha:EvV a δ (.bool false)):EvV (Zoq a b) δ (.bool false):=by
 obtain⟨_,e1,d1⟩:=ha
 exact⟨_,by rw[Zue,e1,Xf,d1,Z7g],OT.data_fz _⟩
theorem Z5e(ha:EvV a δ (.bool false))(hb:EvV b δ d):EvV (fOr a b) δ d:=by
 obtain⟨_,e1,d1⟩:=ha
 obtain⟨_,e2,d2⟩:=hb
 exact⟨_,by rw[Z1e,e1,Xf,d1,Z7g,e2],d2⟩
theorem Z2n(ha:EvV a δ (.bool true)):EvV (fOr a b) δ (.bool true):=by
 obtain⟨_,e1,d1⟩:=ha
 exact⟨_,by rw[Z1e,e1,Xf,d1,Yaf],OT.data_fz _⟩
theorem Zbq{T:String}(ha:EvV a δ x)(hf:Zir x=false:=by rfl):EvV (Zhy T a) δ (.bool (Zpd T x)):=by
 obtain⟨_,e1,d1⟩:=ha
 exact⟨_,by rw[Z3f,e1,Xf,d1,if_neg (by rw[hf];decide)],OT.data_fz _⟩
theorem Zf:EvA Z5 δ []:=⟨_,rfl,Zf9⟩
theorem Zb(h:EvV e δ d)(k:EvA as δ ds):EvA (Zd e as) δ (d :: ds):=by
 obtain⟨_,e1,d1⟩:=h
 obtain⟨_,e2,d2⟩:=k
 exact⟨_,by rw[Zlt,e1,Xf,e2,Xf],by rw[Zel,d1,d2]⟩
theorem Zj(h:EvA as δ ds)(k:Told F ds d):EvV (Zo F as) δ d:=by
 obtain⟨_,e1,d1⟩:=h
 obtain⟨_,e2,d2⟩:=k
 exact⟨_,by rw[Zlg,e1,Xf,d1,e2,Yb8],d2⟩
theorem Zbl{g:List Xa->Option Xa}(h:EvA as δ ds)(k:g ds=some d):EvV (Zgl g as) δ d:=by
 obtain⟨_,e1,d1⟩:=h
 exact⟨_,by rw[Z3t,e1,Xf,d1,k,Xf],OT.data_fz _⟩
theorem Zsg{g:List Xa->Option OT}(h:EvA as δ ds)(k:g ds=some o)(hd:o.data=d):EvV (fBl g as) δ d:=by
 obtain⟨_,e1,d1⟩:=h
 exact⟨_,by rw[Z0o,e1,Xf,d1,k,Xf],hd⟩
theorem Zbb:∀ts:List OT,(OT.datas ts).length=ts.length
 | []=>by rw[Zf9];rfl
 | t :: ts=>by rw[Zel,Qh,Qh,Zbb ts]
theorem datas_map:∀ts:List OT,OT.datas ts=ts.map OT.data
 | []=>Zf9
 | t :: ts=>by rw[Zel,Xv,datas_map ts]
theorem Zhm(h:EvA as δ ds)(hl:ds.length<=1000):EvV (Zji as) δ (.tuple ds):=by
 obtain⟨ts,e1,d1⟩:=h
 have:=Zbb ts
 rw[d1]at this
 exact⟨_,by rw[Zlj,e1,Xf,if_pos (by rw[Qc];show ts.length<=_;omega)],by rw[OT.data_fz];exact congrArg _ d1⟩
theorem Zn2(h:EvA as δ ds)(hl:ds.length<=1000):EvV (Zsb as) δ (.list ds):=by
 obtain⟨ts,e1,d1⟩:=h
 have:=Zbb ts
 rw[d1]at this
 exact⟨_,by rw[Zqe,e1,Xf,if_pos (by rw[Qc];show ts.length<=_;omega)],by rw[OT.data_nd,<-datas_map,d1]⟩
theorem Zmn{b:Bool}(h:o.data= .bool b):o= .fz (.bool b):=by
 cases o with
 | fz d=>rw[OT.data_fz]at h;rw[h]
 | nd ts=>rw[OT.data_nd]at h;cases h
 | tp ts=>rw[OT.data_tp]at h;cases h
 | dc _ _ _=>rw[OT.data_dc]at h;cases h
theorem J4(h:EvV e δ (.bool p)):EvT (tV e) δ p:=by
 obtain⟨_,e1,d1⟩:=h
 unfold EvT
 rw[Yfl,e1,Xf,Zmn d1,Z8l]
theorem Ykd(h:EvV e δ d)(k:Zys d=some p):EvT (tD e) δ p:=by
 obtain⟨_,e1,d1⟩:=h
 unfold EvT
 rw[Ydu,e1,Xf,d1,k,Xf]
theorem W5(h:EvV e δ (.bool p)):EvT (tD e) δ p:=Ykd h rfl
theorem J0(h:EvT t δ p):EvT (tNo t) δ (!p):=by
 unfold EvT at h|-
 rw[Z8w,h,Xf]
theorem Z3u(h:EvT t δ true)(k:EvT u δ p):EvT (tAn t u) δ p:=by
 unfold EvT at h k|-
 rw[Z18,h,Xf,if_pos rfl,k]
theorem Z5q(h:EvT t δ false):EvT (tAn t u) δ false:=by
 unfold EvT at h|-
 rw[Z18,h,Xf,if_neg Xm]
theorem Zsw(h:EvT t δ false)(k:EvT u δ p):EvT (tO t u) δ p:=by
 unfold EvT at h k|-
 rw[Yge,h,Xf,if_neg Xm,k]
theorem Z2(h:S δ= .nx δ')(k:S' δ'=r):Z3 S S' δ=r:=by rw[Zjt,h,Zu7,k]
theorem Zmo(h:S δ= .rt o δ'):Z3 S S' δ= .rt o δ':=by rw[Zjt,h,Z1k]
theorem Z8(h:EvV e δ d):wE e (Zaa i) δ= .nx (δ.set i (some (.fz d))):=by
 obtain⟨_,e1,d1⟩:=h
 rw[Zbv,e1,Yr,Z27,d1]
theorem Z82(h:EvV e δ d):∃o,wE e W7 δ= .rt o δ/\o.data=d:=by
 obtain⟨_,e1,d1⟩:=h
 exact⟨_,by rw[Zbv,e1,Yr,Z4t],d1⟩
theorem Zdv(h:EvT t δ true)(k:S δ=r):Jd t S S' δ=r:=by
 unfold EvT at h
 rw[Zt8,h,Yr,if_pos rfl,k]
theorem Zn(h:EvT t δ false)(k:S' δ=r):Jd t S S' δ=r:=by
 unfold EvT at h
 rw[Zt8,h,Yr,if_neg (by decide),k]
def Zni(S:FS)(δ:Zg)(d:Xa):Prop:=∃o δ',S δ= .rt o δ'/\o.data=d
theorem Zr(h:S δ= .nx δ')(k:Zni S' δ' d):Zni (Z3 S S') δ d:=by
 obtain⟨o,δ2,e,hd⟩:=k
 exact⟨o,δ2,Z2 h e,hd⟩
theorem Zav(k:Zni S δ d):Zni (Z3 S S') δ d:=by
 obtain⟨o,δ2,e,hd⟩:=k
 exact⟨o,δ2,Zmo e,hd⟩
theorem Z1(h:EvV e δ d):Zni (wE e W7) δ d:=by
 obtain⟨o,e1,hd⟩:=Z82 h
 exact⟨o,δ,e1,hd⟩
theorem Zce(h:EvT t δ true)(k:Zni S δ d):Zni (Jd t S S') δ d:=by
 obtain⟨o,δ2,e,hd⟩:=k
 exact⟨o,δ2,Zdv h e,hd⟩
theorem Zu{n:Nat}(hl:xs.length=np)(k:Zni S (Zb9 n xs) d):Told (Jb np n S) xs d:=by
 obtain⟨o,δ2,e,hd⟩:=k
 exact⟨o,by rw[Zg3 hl,e,Zvb],hd⟩
def EvO(o:FO)(δ:Zg)(l:Option Int):Prop:=o δ=some (l,δ)
theorem Yk3:EvO oN δ none:=rfl
theorem Yeo{i:Int}(h:EvV e δ (.int i)):EvO (oI e) δ (some i):=by
 obtain⟨_,e1,d1⟩:=h
 unfold EvO
 rw[Ydl,e1,Xf,d1,Zwd]
theorem Ybu{lo:FO}{l h:Option Int}(he:EvV e δ (.list ds))(hl:EvO lo δ l)(hh:EvO hi δ h):EvV (fSl e lo hi) δ (.list (cutD ds l h)):=by
 obtain⟨_,e1,d1⟩:=he
 unfold EvO at hl hh
 exact⟨_,by rw[Z66,e1,Xf,hl,Xf,hh,Xf,d1,Zwx],by rw[OT.data_nd,OT.map_fz]⟩
def EvI(it:FI)(δ:Zg)(ds:List Xa):Prop:=it δ=some (ds,δ)
theorem Y6(h:EvV e δ (.list ds)):EvI (Zcd e) δ ds:=by
 obtain⟨_,e1,d1⟩:=h
 unfold EvI
 rw[Z3e,e1,Xf,d1,Zwx]
theorem Zmd{n:Nat}(h:EvA as δ [.int n])(hn:n<=1000000):EvI (iRa as) δ (Zk0 0 n):=by
 obtain⟨_,e1,d1⟩:=h
 unfold EvI
 rw[Z8o,e1,Xf,d1,Ydw,Z2f (by omega) (by omega),JG]
theorem Zqh(h:EvI it δ ds)(k:forLoop g S ds δ=r):Zb2 it g S δ=r:=by
 unfold EvI at h
 rw[Z36,h,Yr,k]
theorem Zcr{cs:Zg}(xs:List α)(mk f:α->Xa)(hi:EvI it δ (xs.map mk))(hz:xs.length<=1000000)(hb:blk 1 caps δ=none :: cs)(h:∀x∈xs,EvV me (some (.fz (mk x)) :: cs) (f x)):EvV (Yn 1 caps it (gNm 0) Zdx me) δ (.list (xs.map f)):=by
 have g:∀x,∃o:OT,x∈xs->me (some (.fz (mk x)) :: cs)=some (o,some (.fz (mk x)) :: cs)/\o.data=f x:=λx=>by
  by_cases c:x∈xs
  .obtain⟨o,h1,h2⟩:=h x c
   exact⟨o,λ_=>⟨h1,h2⟩⟩
  .exact⟨.fz .none,λz=>absurd z c⟩
 obtain⟨o,ho⟩:=V0 g
 unfold EvI at hi
 refine⟨_,Zf6 (cs:=cs) xs mk o hi (by rw[Qc];omega) hb (λx hx=>(ho x hx).1),?_⟩
 rw[OT.data_nd,Xr]
 exact congrArg _ (XN λx hx=>(ho x hx).2)
theorem Zku(h:EvV e δ d)(hi:δ[i]? =some (some (.nd ts)))(hl:ts.length<=1000000):W2 i e δ= .nx (δ.set i (some (.nd (ts ++ [.fz d])))):=by
 obtain⟨_,e1,d1⟩:=h
 rw[Zrz,hi,Zzk,e1,Yr,hi,Zzk,Z0d hl,d1]
theorem Zcl(h:e δ=some (o,δ)):wE e (Zbh i) δ= .nx (δ.set i (some o)):=by rw[Zbv,h,Yr,Zx9]
theorem Yd4(h:δ[i]? =some (some o))(hd:o.data=d):Zni (Zgc i) δ d:=⟨o,_,by rw[Zl8,h,Z80],hd⟩
theorem Zf5(h:δ[i]? =some (some o))(k:S (δ.set i (some (.fz o.data)))=r):Zcu i S δ=r:=by rw[Zss,h,Z80,k]
theorem Zty(h:EvV e δ d):wE e Zwe δ= .nx δ:=by
 obtain⟨_,e1,d1⟩:=h
 rw[Zbv,e1,Yr,Zy9]
theorem Zod{n:Nat}(hl:xs.length=np)(k:S (Zb9 n xs)= .nx δ'):Told (Jb np n S) xs .none:=⟨_,by rw[Zg3 hl,k,Z2r],OT.data_fz _⟩
theorem Told.ok{b:Bool}(h:Told F ds (.bool b)):F ds= .ok (.fz (.bool b)):=by
 obtain⟨o,e1,d1⟩:=h
 rw[e1,Zmn d1]
theorem Zyq{i:Int}(h:o.data= .int i):o= .fz (.int i):=by
 cases o with
 | fz d=>rw[OT.data_fz]at h;rw[h]
 | nd ts=>rw[OT.data_nd]at h;cases h
 | tp ts=>rw[OT.data_tp]at h;cases h
 | dc _ _ _=>rw[OT.data_dc]at h;cases h
theorem Told.int{i:Int}(h:Told F ds (.int i)):F ds= .ok (.fz (.int i)):=by
 obtain⟨o,e1,d1⟩:=h
 rw[e1,Zyq d1]
theorem Zwh(h:o.data= .none):o= .fz .none:=by
 cases o with
 | fz d=>rw[OT.data_fz]at h;rw[h]
 | nd ts=>rw[OT.data_nd]at h;cases h
 | tp ts=>rw[OT.data_tp]at h;cases h
 | dc _ _ _=>rw[OT.data_dc]at h;cases h
theorem Told.of(h:F ds= .ok o)(hd:o.data=d):Told F ds d:=⟨o,h,hd⟩
end
section
variable {e a b:FE}{as:FA}{x y d:Xa}{xs ds:List Xa}{i j:Int}{k:Nat}{q:Bool}{t u:FT}{S':FS}{r:RS}{Q:Xa->Prop}
theorem Wo(ha:EvV a δ (.int i))(hb:EvV b δ (.int j))(h:j≠0):EvV (Zh Zdh a b) δ (.int (i.fmod j)):=Zk ha hb (Ybz h)
theorem Z8c{i j:Int}(h:(decide (0<j)&&decide (j<18446744073709551616))=true):J6 (.int i) (.int j)=some (.int (i.fdiv j)):=by
 rw[XX,decide_eq_true_eq,decide_eq_true_eq]at h
 exact Zin (Zim (n:=64) (by omega) (Bt.of_lt (by omega) (by omega)))
theorem Zcj(ha:EvV a δ (.int i))(hb:EvV b δ (.int j))(h:(decide (0<j)&&decide (j<18446744073709551616))=true:=by decide):EvV (Zh J6 a b) δ (.int (i.fdiv j)):=Zk ha hb (Z8c h)
theorem Zi2(ha:EvV a δ (.int i))(hb:EvV b δ (.int j))(h:i.natAbs<2^64:=by decide):EvV (Zh Zkh a b) δ (.int (i*j)):=Zk ha hb (Ze4 (Z7w h))
theorem Zo4(ha:EvV a δ (.int i))(hb:EvV b δ (.int j))(h:j.natAbs<2^64:=by decide):EvV (Zh Zkh a b) δ (.int (i*j)):=Zk ha hb (Ze4 (Z7y h))
theorem Zh4(ha:EvV a δ (.int i))(hb:EvV b δ (.int j))(h:decide (i<j)=p):EvV (Zh gLt a b) δ (.bool p):=h▸Zk ha hb rfl
theorem Z7s(ha:EvV a δ (.int i))(hb:EvV b δ (.int j))(h:decide (j<i)=p):EvV (Zh gGt a b) δ (.bool p):=h▸Zk ha hb (Ygj _ _)
theorem Zsl(ha:EvV a δ (.int i))(hb:EvV b δ (.int j))(h:decide (j<=i)=p):EvV (Zh gGe a b) δ (.bool p):=h▸Zk ha hb (Yf9 _ _)
theorem Zcs(ha:EvV a δ (.int i))(hb:EvV b δ (.int j))(h:decide (i=j)=p):EvV (Zh gEq a b) δ (.bool p):=h▸Zk ha hb (Z8k _ _)
theorem Zoe(ha:EvV a δ (.int i))(hb:EvV b δ (.int j))(h:(!decide (i=j))=p):EvV (Zh gNe a b) δ (.bool p):=h▸Zk ha hb (Ye1 _ _)
theorem Z19(ha:EvV a δ (.int i)):EvV (fUn Ybn a) δ (.int (-i)):=Z7u ha (Z84 _)
theorem Zez{ds:List Xa}(h:EvV e δ (.list ds)):EvV (Zgl Zll (Zd e Z5)) δ (.int ds.length):=Zbl (Zb h Zf) (Z0v ds)
theorem Z0x(ha:EvV a δ (.list ds))(hb:EvV b δ (.int i))(h:atI ds i=some d):EvV (W8 gIx a b) δ d:=Wv ha hb (by rw[Zso,h];rfl)
def Zxd(S:FS)(δ:Zg)(Q:Xa->Prop):Prop:=∃d,Zni S δ d/\Q d
theorem Zn6(h:S δ= .nx δ')(k:Zxd S' δ' Q):Zxd (Z3 S S') δ Q:=k.imp λ_ k=>⟨Zr h k.1,k.2⟩
theorem Z0i(h:EvV e δ d)(k:Q d):Zxd (wE e W7) δ Q:=⟨d,Z1 h,k⟩
theorem Yk7(h:δ[k]? =some (some o))(hd:Q o.data):Zxd (Zgc k) δ Q:=⟨_,Yd4 h rfl,hd⟩
theorem Z3j{n:Nat}(hl:xs.length=np)(h:Zxd S (Zb9 n xs) Q):∃d,Told (Jb np n S) xs d/\Q d:=h.imp λ_ k=>⟨Zu hl k.1,k.2⟩
theorem Zs9(I:Nat->Zg->Prop)(hi:EvI it δ ds)(h0:I 0 δ)(turn:∀(i:Nat) (d:Xa) (δ:Zg),ds[i]? =some d->I i δ->∃δ1 δ2,g d δ=some δ1/\(S δ1= .nx δ2\/S δ1= .ct δ2)/\I (i+1) δ2)(k:∀δ',I ds.length δ'->Zxd S' δ' Q):Zxd (Z3 (Zb2 it g S) S') δ Q:=by
 obtain⟨δ',e,h⟩:=Zrc I h0 turn
 exact Zn6 (Zqh hi e) (k δ' h)
theorem Ze2(I:Nat->Zg->Prop)(hi:EvI it δ ds)(h0:I 0 δ)(turn:∀(i:Nat) (d:Xa) (δ:Zg),ds[i]? =some d->I i δ->∃δ1 δ2,g d δ=some δ1/\(S δ1= .nx δ2\/S δ1= .ct δ2)/\I (i+1) δ2)(k:∀δ',I ds.length δ'->Zni S' δ' d):Zni (Z3 (Zb2 it g S) S') δ d:=by
 obtain⟨δ',e,h⟩:=Zrc I h0 turn
 exact Zr (Zqh hi e) (k δ' h)
theorem Zg0(I:Nat->Zg->Prop)(hi:EvI it δ ds)(h0:I 0 δ)(turn:∀(i:Nat) (d:Xa) (δ:Zg),ds[i]? =some d->I i δ->∃δ1 δ2,g d δ=some δ1/\(S δ1= .nx δ2\/S δ1= .ct δ2)/\I (i+1) δ2):∃δ',Zb2 it g S δ= .nx δ'/\I ds.length δ':=by
 obtain⟨δ',e,h⟩:=Zrc I h0 turn
 exact⟨δ',Zqh hi e,h⟩
theorem Yem{m n:Nat}(h:EvA as δ [.int m,.int n])(hm:m<=1000000)(hn:n<=1000000):EvI (iRb as) δ (Zk0 m (n-m)):=by
 obtain⟨_,e1,d1⟩:=h
 unfold EvI
 rw[Z8u,e1,Xf,d1,Yd8,Z4h (by omega) (by omega) (by omega) (by omega),show((n:Int)-(m:Int)).toNat=n-m by omega]
theorem Zkq:wE (Zsb Z5) (Zbh k) δ= .nx (δ.set k (some (.nd []))):=Zcl (by rw[Zqe];rfl)
theorem W6{i:Int}(h:0<j):0<=i.fmod j:=by rw[Zfs h];exact Int.emod_nonneg _ (by omega)
theorem Jk{i:Int}(h:0<j):i.fmod j<j:=by rw[Zfs h];exact Int.emod_lt_of_pos _ h
theorem Zvu(h:δ[k]? =some (some o))(g:Zxd S (δ.set k (some (.fz o.data))) Q):Zxd (Zcu k S) δ Q:=by
 obtain⟨d,⟨o',δ2,e,hd⟩,hq⟩:=g
 exact⟨d,⟨o',δ2,Zf5 h e,hd⟩,hq⟩
theorem Zuy{es:List Xa}(h:EvA as δ ds)(hz:Z6r ds=some es):EvI (Zgk as) δ es:=by
 obtain⟨_,e1,d1⟩:=h
 unfold EvI Zgk
 rw[e1,Xf,d1,hz,Xf]
theorem Ya7{n:Nat}(hn:n<=1000000){v:Option OT}:(Z4l (fC d) (Zw 1)) [v,some (.fz (.int n))]=some (.nd (X6 n (.fz d)),[v,some (.fz (.int n))]):=by
 obtain⟨_,e1,d1⟩:=Za (δ:=[v,some (.fz (.int n))]) (i:=1) (d:=.int n)
 rw[Zps,Yfq,Xf,e1,Xf,d1,Zwd,if_pos ⟨Zq7 (by omega) (by omega),by rw[Qc];omega⟩,JG,OT.data_fz]
theorem Zxp(I:Nat->Zg->Prop){J:Zg->Prop}(hg:gg d δ=some δ1)(hi:EvI it δ1 ds)(h0:I 0 δ1)(turn:∀(i:Nat) (d:Xa) (δ:Zg),ds[i]? =some d->I i δ->∃δ1 δ2,g d δ=some δ1/\(S δ1= .nx δ2\/S δ1= .ct δ2)/\I (i+1) δ2)(hJ:∀δ',I ds.length δ'->J δ'):∃δ1 δ2,gg d δ=some δ1/\(Zb2 it g S δ1= .nx δ2\/Zb2 it g S δ1= .ct δ2)/\J δ2:=by
 obtain⟨δ',e,h⟩:=Zrc I h0 turn
 exact⟨δ1,δ',hg,.inl (Zqh hi e),hJ δ' h⟩
theorem Zhu{T:String}(ha:EvV a δ x)(h:Zpd T x=p)(hf:Zir x=false:=by rfl):EvV (Zhy T a) δ (.bool p):=(Zbq ha hf).cast (by rw[h])
theorem Zlx{a b:FE}{bs es:List Xa}{as:List Xa}(ha:EvV a δ (.list as))(hb:EvV b δ (.list bs))(hz:Zmj as bs=es):EvI (Zgk (Zd a (Zd b Z5))) δ es:=Zuy (Zb ha (Zb hb Zf)) (congrArg some hz)
theorem Told.none{F:FD}(h:Told F ds .none):F ds= .ok (.fz .none):=by
 obtain⟨o,e1,d1⟩:=h
 rw[e1,Zwh d1]
end
end L2
namespace My
open PySem L2 PySem.Spec
def Jo:FS :=
 (Z3 (wE (Zgl Z6x (Zd (Zw 0) Z5)) (Zaa 0))
  (Z3 (wE (Zgl Z6x (Zd (Zw 1) Z5)) (Zaa 1))
  (Z3 (Zkt (tV (Zh gNe (Zw 1) (fC (.int 0)))) (Z3 (wE (Zh Zdh (Zw 0) (Zw 1)) (Zaa 2))
  (Z3 (wE (Zw 1) (Zaa 0))
  (wE (Zw 2) (Zaa 1)))))
  (wE (Zw 0) W7))))
def Z4:FD:=Jb 2 3 Jo
theorem Zlv{f1 f2:Int->Int->Option OT->Zg}{t:FT}{u:FS}(ht:∀x y z,t (f1 x y z)=some (!decide (y=0),f1 x y z))(hu:∀x y z,y≠0->∃z',u (f1 x y z)= .nx (f1 y (x.fmod y) z')) :
  ∀(n:Nat) (x y:Int) (z:Option OT),0<=x->0<=y->y.toNat<n->∃z',whileLoop t u n (f1 x y z)= .nx (f1 (Q3 x y:Int) 0 z')
 | 0,_,_,_,_,_,h=>absurd h (Vo _)
 | n+1,x,y,z,hx,hy,h=>by
  unfold whileLoop
  rw[ht]
  dsimp only
  by_cases c:y=0
  .subst c
   refine⟨z,?_⟩
   simp only[decide_true,Bool.not_true,Bf,if_false]
   rw[Int.gcd_zero_right]
   congr 2
   omega
  .simp only[c,decide_false,Bool.not_false,if_true]
   obtain⟨z1,e1⟩:=hu x y z c
   rw[e1]
   dsimp only
   have hm:x.fmod y=x%y:=Zfs (by omega)
   have h1:0<=x%y:=Int.emod_nonneg x c
   have h2:x%y<y:=Int.emod_lt_of_pos x (by omega)
   obtain⟨z2,e2⟩:=Zlv (f1:=f1) (f2:=f2) ht hu n y (x.fmod y) z1 hy (by omega) (by omega)
   exact⟨z2,by rw[e2,Zz7 hx (by omega)]⟩
theorem Jj(a b:Int):Z4 [.int a,.int b]= .ok (.fz (.int (Q3 a b:Int))):=by
 obtain⟨z',e⟩:=Zlv (f1:=λx y z=>[some (.fz (.int x)),some (.fz (.int y)),z]) (f2:=λx y z=>[]) (t:=tV (Zh gNe (Zw 1) (fC (.int 0)))) (u:=Z3 (wE (Zh Zdh (Zw 0) (Zw 1)) (Zaa 2)) (Z3 (wE (Zw 1) (Zaa 0)) (wE (Zw 2) (Zaa 1)))) (λx y z=>J4 (Zoe Za Zv rfl)) (λx y z hy=>⟨_,Z2 (Z8 (Wo Za Za hy)) (Z2 (Z8 Za) (Z8 Za))⟩) ((b.natAbs:Int).toNat+1) (a.natAbs:Int) (b.natAbs:Int) none (by omega) (by omega) (by omega)
 rw[Uw,V9,V9]at e
 exact Told.int<|Zu rfl<|Zr (Z8 (Zbl (Zb Za Zf) (Ztx a)))<|Zr (Z8 (Zbl (Zb Za Zf) (Ztx b)))<|Zr (Zmu _ e (by intro z;cases z)) (Z1 Za)
def Zdj:FS :=
 (Z3 (wE (Zo Z4 (Zd (Zw 0) (Zd (Zw 1) Z5))) (Zaa 2))
  (Z3 (Jd (tV (Zh gLt (Zw 1) (fC (.int 0))))
  (wE (fUn Ybn (Zw 2)) (Zaa 2))
  fNx)
  (wE (Zji (Zd (Zh J6 (Zw 0) (Zw 2)) (Zd (Zh J6 (Zw 1) (Zw 2)) Z5))) W7)))
def Za7:FD:=Jb 2 3 Zdj
theorem Ycb{n:Nat}{t:Int}(hb:b≠0)(hB:Bt n b)(hn:n<=9000)(s:Int)(e:s=shr t b):J6 (.int t) (.int s)=some (.int (X4 t b).num)/\J6 (.int b) (.int s)=some (.int ((X4 t b).den:Int)):=by
 subst e
 rw[Zin (Zim (Z0e hb) (Z17 hb hB) hn),Zin (Zim (Z0e hb) (Z17 hb hB) hn),Z59 hb,Z5c hb]
 exact⟨rfl,rfl⟩
theorem Zp9{n:Nat}{t:Int}(hb:b≠0)(hB:Bt n b)(hn:n<=9000:=by decide):Told Za7 [.int t,.int b] (frD (X4 t b)):=by
 have fin:∀{δ:Zg} {s:Int},s=shr t b->δ[0]? =some (some (.fz (.int t)))->δ[1]? =some (some (.fz (.int b)))->δ[2]? =some (some (.fz (.int s)))->Zni (wE (Zji (Zd (Zh J6 (Zw 0) (Zw 2)) (Zd (Zh J6 (Zw 1) (Zw 2)) Z5))) W7) δ (frD (X4 t b)):=λe h0 h1 h2=>by
  obtain⟨e1,e2⟩:=Ycb hb hB hn _ e
  exact Z1 (Zhm (Zb (Zk (Za h0) (Za h2) e1) (Zb (Zk (Za h1) (Za h2) e2) Zf)) (show 2<=1000 by decide))
 have g:Told Z4 [.int t,.int b] _:=.of (Jj t b) (OT.data_fz _)
 by_cases c:b<0
 .exact Zu rfl<|Zr (Z8 (Zj (Zb Za (Zb Za Zf)) g))<|Zr (Zdv (J4 (Zh4 Za Zv (decide_eq_true c))) (Z8 (Z19 Za))) (fin (by unfold shr;rw[if_pos c]) rfl rfl rfl)
 .exact Zu rfl<|Zr (Z8 (Zj (Zb Za (Zb Za Zf)) g))<|Zr (Zn (J4 (Zh4 Za Zv (decide_eq_false c))) rfl) (fin (by unfold shr;rw[if_neg c]) rfl rfl rfl)
def Zdk:FS :=
 (wE (Zoq (Zhy "int" (Zw 0)) (fUn Ycx (Zhy "bool" (Zw 0)))) W7)
def Z9:FD:=Jb 1 1 Zdk
theorem Zdw(i:Int):Z9 [.int i]= .ok (.fz (.bool true)):=rfl
def Zd9:FS :=
 (Z3 (Jd (tO (tNo (tD (Zo Z9 (Zd (Zw 0) Z5)))) (tO (tNo (tD (Zo Z9 (Zd (Zw 1) Z5)))) (tV (Zh gEq (Zw 1) (fC (.int 0))))))
  (Zk8 "NoNumber")
  fNx)
  (wE (Zo Za7 (Zd (Zw 0) (Zd (Zw 1) Z5))) W7))
def Jt:FD:=Jb 2 2 Zd9
theorem Zpa{n:Nat}{t:Int}(hb:b≠0)(hB:Bt n b)(hn:n<=9000:=by decide):Told Jt [.int t,.int b] (frD (X4 t b)):=by
 have w:∀{i:Int},Told Z9 [.int i] (.bool true):=fun{i}=>.of (Zdw i) (OT.data_fz _)
 exact Zu rfl<|Zr (Zn (Zsw (J0 (p:=true) (W5 (Zj (Zb Za Zf) w))) (Zsw (J0 (p:=true) (W5 (Zj (Zb Za Zf) w))) (J4 (Zcs Za Zv (decide_eq_false hb))))) rfl) (Z1 (Zj (Zb Za (Zb Za Zf)) (Zp9 hb hB hn)))
def Zaq:FS :=
 (Z3 (wE (fC (.int 1)) (Zaa 1))
  (Z3 (Zb2 (Zcd (Zw 0)) (gNm 2)
  (wE (Zh Zkh (Zh J6 (Zw 1) (Zo Z4 (Zd (Zw 1) (Zd (W8 gIx (Zw 2) (fC (.int 1))) Z5)))) (W8 gIx (Zw 2) (fC (.int 1)))) (Zaa 1)))
  (wE (Zw 1) W7)))
def Ym:FD:=Jb 1 3 Zaq
def prD(p:Int×Int):Xa:=.tuple [.int p.1,.int p.2]
theorem Zxk{a B:Int}(ha:0<a)(hb:0<b)(h1:a∣B)(h2:b∣B)(hB:0<B):0<a.fdiv (Q3 a b)*b/\a∣a.fdiv (Q3 a b)*b/\b∣a.fdiv (Q3 a b)*b/\a.fdiv (Q3 a b)*b∣B:=by
 have hg:0<(Q3 a b:Int):=Zf8 (by omega)
 have d1:(Q3 a b:Int)∣a:=Int.gcd_dvd_left ..
 have d2:(Q3 a b:Int)∣b:=Int.gcd_dvd_right ..
 rw[J3 hg]
 have e:a/(Q3 a b:Int)*b=(Int.lcm a b:Int):=by
  have q:=Int.gcd_mul_lcm a b
  have h3:(Q3 a b:Int)*(Int.lcm a b:Int)=a*b:=by
   rw[<-Int.natCast_mul,q,Int.natCast_mul,Int.natAbs_of_nonneg (by omega),Int.natAbs_of_nonneg (by omega)]
  obtain⟨k,hk⟩:=d1
  have e1:a/(Q3 a b:Int)=k:=Int.ediv_eq_of_eq_mul_right (by omega) hk
  rw[e1]
  apply Int.eq_of_mul_eq_mul_left (a:=(Q3 a b:Int)) (by omega)
  rw[h3,<-Int.mul_assoc,<-hk]
 rw[e]
 refine⟨?_,Int.dvd_lcm_left ..,Int.dvd_lcm_right ..,Int.coe_lcm_dvd h1 h2⟩
 have:Int.lcm a b≠0:=by
  rw[Ne,Int.lcm_eq_zero_iff]
  omega
 omega
theorem Zns{n:Nat}{a B:Int}(hB:0<B)(h:a∣B)(b:Bt n B):Bt n a:=by
 refine Bt.of_le b ?_
 have:=Int.natAbs_dvd_natAbs.mpr h
 exact Nat.le_of_dvd (by omega) this
theorem Zh7{n:Nat}{B:Int}(hB:0<B)(bB:Bt n B)(hn:n<=9000:=by decide)(ps:List (Int×Int))(h:∀p∈ps,0<p.2/\p.2∣B) :
  ∃m,Told Ym [.list (ps.map prD)] (.int m)/\0<m/\(∀p∈ps,p.2∣m)/\m∣B:=by
 have key:∃d,Told Ym [.list (ps.map prD)] d/\∃m,d= .int m/\0<m/\(∀p∈ps,p.2∣m)/\m∣B:=by
  refine Z3j rfl<|Zn6 (Z8 Zv)<|Zs9 (ds:=ps.map prD) (λi δ=>∃m z,δ=[some (.fz (.list (ps.map prD))),some (.fz (.int m)),z]/\0<m/\(∀j p,j<i->ps[j]? =some p->p.2∣m)/\m∣B) (Y6 Za) ⟨1,none,rfl,by decide,λj p hj=>absurd hj (Vo j),Int.one_dvd _⟩ (λi d δ hd hi=>?_) λδ' hi=>?_
  .obtain⟨m,z,hδ,h1,h2,h3⟩:=hi
   subst hδ
   rw[Xj]at hd
   cases e:ps[i]? with
   | none=>rw[e]at hd;cases hd
   | some p=>
    rw[e]at hd
    cases hd
    obtain⟨q1,q2⟩:=h p (X5 e)
    obtain⟨s1,s2,s3,s4⟩:=Zxk h1 q1 h3 q2 hB
    have g0:0<(Q3 m p.2:Int):=Zf8 (by omega)
    have bg:Bt n (Q3 m p.2:Int):=Zns hB (Int.dvd_trans (Int.gcd_dvd_right ..) q2) bB
    have bm:Bt n (m.fdiv (Q3 m p.2)):=by
     rw[J3 g0]
     exact Bt.of_le (Zns hB h3 bB) (Int.natAbs_ediv_le_natAbs _ _)
    have at1:∀{δ:Zg},δ[2]? =some (some (.fz (prD p)))->EvV (W8 gIx (Zw 2) (fC (.int 1))) δ (.int p.2):=λh=>Wv (Za h) Zv rfl
    refine⟨_,_,rfl,.inl (Z8 (Zk (Zk Za (Zj (Zb Za (Zb (at1 rfl) Zf)) (.of (Jj m p.2) (OT.data_fz _))) (Zin (Zim (by omega) bg hn))) (at1 rfl) (Ze4 (Zdy bm (Zns hB q2 bB) (by omega))))),_,_,rfl,s1,λj p' hj hp=>?_,s4⟩
    by_cases z:j=i
    .subst z
     rw[e]at hp;cases hp
     exact s3
    .exact Int.dvd_trans (h2 j p' (by omega) hp) s2
  .obtain⟨m,z,rfl,h1,h2,h3⟩:=hi
   refine Z0i Za ⟨m,rfl,h1,λp hp=>?_,h3⟩
   obtain⟨j,hj⟩:=VD hp
   exact h2 j p (by have:=(Xi.mp hj).1;rwa[Xc]) hj
 obtain⟨d,h,m,rfl,hm⟩:=key
 exact⟨m,h,hm⟩
def Zfk:FS :=
 (Z3 (wE (fC (.int 1)) (Zaa 1))
  (Z3 (Zb2 (Zcd (Zw 0)) (gNm 2)
  (wE (Zo Ym (Zd (W8 Ylh (Zsb (Zd (Zji (Zd (fC (.int 1)) (Zd (Zw 1) Z5))) Z5)) (Zw 2)) Z5)) (Zaa 1)))
  (wE (Zw 1) W7)))
def Zpi:FD:=Jb 1 3 Zfk
def scI(m:Int)(q:Rat):Int:=q.num*(m/(q.den:Int))
theorem Ya1{m:Int}(h:(q.den:Int)∣m):(scI m q:Rat)=q*(m:Rat):=by
 obtain⟨k,rfl⟩:=h
 unfold scI
 rw[Int.mul_ediv_cancel_left _ (Zwt q)]
 rw[Rat.intCast_mul,Rat.intCast_mul,Yk9,Rat.mul_assoc]
def Zc9:FS :=
 (wE (Yn 1 [0] (Zcd (Zw 1)) (gNm 0) Zdx (Zh Zkh (W8 gIx (Zw 0) (fC (.int 0))) (Zh J6 (Zw 1) (W8 gIx (Zw 0) (fC (.int 1)))))) W7)
def Jg:FD:=Jb 2 2 Zc9
theorem Znc{n:Nat}{m:Int}(hm:0<m)(bm:Bt n m)(r:List Rat)(hz:r.length<=1000)(h:∀q∈r,(q.den:Int)∣m/\Bt n q.num)(hn:n<=9000:=by decide) :
  Told Jg [.int m,Zjx r] (.list (r.map λq=>.int (scI m q))) :=
 Zu rfl<|Z1<|Zcr (cs:=[some (.fz (.int m))]) r frD (λq=>.int (scI m q)) (Y6 Za) (by omega) rfl λq hq=>by
  obtain⟨h1,h2⟩:=h q hq
  refine(Zk (Wv (d:=.int q.num) Za Zv rfl) (Zk Za (Wv (d:=.int (q.den:Int)) Za Zv rfl) (Zin (Zim (Zwt q) (Zns hm h1 bm) hn))) (Ze4 ?_)).cast ?_
  .rw[J3 (Zbo q)]
   exact Zdy h2 (Bt.of_le bm (Int.natAbs_ediv_le_natAbs _ _)) (by omega)
  .rw[J3 (Zbo q)];rfl
def Zhb:FS :=
 (wE (Yn 1 [0] (Zcd (Zw 1)) (gNm 0) Zdx (Zo Jg (Zd (Zw 1) (Zd (Zw 0) Z5)))) W7)
def Zr1:FD:=Jb 2 2 Zhb
def Zd1:FS :=
 (Z3 (wE (Zsb Z5) (Zbh 1))
  (Z3 (Zb2 (iRa (Zd (Zw 0) Z5)) (gNm 2)
  (Zb2 (iRb (Zd (Zh Zhz (Zw 2) (fC (.int 1))) (Zd (Zw 0) Z5))) (gNm 3)
  (W2 1 (Zji (Zd (Zw 2) (Zd (Zw 3) Z5))))))
  (Zgc 1)))
def Y9:FD:=Jb 1 4 Zd1
def Zz(n:Nat):List (Nat×Nat):=(Xz n).flatMap λi=>(Xz (n-(i+1))).map λj=>(i,i+1+j)
def ptD(p:Nat×Nat):Xa:=.tuple [.int p.1,.int p.2]
theorem Zb7{n:Nat}{p:Nat×Nat}(h:p∈Zz n):p.1<p.2/\p.2<n:=by
 unfold Zz at h
 obtain⟨i,hi,hp⟩:=List.mem_flatMap.mp h
 obtain⟨j,hj,rfl⟩:=Xp.mp hp
 have:=Qn.mp hi
 have:=Qn.mp hj
 dsimp only
 omega
theorem Jm{n:Nat}(h:i<j)(hj:j<n):(i,j)∈Zz n:=by
 unfold Zz
 exact List.mem_flatMap.mpr ⟨i,Qn.mpr (by omega),Xp.mpr ⟨j-(i+1),Qn.mpr (by omega),by congr 1;omega⟩⟩
def Zj3(n i:Nat):List (Nat×Nat):=(Xz i).flatMap λi=>(Xz (n-(i+1))).map λj=>(i,i+1+j)
theorem Zfx(n:Nat):∀i,(Zj3 n i).length<=i*n
 | 0=>by simp[Zj3]
 | i+1=>by
  have:=Zfx n i
  unfold Zj3 at this|-
  rw[List.range_succ,List.flatMap_append,X7]
  simp only[List.flatMap_cons,List.flatMap_nil,QX,Xc,XD]
  have e:(i+1)*n=i*n+n:=by rw[Nat.succ_mul]
  omega
theorem Zrr(n i:Nat):Zj3 n (i+1)=Zj3 n i ++ (Xz (n-(i+1))).map λj=>(i,i+1+j):=by
 unfold Zj3;rw[List.range_succ,List.flatMap_append];simp
theorem Zfi(n:Nat)(hn:n<=1000):Told Y9 [.int n] (.list ((Zz n).map ptD)):=by
 refine Zu rfl<|Zr Zkq<|Ze2 (ds:=Zk0 0 n) (λi δ=>∃z1 z2,δ=[some (.fz (.int n)),some (.nd (((Zj3 n i).map ptD).map OT.fz)),z1,z2]) (Zmd (Zb Za Zf) (by omega)) ⟨_,_,rfl⟩ (λi d δ hd h=>?_) λδ' h=>?_
 .obtain⟨z1,z2,rfl⟩:=h
  obtain⟨hi,rfl⟩:=Zep hd
  rw[UW]
  have ln:=Zfx n i
  have l2:i*n<=999*1000:=Nat.mul_le_mul (by omega) hn
  refine Zxp (ds:=Zk0 ((i+1:Nat):Int) (n-(i+1))) (λj δ=>∃z,δ=[some (.fz (.int n)),some (.nd (((Zj3 n i ++ (Xz j).map λj=>(i,i+1+j)).map ptD).map OT.fz)),some (.fz (.int i)),z]) rfl (Yem (m:=i+1) (Zb (EvV.cast (Zbe Za Zv) rfl) (Zb Za Zf)) (by omega) (by omega)) ⟨z2,by rw[List.range_zero,List.map_nil,QX];rfl⟩ (λj d δ hd h=>?_) λδ' h=>?_
  .obtain⟨z,rfl⟩:=h
   obtain⟨hj,rfl⟩:=Zep hd
   refine⟨_,_,rfl,.inl (Zku (Zhm (Zb Za (Zb Za Zf)) (show 2<=1000 by decide)) rfl (by rw[Xc,Xc,X7,Xc,XD];omega)),some (.fz (.int (((i+1:Nat):Int)+j))),?_⟩
   rw[List.range_succ]
   simp only[Qj,JW]
   rfl
  .obtain⟨z,rfl⟩:=h
   rw[Zff,<-Zrr]
   exact⟨_,_,rfl⟩
 .obtain⟨z1,z2,rfl⟩:=h
  rw[Zff]
  exact Yd4 rfl (by rw[OT.data_nd,OT.map_fz];rfl)
end My
namespace My
open PySem L2 PySem.Spec
def Zbp:FS :=
 (Z3 (Jd (tV (Zh gLt (Zw 1) (Zgl Zll (Zd (Zw 0) Z5))))
  (wE (W8 gIx (Zw 0) (Zw 1)) W7)
  fNx)
  (wE (fC (.int 0)) W7))
def Yi:FD:=Jb 2 2 Zbp
def Zjs:FS :=
 (Z3 (Jd (tV (Zh gEq (Zh Zdh (Zh J6 (Zw 0) (fC (.int 7))) (fC (.int 8))) (fC (.int 3))))
  (wE (Zh Zhz (Zh Zhz (Zw 2) (fC (.int 1))) (Zh Zdh (Zh J6 (Zw 0) (fC (.int 56))) (Zh gSb (Zw 3) (Zw 2)))) W7)
  fNx)
  (wE (Zh Zhz (Zw 1) (Zh Zdh (Zw 0) (Zh gSb (Zh Zhz (Zw 2) (fC (.int 1))) (Zw 1)))) W7))
def Zt1:FD:=Jb 4 4 Zjs
def Zjf:FS :=
 (Z3 (wE (Zh Zdh (Zh Zkh (Zh Zhz (Zh Zhz (Zh Zdh (Zw 0) (fC (.int 2147483629))) (Zh Zkh (fC (.int 9973)) (Zw 1))) (fC (.int 5))) (fC (.int 48271))) (fC (.int 2147483647))) (Zaa 2))
  (Z3 (wE (Zh Zdh (Zh Zkh (Zw 2) (Zw 2)) (fC (.int 2147483587))) (Zaa 2))
  (wE (Zh J6 (Zh Zdh (Zh Zkh (Zh Zhz (Zw 2) (Zh Zkh (fC (.int 7919)) (Zw 1))) (fC (.int 16807))) (fC (.int 2147483563))) (fC (.int 8))) W7)))
def Zju:FD:=Jb 2 3 Zjf
def Zf2:FS :=
 (Z3 (wE (Zsb Z5) (Zbh 2))
  (Z3 (wE (Zw 0) (Zaa 3))
  (Z3 (Zb2 (iRa (Zd (Zw 1) Z5)) (gNm 4)
  (Z3 (wE (Zo Zju (Zd (Zw 0) (Zd (Zw 4) Z5))) (Zaa 5))
  (Z3 (Jd (tV (Zh gGe (Zw 0) (Zh Znz (fC (.int 10)) (fC (.int 18)))))
  (wE (Zh Zdh (Zw 3) (fC (.int 720720))) (Zaa 5))
  fNx)
  (Z3 (wE (Zh J6 (Zw 3) (fC (.int 720720))) (Zaa 3))
  (W2 2 (Zw 5))))))
  (Zgc 2))))
def Zrl:FD:=Jb 2 6 Zf2
def Zx(p:List Int):Xa:=.list (p.map Xl)
theorem Zzh{p:List Int}{i:Int}(h0:0<=i)(h1:i<p.length):atI (p.map Xl) i=some (.int (p.getD i.toNat 0)):=by
 rw[Zn0 h0,Xj,Xx (by omega)]
 simp[Xq,Xx (show i.toNat<p.length by omega)]
theorem Zng{a b:FE}{p:List Int}{i:Int}(ha:EvV a δ (Zx p))(hb:EvV b δ (.int i))(h0:0<=i)(h1:i<p.length):EvV (W8 gIx a b) δ (.int (p.getD i.toNat 0)):=Z0x ha hb (Zzh h0 h1)
theorem Zei{a:FE}{p:List Int}(ha:EvV a δ (Zx p)):EvV (Zgl Zll (Zd a Z5)) δ (.int p.length):=by
 have:=Zez (ds:=p.map Xl) ha
 rwa[Xc]at this
theorem Ygx:Znz (.int 10) (.int 18)=some (.int 1000000000000000000):=rfl
theorem Zkw(ns:List Int){k:Int}(h0:0<=k):∃c,Yi [Zx ns,.int k]= .ok (.fz (.int c)):=by
 by_cases c:k<ns.length
 .exact⟨_,Told.int<|Zu rfl<|Zav (Zce (J4 (Zh4 Za (Zei Za) (decide_eq_true c))) (Z1 (Zng Za Za h0 c)))⟩
 .exact⟨_,Told.int<|Zu rfl<|Zr (Zn (J4 (Zh4 Za (Zei Za) (decide_eq_false c))) rfl) (Z1 Zv)⟩
theorem Zq8{e:FE}{vs:List Int}{v:Int}(h:EvV e δ (.int v))(hi:δ[i]? =some (some (.nd (vs.map λv=>.fz (.int v)))))(hl:vs.length<=1000000):W2 i e δ= .nx (δ.set i (some (.nd ((vs ++ [v]).map λv=>.fz (.int v))))):=by
 rw[Zku h hi (by rw[Xc];exact hl),Qj];rfl
theorem Zyt(vs:List Int):(OT.nd (vs.map λv=>OT.fz (.int v))).data=Zx vs:=by rw[OT.data_nd,Zsq];rfl
end My
namespace L2
open PySem PySem.Spec PyProof.Rows
def Zy8:List Xa->Option OT:=λds=>match ds with|[d]=>(Zhv d).map λes=>.fz (.tuple es)|_=>none
def Z9k:List Xa->(OT->Prop)->Prop:=λds k=>n1 (λd=>match Zhv d with|some es=>k (.fz (.tuple es))|none=>False) ds
theorem Zvk:PN G (Z1s G) Z9k:=λH L xs ds k Q hx h kk=>by
 obtain⟨v,d,rfl,rfl,q,h⟩:=hx.one h
 have nw:∀{xs:List V} {es:List Xa},Das G H L xs es->k (.fz (.tuple es))->∀p,H p=none->Q (.ref p) (upd H p (.tup xs)):=λr h p hp=>
  kk _ _ _ [] (Ye hp _) (.fz (.tup Zy ((r.same (Ye hp _)).wide λa l _=>⟨.inl l,λm=>nomatch m⟩))) .nil (λa m=>nomatch m) h
 cases q with
 | lst l e r=>exact⟨_,_,rfl,.inl ⟨.inl e,nw r h⟩⟩
 | tup e r=>exact⟨_,_,rfl,.inr ⟨.inl (.inl e),kk H _ _ [] (Same.refl H) (.fz (.tup e (r.wide λa l _=>⟨.inl l,λm=>nomatch m⟩))) .nil (λa m=>nomatch m) h⟩⟩
 | scr ks=>exact⟨_,_,rfl,.inl ⟨ks.sq,nw (Das.ints _) h⟩⟩
 | _=>exact h.elim
theorem Z1n:∀(ds:List Xa) (r:OT) (k:OT->Prop),Zy8 ds=some r->k r->Z9k ds k:=λds r k h hk=>by
 unfold Zy8 at h
 split at h
 case h_2=>cases h
 rename_i d
 show match Zhv d with|some es=>k (.fz (.tuple es))|none=>False
 cases e:Zhv d with
 | none=>rw[e]at h;cases h
 | some es=>rw[e]at h;cases h;exact hk
end L2
variable {S':FS}{B:Int}{z:Str}{cs:Zg}
namespace L2
open PySem PySem.Spec PyProof.Rows
section
variable {a b:Expr}{pos:Pos}
theorem Ybq{n:Int}{t:Tok}(hg:Gl X x)(hm:X.mg x=some (.int n t))(hdb:(x==("__debug__" : Str))=false:=by decide):ME X io true true (.Name x pos) (mC (.int n)) :=
 ⟨_,Ztu (v:=.int n) hg hm ⟨t,rfl⟩ hdb,λC H σ δ fp ex K Q R h k=>k H (.int n) _ δ fp [] (.fz R (.refl _ _ _ _) (.int n)) h⟩
theorem Z93{t:Tok}(hg:Gl X x)(hm:X.mg x=some (.str z t))(hdb:(x==("__debug__" : Str))=false:=by decide):ME X io true true (.Name x pos) (mC (.str z)) :=
 ⟨_,Ztu (v:=.str z) hg hm ⟨t,rfl⟩ hdb,λC H σ δ fp ex K Q R h k=>k H (.str z) _ δ fp [] (.fz R (.refl _ _ _ _) (.str z)) h⟩
end
def Zkk:List Xa->Option (List Str)
 | []=>some []
 | .str x :: ds=>(Zkk ds).map (x :: ·)
 | _ :: _=>none
theorem Zip:∀(ts:List Str),Zkk (ts.map QT)=some ts
 | []=>rfl
 | t :: ts=>by rw[Xv,Zkk,Zip ts];rfl
theorem Das.strs:∀{xs:List V} {ds:List Xa} {ts:List Str},Das G H L xs ds->Zkk ds=some ts->xs=ts.map V.str
 | _,[],_,.nil,h=>by cases h;rfl
 | _,d :: ds,_,.cons h r,e=>by
  cases d with
  | str x=>
   rw[Zkk]at e
   obtain⟨ts,e1,rfl⟩:=Q4.mp e
   cases h
   rw[r.strs e1];rfl
  | _=>cases e
theorem Zn9:∀{ts:List Str} {us:List Xe},Vals (ts.map V.str) us->∃l:List (Str×Tok),us=strValues l/\l.map (·.1)=ts
 | [],_,r=>by cases r;exact⟨[],rfl,rfl⟩
 | t :: ts,_,r=>by
  rw[Xv]at r
  cases r with
  | cons h r=>
   obtain⟨k,rfl⟩:=h
   obtain⟨l,rfl,rfl⟩:=Zn9 r
   exact⟨(t,k) :: l,rfl,rfl⟩
def rJoin(K:Xb):V->List V->Hp->VK->Prop:=λx vs H Q=>∃sep b ts,x= .str sep/\vs=[.ref b]/\SqL K H b (ts.map V.str)/\JoinOk sep ts=true/\Q (.str (V3 sep ts)) H
theorem Zk9(hK:X.K=K):MtR X "str.join" (rJoin K):=by
 intro pins s σ H x vs v us Q I rx rv h
 obtain⟨sep,b,ts,rfl,rfl,hb,ok,q⟩:=h
 obtain⟨t,rfl⟩:=rx
 obtain⟨u,rfl,ru⟩:=rv.one
 cases ru
 obtain⟨its,n,r,hl,o,e1,e2,e3,e4⟩:=I.lstQ hK hb
 obtain⟨l,rfl,hl2⟩:=Zn9 r
 exact SC.join (l:=l) (texts:=ts) ⟨o,e1,e2,n,e4⟩ hl2 ok λt' k=>⟨.str _,H,I.tok k,⟨t',rfl⟩,q⟩
def Zfj(z y:Str):Bool:=decide (z.length<=Xk)&&(decide ((Qy z y).length<=Xk)&& !(y.length==0))
def Z16:V->List V->Hp->VK->Prop:=λx vs H Q=>∃z y,x= .str z/\vs=[.str y]/\Zfj z y=true/\∀p,H p=none->Q (.ref p) (upd H p (.lst ((Qy z y).map V.str)))
theorem Zwo:∀(l:List (Str×Tok)),Vals ((l.map (·.1)).map V.str) (strValues l)
 | []=>.nil
 | p :: l=>.cons ⟨p.2,rfl⟩ (Zwo l)
theorem Zek:MtR X "str.split" Z16:=by
 intro pins s σ H x vs v us Q I rx rv h
 obtain⟨z,y,rfl,rfl,ok,q⟩:=h
 obtain⟨t,rfl⟩:=rx
 obtain⟨w,rfl,ru⟩:=rv.one
 obtain⟨u,rfl⟩:=ru
 unfold Zfj at ok
 rw[XX,XX,decide_eq_true_eq,decide_eq_true_eq,Bool.not_eq_true']at ok
 obtain⟨z1,z2,hy⟩:=ok
 have fin:∀(l:List (Str×Tok)) (tk:Nat),l.map (·.1)=Qy z y->EP X pins σ Q (.ref s.heap.objs.size) { s with heap:=s.heap.push { cls:=.type "list",data:=.seq (strValues l).toArray },toks:=tk }:=λl tk hl=>by
  refine⟨.ref s.heap.objs.size,_,I.laid (a:=s.heap.objs.size) (t':=tk) (o:=.lst ((Qy z y).map V.str)) (λ_ _ q=>Xh _ q) (XC _) ⟨by rw[Xc];exact z2,strValues l,_,by rw[<-hl];exact Zwo l,XQ _ rfl⟩,rfl,q _ (I.hok.fresh (XC _))⟩
 cases h1:(decide (z.length<y.length)||decide (BR z<BR y))
 .cases hf:(QJ z y 0 z.length (z.length+1)).isEmpty
  .have es:Qy z y=Builtin.Str.partsBetween z (QJ z y 0 z.length (z.length+1)) y.length:=(if_neg (ne_true_of_eq_false h1)).trans (if_neg (ne_true_of_eq_false hf))
   refine call_meets Bl (typeIs_str _ _ _) F.entry_str_split (F.args_str_split_2 _ _) (meets_str_split_sep z y t u h1 hy hf z1 (es▸z2)) ?_
   show wants _ _ _ { s with toks:=_,heap:=s.heap.push { cls:=.type "list",data:=.seq (strsFrom s.toks (Builtin.Str.partsBetween z (QJ z y 0 z.length (z.length+1)) y.length)).toArray } }
   rw[strsFrom_eq]
   exact fin (numbered s.toks _) _ ((numbered_texts _ _).trans es.symm)
  .exact call_meets Bl (typeIs_str _ _ _) F.entry_str_split (F.args_str_split_2 _ _) (meets_str_split_not_found z y t u h1 hy hf) (fin [(z,t)] s.toks ((if_neg (ne_true_of_eq_false h1)).trans (if_pos hf)).symm)
 .exact call_meets Bl (typeIs_str _ _ _) F.entry_str_split (F.args_str_split_2 _ _) (meets_str_split_cannot_occur z y t u h1) (fin [(z,t)] s.toks (if_pos h1).symm)
section
variable {o:Expr}{mo:MEt}{r:V->List V->Hp->VK->Prop}
def PMs(G:Xb)(r:V->List V->Hp->VK->Prop)(g:Str->List Xa->Option Xa):Prop:=∀(H:Hp) (L:Addr->Prop) (z:Str) (xs:List V) (ds:List Xa) (d:Xa) (Q:VK),Das G H L xs ds->g z ds=some d->(∀v,ScD v d->Q v H)->r (.str z) xs H Q
def PM(G:Xb)(r:V->List V->Hp->VK->Prop)(g:Str->List Xa->Option OT):Prop:=∀(H:Hp) (L:Addr->Prop) (z:Str) (xs:List V) (ds:List Xa) (d:OT) (Q:VK),Das G H L xs ds->g z ds=some d->(∀H' v new,Same H H'->Own G H' (λa=>(L a\/H a=none)/\a∉new) v d new->new.Nodup->(∀a∈new,H a=none)->Q v H')->r (.str z) xs H Q
def Ye5(g:Str->List Xa->Option Xa)(mo:MEt)(mr:MAt):MEt:=λδ K=>mo δ λro δ1=>∃z,ro.data= .str z/\mr δ1 λrs δ2=>∃d,g z (OT.datas rs)=some d/\K (.fz d) δ2
def Yfp(g:Str->List Xa->Option OT)(mo:MEt)(mr:MAt):MEt:=λδ K=>mo δ λro δ1=>∃z,ro.data= .str z/\mr δ1 λrs δ2=>∃d,g z (OT.datas rs)=some d/\K d δ2
theorem Da.strInv(h:Da G H L v (.str z)):v= .str z:=by cases h;rfl
theorem Yll{g:Str->List Xa->Option Xa}{t:TA}(P:PMs G r g)(so:SE G io p c to mo)(sa:SA G io p' c' t mr):SE G io (p&&p') true (tBM G "str" r to t) (Ye5 g mo mr):=λC H σ δ fp ex K Q R h kk=>
 so C H σ δ fp ex _ _ R h λH1 v ro δ1 fp1 new1 r1 h1=>by
  obtain⟨z,hz,h1⟩:=h1
  have q:=r1.da R
  rw[hz]at q
  cases q.strInv
  exact⟨rfl,sa C H1 σ δ1 fp1 ex _ _ r1.base h1 λH2 vs rs δ2 fp2 new2 r2 h2=>by
   obtain⟨d,e,h2⟩:=h2
   exact P H2 _ z vs _ d _ (r2.das r1.base) e λv sc=>kk H2 v _ δ2 fp2 [] (.fz r2.base (r1.stp.trans r2.stp) sc.da) h2⟩
theorem Yk6{g:Str->List Xa->Option OT}{t:TA}(P:PM G r g)(so:SE G io p c to mo)(sa:SA G io p' c' t mr):SE G io (p&&p') c' (tBM G "str" r to t) (Yfp g mo mr):=λC H σ δ fp ex K Q R h kk=>
 so C H σ δ fp ex _ _ R h λH1 v ro δ1 fp1 new1 r1 h1=>by
  obtain⟨z,hz,h1⟩:=h1
  have q:=r1.da R
  rw[hz]at q
  cases q.strInv
  exact⟨rfl,sa C H1 σ δ1 fp1 ex _ _ r1.base h1 λH2 vs rs δ2 fp2 new2 r2 h2=>by
   obtain⟨d,e,h2⟩:=h2
   exact P H2 _ z vs _ d _ (r2.das r1.base) e λH' v new s ow nd hn=>kk H' v d δ2 fp2 new (RE.tree R r2.base (r1.stp.trans r2.stp) s hn nd ow) h2⟩
theorem Zz6{g:Str->List Xa->Option Xa}(P:PMs X.K r g)(slot:Slot "str" name id)(hty:typeOf (.builtin id)=pure (.type "method_descriptor"))(hm:MtR X id r)(ho:ME X io p c o mo)(ha:MA X io p' c' (e :: es) mr)
  (hbase:Ua o name X.env (eval o X.env)=eval o X.env:=by rfl)
  (hfew:((Bg cpos (Xw (e :: es) X.env)).all (λx=>!x.1)&&(backToKw cpos (UT [] X.env)).all (λx=>x.1.isSome)
   &&decide ((e :: es).length+([]:List V8).length+(if([]:List V8).isEmpty then 0 else 1)<30))=true:=by rfl)
  (hline:(apos.endLine==cpos.line)=true:=by rfl) (hs:Xw (e :: es) X.env=(false,eval e X.env) :: Xw es X.env:=by rfl) (hplain:(Bg cpos (Xw es X.env)).any (·.1)=false:=by rfl) :
  ME X io (p&&p') true (.Call (.Attribute o name apos) (e :: es) [] cpos) (Ye5 g mo mr):=by
 obtain⟨_,O,so⟩:=ho
 obtain⟨_,A,sa⟩:=ha
 exact⟨_,Zzx PySem.F.plainAttrs_str slot hty hm O A hbase hfew hline hs hplain,Yll P so sa⟩
theorem Zsi{g:Str->List Xa->Option OT}(P:PM X.K r g)(slot:Slot "str" name id)(hty:typeOf (.builtin id)=pure (.type "method_descriptor"))(hm:MtR X id r)(ho:ME X io p c o mo)(ha:MA X io p' c' (e :: es) mr)
  (hbase:Ua o name X.env (eval o X.env)=eval o X.env:=by rfl)
  (hfew:((Bg cpos (Xw (e :: es) X.env)).all (λx=>!x.1)&&(backToKw cpos (UT [] X.env)).all (λx=>x.1.isSome)
   &&decide ((e :: es).length+([]:List V8).length+(if([]:List V8).isEmpty then 0 else 1)<30))=true:=by rfl)
  (hline:(apos.endLine==cpos.line)=true:=by rfl) (hs:Xw (e :: es) X.env=(false,eval e X.env) :: Xw es X.env:=by rfl) (hplain:(Bg cpos (Xw es X.env)).any (·.1)=false:=by rfl) :
  ME X io (p&&p') c' (.Call (.Attribute o name apos) (e :: es) [] cpos) (Yfp g mo mr):=by
 obtain⟨_,O,so⟩:=ho
 obtain⟨_,A,sa⟩:=ha
 exact⟨_,Zzx PySem.F.plainAttrs_str slot hty hm O A hbase hfew hline hs hplain,Yk6 P so sa⟩
def Zh0:Str->List Xa->Option Xa:=λz ds=>match ds with
 | [.list es]=>(Zkk es).bind λts=>if JoinOk z ts=true then some (.str (V3 z ts))else none
 | _=>none
theorem Zmb:PMs G (rJoin G) Zh0:=λH L z xs ds d Q hx h kk=>by
 unfold Zh0 at h
 split at h
 case h_2=>cases h
 rename_i es
 obtain⟨ts,h1,h⟩:=bs h
 split at h
 case isFalse=>cases h
 rename_i ok
 cases h
 cases hx with
 | cons q r0=>
  cases r0
  cases q with
  | lst l e r=>exact⟨z,_,ts,rfl,rfl,.inl (r.strs h1▸e),ok,kk _ (.str _)⟩
  | scr ks=>
   rename_i a ns
   cases ns with
   | nil=>cases h1;exact⟨z,_,[],rfl,rfl,ks.sq,ok,kk _ (.str _)⟩
   | cons n ns=>cases h1
def Zae:Str->List Xa->Option OT:=λz ds=>match ds with
 | [.str y]=>if Zfj z y=true then some (.nd (((Qy z y).map QT).map OT.fz))else none
 | _=>none
theorem Zrn:∀(ts:List Str),Das G H L (ts.map V.str) (ts.map QT)
 | []=>.nil
 | t :: ts=>.cons (.str t) (Zrn ts)
theorem Zeq:PM G Z16 Zae:=λH L z xs ds d Q hx h kk=>by
 unfold Zae at h
 split at h
 case h_2=>cases h
 rename_i y
 split at h
 case isFalse=>cases h
 rename_i ok
 cases h
 cases hx with
 | cons q r0=>
  cases r0
  cases q.strInv
  exact⟨z,y,rfl,rfl,ok,λp hp=>kk _ _ [p] (Ye hp _) (Own.list hp (Zrn _)) (Ze1 p) (Zct hp)⟩
def Ztq(g:Str->List Xa->Option Xa)(o:FE)(a:FA):FE:=λδ=>(o δ).bind λp=>match p.1.data with
 | .str z=>(a p.2).bind λq=>(g z (OT.datas q.1)).bind λd=>some (.fz d,q.2)
 | _=>none
def Zor(g:Str->List Xa->Option OT)(o:FE)(a:FA):FE:=λδ=>(o δ).bind λp=>match p.1.data with
 | .str z=>(a p.2).bind λq=>(g z (OT.datas q.1)).bind λd=>some (d,q.2)
 | _=>none
variable {fo:FE}
theorem Zq3{g:Str->List Xa->Option Xa}(h:ME X io p c e (Ye5 g (o2 fo) (o2 ra))):ME X io p c e (o2 (Ztq g fo ra)):=h.weak λδ K z=>by
 obtain⟨r,δ',h,k⟩:=z
 obtain⟨⟨x,δ1⟩,h1,h⟩:=bs h
 dsimp only at h
 split at h
 case h_2=>cases h
 rename_i z hz
 obtain⟨⟨y,δ2⟩,h2,h⟩:=bs h
 obtain⟨d,h3,h⟩:=bs h
 cases h
 exact⟨x,δ1,h1,z,hz,y,δ2,h2,_,h3,k⟩
theorem Zk7{g:Str->List Xa->Option OT}(h:ME X io p c e (Yfp g (o2 fo) (o2 ra))):ME X io p c e (o2 (Zor g fo ra)):=h.weak λδ K z=>by
 obtain⟨r,δ',h,k⟩:=z
 obtain⟨⟨x,δ1⟩,h1,h⟩:=bs h
 dsimp only at h
 split at h
 case h_2=>cases h
 rename_i z hz
 obtain⟨⟨y,δ2⟩,h2,h⟩:=bs h
 obtain⟨d,h3,h⟩:=bs h
 cases h
 exact⟨x,δ1,h1,z,hz,y,δ2,h2,_,h3,k⟩
end
def Its(x:Str):It:=⟨λi _=>i<x.cps.size,λi H v H'=>H'=H/\∃c,x.cps[i]? =some c/\v= .str ⟨#[c]⟩,λi _=>x.cps.size<=i⟩
theorem Zs8(x:Str)(t:Tok)(it:Addr):Turn P w K tg (Its x) [it] it (λi h=>h.IsStrIter it "str_ascii_iterator" x t i) where
 mem:=by simp
 obj:=λi h st b hb=>by
  have e:b=it:=by simpa using hb
  subst e
  obtain⟨o,e,c,d⟩:=st
  exact⟨o,e,λv z=>by rw[d]at z;cases z⟩
 keep:=λi h h' st k=>by
  obtain⟨o,e,c,d⟩:=st
  exact⟨o,k it (by simp) o e,c,d⟩
 item:=by
  intro X hP hw hK hc i pins s σ H E I hf st hg
  subst hP hw hK
  obtain⟨f0,f1,f2,f3,f4,f5⟩:=hf it (by simp)
  have hx:x.cps[i]? =some x.cps[i]:=BP hg
  refine wpAny_pyNext_ascii_item st hx λh' st' sb=>?_
  have I1:Inv X pins σ H { s with heap:=h',toks:=s.toks+1 }:=I.turned (λb o hb e=>(sb.2 b hb).trans e) f0 f1 f3 f4 f5
  obtain⟨o,e,c,d⟩:=id st'
  exact⟨_,rfl,Zyu (s:={ s with heap:=h',toks:=s.toks+1 }) e c d (by decide) ⟨.str ⟨#[x.cps[i]]⟩,H,I1,⟨_,rfl⟩,⟨rfl,_,hx,rfl⟩,st',λb hb=>(hf b hb).1⟩⟩
 done:=by
  intro X hP hw hK hc i pins s σ H E I hf st hg
  subst hP hw hK
  obtain⟨f0,f1,f2,f3,f4,f5⟩:=hf it (by simp)
  exact wpAny_pyNext_ascii_end (I.ok.hd hc) st (Vk hg) λh' eb=>⟨rfl,I.turned (t':=s.toks) (λb o hb e=>eb b o hb e) f0 f1 f3 f4 f5⟩
 self:=λ_ _ _ _ _ st h=>wpAny_pyIter_striter_ascii st h
theorem Zuj(x:Str)(t:Tok)(it:Addr):Turn P w K tg (Its x) [it] it (λi h=>h.IsStrIter it "str_iterator" x t i) where
 mem:=by simp
 obj:=λi h st b hb=>by
  have e:b=it:=by simpa using hb
  subst e
  obtain⟨o,e,c,d⟩:=st
  exact⟨o,e,λv z=>by rw[d]at z;cases z⟩
 keep:=λi h h' st k=>by
  obtain⟨o,e,c,d⟩:=st
  exact⟨o,k it (by simp) o e,c,d⟩
 item:=by
  intro X hP hw hK hc i pins s σ H E I hf st hg
  subst hP hw hK
  obtain⟨f0,f1,f2,f3,f4,f5⟩:=hf it (by simp)
  have hx:x.cps[i]? =some x.cps[i]:=BP hg
  refine wpAny_pyNext_wide_item st hx λh' st' sb=>?_
  have I1:Inv X pins σ H { s with heap:=h',toks:=s.toks+1 }:=I.turned (λb o hb e=>(sb.2 b hb).trans e) f0 f1 f3 f4 f5
  obtain⟨o,e,c,d⟩:=id st'
  exact⟨_,rfl,Zyu (s:={ s with heap:=h',toks:=s.toks+1 }) e c d (by decide) ⟨.str ⟨#[x.cps[i]]⟩,H,I1,⟨_,rfl⟩,⟨rfl,_,hx,rfl⟩,st',λb hb=>(hf b hb).1⟩⟩
 done:=by
  intro X hP hw hK hc i pins s σ H E I hf st hg
  subst hP hw hK
  obtain⟨f0,f1,f2,f3,f4,f5⟩:=hf it (by simp)
  exact wpAny_pyNext_wide_end (I.ok.hd hc) st (Vk hg) λh' eb=>⟨rfl,I.turned (t':=s.toks) (λb o hb e=>eb b o hb e) f0 f1 f3 f4 f5⟩
 self:=λ_ _ _ _ _ st h=>wpAny_pyIter_striter_wide st h
def Yec(tl:TE):TI:=λσ H R=>tl σ H λx H1=>∃z,x= .str z/\R (Its z) H1
theorem Z77{l:Expr}(hl:PE X l tl):PI X tg l (Yec tl):=by
 intro pins s σ H R I h
 refine thn (hl pins s σ H _ I h) λv s1 qz9=>?_
 obtain⟨x,H1,I1,r1,q1⟩:=qz9
 obtain⟨z,e,q⟩:=q1
 subst e
 obtain⟨t,rfl⟩:=r1
 have fp:∀b∈[s1.heap.objs.size],Zk6 X pins H1 b:=λb hb=>by
  have e:b=s1.heap.objs.size:=by simpa using hb
  subst e
  exact I1.fpOk (XC _) (I1.hok.fresh (XC _))
 cases ha:z.cps.all (·<128)
 .exact wpAny_pyIter_wide ha ⟨s1.heap.objs.size,[s1.heap.objs.size],_,_,H1,rfl,I1.kept (t':=s1.toks) λb o e=>Xh _ e,Zuj z t _,⟨_,XQ _ rfl,rfl,rfl⟩,fp,q⟩
 .exact wpAny_pyIter_ascii ha ⟨s1.heap.objs.size,[s1.heap.objs.size],_,_,H1,rfl,I1.kept (t':=s1.toks) λb o e=>Xh _ e,Zs8 z t _,⟨_,XQ _ rfl,rfl,rfl⟩,fp,q⟩
def Znx(z:Str):List Xa:=z.cps.toList.map λc=>.str ⟨#[c]⟩
theorem Zxz{C:MC G}:IterOk C fp ex H1 true (Its z) (Znx z):=λH' _ i=>by
 unfold Znx
 rw[Xj,QZ]
 refine⟨λd hd=>?_,λhd=>?_⟩
 .obtain⟨c,hc,rfl⟩:=Q4.mp hd
  refine⟨(Array.getElem?_eq_some_iff.mp hc).1,λx H'' hy=>?_⟩
  obtain⟨rfl,c',hc',rfl⟩:=hy
  rw[hc]at hc'
  cases hc'
  exact⟨Same.refl _,.str _⟩
 .exact Array.getElem?_eq_none_iff.mp (Option.map_eq_none_iff.mp hd)
def iS(m:MEt):MIt:=λδ K=>m δ λr δ'=>match r.data with| .str z=>K (Znx z) δ'|_=>False
theorem Z9w(h:ME X io p c e m):MI X io p true tg e (iS m):=by
 obtain⟨_,A,s⟩:=h
 exact⟨_,Z77 A,λC H σ δ fp ex K' Q R h kk=>s C H σ δ fp ex _ _ R h λH1 v r δ1 fp1 new r1 h1=>by
  have q:=r1.da R
  generalize r.data=d at q h1
  split at h1
  case h_2=>exact h1.elim
  cases q.strInv
  exact⟨_,rfl,kk _ H1 _ δ1 fp1 r1.base r1.stp Zxz h1⟩⟩
def Yfe(e:FE):FI:=λδ=>(e δ).bind λp=>match p.1.data with| .str z=>some (Znx z,p.2)|_=>none
theorem Yab(h:MI X io p c tg e (iS (o2 fa))):MI X io p c tg e (o2 (Yfe fa)):=h.weak λδ K z=>by
 obtain⟨r,δ',h,k⟩:=z
 obtain⟨⟨x,δ1⟩,h1,h⟩:=bs h
 dsimp only at h
 split at h
 case h_2=>cases h
 rename_i z hz
 cases h
 refine⟨x,_,h1,?_⟩
 show match x.data with| .str z=>K (Znx z) _|_=>False
 rw[hz];exact k
def Zut:List Xa->Option Xa:=λds=>match ds with|[.str z]=>if z.length<=Xk then some (.int z.length)else none|_=>none
def Z7l:List Xa->(Xa->Prop)->Prop:=λds k=>∃d,Zut ds=some d/\k d
theorem Yaq:∀ds r k,Zut ds=some r->k r->Z7l ds k:=λds r k h hk=>⟨r,h,hk⟩
theorem Z33:PNs G (λxs H Q=>∃z,xs=[.str z]/\z.length<=Xk/\Q (.int z.length) H) Z7l:=λH L xs ds k Q hx h kk=>by
 obtain⟨d,h,hk⟩:=h
 unfold Zut at h
 split at h
 case h_2=>cases h
 split at h
 case isFalse=>cases h
 rename_i z hz
 cases h
 cases hx with
 | cons q r0=>
  cases r0
  cases q.strInv
  exact⟨z,rfl,hz,kk _ _ (.int _) hk⟩
def Z6m(neg:Bool):Xa->Xa->Option Xa:=λd e=>match d,e with
 | .str i,.str j=>some (.bool (if neg then !(!(QJ j i 0 j.length 1).isEmpty)else !(QJ j i 0 j.length 1).isEmpty))
 | _,_=>none
def Yiz(neg:Bool):Xa->Xa->(Xa->Prop)->Prop:=λd e k=>∃r,Z6m neg d e=some r/\k r
theorem Ydo{neg:Bool}:ByS (Z6m neg) (Yiz neg):=λ_ _ r _ h hk=>⟨r,h,hk⟩
def Yi3(neg:Bool):R2:=λx y H Q=>∃i j,x= .str i/\y= .str j/\Q (.bl (if neg then !(!(QJ j i 0 j.length 1).isEmpty)else !(QJ j i 0 j.length 1).isEmpty)) H
theorem Zt4:OpR X (QS .NotIn) (Yi3 true):=Zm5
theorem Z9c{neg:Bool}:P2s G (Yi3 neg) (Yiz neg):=λH L x y d e k Q hx hy h kk=>by
 obtain⟨r,h,hk⟩:=h
 unfold Z6m at h
 split at h
 case h_2=>cases h
 cases h
 cases hx.strInv
 cases hy.strInv
 exact⟨_,_,rfl,rfl,kk _ _ (.bl _) hk⟩
def Z89:List V->Hp->VK->Prop:=λxs H Q=>∃z n,xs=[.str z]/\z.length<=640/\intText? z=some n/\Q (.int n) H
theorem Zs6:Zb3 X (.type "int") Z89:=by
 intro pins s σ H xs us Q I rv h
 obtain⟨z,n,rfl,hl,hn,q⟩:=h
 obtain⟨u,rfl,t,rfl⟩:=rv.one
 exact call_int_1 (PySem.W.KIN.gives_text hl hn).meets (show(Made.int n).post _ s from⟨rfl,.int n,H,I.tok _,⟨_,rfl⟩,q⟩)
def Zur:List Xa->Option Xa:=λds=>match ds with
 | [.str z]=>if z.length<=640 then(intText? z).bind λn=>some (.int n)else none
 | _=>none
def Ybf:List Xa->(Xa->Prop)->Prop:=λds k=>∃d,Zur ds=some d/\k d
theorem Ybx:∀ds r k,Zur ds=some r->k r->Ybf ds k:=λds r k h hk=>⟨r,h,hk⟩
theorem Z55:PNs G Z89 Ybf:=λH L xs ds k Q hx h kk=>by
 obtain⟨d,h,hk⟩:=h
 unfold Zur at h
 split at h
 case h_2=>cases h
 rename_i z
 cases hx with
 | cons q r0=>
  cases r0
  cases q.strInv
  split at h
  case isFalse=>cases h
  rename_i hl
  obtain⟨n,hn,h⟩:=bs h
  cases h
  exact⟨z,n,rfl,hl,hn,kk _ _ (.int _) hk⟩
theorem Owns.split:∀{xs:List V} {ts:List OT} {as:List Addr},Owns G H L xs ts as->∃ass:List (List Addr),ass.length=xs.length/\ass.flatten=as/\∀(k:Nat) (x:V) (t:OT) (b:List Addr),xs[k]? =JL x->ts[k]? =JL t->ass[k]? =JL b->Own G H L x t b
 | _,_,_,.nil=>⟨[],rfl,rfl,λk x t b e=>by simp at e⟩
 | _,_,_,.cons (as:=as) (bs:=bs) h r=>by
  obtain⟨ass,e1,e2,h2⟩:=Owns.split r
  refine⟨as :: ass,by rw[Qh,Qh,e1],by rw[Vt,e2],λk x t b q1 q2 q3=>?_⟩
  cases k with
  | zero=>
   simp at q1 q2 q3
   subst q1 q2 q3
   exact h
  | succ k=>exact h2 k x t b (by simpa using q1) (by simpa using q2) (by simpa using q3)
section
variable {pos:Pos}{kd:Xa->Option α}{lt:α->α->Bool}
end
section
variable {kd:Xa->Option α}{lt:α->α->Bool}
end
def Sg(z:Str)(t:Tok)(it:Addr)(i:Nat)(h:Heap):Prop:=h.IsStrIter it "str_ascii_iterator" z t i\/h.IsStrIter it "str_iterator" z t i
structure Ap(z TI TO i1 i2:Addr):Prop where
 a1:TI≠z
 a2:TO≠z
 a3:i1≠z
 a4:i2≠z
 a5:i1≠TO
 a6:i2≠TO
 a7:i1≠i2
 a8:TI≠TO
 a9:TI≠i1
 a10:TI≠i2
abbrev yT1(h:Heap)(x:Str)(t:Tok):Heap:=h.push { cls:=.type (strIterType x),data:=.fields #[.str x t,.int 0 0] }
abbrev yT2(h:Heap)(x y:Str)(t u:Tok):Heap:=yT1 (yT1 h x t) y u
abbrev yT3(h:Heap)(x y:Str)(t u:Tok):Heap:=(yT2 h x y t u).push { cls:=.type "tuple",data:=.seq #[.ref h.objs.size,.ref (yT1 h x t).objs.size] }
abbrev yT4(h:Heap)(x y:Str)(t u:Tok):Heap:=(yT3 h x y t u).push { cls:=.type "tuple",data:=.seq #[.none,.none] }
abbrev yT5(h:Heap)(x y:Str)(t u:Tok):Heap:=(yT4 h x y t u).push { cls:=.type "zip",data:=.fields #[.none,.bool false,.bool false,.ref (yT2 h x y t u).objs.size,.ref (yT3 h x y t u).objs.size] }
theorem Sg.at{h:Heap}{x:Str}{t:Tok}{it:Addr}(e:h.get? it=some { cls:=.type (strIterType x),data:=.fields #[.str x t,.int 0 0] }):Sg x t it 0 h:=by
 unfold strIterType at e
 split at e
 .exact .inl ⟨_,e,rfl,rfl⟩
 .exact .inr ⟨_,e,rfl,rfl⟩
section
variable {a b:Expr}
end
section
variable {test:Expr}{rs:List Stmt}{g:MGt}{mt:MTt}{ur:MSt}{pos pi:Pos}{t:FT}{r:FS}
end
section
variable {pos pt:Pos}
end
section
variable {pos:Pos}
theorem Zv8{n:Int}(hg:Gl X x)(hm:∃t,X.mg x=some (.int n t))(hdb:(x==("__debug__" : Str))=false:=by decide):ME X io true true (.Name x pos) (mC (.int n)):=by
 obtain⟨t,h⟩:=hm
 exact Ybq hg h hdb
theorem Zpk(hg:Gl X x)(hm:∃t,X.mg x=some (.str z t))(hdb:(x==("__debug__" : Str))=false:=by decide):ME X io true true (.Name x pos) (mC (.str z)):=by
 obtain⟨t,h⟩:=hm
 exact Z93 hg h hdb
end
def Yjw:OT->Bool
 | .tp [.nd us,_]=>decide (us.length<Xk)
 | _=>false
section
variable {pos pt kp sp pt2 pt1:Pos}{k:Nat}{y:Str}
end
section
variable {k c0:Nat}{d:Xa}
end
section
variable {pos ptt:Pos}{kd:Xa->Option α}{lt:α->α->Bool}
end
section
variable {kd:Xa->Option α}{lt:α->α->Bool}{d:Xa}
end
end L2
namespace L2
open PySem PySem.Spec PyProof.Rows PySem.W
structure TmS where
 p:Array Nat
 q:Array (Nat×Nat×Nat)
 g:Nat
def TM(α:Type):Type:=TmS->KasT (Option (α×TmS))
def TM.nxt(f:α->TM β):Option (α×TmS)->KasT (Option (β×TmS))
 | none=>.ret none
 | some r=>f r.1 r.2
noncomputable instance:Monad TM where
 pure a:=λt=>.ret (some (a,t))
 bind m f:=λt=>(m t).bind (TM.nxt f)
def Zz4:TM α:=λ_=>.ret none
def Z9h(i j:Nat):TM (Option Bool):=λt=>.ask i j λb=>.ret (some (some b,t))
def Yli(l:List Nat):Nat->Option Nat:=List.rec (motive:=λ_=>Nat->Option Nat) (λ_=>none) (λx _ ih i=>Nat.rec (motive:=λ_=>Option Nat) (some x) (λj _=>ih j) i) l
def Zje(a:Array Nat)(i:Nat):TM Nat:=match Yli a.toList i with|some x=>pure x|none=>Zz4
def fcN(n:Nat)(k:Nat->β):β:=Nat.rec (motive:=λ_=>β) (k 0) (λm _=>k (m+1)) n
def fcL(l:List Nat):(List Nat->β)->β:=List.rec (motive:=λ_=>(List Nat->β)->β) (λk=>k []) (λx _ ih k=>fcN x λy=>ih λm=>k (y :: m)) l
def fcQ(l:List (Nat×Nat×Nat)):(List (Nat×Nat×Nat)->β)->β:=List.rec (motive:=λ_=>(List (Nat×Nat×Nat)->β)->β) (λk=>k []) (λx _ ih k=>fcN x.1 λa=>fcN x.2.1 λb=>fcN x.2.2 λc=>ih λm=>k ((a,b,c) :: m)) l
def fcT(t:TmS)(k:TmS->β):β:=fcL t.p.toList λp=>fcQ t.q.toList λq=>fcN t.g λg=>k ⟨⟨p⟩,⟨q⟩,g⟩
def Zme:TM TmS:=λt=>.ret (some (t,t))
def Zp3(f:TmS->TmS):TM PUnit:=λt=>fcT (f t) λt=>.ret (some (⟨⟩,t))
def Z8v:List Nat->β->(Nat->β->TM (ForInStep β))->TM β
 | [],b,_=>pure b
 | x :: l,b,f=>do
  match<-f x b with
  | .done b=>pure b
  | .yield b=>Z8v l b f
section
variable {it:Array Keyed}
variable {α' β':Type}
end
end L2
namespace L2
open PySem PySem.Spec PyProof.Rows PySem.W
structure Rg where
 a:Nat
 b:Nat
noncomputable instance:ForIn TM Rg Nat where
 forIn r b f:=Z8v (List.range' r.a (r.b-r.a)) b f
def Zz0(le:Bool)(key:Nat)(arr:Array Nat)(base i:Nat):TM (Option Bool):=do
 let x<-Zje arr (base+i)
 if le then Z9h x key else return(<-Z9h key x).map (!·)
def Zr5(le:Bool)(key:Nat)(arr:Array Nat)(base n hint:Nat):TM (Option Nat):=do
 let mut last:=0
 let mut ofs:=1
 let mut lo:=0
 let mut hi:=0
 let some right<-Zz0 le key arr base hint|return none
 if right then
  let most:=n-hint
  for _ in Rg.mk 0 n do
   if ofs>=most then break
   let some more<-Zz0 le key arr base (hint+ofs)|return none
   if !more then break
   last:=ofs
   ofs:=2*ofs+1
  lo:=hint+last+1
  hi:=hint+min ofs most
 else
  let most:=hint+1
  for _ in Rg.mk 0 n do
   if ofs>=most then break
   let some more<-Zz0 le key arr base (hint-ofs)|return none
   if more then break
   last:=ofs
   ofs:=2*ofs+1
  lo:=hint+1-min ofs most
  hi:=hint-last
 for _ in Rg.mk 0 n do
  if lo>=hi then break
  let m:=lo+(hi-lo)/2
  let some more<-Zz0 le key arr base m|return none
  if more then lo:=m+1 else hi:=m
 return some hi
section
variable {it:Array Keyed}
end
end L2
namespace L2
open PySem PySem.Spec PyProof.Rows PySem.W
def Zqp(g:Nat):TM PUnit:=Zp3 λt=>{ t with g:=g }
def Yka(a b:Array Nat):TM (Array Nat):=do
 let total:=a.size+b.size
 let fin (out:Array Nat) (i j:Nat):=out ++ a.extract i a.size ++ b.extract j b.size
 let lst (out:Array Nat) (i j:Nat):=out ++ b.extract j b.size ++ a.extract i a.size
 let mut out:Array Nat:=#[<-Zje b 0]
 let mut i:=0
 let mut j:=1
 if j==b.size then return fin out i j
 if i+1==a.size then return lst out i j
 let mut mg:=(<-Zme).g
 for _ in Rg.mk 0 total do
  let mut na:=0
  let mut nb:=0
  for _ in Rg.mk 0 total do
   let some c<-Z9h (<-Zje b j) (<-Zje a i)|return fin out i j
   if c then
    out:=out.push (<-Zje b j);j:=j+1;nb:=nb+1;na:=0
    if j==b.size then return fin out i j
    if nb>=mg then break
   else
    out:=out.push (<-Zje a i);i:=i+1;na:=na+1;nb:=0
    if i+1==a.size then return lst out i j
    if na>=mg then break
  mg:=mg+1
  for _ in Rg.mk 0 total do
   if mg>1 then mg:=mg-1
   Zqp mg
   let some k<-Zr5 false (<-Zje b j) a i (a.size-i) 0|return fin out i j
   na:=k
   if k>0 then
    out:=out ++ a.extract i (i+k);i:=i+k
    if i+1==a.size then return lst out i j
    if i==a.size then return fin out i j
   out:=out.push (<-Zje b j);j:=j+1
   if j==b.size then return fin out i j
   let some k<-Zr5 true (<-Zje a i) b j (b.size-j) 0|return fin out i j
   nb:=k
   if k>0 then
    out:=out ++ b.extract j (j+k);j:=j+k
    if j==b.size then return fin out i j
   out:=out.push (<-Zje a i);i:=i+1
   if i+1==a.size then return lst out i j
   if na<7&&nb<7 then break
  mg:=mg+1
  Zqp mg
 Zz4
end L2
variable {γ:Type}
namespace L2
open PySem PySem.Spec PyProof.Rows PySem.W
section
variable {it:Array Keyed}
end
end L2
namespace L2
open PySem PySem.Spec PyProof.Rows PySem.W
def Ylg(a b:Array Nat):TM (Array Nat):=do
 let total:=a.size+b.size
 let fin (out:Array Nat) (i j:Nat):=a.extract 0 i ++ b.extract 0 j ++ out.reverse
 let fst (out:Array Nat) (i j:Nat):=b.extract 0 j ++ a.extract 0 i ++ out.reverse
 let mut i:=a.size-1
 let mut j:=b.size
 let mut out:Array Nat:=#[<-Zje a i]
 if i==0 then return fin out i j
 if j==1 then return fst out i j
 let mut mg:=(<-Zme).g
 for _ in Rg.mk 0 total do
  let mut na:=0
  let mut nb:=0
  for _ in Rg.mk 0 total do
   let some c<-Z9h (<-Zje b (j-1)) (<-Zje a (i-1))|return fin out i j
   if c then
    i:=i-1;out:=out.push (<-Zje a i);na:=na+1;nb:=0
    if i==0 then return fin out i j
    if na>=mg then break
   else
    j:=j-1;out:=out.push (<-Zje b j);nb:=nb+1;na:=0
    if j==1 then return fst out i j
    if nb>=mg then break
  mg:=mg+1
  for _ in Rg.mk 0 total do
   if mg>1 then mg:=mg-1
   Zqp mg
   let some x<-Zr5 false (<-Zje b (j-1)) a 0 i (i-1)|return fin out i j
   let k:=i-x
   na:=k
   if k>0 then
    out:=out ++ (a.extract x i).reverse;i:=x
    if i==0 then return fin out i j
   j:=j-1;out:=out.push (<-Zje b j)
   if j==1 then return fst out i j
   let some x<-Zr5 true (<-Zje a (i-1)) b 0 j (j-1)|return fin out i j
   let k:=j-x
   nb:=k
   if k>0 then
    out:=out ++ (b.extract x j).reverse;j:=x
    if j==1 then return fst out i j
    if j==0 then return fin out i j
   i:=i-1;out:=out.push (<-Zje a i)
   if i==0 then return fin out i j
   if na<7&&nb<7 then break
  mg:=mg+1
  Zqp mg
 Zz4
section
variable {it:Array Keyed}
end
end L2
namespace L2
open PySem PySem.Spec PyProof.Rows PySem.W
def Zr2(i j:Nat):TM (Option Bool):=do
 let t<-Zme
 let x<-Zje t.p i
 let y<-Zje t.p j
 Z9h x y
def Zyc(i j:Nat):TM PUnit:=Zp3 λt=>{ t with p:=kas_rev t.p i j }
def mvL(l:List Nat)(i d:Nat):List Nat:=l.take (i-d) ++ ((l.drop i).take 1 ++ ((l.drop (i-d)).take d ++ l.drop (i+1)))
def Yk2(p:Array Nat)(i j:Nat):Array Nat:=if(Nat.blt i p.toList.length&&Nat.ble j i)=true then⟨mvL p.toList i (i-j)⟩else bubble p i (i-j)
def Yd6(i j:Nat):TM PUnit:=Zp3 λt=>{ t with p:=Yk2 t.p i j }
def Yfx(lo m:Nat):TM (Option Nat):=do
 let mut n:=1
 for _ in Rg.mk 1 m do
  let some c<-Zr2 (lo+n) (lo+n-1)|return none
  if c then break
  n:=n+1
 if n==m then return some n
 if n>1 then
  let some c<-Zr2 lo (lo+n-1)|return none
  if c then return some n
  Zyc lo (lo+n)
 n:=n+1
 let mut e:=0
 for _ in Rg.mk n m do
  let some c<-Zr2 (lo+n) (lo+n-1)|return none
  if c then
   if e>0 then Zyc (lo+n-(e+1)) (lo+n)
   e:=0
  else
   let some d<-Zr2 (lo+n-1) (lo+n)|return none
   if d then break
   e:=e+1
  n:=n+1
 if e>0 then Zyc (lo+n-(e+1)) (lo+n)
 Zyc lo (lo+n)
 for _ in Rg.mk n m do
  let some c<-Zr2 (lo+n) (lo+n-1)|return none
  if c then break
  n:=n+1
 return some n
def Yeh(lo n ok:Nat):TM Bool:=do
 for k in Rg.mk (max ok 1) n do
  let mut l:=0
  let mut r:=k
  for _ in Rg.mk 0 k do
   if l>=r then break
   let m:=(l+r)/2
   let some c<-Zr2 (lo+k) (lo+m)|return false
   if c then r:=m else l:=m+1
  Yd6 (lo+k) (lo+l)
 return true
section
variable {it:Array Keyed}
end
end L2
namespace L2
open PySem PySem.Spec PyProof.Rows PySem.W
def layA(k:Nat)(m a:Array γ):Array γ:=m.toList.zipIdx.foldl (λa q=>a.setIfInBounds (k+q.2) q.1) a
def Yjf(i:Nat):TM Bool:=do
 let t<-Zme
 let(some (c,n,u),some (d,m,_)):=(t.q[i]?,t.q[i+1]?)|Zz4
 Zp3 λ_=>{ t with q:=(t.q.setIfInBounds i (c,n+m,u)).eraseIdxIfInBounds (i+1) }
 let some k<-Zr5 false (<-Zje t.p d) t.p c n 0|return false
 let(c,n):=(c+k,n-k)
 if n==0 then return true
 let some m<-Zr5 true (<-Zje t.p (c+n-1)) t.p d m (m-1)|return false
 if m==0 then return true
 let x:=t.p.extract c d
 let y:=t.p.extract d (d+m)
 let z<-if n<=m then Yka x y else Ylg x y
 Zp3 λt=>{ t with p:=layA c z t.p }
 let _<-Zme
 return true
section
variable {it:Array Keyed}
def Ya9:TM PUnit:=do
 let sz:=(<-Zme).p.size
 let mr:=minRun' sz sz 0
 let mut lo:=0
 for _ in Rg.mk 0 sz do
  if lo>=sz then break
  let some f<-Yfx lo (sz-lo)|return
  let mut n:=f
  if n<mr then
   let fo:=min (sz-lo) mr
   if !(<-Yeh lo fo n)then return
   n:=fo
  if let some (c,m,_):=(<-Zme).q.back? then
   let u:=power' sz (2*c+m) (2*c+m+m+n) sz
   for _ in Rg.mk 0 sz do
    let z:=(<-Zme).q
    let some (_,_,v):=(if z.size>1 then z[z.size-2]? else none)|break
    if v<=u then break
    if !(<-Yjf (z.size-2))then return
   Zp3 λt=>{ t with q:=t.q.modify (t.q.size-1) λ(c,m,_)=>(c,m,u) }
  Zp3 λt=>{ t with q:=t.q.push (lo,n,0) }
  lo:=lo+n
 for _ in Rg.mk 0 sz do
  let z:=(<-Zme).q
  if z.size<=1 then break
  let k:=z.size-2
  let bf:=if k>0 then z[k-1]?.map (·.2.1)else none
  let k:=if bf.any (·<(z[k+1]?.elim 0 (·.2.1)))then k-1 else k
  if !(<-Yjf k)then return
end
end L2
namespace L2
open PySem PySem.Spec PyProof.Rows PySem.W
def Yhd(lt:Nat->Nat->Bool)(n:Nat):KasT α->Option α
 | .ret a=>some a
 | .ask i j k=>if(Nat.blt i n&&Nat.blt j n)=true then Yhd lt n (k (lt i j))else none
def Z32(lt:Nat->Nat->Bool)(n:Nat):Option (List Nat):=(Yhd lt n (Ya9 ⟨(Xz n).toArray,#[],7⟩)).bind λo=>o.map λr=>r.2.p.toList
def Yke(d:α)(l:List Nat)(vs:List α):List α:=l.map λi=>vs.getD i d
section
variable {kd:Xa->Option α}{lt:α->α->Bool}
def Yay(kd:Xa->Option α)(lt:α->α->Bool):List Xa->Option OT:=λds=>match ds with
 | [.list es]=>(Z32 (lk kd lt es) es.length).bind λp=>if(decide (2<=es.length)&&decide (es.length<=10000)&&decide (p.length=es.length)&&es.all λd=>(kd d).isSome)=true then some (.nd ((Yke .none p es).map OT.fz))else none
 | _=>none
def Yjo(kd:Xa->Option α)(lt:α->α->Bool):List Xa->Option OT:=λds=>match Zmq kd lt ds with|some o=>some o|none=>Yay kd lt ds
end
end L2
namespace L2
open PySem PySem.Spec
def EvP(e:FE)(δ:Zg)(Q:Xa->Zg->Prop):Prop:=∃t δ',e δ=some (t,δ')/\Q t.data δ'
def EpT(t:FT)(δ:Zg)(Q:Bool->Zg->Prop):Prop:=∃b δ',t δ=some (b,δ')/\Q b δ'
def EpS(S:FS)(δ:Zg)(N:Zg->Prop)(R:Xa->Zg->Prop):Prop:=(∃δ',S δ= .nx δ'/\N δ')\/∃o δ',S δ= .rt o δ'/\R o.data δ'
section
variable {e a b:FE}{as:FA}{Q:Xa->Zg->Prop}{QA:List Xa->Zg->Prop}{T:Bool->Zg->Prop}{t u:FT}{N:Zg->Prop}{R:Xa->Zg->Prop}{d:Xa}
theorem Zgo(h:EvV e δ d)(q:Q d δ):EvP e δ Q:=by
 obtain⟨t,e1,e2⟩:=h
 exact⟨t,δ,e1,e2▸q⟩
theorem Zgf(h:EvT t δ p)(q:T p δ):EpT t δ T:=⟨p,δ,h,q⟩
theorem Zp5(h:EpS S δ (λδ'=>EpS S' δ' N R) R):EpS (Z3 S S') δ N R:=by
 rcases h with⟨δ',e,h⟩|⟨o,δ',e,h⟩
 .rcases h with⟨δ2,e2,q⟩|⟨o,δ2,e2,q⟩
  .exact .inl ⟨δ2,by rw[Zjt,e,Zu7,e2],q⟩
  .exact .inr ⟨o,δ2,by rw[Zjt,e,Zu7,e2],q⟩
 .exact .inr ⟨o,δ',by rw[Zjt,e,Z1k],h⟩
theorem Zmf(h:EvP e δ R):EpS (wE e W7) δ N R:=by
 obtain⟨t,δ',e1,q⟩:=h
 exact .inr ⟨t,δ',by rw[Zbv,e1];rfl,q⟩
theorem Zwj(h:EpT t δ λp δ'=>(p=true->EpS S δ' N R)/\(p=false->EpS S' δ' N R)):EpS (Jd t S S') δ N R:=by
 obtain⟨p,δ',e1,q1,q2⟩:=h
 have e:Jd t S S' δ=if p=true then S δ' else S' δ':=by unfold Jd;rw[e1]
 cases p with
 | true=>
  have g:=q1 rfl
  unfold EpS at g|-
  rw[e];exact g
 | false=>
  have g:=q2 rfl
  unfold EpS at g|-
  rw[e];exact g
theorem Zti(q:N δ):EpS fNx δ N R:=.inl ⟨δ,rfl,q⟩
theorem Zxy(I:Nat->Zg->Prop)(ds:List Xa)(m:Nat)(h0:I m δ)(turn:∀(k:Nat) (d:Xa) (δ:Zg),ds[k]? =some d->I (m+k) δ->∃δ1,g d δ=some δ1/\EpS S δ1 (I (m+k+1)) R)(fin:∀δ',I (m+ds.length) δ'->N δ') :
  (∃ δ',forLoop g S ds δ= .nx δ'/\N δ')\/∃o δ',forLoop g S ds δ= .rt o δ'/\R o.data δ':=by
 induction ds generalizing m δ with
 | nil=>exact .inl ⟨δ,rfl,fin δ h0⟩
 | cons d ds ih=>
  obtain⟨δ1,e1,h⟩:=turn 0 d δ rfl h0
  rcases h with⟨δ2,e2,q⟩|⟨o,δ2,e2,q⟩
  .have e:forLoop g S (d :: ds) δ=forLoop g S ds δ2:=by rw[forLoop,e1];show(match S δ1 with| .nx δ2=>_| .ct δ2=>_| .bk δ2=>_|r=>_)=_;rw[e2]
   rw[e]
   refine ih (m+1) q (λk d' δ' hk hI=>?_) λδ' hI=>fin δ' (by rw[Qh];rw[show m+1+ds.length=m+(ds.length+1) by omega]at hI;exact hI)
   have:=turn (k+1) d' δ' hk (by rw[show m+(k+1)=m+1+k by omega];exact hI)
   rwa[show m+(k+1)+1=m+1+k+1 by omega]at this
  .refine .inr ⟨o,δ2,?_,q⟩
   rw[forLoop,e1];show(match S δ1 with| .nx δ2=>_| .ct δ2=>_| .bk δ2=>_|r=>_)=_;rw[e2]
theorem Zt9{ds:List Xa}{δ0:Zg}(I:Nat->Zg->Prop)(hi:it δ=some (ds,δ0))(h0:I 0 δ0)(turn:∀(k:Nat) (d:Xa) (δ:Zg),ds[k]? =some d->I k δ->∃δ1,g d δ=some δ1/\EpS S δ1 (I (k+1)) R)(fin:∀δ',I ds.length δ'->N δ'):EpS (Zb2 it g S) δ N R:=by
 have e:Zb2 it g S δ=forLoop g S ds δ0:=by unfold Zb2;rw[hi]
 have h:=Zxy (R:=R) (N:=N) (S:=S) (g:=g) (δ:=δ0) I ds 0 h0 (λk d δ hk hI=>by rw[Ug]at hI|-;exact turn k d δ hk hI) (λδ' hI=>by rw[Ug]at hI;exact fin δ' hI)
 unfold EpS
 rw[e];exact h
theorem Ycd(I:Nat->List Xa->Zg->Prop)(ds:List Xa)(m:Nat)(acc:List Xa)(h0:I m acc δ)(turn:∀(k:Nat) (d:Xa) (acc:List Xa) (δ:Zg),ds[k]? =some d->I (m+k) acc δ->∃δ1,g d δ=some δ1/\EpT t δ1 λp δ2=>(p=true->EvP e δ2 λd δ3=>I (m+k+1) (acc ++ [d]) δ3)/\(p=false->I (m+k+1) acc δ2)) :
  ∃ts δ',compLoop g t e ds δ=some (ts,δ')/\I (m+ds.length) (acc ++ ts.map OT.data) δ':=by
 induction ds generalizing m acc δ with
 | nil=>exact⟨[],δ,rfl,by rw[List.map_nil,QX];exact h0⟩
 | cons d ds ih=>
  obtain⟨δ1,e1,p,δ2,e2,q1,q2⟩:=turn 0 d acc δ rfl h0
  have next:∀(k:Nat) (d:Xa) (acc:List Xa) (δ:Zg),ds[k]? =some d->I (m+1+k) acc δ->∃δ1,g d δ=some δ1/\EpT t δ1 λp δ2=>(p=true->EvP e δ2 λd δ3=>I (m+1+k+1) (acc ++ [d]) δ3)/\(p=false->I (m+1+k+1) acc δ2):=λk d acc δ hk hI=>by
   have:=turn (k+1) d acc δ hk (by rw[show m+(k+1)=m+1+k by omega];exact hI)
   rwa[show m+(k+1)+1=m+1+k+1 by omega]at this
  have el:m+1+ds.length=m+(ds.length+1):=by omega
  cases p with
  | true=>
   obtain⟨o,δ3,e3,hI⟩:=q1 rfl
   obtain⟨ts,δ',e4,hf⟩:=ih (m+1) (acc ++ [o.data]) hI next
   refine⟨o :: ts,δ',?_,?_⟩
   .rw[compLoop,e1];show(t δ1).bind _=_;rw[e2];show(e δ2).bind _=_;rw[e3];show(compLoop g t e ds δ3).bind _=_;rw[e4];rfl
   .rw[Qh,<-el,Xv];rw[JW]at hf;exact hf
  | false=>
   obtain⟨ts,δ',e4,hf⟩:=ih (m+1) acc (q2 rfl) next
   refine⟨ts,δ',?_,by rw[Qh,<-el];exact hf⟩
   rw[compLoop,e1];show(t δ1).bind _=_;rw[e2];exact e4
end
end L2
namespace L2
open PySem PySem.Spec PyProof.Rows
def gt(ts:List OT)(k:Nat):OT:=ts.getD k (.fz .none)
inductive Zuq(mt:MTt)(ts:List OT):List Nat->List Nat->Prop where
 | nil:Zuq mt ts [] []
 | keep {k:Nat} {p q:List Nat}:mt [some (.fz (gt ts k).data)] (λb _=>b=true)->Zuq mt ts p q->Zuq mt ts (k :: p) (k :: q)
 | skip {k:Nat} {p q:List Nat}:mt [some (.fz (gt ts k).data)] (λb _=>b=false)->Zuq mt ts p q->Zuq mt ts (k :: p) q
structure Ylq{α:Type}(kd:Xa->Option α)(lt:α->α->Bool)(ds:List Xa)(p:List Nat):Prop where
 nd:p.Nodup
 bd:∀k∈p,k<ds.length
 lw:p.length<=10000
 is:(ds.length<64/\p=if ds.length<2 then Xz ds.length else Zsu (lk kd lt ds) ds.length)\/(2<=ds.length/\ds.length<=10000/\Z32 (lk kd lt ds) ds.length=some p/\p.length=ds.length)
 ky:keyed kd ds
section
variable {pos lpos ps pe:Pos}{y:Str}{kd:Xa->Option α}{lt:α->α->Bool}{mt:MTt}{sc:Ud}
end
def Yk4(kd:Xa->Option α)(lt:α->α->Bool)(ds:List Xa):Option (List Nat) :=
 if ds.all (λd=>(kd d).isSome)=true then
  if ds.length<64 then some (if ds.length<2 then Xz ds.length else Zsu (lk kd lt ds) ds.length)
  else(Z32 (lk kd lt ds) ds.length).bind λp=>if(decide (ds.length<=10000)&&p.isPerm (Xz ds.length))=true then some p else none
 else none
def Z76(t:FT)(ts:List OT):List Nat->Option (List Nat)
 | []=>some []
 | k :: p=>(t [some (.fz (gt ts k).data)]).bind λb=>(Z76 t ts p).bind λq=>some (if b.1=true then k :: q else q)
def Yks(kd:Xa->Option α)(lt:α->α->Bool)(i:Nat)(t:FT):FS:=λδ=>match δ[i]? with
 | some (some (.nd ts))=>match(Yk4 kd lt (OT.datas ts)).bind (Z76 t ts)with|some q=>.rt (.nd (q.map (gt ts))) (δ.set i none)|none=>.bad
 | _=>.bad
section
variable {kd:Xa->Option α}{lt:α->α->Bool}{t:FT}
end
end L2
namespace L2
open PySem PySem.Spec PyProof.Rows PySem.W PySem.SeqAt
def kdV:Xa->Option (List Int):=λd=>match d with| .tuple (e :: es)=>Zkb (e :: es)|_=>none
theorem Zia{d:Xa}{k:List Int}(h:kdV d=some k):k≠[]/\d= .tuple (k.map Xl):=by
 unfold kdV at h
 split at h
 case h_2=>cases h
 have e:=Zgg h
 exact⟨λz=>(by rw[z]at e;cases e),congrArg QF e⟩
theorem Z98{Q:Bool->Xg->Prop}{fin:Bool}:∀{xs ys:List Int} {vs us:List Xe} (i:Nat),VL vs xs->VL us ys->fin=decide (i+xs.length<i+ys.length)->Q (ltI xs ys) s->KatLex prog w A true fin Q (vs.zip us) i s
 | [],[],_,_,i,.nil,.nil,hf,h=>kat_nil (by rw[hf,decide_eq_false (by simp)];exact h)
 | [],y :: ys,_,_,i,.nil,.cons _ _ r,hf,h=>kat_nil (by rw[hf,decide_eq_true (by simp)];exact h)
 | x :: xs,[],_,_,i,.cons _ _ r,.nil,hf,h=>kat_nil (by rw[hf,decide_eq_false (by simp)];exact h)
 | x :: xs,y :: ys,_,_,i,.cons _ t r,.cons _ t2 r2,hf,h=>by
  refine kat_cons ?_
  refine EqAt.int_int _ _ _ _ prog w _ _ ?_
  rw[ltI]at h
  by_cases c:x=y
  .rw[if_pos c]at h
   rw[beq_iff_eq.mpr c]
   exact kat_yes (Z98 (i+1) r r2 (by rw[hf];refine decide_eq_decide.mpr ?_;rw[Qh,Qh];omega) h)
  .rw[if_neg c]at h
   rw[beq_eq_false_iff_ne.mpr c]
   refine kat_no ?_
   cases i with
   | zero=>exact oneLt_int h
   | succ i=>exact kat_one _ _ (Ya5 h)
theorem Z7n:Yhv kdV ltI:=by
 refine⟨λd k h=>by rw[(Zia h).2];exact(Zjl k).1,tuples' true,λprog w A E s vs ds as Q h2 r hk q=>?_,λprog w A E s u v d e as bs k m C hu r1 r2 h1 h2 h=>?_⟩
 .have key:∃fs:List Xe,KatTups s.heap vs fs/\fs.length=vs.length/\∀v∈fs,∃i t,v= .int i t:=by
   clear h2 q
   induction ds generalizing vs as with
   | nil=>cases r;exact⟨[],trivial,rfl,λ_ m=>nomatch m⟩
   | cons d ds ih=>
    cases r with
    | cons r q=>
     obtain⟨fs,t,l,z⟩:=ih _ _ q λd m=>hk d (.tail _ m)
     obtain⟨k,hk⟩:=hk d (.head _)
     obtain⟨kn,kd⟩:=Zia hk
     rw[kd]at r
     obtain⟨a,items,rfl,⟨o,e,c,n,hd⟩,ia⟩:=Zhd r
     obtain⟨x,xs,rfl⟩:=Bv kn
     generalize hl:items.toList=l' at ia
     cases ia with
     | cons _ t' ia=>
      rename_i vr
      have e0:items[0]? =some (.int x t'):=by rw[<-QZ,hl];rfl
      refine⟨.int x t' :: fs,KatTups.cons e c hd e0 t,congrArg Nat.succ l,λv hv=>?_⟩
      rcases Xo.mp hv with rfl|hv
      .exact⟨_,_,rfl⟩
      .exact z v hv
  obtain⟨fs,t,l,z⟩:=key
  exact kat_kind (T:=.type "int") t (by omega) (λv hv=>by obtain⟨i,t,rfl⟩:=z v hv;exact(show Looks _ _ (pure (Value.type "int")) _ from .now)) rfl q
 .rw[(Zia h1).2]at r1
  rw[(Zia h2).2]at r2
  obtain⟨a,i1,rfl,⟨o1,g1,c1,n1,d1⟩,z1⟩:=Zhd r1
  obtain⟨b,i2,rfl,⟨o2,g2,c2,n2,d2⟩,z2⟩:=Zhd r2
  refine kat_lt g1 d1 g2 d2 (Z98 0 z1 z2 ?_ h)
  refine decide_eq_decide.mpr ?_
  rw[<-Zh8 z1,<-Zh8 z2,JC,JC];omega
end L2
namespace L2
open PySem PySem.Spec PyProof.Rows PySem.W PySem.SeqAt
def LiesD(h:Heap)(d:Addr)(es:Array DictEntry)(ep:Nat):Prop:=∃o,h.get? d=some o/\o.ExactDict/\o.data= .dict es ep
section
variable {d it:Addr}{es:Array DictEntry}{ep:Nat}
theorem LiesD.ty(x:LiesD s.heap d es ep):s.TypeIs (.ref d) "dict" :=let⟨o,ho,e,_⟩:=x;⟨o,ho,e.1⟩
theorem LiesD.ext(x:LiesD h d es ep)(k:∀o,h.get? d=some o->h'.get? d=some o):LiesD h' d es ep:=let⟨o,ho,r⟩:=x;⟨o,k o ho,r⟩
end
section
variable {σ:St}{d:Addr}
theorem Inv.froze(I:Inv X pins σ H s)(e:H d=some (.dT kvs)):∃o,Inv X pins σ (upd H d (.frz o (.dT kvs))) s:=by
 have ok:=I.hok d _ e
 obtain⟨o,ho⟩:∃o,s.heap.get? d=some o:=by
  obtain⟨_,_,_,_,o,_,_,h,_⟩:=(show ObjOk X.prog X.w H s.heap d (.dT kvs)from ok)
  exact⟨o,h⟩
 have ne:∀{b:Addr} {u:HO},H b=some u->(∀q,u≠ .dT q)->b≠d:=λh n z=>by
  rw[z,e]at h
  cases h
  exact n _ rfl
 have u:Un X.fs [] H (upd H d (.frz o (.dT kvs))) s.heap s.heap:=⟨λb ob q _ _ _=>q,λb ob q _ _ _=>⟨ob.slots,q⟩,λb ob q n _=>by rw[Zt (λz=>by rw[z,e]at n;cases n)];exact n,λb ob q _=>⟨ob,q⟩,
  λb xs q=>by rw[Zt (ne q λ_ z=>by cases z)];exact q,λb ob v q=>by rw[Zt (ne q λ_ z=>by cases z)];exact q,λb ps q=>⟨#[],by rw[Zt (ne q λ_ z=>by cases z),q];simp⟩⟩
 refine⟨o,I.un (h':=s.heap) (t':=s.toks) u (I.hok.write (x:=d) (e:=d) (by rw[e];exact Vz) (.inl rfl) (λb v _ q=>q) ⟨o,ho⟩ ⟨ho,ok.stay (λb v _ q=>q) (λb q=>?_) λb xs q=>?_⟩)⟩
 .rw[Zt (ne q λ_ z=>by cases z)];exact q
 .rw[Zt (ne q λ_ z=>by cases z)];exact q
theorem Inv.frozen(I:Inv X pins σ H s)(e:Rd H d (.dT kvs)):∃o,Inv X pins σ (upd H d (.frz o (.dT kvs))) s:=by
 rcases e with e|⟨o,e⟩
 .exact I.froze e
 .refine⟨o,?_⟩
  have:upd H d (.frz o (.dT kvs))=H:=by
   funext b
   unfold upd
   split
   .rename_i z;rw[z,e]
   .rfl
  rw[this];exact I
end
theorem Zun{F:α->β->Prop}{l:List α}{m:List β}(h:U7 F l m):l.length=m.length/\∀(i:Nat) (a:α),l[i]? =some a->∃b:β,m[i]? =some b/\F a b:=by
 induction h with
 | nil=>exact⟨rfl,λi a h=>by cases h⟩
 | cons r _ ih=>
  refine⟨congrArg (·+1) ih.1,λi a h=>?_⟩
  cases i with
  | zero=>cases h;exact⟨_,rfl,r⟩
  | succ i=>exact ih.2 i a h
theorem Zly:∀ks:List Key,Das G H L (ks.map kV) (ks.map Z3x)
 | []=>.nil
 | .inl i :: ks=>.cons (.int i) (Zly ks)
 | .inr x :: ks=>.cons (.str x) (Zly ks)
end L2
namespace L2
open PySem PySem.Spec PyProof.Rows PySem.W PySem.SeqAt
section
variable {d it:Addr}{es:Array DictEntry}{ep:Nat}
theorem Zu2(nd:(d==BV)=false)(x:LiesD s.heap d es ep)(h:Q (.ref s.heap.objs.size) { s with heap:=s.heap.push { cls:=.type "dict_keyiterator",data:=.fields #[.ref d,.int 0 0,.int es.size 0,.int ep 0] } }):XR (Qg prog w) A (pyIter (.ref d)) Q E s:=by
 obtain⟨o,ho,hc,dat⟩:=id x
 have hT:=x.ty
 refine wpAny_pyIter_slot hT PySem.F.slot_dict_iter (BJ PySem.F.slot_dict_iter hT PySem.F.entry_dict_iter ?_ (PySem.F.args_dict_iter_1 _))
 unfold Builtin.«dict.__iter__»
 refine Xd ?_
 unfold Builtin.Dict.dictSlotNone
 refine Xd (wpAny_notOrdered_dict hT ?_)
 show XR _ _ (pure (Qo d)) _ _ s
 refine Xy ?_
 show XR _ _ (Builtin.Dict.showsAll d>>=_) _ _ s
 unfold Builtin.Dict.showsAll
 rw[if_neg (by rw[nd];exact Xm)]
 refine Xd (Xy ?_)
 refine Xd (wpAny_dictEntries ho dat ?_)
 refine Xd (wpAny_dictEpoch ho dat ?_)
 exact Xd (Br (Xy ⟨_,rfl,"dict_keyiterator",_,⟨_,XQ _ rfl,rfl⟩,JK.lookup,h⟩))
theorem Zs2{e:DictEntry}{Q:Option Xe->Xg->Prop}(hit:s.heap.IsKeyIter it d i es.size ep)(l:LiesD s.heap d es ep)(hx:es[i]? =some e)
  (hQ:∀h',h'.IsKeyIter it d (i+1) es.size ep->BX it s.heap h'->Q (some e.key) { s with heap:=h' }):XR (Qg prog w) A (pyNext (.ref it)) Q E s:=by
 obtain⟨o,ho,hc,hd⟩:=id hit
 obtain⟨od,hod,_,dat⟩:=l
 have lt:i<es.size:=by
  rcases Ui i es.size with q|q
  .exact q
  .rw[Vk q]at hx;cases hx
 unfold pyNext
 refine Xd (wpAny_attempt (Bs (name:=Q8 "__next__") hit.typeIs JK
  (BJ JK hit.typeIs PySem.F.entry_dict_keyiterator_next ?_ (PySem.F.args_dict_keyiterator_next_1 _))))
 refine Xd (Xy (Xd (Xd ?_)))
 refine Xd (Vp hit.typeIs (Xy ?_))
 refine Xd (wpAny_fieldsOf ho hd ?_)
 have hown:Builtin.Dict_items.ownsTuple "dict_keyiterator"=false:=by decide
 simp only[hown,Bf,if_false]
 show XR _ _ (if(Qo d==QH)=true then _ else _) _ _ s
 rw[if_neg (show¬((Qo d==QH)=true)from Xm)]
 refine Xd (Xy (Xd (wpAny_dictEntries hod dat ?_)))
 rw[if_neg (by simp)]
 refine Xd (Xy (Xd (wpAny_dictEpoch hod dat ?_)))
 rw[if_neg (by simp)]
 refine Xy ?_
 simp only[show¬((i:Int)<0)from by omega,if_false,JG,hx]
 refine Xd (Xd (Vp hit.typeIs (Xy ?_)))
 refine Xd (wpAny_isOneOf_keyiter hit.typeIs ?_)
 show XR _ _ (setField (.ref it) 1 (rawInt ((i:Int)+1))>>=_) _ _ s
 refine Xd (wpAny_setField ho hd (by simp) ?_)
 have hit':(s.heap.update it (Obj.mapFields (·.setIfInBounds 1 (rawInt ((i:Int)+1))))).IsKeyIter it d (i+1) es.size ep :=
  ⟨_,Heap.get?_update_self _ ho (Obj.isFreed_of_fields (U8 hd _)),(Obj.cls_mapFields ..).trans hc,by rw[U8 hd];simp[rawInt]⟩
 refine Xd (Ux ?_)
 refine Xd (wpAny_isOneOf_keyiter (s:={ s with heap:=s.heap.update it (Obj.mapFields (·.setIfInBounds 1 (rawInt ((i:Int)+1)))) }) hit'.typeIs ?_)
 show XR _ _ (pure e.key) _ _ _
 exact Xy (Xy ⟨_,rfl,Xy (hQ _ hit' (Uj ..))⟩)
theorem Zyy{Q:Option Xe->Xg->Prop}(hh:A.handled=none)(hit:s.heap.IsKeyIter it d i es.size ep)(l:LiesD s.heap d es ep)(hx:es.size<=i)
  (hQ:∀h',Heap.ExtBut it s.heap h'->Q none { s with heap:=h' }):XR (Qg prog w) A (pyNext (.ref it)) Q E s:=by
 obtain⟨o,ho,hc,hd⟩:=id hit
 obtain⟨od,hod,_,dat⟩:=l
 unfold pyNext
 refine Xd (wpAny_attempt (Bs (name:=Q8 "__next__") hit.typeIs JK
  (BJ JK hit.typeIs PySem.F.entry_dict_keyiterator_next ?_ (PySem.F.args_dict_keyiterator_next_1 _))))
 refine Xd (Xy (Xd (Xd ?_)))
 refine Xd (Vp hit.typeIs (Xy ?_))
 refine Xd (wpAny_fieldsOf ho hd ?_)
 have hown:Builtin.Dict_items.ownsTuple "dict_keyiterator"=false:=by decide
 simp only[hown,Bf,if_false]
 show XR _ _ (if(Qo d==QH)=true then _ else _) _ _ s
 rw[if_neg (show¬((Qo d==QH)=true)from Xm)]
 refine Xd (Xy (Xd (wpAny_dictEntries hod dat ?_)))
 rw[if_neg (by simp)]
 refine Xd (Xy (Xd (wpAny_dictEpoch hod dat ?_)))
 rw[if_neg (by simp)]
 refine Xy ?_
 simp only[show¬((i:Int)<0)from by omega,if_false,JG,Vk hx]
 refine Xd (Xd (Vp hit.typeIs (Xy ?_)))
 show XR _ _ (setField (.ref it) 0 .none>>=_) _ _ s
 refine Xd (wpAny_setField ho hd (by simp) ?_)
 show XR _ _ (newExc (.type "StopIteration") []>>=_) _ _ _
 refine Xd ?_
 simp only[newExc,newTuple]
 refine Xd (Br ?_ (by size_fits))
 refine Xd (m:=firstArgMember _ _) (wpAny_of_eq (a:=QH) (by first|rfl|(simp only[firstArgMember];rfl)) ?_)
 refine Br ?_ (by size_fits)
 simp only[raiseNew]
 refine Xd (wpAny_handled ?_)
 rw[show A.in1.handled=none from hh]
 refine Xd (Xy (wpAny_throw ?_))
 refine Xd (wpAny_isInstance (T :="StopIteration") (b:=true) ⟨_,XQ _ rfl,rfl⟩ isSubtype_stop ?_)
 exact Xy (hQ _ (((Uj ..).extBut.push _).push _))
theorem Zrs(hh:A.handled=none)(I d:Addr)(hne:d≠I)(es:Array DictEntry)(ep:Nat) :
  Walks prog w A I [I,d] [I] es.size (λi v=>∃e,es[i]? =some e/\v=e.key) (λi h=>h.IsKeyIter I d i es.size ep/\LiesD h d es ep) where
 sub:=λb hb=>by simp at hb;simp[hb]
 frame:=λ_ _ _ st hk=>⟨st.1.at λo e=>hk I (by simp) o e,st.2.ext λo e=>hk d (by simp) o e⟩
 item:=λi s Q E hi st hQ=>by
  obtain⟨e,hx⟩:∃p,es[i]? =some p:=⟨es[i],by simp[hi]⟩
  refine Zs2 st.1 st.2 hx λh' hit' hs'=>?_
  exact hQ e.key h' s.toks ⟨e,hx,rfl⟩ ⟨hit',st.2.ext λo q=>hs'.extBut d o hne q⟩ λb o hb e=>hs'.extBut b o (λh=>hb (by simp[h])) e
 done:=λs Q E st hQ=>Zyy hh st.1 st.2 (XC _) λh' he'=>hQ h' s.toks λb o hb e=>he' b o (λh=>hb (by simp[h])) e
 self:=λ_ _ _ _ st hQ=>wpAny_pyIter_keyiter st.1 hQ
theorem Zy1(lo:(d==BV)=false):KdlSrc prog w "dict" d d es.size (λi v=>∃e,es[i]? =some e/\v=e.key) (λh=>LiesD h d es ep) where
 type:=λ_ hm=>hm.ty
 there:=λ_ hm=>let⟨_,ho,_⟩:=hm;⟨XH ho,XH ho⟩
 keep:=λ_ _ hm hk=>hm.ext λo e=>hk d (.inl rfl) o e
 notList:=by decide
 notTuple:=by decide
 hint:=λ_ _ _ _ hm hq=>kdl_hint_dict hm.ty hq
 iter:=λ_ s hh hm=>⟨_,_,(λ_ _ hq=>Zu2 lo hm hq),Zrs hh _ d (let⟨_,ho,_⟩:=hm;Xu (XH ho)) es ep,⟨⟨_,XQ _ rfl,rfl,rfl⟩,hm.ext λo e=>Xh _ e⟩⟩
end
def KL(H:Hp)(kvs:List (List Key×V))(vs:List V):Prop:=vs.length=kvs.length/\∀(i:Nat) (k:List Key) (x:V),kvs[i]? =some (k,x)->∃b,vs[i]? =some (.ref b)/\H b=some (.tup (k.map kV))
def Z06:List V->Hp->VK->Prop:=λxs H Q=>∃d kvs,xs=[.ref d]/\Rd H d (.dT kvs)/\kvs.length<=Xk/\∀vs:List V,KL H kvs vs->∀p,H p=none->Q (.ref p) (upd H p (.lst vs))
theorem Zsk(hc:X.calm=true):Zb3 X (.type "list") Z06:=by
 intro pins s σ H xs us Q I rv h
 obtain⟨d,kvs,rfl,rd,hn,q⟩:=h
 obtain⟨u,rfl,ru⟩:=rv.one
 obtain rfl:u=Qo d:=ru
 obtain⟨t1,t2,nsys⟩:=Z8x I (.inr ⟨kvs,rd⟩)
 obtain⟨ob,I2⟩:=I.frozen rd
 obtain⟨ho1,ok⟩:=(show ObjOk X.prog X.w _ s.heap d (.frz ob (.dT kvs))from I2.hok d _ Zy)
 obtain⟨_,_,xs,pr,o',en,ep,ho2,ex,dat,el,_⟩:=(show ObjOk X.prog X.w _ s.heap d (.dT kvs)from ok)
 rw[ho1]at ho2
 cases ho2
 obtain⟨lx,ax⟩:=Zun pr
 have sz:en.size=xs.length:=by rw[<-JC,el,Xc]
 have L:LiesD s.heap d en ep:=⟨ob,ho1,ex,dat⟩
 refine kdl_call (Zy1 nsys) (I.ok.hd hc) L (by rw[sz,<-lx];exact hn) λh' tk acc c hk hD hacc=>?_
 obtain⟨vs,hvs⟩:∃vs:List V,vs=xs.map λz=>.ref z.2.1:=⟨_,rfl⟩
 have lv:vs.length=kvs.length:=by rw[hvs,Xc,lx]
 have KL':KL H kvs vs:=⟨lv,λi k x h=>by
  obtain⟨z,hz,r1,r2,r3⟩:=ax i (k,x) h
  refine⟨z.2.1,by rw[hvs,Xj,hz];rfl,?_⟩
  by_cases y:z.2.1=d
  .rw[y,Zy]at r2;cases r2
  .rwa[Zt y]at r2⟩
 have ea:acc.toList=xs.map λz=>Qo z.2.1:=by
  refine List.ext_getElem? λi=>?_
  rw[Xj,QZ]
  by_cases ci:i<acc.size
  .obtain⟨e,h1,h2⟩:=hacc.2 i acc[i] (BP ci)
   rw[BP ci,h2]
   rw[<-QZ,el,Xj]at h1
   cases hz:xs[i]? with
   | none=>rw[hz]at h1;cases h1
   | some z=>rw[hz]at h1;cases h1;rfl
  .rw[Vk (by omega),Q0 (by have:=hacc.1;omega)];rfl
 have vv:∀xs:List (List Key×Addr×Xe),Vals (xs.map λz=>V.ref z.2.1) (xs.map λz=>Qo z.2.1):=λxs=>by
  induction xs with
  | nil=>exact .nil
  | cons z xs ih=>exact .cons rfl ih
 refine⟨.ref s.heap.objs.size,_,I.laid (a:=s.heap.objs.size) (t':=tk) (o:=.lst vs) hk (XC _) ⟨by rw[lv];exact hn,acc.toList,c,by rw[ea,hvs];exact vv xs,by rw[Array.toArray_toList];exact hD⟩,rfl,q vs KL' _ (I.hok.fresh (XC _))⟩
def Zkn:List Xa->Option OT:=λds=>match ds with
 | [.dict ((.none,.bool true) :: kvs)]=>if kvs.length<=Xk then some (.nd ((kvs.map (·.1)).map OT.fz))else none
 | _=>none
def Z12:List Xa->(OT->Prop)->Prop:=λds k=>∃r,Zkn ds=some r/\k r
theorem Z6c:∀(ds:List Xa) (r:OT) (k:OT->Prop),Zkn ds=some r->k r->Z12 ds k:=λds r k h hk=>⟨r,h,hk⟩
theorem Zz1:PN G Z06 Z12:=λH L xs ds k Q hx h kk=>by
 obtain⟨r,h,hk⟩:=h
 unfold Zkn at h
 split at h
 case h_2=>cases h
 rename_i kvs
 split at h
 case isFalse=>cases h
 rename_i hl
 cases h
 cases hx with
 | cons q r0=>
  cases r0
  generalize ed:Xa.dict ((.none,.bool true) :: kvs)=d at q
  cases q with
  | @dic a o t ks xs ds l e kd r=>
   unfold dcD at ed
   injection ed with ed
   injection ed with e1 e2
   injection e1 with _ e1
   injection e1 with e1
   subst e1 e2
   cases o with
   | lst ys=>exact kd.elim
   | dK z=>cases kd.1
   | dT z=>
    obtain⟨_,rfl,rfl⟩:=kd
    have ld:=r.length
    rw[Xc]at ld
    have ek:(((z.map λp=>(.inr p.1:KY)).map kyD).zip ds).map (·.1)=z.map λp=>keyT p.1:=by
     rw[List.map_fst_zip (by rw[Xc,Xc];omega),Xr];rfl
    have lz:z.length<=Xk:=by
     rw[List.length_zip,Xc,Xc]at hl
     omega
    refine⟨a,z,rfl,e,lz,λvs K p hp=>?_⟩
    rw[ek]at hk
    have dv:∀(z:List (List Key×V)) (vs:List V),KL H z vs->Das G H L vs (z.map λp=>keyT p.1):=λz=>by
     induction z with
     | nil=>intro vs K;have:=List.length_eq_zero_iff.mp K.1;subst this;exact .nil
     | cons y z ih=>
      intro vs K
      cases vs with
      | nil=>cases K.1
      | cons v vs=>
       obtain⟨b,h1,h2⟩:=K.2 0 y.1 y.2 rfl
       cases h1
       exact .cons (.tup h2 (Zly y.1)) (ih vs ⟨Nat.succ.inj K.1,λi k x h=>K.2 (i+1) k x h⟩)
    exact kk _ _ _ [p] (Ye hp _) (Own.list hp (dv z vs K)) (Ze1 p) (Zct hp) hk
  | exc _ _ _=>unfold exD at ed;cases ed
  | fn _=>unfold fnD at ed;cases ed
  | _=>cases ed
end L2
namespace L2
open PySem PySem.Spec PyProof.Rows
def Yft(K:Xb):R2:=λx y H Q=>∃(L L':Addr->Prop) (ns ms:List Int),Da K H L x (.list (ns.map Xl))/\Da K H L' y (.list (ms.map Xl))/\Q (.bl (ltI ns ms)) H
theorem Z87(hu:X.A.units+64<UV):OpR X (QS .Lt) (Yft X.K):=by
 intro pins s σ H x y v u Q I rx ry h
 obtain⟨L,L',ns,ms,h1,h2,q⟩:=h
 obtain⟨as,k1⟩:=h1.reads rfl I rx (lay_ints ns).1
 obtain⟨bs,k2⟩:=h2.reads rfl I ry (lay_ints ms).1
 obtain⟨a,i1,rfl,⟨⟨cls,dd,data,sl⟩,hl,hc,n,hd⟩,z1⟩:=Zkv k1
 obtain⟨b,i2,rfl,⟨⟨cls2,dd2,data2,sl2⟩,hl2,hc2,n2,hd2⟩,z2⟩:=Zkv k2
 simp only at hc hd hc2 hd2
 subst hc hd hc2 hd2
 exact richCompare_meets_room (op:=.Lt) ⟨_,hl,rfl⟩ ⟨_,hl2,rfl⟩ F.slot_list_lt F.entry_list_lt (F.args_list_lt_2 _ _) (Zw1 a b i1 i2 n n2 dd dd2 sl sl2 z1 z2)
  ⟨hl,hl2,show Value.bool (ltI ns ms)≠Xe.notImplemented/\_ from⟨(λx=>nomatch x),⟨.bl (ltI ns ms),H,I,rfl,q⟩⟩⟩ (by omega)
def Yc3:Xa->Xa->Option Xa:=λd e=>match d,e with
 | .list ds,.list es=>(Zkb ds).bind λns=>(Zkb es).bind λms=>some (.bool (ltI ns ms))
 | _,_=>none
def Yf0:Xa->Xa->(Xa->Prop)->Prop:=λd e k=>∃r,Yc3 d e=some r/\k r
theorem Ygl:ByS Yc3 Yf0:=λ_ _ r _ h hk=>⟨r,h,hk⟩
theorem Z96:P2s G (Yft G) Yf0:=λH L x y d e k Q hx hy h kk=>by
 obtain⟨r,h,hk⟩:=h
 unfold Yc3 at h
 split at h
 case h_2=>cases h
 obtain⟨ns,h1,h⟩:=bs h
 obtain⟨ms,h2,h⟩:=bs h
 cases h
 rw[Zgg h1]at hx
 rw[Zgg h2]at hy
 exact⟨L,L,ns,ms,hx,hy,kk _ _ (.bl _) hk⟩
def Yh3(K:Xb):R2:=λx y H Q=>rI0 (λi j=>.bl (decide (i<j))) x y H Q\/Yft K x y H Q
theorem Yb5(hu:X.A.units+64<UV):OpR X (QS .Lt) (Yh3 X.K):=λpins s σ H x y v u Q I rx ry h=>h.elim (Z30 pins s σ H x y v u Q I rx ry) (Z87 hu pins s σ H x y v u Q I rx ry)
def Yjl:Xa->Xa->(Xa->Prop)->Prop:=λd e k=>Zzr (λi j=>.bool (decide (i<j))) d e k\/Yf0 d e k
def Z6k:Xa->Xa->Option Xa:=λd e=>(gLt d e).or (Yc3 d e)
theorem Ydt:ByS Z6k Yjl:=λd e r k h hk=>by
 unfold Z6k at h
 cases c:gLt d e with
 | some z=>
  rw[c]at h
  cases h
  exact .inl (Ydz d e _ k c hk)
 | none=>
  rw[c]at h
  exact .inr (Ygl d e r k h hk)
theorem Z7t:P2s G (Yh3 G) Yjl:=λH L x y d e k Q hx hy h kk=>h.elim (λh=>.inl (Zfw H L x y d e k Q hx hy h kk)) λh=>.inr (Z96 H L x y d e k Q hx hy h kk)
end L2
namespace L2
open PySem PySem.Spec PyProof.Rows PySem.W
theorem Zgh{lt:Nat->Nat->Bool}{f:α->KasT β}(t:KasT α):kEv lt (t.bind f)=kEv lt (f (kEv lt t)):=by
 induction t with
 | ret a=>rfl
 | ask i j k ih=>exact ih _
structure Tot(lt:Nat->Nat->Bool)(n:Nat):Prop where
 tr:∀i j k,i<n->j<n->k<n->lt i j=true->lt j k=true->lt i k=true
 tot:∀i j,i<n->j<n->i≠j->lt i j=false->lt j i=true
 asy:∀i j,i<n->j<n->lt i j=true->lt j i=false
section
variable {lt:Nat->Nat->Bool}{n:Nat}
abbrev gD(p:Array Nat)(i:Nat):Nat:=p.getD i 0
theorem kP.size{p:Array Nat}(h:kP n p):p.size=n:=by rw[<-JC,List.Perm.length_eq h,XD]
theorem Zpw{p:Array Nat}(h:i<p.size):p[i]? =some (gD p i):=by rw[BP h];simp[gD,Array.getD,h]
theorem Zyd{p q:Array Nat}(h:p[i]? =q[j]?):gD p i=gD q j:=by
 show p.getD i 0=q.getD j 0
 rw[Array.getD_eq_getD_getElem?,Array.getD_eq_getD_getElem?,h]
theorem kP.blw{p:Array Nat}(h:kP n p)(hi:i<n):gD p i<n:=h.at (Nat.lt_of_le_of_lt (JF _) hi) i
theorem kP.ne{p:Array Nat}(h:kP n p)(hi:i<j)(hj:j<n):gD p i≠gD p j:=λe=>by
 have nd:p.toList.Nodup:=(List.Perm.nodup_iff h).mpr List.nodup_range
 have sz:=h.size
 have a:=Zpw (p:=p) (i:=i) (by omega)
 have b:=Zpw (p:=p) (i:=j) (by omega)
 rw[<-QZ]at a b
 obtain⟨a1,a2⟩:=Xi.mp a
 obtain⟨b1,b2⟩:=Xi.mp b
 exact VN.mp nd i j a1 b1 hi (by rw[a2,b2,e])
def Ri(lt:Nat->Nat->Bool)(p:Array Nat)(m:Nat):Prop:=∀i j,i<j->j<m->lt (gD p i) (gD p j)=true
def Fa(lt:Nat->Nat->Bool)(p:Array Nat)(m:Nat):Prop:=∀i j,i<j->j<m->lt (gD p j) (gD p i)=true
variable (T:Tot lt n)
include T
theorem Z0k{p:Array Nat}(h:kP n p)(f:Nat):∀m,1<=m->m+f<=n->Ri lt p m->Ri lt p (kEv lt (kas_asc p f m))/\m<=kEv lt (kas_asc p f m)/\kEv lt (kas_asc p f m)<=m+f/\(kEv lt (kas_asc p f m)<m+f->lt (gD p (kEv lt (kas_asc p f m))) (gD p (kEv lt (kas_asc p f m)-1))=true):=by
 induction f with
 | zero=>exact λm _ _ r=>⟨r,XC _,XC _,λz=>absurd z (QC _)⟩
 | succ f ih=>
  intro m h1 hn r
  show _/\_
  rw[kas_asc,kEv]
  cases c:lt (p.getD m 0) (p.getD (m-1) 0)with
  | true=>
   rw[if_pos rfl,kEv]
   exact⟨r,XC _,Bu _ _,λ_=>c⟩
  | false=>
   rw[if_neg Xm]
   have up:lt (gD p (m-1)) (gD p m)=true:=T.tot _ _ (h.blw (by omega)) (h.blw (by omega)) (h.ne (by omega) (by omega)).symm c
   have r2:Ri lt p (m+1):=λi j hij hj=>by
    rcases Ui j m with q|q
    .exact r i j hij q
    .have:j=m:=by omega
     subst this
     rcases Ui i (j-1)with q2|q2
     .exact T.tr _ _ _ (h.blw (by omega)) (h.blw (by omega)) (h.blw (by omega)) (r i (j-1) q2 (by omega)) up
     .have:i=j-1:=by omega
      subst this
      exact up
   obtain⟨a,b,c,d⟩:=ih (m+1) (by omega) (by omega) r2
   exact⟨a,by omega,by omega,λz=>d (by omega)⟩
theorem Z3v{p:Array Nat}(h:kP n p)(f:Nat):∀m,1<=m->m+f<=n->Fa lt p m->∃m',kEv lt (kas_desc f p m 0)=(p,m',0)/\Fa lt p m'/\m<=m'/\m'<=m+f:=by
 induction f with
 | zero=>exact λm _ _ r=>⟨m,rfl,r,XC _,XC _⟩
 | succ f ih=>
  intro m h1 hn r
  rw[kas_desc,kEv]
  cases c:lt (p.getD m 0) (p.getD (m-1) 0)with
  | true=>
   rw[if_pos rfl,if_neg (QC _)]
   have r2:Fa lt p (m+1):=λi j hij hj=>by
    rcases Ui j m with q|q
    .exact r i j hij q
    .have:j=m:=by omega
     subst this
     rcases Ui i (j-1)with q2|q2
     .exact T.tr _ _ _ (h.blw (by omega)) (h.blw (by omega)) (h.blw (by omega)) c (r i (j-1) q2 (by omega))
     .have:i=j-1:=by omega
      subst this
      exact c
   obtain⟨m',e,a,b,d⟩:=ih (m+1) (by omega) (by omega) r2
   exact⟨m',e,a,by omega,by omega⟩
  | false=>
   rw[if_neg Xm,kEv]
   have up:lt (p.getD (m-1) 0) (p.getD m 0)=true:=T.tot _ _ (h.blw (by omega)) (h.blw (by omega)) (h.ne (by omega) (by omega)).symm c
   rw[up,if_pos rfl,kEv]
   exact⟨m,rfl,r,XC _,Bu _ _⟩
theorem Zyi{p:Array Nat}(h:kP n p)(h0:0<n):∃m p',kEv lt (kas_count n p)=(m,p')/\kP n p'/\Ri lt p' m/\1<=m/\m<=n:=by
 rw[kas_count,Zgh]
 obtain⟨a,b,c,d⟩:=Z0k T h (n-1) 1 (XC _) (by omega) λi j _ _=>by omega
 generalize kEv lt (kas_asc p (n-1) 1)=m at a b c d
 by_cases e:m=n
 .rw[if_pos (by rw[e];exact beq_self_eq_true _),kEv]
  exact⟨m,p,rfl,h,a,b,by omega⟩
 rw[if_neg (λz=>e (beq_iff_eq.mp z))]
 by_cases m1:m>1
 .rw[if_pos m1,kEv,a 0 (m-1) (by omega) (by omega),if_pos rfl,kEv]
  exact⟨m,p,rfl,h,a,b,by omega⟩
 rw[if_neg m1]
 have em:m=1:=by omega
 subst em
 have lt1:=d (by omega)
 rw[kas_descPart,Zgh]
 obtain⟨m',e2,f2,b2,d2⟩:=Z3v T h (n-(1+1)) (1+1) (by omega) (by omega) λi j hij hj=>by
  have:i=0:=by omega
  have:j=1:=by omega
  subst i j
  exact lt1
 rw[e2,if_neg (QC _),kas_tail3,Zgh,kEv]
 have kr:kP n (kas_rev p 0 m'):=h.rev _ _
 have rr:Ri lt (kas_rev p 0 m') m':=λi j hij hj=>by
  have ge:∀k,k<m'->gD (kas_rev p 0 m') k=gD p (m'-1-k):=λk hk=>Zyd (by
   have:=getElem?_mirror_all (xs:=p) (i:=0) (j:=m') (by rw[h.size];omega) k
   rw[if_pos ⟨JF _,hk⟩,Ug]at this
   exact this)
  rw[ge i (by omega),ge j hj]
  exact f2 _ _ (by omega) (by omega)
 obtain⟨a,b,c,_⟩:=Z0k T kr (n-m') m' (by omega) (by omega) rr
 have n2:2<=n:=by omega
 have:m'<=n:=by omega
 refine⟨_,_,rfl,kr,a,?_,?_⟩
 .exact Qa (by omega) b
 .exact Qa c (by omega)
theorem Zzq{p:Array Nat}(h:kP n p){k:Nat}(hk:k<n)(f:Nat):∀l r,l<=r->r<=k->r-l<=f->(∀i,i<l->lt (gD p i) (gD p k)=true)->(∀i,r<=i->i<k->lt (gD p k) (gD p i)=true)->Ri lt p k ->
  kEv lt (kas_place p k f l r)<=k/\(∀i,i<kEv lt (kas_place p k f l r)->lt (gD p i) (gD p k)=true)/\∀i,kEv lt (kas_place p k f l r)<=i->i<k->lt (gD p k) (gD p i)=true:=by
 induction f with
 | zero=>
  intro l r lr rk z a b R
  have:l=r:=by omega
  subst this
  exact⟨rk,a,b⟩
 | succ f ih=>
  intro l r lr rk z a b R
  rw[kas_place]
  by_cases c:l>=r
  .rw[if_pos c,kEv]
   exact⟨by omega,a,λi x y=>b i (by omega) y⟩
  rw[if_neg c,kEv]
  have hm:(l+r)/2<k:=by omega
  cases q:lt (p.getD k 0) (p.getD ((l+r)/2) 0)with
  | true=>
   rw[if_pos rfl]
   refine ih _ _ (by omega) (by omega) (by omega) a (λi x y=>?_) R
   by_cases e:i=(l+r)/2
   .subst e;exact q
   .exact T.tr _ _ _ (h.blw hk) (h.blw (by omega)) (h.blw (by omega)) q (R _ _ (by omega) y)
  | false=>
   rw[if_neg Xm]
   have up:lt (gD p ((l+r)/2)) (gD p k)=true:=T.tot _ _ (h.blw hk) (h.blw (by omega)) (h.ne hm hk).symm q
   refine ih _ _ (by omega) (by omega) (by omega) (λi x=>?_) b R
   by_cases e:i=(l+r)/2
   .subst e;exact up
   .exact T.tr _ _ _ (h.blw (by omega)) (h.blw (by omega)) (h.blw hk) (R _ _ (by omega) hm) up
theorem Yce(f:Nat):∀{p:Array Nat} (h:kP n p) (k:Nat),k+f<=n->Ri lt p k->Ri lt (kEv lt (kas_bin f p k)) (k+f):=by
 induction f with
 | zero=>exact λh k _ r=>r
 | succ f ih=>
  intro p h k hn r
  rw[kas_bin,Zgh]
  obtain⟨a,b,c⟩:=Zzq T h (k:=k) (by omega) k 0 k (JF _) (XC _) (by omega) (λi z=>absurd z (Vo _)) (λi x y=>absurd y (by omega)) r
  generalize kEv lt (kas_place p k k 0 k)=l at a b c
  have ge:∀j,gD (bubble p k (k-l)) j=if j=l then gD p k else if l<j/\j<=k then gD p (j-1)else gD p j:=λj=>by
   have e:=getElem?_bubble (xs:=p) (src:=k) (by rw[h.size];omega) (k-l) (by omega) j
   have e0:k-(k-l)=l:=by omega
   rw[e0]at e
   by_cases c1:j=l
   .rw[if_pos c1]at e|-
    exact Zyd e
   .rw[if_neg c1]at e|-
    by_cases c2:l<j/\j<=k
    .rw[if_pos c2]at e|-
     exact Zyd e
    .rw[if_neg c2]at e|-
     exact Zyd e
  have:=ih (h.bub k (k-l)) (k+1) (by omega) λi j hij hj=>?_
  .rw[show k+1+f=k+(f+1) by omega]at this
   exact this
  rw[ge,ge]
  rcases Vv j l with q|q|q
  .rw[if_neg (by omega),if_neg (by omega),if_neg (by omega),if_neg (by omega)]
   exact r i j hij (by omega)
  .rw[if_neg (by omega),if_neg (by omega),if_pos q]
   exact b i (by omega)
  .rw[if_neg (show¬j=l by omega),if_pos (show l<j/\j<=k by omega)]
   rcases Vv i l with q2|q2|q2
   .rw[if_neg (by omega),if_neg (by omega)]
    exact r i (j-1) (by omega) (by omega)
   .rw[if_pos q2]
    exact c (j-1) (by omega) (by omega)
   .rw[if_neg (by omega),if_pos (by omega)]
    exact r (i-1) (j-1) (by omega) (by omega)
theorem Z2y(h0:0<n):Ri lt (kEv lt (kas_sort n)) n:=by
 rw[kas_sort,Zgh]
 obtain⟨m,p,e,kp,r,l1,l2⟩:=Zyi T (p:=VF (Xz n)) (List.Perm.refl _) h0
 rw[e]
 by_cases c:m<n
 .rw[if_pos c]
  have em:max m 1=m:=by omega
  rw[em]
  have:=Yce T (n-m) kp m (by omega) r
  rw[show m+(n-m)=n by omega]at this
  exact this
 .rw[if_neg c,kEv]
  have:m=n:=by omega
  rw[this]at r
  exact r
theorem Z35(h0:0<n):(Zsu lt n).Pairwise λi j=>lt i j=true:=by
 have h:kP n (kEv lt (kas_sort n)):=(Zja h0).ev (P:=kP n)
 have r:=Z2y T h0
 refine VN.mpr λi j hi hj hij=>?_
 have sz:=h.size
 rw[<-JC]at sz
 have l2:(Zsu lt n).length=n:=sz
 have ge:∀k (hk:k<(Zsu lt n).length),(Zsu lt n)[k]=gD (kEv lt (kas_sort n)) k:=λk hk=>by
  have:=Zpw (p:=kEv lt (kas_sort n)) (i:=k) (by rw[h.size];omega)
  rw[<-QZ]at this
  exact(Xi.mp this).2
 rw[ge,ge]
 exact r i j hij (by omega)
end
theorem Z2q{β:Type}{d:α}{lt:Nat->Nat->Bool}{vs:List α}{R:α->α->Prop}(T:Tot lt vs.length)(hR:∀i j,i<vs.length->j<vs.length->lt i j=true->R (vs.getD i d) (vs.getD j d)):(sLay d lt vs).Pairwise R:=by
 unfold sLay
 split
 .rename_i c
  match vs,c with
  | [],_=>exact .nil
  | [a],_=>exact List.pairwise_singleton _ _
 .rename_i c
  have pm:=Ziz (lt:=lt) (n:=vs.length) (by omega)
  have up:=Z35 T (by omega)
  have h:=List.Pairwise.imp_of_mem (fun{i j} hi hj e=>hR i j (Qn.mp (pm.mem_iff.mp hi)) (Qn.mp (pm.mem_iff.mp hj)) e) up
  exact List.pairwise_map.mpr h
end L2
namespace L2
open PySem PySem.Spec PyProof.Rows
def Z24(m:MEt):MEt:=λδ K=>m δ λr δ1=>match r with| .nd ts=>K (.nd ((OT.datas ts).map OT.fz)) δ1|_=>False
section
variable {b:Expr}{pos:Pos}
theorem Yfs{t:TE}(s:SE G io p true t m):SE G io p true t (Z24 m):=by
 refine λC H σ δ fp ex K Q R h kk=>s C H σ δ fp ex _ _ R h λH1 v r δ1 fp1 new r1 h1=>?_
 split at h1
 case h_2=>exact h1.elim
 rename_i ts
 obtain⟨rel,stp,own,nd,fresh⟩:=r1
 generalize et:OT.nd ts=o at own
 cases own with
 | nd e1 ow=>
  rename_i a xs ts' bs
  cases et
  have hn:=Qm.mp nd
  refine kk H1 (.ref a) _ δ1 fp1 [a] ⟨rel.drop λb z=>z.imp id λz=>by rw[Xn.mp z];exact .head _,stp,.nd e1 (Das.owns (ow.das (λb l q hc=>?_) λb hb hc=>?_)),Qm.mpr ⟨(λz=>nomatch z),.nil⟩,λb hb=>by rw[Xn.mp hb];exact fresh a (.head _)⟩ h1
  .exact⟨(l hc).1,λz=>(l hc).2.1 (z.imp id λz=>by rw[Xn.mp z];exact .head _),(l hc).2.2⟩
  .have ok:=R.newOk (fresh b (.tail _ hb))
   refine⟨λz=>?_,λz=>z.elim ok.2.1 λz=>hn.1 (by rw[<-Xn.mp z];exact hb),.inr ok.2.2⟩
   obtain⟨j,z⟩:=z
   exact rel.dx j b z (.inr (.tail _ hb))
 | _=>cases et
theorem Zo5{pt:Bool}{g:MGt}{mt:MTt}{me:MEt}{sc:Ud}{y:Str}(hN:X.N.Nodup)(hy:X.N[i]? =some y)(hx:Loc X.env.scope y)(S:CompScope X own caps N' sc)(hc:X.calm=true)(nd:caps.Nodup)(hi:MI X io p ci tg iter mi)
  (hg:∀C cells s₂ H₂ fp,MG (Y4 X N' sc C cells s₂ H₂ fp) (Zac own.length caps) ci tg g) (ht:∀C cells s₂ H₂ fp,MIfs (Y4 X N' sc C cells s₂ H₂ fp) (Zac own.length caps) pt ifs mt) (he:∀C cells s₂ H₂ fp,ME (Y4 X N' sc C cells s₂ H₂ fp) (Zac own.length caps) pe true elt me)
  (hp:(pt&&pe)=true:=by rfl) (hio:i∉io:=by decide)
  (hsw:BK (.ListComp elt [⟨tg,iter,ifs,0⟩] sc pos) (some (.Name y py)) spos.line X.env=pure true:=by rfl)
  (hs:∀x,Ba iter X.env x=pure x:=by intro _;rfl) (hf:X.fn y=true\/X.env.scope.names.lookup y=some .local:=by first|exact .inl rfl|exact .inr rfl|assumption) :
  MS X io (.Assign [.Name y py] (.ListComp elt [⟨tg,iter,ifs,0⟩] sc pos) spos) (Zn3 i (Z24 (Zg5 own.length caps mi g mt me))):=by
 obtain⟨_,A,si⟩:=hi
 exact⟨_,Zky (g:=gM X.K (Zac own.length caps) ci g) (tt:=ttM X.K (Zac own.length caps) pt mt) (te:=tM X.K (Zac own.length caps) pe true me) hN hy hx S hc A (λC cells s₂ H₂ fp=>(hg C cells s₂ H₂ fp).canon) (λC cells s₂ H₂ fp=>(ht C cells s₂ H₂ fp).canon) (λC cells s₂ H₂ fp=>(he C cells s₂ H₂ fp).canon) hsw hs hf,Z21 (Yfs (Zxu si nd hp)) hio⟩
def Yi1(i:Nat)(mb:MEt):MEt:=λδ K=>∃ts,δ[i]? =some (some (.nd ts))/\Zp1 ts=true/\mb δ λn δ1=>asI n.data λk=>match atI (OT.datas ts) k with|some d=>K (.fz d) δ|none=>False
theorem Yfk(i:Nat)(hb:ME X io true c b mb)(hs:Zjc b)
  (hN:X.N[i]? =some x:=by rfl) (hv:Vis X.env.scope x:=by first|exact Qw rfl|exact Qt (Qw rfl)|exact Qt (Qt rfl)) (hd:(x==("__debug__" : Str))=false:=by decide) (hcd:(x==("__classdict__" : Str))=false:=by decide):ME X io true true (.Subscript (.Name x px) b pos) (Yi1 i mb):=by
 obtain⟨_,B,sb⟩:=hb
 refine⟨_,Z2u (Zqf rfl) (pv i hN hv hd hcd) B hs,λC H σ δ fp ex K Q R h kk=>?_⟩
 obtain⟨ts,hi,hz,h⟩:=h
 obtain⟨a',xs,bs,hv0,hx,ow,hfp⟩:=R.ownNd hi
 refine⟨_,hv0,sb.pureAfter R h λH2 w n R2 s2 q2 h2=>?_⟩
 obtain⟨k,e2,h2⟩:=q2.intInv h2
 subst e2
 split at h2
 case h_2=>exact h2.elim
 rename_i d ed
 have qs:=(ow.fz_das hz).same s2
 obtain⟨v,e3,q⟩:=qs.atI ed
 exact .inl ⟨a',xs,k,v,rfl,rfl,.inl (.inl (s2 _ _ hx)),e3,kk H2 v _ δ fp [] (.fz R2 (.same s2 s2.al) (q.wide λa l _ _=>l)) h2⟩
end
def Zs7(e:FE):FE:=λδ=>(e δ).bind λp=>match p.1 with| .nd ts=>some (.nd ((OT.datas ts).map OT.fz),p.2)|_=>none
def Ydb(i:Nat)(b:FE):FE:=λδ=>(Ycs δ[i]?).bind λts=>(b δ).bind λq=>match q.1.data with
 | .int k=>(atI (OT.datas ts) k).bind λd=>some (.fz d,δ)
 | _=>none
theorem Zy4{n:Nat}{t:FT}(h:MS X io st (Zn3 i (Z24 (Zg5 n caps (o2 it) (oG gg) (o2 t) (o2 me))))):MS X io st (oS (wE (Zs7 (Yn n caps it gg t me)) (Zbh i))):=h.weak λD δ h=>by
 obtain⟨r,δ',h,k⟩:=Zmk h
 obtain⟨⟨x,δ1⟩,h1,h⟩:=bs h
 refine Zqv ⟨x,δ1,h1,?_⟩
 try dsimp only at h|-
 split at h
 case h_2=>cases h
 cases h
 exact k
theorem Z64(h:ME X io p c e (Yi1 i (o2 fb))):ME X io p c e (o2 (Ydb i fb)):=h.weak λδ K h=>by
 obtain⟨r,δ',h,k⟩:=h
 obtain⟨ts,h1,h⟩:=bs h
 obtain⟨e1,e2⟩:=Z6g h1
 obtain⟨⟨y,δ2⟩,h2,h⟩:=bs h
 refine⟨ts,e1,e2,y,δ2,h2,?_⟩
 try dsimp only at h|-
 split at h
 case h_2=>cases h
 rename_i n q
 obtain⟨d,h3,h⟩:=bs h
 cases h
 rw[q]
 show(match atI (OT.datas ts) n with|some d=>K (.fz d) δ|none=>False)
 rw[h3]
 exact k
end L2
namespace My
open PySem L2 PySem.Spec
abbrev Wt:=Zw 0
def Zde:FS :=
 (wE (Zoq (Zhy "int" Wt) (fUn Ycx (Zhy "bool" Wt))) W7)
def Zc1:FD:=Jb 1 1 Zde
abbrev Zax:=Zw 1
abbrev Yc9:=Zh gEq Wt Zax
abbrev Zdg:=Zd Wt Z5
abbrev Z6j:=fC .none
abbrev Zh2:=wE (fC (.bool false)) W7
abbrev Zxg:=Zgl Zll Zdg
abbrev Zli:=Zd Zax Z5
abbrev Ziu:=Zw 2
abbrev Zq0:=Zw 3
abbrev Z45:=Zd Zq0 Z5
abbrev Yc7:=wE (fC (.bool true)) W7
def Jf(R:FD):FS :=
 (Z3 (Jd (tD (Zhy "bool" Zax))
  (wE (Zoq (Zhy "bool" Wt) Yc9) W7)
  fNx)
  (Z3 (Jd (tD (Zhy "int" Zax))
  (wE (Zoq (Zo Zc1 Zdg) Yc9) W7)
  fNx)
  (Z3 (Jd (tD (Zhy "str" Zax))
  (wE (Zoq (Zhy "str" Wt) Yc9) W7)
  fNx)
  (Z3 (Jd (tV (Zh gIs Zax Z6j))
  (wE (Zh gIs Wt Z6j) W7)
  fNx)
  (Z3 (Jd (tO (tV (Zh gNe (Zhy "tuple" Zax) (Zhy "tuple" Wt))) (tV (Zh gNe (Zhy "list" Zax) (Zhy "list" Wt))))
  Zh2
  fNx)
  (Z3 (Jd (tV (Zh gNe Zxg (Zgl Zll Zli)))
  Zh2
  fNx)
  (Z3 (Zb2 (Zgk (Zd Wt Zli)) (gTp 2 (gCn (gNm 2) (gCn (gNm 3) gNl)))
  (Jd (tNo (tD (Zo R (Zd Ziu Z45))))
  Zh2
  fNx))
  Yc7)))))))
def Zq:Nat->FD
 | 0=>λ_=>RF.bad
 | k+1=>Jb 2 4 (Jf (Zq k))
abbrev Zxh:=Zsb Z5
abbrev Zsx:=Zw 5
abbrev Zet:=fC (.int 1)
abbrev Ydd:=fC (.int 8)
abbrev Z6i:=fC (.int 10)
abbrev Zuo:=Zw 4
def Zb4:FS :=
 (Z3 (wE Zxh (Zbh 3))
  (Z3 (wE Wt (Zaa 4))
  (Z3 (Zb2 (iRa Zli) (gNm 5)
  (Z3 (wE (Zh Zdh (Zh Zkh (Zh Zhz (Zh Zhz Wt (Zh Zkh (fC (.int 977)) Zsx)) Zet) (fC (.int 48271))) (fC (.int 2147483647))) (Zaa 6))
  (Z3 (wE (Zh Zdh (Zh Zkh (Zw 6) (Zw 6)) (fC (.int 2147483629))) (Zaa 6))
  (Z3 (wE (Zh J6 (Zh Zdh (Zh Zkh (Zh Zhz (Zw 6) (Zh Zkh (fC (.int 40692)) (Zh Zhz Zsx (fC (.int 3))))) (fC (.int 69621))) (fC (.int 2147483423))) Ydd) (Zaa 6))
  (Z3 (Jd (tV (Zh gGe Wt (Zh Znz Z6i (fC (.int 18)))))
  (wE Zuo (Zaa 6))
  fNx)
  (Z3 (W2 3 (Zh Zdh (Zw 6) Ziu))
  (wE (Zh J6 Zuo Ziu) (Zaa 4))))))))
  (Zgc 3))))
def Wy:FD:=Jb 3 7 Zb4
abbrev Zki:=fC (.int 0)
abbrev Ycr:=Zh gNe Zax Zki
abbrev Yc6:=Zd Zax (Zd (Zh Zdh Wt Zax) Z5)
def Zb6:FS :=
 (Z3 (Zkt (tV Ycr) (Zxi 0 1 Yc6))
  (wE (Zgl Z6x Zdg) W7))
def J8:FD:=Jb 2 2 Zb6
def Za0:FS :=
 (Z3 (wE (Zo J8 (Zd Wt Zli)) (Zaa 2))
  (wE (Zji (Zd (Zh J6 Wt Ziu) (Zd (Zh J6 Zax Ziu) Z5))) W7))
def Yg:FD:=Jb 2 3 Za0
abbrev Z2w:=W8 gIx Wt Zki
abbrev Z4y:=W8 gIx Zax Zet
abbrev Z51:=W8 gIx Zax Zki
abbrev Z1t:=W8 gIx Wt Zet
def Zd5:FS :=
 (wE (Zo Yg (Zd (Zh Zhz (Zh Zkh Z2w Z4y) (Zh Zkh Z51 Z1t)) (Zd (Zh Zkh Z1t Z4y) Z5))) W7)
def Y8:FD:=Jb 2 2 Zd5
def Zc7:FS :=
 (Z3 (wE Zxh (Zbh 1))
  (Z3 (Zb2 (iRa Zdg) (gNm 2)
  (Zb2 (iRb (Zd (Zh Zhz Ziu Zet) Zdg)) (gNm 3)
  (W2 1 (Zji (Zd Ziu Z45)))))
  (Zgc 1)))
def Wf:FD:=Jb 1 4 Zc7
abbrev Zj4:=gNm 0
abbrev Z8j:=Zd Zet Z5
abbrev Z6n:=Zji (Zd Zki Z8j)
def Zed:FS :=
 (Z3 (wE (Yn 1 [0] (iRa Zdg) Zj4 Zdx (Yn 1 [] (iRa Zli) Zj4 Zdx Z6n)) (Zbh 2))
  (Z3 (Zb2 (Zgk (Zd Zax (Zd (Zo Wf Zdg) Z5))) (gTp 2 (gCn (gNm 3) (gCn (gTp 2 (gCn (gNm 4) (gCn (gNm 5) gNl))) gNl)))
  (Z3 (Zlz 2 Zq0 Zuo Zsx)
  (Zlz 2 Zq0 Zsx Zuo)))
  (Zgc 2)))
def Jr:FD:=Jb 2 6 Zed
abbrev Ya8:=gTp 2 (gCn Zj4 (gCn (gNm 1) gNl))
abbrev Zzp:=Zd Ziu Z5
def Zc5:FS :=
 (wE (Yn 2 [1] (Zcd Wt) Ya8 Zdx (Zji (Zd Wt (Zd (Zo Yg (Zd (Zh Zhz Zet (Zh Zdh Z51 (Zh Znz Z6i (fC (.int 9))))) Zzp)) Z5)))) W7)
def Zao:FD:=Jb 2 2 Zc5
abbrev Ybh:=fC (.int 4)
abbrev Yb7:=Zh Znz Wt Ybh
abbrev Ycm:=Zh Znz Z6i (fC (.int 40))
def Zea:FS :=
 (Z3 (wE (Zh Zdh Wt Ydd) (Zaa 1))
  (Z3 (wE (Zh J6 Wt Ydd) (Zaa 0))
  (Z3 (Jd (tV (Zh gEq Zax Zki))
  (wE Z6n W7)
  fNx)
  (Z3 (Jd (tV (Zh gLt Zax Ybh))
  (wE (Zji (Zd (Zh Zdh Wt (fC (.int 31))) Z8j)) W7)
  fNx)
  (Z3 (Jd (tV (Zh gLt Zax (fC (.int 6))))
  (wE (Zo Yg (Zd (Zh Zdh Wt (fC (.int 41))) (Zd (Zh Zhz Zet (Zh Zdh (Zh J6 Wt (fC (.int 41))) (fC (.int 12)))) Z5))) W7)
  fNx)
  (Z3 (Jd (tV (Zh gEq Zax (fC (.int 6))))
  (wE (Zji (Zd (Zh Zdh Yb7 Ycm) Z8j)) W7)
  fNx)
  (wE (Zo Yg (Zd (Zh Zdh Yb7 Ycm) (Zd (Zh Zhz Zet (Zh Zdh (Zh J6 Yb7 (fC (.int 7))) (Zh gSb Ycm Zet))) Z5))) W7)))))))
def Js:FD:=Jb 1 2 Zea
abbrev Z1y:=Zcd Zax
abbrev Z0s:=fC (.int 2)
abbrev Ylp:=Zd Z0s (Zd Ybh (Zd Ydd (Zd (fC (.int 16)) (Zd (fC (.int 32)) (Zd (fC (.int 64)) (Zd (fC (.int 128)) (Zd (fC (.int 256)) Z5)))))))
abbrev Yg6:=tV (Zh gEq (Zh Zdh (Zh J6 Zax (W8 gIx (Zsb (Zd Zet Ylp)) Wt)) Z0s) Zet)
abbrev Yhn:=Zo Js (Zd (Zh Zdh (Zh J6 Zq0 (fC (.int 512))) (Zh Znz Z6i (fC (.int 13)))) Z5)
abbrev Ygz:=tV (Zh gGt (W8 gIx Zsx Zki) Zki)
abbrev Z6u:=Zd Zuo Z5
def W3:FS :=
 (Z3 (wE (Z8h true) (Zbh 2))
  (Z3 (Zb2 Z1y (gNm 3)
  (Z3 (wE (Yn 1 [3] (iRa (Zd (Zh gSb Wt Zet) Z5)) Zj4 Yg6 (Zh Zhz Wt Zet)) (Zaa 4))
  (Z3 (wE Yhn (Zaa 5))
  (Jd (tAn (tV (Zh gNe Zuo Zxh)) Ygz)
  (Zxn 2 Zsx (fBl Zy8 Z6u))
  fNx))))
  (Zcu 2 (wE (Yn 1 [2] (Zcd (fBl (Zmq kdV ltI) (Zd (fBl Zkn Zzp) Z5))) Zj4 Zdx (Zrw (Zd (fBl Znn Zdg) (Zd (W8 Z1a Zax Wt) Z5)))) W7))))
def Wz:FD:=Jb 2 6 W3
abbrev Yeb:=gCn (gNm 3) (gCn (gNm 4) gNl)
abbrev Yc2:=gCn (gNm 6) (gCn (gNm 7) gNl)
abbrev Ycq:=tV (Zh gNe (Zh (Z5a false) Zq0 (Zw 6)) (Zh (Z5a false) Zuo (Zw 6)))
abbrev Ye2:=wE (Zo Y8 (Zd Zsx (Zd (Zw 7) Z5))) (Zaa 5)
def Jx:FS :=
 (Z3 (wE Zxh (Zbh 2))
  (Z3 (Zb2 (Zcd (Zo Wf Zdg)) (gTp 2 Yeb)
  (Z3 (wE Z6n (Zaa 5))
  (Z3 (Zb2 Z1y (gTp 2 Yc2)
  (Jd Ycq
  Ye2
  fNx))
  (W2 2 Zsx))))
  (Zgc 2)))
def Jq:FD:=Jb 2 8 Jx
def Ze5:FS :=
 (Z3 (Zb2 (Zcd Ziu) (gNm 3)
  (Jd (tNo (tD (Zhy "str" Zq0)))
  Zh2
  fNx))
  (wE (Zh gEq (Zh gEq (W8 gIx Ziu Zki) (W8 gIx Ziu Zet)) Yc9) W7))
def Zab:FD:=Jb 3 4 Ze5
def Zb5:FS :=
 (Jd (tNo (tD (Zhy "str" Wt)))
  (Zk8 "NoText")
  fNx)
def Wx:FD:=Jb 1 1 Zb5
def Zad:FS :=
 (wE (Zjk (λi j=>decide (i<=j)) (λi j=>decide (i<=j)) Zet Wt Z6i) W7)
def Wr:FD:=Jb 1 1 Zad
def Zc2:FS :=
 (Z3 (Zb2 (Zgk (Zd Wt (Zd (fSl Wt (oI Zet) oN) Z5))) (gTp 2 (gCn (gNm 1) (gCn (gNm 2) gNl)))
  (Jd (tNo (tV (Zh Z6k Zax Ziu)))
  Zh2
  fNx))
  Yc7)
def Yv:FD:=Jb 1 3 Zc2
abbrev Yjg:=wE (Zoq (Zo Yv Zli) (Zoq (Zh gGe Z51 Zet) (Zh gLt (W8 gIx Zax (fUn Ybn Zet)) Wt))) W7
def Zgi:FS :=
 (Z3 (Jd (tO (tNo (tD (Zhy "list" Zax))) (tV (Zh gEq (Zgl Zll Zli) Zki)))
  Zh2
  fNx)
  (Z3 (Zb2 Z1y (gNm 2)
  (Jd (tNo (tD (Zo Z9 Zzp)))
  Zh2
  fNx))
  Yjg))
def Zau:FD:=Jb 2 3 Zgi
def Zbs:FS :=
 (Z3 (Jd (tO (tNo (tD (Zhy "tuple" Wt))) (tV (Zh gNe Zxg Z0s)))
  Zh2
  fNx)
  (Z3 (Jd (tO (tNo (tD (Zo Z9 (Zd Z2w Z5)))) (tNo (tD (Zo Z9 (Zd Z1t Z5)))))
  Zh2
  fNx)
  (wE (Zoq (Zh gGe Z1t Zet) (Zh gEq (Zo Z4 (Zd Z2w (Zd Z1t Z5))) Zet)) W7)))
def Yx:FD:=Jb 1 1 Zbs
abbrev Yh1:=wE (Zoq (Zo Zau (Zd Wt (Zd Z51 Z5))) (Zoq (Zo Yx (Zd Z4y Z5)) (Zh gGt (W8 gIx Z4y Zki) Zki))) W7
def J2:FS :=
 (Z3 (Jd (tO (tNo (tD (Zhy "tuple" Zax))) (tV (Zh gNe (Zgl Zll Zli) Z0s)))
  Zh2
  fNx)
  Yh1)
def Ys:FD:=Jb 2 2 J2
def Zbu:FS :=
 (Z3 (Jd (tNo (tD (Zhy "list" Zax)))
  Zh2
  fNx)
  (Z3 (Zb2 Z1y (gNm 2)
  (Jd (tNo (tD (Zo Ys (Zd Wt Zzp))))
  Zh2
  fNx))
  (wE (Zo Yv (Zd (Yn 1 [] Z1y Zj4 Zdx Z2w) Z5)) W7)))
def Wk:FD:=Jb 2 3 Zbu
def Zc6:FS :=
 (Z3 (Jd (tNo (tV (Zjk (λi j=>decide (i<=j)) (λi j=>decide (i<=j)) Zet (Zgl Zut Zdg) (fC (.int 40)))))
  Zh2
  fNx)
  (Z3 (Zb2 (Yfe Wt) (gNm 1)
  (Jd (tV (Zh (Z6m true) Zax (fC (.str "0123456789"))))
  Zh2
  fNx))
  (wE (fOr (Zh gEq Wt (fC (.str "0"))) (Zh gNe (W8 Ydc Wt Zki) (fC (.str "0")))) W7)))
def Zan:FD:=Jb 1 2 Zc6
def Zbr:FS :=
 (wE (fIf (tD (Zo Zan Zdg)) (Zgl Zur Zdg) Z6j) W7)
def Z7:FD:=Jb 1 1 Zbr
def Zat:FS :=
 (Z3 (wE (Zgl Z0w (Zd Z2w Z5)) (Zaa 1))
  (Z3 (Jd (tV (Zh gEq Z1t Zet))
  (wE Zax W7)
  fNx)
  (wE (Zh Zke (Zh Zke Zax (fC (.str "/"))) (Zgl Z0w (Zd Z1t Z5))) W7)))
def Yc:FD:=Jb 1 2 Zat
abbrev Yd0:=Zor Zae Wt (Zd (fC (.str "/")) Z5)
abbrev Z6t:=Zd (Zvn 1) Z5
abbrev Yit:=Z3 (wE (fBl Zy8 Z6t) (Zya 2))
  (wE (fIf (tAn (tD (Zo Yx Zzp)) (tV (Zh gEq (Zo Yc Zzp) Wt))) Ziu Z6j) W7)
def Zar:FS :=
 (Z3 (wE (Yn 1 [] (Zcd Yd0) Zj4 Zdx (Zo Z7 Zdg)) (Zbh 1))
  (Z3 (Jd (tV (Zh gEq (Zgl Zll Z6t) Zet))
  (W2 1 Zet)
  fNx)
  Yit))
def Yb:FD:=Jb 1 3 Zar
abbrev Z20:=fC (.str " ")
def Zas:FS :=
 (Z3 (wE (Zor Zae Wt (Zd (fC (.str ": ")) Z5)) (Zaa 1))
  (Z3 (Jd (tV (Zh gNe (Zgl Zll Zli) Z0s))
  (wE Z6j W7)
  fNx)
  (wE (Zrw (Zd (Yn 1 [] (Zcd (Zor Zae Z51 (Zd Z20 Z5))) Zj4 Zdx (Zo Z7 Zdg)) (Zd (Zo Yb (Zd Z4y Z5)) Z5))) W7)))
def Yk:FD:=Jb 1 2 Zas
def Jl:FS :=
 (Z3 (Jd (tV (Zh gEq Wt (fC (.str "none"))))
  (wE Zxh W7)
  fNx)
  (wE (Yn 1 [] (Zcd (Zor Zae Wt (Zd (fC (.str "; ")) Z5))) Zj4 Zdx (Zo Yk Zdg)) W7))
def Y5:FD:=Jb 1 1 Jl
def Zcz:FS :=
 (Z3 (wE (Zo Wx Zli) Zwe)
  (Z3 (wE (Zo Y5 Zli) (Zbh 2))
  (Z3 (Jd (tO (tNo (tD (Zo Wr Zdg))) (tNo (tD (Zo Wk (Zd Wt (Zd (Zvn 2) Z5))))))
  (Zk8 "NoText")
  fNx)
  (Zgc 2))))
def Zai:FD:=Jb 2 3 Zcz
abbrev Yik:=tV (Zh gNe (W8 gIx (W8 gIx Wt Zax) Ziu) (W8 gIx (W8 gIx Wt Ziu) Zax))
def W9:FS :=
 (Z3 (Zb2 (iRa (Zd Zxg Z5)) (gNm 1)
  (Z3 (Jd (tV (Zh gNe (W8 gIx (W8 gIx Wt Zax) Zax) Z6n))
  Zh2
  fNx)
  (Zb2 (iRa Zli) (gNm 2)
  (Jd Yik
  Zh2
  fNx))))
  Yc7)
def Y0:FD:=Jb 1 3 W9
def Zbk:FS :=
 (wE (Zoq (Zo Yx Zdg) (Zh gGe Z2w Zki)) W7)
def Jv:FD:=Jb 1 1 Zbk
def Zfu:FS :=
 (Z3 (Jd (tO (tNo (tD (Zhy "list" Wt))) (tV (Zh gNe Zxg Zax)))
  Zh2
  fNx)
  (Z3 (Zb2 (Zcd Wt) (gNm 2)
  (Jd (tNo (tD (Zo Jv Zzp)))
  Zh2
  fNx))
  Yc7))
def Zcg:FD:=Jb 2 3 Zfu
def Zd6:FS :=
 (Z3 (Jd (tO (tNo (tD (Zhy "list" Wt))) (tV (Zh gEq Zxg Zki)))
  Zh2
  fNx)
  (Z3 (Zb2 (Zcd Wt) (gNm 1)
  (Jd (tNo (tD (Zo Zcg (Zd Zax (Zd Zxg Z5)))))
  Zh2
  fNx))
  (wE (Zo Y0 Zdg) W7)))
def Za2:FD:=Jb 1 2 Zd6
abbrev Yg2:=Zor Zae Wt (Zd (fC (.str "\n")) Z5)
abbrev Yjd:=Yn 1 [] (Zcd (Zor Zae Ziu (Zd Z20 Z5))) Zj4 Zdx (Zo Yb Zdg)
def Zca:FS :=
 (Z3 (wE (Zo Wx Zdg) Zwe)
  (Z3 (wE Zxh (Zbh 1))
  (Z3 (Zb2 (Zcd Yg2) (gNm 2)
  (Zch 1 Yjd))
  (Z3 (Jd (tO (tNo (tD (Zo Wr (Zd (Zgl Zll Z6t) Z5)))) (tNo (tD (Zo Za2 Z6t))))
  (Zk8 "NoText")
  fNx)
  (Zgc 1)))))
def J9:FD:=Jb 1 3 Zca
def Zeh:FS :=
 (wE (Ztq Zh0 Z20 (Zd (Yn 1 [] (Zcd Wt) Zj4 Zdx (Zgl Z0w Zdg)) Z5)) W7)
def Zd8:FD:=Jb 1 1 Zeh
def Zcy:FS :=
 (Z3 (Jd (tV (Zh gEq Zxg Zki))
  (wE (fC (.str "none")) W7)
  fNx)
  (wE (Ztq Zh0 (fC (.str "; ")) (Zd (Yn 2 [] (Zcd Wt) Ya8 Zdx (Zh Zke (Zh Zke (Zo Zd8 Zdg) (fC (.str ": "))) (Zo Yc Zli))) Z5)) W7))
def Yj:FD:=Jb 1 1 Zcy
def Zb8:FS :=
 (Z3 (wE Zxh (Zbh 1))
  (Z3 (Zb2 (Zcd Wt) (gNm 2)
  (W2 1 (Ztq Zh0 Z20 (Zd (Yn 1 [] (Zcd Ziu) Zj4 Zdx (Zo Yc Zdg)) Z5))))
  (wE (Ztq Zh0 (fC (.str "\n")) Z6t) W7)))
def Yp:FD:=Jb 1 3 Zb8
def Zef:FS :=
 (wE (Yn 1 [1] (iRa Zdg) Zj4 Zdx (fIf (tV (Zh (Z5a false) Wt Zax)) Zet Zki)) W7)
def Za4:FD:=Jb 2 2 Zef
def Zc3:FS :=
 (wE (Yn 1 [0] Z1y Zj4 Zdx (Zo Za4 (Zd Zax (Zd Z2w Z5)))) W7)
def Zam:FD:=Jb 2 2 Zc3
def Yz:FS :=
 (Z3 (wE (Yn 1 [0] (iRa Zdg) Zj4 Zdx (Z4l Z6n Zax)) (Zbh 2))
  (Z3 (Zb2 (Zgk (Zd (Zo Y9 Zdg) Zli)) (gTp 2 Yeb)
  (Z3 (Zlz 2 Zuo (W8 gIx Zq0 Zki) (W8 gIx Zq0 Zet))
  (Zlz 2 Zuo (W8 gIx Zq0 Zet) (W8 gIx Zq0 Zki))))
  (Zgc 2)))
def Yy:FD:=Jb 2 5 Yz
abbrev Ygt:=wE (Yn 2 [7,8] (Zgk (Zd Zsx Z6u)) Ya8 (tV (Zh gNe (W8 gIx Wt Ziu) (W8 gIx Wt Zq0))) Zax) (Zaa 9)
abbrev Yir:=W2 6 (Zo Jt (Zd (Zgl Ycw (Zd (Zw 9) Z5)) Z45))
def Jp:FS :=
 (Z3 (wE (Yn 1 [] Z1y Zj4 Zdx Z1t) (Zaa 2))
  (Z3 (wE (Zo Ym Zzp) (Zaa 3))
  (Z3 (wE (Zo Jg (Zd Zq0 Zzp)) (Zaa 4))
  (Z3 (wE (Zo Zam (Zd Wt Zli)) (Zaa 5))
  (Z3 (wE Zxh (Zbh 6))
  (Z3 (Zb2 (Zcd (Zo Y9 Zdg)) (gTp 2 (gCn (gNm 7) (gCn (gNm 8) gNl)))
  (Z3 Ygt
  Yir))
  (Zcu 6 (wE (Zo Yy (Zd Wt (Zd (Zw 6) Z5))) W7))))))))
def Wm:FD:=Jb 2 10 Jp
abbrev Yeg:=Zh Zhz Zet (Zh Zdh (W8 gIx Ziu (fC (.int 3))) (fC (.int 1000)))
abbrev Yjn:=Yn 2 [] (Zcd Zq0) Ya8 Zdx (Zji (Zd (fBl Znn Zdg) Zli))
abbrev Yga:=tV (Zh gNe (Zvn 4) Zxh)
abbrev Ydv:=Zh Zdh (W8 gIx Ziu Zet) (Zgl Zll (Zd (Zvn 4) Z5))
abbrev Yha:=Z3 (wE (Ydb 4 Ydv) (Ya0 (gTp 2 Yc2)))
  (Z6w 4 (Zji (Zd (Zw 6) (Zd (Zo Y8 (Zd (Zw 7) (Zd Zsx Z5))) Z5))) Ydv)
abbrev Ye8:=Zh Zdh (W8 gIx Ziu Z0s) (Zgl Zll (Zd (Zvn 9) Z5))
abbrev Yg1:=Zd (Zo Yp (Zd (Zw 11) Z5)) Z5
def Zk4:FS :=
 (Z3 (wE (Zh Zhz Z0s (Zh Zdh (Zo Yi (Zd Wt (Zd Zki Z5))) (fC (.int 9)))) (Zaa 1))
  (Z3 (wE (Zo Wy (Zd (Zo Yi (Zd Wt Z8j)) (Zd Ybh (Zd (Zh Znz Z6i (fC (.int 6))) Z5)))) (Zaa 2))
  (Z3 (wE (Zo Zao (Zd (Zo Wz (Zd Zax (Zd (fSl Wt (oI Z0s) (oI (fC (.int 14)))) Z5))) (Zd Yeg Z5))) (Zaa 3))
  (Z3 (wE (Zs7 Yjn) (Zbh 4))
  (Z3 (wE (Zji (Zd (Zh Zdh (W8 gIx Ziu Zki) Ybh) (Zd Yeg Z5))) (Zaa 5))
  (Z3 (Jd Yga
  Yha
  fNx)
  (Z3 (Zcu 4 (Jd (tNo (tD (Zo Zab (Zd Zq0 (Zd Zuo (Zd (Zsb (Zd (Zo Yj Z45) (Zd (Zo Yj Z6u) Z5))) Z5))))))
  Zh2
  fNx))
  (Z3 (Jd (tNo (tD (Zo (Zq 6) (Zd (Zo Zai (Zd Zax (Zd (Zo Yj Z6u) Z5))) Z6u))))
  Zh2
  fNx)
  (Z3 (wE (Zo Jq (Zd Zax Z45)) (Zaa 8))
  (Z3 (wE (fBl Znn (Zd (Zw 8) Z5)) (Zbh 9))
  (Z3 (Z6w 9 (Zxr (Zo Y8 (Zd (W8 gIx (Zvn 9) Ye8) (Zd Zsx Z5)))) Ye8)
  (Z3 (wE (Zo Jr (Zd Zax (Zd (Zw 8) Z5))) (Zaa 10))
  (Z3 (Zcu 9 (wE (Zo Jr (Zd Zax (Zd (Zw 9) Z5))) (Zaa 11)))
  (Z3 (Jd (tNo (tD (Zo Zab (Zd (Zw 10) (Zd (Zw 11) (Zd (Zsb (Zd (Zo Yp (Zd (Zw 10) Z5)) Yg1)) Z5))))))
  Zh2
  fNx)
  (Z3 (Jd (tNo (tD (Zo (Zq 6) (Zd (Zo J9 Yg1) (Zd (Zw 11) Z5)))))
  Zh2
  fNx)
  (wE (Zh gEq (Zo Yp (Zd (Zo Wm (Zd Zax Z45)) Z5)) (Zo Yp (Zd (Zw 10) Z5))) W7))))))))))))))))
def Zg7:FD:=Jb 1 12 Zk4
end My
namespace My
open PySem L2 PySem.Spec
def mkS(l:List Nat):Str:=⟨l.toArray⟩
def dg(n:Nat):List Nat:=(Nat.toDigits 10 n).map Char.toNat
def sgn(i:Int):List Nat:=if i<0 then[45]else[]
def tx(i:Int):List Nat:=sgn i ++ dg i.natAbs
def Cp(l:List Nat):Prop:=∀c∈l,c<128
theorem Zjq(a b:List Nat):mkS a ++ mkS b=mkS (a ++ b):=by
 show Str.mk (a.toArray ++ b.toArray)=Str.mk (a ++ b).toArray
 rw[List.append_toArray]
theorem Zb0(a:List Nat):(mkS a).length=a.length:=XM ..
theorem Zgt{a b:List Nat}(h:mkS a=mkS b):a=b:=by
 have:=congrArg (λs:Str=>s.cps.toList) h
 exact this
theorem Yao(i:Int):Q8 (toString i)=mkS (tx i):=by
 rw[Q7]
 refine congrArg (λl:List Nat=>Str.mk l.toArray) ?_
 unfold tx sgn
 cases i with
 | ofNat n=>
  rw[if_neg (by exact Int.not_lt.mpr (Int.natCast_nonneg n))]
  show(String.ofList (Nat.toDigits 10 n)).toList.map Char.toNat=_
  rw[String.toList_ofList];rfl
 | negSucc n=>
  rw[if_pos (Int.negSucc_lt_zero n)]
  show("-" ++ String.ofList (Nat.toDigits 10 (n+1))).toList.map Char.toNat=_
  rw[String.toList_append,Qj,String.toList_ofList (l:=Nat.toDigits 10 (n+1))];rfl
theorem dgc:∀d:Fin 10,(Nat.digitChar d).toNat=48+d:=by decide
theorem Zpq{n:Nat}(h:n<10):dg n=[48+n]:=by
 unfold dg
 rw[Nat.toDigits_of_lt_base h]
 exact congrArg (λx=>[x]) (dgc ⟨n,h⟩)
theorem Zx5{n:Nat}(h:10<=n):dg n=dg (n/10) ++ [48+n%10]:=by
 unfold dg
 rw[Nat.toDigits_of_base_le (by decide) h,Qj]
 exact congrArg (λx=>_ ++ [x]) (dgc ⟨n%10,Nat.mod_lt _ (by decide)⟩)
theorem Zgb{n c:Nat}(h:c∈dg n):48<=c/\c<=57:=by
 induction n using Nat.strongRecOn with
 | ind n ih=>
  by_cases k:n<10
  .rw[Zpq k]at h
   have:=Xn.mp h
   omega
  .rw[Zx5 (by omega)]at h
   rcases Qq.mp h with h|h
   .exact ih (n/10) (by omega) h
   .have:=Xn.mp h
    omega
theorem Z3q(n:Nat):dg n≠[]:=by
 by_cases k:n<10
 .rw[Zpq k];intro z;cases z
 .rw[Zx5 (by omega)];intro z
  exact List.append_ne_nil_of_right_ne_nil _ (Um _ _) z
theorem Z91{n:Nat}(h:n<2^400):(dg n).length<=400:=by
 unfold dg
 rw[Xc]
 exact(Nat.length_toDigits_le_iff (by decide) (by decide)).mpr (Qe h (Nat.pow_le_pow_left (by decide) 400))
theorem Z02{i:Int}(h:Bt 400 i):(tx i).length<=401:=by
 unfold tx sgn
 rw[X7]
 have:=Z91 h
 split
 .rw[Uk];omega
 .rw[List.length_nil];omega
theorem Zo2{i:Int}(h:Bt 400 i):Z0w [.int i]=some (.str (mkS (tx i))):=by
 have c:i.natAbs.log2<1920:=by
  by_cases z:i.natAbs=0
  .rw[z];decide
  .exact(Nat.log2_lt z).mpr (Qe h (Nat.pow_le_pow_right (by decide) (by decide)))
 show(if i.natAbs.log2<1920 then some (QT (Q8 (toString i)))else none)=_
 rw[if_pos c,Yao]
theorem Zig{a b:List Nat}(h:a.length+b.length<=1000000):Zke (.str (mkS a)) (.str (mkS b))=some (.str (mkS (a ++ b))):=by
 show(if(mkS a).length+(mkS b).length<=Xk then some (QT (mkS a ++ mkS b))else none)=_
 rw[Zb0,Zb0,if_pos (by rw[Qc];omega),Zjq]
theorem Zqw{a:List Nat}(h:Cp a):JQ (.str (mkS a))=true:=by
 unfold JQ
 rw[Bj]
 have:Xa.strOk (mkS a)=true:=by
  unfold Xa.strOk
  rw[Array.all_eq_true_iff_forall_mem]
  intro c m
  have:=h c (List.mem_toArray.mp m)
  exact decide_eq_true (by omega)
 rw[this];rfl
theorem Zfn{a b:List Nat}(ha:Cp a)(hb:Cp b):gEq (.str (mkS a)) (.str (mkS b))=some (.bool (decide (a=b))):=by
 unfold gEq
 rw[if_pos (by rw[Zqw ha,Zqw hb];rfl)]
 refine congrArg (λz=>some (V4 z)) ?_
 rw[QL]
 rw[Bool.eq_iff_iff,beq_iff_eq,decide_eq_true_eq]
 exact⟨Zgt,congrArg mkS⟩
theorem Z2l{a b:List Nat}(ha:Cp a)(hb:Cp b):gNe (.str (mkS a)) (.str (mkS b))=some (.bool (!decide (a=b))):=by
 unfold gNe
 rw[if_pos (by rw[Zqw ha,Zqw hb];rfl)]
 refine congrArg (λz=>some (V4 (!z))) ?_
 rw[QL]
 rw[Bool.eq_iff_iff,beq_iff_eq,decide_eq_true_eq]
 exact⟨Zgt,congrArg mkS⟩
def Qb(n:Nat)(q:Rat):Prop:=Bt n q.num/\Bt n (q.den:Int)
theorem Qb.up{m n:Nat}(h:Qb m q)(k:m<=n):Qb n q:=⟨h.1.mono k,h.2.mono k⟩
theorem btc{n:Nat}{m:Int}(h1:decide (-(2^n)<m)=true)(h2:decide (m<2^n)=true):Bt n m:=Bt.of_lt (of_decide_eq_true h1) (of_decide_eq_true h2)
theorem Z8a{as:FA}{x y:Xa}(h:EvA as δ [x,y]):Zxi i j as δ= .nx ((δ.set i (some (.fz x))).set j (some (.fz y))):=by
 obtain⟨ts,e1,e2⟩:=h
 unfold Zxi
 rw[e1]
 show(match OT.datas ts with|[d,e]=>RS.nx ((δ.set i (some (.fz d))).set j (some (.fz e)))|_=>.bad)=_
 rw[e2]
theorem Z38{t:Int}(hb:0<b):Q3 b (t.fmod b)=Q3 t b:=by
 rw[Zfs hb,Int.gcd_comm b,Int.emod_def,Int.gcd_sub_mul_left_left]
theorem Zvi{t:Int}(hb:0<b):Told J8 [.int t,.int b] (.int (Q3 t b:Int)):=by
 have ht:∀x y:Int,EvT (tV Ycr) [some (.fz (.int x)),some (.fz (.int y))] (!decide (y=0)):=λx y=>J4 (Zoe Za Zv rfl)
 have hu:∀x y:Int,y≠0->Zxi 0 1 Yc6 [some (.fz (.int x)),some (.fz (.int y))]= .nx [some (.fz (.int y)),some (.fz (.int (x.fmod y)))]:=λx y hy=>Z8a (Zb Za (Zb (Wo Za Za hy) Zf))
 obtain⟨z',e⟩:=Zlv (f1:=λx y z=>[some (.fz (.int x)),some (.fz (.int y))]) (f2:=λx y z=>[]) (t:=tV Ycr) (u:=Zxi 0 1 Yc6) (λx y z=>ht x y) (λx y z hy=>⟨none,hu x y hy⟩) ((t.fmod b).toNat+1) b (t.fmod b) none (by omega) (W6 hb) (by omega)
 have e':whileLoop (tV Ycr) (Zxi 0 1 Yc6) ((t.fmod b).toNat+1+1) [some (.fz (.int t)),some (.fz (.int b))]= .nx [some (.fz (.int (Q3 t b:Int))),some (.fz (.int 0))]:=by
  rw[whileLoop]
  have h1:=ht t b
  unfold EvT at h1
  rw[h1]
  dsimp only
  rw[if_pos (by rw[decide_eq_false (by omega)];rfl),hu t b (by omega)]
  dsimp only
  rw[e,Z38 hb]
 exact Zu rfl<|Zr (Zmu _ e' (by intro z;cases z)) (Z1 (EvV.cast (Zbl (Zb Za Zf) (Ztx _)) (by rw[V9])))
theorem Wu{n:Nat}{t:Int}(hb:0<b)(hB:Bt n b)(hn:n<=9000:=by decide):Told Yg [.int t,.int b] (frD (X4 t b)):=by
 have eg:(Q3 t b:Int)=shr t b:=by unfold shr;rw[if_neg (by omega)]
 obtain⟨e1,e2⟩:=Ycb (t:=t) (b:=b) (by omega) hB hn _ eg
 exact Zu rfl<|Zr (Z8 (Zj (Zb Za (Zb Za Zf)) (Zvi hb))) (Z1 (Zhm (Zb (Zk Za Za e1) (Zb (Zk Za Za e2) Zf)) (show 2<=1000 by decide)))
theorem Ygo{n:Nat}{t:Int}(hb:b≠0)(ht:Bt n t)(hB:Bt n b):Qb n (X4 t b):=⟨Z60 hb ht,Z9p hb hB⟩
theorem at0(h:δ[i]? =some (some (.fz (frD q)))):EvV (W8 gIx (Zw i) Zki) δ (.int q.num):=Wv (Za h) Zv rfl
theorem at1(h:δ[i]? =some (some (.fz (frD q)))):EvV (W8 gIx (Zw i) Zet) δ (.int (q.den:Int)):=Wv (Za h) Zv rfl
theorem Zz8(q r:Rat):0<(q.den:Int)*(r.den:Int):=Int.mul_pos (Zbo q) (Zbo r)
theorem Zpg{m n:Nat}{r:Rat}(h:Qb m q)(k:Qb n r)(hmn:m+n<=9000):Told Y8 [frD q,frD r] (frD (q+r)):=by
 rw[<-Zzz]
 exact Zu rfl<|Z1<|Zj (Zb (Zbe (Zk (at0 rfl) (at1 rfl) (Ze4 (Zdy h.1 k.2 (by omega)))) (Zk (at0 rfl) (at1 rfl) (Ze4 (Zdy k.1 h.2 (by omega))))) (Zb (Zk (at1 rfl) (at1 rfl) (Ze4 (Zdy h.2 k.2 (by omega)))) Zf)) (Wu (Zz8 q r) (h.2.mul k.2) hmn)
def Qv(b:Int)(n:Nat)(q:Rat):Prop:=∃x,q=X4 x b/\Bt n x
theorem Qv.up{m n:Nat}(h:Qv b m q)(k:m<=n):Qv b n q:=by
 obtain⟨x,e,bx⟩:=h
 exact⟨x,e,bx.mono k⟩
theorem Zup{x y:Int}:X4 x b+X4 y b=X4 (x+y) b:=by
 rw[Vu,Vu,Vu,Rat.div_def,Rat.div_def,Rat.div_def,Rat.intCast_add,Rat.add_mul]
theorem Qv.add{n:Nat}{r:Rat}(h:Qv b n q)(k:Qv b n r):Qv b (n+1) (q+r):=by
 obtain⟨x,rfl,bx⟩:=h
 obtain⟨y,rfl,b2⟩:=k
 exact⟨x+y,Zup,bx.add' b2⟩
theorem Qv.zero(b:Int)(n:Nat):Qv b (n+1) 0:=⟨0,(Rat.zero_divInt b).symm,(btc (n:=1) (by decide) (by decide)).mono (by omega)⟩
theorem Zuw{t:Int}(hb:b≠0):((X4 t b).den:Int)∣b:=by
 rw[Rat.den_divInt,if_neg hb]
 have:(b.natAbs/b.gcd t:Nat)∣b.natAbs:=Nat.div_dvd_of_dvd (by rw[Uw];exact Nat.gcd_dvd_left ..)
 exact Int.ofNat_dvd_left.mpr this
structure Bot(b:Int):Prop where
 lo:1<=b
 hi:b<=1000000000
theorem Bot.bt(h:Bot b):Bt 30 b:=Bt.of_lt (by have:=h.lo;omega) (by have:=h.hi;omega)
theorem Bot.pos(h:Bot b):0<b:=by have:=h.lo;omega
theorem Qv.dvd{n:Nat}(h:Qv b n q)(hb:Bot b):(q.den:Int)∣b:=by
 obtain⟨x,rfl,bx⟩:=h
 exact Zuw (Int.ne_of_gt hb.pos)
theorem Qv.qb{n:Nat}(h:Qv b n q)(hb:Bot b)(hn:30<=n):Qb n q:=by
 obtain⟨x,rfl,bx⟩:=h
 exact Ygo (Int.ne_of_gt hb.pos) bx (hb.bt.mono hn)
theorem gP9:Znz (.int 10) (.int 9)=some (.int 1000000000):=rfl
theorem Zs1(c:Int)(m:Nat)(hm:m<=1000){top:Int}(h0:0<top)(h1:top<18446744073709551616):∃vs:List Int,Told Wy [.int c,.int m,.int top] (Zx vs)/\vs.length=m/\∀v∈vs,0<=v/\v<top:=by
 have big:(decide (0<top)&&decide (top<18446744073709551616))=true:=by rw[decide_eq_true h0,decide_eq_true h1];rfl
 have key:∃d,Told Wy [.int c,.int m,.int top] d/\∃vs,d=Zx vs/\vs.length=m/\∀v∈vs,0<=v/\v<top:=by
  refine Z3j rfl<|Zn6 Zkq<|Zn6 (Z8 Za)<|Zs9 (ds:=Zk0 0 m) (λi δ=>∃(vs:List Int) (x:Int) (z1 z2:Option OT),δ=[some (.fz (.int c)),some (.fz (.int m)),some (.fz (.int top)),some (.nd (vs.map λv=>.fz (.int v))),some (.fz (.int x)),z1,z2]/\vs.length=i/\∀v∈vs,0<=v/\v<top)
   (Zmd (Zb Za Zf) (by omega)) ⟨[],c,none,none,rfl,rfl,λ_ m=>nomatch m⟩ (λi d δ hd q=>?_) λδ' q=>?_
  .obtain⟨vs,x,z1,z2,rfl,hl,hv⟩:=q
   obtain⟨hi,rfl⟩:=Zep hd
   have snoc:∀w:Int,∀v∈vs ++ [w.fmod top],0<=v/\v<top:=λw v hv'=>by
    rcases Qq.mp hv' with h|h
    .exact hv v h
    .rw[Xn.mp h];exact⟨W6 h0,Jk h0⟩
   have s0:=W6 (i:=(c+977*(0+(i:Int))+1)*48271) (j:=2147483647) (by decide)
   have s1:=Jk (i:=(c+977*(0+(i:Int))+1)*48271) (j:=2147483647) (by decide)
   have st1:=Z8 (i:=6) (δ:=[some (.fz (.int c)),some (.fz (.int m)),some (.fz (.int top)),some (.nd (vs.map λv=>.fz (.int v))),some (.fz (.int x)),some (.fz (.int (0+(i:Int)))),z2]) (Wo (Zo4 (Zbe (Zbe (Za (i:=0) (d:=.int c)) (Zi2 (Zv (d:=.int 977)) (Za (i:=5) (d:=.int (0+(i:Int)))))) (Zv (d:=.int 1))) (Zv (d:=.int 48271))) (Zv (d:=.int 2147483647)) (by decide))
   generalize((c+977*(0+(i:Int))+1)*48271).fmod 2147483647=s at s0 s1 st1
   by_cases q:1000000000000000000<=c
   .exact⟨_,_,rfl,.inl (Z2 st1 (Z2 (Z8 (Wo (Zi2 Za Za (by omega)) Zv (by decide))) (Z2 (Z8 (Zcj (Wo (Zo4 (Zbe Za (Zi2 Zv (Zbe Za Zv))) Zv) Zv (by decide)) Zv)) (Z2 (Zdv (J4 (Zsl Za (Zk Zv Zv Ygx) (decide_eq_true q))) (Z8 Za)) (Z2 (Zq8 (vs:=vs) (Wo Za Za (by omega)) rfl (by omega)) (Z8 (Zcj Za Za big))))))),_,_,_,_,rfl,by rw[X7,hl];rfl,snoc _⟩
   .exact⟨_,_,rfl,.inl (Z2 st1 (Z2 (Z8 (Wo (Zi2 Za Za (by omega)) Zv (by decide))) (Z2 (Z8 (Zcj (Wo (Zo4 (Zbe Za (Zi2 Zv (Zbe Za Zv))) Zv) Zv (by decide)) Zv)) (Z2 (Zn (J4 (Zsl Za (Zk Zv Zv Ygx) (decide_eq_false q))) rfl) (Z2 (Zq8 (vs:=vs) (Wo Za Za (by omega)) rfl (by omega)) (Z8 (Zcj Za Za big))))))),_,_,_,_,rfl,by rw[X7,hl];rfl,snoc _⟩
  .obtain⟨vs,x,z1,z2,rfl,hl,hv⟩:=q
   rw[Zff]at hl
   exact Yk7 rfl ⟨vs,Zyt vs,hl,hv⟩
 obtain⟨d,h,vs,rfl,hl⟩:=key
 exact⟨vs,h,hl⟩
def Z6l(p:List Int)(lo hi:Option Int):List Int:=(p.drop (HT.sIx p.length 0 lo)).take (HT.sIx p.length p.length hi-HT.sIx p.length 0 lo)
theorem Zz5(p:List Int)(lo hi:Option Int):cutD (p.map Xl) lo hi=(Z6l p lo hi).map Xl:=by
 unfold cutD Z6l
 rw[Xc,List.map_take,List.map_drop]
theorem Yej{e:FE}{r p:List Int}{lo:FO}{l h:Option Int}(he:EvV e δ (Zx r))(hl:EvO lo δ l)(hh:EvO hi δ h)(hp:Z6l r l h=p):EvV (fSl e lo hi) δ (Zx p):=hp▸(Ybu (ds:=r.map Xl) he hl hh).cast (by rw[Zz5];rfl)
theorem Zzd(p:List Int)(a b:Nat):(Z6l p (some (a:Int)) (some ((a+b:Nat):Int))).length<=b:=by
 unfold Z6l
 rw[HT.sIx_nat,HT.sIx_nat,List.length_take,Vd];omega
theorem Zuc{k c:Int}(h:δ[i]? =some (some (.fz (Zx ns))))(e:Yi [Zx ns,.int k]= .ok (.fz (.int c))):EvV (Zo Yi (Zd (Zw i) (Zd (fC (.int k)) Z5))) δ (.int c):=Zj (Zb (Za h) (Zb Zv Zf)) (.of e (OT.data_fz _))
def Zn1(r:List Rat):OT:=.nd (r.map λq=>.fz (frD q))
theorem Zfv(r:List Rat):(Zn1 r).data=Zjx r:=by unfold Zn1 Zjx;rw[OT.data_nd,Xr];rfl
theorem Z5j{e:FE}{r:List Rat}(h:EvV e δ (frD q))(hi:δ[i]? =some (some (Zn1 r)))(hl:r.length<=1000000):W2 i e δ= .nx (δ.set i (some (Zn1 (r ++ [q])))):=by
 rw[Zku h hi (by rw[Xc];exact hl)]
 unfold Zn1;rw[Qj];rfl
theorem Znk(n:Nat)(hn:n<=1000):Told Wf [.int n] (.list ((Zz n).map ptD)):=Zfi n hn
theorem Zi7(neg:Bool)(x:Int)(p:List Int):Z5a neg (.int x) (Zx p)=some (.bool (if neg then !decide (x∈p)else decide (x∈p))):=by
 have e:memS (.int x) (p.map Xl)=decide (x∈p):=by
  unfold memS
  rw[List.any_map]
  rw[Bool.eq_iff_iff,List.any_eq_true,decide_eq_true_eq]
  constructor
  .rintro⟨y,hy,h⟩
   have:(y==x)=true:=h
   rw[<-eq_of_beq this];exact hy
  .intro h
   exact⟨x,h,(show(x==x)=true from beq_self_eq_true x)⟩
 have s:(p.map Xl).all scD=true:=by
  rw[VJ]
  intro d hd
  obtain⟨y,_,rfl⟩:=Xp.mp hd
  rfl
 show(if(scD (.int x)&&(p.map Xl).all scD)=true then some (V4 (if neg then !memS (.int x) (p.map Xl)else memS (.int x) (p.map Xl)))else none)=_
 rw[s,e];rfl
theorem pairs_len(n:Nat)(hn:n<=10):(Zz n).length<=100:=by
 have:=Zfx n n
 have e:Zj3 n n=Zz n:=rfl
 rw[e]at this
 exact Qa this (Nat.mul_le_mul hn hn)
theorem tw{a:Int}:EvV (Zji (Zd (fC (.int a)) (Zd (fC (.int b)) Z5))) δ (.tuple [.int a,.int b]):=Zhm (Zb Zv (Zb Zv Zf)) (show 2<=1000 by decide)
theorem Zz9(xs:List Rat)(x:Rat):(xs ++ [x]).sum=xs.sum+x:=by
 induction xs with
 | nil=>show x+0=0+x;rw[Rat.add_zero,Rat.zero_add]
 | cons y ys ih=>rw[List.cons_append,JS,JS,ih,Rat.add_assoc]
theorem Zx1{a b:List Int}(h:Zx a=Zx b):a=b:=by
 unfold Zx at h
 injection h with h
 exact List.map_inj_right (λx y z=>by injection z)|>.mp h
theorem Z1l(q r:Rat):gNe (frD q) (frD r)=some (.bool (!decide (q=r))):=by
 have s:∀q,JQ (frD q)=true:=λq=>((Z5x q).shp).ok
 unfold gNe
 rw[if_pos (by rw[s,s];rfl),Yap]
theorem Zwm(x y:Bool):gNe (.bool x) (.bool y)=some (.bool (x !=y)):=by cases x<;>cases y<;>rfl
theorem Z5o(q:Rat):0<q.num↔0<q:=by
 have:=Rat.lt_iff 0 q
 rw[this]
 show _↔0*(q.den:Int)<q.num*1
 rw[Int.zero_mul,Int.mul_one]
def ctD(p:List Int×Rat):Xa:=.tuple [Zx p.1,frD p.2]
def Zag(L:List (List Int×Rat)):Xa:=.list (L.map ctD)
def Zsv(L:List (List Int×Rat)):OT:=.nd ((L.map ctD).map OT.fz)
theorem Zi0(L:List (List Int×Rat)):(Zsv L).data=Zag L:=by unfold Zsv Zag;rw[OT.data_nd,OT.map_fz]
theorem Zrh(f g:α->Xa)(L:List α):Zmj (L.map f) (L.map g)=L.map λp=>.tuple [f p,g p]:=by
 induction L with
 | nil=>rfl
 | cons x L ih=>exact congrArg (_ :: ·) ih
theorem Zpj{t:FT}{a b:FE}{d:Xa}(h:EvT t δ true)(k:EvV a δ d):EvV (fIf t a b) δ d:=by
 obtain⟨o,e1,e2⟩:=k
 exact⟨o,by unfold fIf;unfold EvT at h;rw[h];exact e1,e2⟩
theorem Z3w{t:FT}{a b:FE}{d:Xa}(h:EvT t δ false)(k:EvV b δ d):EvV (fIf t a b) δ d:=by
 obtain⟨o,e1,e2⟩:=k
 exact⟨o,by unfold fIf;unfold EvT at h;rw[h];exact e1,e2⟩
def sd(p:List Int×Rat)(i:Nat):Int:=if(i:Int)∈p.1 then 1 else 0
def Zgv(n:Nat)(p:List Int×Rat):Xa:=.list ((Xz n).map λi=>.int (sd p i))
theorem Zpf{n:Nat}(hn:n<=10)(p:List Int×Rat):Told Za4 [.int n,Zx p.1] (Zgv n p) :=
 Zu rfl<|Z1<|Zcr (cs:=[some (.fz (Zx p.1))]) (Xz n) (λi:Nat=>Xl (0+(i:Int))) (λi=>.int (sd p i)) (Zmd (Zb Za Zf) (by omega)) (by rw[XD];omega) rfl λi _=>by
  have t:∀{b:Bool},decide ((i:Int)∈p.1)=b->EvT (tV (Zh (Z5a false) Wt Zax)) [some (.fz (.int (0+(i:Int)))),some (.fz (Zx p.1))] b:=λhb=>hb▸J4 (Zk Za Za (by rw[Zi7,UW];rfl))
  unfold sd
  by_cases c:(i:Int)∈p.1
  .rw[if_pos c];exact Zpj (t (decide_eq_true c)) Zv
  .rw[if_neg c];exact Z3w (t (decide_eq_false c)) Zv
theorem Zno{n:Nat}(hn:n<=10)(L:List (List Int×Rat))(hl:L.length<64):Told Zam [.int n,Zag L] (.list (L.map (Zgv n))) :=
 Zu rfl<|Z1<|Zcr (cs:=[some (.fz (.int n))]) L ctD (Zgv n) (Y6 Za) (by omega) rfl λp _=>Zj (Zb Za (Zb (Wv (d:=Zx p.1) Za Zv rfl) Zf)) (Zpf hn p)
def prt(i j:Nat)(p:List Int×Rat):Bool:=!decide (sd p i=sd p j)
def Sm(L:List (List Int×Rat))(i j:Nat):Rat:=((L.filter (prt i j)).map λp=>p.2).sum
def Ziv(L:List (List Int×Rat)):Nat×Nat->Xa:=λp=>frD (Sm L p.1 p.2)
theorem Z0u{m:Int}:∀(L:List (List Int×Rat)),(∀p∈L,(p.2.den:Int)∣m)->(((L.map λp=>scI m p.2).sum:Int):Rat)=(L.map λp=>p.2).sum*(m:Rat)
 | [],_=>by simp
 | p :: L,h=>by
  rw[Xv,Xv,JS,JS,Rat.intCast_add,Ya1 (h p (.head _)),Z0u L λq hq=>h q (.tail _ hq),Rat.add_mul]
theorem Z58{m:Int}(hm:0<m)(L:List (List Int×Rat))(h:∀p∈L,(p.2.den:Int)∣m):X4 (L.map λp=>scI m p.2).sum m=(L.map λp=>p.2).sum:=by
 have m0:(m:Rat)≠0:=λz=>by
  have:=Rat.intCast_inj.mp (z.trans (Rat.intCast_zero).symm)
  omega
 rw[Vu,Z0u L h,Rat.div_def,Rat.mul_assoc,Rat.mul_inv_cancel _ m0,Rat.mul_one]
theorem Zwk(es:List Int):Ycw [Zx es]=some (.int es.sum):=by
 show(Zkb (es.map Xl)).bind _=_
 rw[Zdt];rfl
theorem Zrv{n:Nat}{m:Int}{L:List (List Int×Rat)}{a b:Nat}(ha:a<n)(hb:b<n)(hl:L.length<64)(h5:δ[5]? =some (some (.fz (.list (L.map (Zgv n))))))(h4:δ[4]? =some (some (.fz (.list (L.map λp=>.int (scI m p.2))))))(hk:blk 2 [7,8] δ=[none,none,some (.fz (.int a)),some (.fz (.int b))]) :
  EvV (Yn 2 [7,8] (Zgk (Zd (Zw 5) (Zd (Zw 4) Z5))) (gTp 2 (gCn (gNm 0) (gCn (gNm 1) gNl))) (tV (Zh gNe (W8 gIx (Zw 0) (Zw 2)) (W8 gIx (Zw 0) (Zw 3)))) (Zw 1)) δ (Zx ((L.filter (prt a b)).map λp=>scI m p.2)):=by
 have hi:EvI (Zgk (Zd (Zw 5) (Zd (Zw 4) Z5))) δ (L.map λp=>.tuple [Zgv n p,.int (scI m p.2)]):=Zlx (Za h5) (Za h4) (Zrh (Zgv n) (λp=>.int (scI m p.2)) L)
 obtain⟨ts,δ',e1,z0,z1,rfl,e2⟩:=Ycd (t:=tV (Zh gNe (W8 gIx (Zw 0) (Zw 2)) (W8 gIx (Zw 0) (Zw 3)))) (e:=Zw 1) (g:=gTp 2 (gCn (gNm 0) (gCn (gNm 1) gNl))) (δ:=[none,none,some (.fz (.int a)),some (.fz (.int b))])
  (λk acc δ=>∃z0 z1,δ=[z0,z1,some (.fz (.int a)),some (.fz (.int b))]/\acc=(((L.take k).filter (prt a b)).map λp=>scI m p.2).map Xl) (L.map λp=>.tuple [Zgv n p,.int (scI m p.2)]) 0 [] ⟨none,none,rfl,by simp⟩ (λk d acc δ hd q=>by
   obtain⟨z0,z1,rfl,rfl⟩:=q
   rw[Ug]at*
   rw[Xj]at hd
   cases e:L[k]? with
   | none=>rw[e]at hd;cases hd
   | some p=>
    rw[e]at hd
    cases hd
    have et:L.take (k+1)=L.take k ++ [p]:=by rw[Ue,e];rfl
    have at':∀{c:Nat},c<n->gIx (Zgv n p) (.int (c:Int))=some (.fz (.int (sd p c))):=λhc=>by
     unfold Zgv
     rw[Zso,Znd,Xj,QM hc];rfl
    refine⟨_,rfl,Zgf (J4 (Zoe (Wv (d:=.int (sd p a)) Za Za (at' ha)) (Wv (d:=.int (sd p b)) Za Za (at' hb)) (p:=prt a b p) rfl)) ⟨λc=>?_,λc=>?_⟩⟩
    .refine Zgo (d:=.int (scI m p.2)) Za ⟨_,_,rfl,?_⟩
     rw[et,Vl,Ve c,V7,Qj,Qj];rfl
    .refine⟨_,_,rfl,?_⟩
     rw[et,Vl,Vf (by rw[c];decide),V7,QX])
 rw[Ug,Xc,VG,List.nil_append]at e2
 refine⟨.nd ts,?_,by rw[OT.data_nd,e2];rfl⟩
 unfold EvI at hi
 unfold Yn
 rw[hi]
 show(if(L.map λp=>QF [Zgv n p,.int (scI m p.2)]).length<=Xk then _ else none)=_
 rw[if_pos (by rw[Xc,Qc];omega),hk,e1];rfl
theorem Z46(i j:Nat)(p:List Int×Rat):prt i j p=(decide ((i:Int)∈p.1) !=decide ((j:Int)∈p.1)):=by
 unfold prt sd
 by_cases a:(i:Int)∈p.1<;>by_cases b:(j:Int)∈p.1<;>simp[a,b]
def smL(n:Nat)(L:List (List Int×Rat)):List Rat:=(Zz n).map λp=>Sm L p.1 p.2
theorem Z4p{n:Nat}(hn:n<=10)(hb:Bot b){L:List (List Int×Rat)}(lL:L.length<64)(hL:∀p∈L,Qv b 101 p.2):Jq [.int n,Zag L]= .ok (Zn1 (smL n L)):=by
 have lp:=pairs_len n hn
 obtain⟨δ',e1,z3,z4,z5,z6,z7,rfl⟩:=Zg0 (it:=Zcd (Zo Wf Zdg)) (g:=gTp 2 Yeb) (S:=Z3 (wE Z6n (Zaa 5)) (Z3 (Zb2 Z1y (gTp 2 Yc2) (Jd Ycq Ye2 fNx)) (W2 2 Zsx)))
  (δ:=[some (.fz (.int n)),some (.fz (Zag L)),some (Zn1 []),none,none,none,none,none]) (ds:=(Zz n).map ptD) (λk δ=>∃z3 z4 z5 z6 z7,δ=[some (.fz (.int n)),some (.fz (Zag L)),some (Zn1 (((Zz n).take k).map λp=>Sm L p.1 p.2)),z3,z4,z5,z6,z7]) (Y6 (Zj (Zb Za Zf) (Znk n (by omega)))) ⟨_,_,_,_,_,rfl⟩ (λk d δ hd q=>by
   obtain⟨z3,z4,z5,z6,z7,rfl⟩:=q
   rw[Xj]at hd
   cases e:(Zz n)[k]? with
   | none=>rw[e]at hd;cases hd
   | some p=>
    rw[e]at hd
    cases hd
    have hk:=(Xi.mp e).1
    have et:(Zz n).take (k+1)=(Zz n).take k ++ [p]:=by rw[Ue,e];rfl
    obtain⟨δ2,e2,v,z6,z7,rfl,hv,_⟩:=Zg0 (it:=Zcd Zax) (g:=gTp 2 Yc2) (S:=Jd Ycq Ye2 fNx) (δ:=[some (.fz (.int n)),some (.fz (Zag L)),some (Zn1 (((Zz n).take k).map λp=>Sm L p.1 p.2)),some (.fz (.int (p.1:Int))),some (.fz (.int (p.2:Int))),some (.fz (frD 0)),z6,z7]) (ds:=L.map ctD)
     (λj δ=>∃(v:Rat) (z6 z7:Option OT),δ=[some (.fz (.int n)),some (.fz (Zag L)),some (Zn1 (((Zz n).take k).map λp=>Sm L p.1 p.2)),some (.fz (.int (p.1:Int))),some (.fz (.int (p.2:Int))),some (.fz (frD v)),z6,z7]/\v=(((L.take j).filter (prt p.1 p.2)).map λp=>p.2).sum/\Qv b (102+j) v) (Y6 Za) ⟨0,z6,z7,rfl,rfl,Qv.zero b 101⟩ λj d δ hd q=>by
      obtain⟨v,z6,z7,rfl,hv,qv⟩:=q
      rw[Xj]at hd
      cases e:L[j]? with
      | none=>rw[e]at hd;cases hd
      | some c=>
       rw[e]at hd
       cases hd
       have hj:=(Xi.mp e).1
       have qc:=hL c (X5 e)
       have tk:L.take (j+1)=L.take j ++ [c]:=by rw[Ue,e];rfl
       have tt:EvT Ycq [some (.fz (.int n)),some (.fz (Zag L)),some (Zn1 (((Zz n).take k).map λp=>Sm L p.1 p.2)),some (.fz (.int (p.1:Int))),some (.fz (.int (p.2:Int))),some (.fz (frD v)),some (.fz (Zx c.1)),some (.fz (frD c.2))] (prt p.1 p.2 c):=by
        rw[Z46]
        exact J4 (Zk (Zk Za Za (Zi7 _ _ _)) (Zk Za Za (Zi7 _ _ _)) (Zwm _ _))
       cases hc:prt p.1 p.2 c with
       | true=>
        rw[hc]at tt
        refine⟨_,_,rfl,.inl (Zdv tt (Z8 (Zj (Zb Za (Zb Za Zf)) (Zpg (qv.qb hb (by omega)) (qc.qb hb (by decide)) (by omega))))),v+c.2,_,_,rfl,?_,qv.add (qc.up (by omega))⟩
        rw[tk,Vl,Qj,Ve hc,V7,List.map_singleton,Zz9,<-hv]
       | false=>
        rw[hc]at tt
        refine⟨_,_,rfl,.inl (Zn tt rfl),v,_,_,rfl,?_,qv.up (by omega)⟩
        rw[tk,Vl,Vf (by rw[hc];decide),V7,QX,<-hv]
    rw[Xc,VG]at hv
    refine⟨_,_,rfl,.inl (Z2 (Z8 (d:=frD 0) tw) (Z2 e2 (Z5j (q:=Sm L p.1 p.2) (EvV.cast Za (by rw[hv];rfl)) rfl (by rw[Xc];exact Qa (List.length_take_le' ..) (by omega))))),some (.fz (.int (p.1:Int))),some (.fz (.int (p.2:Int))),some (.fz (frD v)),z6,z7,?_⟩
    rw[et,Qj];rfl)
 rw[Xc,VG]at e1
 unfold Jq
 rw[Zg3 (np:=2) (by rfl)]
 show(Jx [some (.fz (.int n)),some (.fz (Zag L)),none,none,none,none,none,none]).told=_
 rw[show Jx [some (.fz (.int n)),some (.fz (Zag L)),none,none,none,none,none,none]= .rt (Zn1 (smL n L)) [some (.fz (.int n)),some (.fz (Zag L)),none,z3,z4,z5,z6,z7]from Z2 Zkq (Z2 e1 rfl)]
 rfl
theorem Zby(q:Rat):Told Yx [frD q] (.bool true):=by
 have g1:(Q3 q.num (q.den:Int):Int)=1:=by
  rw[Uw,V9]
  exact congrArg Int.ofNat q.reduced
 have w:∀{δ:Zg} {k i:Int},EvV (W8 gIx Wt (fC (.int k))) δ (.int i)->EvT (tNo (tD (Zo Z9 (Zd (W8 gIx Wt (fC (.int k))) Z5)))) δ false:=λh=>J0 (p:=true) (W5 (Zj (Zb h Zf) (.of (Zdw _) (OT.data_fz _))))
 exact Zu rfl<|Zr (Zn (Zsw (J0 (p:=true) (W5 (Zhu Za rfl))) (J4 (Zoe (Zbl (Zb (Za (d:=frD q)) Zf) (Zug [.int q.num,.int (q.den:Int)])) Zv rfl))) rfl)<|
  Zr (Zn (Zsw (w (at0 rfl)) (w (at1 rfl))) rfl)<|Z1 (Zaw (Zsl (at1 rfl) Zv (decide_eq_true (Zbo q))) (Zcs (Zj (Zb (at0 rfl) (Zb (at1 rfl) Zf)) (.of (Jj _ _) (OT.data_fz _))) Zv (by rw[g1];rfl)))
def Jy(n:Nat)(f:Nat->Nat->Xa):Xa:=.list ((Xz n).map λi=>.list ((Xz n).map λj=>f i j))
def frG(T:Nat->Nat->Rat):Nat->Nat->Xa:=λi j=>frD (T i j)
theorem Zvt{n:Nat}{f:Nat->Nat->Xa}(h:δ[0]? =some (some (.fz (Jy n f)))):EvV Zxg δ (.int n):=(Zez (ds:=(Xz n).map λi=>.list ((Xz n).map λj=>f i j)) (Za h)).cast (by rw[Xc,XD])
def Zbi(n:Nat)(f:Nat->Nat->Xa):OT:=.nd ((Xz n).map λi=>.nd ((Xz n).map λj=>.fz (f i j)))
theorem Zeo(n:Nat)(f:Nat->Nat->Xa):(Zbi n f).data=Jy n f:=by
 unfold Zbi Jy
 rw[OT.data_nd,Xr]
 refine congrArg Bh (XN λi _=>?_)
 show(OT.nd _).data=_
 rw[OT.data_nd,Xr]
 exact congrArg Bh (XN λj _=>OT.data_fz _)
theorem Zl2{n:Nat}{f g:Nat->Nat->Xa}(h:∀i j,i<n->j<n->f i j=g i j):Zbi n f=Zbi n g:=by
 unfold Zbi
 refine congrArg OT.nd (XN λi hi=>congrArg OT.nd (XN λj hj=>congrArg OT.fz (h i j (Qn.mp hi) (Qn.mp hj))))
def upG(f:Nat->Nat->Xa)(a b:Nat)(d:Xa):Nat->Nat->Xa:=λi j=>if i=a/\j=b then d else f i j
theorem Znl{n a:Nat}(f:Nat->α)(x:α):((Xz n).map f).set a x=(Xz n).map λi=>if i=a then x else f i:=by
 refine List.ext_getElem? λi=>?_
 rw[List.getElem?_set,Xc,XD,Xj,Xj]
 by_cases h:a=i
 .subst h
  by_cases c:a<n
  .rw[if_pos rfl,if_pos c,QM c];simp
  .rw[if_pos rfl,if_neg c,Q0 (by simp;omega)];rfl
 .rw[if_neg h]
  by_cases c:i<n
  .rw[QM c];simp[Bo h]
  .rw[Q0 (by simp;omega)];rfl
theorem Zgd{n:Nat}{e j j2:FE}{d:Xa}{f:Nat->Nat->Xa}{a b:Nat}(he:EvV e δ d)(hi:δ[i]? =some (some (Zbi n f)))(hj:EvV j δ (.int a))(ha:a<n)(hk:EvV j2 δ (.int b))(hb:b<n) :
  Zlz i e j j2 δ= .nx (δ.set i (some (Zbi n (upG f a b d)))):=by
 obtain⟨_,e2,d2⟩:=he
 obtain⟨_,e3,d3⟩:=hj
 obtain⟨_,e4,d4⟩:=hk
 unfold Zlz Zbi at*
 rw[Zbv,e2,Yr,hi]
 dsimp only
 rw[Zbv,e3,Yr,d3]
 dsimp only
 rw[Zro (by rw[Xc,XD];exact ha)]
 dsimp only
 rw[Xj,QM ha,Option.map_some]
 dsimp only
 rw[Zbv,e4,Yr,d4]
 dsimp only
 rw[Zro (by rw[Xc,XD];exact hb)]
 dsimp only
 rw[d2,Znl,Znl]
 refine congrArg RS.nx (congrArg (δ.set i) (congrArg some (congrArg OT.nd (XN λk _=>?_))))
 by_cases c:k=a
 .subst c
  rw[if_pos rfl]
  refine congrArg OT.nd (XN λl _=>?_)
  unfold upG
  by_cases c2:l=b
  .rw[if_pos c2,if_pos ⟨rfl,c2⟩]
  .rw[if_neg c2,if_neg λz=>c2 z.2]
 .rw[if_neg c]
  refine congrArg OT.nd (XN λl _=>?_)
  unfold upG
  rw[if_neg λz=>c z.1]
theorem Zej{ds:List Xa}(h:∀d∈ds,Yq d=true):Yq (.list ds)=true:=by
 rw[Yq]
 induction ds with
 | nil=>rfl
 | cons d ds ih=>rw[Zfc,h d (.head _),ih λe he=>h e (.tail _ he)];rfl
theorem Zpo(p:List Int):Sh 1 (Zx p):=Zi8 λd m=>by
 obtain⟨x,_,rfl⟩:=Xp.mp m
 exact Zqz x
theorem Zem(p:List Int):Yq (Zx p)=true:=Zej λd m=>by
 obtain⟨x,_,rfl⟩:=Xp.mp m
 rfl
theorem Zxs(a b:List Int):gNe (Zx a) (Zx b)=some (.bool (!decide (a=b))):=by
 have s:JQ (Zx a)=true:=((Zpo a).shp (by omega)).ok
 have t:JQ (Zx b)=true:=((Zpo b).shp (by omega)).ok
 unfold gNe
 rw[if_pos (by rw[s,t];rfl)]
 by_cases c:a=b
 .subst c
  rw[Zzn (Zem a)]
  simp
 .have:QL (Zx a) (Zx b)=false:=by
   cases e:QL (Zx a) (Zx b)with
   | false=>rfl
   | true=>exact absurd (Zx1 ((Zi9 _ _ (Zem a) (Zem b)).mp e)) c
  rw[this,decide_eq_false c]
def Yco(p:List α)(lo hi:Option Int):List α:=(p.drop (HT.sIx p.length 0 lo)).take (HT.sIx p.length p.length hi-HT.sIx p.length 0 lo)
theorem Zq9{n:Nat}{xs:List Xa}{Q:Xa->Prop}(hl:xs.length=np)(h:EpS S (Zb9 n xs) (λ_=>False) λd _=>Q d):∃d,Told (Jb np n S) xs d/\Q d:=by
 rcases h with⟨_,_,z⟩|⟨o,δ',e,h⟩
 .exact z.elim
 .exact⟨_,Zu hl ⟨o,δ',e,rfl⟩,h⟩
theorem Zql{t:FT}(xs:List α)(mk f:α->Xa)(pr:α->Bool)(hi:EvI it δ (xs.map mk))(hz:xs.length<=1000000)(hb:blk 2 caps δ=none :: none :: cs)(h:∀x∈xs,∀z0 z1,∃w0 w1,g (mk x) (z0 :: z1 :: cs)=some (w0 :: w1 :: cs)/\EvT t (w0 :: w1 :: cs) (pr x)/\EvV me (w0 :: w1 :: cs) (f x)):EvV (Yn 2 caps it g t me) δ (.list ((xs.filter pr).map f)):=by
 obtain⟨ts,δ',e1,z0,z1,rfl,e2⟩:=Ycd (t:=t) (e:=me) (g:=g) (δ:=none :: none :: cs)
  (λk acc δ=>∃z0 z1,δ=z0 :: z1 :: cs/\acc=((xs.take k).filter pr).map f) (xs.map mk) 0 [] ⟨none,none,rfl,rfl⟩ (λk d acc δ hd q=>by
   obtain⟨z0,z1,rfl,rfl⟩:=q
   rw[Ug]at*
   rw[Xj]at hd
   cases e:xs[k]? with
   | none=>rw[e]at hd;cases hd
   | some p=>
    rw[e]at hd
    cases hd
    have et:xs.take (k+1)=xs.take k ++ [p]:=by rw[Ue,e];rfl
    obtain⟨w0,w1,e1,e2,e3⟩:=h p (X5 e) z0 z1
    refine⟨_,e1,Zgf e2 ⟨λc=>Zgo e3 ⟨_,_,rfl,?_⟩,λc=>⟨_,_,rfl,?_⟩⟩⟩
    .rw[et,Vl,Ve c,V7,Qj];rfl
    .rw[et,Vl,Vf (by rw[c];decide),V7,QX])
 rw[Ug,Xc,VG,List.nil_append]at e2
 refine⟨.nd ts,?_,by rw[OT.data_nd,e2]⟩
 unfold EvI at hi
 unfold Yn
 rw[hi]
 show(if(xs.map mk).length<=Xk then _ else none)=_
 rw[if_pos (by rw[Xc,Qc];omega),hb,e1];rfl
theorem Z07{n:Nat}{e j:FE}{d:Xa}{k:Int}(h:EvV e δ d)(hi:δ[i]? =some (some (.nd ts)))(hj:EvV j δ (.int k))(hx:ixN ts.length k=some n):Z6w i e j δ= .nx (δ.set i (some (.nd (ts.set n (.fz d))))):=by
 obtain⟨t,e1,e2⟩:=h
 obtain⟨u,e3,e4⟩:=hj
 rw[Z4s,e1,Yr,hi]
 show onO (j δ) _=_
 rw[e3,Yr,e4]
 show onX (ixN ts.length k) _=_
 rw[hx,e2];rfl
inductive Rch(E:Nat->Nat->Prop)(s:Nat):Nat->Prop
 | refl:Rch E s s
 | step {k m:Nat}:Rch E s k->E k m->Rch E s m
def kI(k:Nat):KY:=.inl (.inl (k:Int))
def dI(k:Nat):Xa:=.int (k:Int)
theorem Ybg{a b:FE}{x y d:Xa}(ha:EvV a δ x)(hb:EvV b δ y)(h:Z1a x y=some (.fz d)):EvV (W8 Z1a a b) δ d:=Zuv ha hb h (OT.data_fz _)
def eB(bs:Xa)(s:Nat)(ks:List Nat)(vs:List Xa)(ed:List Nat)(o4 o5 o6:Option OT):Zg:=[some (.fz bs),some (.fz (dI s)),some (.dc false (ks.map kI) vs),some (.fz (.list (ed.map dI))),o4,o5,o6]
theorem Zhj{f g:Int->Int->Bool}{a b c:FE}{i j k:Int}(ha:EvV a δ (.int i))(hb:EvV b δ (.int j))(hc:EvV c δ (.int k))(h:f i j=true)(hg:g j k=true):EvV (Zjk f g a b c) δ (.bool true):=by
 obtain⟨_,e1,d1⟩:=ha
 obtain⟨_,e2,d2⟩:=hb
 obtain⟨_,e3,d3⟩:=hc
 refine⟨.fz (.bool true),?_,OT.data_fz _⟩
 unfold Zjk
 rw[e1,Xf,e2,Xf]
 dsimp only
 rw[d1,d2]
 dsimp only
 rw[if_pos h,e3,Xf,d3]
 dsimp only
 rw[hg]
theorem Zlp(xs:List α)(mk f:α->Xa)(hi:EvI it δ (xs.map mk))(hz:xs.length<=1000000)(hb:blk 1 caps δ=none :: cs)(h:∀x∈xs,EvV me (some (.fz (mk x)) :: cs) (f x)):∃rs,Yn 1 caps it Zj4 Zdx me δ=some (.nd rs,δ)/\OT.datas rs=xs.map f:=by
 obtain⟨t,e1,e2⟩:=Zcr xs mk f hi hz hb h
 cases t with
 | fz d=>
  unfold Yn at e1
  unfold EvI at hi
  rw[hi,Xf]at e1
  split at e1
  .obtain⟨z,h1,h2⟩:=bs e1
   cases h2
  .cases e1
 | tp ts=>rw[OT.data_tp]at e2;cases e2
 | dc _ _ _=>rw[OT.data_dc]at e2;cases e2
 | nd rs=>
  rw[OT.data_nd,<-datas_map]at e2
  injection e2 with e2
  exact⟨rs,e1,e2⟩
theorem Z3b{e j:FE}{d y:Xa}{t:Bool}{ds:List Xa}{k:KY}(he:EvV e δ d)(hi:δ[i]? =some (some (.dc t ks ds)))(hj:EvV j δ y)(hk:Zoj y=some k)(ht:Z11 k=t)(hl:ks.length<1000000):Zxn i e j δ= .nx (δ.set i (some (.dc t (Zom k ks) (Zmt k d ks ds)))):=by
 obtain⟨t1,e1,d1⟩:=he
 obtain⟨t2,e2,d2⟩:=hj
 unfold Zxn
 rw[Zbv,e1,Yr]
 rw[hi]
 dsimp only
 rw[Zbv,e2,Yr,d1,d2]
 rw[hk]
 dsimp only
 rw[if_pos ⟨ht,by rw[Qc];omega⟩]
theorem Yes:Q8 "/"=mkS [47]:=by rw[Q7];rfl
theorem s_0:Q8 "0"=mkS [48]:=by rw[Q7];rfl
def en(i:Int)(s:List Nat)(n:Nat):Zg:=[some (.fz (.int i)),some (.fz (.str (mkS s))),some (.fz (.int n))]
def shw(p:Int×Int):List Nat:=tx p.1 ++ (if p.2=1 then[]else 47 :: tx p.2)
theorem Z7v{p:Int×Int}(h:p.2≠1):shw p=tx p.1 ++ [47] ++ tx p.2:=by
 unfold shw
 rw[if_neg h,JW];rfl
theorem Z37{p:Int×Int}(h1:Bt 400 p.1)(h2:Bt 400 p.2):Told Yc [prD p] (.str (mkS (shw p))):=by
 have l1:=Z02 h1
 have l2:=Z02 h2
 refine Zu rfl<|Zr (Z8 (Zbl (Zb (Wv (d:=.int p.1) Za Zv rfl) Zf) (Zo2 h1))) ?_
 by_cases c:p.2=1
 .have:shw p=tx p.1:=by unfold shw;rw[if_pos c,QX]
  rw[this]
  exact Zav (Zce (J4 (Zcs (Wv (d:=.int p.2) Za Zv rfl) Zv (decide_eq_true c))) (Z1 Za))
 .rw[Z7v c]
  refine Zr (Zn (J4 (Zcs (Wv (d:=.int p.2) Za Zv rfl) Zv (decide_eq_false c))) rfl) (Z1 ?_)
  exact Zk (Zk Za Zv (by rw[Yes];exact Zig (by rw[Uk];omega))) (Zbl (Zb (Wv (d:=.int p.2) Za Zv rfl) Zf) (Zo2 h2)) (Zig (by rw[X7,Uk];omega))
theorem Z2z{e:FE}{d:Xa}(h:EvV e δ d)(hf:Zbg d=true):wE e (Zya i) δ= .nx (δ.set i (some (.fz d))):=by
 obtain⟨o,e1,rfl⟩:=h
 rw[Zbv,e1,Yr,Zzj,if_pos hf]
theorem Yf7{as:FA}{ds:List Xa}(h:EvA as δ ds)(k:F ds= .ok o):Zo F as δ=some (o,δ):=by
 obtain⟨ts,e1,e2⟩:=h
 rw[Zlg,e1]
 show okO (F (OT.datas ts)) δ=_
 rw[e2,k];rfl
theorem Zyv(f:α->Xa)(L:List α)(lo hi:Option Int):cutD (L.map f) lo hi=(Yco L lo hi).map f:=by
 unfold cutD Yco
 rw[Xc,List.map_take,List.map_drop]
theorem Zzw{p:List Int}(h:0<p.length):gIx (Zx p) (.int (-1))=some (.fz (.int (p.getD (p.length-1) 0))):=by
 unfold Zx
 rw[Zso]
 have e:p=p.dropLast ++ [p.getLast (by intro z;rw[z]at h;simp at h)]:=(List.dropLast_concat_getLast _).symm
 have g:p.getD (p.length-1) 0=p.getLast (by intro z;rw[z]at h;simp at h):=by
  rw[List.getLast_eq_getElem,Xq,Xx (by omega)];rfl
 rw[g]
 conv=>lhs;rw[e,Qj]
 rw[Xv,List.map_nil,Zy5];rfl
theorem Ycc(p:List α):Yco p (some 1) none=p.drop 1:=by
 cases p with
 | nil=>rfl
 | cons x p=>
  unfold Yco
  have e1:HT.sIx (x :: p).length 0 (some (1:Int))=1:=by unfold HT.sIx;simp
  have e2:HT.sIx (x :: p).length (x :: p).length none=(x :: p).length:=rfl
  rw[e1,e2]
  exact List.take_of_length_le (by rw[Vd];omega)
def Ris(lt:α->α->Bool)(p:List α):Prop:=∀k x y,p[k]? =some x->p[k+1]? =some y->lt x y=true
theorem scan2{enc:α->Xa}{lt:α->α->Bool}{p:List α}{R:Xa->Zg->Prop}{E:Option OT->Option OT->Zg}(hp:∀z z',(E z z')[i]? =some (some (.fz (.list (p.map enc)))))(hg:∀x y z z',g (.tuple [enc x,enc y]) (E z z')=some (E (some (.fz (enc x))) (some (.fz (enc y)))))
  (hS:∀x y,x∈p->y∈p->∀N:Zg->Prop,(lt x y=true->N (E (some (.fz (enc x))) (some (.fz (enc y)))))->(lt x y=false->R (.bool false) (E (some (.fz (enc x))) (some (.fz (enc y)))))->EpS S (E (some (.fz (enc x))) (some (.fz (enc y)))) N R)
  (no:¬Ris lt p->∀δ,R (.bool false) δ) (yes:Ris lt p->∀z z',EpS S' (E z z') (λ_=>False) R) (z z':Option OT):EpS (Z3 (Zb2 (Zgk (Zd (Zw i) (Zd (fSl (Zw i) (oI Zet) oN) Z5))) g S) S') (E z z') (λ_=>False) R:=by
 have ez:EvI (Zgk (Zd (Zw i) (Zd (fSl (Zw i) (oI Zet) oN) Z5))) (E z z') ((p.zip (p.drop 1)).map λq=>.tuple [enc q.1,enc q.2]):=by
  refine Zlx (as:=p.map enc) (bs:=(p.drop 1).map enc) (Za (hp z z')) ((Ybu (ds:=p.map enc) (Za (hp z z')) (Yeo (Zv (d:=.int 1))) Yk3).cast (by rw[Zyv,Ycc])) ?_
  unfold Zmj
  rw[List.zip_map,Xr];rfl
 refine Zp5 (Zt9 (ds:=(p.zip (p.drop 1)).map λq:α×α=>.tuple [enc q.1,enc q.2]) (λk δ=>(∃z z',δ=E z z')/\∀j x y,j<k->p[j]? =some x->p[j+1]? =some y->lt x y=true) ez ⟨⟨_,_,rfl⟩,λj _ _ hj=>absurd hj (Vo j)⟩ (λk d δ hd q=>?_) λδ' q=>?_)
 .obtain⟨⟨z,z',rfl⟩,hq⟩:=q
  rw[Xj]at hd
  cases e:(p.zip (p.drop 1))[k]? with
  | none=>rw[e]at hd;cases hd
  | some xy=>
   rw[e]at hd
   cases hd
   obtain⟨a,b⟩:=List.getElem?_zip_eq_some.mp e
   rw[List.getElem?_drop,Nat.add_comm]at b
   refine⟨_,hg _ _ _ _,hS xy.1 xy.2 (X5 a) (X5 b) _ (λl=>⟨⟨_,_,rfl⟩,λj x y hj ha hb=>?_⟩) λl=>no (λr=>?_) _⟩
   .by_cases c:j=k
    .subst c
     rw[a]at ha
     rw[b]at hb
     cases ha
     cases hb
     exact l
    .exact hq j x y (by omega) ha hb
   .rw[r k _ _ a b]at l;cases l
 .obtain⟨⟨z,z',rfl⟩,hq⟩:=q
  refine yes (λk x y ha hb=>hq k x y ?_ ha hb) z z'
  have:=(Xi.mp hb).1
  rw[Xc,List.length_zip,Vd]
  omega
theorem Zio{enc:α->Xa}{lt:α->α->Bool}(hl:∀a b,Z6k (enc a) (enc b)=some (.bool (lt a b)))(p:List α):∃b:Bool,Told Yv [.list (p.map enc)] (.bool b)/\(b=true↔Ris lt p):=by
 have key:∃d,Told Yv [.list (p.map enc)] d/\∃b,d= .bool b/\(b=true↔Ris lt p):=by
  refine Zq9 rfl (scan2 (enc:=enc) (lt:=lt) (p:=p) (E:=λz z'=>[some (.fz (.list (p.map enc))),z,z']) (λ_ _=>rfl) (λ_ _ _ _=>rfl) (λx y _ _ N h1 h2=>?_) (λn _=>⟨false,rfl,(λz=>nomatch z),λz=>absurd z n⟩) (λr z z'=>Zmf (Zgo Zv ⟨true,rfl,λ_=>r,λ_=>rfl⟩)) none none)
  exact Zwj (Zgf (J0 (J4 (Zk (Za (i:=1) rfl) (Za (i:=2) rfl) (hl x y)))) ⟨λc=>Zmf (Zgo Zv (h2 (by simpa using c))),λc=>Zti (h1 (by simpa using c))⟩)
 obtain⟨d,h,b,rfl,hb⟩:=key
 exact⟨b,h,hb⟩
theorem Z9y(a b:Int):Z6k (.int a) (.int b)=some (.bool (decide (a<b))):=rfl
theorem Ya6(a b:List Int):Z6k (Zx a) (Zx b)=some (.bool (ltI a b)):=by
 show((none:Option Xa).or ((Zkb (a.map Xl)).bind _))=_
 rw[Zdt,Xf,Zdt,Xf];rfl
def Z7i(n:Int)(p:List Int):Prop:=p≠[]/\Ris (λa b=>decide (a<b)) p/\1<=p.getD 0 0/\p.getD (p.length-1) 0<n
theorem Zw3(n:Int)(p:List Int):∃b:Bool,Told Zau [.int n,Zx p] (.bool b)/\(b=true↔Z7i n p):=by
 by_cases c:p.length=0
 .refine⟨false,Zu rfl<|Zav<|Zce (Zsw (J0 (p:=true) (W5 (Zhu (Za (i:=1) (d:=Zx p) rfl) rfl))) (J4 (Zcs (Zei (Za rfl)) Zv (decide_eq_true (by omega))))) (Z1 Zv),(λz=>nomatch z),λz=>absurd (List.length_eq_zero_iff.mp c) z.1⟩
 have ne:p≠[]:=λz=>c (by rw[z];rfl)
 obtain⟨r,Tr,hr⟩:=Zio Z9y p
 have head:∀{d:Xa},(∀z,Zni Yjg [some (.fz (.int n)),some (.fz (Zx p)),z] d)->Told Zau [.int n,Zx p] d:=fun{d} hd=>Zu rfl<|Zr (Zn (Zsw (J0 (p:=true) (W5 (Zhu (Za (i:=1) (d:=Zx p) rfl) rfl))) (J4 (Zcs (Zei (Za rfl)) Zv (decide_eq_false (by omega))))) rfl)<|Ze2 (ds:=p.map Xl) (λi δ=>∃z,δ=[some (.fz (.int n)),some (.fz (Zx p)),z]) (Y6 (Za (i:=1) rfl)) ⟨_,rfl⟩ (λi d δ hd q=>by
  obtain⟨z,rfl⟩:=q
  obtain⟨x,_,rfl⟩:=Xp.mp (X5 hd)
  exact⟨_,_,rfl,.inl (Zn (J0 (p:=true) (W5 (Zj (Zb (Za (i:=2) rfl) Zf) (.of (Zdw x) (OT.data_fz _))))) rfl),_,rfl⟩) λδ' q=>by
  obtain⟨z,rfl⟩:=q
  exact hd z
 have er:∀z,EvV (Zo Yv Zli) [some (.fz (.int n)),some (.fz (Zx p)),z] (.bool r):=λz=>Zj (Zb (Za (i:=1) rfl) Zf) Tr
 cases r with
 | false=>exact⟨false,head λz=>Z1 (Zlq (er z)),(λz=>nomatch z),λz=>hr.mpr z.2.1⟩
 | true=>
  have a0:∀z,EvV Z51 [some (.fz (.int n)),some (.fz (Zx p)),z] (.int (p.getD 0 0)):=λz=>Zng (Za (i:=1) rfl) (Zv (d:=.int 0)) (by decide) (by omega)
  by_cases c3:1<=p.getD 0 0
  .refine⟨decide (p.getD (p.length-1) 0<n),head λz=>Z1 (Zaw (er z) (Zaw (Zsl (a0 z) Zv (decide_eq_true c3)) (Zh4 (Wv (Za (i:=1) rfl) (Z19 Zv) (Zzw (by omega))) (Za (i:=0) rfl) rfl))),λz=>⟨ne,hr.mp rfl,c3,of_decide_eq_true z⟩,λz=>decide_eq_true z.2.2.2⟩
  .exact⟨false,head λz=>Z1 (Zaw (er z) (Zlq (Zsl (a0 z) Zv (decide_eq_false c3)))),(λz=>nomatch z),λz=>absurd z.2.2.1 c3⟩
def WL(n:Int)(L:List (List Int×Rat)):Prop:=(∀p∈L,Z7i n p.1/\0<p.2.num)/\Ris (λa b:List Int×Rat=>ltI a.1 b.1) L
theorem Zfy(n:Int)(p:List Int×Rat):∃b:Bool,Told Ys [.int n,ctD p] (.bool b)/\(b=true↔Z7i n p.1/\0<p.2.num):=by
 obtain⟨r,Tr,hr⟩:=Zw3 n p.1
 have head:∀{d:Xa},Zni Yh1 [some (.fz (.int n)),some (.fz (ctD p))] d->Told Ys [.int n,ctD p] d:=λh=>Zu rfl<|Zr (Zn (Zsw (J0 (p:=true) (W5 (Zhu (Za (i:=1) (d:=ctD p) rfl) rfl))) (J4 (Zoe (Zbl (Zb (Za (i:=1) (d:=ctD p) rfl) Zf) (Zug [Zx p.1,frD p.2])) Zv rfl))) rfl) h
 have e1:EvV Z4y [some (.fz (.int n)),some (.fz (ctD p))] (frD p.2):=Wv (Za (i:=1) (d:=ctD p) rfl) (Zv (d:=.int 1)) rfl
 have er:=Zj (δ:=[some (.fz (.int n)),some (.fz (ctD p))]) (Zb (Za (i:=0) rfl) (Zb (Wv (Za (i:=1) (d:=ctD p) rfl) (Zv (d:=.int 0)) rfl) Zf)) Tr
 cases r with
 | false=>exact⟨false,head (Z1 (Zlq er)),(λz=>nomatch z),λz=>hr.mpr z.1⟩
 | true=>exact⟨decide (0<p.2.num),head (Z1 (Zaw er (Zaw (Zj (Zb e1 Zf) (Zby p.2)) (Z7s (Wv e1 (Zv (d:=.int 0)) rfl) Zv rfl)))),λz=>⟨hr.mp rfl,of_decide_eq_true z⟩,λz=>decide_eq_true z.2⟩
theorem Zj8(n:Int)(L:List (List Int×Rat))(hl:L.length<=1000):∃b:Bool,Told Wk [.int n,Zag L] (.bool b)/\(b=true↔WL n L):=by
 obtain⟨r,Tr,hr⟩:=Zio Ya6 (L.map λp=>p.1)
 have hr2:r=true↔Ris (λa b:List Int×Rat=>ltI a.1 b.1) L:=hr.trans ⟨λh k x y hx hy=>h k x.1 y.1 (by rw[Xj,hx];rfl) (by rw[Xj,hy];rfl),λh k x y hx hy=>by
  rw[Xj]at hx hy
  cases ex:L[k]? with
  | none=>rw[ex]at hx;cases hx
  | some u=>
   cases ey:L[k+1]? with
   | none=>rw[ey]at hy;cases hy
   | some v=>
    rw[ex]at hx
    rw[ey]at hy
    cases hx
    cases hy
    exact h k u v ex ey⟩
 have key:∃d,Told Wk [.int n,Zag L] d/\∃b,d= .bool b/\(b=true↔WL n L):=by
  refine Zq9 rfl (Zp5 (Zwj (Zgf (J0 (p:=true) (W5 (Zhu (Za (i:=1) (d:=Zag L) rfl) rfl))) ⟨(λc=>nomatch c),λ_=>Zti (Zp5 (Zt9 (ds:=L.map ctD) (λk δ=>(∃z,δ=[some (.fz (.int n)),some (.fz (Zag L)),z])/\∀p∈L.take k,Z7i n p.1/\0<p.2.num) (Y6 (Za (i:=1) rfl)) ⟨⟨_,rfl⟩,λ_ m=>nomatch m⟩ (λk d δ hd q=>?_) λδ' q=>?_))⟩)))
  .obtain⟨⟨z,rfl⟩,hq⟩:=q
   rw[Xj]at hd
   cases e:L[k]? with
   | none=>rw[e]at hd;cases hd
   | some p=>
    rw[e]at hd
    cases hd
    obtain⟨b,Tb,hb⟩:=Zfy n p
    refine⟨_,rfl,Zwj (Zgf (J0 (W5 (Zj (Zb (Za (i:=0) rfl) (Zb (Za (i:=2) rfl) Zf)) Tb))) ⟨λc=>Zmf (Zgo Zv ⟨false,rfl,(λz=>nomatch z),λz=>?_⟩),λc=>Zti ⟨⟨_,rfl⟩,λt ht=>?_⟩⟩)⟩
    .rw[hb.mpr (z.1 p (X5 e))]at c;cases c
    .rw[Ue,e]at ht
     rcases Qq.mp ht with m|m
     .exact hq t m
     .rw[Xn.mp m];exact hb.mp (by simpa using c)
  .obtain⟨⟨z,rfl⟩,hq⟩:=q
   rw[Xc,VG]at hq
   refine Zmf (Zgo (Zj (Zb (EvV.cast (Zcr (cs:=[]) L ctD (λp=>Zx p.1) (Y6 (Za (i:=1) rfl)) (by omega) rfl λp _=>Wv (Za (i:=0) (d:=ctD p) rfl) (Zv (d:=.int 0)) rfl) (y:=.list ((L.map λp=>p.1).map Zx)) ?_) Zf) Tr) ⟨r,rfl,λz=>⟨hq,hr2.mp z⟩,λz=>hr2.mpr z.2⟩)
   rw[Xr];rfl
 obtain⟨d,h,b,rfl,hb⟩:=key
 exact⟨b,h,hb⟩
def kA(A:List Int):KY:=.inr (A.map λx=>(.inl x:Key))
def kyA(q:List Int×Int):KY:=kA q.1
theorem Zw6{A B:List Int}(h:kA A=kA B):A=B:=by
 have:A.map (λx=>(.inl x:Key))=B.map λx=>(.inl x:Key):=Sum.inr.inj h
 exact(List.map_inj_right λx y e=>Sum.inl.inj e).mp this
theorem Yh6(A:List Int):kyD (kA A)= .tuple (A.map Xl):=by
 show QF ((A.map _).map Z3x)=_
 rw[Xr];rfl
theorem Z7j(A:List Int):Zoj (.tuple (A.map Xl))=some (kA A):=by rw[<-Yh6];exact Z04 _
theorem Yfz{A:List Int}{D:List (List Int×Int)}:Zxe (kA A) (D.map kyA)=true↔A∈D.map BW:=by
 unfold Zxe
 rw[List.any_map,List.any_eq_true]
 constructor
 .rintro⟨q,hq,h⟩
  have h:kyA q=kA A:=of_decide_eq_true h
  rw[<-Zw6 h]
  exact List.mem_map_of_mem hq
 .intro h
  obtain⟨q,hq,rfl⟩:=Xp.mp h
  exact⟨q,hq,decide_eq_true rfl⟩
theorem Zwp{t:FT}(xs:List α)(mk f:α->Xa)(pr:α->Bool)(hi:EvI it δ (xs.map mk))(hz:xs.length<=1000000)(hb:blk 1 caps δ=none :: cs)(ht:∀x∈xs,EvT t (some (.fz (mk x)) :: cs) (pr x))(h:∀x∈xs,pr x=true->EvV me (some (.fz (mk x)) :: cs) (f x)):EvV (Yn 1 caps it Zj4 t me) δ (.list ((xs.filter pr).map f)):=by
 have ch:∀x,∃o:OT,x∈xs->pr x=true->me (some (.fz (mk x)) :: cs)=some (o,some (.fz (mk x)) :: cs)/\o.data=f x:=λx=>by
  by_cases c:x∈xs/\pr x=true
  .obtain⟨o,e1,e2⟩:=h x c.1 c.2
   exact⟨o,λ_ _=>⟨e1,e2⟩⟩
  .exact⟨.fz .none,λa b=>absurd ⟨a,b⟩ c⟩
 obtain⟨g,hg⟩:=V0 ch
 unfold EvI at hi
 refine⟨_,Ztz (cs:=cs) xs mk pr g hi (by rw[Qc];omega) hb (λx hx=>ht x hx) λx hx hp=>(hg x hx hp).1,?_⟩
 rw[OT.data_nd,Xr]
 refine congrArg Bh (XN λx hx=>?_)
 obtain⟨h1,h2⟩:=V5.mp hx
 exact(hg x h1 h2).2
theorem Yen(p:List Int×Rat):Sh 2 (ctD p):=Zux λd m=>by
 rcases Xo.mp m with rfl|m
 .exact Zpo _
 .rw[Xn.mp m];exact Zjl [p.2.num,(p.2.den:Int)]
theorem Zzg(p:List Int×Rat):Yq (ctD p)=true:=by
 show(Yq (Zx p.1)&&(Yq (frD p.2)&&true))=true
 rw[Zem];rfl
theorem Zw0(L:List (List Int×Rat)):Sh 3 (Zag L):=Zi8 λd m=>by
 obtain⟨p,_,rfl⟩:=Xp.mp m
 exact Yen p
theorem Zmv(L:List (List Int×Rat)):Yq (Zag L)=true:=Zej λd m=>by
 obtain⟨p,_,rfl⟩:=Xp.mp m
 exact Zzg p
theorem Zzu{f:α->β}{l m:List β}(h:l.Perm m):∀L:List α,m=L.map f->∃L1:List α,L1.Perm L/\l=L1.map f:=by
 induction h with
 | nil=>exact λL e=>⟨[],by rw[Vc.mp e.symm],rfl⟩
 | cons x h ih=>
  intro L e
  cases L with
  | nil=>cases e
  | cons y L=>
   injection e with e1 e2
   obtain⟨L1,p,e3⟩:=ih L e2
   exact⟨y :: L1,p.cons y,by rw[e1,e3];rfl⟩
 | swap x y l=>
  intro L e
  cases L with
  | nil=>cases e
  | cons a L=>
   cases L with
   | nil=>injection e with _ e;cases e
   | cons b L=>
    injection e with e1 e2
    injection e2 with e2 e3
    exact⟨b :: a :: L,.swap a b L,by rw[e1,e2,e3];rfl⟩
 | trans _ _ ih1 ih2=>
  intro L e
  obtain⟨L1,p1,e1⟩:=ih2 L e
  obtain⟨L2,p2,e2⟩:=ih1 L1 e1
  exact⟨L2,p2.trans p1,e2⟩
theorem Z0p:∀{a b c:List Int},ltI a b=true->ltI b c=true->ltI a c=true:=by
 intro a
 induction a with
 | nil=>
  intro b c h1 h2
  cases b with
  | nil=>cases h1
  | cons y b=>cases c with
   | nil=>cases h2
   | cons z c=>rfl
 | cons x a ih=>
  intro b c h1 h2
  cases b with
  | nil=>cases h1
  | cons y b=>cases c with
   | nil=>cases h2
   | cons z c=>
    unfold ltI at h1 h2|-
    by_cases e1:x=y
    .subst e1
     rw[if_pos rfl]at h1
     by_cases e2:x=z
     .rw[if_pos e2]at h2|-;exact ih h1 h2
     .rw[if_neg e2]at h2|-;exact h2
    .rw[if_neg e1]at h1
     have l1:=of_decide_eq_true h1
     by_cases e2:y=z
     .subst e2
      rw[if_neg e1];exact h1
     .rw[if_neg e2]at h2
      have l2:=of_decide_eq_true h2
      rw[if_neg (by omega)]
      exact decide_eq_true (by omega)
theorem Z2h:∀a:List Int,ltI a a=false:=by
 intro a
 induction a with
 | nil=>rfl
 | cons x a ih=>unfold ltI;rw[if_pos rfl];exact ih
theorem Z4j:∀{a b:List Int},a≠b->ltI a b=false->ltI b a=true:=by
 intro a
 induction a with
 | nil=>
  intro b ne h
  cases b with
  | nil=>exact absurd rfl ne
  | cons y b=>cases h
 | cons x a ih=>
  intro b ne h
  cases b with
  | nil=>rfl
  | cons y b=>
   unfold ltI at h|-
   by_cases e:x=y
   .subst e
    rw[if_pos rfl]at h|-
    exact ih (λz=>ne (z▸rfl)) h
   .rw[if_neg e]at h
    rw[if_neg (Bo e)]
    have:=of_decide_eq_false h
    exact decide_eq_true (by omega)
def jn(c:Nat):List (List Nat)->List Nat
 | []=>[]
 | [x]=>x
 | x :: y :: r=>x ++ c :: jn c (y :: r)
theorem Zta(x:Str):x=mkS x.cps.toList:=by
 unfold mkS
 rw[Array.toArray_toList]
theorem Zpb(c:Nat):∀ps:List (List Nat),Str.join (mkS [c]) (ps.map mkS)=mkS (jn c ps)
 | []=>rfl
 | [x]=>rfl
 | x :: y :: r=>by
  show mkS x ++ mkS [c] ++ Str.join (mkS [c]) ((y :: r).map mkS)=_
  rw[Zpb c (y :: r),Zjq,Zjq,JW];rfl
theorem Zqy{c:Nat}:∀{x y a b:List Nat},c∉x->c∉y->x ++ c :: a=y ++ c :: b->x=y/\a=b
 | [],[],a,b,_,_,h=>⟨rfl,(QW h).2⟩
 | [],z :: y,a,b,_,hy,h=>absurd (show c∈z :: y by rw[(QW h).1];exact .head _) hy
 | z :: x,[],a,b,hx,_,h=>absurd (show c∈z :: x by rw[<-(QW h).1];exact .head _) hx
 | z :: x,w :: y,a,b,hx,hy,h=>by
  obtain⟨h1,h2⟩:=QW h
  obtain⟨e1,e2⟩:=Zqy (λm=>hx (.tail _ m)) (λm=>hy (.tail _ m)) h2
  exact⟨by rw[h1,e1],e2⟩
theorem Z1i{c:Nat}:∀{P Q:List (List Nat)},P≠[]->Q≠[]->(∀p∈P,c∉p)->(∀q∈Q,c∉q)->jn c P=jn c Q->P=Q
 | [],_,h,_,_,_,_=>absurd rfl h
 | _,[],_,h,_,_,_=>absurd rfl h
 | [x],[y],_,_,_,_,h=>by rw[show x=y from h]
 | [x],y :: z :: r,_,_,hp,_,h=>by
  have h:x=y ++ c :: jn c (z :: r):=h
  exact absurd (show c∈x by rw[h];exact Qi _ (.head _)) (hp x (.head _))
 | x :: z :: r,[y],_,_,_,hq,h=>by
  have h:x ++ c :: jn c (z :: r)=y:=h
  exact absurd (show c∈y by rw[<-h];exact Qi _ (.head _)) (hq y (.head _))
 | x :: z :: r,y :: w :: s,_,_,hp,hq,h=>by
  obtain⟨e1,e2⟩:=Zqy (hp x (.head _)) (hq y (.head _)) (show x ++ c :: jn c (z :: r)=y ++ c :: jn c (w :: s)from h)
  rw[e1,Z1i (Um _ _) (Um _ _) (λp m=>hp p (.tail _ m)) (λq m=>hq q (.tail _ m)) e2]
theorem Zy6{c:Nat}{ps:List (List Nat)}(h:∀p∈ps,c∉p)(hn:ps≠[]):Qy (mkS (jn c ps)) (mkS [c])=ps.map mkS:=by
 have e1:=StrLaws.join_split (mkS (jn c ps)) (mkS [c])
 have e2:=StrLaws.split_free (mkS (jn c ps)) c
 have e3:1<=(Qy (mkS (jn c ps)) (mkS [c])).length:=PyProof.Rows.split_pos _ _
 rw[show mkS [c]=(⟨#[c]⟩:Str)from rfl]at*
 generalize Qy (mkS (jn c ps)) ⟨#[c]⟩=P at*
 have eP:P=(P.map λx=>x.cps.toList).map mkS:=by
  rw[Xr]
  exact((XN λx _=>(Zta x).symm).trans (List.map_id _)).symm
 have ej:=Zpb c (P.map λx=>x.cps.toList)
 rw[<-eP,show mkS [c]=(⟨#[c]⟩:Str)from rfl,e1]at ej
 rw[eP,<-Z1i (c:=c) hn (λz=>by rw[Vc.mp z]at e3;exact absurd e3 (by decide)) h (λq m=>by
  obtain⟨x,hx,rfl⟩:=Xp.mp m
  exact e2 x hx) (Zgt ej)]
theorem Zrg(c:Nat):∀ps:List (List Nat),(jn c ps).length<=(ps.map λp=>p.length+1).sum
 | []=>XC _
 | [x]=>by show x.length<=x.length+1+0;omega
 | x :: y :: r=>by
  have:=Zrg c (y :: r)
  show(x ++ c :: jn c (y :: r)).length<=_
  rw[X7,Qh,Xv,JS];omega
theorem Zog(f:α->Nat)(k:Nat):∀l:List α,(∀x∈l,f x<=k)->(l.map f).sum<=l.length*k
 | [],_=>JF _
 | x :: l,h=>by
  have:=Zog f k l λy m=>h y (.tail _ m)
  have:=h x (.head _)
  rw[Xv,JS,Qh,Nat.succ_mul];omega
theorem Zqo{c d:Nat}:∀{ps:List (List Nat)},d∈jn c ps->d=c\/∃p∈ps,d∈p
 | [],h=>nomatch h
 | [x],h=>.inr ⟨x,.head _,h⟩
 | x :: y :: r,h=>by
  rcases Qq.mp (show d∈x ++ c :: jn c (y :: r)from h)with h|h
  .exact .inr ⟨x,.head _,h⟩
  .rcases Xo.mp h with h|h
   .exact .inl h
   .exact(Zqo h).imp id λ⟨p,m,q⟩=>⟨p,.tail _ m,q⟩
theorem Ztt{c:Nat}{ps:List (List Nat)}(h:(ps.map λp=>p.length+1).sum<=1000000):JoinOk (mkS [c]) (ps.map mkS)=true:=by
 refine PyProof.Rows.joinOk_of ?_
 have e:∀ps:List (List Nat),((ps.map mkS).map (·.length)).sum+ps.length=(ps.map λp=>p.length+1).sum:=λps=>by
  induction ps with
  | nil=>rfl
  | cons p ps ih=>
   rw[Xv,Xv,Xv,JS,JS,Qh,<-ih,Zb0];omega
 have:=e ps
 rw[Xc]
 show _+ps.length*1<=_
 omega
theorem Zyj{c:Nat}{ps:List (List Nat)}(h:(ps.map λp=>p.length+1).sum<=1000000):Zh0 (mkS [c]) [.list (ps.map λp=>.str (mkS p))]=some (.str (mkS (jn c ps))):=by
 show((Zkk (ps.map λp=>QT (mkS p))).bind λts=>if JoinOk (mkS [c]) ts=true then some (QT (V3 (mkS [c]) ts))else none)=_
 have e:Zkk (ps.map λp=>QT (mkS p))=some (ps.map mkS):=by
  have:=Zip (ps.map mkS)
  rwa[Xr]at this
 rw[e,Xf,if_pos (Ztt h)]
 unfold V3
 rw[StrLaws.glued_eq_join,Zpb]
theorem Zvl{c:Nat}{ps:List (List Nat)}(h:∀p∈ps,c∉p)(hn:ps≠[])(hl:(jn c ps).length<=1000000)(hk:ps.length<=1000000):Zae (mkS (jn c ps)) [.str (mkS [c])]=some (.nd ((ps.map λp=>QT (mkS p)).map OT.fz)):=by
 show(if Zfj (mkS (jn c ps)) (mkS [c])=true then some (OT.nd (((Qy (mkS (jn c ps)) (mkS [c])).map QT).map OT.fz))else none)=_
 have s:=Zy6 h hn
 rw[if_pos (by unfold Zfj;rw[s,Zb0,Xc,Qc,decide_eq_true (by omega),decide_eq_true (by omega)];rfl),s,Xr,Xr,Xr]
 rfl
theorem Z1v{g:Str->List Xa->Option Xa}{o:FE}{a:FA}{ds:List Xa}{d:Xa}(ho:EvV o δ (.str z))(ha:EvA a δ ds)(h:g z ds=some d):EvV (Ztq g o a) δ d:=by
 obtain⟨t,e1,e2⟩:=ho
 obtain⟨ts,e3,e4⟩:=ha
 refine⟨.fz d,?_,OT.data_fz d⟩
 unfold Ztq
 rw[e1,Xf]
 dsimp only
 rw[e2]
 show((a δ).bind λq=>(g z (OT.datas q.1)).bind λd=>some (OT.fz d,q.2))=_
 rw[e3,Xf]
 dsimp only
 rw[e4,h];rfl
theorem Z1h{g:Str->List Xa->Option OT}{o:FE}{a:FA}{ds:List Xa}{t0:OT}{d:Xa}(ho:EvV o δ (.str z))(ha:EvA a δ ds)(h:g z ds=some t0)(hd:t0.data=d):EvV (Zor g o a) δ d:=by
 obtain⟨t,e1,e2⟩:=ho
 obtain⟨ts,e3,e4⟩:=ha
 refine⟨t0,?_,hd⟩
 unfold Zor
 rw[e1,Xf]
 dsimp only
 rw[e2]
 show((a δ).bind λq=>(g z (OT.datas q.1)).bind λd=>some (d,q.2))=_
 rw[e3,Xf]
 dsimp only
 rw[e4,h];rfl
theorem Zfr{c:Nat}{o a:FE}{ps:List (List Nat)}(ho:EvV o δ (.str (mkS (jn c ps))))(ha:EvV a δ (.str (mkS [c])))(h:∀p∈ps,c∉p)(hn:ps≠[])(hl:(jn c ps).length<=1000000)(hk:ps.length<=1000000):EvV (Zor Zae o (Zd a Z5)) δ (.list (ps.map λp=>.str (mkS p))) :=
 Z1h ho (Zb ha Zf) (Zvl h hn hl hk) (by rw[OT.data_nd,OT.map_fz])
theorem Zo7{c:Nat}{o a:FE}{ps:List (List Nat)}(ho:EvV o δ (.str (mkS [c])))(ha:EvV a δ (.list (ps.map λp=>.str (mkS p))))(h:(ps.map λp=>p.length+1).sum<=1000000):EvV (Ztq Zh0 o (Zd a Z5)) δ (.str (mkS (jn c ps))) :=
 Z1v ho (Zb ha Zf) (Zyj h)
theorem Yhi:Q8 "\n"=mkS [10]:=by rw[Q7];rfl
theorem Yde:Q8 " "=mkS [32]:=by rw[Q7];rfl
theorem Zok{c:Nat}(h:z=mkS [c]):EvV (fC (.str z)) δ (.str (mkS [c])):=h▸Zv
theorem Zl1:∀(k:Nat) {n:Nat},n<10^(k+1)->(dg n).length<=k+1
 | 0,n,h=>by rw[Zpq (by simpa using h)];exact XC _
 | k+1,n,h=>by
  by_cases c:n<10
  .rw[Zpq c];show 1<=k+1+1;omega
  .rw[Zx5 (by omega),X7]
   have:=Zl1 k (n:=n/10) (by rw[Nat.pow_succ]at h;omega)
   show _+1<=_
   omega
theorem Z4w{n:Nat}(h:n≠0):∃d r,dg n=d :: r/\49<=d/\d<=57:=by
 induction n using Nat.strongRecOn with
 | _ n ih=>
  by_cases c:n<10
  .exact⟨48+n,[],Zpq c,by omega,by omega⟩
  .obtain⟨d,r,e,h1,h2⟩:=ih (n/10) (by omega) (by omega)
   exact⟨d,r ++ [48+n%10],by rw[Zx5 (by omega),e];rfl,h1,h2⟩
theorem Zhq(n:Nat):tx (n:Int)=dg n:=by
 unfold tx sgn
 rw[if_neg (by omega)];rfl
theorem Z3h{n:Nat}(h:(dg n).length<=640):Zur [.str (mkS (dg n))]=some (.int n):=by
 show(if(mkS (dg n)).length<=640 then(intText? (mkS (dg n))).bind λn=>some (Xl n)else none)=_
 rw[if_pos (by rw[Zb0];exact h),intText_digits (x:=mkS (dg n)) (λc m=>Zgb m) (Z3q n) (by rw[Zb0];omega)]
 show some (Xl ((PySem.NumText.digitsVal (dg n):Nat):Int))=_
 unfold dg
 rw[PySem.W.KIN.val_back]
theorem Z4o:∀d:Fin 10,(!(!(QJ ("0123456789" : Str) ⟨#[48+(d:Nat)]⟩ 0 ("0123456789" : Str).length 1).isEmpty))=false:=by decide +kernel
theorem Z71(d:Fin 10):Z6m true (.str ⟨#[48+(d:Nat)]⟩) (.str "0123456789")=some (.bool false):=(show Z6m true (.str ⟨#[48+(d:Nat)]⟩) (.str "0123456789")=some (.bool _)from rfl).trans (congrArg (λb=>some (V4 b)) (Z4o d))
theorem Zzt(d:α)(r:List α):atI (d :: r) 0=some d:=by
 unfold atI ixN
 rw[if_pos (by decide),if_pos (by simp)];rfl
theorem Znr{n:Nat}(h:(dg n).length<=40):Told Zan [.str (mkS (dg n))] (.bool true):=by
 have l1:1<=(dg n).length:=VR.mpr (Z3q n)
 have el:∀{δ:Zg},δ[0]? =some (some (.fz (.str (mkS (dg n)))))->EvV (Zgl Zut (Zd (Zw 0) Z5)) δ (.int ((dg n).length:Int)):=λhδ=>Zbl (Zb (Za hδ) Zf) (by
  show(if(mkS (dg n)).length<=Xk then some (Xl ((mkS (dg n)).length:Int))else none)=_
  rw[Zb0,if_pos (by rw[Qc];omega)])
 refine Zu rfl<|Zr (Zn (J0 (p:=true) (J4 (Zhj Zv (el rfl) Zv (decide_eq_true (by omega)) (decide_eq_true (by omega))))) rfl) ?_
 refine Ze2 (ds:=(dg n).map λc=>.str ⟨#[c]⟩) (λ_ δ=>∃z,δ=[some (.fz (.str (mkS (dg n)))),z]) (by
  unfold EvI Yfe
  show Option.bind (Zw 0 (Zb9 2 [QT (mkS (dg n))])) _=_
  rw[show Zw 0 (Zb9 2 [QT (mkS (dg n))])=some (.fz (.str (mkS (dg n))),Zb9 2 [QT (mkS (dg n))])from rfl,Xf]
  dsimp only
  rw[OT.data_fz];rfl) ⟨none,rfl⟩ (λk d δ hd q=>?_) λδ' q=>?_
 .obtain⟨z,rfl⟩:=q
  obtain⟨c,hc,rfl⟩:=Xp.mp (X5 hd)
  have hm:=Zgb hc
  have:=Z71 ⟨c-48,by omega⟩
  rw[show 48+(c-48)=c by omega]at this
  exact⟨_,_,rfl,.inl (Zn (J4 (Zk (Za (i:=1) rfl) Zv this)) rfl),_,rfl⟩
 .obtain⟨z,rfl⟩:=q
  have cp:Cp (dg n):=λc m=>by have:=Zgb m;omega
  by_cases c:n=0
  .subst c
   exact Z1 (Z2n (Zk (Za (i:=0) rfl) Zv (by rw[s_0,Zpq (by decide),Zfn (λc m=>by rw[Xn.mp m];decide) (λc m=>by rw[Xn.mp m];decide)];rfl)))
  .obtain⟨d,r,e,h1,h2⟩:=Z4w c
   refine Z1 (Z5e (Zk (Za (i:=0) rfl) Zv (d:=.bool false) ?_) (Zk (Zuv (o:=.fz (.str (mkS [d]))) (Za (i:=0) rfl) Zv ?_ (OT.data_fz _)) Zv ?_))
   .rw[s_0,Zfn cp (λc m=>by rw[Xn.mp m];decide),decide_eq_false (by rw[e];intro z;have:=(QW z).1;omega)]
   .show(if(mkS (dg n)).length<=Xk then(atI (mkS (dg n)).cps.toList 0).map λc=>OT.fz (.str ⟨#[c]⟩)else none)=_
    rw[if_pos (by rw[Zb0,Qc];omega),e,show atI (mkS (d :: r)).cps.toList 0=some d from Zzt d r];rfl
   .rw[s_0,Z2l (λc m=>by rw[Xn.mp m];omega) (λc m=>by rw[Xn.mp m];decide),decide_eq_false (by intro z;have:=(QW z).1;omega)];rfl
theorem Zbz{n:Nat}(h:(dg n).length<=40):Told Z7 [.str (mkS (dg n))] (.int n) :=
 Zu rfl<|Z1 (Zpj (W5 (Zj (Zb Za Zf) (Znr h))) (Zbl (Zb Za Zf) (Z3h (by omega))))
structure DsQ(q:Rat):Prop where
 n0:0<=q.num
 n1:q.num<10^40
 d1:q.den<10^40
set_option exponentiation.threshold 500
def qtx(q:Rat):List Nat:=shw (q.num,(q.den:Int))
theorem DsQ.top(h:DsQ q):∃n:Nat,q.num=(n:Int)/\(dg n).length<=40:=by
 obtain⟨n,e⟩:=Vj h.n0
 refine⟨n,e,Zl1 39 ?_⟩
 have:=h.n1
 rw[e]at this
 exact Int.ofNat_lt.mp (by simpa using this)
theorem DsQ.bot(h:DsQ q):(dg q.den).length<=40:=Zl1 39 h.d1
theorem DsQ.bn(h:DsQ q):Bt 400 q.num:=Bt.of_lt (Bx (by decide) h.n0) (Int.lt_trans h.n1 (by decide +kernel))
theorem DsQ.bd(h:DsQ q):Bt 400 (q.den:Int):=Bt.of_lt (Bx (by decide) (Int.natCast_nonneg _)) (Int.lt_trans (b:=10^40) (by have:=Int.ofNat_lt.mpr h.d1;simpa using this) (by decide +kernel))
theorem Zt5(h:DsQ q):Told Yc [frD q] (.str (mkS (qtx q))):=Z37 (p:=(q.num,(q.den:Int))) h.bn h.bd
theorem Zjv(h:DsQ q):∀c∈qtx q,47<=c/\c<=57:=λc m=>by
 obtain⟨n,e,_⟩:=h.top
 unfold qtx shw at m
 rw[e,Zhq]at m
 rcases Qq.mp m with m|m
 .have:=Zgb m;omega
 .split at m
  .exact nomatch m
  .rcases Xo.mp m with m|m
   .omega
   .rw[Zhq]at m;have:=Zgb m;omega
theorem Zi6(h:DsQ q):(qtx q).length<=81:=by
 obtain⟨n,e,l⟩:=h.top
 have l2:=h.bot
 unfold qtx shw
 rw[e,Zhq,Zhq]
 split
 .rw[QX];omega
 .rw[X7,Qh];omega
theorem Zd4(h:DsQ q):Told Yb [.str (mkS (qtx q))] (frD q):=by
 obtain⟨n,en,ln⟩:=h.top
 have ld:=h.bot
 have cpq:Cp (qtx q):=λc m=>by have:=Zjv h c m;omega
 have no:∀m:Nat,47∉dg m:=λm z=>by have:=Zgb z;omega
 have fin:∀{o:OT},o.data= .list [.int q.num,.int (q.den:Int)]->Zni Yit [some (.fz (.str (mkS (qtx q)))),some o,none] (frD q):=λe1=>by
  refine Zr (Z2z (d:=frD q) (Zsg (o:=.fz (frD q)) (Zb (Zdu (i:=1) rfl e1) Zf) rfl (OT.data_fz _)) rfl) ?_
  exact Z1 (Zpj (Z3u (W5 (Zj (Zb (Za (i:=2) rfl) Zf) (Zby q))) (J4 (Zk (Zj (Zb (Za (i:=2) rfl) Zf) (Zt5 h)) (Za (i:=0) rfl) (by rw[Zfn cpq cpq,decide_eq_true rfl])))) (Za (i:=2) rfl))
 by_cases c:q.den=1
 .have eq:qtx q=jn 47 [dg n]:=by
   unfold qtx shw
   rw[en,Zhq,if_pos (by rw[c];rfl),QX];rfl
  obtain⟨rs,e4,e5⟩:=Zlp (δ:=[some (.fz (.str (mkS (qtx q)))),none,none]) (caps:=[]) (cs:=[]) (me:=Zo Z7 Zdg) [dg n] (λp=>.str (mkS p)) (λ_=>.int q.num) (it:=Zcd Yd0)
   (Y6 (Zfr (c:=47) (Za (i:=0) (by rw[eq];rfl)) (Zok Yes) (λp m=>by rw[Xn.mp m];exact no n) (by simp) (by rw[<-eq];have:=Zi6 h;omega) (QB rfl))) (QB rfl) rfl λp m=>by
    rw[Xn.mp m,en]
    exact Zj (Zb Za Zf) (Zbz ln)
  have d1:(OT.nd rs).data= .list [.int q.num]:=by rw[OT.data_nd,<-datas_map,e5];rfl
  have lr:rs.length=1:=by have:=congrArg Ut e5;rwa[Zbb]at this
  refine Zu rfl<|Zr (Zcl e4)<|Zr (Zdv (J4 (Zcs (i:=1) (j:=1) (Zez (ds:=[.int q.num]) (Zdu (i:=1) rfl d1)) Zv rfl)) (Zku Zv rfl (by omega))) (fin ?_)
  rw[OT.data_nd,Qj,<-datas_map,e5,c]
  show Bh ([.int q.num] ++ [(OT.fz (.int 1)).data])=_
  rw[OT.data_fz];rfl
 .have eq:qtx q=jn 47 [dg n,dg q.den]:=by
   unfold qtx shw
   rw[en,Zhq,if_neg (by intro z;exact c (Int.ofNat_inj.mp z)),Zhq];rfl
  obtain⟨rs,e4,e5⟩:=Zlp (δ:=[some (.fz (.str (mkS (qtx q)))),none,none]) (caps:=[]) (cs:=[]) (me:=Zo Z7 Zdg) [n,q.den] (λp=>.str (mkS (dg p))) (λp=>.int p) (it:=Zcd Yd0)
   (Y6 (Zfr (c:=47) (ps:=[dg n,dg q.den]) (Za (i:=0) (by rw[eq];rfl)) (Zok Yes) (λp m=>by
    rcases Xo.mp m with rfl|m
    .exact no n
    .rw[Xn.mp m];exact no _) (by simp) (by rw[<-eq];have:=Zi6 h;omega) (QB rfl))) (QB rfl) rfl λp m=>by
    refine Zj (Zb Za Zf) (Zbz ?_)
    rcases Xo.mp m with rfl|m
    .exact ln
    .rw[Xn.mp m];exact ld
  have d1:(OT.nd rs).data= .list [.int q.num,.int (q.den:Int)]:=by rw[OT.data_nd,<-datas_map,e5,en];rfl
  exact Zu rfl<|Zr (Zcl e4)<|Zr (Zn (J4 (Zcs (i:=2) (j:=1) (Zez (ds:=[.int q.num,.int (q.den:Int)]) (Zdu (i:=1) rfl d1)) Zv rfl)) rfl) (fin d1)
theorem Z8y{e:FE}{d:Xa}(h:EvV e δ d)(hd:Zdr d=false):EvV (Zh gIs e Z6j) δ (.bool false):=Zk h Zv (by rw[Yfd,hd])
theorem Zi4(k:Nat)(i:Int):Told (Zq (k+1)) [.int i,.int i] (.bool true) :=
 show Told (Jb 2 4 (Jf (Zq k))) [.int i,.int i] (.bool true)from Zu rfl<|Zr (Zn (W5 (Zbq (Za (d:=.int i)) rfl)) rfl)<|Zav<|Zce (W5 (Zbq (Za (d:=.int i)) rfl))<|
  Z1 (Zaw (Zj (Zb (Za (d:=.int i)) Zf) (Zu rfl (Z1 (Zaw (Zbq (Za (d:=.int i)) rfl) (Z7u (Zbq (Za (d:=.int i)) rfl) rfl))))) (Zk Za Za ((Z8k i i).trans (by rw[decide_eq_true rfl]))))
theorem Zcc{k:Nat}{x:Xa}{ds:List Xa}(hx:x= .list ds\/x= .tuple ds)(h:∀d∈ds,Told (Zq k) [d,d] (.bool true)):Told (Zq (k+1)) [x,x] (.bool true):=by
 have key:Zpd "bool" x=false->Zpd "int" x=false->Zpd "str" x=false->Zdr x=false->Zir x=false->Zll [x]=some (.int ds.length)->Z6r [x,x]=some (Zmj ds ds)->Told (Zq (k+1)) [x,x] (.bool true):=λh0 h1 h2 h3 hf hl hz=>
  show Told (Jb 2 4 (Jf (Zq k))) [x,x] (.bool true)from Zu rfl<|Zr (Zn (W5 (Zhu Za h0 hf)) rfl)<|Zr (Zn (W5 (Zhu Za h1 hf)) rfl)<|Zr (Zn (W5 (Zhu Za h2 hf)) rfl)<|Zr (Zn (J4 (Z8y Za h3)) rfl)<|
   Zr (Zn (Zsw (J4 (Zk (Zbq Za hf) (Zbq Za hf) ((Zwm _ _).trans (by rw[bne_self_eq_false])))) (J4 (Zk (Zbq Za hf) (Zbq Za hf) ((Zwm _ _).trans (by rw[bne_self_eq_false]))))) rfl)<|
   Zr (Zn (J4 (Zoe (Zbl (Zb Za Zf) hl) (Zbl (Zb Za Zf) hl) (by rw[decide_eq_true rfl];rfl))) rfl)<|
   Ze2 (ds:=Zmj ds ds) (λi δ=>∃z1 z2,δ=[some (.fz x),some (.fz x),z1,z2]) (Zuy (Zb Za (Zb Za Zf)) hz) ⟨none,none,rfl⟩ (λi d δ hd q=>by
    obtain⟨z1,z2,rfl⟩:=q
    obtain⟨a,b,ha,hb,rfl⟩:=Zrb hd
    rw[ha]at hb
    cases hb
    exact⟨_,_,rfl,.inl (Zn (J0 (p:=true) (W5 (Zj (Zb Za (Zb Za Zf)) (h a (X5 ha))))) rfl),_,_,rfl⟩) λδ' _=>Z1 Zv
 rcases hx with rfl|rfl
 .exact key rfl rfl rfl rfl rfl (Z0v ds) rfl
 .exact key rfl rfl rfl rfl rfl (Zug ds) rfl
theorem Zq4(k:Nat)(q:Rat):Told (Zq (k+2)) [frD q,frD q] (.bool true):=Zcc (ds:=[.int q.num,.int (q.den:Int)]) (.inr rfl) λd m=>by
 rcases Xo.mp m with rfl|m
 .exact Zi4 k _
 .rw[Xn.mp m];exact Zi4 k _
theorem Z9x{t:Int}(ht:0<=t)(hb:0<b):0<=(X4 t b).num/\(X4 t b).num<=t:=by
 have e:(X4 t b).num=t/(Q3 b t:Int):=by
  rw[Rat.num_divInt,Int.sign_eq_one_of_pos hb,Int.one_mul]
 rw[e]
 exact⟨Int.ediv_nonneg ht (Int.natCast_nonneg _),Int.ediv_le_self _ ht⟩
theorem Z7h{t:Int}(hb:0<b):((X4 t b).den:Int)<=b:=Int.le_of_dvd hb (Zuw (by omega))
theorem Zpl{t:Int}(ht:0<=t)(h1:t<10^40)(hb:0<b)(h2:b<10^40):DsQ (X4 t b):=by
 obtain⟨a,c⟩:=Z9x ht hb
 refine⟨a,Vn c h1,?_⟩
 have:=Vn (Z7h (t:=t) hb) h2
 exact Int.ofNat_lt.mp (by simpa using this)
theorem Zwn{t:Int}(ht:0<=t)(h1:t<10^40):DsQ (t:Rat):=⟨ht,h1,by show 1<10^40;decide +kernel⟩
theorem Z9b{e:FE}{t:Int}(h:EvV e δ (.int t)):EvV (Zji (Zd e Z8j)) δ (frD (t:Rat)):=Zhm (Zb h (Zb Zv Zf)) (show 2<=1000 by decide)
theorem Yiw:Znz (.int 10) (.int 40)=some (.int 10000000000000000000000000000000000000000):=rfl
theorem Z4f{v:Int}(h0:0<=v)(h1:v<10000000000000):∃q,Told Js [.int v] (frD q)/\DsQ q:=by
 have n0:0<=v.fdiv 8:=by rw[U9 _ (by decide)];omega
 have n1:v.fdiv 8<10000000000000:=by rw[U9 _ (by decide)];omega
 have big:(10000000000000000000000000000000000000000:Int)=10^40:=by decide +kernel
 have fin:∀{q:Rat},DsQ q->Zni _ [some (.fz (.int (v.fdiv 8))),some (.fz (.int (v.fmod 8)))] (frD q)->∃q,Told Js [.int v] (frD q)/\DsQ q:=λhd h=>
  ⟨_,Zu rfl (Zr (Z8 (Wo Za Zv (by decide))) (Zr (Z8 (Zcj (Za (i:=0) rfl) Zv)) h)),hd⟩
 have w0:=W6 (i:=v) (j:=8) (by decide)
 have w1:=Jk (i:=v) (j:=8) (by decide)
 generalize v.fdiv 8=u at n0 n1 fin
 generalize v.fmod 8=w at w0 w1 fin
 have ep:Znz (.int u) (.int 4)=some (.int (u^4)):=Z95 (i:=u) (j:=4) (by unfold Yev;exact decide_eq_true ⟨by decide,by decide,by omega⟩)
 have ev4:∀{z:Option OT},EvV Yb7 [some (.fz (.int u)),z] (.int (u^4)):=Zk (Za (i:=0) rfl) Zv ep
 have m40:∀{z:Option OT},EvV (Zh Zdh Yb7 Ycm) [some (.fz (.int u)),z] (.int ((u^4).fmod 10000000000000000000000000000000000000000)):=Wo ev4 (Zk Zv Zv Yiw) (by decide)
 have t0:=W6 (i:=u^4) (j:=10000000000000000000000000000000000000000) (by decide)
 have t1:=Jk (i:=u^4) (j:=10000000000000000000000000000000000000000) (by decide)
 by_cases c0:w=0
 .subst c0
  exact fin (q:=0) ⟨by decide,by decide +kernel,by decide +kernel⟩ (Zav (Zce (J4 (Zcs (Za (i:=1) rfl) Zv (decide_eq_true rfl))) (Z1 (tw (a:=0) (b:=1)))))
 by_cases c1:w<4
 .refine fin (q:=((u.fmod 31:Int):Rat)) (Zwn (W6 (by decide)) (Int.lt_trans (Jk (i:=u) (j:=31) (by decide)) (by decide +kernel))) (Zr (Zn (J4 (Zcs (Za (i:=1) rfl) Zv (decide_eq_false c0))) rfl) (Zav (Zce (J4 (Zh4 (Za (i:=1) rfl) Zv (decide_eq_true c1))) (Z1 ?_))))
  exact Z9b (Wo (Za (i:=0) rfl) Zv (by decide))
 by_cases c2:w<6
 .have a0:=W6 (i:=u) (j:=41) (by decide)
  have a1:=Jk (i:=u) (j:=41) (by decide)
  have b0:=W6 (i:=u.fdiv 41) (j:=12) (by decide)
  have b1:=Jk (i:=u.fdiv 41) (j:=12) (by decide)
  refine fin (Zpl (t:=u.fmod 41) (b:=1+(u.fdiv 41).fmod 12) a0 (Int.lt_trans a1 (by decide +kernel)) (by omega) (Vn (b:=12) (by omega) (by decide +kernel))) (Zr (Zn (J4 (Zcs (Za (i:=1) rfl) Zv (decide_eq_false c0))) rfl) (Zr (Zn (J4 (Zh4 (Za (i:=1) rfl) Zv (decide_eq_false c1))) rfl) (Zav (Zce (J4 (Zh4 (Za (i:=1) rfl) Zv (decide_eq_true c2))) (Z1 ?_)))))
  exact Zj (Zb (Wo (Za (i:=0) rfl) Zv (by decide)) (Zb (Zbe Zv (Wo (Zcj (Za (i:=0) rfl) Zv) Zv (by decide))) Zf)) (Wu (n:=10) (by omega) (Bt.of_lt (by omega) (by omega)))
 by_cases c3:w=6
 .refine fin (q:=(((u^4).fmod 10000000000000000000000000000000000000000:Int):Rat)) (Zwn t0 (big▸t1)) (Zr (Zn (J4 (Zcs (Za (i:=1) rfl) Zv (decide_eq_false c0))) rfl) (Zr (Zn (J4 (Zh4 (Za (i:=1) rfl) Zv (decide_eq_false c1))) rfl) (Zr (Zn (J4 (Zh4 (Za (i:=1) rfl) Zv (decide_eq_false c2))) rfl) (Zav (Zce (J4 (Zcs (Za (i:=1) rfl) Zv (decide_eq_true c3))) (Z1 (Z9b m40)))))))
 .have b0:=W6 (i:=(u^4).fdiv 7) (j:=10000000000000000000000000000000000000000-1) (by decide)
  have b1:=Jk (i:=(u^4).fdiv 7) (j:=10000000000000000000000000000000000000000-1) (by decide)
  refine fin (Zpl (t:=(u^4).fmod 10000000000000000000000000000000000000000) (b:=1+((u^4).fdiv 7).fmod (10000000000000000000000000000000000000000-1)) t0 (big▸t1) (by omega) (Bx (b:=10000000000000000000000000000000000000000) (by omega) (Int.le_of_eq big))) (Zr (Zn (J4 (Zcs (Za (i:=1) rfl) Zv (decide_eq_false c0))) rfl) (Zr (Zn (J4 (Zh4 (Za (i:=1) rfl) Zv (decide_eq_false c1))) rfl) (Zr (Zn (J4 (Zh4 (Za (i:=1) rfl) Zv (decide_eq_false c2))) rfl) (Zr (Zn (J4 (Zcs (Za (i:=1) rfl) Zv (decide_eq_false c3))) rfl) (Z1 ?_)))))
  exact Zj (Zb m40 (Zb (Zbe Zv (Wo (Zcj ev4 Zv) (Z0l (Zk Zv Zv Yiw) Zv) (by decide))) Zf)) (Wu (n:=200) (by omega) (Bt.of_lt (Bx (b:=0) (by decide +kernel) (by omega)) (Bx (b:=10000000000000000000000000000000000000001) (by omega) (by decide +kernel))))
theorem Z5l{e:FE}{d:Xa}(h:EvV e δ d)(hf:Zbg d=true):EvV (Zxr e) δ d:=by
 obtain⟨_,e1,d1⟩:=h
 exact⟨_,by rw[Zyx,e1,Xf,d1,if_pos hf],OT.data_fz _⟩
theorem Z2m{e:FE}(h:e δ=some (o,δ))(hi:δ[i]? =some (some (.nd ts)))(hl:ts.length<=1000000):Zch i e δ= .nx (δ.set i (some (.nd (ts ++ [o])))):=by
 rw[Zpe,hi,Zzk,h,Yr,hi,Zzk,Z0d hl]
def Zkd:Xa:=.tuple [.int 0,.int 1]
def Zm6(g:Nat×Nat->Xa)(i j:Nat):Xa:=if i<j then g (i,j)else if j<i then g (j,i)else Zkd
theorem Zgn{n:Nat}(hn:n<=10)(g:Nat×Nat->Xa):Yy [.int n,.list ((Zz n).map g)]= .ok (Zbi n (Zm6 g)):=by
 have e0:(Yn 1 [0] (iRa (Zd (Zw 0) Z5)) (gNm 0) Zdx (Z4l (Zji (Zd (fC (.int 0)) (Zd (fC (.int 1)) Z5))) (Zw 1))) [some (.fz (.int n)),some (.fz (.list ((Zz n).map g))),none,none,none]=some (Zbi n λ_ _=>Zkd,[some (.fz (.int n)),some (.fz (.list ((Zz n).map g))),none,none,none]):=by
  have er:∀v:Option OT,(Z4l (Zji (Zd (fC (.int 0)) (Zd (fC (.int 1)) Z5))) (Zw 1)) [v,some (.fz (.int n))]=some (.nd (X6 n (.fz Zkd)),[v,some (.fz (.int n))]):=λv=>by
   have e2:(Zji (Zd (fC (.int 0)) (Zd (fC (.int 1)) Z5))) [v,some (.fz (.int n))]=fC Zkd [v,some (.fz (.int n))]:=by
    rw[Zlj]
    exact if_pos (e:=none) (show 2<=Xk by rw[Qc];omega)
   rw[<-Ya7 (d:=Zkd) (n:=n) (by omega)]
   rw[Zps,Zps,e2]
  rw[Zf6 (cs:=[some (.fz (.int n))]) (Xz n) (λi:Nat=>Xl (0+(i:Int))) (λ_=>.nd (X6 n (.fz Zkd))) (Zmd (Zb Za Zf) (by omega)) (by rw[XD,Qc];omega) rfl λx _=>er _]
  unfold Zbi
  have ec:((Xz n).map λ_=>OT.fz Zkd)=X6 n (OT.fz Zkd):=by rw[List.map_const',XD]
  rw[<-ec]
 have key:∃δ',Yz [some (.fz (.int n)),some (.fz (.list ((Zz n).map g))),none,none,none]= .rt (Zbi n (Zm6 g)) δ':=by
  obtain⟨δ',e1,f,z3,z4,rfl,h1,h2⟩:=Zg0 (it:=Zgk (Zd (Zo Y9 (Zd (Zw 0) Z5)) (Zd (Zw 1) Z5))) (g:=gTp 2 (gCn (gNm 3) (gCn (gNm 4) gNl))) (S:=Z3 (Zlz 2 (Zw 4) (W8 gIx (Zw 3) (fC (.int 0))) (W8 gIx (Zw 3) (fC (.int 1)))) (Zlz 2 (Zw 4) (W8 gIx (Zw 3) (fC (.int 1))) (W8 gIx (Zw 3) (fC (.int 0)))))
   (δ:=[some (.fz (.int n)),some (.fz (.list ((Zz n).map g))),some (Zbi n λ_ _=>Zkd),none,none]) (ds:=(Zz n).map λp=>.tuple [ptD p,g p])
   (λk δ=>∃(f:Nat->Nat->Xa) (z3 z4:Option OT),δ=[some (.fz (.int n)),some (.fz (.list ((Zz n).map g))),some (Zbi n f),z3,z4]/\(∀i,f i i=Zkd)/\∀l p,l<k->(Zz n)[l]? =some p->f p.1 p.2=g p/\f p.2 p.1=g p)
   (Zlx (Zj (Zb Za Zf) (Zfi n (by omega))) Za (Zrh ptD g _)) ⟨_,none,none,rfl,λ_=>rfl,λl p hl=>absurd hl (Vo l)⟩ (λk d δ hd q=>by
    obtain⟨f,z3,z4,rfl,h1,h2⟩:=q
    rw[Xj]at hd
    cases e:(Zz n)[k]? with
    | none=>rw[e]at hd;cases hd
    | some p=>
     rw[e]at hd
     cases hd
     obtain⟨m1,m2⟩:=Zb7 (X5 e)
     have i0:∀{δ:Zg},δ[3]? =some (some (.fz (ptD p)))->EvV (W8 gIx (Zw 3) (fC (.int 0))) δ (.int (p.1:Int)):=λh=>Wv (Za h) Zv rfl
     have i1:∀{δ:Zg},δ[3]? =some (some (.fz (ptD p)))->EvV (W8 gIx (Zw 3) (fC (.int 1))) δ (.int (p.2:Int)):=λh=>Wv (Za h) Zv rfl
     refine⟨_,_,rfl,.inl (Z2 (Zgd (n:=n) (f:=f) (a:=p.1) (b:=p.2) (d:=g p) Za rfl (i0 rfl) (by omega) (i1 rfl) (by omega)) (Zgd (n:=n) (a:=p.2) (b:=p.1) (d:=g p) Za rfl (i1 rfl) (by omega) (i0 rfl) (by omega))),_,_,_,rfl,λi=>?_,λl q hl hq=>?_⟩
     .unfold upG
      rw[if_neg (by omega),if_neg (by omega)]
      exact h1 i
     .by_cases c:q=p
      .subst c
       unfold upG
       exact⟨by split<;>(try rfl);rw[if_pos ⟨rfl,rfl⟩],by rw[if_pos ⟨rfl,rfl⟩]⟩
      .have hl':l<k:=by
        rcases Ui l k with z|z
        .exact z
        .have:l=k:=by omega
         subst this
         rw[e]at hq
         cases hq
         exact absurd rfl c
       obtain⟨q1,q2⟩:=Zb7 (X5 hq)
       have ne:¬(q.1=p.1/\q.2=p.2):=λz=>c (Prod.ext z.1 z.2)
       obtain⟨g1,g2⟩:=h2 l q hl' hq
       unfold upG
       rw[if_neg (by omega),if_neg (by omega),if_neg (by omega),if_neg (by omega)]
       exact⟨g1,g2⟩)
  rw[Xc]at h2
  refine⟨[some (.fz (.int n)),some (.fz (.list ((Zz n).map g))),none,z3,z4],Z2 (Zcl e0) (Z2 e1 ?_)⟩
  have eG:Zbi n f=Zbi n (Zm6 g):=Zl2 λi j hi hj=>?_
  .rw[eG];rfl
  unfold Zm6
  rcases Vv i j with c|c|c
  .obtain⟨l,hl⟩:=VD (Jm c hj)
   rw[if_pos c]
   exact(h2 l _ (Xi.mp hl).1 hl).1
  .subst c
   rw[if_neg (QC _),if_neg (QC _)]
   exact h1 i
  .obtain⟨l,hl⟩:=VD (Jm c hi)
   rw[if_neg (by omega),if_pos c]
   exact(h2 l _ (Xi.mp hl).1 hl).2
 obtain⟨δ',e⟩:=key
 unfold Yy
 rw[Zg3 (np:=2) (by rfl)]
 show(Yz [some (.fz (.int n)),some (.fz (.list ((Zz n).map g))),none,none,none]).told=_
 rw[e];rfl
theorem Z3a{as:FA}{ds:List Xa}(h:EvA as δ ds)(k:F ds= .ok o):wE (Zo F as) W7 δ= .rt o δ:=by rw[Zbv,Yf7 h k];rfl
theorem Zou{n:Nat}(hn:n<=10)(L:List (List Int×Rat))(hl:L.length<64)(B0:0<B)(bB:Bt 200 B)(hw:∀p∈L,(p.2.den:Int)∣B/\Bt 200 p.2.num):Wm [.int n,Zag L]= .ok (Zbi n (Zm6 (Ziv L))):=by
 obtain⟨m,eB,m0,m1,m2⟩:=Zh7 (n:=200) B0 bB (by decide) (L.map λp=>(p.2.num,(p.2.den:Int))) λp hp=>by
  obtain⟨q,hq,rfl⟩:=Xp.mp hp
  exact⟨Zbo q.2,(hw q hq).1⟩
 have bm:Bt 200 m:=Zns B0 m2 bB
 have dm:∀p∈L,(p.2.den:Int)∣m:=λp hp=>m1 (p.2.num,(p.2.den:Int)) (Xp.mpr ⟨p,hp,rfl⟩)
 have eW:(L.map λp=>(p.2.num,(p.2.den:Int))).map prD=(L.map λp=>p.2).map frD:=by rw[Xr,Xr];rfl
 rw[eW]at eB
 have eT:=Znc (n:=200) m0 bm (L.map λp=>p.2) (by rw[Xc];omega) λq hq=>by
  obtain⟨p,hp,rfl⟩:=Xp.mp hq
  exact⟨dm p hp,(hw p hp).2⟩
 rw[Xr]at eT
 have lp:(Zz n).length<=100:=by
  have:=Zfx n n
  have e:Zj3 n n=Zz n:=rfl
  rw[e]at this
  exact Qa this (Nat.mul_le_mul hn hn)
 have key:∃δ',Jp [some (.fz (.int n)),some (.fz (Zag L)),none,none,none,none,none,none,none,none]= .rt (Zbi n (Zm6 (Ziv L))) δ':=by
  obtain⟨δ',e1,z7,z8,z9,rfl⟩:=Zg0 (it:=Zcd (Zo Y9 Zdg)) (g:=gTp 2 (gCn (gNm 7) (gCn (gNm 8) gNl)))
   (S:=Z3 Ygt Yir)
   (δ:=[some (.fz (.int n)),some (.fz (Zag L)),some (.fz (.list ((L.map λp=>p.2).map frD))),some (.fz (.int m)),some (.fz (.list (L.map λp=>.int (scI m p.2)))),some (.fz (.list (L.map (Zgv n)))),some (.nd []),none,none,none]) (ds:=(Zz n).map ptD)
   (λk δ=>∃z7 z8 z9,δ=[some (.fz (.int n)),some (.fz (Zag L)),some (.fz (.list ((L.map λp=>p.2).map frD))),some (.fz (.int m)),some (.fz (.list (L.map λp=>.int (scI m p.2)))),some (.fz (.list (L.map (Zgv n)))),some (.nd ((((Zz n).take k).map (Ziv L)).map OT.fz)),z7,z8,z9])
   (Y6 (Zj (Zb Za Zf) (Zfi n (by omega)))) ⟨none,none,none,rfl⟩ (λk d δ hd q=>by
    obtain⟨z7,z8,z9,rfl⟩:=q
    rw[Xj]at hd
    cases e:(Zz n)[k]? with
    | none=>rw[e]at hd;cases hd
    | some p=>
     rw[e]at hd
     cases hd
     obtain⟨q1,q2⟩:=Zb7 (X5 e)
     have eF:Told Jt [.int ((L.filter (prt p.1 p.2)).map λp=>scI m p.2).sum,.int m] (Ziv L p):=by
      have:=Zpa (t:=((L.filter (prt p.1 p.2)).map λp=>scI m p.2).sum) (b:=m) (n:=200) (by omega) bm
      rwa[Z58 m0 _ λp hp=>dm p (V5.mp hp).1]at this
     have et:(Zz n).take (k+1)=(Zz n).take k ++ [p]:=by rw[Ue,e];rfl
     refine⟨_,_,rfl,.inl (Z2 (Z8 (Zrv (n:=n) (m:=m) (L:=L) (a:=p.1) (b:=p.2) (by omega) q2 hl rfl rfl rfl)) (Zku (d:=Ziv L p) (Zj (Zb (Zbl (Zb Za Zf) (Zwk _)) (Zb Za Zf)) eF) rfl ?_)),some (.fz (.int (p.1:Int))),some (.fz (.int (p.2:Int))),some (.fz (Zx ((L.filter (prt p.1 p.2)).map λp=>scI m p.2))),?_⟩
     .rw[Xc,Xc]
      exact Qa (List.length_take_le' ..) (by omega)
     .rw[et,Qj,Qj];rfl)
  rw[Xc,VG]at e1
  have ef:(OT.nd (((Zz n).map (Ziv L)).map OT.fz)).data= .list ((Zz n).map (Ziv L)):=by rw[OT.data_nd,OT.map_fz]
  refine⟨[some (.fz (.int n)),some (.fz (Zag L)),some (.fz (.list ((L.map λp=>p.2).map frD))),some (.fz (.int m)),some (.fz (.list (L.map λp=>.int (scI m p.2)))),some (.fz (.list (L.map (Zgv n)))),some (.fz (.list ((Zz n).map (Ziv L)))),z7,z8,z9],?_⟩
  refine Z2 (Z8 (EvV.cast (Zcr (cs:=[]) L ctD (λp=>frD p.2) (Y6 Za) (by omega) rfl λp _=>Wv (d:=frD p.2) Za Zv rfl) (y:=.list ((L.map λp=>p.2).map frD)) (by rw[Xr];rfl))) ?_
  refine Z2 (Z8 (Zj (Zb Za Zf) eB)) (Z2 (Z8 (Zj (Zb Za (Zb Za Zf)) eT)) (Z2 (Z8 (Zj (Zb Za (Zb Za Zf)) (Zno hn L hl))) (Z2 Zkq (Z2 e1 (Zf5 rfl ?_)))))
  rw[ef]
  exact Z3a (Zb Za (Zb Za Zf)) (Zgn hn (Ziv L))
 obtain⟨δ',e⟩:=key
 unfold Wm
 rw[Zg3 (np:=2) (by rfl)]
 show(Jp [some (.fz (.int n)),some (.fz (Zag L)),none,none,none,none,none,none,none,none]).told=_
 rw[e];rfl
theorem Yfc{t:FT}(x1 x2:α->Xa)(p:α->Bool)(f:α->OT):∀(xs:List α) (z0 z1:Option OT),(∀x∈xs,∀z0 z1,g (.tuple [x1 x,x2 x]) (z0 :: z1 :: cs)=some (some (.fz (x1 x)) :: some (.fz (x2 x)) :: cs))->(∀x∈xs,t (some (.fz (x1 x)) :: some (.fz (x2 x)) :: cs)=some (p x,some (.fz (x1 x)) :: some (.fz (x2 x)) :: cs))->(∀x∈xs,p x=true->me (some (.fz (x1 x)) :: some (.fz (x2 x)) :: cs)=some (f x,some (.fz (x1 x)) :: some (.fz (x2 x)) :: cs)) ->
  ∃z0' z1',compLoop g t me (xs.map λx=>.tuple [x1 x,x2 x]) (z0 :: z1 :: cs)=some ((xs.filter p).map f,z0' :: z1' :: cs):=by
 intro xs
 induction xs with
 | nil=>exact λz0 z1 _ _ _=>⟨z0,z1,rfl⟩
 | cons x xs ih=>
  intro z0 z1 hg ht hm
  obtain⟨y0,y1,e⟩:=ih (some (.fz (x1 x))) (some (.fz (x2 x))) (λy hy=>hg y (.tail _ hy)) (λy hy=>ht y (.tail _ hy)) λy hy=>hm y (.tail _ hy)
  refine⟨y0,y1,?_⟩
  rw[Xv,compLoop,hg x (.head _),Xf,ht x (.head _),Xf]
  dsimp only
  cases hp:p x with
  | true=>rw[if_pos rfl,hm x (.head _) hp,Xf,Ve hp,Xv];dsimp only;rw[e];rfl
  | false=>rw[if_neg Xm,Vf (by rw[hp];exact Xm)];exact e
theorem Z62{t:FT}(xs:List α)(x1 x2:α->Xa)(p:α->Bool)(f:α->OT)(hi:EvI it δ (xs.map λx=>.tuple [x1 x,x2 x]))(hz:xs.length<=1000000)(hb:blk 2 caps δ=none :: none :: cs)
  (hg:∀x∈xs,∀z0 z1,g (.tuple [x1 x,x2 x]) (z0 :: z1 :: cs)=some (some (.fz (x1 x)) :: some (.fz (x2 x)) :: cs)) (ht:∀x∈xs,t (some (.fz (x1 x)) :: some (.fz (x2 x)) :: cs)=some (p x,some (.fz (x1 x)) :: some (.fz (x2 x)) :: cs)) (hm:∀x∈xs,p x=true->me (some (.fz (x1 x)) :: some (.fz (x2 x)) :: cs)=some (f x,some (.fz (x1 x)) :: some (.fz (x2 x)) :: cs)) :
  Yn 2 caps it g t me δ=some (.nd ((xs.filter p).map f),δ):=by
 obtain⟨z0,z1,e⟩:=Yfc x1 x2 p f xs none none hg ht hm
 unfold EvI at hi
 unfold Yn
 rw[hi,Xf]
 dsimp only
 rw[if_pos (by rw[Qc,Xc];omega),hb,e];rfl
theorem Ya4{e:FE}{d:Xa}(h:EvV e δ d)(hg:g d δ=some δ'):wE e (Ya0 g) δ= .nx δ':=by
 obtain⟨t,e1,e2⟩:=h
 rw[Zbv,e1,Yr]
 show(match g t.data δ with|some δ'=>RS.nx δ'|none=>.bad)=_
 rw[e2,hg]
def jn2(c d:Nat):List (List Nat)->List Nat
 | []=>[]
 | [x]=>x
 | x :: y :: r=>x ++ c :: d :: jn2 c d (y :: r)
theorem Zlk(c d:Nat):∀ps:List (List Nat),Str.join (mkS [c,d]) (ps.map mkS)=mkS (jn2 c d ps)
 | []=>rfl
 | [x]=>rfl
 | x :: y :: r=>by
  show mkS x ++ mkS [c,d] ++ Str.join (mkS [c,d]) ((y :: r).map mkS)=_
  rw[Zlk c d (y :: r),Zjq,Zjq,JW];rfl
def Occ(w:List Nat)(c d:Nat):Prop:=∃u v,w=u ++ c :: d :: v
theorem Zm0{c d:Nat}(ne:c≠d):∀{x y a b:List Nat},¬Occ x c d->c∉y->x ++ c :: d :: a=y ++ c :: d :: b->x=y/\a=b
 | [],[],a,b,_,_,h=>⟨rfl,(QW (QW h).2).2⟩
 | [],z :: y,a,b,_,hy,h=>absurd (show c∈z :: y by rw[(QW h).1];exact .head _) hy
 | [z],[],a,b,hx,_,h=>absurd (QW (QW h).2).1 ne
 | z :: w :: x,[],a,b,hx,_,h=>by
  have h1:=QW h
  have h2:=QW h1.2
  exact absurd ⟨[],x,by rw[h1.1,h2.1];rfl⟩ hx
 | z :: x,w :: y,a,b,hx,hy,h=>by
  obtain⟨h1,h2⟩:=QW h
  obtain⟨e1,e2⟩:=Zm0 ne (x:=x) (λ⟨u,v,e⟩=>hx ⟨z :: u,v,by rw[e];rfl⟩) (λm=>hy (.tail _ m)) h2
  exact⟨by rw[h1,e1],e2⟩
theorem Zvv{c d:Nat}(ne:c≠d):∀{P Q:List (List Nat)},P≠[]->Q≠[]->(∀p∈P,¬Occ p c d)->(∀q∈Q,c∉q)->jn2 c d P=jn2 c d Q->P=Q
 | [],_,h,_,_,_,_=>absurd rfl h
 | _,[],_,h,_,_,_=>absurd rfl h
 | [x],[y],_,_,_,_,h=>by rw[show x=y from h]
 | [x],y :: z :: r,_,_,hp,_,h=>absurd ⟨y,jn2 c d (z :: r),h⟩ (hp x (.head _))
 | x :: z :: r,[y],_,_,_,hq,h=>by
  have h:x ++ c :: d :: jn2 c d (z :: r)=y:=h
  exact absurd (show c∈y by rw[<-h];exact Qi _ (.head _)) (hq y (.head _))
 | x :: z :: r,y :: w :: s,_,_,hp,hq,h=>by
  obtain⟨e1,e2⟩:=Zm0 ne (hp x (.head _)) (hq y (.head _)) (show x ++ c :: d :: jn2 c d (z :: r)=y ++ c :: d :: jn2 c d (w :: s)from h)
  rw[e1,Zvv ne (Um _ _) (Um _ _) (λp m=>hp p (.tail _ m)) (λq m=>hq q (.tail _ m)) e2]
open Builtin Builtin.Str in
theorem Zgx{c d a b:Nat}(hb:b<=x.length)(hn:∀k,a<=k->k<b->¬StrLaws.At x (mkS [c,d]) x.length k):¬Occ (strSub x a b).cps.toList c d:=by
 rintro⟨u,v,e⟩
 rw[StrLaws.strSub_toList]at e
 have hl:=congrArg Ut e
 rw[X7,Qh,Qh,List.length_take,Vd]at hl
 have hx:x.cps.toList.length=x.length:=JC
 refine hn (a+u.length) (Bu _ _) (by omega) ⟨by show a+u.length+2<=x.length;omega,?_⟩
 rw[StrLaws.subAt_eq]
 have e2:(x.cps.toList.drop (a+u.length)).take 2=[c,d]:=by
  have e3:((x.cps.toList.drop a).take (b-a)).drop u.length=c :: d :: v:=by rw[e,List.drop_left]
  rw[List.drop_take,List.drop_drop]at e3
  have e4:=congrArg (List.take 2) e3
  rw[List.take_take,Nat.min_eq_left (by omega)]at e4
  exact e4
 show((x.cps.toList.drop (a+u.length)).take 2==[c,d])=true
 rw[e2];exact beq_self_eq_true _
open Builtin Builtin.Str in
theorem Zi3{c d:Nat}:∀(cuts:List Nat) (a f:Nat),StrLaws.ChainG x (mkS [c,d]) x.length a cuts f->(∀k,f<=k->¬StrLaws.At x (mkS [c,d]) x.length k)->∀p∈StrLaws.partsFrom x 2 a cuts,¬Occ p.cps.toList c d
 | [],a,f,h,hn,p,hp=>by
  have e:f=a:=h
  subst e
  rw[Xn.mp hp]
  exact Zgx (XC _) λk h1 _=>hn k h1
 | e :: r,a,f,h,hn,p,hp=>by
  rcases Xo.mp hp with rfl|hp'
  .exact Zgx (by have:=h.2.1.1;omega) h.2.2.1
  .exact Zi3 r _ f h.2.2.2 hn p hp'
open Builtin Builtin.Str in
theorem Zpt{c d:Nat}(hc:c<128)(hd:d<128):∀p∈Qy x (mkS [c,d]),¬Occ p.cps.toList c d:=by
 obtain⟨f,hG,hn⟩:=StrLaws.occ_tight x (mkS [c,d]) (by show 1<=2;decide)
 unfold Qy
 split
 .rename_i h
  intro p hp
  rw[Xn.mp hp]
  rintro⟨u,v,e⟩
  have hl:=congrArg Ut e
  rw[X7,Qh,Qh]at hl
  have hx:x.cps.toList.length=x.length:=JC
  rw[Bool.or_eq_true,decide_eq_true_eq,decide_eq_true_eq]at h
  rcases h with h|h
  .have:x.length<2:=h
   omega
  .have k1:BR (mkS [c,d])=1:=by
    unfold BR mkS
    rw[if_pos]
    simp only[Array.all_eq_true_iff_forall_mem]
    intro z m
    rcases Xo.mp (List.mem_toArray.mp m)with rfl|m
    .exact decide_eq_true (by omega)
    .rw[Xn.mp m];exact decide_eq_true (by omega)
   have k2:1<=BR x:=by
    unfold BR
    (repeat' split)<;>decide
   omega
 .split
  .rename_i he
   intro p hp
   rw[Xn.mp hp]
   rw[List.isEmpty_iff.mp he]at hG
   have ef:f=0:=hG
   subst ef
   rw[<-StrLaws.sub_whole x]
   exact Zgx (XC _) λk h1 _=>hn k h1
  .rw[StrLaws.partsBetween_eq]
   exact Zi3 _ 0 f hG hn
theorem Zws{c d:Nat}(hc:c<128)(hd:d<128)(ne:c≠d){ps:List (List Nat)}(h:∀p∈ps,c∉p)(hn:ps≠[]):Qy (mkS (jn2 c d ps)) (mkS [c,d])=ps.map mkS:=by
 have e1:=StrLaws.join_split (mkS (jn2 c d ps)) (mkS [c,d])
 have e2:=Zpt (x:=mkS (jn2 c d ps)) hc hd
 have e3:1<=(Qy (mkS (jn2 c d ps)) (mkS [c,d])).length:=PyProof.Rows.split_pos _ _
 generalize Qy (mkS (jn2 c d ps)) (mkS [c,d])=P at*
 have eP:P=(P.map λx=>x.cps.toList).map mkS:=by
  rw[Xr]
  exact((XN λx _=>(Zta x).symm).trans (List.map_id _)).symm
 have ej:=Zlk c d (P.map λx=>x.cps.toList)
 rw[<-eP,e1]at ej
 rw[eP,<-Zvv ne (λz=>by rw[Vc.mp z]at e3;exact absurd e3 (by decide)) hn (λq m=>by
  obtain⟨x,hx,rfl⟩:=Xp.mp m
  exact e2 x hx) h (Zgt ej).symm]
theorem Zv7(c d:Nat):∀ps:List (List Nat),(jn2 c d ps).length<=(ps.map λp=>p.length+2).sum
 | []=>XC _
 | [x]=>by show x.length<=x.length+2+0;omega
 | x :: y :: r=>by
  have:=Zv7 c d (y :: r)
  show(x ++ c :: d :: jn2 c d (y :: r)).length<=_
  rw[X7,Qh,Qh,Xv,JS];omega
theorem Ztb{c d z:Nat}:∀{ps:List (List Nat)},z∈jn2 c d ps->z=c\/z=d\/∃p∈ps,z∈p
 | [],h=>nomatch h
 | [x],h=>.inr (.inr ⟨x,.head _,h⟩)
 | x :: y :: r,h=>by
  rcases Qq.mp (show z∈x ++ c :: d :: jn2 c d (y :: r)from h)with h|h
  .exact .inr (.inr ⟨x,.head _,h⟩)
  .rcases Xo.mp h with h|h
   .exact .inl h
   .rcases Xo.mp h with h|h
    .exact .inr (.inl h)
    .exact(Ztb h).imp id (·.imp id λ⟨p,m,q⟩=>⟨p,.tail _ m,q⟩)
theorem Zub{c d:Nat}{ps:List (List Nat)}(h:(ps.map λp=>p.length+2).sum<=1000000):Zh0 (mkS [c,d]) [.list (ps.map λp=>.str (mkS p))]=some (.str (mkS (jn2 c d ps))):=by
 have ok:JoinOk (mkS [c,d]) (ps.map mkS)=true:=by
  refine PyProof.Rows.joinOk_of ?_
  have e:∀ps:List (List Nat),((ps.map mkS).map (·.length)).sum+ps.length*2=(ps.map λp=>p.length+2).sum:=λps=>by
   induction ps with
   | nil=>rfl
   | cons p ps ih=>
    rw[Xv,Xv,Xv,JS,JS,Qh,<-ih,Zb0];omega
  have:=e ps
  rw[Xc]
  show _+ps.length*2<=_
  omega
 show((Zkk (ps.map λp=>QT (mkS p))).bind λts=>if JoinOk (mkS [c,d]) ts=true then some (QT (V3 (mkS [c,d]) ts))else none)=_
 have e:Zkk (ps.map λp=>QT (mkS p))=some (ps.map mkS):=by
  have:=Zip (ps.map mkS)
  rwa[Xr]at this
 rw[e,Xf,if_pos ok]
 unfold V3
 rw[StrLaws.glued_eq_join,Zlk]
theorem Zr7{c d:Nat}(hc:c<128)(hd:d<128)(ne:c≠d){ps:List (List Nat)}(h:∀p∈ps,c∉p)(hn:ps≠[])(hl:(jn2 c d ps).length<=1000000)(hk:ps.length<=1000000):Zae (mkS (jn2 c d ps)) [.str (mkS [c,d])]=some (.nd ((ps.map λp=>QT (mkS p)).map OT.fz)):=by
 show(if Zfj (mkS (jn2 c d ps)) (mkS [c,d])=true then some (OT.nd (((Qy (mkS (jn2 c d ps)) (mkS [c,d])).map QT).map OT.fz))else none)=_
 have s:=Zws hc hd ne h hn
 rw[if_pos (by unfold Zfj;rw[s,Zb0,Xc,Qc,decide_eq_true (by omega),decide_eq_true (by omega)];rfl),s,Xr,Xr,Xr]
 rfl
theorem Ygw:Q8 "; "=mkS [59,32]:=by rw[Q7];rfl
theorem Yhh:Q8 ": "=mkS [58,32]:=by rw[Q7];rfl
theorem Zrd{c d:Nat}(h:z=mkS [c,d]):EvV (fC (.str z)) δ (.str (mkS [c,d])):=h▸Zv
theorem Zus:Q8 "none"=mkS [110,111,110,101]:=by rw[Q7];rfl
theorem Zjh{n:Nat}{xs:List Xa}(hl:xs.length=np)(k:S (Zb9 n xs)= .rt o δ'):Jb np n S xs= .ok o:=by rw[Zg3 hl,k,Zvb]
def ctx(A:List Int):List Nat:=jn 32 (A.map tx)
def wtx(q:List Int×Rat):List Nat:=jn2 58 32 [ctx q.1,qtx q.2]
def ltx(L:List (List Int×Rat)):List Nat:=if L=[]then[110,111,110,101]else jn2 59 32 (L.map wtx)
structure Wq(q:List Int×Rat):Prop where
 ne:q.1≠[]
 pt:∀x∈q.1,1<=x/\x<10
 ln:q.1.length<=9
 ds:DsQ q.2
theorem Zwa{x:Int}(h:1<=x/\x<10):∃m:Nat,x=(m:Int)/\tx x=dg m/\(dg m).length=1:=by
 obtain⟨m,rfl⟩:=Vj (show 0<=x by omega)
 exact⟨m,rfl,Zhq m,by rw[Zpq (by omega)];rfl⟩
theorem Ztj{A:List Int}(h:∀x∈A,1<=x/\x<10):∀c∈ctx A,c=32\/(48<=c/\c<=57):=λc m=>by
 rcases Zqo m with m|⟨p,hp,m⟩
 .exact .inl m
 .obtain⟨x,hx,rfl⟩:=Xp.mp hp
  obtain⟨k,_,e,_⟩:=Zwa (h x hx)
  rw[e]at m
  exact .inr (Zgb m)
theorem Ztm{A:List Int}(h:∀x∈A,1<=x/\x<10)(hl:A.length<=9):((A.map tx).map λp=>p.length+1).sum<=18:=by
 refine Qa (Zog _ 2 _ λp hp=>?_) (by rw[Xc];omega)
 obtain⟨x,hx,rfl⟩:=Xp.mp hp
 obtain⟨k,_,e,l⟩:=Zwa (h x hx)
 rw[e,l];exact XC _
theorem Zqd{A:List Int}(h:∀x∈A,1<=x/\x<10)(hl:A.length<=9):(ctx A).length<=18:=Qa (Zrg ..) (Ztm h hl)
theorem Zrm(q:List Int×Rat):wtx q=ctx q.1 ++ [58,32] ++ qtx q.2:=by
 show ctx q.1 ++ 58 :: 32 :: qtx q.2=_
 rw[JW];rfl
theorem Zu8{q:List Int×Rat}(h:Wq q):∀c∈wtx q,c=32\/(47<=c/\c<=58):=λc m=>by
 rw[Zrm]at m
 rcases Qq.mp m with m|m
 .rcases Qq.mp m with m|m
  .have:=Ztj h.pt c m;omega
  .rcases Xo.mp m with m|m
   .omega
   .have:=Xn.mp m;omega
 .have:=Zjv h.ds c m;omega
theorem Zvc{q:List Int×Rat}(h:Wq q):(wtx q).length<=101:=by
 have h1:=Zqd h.pt h.ln
 have h2:=Zi6 h.ds
 rw[Zrm,X7,X7]
 show _+2+_<=_
 omega
theorem Zzy{q:List Int×Rat}(h:Wq q):∃d r,wtx q=d :: r/\d<=57:=by
 obtain⟨x,A,e⟩:=Bv h.ne
 obtain⟨k,_,e1,_⟩:=Zwa (h.pt x (by rw[e];exact .head _))
 obtain⟨d,r,e2⟩:=Bv (Z3q k)
 have hd:=Zgb (n:=k) (c:=d) (by rw[e2];exact .head _)
 have:∃r',ctx q.1=d :: r':=by
  unfold ctx
  rw[e,Xv,e1,e2]
  cases A with
  | nil=>exact⟨r,rfl⟩
  | cons y A=>exact⟨_,rfl⟩
 obtain⟨r',e3⟩:=this
 exact⟨d,r' ++ [58,32] ++ qtx q.2,by rw[Zrm,e3];rfl,hd.2⟩
theorem Z7d{q:List Int×Rat}(h:Wq q):Cp (wtx q):=λc m=>by have:=Zu8 h c m;omega
theorem Zv1{L:List (List Int×Rat)}(h:∀q∈L,Wq q)(hl:L.length<64):((L.map wtx).map λp=>p.length+2).sum<=7000:=by
 refine Qa (Zog _ 103 _ λp hp=>?_) (by rw[Xc];omega)
 obtain⟨q,hq,rfl⟩:=Xp.mp hp
 have:=Zvc (h q hq);omega
theorem Zkp{L:List (List Int×Rat)}(h:∀q∈L,Wq q):Cp (ltx L):=λc m=>by
 unfold ltx at m
 split at m
 .simp only[Xo,VH,or_false]at m
  omega
 .rcases Ztb m with m|m|⟨p,hp,m⟩
  .omega
  .omega
  .obtain⟨q,hq,rfl⟩:=Xp.mp hp
   exact Z7d (h q hq) c m
theorem Yas{L:List (List Int×Rat)}(h:∀q∈L,Wq q)(hn:L≠[]):ltx L≠[110,111,110,101]:=by
 unfold ltx
 rw[if_neg hn]
 obtain⟨q,M,rfl⟩:=Bv hn
 obtain⟨d,r,e,hd⟩:=Zzy (h q (.head _))
 have:∃r',jn2 59 32 ((q :: M).map wtx)=d :: r':=by
  rw[Xv,e]
  cases M with
  | nil=>exact⟨r,rfl⟩
  | cons y M=>exact⟨_,rfl⟩
 obtain⟨r',e'⟩:=this
 rw[e']
 intro z
 have:=(QW z).1
 omega
theorem Zzo{A:List Int}(h:∀x∈A,1<=x/\x<10)(hl:A.length<=9){e:FE}(he:EvV e δ (Zx A)) :
  EvV (Ztq Zh0 Z20 (Zd (Yn 1 [] (Zcd e) Zj4 Zdx (Zgl Z0w Zdg)) Z5)) δ (.str (mkS (ctx A))):=by
 refine Zo7 (ps:=A.map tx) (Zok Yde) ((Zcr (cs:=[]) A Xl (λx=>.str (mkS (tx x))) (Y6 he) (by omega) rfl λx hx=>Zbl (Zb (Za (i:=0) rfl) Zf) (Zo2 (Bt.of_lt (Bx (b:=0) (by decide +kernel) (by have:=h x hx;omega)) (Bx (h x hx).2 (by decide +kernel))))).cast ?_) (Qa (Ztm h hl) (by decide))
 rw[Xr];rfl
theorem Yai{q:List Int×Rat}(h:Wq q){a b:FE}(ha:EvV a δ (.str (mkS (ctx q.1))))(hb:EvV b δ (.str (mkS (qtx q.2)))):EvV (Zh Zke (Zh Zke a (fC (.str ": "))) b) δ (.str (mkS (wtx q))):=by
 have h1:=Zqd h.pt h.ln
 have h2:=Zi6 h.ds
 rw[Zrm]
 exact Zk (Zk ha (Zrd Yhh) (Zig (by show _+2<=_;omega))) hb (Zig (by rw[X7];show _+2+_<=_;omega))
theorem Ybr{L:List (List Int×Rat)}(h:∀q∈L,Wq q)(hn:L≠[])(hl:L.length<64)(hm:∀q∈L,EvV me [some (.fz (Zx q.1)),some (.fz (frD q.2))] (.str (mkS (wtx q)))){e:FE}(he:EvV e δ (Zag L)) :
  EvV (Ztq Zh0 (fC (.str "; ")) (Zd (Yn 2 [] (Zcd e) Ya8 Zdx me) Z5)) δ (.str (mkS (ltx L))):=by
 unfold ltx
 rw[if_neg hn]
 refine Z1v (Zrd Ygw) (Zb ?_ Zf) (Zub (ps:=L.map wtx) (Qa (Zv1 h hl) (by decide)))
 refine(Zql (t:=Zdx) (cs:=[]) L ctD (λq=>.str (mkS (wtx q))) (λ_=>true) (Y6 he) (by omega) rfl λq hq z0 z1=>⟨some (.fz (Zx q.1)),some (.fz (frD q.2)),rfl,rfl,hm q hq⟩).cast ?_
 rw[List.filter_eq_self.mpr λ_ _=>rfl,Xr];rfl
theorem Zbn{L:List (List Int×Rat)}(h:∀q∈L,Wq q)(hl:L.length<64):Told Yj [Zag L] (.str (mkS (ltx L))):=by
 have len:EvV Zxg (Zb9 1 [Zag L]) (.int L.length):=(Zez (ds:=L.map ctD) (Za (i:=0) rfl)).cast (by rw[Xc])
 by_cases hn:L=[]
 .subst hn
  refine Zu rfl<|Zav<|Zce (J4 (Zcs len Zv rfl)) (Z1 (Zv.cast ?_))
  exact congrArg QT Zus
 .have:=VR.mpr hn
  refine Zu rfl<|Zr (Zn (J4 (Zcs len Zv (decide_eq_false (by omega)))) rfl) (Z1 (Ybr h hn hl (λq hq=>Yai (h q hq) (Zj (Zb (Za (i:=0) rfl) Zf) ?_) (Zj (Zb (Za (i:=1) rfl) Zf) (Zt5 (h q hq).ds))) (Za (i:=0) rfl)))
  exact Zu rfl (Z1 (Zzo (h q hq).pt (h q hq).ln (Za (i:=0) rfl)))
def OwnQ(q:List Int×Rat)(t:OT):Prop:=∃rs o,t= .tp [.nd rs,o]/\OT.datas rs=q.1.map Xl/\o.data=frD q.2
theorem OwnQ.data{q:List Int×Rat}{t:OT}(h:OwnQ q t):t.data=ctD q:=by
 obtain⟨rs,o,rfl,e1,e2⟩:=h
 rw[OT.data_tp]
 show QF [(OT.nd rs).data,o.data]=_
 rw[OT.data_nd,<-datas_map,e1,e2];rfl
theorem Znb{c d:Nat}(hc:c<128)(hd:d<128)(ne:c≠d){o a:FE}{ps:List (List Nat)}(ho:EvV o δ (.str (mkS (jn2 c d ps))))(ha:EvV a δ (.str (mkS [c,d])))(h:∀p∈ps,c∉p)(hn:ps≠[])(hl:(jn2 c d ps).length<=1000000)(hk:ps.length<=1000000):EvV (Zor Zae o (Zd a Z5)) δ (.list (ps.map λp=>.str (mkS p))) :=
 Z1h ho (Zb ha Zf) (Zr7 hc hd ne h hn hl hk) (by rw[OT.data_nd,OT.map_fz])
theorem Z2c{as:FA}{ds:List Xa}(h:EvA as δ ds)(k:F ds= .ok o):Zo F as δ=some (o,δ):=by
 obtain⟨ts,e1,e2⟩:=h
 rw[Zlg,e1]
 show okO (F _) _=_
 rw[e2,k];rfl
theorem Zh3{q:List Int×Rat}(h:Wq q):∃t,Yk [.str (mkS (wtx q))]= .ok t/\OwnQ q t:=by
 have lw:=Zvc h
 have sp:EvV (Zor Zae (Zw 0) (Zd (fC (.str ": ")) Z5)) (Zb9 2 [.str (mkS (wtx q))]) (.list [.str (mkS (ctx q.1)),.str (mkS (qtx q.2))]) :=
  Znb (c:=58) (d:=32) (by decide) (by decide) (by decide) (ps:=[ctx q.1,qtx q.2]) (Za (i:=0) rfl) (Zrd Yhh) (λp m z=>by
   rcases Xo.mp m with rfl|m
   .have:=Ztj h.pt _ z;omega
   .rw[Xn.mp m]at z
    have:=Zjv h.ds _ z;omega) (by simp) (by show(wtx q).length<=_;omega) (QB rfl)
 obtain⟨rs,e4,e5⟩:=Zlp (δ:=[some (.fz (.str (mkS (wtx q)))),some (.fz (.list [.str (mkS (ctx q.1)),.str (mkS (qtx q.2))]))]) (caps:=[]) (cs:=[]) (me:=Zo Z7 (Zd (Zw 0) Z5)) q.1 (λx=>.str (mkS (tx x))) Xl (it:=Zcd (Zor Zae (W8 gIx (Zw 1) (fC (.int 0))) (Zd (fC (.str " ")) Z5)))
  (Y6 ((Zfr (c:=32) (ps:=q.1.map tx) (Wv (d:=.str (mkS (ctx q.1))) (Za (i:=1) rfl) Zv rfl) (Zok Yde) (λp hp z=>by
   obtain⟨x,hx,rfl⟩:=Xp.mp hp
   obtain⟨k,_,e,_⟩:=Zwa (h.pt x hx)
   rw[e]at z
   have:=Zgb z;omega) (λz=>h.ne (Vc.mp z)) (by have:=Zqd h.pt h.ln;show(ctx q.1).length<=_;omega) (by rw[Xc];have:=h.ln;omega)).cast (by rw[Xr];rfl))) (by have:=h.ln;omega) rfl λx hx=>by
   obtain⟨k,e1,e,l⟩:=Zwa (h.pt x hx)
   rw[e,e1]
   exact Zj (Zb (Za (i:=0) rfl) Zf) (Zbz (by omega))
 obtain⟨o,e6,e7⟩:=Zj (δ:=[some (.fz (.str (mkS (wtx q)))),some (.fz (.list [.str (mkS (ctx q.1)),.str (mkS (qtx q.2))]))]) (as:=Zd (W8 gIx (Zw 1) (fC (.int 1))) Z5) (Zb (Wv (d:=.str (mkS (qtx q.2))) (Za (i:=1) rfl) Zv rfl) Zf) (Zd4 h.ds)
 refine⟨.tp [.nd rs,o],Zjh (δ':=[some (.fz (.str (mkS (wtx q)))),some (.fz (.list [.str (mkS (ctx q.1)),.str (mkS (qtx q.2))]))]) rfl (Z2 (Z8 sp) (Z2 (Zn (J4 (Zoe (i:=2) (j:=2) (Zez (ds:=[.str (mkS (ctx q.1)),.str (mkS (qtx q.2))]) (Za (i:=1) rfl)) Zv rfl)) rfl) ?_)),rs,o,rfl,e5,e7⟩
 have et:Zrw (Zd (Yn 1 [] (Zcd (Zor Zae (W8 gIx (Zw 1) (fC (.int 0))) (Zd (fC (.str " ")) Z5))) (gNm 0) Zdx (Zo Z7 (Zd (Zw 0) Z5))) (Zd (Zo Yb (Zd (W8 gIx (Zw 1) (fC (.int 1))) Z5)) Z5)) [some (.fz (.str (mkS (wtx q)))),some (.fz (.list [.str (mkS (ctx q.1)),.str (mkS (qtx q.2))]))]=some (.tp [.nd rs,o],[some (.fz (.str (mkS (wtx q)))),some (.fz (.list [.str (mkS (ctx q.1)),.str (mkS (qtx q.2))]))]):=by
  rw[Zrk,Zlt,e4,Xf]
  dsimp only
  rw[Zlt,e6];rfl
 rw[Zbv]
 refine(congrArg (onO · _) et).trans rfl
theorem Zo6{L:List (List Int×Rat)}(h:∀q∈L,Wq q)(hl:L.length<64):∃ts:List OT,Y5 [.str (mkS (ltx L))]= .ok (.nd ts)/\ts.map OT.data=L.map ctD/\∀t∈ts,∃q∈L,OwnQ q t:=by
 by_cases hn:L=[]
 .subst hn
  refine⟨[],Zjh (δ':=[some (.fz (.str (mkS (ltx []))))]) rfl (Zmo (Zdv (J4 (Zk (Za (i:=0) rfl) Zv ?_)) ?_)),rfl,λt m=>nomatch m⟩
  .rw[Zus]
   exact(Zfn (Zkp (L:=[]) λq m=>nomatch m) (Zkp (L:=[]) λq m=>nomatch m)).trans (by rw[decide_eq_true rfl])
  .show wE (Zsb Z5) W7 _=_;rw[Zbv,Zqe,Z22];rfl
 .have hw:∀q,∃t,q∈L->Yk [.str (mkS (wtx q))]= .ok t/\OwnQ q t:=λq=>by
   by_cases m:q∈L
   .obtain⟨t,ht⟩:=Zh3 (h q m)
    exact⟨t,λ_=>ht⟩
   .exact⟨.nd [],λz=>absurd z m⟩
  obtain⟨f,hf⟩:=V0 hw
  have ec:Yn 1 [] (Zcd (Zor Zae (Zw 0) (Zd (fC (.str "; ")) Z5))) (gNm 0) Zdx (Zo Yk (Zd (Zw 0) Z5)) [some (.fz (.str (mkS (ltx L))))]=some (.nd (L.map f),[some (.fz (.str (mkS (ltx L))))]):=by
   refine Zf6 (cs:=[]) L (λq=>QT (mkS (wtx q))) f (Y6 ((Znb (c:=59) (d:=32) (by decide) (by decide) (by decide) (ps:=L.map wtx) (Za (i:=0) ?_) (Zrd Ygw) (λp hp z=>?_) (λz=>hn (Vc.mp z)) (Qa (Zv7 ..) (Qa (Zv1 h hl) (by decide))) (by rw[Xc];omega)).cast (by rw[Xr];rfl))) (by rw[Qc];omega) rfl λq hq=>Z2c (Zb (Za (i:=0) rfl) Zf) (hf q hq).1
   .unfold ltx
    rw[if_neg hn];rfl
   .obtain⟨q,hq,rfl⟩:=Xp.mp hp
    have:=Zu8 (h q hq) _ z;omega
  refine⟨L.map f,Zjh (δ':=[some (.fz (.str (mkS (ltx L))))]) rfl (Z2 (Zn (J4 (Zk (Za (i:=0) rfl) Zv ?_)) rfl) ?_),?_,λt m=>?_⟩
  .rw[Zus]
   exact(Zfn (Zkp h) (Zkp (L:=[]) λq m=>nomatch m)).trans (congrArg (λb=>some (V4 b)) (decide_eq_false (Yas h hn)))
  .rw[Zbv]
   refine(congrArg (onO · _) ec).trans rfl
  .rw[Xr]
   exact XN λq hq=>(hf q hq).2.data
  .obtain⟨q,hq,rfl⟩:=Xp.mp m
   exact⟨q,hq,(hf q hq).2⟩
structure Ct(n:Nat)(A:List Int):Prop where
 ne:A≠[]
 up:A.Pairwise (·<·)
 pt:∀x∈A,1<=x/\x<n
def kyQ(q:List Int×Rat):KY:=kA q.1
def vlQ(q:List Int×Rat):Xa:=frD q.2
structure Kp(n:Nat)(D:List (List Int×Rat)):Prop where
 nd:(D.map BW).Nodup
 ok:∀q∈D,Ct n q.1/\DsQ q.2/\0<q.2.num
theorem Yiu{A:List Int}{D:List (List Int×Rat)}:Zxe (kA A) (D.map kyQ)=true↔A∈D.map BW:=by
 have e:D.map kyQ=(D.map λq=>(q.1,(0:Int))).map kyA:=by rw[Xr];rfl
 rw[e,Yfz,Xr];rfl
theorem Yhw{A:List Int}{d:Xa}:∀D:List (List Int×Rat),Yar (kA A) d (D.map kyQ) (D.map vlQ)=D.map λq=>if q.1=A then d else vlQ q
 | []=>rfl
 | q :: D=>by
  rw[Xv,Xv,Xv,Yar]
  rw[Yhw D]
  by_cases c:q.1=A
  .rw[if_pos (show kyQ q=kA A by rw[<-c];rfl),if_pos c]
  .rw[if_neg (show¬kyQ q=kA A from λz=>c (Zw6 z)),if_neg c]
theorem Yi2{A:List Int}:∀{D:List (List Int×Rat)},A∈D.map BW->∃q∈D,q.1=A/\Z26 (kA A) (D.map kyQ) (D.map vlQ)=some (vlQ q)
 | q :: D,h=>by
  rw[Xv,Xv,Z26]
  by_cases c:q.1=A
  .exact⟨q,.head _,c,by rw[if_pos (show kyQ q=kA A by rw[<-c];rfl)]⟩
  .rw[if_neg (show¬kyQ q=kA A from λz=>c (Zw6 z))]
   obtain⟨r,hr,e1,e2⟩:=Yi2 (D:=D) ((Xo.mp h).resolve_left λz=>c z.symm)
   exact⟨r,.tail _ hr,e1,e2⟩
theorem Ykj{n:Nat}{A:List Int}{w:Rat}{D:List (List Int×Rat)}(K:Kp n D)(hA:Ct n A)(hw:DsQ w)(h0:0<w.num):∃D',Zom (kA A) (D.map kyQ)=D'.map kyQ/\Zmt (kA A) (frD w) (D.map kyQ) (D.map vlQ)=D'.map vlQ/\Kp n D'/\D'.length<=D.length+1:=by
 by_cases h:A∈D.map BW
 .have hh:=Yiu.mpr h
  refine⟨D.map λq=>if q.1=A then(q.1,w)else q,?_,?_,⟨?_,λq m=>?_⟩,by rw[Xc];omega⟩
  .unfold Zom
   rw[if_pos hh,Xr]
   refine XN λr _=>?_
   show kyQ r=kyQ (if r.1=A then(r.1,w)else r)
   split<;>rfl
  .unfold Zmt
   rw[if_pos hh,Yhw,Xr]
   refine XN λr hr=>?_
   show(if r.1=A then frD w else vlQ r)=vlQ (if r.1=A then(r.1,w)else r)
   split<;>rfl
  .rw[Xr,show(D.map (BW∘ λq=>if q.1=A then(q.1,w)else q))=D.map BW from XN λq _=>by
    show(if q.1=A then(q.1,w)else q).1=q.1
    split<;>rfl]
   exact K.nd
  .obtain⟨r,hr,rfl⟩:=Xp.mp m
   by_cases c:r.1=A
   .rw[if_pos c];exact⟨(K.ok r hr).1,hw,h0⟩
   .rw[if_neg c];exact K.ok r hr
 .have hh:¬Zxe (kA A) (D.map kyQ)=true:=λz=>h (Yiu.mp z)
  refine⟨D ++ [(A,w)],?_,?_,⟨?_,λq m=>?_⟩,by rw[X7];exact XC _⟩
  .unfold Zom
   rw[if_neg hh,Qj];rfl
  .unfold Zmt
   rw[if_neg hh,Qj];rfl
  .rw[Qj,Vs]
   exact⟨K.nd,Qm.mpr ⟨(λz=>nomatch z),.nil⟩,λa ha b hb e=>by
    rw[Xn.mp hb]at e
    exact h ((show a=A from e)▸ha)⟩
  .rcases Qq.mp m with m|m
   .exact K.ok q m
   .rw[Xn.mp m];exact⟨hA,hw,h0⟩
theorem Ydh:∀k:Fin 9,atI [Xl 1,.int 2,.int 4,.int 8,.int 16,.int 32,.int 64,.int 128,.int 256] ((k:Nat):Int)=some (.int (2^(k:Nat))):=by
 intro k
 match k with
 | ⟨0,_⟩=>rfl
 | ⟨1,_⟩=>rfl
 | ⟨2,_⟩=>rfl
 | ⟨3,_⟩=>rfl
 | ⟨4,_⟩=>rfl
 | ⟨5,_⟩=>rfl
 | ⟨6,_⟩=>rfl
 | ⟨7,_⟩=>rfl
 | ⟨8,_⟩=>rfl
abbrev Yle:FE:=Yn 1 [3] (iRa (Zd (Zh gSb Wt Zet) Z5)) Zj4 Yg6 (Zh Zhz Wt Zet)
theorem Ybd{n:Nat}(h0:1<=n)(hn:n<=10){c:Int}(h1:δ[0]? =some (some (.fz (.int n))))(hb:blk 1 [3] δ=[none,some (.fz (.int c))]):∃A:List Int,EvV Yle δ (Zx A)/\(A=[]\/Ct n A)/\A.length<=9:=by
 let pr:Nat->Bool:=λk=>decide ((c.fdiv (2^k)).fmod 2=1)
 refine⟨((Xz (n-1)).filter pr).map λk:Nat=>(k:Int)+1,?_,?_,?_⟩
 .refine(Zwp (cs:=[some (.fz (.int c))]) (Xz (n-1)) (λk:Nat=>Xl (0+(k:Int))) (λk=>.int ((k:Int)+1)) pr (Zmd (n:=n-1) (Zb ((Z0l (Za h1) Zv).cast (congrArg Xl (show(n:Int)-1=((n-1:Nat):Int) by omega))) Zf) (by omega)) (by rw[XD];omega) hb (λk hk=>?_) λk hk _=>?_).cast (by unfold Zx;rw[Xr];rfl)
  .have hk:=Qn.mp hk
   rw[UW]
   have e:=Ydh ⟨k,by omega⟩
   have p0:(0:Int)<2^k:=Int.pow_pos (show(0:Int)<2 by decide)
   have p1:(2:Int)^k<=256:=by
    have h:=Nat.pow_le_pow_right (n:=2) (by decide) (show k<=8 by omega)
    have e:((2^k:Nat):Int)=(2:Int)^k:=Int.natCast_pow 2 k
    rw[<-e];omega
   exact J4 (Zcs (Wo (Zcj (Za (i:=1) rfl) (Wv (d:=.int (2^k)) (Zn2 (Zb Zv (Zb Zv (Zb Zv (Zb Zv (Zb Zv (Zb Zv (Zb Zv (Zb Zv (Zb Zv Zf))))))))) (show 9<=1000 by decide)) (Za (i:=0) rfl) (by rw[Zso,e];rfl)) (by rw[decide_eq_true p0,decide_eq_true (Vn p1 (by decide))];rfl)) Zv (by decide)) Zv rfl)
  .rw[UW]
   exact Zbe (Za (i:=0) rfl) Zv
 .by_cases e:((Xz (n-1)).filter pr)=[]
  .exact .inl (by rw[e];rfl)
  .refine .inr ⟨λz=>e (Vc.mp z),?_,λx hx=>?_⟩
   .rw[List.pairwise_map]
    exact((List.pairwise_lt_range (n:=n-1)).sublist List.filter_sublist).imp λh=>by omega
   .obtain⟨k,hk,rfl⟩:=Xp.mp hx
    have:=Qn.mp (V5.mp hk).1
    omega
 .rw[Xc]
  refine Qa (List.length_filter_le ..) ?_
  rw[XD];omega
theorem Zgy{A:List Int}(h:A≠[]):kdV (.tuple (A.map Xl))=some A:=by
 obtain⟨x,r,rfl⟩:=Bv h
 unfold kdV
 exact Zdt (x :: r)
theorem Z1z{L:List (List Int)}(hL:∀A∈L,A≠[])(hi:i<L.length)(hj:j<L.length):lk kdV ltI (L.map λA=>.tuple (A.map Xl)) i j=ltI (L.getD i []) (L.getD j []):=by
 have e:∀k,k<L.length->kdV ((L.map λA=>QF (A.map Xl)).getD k .none)=some (L.getD k []):=λk hk=>by
  rw[Xq,Xj,Xx hk,Xq,Xx hk]
  exact Zgy (hL _ (Q5 hk))
 unfold lk
 rw[e i hi,e j hj];rfl
theorem Zxq{L:List (List Int)}(nd:L.Nodup)(hL:∀A∈L,A≠[])(h:L.length<64):∃M:List (List Int),Zmq kdV ltI [.list (L.map λA=>.tuple (A.map Xl))]=some (.nd ((M.map λA=>QF (A.map Xl)).map OT.fz))/\M.Perm L/\M.Pairwise (λa b=>ltI a b=true):=by
 have lm:(L.map λA=>QF (A.map Xl)).length=L.length:=Xc ..
 have gne:∀{i j:Nat},i<L.length->j<L.length->i≠j->L.getD i []≠L.getD j []:=fun{i j} hi hj ne=>by
  rw[Xq,Xq,Xx hi,Xx hj]
  exact λe=>ne ((List.getElem_inj nd).mp e)
 obtain⟨M,pM,eM⟩:=Zzu (Zon PyData.none (lk kdV ltI (L.map λA=>QF (A.map Xl))) (L.map λA=>QF (A.map Xl))) L rfl
 refine⟨M,?_,pM,?_⟩
 .show(if(decide ((L.map λA=>QF (A.map Xl)).length<64)&&(L.map λA=>QF (A.map Xl)).all λd=>(kdV d).isSome)=true then some (OT.nd ((sLay PyData.none (lk kdV ltI _) (L.map λA=>QF (A.map Xl))).map OT.fz))else none)=_
  rw[if_pos,eM]
  rw[XX,decide_eq_true_eq,lm,VJ]
  refine⟨h,λd m=>?_⟩
  obtain⟨p,hp,rfl⟩:=Xp.mp m
  rw[Zgy (hL p hp)];rfl
 .have up:=Z2q (β:=Nat) (d:=PyData.none) (vs:=L.map λA=>QF (A.map Xl)) (lt:=lk kdV ltI (L.map λA=>QF (A.map Xl))) (R:=λa b=>∃x y,kdV a=some x/\kdV b=some y/\ltI x y=true) ⟨λi j k hi hj hk h1 h2=>?_,λi j hi hj c q=>?_,λi j hi hj q=>?_⟩ λi j hi hj q=>?_
  .rw[eM,List.pairwise_map]at up
   refine(up.imp_of_mem fun{a b} ha hb h=>?_)
   obtain⟨x,y,h1,h2,h3⟩:=h
   rw[Zgy (hL a (pM.mem_iff.mp ha))]at h1
   rw[Zgy (hL b (pM.mem_iff.mp hb))]at h2
   cases h1;cases h2
   exact h3
  all_goals (try rw[lm]at hi hj)
  .rw[lm]at hk
   rw[Z1z hL hi hj]at h1
   rw[Z1z hL hj hk]at h2
   rw[Z1z hL hi hk]
   exact Z0p h1 h2
  .rw[Z1z hL hi hj]at q
   rw[Z1z hL hj hi]
   exact Z4j (gne hi hj c) q
  .rw[Z1z hL hi hj]at q
   rw[Z1z hL hj hi]
   cases z:ltI (L.getD j []) (L.getD i [])with
   | false=>rfl
   | true=>have:=Z0p q z;rw[Z2h]at this;cases this
  .rw[Z1z hL hi hj]at q
   refine⟨_,_,?_,?_,q⟩
   .rw[Xq,Xj,Xx hi,Xq,Xx hi]
    exact Zgy (hL _ (Q5 hi))
   .rw[Xq,Xj,Xx hj,Xq,Xx hj]
    exact Zgy (hL _ (Q5 hj))
structure Wc(n:Nat)(L:List (List Int×Rat)):Prop where
 ok:∀q∈L,Ct n q.1/\DsQ q.2/\0<q.2.num
 up:(L.map BW).Pairwise λa b=>ltI a b=true
 len:L.length<64
theorem Yea{as:FA}{ds:List Xa}(h:EvA as δ ds)(hl:ds.length<=1000):EvV (Zrw as) δ (.tuple ds):=by
 obtain⟨ts,e1,e2⟩:=h
 refine⟨.tp ts,?_,by rw[OT.data_tp,<-datas_map,e2]⟩
 rw[Zrk,e1,Xf]
 rw[<-e2,Zbb]at hl
 exact if_pos (show ts.length<=Xk by rw[Qc];omega)
def sE(n:Nat)(cs:List Int)(D:List (List Int×Rat))(z3 z4 z5:Option OT):Zg:=[some (.fz (.int n)),some (.fz (Zx cs)),some (.dc true (D.map kyQ) (D.map vlQ)),z3,z4,z5]
theorem Z9j(D:List (List Int×Rat)):Zkn [dcD true (D.map kyQ) (D.map vlQ)]=if D.length<=Xk then some (.nd (((D.map BW).map λA=>QF (A.map Xl)).map OT.fz))else none:=by
 show(if(((D.map kyQ).map kyD).zip (D.map vlQ)).length<=Xk then some (OT.nd (((((D.map kyQ).map kyD).zip (D.map vlQ)).map (·.1)).map OT.fz))else none)=_
 rw[List.map_fst_zip (by rw[Xc,Xc,Xc];exact XC _),List.length_zip,Xc,Xc,Xc,Nat.min_self]
 rw[show(D.map kyQ).map kyD=(D.map BW).map λA=>QF (A.map Xl) by rw[Xr,Xr];exact XN λq _=>Yh6 q.1]
theorem Ybt{A:List Int}{D:List (List Int×Rat)}(h:A∈D.map BW):∃q∈D,q.1=A/\Z1a (dcD true (D.map kyQ) (D.map vlQ)) (.tuple (A.map Xl))=some (.fz (frD q.2)):=by
 obtain⟨q,hq,e1,e2⟩:=Yi2 h
 refine⟨q,hq,e1,?_⟩
 show((Zoj (.tuple (A.map Xl))).bind λk=>if Z11 k=true then(Zr6 k (((D.map kyQ).map kyD).zip (D.map vlQ))).map OT.fz else none)=_
 rw[Z7j,Xf]
 refine(if_pos (show Z11 (kA A)=true from rfl)).trans ?_
 rw[Zn8,e2];rfl
theorem Zms{n:Nat}(h0:1<=n)(hn:n<=10)(cs:List Int)(hc:cs.length<=60):∃L,Told Wz [.int n,Zx cs] (Zag L)/\Wc n L:=by
 have key:Zxd W3 (Zb9 6 [.int n,Zx cs]) λr=>∃L,r=Zag L/\Wc n L:=by
  refine Zn6 (δ':=sE n cs [] none none none) (Zcl (o:=.dc true [] []) rfl) (Zs9 (ds:=cs.map Xl) (λk δ=>∃D z3 z4 z5,δ=sE n cs D z3 z4 z5/\Kp n D/\D.length<=k) (Y6 (Za (i:=1) rfl)) ⟨[],none,none,none,rfl,⟨.nil,λq m=>nomatch m⟩,XC _⟩ (λk d δ hd q=>?_) λδ' q=>?_)
  .obtain⟨D,z3,z4,z5,rfl,K,lD⟩:=q
   have hk:k<cs.length:=by have:=(Xi.mp hd).1;rwa[Xc]at this
   obtain⟨c,hcm,rfl⟩:=Xp.mp (X5 hd)
   obtain⟨A,eA,cA,lA⟩:=Ybd h0 hn (c:=c) (δ:=sE n cs D (some (.fz (.int c))) z4 z5) rfl rfl
   obtain⟨w,ew,hw⟩:=Z4f (v:=(c.fdiv 512).fmod 10000000000000) (W6 (by decide)) (Jk (by decide))
   have e2:wE Yhn (Zaa 5) (sE n cs D (some (.fz (.int c))) (some (.fz (Zx A))) z5)= .nx (sE n cs D (some (.fz (.int c))) (some (.fz (Zx A))) (some (.fz (frD w)))) :=
    Z8 (Zj (Zb (Wo (Zcj (Za (i:=3) rfl) Zv) (Zk Zv Zv (show Znz (.int 10) (.int 13)=some (.int 10000000000000)from rfl)) (by decide)) Zf) ew)
   have tN:EvT (tV (Zh gNe Zuo Zxh)) (sE n cs D (some (.fz (.int c))) (some (.fz (Zx A))) (some (.fz (frD w)))) (!decide (A=[])):=J4 (Zk (Za (i:=4) rfl) (Zn2 Zf (by decide)) (Zxs A []))
   have tG:EvT Ygz (sE n cs D (some (.fz (.int c))) (some (.fz (Zx A))) (some (.fz (frD w)))) (decide (0<w.num)):=J4 (Z7s (at0 rfl) Zv rfl)
   by_cases hA:A=[]
   .rw[decide_eq_true hA]at tN
    exact⟨_,_,rfl,.inl (Z2 (Z8 eA) (Z2 e2 (Zn (Z5q tN) rfl))),D,_,_,_,rfl,K,by omega⟩
   .rw[decide_eq_false hA]at tN
    by_cases hg:0<w.num
    .rw[decide_eq_true hg]at tG
     obtain⟨D',p1,p2,K',l'⟩:=Ykj (w:=w) K (cA.resolve_left hA) hw hg
     refine⟨_,_,rfl,.inl (Z2 (Z8 eA) (Z2 e2 (Zdv (Z3u tN tG) (Z3b (k:=kA A) (Za (i:=5) rfl) rfl (Zsg (o:=.fz (.tuple (A.map Xl))) (Zb (Za (i:=4) rfl) Zf) rfl (OT.data_fz _)) (Z7j A) rfl (by rw[Xc];omega))))),D',some (.fz (.int c)),some (.fz (Zx A)),some (.fz (frD w)),?_,K',by omega⟩
     rw[p1,p2];rfl
    .rw[decide_eq_false hg]at tG
     exact⟨_,_,rfl,.inl (Z2 (Z8 eA) (Z2 e2 (Zn (Z3u tN tG) rfl))),D,_,_,_,rfl,K,by omega⟩
  .obtain⟨D,z3,z4,z5,rfl,K,lD⟩:=q
   rw[Xc]at lD
   obtain⟨M,eM,pM,uM⟩:=Zxq (L:=D.map BW) K.nd (λA m=>by
    obtain⟨q,hq,rfl⟩:=Xp.mp m
    exact(K.ok q hq).1.ne) (by rw[Xc];omega)
   have ch:∀A:List Int,∃q:List Int×Rat,A∈M->q∈D/\q.1=A/\Z1a (dcD true (D.map kyQ) (D.map vlQ)) (.tuple (A.map Xl))=some (.fz (frD q.2)):=λA=>by
    by_cases m:A∈M
    .obtain⟨q,h1,h2,h3⟩:=Ybt (pM.mem_iff.mp m)
     exact⟨q,λ_=>⟨h1,h2,h3⟩⟩
    .exact⟨([],0),λz=>absurd z m⟩
   obtain⟨f,hf⟩:=V0 ch
   have lM:M.length=D.length:=by rw[pM.length_eq,Xc]
   refine Zvu (o:=.dc true (D.map kyQ) (D.map vlQ)) rfl (Z0i (d:=Zag (M.map f)) ?_ ⟨M.map f,rfl,⟨λq m=>?_,?_,by rw[Xc];omega⟩⟩)
   .refine(Zcr (cs:=[some (.fz (OT.dc true (D.map kyQ) (D.map vlQ)).data)]) M (λA=>.tuple (A.map Xl)) (λA=>ctD (f A)) (Y6 (Zsg (Zb (Zsg (Zb (Za (i:=2) rfl) Zf) ((congrArg (λx=>Zkn [x]) (OT.data_dc ..)).trans ((Z9j D).trans (if_pos (by rw[Qc];omega)))) (by rw[OT.data_nd,OT.map_fz])) Zf) eM (by rw[OT.data_nd,OT.map_fz]))) (by omega) rfl λA hA=>?_).cast ?_
    .obtain⟨h1,h2,h3⟩:=hf A hA
     refine(Yea (Zb (Zsg (Zb (Za (i:=0) rfl) Zf) (Z4d _) (by rw[OT.data_nd,OT.map_fz])) (Zb (Ybg (Za (i:=1) (d:=dcD true (D.map kyQ) (D.map vlQ)) (by rw[OT.data_dc];rfl)) (Za (i:=0) rfl) h3) Zf)) (QB rfl)).cast ?_
     show QF [Zx A,frD (f A).2]= .tuple [Zx (f A).1,frD (f A).2]
     rw[h2]
    .unfold Zag;rw[Xr];rfl
   .obtain⟨A,hA,rfl⟩:=Xp.mp m
    exact K.ok _ (hf A hA).1
   .rw[Xr,show M.map (BW∘f)=M from(XN λA hA=>(hf A hA).2.1).trans (List.map_id _)]
    exact uM
 obtain⟨r,h,L,rfl,W⟩:=Z3j (np:=2) rfl key
 exact⟨L,h,W⟩
theorem Ct.cutP{n m:Nat}{A:List Int}(h:Ct n A)(hm:n<=m):Z7i m A:=by
 refine⟨h.ne,λk x y hx hy=>?_,?_,?_⟩
 .obtain⟨lx,rfl⟩:=Xi.mp hx
  obtain⟨ly,rfl⟩:=Xi.mp hy
  exact decide_eq_true (VN.mp h.up k (k+1) lx ly (Vi k))
 .have pos:=VR.mpr h.ne
  rw[Xq,Xx pos]
  exact(h.pt _ (Q5 pos)).1
 .have pos:=VR.mpr h.ne
  rw[Xq,Xx (show A.length-1<A.length by omega)]
  have:=(h.pt _ (Q5 (show A.length-1<A.length by omega))).2
  show A[A.length-1]<_
  omega
theorem Z1b{n:Nat}:∀{A:List Int} (lo:Int),A.Pairwise (·<·)->(∀x∈A,lo<=x/\x<n)->(A.length:Int)<=max 0 (n-lo)
 | [],lo,_,_=>by show(0:Int)<=_;omega
 | x :: A,lo,hp,h=>by
  have hp:=List.pairwise_cons.mp hp
  have:=Z1b (n:=n) (A:=A) (x+1) hp.2 λy hy=>⟨by have:=hp.1 y hy;omega,(h y (.tail _ hy)).2⟩
  have hx:=h x (.head _)
  rw[Qh]
  omega
theorem Wc.wq{n:Nat}(hn:n<=10){L:List (List Int×Rat)}(h:Wc n L):∀q∈L,Wq q:=λq hq=>by
 obtain⟨c,d,_⟩:=h.ok q hq
 refine⟨c.ne,λx hx=>?_,?_,d⟩
 .have:=c.pt x hx;omega
 .have:=Z1b (n:=n) (A:=q.1) 1 c.up c.pt;omega
theorem Wc.wl{n m:Nat}{L:List (List Int×Rat)}(h:Wc n L)(hm:n<=m):WL m L:=by
 refine⟨λp hp=>⟨(h.ok p hp).1.cutP hm,(h.ok p hp).2.2⟩,λk x y hx hy=>?_⟩
 obtain⟨lx,rfl⟩:=Xi.mp hx
 obtain⟨ly,rfl⟩:=Xi.mp hy
 exact VN.mp (List.pairwise_map.mp h.up) k (k+1) lx ly (Vi k)
theorem Zdp{n m:Nat}(hn:n<=10)(hm:n<=m)(m0:1<=m)(m1:m<=10){L:List (List Int×Rat)}(h:Wc n L):∃ts:List OT,Zai [.int m,.str (mkS (ltx L))]= .ok (.nd ts)/\(OT.nd ts).data=Zag L/\ts.all Yjw=true/\ts.length<64:=by
 obtain⟨ts,e1,e2,e3⟩:=Zo6 (h.wq hn) h.len
 have dt:(OT.nd ts).data=Zag L:=by rw[OT.data_nd,e2];rfl
 obtain⟨b,e4,e5⟩:=Zj8 m L (by have:=h.len;omega)
 have hb:b=true:=e5.mpr (h.wl hm)
 subst hb
 refine⟨ts,Zjh (δ':=[some (.fz (.int m)),some (.fz (.str (mkS (ltx L)))),none]) rfl (Z2 (Zty (d:=.none) (Zj (Zb (Za (i:=1) rfl) Zf) ?_)) (Z2 (Zcl (Z2c (Zb (Za (i:=1) rfl) Zf) e1)) (Z2 (Zn (Zsw (J0 (p:=true) (W5 (Zj (Zb (Za (i:=0) rfl) Zf) ?_))) (J0 (p:=true) (W5 (Zj (Zb (Za (i:=0) rfl) (Zb (Zdu (i:=2) rfl dt) Zf)) e4)))) rfl) ?_))),dt,?_,?_⟩
 .exact Zod rfl (Zn (J0 (p:=true) (W5 (Zbq (Za (d:=.str (mkS (ltx L)))) rfl))) rfl)
 .exact Zu rfl (Z1 (Zhj Zv Za Zv (decide_eq_true (by omega)) (decide_eq_true (by omega))))
 .rw[Zl8];rfl
 .rw[VJ]
  intro t ht
  obtain⟨q,hq,rs,o,rfl,e6,_⟩:=e3 t ht
  have lr:=congrArg Ut e6
  rw[Zbb,Xc]at lr
  have:=((h.wq hn) q hq).ln
  exact decide_eq_true (by rw[Qc];omega)
 .have:=congrArg Ut e2
  rw[Xc,Xc]at this
  have:=h.len;omega
theorem Zui(L:List (List Int×Rat)):Told (Zq 6) [Zag L,Zag L] (.bool true):=Zcc (k:=5) (ds:=L.map ctD) (.inl rfl) λd m=>by
 obtain⟨q,_,rfl⟩:=Xp.mp m
 refine Zcc (k:=4) (ds:=[Zx q.1,frD q.2]) (.inr rfl) λd m=>?_
 rcases Xo.mp m with rfl|m
 .refine Zcc (k:=3) (ds:=q.1.map Xl) (.inl rfl) λd m=>?_
  obtain⟨i,_,rfl⟩:=Xp.mp m
  exact Zi4 2 i
 .rw[Xn.mp m];exact Zq4 2 _
structure GT(n:Nat)(T:Nat->Nat->Rat):Prop where
 sy:∀i j,i<n->j<n->T i j=T j i
 zd:∀i,i<n->T i i=0
 ds:∀i j,i<n->j<n->DsQ (T i j)
def rwT(n:Nat)(T:Nat->Nat->Rat)(i:Nat):Xa:=.list ((Xz n).map λj=>frD (T i j))
theorem Z8q{n:Nat}{T:Nat->Nat->Rat}{a b:FE}(ha:EvV a δ (Jy n (frG T)))(hb:EvV b δ (.int (i:Int)))(hi:i<n):EvV (W8 gIx a b) δ (rwT n T i) :=
 Wv ha hb (by unfold Jy;rw[Zso,Znd,Xj,QM hi];rfl)
theorem Z2o{n:Nat}{T:Nat->Nat->Rat}{a b c:FE}(ha:EvV a δ (Jy n (frG T)))(hb:EvV b δ (.int (i:Int)))(hi:i<n)(hc:EvV c δ (.int (j:Int)))(hj:j<n):EvV (W8 gIx (W8 gIx a b) c) δ (frD (T i j)) :=
 Wv (Z8q ha hb hi) hc (by unfold rwT;rw[Zso,Znd,Xj,QM hj];rfl)
theorem Zlu{n:Nat}(hn:n<=10){T:Nat->Nat->Rat}(G:GT n T):Told Y0 [Jy n (frG T)] (.bool true):=by
 have gl:∀{δ:Zg},δ[0]? =some (some (.fz (Jy n (frG T))))->EvV Zxg δ (.int n):=λh=>Zvt h
 refine Zu rfl<|Ze2 (ds:=Zk0 0 n) (λ_ δ=>∃z1 z2,δ=[some (.fz (Jy n (frG T))),z1,z2]) (Zmd (Zb (gl rfl) Zf) (by omega)) ⟨none,none,rfl⟩ (λk d δ hd q=>?_) λδ' q=>?_
 .obtain⟨z1,z2,rfl⟩:=q
  obtain⟨hk,rfl⟩:=Zep hd
  rw[UW]
  obtain⟨δ',e,z,rfl⟩:=Zg0 (it:=iRa Zli) (g:=gNm 2) (S:=Jd Yik Zh2 fNx) (δ:=[some (.fz (Jy n (frG T))),some (.fz (.int (k:Int))),z2]) (ds:=Zk0 0 k)
   (λ_ δ=>∃z,δ=[some (.fz (Jy n (frG T))),some (.fz (.int (k:Int))),z]) (Zmd (Zb (Za (i:=1) rfl) Zf) (by omega)) ⟨_,rfl⟩ (λj d δ hd q=>by
    obtain⟨z,rfl⟩:=q
    obtain⟨hj,rfl⟩:=Zep hd
    rw[UW]
    exact⟨_,_,rfl,.inl (Zn (J4 (Zk (Z2o (Za (i:=0) rfl) (Za (i:=1) rfl) hk (Za (i:=2) rfl) (by omega)) (Z2o (Za (i:=0) rfl) (Za (i:=2) rfl) (by omega) (Za (i:=1) rfl) hk) (by rw[Z1l,decide_eq_true (G.sy k j hk (by omega))];rfl))) rfl),_,rfl⟩)
  refine⟨_,_,rfl,.inl (Z2 (Zn (J4 (Zk (Z2o (Za (i:=0) rfl) (Za (i:=1) rfl) hk (Za (i:=1) rfl) hk) (tw (a:=0) (b:=1)) ?_)) rfl) e),_,_,rfl⟩
  rw[show QF [.int 0,.int 1]=frD 0 from rfl,Z1l,decide_eq_true (G.zd k hk)];rfl
 .obtain⟨z1,z2,rfl⟩:=q
  exact Z1 Zv
theorem Zkj(h:DsQ q):Told Jv [frD q] (.bool true) :=
 Zu rfl<|Z1 (Zaw (Zj (Zb Za Zf) (Zby q)) (Zsl (at0 rfl) Zv (decide_eq_true h.n0)))
theorem Zw9{n:Nat}(hn:n<=10){T:Nat->Nat->Rat}(G:GT n T)(hi:i<n):Told Zcg [rwT n T i,.int n] (.bool true):=by
 refine Zu rfl<|Zr (Zn (Zsw (J0 (p:=true) (W5 (Zbq (Za (d:=rwT n T i)) rfl))) (J4 (Zoe (i:=n) (j:=n) ((Zez (ds:=(Xz n).map λj=>frD (T i j)) (Za (i:=0) rfl)).cast (by rw[Xc,XD])) (Za (i:=1) rfl) (by rw[decide_eq_true rfl];rfl)))) rfl) ?_
 refine Ze2 (ds:=(Xz n).map λj=>frD (T i j)) (λ_ δ=>∃z,δ=[some (.fz (rwT n T i)),some (.fz (.int n)),z]) (Y6 (Za (i:=0) rfl)) ⟨none,rfl⟩ (λk d δ hd q=>?_) λδ' q=>?_
 .obtain⟨z,rfl⟩:=q
  obtain⟨j,hj,rfl⟩:=Xp.mp (X5 hd)
  exact⟨_,_,rfl,.inl (Zn (J0 (p:=true) (W5 (Zj (Zb (Za (i:=2) rfl) Zf) (Zkj (G.ds i j hi (Qn.mp hj)))))) rfl),_,rfl⟩
 .obtain⟨z,rfl⟩:=q
  exact Z1 Zv
theorem Zpv{n:Nat}(h0:1<=n)(hn:n<=10){T:Nat->Nat->Rat}(G:GT n T):Told Za2 [Jy n (frG T)] (.bool true):=by
 refine Zu rfl<|Zr (Zn (Zsw (J0 (p:=true) (W5 (Zbq (Za (d:=Jy n (frG T))) rfl))) (J4 (Zcs (i:=n) (j:=0) (Zvt rfl) Zv (decide_eq_false (by omega))))) rfl) ?_
 refine Ze2 (ds:=(Xz n).map (rwT n T)) (λ_ δ=>∃z,δ=[some (.fz (Jy n (frG T))),z]) (Y6 (Za (i:=0) rfl)) ⟨none,rfl⟩ (λk d δ hd q=>?_) λδ' q=>?_
 .obtain⟨z,rfl⟩:=q
  obtain⟨i,hi,rfl⟩:=Xp.mp (X5 hd)
  exact⟨_,_,rfl,.inl (Zn (J0 (p:=true) (W5 (Zj (Zb (Za (i:=1) rfl) (Zb (Zvt rfl) Zf)) (Zw9 hn G (Qn.mp hi))))) rfl),_,rfl⟩
 .obtain⟨z,rfl⟩:=q
  exact Z1 (Zj (Zb (Za (i:=0) rfl) Zf) (Zlu hn G))
def rtx(n:Nat)(T:Nat->Nat->Rat)(i:Nat):List Nat:=jn 32 ((Xz n).map λj=>qtx (T i j))
def ttx(n:Nat)(T:Nat->Nat->Rat):List Nat:=jn 10 ((Xz n).map (rtx n T))
theorem Zwl{n:Nat}{T:Nat->Nat->Rat}(G:GT n T)(hi:i<n):∀c∈rtx n T i,c=32\/(47<=c/\c<=57):=λc m=>by
 rcases Zqo m with m|⟨p,hp,m⟩
 .exact .inl m
 .obtain⟨j,hj,rfl⟩:=Xp.mp hp
  exact .inr (Zjv (G.ds i j hi (Qn.mp hj)) c m)
theorem Zvg{n:Nat}(hn:n<=10){T:Nat->Nat->Rat}(G:GT n T)(hi:i<n):(((Xz n).map λj=>qtx (T i j)).map λp=>p.length+1).sum<=820:=by
 refine Qa (Zog _ 82 _ λp hp=>?_) ?_
 .obtain⟨j,hj,rfl⟩:=Xp.mp hp
  have:=Zi6 (G.ds i j hi (Qn.mp hj));omega
 .rw[Xc,XD];omega
theorem Zww{n:Nat}(hn:n<=10){T:Nat->Nat->Rat}(G:GT n T)(hi:i<n):(rtx n T i).length<=820:=Qa (Zrg ..) (Zvg hn G hi)
theorem Zxa{n:Nat}(hn:n<=10){T:Nat->Nat->Rat}(G:GT n T):(((Xz n).map (rtx n T)).map λp=>p.length+1).sum<=8210:=by
 refine Qa (Zog _ 821 _ λp hp=>?_) ?_
 .obtain⟨j,hj,rfl⟩:=Xp.mp hp
  have:=Zww hn G (Qn.mp hj);omega
 .rw[Xc,XD];omega
theorem Z4c{n:Nat}(hn:n<=10){T:Nat->Nat->Rat}(G:GT n T):(ttx n T).length<=8210:=Qa (Zrg ..) (Zxa hn G)
theorem Z1u{n:Nat}{T:Nat->Nat->Rat}(G:GT n T):Cp (ttx n T):=λc m=>by
 rcases Zqo m with m|⟨p,hp,m⟩
 .omega
 .obtain⟨j,hj,rfl⟩:=Xp.mp hp
  have:=Zwl G (Qn.mp hj) c m;omega
theorem Zyp{n:Nat}(hn:n<=10){T:Nat->Nat->Rat}(G:GT n T)(hi:i<n)(hF:∀{q:Rat},DsQ q->Told F [frD q] (.str (mkS (qtx q)))){e:FE}(he:EvV e δ (rwT n T i)) :
  EvV (Ztq Zh0 Z20 (Zd (Yn 1 [] (Zcd e) Zj4 Zdx (Zo F Zdg)) Z5)) δ (.str (mkS (rtx n T i))):=by
 refine Zo7 (Zok Yde) ((Zcr (cs:=[]) (Xz n) (λj=>frD (T i j)) (λj=>.str (mkS (qtx (T i j)))) (Y6 he) (by rw[XD];omega) rfl λj hj=>Zj (Zb (Za (i:=0) rfl) Zf) (hF (G.ds i j hi (Qn.mp hj)))).cast ?_) (Qa (Zvg hn G hi) (by decide))
 rw[Xr];rfl
theorem Wd{n:Nat}(hn:n<=10){T:Nat->Nat->Rat}(G:GT n T):Told Yp [Jy n (frG T)] (.str (mkS (ttx n T))):=by
 refine Zu rfl<|Zr Zkq<|Ze2 (ds:=(Xz n).map (rwT n T)) (λk δ=>∃z,δ=[some (.fz (Jy n (frG T))),some (.nd ((((Xz k).map (rtx n T)).map λp=>QT (mkS p)).map OT.fz)),z]) (Y6 (Za (i:=0) rfl)) ⟨none,rfl⟩ (λk d δ hd q=>?_) λδ' q=>?_
 .obtain⟨z,rfl⟩:=q
  have hk:k<n:=by have:=(Xi.mp hd).1;rwa[Xc,XD]at this
  rw[Xj,QM hk]at hd
  cases hd
  refine⟨_,_,rfl,.inl (Zku (Zyp hn G hk (λh=>Zt5 h) (Za (i:=2) rfl)) rfl (by rw[Xc,Xc,Xc,XD];omega)),some (.fz (rwT n T k)),?_⟩
  rw[List.range_succ,Qj,Qj,Qj];rfl
 .obtain⟨z,rfl⟩:=q
  rw[Xc,XD]
  exact Z1 (Zo7 (ps:=(Xz n).map (rtx n T)) (Zok Yhi) (Zdu (i:=1) rfl (by rw[OT.data_nd,OT.map_fz])) (Qa (Zxa hn G) (by decide)))
theorem Zl5(z:Str):Told Wx [.str z] .none:=Zod rfl (Zn (J0 (p:=true) (W5 (Zbq (Za (d:=.str z)) rfl))) rfl)
def Rws(n:Nat)(T:Nat->Nat->Rat)(rows:List OT)(k:Nat):Prop:=rows.length=k/\∀i,i<k->∃rs,rows[i]? =some (.nd rs)/\OT.datas rs=(Xz n).map λj=>frD (T i j)
theorem Rws.data{n k:Nat}{T:Nat->Nat->Rat}{rows:List OT}(h:Rws n T rows k):rows.map OT.data=(Xz k).map (rwT n T):=by
 refine List.ext_getElem? λi=>?_
 rw[Xj,Xj]
 by_cases c:i<k
 .obtain⟨rs,e1,e2⟩:=h.2 i c
  rw[e1,QM c,Option.map_some,Option.map_some,OT.data_nd,<-datas_map,e2];rfl
 .rw[Q0 (by rw[h.1];omega),Q0 (by rw[XD];omega)];rfl
theorem Zcx{n:Nat}(h0:1<=n)(hn:n<=10){T:Nat->Nat->Rat}(G:GT n T):∃rows,J9 [.str (mkS (ttx n T))]= .ok (.nd rows)/\Rws n T rows n:=by
 have ne:∀{α:Type} (f:Nat->α),(Xz n).map f≠[]:=λf z=>by
  have:=congrArg Ut z
  rw[Xc,XD]at this
  exact absurd this (by show n≠0;omega)
 refine Exists.elim (Zg0 (it:=Zcd Yg2) (g:=gNm 2) (S:=Zch 1 Yjd)
  (δ:=[some (.fz (.str (mkS (ttx n T)))),some (.nd []),none]) (ds:=((Xz n).map (rtx n T)).map λp=>.str (mkS p)) (λk δ=>∃rows z,δ=[some (.fz (.str (mkS (ttx n T)))),some (.nd rows),z]/\Rws n T rows k)
  (Y6 (Zfr (Za (i:=0) rfl) (Zok Yhi) (λp hp m=>by
   obtain⟨j,hj,rfl⟩:=Xp.mp hp
   have:=Zwl G (Qn.mp hj) _ m;omega) (ne _) (by have:=Z4c hn G;show(ttx n T).length<=_;omega) (by rw[Xc,XD];omega)))
  ⟨[],none,rfl,rfl,λi h=>nomatch h⟩ λk d δ hd q=>?turn) λδ' h=>?fin
 case turn=>
  obtain⟨rows,z,rfl,R⟩:=q
  have hk:k<n:=by have:=(Xi.mp hd).1;rwa[Xc,Xc,XD]at this
  rw[Xj,Xj,QM hk]at hd
  cases hd
  obtain⟨rs,e4,e5⟩:=Zlp (δ:=[some (.fz (.str (mkS (ttx n T)))),some (.nd rows),some (.fz (.str (mkS (rtx n T k))))]) (caps:=[]) (cs:=[]) (me:=Zo Yb Zdg) (Xz n) (λj=>.str (mkS (qtx (T k j)))) (λj=>frD (T k j)) (it:=Zcd (Zor Zae Ziu (Zd Z20 Z5)))
   (Y6 ((Zfr (ps:=(Xz n).map λj=>qtx (T k j)) (Za (i:=2) rfl) (Zok Yde) (λp hp m=>by
    obtain⟨j,hj,rfl⟩:=Xp.mp hp
    have:=Zjv (G.ds k j hk (Qn.mp hj)) _ m;omega) (ne _) (by have:=Zww hn G hk;show(rtx n T k).length<=_;omega) (by rw[Xc,XD];omega)).cast (by rw[Xr];rfl))) (by rw[XD];omega) rfl λj hj=>Zj (Zb (Za (i:=0) rfl) Zf) (Zd4 (G.ds k j hk (Qn.mp hj)))
  refine⟨_,_,rfl,.inl (Z2m e4 rfl (by rw[R.1];omega)),rows ++ [.nd rs],_,rfl,by rw[X7,R.1];rfl,λi hi=>?_⟩
  by_cases c:i<k
  .obtain⟨r,e1,e2⟩:=R.2 i c
   exact⟨r,by rw[VP (by rw[R.1];exact c)];exact e1,e2⟩
  .obtain rfl:i=k:=by omega
   exact⟨rs,by rw[JV (by rw[R.1];omega),R.1,Nat.sub_self];rfl,e5⟩
 case fin=>
  obtain⟨e,rows,z,rfl,R⟩:=h
  rw[Xc,Xc,XD]at R
  have dt:(OT.nd rows).data=Jy n (frG T):=by rw[OT.data_nd,R.data];rfl
  have gl:∀{δ:Zg},δ[1]? =some (some (.nd rows))->EvV (Zgl Zll Z6t) δ (.int n):=λh=>(Zez (ds:=(Xz n).map (rwT n T)) (Zdu h dt)).cast (by rw[Xc,XD])
  refine⟨rows,Zjh (δ':=[some (.fz (.str (mkS (ttx n T)))),none,z]) rfl (Z2 (Zty (Zj (Zb (Za (i:=0) rfl) Zf) (Zl5 _))) (Z2 Zkq (Z2 e (Z2 (Zn (Zsw (J0 (p:=true) (W5 (Zj (Zb (gl rfl) Zf) ?_))) (J0 (p:=true) (W5 (Zj (Zb (Zdu (i:=1) rfl dt) Zf) (Zpv h0 hn G))))) rfl) ?_)))),R⟩
  .exact Zu rfl (Z1 (Zhj Zv Za Zv (decide_eq_true (by omega)) (decide_eq_true (by omega))))
  .rw[Zl8];rfl
theorem Zth(n:Nat)(T:Nat->Nat->Rat):Told (Zq 6) [Jy n (frG T),Jy n (frG T)] (.bool true):=Zcc (ds:=(Xz n).map (rwT n T)) (.inl rfl) λd m=>by
 obtain⟨i,_,rfl⟩:=Xp.mp m
 refine Zcc (k:=4) (ds:=(Xz n).map λj=>frD (T i j)) (.inl rfl) λd m=>?_
 obtain⟨j,_,rfl⟩:=Xp.mp m
 exact Zq4 2 _
def Sb(b N:Int)(q:Rat):Prop:=∃x,q=X4 x b/\0<=x/\x<=N
theorem Sb.up{N M:Int}(h:Sb b N q)(k:N<=M):Sb b M q:=by
 obtain⟨x,e,x0,x1⟩:=h
 exact⟨x,e,x0,Int.le_trans x1 k⟩
theorem Sb.add{N M:Int}{r:Rat}(h:Sb b N q)(k:Sb b M r):Sb b (N+M) (q+r):=by
 obtain⟨x,rfl,x0,x1⟩:=h
 obtain⟨y,rfl,y0,y1⟩:=k
 exact⟨x+y,Zup,by omega,by omega⟩
theorem Z0h:∀xs:List Rat,(∀q∈xs,Sb b 1000000003 q)->Sb b (1000000003*(xs.length:Int)) xs.sum
 | [],_=>⟨0,(Rat.zero_divInt b).symm,Int.le_refl _,Int.le_refl _⟩
 | q :: xs,h=>by
  rw[JS,Qh]
  exact((h q (.head _)).add (Z0h xs λp m=>h p (.tail _ m))).up (by omega)
theorem Ydr{L:List (List Int×Rat)}(hL:∀p∈L,Sb b 1000000003 p.2)(lL:L.length<64)(i j:Nat):Sb b 64000000192 (Sm L i j):=by
 refine(Z0h ((L.filter (prt i j)).map λp=>p.2) λq hq=>?_).up ?_
 .obtain⟨p,hp,rfl⟩:=Xp.mp hq
  exact hL p (V5.mp hp).1
 .have:=List.length_filter_le (prt i j) L
  rw[Xc];omega
theorem Sb.qv{N:Int}(h:Sb b N q)(k:N<=1000000000000):Qv b 101 q:=by
 obtain⟨x,e,x0,x1⟩:=h
 exact⟨x,e,(Bt.of_lt (m:=50) (by omega) (by omega)).mono (by decide)⟩
theorem Sb.ds{b N:Int}{q:Rat}(h:Sb b N q)(hb:0<b)(b1:b<=1000)(k:N<=1000000000000):DsQ q:=by
 obtain⟨x,rfl,x0,x1⟩:=h
 exact Zpl x0 (Vn (Int.le_trans x1 k) (by decide +kernel)) hb (Vn b1 (by decide +kernel))
theorem Z7k(hb:0<b)(b1:b<=1000):Bot b:=⟨hb,by omega⟩
theorem Zrj{m n:Nat}{a:Int}(h:Qb m q)(ka:Bt n a)(kb:Bt n b)(hb:0<b)(hmn:m+n<=9000):Told Y8 [frD q,.tuple [.int a,.int b]] (frD (q+X4 a b)):=by
 have e:q+X4 a b=X4 (q.num*b+a*(q.den:Int)) ((q.den:Int)*b):=by
  have h1:q=X4 q.num (q.den:Int):=(Rat.num_divInt_den q).symm
  exact(congrArg (·+X4 a b) h1).trans (Rat.divInt_add_divInt _ _ (Int.ne_of_gt (Zbo q)) (Int.ne_of_gt hb))
 rw[e]
 have p0:∀{δ:Zg} {d:Xa},δ[1]? =some (some (.fz (.tuple [.int a,.int b])))->EvV Z51 δ (.int a):=λh=>Wv (Za h) Zv rfl
 have p1:∀{δ:Zg} {d:Xa},δ[1]? =some (some (.fz (.tuple [.int a,.int b])))->EvV Z4y δ (.int b):=λh=>Wv (Za h) Zv rfl
 exact Zu rfl<|Z1<|Zj (Zb (Zbe (Zk (at0 rfl) (p1 (d:=.none) rfl) (Ze4 (Zdy h.1 kb (by omega)))) (Zk (p0 (d:=.none) rfl) (at1 rfl) (Ze4 (Zdy ka h.2 (by omega))))) (Zb (Zk (at1 rfl) (p1 (d:=.none) rfl) (Ze4 (Zdy h.2 kb (by omega)))) Zf)) (Wu (Int.mul_pos (Zbo q) hb) (h.2.mul kb) hmn)
structure Ws(n:Nat)(b:Int)(L:List (List Int×Rat)):Prop where
 ok:∀q∈L,Ct n q.1/\Sb b 1000000003 q.2/\0<q.2
 up:(L.map BW).Pairwise λa b=>ltI a b=true
 len:L.length<64
theorem Ws.wc{n:Nat}{L:List (List Int×Rat)}(h:Ws n b L)(hb:0<b)(b1:b<=1000):Wc n L :=
 ⟨λq m=>⟨(h.ok q m).1,(h.ok q m).2.1.ds hb b1 (by decide),(Z5o _).mpr (h.ok q m).2.2⟩,h.up,h.len⟩
theorem Zvh{x:Int}(hx:0<x)(hb:0<b):0<X4 x b:=by
 rw[Vu,Rat.div_def]
 exact Rat.mul_pos (Rat.intCast_pos.mpr hx) (Rat.inv_pos.mpr (Rat.intCast_pos.mpr hb))
theorem Z70{x:Int}(hx:0<=x)(hb:0<b):0<=X4 x b:=by
 rcases Int.lt_or_eq_of_le hx with h|h
 .exact Rat.le_of_lt (Zvh h hb)
 .rw[<-h,Rat.zero_divInt];exact Rat.le_refl
theorem Zz2{n:Nat}(hb:0<b)(b1:b<=1000){L:List (List Int×Rat)}(W:Wc n L):∃M,Told Zao [Zag L,.int b] (Zag M)/\(Ws n b M/\∀q∈M,Sb b 1000000000 q.2):=by
 have f0:∀q:List Int×Rat,0<=q.2.num.fmod 1000000000/\q.2.num.fmod 1000000000<1000000000:=λq=>⟨W6 (by decide),Jk (by decide)⟩
 refine⟨L.map λq=>(q.1,X4 (1+q.2.num.fmod 1000000000) b),Zu rfl<|Z1<|(Zql (t:=Zdx) (cs:=[some (.fz (.int b))]) L ctD (λq=>ctD (q.1,X4 (1+q.2.num.fmod 1000000000) b)) (λ_=>true) (Y6 (Za (i:=0) rfl)) (by have:=W.len;omega) rfl λq hq z0 z1=>⟨some (.fz (Zx q.1)),some (.fz (frD q.2)),rfl,rfl,?_⟩).cast ?_,⟨λq m=>?_,?_,?_⟩,λq m=>?_⟩
 .exact Zhm (Zb (Za (i:=0) rfl) (Zb (Zj (Zb (Zbe Zv (Wo (at0 (i:=1) rfl) (Zk Zv Zv gP9) (by decide))) (Zb (Za (i:=2) rfl) Zf)) (Wu (n:=200) hb (Bt.of_lt (by omega) (by omega)))) Zf)) (QB rfl)
 .rw[List.filter_eq_self.mpr λ_ _=>rfl]
  unfold Zag
  rw[Xr];rfl
 .obtain⟨p,hp,rfl⟩:=Xp.mp m
  have:=f0 p
  exact⟨(W.ok p hp).1,⟨_,rfl,by omega,by omega⟩,Zvh (by omega) hb⟩
 .rw[Xr];exact W.up
 .rw[Xc];exact W.len
 .obtain⟨p,hp,rfl⟩:=Xp.mp m
  have:=f0 p
  exact⟨_,rfl,by omega,by omega⟩
theorem Zma{n:Nat}(hn:n<=10):(Zz n).Nodup:=by
 have h:∀n:Fin 11,(Zz n).Nodup:=by decide +kernel
 exact h ⟨n,by omega⟩
theorem Zy7(xs:List α)(f g:α->Xa):Zmj (xs.map f) (xs.map g)=xs.map λx=>.tuple [f x,g x]:=by
 unfold Zmj
 rw[List.zip_map',Xr];rfl
theorem Z1w[DecidableEq α]:∀(ps:List α) (d:List Rat),ps.Nodup->d.length=ps.length->∃D:α->Rat,d=ps.map D
 | [],[],_,_=>⟨λ_=>0,rfl⟩
 | [],_ :: _,_,h=>nomatch h
 | _ :: _,[],_,h=>nomatch h
 | p :: ps,q :: d,hn,hl=>by
  obtain⟨h1,h2⟩:=Qm.mp hn
  obtain⟨D,hD⟩:=Z1w ps d h2 (Nat.succ.inj hl)
  refine⟨λx=>if x=p then q else D x,?_⟩
  rw[Xv,if_pos rfl,hD]
  refine congrArg (q :: ·) (XN λx hx=>?_)
  exact(if_neg λz:x=p=>h1 (z▸hx)).symm
def tOf(D:Nat×Nat->Rat)(i j:Nat):Rat:=if i<j then D (i,j)else if j<i then D (j,i)else 0
theorem Zvw{n:Nat}(hn:n<=10){d:List Rat}(ld:d.length=(Zz n).length):∃D,d=(Zz n).map D/\Told Jr [.int n,Zjx d] (Jy n (frG (tOf D))):=by
 obtain⟨D,hD⟩:=Z1w (Zz n) d (Zma hn) ld
 refine⟨D,hD,?_⟩
 .have e0:(Yn 1 [0] (iRa (Zd (Zw 0) Z5)) (gNm 0) Zdx (Yn 1 [] (iRa (Zd (Zw 1) Z5)) (gNm 0) Zdx (Zji (Zd (fC (.int 0)) (Zd (fC (.int 1)) Z5))))) [some (.fz (.int n)),some (.fz (Zjx d)),none,none,none,none]=some (Zbi n (λ_ _=>frD 0),[some (.fz (.int n)),some (.fz (Zjx d)),none,none,none,none]) :=
   Zf6 (cs:=[some (.fz (.int n))]) (Xz n) (λi:Nat=>Xl (0+(i:Int))) (λi=>.nd ((Xz n).map λj=>.fz (frD 0))) (Zmd (Zb Za Zf) (by omega)) (by rw[XD,Qc];omega) rfl λi _=>
    Zf6 (cs:=[]) (Xz n) (λi:Nat=>Xl (0+(i:Int))) (λj=>.fz (frD 0)) (Zmd (Zb Za Zf) (by omega)) (by rw[XD,Qc];omega) rfl λj _=>by
     rw[Zlj]
     exact if_pos (e:=none) (show 2<=Xk by rw[Qc];omega)
  have er:Zjx d= .list ((Zz n).map λp=>frD (D p)):=by rw[hD];unfold Zjx;rw[Xr];rfl
  refine Zu rfl<|Zr (Zcl e0)<|Ze2 (ds:=(Zz n).map λp=>.tuple [frD (D p),ptD p]) (λk δ=>∃(f:Nat->Nat->Xa) (z3 z4 z5:Option OT),δ=[some (.fz (.int n)),some (.fz (Zjx d)),some (Zbi n f),z3,z4,z5]/\(∀i,f i i=frD 0)/\∀l p,l<k->(Zz n)[l]? =some p->f p.1 p.2=frD (D p)/\f p.2 p.1=frD (D p)) (Zlx (EvV.cast Za er) (Zj (Zb Za Zf) (Znk n (by omega))) (Zy7 _ _ _)) ⟨_,none,none,none,rfl,λ_=>rfl,λl p hl=>absurd hl (Vo l)⟩ (λk v δ hv q=>?_) λδ' q=>?_
  .obtain⟨f,z3,z4,z5,rfl,h1,h2⟩:=q
   rw[Xj]at hv
   cases e:(Zz n)[k]? with
   | none=>rw[e]at hv;cases hv
   | some p=>
    rw[e]at hv
    cases hv
    obtain⟨m1,m2⟩:=Zb7 (X5 e)
    refine⟨_,_,rfl,.inl (Z2 (Zgd (n:=n) (f:=f) (a:=p.1) (b:=p.2) (d:=frD (D p)) Za rfl Za (by omega) Za (by omega)) (Zgd (n:=n) (a:=p.2) (b:=p.1) (d:=frD (D p)) Za rfl Za (by omega) Za (by omega))),_,_,_,_,rfl,λi=>?_,λl q hl hq=>?_⟩
    .unfold upG
     rw[if_neg (by omega),if_neg (by omega)]
     exact h1 i
    .by_cases c:q=p
     .subst c
      unfold upG
      exact⟨by split<;>(try rfl);rw[if_pos ⟨rfl,rfl⟩],by rw[if_pos ⟨rfl,rfl⟩]⟩
     .have hl':l<k:=by
       rcases Ui l k with z|z
       .exact z
       .have:l=k:=by omega
        subst this
        rw[e]at hq
        cases hq
        exact absurd rfl c
      obtain⟨q1,q2⟩:=Zb7 (X5 hq)
      have ne:¬(q.1=p.1/\q.2=p.2):=λz=>c (Prod.ext z.1 z.2)
      obtain⟨g1,g2⟩:=h2 l q hl' hq
      unfold upG
      rw[if_neg (by omega),if_neg (by omega),if_neg (by omega),if_neg (by omega)]
      exact⟨g1,g2⟩
  .obtain⟨f,z3,z4,z5,rfl,h1,h2⟩:=q
   rw[Xc]at h2
   have eG:Zbi n f=Zbi n (frG (tOf D)):=Zl2 λi j hi hj=>by
    unfold frG tOf
    rcases Vv i j with c|c|c
    .obtain⟨l,hl⟩:=VD (Jm c hj)
     rw[if_pos c]
     exact(h2 l _ (Xi.mp hl).1 hl).1
    .subst c
     rw[if_neg (QC _),if_neg (QC _)]
     exact h1 i
    .obtain⟨l,hl⟩:=VD (Jm c hi)
     rw[if_neg (by omega),if_pos c]
     exact(h2 l _ (Xi.mp hl).1 hl).2
   rw[eG]
   exact Yd4 rfl (Zeo n _)
theorem Z0m{n:Nat}{D:Nat×Nat->Rat}(h:∀p∈Zz n,DsQ (D p)):GT n (tOf D):=by
 refine⟨λi j hi hj=>?_,λi hi=>?_,λi j hi hj=>?_⟩
 .unfold tOf
  rcases Vv i j with c|c|c
  .rw[if_pos c,if_neg (by omega),if_pos c]
  .subst c;rfl
  .rw[if_neg (by omega),if_pos c,if_pos c]
 .unfold tOf
  rw[if_neg (QC _),if_neg (QC _)]
 .unfold tOf
  split
  .rename_i c;exact h _ (Jm c hj)
  .split
   .rename_i c;exact h _ (Jm c hi)
   .exact⟨by decide,by decide +kernel,by decide +kernel⟩
theorem Zn5{ds:List Xa}{x y:Xa}(h:Told F ds x)(k:Told F ds y):x=y:=by
 obtain⟨o,e1,d1⟩:=h
 obtain⟨o',e2,d2⟩:=k
 rw[e1]at e2
 cases e2
 exact d1.symm.trans d2
theorem Z5b{m:Nat}{x y:Xa}(h:Sh m x)(k:Sh m y)(hm:m<=60)(p:Yq x=true)(q:Yq y=true):gEq x y=some (.bool (@decide (x=y) (Bk _))):=by
 unfold gEq
 have s1:JQ x=true:=(h.shp (by omega)).ok
 have s2:JQ y=true:=(k.shp (by omega)).ok
 rw[if_pos (by rw[s1,s2];rfl)]
 refine congrArg (λz=>some (V4 z)) (Bool.eq_iff_iff.mpr ((Zi9 x y p q).trans ?_))
 exact(@decide_eq_true_iff _ (Bk _)).symm
theorem Z1p{x y:Xa}{s t:List Nat}{m:Nat}(hs:Cp s)(ht:Cp t)(h:Sh m x)(k:Sh m y)(hm:m<=60)(p:Yq x=true)(q:Yq y=true)(e:s=t↔x=y):Told Zab [x,y,.list [.str (mkS s),.str (mkS t)]] (.bool true):=by
 refine Zu rfl<|Ze2 (ds:=[.str (mkS s),.str (mkS t)]) (λ_ δ=>∃z,δ=[some (.fz x),some (.fz y),some (.fz (.list [.str (mkS s),.str (mkS t)])),z]) (Y6 (Za (i:=2) rfl)) ⟨none,rfl⟩ (λk d δ hd q=>?_) λδ' q=>?_
 .obtain⟨z,rfl⟩:=q
  obtain⟨w,rfl⟩:∃w,d= .str w:=by
   rcases Xo.mp (X5 hd)with rfl|m
   .exact⟨_,rfl⟩
   .exact⟨_,Xn.mp m⟩
  exact⟨_,_,rfl,.inl (Zn (J0 (p:=true) (W5 (Zbq (Za (i:=3) (d:=.str w) rfl) rfl))) rfl),_,rfl⟩
 .obtain⟨z,rfl⟩:=q
  refine Z1 (Zk (Zk (Wv (Za (i:=2) rfl) Zv rfl) (Wv (Za (i:=2) rfl) Zv rfl) (Zfn hs ht)) (Zk (Za (i:=0) rfl) (Za (i:=1) rfl) (Z5b h k hm p ‹_›)) ?_)
  have:(decide (s=t))= @decide (x=y) (Bk _):=by
   by_cases c:s=t
   .rw[decide_eq_true c];exact(@decide_eq_true _ (Bk _) (e.mp c)).symm
   .rw[decide_eq_false c];exact(@decide_eq_false _ (Bk _) λz=>c (e.mpr z)).symm
  rw[this]
  cases@decide (x=y) (Bk _)<;>rfl
theorem Zwf{n:Nat}(h0:1<=n)(hn:n<=10){L M:List (List Int×Rat)}(hL:Wc n L)(hM:Wc n M):ltx L=ltx M↔Zag L=Zag M:=by
 constructor
 .intro e
  obtain⟨ts,e1,d1,_⟩:=Zdp hn (XC n) h0 hn hL
  obtain⟨us,e2,d2,_⟩:=Zdp hn (XC n) h0 hn hM
  rw[e,e2]at e1
  cases e1
  exact d1.symm.trans d2
 .intro e
  have h:=Zbn (hL.wq hn) hL.len
  rw[e]at h
  have:=Zn5 h (Zbn (hM.wq hn) hM.len)
  injection this with z
  exact Zgt z
theorem Zuz{n:Nat}(h0:1<=n)(hn:n<=10){T U:Nat->Nat->Rat}(hT:GT n T)(hU:GT n U):ttx n T=ttx n U↔Jy n (frG T)=Jy n (frG U):=by
 constructor
 .intro e
  obtain⟨ts,e1,r1⟩:=Zcx h0 hn hT
  obtain⟨us,e2,r2⟩:=Zcx h0 hn hU
  rw[e,e2]at e1
  cases e1
  exact(congrArg Bh r1.data).symm.trans (congrArg Bh r2.data)
 .intro e
  have h:=Wd hn hT
  rw[e]at h
  have:=Zn5 h (Wd hn hU)
  injection this with z
  exact Zgt z
theorem Z5x(q:Rat):Sh 1 (frD q):=Zjl [q.num,(q.den:Int)]
theorem Ybl(n:Nat)(T:Nat->Nat->Rat):Sh 3 (Jy n (frG T)):=Zi8 λd m=>by
 obtain⟨j,_,rfl⟩:=Xp.mp m
 exact Zi8 λd m=>by
  obtain⟨j,_,rfl⟩:=Xp.mp m
  exact Z5x _
theorem Zqj(n:Nat)(T:Nat->Nat->Rat):Yq (Jy n (frG T))=true:=Zej λd m=>by
 obtain⟨j,_,rfl⟩:=Xp.mp m
 exact Zej λd m=>by
  obtain⟨j,_,rfl⟩:=Xp.mp m
  unfold frG frD;rfl
theorem Zzv(L:List (List Int×Rat)):gNe (Zag L) (.list [])=some (.bool (!decide (L=[]))):=by
 have s:JQ (Zag L)=true:=((Zw0 L).shp).ok
 unfold gNe
 rw[if_pos (by rw[s];rfl)]
 cases L with
 | nil=>rfl
 | cons q r=>rfl
theorem Zqm:∀ds:List Xa,Zp1 (ds.map OT.fz)=true
 | []=>rfl
 | d :: ds=>by rw[Xv,Zp1];exact Zqm ds
theorem Z6a{e:FE}{ds:List Xa}(h:e δ=some (.nd (ds.map OT.fz),δ')):Zs7 e δ=some (.nd (ds.map OT.fz),δ'):=by
 unfold Zs7
 rw[h,Xf]
 dsimp only
 rw[datas_map,OT.map_fz]
theorem Z9i{k:Nat}{b:FE}{L:List (List Int×Rat)}(h:δ[i]? =some (some (Zsv L)))(hb:EvV b δ (.int (k:Int)))(hk:k<L.length):EvV (Ydb i b) δ (ctD L[k]):=by
 obtain⟨t,e,d⟩:=hb
 refine⟨.fz (ctD L[k]),?_,OT.data_fz _⟩
 unfold Ydb
 rw[h,show Ycs (some (some (Zsv L)))=some ((L.map ctD).map OT.fz)from if_pos (Zqm _),Xf,e,Xf]
 dsimp only
 rw[d,datas_map,OT.map_fz]
 dsimp only
 rw[Znd,Xj,Xx hk];rfl
def lw(ns:List Int)(n:Nat)(vs:List Int)(L:List (List Int×Rat))(z4 z5 z6 z7 z8 z9 z10 z11:Option OT):Zg:=[some (.fz (Zx ns)),some (.fz (.int n)),some (.fz (Zx vs)),some (.fz (Zag L)),z4,z5,z6,z7,z8,z9,z10,z11]
theorem Zx8(ns:List Int)(hl:ns.length<=63):Zg7 [.list (ns.map Xl)]= .ok (.fz (.bool true)):=by
 show Zg7 [Zx ns]=_
 obtain⟨c0,e0⟩:=Zkw ns (k:=0) (by decide)
 obtain⟨c1,e1⟩:=Zkw ns (k:=1) (by decide)
 have a0:=W6 (i:=c0) (j:=9) (by decide)
 have a1:=Jk (i:=c0) (j:=9) (by decide)
 obtain⟨n,en⟩:=Vj (show 0<=2+c0.fmod 9 by omega)
 have h2:2<=n:=by omega
 have h0:1<=n:=by omega
 have hn:n<=10:=by omega
 obtain⟨vs,eV,lV,hV⟩:=Zs1 c1 4 (by decide) (top:=1000000) (by decide) (by decide)
 obtain⟨v0,v1,v2,v3,rfl⟩:∃v0 v1 v2 v3,vs=[v0,v1,v2,v3]:=by
  match vs,lV with
  | [v0,v1,v2,v3],_=>exact⟨v0,v1,v2,v3,rfl⟩
 have b0:=W6 (i:=v3) (j:=1000) (by decide)
 have b1:=Jk (i:=v3) (j:=1000) (by decide)
 have m0:=W6 (i:=v0) (j:=4) (by decide)
 have m1:=Jk (i:=v0) (j:=4) (by decide)
 obtain⟨b,eb⟩:∃b,b=1+v3.fmod 1000:=⟨_,rfl⟩
 obtain⟨a,ea⟩:∃a,a=v0.fmod 4:=⟨_,rfl⟩
 have hb:0<b:=by omega
 have hb1:b<=1000:=by omega
 have B:=Z7k hb hb1
 obtain⟨L0,eL,W0⟩:=Zms h0 hn (Z6l ns (some 2) (some 14)) (Qa (Zzd ns 2 12) (by decide))
 obtain⟨L,eS,W,wS⟩:=Zz2 hb hb1 W0
 have ba:Bt 50 a:=Bt.of_lt (by omega) (by omega)
 have bb:Bt 50 b:=Bt.of_lt (by omega) (by omega)
 have sa:Sb b 3 (X4 a b):=⟨a,rfl,by omega,by omega⟩
 have qL:∀p∈L,Qv b 101 p.2:=λp hp=>(W.ok p hp).2.1.qv (by decide)
 have eB:∀{δ:Zg},δ[2]? =some (some (.fz (Zx [v0,v1,v2,v3])))->EvV Yeg δ (.int b):=λh=>(Zbe Zv (Wo (Wv (Za h) Zv (d:=.int v3) rfl) Zv (by decide))).cast (congrArg Xl eb.symm)
 have cm:Zs7 Yjn (lw ns n [v0,v1,v2,v3] L none none none none none none none none)=some (Zsv L,lw ns n [v0,v1,v2,v3] L none none none none none none none none):=by
  refine Z6a (ds:=L.map ctD) ?_
  refine(Z62 (cs:=[]) L (λq=>Zx q.1) (λq=>frD q.2) (λ_=>true) (λq=>.fz (ctD q)) (Y6 (Za (i:=3) rfl)) (by have:=W.len;omega) rfl (λ_ _ _ _=>rfl) (λ_ _=>rfl) λq hq _=>?_).trans ?_
  .obtain⟨ts,e1,e2⟩:EvA (Zd (fBl Znn Zdg) Zli) [some (.fz (Zx q.1)),some (.fz (frD q.2))] [Zx q.1,frD q.2]:=Zb (Zsg (Zb (Za (i:=0) rfl) Zf) (Zto _) ((OT.data_nd _).trans (congrArg Bh (OT.map_fz _)))) (Zb (Za (i:=1) rfl) Zf)
   have lt:ts.length=2:=by rw[<-Zbb,e2];rfl
   rw[Zlj,e1,Xf,if_pos (show ts.length<=Xk by rw[Qc,lt];decide),e2];rfl
  .rw[List.filter_eq_self.mpr λ_ _=>rfl]
   rw[Xr];rfl
 have ch:∃M z6 z7,Jd Yga
  Yha
  fNx (lw ns n [v0,v1,v2,v3] L (some (Zsv L)) (some (.fz (.tuple [.int a,.int b]))) none none none none none none)= .nx (lw ns n [v0,v1,v2,v3] L (some (Zsv M)) (some (.fz (.tuple [.int a,.int b]))) z6 z7 none none none none)/\Ws n b M:=by
  have tN:EvT Yga (lw ns n [v0,v1,v2,v3] L (some (Zsv L)) (some (.fz (.tuple [.int a,.int b]))) none none none none none none) (!decide (L=[])):=J4 (Zk (Zdu (i:=4) rfl (Zi0 L)) (Zn2 Zf (by decide)) (Zzv L))
  by_cases c:L=[]
  .rw[decide_eq_true c]at tN
   exact⟨L,_,_,Zn tN rfl,W⟩
  .rw[decide_eq_false c]at tN
   have pos:=VR.mpr c
   have k0:=W6 (i:=v1) (j:=(L.length:Int)) (by omega)
   have k1:=Jk (i:=v1) (j:=(L.length:Int)) (by omega)
   obtain⟨k,ek⟩:=Vj k0
   have hk:k<L.length:=by omega
   have ix:∀{δ:Zg},δ[2]? =some (some (.fz (Zx [v0,v1,v2,v3])))->δ[4]? =some (some (Zsv L))->EvV Ydv δ (.int (k:Int)):=λh h'=>
    (Wo (Wv (Za h) Zv (d:=.int v1) rfl) ((Zez (ds:=L.map ctD) (Zdu h' (Zi0 L))).cast (by rw[Xc])) (by omega)).cast (congrArg Xl ek)
   obtain⟨w1,w2,w3⟩:=W.ok L[k] (Q5 hk)
   have lo:((L.map ctD).map OT.fz).length=L.length:=by rw[Xc,Xc]
   have ix0:=ix (δ:=lw ns n [v0,v1,v2,v3] L (some (Zsv L)) (some (.fz (.tuple [.int a,.int b]))) none none none none none none) rfl rfl
   have ix1:=ix (δ:=lw ns n [v0,v1,v2,v3] L (some (Zsv L)) (some (.fz (.tuple [.int a,.int b]))) (some (.fz (Zx L[k].1))) (some (.fz (frD L[k].2))) none none none none) rfl rfl
   refine⟨L.set k (L[k].1,L[k].2+X4 a b),some (.fz (Zx L[k].1)),some (.fz (frD L[k].2)),Zdv tN (Z2 (Ya4 (d:=ctD L[k]) (Z9i rfl ix0 hk) rfl) ((Z07 (n:=k) (ts:=(L.map ctD).map OT.fz) (k:=k) (d:=ctD (L[k].1,L[k].2+X4 a b)) (Zhm (Zb (Za (i:=6) rfl) (Zb (Zj (Zb (Za (i:=7) rfl) (Zb (Za (i:=5) rfl) Zf)) (Zrj ((w2.qv (by decide)).qb B (by decide)) ba bb hb (by decide))) Zf)) (QB rfl)) rfl ix1 (by rw[lo];exact Zro hk)).trans ?_)),⟨λq m=>?_,?_,by rw[JZ];exact W.len⟩⟩
   .refine congrArg (λz=>RS.nx (lw ns n [v0,v1,v2,v3] L (some (.nd z)) (some (.fz (.tuple [.int a,.int b]))) (some (.fz (Zx L[k].1))) (some (.fz (frD L[k].2))) none none none none)) ?_
    rw[List.map_set,List.map_set]
   .rcases List.mem_or_eq_of_mem_set m with m|rfl
    .exact W.ok q m
    .exact⟨w1,((wS _ (Q5 hk)).add sa).up (by decide),by
      have:=Rat.add_le_add_left (c:=L[k].2)|>.mpr (Z70 (x:=a) (by omega) hb)
      rw[Rat.add_zero]at this
      grind⟩
   .rw[show(L.set k (L[k].1,L[k].2+X4 a b)).map BW=L.map BW from List.ext_getElem (by rw[Xc,Xc,JZ]) λi h1 h2=>by
     rw[List.getElem_map,List.getElem_map,List.getElem_set]
     split
     .rename_i z;subst z;rfl
     .rfl]
    exact W.up
 obtain⟨M,z6,z7,eM,WM⟩:=ch
 have cL:=W.wc hb hb1
 have cM:=WM.wc hb hb1
 have sL:∀{δ:Zg},δ[3]? =some (some (.fz (Zag L)))->EvV (Zo Yj Z45) δ (.str (mkS (ltx L))):=λh=>Zj (Zb (Za h) Zf) (Zbn (cL.wq hn) cL.len)
 have sM:∀{δ:Zg},δ[4]? =some (some (.fz (Zag M)))->EvV (Zo Yj Z6u) δ (.str (mkS (ltx M))):=λh=>Zj (Zb (Za h) Zf) (Zbn (cM.wq hn) cM.len)
 obtain⟨ts,eR,dR,_,_⟩:=Zdp hn (XC n) h0 hn cM
 have lp:0<(smL n L).length:=by
  unfold smL
  rw[Xc]
  exact List.length_pos_of_mem (Jm (i:=0) (j:=1) (by decide) (by omega))
 have k0:=W6 (i:=v2) (j:=((smL n L).length:Int)) (by omega)
 have k1:=Jk (i:=v2) (j:=((smL n L).length:Int)) (by omega)
 obtain⟨k,ek⟩:=Vj k0
 have hk:k<(smL n L).length:=by omega
 have sS:∀q∈smL n L,Sb b 64000000192 q:=λq hq=>by
  obtain⟨p,_,rfl⟩:=Xp.mp hq
  exact Ydr (λp hp=>(W.ok p hp).2.1) W.len p.1 p.2
 have sO:∀q∈(smL n L).set k ((smL n L)[k]+X4 a b),Sb b 64000000195 q:=λq hq=>by
  rcases List.mem_or_eq_of_mem_set hq with m|rfl
  .exact(sS q m).up (by decide)
  .exact(sS _ (Q5 hk)).add sa
 obtain⟨D,hD,eD⟩:=Zvw hn (d:=smL n L) (Xc ..)
 obtain⟨E,hE,eE⟩:=Zvw hn (d:=(smL n L).set k ((smL n L)[k]+X4 a b)) (by rw[JZ];exact Xc ..)
 have gD:GT n (tOf D):=Z0m λp hp=>(sS _ (by rw[hD];exact Xp.mpr ⟨p,hp,rfl⟩)).ds hb hb1 (by decide)
 have gE:GT n (tOf E):=Z0m λp hp=>(sO _ (by rw[hE];exact Xp.mpr ⟨p,hp,rfl⟩)).ds hb hb1 (by decide)
 obtain⟨rows,eT,R⟩:=Zcx h0 hn gE
 have iO:∀{δ:Zg},δ[2]? =some (some (.fz (Zx [v0,v1,v2,v3])))->δ[9]? =some (some (Zn1 (smL n L)))->EvV Ye8 δ (.int (k:Int)):=λh h'=>
  (Wo (Wv (Za h) Zv (d:=.int v2) rfl) ((Zez (ds:=(smL n L).map frD) (Zdu h' (Zfv _))).cast (by rw[Xc])) (by omega)).cast (congrArg Xl ek)
 have eTab:Jy n (Zm6 (Ziv L))=Jy n (frG (tOf D)):=by
  rw[<-Zeo,<-Zeo,Zl2 λi j hi hj=>?_]
  have f:∀i j,i<j->j<n->Sm L i j=D (i,j):=λi j h1 h2=>by
   have:=List.map_inj_left.mp (show(Zz n).map (λp=>Sm L p.1 p.2)=(Zz n).map D from hD) (i,j) (Jm h1 h2)
   exact this
  unfold Zm6 Ziv frG tOf
  rcases Vv i j with c|c|c
  .rw[if_pos c,if_pos c];dsimp only;rw[f i j c hj]
  .subst c;rw[if_neg (QC _),if_neg (QC _),if_neg (QC _),if_neg (QC _)];rfl
  .rw[if_neg (by omega),if_pos c,if_neg (by omega),if_pos c];dsimp only;rw[f j i c hi]
 have eOf:Told Wm [.int n,Zag L] (Jy n (frG (tOf D))):=.of (Zou hn L W.len (B:=b) hb (bb.mono (by decide)) λp hp=>⟨(qL p hp).dvd B,(((qL p hp).qb B (by decide)).up (by decide)).1⟩) ((Zeo _ _).trans eTab)
 have cpT:=Z1u gD
 refine Told.ok (Zu rfl<|Zr (Z8 ((Zbe Zv (Wo (Zuc (i:=0) rfl e0) Zv (by decide))).cast (congrArg Xl en)))<|
  Zr (Z8 (Zj (Zb (Zuc (i:=0) rfl e1) (Zb Zv (Zb (Zk Zv Zv (show Znz (.int 10) (.int 6)=some (.int 1000000)from rfl)) Zf))) eV))<|
  Zr (Z8 (Zj (Zb (Zj (Zb (Za (i:=1) rfl) (Zb (Yej (Za (i:=0) rfl) (Yeo Zv) (Yeo Zv) rfl) Zf)) eL) (Zb (eB rfl) Zf)) eS))<|
  Zr (Zcl cm)<|
  Zr (Z8 (d:=.tuple [.int a,.int b]) (Zhm (Zb ((Wo (Wv (Za (i:=2) rfl) Zv (d:=.int v0) rfl) Zv (by decide)).cast (congrArg Xl ea.symm)) (Zb (eB rfl) Zf)) (QB rfl)))<|
  Zr eM<|
  Zr (δ':=lw ns n [v0,v1,v2,v3] L (some (.fz (Zag M))) (some (.fz (.tuple [.int a,.int b]))) z6 z7 none none none none) (Zf5 (o:=Zsv M) rfl ?_)<|
  Zr (Zn (J0 (p:=true) (W5 (Zj (Zb (Zj (Zb (Za (i:=1) rfl) (Zb (sM rfl) Zf)) (.of eR dR)) (Zb (Za (i:=4) rfl) Zf)) (Zui M)))) rfl)<|
  Zr (Z8 (Zj (Zb (Za (i:=1) rfl) (Zb (Za (i:=3) rfl) Zf)) (.of (Z4p hn B W.len qL) (Zfv _))))<|
  Zr (δ':=lw ns n [v0,v1,v2,v3] L (some (.fz (Zag M))) (some (.fz (.tuple [.int a,.int b]))) z6 z7 (some (.fz (Zjx (smL n L)))) (some (Zn1 (smL n L))) none none) ?_<|
  Zr (δ':=lw ns n [v0,v1,v2,v3] L (some (.fz (Zag M))) (some (.fz (.tuple [.int a,.int b]))) z6 z7 (some (.fz (Zjx (smL n L)))) (some (Zn1 ((smL n L).set k ((smL n L)[k]+X4 a b)))) none none) ?_<|
  Zr (Z8 (Zj (Zb (Za (i:=1) rfl) (Zb (Za (i:=8) rfl) Zf)) eD))<|
  Zr (δ':=lw ns n [v0,v1,v2,v3] L (some (.fz (Zag M))) (some (.fz (.tuple [.int a,.int b]))) z6 z7 (some (.fz (Zjx (smL n L)))) (some (.fz (Zjx ((smL n L).set k ((smL n L)[k]+X4 a b))))) (some (.fz (Jy n (frG (tOf D))))) (some (.fz (Jy n (frG (tOf E)))))) (Zf5 (o:=Zn1 ((smL n L).set k ((smL n L)[k]+X4 a b))) rfl ?_)<|
  Zr (Zn (J0 (p:=true) (W5 (Zj (Zb (Za (i:=10) rfl) (Zb (Za (i:=11) rfl) (Zb (Zn2 (Zb (Zj (Zb (Za (i:=10) rfl) Zf) (Wd hn gD)) (Zb (Zj (Zb (Za (i:=11) rfl) Zf) (Wd hn gE)) Zf)) (QB rfl)) Zf))) (Z1p cpT (Z1u gE) (Ybl n _) (Ybl n _) (by decide) (Zqj n _) (Zqj n _) (Zuz h0 hn gD gE))))) rfl)<|
  Zr (Zn (J0 (p:=true) (W5 (Zj (Zb (Zj (Zb (Zj (Zb (Za (i:=11) rfl) Zf) (Wd hn gE)) Zf) (.of eT ((OT.data_nd _).trans (congrArg Bh R.data)))) (Zb (Za (i:=11) rfl) Zf)) (Zth n (tOf E))))) rfl)<|
  Z1 (Zk (Zj (Zb (Zj (Zb (Za (i:=1) rfl) (Zb (Za (i:=3) rfl) Zf)) eOf) Zf) (Wd hn gD)) (Zj (Zb (Za (i:=10) rfl) Zf) (Wd hn gD)) ((Zfn cpT cpT).trans (by rw[decide_eq_true rfl]))))
 .rw[Zi0]
  exact Zn (J0 (p:=true) (W5 (Zj (Zb (Za (i:=3) rfl) (Zb (Za (i:=4) rfl) (Zb (Zn2 (Zb (sL rfl) (Zb (sM rfl) Zf)) (QB rfl)) Zf))) (Z1p (Zkp (cL.wq hn)) (Zkp (cM.wq hn)) (Zw0 L) (Zw0 M) (by decide) (Zmv L) (Zmv M) (Zwf h0 hn cL cM))))) rfl
 .refine Zcl ?_
  obtain⟨us,e1,d1⟩:EvA (Zd (Zw 8) Z5) (lw ns n [v0,v1,v2,v3] L (some (.fz (Zag M))) (some (.fz (.tuple [.int a,.int b]))) z6 z7 (some (.fz (Zjx (smL n L)))) none none none) [Zjx (smL n L)]:=Zb (Za (i:=8) rfl) Zf
  refine Eq.trans (by rw[Z0o]) (show(Option.bind _ _)=_ from ?_)
  exact(congrArg (λz=>Option.bind z _) e1).trans (by rw[Xf,d1];unfold Zjx Zn1;rw[Zto,Xr];rfl)
 .have lo:((smL n L).map λq=>OT.fz (frD q)).length=(smL n L).length:=Xc ..
  refine(Z07 (n:=k) (ts:=(smL n L).map λq=>OT.fz (frD q)) (k:=k) (d:=frD ((smL n L)[k]+X4 a b)) (Z5l (Zj (Zb (Z0x (Zdu (i:=9) rfl (Zfv _)) (iO rfl rfl) (by rw[Znd,Xj,Xx hk];rfl)) (Zb (Za (i:=5) rfl) Zf)) (Zrj (((sS _ (Q5 hk)).qv (by decide)).qb B (by decide)) ba bb hb (by decide))) rfl) rfl (iO rfl rfl) (by rw[lo];exact Zro hk)).trans ?_
  refine congrArg (λz=>RS.nx (lw ns n [v0,v1,v2,v3] L (some (.fz (Zag M))) (some (.fz (.tuple [.int a,.int b]))) z6 z7 (some (.fz (Zjx (smL n L)))) (some (.nd z)) none none)) ?_
  rw[List.map_set]
 .rw[Zfv]
  exact Z8 (Zj (Zb (Za (i:=1) rfl) (Zb (Za (i:=9) rfl) Zf)) eE)
end My
namespace L2
open PySem PySem.Spec PyProof.Rows
structure Ei(K:Xb)(x:Str)(st:Stmt)(f:Addr)(fd:XF):Prop where
 a:Qx K Qd x=some (some (.ref f))
 F:Fun K x x st f fd
structure En(K:Xb)(mg:Str->Option Xe)(x:Str)(st:Stmt)(ps:List Str)(f:Addr)(fd:XF):Prop where
 F:Fun K x x st f fd
 b:Binds K fd ps []
 m:mg x=some (.ref f)
structure Ec(K:Xb)(mg:Str->Option Xe)(x:Str)(f:Addr):Prop where
 m:mg x=some (.ref f)
 a:ClsAt K x f
section
variable {f:Addr}{fd:XF}
theorem en0(X:K.In h)(G:h.Ns Qd mg)(q:Ei K x st f fd)(hb:∀(kV doc pm:Xe) (an:Option Addr) (cdv ct:Xe) (us:List Xe),us.length=ps.length->bindArgs (Vx x x (Zgr st) (Zcf st) (Zi st) .none kV doc pm an cdv ct) ⟨us,[]⟩=pure (ps.zip us)):En K mg x st ps f fd:=⟨q.F,q.F.binds hb,VM X G q.a⟩
abbrev Bd(x:Str)(st:Stmt)(ps:List Str)(us:List Xe):Prop:=∀(kV doc pm:Xe) (an:Option Addr) (cdv ct:Xe),bindArgs (Vx x x (Zgr st) (Zcf st) (Zi st) .none kV doc pm an cdv ct) ⟨us,[]⟩=pure (ps.zip us)
theorem l_c{n:Nat}(h:us.length=n+1):∃u vs,us=u :: vs/\vs.length=n:=by
 cases us with
 | nil=>cases h
 | cons u vs=>exact⟨u,vs,rfl,Nat.succ.inj h⟩
theorem en1(X:K.In h)(G:h.Ns Qd mg)(q:Ei K x st f fd){p0:Str}(hb:∀v0,Bd x st [p0] [v0]:=by exact λ_ _ _ _ _ _ _=>rfl):En K mg x st [p0] f fd:=en0 X G q λa b c d e g us hl=>by
 have h0:us.length=1:=hl
 obtain⟨u0,us0,e0,h1⟩:=l_c h0
 cases Uu h1
 subst e0
 exact hb u0 a b c d e g
theorem en2(X:K.In h)(G:h.Ns Qd mg)(q:Ei K x st f fd){p0 p1:Str}(hb:∀v0 v1,Bd x st [p0,p1] [v0,v1]:=by exact λ_ _ _ _ _ _ _ _=>rfl):En K mg x st [p0,p1] f fd:=en0 X G q λa b c d e g us hl=>by
 have h0:us.length=2:=hl
 obtain⟨u0,us0,e0,h1⟩:=l_c h0
 obtain⟨u1,us1,e1,h2⟩:=l_c h1
 cases Uu h2
 subst e1
 subst e0
 exact hb u0 u1 a b c d e g
theorem en3(X:K.In h)(G:h.Ns Qd mg)(q:Ei K x st f fd){p0 p1 p2:Str}(hb:∀v0 v1 v2,Bd x st [p0,p1,p2] [v0,v1,v2]:=by exact λ_ _ _ _ _ _ _ _ _=>rfl):En K mg x st [p0,p1,p2] f fd:=en0 X G q λa b c d e g us hl=>by
 have h0:us.length=3:=hl
 obtain⟨u0,us0,e0,h1⟩:=l_c h0
 obtain⟨u1,us1,e1,h2⟩:=l_c h1
 obtain⟨u2,us2,e2,h3⟩:=l_c h2
 cases Uu h3
 subst e2
 subst e1
 subst e0
 exact hb u0 u1 u2 a b c d e g
theorem ec(X:K.In h)(G:h.Ns Qd mg)(a:Qx K Qd x=some (some (.ref f))):Ec K mg x f:=⟨VM X G a,a⟩
end
theorem fsc{P:List Str}{sc:Ud}(h1:sc.kind= .function:=by rfl)(h2:sc.isCoroutine=false:=by rfl)(h3:sc.isGenerator=false:=by rfl)(h4:N.Nodup:=by decide +kernel)(h5:N.take P.length=P:=by rfl)(h6:∀x∈P,sc.names.lookup x=some .local\/sc.names.lookup x=some .cell:=by decide +kernel)(h7:∀y∈sc.names,y.2≠ .free:=by decide +kernel):Zm N P sc:=⟨h1,h2,h3,h4,h5,h6,h7⟩
section
variable {f g:FS}{ta:FT}{pos:Pos}
abbrev BS(X:Cx)(io:List Nat)(st:Stmt)(f:FS):Prop:=MS X io st (oS f)/\XS X io st (xS X.K f)
abbrev BSs(X:Cx)(io:List Nat)(sts:List Stmt)(f:FS):Prop:=MSs X io sts (oS f)/\XSs X io sts (xS X.K f)
end
section
variable {pos:Pos}{k k':Nat}{f:Addr}{fd:XF}
theorem xce(G:FnOk X.prog X.w X.K X.mg X.base CX0 k f fd ps (spD X.K (sD F)))(hr:Room k' X.A)(E:En X.K X.mg x st ps f fd)(ha:MA X io p c (e :: es) (o2 ra))(hle:k<=k':=by decide)(hg:Gl X x:=by rfl)(h1:(x==("__debug__" : Str))=false:=by decide)(h2:Xw (e :: es) X.env=(false,eval e X.env) :: Xw es X.env:=by rfl)(h3:((Bg pos (Xw es X.env)).any λx=>x.fst)=false:=by rfl):ME X io p c (.Call (.Name x pp) (e :: es) [] pos) (o2 (Zo F ra)):=xcl G (hr.mono hle) E.m E.F.kp E.b ha hg h1 h2 h3
end
section
variable {pt:Bool}{sc:Ud}{pos:Pos}{g:MGt}{mt:MTt}{me:MEt}
theorem Zhi(own:List Str)(caps:List Nat)(N':List Str)(hi:MI X io p ci tg iter mi)
  (hg:∀C cells s₂ H₂ fp,MG (Y4 X N' sc C cells s₂ H₂ fp) (Zac own.length caps) ci tg g) (ht:∀C cells s₂ H₂ fp,MIfs (Y4 X N' sc C cells s₂ H₂ fp) (Zac own.length caps) pt ifs mt) (he:∀C cells s₂ H₂ fp,ME (Y4 X N' sc C cells s₂ H₂ fp) (Zac own.length caps) pe true elt me)
  (S:CompScope X own caps N' sc:=by exact⟨rfl,by decide +kernel,rfl,by decide +kernel,rfl,rfl⟩) (hc:X.calm=true:=by rfl) (nd:caps.Nodup:=by decide) (hp:(pt&&pe)=true:=by rfl) (hs:∀x,Ba iter X.env x=pure x:=by intro _;rfl):ME X io p true (.ListComp elt [⟨tg,iter,ifs,0⟩] sc pos) (Zg5 own.length caps mi g mt me):=Z81 S hc nd hi hg ht he hp hs
end
end L2
namespace My
open PySem L2 PySem.Spec
def top(i:Nat):Stmt:=PySem.Challenge.pw_farcuts_k82_whole_texts_tell_apart.main.body.getD i (.Pass ⟨0,0,0,0⟩)
abbrev Zfg:Stmt:=top 50
abbrev Zfh:Stmt:=top 57
abbrev Zck:Stmt:=top 48
abbrev Zec:Stmt:=top 49
abbrev Zdm:Stmt:=top 51
abbrev Zbw:Stmt:=top 52
abbrev Zhk:Stmt:=top 58
abbrev Ze9:Stmt:=top 53
abbrev Zg8:Stmt:=top 55
abbrev Zfm:Stmt:=top 60
abbrev Zha:Stmt:=top 54
abbrev Za5:Stmt:=top 56
abbrev Zgp:Stmt:=top 59
abbrev Zis:Stmt:=top 61
abbrev Zdi:Stmt:=top 42
abbrev Zaj:Stmt:=top 13
abbrev Zfd:Stmt:=top 20
abbrev Zgw:Stmt:=top 5
abbrev Zmc:Stmt:=top 21
abbrev Ju:Stmt:=top 6
abbrev Zcp:Stmt:=top 7
abbrev J7:Stmt:=top 22
abbrev Zcm:Stmt:=top 23
abbrev Zfl:Stmt:=top 39
abbrev Zcn:Stmt:=top 40
abbrev Zaz:Stmt:=top 10
abbrev Zbf:Stmt:=top 41
abbrev Za3:Stmt:=top 44
abbrev Jh:Stmt:=top 45
abbrev Zfa:Stmt:=top 46
abbrev W4:Stmt:=top 30
abbrev Zci:Stmt:=top 28
abbrev Zlo:Stmt:=top 29
abbrev Zgs:Stmt:=top 31
abbrev Zdz:Stmt:=top 43
abbrev Zhh:Stmt:=top 37
abbrev Zfe:Stmt:=top 38
abbrev Zd3:Stmt:=top 36
abbrev Zgm:Stmt:=top 24
abbrev Zfq:Stmt:=top 25
abbrev Zhg:Stmt:=top 8
abbrev Zgz:Stmt:=top 9
abbrev Zgu:Stmt:=top 14
abbrev Zbd:Stmt:=top 17
abbrev Zak:Stmt:=top 15
abbrev Zfb:Stmt:=top 18
abbrev Zg6:Stmt:=top 26
abbrev Z5h:Stmt:=top 62
set_option genInjectivity false in
set_option genSizeOfSpec false in
structure Txt(K:Xb)(mg:Str->Option Xe)(f:Nat->Addr)(fd:Nat->XF)(cls:Nat->Addr):Prop where
 e_law_whole:En K mg "_law_whole" Zfg ["found"] (f 0) (fd 0)
 e_law_alike:En K mg "_law_alike" Zfh ["found","due"] (f 1) (fd 1)
 e_law_cell_at:En K mg "_law_cell_at" Zck ["script","k"] (f 2) (fd 2)
 e_law_digits:En K mg "_law_digits" Zec ["cell","many","top"] (f 3) (fd 3)
 e_law_common:En K mg "_law_common" Zdm ["one","other"] (f 4) (fd 4)
 e_law_fraction:En K mg "_law_fraction" Zbw ["top","bottom"] (f 5) (fd 5)
 e_law_plus:En K mg "_law_plus" Zhk ["q","r"] (f 6) (fd 6)
 e_law_pairs:En K mg "_law_pairs" Ze9 ["n"] (f 7) (fd 7)
 e_law_rows:En K mg "_law_rows" Zg8 ["n","distances"] (f 8) (fd 8)
 e_law_small:En K mg "_law_small" Zfm ["weighted","by"] (f 9) (fd 9)
 e_law_wide:En K mg "_law_wide" Zha ["number"] (f 10) (fd 10)
 e_law_some_cuts:En K mg "_law_some_cuts" Za5 ["n","cells"] (f 11) (fd 11)
 e_law_sums:En K mg "_law_sums" Zgp ["n","weighted"] (f 12) (fd 12)
 e_law_two:En K mg "_law_two" Zis ["one","other","texts"] (f 13) (fd 13)
 e_check_text:En K mg "check_text" Zdi ["text"] (f 14) (fd 14)
 e_is_point_count:En K mg "is_point_count" Zaj ["n"] (f 15) (fd 15)
 e_is_rising:En K mg "is_rising" Zfd ["things"] (f 16) (fd 16)
 e_is_whole:En K mg "is_whole" Zgw ["thing"] (f 17) (fd 17)
 e_is_cut:En K mg "is_cut" Zmc ["n","thing"] (f 18) (fd 18)
 e_greatest_divisor:En K mg "greatest_divisor" Ju ["a","b"] (f 19) (fd 19)
 e_is_fraction:En K mg "is_fraction" Zcp ["thing"] (f 20) (fd 20)
 e_is_weighted_cut:En K mg "is_weighted_cut" J7 ["n","thing"] (f 21) (fd 21)
 e_is_weighted:En K mg "is_weighted" Zcm ["n","thing"] (f 22) (fd 22)
 e_is_number:En K mg "is_number" Zfl ["word"] (f 23) (fd 23)
 e_read_number:En K mg "read_number" Zcn ["word"] (f 24) (fd 24)
 e_show_fraction:En K mg "show_fraction" Zaz ["q"] (f 25) (fd 25)
 e_read_fraction:En K mg "read_fraction" Zbf ["word"] (f 26) (fd 26)
 e_read_weighted:En K mg "read_weighted" Za3 ["text"] (f 27) (fd 27)
 e_read_all_weighted:En K mg "read_all_weighted" Jh ["text"] (f 28) (fd 28)
 e_read_cuts:En K mg "read_cuts" Zfa ["n","text"] (f 29) (fd 29)
 e_is_alike_both_ways:En K mg "is_alike_both_ways" W4 ["rows"] (f 30) (fd 30)
 e_is_distance:En K mg "is_distance" Zci ["thing"] (f 31) (fd 31)
 e_is_row:En K mg "is_row" Zlo ["thing","n"] (f 32) (fd 32)
 e_is_table:En K mg "is_table" Zgs ["thing"] (f 33) (fd 33)
 e_read_table:En K mg "read_table" Zdz ["text"] (f 34) (fd 34)
 e_show_cut:En K mg "show_cut" Zhh ["cut"] (f 35) (fd 35)
 e_show_cuts:En K mg "show_cuts" Zfe ["cuts"] (f 36) (fd 36)
 e_show_table:En K mg "show_table" Zd3 ["table"] (f 37) (fd 37)
 e_sides_of:En K mg "sides_of" Zgm ["n","cut"] (f 38) (fd 38)
 e_all_sides:En K mg "all_sides" Zfq ["n","cuts"] (f 39) (fd 39)
 e_in_least:En K mg "in_least" Zhg ["top","bottom"] (f 40) (fd 40)
 e_fraction:En K mg "fraction" Zgz ["top","bottom"] (f 41) (fd 41)
 e_pairs_of:En K mg "pairs_of" Zgu ["n"] (f 42) (fd 42)
 e_shared_bottom:En K mg "shared_bottom" Zbd ["numbers"] (f 43) (fd 43)
 e_table_of_pairs:En K mg "table_of_pairs" Zak ["n","distances"] (f 44) (fd 44)
 e_tops_over:En K mg "tops_over" Zfb ["bottom","numbers"] (f 45) (fd 45)
 e_table_of:En K mg "table_of" Zg6 ["n","cuts"] (f 46) (fd 46)
 e_law:En K mg "law" Z5h ["script"] (f 47) (fd 47)
 g_FIGURES:∃t,mg "FIGURES"=some (.str "0123456789" t)
 g_MOST_FIGURES:∃t,mg "MOST_FIGURES"=some (.int 40 t)
 g_MOST_POINTS:∃t,mg "MOST_POINTS"=some (.int 10 t)
 g_NO_CUTS:∃t,mg "NO_CUTS"=some (.str "none" t)
 z_abs:mg "abs"=none
 z_bool:mg "bool"=none
 z_int:mg "int"=none
 z_isinstance:mg "isinstance"=none
 z_len:mg "len"=none
 z_list:mg "list"=none
 z_range:mg "range"=none
 z_sorted:mg "sorted"=none
 z_str:mg "str"=none
 z_sum:mg "sum"=none
 z_tuple:mg "tuple"=none
 z_zip:mg "zip"=none
 c_NoNumber:Ec K mg "NoNumber" (cls 0)
 c_NoText:Ec K mg "NoText" (cls 1)
 x_NoNumber:Zhc K (cls 0)
 x_NoText:Zhc K (cls 1)
 r_NoNumber:Z0b K (cls 0)
 r_NoText:Z0b K (cls 1)
end My
variable {D:List (List Int×Rat)}{f cls:Nat->Addr}{fd:Nat->XF}{p0:Str}
namespace My
open PySem L2 PySem.Spec
section
variable {base:Heap}
theorem Znh:Zm ["found"] ["found"] (Zi Zfg):=fsc
theorem Znv(T:Txt K mg f fd cls):FnOk P w K mg base CX0 1 (f 0) (fd 0) ["found"] (spD K (sD Zc1)):=by
 refine Z0 T.e_law_whole.F Znh (S:=Zde) rfl rfl (λcdv A outer s H E hr=>?_)
 exact(Zc (xrt (Za6 (Ziq (Jc (Zb1 (by decide) (by rfl) T.z_isinstance L2.B.boot_isinstance (by rfl) T.z_int L2.B.boot_int (xv 0))) (Zkm (Zu4 (Z9t (Jc (Zb1 (by decide) (by rfl) T.z_isinstance L2.B.boot_isinstance (by rfl) T.z_bool L2.B.boot_bool (xv 0))))))))))
theorem Zd0:Zm ["found","due","one","other"] ["found","due"] (Zi Zfh):=fsc
theorem Zdq(T:Txt K mg f fd cls):∀k,FnOk P w K mg base CX0 (2+k) (f 1) (fd 1) ["found","due"] (spD K (sD (Zq k)))
 | 0=>Z3c λds k h=>by obtain⟨r,h,_⟩:=h;cases h
 | k+1=>by
  have G_rec:=Zdq T k
  have G_law_whole:=Znv (P:=P) (w:=w) (base:=base) T
  refine Z0 T.e_law_alike.F Zd0 (S:=Jf (Zq k)) rfl rfl (λcdv A outer s H E hr=>?_)
  have hu:=hr.units
  exact(Zhn (Zbt (Zm1 (Zm2 (Yu (Yt (Jc (Zb1 (by decide) (by rfl) T.z_isinstance L2.B.boot_isinstance (by rfl) T.z_bool L2.B.boot_bool (Wg (mv 1)))) (λ_=>rfl))) (Zc (Zf3 (Zf7 (Za6 (Ziq (Jc (Zb1 (by decide) (by rfl) T.z_isinstance L2.B.boot_isinstance (by rfl) T.z_bool L2.B.boot_bool (Wg (mv 0)))) (Zkm (Yd Zxf (Zdf (Zex hu) Zj6 (Wg (mv 0)) (Wg (mv 1)) (hm:=(Wa _)))))))))) (Zds Zdo)))
   (Zhn (Zbt (Zm1 (Zm2 (Yu (Yt (Jc (Zb1 (by decide) (by rfl) T.z_isinstance L2.B.boot_isinstance (by rfl) T.z_int L2.B.boot_int (Wg (mv 1)))) (λ_=>rfl))) (Zc (Zf3 (Zf7 (Za6 (Ziq (Zo3 (Zwi G_law_whole (hr.mono (Qa (by decide) (Bu 2 k))) (by rfl) T.e_law_whole.m T.e_law_whole.F.kp T.e_law_whole.b Z43 (Ze (Wg (mv 0)) (Zko Zk3)))) (Zkm (Yd Zxf (Zdf (Zex hu) Zj6 (Wg (mv 0)) (Wg (mv 1)) (hm:=(Wa _)))))))))) (Zds Zdo)))
   (Zhn (Zbt (Zm1 (Zm2 (Yu (Yt (Jc (Zb1 (by decide) (by rfl) T.z_isinstance L2.B.boot_isinstance (by rfl) T.z_str L2.B.boot_str (Wg (mv 1)))) (λ_=>rfl))) (Zc (Zf3 (Zf7 (Za6 (Ziq (Jc (Zb1 (by decide) (by rfl) T.z_isinstance L2.B.boot_isinstance (by rfl) T.z_str L2.B.boot_str (Wg (mv 0)))) (Zkm (Yd Zxf (Zdf (Zex hu) Zj6 (Wg (mv 0)) (Wg (mv 1)) (hm:=(Wa _)))))))))) (Zds Zdo)))
   (Zhn (Zbt (Zm1 (Zm2 (Zc0 Yii (Zc4 Z2b Z1g (Wg (mv 1)) (Zaf Zmr) (hm:=(Wa _)))) (Zc (Zf3 (Zf7 (Yd Yii (Zdf Z2b Z1g (Wg (mv 0)) (Zaf Zmr) (hm:=(Wa _))))))) (Zds Zdo)))
   (Zhn (Zbt (Zm1 (Zm2 (MW.mt (Zjb (Zi5 (Zc0 Ych (Zc4 (Zne hu) Zu1 (Jc (Zb1 (by decide) (by rfl) T.z_isinstance L2.B.boot_isinstance (by rfl) T.z_tuple L2.B.boot_tuple (Wg (mv 1)))) (Jc (Zb1 (by decide) (by rfl) T.z_isinstance L2.B.boot_isinstance (by rfl) T.z_tuple L2.B.boot_tuple (Wg (mv 0)))) (hm:=(Wa _)))) (Ze6 (Zc0 Ych (Zc4 (Zne hu) Zu1 (Jc (Zb1 (by decide) (by rfl) T.z_isinstance L2.B.boot_isinstance (by rfl) T.z_list L2.B.boot_list (Wg (mv 1)))) (Jc (Zb1 (by decide) (by rfl) T.z_isinstance L2.B.boot_isinstance (by rfl) T.z_list L2.B.boot_list (Wg (mv 0)))) (hm:=(Wa _)))))))) (Zc (Zf3 (Zf7 (Zaf J1)))) (Zds Zdo)))
   (Zhn (Zbt (Zm1 (Zm2 (Zc0 Ych (Zc4 (Zne hu) Zu1 (Zdd Z3l (Zop Zt6 (Ziy rfl) (by rfl) T.z_len L2.B.boot_len (Ze (Wg (mv 0)) (Zko Zk3)))) (Zdd Z3l (Zop Zt6 (Ziy rfl) (by rfl) T.z_len L2.B.boot_len (Ze (Wg (mv 1)) (Zko Zk3)))) (hm:=(Wa _)))) (Zc (Zf3 (Zf7 (Zaf J1)))) (Zds Zdo)))
   (Zhn (Zbt (Z0q (Z0y X8 rfl (Ziw (Zjp (by rfl) T.z_zip L2.B.boot_zip (Ze (Wg (mv 0)) (Ze (Wg (mv 1)) (Zko Zk3))))) (Z03 (Z00 (n:=2) (by rfl) (Zil (Zih (Zp0 (Zos (i:=2) Zd0.nd)) (Zil (Zih (Zp0 (Zos (i:=3) Zd0.nd)) (Zvf Zwz)))))))
   (Zc (Zm1 (Zm2 (Z0g (Z1r (Yu (Yt (Zo3 (Zwi G_rec hr (by rfl) T.e_law_alike.m T.e_law_alike.F.kp T.e_law_alike.b Z43 (Ze (Wg (mv 2)) (Ze (Wg (mv 3)) (Zko Zk3))))) (λ_=>rfl))))) (Zc (Zf3 (Zf7 (Zaf J1)))) (Zds Zdo))))))
   (Zc (Zf3 (Zf7 (Zaf J1))))))))))))))))))
theorem Zmz(T:Txt K mg f fd cls):FnOk P w K mg base CX0 8 (f 1) (fd 1) ["found","due"] (spD K (sD (Zq 6))):=Zdq T 6
theorem Zj1:Zm ["script","k"] ["script","k"] (Zi Zck):=fsc
theorem Zj5(T:Txt K mg f fd cls):FnOk P w K mg base CX0 1 (f 2) (fd 2) ["script","k"] (spD K (sD Yi)):=by
 refine Z0 T.e_law_cell_at.F Zj1 (S:=Zbp) rfl rfl (λcdv A outer s H E hr=>?_)
 exact(xsq (xif (xlt (xv 1) (xln T.z_len (xa1 (xv 0)))) (Zc (xrt (xix (xv 0) (xv 1)))) xnl) (Zc (xrt xci)))
theorem Yo:Zm ["cell","many","top","found","rest","k","stir"] ["cell","many","top"] (Zi Zec):=fsc
theorem Zlr(T:Txt K mg f fd cls):FnOk P w K mg base CX0 1 (f 3) (fd 3) ["cell","many","top"] (spD K (sD Wy)):=by
 refine Z0 T.e_law_digits.F Yo (S:=Zb4) rfl rfl (λcdv A outer s H E hr=>?_)
 exact(xsq (xso 3 Yo.nd (xls xa0)) (xsq (xst 4 Yo.nd (xv 0)) (xsq (xfr X8 rfl (Zj9 (Ja (by rfl) T.z_range (xa1 (xv 1)))) (xg 5 Yo.nd) (xsq (xst 6 Yo.nd (Zh9 (Zxc (Zqs (Zqs (xv 0) (Zxc xci (xv 5))) xci) xci) xci)) (xsq (xst 6 Yo.nd (Zh9 (Zxc (xv 6) (xv 6)) xci)) (xsq (xst 6 Yo.nd (Zrq (Zh9 (Zxc (Zqs (xv 6) (Zxc xci (Zqs (xv 5) xci))) xci) xci) xci)) (xsq (xif (xge (xv 0) (Zxj xci xci)) (Zc (xst 6 Yo.nd (xv 4))) xnl) (xsq (Zba (Za9 3 (Zh9 (xv 6) (xv 2)))) (Zc (xst 4 Yo.nd (Zrq (xv 4) (xv 2)))))))))) (Zc (Zee (Zeb 3))))))
theorem Zf4:Zm ["one","other"] ["one","other"] (Zi Zdm):=fsc
theorem Zlc(T:Txt K mg f fd cls):FnOk P w K mg base CX0 1 (f 4) (fd 4) ["one","other"] (spD K (sD J8)):=by
 refine Z0 T.e_law_common.F Zf4 (S:=Zb6) rfl rfl (λcdv A outer s H E hr=>?_)
 have hu:=hr.units
 exact(xsq (Zq2 (Zqt X8 (xne hu (xv 1) xci) (Zc (Ybm (Yam rfl Zf4.nd rfl rfl (by decide) rfl rfl (Ze (xv 1) (xa1 (Zh9 (xv 0) (xv 1))))))))) (Zc (xrt (Zdd Z34 (Zop Zwv Zln (by rfl) T.z_abs L2.B.boot_abs (xa1 (xv 0)))))))
theorem Zdl:Zm ["top","bottom","by"] ["top","bottom"] (Zi Zbw):=fsc
theorem Zbc(T:Txt K mg f fd cls):FnOk P w K mg base CX0 2 (f 5) (fd 5) ["top","bottom"] (spD K (sD Yg)):=by
 have G_law_common:=Zlc (P:=P) (w:=w) (base:=base) T
 refine Z0 T.e_law_fraction.F Zdl (S:=Za0) rfl rfl (λcdv A outer s H E hr=>?_)
 exact(xsq (xst 2 Zdl.nd (xce G_law_common hr T.e_law_common (Ze (xv 0) (xa1 (xv 1))))) (Zc (xrt (xtp (Ze (Zrq (xv 0) (xv 2)) (xa1 (Zrq (xv 1) (xv 2))))))))
theorem Zox:Zm ["q","r"] ["q","r"] (Zi Zhk):=fsc
theorem Zix(T:Txt K mg f fd cls):FnOk P w K mg base CX0 3 (f 6) (fd 6) ["q","r"] (spD K (sD Y8)):=by
 have G_law_fraction:=Zbc (P:=P) (w:=w) (base:=base) T
 refine Z0 T.e_law_plus.F Zox (S:=Zd5) rfl rfl (λcdv A outer s H E hr=>?_)
 exact(Zc (xrt (xce G_law_fraction hr T.e_law_fraction (Ze (Zqs (Zxc (xix (xv 0) xci) (xix (xv 1) xci)) (Zxc (xix (xv 1) xci) (xix (xv 0) xci))) (xa1 (Zxc (xix (xv 0) xci) (xix (xv 1) xci)))))))
theorem Zbm:Zm ["n","found","one","other"] ["n"] (Zi Ze9):=fsc
theorem Zhs(T:Txt K mg f fd cls):FnOk P w K mg base CX0 1 (f 7) (fd 7) ["n"] (spD K (sD Wf)):=by
 refine Z0 T.e_law_pairs.F Zbm (S:=Zc7) rfl rfl (λcdv A outer s H E hr=>?_)
 exact(xsq (xso 1 Zbm.nd (xls xa0)) (xsq (xfr X8 rfl (Zj9 (Ja (by rfl) T.z_range (xa1 (xv 0)))) (xg 2 Zbm.nd) (Zc (xfr X8 rfl (Z8t (Zm9 (by rfl) T.z_range (Ze (Zqs (xv 2) xci) (xa1 (xv 0))))) (xg 3 Zbm.nd) (Zc (Zba (Za9 1 (xtp (Ze (xv 2) (xa1 (xv 3)))))))))) (Zc (Zee (Zeb 1)))))
theorem Za8:Zm ["n","distances","rows","q","one","other"] ["n","distances"] (Zi Zg8):=fsc
theorem Zpr(T:Txt K mg f fd cls):FnOk P w K mg base CX0 2 (f 8) (fd 8) ["n","distances"] (spD K (sD Jr)):=by
 have G_law_pairs:=Zhs (P:=P) (w:=w) (base:=base) T
 refine Z0 T.e_law_rows.F Za8 (S:=Zed) rfl rfl (λcdv A outer s H E hr=>?_)
 exact(xsq (Zmh (Zay (i:=2) (own:=["one"]) (caps:=[0]) (N':=["one","n"]) true Za8.nd rfl (Qw rfl) (by exact⟨rfl,by decide +kernel,rfl,by decide +kernel,rfl,rfl⟩) (by rfl) (by decide) (Zj9 (Ja (by rfl) T.z_range (xa1 (xv 0)))) (λ_ _ _ _ _=>(xg 0 (by show QD (["one","n"]:List Str);decide +kernel))) (λ_ _ _ _ _=>(Wj Wi)) (λ_ _ _ _ _=>(J5 (Zhi ["other"] [] ["other"] (Zj9 (Ja (by rfl) T.z_range (xa1 (xv 1)))) (λ_ _ _ _ _=>(xg 0 (by show QD (["other"]:List Str);decide +kernel))) (λ_ _ _ _ _=>(Wj Wi)) (λ_ _ _ _ _=>(xtp (Ze xci (xa1 xci))))))))) (xsq (xfr X8 rfl (Ziw (Zjp (by rfl) T.z_zip L2.B.boot_zip (Ze (xv 1) (xa1 (xce G_law_pairs hr T.e_law_pairs (xa1 (xv 0))))))) (xg2 rfl (xg 3 Za8.nd) (xg2 rfl (xg 4 Za8.nd) (xg 5 Za8.nd))) (xsq (Zlh (Zl3 2 (xv 3) (xv 4) (xv 5) (λ_ _=>rfl))) (Zc (Zlh (Zl3 2 (xv 3) (xv 5) (xv 4) (λ_ _=>rfl)))))) (Zc (Zee (Zeb 2)))))
theorem Znp:Zm ["weighted","by"] ["weighted","by"] (Zi Zfm):=fsc
theorem Zml(T:Txt K mg f fd cls):FnOk P w K mg base CX0 3 (f 9) (fd 9) ["weighted","by"] (spD K (sD Zao)):=by
 have G_law_fraction:=Zbc (P:=P) (w:=w) (base:=base) T
 refine Z0 T.e_law_small.F Znp (S:=Zc5) rfl rfl (λcdv A outer s H E hr=>?_)
 exact(Zc (xrt (J5 (Zhi ["cut","weight"] [1] ["cut","weight","by"] (xil (xv 0)) (λ_ _ _ _ _=>(xg2 rfl (xg 0 (by show QD (["cut","weight","by"]:List Str);decide +kernel)) (xg 1 (by show QD (["cut","weight","by"]:List Str);decide +kernel)))) (λ_ _ _ _ _=>(Wj Wi)) (λ_ _ _ _ _=>(xtp (Ze (xv 0) (xa1 (xce G_law_fraction hr T.e_law_fraction (Ze (Zqs xci (Zh9 (xix (xv 1) xci) (Zxj xci xci))) (xa1 (xv 2))))))))))))
theorem Zfo:Zm ["number","way"] ["number"] (Zi Zha):=fsc
theorem Zp2(T:Txt K mg f fd cls):FnOk P w K mg base CX0 3 (f 10) (fd 10) ["number"] (spD K (sD Js)):=by
 have G_law_fraction:=Zbc (P:=P) (w:=w) (base:=base) T
 refine Z0 T.e_law_wide.F Zfo (S:=Zea) rfl rfl (λcdv A outer s H E hr=>?_)
 have hu:=hr.units
 exact(xsq (xst 1 Zfo.nd (Zh9 (xv 0) xci)) (xsq (xst 0 Zfo.nd (Zrq (xv 0) xci)) (xsq (xif (xeq hu (xv 1) xci) (Zc (xrt (xtp (Ze xci (xa1 xci))))) xnl) (xsq (xif (xlt (xv 1) xci) (Zc (xrt (xtp (Ze (Zh9 (xv 0) xci) (xa1 xci))))) xnl) (xsq (xif (xlt (xv 1) xci) (Zc (xrt (xce G_law_fraction hr T.e_law_fraction (Ze (Zh9 (xv 0) xci) (xa1 (Zqs xci (Zh9 (Zrq (xv 0) xci) xci))))))) xnl) (xsq (xif (xeq hu (xv 1) xci) (Zc (xrt (xtp (Ze (Zh9 (Zxj (xv 0) xci) (Zxj xci xci)) (xa1 xci))))) xnl) (Zc (xrt (xce G_law_fraction hr T.e_law_fraction (Ze (Zh9 (Zxj (xv 0) xci) (Zxj xci xci)) (xa1 (Zqs xci (Zh9 (Zrq (Zxj (xv 0) xci) xci) (Yhu (Zxj xci xci) xci))))))))))))))
theorem Wh:Zm ["n","cells","kept","cell","cut","weight"] ["n","cells"] (Zi Za5):=fsc
theorem Zhx(T:Txt K mg f fd cls):FnOk P w K mg base CX0 4 (f 11) (fd 11) ["n","cells"] (spD K (sD Wz)):=by
 have G_law_wide:=Zp2 (P:=P) (w:=w) (base:=base) T
 refine Z0 T.e_law_some_cuts.F Wh (S:=W3) rfl rfl (λcdv A outer s H E hr=>?_)
 have hu:=hr.units
 exact(xsq (Zt3 (Zwy (i:=2) Wh.nd rfl (Qt rfl) (Z3n Z2k))) (xsq (xfr X8 rfl (xil (xv 1)) (xg 3 Wh.nd) (xsq (Zo1 (Zay (i:=4) (own:=["k"]) (caps:=[3]) (N':=["k","cell"]) false Wh.nd rfl (Qw rfl) (by exact⟨rfl,by decide +kernel,rfl,by decide +kernel,rfl,rfl⟩) (by rfl) (by decide) (Zj9 (Ja (by rfl) T.z_range (xa1 (Yhu (xv 0) xci)))) (λ_ _ _ _ _=>(xg 0 (by show QD (["k","cell"]:List Str);decide +kernel))) (λ_ _ _ _ _=>(Zv3 (xeq hu (Zh9 (Zrq (xv 1) (xix (xls (Ze xci (Ze xci (Ze xci (Ze xci (Ze xci (Ze xci (Ze xci (Ze xci (xa1 xci)))))))))) (xv 0))) xci) xci))) (λ_ _ _ _ _=>(Zqs (xv 0) xci)))) (xsq (xst 5 Wh.nd (xce G_law_wide hr T.e_law_wide (xa1 (Zh9 (Zrq (xv 3) xci) (Zxj xci xci))))) (Zc (xif (MW.mt (Z15 (Z1d (xne hu (xv 4) (xls xa0)) (Zva (xgt (xix (xv 5) xci) xci))))) (Zc (Z6e (Z42 2 hu (xv 5) (Zp6 Z1n (Z6o Zvk (Zjm rfl) (by rfl) T.z_tuple L2.B.boot_tuple (xa1 (xv 4))))))) xnl))))) (Zc (Zga (Zft 2 (xrt (J5 (Zhi ["cut"] [2] ["cut","kept"] (xil (Zp6 Z5k (Yln Zy0 (Zsp Z7n rfl hu) (by rfl) T.z_sorted L2.B.boot_sorted (xa1 (Zp6 Z6c (Z6o Zz1 (Zsk rfl) (by rfl) T.z_list L2.B.boot_list (xa1 (xv 2)))))))) (λ_ _ _ _ _=>(xg 0 (by show QD (["cut","kept"]:List Str);decide +kernel))) (λ_ _ _ _ _=>(Wj Wi)) (λ_ _ _ _ _=>(Zv4 (Z01 (Ze (Zp6 Zw5 (Z6o Zpx (Zhf rfl) (by rfl) T.z_list L2.B.boot_list (xa1 (xv 0)))) (xa1 (Zw4 (Ztn Yfa (Yf4 hu (xv 1) (xv 0) (hs:=λ_ _=>rfl)))))))))))))))))
theorem Wn:Zm ["n","weighted","found","one","other","far","cut","weight"] ["n","weighted"] (Zi Zgp):=fsc
theorem Zpp(T:Txt K mg f fd cls):FnOk P w K mg base CX0 4 (f 12) (fd 12) ["n","weighted"] (spD K (sD Jq)):=by
 have G_law_pairs:=Zhs (P:=P) (w:=w) (base:=base) T
 have G_law_plus:=Zix (P:=P) (w:=w) (base:=base) T
 refine Z0 T.e_law_sums.F Wn (S:=Jx) rfl rfl (λcdv A outer s H E hr=>?_)
 have hu:=hr.units
 exact(xsq (xso 2 Wn.nd (xls xa0)) (xsq (xfr X8 rfl (xil (xce G_law_pairs hr T.e_law_pairs (xa1 (xv 0)))) (xg2 rfl (xg 3 Wn.nd) (xg 4 Wn.nd)) (xsq (xst 5 Wn.nd (xtp (Ze xci (xa1 xci)))) (xsq (xfr X8 rfl (xil (xv 1)) (xg2 rfl (xg 6 Wn.nd) (xg 7 Wn.nd)) (Zc (xif (xne hu (Yd Z5i (Zdf (Zuh rfl) Z29 (xv 3) (xv 6) (hm:=(by with_unfolding_all rfl)))) (Yd Z5i (Zdf (Zuh rfl) Z29 (xv 4) (xv 6) (hm:=(by with_unfolding_all rfl))))) (Zc (xst 5 Wn.nd (xce G_law_plus hr T.e_law_plus (Ze (xv 5) (xa1 (xv 7)))))) xnl))) (Zc (Zba (Za9 2 (xv 5))))))) (Zc (Zee (Zeb 2)))))
theorem Zks:Zm ["one","other","texts","text"] ["one","other","texts"] (Zi Zis):=fsc
theorem Zru(T:Txt K mg f fd cls):FnOk P w K mg base CX0 1 (f 13) (fd 13) ["one","other","texts"] (spD K (sD Zab)):=by
 refine Z0 T.e_law_two.F Zks (S:=Ze5) rfl rfl (λcdv A outer s H E hr=>?_)
 have hu:=hr.units
 exact(xsq (xfr X8 rfl (xil (xv 2)) (xg 3 Zks.nd) (Zc (xif (xno (Yu (Yt (Jc (Zb1 (by decide) (by rfl) T.z_isinstance L2.B.boot_isinstance (by rfl) T.z_str L2.B.boot_str (xv 3))) (λ_=>rfl)))) (Zc (xrt (Zaf J1))) xnl))) (Zc (xrt (Yd Zxf (Zdf (Zex hu) Zj6 (Yd Zxf (Zdf (Zex hu) Zj6 (xix (xv 2) xci) (xix (xv 2) xci) (hm:=(Wa _)))) (Yd Zxf (Zdf (Zex hu) Zj6 (xv 0) (xv 1) (hm:=(Wa _)))) (hm:=(Wa _)))))))
theorem Zmi:Zm ["text"] ["text"] (Zi Zdi):=fsc
theorem Zf1(T:Txt K mg f fd cls):FnOk P w K mg base CX0 1 (f 14) (fd 14) ["text"] (spD K (sD Wx)):=by
 refine Z0 T.e_check_text.F Zmi (S:=Zb5) rfl rfl (λcdv A outer s H E hr=>?_)
 exact(Zc (xif (xno (Yu (Yt (Jc (Zb1 (by decide) (by rfl) T.z_isinstance L2.B.boot_isinstance (by rfl) T.z_str L2.B.boot_str (xv 0))) (λ_=>rfl)))) (Zc Zij) xnl))
theorem Zg4:Zm ["n"] ["n"] (Zi Zaj):=fsc
theorem Zcb(T:Txt K mg f fd cls):FnOk P w K mg base CX0 1 (f 15) (fd 15) ["n"] (spD K (sD Wr)):=by
 refine Z0 T.e_is_point_count.F Zg4 (S:=Zad) rfl rfl (λcdv A outer s H E hr=>?_)
 exact(Zc (xrt (Zy3 (Z5v Zx0 Zx0 xci (xv 0) (Zaf (Zv8 (by rfl) T.g_MOST_POINTS))))))
theorem Zd7:Zm ["things","one","behind"] ["things"] (Zi Zfd):=fsc
theorem Zhw(T:Txt K mg f fd cls):FnOk P w K mg base CX0 1 (f 16) (fd 16) ["things"] (spD K (sD Yv)):=by
 refine Z0 T.e_is_rising.F Zd7 (S:=Zc2) rfl rfl (λcdv A outer s H E hr=>?_)
 have hu:=hr.units
 exact(xsq (xfr X8 rfl (Ziw (Zjp (by rfl) T.z_zip L2.B.boot_zip (Ze (xv 0) (xa1 (Z9e (Z75 (xv 0) (Zpn (Zph xci)) (Z52 Z5t))))))) (xg2 rfl (xg 1 Zd7.nd) (xg 2 Zd7.nd)) (Zc (xif (xno (Zc0 Ydt (Zc4 (Yb5 hu) Z7t (xv 1) (xv 2) (hm:=(Wa _))))) (Zc (xrt (Zaf J1))) xnl))) (Zc (xrt (Zaf J1))))
theorem Zot:Zm ["thing"] ["thing"] (Zi Zgw):=fsc
theorem Zfp(T:Txt K mg f fd cls):FnOk P w K mg base CX0 1 (f 17) (fd 17) ["thing"] (spD K (sD Z9)):=by
 refine Z0 T.e_is_whole.F Zot (S:=Zdk) rfl rfl (λcdv A outer s H E hr=>?_)
 exact(Zc (xrt (Za6 (Ziq (Jc (Zb1 (by decide) (by rfl) T.z_isinstance L2.B.boot_isinstance (by rfl) T.z_int L2.B.boot_int (xv 0))) (Zkm (Zu4 (Z9t (Jc (Zb1 (by decide) (by rfl) T.z_isinstance L2.B.boot_isinstance (by rfl) T.z_bool L2.B.boot_bool (xv 0))))))))))
theorem Zn7:Zm ["n","thing","point"] ["n","thing"] (Zi Zmc):=fsc
theorem Zuk(T:Txt K mg f fd cls):FnOk P w K mg base CX0 2 (f 18) (fd 18) ["n","thing"] (spD K (sD Zau)):=by
 have G_is_rising:=Zhw (P:=P) (w:=w) (base:=base) T
 have G_is_whole:=Zfp (P:=P) (w:=w) (base:=base) T
 refine Z0 T.e_is_cut.F Zn7 (S:=Zgi) rfl rfl (λcdv A outer s H E hr=>?_)
 have hu:=hr.units
 exact(xsq (xif (MW.mt (Zjb (Zi5 (xno (Yu (Yt (Jc (Zb1 (by decide) (by rfl) T.z_isinstance L2.B.boot_isinstance (by rfl) T.z_list L2.B.boot_list (xv 1))) (λ_=>rfl)))) (Ze6 (xeq hu (xln T.z_len (xa1 (xv 1))) xci))))) (Zc (xrt (Zaf J1))) xnl) (xsq (xfr X8 rfl (xil (xv 1)) (xg 2 Zn7.nd) (Zc (xif (xno (Yu (Yt (xce G_is_whole hr T.e_is_whole (xa1 (xv 2))) (λ_=>rfl)))) (Zc (xrt (Zaf J1))) xnl))) (Zc (xrt (Za6 (Ziq (xce G_is_rising hr T.e_is_rising (xa1 (xv 1))) (Za6 (Ziq (Yd Yda (Zdf Zyh Zfw (xix (xv 1) xci) xci (hm:=(Wa _)))) (Zkm (Yd Ydz (Zdf Z30 Zfw (xix (xv 1) (Z1q (Yb0 xci))) (xv 0) (hm:=(Wa _)))))))))))))
theorem Yh:Zm ["a","b","left"] ["a","b"] (Zi Ju):=fsc
theorem Ji(T:Txt K mg f fd cls):FnOk P w K mg base CX0 1 (f 19) (fd 19) ["a","b"] (spD K (sD Z4)):=by
 refine Z0 T.e_greatest_divisor.F Yh (S:=Jo) rfl rfl (λcdv A outer s H E hr=>?_)
 have hu:=hr.units
 exact(xsq (xst 0 Yh.nd (Zdd Z34 (Zop Zwv Zln (by rfl) T.z_abs L2.B.boot_abs (xa1 (xv 0))))) (xsq (xst 1 Yh.nd (Zdd Z34 (Zop Zwv Zln (by rfl) T.z_abs L2.B.boot_abs (xa1 (xv 1))))) (xsq (Zq2 (Zqt X8 (xne hu (xv 1) xci) (xsq (xst 2 Yh.nd (Zh9 (xv 0) (xv 1))) (xsq (xst 0 Yh.nd (xv 1)) (Zc (xst 1 Yh.nd (xv 2))))))) (Zc (xrt (xv 0))))))
theorem Zj7:Zm ["thing"] ["thing"] (Zi Zcp):=fsc
theorem Zbx(T:Txt K mg f fd cls):FnOk P w K mg base CX0 2 (f 20) (fd 20) ["thing"] (spD K (sD Yx)):=by
 have G_greatest_divisor:=Ji (P:=P) (w:=w) (base:=base) T
 have G_is_whole:=Zfp (P:=P) (w:=w) (base:=base) T
 refine Z0 T.e_is_fraction.F Zj7 (S:=Zbs) rfl rfl (λcdv A outer s H E hr=>?_)
 have hu:=hr.units
 exact(xsq (xif (MW.mt (Zjb (Zi5 (xno (Yu (Yt (Jc (Zb1 (by decide) (by rfl) T.z_isinstance L2.B.boot_isinstance (by rfl) T.z_tuple L2.B.boot_tuple (xv 0))) (λ_=>rfl)))) (Ze6 (xne hu (xln T.z_len (xa1 (xv 0))) xci))))) (Zc (xrt (Zaf J1))) xnl) (xsq (xif (MW.mt (Zjb (Zi5 (xno (Yu (Yt (xce G_is_whole hr T.e_is_whole (xa1 (xix (xv 0) xci))) (λ_=>rfl)))) (Ze6 (xno (Yu (Yt (xce G_is_whole hr T.e_is_whole (xa1 (xix (xv 0) xci))) (λ_=>rfl)))))))) (Zc (xrt (Zaf J1))) xnl) (Zc (xrt (Za6 (Ziq (Yd Yda (Zdf Zyh Zfw (xix (xv 0) xci) xci (hm:=(Wa _)))) (Zkm (Yd Zxf (Zdf (Zex hu) Zj6 (xce G_greatest_divisor hr T.e_greatest_divisor (Ze (xix (xv 0) xci) (xa1 (xix (xv 0) xci)))) xci (hm:=(Wa _)))))))))))
theorem Zfz:Zm ["n","thing"] ["n","thing"] (Zi J7):=fsc
theorem Zf0(T:Txt K mg f fd cls):FnOk P w K mg base CX0 3 (f 21) (fd 21) ["n","thing"] (spD K (sD Ys)):=by
 have G_is_cut:=Zuk (P:=P) (w:=w) (base:=base) T
 have G_is_fraction:=Zbx (P:=P) (w:=w) (base:=base) T
 refine Z0 T.e_is_weighted_cut.F Zfz (S:=J2) rfl rfl (λcdv A outer s H E hr=>?_)
 have hu:=hr.units
 exact(xsq (xif (MW.mt (Zjb (Zi5 (xno (Yu (Yt (Jc (Zb1 (by decide) (by rfl) T.z_isinstance L2.B.boot_isinstance (by rfl) T.z_tuple L2.B.boot_tuple (xv 1))) (λ_=>rfl)))) (Ze6 (xne hu (xln T.z_len (xa1 (xv 1))) xci))))) (Zc (xrt (Zaf J1))) xnl) (Zc (xrt (Za6 (Ziq (xce G_is_cut hr T.e_is_cut (Ze (xv 0) (xa1 (xix (xv 1) xci)))) (Za6 (Ziq (xce G_is_fraction hr T.e_is_fraction (xa1 (xix (xv 1) xci))) (Zkm (Yd Yg8 (Zdf Z8p Zfw (xix (xix (xv 1) xci) xci) xci (hm:=(Wa _))))))))))))
theorem Ze0:Zm ["n","thing","weighted"] ["n","thing"] (Zi Zcm):=fsc
theorem Zj2(T:Txt K mg f fd cls):FnOk P w K mg base CX0 4 (f 22) (fd 22) ["n","thing"] (spD K (sD Wk)):=by
 have G_is_rising:=Zhw (P:=P) (w:=w) (base:=base) T
 have G_is_weighted_cut:=Zf0 (P:=P) (w:=w) (base:=base) T
 refine Z0 T.e_is_weighted.F Ze0 (S:=Zbu) rfl rfl (λcdv A outer s H E hr=>?_)
 exact(xsq (xif (xno (Yu (Yt (Jc (Zb1 (by decide) (by rfl) T.z_isinstance L2.B.boot_isinstance (by rfl) T.z_list L2.B.boot_list (xv 1))) (λ_=>rfl)))) (Zc (xrt (Zaf J1))) xnl) (xsq (xfr X8 rfl (xil (xv 1)) (xg 2 Ze0.nd) (Zc (xif (xno (Yu (Yt (xce G_is_weighted_cut hr T.e_is_weighted_cut (Ze (xv 0) (xa1 (xv 2)))) (λ_=>rfl)))) (Zc (xrt (Zaf J1))) xnl))) (Zc (xrt (xce G_is_rising hr T.e_is_rising (xa1 (J5 (Zhi ["weighted"] [] ["weighted"] (xil (xv 1)) (λ_ _ _ _ _=>(xg 0 (by show QD (["weighted"]:List Str);decide +kernel))) (λ_ _ _ _ _=>(Wj Wi)) (λ_ _ _ _ _=>(xix (xv 0) xci))))))))))
theorem Zhp:Zm ["word","sign"] ["word"] (Zi Zfl):=fsc
theorem Zmy(T:Txt K mg f fd cls):FnOk P w K mg base CX0 1 (f 23) (fd 23) ["word"] (spD K (sD Zan)):=by
 refine Z0 T.e_is_number.F Zhp (S:=Zc6) rfl rfl (λcdv A outer s H E hr=>?_)
 have hu:=hr.units
 exact(xsq (xif (xno (Zym (Zyk Zx0 Zx0 xci (Zdd Yaq (Zop Z33 Znw (by rfl) T.z_len L2.B.boot_len (xa1 (xv 0)))) (Zaf (Zv8 (by rfl) T.g_MOST_FIGURES))))) (Zc (xrt (Zaf J1))) xnl) (xsq (xfr X8 rfl (Yab (Z9w (xv 0))) (xg 1 Zhp.nd) (Zc (xif (Zc0 Ydo (Zc4 Zt4 Z9c (xv 1) (Zaf (Zpk (by rfl) T.g_FIGURES)) (hm:=(by with_unfolding_all rfl)))) (Zc (xrt (Zaf J1))) xnl))) (Zc (xrt (Z8z (Ykx (Yd Zxf (Zdf (Zex hu) Zj6 (xv 0) (Zaf Zbj) (hm:=(Wa _)))) (Zkm (Yd Ych (Zdf (Zne hu) Zu1 (Zw4 (Ztn Yeu (Yhq (Zqf rfl) Yb1 (xv 0) xci (hs:=λ_ _=>rfl)))) (Zaf Zbj) (hm:=(Wa _)))))))))))
theorem Zkg:Zm ["word"] ["word"] (Zi Zcn):=fsc
theorem Zew(T:Txt K mg f fd cls):FnOk P w K mg base CX0 2 (f 24) (fd 24) ["word"] (spD K (sD Z7)):=by
 have G_is_number:=Zmy (P:=P) (w:=w) (base:=base) T
 refine Z0 T.e_read_number.F Zkg (S:=Zbr) rfl rfl (λcdv A outer s H E hr=>?_)
 exact(Zc (xrt (Zw4 (Z3p (Yei (Yu (Yt (xce G_is_number hr T.e_is_number (xa1 (xv 0))) (λ_=>rfl))) (Zdd Ybx (Zxw Z55 Zs6 (by rfl) T.z_int L2.B.boot_int (xa1 (xv 0)))) (Zaf Zmr))))))
theorem Zdb:Zm ["q","top"] ["q"] (Zi Zaz):=fsc
theorem Zah(T:Txt K mg f fd cls):FnOk P w K mg base CX0 1 (f 25) (fd 25) ["q"] (spD K (sD Yc)):=by
 refine Z0 T.e_show_fraction.F Zdb (S:=Zat) rfl rfl (λcdv A outer s H E hr=>?_)
 have hu:=hr.units
 exact(xsq (xst 1 Zdb.nd (Zdd Z4k (Zxw Ztv Zdn (by rfl) T.z_str L2.B.boot_str (xa1 (xix (xv 0) xci))))) (xsq (xif (xeq hu (xix (xv 0) xci) xci) (Zc (xrt (xv 1))) xnl) (Zc (xrt (Yd Zqu (Zkl Zes Zlw (Yd Zqu (Zkl Zes Zlw (xv 1) (Zaf Zbj))) (Zdd Z4k (Zxw Ztv Zdn (by rfl) T.z_str L2.B.boot_str (xa1 (xix (xv 0) xci))))))))))
theorem Zal:Zm ["word","numbers","q"] ["word"] (Zi Zbf):=fsc
theorem Zc8(T:Txt K mg f fd cls):FnOk P w K mg base CX0 3 (f 26) (fd 26) ["word"] (spD K (sD Yb)):=by
 have G_is_fraction:=Zbx (P:=P) (w:=w) (base:=base) T
 have G_read_number:=Zew (P:=P) (w:=w) (base:=base) T
 have G_show_fraction:=Zah (P:=P) (w:=w) (base:=base) T
 refine Z0 T.e_read_fraction.F Zal (S:=Zar) rfl rfl (λcdv A outer s H E hr=>?_)
 have hu:=hr.units
 exact(xsq (Zmh (Zay (i:=1) (own:=["part"]) (caps:=[]) (N':=["part"]) true Zal.nd rfl (Qw rfl) (by exact⟨rfl,by decide +kernel,rfl,by decide +kernel,rfl,rfl⟩) (by rfl) (by decide) (xil (Zk7 (Zsi Zeq Bl V1 Zek (xv 0) (xa1 (Zaf Zbj))))) (λ_ _ _ _ _=>(xg 0 (by show QD (["part"]:List Str);decide +kernel))) (λ_ _ _ _ _=>(Wj Wi)) (λ_ _ _ _ _=>(xce G_read_number hr T.e_read_number (xa1 (xv 0)))))) (xsq (xif (xeq hu (xln T.z_len (xa1 (xo 1))) xci) (Zc (Zba (Za9 1 xci))) xnl) (xsq (Z5d (Z3g (i:=2) Zal.nd rfl (Qw rfl) (Zp6 Z1n (Z6o Zvk (Zjm rfl) (by rfl) T.z_tuple L2.B.boot_tuple (xa1 (xo 1)))))) (Zc (xrt (Zw4 (Z3p (Yei (MW.mt (Z15 (Z1d (Yu (Yt (xce G_is_fraction hr T.e_is_fraction (xa1 (xv 2))) (λ_=>rfl))) (Zva (xeq hu (xce G_show_fraction hr T.e_show_fraction (xa1 (xv 2))) (xv 0)))))) (xv 2) (Zaf Zmr)))))))))
theorem Zda:Zm ["text","parts"] ["text"] (Zi Za3):=fsc
theorem Zh5(T:Txt K mg f fd cls):FnOk P w K mg base CX0 4 (f 27) (fd 27) ["text"] (spD K (sD Yk)):=by
 have G_read_fraction:=Zc8 (P:=P) (w:=w) (base:=base) T
 have G_read_number:=Zew (P:=P) (w:=w) (base:=base) T
 refine Z0 T.e_read_weighted.F Zda (S:=Zas) rfl rfl (λcdv A outer s H E hr=>?_)
 have hu:=hr.units
 exact(xsq (xst 1 Zda.nd (Zk7 (Zsi Zeq Bl V1 Zek (xv 0) (xa1 (Zaf Zbj))))) (xsq (xif (xne hu (xln T.z_len (xa1 (xv 1))) xci) (Zc (xrt (Zaf Zmr))) xnl) (Zc (xrt (Zv4 (Z01 (Ze (J5 (Zhi ["word"] [] ["word"] (xil (Zk7 (Zsi Zeq Bl V1 Zek (xix (xv 1) xci) (xa1 (Zaf Zbj))))) (λ_ _ _ _ _=>(xg 0 (by show QD (["word"]:List Str);decide +kernel))) (λ_ _ _ _ _=>(Wj Wi)) (λ_ _ _ _ _=>(xce G_read_number hr T.e_read_number (xa1 (xv 0)))))) (xa1 (xce G_read_fraction hr T.e_read_fraction (xa1 (xix (xv 1) xci)))))))))))
theorem Zeu:Zm ["text"] ["text"] (Zi Jh):=fsc
theorem Zev(T:Txt K mg f fd cls):FnOk P w K mg base CX0 5 (f 28) (fd 28) ["text"] (spD K (sD Y5)):=by
 have G_read_weighted:=Zh5 (P:=P) (w:=w) (base:=base) T
 refine Z0 T.e_read_all_weighted.F Zeu (S:=Jl) rfl rfl (λcdv A outer s H E hr=>?_)
 have hu:=hr.units
 exact(xsq (xif (xeq hu (xv 0) (Zaf (Zpk (by rfl) T.g_NO_CUTS))) (Zc (xrt (xls xa0))) xnl) (Zc (xrt (J5 (Zhi ["part"] [] ["part"] (xil (Zk7 (Zsi Zeq Bl V1 Zek (xv 0) (xa1 (Zaf Zbj))))) (λ_ _ _ _ _=>(xg 0 (by show QD (["part"]:List Str);decide +kernel))) (λ_ _ _ _ _=>(Wj Wi)) (λ_ _ _ _ _=>(xce G_read_weighted hr T.e_read_weighted (xa1 (xv 0)))))))))
theorem Zht:Zm ["n","text","cuts"] ["n","text"] (Zi Zfa):=fsc
theorem Znj(T:Txt K mg f fd cls):FnOk P w K mg base CX0 6 (f 29) (fd 29) ["n","text"] (spD K (sD Zai)):=by
 have G_check_text:=Zf1 (P:=P) (w:=w) (base:=base) T
 have G_is_point_count:=Zcb (P:=P) (w:=w) (base:=base) T
 have G_is_weighted:=Zj2 (P:=P) (w:=w) (base:=base) T
 have G_read_all_weighted:=Zev (P:=P) (w:=w) (base:=base) T
 refine Z0 T.e_read_cuts.F Zht (S:=Zcz) rfl rfl (λcdv A outer s H E hr=>?_)
 exact(xsq (Zwr (Ztr (xce G_check_text hr T.e_check_text (xa1 (xv 1))))) (xsq (xso 2 Zht.nd (xce G_read_all_weighted hr T.e_read_all_weighted (xa1 (xv 1)))) (xsq (xif (MW.mt (Zjb (Zi5 (xno (Yu (Yt (xce G_is_point_count hr T.e_is_point_count (xa1 (xv 0))) (λ_=>rfl)))) (Ze6 (xno (Yu (Yt (xce G_is_weighted hr T.e_is_weighted (Ze (xv 0) (xa1 (xo 2)))) (λ_=>rfl)))))))) (Zc Zij) xnl) (Zc (Zee (Zeb 2))))))
theorem Wl:Zm ["rows","i","j"] ["rows"] (Zi W4):=fsc
theorem Zeg(T:Txt K mg f fd cls):FnOk P w K mg base CX0 1 (f 30) (fd 30) ["rows"] (spD K (sD Y0)):=by
 refine Z0 T.e_is_alike_both_ways.F Wl (S:=W9) rfl rfl (λcdv A outer s H E hr=>?_)
 have hu:=hr.units
 exact(xsq (xfr X8 rfl (Zj9 (Ja (by rfl) T.z_range (xa1 (xln T.z_len (xa1 (xv 0)))))) (xg 1 Wl.nd) (xsq (xif (xne hu (xix (xix (xv 0) (xv 1)) (xv 1)) (xtp (Ze xci (xa1 xci)))) (Zc (xrt (Zaf J1))) xnl) (Zc (xfr X8 rfl (Zj9 (Ja (by rfl) T.z_range (xa1 (xv 1)))) (xg 2 Wl.nd) (Zc (xif (xne hu (xix (xix (xv 0) (xv 1)) (xv 2)) (xix (xix (xv 0) (xv 2)) (xv 1))) (Zc (xrt (Zaf J1))) xnl)))))) (Zc (xrt (Zaf J1))))
theorem Zj0:Zm ["thing"] ["thing"] (Zi Zci):=fsc
theorem Zjz(T:Txt K mg f fd cls):FnOk P w K mg base CX0 3 (f 31) (fd 31) ["thing"] (spD K (sD Jv)):=by
 have G_is_fraction:=Zbx (P:=P) (w:=w) (base:=base) T
 refine Z0 T.e_is_distance.F Zj0 (S:=Zbk) rfl rfl (λcdv A outer s H E hr=>?_)
 exact(Zc (xrt (Za6 (Ziq (xce G_is_fraction hr T.e_is_fraction (xa1 (xv 0))) (Zkm (Yd Yda (Zdf Zyh Zfw (xix (xv 0) xci) xci (hm:=(Wa _)))))))))
theorem Znu:Zm ["thing","n","cell"] ["thing","n"] (Zi Zlo):=fsc
theorem Ztw(T:Txt K mg f fd cls):FnOk P w K mg base CX0 4 (f 32) (fd 32) ["thing","n"] (spD K (sD Zcg)):=by
 have G_is_distance:=Zjz (P:=P) (w:=w) (base:=base) T
 refine Z0 T.e_is_row.F Znu (S:=Zfu) rfl rfl (λcdv A outer s H E hr=>?_)
 have hu:=hr.units
 exact(xsq (xif (MW.mt (Zjb (Zi5 (xno (Yu (Yt (Jc (Zb1 (by decide) (by rfl) T.z_isinstance L2.B.boot_isinstance (by rfl) T.z_list L2.B.boot_list (xv 0))) (λ_=>rfl)))) (Ze6 (xne hu (xln T.z_len (xa1 (xv 0))) (xv 1)))))) (Zc (xrt (Zaf J1))) xnl) (xsq (xfr X8 rfl (xil (xv 0)) (xg 2 Znu.nd) (Zc (xif (xno (Yu (Yt (xce G_is_distance hr T.e_is_distance (xa1 (xv 2))) (λ_=>rfl)))) (Zc (xrt (Zaf J1))) xnl))) (Zc (xrt (Zaf J1)))))
theorem Zjg:Zm ["thing","row"] ["thing"] (Zi Zgs):=fsc
theorem Zqb(T:Txt K mg f fd cls):FnOk P w K mg base CX0 5 (f 33) (fd 33) ["thing"] (spD K (sD Za2)):=by
 have G_is_alike_both_ways:=Zeg (P:=P) (w:=w) (base:=base) T
 have G_is_row:=Ztw (P:=P) (w:=w) (base:=base) T
 refine Z0 T.e_is_table.F Zjg (S:=Zd6) rfl rfl (λcdv A outer s H E hr=>?_)
 have hu:=hr.units
 exact(xsq (xif (MW.mt (Zjb (Zi5 (xno (Yu (Yt (Jc (Zb1 (by decide) (by rfl) T.z_isinstance L2.B.boot_isinstance (by rfl) T.z_list L2.B.boot_list (xv 0))) (λ_=>rfl)))) (Ze6 (xeq hu (xln T.z_len (xa1 (xv 0))) xci))))) (Zc (xrt (Zaf J1))) xnl) (xsq (xfr X8 rfl (xil (xv 0)) (xg 1 Zjg.nd) (Zc (xif (xno (Yu (Yt (xce G_is_row hr T.e_is_row (Ze (xv 1) (xa1 (xln T.z_len (xa1 (xv 0)))))) (λ_=>rfl)))) (Zc (xrt (Zaf J1))) xnl))) (Zc (xrt (xce G_is_alike_both_ways hr T.e_is_alike_both_ways (xa1 (xv 0)))))))
theorem Zcv:Zm ["text","table","line"] ["text"] (Zi Zdz):=fsc
theorem Zle(T:Txt K mg f fd cls):FnOk P w K mg base CX0 6 (f 34) (fd 34) ["text"] (spD K (sD J9)):=by
 have G_check_text:=Zf1 (P:=P) (w:=w) (base:=base) T
 have G_is_point_count:=Zcb (P:=P) (w:=w) (base:=base) T
 have G_is_table:=Zqb (P:=P) (w:=w) (base:=base) T
 have G_read_fraction:=Zc8 (P:=P) (w:=w) (base:=base) T
 refine Z0 T.e_read_table.F Zcv (S:=Zca) rfl rfl (λcdv A outer s H E hr=>?_)
 exact(xsq (Zwr (Ztr (xce G_check_text hr T.e_check_text (xa1 (xv 0))))) (xsq (xso 1 Zcv.nd (xls xa0)) (xsq (xfr X8 rfl (xil (Zk7 (Zsi Zeq Bl V1 Zek (xv 0) (xa1 (Zaf Zbj))))) (xg 2 Zcv.nd) (Zc (Zsm (Zsa 1 (J5 (Zhi ["word"] [] ["word"] (xil (Zk7 (Zsi Zeq Bl V1 Zek (xv 2) (xa1 (Zaf Zbj))))) (λ_ _ _ _ _=>(xg 0 (by show QD (["word"]:List Str);decide +kernel))) (λ_ _ _ _ _=>(Wj Wi)) (λ_ _ _ _ _=>(xce G_read_fraction hr T.e_read_fraction (xa1 (xv 0)))))))))) (xsq (xif (MW.mt (Zjb (Zi5 (xno (Yu (Yt (xce G_is_point_count hr T.e_is_point_count (xa1 (xln T.z_len (xa1 (xo 1))))) (λ_=>rfl)))) (Ze6 (xno (Yu (Yt (xce G_is_table hr T.e_is_table (xa1 (xo 1))) (λ_=>rfl)))))))) (Zc Zij) xnl) (Zc (Zee (Zeb 1)))))))
theorem Zpm:Zm ["cut"] ["cut"] (Zi Zhh):=fsc
theorem Zo8(T:Txt K mg f fd cls):FnOk P w K mg base CX0 1 (f 35) (fd 35) ["cut"] (spD K (sD Zd8)):=by
 refine Z0 T.e_show_cut.F Zpm (S:=Zeh) rfl rfl (λcdv A outer s H E hr=>?_)
 exact(Zc (xrt (Zq3 (Zz6 Zmb F.slot_str_join F.type_str_join (Zk9 rfl) (Zaf Zbj) (xa1 (J5 (Zhi ["point"] [] ["point"] (xil (xv 0)) (λ_ _ _ _ _=>(xg 0 (by show QD (["point"]:List Str);decide +kernel))) (λ_ _ _ _ _=>(Wj Wi)) (λ_ _ _ _ _=>(Zdd Z4k (Zxw Ztv Zdn (by rfl) T.z_str L2.B.boot_str (xa1 (xv 0))))))))))))
theorem Zoc:Zm ["cuts"] ["cuts"] (Zi Zfe):=fsc
theorem Zoa(T:Txt K mg f fd cls):FnOk P w K mg base CX0 2 (f 36) (fd 36) ["cuts"] (spD K (sD Yj)):=by
 have G_show_cut:=Zo8 (P:=P) (w:=w) (base:=base) T
 have G_show_fraction:=Zah (P:=P) (w:=w) (base:=base) T
 refine Z0 T.e_show_cuts.F Zoc (S:=Zcy) rfl rfl (λcdv A outer s H E hr=>?_)
 have hu:=hr.units
 exact(xsq (xif (xeq hu (xln T.z_len (xa1 (xv 0))) xci) (Zc (xrt (Zaf (Zpk (by rfl) T.g_NO_CUTS)))) xnl) (Zc (xrt (Zq3 (Zz6 Zmb F.slot_str_join F.type_str_join (Zk9 rfl) (Zaf Zbj) (xa1 (J5 (Zhi ["cut","weight"] [] ["cut","weight"] (xil (xv 0)) (λ_ _ _ _ _=>(xg2 rfl (xg 0 (by show QD (["cut","weight"]:List Str);decide +kernel)) (xg 1 (by show QD (["cut","weight"]:List Str);decide +kernel)))) (λ_ _ _ _ _=>(Wj Wi)) (λ_ _ _ _ _=>(Yd Zqu (Zkl Zes Zlw (Yd Zqu (Zkl Zes Zlw (xce G_show_cut hr T.e_show_cut (xa1 (xv 0))) (Zaf Zbj))) (xce G_show_fraction hr T.e_show_fraction (xa1 (xv 1))))))))))))))
theorem Zcq:Zm ["table","lines","row"] ["table"] (Zi Zd3):=fsc
theorem Zlm(T:Txt K mg f fd cls):FnOk P w K mg base CX0 2 (f 37) (fd 37) ["table"] (spD K (sD Yp)):=by
 have G_show_fraction:=Zah (P:=P) (w:=w) (base:=base) T
 refine Z0 T.e_show_table.F Zcq (S:=Zb8) rfl rfl (λcdv A outer s H E hr=>?_)
 exact(xsq (xso 1 Zcq.nd (xls xa0)) (xsq (xfr X8 rfl (xil (xv 0)) (xg 2 Zcq.nd) (Zc (Zba (Za9 1 (Zq3 (Zz6 Zmb F.slot_str_join F.type_str_join (Zk9 rfl) (Zaf Zbj) (xa1 (J5 (Zhi ["q"] [] ["q"] (xil (xv 2)) (λ_ _ _ _ _=>(xg 0 (by show QD (["q"]:List Str);decide +kernel))) (λ_ _ _ _ _=>(Wj Wi)) (λ_ _ _ _ _=>(xce G_show_fraction hr T.e_show_fraction (xa1 (xv 0))))))))))))) (Zc (xrt (Zq3 (Zz6 Zmb F.slot_str_join F.type_str_join (Zk9 rfl) (Zaf Zbj) (xa1 (xo 1))))))))
theorem Zqc:Zm ["n","cut"] ["n","cut"] (Zi Zgm):=fsc
theorem Zp8(T:Txt K mg f fd cls):FnOk P w K mg base CX0 1 (f 38) (fd 38) ["n","cut"] (spD K (sD Za4)):=by
 refine Z0 T.e_sides_of.F Zqc (S:=Zef) rfl rfl (λcdv A outer s H E hr=>?_)
 exact(Zc (xrt (J5 (Zhi ["point"] [1] ["point","cut"] (Zj9 (Ja (by rfl) T.z_range (xa1 (xv 0)))) (λ_ _ _ _ _=>(xg 0 (by show QD (["point","cut"]:List Str);decide +kernel))) (λ_ _ _ _ _=>(Wj Wi)) (λ_ _ _ _ _=>(Zw4 (Z3p (Yei (Zc0 Z5i (Zc4 (Zuh rfl) Z29 (xv 0) (xv 1) (hm:=(by with_unfolding_all rfl)))) xci xci))))))))
theorem Zm8:Zm ["n","cuts"] ["n","cuts"] (Zi Zfq):=fsc
theorem Znm(T:Txt K mg f fd cls):FnOk P w K mg base CX0 2 (f 39) (fd 39) ["n","cuts"] (spD K (sD Zam)):=by
 have G_sides_of:=Zp8 (P:=P) (w:=w) (base:=base) T
 refine Z0 T.e_all_sides.F Zm8 (S:=Zc3) rfl rfl (λcdv A outer s H E hr=>?_)
 exact(Zc (xrt (J5 (Zhi ["weighted"] [0] ["weighted","n"] (xil (xv 1)) (λ_ _ _ _ _=>(xg 0 (by show QD (["weighted","n"]:List Str);decide +kernel))) (λ_ _ _ _ _=>(Wj Wi)) (λ_ _ _ _ _=>(xce G_sides_of hr T.e_sides_of (Ze (xv 1) (xa1 (xix (xv 0) xci)))))))))
theorem Ze8:Zm ["top","bottom","shared"] ["top","bottom"] (Zi Zhg):=fsc
theorem Zo0(T:Txt K mg f fd cls):FnOk P w K mg base CX0 2 (f 40) (fd 40) ["top","bottom"] (spD K (sD Za7)):=by
 have G_greatest_divisor:=Ji (P:=P) (w:=w) (base:=base) T
 refine Z0 T.e_in_least.F Ze8 (S:=Zdj) rfl rfl (λcdv A outer s H E hr=>?_)
 exact(xsq (xst 2 Ze8.nd (xce G_greatest_divisor hr T.e_greatest_divisor (Ze (xv 0) (xa1 (xv 1))))) (xsq (xif (xlt (xv 1) xci) (Zc (xst 2 Ze8.nd (Z1q (Yb0 (xv 2))))) xnl) (Zc (xrt (xtp (Ze (Zrq (xv 0) (xv 2)) (xa1 (Zrq (xv 1) (xv 2)))))))))
theorem Zoz:Zm ["top","bottom"] ["top","bottom"] (Zi Zgz):=fsc
theorem Zoy(T:Txt K mg f fd cls):FnOk P w K mg base CX0 3 (f 41) (fd 41) ["top","bottom"] (spD K (sD Jt)):=by
 have G_in_least:=Zo0 (P:=P) (w:=w) (base:=base) T
 have G_is_whole:=Zfp (P:=P) (w:=w) (base:=base) T
 refine Z0 T.e_fraction.F Zoz (S:=Zd9) rfl rfl (λcdv A outer s H E hr=>?_)
 have hu:=hr.units
 exact(xsq (xif (MW.mt (Zjb (Zi5 (xno (Yu (Yt (xce G_is_whole hr T.e_is_whole (xa1 (xv 0))) (λ_=>rfl)))) (Zjb (Zi5 (xno (Yu (Yt (xce G_is_whole hr T.e_is_whole (xa1 (xv 1))) (λ_=>rfl)))) (Ze6 (xeq hu (xv 1) xci))))))) (Zc Zij) xnl) (Zc (xrt (xce G_in_least hr T.e_in_least (Ze (xv 0) (xa1 (xv 1)))))))
theorem Zco:Zm ["n","pairs","i","j"] ["n"] (Zi Zgu):=fsc
theorem Zjo(T:Txt K mg f fd cls):FnOk P w K mg base CX0 1 (f 42) (fd 42) ["n"] (spD K (sD Y9)):=by
 refine Z0 T.e_pairs_of.F Zco (S:=Zd1) rfl rfl (λcdv A outer s H E hr=>?_)
 exact(xsq (xso 1 Zco.nd (xls xa0)) (xsq (xfr X8 rfl (Zj9 (Ja (by rfl) T.z_range (xa1 (xv 0)))) (xg 2 Zco.nd) (Zc (xfr X8 rfl (Z8t (Zm9 (by rfl) T.z_range (Ze (Zqs (xv 2) xci) (xa1 (xv 0))))) (xg 3 Zco.nd) (Zc (Zba (Za9 1 (xtp (Ze (xv 2) (xa1 (xv 3)))))))))) (Zc (Zee (Zeb 1)))))
theorem Je:Zm ["numbers","bottom","q"] ["numbers"] (Zi Zbd):=fsc
theorem Zh6(T:Txt K mg f fd cls):FnOk P w K mg base CX0 2 (f 43) (fd 43) ["numbers"] (spD K (sD Ym)):=by
 have G_greatest_divisor:=Ji (P:=P) (w:=w) (base:=base) T
 refine Z0 T.e_shared_bottom.F Je (S:=Zaq) rfl rfl (λcdv A outer s H E hr=>?_)
 exact(xsq (xst 1 Je.nd xci) (xsq (xfr X8 rfl (xil (xv 0)) (xg 2 Je.nd) (Zc (xst 1 Je.nd (Zxc (Zrq (xv 1) (xce G_greatest_divisor hr T.e_greatest_divisor (Ze (xv 1) (xa1 (xix (xv 2) xci))))) (xix (xv 2) xci))))) (Zc (xrt (xv 1)))))
theorem Ww:Zm ["n","distances","table","pair","distance"] ["n","distances"] (Zi Zak):=fsc
theorem Zhe(T:Txt K mg f fd cls):FnOk P w K mg base CX0 2 (f 44) (fd 44) ["n","distances"] (spD K (sD Yy)):=by
 have G_pairs_of:=Zjo (P:=P) (w:=w) (base:=base) T
 refine Z0 T.e_table_of_pairs.F Ww (S:=Yz) rfl rfl (λcdv A outer s H E hr=>?_)
 exact(xsq (Zmh (Zay (i:=2) (own:=["point"]) (caps:=[0]) (N':=["point","n"]) true Ww.nd rfl (Qw rfl) (by exact⟨rfl,by decide +kernel,rfl,by decide +kernel,rfl,rfl⟩) (by rfl) (by decide) (Zj9 (Ja (by rfl) T.z_range (xa1 (xv 0)))) (λ_ _ _ _ _=>(xg 0 (by show QD (["point","n"]:List Str);decide +kernel))) (λ_ _ _ _ _=>(Wj Wi)) (λ_ _ _ _ _=>(Yae (Ygf (xtp (Ze xci (xa1 xci))) (xv 1)))))) (xsq (xfr X8 rfl (Ziw (Zjp (by rfl) T.z_zip L2.B.boot_zip (Ze (xce G_pairs_of hr T.e_pairs_of (xa1 (xv 0))) (xa1 (xv 1))))) (xg2 rfl (xg 3 Ww.nd) (xg 4 Ww.nd)) (xsq (Zlh (Zl3 2 (xv 4) (xix (xv 3) xci) (xix (xv 3) xci) (λ_ _=>rfl))) (Zc (Zlh (Zl3 2 (xv 4) (xix (xv 3) xci) (xix (xv 3) xci) (λ_ _=>rfl)))))) (Zc (Zee (Zeb 2)))))
theorem Zm4:Zm ["bottom","numbers"] ["bottom","numbers"] (Zi Zfb):=fsc
theorem Zna(T:Txt K mg f fd cls):FnOk P w K mg base CX0 1 (f 45) (fd 45) ["bottom","numbers"] (spD K (sD Jg)):=by
 refine Z0 T.e_tops_over.F Zm4 (S:=Zc9) rfl rfl (λcdv A outer s H E hr=>?_)
 exact(Zc (xrt (J5 (Zhi ["q"] [0] ["q","bottom"] (xil (xv 1)) (λ_ _ _ _ _=>(xg 0 (by show QD (["q","bottom"]:List Str);decide +kernel))) (λ_ _ _ _ _=>(Wj Wi)) (λ_ _ _ _ _=>(Zxc (xix (xv 0) xci) (Zrq (xv 1) (xix (xv 0) xci))))))))
theorem Wb:Zm ["n","cuts","weights","bottom","tops","sides","distances","i","j","parting"] ["n","cuts"] (Zi Zg6):=fsc
theorem Zpy(T:Txt K mg f fd cls):FnOk P w K mg base CX0 4 (f 46) (fd 46) ["n","cuts"] (spD K (sD Wm)):=by
 have G_all_sides:=Znm (P:=P) (w:=w) (base:=base) T
 have G_fraction:=Zoy (P:=P) (w:=w) (base:=base) T
 have G_pairs_of:=Zjo (P:=P) (w:=w) (base:=base) T
 have G_shared_bottom:=Zh6 (P:=P) (w:=w) (base:=base) T
 have G_table_of_pairs:=Zhe (P:=P) (w:=w) (base:=base) T
 have G_tops_over:=Zna (P:=P) (w:=w) (base:=base) T
 refine Z0 T.e_table_of.F Wb (S:=Jp) rfl rfl (λcdv A outer s H E hr=>?_)
 have hu:=hr.units
 exact(xsq (Zo1 (Zay (i:=2) (own:=["weighted"]) (caps:=[]) (N':=["weighted"]) false Wb.nd rfl (Qw rfl) (by exact⟨rfl,by decide +kernel,rfl,by decide +kernel,rfl,rfl⟩) (by rfl) (by decide) (xil (xv 1)) (λ_ _ _ _ _=>(xg 0 (by show QD (["weighted"]:List Str);decide +kernel))) (λ_ _ _ _ _=>(Wj Wi)) (λ_ _ _ _ _=>(xix (xv 0) xci)))) (xsq (xst 3 Wb.nd (xce G_shared_bottom hr T.e_shared_bottom (xa1 (xv 2)))) (xsq (xst 4 Wb.nd (xce G_tops_over hr T.e_tops_over (Ze (xv 3) (xa1 (xv 2))))) (xsq (xst 5 Wb.nd (xce G_all_sides hr T.e_all_sides (Ze (xv 0) (xa1 (xv 1))))) (xsq (xso 6 Wb.nd (xls xa0)) (xsq (xfr X8 rfl (xil (xce G_pairs_of hr T.e_pairs_of (xa1 (xv 0)))) (xg2 rfl (xg 7 Wb.nd) (xg 8 Wb.nd)) (xsq (Zo1 (Zay (i:=9) (own:=["side","top"]) (caps:=[7,8]) (N':=["side","top","i","j"]) false Wb.nd rfl (Qw rfl) (by exact⟨rfl,by decide +kernel,rfl,by decide +kernel,rfl,rfl⟩) (by rfl) (by decide) (Ziw (Zjp (by rfl) T.z_zip L2.B.boot_zip (Ze (xv 5) (xa1 (xv 4))))) (λ_ _ _ _ _=>(xg2 rfl (xg 0 (by show QD (["side","top","i","j"]:List Str);decide +kernel)) (xg 1 (by show QD (["side","top","i","j"]:List Str);decide +kernel)))) (λ_ _ _ _ _=>(Zv3 (xne hu (xix (xv 0) (xv 2)) (xix (xv 0) (xv 3))))) (λ_ _ _ _ _=>(xv 1)))) (Zc (Zba (Za9 6 (xce G_fraction hr T.e_fraction (Ze (Zdd Yfi (Zop Z94 (Ztd rfl (by rfl)) (by rfl) T.z_sum L2.B.boot_sum (xa1 (xv 9)))) (xa1 (xv 3))))))))) (Zc (Zga (Zft 6 (xrt (xce G_table_of_pairs hr T.e_table_of_pairs (Ze (xv 0) (xa1 (xv 6))))))))))))))
theorem Zdc:Zm ["script","n","numbers","weighted","changed","more","cut","weight","distances","others","table","other"] ["script"] (Zi Z5h):=fsc
theorem Z8i(T:Txt K mg f fd cls):FnOk P w K mg base CX0 9 (f 47) (fd 47) ["script"] (spD K (sD Zg7)):=by
 have G_law_alike:=Zmz (P:=P) (w:=w) (base:=base) T
 have G_law_cell_at:=Zj5 (P:=P) (w:=w) (base:=base) T
 have G_law_digits:=Zlr (P:=P) (w:=w) (base:=base) T
 have G_law_plus:=Zix (P:=P) (w:=w) (base:=base) T
 have G_law_rows:=Zpr (P:=P) (w:=w) (base:=base) T
 have G_law_small:=Zml (P:=P) (w:=w) (base:=base) T
 have G_law_some_cuts:=Zhx (P:=P) (w:=w) (base:=base) T
 have G_law_sums:=Zpp (P:=P) (w:=w) (base:=base) T
 have G_law_two:=Zru (P:=P) (w:=w) (base:=base) T
 have G_read_cuts:=Znj (P:=P) (w:=w) (base:=base) T
 have G_read_table:=Zle (P:=P) (w:=w) (base:=base) T
 have G_show_cuts:=Zoa (P:=P) (w:=w) (base:=base) T
 have G_show_table:=Zlm (P:=P) (w:=w) (base:=base) T
 have G_table_of:=Zpy (P:=P) (w:=w) (base:=base) T
 refine Z0 T.e_law.F Zdc (S:=Zk4) rfl rfl (λcdv A outer s H E hr=>?_)
 have hu:=hr.units
 exact(xsq (xst 1 Zdc.nd (Zqs xci (Zh9 (xce G_law_cell_at hr T.e_law_cell_at (Ze (xv 0) (xa1 xci))) xci))) (xsq (xst 2 Zdc.nd (xce G_law_digits hr T.e_law_digits (Ze (xce G_law_cell_at hr T.e_law_cell_at (Ze (xv 0) (xa1 xci))) (Ze xci (xa1 (Zxj xci xci)))))) (xsq (xst 3 Zdc.nd (xce G_law_small hr T.e_law_small (Ze (xce G_law_some_cuts hr T.e_law_some_cuts (Ze (xv 1) (xa1 (Z9e (Z75 (xv 0) (Zpn (Zph xci)) (Zpn (Zph xci))))))) (xa1 (Zqs xci (Zh9 (xix (xv 2) xci) xci)))))) (xsq (Zy4 (Zo5 (i:=4) (own:=["cut","weight"]) (caps:=[]) (N':=["cut","weight"]) Zdc.nd rfl (Qw rfl) (by exact⟨rfl,by decide +kernel,rfl,by decide +kernel,rfl,rfl⟩) (by rfl) (by decide) (xil (xv 3)) (λ_ _ _ _ _=>(xg2 rfl (xg 0 (by show QD (["cut","weight"]:List Str);decide +kernel)) (xg 1 (by show QD (["cut","weight"]:List Str);decide +kernel)))) (λ_ _ _ _ _=>(Wj Wi)) (λ_ _ _ _ _=>(xtp (Ze (Zp6 Zw5 (Z6o Zpx (Zhf rfl) (by rfl) T.z_list L2.B.boot_list (xa1 (xv 0)))) (xa1 (xv 1))))))) (xsq (xst 5 Zdc.nd (xtp (Ze (Zh9 (xix (xv 2) xci) xci) (xa1 (Zqs xci (Zh9 (xix (xv 2) xci) xci)))))) (xsq (xif (xne hu (xo 4) (xls xa0)) (xsq (Z99 (Z7m (Z64 (Yfk 4 (Zh9 (xix (xv 2) xci) (xln T.z_len (xa1 (xo 4)))) (λ_ _=>rfl))) (xg2 rfl (xg 6 Zdc.nd) (xg 7 Zdc.nd)))) (Zc (Z1m (Z2a 4 (xtp (Ze (xv 6) (xa1 (xce G_law_plus hr T.e_law_plus (Ze (xv 7) (xa1 (xv 5))))))) (Zh9 (xix (xv 2) xci) (xln T.z_len (xa1 (xo 4)))))))) xnl) (xsq (Zga (Zft 4 (xif (xno (Yu (Yt (xce G_law_two hr T.e_law_two (Ze (xv 3) (Ze (xv 4) (xa1 (xls (Ze (xce G_show_cuts hr T.e_show_cuts (xa1 (xv 3))) (xa1 (xce G_show_cuts hr T.e_show_cuts (xa1 (xv 4)))))))))) (λ_=>rfl)))) (Zc (xrt (Zaf J1))) xnl))) (xsq (xif (xno (Yu (Yt (xce G_law_alike hr T.e_law_alike (Ze (xce G_read_cuts hr T.e_read_cuts (Ze (xv 1) (xa1 (xce G_show_cuts hr T.e_show_cuts (xa1 (xv 4)))))) (xa1 (xv 4)))) (λ_=>rfl)))) (Zc (xrt (Zaf J1))) xnl) (xsq (xst 8 Zdc.nd (xce G_law_sums hr T.e_law_sums (Ze (xv 1) (xa1 (xv 3))))) (xsq (xso 9 Zdc.nd (Zp6 Zw5 (Z6o Zpx (Zhf rfl) (by rfl) T.z_list L2.B.boot_list (xa1 (xv 8))))) (xsq (Z1m (Z2a 9 (Z3r (Z7r (xce G_law_plus hr T.e_law_plus (Ze (xix (xo 9) (Zh9 (xix (xv 2) xci) (xln T.z_len (xa1 (xo 9))))) (xa1 (xv 5)))))) (Zh9 (xix (xv 2) xci) (xln T.z_len (xa1 (xo 9)))))) (xsq (xst 10 Zdc.nd (xce G_law_rows hr T.e_law_rows (Ze (xv 1) (xa1 (xv 8))))) (xsq (Zga (Zft 9 (xst 11 Zdc.nd (xce G_law_rows hr T.e_law_rows (Ze (xv 1) (xa1 (xv 9))))))) (xsq (xif (xno (Yu (Yt (xce G_law_two hr T.e_law_two (Ze (xv 10) (Ze (xv 11) (xa1 (xls (Ze (xce G_show_table hr T.e_show_table (xa1 (xv 10))) (xa1 (xce G_show_table hr T.e_show_table (xa1 (xv 11)))))))))) (λ_=>rfl)))) (Zc (xrt (Zaf J1))) xnl) (xsq (xif (xno (Yu (Yt (xce G_law_alike hr T.e_law_alike (Ze (xce G_read_table hr T.e_read_table (xa1 (xce G_show_table hr T.e_show_table (xa1 (xv 11))))) (xa1 (xv 11)))) (λ_=>rfl)))) (Zc (xrt (Zaf J1))) xnl) (Zc (xrt (Yd Zxf (Zdf (Zex hu) Zj6 (xce G_show_table hr T.e_show_table (xa1 (xce G_table_of hr T.e_table_of (Ze (xv 1) (xa1 (xv 3)))))) (xce G_show_table hr T.e_show_table (xa1 (xv 10))) (hm:=(Wa _)))))))))))))))))))))
theorem Z50(T:Txt K mg f fd cls):FnOk P w K mg base CX0 9 (f 47) (fd 47) ["script"] (spD K Yau):=(Z8i T).imp λvs H Q E q=>by
 obtain⟨L,ds,k,h1,⟨ns,e,hl,hk⟩,h3⟩:=q
 exact⟨L,ds,k,h1,⟨_,by rw[e];exact Zx8 ns hl,hk⟩,h3⟩
end
theorem Ybk{l:PySem.W.OpenLaw}{fa:Addr}(X:K.In h)(G:h.Ns Qd mg)(hfa:mg "law"=some (.ref fa))
  (q1:Ei K "_law_whole" Zfg f1 d1)
  (q2:Ei K "_law_alike" Zfh f2 d2)
  (q3:Ei K "_law_cell_at" Zck f3 d3)
  (q4:Ei K "_law_digits" Zec f4 d4)
  (q5:Ei K "_law_common" Zdm f5 d5)
  (q6:Ei K "_law_fraction" Zbw f6 d6)
  (q7:Ei K "_law_plus" Zhk f7 d7)
  (q8:Ei K "_law_pairs" Ze9 f8 d8)
  (q9:Ei K "_law_rows" Zg8 f9 d9)
  (q10:Ei K "_law_small" Zfm f10 d10)
  (q11:Ei K "_law_wide" Zha f11 d11)
  (q12:Ei K "_law_some_cuts" Za5 f12 d12)
  (q13:Ei K "_law_sums" Zgp f13 d13)
  (q14:Ei K "_law_two" Zis f14 d14)
  (q15:Ei K "check_text" Zdi f15 d15)
  (q16:Ei K "is_point_count" Zaj f16 d16)
  (q17:Ei K "is_rising" Zfd f17 d17)
  (q18:Ei K "is_whole" Zgw f18 d18)
  (q19:Ei K "is_cut" Zmc f19 d19)
  (q20:Ei K "greatest_divisor" Ju f20 d20)
  (q21:Ei K "is_fraction" Zcp f21 d21)
  (q22:Ei K "is_weighted_cut" J7 f22 d22)
  (q23:Ei K "is_weighted" Zcm f23 d23)
  (q24:Ei K "is_number" Zfl f24 d24)
  (q25:Ei K "read_number" Zcn f25 d25)
  (q26:Ei K "show_fraction" Zaz f26 d26)
  (q27:Ei K "read_fraction" Zbf f27 d27)
  (q28:Ei K "read_weighted" Za3 f28 d28)
  (q29:Ei K "read_all_weighted" Jh f29 d29)
  (q30:Ei K "read_cuts" Zfa f30 d30)
  (q31:Ei K "is_alike_both_ways" W4 f31 d31)
  (q32:Ei K "is_distance" Zci f32 d32)
  (q33:Ei K "is_row" Zlo f33 d33)
  (q34:Ei K "is_table" Zgs f34 d34)
  (q35:Ei K "read_table" Zdz f35 d35)
  (q36:Ei K "show_cut" Zhh f36 d36)
  (q37:Ei K "show_cuts" Zfe f37 d37)
  (q38:Ei K "show_table" Zd3 f38 d38)
  (q39:Ei K "sides_of" Zgm f39 d39)
  (q40:Ei K "all_sides" Zfq f40 d40)
  (q41:Ei K "in_least" Zhg f41 d41)
  (q42:Ei K "fraction" Zgz f42 d42)
  (q43:Ei K "pairs_of" Zgu f43 d43)
  (q44:Ei K "shared_bottom" Zbd f44 d44)
  (q45:Ei K "table_of_pairs" Zak f45 d45)
  (q46:Ei K "tops_over" Zfb f46 d46)
  (q47:Ei K "table_of" Zg6 f47 d47)
  (q48:Ei K "law" Z5h f48 d48)
  (z0:Qx K Qd "abs"=some none)
  (z1:Qx K Qd "bool"=some none)
  (z2:Qx K Qd "int"=some none)
  (z3:Qx K Qd "isinstance"=some none)
  (z4:Qx K Qd "len"=some none)
  (z5:Qx K Qd "list"=some none)
  (z6:Qx K Qd "range"=some none)
  (z7:Qx K Qd "sorted"=some none)
  (z8:Qx K Qd "str"=some none)
  (z9:Qx K Qd "sum"=some none)
  (z10:Qx K Qd "tuple"=some none)
  (z11:Qx K Qd "zip"=some none)
  (gc_FIGURES:Qx K Qd "FIGURES"=some (some (.str "0123456789" t_FIGURES)))
  (gc_MOST_FIGURES:Qx K Qd "MOST_FIGURES"=some (some (.int 40 t_MOST_FIGURES)))
  (gc_MOST_POINTS:Qx K Qd "MOST_POINTS"=some (some (.int 10 t_MOST_POINTS)))
  (gc_NO_CUTS:Qx K Qd "NO_CUTS"=some (some (.str "none" t_NO_CUTS)))
  (cc_NoNumber:Qx K Qd "NoNumber"=some (some (.ref C_NoNumber)))
  (cc_NoText:Qx K Qd "NoText"=some (some (.ref C_NoText)))
  (x_NoNumber:Zhc K C_NoNumber)
  (x_NoText:Zhc K C_NoText)
  (r_NoNumber:Z0b K C_NoNumber)
  (r_NoText:Z0b K C_NoText)
  :∃fd:XF,(∀(s:Xg) (v:Xe),BindsTo s fd ⟨[v],[]⟩ [("script",v)])/\∀base:Heap,K.In base->base.Ns Qd mg->FnOk l.prog w K mg base CX0 9 fa fd ["script"] (spD K Yau):=by
 have e:=hfa.symm.trans (VM X G q48.a)
 cases e
 have T:Txt K mg (λk=>[f1,f2,f3,f4,f5,f6,f7,f8,f9,f10,f11,f12,f13,f14,f15,f16,f17,f18,f19,f20,f21,f22,f23,f24,f25,f26,f27,f28,f29,f30,f31,f32,f33,f34,f35,f36,f37,f38,f39,f40,f41,f42,f43,f44,f45,f46,f47,f48].getD k 0) (λk=>[d1,d2,d3,d4,d5,d6,d7,d8,d9,d10,d11,d12,d13,d14,d15,d16,d17,d18,d19,d20,d21,d22,d23,d24,d25,d26,d27,d28,d29,d30,d31,d32,d33,d34,d35,d36,d37,d38,d39,d40,d41,d42,d43,d44,d45,d46,d47,d48].getD k d48) (λk=>[C_NoNumber,C_NoText].getD k 0):=⟨en1 X G q1,en2 X G q2,en2 X G q3,en3 X G q4,en2 X G q5,en2 X G q6,en2 X G q7,en1 X G q8,en2 X G q9,en2 X G q10,en1 X G q11,en2 X G q12,en2 X G q13,en3 X G q14,en1 X G q15,en1 X G q16,en1 X G q17,en1 X G q18,en2 X G q19,en2 X G q20,en1 X G q21,en2 X G q22,en2 X G q23,en1 X G q24,en1 X G q25,en1 X G q26,en1 X G q27,en1 X G q28,en1 X G q29,en2 X G q30,en1 X G q31,en1 X G q32,en2 X G q33,en1 X G q34,en1 X G q35,en1 X G q36,en1 X G q37,en1 X G q38,en2 X G q39,en2 X G q40,en2 X G q41,en2 X G q42,en1 X G q43,en1 X G q44,en2 X G q45,en2 X G q46,en2 X G q47,en1 X G q48,⟨_,VM X G gc_FIGURES⟩,⟨_,VM X G gc_MOST_FIGURES⟩,⟨_,VM X G gc_MOST_POINTS⟩,⟨_,VM X G gc_NO_CUTS⟩,QG X G z0,QG X G z1,QG X G z2,QG X G z3,QG X G z4,QG X G z5,QG X G z6,QG X G z7,QG X G z8,QG X G z9,QG X G z10,QG X G z11,ec X G cc_NoNumber,ec X G cc_NoText,x_NoNumber,x_NoText,r_NoNumber,r_NoText⟩
 refine⟨d48,λs v=>?_,λbase _ _=>Z50 (P:=l.prog) (w:=w) (base:=base) T⟩
 obtain⟨_,_,_,_,_,_,_,_,_,rfl,_,_⟩:=q48.F.ex
 exact .of_eq rfl
theorem walk{l:PySem.W.OpenLaw}{q:XJ}{d:DefRec}{K:Params->Xb}(hn:l.most=some 63)(hdf:d.params.defaults=[])
  (hY:∀(w:Ql) (h:Heap),YP w h->(K w.params).In h)
  (F:∀(w:Ql) (mg:Str->Option Xe) (fa:Addr) (h:Heap),(K w.params).In h->h.Ns Qd mg->mg d.name=some (.ref fa) ->
   ∃fd:XF,(∀(s:Xg) (u:Xe),BindsTo s fd ⟨[u],[]⟩ [("script",u)])/\∀base:Heap,(K w.params).In base->base.Ns Qd mg->FnOk l.prog w (K w.params) mg base CX0 9 fa fd ["script"] (spD (K w.params) Yau)) :
  PySem.W.WalkO q loose XP YP l.row.toRowW d [] (λf vs=>PySem.call f vs) :=
 L2.Z39 (n:=63) (k:=9) (x :="script") (CX:=λ_=>CX0) (sp:=λw=>spD (K w.params) Yau) hn (by decide) hdf ⟨rfl,by decide,by decide⟩ hY F (λ_ _ a ns hl _ hS=>Z85 hl hS) λ_ _ _ _ _ z=>z
end My
open PySem PySem.W PyProof.Rows
theorem PySem.W.Fast.tw15128494490561916689:True:=trivial
theorem PySem.W.Fast.tw14726256308196734425:True:=trivial
theorem PySem.W.Fast.tw10902708601249986463:True:=trivial
theorem PySem.W.Fast.tw225956862611210517:True:=trivial
theorem PySem.W.Fast.tw13076536263056643923:True:=trivial
theorem PySem.W.Fast.tw12945563196835749716:True:=trivial
theorem PySem.W.Fast.tw12359437737955749194:True:=trivial
theorem PySem.W.Fast.tw3879660998784128636:True:=trivial
theorem PySem.W.Fast.tw13982353665884630099:True:=trivial
theorem PySem.W.Fast.tw4272953454773431970:True:=trivial
theorem PySem.W.Fast.tw6073152579024075937:True:=trivial
theorem PySem.W.Fast.tw6849443072233058193:True:=trivial
theorem PySem.W.Fast.tw2751282555489901321:True:=trivial
theorem PySem.W.Fast.tw8405872344114219903:True:=trivial
theorem PySem.W.Fast.tw3232410808035545491:True:=trivial
theorem PySem.W.Fast.tw236838103532331291:True:=trivial
theorem PySem.W.Fast.tw10052944468581327951:True:=trivial
theorem PySem.W.Fast.tw5424380278426692646:True:=trivial
theorem PySem.W.Fast.tw561684282810894005:True:=trivial
theorem PySem.W.Fast.tw2258958485297694521:True:=trivial
set_option maxRecDepth 100000 in
set_option maxHeartbeats 0 in
theorem PySem.Challenge.cw_farcuts_k82_whole_texts_tell_apart_holds : PySem.Challenge.rw_farcuts_k82_whole_texts_tell_apart.Holds := by
 w_on;o_law;k_head;(case hw=>w_witness2)
 k_fill
 refine My.walk (l:=PySem.Challenge.rw_farcuts_k82_whole_texts_tell_apart) rfl rfl (λw h Y=>PySem.W.kIn_of Y) ?F
 case F=>
  intro w mg fa h KX G hmg
  refine' My.Ybk KX G hmg ?_ ?_ ?_ ?_ ?_ ?_ ?_ ?_ ?_ ?_ ?_ ?_ ?_ ?_ ?_ ?_ ?_ ?_ ?_ ?_ ?_ ?_ ?_ ?_ ?_ ?_ ?_ ?_ ?_ ?_ ?_ ?_ ?_ ?_ ?_ ?_ ?_ ?_ ?_ ?_ ?_ ?_ ?_ ?_ ?_ ?_ ?_ ?_ ?_ ?_ ?_ ?_ ?_ ?_ ?_ ?_ ?_ ?_ ?_ ?_ ?_ ?_ ?_ ?_ ?_ ?_ ?_ ?_ ?_ ?_
  all_goals try (first|(refine' ⟨?a,L2.Z7e ?l ?c ?k⟩;(case a=>k_is);(case l=>k_is);(case c=>k_is);(case k=>k_is))|k_is|kit_is|(show PySem.W.excIn _ _ _ _=true;k_exc)|(refine' ⟨?_,?_,?_,?_,?_,?_,?_,?_,?_,?_,?_⟩<;>first|k_is|kit_is|(show PySem.W.isClsIn _ _=true;k_is)))
#print axioms PySem.Challenge.cw_farcuts_k82_whole_texts_tell_apart_holds
