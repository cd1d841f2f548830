import PyProof.Rows.All
import Wide.All
import OpenK.AllK
import Wide.FinOn
import Lean
import PyProof.EqAt
import PyProof.EqKinds
import PyProof.TupleCall
import PySem.Challenge.RW_cornerpiles_k68_whole_shares_and_counts
open PySem renaming wpAny_bind->Ah,wpAny_pure->Aq,Value->Ae,Shared->Ai,sizeLine->Aw,wpAny->Am,Program->AD,starEach->Bi,model->Ax,wpAny_newObj_type->Es,compareOp->BP,wpAny_callSpecial?_slot->Hb,World->AA,Around->Bf,wpAny_call_entry->FU,wpAny_field->DZ,cellsFrom->CT,Paired->Bv,wpAny_truthy_bool->Ha,wpAny_dictEntries->GZ,mainGlobals->Ep,intItems->C2,sysModules->EE,assignEach->ED,NameKind->Dd,wpAny_seqItems->GY,DictEntry->En,IsPair->BZ,FuncData->DG,wpAny_typeNameOfWhole_valiter->N9,wpAny_typeNameOfWhole_keyiter->N8,Scope->Bu,wpAny_setField_rec->JS,wpAny_passesOwn->IE,binaryOp->Em,numAt->B6,mem_of_lookup->Lg,wpAny_typeNameOf_valiter->N3,wpAny_typeNameOf_keyiter->N1,wpAny_mono->Gz,bootBuiltins->HL,wpAny_pyIter_tuple->Lf,wpAny_holding->ID,wpAny_dictEpoch->JQ,tupleKind->FR,behindInMarks->IC,wpAny_setField->JP,wpAny_fieldsOf->JO,firstArgMember->JN,wpAny_isInstance->Ld,rawInt->Dv,wpAny_attempt->JK,sliceBounds->I0,cLine->Cp,wpAny_Call_Name_kw->Nv,tupleKind_room_in1->Nu,pyNext->Ek,foldedSetIterable->Nt,intItems_at->JJ,Operator->GW,wpAny_pyIter_zip->Nq,PyData->EB,wpAny_specialOf->Np,wpAny_notOrdered_dict->Qx,wpAny_isOneOf_valiter->Qw,wpAny_isOneOf_keyiter->Qu,wpAny_execs_nil->Nn,letOwnedTupleGo->Nm,IsZip->Dc,Builtin->vl7,entryOfKey->JI,wpAny_updateSeq_pair->Qs,wpAny_pyIter_revIter->Qr,backTo->Fy,wpAny_standAt->Nj,wpAny_onRaise->Ni,swappedStores->Nh,relabel->HJ,getItem->HI,codeAny->HH,noFill_tuple_add->Qi,wpAny_letGo->Nf,valueAt->Iy,seqIndex_of->Nc,pushCells_keeps->Qh,importedModules->Qg,callerA->Iw,assign->GU,IsRangeIter->Nb,wpAny_letOwnedTupleGo_zip->Vr,newFunctionEnv->Qe,isSubtype_stop->Qd
open PySem.Heap renaming get?_push_of_some->AS,get?_push_size->Bw,lt_size->AI,size_push->Fz,get?_update_self->JU,get?_update_other->Nw,SameBut->IA
open PyProof.Rows renaming callWith_type1->Hc,IntsAre->EC,AllBare->FQ,subscriptTail->Ng,assignInOrder_cons->Qp,slot_tuple_getitem->V2,envOfC->GV
open PySem.Builtin.SmallTypes renaming nextOf->HQ,ownedTupleIsFree->NI,ownedTupleHandOut->V4
open PySem.W renaming kia_one->FT,boot_heap->Eo,kitOne->HN,findIn->HM,keepIn->JM,fnOf->IB,hideAll_get->Qq,methodObj->Qn,boot_heap->Qm,instObj->Qf,lookIn->Qc,codeIn->Qb
open PySem.Builtin.Dict_items renaming ownsTuple->Li
open PySem.Str renaming ofString->G0
open PySem.F renaming slot_dict_valueiterator_next->NA,slot_dict_keyiterator_next->N7,slot_tuple_iterator_next->N5,args_tuple_add_2->Q0,entry_tuple_add->Qz,slot_tuple_add->Qy,slot_zip_next->Nk,args_dict_valueiterator_next_1->V3,entry_dict_valueiterator_next->V1,args_dict_keyiterator_next_1->Vz,entry_dict_keyiterator_next->Vy,args_tuple_iterator_next_1->Vx,entry_tuple_iterator_next->Vu
open PySem.Heap.SameBut renaming update->JT
open PySem.Obj renaming data_mapFields->JR,mapSeq->Iz,mapFields->Lb,isFreed_of_fields->Qt,cls_mapFields->Qk
open PySem.Builtin.List renaming listExtendWith->N6,listTooLong->Ny
open PySem.Builtin.Dict renaming showsAll->Lh,entriesForEmpty->Vv
open Ne renaming symm->Dw
open PySem.Builtin.Slice renaming slicePlaces->N4,sliceAdjust->Q2,sliceApplied->Vs
open PySem.PyData renaming eqv->Gy,canLay0->JL,depthAll->Lc,canLayAll0->Ql
open False renaming elim->Gx
open PySem.Builtin.Tuple renaming tupleExact->Nz,tupleHashOf->Q3
open PySem.SeqAt renaming EqAt->HK
open PySem.Builtin.Str renaming strSliceIndices->Q5
open Decidable renaming byContradiction->Q4
open PySem.SeqAt.EqAt renaming same->Nl
open PySem.Calls renaming spliced_cons->Qo,spliced_nil->Qj,Name_function_global->Vt
open List renaming getD_eq_getElem?_getD->AN,mem_cons_of_mem->AO,mem_cons_self->AM,replicate->A9,length_map->AJ,range->Ay,length_append->Br,getElem?_eq_getElem->BU,getElem?_eq_some_iff->jb0,all_eq_true->jb1,getElem?_append_left->C9,size_toArray->BC,map_cons->Bc,length_cons->B8,mem_range->jb8,mem_cons->jb9,mem_append_right->CM,mem_map->jc2,getElem?_map->CL,getElem?_append_right->FG,length_replicate->EM,getElem?_eq_none->Fh,mem_singleton->jd0,map_map->Cr,replicate_succ->EL,map_congr_left->EK,getElem?_replicate->Gi,map_append->Dz,getElem?_set_self->Gh,length_singleton->Gg,filter_cons->Ez,getElem?_set_ne->Gf,lookup_cons->EJ,mem_filter->je4,sum_cons->Dy,length_set->EI,length_range->FF,range_succ->EH,filter_eq_self->je9,nil_append->Fg,mem_flatMap->jf1,append_nil->FE,mem_append_left->Ib,getElem_of_mem->Ia,flatMap_cons->Hr,length_eq_zero_iff->jg6,mem_append->jg8,nodup_cons->jg9,zip_cons_cons->Ja,not_mem_nil->HY,getElem_mem->HW,cons_append->HU,all_cons->G6,flatten_cons->IZ,append_assoc->IY,length_reverse->Kk,filter_eq_nil_iff->ji3,length_take->IX,filter_congr->Ki,filterMap_cons->Mg,flatMap_append->Mf,length_drop->Kh,drop_eq_nil_of_le->OG,take_of_length_le->OF,of_mem_zip->Kg,find?_cons->Kf,length_filter_le->OE,mem_of_getElem?->OD,getElem?_of_mem->OC,getElem?_range->OB,map_nil->IW,length_nil->Md,length_zip->Mc,filter_map->Mb,sum_append->LZ,reverse_cons->OA,range'->IV,getElem?_reverse->SR,ext_getElem->O9,any_cons->LX,forIn_cons->O7,getElem?_concat_length->qi,mem_filterMap->jm1,all_nil->LV,pairwise_cons->jm5,drop_eq_getElem_cons->qh,getElem?_zip_eq_some->qg,getLast?_eq_getElem?->qf,getElem?_take_of_lt->qd,getLast?_nil->SK,pairwise_map->SJ,nodup_append->SI,getElem?_cons_succ->qc,filter_cons_of_neg->qb,filter_cons_of_pos->qa,getLast?_singleton->ZZ,foldl_cons->SF,pairwise_flatMap->ZW,getLast?_append->ZV,getElem?_append->ZU,getLast?_concat->ZT,mem_of_mem_drop->ZS,forIn_nil->SD,drop_zero->SA,mem_map_of_mem->ZQ,filter_flatMap->ZP,findIdx?_cons->ZL,drop_nil->S7,take_sublist->ZJ,zipWith->S6,zipIdx_cons->ZC,range'_succ->Z9,flatMap_nil->Z8,append_inj'->Z7,sum->LR,length->S5,zipIdx_nil->Z4,all_append->Z1,take_zero->Zz,take_left->Zy,foldl->S3,take_nil->Zv,map_drop->Zt,getD->S1,sum_nil->Zn
open Bool renaming and_eq_true->AK,false_ne_true->BK,eq_iff_iff->Eb,false_eq_true->G7,or_eq_true->Ga,not_eq_true'->Kj,and_true->HS,false_xor->LY,and_false->O5,eq_false_iff->jn7,or_false->O4,and_eq_true_iff->jp7,false_or->S8,true_and->Zu,or_true->Zm
open Nat renaming le_refl->A4,lt_of_lt_of_le->BL,le_trans->BF,ne_of_lt->BJ,lt_irrefl->Di,mul_le_mul_right->Hs,lt_succ_self->Gd,zero_le->Ea,ne_of_gt->EG,mul_le_mul->FZ,le_of_succ_le->HZ,mul_comm->FD,le_add_right->HX,gcd->Cn,zero_add->Hq,lt_succ_of_lt->Me,gcd_pos_of_pos_right->SU,min_eq_left->Ma,le_of_lt->LW,add_sub_cancel->SQ,pow_succ->LU,gcd_comm->LS,eq_of_mul_eq_mul_left->qe,gcd_le_right->SH,mul_lt_mul''->SG,lt_of_succ_lt_succ->ZY,le_mul_of_pos_left->ZX,succ_mul->O3,sub_self->O2,sub_zero->O1,mul_div_mul_left->ZR,le_succ->O0,add_mul->Oz,mul_div_cancel'->ZO,gcd_zero_right->ZK,gcd_dvd_right->ZI,mul_left_comm->ZH,lt_of_succ_lt->ZG,min_le_right->ZF,succ_ne_zero->ZD,succ_le_succ->ZA,zero_lt_succ->Z6,gcd_mul_left->Z5,min_le_left->Z2,mul_pos->S4,mul_assoc->Zs,add_comm->Zq,lt_or_ge->Zp,lt_trans->Zo,min_self->Zj,one_mul->Zi,gcd_rec->Zg
open Option renaming map_eq_some_iff->jc0,bind_eq_some_iff->jh7,map_some->O8,filter_eq_some_iff->jn0,isSome_iff_exists->jn4,isSome_map->SN,isSome_some->ZM,getD_none->ZE,some_or->Zx
open Int renaming toNat_natCast->CU,le_refl->C5,natCast_mul->Gb,le_trans->EF,zero_add->Ho,emod_nonneg->O6,emod_lt_of_pos->SO,natCast_add->SE,mul_le_mul->S9,le_antisymm->Z3,mul_nonneg->Zw,le_of_eq->Zl,add_mul->Zh
open Array renaming getElem?_eq_none->Jb,length_toList->Kl,getElem?_toList->SS,toList_eq_nil_iff->jo2,append_assoc->ZN,toList->Zr
set_option Elab.async false
set_option linter.all false
set_option maxRecDepth 100000
set_option autoImplicit false
set_option maxHeartbeats 2000000
namespace L2
open PySem PySem.Spec PyProof.Rows
def Im (s:Stmt):Arguments:=match s with
 | .FunctionDef _ a _ _ _ _ _ _ _ _=>a
 | _=>{ posonlyargs:=[],args:=[],vararg:=none,kwonlyargs:=[],kw_defaults:=[],kwarg:=none,defaults:=[] }
def Hz (s:Stmt):List Stmt:=match s with
 | .FunctionDef _ _ b _ _ _ _ _ _ _=>b
 | _=>[]
def CZ (s:Stmt):Bu:=match s with
 | .FunctionDef _ _ _ _ _ _ sc _ _ _=>sc
 | _=>{ kind:=.function,names:=[],isGenerator:=false,isCoroutine:=false }
end L2
namespace QQ
open PySem PySem.Spec PySem.W PySem.Calls PyProof.Rows L2
abbrev Frag:=PySem.W.Frag
def XN:List Str:=["PileError","NoBox","NoPile","NoStairs","NoWays","NoRoad","NoNumber","NoPlace","TooMany","NoText","NoName","NoRow"]
def QN (K:Frag) (x:Str):Option Addr:=match PySem.W.nsIn K Ep x with
  | some (some (.ref C))=>some C
  | _=>none
def Dt (K:Frag) (c:Nat):Option Addr:=match XN[c]? with
 | some x=>QN K x
 | none=>none
def bmV:List Ae:=[.type "ValueError",.type "Exception",.type "BaseException",.type "object"]
def Hn (K:Frag) (C:Addr):List Ae:=match K.lookup C with
 | some ⟨_,_,.cls cd,_⟩=>cd.mro
 | _=>[]
def OH (c d:Nat):Bool:=c == d || d == 0
def Fd (K:Frag):Bool:=(Ay 12).all λ c=>match Dt K c with
 | some C=>PySem.W.excIn K C bmV "ValueError.__new__" && (Ay 12).all λ d=>(match Dt K d with
  | some D=>(Hn K C).contains (.ref D) == OH c d
  | none=>true)
 | none=>true
def vD (K:Frag) (C:Addr):Bool:=(PySem.W.clsIn K C).isSome && PySem.W.mroIn K C (.type "object") == some true && PySem.W.mroIn K C (.type "BaseException") == some true && HM K (.ref C) "__class__" == some (some (.builtin "object.__class__")) &&
 HM K (.ref C) "__getattribute__" == some (some (.builtin "BaseException.__getattribute__")) && HM K (.ref C) "__getattr__" == some none
def La (K:Frag):Bool:=HN K (.type "NoneType") (.type "ValueError") == some false && (Ay 12).all λ c=>match Dt K c with
 | some C=>vD K C && HN K (.type "NoneType") (.ref C) == some false && HN K (.ref C) (.type "ValueError") == some true && (Ay 12).all λ d=>(match Dt K d with
  | some D=>HN K (.ref C) (.ref D) == some (OH c d)
  | none=>true)
 | none=>true
def zyi:List Str:=["len","isinstance","all","max","min","tuple","list","range","int","bool","str","dict","sum","enumerate","zip","reversed","set","ValueError","sorted","abs"]
def J4 (tb:String->Option vl7) (p:AD) (w:AA) (n₀:Nat) (ann:Option Ae):Nat->SharedT->Thread->Option SharedT
 | 0,_,_=>none
 | n + 1,s,t=>match through t with
  | true=>some s
  | false=>match stepOk n₀ ann t with
   | false=>none
   | true=>match stepT (denote tb) p w s t with
    | some (s',t')=>J4 tb p w n₀ ann n s' t'
    | none=>none
def Zf:List Obj->Nat->BT->BT
 | [],_,t=>t
 | o::r,n,t=>Zf r (n + 1) (t.ins n o)
noncomputable def bootT (P:Params):BT:=Zf (Eo P).objs.toList 0 .nil
noncomputable def bootS (P:Params) (os:OsState):SharedT:=⟨bootT P,(Eo P).objs.size,(Eo P).life,#[],boot_drawn,boot_toks,os⟩
def RV {α:Type} (p q:AD) (loose:List Str) (Xt:Ai->Bool) (Yf:Ai->α) (H:Heap) (s:Ai):=
 ((staticsOk (Qg p.main.body) H s.heap && namesBound p s.heap && gensDone s && laidKept H s.heap),openSeen q loose (Qg p.main.body) Xt true s,Yf s)
def LQ (h:Heap):Frag:=(Ay h.objs.size).filterMap λ a=>(h.get? a).map λ o=>(a,o)
structure DefSeen where
 name:Str
 qual:Str
 params:Arguments
 body:FuncBody
 scope:Bu
 globals:Addr
 closure:List (Str×Addr)
 defaults:Ae
 builtins:Addr
 code:Bool
def Su (K:Frag) (x:Str):Option DefSeen:=match nsIn K Ep x with
 | some (some (.ref g))=>(match K.lookup g with
  | some ⟨_,_,.func fd,_⟩=>some ⟨fd.name,fd.qualname,fd.params,fd.body,fd.scope,fd.globals,fd.closure,fd.defaults,fd.builtins,codeIn K fd.code x⟩
  | _=>none)
 | _=>none
def R5 (x:Str) (st:Stmt):DefSeen:=⟨x,x,Im st,.stmts (Hz st),CZ st,mainNs,[],.none,0,true⟩
def Bp:Stmt->Str
 | .FunctionDef x ..=>x
 | _ => ""
def KY (ds:List Stmt) (xc:List Nat) (K:Frag):List (Option DefSeen)×List (Option (Option Ae))×Bool:=
 (ds.map λ d=>Su K (Bp d),zyi.map λ x=>nsIn K Ep x,xc.isEmpty || (Fd K && La K && xc.all λ c=>(Dt K c).isSome && match XN[c]? with
  | some x=>!(x == ("__debug__" : Str))
  | none=>false))
def KI (ds:List Stmt):List (Option DefSeen)×List (Option (Option Ae))×Bool:=(ds.map λ d=>some (R5 (Bp d) d),zyi.map λ _=>some none,true)
end QQ
namespace K68
open PySem PySem.Spec PyProof.Rows L2 QQ
def top (i:Nat):Stmt:=PySem.Challenge.pw_cornerpiles_k68_whole_shares_and_counts.main.body.getD i (.Pass ⟨0,0,0,0⟩)
end K68
namespace L2
open PySem PySem.Spec PyProof.Rows
abbrev A2:=Sum Int Str
def JY:A2->Ae->Bool
 | .inl k,v=>Value.isInt k v
 | .inr x,v=>Value.isStrOf x v
def S0 (w:AA):A2->Int
 | .inl k=>hashInt k
 | .inr x=>hashStr w x
theorem GA:∀ {k:A2}{v:Ae},JY k v=true->(∃ i t,k=Sum.inl i/\v=Value.int i t)\/(∃ x t,k=Sum.inr x/\v=Value.str x t)
 | .inl i,v,h=>by
  obtain ⟨t,e⟩:=Value.isInt_shape (k:=i) (v:=v) h;exact .inl ⟨i,t,rfl,e⟩
 | .inr x,v,h=>by
  obtain ⟨t,e⟩:=Value.isStrOf_shape (x:=x) (v:=v) h;exact .inr ⟨x,t,rfl,e⟩
def bp (i:Int) (t:Tok):JY (.inl i) (.int i t)=true:=by simp [JY,Value.isInt]
def bq (x:Str) (t:Tok):JY (.inr x) (.str x t)=true:=by simp [JY,Value.isStrOf]
def jL (a b:Int):decide ((Sum.inl a:A2)=Sum.inl b)=(a == b):=by
 by_cases e:a=b
 ·subst e;simp
 ·have h:¬ (Sum.inl a:A2)=Sum.inl b:=λ q=>e (Sum.inl.inj q);rw [decide_eq_false h];exact (beq_eq_false_iff_ne.mpr e).symm
def jz (a b:Str):decide ((Sum.inr a:A2)=Sum.inr b)=decide (a=b):=by
 by_cases e:a=b
 ·subst e;simp
 ·have h:¬ (Sum.inr a:A2)=Sum.inr b:=λ q=>e (Sum.inr.inj q);rw [decide_eq_false h,decide_eq_false e]
def jM (a:Int) (b:Str):decide ((Sum.inl a:A2)=Sum.inr b)=false:=decide_eq_false (λ q=>nomatch q)
def jy (a:Str) (b:Int):decide ((Sum.inr a:A2)=Sum.inl b)=false:=decide_eq_false (λ q=>nomatch q)
def Cy (prog:AD) (w:AA):PySem.KeyKind prog w A2 where
 is:=JY
 hash:=S0 w
 inj:=λ v a b ha hb=>by
  rcases GA ha with ⟨i,t,rfl,rfl⟩ | ⟨x,t,rfl,rfl⟩
  ·rcases GA hb with ⟨j,u,rfl,e⟩ | ⟨y,u,rfl,e⟩
   ·injection e with e1 _;rw [e1]
   ·exact nomatch e
  ·rcases GA hb with ⟨j,u,rfl,e⟩ | ⟨y,u,rfl,e⟩
   ·exact nomatch e
   ·injection e with e1 _;rw [e1]
 byValue:=λ k v h=>by
  rcases GA h with ⟨i,t,rfl,rfl⟩ | ⟨x,t,rfl,rfl⟩ <;> rfl
 pyHash:=λ hv h=>by
  rcases GA hv with ⟨i,t,rfl,rfl⟩ | ⟨x,t,rfl,rfl⟩
  ·exact wpAny_pyHash_int h
  ·exact wpAny_pyHash_str h
 eqBool:=λ hu hv h=>by
  rcases GA hu with ⟨i,t,rfl,rfl⟩ | ⟨x,t,rfl,rfl⟩
  ·rcases GA hv with ⟨j,u,rfl,rfl⟩ | ⟨y,u,rfl,rfl⟩
   ·rw [jL] at h;exact wpAny_eqBool_int h
   ·rw [jM] at h;exact SeqAt.EqAt.int_str i t y u _ _ _ _ h
  ·rcases GA hv with ⟨j,u,rfl,rfl⟩ | ⟨y,u,rfl,rfl⟩
   ·rw [jy] at h;exact SeqAt.EqAt.str_int x t j u _ _ _ _ h
   ·rw [jz] at h;exact wpAny_eqBool_str h
 «strs»:=λ k x t v h=>by
  rcases GA h with ⟨i,u,rfl,e⟩ | ⟨y,u,rfl,e⟩
  ·exact nomatch e
  ·injection e with e1 _
   subst e1;cases v <;> rfl
def dE (prog:AD) (w:AA) (i:Int) (t:Tok):(Cy prog w).is (.inl i) (.int i t)=true:=bp i t
def dF (prog:AD) (w:AA) (x:Str) (t:Tok):(Cy prog w).is (.inr x) (.str x t)=true:=bq x t
inductive V where
 | non | bl (b:Bool) | int (i:Int) | str (x:Str) | byt (b:Array UInt8) | flt (b:UInt64) | ref (a:Addr) | ty (n:String)
 deriving DecidableEq
def RelV:V->Ae->Prop
 | .non,u=>u=Value.none
 | .bl b,u=>u=Value.bool b
 | .int i,u=>∃ t,u=Value.int i t
 | .str x,u=>∃ t,u=Value.str x t
 | .byt b,u=>∃ t,u=Value.bytes b t
 | .flt b,u=>∃ t,u=Value.float b t
 | .ref a,u=>u=Value.ref a
 | .ty n,u=>u=Value.type n
abbrev Vals:List V->List Ae->Prop:=Bv RelV
def Vals.length {xs:List V}{us:List Ae} (r:Vals xs us):xs.length=us.length:=Paired.length r
theorem Vals.get:∀ {xs:List V}{us:List Ae}{i:Nat}{x:V},Vals xs us->xs[i]?=some x->∃ u,us[i]?=some u/\RelV x u
 | _,_,_,_,.nil,e=>by simp at e
 | _,_,0,_,.cons r _,e=>by simp at e;subst e;exact ⟨_,rfl,r⟩
 | _,_,i + 1,x,.cons _ t,e=>by
  obtain ⟨u,h1,h2⟩:=Vals.get (i:=i) (x:=x) t (by simpa using e);exact ⟨u,by simpa using h1,h2⟩
theorem Vals.set {x:V}{u:Ae} (r:RelV x u):∀ {xs:List V}{us:List Ae} (i:Nat),Vals xs us->Vals (xs.set i x) (us.set i u)
 | _,_,_,.nil=>.nil
 | _,_,0,.cons _ t=>.cons r t
 | _,_,i + 1,.cons q t=>.cons q (Vals.set r i t)
theorem Vals.append:∀ {xs ys:List V}{us ws:List Ae},Vals xs us->Vals ys ws->Vals (xs++ys) (us++ws)
 | _,_,_,_,.nil,s=>s
 | _,_,_,_,.cons r t,s=>.cons r (Vals.append t s)
theorem Vals.take:∀ {xs:List V}{us:List Ae} (n:Nat),Vals xs us->Vals (xs.take n) (us.take n)
 | _,_,0,_=>.nil
 | _,_,_ + 1,.nil=>.nil
 | _,_,n + 1,.cons r t=>.cons r (Vals.take n t)
theorem Vals.drop:∀ {xs:List V}{us:List Ae} (n:Nat),Vals xs us->Vals (xs.drop n) (us.drop n)
 | _,_,0,r=>r
 | _,_,_ + 1,.nil=>.nil
 | _,_,n + 1,.cons _ t=>Vals.drop n t
def RelO:Option V->Option Ae->Prop
 | some v,some u=>RelV v u
 | none,none=>True
 | _,_=>False
def KV {κ:Type}:List (κ×V)->List (κ×Ae)->Prop:=Bv λ (p:κ×V) (q:κ×Ae)=>p.1=q.1/\RelV p.2 q.2
def kV:A2->V
 | .inl i=>.int i
 | .inr x=>.str x
inductive HO where
 | lst (xs:List V)
 | tup (xs:List V)
 | dK (kvs:List (A2×V)) | dT (kvs:List (List A2×V))
 | set (S:Int->Bool) (n:Nat)
 | ins (C dx:Addr) (fs:List (Str×V))
 | own (x:Addr)
 | xd (fs:List (Str×V))
 | met (f x:Addr)
 | rng (lo hi:Int)
 | frz (o:Obj) (u:HO)
 | tbl (ps:Array Ae)
 | ext (φ:Heap->Prop)
abbrev Hp:=Addr->Option HO
def As (H:Hp) (a:Addr) (o:HO):Hp:=λ b=>if b=a then some o else H b
def BI {H:Hp}{a:Addr}{o:HO}:As H a o a=some o:=by unfold As;rw [if_pos rfl]
def AL {H:Hp}{a b:Addr}{o:HO} (h:b≠a):As H a o b=H b:=by unfold As;rw [if_neg h]
def zw {H:Hp}{a b:Addr}{o u:HO} (h:H a=some o) (h':H b=some u) (d:o≠u):a≠b:=by
 intro e;subst e;rw [h] at h';exact d (Option.some.inj h')
def J5 {H:Hp}{a b:Addr}{o:HO} (h:H a=some o) (h':H b=none):a≠b:=by
 intro e;subst e;rw [h] at h';cases h'
section
variable (P:AD) (w:AA)
def zxg (H:Hp) (h:Heap) (a:Addr):HO->Prop
 | .lst xs=>xs.length<=Aw/\∃ (its:List Ae) (n:Nat),Vals xs its/\h.get? a=some { cls:=.type "list",data:=.seq its.toArray n }
 | .tup xs=>xs.length<=Aw/\∃ its:List Ae,Vals xs its/\IsTup h a its.toArray
 | .dK kvs=>kvs.length<=Aw/\(a == EE)=false/\∃ vs,KV kvs vs/\h.DictOf (Cy P w) a vs
 | .dT kvs=>kvs.length<=Aw/\(a == EE)=false/\∃ xs:List (List A2×Addr×Ae),
   Bv (λ (p:List A2×V) (q:List A2×Addr×Ae)=>p.1=q.1/\H q.2.1=some (.tup (p.1.map kV))/\RelV p.2 q.2.2) kvs xs /\
   ∃ o es ep,h.get? a=some o/\o.ExactDict/\o.data=.dict es ep/\es.toList=xs.map (JI (FR (Cy P w)))/\(xs.map (·.1)).Nodup
 | .set S n=>h.SetOf (intKind P w) a S n
 | .ins C dx fs=>H dx=some (.own a)/\fs.length<=1000/\dx≠a/\h.get? a=some (Qf C dx) /\
   ∃ mA,h.Ns1 dx mA/\(∀ f,RelO (fs.lookup f) (mA f))/\PySem.Within mA (fs.map (·.1))
 | .own _=>∃ o,h.get? a=some o
 | .xd fs=>∃ mA,h.Ns1 a mA/\∀ f,RelO (fs.lookup f) (mA f)
 | .rng lo hi=>∃ t u v,h.get? a=some { cls:=.type "range",data:=.fields #[.int lo t,.int hi u,.int 1 v] }
 | .frz o u=>h.get? a=some o/\zxg H h a u
 | .tbl ps=>h.get? a=some { cls:=.none,data:=.fields ps }
 | .met f x=>h.get? a=some (Qn (.ref f) (.ref x))
 | .ext φ=>φ h/\(∃ o,h.get? a=some o)/\∀ h1 h2:Heap,φ h1->(∀ o,h1.get? a=some o->h2.get? a=some o)->φ h2
def HOk (H:Hp) (h:Heap):Prop:=∀ a o,H a=some o->zxg P w H h a o
end
section
variable {P:AD}{w:AA}{H H':Hp}{h h':Heap}{a:Addr}{o:HO}
theorem zxg.lt (x:zxg P w H h a o):a < h.objs.size:=by
 cases o with
 | lst xs=>obtain ⟨_,_,_,_,e⟩:=x;exact AI e
 | tup xs=>obtain ⟨_,_,_,p⟩:=x;exact p.lt
 | dK kvs=>obtain ⟨_,_,_,_,o,_,_,e,_⟩:=x;exact AI e
 | dT kvs=>obtain ⟨_,_,_,_,o,_,_,e,_⟩:=x;exact AI e
 | set S n=>obtain ⟨o,_,_,_,e,_⟩:=x;exact AI e
 | ins C dx fs=>obtain ⟨_,_,_,e,_⟩:=x;exact AI e
 | own y=>obtain ⟨_,e⟩:=x;exact AI e
 | xd fs=>obtain ⟨_,⟨_,_,_,e,_⟩,_⟩:=x;exact AI e
 | rng lo hi=>obtain ⟨_,_,_,e⟩:=x;exact AI e
 | frz ob u=>obtain ⟨e,_⟩:=x;exact AI e
 | tbl ps=>exact AI (show h.get? a=some _ from x)
 | met f y=>exact AI (show h.get? a=some _ from x)
 | ext φ=>obtain ⟨_,⟨_,e⟩,_⟩:=x;exact AI e
theorem Paired.mapP {α β:Type}{F G:α->β->Prop}:∀ {l₁:List α}{l₂:List β},Bv F l₁ l₂->(∀ a b,F a b->G a b)->Bv G l₁ l₂
 | _,_,.nil,_=>.nil
 | _,_,.cons r t,f=>.cons (f _ _ r) (Paired.mapP t f)
theorem zxg.stay (x:zxg P w H h a o) (k:∀ b u,(b=a\/H b=some (.own a))->h.get? b=some u->h'.get? b=some u)
  (ho:∀ b,H b=some (.own a)->H' b=some (.own a)) (ht:∀ b xs,H b=some (.tup xs)->H' b=some (.tup xs)):zxg P w H' h' a o:=by
 induction o with
 | lst xs=>obtain ⟨z,its,n,r,e⟩:=x;exact ⟨z,its,n,r,k _ _ (.inl rfl) e⟩
 | tup xs=>obtain ⟨z,its,r,ob,e,c⟩:=x;exact ⟨z,its,r,ob,k _ _ (.inl rfl) e,c⟩
 | dK kvs=>obtain ⟨z,y,vs,r,ob,es,ep,e,c⟩:=x;exact ⟨z,y,vs,r,ob,es,ep,k _ _ (.inl rfl) e,c⟩
 | dT kvs=>
  obtain ⟨z,y,xs,r,ob,es,ep,e,c⟩:=x;exact ⟨z,y,xs,Paired.mapP r λ p q z=>⟨z.1,ht _ _ z.2.1,z.2.2⟩,ob,es,ep,k _ _ (.inl rfl) e,c⟩
 | set S n=>obtain ⟨ob,es,ep,t,e,c⟩:=x;exact ⟨ob,es,ep,t,k _ _ (.inl rfl) e,c⟩
 | ins C dx fs=>
  obtain ⟨d,z,ne,e,mA,⟨od,es,ep,e2,c⟩,r⟩:=x;exact ⟨ho _ d,z,ne,k _ _ (.inl rfl) e,mA,⟨od,es,ep,k _ _ (.inr d) e2,c⟩,r⟩
 | own y=>obtain ⟨ob,e⟩:=x;exact ⟨ob,k _ _ (.inl rfl) e⟩
 | xd fs=>obtain ⟨mA,⟨od,es,ep,e,c⟩,r⟩:=x;exact ⟨mA,⟨od,es,ep,k _ _ (.inl rfl) e,c⟩,r⟩
 | rng lo hi=>obtain ⟨t,u,v,e⟩:=x;exact ⟨t,u,v,k _ _ (.inl rfl) e⟩
 | frz ob u ih=>obtain ⟨e,q⟩:=x;exact ⟨k _ _ (.inl rfl) e,ih q⟩
 | tbl ps=>
  have e:h.get? a=some { cls:=.none,data:=.fields ps }:=x;show h'.get? a=some { cls:=.none,data:=.fields ps };exact k a _ (.inl rfl) e
 | met f y=>
  have e:h.get? a=some (Qn (.ref f) (.ref y)):=x;show h'.get? a=some (Qn (.ref f) (.ref y));exact k a _ (.inl rfl) e
 | ext φ=>obtain ⟨p,⟨o,e⟩,st⟩:=x;exact ⟨st _ _ p λ o q=>k _ _ (.inl rfl) q,⟨o,k _ _ (.inl rfl) e⟩,st⟩
def HOk.lt (x:HOk P w H h) (e:H a=some o):a < h.objs.size:=(x a o e).lt
theorem HOk.fresh (x:HOk P w H h) (e:h.objs.size<=a):H a=none:=by
 cases q:H a with
 | none=>rfl
 | some u=>exact absurd (BL (x.lt q) e) (Di _)
def HOk.kept (x:HOk P w H h) (k:∀ b u,h.get? b=some u->h'.get? b=some u):HOk P w H h':=λ a o e=>
 (x a o e).stay (λ b u _ q=>k b u q) (λ _ q=>q) λ _ _ q=>q
def HOk.laid (x:HOk P w H h) (k:∀ b u,h.get? b=some u->h'.get? b=some u) (hp:h.objs.size<=a) (new:zxg P w (As H a o) h' a o):HOk P w (As H a o) h':=λ b u e=>by
 have hn:=x.fresh hp;by_cases hb:b=a
 ·subst hb;rw [BI] at e;cases e;exact new
 ·rw [AL hb] at e;exact (x b u e).stay (λ c v _ q=>k c v q) (λ c q=>by rw [AL (J5 q hn)];exact q) λ c xs q=>by rw [AL (J5 q hn)];exact q
end
def Rd (H:Hp) (a:Addr) (u:HO):Prop:=H a=some u\/∃ o,H a=some (.frz o u)
def Rd.ok {P:AD}{w:AA}{H:Hp}{h:Heap}{a:Addr}{u:HO} (r:Rd H a u) (x:HOk P w H h):zxg P w H h a u:=by
 rcases r with r | ⟨o,r⟩
 ·exact x a u r
 ·obtain ⟨_,q⟩:=x a _ r;exact q
def Mv:Option HO->Prop
 | some (.lst _)=>True
 | some (.dK _)=>True
 | some (.dT _)=>True
 | some (.set _ _)=>True
 | some (.ins _ _ _)=>True
 | some (.ext _)=>True
 | _=>False
section
variable {P:AD}{w:AA}{H:Hp}{h h':Heap}{x e:Addr}{o':HO}
def HOk.write (ok:HOk P w H h) (mu:Mv (H x)) (he:e=x\/H e=some (.own x)) (k:∀ b u,b≠e->h.get? b=some u->h'.get? b=some u) (heo:∃ u,h'.get? e=some u)
  (new:zxg P w (As H x o') h' x o'):HOk P w (As H x o') h':=λ b u q=>by
 have nown:∀ c y,H c=some (.own y)->c≠x:=λ c y r z=>by subst z;rw [r] at mu;exact mu
 have ntup:∀ c xs,H c=some (.tup xs)->c≠x:=λ c xs r z=>by subst z;rw [r] at mu;exact mu
 by_cases hb:b=x
 ·subst hb;rw [BI] at q;cases q;exact new
 ·rw [AL hb] at q;by_cases hbe:b=e
  ·have q':H b=some (.own x):=by
    rcases he with z | z
    ·exact absurd (hbe.trans z) hb
    ·rw [hbe];exact z
   rw [q] at q';cases q';obtain ⟨v,hv⟩:=heo;exact ⟨v,by rw [hbe];exact hv⟩
  ·refine (ok b u q).stay (λ c v hc r=>k c v ?_ r) (λ c r=>by rw [AL (nown c b r)];exact r) λ c xs r=>by rw [AL (ntup c xs r)];exact r
   rcases hc with rfl | hc
   ·exact hbe
   ·rintro rfl;rcases he with z | z
    ·exact nown c b hc z
    ·rw [hc] at z;cases z;exact hb rfl
end
structure Un (fs ex:List Addr) (H H':Hp) (h h':Heap):Prop where
 keep:∀ b o,h.get? b=some o->H b=none->b∉fs->b∉ex->h'.get? b=some o
 slot:∀ b o,h.get? b=some o->H b=none->b∈fs->b∉ex->∃ sl,h'.get? b=some { o with slots:=sl }
 free:∀ b o,h.get? b=some o->H b=none->b∉ex->H' b=none
 there:∀ b o,h.get? b=some o->b∉ex->∃ o',h'.get? b=some o'
 tups:∀ b xs,H b=some (.tup xs)->H' b=some (.tup xs)
 frzs:∀ b o u,H b=some (.frz o u)->H' b=some (.frz o u)
 tbls:∀ b ps,H b=some (.tbl ps)->∃ more,H' b=some (.tbl (ps++more))
section
variable {fs fs' ex ex':List Addr}{H H1 H2:Hp}{h h1 h2 h':Heap}{a x e:Addr}{o:HO}
def Un.any (u:Un fs ex H H1 h h1) {b:Addr}{ob:Obj} (q:h.get? b=some ob) (n:H b=none) (hx:b∉ex):∃ sl,h1.get? b=some { ob with slots:=sl }:=by
 by_cases hb:b∈fs
 ·exact u.slot b ob q n hb hx
 ·exact ⟨ob.slots,u.keep b ob q n hb hx⟩
def Un.kept (k:∀ b u,h.get? b=some u->h'.get? b=some u):Un fs ex H H h h':=
 ⟨λ b ob q _ _ _=>k b ob q,λ b ob q _ _ _=>⟨ob.slots,k b ob q⟩,λ _ _ _ n _=>n,λ b ob q _=>⟨ob,k b ob q⟩,λ _ _ q=>q,λ _ _ _ q=>q,λ _ ps q=>⟨#[],by rw [q];simp⟩⟩
def Un.refl:Un fs ex H H h h:=Un.kept λ _ _ q=>q
def Un.laid (k:∀ b u,h.get? b=some u->h'.get? b=some u) (hp:h.objs.size<=a) (hn:H a=none):Un fs ex H (As H a o) h h' where
 keep:=λ b u q _ _ _=>k b u q
 slot:=λ b u q _ _ _=>⟨u.slots,k b u q⟩
 free:=λ b u q n _=>by rw [AL (BJ (BL (AI q) hp))];exact n
 there:=λ b u q _=>⟨u,k b u q⟩
 tups:=λ b xs q=>by rw [AL (J5 q hn)];exact q
 frzs:=λ b u xs q=>by rw [AL (J5 q hn)];exact q
 tbls:=λ b ps q=>⟨#[],by rw [AL (J5 q hn),q];simp⟩
def Un.write (mu:Mv (H x)) (he:e=x\/H e=some (.own x)) (k:∀ b u,b≠e->h.get? b=some u->h'.get? b=some u) (heo:∃ u,h'.get? e=some u):Un fs ex H (As H x o) h h':=by
 have hx:∀ b,H b=none->b≠x:=λ b n z=>by subst z;rw [n] at mu;exact mu
 have hb:∀ b,H b=none->b≠e:=λ b n z=>by
  subst z;rcases he with r | r
  ·exact hx b n r
  ·rw [n] at r;cases r
 have hm:∀ b u,H b=some u->¬ Mv (some u)->b≠x:=λ b u q nm z=>by subst z;rw [q] at mu;exact nm mu
 refine ⟨λ b u q n _ _=>k b u (hb b n) q,λ b u q n _ _=>⟨u.slots,k b u (hb b n) q⟩,λ b u q n _=>by rw [AL (hx b n)];exact n,λ b u q _=>?_,
  λ b xs q=>by rw [AL (hm b _ q λ z=>z)];exact q,λ b u xs q=>by rw [AL (hm b _ q λ z=>z)];exact q,λ b ps q=>⟨#[],by rw [AL (hm b _ q λ z=>z),q];simp⟩⟩
 by_cases hbe:b=e
 ·subst hbe;exact heo
 ·exact ⟨u,k b u hbe q⟩
end
def G5 (h:Heap) (H:Hp):List Addr:=(Ay h.objs.size).filter λ a=>(H a).isSome
def Dk (h:Heap) (H:Hp):Heap:=PySem.W.hideAll h (G5 h H)
def gP (h:Heap) (H:Hp):(Dk h H).objs.size=h.objs.size:=PySem.W.hideAll_size _ _
def ub {h:Heap}{H:Hp}{b:Addr}{o:Obj} (e:h.get? b=some o) (n:H b=none):(Dk h H).get? b=some o:=
 Qq _ e λ hm=>by
  have q:(H b).isSome=true:=(je4.mp hm).2;rw [n] at q;simp at q
theorem wC {h:Heap}{H:Hp}{b:Addr}{o:Obj} (e:(Dk h H).get? b=some o):h.get? b=some o/\H b=none:=by
 have e':h.get? b=some o:=PySem.W.of_hideAll (G5 h H) e;refine ⟨e',?_⟩;cases q:H b with
 | none=>rfl
 | some x=>
  have hm:b∈G5 h H:=je4.mpr ⟨jb8.mpr (AI e'),by simp [q]⟩;have z:(Dk h H).get? b=none:=PySem.W.hideAll_none (G5 h H) hm;rw [z] at e;cases e
def vx (g h:Heap) (L:Addr):List (Addr×Obj):=(Ay h.objs.size).filterMap λ a=>if a=L\/(g.get? a).isSome=true then none else (h.get? a).map λ o=>(a,o)
def Bg (g h:Heap) (L d:Addr):List (Addr×Obj):=(vx g h L).filter λ p=>decide (p.1≠d)
structure Mod (K:PySem.W.Frag) (mg:Str->Option Ae) (base:Heap):Prop where
 kin:K.In base
 glob:base.Ns Ep mg
 blt:∃ mb,base.Ns builtinsNs mb/\∀ x:Str,x ≠ "__name__" -> mb x=HL x
 nolimit:base.NoLimit
structure Cx where
 prog:AD
 w:AA
 K:PySem.W.Frag
 mg:Str->Option Ae
 base:Heap
 A:Bf
 N:List Str
 s₀:Ai
 H₀:Hp
 env:Env
 outer:List Env
 stack:List Env
 ex:List Addr
 fn:Str->Bool
 calm:Bool
 pn:List (Addr×Obj)
 xe:Ae->Ai->Prop
def CA (l:List Env):List Addr:=l.filterMap (·.frame)
abbrev Cx.fs (X:Cx):List Addr:=CA X.outer
def Hu (sc:Bu) (x:Str):Prop:=sc.names.lookup x=some .local\/sc.names.lookup x=some .cell\/sc.names.lookup x=some .free
def Hv (sc:Bu) (x:Str):Prop:=sc.names.lookup x=some .local\/sc.names.lookup x=some .cell
def Ug (env:Env) (h:Heap) (m:Str->Option Ae) (x:Str) (u:Ae):Prop:=
 (env.kindOf x=some .local/\m x=some u)\/((env.kindOf x=some .cell\/env.kindOf x=some .free)/\∃ c,env.cells.lookup x=some c/\h.IsCell c (some u))
structure Cx.Ok (X:Cx):Prop where
 mod:Mod X.K X.mg X.base
 kind:X.env.scope.kind=.function
 glob:X.env.globals=Ep
 blt:X.env.builtins=builtinsNs
 above:X.s₀.heap.objs.size<=X.env.locals
 inj:∀ x y c,X.env.cells.lookup x=some c->X.env.cells.lookup y=some c->x=y
 has:∀ x,(X.env.kindOf x=some .cell\/X.env.kindOf x=some .free)->∃ c,X.env.cells.lookup x=some c
 cab:∀ x c,X.fn x=true->X.env.cells.lookup x=some c->X.s₀.heap.objs.size<=c
 hd:X.calm=true->X.A.handled=none
 frames:X.A.frames=some X.stack
 stk:X.stack=X.outer\/(X.stack=X.env::X.outer/\X.env.frame=some X.env.locals)
 exf:∀ b∈X.ex,b≠X.env.locals/\∀ x c,X.env.cells.lookup x=some c->c≠b
 bs:∀ b o,X.base.get? b=some o->X.s₀.heap.get? b=some o/\X.H₀ b=none
 bsz:X.base.objs.size<=X.s₀.heap.objs.size
 noex:∀ b o,X.base.get? b=some o->b∉X.ex
 exfs:∀ b∈X.ex,b∉X.fs
 funs:X.s₀.heap.FunFrames X.base X.outer
 frf:∀ b∈X.fs,X.H₀ b=none
structure Inv (X:Cx) (pins:List (Addr×Obj)) (σ:List (Option V)) (H:Hp) (s:Ai):Prop where
 ok:X.Ok
 os:s.os=X.s₀.os
 bare:FQ s.gens
 base:Un X.fs X.ex X.H₀ H X.s₀.heap s.heap
 loc:∃ m,s.heap.Ns X.env.locals m/\∀ (i:Nat) (x:Str) (v:V),X.N[i]?=some x->σ[i]?=some (some v)->Hu X.env.scope x->∃ u,RelV v u/\Ug X.env s.heap m x u
 cell:∀ x c,X.env.cells.lookup x=some c->∃ v,s.heap.IsCell c v
 free:H X.env.locals=none
 freeC:∀ x c,X.env.cells.lookup x=some c->H c=none
 pin:∀ p∈X.pn++pins,s.heap.get? p.1=some p.2/\H p.1=none/\p.1≠X.env.locals/\p.1∉X.fs/\∀ v,p.2.data≠.cell v
 hok:HOk X.prog X.w H s.heap
 len:σ.length=X.N.length
section
variable {X:Cx}{pins:List (Addr×Obj)}{σ:List (Option V)}{H H':Hp}{s:Ai}{h':Heap}
def Cx.Ok.nofr (ok:X.Ok) {b:Addr}{o:Obj} (e:X.base.get? b=some o):b∉X.fs:=λ hb=>by
 have:=(ok.funs.mem hb).1
 rw [e] at this;cases this
def Inv.bs (I:Inv X pins σ H s):∀ b o,X.base.get? b=some o->s.heap.get? b=some o/\H b=none:=λ b o e=>
 ⟨I.base.keep b o (I.ok.bs b o e).1 (I.ok.bs b o e).2 (I.ok.nofr e) (I.ok.noex b o e),I.base.free b o (I.ok.bs b o e).1 (I.ok.bs b o e).2 (I.ok.noex b o e)⟩
def Inv.bk (I:Inv X pins σ H s):∀ b o,X.base.get? b=some o->s.heap.get? b=some o:=λ b o e=>(I.bs b o e).1
def Inv.mod (I:Inv X pins σ H s):Mod X.K X.mg X.base:=I.ok.mod
def Inv.kIn (I:Inv X pins σ H s):X.K.In s.heap:=I.ok.mod.kin.keeps I.bk
def Inv.lt (I:Inv X pins σ H s):X.env.locals < s.heap.objs.size:=let ⟨_,hn,_⟩:=I.loc;hn.lt
def Inv.sz (I:Inv X pins σ H s):X.s₀.heap.objs.size<=s.heap.objs.size:=BF I.ok.above (LW I.lt)
def Inv.nofs (I:Inv X pins σ H s) {a:Addr} (h:s.heap.objs.size<=a):a∉X.fs:=λ hb=>by
 obtain ⟨_,o,ho,_⟩:=I.ok.funs.mem hb;exact absurd (BL (AI ho) (BF I.sz h)) (Di _)
def Inv.cne (I:Inv X pins σ H s):∀ x c,X.env.cells.lookup x=some c->c≠X.env.locals:=λ x c e z=>by
 obtain ⟨v,o,ho,hd⟩:=I.cell x c e;obtain ⟨m,⟨o',es,ep,ho',hd',_⟩,_⟩:=I.loc;rw [z,ho'] at ho;cases ho;rw [hd'] at hd;cases hd
def Inv.funs (I:Inv X pins σ H s):s.heap.FunFrames X.base X.outer:=by
 have all:∀ (l:List Env),(∀ b∈CA l,b∈X.fs)->X.s₀.heap.FunFrames X.base l->s.heap.FunFrames X.base l:=by
  intro l;induction l with
  | nil=>intro _ _;trivial
  | cons env r ih=>
   intro hs hl;obtain ⟨hk,⟨L,o,hf,hn,ho,hd⟩,hr⟩:=hl;have hL:L∈X.fs:=hs L (by unfold CA;rw [Mg,hf];exact AM);obtain ⟨sl,e⟩:=I.base.slot L o ho (I.ok.frf L hL) hL λ z=>I.ok.exfs L z hL;exact ⟨hk,⟨L,_,hf,hn,e,hd⟩,ih (λ b hb=>hs b (by unfold CA;rw [Mg,hf];exact AO _ hb)) hr⟩
 exact all X.outer (λ _ hb=>hb) I.ok.funs
def Inv.stack (I:Inv X pins σ H s):s.heap.FunFrames X.base X.stack:=by
 rcases I.ok.stk with e | ⟨e,hf⟩
 ·rw [e];exact I.funs
 ·rw [e];obtain ⟨m,hn,_⟩:=I.loc;refine .cons (by rw [I.ok.kind];decide) hf hn ?_ I.funs;exact Heap.get?_none_of_le (BF I.ok.bsz I.ok.above)
def Inv.stkSub (I:Inv X pins σ H s):∀ b∈CA X.stack,b∈X.env.locals::X.fs:=λ b hb=>by
 rcases I.ok.stk with e | ⟨e,hf⟩
 ·rw [e] at hb;exact AO _ hb
 ·rw [e] at hb;unfold CA at hb;rw [Mg,hf] at hb;exact hb
def Inv.stkFree (I:Inv X pins σ H s):∀ b∈CA X.stack,H b=none:=λ b hb=>by
 rcases jb9.mp (I.stkSub b hb) with e | hb
 ·rw [e];exact I.free
 ·obtain ⟨_,o,ho,_⟩:=I.ok.funs.mem hb;exact I.base.free b o ho (I.ok.frf b hb) λ z=>I.ok.exfs b z hb
def Inv.step {g':Array GenState}{t':Nat}{d':Drawn}{ch:List Addr} (I:Inv X pins σ H s)
  (hch:∀ b∈ch,(b∈X.ex\/X.s₀.heap.objs.size<=b)/\b≠X.env.locals/\(∀ x c,X.env.cells.lookup x=some c->c≠b)/\∀ p∈X.pn++pins,p.1≠b)
  (keep:∀ b o,b≠X.env.locals->b∉X.fs->b∉ch->s.heap.get? b=some o->H b=none->h'.get? b=some o)
  (slot:∀ b o,b≠X.env.locals->b∈X.fs->b∉ch->s.heap.get? b=some o->H b=none->∃ sl,h'.get? b=some { o with slots:=sl }) (free:∀ b o,b∉ch->s.heap.get? b=some o->H b=none->H' b=none)
  (there:∀ b o,b∉ch->s.heap.get? b=some o->∃ o',h'.get? b=some o')
  (tups:∀ b xs,H b=some (.tup xs)->H' b=some (.tup xs)) (frzs:∀ b o u,H b=some (.frz o u)->H' b=some (.frz o u)) (tbls:∀ b ps,H b=some (.tbl ps)->∃ more,H' b=some (.tbl (ps++more)))
  (ns:∀ m,s.heap.Ns X.env.locals m->h'.Ns X.env.locals m) (hok:HOk X.prog X.w H' h') (hg:FQ g'):
  Inv X pins σ H' { s with heap:=h',gens:=g',drawn:=d',toks:=t' }:=by
 have neL:∀ b o,X.s₀.heap.get? b=some o->b≠X.env.locals:=λ b o e=>BJ (BL (AI e) I.ok.above);have neC:∀ b o,X.s₀.heap.get? b=some o->b∉X.ex->b∉ch:=λ b o e hx hb=>by
  rcases (hch b hb).1 with z | z
  ·exact hx z
  ·exact absurd (BL (AI e) z) (Di _)
 have cellK:∀ x c,X.env.cells.lookup x=some c->∀ v,s.heap.IsCell c v->h'.IsCell c v:=λ x c e v ⟨o,ho,hd⟩=>by
  have nch:c∉ch:=λ z=>(hch c z).2.2.1 x c e rfl;by_cases hc:c∈X.fs
  ·obtain ⟨sl,q⟩:=slot c o (I.cne x c e) hc nch ho (I.freeC x c e);exact ⟨_,q,hd⟩
  ·exact ⟨o,keep c o (I.cne x c e) hc nch ho (I.freeC x c e),hd⟩
 refine ⟨I.ok,I.os,hg,⟨λ b o e n hb hx=>?_,λ b o e n hb hx=>?_,λ b o e n hx=>?_,λ b o e hx=>?_,λ b xs e=>tups b xs (I.base.tups b xs e),λ b o xs e=>frzs b o xs (I.base.frzs b o xs e),λ b ps e=>?_⟩,?_,λ x c e=>?_,?_,λ x c e=>?_,λ p hp=>?_,hok,I.len⟩
 ·exact keep b o (neL b o e) hb (neC b o e hx) (I.base.keep b o e n hb hx) (I.base.free b o e n hx)
 ·obtain ⟨sl,e1⟩:=I.base.slot b o e n hb hx;obtain ⟨sl',e2⟩:=slot b _ (neL b o e) hb (neC b o e hx) e1 (I.base.free b o e n hx);exact ⟨sl',e2⟩
 ·obtain ⟨o',e1⟩:=I.base.there b o e hx;exact free b o' (neC b o e hx) e1 (I.base.free b o e n hx)
 ·obtain ⟨o',e1⟩:=I.base.there b o e hx;exact there b o' (neC b o e hx) e1
 ·obtain ⟨m1,e1⟩:=I.base.tbls b ps e;obtain ⟨m2,e2⟩:=tbls b _ e1;exact ⟨m1++m2,by rw [e2,ZN]⟩
 ·obtain ⟨m,hn,hl⟩:=I.loc;refine ⟨m,ns m hn,λ i x v e1 e2 e3=>?_⟩;obtain ⟨u,r,l⟩:=hl i x v e1 e2 e3;refine ⟨u,r,?_⟩;rcases l with l | ⟨k,c,e,z⟩
  ·exact .inl l
  ·exact .inr ⟨k,c,e,cellK x c e _ z⟩
 ·obtain ⟨v,z⟩:=I.cell x c e;exact ⟨v,cellK x c e v z⟩
 ·obtain ⟨m,⟨o,_,_,ho,_⟩,_⟩:=I.loc;exact free _ o (λ z=>(hch _ z).2.1 rfl) ho I.free
 ·obtain ⟨v,o,ho,hd⟩:=I.cell x c e;exact free c o (λ z=>(hch c z).2.2.1 x c e rfl) ho (I.freeC x c e)
 ·obtain ⟨e,n,ne,nf,d⟩:=I.pin p hp;have nch:p.1∉ch:=λ z=>(hch p.1 z).2.2.2 p hp rfl;exact ⟨keep p.1 p.2 ne nf nch e n,free p.1 p.2 nch e n,ne,nf,d⟩
def Inv.un {t':Nat} (I:Inv X pins σ H s) (u:Un X.fs [] H H' s.heap h') (hok:HOk X.prog X.w H' h'):Inv X pins σ H' { s with heap:=h',toks:=t' }:=by
 obtain ⟨m,⟨o,es,ep,ho,r⟩,_⟩:=id I.loc;obtain ⟨sl,hL⟩:=u.any ho I.free (by simp);exact I.step (g':=s.gens) (d':=s.drawn) (ch:=[]) (λ _ z=>nomatch z) (λ b o _ hb _ e n=>u.keep b o e n hb (by simp)) (λ b o _ hb _ e n=>u.slot b o e n hb (by simp)) (λ b o _ e n=>u.free b o e n (by simp)) (λ b o _ e=>u.there b o e (by simp)) u.tups u.frzs u.tbls (λ m' hm=>by
  obtain ⟨o',es',ep',ho',r'⟩:=hm;rw [ho] at ho';cases ho';exact ⟨_,es',ep',hL,r'⟩) hok I.bare
def Inv.call {g':Array GenState}{t':Nat}{d':Drawn}{ch:List Addr} (I:Inv X pins σ H s) (u:Un (CA X.stack) ch H H' s.heap h') (hok:HOk X.prog X.w H' h') (hg:FQ g')
  (hch:∀ b∈ch,(b∈X.ex\/X.s₀.heap.objs.size<=b)/\b≠X.env.locals/\(∀ x c,X.env.cells.lookup x=some c->c≠b)/\∀ p∈X.pn++pins,p.1≠b):
  Inv X pins σ H' { s with heap:=h',gens:=g',drawn:=d',toks:=t' }:=by
 obtain ⟨m,⟨o,es,ep,ho,r⟩,_⟩:=id I.loc;obtain ⟨sl,hL⟩:=u.any ho I.free λ z=>(hch _ z).2.1 rfl;exact I.step (ch:=ch) hch (λ b o hL hb hc e n=>u.keep b o e n (λ z=>(jb9.mp (I.stkSub b z)).elim hL hb) hc) (λ b o _ _ hc e n=>u.any e n hc) (λ b o hc e n=>u.free b o e n hc) (λ b o hc e=>u.there b o e hc) u.tups u.frzs u.tbls (λ m' hm=>by
  obtain ⟨o',es',ep',ho',r'⟩:=hm;rw [ho] at ho';cases ho';exact ⟨_,es',ep',hL,r'⟩) hok hg
def Inv.turned {t':Nat}{it:Addr} (I:Inv X pins σ H s) (k:∀ b o,b≠it->s.heap.get? b=some o->h'.get? b=some o) (hn:H it=none) (hL:it≠X.env.locals)
  (h1:it∈X.ex\/X.s₀.heap.objs.size<=it) (h2:∀ x c,X.env.cells.lookup x=some c->c≠it) (h3:∀ p∈X.pn++pins,p.1≠it):Inv X pins σ H { s with heap:=h',toks:=t' }:=by
 have nit:∀ b u,H b=some u->b≠it:=λ b u e z=>by rw [z,hn] at e;cases e
 refine I.step (g':=s.gens) (d':=s.drawn) (ch:=[it]) (λ b hb=>?_) (λ b o _ _ hc e _=>k b o (λ z=>hc (by simp [z])) e) (λ b o _ _ hc e _=>⟨o.slots,k b o (λ z=>hc (by simp [z])) e⟩) (λ _ _ _ _ n=>n)
  (λ b o hc e=>⟨o,k b o (λ z=>hc (by simp [z])) e⟩) (λ _ _ e=>e) (λ _ _ _ e=>e) (λ b ps e=>⟨#[],by rw [e];simp⟩) (λ m hm=>?_) (λ b u e=>?_) I.bare
 ·have e:b=it:=by simpa using hb
  subst e;exact ⟨h1,hL,h2,h3⟩
 ·obtain ⟨o,es,ep,ho,r⟩:=hm;exact ⟨o,es,ep,k _ o (Dw hL) ho,r⟩
 ·refine (I.hok b u e).stay (λ c v hc q=>k c v ?_ q) (λ _ q=>q) λ _ _ q=>q;rcases hc with z | z
  ·rw [z];exact nit b u e
  ·exact nit c _ z
def Inv.tok (I:Inv X pins σ H s) (t:Nat):Inv X pins σ H { s with toks:=t }:=I.un (h':=s.heap) (t':=t) Un.refl I.hok
def Inv.kept {t':Nat} (I:Inv X pins σ H s) (k:∀ b u,s.heap.get? b=some u->h'.get? b=some u):Inv X pins σ H { s with heap:=h',toks:=t' }:=I.un (Un.kept k) (I.hok.kept k)
def Inv.laid {a:Addr}{o:HO}{t':Nat} (I:Inv X pins σ H s) (k:∀ b u,s.heap.get? b=some u->h'.get? b=some u) (hp:s.heap.objs.size<=a) (new:zxg X.prog X.w (As H a o) h' a o):
  Inv X pins σ (As H a o) { s with heap:=h',toks:=t' }:=I.un (Un.laid k hp (I.hok.fresh hp)) (I.hok.laid k hp new)
def Inv.write {x e:Addr}{o:HO}{t':Nat} (I:Inv X pins σ H s) (mu:Mv (H x)) (he:e=x\/H e=some (.own x)) (k:∀ b u,b≠e->s.heap.get? b=some u->h'.get? b=some u) (heo:∃ u,h'.get? e=some u)
  (new:zxg X.prog X.w (As H x o) h' x o):Inv X pins σ (As H x o) { s with heap:=h',toks:=t' }:=I.un (Un.write mu he k heo) (I.hok.write mu he k heo new)
def Inv.pins_of {pins':List (Addr×Obj)} (I:Inv X pins σ H s) (h:∀ p∈pins',s.heap.get? p.1=some p.2/\H p.1=none/\p.1≠X.env.locals/\p.1∉X.fs/\∀ v,p.2.data≠.cell v):Inv X pins' σ H s:=
 ⟨I.ok,I.os,I.bare,I.base,I.loc,I.cell,I.free,I.freeC,λ p hp=>(jg8.mp hp).elim (λ z=>I.pin p (Ib _ z)) (h p),I.hok,I.len⟩
def Y8 {N:List Str} (hN:N.Nodup) {i j:Nat}{x:Str} (a:N[i]?=some x) (b:N[j]?=some x):i=j:=by
 obtain ⟨h1,e1⟩:=jb0.mp a;obtain ⟨h2,e2⟩:=jb0.mp b;exact (List.getElem_inj hN).mp (e1.trans e2.symm)
def Vf {M:Model}{A:Bf}{E:Ae->Ai->Prop}{i:Nat}{x:Str}{v:V}{u:Ae}{Q:Unit->Ai->Prop} (I:Inv X pins σ H s) (hN:X.N.Nodup) (hi:X.N[i]?=some x) (hx:Hv X.env.scope x) (r:RelV v u)
  (h:∀ s',Inv X pins (σ.set i (some v)) H s'->(∃ a,IA a s.heap s'.heap/\(a=X.env.locals\/X.env.cells.lookup x=some a))->Q () s') (hf:X.fn x=true\/X.env.scope.names.lookup x=some .local:=by first | exact .inl rfl | exact .inr rfl | assumption):Am M A (storeName X.env x u) Q E s:=by
 obtain ⟨m,hn,hl⟩:=id I.loc;have hcls:(X.env.scope.kind == .class || (X.env.scope.kind == .module && X.env.locals != X.env.globals))=false:=by rw [I.ok.kind];rfl
 have hiσ:i < σ.length:=by rw [I.len];exact (jb0.mp hi).1
 have cne:=I.cne;have tracked:∀ {a:Addr}{h':Heap},(∃ o,s.heap.get? a=some o/\H a=none)->IA a s.heap h'->HOk X.prog X.w H h':=λ {a h'} ha hs b ob e=>by
  obtain ⟨_,_,hfree⟩:=ha;refine (I.hok b ob e).stay (λ c w' hc q=>(hs.2 c ?_).trans q) (λ _ q=>q) λ _ _ q=>q;rintro rfl;rcases hc with rfl | hc
  ·rw [hfree] at e;cases e
  ·rw [hfree] at hc;cases hc
 rcases hx with hk | hk
 ·refine wpAny_storeName_local hk hn (λ h' hn' hs=>?_) hcls;obtain ⟨oL,_,_,hoL,_⟩:=id hn;refine h _ ⟨I.ok,I.os,I.bare,⟨λ b o e n hb hx=>?_,λ b o e n hb hx=>?_,I.base.free,λ b o e hx=>?_,I.base.tups,I.base.frzs,I.base.tbls⟩,⟨_,hn',λ j y v' e1 e2 e3=>?_⟩,λ y c e=>?_,I.free,I.freeC,λ p hp=>?_,tracked ⟨oL,hoL,I.free⟩ hs,by simpa using I.len⟩ ⟨_,hs,.inl rfl⟩
  ·exact (hs.2 b (BJ (BL (AI e) I.ok.above))).trans (I.base.keep b o e n hb hx)
  ·obtain ⟨sl,e1⟩:=I.base.slot b o e n hb hx;exact ⟨sl,(hs.2 b (BJ (BL (AI e) I.ok.above))).trans e1⟩
  ·obtain ⟨o',e1⟩:=I.base.there b o e hx;exact ⟨o',(hs.2 b (BJ (BL (AI e) I.ok.above))).trans e1⟩
  ·by_cases hj:j=i
   ·subst hj;rw [hi] at e1;cases e1;rw [Gh hiσ] at e2;cases e2;exact ⟨u,r,.inl ⟨hk,by simp⟩⟩
   ·rw [Gf (Dw hj)] at e2;obtain ⟨u',r',q⟩:=hl j y v' e1 e2 e3;refine ⟨u',r',?_⟩;rcases q with ⟨k,e⟩ | ⟨k,c,e,z⟩
    ·refine .inl ⟨k,?_⟩
     have:y≠x:=λ e=>hj (Y8 hN e1 (e ▸ hi))
     simp [this,e]
    ·exact .inr ⟨k,c,e,z.sameBut hs (cne y c e)⟩
  ·obtain ⟨w',z⟩:=I.cell y c e;exact ⟨w',z.sameBut hs (cne y c e)⟩
  ·obtain ⟨e,n,ne,nf,d⟩:=I.pin p hp;exact ⟨(hs.2 p.1 ne).trans e,n,ne,nf,d⟩
 ·have hfn:X.fn x=true:=by
   rcases hf with z | z
   ·exact z
   ·rw [z] at hk;cases hk
  obtain ⟨c,hc⟩:=I.ok.has x (.inl hk);obtain ⟨w',z⟩:=I.cell x c hc;refine wpAny_storeName_cell I.ok.kind hk hc z (λ h' hc' hs=>?_);obtain ⟨oc,hoc,hocd⟩:=id z;refine h { s with heap:=h' } ⟨I.ok,I.os,I.bare,⟨λ b o e n hb hx=>?_,λ b o e n hb hx=>?_,I.base.free,λ b o e hx=>?_,I.base.tups,I.base.frzs,I.base.tbls⟩,⟨m,hn.sameBut hs (Dw (cne x c hc)),λ j y v' e1 e2 e3=>?_⟩,λ y c' e=>?_,I.free,I.freeC,λ p hp=>?_,tracked ⟨oc,hoc,I.freeC x c hc⟩ hs,by simpa using I.len⟩ ⟨c,hs,.inr hc⟩
  ·exact (hs.2 b (BJ (BL (AI e) (I.ok.cab x c hfn hc)))).trans (I.base.keep b o e n hb hx)
  ·obtain ⟨sl,e1⟩:=I.base.slot b o e n hb hx;exact ⟨sl,(hs.2 b (BJ (BL (AI e) (I.ok.cab x c hfn hc)))).trans e1⟩
  ·obtain ⟨o',e1⟩:=I.base.there b o e hx;exact ⟨o',(hs.2 b (BJ (BL (AI e) (I.ok.cab x c hfn hc)))).trans e1⟩
  ·by_cases hj:j=i
   ·subst hj;rw [hi] at e1;cases e1;rw [Gh hiσ] at e2;cases e2;exact ⟨u,r,.inr ⟨.inl hk,c,hc,hc'⟩⟩
   ·rw [Gf (Dw hj)] at e2;obtain ⟨u',r',q⟩:=hl j y v' e1 e2 e3;refine ⟨u',r',?_⟩;rcases q with q | ⟨k,c',e,z'⟩
    ·exact .inl q
    ·refine .inr ⟨k,c',e,z'.sameBut hs ?_⟩;rintro rfl;exact hj (Y8 hN e1 (I.ok.inj _ _ _ e hc ▸ hi))
  ·by_cases hcc:c'=c
   ·subst hcc;exact ⟨_,hc'⟩
   ·obtain ⟨w2,z2⟩:=I.cell y c' e;exact ⟨w2,z2.sameBut hs hcc⟩
  ·obtain ⟨e,n,ne,nf,d⟩:=I.pin p hp;refine ⟨(hs.2 p.1 ?_).trans e,n,ne,nf,d⟩;intro q;rw [q,hoc] at e;have q':oc=p.2:=Option.some.inj e;exact d w' (by rw [<- q'];exact hocd)
def K4 {M:Model}{A:Bf}{E:Ae->Ai->Prop}{i:Nat}{x:Str}{v:V}{u:Ae}{Q:Unit->Ai->Prop} (I:Inv X pins σ H s) (hN:X.N.Nodup) (hi:X.N[i]?=some x) (hx:Hv X.env.scope x) (r:RelV v u)
  (h:∀ s',Inv X pins (σ.set i (some v)) H s'->Q () s') (hf:X.fn x=true\/X.env.scope.names.lookup x=some .local:=by first | exact .inl rfl | exact .inr rfl | assumption):Am M A (storeName X.env x u) Q E s:=
 Vf I hN hi hx r (λ s' I' _=>h s' I') hf
def Inv.call' {s':Ai}{ch:List Addr} (I:Inv X pins σ H s) (ho:s'.os=s.os) (u:Un (CA X.stack) ch H H' s.heap s'.heap) (hok:HOk X.prog X.w H' s'.heap) (hg:FQ s'.gens)
  (hch:∀ b∈ch,(b∈X.ex\/X.s₀.heap.objs.size<=b)/\b≠X.env.locals/\(∀ x c,X.env.cells.lookup x=some c->c≠b)/\∀ p∈X.pn++pins,p.1≠b):Inv X pins σ H' s':=by
 obtain ⟨h',g',d',t',o'⟩:=s';have e:o'=s.os:=ho;subst e;exact I.call (g':=g') (t':=t') (d':=d') u hok hg hch
end
abbrev XK:=Ae->Option Addr->Hp->Prop
abbrev St:=List (Option V)
abbrev VK:=V->Hp->Prop
abbrev TE:=St->Hp->VK->Prop
abbrev TT:=St->Hp->(Bool->Hp->Prop)->Prop
abbrev TA:=St->Hp->(List V->Hp->Prop)->Prop
structure Ends where
 nx:St->Hp->Prop
 rt:VK
 bk:St->Hp->Prop:=λ _ _=>False
 ct:St->Hp->Prop:=λ _ _=>False
abbrev TS:=Ends->St->Hp->Prop
def EP (X:Cx) (pins:List (Addr×Obj)) (σ:St) (Q:VK) (u:Ae) (s':Ai):Prop:=∃ v H',Inv X pins σ H' s'/\RelV v u/\Q v H'
def TP (X:Cx) (pins:List (Addr×Obj)) (σ:St) (Q:Bool->Hp->Prop) (b:Bool) (s':Ai):Prop:=∃ H',Inv X pins σ H' s'/\Q b H'
def AP (X:Cx) (pins:List (Addr×Obj)) (σ:St) (Q:List V->Hp->Prop) (us:List Ae) (s':Ai):Prop:=∃ vs H',Inv X pins σ H' s'/\Vals vs us/\Q vs H'
def SP (X:Cx) (pins:List (Addr×Obj)) (D:Ends) (f:Flow) (s':Ai):Prop:=
 match f with
 | .next=>∃ σ' H',Inv X pins σ' H' s'/\D.nx σ' H'
 | .brk=>∃ σ' H',Inv X pins σ' H' s'/\D.bk σ' H'
 | .cont=>∃ σ' H',Inv X pins σ' H' s'/\D.ct σ' H'
 | .ret u=>∃ v σ' H',Inv X pins σ' H' s'/\RelV v u/\D.rt v H'
def PE (X:Cx) (e:Expr) (t:TE):Prop:=
 ∀ (pins:List (Addr×Obj)) (s:Ai) (σ:St) (H:Hp) (Q:VK),Inv X pins σ H s->t σ H Q->Am (Ax X.prog X.w) X.A (eval e X.env) (EP X pins σ Q) X.xe s
def PT (X:Cx) (e:Expr) (t:TT):Prop:=
 ∀ (pins:List (Addr×Obj)) (s:Ai) (σ:St) (H:Hp) (Q:Bool->Hp->Prop),Inv X pins σ H s->t σ H Q->Am (Ax X.prog X.w) X.A (isTrue e X.env (eval e X.env)) (TP X pins σ Q) X.xe s
def PW (X:Cx) (e:Expr) (t:TT):Prop:=
 ∀ (whole:Sem Ae) (pins:List (Addr×Obj)) (s:Ai) (σ:St) (H:Hp) (Q:Bool->Hp->Prop),Inv X pins σ H s->t σ H Q->Am (Ax X.prog X.w) X.A (isTrue e X.env whole) (TP X pins σ Q) X.xe s
def PW.pt {X:Cx}{e:Expr}{t:TT} (h:PW X e t):PT X e t:=h _
def PA (X:Cx) (es:List Expr) (t:TA):Prop:=
 ∀ (pos:Pos) (pins:List (Addr×Obj)) (s:Ai) (σ:St) (H:Hp) (Q:List V->Hp->Prop),Inv X pins σ H s->t σ H Q->Am (Ax X.prog X.w) X.A (spliced (Fy pos (Bi es X.env))) (AP X pins σ Q) X.xe s
def PS (X:Cx) (st:Stmt) (t:TS):Prop:=
 ∀ (pins:List (Addr×Obj)) (s:Ai) (σ:St) (H:Hp) (D:Ends),Inv X pins σ H s->t D σ H->Am (Ax X.prog X.w) X.A (exec st X.env) (SP X pins D) X.xe s
def E4 (X:Cx) (st:List Stmt) (t:TS):Prop:=
 ∀ (pins:List (Addr×Obj)) (s:Ai) (σ:St) (H:Hp) (D:Ends),Inv X pins σ H s->t D σ H->Am (Ax X.prog X.w) X.A (execs st X.env) (SP X pins D) X.xe s
def A0 {α:Type}{t:Sem α}{Q Q':α->Ai->Prop}{M:Model}{A:Bf}{E:Ae->Ai->Prop}{s:Ai} (h:Am M A t Q E s) (hQ:∀ a s,Q a s->Q' a s):Am M A t Q' E s:=Gz h hQ λ _ _ x=>x
section
variable {X:Cx}
def md {a b:Expr}{ta tb:TE} (ha:PE X a ta) (hb:PE X b tb) {pins:List (Addr×Obj)}{s:Ai}{σ:St}{H:Hp}{R:V->V->Hp->Prop} (I:Inv X pins σ H s) (h:ta σ H λ x H1=>tb σ H1 λ y H2=>R x y H2)
  {α:Type}{Q:α->Ai->Prop}{f:Ae->Ae->Sem α}
  (hf:∀ v u s2 x y H2,Inv X pins σ H2 s2->RelV x v->RelV y u->R x y H2->Am (Ax X.prog X.w) X.A (f v u) Q X.xe s2):
  Am (Ax X.prog X.w) X.A (eval a X.env) (λ v s₁=>Am (Ax X.prog X.w) X.A (eval b X.env) (λ u s₂=>Am (Ax X.prog X.w) X.A (f v u) Q X.xe s₂) X.xe s₁) X.xe s:=by
 refine A0 (ha pins s σ H _ I h) λ v s1 ⟨x,H1,I1,r1,q1⟩=>?_;refine A0 (hb pins s1 σ H1 _ I1 q1) λ u s2 ⟨y,H2,I2,r2,q2⟩=>?_;exact hf v u s2 x y H2 I2 r1 r2 q2
def DJ (i:Nat):TE:=λ σ H Q=>∃ v,σ[i]?=some (some v)/\Q v H
def tC (v:V):TE:=λ _ H Q=>Q v H
def jN {i:Nat}{x:Str}{pos:Pos} (hN:X.N[i]?=some x) (hv:Hu X.env.scope x) (hd:(x == ("__debug__" : Str))=false:=by decide) (hcd:(x == ("__classdict__" : Str))=false:=by decide):PE X (.Name x pos) (DJ i):=by
 intro pins s σ H Q I h;obtain ⟨v,e,h⟩:=h;obtain ⟨m,hn,hl⟩:=I.loc;obtain ⟨u,r,l⟩:=hl i x v hN e hv;have fin:EP X pins σ Q u s:=⟨v,H,I,r,h⟩
 rcases l with ⟨hk,hm⟩ | ⟨hk,c,hc,hcell⟩
 ·exact wpAny_Name (wpAny_loadName_local I.ok.kind hk hn hm fin) hd
 ·rcases hk with hk | hk
  ·exact wpAny_Name (wpAny_loadName_cell I.ok.kind hk hc hcell fin) hd
  ·exact wpAny_Name (wpAny_loadName_free I.ok.kind hk hc hcell fin hcd) hd
def W5 {i j pos}:PE X (.Constant (.int i) j pos) (tC (.int i)):=λ _ _ _ H _ I h=>wpAny_Constant_int ⟨.int i,H,I.tok _,⟨_,rfl⟩,h⟩
def zy {b j pos}:PE X (.Constant (.bool b) j pos) (tC (.bl b)):=λ _ _ _ H _ I h=>Constant_bool ⟨.bl b,H,I,rfl,h⟩
def kE {j pos}:PE X (.Constant .none j pos) (tC .non):=λ _ _ _ H _ I h=>Constant_none ⟨.non,H,I,rfl,h⟩
def W7 {x j pos}:PE X (.Constant (.str x) j pos) (tC (.str x)):=λ _ _ _ H _ I h=>Calls.Constant_str ⟨.str x,H,I.tok _,⟨_,rfl⟩,h⟩
def Gl (X:Cx) (x:Str):Prop:=X.env.kindOf x=some .globalImplicit
def XB {E:Ae->Ai->Prop}{pins:List (Addr×Obj)}{s:Ai}{σ:St}{H:Hp}{x:Str}{u:Ae}{pos:Pos}{Q:Ae->Ai->Prop} (I:Inv X pins σ H s) (hg:Gl X x) (hm:X.mg x=some u) (h:Q u s)
  (hd:(x == ("__debug__" : Str))=false:=by decide):Am (Ax X.prog X.w) X.A (eval (.Name x pos) X.env) Q E s:=
 Vt I.ok.kind hg (Calls.loadGlobal_global (by rw [I.ok.glob];exact I.mod.glob.keeps I.bk) hm h) hd
def FN {E:Ae->Ai->Prop}{pins:List (Addr×Obj)}{s:Ai}{σ:St}{H:Hp}{x:Str}{u:Ae}{pos:Pos}{Q:Ae->Ai->Prop} (I:Inv X pins σ H s) (hg:Gl X x) (hm:X.mg x=none) (hv:HL x=some u) (h:Q u s)
  (hn:x ≠ "__name__" := by decide) (hd:(x == ("__debug__" : Str))=false:=by decide):Am (Ax X.prog X.w) X.A (eval (.Name x pos) X.env) Q E s:=by
 obtain ⟨mb,h1,h2⟩:=I.mod.blt;exact Vt I.ok.kind hg (Calls.loadGlobal_builtin (by rw [I.ok.glob];exact I.mod.glob.keeps I.bk) hm (by rw [I.ok.blt];exact h1.keeps I.bk) ((h2 x hn).trans hv) h) hd
def yp {x:Str}{v:V}{u:Ae}{pos:Pos} (hg:Gl X x) (hm:X.mg x=none) (hv:HL x=some u) (r:RelV v u) (hn:x ≠ "__name__" := by decide) (hd:(x == ("__debug__" : Str))=false:=by decide):PE X (.Name x pos) (tC v):=
 λ _ _ _ H _ I h=>FN I hg hm hv ⟨v,H,I,r,h⟩ hn hd
variable {a b:Expr}{ta tb:TE}{pos:Pos}
def PC (X:Cx) (op:CmpOp) (a b:Expr) (t:TE):Prop:=
 ∀ (pins:List (Addr×Obj)) (s:Ai) (σ:St) (H:Hp) (Q:VK),Inv X pins σ H s->t σ H Q ->
  Am (Ax X.prog X.w) X.A (eval a X.env) (λ v s₁=>Am (Ax X.prog X.w) X.A (eval b X.env) (λ u s₂=>Am (Ax X.prog X.w) X.A (BP op v u) (EP X pins σ Q) X.xe s₂) X.xe s₁) X.xe s
def Pn (b:Expr) {op:CmpOp} (h:op≠.In) (h2:op≠.NotIn):IC op b=false:=by
 have e1:(op == CmpOp.In)=false:=by cases op <;> first | rfl | exact absurd rfl h
 have e2:(op == CmpOp.NotIn)=false:=by cases op <;> first | rfl | exact absurd rfl h2
 cases b <;> simp [IC,e1,e2]
def tB (t:TE):TT:=λ σ H Q=>t σ H λ x H1=>∃ c,x=.bl c/\Q c H1
def jX {e:Expr}{t:TE} (h:PE X e t) (he:∀ whole,isTrue e X.env whole=(do let v<-whole;standAt e.pos;holding [v] (truthy v)):=by intro _;rfl):PT X e (tB t):=by
 intro pins s σ H Q I hw;refine isTrue_plain (A0 (h pins s σ H _ I hw) λ v s1 ⟨x,H1,I1,r1,q1⟩=>?_) (he _);obtain ⟨d,rfl,q⟩:=q1;cases r1;exact Ha ⟨H1,I1,q⟩
variable {tA tB':TT}{Bg:List Expr}
def Lr (t u:TT):TT:=λ σ H Q=>t σ H λ c H1=>if c=true then u σ H1 Q else Q false H1
def V6 (t u:TT):TT:=λ σ H Q=>t σ H λ c H1=>if c=true then Q true H1 else u σ H1 Q
def Ln (t:TT):TT:=λ σ H Q=>t σ H λ c H1=>Q (!c) H1
theorem yc (ha:PT X a tA):PW X (.BoolOp .And [a] pos) tA:=by
 intro wh pins s σ H Q I h;refine isTrue_and (A0 (ha pins s σ H Q I h) λ c s1 e=>?_);cases c with
 | true=>exact isTrue_and_nil e
 | false=>exact e
theorem ka (ha:PT X a tA):PW X (.BoolOp .Or [a] pos) tA:=by
 intro wh pins s σ H Q I h;refine isTrue_or (A0 (ha pins s σ H Q I h) λ c s1 e=>?_);cases c with
 | false=>exact isTrue_or_nil e
 | true=>exact e
theorem jZ (ha:PT X a tA) (hb:PW X (.BoolOp .And (b::Bg) pos) tB'):PW X (.BoolOp .And (a::b::Bg) pos) (Lr tA tB'):=by
 intro wh pins s σ H Q I h;refine isTrue_and (A0 (ha pins s σ H _ I h) λ c s1 ⟨H1,I1,q1⟩=>?_);cases c with
 | true=>exact hb wh pins s1 σ H1 Q I1 q1
 | false=>exact ⟨H1,I1,q1⟩
theorem zE (ha:PT X a tA) (hb:PW X (.BoolOp .Or (b::Bg) pos) tB'):PW X (.BoolOp .Or (a::b::Bg) pos) (V6 tA tB'):=by
 intro wh pins s σ H Q I h;refine isTrue_or (A0 (ha pins s σ H _ I h) λ c s1 ⟨H1,I1,q1⟩=>?_);cases c with
 | true=>exact ⟨H1,I1,q1⟩
 | false=>exact hb wh pins s1 σ H1 Q I1 q1
def jW (ha:PT X a tA):PT X (.UnaryOp .Not a pos) (Ln tA):=by
 intro pins s σ H Q I h;exact isTrue_not (ha pins s σ H (λ c H1=>Q (!c) H1) I h)
def Wm (ta tb:TE):TE:=λ σ H Q=>ta σ H λ x H1=>∃ c,x=.bl c/\if c=true then tb σ H1 Q else Q (.bl false) H1
def Lm (ta tb:TE):TE:=λ σ H Q=>ta σ H λ x H1=>∃ c,x=.bl c/\if c=true then Q (.bl true) H1 else tb σ H1 Q
def Wg (ta:TE):TE:=λ σ H Q=>ta σ H λ x H1=>∃ c,x=.bl c/\Q (.bl (!c)) H1
def W6 {op}{t:TE} (h:PE X a t):PE X (.BoolOp op [a] pos) t:=λ pins s σ H Q I hw=>BoolOp_one (h pins s σ H Q I hw)
theorem kB (ha:PE X a ta) (hb:PE X (.BoolOp .And (b::Bg) pos) tb):PE X (.BoolOp .And (a::b::Bg) pos) (Wm ta tb):=by
 intro pins s σ H Q I h;refine BoolOp_and (A0 (ha pins s σ H _ I h) λ v s1 ⟨x,H1,I1,r1,q1⟩=>?_);obtain ⟨c,rfl,q1⟩:=q1;cases r1;refine Ha ?_;cases c with
 | true=>exact hb pins s1 σ H1 Q I1 q1
 | false=>exact ⟨.bl false,H1,I1,rfl,q1⟩
theorem z7 (ha:PE X a ta) (hb:PE X (.BoolOp .Or (b::Bg) pos) tb):PE X (.BoolOp .Or (a::b::Bg) pos) (Lm ta tb):=by
 intro pins s σ H Q I h;refine BoolOp_or (A0 (ha pins s σ H _ I h) λ v s1 ⟨x,H1,I1,r1,q1⟩=>?_);obtain ⟨c,rfl,q1⟩:=q1;cases r1;refine Ha ?_;cases c with
 | false=>exact hb pins s1 σ H1 Q I1 q1
 | true=>exact ⟨.bl true,H1,I1,rfl,q1⟩
def kF (ha:PE X a ta):PE X (.UnaryOp .Not a pos) (Wg ta):=by
 intro pins s σ H Q I h;refine UnaryOp_ (A0 (ha pins s σ H _ I h) λ v s1 ⟨x,H1,I1,r1,q1⟩=>?_);obtain ⟨c,rfl,q1⟩:=q1;cases r1;exact not_of (Ha ⟨.bl (!c),H1,I1,rfl,q1⟩)
def V7 (t:TT) (ta tb:TE):TE:=λ σ H Q=>t σ H λ c H1=>if c=true then ta σ H1 Q else tb σ H1 Q
theorem u3 {c:Expr} (hc:PT X c tA) (ha:PE X a ta) (hb:PE X b tb):PE X (.IfExp c a b pos) (V7 tA ta tb):=by
 intro pins s σ H Q I h;refine wpAny_IfExp (A0 (hc pins s σ H _ I h) λ d s1 ⟨H1,I1,q1⟩=>?_);cases d with
 | true=>exact ha pins s1 σ H1 Q I1 q1
 | false=>exact hb pins s1 σ H1 Q I1 q1
end
def Bd (K:PySem.W.Frag) (H:Hp) (a:Addr) (xs:List V):Prop:=
 Rd H a (.lst xs) \/
  ∃ (o:Obj) (its:Array Ae) (n:Nat),K.lookup a=some o/\o.cls=.type "list" /\ o.dict=none/\o.data=.seq its n/\its.size<=Aw/\Vals xs its.toList
def SqT (K:PySem.W.Frag) (H:Hp) (a:Addr) (xs:List V):Prop:=
 Rd H a (.tup xs) \/
  ∃ (o:Obj) (its:Array Ae) (n:Nat),K.lookup a=some o/\o.cls=.type "tuple" /\ o.data=.seq its n/\its.size<=Aw/\Vals xs its.toList
def Ua:Ae->Option V
 | .none=>some .non
 | .bool b=>some (.bl b)
 | .int i _=>some (.int i)
 | .str x _=>some (.str x)
 | .bytes b _=>some (.byt b)
 | .float b _=>some (.flt b)
 | .ref a=>some (.ref a)
 | .type n=>some (.ty n)
 | _=>none
theorem RelV.abs {x:V}{u:Ae} (r:RelV x u):Ua u=some x:=by
 cases x with
 | non=>cases r;rfl
 | bl _=>cases r;rfl
 | int _=>obtain ⟨t,rfl⟩:=r;rfl
 | str _=>obtain ⟨t,rfl⟩:=r;rfl
 | byt _=>obtain ⟨t,rfl⟩:=r;rfl
 | flt _=>obtain ⟨t,rfl⟩:=r;rfl
 | ref _=>cases r;rfl
 | ty _=>cases r;rfl
def RelV.inj {x y:V}{u:Ae} (r:RelV x u) (q:RelV y u):x=y:=Option.some.inj (r.abs.symm.trans q.abs)
theorem Vals.inj:∀ {xs ys:List V}{us:List Ae},Vals xs us->Vals ys us->xs=ys
 | _,_,_,.nil,.nil=>rfl
 | _,_,_,.cons r t,.cons r' t'=>by rw [r.inj r',Vals.inj t t']
section
variable {X:Cx}{pins:List (Addr×Obj)}{σ:St}{H:Hp}{s:Ai}{a:Addr}{xs ys:List V}
def SqT.of {K:PySem.W.Frag} (h:H a=some (.tup xs)):SqT K H a xs:=.inl (.inl h)
def Inv.list (I:Inv X pins σ H s) (h:Bd X.K H a xs):∃ its:List Ae,Vals xs its/\PlainL s.heap a its.toArray/\xs.length<=Aw:=by
 rcases h with h | ⟨o,its,n,hk,hc,hd,hs,hz,r⟩
 ·obtain ⟨z,its,n,r,e⟩:=h.ok I.hok;exact ⟨its,r,⟨_,n,e,rfl,rfl,rfl⟩,z⟩
 ·refine ⟨its.toList,r,⟨o,n,I.kIn a o hk,hc,hd,by simpa using hs⟩,?_⟩;have e:=r.length;simp only [Kl] at e;omega
def Inv.tuple (I:Inv X pins σ H s) (h:SqT X.K H a xs):∃ its:List Ae,Vals xs its/\IsTup s.heap a its.toArray/\xs.length<=Aw:=by
 rcases h with h | ⟨o,its,n,hk,hc,hs,hz,r⟩
 ·obtain ⟨z,its,r,p⟩:=h.ok I.hok;exact ⟨its,r,p,z⟩
 ·refine ⟨its.toList,r,⟨o,I.kIn a o hk,hc,n,by simpa using hs⟩,?_⟩;have e:=r.length;simp only [Kl] at e;omega
def Inv.list_inj (I:Inv X pins σ H s) (h:Bd X.K H a xs) (h':Bd X.K H a ys):xs=ys:=by
 obtain ⟨its,r,⟨o,n,e,_,_,d⟩,_⟩:=I.list h;obtain ⟨its',r',⟨o',n',e',_,_,d'⟩,_⟩:=I.list h';rw [e] at e';cases e';rw [d] at d';injection d' with d1 _
 have:its=its':=by simpa using congrArg Zr d1
 subst this;exact r.inj r'
def Inv.tuple_inj (I:Inv X pins σ H s) (h:SqT X.K H a xs) (h':SqT X.K H a ys):xs=ys:=by
 obtain ⟨its,r,⟨o,e,_,n,d⟩,_⟩:=I.tuple h;obtain ⟨its',r',⟨o',e',_,n',d'⟩,_⟩:=I.tuple h';rw [e] at e';cases e';rw [d] at d';injection d' with d1 _
 have:its=its':=by simpa using congrArg Zr d1
 subst this;exact r.inj r'
end
section
variable {X:Cx}{pins:List (Addr×Obj)}{σ:St}{H:Hp}{s:Ai}{E:Ae->Ai->Prop}
end
section
variable {X:Cx}{st:Stmt}{Bg:List Stmt}{t u:TS}{e:Expr}{te:TE}{pos:Pos}
def Wf:TS:=λ D σ H=>D.nx σ H
def Lk (t u:TS):TS:=λ D σ H=>t { D with nx:=u D } σ H
def wV:E4 X [] Wf:=λ _ _ σ H _ I h=>Nn ⟨σ,H,I,h⟩
theorem uB (h1:PS X st t) (h2:E4 X Bg u):E4 X (st::Bg) (Lk t u):=by
 intro pins s σ H D I h;refine wpAny_execs_cons (A0 (h1 pins s σ H { D with nx:=u D } I h) λ f s1 q=>?_);cases f with
 | next=>
  obtain ⟨σ',H',I',q⟩:=q;exact h2 pins s1 σ' H' D I' q
 | ret v=>exact q
 | brk=>exact q
 | cont=>exact q
theorem wW (h1:PS X st t):E4 X [st] t:=by
 intro pins s σ H D I h;refine wpAny_execs_cons (A0 (h1 pins s σ H D I h) λ f s1 q=>?_);cases f with
 | next=>exact Nn q
 | ret v=>exact q
 | brk=>exact q
 | cont=>exact q
def Inv.quiet {pins:List (Addr×Obj)}{σ:St}{H:Hp}{s:Ai} (I:Inv X pins σ H s):interactive X.env=false:=by simp [interactive,I.ok.kind]
def Oc (te:TE):TS:=λ D σ H=>te σ H λ _ H1=>D.nx σ H1
def Sh (he:PE X e te) (hs:swapsWith e none pos.line X.env=pure false:=by rfl):PS X (.Expr e pos) (Oc te):=by
 intro pins s σ H D I h;exact wpAny_Expr_any (A0 (he pins s σ H _ I h) λ v s1 ⟨x,H1,I1,r1,q1⟩=>⟨σ,H1,I1,q1⟩) I.quiet hs
def IG (te:TE):TS:=λ D σ H=>te σ H D.rt
def WA (he:PE X e te):PS X (.Return (some e) pos) (IG te):=by
 intro pins s σ H D I h;exact wpAny_Return_some (A0 (he pins s σ H _ I h) λ v s1 ⟨x,H1,I1,r1,q1⟩=>⟨x,σ,H1,I1,r1,q1⟩)
def Wi:TS:=λ D _ H=>D.rt .non H
def wU:PS X (.Return none pos) Wi:=λ _ _ σ H _ I h=>wpAny_Return_none ⟨.non,σ,H,I,rfl,h⟩
def Lp (c:TT) (t u:TS):TS:=λ D σ H=>c σ H λ b H1=>if b=true then t D σ H1 else u D σ H1
theorem zB {c:Expr}{a b:List Stmt}{tc:TT} (hc:PT X c tc) (ha:E4 X a t) (hb:E4 X b u):PS X (.If c a b pos) (Lp tc t u):=by
 intro pins s σ H D I h;refine wpAny_If (A0 (hc pins s σ H _ I h) λ d s1 ⟨H1,I1,q1⟩=>?_);cases d with
 | true=>exact ha pins s1 σ H1 D I1 q1
 | false=>exact hb pins s1 σ H1 D I1 q1
def WI:TS:=λ _ _ _=>False
def u7:PS X st WI:=λ _ _ _ _ _ _ h=>h.elim
end
abbrev TG:=V->St->Hp->(St->Hp->Prop)->Prop
abbrev Ic:=List V->St->Hp->(St->Hp->Prop)->Prop
def PG (X:Cx) (target:Expr) (t:TG):Prop:=
 ∀ (pins:List (Addr×Obj)) (s:Ai) (σ:St) (H:Hp) (v:V) (u:Ae) (Q:St->Hp->Prop),Inv X pins σ H s->RelV v u->t v σ H Q ->
  Am (Ax X.prog X.w) X.A (GU target X.env u) (λ _ s'=>∃ σ' H',Inv X pins σ' H' s'/\Q σ' H') X.xe s
def Kn (X:Cx) (ts:List Expr) (t:Ic):Prop:=
 ∀ (pins:List (Addr×Obj)) (s:Ai) (σ:St) (H:Hp) (vs:List V) (us:List Ae) (Q:St->Hp->Prop),Inv X pins σ H s->Vals vs us->t vs σ H Q ->
  Am (Ax X.prog X.w) X.A (assignInOrder ((ED ts X.env).map (·.2)) us) (λ _ s'=>∃ σ' H',Inv X pins σ' H' s'/\Q σ' H') X.xe s
abbrev DS:=V->V->V->Hp->(Hp->Prop)->Prop
def PSet (X:Cx) (t:DS):Prop:=
 ∀ (pins:List (Addr×Obj)) (s:Ai) (σ:St) (H:Hp) (o i v:V) (ov iv u:Ae) (Q:Hp->Prop),Inv X pins σ H s->RelV o ov->RelV i iv->RelV v u->t o i v H Q ->
  Am (Ax X.prog X.w) X.A (setItem ov iv u) (λ _ s'=>∃ H',Inv X pins σ H' s'/\Q H') X.xe s
abbrev Jm:=V->V->Hp->VK->Prop
def Jo (X:Cx) (op:GW) (t:Jm):Prop:=
 ∀ (pins:List (Addr×Obj)) (s:Ai) (σ:St) (H:Hp) (x y:V) (v u:Ae) (Q:VK),Inv X pins σ H s->RelV x v->RelV y u->t x y H Q ->
  Am (Ax X.prog X.w) X.A (inplaceOp op v u) (EP X pins σ Q) X.xe s
section
variable {X:Cx}{pos:Pos}
def GR (i:Nat):TG:=λ v σ H Q=>Q (σ.set i (some v)) H
def MD {i:Nat}{x:Str} (hN:X.N.Nodup) (hi:X.N[i]?=some x) (hx:Hv X.env.scope x) (hf:X.fn x=true\/X.env.scope.names.lookup x=some .local:=by first | exact .inl rfl | exact .inr rfl | assumption):PG X (.Name x pos) (GR i):=by
 intro pins s σ H v u Q I r h;exact wpAny_assign_Name (K4 I hN hi hx r (λ s' I'=>⟨_,H,I',h⟩) hf)
def Mm:Ic:=λ vs σ H Q=>vs=[]/\Q σ H
def VB (t:TG) (u:Ic):Ic:=λ vs σ H Q=>∃ v r,vs=v::r/\t v σ H λ σ' H'=>u r σ' H' Q
def X5:Kn X [] Mm:=by
 intro pins s σ H vs us Q I r h;obtain ⟨e,h⟩:=h;subst e;cases r;exact assignInOrder_nil ⟨σ,H,I,h⟩
theorem YB {e:Expr}{es:List Expr}{t:TG}{u:Ic} (h1:PG X e t) (h2:Kn X es u)
  (hs:(ED (e::es) X.env).map (·.2)=GU e X.env::(ED es X.env).map (·.2):=by rfl):Kn X (e::es) (VB t u):=by
 intro pins s σ H vs us Q I r h;obtain ⟨v,vr,e1,h⟩:=h;subst e1;cases r with
 | cons r rr=>
  rw [hs];refine Qp (A0 (h1 pins s σ H _ _ _ I r h) λ _ s1 ⟨σ1,H1,I1,q1⟩=>?_);exact h2 pins s1 σ1 H1 _ _ Q I1 rr q1
def Jh (K:PySem.W.Frag) (n:Nat) (t:Ic):TG:=λ v σ H Q=>∃ a xs,v=.ref a/\SqT K H a xs/\xs.length=n/\t xs σ H Q
def R9 {es:List Expr}{k:Nat}{t:Ic}{n:Nat} (hc:X.calm=true) (h:Kn X es t)
  (hn:(ED es X.env).length=n:=by rfl) (hst:(ED es X.env).findIdx? (·.1)=none:=by rfl):PG X (.Tuple es k pos) (Jh X.K n t):=by
 intro pins s σ H v u Q I r hw;obtain ⟨a,xs,e1,hq,hl,hw⟩:=hw;subst e1;cases r;obtain ⟨its,rv,ht,hz⟩:=I.tuple hq;refine assign_Tuple_tuple (I.ok.hd hc) ht (by simp [hn,<- hl,rv.length]) hst λ h' hx=>?_;have I1:Inv X pins σ H { s with heap:=h' }:=I.kept (t':=s.toks) λ b o e=>hx b o (BJ (AI e)) e;exact h pins _ σ H xs _ Q I1 (by simpa using rv) hw
def Ml (to ti:TE) (t:DS):TG:=λ v σ H Q=>to σ H λ o H1=>ti σ H1 λ i H2=>t o i v H2 λ H3=>Q σ H3
def jO {o i:Expr}{to ti:TE}{t:DS} (ho:PE X o to) (hi:PE X i ti) (hs:PSet X t)
  (ha:∀ v,GU (.Subscript o i pos) X.env v=(do
   let ov<-holding [v] (eval o X.env);let iv<-holding [v,ov] (eval i X.env)
   standAt pos
   holding [v,ov,iv] (setItem ov iv v)
   release [v,ov,iv] []):=by intro _;rfl):PG X (.Subscript o i pos) (Ml to ti t):=by
 intro pins s σ H v u Q I r h;rw [ha];refine Ah (ID (A0 (ho pins s σ H _ I h) λ ov s1 ⟨x,H1,I1,r1,q1⟩=>?_));refine Ah (ID (A0 (hi pins s1 σ H1 _ I1 q1) λ iv s2 ⟨y,H2,I2,r2,q2⟩=>?_));refine Ah (Nj (Ah (ID (A0 (hs pins s2 σ H2 x y v ov iv u _ I2 r1 r2 r q2) λ _ s3 ⟨H3,I3,q3⟩=>?_))));exact wpAny_release ⟨σ,H3,I3,q3⟩
def Ff (te:TE) (g:TG):TS:=λ D σ H=>te σ H λ x H1=>g x σ H1 D.nx
def W9 {tg e:Expr}{te:TE}{g:TG} (he:PE X e te) (hg:PG X tg g) (hs:swapsWithSole [tg] e pos.line X.env=pure false:=by rfl) (hw:Nh [tg] e X.env=pure none:=by rfl)
  (h1:(ED [tg] X.env).map (·.2)=[GU tg X.env]:=by rfl):PS X (.Assign [tg] e pos) (Ff te g):=by
 intro pins s σ H D I h;refine wpAny_Assign_stores (A0 (he pins s σ H _ I h) λ v s1 ⟨x,H1,I1,r1,q1⟩=>?_) hs hw;rw [h1];exact A0 (hg pins s1 σ H1 x v _ I1 r1 q1) λ _ s2 q=>q
def RB {i:Nat}{x:Str}{e:Expr}{te:TE}{pos':Pos} (hN:X.N.Nodup) (hi:X.N[i]?=some x) (hx:Hv X.env.scope x) (he:PE X e te) (hs:swapsWith e (some (.Name x pos')) pos.line X.env=pure false:=by rfl) (hf:X.fn x=true\/X.env.scope.names.lookup x=some .local:=by first | exact .inl rfl | exact .inr rfl | assumption):
  PS X (.Assign [.Name x pos'] e pos) (Ff te (GR i)):=by
 intro pins s σ H D I h;refine wpAny_Assign_Name (A0 (he pins s σ H _ I h) λ v s1 ⟨y,H1,I1,r1,q1⟩=>?_) hs;exact K4 I1 hN hi hx r1 (λ s2 I2=>⟨_,H1,I2,q1⟩) hf
def Ll (i j:Nat) (ta:TA):TS:=λ D σ H=>ta σ H λ vs H1=>∃ v w,vs=[v,w]/\D.nx ((σ.set i (some v)).set j (some w)) H1
def jU {i j:Nat}{x y:Str}{a b:Expr}{ta:TA}{px py pt:Pos}{kt k2 pt2} (hc:X.calm=true) (hN:X.N.Nodup) (hi:X.N[i]?=some x) (hj:X.N[j]?=some y) (hij:i≠j)
  (hx:X.env.scope.names.lookup x=some .local) (hy:X.env.scope.names.lookup y=some .local) (ha:PA X [a,b] ta)
  (hw:Nh [.Tuple [.Name x px,.Name y py] kt pt] (.Tuple [a,b] k2 pt2) X.env=pure (some [x,y]))
  (hs:swapsWithSole [.Tuple [.Name x px,.Name y py] kt pt] (.Tuple [a,b] k2 pt2) pos.line X.env=pure false:=by rfl):
  PS X (.Assign [.Tuple [.Name x px,.Name y py] kt pt] (.Tuple [a,b] k2 pt2) pos) (Ll i j ta):=by
 intro pins s σ H D I h;rw [exec_Assign_arm];refine Ah (Nj ?_);rw [hs];refine Ah (Aq ?_);rw [if_neg (by decide)];refine Ah (Tuple_ (A0 (ha _ pins s σ H _ I h) λ us s1 ⟨vs,H1,I1,r1,q1⟩=>?_));obtain ⟨v,w,e1,q1⟩:=q1;subst e1;obtain ⟨u1,u2,rfl,rv,rw'⟩:∃ u1 u2,us=[u1,u2]/\RelV v u1/\RelV w u2:=by
  cases r1 with
  | cons p q=>
   cases q with
   | cons p' q'=>
    cases q';exact ⟨_,_,rfl,p,p'⟩
 refine Es ?_ (by show 2<=Aw;decide);have I2:Inv X pins σ H1 { s1 with heap:=s1.heap.push { cls:=.type "tuple",data:=.seq [u1,u2].toArray } }:=I1.kept (t':=s1.toks) λ b o e=>AS _ e;rw [hw];refine Ah (Aq ?_);show Am (Ax X.prog X.w) X.A (do rule "assign.swapped-stores";let items<-unpackItems (.ref s1.heap.objs.size) 2 none;assignInOrder [λ v=>bindName X.env y v,λ v=>bindName X.env x v] items.reverse;pure Flow.next) _ _ _;refine Ah (wpAny_rule (Ah (unpackItems_tuple (items:=#[u1,u2]) (I.ok.hd hc) (IsTup.new s1.heap _) λ h' hx'=>?_)));have I3:=I2.kept (h':=h') (t':=s1.toks) λ b o e=>hx' b o (BJ (AI e)) e;show Am _ _ (assignInOrder [λ v=>bindName X.env y v,λ v=>bindName X.env x v] [u2,u1] >>= λ _=>pure Flow.next) _ _ _;refine Ah (Qp (wpAny_bindName (K4 I3 hN hj (.inl hy) rw' (λ s2 I4=>?_) (.inr hy))));refine Qp (wpAny_bindName (K4 I4 hN hi (.inl hx) rv (λ s3 I5=>assignInOrder_nil (Aq ?_)) (.inr hx)));rw [List.set_comm _ _ (Dw hij)] at I5;exact ⟨_,H1,I5,q1⟩
def Lq (i:Nat) (te:TE) (ti:Jm):TS:=λ D σ H=>∃ x,σ[i]?=some (some x)/\te σ H λ y H1=>ti x y H1 λ z H2=>D.nx (σ.set i (some z)) H2
def jS {i:Nat}{x:Str}{e:Expr}{te:TE}{op:GW}{ti:Jm}{pos':Pos} (hN:X.N.Nodup) (hi:X.N[i]?=some x) (hx:Hv X.env.scope x) (he:PE X e te) (ho:Jo X op ti) (hf:X.fn x=true\/X.env.scope.names.lookup x=some .local:=by first | exact .inl rfl | exact .inr rfl | assumption):
  PS X (.AugAssign (.Name x pos') op e pos) (Lq i te ti):=by
 intro pins s σ H D I h;obtain ⟨v,e1,h⟩:=h;obtain ⟨m,hn,hl⟩:=I.loc;have vis:Hu X.env.scope x:=by rcases hx with k | k;exact .inl k;exact .inr (.inl k)
 obtain ⟨u,r,l⟩:=hl i x v hi e1 vis;refine wpAny_AugAssign_Name ?_;have go:Am (Ax X.prog X.w) X.A (eval e X.env) (λ w s₂=>Am (Ax X.prog X.w) X.A (inplaceOp op u w) (λ r s₃=>Am (Ax X.prog X.w) X.A (storeName X.env x r) (λ _=>SP X pins D .next) X.xe s₃) X.xe s₂) X.xe s:=by
  refine A0 (he pins s σ H _ I h) λ w s1 ⟨y,H1,I1,r1,q1⟩=>?_;refine A0 (ho pins s1 σ H1 v y u w _ I1 r r1 q1) λ z s2 ⟨zv,H2,I2,r2,q2⟩=>?_;exact K4 I2 hN hi hx r2 (λ s3 I3=>⟨_,H2,I3,q2⟩) hf
 rcases l with ⟨hk,hm⟩ | ⟨hk,c,hc,hcell⟩
 ·exact wpAny_loadName_local I.ok.kind hk hn hm go
 ·rcases hk with hk | hk
  ·exact wpAny_loadName_cell I.ok.kind hk hc hcell go
  ·rcases hx with k | k
   ·have:X.env.scope.names.lookup x=some .free:=hk
    rw [k] at this;cases this
   ·have:X.env.scope.names.lookup x=some .free:=hk
    rw [k] at this;cases this
def We (to ti te:TE) (tget:V->V->Hp->VK->Prop) (tip:Jm) (tset:DS):TS:=λ D σ H=>to σ H λ o H1=>ti σ H1 λ i H2=>tget o i H2 λ x H3=>te σ H3 λ y H4=>tip x y H4 λ z H5=>tset o i z H5 λ H6=>D.nx σ H6
def Mu (X:Cx) (t:V->V->Hp->VK->Prop):Prop:=
 ∀ (pins:List (Addr×Obj)) (s:Ai) (σ:St) (H:Hp) (o i:V) (ov iv:Ae) (Q:VK),Inv X pins σ H s->RelV o ov->RelV i iv->t o i H Q ->
  Am (Ax X.prog X.w) X.A (HI ov iv) (EP X pins σ Q) X.xe s
def X9 {o i e:Expr}{to ti te:TE}{tget:V->V->Hp->VK->Prop}{tip:Jm}{tset:DS}{op:GW}{tpos:Pos} (ho:PE X o to) (hi:PE X i ti) (hg:Mu X tget) (he:PE X e te) (hp:Jo X op tip) (hs:PSet X tset)
  (ha:∀ ov iv new,augStore i ov iv new=(do holding [new,ov,iv] (setItem ov iv new);release [new,ov,iv] [];pure .next):=by intros;rfl):PS X (.AugAssign (.Subscript o i tpos) op e pos) (We to ti te tget tip tset):=by
 intro pins s σ H D I h;refine wpAny_AugAssign_SubscriptAny (A0 (ho pins s σ H _ I h) λ ov s1 ⟨x1,H1,I1,r1,q1⟩=>?_) ha;refine A0 (hi pins s1 σ H1 _ I1 q1) λ iv s2 ⟨x2,H2,I2,r2,q2⟩=>?_;refine A0 (hg pins s2 σ H2 x1 x2 ov iv _ I2 r1 r2 q2) λ old s3 ⟨x3,H3,I3,r3,q3⟩=>?_;refine A0 (he pins s3 σ H3 _ I3 q3) λ v s4 ⟨x4,H4,I4,r4,q4⟩=>?_;refine A0 (hp pins s4 σ H4 x3 x4 old v _ I4 r3 r4 q4) λ new s5 ⟨x5,H5,I5,r5,q5⟩=>?_;exact A0 (hs pins s5 σ H5 x1 x2 x5 ov iv new _ I5 r1 r2 r5 q5) λ _ s6 ⟨H6,I6,q6⟩=>⟨σ,H6,I6,q6⟩
def OJ (f:Int->Int->Int):Jm:=λ x y H Q=>∃ i j,x=.int i/\y=.int j/\Q (.int (f i j)) H
def WX:Jo X .Add (OJ λ i j=>i + j):=by
 intro pins s σ H x y v u Q I r1 r2 h;obtain ⟨i,j,e1,e2,q⟩:=h;subst e1;subst e2;obtain ⟨t,rfl⟩:=r1;obtain ⟨t',rfl⟩:=r2;exact iadd_int ⟨.int _,H,I.tok _,⟨_,rfl⟩,q⟩
def WY:Jo X .Sub (OJ λ i j=>i - j):=by
 intro pins s σ H x y v u Q I r1 r2 h;obtain ⟨i,j,e1,e2,q⟩:=h;subst e1;subst e2;obtain ⟨t,rfl⟩:=r1;obtain ⟨t',rfl⟩:=r2;exact isub_int ⟨.int _,H,I.tok _,⟨_,rfl⟩,q⟩
end
section
variable {X:Cx}{pos:Pos}
def WJ (c:TT) (tb:TS):TS:=λ D σ H=>∃ W:Nat->St->Hp->Prop,(∃ m,W m σ H)/\∀ m σ H,W m σ H ->
 c σ H λ b H1=>if b=true then ∃ N:St->Hp->Prop,(∀ σ' H',N σ' H'->∃ m',m' < m/\W m' σ' H')/\tb { D with nx:=N,ct:=N,bk:=D.nx } σ H1 else D.nx σ H1
theorem uA {c:Expr}{body:List Stmt}{tc:TT}{tb:TS} (hp:PassesOwn (Ax X.prog X.w) X.A X.env X.xe) (hc:PT X c tc) (hb:E4 X body tb):PS X (.While c body [] pos) (WJ tc tb):=by
 intro pins s σ H D I h;obtain ⟨W,⟨m0,w0⟩,turn⟩:=h;refine wpAny_While (codeAny_whileLoop (λ n s'=>∃ σ' H',Inv X pins σ' H' s'/\W n σ' H') ?_ m0 ⟨σ,H,I,w0⟩);rintro n s1 ⟨σ1,H1,I1,w1⟩;refine IE hp (A0 (hc pins s1 σ1 H1 _ I1 (turn n σ1 H1 w1)) λ b s2 ⟨H2,I2,q2⟩=>?_);cases b with
 | true=>
  obtain ⟨N,hN,q2⟩:=q2;rw [if_pos rfl];refine IE hp (A0 (hb pins s2 σ1 H2 _ I2 q2) λ f s3 q3=>?_);cases f with
  | next=>
   obtain ⟨σ3,H3,I3,n3⟩:=q3;obtain ⟨m',hm,w3⟩:=hN σ3 H3 n3;exact ⟨m',hm,σ3,H3,I3,w3⟩
  | cont=>
   obtain ⟨σ3,H3,I3,n3⟩:=q3;obtain ⟨m',hm,w3⟩:=hN σ3 H3 n3;exact ⟨m',hm,σ3,H3,I3,w3⟩
  | brk=>exact q3
  | ret v=>exact q3
 | false=>
  rw [if_neg BK];exact Nn ⟨σ1,H2,I2,q2⟩
end
structure It where
 go:Nat->Hp->Prop
 yld:Nat->Hp->V->Hp->Prop
 stop:Nat->Hp->Prop
def BW (X:Cx) (pins:List (Addr×Obj)) (H:Hp) (b:Addr):Prop:=
 H b=none/\b≠X.env.locals/\b∉X.fs/\(b∈X.ex\/X.s₀.heap.objs.size<=b)/\(∀ x c,X.env.cells.lookup x=some c->c≠b)/\∀ p∈X.pn++pins,p.1≠b
def Inv.fpOk {X:Cx}{pins:List (Addr×Obj)}{σ:St}{H H':Hp}{s:Ai}{b:Addr} (I:Inv X pins σ H s) (hb:s.heap.objs.size<=b) (hn:H' b=none):BW X pins H' b:=by
 refine ⟨hn,EG (BL I.lt hb),I.nofs hb,.inr (BF I.sz hb),λ x c e z=>?_,λ p hp z=>?_⟩
 ·obtain ⟨v,q⟩:=I.cell x c e;exact absurd (BL q.lt (by rw [z];exact hb)) (Di _)
 ·exact absurd (BL (AI (I.pin p hp).1) (by rw [z];exact hb)) (Di _)
structure Turn (P:AD) (w:AA) (K:PySem.W.Frag) (tg:Expr) (J:It) (fp:List Addr) (it:Addr) (tn:Nat->Heap->Prop):Prop where
 mem:it∈fp
 obj:∀ i h,tn i h->∀ b∈fp,∃ o,h.get? b=some o/\∀ v,o.data≠.cell v
 keep:∀ i h h',tn i h->(∀ b∈fp,∀ o,h.get? b=some o->h'.get? b=some o)->tn i h'
 item:∀ (X:Cx),X.prog=P->X.w=w->X.K=K->X.calm=true->∀ (i:Nat) (pins:List (Addr×Obj)) (s:Ai) (σ:St) (H:Hp) (E:Ae->Ai->Prop),Inv X pins σ H s->(∀ b∈fp,BW X pins H b)->tn i s.heap->J.go i H ->
  Am (Ax P w) X.A (Ek (.ref it)) (λ r s1=>∃ u,r=some u /\
   Am (Ax P w) X.A (Nm tg (.ref it) u) (λ _ s2=>∃ x H',Inv X pins σ H' s2/\RelV x u/\J.yld i H x H'/\tn (i + 1) s2.heap/\∀ b∈fp,H' b=none) E s1) E s
 done:∀ (X:Cx),X.prog=P->X.w=w->X.K=K->X.calm=true->∀ (i:Nat) (pins:List (Addr×Obj)) (s:Ai) (σ:St) (H:Hp) (E:Ae->Ai->Prop),Inv X pins σ H s->(∀ b∈fp,BW X pins H b)->tn i s.heap->J.stop i H ->
  Am (Ax P w) X.A (Ek (.ref it)) (λ r s1=>r=none/\Inv X pins σ H s1) E s
 self:∀ (A:Bf) (i:Nat) (s:Ai) (Q:Ae->Ai->Prop) (E:Ae->Ai->Prop),tn i s.heap->Q (.ref it) s->Am (Ax P w) A (pyIter (.ref it)) Q E s
abbrev TI:=St->Hp->(It->Hp->Prop)->Prop
def Ue (X:Cx) (pins:List (Addr×Obj)) (σ:St) (tg:Expr) (R:It->Hp->Prop) (itv:Ae) (s2:Ai):Prop:=
 ∃ (it:Addr) (fp:List Addr) (tn:Nat->Heap->Prop) (J:It) (H':Hp),itv=.ref it/\Inv X pins σ H' s2/\Turn X.prog X.w X.K tg J fp it tn/\tn 0 s2.heap/\(∀ b∈fp,BW X pins H' b)/\R J H'
def PI (X:Cx) (tg iter:Expr) (wi:TI):Prop:=
 ∀ (pins:List (Addr×Obj)) (s:Ai) (σ:St) (H:Hp) (R:It->Hp->Prop),Inv X pins σ H s->wi σ H R ->
  Am (Ax X.prog X.w) X.A (eval iter X.env) (λ v s1=>Am (Ax X.prog X.w) X.A (pyIter v) (Ue X pins σ tg R) X.xe s1) X.xe s
def HE {M:Model}{A:Bf}{E:Ae->Ai->Prop}{s:Ai}{tg:Expr}{it:Addr}{u:Ae}{o:Obj}{n:String}{vs:Array Ae}{Q:Unit->Ai->Prop} (ho:s.heap.get? it=some o) (hc:o.cls=.type n) (hd:o.data=.fields vs)
  (hn:["enumerate","zip","dict_itemiterator","dict_reverseitemiterator","odict_iterator","itertools.zip_longest","itertools.pairwise"].contains n=false) (hQ:Q () s):Am M A (Nm tg (.ref it) u) Q E s:=by
 unfold Nm;cases tg <;> first
  | exact Aq hQ
  | (cases u <;> first
    | exact Aq hQ
    | (refine Ah (wpAny_load ho ?_);rw [hc,hd];show Am M A (if (["enumerate","zip","dict_itemiterator","dict_reverseitemiterator","odict_iterator","itertools.zip_longest","itertools.pairwise"].contains n && vs[0]? == some (Dv _))=true then _ else _) Q E s;rw [if_neg (by intro h;rw [hn,Bool.false_and] at h;cases h)];exact Aq hQ))
def Ui (K:PySem.W.Frag) (a:Addr):It:=
 ⟨λ i H=>∃ xs x,Bd K H a xs/\xs[i]?=some x,λ i H x H'=>H'=H/\∀ xs,Bd K H a xs->xs[i]?=some x,λ i H=>∃ xs,Bd K H a xs/\xs.length<=i⟩
def Uh (K:PySem.W.Frag) (a:Addr):It:=
 ⟨λ i H=>∃ xs x,SqT K H a xs/\xs[i]?=some x,λ i H x H'=>H'=H/\∀ xs,SqT K H a xs->xs[i]?=some x,λ i H=>∃ xs,SqT K H a xs/\xs.length<=i⟩
def Mw (lo:Int) (n:Nat):It:=⟨λ i _=>i < n,λ i H x H'=>H'=H/\x=.int (lo + i),λ i _=>n<=i⟩
def de {P:AD}{w:AA}{K:PySem.W.Frag}{tg:Expr} (a it:Addr):Turn P w K tg (Ui K a) [it] it (λ i h=>h.IsListIter it a i) where
 mem:=by simp
 obj:=λ i h st b hb=>by
  have e:b=it:=by simpa using hb
  subst e;obtain ⟨o,e,c,d⟩:=st;exact ⟨o,e,λ v z=>by rw [d] at z;cases z⟩
 keep:=λ i h h' st k=>st.at λ o e=>k it (by simp) o e
 item:=by
  intro X hP hw hK hc i pins s σ H E I hf st hg;subst hP hw hK;obtain ⟨xs,x,hq,hx⟩:=hg;obtain ⟨its,rv,p,hz⟩:=I.list hq;obtain ⟨u,hu,ru⟩:=rv.get hx;obtain ⟨f0,f1,f2,f3,f4,f5⟩:=hf it (by simp);refine wpAny_pyNext_list_item st p.isList (x:=u) (by simpa using hu) λ h' st' sb=>?_;have I1:Inv X pins σ H { s with heap:=h' }:=I.turned (t':=s.toks) (λ b o hb e=>(sb.2 b hb).trans e) f0 f1 f3 f4 f5;obtain ⟨o,e,c,d⟩:=id st';exact ⟨u,rfl,HE (s:={ s with heap:=h' }) e c d (by decide) ⟨x,H,I1,ru,⟨rfl,λ ys hy=>by rw [I.list_inj hy hq];exact hx⟩,st',λ b hb=>(hf b hb).1⟩⟩
 done:=by
  intro X hP hw hK hc i pins s σ H E I hf st hg;subst hP hw hK;obtain ⟨xs,hq,hx⟩:=hg;obtain ⟨its,rv,p,hz⟩:=I.list hq;obtain ⟨f0,f1,f2,f3,f4,f5⟩:=hf it (by simp);have hl:=rv.length;exact wpAny_pyNext_list_end (I.ok.hd hc) st p.isList (by simp;omega) λ h' eb=>⟨rfl,I.turned (t':=s.toks) (λ b o hb e=>eb b o hb e) f0 f1 f3 f4 f5⟩
 self:=λ _ _ _ _ _ st h=>wpAny_pyIter_listiter st h
def dA {P:AD}{w:AA}{K:PySem.W.Frag}{tg:Expr} (a it:Addr):Turn P w K tg (Uh K a) [it] it (λ i h=>h.IsTupleIter it a i) where
 mem:=by simp
 obj:=λ i h st b hb=>by
  have e:b=it:=by simpa using hb
  subst e;obtain ⟨o,e,c,d⟩:=st;exact ⟨o,e,λ v z=>by rw [d] at z;cases z⟩
 keep:=λ i h h' st k=>st.at λ o e=>k it (by simp) o e
 item:=by
  intro X hP hw hK hc i pins s σ H E I hf st hg;subst hP hw hK;obtain ⟨xs,x,hq,hx⟩:=hg;obtain ⟨its,rv,p,hz⟩:=I.tuple hq;obtain ⟨u,hu,ru⟩:=rv.get hx;obtain ⟨f0,f1,f2,f3,f4,f5⟩:=hf it (by simp);refine wpAny_pyNext_tuple_item st (show s.heap.IsTuple a its.toArray from p) (x:=u) (by simpa using hu) λ h' st' sb=>?_;have I1:Inv X pins σ H { s with heap:=h' }:=I.turned (t':=s.toks) (λ b o hb e=>(sb.2 b hb).trans e) f0 f1 f3 f4 f5;obtain ⟨o,e,c,d⟩:=id st';exact ⟨u,rfl,HE (s:={ s with heap:=h' }) e c d (by decide) ⟨x,H,I1,ru,⟨rfl,λ ys hy=>by rw [I.tuple_inj hy hq];exact hx⟩,st',λ b hb=>(hf b hb).1⟩⟩
 done:=by
  intro X hP hw hK hc i pins s σ H E I hf st hg;subst hP hw hK;obtain ⟨xs,hq,hx⟩:=hg;obtain ⟨its,rv,p,hz⟩:=I.tuple hq;obtain ⟨f0,f1,f2,f3,f4,f5⟩:=hf it (by simp);have hl:=rv.length;exact wpAny_pyNext_tuple_end (I.ok.hd hc) st (show s.heap.IsTuple a its.toArray from p) (by simp;omega) λ h' eb=>⟨rfl,I.turned (t':=s.toks) (λ b o hb e=>eb b o hb e) f0 f1 f3 f4 f5⟩
 self:=λ _ _ _ _ _ st h=>wpAny_pyIter_tupleiter st h
def d8 {P:AD}{w:AA}{K:PySem.W.Frag}{tg:Expr} (it:Addr) (lo:Int) (n:Nat):Turn P w K tg (Mw lo n) [it] it (λ i h=>Nb h it (lo + (i:Nat) * 1) ((n:Int) - (i:Nat)) 1) where
 mem:=by simp
 obj:=λ i h st b hb=>by
  have e:b=it:=by simpa using hb
  subst e;exact ⟨_,st,λ v z=>by
   have z':Data.fields _=Data.cell v:=z;cases z'⟩
 keep:=λ i h h' st k=>k it (by simp) _ st
 item:=by
  intro X hP hw hK hc i pins s σ H E I hf st hg;subst hP hw hK;obtain ⟨f0,f1,f2,f3,f4,f5⟩:=hf it (by simp);have W:=Walks.range (prog:=X.prog) (w:=X.w) (I.ok.hd hc) it lo 1 n;refine W.item i s _ _ hg st λ v h' tk hv st' kk=>?_;obtain ⟨t,rfl⟩:=hv;have I1:Inv X pins σ H { s with heap:=h',toks:=tk }:=I.turned (λ b o hb e=>kk b o (by simpa using hb) e) f0 f1 f3 f4 f5;refine ⟨_,rfl,HE (s:={ s with heap:=h',toks:=tk }) (n := "range_iterator") st' rfl rfl (by decide) ⟨.int (lo + i),H,I1,⟨t,?_⟩,⟨rfl,rfl⟩,st',λ b hb=>(hf b hb).1⟩⟩;rw [Int.mul_one]
 done:=by
  intro X hP hw hK hc i pins s σ H E I hf st hg;subst hP hw hK;obtain ⟨f0,f1,f2,f3,f4,f5⟩:=hf it (by simp);exact wpAny_pyNext_range_end (I.ok.hd hc) st (by have:n<=i:=hg;omega) λ h' eb=>⟨rfl,I.turned (t':=s.toks) (λ b o hb e=>eb b o hb e) f0 f1 f3 f4 f5⟩
 self:=λ _ _ _ _ _ st h=>wpAny_pyIter_rangeiter st h
section
variable {X:Cx}{tg:Expr}
def YD {pins:List (Addr×Obj)}{σ:St}{H:Hp}{s:Ai}{R:It->Hp->Prop}{E:Ae->Ai->Prop}{lo hi:Int}{t u v:Tok}{tk:Nat} (I:Inv X pins σ H s) (h1:-(2 ^ 62)<=lo) (h2:lo < 2 ^ 62) (h3:-(2 ^ 62)<=hi) (h4:hi < 2 ^ 62)
  (q:R (Mw lo (hi - lo).toNat) H):Am (Ax X.prog X.w) X.A (pyIter (.ref s.heap.objs.size)) (Ue X pins σ tg R) E { s with heap:=s.heap.push { cls:=.type "range",data:=.fields #[.int lo t,.int hi u,.int 1 v] },toks:=tk }:=by
 refine wpAny_pyIter_range (IsRange.new ..) (small_one h1 h2 h3 h4) ?_;have I1:Inv X pins σ H { s with heap:=s.heap.push { cls:=.type "range",data:=.fields #[.int lo t,.int hi u,.int 1 v] },toks:=tk }:=I.kept λ b o e=>AS _ e;refine ⟨(s.heap.push { cls:=.type "range",data:=.fields #[.int lo t,.int hi u,.int 1 v] }).objs.size,[(s.heap.push { cls:=.type "range",data:=.fields #[.int lo t,.int hi u,.int 1 v] }).objs.size],_,_,H,rfl,
  I1.kept (t':=tk) λ b o e=>AS _ e,d8 _ lo (hi - lo).toNat,?_,λ b hb=>?_,q⟩
 ·have e1:lo + ((0:Nat):Int) * 1=lo:=by simp
  have e2:(((hi - lo).toNat:Nat):Int) - ((0:Nat):Int)=Builtin.Range.rangeSize lo hi 1:=by rw [rangeSize_one];split <;> omega
  show Nb _ _ (lo + ((0:Nat):Int) * 1) ((((hi - lo).toNat:Nat):Int) - ((0:Nat):Int)) 1;rw [e1,e2];exact Bw _ rfl
 ·have e:b=(s.heap.push { cls:=.type "range",data:=.fields #[.int lo t,.int hi u,.int 1 v] }).objs.size:=by simpa using hb
  subst e;exact I1.fpOk (A4 _) (I1.hok.fresh (A4 _))
def VH (ta:TA):TI:=λ σ H R=>ta σ H λ vs H1=>∃ j:Int,vs=[.int j]/\-(2 ^ 62)<=j/\j < 2 ^ 62/\R (Mw 0 j.toNat) H1
def VI (ta:TA):TI:=λ σ H R=>ta σ H λ vs H1=>∃ i j:Int,vs=[.int i,.int j]/\(-(2 ^ 62)<=i/\i < 2 ^ 62/\-(2 ^ 62)<=j/\j < 2 ^ 62)/\R (Mw i (j - i).toNat) H1
theorem bh {a:Expr}{ta:TA}{p pos:Pos} (hg:Gl X "range") (hm:X.mg "range" = none) (ha:PA X [a] ta) (hs:Bi [a] X.env=[(false,eval a X.env)]:=by rfl):PI X tg (.Call (.Name "range" p) [a] [] pos) (VH ta):=by
 intro pins s σ H R I h;refine Call_ (FN I hg hm boot_range (Hc (A0 (ha pos pins s σ H _ I h) λ us s1 ⟨vs,H1,I1,r1,q1⟩=>?_) hs rfl));obtain ⟨j,e,q1,q2,q⟩:=q1;subst e;cases r1 with
 | cons r rr=>
  cases rr;obtain ⟨t,rfl⟩:=r;exact call_range_1 (YD I1 (by omega) (by omega) q1 q2 (by simpa using q))
theorem bj {a b:Expr}{ta:TA}{p pos:Pos} (hg:Gl X "range") (hm:X.mg "range" = none) (ha:PA X [a,b] ta) (hs:Bi [a,b] X.env=[(false,eval a X.env),(false,eval b X.env)]:=by rfl) (hs2:Bi [b] X.env=[(false,eval b X.env)]:=by rfl):
  PI X tg (.Call (.Name "range" p) [a,b] [] pos) (VI ta):=by
 intro pins s σ H R I h;refine Call_ (FN I hg hm boot_range (Hc (A0 (ha pos pins s σ H _ I h) λ us s1 ⟨vs,H1,I1,r1,q1⟩=>?_) (by rw [hs,hs2]) (by rw [hs2];rfl)));obtain ⟨i,j,e,⟨q1,q2,q3,q4⟩,q⟩:=q1;subst e;cases r1 with
 | cons r rr=>
  cases rr with
  | cons r' rr=>
   cases rr;obtain ⟨t,rfl⟩:=r;obtain ⟨t',rfl⟩:=r';exact call_range_2 (YD I1 q1 q2 q3 q4 q)
def Fe (wi:TI) (g:TG) (tb:TS):TS:=λ D σ H=>wi σ H λ J H1=>∃ W:Nat->Nat->St->Hp->Prop,(∃ m,W 0 m σ H1)/\∀ i m σ H,W i m σ H ->
 (J.stop i H/\D.nx σ H)\/(J.go i H/\∃ N:St->Hp->Prop,(∀ σ' H',N σ' H'->∃ m',m' < m/\W (i + 1) m' σ' H')/\∀ x H',J.yld i H x H'->g x σ H' λ σ2 H2=>tb { D with nx:=N,ct:=N,bk:=D.nx } σ2 H2)
def KO (fp:List Addr) (h:Heap):List (Addr×Obj):=fp.filterMap λ b=>(h.get? b).map λ o=>(b,o)
def MA {fp:List Addr}{h:Heap}{b:Addr}{o:Obj} (hb:b∈fp) (e:h.get? b=some o):(b,o)∈KO fp h:=jm1.mpr ⟨b,hb,by rw [e];rfl⟩
theorem bc {fp:List Addr}{h:Heap}{p:Addr×Obj} (hp:p∈KO fp h):p.1∈fp/\h.get? p.1=some p.2:=by
 obtain ⟨b,hb,e⟩:=jm1.mp hp;cases q:h.get? b with
 | none=>rw [q] at e;cases e
 | some o=>
  rw [q] at e;have e':(b,o)=p:=Option.some.inj e;subst e';exact ⟨hb,q⟩
def Inv.pinned {pins:List (Addr×Obj)}{σ:St}{H:Hp}{s:Ai}{fp:List Addr} (I:Inv X pins σ H s) (hf:∀ b∈fp,BW X pins H b) (ho:∀ b∈fp,∃ o,s.heap.get? b=some o/\∀ v,o.data≠.cell v):Inv X (pins++KO fp s.heap) σ H s:=
 I.pins_of λ p hp=>(jg8.mp hp).elim (λ z=>I.pin p (CM _ z)) λ z=>by
  obtain ⟨hb,e⟩:=bc z;obtain ⟨f0,f1,f2,_⟩:=hf p.1 hb;obtain ⟨o,e',d⟩:=ho p.1 hb;rw [e] at e';cases e';exact ⟨e,f0,f1,f2,d⟩
def Inv.unpinned {pins pl:List (Addr×Obj)}{σ:St}{H:Hp}{s:Ai} (I:Inv X (pins++pl) σ H s):Inv X pins σ H s:=I.pins_of λ p hp=>I.pin p (CM _ (Ib _ hp))
def Oq {iter:Expr}{body:List Stmt}{wi:TI}{g:TG}{tb:TS}{pos:Pos} (hp:PassesOwn (Ax X.prog X.w) X.A X.env X.xe) (hc:X.calm=true) (hi:PI X tg iter wi) (hg:PG X tg g) (hb:E4 X body tb)
  (hs:∀ x,Nt iter X.env x=pure x:=by intro _;rfl):PS X (.For tg iter body [] pos) (Fe wi g tb):=by
 intro pins s σ H D I h;refine wpAny_For (A0 (hi pins s σ H _ I h) λ v s1 h1=>A0 h1 λ itv s2 h2=>?_) hs;obtain ⟨it,fp,tn,J,H2,e,I2,T,st2,f2,W,⟨m0,w0⟩,turn⟩:=h2;subst e;have stat:∀ {H':Hp},(∀ b∈fp,H' b=none)->∀ b∈fp,BW X pins H' b:=λ hn b hb=>⟨hn b hb,(f2 b hb).2⟩
 refine codeAny_forLoop_any (λ n s'=>∃ i σ' H',Inv X pins σ' H' s'/\tn i s'.heap/\(∀ b∈fp,H' b=none)/\W i n σ' H') ?_ m0 ⟨0,σ,H2,I2,st2,λ b hb=>(f2 b hb).1,w0⟩;rintro n s3 ⟨i,σ3,H3,I3,st3,fr3,w3⟩;rcases turn i n σ3 H3 w3 with ⟨stop,qn⟩ | ⟨go,N,hN,step⟩
 ·refine IE hp (A0 (T.done X rfl rfl rfl hc i pins s3 σ3 H3 X.xe I3 (stat fr3) st3 stop) λ r s4 ⟨hr,I4⟩=>?_);subst hr;exact Nn ⟨σ3,H3,I4,qn⟩
 ·refine IE hp (A0 (T.item X rfl rfl rfl hc i pins s3 σ3 H3 X.xe I3 (stat fr3) st3 go) λ r s4 ⟨u,hr,h4⟩=>?_);subst hr;refine IE hp (A0 h4 λ _ s5 ⟨x,H5,I5,r5,y5,st5,fr5⟩=>?_);have I5':=I5.pinned (stat fr5) (T.obj _ _ st5);refine IE hp (A0 (hg _ s5 σ3 H5 x u _ I5' r5 (step x H5 y5)) λ _ s6 ⟨σ6,H6,I6,q6⟩=>?_);refine IE hp (A0 (hb _ s6 σ6 H6 _ I6 q6) λ f s7 q7=>?_);have again:∀ {σ7:St}{H7:Hp},Inv X (pins++KO fp s5.heap) σ7 H7 s7->N σ7 H7->∃ m,m < n/\∃ i σ' H',Inv X pins σ' H' s7/\tn i s7.heap/\(∀ b∈fp,H' b=none)/\W i m σ' H':=λ {σ7 H7} I7 n7=>by
   obtain ⟨m',hm,w7⟩:=hN σ7 H7 n7;refine ⟨m',hm,i + 1,σ7,H7,I7.unpinned,T.keep _ _ _ st5 λ b hb o e=>(I7.pin (b,o) (CM _ (CM _ (MA hb e)))).1,λ b hb=>?_,w7⟩;obtain ⟨o,e,d⟩:=T.obj _ _ st5 b hb;exact (I7.pin (b,o) (CM _ (CM _ (MA hb e)))).2.1
  cases f with
  | next=>obtain ⟨σ7,H7,I7,n7⟩:=q7;exact again I7 n7
  | cont=>obtain ⟨σ7,H7,I7,n7⟩:=q7;exact again I7 n7
  | brk=>obtain ⟨σ7,H7,I7,q7⟩:=q7;exact ⟨σ7,H7,I7.unpinned,q7⟩
  | ret v=>obtain ⟨x7,σ7,H7,I7,r7,q7⟩:=q7;exact ⟨x7,σ7,H7,I7.unpinned,r7,q7⟩
end
abbrev R2:=V->V->Hp->VK->Prop
def OpR (X:Cx) (f:Ae->Ae->Sem Ae) (r:R2):Prop:=
 ∀ (pins:List (Addr×Obj)) (s:Ai) (σ:St) (H:Hp) (x y:V) (v u:Ae) (Q:VK),Inv X pins σ H s->RelV x v->RelV y u->r x y H Q ->
  Am (Ax X.prog X.w) X.A (f v u) (EP X pins σ Q) X.xe s
def Uc (X:Cx) (f:Ae->Sem Ae) (r:V->Hp->VK->Prop):Prop:=
 ∀ (pins:List (Addr×Obj)) (s:Ai) (σ:St) (H:Hp) (x:V) (v:Ae) (Q:VK),Inv X pins σ H s->RelV x v->r x H Q ->
  Am (Ax X.prog X.w) X.A (f v) (EP X pins σ Q) X.xe s
def zwr (X:Cx) (f:Ae) (r:List V->Hp->VK->Prop):Prop:=
 ∀ (pins:List (Addr×Obj)) (s:Ai) (σ:St) (H:Hp) (xs:List V) (us:List Ae) (Q:VK),Inv X pins σ H s->Vals xs us->r xs H Q ->
  Am (Ax X.prog X.w) X.A (call f us) (EP X pins σ Q) X.xe s
def JV (r:R2) (ta tb:TE):TE:=λ σ H Q=>ta σ H λ x H1=>tb σ H1 λ y H2=>r x y H2 Q
def NL (r:V->Hp->VK->Prop) (ta:TE):TE:=λ σ H Q=>ta σ H λ x H1=>r x H1 Q
def rI (C:Int->Int->Prop) (g:Int->Int->V):R2:=λ x y H Q=>∃ i j,x=.int i/\y=.int j/\C i j/\Q (g i j) H
def FA (g:Int->Int->V):R2:=λ x y H Q=>∃ i j,x=.int i/\y=.int j/\Q (g i j) H
def rU (g:Int->V):V->Hp->VK->Prop:=λ x H Q=>∃ i,x=.int i/\Q (g i) H
section
variable {X:Cx}{a b c:Expr}{ta tb tc:TE}{pos:Pos}
def Jl (ha:PE X a ta) (hb:PE X b tb) {pins:List (Addr×Obj)}{s:Ai}{σ:St}{H:Hp}{R:V->V->Hp->Prop} (I:Inv X pins σ H s)
  (h:ta σ H λ x H1=>tb σ H1 λ y H2=>R x y H2) {Q:Ae->Ai->Prop}{f:Ae->Ae->Sem Ae}
  (hf:∀ v u s2 x y H2,Inv X pins σ H2 s2->RelV x v->RelV y u->R x y H2->Am (Ax X.prog X.w) X.A (f v u) Q X.xe s2):
  Am (Ax X.prog X.w) X.A (eval a X.env) (λ v s₁=>Am (Ax X.prog X.w) X.A (eval b X.env) (λ u s₂=>Am (Ax X.prog X.w) X.A (f v u) Q X.xe s₂) X.xe s₁) X.xe s:=by
 refine A0 (ha pins s σ H _ I h) λ v s1 ⟨x,H1,I1,r1,q1⟩=>?_;refine A0 (hb pins s1 σ H1 _ I1 q1) λ u s2 ⟨y,H2,I2,r2,q2⟩=>?_;exact hf v u s2 x y H2 I2 r1 r2 q2
def Rh {op:GW}{r:R2} (ho:OpR X (Em op) r) (ha:PE X a ta) (hb:PE X b tb):PE X (.BinOp a op b pos) (JV r ta tb):=by
 intro pins s σ H Q I h;exact wpAny_BinOp (Jl ha hb I h λ v u s2 x y H2 I2 rx ry q=>ho pins s2 σ H2 x y v u Q I2 rx ry q)
def VY {op:UnaryOp}{r:V->Hp->VK->Prop} (ho:Uc X (unaryOp op) r) (ha:PE X a ta):PE X (.UnaryOp op a pos) (NL r ta):=by
 intro pins s σ H Q I h;exact UnaryOp_ (A0 (ha pins s σ H _ I h) λ v s1 ⟨x,H1,I1,r1,q1⟩=>ho pins s1 σ H1 x v Q I1 r1 q1)
def LN {f:Ae->Ae->Sem Ae}{C:Int->Int->Prop}{g:Int->Int->Int}
  (rule:∀ (i j:Int) (t u:Tok) (s:Ai) (Q:Ae->Ai->Prop) (E:Ae->Ai->Prop),C i j->Q (.int (g i j) s.toks) { s with toks:=s.toks + 1 }->Am (Ax X.prog X.w) X.A (f (.int i t) (.int j u)) Q E s):
  OpR X f (rI C λ i j=>.int (g i j)):=by
 intro pins s σ H x y v u Q I rx ry h;obtain ⟨i,j,rfl,rfl,hc,q⟩:=h;obtain ⟨t,rfl⟩:=rx;obtain ⟨t',rfl⟩:=ry;exact rule i j t t' s _ _ hc ⟨.int (g i j),H,I.tok _,⟨_,rfl⟩,q⟩
def Sv {f:Ae->Ae->Sem Ae}{g:Int->Int->Int}
  (rule:∀ (i j:Int) (t u:Tok) (s:Ai) (Q:Ae->Ai->Prop) (E:Ae->Ai->Prop),Q (.int (g i j) s.toks) { s with toks:=s.toks + 1 }->Am (Ax X.prog X.w) X.A (f (.int i t) (.int j u)) Q E s):
  OpR X f (FA λ i j=>.int (g i j)):=by
 intro pins s σ H x y v u Q I rx ry h;obtain ⟨i,j,rfl,rfl,q⟩:=h;obtain ⟨t,rfl⟩:=rx;obtain ⟨t',rfl⟩:=ry;exact rule i j t t' s _ _ ⟨.int (g i j),H,I.tok _,⟨_,rfl⟩,q⟩
def Hm {f:Ae->Ae->Sem Ae}{g:Int->Int->Bool}
  (rule:∀ (i j:Int) (t u:Tok) (s:Ai) (Q:Ae->Ai->Prop) (E:Ae->Ai->Prop),Q (.bool (g i j)) s->Am (Ax X.prog X.w) X.A (f (.int i t) (.int j u)) Q E s):
  OpR X f (FA λ i j=>.bl (g i j)):=by
 intro pins s σ H x y v u Q I rx ry h;obtain ⟨i,j,rfl,rfl,q⟩:=h;obtain ⟨t,rfl⟩:=rx;obtain ⟨t',rfl⟩:=ry;exact rule i j t t' s _ _ ⟨.bl (g i j),H,I,rfl,q⟩
def M4 (i j:Int):Prop:=0<=j/\j<=1000000/\i.natAbs < 2 ^ 64
def CMul (i j:Int):Prop:=(-(2 ^ 64) < i/\i < 2 ^ 64)\/(-(2 ^ 64) < j/\j < 2 ^ 64)
def CMul.ok {i j:Int} (h:CMul i j):IntMulOk i j:=by
 rcases h with ⟨h1,h2⟩ | ⟨h1,h2⟩
 ·exact .of_left (intBits_le_64 h1 h2)
 ·exact .of_right (intBits_le_64 h1 h2)
def qro:OpR X (Em .Add) (FA λ i j=>.int (i + j)):=Sv λ _ _ _ _ _ _ _ q=>add_int q
def qrc:OpR X (Em .Mult) (rI CMul λ i j=>.int (i * j)):=LN λ _ _ _ _ _ _ _ hc q=>mul_int q hc.ok
def jE:OpR X (Em .Mod) (rI (λ _ j=>0 < j) λ i j=>.int (i % j)):=LN λ i j _ _ _ _ _ hc q=>by
 have h1:(0:Int) < j:=hc;exact mod_int' (by omega) (by rw [Int.fmod_eq_emod_of_nonneg i (by omega)];exact q)
def jG:OpR X (Em .Pow) (rI M4 λ i j=>.int (i ^ j.toNat)):=LN λ _ _ _ _ _ _ _ hc q=>pow_int_small hc.1 hc.2.1 hc.2.2 q
def x6 {f:Ae->Sem Ae}{g:Int->Int}
  (rule:∀ (i:Int) (t:Tok) (s:Ai) (Q:Ae->Ai->Prop) (E:Ae->Ai->Prop),Q (.int (g i) s.toks) { s with toks:=s.toks + 1 }->Am (Ax X.prog X.w) X.A (f (.int i t)) Q E s):
  Uc X f (rU λ i=>.int (g i)):=by
 intro pins s σ H x v Q I rx h;obtain ⟨i,rfl,q⟩:=h;obtain ⟨t,rfl⟩:=rx;exact rule i t s _ _ ⟨.int (g i),H,I.tok _,⟨_,rfl⟩,q⟩
def WK:Uc X (unaryOp .USub) (rU λ i=>.int (-i)):=x6 λ _ _ _ _ _ q=>neg_int q
end
def QG:V->V->Bool
 | .non,.non=>true | .non,.int _=>true | .int _,.non=>true | .non,.bl _=>true | .bl _,.non=>true | .non,.str _=>true | .str _,.non=>true
 | .int _,.int _=>true | .bl _,.bl _=>true | .str _,.str _=>true | .byt _,.byt _=>true
 | .int _,.str _=>true | .str _,.int _=>true | .bl _,.str _=>true | .str _,.bl _=>true
 | _,_=>false
def xC:R2:=λ x y H Q=>QG x y=true/\Q (.bl (decide (x=y))) H
def X1 {i j:Int}:decide (V.int i=V.int j)=(i == j):=by
 rw [Eb];simp
def ji {i j:Bool}:decide (V.bl i=V.bl j)=(i == j):=by
 rw [Eb];simp
def vP {i j:Str}:decide (V.str i=V.str j)=(i == j):=by
 rw [Eb];simp
def vO {i j:Array UInt8}:decide (V.byt i=V.byt j)=(i.toList == j.toList):=by
 rw [Eb];cases i;cases j;simp
section
variable {X:Cx}{a b c:Expr}{ta tb tc:TE}{pos:Pos}
def DA {pins:List (Addr×Obj)}{σ:St}{H:Hp}{s:Ai}{Q:VK}{k k':Bool} (I:Inv X pins σ H s) (q:Q (.bl k) H) (e:k=k'):EP X pins σ Q (.bool k') s:=by
 subst e;exact ⟨.bl k,H,I,rfl,q⟩
theorem zx:OpR X (BP .Eq) xC:=by
 intro pins s σ H x y v u Q I rx ry h;obtain ⟨hs,q⟩:=h;cases x with
 | non=>
  cases rx;cases y with
  | non=>cases ry;exact PySem.EqNone.eq_none_none (DA I q (by simp))
  | bl j=>cases ry;exact PySem.EqNone.eq_none_bool (DA I q (by simp))
  | int j=>obtain ⟨t',rfl⟩:=ry;exact PySem.EqNone.eq_none_int (DA I q (by simp))
  | str j=>obtain ⟨t',rfl⟩:=ry;exact PySem.EqNone.eq_none_str (DA I q (by simp))
  | _=>exact absurd (show false=true from hs) BK
 | bl i=>
  cases rx;cases y with
  | non=>cases ry;exact PySem.EqNone.eq_bool_none (DA I q (by simp))
  | bl j=>cases ry;exact eq_bool (DA I q ji)
  | str j=>obtain ⟨t',rfl⟩:=ry;exact PySem.EqMixed.eq_bool_str (DA I q (by simp))
  | _=>exact absurd (show false=true from hs) BK
 | int i=>
  obtain ⟨t,rfl⟩:=rx;cases y with
  | non=>cases ry;exact PySem.EqNone.eq_int_none (DA I q (by simp))
  | int j=>obtain ⟨t',rfl⟩:=ry;exact eq_int (DA I q X1)
  | str j=>obtain ⟨t',rfl⟩:=ry;exact PySem.EqMixed.eq_int_str (DA I q (by simp))
  | _=>exact absurd (show false=true from hs) BK
 | str i=>
  obtain ⟨t,rfl⟩:=rx;cases y with
  | non=>cases ry;exact PySem.EqNone.eq_str_none (DA I q (by simp))
  | bl j=>cases ry;exact PySem.EqMixed.eq_str_bool (DA I q (by simp))
  | int j=>obtain ⟨t',rfl⟩:=ry;exact PySem.EqMixed.eq_str_int (DA I q (by simp))
  | str j=>obtain ⟨t',rfl⟩:=ry;exact eq_str (DA I q vP)
  | _=>exact absurd (show false=true from hs) BK
 | byt i=>
  obtain ⟨t,rfl⟩:=rx;cases y with
  | byt j=>obtain ⟨t',rfl⟩:=ry;exact PySem.W.eq_bytes (DA I q vO)
  | _=>exact absurd (show false=true from hs) BK
 | _=>cases y <;> exact absurd (show false=true from hs) BK
def VU:OpR X (BP .Lt) (FA λ i j=>.bl (decide (i < j))):=Hm λ _ _ _ _ _ _ _ q=>lt_int q
def VS:OpR X (BP .LtE) (FA λ i j=>.bl (decide (i<=j))):=Hm λ _ _ _ _ _ _ _ q=>le_int q
def VR:OpR X (BP .Gt) (FA λ i j=>.bl (decide (j < i))):=Hm λ _ _ _ _ _ _ _ q=>gt_int q
def VQ:OpR X (BP .GtE) (FA λ i j=>.bl (decide (j<=i))):=Hm λ _ _ _ _ _ _ _ q=>ge_int q
def jC:OpR X (BP .Is) (λ x y H Q=>y=.non/\Q (.bl (decide (x=.non))) H):=by
 intro pins s σ H x y v u Q I rx ry h;obtain ⟨rfl,q⟩:=h;cases ry;refine is_none_gen (DA I q ?_);cases x <;> first
  | (cases rx;rfl)
  | (obtain ⟨t,rfl⟩:=rx;rfl)
def ym:OpR X (BP .IsNot) (λ x y H Q=>y=.non/\Q (.bl (!decide (x=.non))) H):=by
 intro pins s σ H x y v u Q I rx ry h;obtain ⟨rfl,q⟩:=h;cases ry;refine isnot_none_gen (DA I q ?_);cases x <;> first
  | (cases rx;rfl)
  | (obtain ⟨t,rfl⟩:=rx;rfl)
def OpR.or {f:Ae->Ae->Sem Ae}{r r':R2} (h:OpR X f r) (h':OpR X f r'):OpR X f (λ x y H Q=>r x y H Q\/r' x y H Q):=by
 intro pins s σ H x y v u Q I rx ry q;rcases q with q | q
 ·exact h pins s σ H x y v u Q I rx ry q
 ·exact h' pins s σ H x y v u Q I rx ry q
def yq {op:CmpOp}{r:R2} (ho:OpR X (BP op) r) (ha:PE X a ta) (hb:PE X b tb) (hm:IC op b=false):PE X (.Compare a [op] [b] pos) (JV r ta tb):=by
 intro pins s σ H Q I h;exact wpAny_Compare1 (Jl ha hb I h λ v u s2 x y H2 I2 rx ry q=>ho pins s2 σ H2 x y v u Q I2 rx ry q) hm
def Wj (t:TE):TT:=λ σ H Q=>t σ H λ x H'=>∃ k,x=.bl k/\Q k H'
def wX {op:CmpOp}{r:R2} (ho:OpR X (BP op) r) (ha:PE X a ta) (hb:PE X b tb) (hm:IC op b=false):PT X (.Compare a [op] [b] pos) (Wj (JV r ta tb)):=by
 intro pins s σ H Q I h;refine wpAny_isTrue_Compare1 (A0 (ha pins s σ H _ I h) λ v s1 ⟨x,H1,I1,r1,q1⟩=>A0 (hb pins s1 σ H1 _ I1 q1) λ u s2 ⟨y,H2,I2,r2,q2⟩=>
  A0 (ho pins s2 σ H2 x y v u _ I2 r1 r2 q2) λ c s3 ⟨z,H3,I3,r3,k,e,q3⟩=>?_) hm
 subst e;cases r3;exact Ha ⟨H3,I3,q3⟩
def RJ (r r':R2) (ta tb tc:TE):TE:=λ σ H Q=>ta σ H λ x H1=>tb σ H1 λ y H2=>r x y H2 λ z H3=>∃ k,z=.bl k /\
 (if k=true then tc σ H3 λ w' H4=>r' y w' H4 Q else Q (.bl false) H3)
theorem uX {op op':CmpOp}{r r':R2} (ho:OpR X (BP op) r) (ho':OpR X (BP op') r') (ha:PE X a ta) (hb:PE X b tb) (hc:PE X c tc)
  (hm:lastMarks [op,op'] [b,c]=false:=by with_unfolding_all rfl):PE X (.Compare a [op,op'] [b,c] pos) (RJ r r' ta tb tc):=by
 intro pins s σ H Q I h;refine Compare_chain (A0 (ha pins s σ H _ I h) λ v s1 ⟨x,H1,I1,r1,q1⟩=>chain_link (A0 (hb pins s1 σ H1 _ I1 q1) λ u s2 ⟨y,H2,I2,r2,q2⟩=>
  A0 (ho pins s2 σ H2 x y v u _ I2 r1 r2 q2) λ d s3 ⟨z,H3,I3,r3,k,e,q3⟩=>?_)) hm
 subst e;cases r3;refine Ha ?_;cases k with
 | false=>exact ite_ff ⟨.bl false,H3,I3,rfl,q3⟩
 | true=>exact ite_tt (chain_last (A0 (hc pins s3 σ H3 _ I3 q3) λ w' s4 ⟨z',H4,I4,r4,q4⟩=>ho' pins s4 σ H4 y z' u w' Q I4 r2 r4 q4))
theorem uC {op op':CmpOp}{r r':R2} (ho:OpR X (BP op) r) (ho':OpR X (BP op') r') (ha:PE X a ta) (hb:PE X b tb) (hc:PE X c tc)
  (hm:lastMarks [op,op'] [b,c]=false:=by with_unfolding_all rfl):PT X (.Compare a [op,op'] [b,c] pos) (Wj (RJ r r' ta tb tc)):=by
 intro pins s σ H Q I h;refine isTrue_chain (A0 (ha pins s σ H _ I h) λ v s1 ⟨x,H1,I1,r1,q1⟩=>test_link (A0 (hb pins s1 σ H1 _ I1 q1) λ u s2 ⟨y,H2,I2,r2,q2⟩=>
  A0 (ho pins s2 σ H2 x y v u _ I2 r1 r2 q2) λ d s3 ⟨z,H3,I3,r3,k,e,q3⟩=>?_)) hm
 subst e;cases r3;refine Ha ?_;cases k with
 | false=>
  obtain ⟨k',e',q'⟩:=q3;cases e';exact ite_ff ⟨H3,I3,q'⟩
 | true=>
  refine ite_tt (test_last (A0 (hc pins s3 σ H3 _ I3 q3) λ w' s4 ⟨z',H4,I4,r4,q4⟩=>A0 (ho' pins s4 σ H4 y z' u w' _ I4 r2 r4 q4) λ d' s5 ⟨z2,H5,I5,r5,k2,e2,q5⟩=>?_));subst e2;cases r5;exact Ha ⟨H5,I5,q5⟩
def Ir:(Aw:Nat) < 2 ^ 63:=by rw [sizeLine_eq];decide
def bW:OpR X (Em .Add) (λ x y H Q=>∃ i j,x=.str i/\y=.str j/\i.length + j.length<=Aw/\Q (.str (i++j)) H):=by
 intro pins s σ H x y v u Q I rx ry h;obtain ⟨i,j,rfl,rfl,hz,q⟩:=h;obtain ⟨t,rfl⟩:=rx;obtain ⟨t',rfl⟩:=ry;exact add_str (λ t' tk=>⟨.str (i++j),H,I.tok _,⟨_,rfl⟩,q⟩) hz
def dD:OpR X (inplaceOp .Add) (λ x y H Q=>∃ i j,x=.str i/\y=.str j/\i.length + j.length<=Aw/\Q (.str (i++j)) H):=by
 intro pins s σ H x y v u Q I rx ry h;obtain ⟨i,j,rfl,rfl,hz,q⟩:=h;obtain ⟨t,rfl⟩:=rx;obtain ⟨t',rfl⟩:=ry;exact iadd_str (λ t' tk=>⟨.str (i++j),H,I.tok _,⟨_,rfl⟩,q⟩) hz
theorem Ei {x:V}{us:List Ae} (r:Vals [x] us):∃ u,us=[u]/\RelV x u:=by
 cases r with
 | cons r1 r2=>cases r2;exact ⟨_,rfl,r1⟩
theorem Rl {x y:V}{us:List Ae} (r:Vals [x,y] us):∃ u w',us=[u,w']/\RelV x u/\RelV y w':=by
 cases r with
 | cons r1 r2=>
  cases r2 with
  | cons r3 r4=>cases r4;exact ⟨_,_,rfl,r1,r3⟩
def gk (hc:X.calm=true):zwr X (.builtin "max") (λ xs H Q=>∃ i j,xs=[.int i,.int j]/\Q (.int (if j > i then j else i)) H):=by
 intro pins s σ H xs us Q I r h;obtain ⟨i,j,rfl,q⟩:=h;obtain ⟨u,w',rfl,⟨t,rfl⟩,⟨t',rfl⟩⟩:=Rl r;refine max_two_ints (I.ok.hd hc) λ h' tk k=>⟨_,H,I.kept k,?_,q⟩
 by_cases hj:j > i
 ·rw [if_pos hj,if_pos hj];exact ⟨_,rfl⟩
 ·rw [if_neg hj,if_neg hj];exact ⟨_,rfl⟩
def gy (hc:X.calm=true):zwr X (.builtin "min") (λ xs H Q=>∃ i j,xs=[.int i,.int j]/\Q (.int (if j < i then j else i)) H):=by
 intro pins s σ H xs us Q I r h;obtain ⟨i,j,rfl,q⟩:=h;obtain ⟨u,w',rfl,⟨t,rfl⟩,⟨t',rfl⟩⟩:=Rl r;refine min_two_ints (I.ok.hd hc) λ h' tk k=>⟨_,H,I.kept k,?_,q⟩
 by_cases hj:j < i
 ·rw [if_pos hj,if_pos hj];exact ⟨_,rfl⟩
 ·rw [if_neg hj,if_neg hj];exact ⟨_,rfl⟩
def gi:zwr X (.type "int") (λ xs H Q=>(∃ i,xs=[.int i]/\Q (.int i) H)\/∃ k,xs=[.bl k]/\Q (.int (if k then 1 else 0)) H):=by
 intro pins s σ H xs us Q I r h;rcases h with ⟨i,rfl,q⟩ | ⟨k,rfl,q⟩
 ·obtain ⟨u,rfl,t,rfl⟩:=Ei r;exact call_int_int ⟨.int i,H,I,⟨_,rfl⟩,q⟩
 ·obtain ⟨u,rfl,r1⟩:=Ei r;cases r1;exact call_int_bool ⟨.int (if k then 1 else 0),H,I.tok _,⟨_,rfl⟩,q⟩
end
structure ObjM (h:Heap) (x dx C:Addr) (mA:Str->Option Ae):Prop where
 obj:h.get? x=some (Qf C dx)
 ns:h.Ns1 dx mA
 ne:dx≠x
def br {h:Heap}{dx:Addr}{mA:Str->Option Ae} (n:h.Ns1 dx mA):∃ od,h.get? dx=some od/\∀ name,Qc name od=some (mA name):=by
 obtain ⟨o,es,ep,ho,hd,hk,_,hm⟩:=n;refine ⟨o,ho,λ name=>?_⟩;have e:=hm name;unfold nsFind findBy at e;rw [<- Array.find?_toList] at e;unfold Qc;rw [hd];dsimp only;split
 ·rename_i y q;rw [q] at e;exact congrArg some e
 ·rename_i q;rw [q] at e;have a:es.toList.any (·.refKey)=false:=by
   rw [List.any_eq_false];intro y hy;obtain ⟨z,t,hkey⟩:=hk y (Array.mem_toList_iff.mp hy);simp [DictEntry.refKey,hkey]
  have a':¬ es.toList.any (·.refKey)=true:=by rw [a];exact BK
  rw [if_neg a'];exact congrArg some e
def ObjM.look {h:Heap}{x dx C:Addr}{mA:Str->Option Ae} (I:ObjM h x dx C mA):∃ od,PySem.W.InstAt h x (Qf C dx) C (some od)/\∀ name,Qc name od=some (mA name):=
 let ⟨od,ho,hl⟩:=br I.ns
 ⟨od,⟨I.obj,rfl,rfl,ho⟩,hl⟩
section
variable {prog:AD}{w:AA}{A:Bf}{E:Ae->Ai->Prop}{s:Ai}{K:PySem.W.Frag}{x dx C f:Addr}{mA:Str->Option Ae}{name:Str}{v:Ae}
end
theorem RelO.some_of {v:V}{o:Option Ae} (r:RelO (some v) o):∃ u,o=some u/\RelV v u:=by
 cases o with
 | none=>exact (show False from r).elim
 | some u=>exact ⟨u,rfl,r⟩
section
variable {P:AD}{w:AA}{H H':Hp}{h h':Heap}{a C dx:Addr}{fs fs':List (Str×V)}
def vZ (hok:HOk P w H h) (e:H a=some (.ins C dx fs)):∃ mA,ObjM h a dx C mA/\(∀ f,RelO (fs.lookup f) (mA f))/\PySem.Within mA (fs.map (·.1))/\fs.length<=1000/\H dx=some (.own a):=by
 obtain ⟨d,z,ne,ob,mA,n,r,q⟩:=(show zxg P w H h a (.ins C dx fs) from hok a _ e)
 exact ⟨mA,⟨ob,n,ne⟩,r,q,z,d⟩
end
structure Cls (K:PySem.W.Frag) (C:Addr):Prop where
 pg:PySem.W.plainGet K C Str.empty=true
 hd:PySem.W.hasDictIn K C=true
 po:PySem.W.plainOver K C=true
 sa:HM K (.ref C) "__setattr__" = some (some (.builtin "object.__setattr__"))
def Cls.get {K:PySem.W.Frag}{C:Addr} (c:Cls K C) (f:Str):PySem.W.plainGet K C f=true:=c.pg
structure Con (K:PySem.W.Frag) (C:Addr) (f:Str) (v:V) (u:Ae):Prop where
 at_:HM K (.ref C) f=some (some u)
 rel:RelV v u
 get:PySem.W.specialIn K u "__get__" = some none
 cp:PySem.W.copiedNames.contains f=false
structure Meth (K:PySem.W.Frag) (C:Addr) (m:Str) (f:Addr):Prop where
 at_:HM K (.ref C) m=some (some (.ref f))
 fn:PySem.W.isFn K (.ref f)=true
 kp:JM K (.ref f)=true
section
variable {X:Cx}{pins:List (Addr×Obj)}{σ:St}{H:Hp}{s:Ai}{a C dx:Addr}{fs:List (Str×V)}{f:Str}{v:V}{A:Bf}{E:Ae->Ai->Prop}
end
section
variable {X:Cx}{o e value:Expr}{f:Str}{pos pos' tpos:Pos}{ta tv:TE}
end
section
variable {X:Cx}{pins:List (Addr×Obj)}{σ:St}{H:Hp}{s:Ai}{A:Bf}{E:Ae->Ai->Prop}{Q:Ae->Ai->Prop}{c:Ae}{b:Bool}
inductive TyOf (K:PySem.W.Frag) (H:Hp):V->Ae->Prop where
 | non:TyOf K H .non (.type "NoneType")
 | bl (x:Bool):TyOf K H (.bl x) (.type "bool")
 | int (i:Int):TyOf K H (.int i) (.type "int")
 | str (x:Str):TyOf K H (.str x) (.type "str")
 | flt (x:UInt64):TyOf K H (.flt x) (.type "float")
 | lst {a:Addr}{xs:List V} (e:H a=some (.lst xs)):TyOf K H (.ref a) (.type "list")
 | frz {a:Addr}{o:Obj}{xs:List V} (e:H a=some (.frz o (.lst xs))):TyOf K H (.ref a) (.type "list")
 | tup {a:Addr}{xs:List V} (e:H a=some (.tup xs)):TyOf K H (.ref a) (.type "tuple")
 | dK {a:Addr}{kvs:List (A2×V)} (e:H a=some (.dK kvs)):TyOf K H (.ref a) (.type "dict")
 | dT {a:Addr}{kvs:List (List A2×V)} (e:H a=some (.dT kvs)):TyOf K H (.ref a) (.type "dict")
 | ins {a C dx:Addr}{fs:List (Str×V)} (e:H a=some (.ins C dx fs)) (cl:Cls K C) (ha:HM K (.ref C) "__class__" = some (some (.builtin "object.__class__")))
   (hn:PySem.W.specialIn K (.builtin "object.__class__") "__get__" = some (some (.builtin "getset_descriptor.__get__"))) (htk:PySem.W.takesIn K (.builtin "object.__class__")=some true)
   (hm:PySem.W.mroIn K C (.type "object")=some true):TyOf K H (.ref a) (.ref C)
theorem gS {x:V}{u t:Ae} (I:Inv X pins σ H s) (rx:RelV x u) (ty:TyOf X.K H x t) (e:HN X.K t c=some b) (h:∀ tk,Q (.bool b) { s with toks:=tk }):
  Am (Ax X.prog X.w) A (call (.builtin "isinstance") [u,c]) Q E s:=by
 cases ty with
 | non=>cases (show u=Value.none from rx);exact FT PySem.W.kitx_none I.kIn True.intro e (λ z=>nomatch z) h
 | bl y=>cases (show u=Value.bool y from rx);exact FT PySem.W.kitx_bool I.kIn True.intro e (λ z=>nomatch z) h
 | int i=>obtain ⟨t,q⟩:=(show ∃ t,u=Value.int i t from rx);cases q;exact FT PySem.W.kitx_int I.kIn True.intro e (λ z=>nomatch z) h
 | str y=>obtain ⟨t,q⟩:=(show ∃ t,u=Value.str y t from rx);cases q;exact FT PySem.W.kitx_str I.kIn True.intro e (λ z=>nomatch z) h
 | flt y=>obtain ⟨t,q⟩:=(show ∃ t,u=Value.float y t from rx);cases q;exact FT PySem.W.kitx_float I.kIn True.intro e (λ z=>nomatch z) h
 | @lst a xs ea=>
  cases (show u=Value.ref a from rx);obtain ⟨_,_,n,_,h1⟩:=(show zxg X.prog X.w H s.heap a (.lst xs) from I.hok a _ ea)
  exact FT PySem.W.kitx_list I.kIn ⟨_,h1,rfl⟩ e (λ z=>nomatch z) h
 | @frz a ob xs ea=>
  cases (show u=Value.ref a from rx);obtain ⟨_,_,_,n,_,h1⟩:=(show zxg X.prog X.w H s.heap a (.frz ob (.lst xs)) from I.hok a _ ea)
  exact FT PySem.W.kitx_list I.kIn ⟨_,h1,rfl⟩ e (λ z=>nomatch z) h
 | @tup a xs ea=>
  cases (show u=Value.ref a from rx);obtain ⟨_,_,_,p⟩:=(show zxg X.prog X.w H s.heap a (.tup xs) from I.hok a _ ea)
  obtain ⟨o,h1,h2,_⟩:=p;exact FT PySem.W.kitx_tuple I.kIn ⟨o,h1,h2⟩ e (λ z=>nomatch z) h
 | @dK a kvs ea=>
  cases (show u=Value.ref a from rx);obtain ⟨_,_,vs,_,p⟩:=(show zxg X.prog X.w H s.heap a (.dK kvs) from I.hok a _ ea)
  obtain ⟨o,es,ep,h1,h2,_⟩:=p;exact FT PySem.W.kitx_dict I.kIn ⟨o,h1,h2.1⟩ e (λ z=>nomatch z) h
 | @dT a kvs ea=>
  cases (show u=Value.ref a from rx);obtain ⟨_,_,xs,_,o,es,ep,h1,h2,_⟩:=(show zxg X.prog X.w H s.heap a (.dT kvs) from I.hok a _ ea)
  exact FT PySem.W.kitx_dict I.kIn ⟨o,h1,h2.1⟩ e (λ z=>nomatch z) h
 | @ins a C dx fs ea cl ha hn htk hm=>
  cases (show u=Value.ref a from rx);obtain ⟨mA,O,_⟩:=vZ I.hok ea;obtain ⟨od,J,_⟩:=O.look;exact FT (PySem.W.kitx_own (cl.get _) cl.hd ha hn htk hm) I.kIn J e (λ z=>nomatch z) h
end
structure Room (k:Nat) (A:Bf):Prop where
 hd:A.handled=none
 dp:A.depth + 3 * k + 5 < recursionLimit
 un:A.units + 16 * k + 200 < Cp
 gd:A.guards=some []
def Room.mono {j k:Nat}{A:Bf} (r:Room k A) (h:j<=k):Room j A:=⟨r.hd,by have:=r.dp;omega,by have:=r.un;omega,r.gd⟩
def Room.deeper {k:Nat}{A:Bf} (r:Room (k + 1) A) (env:Env):Room k (A.deeper env):=
 ⟨r.hd,by have:=r.dp;show A.depth + 1 + 3 * k + 5 < _;omega,by have:=r.un;show A.units + 3 + 16 * k + 200 < _;omega,r.gd⟩
def Room.depth {k:Nat}{A:Bf} (r:Room k A):A.depth < recursionLimit:=by have:=r.dp;omega
def Room.units {k:Nat}{A:Bf} (r:Room k A):A.units + 64 < Cp:=by have:=r.un;omega
def Hd:TA:=λ _ H Q=>Q [] H
def Ob (ta:TE) (tr:TA):TA:=λ σ H Q=>ta σ H λ x H1=>tr σ H1 λ xs H2=>Q (x::xs) H2
section
variable {X:Cx}{e:Expr}{es:List Expr}{te:TE}{t:TA}{pos:Pos}
def KN:PA X [] Hd:=λ _ _ _ _ H Q I h=>Qj ⟨[],H,I,.nil,h⟩
def J1 (ha:PE X e te) (hr:PA X es t) (hs:Bi (e::es) X.env=(false,eval e X.env)::Bi es X.env:=by rfl):PA X (e::es) (Ob te t):=by
 intro pos pins s σ H Q I h;rw [hs];show Am _ _ (spliced ((false,eval e X.env)::Fy pos (Bi es X.env))) _ _ s;refine Qo (A0 (ha pins s σ H _ I h) λ u s1 ⟨x,H1,I1,r1,q1⟩=>?_);exact A0 (hr pos pins s1 σ H1 _ I1 q1) λ us s2 ⟨xs,H2,I2,r2,q2⟩=>⟨x::xs,H2,I2,.cons r1 r2,q2⟩
def Q7 (t:TA):TE:=λ σ H Q=>t σ H λ xs H1=>xs.length<=Aw/\∀ p,H1 p=none->Q (.ref p) (As H1 p (.tup xs))
def Q8 (t:TA):TE:=λ σ H Q=>t σ H λ xs H1=>xs.length<=Aw/\∀ p,H1 p=none->Q (.ref p) (As H1 p (.lst xs))
def kG {x1} (h:PA X es t):PE X (.Tuple es x1 pos) (Q7 t):=by
 intro pins s σ H Q I hq;refine wpAny_Tuple_spliced (A0 (h pos pins s σ H _ I hq) λ us s1 ⟨xs,H1,I1,r,z,q⟩=>⟨by rw [<- r.length];exact z,?_⟩);have hf:H1 s1.heap.objs.size=none:=I1.hok.fresh (A4 _);refine ⟨.ref s1.heap.objs.size,As H1 s1.heap.objs.size (.tup xs),I1.laid (t':=s1.toks) (λ b u e=>AS _ e) (A4 _) ?_,rfl,q _ hf⟩;exact ⟨z,us,r,⟨_,Bw _ rfl,rfl,_,rfl⟩⟩
def kD (h:PA X es t):PE X (.List es pos) (Q8 t):=by
 intro pins s σ H Q I hq;refine wpAny_List_spliced (A0 (h pos pins s σ H _ I hq) λ us s1 ⟨xs,H1,I1,r,z,q⟩=>⟨by rw [<- r.length];exact z,?_⟩);have hf:H1 s1.heap.objs.size=none:=I1.hok.fresh (A4 _);refine ⟨.ref s1.heap.objs.size,As H1 s1.heap.objs.size (.lst xs),I1.laid (t':=s1.toks) (λ b u e=>AS _ e) (A4 _) ?_,rfl,q _ hf⟩;exact ⟨z,us,0,r,Bw _ rfl⟩
end
abbrev Sp:=List V->Hp->VK->XK->Prop
abbrev FI:=List Env->Hp->Ai->XK->Ae->Ai->Prop
structure Env0 (P:AD) (w:AA) (K:PySem.W.Frag) (mg:Str->Option Ae) (base:Heap) (A:Bf) (outer:List Env) (s:Ai) (H:Hp):Prop where
 frames:A.frames=some outer
 mod:Mod K mg base
 bs:∀ b o,base.get? b=some o->s.heap.get? b=some o/\H b=none
 bsz:base.objs.size<=s.heap.objs.size
 funs:s.heap.FunFrames base outer
 frf:∀ b∈CA outer,H b=none
 hok:HOk P w H s.heap
 bare:FQ s.gens
def CE (outer:List Env) (P:AD) (w:AA) (H:Hp) (s:Ai) (Q:VK) (u:Ae) (s':Ai):Prop:=
 ∃ v H',s'.os=s.os/\FQ s'.gens/\Un (CA outer) [] H H' s.heap s'.heap/\HOk P w H' s'.heap/\RelV v u/\Q v H'
def CR (CX:FI) (outer:List Env) (P:AD) (w:AA) (H:Hp) (s:Ai) (Q:VK) (E:XK) (r:Result) (s':Ai):Prop:=
 match r with
 | .ok (.ret u)=>CE outer P w H s Q u s'
 | .ok _=>False
 | .error e=>CX outer H s E e s'
structure FnOk (P:AD) (w:AA) (K:PySem.W.Frag) (mg:Str->Option Ae) (base:Heap) (CX:FI) (k:Nat) (f:Addr) (fd:DG) (ps:List Str) (sp:Sp):Prop where
 len:∀ vs H Q E,sp vs H Q E->vs.length=ps.length
 run:∀ (A:Bf) (outer:List Env) (s:Ai) (H:Hp) (args:Args) (us:List Ae) (vs:List V) (Q:VK) (E:XK),Room k A->Env0 P w K mg base A outer s H->BindsTo s fd args (ps.zip us)->Vals vs us->sp vs H Q E ->
  HH (Ax P w) A (.call (.ref f) args) (CR CX outer P w H s Q E) s
def FnOk.mono {P:AD}{w:AA}{K:PySem.W.Frag}{mg:Str->Option Ae}{base:Heap}{CX:FI}{j k:Nat}{f:Addr}{fd:DG}{ps:List Str}{sp:Sp} (F:FnOk P w K mg base CX j f fd ps sp) (h:j<=k):
  FnOk P w K mg base CX k f fd ps sp:=⟨F.len,λ A outer s H args us vs Q E hr=>F.run A outer s H args us vs Q E (hr.mono h)⟩
section
variable {X:Cx}{pins:List (Addr×Obj)}{σ:St}{H:Hp}{s s':Ai}
def Inv.env0 (I:Inv X pins σ H s):Env0 X.prog X.w X.K X.mg X.base X.A X.stack s H:=
 ⟨I.ok.frames,I.ok.mod,I.bs,BF I.ok.bsz I.sz,I.stack,I.stkFree,I.hok,I.bare⟩
def Inv.after {Q:VK}{u:Ae} (I:Inv X pins σ H s) (h:CE X.stack X.prog X.w H s Q u s'):EP X pins σ Q u s':=by
 obtain ⟨v,H',os,bare,un,hok,r,q⟩:=h;obtain ⟨hh,g,d,t,os'⟩:=s';obtain rfl:os'=s.os:=os;exact ⟨v,H',I.call (h':=hh) (g':=g) (d':=d) (t':=t) (ch:=[]) un hok bare (λ b z=>absurd z (by simp)),r,q⟩
end
def qkb (K:PySem.W.Frag) (fd:DG) (ps:List Str) (ds:List Ae):Prop:=
 ∀ (s:Ai) (us:List Ae),K.In s.heap->(us++ds).length=ps.length->BindsTo s fd ⟨us,[]⟩ (ps.zip (us++ds))
def qkb.all {K:PySem.W.Frag}{fd:DG}{ps:List Str} (h:∀ us:List Ae,us.length=ps.length->bindArgs fd ⟨us,[]⟩=pure (ps.zip us)):qkb K fd ps []:=λ s us _ hl=>by
 rw [FE] at hl ⊢;exact .of_eq (h us hl)
section
variable {X:Cx}{CX:FI}{k:Nat}{f C:Addr}{fd:DG}{ps:List Str}{sp:Sp}{dvs:List V}{ds:List Ae}{E:XK}{x m:Str}{p pos apos:Pos}{e o:Expr}{es:List Expr}{ta:TE}{t:TA}
structure Mk (K:PySem.W.Frag) (C f:Addr):Prop where
 makes:PySem.W.makesIn K C=true
 init:HM K (.ref C) "__init__" = some (some (.ref f))
 fn:PySem.W.isFn K (.ref f)=true
 kp:JM K (.ref C)=true
end
section
variable {X:Cx}{CX:FI}{k:Nat}{f C:Addr}{fd:DG}{ps ks:List Str}{sp:Sp}{E:XK}{x m:Str}{p pos apos kpos:Pos}{e o:Expr}{es:List Expr}{kws:List Keyword}{te ta:TE}{t tk:TA}{nm:Option Str}
structure KBinds (K:PySem.W.Frag) (fd:DG) (ps ks:List Str) (g:List Ae->List Ae->List Ae) (gV:List V->List V->List V):Prop where
 to:∀ (s:Ai) (us ws:List Ae),K.In s.heap->(g us ws).length=ps.length->BindsTo s fd ⟨us,ks.zip ws⟩ (ps.zip (g us ws))
 rel:∀ {vs:List V}{us:List Ae}{zs:List V}{ws:List Ae},Vals vs us->Vals zs ws->Vals (gV vs zs) (g us ws)
variable {g:List Ae->List Ae->List Ae}{gV:List V->List V->List V}
end
structure FnScope (N P:List Str) (sc:Bu):Prop where
 kind:sc.kind=.function
 co:sc.isCoroutine=false
 gen:sc.isGenerator=false
 nd:N.Nodup
 pre:N.take P.length=P
 par:∀ x∈P,sc.names.lookup x=some .local\/sc.names.lookup x=some .cell
 nofree:∀ y∈sc.names,y.2≠.free
theorem UM {kindOf:Str->Option Dd}{x:Str}:∀ {binds:List (Str×Ae)}{m:Str->Option Ae},(∀ v,(x,v)∉binds)->bindL kindOf binds m x=m x
 | [],_,_=>rfl
 | (n,v)::r,m,h=>by
  unfold bindL;rw [UM λ w hw=>h w (AO _ hw)];split
  ·have:x≠n:=by rintro rfl;exact h v AM
   simp [this]
  ·rfl
theorem UK {kindOf:Str->Option Dd}{x:Str}:∀ {binds:List (Str×Ae)}{m:Str->Option Ae},(∀ v,(x,v)∉binds)->bindC kindOf binds m x=m x
 | [],_,_=>rfl
 | (n,v)::r,m,h=>by
  unfold bindC;rw [UK λ w hw=>h w (AO _ hw)];split
  ·rfl
  ·have:x≠n:=by rintro rfl;exact h v AM
   simp [this]
theorem UL {kindOf:Str->Option Dd}{x:Str}{v:Ae}:∀ {P:List Str}{vs:List Ae}{i:Nat}{m:Str->Option Ae},P.Nodup->P[i]?=some x->vs[i]?=some v->kindOf x=some .local ->
  bindL kindOf (P.zip vs) m x=some v
 | [],_,_,_,_,h,_,_=>by simp at h
 | _::_,[],_,_,_,_,h,_=>by simp at h
 | p::P,w::vs,0,m,nd,h1,h2,hk=>by
  simp at h1 h2;subst h1;subst h2;show bindL kindOf ((p,w)::P.zip vs) m p=_;unfold bindL;rw [UM λ v hv=>(jg9.mp nd).1 (Kg hv).1,if_pos hk];simp
 | p::P,w::vs,i + 1,m,nd,h1,h2,hk=>by
  show bindL kindOf ((p,w)::P.zip vs) m x=_;unfold bindL;exact UL (i:=i) (jg9.mp nd).2 (by simpa using h1) (by simpa using h2) hk
theorem UJ {kindOf:Str->Option Dd}{x:Str}{v:Ae}:∀ {P:List Str}{vs:List Ae}{i:Nat}{m:Str->Option Ae},P.Nodup->P[i]?=some x->vs[i]?=some v->kindOf x≠some .local ->
  bindC kindOf (P.zip vs) m x=some v
 | [],_,_,_,_,h,_,_=>by simp at h
 | _::_,[],_,_,_,_,h,_=>by simp at h
 | p::P,w::vs,0,m,nd,h1,h2,hk=>by
  simp at h1 h2;subst h1;subst h2;show bindC kindOf ((p,w)::P.zip vs) m p=_;unfold bindC;rw [UK λ v hv=>(jg9.mp nd).1 (Kg hv).1,if_neg hk];simp
 | p::P,w::vs,i + 1,m,nd,h1,h2,hk=>by
  show bindC kindOf ((p,w)::P.zip vs) m x=_;unfold bindC;exact UJ (i:=i) (jg9.mp nd).2 (by simpa using h1) (by simpa using h2) hk
def start (N:List Str) (vs:List V):St:=vs.map some++A9 (N.length - vs.length) none
def B9 (CX:FI) (P:AD) (w:AA) (K:PySem.W.Frag) (mg:Str->Option Ae) (base:Heap) (N:List Str) (qual:Str) (scope:Bu) (f:Addr) (cd:Ae) (A:Bf) (outer:List Env) (s:Ai) (H:Hp) (E:XK):Cx where
 prog:=P
 w:=w
 K:=K
 mg:=mg
 base:=base
 A:=A.deeper (GV qual scope s.heap.objs.size f cd)
 N:=N
 s₀:=s
 H₀:=H
 env:=GV qual scope s.heap.objs.size f cd
 outer:=outer
 stack:=GV qual scope s.heap.objs.size f cd::outer
 ex:=[]
 calm:=true
 fn:=λ _=>true
 pn:=[]
 xe:=λ e s'=>Am (Ax P w) (A.deeper (GV qual scope s.heap.objs.size f cd)) (leaving (GV qual scope s.heap.objs.size f cd) e) (λ _ s''=>CX outer H s E e s'') (λ e' s''=>CX outer H s E e' s'') s'
def Yp {sc:Bu}{n:Nat}{x:Str} (h:sc.names.lookup x=some .cell):∃ c,(CT n sc.names []).lookup x=some c:=by
 have q:=PySem.W.cellsFrom_some sc.names n [] (.inl h);exact jn4.mp q
def gQ {CX:FI}{P:AD}{w:AA}{K:PySem.W.Frag}{mg:Str->Option Ae}{base:Heap}{N ps:List Str}{qual:Str}{scope:Bu}{f:Addr}{cd:Ae}{A:Bf}{outer:List Env}{s s1:Ai}{H:Hp}{E:XK}{us:List Ae}{vs:List V}
  (S:FnScope N ps scope) (hd:A.handled=none) (e0:Env0 P w K mg base A outer s H) (hl:vs.length=ps.length) (r:Vals vs us)
  (x:InCallC s s.heap.objs.size (bindL (GV qual scope s.heap.objs.size f cd).kindOf (ps.zip us) λ _=>none) (CT (s.heap.objs.size + 1) scope.names []) (bindC (GV qual scope s.heap.objs.size f cd).kindOf (ps.zip us) λ _=>none) s1):
  Inv (B9 CX P w K mg base N qual scope f cd A outer s H E) [] (start N vs) H s1:=by
 have hpl:ps.length<=N.length:=by have:=congrArg S5 S.pre;rw [IX] at this;omega
 obtain ⟨h1,tk,rfl,hk⟩:=x.done;have noA:∀ b:Addr,b∉(B9 CX P w K mg base N qual scope f cd A outer s H E).ex:=λ b z=>absurd (show b∈([]:List Addr) from z) (by simp);refine ⟨⟨e0.mod,S.kind,rfl,rfl,A4 _,λ y z c h1 h2=>?_,λ y hy=>?_,λ y c _ h=>?_,λ _=>hd,Around.frames_deeper e0.frames,.inr ⟨rfl,rfl⟩,λ b z=>absurd z (noA b),e0.bs,e0.bsz,λ b _ _=>noA b,λ b z=>absurd z (noA b),e0.funs,e0.frf⟩,
  rfl,e0.bare,Un.kept hk,⟨_,x.toInCall.ns,λ i y v h1 h2 h3=>?_⟩,λ y c h=>⟨_,x.cell y c h⟩,e0.hok.fresh (A4 _),λ y c h=>?_,λ p hp=>absurd (show p∈([]:List (Addr×Obj)) from hp) (by simp),e0.hok.kept hk,?_⟩
 ·exact name_of_addr x.apart (Lg h1) (Lg h2)
 ·have hy:scope.names.lookup y=some .cell\/scope.names.lookup y=some .free:=hy;rcases hy with hy | hy
  ·exact Yp hy
  ·exact absurd rfl (S.nofree _ (Lg hy))
 ·exact LW (x.above y c (Lg h))
 ·have hi:i < vs.length:=by
   unfold start at h2;by_cases hi:i < vs.length
   ·exact hi
   ·rw [FG (by simpa using hi)] at h2;rw [Gi] at h2;split at h2 <;> cases h2
  have ha:vs[i]?=some v:=by
   unfold start at h2;rw [C9 (by simpa using hi),CL] at h2;cases e:vs[i]? with
   | none=>rw [e] at h2;cases h2
   | some a=>rw [e] at h2;cases h2;rfl
  obtain ⟨u,hu,rv⟩:=r.get ha;have hp:ps[i]?=some y:=by
   rw [<- S.pre,qd (by omega)];exact h1
  have ndP:ps.Nodup:=by rw [<- S.pre];exact S.nd.sublist (ZJ _ _)
  refine ⟨u,rv,?_⟩;rcases S.par y (OD hp) with k | k
  ·exact .inl ⟨k,UL ndP hp hu k⟩
  ·obtain ⟨c,e⟩:=Yp (n:=s.heap.objs.size + 1) k;refine .inr ⟨.inl k,c,e,?_⟩;have q:=x.cell y c e;rw [UJ ndP hp hu (by show scope.names.lookup y≠_;rw [k];decide)] at q;exact q
 ·exact e0.hok.fresh (LW (x.above y c (Lg h)))
 ·unfold start;show _=N.length;rw [Br,AJ,EM];omega
theorem zV {CX:FI}{P:AD}{w:AA}{K:PySem.W.Frag}{mg:Str->Option Ae}{base:Heap}{k:Nat}{f:Addr}{name qual:Str}{params:Arguments}{body:List Stmt}{scope:Bu}{dV kV doc pm cdv ct oc:Ae}{an od:Option Addr}
  {osl:Array (Option Ae)}{N ps:List Str}{sp:Sp} (lk:K.lookup f=some ⟨oc,od,.func (IB name qual params body scope dV kV doc pm an cdv ct),osl⟩) (hcd:Qb K cdv qual=true) (S:FnScope N ps scope)
  (len:∀ vs H Q E,sp vs H Q E->vs.length=ps.length)
  (hbody:∀ (A:Bf) (outer:List Env) (s:Ai) (H:Hp) (vs:List V) (Q:VK) (E:XK),Room k (A.deeper (GV qual scope s.heap.objs.size f cdv))->sp vs H Q E ->
   ∃ t,E4 (B9 CX P w K mg base N qual scope f cdv A outer s H E) body t/\t { nx:=λ _ H'=>Q .non H',rt:=Q } (start N vs) H):
  FnOk P w K mg base CX (k + 1) f (IB name qual params body scope dV kV doc pm an cdv ct) ps sp:=by
 refine ⟨len,λ A outer s H args us vs Q E hr e0 hb r hsp=>?_⟩;have hl:=len _ _ _ _ hsp;have KX:K.In s.heap:=e0.mod.kin.keeps λ b o e=>(e0.bs b o e).1;have lim:s.heap.NoLimit:=e0.mod.nolimit.keeps λ b o e=>(e0.bs b o e).1;have hkind:∀ y∈ps.zip us,scope.names.lookup y.1=some .local\/(scope.names.lookup y.1=some .cell/\((CT (s.heap.objs.size + 1) scope.names []).lookup y.1).isSome=true):=λ ⟨n,v⟩ hy=>by
  rcases S.par n (Kg hy).1 with q | q
  ·exact .inl q
  ·exact .inr ⟨q,PySem.W.cellsFrom_some _ _ _ (.inl q)⟩
 refine codeAny_call_function hr.depth (KX _ _ lk) rfl S.co S.gen rfl (PySem.W.codeRec_of KX hcd) (hb _ _ _ _ ?_);refine wpAny_newFunctionEnv_cells S.kind hkind λ env he s1 x=>?_;subst he;refine ⟨lim.keeps x.toInCall.keep,codeAny_func ?_⟩;obtain ⟨t,ht,hq⟩:=hbody A outer s H vs Q E (hr.deeper _) hsp;have I:Inv (B9 CX P w K mg base N qual scope f cdv A outer s H E) [] (start N vs) H s1:=gQ S hr.hd e0 hl r x;refine Gz (ht [] s1 (start N vs) H _ I hq) (λ fl s' hs=>?_) λ e s' hs=>hs;have fin:∀ {σ':St}{H':Hp}{v:V}{u:Ae},Inv (B9 CX P w K mg base N qual scope f cdv A outer s H E) [] σ' H' s'->RelV v u->Q v H'->CE outer P w H s Q u s':=
  λ {σ' H' v u} J rv q=>⟨v,H',J.os,J.bare,J.base,J.hok,rv,q⟩
 cases fl with
 | ret u=>
  obtain ⟨v,σ',H',J,rv,q⟩:=hs;exact fin J rv q
 | next=>
  obtain ⟨σ',H',J,q⟩:=hs;exact fin (v:=V.non) (u:=Value.none) J rfl q
 | brk=>
  obtain ⟨_,_,_,q⟩:=hs;exact Gx q
 | cont=>
  obtain ⟨_,_,_,q⟩:=hs;exact Gx q
section
variable {X:Cx}{x:Str}{p pos:Pos}{e:Expr}{es:List Expr}{t:TA}{id T:String}{r:List V->Hp->VK->Prop}
def Q9 (r:List V->Hp->VK->Prop) (t:TA):TE:=λ σ H Q=>t σ H λ vs H1=>r vs H1 Q
def YA (hc:zwr X (.builtin id) r) (hg:Gl X x) (hm:X.mg x=none) (hv:HL x=some (.builtin id)) (ha:PA X (e::es) t) (hn:x ≠ "__name__" := by decide) (hdb:(x == ("__debug__" : Str))=false:=by decide)
  (he:Bi (e::es) X.env=(false,eval e X.env)::Bi es X.env:=by rfl) (hpl:(Fy pos (Bi es X.env)).any (·.1)=false:=by rfl):PE X (.Call (.Name x p) (e::es) [] pos) (Q9 r t):=by
 intro pins s σ H Q I h;refine Nv (FN I hg hm hv ?_ hn hdb);exact PyProof.Rows.callWith_builtin1 (A0 (ha pos pins s σ H _ I h) λ us s1 ⟨vs,H1,I1,r1,q1⟩=>hc pins s1 σ H1 vs us Q I1 r1 q1) he hpl
def bg (hc:zwr X (.type T) r) (hg:Gl X x) (hm:X.mg x=none) (hv:HL x=some (.type T)) (ha:PA X (e::es) t) (hn:x ≠ "__name__" := by decide) (hdb:(x == ("__debug__" : Str))=false:=by decide)
  (he:Bi (e::es) X.env=(false,eval e X.env)::Bi es X.env:=by rfl) (hpl:(Fy pos (Bi es X.env)).any (·.1)=false:=by rfl):PE X (.Call (.Name x p) (e::es) [] pos) (Q9 r t):=by
 intro pins s σ H Q I h;refine Nv (FN I hg hm hv ?_ hn hdb);exact Hc (A0 (ha pos pins s σ H _ I h) λ us s1 ⟨vs,H1,I1,r1,q1⟩=>hc pins s1 σ H1 vs us Q I1 r1 q1) he hpl
end
end L2
namespace HT
open PySem PyProof.Rows
def lexLt:List Int->List Int->Bool
 | [],[]=>false
 | [],_::_=>true
 | _::_,[]=>false
 | x::xs,y::ys=>if x=y then lexLt xs ys else decide (x < y)
def bO (x y:Int) (xs ys:List Int):lexLt (x::xs) (y::ys)=if x=y then lexLt xs ys else decide (x < y):=rfl
def xx:lexLt [] []=false:=rfl
def xk (y:Int) (ys:List Int):lexLt [] (y::ys)=true:=rfl
def xj (x:Int) (xs:List Int):lexLt (x::xs) []=false:=rfl
def yW (A:Bf) (s:Ai) (a:Int) (t:Tok) (c:Int) (u:Tok):∃ e,HK A s (.int a t) (.int c u) e/\(e=true↔a=c):=
 ⟨(a == c),SeqAt.EqAt.int_int a t c u,by simp⟩
def uH (A:Bf) (s:Ai) (a:Int) (t:Tok) (c:Int) (u:Tok) (prog:AD) (w:AA) (E:Ae->Ai->Prop) (Q:Ae->Ai->Prop) (h:Q (.bool (decide (a < c))) s):
  Am (Ax prog w) A (richCompare .Lt (.int a t) (.int c u)) Q E s:=
 (PyProof.Rows.lt_int h:Am (Ax prog w) A (BP .Lt (.int a t) (.int c u)) Q E s)
section
open PySem.SeqAt
open PySem.AutoSeq1 (wpAny_loadPart')
open PySem.MeetsSeq PySem.MeetsSeq2 PySem.MeetsSeq3
def xm (l b:Addr) (items items2:Array Ae) (n n2:Nat) (dd dd2:Option Addr) (sl sl2:Array (Option Ae)) (ns ms:List Int) (hi:EC items.toList ns) (hj:EC items2.toList ms):
  Meets (vl7.«tuple.__lt__» ⟨[.ref l,.ref b],[]⟩)
   (λ _ R s=>s.heap.get? l=some { cls:=.type "tuple",dict:=dd,data:=.seq items n,slots:=sl }/\s.heap.get? b=some { cls:=.type "tuple",dict:=dd2,data:=.seq items2 n2,slots:=sl2 } /\
    R (.ok (.ret (.bool (lexLt ns ms)))) s):=
 .of_wp λ prog w A R s h=>by
  obtain ⟨hp,g,d,tk,os⟩:=s;obtain ⟨hl,hb,h⟩:=h;have f2:=AutoSeq1.sub_tuple_tuple;have z1:items.size=ns.length:=by rw [<- hi.length];simp
  have z2:items2.size=ms.length:=by rw [<- hj.length];simp
  wp_walk using wpAny_loadPart' hl,wpAny_loadPart' hb,wpAny_forIn_list _ (λ Bg b s'=>b.1=none/\s'=⟨hp,g,d,tk,os⟩/\∃ (vs ws:List Ae) (ns' ms':List Int),Bg=vs.zip ws /\
   EC vs ns'/\EC ws ms'/\ns'.length + items2.size=ms'.length + items.size/\R (.ok (.ret (.bool (lexLt ns' ms')))) ⟨hp,g,d,tk,os⟩) _
  case turn=>
   rintro ⟨y,x⟩ Bg b s' ⟨hb',rfl,vs,ws,ns',ms',hz,hvi,hwi,hlen,hR⟩;cases hvi with
   | nil=>rw [List.zip_nil_left] at hz;cases hz
   | cons a t hvi'=>
    cases hwi with
    | nil=>rw [List.zip_nil_right] at hz;cases hz
    | cons c u hwi'=>
     rw [Ja] at hz;injection hz with hyx hrest
     injection hyx with hy hx
     subst hy hx;rw [bO] at hR;simp only [B8] at hlen;obtain ⟨e,he,hiff⟩:=yW A.in1 ⟨hp,g,d,tk,os⟩ a t c u;refine Ah (he prog w _ _ ?_);cases e with
     | true=>
      rw [if_pos (hiff.mp rfl)] at hR
      wp_walk
      exact ⟨rfl,rfl,_,_,_,_,hrest,hvi',hwi',by omega,hR⟩
     | false=>
      rw [if_neg (λ q=>absurd (hiff.mpr q) BK)] at hR;have hri:=uH A.in1 ⟨hp,g,d,tk,os⟩ a t c u prog w
      wp_walk using hri
      exact ⟨_,rfl,by simpa using hR⟩
  case fin=>
   rintro ⟨b1,b2⟩ s' ⟨hb',rfl,vs,ws,ns',ms',hz,hvi,hwi,hlen,hR⟩;simp only at hb';subst hb';have hv:lexLt ns' ms'=decide (items.size < items2.size):=by
    cases hvi with
    | nil=>
     cases hwi with
     | nil=>
      simp only [Md] at hlen;rw [xx];exact (decide_eq_false (by omega)).symm
     | cons c u hw=>
      simp only [Md,B8] at hlen;rw [xk];exact (decide_eq_true (by omega)).symm
    | cons a t hv=>
     cases hwi with
     | nil=>
      simp only [Md,B8] at hlen;rw [xj];exact (decide_eq_false (by omega)).symm
     | cons c u hw=>
      rw [Ja] at hz;cases hz
   rw [hv] at hR
   wp_walk
   exact ⟨_,rfl,by simpa [Builtin.Tuple.tupleCompareSizes] using hR⟩
  case h=>
   exact ⟨rfl,rfl,items.toList,items2.toList,ns,ms,rfl,hi,hj,by omega,h⟩
end
section
variable {prog:AD}{w:AA}{A:Bf}{E:Ae->Ai->Prop}{s:Ai}
def lt_tupInts {l b:Addr}{items items2:Array Ae}{ns ms:List Int}{Q:Ae->Ai->Prop} (hl:IsTup s.heap l items) (hb:IsTup s.heap b items2) (hi:EC items.toList ns) (hj:EC items2.toList ms)
  (hu:A.units < Cp) (h:Q (.bool (lexLt ns ms)) s):Am (Ax prog w) A (BP .Lt (.ref l) (.ref b)) Q E s:=by
 obtain ⟨⟨cls,dd,data,sl⟩,ho,hc,n,hd⟩:=id hl;obtain ⟨⟨cls2,dd2,data2,sl2⟩,ho2,hc2,n2,hd2⟩:=id hb;simp only at hc hd hc2 hd2;subst hc hd hc2 hd2;exact richCompare_meets_room (op:=.Lt) ⟨_,ho,rfl⟩ ⟨_,ho2,rfl⟩ PySem.F.slot_tuple_lt PySem.F.entry_tuple_lt (PySem.F.args_tuple_lt_2 _ _) (xm l b items items2 n n2 dd dd2 sl sl2 ns ms hi hj)
  ⟨ho,ho2,show Value.bool (lexLt ns ms)≠Value.notImplemented/\Q (.bool (lexLt ns ms)) s from ⟨(λ x=>nomatch x),h⟩⟩ hu
def cat_tup {t b:Addr}{vs ws:List Ae}{Q:Ae->Ai->Prop} (ht:IsTup s.heap t vs.toArray) (hb:IsTup s.heap b ws.toArray) (hv:vs≠[])
  (h1:ws=[]->Q (.ref t) s) (h2:ws≠[]->Q (.ref s.heap.objs.size) { s with heap:=s.heap.push { cls:=.type "tuple",data:=.seq (vs++ws).toArray } })
  (hsz:vs.length + ws.length<=Aw):Am (Ax prog w) A (Em .Add (.ref t) (.ref b)) Q E s:=by
 obtain ⟨⟨cls,dd,data,sl⟩,ho,hc,n,hd⟩:=id ht;obtain ⟨⟨cls2,dd2,data2,sl2⟩,ho2,hc2,n2,hd2⟩:=id hb;simp only at hc hd hc2 hd2;subst hc hd hc2 hd2;have e:vs.toArray++ws.toArray=(vs++ws).toArray:=by simp
 by_cases hw:ws=[]
 ·exact concat_meets ⟨_,ho,rfl⟩ ⟨_,ho2,rfl⟩ Qi seq_tuple_add Qy Qz (Q0 _ _)
   (tuple_addW1 t b vs.toArray ws.toArray n n2 dd dd2 sl sl2 (by simpa using hv) (by simp [hw])) ⟨ho,ho2,h1 hw⟩
 ·refine concat_meets ⟨_,ho,rfl⟩ ⟨_,ho2,rfl⟩ Qi seq_tuple_add Qy Qz (Q0 _ _)
   (tuple_addW2 t b vs.toArray ws.toArray n n2 dd dd2 sl sl2 (by simpa using hv) (by simpa using hw) (by rw [BC,BC];exact hsz)) ⟨ho,ho2,?_⟩
  rw [e];exact h2 hw
def sIx (n d:Nat):Option Int->Nat
 | none=>d
 | some v=>if v < 0 then (v + (n:Int)).toNat else min v.toNat n
def sIx_none (n d:Nat):sIx n d none=d:=rfl
def sIx_nat (n d k:Nat):sIx n d (some (k:Int))=min k n:=by
 show (if (k:Int) < 0 then ((k:Int) + (n:Int)).toNat else min (k:Int).toNat n)=min k n;rw [if_neg (by omega),CU]
theorem km (n d:Nat) (hd:d<=n) (o:Option Int):sIx n d o<=n:=by
 cases o with
 | none=>exact hd
 | some v=>
  show (if v < 0 then (v + (n:Int)).toNat else min v.toNat n)<=n;by_cases hv:v < 0
  ·rw [if_pos hv];omega
  ·rw [if_neg hv];exact ZF _ _
def Xi (v:Int) (n d:Nat):(if v < 0 then max (v + (n:Int)) 0 else min v (n:Int))=((sIx n d (some v):Nat):Int):=by
 show (if v < 0 then max (v + (n:Int)) 0 else min v (n:Int))=(((if v < 0 then (v + (n:Int)).toNat else min v.toNat n):Nat):Int);by_cases hv:v < 0
 ·simp only [if_pos hv];omega
 ·simp only [if_neg hv];omega
def bI (lo hi:Option Int) (n:Nat):Q2 lo hi 1 (n:Int)=(((sIx n 0 lo:Nat):Int),((sIx n n hi:Nat):Int)):=by
 have h1:¬ ((1:Int) < 0):=by omega
 unfold Q2;simp only [h1,if_false];refine Prod.ext ?_ ?_
 ·cases lo with
  | none=>rfl
  | some v=>exact Xi v n 0
 ·cases hi with
  | none=>rfl
  | some v=>exact Xi v n n
def di (i j:Nat):N4 (i:Int) (j:Int) 1=j - i:=by
 unfold N4;have h1:(1:Int) > 0:=by omega
 simp only [h1,if_true,Int.ediv_one];split <;> omega
theorem U5 {v:Ae}{o:Option Int}{Q:Option Int->Ai->Prop} (p:IsPart v o) (h:Q o s):Am (Ax prog w) A (Builtin.Slice.slicePartIndex v) Q E s:=by
 cases p with
 | none=>exact slicePart_none h
 | int i t=>exact slicePart_int h
def xp {sl:Addr}{vl vu:Ae}{lo hi:Option Int}{n:Nat}{Q:Int×Int×Nat->Ai->Prop} (hs:s.heap.IsSliceOf sl vl vu .none) (pl:IsPart vl lo) (pu:IsPart vu hi)
  (h:Q (((sIx n 0 lo:Nat):Int),1,sIx n n hi - sIx n 0 lo) s):Am (Ax prog w) A (Vs (.ref sl) (pure (n:Int))) Q E s:=by
 obtain ⟨os,hos,hcs,hds⟩:=id hs;unfold Vs Builtin.Slice.sliceFields;refine Ah (Ah (DZ hos hds (x:=vl) rfl (Ah (DZ hos hds (x:=vu) rfl (Ah (DZ hos hds (x:=.none) rfl (Aq ?_)))))));refine Ah (slicePart_none ?_);show Am _ _ (if ((1:Int) == 0)=true then _ else _) _ _ s;rw [if_neg (by decide)];refine Ah (U5 pl (Ah (U5 pu (Ah (Aq ?_)))));show Am _ _ (match Q2 lo hi 1 (n:Int) with | (lo,hi)=>pure (lo,(1:Int),N4 lo hi 1)) _ _ s;rw [bI lo hi n];show Am _ _ (pure (((sIx n 0 lo:Nat):Int),(1:Int),N4 ((sIx n 0 lo:Nat):Int) ((sIx n n hi:Nat):Int) 1)) _ _ s;rw [di];exact Aq h
def u5 (xs:Array Ae) (i k:Nat):((Ay k).filterMap λ (m:Nat)=>xs[((i:Int) + (m:Int) * 1).toNat]?).toArray=((xs.toList.drop i).take k).toArray:=by
 have e:(λ (m:Nat)=>xs[((i:Int) + (m:Int) * 1).toNat]?)=λ m=>xs[i + m]?:=by
  funext m
  have:((i:Int) + (m:Int) * 1).toNat=i + m:=by omega
  rw [this]
 rw [e]
 have:=pick_run xs i k
 rw [List.filterMap_map] at this;have e2:((λ x=>xs[x]?) ∘ λ x=>i + x)=λ m=>xs[i + m]?:=rfl;rw [e2] at this;rw [this]
def getItem_tuple_cut {t sl:Addr}{items:Array Ae}{vl vu:Ae}{lo hi:Option Int}{Q:Ae->Ai->Prop} (ht:IsTup s.heap t items) (hs:s.heap.IsSliceOf sl vl vu .none) (pl:IsPart vl lo) (pu:IsPart vu hi)
  (hw:¬ (sIx items.size 0 lo=0/\sIx items.size items.size hi=items.size))
  (h:Q (.ref s.heap.objs.size) { s with heap:=s.heap.push { cls:=.type "tuple",data:=.seq ((items.toList.drop (sIx items.size 0 lo)).take (sIx items.size items.size hi - sIx items.size 0 lo)).toArray } })
  (hsz:items.size<=Aw):Am (Ax prog w) A (HI (.ref t) (.ref sl)) Q E s:=by
 have htake:sizeOk (.seq ((items.toList.drop (sIx items.size 0 lo)).take (sIx items.size items.size hi - sIx items.size 0 lo)).toArray):=by
  show ((items.toList.drop (sIx items.size 0 lo)).take (sIx items.size items.size hi - sIx items.size 0 lo)).toArray.size<=Aw;rw [BC,IX,Kh,Kl];omega
 have hj:sIx items.size items.size hi<=items.size:=km _ _ (A4 _) hi;obtain ⟨os,hos,hcs,hds⟩:=id hs;have hTs:s.TypeIs (.ref sl) "slice" := ⟨os,hos,hcs⟩
 unfold HI
 try with_reducible refine ID ?_
 first | refine Ah (Aq ?_) | skip
 refine Ah (wpAny_sequenceKey ht.typeIs (by decide) ?_);refine Ah (Hb (name:=G0 "__getitem__") ht.typeIs V2
  (FU V2 ht.typeIs entry_tuple_getitem ?_ (args_tuple_getitem _ _)))
 show Am _ _ (Builtin.Tuple.tupleItemsOf (.ref t) >>= _) _ _ s;refine Ah (tupleItemsOf_ ht ?_);refine Ah (wpAny_typeOf hTs ?_);rw [if_pos (by decide)];refine Ah (xp hs pl pu ?_);have hno:¬ ((((sIx items.size 0 lo:Nat):Int) == 0 && (1:Int) == 1 && (sIx items.size items.size hi - sIx items.size 0 lo) == items.size)=true):=by
  intro q;rw [AK,AK] at q;have q1:((sIx items.size 0 lo:Nat):Int)=0:=eq_of_beq q.1.1;have q2:sIx items.size items.size hi - sIx items.size 0 lo=items.size:=eq_of_beq q.2;exact hw ⟨by omega,by omega⟩
 show Am _ _ (if (((sIx items.size 0 lo:Nat):Int) == 0 && (1:Int) == 1 && (sIx items.size items.size hi - sIx items.size 0 lo) == items.size)=true then _ else _) _ _ s;rw [if_neg hno,u5]
 first
  | exact Ah (m:=Nz _) (Es (Aq ⟨_,rfl,Aq h⟩) htake)
  | exact Ah (m:=Nz _) (Es (Ah (Aq (Aq ⟨_,rfl,Aq h⟩))) htake)
  | exact Ah (Ah (m:=Nz _) (Es (Aq (Aq ⟨_,rfl,Aq h⟩)) htake))
  | exact Ah (Ah (m:=Nz _) (Es (Aq ⟨_,rfl,Aq h⟩) htake))
end
end HT
namespace L2
open PySem PySem.Spec PyProof.Rows
abbrev TO:=St->Hp->(Option Int->Hp->Prop)->Prop
def PO (X:Cx) (e:Option Expr) (t:TO):Prop:=
 ∀ (pins:List (Addr×Obj)) (s:Ai) (σ:St) (H:Hp) (Q:Option Int->Hp->Prop),Inv X pins σ H s->t σ H Q ->
  Am (Ax X.prog X.w) X.A (evalPart e X.env) (λ u s'=>∃ o H',Inv X pins σ H' s'/\IsPart u o/\Q o H') X.xe s
def P6:TO:=λ _ H Q=>Q none H
def Wh (t:TE):TO:=λ σ H Q=>t σ H λ x H1=>∃ i,x=.int i/\Q (some i) H1
theorem U1 {ns:List Int}:∀ {us:List Ae},Vals (ns.map V.int) us->EC us ns:=by
 induction ns with
 | nil=>intro us r;rw [IW] at r;cases r;exact .nil
 | cons n ns ih=>
  intro us r;rw [Bc] at r;cases r with
  | cons r1 r2=>
   obtain ⟨t,e⟩:=r1;subst e;exact .cons n t (ih r2)
section
variable {X:Cx}{e:Expr}{te:TE}{lo hi:Option Expr}{tl th:TO}{pos p2:Pos}
def X7:PO X none P6:=by
 intro pins s σ H Q I h;rw [evalPart_none];exact Aq ⟨none,H,I,.none,h⟩
def X8 (h:PE X e te):PO X (some e) (Wh te):=by
 intro pins s σ H Q I hw;rw [evalPart_some];refine A0 (h pins s σ H _ I hw) λ u s1 ⟨x,H1,I1,r1,q1⟩=>?_;obtain ⟨i,rfl,q⟩:=q1;obtain ⟨t,rfl⟩:=r1;exact ⟨some i,H1,I1,.int i t,q⟩
def SlR (X:Cx) (r:V->Option Int->Option Int->Hp->VK->Prop):Prop:=
 ∀ (pins:List (Addr×Obj)) (s:Ai) (σ:St) (H:Hp) (x:V) (v vl vu:Ae) (lo hi:Option Int) (sl:Addr) (Q:VK),Inv X pins σ H s->RelV x v->s.heap.IsSliceOf sl vl vu .none->IsPart vl lo->IsPart vu hi->r x lo hi H Q ->
  ∃ T id,typeLookup (.type T) "__getitem__" = pure (some (.builtin id))/\s.TypeIs v T/\Am (Ax X.prog X.w) X.A (HI v (.ref sl)) (EP X pins σ Q) X.xe s
def SlR.or {r r':V->Option Int->Option Int->Hp->VK->Prop} (h:SlR X r) (h':SlR X r'):SlR X (λ x lo hi H Q=>r x lo hi H Q\/r' x lo hi H Q):=by
 intro pins s σ H x v vl vu lo hi sl Q I rx hs pl pu q;rcases q with q | q
 ·exact h pins s σ H x v vl vu lo hi sl Q I rx hs pl pu q
 ·exact h' pins s σ H x v vl vu lo hi sl Q I rx hs pl pu q
def V5 (r:V->Option Int->Option Int->Hp->VK->Prop) (te:TE) (tl th:TO):TE:=λ σ H Q=>te σ H λ x H1=>tl σ H1 λ l H2=>th σ H2 λ u H3=>r x l u H3 Q
def u4 {r:V->Option Int->Option Int->Hp->VK->Prop} (hr:SlR X r) (he:PE X e te) (hl:PO X lo tl) (hu:PO X hi th):PE X (.Subscript e (.Slice lo hi none p2) pos) (V5 r te tl th):=by
 intro pins s σ H Q I h;refine Subscript_ (A0 (he pins s σ H _ I h) λ v s1 ⟨x,H1,I1,r1,q1⟩=>?_);refine wpAny_Slice (A0 (hl pins s1 σ H1 _ I1 q1) λ vl s2 ⟨l,H2,I2,pl,q2⟩=>A0 (hu pins s2 σ H2 _ I2 q2) λ vu s3 ⟨u,H3,I3,pu,q3⟩=>?_);rw [evalPart_none];refine Aq ?_;have I4:Inv X pins σ H3 { s3 with heap:=s3.heap.push { cls:=.type "slice",data:=.fields #[vl,vu,.none] } }:=I3.kept (t':=s3.toks) λ b ob q=>AS _ q;obtain ⟨T,id,hT,ht,hg⟩:=hr pins { s3 with heap:=s3.heap.push { cls:=.type "slice",data:=.fields #[vl,vu,.none] } } σ H3 x v vl vu l u s3.heap.objs.size Q I4 r1 (Heap.IsSliceOf.new ..) pl pu q3;show Am (Ax X.prog X.w) X.A (Ng e (.Slice lo hi none p2) v (.ref s3.heap.objs.size)) (EP X pins σ Q) X.xe { s3 with heap:=s3.heap.push { cls:=.type "slice",data:=.fields #[vl,vu,.none] } };exact tail_any (ops:=[.ref s3.heap.objs.size,v]) ht hT hg (by with_unfolding_all rfl)
def DP (xs:List V) (lo hi:Option Int):List V:=(xs.drop (HT.sIx xs.length 0 lo)).take (HT.sIx xs.length xs.length hi - HT.sIx xs.length 0 lo)
def Vm (xs:List V) (lo hi:Option Int):(DP xs lo hi).length<=xs.length:=by
 unfold DP;rw [IX,Kh];omega
def Ls (K:PySem.W.Frag):V->Option Int->Option Int->Hp->VK->Prop:=λ x lo hi H Q=>∃ a xs,x=.ref a/\SqT K H a xs /\
 ¬ (HT.sIx xs.length 0 lo=0/\HT.sIx xs.length xs.length hi=xs.length)/\∀ p,H p=none->Q (.ref p) (As H p (.tup (DP xs lo hi)))
def qp2:SlR X (Ls X.K):=by
 intro pins s σ H x v vl vu lo hi sl Q I rx hs pl pu h;obtain ⟨a,xs,rfl,hx,hw,q⟩:=h;cases rx;obtain ⟨its,r,ht,hz⟩:=I.tuple hx;have hlen:its.toArray.size=xs.length:=by rw [BC];exact r.length.symm
 refine ⟨"tuple",_,PyProof.Rows.slot_tuple_getitem.lookup,ht.typeIs,?_⟩;refine HT.getItem_tuple_cut ht hs pl pu (by rw [hlen];exact hw) ?_ (by rw [hlen];exact hz);rw [hlen];refine ⟨.ref s.heap.objs.size,_,I.laid (t':=s.toks) (o:=.tup (DP xs lo hi)) (λ b ob q=>AS _ q) (A4 _) ?_,rfl,q _ (I.hok.fresh (A4 _))⟩;exact ⟨BF (Vm xs lo hi) hz,_,(r.drop (HT.sIx xs.length 0 lo)).take (HT.sIx xs.length xs.length hi - HT.sIx xs.length 0 lo),IsTup.new _ _⟩
def Lw (K:PySem.W.Frag):R2:=λ x y H Q=>∃ a b ns ms,x=.ref a/\y=.ref b/\SqT K H a (ns.map V.int)/\SqT K H b (ms.map V.int)/\Q (.bl (HT.lexLt ns ms)) H
def jD (hu:X.A.units < Cp):OpR X (BP .Lt) (Lw X.K):=by
 intro pins s σ H x y v u Q I rx ry h;obtain ⟨a,b,ns,ms,rfl,rfl,ha,hb,q⟩:=h;cases rx;cases ry;obtain ⟨its,r1,p1,_⟩:=I.tuple ha;obtain ⟨its2,r2,p2,_⟩:=I.tuple hb;have i1:EC its.toArray.toList ns:=U1 r1;have i2:EC its2.toArray.toList ms:=U1 r2;exact HT.lt_tupInts p1 p2 i1 i2 hu ⟨.bl (HT.lexLt ns ms),H,I,rfl,q⟩
def zG (K:PySem.W.Frag):R2:=λ x y H Q=>∃ a b xs ys,x=.ref a/\y=.ref b/\SqT K H a xs/\SqT K H b ys/\xs≠[]/\xs.length + ys.length<=Aw /\
 (ys=[]->Q (.ref a) H)/\(ys≠[]->∀ p,H p=none->Q (.ref p) (As H p (.tup (xs++ys))))
theorem Vals.nil_iff {xs:List V}{us:List Ae} (r:Vals xs us):us=[]↔xs=[]:=by
 cases r with
 | nil=>simp
 | cons _ _=>simp
def qnb:OpR X (Em .Add) (zG X.K):=by
 intro pins s σ H x y v u Q I rx ry h;obtain ⟨a,b,xs,ys,rfl,rfl,ha,hb,hx,hz,q1,q2⟩:=h;cases rx;cases ry;obtain ⟨its,r1,p1,_⟩:=I.tuple ha;obtain ⟨its2,r2,p2,_⟩:=I.tuple hb;refine HT.cat_tup p1 p2 (λ z=>hx (r1.nil_iff.mp z)) (λ z=>⟨.ref a,H,I,rfl,q1 (r2.nil_iff.mp z)⟩) (λ z=>?_) (by rw [<- r1.length,<- r2.length];exact hz);refine ⟨.ref s.heap.objs.size,_,I.laid (t':=s.toks) (o:=.tup (xs++ys)) (λ b ob q=>AS _ q) (A4 _) ?_,rfl,q2 (λ w=>z (r2.nil_iff.mpr w)) _ (I.hok.fresh (A4 _))⟩;exact ⟨by rw [Br];exact hz,_,r1.append r2,IsTup.new _ _⟩
end
def E1 (n:Nat) (i:Int):Option Nat:=if 0<=i then (if i < n then some i.toNat else none) else if -(n:Int)<=i then some (i + n).toNat else none
def BG {α:Type} (xs:List α) (i:Int):Option α:=(E1 xs.length i).bind λ j=>xs[j]?
def Xy {n:Nat}{i:Int}{j:Nat} (h:E1 n i=some j):seqIndex? i n=some j/\j < n/\-(n:Int)<=i/\i < n:=by
 unfold E1 at h;by_cases h0:0<=i
 ·rw [if_pos h0] at h;by_cases h1:i < n
  ·rw [if_pos h1] at h;have e:i.toNat=j:=Option.some.inj h;exact ⟨by rw [Nc h0 h1,e],by omega,by omega,h1⟩
  ·rw [if_neg h1] at h;cases h
 ·rw [if_neg h0] at h;by_cases h1:-(n:Int)<=i
  ·rw [if_pos h1] at h;have e:(i + n).toNat=j:=Option.some.inj h;exact ⟨by rw [seqIndex_neg (by omega) h1,e],by omega,h1,by omega⟩
  ·rw [if_neg h1] at h;cases h
theorem MU {α:Type}{xs:List α}{i:Int}{v:α} (h:BG xs i=some v):∃ j,seqIndex? i xs.length=some j/\xs[j]?=some v/\j < xs.length/\-(xs.length:Int)<=i/\i < xs.length:=by
 unfold BG at h;cases e:E1 xs.length i with
 | none=>rw [e] at h;cases h
 | some j=>
  rw [e] at h;obtain ⟨h1,h2,h3,h4⟩:=Xy e;exact ⟨j,h1,h,h2,h3,h4⟩
def Sl (b:Expr):Prop:=∀ o i,subscripted b false o i=operate [o,i] (HI o i)
def IxR (X:Cx) (r:R2):Prop:=
 ∀ (value slice:Expr) (pins:List (Addr×Obj)) (s:Ai) (σ:St) (H:Hp) (x y:V) (v u:Ae) (Q:VK),Inv X pins σ H s->RelV x v->RelV y u->r x y H Q ->
  subscripted slice false v u=operate [v,u] (HI v u)->Am (Ax X.prog X.w) X.A (Ng value slice v u) (EP X pins σ Q) X.xe s
def hZ (X:Cx) (id:String) (r:V->List V->Hp->VK->Prop):Prop:=
 ∀ (pins:List (Addr×Obj)) (s:Ai) (σ:St) (H:Hp) (x:V) (xs:List V) (v:Ae) (us:List Ae) (Q:VK),Inv X pins σ H s->RelV x v->Vals xs us->r x xs H Q ->
  Am (Ax X.prog X.w) X.A (call (.builtin id) (v::us)) (EP X pins σ Q) X.xe s
section
variable {X:Cx}{a b:Expr}{ta tb:TE}{pos:Pos}
def IxR.or {r r':R2} (h:IxR X r) (h':IxR X r'):IxR X (λ x y H Q=>r x y H Q\/r' x y H Q):=by
 intro value slice pins s σ H x y v u Q I rx ry q hs;rcases q with q | q
 ·exact h value slice pins s σ H x y v u Q I rx ry q hs
 ·exact h' value slice pins s σ H x y v u Q I rx ry q hs
def z6 {r:R2} (hr:IxR X r) (ha:PE X a ta) (hb:PE X b tb) (hs:Sl b):PE X (.Subscript a b pos) (JV r ta tb):=by
 intro pins s σ H Q I h;exact Subscript_ (Jl ha hb I h λ v u s2 x y H2 I2 rx ry q=>hr a b pins s2 σ H2 x y v u Q I2 rx ry q (hs _ _))
def Hh (K:PySem.W.Frag):R2:=λ x y H Q=>∃ p xs i v,x=.ref p/\y=.int i/\Bd K H p xs/\BG xs i=some v/\Q v H
def Ly (K:PySem.W.Frag):R2:=λ x y H Q=>∃ p xs i v,x=.ref p/\y=.int i/\SqT K H p xs/\BG xs i=some v/\Q v H
def Lz:R2:=λ x y H Q=>∃ z i c,x=.str z/\y=.int i/\z.length<=Aw/\BG z.cps.toList i=some c/\Q (.str ⟨#[c]⟩) H
def qnt:IxR X (Hh X.K):=by
 intro value slice pins s σ H x y v u Q I rx ry h hs;obtain ⟨p,xs,i,z,rfl,rfl,hq,he,q⟩:=h;cases rx;obtain ⟨t,rfl⟩:=ry;obtain ⟨its,r,pl,hz⟩:=I.list hq;obtain ⟨j,h1,h2,h3,h4,h5⟩:=MU he;obtain ⟨w,ew,rw'⟩:=r.get h2;have hl:=r.length;have hn:=Ir;have fin:EP X pins σ Q w s:=⟨z,H,I,rw',q⟩
 by_cases h0:0<=i
 ·have hj:i.toNat=j:=by
   rw [Nc h0 h5] at h1;exact Option.some.inj h1
  exact item_listR pl.isList h0 (by omega) (by rw [hj];simpa using ew) fin hs
 ·have hj:(i + (its.toArray.size:Int)).toNat=j:=by
   rw [seqIndex_neg (by omega) h4] at h1;rw [BC,<- hl];exact Option.some.inj h1
  exact subscriptTail_builtinR (x:=w) pl.isList.typeIs slot_list_getitem.lookup
   (wpAny_getItem_list_neg (Q:=λ r s'=>r=w/\EP X pins σ Q r s') pl.isList (by omega) (by rw [BC] <;> omega) (by omega) (by rw [hj];simpa using ew) ⟨rfl,fin⟩) hs
def qr2:IxR X (Ly X.K):=by
 intro value slice pins s σ H x y v u Q I rx ry h hs;obtain ⟨p,xs,i,z,rfl,rfl,hq,he,q⟩:=h;cases rx;obtain ⟨t,rfl⟩:=ry;obtain ⟨its,r,pl,hz⟩:=I.tuple hq;obtain ⟨j,h1,h2,h3,h4,h5⟩:=MU he;obtain ⟨w,ew,rw'⟩:=r.get h2;have hl:=r.length;have hn:=Ir;have fin:EP X pins σ Q w s:=⟨z,H,I,rw',q⟩
 exact subscriptTail_builtinR (x:=w) pl.typeIs slot_tuple_getitem.lookup
  (getItem_tuple (j:=j) (Q:=λ r s'=>r=w/\EP X pins σ Q r s') pl (by omega) (by omega) (by rw [BC,<- hl];exact h1) (by simpa using ew) ⟨rfl,fin⟩) hs
def jK:IxR X Lz:=by
 intro value slice pins s σ H x y v u Q I rx ry h hs;obtain ⟨z,i,c,rfl,rfl,hz,he,q⟩:=h;obtain ⟨t,rfl⟩:=rx;obtain ⟨t',rfl⟩:=ry;obtain ⟨j,h1,h2,h3,h4,h5⟩:=MU he;have hl:z.cps.toList.length=z.length:=by simp [Str.length]
 rw [hl] at h1 h4 h5;have hn:=Ir;exact tail_any (typeIs_str s z t) slot_str_getitem.lookup (getItem_str (c:=c) (by
  have e1:decide (i < -(2 ^ 63:Int))=false:=decide_eq_false (by omega);have e2:decide (i ≥ 2 ^ 63)=false:=decide_eq_false (by omega);rw [e1,e2,O4]) (by rw [h1];simpa using h2) ⟨.str ⟨#[c]⟩,H,I.tok _,⟨_,rfl⟩,q⟩) hs
def xB (K:PySem.W.Frag):R2:=λ x y H Q=>Hh K x y H Q\/Ly K x y H Q\/Lz x y H Q
def qr4:IxR X (xB X.K):=qnt.or (qr2.or jK)
def bP (its:List Ae) (n j:Nat) (u:Ae):Iz (·.setIfInBounds j u) { cls:=.type "list",data:=.seq its.toArray n }={ cls:=.type "list",data:=.seq (its.set j u).toArray n }:=by
 simp [Iz]
def Inv.lst {pins:List (Addr×Obj)}{σ:St}{H:Hp}{s:Ai}{p:Addr}{xs:List V} (I:Inv X pins σ H s) (h:H p=some (.lst xs)):
  ∃ (its:List Ae) (n:Nat),Vals xs its/\s.heap.get? p=some { cls:=.type "list",data:=.seq its.toArray n }/\xs.length<=Aw:=by
 obtain ⟨z,its,n,r,e⟩:=I.hok p _ h;exact ⟨its,n,r,e,z⟩
def Inv.lstUpd {pins:List (Addr×Obj)}{σ:St}{H:Hp}{s:Ai}{p:Addr}{xs ys:List V}{its its':List Ae}{n n':Nat}{f:Obj->Obj} (I:Inv X pins σ H s) (h:H p=some (.lst xs))
  (ho:s.heap.get? p=some { cls:=.type "list",data:=.seq its.toArray n }) (hf:f { cls:=.type "list",data:=.seq its.toArray n }={ cls:=.type "list",data:=.seq its'.toArray n' }) (r:Vals ys its') (hz:ys.length<=Aw) (t:Nat):
  Inv X pins σ (As H p (.lst ys)) { s with heap:=s.heap.update p f,toks:=t }:=by
 have e:(s.heap.update p f).get? p=some { cls:=.type "list",data:=.seq its'.toArray n' }:=by
  rw [JU f ho (by rw [hf] <;> rfl),hf]
 refine I.write (x:=p) (e:=p) (by rw [h];trivial) (.inl rfl) (λ b u hb q=>(Nw _ _ (Dw hb)).trans q) ⟨_,e⟩ ?_;exact ⟨hz,its',n',r,e⟩
def QY:V->V->V->Hp->(Hp->Prop)->Prop:=λ o i v H Q=>∃ p xs k j,o=.ref p/\i=.int k/\H p=some (.lst xs)/\E1 xs.length k=some j/\Q (As H p (.lst (xs.set j v)))
def Pt:PSet X QY:=by
 intro pins s σ H o i v ov iv u Q I ro ri rv h;obtain ⟨p,xs,k,j,rfl,rfl,hp,hj,q⟩:=h;cases ro;obtain ⟨t,rfl⟩:=ri;obtain ⟨its,n,r,ho,hz⟩:=I.lst hp;obtain ⟨h1,h2,h3,h4⟩:=Xy hj;have hl:=r.length;have hn:=Ir;have I':Inv X pins σ (As H p (.lst (xs.set j v))) { s with heap:=s.heap.update p (Iz (·.setIfInBounds j u)) }:=
  I.lstUpd hp ho (bP its n j u) (r.set rv j) (by rw [EI];exact hz) s.toks
 by_cases h0:0<=k
 ·have hk:k.toNat=j:=by
   rw [Nc h0 h4] at h1;exact Option.some.inj h1
  exact PySem.W.ki_setAt ho h0 (by omega) (by rw [BC,<- hl];exact h4) (by rw [hk];exact ⟨_,I',q⟩)
 ·have hk:(k + (its.toArray.size:Int)).toNat=j:=by
   rw [seqIndex_neg (by omega) h3] at h1;rw [BC,<- hl];exact Option.some.inj h1
  exact PySem.W.ki_setBack ho (by omega) (by rw [BC,<- hl];exact h3) (by omega) (by rw [hk];exact ⟨_,I',q⟩)
def xv (lo hi:Option Int) (n:Nat):(I0 lo hi none n).1=((HT.sIx n 0 lo:Nat):Int)/\(I0 lo hi none n).2.1=((HT.sIx n n hi:Nat):Int)/\(I0 lo hi none n).2.2=1:=by
 refine ⟨?_,?_,rfl⟩
 ·cases lo with
  | none=>simp [I0,HT.sIx]
  | some i=>
   simp only [I0,HT.sIx,ZE,show (1:Int) > 0 by decide,if_true];by_cases h:i < 0
   ·simp only [h,if_true] <;> omega
   ·simp only [h,if_false] <;> omega
 ·cases hi with
  | none=>simp [I0,HT.sIx]
  | some i=>
   simp only [I0,HT.sIx,ZE,show (1:Int) > 0 by decide,if_true];by_cases h:i < 0
   ·simp only [h,if_true] <;> omega
   ·simp only [h,if_false] <;> omega
def xl (its:List Ae) (lo hi:Option Int):slicePick its.toArray lo hi none=((its.drop (HT.sIx its.length 0 lo)).take (HT.sIx its.length its.length hi - HT.sIx its.length 0 lo)).toArray:=by
 obtain ⟨h1,h2,h3⟩:=xv lo hi its.toArray.size;unfold slicePick;rw [h1,h2,h3];simp only [sliceRange_one,pick_run,BC] <;> rfl
def Lv (K:PySem.W.Frag):V->Option Int->Option Int->Hp->VK->Prop:=λ x lo hi H Q=>∃ a xs,x=.ref a/\Bd K H a xs/\∀ p,H p=none->Q (.ref p) (As H p (.lst (DP xs lo hi)))
def qmc:SlR X (Lv X.K):=by
 intro pins s σ H x v vl vu lo hi sl Q I rx hs pl pu h;obtain ⟨a,xs,rfl,hx,q⟩:=h;cases rx;obtain ⟨its,r,ht,hz⟩:=I.list hx;have hlen:=r.length;refine ⟨"list",_,slot_list_getitem.lookup,ht.isList.typeIs,?_⟩;refine wpAny_getItem_list_slice ht.isList hs pl pu .none (by simp) ?_ (by rw [BC] <;> omega);rw [xl,<- hlen];refine ⟨.ref s.heap.objs.size,_,I.laid (t':=s.toks) (o:=.lst (DP xs lo hi)) (λ b ob q=>AS _ q) (A4 _) ?_,rfl,q _ (I.hok.fresh (A4 _))⟩;exact ⟨BF (Vm xs lo hi) hz,_,0,(r.drop (HT.sIx xs.length 0 lo)).take (HT.sIx xs.length xs.length hi - HT.sIx xs.length 0 lo),Bw _ rfl⟩
def zhp:zwr X (.builtin "len") (λ xs H Q=>∃ p ys,xs=[.ref p]/\(Bd X.K H p ys\/SqT X.K H p ys)/\Q (.int ys.length) H):=by
 intro pins s σ H xs us Q I r h;obtain ⟨p,ys,rfl,hq,q⟩:=h;obtain ⟨u,rfl,rx⟩:=Ei r;cases rx;have hn:=Ir;rcases hq with hq | hq
 ·obtain ⟨its,r',pl,hz⟩:=I.list hq;have hlen:=r'.length;exact Calls.call_len_list pl.isList (by simp only [BC] <;> omega) ⟨.int ys.length,H,I.tok _,⟨s.toks + 1,by rw [BC,hlen]⟩,q⟩
 ·obtain ⟨its,r',pl,hz⟩:=I.tuple hq;have hlen:=r'.length;exact len_tuple pl (by simp only [BC] <;> omega) ⟨.int ys.length,H,I.tok _,⟨s.toks + 1,by rw [BC,hlen]⟩,q⟩
def xq:zwr X (.builtin "len") (λ xs H Q=>∃ z,xs=[.str z]/\z.length<=Aw/\Q (.int z.length) H):=by
 intro pins s σ H xs us Q I r h;obtain ⟨z,rfl,hz,q⟩:=h;obtain ⟨u,rfl,t,rfl⟩:=Ei r;have hn:=Ir;exact len_str (by omega) ⟨.int z.length,H,I.tok _,⟨_,rfl⟩,q⟩
def zwr.or {f:Ae}{r r':List V->Hp->VK->Prop} (h:zwr X f r) (h':zwr X f r'):zwr X f (λ xs H Q=>r xs H Q\/r' xs H Q):=by
 intro pins s σ H xs us Q I rs q;rcases q with q | q
 ·exact h pins s σ H xs us Q I rs q
 ·exact h' pins s σ H xs us Q I rs q
def xr:zwr X (.type "list") (λ xs H Q=>∃ p ys,xs=[.ref p]/\(Bd X.K H p ys\/SqT X.K H p ys)/\∀ l,H l=none->Q (.ref l) (As H l (.lst ys))):=by
 intro pins s σ H xs us Q I r h;obtain ⟨p,ys,rfl,hq,q⟩:=h;obtain ⟨u,rfl,rx⟩:=Ei r;cases rx;have fin:∀ (its:List Ae),Vals ys its->ys.length<=Aw->∀ (h':Heap) (c':Nat),(∀ b o',s.heap.get? b=some o'->h'.get? b=some o') ->
   h'.get? s.heap.objs.size=some { cls:=.type "list",dict:=none,data:=.seq its.toArray c',slots:=#[] }->EP X pins σ Q (.ref s.heap.objs.size) { s with heap:=h' }:=λ its r' hz h' c' kp e=>
  ⟨.ref s.heap.objs.size,_,I.laid (t':=s.toks) kp (A4 _) (show zxg X.prog X.w _ h' _ (.lst ys) from ⟨hz,its,c',r',e⟩),rfl,q _ (I.hok.fresh (A4 _))⟩
 rcases hq with hq | hq
 ·obtain ⟨its,r',pl,hz⟩:=I.list hq;have hlen:=r'.length;obtain ⟨o,ho,hc,n,hd⟩:=pl.isList;exact call_list_seq p (.inl rfl) ho hc hd (λ h' c' kp e=>fin its r' hz h' c' kp e) (by simp only [BC] <;> omega)
 ·obtain ⟨its,r',pl,hz⟩:=I.tuple hq;have hlen:=r'.length;obtain ⟨o,ho,hc,n,hd⟩:=pl;exact call_list_seq p (.inr rfl) ho hc hd (λ h' c' kp e=>fin its r' hz h' c' kp e) (by simp only [BC] <;> omega)
def xw:zwr X (.type "tuple") (λ xs H Q=>∃ p ys,xs=[.ref p]/\((Bd X.K H p ys/\∀ l,H l=none->Q (.ref l) (As H l (.tup ys)))\/(SqT X.K H p ys/\Q (.ref p) H))):=by
 intro pins s σ H xs us Q I r h;obtain ⟨p,ys,rfl,h⟩:=h;obtain ⟨u,rfl,rx⟩:=Ei r;cases rx;rcases h with ⟨hq,q⟩ | ⟨hq,q⟩
 ·obtain ⟨its,r',pl,hz⟩:=I.list hq;have hlen:=r'.length;refine call_tuple_list pl.isList (λ h' kp=>?_) (by simp only [BC] <;> omega);have I1:Inv X pins σ H { s with heap:=h' }:=I.kept (t':=s.toks) kp;have I2:Inv X pins σ (As H h'.objs.size (.tup ys)) { s with heap:=h'.push { cls:=.type "tuple",data:=.seq its.toArray } }:=
   I1.laid (t':=s.toks) (λ b o e=>AS _ e) (A4 _) (show zxg X.prog X.w _ _ _ (.tup ys) from ⟨hz,its,r',IsTup.new _ _⟩)
  exact ⟨.ref h'.objs.size,_,I2,rfl,q _ (I1.hok.fresh (A4 _))⟩
 ·obtain ⟨its,r',pl,hz⟩:=I.tuple hq;exact call_tuple_same pl ⟨.ref p,H,I,rfl,q⟩
def Q6 (K:PySem.W.Frag) (T:String) (x:V) (H:Hp):Prop:=match x with
 | .str _=>T = "str"
 | .int _=>T = "int"
 | .ref p=>(T = "list" /\ ∃ xs,Bd K H p xs)\/(T = "tuple" /\ ∃ o,K.lookup p=some o/\o.cls=.type "tuple" /\ o.dict=none) \/
   (T = "dict" /\ ((∃ kvs,H p=some (.dK kvs))\/∃ kvs,H p=some (.dT kvs)))\/(T = "set" /\ ∃ S n,H p=some (.set S n))
 | _=>False
theorem vQ {pins:List (Addr×Obj)}{σ:St}{H:Hp}{s:Ai}{T:String}{x:V}{v:Ae} (I:Inv X pins σ H s) (r:RelV x v) (ty:Q6 X.K T x H):
  s.TypeIs v T/\∀ a,v=.ref a->∃ ob,s.heap.get? a=some ob/\ob.dict=none:=by
 cases x with
 | str z=>
  obtain ⟨t,rfl⟩:=r;cases (show T = "str" from ty);exact ⟨typeIs_str s z t,λ _ e=>nomatch e⟩
 | int i=>
  obtain ⟨t,rfl⟩:=r;cases (show T = "int" from ty);exact ⟨typeIs_int s i t,λ _ e=>nomatch e⟩
 | ref p=>
  cases r;rcases ty with ⟨rfl,xs,hq⟩ | ⟨rfl,o,hk,hc,hd⟩ | ⟨rfl,hk⟩ | ⟨rfl,S,n,hk⟩
  ·obtain ⟨its,_,pl,_⟩:=I.list hq;refine ⟨pl.isList.typeIs,λ a e=>?_⟩;cases e;obtain ⟨o,n,e,c,hd,_⟩:=pl;exact ⟨o,e,hd⟩
  ·refine ⟨⟨o,I.kIn p o hk,hc⟩,λ a e=>?_⟩;cases e;exact ⟨o,I.kIn _ o hk,hd⟩
  ·have z:∃ o,s.heap.get? p=some o/\o.ExactDict:=by
    rcases hk with ⟨kvs,hk⟩ | ⟨kvs,hk⟩
    ·obtain ⟨_,_,_,_,o,_,_,e,ex,_⟩:=I.hok p _ hk;exact ⟨o,e,ex⟩
    ·obtain ⟨_,_,_,_,o,_,_,e,ex,_⟩:=I.hok p _ hk;exact ⟨o,e,ex⟩
   obtain ⟨o,e,ex⟩:=z;refine ⟨⟨o,e,ex.1⟩,λ a e2=>?_⟩;cases e2;exact ⟨o,e,ex.2.1⟩
  ·obtain ⟨o,_,_,_,e,ex,_⟩:=I.hok p _ hk;refine ⟨⟨o,e,ex.1⟩,λ a e2=>?_⟩;cases e2;exact ⟨o,e,ex.2.1⟩
 | _=>exact Gx ty
def QA (K:PySem.W.Frag) (T:String) (r:V->List V->Hp->VK->Prop) (to:TE) (t:TA):TE:=λ σ H Q=>to σ H λ x H1=>Q6 K T x H1/\t σ H1 λ xs H2=>r x xs H2 Q
variable {o e:Expr}{es:List Expr}{to:TE}{t:TA}{name:Str}{apos cpos:Pos}{T id:String}{r:V->List V->Hp->VK->Prop}
def Wc (pa:PlainAttrs T) (slot:Slot T name id) (hty:typeOf (.builtin id)=pure (.type "method_descriptor")) (hm:hZ X id r) (ho:PE X o to) (ha:PA X (e::es) t)
  (hbase:attributeBase o name X.env (eval o X.env)=eval o X.env:=by rfl)
  (hfew:((Fy cpos (Bi (e::es) X.env)).all (λ x=>!x.1) && (backToKw cpos (keywordEach [] X.env)).all (λ x=>x.1.isSome)
   && decide ((e::es).length + ([]:List Keyword).length + (if ([]:List Keyword).isEmpty then 0 else 1) < 30))=true:=by rfl)
  (hline:(apos.endLine == cpos.line)=true:=by rfl) (hs:Bi (e::es) X.env=(false,eval e X.env)::Bi es X.env:=by rfl) (hplain:(Fy cpos (Bi es X.env)).any (·.1)=false:=by rfl):
  PE X (.Call (.Attribute o name apos) (e::es) [] cpos) (QA X.K T r to t):=by
 intro pins s σ H Q I h;refine wpAny_Call_method_late hbase hfew hline rfl (A0 (ho pins s σ H _ I h) λ v s1 ⟨x,H1,I1,r1,ty,q1⟩=>?_);obtain ⟨h1,h2⟩:=vQ I1 r1 ty;refine ⟨T,id,pa,slot,hty,h1,h2,?_⟩;have hA:=ha cpos pins s1 σ H1 _ I1 q1;rw [hs] at hA ⊢;refine Calls.callWith_builtin (by show (false || (Fy cpos (Bi es X.env)).any (·.1))=false;rw [hplain] <;> rfl) (Calls.evalArgs_plain ?_);exact A0 hA λ us s2 ⟨vs,H2,I2,r2,q2⟩=>hm pins s2 σ H2 x vs v us Q I2 r1 r2 q2
end
def qu (X:Cx) (id:String) (r:V->List V->Hp->VK->Prop):Prop:=
 ∀ (pins:List (Addr×Obj)) (s:Ai) (σ:St) (H:Hp) (x:V) (xs:List V) (v:Ae) (us:List Ae) (Q:VK),Inv X pins σ H s->RelV x v->Vals xs us->r x xs H Q ->
  Am (Ax X.prog X.w) X.A (call (.builtin id) (v::us)) (EP X pins σ Q) X.xe s
theorem Vals.one:∀ {x:V}{us:List Ae},Vals [x] us->∃ u,us=[u]/\RelV x u
 | _,_,.cons r .nil=>⟨_,rfl,r⟩
theorem Vals.rep {xs:List V}{us:List Ae} (h:Vals xs us):∀ k:Nat,Vals (A9 k xs).flatten (A9 k us).flatten
 | 0=>.nil
 | k + 1=>by
  rw [EL,EL,IZ,IZ];exact Vals.append h (Vals.rep h k)
theorem UP (its:List Ae):∀ (k:Nat) (acc:List Ae),
  S3 (λ x1 x2=>x1++x2) acc.toArray (A9 k its.toArray)=(acc++(A9 k its).flatten).toArray
 | 0,acc=>by simp
 | k + 1,acc=>by
  have e:acc.toArray++its.toArray=(acc++its).toArray:=by simp
  have e2:(acc++its)++(A9 k its).flatten=acc++(A9 (k + 1) its).flatten:=by
   rw [EL,IZ,IY]
  rw [<- e2,<- UP its k (acc++its),<- e,EL,SF]
section
variable {X:Cx}{pins:List (Addr×Obj)}{σ:St}{H:Hp}{s:Ai}{l b:Addr}{xs ys zs:List V}
def Inv.lset {its its':List Ae}{n:Nat}{f:Array Ae->Array Ae}{t':Nat} (I:Inv X pins σ H s) (hH:H l=some (.lst xs))
  (e:s.heap.get? l=some { cls:=.type "list",data:=.seq its.toArray n }) (hf:f its.toArray=its'.toArray) (hv:Vals ys its') (hz:ys.length<=Aw):
  Inv X pins σ (As H l (.lst ys)) { s with heap:=s.heap.update l (Iz f),toks:=t' }:=by
 have q:=PySem.IsL.update e f;rw [hf] at q;refine I.write (x:=l) (e:=l) (by rw [hH];exact trivial) (.inl rfl) (λ b' u hb hu=>(Nw s.heap (Iz f) (Dw hb)).trans hu) ⟨_,q⟩ ?_;exact ⟨hz,its',_,hv,q⟩
def Inv.lnew {its:List Ae}{t':Nat} (I:Inv X pins σ H s) (hv:Vals ys its) (hz:ys.length<=Aw):
  Inv X pins σ (As H s.heap.objs.size (.lst ys)) { s with heap:=s.heap.push { cls:=.type "list",data:=.seq its.toArray },toks:=t' }:=
 I.laid (λ _ _ q=>AS _ q) (A4 _) ⟨hz,its,0,hv,Bw _ rfl⟩
def Inv.fresh (I:Inv X pins σ H s):H s.heap.objs.size=none:=I.hok.fresh (A4 _)
def Inv.lstM (I:Inv X pins σ H s) (hH:H l=some (.lst xs)):xs.length<=Aw/\∃ (its:List Ae) (n:Nat),Vals xs its/\xs.length=its.length/\s.heap.get? l=some { cls:=.type "list",data:=.seq its.toArray n }:=by
 obtain ⟨z,its,n,r,e⟩:=I.hok l _ hH;exact ⟨z,its,n,r,r.length,e⟩
def Y9 {n:Nat} (h:n<=Aw):Ny n=false:=by
 unfold Ny;exact decide_eq_false (by omega)
end
section
variable {X:Cx}
def XY:V->List V->Hp->VK->Prop:=λ x vs H Q=>∃ l xs y,x=.ref l/\vs=[y]/\H l=some (.lst xs)/\xs.length < Aw/\Q .non (As H l (.lst (xs++[y])))
def UW:qu X "list.append" XY:=by
 intro pins s σ H x vs v us Q I rx rv h;obtain ⟨l,xs,y,rfl,rfl,hH,hz,q⟩:=h;cases rx;obtain ⟨u,rfl,ru⟩:=rv.one;obtain ⟨z,its,n,r,hl,e⟩:=I.lstM hH;refine call_meets F.slot_list_append ⟨_,e,rfl⟩ F.entry_list_append (F.args_list_append_2 _ _) (PySem.list_append l its.toArray n u (by rw [BC];omega)) ⟨e,?_⟩;refine ⟨.non,_,I.lset (its':=its++[u]) hH e (by simp) (r.append (.cons ru .nil)) ?_,rfl,q⟩;rw [Br,Gg];omega
def XZ:V->List V->Hp->VK->Prop:=λ x vs H Q=>∃ l b xs zs,x=.ref l/\vs=[.ref b]/\H l=some (.lst xs)/\H b=some (.lst zs)/\xs.length + zs.length<=Aw/\Q .non (As H l (.lst (xs++zs)))
def gZ:qu X "list.extend" XZ:=by
 intro pins s σ H x vs v us Q I rx rv h;obtain ⟨l,b,xs,zs,rfl,rfl,hH,hB,hz,q⟩:=h;cases rx;obtain ⟨u,rfl,ru⟩:=rv.one;cases ru;obtain ⟨z,its,n,r,hl,e⟩:=I.lstM hH;obtain ⟨z2,its2,n2,r2,hl2,e2⟩:=I.lstM hB;have hsz:its.toArray.size + its2.toArray.size<=Aw:=by rw [BC,BC];omega
 have hlong:¬ (!its.toArray.isEmpty && Ny (its.toArray.size + its2.toArray.size))=true:=by
  rw [Y9 hsz,O5];exact BK
 refine call_meets F.slot_list_extend ⟨_,e,rfl⟩ F.entry_list_extend (F.args_list_extend_2 _ _)
  (AutoSeq1.list_extend_list_list_0 l its.toArray n b its2.toArray n2 hlong (by rw [BC];omega) (by omega)) ⟨e,e2,?_⟩
 refine ⟨.non,_,I.lset (its':=its++its2) hH e (by simp) (r.append r2) ?_,rfl,q⟩;rw [Br];omega
def QJ:R2:=λ x y H Q=>∃ l b xs zs,x=.ref l/\y=.ref b/\H l=some (.lst xs)/\H b=some (.lst zs)/\xs.length + zs.length<=Aw/\∀ p,H p=none->Q (.ref p) (As H p (.lst (xs++zs)))
def qrn:OpR X (Em .Add) QJ:=by
 intro pins s σ H x y v u Q I rx ry h;obtain ⟨l,b,xs,zs,rfl,rfl,hH,hB,hz,q⟩:=h;cases rx;cases ry;obtain ⟨z,its,n,r,hl,e⟩:=I.lstM hH;obtain ⟨z2,its2,n2,r2,hl2,e2⟩:=I.lstM hB;refine PySem.P.add_list e e2 ?_ (by rw [BC,BC];omega);have ea:its.toArray++its2.toArray=(its++its2).toArray:=by simp
 rw [ea];exact ⟨.ref _,_,I.lnew (t':=s.toks) (r.append r2) (by rw [Br];omega),rfl,q _ I.fresh⟩
def QI:R2:=λ x y H Q=>∃ l k xs,x=.ref l/\y=.int k/\H l=some (.lst xs)/\-(2 ^ 63)<=k/\k < 2 ^ 63/\xs.length * k.toNat<=Aw /\
 ∀ p,H p=none->Q (.ref p) (As H p (.lst (A9 k.toNat xs).flatten))
theorem wt {α:Type} (xs:List α) (k:Nat):(A9 k xs).flatten.length=k * xs.length:=by
 induction k with
 | zero=>simp
 | succ k ih=>rw [EL,IZ,Br,ih,O3,Zq]
def qq9:OpR X (Em .Mult) QI:=by
 intro pins s σ H x y v u Q I rx ry h;obtain ⟨l,k,xs,rfl,rfl,hH,h1,h2,hz,q⟩:=h;cases rx;obtain ⟨t,rfl⟩:=ry;obtain ⟨z,its,n,r,hl,e⟩:=I.lstM hH;have hlen:its.toArray.size * k.toNat<=Aw:=by rw [BC,<- hl];exact hz
 have hcap:¬ its.toArray.size * k.toNat > (2 ^ 63 - 1) / 8:=by
  have:(Aw:Nat)<=(2 ^ 63 - 1) / 8:=by decide
  omega
 have hfit:¬ (!Builtin.List.listFitsIndex k)=true:=by
  rw [fitsIndex_both h1 h2];exact BK
 have hlong:¬ Ny (its.toArray.size * k.toNat)=true:=by
  rw [Y9 hlen];exact BK
 have hnew:S3 (λ x1 x2=>x1++x2) #[] (A9 (if its.toArray.isEmpty=true then 0 else k.toNat) its.toArray)=(A9 k.toNat its).flatten.toArray:=by
  have f0:∀ m:Nat,S3 (λ x1 x2=>x1++x2) #[] (A9 m its.toArray)=(A9 m its).flatten.toArray:=λ m=>by
   have:=UP its m []
   rw [Fg] at this;exact this
  rw [f0];cases its with
  | nil=>simp
  | cons a r'=>rw [if_neg (by simp)]
 refine wpAny_binaryOp_repeat_ref (T := "list") (U := "int") (by decide) ⟨_,e,rfl⟩ (λ s'=>typeIs_int s' k t) noFill_list_mul F.fills_int_mul F.slot_int_rmul repeat_list F.slot_int_index.lookup
  (call_meets F.slot_int_rmul (typeIs_int s k t) F.entry_int_rmul (F.args_int_rmul_2 _ _) (int___rmul___int_list k t l its.toArray n)
   ⟨e,rfl,⟨_,e,rfl⟩,call_meets F.slot_list_mul ⟨_,e,rfl⟩ F.entry_list_mul (F.args_list_mul_2 _ _) (AutoListH.list___mul___list_int_3 l its.toArray n k t hfit hcap hlong) ⟨e,?_⟩⟩)
 rw [hnew];exact ⟨.ref _,_,I.lnew (t':=s.toks) (r.rep k.toNat) (by rw [wt,FD];exact hz),rfl,q _ I.fresh⟩
end
section
variable {prog:AD}{w:AA}{A:Bf}{E:Ae->Ai->Prop}{s:Ai}
end
section
variable {X:Cx}
end
end L2
namespace Att
open PySem PySem.W PySem.Calls PyProof.Rows
theorem xy {P:Params}{h:Heap}:∀ (ns:List Int) (vs:List Ae),WellAll P h vs (ns.map WData.int)->EC vs ns:=by
 intro ns;induction ns with
 | nil=>
  intro vs w;rw [IW] at w;cases w;exact .nil
 | cons n ns ih=>
  intro vs w;rw [Bc] at w;cases w with
  | cons a b=>
   cases a;exact .cons _ _ (ih _ b)
theorem bt {l:OpenLaw}{n:Nat} (hn:l.most=some n) {P:Params}{h:Heap}{args:List WData}{vals:List Ae}
  (hpre:l.row.toRowW.claim.pre args=true) (hwl:WellAll P h vals args):
  ∃ a vs ns,vals=[Value.ref a]/\args=[WData.list (ns.map WData.int)]/\h.get? a=some { cls:=.type "list",data:=.seq vs.toArray }/\EC vs ns/\ns.length<=n:=by
 have hsh:WShape.hasAll [] args [.list .int]=true:=(pre_splitW hpre).1;have hc:l.pre.holds [] { args:=args }=true:=(pre_splitW hpre).2;obtain ⟨d,r,rfl,h1,h2⟩:=hasAllW_cons hsh;obtain rfl:=hasAllW_nil h2;obtain ⟨xs,rfl,h3⟩:=hasW_list h1;obtain ⟨ns,rfl⟩:=items_int h3;have hlen:ns.length<=n:=by
  unfold OpenLaw.pre at hc;have h4:(WTm.not (.lt (.lit (.int (n:Int))) (.len (.arg 0)))).holds [] { args:=[.list (ns.map .int)] }=true:=by
   have h4:=(holds_andW hc).1;rw [hn] at h4;exact h4
  have h5:=condW_of h4 (w_not (w_lt w_lit (w_len_list (w_arg rfl))));rw [AJ] at h5;refine Nat.le_of_not_lt λ q=>?_;have q':(n:Int) < ((ns.length:Nat):Int):=by omega
  first
   | (rw [decide_eq_true q'] at h5;exact absurd h5 (by decide))
   | (simp at h5;omega)
 cases hwl with
 | cons w1 w2=>
  cases w2;cases w1 with
  | list ho hall=>exact ⟨_,_,ns,rfl,rfl,ho,xy ns _ hall,hlen⟩
def bo (l:OpenLaw) (args:List WData):l.row.toRowW.claim.post args (.bool true) args=true:=
 postW_of (r:=l.row.toRowW) (X:=(true == true))
  (show WShape.has [] (.bool true) .bool=true by first | rfl | decide | simp [WShape.has,WShape.arms,WShape.armsAll])
  (show (WTm.eq .res (.lit (.bool true))).value [] { args:=args,res:=some (.bool true),after:=args }=some (.bool (true == true)) from w_eq_bool (w_res rfl) w_lit) rfl
def attach_call {l:OpenLaw}{n:Nat}{q:AD}{loose:List Str}{XP:(Str->Option Ae)->Heap->Prop}{YP:AA->Heap->Prop}{d:DefRec}
  (hn:l.most=some n) (hdf:d.params.defaults=[])
  (call:∀ (w:AA) (s₀ s₁:Ai) (mg mb:Str->Option Ae) (fa:Addr) (o:Obj) (pm cd doc:Ae) (a:Addr) (vs:List Ae) (ns:List Int),
   Ground q loose [] XP w s₀ mg mb s₁.heap->YP w s₁.heap ->
   s₁.heap.get? fa=some o->o.data=.func (docDef d.name d.params d.body d.scope pm cd doc)->s₁.heap.CodeRec cd d.name->mg d.name=some (.ref fa) ->
   s₁.heap.get? a=some { cls:=.type "list",data:=.seq vs.toArray }->EC vs ns->ns.length<=n->s₁.gens=#[] ->
   HH (Ax l.prog w) Iw (.call (.ref fa) ⟨[.ref a],[]⟩) (λ r s'=>r=.ok (.ret (.bool true))/\OldK s₁.heap s'.heap/\s'.os=s₁.os/\FQ s'.gens) s₁):
  WalkO q loose XP YP l.row.toRowW d [] (λ f vs=>PySem.call f vs):=by
 intro w s₀ s₁ mg mb G Y fa o pm cd doc dV kV ho hd hcd hD hmg hg args vals as hpre hlay hrd hwl hlo;obtain rfl:dV=.none:=Dflts.none hD hdf;obtain rfl:kV=.none:=Dflts.noKw hD;obtain ⟨a,vs,ns,rfl,rfl,hobj,hints,hlen⟩:=bt hn hpre hwl;refine enter_call (codeAny_mono (call w s₀ s₁ mg mb fa o pm cd doc a vs ns G Y ho (fd_plain hd) hcd hmg hobj hints hlen hg) λ r s' hq=>?_);obtain ⟨rfl,h2,h3,h4⟩:=hq;exact ⟨.inl ⟨.bool true,.bool true,[],rfl,λ _=>rfl,.bool true,bo l _,λ _=>⟨List.Pairwise.nil,λ _ hm=>(nomatch hm)⟩⟩,h2,h3,h4⟩
section
variable {prog:AD}{w:AA}{A:Bf}{E:Ae->Ai->Prop}{s:Ai}{K:Frag}
end
end Att
namespace L2
open PySem PySem.Spec PyProof.Rows
theorem Vk:∀ {vs:List Ae}{ns:List Int},EC vs ns->Vals (ns.map V.int) vs
 | _,_,.nil=>.nil
 | _,_,.cons n t h=>.cons ⟨t,rfl⟩ (Vk h)
def Jp (H:Hp):Prop:=∀ b,H b=none\/∃ o xs,H b=some (.frz o (.lst xs))
theorem ue {P:AD}{w:AA}{K:PySem.W.Frag}{mg mb:Str->Option Ae}{CX:FI}{k:Nat}{fa a:Addr}{fd:DG}{x:Str}{sp:Sp}{s₁:Ai}{vs:List Ae}{ns:List Int}
  (KX:K.In s₁.heap) (hns:s₁.heap.Ns Ep mg) (hb:s₁.heap.Ns builtinsNs mb) (hbb:∀ x:Str,x ≠ "__name__" -> mb x=HL x) (hlim:s₁.heap.NoLimit) (hg:s₁.gens=#[])
  (ha:s₁.heap.get? a=some { cls:=.type "list",data:=.seq vs.toArray }) (hi:EC vs ns) (hl:ns.length<=Aw) (hr:Room k Iw)
  (F:∀ base:Heap,K.In base->base.Ns Ep mg->FnOk P w K mg base CX k fa fd [x] sp) (hbind:∀ (s:Ai) (u:Ae),BindsTo s fd ⟨[u],[]⟩ [(x,u)])
  (hsp:∀ H:Hp,Jp H->Bd K H a (ns.map V.int)->sp [.ref a] H (λ v _=>v=.bl true) λ _ _ _=>False)
  (hCX:∀ H e s',CX [] H s₁ (λ _ _ _=>False) e s'->False):
  HH (Ax P w) Iw (.call (.ref fa) ⟨[.ref a],[]⟩) (λ r s'=>r=.ok (.ret (.bool true))/\OldK s₁.heap s'.heap/\s'.os=s₁.os/\FQ s'.gens) s₁:=by
 have rv:=Vk hi;have lenV:=hi.length;have core:∀ H:Hp,Jp H->Bd K H a (ns.map V.int)->HOk P w H s₁.heap->(∀ b,H b≠none->b=a)->(H a≠none->K.lookup a=none) ->
   HH (Ax P w) Iw (.call (.ref fa) ⟨[.ref a],[]⟩) (λ r s'=>r=.ok (.ret (.bool true))/\OldK s₁.heap s'.heap/\s'.os=s₁.os/\FQ s'.gens) s₁:=by
  intro H hO hS hok hA hK;have base_of:∀ {b:Addr}{o:Obj},s₁.heap.get? b=some o->H b=none->(Dk s₁.heap H).get? b=some o:=λ e n=>ub e n;have noA:∀ {b:Addr}{o:Obj}{es:Array En}{ep:Nat},s₁.heap.get? b=some o->o.data=.dict es ep->H b=none:=λ {b o es ep} e d=>by
   cases q:H b with
   | none=>rfl
   | some u=>
    have e':b=a:=hA b (by rw [q];simp);subst e';rw [ha] at e;cases e;have d':Data.seq vs.toArray _=Data.dict es ep:=d;cases d'
  have nsK:∀ {b:Addr}{m:Str->Option Ae},s₁.heap.Ns b m->(Dk s₁.heap H).Ns b m:=λ {b m} ⟨o,es,ep,e,d,r⟩=>⟨o,es,ep,base_of e (noA e d),d,r⟩
  have hKb:K.In (Dk s₁.heap H):=λ b o e=>base_of (KX b o e) (by
   cases q:H b with
   | none=>rfl
   | some u=>
    have e':b=a:=hA b (by rw [q];simp);subst e';rw [hK (by rw [q];simp)] at e;cases e)
  have hM:Mod K mg (Dk s₁.heap H):=⟨hKb,nsK hns,⟨mb,nsK hb,hbb⟩,let ⟨mc,h1,h2⟩:=hlim;⟨mc,nsK h1,h2⟩⟩
  have e0:Env0 P w K mg (Dk s₁.heap H) Iw [] s₁ H:=⟨rfl,hM,λ b o e=>wC e,Nat.le_of_eq (gP _ _),trivial,λ b hb=>absurd (show b∈([]:List Addr) from hb) (by simp),hok,.of_eq hg⟩
  refine codeAny_mono ((F _ hKb (nsK hns)).run Iw [] s₁ H ⟨[.ref a],[]⟩ [.ref a] [.ref a] _ _ hr e0 (hbind s₁ (.ref a)) (.cons rfl .nil) (hsp H hO hS)) λ r s' h=>?_;cases r with
  | error e=>exact (hCX H e s' h).elim
  | ok fl=>
   cases fl with
   | next=>exact Gx h
   | brk=>exact Gx h
   | cont=>exact Gx h
   | ret u=>
    obtain ⟨v,H',os,bare,un,hok',r',q⟩:=h;have q':v=.bl true:=q;subst q';obtain rfl:u=Value.bool true:=r';refine ⟨rfl,OldK.of_keep λ b o e=>?_,os,bare⟩;cases q:H b with
    | none=>exact un.keep b o e q (by intro z;exact absurd (show b∈([]:List Addr) from z) (by simp)) (by simp)
    | some u=>
     rcases hO b with z | ⟨ob,xs,z⟩
     ·rw [q] at z;cases z
     ·have z2:=un.frzs b ob _ z;obtain ⟨e1,_⟩:=hok b _ z;obtain ⟨e2,_⟩:=hok' b _ z2;rw [e] at e1;cases e1;exact e2
 cases hk:K.lookup a with
 | some o=>
  have e:=KX a o hk;rw [ha] at e;cases e;refine core (λ _=>none) (λ _=>.inl rfl) (.inr ⟨_,vs.toArray,_,hk,rfl,rfl,rfl,by rw [BC,lenV];exact hl,by simpa using rv⟩) (λ b u z=>by have z':(none:Option HO)=some u:=z;cases z') (λ b z=>absurd rfl z) λ z=>absurd rfl z
 | none=>
  refine core (λ b=>if b=a then some (.frz { cls:=.type "list",data:=.seq vs.toArray } (.lst (ns.map V.int))) else none) (λ b=>?_) (.inl (.inr ⟨{ cls:=.type "list",data:=.seq vs.toArray },if_pos rfl⟩)) (λ b u z=>?_) (λ b z=>?_) λ _=>hk
  ·by_cases hb:b=a
   ·exact .inr ⟨_,_,if_pos hb⟩
   ·exact .inl (if_neg hb)
  ·by_cases hb:b=a
   ·have z':=(if_pos hb).symm.trans z;cases z';subst hb;exact ⟨ha,by rw [AJ];exact hl,vs,_,rv,ha⟩
   ·have z':=(if_neg hb).symm.trans z;cases z'
  ·by_cases hb:b=a
   ·exact hb
   ·exact absurd (if_neg hb) z
structure Fun (K:PySem.W.Frag) (x qual:Str) (st:Stmt) (f:Addr) (fd:DG):Prop where
 ex:∃ (oc:Ae) (od:Option Addr) (kV doc pm:Ae) (an:Option Addr) (cdv ct:Ae) (osl:Array (Option Ae)),
  fd=IB x qual (Im st) (Hz st) (CZ st) .none kV doc pm an cdv ct/\K.lookup f=some ⟨oc,od,.func fd,osl⟩/\Qb K cdv qual=true
 kp:JM K (.ref f)=true
section
variable {P:AD}{w:AA}{K:PySem.W.Frag}{mg:Str->Option Ae}{base:Heap}
def jl {x qual:Str}{st:Stmt}{f:Addr}{oc:Ae}{od an:Option Addr}{osl:Array (Option Ae)}{kV doc pm cdv ct:Ae} (l:K.lookup f=some ⟨oc,od,.func (IB x qual (Im st) (Hz st) (CZ st) .none kV doc pm an cdv ct),osl⟩)
  (c:Qb K cdv qual=true) (k:JM K (.ref f)=true):Fun K x qual st f (IB x qual (Im st) (Hz st) (CZ st) .none kV doc pm an cdv ct):=⟨⟨oc,od,kV,doc,pm,an,cdv,ct,osl,rfl,l,c⟩,k⟩
end
section
variable {X:Cx}
end
end L2
namespace QQ
open PySem PySem.Spec PyProof.Rows L2
abbrev St:=L2.St
def KL (K:Frag) (a:Addr) (xs:List V):Prop:=∃ (o:Obj) (its:Array Ae) (n:Nat),K.lookup a=some o/\o.cls=.type "list" /\ o.dict=none/\o.data=.seq its n/\its.size<=Aw/\Vals xs its.toList
def Yj {K:Frag}{H:Hp}{a:Addr}{xs:List V} (h:Bd K H a xs):Q6 K "list" (.ref a) H:=.inl ⟨rfl,xs,h⟩
def Uk (z:Str):It:=⟨λ i _=>i < z.cps.size,λ i H v H'=>H'=H/\∃ c,z.cps[i]?=some c/\v=.str ⟨#[c]⟩,λ i _=>z.cps.size<=i⟩
def Wt (z:Str):Bool:=z.cps.all (·< 128)
def Jg (K:Frag) (tl:TE):TI:=λ σ H R=>tl σ H λ x H1=>(∃ a,x=.ref a/\(((∃ xs,Bd K H1 a xs)/\R (Ui K a) H1)\/((∃ xs,SqT K H1 a xs)/\R (Uh K a) H1)))\/∃ z,x=.str z/\Wt z=true/\R (Uk z) H1
def Oa (k:Nat) (wi:TI) (g:TG) (tc:TT) (te:TE):TE:=λ σ H Q=>wi σ H λ J H1=>∀ D,H1 D=none->∃ W:Nat->Nat->List V->Hp->Prop,(∃ m,W 0 m [] (As H1 D (.lst [])))/\∀ i m ys H,W i m ys H->H D=some (.lst ys) /\
 ((J.stop i H/\Q (.ref D) H)\/(J.go i H/\∀ x H',J.yld i H x H'->g x (σ++A9 k none) H' λ σ2 H2=>tc σ2 H2 λ b H3=>if b=true then te σ2 H3 λ y H4=>H4 D=some (.lst ys)/\ys.length < Aw/\∃ m',m' < m/\W (i + 1) m' (ys++[y]) (As H4 D (.lst (ys++[y]))) else ∃ m',m' < m/\W (i + 1) m' ys H3))
inductive PV where
 | non | bl (b:Bool) | int (i:Int) | str (x:Str) | lst (xs:List PV) | tup (xs:List PV) | emp | dko | scr (ns:List Int) | dct (kvs:List (List A2×V)) | dcl (ks:List (List A2)) (xs:List PV) | exn (c:Nat)
 | loc (n:Nat) | dks (ks:List A2) (xs:List PV) | ins (fs:List Str) (xs:List PV) | sto (os:List PV)
 deriving Inhabited
def Oh:PV->Bool
 | .lst _=>false
 | .tup _=>false
 | .dct _=>false
 | .dcl _ _=>false
 | _=>true
def NX:List PV->Bool
 | []=>true
 | x::xs=>Oh x && NX xs
def DD:PV->Bool
 | .tup xs=>NX xs
 | x=>Oh x
def DV:List PV->Bool
 | []=>true
 | x::xs=>DD x && DV xs
def xE (a C:Addr) (h:Heap):Prop:=∃ o vs,h.get? a=some o/\o.cls=.ref C/\o.data=.fields vs
def om:Nat:=1000
structure Kx where
 K:Frag
 lc:List Addr
 st:Addr->Prop
def Le (H H':Hp):Prop:=∀ a o,H a=some o->H' a=some o
def Mo:HO->Prop
 | .lst _=>True
 | .dT _=>True
 | _=>False
def So:HO->Prop
 | .dK _=>True
 | .ins _ _ _=>True
 | .own _=>True
 | _=>False
def Cg:PV->Bool
 | .lst _=>true
 | .dct _=>true
 | .dcl _ _=>true
 | _=>false
def Rf (K:Kx) (H:Hp) (a:Addr):PV->Prop
 | .emp=>¬ K.st a/\H a=some (.dK [])
 | .dko=>¬ K.st a/\∃ kvs,H a=some (.dK kvs)
 | .scr ns=>(∃ o,H a=some (.frz o (.lst (ns.map V.int))))\/KL K.K a (ns.map V.int)
 | .exn c=>∃ C,Dt K.K c=some C/\H a=some (.ext (xE a C))
 | .loc n=>K.lc[n]?=some a
 | _=>False
def Nd (R:HO->Prop) (xs:List PV) (vs:List V):PV->Prop
 | .lst ys=>ys=xs/\R (.lst vs)
 | .dct kvs=>xs=[]/\vs=[]/\R (.dT kvs)
 | .dcl ks ys=>ys=xs/\ks.length=xs.length/\R (.dT (ks.zip vs))
 | _=>False
def Rv (H:Hp) (a:Addr):HO->Prop
 | .dT kvs=>Rd H a (.dT kvs)
 | o=>H a=some o
inductive Is (K:Kx) (H:Hp) (Z:Addr->Prop):PV->V->Prop
 | non:Is K H Z .non .non
 | bl (b):Is K H Z (.bl b) (.bl b)
 | int (i):Is K H Z (.int i) (.int i)
 | str (x):Is K H Z (.str x) (.str x)
 | rf {x a} (h:Rf K H a x):Is K H Z x (.ref a)
 | tup {xs a vs} (h:H a=some (.tup vs)) (k:Bv (Is K H Z) xs vs):Is K H Z (.tup xs) (.ref a)
 | nd {x a xs vs} (n:¬ Z a) (h:Nd (Rv H a) xs vs x) (k:Bv (Is K H Z) xs vs):Is K H Z x (.ref a)
abbrev IsL (K:Kx) (H:Hp) (Z:Addr->Prop):List PV->List V->Prop:=Bv (Is K H Z)
def Kp (K:Kx) (Z:Addr->Prop) (H H':Hp):Prop:=∀ a o,H a=some o->H' a=some o\/(Z a/\Mo o\/K.st a/\So o)\/∃ kvs,(o=.dT kvs\/∃ u,o=.frz u (.dT kvs))/\Rd H' a (.dT kvs)
def Lx (K:Kx) (H H':Hp):Prop:=∀ a o,H a=some o->H' a=some o\/(K.st a/\So o/\H' a≠none)
structure Kx.Le (K K':Kx) (H:Hp):Prop where
 kk:K'.K=K.K
 lc:∃ r,K'.lc=K.lc++r
 st:∀ a,K.st a->K'.st a
 nw:∀ a o,H a=some o->So o->K'.st a->K.st a
section
variable {K K' K'':Kx}{H H' H'':Hp}{Z Z':Addr->Prop}{x:PV}{v:V}{a:Addr}{xs ys:List PV}{vs ws:List V}
def Kx.Le.rf:K.Le K H:=⟨rfl,⟨[],by simp⟩,λ _ h=>h,λ _ _ _ _ h=>h⟩
def Le.refl:Le H H:=λ _ _ h=>h
def Le.trans (h:Le H H') (h':Le H' H''):Le H H'':=λ a o e=>h' a o (h a o e)
def Le.lx (h:Le H H'):Lx K H H':=λ a o e=>.inl (h a o e)
def Le.kp (h:Le H H'):Kp K Z H H':=λ a o e=>.inl (h a o e)
theorem Lx.back (h:Lx K H H') (e:H' a=none):H a=none:=by
 cases q:H a with
 | none=>rfl
 | some o=>exact (h a o q).elim (λ z=>by rw [z] at e;cases e) λ z=>(z.2.2 e).elim
def Lx.dom (h:Lx K H H') (e:H a≠none):H' a≠none:=λ n=>e (h.back n)
def Le.back (h:Le H H') (e:H' a=none):H a=none:=(h.lx (K:=⟨[],[],λ _=>False⟩)).back e
def Le.dom (h:Le H H') (e:H a≠none):H' a≠none:=λ n=>e (h.back n)
def DU {o:HO} (h:H a=none):Le H (As H a o):=λ b u e=>by rw [AL (λ z=>by rw [z,h] at e;cases e)];exact e
def Lx.trans (h:Lx K H H') (k:K.Le K' H) (h':Lx K' H' H''):Lx K H H'':=λ a o e=>by
 rcases h a o e with z | ⟨s,so,d⟩
 ·rcases h' a o z with z' | ⟨s,so,d⟩
  ·exact .inl z'
  ·exact .inr ⟨k.nw a o e so s,so,d⟩
 ·exact .inr ⟨s,so,h'.dom d⟩
def Kx.Le.trans (k:K.Le K' H) (l:Lx K H H') (k':K'.Le K'' H'):K.Le K'' H:=by
 obtain ⟨r,e⟩:=k.lc;obtain ⟨r',e'⟩:=k'.lc;exact ⟨k'.kk.trans k.kk,⟨r++r',by rw [e',e,IY]⟩,λ a h=>k'.st a (k.st a h),λ a o e so h=>(l a o e).elim (λ z=>k.nw a o e so (k'.nw a o z so h)) λ z=>z.1⟩
theorem Nd.mono {R R':HO->Prop} (h:∀ o,Mo o->R o->R' o) (n:Nd R xs vs x):Nd R' xs vs x:=by
 cases x with
 | lst ys=>exact ⟨n.1,h (.lst _) trivial n.2⟩
 | dct kvs=>exact ⟨n.1,n.2.1,h (.dT _) trivial n.2.2⟩
 | dcl ks ys=>exact ⟨n.1,n.2.1,h (.dT _) trivial n.2.2⟩
 | _=>exact n
theorem Nd.get {R:HO->Prop} (n:Nd R xs vs x):∃ o,Mo o/\R o:=by
 cases x with
 | lst ys=>exact ⟨.lst _,trivial,n.2⟩
 | dct kvs=>exact ⟨.dT _,trivial,n.2.2⟩
 | dcl ks ys=>exact ⟨.dT _,trivial,n.2.2⟩
 | _=>exact n.elim
def Rd.ne {o:HO} (h:Rd H a o):H a≠none:=by
 rcases h with e | ⟨o,e⟩ <;> rw [e] <;> simp
def Mo.so {o:HO} (h:Mo o):¬ So o:=by cases o <;> first | exact h.elim | exact id
def Kp.any (k:Kp K Z H H') {o:HO} (h:H a=some o) (n:¬ Mo o) (s:So o->¬ K.st a) (f:∀ u kvs,o≠.frz u (.dT kvs)):H' a=some o:=by
 rcases k a o h with e | (⟨_,m⟩ | ⟨t,m⟩) | ⟨kvs,rfl | ⟨u,rfl⟩,_⟩
 ·exact e
 ·exact (n m).elim
 ·exact (s m t).elim
 ·exact (n trivial).elim
 ·exact (f u kvs rfl).elim
theorem Kp.rd (k:Kp K Z H H') {o:HO} (h:Rv H a o) (m:Mo o) (n:¬ Z a):Rv H' a o:=by
 cases o with
 | lst xs=>rcases k a _ h with e | (⟨z,_⟩ | ⟨_,s⟩) | ⟨kvs,e | ⟨u,e⟩,_⟩ <;> first | exact e | exact (n z).elim | exact s.elim | cases e
 | dT kvs=>
  rcases h with h | ⟨u,h⟩ <;> rcases k a _ h with e | (⟨z,_⟩ | ⟨_,s⟩) | ⟨kvs,e | ⟨u',e⟩,r⟩
  ·exact .inl e
  ·exact (n z).elim
  ·exact s.elim
  ·cases e;exact r
  ·cases e
  ·exact .inr ⟨u,e⟩
  ·exact (n z).elim
  ·exact s.elim
  ·cases e
  ·cases e;exact r
 | _=>exact m.elim
def Rv.ne {o:HO} (h:Rv H a o):H a≠none:=by
 cases o <;> first | exact Rd.ne h | (intro e;rw [show H a=_ from h] at e;cases e)
def Rv.of {o:HO} (h:H a=some o):Rv H a o:=by
 cases o <;> first | exact .inl h | exact h
def Rf.keep (k:Kp K Z H H') (l:K.Le K' H) (h:Rf K H a x):Rf K' H' a x:=by
 have st:∀ {o:HO},H a=some o->So o->¬ K.st a->¬ K'.st a:=λ e so n q=>n (l.nw a _ e so q);cases x <;> first
  | exact h.elim
  | exact ⟨st h.2 trivial h.1,k.any h.2 id (λ _=>h.1) λ _ _ z=>nomatch z⟩
  | (obtain ⟨n,kvs,h⟩:=h;exact ⟨st h trivial n,kvs,k.any h id (λ _=>n) λ _ _ z=>nomatch z⟩)
  | exact h.elim (λ ⟨o,h⟩=>.inl ⟨o,k.any h id (λ z=>z.elim) λ _ _ z=>nomatch z⟩) λ h=>.inr (by rw [l.kk];exact h)
  | (obtain ⟨C,e,h⟩:=h;exact ⟨C,by rw [l.kk];exact e,k.any h id (λ z=>z.elim) λ _ _ z=>nomatch z⟩)
  | (obtain ⟨r,e⟩:=l.lc;show K'.lc[_]?=_;rw [e,C9 (jb0.mp h).1];exact h)
theorem Is.move (k:Kp K Z H H') (l:K.Le K' H) (z:∀ a,Z' a->Z a\/H a=none) (h:Is K H Z x v):Is K' H' Z' x v:=by
 induction h using Is.rec (motive_2:=λ xs vs _=>IsL K' H' Z' xs vs) with
 | non=>exact .non
 | bl b=>exact .bl b
 | int i=>exact .int i
 | str x=>exact .str x
 | rf h=>exact .rf (h.keep k l)
 | tup h _ ih=>exact .tup (k.any h id (λ z=>z.elim) λ _ _ z=>nomatch z) ih
 | @nd x a xs vs n h _ ih=>
  obtain ⟨o,_,r⟩:=h.get;exact .nd (λ q=>(z a q).elim n (Rv.ne r)) (h.mono λ o m r=>k.rd r m n) ih
 | nil=>exact .nil
 | cons _ _ i1 i2=>exact .cons i1 i2
def IsL.move (k:Kp K Z H H') (l:K.Le K' H) (z:∀ a,Z' a->Z a\/H a=none) (h:IsL K H Z xs vs):IsL K' H' Z' xs vs:=L2.Paired.mapP h λ _ _ h=>h.move k l z
def Is.weak (z:∀ a,Z' a->Z a) (h:Is K H Z x v):Is K H Z' x v:=h.move Le.refl.kp .rf λ a q=>.inl (z a q)
def IsL.weak (z:∀ a,Z' a->Z a) (h:IsL K H Z xs vs):IsL K H Z' xs vs:=h.move Le.refl.kp .rf λ a q=>.inl (z a q)
def Is.up (k:Le H H') (h:Is K H Z x v):Is K H' Z x v:=h.move k.kp .rf λ a q=>.inl q
def IsL.up (k:Le H H') (h:IsL K H Z xs vs):IsL K H' Z xs vs:=h.move k.kp .rf λ a q=>.inl q
theorem Is.at (hx:Oh x=true) (h:Is K H Z x v):Is K H Z' x v:=by
 cases h with
 | rf h=>exact .rf h
 | tup h k=>cases hx
 | nd n h k=>cases x <;> first | exact h.elim | cases hx
 | _=>constructor
theorem IsL.at (hx:NX xs=true) (h:IsL K H Z xs ws):IsL K H Z' xs ws:=by
 induction h with
 | nil=>exact .nil
 | cons h _ ih=>
  unfold NX at hx;rw [AK] at hx;exact .cons (h.at hx.1) (ih hx.2)
theorem Is.lst (h:Is K H Z (.lst xs) v):∃ a vs,v=.ref a/\¬ Z a/\H a=some (.lst vs)/\IsL K H Z xs vs:=by
 cases h with
 | rf h=>exact h.elim
 | nd n h k=>obtain ⟨rfl,h⟩:=h;exact ⟨_,_,rfl,n,h,k⟩
theorem Is.tupE (h:Is K H Z (.tup xs) v):∃ a vs,v=.ref a/\H a=some (.tup vs)/\IsL K H Z xs vs:=by
 cases h with
 | rf h=>exact h.elim
 | nd n h k=>exact h.elim
 | tup h k=>exact ⟨_,_,rfl,h,k⟩
theorem Is.dcl {ks:List (List A2)} (h:Is K H Z (.dcl ks xs) v):∃ a vs,v=.ref a/\¬ Z a/\ks.length=xs.length/\Rd H a (.dT (ks.zip vs))/\IsL K H Z xs vs:=by
 cases h with
 | rf h=>exact h.elim
 | nd n h k=>obtain ⟨rfl,e,h⟩:=h;exact ⟨_,_,rfl,n,e,h,k⟩
theorem Is.dct {kvs:List (List A2×V)} (h:Is K H Z (.dct kvs) v):∃ a,v=.ref a/\¬ Z a/\Rd H a (.dT kvs):=by
 cases h with
 | rf h=>exact h.elim
 | nd n h k=>obtain ⟨_,_,h⟩:=h;exact ⟨_,rfl,n,h⟩
theorem Is.scr {ns:List Int} (h:Is K H Z (.scr ns) v):∃ a,v=.ref a/\Rf K H a (.scr ns):=by
 cases h with
 | rf h=>exact ⟨_,rfl,h⟩
 | nd n h k=>exact h.elim
theorem Is.emp (h:Is K H Z .emp v):∃ a,v=.ref a/\H a=some (.dK []):=by
 cases h with
 | rf h=>exact ⟨_,rfl,h.2⟩
 | nd n h k=>exact h.elim
def sV:PV->Option V
 | .non=>some .non
 | .bl b=>some (.bl b)
 | .int i=>some (.int i)
 | .str x=>some (.str x)
 | _=>none
theorem Is.sv {u:V} (e:sV x=some u) (h:Is K H Z x v):v=u:=by
 cases h with
 | rf h=>cases x <;> first | exact h.elim | cases e
 | nd n h k=>cases x <;> first | exact h.elim | cases e
 | tup h k=>cases e
 | _=>exact Option.some.inj e
def Is.ofs {u:V} (e:sV x=some u):Is K H Z x u:=by
 cases x <;> cases e <;> constructor
theorem Is.flat (hx:DD x=true) (h:Is K H Z x v):Is K H Z' x v:=by
 cases x with
 | tup xs=>obtain ⟨a,ws,rfl,h,l⟩:=h.tupE;exact .tup h (IsL.at hx l)
 | _=>exact h.at hx
theorem IsL.flat (hx:DV xs=true) (h:IsL K H Z xs ws):IsL K H Z' xs ws:=by
 induction h with
 | nil=>exact .nil
 | cons h _ ih=>
  unfold DV at hx;rw [AK] at hx;exact .cons (h.flat hx.1) (ih hx.2)
end
def AV:PV->Bool
 | .lst ys=>DV ys
 | _=>false
def tf:List PV->Bool
 | []=>true
 | x::xs=>(DD x || AV x) && tf xs
def El (K:Kx) (H:Hp) (Z G:Addr->Prop) (a:Addr) (t:Bool) (x:PV) (v:V):Prop:=
 ((t && AV x)=false/\Is K H Z x v)\/(t=true/\∃ r ys us,x=.lst ys/\DV ys=true/\v=.ref r/\r≠a/\G r/\H r=some (.lst us)/\IsL K H Z ys us)
def Ds (xs:List PV) (vs:List V):Prop:=∀ (i j:Nat) (r:Addr) (x y:PV),xs[i]?=some x->xs[j]?=some y->AV x=true->AV y=true->vs[i]?=some (V.ref r)->vs[j]?=some (V.ref r)->i=j
def Bn (d:Nat) (xs:List PV):Bool:=d == om && tf xs
def Ow (K:Kx) (H:Hp) (Z G:Addr->Prop) (d:Nat) (a:Addr) (x:PV):Prop:=
 ∃ xs vs,Nd (λ o=>H a=some o) xs vs x/\G a/\(∀ b,G b->∃ o,Mo o/\H b=some o)/\Bv (El K H Z G a (Bn d xs)) xs vs/\(Bn d xs=true->Ds xs vs)
def Bo (x:PV) (d:Nat):Bool:=Cg x && d != 0
def SV (K:Kx) (H:Hp) (Z G:Addr->Prop) (x:PV) (d:Nat) (v:V):Prop:=
 (Bo x d=false/\(∀ b,¬ G b)/\Is K H Z x v)\/(Bo x d=true/\∃ a,v=.ref a/\Ow K H Z G d a x)
section
variable {K K' K'':Kx}{H H' H'':Hp}{Z Z' G G':Addr->Prop}{x:PV}{v:V}{a:Addr}{xs ys:List PV}{vs ws:List V}{d:Nat}{t:Bool}
def XI (h:AV x=true):∃ ys,x=.lst ys/\DV ys=true:=by cases x <;> first | cases h | exact ⟨_,rfl,h⟩
def YF (h:AV x=true):DD x=false:=by obtain ⟨ys,rfl,_⟩:=XI h;rfl
def El.move (k:Kp K Z H H') (l:K.Le K' H) (kg:∀ b o,G b->b≠a->H b=some o->H' b=some o) (z:∀ a,Z' a->Z a\/H a=none) (gg:∀ b,G b->G' b) (h:El K H Z G a t x v):El K' H' Z' G' a t x v:=
 h.imp (λ ⟨e,h⟩=>⟨e,h.move k l z⟩) λ ⟨e,r,ys,us,e1,e2,e3,n,g,hr,h⟩=>⟨e,r,ys,us,e1,e2,e3,n,gg r g,kg r _ g n hr,h.move k l z⟩
def Ow.move (k:Kp K Z H H') (l:K.Le K' H) (kg:∀ a o,G a->H a=some o->H' a=some o) (z:∀ a,Z' a->Z a\/H a=none) (h:Ow K H Z G d a x):Ow K' H' Z' G d a x:=
 let ⟨xs,vs,n,ga,g,p,s⟩:=h;⟨xs,vs,n.mono λ o _=>kg a o ga,ga,λ b gb=>let ⟨o,m,e⟩:=g b gb;⟨o,m,kg b o gb e⟩,L2.Paired.mapP p λ _ _ h=>h.move k l (λ b o g _=>kg b o g) z λ _ g=>g,s⟩
def El.vw (n:∀ a,G a->¬ Z' a) (z:∀ a,Z' a->Z a) (h:El K H Z G a t x v):Is K H Z' x v:=by
 rcases h with ⟨_,h⟩ | ⟨_,r,ys,us,rfl,e,rfl,_,g,hr,h⟩
 ·exact h.weak z
 ·exact .nd (n r g) ⟨rfl,.of hr⟩ (h.weak z)
def Ow.vw (n:∀ a,G a->¬ Z' a) (z:∀ a,Z' a->Z a) (h:Ow K H Z G d a x):Is K H Z' x (.ref a):=
 let ⟨_,_,h,ga,_,p,_⟩:=h;.nd (n a ga) (h.mono λ _ _ e=>.of e) (L2.Paired.mapP p λ _ _ h=>h.vw n z)
def SV.move (k:Kp K Z H H') (l:K.Le K' H) (kg:∀ a o,G a->H a=some o->H' a=some o) (z:∀ a,Z' a->Z a\/H a=none) (h:SV K H Z G x d v):SV K' H' Z' G x d v:=
 h.imp (λ ⟨e,g,h⟩=>⟨e,g,h.move k l z⟩) λ ⟨e,a,ev,h⟩=>⟨e,a,ev,h.move k l kg z⟩
def SV.vw (n:∀ a,G a->¬ Z' a) (z:∀ a,Z' a->Z a) (h:SV K H Z G x d v):Is K H Z' x v:=by
 rcases h with ⟨_,_,h⟩ | ⟨_,a,rfl,h⟩
 ·exact h.weak z
 ·exact h.vw n z
def SV.dom {b:Addr} (h:SV K H Z G x d v) (g:G b):∃ o,Mo o/\H b=some o:=by
 rcases h with ⟨_,n,_⟩ | ⟨_,a,_,_,_,_,_,h,_⟩
 ·exact (n b g).elim
 ·exact h b g
theorem SV.el {Z0:Addr->Prop} (s:SV K H Z0 G x d v) (hd:d=om) (hx:(DD x || AV x)=true) (na:¬ G a):El K H Z G a true x v:=by
 cases hr:AV x with
 | false=>
  rw [hr,O4] at hx;exact .inl ⟨by rw [hr];rfl,(s.vw (Z':=λ _=>False) (λ _ _ h=>h) λ _ h=>h.elim).flat hx⟩
 | true=>
  obtain ⟨ys,rfl,e⟩:=XI hr;rcases s with ⟨q,_⟩ | ⟨_,r,rfl,zs,us,⟨rfl,h⟩,gr,_,p,_⟩
  ·rw [hd] at q;cases q
  ·exact .inr ⟨rfl,r,_,us,rfl,e,rfl,λ z=>na (z ▸ gr),gr,h,IsL.flat e (L2.Paired.mapP p λ _ _ h=>h.vw (Z':=λ _=>False) (λ _ _ h=>h) λ _ h=>h.elim)⟩
theorem zyz:∀ {xs:List PV},tf xs=true↔∀ x∈xs,(DD x || AV x)=true
 | []=>by simp [tf]
 | x::xs=>by unfold tf;rw [AK,zyz];simp
def SV.lst (hd:d≠0) (ha:H a=some (.lst vs)) (ga:G a) (g:∀ b,G b->∃ o,Mo o/\H b=some o) (p:Bv (El K H Z G a (Bn d xs)) xs vs) (ds:Bn d xs=true->Ds xs vs):SV K H Z G (.lst xs) d (.ref a):=
 .inr ⟨by simp [Bo,Cg,hd],a,rfl,xs,vs,⟨rfl,ha⟩,ga,g,p,ds⟩
theorem SV.own {a:Addr} (e:Bo x d=true) (n:Nd (λ o=>H a=some o) xs vs x) (l:IsL K H Z xs vs) (t:Bn d xs=true->∀ x∈xs,AV x=false):SV K H Z (λ b=>b=a) x d (.ref a):=by
 refine .inr ⟨e,a,rfl,xs,vs,n,rfl,λ b z=>by rw [z];exact n.get,?_,λ h i j r x y e1 _ r1=>by rw [t h x (OD e1)] at r1;cases r1⟩
 have:∀ x∈xs,(Bn d xs && AV x)=false:=λ x hx=>by
  cases e:Bn d xs with
  | false=>rfl
  | true=>rw [t e x hx];rfl
 clear t n e;revert this;generalize Bn d xs=b;intro this;induction l with
 | nil=>exact .nil
 | cons h _ ih=>exact .cons (.inl ⟨this _ AM,h⟩) (ih λ x hx=>this x (AO _ hx))
def T9 (K:Frag):Option Addr:=QN K "Desk"
def OAt (K:Kx) (H:Hp) (Z:Addr->Prop) (a:Addr):PV->Prop
 | .dks ks xs=>∃ vs,H a=some (.dK (ks.zip vs))/\ks.length=xs.length/\IsL K H Z xs vs
 | .ins fs xs=>∃ vs C dx,T9 K.K=some C/\H a=some (.ins C dx (fs.zip vs))/\H dx=some (.own a)/\K.st dx/\fs.length=xs.length/\IsL K H Z xs vs
 | _=>False
structure Sto (K:Kx) (H:Hp) (Z:Addr->Prop) (os:List PV):Prop where
 at':Bv (λ o a=>OAt K H Z a o/\K.st a) os K.lc
 nd:K.lc.Nodup
 st:∀ a,K.st a->∃ o,So o/\H a=some o
theorem OAt.move {o:PV} (k:Kp K Z H H') (l:K.Le K' H) (kg:∀ a o,K.st a->H a=some o->H' a=some o) (z:∀ a,Z' a->Z a\/H a=none) (ha:K.st a) (h:OAt K H Z a o):OAt K' H' Z' a o:=by
 cases o with
 | dks ks xs=>obtain ⟨vs,e,n,i⟩:=h;exact ⟨vs,kg a _ ha e,n,i.move k l z⟩
 | ins fs xs=>obtain ⟨vs,C,dx,c,e,e2,sd,n,i⟩:=h;exact ⟨vs,C,dx,by rw [l.kk];exact c,kg a _ ha e,kg dx _ sd e2,l.st _ sd,n,i.move k l z⟩
 | _=>exact h
def Sto.move {os:List PV} (k:Kp K Z H H') (kg:∀ a o,K.st a->H a=some o->H' a=some o) (z:∀ a,Z' a->Z a\/H a=none) (h:Sto K H Z os):Sto K H' Z' os:=
 ⟨L2.Paired.mapP h.at' λ _ _ h=>⟨h.1.move k .rf kg z h.2,h.2⟩,h.nd,λ a s=>let ⟨o,m,e⟩:=h.st a s;⟨o,m,kg a o s e⟩⟩
end
abbrev Slot:=Option (PV×Nat)
abbrev Af:=List Slot
inductive Rz (α:Type) where
 | ok (a:α) | exc (c:Nat) | no
def Rz.bind {α β:Type} (r:Rz α) (f:α->Rz β):Rz β:=match r with
 | .ok a=>f a
 | .exc c=>.exc c
 | .no=>.no
abbrev Fx:=Af->Rz (PV×Nat×Af)
abbrev Fa:=Af->Rz (List (PV×Nat)×Af)
abbrev Fb:=Af->Rz (Bool×Af)
structure Fm where
 K:Frag
 Z:Bool->Addr->Prop
 H₀:Hp
 W:St->Nat->Hp->Prop
 al:Nat->List Nat
 gh:Option Nat
 cl:Bool
 E:Kx
structure Os where
 ow:Nat->Addr->Prop
 lc:List Addr
 st:Addr->Prop
def Fm.k (M:Fm) (g:Os):Kx:=⟨M.K,g.lc,g.st⟩
def Cs (d:Nat):Bool:=d == om
def Fm.z (M:Fm) (g:Os) (vs:List Nat) (d:Nat):Addr->Prop:=λ a=>(∃ i,g.ow i a/\(d=om\/i∉vs))\/M.Z (Cs d) a
def VT (K:Kx) (Z:Addr->Prop) (H0 H:Hp) (x:PV) (d:Nat) (v:V):Prop:=∃ G,(∀ a,G a->H0 a=none)/\SV K H (λ a=>Z a\/G a) G x d v
structure Rep (M:Fm) (ρ:Af) (σ:St) (H:Hp) (g:Os):Prop where
 own:∀ i x d,ρ[i]?=some (some (x,d))->M.gh≠some i->∃ v,σ[i]?=some (some v)/\SV (M.k g) H (M.z g (M.al i) d) (g.ow i) x d v
 sto:∀ i,M.gh=some i->∃ os d,ρ[i]?=some (some (.sto os,d))/\Sto (M.k g) H (M.z g [] 0) os
 new:∀ i a,g.ow i a->M.H₀ a=none/\M.gh≠some i/\∃ p,ρ[i]?=some (some p)
 dj:∀ i j a,g.ow i a->g.ow j a->i=j
 st:∀ a,g.st a->H a≠none/\¬ M.Z true a/\∀ i,¬ g.ow i a
 h0:Lx M.E M.H₀ H
 le:M.E.Le (M.k g) M.H₀
 cl:M.cl=true->Le M.H₀ H
 ke:M.gh=none->M.k g=M.E
 nw:M.cl=false->∀ σ c H,¬ M.W σ c H
 zd:∀ b a,M.Z b a->M.H₀ a≠none
 zt:∀ a,M.Z false a->M.Z true a
 len:ρ.length=σ.length
section
variable {M:Fm}{ρ ρ1 ρ2 ρ':Af}{σ σ':St}{H H' H0 H1 H2:Hp}{g g1 g2:Os}{vs vs':List Nat}{K K':Kx}{Z Z' G:Addr->Prop}{x:PV}{d e:Nat}{v:V}{a:Addr}{z:Nat->Addr->Prop}
def VT.vw (hz:∀ a,Z a->H0 a≠none) (h:VT K Z H0 H x d v):Is K H Z x v:=let ⟨_,f,h⟩:=h;h.vw (λ a e q=>hz a q (f a e)) λ _ q=>.inl q
def VT.back (k:∀ a,H1 a=none->H0 a=none) (h:VT K Z H1 H x d v):VT K Z H0 H x d v:=let ⟨G,f,h⟩:=h;⟨G,λ a e=>k a (f a e),h⟩
def VT.weak (z:∀ a,Z' a->Z a) (h:VT K Z H0 H x d v):VT K Z' H0 H x d v:=let ⟨G,f,h⟩:=h;⟨G,f,h.move Le.refl.kp .rf (λ _ _ _ e=>e) λ a q=>.inl (q.imp (z a) id)⟩
def VT.of (e:Bo x d=false) (h:Is K H Z x v):VT K Z H0 H x d v:=⟨λ _=>False,λ _ z=>z.elim,.inl ⟨e,λ _ z=>z,h.weak λ _ q=>q.resolve_right id⟩⟩
def VT.at (h:Is K H Z x v):VT K Z H0 H x 0 v:=.of (by cases x <;> rfl) h
def VT.sv (e:sV x=some v):VT K Z H0 H x d v:=.of (by cases x <;> first | rfl | cases e) (.ofs e)
def VT.new {xs:List PV}{vs:List V} (hn:H0 a=none) (e:Bo x d=true) (n:Nd (λ o=>H a=some o) xs vs x) (l:IsL K H (λ b=>Z b\/b=a) xs vs) (t:Bn d xs=true->∀ x∈xs,AV x=false):VT K Z H0 H x d (.ref a):=
 ⟨λ b=>b=a,λ b z=>by rw [z];exact hn,.own e n l t⟩
def Fm.z_sub (hv:∀ i∈vs,i∈vs') (h:M.z g vs' d a):M.z g vs d a:=h.imp (λ ⟨i,e,q⟩=>⟨i,e,q.imp id λ n z=>n (hv i z)⟩) id
def Fm.z_ow (ho:∀ i a,g1.ow i a->g.ow i a) (h:M.z g1 vs d a):M.z g vs d a:=h.imp (λ ⟨i,e,q⟩=>⟨i,ho i a e,q⟩) id
def Fm.z_to (zt:∀ a,M.Z false a->M.Z true a) {e:Nat} (he:e=d\/e≠om) (h:M.z g vs e a):M.z g vs d a:=by
 rcases he with rfl | he
 ·exact h
 ·refine h.imp (λ ⟨i,q,n⟩=>⟨i,q,.inr (n.resolve_left he)⟩) λ h=>?_;rw [show Cs e=false from beq_false_of_ne he] at h;cases hd:Cs d with
  | false=>exact h
  | true=>exact zt a h
theorem Fm.z_om (zt:∀ a,M.Z false a->M.Z true a) (h:M.z g vs d a):M.z g vs' om a:=h.elim (λ ⟨i,e,_⟩=>.inl ⟨i,e,.inl rfl⟩) λ h=>.inr (by
 cases e:Cs d with
 | false=>rw [e] at h;exact zt a h
 | true=>rw [e] at h;exact h)
def Rep.owned (r:Rep M ρ σ H g) {i:Nat} (h:g.ow i a):∃ o,Mo o/\H a=some o:=by
 obtain ⟨_,n,⟨x,d⟩,e⟩:=r.new i a h;obtain ⟨v,_,s⟩:=r.own i x d e n;exact s.dom h
def Rep.zdom (r:Rep M ρ σ H g) (h:M.z g vs d a):H a≠none:=by
 rcases h with ⟨i,e,_⟩ | h
 ·obtain ⟨o,_,q⟩:=r.owned e;rw [q];simp
 ·exact r.h0.dom (r.zd _ a h)
def Rep.grow (r:Rep M ρ σ H g) (k:Le H H'):Rep M ρ σ H' g:=
 ⟨λ i x d e n=>let ⟨v,h,s⟩:=r.own i x d e n;⟨v,h,s.move k.kp .rf (λ a o _=>k a o) λ _ q=>.inl q⟩,λ i h=>let ⟨os,d,e,s⟩:=r.sto i h;⟨os,d,e,s.move k.kp (λ a o _=>k a o) λ _ q=>.inl q⟩,
  r.new,r.dj,λ a s=>⟨k.dom (r.st a s).1,(r.st a s).2⟩,r.h0.trans .rf k.lx,r.le,λ c=>(r.cl c).trans k,r.ke,r.nw,r.zd,r.zt,r.len⟩
def OutE {α:Type} (M:Fm) (σ:St) (H:Hp) (r:Rz α) (P:α->Prop):Prop:=match r with
 | .ok p=>P p
 | .exc c=>∀ H',Le H H'->M.W σ c H'
 | .no=>False
def EO (M:Fm) (g:Os) (vs:List Nat) (σ:St) (H:Hp) (ρ:Af) (r:Rz (PV×Nat×Af)) (Q:VK):Prop:=
 OutE M σ H r λ p=>p.2.2=ρ->∀ v H',Le H H'->VT (M.k g) (M.z g vs p.2.1) H H' p.1 p.2.1 v->Q v H'
def tE (M:Fm) (f:Fx) (vs:List Nat):TE:=λ σ H Q=>∃ ρ g,Rep M ρ σ H g/\EO M g vs σ H ρ (f ρ) Q
def VA (K:Kx) (z:Nat->Addr->Prop) (H:Hp):List (PV×Nat)->List V->(Addr->Prop)->Prop
 | [],[],G=>∀ a,¬ G a
 | (x,d)::ps,v::vs,G=>∃ G1 G2,(∀ a,G a↔G1 a\/G2 a)/\(∀ a,G1 a->¬ G2 a)/\SV K H (λ a=>z d a\/G1 a) G1 x d v/\VA K z H ps vs G2
 | _,_,_=>False
def tL (M:Fm) (f:Fa) (vs:List Nat):TA:=λ σ H Q=>∃ ρ g,Rep M ρ σ H g/\OutE M σ H (f ρ) λ p=>p.2=ρ->∀ ws H',Le H H'->(∃ G,(∀ a,G a->H a=none)/\VA (M.k g) (M.z g vs) H' p.1 ws G)->Q ws H'
def tT (M:Fm) (f:Fb):TT:=λ σ H Q=>∃ ρ g,Rep M ρ σ H g/\OutE M σ H (f ρ) λ p=>p.2=ρ->∀ H',Le H H'->Q p.1 H'
variable {f f':Fx}{fa:Fa}{fb gb:Fb}{Q:VK}{u:V}{G':Addr->Prop}{i:Nat}
theorem OutE.from {α:Type}{r:Rz α}{P:α->Prop} (k:Le H H1) (q:OutE M σ H r P):OutE M σ H1 r P:=by
 cases r with
 | exc c=>exact λ H' k'=>q H' (k.trans k')
 | _=>exact q
theorem OutE.mono {α:Type}{r:Rz α}{P P':α->Prop} (q:OutE M σ H r P) (h:∀ p,P p->P' p):OutE M σ H r P':=by
 cases r with
 | ok p=>exact h p q
 | _=>exact q
def EO.from {r:Rz (PV×Nat×Af)} (k:Le H H1) (q:EO M g vs σ H ρ r Q):EO M g vs σ H1 ρ r Q:=
 OutE.mono (OutE.from k q) λ _ q e v H' l t=>q e v H' (k.trans l) (t.back λ _=>k.back)
theorem EU {α:Type}{k:PV×Nat×Af->Rz α}{P:α->Prop}{Q1:VK} (rep:Rep M ρ σ H g) (q:OutE M σ H ((f ρ).bind k) P)
  (h:∀ x d v H1,Le H H1->Rep M ρ σ H1 g->VT (M.k g) (M.z g vs d) H H1 x d v->OutE M σ H (k (x,d,ρ)) P->Q1 v H1):tE M f vs σ H Q1:=by
 refine ⟨ρ,g,rep,?_⟩;revert q;cases f ρ with
 | ok p=>
  obtain ⟨x,d,ρ1⟩:=p;intro q (e:ρ1=ρ) v H1 l t;subst e;exact h x d v H1 l (rep.grow l) t q
 | _=>exact id
theorem Il {α:Type}{k:List (PV×Nat)×Af->Rz α}{P:α->Prop}{Q1:List V->Hp->Prop} (rep:Rep M ρ σ H g) (q:OutE M σ H ((fa ρ).bind k) P)
  (h:∀ xs ws H1 G,Le H H1->Rep M ρ σ H1 g->(∀ a,G a->H a=none)->VA (M.k g) (M.z g vs) H1 xs ws G->OutE M σ H (k (xs,ρ)) P->Q1 ws H1):tL M fa vs σ H Q1:=by
 refine ⟨ρ,g,rep,?_⟩;revert q;cases fa ρ with
 | ok p=>
  obtain ⟨xs,ρ1⟩:=p;intro q (e:ρ1=ρ) ws H1 l ⟨G,f,t⟩;subst e;exact h xs ws H1 G l (rep.grow l) f t q
 | _=>exact id
theorem K9 {α:Type}{k:Bool×Af->Rz α}{P:α->Prop}{Q1:Bool->Hp->Prop} (rep:Rep M ρ σ H g) (q:OutE M σ H ((fb ρ).bind k) P)
  (h:∀ b H1,Le H H1->Rep M ρ σ H1 g->OutE M σ H (k (b,ρ)) P->Q1 b H1):tT M fb σ H Q1:=by
 refine ⟨ρ,g,rep,?_⟩;revert q;cases fb ρ with
 | ok p=>
  obtain ⟨b,ρ1⟩:=p;intro q (e:ρ1=ρ) H1 l;subst e;exact h b H1 l (rep.grow l) q
 | _=>exact id
structure Zk (z:Nat->Addr->Prop) (H:Hp):Prop where
 dom:∀ d a,z d a->H a≠none
 to:∀ e d a,(e=d\/e≠om)->z e a->z d a
def Rep.zk (r:Rep M ρ σ H g):Zk (M.z g vs) H:=⟨λ _ _=>r.zdom,λ _ _ _=>Fm.z_to r.zt⟩
def Rep.vw (r:Rep M ρ σ H g) (t:VT (M.k g) (M.z g vs d) H H1 x e v):Is (M.k g) H1 (M.z g vs d) x v:=t.vw λ _=>r.zdom
def Leaf (K:Kx) (z:Nat->Addr->Prop) (H:Hp) (x:PV) (d:Nat) (Q:VK):Prop:=∀ u H',Le H H'->VT K (z d) H H' x d u->Q u H'
def bC (x:PV):Fx:=λ ρ=>.ok (x,om,ρ)
def MG (h:sV x=some u) (hq:tE M (bC x) [] σ H Q):tC u σ H Q:=by
 obtain ⟨ρ,g,rep,q⟩:=hq;exact q rfl u H Le.refl (.sv h)
def dv:PV->Nat
 | .lst _=>0
 | .tup _=>0
 | .dct _=>0
 | .dcl _ _=>0
 | _=>om
def Aa (i:Nat):Fx:=λ ρ=>match ρ[i]? with
 | some (some (x,_))=>.ok (x,dv x,ρ)
 | _=>.no
def Is.view {z:Nat->Addr->Prop} (hz:∀ a,z 0 a->Z a) (h:Is K H Z x v):VT K (z (dv x)) H0 H x (dv x) v:=by
 by_cases e:Oh x=true
 ·exact .of (by cases x <;> first | rfl | cases e) (h.at e)
 ·have:dv x=0:=by cases x <;> first | rfl | exact absurd rfl e
  rw [this];exact .at (h.weak hz)
def Rep.var (r:Rep M ρ σ H g) (hg:M.gh≠some i) (e:ρ[i]?=some (some (x,d))):∃ v,σ[i]?=some (some v)/\Is (M.k g) H (M.z g (i::M.al i) 0) x v:=by
 obtain ⟨v,hv,s⟩:=r.own i x d e hg;refine ⟨v,hv,s.vw (λ a ea z=>?_) λ a z=>Fm.z_to r.zt (.inr (by decide)) (Fm.z_sub (λ j hj=>AO _ hj) z)⟩;rcases z with ⟨j,ej,n⟩ | z
 ·exact n.elim (by decide) λ n=>n (by rw [r.dj j i a ej ea];exact AM)
 ·exact r.zd _ a z (r.new i a ea).1
def kK (hg:M.gh≠some i) (hq:tE M (Aa i) (i::M.al i) σ H Q):DJ i σ H Q:=by
 obtain ⟨ρ,g,rep,q⟩:=hq;unfold Aa at q;split at q
 ·rename_i x d e;obtain ⟨v,hv,s⟩:=rep.var hg e;exact ⟨v,hv,q rfl v H Le.refl (s.view λ _ q=>q)⟩
 ·exact q.elim
def Ab (op:PV->Nat->PV->Nat->Option (PV×Nat)) (f g:Fx):Fx:=λ ρ=>(f ρ).bind λ (x,d,ρ1)=>(g ρ1).bind λ (y,e,ρ2)=>match op x d y e with
 | some (z,c)=>.ok (z,c,ρ2)
 | none=>.no
def KQ {op:PV->Nat->PV->Nat->Option (PV×Nat)}{r:R2}
  (leaf:∀ (K:Kx) x d y e z c v w H Q (zz:Nat->Addr->Prop),K.K=M.K->op x d y e=some (z,c)->Zk zz H->Is K H (zz d) x v->Is K H (zz e) y w->Leaf K zz H z c Q->r v w H Q)
  (hq:tE M (Ab op f f') (vs++vs') σ H Q):JV r (tE M f vs) (tE M f' vs') σ H Q:=by
 obtain ⟨ρ,g,rep,q⟩:=hq;refine EU rep q λ x d v H1 l1 r1 t1 q=>EU r1 (EO.from l1 q) λ y e w H2 l2 r2 t2 q=>?_;dsimp only at q;split at q
 ·rename_i z c eo;exact leaf (M.k g) x d y e z c v w H2 Q (M.z g (vs++vs')) rfl eo r2.zk (((rep.vw t1).up l2).weak λ a=>Fm.z_sub λ i=>Ib _) ((r1.vw t2).weak λ a=>Fm.z_sub λ i=>CM _) λ u H' l t=>q rfl u H' (l2.trans l) (t.back λ _=>l2.back)
 ·exact q.elim
def AQ (op:PV->Nat->Option (PV×Nat)) (f:Fx):Fx:=λ ρ=>(f ρ).bind λ (x,d,ρ1)=>match op x d with
 | some (z,c)=>.ok (z,c,ρ1)
 | none=>.no
def LM {op:PV->Nat->Option (PV×Nat)}{r:V->Hp->VK->Prop}
  (leaf:∀ (K:Kx) x d z c v H Q (zz:Nat->Addr->Prop),K.K=M.K->op x d=some (z,c)->Zk zz H->Is K H (zz d) x v->Leaf K zz H z c Q->r v H Q)
  (hq:tE M (AQ op f) vs σ H Q):NL r (tE M f vs) σ H Q:=by
 obtain ⟨ρ,g,rep,q⟩:=hq;refine EU rep q λ x d v H1 l1 r1 t1 q=>?_;dsimp only at q;split at q
 ·rename_i z c eo;exact leaf (M.k g) x d z c v H1 Q _ rfl eo r1.zk (rep.vw t1) λ u H' l t=>q rfl u H' (l1.trans l) (t.back λ _=>l1.back)
 ·exact q.elim
def Ac:Fa:=λ ρ=>.ok ([],ρ)
def Ad (f:Fx) (fa:Fa):Fa:=λ ρ=>(f ρ).bind λ (x,d,ρ1)=>(fa ρ1).bind λ (xs,ρ2)=>.ok ((x,d)::xs,ρ2)
theorem VA.weak {z':Nat->Addr->Prop} (h:∀ d a,z' d a->z d a):∀ {ps:List (PV×Nat)}{vs:List V}{G:Addr->Prop},VA K z H ps vs G->VA K z' H ps vs G
 | [],[],_,t=>t
 | [],_::_,_,t=>t.elim
 | _::_,[],_,t=>t.elim
 | _::_,_::_,_,⟨G1,G2,e,n,s,t⟩=>⟨G1,G2,e,n,s.move Le.refl.kp .rf (λ _ _ _ e=>e) λ a q=>.inl (q.imp (h _ a) id),t.weak h⟩
theorem VA.vw:∀ {ps:List (PV×Nat)}{vs:List V}{G:Addr->Prop},VA K z H ps vs G->(∀ d a,z d a->¬ G a)->Bv (λ p v=>Is K H (z p.2) p.1 v) ps vs
 | [],[],_,_,_=>.nil
 | [],_::_,_,t,_=>t.elim
 | _::_,[],_,t,_=>t.elim
 | _::_,_::_,_,⟨G1,G2,e,_,s,t⟩,h=>.cons (s.vw (λ a g1 q=>h _ a q ((e a).mpr (.inl g1))) λ a q=>.inl q) (t.vw λ d a q g2=>h d a q ((e a).mpr (.inr g2)))
def kL {Q:List V->Hp->Prop} (hq:tL M Ac [] σ H Q):Hd σ H Q:=let ⟨_,_,_,q⟩:=hq;q rfl [] H Le.refl ⟨λ _=>False,λ _ h=>h.elim,λ _ h=>h⟩
def SV.weak (z:∀ a,Z' a->Z a) (h:SV K H Z G x d v):SV K H Z' G x d v:=h.move Le.refl.kp .rf (λ _ _ _ e=>e) λ a q=>.inl (z a q)
def SV.up (k:Le H H') (h:SV K H Z G x d v):SV K H' Z G x d v:=h.move k.kp .rf (λ a o _=>k a o) λ a q=>.inl q
def yJ {Q:List V->Hp->Prop} (hq:tL M (Ad f fa) (vs++vs') σ H Q):Ob (tE M f vs) (tL M fa vs') σ H Q:=by
 obtain ⟨ρ,g,rep,q⟩:=hq;refine EU rep q λ x d v H1 l1 r1 ⟨G1,f1,s1⟩ q=>?_;refine Il r1 (OutE.from l1 q) λ xs ws H2 G2 l2 r2 f2 t2 q=>q rfl (v::ws) H2 (l1.trans l2) ⟨λ a=>G1 a\/G2 a,λ a h=>h.elim (f1 a) λ h=>l1.back (f2 a h),G1,G2,λ _=>.rfl,λ a h1 h2=>?_,?_,?_⟩
 ·obtain ⟨o,_,e⟩:=s1.dom h1;rw [f2 a h2] at e;cases e
 ·exact (s1.up l2).weak λ a q=>q.imp (Fm.z_sub λ i=>Ib _) id
 ·exact t2.weak λ d a=>Fm.z_sub λ i=>CM _
def Ak (op:List (PV×Nat)->Option (PV×Nat)) (fa:Fa):Fx:=λ ρ=>(fa ρ).bind λ (xs,ρ1)=>match op xs with
 | some (z,c)=>.ok (z,c,ρ1)
 | none=>.no
def YM {op:List (PV×Nat)->Option (PV×Nat)}{r:List V->Hp->VK->Prop}
  (leaf:∀ (K:Kx) xs z c ws H0 H Q G (zz:Nat->Addr->Prop),K.K=M.K->op xs=some (z,c)->Zk zz H->(∀ d a,zz d a->H0 a≠none)->Le H0 H->(∀ a,G a->H0 a=none)->VA K zz H xs ws G->(∀ u H',Le H H'->VT K (zz c) H0 H' z c u->Q u H')->r ws H Q)
  (hq:tE M (Ak op fa) vs σ H Q):tL M fa vs σ H λ ws H1=>r ws H1 Q:=by
 obtain ⟨ρ,g,rep,q⟩:=hq;refine Il rep q λ xs ws H1 G l1 r1 f1 t1 q=>?_;dsimp only at q;split at q
 ·rename_i z c eo;exact leaf (M.k g) xs z c ws H H1 Q G _ rfl eo r1.zk (λ d a h=>rep.zdom h) l1 f1 t1 λ u H' l t=>q rfl u H' (l1.trans l) t
 ·exact q.elim
def XT {op:List (PV×Nat)->Option (PV×Nat)}{r:List V->Hp->VK->Prop}
  (leaf:∀ (K:Kx) xs z c ws H Q (zz:Nat->Addr->Prop),K.K=M.K->op xs=some (z,c)->Zk zz H->Bv (λ p v=>Is K H (zz p.2) p.1 v) xs ws->Leaf K zz H z c Q->r ws H Q)
  (hq:tE M (Ak op fa) vs σ H Q):tL M fa vs σ H λ ws H1=>r ws H1 Q:=
 YM (λ K xs z c ws _ H Q G zz hk ho zk hz hb hg t lf=>leaf K xs z c ws H Q zz hk ho zk (t.vw λ d a h g=>hz d a h (hg a g)) λ u H' l t=>lf u H' l (t.back λ _=>hb.back)) hq
def bT (f:Fx):Fb:=λ ρ=>(f ρ).bind λ (x,_,ρ1)=>match x with
 | .bl b=>.ok (b,ρ1)
 | _=>.no
def RL {Q:Bool->Hp->Prop} (hq:tT M (bT f) σ H Q):tB (tE M f vs) σ H Q:=by
 obtain ⟨ρ,g,rep,q⟩:=hq;refine EU rep q λ x d v H1 l1 r1 t1 q=>?_;cases x <;> first | exact q.elim | exact ⟨_,(rep.vw t1).sv rfl,q rfl H1 l1⟩
end
inductive Rs where
 | nx (ρ:Af) | rt (x:PV) (d:Nat) (ρ:Af) | bk (ρ:Af) | ct (ρ:Af) | exc (c:Nat) | no
abbrev Fs:=Af->Rs
structure FinR (M:Fm) (ρ:Af) (H:Hp) (g:Os):Prop where
 lx:Lx M.E M.H₀ H
 le:M.E.Le (M.k g) M.H₀
 cl:M.cl=true->Le M.H₀ H
 ke:M.gh=none->M.k g=M.E
 sto:∀ i,M.gh=some i->∃ os d,ρ[i]?=some (some (.sto os,d))/\Sto (M.k g) H (M.Z false) os
def RsOk (M:Fm) (D:Ends):Rs->Prop
 | .nx ρ'=>∀ σ' H' g',Rep M ρ' σ' H' g'->D.nx σ' H'
 | .bk ρ'=>∀ σ' H' g',Rep M ρ' σ' H' g'->D.bk σ' H'
 | .ct ρ'=>∀ σ' H' g',Rep M ρ' σ' H' g'->D.ct σ' H'
 | .rt x d ρ'=>∀ v H' g',FinR M ρ' H' g'->VT (M.k g') (M.Z (Cs d)) M.H₀ H' x d v->D.rt v H'
 | .exc c=>∀ σ' H',Le M.H₀ H'->M.W σ' c H'
 | .no=>False
def tS (M:Fm) (f:Fs):TS:=λ D σ H=>∃ ρ g,Rep M ρ σ H g/\RsOk M D (f ρ)
def AB:Fs:=λ ρ=>.nx ρ
def Ag (f g:Fs):Fs:=λ ρ=>match f ρ with
 | .nx ρ1=>g ρ1
 | r=>r
def Bm (c:Fb) (f g:Fs):Fs:=λ ρ=>match c ρ with
 | .ok (b,ρ1)=>if b=true then f ρ1 else g ρ1
 | .exc e=>.exc e
 | .no=>.no
def cool (vs:List Nat):Nat->Af->Af
 | _,[]=>[]
 | k,s::r=>(if vs.contains k then s.map λ p=>(p.1,0) else s)::cool vs (k + 1) r
def Bb (d:Nat) (vs:List Nat) (ρ:Af):Af:=if d=om then ρ else cool vs 0 ρ
theorem Ik (vs:List Nat):∀ (ρ:Af) (k i:Nat),(cool vs k ρ)[i]?=(ρ[i]?).map λ s=>if vs.contains (k + i) then s.map λ p=>(p.1,0) else s
 | [],k,i=>by simp [cool]
 | s::r,k,0=>by simp [cool]
 | s::r,k,i + 1=>by
  have:=Ik vs r (k + 1) i
  rw [show k + 1 + i=k + (i + 1) by omega] at this;simpa [cool] using this
theorem MM (vs:List Nat):∀ (ρ:Af) (k:Nat),(cool vs k ρ).length=ρ.length
 | [],_=>rfl
 | s::r,k=>by simp [cool,MM vs r]
section
variable {M:Fm}{ρ ρ':Af}{σ σ':St}{H H' H0 H1:Hp}{g g' g1:Os}{vs vs':List Nat}{K:Kx}{Z Z' G G':Addr->Prop}{x:PV}{d i:Nat}{v:V}{a:Addr}{f f':Fx}{fa:Fa}{fb:Fb}{D:Ends}{R:Rs}
def Rep.fin (r:Rep M ρ σ H g):FinR M ρ H g:=⟨r.h0,r.le,r.cl,r.ke,λ i h=>let ⟨os,d,e,s⟩:=r.sto i h;⟨os,d,e,s.move Le.refl.kp (λ _ _ _ e=>e) λ a q=>.inl (.inr q)⟩⟩
theorem Rep.exc {c:Nat} (r:Rep M ρ σ H g) (q:RsOk M D (.exc c)) (l:Le H H'):M.W σ' c H':=by
 cases e:M.cl with
 | true=>exact q σ' H' ((r.cl e).trans l)
 | false=>exact (r.nw e _ _ _ (q σ' _ Le.refl)).elim
theorem BV {Q1:VK} (rep:Rep M ρ σ H g) (q:RsOk M D R) (hx:∀ c,f ρ=.exc c->R=.exc c) (hn:f ρ=.no->R=.no) (h:∀ x d v H1,f ρ=.ok (x,d,ρ)->Le H H1->Rep M ρ σ H1 g->VT (M.k g) (M.z g vs d) H H1 x d v->Q1 v H1):tE M f vs σ H Q1:=by
 refine ⟨ρ,g,rep,?_⟩;unfold EO;cases e:f ρ with
 | no=>rw [hn e] at q;exact q
 | exc c=>rw [hx c e] at q;exact λ H' k=>rep.exc q k
 | ok p=>
  obtain ⟨x,d,ρ1⟩:=p;intro (e1:ρ1=ρ) v H1 l t;subst e1;exact h x d v H1 e l (rep.grow l) t
theorem Ub {Q1:List V->Hp->Prop} (rep:Rep M ρ σ H g) (q:RsOk M D R) (hx:∀ c,fa ρ=.exc c->R=.exc c) (hn:fa ρ=.no->R=.no) (h:∀ xs ws H1 G,fa ρ=.ok (xs,ρ)->Le H H1->Rep M ρ σ H1 g->(∀ a,G a->H a=none)->VA (M.k g) (M.z g vs) H1 xs ws G->Q1 ws H1):tL M fa vs σ H Q1:=by
 refine ⟨ρ,g,rep,?_⟩;cases e:fa ρ with
 | no=>rw [hn e] at q;exact q
 | exc c=>rw [hx c e] at q;exact λ H' k=>rep.exc q k
 | ok p=>
  obtain ⟨xs,ρ1⟩:=p;intro (e1:ρ1=ρ) ws H1 l ⟨G,f,t⟩;subst e1;exact h xs ws H1 G e l (rep.grow l) f t
theorem Mt {Q1:Bool->Hp->Prop} (rep:Rep M ρ σ H g) (q:RsOk M D R) (hx:∀ c,fb ρ=.exc c->R=.exc c) (hn:fb ρ=.no->R=.no) (h:∀ b H1,fb ρ=.ok (b,ρ)->Le H H1->Rep M ρ σ H1 g->Q1 b H1):tT M fb σ H Q1:=by
 refine ⟨ρ,g,rep,?_⟩;cases e:fb ρ with
 | no=>rw [hn e] at q;exact q
 | exc c=>rw [hx c e] at q;exact λ H' k=>rep.exc q k
 | ok p=>
  obtain ⟨b,ρ1⟩:=p;intro (e1:ρ1=ρ) H1 l;subst e1;exact h b H1 e l (rep.grow l)
def kR (hq:tS M AB D σ H):Wf D σ H:=let ⟨_,g,r,q⟩:=hq;q σ H g r
theorem kU {f g:Fs} (hq:tS M (Ag f g) D σ H):Lk (tS M f) (tS M g) D σ H:=by
 obtain ⟨ρ,g',rep,q⟩:=hq;refine ⟨ρ,g',rep,?_⟩;unfold Ag at q;revert q;cases f ρ with
 | nx ρ1=>exact λ q σ' H' g' r=>⟨ρ1,g',r,q⟩
 | _=>exact id
def js {c:Fb}{f g:Fs} (hq:tS M (Bm c f g) D σ H):Lp (tT M c) (tS M f) (tS M g) D σ H:=by
 obtain ⟨ρ,g',rep,q⟩:=hq;unfold Bm at q;refine Mt rep q (λ _ e=>by rw [e]) (λ e=>by rw [e]) λ b H1 e _ r=>?_;rw [e] at q;cases b
 ·exact ⟨ρ,g',r,q⟩
 ·exact ⟨ρ,g',r,q⟩
def Rep.with (r:Rep M ρ σ H g) (k:Kp (M.k g) (λ a=>M.z g [] 0 a) H H') (ks:∀ a o,g.st a->H a=some o->H' a=some o) (kc:Lx M.E M.H₀ H') (cl:M.cl=true->Le M.H₀ H')
  (hst:g1.st=g.st) (hlc:g1.lc=g.lc) (hz:∀ a,M.z g1 [] 0 a->M.z g [] 0 a\/H a=none) (hl:ρ'.length=ρ.length) (hl':σ'.length=σ.length) (hgh:∀ i,M.gh=some i->ρ'[i]?=ρ[i]?\/∃ os d d',ρ[i]?=some (some (.sto os,d))/\ρ'[i]?=some (some (.sto os,d')))
  (own:∀ i x d,ρ'[i]?=some (some (x,d))->M.gh≠some i->∃ v,σ'[i]?=some (some v)/\SV (M.k g1) H' (M.z g1 (M.al i) d) (g1.ow i) x d v)
  (new:∀ i a,g1.ow i a->M.H₀ a=none/\M.gh≠some i/\∃ p,ρ'[i]?=some (some p)) (dj:∀ i j a,g1.ow i a->g1.ow j a->i=j) (st:∀ i a,g1.ow i a->¬ g.st a):Rep M ρ' σ' H' g1:=by
 have ek:M.k g1=M.k g:=by unfold Fm.k;rw [hst,hlc]
 refine ⟨own,λ i h=>?_,new,dj,λ a s=>?_,kc,by rw [ek];exact r.le,cl,λ h=>ek.trans (r.ke h),r.nw,r.zd,r.zt,by rw [hl,hl'];exact r.len⟩
 ·obtain ⟨os,d,e,s⟩:=r.sto i h;rw [ek];have s':Sto (M.k g) H' (M.z g1 [] 0) os:=s.move k ks hz;rcases hgh i h with q | ⟨os1,d1,d',e1,e2⟩
  ·exact ⟨os,d,q.trans e,s'⟩
  ·rw [e1] at e;cases e;exact ⟨_,d',e2,s'⟩
 ·rw [hst] at s;refine ⟨?_,(r.st a s).2.1,λ i h=>st i a h s⟩;cases e:H a with
  | none=>exact absurd e (r.st a s).1
  | some o=>rw [ks a o s e];simp
def SV.cong (e:∀ a,G' a↔G a) (h:SV K H Z G x d v):SV K H Z G' x d v:=by rw [show G'=G from funext λ a=>propext (e a)];exact h
def bJ:(Bb d vs ρ).length=ρ.length:=by
 unfold Bb;split
 ·rfl
 ·exact MM vs ρ 0
def Rep.cooled (r:Rep M ρ σ H g) (hal:∀ i,M.al i=[]) (d:Nat) (vs:List Nat):∃ g1,Rep M (Bb d vs ρ) σ H g1/\M.k g1=M.k g/\∀ i a,g1.ow i a->g.ow i a/\(d=om\/i∉vs):=by
 by_cases hd:d=om
 ·exact ⟨g,by unfold Bb;rw [if_pos hd];exact r,rfl,λ i a e=>⟨e,.inl hd⟩⟩
 ·have e:Bb d vs ρ=cool vs 0 ρ:=by unfold Bb;rw [if_neg hd]
  rw [e];have ls:∀ i a,(i∉vs/\g.ow i a)->g.ow i a:=λ i a h=>h.2;have zs:∀ {c e:Nat}{a:Addr},(e=c\/e≠om)->M.z ⟨λ i a=>i∉vs/\g.ow i a,g.lc,g.st⟩ [] e a->M.z g [] c a:=λ {c e a} he q=>Fm.z_to r.zt he (Fm.z_ow ls q);refine ⟨⟨λ i a=>i∉vs/\g.ow i a,g.lc,g.st⟩,r.with Le.refl.kp (λ _ _ _ e=>e) r.h0 r.cl rfl rfl (λ a q=>.inl (zs (.inl rfl) q)) (MM vs ρ 0) rfl (λ i h=>?_) (λ i y e h hg=>?_) (λ i a h=>?_) (λ i j a h h'=>r.dj i j a h.2 h'.2) (λ i a h s=>(r.st a s).2.2 i h.2),rfl,λ i a h=>⟨h.2,.inr h.1⟩⟩
  ·obtain ⟨os,d',e',_⟩:=r.sto i h;rw [Ik,e',Hq];by_cases hi:vs.contains i=true
   ·exact .inr ⟨os,d',0,rfl,by rw [O8,if_pos hi];rfl⟩
   ·exact .inl (by rw [O8,if_neg hi])
  ·rw [Ik,Hq,jc0] at h;obtain ⟨s,es,h⟩:=h;by_cases hi:vs.contains i=true
   ·rw [if_pos hi] at h;cases s with
    | none=>cases h
    | some p=>
     obtain ⟨z,c⟩:=p;cases h;obtain ⟨v,hv,s⟩:=r.own i z c es hg;refine ⟨v,hv,.inl ⟨by cases z <;> rfl,λ b q=>q.1 (by simpa using hi),s.vw (λ a ea q=>?_) λ a q=>by rw [hal];exact zs (e:=0) (.inr (by decide)) (by rw [hal] at q;exact q)⟩⟩;rcases q with ⟨j,ej,_⟩ | q
     ·exact ej.1 (by rw [r.dj j i a ej.2 ea];simpa using hi)
     ·exact r.zd _ a q (r.new i a ea).1
   ·rw [if_neg hi] at h;obtain ⟨v,hv,s⟩:=r.own i y e (by rw [es,h]) hg;have hi':i∉vs:=by simpa using hi
    exact ⟨v,hv,(SV.weak (λ a q=>by rw [hal];rw [hal] at q;exact zs (.inl rfl) q) s).cong λ a=>⟨λ h=>h.2,λ h=>⟨hi',h⟩⟩⟩
  ·obtain ⟨n,hg,p,e⟩:=r.new i a h.2;refine ⟨n,hg,p,?_⟩;rw [Ik,e,Hq,O8,if_neg (by simpa using h.1)]
def Fm.zN (M:Fm) (g:Os) (i d:Nat):Addr->Prop:=λ a=>(∃ j,j≠i/\g.ow j a/\(d=om\/j∉M.al i))\/M.Z (Cs d) a
def Fm.zN_z (h:M.zN g i d a):M.z g (M.al i) d a:=h.imp (λ ⟨j,_,h⟩=>⟨j,h⟩) id
def Rep.write (r:Rep M ρ σ H0 g) (k:Le H0 H) (hk:∀ a o,H a=some o->H' a=some o\/(g.ow i a/\H' a≠none)) (hi:i < ρ.length) (hg:M.gh≠some i) (hal:H'=H\/∀ i,M.al i=[])
  (hG:∀ a,G' a->g.ow i a\/H0 a=none) (s:SV (M.k g) H' Z G' x d v) (hz:∀ a,M.zN g i d a\/G' a->Z a):Rep M (ρ.set i (some (x,d))) (σ.set i (some v)) H' ⟨λ j a=>(j=i/\G' a)\/(j≠i/\g.ow j a),g.lc,g.st⟩:=by
 have hk0:∀ a o,H0 a=some o->H' a=some o\/(g.ow i a/\H' a≠none):=λ a o e=>hk a o (k a o e);have old:∀ a o,¬ g.ow i a->H0 a=some o->H' a=some o:=λ a o n e=>(hk0 a o e).resolve_right λ h=>n h.1;have kp:∀ {al:List Nat}{c:Nat},(H'=H\/al=[])->Kp (M.k g) (M.z g al c) H0 H':=λ {al c} ha a o e=>by
  rcases ha with ha | ha
  ·exact .inl (by rw [ha];exact k a o e)
  ·rcases hk0 a o e with h | ⟨h,n⟩
   ·exact .inl h
   ·obtain ⟨o',m,e'⟩:=r.owned h;rw [e] at e';cases e';exact .inr (.inl (.inl ⟨.inl ⟨i,h,.inr (by rw [ha];simp)⟩,m⟩))
 have h0:∀ a o,M.H₀ a=some o->H0 a=some o->H' a=some o:=λ a o e e'=>old a o (λ q=>by rw [(r.new i a q).1] at e;cases e) e';have new:∀ a,G' a->M.H₀ a=none:=λ a h=>(hG a h).elim (λ h=>(r.new i a h).1) λ h=>r.h0.back h;have hσ:i < σ.length:=by rw [<- r.len];exact hi
 refine r.with (kp (.inr rfl)) (λ a o s=>old a o λ q=>(r.st a s).2.2 i q) (λ a o e=>?_) (λ c a o e=>h0 a o e (r.cl c a o e)) rfl rfl (λ a q=>?_) (EI ..) (EI ..) (λ j h=>.inl (Gf λ z=>hg (by rw [z];exact h))) (λ j y e h gj=>?_) (λ j a h=>?_) (λ j l a h h'=>?_) (λ j a h s=>?_)
 ·rcases r.h0 a o e with q | ⟨s1,so,q⟩
  ·exact .inl (h0 a o e q)
  ·refine .inr ⟨s1,so,?_⟩;cases e1:H0 a with
   | none=>exact absurd e1 q
   | some o1=>exact (hk0 a o1 e1).elim (λ h=>by rw [h];simp) λ h=>h.2
 ·rcases q with ⟨j,⟨_,ej⟩ | ⟨_,ej⟩,n⟩ | q
  ·exact (hG a ej).elim (λ h=>.inl (.inl ⟨i,h,.inr (by simp)⟩)) .inr
  ·exact .inl (.inl ⟨j,ej,n⟩)
  ·exact .inl (.inr q)
 ·by_cases hj:j=i
  ·subst hj;rw [Gh hi] at h;cases h;refine ⟨v,Gh hσ,?_⟩;exact (SV.weak (λ a q=>hz a (by
    rcases q with ⟨l,⟨_,el⟩ | ⟨hl,el⟩,n⟩ | q
    ·exact .inr el
    ·exact .inl (.inl ⟨l,hl,el,n⟩)
    ·exact .inl (.inr q))) s).cong λ a=>⟨λ h=>h.elim (λ h=>h.2) λ h=>(h.1 rfl).elim,λ h=>.inl ⟨rfl,h⟩⟩
  ·rw [Gf (Dw hj)] at h;obtain ⟨w,hw,t⟩:=r.own j y e h gj;refine ⟨w,by rw [Gf (Dw hj)];exact hw,?_⟩;refine SV.cong (λ a=>⟨λ h=>h.elim (λ h=>(hj h.1).elim) λ h=>h.2,λ h=>.inr ⟨hj,h⟩⟩) (t.move (kp (hal.imp id λ h=>h j)) .rf (λ a o q=>old a o λ q'=>hj (r.dj j i a q q')) λ a q=>?_);rcases q with ⟨l,⟨rfl,ej⟩ | ⟨_,ej⟩,n⟩ | q
   ·exact (hG a ej).elim (λ h=>.inl (.inl ⟨_,h,n⟩)) .inr
   ·exact .inl (.inl ⟨l,ej,n⟩)
   ·exact .inl (.inr q)
 ·rcases h with ⟨rfl,h⟩ | ⟨hj,h⟩
  ·exact ⟨new a h,hg,_,Gh hi⟩
  ·obtain ⟨n,gj,p,e⟩:=r.new j a h;exact ⟨n,gj,p,by rw [Gf (Dw hj)];exact e⟩
 ·have no:∀ {m:Nat},m≠i->G' a->g.ow m a->False:=λ {m} hm e e'=>(hG a e).elim (λ h=>hm (r.dj m i a e' h)) λ h=>by obtain ⟨u,_,q⟩:=r.owned e';rw [h] at q;cases q
  rcases h with ⟨rfl,h⟩ | ⟨hj,h⟩ <;> rcases h' with ⟨rfl,h'⟩ | ⟨hl,h'⟩
  ·rfl
  ·exact (no hl h h').elim
  ·exact (no hj h' h).elim
  ·exact r.dj j l a h h'
 ·rcases h with ⟨rfl,h⟩ | ⟨hj,h⟩
  ·exact (hG a h).elim (λ h=>(r.st a s).2.2 _ h) λ h=>(r.st a s).1 h
  ·exact (r.st a s).2.2 j h
def JF (h:∀ i a,g1.ow i a->g.ow i a/\(d=om\/i∉vs)) (zt:∀ a,M.Z false a->M.Z true a) {c:Nat}{us:List Nat} (hc:c=d\/c≠om) (q:M.z g1 us c a):M.z g vs d a:=
 q.elim (λ ⟨j,ej,_⟩=>.inl ⟨j,h j a ej⟩) λ q=>(Fm.z_to (g:=⟨λ _ _=>False,[],λ _=>False⟩) (vs:=[]) zt hc (.inr q)).elim (λ ⟨_,e,_⟩=>e.elim) .inr
def Aj (ms:Bool) (i:Nat) (f:Fx) (vs:List Nat):Fs:=λ ρ=>match f ρ with
 | .ok (x,d,ρ1)=>if i < ρ1.length/\(ms=true->d=om) then .nx ((Bb d vs ρ1).set i (some (x,d))) else .no
 | .exc c=>.exc c
 | .no=>.no
def RK {ms:Bool} (hal:∀ i,M.al i=[]) (hg:M.gh≠some i) (hq:tS M (Aj ms i f vs) D σ H):Ff (tE M f vs) (GR i) D σ H:=by
 obtain ⟨ρ,g,rep,q⟩:=hq;unfold Aj at q;refine BV rep q (λ _ e=>by rw [e]) (λ e=>by rw [e]) λ x d v H1 e l r ⟨G,hn,s⟩=>?_;rw [e] at q;dsimp only at q;split at q
 ·rename_i hc;obtain ⟨g1,r1,ek,h1⟩:=rep.cooled hal d vs;exact q _ _ _ (r1.write l (λ a o e=>.inl e) (by rw [bJ];exact hc.1) hg (.inl rfl) (λ a h=>.inr (hn a h)) (ek ▸ s) λ a q=>q.imp (λ h=>JF h1 rep.zt (.inl rfl) (Fm.zN_z h)) id)
 ·exact q.elim
def Az (f:Fx):Fs:=λ ρ=>match f ρ with
 | .ok (x,d,ρ1)=>.rt x d ρ1
 | .exc c=>.exc c
 | .no=>.no
def kT (hq:tS M (Az f) D σ H):IG (tE M f vs) D σ H:=by
 obtain ⟨ρ,g,rep,q⟩:=hq;unfold Az at q;refine BV rep q (λ _ e=>by rw [e]) (λ e=>by rw [e]) λ x d v H1 e l r t=>?_;rw [e] at q;exact q v H1 g r.fin ((t.weak λ a q=>.inr q).back λ _=>rep.h0.back)
def DY (i:Nat):Fs:=λ ρ=>match ρ[i]? with
 | some (some (x,d))=>.rt x d ρ
 | _=>.no
def yv (hal:∀ i,M.al i=[]) (hg:M.gh≠some i) (hq:tS M (DY i) D σ H):IG (DJ i) D σ H:=by
 obtain ⟨ρ,g,rep,q⟩:=hq;unfold DY at q;split at q
 ·rename_i x d e;obtain ⟨v,hv,s⟩:=rep.own i x d e hg;refine ⟨v,hv,q v H g rep.fin ⟨g.ow i,λ a ea=>(rep.new i a ea).1,s.weak λ a q=>?_⟩⟩;rcases q with q | q
  ·exact .inr q
  ·exact .inl ⟨i,q,by rw [hal];exact .inr (by simp)⟩
 ·exact q.elim
def Wb:Fs:=λ ρ=>.rt .non om ρ
def yu (hq:tS M Wb D σ H):Wi D σ H:=let ⟨_,g,r,q⟩:=hq;q _ H g r.fin (.sv rfl)
def CF (f:Fx):Fs:=λ ρ=>match f ρ with
 | .ok (_,_,ρ1)=>.nx ρ1
 | .exc c=>.exc c
 | .no=>.no
def yK (hq:tS M (CF f) D σ H):Oc (tE M f vs) D σ H:=by
 obtain ⟨ρ,g,rep,q⟩:=hq;unfold CF at q;refine BV rep q (λ _ e=>by rw [e]) (λ e=>by rw [e]) λ x d v H1 e l r t=>?_;rw [e] at q;exact q σ H1 g r
def IsL.length {xs:List PV}{ws:List V} (h:IsL K H Z xs ws):ws.length=xs.length:=(Paired.length h).symm
theorem Paired.append {α β:Type}{F:α->β->Prop}:∀ {xs ys:List α}{us ws:List β},Bv F xs us->Bv F ys ws->Bv F (xs++ys) (us++ws)
 | _,_,_,_,.nil,s=>s
 | _,_,_,_,.cons r t,s=>.cons r (Paired.append t s)
theorem Paired.set {α β:Type}{F:α->β->Prop}{x:α}{u:β} (r:F x u):∀ {xs:List α}{us:List β} (i:Nat),Bv F xs us->Bv F (xs.set i x) (us.set i u)
 | _,_,_,.nil=>.nil
 | _,_,0,.cons _ t=>.cons r t
 | _,_,i + 1,.cons q t=>.cons q (Paired.set r i t)
def Rep.list {xs:List PV} (r:Rep M ρ σ H g) (hg:M.gh≠some i) (e:ρ[i]?=some (some (.lst xs,d))) (hd:d≠0):∃ a,σ[i]?=some (some (.ref a))/\g.ow i a/\∃ ws,H a=some (.lst ws)/\Bv (El (M.k g) H (M.z g (M.al i) d) (g.ow i) a (Bn d xs)) xs ws/\(Bn d xs=true->Ds xs ws):=by
 obtain ⟨v,hv,s⟩:=r.own i _ d e hg;rcases s with ⟨q,_⟩ | ⟨_,a,rfl,ys,ws,⟨rfl,h⟩,ga,_,p,ds⟩
 ·exact absurd q (by unfold Bo;simp [Cg,hd])
 ·exact ⟨a,hv,ga,ws,h,p,ds⟩
def Cf (i:Nat) (f:Fx) (vs:List Nat):Fs:=λ ρ=>match ρ[i]? with
 | some (some (.lst _,0))=>.no
 | some (some (.lst _,_ + 1))=>(match f ρ with
  | .ok (y,e,ρ1)=>(match (Bb e vs ρ1)[i]? with
   | some (some (.lst xs,d))=>if d≠0/\xs.length < Aw then .nx ((Bb e vs ρ1).set i (some (.lst (xs++[y]),if d=om/\e=om then om else 1))) else .no
   | _=>.no)
  | .exc c=>.exc c
  | .no=>.no)
 | _=>.no
def zwo {xs:List PV}:Bn d xs=true↔d=om/\tf xs=true:=by unfold Bn;rw [AK,beq_iff_eq]
def qd9 {xs ys:List PV}:tf (xs++ys)=true↔tf xs=true/\tf ys=true:=by
 rw [zyz,zyz,zyz];exact ⟨λ h=>⟨λ x hx=>h x (Ib _ hx),λ x hx=>h x (CM _ hx)⟩,λ h x hx=>(jg8.mp hx).elim (h.1 x) (h.2 x)⟩
def El.seen {a:Addr}{t:Bool}{xs:List PV}{ws:List V} (p:Bv (El K H Z G a t) xs ws) (n:∀ b,G b->b≠a->¬ Z' b) (z:∀ a,Z' a->Z a):IsL K H Z' xs ws:=
 L2.Paired.mapP p λ _ _ h=>by
  rcases h with ⟨_,h⟩ | ⟨_,r,ys,us,rfl,e,rfl,na,g,hr,h⟩
  ·exact h.weak z
  ·exact .nd (n r g na) ⟨rfl,.of hr⟩ (h.weak z)
def Ds.app {xs:List PV}{y:PV}{ws:List V}{w:V} (hl:ws.length=xs.length) (h:Ds xs ws) (n:∀ (i:Nat) (r:Addr) (x:PV),xs[i]?=some x->AV x=true->AV y=true->ws[i]?=some (V.ref r)->w≠.ref r):Ds (xs++[y]) (ws++[w]):=by
 have sp:∀ {k:Nat}{z:PV}{r:Addr},(xs++[y])[k]?=some z->(ws++[w])[k]?=some (V.ref r)->(xs[k]?=some z/\ws[k]?=some (V.ref r))\/(k=xs.length/\z=y/\w=.ref r):=λ {k z r} e h=>by
  rcases Nat.lt_trichotomy k xs.length with q | q | q
  ·rw [C9 (by omega)] at e h;exact .inl ⟨e,h⟩
  ·subst q;rw [FG (A4 _)] at e;rw [FG (by omega)] at h;simp [hl] at e h;exact .inr ⟨rfl,e.symm,h⟩
  ·rw [Fh (by simp;omega)] at e;cases e
 intro i j r x z e1 e2 r1 r2 h1 h2;rcases sp e1 h1 with ⟨e3,h3⟩ | ⟨q1,e3,h3⟩ <;> rcases sp e2 h2 with ⟨e4,h4⟩ | ⟨q2,e4,h4⟩
 ·exact h i j r x z e3 e4 r1 r2 h3 h4
 ·exact (n i r x e3 r1 (e4 ▸ r2) h3 h4).elim
 ·exact (n j r z e4 r2 (e3 ▸ r1) h4 h3).elim
 ·exact q1.trans q2.symm
theorem Pu {α:Type}:∀ {l:List α}{i:Nat}{x:α},l[i]?=some x->l.set i x=l
 | [],_,_,_=>rfl
 | _::_,0,_,e=>by cases e;rfl
 | _::l,i + 1,_,e=>congrArg _ (Pu (l:=l) (by simpa using e))
def El.row {a:Addr}{y:PV}{w:V} (h:El K H Z G a true y w) (hy:AV y=true):∃ r ys us,y=.lst ys/\DV ys=true/\w=.ref r/\r≠a/\G r/\H r=some (.lst us)/\IsL K H Z ys us:=by
 rcases h with ⟨e,_⟩ | ⟨_,h⟩
 ·rw [hy] at e;cases e
 ·exact h
theorem Hk {α β γ:Type}{F:γ->β->Prop}{q:α->γ}:∀ {xs:List α}{ws:List β},Bv (λ a b=>F (q a) b) xs ws->Bv F (xs.map q) ws
 | _,_,.nil=>.nil
 | _,_,.cons h t=>.cons h (Hk t)
theorem Hj {α β:Type}{F G:α->β->Prop}:∀ {xs:List α}{ws:List β},Bv F xs ws->(∀ a∈xs,∀ b,F a b->G a b)->Bv G xs ws
 | _,_,.nil,_=>.nil
 | _,_,.cons h t,k=>.cons (k _ AM _ h) (Hj t λ a ha=>k a (AO _ ha))
theorem Ew {α β:Type}{F:α->β->Prop}:∀ {xs:List α}{us:List β}{i:Nat}{x:α},Bv F xs us->xs[i]?=some x->∃ u,us[i]?=some u/\F x u
 | _,_,_,_,.nil,e=>by simp at e
 | _,_,0,_,.cons r _,e=>by cases e;exact ⟨_,rfl,r⟩
 | _,_,i + 1,x,.cons _ t,e=>Ew (i:=i) t e
def RD {o o':HO} (k:Le H H1) (ha:H1 a=some o) (m:Mo o) (z:Z a):Kp K Z H (As H1 a o'):=λ b p eb=>by
 by_cases hb:b=a
 ·subst hb;rw [k b p eb] at ha;cases ha;exact .inr (.inl (.inl ⟨z,m⟩))
 ·rw [AL hb];exact .inl (k b p eb)
def Rep.relV {o o':HO}{c:Nat}{ys:List PV}{us:List V} (r:Rep M ρ σ H g) (hal:∀ i,M.al i=[]) (hg:M.gh≠some i) (hi:i < ρ.length) (hσ:σ[i]?=some (some (.ref a))) (ga:g.ow i a) (l:Le H H1) (ha:H1 a=some o) (m:Mo o)
  (hc:Bo x c=true) (n:Nd (λ p=>p=o') ys us x) (t:Bn c ys=true->∀ x∈ys,AV x=false) (h:IsL (M.k g) H1 (λ b=>M.zN g i c b\/b=a) ys us):∃ g',Rep M (ρ.set i (some (x,c))) σ (As H1 a o') g':=by
 have:=r.write (H':=As H1 a o') (G':=λ b=>b=a) (v:=.ref a) (Z:=λ b=>M.zN g i c b\/b=a) l (λ b o eb=>by
  by_cases hb:b=a
  ·rw [hb];exact .inr ⟨ga,by rw [BI];simp⟩
  ·rw [AL hb];exact .inl eb) hi hg (.inr hal) (λ b hb=>.inl (hb ▸ ga)) (.own hc (n.mono λ p _ e=>by rw [e];exact BI) (h.move (RD Le.refl ha m (.inr rfl)) .rf λ _=>.inl) t) λ _=>id
 rw [Pu hσ] at this;exact ⟨_,this⟩
def Rep.relR {ws us:List V}{ys:List PV} (r:Rep M ρ σ H g) (hal:∀ i,M.al i=[]) (hg:M.gh≠some i) (hi:i < ρ.length) (hσ:σ[i]?=some (some (.ref a))) (ga:g.ow i a) (l:Le H H1) (ha:H1 a=some (.lst ws)) (ht:tf ys=true)
  (hG:∀ b,G b->g.ow i b\/H b=none) (gG:G a) (dom:∀ b,G b->∃ o,Mo o/\H1 b=some o) (p:Bv (El (M.k g) H1 (λ b=>M.zN g i om b\/G b) G a true) ys us) (ds:Ds ys us):∃ g',Rep M (ρ.set i (some (.lst ys,om))) σ (As H1 a (.lst us)) g':=by
 have tw:Bn om ys=true:=zwo.mpr ⟨rfl,ht⟩
 have:=r.write (H':=As H1 a (.lst us)) (G':=G) (v:=.ref a) (Z:=λ b=>M.zN g i om b\/G b) l (λ b o eb=>by
  by_cases hb:b=a
  ·rw [hb];exact .inr ⟨ga,by rw [BI];simp⟩
  ·rw [AL hb];exact .inl eb) hi hg (.inr hal) hG (.lst (by decide) BI gG (λ b h=>?_) (by
   rw [tw];exact L2.Paired.mapP p λ _ _ h=>h.move (RD Le.refl ha trivial (.inr gG)) .rf (λ b o _ hb e=>by rw [AL hb];exact e) (λ _=>.inl) λ _ h=>h) λ _=>ds) λ _=>id
 ·rw [Pu hσ] at this;exact ⟨_,this⟩
 ·by_cases hb:b=a
  ·exact ⟨.lst _,trivial,by rw [hb];exact BI⟩
  ·rw [AL hb];exact dom b h
def Rep.oldV {c:Nat}{t:Bool}{xs:List PV}{ws:List V} (r:Rep M ρ σ H g) (hal:∀ i,M.al i=[]) (ga:g.ow i a) (hc:c=d\/c≠om) (p:Bv (El (M.k g) H (M.z g (M.al i) d) (g.ow i) a t) xs ws):IsL (M.k g) H (λ b=>M.zN g i c b\/b=a) xs ws:=
 El.seen p (λ b gb hb q=>by
  rcases q with (⟨j,hj,e,_⟩ | q) | q
  ·exact hj (r.dj j i b e gb)
  ·exact r.zd _ b q (r.new i b gb).1
  ·exact hb q) λ b q=>Fm.z_to r.zt hc (q.elim Fm.zN_z λ h=>.inl ⟨i,h ▸ ga,by rw [hal];exact .inr (by simp)⟩)
def Rep.cz {c e:Nat} (r:Rep M ρ σ H g) (hal:∀ i,M.al i=[]) (h1:∀ i a,g1.ow i a->g.ow i a/\(e=om\/i∉vs)) (ga:g1.ow i a) (hc:c=e\/c≠om) {b:Addr} (q:M.zN g1 i c b\/b=a):M.z g vs e b:=
 JF h1 r.zt hc (us:=M.al i) (q.elim Fm.zN_z λ h=>.inl ⟨i,h ▸ ga,by rw [hal];exact .inr (by simp)⟩)
def kM (hal:∀ i,M.al i=[]) (hg:M.gh≠some i) (hq:tS M (Cf i f vs) D σ H):Oc (QA M.K "list" XY (DJ i) (Ob (tE M f vs) Hd)) D σ H:=by
 obtain ⟨ρ,g,rep,q⟩:=hq;unfold Cf at q;split at q
 ·exact q.elim
 ·rename_i xs0 d0 e0;obtain ⟨a,hσ,_,ws0,ha0,_⟩:=rep.list hg e0 (ZD _);refine ⟨_,hσ,Yj (.inl (.inl ha0)),BV rep q (λ _ e=>by rw [e]) (λ e=>by rw [e]) λ y e w H1 ef l r ⟨G,hn,s⟩=>?_⟩;rw [ef] at q;dsimp only at q;split at q
  ·rename_i xs d es;split at q
   ·rename_i hc;obtain ⟨g1,r1,ek,h1⟩:=rep.cooled hal e vs;obtain ⟨a',hσ',ga,ws,ha,p,ds⟩:=r1.list hg es hc.1;rw [hσ] at hσ';cases hσ';have hl:ws.length=xs.length:=(Paired.length p).symm;have ha1:=l a _ ha;have na:¬ G a:=λ z=>by rw [hn a z] at ha;cases ha
    have hi:=(jb0.mp es).1;refine ⟨a,ws,w,rfl,rfl,ha1,by rw [hl];exact hc.2,?_⟩;rw [<- ek] at s;have c0:(if d=om/\e=om then om else 1)≠0:=by split <;> decide
    have cd:∀ c,(c=d\/c=e)->(if d=om/\e=om then om else 1)=c\/(if d=om/\e=om then om else 1)≠om:=λ c h=>by
     split
     ·rename_i z;exact .inl (h.elim (λ h=>h ▸ z.1.symm) λ h=>h ▸ z.2.symm)
     ·exact .inr (by decide)
    generalize ec:(if d=om/\e=om then om else 1)=c at c0 cd q
    suffices ∃ g',Rep M ((Bb e vs ρ).set i (some (.lst (xs++[y]),c))) σ (As H1 a (.lst (ws++[w]))) g' from let ⟨g',r'⟩:=this;q _ _ g' r'
    cases et:Bn c (xs++[y]) with
    | true=>
     obtain ⟨rfl,et⟩:=zwo.mp et;obtain ⟨rfl,rfl⟩:d=om/\e=om:=by
      refine Q4 λ z=>?_;rw [if_neg z] at ec;exact absurd ec (by decide)
     obtain ⟨tx,ty⟩:=qd9.mp et;have td:Bn om xs=true:=zwo.mpr ⟨rfl,tx⟩;rw [td] at p;refine r1.relR (G:=λ b=>g1.ow i b\/G b) hal hg hi hσ ga l ha1 et (λ b h=>h.imp id (hn b)) (.inl ga) (λ b h=>h.elim (λ h=>let ⟨o,m,e⟩:=r1.owned h;⟨o,m,l b o e⟩) s.dom)
      (Paired.append (L2.Paired.mapP p λ _ _ h=>h.move l.kp .rf (λ b o _ _=>l b o) (λ b q=>?_) λ _=>.inl) (.cons ((s.el rfl (zyz.mp ty y (by simp)) na).move Le.refl.kp .rf (λ _ _ _ _ e=>e) (λ _=>.inl) λ _=>.inr) .nil)) (Ds.app hl (ds td) λ j r x e1 y1 y2 h1 h2=>?_)
     ·rcases q with q | q | q
      ·exact .inl (Fm.zN_z q)
      ·exact .inl (.inl ⟨i,q,.inl rfl⟩)
      ·exact .inr (hn b q)
     ·obtain ⟨u,eu,h⟩:=Ew p e1;rw [h1] at eu;cases eu;obtain ⟨_,_,us,_,_,e,_,_,hr,_⟩:=h.row y1;cases e;obtain ⟨_,_,_,_,_,e,_,gr,_⟩:=(s.el (Z:=λ _=>False) rfl (zyz.mp ty y (by simp)) na).row y2;rw [h2] at e;cases e;rw [hn r gr] at hr;cases hr
    | false=>
     have hz:∀ b,(M.zN g1 i c b\/b=a)->M.z g vs e b:=λ b=>rep.cz hal h1 ga (cd e (.inr rfl));exact r1.relV hal hg hi hσ ga l ha1 trivial (by simp [Bo,Cg,c0]) ⟨rfl,rfl⟩ (λ h=>by rw [et] at h;cases h) (Paired.append (IsL.up l (r1.oldV hal ga (cd d (.inl rfl)) p)) (.cons (s.vw (λ b gb q=>rep.zdom (hz b q) (hn b gb)) λ b q=>.inl (hz b q)) .nil))
   ·exact q.elim
  ·exact q.elim
 ·exact q.elim
def Ce (i:Nat) (f:Fx) (vs:List Nat):Fs:=λ ρ=>match ρ[i]? with
 | some (some (.lst _,0))=>.no
 | some (some (.lst _,_ + 1))=>(match f ρ with
  | .ok (.lst ys,e,ρ1)=>(match (Bb e vs ρ1)[i]? with
   | some (some (.lst xs,d))=>if d≠0/\xs.length + ys.length<=Aw then .nx ((Bb e vs ρ1).set i (some (.lst (xs++ys),1))) else .no
   | _=>.no)
  | .ok _=>.no
  | .exc c=>.exc c
  | .no=>.no)
 | _=>.no
def kQ (hal:∀ i,M.al i=[]) (hg:M.gh≠some i) (hq:tS M (Ce i f vs) D σ H):Oc (QA M.K "list" XZ (DJ i) (Ob (tE M f vs) Hd)) D σ H:=by
 obtain ⟨ρ,g,rep,q⟩:=hq;unfold Ce at q;split at q
 ·exact q.elim
 ·rename_i xs0 d0 e0;obtain ⟨a,hσ,_,ws0,ha0,_⟩:=rep.list hg e0 (ZD _);refine ⟨_,hσ,Yj (.inl (.inl ha0)),BV rep q (λ _ e=>by rw [e]) (λ e=>by rw [e]) λ y e w H1 ef l r t=>?_⟩;rw [ef] at q;split at q
  ·rename_i ys e' ρ1 eq;cases eq;split at q
   ·rename_i xs d es;split at q
    ·rename_i hc;obtain ⟨g1,r1,ek,h1⟩:=rep.cooled hal e vs;obtain ⟨a',hσ',ga,ws,ha,p,ds⟩:=r1.list hg es hc.1;rw [hσ] at hσ';cases hσ';have hl:ws.length=xs.length:=(Paired.length p).symm;have ha1:=l a _ ha;obtain ⟨b,us,rfl,_,hb,lu⟩:=(rep.vw t).lst;refine ⟨a,b,ws,us,rfl,rfl,ha1,hb,by rw [hl,lu.length];exact hc.2,?_⟩;obtain ⟨g',r'⟩:=r1.relV (x:=.lst (xs++ys)) (c:=1) hal hg (jb0.mp es).1 hσ ga l ha1 trivial rfl ⟨rfl,rfl⟩ (λ h=>by cases h) (Paired.append (IsL.up l (r1.oldV hal ga (.inr (by decide)) p)) (ek ▸ lu.weak λ b=>rep.cz hal h1 ga (.inr (by decide))));exact q _ _ g' r'
    ·exact q.elim
   ·exact q.elim
  ·exact q.elim
  ·cases ‹_=_›
  ·cases ‹_=_›
 ·exact q.elim
end
def Kq (K:Kx) (Z:Addr->Prop) (H H':Hp):Prop:=∀ a o,H a=some o->H' a=some o\/(Z a/\Mo o\/K.st a/\So o)
def Kq.kp {K:Kx}{Z:Addr->Prop}{H H':Hp} (k:Kq K Z H H'):Kp K Z H H':=λ a o e=>(k a o e).imp id .inl
def Le.kq {K:Kx}{Z:Addr->Prop}{H H':Hp} (l:Le H H'):Kq K Z H H':=λ a o e=>.inl (l a o e)
structure Yl (K:Kx) (Z:Addr->Prop) (H0:Hp) (J:It) (els:List PV):Prop where
 go:∀ H i,Kq K Z H0 H->i < els.length->J.go i H
 stop:∀ H i,Kq K Z H0 H->els.length<=i->J.stop i H
 yld:∀ H i x H',Kq K Z H0 H->i < els.length->J.yld i H x H'->Le H H'/\∃ y,els[i]?=some y/\∀ K' Z',K.Le K' H0->(∀ a,Z' a->Z a\/H0 a=none)->Is K' H' Z' y x
def FH (M:Fm) (al is:List Nat) (tg:TG) (asg:PV->Af->Option Af):Prop:=∀ y v ρ σ H g ρ' (Q:St->Hp->Prop),Rep M ρ σ H g->Is (M.k g) H (M.z g al 0) y v->asg y ρ=some ρ'->(∀ σ' g',Rep M ρ' σ' H g'->M.k g'=M.k g->(∀ i a,g'.ow i a↔i∉is/\g.ow i a)->Q σ' H)->tg v σ H Q
def asgN (i:Nat):PV->Af->Option Af:=λ y ρ=>if i < ρ.length then some (ρ.set i (some (y,dv y))) else none
def B0:List Nat->List PV->Af->Option Af
 | [],[],ρ=>some ρ
 | i::is,y::ys,ρ=>(asgN i y ρ).bind (B0 is ys)
 | _,_,_=>none
def asgT (is:List Nat):PV->Af->Option Af:=λ y ρ=>match y with
 | .tup ys=>B0 is ys ρ
 | _=>none
def JA:List Nat->Ic
 | []=>Mm
 | i::is=>VB (GR i) (JA is)
def Ck (asg:PV->Af->Option Af) (body:Fs):List PV->Af->Rs
 | [],ρ=>.nx ρ
 | x::xs,ρ=>match asg x ρ with
  | none=>.no
  | some ρ1=>match body ρ1 with
   | .nx ρ2=>Ck asg body xs ρ2
   | .ct ρ2=>Ck asg body xs ρ2
   | .bk ρ2=>.nx ρ2
   | .rt x d ρ2=>.rt x d ρ2
   | .exc c=>.exc c
   | .no=>.no
def Rz.bindN {α β:Type} (r:Rz α) (f:α->Rz β):Rz β:=match r with
 | .ok a=>f a
 | _=>.no
def DC (k:Nat) (asg:PV->Af->Option Af) (test:Fb) (elt:Fx):List PV->Af->List (PV×Nat)->Rz (List (PV×Nat)×Af)
 | [],ρ,acc=>.ok (acc,ρ)
 | x::xs,ρ,acc=>match asg x (ρ++A9 k none) with
  | none=>.no
  | some ρ1=>(test ρ1).bindN λ (b,ρ2)=>if b=true then (elt ρ2).bindN λ (y,e,ρ3)=>(if acc.length < Aw then DC k asg test elt xs (ρ3.take ρ.length) (acc++[(y,e)]) else .no) else DC k asg test elt xs (ρ2.take ρ.length) acc
def CO:List (PV×Nat)->Bool
 | []=>true
 | p::r=>(p.2 == om) && CO r
theorem M7:∀ {xs:List (PV×Nat)},CO xs=true->∀ p∈xs,p.2=om
 | [],_,p,hp=>by cases hp
 | x::xs,h,p,hp=>by
  unfold CO at h;rw [AK] at h;rcases jb9.mp hp with z | z
  ·rw [z];exact eq_of_beq h.1
  ·exact M7 h.2 p z
def E9 (acc:List (PV×Nat)) (ρ:Af):Rz (PV×Nat×Af):=.ok (.lst (acc.map (·.1)),if CO acc then om else 1,ρ)
structure Inn (M:Fm) (D:Addr) (n:Nat) (vI:List Nat) (M':Fm):Prop where
 K:M'.K=M.K
 Z:M'.Z=λ b a=>M.Z b a\/a=D
 W:M'.W=λ _ _ _=>False
 al:M'.al=λ j=>if j < n then M.al j else vI
 gh:M'.gh=M.gh
section
variable {M:Fm}{ρ ρ':Af}{σ σ':St}{H H' H0 H1:Hp}{g g' g1:Os}{vs vs':List Nat}{K:Kx}{Z Z' G G':Addr->Prop}{x:PV}{d i:Nat}{v:V}{a p:Addr}{f:Fx}{D:Ends}{J:It}{els:List PV}{tg:TG}{asg:PV->Af->Option Af}{body:Fs}{is:List Nat}{z:Nat->Addr->Prop}{ps:List (PV×Nat)}{ws:List V}
theorem VA.length:∀ {ps:List (PV×Nat)}{ws:List V}{G:Addr->Prop},VA K z H ps ws G->ws.length=ps.length
 | [],[],_,_=>rfl
 | [],_::_,_,h=>h.elim
 | _::_,[],_,h=>h.elim
 | _::_,_::_,_,⟨_,_,_,_,_,t⟩=>congrArg (·+ 1) (VA.length t)
theorem VA.dom {b:Addr}:∀ {ps:List (PV×Nat)}{ws:List V}{G:Addr->Prop},VA K z H ps ws G->G b->∃ o,Mo o/\H b=some o
 | [],[],_,h,g=>(h b g).elim
 | [],_::_,_,h,_=>h.elim
 | _::_,[],_,h,_=>h.elim
 | _::_,_::_,_,⟨_,_,e,_,s,t⟩,g=>((e b).mp g).elim s.dom t.dom
theorem VA.app {y:PV}{e:Nat}{w:V}{G2:Addr->Prop} (s:SV K H (λ a=>z e a\/G2 a) G2 y e w):∀ {ps:List (PV×Nat)}{ws:List V}{G:Addr->Prop},VA K z H ps ws G->(∀ a,G a->¬ G2 a)->VA K z H (ps++[(y,e)]) (ws++[w]) λ a=>G a\/G2 a
 | [],[],G,h,_=>⟨G2,λ _=>False,λ a=>⟨λ h'=>.inl (h'.resolve_left (h a)),λ h=>h.elim .inr λ h=>h.elim⟩,λ _ _ h=>h,s,λ _ h=>h⟩
 | [],_::_,_,h,_=>h.elim
 | _::_,[],_,h,_=>h.elim
 | _::_,_::_,G,⟨G1,G3,e,n,s1,t⟩,hn=>⟨G1,λ a=>G3 a\/G2 a,λ a=>by show (G a\/G2 a)↔(G1 a\/(G3 a\/G2 a));rw [e a];exact or_assoc,λ a g1 h=>h.elim (n a g1) (hn a ((e a).mpr (.inl g1))),s1,VA.app s t λ a g3=>hn a ((e a).mpr (.inr g3))⟩
theorem VA.move {z':Nat->Addr->Prop} (k:∀ d,Kp K (λ a=>z d a) H H') (kg:∀ a o,G a->H a=some o->H' a=some o) (h:∀ d a,z' d a->z d a\/H a=none):∀ {ps:List (PV×Nat)}{vs:List V}{G':Addr->Prop},(∀ a,G' a->G a)->VA K z H ps vs G'->VA K z' H' ps vs G'
 | [],[],_,_,t=>t
 | [],_::_,_,_,t=>t.elim
 | _::_,[],_,_,t=>t.elim
 | _::_,_::_,_,gs,⟨G1,G2,e,n,s,t⟩=>⟨G1,G2,e,n,s.move (λ a o q=>(k _ a o q).imp id (Or.imp (Or.imp (And.imp .inl id) id) id)) .rf (λ a o g=>kg a o (gs a ((e a).mpr (.inl g)))) λ a q=>q.elim (λ q=>(h _ a q).imp .inl id) λ q=>.inl (.inr q),t.move k kg h λ a g=>gs a ((e a).mpr (.inr g))⟩
theorem VA.rows (np:¬ G p):∀ {ps:List (PV×Nat)}{ws:List V}{G':Addr->Prop},(∀ a,G' a->G a)->VA K z H ps ws G'->CO ps=true->tf (ps.map (·.1))=true->Bv (El K H Z G' p true) (ps.map (·.1)) ws/\Ds (ps.map (·.1)) ws
 | [],[],_,_,_,_,_=>⟨.nil,λ i j r x y e=>by simp at e⟩
 | [],_::_,_,_,h,_,_=>h.elim
 | _::_,[],_,_,h,_,_=>h.elim
 | q::ps,w::ws,G',gs,⟨G1,G2,e,n,s,t⟩,ha,ht=>by
  unfold CO at ha;rw [AK] at ha;rw [Bc] at ht ⊢;unfold tf at ht;rw [AK] at ht;obtain ⟨t1,t2⟩:=VA.rows np (λ a g=>gs a ((e a).mpr (.inr g))) t ha.2 ht.2;have h1:El K H Z G1 p true q.1 w:=s.el (eq_of_beq ha.1) ht.1 λ g=>np (gs p ((e p).mpr (.inl g)));have wk:∀ {G3:Addr->Prop}{x:PV}{v:V},(∀ a,G3 a->G' a)->El K H Z G3 p true x v->El K H Z G' p true x v:=λ hg h=>h.move Le.refl.kp .rf (λ _ _ _ _ e=>e) (λ _=>.inl) hg;refine ⟨.cons (wk (λ a g=>(e a).mpr (.inl g)) h1) (L2.Paired.mapP t1 λ _ _=>wk λ a g=>(e a).mpr (.inr g)),λ i j r x y e1 e2 r1 r2 v1 v2=>?_⟩;have hd:∀ {j:Nat}{y:PV},(ps.map (·.1))[j]?=some y->AV y=true->ws[j]?=some (V.ref r)->AV q.1=true->w=.ref r->False:=λ ej rj vj rq ew=>by
   obtain ⟨u,eu,h⟩:=Ew t1 ej;rw [vj] at eu;cases eu;obtain ⟨_,_,_,_,_,e3,_,g2,_⟩:=h.row rj;obtain ⟨_,_,_,_,_,e4,_,g1,_⟩:=h1.row rq;cases e3;rw [ew] at e4;cases e4;exact n r g1 g2
  cases i with
  | zero=>
   cases j with
   | zero=>rfl
   | succ j=>cases e1;cases v1;exact (hd (by simpa using e2) r2 (by simpa using v2) r1 rfl).elim
  | succ i=>
   cases j with
   | zero=>cases e2;cases v2;exact (hd (by simpa using e1) r1 (by simpa using v1) r2 rfl).elim
   | succ j=>exact congrArg _ (t2 i j r x y (by simpa using e1) (by simpa using e2) r1 r2 (by simpa using v1) (by simpa using v2))
theorem VA.lst (t:VA K z H ps ws G) (hz:∀ d a,z d a->¬ G a) (to:∀ e d a,(e=d\/e≠om)->z e a->z d a) (l:Le H H') (hp:H' p=some (.lst ws)) (np:¬ G p) (zp:∀ d,z d p\/H p=none) {c:Nat} (hc:c=if CO ps=true then om else 1):
  ∃ G',(∀ a,G' a->a=p\/G a)/\SV K H' (λ a=>z c a\/G' a) G' (.lst (ps.map (·.1))) c (.ref p):=by
 have c0:c≠0:=by rw [hc];split <;> decide
 cases et:Bn c (ps.map (·.1)) with
 | true=>
  obtain ⟨rfl,et⟩:=zwo.mp et;have ha:CO ps=true:=by
   refine Q4 λ n=>?_;rw [if_neg n] at hc;exact absurd hc (by decide)
  obtain ⟨h1,h2⟩:=VA.rows (Z:=λ a=>z om a\/a=p\/G a) np (λ _ g=>g) t ha et;refine ⟨λ a=>a=p\/G a,λ _=>id,.lst c0 hp (.inl rfl) (λ b g=>g.elim (λ e=>⟨.lst ws,trivial,by rw [e];exact hp⟩) λ g=>let ⟨o,m,e⟩:=t.dom g;⟨o,m,l b o e⟩) ?_ λ _=>h2⟩;rw [zwo.mpr ⟨rfl,et⟩];exact L2.Paired.mapP h1 λ _ _ h=>h.move l.kp .rf (λ b o _ _=>l b o) (λ _=>.inl) λ _=>.inr
 | false=>
  refine ⟨λ a=>a=p,λ a e=>.inl e,.own (by simp [Bo,Cg,c0]) ⟨rfl,hp⟩ (Hk ?_) λ h=>by rw [et] at h;cases h⟩;refine Hj (t.vw hz) λ q hq v h=>h.move l.kp .rf λ a w=>?_;have hd:c=q.2\/c≠om:=by
   rw [hc];split
   ·rename_i h;exact .inl (M7 h q hq).symm
   ·exact .inr (by decide)
  rcases w with w | rfl
  ·exact .inl (to _ _ a hd w)
  ·exact zp _
def VA.to {z:Nat->Addr->Prop}{c:Nat} (to:∀ e d a,(e=d\/e≠om)->z e a->z d a) (hz:∀ d a,z d a->¬ G a) (hc:∀ p∈ps,c=p.2\/c≠om) (h:VA K z H ps ws G):IsL K H (z c) (ps.map (·.1)) ws:=
 Hk (Hj (h.vw hz) λ p hp _ h=>h.weak λ a=>to _ _ a (hc p hp))
def Rw (hal:M.al i=vs) (hg:M.gh≠some i):FH M vs [i] (GR i) (asgN i):=by
 intro y v ρ σ H g ρ' Q r o e k;unfold asgN at e;split at e
 ·rename_i hi;cases e;obtain ⟨G,hG,s⟩:VT (M.k g) (M.z g vs (dv y)) H H y (dv y) v:=o.view λ _ h=>h;have cn:∀ b,¬ G b:=by
   rcases s with ⟨_,n,_⟩ | ⟨e,_⟩
   ·exact n
   ·exact absurd e (by cases y <;> simp [Bo,dv,Cg])
  refine k _ _ (r.write Le.refl (λ a o e=>.inl e) hi hg (.inl rfl) (λ a h=>.inr (hG a h)) s λ a q=>q.imp (λ h=>by rw [<- hal];exact Fm.zN_z h) id) rfl λ j a=>?_;simp only [jd0];exact ⟨λ h=>h.elim (λ h=>(cn a h.2).elim) id,.inr⟩
 ·cases e
theorem Yn:∀ {is:List Nat}{ys:List PV}{ρ ρ':Af},B0 is ys ρ=some ρ'->ys.length=is.length
 | [],[],_,_,_=>rfl
 | [],_::_,_,_,e=>by cases e
 | _::_,[],_,_,e=>by cases e
 | i::is,y::ys,_,_,e=>by
  obtain ⟨_,_,e2⟩:=jh7.mp e;exact congrArg (·+ 1) (Yn e2)
theorem RW:∀ (is:List Nat) (ys:List PV) (ws:List V) (ρ:Af) (σ:St) (H:Hp) (g:Os) (ρ':Af) (Q:St->Hp->Prop),(∀ i∈is,M.al i=vs/\M.gh≠some i)->Rep M ρ σ H g->IsL (M.k g) H (M.z g vs 0) ys ws->B0 is ys ρ=some ρ'->(∀ σ' g',Rep M ρ' σ' H g'->M.k g'=M.k g->(∀ i a,g'.ow i a↔i∉is/\g.ow i a)->Q σ' H)->JA is ws σ H Q
 | [],[],_,ρ,σ,H,g,_,Q,_,r,h,e,k=>by cases h;cases e;exact ⟨rfl,k σ g r rfl λ _ _=>by simp⟩
 | [],_::_,_,_,_,_,_,_,_,_,_,_,e,_=>by cases e
 | _::_,[],_,_,_,_,_,_,_,_,_,_,e,_=>by cases e
 | i::is,y::ys,_,ρ,σ,H,g,ρ',Q,hv,r,h,e,k=>by
  cases h with
  | cons h t=>
   obtain ⟨ρ1,e1,e2⟩:=jh7.mp e;refine ⟨_,_,rfl,Rw (hv i AM).1 (hv i AM).2 _ _ _ _ _ _ _ _ r h e1 λ σ1 g1 r1 k1 s1=>?_⟩;refine RW is ys _ ρ1 σ1 H g1 ρ' Q (λ j hj=>hv j (AO _ hj)) r1 (k1 ▸ IsL.weak (λ a q=>Fm.z_ow (λ j a h=>((s1 j a).mp h).2) q) t) e2 λ σ' g' r' k' s'=>k σ' g' r' (k'.trans k1) λ j a=>?_;rw [s',s1];simp only [jb9,HY,or_false,not_or];exact ⟨λ h=>⟨⟨h.2.1,h.1⟩,h.2.2⟩,λ h=>⟨h.1.2,h.1.1,h.2⟩⟩
def QW (hal:∀ i∈is,M.al i=vs/\M.gh≠some i):FH M vs is (Jh M.K is.length (JA is)) (asgT is):=by
 intro y v ρ σ H g ρ' Q r o e k;unfold asgT at e;split at e
 ·rename_i ys;obtain ⟨a,ws,rfl,ha,l⟩:=o.tupE;exact ⟨a,ws,rfl,.inl (.inl ha),by rw [l.length,Yn e],RW is ys ws ρ σ H g ρ' Q hal r l e k⟩
 ·cases e
def Fm.at (M:Fm) (B:Hp) (g:Os):Fm:={ M with H₀:=B,E:=M.k g }
def Rep.rebase (r:Rep M ρ σ H g):∃ B,Lx M.E M.H₀ B/\(M.cl=true->Le M.H₀ B)/\Le B H/\Rep (M.at B g) ρ σ H g/\(∀ a o,H a=some o->(∃ i,g.ow i a)\/B a=some o)/\∀ a,B a=none->(∃ i,g.ow i a)\/H a=none:=by
 classical
 have no:∀ {a o},M.H₀ a=some o->¬ ∃ i,g.ow i a:=λ {a o} e ⟨i,z⟩=>by rw [(r.new i a z).1] at e;cases e
 refine ⟨λ a=>if ∃ i,g.ow i a then none else H a,λ a o e=>?_,λ c a o e=>?_,λ a o e=>?_,⟨r.own,r.sto,λ i a e=>⟨if_pos ⟨i,e⟩,(r.new i a e).2⟩,r.dj,r.st,λ a o e=>?_,.rf,λ _ a o e=>?_,λ _=>rfl,r.nw,λ b a z=>?_,r.zt,r.len⟩,λ a o e=>?_,λ a e=>?_⟩
 ·dsimp only;rw [if_neg (no e)];exact r.h0 a o e
 ·dsimp only;rw [if_neg (no e)];exact r.cl c a o e
 ·dsimp only at e;split at e
  ·cases e
  ·exact e
 ·dsimp only [Fm.at] at e;split at e
  ·cases e
  ·exact .inl e
 ·dsimp only [Fm.at] at e;split at e
  ·cases e
  ·exact e
 ·have hz:=r.zd b a z;dsimp only [Fm.at];rw [if_neg λ ⟨i,e⟩=>hz (r.new i a e).1];exact r.h0.dom hz
 ·by_cases h:∃ i,g.ow i a
  ·exact .inl h
  ·exact .inr ((if_neg h).trans e)
 ·dsimp only at e;split at e
  ·rename_i h;exact .inl h
  ·exact .inr e
def Rep.unbase {B:Hp} (l:Lx M.E M.H₀ B) (c:M.cl=true->Le M.H₀ B) (le:M.E.Le (M.k g1) M.H₀) (ke:M.gh=none->M.k g1=M.E) (zd:∀ b a,M.Z b a->M.H₀ a≠none) (r:Rep (M.at B g1) ρ σ H g):Rep M ρ σ H g:=
 ⟨r.own,r.sto,λ i a e=>⟨l.back (r.new i a e).1,(r.new i a e).2⟩,r.dj,r.st,l.trans le r.h0,le.trans l r.le,λ e=>(c e).trans (r.cl e),λ e=>(r.ke e).trans (ke e),r.nw,zd,r.zt,r.len⟩
theorem RsOk.base {B:Hp}{R:Rs} (r:Rep M ρ σ H g) (l:Lx M.E M.H₀ B) (c:M.cl=true->Le M.H₀ B) (q:RsOk M D R):RsOk (M.at B g) D R:=by
 cases R with
 | rt x d ρ=>exact λ v H' g' f t=>q v H' g' ⟨l.trans r.le f.lx,r.le.trans l f.le,λ e=>(c e).trans (f.cl e),λ e=>(f.ke e).trans (r.ke e),f.sto⟩ (t.back λ _=>l.back)
 | exc n=>
  intro σ' H' k;cases e:M.cl with
  | true=>exact q σ' H' ((c e).trans k)
  | false=>exact (r.nw e _ _ _ (q σ' _ Le.refl)).elim
 | no=>exact q
 | _=>exact λ σ' H' g' r'=>q σ' H' g' (r'.unbase l c r.le r.ke r.zd)
def tX (M:Fm) (body:Fs):TS:=λ D σ H=>∃ B g,tS (M.at B g) body D σ H
def Ru (r:Rep M ρ σ H g) (y:Yl (M.k g) (M.z g [] 0) H J els) (hg:∀ B g,FH (M.at B g) [] is tg asg) (q:RsOk M D (Ck asg body els ρ)):
  ∃ W:Nat->Nat->St->Hp->Prop,(∃ m,W 0 m σ H)/\∀ i m σ H,W i m σ H ->
   (J.stop i H/\D.nx σ H)\/(J.go i H/\∃ N:St->Hp->Prop,(∀ σ' H',N σ' H'->∃ m',m' < m/\W (i + 1) m' σ' H')/\∀ x H',J.yld i H x H'->tg x σ H' λ σ2 H2=>(tX M body) { D with nx:=N,ct:=N,bk:=D.nx } σ2 H2):=by
 obtain ⟨B,lB,cB,bH,rB,hB,hN⟩:=r.rebase;have kp:∀ {H1:Hp},Lx (M.k g) B H1->Kq (M.k g) (M.z g [] 0) H H1:=λ l a o e=>(hB a o e).elim (λ ⟨i,z⟩=>.inr (.inl ⟨.inl ⟨i,z,.inr (by simp)⟩,by obtain ⟨u,m,e'⟩:=r.owned z;rw [e] at e';cases e';exact m⟩)) λ z=>(l a o z).imp id λ h=>.inr ⟨h.1,h.2.1⟩;refine ⟨λ i m σ H1=>m=els.length - i/\∃ ρ g1,Rep (M.at B g) ρ σ H1 g1/\RsOk (M.at B g) D (Ck asg body (els.drop i) ρ),⟨els.length,by simp,ρ,g,rB,by simpa using RsOk.base r lB cB q⟩,?_⟩;rintro i m σ1 H1 ⟨rfl,ρ1,g1,r1,q1⟩;have k1:=kp r1.h0;by_cases hi:i < els.length
 ·refine .inr ⟨y.go H1 i k1 hi,_,λ σ' H' w=>⟨els.length - (i + 1),by omega,w⟩,λ x H2 hy=>?_⟩;obtain ⟨l2,z,ez,oz⟩:=y.yld H1 i x H2 k1 hi hy;have ed:els.drop i=z::els.drop (i + 1):=by
   obtain ⟨h1,h2⟩:=jb0.mp ez;rw [<- h2];exact qh h1
  rw [ed] at q1;unfold Ck at q1;have r2:=r1.grow l2;split at q1
  ·exact q1.elim
  ·rename_i ρ2 ea;have kl:(M.k g).Le (M.k g1) H:=⟨r1.le.kk,r1.le.lc,r1.le.st,λ a o e so s=>(hB a o e).elim (λ ⟨i,z⟩=>by
    obtain ⟨u,m,e'⟩:=r.owned z;rw [e] at e';cases e';exact (m.so so).elim) λ z=>r1.le.nw a o z so s⟩
   refine hg B g z x ρ1 σ1 H2 g1 ρ2 _ r2 (oz _ _ kl λ a h=>?_) ea λ σ3 g3 r3 _ _=>⟨B,g,ρ2,g3,r3,?_⟩
   ·rcases h with ⟨j,ej,_⟩ | h
    ·exact (hN a (r1.new j a ej).1).imp (λ ⟨k,ek⟩=>.inl ⟨k,ek,.inr (by simp)⟩) id
    ·exact .inl (.inr h)
   ·revert q1;cases body ρ2 with
    | nx ρ3=>exact λ q1 σ' H' g' r'=>⟨rfl,ρ3,g',r',q1⟩
    | ct ρ3=>exact λ q1 σ' H' g' r'=>⟨rfl,ρ3,g',r',q1⟩
    | _=>exact id
 ·rw [show els.drop i=[] from OG (by omega)] at q1;exact .inl ⟨y.stop H1 i k1 (by omega),q1 σ1 H1 g1 r1⟩
def Rep.inner {D:Addr}{k:Nat}{vI:List Nat} (r:Rep M ρ σ H g) (l:Le H H1) (hD:H D=none) (hD1:H1 D≠none):∃ M',Inn M D ρ.length vI M'/\Rep M' (ρ++A9 k none) (σ++A9 k none) H1 g:=by
 obtain ⟨B,lB,cB,bH,rB,hB,hN⟩:=(r.grow l).rebase;have zl:∀ {al:List Nat}{d:Nat}{a:Addr},((∃ i,g.ow i a/\(d=om\/i∉al))\/(M.Z (Cs d) a\/a=D))->M.z g al d a\/H a=none:=λ q=>by
  rcases q with q | q | q
  ·exact .inl (.inl q)
  ·exact .inl (.inr q)
  ·exact .inr (by rw [q];exact hD)
 refine ⟨⟨M.K,λ b a=>M.Z b a\/a=D,B,λ _ _ _=>False,λ j=>if j < ρ.length then M.al j else vI,M.gh,true,M.k g⟩,⟨rfl,rfl,rfl,rfl,rfl⟩,⟨λ i x d e hg=>?_,λ i h=>?_,λ i a e=>?_,r.dj,λ a s=>⟨l.dom (r.st a s).1,λ z=>z.elim (r.st a s).2.1 λ z=>(r.st a s).1 (z ▸ hD),(r.st a s).2.2⟩,bH.lx,.rf,λ _=>bH,λ _=>rfl,(λ h=>nomatch h),λ b a z=>?_,λ a z=>z.imp (r.zt a) id,by rw [Br,Br,r.len,EM,EM]⟩⟩
 ·have hi:i < ρ.length:=by
   rcases Zp i ρ.length with h | h
   ·exact h
   ·rw [FG h,Gi] at e;split at e <;> cases e
  rw [C9 hi] at e;obtain ⟨v,hv,s⟩:=r.own i x d e hg;refine ⟨v,by rw [C9 (by rw [<- r.len];exact hi)];exact hv,s.move l.kp .rf (λ a o _=>l a o) λ a q=>zl ?_⟩;revert q;unfold Fm.z;dsimp only;rw [if_pos hi];exact id
 ·obtain ⟨os,d,e,s⟩:=r.sto i h;exact ⟨os,d,by rw [C9 (jb0.mp e).1];exact e,s.move l.kp (λ a o _=>l a o) λ a q=>zl q⟩
 ·obtain ⟨n,hg,p,e'⟩:=rB.new i a e;exact ⟨n,hg,p,by rw [C9 (jb0.mp e').1];exact e'⟩
 ·rcases z with z | z
  ·exact rB.zd b a z
  ·intro n;rcases hN a n with ⟨i,e⟩ | e
   ·obtain ⟨u,_,q⟩:=r.owned e;rw [z,hD] at q;cases q
   ·rw [z] at e;exact hD1 e
def vH {vI vE vo:List Nat}{test:Fb}{elt:Fx}{k:Nat}{Q:VK}{P:Fm->Prop} (r:Rep M ρ σ H g) (y:Yl (M.k g) (M.z g vI 0) H J els) (hP:∀ D M',Inn M D ρ.length vI M'->P M')
  (hg:∀ D M',Inn M D ρ.length vI M'->FH M' vI is tg asg) (hk:∀ y ρ',asg y (ρ++A9 k none)=some ρ'->ρ'.take ρ.length=ρ) (his:∀ i∈is,ρ.length<=i) (hvo:∀ i∈vE,i < ρ.length->i∈vo)
  (q:OutE M σ H ((DC k asg test elt els ρ []).bindN λ (acc,ρ2)=>E9 acc ρ2) λ p=>p.2.2=ρ->∀ v H',Le H H'->VT (M.k g) (M.z g vo p.2.1) H H' p.1 p.2.1 v->Q v H'):
  ∀ D,H D=none->∃ W:Nat->Nat->List V->Hp->Prop,(∃ m,W 0 m [] (As H D (.lst [])))/\∀ i m ys H1,W i m ys H1->H1 D=some (.lst ys) /\
   ((J.stop i H1/\Q (.ref D) H1)\/(J.go i H1/\∀ x H',J.yld i H1 x H'->tg x (σ++A9 k none) H' λ σ2 H2=>∃ M',P M'/\tT M' test σ2 H2 λ b H3=>if b=true then ∃ M',P M'/\tE M' elt vE σ2 H3 λ y H4=>H4 D=some (.lst ys)/\ys.length < Aw/\∃ m',m' < m/\W (i + 1) m' (ys++[y]) (As H4 D (.lst (ys++[y]))) else ∃ m',m' < m/\W (i + 1) m' ys H3)):=by
 intro D hD;obtain ⟨accF,ρF,eF⟩:∃ a r,DC k asg test elt els ρ []=.ok (a,r):=by
  cases e:DC k asg test elt els ρ [] with
  | ok p=>exact ⟨p.1,p.2,rfl⟩
  | _=>rw [e] at q;exact q.elim
 rw [eF] at q;refine ⟨λ i m ys H1=>m=els.length - i/\Le H H1/\H1 D=some (.lst ys)/\∃ acc G,(∀ a,G a->H a=none/\a≠D)/\VA (M.k g) (λ d a=>M.z g vo d a\/a=D) H1 acc ys G/\DC k asg test elt (els.drop i) ρ acc=.ok (accF,ρF),⟨els.length,by simp,DU hD,BI,[],λ _=>False,λ _ h=>h.elim,λ _ h=>h,by simpa using eF⟩,?_⟩;rintro i m ys H1 ⟨rfl,l1,h1D,acc,G,hG,ta,ec⟩;refine ⟨h1D,?_⟩;by_cases hi:i < els.length
 ·refine .inr ⟨y.go H1 i l1.kq hi,λ x H2 hy=>?_⟩;obtain ⟨l2,z,ez,oz⟩:=y.yld H1 i x H2 l1.kq hi hy;have ed:els.drop i=z::els.drop (i + 1):=by
   obtain ⟨h1,h2⟩:=jb0.mp ez;rw [<- h2];exact qh h1
  rw [ed] at ec;unfold DC at ec;split at ec
  ·cases ec
  ·rename_i ρ1 ea;have h2D:=l2 D _ h1D;obtain ⟨M',inn,r2⟩:=r.inner (k:=k) (vI:=vI) (l1.trans l2) hD (by rw [h2D];simp);have ke:∀ g,M'.k g=M.k g:=λ g=>by unfold Fm.k;rw [inn.K]
   have ox:Is (M'.k g) H2 (M'.z g vI 0) z x:=ke g ▸ oz _ _ .rf λ a h=>by
    rw [Fm.z,inn.Z] at h;exact h.elim (λ h=>.inl (.inl h)) λ h=>h.elim (λ h=>.inl (.inr h)) λ h=>.inr (by rw [h];exact hD)
   refine hg D M' inn z x _ _ H2 g ρ1 _ r2 ox ea λ σ2 g2 r3 k3 s3=>⟨M',hP D M' inn,ρ1,g2,r3,?_⟩
   have took:=hk z ρ1 ea;have own:∀ {j a},g.ow j a->g2.ow j a/\j < ρ.length:=λ {j a} e=>by
    obtain ⟨_,_,p,ep⟩:=r.new j a e;have hj:=(jb0.mp ep).1;exact ⟨(s3 j a).mpr ⟨λ z=>absurd (his j z) (by omega),e⟩,hj⟩
   cases et:test ρ1 with
   | exc c=>rw [et] at ec;cases ec
   | no=>rw [et] at ec;cases ec
   | ok p=>
    obtain ⟨b,ρ2⟩:=p;rw [et] at ec;intro (e2:ρ2=ρ1) H3 l3;subst e2;dsimp only [Rz.bindN] at ec;cases b with
    | false=>
     rw [if_neg BK,took] at ec;rw [if_neg BK];exact ⟨els.length - (i + 1),by omega,rfl,(l1.trans l2).trans l3,l3 D _ h2D,acc,G,hG,ta.move (λ _=>(l2.trans l3).kp) (λ a o _=>(l2.trans l3) a o) (λ _ _=>.inl) λ _=>id,ec⟩
    | true=>
     rw [if_pos rfl] at ec ⊢;refine ⟨M',hP D M' inn,ρ2,g2,r3.grow l3,?_⟩;unfold EO;cases ee:elt ρ2 with
     | exc c=>rw [ee] at ec;cases ec
     | no=>rw [ee] at ec;cases ec
     | ok p=>
      obtain ⟨w,e,ρ3⟩:=p;rw [ee] at ec;intro (e3:ρ3=ρ2) u H4 l4 ⟨Gu,fu,su⟩;subst e3;dsimp only at ec;split at ec
      ·rename_i hz;rw [took] at ec;have l14:=(l2.trans l3).trans l4;have h4D:=l14 D _ h1D;have kd:∀ {Z:Addr->Prop},Z D->Kp (M.k g) Z H4 (As H4 D (.lst (ys++[u]))):=λ z=>RD Le.refl h4D trivial z;have gD:∀ {G:Addr->Prop},(∀ a,G a->a≠D)->∀ a o,G a->H4 a=some o->As H4 D (.lst (ys++[u])) a=some o:=λ n a o ga e=>by rw [AL (n a ga)];exact e
       have uD:∀ a,Gu a->a≠D:=λ a ga z=>by have h:=fu a ga;rw [z,(l2.trans l3) D _ h1D] at h;cases h
       have tu:SV (M.k g) (As H4 D (.lst (ys++[u]))) (λ a=>(M.z g vo e a\/a=D)\/Gu a) Gu w e u:=by
        have zD:∀ a,(M.z g vo e a\/a=D)->M'.z g2 vE e a:=λ a h=>by
         rw [Fm.z,inn.Z];rcases h with (⟨j,ej,n⟩ | h) | h
         ·exact .inl ⟨j,(own ej).1,n.imp id λ n z=>n (hvo j z (own ej).2)⟩
         ·exact .inr (.inl h)
         ·exact .inr (.inr h)
        rw [k3,ke g] at su;exact su.move (kd (Z:=λ a=>M'.z g2 vE e a\/Gu a) (.inl (zD D (.inr rfl)))) .rf (gD uD) λ a h=>.inl (h.imp (zD a) id)
       refine ⟨h4D,by rw [ta.length];exact hz,els.length - (i + 1),by omega,rfl,λ a o ho=>?_,BI,acc++[(w,e)],λ a=>G a\/Gu a,λ a h=>h.elim (hG a) λ h=>⟨((l1.trans l2).trans l3).back (fu a h),uD a h⟩,VA.app tu (ta.move (λ _ a o e=>?_) (λ a o ga e=>gD (λ a h=>(hG a h).2) a o ga (l14 a o e)) (λ _ _=>.inl) λ _=>id) λ a ga gu=>?_,ec⟩
       ·rw [AL λ z=>by rw [z,hD] at ho;cases ho];exact (l1.trans l14) a o ho
       ·exact kd (Z:=λ a=>M.z g vo _ a\/a=D) (.inr rfl) a o (l14 a o e)
       ·obtain ⟨o,_,e⟩:=ta.dom ga;have h:=fu a gu;rw [(l2.trans l3) a o e] at h;cases h
      ·cases ec
 ·rw [show els.drop i=[] from OG (by omega)] at ec;cases ec;obtain ⟨G',hG',s⟩:=VA.lst (c:=if CO accF=true then om else 1) ta (λ d a h ga=>h.elim (λ h=>r.zdom h (hG a ga).1) (hG a ga).2) (λ e d a he h=>h.imp (Fm.z_to r.zt he) id) Le.refl h1D (λ h=>(hG D h).2 rfl) (λ _=>.inl (.inr rfl)) rfl;refine .inl ⟨y.stop H1 i l1.kq (by omega),q rfl _ H1 l1 ⟨G',λ a h=>(hG' a h).elim (λ e=>by rw [e];exact hD) λ h=>(hG a h).1,s.weak λ a h=>h.imp .inl id⟩⟩
end
def Yq {K:Frag}{c:Nat}{C:Addr} (e:Dt K c=some C):c < 12:=by
 unfold Dt at e;split at e
 ·rename_i x h;exact (jb0.mp h).1
 ·cases e
structure XC (h:Heap) (K:Frag) (c:Nat) (C:Addr):Prop where
 obj:∃ bm N nm q bs hdct sn sub ab col dd k0 k1 k2 k3 k5 mN,h.get? C=some (excClassObj nm q C N bs bm hdct sn sub ab col dd k0 k1 k2 k3 k5 "ValueError.__new__")/\h.Ns N mN/\mN "__init__" = none/\OwnTail h bmV bm/\∀ d D,Dt K d=some D->(Value.ref C::bm).contains (.ref D)=OH c d
def y9 {K:Frag}{c:Nat}{C:Addr} (t:Fd K=true) (e:Dt K c=some C):PySem.W.excIn K C bmV "ValueError.__new__" = true/\∀ d D,Dt K d=some D->(Hn K C).contains (.ref D)=OH c d:=by
 unfold Fd at t;have h:=jb1.mp t c (jb8.mpr (Yq e));rw [e] at h;dsimp only at h;rw [AK] at h;refine ⟨h.1,λ d D ed=>?_⟩;have h2:=jb1.mp h.2 d (jb8.mpr (Yq ed));rw [ed] at h2;exact eq_of_beq h2
def ju {K:Frag}{h:Heap}{c:Nat}{C:Addr} (X:K.In h) (t:Fd K=true) (e:Dt K c=some C):XC h K c C:=by
 obtain ⟨q,ht⟩:=y9 t e;refine ⟨?_⟩;unfold PySem.W.excIn at q;split at q
 ·rename_i dd cd sl ho;split at q
  ·rename_i C' bm k0 k1 k2 k3 n k5 hm hs;simp only [AK,beq_iff_eq,Kj] at q;obtain ⟨⟨⟨⟨⟨rfl,rfl⟩,hdel⟩,htl⟩,hok⟩,hni⟩:=q;have hmro:Hn K C'=.ref C'::bm:=by unfold Hn;rw [ho];exact hm
   rw [hmro] at ht;obtain ⟨nm,bs,mro,ns,qn,hd,sn,sub,ab,col,del⟩:=cd;dsimp only at hm hdel hok hni;subst hm hdel;have hsl:sl=#[k0,k1,k2,k3,some (.builtin "ValueError.__new__"),k5]:=by
    obtain ⟨l⟩:=sl;simp only at hs;rw [hs]
   subst hsl;exact ⟨bm,ns,nm,qn,bs,hd,sn,sub,ab,col,dd,k0,k1,k2,k3,k5,_,X _ _ ho,.of_isNs (PySem.W.isNs_of_in X hok),PySem.W.nsMap_none_of_in X hok hni,PySem.W.tail_of_in X htl,ht⟩
  ·cases q
 ·cases q
def Gm (W:Nat->Hp->Prop):XK:=λ v _ H'=>match v with
 | .int c _=>W c.toNat H'
 | _=>False
def CN (P:AD) (w:AA) (K:Frag):FI:=λ outer H s E e s'=>∃ (a C:Addr) (c:Nat) (H':Hp) (B:Heap) (a0:Ae),e=.ref a/\Dt K c=some C/\s'.os=s.os/\FQ s'.gens/\Un (CA outer) [] H H' s.heap s'.heap/\HOk P w H' s'.heap/\H' a=none/\s.heap.get? a=none /\
 Heap.FlyingW B outer a (.ref C) a0 s'.heap/\(∀ b o,s'.heap.get? b=some o->H' b≠none->B.get? b=some o)/\(∀ b o,s.heap.get? b=some o->H b=none->b∉CA outer->B.get? b=some o)/\(∀ b,H b≠none->H' b≠none)/\E (.int (c:Int) 0) none H'
theorem Po {P:AD}{w:AA}{H:Hp}{h:Heap}{a:Addr}{o:HO} (x:zxg P w H h a o):∃ u,h.get? a=some u:=by
 cases o with
 | lst xs=>obtain ⟨_,_,_,_,e⟩:=x;exact ⟨_,e⟩
 | tup xs=>obtain ⟨_,_,_,o,e,_⟩:=x;exact ⟨_,e⟩
 | dK kvs=>obtain ⟨_,_,_,_,o,_,_,e,_⟩:=x;exact ⟨_,e⟩
 | dT kvs=>obtain ⟨_,_,_,_,o,_,_,e,_⟩:=x;exact ⟨_,e⟩
 | set S n=>obtain ⟨o,_,_,_,e,_⟩:=x;exact ⟨_,e⟩
 | ins C dx fs=>obtain ⟨_,_,_,e,_⟩:=x;exact ⟨_,e⟩
 | own y=>exact x
 | xd fs=>obtain ⟨_,⟨_,_,_,e,_⟩,_⟩:=x;exact ⟨_,e⟩
 | rng lo hi=>obtain ⟨_,_,_,e⟩:=x;exact ⟨_,e⟩
 | frz ob u=>obtain ⟨e,_⟩:=x;exact ⟨_,e⟩
 | tbl ps=>exact ⟨_,(show h.get? a=some _ from x)⟩
 | met f y=>exact ⟨_,(show h.get? a=some _ from x)⟩
 | ext φ=>exact x.2.1
section
variable {X:Cx}{pins:List (Addr×Obj)}{σ:St}{H H1:Hp}{s s2:Ai}{h1 B:Heap}{a C:Addr}{a0:Ae}{c:Nat}{E:XK}{P:AD}{w:AA}{K:Frag}
def Yv (I:L2.Inv X pins σ H s) (hex:X.ex=[]) (u:Un (CA X.stack) [] H H1 s.heap h1) (hok:HOk X.prog X.w H1 h1) (fl:Heap.FlyingW B X.outer a (.ref C) a0 s2.heap) (up:h1.UpToSlots s2.heap)
  (i1:∀ b o,h1.get? b=some o->H1 b≠none->B.get? b=some o) (i2:∀ b o,s.heap.get? b=some o->H b=none->b∉CA X.stack->B.get? b=some o) (ha:H1 a=none) (hn:s.heap.get? a=none)
  (hE:E (.int (c:Int) 0) none H1) (hd:∀ b,X.H₀ b≠none->H1 b≠none) (hc:Dt X.K c=some C) (ho:s2.os=s.os) (hg:FQ s2.gens):CN X.prog X.w X.K X.outer X.H₀ X.s₀ E (.ref a) s2:=by
 have nx:∀ b:Addr,b∉X.ex:=λ b z=>by rw [hex] at z;cases z
 have key:∀ b o,X.s₀.heap.get? b=some o->X.H₀ b=none->b∉CA X.outer->B.get? b=some o:=λ b o e n hb=>by
  refine i2 b o (I.base.keep b o e n hb (nx b)) (I.base.free b o e n (nx b)) λ z=>?_;rcases jb9.mp (I.stkSub b z) with z | z
  ·exact absurd (BL (AI e) I.ok.above) (by rw [z];exact Di _)
  ·exact hb z
 have fr:∀ b o,X.s₀.heap.get? b=some o->X.H₀ b=none->b∈CA X.outer->∃ sl,s2.heap.get? b=some { o with slots:=sl }:=λ b o e n hb=>by
  obtain ⟨sl,e1⟩:=I.base.slot b o e n hb (nx b);obtain ⟨sl',e2⟩:=u.any e1 (I.base.free b o e n (nx b)) (by simp);obtain ⟨_,o',ho',hnf⟩:=I.ok.funs.mem hb;rw [e] at ho';cases ho';obtain ⟨sl2,e3⟩:=up b _ e2 hnf;exact ⟨sl2,e3⟩
 have G5:∀ b v,H1 b≠none->h1.get? b=some v->s2.heap.get? b=some v:=λ b v hb e=>fl.1 b v (i1 b v e hb);have un:Un (CA X.outer) [] X.H₀ H1 X.s₀.heap s2.heap:=by
  refine ⟨λ b o e n hb _=>fl.1 b o (key b o e n hb),λ b o e n hb _=>fr b o e n hb,λ b o e n _=>?_,λ b o e _=>?_,λ b xs e=>u.tups b xs (I.base.tups b xs e),λ b o xs e=>u.frzs b o xs (I.base.frzs b o xs e),λ b ps e=>?_⟩
  ·obtain ⟨o',e'⟩:=I.base.there b o e (nx b);exact u.free b o' e' (I.base.free b o e n (nx b)) (by simp)
  ·by_cases h0:X.H₀ b=none
   ·by_cases hb:b∈CA X.outer
    ·obtain ⟨sl,e2⟩:=fr b o e h0 hb;exact ⟨_,e2⟩
    ·exact ⟨o,fl.1 b o (key b o e h0 hb)⟩
   ·obtain ⟨o',e'⟩:=I.base.there b o e (nx b);obtain ⟨o2,e2⟩:=u.there b o' e' (by simp);exact ⟨o2,G5 b o2 (hd b h0) e2⟩
  ·obtain ⟨m1,e1⟩:=I.base.tbls b ps e;obtain ⟨m2,e2⟩:=u.tbls b _ e1;exact ⟨m1++m2,by rw [e2,ZN]⟩
 refine ⟨a,C,c,H1,B,a0,rfl,hc,ho.trans I.os,hg,un,λ b o e=>?_,ha,?_,fl,λ b o e hb=>?_,key,hd,hE⟩
 ·refine (hok b o e).stay (λ d v hd q=>G5 d v ?_ q) (λ _ q=>q) λ _ _ q=>q;rcases hd with rfl | hd
  ·rw [e];simp
  ·rw [hd];simp
 ·cases q:X.s₀.heap.get? a with
  | none=>rfl
  | some o=>
   obtain ⟨o',e'⟩:=I.base.there a o q (nx a);rw [hn] at e';cases e'
 ·cases q:H1 b with
  | none=>exact absurd q hb
  | some o1=>
   obtain ⟨v,hv⟩:=Po (hok b o1 q);have e2:=G5 b v hb hv;rw [e] at e2;cases e2;exact i1 b o hv hb
end
def MT (CX:FI) (X:Cx) (W:St->Nat->Hp->Prop):Prop:=∀ (pins:List (Addr×Obj)) (σ:St) (H:Hp) (s:Ai) (e:Ae) (s':Ai),L2.Inv X pins σ H s->CX X.stack H s (Gm (W σ)) e s'->X.xe e s'
def Sm (X:Cx) (W:St->Nat->Hp->Prop):Prop:=∀ (pins:List (Addr×Obj)) (σ:St) (H:Hp) (s:Ai) (c:Nat) (C a:Addr) (h':Heap) (args:List Ae),L2.Inv X pins σ H s->Dt X.K c=some C->Heap.MadeExcOf s.heap h' a (.ref C) args->W σ c H->X.xe (.ref a) { s with heap:=h' }
abbrev W0:St->Nat->Hp->Prop:=λ _ _ _=>False
def kA {P:AD}{w:AA}{K:Frag}{X:Cx}:MT (CN P w K) X W0:=λ _ _ _ _ _ _ _ h=>by
 obtain ⟨a,C,c,H',B,a0,_,_,_,_,_,_,_,_,_,_,_,_,hE⟩:=h;exact Gx hE
def WE (E:XK) (H:Hp):St->Nat->Hp->Prop:=λ _ c H'=>E (.int (c:Int) 0) none H'/\∀ b,H b≠none->H' b≠none
section
variable {P:AD}{w:AA}{K:Frag}{mg:Str->Option Ae}{base:Heap}{N:List Str}{qual:Str}{scope:Bu}{f:Addr}{cd:Ae}{A:Bf}{outer:List Env}{s:Ai}{H:Hp}{E:XK}
def uV:MT (CN P w K) (B9 (CN P w K) P w K mg base N qual scope f cd A outer s H E) (WE E H):=by
 intro pins σ H1 s1 e s' I h;obtain ⟨a,C,c,H',B,a0,rfl,hc,ho,hg,un,hok,ha,hn,fl,i1,i2,hd,hE⟩:=h;have hE':WE E H σ c H':=hE;refine wpAny_leaves_onW (by exact I.ok.frames) rfl fl λ h2 f2 up=>?_;exact Yv (s2:={ s' with heap:=h2 }) I rfl un hok f2 up i1 i2 ha hn hE'.1 hE'.2 hc ho hg
def bB:Sm (B9 (CN P w K) P w K mg base N qual scope f cd A outer s H E) (WE E H):=by
 intro pins σ H1 s1 c C a h' args I hc hx hW;have hin:∀ env∈(B9 (CN P w K) P w K mg base N qual scope f cd A outer s H E).stack,∀ b,env.frame=some b->b∈CA (B9 (CN P w K) P w K mg base N qual scope f cd A outer s H E).stack:=λ env he b hb=>jm1.mpr ⟨env,he,hb⟩;have G5:∀ b,H1 b≠none->∃ o,s1.heap.get? b=some o:=λ b hb=>by
  cases q:H1 b with
  | none=>exact absurd q hb
  | some u=>exact Po (I.hok b u q)
 have nfr:∀ b,H1 b≠none->b∉CA (B9 (CN P w K) P w K mg base N qual scope f cd A outer s H E).stack:=λ b hb z=>hb (I.stkFree b z);refine wpAny_leaves_madeW (base:=PySem.W.hideAll s1.heap (CA (B9 (CN P w K) P w K mg base N qual scope f cd A outer s H E).stack)) (h:=s1.heap) (by exact I.ok.frames) rfl (λ b o q=>PySem.W.of_hideAll _ q) (PySem.W.funFrames_hide I.stack hin) hx λ h2 t f2 _ _ up=>?_;refine Yv (s2:={ s1 with heap:=h2 }) I rfl (Un.kept hx.keeps) (I.hok.kept hx.keeps) f2 up (λ b o e hb=>?_) (λ b o e _ hb=>Qq _ e hb) ?_ hx.new hW.1 hW.2 hc rfl I.bare
 ·obtain ⟨o1,e1⟩:=G5 b hb;have e2:=hx.keeps b o1 e1;rw [e] at e2;cases e2;exact Qq _ e1 (nfr b hb)
 ·cases q:H1 a with
  | none=>rfl
  | some u=>
   obtain ⟨o,e⟩:=Po (I.hok a u q);rw [hx.new] at e;cases e
def yo:PassesOwn (Ax P w) (B9 (CN P w K) P w K mg base N qual scope f cd A outer s H E).A (B9 (CN P w K) P w K mg base N qual scope f cd A outer s H E).env (B9 (CN P w K) P w K mg base N qual scope f cd A outer s H E).xe:=PassesOwn.leaving
end
section
variable {X:Cx}{CX:FI}{k:Nat}{f:Addr}{fd:DG}{ps:List Str}{sp:Sp}{x:Str}{p pos:Pos}{e:Expr}{es:List Expr}{t:TA}{W:St->Nat->Hp->Prop}
def WG (sp:Sp) (W:St->Nat->Hp->Prop) (t:TA):TE:=λ σ H Q=>t σ H λ vs H1=>sp vs H1 Q (Gm (W σ))
theorem uW (F:FnOk X.prog X.w X.K X.mg X.base CX k f fd ps sp) (hr:Room k X.A) (hg:Gl X x) (hm:X.mg x=some (.ref f)) (hk:JM X.K (.ref f)=true) (hb:qkb X.K fd ps []) (hx:MT CX X W) (ha:PA X (e::es) t) (hdb:(x == ("__debug__" : Str))=false)
  (he:Bi (e::es) X.env=(false,eval e X.env)::Bi es X.env) (hpl:(Fy pos (Bi es X.env)).any (·.1)=false):PE X (.Call (.Name x p) (e::es) [] pos) (WG sp W t):=by
 intro pins s σ H Q I h;refine Nv (XB I hg hm ?_ hdb);refine PySem.W.callWith_K (h₀:=X.base) I.ok.mod.kin hk (A0 (ha pos pins s σ H _ I h) λ us s1 ⟨vs,H1,I1,r,q⟩=>⟨I1.kIn,?_⟩) he hpl;have q':sp vs H1 Q (Gm (W σ)):=q;have hl:(us++[]).length=ps.length:=by rw [FE,<- r.length];exact F.len _ _ _ _ q'
 have hbd:=hb s1 us I1.kIn hl;rw [FE] at hbd;refine wpAny_call (codeAny_mono (F.run X.A X.stack s1 H1 ⟨us,[]⟩ us vs Q (Gm (W σ)) hr I1.env0 hbd r q') λ r s' hq=>?_);cases r with
 | error e=>exact hx pins σ H1 s1 e s' I1 hq
 | ok fl=>
  cases fl with
  | ret u=>exact I1.after hq
  | next=>exact Gx hq
  | brk=>exact Gx hq
  | cont=>exact Gx hq
end
def CY (cells:List (Str×Addr)):List (Str×Dd)->List (Str×Addr)->List (Str×Addr)
 | [],cs=>cs
 | (n,k)::r,cs=>if k == .free then CY cells r ((n,(cells.lookup n).getD 0)::cs) else CY cells r cs
def Ux {scope:Bu}{env:Env} (h:∀ x∈scope.names,x.2=.free->∃ c,env.cells.lookup x.1=some c):closureFor scope env=pure (CY env.cells scope.names []):=by
 unfold closureFor;have all:∀ (l:List (Str×Dd)) (cs:List (Str×Addr)),(∀ x∈l,x.2=.free->∃ c,env.cells.lookup x.1=some c) ->
   (forIn l cs λ (x:Str×Dd) (cs:List (Str×Addr))=>if (x.2 == NameKind.free)=true then (do let a<-cellOf env x.1;pure (ForInStep.yield ((x.1,a)::cs))) else pure (ForInStep.yield cs):Sem (List (Str×Addr)))=pure (CY env.cells l cs):=by
  intro l;induction l with
  | nil=>intro cs _;rfl
  | cons x r ih=>
   intro cs hl;obtain ⟨n,k⟩:=x;rw [O7];have ih':=λ cs=>ih cs λ y hy=>hl y (AO _ hy);by_cases hk:(k == NameKind.free)=true
   ·obtain ⟨c,hc⟩:=hl (n,k) AM (by simpa using hk);have e1:cellOf env n=pure c:=by unfold cellOf;rw [hc]
    rw [if_pos hk,e1];simp only [pure_bind];rw [ih',CY,if_pos hk,hc];rfl
   ·rw [if_neg hk];simp only [pure_bind];rw [ih',CY,if_neg hk]
 have:=all scope.names [] h
 simp only [bind_pure] at this ⊢;exact this
theorem GB (cells:List (Str×Addr)) (x:Str) (c:Addr):∀ (l:List (Str×Dd)) (cs:List (Str×Addr)),(∀ y∈l,y.2=.free->∃ c,cells.lookup y.1=some c)->(cs.lookup x=some c->cells.lookup x=some c)->(CY cells l cs).lookup x=some c->cells.lookup x=some c
 | [],cs,_,h,e=>h e
 | (n,k)::r,cs,hl,h,e=>by
  unfold CY at e;split at e
  ·rename_i hk;refine GB cells x c r _ (λ y hy=>hl y (AO _ hy)) (λ e'=>?_) e;rw [EJ] at e';split at e'
   ·rename_i hx;obtain ⟨c',hc⟩:=hl (n,k) AM (by simpa using hk);rw [hc] at e';cases e';rw [eq_of_beq hx];exact hc
   ·exact h e'
  ·exact GB cells x c r cs (λ y hy=>hl y (AO _ hy)) h e
theorem OW (cells:List (Str×Addr)) (x:Str):∀ (l:List (Str×Dd)) (cs:List (Str×Addr)),(∃ c,cs.lookup x=some c)->∃ c,(CY cells l cs).lookup x=some c
 | [],cs,h=>h
 | (n,k)::r,cs,h=>by
  unfold CY;split
  ·refine OW cells x r _ ?_;rw [EJ];split
   ·exact ⟨_,rfl⟩
   ·exact h
  ·exact OW cells x r cs h
theorem PN (cells:List (Str×Addr)) (x:Str):∀ (l:List (Str×Dd)) (cs:List (Str×Addr)),(x,NameKind.free)∈l->∃ c,(CY cells l cs).lookup x=some c
 | [],_,h=>nomatch h
 | (n,k)::r,cs,h=>by
  unfold CY;rcases jb9.mp h with e | e
  ·cases e;rw [if_pos (show (NameKind.free == NameKind.free)=true by decide)];exact OW cells x r _ ⟨_,by rw [EJ,beq_self_eq_true]⟩
  ·split
   ·exact PN cells x r _ e
   ·exact PN cells x r cs e
theorem PM:∀ (names:List (Str×Dd)) (n:Nat) (acc:List (Str×Addr)) (x:Str) (c:Addr),(CT n names acc).lookup x=some c->acc.lookup x=some c\/(n<=c/\(x,NameKind.cell)∈names)
 | [],n,acc,x,c,h=>.inl h
 | (m,k)::r,n,acc,x,c,h=>by
  unfold CT at h;split at h
  ·rename_i hk;have hk':k=.cell:=by simpa using hk
   rcases PM r _ _ x c h with z | ⟨z,y⟩
   ·rw [EJ] at z;split at z
    ·rename_i hx;cases z;exact .inr ⟨A4 _,by rw [eq_of_beq hx,hk'];exact AM⟩
    ·exact .inl z
   ·exact .inr ⟨HZ z,AO _ y⟩
  ·rcases PM r _ _ x c h with z | ⟨z,y⟩
   ·exact .inl z
   ·exact .inr ⟨z,AO _ y⟩
theorem MV:∀ (names:List (Str×Dd)) (n:Nat) (acc:List (Str×Addr)) (x:Str),(x,NameKind.cell)∉names->(CT n names acc).lookup x=acc.lookup x
 | [],n,acc,x,h=>rfl
 | (m,k)::r,n,acc,x,h=>by
  unfold CT;split
  ·rename_i hk;have hk':k=.cell:=by simpa using hk
   rw [MV r _ _ x λ z=>h (AO _ z),EJ];split
   ·rename_i hx;exact absurd (by rw [eq_of_beq hx,hk'];exact AM) h
   ·rfl
  ·exact MV r _ _ x λ z=>h (AO _ z)
theorem Oi:∀ (names:List (Str×Dd)) (n:Nat) (acc:List (Str×Addr)) (x:Str),(x,NameKind.cell)∈names->∃ c,(CT n names acc).lookup x=some c/\n<=c
 | [],n,acc,x,h=>nomatch h
 | (m,k)::r,n,acc,x,h=>by
  by_cases hr:(x,NameKind.cell)∈r
  ·unfold CT;split
   ·obtain ⟨c,e,l⟩:=Oi r (n + 1) ((m,n)::acc) x hr;exact ⟨c,e,HZ l⟩
   ·exact Oi r n acc x hr
  ·rcases jb9.mp h with e | e
   ·cases e;unfold CT;rw [if_pos (by decide),MV r _ _ _ hr,EJ,beq_self_eq_true];exact ⟨n,rfl,A4 _⟩
   ·exact absurd e hr
theorem Ro:∀ (names:List (Str×Dd)) (n:Nat) (acc:List (Str×Addr)),(∀ x y c,acc.lookup x=some c->acc.lookup y=some c->x=y)->(∀ x c,acc.lookup x=some c->c < n)->∀ x y c,(CT n names acc).lookup x=some c->(CT n names acc).lookup y=some c->x=y
 | [],n,acc,hi,_,x,y,c,h1,h2=>hi x y c h1 h2
 | (m,k)::r,n,acc,hi,hl,x,y,c,h1,h2=>by
  unfold CT at h1 h2;split at h1
  ·rename_i hk;rw [if_pos hk] at h2;refine Ro r (n + 1) ((m,n)::acc) (λ x y c h1 h2=>?_) (λ x c h=>?_) x y c h1 h2
   ·rw [EJ] at h1 h2;split at h1
    ·rename_i e1;cases h1;split at h2
     ·rename_i e2;rw [eq_of_beq e1,eq_of_beq e2]
     ·exact absurd (hl y _ h2) (Di _)
    ·split at h2
     ·cases h2;exact absurd (hl x _ h1) (Di _)
     ·exact hi x y c h1 h2
   ·rw [EJ] at h;split at h
    ·cases h;exact Gd _
    ·exact Me (hl x c h)
  ·rename_i hk;rw [if_neg hk] at h2;exact Ro r n acc hi hl x y c h1 h2
theorem Sg:∀ (names:List (Str×Dd)) (h:Heap) (acc:List (Str×Addr)) (x:Str) (c:Addr),(CT h.objs.size names acc).lookup x=some c->acc.lookup x=some c\/(pushCells h names).IsCell c none
 | [],h,acc,x,c,e=>.inl e
 | (m,k)::r,h,acc,x,c,e=>by
  unfold CT at e;unfold pushCells;split at e
  ·rename_i hk;rw [if_pos hk];have hs:(h.push { cls:=.type "cell",data:=.cell none }).objs.size=h.objs.size + 1:=Fz ..;have e':(CT (h.push { cls:=.type "cell",data:=.cell none }).objs.size r ((m,h.objs.size)::acc)).lookup x=some c:=by rw [hs];exact e
   rcases Sg r _ _ x c e' with z | z
   ·rw [EJ] at z;split at z
    ·cases z;exact .inr ⟨_,Qh _ _ _ _ (Bw _ rfl),rfl⟩
    ·exact .inl z
   ·exact .inr z
  ·rename_i hk;rw [if_neg hk];exact Sg r h acc x c e
def xt {M:Model}{A:Bf}{E:Ae->Ai->Prop}{s:Ai}{scope:Bu}{globals:Addr}{cl:List (Str×Addr)}{qual:Str}{func:Option Addr}{code:Ae}{around:Env}{builtins:Addr}{Q:Env->Ai->Prop}
  (hQ:Q (newEnv scope s.heap.objs.size globals (CT (s.heap.objs.size + 1) scope.names cl) qual func code (some around) builtins) { s with heap:=pushCells (s.heap.push { cls:=.type "dict",data:=.dict #[] }) scope.names }):
  Am M A (Qe scope globals cl [] qual func code (some around) builtins) Q E s:=by
 simp only [Qe,ZM,if_true];refine Ah (wpAny_alloc ?_);refine Ah (wpAny_layCells _ (λ name kind cells=>by cases hkc:kind == NameKind.cell <;> simp [hkc]) _ _ _ _ ?_);rw [show ({ s with heap:=s.heap.push { cls:=.type "dict",data:=.dict #[] } }:Ai).heap.objs.size=s.heap.objs.size + 1 from Fz ..];exact Ah (Aq (Aq hQ))
def KA (X:Cx) (scope:Bu) (C:Addr):List (Str×Addr):=CT (C + 1) scope.names (CY X.env.cells scope.names [])
def B2 (X:Cx) (s2:Ai) (H2:Hp) (scope:Bu) (C:Addr) (N':List Str) (fp:List Addr) (pins:List (Addr×Obj)):Cx:=
 { X with N:=N',s₀:=s2,H₀:=H2,env:=compEnvC scope (KA X scope C) C X.env,outer:=X.stack,stack:=X.stack,ex:=fp,fn:=λ x=>scope.names.contains (x,NameKind.cell),pn:=X.pn++pins,xe:=λ _ _=>False }
structure CompOk (X:Cx) (scope:Bu) (N':List Str) (k:Nat):Prop where
 kind:scope.kind=.function
 dis:∀ x,(x,NameKind.free)∈scope.names->(x,NameKind.cell)∉scope.names
 names:∀ x∈scope.names,x.2=.local->scope.names.lookup x.1=some .local
 len:N'.length=X.N.length + k
 free:∀ x∈scope.names,x.2=.free->X.env.kindOf x.1=some .cell\/X.env.kindOf x.1=some .free
 kinds:∀ x,(HJ scope X.env).names.lookup x=some .cell\/(HJ scope X.env).names.lookup x=some .free->(x,NameKind.free)∈scope.names\/(x,NameKind.cell)∈scope.names
 capt:∀ (i:Nat) (x:Str),i < X.N.length->N'[i]?=some x->Hu (HJ scope X.env) x->X.N[i]?=some x/\Hu X.env.scope x/\(x,NameKind.free)∈scope.names/\(HJ scope X.env).names.lookup x≠some .local
section
variable {X:Cx}{scope:Bu}{N':List Str}{k:Nat}{pins:List (Addr×Obj)}{σ:St}{H2:Hp}{s2:Ai}{fp:List Addr}{C:Addr}
def CompOk.cells (c:CompOk X scope N' k) (I:Inv X pins σ H2 s2):∀ x∈scope.names,x.2=.free->∃ a,X.env.cells.lookup x.1=some a:=λ x hx hf=>I.ok.has x.1 (c.free x hx hf)
def CompOk.cl (c:CompOk X scope N' k) (I:Inv X pins σ H2 s2) {x:Str}{a:Addr} (h:(KA X scope C).lookup x=some a):X.env.cells.lookup x=some a\/(C + 1<=a/\(x,NameKind.cell)∈scope.names):=
 (PM _ _ _ x a h).imp (λ z=>GB _ x a _ [] (c.cells I) (λ z=>nomatch z) z) id
def CompOk.old (c:CompOk X scope N' k) (I:Inv X pins σ H2 s2) {x:Str}{a:Addr} (h:X.env.cells.lookup x=some a):a < s2.heap.objs.size:=by
 obtain ⟨v,o,ho,_⟩:=I.cell x a h;exact AI ho
def CompOk.cap (c:CompOk X scope N' k) {x:Str} (h:(x,NameKind.free)∈scope.names):∃ a,(KA X scope C).lookup x=some a/\(CY X.env.cells scope.names []).lookup x=some a:=by
 obtain ⟨a,ha⟩:=PN X.env.cells x scope.names [] h;exact ⟨a,(MV _ _ _ x (c.dis x h)).trans ha,ha⟩
def CompOk.ok (c:CompOk X scope N' k) (I:Inv X pins σ H2 s2) (hf:∀ b∈fp,BW X pins H2 b) (hC:s2.heap.objs.size<=C) (hfp:∀ b∈fp,b < s2.heap.objs.size):(B2 X s2 H2 scope C N' fp pins).Ok where
 mod:=I.ok.mod
 kind:=c.kind
 glob:=I.ok.glob
 blt:=I.ok.blt
 above:=hC
 inj:=λ x y a h1 h2=>Ro scope.names (C + 1) _ (λ x y a h1 h2=>I.ok.inj x y a (GB _ x a _ [] (c.cells I) (λ z=>nomatch z) h1) (GB _ y a _ [] (c.cells I) (λ z=>nomatch z) h2))
  (λ x a h=>Me (BL (c.old I (GB _ x a _ [] (c.cells I) (λ z=>nomatch z) h)) hC)) x y a h1 h2
 has:=λ x hx=>(c.kinds x hx).elim (λ z=>let ⟨a,h,_⟩:=c.cap (C:=C) z;⟨a,h⟩) λ z=>let ⟨a,h,_⟩:=Oi scope.names (C + 1) (CY X.env.cells scope.names []) x z;⟨a,h⟩
 cab:=λ x a h e=>by
  have hx:(x,NameKind.cell)∈scope.names:=by
   have h':scope.names.contains (x,NameKind.cell)=true:=h;simpa using h'
  obtain ⟨a',e',l⟩:=Oi scope.names (C + 1) (CY X.env.cells scope.names []) x hx;have e2:(CT (C + 1) scope.names (CY X.env.cells scope.names [])).lookup x=some a:=e;rw [e'] at e2;cases e2;exact BF hC (HZ l)
 hd:=I.ok.hd
 frames:=I.ok.frames
 stk:=.inl rfl
 exf:=λ b hb=>⟨BJ (BL (hfp b hb) hC),λ x a h=>(c.cl I h).elim (λ z=>(hf b hb).2.2.2.2.1 x a z) λ z=>EG (BL (hfp b hb) (BF hC (HZ z.1)))⟩
 bs:=I.bs
 bsz:=BF I.ok.bsz I.sz
 noex:=λ b o e hb=>by
  rcases (hf b hb).2.2.2.1 with z | z
  ·exact I.ok.noex b o e z
  ·exact absurd (BL (AI e) (BF I.ok.bsz z)) (Di _)
 exfs:=λ b hb hz=>by
  rcases jb9.mp (I.stkSub b hz) with z | z
  ·exact (hf b hb).2.1 z
  ·exact (hf b hb).2.2.1 z
 funs:=I.stack
 frf:=I.stkFree
def CompOk.inv (c:CompOk X scope N' k) (I:Inv X pins σ H2 s2) (hf:∀ b∈fp,BW X pins H2 b) (hfp:∀ b∈fp,b < s2.heap.objs.size) {H3:Hp}{h':Heap}{t':Nat}{m:Str->Option Ae}{D:Addr} (hCD:D≠C) (hD:s2.heap.objs.size<=D) (hC:s2.heap.objs.size<=C)
  (keep:∀ b o,s2.heap.get? b=some o->h'.get? b=some o) (ns:h'.Ns C m) (hH:∀ b,b≠D->H3 b=H2 b) (hok:HOk X.prog X.w H3 h') (hC3:H3 C=none) (hDC:D < C) (hcN:∀ x a,(KA X scope C).lookup x=some a->C + 1<=a->h'.IsCell a none):
  Inv (B2 X s2 H2 scope C N' fp pins) [] (σ++A9 k none) H3 { s2 with heap:=h',toks:=t' } where
 ok:=c.ok I hf hC hfp
 os:=rfl
 bare:=I.bare
 base:=by
  have nD:∀ b o,s2.heap.get? b=some o->b≠D:=λ b o e=>BJ (BL (AI e) hD);refine ⟨λ b o e _ _ _=>keep b o e,λ b o e _ _ _=>⟨o.slots,keep b o e⟩,λ b o e n _=>by rw [hH b (nD b o e)];exact n,λ b o e _=>⟨o,keep b o e⟩,λ b xs e=>?_,λ b o u e=>?_,λ b ps e=>⟨#[],?_⟩⟩
  ·have e:H2 b=some (.tup xs):=e;rw [hH b (λ z=>by rw [z,I.hok.fresh hD] at e;cases e)];exact e
  ·have e:H2 b=some (.frz o u):=e;rw [hH b (λ z=>by rw [z,I.hok.fresh hD] at e;cases e)];exact e
  ·have e:H2 b=some (.tbl ps):=e;rw [hH b (λ z=>by rw [z,I.hok.fresh hD] at e;cases e)];simpa using e
 loc:=by
  refine ⟨m,ns,λ i x v e1 e2 e3=>?_⟩;have hi:i < σ.length:=by
   by_cases hi:i < σ.length
   ·exact hi
   ·rw [FG (by omega),Gi] at e2;split at e2 <;> cases e2
  rw [C9 hi] at e2;obtain ⟨n1,n2,n3,n4⟩:=c.capt i x (by rw [<- I.len];exact hi) e1 e3;obtain ⟨m0,ns0,hl⟩:=I.loc;obtain ⟨u,r,lk⟩:=hl i x v n1 e2 n2;refine ⟨u,r,.inr ⟨?_,?_⟩⟩
  ·rcases e3 with z | z | z
   ·exact absurd z n4
   ·exact .inl z
   ·exact .inr z
  ·obtain ⟨a,ha,hb⟩:=c.cap (C:=C) n3;have ha':=GB _ x a _ [] (c.cells I) (λ z=>nomatch z) hb;refine ⟨a,ha,?_⟩;rcases lk with ⟨hk,_⟩ | ⟨hk,a2,ha2,hc⟩
   ·rcases c.free _ n3 rfl with z | z <;> rw [hk] at z <;> cases z
   ·rw [ha'] at ha2;cases ha2;obtain ⟨o,ho,hd⟩:=hc;exact ⟨o,keep _ _ ho,hd⟩
 cell:=λ x a h=>by
  rcases c.cl I h with z | z
  ·obtain ⟨v,o,ho,hd⟩:=I.cell x a z;exact ⟨v,o,keep _ _ ho,hd⟩
  ·exact ⟨none,hcN x a h z.1⟩
 free:=hC3
 freeC:=λ x a h=>by
  rcases c.cl I h with ha | z
  ·obtain ⟨v,o,ho,hd⟩:=I.cell x a ha;rw [hH a (BJ (BL (AI ho) hD))];exact I.freeC x a ha
  ·rw [hH a (EG (BL hDC (HZ z.1)))];exact I.hok.fresh (BF hC (HZ z.1))
 pin:=λ p hp=>by
  have hp':p∈X.pn++pins:=by simpa [B2] using hp
  obtain ⟨e,n,ne,nf,d⟩:=I.pin p hp';have hlt:=AI e;exact ⟨keep _ _ e,by rw [hH p.1 (BJ (BL hlt hD))];exact n,BJ (BL hlt hC),λ z=>(jb9.mp (I.stkSub p.1 z)).elim ne nf,d⟩
 hok:=hok
 len:=by
  show (σ++A9 k none).length=N'.length;rw [Br,EM,c.len,I.len]
def Jn (X:Cx) (ifs:List Expr) (t:TT):Prop:=
 ∀ (pins:List (Addr×Obj)) (s:Ai) (σ:St) (H:Hp) (Q:Bool->Hp->Prop),Inv X pins σ H s->t σ H Q ->
  Am (Ax X.prog X.w) X.A (forIn ifs true λ c r=>if r=true then do let ok<-isTrue c X.env (eval c X.env);pure (ForInStep.yield ok) else pure (ForInStep.yield r)) (TP X pins σ Q) X.xe s
def wY {X:Cx}:Jn X [] (λ _ H Q=>Q true H):=λ _ _ _ H _ I h=>Aq ⟨H,I,h⟩
def wZ {X:Cx}{c:Expr}{t:TT} (hc:PT X c t):Jn X [c] t:=by
 intro pins s σ H Q I h;rw [O7];refine Ah ?_;rw [if_pos rfl];refine Ah (A0 (hc pins s σ H Q I h) λ b s1 q=>Aq ?_);exact Aq q
def CompOk.again (c:CompOk X scope N' k) (I:Inv X pins σ H2 s2) {σ':St}{H':Hp}{s':Ai}{ps:List (Addr×Obj)} (hfp:∀ b∈fp,BW X pins H2 b) (J:Inv (B2 X s2 H2 scope C N' fp pins) ps σ' H' s'):Inv (B2 X s2 H2 scope C N' fp pins) ps (σ++A9 k none) H' s' where
 ok:=J.ok
 os:=J.os
 bare:=J.bare
 base:=J.base
 loc:=by
  obtain ⟨m,ns,_⟩:=J.loc;refine ⟨m,ns,λ i x v e1 e2 e3=>?_⟩;have hi:i < σ.length:=by
   by_cases hi:i < σ.length
   ·exact hi
   ·rw [FG (by omega),Gi] at e2;split at e2 <;> cases e2
  rw [C9 hi] at e2;obtain ⟨n1,n2,n3,n4⟩:=c.capt i x (by rw [<- I.len];exact hi) e1 e3;obtain ⟨m0,ns0,hl⟩:=I.loc;obtain ⟨u,r,lk⟩:=hl i x v n1 e2 n2;refine ⟨u,r,.inr ⟨?_,?_⟩⟩
  ·rcases e3 with z | z | z
   ·exact absurd z n4
   ·exact .inl z
   ·exact .inr z
  ·obtain ⟨a,ha,hb⟩:=c.cap (C:=C) n3;have ha':=GB _ x a _ [] (c.cells I) (λ z=>nomatch z) hb;refine ⟨a,ha,?_⟩;rcases lk with ⟨hk,_⟩ | ⟨hk,a2,ha2,hc⟩
   ·rcases c.free _ n3 rfl with z | z <;> rw [hk] at z <;> cases z
   ·rw [ha'] at ha2;cases ha2;obtain ⟨o,ho,hd⟩:=hc;obtain ⟨sl,ho'⟩:=J.base.any (b:=a) (ob:=o) ho (I.freeC x a ha') λ z=>(hfp a z).2.2.2.2.1 x a ha' rfl;exact ⟨_,ho',hd⟩
 cell:=J.cell
 free:=J.free
 freeC:=J.freeC
 pin:=J.pin
 hok:=J.hok
 len:=by
  show (σ++A9 k none).length=N'.length;rw [Br,EM,c.len,I.len]
theorem xn {prog:AD}{w:AA}{A:Bf}{R:Result->Ai->Prop}{s:Ai}{elt target iter:Expr}{ifs:List Expr}{scope:Bu}{pos:Pos}{it acc:Ae}{env:Env} (I:Nat->Ai->Prop)
  (turn:∀ n s,I n s->Am (Ax prog w) A (Ek it) (λ r s₁=>match r with
   | none=>R (.ok .next) s₁
   | some v=>Am (Ax prog w) A (Nm target it v) (λ _ s₁'=>Am (Ax prog w) A (GU target env v) (λ _ s₂=>
     Am (Ax prog w) A (forIn ifs true λ c r=>if r=true then do let ok<-isTrue c env (eval c env);pure (ForInStep.yield ok) else pure (ForInStep.yield r)) (λ ok s₃=>
      if ok=true then Am (Ax prog w) A (eval elt env) (λ x s₄=>
       Am (Ax prog w) A (call (.builtin "list.append") [acc,x]) (λ _ s₅=>∃ m,m < n/\I m s₅) (λ _ _=>False) s₄) (λ _ _=>False) s₃
      else ∃ m,m < n/\I m s₃) (λ _ _=>False) s₂) (λ _ _=>False) s₁') (λ _ _=>False) s₁) (λ _ _=>False) s)
  (n:Nat) (h:I n s):
  HH (Ax prog w) A (.compLoop (.ListComp elt [⟨target,iter,ifs,0⟩] scope pos) 0 it acc env) R s:=by
 refine codeAny_loop rfl I (λ n s hI=>?_) n h;show Am _ A ((compTurn (.ListComp elt [⟨target,iter,ifs,0⟩] scope pos) 0 it acc env).onRaise (λ x=>do noteFrame x env;theTreesLotGoes x)) _ _ s;refine wpAny_noted ?_;rw [compTurn_list];refine Ah (Nj (Ah (Gz (turn n s hI) (λ r s₁ h₁=>?_) λ _ _ h'=>h'.elim)));cases r with
 | none=>exact Aq h₁
 | some v=>
  refine Ah (Gz h₁ (λ _ s₁' h₁'=>?_) λ _ _ h'=>h'.elim);refine Ah (Gz h₁' (λ _ s₂ h₂=>Ah (Gz h₂ (λ ok s₃ h₃=>?_) λ _ _ h'=>h'.elim)) λ _ _ h'=>h'.elim);cases ok with
  | false=>exact Aq ⟨rfl,h₃⟩
  | true=>
   exact Ah (Ah (Gz h₃ (λ x s₄ h₄=>Ah (Gz h₄ (λ _ s₅ h₅=>Aq (Aq ⟨rfl,h₅⟩)) λ _ _ h'=>h'.elim)) λ _ _ h'=>h'.elim))
def Uy {elt iter tg:Expr}{ifs:List Expr}{pos:Pos}{J:It}{it:Addr}{tn:Nat->Heap->Prop}{g:TG}{tc:TT}{te:TE}{RR:Ae->Addr->Result->Ai->Prop}{Q:VK}{E:Ae->Ai->Prop}
  (c:CompOk X scope N' k) (hcalm:X.calm=true) (I:Inv X pins σ H2 s2) (T:Turn X.prog X.w X.K tg J fp it tn) (st:tn 0 s2.heap) (hf:∀ b∈fp,BW X pins H2 b)
  (hg:∀ C fp,PG (B2 X s2 H2 scope C N' fp pins) tg g) (hc:∀ C fp,Jn (B2 X s2 H2 scope C N' fp pins) ifs tc) (he:∀ C fp,PE (B2 X s2 H2 scope C N' fp pins) elt te)
  (h:∀ D,H2 D=none->∃ W:Nat->Nat->List V->Hp->Prop,(∃ m,W 0 m [] (As H2 D (.lst [])))/\∀ i m ys H,W i m ys H->H D=some (.lst ys) /\
   ((J.stop i H/\Q (.ref D) H)\/(J.go i H/\∀ x H',J.yld i H x H'->g x (σ++A9 k none) H' λ σ2 H2=>tc σ2 H2 λ b H3=>if b=true then te σ2 H3 λ y H4=>H4 D=some (.lst ys)/\ys.length < Aw/\∃ m',m' < m/\W (i + 1) m' (ys++[y]) (As H4 D (.lst (ys++[y]))) else ∃ m',m' < m/\W (i + 1) m' ys H3)))
  (hRR:∀ D C σ' H' s',s2.heap.objs.size<=C->Inv (B2 X s2 H2 scope C N' fp pins) [] σ' H' s'->Q (.ref D) H'->RR (.ref D) C (.ok .next) s')
  :
  Am (Ax X.prog X.w) X.A (newList []) (λ acc s₃=>Am (Ax X.prog X.w) X.A (Qe scope X.env.globals (CY X.env.cells scope.names []) [] X.env.qual none .none (some X.env)) (λ cenv s₄=>
   HH (Ax X.prog X.w) X.A (.compStart (.ListComp elt [⟨tg,iter,ifs,0⟩] scope pos) 0 (.ref it) acc { cenv with scope:=HJ scope X.env }) (RR acc cenv.locals) s₄) E s₃) E s2:=by
 refine Es (xt ?_);dsimp only;generalize hH2:s2.heap.push { cls:=.type "list",dict:=none,data:=.seq ([]:List Ae).toArray }=HP;obtain ⟨h₁,hh₁⟩:∃ h₁,h₁=pushCells (HP.push { cls:=.type "dict",data:=.dict #[] }) scope.names:=⟨_,rfl⟩
 rw [<- hh₁];have kk:∀ b o,HP.get? b=some o->h₁.get? b=some o:=λ b o e=>by rw [hh₁];exact Qh _ _ b o (AS _ e)
 have hns₁:h₁.Ns HP.objs.size (λ _=>none):=by rw [hh₁];exact (Heap.Ns.new HP (.type "dict")).keeps (Qh _ _)
 have hC:HP.objs.size=s2.heap.objs.size + 1:=by rw [<- hH2,Fz]
 have hDC:s2.heap.objs.size≠HP.objs.size:=by rw [hC];exact BJ (Gd _)
 have hCle:s2.heap.objs.size<=HP.objs.size:=by rw [hC];exact O0 _
 have hfp:∀ b∈fp,b < s2.heap.objs.size:=λ b hb=>by
  obtain ⟨o,e,_⟩:=T.obj 0 _ st b hb;exact AI e
 have HC:∀ b,b < s2.heap.objs.size->b≠HP.objs.size:=λ b hb=>by rw [hC];exact BJ (Me hb)
 have old:∀ b o,s2.heap.get? b=some o->h₁.get? b=some o:=λ b o e=>kk b o (hH2 ▸ AS _ e);have hacc:h₁.get? s2.heap.objs.size=some { cls:=.type "list",dict:=none,data:=.seq ([]:List Ae).toArray }:=kk _ _ (hH2 ▸ Bw _ rfl);have fD:H2 s2.heap.objs.size=none:=I.hok.fresh (A4 _);obtain ⟨W,⟨m0,w0⟩,hW⟩:=h _ fD;have hok3:HOk X.prog X.w (As H2 s2.heap.objs.size (.lst [])) h₁:=I.hok.laid old (A4 _) ⟨Ea _,[],0,.nil,hacc⟩;have st1:tn 0 h₁:=T.keep _ _ _ st λ b hb o e=>old b o e;have I3:Inv (B2 X s2 H2 scope HP.objs.size N' fp pins) [] (σ++A9 k none) (As H2 s2.heap.objs.size (.lst [])) { s2 with heap:=h₁ }:=
  c.inv I hf hfp (t':=s2.toks) hDC (A4 _) hCle old hns₁ (λ b hb=>AL hb) hok3 (by rw [AL (Dw hDC)];exact I.hok.fresh hCle) (by rw [hC];exact Gd _) (λ x a h l=>by
   have hs:(HP.push { cls:=.type "dict",data:=.dict #[] }).objs.size=HP.objs.size + 1:=Fz ..;have h':(CT (HP.push { cls:=.type "dict",data:=.dict #[] }).objs.size scope.names (CY X.env.cells scope.names [])).lookup x=some a:=by rw [hs];exact h
   rcases Sg scope.names _ _ x a h' with z | z
   ·exact absurd (BL (c.old I (GB _ x a _ [] (c.cells I) (λ z=>nomatch z) z)) (BF hCle (HZ l))) (Di _)
   ·rw [hh₁];exact z)
 have fx:∀ {H':Hp},(∀ b∈fp,H' b=none)->∀ b∈fp,BW (B2 X s2 H2 scope HP.objs.size N' fp pins) [] H' b:=λ hn b hb=>by
  obtain ⟨f0,f1,f2,f3,f4,f5⟩:=hf b hb;refine ⟨hn b hb,BJ (BL (hfp b hb) hCle),λ hz=>?_,.inl hb,λ x a h=>(c.cl I h).elim (λ z=>f4 x a z) λ z=>EG (BL (hfp b hb) (BF hCle (HZ z.1))),λ p hp=>f5 p (by simpa [B2] using hp)⟩;rcases jb9.mp (I.stkSub b hz) with z | z
  ·exact f1 z
  ·exact f2 z
 have f0:∀ b∈fp,(As H2 s2.heap.objs.size (.lst [])) b=none:=λ b hb=>by rw [AL (BJ (hfp b hb))];exact (hf b hb).1
 have loop:∀ s₃:Ai,s₃={ s2 with heap:=h₁ } ->
   HH (Ax X.prog X.w) X.A (.compLoop (.ListComp elt [⟨tg,iter,ifs,0⟩] scope pos) 0 (.ref it) (.ref s2.heap.objs.size) (compEnvC scope (KA X scope HP.objs.size) HP.objs.size X.env))
    (RR (.ref s2.heap.objs.size) HP.objs.size) s₃:=by
  rintro s₃ rfl;refine xn (λ n s'=>∃ i H' ys,Inv (B2 X s2 H2 scope HP.objs.size N' fp pins) [] (σ++A9 k none) H' s'/\tn i s'.heap/\(∀ b∈fp,H' b=none)/\W i n ys H') ?_ m0 ⟨0,_,[],I3,st1,f0,w0⟩;rintro n s4 ⟨i,H4,ys,I4,st4,fr4,w4⟩;obtain ⟨hD4,hcase⟩:=hW i n ys H4 w4;rcases hcase with ⟨stop,qn⟩ | ⟨go,step⟩
  ·refine A0 (T.done (B2 X s2 H2 scope HP.objs.size N' fp pins) rfl rfl rfl hcalm i [] s4 _ H4 (λ _ _=>False) I4 (fx fr4) st4 stop) λ r s5 ⟨hr,I5⟩=>?_;subst hr;exact hRR _ _ _ _ _ hCle I5 qn
  ·refine A0 (T.item (B2 X s2 H2 scope HP.objs.size N' fp pins) rfl rfl rfl hcalm i [] s4 _ H4 (λ _ _=>False) I4 (fx fr4) st4 go) λ r s5 ⟨u,hr,h5⟩=>?_;subst hr;refine A0 h5 λ _ s6 ⟨x,H6,I6,r6,y6,st6,fr6⟩=>?_;have I6':=I6.pinned (fx fr6) (T.obj _ _ st6);have stays:∀ {σ':St}{H':Hp}{s':Ai},Inv (B2 X s2 H2 scope HP.objs.size N' fp pins) ([]++KO fp s6.heap) σ' H' s'->Inv (B2 X s2 H2 scope HP.objs.size N' fp pins) [] (σ++A9 k none) H' s'/\tn (i + 1) s'.heap/\∀ b∈fp,H' b=none:=λ {σ' H' s'} J=>by
    refine ⟨c.again I hf J.unpinned,T.keep _ _ _ st6 λ b hb o e=>(J.pin (b,o) (CM _ (CM _ (MA hb e)))).1,λ b hb=>?_⟩;obtain ⟨o,e,d⟩:=T.obj _ _ st6 b hb;exact (J.pin (b,o) (CM _ (CM _ (MA hb e)))).2.1
   refine A0 (hg _ _ _ s6 _ H6 x u _ I6' r6 (step x H6 y6)) λ _ s7 ⟨σ7,H7,I7,q7⟩=>?_;refine A0 (hc _ _ _ s7 σ7 H7 _ I7 q7) λ b s8 ⟨H8,I8,q8⟩=>?_;cases b with
   | false=>
    rw [if_neg BK] at q8 ⊢;obtain ⟨m',hm,w'⟩:=q8;obtain ⟨j1,j2,j3⟩:=stays I8;exact ⟨m',hm,i + 1,H8,ys,j1,j2,j3,w'⟩
   | true=>
    rw [if_pos rfl] at q8 ⊢;refine A0 (he _ _ _ s8 σ7 H8 _ I8 q8) λ y s9 ⟨z,H9,I9,r9,hD9,hz9,m',hm,w'⟩=>?_;refine A0 (UW (X:=B2 X s2 H2 scope HP.objs.size N' fp pins) _ s9 σ7 H9 (.ref s2.heap.objs.size) [z] (.ref s2.heap.objs.size) [y] (λ _ H'=>H'=As H9 s2.heap.objs.size (.lst (ys++[z]))) I9 rfl (.cons r9 .nil) ⟨_,ys,z,rfl,rfl,hD9,hz9,rfl⟩) λ _ s10 ⟨_,H10,I10,_,e10⟩=>?_;subst e10;obtain ⟨j1,j2,j3⟩:=stays I10;exact ⟨m',hm,i + 1,_,_,j1,j2,j3,w'⟩
 exact codeAny_compStart_list (loop _ rfl) (T.self _ 0 _ _ _ st1 (loop _ rfl))
def CompOk.out (I:Inv X pins σ H2 s2) (hf:∀ b∈fp,BW X pins H2 b) {σ':St}{H':Hp}{s':Ai} (J:Inv (B2 X s2 H2 scope C N' fp pins) [] σ' H' s'):Inv X pins σ H' s':=
 I.call' (ch:=fp) J.os J.base J.hok J.bare λ b hb=>⟨(hf b hb).2.2.2.1,(hf b hb).2.1,(hf b hb).2.2.2.2.1,(hf b hb).2.2.2.2.2⟩
def CompOk.away (I:Inv X pins σ H2 s2) (hC:s2.heap.objs.size<=C) {σ':St}{H':Hp}{s':Ai} (J:Inv X pins σ' H' s') (hC':H' C=none) {h':Heap} (sb:IA C s'.heap h'):Inv X pins σ' H' { s' with heap:=h' }:=by
 have lt:∀ b o,s2.heap.get? b=some o->b≠C:=λ b o e=>BJ (BL (AI e) hC);refine J.turned (t':=s'.toks) (it:=C) (λ b o hb e=>(sb.2 b hb).trans e) hC' (EG (BL I.lt hC)) (.inr (BF I.sz hC)) (λ x c h=>?_) λ p hp=>?_
 ·obtain ⟨v,o,ho,_⟩:=I.cell x c h;exact lt c o ho
 ·exact lt p.1 p.2 (I.pin p hp).1
variable {elt iter tg:Expr}{ifs:List Expr}{pos:Pos}{wi:TI}{g:TG}{tc:TT}{te:TE}
def X4 (c:CompOk X scope N' k) (hcalm:X.calm=true) (hi:PI X tg iter wi) (hg:∀ s2 H2 C fp pins,PG (B2 X s2 H2 scope C N' fp pins) tg g) (hc:∀ s2 H2 C fp pins,Jn (B2 X s2 H2 scope C N' fp pins) ifs tc)
  (he:∀ s2 H2 C fp pins,PE (B2 X s2 H2 scope C N' fp pins) elt te) (hs:∀ x,Nt iter X.env x=pure x):PE X (.ListComp elt [⟨tg,iter,ifs,0⟩] scope pos) (Oa k wi g tc te):=by
 intro pins s σ H Q I h;rw [eval_ListComp];refine wpAny_comprehension_free (use:=none) rfl hs (Ux (c.cells I)) c.kind c.names ?_;refine A0 (hi pins s σ H _ I h) λ v s1 h1=>A0 h1 λ itv s2 h2=>?_;obtain ⟨it,fp,tn,J,H',e,I2,T,st2,f2,W⟩:=h2;subst e;refine Uy (RR:=λ acc C=>compPost (Ax X.prog X.w) X.A X.xe none (EP X pins σ Q) acc C) c hcalm I2 T st2 f2 (λ C fp=>hg s2 H' C fp pins) (λ C fp=>hc s2 H' C fp pins) (λ C fp=>he s2 H' C fp pins) W λ D C σ' H3 s' hC J3 q=>?_;obtain ⟨m,ns,_⟩:=J3.loc;exact ⟨m,ns,λ h' sb=>⟨.ref D,H3,CompOk.away I2 hC (CompOk.out I2 f2 J3) J3.free sb,rfl,q⟩⟩
theorem dr {i:Nat}{x:Str}{pos' spos:Pos} (hN:X.N.Nodup) (hi':X.N[i]?=some x) (hx:Hv X.env.scope x) (hfn:X.fn x=true\/X.env.scope.names.lookup x=some .local) (c:CompOk X scope N' k) (hcalm:X.calm=true) (hi:PI X tg iter wi) (hg:∀ s2 H2 C fp pins,PG (B2 X s2 H2 scope C N' fp pins) tg g) (hc:∀ s2 H2 C fp pins,Jn (B2 X s2 H2 scope C N' fp pins) ifs tc)
  (he:∀ s2 H2 C fp pins,PE (B2 X s2 H2 scope C N' fp pins) elt te) (hs:∀ x,Nt iter X.env x=pure x):PS X (.Assign [.Name x pos'] (.ListComp elt [⟨tg,iter,ifs,0⟩] scope pos) spos) (Ff (Oa k wi g tc te) (GR i)):=by
 have hsw:∃ b,swapsWith (.ListComp elt [⟨tg,iter,ifs,0⟩] scope pos) (some (.Name x pos')) spos.line X.env=pure b:=⟨_,rfl⟩
 obtain ⟨b,hsw⟩:=hsw;cases b with
 | false=>exact RB hN hi' hx (X4 c hcalm hi hg hc he hs) hsw hfn
 | true=>
  intro pins s σ H D I h;rw [exec_Assign_Name_used _ _ _ _ hsw];refine Ah (Nj (Ah ?_));show Am _ X.A (do let _<-comprehension (.ListComp elt [⟨tg,iter,ifs,0⟩] scope pos) scope X.env _ (newList []) false (eval iter X.env) (some (GU (.Name x pos') X.env))) _ _ s;refine Ah (Gz (wpAny_comprehension_free (use:=some (GU (.Name x pos') X.env)) (Q:=λ _ s'=>SP X pins D .next s') rfl hs (Ux (c.cells I)) c.kind c.names ?_) (λ _ s' hq=>Aq (Aq hq)) λ _ _ e=>e);refine A0 (hi pins s σ H _ I h) λ v s1 h1=>A0 h1 λ itv s2 h2=>?_;obtain ⟨it,fp,tn,J,H',e,I2,T,st2,f2,W⟩:=h2;subst e;refine Uy (Q:=λ x H1=>GR i x σ H1 D.nx) (RR:=λ acc C=>compPost (Ax X.prog X.w) X.A X.xe (some (GU (.Name x pos') X.env)) (λ _ s'=>SP X pins D .next s') acc C) c hcalm I2 T st2 f2 (λ C fp=>hg s2 H' C fp pins) (λ C fp=>hc s2 H' C fp pins) (λ C fp=>he s2 H' C fp pins) W λ E C σ' H3 s' hC J3 q=>?_;obtain ⟨m,ns,_⟩:=J3.loc;have I3:=CompOk.out I2 f2 J3;show Am _ X.A (GU (.Name x pos') X.env (.ref E)) _ _ _;refine wpAny_assign_Name (Vf I3 hN hi' hx (v:=.ref E) rfl (λ s'' I4 hsb=>?_) hfn);obtain ⟨a,sb,ha⟩:=hsb;have hCa:C≠a:=by
   rcases ha with z | z
   ·rw [z];exact EG (BL I2.lt hC)
   ·obtain ⟨v,o,ho,_⟩:=I2.cell x a z;exact EG (BL (AI ho) hC)
  exact ⟨m,ns.sameBut sb hCa,λ h' sb'=>⟨_,H3,CompOk.away I2 hC I4 J3.free sb',q⟩⟩
def gJ {P:AD}{w:AA}{K:Frag}{tg:Expr} (z:Str) (tk:Tok) (it:Addr):Turn P w K tg (Uk z) [it] it (λ i h=>h.IsStrIter it "str_ascii_iterator" z tk i) where
 mem:=by simp
 obj:=λ i h st b hb=>by
  have e:b=it:=by simpa using hb
  subst e;obtain ⟨o,e,c,d⟩:=st;exact ⟨o,e,λ v z=>by rw [d] at z;cases z⟩
 keep:=λ i h h' st k=>by
  obtain ⟨o,e,r⟩:=st;exact ⟨o,k it (by simp) o e,r⟩
 item:=by
  intro X hP hw hK hc i pins s σ H E I hf st hg;subst hP hw hK;have hi:i < z.cps.size:=hg;obtain ⟨f0,f1,f2,f3,f4,f5⟩:=hf it (by simp);refine wpAny_pyNext_ascii_item st (c:=z.cps[i]) (by simp [hi]) λ h' st' sb=>?_;have I1:Inv X pins σ H { s with heap:=h',toks:=s.toks + 1 }:=I.turned (t':=s.toks + 1) (λ b o hb e=>(sb.2 b hb).trans e) f0 f1 f3 f4 f5;obtain ⟨o,e,c,d⟩:=id st';exact ⟨_,rfl,HE (s:={ s with heap:=h',toks:=s.toks + 1 }) e c d (by decide) ⟨.str ⟨#[z.cps[i]]⟩,H,I1,⟨_,rfl⟩,⟨rfl,z.cps[i],by simp [hi],rfl⟩,st',λ b hb=>(hf b hb).1⟩⟩
 done:=by
  intro X hP hw hK hc i pins s σ H E I hf st hg;subst hP hw hK;have hi:z.cps.size<=i:=hg;obtain ⟨f0,f1,f2,f3,f4,f5⟩:=hf it (by simp);exact wpAny_pyNext_ascii_end (I.ok.hd hc) st (by simp;omega) λ h' eb=>⟨rfl,I.turned (t':=s.toks) (λ b o hb e=>eb b o hb e) f0 f1 f3 f4 f5⟩
 self:=λ _ _ _ _ _ st h=>wpAny_pyIter_striter_ascii st h
def W8 {l:Expr}{tl:TE} (hl:PE X l tl):PI X tg l (Jg X.K tl):=by
 intro pins s σ H R I h;refine A0 (hl pins s σ H _ I h) λ v s1 ⟨x,H1,I1,r1,q1⟩=>?_;obtain ⟨a,e,⟨⟨xs,hq⟩,q⟩ | ⟨⟨xs,hq⟩,q⟩⟩ | ⟨z,e,ha,q⟩:=q1
 ·subst e;cases r1;obtain ⟨its,rv,p,hz⟩:=I1.list hq;refine wpAny_pyIter_list p.isList ?_;refine ⟨s1.heap.objs.size,[s1.heap.objs.size],_,_,H1,rfl,I1.kept (t':=s1.toks) λ b o e=>AS _ e,de a _,⟨_,Bw _ rfl,rfl,rfl⟩,λ b hb=>?_,q⟩;have e:b=s1.heap.objs.size:=by simpa using hb
  subst e;exact I1.fpOk (A4 _) (I1.hok.fresh (A4 _))
 ·subst e;cases r1;obtain ⟨its,rv,p,hz⟩:=I1.tuple hq;refine Lf (show s1.heap.IsTuple a its.toArray from p) ?_;refine ⟨s1.heap.objs.size,[s1.heap.objs.size],_,_,H1,rfl,I1.kept (t':=s1.toks) λ b o e=>AS _ e,dA a _,⟨_,Bw _ rfl,rfl,rfl⟩,λ b hb=>?_,q⟩;have e:b=s1.heap.objs.size:=by simpa using hb
  subst e;exact I1.fpOk (A4 _) (I1.hok.fresh (A4 _))
 ·subst e;obtain ⟨tk,rfl⟩:=r1;refine wpAny_pyIter_ascii ha ?_;refine ⟨s1.heap.objs.size,[s1.heap.objs.size],_,_,H1,rfl,I1.kept (t':=s1.toks) λ b o e=>AS _ e,gJ z tk _,⟨_,Bw _ rfl,rfl,rfl⟩,λ b hb=>?_,q⟩;have e:b=s1.heap.objs.size:=by simpa using hb
  subst e;exact I1.fpOk (A4 _) (I1.hok.fresh (A4 _))
end
section
variable {prog:AD}{w:AA}{A:Bf}{E:Ae->Ai->Prop}{s:Ai}
def R7 {p q:Addr}{n:Nat}{us:Array Ae}{u:Ae}{Q:Ae->Ai->Prop} (st:s.heap.IsTupleIter p q n) (ht:s.heap.IsTuple q us) (hu:us[n]?=some u) (hQ:∀ h',h'.IsTupleIter p q (n + 1)->IA p s.heap h'->Q u { s with heap:=h' }):
  Am (Ax prog w) A (HQ (.ref p)) Q E s:=by
 obtain ⟨ob,eb,cb,db⟩:=id st;obtain ⟨ot,et,_,nt,dt⟩:=ht;unfold HQ;refine Ah (Hb (name:=G0 "__next__") st.typeIs N5 (FU N5 st.typeIs Vu ?_ (Vx _)));show Am _ _ (field (.ref p) 0 >>= _) _ _ s;refine Ah (DZ eb db (x:=.ref q) rfl ?_);show Am _ _ (if (Value.ref q == Value.none)=true then _ else _) _ _ s;rw [if_neg (show ¬ ((Value.ref q == Value.none)=true) from BK)];show Am _ _ (field (.ref p) 1 >>= _) _ _ s;refine Ah (DZ eb db (x:=.int n 0) rfl ?_);show Am _ _ (seqItems? (.ref q) >>= _) _ _ s;refine Ah (GY et dt ?_);simp only [CU,hu];refine Ah (JP eb db (by simp) (Aq ⟨u,rfl,Aq (hQ _ ?_ (JT ..))⟩));exact ⟨_,JU _ eb (Qt (JR db _)),(Qk ..).trans cb,by rw [JR db];simp [Dv]⟩
def U3 {p q:Addr}{n:Nat}{us:Array Ae}{Q:Ae->Ai->Prop} (hh:A.handled=none) (st:s.heap.IsTupleIter p q n) (ht:s.heap.IsTuple q us) (hu:us[n]?=none)
  (hE:∀ h' e,Heap.ExtBut p s.heap h'->(∃ o,h'.get? e=some o/\o.cls=.type "StopIteration")->E (.ref e) { s with heap:=h' }):Am (Ax prog w) A (HQ (.ref p)) Q E s:=by
 obtain ⟨ob,eb,cb,db⟩:=id st;obtain ⟨ot,et,_,nt,dt⟩:=ht;unfold HQ;refine Ah (Hb (name:=G0 "__next__") st.typeIs N5 (FU N5 st.typeIs Vu ?_ (Vx _)));show Am _ _ (field (.ref p) 0 >>= _) _ _ s;refine Ah (DZ eb db (x:=.ref q) rfl ?_);show Am _ _ (if (Value.ref q == Value.none)=true then _ else _) _ _ s;rw [if_neg (show ¬ ((Value.ref q == Value.none)=true) from BK)];show Am _ _ (field (.ref p) 1 >>= _) _ _ s;refine Ah (DZ eb db (x:=.int n 0) rfl ?_);show Am _ _ (seqItems? (.ref q) >>= _) _ _ s;refine Ah (GY et dt ?_);simp only [CU,hu];refine Ah (wpAny_rule (Ah (JP eb db (by simp) ?_)));show Am _ _ (newExc (.type "StopIteration") [] >>= _) _ _ _;refine Ah ?_;simp only [newExc,newTuple];refine Ah (Es ?_ (by size_fits));refine Ah (m:=JN _ _) (wpAny_of_eq (a:=Value.none) (by first | rfl | (simp only [JN];rfl)) ?_);refine Es ?_ (by size_fits);simp only [raiseNew];refine Ah (wpAny_handled ?_)
 first | rw [show A.in1.handled=none from hh] | rw [hh];skip
 refine Ah (Aq (wpAny_throw (hE _ _ (((JT ..).extBut.push _).push _) ⟨_,Bw _ rfl,rfl⟩)))
structure ZApart (zz ti to p1 p2 q1 q2:Addr):Prop where
 ne1:ti≠zz
 ne2:to≠zz
 ne3:p1≠zz
 ne4:p2≠zz
 ne5:ti≠to
 ne6:ti≠p1
 ne7:ti≠p2
 ne8:to≠p1
 ne9:to≠p2
 nea:p1≠p2
 neb:q1≠zz
 nec:q1≠to
 ned:q1≠p1
 nee:q1≠p2
 nef:q2≠zz
 neg:q2≠to
 neh:q2≠p1
 nei:q2≠p2
section
variable {zz ti to p1 p2 q1 q2:Addr}{n1 n2:Nat}{us vs:Array Ae}{u v a b:Ae}
def yD {Q:Ae->Ai->Prop} (D:ZApart zz ti to p1 p2 q1 q2) (hz:Dc s.heap zz ti to .none) (hi:BZ s.heap ti (.ref p1) (.ref p2)) (ho:BZ s.heap to a b) (h1:s.heap.IsTupleIter p1 q1 n1) (h2:s.heap.IsTupleIter p2 q2 n2) (t1:s.heap.IsTuple q1 us) (t2:s.heap.IsTuple q2 vs) (hu:us[n1]?=some u) (hv:vs[n2]?=some v)
  (hQ:∀ h',Dc h' zz ti to (Dv s.heap.objs.size)->BZ h' to u v->h'.IsTupleIter p1 q1 (n1 + 1)->h'.IsTupleIter p2 q2 (n2 + 1)->BZ h' s.heap.objs.size u v->h'.objs.size=s.heap.objs.size + 1->(∀ c o,c≠zz->c≠to->c≠p1->c≠p2->s.heap.get? c=some o->h'.get? c=some o)->Q (.ref s.heap.objs.size) { s with heap:=h' }):
  Am (Ax prog w) A (vl7.«zip.__next__» ⟨[.ref zz],[]⟩) (λ fin s'=>∃ v,fin=.done (.ret v)/\Q v s') E s:=by
 show Am _ _ (field (.ref zz) 2 >>= _) _ _ _;refine Ah (DZ hz rfl (x:=.bool false) rfl ?_);show Am _ _ (field (.ref zz) 3 >>= _) _ _ _;refine Ah (DZ hz rfl (x:=.ref ti) rfl ?_);refine Ah (GY hi rfl ?_);show Am _ _ (NI (.ref zz) >>= _) _ _ _;refine Ah ?_;unfold NI;refine Ah (DZ hz rfl (x:=.none) rfl (Aq ?_));simp only [if_true];refine Ah (wpAny_rule ?_);refine Ah (DZ hz rfl (x:=.ref to) rfl ?_);refine Ah (JS hz (by simp) λ g1 y1 k1=>?_);replace y1:Dc g1 zz ti to .ellipsis:=y1;refine Ah ?_;simp only [O7,SD,ZC,Z4];refine Ah (Ah (Ni ?_));show Am _ _ (HQ (.ref p1) >>= _) _ _ _;refine Ah (R7 (h1.extBut k1.extBut D.ne3) (t1.extBut k1.extBut D.neb) hu λ g2 m2 k2=>Aq ?_);have o2:BZ g2 to a b:=k2.extBut _ _ D.ne8 (k1.extBut _ _ D.ne2 ho);refine Ah (GY o2 rfl ?_);refine Ah (Qs o2 λ g3 o3 k3=>?_);replace o3:BZ g3 to u b:=o3;refine Ah (Nf (Aq ?_));refine Ah (Ah (Ni ?_));show Am _ _ (HQ (.ref p2) >>= _) _ _ _;refine Ah (R7 (((h2.extBut k1.extBut D.ne4).extBut k2.extBut D.nea.symm).extBut k3.extBut D.ne9.symm) (((t2.extBut k1.extBut D.nef).extBut k2.extBut D.neh).extBut k3.extBut D.neg) hv λ g4 m4 k4=>Aq ?_);have o4:BZ g4 to u b:=k4.extBut _ _ D.ne9 o3;refine Ah (GY o4 rfl ?_);refine Ah (Qs o4 λ g5 o5 k5=>?_);replace o5:BZ g5 to u v:=o5;refine Ah (Nf (Aq (Aq ?_)));refine Ah (GY o5 rfl ?_);refine Ah (wpAny_newTuple ?_);have sz:g5.objs.size=s.heap.objs.size:=by rw [k5.1,k4.1,k3.1,k2.1,k1.1]
 have y5:Dc g5 zz ti to .ellipsis:=k5.extBut _ _ D.ne2.symm (k4.extBut _ _ D.ne4.symm (k3.extBut _ _ D.ne2.symm (k2.extBut _ _ D.ne3.symm y1)));have kk:∀ c o,c≠zz->c≠to->c≠p1->c≠p2->s.heap.get? c=some o->g5.get? c=some o:=λ c o c1 c2 c3 c4 e=>k5.extBut _ _ c2 (k4.extBut _ _ c4 (k3.extBut _ _ c2 (k2.extBut _ _ c3 (k1.extBut _ _ c1 e))));have m1:g5.IsTupleIter p1 q1 (n1 + 1):=((m2.extBut k3.extBut D.ne8.symm).extBut k4.extBut D.nea).extBut k5.extBut D.ne8.symm;have m5:g5.IsTupleIter p2 q2 (n2 + 1):=m4.extBut k5.extBut D.ne9.symm;have zlt:zz < g5.objs.size:=AI y5;show Am _ _ (V4 (.ref zz) (.ref g5.objs.size) >>= _) _ _ _;refine Ah ?_;unfold V4;have y6:Dc (g5.push { cls:=.type "tuple",data:=.seq #[u,v] }) zz ti to .ellipsis:=AS _ y5;refine Ah (JS y6 (by simp) λ g7 y7 k7=>?_);replace y7:Dc g7 zz ti to (Dv g5.objs.size):=y7;refine JS y7 (by simp) λ g8 y8 k8=>?_;replace y8:Dc g8 zz ti to (Dv g5.objs.size):=y8;have up:∀ c o,c≠zz->g5.get? c=some o->g8.get? c=some o:=λ c o c1 e=>k8.extBut _ _ c1 (k7.extBut _ _ c1 (AS _ e));have t8:BZ g8 g5.objs.size u v:=k8.extBut _ _ (EG zlt) (k7.extBut _ _ (EG zlt) (Bw _ rfl));have z8:g8.objs.size=g5.objs.size + 1:=by rw [k8.1,k7.1,Fz]
 rw [sz] at y8 t8 z8;refine Aq ⟨_,rfl,?_⟩;show Q (.ref g5.objs.size) _;rw [sz];exact hQ g8 y8 (up _ _ D.ne2 o5) (m1.at λ o e=>up _ o D.ne3 e) (m5.at λ o e=>up _ o D.ne4 e) t8 z8 λ c o c1 c2 c3 c4 e=>up c o c1 (kk c o c1 c2 c3 c4 e)
theorem vp {Q:Fin->Ai->Prop} (hh:A.handled=none) (D:ZApart zz ti to p1 p2 q1 q2) (hz:Dc s.heap zz ti to .none) (hi:BZ s.heap ti (.ref p1) (.ref p2)) (ho:BZ s.heap to a b) (h1:s.heap.IsTupleIter p1 q1 n1) (h2:s.heap.IsTupleIter p2 q2 n2) (t1:s.heap.IsTuple q1 us) (t2:s.heap.IsTuple q2 vs) (hend:us[n1]?=none\/vs[n2]?=none)
  (hE:∀ h' e,(∀ c o,c≠zz->c≠to->c≠p1->c≠p2->s.heap.get? c=some o->h'.get? c=some o)->(∃ o,h'.get? e=some o/\o.cls=.type "StopIteration")->E (.ref e) { s with heap:=h' }):
  Am (Ax prog w) A (vl7.«zip.__next__» ⟨[.ref zz],[]⟩) Q E s:=by
 show Am _ _ (field (.ref zz) 2 >>= _) _ _ _;refine Ah (DZ hz rfl (x:=.bool false) rfl ?_);show Am _ _ (field (.ref zz) 3 >>= _) _ _ _;refine Ah (DZ hz rfl (x:=.ref ti) rfl ?_);refine Ah (GY hi rfl ?_);show Am _ _ (NI (.ref zz) >>= _) _ _ _;refine Ah ?_;unfold NI;refine Ah (DZ hz rfl (x:=.none) rfl (Aq ?_));simp only [if_true];refine Ah (wpAny_rule ?_);refine Ah (DZ hz rfl (x:=.ref to) rfl ?_);refine Ah (JS hz (by simp) λ g1 y1 k1=>?_);replace y1:Dc g1 zz ti to .ellipsis:=y1;refine Ah ?_;simp only [O7,SD,ZC,Z4];refine Ah (Ah (Ni ?_));show Am _ _ (HQ (.ref p1) >>= _) _ _ _;cases hu:us[n1]? with
 | none=>
  refine Ah (U3 hh (h1.extBut k1.extBut D.ne3) (t1.extBut k1.extBut D.neb) hu λ g2 e k2 ⟨oe,xe,ce⟩=>?_);have y2:Dc g2 zz ti to .ellipsis:=k2 _ _ D.ne3.symm y1;have ne:e≠zz:=λ x=>by subst x;rw [y2] at xe;cases xe;simp at ce
  refine JS y2 (by simp) λ g3 _ k3=>hE g3 e (λ c o c1 _ c3 _ x=>k3.extBut _ _ c1 (k2 _ _ c3 (k1.extBut _ _ c1 x))) ⟨oe,k3.extBut _ _ ne xe,ce⟩
 | some u=>
  have hv:vs[n2]?=none:=by rcases hend with h | h;rw [hu] at h;cases h;exact h
  refine Ah (R7 (h1.extBut k1.extBut D.ne3) (t1.extBut k1.extBut D.neb) hu λ g2 m2 k2=>Aq ?_);have o2:BZ g2 to a b:=k2.extBut _ _ D.ne8 (k1.extBut _ _ D.ne2 ho);refine Ah (GY o2 rfl ?_);refine Ah (Qs o2 λ g3 o3 k3=>?_);refine Ah (Nf (Aq ?_));refine Ah (Ah (Ni ?_));show Am _ _ (HQ (.ref p2) >>= _) _ _ _;refine Ah (U3 hh (((h2.extBut k1.extBut D.ne4).extBut k2.extBut D.nea.symm).extBut k3.extBut D.ne9.symm) (((t2.extBut k1.extBut D.nef).extBut k2.extBut D.neh).extBut k3.extBut D.neg) hv λ g4 e k4 ⟨oe,xe,ce⟩=>?_);have y4:Dc g4 zz ti to .ellipsis:=k4 _ _ D.ne4.symm (k3.extBut _ _ D.ne2.symm (k2.extBut _ _ D.ne3.symm y1));have ne:e≠zz:=λ x=>by subst x;rw [y4] at xe;cases xe;simp at ce
  refine JS y4 (by simp) λ g5 _ k5=>hE g5 e (λ c o c1 c2 c3 c4 x=>k5.extBut _ _ c1 (k4 _ _ c4 (k3.extBut _ _ c2 (k2.extBut _ _ c3 (k1.extBut _ _ c1 x))))) ⟨oe,k5.extBut _ _ ne xe,ce⟩
def wB {Q:Option Ae->Ai->Prop} (D:ZApart zz ti to p1 p2 q1 q2) (hz:Dc s.heap zz ti to .none) (hi:BZ s.heap ti (.ref p1) (.ref p2)) (ho:BZ s.heap to a b) (h1:s.heap.IsTupleIter p1 q1 n1) (h2:s.heap.IsTupleIter p2 q2 n2) (t1:s.heap.IsTuple q1 us) (t2:s.heap.IsTuple q2 vs) (hu:us[n1]?=some u) (hv:vs[n2]?=some v)
  (hQ:∀ h',Dc h' zz ti to (Dv s.heap.objs.size)->BZ h' to u v->h'.IsTupleIter p1 q1 (n1 + 1)->h'.IsTupleIter p2 q2 (n2 + 1)->BZ h' s.heap.objs.size u v->h'.objs.size=s.heap.objs.size + 1->(∀ c o,c≠zz->c≠to->c≠p1->c≠p2->s.heap.get? c=some o->h'.get? c=some o)->Q (some (.ref s.heap.objs.size)) { s with heap:=h' }):
  Am (Ax prog w) A (Ek (.ref zz)) Q E s:=by
 have hT:s.TypeIs (.ref zz) "zip" := ⟨_,hz,rfl⟩
 unfold Ek;exact Ah (JK (Hb (name:=G0 "__next__") hT Nk (FU Nk hT F.entry_zip_next (yD D hz hi ho h1 h2 t1 t2 hu hv λ h' a1 a2 a3 a4 a5 a6 a7=>Aq (hQ h' a1 a2 a3 a4 a5 a6 a7)) (F.args_zip_next_1 _))))
def dG {Q:Option Ae->Ai->Prop} (hh:A.handled=none) (D:ZApart zz ti to p1 p2 q1 q2) (hz:Dc s.heap zz ti to .none) (hi:BZ s.heap ti (.ref p1) (.ref p2)) (ho:BZ s.heap to a b) (h1:s.heap.IsTupleIter p1 q1 n1) (h2:s.heap.IsTupleIter p2 q2 n2) (t1:s.heap.IsTuple q1 us) (t2:s.heap.IsTuple q2 vs) (hend:us[n1]?=none\/vs[n2]?=none)
  (hQ:∀ h',(∀ c o,c≠zz->c≠to->c≠p1->c≠p2->s.heap.get? c=some o->h'.get? c=some o)->Q none { s with heap:=h' }):Am (Ax prog w) A (Ek (.ref zz)) Q E s:=by
 have hT:s.TypeIs (.ref zz) "zip" := ⟨_,hz,rfl⟩
 unfold Ek;refine Ah (JK (Hb (name:=G0 "__next__") hT Nk (FU Nk hT F.entry_zip_next (vp hh D hz hi ho h1 h2 t1 t2 hend λ h' e hk ⟨o,xo,xc⟩=>?_) (F.args_zip_next_1 _))));exact Ah (Ld (T := "StopIteration") (b:=true) ⟨o,xo,xc⟩ Qd (Aq (hQ _ hk)))
end
abbrev GJ (h:Heap) (q:Addr):Heap:=h.push { cls:=.type "tuple_iterator",data:=.fields #[.ref q,.int 0 0] }
abbrev GI (h:Heap) (q r:Addr):Heap:=(GJ h q).push { cls:=.type "tuple_iterator",data:=.fields #[.ref r,.int 0 0] }
abbrev GH (h:Heap) (q r:Addr):Heap:=(GI h q r).push { cls:=.type "tuple",data:=.seq #[.ref h.objs.size,.ref (GJ h q).objs.size] }
abbrev GG (h:Heap) (q r:Addr):Heap:=(GH h q r).push { cls:=.type "tuple",data:=.seq #[.none,.none] }
abbrev Ee (h:Heap) (q r:Addr):Heap:=(GG h q r).push { cls:=.type "zip",data:=.fields #[.none,.bool false,.bool false,.ref (GI h q r).objs.size,.ref (GH h q r).objs.size] }
def um (q r:Addr) (us vs:Array Ae):Meets (vl7.«zip.__new__» ⟨[.type "zip",.ref q,.ref r],[]⟩) (λ _ R s=>s.heap.IsTuple q us/\s.heap.IsTuple r vs/\R (.ok (.ret (.ref (GG s.heap q r).objs.size))) { s with heap:=Ee s.heap q r }):=
 .of_wp λ prog w A R s h=>by
  obtain ⟨hp,g,d,tk,os⟩:=s;obtain ⟨t1,t2,h⟩:=h;have hsub:=sub_zip;have T1:Heap.IsTuple (Shared.heap ⟨hp,g,d,tk,os⟩) q us:=t1;have T2:Heap.IsTuple (Shared.heap ⟨hp.push { cls:=.type "tuple_iterator",data:=.fields #[.ref q,.int 0 0] },g,d,tk,os⟩) r vs:=Heap.IsTuple.push t2 _
  wp_walk using Lf T1,Lf T2
  exact ⟨_,rfl,h⟩
def vB {q r:Addr}{us vs:Array Ae}{Q:Ae->Ai->Prop} (t1:s.heap.IsTuple q us) (t2:s.heap.IsTuple r vs)
  (h:∀ h',Dc h' (s.heap.objs.size + 4) (s.heap.objs.size + 2) (s.heap.objs.size + 3) .none->BZ h' (s.heap.objs.size + 2) (.ref s.heap.objs.size) (.ref (s.heap.objs.size + 1))->BZ h' (s.heap.objs.size + 3) .none .none->h'.IsTupleIter s.heap.objs.size q 0->h'.IsTupleIter (s.heap.objs.size + 1) r 0->h'.objs.size=s.heap.objs.size + 5->(∀ c o,s.heap.get? c=some o->h'.get? c=some o)->Q (.ref (s.heap.objs.size + 4)) { s with heap:=h' }):
  Am (Ax prog w) A (call (.type "zip") [.ref q,.ref r]) Q E s:=by
 refine callType_new F.called_zip (by decide) (F.typeCall_zip_2 _ _) (F.newCall_zip_2 _ _) (λ obj=>F.args_object_init_3 obj _ _) F.entry_zip_new (um q r us vs) ⟨t1,t2,?_⟩;have z1:(GJ s.heap q).objs.size=s.heap.objs.size + 1:=Fz ..;have z2:(GI s.heap q r).objs.size=s.heap.objs.size + 2:=by rw [Fz,z1]
 have z3:(GH s.heap q r).objs.size=s.heap.objs.size + 3:=by rw [Fz,z2]
 have z4:(GG s.heap q r).objs.size=s.heap.objs.size + 4:=by rw [Fz,z3]
 have z5:(Ee s.heap q r).objs.size=s.heap.objs.size + 5:=by rw [Fz,z4]
 have g5:(Ee s.heap q r).get? (GG s.heap q r).objs.size=some _:=Bw _ rfl;have g4:(Ee s.heap q r).get? (GH s.heap q r).objs.size=some _:=AS _ (Bw _ rfl);have g3:(Ee s.heap q r).get? (GI s.heap q r).objs.size=some _:=AS _ (AS _ (Bw _ rfl));have g2:(Ee s.heap q r).get? (GJ s.heap q).objs.size=some _:=AS _ (AS _ (AS _ (Bw _ rfl)));have g1:(Ee s.heap q r).get? s.heap.objs.size=some _:=AS _ (AS _ (AS _ (AS _ (Bw _ rfl))));show _/\_;rw [z2,z3,z4] at g5;rw [z1,z2] at g3;rw [z3] at g4;rw [z1] at g2;rw [z4];exact ⟨⟨_,g5,rfl⟩,h _ g5 g3 g4 ⟨_,g1,rfl,rfl⟩ ⟨_,g2,rfl,rfl⟩ z5 λ c o x=>AS _ (AS _ (AS _ (AS _ (AS _ x))))⟩
end
section
variable {X:Cx}{pins:List (Addr×Obj)}{σ:St}{H:Hp}{s:Ai}{h':Heap}
def OZ {fp:List Addr}{a:Addr}{o:HO}{t':Nat} (I:Inv X pins σ H s) (k:∀ b u,b∉fp->s.heap.get? b=some u->h'.get? b=some u) (hf:∀ b∈fp,BW X pins H b) (ha:s.heap.objs.size<=a) (new:zxg X.prog X.w (As H a o) h' a o):
  Inv X pins σ (As H a o) { s with heap:=h',toks:=t' }:=by
 have hn:H a=none:=I.hok.fresh ha;have nfp:∀ b u,H b=some u->b∉fp:=λ b u e z=>by rw [(hf b z).1] at e;cases e
 have up:∀ b u,H b=some u->As H a o b=some u:=λ b u e=>by rw [AL (λ z=>by rw [z,hn] at e;cases e)];exact e
 refine I.step (g':=s.gens) (d':=s.drawn) (ch:=fp) (λ b hb=>?_) (λ b u _ _ hc e _=>k b u hc e) (λ b u _ _ hc e _=>⟨u.slots,k b u hc e⟩) (λ b u _ e n=>?_) (λ b u hc e=>⟨u,k b u hc e⟩) (λ b xs e=>up b _ e) (λ b _ _ e=>up b _ e) (λ b ps e=>⟨#[],by rw [up b _ e];simp⟩) (λ m hm=>?_) (λ b u e=>?_) I.bare
 ·obtain ⟨_,f1,_,f3,f4,f5⟩:=hf b hb;exact ⟨f3,f1,f4,f5⟩
 ·rw [AL (λ z=>by rw [z] at e;exact absurd (AI e) (Nat.not_lt.mpr ha))];exact n
 ·obtain ⟨u,es,ep,ho,r⟩:=hm;exact ⟨u,es,ep,k _ u (λ z=>(hf _ z).2.1 rfl) ho,r⟩
 ·by_cases eb:b=a
  ·subst eb;rw [BI] at e;cases e;exact new
  ·rw [AL eb] at e;refine (I.hok b u e).stay (λ c v hc q=>k c v ?_ q) (λ c q=>up c _ q) λ c xs q=>up c _ q;rcases hc with z | z
   ·rw [z];exact nfp b u e
   ·exact nfp c _ z
def Kv {fp:List Addr}{t':Nat} (I:Inv X pins σ H s) (k:∀ b u,b∉fp->s.heap.get? b=some u->h'.get? b=some u) (hf:∀ b∈fp,BW X pins H b):Inv X pins σ H { s with heap:=h',toks:=t' }:=by
 have nfp:∀ b u,H b=some u->b∉fp:=λ b u e z=>by rw [(hf b z).1] at e;cases e
 refine I.step (g':=s.gens) (d':=s.drawn) (ch:=fp) (λ b hb=>?_) (λ b u _ _ hc e _=>k b u hc e) (λ b u _ _ hc e _=>⟨u.slots,k b u hc e⟩) (λ _ _ _ _ n=>n) (λ b u hc e=>⟨u,k b u hc e⟩) (λ _ _ e=>e) (λ _ _ _ e=>e) (λ b ps e=>⟨#[],by rw [e];simp⟩) (λ m hm=>?_) (λ b u e=>?_) I.bare
 ·obtain ⟨_,f1,_,f3,f4,f5⟩:=hf b hb;exact ⟨f3,f1,f4,f5⟩
 ·obtain ⟨u,es,ep,ho,r⟩:=hm;exact ⟨u,es,ep,k _ u (λ z=>(hf _ z).2.1 rfl) ho,r⟩
 ·refine (I.hok b u e).stay (λ c v hc q=>k c v ?_ q) (λ _ q=>q) λ _ _ q=>q;rcases hc with z | z
  ·rw [z];exact nfp b u e
  ·exact nfp c _ z
end
def Js (K:Frag) (a:Addr) (n:Nat):It:=
 ⟨λ i H=>i < n/\∃ xs x,Bd K H a xs/\xs[n - 1 - i]?=some x,λ i H x H'=>H'=H/\∀ xs,Bd K H a xs->xs[n - 1 - i]?=some x,λ i _=>n<=i⟩
def gI {P:AD}{w:AA}{K:Frag}{tg:Expr} (a it:Addr) (n:Nat):Turn P w K tg (Js K a n) [it] it (λ i h=>i<=n/\h.IsRevIter it a ((n:Int) - 1 - (i:Int))) where
 mem:=by simp
 obj:=λ i h st b hb=>by
  have e:b=it:=by simpa using hb
  subst e;obtain ⟨_,o,e,c,d⟩:=st;exact ⟨o,e,λ v z=>by rw [d] at z;cases z⟩
 keep:=λ i h h' st k=>⟨st.1,st.2.at λ o e=>k it (by simp) o e⟩
 item:=by
  intro X hP hw hK hc i pins s σ H E I hf st hg;subst hP hw hK;obtain ⟨hn,xs,x,hq,hx⟩:=hg;obtain ⟨its,rv,p,hz⟩:=I.list hq;obtain ⟨u,hu,ru⟩:=rv.get hx;have st2:=st.2;rw [show (n:Int) - 1 - (i:Int)=((n - 1 - i:Nat):Int) by omega] at st2;refine wpAny_pyNext_rev_item st2 p.isList (x:=u) (by simpa using hu) λ h' st' sb=>?_;have I1:Inv X pins σ H { s with heap:=h' }:=Kv (t':=s.toks) I (λ b o hb e=>(sb.2 b (λ z=>hb (by simp [z]))).trans e) hf;obtain ⟨o,e,c,d⟩:=id st';refine ⟨u,rfl,HE (s:={ s with heap:=h' }) e c d (by decide) ⟨x,H,I1,ru,⟨rfl,λ ys hy=>by rw [I.list_inj hy hq];exact hx⟩,⟨by omega,?_⟩,λ b hb=>(hf b hb).1⟩⟩;rw [show (n:Int) - 1 - ((i + 1:Nat):Int)=((n - 1 - i:Nat):Int) - 1 by omega];exact st'
 done:=by
  intro X hP hw hK hc i pins s σ H E I hf st hg;subst hP hw hK;have hn:n<=i:=hg;have st2:=st.2;rw [show (n:Int) - 1 - (i:Int)=-1 by have:=st.1;omega] at st2;exact wpAny_pyNext_rev_end (I.ok.hd hc) st2 λ h' eb=>⟨rfl,Kv (t':=s.toks) I (λ b o hb e=>eb b o (λ z=>hb (by simp [z])) e) hf⟩
 self:=λ _ _ _ _ _ st h=>Qr st.2 h
def Jt (K:Frag) (a:Addr):It:=
 ⟨λ i H=>∃ xs x,Bd K H a xs/\xs[i]?=some x,λ i H v H'=>∃ T x,H T=none/\v=.ref T/\H'=As H T (.tup [.int (i:Int),x])/\∀ xs,Bd K H a xs->xs[i]?=some x,λ i H=>∃ xs,Bd K H a xs/\xs.length<=i⟩
def da {P:AD}{w:AA}{K:Frag}{es:List Expr}{k:Nat}{pos:Pos} (a e it:Addr) (hne:e≠it):Turn P w K (.Tuple es k pos) (Jt K a) [e,it] e (λ i h=>(∃ old,IsEnum h e it (i:Int) old)/\h.IsListIter it a i) where
 mem:=by simp
 obj:=λ i h st b hb=>by
  obtain ⟨⟨old,he⟩,o,ho,c,d⟩:=st;rcases jb9.mp hb with z | z
  ·rw [z];exact ⟨_,he,λ v z=>by cases z⟩
  ·rw [jd0.mp z];exact ⟨o,ho,λ v z=>by rw [d] at z;cases z⟩
 keep:=λ i h h' st k=>by
  obtain ⟨⟨old,he⟩,hi⟩:=st;exact ⟨⟨old,k e (by simp) _ he⟩,hi.at λ o x=>k it (by simp) o x⟩
 item:=by
  intro X hP hw hK hc i pins s σ H E I hf st hg;subst hP hw hK;obtain ⟨xs,x,hq,hx⟩:=hg;obtain ⟨its,rv,p,hz⟩:=I.list hq;obtain ⟨u,hu,ru⟩:=rv.get hx;obtain ⟨⟨old,he⟩,hit⟩:=st;refine wpAny_pyNext_enum_item he hit p.isList (x:=u) (by simpa using hu) hne λ h' ho hit' hT hsz hk=>⟨_,rfl,?_⟩
  refine wpAny_letOwnedTupleGo_enum ho λ h2 he2 hs2=>?_;have hs0:s.heap.objs.size≠e:=EG (AI he);have hn:H s.heap.objs.size=none:=I.hok.fresh (A4 _);have hT2:h2.get? s.heap.objs.size=some { cls:=.type "tuple",data:=.seq #[.int (i:Int) s.toks,u] }:=(hs2.2 _ hs0).trans hT;have I1:Inv X pins σ (As H s.heap.objs.size (.tup [.int (i:Int),x])) { s with heap:=h2,toks:=s.toks + 1 }:=by
   refine OZ (fp:=[e,it]) I (λ b u hb q=>(hs2.2 b (λ z=>hb (by simp [z]))).trans (hk b u (λ z=>hb (by simp [z])) (λ z=>hb (by simp [z])) q)) hf (A4 _) ?_;exact ⟨BF (by decide:2<=1000) (by decide),_,.cons ⟨_,rfl⟩ (.cons ru .nil),⟨_,hT2,rfl,_,rfl⟩⟩
  refine ⟨.ref s.heap.objs.size,_,I1,rfl,⟨_,x,hn,rfl,rfl,λ ys hy=>by rw [I.list_inj hy hq];exact hx⟩,⟨⟨u,?_⟩,hit'.at λ o q=>(hs2.2 it (Dw hne)).trans q⟩,λ b hb=>?_⟩
  ·rw [show ((i + 1:Nat):Int)=(i:Int) + 1 by omega];exact he2
  ·have hb':=(hf b hb).1;rw [AL (λ z=>?_)]
   ·exact hb'
   ·rcases jb9.mp hb with y | y
    ·rw [y] at z;exact hs0 z.symm
    ·rw [jd0.mp y] at z;obtain ⟨o,q,_⟩:=hit;exact absurd (AI q) (by rw [z];exact Di _)
 done:=by
  intro X hP hw hK hc i pins s σ H E I hf st hg;subst hP hw hK;obtain ⟨xs,hq,hx⟩:=hg;obtain ⟨its,rv,p,hz⟩:=I.list hq;obtain ⟨⟨old,he⟩,hit⟩:=st;have hl:=rv.length;exact wpAny_pyNext_enum_end (I.ok.hd hc) he hit p.isList (Jb (by simp;omega)) λ h' eb=>⟨rfl,Kv (t':=s.toks) I (λ b o hb q=>eb b o (λ z=>hb (by simp [z])) q) hf⟩
 self:=λ _ _ _ _ _ st h=>by
  obtain ⟨⟨old,he⟩,_⟩:=st;exact wpAny_pyIter_enum he h
def Jr (K:Frag) (a b:Addr):It:=
 ⟨λ i H=>∃ xs ys x y,Bd K H a xs/\Bd K H b ys/\xs[i]?=some x/\ys[i]?=some y,λ i H v H'=>∃ T x y,H T=none/\v=.ref T/\H'=As H T (.tup [x,y])/\∀ xs ys,Bd K H a xs->Bd K H b ys->xs[i]?=some x/\ys[i]?=some y,λ i H=>∃ xs ys,Bd K H a xs/\Bd K H b ys/\(xs.length<=i\/ys.length<=i)⟩
def Vl {h:Heap}{z TI TO i1 i2 l1 l2:Addr}{f0:Ae}{a b c d:Ae}{k1 k2:Nat}{xs ys:Array Ae} (hTT:TI≠TO) (h12:i1≠i2) (hz:Dc h z TI TO f0) (hTI:BZ h TI a b) (hTO:BZ h TO c d) (h1:h.IsListIter i1 l1 k1) (h2:h.IsListIter i2 l2 k2) (hl1:h.IsList l1 xs) (hl2:h.IsList l2 ys):ZipApart z TI TO i1 i2 l1 l2:=by
 obtain ⟨o1,e1,c1,_⟩:=h1;obtain ⟨o2,e2,c2,_⟩:=h2;obtain ⟨p1,q1,r1,_⟩:=hl1;obtain ⟨p2,q2,r2,_⟩:=hl2;have ne:∀ {x y:Addr}{o o':Obj}{n m:String},h.get? x=some o->h.get? y=some o'->o.cls=.type n->o'.cls=.type m->n≠m->x≠y:=λ {x y o o' n m} ex ey cx cy nm z=>by
  subst z;rw [ex] at ey;cases ey;rw [cx] at cy;injection cy with cy
  exact nm cy
 exact ⟨ne hTI hz rfl rfl (by decide),ne hTO hz rfl rfl (by decide),ne e1 hz c1 rfl (by decide),ne e2 hz c2 rfl (by decide),hTT,ne hTI e1 rfl c1 (by decide),ne hTI e2 rfl c2 (by decide),ne hTO e1 rfl c1 (by decide),ne hTO e2 rfl c2 (by decide),h12,
  ne q1 hz r1 rfl (by decide),ne q1 hTO r1 rfl (by decide),ne q1 e1 r1 c1 (by decide),ne q1 e2 r1 c2 (by decide),ne q2 hz r2 rfl (by decide),ne q2 hTO r2 rfl (by decide),ne q2 e1 r2 c1 (by decide),ne q2 e2 r2 c2 (by decide)⟩
def gK {P:AD}{w:AA}{K:Frag}{es:List Expr}{k:Nat}{pos:Pos} (l1 l2 z TI TO i1 i2:Addr) (hTT:TI≠TO) (h12:i1≠i2):
  Turn P w K (.Tuple es k pos) (Jr K l1 l2) [z,TI,TO,i1,i2] z (λ i h=>Dc h z TI TO .none/\BZ h TI (.ref i1) (.ref i2)/\(∃ p q,BZ h TO p q)/\h.IsListIter i1 l1 i/\h.IsListIter i2 l2 i) where
 mem:=by simp
 obj:=λ i h st b hb=>by
  obtain ⟨hz,hTI,⟨p,q,hTO⟩,⟨o1,e1,_,d1⟩,⟨o2,e2,_,d2⟩⟩:=st;simp only [jb9,HY,or_false] at hb;rcases hb with rfl | rfl | rfl | rfl | rfl
  ·exact ⟨_,hz,λ v z=>by cases z⟩
  ·exact ⟨_,hTI,λ v z=>by cases z⟩
  ·exact ⟨_,hTO,λ v z=>by cases z⟩
  ·exact ⟨o1,e1,λ v z=>by rw [d1] at z;cases z⟩
  ·exact ⟨o2,e2,λ v z=>by rw [d2] at z;cases z⟩
 keep:=λ i h h' st k=>by
  obtain ⟨hz,hTI,⟨p,q,hTO⟩,h1,h2⟩:=st;exact ⟨k z (by simp) _ hz,k TI (by simp) _ hTI,⟨p,q,k TO (by simp) _ hTO⟩,h1.at λ o x=>k i1 (by simp) o x,h2.at λ o x=>k i2 (by simp) o x⟩
 item:=by
  intro X hP hw hK hc i pins s σ H E I hf st hg;subst hP hw hK;obtain ⟨xs,ys,x,y,hq1,hq2,hx,hy⟩:=hg;obtain ⟨its1,rv1,p1,hz1⟩:=I.list hq1;obtain ⟨its2,rv2,p2,hz2⟩:=I.list hq2;obtain ⟨u1,hu1,ru1⟩:=rv1.get hx;obtain ⟨u2,hu2,ru2⟩:=rv2.get hy;obtain ⟨hz,hTI,⟨p,q,hTO⟩,h1,h2⟩:=st;have D:=Vl hTT h12 hz hTI hTO h1 h2 p1.isList p2.isList;refine wpAny_pyNext_zip_item D hz hTI hTO h1 h2 p1.isList p2.isList (x:=u1) (y:=u2) (by simpa using hu1) (by simpa using hu2) λ h' a1 a2 a3 a4 a5 a6 hk=>⟨_,rfl,?_⟩
  refine Vr a1 λ h2' hz' hs'=>?_;have hn:H s.heap.objs.size=none:=I.hok.fresh (A4 _);have hs0:s.heap.objs.size≠z:=EG (AI hz);have I1:Inv X pins σ (As H s.heap.objs.size (.tup [x,y])) { s with heap:=h2',toks:=s.toks }:=by
   refine OZ (fp:=[z,TI,TO,i1,i2]) I (λ b u hb e=>(hs'.2 b (λ z=>hb (by simp [z]))).trans (hk b u (λ z=>hb (by simp [z])) (λ z=>hb (by simp [z])) (λ z=>hb (by simp [z])) (λ z=>hb (by simp [z])) e)) hf (A4 _) ?_;exact ⟨BF (by decide:2<=1000) (by decide),_,.cons ru1 (.cons ru2 .nil),⟨_,(hs'.2 _ hs0).trans a5,rfl,_,rfl⟩⟩
  refine ⟨.ref s.heap.objs.size,_,I1,rfl,⟨_,x,y,hn,rfl,rfl,λ xs' ys' e1 e2=>⟨by rw [I.list_inj e1 hq1];exact hx,by rw [I.list_inj e2 hq2];exact hy⟩⟩,⟨hz',(hs'.2 _ D.TIz).trans (hk _ _ D.TIz D.TITO D.TIi1 D.TIi2 hTI),⟨_,_,(hs'.2 _ D.TOz).trans a2⟩,a3.at λ o e=>(hs'.2 _ D.i1z).trans e,a4.at λ o e=>(hs'.2 _ D.i2z).trans e⟩,λ b hb=>?_⟩;have hb':=(hf b hb).1;have lt:b < s.heap.objs.size:=by
   simp only [jb9,HY,or_false] at hb;rcases hb with rfl | rfl | rfl | rfl | rfl
   ·exact AI hz
   ·exact AI hTI
   ·exact AI hTO
   ·obtain ⟨_,e,_⟩:=h1;exact AI e
   ·obtain ⟨_,e,_⟩:=h2;exact AI e
  rw [AL (BJ lt)];exact hb'
 done:=by
  intro X hP hw hK hc i pins s σ H E I hf st hg;subst hP hw hK;obtain ⟨xs,ys,hq1,hq2,hend⟩:=hg;obtain ⟨its1,rv1,p1,hz1⟩:=I.list hq1;obtain ⟨its2,rv2,p2,hz2⟩:=I.list hq2;obtain ⟨hz,hTI,⟨p,q,hTO⟩,h1,h2⟩:=st;have D:=Vl hTT h12 hz hTI hTO h1 h2 p1.isList p2.isList;have r1:=rv1.length;have r2:=rv2.length;refine wpAny_pyNext_zip_end (I.ok.hd hc) D hz hTI hTO h1 h2 p1.isList p2.isList ?_ λ h' hk=>⟨rfl,Kv (t':=s.toks) I (λ b o hb e=>hk b o (λ z=>hb (by simp [z])) (λ z=>hb (by simp [z])) (λ z=>hb (by simp [z])) (λ z=>hb (by simp [z])) e) hf⟩
  rcases hend with h | h
  ·exact .inl (Jb (by simp;omega))
  ·exact .inr (Jb (by simp;omega))
 self:=λ _ _ _ _ _ st h=>Nq st.1 h
def Jq (a b:Addr):It:=
 ⟨λ i H=>∃ xs ys x y,H a=some (.tup xs)/\H b=some (.tup ys)/\xs[i]?=some x/\ys[i]?=some y,λ i H v H'=>∃ T x y,H T=none/\v=.ref T/\H'=As H T (.tup [x,y])/\∀ xs ys,H a=some (.tup xs)->H b=some (.tup ys)->xs[i]?=some x/\ys[i]?=some y,λ i H=>∃ xs ys,H a=some (.tup xs)/\H b=some (.tup ys)/\(xs.length<=i\/ys.length<=i)⟩
def Ze {h:Heap}{H:Hp}{z TI TO i1 i2 l1 l2:Addr}{f0:Ae}{a b c d:Ae}{k1 k2:Nat}{xs ys:Array Ae}{us vs:List V} (hTT:TI≠TO) (h12:i1≠i2) (hz:Dc h z TI TO f0) (hTI:BZ h TI a b) (hTO:BZ h TO c d) (h1:h.IsTupleIter i1 l1 k1) (h2:h.IsTupleIter i2 l2 k2) (hl1:h.IsTuple l1 xs) (hl2:h.IsTuple l2 ys) (n1:H TO=none) (q1:H l1=some (.tup us)) (q2:H l2=some (.tup vs)):ZApart z TI TO i1 i2 l1 l2:=by
 obtain ⟨o1,e1,c1,_⟩:=h1;obtain ⟨o2,e2,c2,_⟩:=h2;obtain ⟨p1,m1,r1,_⟩:=hl1;obtain ⟨p2,m2,r2,_⟩:=hl2;have ne:∀ {x y:Addr}{o o':Obj}{n m:String},h.get? x=some o->h.get? y=some o'->o.cls=.type n->o'.cls=.type m->n≠m->x≠y:=λ {x y o o' n m} ex ey cx cy nm z=>by
  subst z;rw [ex] at ey;cases ey;rw [cx] at cy;injection cy with cy
  exact nm cy
 exact ⟨ne hTI hz rfl rfl (by decide),ne hTO hz rfl rfl (by decide),ne e1 hz c1 rfl (by decide),ne e2 hz c2 rfl (by decide),hTT,ne hTI e1 rfl c1 (by decide),ne hTI e2 rfl c2 (by decide),ne hTO e1 rfl c1 (by decide),ne hTO e2 rfl c2 (by decide),h12,
  ne m1 hz r1 rfl (by decide),(λ z=>by rw [z,n1] at q1;cases q1),ne m1 e1 r1 c1 (by decide),ne m1 e2 r1 c2 (by decide),ne m2 hz r2 rfl (by decide),(λ z=>by rw [z,n1] at q2;cases q2),ne m2 e1 r2 c1 (by decide),ne m2 e2 r2 c2 (by decide)⟩
def yz {P:AD}{w:AA}{K:Frag}{es:List Expr}{k:Nat}{pos:Pos} (l1 l2 z TI TO i1 i2:Addr) (hTT:TI≠TO) (h12:i1≠i2):
  Turn P w K (.Tuple es k pos) (Jq l1 l2) [z,TI,TO,i1,i2] z (λ i h=>Dc h z TI TO .none/\BZ h TI (.ref i1) (.ref i2)/\(∃ p q,BZ h TO p q)/\h.IsTupleIter i1 l1 i/\h.IsTupleIter i2 l2 i) where
 mem:=by simp
 obj:=λ i h st b hb=>by
  obtain ⟨hz,hTI,⟨p,q,hTO⟩,⟨o1,e1,_,d1⟩,⟨o2,e2,_,d2⟩⟩:=st;simp only [jb9,HY,or_false] at hb;rcases hb with rfl | rfl | rfl | rfl | rfl
  ·exact ⟨_,hz,λ v z=>by cases z⟩
  ·exact ⟨_,hTI,λ v z=>by cases z⟩
  ·exact ⟨_,hTO,λ v z=>by cases z⟩
  ·exact ⟨o1,e1,λ v z=>by rw [d1] at z;cases z⟩
  ·exact ⟨o2,e2,λ v z=>by rw [d2] at z;cases z⟩
 keep:=λ i h h' st k=>by
  obtain ⟨hz,hTI,⟨p,q,hTO⟩,h1,h2⟩:=st;exact ⟨k z (by simp) _ hz,k TI (by simp) _ hTI,⟨p,q,k TO (by simp) _ hTO⟩,h1.at λ o x=>k i1 (by simp) o x,h2.at λ o x=>k i2 (by simp) o x⟩
 item:=by
  intro X hP hw hK hc i pins s σ H E I hf st hg;subst hP hw hK;obtain ⟨xs,ys,x,y,hq1,hq2,hx,hy⟩:=hg;obtain ⟨its1,rv1,p1,hz1⟩:=I.tuple (.of hq1);obtain ⟨its2,rv2,p2,hz2⟩:=I.tuple (.of hq2);obtain ⟨u1,hu1,ru1⟩:=rv1.get hx;obtain ⟨u2,hu2,ru2⟩:=rv2.get hy;obtain ⟨hz,hTI,⟨p,q,hTO⟩,h1,h2⟩:=st;have T1:s.heap.IsTuple l1 its1.toArray:=p1;have T2:s.heap.IsTuple l2 its2.toArray:=p2;have D:=Ze hTT h12 hz hTI hTO h1 h2 T1 T2 (hf TO (by simp)).1 hq1 hq2;refine wB D hz hTI hTO h1 h2 T1 T2 (u:=u1) (v:=u2) (by simpa using hu1) (by simpa using hu2) λ h' a1 a2 a3 a4 a5 a6 hk=>⟨_,rfl,?_⟩
  refine Vr a1 λ h2' hz' hs'=>?_;have hn:H s.heap.objs.size=none:=I.hok.fresh (A4 _);have hs0:s.heap.objs.size≠z:=EG (AI hz);have I1:Inv X pins σ (As H s.heap.objs.size (.tup [x,y])) { s with heap:=h2',toks:=s.toks }:=by
   refine OZ (fp:=[z,TI,TO,i1,i2]) I (λ b u hb e=>(hs'.2 b (λ z=>hb (by simp [z]))).trans (hk b u (λ z=>hb (by simp [z])) (λ z=>hb (by simp [z])) (λ z=>hb (by simp [z])) (λ z=>hb (by simp [z])) e)) hf (A4 _) ?_;exact ⟨BF (by decide:2<=1000) (by decide),_,.cons ru1 (.cons ru2 .nil),⟨_,(hs'.2 _ hs0).trans a5,rfl,_,rfl⟩⟩
  refine ⟨.ref s.heap.objs.size,_,I1,rfl,⟨_,x,y,hn,rfl,rfl,λ xs' ys' e1 e2=>⟨by rw [hq1] at e1;cases e1;exact hx,by rw [hq2] at e2;cases e2;exact hy⟩⟩,⟨hz',(hs'.2 _ D.ne1).trans (hk _ _ D.ne1 D.ne5 D.ne6 D.ne7 hTI),⟨_,_,(hs'.2 _ D.ne2).trans a2⟩,a3.at λ o e=>(hs'.2 _ D.ne3).trans e,a4.at λ o e=>(hs'.2 _ D.ne4).trans e⟩,λ b hb=>?_⟩;have hb':=(hf b hb).1;have lt:b < s.heap.objs.size:=by
   simp only [jb9,HY,or_false] at hb;rcases hb with rfl | rfl | rfl | rfl | rfl
   ·exact AI hz
   ·exact AI hTI
   ·exact AI hTO
   ·obtain ⟨_,e,_⟩:=h1;exact AI e
   ·obtain ⟨_,e,_⟩:=h2;exact AI e
  rw [AL (BJ lt)];exact hb'
 done:=by
  intro X hP hw hK hc i pins s σ H E I hf st hg;subst hP hw hK;obtain ⟨xs,ys,hq1,hq2,hend⟩:=hg;obtain ⟨its1,rv1,p1,hz1⟩:=I.tuple (.of hq1);obtain ⟨its2,rv2,p2,hz2⟩:=I.tuple (.of hq2);obtain ⟨hz,hTI,⟨p,q,hTO⟩,h1,h2⟩:=st;have T1:s.heap.IsTuple l1 its1.toArray:=p1;have T2:s.heap.IsTuple l2 its2.toArray:=p2;have D:=Ze hTT h12 hz hTI hTO h1 h2 T1 T2 (hf TO (by simp)).1 hq1 hq2;have r1:=rv1.length;have r2:=rv2.length;refine dG (I.ok.hd hc) D hz hTI hTO h1 h2 T1 T2 ?_ λ h' hk=>⟨rfl,Kv (t':=s.toks) I (λ b o hb e=>hk b o (λ z=>hb (by simp [z])) (λ z=>hb (by simp [z])) (λ z=>hb (by simp [z])) (λ z=>hb (by simp [z])) e) hf⟩
  rcases hend with h | h
  ·exact .inl (Jb (by simp;omega))
  ·exact .inr (Jb (by simp;omega))
 self:=λ _ _ _ _ _ st h=>Nq st.1 h
section
variable {X:Cx}{tg:Expr}
def Mi (K:Frag) (ta:TA):TI:=λ σ H R=>ta σ H λ vs H1=>∃ a xs,vs=[.ref a]/\Bd K H1 a xs/\R (Js K a xs.length) H1
def Mj (K:Frag) (ta:TA):TI:=λ σ H R=>ta σ H λ vs H1=>∃ a xs,vs=[.ref a]/\Bd K H1 a xs/\R (Jt K a) H1
def Mh (K:Frag) (ta:TA):TI:=λ σ H R=>ta σ H λ vs H1=>∃ a b xs ys,vs=[.ref a,.ref b]/\((Bd K H1 a xs/\Bd K H1 b ys/\R (Jr K a b) H1)\/(H1 a=some (.tup xs)/\H1 b=some (.tup ys)/\R (Jq a b) H1))
theorem jP {a:Expr}{ta:TA}{p pos:Pos} (hg:Gl X "reversed") (hm:X.mg "reversed" = none) (ha:PA X [a] ta) (hs:Bi [a] X.env=[(false,eval a X.env)]):PI X tg (.Call (.Name "reversed" p) [a] [] pos) (Mi X.K ta):=by
 intro pins s σ H R I h;refine Call_ (FN I hg hm boot_reversed (Hc (A0 (ha pos pins s σ H _ I h) λ us s1 ⟨vs,H1,I1,r1,q1⟩=>?_) hs rfl));obtain ⟨b,xs,e,hq,q⟩:=q1;subst e;cases r1 with
 | cons r rr=>
  cases rr;cases r;obtain ⟨its,rv,pl,hz⟩:=I1.list hq;have hl:=rv.length;refine call_reversed_list pl.isList ?_;have hT:(s1.heap.push (revObj b ((its.toArray.size:Int) - 1))).IsRevIter s1.heap.objs.size b ((its.toArray.size:Int) - 1):=⟨_,Bw _ rfl,rfl,rfl⟩
  refine Qr (s:={ s1 with heap:=s1.heap.push (revObj b ((its.toArray.size:Int) - 1)) }) hT ?_;refine ⟨s1.heap.objs.size,[s1.heap.objs.size],_,_,H1,rfl,I1.kept (t':=s1.toks) λ b o e=>AS _ e,gI b _ xs.length,⟨Ea _,?_⟩,λ c hc=>?_,q⟩
  ·rw [show (xs.length:Int) - 1 - ((0:Nat):Int)=(its.toArray.size:Int) - 1 by simp;omega];exact hT
  ·have e:c=s1.heap.objs.size:=by simpa using hc
   subst e;exact I1.fpOk (A4 _) (I1.hok.fresh (A4 _))
theorem wO {a:Expr}{ta:TA}{es:List Expr}{k:Nat}{tp p pos:Pos} (hg:Gl X "enumerate") (hm:X.mg "enumerate" = none) (ha:PA X [a] ta) (hs:Bi [a] X.env=[(false,eval a X.env)]):PI X (.Tuple es k tp) (.Call (.Name "enumerate" p) [a] [] pos) (Mj X.K ta):=by
 intro pins s σ H R I h;refine Call_ (FN I hg hm boot_enumerate (Hc (A0 (ha pos pins s σ H _ I h) λ us s1 ⟨vs,H1,I1,r1,q1⟩=>?_) hs rfl));obtain ⟨b,xs,e,hq,q⟩:=q1;subst e;cases r1 with
 | cons r rr=>
  cases rr;cases r;obtain ⟨its,rv,pl,hz⟩:=I1.list hq;refine call_enumerate_list pl.isList λ h' he hit hsz hk=>?_;refine wpAny_pyIter_enum (s:={ s1 with heap:=h' }) he ?_;refine ⟨s1.heap.objs.size + 1,[s1.heap.objs.size + 1,s1.heap.objs.size],_,_,H1,rfl,I1.kept (t':=s1.toks) hk,da b _ _ (Nat.succ_ne_self _),⟨⟨_,he⟩,hit⟩,λ c hc=>?_,q⟩;rcases jb9.mp hc with e | e
  ·rw [e];exact I1.fpOk (O0 _) (I1.hok.fresh (O0 _))
  ·rw [jd0.mp e];exact I1.fpOk (A4 _) (I1.hok.fresh (A4 _))
def jQ {a b:Expr}{ta:TA}{es:List Expr}{k:Nat}{tp p pos:Pos} (hg:Gl X "zip") (hm:X.mg "zip" = none) (ha:PA X [a,b] ta) (hs:Bi [a,b] X.env=[(false,eval a X.env),(false,eval b X.env)]) (hs2:Bi [b] X.env=[(false,eval b X.env)]):
  PI X (.Tuple es k tp) (.Call (.Name "zip" p) [a,b] [] pos) (Mh X.K ta):=by
 intro pins s σ H R I h;refine Call_ (FN I hg hm boot_zip (Hc (A0 (ha pos pins s σ H _ I h) λ us s1 ⟨vs,H1,I1,r1,q1⟩=>?_) (by rw [hs,hs2]) (by rw [hs2];rfl)));obtain ⟨c,d,xs,ys,e,⟨hq1,hq2,q⟩ | ⟨hq1,hq2,q⟩⟩:=q1
 ·subst e;cases r1 with
  | cons r rr=>
   cases rr with
   | cons r' rr=>
    cases rr;cases r;cases r';obtain ⟨its1,rv1,p1,hz1⟩:=I1.list hq1;obtain ⟨its2,rv2,p2,hz2⟩:=I1.list hq2;refine call_zip_2 p1.isList p2.isList λ h' hz hTI hTO h1 h2 hsz hk=>?_;refine Nq (s:={ s1 with heap:=h' }) hz ?_;refine ⟨s1.heap.objs.size + 4,[s1.heap.objs.size + 4,s1.heap.objs.size + 2,s1.heap.objs.size + 3,s1.heap.objs.size,s1.heap.objs.size + 1],_,_,H1,rfl,I1.kept (t':=s1.toks) hk,gK c d _ _ _ _ _ (BJ (Gd _)) (BJ (Gd _)),⟨hz,hTI,⟨_,_,hTO⟩,h1,h2⟩,λ x hx=>?_,q⟩
    have:s1.heap.objs.size<=x:=by
     simp only [jb9,HY,or_false] at hx;rcases hx with rfl | rfl | rfl | rfl | rfl
     ·exact HX _ _
     ·exact HX _ _
     ·exact HX _ _
     ·exact A4 _
     ·exact HX _ _
    exact I1.fpOk this (I1.hok.fresh this)
 ·subst e;cases r1 with
  | cons r rr=>
   cases rr with
   | cons r' rr=>
    cases rr;cases r;cases r';obtain ⟨its1,rv1,p1,hz1⟩:=I1.tuple (.of hq1);obtain ⟨its2,rv2,p2,hz2⟩:=I1.tuple (.of hq2);refine vB (us:=its1.toArray) (vs:=its2.toArray) p1 p2 λ h' hz hTI hTO h1 h2 hsz hk=>?_;refine Nq (s:={ s1 with heap:=h' }) hz ?_;refine ⟨s1.heap.objs.size + 4,[s1.heap.objs.size + 4,s1.heap.objs.size + 2,s1.heap.objs.size + 3,s1.heap.objs.size,s1.heap.objs.size + 1],_,_,H1,rfl,I1.kept (t':=s1.toks) hk,yz c d _ _ _ _ _ (BJ (Gd _)) (BJ (Gd _)),⟨hz,hTI,⟨_,_,hTO⟩,h1,h2⟩,λ x hx=>?_,q⟩
    have:s1.heap.objs.size<=x:=by
     simp only [jb9,HY,or_false] at hx;rcases hx with rfl | rfl | rfl | rfl | rfl
     ·exact HX _ _
     ·exact HX _ _
     ·exact HX _ _
     ·exact A4 _
     ·exact HX _ _
    exact I1.fpOk this (I1.hok.fresh this)
end
def OR (lo:Int) (n:Nat):It:=⟨λ i _=>i < n,λ i H v H'=>H'=H/\v=.int (lo - (i:Nat)),λ i _=>n<=i⟩
def bZ {P:AD}{w:AA}{K:Frag}{tg:Expr} (it:Addr) (lo:Int) (n:Nat):Turn P w K tg (OR lo n) [it] it (λ i h=>Nb h it (lo + (i:Nat) * (-1)) ((n:Int) - (i:Nat)) (-1)) where
 mem:=by simp
 obj:=λ i h st b hb=>by
  have e:b=it:=by simpa using hb
  subst e;exact ⟨_,st,λ v z=>by
   have z':Data.fields _=Data.cell v:=z;cases z'⟩
 keep:=λ i h h' st k=>k it (by simp) _ st
 item:=by
  intro X hP hw hK hc i pins s σ H E I hf st hg;subst hP hw hK;obtain ⟨f0,f1,f2,f3,f4,f5⟩:=hf it (by simp);have W:=Walks.range (prog:=X.prog) (w:=X.w) (I.ok.hd hc) it lo (-1) n;refine W.item i s _ _ hg st λ v h' tk hv st' kk=>?_;obtain ⟨t,rfl⟩:=hv;have I1:Inv X pins σ H { s with heap:=h',toks:=tk }:=I.turned (λ b o hb e=>kk b o (by simpa using hb) e) f0 f1 f3 f4 f5;refine ⟨_,rfl,HE (s:={ s with heap:=h',toks:=tk }) (n := "range_iterator") st' rfl rfl (by decide) ⟨.int (lo - i),H,I1,⟨t,?_⟩,⟨rfl,rfl⟩,st',λ b hb=>(hf b hb).1⟩⟩;rw [show lo + (i:Int) * -1=lo - i by omega]
 done:=by
  intro X hP hw hK hc i pins s σ H E I hf st hg;subst hP hw hK;obtain ⟨f0,f1,f2,f3,f4,f5⟩:=hf it (by simp);exact wpAny_pyNext_range_end (I.ok.hd hc) st (by have:n<=i:=hg;omega) λ h' eb=>⟨rfl,I.turned (t':=s.toks) (λ b o hb e=>eb b o hb e) f0 f1 f3 f4 f5⟩
 self:=λ _ _ _ _ _ st h=>wpAny_pyIter_rangeiter st h
section
variable {X:Cx}{tg:Expr}
def wF {pins:List (Addr×Obj)}{σ:St}{H:Hp}{s:Ai}{R:It->Hp->Prop}{E:Ae->Ai->Prop}{lo hi:Int}{t u v:Tok}{tk:Nat} (I:Inv X pins σ H s) (h1:-(2 ^ 62)<=lo) (h2:lo < 2 ^ 62) (h3:-(2 ^ 62)<=hi) (h4:hi < 2 ^ 62)
  (q:R (OR lo (lo - hi).toNat) H):Am (Ax X.prog X.w) X.A (pyIter (.ref s.heap.objs.size)) (Ue X pins σ tg R) E { s with heap:=s.heap.push { cls:=.type "range",data:=.fields #[.int lo t,.int hi u,.int (-1) v] },toks:=tk }:=by
 refine wpAny_pyIter_range (IsRange.new ..) (PySem.W.small_down h1 h2 h3 h4) ?_;have I1:Inv X pins σ H { s with heap:=s.heap.push { cls:=.type "range",data:=.fields #[.int lo t,.int hi u,.int (-1) v] },toks:=tk }:=I.kept λ b o e=>AS _ e;refine ⟨(s.heap.push { cls:=.type "range",data:=.fields #[.int lo t,.int hi u,.int (-1) v] }).objs.size,[(s.heap.push { cls:=.type "range",data:=.fields #[.int lo t,.int hi u,.int (-1) v] }).objs.size],_,_,H,rfl,
  I1.kept (t':=tk) λ b o e=>AS _ e,bZ _ lo (lo - hi).toNat,?_,λ b hb=>?_,q⟩
 ·have e1:lo + ((0:Nat):Int) * (-1)=lo:=by simp
  have e2:(((lo - hi).toNat:Nat):Int) - ((0:Nat):Int)=Builtin.Range.rangeSize lo hi (-1):=by rw [PySem.W.rangeSize_downNat];simp
  show Nb _ _ (lo + ((0:Nat):Int) * (-1)) ((((lo - hi).toNat:Nat):Int) - ((0:Nat):Int)) (-1);rw [e1,e2];exact Bw _ rfl
 ·have e:b=(s.heap.push { cls:=.type "range",data:=.fields #[.int lo t,.int hi u,.int (-1) v] }).objs.size:=by simpa using hb
  subst e;exact I1.fpOk (A4 _) (I1.hok.fresh (A4 _))
def VF (ta:TA):TI:=λ σ H R=>ta σ H λ vs H1=>∃ i j:Int,vs=[.int i,.int j,.int (-1)]/\(-(2 ^ 40)<=i/\i < 2 ^ 40/\-(2 ^ 40)<=j/\j < 2 ^ 40)/\R (OR i (i - j).toNat) H1
theorem wN {e:Expr}{es:List Expr}{ta:TA}{p pos:Pos} (hg:Gl X "range") (hm:X.mg "range" = none) (ha:PA X (e::es) ta) (he:Bi (e::es) X.env=(false,eval e X.env)::Bi es X.env) (hpl:(Fy pos (Bi es X.env)).any (·.1)=false):
  PI X tg (.Call (.Name "range" p) (e::es) [] pos) (VF ta):=by
 intro pins s σ H R I h;refine Call_ (FN I hg hm boot_range (Hc (A0 (ha pos pins s σ H _ I h) λ us s1 ⟨vs,H1,I1,r1,q1⟩=>?_) he hpl));obtain ⟨i,j,e,⟨q1,q2,q3,q4⟩,q⟩:=q1;subst e;cases r1 with
 | cons r rr=>
  cases rr with
  | cons r' rr=>
   cases rr with
   | cons r'' rr=>
    cases rr;obtain ⟨t,rfl⟩:=r;obtain ⟨t',rfl⟩:=r';obtain ⟨t'',rfl⟩:=r'';exact call_range_3 (by decide) (wF I1 (by omega) (by omega) (by omega) (by omega) q) (.inl (PyProof.noPylong_small (by omega)))
end
abbrev Fi:=Af->Rz (List PV×Nat×Af)
def tI (M:Fm) (F:Fi) (vs:List Nat):TI:=λ σ H R=>∃ ρ g,Rep M ρ σ H g/\OutE M σ H (F ρ) λ p=>p.2.2=ρ->∀ J H',Le H H'->Yl (M.k g) (M.z g vs p.2.1) H' J p.1->R J H'
def Fv (F:Fi) (vs:List Nat) (asg:PV->Af->Option Af) (body:Fs):Fs:=λ ρ=>match F ρ with
 | .ok (els,d,ρ1)=>Ck asg body els (Bb d vs ρ1)
 | .exc c=>.exc c
 | .no=>.no
def Ec (F:Fi) (k:Nat) (asg:PV->Af->Option Af) (test:Fb) (elt:Fx):Fx:=λ ρ=>match F ρ with
 | .ok (els,_,ρ1)=>(DC k asg test elt els ρ1 []).bindN λ (acc,ρ2)=>E9 acc ρ2
 | .exc c=>.exc c
 | .no=>.no
def JD (lo:Int) (n:Nat):List PV:=(Ay n).map λ (i:Nat)=>PV.int (lo + (i:Int))
def Gn (i:Int) (n:Nat):List PV:=(Ay n).map λ (k:Nat)=>PV.int (i - (k:Int))
def Bl:List (PV×Nat)->Option (Int×Int)
 | [(.int j,_)]=>if -(2 ^ 62)<=j/\j < 2 ^ 62 then some (0,j) else none
 | _=>none
def GQ:List (PV×Nat)->Option (Int×Int)
 | [(.int i,_),(.int j,_)]=>if -(2 ^ 62)<=i/\i < 2 ^ 62/\-(2 ^ 62)<=j/\j < 2 ^ 62 then some (i,j) else none
 | _=>none
def LC:List (PV×Nat)->Option (Int×Nat)
 | [(.int i,_),(.int j,_),(.int k,_)]=>if k=-1/\-(2 ^ 40)<=i/\i < 2 ^ 40/\-(2 ^ 40)<=j/\j < 2 ^ 40 then some (i,(i - j).toNat) else none
 | _=>none
def LJ (z:Str):List PV:=z.cps.toList.map λ c=>.str ⟨#[c]⟩
inductive Vw where
 | rev | enm | zp
def E8:Nat->List PV->List PV
 | _,[]=>[]
 | i,x::xs=>.tup [.int (i:Int),x]::E8 (i + 1) xs
def B5:List PV->List PV->List PV
 | x::xs,y::ys=>.tup [x,y]::B5 xs ys
 | _,_=>[]
def K8:Vw->List PV->Option (List PV)
 | .rev,[.lst xs]=>some xs.reverse
 | .enm,[.lst xs]=>some (E8 0 xs)
 | .zp,[.lst xs,.lst ys]=>some (B5 xs ys)
 | .zp,[.tup xs,.tup ys]=>some (B5 xs ys)
 | _,_=>none
def qk (v:Vw) (K:Frag) (ta:TA):TI:=match v with
 | .rev=>Mi K ta
 | .enm=>Mj K ta
 | .zp=>Mh K ta
def CK (en:List (PV×Nat)->Option (Int×Int)) (fa:Fa):Fi:=λ ρ=>(fa ρ).bind λ (xs,ρ1)=>match en xs with
 | some (i,j)=>.ok (JD i (j - i).toNat,om,ρ1)
 | none=>.no
def Hf (fa:Fa):Fi:=λ ρ=>(fa ρ).bind λ (xs,ρ1)=>match LC xs with
 | some (i,n)=>.ok (Gn i n,om,ρ1)
 | none=>.no
def CJ (f:Fx):Fi:=λ ρ=>(f ρ).bind λ (x,d,ρ1)=>match x with
 | .lst xs=>.ok (xs,d,ρ1)
 | .tup xs=>.ok (xs,d,ρ1)
 | .str z=>if Wt z=true then .ok (LJ z,d,ρ1) else .no
 | _=>.no
def Df (v:Vw) (fa:Fa):Fi:=λ ρ=>(fa ρ).bind λ (xs,ρ1)=>match K8 v (xs.map (·.1)) with
 | some els=>.ok (els,if CO xs=true then om else 0,ρ1)
 | none=>.no
theorem PR:∀ (xs:List PV) (k i:Nat),(E8 k xs)[i]?=(xs[i]?).map λ x=>PV.tup [.int ((k + i:Nat):Int),x]
 | [],k,i=>by simp [E8]
 | x::xs,k,0=>by simp [E8]
 | x::xs,k,i + 1=>by
  have:=PR xs (k + 1) i
  rw [show k + 1 + i=k + (i + 1) by omega] at this;simpa [E8] using this
theorem PU:∀ (xs:List PV) (k:Nat),(E8 k xs).length=xs.length
 | [],_=>rfl
 | x::xs,k=>by simp [E8,PU xs]
theorem Zb:∀ (xs ys:List PV) (i:Nat) (x y:PV),xs[i]?=some x->ys[i]?=some y->(B5 xs ys)[i]?=some (.tup [x,y])
 | [],_,i,x,y,h,_=>by simp at h
 | _::_,[],i,x,y,_,h=>by simp at h
 | a::xs,b::ys,0,x,y,h,h'=>by cases h;cases h';rfl
 | a::xs,b::ys,i + 1,x,y,h,h'=>by simpa [B5] using Zb xs ys i x y (by simpa using h) (by simpa using h')
theorem Zc:∀ (xs ys:List PV),(B5 xs ys).length=min xs.length ys.length
 | [],_=>by simp [B5]
 | _::_,[]=>by simp [B5]
 | a::xs,b::ys=>by simp [B5,Zc xs ys]
section
variable {M:Fm}{ρ ρ':Af}{σ σ':St}{H H' H0 H1:Hp}{g g1:Os}{vs vs':List Nat}{K:Kx}{Z Z':Addr->Prop}{x:PV}{d i:Nat}{v:V}{a b:Addr}{f:Fx}{fa:Fa}{D:Ends}{J:It}{els xs ys:List PV}{tg:TG}{asg:PV->Af->Option Af}{body:Fs}{is:List Nat}{F:Fi}{R:It->Hp->Prop}
def Yl.anti (z:∀ a,Z' a->Z a) (y:Yl K Z H J els):Yl K Z' H J els:=
 have k:∀ {H1},Kq K Z' H H1->Kq K Z H H1:=λ k a o e=>(k a o e).imp id (Or.imp (And.imp (z a) id) id)
 ⟨λ H i h=>y.go H i (k h),λ H i h=>y.stop H i (k h),λ H i x H' h hi hy=>let ⟨l,z1,e,o⟩:=y.yld H i x H' (k h) hi hy;⟨l,z1,e,λ K' Z' hk hz=>o K' Z' hk λ a q=>(hz a q).imp (z a) id⟩⟩
theorem XW (hal:∀ i,M.al i=[]) (hg:∀ B g,FH (M.at B g) [] is tg asg) (hq:tS M (Fv F vs asg body) D σ H):Fe (tI M F vs) tg (tX M body) D σ H:=by
 obtain ⟨ρ,g,rep,q⟩:=hq;refine ⟨ρ,g,rep,?_⟩;unfold Fv at q;revert q;cases F ρ with
 | no=>exact id
 | exc c=>exact λ q H' l=>rep.exc q l
 | ok p=>
  obtain ⟨els,d,ρ1⟩:=p;intro q (e:ρ1=ρ) J H' l y;subst e;obtain ⟨g1,r1,ek,h1⟩:=(rep.grow l).cooled hal d vs;exact Ru r1 (ek ▸ y.anti λ a=>JF h1 rep.zt (.inr (by decide))) hg q
theorem uO {vI vE vo:List Nat}{test:Fb}{elt:Fx}{k n:Nat}{Q:VK}{P:Fm->Prop} (hn:σ.length=n) (hP:∀ D M',Inn M D n vI M'->P M') (hg:∀ D M',Inn M D n vI M'->FH M' vI is tg asg)
  (hk:∀ ρ y ρ',ρ.length=n->asg y (ρ++A9 k none)=some ρ'->ρ'.take n=ρ) (his:∀ i∈is,n<=i) (hvo:∀ i∈vE,i < n->i∈vo) (hq:tE M (Ec F k asg test elt) vo σ H Q):
  Oa k (tI M F vI) tg (λ σ H Q=>∃ M',P M'/\tT M' test σ H Q) (λ σ H Q=>∃ M',P M'/\tE M' elt vE σ H Q) σ H Q:=by
 obtain ⟨ρ,g,rep,q⟩:=hq;refine ⟨ρ,g,rep,?_⟩;obtain rfl:n=ρ.length:=hn.symm.trans rep.len.symm;unfold Ec at q;revert q;cases F ρ with
 | no=>exact id
 | exc c=>exact id
 | ok p=>
  obtain ⟨els,d,ρ1⟩:=p;intro q (e:ρ1=ρ) J H' l y;subst e;exact vH (rep.grow l) (y.anti λ a=>Fm.z_to rep.zt (.inr (by decide))) hP hg (λ y ρ'=>hk _ y ρ' rfl) his hvo (OutE.mono (OutE.from l q) λ p q e v H2 l2 t=>q e v H2 (l.trans l2) (t.back λ _=>l.back))
def WN {lo:Int}{n:Nat}:Yl K Z H (Mw lo n) (JD lo n):=by
 have e:(JD lo n).length=n:=by simp [JD]
 refine ⟨λ _ i _ h=>by rw [e] at h;exact h,λ _ i _ h=>by rw [e] at h;exact h,λ H i x H' _ h hy=>?_⟩;obtain ⟨rfl,rfl⟩:=hy;rw [e] at h;exact ⟨Le.refl,.int (lo + i),by simp [JD,h],λ _ _ _ _=>.int _⟩
def yA {lo:Int}{n:Nat}:Yl K Z H (OR lo n) (Gn lo n):=by
 have e:(Gn lo n).length=n:=by simp [Gn]
 refine ⟨λ _ i _ h=>by rw [e] at h;exact h,λ _ i _ h=>by rw [e] at h;exact h,λ H i x H' _ h hy=>?_⟩;obtain ⟨rfl,rfl⟩:=hy;rw [e] at h;exact ⟨Le.refl,.int (lo - (i:Nat)),by simp [Gn,h],λ _ _ _ _=>.int _⟩
def vW {z:Str}:Yl K Z H (Uk z) (LJ z):=by
 have e:(LJ z).length=z.cps.size:=by simp [LJ]
 refine ⟨λ _ i _ h=>by rw [e] at h;exact h,λ _ i _ h=>by rw [e] at h;exact h,λ H i x H' _ h hy=>?_⟩;obtain ⟨rfl,c,hc,rfl⟩:=hy;exact ⟨Le.refl,.str ⟨#[c]⟩,by unfold LJ;rw [CL,SS,hc];rfl,λ _ _ _ _=>.str _⟩
structure Sq (K:Kx) (Z:Addr->Prop) (H0:Hp) (a:Addr) (xs:List PV) (S:Hp->List V->Prop):Prop where
 at':∀ H,Kp K Z H0 H->∃ ws,S H ws/\ws.length=xs.length/\∀ K' Z',K.Le K' H0->(∀ a,Z' a->Z a\/H0 a=none)->IsL K' H Z' xs ws
def Sq.lst (h:Is K H0 Z (.lst xs) (.ref a)):Sq K Z H0 a xs λ H ws=>Bd K.K H a ws:=⟨λ H k=>by
 obtain ⟨b,ws,e,n,r,l⟩:=h.lst;cases e;exact ⟨ws,.inl (.inl (k.rd (o:=.lst ws) r trivial n)),l.length,λ K' Z' hk hz=>l.move k hk hz⟩⟩
def Sq.tup (h:Is K H0 Z (.tup xs) (.ref a)):Sq K Z H0 a xs λ H ws=>H a=some (.tup ws):=⟨λ H k=>by
 obtain ⟨b,ws,e,r,l⟩:=h.tupE;cases e;exact ⟨ws,k.any r id (λ z=>z.elim) λ _ _ z=>(nomatch z),l.length,λ K' Z' hk hz=>l.move k hk hz⟩⟩
def Of {S:Hp->List V->Prop} (s:Sq K Z H0 a xs S) (hl:els.length=xs.length) (go:∀ H i,i < xs.length->∀ ws,S H ws->ws.length=xs.length->J.go i H) (st:∀ H i,xs.length<=i->∀ ws,S H ws->ws.length=xs.length->J.stop i H)
  (y:∀ H i x H',i < xs.length->J.yld i H x H'->∀ ws,S H ws->ws.length=xs.length->Le H H'/\∃ y,els[i]?=some y/\∀ K Z',IsL K H Z' xs ws->Is K H' Z' y x):Yl K Z H0 J els:=
 ⟨λ H i k hi=>let ⟨ws,h,l,_⟩:=s.at' H k.kp;go H i (by omega) ws h l,λ H i k hi=>let ⟨ws,h,l,_⟩:=s.at' H k.kp;st H i (by omega) ws h l,λ H i x H' k hi hy=>by
  obtain ⟨ws,h,l,hz⟩:=s.at' H k.kp;obtain ⟨l2,z,ez,o⟩:=y H i x H' (by omega) hy ws h l;exact ⟨l2,z,ez,λ K' Z' hk q=>o K' Z' (hz K' Z' hk q)⟩⟩
def Iq {ws:List V} (hw:ws[i]?=some v) (hi:i < xs.length):∃ y,xs[i]?=some y/\∀ K H Z,IsL K H Z xs ws->Is K H Z y v:=⟨xs[i],by simp [hi],λ K H Z l=>by
 obtain ⟨u,e,o⟩:=Ew l (x:=xs[i]) (i:=i) (by simp [hi]);rw [hw] at e;cases e;exact o⟩
def vU (h:Is K H0 Z (.lst xs) (.ref a)):Yl K Z H0 (Ui K.K a) xs:=
 Of (Sq.lst h) rfl (λ H i hi ws s e=>⟨ws,ws[i]'(by omega),s,by simp⟩) (λ H i hi ws s e=>⟨ws,s,by omega⟩) λ H i x H' hi hy ws s e=>by
  obtain ⟨rfl,h⟩:=hy;obtain ⟨y,ey,o⟩:=Iq (h ws s) hi;exact ⟨Le.refl,y,ey,λ _ _=>o _ _ _⟩
def vX (h:Is K H0 Z (.tup xs) (.ref a)):Yl K Z H0 (Uh K.K a) xs:=
 Of (Sq.tup h) rfl (λ H i hi ws s e=>⟨ws,ws[i]'(by omega),.inl (.inl s),by simp⟩) (λ H i hi ws s e=>⟨ws,.inl (.inl s),by omega⟩) λ H i x H' hi hy ws s e=>by
  obtain ⟨rfl,h⟩:=hy;obtain ⟨y,ey,o⟩:=Iq (h ws (.inl (.inl s))) hi;exact ⟨Le.refl,y,ey,λ _ _=>o _ _ _⟩
def vV (h:Is K H0 Z (.lst xs) (.ref a)):Yl K Z H0 (Js K.K a xs.length) xs.reverse:=
 Of (Sq.lst h) (by simp) (λ H i hi ws s e=>⟨hi,ws,ws[xs.length - 1 - i]'(by omega),s,by simp⟩) (λ H i hi ws s e=>hi) λ H i x H' hi hy ws s e=>by
  obtain ⟨rfl,h⟩:=hy;obtain ⟨y,ey,o⟩:=Iq (h ws s) (by omega:xs.length - 1 - i < xs.length);exact ⟨Le.refl,y,by rw [SR hi];exact ey,λ _ _=>o _ _ _⟩
def Xx {x y:PV}{u v:V}{T:Addr} (hT:H T=none) (ox:Is K H Z x u) (oy:Is K H Z y v):Is K (As H T (.tup [u,v])) Z (.tup [x,y]) (.ref T):=
 .tup BI (.cons (ox.up (DU hT)) (.cons (oy.up (DU hT)) .nil))
def vT (h:Is K H0 Z (.lst xs) (.ref a)):Yl K Z H0 (Jt K.K a) (E8 0 xs):=
 Of (Sq.lst h) (PU xs 0) (λ H i hi ws s e=>⟨ws,ws[i]'(by omega),s,by simp⟩) (λ H i hi ws s e=>⟨ws,s,by omega⟩) λ H i x H' hi hy ws s e=>by
  obtain ⟨T,w,hT,rfl,rfl,h⟩:=hy;obtain ⟨y,ey,o⟩:=Iq (h ws s) hi;exact ⟨DU hT,.tup [.int i,y],by rw [PR,ey,Hq];rfl,λ _ _ l=>Xx hT (.int _) (o _ _ _ l)⟩
def WO {S S':Hp->List V->Prop} (s:Sq K Z H0 a xs S) (s':Sq K Z H0 b ys S') (go:∀ H i ws us u v,S H ws->S' H us->ws[i]?=some u->us[i]?=some v->J.go i H) (st:∀ H i ws us,S H ws->S' H us->(ws.length<=i\/us.length<=i)->J.stop i H)
  (y:∀ H i x H',J.yld i H x H'->∃ T u v,H T=none/\x=.ref T/\H'=As H T (.tup [u,v])/\∀ ws us,S H ws->S' H us->ws[i]?=some u/\us[i]?=some v):Yl K Z H0 J (B5 xs ys):=by
 refine ⟨λ H i k hi=>?_,λ H i k hi=>?_,λ H i x H' k hi hy=>?_⟩
 all_goals
  obtain ⟨ws,h,l,hz⟩:=s.at' H k.kp;obtain ⟨us,h',l',hz'⟩:=s'.at' H k.kp;have e1:=l;have e2:=l';rw [Zc] at hi
 ·exact go H i ws us (ws[i]'(by omega)) (us[i]'(by omega)) h h' (by simp) (by simp)
 ·exact st H i ws us h h' (by omega)
 ·obtain ⟨T,u,v,hT,rfl,rfl,hh⟩:=y H i x H' hy;obtain ⟨w1,w2⟩:=hh ws us h h';obtain ⟨y1,g1,o1⟩:=Iq w1 (by omega:i < xs.length);obtain ⟨y2,g2,o2⟩:=Iq w2 (by omega:i < ys.length);exact ⟨DU hT,.tup [y1,y2],Zb _ _ _ _ _ g1 g2,λ K' Z' hk q=>Xx hT (o1 _ _ _ (hz K' Z' hk q)) (o2 _ _ _ (hz' K' Z' hk q))⟩
def vY (h:Is K H0 Z (.lst xs) (.ref a)) (h':Is K H0 Z (.lst ys) (.ref b)):Yl K Z H0 (Jr K.K a b) (B5 xs ys):=
 WO (Sq.lst h) (Sq.lst h') (λ H i ws us u v s s' e e'=>⟨ws,us,u,v,s,s',e,e'⟩) (λ H i ws us s s' h=>⟨ws,us,s,s',h⟩) λ H i x H' hy=>hy
def yB (h:Is K H0 Z (.tup xs) (.ref a)) (h':Is K H0 Z (.tup ys) (.ref b)):Yl K Z H0 (Jq a b) (B5 xs ys):=
 WO (Sq.tup h) (Sq.tup h') (λ H i ws us u v s s' e e'=>⟨ws,us,u,v,s,s',e,e'⟩) (λ H i ws us s s' h=>⟨ws,us,s,s',h⟩) λ H i x H' hy=>hy
def jo (hq:tI M (CK Bl fa) vs' σ H R):VH (tL M fa vs) σ H R:=by
 obtain ⟨ρ,g,rep,q⟩:=hq;refine Il rep q λ xs ws H1 G l r f t q=>?_;replace t:=t.vw λ d a h ga=>rep.zdom h (f a ga);dsimp only at q;split at q
 ·rename_i i j e;unfold Bl at e;split at e
  ·split at e
   ·rename_i hb;cases e;cases t with
    | cons h t=>
     cases t;rw [h.sv rfl];rw [Int.sub_zero] at q;exact ⟨_,rfl,hb.1,hb.2,q rfl _ H1 l WN⟩
   ·cases e
  ·cases e
 ·exact q.elim
def jH (hq:tI M (CK GQ fa) vs' σ H R):VI (tL M fa vs) σ H R:=by
 obtain ⟨ρ,g,rep,q⟩:=hq;refine Il rep q λ xs ws H1 G l r f t q=>?_;replace t:=t.vw λ d a h ga=>rep.zdom h (f a ga);dsimp only at q;split at q
 ·rename_i i j e;unfold GQ at e;split at e
  ·split at e
   ·rename_i hb;cases e;cases t with
    | cons h t=>
     cases t with
     | cons h' t=>
      cases t;rw [h.sv rfl,h'.sv rfl];exact ⟨_,_,rfl,hb,q rfl _ H1 l WN⟩
   ·cases e
  ·cases e
 ·exact q.elim
def jn (hq:tI M (Hf fa) vs' σ H R):VF (tL M fa vs) σ H R:=by
 obtain ⟨ρ,g,rep,q⟩:=hq;refine Il rep q λ xs ws H1 G l r f t q=>?_;replace t:=t.vw λ d a h ga=>rep.zdom h (f a ga);dsimp only at q;split at q
 ·rename_i i j e;unfold LC at e;split at e
  ·split at e
   ·rename_i hb;obtain ⟨rfl,hb⟩:=hb;cases e;cases t with
    | cons h t=>
     cases t with
     | cons h' t=>
      cases t with
      | cons h'' t=>
       cases t;rw [h.sv rfl,h'.sv rfl,h''.sv rfl];exact ⟨_,_,rfl,hb,q rfl _ H1 l yA⟩
   ·cases e
  ·cases e
 ·exact q.elim
theorem VW (hq:tI M (CJ f) vs σ H R):Jg M.K (tE M f vs) σ H R:=by
 obtain ⟨ρ,g,rep,q⟩:=hq;refine EU rep q λ x d v H1 l r t q=>?_;have t:=rep.vw t;cases x with
 | lst xs=>
  obtain ⟨a,ws,rfl,_,h,_⟩:=t.lst;exact .inl ⟨a,rfl,.inl ⟨⟨ws,.inl (.inl h)⟩,q rfl _ H1 l (vU t)⟩⟩
 | tup xs=>
  obtain ⟨a,ws,rfl,h,_⟩:=t.tupE;exact .inl ⟨a,rfl,.inr ⟨⟨ws,.inl (.inl h)⟩,q rfl _ H1 l (vX t)⟩⟩
 | str z=>
  dsimp only at q;split at q
  ·rename_i ha;exact .inr ⟨z,t.sv rfl,ha,q rfl _ H1 l vW⟩
  ·exact q.elim
 | _=>exact q.elim
def Jf {w:Vw} (hq:tI M (Df w fa) vs σ H R):qk w M.K (tL M fa vs) σ H R:=by
 obtain ⟨ρ,g,rep,q⟩:=hq;have gg:tL M fa vs σ H λ ws H1=>qk w M.K (λ _ H Q=>Q ws H) σ H1 R:=by
  refine Il rep q λ xs ws H1 G l r f t q=>?_;have t:=t.to (c:=if CO xs=true then om else 0) (z:=M.z g vs) (λ e d a=>Fm.z_to r.zt) (λ d a h ga=>rep.zdom h (f a ga)) λ p hp=>by
   split
   ·rename_i h;exact .inl (M7 h p hp).symm
   ·exact .inr (by decide)
  rename_i t0;clear t0;dsimp only at q;generalize (if CO xs=true then om else 0)=c at q t;generalize xs.map (·.1)=ps at q t;unfold K8 at q;split at q
  ·rename_i els e;replace q:∀ J,Yl (M.k g) (M.z g vs c) H1 J els->R J H1:=λ J=>q rfl J H1 l;split at e
   all_goals cases e
   ·cases t with
    | cons h t=>
     cases t;obtain ⟨a,ws,rfl,_,hr,il⟩:=h.lst;exact ⟨a,ws,rfl,.inl (.inl hr),by rw [il.length];exact q _ (vV h)⟩
   ·cases t with
    | cons h t=>
     cases t;obtain ⟨a,ws,rfl,_,hr,_⟩:=h.lst;exact ⟨a,ws,rfl,.inl (.inl hr),q _ (vT h)⟩
   ·cases t with
    | cons h t=>
     cases t with
     | cons h' t=>
      cases t;obtain ⟨a,ws,rfl,_,hr,_⟩:=h.lst;obtain ⟨b,us,rfl,_,hr',_⟩:=h'.lst;exact ⟨a,b,ws,us,rfl,.inl ⟨.inl (.inl hr),.inl (.inl hr'),q _ (vY h h')⟩⟩
   ·cases t with
    | cons h t=>
     cases t with
     | cons h' t=>
      cases t;obtain ⟨a,ws,rfl,hr,_⟩:=h.tupE;obtain ⟨b,us,rfl,hr',_⟩:=h'.tupE;exact ⟨a,b,ws,us,rfl,.inr ⟨hr,hr',q _ (yB h h')⟩⟩
  ·exact q.elim
 cases w <;> exact gg
end
end QQ
namespace L2
open PySem PySem.Spec PyProof.Rows
section
variable {κ:Type} [DecidableEq κ]
def BQ (kvs:List (κ×V)) (k:κ):Option V:=(kvs.find? λ kv=>decide (kv.1=k)).map (·.2)
def B7 (kvs:List (κ×V)) (k:κ) (v:V):List (κ×V):=
 if (kvs.any λ kv=>decide (kv.1=k))=true then kvs.map (λ kv=>if kv.1=k then (kv.1,v) else kv) else kvs++[(k,v)]
def MS {p:κ×V}{r:List (κ×V)}{k:κ} (e:p.1=k):BQ (p::r) k=some p.2:=by simp [BQ,Kf,e]
def MR {p:κ×V}{r:List (κ×V)}{k:κ} (e:¬ p.1=k):BQ (p::r) k=BQ r k:=by simp [BQ,Kf,e]
theorem YQ (k:κ):∀ kvs:List (κ×V),(kvs.any λ kv=>decide (kv.1=k))=(BQ kvs k).isSome
 | []=>rfl
 | p::r=>by
  rw [LX];by_cases e:p.1=k
  ·simp only [MS e,decide_eq_true e,Bool.true_or,ZM]
  ·rw [MR e,decide_eq_false e,S8];exact YQ k r
def Vn (kvs:List (κ×V)) (k:κ) (v:V):(B7 kvs k v).length<=kvs.length + 1:=by
 unfold B7;split
 ·rw [AJ];omega
 ·rw [Br,B8,Md];omega
theorem RelO.isSome_eq {o:Option V}{u:Option Ae} (r:RelO o u):o.isSome=u.isSome:=by
 cases o with
 | none=>cases u with
  | none=>rfl
  | some _=>exact (show False from r).elim
 | some _=>cases u with
  | none=>exact (show False from r).elim
  | some _=>rfl
theorem KV.val {kvs:List (κ×V)}{vs:List (κ×Ae)} (r:KV kvs vs) (k:κ):RelO (BQ kvs k) (Iy vs k):=by
 unfold KV at r;induction r with
 | nil=>exact True.intro
 | @cons p q ps qs h t ih=>
  obtain ⟨h1,h2⟩:=h;by_cases e:p.1=k
  ·have e':q.1=k:=h1.symm.trans e;have b:Iy (q::qs) k=some q.2:=by simp [Iy,Kf,e']
   rw [MS e,b];exact h2
  ·have e':¬ q.1=k:=λ z=>e (h1.trans z);have b:Iy (q::qs) k=Iy qs k:=by simp [Iy,Kf,e']
   rw [MR e,b];exact ih
theorem KV.any {kvs:List (κ×V)}{vs:List (κ×Ae)} (r:KV kvs vs) (k:κ):(kvs.any λ kv=>decide (kv.1=k))=vs.any λ kv=>decide (kv.1=k):=by
 unfold KV at r;induction r with
 | nil=>rfl
 | cons h t ih=>rw [LX,LX,ih,h.1]
theorem KV.repl {kvs:List (κ×V)}{vs:List (κ×Ae)} (r:KV kvs vs) (k:κ) {y:V}{u:Ae} (ry:RelV y u):
  KV (kvs.map λ kv=>if kv.1=k then (kv.1,y) else kv) (vs.map λ kv=>if kv.1=k then (kv.1,u) else kv):=by
 unfold KV at r ⊢;induction r with
 | nil=>exact .nil
 | @cons p q ps qs h t ih=>
  rw [Bc,Bc];refine .cons ?_ ih;obtain ⟨h1,h2⟩:=h;by_cases e:p.1=k
  ·rw [if_pos e,if_pos (h1.symm.trans e)];exact ⟨h1,ry⟩
  ·rw [if_neg e,if_neg (λ z=>e (h1.trans z))];exact ⟨h1,h2⟩
def KV.put {kvs:List (κ×V)}{vs:List (κ×Ae)} (r:KV kvs vs) (k:κ) {y:V}{u:Ae} (ry:RelV y u):KV (B7 kvs k y) (stored vs k u):=by
 unfold B7 stored;rw [r.any k];by_cases e:(vs.any λ kv=>decide (kv.1=k))=true
 ·rw [if_pos e,if_pos e];exact r.repl k ry
 ·rw [if_neg e,if_neg e];exact Paired.snoc r ⟨rfl,ry⟩
def KV.length {kvs:List (κ×V)}{vs:List (κ×Ae)} (r:KV kvs vs):kvs.length=vs.length:=Paired.length r
end
theorem LH {P:AD}{w:AA}{k:A2}{u:Ae} (r:RelV (kV k) u):(Cy P w).is k u=true:=by
 cases k with
 | inl i=>obtain ⟨t,e⟩:=(show ∃ t,u=Value.int i t from r);subst e;exact dE P w i t
 | inr x=>obtain ⟨t,e⟩:=(show ∃ t,u=Value.str x t from r);subst e;exact dF P w x t
theorem UR {P:AD}{w:AA}:∀ {ks:List A2}{us:List Ae},Vals (ks.map kV) us->ItemsAre (Cy P w) ks us
 | [],_,r=>by rw [IW] at r;cases r;exact .nil
 | k::ks,_,r=>by
  rw [Bc] at r;cases r with
  | cons h t=>exact .cons (LH h) (UR t)
abbrev KT (H:Hp):List (List A2×V)->List (List A2×Addr×Ae)->Prop:=Bv λ p q=>p.1=q.1/\H q.2.1=some (.tup (p.1.map kV))/\RelV p.2 q.2.2
theorem KT.val {H:Hp}{kvs:List (List A2×V)}{xs:List (List A2×Addr×Ae)} (r:KT H kvs xs) (k:List A2):RelO (BQ kvs k) ((atKey xs k).map (·.2)):=by
 induction r with
 | nil=>exact True.intro
 | @cons p q ps qs h t ih=>
  obtain ⟨h1,_,h2⟩:=h;by_cases e:p.1=k
  ·have e':q.1=k:=h1.symm.trans e;have b:atKey (q::qs) k=some q.2:=by simp [atKey,Kf,e']
   rw [MS e,b];exact h2
  ·have e':¬ q.1=k:=λ z=>e (h1.trans z);have b:atKey (q::qs) k=atKey qs k:=by simp [atKey,Kf,e']
   rw [MR e,b];exact ih
theorem KT.repl {H:Hp}{kvs:List (List A2×V)}{xs:List (List A2×Addr×Ae)} (r:KT H kvs xs) (k:List A2) {y:V}{u:Ae} (ry:RelV y u):
  KT H (kvs.map λ kv=>if kv.1=k then (kv.1,y) else kv) (xs.map (putAt k u)):=by
 induction r with
 | nil=>exact .nil
 | @cons p q ps qs h t ih=>
  rw [Bc,Bc];refine .cons ?_ ih;obtain ⟨h1,h2,h3⟩:=h;unfold putAt;by_cases e:p.1=k
  ·rw [if_pos e,if_pos (h1.symm.trans e)];exact ⟨h1,h2,ry⟩
  ·rw [if_neg e,if_neg (λ z=>e (h1.trans z))];exact ⟨h1,h2,h3⟩
def KT.put {H:Hp}{kvs:List (List A2×V)}{xs:List (List A2×Addr×Ae)} (r:KT H kvs xs) (k:List A2) {b:Addr}{y:V}{u:Ae} (hb:H b=some (.tup (k.map kV))) (ry:RelV y u):
  KT H (B7 kvs k y) (storedH xs k b u):=by
 have e:(kvs.any λ kv=>decide (kv.1=k))=(atKey xs k).isSome:=by
  rw [YQ,(r.val k).isSome_eq,SN]
 unfold B7 storedH;rw [e];by_cases q:(atKey xs k).isSome=true
 ·rw [if_pos q,if_pos q];exact r.repl k ry
 ·rw [if_neg q,if_neg q];exact Paired.snoc r ⟨rfl,hb,ry⟩
def KT.keeps {H H':Hp}{kvs:List (List A2×V)}{xs:List (List A2×Addr×Ae)} (r:KT H kvs xs) (ht:∀ b ys,H b=some (.tup ys)->H' b=some (.tup ys)):KT H' kvs xs:=
 Paired.mapP r λ _ _ z=>⟨z.1,ht _ _ z.2.1,z.2.2⟩
section
variable {P:AD}{w:AA}{H:Hp}{h:Heap}{a:Addr}
def Wa {u:HO} (ok:HOk P w H h) (e:Rd H a u):zxg P w H h a u:=e.ok ok
def LD {kvs:List (A2×V)} (ok:HOk P w H h) (e:Rd H a (.dK kvs)):kvs.length<=Aw/\(a == EE)=false/\∃ vs,KV kvs vs/\h.DictOf (Cy P w) a vs:=
 show zxg P w H h a (.dK kvs) from Wa ok e
def dk_of {kvs:List (A2×V)} (ok:HOk P w H h) (e:H a=some (.dK kvs)):kvs.length<=Aw/\(a == EE)=false/\∃ vs,KV kvs vs/\h.DictOf (Cy P w) a vs:=LD ok (.inl e)
def KH {ks:List A2} (ok:HOk P w H h) (e:H a=some (.tup (ks.map kV))):(FR (Cy P w)).is h ks a:=by
 obtain ⟨_,its,r,o,h1,h2,n,h3⟩:=(show zxg P w H h a (.tup (ks.map kV)) from ok a _ e)
 exact ⟨o,its.toArray,n,h1,h2,h3,by simpa using UR r⟩
def LB {kvs:List (List A2×V)} (ok:HOk P w H h) (e:Rd H a (.dT kvs)):kvs.length<=Aw/\(a == EE)=false /\
  ∃ xs,KT H kvs xs/\h.DictOfH (FR (Cy P w)) a xs:=by
 obtain ⟨z,y,xs,r,o,es,ep,h1,h2,h3,h4,h5⟩:=(show zxg P w H h a (.dT kvs) from Wa ok e)
 refine ⟨z,y,xs,r,o,es,ep,h1,h2,h3,h4,λ x hx=>?_,h5⟩;have all:∀ {l:List (List A2×V)}{m:List (List A2×Addr×Ae)},KT H l m->∀ x∈m,(FR (Cy P w)).is h x.1 x.2.1:=by
  intro l m q;induction q with
  | nil=>intro x hx;exact nomatch hx
  | @cons p q ps qs hq t ih=>
   intro x hx;rcases jb9.mp hx with e | hx
   ·subst e;exact KH ok (by rw [<- hq.1];exact hq.2.1)
   ·exact ih x hx
 exact all r x hx
def zS {kvs:List (List A2×V)} (ok:HOk P w H h) (e:H a=some (.dT kvs)):kvs.length<=Aw/\(a == EE)=false /\
  ∃ xs,KT H kvs xs/\h.DictOfH (FR (Cy P w)) a xs:=LB ok (.inl e)
end
def Fl (H:Hp) (a:Addr) (y:V) (r:Option V):Prop:=
 (∃ kvs k,Rd H a (.dK kvs)/\y=kV k/\r=BQ kvs k)\/∃ kvs k b,Rd H a (.dT kvs)/\y=.ref b/\H b=some (.tup (k.map kV))/\r=BQ kvs k
def DPut (H:Hp) (a:Addr) (y v:V) (H':Hp):Prop:=
 (∃ kvs k,H a=some (.dK kvs)/\y=kV k/\kvs.length < Aw/\H'=As H a (.dK (B7 kvs k v))) \/
 ∃ kvs k b,H a=some (.dT kvs)/\y=.ref b/\H b=some (.tup (k.map kV))/\kvs.length < Aw/\H'=As H a (.dT (B7 kvs k v))
def DPut.t {H:Hp}{a b:Addr}{kvs:List (List A2×V)}{k:List A2}{v:V} (e:H a=some (.dT kvs)) (eb:H b=some (.tup (k.map kV))) (hl:kvs.length < Aw):
  DPut H a (.ref b) v (As H a (.dT (B7 kvs k v))):=.inr ⟨kvs,k,b,e,rfl,eb,hl,rfl⟩
section
variable {X:Cx}{pins:List (Addr×Obj)}{σ:St}{H:Hp}{s:Ai}{a:Addr}{y v:V}{u r:Ae}{o:Option V}{A:Bf}{E:Ae->Ai->Prop}
def Inv.big (I:Inv X pins σ H s):EE < s.heap.objs.size:=by
 have h:Ep < s.heap.objs.size:=(I.mod.glob.keeps I.bk).lt;exact Zo (by decide) h
def gU {Q:Ae->Ai->Prop} (hu:A.units + 1 < Cp) (I:Inv X pins σ H s) (g:Fl H a y (some v)) (ry:RelV y u) (h:∀ w' s',Inv X pins σ H s'->RelV v w'->Q w' s'):
  Am (Ax X.prog X.w) A (HI (.ref a) u) Q E s:=by
 rcases g with ⟨kvs,k,e,ey,l⟩ | ⟨kvs,k,b,e,ey,eb,l⟩
 ·subst ey;obtain ⟨z,hd,vs,rel,dd⟩:=LD I.hok e;obtain ⟨w',hw,rw'⟩:=RelO.some_of (v:=v) (o:=Iy vs k) (by rw [l];exact rel.val k);exact wpAny_getItem_of (LH ry) dd.mapOf hw (h w' _ (I.tok _) rw')
 ·subst ey;cases (show u=Value.ref b from ry);obtain ⟨z,hd,xs,rel,dd⟩:=LB I.hok e;obtain ⟨w',hw,rw'⟩:=RelO.some_of (v:=v) (o:=(atKey xs k).map (·.2)) (by rw [l];exact rel.val k);obtain ⟨p,hp,hp2⟩:=jc0.mp hw;refine wpAny_getItem_heap (Nu hu) (KH I.hok eb) dd hp ?_;rw [hp2];exact h w' _ (I.tok _) rw'
def Ta {Q:Ae->Ai->Prop} (hu:A.units + 1 < Cp) (I:Inv X pins σ H s) (g:Fl H a y o) (ry:RelV y u) (h:∀ s',Inv X pins σ H s'->Q (.bool o.isSome) s'):
  Am (Ax X.prog X.w) A (BP .In u (.ref a)) Q E s:=by
 rcases g with ⟨kvs,k,e,ey,l⟩ | ⟨kvs,k,b,e,ey,eb,l⟩
 ·subst ey;obtain ⟨z,hd,vs,rel,dd⟩:=LD I.hok e;refine wpAny_in_of (LH ry) hd dd.mapOf ?_;rw [<- (rel.val k).isSome_eq,<- l];exact h _ (I.tok _)
 ·subst ey;cases (show u=Value.ref b from ry);obtain ⟨z,hd,xs,rel,dd⟩:=LB I.hok e;refine wpAny_in_heap (Nu hu) (KH I.hok eb) hd dd ?_;have q:=(rel.val k).isSome_eq;rw [SN] at q;rw [<- q,<- l];exact h _ (I.tok _)
def vN {Q:Ae->Ai->Prop} (hu:A.units + 1 < Cp) (I:Inv X pins σ H s) (g:Fl H a y o) (ry:RelV y u) (h:∀ s',Inv X pins σ H s'->Q (.bool (!o.isSome)) s'):
  Am (Ax X.prog X.w) A (BP .NotIn u (.ref a)) Q E s:=by
 rcases g with ⟨kvs,k,e,ey,l⟩ | ⟨kvs,k,b,e,ey,eb,l⟩
 ·subst ey;obtain ⟨z,hd,vs,rel,dd⟩:=LD I.hok e;refine wpAny_notIn_of (LH ry) hd dd.mapOf ?_;rw [<- (rel.val k).isSome_eq,<- l];exact h _ (I.tok _)
 ·subst ey;cases (show u=Value.ref b from ry);obtain ⟨z,hd,xs,rel,dd⟩:=LB I.hok e;refine wpAny_notIn_heap (Nu hu) (KH I.hok eb) hd dd ?_;have q:=(rel.val k).isSome_eq;rw [SN] at q;rw [<- q,<- l];exact h _ (I.tok _)
def X0 {h':Heap}{t':Nat}{ob:HO} (I:Inv X pins σ H s) (mu:Mv (H a)) (hs:IA a s.heap h') (he:∃ q,h'.get? a=some q) (new:zxg X.prog X.w (As H a ob) h' a ob):
  Inv X pins σ (As H a ob) { s with heap:=h',toks:=t' }:=
 I.write (x:=a) (e:=a) mu (.inl rfl) (λ b q hb z=>(hs.2 b hb).trans z) he new
def jk {P:AD}{w:AA}{H':Hp}{h':Heap}{kvs:List (A2×V)}{vs:List (A2×Ae)} (z:kvs.length<=Aw) (hd:(a == EE)=false) (rel:KV kvs vs) (dd:h'.DictOf (Cy P w) a vs):
  zxg P w H' h' a (.dK kvs):=⟨z,hd,vs,rel,dd⟩
def gW {H':Hp}{Q:Unit->Ai->Prop} (hu:A.units + 1 < Cp) (I:Inv X pins σ H s) (g:DPut H a y v H') (ry:RelV y u) (rv:RelV v r) (h:∀ s',Inv X pins σ H' s'->Q () s'):
  Am (Ax X.prog X.w) A (setItem (.ref a) u r) Q E s:=by
 rcases g with ⟨kvs,k,e,ey,l,eH⟩ | ⟨kvs,k,b,e,ey,eb,l,eH⟩
 ·subst ey eH;obtain ⟨z,hd,vs,rel,dd⟩:=dk_of I.hok e;have hz:vs.length<=Aw:=by rw [<- rel.length];exact z
  have hl:(B7 kvs k v).length<=Aw:=by have:=Vn kvs k v;omega
  refine wpAny_setItem_pairs (hsz:=hz) (LH ry) dd λ h' dd' hs=>h _ ?_;have he:∃ q,h'.get? a=some q:=let ⟨q,_,_,hq,_⟩:=dd';⟨q,hq⟩;exact X0 I (by rw [e];exact True.intro) hs he (jk hl hd (rel.put k rv) dd')
 ·subst ey eH;cases (show u=Value.ref b from ry);obtain ⟨z,hd,xs,rel,dd⟩:=zS I.hok e;have hz:xs.length<=Aw:=by rw [<- Paired.length rel];exact z
  have hl:(B7 kvs k v).length<=Aw:=by have:=Vn kvs k v;omega
  refine wpAny_setItem_heap (hsz:=hz) (Nu hu) (KH I.hok eb) dd λ h' dd' hs=>h _ ?_;obtain ⟨q,es,ep,hq,h2,h3,h4,_,h5⟩:=dd';refine X0 I (by rw [e];exact True.intro) hs ⟨q,hq⟩ ⟨hl,hd,_,(rel.put k eb rv).keeps λ c ys ec=>?_,q,es,ep,hq,h2,h3,h4,h5⟩;rw [AL (zw ec e (λ z=>nomatch z))];exact ec
end
section
variable {X:Cx}{pins:List (Addr×Obj)}{σ:St}{H:Hp}{s:Ai}{a:Addr}{kvs:List (A2×V)}{k:A2}{u:Ae}{A:Bf}{E:Ae->Ai->Prop}
end
def dB {X:Cx}{pins:List (Addr×Obj)}{σ:St}{H:Hp}{s:Ai}{a:Addr}{y:V}{o:Option V} (I:Inv X pins σ H s) (g:Fl H a y o):s.TypeIs (.ref a) "dict" := by
 rcases g with ⟨kvs,k,e,_,_⟩ | ⟨kvs,k,b,e,_,_,_⟩
 ·obtain ⟨_,_,vs,_,dd⟩:=LD I.hok e;exact dd.typeIs
 ·obtain ⟨_,_,xs,_,dd⟩:=LB I.hok e;exact dd.typeIs
section
variable {X:Cx}{o i e value:Expr}{pos pos' tpos:Pos}{td ty tv:TE}
end
def yT {P:AD}{w:AA}{H:Hp} (h:Heap) (hb:EE < h.objs.size):zxg P w H (h.push { cls:=.type "dict",data:=.dict #[] }) h.objs.size (.dT []):=
 ⟨Ea _,beq_eq_false_iff_ne.mpr (Dw (BJ hb)),[],.nil,_,#[],0,Bw _ rfl,⟨rfl,rfl,rfl⟩,rfl,rfl,List.nodup_nil⟩
def kH:TE:=λ _ H Q=>∀ p,H p=none->Q (.ref p) (As H p (.dT []))
section
variable {X:Cx}{pos:Pos}
def uY:PE X (.Dict [] [] pos) kH:=λ pins s σ H Q I h=>
 wpAny_Dict_empty ⟨.ref s.heap.objs.size,_,I.laid (a:=s.heap.objs.size) (o:=.dT []) (t':=s.toks) (λ _ _ q=>AS _ q) (A4 _) (yT s.heap I.big),rfl,h _ (I.hok.fresh (A4 _))⟩
end
end L2
namespace PySem.SeqAt
open AutoSeq1 (wpAny_loadPart')
open MeetsSeq MeetsSeq2 MeetsSeq3 SeqRoads2
section
variable {A:Bf}{s:Ai}
end
end PySem.SeqAt
namespace QQ
open PySem PySem.Spec PyProof.Rows L2
section
variable {pg:AD}{wd:AA}{Ar:Bf}{Er:Ae->Ai->Prop}{st:Ai}
def ba:typeLookup (.type "list_reverseiterator") "__len__" = pure none:=by rw [typeLookup_type,builtinLookup_eq_fast];kernel_rfl
def uc:typeLookup (.type "list_reverseiterator") "__length_hint__" = pure (some (.builtin "list_reverseiterator.__length_hint__")):=by rw [typeLookup_type,builtinLookup_eq_fast];kernel_rfl
def wG {Rz':Result->Ai->Prop}{l it:Addr}{xs:Array Ae} (hd0:Ar.handled=none) (lne:l≠it) (hri:st.heap.IsRevIter it l ((xs.size:Int) - 1)) (hl:st.heap.IsList l xs) (hz:xs.size<=Aw) (N:Addr) (nI:N≠it) (nl:N≠l) (rv:Ae) (c0:Nat) (hN:st.heap.get? N=some { cls:=.type "list",data:=.seq #[] c0 })
  (good:∀ hp tk out c2,(∀ b o,b≠N->b≠it->st.heap.get? b=some o->hp.get? b=some o)->hp.get? N=some { cls:=.type "list",dict:=none,data:=.seq out c2,slots:=#[] }->ItemsOf (λ i v=>xs[xs.size - 1 - i]?=some v) out xs.size->Rz' (.ok (.ret rv)) { st with heap:=hp,toks:=tk }):
  Am (Ax pg wd) Ar.in1 (N6 (.ref N) (.ref it) rv) (λ z t=>match z with | .done f=>Rz' (.ok f) t | .again k=>k.quiet=true/\HH (Ax pg wd) Ar k Rz' t) (λ e t=>Rz' (.error e) t) st:=by
 have walk:=(Walks.listRev (prog:=pg) (w:=wd) (A:=Ar.in1) hd0 it l lne xs).toS;have tI:st.TypeIs (.ref it) "list_reverseiterator" := hri.typeIs;have other:Builtin.List.listSameRef (.ref N) (.ref it)=false:=by simp [Builtin.List.listSameRef,nI]
 delta N6;refine Ah (wpAny_typeOf tI ?_);rw [if_neg (by rw [other];decide)];refine Ah (Qr hri (Ah (ID ?_)));delta Builtin.List.listLengthHint;refine Ah (Np tI ba ?_);show Am _ Ar.in1 (specialOf (Value.ref it) (G0 "__length_hint__") >>= _) _ _ _;refine Ah (Np tI uc ?_);generalize en:("list_reverseiterator.__length_hint__" : String)=nm
 wp_delta
 rw [show splitId nm=some ("list_reverseiterator","__length_hint__") from by subst en;decide +kernel];subst en;refine Ah (Ld (b:=true) tI (by rw [isSubtype_type];kernel_rfl) (Aq ?_));rw [if_neg (by decide)];refine Aq ⟨plainId_quiet F.plain_extend_loop _,codeAny_extend_loopS walk hz _ (by simp [nI,nl]) _ xs.size 0 _ _ _ rfl (Ea _) ⟨Ea _,by simpa using hri,hl⟩ hN (ItemsOf.nil _) λ t out c2 mv hN' all=>?_⟩;rw [Moved.eq_with mv];exact good t.heap t.toks out c2 (λ b o hb hb2 e=>mv.heap b o (by simp [hb,hb2]) e) hN' all
def ug {Qv:Ae->Ai->Prop}{l it:Addr}{xs:Array Ae} (hd0:Ar.handled=none) (lne:l≠it) (hri:st.heap.IsRevIter it l ((xs.size:Int) - 1)) (hl:st.heap.IsList l xs) (hz:xs.size<=Aw)
  (good:∀ hp tk out c2,(∀ b o,b≠it->st.heap.get? b=some o->hp.get? b=some o)->hp.get? st.heap.objs.size=some { cls:=.type "list",dict:=none,data:=.seq out c2,slots:=#[] }->ItemsOf (λ i v=>xs[xs.size - 1 - i]?=some v) out xs.size->Qv (.ref st.heap.objs.size) { st with heap:=hp,toks:=tk }):Am (Ax pg wd) Ar (call (.type "list") [.ref it]) Qv Er st:=by
 let one:Obj:={ cls:=.type "list",data:=.seq #[] }
 refine callType_codes (Q₁:=λ v t=>v=.ref st.heap.objs.size/\t={ st with heap:=st.heap.push one }) F.called_list (F.typeCall_list_1 _) F.entry_list_init (code_list_new _ ⟨rfl,rfl⟩) λ v t made=>?_;obtain ⟨rfl,rfl⟩:=made;have hN:(st.heap.push one).get? st.heap.objs.size=some one:=Bw _ rfl;refine ⟨⟨_,hN,rfl⟩,F.args_list_init_2 _ _,?_⟩;have nI:st.heap.objs.size≠it:=λ e=>by obtain ⟨o,ho,_⟩:=hri;exact Di _ (e ▸ AI ho)
 have nl:st.heap.objs.size≠l:=λ e=>by obtain ⟨o,ho,_⟩:=hl;exact Di _ (e ▸ AI ho)
 show Am _ Ar.in1.in1 (do let old<-Builtin.List.listItems (.ref st.heap.objs.size);Builtin.List.listUpdate (.ref st.heap.objs.size) (λ _=>#[]);letGo old.toList.reverse;N6 (.ref st.heap.objs.size) (.ref it) .none) _ _ _;refine Ah ?_;delta Builtin.List.listItems;refine Ah (GY hN rfl (Aq ?_));show Am _ _ (updateSeq st.heap.objs.size (λ _=>#[]) >>= λ _=>letGo (#[]:Array Ae).toList.reverse >>= λ _=>N6 (.ref st.heap.objs.size) (.ref it) .none) _ _ _;refine Ah (wpAny_updateSeq hN rfl (Ah (Nf ?_)));have hN2:=JU (Iz (λ _=>(#[]:Array Ae))) hN rfl;have Bg:∀ b o,b≠st.heap.objs.size->st.heap.get? b=some o->((st.heap.push one).update st.heap.objs.size (Iz (λ _=>(#[]:Array Ae)))).get? b=some o:=λ b o hb e=>(Nw _ _ (Dw hb)).trans (AS _ e);refine wG (Ar:=Ar.in1) hd0 lne (hri.at λ o e=>Bg it o (Dw nI) e) (hl.at λ o e=>Bg l o (Dw nl) e) hz st.heap.objs.size nI nl .none _ hN2 λ hp tk out c2 hk hN' all=>?_;exact ⟨rfl,good hp tk out c2 (λ b o hb e=>by
  have hb':b≠st.heap.objs.size:=λ z=>Di _ (z ▸ AI e);exact hk b o hb' hb (Bg b o hb' e)) hN' all⟩
end
section
variable {X:Cx}{σ:St}{H:Hp}{Q:VK}{pos p p2 pos2:Pos}{e a:Expr}{es:List Expr}
def DK (x:Str) (n:Nat):Str:=⟨(A9 n x.cps.toList).flatten.toArray⟩
def uU:OpR X (Em .FloorDiv) (rI (λ _ j=>0 < j/\j.natAbs.log2 < 9000) λ i j=>.int (i / j)):=LN λ i j _ _ _ _ _ hc q=>by
 have h1:(0:Int) < j:=hc.1;exact floordiv_int (by omega) (by rw [Int.fdiv_eq_ediv_of_nonneg i (by omega)];exact q) (.inl (PyProof.noPylong_of_log2 hc.2))
def Ca {X:Cx}{e:Expr}{t t':TE} (h:PE X e t) (i:∀ σ H Q,t' σ H Q->t σ H Q):PE X e t':=λ pins s σ H Q I q=>h pins s σ H Q I (i σ H Q q)
def KP {X:Cx}{e:Expr}{t t':TT} (h:PT X e t) (i:∀ σ H Q,t' σ H Q->t σ H Q):PT X e t':=λ pins s σ H Q I q=>h pins s σ H Q I (i σ H Q q)
def WB {X:Cx}{e:Expr}{t t':TT} (h:PW X e t) (i:∀ σ H Q,t' σ H Q->t σ H Q):PW X e t':=λ wh pins s σ H Q I q=>h wh pins s σ H Q I (i σ H Q q)
def W3 {X:Cx}{e:List Expr}{t t':TA} (h:PA X e t) (i:∀ σ H Q,t' σ H Q->t σ H Q):PA X e t':=λ p pins s σ H Q I q=>h p pins s σ H Q I (i σ H Q q)
def CP {X:Cx}{e:Stmt}{t t':TS} (h:PS X e t) (i:∀ D σ H,t' D σ H->t D σ H):PS X e t':=λ pins s σ H D I q=>h pins s σ H D I (i D σ H q)
def XX {X:Cx}{e:List Stmt}{t t':TS} (h:E4 X e t) (i:∀ D σ H,t' D σ H->t D σ H):E4 X e t':=λ pins s σ H D I q=>h pins s σ H D I (i D σ H q)
def qi5:OpR X (Em .Add) (λ x y H Q=>∃ a b ys,x=.ref a/\y=.ref b/\SqT X.K H a []/\SqT X.K H b ys/\Q (.ref b) H):=by
 intro pins s σ H x y v u Q I rx ry h;obtain ⟨a,b,ys,rfl,rfl,ha,hb,q⟩:=h;cases rx;cases ry;obtain ⟨its,r1,p1,_⟩:=I.tuple ha;obtain ⟨its2,r2,p2,_⟩:=I.tuple hb;cases r1;obtain ⟨⟨cls,dd,data,sl⟩,ho,hc,n,hd⟩:=id p1;obtain ⟨⟨cls2,dd2,data2,sl2⟩,ho2,hc2,n2,hd2⟩:=id p2;simp only at hc hd hc2 hd2;subst hc hd hc2 hd2;exact concat_meets ⟨_,ho,rfl⟩ ⟨_,ho2,rfl⟩ Qi seq_tuple_add Qy Qz (Q0 _ _)
  (tuple_addW0 a b _ its2.toArray n n2 dd dd2 sl sl2 rfl) ⟨ho,ho2,⟨.ref b,H,I,rfl,q⟩⟩
def yn:OpR X (Em .Sub) (rI (λ _ _=>True) λ i j=>.int (i - j)):=LN λ _ _ _ _ _ _ _ _ q=>sub_int q
theorem P4 (a:Array Nat):∀ (n:Nat) (b:Array Nat),(A9 n a).foldl (·++·) b=⟨b.toList++(A9 n a.toList).flatten⟩
 | 0,b=>by simp
 | n + 1,b=>by
  rw [EL,SF,P4 a n,EL,IZ];simp
def bX:OpR X (Em .Mult) (λ x y H Q=>∃ z n,x=.str z/\y=.int n/\-(2 ^ 62)<=n/\n < 2 ^ 62/\z.length * n.toNat<=Aw/\Q (.str (DK z n.toNat)) H):=by
 intro pins s σ H x y v u Q I rx ry h;obtain ⟨z,n,rfl,rfl,h1,h2,h3,q⟩:=h;obtain ⟨t1,rfl⟩:=rx;obtain ⟨t2,rfl⟩:=ry;have hz:Builtin.Str.tooLong (z.length * n.toNat)=false:=by
  unfold Builtin.Str.tooLong;have h40:Aw<=2 ^ 40:=by decide
  exact decide_eq_false (by omega)
 refine PySem.P.mul_str (by rw [decide_eq_false (by omega),decide_eq_false (by omega)];rfl) (λ _ _ hc=>?_) (λ _ _=>hz) ?_
 ·have hn:(1:Int)<=n:=by omega
  have hl:z.length * n.toNat<=2 ^ 62:=BF h3 (by decide);have h4:(z.length:Int) * n<=2 ^ 62:=by
   have:((z.length * n.toNat:Nat):Int)<=((2 ^ 62:Nat):Int):=Int.ofNat_le.mpr hl
   rw [Gb,show ((n.toNat:Nat):Int)=n by omega] at this;exact this
  have h5:(2 ^ 63 - 1) / n < (z.length:Int):=hc;have h6:=Int.lt_mul_of_ediv_lt (by omega:(0:Int) < n) h5;omega
 ·by_cases c1:n < 1
  ·rw [if_pos c1];refine ⟨by decide,.str (DK z n.toNat),H,I.tok _,⟨s.toks,?_⟩,q⟩;rw [show n.toNat=0 by omega];rfl
  ·rw [if_neg c1];split
   ·rename_i c2;refine ⟨.str (DK z n.toNat),H,I,⟨t1,?_⟩,q⟩;have e:DK z n.toNat=z:=by
     unfold DK;rcases Ga _ _ ▸ c2 with c | c
     ·have:n=1:=by simpa using c
      subst this;show (⟨([z.cps.toList].flatten).toArray⟩:Str)=z;simp
     ·have e0:z.cps.toList=[]:=by
       have:z.cps.size=0:=eq_of_beq c
       exact jo2.mpr (Array.eq_empty_of_size_eq_zero this)
      rw [e0]
      have:(A9 n.toNat ([]:List Nat)).flatten=[]:=by simp
      rw [this];cases z with
      | mk a=>simp at e0;subst e0;rfl
    rw [e]
   ·refine ⟨?_,.str (DK z n.toNat),H,I.tok _,⟨s.toks,?_⟩,q⟩
    ·rw [P4];show (#[].toList++(A9 n.toNat z.cps.toList).flatten).length<=Aw;simp only [Fg,Br,List.length_flatten,List.map_replicate,List.sum_replicate_nat];have h4:n.toNat * z.cps.size<=Aw:=by rw [FD];exact h3
     simpa using h4
    ·unfold DK;rw [P4];simp
def Cd (f:PV->Option EB):List PV->Option (List EB)
 | []=>some []
 | x::xs=>match f x,Cd f xs with
  | some a,some r=>some (a::r)
  | _,_=>none
def Dx:Nat->PV->Option EB
 | 0,_=>none
 | n + 1,x=>match x with
  | .non=>some .none
  | .bl b=>some (.bool b)
  | .int i=>some (.int i)
  | .str z=>if PyData.strOk z=true then some (.str z) else none
  | .lst xs=>(Cd (Dx n) xs).map .list
  | .tup xs=>(Cd (Dx n) xs).map .tuple
  | _=>none
theorem MQ {f:PV->Option EB}{n:Nat} (hf:∀ x D,f x=some D->D.canLay0=true/\D.depth<=n):∀ {xs:List PV}{Ds:List EB},Cd f xs=some Ds->Ql Ds=true/\Lc Ds<=n
 | [],Ds,h=>by cases h;rw [Ql,Lc];exact ⟨rfl,Ea _⟩
 | x::xs,Ds,h=>by
  unfold Cd at h;split at h
  ·rename_i a r h1 h2;cases h;have h3:=hf x a h1;have h4:=MQ hf h2;rw [Ql,Lc,h3.1,h4.1];exact ⟨rfl,Nat.max_le.mpr ⟨h3.2,h4.2⟩⟩
  ·cases h
theorem J2:∀ (n:Nat) (x:PV) (D:EB),Dx n x=some D->D.canLay0=true/\D.depth<=n
 | 0,_,_,h=>by cases h
 | n + 1,x,D,h=>by
  unfold Dx at h;cases x with
  | non=>cases h;rw [JL,PyData.depth] <;> first | exact ⟨rfl,Ea _⟩ | (intros;contradiction)
  | bl b=>cases h;rw [JL,PyData.depth] <;> first | exact ⟨rfl,Ea _⟩ | (intros;contradiction)
  | int i=>cases h;rw [JL,PyData.depth] <;> first | exact ⟨rfl,Ea _⟩ | (intros;contradiction)
  | str z=>
   dsimp only at h;split at h
   ·rename_i hz;cases h;rw [JL,PyData.depth] <;> first | exact ⟨hz,Ea _⟩ | (intros;contradiction)
   ·cases h
  | lst xs=>
   obtain ⟨Ds,e,rfl⟩:=jc0.mp h
   have:=MQ (J2 n) e
   rw [JL,PyData.depth];exact ⟨this.1,ZA this.2⟩
  | tup xs=>
   obtain ⟨Ds,e,rfl⟩:=jc0.mp h
   have:=MQ (J2 n) e
   rw [JL,PyData.depth];exact ⟨this.1,ZA this.2⟩
  | _=>cases h
def Oj {K':Type} [DecidableEq K'] {prog:AD}{w:AA}{knd:KeyKind prog w K'}{P:AD}{w0:AA}{h:Heap}{a:Addr} (x:h.DictOf (Cy P w0) a []):h.DictOf knd a []:=by
 obtain ⟨o,es,ep,h1,h2,h3,h4,h5,h6⟩:=x;generalize hes:es.toList=l at h5;cases h5;have e:es=#[]:=jo2.mp hes;subst e;exact ⟨o,#[],ep,h1,h2,h3,by intro z hz;simp at hz,.nil,.nil⟩
def qri:OpR X (BP .Is) (λ x y H Q=>∃ i j,x=.bl i/\y=.bl j/\Q (.bl (i == j)) H):=by
 intro pins s σ H x y v u Q I rx ry h;obtain ⟨i,j,rfl,rfl,q⟩:=h;cases rx;cases ry;exact is_bool ⟨.bl _,H,I,rfl,q⟩
def qfo:OpR X (BP .IsNot) (λ x y H Q=>∃ i j,x=.bl i/\y=.bl j/\Q (.bl (i != j)) H):=by
 intro pins s σ H x y v u Q I rx ry h;obtain ⟨i,j,rfl,rfl,q⟩:=h;cases rx;cases ry;exact isnot_bool ⟨.bl _,H,I,rfl,q⟩
def xD:R2:=λ x y H Q=>∃ a v,x=.ref a/\Fl H a y (some v)/\Q v H
def wg (hu:X.A.units + 1 < Cp):IxR X xD:=by
 intro value slice pins s σ H x y v u Q I rx ry h hs;obtain ⟨a,w,rfl,g,q⟩:=h;obtain rfl:v=Value.ref a:=rx;exact tail_any (dB I g) PySem.F.slot_dict_getitem.lookup (gU hu I g ry λ w' s' I' rw'=>⟨w,H,I',rw',q⟩) hs
def Lu:V->Option Int->Option Int->Hp->VK->Prop:=λ x lo hi H Q=>∃ z,x=.str z/\z.length<=Aw/\Q (.str (Txt.slice z lo hi)) H
theorem vm:SlR X Lu:=by
 intro pins s σ H x v vl vu lo hi sl Q I rx hs pl pu h;obtain ⟨z,rfl,hz,q⟩:=h;obtain ⟨t,rfl⟩:=rx;have go:∀ (l u:Option (Int×Tok)),vl=partValue l->vu=partValue u->l.map (·.1)=lo->u.map (·.1)=hi->∃ T id,typeLookup (.type T) "__getitem__" = pure (some (.builtin id))/\s.TypeIs (.str z t) T/\Am (Ax X.prog X.w) X.A (HI (.str z t) (.ref sl)) (EP X pins σ Q) X.xe s:=by
  rintro l u rfl rfl rfl rfl;refine ⟨"str",_,F.slot_str_getitem.lookup,typeIs_str _ _ _,wpAny_getItem_str_slice (l:=l) (u:=u) (st:=none) hs rfl (post_val_or_str ⟨BF (Txt.slice_le z _ _) hz,λ t' k=>⟨.str _,H,I.tok _,⟨_,rfl⟩,q⟩⟩)⟩
 cases pl with
 | none=>
  cases pu with
  | none=>exact go none none rfl rfl rfl rfl
  | int j uj=>exact go none (some (j,uj)) rfl rfl rfl rfl
 | int i ui=>
  cases pu with
  | none=>exact go (some (i,ui)) none rfl rfl rfl rfl
  | int j uj=>exact go (some (i,ui)) (some (j,uj)) rfl rfl rfl rfl
def KR:PV->String
 | .non => "NoneType"
 | .bl _ => "bool"
 | .int _ => "int"
 | .str _ => "str"
 | .lst _ => "list"
 | .tup _ => "tuple"
 | .emp => "dict"
 | .dko => "dict"
 | .dct _ => "dict"
 | .dcl _ _ => "dict"
 | _ => ""
def Jd (t T:String):Bool:=t == T || (t == "bool" && T == "int")
def Ht:List String:=["int","bool","str","list","tuple","dict"]
def d1 (xs:List PV):Nat:=if DV xs=true then om else 1
def Eu (n:Nat) (xs:List PV):List PV:=(A9 n xs).flatten
def GL (f:PV->PV->Bool):List PV->List PV->Bool
 | [],[]=>true
 | x::xs,y::ys=>f x y && GL f xs ys
 | _,_=>false
def Kc:Nat->PV->PV->Bool
 | 0,_,_=>false
 | n + 1,x,y=>match x,y with
  | .non,.non=>true
  | .bl a,.bl b=>a == b
  | .int a,.int b=>a == b
  | .str a,.str b=>a == b
  | .emp,.emp=>true
  | .lst xs,.lst ys=>GL (Kc n) xs ys
  | .tup xs,.tup ys=>GL (Kc n) xs ys
  | _,_=>false
def UI {n:Nat}{e:Nat->Bool} (h:∀ j,j < n->e j=true):(Ay n).all e=true:=jb1.mpr λ j hj=>h j (jb8.mp hj)
def isNon:PV->Bool
 | .non=>true
 | _=>false
def BE:List PV->Option (List A2)
 | []=>some []
 | .int i::r=>(BE r).map (.inl i::·)
 | .str x::r=>(BE r).map (.inr x::·)
 | _=>none
def FY:List (List A2)->List PV->List A2->Option PV
 | k'::ks,x::xs,k=>if k'=k then some x else FY ks xs k
 | _,_,_=>none
def Dp (xs:List PV) (lo hi:Option Int):List PV:=(xs.drop (HT.sIx xs.length 0 lo)).take (HT.sIx xs.length xs.length hi - HT.sIx xs.length 0 lo)
def Inv.big {pins:List (Addr×Obj)}{s:Ai} (I:L2.Inv X pins σ H s):EE < s.heap.objs.size:=by
 have h:Ep < s.heap.objs.size:=(I.mod.glob.keeps I.bk).lt;exact Zo (by decide) h
def yr:PE X (.Dict [] [] pos) (λ _ H Q=>∀ p,H p=none->Q (.ref p) (As H p (.dK []))):=λ pins s σ H Q I h=>
 wpAny_Dict_empty ⟨.ref s.heap.objs.size,_,I.laid (a:=s.heap.objs.size) (o:=.dK []) (t':=s.toks) (λ _ _ q=>AS _ q) (A4 _) ⟨Ea _,beq_eq_false_iff_ne.mpr (Dw (BJ (Inv.big I))),[],.nil,Heap.DictOf.new s.heap⟩,rfl,h _ (I.hok.fresh (A4 _))⟩
def uz:zwr X (.builtin "isinstance") (λ xs H Q=>∃ x t T k,xs=[x,.ty T]/\TyOf X.K H x t/\HN X.K t (.type T)=some k/\Q (.bl k) H):=by
 intro pins s σ H xs us Q I r h;obtain ⟨x,t,T,k,rfl,ty,hk,q⟩:=h;obtain ⟨u,w,rfl,r1,r2⟩:=Rl r;cases r2;exact gS I r1 ty hk λ tk=>⟨.bl k,H,I.tok _,rfl,q⟩
def uy (hc:X.calm=true):zwr X (.builtin "all") (λ xs H Q=>∃ (p:Addr) (bs:List Bool),xs=[.ref p]/\Bd X.K H p (bs.map V.bl)/\Q (.bl (bs.all id)) H):=by
 intro pins s σ H xs us Q I r h;obtain ⟨p,bs,rfl,hq,q⟩:=h;obtain ⟨u,rfl,rx⟩:=Ei r;cases rx;obtain ⟨its,rv,pl,hz⟩:=I.list hq;have hl:=rv.length;rw [AJ] at hl;refine call_all_walk (wpAny_pyIter_list pl.isList ?_);have hlt:p < s.heap.objs.size:=by obtain ⟨o,n,e,_⟩:=pl;exact AI e
 have hne:p≠s.heap.objs.size:=BJ hlt;refine ⟨s.heap.objs.size,_,_,its.toArray.size,_,_,λ i=>bs.getD i true,rfl,Walks.list (A:=X.A.in1) (show X.A.in1.handled=none from I.ok.hd hc) s.heap.objs.size p hne its.toArray,⟨⟨_,Bw _ rfl,rfl,rfl⟩,?_⟩,?_,λ h' tk k=>?_⟩
 ·exact pl.isList.at λ o e=>AS _ e
 ·intro i v s' Q' E' hv hq';have hv':its[i]?=some v:=by simpa using hv
  have hi:i < bs.length:=by rw [hl];exact (jb0.mp hv').1
  obtain ⟨w,e1,e2⟩:=rv.get (i:=i) (x:=.bl bs[i]) (by simp [hi]);rw [hv'] at e1;cases e1;cases e2;refine Ha ?_
  have:bs.getD i true=bs[i]:=by simp [S1,hi]
  dsimp only at hq';rw [this] at hq';exact hq'
 ·have I1:L2.Inv X pins σ H { s with heap:=s.heap.push { cls:=.type "list_iterator",data:=.fields #[.ref p,Dv 0] } }:=I.kept (t':=s.toks) λ b o e=>AS _ e;obtain ⟨f0,f1,f2,f3,f4,f5⟩:=I.fpOk (H':=H) (A4 s.heap.objs.size) (I.hok.fresh (A4 _));have I2:L2.Inv X pins σ H { s with heap:=h',toks:=tk }:=I1.turned (t':=tk) (λ b o hb e=>k b o (by simpa using hb) e) f0 f1 f3 f4 f5;refine ⟨.bl _,H,I2,rfl,?_⟩;have e:(Ay its.toArray.size).all (λ i=>bs.getD i true)=bs.all id:=by
   rw [BC,<- hl];rw [Eb];simp only [jb1,jb8,id];constructor
   ·intro h x hx;obtain ⟨i,hi,rfl⟩:=Ia hx
    have:=h i hi
    simpa [S1,hi] using this
   ·intro h i hi;simp [S1,hi];exact h _ (HW hi)
  rw [e];exact q
theorem Ij:∀ {ns:List Int}{its:List Ae},Vals (ns.map V.int) its->∃ xs:List (Int×Tok),its=xs.map (λ p=>Value.int p.1 p.2)/\xs.map (·.1)=ns
 | [],its,h=>by cases h;exact ⟨[],rfl,rfl⟩
 | n::ns,its,h=>by
  cases h with
  | cons r rr=>
   obtain ⟨t,rfl⟩:=r;obtain ⟨xs,rfl,rfl⟩:=Ij rr;exact ⟨(n,t)::xs,rfl,rfl⟩
def gz (hc:X.calm=true):zwr X (.builtin "min") (λ xs H Q=>∃ (p:Addr) (ns:List Int),xs=[.ref p]/\Bd X.K H p (ns.map V.int)/\ns≠[]/\∀ m,m∈ns->(∀ a∈ns,m<=a)->Q (.int m) H):=by
 intro pins s σ H xs us Q I r h;obtain ⟨p,ns,rfl,hq,hn,q⟩:=h;obtain ⟨u,rfl,rx⟩:=Ei r;cases rx;obtain ⟨its,rv,pl,hz⟩:=I.list hq;obtain ⟨zs,rfl,rfl⟩:=Ij rv;have e:(zs.map λ p=>Value.int p.1 p.2).toArray=C2 zs.toArray:=by simp [C2]
 rw [e] at pl;have h0:0 < zs.length:=by
  cases zs with
  | nil=>exact absurd rfl hn
  | cons _ _=>simp
 refine min_intList (I.ok.hd hc) pl.isList (by simpa using h0) λ v h' tk hv k=>?_;obtain ⟨l1,l2⟩:=argBest_lt (B6 zs.toArray) (zs.toArray.size - 1);have hv':=hv;obtain ⟨t,rfl⟩:=JJ hv;have at':∀ j,j < zs.length->B6 zs.toArray j∈zs.map (·.1):=λ j hj=>by
  unfold B6;simp [hj];exact ⟨_,HW hj⟩
 refine ⟨.int _,H,I.kept (t':=tk) k,⟨t,rfl⟩,q _ (at' _ ?_) λ a ha=>?_⟩
 ·have:zs.toArray.size=zs.length:=by simp
  omega
 ·obtain ⟨z,hz,rfl⟩:=jc2.mp ha;obtain ⟨j,hj,rfl⟩:=Ia hz;have hzs:zs.toArray.size=zs.length:=by simp
  have:=l2 j (by omega)
  have e:B6 zs.toArray j=zs[j].1:=by unfold B6;simp [hj]
  rw [e] at this;exact this
def bS {prog:AD}{w:AA}{A:Bf}{E:Ae->Ai->Prop}{s:Ai}{l:Addr}{xs:Array (Int×Tok)}{Q:Ae->Ai->Prop} (hh:A.handled=none) (hl:s.heap.IsTuple l (C2 xs)) (hne:0 < xs.size)
  (h:∀ v h' tk,(C2 xs)[argBest (λ i j=>decide (B6 xs i < B6 xs j)) (xs.size - 1)]?=some v->(∀ b o,s.heap.get? b=some o->h'.get? b=some o)->Q v { s with heap:=h',toks:=tk }):
  Am (Ax prog w) A (call (.builtin "min") [.ref l]) Q E s:=by
 have hlt:l < s.heap.objs.size:=by obtain ⟨_,e,_⟩:=hl;exact AI e
 refine call_min_walk (Lf hl ?_);refine ⟨_,[_,l],[_],_,_,_,_,rfl,Walks.tuple (A:=A.in1) hh _ l (BJ hlt) (C2 xs),⟨⟨_,Bw _ rfl,rfl,rfl⟩,hl.push _⟩,λ c hc=>?_,by simpa [C2] using hne,CmpOf.ints_lt (B6 xs) (λ _ _=>JJ),λ v h' tk hP hk=>?_⟩
 ·show c < (s.heap.push _).objs.size;rw [Fz];rcases jb9.mp hc with rfl | hc
  ·exact Gd _
  ·rcases jb9.mp hc with rfl | hc
   ·exact Me hlt
   ·cases hc
 ·exact h v h' tk (by simpa [C2] using hP) λ c o e=>by
   refine hk c o (λ hm=>?_) (AS _ e);rcases jb9.mp hm with e1 | hm
   ·exact absurd (e1 ▸ AI e) (Di _)
   ·cases hm
def g0 (hc:X.calm=true):zwr X (.builtin "min") (λ xs H Q=>∃ (p:Addr) (ns:List Int),xs=[.ref p]/\SqT X.K H p (ns.map V.int)/\ns≠[]/\∀ m,m∈ns->(∀ a∈ns,m<=a)->Q (.int m) H):=by
 intro pins s σ H xs us Q I r h;obtain ⟨p,ns,rfl,hq,hn,q⟩:=h;obtain ⟨u,rfl,rx⟩:=Ei r;cases rx;obtain ⟨its,rv,pl,hz⟩:=I.tuple hq;obtain ⟨zs,rfl,rfl⟩:=Ij rv;have e:(zs.map λ p=>Value.int p.1 p.2).toArray=C2 zs.toArray:=by simp [C2]
 rw [e] at pl;have h0:0 < zs.length:=by
  cases zs with
  | nil=>exact absurd rfl hn
  | cons _ _=>simp
 refine bS (I.ok.hd hc) pl (by simpa using h0) λ v h' tk hv k=>?_;obtain ⟨l1,l2⟩:=argBest_lt (B6 zs.toArray) (zs.toArray.size - 1);have hv':=hv;obtain ⟨t,rfl⟩:=JJ hv;have at':∀ j,j < zs.length->B6 zs.toArray j∈zs.map (·.1):=λ j hj=>by
  unfold B6;simp [hj];exact ⟨_,HW hj⟩
 refine ⟨.int _,H,I.kept (t':=tk) k,⟨t,rfl⟩,q _ (at' _ ?_) λ a ha=>?_⟩
 ·have:zs.toArray.size=zs.length:=by simp
  omega
 ·obtain ⟨z,hz,rfl⟩:=jc2.mp ha;obtain ⟨j,hj,rfl⟩:=Ia hz;have hzs:zs.toArray.size=zs.length:=by simp
  have:=l2 j (by omega)
  have e:B6 zs.toArray j=zs[j].1:=by unfold B6;simp [hj]
  rw [e] at this;exact this
def Eh (ns:List Int):Bool:=decide (ns.length<=2 ^ 20) && ns.all λ i=>decide (-(2 ^ 40)<=i) && decide (i<=2 ^ 40)
theorem bz {ns:List Int} (h:∀ i∈ns,-(2 ^ 40)<=i/\i<=2 ^ 40):∀ j:Nat,-(2 ^ 40) * (j:Int)<=(ns.take j).sum/\(ns.take j).sum<=2 ^ 40 * (j:Int):=by
 induction ns with
 | nil=>intro j;rw [Zv,Zn];omega
 | cons n ns ih=>
  intro j;cases j with
  | zero=>rw [Zz,Zn];omega
  | succ j=>
   have:=ih (λ i hi=>h i (AO _ hi)) j
   have hn:=h n AM;rw [List.take_succ_cons,Dy];omega
def g6 (hc:X.calm=true):zwr X (.builtin "sum") (λ xs H Q=>∃ (p:Addr) (ns:List Int),xs=[.ref p]/\Bd X.K H p (ns.map V.int)/\Eh ns=true/\Q (.int ns.sum) H):=by
 intro pins s σ H xs us Q I r h;obtain ⟨p,ns,rfl,hq,hn,q⟩:=h;obtain ⟨u,rfl,rx⟩:=Ei r;cases rx;obtain ⟨its,rv,pl,hz⟩:=I.list hq;obtain ⟨zs,rfl,rfl⟩:=Ij rv;have e:(zs.map λ p=>Value.int p.1 p.2).toArray=C2 zs.toArray:=by simp [C2]
 rw [e] at pl;unfold Eh at hn;rw [AK] at hn;have hl:(zs.map (·.1)).length<=2 ^ 20:=by simpa using hn.1
 have hb:∀ i∈zs.map (·.1),-(2 ^ 40)<=i/\i<=2 ^ 40:=λ i hi=>by
  have:=jb1.mp hn.2 i hi
  rw [AK] at this;exact ⟨of_decide_eq_true this.1,of_decide_eq_true this.2⟩
 have sz:zs.toArray.size=zs.length:=by simp
 rw [AJ] at hl;have pre:∀ j,preSum (B6 zs.toArray) j=((zs.map (·.1)).take j).sum:=λ j=>by
  rw [preSum_eq]
 refine sum_intList (I.ok.hd hc) pl.isList (λ j hj=>⟨?_,?_⟩) λ h' tk t' k=>⟨.int _,H,I.kept (t':=tk) k,⟨t',rfl⟩,?_⟩
 ·have e1:B6 zs.toArray j=zs[j].1:=by unfold B6;simp [show j < zs.length by omega]
  have:=hb (zs[j]'(by omega)).1 (jc2.mpr ⟨_,HW _,rfl⟩)
  rw [e1];unfold InLong;omega
 ·have:=bz hb (j + 1)
  rw [pre];unfold InLong;omega
 ·rw [pre,sz]
  have:((zs.map (·.1)).take zs.length)=zs.map (·.1):=by
   rw [OF];simp
  rw [this];exact q
def Ey:Int->List Int->Int
 | n,[]=>n
 | n,m::r=>Ey (if m < n then m else n) r
theorem Pm:∀ (r:List Int) (n:Int),Ey n r∈n::r
 | [],n=>AM
 | m::r,n=>by
  unfold Ey
  have:=Pm r (if m < n then m else n)
  rcases jb9.mp this with h | h
  ·rw [h];split
   ·exact AO _ AM
   ·exact AM
  ·exact AO _ (AO _ h)
theorem Sf:∀ (r:List Int) (n:Int),∀ a∈n::r,Ey n r<=a
 | [],n,a,h=>by
  have:a=n:=by simpa using h
  rw [this];exact C5 _
 | m::r,n,a,h=>by
  unfold Ey;have ih:=Sf r (if m < n then m else n);have h1:=ih _ AM;have h2:(if m < n then m else n)<=n/\(if m < n then m else n)<=m:=by split <;> omega
  rcases jb9.mp h with e | h
  ·rw [e];omega
  ·rcases jb9.mp h with e | h
   ·rw [e];omega
   ·exact ih a (AO _ h)
def U2 {ns:List Int}{m m':Int} (h1:m∈ns) (h2:∀ a∈ns,m<=a) (h3:m'∈ns) (h4:∀ a∈ns,m'<=a):m=m':=by
 have:=h2 m' h3
 have:=h4 m h1
 omega
def g9 (hc:X.calm=true):zwr X (.builtin "sum") (λ xs H Q=>∃ (p:Addr) (ns:List Int),xs=[.ref p]/\SqT X.K H p (ns.map V.int)/\Q (.int ns.sum) H):=by
 intro pins s σ H xs us Q I r h;obtain ⟨p,ns,rfl,hq,q⟩:=h;obtain ⟨u,rfl,rx⟩:=Ei r;cases rx;obtain ⟨its,rv,pl,hz⟩:=I.tuple hq;obtain ⟨zs,rfl,rfl⟩:=Ij rv;have e:(zs.map λ p=>Value.int p.1 p.2).toArray=C2 zs.toArray:=by simp [C2]
 rw [e] at pl;refine PySem.W.ktm_sumG (I.ok.hd hc) (show s.heap.IsTuple p (C2 zs.toArray) from pl) λ h' tk t' k=>⟨.int _,H,I.kept (t':=tk) k,⟨t',rfl⟩,?_⟩
 rw [preSum_eq,OF (by simp)];exact q
def gc:zwr X (.builtin "abs") (λ xs H Q=>∃ i:Int,xs=[.int i]/\Q (.int (if i < 0 then -i else i)) H):=by
 intro pins s σ H xs us Q I rv h;obtain ⟨i,rfl,k⟩:=h;obtain ⟨u,rfl,t,rfl⟩:=Ei rv;exact call_abs_int λ u tk=>⟨.int _,H,I.tok _,⟨_,rfl⟩,k⟩
def Ci:Int->List Int->Int
 | n,[]=>n
 | n,m::r=>Ci (if m > n then m else n) r
theorem PL:∀ (r:List Int) (n:Int),Ci n r∈n::r
 | [],n=>AM
 | m::r,n=>by
  have q:=PL r (if m > n then m else n);show Ci (if m > n then m else n) r∈_;rcases jb9.mp q with z | z
  ·rw [z];split <;> simp
  ·simp [z]
theorem Se:∀ (r:List Int) (n:Int),∀ a∈n::r,a<=Ci n r
 | [],n,a,h=>by
  have e:a=n:=by simpa using h
  rw [e];exact C5 _
 | m::r,n,a,h=>by
  show a<=Ci (if m > n then m else n) r;have q:=Se r (if m > n then m else n);have q1:=q _ AM;have q2:n<=(if m > n then m else n)/\m<=(if m > n then m else n):=by split <;> omega
  simp only [jb9] at h;rcases h with z | z | z
  ·omega
  ·omega
  ·exact q a (AO _ z)
def gq (hc:X.calm=true):zwr X (.builtin "max") (λ xs H Q=>∃ (q:Addr) (n:Int) (r:List Int),xs=[.ref q]/\Bd X.K H q ((n::r).map V.int)/\Q (.int (Ci n r)) H):=by
 intro pins s σ H xs us Q I rv h;obtain ⟨q,n,r,rfl,hq,k0⟩:=h;obtain ⟨u,rfl,rx⟩:=Ei rv;cases rx;obtain ⟨its,rv2,pl,hz⟩:=I.list hq;obtain ⟨zs,rfl,ez⟩:=Ij rv2;have e:(zs.map λ p=>Value.int p.1 p.2).toArray=C2 zs.toArray:=by simp [C2]
 rw [e] at pl;have hsz:zs.toArray.size=zs.length:=by simp
 have h0:0 < zs.length:=by
  cases zs with
  | nil=>cases ez
  | cons _ _=>simp
 refine max_intList (I.ok.hd hc) pl.isList (by simpa using h0) λ v h' tk hv k=>?_;obtain ⟨l1,l2⟩:=argBest_gt (B6 zs.toArray) (zs.toArray.size - 1);obtain ⟨t,rfl⟩:=JJ hv;generalize argBest (λ i j=>decide (B6 zs.toArray i > B6 zs.toArray j)) (zs.toArray.size - 1)=b at *;have num:∀ j,(hj:j < zs.length)->B6 zs.toArray j=zs[j].1:=λ j hj=>by unfold B6;simp [hj]
 have hm:B6 zs.toArray b∈n::r:=by
  rw [num b (by omega),<- ez];exact jc2.mpr ⟨_,HW _,rfl⟩
 have hg:∀ a∈n::r,a<=B6 zs.toArray b:=λ a ha=>by
  rw [<- ez] at ha;obtain ⟨z,hz',rfl⟩:=jc2.mp ha;obtain ⟨j,hj,rfl⟩:=Ia hz';rw [<- num j hj];exact l2 j (by omega)
 have eb:B6 zs.toArray b=Ci n r:=Z3 (Se r n _ hm) (hg _ (PL r n));exact ⟨.int _,H,I.kept (t':=tk) k,⟨t,rfl⟩,by rw [eb];exact k0⟩
def bQ {prog:AD}{w:AA}{A:Bf}{E:Ae->Ai->Prop}{s:Ai}{l:Addr}{xs:Array (Int×Tok)}{Q:Ae->Ai->Prop} (hh:A.handled=none) (hl:s.heap.IsTuple l (C2 xs)) (hne:0 < xs.size)
  (h:∀ v h' tk,(C2 xs)[argBest (λ i j=>decide (B6 xs i > B6 xs j)) (xs.size - 1)]?=some v->(∀ b o,s.heap.get? b=some o->h'.get? b=some o)->Q v { s with heap:=h',toks:=tk }):
  Am (Ax prog w) A (call (.builtin "max") [.ref l]) Q E s:=by
 have hlt:l < s.heap.objs.size:=by obtain ⟨_,e,_⟩:=hl;exact AI e
 refine call_max_walk (Lf hl ?_);refine ⟨_,[_,l],[_],_,_,_,_,rfl,Walks.tuple (A:=A.in1) hh _ l (BJ hlt) (C2 xs),⟨⟨_,Bw _ rfl,rfl,rfl⟩,hl.push _⟩,λ c hc=>?_,by simpa [C2] using hne,CmpOf.ints_gt (B6 xs) (λ _ _=>JJ),λ v h' tk hP hk=>?_⟩
 ·show c < (s.heap.push _).objs.size;rw [Fz];rcases jb9.mp hc with rfl | hc
  ·exact Gd _
  ·rcases jb9.mp hc with rfl | hc
   ·exact Me hlt
   ·cases hc
 ·exact h v h' tk (by simpa [C2] using hP) λ c o e=>by
   refine hk c o (λ hm=>?_) (AS _ e);rcases jb9.mp hm with e1 | hm
   ·exact absurd (e1 ▸ AI e) (Di _)
   ·cases hm
def gw (hc:X.calm=true):zwr X (.builtin "max") (λ xs H Q=>∃ (q:Addr) (n:Int) (r:List Int),xs=[.ref q]/\SqT X.K H q ((n::r).map V.int)/\Q (.int (Ci n r)) H):=by
 intro pins s σ H xs us Q I rv h;obtain ⟨q,n,r,rfl,hq,k0⟩:=h;obtain ⟨u,rfl,rx⟩:=Ei rv;cases rx;obtain ⟨its,rv2,pl,hz⟩:=I.tuple hq;obtain ⟨zs,rfl,ez⟩:=Ij rv2;have e:(zs.map λ p=>Value.int p.1 p.2).toArray=C2 zs.toArray:=by simp [C2]
 rw [e] at pl;have hsz:zs.toArray.size=zs.length:=by simp
 have h0:0 < zs.length:=by
  cases zs with
  | nil=>cases ez
  | cons _ _=>simp
 refine bQ (I.ok.hd hc) pl (by simpa using h0) λ v h' tk hv k=>?_;obtain ⟨l1,l2⟩:=argBest_gt (B6 zs.toArray) (zs.toArray.size - 1);obtain ⟨t,rfl⟩:=JJ hv;generalize argBest (λ i j=>decide (B6 zs.toArray i > B6 zs.toArray j)) (zs.toArray.size - 1)=b at *;have num:∀ j,(hj:j < zs.length)->B6 zs.toArray j=zs[j].1:=λ j hj=>by unfold B6;simp [hj]
 have hm:B6 zs.toArray b∈n::r:=by
  rw [num b (by omega),<- ez];exact jc2.mpr ⟨_,HW _,rfl⟩
 have hg:∀ a∈n::r,a<=B6 zs.toArray b:=λ a ha=>by
  rw [<- ez] at ha;obtain ⟨z,hz',rfl⟩:=jc2.mp ha;obtain ⟨j,hj,rfl⟩:=Ia hz';rw [<- num j hj];exact l2 j (by omega)
 have eb:B6 zs.toArray b=Ci n r:=Z3 (Se r n _ hm) (hg _ (PL r n));exact ⟨.int _,H,I.kept (t':=tk) k,⟨t,rfl⟩,by rw [eb];exact k0⟩
def xA (K:Frag):V->Hp->VK->Prop:=λ x H1 Q=>(∃ l xs,x=.ref l/\Bd K H1 l xs/\∀ p,H1 p=none->Q (.ref p) (As H1 p (.lst xs.reverse)))\/∃ z,x=.str z/\z.length<=Aw/\Q (.str ⟨z.cps.toList.reverse.toArray⟩) H1
def yh (z:Str) (tk u:Tok):PySem.sliceMade z tk none none (some (-1,u))=.str ⟨z.cps.toList.reverse.toArray⟩:=by
 unfold PySem.sliceMade PySem.slicePicked;rw [if_neg (by simp)];have e:Q5 none none (-1) z.length=(Ay z.cps.size).reverse:=by
  have e1:Q5 none none (-1) z.length=sliceRange ((z.length:Int) - 1) (-1) (-1):=rfl;rw [e1,PySem.W.krv_sliceRange,PySem.W.krv_range];rfl
 show Made.str ⟨((Q5 none none (-1) z.length).filterMap (z.cps[·]?)).toArray⟩=_;rw [e,List.filterMap_reverse,PySem.W.krv_all]
theorem Pz:∀ {xs:List V}{us:List Ae},Vals xs us->Vals xs.reverse us.reverse
 | _,_,.nil=>.nil
 | _,_,.cons r rr=>by rw [OA,OA];exact (Pz rr).append (.cons r .nil)
def z9 {te:TE}{k:Nat}{p3 p4:Pos} (he:PE X a te):PE X (.Subscript a (.Slice none none (some (.UnaryOp .USub (.Constant (.int 1) k p3) p4)) p2) pos) (NL (xA X.K) te):=by
 intro pins s σ H Q I h;refine Subscript_ (A0 (he pins s σ H _ I h) λ v s1 ⟨x,H1,I1,r1,q1⟩=>?_);have hp:=X8 (VY (pos:=p4) WK (W5 (X:=X) (i:=1) (j:=k) (pos:=p3)));have hn:PO X none P6:=X7;obtain ⟨l,xs,rfl,hq,q⟩ | ⟨z,rfl,hz,q⟩:=q1
 ·cases r1;refine wpAny_Slice (A0 (hn pins s1 σ H1 (λ o H'=>o=none/\H'=H1) I1 ⟨rfl,rfl⟩) λ vl s2 ⟨o2,H2,I2,p2',e2⟩=>?_);obtain ⟨rfl,rfl⟩:=e2;refine A0 (hn pins s2 σ H2 (λ o H'=>o=none/\H'=H2) I2 ⟨rfl,rfl⟩) λ vu s3 ⟨o3,H3,I3,p3',e3⟩=>?_;obtain ⟨rfl,rfl⟩:=e3;refine A0 (hp pins s3 σ H3 (λ o H'=>o=some (-1)/\H'=H3) I3 ⟨1,rfl,-1,rfl,rfl,rfl⟩) λ vk s4 ⟨o4,H4,I4,p4',e4⟩=>?_;obtain ⟨rfl,rfl⟩:=e4;have I5:Inv X pins σ H4 { s4 with heap:=s4.heap.push { cls:=.type "slice",data:=.fields #[vl,vu,vk] } }:=I4.kept (t':=s4.toks) λ b ob q=>AS _ q;obtain ⟨its,r,ht,hz⟩:=I5.list hq;have hlen:=r.length;show Am (Ax X.prog X.w) X.A (Ng a (.Slice none none (some (.UnaryOp .USub (.Constant (.int 1) k p3) p4)) p2) (.ref l) (.ref s4.heap.objs.size)) (EP X pins σ Q) X.xe { s4 with heap:=s4.heap.push { cls:=.type "slice",data:=.fields #[vl,vu,vk] } };refine tail_any (ops:=[.ref l,.ref s4.heap.objs.size]) ht.isList.typeIs slot_list_getitem.lookup ?_ (by with_unfolding_all rfl);refine wpAny_getItem_list_slice ht.isList (Heap.IsSliceOf.new ..) p2' p3' p4' (by simp) ?_ (by rw [BC] <;> omega);rw [PySem.W.krv_pick];refine ⟨.ref _,_,I5.laid (o:=.lst xs.reverse) (λ b ob q=>AS _ q) (A4 _) ?_,rfl,q _ (I5.hok.fresh (A4 _))⟩;refine ⟨by rw [Kk];exact hz,its.reverse,0,Pz r,Bw _ rfl⟩
 ·obtain ⟨tk,rfl⟩:=r1;refine wpAny_Slice (A0 (hn pins s1 σ H1 (λ o H'=>o=none/\H'=H1) I1 ⟨rfl,rfl⟩) λ vl s2 ⟨o2,H2,I2,p2',e2⟩=>?_);obtain ⟨rfl,rfl⟩:=e2;refine A0 (hn pins s2 σ H2 (λ o H'=>o=none/\H'=H2) I2 ⟨rfl,rfl⟩) λ vu s3 ⟨o3,H3,I3,p3',e3⟩=>?_;obtain ⟨rfl,rfl⟩:=e3;refine A0 (hp pins s3 σ H3 (λ o H'=>o=some (-1)/\H'=H3) I3 ⟨1,rfl,-1,rfl,rfl,rfl⟩) λ vk s4 ⟨o4,H4,I4,p4',e4⟩=>?_;obtain ⟨rfl,rfl⟩:=e4;cases p2';cases p3';cases p4' with
  | int _ u=>
   have I5:Inv X pins σ H4 { s4 with heap:=s4.heap.push { cls:=.type "slice",data:=.fields #[.none,.none,.int (-1) u] } }:=I4.kept (t':=s4.toks) λ b ob q=>AS _ q;show Am (Ax X.prog X.w) X.A (Ng a (.Slice none none (some (.UnaryOp .USub (.Constant (.int 1) k p3) p4)) p2) (.str z tk) (.ref s4.heap.objs.size)) (EP X pins σ Q) X.xe { s4 with heap:=s4.heap.push { cls:=.type "slice",data:=.fields #[.none,.none,.int (-1) u] } };refine tail_any (ops:=[.str z tk,.ref s4.heap.objs.size]) (typeIs_str _ z tk) PySem.F.slot_str_getitem.lookup ?_ (by with_unfolding_all rfl);refine wpAny_getItem_str_slice (l:=none) (u:=none) (st:=some (-1,u)) ⟨_,Bw _ rfl,rfl,rfl⟩ rfl ?_;rw [yh];refine ⟨?_,.str _,H4,I5.tok _,⟨_,rfl⟩,q⟩;show z.cps.toList.reverse.toArray.size<=Aw;have hz':z.cps.size<=Aw:=hz;simpa using hz'
def gT {its:List Ae}{acc:Array Ae} (h:ItemsOf (λ i v=>its.toArray[its.toArray.size - 1 - i]?=some v) acc its.toArray.size):acc.toList=its.reverse:=by
 obtain ⟨hs,hi⟩:=h;simp only [BC] at hs hi;refine List.ext_getElem? λ j=>?_;by_cases hj:j < its.length
 ·have e:acc[j]?=some acc[j]:=Array.getElem?_eq_getElem (by omega)
  have:=hi j _ e
  rw [SS,e,SR hj,<- this];simp
 ·rw [Fh (by simp;omega),Fh (by simp;omega)]
def QH (K:Frag):V->Hp->VK->Prop:=λ x H1 Q=>∃ l xs,x=.ref l/\Bd K H1 l xs/\∀ p,H1 p=none->Q (.ref p) (As H1 p (.lst xs.reverse))
def yt {te:TE} (hc:X.calm=true) (hgL:Gl X "list") (hmL:X.mg "list" = none) (hgR:Gl X "reversed") (hmR:X.mg "reversed" = none) (ha:PE X a te) (hs:Bi [a] X.env=[(false,eval a X.env)]):
  PE X (.Call (.Name "list" p) [.Call (.Name "reversed" p2) [a] [] pos2] [] pos) (NL (QH X.K) te):=by
 intro pins s σ H Q I h;refine Nv (FN I hgL hmL boot_list ?_ (by decide) (by decide));refine Hc ?_ rfl rfl;show Am _ _ (spliced ((false,eval (.Call (.Name "reversed" p2) [a] [] pos2) X.env)::[])) _ _ s;refine Qo ?_;refine Call_ (FN I hgR hmR boot_reversed (Hc ?_ hs rfl));rw [hs];show Am _ _ (spliced ((false,eval a X.env)::[])) _ _ s;refine Qo (A0 (ha pins s σ H _ I h) λ u s1 ⟨x,H1,I1,r1,q1⟩=>Qj ?_);obtain ⟨l,xs,rfl,hq,q⟩:=q1;cases r1;obtain ⟨its,rv,pl,hz⟩:=I1.list hq;have hlen:=rv.length;refine call_reversed_list pl.isList ?_;refine Qj ?_;have hT:(s1.heap.push (revObj l ((its.toArray.size:Int) - 1))).IsRevIter s1.heap.objs.size l ((its.toArray.size:Int) - 1):=⟨_,Bw _ rfl,rfl,rfl⟩
 have hlt:s1.heap.objs.size < (s1.heap.push (revObj l ((its.toArray.size:Int) - 1))).objs.size:=AI (Bw _ rfl);have hne:l≠s1.heap.objs.size:=λ e=>by obtain ⟨o,ho,_⟩:=pl.isList;exact Di _ (e ▸ AI ho)
 refine ug (st:={ s1 with heap:=s1.heap.push (revObj l ((its.toArray.size:Int) - 1)) }) (I1.ok.hd hc) hne hT (pl.isList.at λ o e=>AS _ e) (by rw [BC];omega) λ h' tk acc' c' hk hS' hacc=>?_;have ea:=gT hacc;refine ⟨.ref _,_,I1.laid (h':=h') (t':=tk) (o:=.lst xs.reverse) (λ b o e=>hk b o (λ z=>Di _ (z ▸ AI e)) (AS _ e)) (LW hlt) ?_,rfl,q _ (I1.hok.fresh (LW hlt))⟩;refine ⟨by rw [Kk];exact hz,its.reverse,c',Pz rv,?_⟩;rw [<- ea];exact hS'
end
def AG:PV->Nat->PV->Nat->Option (PV×Nat)
 | .int i,_,.int j,_=>some (.int (i + j),om)
 | .lst xs,_,.lst ys,_=>if xs.length + ys.length<=Aw then some (.lst (xs++ys),d1 (xs++ys)) else none
 | .tup xs,_,.tup ys,_=>if xs.length + ys.length<=Aw then some (.tup (xs++ys),0) else none
 | .str x,_,.str y,_=>if x.length + y.length<=Aw then some (.str (x++y),om) else none
 | _,_,_,_=>none
def JZ (p:Int->Int->Bool) (g:Int->Int->Int):PV->Nat->PV->Nat->Option (PV×Nat)
 | .int i,_,.int j,_=>if p i j then some (.int (g i j),om) else none
 | _,_,_,_=>none
def FW (i j:Int):Bool:=(decide (-(2 ^ 64) < i) && decide (i < 2 ^ 64)) || (decide (-(2 ^ 64) < j) && decide (j < 2 ^ 64))
def FX (_ j:Int):Bool:=decide (0 < j) && decide (j.natAbs.log2 < 9000)
def IQ (_ j:Int):Bool:=decide (0 < j)
def IP (i j:Int):Bool:=decide (0<=j) && decide (j<=1000) && decide (i.natAbs < 2 ^ 64)
def BH:=JZ (λ _ _=>true) (λ i j=>i - j)
def AR:PV->Nat->PV->Nat->Option (PV×Nat)
 | .str x,_,.int n,_=>if -(2 ^ 62)<=n/\n < 2 ^ 62/\x.length * n.toNat<=Aw then some (.str (DK x n.toNat),om) else none
 | .int i,_,.int j,_=>if FW i j then some (.int (i * j),om) else none
 | .lst xs,_,.int k,_=>if -(2 ^ 62)<=k/\k < 2 ^ 62/\xs.length * k.toNat<=Aw then some (.lst (Eu k.toNat xs),d1 (Eu k.toNat xs)) else none
 | _,_,_,_=>none
def DB:=JZ FX (λ i j=>i / j)
def C7:=JZ IQ (λ i j=>i % j)
def LF:=JZ IP (λ i j=>i ^ j.toNat)
def EX:PV->Nat->Option (PV×Nat)
 | .int i,_=>some (.int (-i),om)
 | _,_=>none
def B1 (p:Int->Int->Bool):PV->Nat->PV->Nat->Option (PV×Nat)
 | .int i,_,.int j,_=>some (.bl (p i j),om)
 | _,_,_,_=>none
def Hl (neg:Bool):PV->Nat->PV->Nat->Option (PV×Nat)
 | .bl a,_,.bl b,_=>some (.bl (neg^^(a == b)),om)
 | x,_,.non,_=>some (.bl (neg^^isNon x),om)
 | _,_,_,_=>none
def An:PV->Nat->PV->Nat->Option (PV×Nat)
 | .lst xs,_,.int i,_=>(BG xs i).map λ z=>(z,dv z)
 | .tup xs,_,.int i,_=>(BG xs i).map λ z=>(z,dv z)
 | .scr ns,_,.int i,_=>(BG ns i).map λ z=>(.int z,om)
 | .str z,_,.int i,_=>if z.length<=Aw then (BG z.cps.toList i).map λ c=>(.str ⟨#[c]⟩,om) else none
 | .dcl ks xs,_,.tup key,_=>(match BE key with
  | some k=>(FY ks xs k).map λ z=>(z,dv z)
  | none=>none)
 | _,_,_,_=>none
def Km:Option Fx->Af->Rz (Option Int×Af)
 | none,ρ=>.ok (none,ρ)
 | some f,ρ=>(f ρ).bind λ (x,_,ρ1)=>match x with
  | .int i=>.ok (some i,ρ1)
  | _=>.no
def Ex (x:PV) (lo hi:Option Int):Option (PV×Nat):=match x with
 | .lst xs=>some (.lst (Dp xs lo hi),d1 (Dp xs lo hi))
 | .tup xs=>if HT.sIx xs.length 0 lo=0/\HT.sIx xs.length xs.length hi=xs.length then none else some (.tup (Dp xs lo hi),0)
 | .str z=>if z.length<=Aw then some (.str (Txt.slice z lo hi),om) else none
 | _=>none
def DQ (f:Fx) (lo hi:Option Fx):Fx:=λ ρ=>(f ρ).bind λ (x,_,ρ1)=>(Km lo ρ1).bind λ (l,ρ2)=>(Km hi ρ2).bind λ (u,ρ3)=>match Ex x l u with
 | some (z,c)=>.ok (z,c,ρ3)
 | none=>.no
def FP (T:String) (x:PV) (_:Nat):Option (PV×Nat):=match x with
 | .scr _=>none
 | .exn _=>none
 | .dct _=>none
 | .dcl _ _=>none
 | .loc _=>none
 | .dks _ _=>none
 | .ins _ _=>none
 | .sto _=>none
 | _=>some (.bl (Jd (KR x) T),om)
def AW (xs:List (PV×Nat)):Option (PV×Nat):=if xs.length<=Aw then some (.lst (xs.map (·.1)),if CO xs then om else 1) else none
def AX (xs:List (PV×Nat)):Option (PV×Nat):=if xs.length<=Aw then some (.tup (xs.map (·.1)),if CO xs then om else 0) else none
def CC:List (PV×Nat)->Option (PV×Nat)
 | [(.lst xs,_)]=>some (.int xs.length,om)
 | [(.tup xs,_)]=>some (.int xs.length,om)
 | [(.scr ns,_)]=>some (.int ns.length,om)
 | [(.str z,_)]=>if z.length<=Aw then some (.int z.length,om) else none
 | _=>none
def Ox (k:Int->Int->Int):List (PV×Nat)->Option (PV×Nat)
 | [(.int i,_),(.int j,_)]=>some (.int (k i j),om)
 | _=>none
def R8:List (PV×Nat)->Option (PV×Nat)
 | [(.lst xs,_)]=>some (.tup xs,0)
 | [(.tup xs,_)]=>some (.tup xs,0)
 | _=>none
def JC:List (PV×Nat)->Option (PV×Nat)
 | [(.lst xs,_)]=>some (.lst xs,d1 xs)
 | [(.tup xs,_)]=>some (.lst xs,d1 xs)
 | _=>none
def allB:List PV->Option (List Bool)
 | []=>some []
 | .bl b::r=>(allB r).map (b::·)
 | _=>none
def EW:List (PV×Nat)->Option (PV×Nat)
 | [(.lst xs,_)]=>(allB xs).map λ bs=>(.bl (bs.all id),om)
 | _=>none
def E6:List PV->Option (List Int)
 | []=>some []
 | .int i::r=>(E6 r).map (i::·)
 | _=>none
def IM:List (PV×Nat)->Option (PV×Nat)
 | [(.lst xs,_)]=>match E6 xs with
  | some (n::r)=>some (.int (Ey n r),om)
  | _=>none
 | [(.tup xs,_)]=>match E6 xs with
  | some (n::r)=>some (.int (Ey n r),om)
  | _=>none
 | xs=>Ox (λ i j=>if j < i then j else i) xs
def CD:List (PV×Nat)->Option (PV×Nat)
 | [(.lst xs,_)]=>match E6 xs with
  | some ns=>if Eh ns=true then some (.int ns.sum,om) else none
  | none=>none
 | [(.tup xs,_)]=>match E6 xs with
  | some ns=>some (.int ns.sum,om)
  | none=>none
 | _=>none
def QS:List (PV×Nat)->Option (PV×Nat)
 | [(.int i,_)]=>some (.int (if i < 0 then -i else i),om)
 | _=>none
def Ka:List (PV×Nat)->Option (PV×Nat)
 | [(.lst xs,_)]=>match E6 xs with
  | some (n::r)=>some (.int (Ci n r),om)
  | _=>none
 | [(.tup xs,_)]=>match E6 xs with
  | some (n::r)=>some (.int (Ci n r),om)
  | _=>none
 | xs=>Ox (λ i j=>if j > i then j else i) xs
def IS:PV->Nat->Option (PV×Nat)
 | .lst xs,_=>some (.lst xs.reverse,d1 xs.reverse)
 | .str z,_=>if z.length<=Aw then some (.str ⟨z.cps.toList.reverse.toArray⟩,om) else none
 | _,_=>none
def Iu:List (PV×Nat)->Option (PV×Nat)
 | [(.bl b,_)]=>some (.int (if b then 1 else 0),om)
 | [(.int i,_)]=>some (.int i,om)
 | _=>none
def Oe:PV->Nat->Option (PV×Nat)
 | .lst xs,_=>some (.lst xs.reverse,d1 xs.reverse)
 | _,_=>none
def Je:CmpOp->Option (Int->Int->Bool)
 | .Lt=>some λ i j=>decide (i < j)
 | .LtE=>some λ i j=>decide (i<=j)
 | .Gt=>some λ i j=>decide (j < i)
 | .GtE=>some λ i j=>decide (j<=i)
 | .Eq=>some λ i j=>decide (i=j)
 | _=>none
def E5 (p q:Int->Int->Bool) (f g h:Fx):Fx:=λ ρ=>(f ρ).bind λ (x,_,ρ1)=>(g ρ1).bind λ (y,_,ρ2)=>match x,y with
 | .int i,.int j=>if p i j=true then (h ρ2).bind λ (z,_,ρ3)=>(match z with
  | .int k=>.ok (.bl (q j k),om,ρ3)
  | _=>.no) else .ok (.bl false,om,ρ2)
 | _,_=>.no
def CW (f g:Fx):Fx:=λ ρ=>(f ρ).bind λ (x,_,ρ1)=>match x with
 | .bl true=>g ρ1
 | .bl false=>.ok (.bl false,om,ρ1)
 | _=>.no
def Bz (f g:Fx):Fx:=λ ρ=>(f ρ).bind λ (x,_,ρ1)=>match x with
 | .bl true=>.ok (.bl true,om,ρ1)
 | .bl false=>g ρ1
 | _=>.no
def Co:PV->Nat->Option (PV×Nat)
 | .bl b,_=>some (.bl (!b),om)
 | _,_=>none
def BA (c:Fb) (f g:Fx):Fx:=λ ρ=>(c ρ).bind λ (b,ρ1)=>if b=true then f ρ1 else g ρ1
section
variable {M:Fm}{ρ ρ':Af}{σ σ':St}{H H' H0 H1:Hp}{gg:Os}{vs vs':List Nat}{K:Kx}{Z Z':Addr->Prop}{x y z:PV}{c d i n:Nat}{u v w:V}{a p:Addr}{f g:Fx}{fa:Fa}{fb:Fb}{xs ys:List PV}{ws us:List V}{zz:Nat->Addr->Prop}{Q:VK}{X:Cx}{ea eb e:Expr}{es:List Expr}{pos p1 p2:Pos}
theorem Xf:∀ {xs:List PV},DV xs=true->∀ x∈xs,AV x=false
 | [],_,_,h=>by cases h
 | y::ys,e,x,h=>by
  unfold DV at e;rw [AK] at e;rcases jb9.mp h with rfl | h
  ·cases hr:AV x with
   | false=>rfl
   | true=>rw [YF hr] at e;exact e.1.symm
  ·exact Xf e.2 x h
def Zk.low (zk:Zk zz H) (h:IsL K H (zz d) xs ws):IsL K H (zz 0) xs ws:=h.weak λ a=>zk.to 0 d a (.inr (by decide))
def Zk.d1 (zk:Zk zz H) (h:IsL K H (zz 0) xs ws):IsL K H (zz (d1 xs)) xs ws:=by
 unfold QQ.d1;split
 ·rename_i e;exact h.flat e
 ·exact h.weak λ a=>zk.to 1 0 a (.inr (by decide))
def xQ:d1 xs≠0:=by unfold d1;split <;> decide
def Leaf.sv (lf:Leaf K zz H z c Q) (e:sV z=some u):Q u H:=lf u H Le.refl (.sv e)
def Leaf.seen (lf:Leaf K zz H z (dv z) Q) (zk:Zk zz H) (h:Is K H (zz d) z v):Q v H:=lf v H Le.refl (h.view λ a=>zk.to 0 d a (.inr (by decide)))
def Leaf.lst (lf:Leaf K zz H (.lst xs) c Q) (hc:c≠0) (t:c=om->DV xs=true) (l:IsL K H (zz c) xs ws) (hp:H p=none):Q (.ref p) (As H p (.lst ws)):=
 lf _ _ (DU hp) (.new hp (by simp [Bo,Cg,hc]) ⟨rfl,BI⟩ (l.move (DU hp).kp .rf λ a q=>q.imp id λ q=>by rw [q];exact hp) λ h=>Xf (t (zwo.mp h).1))
def xR (h:d1 xs=om):DV xs=true:=by
 unfold d1 at h;split at h
 ·assumption
 ·cases h
def Leaf.lstD (lf:Leaf K zz H (.lst xs) (d1 xs) Q) (zk:Zk zz H) (l:IsL K H (zz 0) xs ws) (hp:H p=none):Q (.ref p) (As H p (.lst ws)):=lf.lst xQ xR (zk.d1 l) hp
def Leaf.tup (lf:Leaf K zz H (.tup xs) c Q) (l:IsL K H (zz c) xs ws) (hp:H p=none):Q (.ref p) (As H p (.tup ws)):=
 lf _ _ (DU hp) (.of rfl (.tup BI (l.up (DU hp))))
def ko (ha:PE X ea (tE M f vs)) (hb:PE X eb (tE M g vs')):PE X (.BinOp ea .Add eb pos) (tE M (Ab AG f g) (vs++vs')):=by
 refine Ca (Rh (qro.or (qrn.or (qnb.or (qi5.or bW)))) ha hb) λ σ H Q h=>KQ (λ K x d y e z c v w H Q zz hk ho zk o1 o2 lf=>?_) h;unfold AG at ho;split at ho
 ·cases ho;exact .inl ⟨_,_,o1.sv rfl,o2.sv rfl,lf.sv rfl⟩
 ·split at ho
  ·rename_i hl;cases ho;obtain ⟨p,ws,rfl,_,hp,ol⟩:=o1.lst;obtain ⟨p2,us,rfl,_,hp2,ol2⟩:=o2.lst;exact .inr (.inl ⟨p,p2,ws,us,rfl,rfl,hp,hp2,by rw [ol.length,ol2.length];exact hl,λ q hq=>lf.lstD zk (Paired.append (zk.low ol) (zk.low ol2)) hq⟩)
  ·cases ho
 ·split at ho
  ·rename_i hl;cases ho;obtain ⟨p,ws,rfl,hp,ol⟩:=o1.tupE;obtain ⟨p2,us,rfl,hp2,ol2⟩:=o2.tupE;cases ol with
   | nil=>exact .inr (.inr (.inr (.inl ⟨p,p2,us,rfl,rfl,.inl (.inl hp),.inl (.inl hp2),lf.seen (z:=.tup _) zk o2⟩)))
   | cons h t=>
    refine .inr (.inr (.inl ⟨p,p2,_,us,rfl,rfl,.inl (.inl hp),.inl (.inl hp2),by simp,by rw [(Paired.cons h t).length.symm,ol2.length];exact hl,λ hu=>?_,λ hu q hq=>lf.tup (Paired.append (zk.low (.cons h t)) (zk.low ol2)) hq⟩));subst hu;cases ol2;rw [FE] at lf;exact lf.seen (z:=.tup _) zk o1
  ·cases ho
 ·split at ho
  ·rename_i hl;cases ho;exact .inr (.inr (.inr (.inr ⟨_,_,o1.sv rfl,o2.sv rfl,hl,lf.sv rfl⟩)))
  ·cases ho
 ·cases ho
def Ou {op:GW}{p:Int->Int->Bool}{k:Int->Int->Int}{C:Int->Int->Prop} (hop:OpR X (Em op) (rI C λ i j=>.int (k i j))) (hC:∀ i j,p i j=true->C i j) (ha:PE X ea (tE M f vs)) (hb:PE X eb (tE M g vs')):
  PE X (.BinOp ea op eb pos) (tE M (Ab (JZ p k) f g) (vs++vs')):=by
 refine Ca (Rh hop ha hb) λ σ H Q h=>KQ (λ K x d y e z c v w H Q zz hk ho zk o1 o2 lf=>?_) h;unfold JZ at ho;split at ho
 ·split at ho
  ·rename_i hp;cases ho;exact ⟨_,_,o1.sv rfl,o2.sv rfl,hC _ _ hp,lf.sv rfl⟩
  ·cases ho
 ·cases ho
def TF {i j:Int} (h:FW i j=true):CMul i j:=by
 unfold FW at h;simp only [Ga,AK,decide_eq_true_eq] at h;exact h
def TH {i j:Int} (h:FX i j=true):0 < j/\j.natAbs.log2 < 9000:=by
 unfold FX at h;simp only [AK,decide_eq_true_eq] at h;exact h
def TC {i j:Int} (h:IP i j=true):M4 i j:=by
 unfold IP at h;simp only [AK,decide_eq_true_eq] at h;exact ⟨h.1.1,by omega,h.2⟩
theorem IsL.rep (h:IsL K H Z xs ws):∀ n,IsL K H Z (Eu n xs) (A9 n ws).flatten
 | 0=>by unfold Eu;exact .nil
 | n + 1=>by
  have:=IsL.rep h n
  unfold Eu at this ⊢;rw [EL,EL,IZ,IZ];exact Paired.append h this
def vf (ha:PE X ea (tE M f vs)) (hb:PE X eb (tE M g vs')):PE X (.BinOp ea .Mult eb pos) (tE M (Ab AR f g) (vs++vs')):=by
 refine Ca (Rh (qrc.or (qq9.or bX)) ha hb) λ σ H Q h=>KQ (λ K x d y e z c v w H Q zz hk ho zk o1 o2 lf=>?_) h;unfold AR at ho;split at ho
 all_goals first | cases ho | (split at ho;rename_i hl;cases ho;all_goals first | cases ho | skip)
 ·exact .inr (.inr ⟨_,_,o1.sv rfl,o2.sv rfl,hl.1,hl.2.1,hl.2.2,lf.sv rfl⟩)
 ·exact .inl ⟨_,_,o1.sv rfl,o2.sv rfl,TF hl,lf.sv rfl⟩
 ·obtain ⟨p,ws,rfl,_,hp,ol⟩:=o1.lst;exact .inr (.inl ⟨p,_,ws,rfl,o2.sv rfl,hp,by omega,by omega,by rw [ol.length];exact hl.2.2,λ q hq=>lf.lstD zk (IsL.rep (zk.low ol) _) hq⟩)
def vg (ha:PE X ea (tE M f vs)):PE X (.UnaryOp .USub ea pos) (tE M (AQ EX f) vs):=by
 refine Ca (VY WK ha) λ σ H Q h=>LM (λ K x d z c v H Q zz hk ho zk o1 lf=>?_) h;unfold EX at ho;split at ho
 ·cases ho;exact ⟨_,o1.sv rfl,lf.sv rfl⟩
 ·cases ho
theorem KW:∀ {xs:List PV}{ws:List V}{k:List A2},BE xs=some k->IsL K H Z xs ws->ws=k.map kV:=by
 intro xs;induction xs with
 | nil=>intro ws k e h;cases e;cases h;rfl
 | cons x r ih=>
  intro ws k e h;cases h with
  | cons h t=>
   cases x <;> first | cases e | (obtain ⟨k',e1,rfl⟩:=jc0.mp e;rw [h.sv rfl,ih e1 t];rfl)
theorem vt:∀ {xs:List PV}{ws:List V}{k:List Bool},allB xs=some k->IsL K H Z xs ws->ws=k.map V.bl:=by
 intro xs;induction xs with
 | nil=>intro ws k e h;cases e;cases h;rfl
 | cons x r ih=>
  intro ws k e h;cases h with
  | cons h t=>
   cases x <;> first | cases e | (obtain ⟨k',e1,rfl⟩:=jc0.mp e;rw [h.sv rfl,ih e1 t];rfl)
theorem Hx:∀ {xs:List PV}{ws:List V}{k:List Int},E6 xs=some k->IsL K H Z xs ws->ws=k.map V.int:=by
 intro xs;induction xs with
 | nil=>intro ws k e h;cases e;cases h;rfl
 | cons x r ih=>
  intro ws k e h;cases h with
  | cons h t=>
   cases x <;> first | cases e | (obtain ⟨k',e1,rfl⟩:=jc0.mp e;rw [h.sv rfl,ih e1 t];rfl)
theorem RE {k:List A2}:∀ {ks:List (List A2)}{xs:List PV}{ws:List V},IsL K H Z xs ws->ks.length=xs.length->match FY ks xs k with
  | some x=>∃ w,BQ (ks.zip ws) k=some w/\Is K H Z x w
  | none=>BQ (ks.zip ws) k=none
 | [],[],_,.nil,_=>rfl
 | [],_::_,_,_,e=>by cases e
 | _::_,[],_,_,e=>by cases e
 | k'::ks,x::xs,_,.cons (b:=w) h t,e=>by
  have:=RE (k:=k) t (Nat.succ.inj e)
  unfold FY;rw [Ja];by_cases hk:k'=k
  ·rw [if_pos hk,MS (p:=(k',w)) hk];exact ⟨w,rfl,h⟩
  ·rw [if_neg hk,MR (p:=(k',w)) hk];exact this
theorem Wu {i:Int} (l:IsL K H Z xs ws) (e:BG xs i=some z):∃ w,BG ws i=some w/\Is K H Z z w:=by
 unfold BG at e ⊢;rw [l.length];cases ej:E1 xs.length i with
 | none=>rw [ej] at e;cases e
 | some j=>rw [ej] at e;exact Ew l e
def vc (hu:X.A.units + 1 < Cp) (hK:M.K=X.K) (hs:Sl eb) (ha:PE X ea (tE M f vs)) (hb:PE X eb (tE M g vs')):PE X (.Subscript ea eb pos) (tE M (Ab An f g) (vs++vs')):=by
 refine Ca (z6 (qr4.or (wg hu)) ha hb hs) λ σ H Q h=>KQ (λ K x d y e z c v w H Q zz hk ho zk o1 o2 lf=>?_) h;unfold An at ho;split at ho
 ·obtain ⟨z',ez,e2⟩:=jc0.mp ho;cases e2;obtain ⟨p,ws,rfl,_,hp,ol⟩:=o1.lst;obtain ⟨w',e1,ow⟩:=Wu ol ez;exact .inl (.inl ⟨p,ws,_,w',rfl,o2.sv rfl,.inl (.inl hp),e1,lf.seen zk ow⟩)
 ·obtain ⟨z',ez,e2⟩:=jc0.mp ho;cases e2;obtain ⟨p,ws,rfl,hp,ol⟩:=o1.tupE;obtain ⟨w',e1,ow⟩:=Wu ol ez;exact .inl (.inr (.inl ⟨p,ws,_,w',rfl,o2.sv rfl,.inl (.inl hp),e1,lf.seen zk ow⟩))
 ·rename_i ns i;obtain ⟨z',ez,e2⟩:=jc0.mp ho;cases e2;obtain ⟨p,rfl,hp⟩:=o1.scr;refine .inl (.inl ⟨p,ns.map V.int,i,.int z',rfl,o2.sv rfl,?_,?_,lf.sv rfl⟩)
  ·rw [<- hK,<- hk];exact hp.elim (λ h=>.inl (.inr h)) .inr
  ·unfold BG at ez ⊢;rw [AJ];obtain ⟨j,e1,e2⟩:=jh7.mp ez;rw [e1];show (List.map V.int _)[j]?=_;rw [CL,e2];rfl
 ·split at ho
  ·rename_i hl;obtain ⟨c',ez,e2⟩:=jc0.mp ho;cases e2;exact .inl (.inr (.inr ⟨_,_,c',o1.sv rfl,o2.sv rfl,hl,ez,lf.sv rfl⟩))
  ·cases ho
 ·split at ho
  ·rename_i k ek;obtain ⟨z',ez,e2⟩:=jc0.mp ho;cases e2;obtain ⟨a,ws,rfl,_,en,hr,ol⟩:=o1.dcl;have kv:=RE (k:=k) ol en;rw [ez] at kv;obtain ⟨w',ew,ow⟩:=kv;obtain ⟨b,us,rfl,hb,okey⟩:=o2.tupE
   have:=KW ek okey
   subst this;exact .inr ⟨a,w',rfl,.inr ⟨_,k,b,hr,rfl,hb,ew.symm⟩,lf.seen zk ow⟩
  ·cases ho
 ·cases ho
def tO (M:Fm):Option (Fx×List Nat)->TO
 | none=>P6
 | some (f,vs)=>Wh (tE M f vs)
theorem Xd {o:Option (Fx×List Nat)}{α:Type}{k:Option Int×Af->Rz α}{P:α->Prop}{R:Option Int->Hp->Prop} (rep:Rep M ρ σ H gg) (q:OutE M σ H ((Km (o.map (·.1)) ρ).bind k) P)
  (h:∀ l H1,Le H H1->Rep M ρ σ H1 gg->OutE M σ H (k (l,ρ)) P->R l H1):tO M o σ H R:=by
 cases o with
 | none=>exact h none H Le.refl rep q
 | some p=>
  obtain ⟨f,vs⟩:=p;have q:OutE M σ H ((f ρ).bind λ (x,_,ρ1)=>(match x with
   | .int i=>Rz.ok (some i,ρ1)
   | _=>.no).bind k) P:=by
   revert q;show OutE M σ H (((f ρ).bind _).bind k) P->_;cases f ρ <;> exact id
  refine EU rep q λ x d v H1 l r t q=>?_;cases x <;> first | exact q.elim | exact ⟨_,(rep.vw t).sv rfl,h _ H1 l r q⟩
theorem IsL.drop:∀ {xs:List PV}{ws:List V} (n:Nat),IsL K H Z xs ws->IsL K H Z (xs.drop n) (ws.drop n)
 | _,_,0,h=>h
 | _,_,_ + 1,.nil=>.nil
 | _,_,n + 1,.cons _ t=>IsL.drop n t
theorem IsL.take:∀ {xs:List PV}{ws:List V} (n:Nat),IsL K H Z xs ws->IsL K H Z (xs.take n) (ws.take n)
 | _,_,0,_=>.nil
 | _,_,_ + 1,.nil=>.nil
 | _,_,n + 1,.cons h t=>.cons h (IsL.take n t)
def IsL.cut {lo hi:Option Int} (h:IsL K H Z xs ws):IsL K H Z (Dp xs lo hi) (DP ws lo hi):=by
 unfold Dp DP;rw [h.length];exact (h.drop _).take _
def jr {lo hi:Option (Fx×List Nat)} (hq:tE M (DQ f (lo.map (·.1)) (hi.map (·.1))) vs σ H Q):V5 (λ x lo hi H Q=>Lv X.K x lo hi H Q\/(Ls X.K x lo hi H Q\/Lu x lo hi H Q)) (tE M f vs) (tO M lo) (tO M hi) σ H Q:=by
 obtain ⟨ρ,g,rep,q⟩:=hq;refine EU rep q λ x d v H1 l1 r1 t1 q=>Xd r1 (OutE.from l1 q) λ l H2 l2 r2 q=>Xd r2 (OutE.from l2 q) λ u H3 l3 r3 q=>?_;have o:=(rep.vw t1).up (l2.trans l3);have zk:=r3.zk (vs:=vs);dsimp only at q;split at q
 ·rename_i z c eo;have lf:Leaf (M.k g) (M.z g vs) H3 z c Q:=λ u H' l t=>q rfl u H' (((l1.trans l2).trans l3).trans l) (t.back λ _=>((l1.trans l2).trans l3).back);unfold Ex at eo;split at eo
  ·cases eo;obtain ⟨p,ws,rfl,_,hp,ol⟩:=o.lst;exact .inl ⟨p,ws,rfl,.inl (.inl hp),λ q hq=>lf.lstD zk (zk.low ol).cut hq⟩
  ·split at eo
   ·cases eo
   ·rename_i hw;cases eo;obtain ⟨p,ws,rfl,hp,ol⟩:=o.tupE;exact .inr (.inl ⟨p,ws,rfl,.inl (.inl hp),by rw [ol.length];exact hw,λ q hq=>lf.tup (zk.low ol).cut hq⟩)
  ·split at eo
   ·rename_i hz;cases eo;exact .inr (.inr ⟨_,o.sv rfl,hz,lf.sv rfl⟩)
   ·cases eo
  ·cases eo
 ·exact q.elim
def kn:PA X [] (tL M Ac []):=W3 KN λ σ H Q h=>kL h
def yi (ha:PE X e (tE M f vs)) (hr:PA X es (tL M fa vs')) (hs:Bi (e::es) X.env=(false,eval e X.env)::Bi es X.env):PA X (e::es) (tL M (Ad f fa) (vs++vs')):=
 W3 (J1 ha hr hs) λ σ H Q h=>yJ h
def Zk.all {xs:List (PV×Nat)}{c0:Nat} (zk:Zk zz H) (h0:c0≠om) (h:Bv (λ p v=>Is K H (zz p.2) p.1 v) xs ws):IsL K H (zz (if CO xs=true then om else c0)) (xs.map (·.1)) ws:=
 Hk (Hj h λ p hp v h=>h.weak λ a=>zk.to _ _ a (by
  split
  ·rename_i e;exact .inl (M7 e p hp).symm
  ·exact .inr h0))
def ve (h:PA X es (tL M fa vs)):PE X (.List es pos) (tE M (Ak AW fa) vs):=by
 refine Ca (kD h) λ σ H Q h=>YM (r:=λ xs H1 Q=>xs.length<=Aw/\∀ p,H1 p=none->Q (.ref p) (As H1 p (.lst xs))) (λ K xs z c ws H0 H Q G zz hk ho zk hz hb hg t lf=>?_) h;unfold AW at ho;split at ho
 ·rename_i hl;cases ho;refine ⟨by rw [t.length];exact hl,λ q hq=>?_⟩;obtain ⟨G',h',s⟩:=VA.lst (c:=if CO xs=true then om else 1) t (λ d a h ga=>hz d a h (hg a ga)) zk.to (DU hq) BI (λ h=>by obtain ⟨o,_,e⟩:=t.dom h;rw [hq] at e;cases e) (λ _=>.inr hq) rfl;exact lf _ _ (DU hq) ⟨G',λ a h=>(h' a h).elim (λ e=>hb.back (e ▸ hq)) (hg a),s⟩
 ·cases ho
def vh {k:Nat} (h:PA X es (tL M fa vs)):PE X (.Tuple es k pos) (tE M (Ak AX fa) vs):=by
 refine Ca (kG h) λ σ H Q h=>XT (r:=λ xs H1 Q=>xs.length<=Aw/\∀ p,H1 p=none->Q (.ref p) (As H1 p (.tup xs))) (λ K xs z c ws H Q zz hk ho zk t lf=>?_) h;unfold AX at ho;split at ho
 ·rename_i hl;cases ho;exact ⟨by rw [<- Paired.length t];exact hl,λ q hq=>lf.tup (zk.all (by decide) t) hq⟩
 ·cases ho
def ku:PE X (.Dict [] [] pos) (tE M (bC .emp) []):=
 Ca yr λ σ H Q ⟨ρ,g,rep,q⟩ p hp=>q rfl (.ref p) _ (DU hp) (.of rfl (.rf ⟨λ h=>(rep.st p h).1 hp,BI⟩))
def j0 (K:Kx) {T:String} (hT:T∈Ht) (ho:FP T x d=some (z,c)) (h:Is K H Z x v):TyOf K.K H v (.type (KR x))/\HN K.K (.type (KR x)) (.type T)=some (Jd (KR x) T)/\z=.bl (Jd (KR x) T):=by
 refine ⟨?_,?_⟩
 ·cases h with
  | non=>exact .non
  | bl b=>exact .bl b
  | int i=>exact .int i
  | str z=>exact .str z
  | tup h _=>exact .tup h
  | rf h=>cases x <;> first | exact h.elim | (cases ho;done) | exact .dK h.2 | exact .dK h.2.choose_spec
  | nd n h _=>cases x <;> first | exact h.elim | (cases ho;done) | exact .lst h.2
 ·simp only [Ht,jb9,HY,or_false] at hT;cases x <;> first | (cases ho;done) | (cases ho;refine ⟨?_,rfl⟩;rcases hT with h | h | h | h | h | h <;> subst h <;> rfl)
def vd {T:String}{T':Str} (hT:T∈Ht) (hK:M.K=X.K) (ha:PE X e (tE M f vs)) (hg:Gl X "isinstance") (hm:X.mg "isinstance" = none) (hT':PE X (.Name T' p2) (tC (.ty T)))
  (hs1:Bi [e,.Name T' p2] X.env=[(false,eval e X.env),(false,eval (.Name T' p2) X.env)]) (hs2:Bi [Expr.Name T' p2] X.env=[(false,eval (.Name T' p2) X.env)]):
  PE X (.Call (.Name "isinstance" p1) [e,.Name T' p2] [] pos) (tE M (AQ (FP T) f) vs):=by
 refine Ca (YA uz hg hm rfl (J1 ha (J1 hT' KN hs2) (by rw [hs1,hs2])) (he:=by rw [hs1,hs2]) (hpl:=by rw [hs2];rfl)) λ σ H Q h=>?_;refine LM (r:=λ v H Q=>∃ x t T' k,[v,.ty T]=[x,.ty T']/\TyOf X.K H x t/\HN X.K t (.type T')=some k/\Q (.bl k) H) (λ K x d z c v H Q zz hk ho zk o1 lf=>?_) h;obtain ⟨h1,h2,rfl⟩:=j0 K hT ho o1;rw [hk,hK] at h1 h2;exact ⟨v,_,T,_,rfl,h1,h2,lf.sv rfl⟩
end
def A3 (neg:Bool) (x:PV) (_:Nat) (y:PV) (_:Nat):Option (PV×Nat):=match Dx 20 x,Dx 20 y with
 | some a,some b=>some (.bl (neg^^Gy a b),om)
 | _,_=>match x,y with
  | .lst xs,.lst ys=>if GL (Kc 20) xs ys=true then some (.bl (neg^^true),om) else if xs.length≠ys.length then some (.bl (neg^^false),om) else none
  | .str a,.str b=>some (.bl (neg^^(a == b)),om)
  | .emp,.emp=>some (.bl (neg^^true),om)
  | .tup xs,.tup ys=>if GL (Kc 20) xs ys=true then some (.bl (neg^^true),om) else none
  | _,_=>none
section
variable {M:Fm}{ρ ρ':Af}{σ σ':St}{H H' H0 H1:Hp}{gg:Os}{vs vs':List Nat}{K K':Kx}{Z Z':Addr->Prop}{x y z:PV}{c d i n:Nat}{u v w:V}{a b p:Addr}{f g:Fx}{fa:Fa}{fb:Fb}{xs ys:List PV}{ws us:List V}{zz:Nat->Addr->Prop}{Q:VK}{X:Cx}{ea eb e:Expr}{es:List Expr}{pos p1 p2:Pos}{pins:List (Addr×Obj)}{s:Ai}{uu uu':Ae}{A:Bf}
theorem Rr {f:PV->Option EB} (hf:∀ x v u D,f x=some D->Is K H Z x v->RelV v u->∃ as,Reads s.heap u D as):∀ {xs:List PV}{ws:List V}{us:List Ae}{Ds:List EB},Cd f xs=some Ds->IsL K H Z xs ws->Vals ws us->∃ as,ReadsAll s.heap us Ds as
 | [],_,_,_,h,.nil,r=>by cases h;cases r;exact ⟨_,.nil⟩
 | y::ys,_,_,_,h,.cons o l,r=>by
  unfold Cd at h;split at h
  ·rename_i h1 h2;cases h;cases r with
   | cons r1 r2=>
    obtain ⟨as,ra⟩:=hf _ _ _ _ h1 o r1;obtain ⟨bs,rb⟩:=Rr hf h2 l r2;exact ⟨_,.cons ra rb⟩
  ·cases h
theorem J8 (I:L2.Inv X pins σ H s):∀ (n:Nat) (x:PV) (v:V) (u:Ae) (D:EB),Dx n x=some D->Is K H Z x v->RelV v u->∃ as,Reads s.heap u D as
 | 0,_,_,_,_,h,_,_=>by cases h
 | n + 1,x,v,u,D,h,o,r=>by
  unfold Dx at h;cases x with
  | non=>cases h;rw [o.sv rfl] at r;cases r;exact ⟨_,.none⟩
  | bl b=>cases h;rw [o.sv rfl] at r;cases r;exact ⟨_,.bool b⟩
  | int i=>cases h;rw [o.sv rfl] at r;obtain ⟨t,rfl⟩:=r;exact ⟨_,.int i t⟩
  | str z=>
   dsimp only at h;split at h
   ·cases h;rw [o.sv rfl] at r;obtain ⟨t,rfl⟩:=r;exact ⟨_,.str z t⟩
   ·cases h
  | lst xs=>
   obtain ⟨Ds,e,rfl⟩:=jc0.mp h;obtain ⟨a,ws,rfl,_,ha,ol⟩:=o.lst;cases r;obtain ⟨its,rv,⟨ob,nn,e1,e2,e3,e4⟩,_⟩:=I.list (.inl (.inl ha));obtain ⟨as,ra⟩:=Rr (J8 I n) e ol rv;exact ⟨_,.list e1 e2 e4 ra⟩
  | tup xs=>
   obtain ⟨Ds,e,rfl⟩:=jc0.mp h;obtain ⟨a,ws,rfl,ha,ol⟩:=o.tupE;cases r;obtain ⟨its,rv,⟨ob,e1,e2,nn,e4⟩,_⟩:=I.tuple (.inl (.inl ha));obtain ⟨as,ra⟩:=Rr (J8 I n) e ol rv;exact ⟨_,.tuple e1 e2 e4 ra⟩
  | _=>cases h
def Cm (A:Bf) (s:Ai) (u u':Ae) (b:Bool):Prop:=SeqAt.RcAt A s u u' b/\SeqAt.RcNeAt A s u u' (!b)
def Ww (I:L2.Inv X pins σ H s) (ha:H a=some (.dK [])) (hb:H b=some (.dK [])) (hu:A.units < Cp):HK A s (.ref a) (.ref b) true/\Cm A s (.ref a) (.ref b) true:=by
 obtain ⟨_,z1,vs,k1,d1⟩:=dk_of I.hok ha;obtain ⟨_,z2,ws,k2,d2⟩:=dk_of I.hok hb;cases k1;cases k2;have c:Cm A s (.ref a) (.ref b) true:=⟨λ prog w E Q hq=>PySem.W.keq_eq (knd:=Cy prog w) (r:=true) z1 z2 (Oj d1) (Oj d2) hu (λ _=>.nil) (by simpa using hq),λ prog w E Q hq=>PySem.W.keq_ne (knd:=Cy prog w) (r:=true) z1 z2 (Oj d1) (Oj d2) hu (λ _=>.nil) (by simpa using hq)⟩
 refine ⟨?_,c⟩;by_cases e:a=b
 ·subst e;exact Nl _
 ·exact SeqAt.EqAt.of_refs e c.1
theorem Pc {f:PV->PV->Bool} (hf:∀ x y v w u u',f x y=true->Is K H Z x v->Is K H Z' y w->RelV v u->RelV w u'->HK A.in1 s u u' true):∀ {xs ys:List PV}{vs ws:List V}{us us':List Ae},GL f xs ys=true->IsL K H Z xs vs->IsL K H Z' ys ws->Vals vs us->Vals ws us' ->
  us.length=us'.length/\∀ j (h1:j < us.length) (h2:j < us'.length),HK A.in1 s us[j] us'[j] true
 | [],[],_,_,_,_,_,.nil,.nil,r1,r2=>by cases r1;cases r2;exact ⟨rfl,λ j h1 _=>nomatch h1⟩
 | [],_::_,_,_,_,_,h,_,_,_,_=>by cases h
 | _::_,[],_,_,_,_,h,_,_,_,_=>by cases h
 | x::xs,y::ys,_,_,_,_,h,.cons o l,.cons o' l',.cons a1 a2,.cons b1 b2=>by
  unfold GL at h;rw [AK] at h;have t:=Pc hf h.2 l l' a2 b2;refine ⟨congrArg (·+ 1) t.1,λ j h1 h2=>?_⟩;cases j with
  | zero=>exact hf _ _ _ _ _ _ h.1 o o' a1 b1
  | succ j=>exact t.2 j (ZY h1) (ZY h2)
def YT (I:L2.Inv X pins σ H s) {f:PV->PV->Bool} (hf:∀ x y v w u u',f x y=true->Is K H Z x v->Is K H Z' y w->RelV v u->RelV w u'->HK A.in1 s u u' true) (hu:A.units < Cp) (h:GL f xs ys=true) (o1:Is K H Z (.lst xs) v) (o2:Is K H Z' (.lst ys) w) (r1:RelV v uu) (r2:RelV w uu'):∃ a b,uu=.ref a/\uu'=.ref b/\Cm A s uu uu' true:=by
 obtain ⟨a,ws,rfl,_,ha,ol⟩:=o1.lst;obtain ⟨b,ws',rfl,_,hb,ol'⟩:=o2.lst;cases r1;cases r2;obtain ⟨its,rv,⟨ob,nn,e1,e2,e3,e4⟩,_⟩:=I.list (.inl (.inl ha));obtain ⟨its',rv',⟨ob',nn',e1',e2',e3',e4'⟩,_⟩:=I.list (.inl (.inl hb));have t:=Pc hf h ol ol' rv rv';have z:=SeqAt.RcAt.lists (A:=A) (s:=s) (l:=a) (b:=b) (items:=its.toArray) (items2:=its'.toArray) (e:=λ _=>true) ⟨ob,e1,e2,nn,e4⟩ ⟨ob',e1',e2',nn',e4'⟩ (by simpa using t.1) hu (λ j h1 h2=>by simpa using t.2 j (by simpa using h1) (by simpa using h2));have z':=SeqAt.RcNeAt.lists (A:=A) (s:=s) (l:=a) (b:=b) (items:=its.toArray) (items2:=its'.toArray) (e:=λ _=>true) ⟨ob,e1,e2,nn,e4⟩ ⟨ob',e1',e2',nn',e4'⟩ (by simpa using t.1) hu (λ j h1 h2=>by simpa using t.2 j (by simpa using h1) (by simpa using h2));rw [UI λ _ _=>rfl] at z z';exact ⟨a,b,rfl,rfl,z,z'⟩
def Yi (I:L2.Inv X pins σ H s) {f:PV->PV->Bool} (hf:∀ x y v w u u',f x y=true->Is K H Z x v->Is K H Z' y w->RelV v u->RelV w u'->HK A.in1 s u u' true) (hu:A.units < Cp) (h:GL f xs ys=true) (o1:Is K H Z (.tup xs) v) (o2:Is K H Z' (.tup ys) w) (r1:RelV v uu) (r2:RelV w uu'):∃ a b,uu=.ref a/\uu'=.ref b/\Cm A s uu uu' true:=by
 obtain ⟨a,ws,rfl,ha,ol⟩:=o1.tupE;obtain ⟨b,ws',rfl,hb,ol'⟩:=o2.tupE;cases r1;cases r2;obtain ⟨its,rv,⟨ob,e1,e2,nn,e4⟩,_⟩:=I.tuple (.inl (.inl ha));obtain ⟨its',rv',⟨ob',e1',e2',nn',e4'⟩,_⟩:=I.tuple (.inl (.inl hb));have t:=Pc hf h ol ol' rv rv';have z:=SeqAt.RcAt.tuples (A:=A) (s:=s) (l:=a) (b:=b) (items:=its.toArray) (items2:=its'.toArray) (e:=λ _=>true) ⟨ob,e1,e2,nn,e4⟩ ⟨ob',e1',e2',nn',e4'⟩ hu (λ j h1 h2=>by simpa using t.2 j (by simpa using h1) (by simpa using h2));have z':=SeqAt.RcNeAt.tuples (A:=A) (s:=s) (l:=a) (b:=b) (items:=its.toArray) (items2:=its'.toArray) (e:=λ _=>true) ⟨ob,e1,e2,nn,e4⟩ ⟨ob',e1',e2',nn',e4'⟩ hu (λ j h1 h2=>by simpa using t.2 j (by simpa using h1) (by simpa using h2));have z2:((its.toArray.size == its'.toArray.size):Bool)=true:=by simpa using t.1
 rw [UI λ _ _=>rfl,z2] at z z';exact ⟨a,b,rfl,rfl,z,z'⟩
def Xl {a b:Addr} (c:Cm A s (.ref a) (.ref b) true):HK A s (.ref a) (.ref b) true:=by
 by_cases e:a=b
 ·subst e;exact Nl _
 ·exact SeqAt.EqAt.of_refs e c.1
theorem XJ (I:L2.Inv X pins σ H s):∀ (n:Nat) (x y:PV) (v w:V) (u u':Ae) (A:Bf),A.units + n < Cp->Kc n x y=true->Is K H Z x v->Is K H Z' y w->RelV v u->RelV w u'->HK A s u u' true
 | 0,_,_,_,_,_,_,_,_,h,_,_,_,_=>by cases h
 | n + 1,x,y,v,w,u,u',A,hu,h,o1,o2,r1,r2=>by
  have hr:=λ x y v w u u'=>XJ I n x y v w u u' A.in1 (by have e:A.in1.units=A.units + 1:=rfl;omega);unfold Kc at h;split at h
  ·rw [o1.sv rfl] at r1;rw [o2.sv rfl] at r2;cases r1;cases r2;exact Nl _
  ·rw [o1.sv rfl] at r1;rw [o2.sv rfl] at r2;cases r1;cases r2;rw [eq_of_beq h];exact Nl _
  ·rw [o1.sv rfl] at r1;rw [o2.sv rfl] at r2;obtain ⟨t,rfl⟩:=r1;obtain ⟨t',rfl⟩:=r2;rw [eq_of_beq h];exact beq_self_eq_true (α:=Int) _ ▸ SeqAt.EqAt.int_int (A:=A) (s:=s) _ t _ t'
  ·rw [o1.sv rfl] at r1;rw [o2.sv rfl] at r2;obtain ⟨t,rfl⟩:=r1;obtain ⟨t',rfl⟩:=r2;rw [eq_of_beq h];exact beq_self_eq_true (α:=Str) _ ▸ SeqAt.EqAt.str_str (A:=A) (s:=s) _ t _ t'
  ·obtain ⟨a,rfl,ha⟩:=o1.emp;obtain ⟨b,rfl,hb⟩:=o2.emp;cases r1;cases r2;exact (Ww I ha hb (by omega)).1
  ·obtain ⟨a,b,rfl,rfl,c⟩:=YT I hr (by omega) h o1 o2 r1 r2;exact Xl c
  ·obtain ⟨a,b,rfl,rfl,c⟩:=Yi I hr (by omega) h o1 o2 r1 r2;exact Xl c
  ·cases h
def Wx {neg:Bool}{e:Nat} (I:L2.Inv X pins σ H s) (hu:A.units + 64 < Cp) (ho:A3 neg x d y e=some (z,c)) (o1:Is K H Z x v) (o2:Is K H Z' y w) (r1:RelV v uu) (r2:RelV w uu'):∃ b,z=.bl (neg^^b)/\Cm A s uu uu' b:=by
 have hr:=λ x y v w u u'=>XJ (K:=K) (Z:=Z) (Z':=Z') I 20 x y v w u u' A.in1 (by have e:A.in1.units=A.units + 1:=rfl;omega);unfold A3 at ho;split at ho
 ·rename_i a b h1 h2;cases ho;obtain ⟨as,ra⟩:=J8 I 20 x v uu a h1 o1 r1;obtain ⟨bs,rb⟩:=J8 I 20 y w uu' b h2 o2 r2;have l1:=J2 20 x a h1;have l2:=J2 20 y b h2;have hm:A.units + min a.depth b.depth < Cp:=by have:=Z2 a.depth b.depth;omega
  exact ⟨_,rfl,SeqAt.rcAt_reads ra rb l1.1 l2.1 hm,SeqAt.rcNeAt_reads ra rb l1.1 l2.1 hm⟩
 ·split at ho
  ·split at ho
   ·rename_i h;cases ho;obtain ⟨_,_,_,_,c⟩:=YT I hr (by omega) h o1 o2 r1 r2;exact ⟨_,rfl,c⟩
   ·split at ho
    ·rename_i h;cases ho;obtain ⟨a,ws,rfl,_,ha,ol⟩:=o1.lst;obtain ⟨b,ws',rfl,_,hb,ol'⟩:=o2.lst;cases r1;cases r2;obtain ⟨its,rv,⟨ob,nn,e1,e2,e3,e4⟩,_⟩:=I.list (.inl (.inl ha));obtain ⟨its',rv',⟨ob',nn',e1',e2',e3',e4'⟩,_⟩:=I.list (.inl (.inl hb));have hl:(its.toArray.size != its'.toArray.size)=true:=by
      have h1:=rv.length;have h2:=rv'.length;rw [ol.length] at h1;rw [ol'.length] at h2;simp only [BC,bne_iff_ne];omega
     exact ⟨_,rfl,SeqAt.RcAt.lists_lengths ⟨ob,e1,e2,nn,e4⟩ ⟨ob',e1',e2',nn',e4'⟩ hl (by omega),SeqAt.RcNeAt.lists_lengths ⟨ob,e1,e2,nn,e4⟩ ⟨ob',e1',e2',nn',e4'⟩ hl (by omega)⟩
    ·cases ho
  ·cases ho;rw [o1.sv rfl] at r1;rw [o2.sv rfl] at r2;obtain ⟨t,rfl⟩:=r1;obtain ⟨t',rfl⟩:=r2;exact ⟨_,rfl,SeqAt.RcAt.str_str _ t _ t',SeqAt.RcNeAt.str_str _ t _ t'⟩
  ·cases ho;obtain ⟨a,rfl,ha⟩:=o1.emp;obtain ⟨b,rfl,hb⟩:=o2.emp;cases r1;cases r2;exact ⟨_,rfl,(Ww I ha hb (by omega)).2⟩
  ·split at ho
   ·rename_i h;cases ho;obtain ⟨_,_,_,_,c⟩:=Yi I hr (by omega) h o1 o2 r1 r2;exact ⟨_,rfl,c⟩
   ·cases ho
  ·cases ho
def HR (k:Frag) (o:PV->Nat->PV->Nat->Option (PV×Nat)):R2:=λ v w H Q=>∃ (K:Kx) (x:PV) (d:Nat) (y:PV) (e:Nat) (z:PV) (c:Nat) (Z Z':Addr->Prop),K.K=k/\o x d y e=some (z,c)/\Is K H Z x v/\Is K H Z' y w/\∀ b,z=.bl b->Q (.bl b) H
def jB (hu:X.A.units + 64 < Cp):OpR X (BP .Eq) (HR X.K (A3 false)):=by
 intro pins s σ H v w u u' Q I rx ry ⟨K,x,d,y,e,z,c,Z,Z',hk,ho,o1,o2,q⟩;obtain ⟨b,rfl,h⟩:=Wx I hu ho o1 o2 rx ry;exact h.1 _ _ _ _ ⟨.bl _,H,I,rfl,by simpa using q _ rfl⟩
def jF (hu:X.A.units + 64 < Cp):OpR X (BP .NotEq) (HR X.K (A3 true)):=by
 intro pins s σ H v w u u' Q I rx ry ⟨K,x,d,y,e,z,c,Z,Z',hk,ho,o1,o2,q⟩;obtain ⟨b,rfl,h⟩:=Wx I hu ho o1 o2 rx ry;exact h.2 _ _ _ _ ⟨.bl _,H,I,rfl,by simpa using q _ rfl⟩
end
def DM (neg:Bool) (x:PV) (_:Nat) (y:PV) (_:Nat):Option (PV×Nat):=match x,y with
 | .tup ks,.dct kvs=>(BE ks).map λ k=>(.bl (neg^^(BQ kvs k).isSome),om)
 | .tup key,.dcl ks xs=>(BE key).map λ k=>(.bl (neg^^(FY ks xs k).isSome),om)
 | x,.lst ys=>(match Dx 20 x,Cd (Dx 20) ys with
  | some a,some bs=>some (.bl (neg^^bs.any λ b=>Gy b a),om)
  | _,_=>none)
 | x,.tup ys=>(match Dx 20 x,Cd (Dx 20) ys with
  | some a,some bs=>some (.bl (neg^^bs.any λ b=>Gy b a),om)
  | _,_=>none)
 | _,_=>none
def IJ (neg:Bool):R2:=λ v w H Q=>∃ a o,w=.ref a/\Fl H a v o/\Q (.bl (neg^^o.isSome)) H
def QE (tp:Bool) (ys:List PV):PV:=match tp with
 | true=>.tup ys
 | false=>.lst ys
def x8 (tp:Bool) (ys:List EB):EB:=match tp with
 | true=>.tuple ys
 | false=>.list ys
theorem va {tp:Bool}{ys:List PV}{bs:List EB} (h:Cd (Dx 20) ys=some bs):Dx 21 (QE tp ys)=some (x8 tp bs):=by
 cases tp with
 | true=>
  show (Cd (Dx 20) ys).map PyData.tuple=_;rw [h];rfl
 | false=>
  show (Cd (Dx 20) ys).map PyData.list=_;rw [h];rfl
def GN:Expr->Bool
 | .Starred _ _=>false
 | _=>true
def MC:Expr->Bool
 | .Slice _ _ _ _=>false
 | _=>true
def QM:GW->Option (PV->Nat->PV->Nat->Option (PV×Nat))
 | .Add=>some AG
 | .Sub=>some BH
 | .Mult=>some AR
 | .FloorDiv=>some DB
 | .Mod=>some C7
 | .Pow=>some LF
 | _=>none
def E2:Expr->Bool
 | .Set _ _ _=>false
 | _=>true
def zI:Expr->Bool
 | .Name x _=>decide (x = "row")
 | _=>false
def IT:PV->Nat->PV->Nat->Option (PV×Nat)
 | .tup xs,_,.tup ys,_=>(match E6 xs,E6 ys with
  | some a,some b=>some (.bl (HT.lexLt a b),om)
  | _,_=>none)
 | _,_,_,_=>none
def DR:Fx:=λ ρ=>.ok (.dct [],om,ρ)
abbrev Fn:=List PV->Rz (PV×Nat×PV)
def Ap (F:Fn) (fa:Fa):Fx:=λ ρ=>(fa ρ).bind λ (xs,ρ1)=>match F (xs.map (·.1)) with
 | .ok (y,d,_)=>.ok (y,d,ρ1)
 | .exc c=>.exc c
 | .no=>.no
def QO (b:Expr):CmpOp->Option (PV->Nat->PV->Nat->Option (PV×Nat))
 | .Lt=>if zI b=true then some IT else some (B1 λ i j=>decide (i < j))
 | .LtE=>some (B1 λ i j=>decide (i<=j))
 | .Gt=>some (B1 λ i j=>decide (j < i))
 | .GtE=>some (B1 λ i j=>decide (j<=i))
 | .Eq=>some (A3 false)
 | .NotEq=>some (A3 true)
 | .Is=>some (Hl false)
 | .IsNot=>some (Hl true)
 | .In=>if E2 b=true then some (DM false) else none
 | .NotIn=>if E2 b=true then some (DM true) else none
def JW (k:Frag) (n:Nat) (F:Fn):Sp:=λ ws H Q E=>ws.length=n/\∃ (xs:List PV) (z:Bool->Addr->Prop) (K:Kx),K.K=k/\(∀ a,z false a->z true a)/\(∀ b a,z b a->H a≠none)/\(∀ a,K.st a->H a≠none/\¬ z true a)/\IsL K H (z false) xs ws/\(match F xs with
 | .ok (y,d,_)=>∀ v H',Le H H'->VT K (z (Cs d)) H H' y d v->Q v H'
 | .exc c=>∀ H',Le H H'->E (.int (c:Int) 0) none H'
 | .no=>False)
section
variable {M:Fm}{ρ ρ':Af}{σ σ':St}{H H' H0 H1:Hp}{gg:Os}{vs vs':List Nat}{K:Kx}{k:Frag}{Z Z':Addr->Prop}{x y z:PV}{c d i n:Nat}{u v w:V}{a b p:Addr}{f g h:Fx}{fa:Fa}{fb:Fb}{xs ys:List PV}{ws us:List V}{zz:Nat->Addr->Prop}{Q:VK}{X:Cx}{ea eb e:Expr}{es:List Expr}{pos p1 p2:Pos}{pins:List (Addr×Obj)}{s:Ai}{uu uu':Ae}{A:Bf}
def jA (hu:X.A.units + 1 < Cp):OpR X (BP .In) (IJ false):=by
 intro pins s σ H x y v u Q I rx ry h;obtain ⟨a,o,rfl,g,q⟩:=h;obtain rfl:u=Value.ref a:=ry;exact Ta hu I g rx λ s3 I3=>⟨.bl o.isSome,H,I3,rfl,by simpa using q⟩
def bf (hu:X.A.units + 1 < Cp):OpR X (BP .NotIn) (IJ true):=by
 intro pins s σ H x y v u Q I rx ry h;obtain ⟨a,o,rfl,g,q⟩:=h;obtain rfl:u=Value.ref a:=ry;exact vN hu I g rx λ s3 I3=>⟨.bl (!o.isSome),H,I3,rfl,by simpa using q⟩
def wD:OpR X (BP .Eq) (FA λ i j=>.bl (decide (i=j))):=λ pins s σ H x y v u Q I rx ry h=>zx pins s σ H x y v u Q I rx ry (by
 obtain ⟨i,j,rfl,rfl,q⟩:=h;refine ⟨rfl,?_⟩;rw [X1];exact q)
def UQ {op:CmpOp}{p:Int->Int->Bool} (h:Je op=some p):OpR X (BP op) (FA λ i j=>.bl (p i j))/\op≠.In/\op≠.NotIn:=by
 cases op <;> cases h
 ·exact ⟨wD,by decide,by decide⟩
 ·exact ⟨VU,by decide,by decide⟩
 ·exact ⟨VS,by decide,by decide⟩
 ·exact ⟨VR,by decide,by decide⟩
 ·exact ⟨VQ,by decide,by decide⟩
def Lo (t u v:TT):TT:=λ σ H Q=>t σ H λ c H1=>if c=true then u σ H1 Q else v σ H1 Q
theorem jV {t a b:Expr}{pos:Pos}{tA tB tC:TT} (ht:PT X t tA) (ha:PT X a tB) (hb:PT X b tC):PT X (.IfExp t a b pos) (Lo tA tB tC):=by
 intro pins s σ H Q I h;rw [arm_isTrue_IfExp];refine Ah (A0 (ht pins s σ H _ I h) λ d s1 ⟨H1,I1,q1⟩=>?_);cases d with
 | true=>exact ha pins s1 σ H1 Q I1 q1
 | false=>exact hb pins s1 σ H1 Q I1 q1
def GO {f:Ae->Ae->Sem Ae}{r r':R2} (h:OpR X f r) (i:∀ x y H Q,r' x y H Q->r x y H Q):OpR X f r':=λ pins s σ H x y v u Q I rx ry q=>h pins s σ H x y v u Q I rx ry (i _ _ _ _ q)
def NY {p:Int->Int->Bool} (x y:V) (H:Hp) (Q:VK) (h:HR k (B1 p) x y H Q):FA (λ i j=>.bl (p i j)) x y H Q:=by
 obtain ⟨K,x,d,y,e,z,c,Z,Z',hk,ho,o1,o2,q⟩:=h;unfold B1 at ho;split at ho
 ·cases ho;exact ⟨_,_,o1.sv rfl,o2.sv rfl,q _ rfl⟩
 ·cases ho
theorem Is.isNon (o:Is K H Z x v):decide (v=.non)=QQ.isNon x:=by
 cases o with
 | rf h=>cases x <;> first | exact h.elim | rfl
 | nd n h _=>cases x <;> first | exact h.elim | rfl
 | _=>rfl
def Mq {neg:Bool} (x y:V) (H:Hp) (Q:VK) (h:HR k (Hl neg) x y H Q):(∃ i j,x=.bl i/\y=.bl j/\Q (.bl (neg^^(i == j))) H)\/(y=.non/\Q (.bl (neg^^decide (x=.non))) H):=by
 obtain ⟨K,x,d,y,e,z,c,Z,Z',hk,ho,o1,o2,q⟩:=h;unfold Hl at ho;split at ho
 ·cases ho;exact .inl ⟨_,_,o1.sv rfl,o2.sv rfl,q _ rfl⟩
 ·cases ho;exact .inr ⟨o2.sv rfl,by rw [o1.isNon];exact q _ rfl⟩
 ·cases ho
def LA (neg:Bool):R2:=λ v w H Q=>∃ (K:Kx) (tp:Bool) (x:PV) (ys:List PV) (Z Z':Addr->Prop) (a:EB) (bs:List EB),Dx 20 x=some a/\Cd (Dx 20) ys=some bs/\Is K H Z x v/\Is K H Z' (QE tp ys) w/\Q (.bl (neg^^bs.any λ b=>Gy b a)) H
def Mr {neg:Bool} (x y:V) (H:Hp) (Q:VK) (h:HR k (DM neg) x y H Q):IJ neg x y H Q\/LA neg x y H Q:=by
 obtain ⟨K,x,d,y,e,z,c,Z,Z',hk,ho,o1,o2,q⟩:=h;unfold DM at ho;split at ho
 ·obtain ⟨k,ek,e2⟩:=jc0.mp ho;cases e2;obtain ⟨b,ws,rfl,hb,ol⟩:=o1.tupE
  have:=KW ek ol
  subst this;obtain ⟨a,rfl,_,ha⟩:=o2.dct;exact .inl ⟨a,_,rfl,.inr ⟨_,k,b,ha,rfl,hb,rfl⟩,q _ rfl⟩
 ·rename_i ks xs;obtain ⟨k,ek,e2⟩:=jc0.mp ho;cases e2;obtain ⟨b,us,rfl,hb,okey⟩:=o1.tupE
  have:=KW ek okey
  subst this;obtain ⟨a,ws,rfl,_,en,hr,ol⟩:=o2.dcl;have kv:=RE (k:=k) ol en;refine .inl ⟨a,BQ (ks.zip ws) k,rfl,.inr ⟨_,k,b,hr,rfl,hb,rfl⟩,?_⟩;cases ex:FY ks xs k with
  | none=>rw [ex] at kv q;rw [kv];exact q _ rfl
  | some x=>rw [ex] at kv q;obtain ⟨w',ew,_⟩:=kv;rw [ew];exact q _ rfl
 ·split at ho
  ·rename_i ea eb;cases ho;exact .inr ⟨K,false,_,_,Z,Z',_,_,ea,eb,o1,o2,q _ rfl⟩
  ·cases ho
 ·split at ho
  ·rename_i ea eb;cases ho;exact .inr ⟨K,true,_,_,Z,Z',_,_,ea,eb,o1,o2,q _ rfl⟩
  ·cases ho
 ·cases ho
def W2 (hu:X.A.units + 64 < Cp) (neg:Bool):OpR X (BP (if neg then .NotIn else .In)) (LA neg):=by
 intro pins s σ H v w u u' Q I rx ry ⟨K,tp,x,ys,Z,Z',a,bs,h1,h2,o1,o2,q⟩;obtain ⟨as,ra⟩:=J8 I 20 x v u a h1 o1 rx;obtain ⟨bs',rb⟩:=J8 I 21 (QE tp ys) w u' _ (va h2) o2 ry;have l1:=J2 20 x a h1;have l2:=MQ (λ x D h=>J2 20 x D h) h2;have hm:X.A.units + 1 + min (Lc bs) a.depth < Cp:=by have:=ZF (Lc bs) a.depth;omega
 cases neg <;> cases tp
 ·exact SeqAt.in_list_reads rb ra l2.1 l1.1 hm ⟨.bl _,H,I,rfl,by simpa using q⟩
 ·exact SeqAt.in_tuple_reads rb ra l2.1 l1.1 hm ⟨.bl _,H,I,rfl,by simpa using q⟩
 ·exact SeqAt.notIn_list_reads rb ra l2.1 l1.1 hm ⟨.bl _,H,I,rfl,by simpa using q⟩
 ·exact SeqAt.notIn_tuple_reads rb ra l2.1 l1.1 hm ⟨.bl _,H,I,rfl,by simpa using q⟩
def TB (x y:V) (H:Hp) (Q:VK) (h:HR k IT x y H Q):Lw k x y H Q:=by
 obtain ⟨K,x,d,y,e,z,c,Z,Z',hk,ho,o1,o2,q⟩:=h;unfold IT at ho;split at ho
 ·split at ho
  ·rename_i ea eb;cases ho;obtain ⟨p,us,rfl,hs,ol⟩:=o1.tupE;obtain ⟨p',us',rfl,hs',ol'⟩:=o2.tupE;rw [Hx ea ol] at hs;rw [Hx eb ol'] at hs';exact ⟨p,p',_,_,rfl,rfl,.inl (.inl hs),.inl (.inl hs'),q _ rfl⟩
  ·cases ho
 ·cases ho
def Xw {op:CmpOp}{b:Expr} (h:E2 b=true):IC op b=false:=by
 cases op <;> cases b <;> first | rfl | cases h
def u0 {op:CmpOp}{o:PV->Nat->PV->Nat->Option (PV×Nat)}{b:Expr} (h:QO b op=some o) (hu:X.A.units + 64 < Cp):OpR X (BP op) (HR X.K o)/\IC op b=false:=by
 have nb:op≠.In->op≠.NotIn->IC op b=false:=λ h1 h2=>Pn _ h1 h2;cases op <;> dsimp only [QO] at h
 ·cases h;exact ⟨jB hu,nb (by decide) (by decide)⟩
 ·cases h;exact ⟨jF hu,nb (by decide) (by decide)⟩
 ·split at h
  ·cases h;exact ⟨GO (jD (by omega)) TB,nb (by decide) (by decide)⟩
  ·cases h;exact ⟨GO VU NY,nb (by decide) (by decide)⟩
 ·cases h;exact ⟨GO VS NY,nb (by decide) (by decide)⟩
 ·cases h;exact ⟨GO VR NY,nb (by decide) (by decide)⟩
 ·cases h;exact ⟨GO VQ NY,nb (by decide) (by decide)⟩
 ·cases h;exact ⟨GO (qri.or jC) (λ x y H Q h=>by simpa using Mq x y H Q h),nb (by decide) (by decide)⟩
 ·cases h;exact ⟨GO (qfo.or ym) (λ x y H Q h=>by simpa [bne] using Mq x y H Q h),nb (by decide) (by decide)⟩
 ·split at h
  ·rename_i hb;cases h;exact ⟨GO ((jA (by omega)).or (W2 hu false)) Mr,Xw hb⟩
  ·cases h
 ·split at h
  ·rename_i hb;cases h;exact ⟨GO ((bf (by omega)).or (W2 hu true)) Mr,Xw hb⟩
  ·cases h
def WH {o:PV->Nat->PV->Nat->Option (PV×Nat)} (hK:M.K=X.K) (hq:tE M (Ab o f g) (vs++vs') σ H Q):JV (HR X.K o) (tE M f vs) (tE M g vs') σ H Q:=
 KQ (λ K x d y e z c v w H Q zz hk ho zk o1 o2 lf=>⟨K,x,d,y,e,z,c,_,_,hk.trans hK,ho,o1,o2,λ b eb=>by subst eb;exact lf.sv rfl⟩) hq
def zK {op:GW}{o:PV->Nat->PV->Nat->Option (PV×Nat)} (h:QM op=some o) (ha:PE X ea (tE M f vs)) (hb:PE X eb (tE M g vs')):PE X (.BinOp ea op eb pos) (tE M (Ab o f g) (vs++vs')):=by
 unfold QM at h;split at h
 ·cases h;exact ko ha hb
 ·cases h;exact Ou yn (λ _ _ _=>trivial) ha hb
 ·cases h;exact vf ha hb
 ·cases h;exact Ou uU (λ _ _ h=>TH h) ha hb
 ·cases h;exact Ou jE (λ _ _ h=>by simpa [IQ] using h) ha hb
 ·cases h;exact Ou jG (λ _ _ h=>TC h) ha hb
 ·cases h
def yG (hq:tE M (CW f g) (vs++vs') σ H Q):Wm (tE M f vs) (tE M g vs') σ H Q:=by
 obtain ⟨ρ,gg,rep,q⟩:=hq;refine EU rep q λ x d v H1 l r t q=>?_;dsimp only at q;split at q
 ·exact ⟨true,(rep.vw t).sv rfl,by rw [if_pos rfl];exact ⟨ρ,gg,r,OutE.mono (OutE.from l q) λ p q e v H' l' t'=>q e v H' (l.trans l') ((t'.weak λ a=>Fm.z_sub λ i=>CM _).back λ _=>l.back)⟩⟩
 ·exact ⟨false,(rep.vw t).sv rfl,by rw [if_neg BK];exact q rfl _ H1 l (.of rfl (.bl _))⟩
 ·exact q.elim
def kJ (hq:tE M (Bz f g) (vs++vs') σ H Q):Lm (tE M f vs) (tE M g vs') σ H Q:=by
 obtain ⟨ρ,gg,rep,q⟩:=hq;refine EU rep q λ x d v H1 l r t q=>?_;dsimp only at q;split at q
 ·exact ⟨true,(rep.vw t).sv rfl,by rw [if_pos rfl];exact q rfl _ H1 l (.of rfl (.bl _))⟩
 ·exact ⟨false,(rep.vw t).sv rfl,by rw [if_neg BK];exact ⟨ρ,gg,r,OutE.mono (OutE.from l q) λ p q e v H' l' t'=>q e v H' (l.trans l') ((t'.weak λ a=>Fm.z_sub λ i=>CM _).back λ _=>l.back)⟩⟩
 ·exact q.elim
def yI (hq:tE M (AQ Co f) vs σ H Q):Wg (tE M f vs) σ H Q:=
 LM (r:=λ x H1 Q=>∃ c,x=.bl c/\Q (.bl (!c)) H1) (λ K x d z c v H Q zz hk ho zk o1 lf=>by
  unfold Co at ho;split at ho
  ·cases ho;exact ⟨_,o1.sv rfl,lf.sv rfl⟩
  ·cases ho) hq
def kI (hq:tE M (BA fb f g) (vs++vs') σ H Q):V7 (tT M fb) (tE M f vs) (tE M g vs') σ H Q:=by
 obtain ⟨ρ,gg,rep,q⟩:=hq;refine K9 rep q λ b H1 l r q=>?_;have fin:∀ {k:Fx}{us:List Nat},(∀ i∈us,i∈vs++vs')->OutE M σ H (k ρ) (λ p=>p.2.2=ρ->∀ v H',Le H H'->VT (M.k gg) (M.z gg (vs++vs') p.2.1) H H' p.1 p.2.1 v->Q v H')->tE M k us σ H1 Q:=λ hs q=>⟨ρ,gg,r,OutE.mono (OutE.from l q) λ p q e v H' l' t'=>q e v H' (l.trans l') ((t'.weak λ a=>Fm.z_sub hs).back λ _=>l.back)⟩
 dsimp only at q;cases b
 ·exact fin (λ i=>CM _) q
 ·exact fin (λ i=>Ib _) q
def YL {p q:Int->Int->Bool}{v1 v2 v3:List Nat} (hq:tE M (E5 p q f g h) vs σ H Q):RJ (FA λ i j=>.bl (p i j)) (FA λ i j=>.bl (q i j)) (tE M f v1) (tE M g v2) (tE M h v3) σ H Q:=by
 obtain ⟨ρ,gg,rep,k⟩:=hq;refine EU rep k λ x d v H1 l1 r1 t1 k=>EU r1 (OutE.from l1 k) λ y e w H2 l2 r2 t2 k=>?_;dsimp only at k;split at k
 ·refine ⟨_,_,(rep.vw t1).sv rfl,(r1.vw t2).sv rfl,_,rfl,?_⟩;split at k
  ·rename_i hp;rw [hp,if_pos rfl];refine EU r2 (OutE.from l2 k) λ z e' u H3 l3 r3 t3 k=>?_;dsimp only at k;split at k
   ·exact ⟨_,_,(r1.vw t2).sv rfl,(r2.vw t3).sv rfl,k rfl _ H3 ((l1.trans l2).trans l3) (.of rfl (.bl _))⟩
   ·exact k.elim
  ·rename_i hp;rw [jn7.mpr hp,if_neg BK];exact k rfl _ H2 (l1.trans l2) (.of rfl (.bl _))
 ·exact k.elim
theorem yH {F:Fn} (hF:∀ xs,xs.length≠n->F xs=.no) (hq:tE M (Ap F fa) vs σ H Q):WG (JW M.K n F) M.W (tL M fa vs) σ H Q:=by
 obtain ⟨ρ,gg,rep,q⟩:=hq;refine Il rep q λ xs ws H1 G l r f t q=>?_;show JW M.K n F ws H1 Q (Gm (M.W σ));dsimp only at q;have hl:xs.length=n:=by
  refine Q4 λ e=>?_;rw [hF (xs.map (·.1)) (by rw [AJ];exact e)] at q;exact q
 refine ⟨by rw [<- hl];exact t.length,xs.map (·.1),λ b=>M.z gg vs (if b=true then om else 0),M.k gg,rfl,λ a h=>Fm.z_om r.zt h,λ b a h=>r.zdom h,λ a s=>⟨(r.st a s).1,λ z=>z.elim (λ ⟨i,e,_⟩=>(r.st a s).2.2 i e) (r.st a s).2.1⟩,t.to (z:=M.z gg vs) (c:=0) (λ e d a=>Fm.z_to r.zt) (λ d a h ga=>rep.zdom h (f a ga)) λ p _=>.inr (by decide),?_⟩;cases e:F (xs.map (·.1)) with
 | no=>rw [e] at q;exact q
 | exc c=>rw [e] at q;exact λ H' k=>q H' (l.trans k)
 | ok p=>
  obtain ⟨y,d,z0⟩:=p;rw [e] at q;exact λ v H' k t=>q rfl v H' (l.trans k) ((t.weak λ a h=>Fm.z_to r.zt (by unfold Cs;by_cases e:d=om <;> simp [e]) h).back λ _=>l.back)
def kr:PE X (.Dict [] [] pos) (tE M DR []):=
 Ca uY λ σ H Q ⟨ρ,gg,rep,q⟩ p hp=>q rfl (.ref p) _ (DU hp) (.new hp rfl ⟨rfl,rfl,BI⟩ .nil λ _ x h=>nomatch h)
end
open PySem PySem.Spec PyProof.Rows L2 PySem.Builtin PySem.Builtin.ObjectAttr PySem.Builtin.Getset_descriptor
section
variable {prog:AD}{w:AA}{A:Bf}{E:Ae->Ai->Prop}{K:Frag}{h:Heap}{g:Array GenState}{d:Drawn}{t:Nat}{os:OsState}{a C:Addr}{oe:Obj}
end
section
variable {K:Frag}{a C:Addr}{c d:Nat}{u:Ae}
end
section
variable {X:Cx}
end
structure Wd where
 P:AD
 w:AA
 K:Frag
 mg:Str->Option Ae
 base:Heap
 lvl:Nat
structure Sx where
 N:List Str
 sc:Bu
 Γ:List (Str×Nat×Fn)
 rz:Bool
 xc:List Nat
 al:List (List Nat):=[]
 gh:Option Nat:=none
def Sx.alF (S:Sx) (i:Nat):List Nat:=S.al.getD i []
def CG (sc:Bu) (x:Str) (k:Dd):Bool:=sc.names.lookup x == some k
def CH (sc:Bu) (x:Str):Bool:=CG sc x .local || CG sc x .cell || CG sc x .free
def Jc (N:List Str) (x:Str):Option Nat:=N.findIdx? (·== x)
def Sx.slot (S:Sx) (x:Str):Option Nat:=if (CH S.sc x && !(x == ("__debug__" : Str)) && !(x == ("__classdict__" : Str)))=true then (Jc S.N x).filter λ i=>S.gh != some i else none
def Sx.glob (S:Sx) (x:Str):Bool:=CG S.sc x .globalImplicit
structure XS (E:Wd) (S:Sx) (X:Cx) (M:Fm):Prop where
 prog:X.prog=E.P
 w:X.w=E.w
 K:X.K=E.K
 mg:X.mg=E.mg
 base:X.base=E.base
 N:X.N=S.N
 sc:X.env.scope=S.sc
 calm:X.calm=true
 room:Room E.lvl X.A
 po:PassesOwn (Ax X.prog X.w) X.A X.env X.xe
 ps:MT (CN X.prog X.w X.K) X M.W
 rs:S.rz=true->Sm X M.W
 k:M.K=X.K
 al:∀ i,i < S.N.length->M.al i=S.alF i
 gh:M.gh=S.gh
def GS (E:Wd) (Γ:List (Str×Nat×Fn)):Prop:=∀ x n F,Γ.lookup x=some (n,F)->(x == ("__debug__" : Str))=false/\(∀ xs,xs.length≠n->F xs=.no) /\
  ∃ fa fd ps,E.mg x=some (.ref fa)/\JM E.K (.ref fa)=true/\qkb E.K fd ps []/\ps.length=n/\FnOk E.P E.w E.K E.mg E.base (CN E.P E.w E.K) E.lvl fa fd ps (JW E.K n F)
def GX (K:Frag) (mg:Str->Option Ae) (xc:List Nat):Prop:=xc≠[]->Fd K=true/\La K=true/\∀ c∈xc,∃ x C,XN[c]?=some x/\Dt K c=some C/\mg x=some (.ref C)/\(x == ("__debug__" : Str))=false
structure Env' (E:Wd) (S:Sx):Prop where
 bn:∀ x∈zyi,E.mg x=none
 gs:GS E S.Γ
 gx:GX E.K E.mg S.xc
def Mx (S:Sx) (e:Expr) (f:Fx) (vs:List Nat):Prop:=GN e=true/\∀ E X M,Env' E S->XS E S X M->PE X e (tE M f vs)/\PT X e (tT M (bT f))
structure R (S:Sx) (e:Expr) where
 f:Fx
 vs:List Nat
 ok:Mx S e f vs
abbrev T (S:Sx) (e:Expr):=Option (R S e)
abbrev Dn:=∀ S e,T S e
structure RA (S:Sx) (es:List Expr) where
 f:Fa
 vs:List Nat
 ok:es.all GN=true/\∀ E X M,Env' E S->XS E S X M->PA X es (tL M f vs)
section
variable {E:Wd}{S:Sx}{X:Cx}{M:Fm}{f g:Fx}{vs vs':List Nat}{σ:St}{H:Hp}{Q:VK}
def Fp {sc:Bu}{x:Str}{k:Dd} (h:CG sc x k=true):sc.names.lookup x=some k:=by
 unfold CG at h;exact eq_of_beq h
def WL {sc:Bu}{x:Str} (h:CH sc x=true):Hu sc x:=by
 unfold CH at h;rw [Ga,Ga] at h;exact h.elim (λ h=>h.imp Fp λ h=>.inl (Fp h)) λ h=>.inr (.inr (Fp h))
def Y4 {N:List Str}{x:Str}{i:Nat} (h:Jc N x=some i):N[i]?=some x:=by
 unfold Jc at h;rw [List.findIdx?_eq_some_iff_getElem] at h;obtain ⟨hi,e,_⟩:=h;rw [BU hi,show N[i]=x from eq_of_beq e]
def XM {x:Str}{i:Nat} (h:S.slot x=some i):CH S.sc x=true/\(x == ("__debug__" : Str))=false/\(x == ("__classdict__" : Str))=false/\S.N[i]?=some x/\S.gh≠some i:=by
 unfold Sx.slot at h;split at h
 ·rename_i hc;simp only [AK,Kj] at hc;obtain ⟨h,hg⟩:=jn0.mp h;exact ⟨hc.1.1,hc.1.2,hc.2,Y4 h,by simpa using hg⟩
 ·cases h
def XS.slot (xs:XS E S X M) {x:Str}{i:Nat} (h:S.slot x=some i):X.N[i]?=some x/\M.gh≠some i/\M.al i=S.alF i:=by
 obtain ⟨_,_,_,h4,h5⟩:=XM h;exact ⟨by rw [xs.N];exact h4,by rw [xs.gh];exact h5,xs.al i (jb0.mp h4).1⟩
def XS.var (xs:XS E S X M) {x:Str}{i:Nat}{pos:Pos} (h:S.slot x=some i):PE X (.Name x pos) (DJ i):=by
 obtain ⟨h1,h2,h3,_⟩:=XM h;exact jN (xs.slot h).1 (by rw [xs.sc];exact WL h1) h2 h3
def XS.gl (xs:XS E S X M) {x:Str} (h:S.glob x=true):Gl X x:=by
 show X.env.scope.names.lookup x=_;rw [xs.sc];exact Fp h
def XS.bn (xs:XS E S X M) (v:Env' E S) {x:Str} (h:x∈zyi):X.mg x=none:=by rw [xs.mg];exact v.bn x h
def CS {e:Expr}{es:List Expr}{env:Env} (h:GN e=true):Bi (e::es) env=(false,eval e env)::Bi es env:=by
 cases e <;> first | rfl | cases h
theorem K3 {env:Env}{pos:Pos}:∀ {es:List Expr},es.all GN=true->(Fy pos (Bi es env)).any (·.1)=false
 | [],_=>rfl
 | e::es,h=>by
  rw [G6,AK] at h;rw [CS h.1];show (false || (Fy pos (Bi es env)).any (·.1))=false;rw [K3 h.2];rfl
def dm {b:Expr} (h:MC b=true):Sl b:=by
 intro o i;cases b <;> first | rfl | cases h
def Dq {e:Expr} (h2:GN e=true) (h3:∀ env whole,isTrue e env whole=(do let v<-whole;standAt e.pos;holding [v] (truthy v))) (h:∀ E X M,Env' E S->XS E S X M->PE X e (tE M f vs)):Mx S e f vs:=
 ⟨h2,λ E X M v xs=>⟨h E X M v xs,KP (jX (h E X M v xs) λ wh=>h3 _ wh) λ σ H Q q=>RL q⟩⟩
def R.pe {e:Expr} (r:R S e) (v:Env' E S) (xs:XS E S X M):PE X e (tE M r.f r.vs):=(r.ok.2 E X M v xs).1
def R.pt {e:Expr} (r:R S e) (v:Env' E S) (xs:XS E S X M):PT X e (tT M (bT r.f)):=(r.ok.2 E X M v xs).2
def yw {Q:Bool->Hp->Prop} (hq:tT M (bT (CW f g)) σ H Q):Lr (tT M (bT f)) (tT M (bT g)) σ H Q:=by
 obtain ⟨ρ,gg,rep,q⟩:=hq;have q:OutE M σ H ((bT f ρ).bind λ (b,ρ1)=>if b=true then bT g ρ1 else .ok (false,ρ1)) λ p=>p.2=ρ->∀ H',Le H H'->Q p.1 H':=by
  revert q;unfold bT CW;cases f ρ with
  | ok p=>obtain ⟨x,d,ρ1⟩:=p;cases x <;> first | exact id | (rename_i b;cases b <;> exact id)
  | _=>exact id
 refine K9 rep q λ b H1 l r q=>?_;cases b
 ·exact q rfl H1 l
 ·exact ⟨ρ,gg,r,OutE.mono (OutE.from l q) λ p q e H' l'=>q e H' (l.trans l')⟩
def kY {Q:Bool->Hp->Prop} (hq:tT M (bT (Bz f g)) σ H Q):V6 (tT M (bT f)) (tT M (bT g)) σ H Q:=by
 obtain ⟨ρ,gg,rep,q⟩:=hq;have q:OutE M σ H ((bT f ρ).bind λ (b,ρ1)=>if b=true then .ok (true,ρ1) else bT g ρ1) λ p=>p.2=ρ->∀ H',Le H H'->Q p.1 H':=by
  revert q;unfold bT Bz;cases f ρ with
  | ok p=>obtain ⟨x,d,ρ1⟩:=p;cases x <;> first | exact id | (rename_i b;cases b <;> exact id)
  | _=>exact id
 refine K9 rep q λ b H1 l r q=>?_;cases b
 ·exact ⟨ρ,gg,r,OutE.mono (OutE.from l q) λ p q e H' l'=>q e H' (l.trans l')⟩
 ·exact q rfl H1 l
def yx {Q:Bool->Hp->Prop} (hq:tT M (bT (AQ Co f)) σ H Q):Ln (tT M (bT f)) σ H Q:=by
 obtain ⟨ρ,gg,rep,q⟩:=hq;have q:OutE M σ H ((bT f ρ).bind λ (b,ρ1)=>.ok (!b,ρ1)) λ p=>p.2=ρ->∀ H',Le H H'->Q p.1 H':=by
  revert q;unfold bT AQ;cases f ρ with
  | ok p=>obtain ⟨x,d,ρ1⟩:=p;cases x <;> exact id
  | _=>exact id
 exact K9 rep q λ b H1 l r q=>q rfl H1 l
end
section
variable {X:Cx}{M:Fm}{f g:Fx}{fb:Fb}{vs:List Nat}{σ:St}{H:Hp}{a:Expr}{p p2 p3 p4 pos pos2:Pos}{k:Nat}
def kX {Q:Bool->Hp->Prop} (hq:tT M (bT (BA fb f g)) σ H Q):Lo (tT M fb) (tT M (bT f)) (tT M (bT g)) σ H Q:=by
 obtain ⟨ρ,gg,rep,q⟩:=hq;have q:OutE M σ H ((fb ρ).bind λ (b,ρ1)=>if b=true then bT f ρ1 else bT g ρ1) λ p=>p.2=ρ->∀ H',Le H H'->Q p.1 H':=by
  revert q;unfold bT BA;cases fb ρ with
  | ok p=>obtain ⟨b,ρ1⟩:=p;cases b <;> exact id
  | _=>exact id
 refine K9 rep q λ b H1 l r q=>?_;cases b <;> exact ⟨ρ,gg,r,OutE.mono (OutE.from l q) λ p q e H' l'=>q e H' (l.trans l')⟩
theorem IsL.rev {K:Kx}{Z:Addr->Prop}:∀ {xs:List PV}{ws:List V},IsL K H Z xs ws->IsL K H Z xs.reverse ws.reverse
 | _,_,.nil=>.nil
 | _,_,.cons h t=>by rw [OA,OA];exact Paired.append (IsL.rev t) (.cons h .nil)
def zL (ha:PE X a (tE M f vs)):PE X (.Subscript a (.Slice none none (some (.UnaryOp .USub (.Constant (.int 1) k p3) p4)) p2) pos) (tE M (AQ IS f) vs):=by
 refine Ca (z9 ha) λ σ H Q h=>LM (λ K x d z c v H Q zz hk ho zk o1 lf=>?_) h;unfold IS at ho;split at ho
 ·cases ho;obtain ⟨p,ws,rfl,_,hp,ol⟩:=o1.lst;exact .inl ⟨p,ws,rfl,.inl (.inl hp),λ q hq=>lf.lstD zk (zk.low ol).rev hq⟩
 ·split at ho
  ·rename_i hz;cases ho;exact .inr ⟨_,o1.sv rfl,hz,lf.sv rfl⟩
  ·cases ho
 ·cases ho
def yj (hc:X.calm=true) (hgL:Gl X "list") (hmL:X.mg "list" = none) (hgR:Gl X "reversed") (hmR:X.mg "reversed" = none) (ha:PE X a (tE M f vs)) (hs:Bi [a] X.env=[(false,eval a X.env)]):
  PE X (.Call (.Name "list" p) [.Call (.Name "reversed" p2) [a] [] pos2] [] pos) (tE M (AQ Oe f) vs):=by
 refine Ca (yt hc hgL hmL hgR hmR ha hs) λ σ H Q h=>LM (λ K x d z c v H Q zz hk ho zk o1 lf=>?_) h;unfold Oe at ho;split at ho
 ·cases ho;obtain ⟨p,ws,rfl,_,hp,ol⟩:=o1.lst;exact ⟨p,ws,rfl,.inl (.inl hp),λ q hq=>lf.lstD zk (zk.low ol).rev hq⟩
 ·cases ho
end
def Tq {S:Sx}{j p} (i:Int):R S (.Constant (.int i) j p):=⟨bC (.int i),[],Dq rfl (λ _ _=>rfl) λ _ _ _ _ _=>Ca W5 λ _ _ _=>MG rfl⟩
def jg {S:Sx}:∀ (c:Const) (j p),T S (.Constant c j p)
 | .int i,_,_=>some (Tq i)
 | .bool b,_,_=>some ⟨bC (.bl b),[],Dq rfl (λ _ _=>rfl) λ _ _ _ _ _=>Ca zy λ _ _ _=>MG rfl⟩
 | .none,_,_=>some ⟨bC .non,[],Dq rfl (λ _ _=>rfl) λ _ _ _ _ _=>Ca kE λ _ _ _=>MG rfl⟩
 | .str x,_,_=>some ⟨bC (.str x),[],Dq rfl (λ _ _=>rfl) λ _ _ _ _ _=>Ca W7 λ _ _ _=>MG rfl⟩
 | _,_,_=>none
def Cb {α:Type} (b:Bool) (k:b=true->Option α):Option α:=if h:b=true then k h else none
def Ba {α β:Type} (o:Option α) (k:∀ a,o=some a->Option β):Option β:=match o,k with
 | some a,k=>k a rfl
 | none,_=>none
def za {S:Sx} (x:Str) (p):T S (.Name x p):=Ba (S.slot x) λ i h=>some ⟨Aa i,i::S.alF i,Dq rfl (λ _ _=>rfl) λ _ _ _ _ xs=>Ca (xs.var h) λ _ _ _ q=>kK (xs.slot h).2.1 (by rw [(xs.slot h).2.2];exact q)⟩
def T5 {S:Sx} (d:Dn) (a op b p):T S (.BinOp a op b p):=Ba (QM op) λ o h=>(d S a).bind λ r=>(d S b).bind λ s=>some ⟨Ab o r.f s.f,r.vs++s.vs,Dq rfl (λ _ _=>rfl) λ _ _ _ v xs=>zK h (r.pe v xs) (s.pe v xs)⟩
def Tn {S:Sx} (d:Dn) (a p):T S (.UnaryOp .USub a p):=(d S a).bind λ r=>some ⟨AQ EX r.f,r.vs,Dq rfl (λ _ _=>rfl) λ _ _ _ v xs=>vg (r.pe v xs)⟩
def Tj {S:Sx} (d:Dn) (a p):T S (.UnaryOp .Not a p):=(d S a).bind λ r=>some ⟨AQ Co r.f,r.vs,rfl,λ _ _ _ v xs=>⟨Ca (kF (r.pe v xs)) λ _ _ _=>yI,KP (jW (r.pt v xs)) λ _ _ _=>yx⟩⟩
def Mp {S:Sx} (d:Dn) (p):∀ es,Option { r:Fx×List Nat // ∀ E X M,Env' E S->XS E S X M->PE X (.BoolOp .And es p) (tE M r.1 r.2)/\PW X (.BoolOp .And es p) (tT M (bT r.1)) }
 | []=>none
 | [e]=>(d S e).bind λ r=>some ⟨(r.f,r.vs),λ _ _ _ v xs=>⟨W6 (r.pe v xs),yc (r.pt v xs)⟩⟩
 | e::e'::es=>(d S e).bind λ r=>(Mp d p (e'::es)).bind λ s=>some ⟨(CW r.f s.1.1,r.vs++s.1.2),λ E X M v xs=>⟨Ca (kB (r.pe v xs) (s.2 E X M v xs).1) λ _ _ _=>yG,WB (jZ (r.pt v xs) (s.2 E X M v xs).2) λ _ _ _=>yw⟩⟩
def qm {S:Sx} (d:Dn) (p):∀ es,Option { r:Fx×List Nat // ∀ E X M,Env' E S->XS E S X M->PE X (.BoolOp .Or es p) (tE M r.1 r.2)/\PW X (.BoolOp .Or es p) (tT M (bT r.1)) }
 | []=>none
 | [e]=>(d S e).bind λ r=>some ⟨(r.f,r.vs),λ _ _ _ v xs=>⟨W6 (r.pe v xs),ka (r.pt v xs)⟩⟩
 | e::e'::es=>(d S e).bind λ r=>(qm d p (e'::es)).bind λ s=>some ⟨(Bz r.f s.1.1,r.vs++s.1.2),λ E X M v xs=>⟨Ca (z7 (r.pe v xs) (s.2 E X M v xs).1) λ _ _ _=>kJ,WB (zE (r.pt v xs) (s.2 E X M v xs).2) λ _ _ _=>kY⟩⟩
def xT {S:Sx} (d:Dn) (o es p):T S (.BoolOp o es p):=match o with
 | .And=>(Mp d p es).map λ r=>⟨r.1.1,r.1.2,rfl,λ E X M v xs=>⟨(r.2 E X M v xs).1,(r.2 E X M v xs).2.pt⟩⟩
 | .Or=>(qm d p es).map λ r=>⟨r.1.1,r.1.2,rfl,λ E X M v xs=>⟨(r.2 E X M v xs).1,(r.2 E X M v xs).2.pt⟩⟩
def fK {S:Sx} (d:Dn) (t a b p):T S (.IfExp t a b p):=(d S t).bind λ c=>(d S a).bind λ r=>(d S b).bind λ s=>some ⟨BA (bT c.f) r.f s.f,r.vs++s.vs,rfl,λ _ _ _ v xs=>
 ⟨Ca (u3 (c.pt v xs) (r.pe v xs) (s.pe v xs)) λ _ _ _=>kI,KP (jV (c.pt v xs) (r.pt v xs) (s.pt v xs)) λ _ _ _=>kX⟩⟩
def T3 {S:Sx} (d:Dn) (a op b p):T S (.Compare a [op] [b] p):=Ba (QO b op) λ o h=>(d S a).bind λ r=>(d S b).bind λ s=>some ⟨Ab o r.f s.f,r.vs++s.vs,rfl,λ _ X _ v xs=>
 have c:=u0 (X:=X) h xs.room.units;⟨Ca (yq c.1 (r.pe v xs) (s.pe v xs) c.2) λ _ _ _=>WH xs.k,KP (wX c.1 (r.pe v xs) (s.pe v xs) c.2) λ _ _ _ q=>WH xs.k (RL q)⟩⟩
def jf {S:Sx} (d:Dn) (a op op' b c p):T S (.Compare a [op,op'] [b,c] p):=Ba (Je op) λ _ h1=>Ba (Je op') λ _ h2=>(d S a).bind λ r=>(d S b).bind λ s=>(d S c).bind λ t=>some ⟨E5 _ _ r.f s.f t.f,[],rfl,λ _ X _ v xs=>
 have r1:=UQ (X:=X) h1;have r2:=UQ (X:=X) h2
 ⟨Ca (uX r1.1 r2.1 (r.pe v xs) (s.pe v xs) (t.pe v xs) (Pn _ r2.2.1 r2.2.2)) λ _ _ _=>YL,KP (uC r1.1 r2.1 (r.pe v xs) (s.pe v xs) (t.pe v xs) (Pn _ r2.2.1 r2.2.2)) λ _ _ _ q=>YL (vs:=[]) (RL q)⟩⟩
def Ft {S:Sx} (d:Dn):∀ es,Option (RA S es)
 | []=>some ⟨Ac,[],rfl,λ _ _ _ _ _=>kn⟩
 | e::es=>(d S e).bind λ r=>(Ft d es).bind λ s=>some ⟨Ad r.f s.f,r.vs++s.vs,by rw [G6,r.ok.1,s.ok.1];rfl,λ E X M v xs=>yi (r.pe v xs) (s.ok.2 E X M v xs) (CS r.ok.1)⟩
def To {S:Sx} (d:Dn) (es p):T S (.List es p):=(Ft d es).bind λ r=>some ⟨Ak AW r.f,r.vs,Dq rfl (λ _ _=>rfl) λ E X M v xs=>ve (r.ok.2 E X M v xs)⟩
def Tc {S:Sx} (d:Dn) (es k p):T S (.Tuple es k p):=(Ft d es).bind λ r=>some ⟨Ak AX r.f,r.vs,Dq rfl (λ _ _=>rfl) λ E X M v xs=>vh (r.ok.2 E X M v xs)⟩
def Tz {S:Sx} (p):T S (.Dict [] [] p):=some ⟨bC .emp,[],Dq rfl (λ _ _=>rfl) λ _ _ _ _ _=>ku⟩
def Tt {S:Sx} (d:Dn) (a b p):T S (.Subscript a b p):=Cb (MC b) λ h=>(d S a).bind λ r=>(d S b).bind λ s=>some ⟨Ab An r.f s.f,r.vs++s.vs,Dq rfl (λ _ _=>rfl) λ _ _ _ v xs=>
 vc (by have:=xs.room.units;omega) xs.k (dm h) (r.pe v xs) (s.pe v xs)⟩
structure RO (S:Sx) (e:Option Expr) where
 f:Option (Fx×List Nat)
 ok:∀ E X M,Env' E S->XS E S X M->PO X e (tO M f)
def Mn {S:Sx} (d:Dn):∀ e,Option (RO S e)
 | none=>some ⟨none,λ _ _ _ _ _=>X7⟩
 | some e=>(d S e).bind λ r=>some ⟨some (r.f,r.vs),λ _ _ _ v xs=>X8 (r.pe v xs)⟩
def fJ {S:Sx} (d:Dn) (a lo hi q p):T S (.Subscript a (.Slice lo hi none q) p):=(d S a).bind λ r=>(Mn d lo).bind λ l=>(Mn d hi).bind λ u=>some ⟨DQ r.f (l.f.map (·.1)) (u.f.map (·.1)),r.vs,Dq rfl (λ _ _=>rfl) λ E X M v xs=>
 Ca (u4 (qmc.or (qp2.or vm)) (r.pe v xs) (l.ok E X M v xs) (u.ok E X M v xs)) λ _ _ _=>jr⟩
def Tg {S:Sx} (d:Dn) (a j p1 p2 q p):T S (.Subscript a (.Slice none none (some (.UnaryOp .USub (.Constant (.int 1) j p1) p2)) q) p):=(d S a).bind λ r=>some ⟨AQ IS r.f,r.vs,Dq rfl (λ _ _=>rfl) λ _ _ _ v xs=>zL (r.pe v xs)⟩
def IF (x:Str):Option String:=if x = "int" then some "int" else if x = "bool" then some "bool" else if x = "str" then some "str" else if x = "list" then some "list" else if x = "tuple" then some "tuple" else if x = "dict" then some "dict" else none
def y0 {T:Str}{t:String} (h:IF T=some t):t∈Ht/\T∈zyi/\HL T=some (.type t)/\(T == ("__debug__" : Str))=false/\T ≠ "__name__" := by
 unfold IF at h
 repeat (split at h;(rename_i e;cases h;rw [e];exact ⟨by decide,by decide +kernel,rfl,by decide +kernel,by decide +kernel⟩))
 cases h
def FK (X:Cx) (op:List (PV×Nat)->Option (PV×Nat)) (r:List V->Hp->VK->Prop):Prop:=∀ (K:Kx) xs z c ws H Q zz,K.K=X.K->op xs=some (z,c)->Zk zz H->Bv (λ p v=>Is K H (zz p.2) p.1 v) xs ws->Leaf K zz H z c Q->r ws H Q
structure BR where
 x:Str
 op:List (PV×Nat)->Option (PV×Nat)
 ok:x∈zyi/\x ≠ "__name__" /\ (x == ("__debug__" : Str))=false/\∀ X:Cx,X.calm=true->X.A.units + 64 < Cp->∃ (v:Ae) (r:List V->Hp->VK->Prop),((∃ id,v=.builtin id)\/∃ t,v=.type t)/\HL x=some v/\zwr X v r/\FK X op r
def vA {S:Sx}{E:Wd}{X:Cx}{M:Fm}{fa:Fa}{vs:List Nat}{e:Expr}{es:List Expr}{p pos:Pos} (b:BR) (v:Env' E S) (xs:XS E S X M) (hg:S.glob b.x=true) (hs:(e::es).all GN=true) (ha:PA X (e::es) (tL M fa vs)):PE X (.Call (.Name b.x p) (e::es) [] pos) (tE M (Ak b.op fa) vs):=by
 obtain ⟨h1,h2,h3,h4⟩:=b.ok;obtain ⟨u,r,k,hb,hc,hl⟩:=h4 X xs.calm xs.room.units;rw [G6,AK] at hs;have i:∀ σ H Q,tE M (Ak b.op fa) vs σ H Q->Q9 r (tL M fa vs) σ H Q:=λ σ H Q q=>XT (r:=r) (λ K xs' z c ws H Q zz hk=>hl K xs' z c ws H Q zz (hk.trans xs.k)) q;rcases k with ⟨id,rfl⟩ | ⟨t,rfl⟩
 ·exact Ca (YA hc (xs.gl hg) (xs.bn v h1) hb ha h2 h3 (CS hs.1) (K3 hs.2)) i
 ·exact Ca (bg hc (xs.gl hg) (xs.bn v h1) hb ha h2 h3 (CS hs.1) (K3 hs.2)) i
def Ms (bs:List BR) (x:Str):Option { b:BR // b.x=x }:=match bs with
 | []=>none
 | b::r=>if h:b.x=x then some ⟨b,h⟩ else Ms r x
def xZ {S:Sx} (d:Dn) (x p y p2 a q p3):T S (.Call (.Name x p) [.Call (.Name y p2) [a] [] q] [] p3):=if h:x = "list" /\ y = "reversed" then Cb (S.glob "list" && S.glob "reversed") λ hg=>(d S a).bind λ r=>some ⟨AQ Oe r.f,r.vs,Dq rfl (λ _ _=>rfl) λ _ _ _ v xs=>by
 obtain ⟨rfl,rfl⟩:=h;rw [AK] at hg;exact yj xs.calm (xs.gl hg.1) (xs.bn v (by decide +kernel)) (xs.gl hg.2) (xs.bn v (by decide +kernel)) (r.pe v xs) (CS r.ok.1)⟩ else none
def Tp {S:Sx} (d:Dn) (x p e T' p2 q):T S (.Call (.Name x p) [e,.Name T' p2] [] q):=if h:x = "isinstance" then Ba (IF T') λ t ht=>Cb (S.glob "isinstance" && S.glob T') λ hg=>(d S e).bind λ r=>some ⟨AQ (FP t) r.f,r.vs,Dq rfl (λ _ _=>rfl) λ E X M v xs=>by
 subst h;rw [AK] at hg;obtain ⟨h1,h2,h3,h4,h5⟩:=y0 ht;exact vd h1 xs.k (r.pe v xs) (xs.gl hg.1) (xs.bn v (by decide +kernel)) (yp (xs.gl hg.2) (xs.bn v h2) h3 rfl h5 h4) (CS r.ok.1) rfl⟩ else none
def T4 {S:Sx} (bs:List BR) (d:Dn) (x p es q):T S (.Call (.Name x p) es [] q):=(Ms bs x).bind λ b=>Cb (S.glob x) λ hg=>match es with
 | []=>none
 | e::es=>(Ft d (e::es)).bind λ r=>some ⟨Ak b.1.op r.f,r.vs,Dq rfl (λ _ _=>rfl) λ E X M v xs=>by
  obtain ⟨b,rfl⟩:=b;exact vA b v xs hg r.ok.1 (r.ok.2 E X M v xs)⟩
def xU {S:Sx} (d:Dn) (x p es q):T S (.Call (.Name x p) es [] q):=Ba (S.Γ.lookup x) λ nF hx=>Cb (S.glob x) λ hg=>match es with
 | []=>none
 | e::es=>(Ft d (e::es)).bind λ r=>some ⟨Ap nF.2 r.f,r.vs,Dq rfl (λ _ _=>rfl) λ E X M v xs=>by
  obtain ⟨hdb,hF,fa,fd,ps,hm,hk,hb,hn,ok⟩:=v.gs x nF.1 nF.2 hx;have hs:=r.ok.1;rw [G6,AK] at hs;rw [<- xs.prog,<- xs.w,<- xs.K,<- xs.mg,<- xs.base] at ok;rw [<- xs.K] at hk hb;rw [<- xs.mg] at hm;exact Ca (uW ok xs.room (xs.gl hg) hm hk hb xs.ps (r.ok.2 E X M v xs) hdb (CS hs.1) (K3 hs.2)) λ σ H Q q'=>by
   have:=yH hF q'
   rw [xs.k] at this;exact this⟩
def Fo (scope sc:Bu):Bu:={ scope with names:=scope.names.map λ (n,k)=>if (k == .free && sc.kind == .function && sc.names.lookup n == some .cell) then (n,.cell) else (n,k) }
def S2 (i:Nat):Str:=⟨#[2000000 + i]⟩
def IK (sc':Bu):Nat->List Str->List Str
 | _,[]=>[]
 | i,x::r=>(if CG sc' x .cell || CG sc' x .free then x else S2 i)::IK sc' (i + 1) r
def MB:List Expr->Option (List Str)
 | []=>some []
 | .Name x _::r=>(MB r).map (x::·)
 | _=>none
def NJ (n:Nat):Expr->Option (List Str×(PV->Af->Option Af))
 | .Name x _=>some ([x],asgN n)
 | .Tuple es _ _=>(MB es).map λ xs=>(xs,asgT (IV n xs.length))
 | _=>none
def BO (S:Sx) (scope:Bu) (xs:List Str) (vI:List Nat):Sx:=⟨IK (Fo scope S.sc) 0 S.N++xs,Fo scope S.sc,S.Γ,false,S.xc,(Ay S.N.length).map S.alF++A9 xs.length vI,S.gh⟩
def KS (S:Sx) (scope:Bu) (xs:List Str) (vI:List Nat):Bool:=
 let S':=BO S scope xs vI;decide (scope.kind=.function) && scope.names.all (λ x=>x.2 != .free || !(scope.names.contains (x.1,.cell))) && scope.names.all (λ x=>x.2 != .local || scope.names.lookup x.1 == some .local)
 && scope.names.all (λ x=>x.2 != .free || (S.sc.names.lookup x.1 == some .cell || S.sc.names.lookup x.1 == some .free))
 && (Ay S.N.length).all (λ i=>match S'.N[i]? with
  | some x=>!CH S'.sc x || (decide (S.N[i]?=some x) && CH S.sc x && scope.names.contains (x,.free) && !CG S'.sc x .local)
  | none=>true)
 && decide S'.N.Nodup && xs.all (λ x=>CG S'.sc x .local || (CG S'.sc x .cell && scope.names.contains (x,.cell))) && decide (S.N.length≠0) && (match S.gh with | some i=>decide (i < S.N.length) | none=>true)
section
variable {E:Wd}{S:Sx}{X:Cx}{M:Fm}{f g:Fx}{vs vs':List Nat}{σ:St}{H:Hp}{Q:VK}
def Pd (scope:Bu) (env:Env):HJ scope env=Fo scope env.scope:=rfl
theorem P1 {x:Str}{k:Dd}{sc:Bu}:∀ (l:List (Str×Dd)),(k=.cell\/k=.free)->(l.map λ (n,k)=>if (k == NameKind.free && sc.kind == .function && sc.names.lookup n == some .cell) then (n,NameKind.cell) else (n,k)).lookup x=some k->(x,NameKind.free)∈l\/(x,NameKind.cell)∈l
 | [],_,h=>by simp at h
 | (n,j)::r,hk,h=>by
  rw [Bc] at h;have ih:=P1 (x:=x) (k:=k) (sc:=sc) r hk;dsimp only at h;by_cases hj:(j == NameKind.free && sc.kind == .function && sc.names.lookup n == some .cell)=true
  ·rw [if_pos hj,EJ] at h;split at h
   ·rename_i hx;rw [AK,AK] at hj;have e1:x=n:=eq_of_beq hx;have e2:j=.free:=eq_of_beq hj.1.1;rw [e1,e2];exact .inl AM
   ·exact (ih h).imp (AO _) (AO _)
  ·rw [if_neg hj,EJ] at h;split at h
   ·rename_i hx;have e1:x=n:=eq_of_beq hx;have e2:j=k:=Option.some.inj h;rcases hk with z | z
    ·rw [e1,e2,z];exact .inr AM
    ·rw [e1,e2,z];exact .inl AM
   ·exact (ih h).imp (AO _) (AO _)
theorem Kz (sc':Bu):∀ (N:List Str) (i:Nat),(IK sc' i N).length=N.length
 | [],_=>rfl
 | x::r,i=>by rw [IK,B8,Kz sc' r (i + 1),B8]
structure ChkOk (S:Sx) (scope:Bu) (xs:List Str) (vI:List Nat):Prop where
 kind:scope.kind=.function
 dis:∀ x,(x,NameKind.free)∈scope.names->(x,NameKind.cell)∉scope.names
 names:∀ x∈scope.names,x.2=.local->scope.names.lookup x.1=some .local
 free:∀ x∈scope.names,x.2=.free->S.sc.names.lookup x.1=some .cell\/S.sc.names.lookup x.1=some .free
 capt:∀ (i:Nat) (x:Str),i < S.N.length->(BO S scope xs vI).N[i]?=some x->Hu (Fo scope S.sc) x->S.N[i]?=some x/\Hu S.sc x/\(x,NameKind.free)∈scope.names/\(Fo scope S.sc).names.lookup x≠some .local
 nd:(BO S scope xs vI).N.Nodup
 loc:∀ x∈xs,(Fo scope S.sc).names.lookup x=some .local\/((Fo scope S.sc).names.lookup x=some .cell/\(x,NameKind.cell)∈scope.names)
 pos:S.N.length≠0
 gh:∀ i,S.gh=some i->i < S.N.length
def y3 {sc:Bu}{x:Str} (h:Hu sc x):CH sc x=true:=by
 unfold CH CG;rcases h with h | h | h <;> rw [h] <;> simp
def jc {scope:Bu}{xs:List Str}{vI:List Nat} (h:KS S scope xs vI=true):ChkOk S scope xs vI:=by
 unfold KS at h;simp only [AK,decide_eq_true_eq,jb1,bne_iff_ne,ne_eq,Ga] at h;obtain ⟨⟨⟨⟨⟨⟨⟨⟨h1,h2⟩,h3⟩,h4⟩,h5⟩,h6⟩,h7⟩,h8⟩,h9⟩:=h;refine ⟨h1,λ x hx hz=>(h2 (x,.free) hx).elim (λ z=>z rfl) λ z=>?_,λ x hx he=>(h3 x hx).elim (λ z=>absurd he z) λ z=>eq_of_beq z,λ x hx he=>(h4 x hx).elim (λ z=>absurd he z) λ z=>z.elim (λ z=>.inl (eq_of_beq z)) λ z=>.inr (eq_of_beq z),λ i x hi e hv=>?_,h6,λ x hx=>(h7 x hx).imp Fp λ z=>⟨Fp z.1,by simpa using z.2⟩,h8,λ i e=>by rw [e] at h9;simpa using h9⟩
 ·have z':(!(scope.names.contains (x,NameKind.cell)))=true:=z
  have:scope.names.contains (x,NameKind.cell)=true:=by simpa using hz
  rw [this] at z';cases z'
 have q:=h5 i (jb8.mpr hi);rw [e] at q;dsimp only at q;rw [Ga] at q;rcases q with q | q
 ·have:CH (Fo scope S.sc) x=true:=y3 hv
  have q':(!CH (Fo scope S.sc) x)=true:=q;rw [this] at q';cases q'
 ·simp only [AK,decide_eq_true_eq,Kj] at q;obtain ⟨⟨⟨q1,q2⟩,q3⟩,q4⟩:=q;refine ⟨q1,WL q2,by simpa using q3,λ z=>?_⟩
  have:CG (Fo scope S.sc) x .local=true:=by unfold CG;rw [z];simp
  have q4':CG (Fo scope S.sc) x .local=false:=q4;rw [this] at q4';cases q4'
def ChkOk.comp {scope:Bu}{ys:List Str}{vI:List Nat} (c:ChkOk S scope ys vI) (xs:XS E S X M):CompOk X scope (BO S scope ys vI).N ys.length where
 kind:=c.kind
 dis:=c.dis
 names:=c.names
 len:=by
  show (IK _ 0 S.N++ys).length=_;rw [Br,Kz,xs.N]
 free:=λ x hx he=>by
  show X.env.scope.names.lookup x.1=_\/X.env.scope.names.lookup x.1=_;rw [xs.sc];exact c.free x hx he
 kinds:=λ x h=>by
  rcases h with h | h
  ·exact P1 (sc:=X.env.scope) scope.names (.inl rfl) h
  ·exact P1 (sc:=X.env.scope) scope.names (.inr rfl) h
 capt:=λ i x hi e hv=>by
  rw [Pd,xs.sc] at hv ⊢;rw [xs.N] at hi ⊢;exact c.capt i x hi e hv
def yO {scope:Bu}{ys:List Str}{vI:List Nat} (i:Nat):(BO S scope ys vI).alF i=if i < S.N.length then S.alF i else if i < S.N.length + ys.length then vI else []:=by
 unfold Sx.alF BO;dsimp only;rw [AN];by_cases h:i < S.N.length
 ·rw [C9 (by simpa using h),if_pos h];simp [h,Sx.alF,AN]
 ·rw [FG (by simpa using h),if_neg h,Gi];simp only [AJ,FF];by_cases h2:i < S.N.length + ys.length
  ·rw [if_pos h2,if_pos (by omega)];rfl
  ·rw [if_neg h2,if_neg (by omega)];rfl
def ChkOk.xs {scope:Bu}{ys:List Str}{vI:List Nat}{D:Addr}{M':Fm} (c:ChkOk S scope ys vI) (xs:XS E S X M) (inn:Inn M D S.N.length vI M') (s2:Ai) (H2:Hp) (C:Addr) (fp:List Addr) (pins:List (Addr×Obj)):XS E (BO S scope ys vI) (B2 X s2 H2 scope C (BO S scope ys vI).N fp pins) M':=
 ⟨xs.prog,xs.w,xs.K,xs.mg,xs.base,rfl,by show HJ scope X.env=_;rw [Pd,xs.sc];rfl,xs.calm,xs.room,PassesOwn.never,by rw [inn.W];exact kA,(λ h=>nomatch h),inn.K.trans xs.k,λ i hi=>by
  rw [yO,inn.al];have hl:(BO S scope ys vI).N.length=S.N.length + ys.length:=by
   show (IK _ 0 S.N++ys).length=_;rw [Br,Kz]
  rw [hl] at hi;by_cases h:i < S.N.length
  ·rw [if_pos h];exact (if_pos h).trans (xs.al i h)
  ·rw [if_neg h,if_pos hi];exact if_neg h,inn.gh.trans xs.gh⟩
def KU {iter:Expr}{env:Env} (h:E2 iter=true):∀ x,Nt iter env x=pure x:=by
 intro x;cases iter <;> first | rfl | cases h
def Iv {tg it:Expr}{t t':TI} (h:PI X tg it t) (i:∀ σ H R,t' σ H R->t σ H R):PI X tg it t':=λ pins s σ H R I q=>h pins s σ H R I (i σ H R q)
end
structure RI (S:Sx) (tg it:Expr) where
 F:Fi
 vs:List Nat
 ok:E2 it=true/\∀ E X M,Env' E S->XS E S X M->PI X tg it (tI M F vs)
def VJ {S:Sx}{tg} (d:Dn) (it:Expr):Option (RI S tg it):=Cb (E2 it) λ h=>(d S it).bind λ r=>some ⟨CJ r.f,r.vs,h,λ _ _ _ v xs=>Iv (W8 (r.pe v xs)) λ _ _ _ q=>xs.k ▸ VW q⟩
def SW {S:Sx}{tg} (d:Dn) (x p es q):Option (RI S tg (.Call (.Name x p) es [] q)):=if h:x = "range" then Cb (S.glob "range") λ hg=>match es with
 | [a]=>(Ft d [a]).bind λ r=>some ⟨CK Bl r.f,[],rfl,λ E X M v xs=>by
  subst h;have hs:=r.ok.1;simp only [G6,LV,HS] at hs;exact Iv (bh (xs.gl hg) (xs.bn v (by decide +kernel)) (r.ok.2 E X M v xs) (CS hs)) λ _ _ _ q=>jo q⟩
 | [a,b]=>(Ft d [a,b]).bind λ r=>some ⟨CK GQ r.f,[],rfl,λ E X M v xs=>by
  subst h;have hs:=r.ok.1;simp only [G6,LV,HS,AK] at hs;have s2:Bi [b] X.env=[(false,eval b X.env)]:=CS hs.2;exact Iv (bj (xs.gl hg) (xs.bn v (by decide +kernel)) (r.ok.2 E X M v xs) (by rw [CS hs.1,s2]) s2) λ _ _ _ q=>jH q⟩
 | _=>none else none
def SX {S:Sx}{tg} (d:Dn) (x p es q):Option (RI S tg (.Call (.Name x p) es [] q)):=if h:x = "range" then Cb (S.glob "range") λ hg=>match es with
 | [a,b,c]=>(Ft d [a,b,c]).bind λ r=>some ⟨Hf r.f,[],rfl,λ E X M v xs=>by
  subst h;have hs:=r.ok.1;rw [G6,AK] at hs;exact Iv (wN (xs.gl hg) (xs.bn v (by decide +kernel)) (r.ok.2 E X M v xs) (CS hs.1) (K3 hs.2)) λ _ _ _ q=>jn q⟩
 | _=>none else none
def zX {S:Sx}{tg} (d:Dn) (x p es q):Option (RI S tg (.Call (.Name x p) es [] q)):=if h:x = "reversed" then Cb (S.glob "reversed") λ hg=>match es with
 | [a]=>(Ft d [a]).bind λ r=>some ⟨Df .rev r.f,r.vs,rfl,λ E X M v xs=>by
  subst h;have hs:=r.ok.1;simp only [G6,LV,HS] at hs;exact Iv (jP (xs.gl hg) (xs.bn v (by decide +kernel)) (r.ok.2 E X M v xs) (CS hs)) λ _ _ _ q=>xs.k ▸ Jf q⟩
 | _=>none else none
def zW {S:Sx}{tg} (d:Dn) (x p es q):Option (RI S tg (.Call (.Name x p) es [] q)):=if h:x = "enumerate" then Cb (S.glob "enumerate") λ hg=>match tg,es with
 | .Tuple _ _ _,[a]=>(Ft d [a]).bind λ r=>some ⟨Df .enm r.f,r.vs,rfl,λ E X M v xs=>by
  subst h;have hs:=r.ok.1;simp only [G6,LV,HS] at hs;exact Iv (wO (xs.gl hg) (xs.bn v (by decide +kernel)) (r.ok.2 E X M v xs) (CS hs)) λ _ _ _ q=>xs.k ▸ Jf q⟩
 | _,_=>none else none
def zY {S:Sx}{tg} (d:Dn) (x p es q):Option (RI S tg (.Call (.Name x p) es [] q)):=if h:x = "zip" then Cb (S.glob "zip") λ hg=>match tg,es with
 | .Tuple _ _ _,[a,b]=>(Ft d [a,b]).bind λ r=>some ⟨Df .zp r.f,r.vs,rfl,λ E X M v xs=>by
  subst h;have hs:=r.ok.1;simp only [G6,LV,HS,AK] at hs;have s2:Bi [b] X.env=[(false,eval b X.env)]:=CS hs.2;exact Iv (jQ (xs.gl hg) (xs.bn v (by decide +kernel)) (r.ok.2 E X M v xs) (by rw [CS hs.1,s2]) s2) λ _ _ _ q=>xs.k ▸ Jf q⟩
 | _,_=>none else none
abbrev In:=Dn->∀ (S:Sx) (tg it:Expr),Option (RI S tg it)
def AU:Fb:=λ ρ=>.ok (true,ρ)
structure RT (S:Sx) (ifs:List Expr) where
 f:Fb
 ok:∀ E X (P:Fm->Prop),Env' E S->(∃ M,P M)->(∀ M,P M->XS E S X M)->Jn X ifs λ σ H Q=>∃ M,P M/\tT M f σ H Q
def Tr {S:Sx} (d:Dn):∀ ifs,Option (RT S ifs)
 | []=>some ⟨AU,λ _ _ _ _ _ _ pins s σ H Q I ⟨_,_,_,_,_,q⟩=>wY pins s σ H Q I (q rfl H Le.refl)⟩
 | [c]=>(d S c).bind λ r=>some ⟨bT r.f,λ _ _ _ v _ xs pins s σ H Q I ⟨M,hM,q⟩=>wZ (r.pt v (xs M hM)) pins s σ H Q I q⟩
 | _=>none
section
variable {E:Wd}{S:Sx}{X:Cx}{M:Fm}
theorem UX {X':Cx}:∀ {es:List Expr}{ys:List Str}{n:Nat},MB es=some ys->X'.N.Nodup->(∀ j y,ys[j]?=some y->X'.N[n + j]?=some y)->(∀ y∈ys,Hv X'.env.scope y/\(X'.fn y=true\/X'.env.scope.names.lookup y=some .local))->Kn X' es (JA (IV n ys.length))/\(ED es X'.env).length=ys.length/\(ED es X'.env).findIdx? (·.1)=none
 | [],ys,n,h,_,_,_=>by cases h;exact ⟨X5,rfl,rfl⟩
 | e::es,ys,n,h,hN,hi,hl=>by
  unfold MB at h;split at h
  ·cases ‹_::_=[]›
  ·rename_i x px r heq;cases heq;obtain ⟨zs,h2,rfl⟩:=jc0.mp h;have hx:=hl x AM;obtain ⟨h1,h3,h4⟩:=UX (n:=n + 1) h2 hN (λ j y e=>by rw [show n + 1 + j=n + (j + 1) by omega];exact hi (j + 1) y (by simpa using e)) λ y hy=>hl y (AO _ hy);rw [B8,Z9];refine ⟨YB (MD hN (by have:=hi 0 x rfl;simpa using this) hx.1 hx.2) h1 rfl,by rw [ED,B8,h3] <;> (intros;contradiction),?_⟩;rw [ED,ZL,h4] <;> first | rfl | (intros;contradiction)
  ·cases h
def Lj (n:Nat) (vI vE:List Nat):List Nat:=vI++vE.filter (λ i=>decide (i < n))
theorem Pk:∀ {is:List Nat}{ys:List PV}{ρ ρ' ρ0:Af}{n:Nat},B0 is ys ρ=some ρ'->(∀ i∈is,n<=i)->ρ.take n=ρ0->ρ'.take n=ρ0
 | [],[],_,_,_,_,e,_,h=>by cases e;exact h
 | [],_::_,_,_,_,_,e,_,_=>by cases e
 | _::_,[],_,_,_,_,e,_,_=>by cases e
 | i::is,y::ys,ρ,ρ',ρ0,n,e,hi,h=>by
  obtain ⟨ρ1,e1,e2⟩:=jh7.mp e;refine Pk e2 (λ j hj=>hi j (AO _ hj)) ?_;unfold asgN at e1;split at e1
  ·cases e1;rw [List.take_set_of_le (hi i AM)];exact h
  ·cases e1
def Uz {scope:Bu}{tg:Expr}{ys:List Str}{asg:PV->Af->Option Af}{it elt:Expr}{ifs:List Expr} (ri:RI S tg it) (ht:NJ S.N.length tg=some (ys,asg)) (ck:KS S scope ys ri.vs=true) (rt:RT (BO S scope ys ri.vs) ifs) (re:R (BO S scope ys ri.vs) elt) (v:Env' E S) (xs:XS E S X M):
  ∃ wi gg tc te,PI X tg it wi/\CompOk X scope (BO S scope ys ri.vs).N ys.length/\(∀ s2 H2 C fp pins,PG (B2 X s2 H2 scope C (BO S scope ys ri.vs).N fp pins) tg gg)/\(∀ s2 H2 C fp pins,Jn (B2 X s2 H2 scope C (BO S scope ys ri.vs).N fp pins) ifs tc) /\
   (∀ s2 H2 C fp pins,PE (B2 X s2 H2 scope C (BO S scope ys ri.vs).N fp pins) elt te)/\∀ σ H Q,σ.length=S.N.length->tE M (Ec ri.F ys.length asg rt.f re.f) (Lj S.N.length ri.vs re.vs) σ H Q->Oa ys.length wi gg tc te σ H Q:=by
 have c:=jc ck;have v':Env' E (BO S scope ys ri.vs):=⟨v.bn,v.gs,v.gx⟩
 have hin:∀ s2 H2 C fp pins M',(∃ D,Inn M D S.N.length ri.vs M')->XS E (BO S scope ys ri.vs) (B2 X s2 H2 scope C (BO S scope ys ri.vs).N fp pins) M':=λ s2 H2 C fp pins M' ⟨D,inn⟩=>c.xs xs inn s2 H2 C fp pins;have ex:∃ M',∃ D,Inn M D S.N.length ri.vs M':=⟨⟨M.K,_,M.H₀,_,_,_,true,M.E⟩,0,⟨rfl,rfl,rfl,rfl,rfl⟩⟩
 have hix:∀ j y,ys[j]?=some y->(BO S scope ys ri.vs).N[S.N.length + j]?=some y:=λ j y e=>by
  show (IK _ 0 S.N++ys)[S.N.length + j]?=some y;rw [FG (by rw [Kz];omega),Kz];simpa using e
 have hloc:∀ s2 H2 C fp pins,∀ y∈ys,Hv (B2 X s2 H2 scope C (BO S scope ys ri.vs).N fp pins).env.scope y/\((B2 X s2 H2 scope C (BO S scope ys ri.vs).N fp pins).fn y=true\/(B2 X s2 H2 scope C (BO S scope ys ri.vs).N fp pins).env.scope.names.lookup y=some .local):=λ s2 H2 C fp pins y hy=>by
  have e:(B2 X s2 H2 scope C (BO S scope ys ri.vs).N fp pins).env.scope=Fo scope S.sc:=by
   show HJ scope X.env=_;rw [Pd,xs.sc]
  rw [e];rcases c.loc y hy with z | z
  ·exact ⟨.inl z,.inr z⟩
  ·exact ⟨.inr z.1,.inl (by show scope.names.contains (y,NameKind.cell)=true;simpa using z.2)⟩
 have gal:∀ {D M'} (_:Inn M D S.N.length ri.vs M') (i),S.N.length<=i->M'.al i=ri.vs/\M'.gh≠some i:=λ inn i hi=>⟨by rw [inn.al];exact if_neg (by omega),λ e=>by rw [inn.gh,xs.gh] at e;exact absurd (c.gh i e) (by omega)⟩
 have tgp:∃ is gg,(∀ i∈is,S.N.length<=i)/\(∀ D M',Inn M D S.N.length ri.vs M'->FH M' ri.vs is gg asg)/\(∀ s2 H2 C fp pins,PG (B2 X s2 H2 scope C (BO S scope ys ri.vs).N fp pins) tg gg)/\∀ (ρ:Af) y ρ',ρ.length=S.N.length->asg y (ρ++A9 ys.length none)=some ρ'->ρ'.take S.N.length=ρ:=by
  unfold NJ at ht;split at ht
  ·rename_i y py;cases ht;refine ⟨[S.N.length],GR S.N.length,λ i hi=>by rw [jd0.mp hi];exact A4 _,λ D M' inn=>Rw (gal inn _ (A4 _)).1 (gal inn _ (A4 _)).2,λ s2 H2 C fp pins=>?_,λ ρ z ρ' hl e=>?_⟩
   ·exact MD c.nd (hix 0 y rfl) (hloc s2 H2 C fp pins y (by simp)).1 (hloc s2 H2 C fp pins y (by simp)).2
   ·refine Pk (ρ:=ρ++A9 [y].length none) (is:=[S.N.length]) (ys:=[z]) ?_ (λ i hi=>by rw [jd0.mp hi];exact A4 _) (by rw [<- hl];exact Zy);exact jh7.mpr ⟨_,e,rfl⟩
  ·rename_i es k tp;obtain ⟨zs,h2,e⟩:=jc0.mp ht;cases e;have hr:∀ i∈IV S.N.length ys.length,S.N.length<=i:=λ i hi=>(List.mem_range'_1.mp hi).1;refine ⟨IV S.N.length ys.length,Jh M.K ys.length (JA (IV S.N.length ys.length)),hr,λ D M' inn=>?_,λ s2 H2 C fp pins=>?_,λ ρ z ρ' hl e=>?_⟩
   ·have:=QW (M:=M') (vs:=ri.vs) (is:=IV S.N.length ys.length) λ i hi=>gal inn i (hr i hi)
    rw [List.length_range',inn.K] at this;exact this
   ·obtain ⟨h1,h3,h4⟩:=UX (X':=B2 X s2 H2 scope C (BO S scope ys ri.vs).N fp pins) (n:=S.N.length) h2 c.nd hix (hloc s2 H2 C fp pins)
    have:=R9 (X:=B2 X s2 H2 scope C (BO S scope ys ri.vs).N fp pins) (pos:=tp) (k:=k) xs.calm h1 h3 h4
    have e:(B2 X s2 H2 scope C (BO S scope ys ri.vs).N fp pins).K=M.K:=xs.k.symm;rw [e] at this;exact this
   ·unfold asgT at e;split at e
    ·exact Pk e hr (by rw [<- hl];exact Zy)
    ·cases e
  ·cases ht
 obtain ⟨is,gg,his,hg,hpg,hk⟩:=tgp;refine ⟨_,gg,_,λ σ H Q=>∃ M',(∃ D,Inn M D S.N.length ri.vs M')/\tE M' re.f re.vs σ H Q,ri.ok.2 E X M v xs,c.comp xs,hpg,λ s2 H2 C fp pins=>rt.ok E _ (λ M'=>∃ D,Inn M D S.N.length ri.vs M') v' ex (hin s2 H2 C fp pins),λ s2 H2 C fp pins pi s σ H Q I ⟨M',m',q⟩=>re.pe v' (hin s2 H2 C fp pins M' m') pi s σ H Q I q,λ σ H Q hl q=>?_⟩;exact uO hl (λ D M' inn=>⟨D,inn⟩) hg hk his (λ i h1 h2=>CM _ (je4.mpr ⟨h1,by simpa using h2⟩)) q
def kC {e:Expr}{t t':TE} (h:PE X e t) (i:∀ σ H Q,σ.length=X.N.length->t' σ H Q->t σ H Q):PE X e t':=λ pins s σ H Q I q=>h pins s σ H Q I (i σ H Q I.len q)
def jT {e:Stmt}{t t':TS} (h:PS X e t) (i:∀ D σ H,σ.length=X.N.length->t' D σ H->t D σ H):PS X e t':=λ pins s σ H D I q=>h pins s σ H D I (i D σ H I.len q)
end
structure RC (S:Sx) (elt tg it:Expr) (ifs:List Expr) (scope:Bu) where
 ys:List Str
 asg:PV->Af->Option Af
 ri:RI S tg it
 ht:NJ S.N.length tg=some (ys,asg)
 ck:KS S scope ys ri.vs=true
 rt:RT (BO S scope ys ri.vs) ifs
 re:R (BO S scope ys ri.vs) elt
def RC.f {S elt tg it ifs scope} (c:RC S elt tg it ifs scope):Fx:=Ec c.ri.F c.ys.length c.asg c.rt.f c.re.f
def RC.vs {S elt tg it ifs scope} (c:RC S elt tg it ifs scope):List Nat:=Lj S.N.length c.ri.vs c.re.vs
def Wv {S:Sx} (i:In) (d:Dn) (elt tg it ifs scope):Option (RC S elt tg it ifs scope):=Ba (NJ S.N.length tg) λ ya ht=>(i d S tg it).bind λ ri=>Cb (KS S scope ya.1 ri.vs) λ ck=>(Tr d ifs).bind λ rt=>(d _ elt).bind λ re=>some ⟨ya.1,ya.2,ri,ht,ck,rt,re⟩
def xV {S:Sx} (i:In) (d:Dn) (elt tg it ifs scope p):T S (.ListComp elt [⟨tg,it,ifs,0⟩] scope p):=(Wv i d elt tg it ifs scope).bind λ c=>some ⟨c.f,c.vs,Dq rfl (λ _ _=>rfl) λ E X M v xs=>by
 obtain ⟨wi,gg,tc,te,h1,h2,h3,h4,h5,h6⟩:=Uz c.ri c.ht c.ck c.rt c.re v xs;exact kC (X4 h2 xs.calm h1 h3 h4 h5 (KU c.ri.ok.1)) λ σ H Q hl q=>h6 σ H Q (by rw [hl,xs.N]) q⟩
def EV (c:Fb) (b:Fs):Nat->Fs
 | 0,_=>.no
 | n + 1,ρ=>match c ρ with
  | .ok (true,ρ1)=>(match b ρ1 with
   | .nx ρ2=>EV c b n ρ2
   | .ct ρ2=>EV c b n ρ2
   | .bk ρ2=>.nx ρ2
   | .rt x d ρ2=>.rt x d ρ2
   | .exc e=>.exc e
   | .no=>.no)
  | .ok (false,ρ1)=>.nx ρ1
  | .exc e=>.exc e
  | .no=>.no
def RH (c:Fb) (b:Fs):Fs:=EV c b 300
def II (g:Int->Int->Int) (sd:Bool) (i:Nat) (f:Fx):Fs:=λ ρ=>match ρ[i]? with
 | some (some (.int a,_))=>(match f ρ with
  | .ok (.int b,_,ρ1)=>if i < ρ1.length then .nx (ρ1.set i (some (.int (g a b),om))) else .no
  | .ok _=>.no
  | .exc c=>.exc c
  | .no=>.no)
 | some (some (.str a,_))=>(match f ρ with
  | .ok (.str b,_,ρ1)=>if i < ρ1.length/\sd=true/\a.length + b.length<=Aw then .nx (ρ1.set i (some (.str (a++b),om))) else .no
  | .ok _=>.no
  | .exc c=>.exc c
  | .no=>.no)
 | _=>.no
def OI (g:Int->Int->Int) (sd:Bool):Jm:=λ x y H Q=>OJ g x y H Q\/(sd=true/\∃ i j,x=.str i/\y=.str j/\i.length + j.length<=Aw/\Q (.str (i++j)) H)
def wb {X:Cx}:Jo X .Add (OI (λ i j=>i + j) true):=by
 intro pins s σ H x y v u Q I rx ry h;rcases h with h | ⟨_,h⟩
 ·exact WX pins s σ H x y v u Q I rx ry h
 ·exact dD pins s σ H x y v u Q I rx ry h
def wc {X:Cx}:Jo X .Sub (OI (λ i j=>i - j) false):=by
 intro pins s σ H x y v u Q I rx ry h;rcases h with h | ⟨z,_⟩
 ·exact WY pins s σ H x y v u Q I rx ry h
 ·cases z
def Y1 {X:Cx}:Mu X (Hh X.K):=by
 intro pins s σ H o i ov iv Q I rx ry h;obtain ⟨p,xs,k,z,rfl,rfl,hq,he,q⟩:=h;cases rx;obtain ⟨t,rfl⟩:=ry;obtain ⟨its,r,pl,hz⟩:=I.list hq;obtain ⟨j,h1,h2,h3,h4,h5⟩:=MU he;obtain ⟨w,ew,rw'⟩:=r.get h2;have hl:=r.length;have hn:=Ir;have fin:EP X pins σ Q w s:=⟨z,H,I,rw',q⟩
 by_cases h0:0<=k
 ·have hj:k.toNat=j:=by
   rw [Nc h0 h5] at h1;exact Option.some.inj h1
  exact wpAny_getItem_list pl.isList h0 (by omega) (by rw [hj];simpa using ew) fin
 ·have hj:(k + (its.toArray.size:Int)).toNat=j:=by
   rw [seqIndex_neg (by omega) h4] at h1;rw [BC,<- hl];exact Option.some.inj h1
  exact wpAny_getItem_list_neg pl.isList (by omega) (by rw [BC] <;> omega) (by omega) (by rw [hj];simpa using ew) fin
def B4 (asg:PV->Af->Option Af) (f:Fx) (vs:List Nat):Fs:=λ ρ=>match f ρ with
 | .ok (x,d,ρ1)=>(match asg x (Bb d vs ρ1) with
  | some ρ2=>.nx ρ2
  | none=>.no)
 | .exc c=>.exc c
 | .no=>.no
def IH (c:Nat):Fs:=λ _=>.exc c
def Hg:Fs:=λ _=>.no
section
variable {M:Fm}{ρ ρ':Af}{σ σ':St}{H H' H0 H1:Hp}{g g' g1:Os}{vs vs' is:List Nat}{K:Kx}{Z Z' G G':Addr->Prop}{x y:PV}{d i j:Nat}{v w:V}{a:Addr}{f f' fi fj:Fx}{fa:Fa}{fb:Fb}{D:Ends}{R:Rs}{xs:List PV}{ws:List V}{tg:TG}{asg:PV->Af->Option Af}
def jt {t:TS} (hq:tS M Hg D σ H):t D σ H:=let ⟨_,_,_,q⟩:=hq;q.elim
def kO {c:Nat} (hq:tS M (IH c) D σ H):M.W σ c H:=let ⟨_,_,r,q⟩:=hq;r.exc (D:=D) q Le.refl
def kW (hal:∀ i,M.al i=[]) (hg:FH M [] is tg asg) (hq:tS M (B4 asg f vs) D σ H):Ff (tE M f vs) tg D σ H:=by
 obtain ⟨ρ,g,rep,q⟩:=hq;unfold B4 at q;refine BV rep q (λ _ e=>by rw [e]) (λ e=>by rw [e]) λ x d v H1 e l r t=>?_;rw [e] at q;dsimp only at q;split at q
 ·rename_i ρ2 ea;obtain ⟨g1,r1,ek,h1⟩:=r.cooled hal d vs;exact hg x v _ σ H1 g1 ρ2 _ r1 (ek ▸ (rep.vw t).weak λ a=>JF h1 rep.zt (.inr (by decide))) ea λ σ' g' r' _ _=>q σ' H1 g' r'
 ·exact q.elim
def Rep.atom {u:V} (r:Rep M ρ σ H g) (hg:M.gh≠some i) (hi:i < ρ.length) (e:sV x=some u) (k:Le H H1):∃ g',Rep M (ρ.set i (some (x,om))) (σ.set i (some u)) H1 g':=
 ⟨_,r.write (G':=λ _=>False) (Z:=M.zN g i om) k (λ a o e=>.inl e) hi hg (.inl rfl) (λ _ h=>h.elim) (.inl ⟨(by cases x <;> first | rfl | cases e),λ _ h=>h,.ofs e⟩) λ a h=>h.resolve_right id⟩
def kN {gg:Int->Int->Int}{sd:Bool} (hg:M.gh≠some i) (hq:tS M (II gg sd i f) D σ H):Lq i (tE M f vs) (OI gg sd) D σ H:=by
 obtain ⟨ρ,g,rep,q⟩:=hq;unfold II at q;split at q
 ·rename_i a d0 e0;obtain ⟨v,hσ,o⟩:=rep.var hg e0;rw [o.sv rfl] at hσ;refine ⟨_,hσ,BV rep q (λ _ e=>by rw [e]) (λ e=>by rw [e]) λ y e w H1 ef l r t=>?_⟩;rw [ef] at q;cases y <;> first | exact q.elim | skip
  rw [(rep.vw t).sv rfl];refine .inl ⟨a,_,rfl,rfl,?_⟩;dsimp only at q;split at q
  ·rename_i hl;obtain ⟨g',r'⟩:=r.atom (x:=.int _) hg hl rfl Le.refl;exact q _ _ g' r'
  ·exact q.elim
 ·rename_i a d0 e0;obtain ⟨v,hσ,o⟩:=rep.var hg e0;rw [o.sv rfl] at hσ;refine ⟨_,hσ,BV rep q (λ _ e=>by rw [e]) (λ e=>by rw [e]) λ y e w H1 ef l r t=>?_⟩;rw [ef] at q;cases y <;> first | exact q.elim | skip
  rw [(rep.vw t).sv rfl];dsimp only at q;split at q
  ·rename_i hl;obtain ⟨g',r'⟩:=r.atom (x:=.str _) hg hl.1 rfl Le.refl;exact .inr ⟨hl.2.1,a,_,rfl,rfl,hl.2.2,q _ _ g' r'⟩
  ·exact q.elim
 ·exact q.elim
theorem uP {n:Nat}{c:Fb}{b:Fs} (hq:tS M (EV c b n) D σ H):WJ (tT M c) (tS M b) D σ H:=by
 refine ⟨λ m σ H=>tS M (EV c b m) D σ H,⟨n,hq⟩,?_⟩;rintro m σ H ⟨ρ,g,rep,q⟩;cases m with
 | zero=>exact q.elim
 | succ m=>
  unfold EV at q;refine Mt rep q (λ _ e=>by rw [e]) (λ e=>by rw [e]) λ bb H1 e l r=>?_;rw [e] at q;cases bb with
  | false=>
   rw [if_neg BK];exact q σ H1 g r
  | true=>
   rw [if_pos rfl];refine ⟨λ σ H=>tS M (EV c b m) D σ H,λ σ' H' w=>⟨m,Gd m,w⟩,ρ,g,r,?_⟩;dsimp only at q;revert q;cases b ρ with
   | nx ρ2=>exact λ q σ' H' g' r'=>⟨ρ2,g',r',q⟩
   | ct ρ2=>exact λ q σ' H' g' r'=>⟨ρ2,g',r',q⟩
   | _=>exact id
def Kd (d:Nat) (xs:List PV):Bool:=d != om || tf xs
theorem Yy (h:DD y=true):AV y=false:=by
 cases e:AV y with
 | false=>rfl
 | true=>rw [YF e] at h;cases h
def kZ (h:tf xs=true) (hy:(DD y || AV y)=true):tf (xs.set j y)=true:=zyz.mpr λ x hx=>(List.mem_or_eq_of_mem_set hx).elim (zyz.mp h x) λ e=>e ▸ hy
def Ds.set (hy:AV y=false) (h:Ds xs ws):Ds (xs.set j y) (ws.set j w):=by
 have sp:∀ {k:Nat}{z:PV}{r:Addr},(xs.set j y)[k]?=some z->AV z=true->(ws.set j w)[k]?=some (V.ref r)->xs[k]?=some z/\ws[k]?=some (V.ref r):=λ {k z r} e hz h=>by
  by_cases hk:j=k
  ·subst hk;have hl:=(jb0.mp e).1;rw [Gh (by simpa using hl)] at e;cases e;rw [hy] at hz;cases hz
  ·rw [Gf hk] at e h;exact ⟨e,h⟩
 exact λ i k r x z e1 e2 r1 r2 h1 h2=>h i k r x z (sp e1 r1 h1).1 (sp e2 r2 h2).1 r1 r2 (sp e1 r1 h1).2 (sp e2 r2 h2).2
def Rep.setF (r:Rep M ρ σ H g) (hal:∀ i,M.al i=[]) (hg:M.gh≠some i) (es:ρ[i]?=some (some (.lst xs,d))) (hσ:σ[i]?=some (some (.ref a))) (ga:g.ow i a) (ha:H a=some (.lst ws)) (p:Bv (El (M.k g) H (M.z g (M.al i) d) (g.ow i) a (Bn d xs)) xs ws) (ds:Bn d xs=true->Ds xs ws) (hd:d≠0) (ht:Kd d xs=true) (l:Le H H1) (hy:DD y=true) (o:Is (M.k g) H1 Z y w):
  ∃ g',Rep M (ρ.set i (some (.lst (xs.set j y),d))) σ (As H1 a (.lst (ws.set j w))) g':=by
 have hi:=(jb0.mp es).1;by_cases e:d=om
 ·subst e;have ht:tf xs=true:=by simpa [Kd] using ht
  rw [zwo.mpr ⟨rfl,ht⟩] at p;refine r.relR hal hg hi hσ ga l (l a _ ha) (kZ ht (by rw [hy];rfl)) (λ b h=>.inl h) ga (λ b h=>let ⟨o,m,e⟩:=r.owned h;⟨o,m,l b o e⟩) (Paired.set (.inl ⟨by rw [Yy hy];rfl,o.flat hy⟩) j (L2.Paired.mapP p λ _ _ h=>h.move l.kp .rf (λ b o _ _=>l b o) (λ b q=>.inl ?_) λ _ h=>h)) (Ds.set (Yy hy) (ds (zwo.mpr ⟨rfl,ht⟩)));exact q.elim Fm.zN_z λ q=>.inl ⟨i,q,.inl rfl⟩
 ·exact r.relV hal hg hi hσ ga l (l a _ ha) trivial (by simp [Bo,Cg,hd]) ⟨rfl,rfl⟩ (λ h=>absurd (zwo.mp h).1 e) (Paired.set (o.flat hy) j (IsL.up l (r.oldV hal ga (.inl rfl) p)))
end
section
variable {X:Cx}
theorem CQ {K:Kx}{H:Hp}{zz:Nat->Addr->Prop}{x:PV}{d:Nat}{ws:List V} (t:Bv (λ (p:PV×Nat) v=>Is K H (zz p.2) p.1 v) [(x,d)] ws):∃ w,ws=[w]/\Is K H (zz d) x w:=by
 cases t with
 | cons h t=>cases t;exact ⟨_,rfl,h⟩
theorem RU {K:Kx}{H:Hp}{zz:Nat->Addr->Prop}{x y:PV}{d e:Nat}{ws:List V} (t:Bv (λ (p:PV×Nat) v=>Is K H (zz p.2) p.1 v) [(x,d),(y,e)] ws):∃ w u,ws=[w,u]/\Is K H (zz d) x w/\Is K H (zz e) y u:=by
 cases t with
 | cons h t=>obtain ⟨u,rfl,h'⟩:=CQ t;exact ⟨_,u,rfl,h,h'⟩
def zh:FK X CC λ xs H Q=>(∃ p ys,xs=[.ref p]/\(Bd X.K H p ys\/SqT X.K H p ys)/\Q (.int ys.length) H)\/∃ z,xs=[.str z]/\z.length<=Aw/\Q (.int z.length) H:=by
 intro K xs z c ws H Q zz hk ho zk t lf;unfold CC at ho;split at ho
 ·cases ho;obtain ⟨w,rfl,o⟩:=CQ t;obtain ⟨p,ws,rfl,_,hp,l⟩:=o.lst;exact .inl ⟨p,ws,rfl,.inl (.inl (.inl hp)),by rw [l.length];exact lf.sv rfl⟩
 ·cases ho;obtain ⟨w,rfl,o⟩:=CQ t;obtain ⟨p,ws,rfl,hp,l⟩:=o.tupE;exact .inl ⟨p,ws,rfl,.inr (.inl (.inl hp)),by rw [l.length];exact lf.sv rfl⟩
 ·rename_i ns d;cases ho;obtain ⟨w,rfl,o⟩:=CQ t;obtain ⟨p,rfl,hp⟩:=o.scr;refine .inl ⟨p,ns.map V.int,rfl,.inl ?_,by rw [AJ];exact lf.sv rfl⟩;rw [<- hk];exact hp.elim (λ h=>.inl (.inr h)) .inr
 ·split at ho
  ·rename_i hl;cases ho;obtain ⟨w,rfl,o⟩:=CQ t;exact .inr ⟨_,by rw [o.sv rfl],hl,lf.sv rfl⟩
  ·cases ho
 ·cases ho
def xM:BR:=⟨"len",CC,by decide +kernel,by decide +kernel,by decide +kernel,λ X _ _=>⟨_,_,.inl ⟨_,rfl⟩,PySem.boot_len,zhp.or xq,zh⟩⟩
def ze:FK X EW λ xs H Q=>∃ (p:Addr) (bs:List Bool),xs=[.ref p]/\Bd X.K H p (bs.map V.bl)/\Q (.bl (bs.all id)) H:=by
 intro K xs z c ws H Q zz hk ho zk t lf;unfold EW at ho;split at ho
 ·obtain ⟨bs,eb,e⟩:=jc0.mp ho;cases e;obtain ⟨w,rfl,o⟩:=CQ t;obtain ⟨p,ws,rfl,_,hp,l⟩:=o.lst;exact ⟨p,bs,rfl,.inl (.inl (by rw [<- vt eb l];exact hp)),lf.sv rfl⟩
 ·cases ho
def xJ:BR:=⟨"all",EW,by decide +kernel,by decide +kernel,by decide +kernel,λ X hc _=>⟨_,_,.inl ⟨_,rfl⟩,rfl,uy hc,ze⟩⟩
def zo:FK X CD λ xs H Q=>(∃ (p:Addr) (ns:List Int),xs=[.ref p]/\Bd X.K H p (ns.map V.int)/\Eh ns=true/\Q (.int ns.sum) H)\/∃ (p:Addr) (ns:List Int),xs=[.ref p]/\SqT X.K H p (ns.map V.int)/\Q (.int ns.sum) H:=by
 intro K xs z c ws H Q zz hk ho zk t lf;unfold CD at ho;split at ho
 ·split at ho
  ·rename_i ns en;split at ho
   ·rename_i hs;cases ho;obtain ⟨w,rfl,o⟩:=CQ t;obtain ⟨p,ws,rfl,_,hp,l⟩:=o.lst;exact .inl ⟨p,ns,rfl,.inl (.inl (by rw [<- Hx en l];exact hp)),hs,lf.sv rfl⟩
   ·cases ho
  ·cases ho
 ·split at ho
  ·rename_i ns en;cases ho;obtain ⟨w,rfl,o⟩:=CQ t;obtain ⟨p,ws,rfl,hp,l⟩:=o.tupE;exact .inr ⟨p,ns,rfl,.inl (.inl (by rw [<- Hx en l];exact hp)),lf.sv rfl⟩
  ·cases ho
 ·cases ho
def xP:BR:=⟨"sum",CD,by decide +kernel,by decide +kernel,by decide +kernel,λ X hc _=>⟨_,_,.inl ⟨_,rfl⟩,rfl,(g6 hc).or (g9 hc),zo⟩⟩
def zj:FK X IM λ xs H Q=>((∃ (p:Addr) (ns:List Int),xs=[.ref p]/\Bd X.K H p (ns.map V.int)/\ns≠[]/\∀ m,m∈ns->(∀ a∈ns,m<=a)->Q (.int m) H)\/(∃ (p:Addr) (ns:List Int),xs=[.ref p]/\SqT X.K H p (ns.map V.int)/\ns≠[]/\∀ m,m∈ns->(∀ a∈ns,m<=a)->Q (.int m) H))\/∃ i j,xs=[.int i,.int j]/\Q (.int (if j < i then j else i)) H:=by
 intro K xs z c ws H Q zz hk ho zk t lf;unfold IM at ho;split at ho
 ·split at ho
  ·rename_i n r en;cases ho;obtain ⟨w,rfl,o⟩:=CQ t;obtain ⟨p,ws,rfl,_,hp,l⟩:=o.lst;exact .inl (.inl ⟨p,n::r,rfl,.inl (.inl (by rw [<- Hx en l];exact hp)),by simp,λ m h1 h2=>by rw [U2 h1 h2 (Pm r n) (Sf r n)];exact lf.sv rfl⟩)
  ·cases ho
 ·split at ho
  ·rename_i n r en;cases ho;obtain ⟨w,rfl,o⟩:=CQ t;obtain ⟨p,ws,rfl,hp,l⟩:=o.tupE;exact .inl (.inr ⟨p,n::r,rfl,.inl (.inl (by rw [<- Hx en l];exact hp)),by simp,λ m h1 h2=>by rw [U2 h1 h2 (Pm r n) (Sf r n)];exact lf.sv rfl⟩)
  ·cases ho
 ·unfold Ox at ho;split at ho
  ·cases ho;obtain ⟨w,u,rfl,o,o'⟩:=RU t;exact .inr ⟨_,_,by rw [o.sv rfl,o'.sv rfl],lf.sv rfl⟩
  ·cases ho
def xO:BR:=⟨"min",IM,by decide +kernel,by decide +kernel,by decide +kernel,λ X hc _=>⟨_,_,.inl ⟨_,rfl⟩,rfl,((gz hc).or (g0 hc)).or (gy hc),zj⟩⟩
def zi:FK X Ka λ xs H Q=>((∃ (q:Addr) (n:Int) (r:List Int),xs=[.ref q]/\Bd X.K H q ((n::r).map V.int)/\Q (.int (Ci n r)) H)\/(∃ (q:Addr) (n:Int) (r:List Int),xs=[.ref q]/\SqT X.K H q ((n::r).map V.int)/\Q (.int (Ci n r)) H))\/∃ i j,xs=[.int i,.int j]/\Q (.int (if j > i then j else i)) H:=by
 intro K xs z c ws H Q zz hk ho zk t lf;unfold Ka at ho;split at ho
 ·split at ho
  ·rename_i n r en;cases ho;obtain ⟨w,rfl,o⟩:=CQ t;obtain ⟨p,ws,rfl,_,hp,l⟩:=o.lst;exact .inl (.inl ⟨p,n,r,rfl,.inl (.inl (by rw [<- Hx en l];exact hp)),lf.sv rfl⟩)
  ·cases ho
 ·split at ho
  ·rename_i n r en;cases ho;obtain ⟨w,rfl,o⟩:=CQ t;obtain ⟨p,ws,rfl,hp,l⟩:=o.tupE;exact .inl (.inr ⟨p,n,r,rfl,.inl (.inl (by rw [<- Hx en l];exact hp)),lf.sv rfl⟩)
  ·cases ho
 ·unfold Ox at ho;split at ho
  ·cases ho;obtain ⟨w,u,rfl,o,o'⟩:=RU t;exact .inr ⟨_,_,by rw [o.sv rfl,o'.sv rfl],lf.sv rfl⟩
  ·cases ho
def xN:BR:=⟨"max",Ka,by decide +kernel,by decide +kernel,by decide +kernel,λ X hc _=>⟨_,_,.inl ⟨_,rfl⟩,rfl,((gq hc).or (gw hc)).or (gk hc),zi⟩⟩
def zc:FK X QS λ xs H Q=>∃ i:Int,xs=[.int i]/\Q (.int (if i < 0 then -i else i)) H:=by
 intro K xs z c ws H Q zz hk ho zk t lf;unfold QS at ho;split at ho
 ·cases ho;obtain ⟨w,rfl,o⟩:=CQ t;exact ⟨_,by rw [o.sv rfl],lf.sv rfl⟩
 ·cases ho
def xI:BR:=⟨"abs",QS,by decide +kernel,by decide +kernel,by decide +kernel,λ X _ _=>⟨_,_,.inl ⟨_,rfl⟩,rfl,gc,zc⟩⟩
def j6:FK X Iu λ xs H Q=>(∃ i,xs=[.int i]/\Q (.int i) H)\/∃ k,xs=[.bl k]/\Q (.int (if k then 1 else 0)) H:=by
 intro K xs z c ws H Q zz hk ho zk t lf;unfold Iu at ho;split at ho
 ·cases ho;obtain ⟨w,rfl,o⟩:=CQ t;exact .inr ⟨_,by rw [o.sv rfl],lf.sv rfl⟩
 ·cases ho;obtain ⟨w,rfl,o⟩:=CQ t;exact .inl ⟨_,by rw [o.sv rfl],lf.sv rfl⟩
 ·cases ho
def xK:BR:=⟨"int",Iu,by decide +kernel,by decide +kernel,by decide +kernel,λ X _ _=>⟨_,_,.inr ⟨_,rfl⟩,rfl,gi,j6⟩⟩
def j7:FK X JC λ xs H Q=>∃ p ys,xs=[.ref p]/\(Bd X.K H p ys\/SqT X.K H p ys)/\∀ l,H l=none->Q (.ref l) (As H l (.lst ys)):=by
 intro K xs z c ws H Q zz hk ho zk t lf;unfold JC at ho;split at ho
 ·cases ho;obtain ⟨w,rfl,o⟩:=CQ t;obtain ⟨p,ws,rfl,_,hp,l⟩:=o.lst;exact ⟨p,ws,rfl,.inl (.inl (.inl hp)),λ q hq=>lf.lstD zk (zk.low l) hq⟩
 ·cases ho;obtain ⟨w,rfl,o⟩:=CQ t;obtain ⟨p,ws,rfl,hp,l⟩:=o.tupE;exact ⟨p,ws,rfl,.inr (.inl (.inl hp)),λ q hq=>lf.lstD zk (zk.low l) hq⟩
 ·cases ho
def ja:BR:=⟨"list",JC,by decide +kernel,by decide +kernel,by decide +kernel,λ X _ _=>⟨_,_,.inr ⟨_,rfl⟩,rfl,xr,j7⟩⟩
def wj:FK X R8 λ xs H Q=>∃ p ys,xs=[.ref p]/\((Bd X.K H p ys/\∀ l,H l=none->Q (.ref l) (As H l (.tup ys)))\/(SqT X.K H p ys/\Q (.ref p) H)):=by
 intro K xs z c ws H Q zz hk ho zk t lf;unfold R8 at ho;split at ho
 ·cases ho;obtain ⟨w,rfl,o⟩:=CQ t;obtain ⟨p,ws,rfl,_,hp,l⟩:=o.lst;exact ⟨p,ws,rfl,.inl ⟨.inl (.inl hp),λ q hq=>lf.tup (zk.low l) hq⟩⟩
 ·cases ho;obtain ⟨w,rfl,o⟩:=CQ t;obtain ⟨p,ws,rfl,hp,l⟩:=o.tupE;exact ⟨p,ws,rfl,.inr ⟨.inl (.inl hp),lf.seen (z:=.tup _) zk o⟩⟩
 ·cases ho
def v9:BR:=⟨"tuple",R8,by decide +kernel,by decide +kernel,by decide +kernel,λ X _ _=>⟨_,_,.inr ⟨_,rfl⟩,rfl,xw,wj⟩⟩
end
section
variable {X:Cx}{W:St->Nat->Hp->Prop}
def u9 (hr:Sm X W) (t:Fd X.K=true) (hcalm:X.calm=true) {c:Nat}{C:Addr}{x m:Str}{np cpos pos p:Pos}{j:_} (e:Dt X.K c=some C) (hg:Gl X x) (hm:X.mg x=some (.ref C)) (hdb:(x == ("__debug__" : Str))=false):
  PS X (.Raise (some (.Call (.Name x np) [.Constant (.str m) j p] [] cpos)) none pos) (λ D σ H=>W σ c H):=by
 intro pins s σ H D I h;obtain ⟨bm,N,nm,q,bs,hdct,sn,sub,ab,col,dd,k0,k1,k2,k3,k5,mN,hC,hN,hni,T,_⟩:=(ju I.ok.mod.kin t e).obj;have FB:=PySem.F.excBase_ValueError;have he:Bi [Expr.Constant (.str m) j p] X.env=(false,eval (.Constant (.str m) j p) X.env)::Bi [] X.env:=rfl;refine wpAny_Raise_call_subU (C:=C) (nm:=nm) (q:=q) (N:=N) (bs:=bs) (bm:=bm) (hdct:=hdct) (sn:=sn) (sub:=sub) (ab:=ab) (col:=col) (dd:=dd) (k0:=k0) (k1:=k1) (k2:=k2) (k3:=k3) (k5:=k5)
  FB (show bmV.contains (.type "ValueError")=true by decide +kernel) FB (mN:=mN) (T.hasType FB.hasBase) (I.ok.hd hcalm) rfl hni (XB I hg hm ⟨rfl,?_⟩ hdb)
 rw [he];refine Calls.evalArgs_plain (Gz ((J1 W7 KN (by rfl)) cpos pins s σ H (λ vs H'=>H'=H/\vs.length=1) I ⟨rfl,rfl⟩) (λ us s2 hu=>?_) λ _ _ y=>y);obtain ⟨vs,H2,I2,rv,eH,hl⟩:=hu;subst eH;refine ⟨rfl,?_,I2.bk _ _ hC,hN.keeps I2.bk,T.keeps I2.bk,λ h' a hx=>hr pins σ H2 s2 c C a h' us I2 e hx h⟩;show us.length<=Aw;rw [<- rv.length,hl];decide
end
section
variable {X:Cx}{pins pins1:List (Addr×Obj)}{σ:St}{H:Hp}{s:Ai}{e:Ae->Ai->Prop}
end
section
variable {M:Model}{A:Bf}{E:Ae->Ai->Prop}{K:Frag}
end
section
variable {X:Cx}{pins:List (Addr×Obj)}{σ:St}{H H1:Hp}{s:Ai}{B:Heap}{a C:Addr}{a0:Ae}{c:Nat}
end
def Ry:Expr->Bool
 | .ListComp ..=>true
 | .SetComp ..=>true
 | .DictComp ..=>true
 | _=>false
structure SM (S:Sx) (X:Cx) (M:Fm):Prop where
 al:∀ i,M.al i=[]
 fn:∀ x,X.fn x=true
 nd:S.N.Nodup
 st:X.stack=X.env::X.outer
 fr:X.env.frame=some X.env.locals
def xH (S:Sx) (st:Stmt) (f:Fs):Prop:=∀ E X M,Env' E S->XS E S X M->SM S X M->PS X st (tS M f)
structure RS (S:Sx) (st:Stmt) where
 f:Fs
 ok:xH S st f
structure RSs (S:Sx) (sts:List Stmt) where
 f:Fs
 ok:∀ E X M,Env' E S->XS E S X M->SM S X M->E4 X sts (tS M f)
abbrev CB (S:Sx) (st:Stmt):=Option (RS S st)
abbrev Sn:=∀ S st,RS S st
def qo {S:Sx} (st:Stmt):RS S st:=⟨Hg,λ _ _ _ _ _ _ pins s σ H D I q=>u7 pins s σ H D I (jt (t:=WI) q)⟩
def Dm {S:Sx} (s:Sn):∀ sts,RSs S sts
 | []=>⟨AB,λ _ _ _ _ _ _=>XX wV λ _ _ _=>kR⟩
 | [t]=>⟨(s S t).f,λ E X M v xs sm=>wW ((s S t).ok E X M v xs sm)⟩
 | t::u::r=>⟨Ag (s S t).f (Dm s (u::r)).f,λ E X M v xs sm=>XX (uB ((s S t).ok E X M v xs sm) ((Dm s (u::r)).ok E X M v xs sm)) λ _ _ _=>kU⟩
def DN (S:Sx) (x:Str):Bool:=CG S.sc x .local || CG S.sc x .cell
section
variable {E:Wd}{S:Sx}{X:Cx}{M:Fm}{x:Str}{i:Nat}
def JB (xs:XS E S X M) (h:DN S x=true):Hv X.env.scope x:=by
 rw [xs.sc];unfold DN at h;rw [Ga] at h;exact h.imp Fp Fp
def IL (xs:XS E S X M) (sm:SM S X M):X.N.Nodup:=by rw [xs.N];exact sm.nd
def XR {e:Expr}{t:Option Expr}{l:Nat}{env:Env} (h:Ry e=false):swapsWith e t l env=pure false:=by
 cases e <;> first | rfl | cases h
def Xo {e:Expr} (h:GN e=true) (env:Env) (cpos:Pos):((Fy cpos (Bi [e] env)).all (λ x=>!x.1) && (backToKw cpos (keywordEach [] env)).all (λ x=>x.1.isSome)
   && decide (([e]:List Expr).length + ([]:List Keyword).length + (if ([]:List Keyword).isEmpty then 0 else 1) < 30))=true:=by
 rw [show Bi [e] env=[(false,eval e env)] from CS h];rfl
end
def Ts {S:Sx} (d:Dn) (s:Sn) (c a b p):CB S (.If c a b p):=(d S c).map λ r=>⟨Bm (bT r.f) (Dm s a).f (Dm s b).f,λ E X M v xs sm=>CP (zB (r.pt v xs) ((Dm s a).ok E X M v xs sm) ((Dm s b).ok E X M v xs sm)) λ _ _ _=>js⟩
def vM {S:Sx} (d:Dn) (s:Sn) (c a p):CB S (.While c a [] p):=(d S c).map λ r=>⟨RH (bT r.f) (Dm s a).f,λ E X M v xs sm=>CP (uA xs.po (r.pt v xs) ((Dm s a).ok E X M v xs sm)) λ _ _ _=>uP⟩
def Th {S:Sx} (d:Dn) (e p):CB S (.Return (some e) p):=match e with
 | .Name x q=>Ba (S.slot x) λ i hi=>some ⟨DY i,λ _ _ _ _ xs sm=>CP (WA (xs.var hi)) λ _ _ _=>yv sm.al (xs.slot hi).2.1⟩
 | e=>(d S e).map λ r=>⟨Az r.f,λ _ _ _ v xs sm=>CP (WA (r.pe v xs)) λ _ _ _=>kT⟩
def zP {S:Sx} (p):CB S (.Return none p):=some ⟨Wb,λ _ _ _ _ _ _=>CP wU λ _ _ _=>yu⟩
def xW {S:Sx} (d:Dn) (f es ks q p):CB S (.Expr (.Call f es ks q) p):=(d S (.Call f es ks q)).map λ r=>⟨CF r.f,λ _ _ _ v xs _=>CP (Sh (r.pe v xs) rfl) λ _ _ _=>yK⟩
def T8 {S:Sx} (d:Dn) (x px at' pa e q p):CB S (.Expr (.Call (.Attribute (.Name x px) at' pa) [e] [] q) p):=if h:at' = "append" then Cb (pa.endLine == q.line) λ hl=>Ba (S.slot x) λ i hi=>(d S e).map λ r=>⟨Cf i r.f r.vs,λ E X M v xs sm=>by
 subst h;exact CP (Sh (Wc (X:=X) (cpos:=q) PySem.F.plainAttrs_list PySem.F.slot_list_append PySem.F.type_list_append UW (xs.var (pos:=px) hi) (J1 (r.pe v xs) KN (CS r.ok.1)) rfl (Xo r.ok.1 X.env q) hl (CS r.ok.1) rfl) rfl) λ D σ H q'=>by
  have:=kM sm.al (xs.slot hi).2.1 q'
  rw [xs.k] at this;exact this⟩ else none
def Tw {S:Sx} (d:Dn) (x px at' pa e q p):CB S (.Expr (.Call (.Attribute (.Name x px) at' pa) [e] [] q) p):=if h:at' = "extend" then Cb (pa.endLine == q.line) λ hl=>Ba (S.slot x) λ i hi=>(d S e).map λ r=>⟨Ce i r.f r.vs,λ E X M v xs sm=>by
 subst h;exact CP (Sh (Wc (X:=X) (cpos:=q) PySem.F.plainAttrs_list PySem.F.slot_list_extend PySem.F.type_list_extend gZ (xs.var (pos:=px) hi) (J1 (r.pe v xs) KN (CS r.ok.1)) rfl (Xo r.ok.1 X.env q) hl (CS r.ok.1) rfl) rfl) λ D σ H q'=>by
  have:=kQ sm.al (xs.slot hi).2.1 q'
  rw [xs.k] at this;exact this⟩ else none
def Tf {S:Sx} (d:Dn) (x px e p):CB S (.Assign [.Name x px] e p):=Ba (S.slot x) λ i hi=>Cb (DN S x) λ hx=>Cb (!Ry e) λ hc=>(d S e).map λ r=>⟨Aj false i r.f r.vs,λ _ _ _ v xs sm=>
 CP (RB (IL xs sm) (xs.slot hi).1 (JB xs hx) (r.pe v xs) (XR (by simpa using hc)) (.inl (sm.fn x))) λ _ _ _=>RK sm.al (xs.slot hi).2.1⟩
def zQ {S:Sx} (i:In) (d:Dn) (x px elt tg it ifs scope q p):CB S (.Assign [.Name x px] (.ListComp elt [⟨tg,it,ifs,0⟩] scope q) p):=Ba (S.slot x) λ n hn=>Cb (DN S x) λ hx=>(Wv i d elt tg it ifs scope).map λ c=>⟨Aj false n c.f c.vs,λ E X M v xs sm=>by
 obtain ⟨wi,gg,tc,te,h1,h2,h3,h4,h5,h6⟩:=Uz c.ri c.ht c.ck c.rt c.re v xs;exact jT (dr (IL xs sm) (xs.slot hn).1 (JB xs hx) (.inl (sm.fn x)) h2 xs.calm h1 h3 h4 h5 (KU c.ri.ok.1)) λ D σ H hl q=>h6 σ H _ (by rw [hl,xs.N]) (RK sm.al (xs.slot hn).2.1 q)⟩
def zR {S:Sx} (x px q p):CB S (.Assign [.Name x px] (.Dict [] [] q) p):=Ba (S.slot x) λ i hi=>Cb (DN S x) λ hx=>some ⟨Aj false i DR [],λ _ _ _ v xs sm=>
 CP (RB (IL xs sm) (xs.slot hi).1 (JB xs hx) kr (XR rfl) (.inl (sm.fn x))) λ _ _ _=>RK sm.al (xs.slot hi).2.1⟩
structure RN (S:Sx) (es:List Expr) where
 is:List Nat
 ok:∀ E X M,XS E S X M->SM S X M->Kn X es (JA is)/\(ED es X.env).length=is.length/\(ED es X.env).findIdx? (·.1)=none/\∀ i∈is,M.al i=[]/\M.gh≠some i
def R4 {S:Sx}:∀ es,Option (RN S es)
 | []=>some ⟨[],λ _ _ _ _ _=>⟨X5,rfl,rfl,λ _ h=>nomatch h⟩⟩
 | .Name x p::es=>Ba (S.slot x) λ i hi=>Cb (DN S x) λ hx=>(R4 es).map λ r=>⟨i::r.is,λ E X M xs sm=>by
  obtain ⟨h1,h2,h3,h4⟩:=r.ok E X M xs sm;refine ⟨YB (MD (IL xs sm) (xs.slot hi).1 (JB xs hx) (.inl (sm.fn x))) h1 rfl,by rw [ED,B8,h2,B8] <;> (intros;contradiction),?_,λ j hj=>?_⟩
  ·rw [ED,ZL,h3] <;> first | rfl | (intros;contradiction)
  ·rcases jb9.mp hj with z | z
   ·rw [z];exact ⟨sm.al i,(xs.slot hi).2.1⟩
   ·exact h4 j z⟩
 | _=>none
def zb:Expr->Bool
 | .Tuple _ _ _=>true
 | .List _ _=>true
 | _=>false
def Tb {S:Sx} (d:Dn) (es k q e p):CB S (.Assign [.Tuple es k q] e p):=(R4 es).bind λ n=>Cb (!Ry e && !zb e) λ hc=>(d S e).map λ r=>⟨B4 (asgT n.is) r.f r.vs,λ E X M v xs sm=>by
 obtain ⟨h1,h2,h3,h4⟩:=n.ok E X M xs sm;simp only [AK,Kj] at hc;refine CP (W9 (r.pe v xs) (R9 xs.calm h1 h2 h3) ?_ ?_ rfl) λ D σ H q'=>?_
 ·cases e <;> first | rfl | (cases hc.1)
 ·cases e <;> first | rfl | (cases hc.2)
 ·have:=kW sm.al (QW h4) q'
  rw [xs.k] at this;exact this⟩
structure RG (S:Sx) (tg:Expr) where
 asg:PV->Af->Option Af
 ok:∀ E X M,XS E S X M->SM S X M->∃ is g,PG X tg g/\∀ B o,FH (M.at B o) [] is g asg
def Td {S:Sx} (tg:Expr):Option (RG S tg):=match tg with
 | .Name x p=>Ba (S.slot x) λ i hi=>Cb (DN S x) λ hx=>some ⟨asgN i,λ E X M xs sm=>⟨[i],GR i,MD (IL xs sm) (xs.slot hi).1 (JB xs hx) (.inl (sm.fn x)),λ B o=>Rw (sm.al i) (xs.slot hi).2.1⟩⟩
 | .Tuple es k p=>(R4 es).map λ n=>⟨asgT n.is,λ E X M xs sm=>by
  obtain ⟨h1,h2,h3,h4⟩:=n.ok E X M xs sm;refine ⟨n.is,_,R9 xs.calm h1 h2 h3,λ B o=>?_⟩
  have:=QW (M:=M.at B o) (vs:=[]) h4
  rw [show (M.at B o).K=X.K from xs.k] at this;exact this⟩
 | _=>none
def XS.at {E:Wd}{S:Sx}{X:Cx}{M:Fm} (xs:XS E S X M) (B:Hp) (g:Os):XS E S X (M.at B g):=⟨xs.prog,xs.w,xs.K,xs.mg,xs.base,xs.N,xs.sc,xs.calm,xs.room,xs.po,xs.ps,xs.rs,xs.k,xs.al,xs.gh⟩
def SM.at {S:Sx}{X:Cx}{M:Fm} (sm:SM S X M) (B:Hp) (g:Os):SM S X (M.at B g):=⟨sm.al,sm.fn,sm.nd,sm.st,sm.fr⟩
def Tu {S:Sx} (i:In) (d:Dn) (s:Sn) (tg it body p):CB S (.For tg it body [] p):=(Td tg).bind λ t=>(i d S tg it).map λ w=>⟨Fv w.F w.vs t.asg (Dm s body).f,λ E X M v xs sm=>by
 obtain ⟨is,g,h1,h2⟩:=t.ok E X M xs sm;exact CP (Oq xs.po xs.calm (w.ok.2 E X M v xs) h1 (tb:=tX M (Dm s body).f) (λ pins s' σ H D I ⟨B,o,q⟩=>(Dm s body).ok E X _ v (xs.at B o) (sm.at B o) pins s' σ H D I q) (KU w.ok.1)) λ D σ H q=>XW sm.al h2 q⟩
def QK:GW->Option ((Int->Int->Int)×Bool)
 | .Add=>some (λ i j=>i + j,true)
 | .Sub=>some (λ i j=>i - j,false)
 | _=>none
def jw {X:Cx}{op:GW}{g:(Int->Int->Int)×Bool} (h:QK op=some g):Jo X op (OI g.1 g.2):=by
 unfold QK at h;split at h <;> cases h
 ·exact wb
 ·exact wc
def T6 {S:Sx} (d:Dn) (x px op e p):CB S (.AugAssign (.Name x px) op e p):=Ba (S.slot x) λ i hi=>Cb (DN S x) λ hx=>Ba (QK op) λ g hg=>(d S e).map λ r=>⟨II g.1 g.2 i r.f,λ _ _ _ v xs sm=>
 CP (jS (IL xs sm) (xs.slot hi).1 (JB xs hx) (r.pe v xs) (jw hg) (.inl (sm.fn x))) λ _ _ _=>kN (xs.slot hi).2.1⟩
def Yb (S:Sx) (x:Str):Option Nat:=(XN.findIdx? (·== x)).filter λ c=>S.rz && S.xc.contains c && S.glob x
def uE {E:Wd}{S:Sx}{X:Cx}{M:Fm}{x m:Str}{c:Nat}{np cpos pos p:Pos}{j:Nat} (h:Yb S x=some c) (v:Env' E S) (xs:XS E S X M):PS X (.Raise (some (.Call (.Name x np) [.Constant (.str m) j p] [] cpos)) none pos) (tS M (IH c)):=by
 obtain ⟨h1,h2⟩:=jn0.mp h;simp only [AK] at h2;obtain ⟨⟨h2,h3⟩,h4⟩:=h2;have h3:c∈S.xc:=by simpa using h3
 obtain ⟨ht,_,hc⟩:=v.gx (λ z=>by rw [z] at h3;cases h3);obtain ⟨x',C,e1,e2,e3,e4⟩:=hc c h3;have h5:XN[c]?=some x:=Y4 h1;rw [h5] at e1;cases e1;exact CP (u9 (W:=M.W) (xs.rs h2) (by rw [xs.K];exact ht) xs.calm (by rw [xs.K];exact e2) (xs.gl h4) (by rw [xs.mg];exact e3) e4) λ D σ H=>kO
def jh {S:Sx} (x np m j p q pos):CB S (.Raise (some (.Call (.Name x np) [.Constant (.str m) j p] [] q)) none pos):=Ba (Yb S x) λ c hc=>some ⟨IH c,λ _ _ _ v xs _=>uE hc v xs⟩
def Au (_:Bool) (np k:Nat) (b:Fs):Fn:=λ xs=>if xs.length=np then (match b ((xs.map λ x=>some (x,dv x))++A9 k none) with
 | .rt y d _=>.ok (y,d,.non)
 | .nx _=>.ok (.non,om,.non)
 | .exc c=>.exc c
 | _=>.no) else .no
def uS {io:Bool}{np k:Nat}{b:Fs}:∀ xs,xs.length≠np->Au io np k b xs=.no:=λ xs h=>by
 unfold Au;rw [if_neg h]
section
variable {E:Wd}{S:Sx}
def wJ {x qual:Str}{st:Stmt}{f:Addr}{fd:DG}{N ps:List Str}{sp:Sp} (F:Fun E.K x qual st f fd) (FS:FnScope N ps (CZ st)) (len:∀ vs H Q X,sp vs H Q X->vs.length=ps.length)
  (hbody:∀ (cdv:Ae) (A:Bf) (outer:List Env) (s:Ai) (H:Hp) (vs:List V) (Q:VK) (Xe:XK),Room E.lvl (A.deeper (GV qual (CZ st) s.heap.objs.size f cdv))->sp vs H Q Xe ->
   ∃ t,E4 (B9 (CN E.P E.w E.K) E.P E.w E.K E.mg E.base N qual (CZ st) f cdv A outer s H Xe) (Hz st) t/\t { nx:=λ _ H'=>Q .non H',rt:=Q } (L2.start N vs) H):FnOk E.P E.w E.K E.mg E.base (CN E.P E.w E.K) (E.lvl + 1) f fd ps sp:=by
 obtain ⟨oc,od,kV,doc,pm,an,cdv,ct,osl,rfl,lk,hcd⟩:=F.ex;exact zV lk hcd FS len λ A outer s H vs Q X hr hsp=>hbody cdv A outer s H vs Q X hr hsp
def zU {x qual:Str}{st:Stmt}{fa:Addr}{fd:DG}{ps:List Str}{k:Nat} (Fu:Fun E.K x qual st fa fd) (FS:FnScope S.N ps (CZ st)) (hsc:S.sc=CZ st) (hal:S.al=[]) (hgh:S.gh=none) (hk:S.N.length=ps.length + k) (v:Env' E S) (r:RSs S (Hz st)):
  FnOk E.P E.w E.K E.mg E.base (CN E.P E.w E.K) (E.lvl + 1) fa fd ps (JW E.K ps.length (Au false ps.length k r.f)):=by
 refine wJ Fu FS (λ vs H Q X h=>h.1) λ cdv A outer s H vs Q Xe hr h=>?_;obtain ⟨hl,xs,z,K,hK,hz,hz0,hst,hi,q⟩:=h;let M:Fm:={ K:=E.K,Z:=z,H₀:=H,W:=WE Xe H,al:=λ _=>[],gh:=none,cl:=true,E:=K }
 have ek:M.k ⟨λ _ _=>False,K.lc,K.st⟩=K:=by show (⟨E.K,K.lc,K.st⟩:Kx)=K;rw [<- hK]
 have hxs:XS E S (B9 (CN E.P E.w E.K) E.P E.w E.K E.mg E.base S.N qual (CZ st) fa cdv A outer s H Xe) M:=⟨rfl,rfl,rfl,rfl,rfl,rfl,hsc.symm,rfl,hr,yo,uV,λ _=>bB,rfl,λ i _=>by unfold Sx.alF;rw [hal];rfl,hgh.symm⟩
 have hsm:SM S (B9 (CN E.P E.w E.K) E.P E.w E.K E.mg E.base S.N qual (CZ st) fa cdv A outer s H Xe) M:=⟨λ _=>rfl,λ _=>rfl,FS.nd,rfl,rfl⟩
 have hlen:xs.length=ps.length:=hi.length.symm.trans hl;have zl:∀ {d:Nat}{a:Addr},(d=0\/d=om)->M.z ⟨λ _ _=>False,K.lc,K.st⟩ [] d a->z (Cs d) a:=λ _ q=>q.elim (λ ⟨_,e,_⟩=>e.elim) id;refine ⟨tS M r.f,r.ok E _ M v hxs hsm,(xs.map λ x=>some (x,dv x))++A9 k none,⟨λ _ _=>False,K.lc,K.st⟩,⟨λ i y d e _=>?_,(λ i h=>nomatch h),λ i a h=>h.elim,λ i j a h=>h.elim,λ a s=>⟨(hst a s).1,(hst a s).2,λ i h=>h⟩,λ a o e=>.inl e,by rw [ek];exact .rf,λ _ a o e=>e,λ _=>ek,(λ h=>nomatch h),hz0,hz,?_⟩,?_⟩
 ·have hlt:i < xs.length:=by
   rcases Zp i xs.length with h | h
   ·exact h
   ·rw [FG (by simpa using h),Gi] at e;split at e <;> cases e
  rw [C9 (by simpa using hlt),CL,BU hlt] at e;cases e;obtain ⟨u,eu,o⟩:=Ew hi (BU hlt);obtain ⟨G,hG,s⟩:VT K (M.z ⟨λ _ _=>False,K.lc,K.st⟩ [] (dv xs[i])) H H xs[i] (dv xs[i]) u:=o.view (z:=M.z ⟨λ _ _=>False,K.lc,K.st⟩ []) λ a h=>zl (.inl rfl) h;have gn:∀ b,¬ G b:=by
   rcases s with ⟨_,n,_⟩ | ⟨e,_⟩
   ·exact n
   ·exact absurd e (by cases xs[i] <;> simp [Bo,dv,Cg])
  refine ⟨u,?_,ek.symm ▸ (SV.weak (λ a q=>.inl q) s).cong λ a=>⟨λ h=>h.elim,gn a⟩⟩;unfold L2.start;rw [C9 (by rw [AJ];exact (jb0.mp eu).1),CL,eu];rfl
 ·unfold L2.start;rw [Br,AJ,EM,Br,AJ,EM,hlen,hl,hk];omega
 ·unfold Au at q;rw [if_pos hlen] at q;have fin:∀ {ρ':Af}{y:PV}{d:Nat}{v:V}{H':Hp}{g':Os},(∀ v H',Le H H'->VT K (z (Cs d)) H H' y d v->Q v H')->FinR M ρ' H' g'->VT (M.k g') (M.Z (Cs d)) M.H₀ H' y d v->Q v H':=λ q f t=>q _ _ (f.cl rfl) (by
   have e:M.k _=K:=f.ke rfl;rw [e] at t;exact t)
  revert q;cases r.f ((xs.map λ x=>some (x,dv x))++A9 k none) with
  | exc c=>exact λ q σ' H' l=>⟨q H' l,λ b hb=>l.dom hb⟩
  | rt y d ρ'=>exact λ q v H' g' f t=>fin q f t
  | nx ρ'=>exact λ q σ' H' g' r'=>fin q r'.fin (.sv rfl)
  | _=>exact λ q=>q.elim
end
open PySem PySem.Spec PySem.W PySem.Calls PyProof.Rows L2
theorem Vh {tb:String->Option vl7}{p:AD}{w:AA}{n₀:Nat}{ann:Option Ae}:∀ {n:Nat}{s r:SharedT}{t:Thread},J4 tb p w n₀ ann n s t=some r->topRun tb p w n₀ ann n s.abs t=some r.abs
 | 0,_,_,_,h=>by cases h
 | n + 1,s,r,t,h=>by
  unfold J4 at h;unfold topRun;cases e1:through t with
  | true=>rw [e1] at h;cases h;rfl
  | false=>
   rw [e1] at h;cases e2:stepOk n₀ ann t with
   | false=>rw [e2] at h;cases h
   | true=>
    rw [e2] at h;cases e3:stepT (denote tb) p w s t with
    | none=>rw [e3] at h;cases h
    | some z=>obtain ⟨s₂,t₂⟩:=z;rw [e3] at h;rw [stepT_spec e3];exact Vh h
def uw (P:Params) (os:OsState):(bootS P os).abs=⟨Eo P,#[],boot_drawn,boot_toks,os⟩:=by kernel_rfl
def v8 (P:Params):(Eo P).isNs Ep=true:=by kernel_rfl
def wo {p q:AD}{loose:List Str}{Xt:Ai->Bool}{α:Type}{Yf:Ai->α}{Ya:AA->α}{N:Nat} (e:opening p=plainProg p.main.scope.names) (hN:Nat.ble 600 N=true) (f:∀ s,fenceModules? p s=some s)
  (run:∀ (w:AA) (os:OsState),(J4 treeTable p w (Eo w.params).objs.size ((Eo w.params).nsMap Ep "__annotations__") N (bootS w.params os) (topStub p)).map (λ s=>RV p q loose Xt Yf (Eo w.params) s.abs)=some (true,openGood q loose,Ya w)):
  LeftO p q loose Xt Yf Ya N:=λ w=>by
 obtain ⟨⟨h,gs,d,k,os⟩,e1,e2⟩:=jc0.mp (boot_open e hN f w);obtain ⟨rfl,rfl,rfl,rfl⟩:h=Eo w.params/\gs=#[]/\d=boot_drawn/\k=boot_toks:=by simpa using e2
 obtain ⟨s,r1,r2⟩:=jc0.mp (run w os);have r:=Vh r1;rw [uw] at r;have r3:(_=_)/\(_ ,_)=(_,_):=Prod.mk.inj r2;obtain ⟨l1,l23⟩:=r3;obtain ⟨l2,l3⟩:=Prod.mk.inj l23;have t:topFrom treeTable p w N ⟨Eo w.params,#[],boot_drawn,boot_toks,os⟩=some s.abs:=by
  unfold topFrom;dsimp only;rw [v8,r];show (match staticsOk (Qg p.main.body) (Eo w.params) s.abs.heap && namesBound p s.abs.heap && gensDone s.abs && laidKept (Eo w.params) s.abs.heap with | true=>_ | false=>_)=_;rw [l1]
 unfold openEnds;rw [e1];show (topFrom treeTable p w N _).map _=_;rw [t];exact congrArg some (Prod.ext l2 l3)
theorem j4 (h:Heap):(LQ h).In h:=by
 intro a o;unfold LQ;generalize Ay h.objs.size=l;induction l with
 | nil=>intro e;cases e
 | cons b l ih=>
  intro e;rw [Mg] at e;cases g:h.get? b with
  | none=>rw [g] at e;exact ih e
  | some z=>
   rw [g] at e;dsimp only [O8] at e;rw [EJ] at e;split at e
   ·rename_i q;cases e;rw [beq_iff_eq.mp q];exact g
   ·exact ih e
def jj {K:Frag}{x:Str}{st:Stmt} (e:Su K x=some (R5 x st)):∃ (g:Addr) (fd:DG),nsIn K Ep x=some (some (.ref g))/\Fun K x x st g fd:=by
 unfold Su at e;split at e
 ·rename_i g hg;split at e
  ·rename_i oc od fd sl hl;cases fd;unfold R5 at e;simp only [Option.some.injEq,DefSeen.mk.injEq] at e;obtain ⟨rfl,rfl,rfl,rfl,rfl,rfl,rfl,rfl,rfl,hc⟩:=e;refine ⟨g,_,hg,jl hl hc ?_⟩;unfold keepIn;dsimp only;rw [hl]
  ·cases e
 ·cases e
structure DI where
 st:Stmt
 N:List Str
 F:Fn
 b:Fs
def By (st:Stmt):List Str:=(Im st).args.map (·.arg)
def OK (ds:List DI):List (Str×Nat×Fn):=ds.map λ d=>(Bp d.st,(By d.st).length,d.F)
def He (rz:Bool) (xc:List Nat) (ds:List DI) (d:DI):Sx:=⟨d.N,CZ d.st,OK ds,rz,xc,[],none⟩
def Gj (d:DI):Bool:=(match Im d.st with
  | ⟨[],_,none,[],_,none,[]⟩=>true
  | _=>false) && (match (CZ d.st).kind with
  | .function=>true
  | _=>false) && !(CZ d.st).isCoroutine && !(CZ d.st).isGenerator && decide (d.N.Nodup/\d.N.take (By d.st).length=By d.st) && ((By d.st).all λ x=>CG (CZ d.st) x .local || CG (CZ d.st) x .cell) && ((CZ d.st).names.all λ y=>y.2 != .free) && !(Bp d.st == ("__debug__" : Str))
inductive Reads (sn:Sn) (rz:Bool) (xc:List Nat):List DI->Prop
 | nil:Reads sn rz xc []
 | cons {d ds} (t:Reads sn rz xc ds) (r:(Dm (S:=He rz xc ds d) sn (Hz d.st)).f=d.b) (e:d.F=Au false (By d.st).length (d.N.length - (By d.st).length) d.b) (c:Gj d=true):Reads sn rz xc (d::ds)
theorem Xb {α:Type}:∀ {ns:List Str}{us:List α},ns.Nodup->us.length=ns.length->∀ {i:Nat}{n:Str},ns[i]?=some n->(ns.zip us).lookup n=us[i]?
 | [],[],_,_,i,n,h=>by simp at h
 | [],_::_,_,h,_,_,_=>by cases h
 | _::_,[],_,h,_,_,_=>by cases h
 | a::ns,u::us,nd,h,0,n,e=>by cases e;simp
 | a::ns,u::us,nd,h,i + 1,n,e=>by
  have hm:=OD (by simpa using e:ns[i]?=some n);have hne:(n == a)=false:=beq_false_of_ne λ z=>(jg9.mp nd).1 (z ▸ hm);rw [Ja,EJ,hne];simpa using Xb (jg9.mp nd).2 (Nat.succ.inj h) (by simpa using e)
theorem WU {α:Type}:∀ {ns:List Str}{us:List α}{l:List (Str×α)},us.length=ns.length->(∀ (i:Nat) (n:Str),ns[i]?=some n->l.lookup n=us[i]?)->ns.filterMap (λ n=>(l.lookup n).map λ x=>(n,x))=ns.zip us
 | [],[],_,_,_=>rfl
 | [],_::_,_,h,_=>by cases h
 | _::_,[],_,h,_=>by cases h
 | a::ns,u::us,l,h,k=>by
  rw [Mg,k 0 a rfl];show _::_=_::_;rw [WU (us:=us) (Nat.succ.inj h) λ i n e=>by simpa using k (i + 1) n (by simpa using e)];rfl
def uv {x qual:Str}{as:List Arg}{kd:List (Option Expr)}{body:List Stmt}{sc:Bu}{kV doc pm cdv ct:Ae}{an:Option Addr}{us:List Ae} (nd:(as.map (·.arg)).Nodup) (hl:us.length=(as.map (·.arg)).length):
  bindArgs (IB x qual ⟨[],as,none,[],kd,none,[]⟩ body sc .none kV doc pm an cdv ct) ⟨us,[]⟩=pure ((as.map (·.arg)).zip us):=by
 generalize hn:as.map (·.arg)=ns at *;have h1:∀ i n,ns[i]?=some n->(ns.zip us).lookup n=us[i]?:=λ i n e=>Xb nd hl e;have h2:(ns.filter λ n=>((ns.zip us).lookup n).isNone)=[]:=ji3.mpr λ n hm=>by
  obtain ⟨i,e⟩:=OC hm;rw [h1 i n e,BU (by have:=(jb0.mp e).1;omega)];simp
 have h3:=WU (l:=ns.zip us) hl h1;unfold bindArgs IB;dsimp only [IW,Fg];rw [hn];simp only [SD,pure_bind,IW,FE];rw [show seqItems? Value.none=pure none from rfl,pure_bind];simp [hl,h2,h3]
structure Given (ds:List Stmt) (xc:List Nat) (K:Frag) (mg:Str->Option Ae):Prop where
 df:∀ d∈ds,∃ (g:Addr) (fd:DG),mg (Bp d)=some (.ref g)/\Fun K (Bp d) (Bp d) d g fd
 bn:∀ x∈zyi,mg x=none
 gx:GX K mg xc
theorem RF {α β:Type}{f g:α->β}:∀ {l:List α},l.map f=l.map g->∀ {i:Nat}{a:α},l[i]?=some a->f a=g a
 | [],_,_,_,h=>by cases h
 | b::l,e,0,a,h=>by
  cases h;exact (List.cons.inj e).1
 | b::l,e,i + 1,a,h=>RF (List.cons.inj e).2 h
def ua {ds:List Stmt}{xc:List Nat}{K:Frag}{mg:Str->Option Ae}{h:Heap} (X:K.In h) (G:h.Ns Ep mg) (e:KY ds xc K=KI ds):Given ds xc K mg:=by
 obtain ⟨e1,e2⟩:=Prod.mk.inj e;obtain ⟨e2,e3⟩:=Prod.mk.inj e2;refine ⟨λ d hd=>?_,λ x hx=>?_,λ hne=>?_⟩
 ·obtain ⟨i,hi⟩:=OC hd;obtain ⟨g,fd,a,b⟩:=jj (RF e1 hi);exact ⟨g,fd,mg_of X G a,b⟩
 ·obtain ⟨i,hi⟩:=OC hx;exact mg_none_of X G (RF e2 hi)
 ·have hm:xc.isEmpty=false:=by
   cases xc with
   | nil=>exact absurd rfl hne
   | cons _ _=>rfl
  rw [hm,S8,AK,AK] at e3;refine ⟨e3.1.1,e3.1.2,λ c hc=>?_⟩;have h1:=jb1.mp e3.2 c hc;rw [AK] at h1;obtain ⟨C,hC⟩:=jn4.mp h1.1;have hC':=hC;unfold Dt at hC';cases hx:XN[c]? with
  | none=>rw [hx] at hC';cases hC'
  | some x=>
   rw [hx] at hC';have h2:=h1.2;rw [hx] at h2;refine ⟨x,C,rfl,hC,?_,by simpa using h2⟩;dsimp only at hC';unfold QN at hC';split at hC'
   ·rename_i D hD;cases hC';exact mg_of X G hD
   ·cases hC'
def vL {P:AD}{w:AA}{K:Frag}{outer:List Env}{H:Hp}{s:Ai}{e:Ae}{s2:Ai} (z:CN P w K outer H s (λ _ _ _=>False) e s2):False:=by
 obtain ⟨_,_,_,_,_,_,_,_,_,_,_,_,_,_,_,_,_,_,z⟩:=z;exact z
def Rp {d:DI} (h:Gj d=true):FnScope d.N (By d.st) (CZ d.st)/\(Bp d.st == ("__debug__" : Str))=false/\∃ as kd,Im d.st=⟨[],as,none,[],kd,none,[]⟩:=by
 unfold Gj at h;simp only [AK,Kj,decide_eq_true_eq] at h;obtain ⟨⟨⟨⟨⟨⟨⟨h1,h2⟩,h3⟩,h4⟩,h5⟩,h6⟩,h7⟩,h8⟩:=h;refine ⟨⟨?_,h3,h4,h5.1,h5.2,λ x hx=>?_,λ y hy=>by simpa using jb1.mp h7 y hy⟩,h8,?_⟩
 ·split at h2
  ·assumption
  ·cases h2
 ·have:=jb1.mp h6 x hx
  rw [Ga] at this;exact this.imp Fp Fp
 ·split at h1
  ·rename_i e;exact ⟨_,_,e⟩
  ·cases h1
section
variable {P:AD}{w:AA}{K:Frag}{mg:Str->Option Ae}{base:Heap}{d:DI}{ds:List DI}{xc:List Nat}{rz:Bool}{sn:Sn}{g:Addr}{fd:DG}
def Yo (c:Gj d=true) (F:Fun K (Bp d.st) (Bp d.st) d.st g fd) {us:List Ae} (hl:us.length=(By d.st).length):bindArgs fd ⟨us,[]⟩=pure ((By d.st).zip us):=by
 obtain ⟨FS,_,as,kd,e⟩:=Rp c;obtain ⟨oc,od,kV,doc,pm,an,cdv,ct,osl,rfl,_,_⟩:=F.ex;unfold By at hl ⊢;rw [e] at hl ⊢;refine uv ?_ hl;have nd:=FS.nd;have pre:=FS.pre;unfold By at pre;rw [e] at pre;show ((⟨[],as,none,[],kd,none,[]⟩:Arguments).args.map (·.arg)).Nodup;rw [<- pre];exact nd.sublist (ZJ ..)
def WV (hb:∀ x∈zyi,mg x=none) (gx:GX K mg xc) (r:(Dm (S:=He rz xc ds d) sn (Hz d.st)).f=d.b) (e:d.F=Au false (By d.st).length (d.N.length - (By d.st).length) d.b) (c:Gj d=true) (G:GS ⟨P,w,K,mg,base,ds.length⟩ (OK ds)) (Fu:Fun K (Bp d.st) (Bp d.st) d.st g fd):
  FnOk P w K mg base (CN P w K) (ds.length + 1) g fd (By d.st) (JW K (By d.st).length d.F):=by
 have FS:=(Rp c).1;have hk:(He rz xc ds d).N.length=(By d.st).length + (d.N.length - (By d.st).length):=by
  have:=congrArg S5 FS.pre
  rw [IX] at this;show d.N.length=_;omega
 rw [e,<- r];exact zU (E:=⟨P,w,K,mg,base,ds.length⟩) (S:=He rz xc ds d) Fu FS rfl rfl rfl hk ⟨hb,G,gx⟩ _
theorem uI (hb:∀ x∈zyi,mg x=none) (gx:GX K mg xc) (R:Reads sn rz xc ds) (G:∀ d∈ds,∃ (g:Addr) (fd:DG),mg (Bp d.st)=some (.ref g)/\Fun K (Bp d.st) (Bp d.st) d.st g fd):GS ⟨P,w,K,mg,base,ds.length⟩ (OK ds):=by
 induction R with
 | nil=>exact λ x n F h=>by cases h
 | @cons d ds t r e c ih=>
  have ih:=ih λ d hd=>G d (AO _ hd);intro x n F h;rw [OK,Bc,EJ] at h;split at h
  ·rename_i q;cases h;rw [show x=Bp d.st from eq_of_beq q];obtain ⟨g,fd,m,Fu⟩:=G d AM;exact ⟨(Rp c).2.1,by rw [e];exact uS,g,fd,By d.st,m,Fu.kp,.all λ us hl=>Yo c Fu hl,rfl,WV hb gx r e c ih Fu⟩
  ·obtain ⟨h1,h2,fa,fd,ps,h3,h4,h5,h6,h7⟩:=ih x n F h;exact ⟨h1,h2,fa,fd,ps,h3,h4,h5,h6,h7.mono (O0 _)⟩
end
def vn {K:Frag}{H:Hp}{a:Addr}{ns:List Int}{F:Fn} (hO:Jp H) (hS:Bd K H a (ns.map V.int)) (h:∃ d z,F [.scr ns]=.ok (.bl true,d,z)):JW K 1 F [.ref a] H (λ v _=>v=.bl true) λ _ _ _=>False:=by
 refine ⟨rfl,[.scr ns],λ _ _=>False,⟨K,[],λ _=>False⟩,rfl,λ _ z=>z,λ _ _ z=>z.elim,λ _ z=>z.elim,.cons (.rf ?_) .nil,?_⟩
 ·rcases hS with (h | h) | h
  ·rcases hO a with z | ⟨ob,xs,z⟩
   ·rw [h] at z;cases z
   ·rw [h] at z;cases z
  ·exact .inl h
  ·exact .inr h
 ·obtain ⟨d,z,e⟩:=h;rw [e];exact λ v H' _ t=>(t.vw λ _ z=>z.elim).sv rfl
theorem holds_by {l:OpenLaw}{q:AD}{loose:List Str}{d:DefRec}{N n:Nat}{e:DI}{ds:List DI}{sts:List Stmt}{xc:List Nat}{rz:Bool}{sn:Sn}{x:Str} (said:l.wellSaid=true)
  (op:opening l.prog=plainProg l.prog.main.scope.names) (hN:Nat.ble 600 N=true) (f:∀ s,fenceModules? l.prog s=some s)
  (run:∀ (w:AA) (os:OsState),(J4 treeTable l.prog w (Eo w.params).objs.size ((Eo w.params).nsMap Ep "__annotations__") N (bootS w.params os) (topStub l.prog)).map
   (λ s=>RV l.prog q loose (λ s=>xlAt q [] s && recOk (RowW.records l.row.toRowW) s) (λ s=>KY sts xc (LQ s.heap)) (Eo w.params) s.abs)=some (true,openGood q loose,KI sts))
  (hdef:defOf q l.row.name=some (d,[])) (hp:l.row.prog.theDef l.row.name=some (d.params,d.body,d.scope)) (hk:kwWritten? d.params.kwonlyargs d.params.kw_defaults=some []) (hwr:(!l.row.writes || l.row.records.isEmpty)=true)
  (ok:(chainsOk q && opensWell l.row.prog && (frees l.row.toRowW && l.row.within.isEmpty))=true) (hb:l.row.prog.bare) (hw:l.row.toRowW.promised)
  (hn:l.most=some n) (hn2:n<=Aw) (hdf:d.params.defaults=[]) (hr:Room (ds.length + 1) Iw) (hnm:Bp e.st=d.name) (hps:By e.st=[x])
  (hsts:(e::ds).map (·.st)=sts) (R:Reads sn rz xc (e::ds)) (yes:∀ ns:List Int,ns.length<=n->∃ d z,e.F [.scr ns]=.ok (.bl true,d,z)):l.Holds:=by
 refine holds_law said λ ws=>?_;refine holds_open (q:=q) (loose:=loose) (Xt:=λ s=>xlAt q [] s && recOk (RowW.records l.row.toRowW) s) (XP:=XL q []) (Yf:=λ s=>KY sts xc (LQ s.heap)) (Ya:=λ _=>KI sts) (YP:=λ _ h=>∃ K:Frag,K.In h/\KY sts xc K=KI sts) (N:=N)
  (wo op hN f run) (λ _ s z=>⟨_,j4 _,z⟩) (λ _ _ _ ⟨K,a,b⟩ kp=>⟨K,a.keeps kp,b⟩) (λ s e=>xl_of s (jp7.mp e).1) XL.keeps hdef hp hk (λ s e=>recFacts_of (jp7.mp e).2) hwr ws ok hb hw ?_
 refine Att.attach_call hn hdf λ w s₀ s₁ mg mb fa o pm cd doc a vs ns G Y ho hd hcd hmg hobj hints hlen hg=>?_;obtain ⟨K,KX,hf⟩:=Y;have gv:=ua KX G.T.g hf;have gd:∀ d∈e::ds,∃ (g:Addr) (fd:DG),mg (Bp d.st)=some (.ref g)/\Fun K (Bp d.st) (Bp d.st) d.st g fd:=λ d hd=>gv.df d.st (by rw [<- hsts];exact ZQ hd);obtain ⟨g,fd,m,Fu⟩:=gd e AM;rw [<- hnm,m] at hmg;cases hmg;cases R with
 | cons t r er c=>
  have ok:=λ base=>WV (P:=l.prog) (w:=w) (base:=base) gv.bn gv.gx r er c (uI gv.bn gv.gx t λ d hd=>gd d (AO _ hd)) Fu;rw [hps] at ok;exact ue KX G.T.g G.T.b G.T.builtins G.T.nolimit hg hobj hints (BF hlen hn2) hr (λ base _ _=>ok base) (λ s u=>.of_eq (by rw [Yo c Fu (us:=[u]) (by rw [hps];rfl),hps];rfl)) (λ H hO hS=>vn hO hS (yes ns hlen)) λ H e s'=>vL
def VZ:DS:=λ o i v H Q=>∃ a H',o=.ref a/\DPut H a i v H'/\Q H'
def zH:DS:=λ o i v H Q=>QY o i v H Q\/VZ o i v H Q
def zM {X:Cx} (hu:X.A.units + 1 < Cp):PSet X VZ:=by
 intro pins s σ H o i v ov iv u Q I ro ri rv h;obtain ⟨a,H',rfl,g,q⟩:=h;obtain rfl:ov=Value.ref a:=ro;exact gW hu I g ri rv λ s' I'=>⟨H',I',q⟩
def PSet.or {X:Cx}{t t':DS} (h:PSet X t) (h':PSet X t'):PSet X (λ o i v H Q=>t o i v H Q\/t' o i v H Q):=by
 intro pins s σ H o i v ov iv u Q I ro ri rv q;rcases q with q | q
 ·exact h pins s σ H o i v ov iv u Q I ro ri rv q
 ·exact h' pins s σ H o i v ov iv u Q I ro ri rv q
def Hi (x:PV) (k y:PV):Option PV:=match x,k with
 | .lst xs,.int i=>(match E1 xs.length i with
  | some j=>some (.lst (xs.set j y))
  | none=>none)
 | .dct kvs,.tup ks=>(match BE ks,sV y with
  | some k,some u=>if kvs.length < Aw then some (.dct (B7 kvs k u)) else none
  | _,_=>none)
 | _,_=>none
def HF (k:List A2) (y:PV):List (List A2)->List PV->List PV
 | k'::ks,x::xs=>(if k'=k then y else x)::HF k y ks xs
 | _,_=>[]
def Fj (ks:List (List A2)) (k:List A2):Bool:=ks.any λ k'=>decide (k'=k)
def G9 (ks:List (List A2)) (xs:List PV) (k:List A2) (y:PV):PV:=if Fj ks k=true then .dcl ks (HF k y ks xs) else .dcl (ks++[k]) (xs++[y])
def NV:PV->Option (List (List A2)×List PV)
 | .dct []=>some ([],[])
 | .dcl ks xs=>some (ks,xs)
 | _=>none
def fH:PV->Bool
 | .lst _=>true
 | _=>false
def dJ (d:Nat):PV->Bool
 | .lst xs=>Kd d xs
 | _=>true
def C1 (i:Nat) (fk f:Fx):Fs:=λ ρ=>match f ρ with
 | .ok (y,e,ρ1)=>(match ρ1[i]? with
  | some (some (x,d))=>(match fk ρ1 with
   | .ok (k,_,ρ2)=>(match Hi x k y with
    | some x'=>if d≠0/\DD y=true/\dJ d x=true then .nx (ρ2.set i (some (x',d))) else if d≠0/\e=om/\fH x=true then .nx (ρ2.set i (some (x',1))) else .no
    | none=>match NV x,k with
     | some (ks,xs),.tup key=>(match BE key with
      | some kk=>if d≠0/\(e=om\/DD y=true)/\ks.length < Aw then .nx (ρ2.set i (some (G9 ks xs kk y,1))) else .no
      | none=>.no)
     | _,_=>.no)
   | .exc c=>.exc c
   | .no=>.no)
  | _=>.no)
 | .exc c=>.exc c
 | .no=>.no
section
variable {M:Fm}{ρ ρ':Af}{σ σ':St}{H H' H0 H1:Hp}{g g' g1:Os}{vs vs' vk is:List Nat}{K:Kx}{Z Z' G G':Addr->Prop}{x y:PV}{d e i j:Nat}{v w:V}{a:Addr}{f f' fk fi fj:Fx}{fa:Fa}{D:Ends}{R:Rs}{xs:List PV}{ws:List V}{ks:List (List A2)}{k:List A2}
def uT (h:DV xs=true):Kd d xs=true:=by
 have:tf xs=true:=by
  induction xs with
  | nil=>rfl
  | cons x xs ih=>
   unfold DV at h;rw [AK] at h;unfold tf;rw [h.1,ih h.2];rfl
 unfold Kd;rw [this,Zm]
theorem Y5 (hy:Is K H Z y w):∀ {ks:List (List A2)}{xs:List PV}{ws:List V},IsL K H Z xs ws->ks.length=xs.length->∃ ws',(ks.zip ws).map (λ kv=>if kv.1=k then (kv.1,w) else kv)=ks.zip ws'/\IsL K H Z (HF k y ks xs) ws'/\(HF k y ks xs).length=ks.length
 | [],[],_,.nil,_=>⟨[],rfl,.nil,rfl⟩
 | [],_::_,_,_,e=>by cases e
 | _::_,[],_,_,e=>by cases e
 | k'::ks,x::xs,_,.cons (b:=v) o t,e=>by
  obtain ⟨ws',e1,o3,e3⟩:=Y5 hy (ks:=ks) t (Nat.succ.inj e);refine ⟨(if k'=k then w else v)::ws',?_,?_,by unfold HF;rw [B8,e3,B8]⟩
  ·rw [Ja,Bc,e1,Ja];congr 1;dsimp only;split <;> rfl
  ·unfold HF;refine .cons ?_ o3;split
   ·exact hy
   ·exact o
theorem Yg:∀ {ks:List (List A2)}{ws:List V},ks.length=ws.length->((ks.zip ws).any λ kv=>decide (kv.1=k))=Fj ks k
 | [],[],_=>rfl
 | [],_::_,e=>by cases e
 | _::_,[],e=>by cases e
 | k'::ks,w::ws,e=>by
  have:=Yg (ks:=ks) (ws:=ws) (Nat.succ.inj e)
  unfold Fj at this ⊢;rw [Ja,LX,LX,this]
def gX (hy:Is K H Z y w) (h:IsL K H Z xs ws) (e:ks.length=xs.length):∃ ks' xs' ws',G9 ks xs k y=.dcl ks' xs'/\B7 (ks.zip ws) k w=ks'.zip ws'/\IsL K H Z xs' ws'/\ks'.length=xs'.length:=by
 unfold G9 B7;rw [Yg (by rw [e,h.length])];by_cases hk:Fj ks k=true
 ·rw [if_pos hk,if_pos hk];obtain ⟨ws',e1,o1,e2⟩:=Y5 hy (k:=k) h e;exact ⟨ks,_,ws',rfl,e1,o1,e2.symm⟩
 ·rw [if_neg hk,if_neg hk];refine ⟨_,_,ws++[w],rfl,?_,Paired.append h (.cons hy .nil),by rw [Br,Br,e];rfl⟩;rw [List.zip_append (by rw [e,h.length])];rfl
def Rep.obj (r:Rep M ρ σ H g) (hal:∀ i,M.al i=[]) (hg:M.gh≠some i) (e:ρ[i]?=some (some (x,d))) (ho:Bo x d=true):∃ a,σ[i]?=some (some (.ref a))/\g.ow i a/\∃ ys us,Nd (λ o=>H a=some o) ys us x/\IsL (M.k g) H (λ b=>M.zN g i 1 b\/b=a) ys us:=by
 obtain ⟨v,hv,s⟩:=r.own i _ d e hg;rcases s with ⟨q,_⟩ | ⟨_,a,rfl,ys,ws,n,ga,_,p,_⟩
 ·rw [ho] at q;cases q
 ·exact ⟨a,hv,ga,ys,ws,n,r.oldV hal ga (.inr (by decide)) p⟩
def Rep.seen (r:Rep M ρ σ H g) (ga:g.ow i a) (he:e=om\/DD y=true) (h:Is K H1 (M.z g vs e) y w):Is K H1 (λ b=>M.zN g i 1 b\/b=a) y w:=by
 rcases he with rfl | he
 ·exact h.weak λ b q=>q.elim (λ q=>Fm.z_om r.zt (Fm.zN_z q)) λ q=>.inl ⟨i,q ▸ ga,.inl rfl⟩
 ·exact h.flat he
def yN (hal:∀ i,M.al i=[]) (hg:M.gh≠some i) (hq:tS M (C1 i fk f) D σ H):Ff (tE M f vs) (Ml (DJ i) (tE M fk vk) zH) D σ H:=by
 obtain ⟨ρ,g,rep,q⟩:=hq;unfold C1 at q;refine BV rep q (λ _ e=>by rw [e]) (λ e=>by rw [e]) λ y e w H1 ef l r t=>?_;rw [ef] at q;dsimp only at q;split at q
 ·rename_i x d es;obtain ⟨v0,hσ,s0⟩:=r.own i x d es hg;clear s0;refine ⟨v0,hσ,BV r q (λ _ e=>by rw [e]) (λ e=>by rw [e]) λ k' d' kv H2 ek l2 r2 t2=>?_⟩;rw [ek] at q;dsimp only at q;have o:=(rep.vw t).up l2;have ok:=r.vw t2;have hi:=(jb0.mp es).1;have ob:Bo x d=true->∃ a,v0=.ref a/\g.ow i a/\∃ ys us,Nd (λ o=>H2 a=some o) ys us x/\IsL (M.k g) H2 (λ b=>M.zN g i 1 b\/b=a) ys us:=λ ho=>by
   obtain ⟨a,hσ',h⟩:=r2.obj hal hg es ho;rw [hσ] at hσ';cases hσ';exact ⟨a,rfl,h⟩
  cases ep:Hi x k' y with
  | some x'=>
   rw [ep] at q;dsimp only at q;unfold Hi at ep;split at ep
   ·rename_i xs n0;split at ep
    ·rename_i j ej;cases ep;rw [ok.sv rfl];split at q
     ·rename_i hc;obtain ⟨a,hσ',ga,ws,ha,p,ds⟩:=r2.list hg es hc.1;rw [hσ] at hσ';cases hσ';obtain ⟨g',r'⟩:=r2.setF (j:=j) hal hg es hσ ga ha p ds hc.1 hc.2.2 Le.refl hc.2.1 o;exact .inl ⟨a,ws,n0,j,rfl,rfl,ha,by rw [<- Paired.length p];exact ej,q _ _ g' r'⟩
     ·split at q
      ·rename_i hc;obtain ⟨a,rfl,ga,ys,us,⟨rfl,ha⟩,p⟩:=ob (by simp [Bo,Cg,hc.1]);obtain ⟨g',r'⟩:=r2.relV (x:=.lst (xs.set j y)) (c:=1) hal hg hi hσ ga Le.refl ha trivial rfl ⟨rfl,rfl⟩ (λ h=>by cases h) (Paired.set (r2.seen ga (.inl hc.2.1) o) j p);exact .inl ⟨a,us,n0,j,rfl,rfl,ha,by rw [p.length];exact ej,q _ _ g' r'⟩
      ·exact q.elim
    ·cases ep
   ·rename_i kvs key;split at ep
    ·rename_i kk u ekk eu;split at ep
     ·rename_i hl;cases ep;rw [o.sv eu];obtain ⟨b,us',rfl,hb,ol⟩:=ok.tupE
      have:=KW ekk ol
      subst this;split at q
      ·rename_i hc;obtain ⟨a,rfl,ga,ys,us,⟨rfl,rfl,ha⟩,p⟩:=ob (by simp [Bo,Cg,hc.1]);obtain ⟨g',r'⟩:=r2.relV (x:=.dct (B7 kvs kk u)) (c:=d) (o':=.dT (B7 kvs kk u)) hal hg hi hσ ga Le.refl ha trivial (by simp [Bo,Cg,hc.1]) ⟨rfl,rfl,rfl⟩ (λ _ x h=>nomatch h) .nil;exact .inr ⟨a,_,rfl,DPut.t ha hb hl,q _ _ g' r'⟩
      ·split at q
       ·rename_i hc;cases hc.2.2
       ·exact q.elim
     ·cases ep
    ·cases ep
   ·cases ep
  | none=>
   rw [ep] at q;dsimp only at q;clear ep;cases ekv:NV x with
   | none=>rw [ekv] at q;exact q.elim
   | some kx=>
    obtain ⟨ks,xs⟩:=kx;rw [ekv] at q;cases k' <;> first | exact q.elim | skip
    rename_i key;dsimp only at q;split at q
    ·rename_i kk ekk;split at q
     ·rename_i hc;obtain ⟨b,us',rfl,hb,ol⟩:=ok.tupE
      have:=KW ekk ol
      subst this;obtain ⟨a,rfl,ga,ys,us,n,p⟩:=ob (by have hd:=hc.1;unfold NV at ekv;split at ekv <;> first | (cases ekv;done) | (simp [Bo,Cg];exact hd));obtain ⟨ws,ha,en,p⟩:∃ ws,H2 a=some (.dT (ks.zip ws))/\ks.length=xs.length/\IsL (M.k g) H2 (λ b=>M.zN g i 1 b\/b=a) xs ws:=by
       unfold NV at ekv;split at ekv
       ·cases ekv;exact ⟨[],n.2.2,rfl,.nil⟩
       ·cases ekv;obtain ⟨rfl,e1,h⟩:=n;exact ⟨_,h,e1,p⟩
       ·cases ekv
      obtain ⟨ks',xs',ws',ex',ew',ox',en'⟩:=gX (k:=kk) (r2.seen ga hc.2.1 o) p en;obtain ⟨g',r'⟩:=r2.relV (x:=.dcl ks' xs') (c:=1) (o':=.dT (B7 (ks.zip ws) kk w)) hal hg hi hσ ga Le.refl ha trivial rfl ⟨rfl,en',by rw [ew']⟩ (λ h=>by cases h) ox';rw [ex'] at q;exact .inr ⟨a,_,rfl,DPut.t ha hb (by rw [Mc];have:=Z2 ks.length ws.length;omega),q _ _ g' r'⟩
     ·exact q.elim
    ·exact q.elim
 ·exact q.elim
end
def HG (g:Int->Int->Int) (i:Nat) (fj f:Fx):Fs:=λ ρ=>match ρ[i]?,fj ρ with
 | some (some (.lst xs,d)),.ok (.int b,_,ρ1)=>(match f ρ1 with
  | .ok (.int w,_,ρ2)=>(match E1 xs.length b with
   | some j=>(match xs[j]? with
    | some (.int v)=>if d≠0/\Kd d xs=true then .nx (ρ2.set i (some (.lst (xs.set j (.int (g v w))),d))) else .no
    | _=>.no)
   | none=>.no)
  | _=>.no)
 | _,_=>.no
def Dg (i j:Nat) (fa:Fa):Fs:=λ ρ=>match fa ρ with
 | .ok (xs,ρ1)=>(match xs with
  | [(.int a,_),(.int b,_)]=>(match B0 [i,j] [.int a,.int b] ρ1 with
   | some ρ2=>.nx ρ2
   | none=>.no)
  | _=>.no)
 | .exc c=>.exc c
 | .no=>.no
section
variable {M:Fm}{ρ ρ':Af}{σ σ':St}{H H' H0 H1:Hp}{g g' g1:Os}{vs vs' vi vj is:List Nat}{K:Kx}{Z Z' G G':Addr->Prop}{x y:PV}{d e i j:Nat}{v w:V}{a:Addr}{f f' fi fj:Fx}{fa:Fa}{D:Ends}{R:Rs}{xs:List PV}{ws:List V}
def XU {k:Int->Int->Int} (hal:∀ i,M.al i=[]) (hg:M.gh≠some i) (hq:tS M (HG k i fj f) D σ H):We (DJ i) (tE M fj vj) (tE M f vs) (Hh M.K) (OJ k) QY D σ H:=by
 obtain ⟨ρ,g,rep,q⟩:=hq;unfold HG at q;have q0:=q;split at q
 ·rename_i xs d b db ρ1 ei e1;by_cases hd:d=0
  ·exfalso;split at q
   ·split at q
    ·split at q
     ·rw [if_neg λ h=>h.1 hd] at q;exact q
     ·exact q
    ·exact q
   ·exact q
  obtain ⟨a,hσ,ga,_⟩:=rep.list hg ei hd;refine ⟨_,hσ,BV rep q (λ c e=>by rw [e1] at e;cases e) (λ e=>by rw [e1] at e;cases e) λ y e w H1 ef l r t=>?_⟩;rw [e1] at ef;cases ef;obtain ⟨a',hσ',_,ws,ha,p,_⟩:=r.list hg ei hd;rw [hσ] at hσ';cases hσ';rw [(rep.vw t).sv rfl];split at q
  ·rename_i w dw ρ2 e2;split at q
   ·rename_i j ej;split at q
    ·rename_i v0 ev0;split at q
     ·rename_i hc;obtain ⟨u,eu,h⟩:=Ew p ev0;have hu:u=.int v0:=by
       rcases h with ⟨_,h⟩ | ⟨_,_,_,_,h,_⟩
       ·exact h.sv rfl
       ·cases h
      subst hu;refine ⟨a,ws,b,.int v0,rfl,rfl,.inl (.inl ha),(by unfold BG;rw [<- Paired.length p,ej];exact eu),BV r q (λ c e=>by rw [e2] at e;cases e) (λ e=>by rw [e2] at e;cases e) λ y e u H2 ef l2 r2 t2=>?_⟩;rw [e2] at ef;cases ef;rw [(r.vw t2).sv rfl];obtain ⟨a',hσ',ga',ws',ha',p',ds⟩:=r2.list hg ei hd;rw [hσ] at hσ';cases hσ';obtain ⟨g',r'⟩:=r2.setF (y:=.int (k v0 w)) (j:=j) (Z:=λ _=>False) hal hg ei hσ ga ha' p' ds hd hc.2 Le.refl rfl (.int _);exact ⟨_,_,rfl,rfl,a,ws',b,j,rfl,rfl,ha',by rw [<- Paired.length p'];exact ej,q _ _ g' r'⟩
     ·exact q.elim
    ·exact q.elim
   ·exact q.elim
  ·exact q.elim
 ·exact q.elim
def kS (hb:∀ k∈[i,j],M.al k=[]/\M.gh≠some k) (hq:tS M (Dg i j fa) D σ H):Ll i j (tL M fa vs) D σ H:=by
 obtain ⟨ρ,g,rep,q⟩:=hq;unfold Dg at q;refine Ub rep q (λ _ e=>by rw [e]) (λ e=>by rw [e]) λ xs ws H1 G e l r f t=>?_;rw [e] at q;dsimp only at q;split at q
 ·rename_i a d b e;split at q
  ·rename_i ρ2 ea;have t:=t.vw λ d a h ga=>rep.zdom h (f a ga);obtain ⟨u,w,rfl,h1,h2⟩:=RU t;rw [h1.sv rfl,h2.sv rfl];obtain ⟨_,_,e1,_,_,e2,z⟩:=RW [i,j] [.int a,.int b] [.int a,.int b] ρ σ H1 g ρ2 D.nx hb r (.cons (.int _) (.cons (.int _) .nil)) ea λ σ' g' r' _ _=>q σ' H1 g' r';cases e1;cases e2;exact ⟨_,_,rfl,z.2⟩
  ·exact q.elim
 ·exact q.elim
end
def Eg (en:List (PV×Nat)->Option (Int×Int)) (fa:Fa) (asg:PV->Af->Option Af) (body:Fs):Fs:=Fv (CK en fa) [] asg body
def Ot (fa:Fa) (asg:PV->Af->Option Af) (body:Fs):Fs:=Fv (Hf fa) [] asg body
def GK (f:Fx) (vs:List Nat) (asg:PV->Af->Option Af) (body:Fs):Fs:=Fv (CJ f) vs asg body
def Ra (v:Vw) (fa:Fa) (vs:List Nat) (asg:PV->Af->Option Af) (body:Fs):Fs:=Fv (Df v fa) vs asg body
def Cu (en:List (PV×Nat)->Option (Int×Int)) (fa:Fa) (k:Nat) (asg:PV->Af->Option Af) (test:Fb) (elt:Fx):Fx:=Ec (CK en fa) k asg test elt
def Cv (f:Fx) (k:Nat) (asg:PV->Af->Option Af) (test:Fb) (elt:Fx):Fx:=Ec (CJ f) k asg test elt
def DT (v:Vw) (fa:Fa) (k:Nat) (asg:PV->Af->Option Af) (test:Fb) (elt:Fx):Fx:=Ec (Df v fa) k asg test elt
def gE {vs:List Nat}{ρ:Af}:Bb om vs ρ=ρ:=if_pos rfl
def RawD (h:Heap) (d:Addr) (es:Array En) (ep:Nat):Prop:=∃ o,h.get? d=some o/\o.ExactDict/\o.data=.dict es ep
def RawD.to {h h':Heap}{d:Addr}{es:Array En}{ep:Nat} (x:RawD h d es ep) (k:∀ o,h.get? d=some o->h'.get? d=some o):RawD h' d es ep:=let ⟨o,e,r⟩:=x;⟨o,k o e,r⟩
section
variable {pg:AD}{wd:AA}{Ar:Bf}{Er:Ae->Ai->Prop}{st:Ai}{d it:Addr}{es:Array En}{ep i:Nat}
def RawD.ty (x:RawD st.heap d es ep):st.TypeIs (.ref d) "dict" := let ⟨o,e,c,_⟩:=x;⟨o,e,c.1⟩
def YE {Qv:Ae->Ai->Prop} (nm:(d == EE)=false) (x:RawD st.heap d es ep)
  (q:Qv (.ref st.heap.objs.size) { st with heap:=st.heap.push { cls:=.type "dict_keyiterator",data:=.fields #[.ref d,.int 0 0,.int es.size 0,.int ep 0] } }):
  Am (Ax pg wd) Ar (pyIter (.ref d)) Qv Er st:=by
 obtain ⟨o,e1,c1,e2⟩:=id x;have tD:st.TypeIs (.ref d) "dict" := x.ty;refine wpAny_pyIter_slot tD F.slot_dict_iter (FU F.slot_dict_iter tD F.entry_dict_iter ?_ (F.args_dict_iter_1 _));delta vl7.«dict.__iter__»;refine Ah ?_;delta Builtin.Dict.dictSlotNone;refine Ah (Qx tD (show Am _ _ (pure (Value.ref d)) _ _ st from Aq ?_));show Am _ _ (Lh d >>= _) _ _ st;delta Lh;rw [if_neg (by rw [nm];exact BK)];refine Ah (Aq (Ah (GZ e1 e2 (Ah (JQ e1 e2 (Ah (Es (Aq ⟨_,rfl,"dict_keyiterator",_,⟨_,Bw _ rfl,rfl⟩,F.slot_dict_keyiterator_next.lookup,?_⟩))))))));simpa [Dv] using q
def uG {Qv:Option Ae->Ai->Prop}{e:En} (ki:st.heap.IsKeyIter it d i es.size ep) (x:RawD st.heap d es ep) (hx:es[i]?=some e)
  (q:∀ hp,hp.IsKeyIter it d (i + 1) es.size ep->IA it st.heap hp->Qv (some e.key) { st with heap:=hp }):
  Am (Ax pg wd) Ar (Ek (.ref it)) Qv Er st:=by
 obtain ⟨u,i1,i2,i3⟩:=id ki;obtain ⟨o,e1,c1,e2⟩:=id x;delta Ek;refine Ah (JK (Hb (name:=G0 "__next__") ki.typeIs N7 (FU N7 ki.typeIs Vy ?_ (Vz _))));refine Ah (Aq (Ah (Ah ?_)))
 first | refine Ah (N8 ki.typeIs (Aq (Ah (JO i1 i3 ?_)))) | refine Ah (N1 ki.typeIs (Aq (Ah (JO i1 i3 ?_))))
 simp only [show Li "dict_keyiterator" = false from by decide,G7,if_false];show Am _ _ (if (Value.ref d == Value.none)=true then _ else _) _ _ st;have nn:¬ ((Value.ref d == Value.none)=true):=BK;rw [if_neg nn];refine Ah (Aq (Ah (GZ e1 e2 ?_)));rw [if_neg (by simp)];refine Ah (Aq (Ah (JQ e1 e2 ?_)));rw [if_neg (by simp)];refine Aq ?_;have nl:¬ ((i:Int) < 0):=by omega
 simp only [nl,if_false,CU,hx];refine Ah ?_
 first | refine Ah (N8 ki.typeIs (Aq (Ah (Qu ki.typeIs ?_)))) | refine Ah (N1 ki.typeIs (Aq (Ah (Qu ki.typeIs ?_))))
 show Am _ _ (setField (.ref it) 1 (Dv ((i:Int) + 1)) >>= _) _ _ st;refine Ah (JP i1 i3 (by simp) ?_);have k2:(st.heap.update it (Lb (·.setIfInBounds 1 (Dv ((i:Int) + 1))))).IsKeyIter it d (i + 1) es.size ep:=
  ⟨_,JU _ i1 (Qt (JR i3 _)),(Qk ..).trans i2,by rw [JR i3];simp [Dv]⟩
 refine Ah (ID (Ah (Qu (s:={ st with heap:=st.heap.update it (Lb (·.setIfInBounds 1 (Dv ((i:Int) + 1)))) }) k2.typeIs ?_)));show Am _ _ (pure e.key) _ _ _;exact Aq (Aq ⟨_,rfl,Aq (q _ k2 (JT ..))⟩)
end
def kP:A2->PV
 | .inl i=>.int i
 | .inr x=>.str x
def DH (k:List A2):PV:=.tup (k.map kP)
section
variable {X:Cx}
end
section
variable {K:Kx}{H:Hp}{Z:Addr->Prop}
theorem RZ:∀ (k:List A2),IsL K H Z (k.map kP) (k.map kV)
 | []=>.nil
 | .inl _::r=>.cons (.int _) (RZ r)
 | .inr _::r=>.cons (.str _) (RZ r)
def we {b:Addr}{k:List A2} (h:H b=some (.tup (k.map kV))):Is K H Z (DH k) (.ref b):=.tup h (RZ k)
end
section
variable {pg:AD}{wd:AA}{Ar:Bf}{Er:Ae->Ai->Prop}{st:Ai}{d it:Addr}{es:Array En}{ep i:Nat}
def bD {Qv:Option Ae->Ai->Prop} (hd0:Ar.handled=none) (ki:st.heap.IsKeyIter it d i es.size ep) (x:RawD st.heap d es ep) (hge:es.size<=i)
  (q:∀ hp,Heap.ExtBut it st.heap hp->Qv none { st with heap:=hp }):Am (Ax pg wd) Ar (Ek (.ref it)) Qv Er st:=by
 obtain ⟨u,i1,i2,i3⟩:=id ki;obtain ⟨o,e1,c1,e2⟩:=id x;delta Ek;refine Ah (JK (Hb (name:=G0 "__next__") ki.typeIs N7 (FU N7 ki.typeIs Vy ?_ (Vz _))));refine Ah (Aq (Ah (Ah ?_)))
 first | refine Ah (N8 ki.typeIs (Aq (Ah (JO i1 i3 ?_)))) | refine Ah (N1 ki.typeIs (Aq (Ah (JO i1 i3 ?_))))
 simp only [show Li "dict_keyiterator" = false from by decide,G7,if_false];show Am _ _ (if (Value.ref d == Value.none)=true then _ else _) _ _ st;have nn:¬ ((Value.ref d == Value.none)=true):=BK;rw [if_neg nn];refine Ah (Aq (Ah (GZ e1 e2 ?_)));rw [if_neg (by simp)];refine Ah (Aq (Ah (JQ e1 e2 ?_)));rw [if_neg (by simp)];refine Aq ?_;have nl:¬ ((i:Int) < 0):=by omega
 simp only [nl,if_false,CU,Jb hge];refine Ah ?_
 first | refine Ah (N8 ki.typeIs (Aq ?_)) | refine Ah (N1 ki.typeIs (Aq ?_))
 show Am _ _ (setField (.ref it) 0 .none >>= _) _ _ st;refine Ah (JP i1 i3 (by simp) ?_);show Am _ _ (newExc (.type "StopIteration") [] >>= _) _ _ _;refine Ah ?_;simp only [newExc,newTuple];refine Ah (Es (Ah (m:=JN _ _) (wpAny_of_eq (a:=Value.none) (by first | rfl | (simp only [JN];rfl)) (Es ?_ (by size_fits)))) (by size_fits));simp only [raiseNew];refine Ah (wpAny_handled ?_);rw [show Ar.in1.handled=none from hd0];refine Ah (Aq (wpAny_throw (E:=_) ?_));refine Ah (Ld (b:=true) (T := "StopIteration") ⟨_,Bw _ rfl,rfl⟩ Qd ?_);exact Aq (q _ (((JT ..).extBut.push _).push _))
def Vb {v:Addr}{Qv:Ae->Ai->Prop} (hv:st.heap.IsValuesView v d) (x:RawD st.heap d es ep)
  (q:Qv (.ref st.heap.objs.size) { st with heap:=st.heap.push { cls:=.type "dict_valueiterator",data:=.fields #[.ref d,.int 0 0,.int es.size 0,.int ep 0] } }):
  Am (Ax pg wd) Ar (pyIter (.ref v)) Qv Er st:=by
 obtain ⟨ov,hov,hcv,hdv⟩:=id hv;obtain ⟨o,e1,c1,e2⟩:=id x;refine wpAny_pyIter_slot hv.typeIs F.slot_dict_values_iter (FU F.slot_dict_values_iter hv.typeIs F.entry_dict_values_iter ?_ (F.args_dict_values_iter_1 _));delta vl7.«dict_values.__iter__»;refine Ah (Aq ?_);refine Ah ?_;delta Builtin.Dict_items.dictOf;refine Ah (DZ hov hdv (x:=.ref d) rfl (Aq ?_));refine Ah ?_;delta Builtin.Dict_items.newIterator;refine Ah (GZ e1 e2 ?_);refine Ah (JQ e1 e2 ?_);have hown:Li "dict_valueiterator" = false:=by decide
 simp only [hown,G7,if_false];refine Es (Aq ⟨_,rfl,"dict_valueiterator",_,⟨_,Bw _ rfl,rfl⟩,F.slot_dict_valueiterator_next.lookup,?_⟩);simpa [Dv] using q
def bF {Qv:Option Ae->Ai->Prop}{e:En} (ki:st.heap.IsValIter it d i es.size ep) (x:RawD st.heap d es ep) (hx:es[i]?=some e)
  (q:∀ hp,hp.IsValIter it d (i + 1) es.size ep->IA it st.heap hp->Qv (some e.val) { st with heap:=hp }):
  Am (Ax pg wd) Ar (Ek (.ref it)) Qv Er st:=by
 obtain ⟨u,i1,i2,i3⟩:=id ki;obtain ⟨o,e1,c1,e2⟩:=id x;delta Ek;refine Ah (JK (Hb (name:=G0 "__next__") ki.typeIs NA (FU NA ki.typeIs V1 ?_ (V3 _))));refine Ah (Aq ?_);refine Ah ?_;refine Ah ?_
 first | refine Ah (N9 ki.typeIs (Aq ?_)) | refine Ah (N3 ki.typeIs (Aq ?_))
 refine Ah (JO i1 i3 ?_);simp only [show Li "dict_valueiterator" = false from by decide,G7,if_false];show Am _ _ (if (Value.ref d == Value.none)=true then _ else _) _ _ st;rw [if_neg (show ¬ ((Value.ref d == Value.none)=true) from BK)];refine Ah (Aq ?_);refine Ah (GZ e1 e2 ?_);rw [if_neg (by simp)];refine Ah (Aq ?_);refine Ah (JQ e1 e2 ?_);rw [if_neg (by simp)];refine Aq ?_;simp only [show ¬ ((i:Int) < 0) from by omega,if_false,CU,hx];refine Ah ?_
 first | refine Ah (N9 ki.typeIs (Aq ?_)) | refine Ah (N3 ki.typeIs (Aq ?_))
 refine Ah (Qw ki.typeIs ?_);show Am _ _ (setField (.ref it) 1 (Dv ((i:Int) + 1)) >>= _) _ _ st;refine Ah (JP i1 i3 (by simp) ?_);have k2:(st.heap.update it (Lb (·.setIfInBounds 1 (Dv ((i:Int) + 1))))).IsValIter it d (i + 1) es.size ep:=
  ⟨_,JU _ i1 (Qt (JR i3 _)),(Qk ..).trans i2,by rw [JR i3];simp [Dv]⟩
 refine Ah (ID ?_);refine Ah (Qw (s:={ st with heap:=st.heap.update it (Lb (·.setIfInBounds 1 (Dv ((i:Int) + 1)))) }) k2.typeIs ?_);refine Ah (Qw (s:={ st with heap:=st.heap.update it (Lb (·.setIfInBounds 1 (Dv ((i:Int) + 1)))) }) k2.typeIs ?_);show Am _ _ (pure e.val) _ _ _;exact Aq (Aq ⟨_,rfl,Aq (q _ k2 (JT ..))⟩)
def bE {Qv:Option Ae->Ai->Prop} (hd0:Ar.handled=none) (ki:st.heap.IsValIter it d i es.size ep) (x:RawD st.heap d es ep) (hge:es.size<=i)
  (q:∀ hp,Heap.ExtBut it st.heap hp->Qv none { st with heap:=hp }):Am (Ax pg wd) Ar (Ek (.ref it)) Qv Er st:=by
 obtain ⟨u,i1,i2,i3⟩:=id ki;obtain ⟨o,e1,c1,e2⟩:=id x;delta Ek;refine Ah (JK (Hb (name:=G0 "__next__") ki.typeIs NA (FU NA ki.typeIs V1 ?_ (V3 _))));refine Ah (Aq ?_);refine Ah ?_;refine Ah ?_
 first | refine Ah (N9 ki.typeIs (Aq ?_)) | refine Ah (N3 ki.typeIs (Aq ?_))
 refine Ah (JO i1 i3 ?_);simp only [show Li "dict_valueiterator" = false from by decide,G7,if_false];show Am _ _ (if (Value.ref d == Value.none)=true then _ else _) _ _ st;rw [if_neg (show ¬ ((Value.ref d == Value.none)=true) from BK)];refine Ah (Aq ?_);refine Ah (GZ e1 e2 ?_);rw [if_neg (by simp)];refine Ah (Aq ?_);refine Ah (JQ e1 e2 ?_);rw [if_neg (by simp)];refine Aq ?_;simp only [show ¬ ((i:Int) < 0) from by omega,if_false,CU,Jb hge];refine Ah ?_
 first | refine Ah (N9 ki.typeIs (Aq ?_)) | refine Ah (N3 ki.typeIs (Aq ?_))
 show Am _ _ (setField (.ref it) 0 .none >>= _) _ _ st;refine Ah (JP i1 i3 (by simp) ?_);show Am _ _ (newExc (.type "StopIteration") [] >>= _) _ _ _;refine Ah ?_;simp only [newExc,newTuple];refine Ah (Es ?_ (by size_fits));refine Ah (m:=JN _ _) (wpAny_of_eq (a:=Value.none) (by first | rfl | (simp only [JN];rfl)) ?_);refine Es ?_ (by size_fits);simp only [raiseNew];refine Ah (wpAny_handled ?_);rw [show Ar.in1.handled=none from hd0];refine Ah (Aq (wpAny_throw (E:=_) ?_));refine Ah (Ld (b:=true) (T := "StopIteration") ⟨_,Bw _ rfl,rfl⟩ Qd ?_);exact Aq (q _ (((JT ..).extBut.push _).push _))
end
def Ul (a:Addr) (o:Obj) (kvs:List (List A2×V)):It:=⟨λ i H=>H a=some (.frz o (.dT kvs))/\i < kvs.length,λ i H v H'=>H'=H/\∃ b p,v=.ref b/\kvs[i]?=some p/\H b=some (.tup (p.1.map kV)),λ i H=>H a=some (.frz o (.dT kvs))/\kvs.length<=i⟩
def Uj (a:Addr) (o:Obj) (kvs:List (List A2×V)):It:=⟨λ i H=>H a=some (.frz o (.dT kvs))/\i < kvs.length,λ i H v H'=>H'=H/\∃ p,v=p.2/\kvs[i]?=some p,λ i H=>H a=some (.frz o (.dT kvs))/\kvs.length<=i⟩
theorem Pa {α β:Type}{R:α->β->Prop}:∀ {xs:List α}{ys:List β},Bv R xs ys->∀ {i:Nat}{x:α},xs[i]?=some x->∃ y,ys[i]?=some y/\R x y
 | _,_,.nil,i,x,e=>by simp at e
 | _,_,.cons h t,0,x,e=>by simp at e;subst e;exact ⟨_,rfl,h⟩
 | _,_,.cons h t,i + 1,x,e=>by
  rw [qc] at e ⊢;exact Pa t e
theorem Pb {α β:Type}{R:α->β->Prop}:∀ {xs:List α}{ys:List β},Bv R xs ys->xs.length=ys.length
 | _,_,.nil=>rfl
 | _,_,.cons _ t=>by rw [B8,B8,Pb t]
def NQ {X:Cx}{pins:List (Addr×Obj)}{σ:St}{H:Hp}{s:Ai}{a:Addr}{o:Obj}{kvs:List (List A2×V)}{es:Array En}{ep:Nat} (I:Inv X pins σ H s) (hd:o.data=.dict es ep) (h:H a=some (.frz o (.dT kvs))):
  s.heap.get? a=some o/\o.ExactDict/\es.size=kvs.length/\∀ (i:Nat) (p:List A2×V),kvs[i]?=some p->∃ (e:En) (b:Addr),es[i]?=some e/\e.key=.ref b/\H b=some (.tup (p.1.map kV))/\RelV p.2 e.val:=by
 obtain ⟨e0,hz,nm,ys,pr,o',es',ep',e1,c1,d1,l1,nd⟩:=(show zxg X.prog X.w H s.heap a (.frz o (.dT kvs)) from I.hok a _ h)
 cases e0.symm.trans e1;cases hd.symm.trans d1;have hl:es.size=ys.length:=by rw [<- Kl,l1,AJ]
 refine ⟨e0,c1,by rw [hl,Pb pr],λ i p hp=>?_⟩;obtain ⟨q,hq,hk,hb,hv⟩:=Pa pr hp;refine ⟨JI (FR (Cy X.prog X.w)) q,q.2.1,?_,rfl,hb,hv⟩;rw [<- SS,l1,CL,hq];rfl
def Vi {P:AD}{w:AA}{K:Frag}{tg:Expr}{o:Obj}{kvs:List (List A2×V)}{es:Array En}{ep:Nat} (hd:o.data=.dict es ep) (a it:Addr):Turn P w K tg (Ul a o kvs) [it] it (λ i h=>h.IsKeyIter it a i es.size ep) where
 mem:=by simp
 obj:=λ i h st b hb=>by
  have e:b=it:=by simpa using hb
  subst e;obtain ⟨o,e,c,d⟩:=st;exact ⟨o,e,λ v z=>by rw [d] at z;cases z⟩
 keep:=λ i h h' st k=>st.at λ o e=>k it (by simp) o e
 item:=by
  intro X hP hw hK hc i pins s σ H E I hf st hg;subst hP hw hK;obtain ⟨h1,hi⟩:=hg;obtain ⟨e0,c0,sz,at'⟩:=NQ I hd h1;obtain ⟨f0,f1,f2,f3,f4,f5⟩:=hf it (by simp);have hx:kvs[i]?=some kvs[i]:=BU hi;obtain ⟨en,b,he,ek,hb,_⟩:=at' i _ hx;refine uG st ⟨o,e0,c0,hd⟩ he λ hp k2 sb=>?_;have I1:Inv X pins σ H { s with heap:=hp }:=I.turned (t':=s.toks) (λ b o hb e=>(sb.2 b hb).trans e) f0 f1 f3 f4 f5;obtain ⟨o',e,c,d⟩:=id k2;refine ⟨en.key,rfl,HE (s:={ s with heap:=hp }) e c d (by decide) ⟨.ref b,H,I1,ek,⟨rfl,b,_,rfl,hx,hb⟩,k2,λ b hb=>(hf b hb).1⟩⟩
 done:=by
  intro X hP hw hK hc i pins s σ H E I hf st hg;subst hP hw hK;obtain ⟨h1,hi⟩:=hg;obtain ⟨e0,c0,sz,at'⟩:=NQ I hd h1;obtain ⟨f0,f1,f2,f3,f4,f5⟩:=hf it (by simp);exact bD (I.ok.hd hc) st ⟨o,e0,c0,hd⟩ (by omega) λ h' eb=>⟨rfl,I.turned (t':=s.toks) (λ b o hb e=>eb b o hb e) f0 f1 f3 f4 f5⟩
 self:=λ _ _ _ _ _ st h=>wpAny_pyIter_keyiter st h
def Vj {P:AD}{w:AA}{K:Frag}{tg:Expr}{o:Obj}{kvs:List (List A2×V)}{es:Array En}{ep:Nat} (hd:o.data=.dict es ep) (a it:Addr):Turn P w K tg (Uj a o kvs) [it] it (λ i h=>h.IsValIter it a i es.size ep) where
 mem:=by simp
 obj:=λ i h st b hb=>by
  have e:b=it:=by simpa using hb
  subst e;obtain ⟨o,e,c,d⟩:=st;exact ⟨o,e,λ v z=>by rw [d] at z;cases z⟩
 keep:=λ i h h' st k=>st.at λ o e=>k it (by simp) o e
 item:=by
  intro X hP hw hK hc i pins s σ H E I hf st hg;subst hP hw hK;obtain ⟨h1,hi⟩:=hg;obtain ⟨e0,c0,sz,at'⟩:=NQ I hd h1;obtain ⟨f0,f1,f2,f3,f4,f5⟩:=hf it (by simp);have hx:kvs[i]?=some kvs[i]:=BU hi;obtain ⟨en,b,he,ek,hb,hv⟩:=at' i _ hx;refine bF st ⟨o,e0,c0,hd⟩ he λ hp k2 sb=>?_;have I1:Inv X pins σ H { s with heap:=hp }:=I.turned (t':=s.toks) (λ b o hb e=>(sb.2 b hb).trans e) f0 f1 f3 f4 f5;obtain ⟨o',e,c,d⟩:=id k2;refine ⟨en.val,rfl,HE (s:={ s with heap:=hp }) e c d (by decide) ⟨kvs[i].2,H,I1,hv,⟨rfl,_,rfl,hx⟩,k2,λ b hb=>(hf b hb).1⟩⟩
 done:=by
  intro X hP hw hK hc i pins s σ H E I hf st hg;subst hP hw hK;obtain ⟨h1,hi⟩:=hg;obtain ⟨e0,c0,sz,at'⟩:=NQ I hd h1;obtain ⟨f0,f1,f2,f3,f4,f5⟩:=hf it (by simp);exact bE (I.ok.hd hc) st ⟨o,e0,c0,hd⟩ (by omega) λ h' eb=>⟨rfl,I.turned (t':=s.toks) (λ b o hb e=>eb b o hb e) f0 f1 f3 f4 f5⟩
 self:=λ _ _ _ _ _ st h=>wpAny_pyIter_valiter st h
section
variable {X:Cx}{pins:List (Addr×Obj)}{σ:St}{H:Hp}{s:Ai}{a:Addr}{kvs:List (List A2×V)}{o:Obj}
def Gr (X:Cx) (a:Addr):Prop:=∀ o u,X.H₀ a≠some (.frz o u)
def Xu (I:Inv X pins σ H s) (h:H a=some (.dT kvs)):∃ o es ep,s.heap.get? a=some o/\o.ExactDict/\o.data=.dict es ep/\(a == EE)=false/\Inv X pins σ (As H a (.frz o (.dT kvs))) s/\Gr X a:=by
 have hO:=(show zxg X.prog X.w H s.heap a (.dT kvs) from I.hok a _ h)
 obtain ⟨hz,nm,ys,pr,o,es,ep,e1,c1,d1,l1,nd⟩:=id hO;have na:∀ b u,H b=some u->u≠.dT kvs->b≠a:=λ b u q n z=>by subst z;rw [h] at q;cases q;exact n rfl
 have nn:∀ b,H b=none->b≠a:=λ b q z=>by subst z;rw [h] at q;cases q
 have tp:∀ b xs,H b=some (.tup xs)->As H a (.frz o (.dT kvs)) b=some (.tup xs):=λ b xs q=>by rw [AL (na b _ q (λ z=>nomatch z))];exact q
 refine ⟨o,es,ep,e1,c1,d1,nm,⟨I.ok,I.os,I.bare,⟨I.base.keep,I.base.slot,λ b ob q n hx=>?_,I.base.there,λ b xs q=>tp b xs (I.base.tups b xs q),λ b ob u q=>?_,λ b ps q=>?_⟩,I.loc,I.cell,?_,λ x c q=>?_,λ p hp=>?_,λ b u q=>?_,I.len⟩,λ ob u z=>?_⟩
 ·have:=I.base.free b ob q n hx
  rw [AL (nn b this)];exact this
 ·have:=I.base.frzs b ob u q
  rw [AL (na b _ this (λ z=>nomatch z))];exact this
 ·obtain ⟨m,z⟩:=I.base.tbls b ps q;exact ⟨m,by rw [AL (na b _ z (λ z=>nomatch z))];exact z⟩
 ·rw [AL (nn _ I.free)];exact I.free
 ·rw [AL (nn _ (I.freeC x c q))];exact I.freeC x c q
 ·obtain ⟨p1,p2,p3⟩:=I.pin p hp;exact ⟨p1,by rw [AL (nn _ p2)];exact p2,p3⟩
 ·have stay:∀ {b:Addr}{u:HO},zxg X.prog X.w H s.heap b u->zxg X.prog X.w (As H a (.frz o (.dT kvs))) s.heap b u:=λ x=>x.stay (λ _ _ _ e=>e) (λ c q=>by rw [AL (na c _ q (λ z=>nomatch z))];exact q) tp;by_cases hb:b=a
  ·subst hb;rw [BI] at q;cases q;exact ⟨e1,stay hO⟩
  ·rw [AL hb] at q;exact stay (I.hok b u q)
 ·have:=I.base.frzs a ob u z
  rw [h] at this;cases this
def Od (I:Inv X pins σ H s) (h:H a=some (.frz o (.dT kvs))) (hX:Gr X a):Inv X pins σ (As H a (.dT kvs)) s:=by
 have hO:=(show zxg X.prog X.w H s.heap a (.frz o (.dT kvs)) from I.hok a _ h)
 have na:∀ b u,H b=some u->u≠.frz o (.dT kvs)->b≠a:=λ b u q n z=>by subst z;rw [h] at q;cases q;exact n rfl
 have nn:∀ b,H b=none->b≠a:=λ b q z=>by subst z;rw [h] at q;cases q
 have tp:∀ b xs,H b=some (.tup xs)->As H a (.dT kvs) b=some (.tup xs):=λ b xs q=>by rw [AL (na b _ q (λ z=>nomatch z))];exact q
 refine ⟨I.ok,I.os,I.bare,⟨I.base.keep,I.base.slot,λ b ob q n hx=>?_,I.base.there,λ b xs q=>tp b xs (I.base.tups b xs q),λ b ob u q=>?_,λ b ps q=>?_⟩,I.loc,I.cell,?_,λ x c q=>?_,λ p hp=>?_,λ b u q=>?_,I.len⟩
 ·have:=I.base.free b ob q n hx
  rw [AL (nn b this)];exact this
 ·have:=I.base.frzs b ob u q
  rw [AL (λ z=>hX ob u (by rw [<- z];exact q))];exact this
 ·obtain ⟨m,z⟩:=I.base.tbls b ps q;exact ⟨m,by rw [AL (na b _ z (λ z=>nomatch z))];exact z⟩
 ·rw [AL (nn _ I.free)];exact I.free
 ·rw [AL (nn _ (I.freeC x c q))];exact I.freeC x c q
 ·obtain ⟨p1,p2,p3⟩:=I.pin p hp;exact ⟨p1,by rw [AL (nn _ p2)];exact p2,p3⟩
 ·have stay:∀ {b:Addr}{u:HO},zxg X.prog X.w H s.heap b u->zxg X.prog X.w (As H a (.dT kvs)) s.heap b u:=λ x=>x.stay (λ _ _ _ e=>e) (λ c q=>by rw [AL (na c _ q (λ z=>nomatch z))];exact q) tp;by_cases hb:b=a
  ·subst hb;rw [BI] at q;cases q;exact stay hO.2
  ·rw [AL hb] at q;exact stay (I.hok b u q)
def Cq (X:Cx) (D:Ends):Ends where
 nx:=λ σ H=>D.nx σ H\/∃ a o kvs,H a=some (.frz o (.dT kvs))/\Gr X a/\D.nx σ (As H a (.dT kvs))
 rt:=λ v H=>D.rt v H\/∃ a o kvs,H a=some (.frz o (.dT kvs))/\Gr X a/\D.rt v (As H a (.dT kvs))
 bk:=λ σ H=>D.bk σ H\/∃ a o kvs,H a=some (.frz o (.dT kvs))/\Gr X a/\D.bk σ (As H a (.dT kvs))
 ct:=λ σ H=>D.ct σ H\/∃ a o kvs,H a=some (.frz o (.dT kvs))/\Gr X a/\D.ct σ (As H a (.dT kvs))
theorem XA {st:Stmt}{t:TS} (h:PS X st t):PS X st (λ D σ H=>t (Cq X D) σ H):=by
 intro pins s σ H D I q;refine A0 (h pins s σ H (Cq X D) I q) λ f s' z=>?_;cases f with
 | next=>
  obtain ⟨σ',H',I',q | ⟨a,o,kvs,ha,hX,q⟩⟩:=z
  ·exact ⟨σ',H',I',q⟩
  ·exact ⟨σ',_,Od I' ha hX,q⟩
 | brk=>
  obtain ⟨σ',H',I',q | ⟨a,o,kvs,ha,hX,q⟩⟩:=z
  ·exact ⟨σ',H',I',q⟩
  ·exact ⟨σ',_,Od I' ha hX,q⟩
 | cont=>
  obtain ⟨σ',H',I',q | ⟨a,o,kvs,ha,hX,q⟩⟩:=z
  ·exact ⟨σ',H',I',q⟩
  ·exact ⟨σ',_,Od I' ha hX,q⟩
 | ret u=>
  obtain ⟨v,σ',H',I',r,q | ⟨a,o,kvs,ha,hX,q⟩⟩:=z
  ·exact ⟨v,σ',H',I',r,q⟩
  ·exact ⟨v,σ',_,Od I' ha hX,r,q⟩
def zC {st:Stmt}{t u:TS} (h:PS X st t) (h':PS X st u):PS X st (λ D σ H=>t D σ H\/u D σ H):=λ pins s σ H D I q=>q.elim (h pins s σ H D I) (h' pins s σ H D I)
def VG (X:Cx) (tl:TE):TI:=λ σ H R=>tl σ H λ x H1=>∃ a kvs,x=.ref a/\((H1 a=some (.dT kvs)/\∀ o,Gr X a->R (Ul a o kvs) (As H1 a (.frz o (.dT kvs))))\/∃ o,H1 a=some (.frz o (.dT kvs))/\R (Ul a o kvs) H1)
def wQ {tg l:Expr}{tl:TE} (hl:PE X l tl):PI X tg l (VG X tl):=by
 intro pins s σ H R I h;refine A0 (hl pins s σ H _ I h) λ v s1 ⟨x,H1,I1,r1,q1⟩=>?_;obtain ⟨a,kvs,rfl,⟨ha,q⟩ | ⟨o,ha,q⟩⟩:=q1
 ·cases r1;obtain ⟨o,es,ep,e0,c0,d0,nm,I2,hX⟩:=Xu I1 ha;refine YE nm ⟨o,e0,c0,d0⟩ ?_;refine ⟨s1.heap.objs.size,[s1.heap.objs.size],_,_,_,rfl,I2.kept (t':=s1.toks) λ b o e=>AS _ e,Vi d0 a _,⟨_,Bw _ rfl,rfl,rfl⟩,λ b hb=>?_,q o hX⟩;have e:b=s1.heap.objs.size:=by simpa using hb
  subst e;exact I2.fpOk (A4 _) (I2.hok.fresh (A4 _))
 ·cases r1;obtain ⟨e0,hz,nm,ys,pr,o',es,ep,e1,c1,d1,l1,nd⟩:=(show zxg X.prog X.w H1 s1.heap a (.frz o (.dT kvs)) from I1.hok a _ ha)
  cases e0.symm.trans e1;refine YE nm ⟨o,e0,c1,d1⟩ ?_;refine ⟨s1.heap.objs.size,[s1.heap.objs.size],_,_,_,rfl,I1.kept (t':=s1.toks) λ b o e=>AS _ e,Vi d1 a _,⟨_,Bw _ rfl,rfl,rfl⟩,λ b hb=>?_,q⟩;have e:b=s1.heap.objs.size:=by simpa using hb
  subst e;exact I1.fpOk (A4 _) (I1.hok.fresh (A4 _))
def bR {pg:AD}{wd:AA} (d:Addr) (hd:(d == EE)=false):
  MeetsIn pg wd (vl7.«dict.values» ⟨[.ref d],[]⟩) (λ _ R s=>s.TypeIs (.ref d) "dict" /\
   R (.ok (.ret (.ref s.heap.objs.size))) { s with heap:=s.heap.push { cls:=.type "dict_values",data:=.fields #[.ref d] } }):=
 .of_wp λ A R s ⟨hm,h⟩=>by
  refine Ah ?_;delta Builtin.Dict.noArgs;refine Ah (Qx hm ?_);show Am _ _ (pure d) _ _ s;refine Aq ?_;show Am _ _ (Lh d >>= _) _ _ s;delta Lh;rw [if_neg (by rw [hd];exact BK)];refine Ah (Aq ?_);exact Ah (Es (Aq ⟨_,rfl,h⟩))
def Wl (to:TE):TE:=λ σ H Q=>to σ H λ x H1=>∃ a kvs,x=.ref a/\Rd H1 a (.dT kvs)/\∀ v,H1 v=none->Q (.ref v) (As H1 v (.ext λ h=>h.IsValuesView v a))
def wM {o:Expr}{to:TE}{apos cpos:Pos} (ho:PE X o to) (hbase:attributeBase o "values" X.env (eval o X.env)=eval o X.env:=by rfl) (hline:(apos.endLine == cpos.line)=true:=by rfl):PE X (.Call (.Attribute o "values" apos) [] [] cpos) (Wl to):=by
 intro pins s σ H Q I h;refine wpAny_Call_method0_late hbase hline (A0 (ho pins s σ H _ I h) λ v s1 ⟨x,H1,I1,r1,a,kvs,ex,rd,q⟩=>?_);subst ex;cases r1;obtain ⟨hz,nm,ys,pr,ob,es,ep,e1,c1,d1,l1,nd⟩:=(show zxg X.prog X.w H1 s1.heap a (.dT kvs) from Rd.ok rd I1.hok)
 have ty:s1.TypeIs (.ref a) "dict" := ⟨ob,e1,c1.1⟩
 refine ⟨"dict","dict.values",PySem.F.plainAttrs_dict,PySem.F.slot_dict_values,PySem.F.type_dict_values,ty,λ b e=>by cases e;exact ⟨ob,e1,c1.2.1⟩,Calls.callWith_builtin rfl (PySem.evalArgs_none ?_)⟩;refine call_meetsIn PySem.F.slot_dict_values ty PySem.F.entry_dict_values (PySem.F.args_dict_values_1 _) (bR a nm) ⟨ty,?_⟩;refine ⟨.ref s1.heap.objs.size,_,I1.laid (t':=s1.toks) (λ b o e=>AS _ e) (A4 _) ?_,rfl,q _ (I1.hok.fresh (A4 _))⟩;exact ⟨⟨_,Bw _ rfl,rfl,rfl⟩,⟨_,Bw _ rfl⟩,λ h1 h2 x k=>by obtain ⟨o,e,r⟩:=x;exact ⟨o,k o e,r⟩⟩
def VL (X:Cx) (tl:TE):TI:=λ σ H R=>tl σ H λ x H1=>∃ v a kvs,x=.ref v/\H1 v=some (.ext λ h=>h.IsValuesView v a)/\((H1 a=some (.dT kvs)/\∀ o,Gr X a->R (Uj a o kvs) (As H1 a (.frz o (.dT kvs))))\/∃ o,H1 a=some (.frz o (.dT kvs))/\R (Uj a o kvs) H1)
def wR {tg l:Expr}{tl:TE} (hl:PE X l tl):PI X tg l (VL X tl):=by
 intro pins s σ H R I h;refine A0 (hl pins s σ H _ I h) λ v s1 ⟨x,H1,I1,r1,q1⟩=>?_;obtain ⟨vv,a,kvs,rfl,hv,q1⟩:=q1;cases r1;have view:s1.heap.IsValuesView vv a:=(show zxg X.prog X.w H1 s1.heap vv (.ext λ h=>h.IsValuesView vv a) from I1.hok vv _ hv).1;rcases q1 with ⟨ha,q⟩ | ⟨o,ha,q⟩
 ·obtain ⟨o,es,ep,e0,c0,d0,nm,I2,hX⟩:=Xu I1 ha;refine Vb view ⟨o,e0,c0,d0⟩ ?_;refine ⟨s1.heap.objs.size,[s1.heap.objs.size],_,_,_,rfl,I2.kept (t':=s1.toks) λ b o e=>AS _ e,Vj d0 a _,⟨_,Bw _ rfl,rfl,rfl⟩,λ b hb=>?_,q o hX⟩;have e:b=s1.heap.objs.size:=by simpa using hb
  subst e;exact I2.fpOk (A4 _) (I2.hok.fresh (A4 _))
 ·obtain ⟨e0,hz,nm,ys,pr,o',es,ep,e1,c1,d1,l1,nd⟩:=(show zxg X.prog X.w H1 s1.heap a (.frz o (.dT kvs)) from I1.hok a _ ha)
  cases e0.symm.trans e1;refine Vb view ⟨o,e0,c1,d1⟩ ?_;refine ⟨s1.heap.objs.size,[s1.heap.objs.size],_,_,_,rfl,I1.kept (t':=s1.toks) λ b o e=>AS _ e,Vj d1 a _,⟨_,Bw _ rfl,rfl,rfl⟩,λ b hb=>?_,q⟩;have e:b=s1.heap.objs.size:=by simpa using hb
  subst e;exact I1.fpOk (A4 _) (I1.hok.fresh (A4 _))
end
def Oo:Rs->Bool
 | .exc _=>false
 | _=>true
def Et (r:Rs):Rs:=if Oo r=true then r else .no
def Gq (f:Fx) (vs:List Nat) (asg:PV->Af->Option Af) (body:Fs):Fs:=λ ρ=>match f ρ with
 | .ok (.dcl ks _,d,ρ1)=>Et (Ck asg body (ks.map DH) (Bb d vs ρ1))
 | _=>GK f vs asg body ρ
def Kb (f:Fx) (vs:List Nat) (asg:PV->Af->Option Af) (body:Fs):Fs:=λ ρ=>match f ρ with
 | .ok (.dcl _ xs,d,ρ1)=>Et (Ck asg body xs (Bb d vs ρ1))
 | _=>.no
def Fm.fz (M:Fm) (a:Addr) (o:Obj) (kvs:List (List A2×V)):Fm:={ M with H₀:=As M.H₀ a (.frz o (.dT kvs)) }
section
variable {M:Fm}{ρ ρ':Af}{σ σ':St}{H H' H0 H1:Hp}{g g' g1:Os}{vs is:List Nat}{K:Kx}{Z Z' G:Addr->Prop}{x:PV}{d i:Nat}{v:V}{a:Addr}{f:Fx}{D:Ends}{R:Rs}{kvs:List (List A2×V)}{o:Obj}{o1 o2:HO}{X:Cx}{tg:TG}{asg:PV->Af->Option Af}{body:Fs}
def DF (kvs:List (List A2×V)) (o:HO):Prop:=o=.dT kvs\/∃ u,o=.frz u (.dT kvs)
def DF.so (h:DF kvs o1):¬ So o1:=by rcases h with rfl | ⟨u,rfl⟩ <;> exact id
def K7 (h:H a=some o1) (h1:DF kvs o1) (h2:DF kvs o2):Kp K Z H (As H a o2):=λ b o eb=>by
 by_cases hb:b=a
 ·subst hb;rw [h] at eb;cases eb;exact .inr (.inr ⟨kvs,h1,h2.elim (λ e=>.inl (by rw [BI,e])) λ ⟨u,e⟩=>.inr ⟨u,by rw [BI,e]⟩⟩)
 ·exact .inl (by rw [AL hb];exact eb)
def MI (n:¬ G a):∀ b o,G b->H b=some o->As H a o2 b=some o:=λ b o gb e=>by rw [AL (by rintro rfl;exact n gb)];exact e
def Rep.turn {B:Hp} (r:Rep M ρ σ H g) (h:H a=some o1) (h1:DF kvs o1) (h2:DF kvs o2) (n:∀ i,¬ g.ow i a) (hn:∀ i b,g.ow i b->B b=none) (h0:Lx M.E B (As H a o2)) (le:M.E.Le (M.k g) B) (cl:M.cl=true->Le B (As H a o2)) (zd:∀ c b,M.Z c b->B b≠none):Rep { M with H₀:=B } ρ σ (As H a o2) g:=
 ⟨λ i x d e hg=>let ⟨v,hv,s⟩:=r.own i x d e hg;⟨v,hv,s.move (K7 h h1 h2) .rf (MI (n i)) λ _ q=>.inl q⟩,
  λ i hg=>let ⟨os,d,e,s⟩:=r.sto i hg;⟨os,d,e,s.move (K7 h h1 h2) (MI λ z=>by obtain ⟨o,so,e⟩:=s.st a z;rw [h] at e;cases e;exact h1.so so) λ _ q=>.inl q⟩,
  λ i b hb=>⟨hn i b hb,(r.new i b hb).2⟩,r.dj,λ b s=>⟨by
   by_cases hb:b=a
   ·rw [hb,BI];simp
   ·rw [AL hb];exact (r.st b s).1,(r.st b s).2⟩,h0,le,cl,r.ke,r.nw,zd,r.zt,r.len⟩
def PJ (h:M.H₀ a=some o1) (h1:¬ So o1) (l:Lx M.E M.H₀ H):H a=some o1:=(l a _ h).resolve_right λ z=>h1 z.2.1
def Rep.fz (r:Rep M ρ σ H g) (h:M.H₀ a=some (.dT kvs)):Rep (M.fz a o kvs) ρ σ (As H a (.frz o (.dT kvs))) g:=by
 have ha:=PJ h id r.h0;have up:∀ b u,As M.H₀ a (.frz o (.dT kvs)) b=some u->b=a\/(b≠a/\M.H₀ b=some u):=λ b u e=>by
  by_cases hb:b=a
  ·exact .inl hb
  ·rw [AL hb] at e;exact .inr ⟨hb,e⟩
 refine r.turn ha (.inl rfl) (.inr ⟨o,rfl⟩) (λ i z=>by rw [(r.new i a z).1] at h;cases h) (λ i b z=>?_) (λ b u e=>?_) ⟨r.le.kk,r.le.lc,r.le.st,λ b u e so s=>?_⟩ (λ c b u e=>?_) λ c b z=>?_
 ·have hb:=(r.new i b z).1;rw [AL λ q=>by rw [q,h] at hb;cases hb];exact hb
 ·rcases up b u e with rfl | ⟨n,e1⟩
  ·exact .inl (by rw [BI] at e ⊢;exact e)
  ·rw [AL n];exact r.h0 b u e1
 ·rcases up b u e with rfl | ⟨n,e1⟩
  ·rw [BI] at e;cases e;exact so.elim
  ·exact r.le.nw b u e1 so s
 ·rcases up b u e with rfl | ⟨n,e1⟩
  ·rw [BI] at e ⊢;exact e
  ·rw [AL n];exact r.cl c b u e1
 ·by_cases hb:b=a
  ·rw [hb,BI];simp
  ·rw [AL hb];exact r.zd c b z
def KG {b:Addr}{u:HO} (n:b≠a):(M.fz a o kvs).H₀ b=M.H₀ b:=AL n
def Yd (h:M.H₀ a=some (.dT kvs)) (l:Lx M.E (M.fz a o kvs).H₀ H):Lx M.E M.H₀ (As H a (.dT kvs)):=λ b u e=>by
 by_cases hb:b=a
 ·subst hb;rw [h] at e;exact .inl (by rw [BI];exact e)
 ·rw [AL hb];exact l b u ((KG (u:=u) hb).trans e)
def Yc {K':Kx} (h:M.H₀ a=some (.dT kvs)) (l:M.E.Le K' (M.fz a o kvs).H₀):M.E.Le K' M.H₀:=⟨l.kk,l.lc,l.st,λ b u e so s=>l.nw b u ((KG (u:=u) λ z=>by rw [z,h] at e;cases e;exact so).trans e) so s⟩
def Yk (h:M.H₀ a=some (.dT kvs)) (l:Le (M.fz a o kvs).H₀ H):Le M.H₀ (As H a (.dT kvs)):=λ b u e=>by
 by_cases hb:b=a
 ·subst hb;rw [h] at e;rw [BI];exact e
 ·rw [AL hb];exact l b u ((KG (u:=u) hb).trans e)
def QU:(M.fz a o kvs).H₀ a=some (.frz o (.dT kvs)):=BI
def ML {b:Addr} (h:M.H₀ a=some (.dT kvs)) (e:(M.fz a o kvs).H₀ b=none):M.H₀ b=none/\b≠a:=by
 have n:b≠a:=λ z=>by rw [z,QU] at e;cases e
 exact ⟨(KG (u:=.own a) n).symm.trans e,n⟩
def Rep.unfz (h:M.H₀ a=some (.dT kvs)) (r:Rep (M.fz a o kvs) ρ σ H g):H a=some (.frz o (.dT kvs))/\Rep M ρ σ (As H a (.dT kvs)) g:=by
 have ha:=PJ (M:=M.fz a o kvs) QU id r.h0;exact ⟨ha,r.turn (B:=M.H₀) ha (.inr ⟨o,rfl⟩) (.inl rfl) (λ i z=>(ML h (r.new i a z).1).2 rfl) (λ i b z=>(ML h (r.new i b z).1).1) (Yd h r.h0) (Yc h r.le) (λ c=>Yk h (r.cl c)) λ c b z e=>by
  by_cases hb:b=a
  ·rw [hb,h] at e;cases e
  ·exact r.zd c b z ((KG (u:=.own a) hb).trans e)⟩
theorem RsOk.fz (h:M.H₀ a=some (.dT kvs)) (hX:Gr X a) (ne:Oo R=true) (q:RsOk M D R):RsOk (M.fz a o kvs) (Cq X D) R:=by
 cases R with
 | no=>exact q
 | exc c=>cases ne
 | rt x d ρ'=>
  intro v H' g' f ⟨G,hG,s⟩;have ha:=PJ (M:=M.fz a o kvs) QU id f.lx;refine .inr ⟨a,o,kvs,ha,hX,q v _ g' ⟨Yd h f.lx,Yc h f.le,λ c=>Yk h (f.cl c),f.ke,λ i hg=>?_⟩ ⟨G,λ b z=>(ML h (hG b z)).1,s.move (K7 ha (.inr ⟨o,rfl⟩) (.inl rfl)) .rf (MI λ z=>(ML h (hG a z)).2 rfl) λ _ q=>.inl q⟩⟩;obtain ⟨os,d,e,s⟩:=f.sto i hg;exact ⟨os,d,e,s.move (K7 ha (.inr ⟨o,rfl⟩) (.inl rfl)) (MI λ z=>by obtain ⟨o,so,e⟩:=s.st a z;rw [ha] at e;cases e;exact so) λ _ q=>.inl q⟩
 | nx ρ'=>exact λ σ' H' g' r=>let ⟨ha,r'⟩:=r.unfz h;.inr ⟨a,o,kvs,ha,hX,q σ' _ g' r'⟩
 | bk ρ'=>exact λ σ' H' g' r=>let ⟨ha,r'⟩:=r.unfz h;.inr ⟨a,o,kvs,ha,hX,q σ' _ g' r'⟩
 | ct ρ'=>exact λ σ' H' g' r=>let ⟨ha,r'⟩:=r.unfz h;.inr ⟨a,o,kvs,ha,hX,q σ' _ g' r'⟩
theorem RsOk.thaw0 (q:RsOk M D R):RsOk M (Cq X D) R:=by
 cases R with
 | no=>exact q
 | exc c=>exact q
 | rt x d ρ'=>exact λ v H' g' f t=>.inl (q v H' g' f t)
 | _=>exact λ σ' H' g' r=>.inl (q σ' H' g' r)
def yl (q:RsOk M D (Et R)):Oo R=true/\RsOk M D R:=by
 unfold Et at q;by_cases h:Oo R=true
 ·rw [if_pos h] at q;exact ⟨h,q⟩
 ·rw [if_neg h] at q;exact q.elim
def Yh {ks:List (List A2)}{ws:List V}{p:List A2×V} (h:(ks.zip ws)[i]?=some p):ks[i]?=some p.1/\ws[i]?=some p.2:=by
 rw [qg] at h;exact h
def Y0 {J:Obj->It}{els:List PV} (r:Rep M ρ σ H g) (hr:Rd H a (.dT kvs)) (n:∀ i,¬ g.ow i a) (y:∀ o H',Kp (M.k g) (M.z g [] 0) H H'->(H a=some (.dT kvs)\/H'=H)->H' a=some (.frz o (.dT kvs))->Yl (M.k g) (M.z g [] 0) H' (J o) els) (hg:∀ B g,FH (M.at B g) [] is tg asg) (q:RsOk M D (Et (Ck asg body els ρ))):
  (H a=some (.dT kvs)/\∀ o,Gr X a->∃ W:Nat->Nat->St->Hp->Prop,(∃ m,W 0 m σ (As H a (.frz o (.dT kvs))))/\∀ i m σ H,W i m σ H->((J o).stop i H/\(Cq X D).nx σ H)\/((J o).go i H/\∃ N:St->Hp->Prop,(∀ σ' H',N σ' H'->∃ m',m' < m/\W (i + 1) m' σ' H')/\∀ x H',(J o).yld i H x H'->tg x σ H' λ σ2 H2=>(tX M body) { (Cq X D) with nx:=N,ct:=N,bk:=(Cq X D).nx } σ2 H2)) \/
  ∃ o,H a=some (.frz o (.dT kvs))/\∃ W:Nat->Nat->St->Hp->Prop,(∃ m,W 0 m σ H)/\∀ i m σ H,W i m σ H->((J o).stop i H/\(Cq X D).nx σ H)\/((J o).go i H/\∃ N:St->Hp->Prop,(∀ σ' H',N σ' H'->∃ m',m' < m/\W (i + 1) m' σ' H')/\∀ x H',(J o).yld i H x H'->tg x σ H' λ σ2 H2=>(tX M body) { (Cq X D) with nx:=N,ct:=N,bk:=(Cq X D).nx } σ2 H2):=by
 obtain ⟨ne,q⟩:=yl q;rcases hr with hr | ⟨o,hr⟩
 ·refine .inl ⟨hr,λ o hX=>?_⟩;obtain ⟨B,lB,cB,bH,rB,hB,hN⟩:=r.rebase;have hb:(M.at B g).H₀ a=some (.dT kvs):=(hB a _ hr).resolve_left λ ⟨i,z⟩=>n i z;exact Ru (M:=(M.at B g).fz a o kvs) (rB.fz hb) (y o _ (K7 hr (.inl rfl) (.inr ⟨o,rfl⟩)) (.inl hr) BI) hg (.fz hb hX ne (.base r lB cB q))
 ·exact .inr ⟨o,hr,Ru r (y o H Le.refl.kp (.inr rfl) hr) hg q.thaw0⟩
def Om {o1:HO} (k:Kq K Z H H') (h:H a=some o1) (m:¬ Mo o1) (s:¬ So o1):H' a=some o1:=(k a _ h).resolve_right λ z=>z.elim (λ z=>m z.2) λ z=>s z.2
def yL (hal:∀ i,M.al i=[]) (hg:∀ B g,FH (M.at B g) [] is tg asg) (hq:tS M (Gq f vs asg body) D σ H):
  Fe (Jg M.K (tE M f vs)) tg (tX M body) D σ H\/Fe (VG X (tE M f vs)) tg (tX M body) (Cq X D) σ H:=by
 obtain ⟨ρ,g,rep,q⟩:=id hq;unfold Gq at q;split at q
 ·rename_i ks xs d ρ1 ef;refine .inr (BV rep q (λ c e=>by rw [ef] at e;cases e) (λ e=>by rw [ef] at e;cases e) λ y e v H1 e1 l r t=>?_);rw [ef] at e1;cases e1;obtain ⟨g1,r1,ek,h1⟩:=r.cooled hal d vs;obtain ⟨a,ws,rfl,na,en,hr,ol⟩:=(ek ▸ (rep.vw t).weak λ a=>JF h1 rep.zt (.inr (by decide)):Is (M.k g1) H1 (M.z g1 [] 0) (.dcl ks xs) v).dcl;have lz:(ks.zip ws).length=(ks.map DH).length:=by rw [Mc,AJ];have:=ol.length;omega
  refine ⟨a,ks.zip ws,rfl,Y0 r1 hr (λ i z=>na (.inl ⟨i,z,.inr (by simp)⟩)) (λ o H' _ _ ha=>⟨λ H i k h=>⟨Om k ha id id,by rw [lz];exact h⟩,λ H i k h=>⟨Om k ha id id,by rw [lz];exact h⟩,λ H i x H2 k h y=>?_⟩) hg q⟩;obtain ⟨rfl,b,p',rfl,hp,hb⟩:=y;exact ⟨Le.refl,DH p'.1,by rw [CL,(Yh hp).1];rfl,λ _ _ _ _=>we hb⟩
 ·refine .inl ?_
  have:Fe (tI M (CJ f) vs) tg (tX M body) D σ H:=XW hal hg ⟨ρ,g,rep,q⟩
  exact VW this
def yM (hal:∀ i,M.al i=[]) (hg:∀ B g,FH (M.at B g) [] is tg asg) (hq:tS M (Kb f vs asg body) D σ H):Fe (VL X (Wl (tE M f vs))) tg (tX M body) (Cq X D) σ H:=by
 obtain ⟨ρ,g,rep,q⟩:=id hq;unfold Kb at q;split at q
 ·rename_i ks xs d ρ1 ef;refine BV rep q (λ c e=>by rw [ef] at e;cases e) (λ e=>by rw [ef] at e;cases e) λ y e v H1 e1 l r t=>?_;rw [ef] at e1;cases e1;obtain ⟨g1,r1,ek,h1⟩:=r.cooled hal d vs;obtain ⟨a,ws,rfl,na,en,hr,ol⟩:=(ek ▸ (rep.vw t).weak λ a=>JF h1 rep.zt (.inr (by decide)):Is (M.k g1) H1 (M.z g1 [] 0) (.dcl ks xs) v).dcl;refine ⟨a,ks.zip ws,rfl,hr,λ vw hvw=>⟨vw,a,ks.zip ws,rfl,BI,?_⟩⟩;have lw:=DU (o:=.ext λ h=>h.IsValuesView vw a) hvw;have lz:(ks.zip ws).length=xs.length:=by rw [Mc];have:=ol.length;omega
  refine Y0 (r1.grow lw) (hr.imp (lw a _) λ ⟨o,h⟩=>⟨o,lw a _ h⟩) (λ i z=>na (.inl ⟨i,z,.inr (by simp)⟩)) (λ o H' k2 _ ha=>⟨λ H i k h=>⟨Om k ha id id,by rw [lz];exact h⟩,λ H i k h=>⟨Om k ha id id,by rw [lz];exact h⟩,λ H i x H2 k h y=>?_⟩) hg q;obtain ⟨rfl,p',rfl,hp⟩:=y;obtain ⟨z,ez,o⟩:∃ z,xs[i]?=some z/\_:=Iq (Yh hp).2 h;exact ⟨Le.refl,z,ez,λ K' Z' hk hz=>o _ _ _ (((ol.up lw).move k2 .rf λ _=>.inl).move k.kp hk hz)⟩
 ·exact q.elim
end
section
variable {pg:AD}{wd:AA}{Ar:Bf}{Er:Ae->Ai->Prop}{st:Ai}{d:Addr}{es:Array En}{ep:Nat}
def dI {b:Addr}{Qv:Bool->Ai->Prop} (hT:st.TypeIs (.ref b) "tuple") (q:Qv false st):Am (Ax pg wd) Ar (Builtin.Dict.quietEq (.ref b)) Qv Er st:=by
 delta Builtin.Dict.quietEq;refine Ah (Np hT F.slot_tuple_eq.lookup ?_);exact Aq q
def yR {nm:String}{Qv:Array En->Ai->Prop} (x:RawD st.heap d es ep) (ht:∀ e∈es.toList,∃ b,e.key=.ref b/\st.TypeIs (.ref b) "tuple") (hh:∀ e∈es.toList,¬ (es.filter (·.hash == e.hash)).size > 1) (q:Qv es st):
  Am (Ax pg wd) Ar (Vv nm d) Qv Er st:=by
 obtain ⟨o,e1,c1,e2⟩:=id x;delta Vv;refine Ah (GZ e1 e2 ?_);refine Ah ?_;rw [<- Array.forIn_toList];refine wpAny_forIn_list _ (λ Bg _ s'=>s'=st/\∀ e∈Bg,e∈es.toList) _ ?_ ?_ _ _ ⟨rfl,λ _ h=>h⟩
 ·rintro e Bg b s' ⟨rfl,hr⟩;have he:=hr e AM;obtain ⟨b',ek,hT⟩:=ht e he;rw [ek];refine Ah (dI hT ?_);rw [if_pos (by decide),if_neg (hh e he)];exact Aq ⟨rfl,λ z hz=>hr z (AO _ hz)⟩
 ·rintro b s' ⟨rfl,_⟩;exact Aq q
end
def qj:A2->Bool
 | .inl _=>true
 | .inr _=>false
def VC:A2->Int
 | .inl i=>hashInt i
 | .inr _=>0
def Gp (k:List A2):Int:=reduceHash (Q3 (k.map VC))
def Dl (ks:List (List A2)):Bool:=(ks.all λ k=>k.all qj) && (ks.all λ k=>decide ((ks.filter λ k'=>Gp k' == Gp k).length<=1))
theorem wK {P:AD}{w:AA}{k:List A2} (h:k.all qj=true):(FR (Cy P w)).hash k=Gp k:=by
 show reduceHash (Q3 (k.map (Cy P w).hash))=reduceHash (Q3 (k.map VC));congr 2;apply EK;intro x hx
 have:=jb1.mp h x hx
 cases x with
 | inl i=>rfl
 | inr x=>cases this
def xh {pg:AD}{wd:AA}{Ar:Bf}{Er:Ae->Ai->Prop}{st:Ai}{d:Addr}{es:Array En}{ep:Nat}{Qv:Ae->Ai->Prop} (nm:(d == EE)=false) (x:RawD st.heap d es ep) (ne:es.size≠0) (hz:es.size<=Aw)
  (ht:∀ e∈es.toList,∃ b,e.key=.ref b/\∀ h':Heap,(∀ o,st.heap.get? b=some o->h'.get? b=some o)->Shared.TypeIs { st with heap:=h' } (.ref b) "tuple") (hh:∀ e∈es.toList,¬ (es.filter (·.hash == e.hash)).size > 1)
  (good:∀ h',(∀ b o,st.heap.get? b=some o->h'.get? b=some o)->(∃ o' ep',h'.get? st.heap.objs.size=some o'/\o'.ExactDict/\o'.data=.dict es ep')->Qv (.ref st.heap.objs.size) { st with heap:=h' }):
  Am (Ax pg wd) Ar (call (.type "dict") [.ref d]) Qv Er st:=by
 refine callType_codes (Q₁:=λ obj s₁=>obj=.ref st.heap.objs.size/\s₁={ st with heap:=st.heap.push { cls:=.type "dict",data:=.dict #[] } }) F.kt_called_dict (F.kt_typeCall_dict_1 _) F.entry_dict_init (kt_code_dict_new _ ⟨rfl,rfl⟩) ?_;rintro obj s₁ ⟨rfl,rfl⟩;obtain ⟨o,e1,c1,e2⟩:=id x;have hl:=AI e1;have hdo:st.heap.objs.size≠d:=λ e=>by rw [e] at hl;exact Di _ hl
 have kp:∀ b ob,st.heap.get? b=some ob->(st.heap.push { cls:=.type "dict",data:=.dict #[] }).get? b=some ob:=λ b ob e=>AS _ e;have e1':=kp d o e1;have hN:(st.heap.push { cls:=.type "dict",data:=.dict #[] }).get? st.heap.objs.size=some { cls:=.type "dict",data:=.dict #[] }:=Bw _ rfl;have tyN:Shared.TypeIs { st with heap:=st.heap.push { cls:=.type "dict",data:=.dict #[] } } (.ref st.heap.objs.size) "dict" := ⟨_,hN,rfl⟩
 have tyO:Shared.TypeIs { st with heap:=st.heap.push { cls:=.type "dict",data:=.dict #[] } } (.ref d) "dict" := ⟨o,e1',c1.1⟩
 refine ⟨tyN,F.args_dict_init_2 _ _,?_⟩;unfold vl7.«dict.__init__»;refine Ah ?_;unfold Builtin.Dict.selfAndRest;refine Ah (Qx tyN ?_);show Am _ _ (pure (st.heap.objs.size,[Value.ref d])) _ _ _;refine Aq ?_;show Am _ _ (Builtin.Dict.updateFrom "dict.__init__" st.heap.objs.size (.ref d) [] .none) _ _ _;unfold Builtin.Dict.updateFrom;refine Ah (wpAny_typeOf tyO ?_);rw [if_neg (by decide)];refine Ah ?_;unfold Builtin.Dict.merge;refine Ah ?_;unfold Builtin.Dict.readDirectly;refine Ah (Ld tyO isSubtype_dict_dict ?_);simp only [Bool.not_true,G7,if_false];refine Ah (Np tyO F.slot_dict_iter.lookup (Aq ?_));simp only [beq_self_eq_true,if_true];refine Ah (Aq ?_);show Am _ _ (Builtin.Dict.mergeDict "dict.__init__" st.heap.objs.size d) _ _ _;unfold Builtin.Dict.mergeDict;rw [if_neg (by simpa using hdo)];unfold Lh;rw [if_neg (by rw [nm];exact BK)];refine Ah (Aq ?_);refine Ah (GZ e1' e2 ?_);have few:(decide (es.size<=8) && es.all λ e=>(keyPart e.key).isSome)=false:=by
  have:(es.all λ e=>(keyPart e.key).isSome)=false:=by
   rw [jn7];intro h;have hm:es[0]'(by omega)∈es.toList:=by simp
   obtain ⟨b,ek,_⟩:=ht _ hm
   have:=(Array.all_eq_true.mp h) 0 (by omega)
   rw [ek] at this;cases this
  rw [this,O5]
 dsimp only;rw [few];simp only [Bool.not_false,if_true];refine Ah (GZ hN rfl ?_);simp only [Array.isEmpty_empty,if_true];refine Ah (yR (x.to λ o e=>kp d o e) (λ e he=>?_) hh ?_)
 ·obtain ⟨b,ek,hT⟩:=ht e he;exact ⟨b,ek,hT _ λ o e=>kp b o e⟩
 ·have nem:(!es.isEmpty)=true:=by
   cases he:es.isEmpty with
   | false=>rfl
   | true=>exact absurd (by rw [Array.isEmpty_iff.mp he];rfl) ne
  rw [if_pos nem];refine Ah (wpAny_updateDictKeysTo hN rfl (Aq ?_) (by omega));show Am _ _ (Builtin.Dict.addKeywords st.heap.objs.size [] >>= _) _ _ _;refine Ah (Aq (Aq ⟨rfl,good _ (λ b ob e=>?_) ⟨_,_,JU _ hN (Obj.isFreed_of_dict (Obj.data_mapDictKeys rfl _)),?_,Obj.data_mapDictKeys rfl _⟩⟩))
  ·have hb:=AI e;rw [Nw _ _ (EG hb)];exact kp b ob e
  ·exact Obj.ExactDict.mapDictKeys ⟨rfl,rfl,rfl⟩ _
theorem Vp {α β:Type}{R S:α->β->Prop}:∀ {xs:List α}{ys:List β},Bv R xs ys->(∀ x y,R x y->S x y)->Bv S xs ys
 | _,_,.nil,_=>.nil
 | _,_,.cons h t,f=>.cons (f _ _ h) (Vp t f)
variable {X:Cx}
def gf:zwr X (.type "dict") (λ xs H Q=>∃ a kvs,xs=[.ref a]/\Rd H a (.dT kvs)/\kvs≠[]/\Dl (kvs.map (·.1))=true/\∀ l,H l=none->Q (.ref l) (As H l (.dT kvs))):=by
 intro pins s σ H xs us Q I r h;obtain ⟨a,kvs,rfl,rd,ne,dk,q⟩:=h;obtain ⟨u,rfl,rx⟩:=Ei r;cases rx;obtain ⟨hz,nm,ys,pr,o,es,ep,h1,h2,h3,h4,h5⟩:=(show zxg X.prog X.w H s.heap a (.dT kvs) from Rd.ok rd I.hok)
 have ln:kvs.length=ys.length:=Pb pr;have hl:es.size=ys.length:=by rw [<- Kl,h4,AJ]
 have kk:ys.map (·.1)=kvs.map (·.1):=by
  clear h4 h5 ln hl hz dk ne q rd h1 h2 h3;induction pr with
  | nil=>rfl
  | cons x _ ih=>rw [Bc,Bc,ih,x.1]
 unfold Dl at dk;rw [AK,jb1,jb1,<- kk] at dk;have hash:∀ y∈ys,(JI (FR (Cy X.prog X.w)) y).hash=Gp y.1:=λ y hy=>wK (dk.1 _ (jc2.mpr ⟨y,hy,rfl⟩));refine xh nm ⟨o,h1,h2,h3⟩ (λ z=>ne (jg6.mp (by omega))) (by omega) (λ e he=>?_) (λ e he=>?_) λ h' kp ⟨o',ep',e1,c1,d1⟩=>?_
 ·rw [h4] at he;obtain ⟨y,hy,rfl⟩:=jc2.mp he;obtain ⟨i,hi,ei⟩:=Ia hy;have hk:kvs[i]?=some (kvs[i]'(by omega)):=BU _;obtain ⟨y',hy',hp⟩:=Pa pr hk;rw [BU hi,ei] at hy';cases hy';obtain ⟨_,its,_,ot,et,ct⟩:=(show zxg X.prog X.w H s.heap y.2.1 (.tup _) from I.hok _ _ hp.2.1)
  exact ⟨y.2.1,rfl,λ h' k=>⟨ot,k ot et,ct.1⟩⟩
 ·rw [h4] at he;obtain ⟨y,hy,rfl⟩:=jc2.mp he;have d2:=of_decide_eq_true (dk.2 _ (jc2.mpr ⟨y,hy,rfl⟩));rw [<- Kl,Array.toList_filter,h4,Mb,AJ];rw [Mb,AJ] at d2;have ef:ys.filter ((λ e:En=>e.hash == (JI (FR (Cy X.prog X.w)) y).hash) ∘ JI (FR (Cy X.prog X.w)))=ys.filter ((λ k'=>Gp k' == Gp y.1) ∘ λ x=>x.1):=Ki λ z hz'=>by
   show ((JI (FR (Cy X.prog X.w)) z).hash == _)=(Gp z.1 == Gp y.1);rw [hash z hz',hash y hy]
  rw [ef];omega
 ·have fr:H s.heap.objs.size=none:=I.hok.fresh (A4 _);have pr':Bv (λ (p:List A2×V) (q:List A2×Addr×Ae)=>p.1=q.1/\As H s.heap.objs.size (.dT kvs) q.2.1=some (.tup (p.1.map kV))/\RelV p.2 q.2.2) kvs ys:=by
   have up:∀ b xs,H b=some (.tup xs)->As H s.heap.objs.size (.dT kvs) b=some (.tup xs):=λ b xs e=>by rw [AL (J5 e fr)];exact e
   exact Vp pr λ p q x=>⟨x.1,up _ _ x.2.1,x.2.2⟩
  refine ⟨.ref s.heap.objs.size,_,I.laid (t':=s.toks) kp (A4 _) (show zxg X.prog X.w (As H s.heap.objs.size (.dT kvs)) h' s.heap.objs.size (.dT kvs) from ⟨hz,?_,ys,pr',o',es,ep',e1,c1,d1,h4,h5⟩),rfl,q _ fr⟩;have big:=Inv.big I;exact beq_false_of_ne (EG big)
def Rg (a b:Expr) (px py:Pos):Bool:=GN a && GN b && (px.line == py.line) && !([a,b].all (foldedForSure 8)) && !([a,b].all (constantsAlone 8))
def kz {X:Cx}{x y:Str}{a b:Expr}{px py pt pt2:Pos}{kt k2:Nat} (hk:X.env.scope.kind=.function) (hx:X.env.scope.names.lookup x=some .local) (hy:X.env.scope.names.lookup y=some .local) (hxy:x≠y) (h:Rg a b px py=true):Nh [.Tuple [.Name x px,.Name y py] kt pt] (.Tuple [a,b] k2 pt2) X.env=pure (some [x,y]):=by
 unfold Rg at h;simp only [AK,Kj] at h;obtain ⟨⟨⟨⟨ha,hb⟩,hl⟩,h1⟩,h2⟩:=h;have bk:X.env.blockKind=.function:=by unfold Env.blockKind;rw [hk];rfl
 have kx:X.env.kindOf x=some .local:=hx;have ky:X.env.kindOf y=some .local:=hy;have el:py.line=px.line:=(eq_of_beq hl).symm;have er:[x,y].eraseDups=[x,y]:=by
  have:(y == x)=false:=beq_eq_false_iff_ne.mpr (Dw hxy)
  simp [List.eraseDups_cons,this]
 have hp:∀ (z:Str) (p:Pos),(Expr.Name z p).pos=p:=λ _ _=>rfl;unfold Nh;simp [bk,kx,ky,el,er,h1,h2,hp];intro hh;rcases hh with hh | hh
 ·cases a <;> first | (cases hh;done) | (cases ha;done)
 ·cases b <;> first | (cases hh;done) | (cases hb;done)
def zO {S:Sx} (d:Dn) (x px k q e p):CB S (.Assign [.Subscript (.Name x px) k q] e p):=Ba (S.slot x) λ i hi=>Cb (MC k) λ hk=>(d S k).bind λ rk=>(d S e).map λ r=>⟨C1 i rk.f r.f,λ E X M v xs sm=>by
 refine CP (W9 (r.pe v xs) (jO (xs.var hi) (rk.pe v xs) (PSet.or Pt (zM (by have:=xs.room.units;omega))) ?_) ?_ ?_ rfl) λ _ _ _=>yN sm.al (xs.slot hi).2.1
 ·intro v;cases k <;> first | rfl | cases hk
 ·cases e <;> rfl
 ·cases e <;> rfl⟩
def xS {S:Sx} (d:Dn) (x px k q op e p):CB S (.AugAssign (.Subscript (.Name x px) k q) op e p):=Ba (S.slot x) λ i hi=>Cb (MC k) λ hk=>(d S k).bind λ rk=>(d S e).bind λ r=>match op with
 | .Add=>some ⟨HG (λ i j=>i + j) i rk.f r.f,λ E X M v xs sm=>by
  refine CP (X9 (xs.var hi) (rk.pe v xs) Y1 (r.pe v xs) WX Pt ?_) λ D σ H q=>by have:=XU (vs:=r.vs) (vj:=rk.vs) sm.al (xs.slot hi).2.1 q;rw [xs.k] at this;exact this
  intro _ _ _;cases k <;> first | rfl | cases hk⟩
 | .Sub=>some ⟨HG (λ i j=>i - j) i rk.f r.f,λ E X M v xs sm=>by
  refine CP (X9 (xs.var hi) (rk.pe v xs) Y1 (r.pe v xs) WY Pt ?_) λ D σ H q=>by have:=XU (vs:=r.vs) (vj:=rk.vs) sm.al (xs.slot hi).2.1 q;rw [xs.k] at this;exact this
  intro _ _ _;cases k <;> first | rfl | cases hk⟩
 | _=>none
def Ti {S:Sx} (d:Dn) (x px y py k q a b k' q' p):CB S (.Assign [.Tuple [.Name x px,.Name y py] k q] (.Tuple [a,b] k' q') p):=Ba (S.slot x) λ i hi=>Ba (S.slot y) λ j hj=>Cb (decide (i≠j/\x≠y) && CG S.sc x .local && CG S.sc y .local && (match S.sc.kind with
  | .function=>true
  | _=>false) && Rg a b px py) λ hc=>(Ft d [a,b]).map λ r=>⟨Dg i j r.f,λ E X M v xs sm=>by
 simp only [AK,decide_eq_true_eq] at hc;obtain ⟨⟨⟨⟨⟨c1,c2⟩,c3⟩,c4⟩,c5⟩,c6⟩:=hc;have l1:=Fp c3;have l2:=Fp c4;rw [<- xs.sc] at l1 l2;have kf:X.env.scope.kind=.function:=by
  rw [xs.sc];split at c5
  ·assumption
  ·cases c5
 exact CP (jU xs.calm (IL xs sm) (xs.slot hi).1 (xs.slot hj).1 c1 l1 l2 (r.ok.2 E X M v xs) (kz kf l1 l2 c2 c6)) λ _ _ _=>kS λ k hk=>⟨sm.al k,by
  rcases jb9.mp hk with z | z
  ·rw [z];exact (xs.slot hi).2.1
  ·rw [jd0.mp z];exact (xs.slot hj).2.1⟩⟩
def xX {S:Sx} (d:Dn) (s:Sn) (tg it body p):CB S (.For tg it body [] p):=Cb (E2 it) λ hn=>(Td tg).bind λ t=>(d S it).map λ w=>⟨Gq w.f w.vs t.asg (Dm s body).f,λ E X M v xs sm=>by
 obtain ⟨is,g,h1,h2⟩:=t.ok E X M xs sm;have hb:E4 X body (tX M (Dm s body).f):=λ pins s' σ H D I ⟨B,o,q⟩=>(Dm s body).ok E X _ v (xs.at B o) (sm.at B o) pins s' σ H D I q;refine CP (zC (Oq xs.po xs.calm (W8 (w.pe v xs)) h1 hb (KU hn)) (XA (Oq xs.po xs.calm (wQ (w.pe v xs)) h1 hb (KU hn)))) λ D σ H q=>?_
 have:=yL (X:=X) sm.al h2 q
 rw [xs.k] at this;exact this⟩
def xY {S:Sx} (d:Dn) (s:Sn) (tg o k p1 at' q q' body p):CB S (.For tg (.Call (.Attribute (.Subscript o k p1) at' q) [] [] q') body [] p):=if h:at' = "values" then Cb (q.endLine == q'.line) λ hl=>(Td tg).bind λ t=>(d S (.Subscript o k p1)).map λ w=>⟨Kb w.f w.vs t.asg (Dm s body).f,λ E X M v xs sm=>by
 subst h;obtain ⟨is,g,h1,h2⟩:=t.ok E X M xs sm;have hb:E4 X body (tX M (Dm s body).f):=λ pins s' σ H D I ⟨B,o,q⟩=>(Dm s body).ok E X _ v (xs.at B o) (sm.at B o) pins s' σ H D I q;exact CP (XA (Oq xs.po xs.calm (wR (wM (w.pe v xs) rfl hl)) h1 hb λ _=>rfl)) λ D σ H=>yM (X:=X) sm.al h2⟩ else none
def KJ:List (PV×Nat)->Option (PV×Nat)
 | [(.dcl ks xs,_)]=>if Dl ks=true/\ks≠[] then some (.dcl ks xs,1) else none
 | _=>none
def yC {ks:List (List A2)}{ws:List V} (h:ks.length=ws.length):(ks.zip ws).map (·.1)=ks:=by
 rw [List.map_fst_zip (by omega)]
def j5 {X:Cx}:FK X KJ λ xs H Q=>∃ a kvs,xs=[.ref a]/\Rd H a (.dT kvs)/\kvs≠[]/\Dl (kvs.map (·.1))=true/\∀ l,H l=none->Q (.ref l) (As H l (.dT kvs)):=by
 intro K xs z c ws H Q zz hk ho zk t lf;unfold KJ at ho;split at ho
 ·rename_i ks xs d;split at ho
  ·rename_i hc;cases ho;obtain ⟨w,rfl,o⟩:=CQ t;obtain ⟨a,us,rfl,_,en,hr,ol⟩:=o.dcl;have el:=yC (en.trans ol.length.symm);refine ⟨a,_,rfl,hr,λ z=>hc.2 (by rw [<- el,z];rfl),by rw [el];exact hc.1,λ l hl=>?_⟩;exact lf _ _ (DU hl) (.new hl rfl ⟨rfl,en,BI⟩ ((zk.low ol).move (DU hl).kp .rf λ b q=>q.elim (λ q=>.inl (zk.to 1 0 b (.inr (by decide)) q)) λ q=>.inr (by rw [q];exact hl)) λ h=>by cases h)
  ·cases ho
 ·cases ho
def zZ:BR:=⟨"dict",KJ,by decide +kernel,by decide +kernel,by decide +kernel,λ X _ _=>⟨_,_,.inr ⟨_,rfl⟩,rfl,gf,j5⟩⟩
def fL:List BR:=[xM,xJ,xP,xN,xO,v9,ja,xK,xI,zZ]
def Te {S:Sx} (d:Dn) (a b p):T S (.Subscript a b p):=match b with
 | .Slice lo hi none q=>fJ d a lo hi q p
 | .Slice none none (some (.UnaryOp .USub (.Constant (.int 1) j p1) p2)) q=>Tg d a j p1 p2 q p
 | b=>Tt d a b p
def qp {S:Sx} (d:Dn) (x p es q):T S (.Call (.Name x p) es [] q):=(xU d x p es q).orElse λ _=>(T4 fL d x p es q).orElse λ _=>match es with
 | [e,.Name t p2]=>Tp d x p e t p2 q
 | _=>none
def Tv {S:Sx} (d:Dn) (x p es q):T S (.Call (.Name x p) es [] q):=match es with
 | [.Call (.Name y p2) [a] [] q2]=>(xZ d x p y p2 a q2 q).orElse λ _=>qp d x p _ q
 | es=>qp d x p es q
def wk:In:=λ d _ _ it=>match it with
 | .Call (.Name x p) es [] q=>(SW d x p es q).orElse λ _=>(SX d x p es q).orElse λ _=>(zX d x p es q).orElse λ _=>(zW d x p es q).orElse λ _=>(zY d x p es q).orElse λ _=>VJ d _
 | it=>VJ d it
def ev:Nat->Dn
 | 0=>λ _ _=>none
 | n + 1=>λ _ e=>match e with
  | .Constant c j p=>jg c j p
  | .Name x p=>za x p
  | .BinOp a op b p=>T5 (ev n) a op b p
  | .UnaryOp .USub a p=>Tn (ev n) a p
  | .UnaryOp .Not a p=>Tj (ev n) a p
  | .BoolOp o es p=>xT (ev n) o es p
  | .IfExp t a b p=>fK (ev n) t a b p
  | .Compare a [op] [b] p=>T3 (ev n) a op b p
  | .Compare a [op,op'] [b,c] p=>jf (ev n) a op op' b c p
  | .List es p=>To (ev n) es p
  | .Tuple es k p=>Tc (ev n) es k p
  | .Dict [] [] p=>Tz p
  | .Subscript a b p=>Te (ev n) a b p
  | .ListComp elt [⟨tg,it,ifs,0⟩] scope p=>xV wk (ev n) elt tg it ifs scope p
  | .Call (.Name x p) es [] q=>Tv (ev n) x p es q
  | _=>none
def T7 {S:Sx} (d:Dn) (t e p):CB S (.Assign [t] e p):=match t with
 | .Name x px=>(match e with
  | .ListComp elt [⟨tg,it,ifs,0⟩] scope q=>zQ wk d x px elt tg it ifs scope q p
  | .Dict [] [] q=>zR x px q p
  | e=>Tf d x px e p)
 | .Tuple es k q=>(match es,e with
  | [.Name x px,.Name y py],.Tuple [a,b] k' q'=>Ti d x px y py k q a b k' q' p
  | es,e=>Tb d es k q e p)
 | .Subscript (.Name x px) k q=>zO d x px k q e p
 | _=>none
def Tx {S:Sx} (d:Dn) (f es ks q p):CB S (.Expr (.Call f es ks q) p):=match f,es,ks with
 | .Attribute (.Name x px) at' pa,[e],[]=>(T8 d x px at' pa e q p).orElse λ _=>Tw d x px at' pa e q p
 | f,es,ks=>xW d f es ks q p
def x9 (dict:Expr->Bool) (s:Sn):∀ S st,CB S st
 | _,.If c a b p=>Ts (ev 40) s c a b p
 | _,.While c a [] p=>vM (ev 40) s c a p
 | _,.Return (some e) p=>Th (ev 40) e p
 | _,.Return none p=>zP p
 | _,.Expr (.Call f es ks q) p=>Tx (ev 40) f es ks q p
 | _,.Assign [t] e p=>T7 (ev 40) t e p
 | _,.AugAssign (.Name x px) op e p=>T6 (ev 40) x px op e p
 | _,.AugAssign (.Subscript (.Name x px) k q) op e p=>xS (ev 40) x px k q op e p
 | _,.For tg (.Call (.Attribute (.Subscript o k p1) at' q) [] [] q') body [] p=>xY (ev 40) s tg o k p1 at' q q' body p
 | _,.For tg it body [] p=>if dict it=true then xX (ev 40) s tg it body p else Tu wk (ev 40) s tg it body p
 | _,.Raise (some (.Call (.Name x np) [.Constant (.str m) j p] [] q)) none pos=>jh x np m j p q pos
 | _,_=>none
def sn (dict:Expr->Bool):Nat->Sn
 | 0=>λ _ st=>qo st
 | n + 1=>λ S st=>(x9 dict (sn dict n) S st).getD (qo st)
def jJ (ns:List Str):Expr->Bool
 | .Name x _=>ns.contains x
 | _=>false
end QQ
namespace QV
open PySem PySem.Spec PyProof.Rows L2 QQ
def Cj {op:PV->Nat->PV->Nat->Option (PV×Nat)}{f g:Fx}{ρ ρ1 ρ2:Af}{x y z:PV}{d e c:Nat} (h1:f ρ=.ok (x,d,ρ1)) (h2:g ρ1=.ok (y,e,ρ2)) (h3:op x d y e=some (z,c)):Ab op f g ρ=.ok (z,c,ρ2):=by
 unfold Ab;rw [h1];dsimp only [Rz.bind];rw [h2];dsimp only;rw [h3]
def Wn {op:PV->Nat->Option (PV×Nat)}{f:Fx}{ρ ρ1:Af}{x z:PV}{d c:Nat} (h1:f ρ=.ok (x,d,ρ1)) (h3:op x d=some (z,c)):AQ op f ρ=.ok (z,c,ρ1):=by
 unfold AQ;rw [h1];dsimp only [Rz.bind];rw [h3]
def A6 {f:Fx}{fa:Fa}{ρ ρ1 ρ2:Af}{x:PV}{d:Nat}{xs:List (PV×Nat)} (h1:f ρ=.ok (x,d,ρ1)) (h2:fa ρ1=.ok (xs,ρ2)):Ad f fa ρ=.ok ((x,d)::xs,ρ2):=by
 unfold Ad;rw [h1];dsimp only [Rz.bind];rw [h2]
def AF {f:Fx}{ρ ρ1:Af}{x:PV}{d:Nat} (h1:f ρ=.ok (x,d,ρ1)):Ad f Ac ρ=.ok ([(x,d)],ρ1):=A6 h1 rfl
def Cw {op:List (PV×Nat)->Option (PV×Nat)}{fa:Fa}{ρ ρ1:Af}{xs:List (PV×Nat)}{z:PV}{c:Nat} (h1:fa ρ=.ok (xs,ρ1)) (h2:op xs=some (z,c)):Ak op fa ρ=.ok (z,c,ρ1):=by
 unfold Ak;rw [h1];dsimp only [Rz.bind];rw [h2]
def AE {F:Fn}{fa:Fa}{ρ ρ1:Af}{xs:List (PV×Nat)}{y z:PV}{d:Nat} (h1:fa ρ=.ok (xs,ρ1)) (h2:F (xs.map (·.1))=.ok (y,d,z)):Ap F fa ρ=.ok (y,d,ρ1):=by
 unfold Ap;rw [h1];dsimp only [Rz.bind];rw [h2]
def BN {f:Fx}{ρ ρ1:Af}{x:PV}{d:Nat} (h:f ρ=.ok (x,d,ρ1)):Az f ρ=.rt x d ρ1:=by
 unfold Az;rw [h]
def GF {f:Fx}{ρ ρ1:Af}{x:PV}{d:Nat} (h:f ρ=.ok (x,d,ρ1)):CF f ρ=.nx ρ1:=by
 unfold CF;rw [h]
def setF {i:Nat}{f:Fx}{vs:List Nat}{ρ ρ1 ρ2:Af}{x:PV}{d:Nat} (h:f ρ=.ok (x,d,ρ1)) (hc:i < ρ1.length) (e:(Bb d vs ρ1).set i (some (x,d))=ρ2):Aj false i f vs ρ=.nx ρ2:=by
 unfold Aj;rw [h];dsimp only;rw [if_pos ⟨hc,λ h=>nomatch h⟩,e]
def vR {asg:PV->Af->Option Af}{f:Fx}{vs:List Nat}{ρ ρ1 ρ2:Af}{x:PV}{d:Nat} (h:f ρ=.ok (x,d,ρ1)) (e:asg x (Bb d vs ρ1)=some ρ2):B4 asg f vs ρ=.nx ρ2:=by
 unfold B4;rw [h];dsimp only;rw [e]
def Rn {i:Nat}{f:Fx}{vs:List Nat}{ρ ρ1 ρ2:Af}{y:PV}{e:Nat}{xs:List PV}{d0 d:Nat}{xs0:List PV} (h0:ρ[i]?=some (some (.lst xs0,d0 + 1))) (h:f ρ=.ok (y,e,ρ1)) (h1:(Bb e vs ρ1)[i]?=some (some (.lst xs,d))) (hd:d≠0) (hl:xs.length < Aw)
  (e2:(Bb e vs ρ1).set i (some (.lst (xs++[y]),if d=om/\e=om then om else 1))=ρ2):Cf i f vs ρ=.nx ρ2:=by
 unfold Cf;rw [h0];dsimp only;rw [h];dsimp only;rw [h1];dsimp only;rw [if_pos ⟨hd,hl⟩,e2]
def Be {f g:Fs}{ρ ρ1:Af} (h:f ρ=.nx ρ1):Ag f g ρ=g ρ1:=by
 unfold Ag;rw [h]
def VX {c:Fb}{f g:Fs}{ρ ρ1:Af}{b:Bool} (hc:c ρ=.ok (b,ρ1)):Bm c f g ρ=if b=true then f ρ1 else g ρ1:=by
 unfold Bm;rw [hc]
def Dj {c:Fb}{f g:Fs}{ρ ρ1:Af} (hc:c ρ=.ok (true,ρ1)):Bm c f g ρ=f ρ1:=by rw [VX hc];rfl
def DO {c:Fb}{f g:Fs}{ρ ρ1:Af} (hc:c ρ=.ok (false,ρ1)):Bm c f g ρ=g ρ1:=by rw [VX hc];rfl
def Fw {c:Fb}{f g:Fs}{ρ ρ1:Af} (hc:c ρ=.ok (false,ρ1)):Ag (Bm c f AB) g ρ=g ρ1:=Be (by rw [DO hc];rfl)
def JE {f g:Fs}{ρ ρ1:Af}{x:PV}{d:Nat} (h:f ρ=.rt x d ρ1):Ag f g ρ=.rt x d ρ1:=by
 unfold Ag;rw [h]
def AH {f:Fx}{ρ ρ1:Af}{b:Bool}{d:Nat} (h:f ρ=.ok (.bl b,d,ρ1)):bT f ρ=.ok (b,ρ1):=by
 unfold bT;rw [h];rfl
def Gs {f:Fx}{ρ ρ1:Af}{b:Bool}{d:Nat} (h:f ρ=.ok (.bl b,d,ρ1)):AQ Co f ρ=.ok (.bl (!b),om,ρ1):=Wn h rfl
theorem Og {f g:Fx}{ρ ρ1:Af}{a b:Bool}{d:Nat} (h:f ρ=.ok (.bl a,d,ρ1)) (h2:a=true->g ρ1=.ok (.bl b,om,ρ1)) (hd:d=om):CW f g ρ=.ok (.bl (a && b),om,ρ1):=by
 subst hd;unfold CW;rw [h];cases a with
 | false=>rfl
 | true=>exact h2 rfl
theorem Rc {f g:Fx}{ρ ρ1:Af}{a b:Bool}{d:Nat} (h:f ρ=.ok (.bl a,d,ρ1)) (h2:a=false->g ρ1=.ok (.bl b,om,ρ1)) (hd:d=om):Bz f g ρ=.ok (.bl (a || b),om,ρ1):=by
 subst hd;unfold Bz;rw [h];cases a with
 | true=>rfl
 | false=>exact h2 rfl
def Dr {f g:Fx}{ρ ρ1 ρ2:Af}{i j:Int}{d e:Nat} (h1:f ρ=.ok (.int i,d,ρ1)) (h2:g ρ1=.ok (.int j,e,ρ2)) (h:(-(2 ^ 64) < i/\i < 2 ^ 64)\/(-(2 ^ 64) < j/\j < 2 ^ 64)):Ab AR f g ρ=.ok (.int (i * j),om,ρ2):=by
 refine Cj h1 h2 ?_;show (if FW i j=true then _ else _)=_;rw [if_pos];unfold FW;rcases h with h | h
 ·rw [decide_eq_true h.1,decide_eq_true h.2];rfl
 ·rw [decide_eq_true h.1,decide_eq_true h.2];simp
def E7 {f g:Fx}{ρ ρ1 ρ2:Af}{i j:Int}{d e:Nat} (h1:f ρ=.ok (.int i,d,ρ1)) (h2:g ρ1=.ok (.int j,e,ρ2)) (h:0 < j):Ab C7 f g ρ=.ok (.int (i % j),om,ρ2):=by
 refine Cj h1 h2 ?_;show (if IQ i j=true then _ else _)=_;rw [if_pos];exact decide_eq_true h
def FL {f g:Fx}{ρ ρ1 ρ2:Af}{i j:Int}{d e:Nat} (h1:f ρ=.ok (.int i,d,ρ1)) (h2:g ρ1=.ok (.int j,e,ρ2)) (h:0 < j) (h':j < 2 ^ 128):Ab DB f g ρ=.ok (.int (i / j),om,ρ2):=by
 refine Cj h1 h2 ?_;show (if FX i j=true then _ else _)=_;rw [if_pos];have h3:j.natAbs < 2 ^ 128:=by omega
 have h4:j.natAbs≠0:=by omega
 have h5:j.natAbs.log2 < 9000:=by have:=(Nat.log2_lt h4).mpr h3;omega
 unfold FX;rw [decide_eq_true h,decide_eq_true h5];rfl
def ER {f g:Fx}{ρ ρ1 ρ2:Af}{i j:Int}{d e:Nat} (h1:f ρ=.ok (.int i,d,ρ1)) (h2:g ρ1=.ok (.int j,e,ρ2)):Ab AG f g ρ=.ok (.int (i + j),om,ρ2):=Cj h1 h2 rfl
def Fq {f g:Fx}{ρ ρ1 ρ2:Af}{i j:Int}{d e:Nat} (h1:f ρ=.ok (.int i,d,ρ1)) (h2:g ρ1=.ok (.int j,e,ρ2)):Ab BH f g ρ=.ok (.int (i - j),om,ρ2):=Cj h1 h2 rfl
def ET {p:Int->Int->Bool}{f g:Fx}{ρ ρ1 ρ2:Af}{i j:Int}{d e:Nat} (h1:f ρ=.ok (.int i,d,ρ1)) (h2:g ρ1=.ok (.int j,e,ρ2)):Ab (B1 p) f g ρ=.ok (.bl (p i j),om,ρ2):=Cj h1 h2 rfl
def Kr {p q:Int->Int->Bool}{f g h:Fx}{ρ:Af}{i j k:Int}{d e c:Nat} (h1:f ρ=.ok (.int i,d,ρ)) (h2:g ρ=.ok (.int j,e,ρ)) (h3:h ρ=.ok (.int k,c,ρ)):E5 p q f g h ρ=.ok (.bl (p i j && q j k),om,ρ):=by
 unfold E5;rw [h1];dsimp only [Rz.bind];rw [h2];dsimp only;by_cases hp:p i j=true
 ·rw [if_pos hp,h3,hp];rfl
 ·rw [if_neg hp]
  have:p i j=false:=by simpa using hp
  rw [this];rfl
def fI {neg:Bool}{i j:Int}{d e:Nat}:A3 neg (.int i) d (.int j) e=some (.bl (neg^^decide (i=j)),om):=by
 show some (PV.bl (neg^^Gy (.int i) (.int j)),om)=_
 have:Gy (.int i) (.int j)=decide (i=j):=by
  show (i == j)=_;rfl
 rw [this]
def HD {neg:Bool}{f g:Fx}{ρ ρ1 ρ2:Af}{i j:Int}{d e:Nat} (h1:f ρ=.ok (.int i,d,ρ1)) (h2:g ρ1=.ok (.int j,e,ρ2)):Ab (A3 neg) f g ρ=.ok (.bl (neg^^decide (i=j)),om,ρ2):=Cj h1 h2 fI
def il (xs:List Int):PV:=.lst (xs.map .int)
def tb (t:List (List Int)):PV:=.lst (t.map il)
abbrev bx (a b c:Int):PV:=.tup [.int a,.int b,.int c]
def Ed {α:Type}{xs:List α}{k:Int}{x:α} (h0:0<=k) (h:xs[k.toNat]?=some x):BG xs k=some x:=by
 have hl:=(jb0.mp h).1;unfold BG E1;rw [if_pos h0,if_pos (by omega)];exact h
def HB {f g:Fx}{ρ ρ1 ρ2:Af}{xs:List Int}{k x:Int}{d e:Nat} (h1:f ρ=.ok (il xs,d,ρ1)) (h2:g ρ1=.ok (.int k,e,ρ2)) (h:BG xs k=some x):Ab An f g ρ=.ok (.int x,om,ρ2):=by
 refine Cj h1 h2 ?_;show (BG (xs.map PV.int) k).map _=_
 have:BG (xs.map PV.int) k=some (.int x):=by
  unfold BG at h ⊢;rw [AJ];cases e:E1 xs.length k with
  | none=>rw [e] at h;cases h
  | some j=>
   rw [e] at h;have h':xs[j]?=some x:=h;show (xs.map PV.int)[j]?=_;rw [CL,h'];rfl
 rw [this];rfl
def Rx {f g:Fx}{ρ ρ1 ρ2:Af}{t:List (List Int)}{k:Int}{r:List Int}{d e:Nat} (h1:f ρ=.ok (tb t,d,ρ1)) (h2:g ρ1=.ok (.int k,e,ρ2)) (h:BG t k=some r):Ab An f g ρ=.ok (il r,0,ρ2):=by
 refine Cj h1 h2 ?_;show (BG (t.map il) k).map _=_
 have:BG (t.map il) k=some (il r):=by
  unfold BG at h ⊢;rw [AJ];cases e:E1 t.length k with
  | none=>rw [e] at h;cases h
  | some j=>
   rw [e] at h;have h':t[j]?=some r:=h;show (t.map il)[j]?=_;rw [CL,h'];rfl
 rw [this];rfl
def Ov {fa:Fa}{ρ ρ1:Af}{xs:List Int}{d:Nat} (h:fa ρ=.ok ([(il xs,d)],ρ1)):Ak CC fa ρ=.ok (.int xs.length,om,ρ1):=by
 refine Cw h ?_;show some (PV.int ((xs.map PV.int).length:Nat),om)=_;rw [AJ]
def j8 {fa:Fa}{ρ ρ1:Af}{t:List (List Int)}{d:Nat} (h:fa ρ=.ok ([(tb t,d)],ρ1)):Ak CC fa ρ=.ok (.int t.length,om,ρ1):=by
 refine Cw h ?_;show some (PV.int ((t.map il).length:Nat),om)=_;rw [AJ]
theorem Jy {α:Type}{n:Nat}{test:Fb}{elt:Fx}{enc q:α->PV}{e:α->Nat}{p:α->Bool}:∀ (xs:List α) (ρ:Af) (acc:List (PV×Nat)),ρ.length=n->(∀ x∈xs,test (ρ++[some (enc x,dv (enc x))])=.ok (p x,ρ++[some (enc x,dv (enc x))])) ->
  (∀ x∈xs,p x=true->elt (ρ++[some (enc x,dv (enc x))])=.ok (q x,e x,ρ++[some (enc x,dv (enc x))]))->acc.length + xs.length<=Aw->DC 1 (asgN n) test elt (xs.map enc) ρ acc=.ok (acc++(xs.filter p).map (λ x=>(q x,e x)),ρ)
 | [],ρ,acc,_,_,_,_=>by simp [DC]
 | x::xs,ρ,acc,hn,ht,he,hl=>by
  have ea:asgN n (enc x) (ρ++A9 1 none)=some (ρ++[some (enc x,dv (enc x))]):=by
   unfold asgN;rw [if_pos (by rw [Br,hn];simp),List.set_append_right _ _ (by omega),hn];simp
  have ih:=λ acc h=>Jy (n:=n) (test:=test) (elt:=elt) (p:=p) (q:=q) (e:=e) (enc:=enc) xs ρ acc hn (λ y hy=>ht y (AO _ hy)) (λ y hy=>he y (AO _ hy)) h;have tk:(ρ++[some (enc x,dv (enc x))]).take ρ.length=ρ:=by simp
  rw [B8] at hl;rw [Bc];unfold DC;rw [ea];dsimp only;rw [ht x AM];dsimp only [Rz.bindN];cases hp:p x with
  | false=>
   rw [if_neg BK,tk,ih acc (by omega),qb (by simp [hp])]
  | true=>
   rw [if_pos rfl,he x AM hp];dsimp only;rw [if_pos (by omega),tk,ih _ (by rw [Br,Gg];omega),qa hp];simp
theorem Jx {α:Type} (q:α->PV):∀ xs:List α,CO (xs.map λ x=>(q x,om))=true
 | []=>rfl
 | x::xs=>by rw [Bc];unfold CO;rw [Jx q xs];rfl
def Ks {α:Type}{n:Nat}{f elt:Fx}{enc q:α->PV}{ρ ρ1:Af}{d:Nat} (xs:List α) (hf:f ρ=.ok (.lst (xs.map enc),d,ρ1)) (hn:ρ1.length=n) (he:∀ x∈xs,elt (ρ1++[some (enc x,dv (enc x))])=.ok (q x,om,ρ1++[some (enc x,dv (enc x))])) (hl:xs.length<=Aw):
  Cv f 1 (asgN n) AU elt ρ=.ok (.lst (xs.map q),om,ρ1):=by
 unfold Cv Ec CJ;rw [hf];dsimp only [Rz.bind];rw [Jy (p:=λ _=>true) (q:=q) (e:=λ _=>om) xs ρ1 [] hn (λ _ _=>rfl) (λ x hx _=>he x hx) (by simpa using hl),je9.mpr (λ _ _=>rfl)];show E9 (xs.map λ x=>(q x,om)) ρ1=_;unfold E9;rw [Jx,Cr];rfl
def yQ {α:Type}{n:Nat}{f elt:Fx}{enc q:α->PV}{ρ ρ1:Af}{d:Nat} (xs:List α) (hf:f ρ=.ok (.tup (xs.map enc),d,ρ1)) (hn:ρ1.length=n) (he:∀ x∈xs,elt (ρ1++[some (enc x,dv (enc x))])=.ok (q x,om,ρ1++[some (enc x,dv (enc x))])) (hl:xs.length<=Aw):
  Cv f 1 (asgN n) AU elt ρ=.ok (.lst (xs.map q),om,ρ1):=by
 unfold Cv Ec CJ;rw [hf];dsimp only [Rz.bind];rw [Jy (p:=λ _=>true) (q:=q) (e:=λ _=>om) xs ρ1 [] hn (λ _ _=>rfl) (λ x hx _=>he x hx) (by simpa using hl),je9.mpr (λ _ _=>rfl)];show E9 (xs.map λ x=>(q x,om)) ρ1=_;unfold E9;rw [Jx,Cr];rfl
def yP {α:Type}{n:Nat}{f elt:Fx}{test:Fb}{enc q:α->PV}{p:α->Bool}{ρ ρ1:Af}{d:Nat} (xs:List α) (hf:f ρ=.ok (.lst (xs.map enc),d,ρ1)) (hn:ρ1.length=n) (ht:∀ x∈xs,test (ρ1++[some (enc x,dv (enc x))])=.ok (p x,ρ1++[some (enc x,dv (enc x))])) (he:∀ x∈xs,p x=true->elt (ρ1++[some (enc x,dv (enc x))])=.ok (q x,om,ρ1++[some (enc x,dv (enc x))])) (hl:xs.length<=Aw):
  Cv f 1 (asgN n) test elt ρ=.ok (.lst ((xs.filter p).map q),om,ρ1):=by
 unfold Cv Ec CJ;rw [hf];dsimp only [Rz.bind];rw [Jy (p:=p) (q:=q) (e:=λ _=>om) xs ρ1 [] hn ht he (by simpa using hl)];show E9 ((xs.filter p).map λ x=>(q x,om)) ρ1=_;unfold E9;rw [Jx,Cr];rfl
def MJ (lo:Int) (n:Nat):JD lo n=(Ay n).map λ (k:Nat)=>PV.int (lo + (k:Int)):=rfl
def GC {n:Nat}{en:List (PV×Nat)->Option (Int×Int)}{fa:Fa}{elt:Fx}{q:Nat->PV}{ρ ρ1:Af}{as:List (PV×Nat)}{lo hi:Int} (hf:fa ρ=.ok (as,ρ1)) (hen:en as=some (lo,hi)) (hn:ρ1.length=n) (he:∀ k,k < (hi - lo).toNat->elt (ρ1++[some (.int (lo + (k:Int)),om)])=.ok (q k,om,ρ1++[some (.int (lo + (k:Int)),om)])) (hl:(hi - lo).toNat<=Aw):
  Cu en fa 1 (asgN n) AU elt ρ=.ok (.lst ((Ay (hi - lo).toNat).map q),om,ρ1):=by
 unfold Cu Ec CK;rw [hf];dsimp only [Rz.bind];rw [hen];dsimp only;rw [MJ,Jy (enc:=λ (k:Nat)=>PV.int (lo + (k:Int))) (p:=λ _=>true) (q:=q) (e:=λ _=>om) (Ay (hi - lo).toNat) ρ1 [] hn (λ _ _=>rfl) (λ x hx _=>he x (jb8.mp hx)) (by simpa using hl),je9.mpr (λ _ _=>rfl)];show E9 ((Ay (hi - lo).toNat).map λ x=>(q x,om)) ρ1=_;unfold E9;rw [Jx,Cr];rfl
theorem ur {α:Type} (g:α->Bool) (xs:List α):QQ.allB (xs.map λ x=>.bl (g x))=some (xs.map g):=by
 induction xs with
 | nil=>rfl
 | cons x r ih=>rw [Bc,Bc,QQ.allB,ih];rfl
def G8 {α:Type}{f:Fx}{ρ ρ1:Af}{d:Nat}{g:α->Bool}{xs:List α} (h:f ρ=.ok (.lst (xs.map λ x=>.bl (g x)),d,ρ1)):Ak EW (Ad f Ac) ρ=.ok (.bl (xs.all g),om,ρ1):=by
 refine Cw (AF h) ?_;show (QQ.allB _).map _=_;rw [ur];simp
theorem YU {i:Nat}{body:Fs}{lo:Int} (I:Nat->Af->Prop):∀ (m k:Nat) (ρ:Af),I k ρ->(∀ j ρ,k<=j->j < k + m->I j ρ->i < ρ.length/\∃ ρ2,body (ρ.set i (some (.int (lo + (j:Int)),om)))=.nx ρ2/\I (j + 1) ρ2) ->
  ∃ ρ',Ck (asgN i) body ((IV k m).map λ (k:Nat)=>PV.int (lo + (k:Int))) ρ=.nx ρ'/\I (k + m) ρ'
 | 0,k,ρ,hi,_=>⟨ρ,rfl,hi⟩
 | m + 1,k,ρ,hi,hb=>by
  obtain ⟨h1,ρ2,e2,h2⟩:=hb k ρ (A4 _) (by omega) hi;obtain ⟨ρ',e',h'⟩:=YU (i:=i) (body:=body) (lo:=lo) I m (k + 1) ρ2 h2 λ j ρ a b=>hb j ρ (by omega) (by omega);refine ⟨ρ',?_,by rw [show k + (m + 1)=k + 1 + m by omega];exact h'⟩;rw [Z9,Bc];unfold Ck
  have:asgN i (PV.int (lo + (k:Int))) ρ=some (ρ.set i (some (.int (lo + (k:Int)),om))):=by
   unfold asgN;rw [if_pos h1];rfl
  rw [this];dsimp only;rw [e2];exact e'
def PH {i:Nat}{body:Fs}{en:List (PV×Nat)->Option (Int×Int)}{fa:Fa}{ρ ρ1:Af}{as:List (PV×Nat)}{lo hi:Int} (I:Nat->Af->Prop) (hf:fa ρ=.ok (as,ρ1)) (hen:en as=some (lo,hi)) (h0:I 0 ρ1)
  (hb:∀ j ρ,j < (hi - lo).toNat->I j ρ->i < ρ.length/\∃ ρ2,body (ρ.set i (some (.int (lo + (j:Int)),om)))=.nx ρ2/\I (j + 1) ρ2):∃ ρ',Eg en fa (asgN i) body ρ=.nx ρ'/\I (hi - lo).toNat ρ':=by
 obtain ⟨ρ',e,h⟩:=YU (i:=i) (body:=body) (lo:=lo) I (hi - lo).toNat 0 ρ1 h0 λ j ρ _ h hi=>hb j ρ (by omega) hi;refine ⟨ρ',?_,by rw [Hq] at h;exact h⟩;unfold Eg Fv CK;rw [hf];dsimp only [Rz.bind];rw [hen];dsimp only;rw [gE];rw [MJ,List.range_eq_range'];exact e
def EY {j:Int}{d:Nat} (h1:-(2 ^ 62)<=j) (h2:j < 2 ^ 62):Bl [(.int j,d)]=some (0,j):=by
 show (if -(2 ^ 62)<=j/\j < 2 ^ 62 then some ((0:Int),j) else none)=_;rw [if_pos ⟨h1,h2⟩]
def yU {i j:Int}{d e:Nat} (h1:-(2 ^ 62)<=i) (h2:i < 2 ^ 62) (h3:-(2 ^ 62)<=j) (h4:j < 2 ^ 62):GQ [(.int i,d),(.int j,e)]=some (i,j):=by
 show (if -(2 ^ 62)<=i/\i < 2 ^ 62/\-(2 ^ 62)<=j/\j < 2 ^ 62 then some (i,j) else none)=_;rw [if_pos ⟨h1,h2,h3,h4⟩]
def BB {np k:Nat}{b:Fs}{xs:List PV}{ρ':Af}{y:PV}{d:Nat} (hl:xs.length=np) (h:b (xs.map (λ x=>some (x,dv x))++A9 k none)=.rt y d ρ'):Au false np k b xs=.ok (y,d,.non):=by
 unfold Au;rw [if_pos hl,h]
def NO {np k:Nat}{b:Fs}{xs:List PV}{ρ':Af} (hl:xs.length=np) (h:b (xs.map (λ x=>some (x,dv x))++A9 k none)=.nx ρ'):Au false np k b xs=.ok (.non,om,.non):=by
 unfold Au;rw [if_pos hl,h]
def Xf_is_whole_number:Fs:=(Az (CW (AQ (FP "int") (Aa 0)) (AQ Co (AQ (FP "bool") (Aa 0)))))
def f_is_whole_number:Fn:=Au false 1 0 Xf_is_whole_number
def Xf_is_box:Fs:=(Ag (Bm (bT (Bz (AQ Co (AQ (FP "tuple") (Aa 0))) (Ab (A3 true) (Ak CC (Ad (Aa 0) (Ac))) (bC (.int 3))))) (Az (bC (.bl false))) AB)
 (Az (Ak EW (Ad (Cv (Aa 0) 1 (asgN 1) AU (CW (Ap f_is_whole_number (Ad (Aa 1) (Ac))) (Ab (B1 λ i j=>decide (j<=i)) (Aa 1) (bC (.int 1))))) (Ac)))))
def f_is_box:Fn:=Au false 1 0 Xf_is_box
def Xf_must_be_box:Fs:=(Bm (bT (AQ Co (Ap f_is_box (Ad (Aa 0) (Ac))))) Hg AB)
def f_must_be_box:Fn:=Au false 1 0 Xf_must_be_box
def Xf_is_row_of_heights:Fs:=(Ag (Bm (bT (Bz (AQ Co (AQ (FP "list") (Aa 0))) (Ab (A3 true) (Ak CC (Ad (Aa 0) (Ac))) (Aa 1)))) (Az (bC (.bl false))) AB)
 (Az (Ak EW (Ad (Cv (Aa 0) 1 (asgN 3) AU (CW (Ap f_is_whole_number (Ad (Aa 3) (Ac))) (E5 (λ i j=>decide (i<=j)) (λ i j=>decide (i<=j)) (bC (.int 0)) (Aa 3) (Aa 2)))) (Ac)))))
def f_is_row_of_heights:Fn:=Au false 3 0 Xf_is_row_of_heights
def Xf_never_rises:Fs:=(Az (Ak EW (Ad (Cu GQ (Ad (bC (.int 1)) (Ad (Ak CC (Ad (Aa 0) (Ac))) (Ac))) 1 (asgN 1) AU (Ab (B1 λ i j=>decide (i<=j)) (Ab An (Aa 0) (Aa 1)) (Ab An (Aa 0) (Ab BH (Aa 1) (bC (.int 1)))))) (Ac))))
def f_never_rises:Fn:=Au false 1 0 Xf_never_rises
def Xf_column_of:Fs:=(Az (Cv (Aa 0) 1 (asgN 2) AU (Ab An (Aa 2) (Aa 1))))
def f_column_of:Fn:=Au false 2 0 Xf_column_of
def Xf_is_pile:Fs:=(Ag (CF (Ap f_must_be_box (Ad (Aa 0) (Ac))))
 (Ag (B4 (asgT [2,3,4]) (Aa 0) [0])
 (Ag (Bm (bT (Bz (AQ Co (AQ (FP "list") (Aa 1))) (Ab (A3 true) (Ak CC (Ad (Aa 1) (Ac))) (Aa 2)))) (Az (bC (.bl false))) AB)
 (Ag (Bm (bT (AQ Co (Ak EW (Ad (Cv (Aa 1) 1 (asgN 5) AU (Ap f_is_row_of_heights (Ad (Aa 5) (Ad (Aa 3) (Ad (Aa 4) (Ac)))))) (Ac))))) (Az (bC (.bl false))) AB)
 (Ag (Bm (bT (AQ Co (Ak EW (Ad (Cv (Aa 1) 1 (asgN 5) AU (Ap f_never_rises (Ad (Aa 5) (Ac)))) (Ac))))) (Az (bC (.bl false))) AB)
 (Az (Ak EW (Ad (Cu Bl (Ad (Aa 3) (Ac)) 1 (asgN 5) AU (Ap f_never_rises (Ad (Ap f_column_of (Ad (Aa 1) (Ad (Aa 5) (Ac)))) (Ac)))) (Ac)))))))))
def f_is_pile:Fn:=Au false 2 3 Xf_is_pile
def Xf_must_be_pile:Fs:=(Bm (bT (AQ Co (Ap f_is_pile (Ad (Aa 0) (Ad (Aa 1) (Ac)))))) Hg AB)
def f_must_be_pile:Fn:=Au false 2 0 Xf_must_be_pile
def Xb_cell_at:Fs:=(Ag (Bm (bT (Ab (B1 λ i j=>decide (i < j)) (Aa 1) (Ak CC (Ad (Aa 0) (Ac))))) (Az (Ab An (Aa 0) (Aa 1))) AB)
 (Az (bC (.int 0))))
def b_cell_at:Fn:=Au false 2 0 Xb_cell_at
def Xf_must_be_two_piles:Fs:=(Ag (CF (Ap f_must_be_pile (Ad (Aa 0) (Ad (Aa 1) (Ac)))))
 (CF (Ap f_must_be_pile (Ad (Aa 0) (Ad (Aa 2) (Ac))))))
def f_must_be_two_piles:Fn:=Au false 3 0 Xf_must_be_two_piles
def Xf_places_of:Fs:=(Ag (Aj false 1 (Ak AW (Ac)) [])
 (Ag (Eg Bl (Ad (Ab An (Aa 0) (bC (.int 0))) (Ac)) (asgN 2) (Ce 1 (Cu Bl (Ad (Ab An (Aa 0) (bC (.int 1))) (Ac)) 1 (asgN 3) AU (Ak AX (Ad (Aa 2) (Ad (Aa 3) (Ac))))) [2]))
 (DY 1)))
def f_places_of:Fn:=Au false 1 2 Xf_places_of
def Xf_lies_below:Fs:=(Ag (CF (Ap f_must_be_two_piles (Ad (Aa 0) (Ad (Aa 1) (Ad (Aa 2) (Ac))))))
 (Az (Ak EW (Ad (Cv (Ap f_places_of (Ad (Aa 0) (Ac))) 2 (asgT [3,4]) AU (Ab (B1 λ i j=>decide (i<=j)) (Ab An (Ab An (Aa 1) (Aa 3)) (Aa 4)) (Ab An (Ab An (Aa 2) (Aa 3)) (Aa 4)))) (Ac)))))
def f_lies_below:Fn:=Au false 3 0 Xf_lies_below
def sz:(1000000:Nat)<=Aw:=by decide
def whole_ok (i:Int):f_is_whole_number [.int i]=.ok (.bl true,om,.non):=by kernel_rfl
def Gk (a b c:Int):Bool:=decide (1<=a) && (decide (1<=b) && decide (1<=c))
def gR (a b c:Int):f_is_box [bx a b c]=.ok (.bl (Gk a b c),om,.non):=by
 have e0:∀ x∈[a,b,c],(CW (Ap f_is_whole_number (Ad (Aa 1) (Ac))) (Ab (B1 λ i j=>decide (j<=i)) (Aa 1) (bC (.int 1)))) ([some (bx a b c,0)]++[some (.int x,om)])=.ok (.bl (decide (1<=x)),om,[some (bx a b c,0)]++[some (.int x,om)]):=λ x _=>by kernel_rfl
 have e1:=yQ (n:=1) (f:=Aa 0) (ρ:=[some (bx a b c,0)]) (enc:=PV.int) (q:=λ x=>.bl (decide (1<=x))) (d:=0) [a,b,c] rfl rfl e0 (by have:=sz;show 3<=Aw;omega);refine BB rfl (ρ':=[some (bx a b c,0)]) ?_;show Xf_is_box [some (bx a b c,0)]=_;refine (Fw (ρ1:=[some (bx a b c,0)]) (by kernel_rfl)).trans (BN ?_);rw [G8 e1];show Rz.ok (PV.bl (decide (1<=a) && (decide (1<=b) && (decide (1<=c) && true))),om,_)=_;rw [HS];rfl
def Vo {a b c:Int} (h:Gk a b c=true):f_must_be_box [bx a b c]=.ok (.non,om,.non):=by
 refine NO rfl (ρ':=[some (bx a b c,0)]) ?_;have hb:=gR a b c;rw [h] at hb;exact DO (f:=Hg) (g:=AB) (AH (Gs (AE (F:=f_is_box) (fa:=Ad (Aa 0) Ac) (ρ:=[some (bx a b c,0)]) (xs:=[(bx a b c,0)]) rfl hb)))
def DL (xs:List Int) (c h:Int):Bool:=decide ((xs.length:Int)=c) && xs.all λ x=>decide (0<=x) && decide (x<=h)
def kh (xs:List Int) (c h:Int) (hl:xs.length<=1000):f_is_row_of_heights [il xs,.int c,.int h]=.ok (.bl (DL xs c h),om,.non):=by
 have e0:∀ x∈xs,(CW (Ap f_is_whole_number (Ad (Aa 3) (Ac))) (E5 (λ i j=>decide (i<=j)) (λ i j=>decide (i<=j)) (bC (.int 0)) (Aa 3) (Aa 2))) ([some (il xs,0),some (.int c,om),some (.int h,om)]++[some (.int x,om)])=.ok (.bl (decide (0<=x) && decide (x<=h)),om,[some (il xs,0),some (.int c,om),some (.int h,om)]++[some (.int x,om)]):=λ x _=>
  Og (a:=true) (AE (xs:=[(.int x,om)]) rfl (whole_ok x)) (λ _=>Kr (i:=0) (j:=x) (k:=h) rfl rfl rfl) rfl
 have e1:=Ks (n:=3) (f:=Aa 0) (ρ:=[some (il xs,0),some (.int c,om),some (.int h,om)]) (enc:=PV.int) (q:=λ x=>.bl (decide (0<=x) && decide (x<=h))) (d:=0) xs rfl rfl e0 (by have:=sz;omega);have t:bT (Bz (AQ Co (AQ (FP "list") (Aa 0))) (Ab (A3 true) (Ak CC (Ad (Aa 0) (Ac))) (Aa 1))) [some (il xs,0),some (.int c,om),some (.int h,om)]=.ok (!decide ((xs.length:Int)=c),[some (il xs,0),some (.int c,om),some (.int h,om)]):=by
  refine AH (d:=om) ((Rc (a:=false) rfl (λ _=>HD (Ov (xs:=xs) (d:=0) rfl) (j:=c) rfl) rfl).trans ?_);rw [S8,Bool.true_xor]
 refine BB rfl (ρ':=[some (il xs,0),some (.int c,om),some (.int h,om)]) ?_;show Xf_is_row_of_heights [some (il xs,0),some (.int c,om),some (.int h,om)]=_;unfold DL;by_cases hc:(xs.length:Int)=c
 ·rw [decide_eq_true hc] at t ⊢;refine (Fw t).trans (BN ?_);rw [G8 e1];rfl
 ·rw [decide_eq_false hc] at t ⊢;exact JE ((Dj t).trans rfl)
def FC (xs:List Int):Bool:=(Ay ((xs.length:Int) - 1).toNat).all λ k=>decide (xs.getD (k + 1) 0<=xs.getD k 0)
def Y7 (xs:List Int) (hl:xs.length<=1000):f_never_rises [il xs]=.ok (.bl (FC xs),om,.non):=by
 have e0:∀ k,k < ((xs.length:Int) - 1).toNat->(Ab (B1 λ i j=>decide (i<=j)) (Ab An (Aa 0) (Aa 1)) (Ab An (Aa 0) (Ab BH (Aa 1) (bC (.int 1))))) ([some (il xs,0)]++[some (.int (1 + (k:Int)),om)])=.ok (.bl (decide (xs.getD (k + 1) 0<=xs.getD k 0)),om,[some (il xs,0)]++[some (.int (1 + (k:Int)),om)]):=λ k hk=>by
  refine ET (i:=xs.getD (k + 1) 0) (j:=xs.getD k 0) (HB (xs:=xs) (k:=1 + (k:Int)) rfl rfl (Ed (by omega) ?_)) (HB (xs:=xs) (k:=1 + (k:Int) - 1) rfl rfl (Ed (by omega) ?_))
  ·rw [show (1 + (k:Int)).toNat=k + 1 by omega,BU (show k + 1 < xs.length by omega),AN,BU (show k + 1 < xs.length by omega)];rfl
  ·rw [show (1 + (k:Int) - 1).toNat=k by omega,BU (show k < xs.length by omega),AN,BU (show k < xs.length by omega)];rfl
 have e1:=GC (n:=1) (en:=GQ) (ρ:=[some (il xs,0)]) (q:=λ k=>.bl (decide (xs.getD (k + 1) 0<=xs.getD k 0))) (A6 (f:=bC (.int 1)) (d:=om) (x:=.int 1) rfl (AF (Ov (fa:=Ad (Aa 0) Ac) (xs:=xs) (d:=0) rfl))) (yU (by decide) (by decide) (by omega) (by omega)) rfl e0 (by have:=sz;omega);exact BB rfl (ρ':=[some (il xs,0)]) (BN (G8 e1))
def FO (t:List (List Int)) (j:Nat):List Int:=t.map λ r=>r.getD j 0
def EZ {xs:List Int}{j:Nat} (h:j < xs.length):xs[j]?=some (xs.getD j 0):=by
 rw [AN,BU h];rfl
def Jz {xs:List (List Int)}{j:Nat} (h:j < xs.length):xs[j]?=some (xs.getD j []):=by
 rw [AN,BU h];rfl
def gA (t:List (List Int)) (j:Nat) (hl:t.length<=1000) (hr:∀ r∈t,j < r.length):f_column_of [tb t,.int (j:Int)]=.ok (il (FO t j),om,.non):=by
 have e0:∀ r∈t,(Ab An (Aa 2) (Aa 1)) ([some (tb t,0),some (.int (j:Int),om)]++[some (il r,0)])=.ok (.int (r.getD j 0),om,[some (tb t,0),some (.int (j:Int),om)]++[some (il r,0)]):=λ r hm=>
  HB (xs:=r) (k:=(j:Int)) rfl rfl (Ed (by omega) (EZ (hr r hm)))
 have e1:=Ks (n:=2) (f:=Aa 0) (ρ:=[some (tb t,0),some (.int (j:Int),om)]) (enc:=il) (q:=λ r=>.int (r.getD j 0)) (d:=0) t rfl rfl e0 (by have:=sz;omega);refine BB rfl (ρ':=[some (tb t,0),some (.int (j:Int),om)]) ((BN e1).trans ?_);unfold FO il;rw [Cr];rfl
def Tab (a b:Nat) (t:List (List Int)):Prop:=t.length=a/\∀ r∈t,r.length=b
def LG (a b:Nat) (c:Int) (t:List (List Int)):Bool:=(t.all λ r=>DL r b c) && ((t.all FC) && ((Ay b).all λ j=>FC (FO t j)))
theorem bN {a b:Nat}{c:Int}{t:List (List Int)} (ht:Tab a b t) (ha:1<=a/\a<=100) (hb:1<=b/\b<=100) (hc:1<=c):f_is_pile [bx a b c,tb t]=.ok (.bl (LG a b c t),om,.non):=by
 let R0:Af:=[some (bx a b c,0),some (tb t,0),none,none,none]
 let R1:Af:=[some (bx a b c,0),some (tb t,0),some (.int a,om),some (.int b,om),some (.int c,om)]
 have hbx:Gk a b c=true:=by unfold Gk;rw [decide_eq_true (by omega),decide_eq_true (by omega),decide_eq_true hc];rfl
 have hs:=sz;have l1:=ht.1;have s1:CF (Ap f_must_be_box (Ad (Aa 0) (Ac))) R0=.nx R0:=GF (AE (xs:=[(bx a b c,0)]) rfl (Vo hbx));have s2:B4 (asgT [2,3,4]) (Aa 0) [0] R0=.nx R1:=by kernel_rfl
 have t3:bT (Bz (AQ Co (AQ (FP "list") (Aa 1))) (Ab (A3 true) (Ak CC (Ad (Aa 1) (Ac))) (Aa 2))) R1=.ok (false,R1):=by
  refine AH (d:=om) ((Rc (a:=false) rfl (λ _=>HD (j8 (t:=t) (d:=0) rfl) (j:=(a:Int)) rfl) rfl).trans ?_);rw [l1];simp
 have e4:∀ r∈t,(Ap f_is_row_of_heights (Ad (Aa 5) (Ad (Aa 3) (Ad (Aa 4) (Ac))))) (R1++[some (il r,0)])=.ok (.bl (DL r b c),om,R1++[some (il r,0)]):=λ r hr=>
  AE (xs:=[(il r,0),(.int b,om),(.int c,om)]) rfl (kh r b c (by rw [ht.2 r hr];omega))
 have t4:=AH (Gs (G8 (Ks (n:=5) (f:=Aa 1) (ρ:=R1) (enc:=il) (q:=λ r=>.bl (DL r b c)) (d:=0) t rfl rfl e4 (by omega))));have e5:∀ r∈t,(Ap f_never_rises (Ad (Aa 5) (Ac))) (R1++[some (il r,0)])=.ok (.bl (FC r),om,R1++[some (il r,0)]):=λ r hr=>
  AE (xs:=[(il r,0)]) rfl (Y7 r (by rw [ht.2 r hr];omega))
 have t5:=AH (Gs (G8 (Ks (n:=5) (f:=Aa 1) (ρ:=R1) (enc:=il) (q:=λ r=>.bl (FC r)) (d:=0) t rfl rfl e5 (by omega))));have e6:∀ k,k < ((b:Int) - 0).toNat->(Ap f_never_rises (Ad (Ap f_column_of (Ad (Aa 1) (Ad (Aa 5) (Ac)))) (Ac))) (R1++[some (.int (0 + (k:Int)),om)])=.ok (.bl (FC (FO t k)),om,R1++[some (.int (0 + (k:Int)),om)]):=λ k hk=>by
  have e:=gA t k (by omega) λ r hr=>by rw [ht.2 r hr];omega
  rw [Ho];exact AE (xs:=[(il (FO t k),om)]) (AF (AE (xs:=[(tb t,0),(.int (k:Int),om)]) rfl e)) (Y7 _ (by unfold FO;rw [AJ];omega))
 have e7:=GC (n:=5) (en:=Bl) (fa:=Ad (Aa 3) Ac) (ρ:=R1) (q:=λ k=>.bl (FC (FO t k))) (as:=[(.int (b:Int),om)]) rfl (EY (by omega) (by omega)) rfl e6 (by omega);rw [show ((b:Int) - 0).toNat=b by omega] at e7;refine BB rfl (ρ':=R1) ?_;show Xf_is_pile R0=_;unfold LG;refine (Be s1).trans ((Be s2).trans ((Fw t3).trans ?_));cases h1:t.all λ r=>DL r b c with
 | false=>
  rw [h1] at t4;exact JE ((Dj t4).trans rfl)
 | true=>
  rw [h1] at t4;refine (Fw t4).trans ?_;cases h2:t.all FC with
  | false=>
   have h2':t.all (λ r=>FC r)=false:=h2;rw [h2'] at t5;exact JE ((Dj t5).trans rfl)
  | true=>
   have h2':t.all (λ r=>FC r)=true:=h2;rw [h2'] at t5;exact (Fw t5).trans (BN (G8 e7))
def UD {a b:Nat}{c:Int}{t:List (List Int)} (ht:Tab a b t) (ha:1<=a/\a<=100) (hb:1<=b/\b<=100) (hc:1<=c) (h:LG a b c t=true):f_must_be_pile [bx a b c,tb t]=.ok (.non,om,.non):=by
 refine NO rfl (ρ':=[some (bx a b c,0),some (tb t,0)]) ?_;have hp:=bN ht ha hb hc;rw [h] at hp;exact DO (f:=Hg) (g:=AB) (AH (Gs (AE (F:=f_is_pile) (fa:=Ad (Aa 0) (Ad (Aa 1) Ac)) (ρ:=[some (bx a b c,0),some (tb t,0)]) (xs:=[(bx a b c,0),(tb t,0)]) rfl hp)))
def g (t:List (List Int)) (i j:Nat):Int:=(t.getD i []).getD j 0
structure Pile (a b:Nat) (c:Int) (t:List (List Int)):Prop where
 tab:Tab a b t
 lo:∀ i j,i < a->j < b->0<=g t i j
 hi:∀ i j,i < a->j < b->g t i j<=c
 dn:∀ i j,i + 1 < a->j < b->g t (i + 1) j<=g t i j
 rt:∀ i j,i < a->j + 1 < b->g t i (j + 1)<=g t i j
def Sk {t:List (List Int)}{i:Nat} (h:i < t.length):t.getD i []∈t:=by
 rw [AN,BU h];exact HW h
def Tab.row {a b:Nat}{t:List (List Int)} (h:Tab a b t) {i:Nat} (hi:i < a):(t.getD i []).length=b:=h.2 _ (Sk (by rw [h.1];exact hi))
def yZ {xs:List Int}{i:Nat} (h:i < xs.length):xs.getD i 0∈xs:=by
 rw [AN,BU h];exact HW h
def uo {xs:List Int}{x:Int} (h:x∈xs):∃ i,i < xs.length/\xs.getD i 0=x:=by
 obtain ⟨i,hi,e⟩:=Ia h;exact ⟨i,hi,by rw [AN,BU hi];exact e⟩
def UU {t:List (List Int)}{r:List Int} (h:r∈t):∃ i,i < t.length/\t.getD i []=r:=by
 obtain ⟨i,hi,e⟩:=Ia h;exact ⟨i,hi,by rw [AN,BU hi];exact e⟩
def uf {xs ys:List Int} (hl:xs.length=ys.length) (h:∀ i,i < xs.length->xs.getD i 0=ys.getD i 0):xs=ys:=by
 refine O9 hl λ i h1 h2=>?_
 have:=h i h1
 rw [AN,BU h1,AN,BU h2] at this;exact this
def MH {a b:Nat}{t u:List (List Int)} (ht:Tab a b t) (hu:Tab a b u) (h:∀ i j,i < a->j < b->g t i j=g u i j):t=u:=by
 refine O9 (by rw [ht.1,hu.1]) λ i h1 h2=>?_;have hi:i < a:=by rw [<- ht.1];exact h1
 have e1:t.getD i []=t[i]:=by rw [AN,BU h1];rfl
 have e2:u.getD i []=u[i]:=by rw [AN,BU h2];rfl
 rw [<- e1,<- e2];refine uf (by rw [ht.row hi,hu.row hi]) λ j hj=>h i j hi (by rw [<- ht.row hi];exact hj)
def qbo {xs:List Int}{c h:Int}:DL xs c h=true↔(xs.length:Int)=c/\∀ x∈xs,0<=x/\x<=h:=by
 unfold DL;rw [AK,decide_eq_true_iff,jb1];constructor
 ·rintro ⟨h1,h2⟩;refine ⟨h1,λ x hx=>?_⟩
  have:=h2 x hx
  rw [AK,decide_eq_true_iff,decide_eq_true_iff] at this;exact this
 ·rintro ⟨h1,h2⟩;refine ⟨h1,λ x hx=>?_⟩;rw [AK,decide_eq_true_iff,decide_eq_true_iff];exact h2 x hx
def zmu {xs:List Int}:FC xs=true↔∀ k,k + 1 < xs.length->xs.getD (k + 1) 0<=xs.getD k 0:=by
 unfold FC;rw [jb1];constructor
 ·intro h k hk;exact of_decide_eq_true (h k (jb8.mpr (by omega)))
 ·intro h k hk
  have:=jb8.mp hk
  exact decide_eq_true (h k (by omega))
def MW {t:List (List Int)}{i j:Nat} (h:i < t.length):(FO t j).getD i 0=g t i j:=by
 unfold FO g;rw [AN,CL,BU h,AN (l:=t),BU h];rfl
def Xk {t:List (List Int)}{j:Nat}:(FO t j).length=t.length:=by unfold FO;rw [AJ]
def UY {a b:Nat}{c:Int}{t:List (List Int)} (ht:Tab a b t):LG a b c t=true↔Pile a b c t:=by
 unfold LG;rw [AK,AK,jb1,jb1,jb1];constructor
 ·rintro ⟨h1,h2,h3⟩;have q:∀ i j,i < a->j < b->0<=g t i j/\g t i j<=c:=λ i j hi hj=>(qbo.mp (h1 _ (Sk (by rw [ht.1];exact hi)))).2 _ (yZ (by rw [ht.row hi];exact hj));refine ⟨ht,λ i j hi hj=>(q i j hi hj).1,λ i j hi hj=>(q i j hi hj).2,λ i j hi hj=>?_,λ i j hi hj=>?_⟩
  ·have:=zmu.mp (h3 j (jb8.mpr hj)) i (by rw [Xk,ht.1];exact hi)
   rw [MW (by rw [ht.1];exact hi),MW (by rw [ht.1];omega)] at this;exact this
  ·exact zmu.mp (h2 _ (Sk (by rw [ht.1];exact hi))) j (by rw [ht.row hi];exact hj)
 ·intro p;refine ⟨λ r hr=>qbo.mpr ⟨by rw [ht.2 r hr],λ x hx=>?_⟩,λ r hr=>zmu.mpr λ k hk=>?_,λ j hj=>zmu.mpr λ k hk=>?_⟩
  ·obtain ⟨i,hi,rfl⟩:=UU hr;obtain ⟨j,hj,rfl⟩:=uo hx;have hi':i < a:=by rw [<- ht.1];exact hi
   rw [ht.row hi'] at hj;exact ⟨p.lo i j hi' hj,p.hi i j hi' hj⟩
  ·obtain ⟨i,hi,rfl⟩:=UU hr;have hi':i < a:=by rw [<- ht.1];exact hi
   rw [ht.row hi'] at hk;exact p.rt i k hi' hk
  ·rw [Xk,ht.1] at hk;rw [MW (by rw [ht.1];exact hk),MW (by rw [ht.1];omega)];exact p.dn k j hk (jb8.mp hj)
def C8 (a b:Nat) (f:Nat->Nat->Int):List (List Int):=(Ay a).map λ i=>(Ay b).map λ j=>f i j
def HA {a b:Nat}{f:Nat->Nat->Int}:Tab a b (C8 a b f):=by
 refine ⟨by unfold C8;rw [AJ,FF],λ r hr=>?_⟩;obtain ⟨i,_,rfl⟩:=jc2.mp hr;rw [AJ,FF]
def X2 {b j:Nat}{f:Nat->Int} (hj:j < b):((Ay b).map f).getD j 0=f j:=by
 rw [AN,CL,OB hj];rfl
def w8 {a i:Nat}{f:Nat->List Int} (hi:i < a):((Ay a).map f).getD i []=f i:=by
 rw [AN,CL,OB hi];rfl
def BY {a b i j:Nat}{f:Nat->Nat->Int} (hi:i < a) (hj:j < b):g (C8 a b f) i j=f i j:=by
 unfold g C8;rw [w8 hi,X2 hj]
def Nr (r:List Int):Prop:=∀ k,k + 1 < r.length->r.getD (k + 1) 0<=r.getD k 0
def wL {f h:Fx}{ρ ρ1 ρ2:Af}{xs:List Int}{k x:Int}{d e:Nat} (h1:f ρ=.ok (.scr xs,d,ρ1)) (h2:h ρ1=.ok (.int k,e,ρ2)) (hx:BG xs k=some x):Ab An f h ρ=.ok (.int x,om,ρ2):=by
 refine Cj h1 h2 ?_;show (BG xs k).map _=_;rw [hx];rfl
def vC (ns:List Int) (k:Nat):b_cell_at [.scr ns,.int (k:Int)]=.ok (.int (ns.getD k 0),om,.non):=by
 let R:Af:=[some (.scr ns,om),some (.int (k:Int),om)]
 have t1:bT (Ab (B1 λ i j=>decide (i < j)) (Aa 1) (Ak CC (Ad (Aa 0) (Ac)))) R=.ok (decide ((k:Int) < (ns.length:Int)),R):=rfl;refine BB rfl (ρ':=R) ?_;by_cases h:(k:Int) < (ns.length:Int)
 ·rw [decide_eq_true h] at t1;exact JE ((Dj t1).trans (BN (wL (xs:=ns) (k:=(k:Int)) (d:=om) rfl rfl (Ed (by omega) (EZ (by omega))))))
 ·rw [decide_eq_false h] at t1;refine (Fw t1).trans ((BN (d:=om) rfl).trans ?_);rw [AN,Fh (by omega)];rfl
def vq {f h:Fx}{ρ ρ1 ρ2:Af}{xs ys:List PV}{d e:Nat} (h1:f ρ=.ok (.lst xs,d,ρ1)) (h2:h ρ1=.ok (.lst ys,e,ρ2)) (hl:xs.length + ys.length<=Aw):Ab AG f h ρ=.ok (.lst (xs++ys),d1 (xs++ys),ρ2):=by
 refine Cj h1 h2 ?_;show (if _ then _ else _)=_;rw [if_pos hl]
theorem OY:∀ xs:List Int,E6 (xs.map PV.int)=some xs
 | []=>rfl
 | x::xs=>by rw [Bc,E6,OY xs];rfl
def G4 (c:Int) (t:List (List Int)) (j:Nat):Int:=if t.length=0 then c else g t (t.length - 1) j
def uK {t:List (List Int)}{r:List Int}{i:Nat}:(t++[r]).getD i []=if i < t.length then t.getD i [] else if i=t.length then r else []:=by
 by_cases h:i < t.length
 ·rw [if_pos h,AN,C9 h,AN]
 ·rw [if_neg h];by_cases h2:i=t.length
  ·rw [if_pos h2,h2,AN,qi];rfl
  ·rw [if_neg h2,AN,Fh (by rw [Br,Gg];omega)];rfl
def Pw {r:List Int}{x:Int}{i:Nat}:(r++[x]).getD i 0=if i < r.length then r.getD i 0 else if i=r.length then x else 0:=by
 by_cases h:i < r.length
 ·rw [if_pos h,AN,C9 h,AN]
 ·rw [if_neg h];by_cases h2:i=r.length
  ·rw [if_pos h2,h2,AN,qi];rfl
  ·rw [if_neg h2,AN,Fh (by rw [Br,Gg];omega)];rfl
def Pile.snoc {k b:Nat}{c:Int}{t:List (List Int)}{r:List Int} (p:Pile k b c t) (hr:r.length=b) (h:∀ y,y < b->0<=r.getD y 0/\r.getD y 0<=G4 c t y) (hn:Nr r):Pile (k + 1) b c (t++[r]):=by
 have l:=p.tab.1;have e:∀ i j,g (t++[r]) i j=if i < k then g t i j else if i=k then r.getD j 0 else 0:=λ i j=>by
  unfold g;rw [uK,l];split
  ·rfl
  ·split <;> rfl
 have u:∀ y,y < b->G4 c t y<=c:=λ y hy=>by
  unfold G4;split
  ·exact C5 _
  ·exact p.hi _ _ (by omega) hy
 refine ⟨⟨by rw [Br,l];rfl,λ x hx=>?_⟩,λ i j hi hj=>?_,λ i j hi hj=>?_,λ i j hi hj=>?_,λ i j hi hj=>?_⟩
 ·rcases jg8.mp hx with z | z
  ·exact p.tab.2 x z
  ·rw [jd0.mp z,hr]
 ·rw [e];by_cases z:i < k
  ·rw [if_pos z];exact p.lo i j z hj
  ·rw [if_neg z,if_pos (by omega)];exact (h j hj).1
 ·rw [e];by_cases z:i < k
  ·rw [if_pos z];exact p.hi i j z hj
  ·rw [if_neg z,if_pos (by omega)];exact EF (h j hj).2 (u j hj)
 ·rw [e,e];by_cases z:i + 1 < k
  ·rw [if_pos z,if_pos (by omega)];exact p.dn i j z hj
  ·rw [if_neg z,if_pos (by omega),if_pos (by omega)]
   have:=(h j hj).2
   unfold G4 at this;rw [if_neg (by omega),l,show k - 1=i by omega] at this;exact this
 ·rw [e,e];by_cases z:i < k
  ·rw [if_pos z,if_pos z];exact p.rt i j z hj
  ·rw [if_neg z,if_neg z,if_pos (by omega),if_pos (by omega)];exact hn j (by rw [hr];exact hj)
theorem Pj:∀ xs:List Int,DV (xs.map PV.int)=true
 | []=>rfl
 | x::xs=>by rw [Bc,DV,Pj xs];rfl
def KD (xs:List Int):d1 (xs.map PV.int)=om:=by unfold d1;rw [Pj];rfl
def wy {f:Fx}{ρ ρ1:Af}{xs:List Int}{d:Nat} (h:f ρ=.ok (il xs,d,ρ1)):Ak JC (Ad f Ac) ρ=.ok (il xs,om,ρ1):=by
 refine Cw (AF h) ?_;show some (PV.lst (xs.map PV.int),d1 (xs.map PV.int))=_;rw [KD];rfl
def RX {f h k:Fx}{ρ ρ1 ρ2 ρ3:Af}{t:List (List Int)}{a b i j:Nat}{d e e':Nat} (ht:Tab a b t) (h1:f ρ=.ok (tb t,d,ρ1)) (h2:h ρ1=.ok (.int (i:Int),e,ρ2)) (h3:k ρ2=.ok (.int (j:Int),e',ρ3)) (hi:i < a) (hj:j < b):Ab An (Ab An f h) k ρ=.ok (.int (g t i j),om,ρ3):=
 HB (xs:=t.getD i []) (k:=(j:Int)) (Rx (t:=t) (k:=(i:Int)) h1 h2 (Ed (by omega) (Jz (by rw [CU,ht.1];exact hi)))) h3 (Ed (by omega) (EZ (by rw [CU,ht.row hi];exact hj)))
theorem PY {asg:PV->Af->Option Af}{body:Fs}:∀ (els:List PV) (I:Nat->Af->Prop) (ρ:Af),I 0 ρ->(∀ j x ρ,els[j]?=some x->I j ρ->∃ ρ1 ρ2,asg x ρ=some ρ1/\body ρ1=.nx ρ2/\I (j + 1) ρ2)->∃ ρ',Ck asg body els ρ=.nx ρ'/\I els.length ρ'
 | [],I,ρ,h,_=>⟨ρ,rfl,h⟩
 | x::xs,I,ρ,h,hb=>by
  obtain ⟨ρ1,ρ2,e1,e2,h2⟩:=hb 0 x ρ rfl h;obtain ⟨ρ',e',h'⟩:=PY xs (λ j=>I (j + 1)) ρ2 h2 λ j y ρ hy hi=>hb (j + 1) y ρ (by simpa using hy) hi;refine ⟨ρ',?_,h'⟩;unfold Ck;rw [e1];dsimp only;rw [e2];exact e'
def yY {v:Vw}{fa:Fa}{vs:List Nat}{asg:PV->Af->Option Af}{body:Fs}{ρ ρ1 ρ2:Af}{xs:List (PV×Nat)}{els:List PV} (I:Nat->Af->Prop) (hf:fa ρ=.ok (xs,ρ1)) (he:K8 v (xs.map (·.1))=some els) (ec:Bb (if CO xs=true then om else 0) vs ρ1=ρ2) (h0:I 0 ρ2)
  (hb:∀ j x ρ,els[j]?=some x->I j ρ->∃ ρ1 ρ2,asg x ρ=some ρ1/\body ρ1=.nx ρ2/\I (j + 1) ρ2):∃ ρ',Ra v fa vs asg body ρ=.nx ρ'/\I els.length ρ':=by
 obtain ⟨ρ',e,h⟩:=PY els I ρ2 h0 hb;refine ⟨ρ',?_,h⟩;unfold Ra Fv Df;rw [hf];dsimp only [Rz.bind];rw [he];dsimp only;rw [ec];exact e
def Wy {i:Nat}{f:Fx}{vs:List Nat}{ρ ρ1 ρ2:Af}{ys:List PV}{e:Nat}{xs:List PV}{d0 d:Nat}{xs0:List PV} (h0:ρ[i]?=some (some (.lst xs0,d0 + 1))) (h:f ρ=.ok (.lst ys,e,ρ1)) (h1:(Bb e vs ρ1)[i]?=some (some (.lst xs,d))) (hd:d≠0) (hl:xs.length + ys.length<=Aw)
  (e2:(Bb e vs ρ1).set i (some (.lst (xs++ys),1))=ρ2):Ce i f vs ρ=.nx ρ2:=by
 unfold Ce;rw [h0];dsimp only;rw [h];dsimp only;rw [h1];dsimp only;rw [if_pos ⟨hd,hl⟩,e2]
abbrev C3:=Nat×Nat×Nat
def c3 (x:C3):PV:=.tup [.int (x.1:Int),.int (x.2.1:Int),.int (x.2.2:Int)]
def uN {xs:List Int} (h1:xs.length<=1000) (h2:∀ x∈xs,-1000000<=x/\x<=1000000):Eh xs=true:=by
 unfold Eh;rw [AK,decide_eq_true_iff,jb1];refine ⟨by omega,λ x hx=>?_⟩
 have:=h2 x hx
 rw [AK,decide_eq_true_iff,decide_eq_true_iff];omega
def Io {fa:Fa}{ρ ρ1:Af}{xs:List Int}{d:Nat} (h:fa ρ=.ok ([(il xs,d)],ρ1)) (hs:Eh xs=true):Ak CD fa ρ=.ok (.int xs.sum,om,ρ1):=by
 refine Cw h ?_;show (match E6 (xs.map PV.int) with | some ns=>if Eh ns=true then some (PV.int ns.sum,om) else none | none=>none)=_;rw [OY];dsimp only;rw [if_pos hs]
def C0 (t:List (List Int)) (c:Int):List (List Int):=t.reverse.map λ r=>r.reverse.map λ h=>c - h
def XH {α:Type}{xs:List α}{d:α}{i:Nat} (h:i < xs.length):xs.reverse.getD i d=xs.getD (xs.length - 1 - i) d:=by
 rw [AN,SR h,AN]
def K0 {a b:Nat}{c:Int}{t:List (List Int)} (ht:Tab a b t):Tab a b (C0 t c):=by
 refine ⟨by unfold C0;rw [AJ,Kk,ht.1],λ r hr=>?_⟩;obtain ⟨q,hq,rfl⟩:=jc2.mp hr;rw [AJ,Kk,ht.2 q (List.mem_reverse.mp hq)]
def uk {f:Int->Int}{xs:List Int}{j:Nat} (h:j < xs.length):(xs.map f).getD j 0=f (xs.getD j 0):=by
 rw [AN,CL,EZ h];rfl
def gY {f:List Int->List Int}{t:List (List Int)}{j:Nat} (h:j < t.length):(t.map f).getD j []=f (t.getD j []):=by
 rw [AN,CL,Jz h];rfl
def Fc {a b:Nat}{c:Int}{t:List (List Int)} (ht:Tab a b t) {i j:Nat} (hi:i < a) (hj:j < b):g (C0 t c) i j=c - g t (a - 1 - i) (b - 1 - j):=by
 unfold g C0;have hi2:a - 1 - i < a:=by omega
 rw [gY (by rw [Kk,ht.1];exact hi),XH (by rw [ht.1];exact hi),ht.1,uk (by rw [Kk,ht.row hi2];exact hj),XH (by rw [ht.row hi2];exact hj),ht.row hi2]
def J0 {a b:Nat}{c:Int}{t:List (List Int)} (p:Pile a b c t):Pile a b c (C0 t c):=by
 refine ⟨K0 p.tab,λ i j hi hj=>?_,λ i j hi hj=>?_,λ i j hi hj=>?_,λ i j hi hj=>?_⟩
 ·rw [Fc p.tab hi hj];have:=p.hi (a - 1 - i) (b - 1 - j) (by omega) (by omega);omega
 ·rw [Fc p.tab hi hj];have:=p.lo (a - 1 - i) (b - 1 - j) (by omega) (by omega);omega
 ·rw [Fc p.tab hi hj,Fc p.tab (by omega) hj]
  have:=p.dn (a - 1 - (i + 1)) (b - 1 - j) (by omega) (by omega)
  rw [show a - 1 - (i + 1) + 1=a - 1 - i by omega] at this;omega
 ·rw [Fc p.tab hi hj,Fc p.tab hi (by omega)]
  have:=p.rt (a - 1 - i) (b - 1 - (j + 1)) (by omega) (by omega)
  rw [show b - 1 - (j + 1) + 1=b - 1 - j by omega] at this;omega
theorem PQ {α:Type}{k:Nat}{asg:PV->Af->Option Af}{test:Fb}{elt:Fx}{enc q:α->PV}{E:α->Af}{e:α->Nat}{p:α->Bool}:∀ (xs:List α) (ρ:Af) (acc:List (PV×Nat)),(∀ x∈xs,asg (enc x) (ρ++A9 k none)=some (ρ++E x)) ->
  (∀ x∈xs,test (ρ++E x)=.ok (p x,ρ++E x))->(∀ x∈xs,p x=true->elt (ρ++E x)=.ok (q x,e x,ρ++E x))->acc.length + xs.length<=Aw->DC k asg test elt (xs.map enc) ρ acc=.ok (acc++(xs.filter p).map (λ x=>(q x,e x)),ρ)
 | [],ρ,acc,_,_,_,_=>by simp [DC]
 | x::xs,ρ,acc,ha,ht,he,hl=>by
  have ih:=λ acc h=>PQ (k:=k) (asg:=asg) (test:=test) (elt:=elt) (p:=p) (q:=q) (e:=e) (enc:=enc) (E:=E) xs ρ acc (λ y hy=>ha y (AO _ hy)) (λ y hy=>ht y (AO _ hy)) (λ y hy=>he y (AO _ hy)) h;have tk:(ρ++E x).take ρ.length=ρ:=by simp
  rw [B8] at hl;rw [Bc];unfold DC;rw [ha x AM];dsimp only;rw [ht x AM];dsimp only [Rz.bindN];cases hp:p x with
  | false=>rw [if_neg BK,tk,ih acc (by omega),qb (by simp [hp])]
  | true=>
   rw [if_pos rfl,he x AM hp];dsimp only;rw [if_pos (by omega),tk,ih _ (by rw [Br,Gg];omega),qa hp];simp
def UT {α:Type}{q:α->PV}{xs:List α}{ρ:Af}:E9 ([]++xs.map λ x=>(q x,om)) ρ=.ok (.lst (xs.map q),om,ρ):=by
 rw [Fg];unfold E9;rw [Jx,Cr];rfl
def Rq {α:Type}{k:Nat}{v:Vw}{fa:Fa}{asg:PV->Af->Option Af}{elt:Fx}{enc q:α->PV}{E:α->Af}{ρ ρ1:Af}{as:List (PV×Nat)} (xs:List α) (hf:fa ρ=.ok (as,ρ1)) (hv:K8 v (as.map (·.1))=some (xs.map enc)) (ha:∀ x∈xs,asg (enc x) (ρ1++A9 k none)=some (ρ1++E x))
  (he:∀ x∈xs,elt (ρ1++E x)=.ok (q x,om,ρ1++E x)) (hl:xs.length<=Aw):DT v fa k asg AU elt ρ=.ok (.lst (xs.map q),om,ρ1):=by
 unfold DT Ec Df;rw [hf];dsimp only [Rz.bind];rw [hv];dsimp only;rw [PQ (p:=λ _=>true) (q:=q) (e:=λ _=>om) xs ρ1 [] ha (λ _ _=>rfl) (λ x hx _=>he x hx) (by simpa using hl),je9.mpr (λ _ _=>rfl)];exact UT
def je {α:Type}{k:Nat}{f:Fx}{asg:PV->Af->Option Af}{test:Fb}{elt:Fx}{enc q:α->PV}{E:α->Af}{p:α->Bool}{ρ ρ1:Af}{d:Nat} (xs:List α) (hf:f ρ=.ok (.lst (xs.map enc),d,ρ1)) (ha:∀ x∈xs,asg (enc x) (ρ1++A9 k none)=some (ρ1++E x))
  (ht:∀ x∈xs,test (ρ1++E x)=.ok (p x,ρ1++E x)) (he:∀ x∈xs,p x=true->elt (ρ1++E x)=.ok (q x,om,ρ1++E x)) (hl:xs.length<=Aw):Cv f k asg test elt ρ=.ok (.lst ((xs.filter p).map q),om,ρ1):=by
 unfold Cv Ec CJ;rw [hf];dsimp only [Rz.bind];rw [PQ (p:=p) (q:=q) (e:=λ _=>om) xs ρ1 [] ha ht he (by simpa using hl)];exact UT
def bL {α:Type} (xs:List α):xs.filter (λ _=>true)=xs:=je9.mpr λ _ _=>rfl
theorem J7 {α:Type}{asg:PV->Af->Option Af}{body:Fs}{enc:α->PV} (P:List α->Af->Prop):∀ (xs pre:List α) (ρ:Af),P pre ρ->(∀ p x s ρ,pre++xs=p++x::s->P p ρ->∃ ρ1 ρ2,asg (enc x) ρ=some ρ1/\body ρ1=.nx ρ2/\P (p++[x]) ρ2) ->
  ∃ ρ',Ck asg body (xs.map enc) ρ=.nx ρ'/\P (pre++xs) ρ'
 | [],pre,ρ,h,_=>⟨ρ,rfl,by simpa using h⟩
 | x::xs,pre,ρ,h,hb=>by
  obtain ⟨ρ1,ρ2,e1,e2,h2⟩:=hb pre x xs ρ rfl h;obtain ⟨ρ',e',h'⟩:=J7 P xs (pre++[x]) ρ2 h2 λ p y s ρ e=>hb p y s ρ (by rw [<- e];simp);refine ⟨ρ',?_,by simpa using h'⟩;rw [Bc];unfold Ck;rw [e1];dsimp only;rw [e2];exact e'
def Xs {f:Fx}{vs:List Nat}{asg:PV->Af->Option Af}{body:Fs}{ρ ρ1 ρ2:Af}{r:Rs}{els:List PV}{d:Nat} (hf:f ρ=.ok (.lst els,d,ρ1)) (ec:Bb d vs ρ1=ρ2) (h:Ck asg body els ρ2=r):GK f vs asg body ρ=r:=by
 unfold GK Fv CJ;rw [hf];dsimp only [Rz.bind];rw [ec,h]
def wH {en:List (PV×Nat)->Option (Int×Int)}{fa:Fa}{asg:PV->Af->Option Af}{body:Fs}{ρ ρ1:Af}{r:Rs}{as:List (PV×Nat)}{n:Nat} (hf:fa ρ=.ok (as,ρ1)) (hen:en as=some (0,(n:Int))) (h:Ck asg body ((Ay n).map λ (k:Nat)=>.int (k:Int)) ρ1=r):Eg en fa asg body ρ=r:=by
 unfold Eg Fv CK;rw [hf];dsimp only [Rz.bind];rw [hen];dsimp only;rw [MJ,show ((n:Int) - 0).toNat=n by omega,<- h];congr 2;funext k;rw [Ho]
theorem Zd {α β:Type} (f:α->PV) (h:β->PV):∀ (xs:List α) (ys:List β),B5 (xs.map f) (ys.map h)=(xs.zip ys).map λ z=>.tup [f z.1,h z.2]
 | [],_=>by simp [B5]
 | _::_,[]=>by simp [B5]
 | x::xs,y::ys=>by
  rw [Bc,Bc,B5,Zd f h xs ys];rfl
def vb {x y z:PV} (h1:f_must_be_pile [x,y]=.ok (.non,om,.non)) (h2:f_must_be_pile [x,z]=.ok (.non,om,.non)):f_must_be_two_piles [x,y,z]=.ok (.non,om,.non):=
 NO rfl ((Be (GF (AE (xs:=[(x,dv x),(y,dv y)]) rfl h1))).trans (GF (AE (xs:=[(x,dv x),(z,dv z)]) rfl h2)))
def zT (h:Int->Int->Int) (t u:List (List Int)):List (List Int):=(t.zip u).map λ z=>S6 h z.1 z.2
def BD (a b:Nat):List (Nat×Nat):=(Ay a).flatMap λ i=>(Ay b).map λ j=>(i,j)
def pr (z:Nat×Nat):PV:=.tup [.int (z.1:Int),.int (z.2:Int)]
def zxf {a b:Nat}{z:Nat×Nat}:z∈BD a b↔z.1 < a/\z.2 < b:=by
 unfold BD;simp only [jf1,jc2,jb8];constructor
 ·rintro ⟨i,hi,j,hj,rfl⟩;exact ⟨hi,hj⟩
 ·intro h;exact ⟨z.1,h.1,z.2,h.2,rfl⟩
theorem Yx {α:Type}{q:Nat->List α}{b:Nat} (h:∀ i,(q i).length=b):∀ a,((Ay a).flatMap q).length=a * b
 | 0=>by simp
 | a + 1=>by rw [EH,Mf,Br,Yx h a,O3];simp [h]
def Kw (a b:Nat):(BD a b).length=a * b:=Yx (λ i=>by rw [AJ,FF]) a
def kj {R:Af}{fn:Fx}{b i:Nat}{n:Nat} (hb:b<=100) (hn:R.length=n) (hf:fn R=.ok (.int (b:Int),om,R)) (he:∀ k,k < b->Ak AX (Ad (Aa 2) (Ad (Aa n) (Ac))) (R++[some (.int (k:Int),om)])=.ok (pr (i,k),om,R++[some (.int (k:Int),om)])):
  Cu Bl (Ad fn (Ac)) 1 (asgN n) AU (Ak AX (Ad (Aa 2) (Ad (Aa n) (Ac)))) R=.ok (.lst (((Ay b).map λ j=>(i,j)).map pr),om,R):=by
 have z:=sz;have w:=GC (n:=n) (en:=Bl) (fa:=Ad fn Ac) (elt:=Ak AX (Ad (Aa 2) (Ad (Aa n) (Ac)))) (ρ:=R) (ρ1:=R) (as:=[(.int (b:Int),om)]) (lo:=0) (hi:=(b:Int)) (q:=λ m=>pr (i,m)) (AF hf) (EY (by omega) (by omega)) hn (λ m hm=>by rw [Ho];exact he m (by omega)) (by omega);rw [w,show ((b:Int) - 0).toNat=b by omega,Cr];rfl
def UE (a b:Nat):BD (a + 1) b=BD a b++(Ay b).map λ j=>(a,j):=by
 unfold BD;rw [EH,Mf];simp
def Qa {a b c:Nat} (ha:a<=100) (hb:b<=100):∃ d,d≠0/\f_places_of [bx a b c]=.ok (.lst ((BD a b).map pr),d,.non):=by
 have z:=sz;let R (s1 s2:QQ.Slot):Af:=[some (bx a b c,0),s1,s2]
 have s1:Aj false 1 (Ak AW (Ac)) [] (R none none)=.nx (R (some (.lst [],om)) none):=by kernel_rfl
 obtain ⟨ρ',e',d,s2,hd,rfl⟩:=PH (i:=2) (en:=Bl) (fa:=Ad (Ab An (Aa 0) (bC (.int 0))) Ac) (body:=Ce 1 (Cu Bl (Ad (Ab An (Aa 0) (bC (.int 1))) (Ac)) 1 (asgN 3) AU (Ak AX (Ad (Aa 2) (Ad (Aa 3) (Ac))))) [2]) (ρ:=R (some (.lst [],om)) none) (lo:=0) (hi:=(a:Int)) (as:=[(.int (a:Int),om)])
  (λ k ρ=>∃ d s2,d≠0/\ρ=R (some (.lst ((BD k b).map pr),d)) s2) rfl (EY (by omega) (by omega)) ⟨om,none,by decide,rfl⟩ (by
   rintro i _ hi ⟨d,s2,hd,rfl⟩;obtain ⟨d0,rfl⟩:∃ d0,d=d0 + 1:=⟨d - 1,by omega⟩
   rw [Ho];refine ⟨(show 2 < 3 by decide),_,Wy (i:=1) (d0:=d0) (d:=d0 + 1) rfl (kj (R:=R (some (.lst ((BD i b).map pr),d0 + 1)) (some (.int (i:Int),om))) (i:=i) hb rfl rfl λ k _=>rfl) rfl hd ?_ rfl,1,some (.int (i:Int),om),by decide,?_⟩
   ·rw [AJ,AJ,AJ,FF,Kw]
    have:i * b<=100 * 100:=FZ (by omega) hb
    omega
   ·show R (some (PV.lst ((BD i b).map pr++((Ay b).map λ j=>(i,j)).map pr),1)) _=R (some (PV.lst ((BD (i + 1) b).map pr),1)) _;rw [UE,Dz])
 rw [show ((a:Int) - 0).toNat=a by omega] at e';exact ⟨d,hd,BB rfl ((Be s1).trans ((Be e').trans rfl))⟩
def Ke (a b:Nat) (t u:List (List Int)):Bool:=(BD a b).all λ z=>decide (g t z.1 z.2<=g u z.1 z.2)
def wu {a b c:Nat}{t u:List (List Int)} (ht:Tab a b t) (hu:Tab a b u) (ha:a<=100) (hb:b<=100) (h2:f_must_be_two_piles [bx a b c,tb t,tb u]=.ok (.non,om,.non)):f_lies_below [bx a b c,tb t,tb u]=.ok (.bl (Ke a b t u),om,.non):=by
 have z:=sz;let R:Af:=[some (bx a b c,0),some (tb t,0),some (tb u,0)]
 have s1:CF (Ap f_must_be_two_piles (Ad (Aa 0) (Ad (Aa 1) (Ad (Aa 2) (Ac))))) R=.nx R:=GF (AE (xs:=[(bx a b c,0),(tb t,0),(tb u,0)]) rfl h2);obtain ⟨d,_,hp⟩:=Qa (c:=c) ha hb;have e1:=je (k:=2) (f:=Ap f_places_of (Ad (Aa 0) (Ac))) (asg:=asgT [3,4]) (test:=AU) (elt:=Ab (B1 λ i j=>decide (i<=j)) (Ab An (Ab An (Aa 1) (Aa 3)) (Aa 4)) (Ab An (Ab An (Aa 2) (Aa 3)) (Aa 4))) (enc:=pr) (q:=λ z=>.bl (decide (g t z.1 z.2<=g u z.1 z.2))) (E:=λ z=>[some (.int (z.1:Int),om),some (.int (z.2:Int),om)]) (p:=λ _=>true) (ρ:=R) (BD a b) (AE (xs:=[(bx a b c,0)]) rfl hp) (λ _ _=>rfl) (λ _ _=>rfl)
  (λ z hz _=>ET (RX (i:=z.1) (j:=z.2) ht (d:=0) rfl rfl rfl (zxf.mp hz).1 (zxf.mp hz).2) (RX (i:=z.1) (j:=z.2) hu (d:=0) rfl rfl rfl (zxf.mp hz).1 (zxf.mp hz).2)) (by rw [Kw];have:a * b<=100 * 100:=FZ ha hb;omega)
 rw [bL] at e1;exact BB rfl ((Be s1).trans (BN (G8 e1)))
def Xf_rows_of_heights:Fs:=(Ag (Aj false 2 (Ak AW (Ad (Ak AX (Ac)) (Ac))) [])
 (Ag (Eg Bl (Ad (Aa 0) (Ac)) (asgN 3) (Ag (Aj false 4 (Ak AW (Ac)) [])
 (Ag (GK (Aa 2) [2] (asgN 5) (Ag (Aj false 6 (BA (bT (Ab (B1 λ i j=>decide (j < i)) (Aa 3) (bC (.int 0)))) (Ab An (Aa 5) (AQ EX (bC (.int 1)))) (Aa 1)) [5,1])
 (Ce 4 (Cu Bl (Ad (Ab AG (Aa 6) (bC (.int 1))) (Ac)) 1 (asgN 7) AU (Ab AG (Aa 5) (Ak AX (Ad (Aa 7) (Ac))))) [5])))
 (Aj false 2 (Aa 4) [4]))))
 (DY 2)))
def f_rows_of_heights:Fn:=Au false 2 5 Xf_rows_of_heights
def Xf_added:Fs:=(Ag (Aj false 2 (Ab AG (Ak JC (Ad (Aa 0) (Ac))) (Ab AR (Ak AW (Ad (bC (.int 0)) (Ac))) (Ab BH (Ak CC (Ad (Aa 1) (Ac))) (Ak CC (Ad (Aa 0) (Ac)))))) [0,1,0])
 (Ag (Ra .enm (Ad (Aa 1) (Ac)) [1] (asgT [3,4]) (HG (λ i j=>i + j) 2 (Aa 3) (Aa 4)))
 (DY 2)))
def f_added:Fn:=Au false 2 3 Xf_added
def Xf_sums_of_lower_rows:Fs:=(Ag (Aj false 2 (Ak KJ (Ad (Aa 0) (Ac))) [0])
 (Ag (Eg Bl (Ad (Aa 1) (Ac)) (asgN 3) (Gq (Aa 0) [0] (asgN 4) (Ag (Aj false 5 (Ab AG (Ab AG (DQ (Aa 4) none (some (Aa 3))) (Ak AX (Ad (Ab BH (Ab An (Aa 4) (Aa 3)) (bC (.int 1))) (Ac)))) (DQ (Aa 4) (some (Ab AG (Aa 3) (bC (.int 1)))) none)) [4,4,3,4])
 (Bm (bT (Ab (DM false) (Aa 5) (Aa 2))) (C1 2 (Aa 4) (Ap f_added (Ad (Ab An (Aa 2) (Aa 4)) (Ad (Ab An (Aa 2) (Aa 5)) (Ac))))) AB))))
 (DY 2)))
def f_sums_of_lower_rows:Fn:=Au false 2 4 Xf_sums_of_lower_rows
def Xf_lies_between:Fs:=(Az (Ak EW (Ad (Cu Bl (Ad (Ak CC (Ad (Aa 0) (Ac))) (Ac)) 1 (asgN 3) AU (E5 (λ i j=>decide (i<=j)) (λ i j=>decide (i<=j)) (Ab An (Aa 1) (Aa 3)) (Ab An (Aa 0) (Aa 3)) (Ab An (Aa 2) (Aa 3)))) (Ac))))
def f_lies_between:Fn:=Au false 3 0 Xf_lies_between
def Xf_table_of_row:Fs:=(Ag (Aj false 4 DR [])
 (Ag (Gq (Aa 0) [0] (asgN 5) (Bm (bT (Ap f_lies_between (Ad (Aa 5) (Ad (Aa 1) (Ad (Aa 2) (Ac)))))) (C1 4 (Aa 5) (Ab AG (Ab AR (Ak AW (Ad (bC (.int 0)) (Ac))) (Ak CD (Ad (Cv (Aa 3) 1 (asgN 6) AU (Ab An (Aa 5) (Aa 6))) (Ac)))) (Ab An (Aa 0) (Aa 5)))) (C1 4 (Aa 5) (Ak AW (Ac)))))
 (DY 4)))
def f_table_of_row:Fn:=Au false 4 2 Xf_table_of_row
def Xf_tables_between:Fs:=(Ag (B4 (asgT [4,5,6]) (Aa 0) [0])
 (Ag (Aj false 7 DR [])
 (Ag (GK (Ap f_rows_of_heights (Ad (Aa 5) (Ad (Aa 6) (Ac)))) [5,6] (asgN 8) (C1 7 (Aa 8) (BA (bT (Ab (A3 false) (Ak CD (Ad (Aa 8) (Ac))) (bC (.int 0)))) (Ak AW (Ad (bC (.int 1)) (Ac))) (Ak AW (Ac)))))
 (Ag (Aj false 9 (Ak AW (Ac)) [])
 (Ag (Ot (Ad (Ab BH (Aa 4) (bC (.int 1))) (Ad (AQ EX (bC (.int 1))) (Ad (AQ EX (bC (.int 1))) (Ac)))) (asgN 10) (Ag (Aj false 11 (Cv (Aa 3) 1 (asgN 12) (bT (Ab (A3 false) (Ab An (Aa 12) (bC (.int 0))) (Aa 10))) (Ab An (Aa 12) (bC (.int 1)))) [3,3])
 (Ag (Aj false 7 (Ap f_table_of_row (Ad (Ap f_sums_of_lower_rows (Ad (Aa 7) (Ad (Aa 5) (Ac)))) (Ad (Ab An (Aa 1) (Aa 10)) (Ad (Ab An (Aa 2) (Aa 10)) (Ad (Aa 11) (Ac)))))) [7,5,1,10,2,10,11])
 (Cf 9 (Aa 7) [7]))))
 (Az (AQ Oe (Aa 9))))))))
def f_tables_between:Fn:=Au false 4 8 Xf_tables_between
def Xf_tally_between:Fs:=(Ag (Aj false 4 (Ak AW (Ac)) [])
 (Ag (Kb (Ab An (Ap f_tables_between (Ad (Aa 0) (Ad (Aa 1) (Ad (Aa 2) (Ad (Aa 3) (Ac)))))) (bC (.int 0))) [0,1,2,3] (asgN 5) (Aj false 4 (Ap f_added (Ad (Aa 4) (Ad (Aa 5) (Ac)))) [4,5]))
 (DY 4)))
def f_tally_between:Fn:=Au false 4 2 Xf_tally_between
def Xf_tally_of_box:Fs:=(Ag (B4 (asgT [2,3,4]) (Aa 0) [0])
 (Ag (Aj false 5 (Cu Bl (Ad (Aa 2) (Ac)) 1 (asgN 7) AU (Ab AR (Ak AW (Ad (bC (.int 0)) (Ac))) (Aa 3))) [3])
 (Ag (Aj false 6 (Cu Bl (Ad (Aa 2) (Ac)) 1 (asgN 7) AU (Ab AR (Ak AW (Ad (Aa 4) (Ac))) (Aa 3))) [4,3])
 (Az (Ap f_tally_between (Ad (Aa 0) (Ad (Aa 5) (Ad (Aa 6) (Ad (Aa 1) (Ac))))))))))
def f_tally_of_box:Fn:=Au false 2 5 Xf_tally_of_box
def CV (a b:Int):List Int:=(Ay (b - a).toNat).map λ k=>a + (k:Nat)
def JG {a b:Int} (h:b<=a):CV a b=[]:=by
 unfold CV;rw [show (b - a).toNat=0 by omega];rfl
def M8 {a b:Int} (h:a < b):CV a b=a::CV (a + 1) b:=by
 unfold CV;rw [show (b - a).toNat=(b - (a + 1)).toNat + 1 by omega,List.range_succ_eq_map];simp only [Bc,Cr,Int.natCast_zero,Int.add_zero];congr 1;apply EK;intro k _;show a + ((k + 1:Nat):Int)=a + 1 + (k:Int);omega
def qb2 {a b x:Int}:x∈CV a b↔a<=x/\x < b:=by
 unfold CV;simp only [jc2,jb8];constructor
 ·rintro ⟨k,hk,rfl⟩;omega
 ·rintro ⟨h1,h2⟩;exact ⟨(x - a).toNat,by omega,by omega⟩
def EN (lo hi x:Int):Bool:=decide (lo<=x) && decide (x<=hi)
theorem bM (lo hi:Int):∀ (n:Nat) (a b:Int),(b - a).toNat=n->lo<=a->(CV a b).filter (EN lo hi)=CV a (min (b - 1) hi + 1):=by
 intro n;induction n with
 | zero=>
  intro a b h ha;rw [JG (a:=a) (by omega),JG (by omega)];rfl
 | succ n ih=>
  intro a b h ha;rw [M8 (by omega),Ez];by_cases h2:a<=hi
  ·rw [if_pos (by unfold EN;simp [h2,ha]),M8 (a:=a) (b:=min (b - 1) hi + 1) (by omega),ih (a + 1) b (by omega) (by omega)]
  ·rw [if_neg (by unfold EN;simp;omega),JG (a:=a) (b:=min (b - 1) hi + 1) (by omega),ih (a + 1) b (by omega) (by omega),JG (by omega)]
theorem dC (lo hi:Int):∀ (n:Nat) (a b:Int),(b - a).toNat=n->a<=lo->(CV a b).filter (EN lo hi)=CV lo (min (b - 1) hi + 1):=by
 intro n;induction n with
 | zero=>
  intro a b h ha;rw [JG (a:=a) (by omega),JG (by omega)];rfl
 | succ n ih=>
  intro a b h ha;by_cases e:a=lo
  ·subst e;exact bM a hi _ a b rfl (C5 _)
  ·rw [M8 (by omega),Ez,if_neg (by unfold EN;simp;omega)];exact ih (a + 1) b (by omega) (by omega)
def AY (hi ah:Int) (row:List Int):Int:=match row.getLast? with
 | none=>min hi ah
 | some m=>min (min hi ah) m
def Bs (lo hi ah:Nat->Int):Nat->List (List Int)
 | 0=>[[]]
 | n + 1=>(Bs lo hi ah n).flatMap λ row=>(CV (lo n) (AY (hi n) (ah n) row + 1)).map λ x=>row++[x]
def DX (lo hi:Nat->Int) (n:Nat) (r:List Int):Bool:=(Ay n).all λ i=>EN (lo i) (hi i) (r.getD i 0)
theorem MK (lo hi ah:Nat->Int):∀ (n:Nat) (r:List Int),r∈Bs lo hi ah n->r.length=n
 | 0,r,h=>by simp [Bs] at h;simp [h]
 | n + 1,r,h=>by
  rw [Bs,jf1] at h;obtain ⟨q,h1,h2⟩:=h;obtain ⟨x,_,rfl⟩:=jc2.mp h2;simp [MK lo hi ah n q h1]
def bV (lo hi:Nat->Int) (r:List Int) (x:Int):DX lo hi (r.length + 1) (r++[x])=(DX lo hi r.length r && EN (lo r.length) (hi r.length) x):=by
 unfold DX;rw [EH,Z1];have e1:((Ay r.length).all λ i=>EN (lo i) (hi i) ((r++[x]).getD i 0))=(Ay r.length).all λ i=>EN (lo i) (hi i) (r.getD i 0):=by
  rw [Eb,jb1,jb1];constructor
  ·intro h i hi'
   have:=h i hi'
   have hl:=jb8.mp hi';rwa [AN,C9 hl,<- AN] at this
  ·intro h i hi';have hl:=jb8.mp hi';rw [AN,C9 hl,<- AN];exact h i hi'
 rw [e1];simp [AN]
theorem Pf {α β:Type} (p:α->Bool) (f g:α->List β):∀ (l:List α),(∀ a∈l,f a=if p a=true then g a else [])->l.flatMap f=(l.filter p).flatMap g
 | [],_=>rfl
 | a::l,h=>by
  rw [Hr,Pf p f g l λ b hb=>h b (AO _ hb),h a AM,Ez];split
  ·rw [Hr]
  ·rfl
theorem uQ {hi hi' ah:Int} (h:hi<=hi') (row:List Int):min (AY hi' ah row) hi=AY hi ah row:=by
 unfold AY;cases row.getLast? with
 | none=>simp only;omega
 | some m=>simp only;omega
theorem Ph {lo hi lo' hi' ah:Nat->Int} (hl:∀ i,lo' i<=lo i) (hh:∀ i,hi i<=hi' i):∀ (n:Nat),(Bs lo' hi' ah n).filter (DX lo hi n)=Bs lo hi ah n
 | 0=>rfl
 | n + 1=>by
  rw [Bs,Bs,<- Ph hl hh n,ZP];refine Pf _ _ _ _ λ a ha=>?_;have la:=MK _ _ _ n a ha;subst la;rw [Mb];have e:(DX lo hi (a.length + 1) ∘ λ x=>a++[x])=λ x=>DX lo hi a.length a && EN (lo a.length) (hi a.length) x:=by
   funext x;exact bV lo hi a x
  rw [e];cases DX lo hi a.length a with
  | false=>simp
  | true=>
   simp only [Zu,if_true]
   have:=dC (lo a.length) (hi a.length) _ (lo' a.length) (AY (hi' a.length) (ah a.length) a + 1) rfl (hl _)
   rw [show (λ x=>EN (lo a.length) (hi a.length) x)=EN (lo a.length) (hi a.length) from rfl,this,Int.add_sub_cancel,uQ (hh _)]
def ES (c:Int) (pile:List (List Int)):Nat->Int:=match pile.getLast? with
 | none=>λ _=>c
 | some r=>λ j=>r.getD j 0
def B3 (lo hi:Nat->Nat->Int) (c:Int) (b:Nat):Nat->List (List (List Int))
 | 0=>[[]]
 | n + 1=>(B3 lo hi c b n).flatMap λ pile=>(Bs (lo n) (hi n) (ES c pile) b).map λ r=>pile++[r]
def Gw (lo hi:Nat->Nat->Int) (b n:Nat) (p:List (List Int)):Bool:=(Ay n).all λ i=>DX (lo i) (hi i) b (p.getD i [])
theorem U4 (lo hi:Nat->Nat->Int) (c:Int) (b:Nat):∀ (n:Nat) (p:List (List Int)),p∈B3 lo hi c b n->p.length=n
 | 0,r,h=>by simp [B3] at h;simp [h]
 | n + 1,r,h=>by
  rw [B3,jf1] at h;obtain ⟨q,h1,h2⟩:=h;obtain ⟨x,_,rfl⟩:=jc2.mp h2;simp [U4 lo hi c b n q h1]
def dH (lo hi:Nat->Nat->Int) (b:Nat) (p:List (List Int)) (r:List Int):Gw lo hi b (p.length + 1) (p++[r])=(Gw lo hi b p.length p && DX (lo p.length) (hi p.length) b r):=by
 unfold Gw;rw [EH,Z1];have e1:((Ay p.length).all λ i=>DX (lo i) (hi i) b ((p++[r]).getD i []))=(Ay p.length).all λ i=>DX (lo i) (hi i) b (p.getD i []):=by
  rw [Eb,jb1,jb1];constructor
  ·intro h i hi'
   have:=h i hi'
   have hl:=jb8.mp hi';rwa [AN,C9 hl,<- AN] at this
  ·intro h i hi';have hl:=jb8.mp hi';rw [AN,C9 hl,<- AN];exact h i hi'
 rw [e1];simp [AN]
theorem M9 {lo hi lo' hi':Nat->Nat->Int}{c:Int}{b:Nat} (hl:∀ i j,lo' i j<=lo i j) (hh:∀ i j,hi i j<=hi' i j):∀ (n:Nat),(B3 lo' hi' c b n).filter (Gw lo hi b n)=B3 lo hi c b n
 | 0=>rfl
 | n + 1=>by
  rw [B3,B3,<- M9 hl hh n,ZP];refine Pf _ _ _ _ λ a ha=>?_;have la:=U4 _ _ _ _ n a ha;subst la;rw [Mb];have e:(Gw lo hi b (a.length + 1) ∘ λ x=>a++[x])=λ x=>Gw lo hi b a.length a && DX (lo a.length) (hi a.length) b x:=by
   funext x;exact dH lo hi b a x
  rw [e];cases Gw lo hi b a.length a with
  | false=>simp
  | true=>
   simp only [Zu,if_true];rw [show (λ x=>DX (lo a.length) (hi a.length) b x)=DX (lo a.length) (hi a.length) b from rfl,Ph (hl _) (hh _)]
def FV (f:Nat->Int) (n:Nat):List Int:=(Ay n).map f
def YO (f:Nat->Int) (n:Nat):FV f (n + 1)=FV f n++[f n]:=by unfold FV;rw [EH,Dz];rfl
theorem gF {hi ah x:Int}{f:Nat->Int}{n:Nat} (h1:x<=hi) (h2:x<=ah) (h3:∀ m,m + 1=n->x<=f m):x<=AY hi ah (FV f n):=by
 unfold AY;cases n with
 | zero=>simp only [FV,List.range_zero,IW,SK];omega
 | succ m=>
  rw [YO,ZV];simp only [ZZ,Zx]
  have:=h3 m rfl
  omega
theorem UA {lo hi ah:Nat->Int}:∀ (n:Nat),(∀ i,i < n->lo i<=hi i)->(∀ i,i < n->lo i<=ah i)->(∀ i,i + 1 < n->lo (i + 1)<=lo i)->∃ t,Bs lo hi ah n=FV lo n::t
 | 0,_,_,_=>⟨[],rfl⟩
 | n + 1,h1,h2,h3=>by
  obtain ⟨t,e⟩:=UA n (λ i hi=>h1 i (by omega)) (λ i hi=>h2 i (by omega)) (λ i hi=>h3 i (by omega));have hx:lo n<=AY (hi n) (ah n) (FV lo n):=gF (h1 n (by omega)) (h2 n (by omega)) λ m hm=>by subst hm;exact h3 m (by omega)
  rw [Bs,e,Hr,M8 (by omega),Bc,HU,<- YO];exact ⟨_,rfl⟩
def PX {r:List Int}{n:Nat} (h:r.length=n + 1):r.getLast?=some (r.getD n 0):=by
 rw [qf,h,SQ,AN,BU (by omega)];rfl
def LK {r:List Int}{x:Int}{n j:Nat} (h:r.length=n):(r++[x]).getD j 0=if j=n then x else r.getD j 0:=by
 rw [AN,AN,ZU];by_cases hj:j < n
 ·rw [if_pos (by omega),if_neg (by omega)]
 ·rw [if_neg (by omega)];by_cases e:j=n
  ·rw [if_pos e,e,h,O2];rfl
  ·rw [if_neg e,Fh (by simp;omega),Fh (by omega)]
theorem P2 {lo hi ah:Nat->Int}:∀ {n:Nat}{r:List Int},r∈Bs lo hi ah n->r.length=n/\(∀ j,j < n->lo j<=r.getD j 0/\r.getD j 0<=hi j/\r.getD j 0<=ah j)/\∀ j,j + 1 < n->r.getD (j + 1) 0<=r.getD j 0
 | 0,r,h=>by
  have e:r=[]:=by simpa [Bs] using h
  subst e;exact ⟨rfl,λ j h=>by omega,λ j h=>by omega⟩
 | n + 1,r,h=>by
  rw [Bs,jf1] at h;obtain ⟨q,h1,h2⟩:=h;obtain ⟨x,hx,rfl⟩:=jc2.mp h2;obtain ⟨l,b,m⟩:=P2 h1;obtain ⟨x1,x2⟩:=qb2.mp hx;have t1:AY (hi n) (ah n) q<=hi n/\AY (hi n) (ah n) q<=ah n/\(0 < n->AY (hi n) (ah n) q<=q.getD (n - 1) 0):=by
   unfold AY;cases n with
   | zero=>
    have e:q=[]:=jg6.mp l;subst e;exact ⟨by show min _ _<=_;omega,by show min _ _<=_;omega,λ h=>by omega⟩
   | succ n=>
    rw [PX l];exact ⟨by show min (min _ _) _<=_;omega,by show min (min _ _) _<=_;omega,λ _=>by show min (min _ _) _<=_;rw [SQ];omega⟩
  refine ⟨by rw [Br,l];rfl,λ j hj=>?_,λ j hj=>?_⟩
  ·rw [LK l];by_cases e:j=n
   ·subst e;rw [if_pos rfl];omega
   ·rw [if_neg e];exact b j (by omega)
  ·rw [LK l,LK l,if_neg (show ¬ j=n by omega)];by_cases e:j + 1=n
   ·rw [if_pos e]
    have:=t1.2.2 (by omega)
    rw [show n - 1=j by omega] at this;omega
   ·rw [if_neg e];exact m j (by omega)
def QR {p:List (List Int)}{n:Nat} (h:p.length=n + 1):p.getLast?=some (p.getD n []):=by
 rw [qf,h,SQ,AN,BU (by omega)];rfl
def Rb {p:List (List Int)}{r:List Int}{n i:Nat} (h:p.length=n):(p++[r]).getD i []=if i=n then r else p.getD i []:=by
 rw [AN,AN,ZU];by_cases hj:i < n
 ·rw [if_pos (by omega),if_neg (by omega)]
 ·rw [if_neg (by omega)];by_cases e:i=n
  ·rw [if_pos e,e,h,O2];rfl
  ·rw [if_neg e,Fh (by simp;omega),Fh (by omega)]
def LL {p:List (List Int)}{r:List Int}{n i j:Nat} (h:p.length=n):g (p++[r]) i j=if i=n then r.getD j 0 else g p i j:=by
 unfold g;rw [Rb h];split <;> rfl
theorem J6 {lo hi:Nat->Nat->Int}{c:Int}{b:Nat}:∀ {n:Nat}{p:List (List Int)},p∈B3 lo hi c b n->Tab n b p/\(∀ i j,i < n->j < b->lo i j<=g p i j/\g p i j<=hi i j/\g p i j<=c)/\(∀ i j,i + 1 < n->j < b->g p (i + 1) j<=g p i j)/\∀ i j,i < n->j + 1 < b->g p i (j + 1)<=g p i j
 | 0,p,h=>by
  have e:p=[]:=by simpa [B3] using h
  subst e;exact ⟨⟨rfl,λ _ z=>nomatch z⟩,λ i j h=>by omega,λ i j h=>by omega,λ i j h=>by omega⟩
 | n + 1,p,h=>by
  rw [B3,jf1] at h;obtain ⟨q,h1,h2⟩:=h;obtain ⟨r,hr,rfl⟩:=jc2.mp h2;obtain ⟨tq,b1,d1,r1⟩:=J6 h1;obtain ⟨l,b2,m2⟩:=P2 hr;have ah:∀ j,j < b->ES c q j<=c/\(0 < n->ES c q j<=g q (n - 1) j):=λ j hj=>by
   unfold ES;cases n with
   | zero=>
    have e:q=[]:=jg6.mp tq.1;subst e;exact ⟨C5 _,λ h=>by omega⟩
   | succ n=>
    rw [QR tq.1];exact ⟨(b1 n j (by omega) hj).2.2,λ _=>C5 _⟩
  refine ⟨⟨by rw [Br,tq.1];rfl,λ s hs=>(jg8.mp hs).elim (λ z=>tq.2 s z) λ z=>by rw [jd0.mp z,l]⟩,λ i j hi' hj=>?_,λ i j hi' hj=>?_,λ i j hi' hj=>?_⟩
  ·rw [LL tq.1];by_cases e:i=n
   ·subst e;rw [if_pos rfl];have h3:=b2 j hj;have h4:=ah j hj;omega
   ·rw [if_neg e];exact b1 i j (by omega) hj
  ·rw [LL tq.1,LL tq.1,if_neg (show ¬ i=n by omega)];by_cases e:i + 1=n
   ·rw [if_pos e];have h3:=b2 j hj;have h4:=(ah j hj).2 (by omega);rw [show n - 1=i by omega] at h4;omega
   ·rw [if_neg e];exact d1 i j (by omega) hj
  ·rw [LL tq.1,LL tq.1];by_cases e:i=n
   ·rw [if_pos e,if_pos e];exact m2 j hj
   ·rw [if_neg e,if_neg e];exact r1 i j (by omega) hj
def Vq {hi:Nat->Nat->Int}{c:Int}{a b:Nat}{lo:Nat->Nat->Int}{p:List (List Int)} (h0:∀ i j,0<=lo i j) (h:p∈B3 lo hi c b a):Pile a b c p:=by
 obtain ⟨t,h1,h2,h3⟩:=J6 h;exact ⟨t,λ i j hi hj=>EF (h0 i j) (h1 i j hi hj).1,λ i j hi hj=>(h1 i j hi hj).2.2,h2,h3⟩
theorem U9 {lo hi ah lo' hi' ah':Nat->Int}:∀ (n:Nat),(∀ j,j < n->lo j=lo' j/\hi j=hi' j/\ah j=ah' j)->Bs lo hi ah n=Bs lo' hi' ah' n
 | 0,_=>rfl
 | n + 1,h=>by
  rw [Bs,Bs,U9 n λ j hj=>h j (by omega)];obtain ⟨e1,e2,e3⟩:=h n (by omega);rw [e1,e2,e3]
theorem U0 {α β:Type}{f:α->List β}{m:Nat}:∀ (l:List α),(∀ a∈l,(f a).length<=m)->(l.flatMap f).length<=l.length * m
 | [],_=>by simp
 | a::l,h=>by
  rw [Hr,Br,B8,Oz,Zi];have h1:=h a AM;have h2:=U0 l λ x hx=>h x (AO _ hx);omega
def ud (a b:Int):(CV a b).length=(b - a).toNat:=by unfold CV;rw [AJ,FF]
def yy (hi ah:Int) (row:List Int):AY hi ah row<=hi:=by
 unfold AY;split <;> omega
theorem YH {lo hi ah:Nat->Int}{m:Nat}:∀ (n:Nat),(∀ j,j < n->hi j - lo j + 1<=m)->(Bs lo hi ah n).length<=m ^ n
 | 0,_=>by simp [Bs]
 | n + 1,h=>by
  rw [Bs];refine BF (U0 (m:=m) _ λ r hr=>?_) ?_
  ·rw [AJ,ud]
   have:=yy (hi n) (ah n) r
   have:=h n (by omega)
   omega
  ·rw [LU];exact Hs m (YH n λ j hj=>h j (by omega))
def YY (a b:Nat) (f:Nat->Nat->Int):C8 (a + 1) b f=C8 a b f++[FV (f a) b]:=by
 unfold C8 FV;rw [EH,Dz];rfl
theorem gN {c:Int}{b n j:Nat}{f:Nat->Nat->Int}{x:Int} (hj:j < b) (h0:x<=c) (h1:∀ m,m + 1=n->x<=f m j):x<=ES c (C8 n b f) j:=by
 unfold ES;cases n with
 | zero=>exact h0
 | succ m=>
  rw [YY,ZV];simp only [ZZ,Zx];show x<=(FV (f m) b).getD j 0;unfold FV;rw [X2 hj];exact h1 m rfl
theorem Pg {lo hi:Nat->Nat->Int}{c:Int}{b:Nat}:∀ (n:Nat),(∀ i j,i < n->j < b->lo i j<=hi i j)->(∀ i j,i < n->j < b->lo i j<=c)->(∀ i j,i + 1 < n->j < b->lo (i + 1) j<=lo i j)->(∀ i j,i < n->j + 1 < b->lo i (j + 1)<=lo i j)->∃ t,B3 lo hi c b n=C8 n b lo::t
 | 0,_,_,_,_=>⟨[],rfl⟩
 | n + 1,h1,h2,h3,h4=>by
  obtain ⟨t,e⟩:=Pg n (λ i j hi hj=>h1 i j (by omega) hj) (λ i j hi hj=>h2 i j (by omega) hj) (λ i j hi hj=>h3 i j (by omega) hj) (λ i j hi hj=>h4 i j (by omega) hj);obtain ⟨u,eu⟩:=UA (lo:=lo n) (hi:=hi n) (ah:=ES c (C8 n b lo)) b (λ j hj=>h1 n j (by omega) hj) (λ j hj=>gN hj (h2 n j (by omega) hj) λ m hm=>by subst hm;exact h3 m j (by omega) hj) (λ j hj=>h4 n j (by omega) hj);rw [B3,e,Hr,eu,Bc,HU,<- YY];exact ⟨_,rfl⟩
def Dh:List Int->List Int->Bool
 | [],[]=>false
 | [],_::_=>true
 | _::_,[]=>false
 | x::xs,y::ys=>decide (x < y) || (decide (x=y) && Dh xs ys)
theorem Na:∀ r:List Int,Dh r r=false
 | []=>rfl
 | x::r=>by simp [Dh,Na r]
theorem YV:∀ {r q:List Int},Dh r q=true->Dh q r=false
 | [],[],h=>by cases h
 | [],_::_,_=>rfl
 | _::_,[],h=>by cases h
 | x::r,y::q,h=>by
  simp only [Dh,Ga,AK,decide_eq_true_iff] at h;rcases h with h | ⟨h,h2⟩
  ·simp only [Dh,Bool.or_eq_false_iff,Bool.and_eq_false_iff,decide_eq_false_iff_not];exact ⟨by omega,.inl (by omega)⟩
  ·subst h;simp [Dh,YV h2]
theorem YX:∀ {r q:List Int} (x y:Int),r.length=q.length->Dh r q=true->Dh (r++[x]) (q++[y])=true
 | [],[],_,_,_,h=>by cases h
 | [],_::_,_,_,e,_=>by cases e
 | _::_,[],_,_,e,_=>by cases e
 | a::r,b::q,x,y,e,h=>by
  simp only [Dh,Ga,AK,decide_eq_true_iff,HU] at h ⊢;rcases h with h | ⟨h,h2⟩
  ·exact .inl h
  ·exact .inr ⟨h,YX x y (by simpa using e) h2⟩
theorem YW:∀ (r:List Int) {x y:Int},x < y->Dh (r++[x]) (r++[y])=true
 | [],x,y,h=>by simp [Dh,h]
 | a::r,x,y,h=>by simp [Dh,YW r h]
def wa (a:Int):∀ (n:Nat) (b:Int),(b - a).toNat=n->(CV a b).Pairwise (·< ·):=by
 intro n b _;unfold CV;rw [SJ];refine List.Pairwise.imp (λ {i j} h=>?_) List.pairwise_lt_range;show a + (i:Int) < a + (j:Int);omega
theorem Pr {lo hi ah:Nat->Int}:∀ (n:Nat),(Bs lo hi ah n).Pairwise λ r q=>Dh r q=true
 | 0=>by simp [Bs]
 | n + 1=>by
  rw [Bs,ZW];refine ⟨λ r hr=>?_,?_⟩
  ·rw [SJ];exact List.Pairwise.imp (λ {x y} h=>YW r h) (wa _ _ _ rfl)
  ·refine List.Pairwise.imp_of_mem (λ {r q} hr hq h u hu v hv=>?_) (Pr n);obtain ⟨x,_,rfl⟩:=jc2.mp hu;obtain ⟨y,_,rfl⟩:=jc2.mp hv;exact YX x y (by rw [MK _ _ _ n r hr,MK _ _ _ n q hq]) h
theorem Vc {lo hi ah:Nat->Int}:∀ {n:Nat}{r:List Int},r.length=n->(∀ j,j < n->lo j<=r.getD j 0/\r.getD j 0<=hi j/\r.getD j 0<=ah j)->(∀ j,j + 1 < n->r.getD (j + 1) 0<=r.getD j 0)->r∈Bs lo hi ah n
 | 0,r,h,_,_=>by rw [jg6.mp h];simp [Bs]
 | n + 1,r,h,h1,h2=>by
  have hn:r≠[]:=λ e=>by rw [e] at h;cases h
  obtain ⟨q,x,rfl⟩:∃ q x,r=q++[x]:=⟨r.dropLast,r.getLast hn,(List.dropLast_concat_getLast hn).symm⟩
  have hq:q.length=n:=by simpa using h
  have g1:∀ j,j < n->(q++[x]).getD j 0=q.getD j 0:=λ j hj=>by rw [LK hq,if_neg (by omega)]
  have g2:(q++[x]).getD n 0=x:=by rw [LK hq,if_pos rfl]
  have mq:q∈Bs lo hi ah n:=Vc hq (λ j hj=>by have:=h1 j (by omega);rwa [g1 j hj] at this) (λ j hj=>by have:=h2 j (by omega);rwa [g1 j (by omega),g1 (j + 1) (by omega)] at this);rw [Bs,jf1];refine ⟨q,mq,jc2.mpr ⟨x,qb2.mpr ⟨?_,?_⟩,rfl⟩⟩
  ·have:=(h1 n (by omega)).1;rwa [g2] at this
  ·have a1:=(h1 n (by omega)).2;rw [g2] at a1;unfold AY;cases n with
   | zero=>rw [jg6.mp hq];simp only [SK];omega
   | succ m=>
    have a2:=h2 m (by omega);rw [g2,g1 m (by omega)] at a2;rw [PX hq];simp only;omega
def A7 (b:Nat) (c:Int):List (List Int):=Bs (λ _=>0) (λ _=>c) (λ _=>c) b
structure RowB (b:Nat) (c:Int) (r:List Int):Prop where
 len:r.length=b
 lo:∀ j,j < b->0<=r.getD j 0
 hi:∀ j,j < b->r.getD j 0<=c
 nr:∀ j,j + 1 < b->r.getD (j + 1) 0<=r.getD j 0
def zqu {b:Nat}{c:Int}{r:List Int}:r∈A7 b c↔RowB b c r:=by
 constructor
 ·intro h;obtain ⟨h1,h2,h3⟩:=P2 h;exact ⟨h1,λ j hj=>(h2 j hj).1,λ j hj=>(h2 j hj).2.1,h3⟩
 ·intro h;exact Vc h.len (λ j hj=>⟨h.lo j hj,h.hi j hj,h.hi j hj⟩) h.nr
def YG (b:Nat) (c:Int):(A7 b c).Pairwise λ r q=>Dh r q=true:=Pr b
def J9 (b:Nat) (c:Int):(A7 b c).Nodup:=List.Pairwise.imp (λ {r q} h e=>by rw [e,Na] at h;cases h) (YG b c)
def Av:List Int->List Int->List Int
 | [],ys=>ys
 | x::xs,[]=>x::xs
 | x::xs,y::ys=>(x + y)::Av xs ys
theorem FJ:∀ xs:List Int,Av xs []=xs
 | []=>rfl
 | _::_=>rfl
theorem Ky:∀ xs ys:List Int,Av xs ys=Av ys xs
 | [],ys=>by rw [FJ];rfl
 | x::xs,[]=>rfl
 | x::xs,y::ys=>by rw [Av,Av,Ky xs ys,Int.add_comm]
theorem Ko:∀ xs ys zs:List Int,Av (Av xs ys) zs=Av xs (Av ys zs)
 | [],ys,zs=>rfl
 | x::xs,[],zs=>rfl
 | x::xs,y::ys,[]=>rfl
 | x::xs,y::ys,z::zs=>by simp only [Av];rw [Ko xs ys zs,Int.add_assoc]
theorem P7:∀ xs ys:List Int,(Av xs ys).length=max xs.length ys.length
 | [],ys=>by simp [Av]
 | x::xs,[]=>by simp [Av]
 | x::xs,y::ys=>by simp only [Av,B8,P7 xs ys];omega
theorem P9:∀ xs ys:List Int,(Av xs ys).sum=xs.sum + ys.sum
 | [],ys=>by simp [Av]
 | x::xs,[]=>by simp [Av]
 | x::xs,y::ys=>by simp only [Av,Dy,P9 xs ys];omega
def sumT (f:List Int->List Int) (l:List (List Int)):List Int:=l.foldr (λ r s=>Av (f r) s) []
def Hy {f:List Int->List Int}{r:List Int}{l:List (List Int)}:sumT f (r::l)=Av (f r) (sumT f l):=rfl
theorem U6 {f:List Int->List Int}{p q s:List Int->Bool}:∀ (l:List (List Int)),(∀ r∈l,s r=(p r || q r))->(∀ r∈l,p r=true->q r=false)->sumT f (l.filter s)=Av (sumT f (l.filter p)) (sumT f (l.filter q))
 | [],_,_=>rfl
 | r::l,h,d=>by
  have ih:=U6 (f:=f) l (λ a ha=>h a (AO _ ha)) (λ a ha=>d a (AO _ ha));have hs:=h r AM;have hd:=d r AM;rw [Ez,Ez,Ez,hs];cases hp:p r with
  | true=>
   rw [hd hp];simp only [O4,if_true,G7,if_false,Hy,ih,Ko]
  | false=>
   cases hq:q r with
   | true=>
    simp only [Zm,if_true,G7,if_false,Hy,ih];rw [<- Ko,<- Ko,Ky (f r)]
   | false=>simp only [O4,G7,if_false,ih]
theorem YK {f:List Int->List Int}{p:List Int->Bool}{r:List Int}:∀ {l:List (List Int)},l.Nodup->r∈l->(∀ q∈l,p q=decide (q=r))->sumT f (l.filter p)=f r
 | [],_,h,_=>by cases h
 | a::l,nd,h,hp=>by
  rw [jg9] at nd;rw [Ez,hp a AM];by_cases e:a=r
  ·subst e
   have:l.filter p=[]:=by
    rw [ji3];intro q hq;rw [hp q (AO _ hq),decide_eq_true_iff];rintro rfl;exact nd.1 hq
   rw [decide_eq_true rfl,if_pos rfl,this,Hy];exact FJ _
  ·rw [decide_eq_false e,if_neg (by simp)];rcases jb9.mp h with h | h
   ·exact absurd h.symm e
   ·exact YK nd.2 h λ q hq=>hp q (AO _ hq)
def IU (b j:Nat) (r q:List Int):Bool:=(Ay b).all λ i=>if i < j then decide (q.getD i 0<=r.getD i 0) else decide (q.getD i 0=r.getD i 0)
def Hw {b j:Nat}{r q:List Int}:IU b j r q=true↔∀ i,i < b->(i < j->q.getD i 0<=r.getD i 0)/\(j<=i->q.getD i 0=r.getD i 0):=by
 unfold IU;rw [jb1];constructor
 ·intro h i hi
  have:=h i (jb8.mpr hi)
  by_cases e:i < j
  ·rw [if_pos e,decide_eq_true_iff] at this;exact ⟨λ _=>this,λ e'=>absurd e (by omega)⟩
  ·rw [if_neg e,decide_eq_true_iff] at this;exact ⟨λ e'=>absurd e' e,λ _=>this⟩
 ·intro h i hi
  have:=h i (jb8.mp hi)
  by_cases e:i < j
  ·rw [if_pos e,decide_eq_true_iff];exact this.1 e
  ·rw [if_neg e,decide_eq_true_iff];exact this.2 (by omega)
def AZ (b:Nat) (c:Int) (f:List Int->List Int) (j:Nat) (r:List Int):List Int:=sumT f ((A7 b c).filter (IU b j r))
def Bj (r:List Int) (j:Nat):List Int:=r.take j++[r.getD j 0 - 1]++r.drop (j + 1)
def uh {r:List Int}{j:Nat} (h:j < r.length):(Bj r j).length=r.length:=by
 unfold Bj;simp;omega
def Ih {r:List Int}{j i:Nat} (h:j < r.length):(Bj r j).getD i 0=if i=j then r.getD j 0 - 1 else r.getD i 0:=by
 unfold Bj;simp only [AN,IY];by_cases h1:i < j
 ·rw [C9 (by simp;omega),if_neg (by omega),qd h1]
 ·rw [FG (by simp;omega)];have hl:(r.take j).length=j:=by simp;omega
  rw [hl];by_cases h2:i=j
  ·subst h2;simp
  ·rw [if_neg h2,show i - j=(i - j - 1) + 1 by omega,List.singleton_append,qc,List.getElem?_drop];congr 2;omega
theorem Sd:∀ {r:List Int}{j:Nat},j < r.length->Dh (Bj r j) r=true
 | [],_,h=>by cases h
 | x::r,0,_=>by simp [Bj,Dh];omega
 | x::r,j + 1,h=>by
  have ih:=Sd (r:=r) (j:=j) (by simpa using h);unfold Bj at ih ⊢;simp [Dh] at ih ⊢;exact ih
def wx {r q:List Int}{b:Nat} (h1:r.length=b) (h2:q.length=b) (h:∀ i,i < b->q.getD i 0=r.getD i 0):q=r:=by
 apply O9 (by omega);intro i hi hi'
 have:=h i (by omega)
 rw [AN,AN,BU hi,BU hi'] at this;simpa using this
def bu {b:Nat}{c:Int}{f:List Int->List Int}{r:List Int} (h:r∈A7 b c):AZ b c f 0 r=f r:=by
 unfold AZ;refine YK (J9 b c) h λ q hq=>?_;rw [Eb,Hw,decide_eq_true_iff];have h1:=zqu.mp h;have h2:=zqu.mp hq;constructor
 ·intro e;exact wx h1.len h2.len λ i hi=>(e i hi).2 (by omega)
 ·rintro rfl i _;exact ⟨λ z=>absurd z (by omega),λ _=>rfl⟩
def Vg {b:Nat}{c:Int}{f:List Int->List Int}{r:List Int}{j:Nat} (h:r∈A7 b c) (hj:j < b):AZ b c f (j + 1) r=if Bj r j∈A7 b c then Av (AZ b c f j r) (AZ b c f (j + 1) (Bj r j)) else AZ b c f j r:=by
 have h1:=zqu.mp h;have hl:j < r.length:=by rw [h1.len];exact hj
 split
 ·rename_i hm;unfold AZ;refine U6 _ (λ q hq=>?_) (λ q hq=>?_)
  ·have h2:=zqu.mp hq;rw [Eb,Ga,Hw,Hw,Hw];constructor
   ·intro e;by_cases ej:q.getD j 0=r.getD j 0
    ·refine .inl λ i hi=>⟨λ z=>(e i hi).1 (by omega),λ z=>?_⟩
     by_cases ei:i=j
     ·subst ei;exact ej
     ·exact (e i hi).2 (by omega)
    ·refine .inr λ i hi=>?_;rw [Ih hl];refine ⟨λ z=>?_,λ z=>?_⟩
     ·have:=(e i hi).1 z
      split
      ·rename_i e';subst e';omega
      ·exact this
     ·rw [if_neg (by omega)];exact (e i hi).2 z
   ·rintro (e | e) i hi
    ·refine ⟨λ z=>?_,λ z=>(e i hi).2 (by omega)⟩;by_cases ei:i < j
     ·exact (e i hi).1 ei
     ·exact Zl ((e i hi).2 (by omega))
    ·have e':=e i hi;rw [Ih hl] at e';refine ⟨λ z=>?_,λ z=>?_⟩
     ·have:=e'.1 z
      split at this
      ·rename_i e2;subst e2;omega
      ·exact this
     ·have:=e'.2 z
      rwa [if_neg (by omega)] at this
  ·intro e;rw [jn7];intro e2;rw [Hw] at e e2;have a1:=(e j hj).2 (A4 _);have a2:=(e2 j hj).1 (by omega);rw [Ih hl,if_pos rfl] at a2;omega
 ·rename_i hm;unfold AZ;congr 1;apply Ki;intro q hq;have h2:=zqu.mp hq;rw [Eb,Hw,Hw];constructor
  ·intro e i hi;refine ⟨λ z=>(e i hi).1 (by omega),λ z=>?_⟩;by_cases ei:i=j
   ·subst ei;have a1:=(e i hi).1 (by omega);by_cases ej:q.getD i 0=r.getD i 0
    ·exact ej
    ·refine absurd (zqu.mpr ⟨by rw [uh hl,h1.len],λ k hk=>?_,λ k hk=>?_,λ k hk=>?_⟩) hm
     ·rw [Ih hl]
      have:=h2.lo i hi
      have:=h1.lo k hk
      split <;> omega
     ·rw [Ih hl]
      have:=h1.hi k hk
      split
      ·rename_i e';subst e';omega
      ·exact this
     ·rw [Ih hl,Ih hl];have b1:=h1.nr k hk;by_cases c1:k + 1=i
      ·rw [if_pos c1,if_neg (by omega)];subst c1;omega
      ·rw [if_neg c1];by_cases c2:k=i
       ·rw [if_pos c2];subst c2;have b2:=h2.nr k hk;have b3:=(e (k + 1) hk).2 (by omega);omega
       ·rw [if_neg c2];exact b1
   ·exact (e i hi).2 (by omega)
  ·intro e i hi;refine ⟨λ z=>?_,λ z=>(e i hi).2 (by omega)⟩;by_cases ei:i < j
   ·exact (e i hi).1 ei
   ·exact Zl ((e i hi).2 (by omega))
def Sz (b:Nat) (q r:List Int):Bool:=(Ay b).all λ i=>decide (q.getD i 0<=r.getD i 0)
def wm {b:Nat}{r q:List Int}:Sz b q r=true↔∀ i,i < b->q.getD i 0<=r.getD i 0:=by
 unfold Sz;rw [jb1];exact ⟨λ h i hi=>by simpa using h i (jb8.mpr hi),λ h i hi=>by simpa using h i (jb8.mp hi)⟩
def De (b:Nat) (c:Int) (f:List Int->List Int) (r:List Int):List Int:=sumT f ((A7 b c).filter λ q=>Sz b q r)
def uL {b:Nat}{c:Int}{f:List Int->List Int}{r:List Int}:AZ b c f b r=De b c f r:=by
 unfold AZ De;congr 1;apply Ki;intro q _;rw [Eb,Hw,wm];exact ⟨λ h i hi=>(h i hi).1 hi,λ h i hi=>⟨λ _=>h i hi,λ z=>absurd z (by omega)⟩⟩
theorem Pp (v:Int):∀ n:Nat,Eu n [.int v]=(A9 n v).map PV.int
 | 0=>rfl
 | n + 1=>by
  show [PV.int v]++Eu n [.int v]=_;rw [Pp v n];rfl
def RP {f g:Fx}{ρ ρ1 ρ2:Af}{v:Int}{n:Nat}{d e:Nat} (h1:f ρ=.ok (.lst [.int v],d,ρ1)) (h2:g ρ1=.ok (.int (n:Int),e,ρ2)) (hn:n<=1000):Ab AR f g ρ=.ok (il (A9 n v),om,ρ2):=by
 refine Cj h1 h2 ?_;have z:=sz;unfold AR;dsimp only;rw [if_pos ⟨by omega,by omega,by rw [Gg,CU];omega⟩,CU,Pp,KD];rfl
def Ws {f g:Fx}{ρ ρ1 ρ2:Af}{xs ys:List Int}{d e:Nat} (h1:f ρ=.ok (il xs,d,ρ1)) (h2:g ρ1=.ok (il ys,e,ρ2)) (hl:xs.length + ys.length<=1000000):Ab AG f g ρ=.ok (il (xs++ys),om,ρ2):=by
 have:=vq h1 h2 (by rw [AJ,AJ];exact BF hl sz)
 rw [this,<- Dz,KD];rfl
def X3 {f g:Fx}{ρ ρ1 ρ2:Af}{k:Int}{d e:Nat} (h1:f ρ=.ok (.lst [.int 0],d,ρ1)) (h2:g ρ1=.ok (.int k,e,ρ2)) (hk:-1000000<=k/\k<=1000000):Ab AR f g ρ=.ok (il (A9 k.toNat 0),om,ρ2):=by
 refine Cj h1 h2 ?_;have z:=sz;unfold AR;dsimp only;rw [if_pos ⟨by omega,by omega,by rw [Gg];omega⟩,Pp,KD];rfl
def vy {i:Nat}{fj f:Fx}{ρ ρ2:Af}{xs:List Int}{w:Int}{j d d1 d2:Nat} (hx:ρ[i]?=some (some (il xs,d))) (hd:d≠0) (hj:fj ρ=.ok (.int (j:Int),d1,ρ)) (hf:f ρ=.ok (.int w,d2,ρ)) (hl:j < xs.length) (e:ρ.set i (some (il (xs.set j (xs.getD j 0 + w)),d))=ρ2):HG (λ i j=>i + j) i fj f ρ=.nx ρ2:=by
 unfold HG;rw [hx,hj];show (match f ρ with | .ok (.int w,_,ρ2)=>_ | _=>Rs.no)=_;rw [hf];dsimp only;have e1:E1 (xs.map PV.int).length (j:Int)=some j:=by
  unfold E1;rw [if_pos (by omega),AJ,if_pos (by omega),CU]
 rw [e1];dsimp only;have e2:(xs.map PV.int)[j]?=some (.int (xs.getD j 0)):=by
  rw [CL,AN,BU hl];rfl
 rw [e2];dsimp only;rw [if_pos ⟨hd,uT (Pj xs)⟩,<- e,il,List.map_set]
theorem UH:∀ (t p:List Int) (y:Int),p.length < t.length->Av t (p++[y])=(Av t p).set p.length ((Av t p).getD p.length 0 + y)
 | [],p,y,h=>by simp at h
 | a::t,[],y,h=>by simp [Av,FJ]
 | a::t,b::p,y,h=>by
  have:=UH t p y (by simpa using h)
  simp only [HU,Av,B8,List.set_cons_succ,List.getD_cons_succ];rw [this]
theorem P8:∀ (xs ys:List Int),Av (xs++A9 (ys.length - xs.length) 0) ys=Av xs ys
 | [],[]=>rfl
 | [],y::ys=>by
  have:=P8 [] ys
  simp only [Fg,Md,O1,B8,EL,Av,Ho] at this ⊢;rw [this]
 | x::xs,[]=>by simp [Av]
 | x::xs,y::ys=>by
  have:=P8 xs ys
  simp only [HU,B8,Nat.add_sub_add_right,Av];rw [this]
def Ym {xs ys:List Int} (hx:xs.length<=1000) (hy:ys.length<=1000):f_added [il xs,il ys]=.ok (il (Av xs ys),om,.non):=by
 let L (t:List Int) (s3 s4:QQ.Slot):Af:=[some (il xs,0),some (il ys,0),some (il t,om),s3,s4]
 let base:=xs++A9 (ys.length - xs.length) 0;have hbl:ys.length<=base.length:=by simp [base];omega
 have v1:Aj false 2 (Ab AG (Ak JC (Ad (Aa 0) (Ac))) (Ab AR (Ak AW (Ad (bC (.int 0)) (Ac))) (Ab BH (Ak CC (Ad (Aa 1) (Ac))) (Ak CC (Ad (Aa 0) (Ac)))))) [0,1,0] [some (il xs,0),some (il ys,0),none,none,none]=.nx (L base none none):=by
  have e1:=X3 (f:=Ak AW (Ad (bC (.int 0)) (Ac))) (ρ:=[some (il xs,0),some (il ys,0),none,none,none]) (d:=om) rfl (Fq (Ov (xs:=ys) (fa:=Ad (Aa 1) Ac) (d:=0) rfl) (Ov (xs:=xs) (fa:=Ad (Aa 0) Ac) (d:=0) rfl)) (by omega);rw [show ((ys.length:Int) - (xs.length:Int)).toNat=ys.length - xs.length by omega] at e1;exact setF (Ws (wy (f:=Aa 0) (xs:=xs) (d:=0) rfl) e1 (by rw [EM];omega)) (show 2 < 5 by decide) rfl
 obtain ⟨ρ',v2,s3,s4,rfl⟩:=yY (v:=.enm) (fa:=Ad (Aa 1) Ac) (vs:=[1]) (asg:=asgT [3,4]) (body:=HG (λ i j=>i + j) 2 (Aa 3) (Aa 4)) (ρ:=L base none none) (ρ1:=L base none none) (ρ2:=L base none none) (xs:=[(il ys,0)]) (els:=E8 0 (ys.map PV.int)) (λ j ρ=>∃ s3 s4,ρ=L (Av base (ys.take j)) s3 s4) rfl rfl rfl ⟨none,none,by rw [Zz,FJ]⟩ (by
  rintro j x _ hx ⟨s3,s4,rfl⟩;rw [PR,CL] at hx;cases ey:ys[j]? with
  | none=>rw [ey] at hx;cases hx
  | some y=>
   rw [ey] at hx;obtain rfl:PV.tup [.int ((0 + j:Nat):Int),.int y]=x:=Option.some.inj hx;have hj:j < ys.length:=(jb0.mp ey).1;have ht:ys.take (j + 1)=ys.take j++[y]:=by rw [List.take_add_one,ey];rfl
   have hl:(ys.take j).length=j:=by rw [IX];omega
   refine ⟨L (Av base (ys.take j)) (some (.int ((0 + j:Nat):Int),om)) (some (.int y,om)),L (Av base (ys.take (j + 1))) (some (.int ((0 + j:Nat):Int),om)) (some (.int y,om)),rfl,?_,_,_,rfl⟩;refine vy (xs:=Av base (ys.take j)) (w:=y) (j:=j) (d:=om) (d1:=om) (d2:=om) rfl (by decide) (by rw [Hq];rfl) rfl (by rw [P7];omega) ?_;rw [ht,UH base (ys.take j) y (by rw [hl];omega),hl]
   rfl)
 rw [PU,AJ,List.take_length,show Av base ys=Av xs ys from P8 xs ys] at v2;exact BB rfl ((Be v1).trans ((Be v2).trans rfl))
def A8 (r:List Int):List A2:=r.map Sum.inl
def Al (r:List Int):PV:=.tup (r.map PV.int)
def gH (r:List Int):DH (A8 r)=Al r:=by
 unfold DH A8 Al;rw [Cr];rfl
theorem Ig:∀ r:List Int,BE (r.map PV.int)=some (A8 r)
 | []=>rfl
 | x::r=>by rw [Bc,BE,Ig r];rfl
theorem MN:∀ {r q:List Int},A8 r=A8 q->r=q
 | [],[],_=>rfl
 | [],_::_,h=>by cases h
 | _::_,[],h=>by cases h
 | x::r,y::q,h=>by
  have h1:(Sum.inl x:A2)::A8 r=Sum.inl y::A8 q:=h;injection h1 with h2 h3
  injection h2 with h2
  rw [h2,MN h3]
def Ao (R:List (List Int)) (f:List Int->List Int):PV:=.dcl (R.map A8) (R.map λ r=>il (f r))
theorem Sa {h:List Int->PV}{r:List Int}:∀ {R:List (List Int)},FY (R.map A8) (R.map h) (A8 r)=if r∈R then some (h r) else none
 | []=>rfl
 | q::R=>by
  rw [Bc,Bc,FY];by_cases e:q=r
  ·subst e;rw [if_pos rfl,if_pos AM]
  ·rw [if_neg λ z=>e (MN z),Sa]
   have:r∈q::R↔r∈R:=by rw [jb9];exact ⟨λ z=>z.resolve_left λ z=>e z.symm,.inr⟩
   simp only [this]
theorem US {h:List Int->PV}{r:List Int}{y:PV}:∀ {R:List (List Int)},HF (A8 r) y (R.map A8) (R.map h)=R.map λ q=>if q=r then y else h q
 | []=>rfl
 | q::R=>by
  rw [Bc,Bc,HF,US,Bc];congr 1;by_cases e:q=r
  ·subst e;rw [if_pos rfl,if_pos rfl]
  ·rw [if_neg λ z=>e (MN z),if_neg e]
def Y2 {r:List Int}{R:List (List Int)}:Fj (R.map A8) (A8 r)=decide (r∈R):=by
 unfold Fj;rw [List.any_map,Eb,List.any_eq_true,decide_eq_true_iff];constructor
 ·rintro ⟨q,hq,e⟩
  have:A8 q=A8 r:=by simpa using e
  rw [<- MN this];exact hq
 ·intro h;exact ⟨r,h,by simp⟩
def Y3 {f g:Fx}{ρ ρ1 ρ2:Af}{R:List (List Int)}{h:List Int->PV}{r:List Int}{d e:Nat} (h1:f ρ=.ok (.dcl (R.map A8) (R.map h),d,ρ1)) (h2:g ρ1=.ok (Al r,e,ρ2)) (hr:r∈R):Ab An f g ρ=.ok (h r,dv (h r),ρ2):=by
 refine Cj h1 h2 ?_;show (match BE (r.map PV.int) with | some k=>(FY (R.map A8) (R.map h) k).map λ z=>(z,dv z) | none=>none)=_;rw [Ig];dsimp only;rw [Sa,if_pos hr];rfl
def RY {f g:Fx}{ρ ρ1 ρ2:Af}{R:List (List Int)}{h:List Int->List Int}{r:List Int}{d e:Nat} (h1:f ρ=.ok (Ao R h,d,ρ1)) (h2:g ρ1=.ok (Al r,e,ρ2)) (hr:r∈R):Ab An f g ρ=.ok (il (h r),0,ρ2):=
 Y3 (h:=λ r=>il (h r)) h1 h2 hr
def jI {f g:Fx}{ρ ρ1 ρ2:Af}{R:List (List Int)}{h:List Int->List Int}{r:List Int}{d e:Nat} (h1:f ρ=.ok (Al r,d,ρ1)) (h2:g ρ1=.ok (Ao R h,e,ρ2)):Ab (DM false) f g ρ=.ok (.bl (decide (r∈R)),om,ρ2):=by
 refine Cj h1 h2 ?_;show (BE (r.map PV.int)).map (λ k=>(PV.bl (false^^(FY (R.map A8) (R.map λ r=>il (h r)) k).isSome),om))=_;rw [Ig];show some (PV.bl (false^^(FY (R.map A8) (R.map λ r=>il (h r)) (A8 r)).isSome),om)=_;rw [Sa (h:=λ r=>il (h r)),LY];by_cases e:r∈R
 ·rw [if_pos e,decide_eq_true e];rfl
 ·rw [if_neg e,decide_eq_false e];rfl
def U7 {R:List (List Int)}{f h:List Int->List Int} (e:∀ r∈R,f r=h r):Ao R f=Ao R h:=by
 unfold Ao;congr 1;exact EK λ r hr=>by rw [e r hr]
def yb {i:Nat}{fk f:Fx}{ρ ρ1 ρ2:Af}{R:List (List Int)}{h:List Int->List Int}{r:List Int}{y:List Int}{d e:Nat} (hf:f ρ=.ok (il y,om,ρ1)) (hx:ρ1[i]?=some (some (Ao R h,d))) (hd:d≠0) (hk:fk ρ1=.ok (Al r,e,ρ1)) (hr:r∈R) (hl:R.length < 1000000) (e2:ρ1.set i (some (Ao R (λ q=>if q=r then y else h q),1))=ρ2):C1 i fk f ρ=.nx ρ2:=by
 have z:=sz;unfold C1;rw [hf];dsimp only;rw [hx];dsimp only;rw [hk];dsimp only;show (match BE (r.map PV.int) with | some kk=>if d≠0/\(om=om\/DD (il y)=true)/\(R.map A8).length < Aw then Rs.nx (ρ1.set i (some (G9 (R.map A8) (R.map λ r=>il (h r)) kk (il y),1))) else .no | none=>.no)=_;rw [Ig];dsimp only;rw [if_pos ⟨hd,.inl rfl,by rw [AJ];omega⟩,<- e2];unfold G9;rw [Y2,decide_eq_true hr,if_pos rfl,US (h:=λ r=>il (h r))];unfold Ao;congr 5;refine EK λ q _=>?_;dsimp only;split <;> rfl
def CI (R:List (List Int)) (h:List Int->PV):PV:=.dcl (R.map A8) (R.map h)
def YC {i:Nat}{fk f:Fx}{ρ ρ1 ρ2:Af}{R:List (List Int)}{h:List Int->PV}{r:List Int}{d e e':Nat}{x:PV} (hf:f ρ=.ok (h r,e',ρ1)) (he:e'=om\/DD (h r)=true) (hs:sV (h r)=none) (hx:ρ1[i]?=some (some (x,d))) (hxe:x=CI R h\/(x=.dct []/\R=[])) (hd:d≠0) (hk:fk ρ1=.ok (Al r,e,ρ1)) (hr:r∉R) (hl:R.length < 1000000) (e2:ρ1.set i (some (CI (R++[r]) h,1))=ρ2):C1 i fk f ρ=.nx ρ2:=by
 have z:=sz;have fin:G9 (R.map A8) (R.map h) (A8 r) (h r)=CI (R++[r]) h:=by
  unfold G9;rw [Y2,decide_eq_false hr,if_neg (by simp)];unfold CI;rw [Dz,Dz];rfl
 unfold C1;rw [hf];dsimp only;rw [hx];dsimp only;rw [hk];dsimp only;rcases hxe with rfl | ⟨rfl,rfl⟩
 ·show (match BE (r.map PV.int) with | some kk=>if d≠0/\(e'=om\/DD (h r)=true)/\(R.map A8).length < Aw then Rs.nx (ρ1.set i (some (G9 (R.map A8) (R.map h) kk (h r),1))) else .no | none=>.no)=_;rw [Ig];dsimp only;rw [if_pos ⟨hd,he,by rw [AJ];omega⟩,<- e2,fin]
 ·have ep:Hi (.dct []) (Al r) (h r)=none:=by
   show (match BE (r.map PV.int),sV (h r) with | some k,some u=>_ | _,_=>none)=_;rw [Ig,hs]
  rw [ep];show (match BE (r.map PV.int) with | some kk=>if d≠0/\(e'=om\/DD (h r)=true)/\0 < Aw then Rs.nx (ρ1.set i (some (G9 [] [] kk (h r),1))) else .no | none=>.no)=_;rw [Ig];dsimp only;rw [if_pos ⟨hd,he,by omega⟩,<- e2];exact congrArg (λ z=>Rs.nx (ρ1.set i (some (z,1)))) fin
def Si {i:Nat}{fk f:Fx}{ρ ρ1 ρ2:Af}{R:List (List Int)}{h:List Int->List Int}{r:List Int}{y:List Int}{d e:Nat}{x:PV} (hf:f ρ=.ok (il y,om,ρ1)) (hx:ρ1[i]?=some (some (x,d))) (hxe:x=Ao R h\/(x=.dct []/\R=[])) (hd:d≠0) (hk:fk ρ1=.ok (Al r,e,ρ1)) (hr:r∉R) (hy:h r=y) (hl:R.length < 1000000) (e2:ρ1.set i (some (Ao (R++[r]) h,1))=ρ2):C1 i fk f ρ=.nx ρ2:=
 YC (h:=λ r=>il (h r)) (by rw [hf,hy]) (.inl rfl) rfl hx hxe hd hk hr hl e2
def Yz {f:Fx}{vs:List Nat}{asg:PV->Af->Option Af}{body:Fs}{ρ ρ1 ρ2 ρ3:Af}{R:List (List Int)}{h:List Int->PV}{d:Nat} (hf:f ρ=.ok (CI R h,d,ρ1)) (ec:Bb d vs ρ1=ρ2) (hl:Ck asg body (R.map Al) ρ2=.nx ρ3):Gq f vs asg body ρ=.nx ρ3:=by
 unfold Gq;rw [hf];show Et (Ck asg body ((R.map A8).map DH) (Bb d vs ρ1))=_;rw [Cr,ec,show (DH ∘ A8)=Al from funext gH,hl];rfl
def Xr {f:Fx}{vs:List Nat}{asg:PV->Af->Option Af}{body:Fs}{ρ ρ1 ρ2 ρ3:Af}{R:List (List Int)}{h:List Int->List Int}{d:Nat} (hf:f ρ=.ok (Ao R h,d,ρ1)) (ec:Bb d vs ρ1=ρ2) (hl:Ck asg body (R.map Al) ρ2=.nx ρ3):Gq f vs asg body ρ=.nx ρ3:=Yz (h:=λ r=>il (h r)) hf ec hl
def wI {f:Fx}{vs:List Nat}{asg:PV->Af->Option Af}{body:Fs}{ρ ρ1 ρ2 ρ3:Af}{R:List (List Int)}{h:List Int->List Int}{d:Nat} (hf:f ρ=.ok (Ao R h,d,ρ1)) (ec:Bb d vs ρ1=ρ2) (hl:Ck asg body (R.map λ r=>il (h r)) ρ2=.nx ρ3):Kb f vs asg body ρ=.nx ρ3:=by
 unfold Kb;rw [hf];show Et (Ck asg body (R.map λ r=>il (h r)) (Bb d vs ρ1))=_;rw [ec,hl];rfl
def Sr {f h:Fx}{ρ ρ1 ρ2:Af}{xs ys:List Int}{d e:Nat} (h1:f ρ=.ok (Al xs,d,ρ1)) (h2:h ρ1=.ok (Al ys,e,ρ2)) (hl:xs.length + ys.length<=1000000):Ab AG f h ρ=.ok (Al (xs++ys),0,ρ2):=by
 have z:=sz;refine Cj h1 h2 ?_;show (if _ then _ else _)=_;rw [if_pos (by rw [AJ,AJ];omega),<- Dz];rfl
def MZ {f g:Fx}{ρ ρ1 ρ2:Af}{xs:List Int}{k x:Int}{d e:Nat} (h1:f ρ=.ok (Al xs,d,ρ1)) (h2:g ρ1=.ok (.int k,e,ρ2)) (h:BG xs k=some x):Ab An f g ρ=.ok (.int x,om,ρ2):=by
 refine Cj h1 h2 ?_;show (BG (xs.map PV.int) k).map _=_
 have:BG (xs.map PV.int) k=some (.int x):=by
  unfold BG at h ⊢;rw [AJ];cases e:E1 xs.length k with
  | none=>rw [e] at h;cases h
  | some j=>
   rw [e] at h;have h':xs[j]?=some x:=h;show (xs.map PV.int)[j]?=_;rw [CL,h'];rfl
 rw [this];rfl
def jq {f g:Fx}{ρ:Af}{xs:List Int}{j d e:Nat} (h1:f ρ=.ok (Al xs,d,ρ)) (h2:g ρ=.ok (.int (j:Int),e,ρ)) (hj:j < xs.length):DQ f none (some g) ρ=.ok (Al (xs.take j),0,ρ):=by
 unfold DQ;rw [h1];dsimp only [Rz.bind,Km];rw [h2];dsimp only;have e1:Ex (Al xs) none (some (j:Int))=some (Al (xs.take j),0):=by
  unfold Ex Al;dsimp only;rw [HT.sIx_none,HT.sIx_nat,AJ,if_neg (by rw [Ma (by omega)];omega)];unfold Dp;rw [HT.sIx_none,HT.sIx_nat,AJ,Ma (by omega),SA,O1,List.map_take]
 rw [e1]
def yk {f g:Fx}{ρ:Af}{xs:List Int}{j d e:Nat} (h1:f ρ=.ok (Al xs,d,ρ)) (h2:g ρ=.ok (.int (j:Int),e,ρ)) (h0:0 < j) (hj:j<=xs.length):DQ f (some g) none ρ=.ok (Al (xs.drop j),0,ρ):=by
 unfold DQ;rw [h1];dsimp only [Rz.bind,Km];rw [h2];dsimp only;have e1:Ex (Al xs) (some (j:Int)) none=some (Al (xs.drop j),0):=by
  unfold Ex Al;dsimp only;rw [HT.sIx_none,HT.sIx_nat,AJ,if_neg (by rw [Ma (by omega)];omega)];unfold Dp;rw [HT.sIx_none,HT.sIx_nat,AJ,Ma (by omega),Zt,OF (by rw [Kh,AJ];omega)]
 rw [e1]
theorem Ii {f:List Int->List Int}{m:Nat}:∀ {l:List (List Int)},(∀ r∈l,(f r).length<=m)->(sumT f l).length<=m
 | [],_=>Ea _
 | r::l,h=>by
  rw [Hy,P7]
  have:=h r AM
  have:=Ii (l:=l) λ q hq=>h q (AO _ hq)
  omega
def uM {b:Nat}{c:Int}{f:List Int->List Int}{m j:Nat}{r:List Int} (h:∀ r∈A7 b c,(f r).length<=m):(AZ b c f j r).length<=m:=Ii λ q hq=>h q (je4.mp hq).1
def Bh (b:Nat) (c:Int) (f:List Int->List Int) (j:Nat) (pre:List (List Int)) (r:List Int):List Int:=if r∈pre then AZ b c f (j + 1) r else AZ b c f j r
def Sy (b:Nat) (c:Int) (f:List Int->List Int) (j:Nat):Bh b c f j []=AZ b c f j:=by
 funext r;unfold Bh;rw [if_neg (by simp)]
def yE {b:Nat}{c:Int}{f:List Int->List Int} (hb:1<=b/\b<=1000) (hd:Dl ((A7 b c).map A8)=true) (hn:A7 b c≠[]) (hR:(A7 b c).length < 1000000) (hf:∀ r∈A7 b c,(f r).length<=1000):f_sums_of_lower_rows [Ao (A7 b c) f,.int (b:Int)]=.ok (Ao (A7 b c) (De b c f),1,.non):=by
 let R:=A7 b c;let L (h:List Int->List Int) (s3 s4 s5:QQ.Slot):Af:=[some (Ao R f,0),some (.int (b:Int),om),some (Ao R h,1),s3,s4,s5]
 have v1:Aj false 2 (Ak KJ (Ad (Aa 0) (Ac))) [0] [some (Ao R f,0),some (.int (b:Int),om),none,none,none,none]=.nx (L f none none none):=by
  refine setF (x:=Ao R f) (d:=1) (Cw (AF (x:=Ao R f) (d:=0) rfl) ?_) (show 2 < 6 by decide) rfl;show (if Dl (R.map A8)=true/\R.map A8≠[] then some (Ao R f,1) else none)=_;rw [if_pos ⟨hd,λ z=>hn (List.map_eq_nil_iff.mp z)⟩]
 have start:L f none none none=L (AZ b c f 0) none none none:=by
  have:Ao R f=Ao R (AZ b c f 0):=U7 λ r hr=>(bu hr).symm
  show [_,_,some (Ao R f,1),_,_,_]=[_,_,some (Ao R (AZ b c f 0),1),_,_,_];rw [this]
 obtain ⟨ρ',v2,s3,s4,s5,rfl⟩:=PH (i:=3) (en:=Bl) (fa:=Ad (Aa 1) Ac) (body:=(Gq (Aa 0) [0] (asgN 4) (Ag (Aj false 5 (Ab AG (Ab AG (DQ (Aa 4) none (some (Aa 3))) (Ak AX (Ad (Ab BH (Ab An (Aa 4) (Aa 3)) (bC (.int 1))) (Ac)))) (DQ (Aa 4) (some (Ab AG (Aa 3) (bC (.int 1)))) none)) [4,4,3,4])
 (Bm (bT (Ab (DM false) (Aa 5) (Aa 2))) (C1 2 (Aa 4) (Ap f_added (Ad (Ab An (Aa 2) (Aa 4)) (Ad (Ab An (Aa 2) (Aa 5)) (Ac))))) AB)))) (ρ:=L f none none none) (ρ1:=L f none none none) (as:=[(.int (b:Int),om)]) (lo:=0) (hi:=(b:Int))
  (λ j ρ=>∃ s3 s4 s5,ρ=L (AZ b c f j) s3 s4 s5) rfl (EY (by omega) (by omega)) ⟨none,none,none,start⟩ (by
  rintro j _ hj ⟨s3,s4,s5,rfl⟩;have hjb:j < b:=by omega
  refine ⟨by show 3 < 6;decide,?_⟩;rw [Ho];let M (h:List Int->List Int) (d3:Nat) (s4 s5:QQ.Slot):Af:=L h (some (.int (j:Int),d3)) s4 s5;obtain ⟨ρ2,e2,d3',s4',s5',rfl⟩:=J7 (asg:=asgN 4) (enc:=Al) (body:=(Ag (Aj false 5 (Ab AG (Ab AG (DQ (Aa 4) none (some (Aa 3))) (Ak AX (Ad (Ab BH (Ab An (Aa 4) (Aa 3)) (bC (.int 1))) (Ac)))) (DQ (Aa 4) (some (Ab AG (Aa 3) (bC (.int 1)))) none)) [4,4,3,4])
 (Bm (bT (Ab (DM false) (Aa 5) (Aa 2))) (C1 2 (Aa 4) (Ap f_added (Ad (Ab An (Aa 2) (Aa 4)) (Ad (Ab An (Aa 2) (Aa 5)) (Ac))))) AB))) (λ pre ρ=>∃ d3 s4 s5,ρ=M (Bh b c f j pre) d3 s4 s5) R [] (M (AZ b c f j) om s4 s5) ⟨om,s4,s5,by rw [Sy b c f j]⟩ (by
   rintro pre r post _ ep ⟨d3,s4,s5,rfl⟩;rw [Fg] at ep;have hr:r∈R:=by rw [ep];exact CM _ AM
   have h1:=zqu.mp hr;have hl:j < r.length:=by rw [h1.len];exact hjb
   have hrp:r∉pre:=λ z=>by
    have:=J9 b c
    rw [show A7 b c=pre++r::post from ep,SI] at this;exact this.2.2 r z r AM rfl
   let N (d3 d4:Nat) (s5:QQ.Slot):Af:=M (Bh b c f j pre) d3 (some (Al r,d4)) s5;have w1:Aj false 5 (Ab AG (Ab AG (DQ (Aa 4) none (some (Aa 3))) (Ak AX (Ad (Ab BH (Ab An (Aa 4) (Aa 3)) (bC (.int 1))) (Ac)))) (DQ (Aa 4) (some (Ab AG (Aa 3) (bC (.int 1)))) none)) [4,4,3,4] (N d3 0 s5)=.nx (N 0 0 (some (Al (Bj r j),0))):=by
    have a1:=jq (f:=Aa 4) (g:=Aa 3) (ρ:=N d3 0 s5) (xs:=r) (j:=j) (d:=0) (e:=om) rfl rfl hl;have a2:Ak AX (Ad (Ab BH (Ab An (Aa 4) (Aa 3)) (bC (.int 1))) (Ac)) (N d3 0 s5)=.ok (Al [r.getD j 0 - 1],om,N d3 0 s5):=Cw (AF (Fq (j:=1) (e:=om) (MZ (xs:=r) (k:=(j:Int)) (d:=0) (e:=om) rfl rfl (Ed (by omega) (by rw [CU];exact EZ hl))) rfl)) rfl;have a3:=yk (f:=Aa 4) (g:=Ab AG (Aa 3) (bC (.int 1))) (ρ:=N d3 0 s5) (xs:=r) (j:=j + 1) (d:=0) (e:=om) rfl rfl (by omega) (by omega);have a4:=Sr (Sr a1 a2 (by rw [IX,Gg];omega)) a3 (by rw [Br,IX,Gg,Kh];have:=h1.len;omega);exact setF a4 (show 5 < 6 by decide) rfl
   have w2:=jI (f:=Aa 5) (g:=Aa 2) (ρ:=N 0 0 (some (Al (Bj r j),0))) (r:=Bj r j) (R:=R) (h:=Bh b c f j pre) (d:=0) (e:=0) rfl rfl;have fl:∀ q,(Bh b c f j pre q).length<=1000:=λ q=>by
    unfold Bh;split <;> exact uM hf
   by_cases hm:Bj r j∈R
   ·have hp:Bj r j∈pre:=by
     have pw:=YG b c;rw [show A7 b c=pre++r::post from ep,List.pairwise_append,jm5] at pw;rw [ep,jg8,jb9] at hm;rcases hm with hm | hm | hm
     ·exact hm
     ·have:=Sd hl
      rw [hm,Na] at this;cases this
     ·have:=YV (Sd hl)
      rw [pw.2.1.1 _ hm] at this;cases this
    rw [decide_eq_true hm] at w2;have w3:C1 2 (Aa 4) (Ap f_added (Ad (Ab An (Aa 2) (Aa 4)) (Ad (Ab An (Aa 2) (Aa 5)) (Ac)))) (N 0 0 (some (Al (Bj r j),0)))=.nx (M (Bh b c f j (pre++[r])) 0 (some (Al r,0)) (some (Al (Bj r j),0))):=by
     have c1:=RY (f:=Aa 2) (g:=Aa 4) (ρ:=N 0 0 (some (Al (Bj r j),0))) (R:=R) (h:=Bh b c f j pre) (r:=r) (d:=0) (e:=0) rfl rfl hr;have c2:=RY (f:=Aa 2) (g:=Aa 5) (ρ:=N 0 0 (some (Al (Bj r j),0))) (R:=R) (h:=Bh b c f j pre) (r:=Bj r j) (d:=0) (e:=0) rfl rfl hm;refine yb (R:=R) (h:=Bh b c f j pre) (r:=r) (d:=1) (e:=0) (AE (A6 c1 (AF c2)) (Ym (fl _) (fl _))) rfl (by decide) rfl hr hR ?_;show M (λ q=>if q=r then Av (Bh b c f j pre r) (Bh b c f j pre (Bj r j)) else Bh b c f j pre q) _ _ _=_;congr 1;funext q;by_cases e:q=r
     ·subst e;rw [if_pos rfl];unfold Bh;rw [if_neg hrp,if_pos hp,if_pos (by simp),Vg hr hjb,if_pos hm]
     ·rw [if_neg e];unfold Bh
      have:q∈pre++[r]↔q∈pre:=by simp [e]
      simp only [this]
    exact ⟨N d3 0 s5,_,rfl,(Be w1).trans ((Dj (AH w2)).trans w3),_,_,_,rfl⟩
   ·rw [decide_eq_false hm] at w2;refine ⟨N d3 0 s5,_,rfl,(Be w1).trans ((DO (AH w2)).trans rfl),0,some (Al r,0),some (Al (Bj r j),0),?_⟩;show M (Bh b c f j pre) _ _ _=_;congr 1;funext q;unfold Bh;by_cases e:q=r
    ·subst e;rw [if_neg hrp,if_pos (by simp),Vg hr hjb,if_neg hm]
    ·have:q∈pre++[r]↔q∈pre:=by simp [e]
     simp only [this])
  refine ⟨_,Xr (R:=R) (h:=f) (d:=0) (ρ2:=M (AZ b c f j) om s4 s5) rfl rfl e2,some (.int (j:Int),d3'),s4',s5',?_⟩;show L (Bh b c f j ([]++R)) _ _ _=_
  have:Ao R (Bh b c f j ([]++R))=Ao R (AZ b c f (j + 1)):=U7 λ r hr=>by
   unfold Bh;rw [Fg,if_pos hr]
  show [_,_,some (Ao R (Bh b c f j ([]++R)),1),_,_,_]=[_,_,some (Ao R (AZ b c f (j + 1)),1),_,_,_];rw [this])
 rw [show ((b:Int) - 0).toNat=b by omega,show AZ b c f b=De b c f from funext λ r=>uL] at v2;exact BB rfl ((Be v1).trans ((Be v2).trans rfl))
def E3 (b:Nat) (lo r hi:List Int):Bool:=(Ay b).all λ j=>decide (lo.getD j 0<=r.getD j 0) && decide (r.getD j 0<=hi.getD j 0)
def vz {b:Nat}{lo r hi:List Int} (h1:lo.length=b) (h2:r.length=b) (h3:hi.length=b) (hb:b<=1000):f_lies_between [Al r,il lo,il hi]=.ok (.bl (E3 b lo r hi),om,.non):=by
 have z:=sz;let R:Af:=[some (Al r,0),some (il lo,0),some (il hi,0)]
 have e0:Ak CC (Ad (Aa 0) (Ac)) R=.ok (.int (b:Int),om,R):=by
  refine Cw (xs:=[(Al r,0)]) rfl ?_;show some (PV.int ((r.map PV.int).length:Nat),om)=_;rw [AJ,h2]
 have e1:=GC (n:=3) (en:=Bl) (fa:=Ad (Ak CC (Ad (Aa 0) (Ac))) Ac) (elt:=E5 (λ i j=>decide (i<=j)) (λ i j=>decide (i<=j)) (Ab An (Aa 1) (Aa 3)) (Ab An (Aa 0) (Aa 3)) (Ab An (Aa 2) (Aa 3))) (q:=λ j=>.bl (decide (lo.getD j 0<=r.getD j 0) && decide (r.getD j 0<=hi.getD j 0))) (ρ:=R) (ρ1:=R) (as:=[(.int (b:Int),om)]) (lo:=0) (hi:=(b:Int)) (AF e0) (EY (by omega) (by omega)) rfl (λ k hk=>by
  have hkb:k < b:=by omega
  rw [Ho];exact Kr (HB (xs:=lo) (k:=(k:Int)) (d:=0) (e:=om) rfl rfl (Ed (by omega) (by rw [CU];exact EZ (by omega)))) (MZ (xs:=r) (k:=(k:Int)) (d:=0) (e:=om) rfl rfl (Ed (by omega) (by rw [CU];exact EZ (by omega)))) (HB (xs:=hi) (k:=(k:Int)) (d:=0) (e:=om) rfl rfl (Ed (by omega) (by rw [CU];exact EZ (by omega))))) (by omega)
 rw [show ((b:Int) - 0).toNat=b by omega] at e1;exact BB rfl (BN (G8 (xs:=Ay b) (g:=λ j=>decide (lo.getD j 0<=r.getD j 0) && decide (r.getD j 0<=hi.getD j 0)) e1))
def Ct (ct:List Nat) (r:List Int):Int:=(ct.map λ j=>r.getD j 0).sum
def EA (b:Nat) (lo hi:List Int) (ct:List Nat) (g:List Int->List Int) (r:List Int):List Int:=if E3 b lo r hi=true then A9 (Ct ct r).toNat 0++g r else []
theorem Ss {b:Nat}{c:Nat}{r:List Int} (h:RowB b c r):∀ {ct:List Nat},(∀ j∈ct,j < b)->0<=Ct ct r/\Ct ct r<=ct.length * c
 | [],_=>by simp [Ct]
 | j::ct,hc=>by
  have h1:=Ss h (ct:=ct) λ k hk=>hc k (AO _ hk);have h2:=h.lo j (hc j AM);have h3:=h.hi j (hc j AM);have e:Ct (j::ct) r=r.getD j 0 + Ct ct r:=rfl;rw [e,B8,SE,Zh];omega
def xu {b:Nat}{c:Nat}{lo hi:List Int}{ct:List Nat}{g:List Int->List Int} (h1:lo.length=b) (h3:hi.length=b) (hb:b<=1000) (hct:∀ j∈ct,j < b) (hcl:ct.length * c<=1000/\ct.length<=1000/\c<=1000) (hn:A7 b c≠[]) (hR:(A7 b c).length < 1000000) (hg:∀ r∈A7 b c,(g r).length<=1000):
  f_table_of_row [Ao (A7 b c) g,il lo,il hi,.lst (ct.map λ (j:Nat)=>.int (j:Int))]=.ok (Ao (A7 b c) (EA b lo hi ct g),1,.non):=by
 have z:=sz;let R:=A7 b c;let L (s4 s5:QQ.Slot):Af:=[some (Ao R g,0),some (il lo,0),some (il hi,0),some (.lst (ct.map λ (j:Nat)=>.int (j:Int)),0),s4,s5]
 let T:=EA b lo hi ct g;obtain ⟨ρ',v2,s5,s4,hs,rfl⟩:=J7 (asg:=asgN 5) (enc:=Al) (body:=(Bm (bT (Ap f_lies_between (Ad (Aa 5) (Ad (Aa 1) (Ad (Aa 2) (Ac)))))) (C1 4 (Aa 5) (Ab AG (Ab AR (Ak AW (Ad (bC (.int 0)) (Ac))) (Ak CD (Ad (Cv (Aa 3) 1 (asgN 6) AU (Ab An (Aa 5) (Aa 6))) (Ac)))) (Ab An (Aa 0) (Aa 5)))) (C1 4 (Aa 5) (Ak AW (Ac))))) (λ pre ρ=>∃ s5 s4,((pre=[]/\s4=some (.dct [],om))\/(pre≠[]/\s4=some (Ao pre T,1)))/\ρ=L s4 s5) R [] (L (some (.dct [],om)) none) ⟨none,some (.dct [],om),.inl ⟨rfl,rfl⟩,rfl⟩ (by
  rintro pre r post _ ep ⟨s5,s4,hs,rfl⟩;rw [Fg] at ep;have hr:r∈R:=by rw [ep];exact CM _ AM
  have h2:=zqu.mp hr;have hrp:r∉pre:=λ z=>by
   have:=J9 b c
   rw [show A7 b c=pre++r::post from ep,SI] at this;exact this.2.2 r z r AM rfl
  have hpl:pre.length < 1000000:=by
   have:R.length=pre.length + (post.length + 1):=by rw [ep];simp
   have:R.length < 1000000:=hR
   omega
  obtain ⟨x4,d4,rfl,hx,hd⟩:∃ x4 d4,s4=some (x4,d4)/\(x4=Ao pre T\/(x4=.dct []/\pre=[]))/\d4≠0:=by
   rcases hs with ⟨e1,e2⟩ | ⟨e1,e2⟩
   ·exact ⟨_,_,e2,.inr ⟨rfl,e1⟩,by decide⟩
   ·exact ⟨_,_,e2,.inl rfl,by decide⟩
  let N:Af:=L (some (x4,d4)) (some (Al r,0));have t:=AH (AE (F:=f_lies_between) (fa:=Ad (Aa 5) (Ad (Aa 1) (Ad (Aa 2) (Ac)))) (ρ:=N) (ρ1:=N) (xs:=[(Al r,0),(il lo,0),(il hi,0)]) rfl (vz h1 h2.len h3 hb));have fin:∃ ρ2,(Bm (bT (Ap f_lies_between (Ad (Aa 5) (Ad (Aa 1) (Ad (Aa 2) (Ac)))))) (C1 4 (Aa 5) (Ab AG (Ab AR (Ak AW (Ad (bC (.int 0)) (Ac))) (Ak CD (Ad (Cv (Aa 3) 1 (asgN 6) AU (Ab An (Aa 5) (Aa 6))) (Ac)))) (Ab An (Aa 0) (Aa 5)))) (C1 4 (Aa 5) (Ak AW (Ac)))) N=.nx ρ2/\ρ2=L (some (Ao (pre++[r]) T,1)) (some (Al r,0)):=by
   refine ⟨_,?_,rfl⟩;cases hbt:E3 b lo r hi with
   | true=>
    rw [hbt] at t;have cs:=Ks (n:=6) (f:=Aa 3) (elt:=Ab An (Aa 5) (Aa 6)) (enc:=λ (j:Nat)=>PV.int (j:Int)) (q:=λ j=>.int (r.getD j 0)) (ρ:=N) (ρ1:=N) (d:=0) ct rfl rfl (λ j hj=>MZ (xs:=r) (k:=(j:Int)) (d:=0) (e:=om) rfl rfl (Ed (by omega) (by rw [CU];exact EZ (by rw [h2.len];exact hct j hj)))) (by omega);have cs':Cv (Aa 3) 1 (asgN 6) AU (Ab An (Aa 5) (Aa 6)) N=.ok (il (ct.map λ j=>r.getD j 0),om,N):=by
     rw [cs];unfold il;rw [Cr];rfl
    have sok:Eh (ct.map λ j=>r.getD j 0)=true:=uN (by rw [AJ];omega) (λ x hx=>by
     obtain ⟨j,hj,rfl⟩:=jc2.mp hx;have a1:=h2.lo j (hct j hj);have a2:=h2.hi j (hct j hj)
     omega)
    have sm:=Io (AF cs') sok;have cb:=Ss h2 hct;have cc:((ct.length * c:Nat):Int)<=1000:=by omega
    rw [Gb] at cc;have e1:=X3 (f:=Ak AW (Ad (bC (.int 0)) (Ac))) (ρ:=N) (ρ1:=N) (d:=om) rfl sm (by show -1000000<=Ct ct r/\Ct ct r<=1000000;omega);have e2:=Ws e1 (RY (f:=Aa 0) (g:=Aa 5) (R:=R) (h:=g) (r:=r) (d:=0) (e:=0) rfl rfl hr) (by
     have:=hg r hr
     rw [EM];show (Ct ct r).toNat + _<=_
     omega)
    refine (Dj t).trans (Si (R:=pre) (h:=T) (r:=r) (d:=d4) (e:=0) (x:=x4) e2 rfl hx hd rfl hrp ?_ hpl rfl);show EA b lo hi ct g r=_;unfold EA;rw [hbt,if_pos rfl];rfl
   | false=>
    rw [hbt] at t;refine (DO t).trans (Si (R:=pre) (h:=T) (r:=r) (y:=[]) (d:=d4) (e:=0) (x:=x4) (f:=Ak AW Ac) (ρ1:=N) rfl rfl hx hd rfl hrp ?_ hpl rfl);show EA b lo hi ct g r=_;unfold EA;rw [hbt,if_neg (by simp)]
  obtain ⟨ρ2,f1,rfl⟩:=fin;exact ⟨N,_,rfl,f1,_,_,.inr ⟨by simp,rfl⟩,rfl⟩)
 rcases hs with ⟨e,_⟩ | ⟨_,rfl⟩
 ·exact absurd e hn
 ·have v1:Aj false 4 DR [] (L none none)=.nx (L (some (.dct [],om)) none):=rfl;exact BB rfl ((Be v1).trans ((Be (Xr (R:=R) (h:=g) (d:=0) rfl rfl v2)).trans rfl))
def vG {n:Nat}{en:List (PV×Nat)->Option (Int×Int)}{fa:Fa}{elt:Fx}{q:Nat->PV}{ρ ρ1:Af}{as:List (PV×Nat)}{lo hi:Int} (hf:fa ρ=.ok (as,ρ1)) (hen:en as=some (lo,hi)) (hn:ρ1.length=n) (he:∀ k,k < (hi - lo).toNat->elt (ρ1++[some (.int (lo + (k:Int)),om)])=.ok (q k,0,ρ1++[some (.int (lo + (k:Int)),om)])) (hl:(hi - lo).toNat<=Aw):
  ∃ e,Cu en fa 1 (asgN n) AU elt ρ=.ok (.lst ((Ay (hi - lo).toNat).map q),e,ρ1):=by
 refine ⟨if CO ((Ay (hi - lo).toNat).map λ (k:Nat)=>(q k,0)) then om else 1,?_⟩;unfold Cu Ec CK;rw [hf];dsimp only [Rz.bind];rw [hen];dsimp only;rw [MJ,Jy (enc:=λ (k:Nat)=>PV.int (lo + (k:Int))) (p:=λ _=>true) (q:=q) (e:=λ _=>0) (Ay (hi - lo).toNat) ρ1 [] hn (λ _ _=>rfl) (λ x hx _=>he x (jb8.mp hx)) (by simpa using hl),je9.mpr (λ _ _=>rfl)];show E9 ((Ay (hi - lo).toNat).map λ x=>(q x,0)) ρ1=_;unfold E9;rw [Cr];rfl
def yg {b c:Nat} (hb:1<=b/\b<=1000) (hc:c<=1000) (hR:∀ n,n<=b->(A7 n c).length<=500000):f_rows_of_heights [.int (b:Int),.int (c:Int)]=.ok (.lst ((A7 b c).map Al),0,.non):=by
 have z:=sz;let L (x2:PV) (d2:Nat) (s3 s4 s5 s6:QQ.Slot) (d1:Nat):Af:=[some (.int (b:Int),om),some (.int (c:Int),d1),some (x2,d2),s3,s4,s5,s6]
 have v1:Aj false 2 (Ak AW (Ad (Ak AX (Ac)) (Ac))) [] [some (.int (b:Int),om),some (.int (c:Int),om),none,none,none,none,none]=.nx (L (.lst [Al []]) om none none none none om):=rfl;obtain ⟨ρ',v2,d1,d2,s3,s4,s5,s6,hd2,rfl⟩:=PH (i:=3) (en:=Bl) (fa:=Ad (Aa 0) Ac) (body:=(Ag (Aj false 4 (Ak AW (Ac)) [])
 (Ag (GK (Aa 2) [2] (asgN 5) (Ag (Aj false 6 (BA (bT (Ab (B1 λ i j=>decide (j < i)) (Aa 3) (bC (.int 0)))) (Ab An (Aa 5) (AQ EX (bC (.int 1)))) (Aa 1)) [5,1])
 (Ce 4 (Cu Bl (Ad (Ab AG (Aa 6) (bC (.int 1))) (Ac)) 1 (asgN 7) AU (Ab AG (Aa 5) (Ak AX (Ad (Aa 7) (Ac))))) [5])))
 (Aj false 2 (Aa 4) [4])))) (ρ:=L (.lst [Al []]) om none none none none om) (ρ1:=L (.lst [Al []]) om none none none none om) (as:=[(.int (b:Int),om)]) (lo:=0) (hi:=(b:Int))
  (λ j ρ=>∃ d1 d2 s3 s4 s5 s6,(0 < j->d2=0)/\ρ=L (.lst ((A7 j c).map Al)) d2 s3 s4 s5 s6 d1) rfl (EY (by omega) (by omega)) ⟨om,om,none,none,none,none,λ h=>absurd h (by omega),rfl⟩ (by
  rintro j _ hj ⟨d1,d2,s3,s4,s5,s6,_,rfl⟩;have hjb:j < b:=by omega
  refine ⟨by show 3 < 7;decide,?_⟩;rw [Ho];let R:=A7 j c;let M (xs:List PV) (d4 d1 d2 d3:Nat) (s5 s6:QQ.Slot):Af:=[some (.int (b:Int),om),some (.int (c:Int),d1),some (.lst (R.map Al),d2),some (.int (j:Int),d3),some (.lst xs,d4),s5,s6]
  let nx (r:List Int):List (List Int):=(CV 0 (AY c c r + 1)).map λ x=>r++[x];have hnx:A7 (j + 1) c=R.flatMap nx:=rfl;obtain ⟨ρ2,e2,d1',d3',d4',s5',s6',hd4,rfl⟩:=J7 (asg:=asgN 5) (enc:=Al) (body:=(Ag (Aj false 6 (BA (bT (Ab (B1 λ i j=>decide (j < i)) (Aa 3) (bC (.int 0)))) (Ab An (Aa 5) (AQ EX (bC (.int 1)))) (Aa 1)) [5,1])
 (Ce 4 (Cu Bl (Ad (Ab AG (Aa 6) (bC (.int 1))) (Ac)) 1 (asgN 7) AU (Ab AG (Aa 5) (Ak AX (Ad (Aa 7) (Ac))))) [5]))) (λ pre ρ=>∃ d1 d3 d4 s5 s6,d4≠0/\ρ=M ((pre.flatMap nx).map Al) d4 d1 0 d3 s5 s6) R [] (M [] om d1 0 om s5 s6) ⟨d1,om,om,s5,s6,by decide,rfl⟩ (by
   rintro pre r post _ ep ⟨d1,d3,d4,s5,s6,hd4,rfl⟩;rw [Fg] at ep;have hr:r∈R:=by rw [ep];exact CM _ AM
   have h2:=zqu.mp hr;let N (d1 d5:Nat) (s6:QQ.Slot):Af:=M ((pre.flatMap nx).map Al) d4 d1 0 d3 (some (Al r,d5)) s6;have ht:∃ m:Nat,AY c c r=(m:Int)/\m<=c/\BA (bT (Ab (B1 λ i j=>decide (j < i)) (Aa 3) (bC (.int 0)))) (Ab An (Aa 5) (AQ EX (bC (.int 1)))) (Aa 1) (N d1 0 s6)=.ok (.int (m:Int),om,N d1 0 s6):=by
    have tt:bT (Ab (B1 λ i j=>decide (j < i)) (Aa 3) (bC (.int 0))) (N d1 0 s6)=.ok (decide (0 < (j:Int)),N d1 0 s6):=AH (ET (p:=λ i j=>decide (j < i)) (i:=(j:Int)) (j:=0) (d:=om) (e:=om) rfl rfl);cases j with
    | zero=>
     refine ⟨c,?_,A4 _,?_⟩
     ·unfold AY;rw [jg6.mp h2.len];simp only [SK];omega
     ·unfold BA;rw [tt];rfl
    | succ i=>
     have g1:=PX h2.len;have g2:=h2.lo i (by omega);have g3:=h2.hi i (by omega);obtain ⟨m,hm⟩:∃ m:Nat,r.getD i 0=(m:Int):=⟨(r.getD i 0).toNat,by omega⟩
     refine ⟨m,?_,by omega,?_⟩
     ·unfold AY;rw [g1];simp only;omega
     ·unfold BA;rw [tt];dsimp only [Rz.bind];rw [if_pos (by rw [decide_eq_true_iff];omega)];refine MZ (xs:=r) (k:=-1) (d:=0) (e:=om) rfl rfl ?_;unfold BG E1;rw [if_neg (by decide),if_pos (by rw [h2.len];omega),h2.len,<- hm];rw [show (-1 + ((i + 1:Nat):Int)).toNat=i by omega];exact EZ (by rw [h2.len];omega)
   obtain ⟨m,tm,hmc,ev⟩:=ht;have w1:Aj false 6 (BA (bT (Ab (B1 λ i j=>decide (j < i)) (Aa 3) (bC (.int 0)))) (Ab An (Aa 5) (AQ EX (bC (.int 1)))) (Aa 1)) [5,1] (N d1 0 s6)=.nx (N d1 0 (some (.int (m:Int),om))):=setF ev (show 6 < 7 by decide) rfl;have ct:∃ e,Cu Bl (Ad (Ab AG (Aa 6) (bC (.int 1))) (Ac)) 1 (asgN 7) AU (Ab AG (Aa 5) (Ak AX (Ad (Aa 7) (Ac)))) (N d1 0 (some (.int (m:Int),om)))=.ok (.lst ((nx r).map Al),e,N d1 0 (some (.int (m:Int),om))):=by
    let W:Af:=N d1 0 (some (.int (m:Int),om));have e1:(nx r).map Al=(Ay (m + 1)).map λ (k:Nat)=>Al (r++[(0:Int) + (k:Int)]):=by
     show ((CV 0 (AY c c r + 1)).map λ x=>r++[x]).map Al=_;unfold CV;rw [tm,Cr,Cr,show ((m:Int) + 1 - 0).toNat=m + 1 by omega];rfl
    have hc:=vG (n:=7) (en:=Bl) (fa:=Ad (Ab AG (Aa 6) (bC (.int 1))) (Ac)) (elt:=Ab AG (Aa 5) (Ak AX (Ad (Aa 7) (Ac)))) (q:=λ k=>Al (r++[(0:Int) + (k:Int)])) (ρ:=W) (ρ1:=W) (as:=[(.int ((m:Int) + 1),om)]) (lo:=0) (hi:=(m:Int) + 1) rfl (EY (by omega) (by omega)) rfl (λ k hk=>by
     exact Sr (f:=Aa 5) (h:=Ak AX (Ad (Aa 7) (Ac))) (xs:=r) (ys:=[(0:Int) + (k:Int)]) (d:=0) (e:=om) rfl rfl (by rw [h2.len,Gg];omega)) (by omega)
    rw [show ((m:Int) + 1 - 0).toNat=m + 1 by omega,<- e1] at hc;exact hc
   obtain ⟨e,ct⟩:=ct;have hjl:(A7 (j + 1) c).length<=500000:=hR (j + 1) (by omega);have hln:((pre.flatMap nx).map Al).length + ((nx r).map Al).length<=Aw:=by
    have:(A7 (j + 1) c).length=(pre.flatMap nx).length + ((nx r).length + (post.flatMap nx).length):=by
     rw [hnx,ep,Mf,Hr,Br,Br]
    rw [AJ,AJ];omega
   have w2:Ce 4 (Cu Bl (Ad (Ab AG (Aa 6) (bC (.int 1))) (Ac)) 1 (asgN 7) AU (Ab AG (Aa 5) (Ak AX (Ad (Aa 7) (Ac))))) [5] (N d1 0 (some (.int (m:Int),om)))=.nx (M (((pre++[r]).flatMap nx).map Al) 1 d1 0 d3 (some (Al r,0)) (some (.int (m:Int),om))):=by
    obtain ⟨k,rfl⟩:∃ k,d4=k + 1:=⟨d4 - 1,by omega⟩
    have hcool:Bb e [5] (N d1 0 (some (.int (m:Int),om)))=N d1 0 (some (.int (m:Int),om)):=by
     unfold Bb;split <;> rfl
    refine Wy (xs:=(pre.flatMap nx).map Al) (xs0:=(pre.flatMap nx).map Al) (d0:=k) (d:=k + 1) rfl ct (by rw [hcool];rfl) (by omega) hln ?_;rw [hcool,Mf,Dz];simp only [Hr,Z8,FE];rfl
   exact ⟨N d1 0 s6,_,rfl,(Be w1).trans w2,d1,d3,1,_,_,by decide,rfl⟩)
  have u1:Aj false 4 (Ak AW (Ac)) [] (L (.lst (R.map Al)) d2 (some (.int (j:Int),om)) s4 s5 s6 d1)=.nx (M [] om d1 d2 om s5 s6):=rfl;have u2:GK (Aa 2) [2] (asgN 5) (Ag (Aj false 6 (BA (bT (Ab (B1 λ i j=>decide (j < i)) (Aa 3) (bC (.int 0)))) (Ab An (Aa 5) (AQ EX (bC (.int 1)))) (Aa 1)) [5,1])
 (Ce 4 (Cu Bl (Ad (Ab AG (Aa 6) (bC (.int 1))) (Ac)) 1 (asgN 7) AU (Ab AG (Aa 5) (Ak AX (Ad (Aa 7) (Ac))))) [5])) (M [] om d1 d2 om s5 s6)=_:=Xs (els:=R.map Al) (d:=0) rfl rfl e2
  refine ⟨_,(Be u1).trans ((Be u2).trans (setF (x:=.lst (((([]:List (List Int))++R).flatMap nx).map Al)) (d:=0) rfl (show 2 < 7 by decide) rfl)),d1',0,some (.int (j:Int),d3'),some (.lst (((([]:List (List Int))++R).flatMap nx).map Al),0),s5',s6',λ _=>rfl,?_⟩
  rfl)
 rw [show ((b:Int) - 0).toNat=b by omega] at v2;have hd:d2=0:=hd2 (by omega);subst hd;exact BB rfl ((Be v1).trans ((Be v2).trans rfl))
structure BoxT (a b c:Nat):Prop where
 ha:1<=a/\a<=100
 hb:1<=b/\b<=100
 hc:c<=100
 dk:Dl ((A7 b c).map A8)=true
 rl:∀ n,n<=b->(A7 n c).length<=500000
def Pq {b c:Nat}:A7 b c≠[]:=λ e=>by
 have:A9 b (0:Int)∈A7 b c:=zqu.mpr ⟨EM,λ j hj=>by simp [AN,Gi,hj],λ j hj=>by simp [AN,Gi,hj],λ j hj=>by simp [AN,Gi,hj,show j < b by omega]⟩
 rw [e] at this;cases this
def C6 (r:List Int):List Int:=if r.sum=0 then [1] else []
def BS (a b:Nat) (c:Int) (lo hi:Nat->List Int) (ct:Nat->List Nat):Nat->List Int->List Int
 | 0=>C6
 | k + 1=>EA b (lo (a - 1 - k)) (hi (a - 1 - k)) (ct (a - 1 - k)) (De b c (BS a b c lo hi ct k))
theorem K6 {a b c:Nat}{lo hi:Nat->List Int}{ct:Nat->List Nat}{m:Nat} (hct:∀ i,(ct i).length<=m) (hcb:∀ i,∀ j∈ct i,j < b):∀ (k:Nat),∀ r∈A7 b c,(BS a b c lo hi ct k r).length<=1 + k * (m * c)
 | 0,r,_=>by
  unfold BS C6;split <;> simp
 | k + 1,r,hr=>by
  have ih:=K6 (a:=a) (b:=b) (c:=c) (lo:=lo) (hi:=hi) hct hcb k;unfold BS EA;split
  ·rw [Br,EM];have h1:(De b c (BS a b c lo hi ct k) r).length<=1 + k * (m * c):=Ii λ q hq=>ih q (je4.mp hq).1;have h2:=(Ss (zqu.mp hr) (hcb (a - 1 - k))).2;have h3:(ct (a - 1 - k)).length * c<=m * c:=Hs _ (hct _);have h4:(Ct (ct (a - 1 - k)) r).toNat<=m * c:=by
    have:(((ct (a - 1 - k)).length * c:Nat):Int)=((ct (a - 1 - k)).length:Int) * (c:Int):=Gb _ _
    omega
   have h5:(k + 1) * (m * c)=k * (m * c) + m * c:=by rw [Oz,Zi]
   omega
  ·simp
def Bk (ps:List (Nat×Nat)) (i:Nat):List Nat:=(ps.filter λ z=>decide (z.1=i)).map (·.2)
def MX {ps:List (Nat×Nat)}{b i:Nat} (h:∀ z∈ps,z.2 < b):∀ j∈Bk ps i,j < b:=λ j hj=>by
 obtain ⟨z,hz,rfl⟩:=jc2.mp hj;exact h z (je4.mp hz).1
def yX {fa:Fa}{asg:PV->Af->Option Af}{body:Fs}{ρ ρ1:Af}{r:Rs}{as:List (PV×Nat)}{i:Int}{n:Nat} (hf:fa ρ=.ok (as,ρ1)) (hen:LC as=some (i,n)) (h:Ck asg body (Gn i n) ρ1=r):Ot fa asg body ρ=r:=by
 unfold Ot Fv Hf;rw [hf];dsimp only [Rz.bind];rw [hen];exact h
def yV {i j:Int}{d1 d2 d3:Nat} (h1:-(2 ^ 40)<=i) (h2:i < 2 ^ 40) (h3:-(2 ^ 40)<=j) (h4:j < 2 ^ 40):LC [(.int i,d1),(.int j,d2),(.int (-1),d3)]=some (i,(i - j).toNat):=by
 show (if (-1:Int)=-1/\-(2 ^ 40)<=i/\i < 2 ^ 40/\-(2 ^ 40)<=j/\j < 2 ^ 40 then some (i,(i - j).toNat) else none)=_;rw [if_pos ⟨rfl,h1,h2,h3,h4⟩]
def bA {a b c:Nat} (B:BoxT a b c) {low high:List (List Int)} (hl:Tab a b low) (hh:Tab a b high) {ps:List (Nat×Nat)} (hp:∀ z∈ps,z.2 < b) {m:Nat} (hm:∀ i,(Bk ps i).length<=m) (hmc:1 + a * (m * c)<=1000) (hpl:ps.length<=1000):
  ∃ d,f_tables_between [bx a b c,tb low,tb high,.lst (ps.map pr)]=.ok (.lst ((Ay a).map λ k=>Ao (A7 b c) (BS a b c (λ i=>low.getD i []) (λ i=>high.getD i []) (Bk ps) (k + 1))).reverse,d,.non):=by
 have z:=sz;obtain ⟨ha,hb,hc,dk,rl⟩:=B;let R:=A7 b c;let T:=BS a b c (λ i=>low.getD i []) (λ i=>high.getD i []) (Bk ps);have hRl:R.length < 1000000:=by have:=rl b (A4 _);show (A7 b c).length < _;omega
 let L (d5 d6:Nat) (s7 s8 s9 s10 s11:QQ.Slot):Af:=[some (bx a b c,0),some (tb low,0),some (tb high,0),some (.lst (ps.map pr),0),some (.int (a:Int),om),some (.int (b:Int),d5),some (.int (c:Int),d6),s7,s8,s9,s10,s11]
 have v1:B4 (asgT [4,5,6]) (Aa 0) [0] [some (bx a b c,0),some (tb low,0),some (tb high,0),some (.lst (ps.map pr),0),none,none,none,none,none,none,none,none]=.nx (L om om none none none none none):=rfl;have v2:Aj false 7 DR [] (L om om none none none none none)=.nx (L om om (some (.dct [],om)) none none none none):=rfl;obtain ⟨ρ3,e3,s8,s7,hs,rfl⟩:=J7 (asg:=asgN 8) (enc:=Al) (body:=C1 7 (Aa 8) (BA (bT (Ab (A3 false) (Ak CD (Ad (Aa 8) (Ac))) (bC (.int 0)))) (Ak AW (Ad (bC (.int 1)) (Ac))) (Ak AW (Ac)))) (λ pre ρ=>∃ s8 s7,((pre=[]/\s7=some (.dct [],om))\/(pre≠[]/\s7=some (Ao pre C6,1)))/\ρ=L 0 0 s7 s8 none none none) R [] (L 0 0 (some (.dct [],om)) none none none none) ⟨none,_,.inl ⟨rfl,rfl⟩,rfl⟩ (by
  rintro pre r post _ ep ⟨s8,s7,hs,rfl⟩;rw [Fg] at ep;have hrp:r∉pre:=λ z=>by
   have:=J9 b c
   rw [show A7 b c=pre++r::post from ep,SI] at this;exact this.2.2 r z r AM rfl
  have hpl:pre.length < 1000000:=by
   have:R.length=pre.length + (post.length + 1):=by rw [ep];simp
   omega
  obtain ⟨x4,d4,rfl,hx,hd⟩:∃ x4 d4,s7=some (x4,d4)/\(x4=Ao pre C6\/(x4=.dct []/\pre=[]))/\d4≠0:=by
   rcases hs with ⟨e1,e2⟩ | ⟨e1,e2⟩
   ·exact ⟨_,_,e2,.inr ⟨rfl,e1⟩,by decide⟩
   ·exact ⟨_,_,e2,.inl rfl,by decide⟩
  let N:Af:=L 0 0 (some (x4,d4)) (some (Al r,0)) none none none;have e1:Ak CD (Ad (Aa 8) (Ac)) N=.ok (.int r.sum,om,N):=by
   refine Cw (xs:=[(Al r,0)]) rfl ?_;show (match E6 (r.map PV.int) with | some ns=>some (PV.int ns.sum,om) | none=>none)=_;rw [OY]
  have e2:bT (Ab (A3 false) (Ak CD (Ad (Aa 8) (Ac))) (bC (.int 0))) N=.ok (false^^decide (r.sum=0),N):=AH (HD (neg:=false) (g:=bC (.int 0)) (j:=0) (e:=om) e1 rfl);have e3:BA (bT (Ab (A3 false) (Ak CD (Ad (Aa 8) (Ac))) (bC (.int 0)))) (Ak AW (Ad (bC (.int 1)) (Ac))) (Ak AW (Ac)) N=.ok (il (C6 r),om,N):=by
   unfold BA;rw [e2];dsimp only [Rz.bind];rw [LY];unfold C6;by_cases h0:r.sum=0
   ·rw [decide_eq_true h0,if_pos rfl,if_pos h0];rfl
   ·rw [decide_eq_false h0,if_neg (by simp),if_neg h0];rfl
  exact ⟨N,_,rfl,Si (R:=pre) (h:=C6) (r:=r) (d:=d4) (e:=0) (x:=x4) e3 rfl hx hd rfl hrp rfl hpl rfl,some (Al r,0),_,.inr ⟨by simp,rfl⟩,rfl⟩)
 have hs:s7=some (Ao R C6,1):=by
  rcases hs with ⟨e,_⟩ | ⟨_,e⟩
  ·exact absurd e Pq
  ·exact e
 subst hs;have v3:GK (Ap f_rows_of_heights (Ad (Aa 5) (Ad (Aa 6) (Ac)))) [5,6] (asgN 8) (C1 7 (Aa 8) (BA (bT (Ab (A3 false) (Ak CD (Ad (Aa 8) (Ac))) (bC (.int 0)))) (Ak AW (Ad (bC (.int 1)) (Ac))) (Ak AW (Ac)))) (L om om (some (.dct [],om)) none none none none)=.nx (L 0 0 (some (Ao R C6,1)) s8 none none none):=Xs (els:=R.map Al) (d:=0) (AE (xs:=[(.int (b:Int),om),(.int (c:Int),om)]) rfl (yg (by omega) (by omega) rl)) rfl e3;have v4:Aj false 9 (Ak AW (Ac)) [] (L 0 0 (some (Ao R C6,1)) s8 none none none)=.nx (L 0 0 (some (Ao R C6,1)) s8 (some (.lst [],om)) none none):=rfl;obtain ⟨ρ5,e5,d7,d9,s10,s11,hd9,rfl⟩:=PY (asg:=asgN 10) (body:=(Ag (Aj false 11 (Cv (Aa 3) 1 (asgN 12) (bT (Ab (A3 false) (Ab An (Aa 12) (bC (.int 0))) (Aa 10))) (Ab An (Aa 12) (bC (.int 1)))) [3,3])
 (Ag (Aj false 7 (Ap f_table_of_row (Ad (Ap f_sums_of_lower_rows (Ad (Aa 7) (Ad (Aa 5) (Ac)))) (Ad (Ab An (Aa 1) (Aa 10)) (Ad (Ab An (Aa 2) (Aa 10)) (Ad (Aa 11) (Ac)))))) [7,5,1,10,2,10,11])
 (Cf 9 (Aa 7) [7])))) (Gn ((a:Int) - 1) a) (λ k ρ=>∃ d7 d9 s10 s11,d9≠0/\ρ=L 0 0 (some (Ao R (T k),d7)) s8 (some (.lst ((Ay k).map λ t=>Ao R (T (t + 1))),d9)) s10 s11) (L 0 0 (some (Ao R C6,1)) s8 (some (.lst [],om)) none none) ⟨1,om,none,none,by decide,rfl⟩ (by
  rintro k x _ hx ⟨d7,d9,s10,s11,hd9,rfl⟩;unfold Gn at hx;rw [CL] at hx;have hk:k < a:=by
   cases e:(Ay a)[k]? with
   | none=>rw [e] at hx;cases hx
   | some t=>have:=(jb0.mp e).1;simpa using this
  rw [OB hk] at hx;obtain rfl:PV.int ((a:Int) - 1 - (k:Int))=x:=Option.some.inj hx;let i:=a - 1 - k;have hi:i < a:=by show a - 1 - k < a;omega
  have ei:(a:Int) - 1 - (k:Int)=(i:Int):=by show _=((a - 1 - k:Nat):Int);omega
  rw [ei];let N (d7 d10:Nat) (s11:QQ.Slot):Af:=L 0 0 (some (Ao R (T k),d7)) s8 (some (.lst ((Ay k).map λ t=>Ao R (T (t + 1))),d9)) (some (.int (i:Int),d10)) s11;have w1:Aj false 11 (Cv (Aa 3) 1 (asgN 12) (bT (Ab (A3 false) (Ab An (Aa 12) (bC (.int 0))) (Aa 10))) (Ab An (Aa 12) (bC (.int 1)))) [3,3] (N d7 om s11)=.nx (N d7 om (some (.lst ((Bk ps i).map λ (j:Nat)=>.int (j:Int)),om))):=by
   have cf:=yP (n:=12) (f:=Aa 3) (enc:=pr) (q:=λ z=>.int (z.2:Int)) (p:=λ z=>decide (z.1=i)) (test:=bT (Ab (A3 false) (Ab An (Aa 12) (bC (.int 0))) (Aa 10))) (elt:=Ab An (Aa 12) (bC (.int 1))) (ρ:=N d7 om s11) (ρ1:=N d7 om s11) (d:=0) ps rfl rfl (λ z _=>by
    have e1:Ab An (Aa 12) (bC (.int 0)) (N d7 om s11++[some (pr z,dv (pr z))])=.ok (.int (z.1:Int),om,N d7 om s11++[some (pr z,dv (pr z))]):=rfl;have e2:=AH (HD (neg:=false) (g:=Aa 10) (j:=(i:Int)) (e:=om) e1 rfl);have e4:decide ((z.1:Int)=(i:Int))=decide (z.1=i):=by
     rw [Eb,decide_eq_true_iff,decide_eq_true_iff];omega
    rw [e2,LY,e4]) (λ z _ _=>rfl) (by omega)
   have cf':Cv (Aa 3) 1 (asgN 12) (bT (Ab (A3 false) (Ab An (Aa 12) (bC (.int 0))) (Aa 10))) (Ab An (Aa 12) (bC (.int 1))) (N d7 om s11)=.ok (.lst ((Bk ps i).map λ (j:Nat)=>.int (j:Int)),om,N d7 om s11):=by
    rw [cf];unfold Bk;rw [Cr];rfl
   exact setF cf' (show 11 < 12 by decide) rfl
  let N2:Af:=N d7 om (some (.lst ((Bk ps i).map λ (j:Nat)=>.int (j:Int)),om));have hkm:1 + k * (m * c)<=1000:=by
   have:k * (m * c)<=a * (m * c):=Hs _ (by omega)
   omega
  have tl:∀ r∈R,(T k r).length<=1000:=λ r hr=>BF (K6 hm (λ i=>MX hp) k r hr) hkm;have c1:Ap f_sums_of_lower_rows (Ad (Aa 7) (Ad (Aa 5) (Ac))) N2=.ok (Ao R (De b c (T k)),1,N2):=AE (xs:=[(Ao R (T k),0),(.int (b:Int),om)]) rfl (yE (by omega) dk Pq hRl tl);have gl:low[i]?=some (low.getD i []):=Jz (by rw [hl.1];exact hi);have gh:high[i]?=some (high.getD i []):=Jz (by rw [hh.1];exact hi);have c2:Ab An (Aa 1) (Aa 10) N2=.ok (il (low.getD i []),0,N2):=Rx (t:=low) (k:=(i:Int)) (d:=0) (e:=om) rfl rfl (Ed (by omega) (by rw [CU];exact gl));have c3:Ab An (Aa 2) (Aa 10) N2=.ok (il (high.getD i []),0,N2):=Rx (t:=high) (k:=(i:Int)) (d:=0) (e:=om) rfl rfl (Ed (by omega) (by rw [CU];exact gh));have hcm:(Bk ps i).length * c<=1000:=by
   have e1:(Bk ps i).length * c<=m * c:=Hs _ (hm i);have e2:1 * (m * c)<=a * (m * c):=Hs _ (by omega);omega
  have hcl:(Bk ps i).length<=1000:=by
   unfold Bk;rw [AJ];exact BF (OE _ _) hpl
  have rt:=xu (b:=b) (c:=c) (lo:=low.getD i []) (hi:=high.getD i []) (ct:=Bk ps i) (g:=De b c (T k)) (Tab.row hl hi) (Tab.row hh hi) (by omega) (MX hp) ⟨hcm,hcl,by omega⟩ Pq hRl (λ r hr=>Ii λ q hq=>tl q (je4.mp hq).1);have w2:Aj false 7 (Ap f_table_of_row (Ad (Ap f_sums_of_lower_rows (Ad (Aa 7) (Ad (Aa 5) (Ac)))) (Ad (Ab An (Aa 1) (Aa 10)) (Ad (Ab An (Aa 2) (Aa 10)) (Ad (Aa 11) (Ac)))))) [7,5,1,10,2,10,11] N2=.nx (L 0 0 (some (Ao R (T (k + 1)),1)) s8 (some (.lst ((Ay k).map λ t=>Ao R (T (t + 1))),d9)) (some (.int (i:Int),0)) (some (.lst ((Bk ps i).map λ (j:Nat)=>.int (j:Int)),0))):=
   setF (x:=Ao R (T (k + 1))) (d:=1) (AE (xs:=[(Ao R (De b c (T k)),1),(il (low.getD i []),0),(il (high.getD i []),0),(.lst ((Bk ps i).map λ (j:Nat)=>.int (j:Int)),0)]) (A6 c1 (A6 c2 (A6 c3 (AF rfl)))) rt) (show 7 < 12 by decide) rfl
  have w3:Cf 9 (Aa 7) [7] (L 0 0 (some (Ao R (T (k + 1)),1)) s8 (some (.lst ((Ay k).map λ t=>Ao R (T (t + 1))),d9)) (some (.int (i:Int),0)) (some (.lst ((Bk ps i).map λ (j:Nat)=>.int (j:Int)),0)))=.nx (L 0 0 (some (Ao R (T (k + 1)),0)) s8 (some (.lst ((Ay (k + 1)).map λ t=>Ao R (T (t + 1))),1)) (some (.int (i:Int),0)) (some (.lst ((Bk ps i).map λ (j:Nat)=>.int (j:Int)),0))):=by
   obtain ⟨e,rfl⟩:∃ e,d9=e + 1:=⟨d9 - 1,by omega⟩
   refine Rn (xs0:=(Ay k).map λ t=>Ao R (T (t + 1))) (xs:=(Ay k).map λ t=>Ao R (T (t + 1))) (d0:=e) (d:=e + 1) (y:=Ao R (T (k + 1))) (e:=0) rfl rfl rfl (by omega) (by rw [AJ,FF];omega) ?_;rw [if_neg (λ h=>absurd h.2 (by decide)),EH,Dz];rfl
  exact ⟨N d7 om s11,_,rfl,(Be w1).trans ((Be w2).trans w3),0,1,some (.int (i:Int),0),some (.lst ((Bk ps i).map λ (j:Nat)=>.int (j:Int)),0),by decide,rfl⟩)
 have hdl:(Gn ((a:Int) - 1) a).length=a:=by unfold Gn;rw [AJ,FF]
 rw [hdl] at e5;have v5:Ot (Ad (Ab BH (Aa 4) (bC (.int 1))) (Ad (AQ EX (bC (.int 1))) (Ad (AQ EX (bC (.int 1))) (Ac)))) (asgN 10) (Ag (Aj false 11 (Cv (Aa 3) 1 (asgN 12) (bT (Ab (A3 false) (Ab An (Aa 12) (bC (.int 0))) (Aa 10))) (Ab An (Aa 12) (bC (.int 1)))) [3,3])
 (Ag (Aj false 7 (Ap f_table_of_row (Ad (Ap f_sums_of_lower_rows (Ad (Aa 7) (Ad (Aa 5) (Ac)))) (Ad (Ab An (Aa 1) (Aa 10)) (Ad (Ab An (Aa 2) (Aa 10)) (Ad (Aa 11) (Ac)))))) [7,5,1,10,2,10,11])
 (Cf 9 (Aa 7) [7]))) (L 0 0 (some (Ao R C6,1)) s8 (some (.lst [],om)) none none)=.nx (L 0 0 (some (Ao R (T a),d7)) s8 (some (.lst ((Ay a).map λ t=>Ao R (T (t + 1))),d9)) s10 s11):=by
  have en:LC [(.int ((a:Int) - 1),om),(.int (-1),om),(.int (-1),om)]=some ((a:Int) - 1,a):=by
   rw [yV (by omega) (by omega) (by omega) (by omega),show ((a:Int) - 1 - -1).toNat=a by omega]
  exact yX (as:=[(.int ((a:Int) - 1),om),(.int (-1),om),(.int (-1),om)]) rfl en e5
 exact ⟨_,BB rfl ((Be v1).trans ((Be v2).trans ((Be v3).trans ((Be v4).trans ((Be v5).trans (BN (Wn (x:=.lst ((Ay a).map λ t=>Ao R (T (t + 1)))) (d:=0) rfl rfl)))))))⟩
theorem OX {f:List Int->List Int}:∀ (l:List (List Int)) (acc:List Int),l.foldl (λ s r=>Av s (f r)) acc=Av acc (sumT f l)
 | [],acc=>(FJ acc).symm
 | r::l,acc=>by rw [SF,OX l,Hy,Ko]
def BX (a b c:Nat) (low high:List (List Int)) (ps:List (Nat×Nat)):List Int:=sumT (BS a b c (λ i=>low.getD i []) (λ i=>high.getD i []) (Bk ps) a) (A7 b c)
def YN {a b c:Nat} (B:BoxT a b c) {low high:List (List Int)} (hl:Tab a b low) (hh:Tab a b high) {ps:List (Nat×Nat)} (hp:∀ z∈ps,z.2 < b) {m:Nat} (hm:∀ i,(Bk ps i).length<=m) (hmc:1 + a * (m * c)<=1000) (hpl:ps.length<=1000):
  f_tally_between [bx a b c,tb low,tb high,.lst (ps.map pr)]=.ok (il (BX a b c low high ps),om,.non):=by
 have z:=sz;obtain ⟨dt,ht⟩:=bA B hl hh hp hm hmc hpl;let R:=A7 b c;let T:=BS a b c (λ i=>low.getD i []) (λ i=>high.getD i []) (Bk ps);let L (s4 s5:QQ.Slot):Af:=[some (bx a b c,0),some (tb low,0),some (tb high,0),some (.lst (ps.map pr),0),s4,s5]
 have v1:Aj false 4 (Ak AW (Ac)) [] (L none none)=.nx (L (some (il [],om)) none):=rfl;have tl:∀ r∈R,(T a r).length<=1000:=λ r hr=>BF (K6 hm (λ i=>MX hp) a r hr) hmc;obtain ⟨ρ',e2,s5,rfl⟩:=J7 (asg:=asgN 5) (enc:=λ r=>il (T a r)) (body:=Aj false 4 (Ap f_added (Ad (Aa 4) (Ad (Aa 5) (Ac)))) [4,5]) (λ pre ρ=>∃ s5,ρ=L (some (il (pre.foldl (λ s r=>Av s (T a r)) []),om)) s5) R [] (L (some (il [],om)) none) ⟨none,rfl⟩ (by
  rintro pre r post _ ep ⟨s5,rfl⟩;rw [Fg] at ep;have hr:r∈R:=by rw [ep];exact CM _ AM
  have hpre:(pre.foldl (λ s r=>Av s (T a r)) []).length<=1000:=by
   rw [OX];exact Ii λ q hq=>tl q (by rw [ep];exact Ib _ hq)
  refine ⟨L (some (il (pre.foldl (λ s r=>Av s (T a r)) []),om)) (some (il (T a r),0)),_,rfl,setF (x:=il (Av (pre.foldl (λ s r=>Av s (T a r)) []) (T a r))) (d:=om) (AE (xs:=[(il (pre.foldl (λ s r=>Av s (T a r)) []),0),(il (T a r),0)]) rfl (Ym hpre (tl r hr))) (show 4 < 6 by decide) rfl,some (il (T a r),0),?_⟩;rw [List.foldl_append]
  rfl)
 have hidx:Ab An (Ap f_tables_between (Ad (Aa 0) (Ad (Aa 1) (Ad (Aa 2) (Ad (Aa 3) (Ac)))))) (bC (.int 0)) (L (some (il [],om)) none)=.ok (Ao R (T a),0,L (some (il [],om)) none):=by
  refine Cj (AE (xs:=[(bx a b c,0),(tb low,0),(tb high,0),(.lst (ps.map pr),0)]) rfl ht) (y:=.int 0) (e:=om) rfl ?_;show (BG _ 0).map _=_;rw [Ed (x:=Ao R (T a)) (by decide) ?_]
  ·rfl
  ·obtain ⟨k,rfl⟩:∃ k,a=k + 1:=⟨a - 1,by have:=B.ha;omega⟩
   show (List.reverse _)[0]?=_;rw [EH,Dz,List.reverse_append];rfl
 have v2:=wI (asg:=asgN 5) (body:=Aj false 4 (Ap f_added (Ad (Aa 4) (Ad (Aa 5) (Ac)))) [4,5]) (vs:=[0,1,2,3]) (ρ2:=L (some (il [],om)) none) hidx rfl e2;have he:([]++R).foldl (λ s r=>Av s (T a r)) []=BX a b c low high ps:=by
  rw [Fg,OX];rfl
 rw [he] at v2;exact BB rfl ((Be v1).trans ((Be v2).trans rfl))
def A1 {α:Type} (f:α->Int) (l:List α):Int:=(l.map f).sum
def Du {α:Type}{f:α->Int}{x:α}{l:List α}:A1 f (x::l)=f x + A1 f l:=rfl
theorem YI {α:Type}{f:α->Int}:∀ (l m:List α),A1 f (l++m)=A1 f l + A1 f m
 | [],m=>by simp [A1]
 | x::l,m=>by rw [HU,Du,Du,YI l m];omega
theorem Ef {α:Type}{f g:α->Int}:∀ {l:List α},(∀ x∈l,f x=g x)->A1 f l=A1 g l
 | [],_=>rfl
 | x::l,h=>by rw [Du,Du,h x AM,Ef λ y hy=>h y (AO _ hy)]
theorem P5 {α β:Type}{f:β->Int}{h:α->List β}:∀ (l:List α),A1 f (l.flatMap h)=A1 (λ x=>A1 f (h x)) l
 | []=>rfl
 | x::l=>by rw [Hr,YI,P5 l,Du]
def YJ {α β:Type}{f:β->Int}{h:α->β}{l:List α}:A1 f (l.map h)=A1 (λ x=>f (h x)) l:=by
 unfold A1;rw [Cr];rfl
theorem Py {α:Type}:∀ (l:List α),A1 (λ _=>1) l=(l.length:Int)
 | []=>rfl
 | x::l=>by rw [Du,Py l,B8];omega
theorem M5 {α:Type}{f:α->Int}{p q:α->Bool}:∀ (l:List α),A1 (λ x=>if q x=true then f x else 0) (l.filter p)=A1 f (l.filter λ x=>p x && q x)
 | []=>rfl
 | x::l=>by
  have ih:=M5 (f:=f) (p:=p) (q:=q) l;rw [Ez,Ez];cases hp:p x with
  | false=>simpa using ih
  | true=>
   cases hq:q x with
   | false=>simp only [if_true,O5,G7,if_false,Du,hq,ih];omega
   | true=>simp only [if_true,HS,Du,hq,ih]
theorem UB {α:Type}{f:α->Int}:∀ {l:List α},(∀ x∈l,0<=f x)->0<=A1 f l
 | [],_=>C5 _
 | x::l,h=>by
  have h1:=h x AM;have h2:=UB (f:=f) (l:=l) λ y hy=>h y (AO _ hy);rw [Du];omega
theorem K5 {f:List Int->List Int}:∀ (l:List (List Int)),(sumT f l).sum=A1 (λ r=>(f r).sum) l
 | []=>rfl
 | r::l=>by rw [Hy,P9,K5 l,Du]
def DE (a b:Nat) (c:Int) (lo hi:Nat->List Int) (k:Nat) (r:List Int):Int:=(BS a b c lo hi (λ _=>[]) k r).sum
def GP (a b:Nat) (c:Int) (lo hi:Nat->List Int) (k:Nat) (ah:Nat->Int):Int:=A1 (DE a b c lo hi k) ((A7 b c).filter λ q=>(Ay b).all λ i=>decide (q.getD i 0<=ah i))
theorem M6:∀ (n:Nat) (l:List Int),(A9 n (0:Int)++l).sum=l.sum
 | 0,l=>rfl
 | n + 1,l=>by rw [EL,HU,Dy,M6 n l];omega
def Za {a b:Nat}{c:Int}{lo hi:Nat->List Int}{k:Nat}{r:List Int}:DE a b c lo hi (k + 1) r=if E3 b (lo (a - 1 - k)) r (hi (a - 1 - k))=true then GP a b c lo hi k (λ i=>r.getD i 0) else 0:=by
 show (EA b _ _ _ _ r).sum=_;unfold EA;split
 ·rw [M6];exact K5 _
 ·rfl
theorem Pe:∀ {r:List Int},(∀ j,j < r.length->0<=r.getD j 0)->r.sum=0->r=A9 r.length 0
 | [],_,_=>rfl
 | x::r,h,e=>by
  have h0:=h 0 (by simp);have hr:∀ j,j < r.length->0<=r.getD j 0:=λ j hj=>by simpa using h (j + 1) (by simpa using hj)
  have hs:∀ (r:List Int),(∀ j,j < r.length->0<=r.getD j 0)->0<=r.sum:=by
   intro r;induction r with
   | nil=>intro _;simp
   | cons y r ih=>
    intro h
    have:=h 0 (by simp)
    have:=ih λ j hj=>by simpa using h (j + 1) (by simpa using hj)
    simp at *;omega
  have h1:=hs r hr;rw [Dy] at e;simp at h0;have ex:x=0:=by omega
  have er:r.sum=0:=by omega
  rw [B8,EL,<- Pe hr er,ex]
def gC {a b:Nat}{c:Int}{lo hi:Nat->List Int}{ah:Nat->Int} (hc:0<=c) (h:∀ i,i < b->0<=ah i):GP a b c lo hi 0 ah=1:=by
 let z:=A9 b (0:Int);have zg:∀ j,z.getD j 0=0:=λ j=>by
  show (A9 b (0:Int)).getD j 0=0;rw [AN,Gi];split <;> rfl
 have zm:z∈A7 b c:=zqu.mpr ⟨EM,λ j _=>by rw [zg];omega,λ j _=>by rw [zg];exact hc,λ j _=>by rw [zg,zg];omega⟩;unfold GP;have e1:A1 (DE a b c lo hi 0) ((A7 b c).filter λ q=>(Ay b).all λ i=>decide (q.getD i 0<=ah i))=A1 (λ r=>if decide (r=z)=true then (1:Int) else 0) ((A7 b c).filter λ q=>(Ay b).all λ i=>decide (q.getD i 0<=ah i)):=by
  refine Ef λ r hr=>?_;have hr:=zqu.mp (je4.mp hr).1;show (C6 r).sum=_;unfold C6;by_cases e:r=z
  ·have hz:r.sum=0:=by
    have:=M6 b []
    rw [FE] at this;rw [e];exact this
   rw [if_pos hz,if_pos (decide_eq_true e)];rfl
  ·have hz:¬ r.sum=0:=λ h0=>e (by
    have:=Pe (λ j hj=>hr.lo j (by rw [<- hr.len];exact hj)) h0
    rw [this,hr.len])
   rw [if_neg hz,if_neg (by simpa using e)];rfl
 rw [e1,M5];have nd:=J9 b c;have key:∀ {l:List (List Int)},l.Nodup->z∈l->A1 (λ _=>(1:Int)) (l.filter λ x=>((Ay b).all λ i=>decide (x.getD i 0<=ah i)) && decide (x=z))=1:=by
  intro l;induction l with
  | nil=>intro _ h;cases h
  | cons x l ih=>
   intro nd hm;rw [jg9] at nd;rw [Ez];by_cases e:x=z
   ·have hz:((Ay b).all λ i=>decide (x.getD i 0<=ah i))=true:=by
     rw [jb1];intro i hi;rw [decide_eq_true_iff,e,zg];exact h i (jb8.mp hi)
    rw [hz,decide_eq_true e,if_pos (show (true && true)=true from rfl),Du]
    have:l.filter (λ y=>((Ay b).all λ i=>decide (y.getD i 0<=ah i)) && decide (y=z))=[]:=by
     rw [ji3];intro y hy e';rw [AK,decide_eq_true_iff] at e';exact nd.1 (by rw [e,<- e'.2];exact hy)
    rw [this];rfl
   ·rw [decide_eq_false e,O5,if_neg (by simp)];exact ih nd.2 ((jb9.mp hm).resolve_left λ e'=>e e'.symm)
 exact key nd zm
theorem bY {hi ah c:Int} (h:min hi ah<=c) (row:List Int):AY (min hi ah) c row=AY hi ah row:=by
 unfold AY;cases row.getLast? with
 | none=>simp only;omega
 | some m=>simp only;omega
theorem Vd {lo hi ah:Nat->Int}{c:Int}:∀ (n:Nat),(∀ i,i < n->min (hi i) (ah i)<=c)->Bs lo (λ i=>min (hi i) (ah i)) (λ _=>c) n=Bs lo hi ah n
 | 0,_=>rfl
 | n + 1,h=>by
  rw [Bs,Bs,Vd n λ i hi=>h i (by omega)];congr 1;funext row;rw [bY (h n (by omega))]
def UG {b:Nat}{c:Int}{lo hi:List Int}{ah:Nat->Int} (h0:∀ i,i < b->0<=lo.getD i 0) (hc:∀ i,i < b->hi.getD i 0<=c):((A7 b c).filter λ q=>((Ay b).all λ i=>decide (q.getD i 0<=ah i)) && E3 b lo q hi)=Bs (λ i=>lo.getD i 0) (λ i=>hi.getD i 0) ah b:=by
 have e1:Bs (λ i=>lo.getD i 0) (λ i=>hi.getD i 0) ah b=Bs (λ i=>if i < b then lo.getD i 0 else 0) (λ i=>if i < b then min (hi.getD i 0) (ah i) else 0 - (0 - c) ) (λ _=>c) b:=by
  rw [<- Vd (c:=c) b λ i hi=>by have:=hc i hi;omega];exact U9 b λ j hj=>⟨by rw [if_pos hj],by rw [if_pos hj],rfl⟩
 rw [e1];have e2:=Ph (lo':=λ _=>0) (hi':=λ _=>c) (ah:=λ _=>c) (lo:=λ i=>if i < b then lo.getD i 0 else 0) (hi:=λ i=>if i < b then min (hi.getD i 0) (ah i) else 0 - (0 - c)) (λ i=>by
  show 0<=if i < b then lo.getD i 0 else 0
  split
  ·rename_i h;exact h0 i h
  ·omega) (λ i=>by
  show (if i < b then min (hi.getD i 0) (ah i) else 0 - (0 - c))<=c;split
  ·rename_i h;have:=hc i h;omega
  ·omega) b
 rw [<- e2];unfold A7;apply Ki;intro q _;rw [Eb,AK];unfold E3 DX EN;simp only [jb1,jb8,AK,decide_eq_true_iff];constructor
 ·rintro ⟨h1,h2⟩ i hi;have a1:=h1 i hi;have a2:=h2 i hi;rw [if_pos hi,if_pos hi];omega
 ·intro h;refine ⟨λ i hi=>?_,λ i hi=>?_⟩
  ·have:=h i hi
   rw [if_pos hi,if_pos hi] at this;omega
  ·have:=h i hi
   rw [if_pos hi,if_pos hi] at this;omega
section
variable {a b:Nat}{c:Int}{low high:List (List Int)}
def gB (h0:∀ i j,i < a->j < b->0<=g low i j) (hc:∀ i j,i < a->j < b->g high i j<=c) {k:Nat} (hk:k < a) {ah:Nat->Int}:GP a b c (λ i=>low.getD i []) (λ i=>high.getD i []) (k + 1) ah=A1 (λ r=>GP a b c (λ i=>low.getD i []) (λ i=>high.getD i []) k (λ i=>r.getD i 0)) (Bs (g low (a - 1 - k)) (g high (a - 1 - k)) ah b):=by
 have e:=UG (b:=b) (c:=c) (lo:=low.getD (a - 1 - k) []) (hi:=high.getD (a - 1 - k) []) (ah:=ah) (λ i hi=>h0 _ i (by omega) hi) (λ i hi=>hc _ i (by omega) hi);show A1 _ _=A1 _ (Bs (λ i=>(low.getD (a - 1 - k) []).getD i 0) (λ i=>(high.getD (a - 1 - k) []).getD i 0) ah b);rw [<- e,<- M5];refine Ef λ r _=>?_;exact Za
theorem Yr (hcc:0<=c) (h0:∀ i j,i < a->j < b->0<=g low i j) (hc:∀ i j,i < a->j < b->g high i j<=c):∀ (k:Nat),k<=a->A1 (λ p=>GP a b c (λ i=>low.getD i []) (λ i=>high.getD i []) k (ES c p)) (B3 (g low) (g high) c b (a - k))=((B3 (g low) (g high) c b a).length:Int)
 | 0,_=>by
  rw [O1,<- Py];refine Ef λ p hp=>gC hcc λ i hi=>?_;unfold ES;cases a with
  | zero=>
   simp only [B3,jd0] at hp;subst hp;exact hcc
  | succ n=>
   have:=J6 hp
   rw [QR this.1.1];exact EF (h0 n i (by omega) hi) (this.2.1 n i (by omega) hi).1
 | k + 1,hk=>by
  have ih:=Yr hcc h0 hc k (by omega);rw [<- ih,show a - k=(a - (k + 1)) + 1 by omega,B3,P5];refine Ef λ p hp=>?_;rw [gB h0 hc (by omega),YJ,show a - 1 - k=a - (k + 1) by omega];refine Ef λ r _=>?_;congr 1;unfold ES;rw [ZT]
def UC (hcc:0<=c) (h0:∀ i j,i < a->j < b->0<=g low i j) (hc:∀ i j,i < a->j < b->g high i j<=c):(sumT (BS a b c (λ i=>low.getD i []) (λ i=>high.getD i []) (λ _=>[]) a) (A7 b c)).sum=((B3 (g low) (g high) c b a).length:Int):=by
 rw [K5,<- Yr hcc h0 hc a (A4 _),O2];show _=A1 _ [[]];rw [Du];show A1 (DE a b c _ _ a) (A7 b c)=GP a b c _ _ a (λ _=>c) + 0;unfold GP;rw [je9.mpr λ r hr=>?_]
 ·omega
 ·rw [jb1];intro i hi;rw [decide_eq_true_iff];exact (zqu.mp hr).hi i (jb8.mp hi)
end
def Xf_how_many_between:Fs:=(Ag (CF (Ap f_must_be_two_piles (Ad (Aa 0) (Ad (Aa 1) (Ad (Aa 2) (Ac))))))
 (Az (Ak CD (Ad (Ap f_tally_between (Ad (Aa 0) (Ad (Aa 1) (Ad (Aa 2) (Ad (Ak AW (Ac)) (Ac)))))) (Ac)))))
def f_how_many_between:Fn:=Au false 3 0 Xf_how_many_between
def WQ {a b:Nat}{h:Int->Int->Int}{t u:List (List Int)} (ht:Tab a b t) (hu:Tab a b u):Tab a b (zT h t u):=by
 refine ⟨by unfold zT;rw [AJ,Mc,ht.1,hu.1,Zj],λ r hr=>?_⟩;obtain ⟨z,hz,rfl⟩:=jc2.mp hr;rw [List.length_zipWith,ht.2 _ (Kg hz).1,hu.2 _ (Kg hz).2,Zj]
def Ip {a b:Nat}{h:Int->Int->Int}{t u:List (List Int)} (ht:Tab a b t) (hu:Tab a b u):zT h t u=C8 a b λ i j=>h (g t i j) (g u i j):=by
 refine MH (WQ ht hu) HA λ i j hi hj=>?_;rw [BY hi hj];have e1:(zT h t u).getD i []=S6 h (t.getD i []) (u.getD i []):=by
  unfold zT;rw [AN,CL,(qg (z:=(t.getD i [],u.getD i []))).mpr ⟨Jz (by rw [ht.1];exact hi),Jz (by rw [hu.1];exact hi)⟩];rfl
 show ((zT h t u).getD i []).getD j 0=_;rw [e1,AN,List.getElem?_zipWith,EZ (by rw [ht.row hi];exact hj),EZ (by rw [hu.row hi];exact hj)];rfl
section
variable {a b c:Nat}{t u l:List (List Int)}
def Ye (f:Int->Int->Int) (hf:∀ i j k m:Int,i<=k->j<=m->f i j<=f k m) (h0:∀ i j,f i j=i\/f i j=j) (p:Pile a b c t) (q:Pile a b c u):Pile a b c (zT f t u):=by
 refine ⟨WQ p.tab q.tab,λ x y hx hy=>?_,λ x y hx hy=>?_,λ x y hx hy=>?_,λ x y hx hy=>?_⟩
 ·rw [Ip p.tab q.tab,BY hx hy]
  have:=p.lo x y hx hy
  have:=q.lo x y hx hy
  rcases h0 (g t x y) (g u x y) with e | e <;> omega
 ·rw [Ip p.tab q.tab,BY hx hy]
  have:=p.hi x y hx hy
  have:=q.hi x y hx hy
  rcases h0 (g t x y) (g u x y) with e | e <;> omega
 ·rw [Ip p.tab q.tab,BY hx hy,BY (by omega) hy];exact hf _ _ _ _ (p.dn x y hx hy) (q.dn x y hx hy)
 ·rw [Ip p.tab q.tab,BY hx hy,BY hx (by omega)];exact hf _ _ _ _ (p.rt x y hx hy) (q.rt x y hx hy)
end
section
variable {a b c:Nat}{t u l:List (List Int)}
def dg (p:Pile a b c t) (q:Pile a b c u) (ha:1<=a/\a<=30) (hb:1<=b/\b<=30) (hc:1<=c/\c<=1000):f_must_be_two_piles [bx a b c,tb t,tb u]=.ok (.non,om,.non):=
 vb (UD p.tab (by omega) (by omega) (by omega) ((UY p.tab).mpr p)) (UD q.tab (by omega) (by omega) (by omega) ((UY q.tab).mpr q))
end
theorem MF {α:Type}{f:α->Int}{m:Int} (hm:0<=m):∀ {l:List α},(∀ x∈l,f x<=m)->A1 f l<=l.length * m
 | [],_=>by simp [A1]
 | x::l,h=>by
  have h1:=h x AM;have h2:=MF hm (l:=l) λ y hy=>h y (AO _ hy);rw [Du,B8,SE,Zh];omega
def xi {α:Type}{p:α->Bool}{l:List α}{m:Int} (hm:0<=m):((l.filter p).length:Int) * m<=(l.length:Int) * m:=Int.mul_le_mul_of_nonneg_right (by have:=OE p l;omega) hm
theorem RQ {a b:Nat}{c:Int}{lo hi:Nat->List Int}:∀ (k:Nat) (r:List Int),0<=DE a b c lo hi k r/\DE a b c lo hi k r<=(((A7 b c).length ^ k:Nat):Int)
 | 0,r=>by
  show 0<=(C6 r).sum/\(C6 r).sum<=_;unfold C6;split <;> simp
 | k + 1,r=>by
  rw [Za];have ih:=RQ (a:=a) (b:=b) (c:=c) (lo:=lo) (hi:=hi) k;split
  ·unfold GP;refine ⟨UB λ q _=>(ih q).1,EF (MF (m:=(((A7 b c).length ^ k:Nat):Int)) (by omega) λ q _=>(ih q).2) ?_⟩;rw [LU,FD,Gb];exact xi (by omega)
  ·omega
theorem bw {l:List Int} (h1:l.length<=1) (h2:0<=l.sum/\l.sum<=2 ^ 40):Eh l=true:=by
 unfold Eh;rw [AK,decide_eq_true_iff,jb1];refine ⟨by omega,λ x hx=>?_⟩
 match l,h1,h2,hx with
 | [y],_,h2,hx=>
  rw [jd0.mp hx];simp at h2;rw [AK,decide_eq_true_iff,decide_eq_true_iff];omega
structure BoxN (a b c:Nat):Prop where
 box:BoxT a b c
 hc:1<=c
 bd:(A7 b c).length ^ (a + 1)<=2 ^ 40
 ab:a<=30/\b<=30
section
variable {a b c:Nat}{low high:List (List Int)}
def TN (a b c:Nat) (low high:List (List Int)) (k:Nat) (r:List Int):List Int:=BS a b c (λ i=>low.getD i []) (λ i=>high.getD i []) (λ _=>[]) k r
def jv (k:Nat) {r:List Int} (hr:r∈A7 b c):(TN a b c low high k r).length<=1:=by
 have:=K6 (a:=a) (b:=b) (c:=c) (lo:=λ i=>low.getD i []) (hi:=λ i=>high.getD i []) (ct:=λ _=>[]) (m:=0) (λ _=>A4 _) (λ _ j hj=>by cases hj) k r hr
 rw [Nat.zero_mul,Nat.mul_zero] at this;exact this
def Y6 (N:BoxN a b c) (p:Pile a b c low) (q:Pile a b c high):f_must_be_two_piles [bx a b c,tb low,tb high]=.ok (.non,om,.non):=by
 have h1:=N.box.ha;have h2:=N.box.hb;have h3:=N.box.hc;have h4:=N.hc;have h5:=N.ab;exact dg p q (by omega) (by omega) (by omega)
def Yt (N:BoxN a b c) (p:Pile a b c low) (q:Pile a b c high):f_how_many_between [bx a b c,tb low,tb high]=.ok (.int ((B3 (g low) (g high) c b a).length:Int),om,.non):=by
 have t:=YN N.box p.tab q.tab (ps:=[]) (λ z hz=>by cases hz) (m:=0) (λ i=>A4 _) (by omega) (by simp);have e:(BX a b c low high []).sum=((B3 (g low) (g high) c b a).length:Int):=UC (by omega) p.lo q.hi;have hl:(BX a b c low high []).length<=1:=Ii λ r hr=>jv a hr;have hs:(BX a b c low high []).sum<=2 ^ 40:=by
  unfold BX;rw [K5];have h1:=MF (f:=DE a b c (λ i=>low.getD i []) (λ i=>high.getD i []) a) (m:=(((A7 b c).length ^ a:Nat):Int)) (by omega) (l:=A7 b c) λ r _=>(RQ a r).2;have h2:(((A7 b c).length ^ (a + 1):Nat):Int)<=((2 ^ 40:Nat):Int):=by exact_mod_cast N.bd
  rw [LU,FD,Gb] at h2;exact EF h1 (EF h2 (by decide))
 have so:Eh (BX a b c low high [])=true:=bw hl ⟨by rw [e];omega,hs⟩;rw [<- e];have v1:CF (Ap f_must_be_two_piles (Ad (Aa 0) (Ad (Aa 1) (Ad (Aa 2) (Ac))))) [some (bx a b c,0),some (tb low,0),some (tb high,0)]=.nx [some (bx a b c,0),some (tb low,0),some (tb high,0)]:=GF (AE (xs:=[(bx a b c,0),(tb low,0),(tb high,0)]) rfl (Y6 N p q));exact BB rfl ((Be v1).trans (BN (Io (AF (AE (xs:=[(bx a b c,0),(tb low,0),(tb high,0),(.lst [],om)]) rfl t)) so)))
def HC (b:Nat) (ah:Nat->Int) (q:List Int):Bool:=(Ay b).all λ i=>decide (q.getD i 0<=ah i)
end
def Xf_is_place:Fs:=(Ag (Bm (bT (Bz (AQ Co (Ap f_is_whole_number (Ad (Aa 1) (Ac)))) (AQ Co (Ap f_is_whole_number (Ad (Aa 2) (Ac)))))) (Az (bC (.bl false))) AB)
 (Az (CW (E5 (λ i j=>decide (i<=j)) (λ i j=>decide (i < j)) (bC (.int 0)) (Aa 1) (Ab An (Aa 0) (bC (.int 0)))) (E5 (λ i j=>decide (i<=j)) (λ i j=>decide (i < j)) (bC (.int 0)) (Aa 2) (Ab An (Aa 0) (bC (.int 1)))))))
def f_is_place:Fn:=Au false 3 0 Xf_is_place
def Xd_mixed:Fs:=(Ag (Bm (bT (Ab (B1 λ i j=>decide (j<=i)) (Aa 0) (Ab LF (bC (.int 10)) (bC (.int 18))))) (DY 0) AB)
 (Ag (Aj false 2 (Ab C7 (Ab AG (Ab AG (Ab AG (Ab AR (Aa 0) (bC (.int 48271))) (Ab AR (Ab AR (bC (.int 7919)) (Aa 1)) (Aa 1))) (Ab AR (bC (.int 104729)) (Aa 1))) (bC (.int 29))) (bC (.int 2147483647))) [0,1,1,1])
 (Ag (Aj false 2 (Ab C7 (Ab AR (Aa 2) (Aa 2)) (bC (.int 2147483629))) [2,2])
 (Az (Ab AG (Ab AG (Ab AR (Ab AR (Aa 2) (Aa 2)) (Aa 2)) (Ab AR (bC (.int 1000003)) (Aa 2))) (Aa 1))))))
def d_mixed:Fn:=Au false 2 1 Xd_mixed
def Xd_box:Fs:=(Az (Ak AX (Ad (Ab AG (bC (.int 1)) (Ab C7 (Aa 0) (Aa 1))) (Ad (Ab AG (bC (.int 1)) (Ab C7 (Ab DB (Aa 0) (Aa 1)) (Aa 2))) (Ad (Ab AG (bC (.int 1)) (Ab C7 (Ab DB (Aa 0) (Ab AR (Aa 1) (Aa 2))) (Aa 3))) (Ac))))))
def d_box:Fn:=Au false 4 0 Xd_box
def Xd_pile:Fs:=(Ag (B4 (asgT [2,3,4]) (Aa 0) [0])
 (Ag (Aj false 5 (Ak AW (Ac)) [])
 (Ag (Eg Bl (Ad (Aa 2) (Ac)) (asgN 6) (Ag (Aj false 7 (Ak AW (Ac)) [])
 (Ag (Eg Bl (Ad (Aa 3) (Ac)) (asgN 8) (Ag (Aj false 9 (Aa 4) [4])
 (Ag (Bm (bT (Ab (B1 λ i j=>decide (j < i)) (Aa 6) (bC (.int 0)))) (Aj false 9 (Ab An (Ab An (Aa 5) (Ab BH (Aa 6) (bC (.int 1)))) (Aa 8)) [5,6,8]) AB)
 (Ag (Bm (bT (Ab (B1 λ i j=>decide (j < i)) (Aa 8) (bC (.int 0)))) (Aj false 9 (Ak IM (Ad (Aa 9) (Ad (Ab An (Aa 7) (Ab BH (Aa 8) (bC (.int 1)))) (Ac)))) [9,7,8]) AB)
 (Ag (Cf 7 (Ab BH (Aa 9) (Ak IM (Ad (Aa 9) (Ad (Ab An (Ak AW (Ad (bC (.int 0)) (Ad (bC (.int 1)) (Ad (bC (.int 0)) (Ad (bC (.int 2)) (Ad (Ab C7 (Aa 1) (Ab AG (Aa 4) (bC (.int 1)))) (Ac))))))) (Ab C7 (Ab DB (Aa 1) (bC (.int 9))) (bC (.int 5)))) (Ac))))) [9,9,1,4,1])
 (Aj false 1 (Ab AG (Ab DB (Aa 1) (bC (.int 45))) (Ab C7 (Ab AR (bC (.int 13)) (Aa 1)) (bC (.int 1009)))) [1,1]))))))
 (Cf 5 (Aa 7) [7]))))
 (DY 5))))
def d_pile:Fn:=Au false 2 8 Xd_pile
open QQ
section
variable {hs:List C3}{a b c:Nat}
def Pile.anti {c:Int}{p:List (List Int)} (h:Pile a b c p):∀ {i j i' j':Nat},i<=i'->j<=j'->i' < a->j' < b->g p i' j'<=g p i j:=by
 intro i j i' j' h1 h2 h3 h4;have e1:∀ k,i + k < a->∀ j,j < b->g p (i + k) j<=g p i j:=by
  intro k;induction k with
  | zero=>intro _ j _;exact C5 _
  | succ k ih=>intro hk j hj;exact EF (h.dn (i + k) j hk hj) (ih (by omega) j hj)
 have e2:∀ k,j + k < b->g p i (j + k)<=g p i j:=by
  intro k;induction k with
  | zero=>intro _;exact C5 _
  | succ k ih=>intro hk;exact EF (h.rt i (j + k) (by omega) hk) (ih (by omega))
 have k1:=e1 (i' - i) (by omega) j' h4;have k2:=e2 (j' - j) (by omega);rw [show i + (i' - i)=i' by omega] at k1;rw [show j + (j' - j)=j' by omega] at k2;omega
def bU {lo hi:Nat->Nat->Int}{p:List (List Int)}:Gw lo hi b a p=true↔∀ i j,i < a->j < b->lo i j<=g p i j/\g p i j<=hi i j:=by
 unfold Gw DX EN;simp only [jb1,jb8,AK,decide_eq_true_iff];exact ⟨λ h i j hi hj=>h i hi j hj,λ h i hi j hj=>h i j hi hj⟩
def zF:Nat->Nat->Int:=λ _ _=>0
def cF (c:Nat):Nat->Nat->Int:=λ _ _=>(c:Int)
end
def uR (c:Int) (k:Nat) (hk:k<=1000):∃ l:Int,d_mixed [.int c,.int k]=.ok (.int l,om,.non):=by
 let R (s:QQ.Slot):Af:=[some (.int c,om),some (.int (k:Int),om),s]
 have hp:Ab LF (bC (.int 10)) (bC (.int 18)) (R none)=.ok (.int (10 ^ 18),om,R none):=rfl;by_cases h:c ≥ 10 ^ 18
 ·have hc:bT (Ab (B1 λ i j=>decide (j<=i)) (Aa 0) (Ab LF (bC (.int 10)) (bC (.int 18)))) (R none)=.ok (true,R none):=by
   have:=AH (ET (p:=λ i j=>decide (j<=i)) (f:=Aa 0) (ρ:=R none) (i:=c) (d:=om) rfl hp)
   rw [this,decide_eq_true h]
  exact ⟨c,BB rfl (JE ((Dj hc).trans rfl))⟩
 ·have hc:bT (Ab (B1 λ i j=>decide (j<=i)) (Aa 0) (Ab LF (bC (.int 10)) (bC (.int 18)))) (R none)=.ok (false,R none):=by
   have:=AH (ET (p:=λ i j=>decide (j<=i)) (f:=Aa 0) (ρ:=R none) (i:=c) (d:=om) rfl hp)
   rw [this,decide_eq_false h]
  have e1:Ab C7 (Ab AG (Ab AG (Ab AG (Ab AR (Aa 0) (bC (.int 48271))) (Ab AR (Ab AR (bC (.int 7919)) (Aa 1)) (Aa 1))) (Ab AR (bC (.int 104729)) (Aa 1))) (bC (.int 29))) (bC (.int 2147483647)) (R none)=.ok (.int ((c * 48271 + 7919 * (k:Int) * (k:Int) + 104729 * (k:Int) + 29) % 2147483647),om,R none):=
   E7 (ER (ER (ER (Dr (d:=om) (e:=om) rfl rfl (.inr (by decide))) (Dr (e:=om) (Dr (d:=om) (e:=om) (j:=(k:Int)) rfl rfl (.inl (by decide))) rfl (.inr (by omega)))) (Dr (d:=om) (e:=om) (j:=(k:Int)) rfl rfl (.inl (by decide)))) (e:=om) rfl) (e:=om) rfl (by decide)
  generalize hn:(c * 48271 + 7919 * (k:Int) * (k:Int) + 104729 * (k:Int) + 29) % 2147483647=n at e1;have b1:0<=n/\n < 2147483647:=by omega
  have e2:Ab C7 (Ab AR (Aa 2) (Aa 2)) (bC (.int 2147483629)) (R (some (.int n,om)))=.ok (.int (n * n % 2147483629),om,R (some (.int n,om))):=E7 (Dr (d:=om) (e:=om) (i:=n) (j:=n) rfl rfl (.inl (by omega))) (e:=om) rfl (by decide);generalize hm:n * n % 2147483629=m at e2;have b2:0<=m/\m < 2147483629:=by omega
  have e3:Ab AG (Ab AG (Ab AR (Ab AR (Aa 2) (Aa 2)) (Aa 2)) (Ab AR (bC (.int 1000003)) (Aa 2))) (Aa 1) (R (some (.int m,om)))=.ok (.int (m * m * m + 1000003 * m + (k:Int)),om,R (some (.int m,om))):=
   ER (e:=om) (ER (Dr (e:=om) (Dr (d:=om) (e:=om) (i:=m) (j:=m) rfl rfl (.inl (by omega))) rfl (.inr (by omega))) (Dr (d:=om) (e:=om) (j:=m) rfl rfl (.inl (by decide)))) rfl
  exact ⟨_,BB rfl ((Fw hc).trans ((Be (setF e1 (show 2 < 3 by decide) rfl)).trans ((Be (setF e2 (show 2 < 3 by decide) rfl)).trans (BN e3))))⟩
def R6 {i:Int} (h:0<=i):∃ n:Nat,i=(n:Int):=⟨i.toNat,by omega⟩
def TJ (l:Int) {r s t:Int} (hr:1<=r/\r<=6) (hs:1<=s/\s<=6) (ht:1<=t/\t<=6):∃ x y z:Nat,(1<=x/\(x:Int)<=r)/\(1<=y/\(y:Int)<=s)/\(1<=z/\(z:Int)<=t)/\d_box [.int l,.int r,.int s,.int t]=.ok (bx x y z,om,.non):=by
 let R:Af:=[some (.int l,om),some (.int r,om),some (.int s,om),some (.int t,om)]
 have q1:=O6 l (show r≠0 by omega);have q2:=SO l (show 0 < r by omega);have q3:=O6 (l / r) (show s≠0 by omega);have q4:=SO (l / r) (show 0 < s by omega);have q5:=O6 (l / (r * s)) (show t≠0 by omega);have q6:=SO (l / (r * s)) (show 0 < t by omega);have rs0:0 < r * s:=Int.mul_pos (by omega) (by omega);have rs1:r * s<=6 * 6:=S9 hr.2 hs.2 (by omega) (by omega);obtain ⟨x,hx⟩:=R6 (i:=1 + l % r) (by omega);obtain ⟨y,hy⟩:=R6 (i:=1 + l / r % s) (by omega);obtain ⟨z,hz⟩:=R6 (i:=1 + l / (r * s) % t) (by omega);refine ⟨x,y,z,by omega,by omega,by omega,?_⟩;have e1:Ab AG (bC (.int 1)) (Ab C7 (Aa 0) (Aa 1)) R=.ok (.int (1 + l % r),om,R):=ER (d:=om) rfl (E7 (i:=l) (d:=om) (e:=om) rfl rfl (by omega));have e2:Ab AG (bC (.int 1)) (Ab C7 (Ab DB (Aa 0) (Aa 1)) (Aa 2)) R=.ok (.int (1 + l / r % s),om,R):=ER (d:=om) rfl (E7 (FL (i:=l) (d:=om) (e:=om) rfl rfl (by omega) (by omega)) (e:=om) rfl (by omega));have e3:Ab AG (bC (.int 1)) (Ab C7 (Ab DB (Aa 0) (Ab AR (Aa 1) (Aa 2))) (Aa 3)) R=.ok (.int (1 + l / (r * s) % t),om,R):=ER (d:=om) rfl (E7 (FL (i:=l) (d:=om) (e:=om) rfl (Dr (i:=r) (j:=s) (d:=om) (e:=om) rfl rfl (.inl (by omega))) (by omega) (by omega)) (e:=om) rfl (by omega));rw [hx] at e1;rw [hy] at e2;rw [hz] at e3;exact BB rfl (BN (Cw (A6 e1 (A6 e2 (AF e3))) rfl))
section
variable {a b c:Nat}{hs:List C3}
def u6 {i j:Nat} (hi:i < a) (hj:j < b):f_is_place [bx a b c,.int (i:Int),.int (j:Int)]=.ok (.bl true,om,.non):=by
 let R:Af:=[some (bx a b c,0),some (.int (i:Int),om),some (.int (j:Int),om)]
 have w:∀ n:Int,f_is_whole_number [.int n]=.ok (.bl true,om,.non):=whole_ok;have t1:bT (Bz (AQ Co (Ap f_is_whole_number (Ad (Aa 1) (Ac)))) (AQ Co (Ap f_is_whole_number (Ad (Aa 2) (Ac))))) R=.ok (false,R):=AH (Rc (a:=false) (b:=false) (Gs (b:=true) (AE (xs:=[(.int (i:Int),om)]) rfl (w _))) (λ _=>Gs (b:=true) (AE (xs:=[(.int (j:Int),om)]) rfl (w _))) rfl);have k1:=Kr (p:=λ i j=>decide (i<=j)) (q:=λ i j=>decide (i < j)) (f:=bC (.int 0)) (g:=Aa 1) (h:=Ab An (Aa 0) (bC (.int 0))) (ρ:=R) (i:=0) (j:=(i:Int)) (k:=(a:Int)) (d:=om) (e:=om) (c:=om) rfl rfl rfl;have k2:=Kr (p:=λ i j=>decide (i<=j)) (q:=λ i j=>decide (i < j)) (f:=bC (.int 0)) (g:=Aa 2) (h:=Ab An (Aa 0) (bC (.int 1))) (ρ:=R) (i:=0) (j:=(j:Int)) (k:=(b:Int)) (d:=om) (e:=om) (c:=om) rfl rfl rfl;rw [decide_eq_true (show (0:Int)<=i by omega),decide_eq_true (show (i:Int) < a by omega)] at k1;rw [decide_eq_true (show (0:Int)<=j by omega),decide_eq_true (show (j:Int) < b by omega)] at k2;exact BB rfl ((Fw t1).trans (BN (Og (a:=true) (b:=true) k1 (λ _=>k2) rfl)))
end
structure HV (L:List (Option PV)) (O:List Nat) (ρ:Af):Prop where
 len:ρ.length=L.length
 get:∀ (j:Nat) (x:PV),L[j]?=some (some x)->∃ d,ρ[j]?=some (some (x,d))
 own:∀ j∈O,∃ x d,ρ[j]?=some (some (x,d))/\d≠0
section
variable {L L':List (Option PV)}{O O':List Nat}{ρ:Af}
theorem HV.of (ρ:Af):HV (ρ.map λ s=>s.map (·.1)) [] ρ:=by
 refine ⟨by rw [AJ],λ j x h=>?_,λ _ h=>nomatch h⟩;rw [CL] at h;cases e:ρ[j]? with
 | none=>rw [e] at h;cases h
 | some s=>
  rw [e] at h;cases s with
  | none=>cases h
  | some p=>obtain ⟨y,d⟩:=p;cases h;exact ⟨d,rfl⟩
def HV.var {j:Nat}{x:PV} (h:HV L O ρ) (e:L[j]?=some (some x)):Aa j ρ=.ok (x,dv x,ρ):=by
 obtain ⟨d,e⟩:=h.get j x e;unfold Aa;rw [e]
def HV.push {x:PV}{d:Nat} (h:HV L O ρ):HV (L++[some x]) O (ρ++[some (x,d)]):=by
 have hl:=h.len;refine ⟨by rw [Br,Br,hl];rfl,λ j y e=>?_,λ j hj=>?_⟩
 ·by_cases hj:j < L.length
  ·rw [C9 hj] at e;obtain ⟨d,e⟩:=h.get j y e;exact ⟨d,by rw [C9 (by omega)];exact e⟩
  ·rw [FG (by omega)] at e;rw [FG (by omega),hl];cases hk:j - L.length with
   | zero=>rw [hk] at e;cases e;exact ⟨d,rfl⟩
   | succ n=>rw [hk] at e;cases e
 ·obtain ⟨y,d,e,hd⟩:=h.own j hj;exact ⟨y,d,by rw [C9 (jb0.mp e).1];exact e,hd⟩
def Wk:List (Option PV)->List (Option PV)->Prop
 | [],[]=>True
 | none::a,_::b=>Wk a b
 | some x::a,some y::b=>x=y/\Wk a b
 | _,_=>False
theorem Wk.get:∀ {a b:List (Option PV)},Wk a b->a.length=b.length/\∀ (j:Nat) (x:PV),a[j]?=some (some x)->b[j]?=some (some x)
 | [],[],_=>⟨rfl,λ j x h=>by cases h⟩
 | none::a,y::b,h=>by
  obtain ⟨h1,h2⟩:=Wk.get (a:=a) (b:=b) (by cases y <;> exact h);refine ⟨by rw [B8,B8,h1],λ j x e=>?_⟩;cases j with
  | zero=>cases e
  | succ j=>exact h2 j x e
 | some x::a,some y::b,h=>by
  obtain ⟨h0,h⟩:x=y/\Wk a b:=h;obtain ⟨h1,h2⟩:=Wk.get h;refine ⟨by rw [B8,B8,h1],λ j z e=>?_⟩;cases j with
  | zero=>rw [<- h0];exact e
  | succ j=>exact h2 j z e
 | some x::a,none::b,h=>h.elim
 | [],_::_,h=>h.elim
 | some _::_,[],h=>h.elim
 | none::_,[],h=>h.elim
def HV.weak (h:HV L O ρ) (w:Wk L' L) (ho:∀ j∈O',j∈O):HV L' O' ρ:=⟨h.len.trans w.get.1.symm,λ j x e=>h.get j x (w.get.2 j x e),λ j hj=>h.own j (ho j hj)⟩
def Ys {d j e:Nat}{vs:List Nat}{x:PV} (h:ρ[j]?=some (some (x,e))):∃ e',(Bb d vs ρ)[j]?=some (some (x,e')):=by
 unfold Bb;split
 ·exact ⟨e,h⟩
 ·rw [Ik,h];dsimp only [Option.map];split
  ·exact ⟨0,rfl⟩
  ·exact ⟨e,rfl⟩
def Xz {d:Nat}{vs:List Nat}{ρ:Af}:(Bb d vs ρ).length=ρ.length:=by
 unfold Bb;split
 ·rfl
 ·exact MM vs ρ 0
def HV.cool {d:Nat}{vs:List Nat} (h:HV L O ρ):HV L [] (Bb d vs ρ):=⟨by rw [Xz];exact h.len,λ j x e=>by
 obtain ⟨d',e⟩:=h.get j x e;exact Ys e,λ _ h=>nomatch h⟩
def HV.coolO {vs:List Nat} (h:HV L O ρ):HV L O (Bb om vs ρ):=by
 unfold Bb;rw [if_pos rfl];exact h
def HV.put {i d:Nat}{x:PV} (h:HV L O ρ) (hi:i < L.length) (ho:i∉O\/d≠0):HV (L.set i (some x)) O (ρ.set i (some (x,d))):=by
 have hl:=h.len;refine ⟨by rw [EI,EI,hl],λ j y e=>?_,λ j hj=>?_⟩
 ·by_cases hj:i=j
  ·subst hj;rw [Gh hi] at e;cases e;exact ⟨d,Gh (by omega)⟩
  ·rw [Gf hj] at e;rw [Gf hj];exact h.get j y e
 ·by_cases hij:i=j
  ·subst hij;rcases ho with ho | ho
   ·exact absurd hj ho
   ·exact ⟨x,d,Gh (by omega),ho⟩
  ·rw [Gf hij];exact h.own j hj
def HV.putO {i d:Nat}{x:PV} (h:HV L O ρ) (hi:i < L.length) (hd:d≠0):HV (L.set i (some x)) (i::O) (ρ.set i (some (x,d))):=by
 have h1:=h.put (x:=x) (d:=d) hi (.inr hd);refine ⟨h1.len,h1.get,λ j hj=>?_⟩;rcases jb9.mp hj with rfl | hj
 ·exact ⟨x,d,Gh (by rw [h.len];exact hi),hd⟩
 ·exact h1.own j hj
def HV.set {i d:Nat}{f:Fx}{vs:List Nat}{x:PV} (h:HV L O ρ) (hf:f ρ=.ok (x,d,ρ)) (hi:i < L.length):∃ ρ',Aj false i f vs ρ=.nx ρ'/\HV (L.set i (some x)) [] ρ':=⟨_,setF hf (by rw [h.len];exact hi) rfl,(h.cool).put hi (.inl (λ h=>nomatch h))⟩
def HV.setO {i:Nat}{f:Fx}{vs:List Nat}{x:PV} (h:HV L O ρ) (hf:f ρ=.ok (x,om,ρ)) (hi:i < L.length):∃ ρ',Aj false i f vs ρ=.nx ρ'/\HV (L.set i (some x)) O ρ':=⟨_,setF hf (by rw [h.len];exact hi) rfl,(h.coolO).put hi (.inr (by decide))⟩
def HV.setN {i:Nat}{f:Fx}{vs:List Nat}{x:PV} (h:HV L O ρ) (hf:f ρ=.ok (x,om,ρ)) (hi:i < L.length):∃ ρ',Aj false i f vs ρ=.nx ρ'/\HV (L.set i (some x)) (i::O) ρ':=⟨_,setF hf (by rw [h.len];exact hi) rfl,(h.coolO).putO hi (by decide)⟩
def HV.app {i:Nat}{f:Fx}{vs:List Nat}{xs:List PV}{y:PV} (h:HV L O ρ) (hx:L[i]?=some (some (.lst xs))) (ho:i∈O) (hf:f ρ=.ok (y,om,ρ)) (hl:xs.length < Aw):∃ ρ',Cf i f vs ρ=.nx ρ'/\HV (L.set i (some (.lst (xs++[y])))) O ρ':=by
 obtain ⟨x,d,e,hd⟩:=h.own i ho;obtain ⟨d',e'⟩:=h.get i _ hx;rw [e] at e';cases e';obtain ⟨d0,rfl⟩:∃ d0,d=d0 + 1:=⟨d - 1,by omega⟩
 have hi:i < L.length:=(jb0.mp hx).1;have c:Bb om vs ρ=ρ:=by unfold Bb;rw [if_pos rfl]
 exact ⟨_,Rn (d:=d0 + 1) e hf (by rw [c];exact e) hd hl rfl,by rw [c];exact h.put hi (.inr (by split <;> decide))⟩
def HV.asgN {i:Nat} (x:PV) (h:HV L O ρ) (hi:i < L.length) (ho:i∉O):∃ ρ',asgN i x ρ=some ρ'/\HV (L.set i (some x)) O ρ':=by
 refine ⟨_,?_,h.put (x:=x) (d:=dv x) hi (.inl ho)⟩;unfold QQ.asgN;rw [if_pos (by rw [h.len];exact hi)]
def HV.asg3 {i j k:Nat} (x y z:PV) (h:HV L O ρ) (hi:i < L.length) (hj:j < L.length) (hk:k < L.length) (ho:i∉O/\j∉O/\k∉O):∃ ρ',asgT [i,j,k] (.tup [x,y,z]) ρ=some ρ'/\HV (((L.set i (some x)).set j (some y)).set k (some z)) O ρ':=by
 have hl:=h.len;refine ⟨((ρ.set i (some (x,dv x))).set j (some (y,dv y))).set k (some (z,dv z)),?_,((h.put hi (.inl ho.1)).put (by rw [EI];exact hj) (.inl ho.2.1)).put (by rw [EI,EI];exact hk) (.inl ho.2.2)⟩;unfold QQ.asgT;dsimp only;rw [B0,QQ.asgN,if_pos (by omega)];show B0 [j,k] [y,z] _=_;rw [B0,QQ.asgN,if_pos (by rw [EI];omega)];show B0 [k] [z] _=_;rw [B0,QQ.asgN,if_pos (by rw [EI,EI];omega)];rfl
def HV.asg2 {i j:Nat} (x y:PV) (h:HV L O ρ) (hi:i < L.length) (hj:j < L.length) (ho:i∉O/\j∉O):∃ ρ',asgT [i,j] (.tup [x,y]) ρ=some ρ'/\HV ((L.set i (some x)).set j (some y)) O ρ':=by
 have hl:=h.len;refine ⟨(ρ.set i (some (x,dv x))).set j (some (y,dv y)),?_,(h.put hi (.inl ho.1)).put (by rw [EI];exact hj) (.inl ho.2)⟩;unfold QQ.asgT;dsimp only;rw [B0,QQ.asgN,if_pos (by omega)];show B0 [j] [y] _=_;rw [B0,QQ.asgN,if_pos (by rw [EI];omega)];rfl
theorem Sb {asg:PV->Af->Option Af}{body:Fs}:∀ (els:List PV) (I:Nat->Af->Prop) (ρ:Af),I 0 ρ->(∀ j x ρ,els[j]?=some x->I j ρ->∃ ρ1 ρ2,asg x ρ=some ρ1/\body ρ1=.nx ρ2/\I (j + 1) ρ2)->∃ ρ',Ck asg body els ρ=.nx ρ'/\I els.length ρ'
 | [],I,ρ,h0,_=>⟨ρ,rfl,h0⟩
 | x::els,I,ρ,h0,hs=>by
  obtain ⟨ρ1,ρ2,e1,e2,h2⟩:=hs 0 x ρ rfl h0;obtain ⟨ρ',e,h⟩:=Sb els (λ j=>I (j + 1)) ρ2 h2 λ j y ρ hj=>hs (j + 1) y ρ hj;exact ⟨ρ',by rw [Ck,e1];dsimp only;rw [e2];exact e,h⟩
def HV.coolK {d:Nat}{vs:List Nat} (h:HV L O ρ) (hv:∀ j∈O,vs.contains j=false):HV L O (Bb d vs ρ):=⟨by rw [Xz];exact h.len,λ j x e=>by
 obtain ⟨d',e⟩:=h.get j x e;exact Ys e,λ j hj=>by
 obtain ⟨x,d',e,hd⟩:=h.own j hj;refine ⟨x,d',?_,hd⟩;unfold Bb;split
 ·exact e
 ·rw [Ik,Hq,hv j hj,e];rfl⟩
def HV.setK {i d:Nat}{f:Fx}{vs:List Nat}{x:PV} (h:HV L O ρ) (hf:f ρ=.ok (x,d,ρ)) (hi:i < L.length) (hv:∀ j∈O,vs.contains j=false) (ho:i∉O):∃ ρ',Aj false i f vs ρ=.nx ρ'/\HV (L.set i (some x)) O ρ':=⟨_,setF hf (by rw [h.len];exact hi) rfl,(h.coolK hv).put hi (.inl ho)⟩
def Gv (s:Fs) (ρ:Af) (y:PV):Prop:=∃ d ρ',s ρ=.rt y d ρ'
def Gv.nx {s r:Fs}{ρ1:Af}{y:PV} (e:s ρ=.nx ρ1) (h:Gv r ρ1 y):Gv (Ag s r) ρ y:=by
 obtain ⟨d,ρ',h⟩:=h;exact ⟨d,ρ',(Be e).trans h⟩
def Gv.ex {s r:Fs}{P:Af->Prop}{y:PV} (e:∃ ρ1,s ρ=.nx ρ1/\P ρ1) (h:∀ ρ1,P ρ1->Gv r ρ1 y):Gv (Ag s r) ρ y:=by
 obtain ⟨ρ1,e,p⟩:=e;exact Gv.nx e (h ρ1 p)
def Gv.no {c:Fb}{f r:Fs}{y:PV} (hc:c ρ=.ok (false,ρ)) (h:Gv r ρ y):Gv (Ag (Bm c f AB) r) ρ y:=by
 obtain ⟨d,ρ',h⟩:=h;exact ⟨d,ρ',(Fw hc).trans h⟩
def Gv.ret {f:Fx}{ρ1:Af}{d:Nat}{y:PV} (h:f ρ=.ok (y,d,ρ1)):Gv (Az f) ρ y:=⟨_,_,BN h⟩
def Gv.fn {np k:Nat}{b:Fs}{xs:List PV}{y:PV} (hl:xs.length=np) (h:Gv b (xs.map (λ x=>some (x,dv x))++A9 k none) y):∃ d z,Au false np k b xs=.ok (y,d,z):=by
 obtain ⟨d,ρ',h⟩:=h;exact ⟨_,_,BB hl h⟩
def HV.unp3 {i j k:Nat}{f:Fx}{vs:List Nat}{x y z:PV}{d:Nat} (h:HV L O ρ) (hf:f ρ=.ok (.tup [x,y,z],d,ρ)) (hi:i < L.length) (hj:j < L.length) (hk:k < L.length):∃ ρ',B4 (asgT [i,j,k]) f vs ρ=.nx ρ'/\HV (((L.set i (some x)).set j (some y)).set k (some z)) [] ρ':=by
 obtain ⟨ρ',e,h'⟩:=(h.cool (d:=d) (vs:=vs)).asg3 x y z hi hj hk ⟨λ h=>(nomatch h),λ h=>(nomatch h),λ h=>(nomatch h)⟩;exact ⟨ρ',vR hf e,h'⟩
def HV.appK {i e:Nat}{f:Fx}{vs:List Nat}{xs:List PV}{y:PV} (h:HV L O ρ) (hx:L[i]?=some (some (.lst xs))) (ho:i∈O) (hv:vs.contains i=false) (hf:f ρ=.ok (y,e,ρ)) (hl:xs.length < Aw):∃ ρ',Cf i f vs ρ=.nx ρ'/\HV (L.set i (some (.lst (xs++[y])))) [i] ρ':=by
 obtain ⟨x,d,e0,hd⟩:=h.own i ho;obtain ⟨d',e'⟩:=h.get i _ hx;rw [e0] at e';cases e';obtain ⟨d0,rfl⟩:∃ d0,d=d0 + 1:=⟨d - 1,by omega⟩
 have hi:i < L.length:=(jb0.mp hx).1;have c:(Bb e vs ρ)[i]?=some (some (.lst xs,d0 + 1)):=by
  unfold Bb;split
  ·exact e0
  ·rw [Ik,Hq,hv,e0];rfl
 exact ⟨_,Rn (d:=d0 + 1) e0 hf c hd hl rfl,(h.cool (d:=e) (vs:=vs)).putO hi (by split <;> decide)⟩
def Nx (s:Fs) (ρ:Af) (P:Af->Prop):Prop:=∃ ρ',s ρ=.nx ρ'/\P ρ'
section
variable {P Q:Af->Prop}{s r:Fs}
def Nx.seq (h:Nx s ρ P) (k:∀ ρ',P ρ'->Nx r ρ' Q):Nx (Ag s r) ρ Q:=by
 obtain ⟨ρ1,e,p⟩:=h;obtain ⟨ρ2,e2,q⟩:=k ρ1 p;exact ⟨ρ2,(Be e).trans e2,q⟩
def Nx.mono (h:Nx s ρ P) (k:∀ ρ',P ρ'->Q ρ'):Nx s ρ Q:=by
 obtain ⟨ρ1,e,p⟩:=h;exact ⟨ρ1,e,k ρ1 p⟩
def Nx.yes {c:Fb} (hc:c ρ=.ok (true,ρ)) (h:Nx s ρ P):Nx (Bm c s r) ρ P:=by
 obtain ⟨ρ1,e,p⟩:=h;exact ⟨ρ1,(Dj hc).trans e,p⟩
def Nx.no {c:Fb} (hc:c ρ=.ok (false,ρ)) (h:P ρ):Nx (Bm c s AB) ρ P:=⟨ρ,(DO hc).trans rfl,h⟩
def Nx.loop {asg:PV->Af->Option Af}{els:List PV} (I:Nat->Af->Prop) (h0:I 0 ρ) (hs:∀ k x ρ,els[k]?=some x->I k ρ->∃ ρ1,asg x ρ=some ρ1/\Nx s ρ1 (I (k + 1))):∃ ρ',Ck asg s els ρ=.nx ρ'/\I els.length ρ':=Sb els I ρ h0 λ k x ρ e h=>by
 obtain ⟨ρ1,e1,ρ2,e2,h2⟩:=hs k x ρ e h;exact ⟨ρ1,ρ2,e1,e2,h2⟩
def uF {n k:Nat}{x:PV} (hx:((Ay n).map λ (k:Nat)=>PV.int (k:Int))[k]?=some x):k < n/\x=.int (k:Int):=by
 rw [CL] at hx;by_cases hk:k < n
 ·rw [OB hk] at hx;cases hx;exact ⟨hk,rfl⟩
 ·rw [Fh (by rw [FF];omega)] at hx;cases hx
def Nx.forR {asg:PV->Af->Option Af}{f:Fx}{n d:Nat} (I:Nat->Af->Prop) (hf:f ρ=.ok (.int (n:Int),d,ρ)) (hn:n<=1000) (h0:I 0 ρ) (hs:∀ k ρ,k < n->I k ρ->∃ ρ1,asg (.int (k:Int)) ρ=some ρ1/\Nx s ρ1 (I (k + 1))):Nx (Eg Bl (Ad f Ac) asg s) ρ (I n):=by
 obtain ⟨ρ',e,h⟩:=Nx.loop (els:=(Ay n).map λ (k:Nat)=>.int (k:Int)) I h0 λ k x ρ hx h=>by
  obtain ⟨hk,rfl⟩:=uF hx;exact hs k ρ hk h
 rw [AJ,FF] at h;exact ⟨ρ',wH (AF hf) (EY (by omega) (by omega)) e,h⟩
def Ge (s:Fs) (ρ:Af) (P:PV->Prop):Prop:=∃ y d ρ',s ρ=.rt y d ρ'/\P y
def Ge.ex {R:PV->Prop} (h:Nx s ρ P) (k:∀ ρ',P ρ'->Ge r ρ' R):Ge (Ag s r) ρ R:=by
 obtain ⟨ρ1,e,p⟩:=h;obtain ⟨y,d,ρ',e',q⟩:=k ρ1 p;exact ⟨y,d,ρ',(Be e).trans e',q⟩
def Ge.retV {R:PV->Prop}{i:Nat}{x:PV} (h:HV L O ρ) (e:L[i]?=some (some x)) (p:R x):Ge (DY i) ρ R:=by
 obtain ⟨d,e⟩:=h.get i x e;exact ⟨x,d,ρ,by unfold DY;rw [e],p⟩
def Ge.fn {R:PV->Prop}{np k:Nat}{b:Fs}{xs:List PV} (hl:xs.length=np) (h:Ge b (xs.map (λ x=>some (x,dv x))++A9 k none) R):∃ y d,Au false np k b xs=.ok (y,d,.non)/\R y:=by
 obtain ⟨y,d,ρ',h,p⟩:=h;exact ⟨y,d,BB hl h,p⟩
end
end
def zA {b c:Nat}:Pile 0 b c []:=⟨⟨rfl,λ _ h=>(nomatch h)⟩,λ i j hi=>absurd hi (by omega),λ i j hi=>absurd hi (by omega),λ i j hi=>absurd hi (by omega),λ i j hi=>absurd hi (by omega)⟩
def RowP (b c:Nat) (t:List (List Int)) (r:List Int):Prop:=(∀ y,y < r.length->0<=r.getD y 0/\r.getD y 0<=G4 c t y)/\∀ n,n + 1 < r.length->r.getD (n + 1) 0<=r.getD n 0
def zJ {b c:Nat}{t:List (List Int)}:RowP b c t []:=⟨λ y h=>absurd h (by simp),λ n h=>absurd h (by simp)⟩
def RowP.snoc {b c:Nat}{t:List (List Int)}{r:List Int}{v:Int} (h:RowP b c t r) (h1:0<=v/\v<=G4 c t r.length) (h2:∀ n,n + 1=r.length->v<=r.getD n 0):RowP b c t (r++[v]):=by
 refine ⟨λ y hy=>?_,λ n hn=>?_⟩
 ·rw [Br] at hy;rw [Pw];split
  ·exact h.1 y (by assumption)
  ·have:y=r.length:=by simp at hy;omega
   rw [if_pos this,this];exact h1
 ·rw [Br] at hn;rw [Pw,Pw];split
  ·rw [if_pos (by omega)];exact h.2 n (by assumption)
  ·have:n + 1=r.length:=by simp at hn;omega
   rw [if_pos this,if_pos (by omega)];exact h2 n this
def hY (n:Int) (x:Int) (hx:0<=x):∃ y,0<=y/\BG [0,1,0,2,x] (n % 5)=some y:=by
 have h:n % 5=0\/n % 5=1\/n % 5=2\/n % 5=3\/n % 5=4:=by omega
 rcases h with h | h | h | h | h <;> rw [h]
 ·exact ⟨0,by decide,rfl⟩
 ·exact ⟨1,by decide,rfl⟩
 ·exact ⟨0,by decide,rfl⟩
 ·exact ⟨2,by decide,rfl⟩
 ·exact ⟨x,hx,rfl⟩
def Yu {a b c:Nat} (l:Int) (ha:a<=100) (hb:b<=100) (hc:c<=1000):∃ t d,Pile a b c t/\d_pile [bx a b c,.int l]=.ok (tb t,d,.non):=by
 have z:=sz;let F (l:Int) (s5 s6 s7 s8 s9:Option PV):List (Option PV):=[some (bx a b c),some (.int l),some (.int a),some (.int b),some (.int c),s5,s6,s7,s8,s9]
 let ρ0:Af:=[some (bx a b c,0),some (.int l,om),none,none,none,none,none,none,none,none]
 have nin:∀ {i:Nat},i∉([]:List Nat):=λ h=>nomatch h
 suffices h:Ge Xd_pile ρ0 λ y=>∃ t,Pile a b c t/\y=tb t by
  obtain ⟨y,d,e,t,p,rfl⟩:=Ge.fn (np:=2) (k:=8) (xs:=[bx a b c,.int l]) rfl h;exact ⟨t,d,p,e⟩
 have h0:HV [some (bx a b c),some (.int l),none,none,none,none,none,none,none,none] [] ρ0:=HV.of ρ0;refine Ge.ex (h0.unp3 (x:=.int a) (y:=.int b) (z:=.int c) (d:=0) (h0.var rfl) (show 2 < 10 by decide) (show 3 < 10 by decide) (show 4 < 10 by decide)) λ ρ1 h1=>?_;refine Ge.ex (h1.setN (x:=.lst []) rfl (show 5 < 10 by decide)) λ ρ2 h2=>?_;refine Ge.ex (P:=λ ρ=>∃ l t,Pile a b c t/\HV (F l (some (tb t)) none none none none) [5] ρ) (Nx.forR (λ k ρ=>∃ l t,Pile k b c t/\HV (F l (some (tb t)) none none none none) [5] ρ) (h2.var rfl) (by omega) ⟨l,[],zA,h2⟩ λ k ρ hk ⟨l,t,ht,h⟩=>?_) λ ρ3 ⟨l,t,ht,h3⟩=>Ge.retV h3 rfl ⟨t,ht,rfl⟩;have hl:t.length=k:=ht.tab.1;obtain ⟨ρa,ea,h⟩:=h.asgN (i:=6) (.int (k:Int)) (show 6 < 10 by decide) (by decide);refine ⟨ρa,ea,Nx.seq (h.setN (x:=.lst []) rfl (show 7 < 10 by decide)) λ ρ4 h4=>Nx.seq (Nx.forR (λ m ρ=>∃ l r,RowP b c t r/\r.length=m/\HV (F l (some (tb t)) (some (.int (k:Int))) (some (il r)) none none) [7,5] ρ) (h4.var rfl) (by omega) ⟨l,[],zJ,rfl,h4⟩ λ m ρ hm ⟨l,r,hr,hrl,h⟩=>?_) λ ρ5 ⟨l,r,hr,hrl,h⟩=>?_⟩
 ·obtain ⟨ρb,eb,h⟩:=h.asgN (i:=8) (.int (m:Int)) (show 8 < 10 by decide) (by decide);let G (m9:Int):=F l (some (tb t)) (some (.int (k:Int))) (some (il r)) (some (.int (m:Int))) (some (.int m9));refine ⟨ρb,eb,Nx.seq (h.setO (x:=.int c) (h.var rfl) (show 9 < 10 by decide)) λ ρ6 (h6:HV (G c) [7,5] ρ6)=>Nx.seq (P:=λ ρ=>∃ m1:Int,(0<=m1/\m1<=G4 c t m)/\HV (G m1) [7,5] ρ) ?_ λ ρ7 ⟨m1,hm1,h7⟩=>Nx.seq (P:=λ ρ=>∃ m2:Int,(0<=m2/\m2<=G4 c t m/\∀ n,n + 1=m->m2<=r.getD n 0)/\HV (G m2) [7,5] ρ) ?_ λ ρ8 ⟨m2,hm2,h8⟩=>?_⟩
  ·have q:=AH (ET (p:=λ i j=>decide (j < i)) (g:=bC (.int 0)) (j:=0) (e:=om) (h6.var (j:=6) (x:=.int (k:Int)) rfl) rfl);by_cases h0:0 < k
   ·rw [decide_eq_true (by omega)] at q;have s:=Fq (g:=bC (.int 1)) (j:=1) (e:=om) (h6.var (j:=6) (x:=.int (k:Int)) rfl) rfl;rw [show (k:Int) - 1=((k - 1:Nat):Int) by omega] at s;exact Nx.yes q (Nx.mono (h6.setO (RX (i:=k - 1) (j:=m) ht.tab (h6.var (j:=5) rfl) s (h6.var (j:=8) rfl) (by omega) hm) (show 9 < 10 by decide)) λ ρ h=>⟨_,⟨ht.lo (k - 1) m (by omega) hm,by unfold G4;rw [if_neg (by omega),hl];exact C5 _⟩,h⟩)
   ·rw [decide_eq_false (by omega)] at q;exact Nx.no q ⟨c,⟨by omega,by unfold G4;rw [if_pos (by omega)];exact C5 _⟩,h6⟩
  ·have q:=AH (ET (p:=λ i j=>decide (j < i)) (g:=bC (.int 0)) (j:=0) (e:=om) (h7.var (j:=8) (x:=.int (m:Int)) rfl) rfl);by_cases h0:0 < m
   ·rw [decide_eq_true (by omega)] at q;have s:=Fq (g:=bC (.int 1)) (j:=1) (e:=om) (h7.var (j:=8) (x:=.int (m:Int)) rfl) rfl;rw [show (m:Int) - 1=((m - 1:Nat):Int) by omega] at s;have hx:=hr.1 (m - 1) (by omega);exact Nx.yes q (Nx.mono (h7.setO (x:=.int (if r.getD (m - 1) 0 < m1 then r.getD (m - 1) 0 else m1)) (Cw (A6 (h7.var (j:=9) rfl) (AF (HB (xs:=r) (h7.var (j:=7) rfl) s (Ed (by omega) (by rw [CU];exact EZ (by omega)))))) rfl) (show 9 < 10 by decide)) λ ρ h=>⟨_,⟨by split <;> omega,by split <;> omega,λ n hn=>by rw [show m - 1=n by omega];split <;> omega⟩,h⟩)
   ·rw [decide_eq_false (by omega)] at q;exact Nx.no q ⟨m1,⟨hm1.1,hm1.2,λ n hn=>absurd hn (by omega)⟩,h7⟩
  ·obtain ⟨y,hy,ey⟩:=hY (l / 9) (l % ((c:Int) + 1)) (O6 _ (by omega));let v:=m2 - (if y < m2 then y else m2);have hv:0<=v/\v<=m2:=by
    show 0<=m2 - (if y < m2 then y else m2)/\m2 - (if y < m2 then y else m2)<=m2;split <;> omega
   have v1:Aa 1 ρ8=.ok (.int l,om,ρ8):=h8.var rfl;have f1:=Cw (op:=AW) (z:=il [0,1,0,2,l % ((c:Int) + 1)]) (c:=om) (A6 (f:=bC (.int 0)) rfl (A6 (f:=bC (.int 1)) rfl (A6 (f:=bC (.int 0)) rfl (A6 (f:=bC (.int 2)) rfl (AF (E7 v1 (ER (g:=bC (.int 1)) (j:=1) (e:=om) (h8.var (j:=4) (x:=.int c) rfl) rfl) (by omega))))))) rfl;have f2:=E7 (g:=bC (.int 5)) (j:=5) (e:=om) (FL (g:=bC (.int 9)) (j:=9) (e:=om) v1 rfl (by decide) (by decide)) rfl (by decide);refine Nx.seq (h8.app (i:=7) (xs:=r.map PV.int) (y:=.int v) rfl (by decide) (Fq (i:=m2) (h8.var (j:=9) rfl) (Cw (xs:=[(.int m2,om),(.int y,om)]) (A6 (h8.var (j:=9) rfl) (AF (HB f1 f2 ey))) rfl)) (by rw [AJ];omega)) λ ρ9 h9=>?_;have v1:Aa 1 ρ9=.ok (.int l,om,ρ9):=h9.var rfl;refine Nx.mono (h9.setO (ER (FL (g:=bC (.int 45)) (j:=45) (e:=om) v1 rfl (by decide) (by decide)) (E7 (g:=bC (.int 1009)) (j:=1009) (e:=om) (Dr (f:=bC (.int 13)) (i:=13) (d:=om) rfl v1 (.inl (by decide))) rfl (by decide))) (show 1 < 10 by decide)) λ ρ h=>⟨_,r++[v],hr.snoc (by rw [hrl];exact ⟨hv.1,EF hv.2 hm2.2.1⟩) (λ n hn=>EF hv.2 (hm2.2.2 n (by omega))),by rw [Br,hrl];rfl,h.weak ⟨rfl,rfl,rfl,rfl,rfl,rfl,rfl,?_,trivial⟩ λ _ h=>h⟩
   unfold il;rw [Dz];rfl
 ·refine Nx.mono (h.appK (i:=5) (xs:=t.map il) (y:=il r) rfl (by decide) (by decide) (h.var (j:=7) rfl) (by rw [AJ];omega)) λ ρ h=>⟨l,t++[r],ht.snoc hrl (λ y hy=>hr.1 y (by omega)) (λ n hn=>hr.2 n hn),h.weak ⟨rfl,rfl,rfl,rfl,rfl,?_,trivial⟩ λ _ h=>h⟩
  unfold tb;rw [Dz];rfl
def Oy:List Int->Bool
 | []=>true
 | x::l=>l.all (λ y=>!(x == y)) && Oy l
theorem VP:∀ {l:List Int},Oy l=true->l.Pairwise (·≠·)
 | [],_=>List.Pairwise.nil
 | x::l,h=>by
  rw [Oy,AK] at h;refine List.Pairwise.cons (λ y hy=>?_) (VP h.2)
  have:=jb1.mp h.1 y hy
  simpa using this
def OL (b c:Nat):Bool:=Oy ((A7 b c).map λ r=>Gp (A8 r))
theorem Xp {α:Type}{f:α->Int}:∀ {l:List α}{x:Int},(l.map f).Pairwise (·≠·)->(l.filter λ y=>f y == x).length<=1
 | [],_,_=>by simp
 | y::l,x,h=>by
  rw [Bc,jm5] at h;rw [Ez];split
  ·rename_i e
   have:l.filter (λ z=>f z == x)=[]:=by
    rw [ji3];intro z hz e2;exact h.1 _ (ZQ hz) ((eq_of_beq e).trans (eq_of_beq e2).symm)
   rw [this];simp
  ·exact Xp h.2
def dk_of {b c:Nat} (h:OL b c=true):Dl ((A7 b c).map A8)=true:=by
 unfold OL at h;have hp:=VP h;unfold Dl;rw [AK,jb1,jb1];refine ⟨λ k hk=>?_,λ k hk=>?_⟩
 ·obtain ⟨r,_,rfl⟩:=jc2.mp hk;rw [jb1];intro x hx;obtain ⟨n,_,rfl⟩:=jc2.mp hx;rfl
 ·rw [decide_eq_true_iff];refine Xp (f:=Gp) ?_;rw [Cr];exact hp
def yf {n:Nat}{c:Nat}:(A7 n c).length<=(c + 1) ^ n:=YH (m:=c + 1) n λ j _=>by omega
def jx {a b c:Nat} (ha:1<=a/\a<=6) (hb:1<=b/\b<=6) (hc:c<=6) (h:OL b c=true):BoxT a b c:=by
 refine ⟨by omega,by omega,by omega,dk_of h,λ n hn=>?_⟩;have h1:(c + 1) ^ n<=7 ^ n:=Nat.pow_le_pow_left (by omega) n;have h2:7 ^ n<=7 ^ 6:=Nat.pow_le_pow_right (by omega) (by omega)
 have:=yf (n:=n) (c:=c)
 omega
section
variable {a b c:Nat}{hs:List C3}
end
def Xf_is_cube_in:Fs:=(Ag (Bm (bT (Bz (AQ Co (AQ (FP "tuple") (Aa 1))) (Ab (A3 true) (Ak CC (Ad (Aa 1) (Ac))) (bC (.int 3))))) (Az (bC (.bl false))) AB)
 (Az (Ak EW (Ad (DT .zp (Ad (Aa 1) (Ad (Aa 0) (Ac))) 2 (asgT [2,3]) AU (CW (Ap f_is_whole_number (Ad (Aa 2) (Ac))) (E5 (λ i j=>decide (i<=j)) (λ i j=>decide (i < j)) (bC (.int 0)) (Aa 2) (Aa 3)))) (Ac)))))
def f_is_cube_in:Fn:=Au false 2 0 Xf_is_cube_in
end QV
namespace K68
open PySem PySem.Spec PyProof.Rows L2 QQ
def sn:Sn:=QQ.sn (jJ ["table","behind","shares"]) 40
abbrev Rd (ds:List DI):=Reads sn false [] ds
abbrev b0:Fs:=QV.Xf_is_whole_number
abbrev F0:Fn:=QV.f_is_whole_number
abbrev D0:DI:=⟨top 7,["thing"],F0,b0⟩
abbrev L0:List DI:=D0::[]
def k0:Rd L0:=.cons .nil (by kernel_rfl) (by kernel_rfl) (by kernel_rfl)
abbrev b1:Fs:=QV.Xf_is_box
abbrev F1:Fn:=QV.f_is_box
abbrev D1:DI:=⟨top 8,["thing"],F1,b1⟩
abbrev L1:List DI:=D1::L0
def k1:Rd L1:=.cons k0 (by kernel_rfl) (by kernel_rfl) (by kernel_rfl)
abbrev b2:Fs:=QV.Xf_must_be_box
abbrev F2:Fn:=QV.f_must_be_box
abbrev D2:DI:=⟨top 9,["box"],F2,b2⟩
abbrev L2:List DI:=D2::L1
def k2:Rd L2:=.cons k1 (by kernel_rfl) (by kernel_rfl) (by kernel_rfl)
abbrev b3:Fs:=QV.Xf_is_row_of_heights
abbrev F3:Fn:=QV.f_is_row_of_heights
abbrev D3:DI:=⟨top 10,["thing","columns","height"],F3,b3⟩
abbrev L3:List DI:=D3::L2
def k3:Rd L3:=.cons k2 (by kernel_rfl) (by kernel_rfl) (by kernel_rfl)
abbrev b4:Fs:=QV.Xf_never_rises
abbrev F4:Fn:=QV.f_never_rises
abbrev D4:DI:=⟨top 11,["numbers"],F4,b4⟩
abbrev L4:List DI:=D4::L3
def k4:Rd L4:=.cons k3 (by kernel_rfl) (by kernel_rfl) (by kernel_rfl)
abbrev b5:Fs:=QV.Xf_column_of
abbrev F5:Fn:=QV.f_column_of
abbrev D5:DI:=⟨top 12,["table","j"],F5,b5⟩
abbrev L5:List DI:=D5::L4
def k5:Rd L5:=.cons k4 (by kernel_rfl) (by kernel_rfl) (by kernel_rfl)
abbrev b6:Fs:=QV.Xf_is_pile
abbrev F6:Fn:=QV.f_is_pile
abbrev D6:DI:=⟨top 13,["box","thing","rows","columns","height"],F6,b6⟩
abbrev L6:List DI:=D6::L5
def k6:Rd L6:=.cons k5 (by kernel_rfl) (by kernel_rfl) (by kernel_rfl)
abbrev b7:Fs:=QV.Xf_must_be_pile
abbrev F7:Fn:=QV.f_must_be_pile
abbrev D7:DI:=⟨top 14,["box","pile"],F7,b7⟩
abbrev L7:List DI:=D7::L6
def k7:Rd L7:=.cons k6 (by kernel_rfl) (by kernel_rfl) (by kernel_rfl)
abbrev b9:Fs:=QV.Xf_must_be_two_piles
abbrev F9:Fn:=QV.f_must_be_two_piles
abbrev D9:DI:=⟨top 17,["box","pile","other"],F9,b9⟩
abbrev L9:List DI:=D9::L7
def k9:Rd L9:=.cons k7 (by kernel_rfl) (by kernel_rfl) (by kernel_rfl)
abbrev fY:Fs:=QV.Xf_added
abbrev lq:Fn:=QV.f_added
abbrev lW:DI:=⟨top 23,["tally","other","total","n","many"],lq,fY⟩
abbrev qV:List DI:=lW::L9
def fB:Rd qV:=.cons k9 (by kernel_rfl) (by kernel_rfl) (by kernel_rfl)
abbrev fZ:Fs:=QV.Xf_rows_of_heights
abbrev lr:Fn:=QV.f_rows_of_heights
abbrev lX:DI:=⟨top 22,["columns","height","rows","j","longer","row","most"],lr,fZ⟩
abbrev qW:List DI:=lX::qV
def fC:Rd qW:=.cons fB (by kernel_rfl) (by kernel_rfl) (by kernel_rfl)
abbrev fX:Fs:=QV.Xf_sums_of_lower_rows
abbrev lp:Fn:=QV.f_sums_of_lower_rows
abbrev lV:DI:=⟨top 24,["table","columns","sums","j","row","lower"],lp,fX⟩
abbrev qU:List DI:=lV::qW
def fA:Rd qU:=.cons fC (by kernel_rfl) (by kernel_rfl) (by kernel_rfl)
abbrev fW:Fs:=QV.Xf_lies_between
abbrev lj:Fn:=QV.f_lies_between
abbrev lU:DI:=⟨top 25,["row","low","high"],lj,fW⟩
abbrev qT:List DI:=lU::qU
def f9:Rd qT:=.cons fA (by kernel_rfl) (by kernel_rfl) (by kernel_rfl)
abbrev fV:Fs:=QV.Xf_table_of_row
abbrev lh:Fn:=QV.f_table_of_row
abbrev lT:DI:=⟨top 26,["behind","low","high","counted","table","row"],lh,fV⟩
abbrev qS:List DI:=lT::qT
def f7:Rd qS:=.cons f9 (by kernel_rfl) (by kernel_rfl) (by kernel_rfl)
abbrev fU:Fs:=QV.Xf_tables_between
abbrev lg:Fn:=QV.f_tables_between
abbrev lS:DI:=⟨top 27,["box","low","high","places","rows","columns","height","table","row","tables","i","counted"],lg,fU⟩
abbrev qR:List DI:=lS::qS
def f6:Rd qR:=.cons f7 (by kernel_rfl) (by kernel_rfl) (by kernel_rfl)
abbrev fS:Fs:=QV.Xf_tally_between
abbrev OU:Fn:=QV.f_tally_between
abbrev lR:DI:=⟨top 28,["box","low","high","places","total","tally"],OU,fS⟩
abbrev qQ:List DI:=lR::qR
def fy:Rd qQ:=.cons f6 (by kernel_rfl) (by kernel_rfl) (by kernel_rfl)
abbrev fR:Fs:=QV.Xf_how_many_between
abbrev OT:Fn:=QV.f_how_many_between
abbrev lQ:DI:=⟨top 30,["box","low","high"],OT,fR⟩
abbrev qP:List DI:=lQ::qQ
def fw:Rd qP:=.cons fy (by kernel_rfl) (by kernel_rfl) (by kernel_rfl)
abbrev b8:Fs:=QV.Xf_is_cube_in
abbrev F8:Fn:=QV.f_is_cube_in
abbrev D8:DI:=⟨top 15,["box","thing"],F8,b8⟩
abbrev L8:List DI:=D8::qP
def k8:Rd L8:=.cons fw (by kernel_rfl) (by kernel_rfl) (by kernel_rfl)
def TY:Fs:=(Ag (RH (bT (Ab (B1 λ i j=>decide (j < i)) (Aa 1) (bC (.int 0)))) (Dg 0 1 (Ad (Aa 1) (Ad (Ab C7 (Aa 0) (Aa 1)) (Ac)))))
 (DY 0))
def Ut:Fn:=Au false 2 0 TY
abbrev lL:DI:=⟨top 37,["number","other"],Ut,TY⟩
abbrev qK:List DI:=lL::L8
def fm:Rd qK:=.cons k8 (by kernel_rfl) (by kernel_rfl) (by kernel_rfl)
def OQ:Fs:=(Ag (Aj false 2 (Ap Ut (Ad (Aa 0) (Ad (Aa 1) (Ac)))) [0,1])
 (Az (Ak AX (Ad (Ab DB (Aa 0) (Aa 2)) (Ad (Ab DB (Aa 1) (Aa 2)) (Ac))))))
def M1:Fn:=Au false 2 1 OQ
abbrev lK:DI:=⟨top 38,["top","bottom","divisor"],M1,OQ⟩
abbrev qJ:List DI:=lK::qK
def fh:Rd qJ:=.cons fm (by kernel_rfl) (by kernel_rfl) (by kernel_rfl)
abbrev hV:Fs:=QV.Xf_places_of
abbrev OV:Fn:=QV.f_places_of
abbrev ma:DI:=⟨top 18,["box","places","i"],OV,hV⟩
abbrev qZ:List DI:=ma::qJ
def fG:Rd qZ:=.cons fh (by kernel_rfl) (by kernel_rfl) (by kernel_rfl)
abbrev hJ:Fs:=QV.Xf_lies_below
abbrev xg:Fn:=QV.f_lies_below
abbrev lY:DI:=⟨top 20,["box","pile","other"],xg,hJ⟩
abbrev qX:List DI:=lY::qZ
def fE:Rd qX:=.cons fG (by kernel_rfl) (by kernel_rfl) (by kernel_rfl)
def TX:Fs:=(Bm (bT (AQ Co (Ap xg (Ad (Aa 0) (Ad (Aa 1) (Ad (Aa 2) (Ac))))))) Hg AB)
def Jw:Fn:=Au false 3 0 TX
abbrev lJ:DI:=⟨top 39,["box","low","high"],Jw,TX⟩
abbrev qI:List DI:=lJ::qX
def fg:Rd qI:=.cons fE (by kernel_rfl) (by kernel_rfl) (by kernel_rfl)
def TU:Fs:=(Ag (CF (Ap Jw (Ad (Aa 0) (Ad (Aa 1) (Ad (Aa 2) (Ac))))))
 (Ag (Bm (bT (AQ Co (Ap F8 (Ad (Aa 0) (Ad (Aa 3) (Ac)))))) Hg AB)
 (Ag (B4 (asgT [4,5,6]) (Aa 3) [3])
 (Ag (Aj false 7 (Ap OU (Ad (Aa 0) (Ad (Aa 1) (Ad (Aa 2) (Ad (Ak AW (Ad (Ak AX (Ad (Aa 4) (Ad (Aa 5) (Ac)))) (Ac))) (Ac)))))) [0,1,2,4,5])
 (Az (Ap M1 (Ad (Ak CD (Ad (DQ (Aa 7) (some (Ab AG (Aa 6) (bC (.int 1)))) none) (Ac))) (Ad (Ak CD (Ad (Aa 7) (Ac))) (Ac)))))))))
def Us:Fn:=Au false 4 4 TU
abbrev lH:DI:=⟨top 41,["box","low","high","cube","i","j","k","tally"],Us,TU⟩
abbrev qG:List DI:=lH::qI
def fe:Rd qG:=.cons fg (by kernel_rfl) (by kernel_rfl) (by kernel_rfl)
abbrev hU:Fs:=QV.Xf_is_place
abbrev Uw:Fn:=QV.f_is_place
abbrev lZ:DI:=⟨top 19,["box","i","j"],Uw,hU⟩
abbrev qY:List DI:=lZ::qG
def fF:Rd qY:=.cons fe (by kernel_rfl) (by kernel_rfl) (by kernel_rfl)
def TV:Fs:=(Az (Ap M1 (Ad (Ak CD (Ad (DT .enm (Ad (Aa 0) (Ac)) 2 (asgT [1,2]) AU (Ab AR (Aa 1) (Aa 2))) (Ac))) (Ad (Ak CD (Ad (Aa 0) (Ac))) (Ac)))))
def M0:Fn:=Au false 1 0 TV
abbrev lI:DI:=⟨top 40,["tally"],M0,TV⟩
abbrev qH:List DI:=lI::qY
def ff:Rd qH:=.cons fF (by kernel_rfl) (by kernel_rfl) (by kernel_rfl)
def TR:Fs:=(Ag (CF (Ap Jw (Ad (Aa 0) (Ad (Aa 1) (Ad (Aa 2) (Ac))))))
 (Ag (Bm (bT (AQ Co (Ap Uw (Ad (Aa 0) (Ad (Aa 3) (Ad (Aa 4) (Ac))))))) Hg AB)
 (Az (Ap M0 (Ad (Ap OU (Ad (Aa 0) (Ad (Aa 1) (Ad (Aa 2) (Ad (Ak AW (Ad (Ak AX (Ad (Aa 3) (Ad (Aa 4) (Ac)))) (Ac))) (Ac)))))) (Ac))))))
def Ur:Fn:=Au false 5 0 TR
abbrev lG:DI:=⟨top 42,["box","low","high","i","j"],Ur,TR⟩
abbrev qF:List DI:=lG::qH
def fc:Rd qF:=.cons ff (by kernel_rfl) (by kernel_rfl) (by kernel_rfl)
def TQ:Fs:=(Ag (CF (Ap Jw (Ad (Aa 0) (Ad (Aa 1) (Ad (Aa 2) (Ac))))))
 (Az (Ap M0 (Ad (Ap OU (Ad (Aa 0) (Ad (Aa 1) (Ad (Aa 2) (Ad (Ap OV (Ad (Aa 0) (Ac))) (Ac)))))) (Ac)))))
def Uq:Fn:=Au false 3 0 TQ
abbrev lF:DI:=⟨top 43,["box","low","high"],Uq,TQ⟩
abbrev qE:List DI:=lF::qF
def dZ:Rd qE:=.cons fc (by kernel_rfl) (by kernel_rfl) (by kernel_rfl)
abbrev fP:Fs:=QV.Xb_cell_at
abbrev Mz:Fn:=QV.b_cell_at
abbrev lE:DI:=⟨top 45,["script","k"],Mz,fP⟩
abbrev qD:List DI:=lE::qE
def dY:Rd qD:=.cons dZ (by kernel_rfl) (by kernel_rfl) (by kernel_rfl)
abbrev fO:Fs:=QV.Xd_mixed
abbrev My:Fn:=QV.d_mixed
abbrev lD:DI:=⟨top 46,["cell","k","number"],My,fO⟩
abbrev qC:List DI:=lD::qD
def dX:Rd qC:=.cons dY (by kernel_rfl) (by kernel_rfl) (by kernel_rfl)
abbrev fN:Fs:=QV.Xd_box
abbrev xb:Fn:=QV.d_box
abbrev lC:DI:=⟨top 47,["left","rows","columns","height"],xb,fN⟩
abbrev qB:List DI:=lC::qC
def dW:Rd qB:=.cons dX (by kernel_rfl) (by kernel_rfl) (by kernel_rfl)
abbrev fM:Fs:=QV.Xd_pile
abbrev Up:Fn:=QV.d_pile
abbrev lA:DI:=⟨top 48,["box","left","a","b","c","found","i","row","j","most"],Up,fM⟩
abbrev qA:List DI:=lA::qB
def dU:Rd qA:=.cons dW (by kernel_rfl) (by kernel_rfl) (by kernel_rfl)
def TM:Fs:=(Az (Cu Bl (Ad (Ab An (Aa 0) (bC (.int 0))) (Ac)) 1 (asgN 2) AU (Ab AR (Ak AW (Ad (Aa 1) (Ac))) (Ab An (Aa 0) (bC (.int 1))))))
def OS:Fn:=Au false 2 0 TM
abbrev l9:DI:=⟨top 49,["box","height"],OS,TM⟩
abbrev q9:List DI:=l9::qA
def dS:Rd q9:=.cons dU (by kernel_rfl) (by kernel_rfl) (by kernel_rfl)
def OP:Fs:=(Ag (Aj false 2 (Ak Ka (Ad (Aa 0) (Ad (Ab BH (bC (.int 0)) (Aa 0)) (Ac)))) [0,0])
 (Ag (Aj false 3 (Aa 1) [1])
 (Ag (RH (bT (Ab (B1 λ i j=>decide (j < i)) (Aa 2) (bC (.int 0)))) (Dg 2 3 (Ad (Ab C7 (Aa 3) (Aa 2)) (Ad (Aa 2) (Ac)))))
 (Az (Ak AX (Ad (Ab DB (Aa 0) (Aa 3)) (Ad (Ab DB (Aa 1) (Aa 3)) (Ac))))))))
def Ie:Fn:=Au false 2 2 OP
abbrev l8:DI:=⟨top 50,["top","bottom","one","other"],Ie,OP⟩
abbrev qz:List DI:=l8::q9
def dR:Rd qz:=.cons dS (by kernel_rfl) (by kernel_rfl) (by kernel_rfl)
def TL:Fs:=(Az (Ap Ie (Ad (Ab AG (Ab AR (Ab An (Aa 0) (bC (.int 0))) (Ab An (Aa 1) (bC (.int 1)))) (Ab AR (Ab An (Aa 1) (bC (.int 0))) (Ab An (Aa 0) (bC (.int 1))))) (Ad (Ab AR (Ab An (Aa 0) (bC (.int 1))) (Ab An (Aa 1) (bC (.int 1)))) (Ac)))))
def Jv:Fn:=Au false 2 0 TL
abbrev l7:DI:=⟨top 51,["q","r"],Jv,TL⟩
abbrev qy:List DI:=l7::qz
def dQ:Rd qy:=.cons dR (by kernel_rfl) (by kernel_rfl) (by kernel_rfl)
def OO:Fs:=(Ag (Bm (bT (Ab (A3 false) (Aa 2) (bC (.int 0)))) (Az (DT .zp (Ad (Aa 0) (Ad (Aa 1) (Ac))) 2 (asgT [3,4]) AU (DT .zp (Ad (Aa 3) (Ad (Aa 4) (Ac))) 2 (asgT [5,6]) AU (Ak IM (Ad (Aa 5) (Ad (Aa 6) (Ac))))))) AB)
 (Az (DT .zp (Ad (Aa 0) (Ad (Aa 1) (Ac))) 2 (asgT [3,4]) AU (DT .zp (Ad (Aa 3) (Ad (Aa 4) (Ac))) 2 (asgT [5,6]) AU (Ak Ka (Ad (Aa 5) (Ad (Aa 6) (Ac))))))))
def Ju:Fn:=Au false 3 0 OO
abbrev l6:DI:=⟨top 52,["one","other","way"],Ju,OO⟩
abbrev qx:List DI:=l6::qy
def dP:Rd qx:=.cons dQ (by kernel_rfl) (by kernel_rfl) (by kernel_rfl)
def TK:Fs:=(Ag (B4 (asgT [5,6,7]) (Aa 4) [4])
 (Ag (Aj false 8 (Cu Bl (Ad (Ab An (Aa 0) (bC (.int 0))) (Ac)) 1 (asgN 9) AU (Cu Bl (Ad (Ab An (Aa 0) (bC (.int 1))) (Ac)) 1 (asgN 10) AU (Ab AR (Ak Iu (Ad (CW (Ab (B1 λ i j=>decide (i<=j)) (Aa 9) (Aa 5)) (Ab (B1 λ i j=>decide (i<=j)) (Aa 10) (Aa 6))) (Ac))) (Ab AG (Aa 7) (bC (.int 1)))))) [5,6,7])
 (Az (Ap Ie (Ad (Ap OT (Ad (Aa 0) (Ad (Ap Ju (Ad (Aa 1) (Ad (Aa 8) (Ad (bC (.int 1)) (Ac))))) (Ad (Aa 2) (Ac))))) (Ad (Aa 3) (Ac)))))))
def Uo:Fn:=Au false 5 4 TK
abbrev l5:DI:=⟨top 53,["box","low","high","many","cube","i","j","k","corner"],Uo,TK⟩
abbrev qw:List DI:=l5::qx
def dO:Rd qw:=.cons dP (by kernel_rfl) (by kernel_rfl) (by kernel_rfl)
def qt:Fs:=(Ag (B4 (asgT [1,2,3]) (Aa 0) [0])
 (Ag (Aj false 4 (Ak AW (Ac)) [])
 (Ag (Eg GQ (Ad (bC (.int 1)) (Ad (Ab AG (Aa 1) (bC (.int 1))) (Ac))) (asgN 5) (Eg GQ (Ad (bC (.int 1)) (Ad (Ab AG (Aa 2) (bC (.int 1))) (Ac))) (asgN 6) (Ce 4 (Cu GQ (Ad (bC (.int 1)) (Ad (Ab AG (Aa 3) (bC (.int 1))) (Ac))) 1 (asgN 7) AU (Ab BH (Ab AG (Ab AG (Aa 5) (Aa 6)) (Aa 7)) (bC (.int 1)))) [5,6])))
 (DY 4))))
def xf:Fn:=Au false 1 6 qt
abbrev lO:DI:=⟨top 33,["box","rows","columns","height","numbers","i","j"],xf,qt⟩
abbrev qN:List DI:=lO::qw
def ft:Rd qN:=.cons dO (by kernel_rfl) (by kernel_rfl) (by kernel_rfl)
def qr:Fs:=(Ag (CF (Ap F2 (Ad (Aa 0) (Ac))))
 (Ag (Aj false 1 (bC (.int 1)) [])
 (Ag (Aj false 2 (bC (.int 1)) [])
 (Ag (GK (Ap xf (Ad (Aa 0) (Ac))) [0] (asgN 3) (Ag (Aj false 1 (Ab AR (Aa 1) (Aa 3)) [1,3])
 (Aj false 2 (Ab AR (Aa 2) (Ab BH (Aa 3) (bC (.int 1)))) [2,3])))
 (Az (Ab DB (Aa 1) (Aa 2)))))))
def M3:Fn:=Au false 1 3 qr
abbrev lN:DI:=⟨top 34,["box","top","bottom","number"],M3,qr⟩
abbrev qM:List DI:=lN::qN
def fq:Rd qM:=.cons ft (by kernel_rfl) (by kernel_rfl) (by kernel_rfl)
abbrev fQ:Fs:=QV.Xf_tally_of_box
abbrev Uv:Fn:=QV.f_tally_of_box
abbrev lP:DI:=⟨top 32,["box","places","rows","columns","height","empty","full"],Uv,fQ⟩
abbrev qO:List DI:=lP::qM
def fv:Rd qO:=.cons fq (by kernel_rfl) (by kernel_rfl) (by kernel_rfl)
def TZ:Fs:=(Ag (CF (Ap F2 (Ad (Aa 0) (Ac))))
 (Az (Ap Uv (Ad (Aa 0) (Ad (Ap OV (Ad (Aa 0) (Ac))) (Ac))))))
def Uu:Fn:=Au false 1 0 TZ
abbrev lM:DI:=⟨top 35,["box"],Uu,TZ⟩
abbrev qL:List DI:=lM::qO
def fo:Rd qL:=.cons fv (by kernel_rfl) (by kernel_rfl) (by kernel_rfl)
def ON:Fs:=(Ag (B4 (asgT [2,3,4]) (Aa 0) [0])
 (Ag (Aj false 5 (Ap Uu (Ad (Aa 0) (Ac))) [0])
 (Ag (Aj false 6 (Ap Ie (Ad (Ak CD (Ad (DT .enm (Ad (Aa 5) (Ac)) 2 (asgT [11,12]) AU (Ab AR (Aa 11) (Aa 12))) (Ac))) (Ad (Ap M3 (Ad (Aa 0) (Ac))) (Ac)))) [5,5,5,0])
 (Ag (Bm (bT (Ab (A3 true) (Aa 6) (Ap Ie (Ad (Ab AR (Ab AR (Aa 2) (Aa 3)) (Aa 4)) (Ad (bC (.int 2)) (Ac)))))) (Az (bC (.bl false))) AB)
 (Ag (Gq (Aa 1) [1] (asgT [7,8,9]) (Ag (Aj false 10 (Ab An (Aa 1) (Ak AX (Ad (Ab BH (Ab BH (Aa 2) (bC (.int 1))) (Aa 7)) (Ad (Ab BH (Ab BH (Aa 3) (bC (.int 1))) (Aa 8)) (Ad (Ab BH (Ab BH (Aa 4) (bC (.int 1))) (Aa 9)) (Ac)))))) [1,2,7,3,8,4,9])
 (Bm (bT (Ab (A3 true) (Ap Jv (Ad (Ab An (Aa 1) (Ak AX (Ad (Aa 7) (Ad (Aa 8) (Ad (Aa 9) (Ac)))))) (Ad (Aa 10) (Ac)))) (Ak AX (Ad (bC (.int 1)) (Ad (bC (.int 1)) (Ac)))))) (Az (bC (.bl false))) AB)))
 (Az (bC (.bl true))))))))
def Um:Fn:=Au false 2 9 ON
abbrev l0:DI:=⟨top 54,["box","shares","a","b","c","numbers","mean","i","j","k","across"],Um,ON⟩
abbrev qv:List DI:=l0::qL
def dN:Rd qv:=.cons fo (by kernel_rfl) (by kernel_rfl) (by kernel_rfl)
def OM:Fs:=(Ag (Aj false 1 (Ap My (Ad (Ap Mz (Ad (Aa 0) (Ad (bC (.int 0)) (Ac)))) (Ad (bC (.int 0)) (Ac)))) [0])
 (Ag (Aj false 2 (Ap xb (Ad (Aa 1) (Ad (bC (.int 3)) (Ad (bC (.int 3)) (Ad (bC (.int 3)) (Ac)))))) [1])
 (Ag (Bm (bT (Ab (A3 false) (Ab C7 (Ab DB (Aa 1) (bC (.int 54))) (bC (.int 8))) (bC (.int 1)))) (Aj false 2 (Ab An (Ak AW (Ad (Ak AX (Ad (bC (.int 2)) (Ad (bC (.int 5)) (Ad (bC (.int 1)) (Ac))))) (Ad (Ak AX (Ad (bC (.int 1)) (Ad (bC (.int 6)) (Ad (bC (.int 2)) (Ac))))) (Ad (Ak AX (Ad (bC (.int 2)) (Ad (bC (.int 4)) (Ad (bC (.int 2)) (Ac))))) (Ac))))) (Ab C7 (Ab DB (Aa 1) (bC (.int 432))) (bC (.int 3)))) [1]) AB)
 (Ag (Aj false 3 (Ap Up (Ad (Aa 2) (Ad (Ap My (Ad (Ap Mz (Ad (Aa 0) (Ad (bC (.int 1)) (Ac)))) (Ad (bC (.int 1)) (Ac)))) (Ac)))) [2,0])
 (Ag (Aj false 4 (Ap Up (Ad (Aa 2) (Ad (Ap My (Ad (Ap Mz (Ad (Aa 0) (Ad (bC (.int 2)) (Ac)))) (Ad (bC (.int 2)) (Ac)))) (Ac)))) [2,0])
 (Ag (Aj false 5 (Ap Ju (Ad (Aa 3) (Ad (Aa 4) (Ad (bC (.int 0)) (Ac))))) [3,4])
 (Ag (Aj false 6 (Ap Ju (Ad (Aa 3) (Ad (Aa 4) (Ad (bC (.int 1)) (Ac))))) [3,4])
 (Ag (Aj false 7 (Ab (A3 false) (Ab C7 (Ab DB (Aa 1) (bC (.int 27))) (bC (.int 2))) (bC (.int 0))) [1])
 (Ag (Bm (bT (Aa 7)) (Ag (Aj false 5 (Ap OS (Ad (Aa 2) (Ad (bC (.int 0)) (Ac)))) [2])
 (Aj false 6 (Ap OS (Ad (Aa 2) (Ad (Ab An (Aa 2) (bC (.int 2))) (Ac)))) [2,2])) AB)
 (Ag (Aj false 8 (Ap OT (Ad (Aa 2) (Ad (Aa 5) (Ad (Aa 6) (Ac))))) [2,5,6])
 (Ag (Aj false 9 DR [])
 (Ag (Aj false 10 (Ak AX (Ad (bC (.int 0)) (Ad (bC (.int 1)) (Ac)))) [])
 (Ag (Eg Bl (Ad (Ab An (Aa 2) (bC (.int 0))) (Ac)) (asgN 11) (Eg Bl (Ad (Ab An (Aa 2) (bC (.int 1))) (Ac)) (asgN 12) (Ag (Aj false 13 (Ak AX (Ad (bC (.int 0)) (Ad (bC (.int 1)) (Ac)))) [])
 (Ag (Eg Bl (Ad (Ab An (Aa 2) (bC (.int 2))) (Ac)) (asgN 14) (Ag (Aj false 15 (Ap Us (Ad (Aa 2) (Ad (Aa 5) (Ad (Aa 6) (Ad (Ak AX (Ad (Aa 11) (Ad (Aa 12) (Ad (Aa 14) (Ac))))) (Ac)))))) [2,5,6,11,12,14])
 (Ag (Bm (bT (Ab (A3 true) (Aa 15) (Ap Uo (Ad (Aa 2) (Ad (Aa 5) (Ad (Aa 6) (Ad (Aa 8) (Ad (Ak AX (Ad (Aa 11) (Ad (Aa 12) (Ad (Aa 14) (Ac))))) (Ac))))))))) (Az (bC (.bl false))) AB)
 (Ag (C1 9 (Ak AX (Ad (Aa 11) (Ad (Aa 12) (Ad (Aa 14) (Ac))))) (Aa 15))
 (Aj false 13 (Ap Jv (Ad (Aa 13) (Ad (Aa 15) (Ac)))) [13,15])))))
 (Ag (Bm (bT (Ab (A3 true) (Ap Ur (Ad (Aa 2) (Ad (Aa 5) (Ad (Aa 6) (Ad (Aa 11) (Ad (Aa 12) (Ac))))))) (Aa 13))) (Az (bC (.bl false))) AB)
 (Aj false 10 (Ap Jv (Ad (Aa 10) (Ad (Aa 13) (Ac)))) [10,13]))))))
 (Ag (Bm (bT (Ab (A3 true) (Ap Uq (Ad (Aa 2) (Ad (Aa 5) (Ad (Aa 6) (Ac))))) (Aa 10))) (Az (bC (.bl false))) AB)
 (Az (Bz (AQ Co (Aa 7)) (Ap Um (Ad (Aa 2) (Ad (Aa 9) (Ac))))))))))))))))))))
def xa:Fn:=Au false 1 15 OM
abbrev ly:DI:=⟨top 55,["script","left","box","one","other","low","high","whole","many","shares","together","i","j","height","k","share"],xa,OM⟩
abbrev lb:List DI:=ly::qv
def k42:Rd lb:=.cons dN (by kernel_rfl) (by kernel_rfl) (by kernel_rfl)
end K68
namespace QV
open PySem PySem.Spec PyProof.Rows L2 QQ
section
variable {a b c:Nat}{low high t u:List (List Int)}
def zhu {ah:Nat->Int}{q:List Int}:HC b ah q=true↔∀ j,j < b->q.getD j 0<=ah j:=by
 unfold HC;rw [jb1];exact ⟨λ h j hj=>of_decide_eq_true (h j (jb8.mpr hj)),λ h j hj=>decide_eq_true (h j (jb8.mp hj))⟩
end
section
variable {a b c:Nat}{low high t u:List (List Int)}
def JX (h:Tab a b t) {i j:Nat} (hn:¬ (i < a/\j < b)):g t i j=0:=by
 unfold g;by_cases hi:i < a
 ·rw [AN,Fh (by rw [h.row hi];omega)];rfl
 ·rw [AN (l:=t),Fh (by rw [h.1];omega)];rfl
def SY (p:Pile a b c t) (i j:Nat):0<=g t i j:=by
 by_cases h:i < a/\j < b
 ·exact p.lo i j h.1 h.2
 ·rw [JX p.tab h];exact C5 _
def ql (p:Pile a b c t) (i j:Nat):g t i j<=c:=by
 by_cases h:i < a/\j < b
 ·exact p.hi i j h.1 h.2
 ·rw [JX p.tab h];omega
def AllP (a b c:Nat):List (List (List Int)):=B3 zF (cF c) c b a
def gM {p:List (List Int)} (h:p∈AllP a b c):Pile a b c p:=Vq (λ _ _=>C5 _) h
def Jk (a b:Nat) (low high p:List (List Int)):Bool:=Gw (g low) (g high) b a p
def Xh {p:List (List Int)}:Jk a b low high p=true↔∀ i j,i < a->j < b->g low i j<=g p i j/\g p i j<=g high i j:=bU
def jd (p:Pile a b c low) (q:Pile a b c high):(B3 (g low) (g high) c b a).length=((AllP a b c).filter (Jk a b low high)).length:=by
 unfold AllP Jk;rw [M9 (lo':=zF) (hi':=cF c) (λ i j=>SY p i j) (λ i j=>ql q i j) a]
theorem UZ {lo hi:Nat->Nat->Int}{c:Int}{b:Nat}:∀ (n:Nat),(B3 lo hi c b n).Pairwise (·≠·)
 | 0=>by simp [B3]
 | n + 1=>by
  rw [B3,ZW];refine ⟨λ r hr=>?_,?_⟩
  ·rw [SJ];refine List.Pairwise.imp (λ {x y} h e=>?_) (Pr b);have e:=(Z7 e rfl).2;cases e;rw [Na] at h;cases h
  ·refine List.Pairwise.imp_of_mem (λ {r q} hr hq h u hu v hv e=>?_) (UZ n);obtain ⟨x,_,rfl⟩:=jc2.mp hu;obtain ⟨y,_,rfl⟩:=jc2.mp hv;exact h (Z7 e rfl).1
def C4 (i j:Int):Int:=if j < i then j else i
def Bq (i j:Int):Int:=if j > i then j else i
def uq (p:Pile a b c t) (q:Pile a b c u):Pile a b c (zT C4 t u):=Ye _ (λ i j k m h1 h2=>by unfold C4;split <;> split <;> omega) (λ i j=>by unfold C4;split <;> simp) p q
def Pl (p:Pile a b c t) (q:Pile a b c u):Pile a b c (zT Bq t u):=Ye _ (λ i j k m h1 h2=>by unfold Bq;split <;> split <;> omega) (λ i j=>by unfold Bq;split <;> simp) p q
def Cz (i j k:Nat) (x y:Nat):Int:=if x<=i/\y<=j then (k:Int) + 1 else 0
def UN {i j k:Nat} (hk:k < c):Pile a b c (C8 a b (Cz i j k)):=by
 refine ⟨HA,λ x y hx hy=>?_,λ x y hx hy=>?_,λ x y hx hy=>?_,λ x y hx hy=>?_⟩
 ·rw [BY hx hy];unfold Cz;split <;> omega
 ·rw [BY hx hy];unfold Cz;split <;> omega
 ·rw [BY hx hy,BY (by omega) hy];unfold Cz;split <;> split <;> omega
 ·rw [BY hx hy,BY hx (by omega)];unfold Cz;split <;> split <;> omega
def vJ (p:Pile a b c low) {i j k:Nat} (hi:i < a) (hj:j < b):∀ r∈AllP a b c,Jk a b (zT Bq low (C8 a b (Cz i j k))) high r=(Jk a b low high r && decide ((k:Int) + 1<=g r i j)):=by
 have gm:∀ x y,x < a->y < b->g (zT Bq low (C8 a b (Cz i j k))) x y=Bq (g low x y) (Cz i j k x y):=λ x y hx hy=>by rw [Ip p.tab HA,BY hx hy,BY hx hy]
 have c0:Cz i j k i j=(k:Int) + 1:=by unfold Cz;rw [if_pos ⟨A4 _,A4 _⟩]
 intro r hr;have pr:=gM hr;rw [Eb,AK,decide_eq_true_iff,Xh,Xh];constructor
 ·intro h;refine ⟨λ x y hx hy=>?_,?_⟩
  ·have:=h x y hx hy
   rw [gm x y hx hy] at this;unfold Bq at this;split at this <;> omega
  ·have:=h i j hi hj
   rw [gm i j hi hj,c0] at this;unfold Bq at this;split at this <;> omega
 ·intro ⟨h,h2⟩ x y hx hy
  have:=h x y hx hy
  rw [gm x y hx hy];have h0:=pr.lo x y hx hy;by_cases hh:x<=i/\y<=j
  ·have:=Pile.anti pr hh.1 hh.2 hi hj
   unfold Bq Cz;rw [if_pos hh];split <;> omega
  ·unfold Bq Cz;rw [if_neg hh];split <;> omega
def vF (p:Pile a b c low) (q:Pile a b c high) (h:Ke a b low high=true):1<=(B3 (g low) (g high) c b a).length:=by
 have h:∀ i j,i < a->j < b->g low i j<=g high i j:=λ i j hi hj=>by
  unfold Ke at h;exact of_decide_eq_true (jb1.mp h (i,j) (zxf.mpr ⟨hi,hj⟩))
 obtain ⟨t,e⟩:=Pg (lo:=g low) (hi:=g high) (c:=(c:Int)) (b:=b) a h (λ i j hi hj=>p.hi i j hi hj) (λ i j hi hj=>p.dn i j hi hj) (λ i j hi hj=>p.rt i j hi hj);rw [e];simp
end
theorem XO {α:Type}:∀ (l:List α),A1 (λ _=>(0:Int)) l=0
 | []=>rfl
 | x::l=>by rw [Du,XO l];rfl
structure Mom (φ:Nat->List Int->Int) (op:Nat->Nat->Nat) (ψ:Nat->Int):Prop where
 nil:∀ m,φ m []=0
 add:∀ m x y,φ m (Av x y)=φ m x + φ m y
 sh:∀ m w x,φ m (A9 w 0++x)=φ (op m w) x
 one:∀ m,φ m [1]=ψ m
 as:∀ m u v,op (op m u) v=op m (u + v)
 zr:∀ m,op m 0=m
section
variable {φ:Nat->List Int->Int}{op:Nat->Nat->Nat}{ψ:Nat->Int}
theorem Mom.sumT (h:Mom φ op ψ) (m:Nat) {f:List Int->List Int}:∀ l:List (List Int),φ m (sumT f l)=A1 (λ r=>φ m (f r)) l
 | []=>h.nil m
 | r::l=>by rw [Hy,h.add,Mom.sumT h m l];rfl
variable {a b c:Nat}{low high:List (List Int)}{ct:Nat->List Nat}
def JH (ct:Nat->List Nat) (i:Nat) (r:List Int):Nat:=(Ct (ct i) r).toNat
def Ej (ct:Nat->List Nat) (p:List (List Int)):Nat:=((Ay p.length).map λ i=>JH ct i (p.getD i [])).sum
def gL (p:List (List Int)) (r:List Int):Ej ct (p++[r])=Ej ct p + JH ct p.length r:=by
 unfold Ej;rw [Br,Gg,EH,Dz,LZ];congr 1
 ·congr 1;apply EK;intro i hi;rw [Rb rfl,if_neg (by have:=jb8.mp hi;omega)]
 ·simp [Rb rfl]
def tC (a b c:Nat) (low high:List (List Int)) (ct:Nat->List Nat) (k:Nat) (r:List Int):List Int:=BS a b c (λ i=>low.getD i []) (λ i=>high.getD i []) ct k r
def mC (φ:Nat->List Int->Int) (a b c:Nat) (low high:List (List Int)) (ct:Nat->List Nat) (k m:Nat) (ah:Nat->Int):Int:=A1 (λ r=>φ m (tC a b c low high ct k r)) ((A7 b c).filter (HC b ah))
def yF (h:Mom φ op ψ) {k m:Nat}{r:List Int}:φ m (tC a b c low high ct (k + 1) r)=if E3 b (low.getD (a - 1 - k) []) r (high.getD (a - 1 - k) [])=true then mC φ a b c low high ct k (op m (JH ct (a - 1 - k) r)) (λ i=>r.getD i 0) else 0:=by
 show φ m (EA b _ _ _ _ r)=_;unfold EA;split
 ·rw [h.sh];exact h.sumT _ _
 ·exact h.nil m
def wz (h:Mom φ op ψ) (h0:∀ i j,i < a->j < b->0<=g low i j) (hc:∀ i j,i < a->j < b->g high i j<=c) {k m:Nat} (hk:k < a) {ah:Nat->Int}:mC φ a b c low high ct (k + 1) m ah=A1 (λ r=>mC φ a b c low high ct k (op m (JH ct (a - 1 - k) r)) (λ i=>r.getD i 0)) (Bs (g low (a - 1 - k)) (g high (a - 1 - k)) ah b):=by
 have e:=UG (b:=b) (c:=(c:Int)) (lo:=low.getD (a - 1 - k) []) (hi:=high.getD (a - 1 - k) []) (ah:=ah) (λ i hi=>h0 _ i (by omega) hi) (λ i hi=>hc _ i (by omega) hi);show A1 _ _=A1 _ (Bs (λ i=>(low.getD (a - 1 - k) []).getD i 0) (λ i=>(high.getD (a - 1 - k) []).getD i 0) ah b);rw [<- e,<- M5];exact Ef λ r _=>yF h
theorem w5 (h:Mom φ op ψ) {m:Nat}{ah:Nat->Int} (h':∀ i,i < b->0<=ah i):mC φ a b c low high ct 0 m ah=ψ m:=by
 let z:=A9 b (0:Int);have hz:z∈(A7 b c).filter (HC b ah):=by
  have zg:∀ j,z.getD j 0=0:=λ j=>by
   show (A9 b (0:Int)).getD j 0=0;rw [AN,Gi];split <;> rfl
  refine je4.mpr ⟨zqu.mpr ⟨EM,λ j _=>by rw [zg];exact C5 _,λ j _=>by rw [zg];omega,λ j _=>by rw [zg,zg];exact C5 _⟩,zhu.mpr λ j hj=>by rw [zg];exact h' j hj⟩
 have e:∀ r∈(A7 b c).filter (HC b ah),φ m (tC a b c low high ct 0 r)=if r=z then ψ m else 0:=λ r hr=>by
  have hr:=zqu.mp (je4.mp hr).1;show φ m (C6 r)=_;unfold C6;by_cases e:r=z
  ·rw [if_pos e,if_pos (by rw [e];show (A9 b (0:Int)).sum=0;induction b with | zero=>rfl | succ n ih=>rw [EL,Dy];simp)];exact h.one m
  ·rw [if_neg e,if_neg (λ h0=>e (by
    have:=Pe (r:=r) (λ j hj=>hr.lo j (by rw [<- hr.len];exact hj)) h0
    rw [hr.len] at this;exact this))]
   exact h.nil m
 show A1 _ _=_;rw [Ef e];have nd:((A7 b c).filter (HC b ah)).Nodup:=(J9 b c).filter _;generalize (A7 b c).filter (HC b ah)=l at hz nd;clear e;induction l with
 | nil=>cases hz
 | cons x l ih=>
  rw [jg9] at nd;rw [Du];by_cases ex:x=z
  ·rw [if_pos ex]
   have:A1 (λ r=>if r=z then ψ m else 0) l=0:=by
    rw [Ef (g:=λ _=>0) λ r hr=>if_neg λ er=>nd.1 (by rw [ex,<- er];exact hr)];exact XO l
   omega
  ·rw [if_neg ex,ih (by rcases jb9.mp hz with h | h;exact absurd h.symm ex;exact h) nd.2];omega
theorem Xc (h:Mom φ op ψ) (h0:∀ i j,i < a->j < b->0<=g low i j) (hc:∀ i j,i < a->j < b->g high i j<=c) (m:Nat):∀ (k:Nat),k<=a->A1 (λ p=>mC φ a b c low high ct k (op m (Ej ct p)) (ES c p)) (B3 (g low) (g high) c b (a - k))=A1 (λ p=>ψ (op m (Ej ct p))) (B3 (g low) (g high) c b a)
 | 0,_=>by
  rw [O1];refine Ef λ p hp=>w5 h λ i hi=>?_;unfold ES;cases a with
  | zero=>
   simp only [B3,jd0] at hp;subst hp;show (0:Int)<=c;omega
  | succ n=>
   have:=J6 hp
   rw [QR this.1.1];exact EF (h0 n i (by omega) hi) (this.2.1 n i (by omega) hi).1
 | k + 1,hk=>by
  have ih:=Xc h h0 hc m k (by omega);rw [<- ih,show a - k=(a - (k + 1)) + 1 by omega,B3,P5];refine Ef λ p hp=>?_;rw [wz h h0 hc (by omega),YJ,show a - 1 - k=a - (k + 1) by omega];refine Ef λ r _=>?_;rw [gL,<- h.as,(J6 hp).1.1];congr 1;unfold ES;rw [ZT]
def PZ (h:Mom φ op ψ) (p:Pile a b c low) (q:Pile a b c high) (m:Nat) {ps:List (Nat×Nat)}:φ m (BX a b c low high ps)=A1 (λ r=>ψ (op m (Ej (Bk ps) r))) (B3 (g low) (g high) c b a):=by
 have:=Xc (ct:=Bk ps) h (λ i j hi hj=>p.lo i j hi hj) (λ i j hi hj=>q.hi i j hi hj) m a (A4 _)
 rw [<- this,O2];unfold BX;rw [h.sumT];show _=A1 _ [[]];rw [Du];show A1 (λ r=>φ m (tC a b c low high (Bk ps) a r)) (A7 b c)=mC φ a b c low high (Bk ps) a (op m 0) (λ _=>c) + 0;unfold mC;rw [h.zr,je9.mpr λ r hr=>zhu.mpr λ j hj=>(zqu.mp hr).hi j hj];omega
end
def YZ:Mom (λ m x=>(x.drop m).sum) (λ m w=>m - w) (λ m=>if m=0 then 1 else 0):=by
 refine ⟨λ m=>by rw [S7];rfl,λ m x y=>?_,λ m w x=>?_,λ m=>?_,λ m u v=>by omega,λ m=>by omega⟩
 ·induction m generalizing x y with
  | zero=>exact P9 x y
  | succ m ih=>
   cases x with
   | nil=>show ((Av [] y).drop (m + 1)).sum=_;rw [Ky,FJ,S7];show _=(0:Int) + _;omega
   | cons u x=>
    cases y with
    | nil=>rw [FJ,S7];show _=_ + (0:Int);omega
    | cons v y=>exact ih x y
 ·show ((A9 w (0:Int)++x).drop m).sum=(x.drop (m - w)).sum;rw [List.drop_append,LZ,EM,List.drop_replicate]
  have:=M6 (w - m) []
  rw [FE] at this;rw [this];show (0:Int) + _=_;omega
 ·cases m with
  | zero=>rfl
  | succ m=>show (([1]:List Int).drop (m + 1)).sum=_;rw [if_neg (by omega)];simp
def Cc:Nat->List Int->Int
 | _,[]=>0
 | m,x::xs=>(m:Int) * x + Cc (m + 1) xs
theorem YR:∀ (w m:Nat) (x:List Int),Cc m (A9 w 0++x)=Cc (m + w) x
 | 0,m,x=>rfl
 | w + 1,m,x=>by
  rw [EL,HU,Cc,YR w (m + 1) x,show m + 1 + w=m + (w + 1) by omega,Int.mul_zero,Ho]
def w9:Mom Cc (λ m w=>m + w) (λ m=>(m:Int)):=by
 refine ⟨λ m=>rfl,λ m x y=>?_,λ m w x=>YR w m x,λ m=>?_,λ m u v=>by omega,λ m=>by omega⟩
 ·induction x generalizing m y with
  | nil=>rw [Ky,FJ];show _=(0:Int) + _;omega
  | cons u x ih=>
   cases y with
   | nil=>rw [FJ];show _=_ + (0:Int);omega
   | cons v y=>
    show Cc m ((u + v)::Av x y)=_;rw [Cc,Cc,Cc,ih,Int.mul_add];omega
 ·show (m:Int) * 1 + 0=m;omega
end QV
namespace K68
open PySem PySem.Spec PyProof.Rows L2 QQ QV
def XE {c:Fb}{b:Fs}{n:Nat}{ρ ρ2:Af} (hc:c ρ=.ok (true,ρ)) (hb:b ρ=.nx ρ2):EV c b (n + 1) ρ=EV c b n ρ2:=by
 rw [EV,hc];dsimp only;rw [hb]
def XD {c:Fb}{b:Fs}{n:Nat}{ρ:Af} (hc:c ρ=.ok (false,ρ)):EV c b (n + 1) ρ=.nx ρ:=by
 rw [EV,hc]
theorem Ol {c:Fb}{b:Fs} (I:Nat->Nat->Af->Prop) (h1:∀ x y ρ,0 < y->I x y ρ->c ρ=.ok (true,ρ)/\∃ ρ',b ρ=.nx ρ'/\I y (x % y) ρ') (h0:∀ x ρ,I x 0 ρ->c ρ=.ok (false,ρ)):∀ (k n x y:Nat) (ρ:Af),y < 2 ^ k->2 * k + 1<=n->I x y ρ->∃ ρ',EV c b n ρ=.nx ρ'/\I (Cn x y) 0 ρ'
 | 0,n,x,y,ρ,hy,hn,i=>by
  obtain rfl:y=0:=by simpa using hy
  obtain ⟨m,rfl⟩:∃ m,n=m + 1:=⟨n - 1,by omega⟩
  exact ⟨ρ,XD (h0 x ρ i),by rw [ZK];exact i⟩
 | k + 1,n,x,y,ρ,hy,hn,i=>by
  obtain ⟨m,rfl⟩:∃ m,n=m + 1 + 1:=⟨n - 2,by omega⟩
  rcases Nat.eq_zero_or_pos y with rfl | hp
  ·exact ⟨ρ,XD (h0 x ρ i),by rw [ZK];exact i⟩
  ·obtain ⟨c1,ρ1,e1,i1⟩:=h1 x y ρ hp i;have g1:Cn x y=Cn y (x % y):=by rw [LS x y,Zg,LS]
   have hr:=Nat.mod_lt x hp;rw [LU] at hy;rw [XE c1 e1,g1];by_cases hs:x % y < 2 ^ k
   ·exact Ol I h1 h0 k (m + 1) y (x % y) ρ1 hs (by omega) i1
   ·have hq:0 < x % y:=by have:=Nat.two_pow_pos k;omega
    obtain ⟨c2,ρ2,e2,i2⟩:=h1 y (x % y) ρ1 hq i1;have g2:Cn y (x % y)=Cn (x % y) (y % (x % y)):=by rw [LS y,Zg,LS]
    have hm:y % (x % y)=y - x % y:=by rw [Nat.mod_eq_sub_mod (by omega),Nat.mod_eq_of_lt (by omega)]
    rw [XE c2 e2,g2];exact Ol I h1 h0 k m (x % y) (y % (x % y)) ρ2 (by rw [hm];omega) (by omega) i2
def W4 {L:List (Option PV)}{O:List Nat}{ρ:Af}{i j:Nat}{fa:Fa}{a b:Int}{d e:Nat} (h:HV L O ρ) (hf:fa ρ=.ok ([(.int a,d),(.int b,e)],ρ)) (hi:i < L.length) (hj:j < L.length) (ho:i∉O/\j∉O):Nx (Dg i j fa) ρ (HV ((L.set i (some (.int a))).set j (some (.int b))) O):=by
 obtain ⟨ρ',e,h'⟩:=h.asg2 (.int a) (.int b) hi hj ho;refine ⟨ρ',?_,h'⟩;have e:B0 [i,j] [.int a,.int b] ρ=some ρ':=e;unfold Dg;rw [hf];dsimp only;rw [e]
def jm {x y:Nat} (hy:y < 2 ^ 100):Ut [.int x,.int y]=.ok (.int (Cn x y:Nat),om,.non):=by
 have H0:HV [some (.int x),some (.int y)] [] [some (.int x,om),some (.int y,om)]:=HV.of [some (.int x,om),some (.int y,om)];obtain ⟨ρ',e,h⟩:=Ol (c:=bT (Ab (B1 λ i j=>decide (j < i)) (Aa 1) (bC (.int 0)))) (b:=Dg 0 1 (Ad (Aa 1) (Ad (Ab C7 (Aa 0) (Aa 1)) (Ac)))) (λ x y ρ=>HV [some (.int x),some (.int y)] [] ρ/\ρ[0]?=some (some (.int x,om))) (λ x y ρ hp ⟨h,_⟩=>by
  have q:=AH (ET (p:=λ i j=>decide (j < i)) (g:=bC (.int 0)) (j:=0) (e:=om) (h.var (j:=1) (x:=.int y) rfl) rfl);rw [decide_eq_true (by omega)] at q;obtain ⟨ρ',e,h'⟩:=W4 (i:=0) (j:=1) h (A6 (h.var (j:=1) (x:=.int y) rfl) (AF (E7 (h.var (j:=0) (x:=.int x) rfl) (h.var (j:=1) (x:=.int y) rfl) (by omega)))) (show 0 < 2 by decide) (show 1 < 2 by decide) ⟨λ h=>(nomatch h),λ h=>(nomatch h)⟩;refine ⟨q,ρ',e,h',?_⟩;have hl:=h.len;unfold Dg at e;rw [A6 (h.var (j:=1) (x:=.int y) rfl) (AF (E7 (h.var (j:=0) (x:=.int x) rfl) (h.var (j:=1) (x:=.int y) rfl) (by omega)))] at e;dsimp only at e;rw [B0,asgN,if_pos (by rw [hl];exact Z6 1)] at e;replace e:(match B0 [1] [.int ((x:Int) % y)] (ρ.set 0 (some (.int y,dv (.int y)))) with | some ρ2=>Rs.nx ρ2 | none=>.no)=.nx ρ':=e;rw [B0,asgN,if_pos (by rw [EI,hl];exact Gd 1)] at e;cases e;rw [Gf (by decide),Gh (by rw [hl];exact Z6 1)];rfl) (λ x ρ ⟨h,_⟩=>by
  have q:=AH (ET (p:=λ i j=>decide (j < i)) (g:=bC (.int 0)) (j:=0) (e:=om) (h.var (j:=1) (x:=.int (0:Nat)) rfl) rfl);rw [decide_eq_false (by omega)] at q;exact q) 100 300 x y _ hy (by decide) ⟨H0,rfl⟩
 refine BB (ρ':=ρ') (b:=TY) rfl ((Be e).trans ?_);unfold DY;rw [h.2]
def A5 (n d:Nat):PV:=.tup [.int ((n / Cn n d:Nat):Int),.int ((d / Cn n d:Nat):Int)]
def WC {n d:Nat} (hd:0 < d) (hb:d < 2 ^ 100):∃ e,M1 [.int n,.int d]=.ok (A5 n d,e,.non):=by
 have H0:HV [some (.int n),some (.int d),none] [] [some (.int n,om),some (.int d,om),none]:=HV.of [some (.int n,om),some (.int d,om),none];have gp:0 < Cn n d:=SU _ hd;have gl:Cn n d<=d:=SH _ hd;refine (λ ⟨y,e,h1,h2⟩=>⟨e,by rw [h1,h2]⟩:(∃ y e,M1 [.int n,.int d]=.ok (y,e,.non)/\y=A5 n d)->_) (Ge.fn (b:=OQ) (R:=λ y=>y=A5 n d) rfl (show Ge OQ [some (.int n,om),some (.int d,om),none] _ from ?_));refine Ge.ex (H0.setO (x:=.int (Cn n d:Nat)) (AE (xs:=[(.int n,om),(.int d,om)]) (A6 (H0.var rfl) (AF (H0.var rfl))) (jm hb)) (show 2 < 3 by decide)) λ ρ1 H1=>?_;have e1:=FL (H1.var (j:=0) (x:=.int n) rfl) (H1.var (j:=2) (x:=.int (Cn n d:Nat)) rfl) (by omega) (by omega);have e2:=FL (H1.var (j:=1) (x:=.int d) rfl) (H1.var (j:=2) (x:=.int (Cn n d:Nat)) rfl) (by omega) (by omega);exact ⟨_,_,_,BN (Cw (A6 e1 (AF e2)) rfl),rfl⟩
end K68
namespace QV
open PySem PySem.Spec PyProof.Rows L2 QQ
def Rm {elt:Fx}{p q:QQ.Slot}{u v:Int}{y:PV}{xs:List PV}{acc:List (PV×Nat)} (he:elt [p,q,some (.int u,om),some (.int v,om)]=.ok (y,om,[p,q,some (.int u,om),some (.int v,om)])) (ha:acc.length < Aw):
  DC 2 (asgT [2,3]) AU elt (.tup [.int u,.int v]::xs) [p,q] acc=DC 2 (asgT [2,3]) AU elt xs [p,q] (acc++[(y,om)]):=by
 conv=>lhs;unfold DC
 have ea:asgT [2,3] (.tup [.int u,.int v]) ([p,q]++A9 2 none)=some [p,q,some (.int u,om),some (.int v,om)]:=rfl;rw [ea];dsimp only
 have:AU [p,q,some (.int u,om),some (.int v,om)]=.ok (true,[p,q,some (.int u,om),some (.int v,om)]):=rfl
 rw [this];dsimp only [Rz.bindN];rw [if_pos rfl,he];dsimp only;rw [if_pos ha];rfl
def bK {a b c:Nat}{x:C3} (h1:x.1 < a) (h2:x.2.1 < b) (h3:x.2.2 < c):f_is_cube_in [bx a b c,c3 x]=.ok (.bl true,om,.non):=by
 have z:=sz;let R:Af:=[some (bx a b c,0),some (c3 x,0)]
 have e0:∀ u v:Int,0<=u->u < v->(CW (Ap f_is_whole_number (Ad (Aa 2) (Ac))) (E5 (λ i j=>decide (i<=j)) (λ i j=>decide (i < j)) (bC (.int 0)) (Aa 2) (Aa 3))) [some (bx a b c,0),some (c3 x,0),some (.int u,om),some (.int v,om)]=.ok (.bl true,om,[some (bx a b c,0),some (c3 x,0),some (.int u,om),some (.int v,om)]):=λ u v hu hv=>by
  have:=Og (a:=true) (f:=Ap f_is_whole_number (Ad (Aa 2) (Ac))) (g:=E5 (λ i j=>decide (i<=j)) (λ i j=>decide (i < j)) (bC (.int 0)) (Aa 2) (Aa 3)) (ρ:=[some (bx a b c,0),some (c3 x,0),some (.int u,om),some (.int v,om)]) (AE (xs:=[(.int u,om)]) rfl (whole_ok u)) (λ _=>Kr (i:=0) (j:=u) (k:=v) rfl rfl rfl) rfl
  rw [decide_eq_true hu,decide_eq_true hv] at this;exact this
 have e1:DT .zp (Ad (Aa 1) (Ad (Aa 0) (Ac))) 2 (asgT [2,3]) AU (CW (Ap f_is_whole_number (Ad (Aa 2) (Ac))) (E5 (λ i j=>decide (i<=j)) (λ i j=>decide (i < j)) (bC (.int 0)) (Aa 2) (Aa 3))) R=.ok (.lst ([(),(),()].map λ _=>.bl true),om,R):=by
  unfold DT Ec Df;have ef:(Ad (Aa 1) (Ad (Aa 0) (Ac))) R=.ok ([(c3 x,0),(bx a b c,0)],R):=rfl;rw [ef];dsimp only [Rz.bind];have ev:K8 .zp (List.map (·.1) [(c3 x,0),(bx a b c,0)])=some [.tup [.int (x.1:Int),.int (a:Int)],.tup [.int (x.2.1:Int),.int (b:Int)],.tup [.int (x.2.2:Int),.int (c:Int)]]:=rfl;rw [ev];dsimp only;rw [Rm (e0 _ _ (by omega) (by omega)) (by show 0 < Aw;omega),Rm (e0 _ _ (by omega) (by omega)) (by show 1 < Aw;omega),Rm (e0 _ _ (by omega) (by omega)) (by show 2 < Aw;omega)];rfl
 refine BB rfl (ρ':=R) ?_;show Xf_is_cube_in R=_;refine (Fw (ρ1:=R) (by kernel_rfl)).trans (BN ?_);rw [G8 e1];rfl
end QV
namespace K68
open PySem PySem.Spec PyProof.Rows L2 QQ QV
section
variable {a b c:Nat}{low high:List (List Int)}
def NN (l:List Int):Prop:=∀ x∈l,0<=x
theorem NN.add:∀ {x y:List Int},NN x->NN y->NN (Av x y)
 | [],y,_,h=>by rw [Ky,FJ];exact h
 | u::x,[],h,_=>by rw [FJ];exact h
 | u::x,v::y,h,h'=>λ z hz=>by
  rcases jb9.mp (show z∈(u + v)::Av x y from hz) with rfl | hz
  ·have:=h u AM
   have:=h' v AM
   omega
  ·exact NN.add (λ w hw=>h w (AO _ hw)) (λ w hw=>h' w (AO _ hw)) z hz
theorem NN.sumT {f:List Int->List Int}:∀ {l:List (List Int)},(∀ r∈l,NN (f r))->NN (sumT f l)
 | [],_=>λ _ h=>(nomatch h)
 | r::l,h=>by rw [Hy];exact NN.add (h r AM) (NN.sumT λ q hq=>h q (AO _ hq))
theorem NN.tab {lo hi:Nat->List Int}{ct:Nat->List Nat}{c:Int}:∀ (k:Nat) (r:List Int),NN (BS a b c lo hi ct k r)
 | 0,r=>by
  show NN (C6 r);unfold C6;split
  ·intro x hx;rw [jd0.mp hx];decide
  ·exact λ _ h=>(nomatch h)
 | k + 1,r=>by
  show NN (EA b _ _ _ _ r);unfold EA;split
  ·intro x hx;rcases jg8.mp hx with hx | hx
   ·rw [(List.mem_replicate.mp hx).2];exact C5 _
   ·exact NN.sumT (λ q _=>NN.tab k q) x hx
  ·exact λ _ h=>(nomatch h)
def NN.tally {ps:List (Nat×Nat)}:NN (BX a b c low high ps):=NN.sumT λ q _=>NN.tab a q
theorem NN.le:∀ {l:List Int},NN l->∀ x∈l,x<=l.sum
 | [],_,_,h=>(nomatch h)
 | y::l,h,x,hx=>by
  have h1:NN l:=λ z hz=>h z (AO _ hz);have h2:0<=l.sum:=by
   clear hx h;induction l with
   | nil=>exact C5 _
   | cons z l ih=>rw [Dy];have:=h1 z AM;have:=ih λ w hw=>h1 w (AO _ hw);omega
  have h3:=h y AM;rw [Dy];rcases jb9.mp hx with rfl | hx
  ·omega
  ·have:=NN.le h1 x hx;omega
def NN.drop {l:List Int} (h:NN l) (m:Nat):NN (l.drop m):=λ x hx=>h x (ZS hx)
def NN.ok {l:List Int} (h:NN l) (h1:l.length<=1000) {m:Int} (h2:∀ x∈l,x<=m) (hm:m<=2 ^ 40):Eh l=true:=by
 unfold Eh;rw [AK];refine ⟨decide_eq_true (by omega),jb1.mpr λ x hx=>?_⟩
 have:=h x hx
 have:=h2 x hx
 rw [decide_eq_true (by omega),decide_eq_true (by omega)];rfl
def PB (a b c:Nat) (low high:List (List Int)):List (List (List Int)):=B3 (g low) (g high) c b a
def GD (p:Pile a b c low) {t:List (List Int)} (h:t∈PB a b c low high):Pile a b c t:=Vq (λ i j=>SY p i j) h
def nK (a b c:Nat) (low high:List (List Int)) (i j k:Nat):Nat:=((PB a b c low high).filter λ p=>decide ((k:Int) < g p i j)).length
theorem YS {α:Type}{p:α->Bool}:∀ l:List α,A1 (λ x=>if p x=true then (1:Int) else 0) l=((l.filter p).length:Int)
 | []=>rfl
 | x::l=>by
  rw [Du,YS l,Ez];split
  ·rw [B8];omega
  ·omega
def R3 {i j i':Nat}:Bk [(i,j)] i'=if i=i' then [j] else []:=by
 unfold Bk;by_cases h:i=i' <;> simp [h]
theorem dy {n i:Nat} (hi:i < n) (v:Nat):((Ay n).map λ k=>if i=k then v else 0).sum=v:=by
 induction n with
 | zero=>omega
 | succ n ih=>
  rw [EH,Dz,LZ];by_cases h:i=n
  ·subst h
   have:((Ay i).map λ k=>if i=k then v else 0)=(Ay i).map λ _=>0:=EK λ k hk=>if_neg (by have:=jb8.mp hk;omega)
   have z:∀ l:List Nat,(l.map λ _=>0).sum=0:=λ l=>by
    induction l with
    | nil=>rfl
    | cons x l ih=>rw [Bc,Dy,ih]
   rw [this,z];simp
  ·rw [ih (by omega)];simp [h]
def WM {t:List (List Int)} (p:Pile a b c t) {i j:Nat} (hi:i < a) (hj:j < b):Ej (Bk [(i,j)]) t=(g t i j).toNat:=by
 unfold Ej;rw [p.tab.1,<- dy hi (g t i j).toNat];congr 1;apply EK;intro k _;unfold JH;rw [R3];split
 ·rename_i e;subst e;unfold Ct;simp [g]
 ·rfl
def dz (p:Pile a b c low) (q:Pile a b c high) {i j:Nat} (hi:i < a) (hj:j < b) (k:Nat):((BX a b c low high [(i,j)]).drop (k + 1)).sum=(nK a b c low high i j k:Int):=by
 have:=PZ YZ p q (k + 1) (ps:=[(i,j)])
 rw [this];unfold nK;rw [<- YS];refine Ef λ t ht=>?_;have pt:=GD p ht;have h0:=pt.lo i j hi hj;rw [WM pt hi hj];by_cases h:(k:Int) < g t i j
 ·rw [if_pos (by omega),if_pos (decide_eq_true h)]
 ·rw [if_neg (by omega),if_neg (by rw [decide_eq_false h];decide)]
def K2 (p:Pile a b c low) (q:Pile a b c high) (ps:List (Nat×Nat)):(BX a b c low high ps).sum=((PB a b c low high).length:Int):=by
 have:=PZ YZ p q 0 (ps:=ps)
 rw [SA] at this;rw [this,<- Py];exact Ef λ t _=>if_pos (by omega)
def U8 (p:Pile a b c low) (q:Pile a b c high) (ps:List (Nat×Nat)):Cc 0 (BX a b c low high ps)=A1 (λ t=>((Ej (Bk ps) t:Nat):Int)) (PB a b c low high):=by
 rw [PZ w9 p q 0];exact Ef λ t _=>by rw [Hq]
end
section
variable {a b c:Nat}{low high:List (List Int)}
structure Bt (a b c:Nat) (low high:List (List Int)):Prop where
 N:BoxN a b c
 bd:(A7 b c).length ^ (a + 1)<=2 ^ 30
 ab:a<=6/\b<=6/\c<=6
 p:Pile a b c low
 q:Pile a b c high
 le:Ke a b low high=true
def Bt.many (B:Bt a b c low high):((PB a b c low high).length:Int)<=2 ^ 30:=by
 have t:=UC (a:=a) (b:=b) (c:=(c:Int)) (low:=low) (high:=high) (by omega) (λ i j hi hj=>B.p.lo i j hi hj) (λ i j hi hj=>B.q.hi i j hi hj);unfold PB;rw [<- t,K5];have h1:=MF (f:=DE a b c (λ i=>low.getD i []) (λ i=>high.getD i []) a) (m:=(((A7 b c).length ^ a:Nat):Int)) (by omega) (l:=A7 b c) λ r _=>(RQ a r).2;have h2:(((A7 b c).length ^ (a + 1):Nat):Int)<=((2 ^ 30:Nat):Int):=by exact_mod_cast B.bd
 rw [LU,FD,Gb] at h2;exact EF h1 (EF h2 (by decide))
def Bt.pos (B:Bt a b c low high):0 < (PB a b c low high).length:=vF B.p B.q B.le
def Bt.must (B:Bt a b c low high):Jw [bx a b c,tb low,tb high]=.ok (.non,om,.non):=by
 have ha:=B.N.box.ha;have hb:=B.N.box.hb;let R:Af:=[some (bx a b c,0),some (tb low,0),some (tb high,0)]
 have l:=wu B.p.tab B.q.tab (by omega) (by omega) (Y6 B.N B.p B.q);rw [B.le] at l;exact NO (ρ':=R) (b:=TX) rfl ((DO (AH (Gs (b:=true) (d:=om) (AE (xs:=[(bx a b c,0),(tb low,0),(tb high,0)]) rfl l)))).trans rfl)
def Bt.tally (B:Bt a b c low high) {ps:List (Nat×Nat)} (hp:∀ z∈ps,z.2 < b) (hm:∀ i,(Bk ps i).length<=6) (hl:ps.length<=1000):f_tally_between [bx a b c,tb low,tb high,.lst (ps.map pr)]=.ok (il (BX a b c low high ps),om,.non)/\(BX a b c low high ps).length<=300:=by
 have h:=B.ab;have hx:1 + a * (6 * c)<=300:=by
  have:a * (6 * c)<=6 * (6 * 6):=FZ h.1 (Nat.mul_le_mul_left _ h.2.2)
  omega
 refine ⟨YN B.N.box B.p.tab B.q.tab hp hm (by omega) hl,?_⟩;unfold BX;exact Ii λ r hr=>BF (K6 hm (λ i=>MX hp) a r hr) hx
def Bt.sums (B:Bt a b c low high) {ps:List (Nat×Nat)} (hl:(BX a b c low high ps).length<=300) (m:Nat):Eh ((BX a b c low high ps).drop m)=true:=by
 refine (NN.tally.drop m).ok (by rw [Kh];omega) (m:=2 ^ 30) (λ x hx=>?_) (by decide);have h1:=NN.tally.le x (ZS hx);rw [K2 B.p B.q] at h1;exact EF h1 B.many
def QF {f j:Fx}{ρ:Af}{xs:List Int}{n d e:Nat} (h1:f ρ=.ok (il xs,d,ρ)) (h2:j ρ=.ok (.int (n:Int),e,ρ)):DQ f (some j) none ρ=.ok (il (xs.drop n),om,ρ):=by
 have ec:Dp (xs.map PV.int) (some (n:Int)) none=(xs.drop n).map PV.int:=by
  unfold Dp;rw [HT.sIx_nat,HT.sIx_none,Zt];by_cases h:n<=(xs.map PV.int).length
  ·rw [Ma h];exact OF (by rw [Kh];exact A4 _)
  ·rw [Nat.min_eq_right (by omega),OG (A4 _),OG (by omega)];exact Zv
 unfold DQ;rw [h1];dsimp only [Rz.bind,Km];rw [h2];dsimp only [Ex,il];rw [ec,KD]
def uJ (B:Bt a b c low high) {i j k:Nat} (hi:i < a) (hj:j < b) (hk:k < c):∃ e,Us [bx a b c,tb low,tb high,c3 (i,j,k)]=.ok (A5 (nK a b c low high i j k) (PB a b c low high).length,e,.non):=by
 have hM:=B.many;have hP:=B.pos;let L (s4 s5 s6 s7:Option PV):List (Option PV):=[some (bx a b c),some (tb low),some (tb high),some (c3 (i,j,k)),s4,s5,s6,s7]
 let ρ0:Af:=[some (bx a b c,0),some (tb low,0),some (tb high,0),some (c3 (i,j,k),0),none,none,none,none]
 have H0:HV (L none none none none) [] ρ0:=HV.of ρ0
 suffices h:Ge TU ρ0 λ y=>y=A5 (nK a b c low high i j k) (PB a b c low high).length by
  obtain ⟨y,e,h1,rfl⟩:=Ge.fn (np:=4) (k:=4) (xs:=[bx a b c,tb low,tb high,c3 (i,j,k)]) rfl h;exact ⟨e,h1⟩
 refine Ge.ex (P:=λ ρ=>ρ=ρ0) ⟨ρ0,GF (AE (xs:=[(bx a b c,0),(tb low,0),(tb high,0)]) rfl B.must),rfl⟩ λ ρ e=>?_;subst e;refine Ge.ex (P:=λ ρ=>ρ=ρ0) (Nx.no (AH (Gs (b:=true) (d:=om) (AE (xs:=[(bx a b c,0),(c3 (i,j,k),0)]) rfl (bK hi hj hk)))) rfl) λ ρ e=>?_;subst e;refine Ge.ex (H0.unp3 (x:=.int (i:Int)) (y:=.int (j:Int)) (z:=.int (k:Int)) (d:=0) (H0.var (j:=3) rfl) (show 4 < 8 by decide) (show 5 < 8 by decide) (show 6 < 8 by decide)) λ ρ1 H1=>?_;obtain ⟨t1,t2⟩:=B.tally (ps:=[(i,j)]) (λ z hz=>by rw [jd0.mp hz];exact hj) (λ k=>by rw [R3];split <;> simp) (by simp);refine Ge.ex (H1.setO (x:=il (BX a b c low high [(i,j)])) (AE (xs:=[(bx a b c,0),(tb low,0),(tb high,0),(.lst [pr (i,j)],om)]) (A6 (H1.var rfl) (A6 (H1.var rfl) (A6 (H1.var rfl) (AF (Cw (AF (Cw (A6 (H1.var rfl) (AF (H1.var rfl))) rfl)) rfl))))) t1) (show 7 < 8 by decide)) λ ρ2 H2=>?_;have v7:Aa 7 ρ2=.ok (il (BX a b c low high [(i,j)]),0,ρ2):=H2.var rfl;have s1:=Io (AF (QF (n:=k + 1) v7 (ER (g:=bC (.int 1)) (j:=1) (e:=om) (H2.var (j:=6) (x:=.int (k:Int)) rfl) rfl))) (B.sums t2 (k + 1));have s2:=Io (AF v7) (by have:=B.sums t2 0;rwa [SA] at this);rw [dz B.p B.q hi hj k] at s1;rw [K2 B.p B.q] at s2;obtain ⟨e,r⟩:=WC (n:=nK a b c low high i j k) hP (by omega);exact ⟨_,_,_,BN (AE (xs:=[(.int (nK a b c low high i j k:Int),om),(.int ((PB a b c low high).length:Int),om)]) (A6 s1 (AF s2)) r),rfl⟩
def DW:Nat->List Int->List (Nat×Int)
 | _,[]=>[]
 | k,x::xs=>(k,x)::DW (k + 1) xs
def Jj (z:Nat×Int):PV:=.tup [.int (z.1:Int),.int z.2]
theorem PD:∀ (xs:List Int) (k:Nat),E8 k (xs.map PV.int)=(DW k xs).map Jj
 | [],_=>rfl
 | x::xs,k=>by rw [Bc,E8,PD xs (k + 1)];rfl
theorem PF:∀ (xs:List Int) (k:Nat),((DW k xs).map λ z=>(z.1:Int) * z.2).sum=Cc k xs
 | [],_=>rfl
 | x::xs,k=>by rw [DW,Bc,Dy,PF xs (k + 1)];rfl
theorem Kt:∀ (xs:List Int) (k:Nat),(DW k xs).length=xs.length
 | [],_=>rfl
 | x::xs,k=>by rw [DW,B8,Kt xs (k + 1)];rfl
theorem Ku:∀ {xs:List Int}{k:Nat}{z:Nat×Int},z∈DW k xs->z.1 < k + xs.length/\z.2∈xs
 | [],_,_,h=>(nomatch h)
 | x::xs,k,z,h=>by
  rcases jb9.mp (show z∈(k,x)::DW (k + 1) xs from h) with rfl | h
  ·exact ⟨by simp,AM⟩
  ·have:=Ku h
   exact ⟨by rw [B8];omega,AO _ this.2⟩
def w6 {xs:List Int}{n d:Nat} (h:NN xs) (hl:xs.length<=300) (hx:∀ x∈xs,x<=2 ^ 30) (h1:Cc 0 xs=(n:Int)) (h2:xs.sum=(d:Int)) (hd:0 < d) (hb:d < 2 ^ 100):∃ e,M0 [il xs]=.ok (A5 n d,e,.non):=by
 have z:=sz;let R:Af:=[some (il xs,0)]
 have c1:=Rq (k:=2) (v:=.enm) (fa:=Ad (Aa 0) (Ac)) (asg:=asgT [1,2]) (elt:=Ab AR (Aa 1) (Aa 2)) (enc:=Jj) (q:=λ z=>.int ((z.1:Int) * z.2)) (E:=λ z=>[some (.int (z.1:Int),om),some (.int z.2,om)]) (ρ:=R) (ρ1:=R) (as:=[(il xs,0)]) (DW 0 xs) rfl (by show some (E8 0 (xs.map PV.int))=_;rw [PD]) (λ _ _=>rfl) (λ z hz=>Dr (i:=(z.1:Int)) (j:=z.2) (d:=om) (e:=om) rfl rfl (.inl (by have:=(Ku hz).1;omega))) (by rw [Kt];omega);have e1:((DW 0 xs).map λ z=>PV.int ((z.1:Int) * z.2))=((DW 0 xs).map λ z=>(z.1:Int) * z.2).map PV.int:=by rw [Cr];rfl
 rw [e1] at c1;have bnd:∀ y∈(DW 0 xs).map (λ z=>(z.1:Int) * z.2),0<=y/\y<=300 * 2 ^ 30:=λ y hy=>by
  obtain ⟨w,hw,rfl⟩:=jc2.mp hy;have m:=Ku hw;have m1:=h _ m.2;have m2:=hx _ m.2;refine ⟨Zw (by omega) m1,?_⟩;exact S9 (by omega) m2 m1 (by decide)
 have s1:=Io (AF c1) (NN.ok (m:=300 * 2 ^ 30) (λ y hy=>(bnd y hy).1) (by rw [AJ,Kt];omega) (λ y hy=>(bnd y hy).2) (by decide));have s2:=Io (fa:=Ad (Aa 0) Ac) (ρ:=R) (ρ1:=R) (xs:=xs) (d:=0) rfl (h.ok (by omega) hx (by decide));rw [PF,h1] at s1;rw [h2] at s2;obtain ⟨e,r⟩:=WC (n:=n) hd hb;exact ⟨e,BB (ρ':=R) (b:=TV) rfl (BN (AE (xs:=[(.int (n:Int),om),(.int (d:Int),om)]) (A6 s1 (AF s2)) r))⟩
def hK (a b c:Nat) (low high:List (List Int)) (i j:Nat):Nat:=((PB a b c low high).map λ p=>(g p i j).toNat).sum
theorem Px {α:Type}{f:α->Nat}:∀ l:List α,A1 (λ x=>(f x:Int)) l=(((l.map f).sum:Nat):Int)
 | []=>rfl
 | x::l=>by rw [Du,Px l,Bc,Dy];omega
def Bt.mean (B:Bt a b c low high) {ps:List (Nat×Nat)} (hp:∀ z∈ps,z.2 < b) (hm:∀ i,(Bk ps i).length<=6) (hl:ps.length<=1000):∃ e,M0 [il (BX a b c low high ps)]=.ok (A5 ((PB a b c low high).map (Ej (Bk ps))).sum (PB a b c low high).length,e,.non):=by
 obtain ⟨t1,t2⟩:=B.tally hp hm hl;have hM:=B.many;refine w6 NN.tally t2 (λ x hx=>?_) (by rw [U8 B.p B.q,Px]) (K2 B.p B.q ps) B.pos (by omega)
 have:=NN.tally.le x hx
 rw [K2 B.p B.q] at this;omega
def gO (B:Bt a b c low high) {i j:Nat} (hi:i < a) (hj:j < b):∃ e,Ur [bx a b c,tb low,tb high,.int (i:Int),.int (j:Int)]=.ok (A5 (hK a b c low high i j) (PB a b c low high).length,e,.non):=by
 let ρ0:Af:=[some (bx a b c,0),some (tb low,0),some (tb high,0),some (.int (i:Int),om),some (.int (j:Int),om)]
 have hp:∀ z∈[(i,j)],z.2 < b:=λ z hz=>by rw [jd0.mp hz];exact hj
 have hm:∀ k,(Bk [(i,j)] k).length<=6:=λ k=>by rw [R3];split <;> simp
 obtain ⟨t1,_⟩:=B.tally hp hm (by simp);obtain ⟨e,r⟩:=B.mean hp hm (by simp);have eh:((PB a b c low high).map (Ej (Bk [(i,j)]))).sum=hK a b c low high i j:=congrArg LR (EK λ t ht=>WM (GD B.p ht) hi hj);rw [eh] at r;have v1:CF (Ap Jw (Ad (Aa 0) (Ad (Aa 1) (Ad (Aa 2) (Ac))))) ρ0=.nx ρ0:=GF (AE (xs:=[(bx a b c,0),(tb low,0),(tb high,0)]) rfl B.must);have v2:bT (AQ Co (Ap Uw (Ad (Aa 0) (Ad (Aa 3) (Ad (Aa 4) (Ac)))))) ρ0=.ok (false,ρ0):=AH (Gs (b:=true) (d:=om) (AE (xs:=[(bx a b c,0),(.int (i:Int),om),(.int (j:Int),om)]) rfl (u6 hi hj)));exact ⟨e,BB (ρ':=ρ0) (b:=TR) rfl ((Be v1).trans ((Fw v2).trans (BN (AE (xs:=[(il (BX a b c low high [(i,j)]),om)]) (AF (AE (xs:=[(bx a b c,0),(tb low,0),(tb high,0),(.lst [pr (i,j)],om)]) rfl t1)) r))))⟩
end
def KZ {k n d:Nat} (hk:0 < k):A5 (k * n) (k * d)=A5 n d:=by
 unfold A5;rw [Z5,ZR _ _ hk,ZR _ _ hk]
def RM (n d:Nat) (hd:0 < d):∃ k n' d':Nat,0 < k/\0 < d'/\n=k * n'/\d=k * d'/\A5 n d=.tup [.int (n':Int),.int (d':Int)]:=by
 have gp:0 < Cn n d:=SU _ hd;have e1:=ZO (Nat.gcd_dvd_left n d);have e2:=ZO (ZI n d);exact ⟨Cn n d,n / Cn n d,d / Cn n d,gp,Nat.div_pos (SH _ hd) gp,e1.symm,e2.symm,rfl⟩
def MY {n d:Nat} (hd:0 < d) (hn:n < 2 ^ 100 + 2 ^ 100) (hb:d < 2 ^ 100):∃ e,Ie [.int n,.int d]=.ok (A5 n d,e,.non):=by
 let L (s2 s3:Option PV):List (Option PV):=[some (.int n),some (.int d),s2,s3]
 have H0:HV (L none none) [] [some (.int n,om),some (.int d,om),none,none]:=HV.of [some (.int n,om),some (.int d,om),none,none];have gp:0 < Cn n d:=SU _ hd;have gl:Cn n d<=d:=SH _ hd;refine (λ ⟨y,e,h1,h2⟩=>⟨e,by rw [h1,h2]⟩:(∃ y e,Ie [.int n,.int d]=.ok (y,e,.non)/\y=A5 n d)->_) (Ge.fn (b:=OP) (R:=λ y=>y=A5 n d) rfl (show Ge OP [some (.int n,om),some (.int d,om),none,none] _ from ?_));refine Ge.ex (H0.setO (x:=.int n) (Cw (A6 (H0.var (j:=0) rfl) (AF (Fq (f:=bC (.int 0)) (i:=0) (d:=om) rfl (H0.var (j:=0) rfl)))) (by
  show some (PV.int (if (0:Int) - (n:Int) > (n:Int) then 0 - (n:Int) else n),om)=_;rw [if_neg (by omega)])) (show 2 < 4 by decide)) λ ρ1 H1=>?_
 refine Ge.ex (H1.setO (x:=.int d) (H1.var (j:=1) rfl) (show 3 < 4 by decide)) λ ρ2 H2=>?_;refine Ge.ex (P:=λ ρ=>HV (L (some (.int (0:Nat))) (some (.int (Cn d n:Nat)))) [] ρ) (Ol (λ x y ρ=>HV (L (some (.int y)) (some (.int x))) [] ρ) (λ x y ρ hp h=>by
  have q:=AH (ET (p:=λ i j=>decide (j < i)) (g:=bC (.int 0)) (j:=0) (e:=om) (h.var (j:=2) (x:=.int y) rfl) rfl);rw [decide_eq_true (by omega)] at q;obtain ⟨ρ',e,h'⟩:=W4 (i:=2) (j:=3) h (A6 (E7 (h.var (j:=3) (x:=.int x) rfl) (h.var (j:=2) (x:=.int y) rfl) (by omega)) (AF (h.var (j:=2) (x:=.int y) rfl))) (show 2 < 4 by decide) (show 3 < 4 by decide) ⟨λ h=>(nomatch h),λ h=>(nomatch h)⟩;exact ⟨q,ρ',e,h'⟩) (λ x ρ h=>by
  have q:=AH (ET (p:=λ i j=>decide (j < i)) (g:=bC (.int 0)) (j:=0) (e:=om) (h.var (j:=2) (x:=.int (0:Nat)) rfl) rfl);rw [decide_eq_false (by omega)] at q;exact q) 101 300 d n ρ2 (by omega) (by decide) (H2.weak ⟨rfl,rfl,rfl,rfl,trivial⟩ λ _ h=>h)) λ ρ3 H3=>?_
 rw [LS] at H3;have e1:=FL (H3.var (j:=0) (x:=.int n) rfl) (H3.var (j:=3) (x:=.int (Cn n d:Nat)) rfl) (by omega) (by omega);have e2:=FL (H3.var (j:=1) (x:=.int d) rfl) (H3.var (j:=3) (x:=.int (Cn n d:Nat)) rfl) (by omega) (by omega);exact ⟨_,_,_,BN (Cw (A6 e1 (AF e2)) rfl),rfl⟩
def X6 {n1 d1 n2 d2:Nat} (h1:0 < d1) (h2:0 < d2) (b1:d1 < 2 ^ 40) (b2:d2 < 2 ^ 40) (c1:n1 < 2 ^ 60) (c2:n2 < 2 ^ 60):∃ e,Jv [A5 n1 d1,A5 n2 d2]=.ok (A5 (n1 * d2 + n2 * d1) (d1 * d2),e,.non):=by
 obtain ⟨k,x,y,hk,hy,rfl,rfl,e1⟩:=RM n1 d1 h1;obtain ⟨l,u,v,hl,hv,rfl,rfl,e2⟩:=RM n2 d2 h2;have lk:∀ {w:Nat},w<=k * w:=λ {w}=>ZX w hk;have ll:∀ {w:Nat},w<=l * w:=λ {w}=>ZX w hl;have l1:=lk (w:=x);have l2:=lk (w:=y);have l3:=ll (w:=u);have l4:=ll (w:=v);rw [e1,e2];let R:Af:=[some (.tup [.int (x:Int),.int (y:Int)],0),some (.tup [.int (u:Int),.int (v:Int)],0)]
 have i00:Ab An (Aa 0) (bC (.int 0)) R=.ok (.int (x:Int),om,R):=rfl;have i01:Ab An (Aa 0) (bC (.int 1)) R=.ok (.int (y:Int),om,R):=rfl;have i10:Ab An (Aa 1) (bC (.int 0)) R=.ok (.int (u:Int),om,R):=rfl;have i11:Ab An (Aa 1) (bC (.int 1)) R=.ok (.int (v:Int),om,R):=rfl;have a1:=ER (Dr i00 i11 (.inl (by omega))) (Dr i10 i01 (.inl (by omega)));have a2:=Dr i01 i11 (.inl (by omega));have hyv:y * v < 2 ^ 100:=by
  have:y * v < 2 ^ 40 * 2 ^ 40:=SG (by omega) (by omega)
  omega
 have hxv:x * v + u * y < 2 ^ 100 + 2 ^ 100:=by
  have q1:x * v < 2 ^ 60 * 2 ^ 40:=SG (by omega) (by omega);have q2:u * y < 2 ^ 60 * 2 ^ 40:=SG (by omega) (by omega);omega
 obtain ⟨e,r⟩:=MY (n:=x * v + u * y) (d:=y * v) (S4 hy hv) hxv hyv;have em:A5 (k * x * (l * v) + l * u * (k * y)) (k * y * (l * v))=A5 (x * v + u * y) (y * v):=by
  have en:k * x * (l * v) + l * u * (k * y)=k * l * (x * v + u * y):=by rw [Nat.mul_add];simp [FD,ZH,Zs]
  have ed:k * y * (l * v)=k * l * (y * v):=by simp [FD,ZH,Zs]
  rw [en,ed,KZ (S4 hk hl)]
 rw [em];exact ⟨e,BB (ρ':=R) (b:=TL) rfl (BN (AE (xs:=[(.int ((x * v + u * y:Nat):Int),om),(.int ((y * v:Nat):Int),om)]) (A6 (a1.trans (by rw [SE,Gb,Gb])) (AF (a2.trans (by rw [Gb])))) r))⟩
def Xm {neg:Bool}{a b c e:Int}{d d':Nat}:A3 neg (.tup [.int a,.int b]) d (.tup [.int c,.int e]) d'=some (.bl (neg^^(decide (a=c) && decide (b=e))),om):=by
 show some (PV.bl (neg^^Gy (.tuple [.int a,.int b]) (.tuple [.int c,.int e])),om)=_;rw [Gy,PyData.eqvAll,PyData.eqvAll,PyData.eqvAll,Gy,Gy,HS]
 have:∀ x y:Int,(x == y)=decide (x=y):=λ x y=>by by_cases h:x=y <;> simp [h]
 rw [this,this]
def yd {n d:Nat} (hd:0 < d) {neg:Bool}{x y:Nat}:A3 neg (A5 n d) x (.tup [.int 1,.int 1]) y=some (.bl (neg^^decide (n=d)),om):=by
 obtain ⟨k,u,v,hk,hv,rfl,rfl,e⟩:=RM n d hd;have gd:Cn (k * u) (k * v)=k * Cn u v:=Z5 k u v;rw [e,Xm];have e2:A5 (k * u) (k * v)=A5 u v:=KZ hk;rw [e] at e2;unfold A5 at e2;injection e2 with e2
 injection e2 with h1 h2
 injection h2 with h2
 injection h1 with h1
 injection h2 with h2
 have g1:Cn u v=1:=by
  have h2:v=v / Cn u v:=by exact_mod_cast h2
  have:=Nat.div_mul_cancel (ZI u v)
  rw [<- h2] at this;exact qe hv (by rw [this,Nat.mul_one])
 have hb:(decide ((u:Int)=1) && decide ((v:Int)=1))=decide (k * u=k * v):=by
  rw [Eb,AK,decide_eq_true_iff,decide_eq_true_iff,decide_eq_true_iff];constructor
  ·rintro ⟨h1,h2⟩;have h1:u=1:=by omega
   have h2:v=1:=by omega
   rw [h1,h2]
  ·intro h
   have:u=v:=qe hk h
   subst this;rw [Nat.gcd_self] at g1;omega
 rw [hb]
section
variable {a b c:Nat}{low high:List (List Int)}
theorem KC:∀ (a:Nat) {b i:Nat},Bk (BD a b) i=if i < a then Ay b else []
 | 0,b,i=>by rw [if_neg (by omega)];rfl
 | a + 1,b,i=>by
  have ih:=KC a (b:=b) (i:=i);unfold Bk at ih ⊢;rw [UE,List.filter_append,Dz,ih,Mb,Cr];have e:((λ z:Nat×Nat=>decide (z.1=i)) ∘ λ j=>(a,j))=λ _=>decide (a=i):=rfl;rw [e];by_cases h:a=i
  ·subst h;rw [if_neg (by omega),if_pos (by omega),decide_eq_true rfl,je9.mpr (λ _ _=>rfl),Fg];exact List.map_id' _
  ·rw [decide_eq_false h,show (Ay b).filter (λ _=>false)=[] from ji3.mpr λ _ _=>BK,IW,FE];by_cases h2:i < a
   ·rw [if_pos h2,if_pos (by omega)]
   ·rw [if_neg h2,if_neg (by omega)]
def NZ (p:List (List Int)) (i j:Nat):Nat:=(g p i j).toNat
theorem Xj {f:Nat->Int}{h:Nat->Nat}:∀ l:List Nat,(∀ j∈l,f j=(h j:Int))->((l.map f).sum).toNat=(l.map h).sum/\0<=(l.map f).sum
 | [],_=>⟨rfl,C5 _⟩
 | x::l,e=>by
  obtain ⟨i1,i2⟩:=Xj l λ j hj=>e j (AO _ hj)
  have:=e x AM
  rw [Bc,Dy,Bc,Dy,this,<- i1];omega
def vS {t:List (List Int)} (p:Pile a b c t):Ej (Bk (BD a b)) t=((Ay a).map λ i=>((Ay b).map λ j=>NZ t i j).sum).sum:=by
 unfold Ej;rw [p.tab.1];refine congrArg LR (EK λ i hi=>?_);have hi:=jb8.mp hi;unfold JH;rw [KC,if_pos hi];refine (Xj (h:=λ j=>NZ t i j) _ λ j hj=>?_).1
 have:=p.lo i j hi (jb8.mp hj)
 show g t i j=(((g t i j).toNat:Nat):Int);omega
theorem XQ {α:Type}{f h:α->Nat}:∀ l:List α,(l.map λ x=>f x + h x).sum=(l.map f).sum + (l.map h).sum
 | []=>rfl
 | x::l=>by rw [Bc,Dy,Bc,Dy,Bc,Dy,XQ l];omega
theorem MP {α β:Type}{f:α->β->Nat} (m:List β):∀ l:List α,(l.map λ x=>(m.map λ y=>f x y).sum).sum=(m.map λ y=>(l.map λ x=>f x y).sum).sum
 | []=>by
  induction m with
  | nil=>rfl
  | cons y m ih=>rw [Bc,Dy,<- ih];rfl
 | x::l=>by
  rw [Bc,Dy,MP m l,<- XQ];rfl
def cK (a b c:Nat) (low high:List (List Int)):Nat:=((Ay a).map λ i=>((Ay b).map λ j=>hK a b c low high i j).sum).sum
def UO (p:Pile a b c low):((PB a b c low high).map (Ej (Bk (BD a b)))).sum=cK a b c low high:=by
 rw [show (PB a b c low high).map (Ej (Bk (BD a b)))=(PB a b c low high).map λ t=>((Ay a).map λ i=>((Ay b).map λ j=>NZ t i j).sum).sum from EK λ t ht=>vS (GD p ht),MP];refine congrArg LR (EK λ i _=>?_);rw [MP];rfl
def yS (B:Bt a b c low high):∃ e,Uq [bx a b c,tb low,tb high]=.ok (A5 (cK a b c low high) (PB a b c low high).length,e,.non):=by
 have h:=B.ab;let ρ0:Af:=[some (bx a b c,0),some (tb low,0),some (tb high,0)]
 have hp:∀ z∈BD a b,z.2 < b:=λ z hz=>(zxf.mp hz).2;have hm:∀ k,(Bk (BD a b) k).length<=6:=λ k=>by rw [KC];split <;> simp <;> omega
 have hl:(BD a b).length<=1000:=by
  rw [Kw]
  have:a * b<=6 * 6:=FZ h.1 h.2.1
  omega
 obtain ⟨t1,_⟩:=B.tally hp hm hl;obtain ⟨e,r⟩:=B.mean hp hm hl;rw [UO B.p] at r;obtain ⟨d,_,ep⟩:=Qa (a:=a) (b:=b) (c:=c) (by omega) (by omega);have v1:CF (Ap Jw (Ad (Aa 0) (Ad (Aa 1) (Ad (Aa 2) (Ac))))) ρ0=.nx ρ0:=GF (AE (xs:=[(bx a b c,0),(tb low,0),(tb high,0)]) rfl B.must);exact ⟨e,BB (ρ':=ρ0) (b:=TQ) rfl ((Be v1).trans (BN (AE (xs:=[(il (BX a b c low high (BD a b)),om)]) (AF (AE (xs:=[(bx a b c,0),(tb low,0),(tb high,0),(.lst ((BD a b).map pr),d)]) (A6 rfl (A6 rfl (A6 rfl (AF (AE (xs:=[(bx a b c,0)]) rfl ep))))) t1)) r)))⟩
theorem Xa (v:Nat):∀ n:Nat,((Ay n).map λ k=>if k < v then 1 else 0).sum=min n v
 | 0=>by simp
 | n + 1=>by
  rw [EH,Dz,LZ,Xa v n];by_cases h:n < v <;> simp [h] <;> omega
theorem Yw {α:Type}{p:α->Bool}:∀ l:List α,(l.filter p).length=(l.map λ x=>if p x=true then 1 else 0).sum
 | []=>rfl
 | x::l=>by
  rw [Bc,Dy,<- Yw l,Ez];split
  ·rw [B8];omega
  ·omega
def Xv (p:Pile a b c low) {i j:Nat} (hi:i < a) (hj:j < b):((Ay c).map λ k=>nK a b c low high i j k).sum=hK a b c low high i j:=by
 have e:((Ay c).map λ k=>nK a b c low high i j k)=(Ay c).map λ k=>((PB a b c low high).map λ t=>if k < NZ t i j then 1 else 0).sum:=EK λ k _=>by
  unfold nK;rw [Yw];refine congrArg LR (EK λ t ht=>?_);have h0:=(GD p ht).lo i j hi hj;by_cases h:(k:Int) < g t i j
  ·rw [if_pos (decide_eq_true h),if_pos (by show k < (g t i j).toNat;omega)]
  ·rw [if_neg (by rw [decide_eq_false h];decide),if_neg (by show ¬ k < (g t i j).toNat;omega)]
 rw [e,MP];refine congrArg LR (EK λ t ht=>?_);rw [Xa];have h1:=(GD p ht).hi i j hi hj;have h0:=(GD p ht).lo i j hi hj;show min c (g t i j).toNat=(g t i j).toNat;omega
end
section
variable {a b c i j k:Nat}{low high t u:List (List Int)}{L:List (Option PV)}{O:List Nat}{ρ ρ1 ρ2:Af}
def Xg {n:Nat}{ρ:Af} (hn:ρ.length=n) (x y:PV):asgT [n,n + 1] (.tup [x,y]) (ρ++[none,none])=some (ρ++[some (x,dv x),some (y,dv y)]):=by
 subst hn;simp [QQ.asgT,B0,asgN,List.set_append]
def WR {n x y:Nat}{α:Type}{f:α->PV}{q:α->α->PV}{elt:Fx}{xs ys:List α} (h:HV L O ρ) (hn:L.length=n) (hx:L[x]?=some (some (.lst (xs.map f)))) (hy:L[y]?=some (some (.lst (ys.map f)))) (hl:xs.length<=1000) (he:∀ v w,v∈xs->w∈ys->∀ ρ',HV (L++[some (f v)]++[some (f w)]) O ρ'->elt ρ'=.ok (q v w,om,ρ')):DT .zp (Ad (Aa x) (Ad (Aa y) (Ac))) 2 (asgT [n,n + 1]) AU elt ρ=.ok (.lst ((xs.zip ys).map λ z=>q z.1 z.2),om,ρ):=by
 have z:=sz;have hl':ρ.length=n:=h.len.trans hn;refine Rq (enc:=λ z:α×α=>.tup [f z.1,f z.2]) (q:=λ z=>q z.1 z.2) (E:=λ z=>[some (f z.1,dv (f z.1)),some (f z.2,dv (f z.2))]) (as:=[(.lst (xs.map f),0),(.lst (ys.map f),0)]) (xs.zip ys) (A6 (h.var hx) (AF (h.var hy))) (by show some (B5 (xs.map f) (ys.map f))=_;rw [Zd]) (λ z _=>Xg hl' _ _) (λ z hz=>?_) (by rw [Mc];omega)
 have:=((h.push (x:=f z.1) (d:=dv (f z.1))).push (x:=f z.2) (d:=dv (f z.2)))
 rw [IY (as:=ρ)] at this;have hm:=Kg (show (z.1,z.2)∈xs.zip ys from hz);exact he z.1 z.2 hm.1 hm.2 _ this
def WS {n x y:Nat}{op:List (PV×Nat)->Option (PV×Nat)}{F:Int->Int->Int} (hop:∀ i j,op [(.int i,om),(.int j,om)]=some (.int (F i j),om)) (h:HV L O ρ) (hn:L.length=n) (hx:L[x]?=some (some (tb t))) (hy:L[y]?=some (some (tb u))) (ht:Tab a b t) (ha:a<=1000) (hb:b<=1000):
  DT .zp (Ad (Aa x) (Ad (Aa y) (Ac))) 2 (asgT [n,n + 1]) AU (DT .zp (Ad (Aa n) (Ad (Aa (n + 1)) (Ac))) 2 (asgT [n + 2,n + 3]) AU (Ak op (Ad (Aa (n + 2)) (Ad (Aa (n + 3)) (Ac))))) ρ=.ok (tb (zT F t u),om,ρ):=by
 subst hn;have at1:∀ (L:List (Option PV)) (v w:PV),(L++[some v]++[some w])[L.length]?=some (some v):=λ L v w=>by simp
 have at2:∀ (L:List (Option PV)) (v w:PV),(L++[some v]++[some w])[L.length + 1]?=some (some w):=λ L v w=>by simp
 refine (WR (f:=il) (q:=λ v w=>il (S6 F v w)) h rfl hx hy (by rw [ht.1];exact ha) λ v w hv hw ρ' H=>?_).trans ?_
 ·have hl:(L++[some (il v)]++[some (il w)]).length=L.length + 2:=by simp
  refine (WR (f:=PV.int) (q:=λ i j=>.int (F i j)) H hl (at1 _ _ _) (at2 _ _ _) (by rw [ht.2 v hv];exact hb) λ i j _ _ ρ2 H2=>Cw (A6 (H2.var (x:=.int i) (by rw [<- hl];exact at1 _ _ _)) (AF (H2.var (x:=.int j) (by rw [show L.length + 3=(L.length + 2) + 1 by omega,<- hl];exact at2 _ _ _)))) (hop i j)).trans ?_;unfold il;rw [<- List.map_uncurry_zip_eq_zipWith,Cr];rfl
 ·unfold tb zT;rw [Cr];rfl
def zq (p:Pile a b c low) (q:Pile a b c high) {i j k:Nat} (hi:i < a) (hj:j < b) (hk:k < c):(B3 (g (zT Bq low (C8 a b (Cz i j k)))) (g high) c b a).length=nK a b c low high i j k:=by
 rw [jd (Pl p (UN hk)) q,Ki (vJ p hi hj)];unfold nK PB;have e:B3 (g low) (g high) c b a=(QV.AllP a b c).filter (Jk a b low high):=by
  unfold QV.AllP Jk;rw [M9 (lo':=zF) (hi':=cF c) (λ i j=>SY p i j) (λ i j=>ql q i j) a]
 rw [e,List.filter_filter];congr 1;refine Ki λ r _=>?_;rw [Bool.and_comm];rfl
def Sw (ht:Tab a b t) (ha:a<=1000) (hb:b<=1000):Ju [tb t,tb u,.int 0]=.ok (tb (zT C4 t u),om,.non):=by
 let R:Af:=[some (tb t,0),some (tb u,0),some (.int 0,om)]
 have H0:HV [some (tb t),some (tb u),some (.int 0)] [] R:=HV.of R;have tt:=AH (HD (neg:=false) (f:=Aa 2) (g:=bC (.int 0)) (ρ:=R) (ρ1:=R) (ρ2:=R) (i:=0) (j:=0) (d:=om) (e:=om) rfl rfl);exact BB (b:=OO) rfl (JE ((Dj tt).trans (BN (WS (n:=3) (x:=0) (y:=1) (op:=IM) (F:=C4) (λ _ _=>rfl) H0 rfl rfl rfl ht ha hb))))
def LP (ht:Tab a b t) (ha:a<=1000) (hb:b<=1000):Ju [tb t,tb u,.int 1]=.ok (tb (zT Bq t u),om,.non):=by
 let R:Af:=[some (tb t,0),some (tb u,0),some (.int 1,om)]
 have H0:HV [some (tb t),some (tb u),some (.int 1)] [] R:=HV.of R;have tt:=AH (HD (neg:=false) (f:=Aa 2) (g:=bC (.int 0)) (ρ:=R) (ρ1:=R) (ρ2:=R) (i:=1) (j:=0) (d:=om) (e:=om) rfl rfl);exact BB (b:=OO) rfl ((Fw tt).trans (BN (WS (n:=3) (x:=0) (y:=1) (op:=Ka) (F:=Bq) (λ _ _=>rfl) H0 rfl rfl rfl ht ha hb)))
def du (B:Bt a b c low high) (hi:i < a) (hj:j < b) (hk:k < c):∃ e,Uo [bx a b c,tb low,tb high,.int ((PB a b c low high).length:Nat),c3 (i,j,k)]=.ok (A5 (nK a b c low high i j k) (PB a b c low high).length,e,.non):=by
 have z:=sz;have ab:=B.ab;let R (s5 s6 s7 s8:QQ.Slot):Af:=[some (bx a b c,0),some (tb low,0),some (tb high,0),some (.int ((PB a b c low high).length:Nat),om),some (c3 (i,j,k),0),s5,s6,s7,s8]
 let V:Af:=R (some (.int (i:Nat),om)) (some (.int (j:Nat),om)) (some (.int (k:Nat),om)) none;have v1:B4 (asgT [5,6,7]) (Aa 4) [4] (R none none none none)=.nx V:=rfl;have inner:∀ x:Nat,Cu Bl (Ad (Ab An (Aa 0) (bC (.int 1))) (Ac)) 1 (asgN 10) AU (Ab AR (Ak Iu (Ad (CW (Ab (B1 λ i j=>decide (i<=j)) (Aa 9) (Aa 5)) (Ab (B1 λ i j=>decide (i<=j)) (Aa 10) (Aa 6))) (Ac))) (Ab AG (Aa 7) (bC (.int 1)))) (V++[some (.int ((0:Int) + (x:Int)),om)])=.ok (il ((Ay b).map λ y=>Cz i j k x y),om,V++[some (.int ((0:Int) + (x:Int)),om)]):=λ x=>by
  have q:=GC (n:=10) (en:=Bl) (fa:=Ad (Ab An (Aa 0) (bC (.int 1))) (Ac)) (elt:=Ab AR (Ak Iu (Ad (CW (Ab (B1 λ i j=>decide (i<=j)) (Aa 9) (Aa 5)) (Ab (B1 λ i j=>decide (i<=j)) (Aa 10) (Aa 6))) (Ac))) (Ab AG (Aa 7) (bC (.int 1)))) (q:=λ y=>.int (Cz i j k x y)) (ρ:=V++[some (.int ((0:Int) + (x:Int)),om)]) (ρ1:=V++[some (.int ((0:Int) + (x:Int)),om)]) (as:=[(.int (b:Int),om)]) (lo:=0) (hi:=(b:Int)) rfl (EY (by omega) (by omega)) rfl (λ y hy=>by
   let U:Af:=V++[some (.int ((0:Int) + (x:Int)),om)]++[some (.int ((0:Int) + (y:Int)),om)];have c1:=ET (p:=λ i j=>decide (i<=j)) (f:=Aa 9) (g:=Aa 5) (ρ:=U) (ρ1:=U) (ρ2:=U) (i:=(0:Int) + (x:Int)) (j:=(i:Int)) (d:=om) (e:=om) rfl rfl;have c2:=ET (p:=λ i j=>decide (i<=j)) (f:=Aa 10) (g:=Aa 6) (ρ:=U) (ρ1:=U) (ρ2:=U) (i:=(0:Int) + (y:Int)) (j:=(j:Int)) (d:=om) (e:=om) rfl rfl;have c3:=Og c1 (λ _=>c2) rfl;have c4:Ak Iu (Ad (CW (Ab (B1 λ i j=>decide (i<=j)) (Aa 9) (Aa 5)) (Ab (B1 λ i j=>decide (i<=j)) (Aa 10) (Aa 6))) (Ac)) U=.ok (.int (if (decide ((0:Int) + (x:Int)<=i) && decide ((0:Int) + (y:Int)<=j))=true then 1 else 0),om,U):=Cw (AF c3) (by cases (decide ((0:Int) + (x:Int)<=i) && decide ((0:Int) + (y:Int)<=j)) <;> rfl);have c5:=Dr c4 (ER (f:=Aa 7) (g:=bC (.int 1)) (ρ:=U) (ρ1:=U) (ρ2:=U) (i:=(k:Int)) (j:=1) (d:=om) (e:=om) rfl rfl) (.inr ⟨by omega,by omega⟩);refine c5.trans ?_;have e:(if (decide ((0:Int) + (x:Int)<=i) && decide ((0:Int) + (y:Int)<=j))=true then (1:Int) else 0) * (k + 1:Int)=Cz i j k x y:=by
    unfold Cz;by_cases hh:x<=i/\y<=j
    ·rw [if_pos hh,if_pos (by simp;omega)];omega
    ·rw [if_neg hh,if_neg (by simp;omega)];omega
   rw [e]) (by omega)
  rw [show ((b:Int) - 0).toNat=b by omega] at q;refine q.trans ?_;unfold il;rw [Cr];rfl
 have outer:=GC (n:=9) (en:=Bl) (fa:=Ad (Ab An (Aa 0) (bC (.int 0))) (Ac)) (q:=λ x=>il ((Ay b).map λ y=>Cz i j k x y)) (ρ:=V) (ρ1:=V) (as:=[(.int (a:Int),om)]) (lo:=0) (hi:=(a:Int)) rfl (EY (by omega) (by omega)) rfl (λ x _=>inner x) (by omega);rw [show ((a:Int) - 0).toNat=a by omega] at outer;have em:PV.lst ((Ay a).map λ x=>il ((Ay b).map λ y=>Cz i j k x y))=tb (C8 a b (Cz i j k)):=by
  unfold tb C8;rw [Cr];rfl
 rw [em] at outer;let W:Af:=R (some (.int (i:Nat),om)) (some (.int (j:Nat),om)) (some (.int (k:Nat),om)) (some (tb (C8 a b (Cz i j k)),om));have v2:=setF (i:=8) (vs:=[5,6,7]) (ρ2:=W) outer (show 8 < 9 by decide) rfl;have pm:=Pl B.p (UN (a:=a) (b:=b) (i:=i) (j:=j) hk);have m1:=AE (F:=Ju) (ρ:=W) (ρ1:=W) (fa:=Ad (Aa 1) (Ad (Aa 8) (Ad (bC (.int 1)) (Ac)))) (xs:=[(tb low,0),(tb (C8 a b (Cz i j k)),0),(.int 1,om)]) rfl (LP B.p.tab (by omega) (by omega));have n1:=AE (F:=OT) (xs:=[(bx a b c,0),(tb (zT Bq low (C8 a b (Cz i j k))),om),(tb high,0)]) (A6 (f:=Aa 0) (ρ:=W) rfl (A6 m1 (AF (f:=Aa 2) rfl))) (Yt B.N pm B.q);rw [zq B.p B.q hi hj hk] at n1;have hm:=B.many;have hle:nK a b c low high i j k<=(PB a b c low high).length:=OE _ _;obtain ⟨e,r⟩:=MY (n:=nK a b c low high i j k) (d:=(PB a b c low high).length) B.pos (by omega) (by omega);exact ⟨e,BB (b:=TK) rfl ((Be v1).trans ((Be v2).trans (BN (AE (xs:=[(.int (nK a b c low high i j k:Nat),om),(.int ((PB a b c low high).length:Nat),om)]) (A6 n1 (AF (f:=Aa 3) rfl)) r))))⟩
end
def K1 {a b:Nat}{c:Int}{t:List (List Int)} (ht:Tab a b t):C0 (C0 t c) c=t:=
 MH (K0 (K0 ht)) ht λ i j hi hj=>by
  rw [Fc (K0 ht) hi hj,Fc ht (by omega) (by omega),show a - 1 - (a - 1 - i)=i by omega,show b - 1 - (b - 1 - j)=j by omega];omega
section
variable {a b c:Nat}{low high t u:List (List Int)}
theorem WW {α β:Type} [BEq β] [LawfulBEq β] {f:α->β}:∀ {l:List α}{m:List β},l.Pairwise (·≠·)->(∀ x∈l,f x∈m)->(∀ x∈l,∀ y∈l,f x=f y->x=y)->l.length<=m.length
 | [],_,_,_,_=>Ea _
 | x::l,m,hn,hm,hi=>by
  have h1:=hm x AM;have hn':=jm5.mp hn
  have:=WW (l:=l) (m:=m.erase (f x)) hn'.2 (λ y hy=>(List.mem_erase_of_ne λ e=>hn'.1 y hy (hi y (AO _ hy) x AM e).symm).mpr (hm y (AO _ hy))) λ y hy z hz=>hi y (AO _ hy) z (AO _ hz)
  have h2:=List.length_erase_of_mem h1;have h3:=List.length_pos_of_mem h1;rw [B8];omega
def xF (p:Pile a b c low) (h:t∈PB a b c low high) {i j:Nat} (hi:i < a) (hj:j < b):g low i j<=g t i j/\g t i j<=g high i j:=by
 have:=(J6 h).2.1 i j hi hj
 exact ⟨this.1,this.2.1⟩
def xG (p:Pile a b c low) (q:Pile a b c high) (ht:Pile a b c t) (h:∀ i j,i < a->j < b->g low i j<=g t i j/\g t i j<=g high i j):t∈PB a b c low high:=by
 have e:=M9 (lo:=g t) (hi:=g t) (lo':=g low) (hi':=g high) (c:=(c:Int)) (b:=b) (λ i j=>by
  by_cases hh:i < a/\j < b
  ·exact (h i j hh.1 hh.2).1
  ·rw [JX p.tab hh,JX ht.tab hh];exact C5 _) (λ i j=>by
  by_cases hh:i < a/\j < b
  ·exact (h i j hh.1 hh.2).2
  ·rw [JX q.tab hh,JX ht.tab hh];exact C5 _) a
 obtain ⟨r,e2⟩:=Pg (lo:=g t) (hi:=g t) (c:=(c:Int)) (b:=b) a (λ _ _ _ _=>C5 _) ht.hi ht.dn ht.rt;have e3:C8 a b (g t)=t:=MH HA ht.tab λ i j hi hj=>BY hi hj;have m:t∈B3 (g t) (g t) c b a:=by rw [e2,e3];exact AM
 rw [<- e] at m;exact (je4.mp m).1
def nP (a b c:Nat) (low high:List (List Int)) (P:List (List Int)->Bool):Nat:=((PB a b c low high).filter P).length
def zu {T:List (List Int)->List (List Int)}{P Q:List (List Int)->Bool}{a' b' c':Nat}{low' high':List (List Int)} (p:Pile a b c low) (hT:∀ t∈PB a b c low high,Pile a b c t->P t=true->T t∈PB a' b' c' low' high'/\Q (T t)=true) (hi:∀ t u,Pile a b c t->Pile a b c u->T t=T u->t=u):nP a b c low high P<=nP a' b' c' low' high' Q:=by
 unfold nP;refine WW (f:=T) ((UZ a).filter _) (λ t ht=>?_) λ t ht u hu e=>?_
 ·have h:=je4.mp ht
  have:=hT t h.1 (GD p h.1) h.2
  exact je4.mpr this
 ·exact hi t u (GD p (je4.mp ht).1) (GD p (je4.mp hu).1) e
def XG (p:Pile a b c low) (q:Pile a b c high) {P Q:List (List Int)->Bool} (h:∀ t,Pile a b c t->P t=true->Q (C0 t c)=true):nP a b c low high P<=nP a b c (C0 high c) (C0 low c) Q:=zu (T:=λ t=>C0 t c) p (λ t ht pt hP=>⟨xG (J0 q) (J0 p) (J0 pt) λ i j hi hj=>by
 rw [Fc p.tab hi hj,Fc q.tab hi hj,Fc pt.tab hi hj]
 have:=xF p ht (i:=a - 1 - i) (j:=b - 1 - j) (by omega) (by omega)
 omega,h t pt hP⟩) λ t u ht hu e=>by rw [<- K1 (c:=(c:Int)) ht.tab,<- K1 (c:=(c:Int)) hu.tab];exact congrArg (λ t=>C0 t (c:Int)) e
def XF (p:Pile a b c low) (q:Pile a b c high) {P Q:List (List Int)->Bool} (h:∀ t,Pile a b c t->Q (C0 t c)=P t):nP a b c (C0 high c) (C0 low c) Q=nP a b c low high P:=by
 refine Nat.le_antisymm ?_ (XG p q λ t pt hP=>by rw [h t pt];exact hP)
 have:=XG (J0 q) (J0 p) (P:=Q) (Q:=P) λ t pt hQ=>by
  have:=h (C0 t c) (J0 pt)
  rw [K1 pt.tab] at this;rw [<- this];exact hQ
 rwa [K1 p.tab,K1 q.tab] at this
theorem Ve {α:Type}{P:α->Bool}:∀ l:List α,(l.filter λ x=>!P x).length + (l.filter P).length=l.length
 | []=>rfl
 | x::l=>by
  have:=Ve (P:=P) l
  rw [Ez,Ez,B8];cases P x <;> simp <;> omega
def VN:nP a b c low high (λ _=>true)=(PB a b c low high).length:=congrArg S5 (je9.mpr λ _ _=>rfl)
def ye (p:Pile a b c low) (q:Pile a b c high) {i j k:Nat} (hi:i < a) (hj:j < b) (hk:k < c):nK a b c (C0 high c) (C0 low c) (a - 1 - i) (b - 1 - j) (c - 1 - k) + nK a b c low high i j k=(PB a b c low high).length/\(PB a b c (C0 high c) (C0 low c)).length=(PB a b c low high).length:=by
 refine ⟨?_,by rw [<- VN,<- VN];exact XF p q λ _ _=>rfl⟩;have h1:nK a b c (C0 high c) (C0 low c) (a - 1 - i) (b - 1 - j) (c - 1 - k)=nP a b c low high λ t=>!decide ((k:Int) < g t i j):=XF p q λ t pt=>by
  rw [Fc pt.tab (by omega) (by omega),show a - 1 - (a - 1 - i)=i by omega,show b - 1 - (b - 1 - j)=j by omega,<- decide_not];exact decide_eq_decide.mpr (by omega)
 rw [h1];exact Ve (PB a b c low high)
end
section
variable {a b c:Nat}{ps:List (Nat×Nat)}
def fT (a b:Nat) (v:Int):List (List Int):=C8 a b λ _ _=>v
def Xn {h:Int} (h0:0<=h) (h1:h<=c):Pile a b c (fT a b h):=⟨HA,λ i j hi hj=>by unfold fT;rw [BY hi hj];exact h0,λ i j hi hj=>by unfold fT;rw [BY hi hj];exact h1,λ i j hi hj=>by unfold fT;rw [BY hi hj,BY (ZG hi) hj];exact C5 _,λ i j hi hj=>by unfold fT;rw [BY hi hj,BY hi (ZG hj)];exact C5 _⟩
def QT (v:Int):PV.lst ((Ay a).map λ _=>il (A9 b v))=tb (fT a b v):=by
 have r:(Ay b).map (λ _=>v)=A9 b v:=O9 (by simp) λ k h1 h2=>by simp
 show _=PV.lst (((Ay a).map λ _=>(Ay b).map λ _=>v).map il);rw [r,Cr];rfl
def Wz (ha:a<=100) (hb:b<=100) {h:Int}:OS [bx a b c,.int h]=.ok (tb (fT a b h),om,.non):=by
 have z:=sz;let R:Af:=[some (bx a b c,0),some (.int h,om)]
 have e:=GC (n:=2) (en:=Bl) (fa:=Ad (Ab An (Aa 0) (bC (.int 0))) (Ac)) (elt:=Ab AR (Ak AW (Ad (Aa 1) (Ac))) (Ab An (Aa 0) (bC (.int 1)))) (ρ:=R) (ρ1:=R) (as:=[(.int (a:Int),om)]) (lo:=0) (hi:=(a:Int)) (q:=λ _=>il (A9 b h)) rfl (EY (by omega) (by omega)) rfl (λ k _=>RP (v:=h) (n:=b) (d:=om) (e:=om) rfl rfl (by omega)) (by omega);rw [show ((a:Int) - 0).toNat=a by omega,QT] at e;exact BB (b:=TM) rfl (BN e)
def uZ (B:Bt a b c (fT a b 0) (fT a b c)) (hp:∀ z∈ps,z.2 < b) (hm:∀ i,(Bk ps i).length<=6) (hl:ps.length<=1000):f_tally_of_box [bx a b c,.lst (ps.map pr)]=.ok (il (BX a b c (fT a b 0) (fT a b c) ps),om,.non):=by
 have z:=sz;have ab:=B.ab;let R (s2 s3 s4 s5 s6:QQ.Slot):Af:=[some (bx a b c,0),some (.lst (ps.map pr),0),s2,s3,s4,s5,s6]
 let V (s5 s6:QQ.Slot):Af:=R (some (.int (a:Nat),om)) (some (.int (b:Nat),om)) (some (.int (c:Nat),om)) s5 s6;have v1:B4 (asgT [2,3,4]) (Aa 0) [0] (R none none none none none)=.nx (V none none):=rfl;have e1:=GC (n:=7) (en:=Bl) (fa:=Ad (Aa 2) (Ac)) (elt:=Ab AR (Ak AW (Ad (bC (.int 0)) (Ac))) (Aa 3)) (ρ:=V none none) (ρ1:=V none none) (as:=[(.int (a:Int),om)]) (lo:=0) (hi:=(a:Int)) (q:=λ _=>il (A9 b 0)) rfl (EY (by omega) (by omega)) rfl (λ k _=>RP (v:=0) (n:=b) (d:=om) (e:=om) rfl rfl (by omega)) (by omega);rw [show ((a:Int) - 0).toNat=a by omega,QT] at e1;have v2:=setF (i:=5) (vs:=[3]) (ρ2:=V (some (tb (fT a b 0),om)) none) e1 (show 5 < 7 by decide) rfl;have e2:=GC (n:=7) (en:=Bl) (fa:=Ad (Aa 2) (Ac)) (elt:=Ab AR (Ak AW (Ad (Aa 4) (Ac))) (Aa 3)) (ρ:=V (some (tb (fT a b 0),om)) none) (ρ1:=V (some (tb (fT a b 0),om)) none) (as:=[(.int (a:Int),om)]) (lo:=0) (hi:=(a:Int)) (q:=λ _=>il (A9 b (c:Int))) rfl (EY (by omega) (by omega)) rfl (λ k _=>RP (v:=(c:Int)) (n:=b) (d:=om) (e:=om) rfl rfl (by omega)) (by omega);rw [show ((a:Int) - 0).toNat=a by omega,QT] at e2;have v3:=setF (i:=6) (vs:=[4,3]) (ρ2:=V (some (tb (fT a b 0),om)) (some (tb (fT a b c),om))) e2 (show 6 < 7 by decide) rfl;exact BB (b:=Xf_tally_of_box) rfl ((Be v1).trans ((Be v2).trans ((Be v3).trans (BN (AE (F:=f_tally_between) (xs:=[(bx a b c,0),(tb (fT a b 0),0),(tb (fT a b c),0),(.lst (ps.map pr),0)]) rfl (B.tally hp hm hl).1)))))
end
theorem VO {α β:Type}{f g:α->β}:∀ {l:List α},l.map f=l.map g->∀ {i:Nat}{a:α},l[i]?=some a->f a=g a
 | [],_,_,_,h=>by cases h
 | b::l,e,0,a,h=>by
  cases h;exact (List.cons.inj e).1
 | b::l,e,i + 1,a,h=>VO (List.cons.inj e).2 h
def zfq:List (Nat×Nat×Nat):=((Ay 3).flatMap λ a=>(Ay 3).flatMap λ b=>(Ay 3).map λ c=>(a + 1,b + 1,c + 1))++[(2,5,1),(1,6,2),(2,4,2)]
def N0 (z:Nat×Nat×Nat):Nat:=(PB z.1 z.2.1 z.2.2 (fT z.1 z.2.1 0) (fT z.1 z.2.1 z.2.2)).length
def dM (z:Nat×Nat×Nat):Bool:=decide (2 * cK z.1 z.2.1 z.2.2 (fT z.1 z.2.1 0) (fT z.1 z.2.1 z.2.2)=z.1 * z.2.1 * z.2.2 * N0 z)
def j9:zfq.all dM=true:=by kernel_rfl
def jR:zfq.map (λ z=>M3 [bx z.1 z.2.1 z.2.2])=zfq.map λ z=>.ok (.int (N0 z:Nat),om,.non):=by kernel_rfl
def whole {z:Nat×Nat×Nat} (h:z∈zfq):2 * cK z.1 z.2.1 z.2.2 (fT z.1 z.2.1 0) (fT z.1 z.2.1 z.2.2)=z.1 * z.2.1 * z.2.2 * N0 z/\M3 [bx z.1 z.2.1 z.2.2]=.ok (.int (N0 z:Nat),om,.non):=by
 obtain ⟨i,hi⟩:=OC h;exact ⟨of_decide_eq_true (jb1.mp j9 z h),VO jR hi⟩
section
variable {a b c:Nat}
def kb {n d m e:Nat} (hd:0 < d) (he:0 < e) (h:n * e=m * d):A5 n d=A5 m e:=by
 rw [<- KZ (n:=n) (d:=d) he,<- KZ (n:=m) (d:=e) hd,FD e n,h,FD m d,FD e d]
def vK (B:Bt a b c (fT a b 0) (fT a b c)):∃ d,Uu [bx a b c]=.ok (il (BX a b c (fT a b 0) (fT a b c) (BD a b)),d,.non):=by
 have z:=sz;have ab:=B.ab;have N:=B.N;have hb1:=N.box.hb;have ha1:=N.box.ha;have hc1:=N.hc;obtain ⟨d,hd,ep⟩:=Qa (a:=a) (b:=b) (c:=c) (by omega) (by omega);let R:Af:=[some (bx a b c,0)]
 have v1:CF (Ap F2 (Ad (Aa 0) (Ac))) R=.nx R:=GF (AE (xs:=[(bx a b c,0)]) rfl (Vo (by unfold Gk;simp;omega)));have hp:∀ z∈BD a b,z.2 < b:=λ z hz=>(zxf.mp hz).2;have hm:∀ i,(Bk (BD a b) i).length<=6:=λ i=>by
  rw [KC];split
  ·rw [FF];omega
  ·exact Ea _
 have hl:(BD a b).length<=1000:=by
  rw [Kw]
  have:a * b<=6 * 6:=FZ ab.1 ab.2.1
  omega
 exact ⟨_,BB (b:=TZ) (ρ':=R) rfl ((Be v1).trans (BN (AE (F:=Uv) (xs:=[(bx a b c,0),(.lst ((BD a b).map pr),d)]) (A6 (f:=Aa 0) (ρ:=R) (x:=bx a b c) (d:=0) rfl (AF (AE (F:=OV) (fa:=Ad (Aa 0) Ac) (ρ:=R) (ρ1:=R) (xs:=[(bx a b c,0)]) rfl ep))) (uZ B hp hm hl))))⟩
end
section
variable {a b c:Nat}{L:List (Option PV)}{O:List Nat}{ρ:Af}{xs:List Int}
def QD (h:HV L O ρ) (hn:L.length=11) (h5:L[5]?=some (some (il xs))) (hN:NN xs) (hl:xs.length<=300) (hx:∀ x∈xs,x<=2 ^ 30):Ak CD (Ad (DT .enm (Ad (Aa 5) (Ac)) 2 (asgT [11,12]) AU (Ab AR (Aa 11) (Aa 12))) (Ac)) ρ=.ok (.int (Cc 0 xs),om,ρ):=by
 have z:=sz;have hl':ρ.length=11:=h.len.trans hn;have c1:=Rq (k:=2) (v:=.enm) (fa:=Ad (Aa 5) (Ac)) (asg:=asgT [11,12]) (elt:=Ab AR (Aa 11) (Aa 12)) (enc:=Jj) (q:=λ z=>.int ((z.1:Int) * z.2)) (E:=λ z=>[some (.int (z.1:Int),om),some (.int z.2,om)]) (ρ:=ρ) (ρ1:=ρ) (as:=[(il xs,0)]) (DW 0 xs) (AF (h.var h5)) (by show some (E8 0 (xs.map PV.int))=_;rw [PD]) (λ w _=>Xg hl' _ _) (λ w hw=>by
  have H:=((h.push (x:=.int (w.1:Int)) (d:=om)).push (x:=.int w.2) (d:=om))
  rw [IY (as:=ρ)] at H;have i1:(L++[some (PV.int (w.1:Int))]++[some (.int w.2)])[11]?=some (some (.int (w.1:Int))):=by rw [<- hn];simp
  have i2:(L++[some (PV.int (w.1:Int))]++[some (.int w.2)])[12]?=some (some (.int w.2)):=by rw [show 12=L.length + 1 by omega];simp
  exact Dr (H.var i1) (H.var i2) (.inl (by have:=(Ku hw).1;omega))) (by rw [Kt];omega)
 have e1:((DW 0 xs).map λ z=>PV.int ((z.1:Int) * z.2))=((DW 0 xs).map λ z=>(z.1:Int) * z.2).map PV.int:=by rw [Cr];rfl
 rw [e1] at c1;have bnd:∀ y∈(DW 0 xs).map (λ z=>(z.1:Int) * z.2),0<=y/\y<=300 * 2 ^ 30:=λ y hy=>by
  obtain ⟨w,hw,rfl⟩:=jc2.mp hy;have m:=Ku hw;have m1:=hN _ m.2;have m2:=hx _ m.2;refine ⟨Zw (by omega) m1,?_⟩;exact S9 (by omega) m2 m1 (by decide)
 have s1:=Io (AF c1) (NN.ok (m:=300 * 2 ^ 30) (λ y hy=>(bnd y hy).1) (by rw [AJ,Kt];omega) (λ y hy=>(bnd y hy).2) (by decide));rw [PF] at s1;exact s1
def bG (B:Bt a b c (fT a b 0) (fT a b c)) (hz:(a,b,c)∈zfq) (h:HV L O ρ) (hn:L.length=11) (h0:L[0]?=some (some (bx a b c))) (h5:L[5]?=some (some (il (BX a b c (fT a b 0) (fT a b c) (BD a b))))):
  ∃ e,Ap Ie (Ad (Ak CD (Ad (DT .enm (Ad (Aa 5) (Ac)) 2 (asgT [11,12]) AU (Ab AR (Aa 11) (Aa 12))) (Ac))) (Ad (Ap M3 (Ad (Aa 0) (Ac))) (Ac))) ρ=.ok (A5 (a * b * c) 2,e,ρ):=by
 have ab:=B.ab;have hM:=B.many;have hp:∀ z∈BD a b,z.2 < b:=λ z hz=>(zxf.mp hz).2;have hm:∀ k,(Bk (BD a b) k).length<=6:=λ k=>by rw [KC];split <;> simp <;> omega
 have hl:(BD a b).length<=1000:=by
  rw [Kw]
  have:a * b<=6 * 6:=FZ ab.1 ab.2.1
  omega
 obtain ⟨t1,t2⟩:=B.tally hp hm hl;have s:=QD h hn h5 NN.tally t2 (λ x hx=>by
  have:=NN.tally.le x hx
  rw [K2 B.p B.q] at this
  omega)
 rw [U8 B.p B.q,Px,UO B.p] at s;obtain ⟨w1,w2⟩:=whole hz;have w1:2 * cK a b c (fT a b 0) (fT a b c)=a * b * c * N0 (a,b,c):=w1;have hN:N0 (a,b,c)=(PB a b c (fT a b 0) (fT a b c)).length:=rfl;have pos:=B.pos;rw [hN] at w1 w2;have hc:cK a b c (fT a b 0) (fT a b c) < 2 ^ 100 + 2 ^ 100:=by
  have e1:a * b * c<=6 * 6 * 6:=FZ (FZ ab.1 ab.2.1) ab.2.2;have e2:a * b * c * (PB a b c (fT a b 0) (fT a b c)).length<=(6 * 6 * 6) * 2 ^ 30:=FZ e1 (by omega);omega
 obtain ⟨e,r⟩:=MY pos hc (by omega:(PB a b c (fT a b 0) (fT a b c)).length < 2 ^ 100);rw [kb (m:=a * b * c) (e:=2) pos (by decide) (by rw [FD];exact w1)] at r;exact ⟨e,AE (xs:=[(.int (cK a b c (fT a b 0) (fT a b c):Nat),om),(.int ((PB a b c (fT a b 0) (fT a b c)).length:Nat),om)]) (A6 s (AF (AE (xs:=[(bx a b c,0)]) (AF (h.var h0)) w2))) r⟩
end
structure Bx (a b c:Nat):Prop where
 N:BoxN a b c
 bd:(A7 b c).length ^ (a + 1)<=2 ^ 30
 ab:a<=6/\b<=6/\c<=6
 lo:1<=a/\1<=b/\1<=c
 m:(a,b,c)∈zfq
def qq (z:Nat×Nat×Nat):Bool:=OL z.2.1 z.2.2 && decide ((A7 z.2.1 z.2.2).length ^ (z.1 + 1)<=2 ^ 30) && decide ((z.1<=6/\z.2.1<=6/\z.2.2<=6)/\1<=z.1/\1<=z.2.1/\1<=z.2.2)
def jb:zfq.all qq=true:=by kernel_rfl
def V8 {a b c:Nat} (h:(a,b,c)∈zfq):Bx a b c:=by
 have h':=jb1.mp jb _ h;unfold qq at h';rw [AK,AK,decide_eq_true_iff,decide_eq_true_iff] at h';obtain ⟨⟨h1,h2⟩,h3,h4⟩:=h';dsimp only at h1 h2 h3 h4;exact ⟨⟨jx (by omega) (by omega) (by omega) h1,by omega,BF h2 (by decide),by omega⟩,h2,h3,h4,h⟩
def ux {a b c:Nat} (ha:1<=a/\a<=3) (hb:1<=b/\b<=3) (hc:1<=c/\c<=3):Bx a b c:=by
 obtain ⟨a,rfl⟩:∃ n,a=n + 1:=⟨a - 1,by omega⟩
 obtain ⟨b,rfl⟩:∃ n,b=n + 1:=⟨b - 1,by omega⟩
 obtain ⟨c,rfl⟩:∃ n,c=n + 1:=⟨c - 1,by omega⟩
 exact V8 (Ib _ (jf1.mpr ⟨a,jb8.mpr (by omega),jf1.mpr ⟨b,jb8.mpr (by omega),jc2.mpr ⟨c,jb8.mpr (by omega),rfl⟩⟩⟩))
def WZ {a b:Nat}{low high:List (List Int)} (h:∀ i j,i < a->j < b->g low i j<=g high i j):Ke a b low high=true:=by
 unfold Ke;rw [jb1];intro z hz;rw [decide_eq_true_iff];exact h _ _ (zxf.mp hz).1 (zxf.mp hz).2
def Xq {a b c:Nat} (X:Bx a b c):Bt a b c (fT a b 0) (fT a b c):=⟨X.N,X.bd,X.ab,Xn (by omega) (by omega),Xn (by omega) (by omega),WZ λ i j hi hj=>by unfold fT;rw [BY hi hj,BY hi hj];omega⟩
def Rk (i j n:Nat):List (List Int):=(Ay n).map λ (k:Nat)=>[(i:Int),(j:Int),(k:Int)]
def Rj (c i n:Nat):List (List Int):=(Ay n).flatMap λ j=>Rk i j c
def Ri (b c n:Nat):List (List Int):=(Ay n).flatMap λ i=>Rj c i b
def Ud (i j n:Nat):Rk i j (n + 1)=Rk i j n++[[(i:Int),(j:Int),(n:Int)]]:=by unfold Rk;rw [EH,Dz];rfl
def Ji {α:Type} (f:Nat->List α) (n:Nat):(Ay (n + 1)).flatMap f=(Ay n).flatMap f++f n:=by rw [EH,Mf,Hr,Z8,FE]
theorem Rt {α:Type}{f:Nat->List α}{m:Nat}:∀ n:Nat,(∀ k,(f k).length<=m)->((Ay n).flatMap f).length<=n * m
 | 0,_=>Ea _
 | n + 1,h=>by
  have:=Rt n h
  have:=h n
  rw [Ji,Br,O3];omega
def Wr {i j n:Nat}{r:List Int} (h:r∈Rk i j n):∃ k:Nat,k < n/\r=[(i:Int),(j:Int),(k:Int)]:=by
 obtain ⟨k,hk,rfl⟩:=jc2.mp h;exact ⟨k,jb8.mp hk,rfl⟩
def Wq {c i n:Nat}{r:List Int} (h:r∈Rj c i n):∃ j k:Nat,j < n/\k < c/\r=[(i:Int),(j:Int),(k:Int)]:=by
 obtain ⟨j,hj,h⟩:=jf1.mp h;obtain ⟨k,hk,e⟩:=Wr h;exact ⟨j,k,jb8.mp hj,hk,e⟩
def Wo {b c n:Nat}{r:List Int} (h:r∈Ri b c n):∃ i j k:Nat,i < n/\j < b/\k < c/\r=[(i:Int),(j:Int),(k:Int)]:=by
 obtain ⟨i,hi,h⟩:=jf1.mp h;obtain ⟨j,k,hj,hk,e⟩:=Wq h;exact ⟨i,j,k,jb8.mp hi,hj,hk,e⟩
def VM {b c n i j k:Nat} (hi:i < n) (hj:j < b) (hk:k < c):[(i:Int),(j:Int),(k:Int)]∈Ri b c n:=jf1.mpr ⟨i,jb8.mpr hi,jf1.mpr ⟨j,jb8.mpr hj,jc2.mpr ⟨k,jb8.mpr hk,rfl⟩⟩⟩
def wA {b c i j k:Nat}:[(i:Int),(j:Int),(k:Int)]∉Ri b c i++Rj c i j++Rk i j k:=λ h=>by
 rcases jg8.mp h with h | h
 ·rcases jg8.mp h with h | h
  ·obtain ⟨i',j',k',hi,_,_,e⟩:=Wo h
   have:=(List.cons.inj e).1;omega
  ·obtain ⟨j',k',hj,_,e⟩:=Wq h
   have:=(List.cons.inj (List.cons.inj e).2).1;omega
 ·obtain ⟨k',hk,e⟩:=Wr h
  have:=(List.cons.inj (List.cons.inj (List.cons.inj e).2).2).1;omega
def dV (R:List (List Int)) (h:List Int->PV):PV:=match R with
 | []=>.dct []
 | _::_=>CI R h
theorem V9 {R:List (List Int)}{h:List Int->PV} (hr:R≠[]):dV R h=CI R h:=by
 cases R with
 | nil=>exact absurd rfl hr
 | cons _ _=>rfl
section
variable {L:List (Option PV)}{O:List Nat}{ρ:Af}{R:List (List Int)}{h:List Int->PV}{r:List Int}{fk f:Fx}{i e e':Nat}
def jY (H:HV L O ρ) (h9:L[i]?=some (some (dV R h))) (ho:i∈O) (hf:f ρ=.ok (h r,e,ρ)) (hfl:DD (h r)=true) (hs:sV (h r)=none) (hk:fk ρ=.ok (Al r,e',ρ)) (hr:r∉R) (hl:R.length < 1000000):Nx (C1 i fk f) ρ (HV (L.set i (some (dV (R++[r]) h))) O):=by
 obtain ⟨x,d,e0,hd⟩:=H.own i ho;obtain ⟨d',e1⟩:=H.get i _ h9;rw [e0] at e1;cases e1;refine ⟨_,YC hf (.inr hfl) hs e0 ?_ hd hk hr hl rfl,?_⟩
 ·cases R with
  | nil=>exact .inr ⟨rfl,rfl⟩
  | cons _ _=>exact .inl rfl
 ·rw [V9 (by simp)];exact H.put (jb0.mp h9).1 (.inr (by decide))
end
def rs (f:Nat->Nat) (n:Nat):Nat:=((Ay n).map f).sum
def ME (f:Nat->Nat) (n:Nat):rs f (n + 1)=rs f n + f n:=by
 unfold rs;rw [EH,Dz,LZ,List.map_singleton,List.sum_singleton]
theorem LI {f:Nat->Nat}{m:Nat}:∀ n:Nat,(∀ k,k < n->f k<=m)->rs f n<=n * m
 | 0,_=>Ea _
 | n + 1,h=>by
  have:=LI n λ k hk=>h k (by omega)
  have:=h n (by omega)
  rw [ME,O3];omega
def Sj {d:Nat} (hd:0 < d):A5 0 d=.tup [.int 0,.int 1]:=by
 unfold A5;rw [Nat.gcd_zero_left,Nat.zero_div,Nat.div_self hd];rfl
def Va {s n d:Nat} (hd:0 < d) (hb:d < 2 ^ 40) (h1:s < 2 ^ 60) (h2:n < 2 ^ 60):∃ e,Jv [A5 s d,A5 n d]=.ok (A5 (s + n) d,e,.non):=by
 obtain ⟨e,h⟩:=X6 hd hd hb hb h1 h2;rw [<- Oz,FD (s + n),KZ hd] at h;exact ⟨e,h⟩
def MO {n d x y:Nat}:A3 true (A5 n d) x (A5 n d) y=some (.bl false,om):=by
 unfold A5;rw [Xm];simp
section
variable {a b c:Nat}{low high:List (List Int)}
def hS (a b c:Nat) (low high:List (List Int)) (r:List Int):PV:=A5 (nK a b c low high (r.getD 0 0).toNat (r.getD 1 0).toNat (r.getD 2 0).toNat) (PB a b c low high).length
def WD {v:Int}:C0 (fT a b v) c=fT a b (c - v):=MH (K0 HA) HA λ i j hi hj=>by
 unfold fT;rw [Fc HA hi hj,BY (by omega) (by omega),BY hi hj]
def whole_ok (X:Bx a b c):∃ d z,Um [bx a b c,CI (Ri b c a) (hS a b c (fT a b 0) (fT a b c))]=.ok (.bl true,d,z):=by
 have B:=Xq X;have hM:=B.many;have hP:=B.pos;have A:=X.ab;obtain ⟨N,eN⟩:∃ N,N=(PB a b c (fT a b 0) (fT a b c)).length:=⟨_,rfl⟩
 obtain ⟨D,eD⟩:∃ D,D=CI (Ri b c a) (hS a b c (fT a b 0) (fT a b c)):=⟨_,rfl⟩
 rw [<- eD];let L (s2 s3 s4 s5 s6 s7 s8 s9 s10:Option PV):List (Option PV):=[some (bx a b c),some D,s2,s3,s4,s5,s6,s7,s8,s9,s10]
 let ρ0:Af:=[some (bx a b c,0),some (D,dv D),none,none,none,none,none,none,none,none,none]
 have H0:HV (L none none none none none none none none none) [] ρ0:=HV.of ρ0;refine Gv.fn (np:=2) (k:=9) (b:=ON) (xs:=[bx a b c,D]) rfl (show Gv ON ρ0 _ from ?_);refine Gv.ex (H0.unp3 (x:=.int (a:Int)) (y:=.int (b:Int)) (z:=.int (c:Int)) (d:=0) (H0.var (j:=0) rfl) (show 2 < 11 by decide) (show 3 < 11 by decide) (show 4 < 11 by decide)) λ ρ1 H1=>?_;obtain ⟨d5,e5⟩:=vK B;refine Gv.ex (H1.set (x:=il (BX a b c (fT a b 0) (fT a b c) (BD a b))) (AE (xs:=[(bx a b c,0)]) (AF (H1.var rfl)) e5) (show 5 < 11 by decide)) λ ρ2 H2=>?_;obtain ⟨d6,e6⟩:=bG B X.m H2 rfl rfl rfl;refine Gv.ex (H2.set (x:=A5 (a * b * c) 2) e6 (show 6 < 11 by decide)) λ ρ3 H3=>?_;have w1:a * b<=6 * 6:=FZ A.1 A.2.1;have w2:a * b * c<=6 * 6 * 6:=FZ w1 A.2.2;obtain ⟨dq,eq⟩:=MY (n:=a * b * c) (d:=2) (by decide) (by omega) (by decide);have v2:=H3.var (j:=2) (x:=.int (a:Int)) rfl;have v3:=H3.var (j:=3) (x:=.int (b:Int)) rfl;have v4:=H3.var (j:=4) (x:=.int (c:Int)) rfl;have m1:=Dr v2 v3 (.inl ⟨by omega,by omega⟩);rw [<- Gb] at m1;have m2:=Dr m1 v4 (.inr ⟨by omega,by omega⟩);rw [<- Gb] at m2;refine Gv.no (AH (Cj (op:=A3 true) (H3.var (j:=6) (x:=A5 (a * b * c) 2) rfl) (AE (xs:=[(.int ((a * b * c:Nat):Int),om),(.int ((2:Nat):Int),om)]) (A6 m2 (AF rfl)) eq) MO)) ?_;let P (s7 s8 s9 s10:Option PV):List (Option PV):=L (some (.int (a:Int))) (some (.int (b:Int))) (some (.int (c:Int))) (some (il (BX a b c (fT a b 0) (fT a b c) (BD a b)))) (some (A5 (a * b * c) 2)) s7 s8 s9 s10;obtain ⟨ρ4,e4,_⟩:=Sb (asg:=asgT [7,8,9]) (body:=(Ag (Aj false 10 (Ab An (Aa 1) (Ak AX (Ad (Ab BH (Ab BH (Aa 2) (bC (.int 1))) (Aa 7)) (Ad (Ab BH (Ab BH (Aa 3) (bC (.int 1))) (Aa 8)) (Ad (Ab BH (Ab BH (Aa 4) (bC (.int 1))) (Aa 9)) (Ac)))))) [1,2,7,3,8,4,9])
 (Bm (bT (Ab (A3 true) (Ap Jv (Ad (Ab An (Aa 1) (Ak AX (Ad (Aa 7) (Ad (Aa 8) (Ad (Aa 9) (Ac)))))) (Ad (Aa 10) (Ac)))) (Ak AX (Ad (bC (.int 1)) (Ad (bC (.int 1)) (Ac)))))) (Az (bC (.bl false))) AB))) ((Ri b c a).map Al) (λ _ ρ=>∃ s7 s8 s9 s10,HV (P s7 s8 s9 s10) [] ρ) (Bb (dv D) [1] ρ3) ⟨_,_,_,_,H3.cool⟩ λ m x ρ hx ⟨s7,s8,s9,s10,h⟩=>by
  obtain ⟨r,hr,rfl⟩:=jc2.mp (OD hx);obtain ⟨i,j,k,hi,hj,hk,rfl⟩:=Wo hr;obtain ⟨ρa,ea,ha⟩:=h.asg3 (i:=7) (j:=8) (k:=9) (.int (i:Int)) (.int (j:Int)) (.int (k:Int)) (show 7 < 11 by decide) (show 8 < 11 by decide) (show 9 < 11 by decide) ⟨λ h=>(nomatch h),λ h=>(nomatch h),λ h=>(nomatch h)⟩;have ha:HV (P (some (.int (i:Int))) (some (.int (j:Int))) (some (.int (k:Int))) s10) [] ρa:=ha;have at1:∀ {ρ:Af}{f:Fx}{i j k e:Nat},Aa 1 ρ=.ok (D,dv D,ρ)->f ρ=.ok (Al [(i:Int),(j:Int),(k:Int)],e,ρ)->i < a->j < b->k < c->Ab An (Aa 1) f ρ=.ok (A5 (nK a b c (fT a b 0) (fT a b c) i j k) N,0,ρ):=λ {ρ f i j k e} h1 h2 hi hj hk=>by
   rw [eN];rw [eD] at h1;exact Y3 h1 h2 (VM hi hj hk)
  have s1:=Fq (Fq (ha.var (j:=2) (x:=.int (a:Int)) rfl) (g:=bC (.int 1)) (j:=1) (e:=om) rfl) (ha.var (j:=7) (x:=.int (i:Int)) rfl);have s2:=Fq (Fq (ha.var (j:=3) (x:=.int (b:Int)) rfl) (g:=bC (.int 1)) (j:=1) (e:=om) rfl) (ha.var (j:=8) (x:=.int (j:Int)) rfl);have s3:=Fq (Fq (ha.var (j:=4) (x:=.int (c:Int)) rfl) (g:=bC (.int 1)) (j:=1) (e:=om) rfl) (ha.var (j:=9) (x:=.int (k:Int)) rfl);rw [show (a:Int) - 1 - (i:Int)=((a - 1 - i:Nat):Int) by omega] at s1;rw [show (b:Int) - 1 - (j:Int)=((b - 1 - j:Nat):Int) by omega] at s2;rw [show (c:Int) - 1 - (k:Int)=((c - 1 - k:Nat):Int) by omega] at s3;have ac:=at1 (ha.var (j:=1) (x:=D) rfl) (f:=Ak AX _) (Cw (A6 s1 (A6 s2 (AF s3))) rfl) (by omega) (by omega) (by omega);obtain ⟨ρb,eb,hb⟩:=ha.set (i:=10) (vs:=[1,2,7,3,8,4,9]) ac (show 10 < 11 by decide);have hb:HV (P (some (.int (i:Int))) (some (.int (j:Int))) (some (.int (k:Int))) (some (A5 (nK a b c (fT a b 0) (fT a b c) (a - 1 - i) (b - 1 - j) (c - 1 - k)) N))) [] ρb:=hb;refine ⟨ρa,ρb,ea,(Be eb).trans ?_,_,_,_,_,hb⟩;have rn:=(ye B.p B.q hi hj hk).1;rw [WD,WD,show (c:Int) - c=0 by omega,show (c:Int) - 0=c by omega] at rn;rw [<- eN] at rn hM hP;obtain ⟨ep,e38⟩:=X6 (n1:=nK a b c (fT a b 0) (fT a b c) i j k) (n2:=nK a b c (fT a b 0) (fT a b c) (a - 1 - i) (b - 1 - j) (c - 1 - k)) (d1:=N) (d2:=N) hP hP (by omega) (by omega) (by omega) (by omega);have own:=at1 (hb.var (j:=1) (x:=D) rfl) (f:=Ak AX (Ad (Aa 7) (Ad (Aa 8) (Ad (Aa 9) (Ac))))) (Cw (A6 (hb.var (j:=7) (x:=.int (i:Int)) rfl) (A6 (hb.var (j:=8) (x:=.int (j:Int)) rfl) (AF (hb.var (j:=9) (x:=.int (k:Int)) rfl)))) rfl) hi hj hk;refine (DO (AH (d:=om) (Cj (op:=A3 true) (z:=.bl false) (c:=om) (AE (xs:=[(A5 (nK a b c (fT a b 0) (fT a b c) i j k) N,0),(A5 (nK a b c (fT a b 0) (fT a b c) (a - 1 - i) (b - 1 - j) (c - 1 - k)) N,0)]) (A6 own (AF (hb.var (j:=10) rfl))) e38) (g:=Ak AX (Ad (bC (.int 1)) (Ad (bC (.int 1)) (Ac)))) (y:=.tup [.int 1,.int 1]) (e:=om) rfl ?_))).trans rfl;have en:nK a b c (fT a b 0) (fT a b c) i j k * N + nK a b c (fT a b 0) (fT a b c) (a - 1 - i) (b - 1 - j) (c - 1 - k) * N=N * N:=by
   rw [<- Oz,Zq,rn]
  exact (yd (S4 hP hP)).trans (by rw [decide_eq_true en];rfl)
 exact Gv.nx (Yz (R:=Ri b c a) (by rw [<- eD];exact H3.var (j:=1) rfl) (by rw [eD]) e4) (Gv.ret (f:=bC (.bl true)) rfl)
end
end K68
namespace K68
open PySem PySem.Spec PyProof.Rows L2 QQ QV
def Fr (ns:List Int) (s1 s2 s3 s4 s5 s6 s7 s8 s9 s10 s11 s12 s13 s14 s15:Option PV):List (Option PV):=[some (.scr ns),s1,s2,s3,s4,s5,s6,s7,s8,s9,s10,s11,s12,s13,s14,s15]
theorem law_true:∀ ns:List Int,ns.length<=63->∃ d z,xa [.scr ns]=.ok (.bl true,d,z):=by
 intro ns hns;have z:=sz;refine Gv.fn (np:=1) (k:=15) (b:=OM) rfl (show Gv OM [some (.scr ns,om),none,none,none,none,none,none,none,none,none,none,none,none,none,none,none] _ from ?_);have h0:HV (Fr ns none none none none none none none none none none none none none none none) [] [some (.scr ns,om),none,none,none,none,none,none,none,none,none,none,none,none,none,none,none]:=HV.of [some (.scr ns,om),none,none,none,none,none,none,none,none,none,none,none,none,none,none,none];have K:∀ (k:Nat) {L:List (Option PV)}{O:List Nat}{ρ:Af},k<=100->HV L O ρ->L[0]?=some (some (.scr ns))->∃ x:Int,Ap My (Ad (Ap Mz (Ad (Aa 0) (Ad (bC (.int (k:Nat))) (Ac)))) (Ad (bC (.int (k:Nat))) (Ac))) ρ=.ok (.int x,om,ρ):=λ k L O ρ hk h e=>by
  obtain ⟨x,ex⟩:=uR (ns.getD k 0) k (by omega);exact ⟨x,AE (xs:=[(.int (ns.getD k 0),om),(.int (k:Int),om)]) (A6 (AE (xs:=[(.scr ns,om),(.int (k:Int),om)]) (A6 (h.var e) (AF rfl)) (vC ns k)) (AF rfl)) ex⟩
 obtain ⟨l,el⟩:=K 0 (by omega) h0 rfl;refine Gv.ex (h0.setO (x:=.int l) el (show 1 < 16 by decide)) λ ρ1 (h1:HV (Fr ns (some (.int l)) none none none none none none none none none none none none none none) [] ρ1)=>?_;obtain ⟨x,y,w,hx,hy,hw,eb⟩:=TJ l (r:=3) (s:=3) (t:=3) (by omega) (by omega) (by omega);refine Gv.ex (h1.setO (x:=bx x y w) (AE (xs:=[(.int l,om),(.int 3,om),(.int 3,om),(.int 3,om)]) (A6 (h1.var rfl) rfl) eb) (show 2 < 16 by decide)) λ ρ2 (h2:HV (Fr ns (some (.int l)) (some (bx x y w)) none none none none none none none none none none none none none) [] ρ2)=>?_;refine Gv.ex (P:=λ ρ=>∃ a b c:Nat,Bx a b c/\HV (Fr ns (some (.int l)) (some (bx a b c)) none none none none none none none none none none none none none) [] ρ) ?_ λ ρ3 ⟨a,b,c,X,h3⟩=>?_
 ·have tt:=AH (HD (neg:=false) (g:=bC (.int 1)) (j:=1) (e:=om) (E7 (g:=bC (.int 8)) (j:=8) (e:=om) (FL (g:=bC (.int 54)) (j:=54) (e:=om) (h2.var (j:=1) rfl) rfl (by decide) (by decide)) rfl (by decide)) rfl);rw [LY] at tt;by_cases h:l / 54 % 8=1
  ·rw [decide_eq_true h] at tt;have k:=E7 (g:=bC (.int 3)) (j:=3) (e:=om) (FL (g:=bC (.int 432)) (j:=432) (e:=om) (h2.var (j:=1) rfl) rfl (by decide) (by decide)) rfl (by decide);have pick:∀ (a b c:Nat),(a,b,c)∈zfq->∀ m:Int,l / 432 % 3=m->An (.lst [bx 2 5 1,bx 1 6 2,bx 2 4 2]) om (.int m) om=some (bx a b c,0)->Nx (Aj false 2 (Ab An (Ak AW (Ad (Ak AX (Ad (bC (.int 2)) (Ad (bC (.int 5)) (Ad (bC (.int 1)) (Ac))))) (Ad (Ak AX (Ad (bC (.int 1)) (Ad (bC (.int 6)) (Ad (bC (.int 2)) (Ac))))) (Ad (Ak AX (Ad (bC (.int 2)) (Ad (bC (.int 4)) (Ad (bC (.int 2)) (Ac))))) (Ac))))) (Ab C7 (Ab DB (Aa 1) (bC (.int 432))) (bC (.int 3)))) [1]) ρ2 λ ρ=>∃ a b c:Nat,Bx a b c/\HV (Fr ns (some (.int l)) (some (bx a b c)) none none none none none none none none none none none none none) [] ρ:=λ a b c hm m em eo=>(show Nx _ _ _ from h2.set (x:=bx a b c) (Cj (x:=.lst [bx 2 5 1,bx 1 6 2,bx 2 4 2]) (d:=om) rfl k (by rw [em];exact eo)) (show 2 < 16 by decide)).mono λ ρ h=>⟨a,b,c,V8 hm,h⟩
   refine Nx.yes tt ?_;have hm:l / 432 % 3=0\/l / 432 % 3=1\/l / 432 % 3=2:=by omega
   rcases hm with e | e | e
   ·exact pick 2 5 1 (by decide) 0 e rfl
   ·exact pick 1 6 2 (by decide) 1 e rfl
   ·exact pick 2 4 2 (by decide) 2 e rfl
  ·rw [decide_eq_false h] at tt;exact Nx.no tt ⟨x,y,w,ux (by omega) (by omega) (by omega),h2⟩
 have A:=X.ab;have LO:=X.lo;obtain ⟨l1,el1⟩:=K 1 (by omega) h3 rfl;obtain ⟨one,d1',p1,e1⟩:=Yu (a:=a) (b:=b) (c:=c) l1 (by omega) (by omega) (by omega);refine Gv.ex (h3.set (x:=tb one) (AE (xs:=[(bx a b c,0),(.int l1,om)]) (A6 (h3.var rfl) (AF el1)) e1) (show 3 < 16 by decide)) λ ρ4 (h4:HV (Fr ns (some (.int l)) (some (bx a b c)) (some (tb one)) none none none none none none none none none none none none) [] ρ4)=>?_;obtain ⟨l2,el2⟩:=K 2 (by omega) h4 rfl;obtain ⟨other,d2,p2,e2⟩:=Yu (a:=a) (b:=b) (c:=c) l2 (by omega) (by omega) (by omega);refine Gv.ex (h4.set (x:=tb other) (AE (xs:=[(bx a b c,0),(.int l2,om)]) (A6 (h4.var rfl) (AF el2)) e2) (show 4 < 16 by decide)) λ ρ5 (h5:HV (Fr ns (some (.int l)) (some (bx a b c)) (some (tb one)) (some (tb other)) none none none none none none none none none none none) [] ρ5)=>?_;refine Gv.ex (h5.set (x:=tb (zT C4 one other)) (AE (xs:=[(tb one,0),(tb other,0),(.int 0,om)]) (A6 (h5.var rfl) (A6 (h5.var rfl) (AF rfl))) (Sw p1.tab (by omega) (by omega))) (show 5 < 16 by decide)) λ ρ6 (h6:HV (Fr ns (some (.int l)) (some (bx a b c)) (some (tb one)) (some (tb other)) (some (tb (zT C4 one other))) none none none none none none none none none none) [] ρ6)=>?_;refine Gv.ex (h6.set (x:=tb (zT Bq one other)) (AE (xs:=[(tb one,0),(tb other,0),(.int 1,om)]) (A6 (h6.var rfl) (A6 (h6.var rfl) (AF rfl))) (LP p1.tab (by omega) (by omega))) (show 6 < 16 by decide)) λ ρ7 (h7:HV (Fr ns (some (.int l)) (some (bx a b c)) (some (tb one)) (some (tb other)) (some (tb (zT C4 one other))) (some (tb (zT Bq one other))) none none none none none none none none none) [] ρ7)=>?_;have BM:Bt a b c (zT C4 one other) (zT Bq one other):=⟨X.N,X.bd,X.ab,uq p1 p2,Pl p1 p2,WZ λ i j hi hj=>by
  rw [Ip p1.tab p2.tab,Ip p1.tab p2.tab,BY hi hj,BY hi hj];unfold C4 Bq;split <;> split <;> omega⟩
 have wq:=HD (neg:=false) (g:=bC (.int 0)) (j:=0) (e:=om) (E7 (g:=bC (.int 2)) (j:=2) (e:=om) (FL (g:=bC (.int 27)) (j:=27) (e:=om) (h7.var (j:=1) (x:=.int l) rfl) rfl (by decide) (by decide)) rfl (by decide)) rfl;rw [LY] at wq;obtain ⟨wh,ew⟩:∃ wh,wh=decide (l / 27 % 2=0):=⟨_,rfl⟩
 rw [<- ew] at wq;refine Gv.ex (h7.setO (x:=.bl wh) wq (show 7 < 16 by decide)) λ ρ8 (h8:HV (Fr ns (some (.int l)) (some (bx a b c)) (some (tb one)) (some (tb other)) (some (tb (zT C4 one other))) (some (tb (zT Bq one other))) (some (.bl wh)) none none none none none none none none) [] ρ8)=>?_;let P0 (low high:List (List Int)) (s8 s9 s10 s11 s12 s13 s14 s15:Option PV):List (Option PV):=Fr ns (some (.int l)) (some (bx a b c)) (some (tb one)) (some (tb other)) (some (tb low)) (some (tb high)) (some (.bl wh)) s8 s9 s10 s11 s12 s13 s14 s15;refine Gv.ex (P:=λ ρ=>∃ low high:List (List Int),Bt a b c low high/\(wh=true->low=fT a b 0/\high=fT a b c)/\HV (P0 low high none none none none none none none none) [] ρ) ?_ λ ρ9 ⟨low,high,B,hw,h9⟩=>?_
 ·have tt:=AH (h8.var (j:=7) (x:=.bl wh) rfl);cases wh with
  | false=>exact Nx.no tt ⟨_,_,BM,(λ h=>nomatch h),h8⟩
  | true=>
   refine Nx.yes tt (Nx.seq (show Nx _ _ _ from h8.setO (x:=tb (fT a b 0)) (AE (xs:=[(bx a b c,0),(.int 0,om)]) (A6 (h8.var rfl) (AF rfl)) (Wz (by omega) (by omega))) (show 5 < 16 by decide)) λ ρ' (h':HV (P0 (fT a b 0) (zT Bq one other) none none none none none none none none) [] ρ')=>?_);exact (show Nx _ _ _ from h'.setO (x:=tb (fT a b c)) (AE (xs:=[(bx a b c,0),(.int (c:Int),om)]) (A6 (h'.var rfl) (AF (Cj (op:=An) (x:=bx a b c) (d:=0) (y:=.int 2) (e:=om) (h'.var rfl) rfl rfl))) (Wz (by omega) (by omega))) (show 6 < 16 by decide)).mono λ ρ h=>⟨_,_,Xq X,λ _=>⟨rfl,rfl⟩,h⟩
 have hM:=B.many;have hP:=B.pos;obtain ⟨N,eN⟩:∃ N,N=(PB a b c low high).length:=⟨_,rfl⟩
 have hN:0 < N/\N<=2 ^ 30:=by omega
 have e8:=Yt B.N B.p B.q;rw [show (B3 (g low) (g high) c b a).length=N from eN.symm] at e8;refine Gv.ex (h9.setO (x:=.int (N:Int)) (AE (xs:=[(bx a b c,0),(tb low,0),(tb high,0)]) (A6 (h9.var rfl) (A6 (h9.var rfl) (AF (h9.var rfl)))) e8) (show 8 < 16 by decide)) λ ρ10 (h10:HV (P0 low high (some (.int (N:Int))) none none none none none none none) [] ρ10)=>?_;obtain ⟨S,eS⟩:∃ S,S=hS a b c low high:=⟨_,rfl⟩
 have sat:∀ i j k:Nat,S [(i:Int),(j:Int),(k:Int)]=A5 (nK a b c low high i j k) N:=λ i j k=>by rw [eS,eN];rfl
 let P (R:List (List Int)) (s10 s11 s12 s13 s14 s15:Option PV):List (Option PV):=P0 low high (some (.int (N:Int))) (some (dV R S)) s10 s11 s12 s13 s14 s15;refine Gv.ex (h10.setN (i:=9) (x:=.dct []) (f:=DR) rfl (show 9 < 16 by decide)) λ ρ11 (h11:HV (P [] none none none none none none) [9] ρ11)=>?_;have zz:(some (PV.tup [.int 0,.int 1]))=some (A5 0 N):=by rw [Sj hN.1]
 refine Gv.ex (h11.setK (i:=10) (x:=A5 0 N) (d:=om) (vs:=[]) (by rw [Sj hN.1];rfl) (show 10 < 16 by decide) (λ _ _=>rfl) (by decide)) λ ρ12 (h12:HV (P [] (some (A5 0 N)) none none none none none) [9] ρ12)=>?_;have nl:∀ i j k,nK a b c low high i j k<=2 ^ 30:=λ i j k=>BF (OE _ _) (by show (PB a b c low high).length<=_;omega);have hl6:∀ i j,i < a->j < b->hK a b c low high i j<=6 * 2 ^ 30:=λ i j hi hj=>by
  rw [<- Xv B.p hi hj];exact BF (LI (f:=λ k=>nK a b c low high i j k) (m:=2 ^ 30) c λ k _=>nl i j k) (Hs _ A.2.2)
 let T (m:Nat):Nat:=rs (λ i=>rs (λ j=>hK a b c low high i j) b) m;have rl:∀ i j,i < a->j<=b->rs (λ j=>hK a b c low high i j) j<=6 * (6 * 2 ^ 30):=λ i j hi hj=>BF (LI (f:=λ j=>hK a b c low high i j) (m:=6 * 2 ^ 30) j λ k hk=>hl6 i k hi (by omega)) (Hs _ (by omega));have tl:∀ m,m<=a->T m<=6 * (6 * (6 * 2 ^ 30)):=λ m hm=>BF (LI (f:=λ i=>rs (λ j=>hK a b c low high i j) b) (m:=6 * (6 * 2 ^ 30)) m λ k hk=>rl k b (by omega) (A4 _)) (Hs _ (by omega));have bi:∀ {ρ:Af}{L:List (Option PV)}{O:List Nat} (n:Int) (m:Nat),HV L O ρ->L[2]?=some (some (bx a b c))->An (bx a b c) 0 (.int n) om=some (.int (m:Int),om)->Ab An (Aa 2) (bC (.int n)) ρ=.ok (.int (m:Int),om,ρ):=λ n m H e h=>Cj (x:=bx a b c) (d:=0) (e:=om) (H.var e) rfl h;have len1:∀ i j k:Nat,i < a->j < b->k < c->(Ri b c i++Rj c i j++Rk i j k).length < 1000000:=λ i j k hi hj hk=>by
  have k1:∀ i j n:Nat,(Rk i j n).length=n:=λ i j n=>by unfold Rk;rw [AJ,FF]
  have j1:∀ i n:Nat,(Rj c i n).length<=n * 6:=λ i n=>Rt n λ j=>by rw [k1];omega
  have i1:(Ri b c i).length<=i * 36:=Rt i λ i'=>BF (j1 i' b) (by omega)
  have:=j1 i j
  rw [Br,Br,k1];omega
 refine Gv.ex (P:=λ ρ=>∃ s11 s12 s13 s14 s15,HV (P (Ri b c a) (some (A5 (T a) N)) s11 s12 s13 s14 s15) [9] ρ) (Nx.forR (n:=a) (f:=Ab An (Aa 2) (bC (.int 0))) (λ m ρ=>∃ s11 s12 s13 s14 s15,HV (P (Ri b c m) (some (A5 (T m) N)) s11 s12 s13 s14 s15) [9] ρ) (bi 0 a h12 rfl rfl) (by omega) ⟨_,_,_,_,_,h12⟩ λ i ρ hi ⟨s11,s12,s13,s14,s15,h⟩=>?_) λ ρ13 ⟨s11,s12,s13,s14,s15,h13⟩=>?_
 ·obtain ⟨ρa,ea,ha⟩:=h.asgN (i:=11) (.int (i:Int)) (show 11 < 16 by decide) (by decide);have ha:HV (P (Ri b c i) (some (A5 (T i) N)) (some (.int (i:Int))) s12 s13 s14 s15) [9] ρa:=ha;refine ⟨ρa,ea,?_⟩;refine Nx.mono (Nx.forR (n:=b) (f:=Ab An (Aa 2) (bC (.int 1))) (λ m ρ=>∃ s12 s13 s14 s15,HV (P (Ri b c i++Rj c i m) (some (A5 (T i + rs (λ j=>hK a b c low high i j) m) N)) (some (.int (i:Int))) s12 s13 s14 s15) [9] ρ) (bi 1 b ha rfl rfl) (by omega) ⟨_,_,_,_,by rw [show Rj c i 0=[] from rfl,FE];exact ha⟩ λ j ρ hj ⟨s12,s13,s14,s15,h⟩=>?_) λ ρ ⟨s12,s13,s14,s15,h⟩=>⟨some (.int (i:Int)),s12,s13,s14,s15,by
   show HV (P (Ri b c (i + 1)) (some (A5 (rs (λ i=>rs (λ j=>hK a b c low high i j) b) (i + 1)) N)) _ _ _ _ _) _ _;rw [ME,show Ri b c (i + 1)=Ri b c i++Rj c i b from Ji _ i];exact h⟩
  obtain ⟨ρb,eb,hb⟩:=h.asgN (i:=12) (.int (j:Int)) (show 12 < 16 by decide) (by decide);have hb:HV (P (Ri b c i++Rj c i j) (some (A5 (T i + rs (λ j=>hK a b c low high i j) j) N)) (some (.int (i:Int))) (some (.int (j:Int))) s13 s14 s15) [9] ρb:=hb;refine ⟨ρb,eb,?_⟩;refine Nx.seq (show Nx _ _ _ from hb.setK (i:=13) (x:=A5 0 N) (d:=om) (vs:=[]) (by rw [Sj hN.1];rfl) (show 13 < 16 by decide) (λ _ _=>rfl) (by decide)) λ ρc (hc:HV (P (Ri b c i++Rj c i j) (some (A5 (T i + rs (λ j=>hK a b c low high i j) j) N)) (some (.int (i:Int))) (some (.int (j:Int))) (some (A5 0 N)) s14 s15) [9] ρc)=>?_;refine Nx.seq (Nx.forR (n:=c) (f:=Ab An (Aa 2) (bC (.int 2))) (λ m ρ=>∃ s14 s15,HV (P (Ri b c i++Rj c i j++Rk i j m) (some (A5 (T i + rs (λ j=>hK a b c low high i j) j) N)) (some (.int (i:Int))) (some (.int (j:Int))) (some (A5 (rs (λ k=>nK a b c low high i j k) m) N)) s14 s15) [9] ρ) (bi 2 c hc rfl rfl) (by omega) ⟨_,_,by rw [show Rk i j 0=[] from rfl,FE];exact hc⟩ λ k ρ hk ⟨s14,s15,h⟩=>?_) λ ρd ⟨s14,s15,hd⟩=>?_
  ·obtain ⟨ρe,ee,he⟩:=h.asgN (i:=14) (.int (k:Int)) (show 14 < 16 by decide) (by decide);have he:HV (P (Ri b c i++Rj c i j++Rk i j k) (some (A5 (T i + rs (λ j=>hK a b c low high i j) j) N)) (some (.int (i:Int))) (some (.int (j:Int))) (some (A5 (rs (λ k=>nK a b c low high i j k) k) N)) (some (.int (k:Int))) s15) [9] ρe:=he;refine ⟨ρe,ee,?_⟩;have cu:∀ {s15:Option PV}{ρ:Af},HV (P (Ri b c i++Rj c i j++Rk i j k) (some (A5 (T i + rs (λ j=>hK a b c low high i j) j) N)) (some (.int (i:Int))) (some (.int (j:Int))) (some (A5 (rs (λ k=>nK a b c low high i j k) k) N)) (some (.int (k:Int))) s15) [9] ρ->Ak AX (Ad (Aa 11) (Ad (Aa 12) (Ad (Aa 14) (Ac)))) ρ=.ok (c3 (i,j,k),om,ρ):=λ h=>Cw (A6 (h.var (j:=11) rfl) (A6 (h.var (j:=12) rfl) (AF (h.var (j:=14) rfl)))) rfl;obtain ⟨ds,es⟩:=uJ B hi hj hk;rw [<- eN] at es;refine Nx.seq (show Nx _ _ _ from he.setK (i:=15) (x:=A5 (nK a b c low high i j k) N) (AE (xs:=[(bx a b c,0),(tb low,0),(tb high,0),(c3 (i,j,k),om)]) (A6 (he.var rfl) (A6 (he.var rfl) (A6 (he.var rfl) (AF (cu he))))) es) (show 15 < 16 by decide) (by decide) (by decide)) λ ρf (hf:HV (P (Ri b c i++Rj c i j++Rk i j k) (some (A5 (T i + rs (λ j=>hK a b c low high i j) j) N)) (some (.int (i:Int))) (some (.int (j:Int))) (some (A5 (rs (λ k=>nK a b c low high i j k) k) N)) (some (.int (k:Int))) (some (A5 (nK a b c low high i j k) N))) [9] ρf)=>?_;obtain ⟨dl,el⟩:=du B hi hj hk;rw [<- eN] at el;refine Nx.seq (Nx.no (AH (Cj (op:=A3 true) (hf.var (j:=15) (x:=A5 (nK a b c low high i j k) N) rfl) (AE (xs:=[(bx a b c,0),(tb low,0),(tb high,0),(.int (N:Int),om),(c3 (i,j,k),om)]) (A6 (hf.var rfl) (A6 (hf.var rfl) (A6 (hf.var rfl) (A6 (hf.var rfl) (AF (cu hf)))))) el) MO)) hf) λ ρf hf=>?_;refine Nx.seq (jY (r:=[(i:Int),(j:Int),(k:Int)]) (e:=0) hf rfl (by decide) (by rw [sat];exact hf.var rfl) (by rw [sat];rfl) (by rw [sat];rfl) (cu hf) wA (len1 i j k hi hj hk)) λ ρg hg=>?_;rw [IY (as:=Ri b c i++Rj c i j),<- Ud] at hg;have hg:HV (P (Ri b c i++Rj c i j++Rk i j (k + 1)) (some (A5 (T i + rs (λ j=>hK a b c low high i j) j) N)) (some (.int (i:Int))) (some (.int (j:Int))) (some (A5 (rs (λ k=>nK a b c low high i j k) k) N)) (some (.int (k:Int))) (some (A5 (nK a b c low high i j k) N))) [9] ρg:=hg;have hr:=LI (f:=λ k=>nK a b c low high i j k) (m:=2 ^ 30) k λ k _=>nl i j k;have hr2:k * 2 ^ 30<=6 * 2 ^ 30:=Hs _ (by omega);have hn:=nl i j k;obtain ⟨dp,ep⟩:=Va (s:=rs (λ k=>nK a b c low high i j k) k) (n:=nK a b c low high i j k) (d:=N) hN.1 (by omega) (by omega) (by omega);refine Nx.mono (show Nx _ _ _ from hg.setK (i:=13) (x:=A5 (rs (λ k=>nK a b c low high i j k) k + nK a b c low high i j k) N) (AE (xs:=[(A5 (rs (λ k=>nK a b c low high i j k) k) N,0),(A5 (nK a b c low high i j k) N,0)]) (A6 (hg.var (j:=13) rfl) (AF (hg.var (j:=15) rfl))) ep) (show 13 < 16 by decide) (by decide) (by decide)) λ ρ h=>⟨some (.int (k:Int)),some (A5 (nK a b c low high i j k) N),?_⟩
   rw [ME (λ k=>nK a b c low high i j k)];exact h
  ·rw [show rs (λ k=>nK a b c low high i j k) c=hK a b c low high i j from Xv B.p hi hj] at hd;obtain ⟨dh,eh⟩:=gO B hi hj;rw [<- eN] at eh;refine Nx.seq (Nx.no (AH (Cj (op:=A3 true) (AE (xs:=[(bx a b c,0),(tb low,0),(tb high,0),(.int (i:Int),om),(.int (j:Int),om)]) (A6 (hd.var rfl) (A6 (hd.var rfl) (A6 (hd.var rfl) (A6 (hd.var (j:=11) rfl) (AF (hd.var (j:=12) rfl)))))) eh) (hd.var (j:=13) (x:=A5 (hK a b c low high i j) N) rfl) MO)) hd) λ ρf hf=>?_;have b1:=tl i (by omega);have b2:=rl i j hi (by omega);have b3:=hl6 i j hi hj;obtain ⟨dp,ep⟩:=Va (s:=T i + rs (λ j=>hK a b c low high i j) j) (n:=hK a b c low high i j) (d:=N) hN.1 (by omega) (by omega) (by omega);refine Nx.mono (show Nx _ _ _ from hf.setK (i:=10) (x:=A5 (T i + rs (λ j=>hK a b c low high i j) j + hK a b c low high i j) N) (AE (xs:=[(A5 (T i + rs (λ j=>hK a b c low high i j) j) N,0),(A5 (hK a b c low high i j) N,0)]) (A6 (hf.var (j:=10) rfl) (AF (hf.var (j:=13) rfl))) ep) (show 10 < 16 by decide) (by decide) (by decide)) λ ρ h=>⟨some (.int (j:Int)),some (A5 (hK a b c low high i j) N),s14,s15,?_⟩
   rw [ME (λ j=>hK a b c low high i j),<- Nat.add_assoc,show Rj c i (j + 1)=Rj c i j++Rk i j c from Ji _ j,<- IY];exact h
 obtain ⟨dc,ec⟩:=yS B;rw [<- eN] at ec;refine Gv.no (AH (Cj (op:=A3 true) (AE (xs:=[(bx a b c,0),(tb low,0),(tb high,0)]) (A6 (h13.var rfl) (A6 (h13.var rfl) (AF (h13.var rfl)))) ec) (h13.var (j:=10) (x:=A5 (T a) N) rfl) MO)) ?_;have nt:=Gs (h13.var (j:=7) (x:=.bl wh) rfl);cases wh with
 | false=>
  refine Gv.ret (d:=om) (ρ1:=ρ13) (f:=Bz _ _) ?_;unfold Bz;rw [nt];rfl
 | true=>
  obtain ⟨rfl,rfl⟩:=hw rfl;obtain ⟨df,zf,ef⟩:=whole_ok X;refine Gv.ret (d:=df) (ρ1:=ρ13) (f:=Bz _ _) ?_;unfold Bz;rw [nt];refine AE (xs:=[(bx a b c,0),(CI (Ri b c a) (hS a b c (fT a b 0) (fT a b c)),0)]) (A6 (h13.var rfl) (AF (h13.var ?_))) ef;show some (some (dV (Ri b c a) S))=_;rw [V9,eS];intro e
  have:=VM (b:=b) (c:=c) (n:=a) (i:=0) (j:=0) (k:=0) (by omega) (by omega) (by omega)
  rw [e] at this;cases this
open PySem PySem.Spec PyProof.Rows L2 QQ
def view:AD:={ PySem.Challenge.pw_cornerpiles_k68_whole_shares_and_counts with main:={ PySem.Challenge.pw_cornerpiles_k68_whole_shares_and_counts.main with body:=[top 55] } }
def sts:List Stmt:=[55,54,35,32,34,33,53,52,51,50,49,48,47,46,45,43,42,40,19,41,39,20,18,38,37,15,30,28,27,26,25,24,22,23,17,14,13,12,11,10,9,8,7].map top
def loose:List Str:=(PySem.Challenge.pw_cornerpiles_k68_whole_shares_and_counts.main.scope.names.map λ x=>x.1).filter λ x=>!(x == ("law" : Str))
def run:∀ (w:PySem.World) (os:PySem.OsState),(J4 PySem.treeTable PySem.Challenge.rw_cornerpiles_k68_whole_shares_and_counts.prog w (Qm w.params).objs.size ((Qm w.params).nsMap Ep "__annotations__") 20000 (bootS w.params os) (PySem.W.topStub PySem.Challenge.rw_cornerpiles_k68_whole_shares_and_counts.prog)).map (λ s=>RV PySem.Challenge.rw_cornerpiles_k68_whole_shares_and_counts.prog view loose (λ s=>PySem.W.xlAt view [] s && PySem.W.recOk (PySem.W.RowW.records PySem.Challenge.rw_cornerpiles_k68_whole_shares_and_counts.row.toRowW) s) (λ s=>KY sts [] (LQ s.heap)) (Qm w.params) s.abs)=some (true,PySem.W.openGood view loose,KI sts):=λ w os=>by kernel_rfl
end K68
open PySem PySem.W PyProof.Rows
set_option maxRecDepth 100000 in
set_option maxHeartbeats 0 in
theorem PySem.Challenge.cw_cornerpiles_k68_whole_shares_and_counts_holds : PySem.Challenge.rw_cornerpiles_k68_whole_shares_and_counts.Holds := by
 refine QQ.holds_by (l:=PySem.Challenge.rw_cornerpiles_k68_whole_shares_and_counts) (q:=K68.view) (loose:=K68.loose) (N:=20000) (n:=63) ?said rfl rfl (λ _=>rfl) K68.run (by rfl) (by rfl) (by rfl) (by rfl) (by decide +kernel) ⟨rfl,rfl,rfl,rfl,rfl,by decide +kernel⟩ ?hw rfl (by decide) rfl ⟨rfl,by decide,by decide,rfl⟩ rfl rfl (sts:=K68.sts) rfl K68.k42 K68.law_true
 case said=>decide +kernel
 case hw=>w_witness2
