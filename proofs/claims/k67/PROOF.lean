import PyProof.Rows.All
import Wide.All
import OpenK.AllK
import Wide.FinOn
import Lean
import PyProof.EqAt
import PyProof.EqKinds
import PyProof.TupleCall
import PySem.Challenge.RW_cornerpiles_k67_whole_many_forms_of_one
open PySem renaming wpAny_bind->Ah,wpAny_pure->Aw,Value->Ae,Shared->Ai,sizeLine->Au,wpAny->Al,Program->AB,model->Ay,starEach->Bt,wpAny_newObj_type->Fd,compareOp->Cc,wpAny_callSpecial?_slot->HQ,World->A9,Paired->Bj,Around->Bi,wpAny_call_entry->Gy,wpAny_field->Eu,cellsFrom->Dh,wpAny_truthy_bool->HN,wpAny_dictEntries->HM,mainGlobals->ED,intItems->C8,sysModules->Fc,assignEach->EZ,NameKind->Dv,wpAny_seqItems->HL,DictEntry->EB,IsPair->Ck,FuncData->DW,wpAny_typeNameOfWhole_valiter->OZ,wpAny_typeNameOfWhole_keyiter->OY,Scope->B1,wpAny_setField_rec->KU,binaryOp->EA,numAt->BG,mem_of_lookup->Mi,wpAny_typeNameOf_valiter->OT,wpAny_typeNameOf_keyiter->OS,bootBuiltins->IG,wpAny_pyIter_tuple->Mh,wpAny_holding->J2,wpAny_dictEpoch->KR,tupleKind->Gw,behindInMarks->J1,wpAny_mono->HK,wpAny_setField->KQ,wpAny_fieldsOf->KP,firstArgMember->KO,wpAny_isInstance->Mg,rawInt->DO,wpAny_attempt->KI,cLine->Cv,wpAny_passesOwn->Mf,sliceBounds->Jy,wpAny_Call_Name_kw->OO,tupleKind_room_in1->ON,PyData->Es,pyNext->E9,foldedSetIterable->OM,intItems_at->KH,Operator->HI,wpAny_pyIter_zip->OL,wpAny_specialOf->OK,wpAny_notOrdered_dict->RH,wpAny_isOneOf_valiter->RF,wpAny_isOneOf_keyiter->RE,letOwnedTupleGo->OJ,IsZip->Du,Builtin->vl5,entryOfKey->KG,wpAny_updateSeq_pair->RB,wpAny_pyIter_revIter->R9,backTo->FV,wpAny_onRaise->OG,relabel->IE,getItem->ID,codeAny->IC,noFill_tuple_add->Rx,wpAny_letGo->OD,wpAny_execs_nil->Rw,valueAt->Jw,seqIndex_of->OC,pushCells_keeps->Ru,importedModules->Rt,callerA->Jv,assign->HG,IsRangeIter->OB,wpAny_letOwnedTupleGo_zip->VW,newFunctionEnv->Rq,isSubtype_stop->Rp
open PySem.Heap renaming get?_push_of_some->Ba,get?_push_size->BA,lt_size->AH,size_push->FW,get?_update_self->KY,get?_update_other->OP,SameBut->Jz
open PyProof.Rows renaming callWith_type1->HR,IntsAre->EY,AllBare->Gs,slot_tuple_getitem->Wg,envOfC->HH
open PySem.Builtin.SmallTypes renaming nextOf->IJ,ownedTupleIsFree->Pb,ownedTupleHandOut->Wi
open PySem.W renaming kia_one->Gx,boot_heap->EC,kitOne->II,findIn->IH,keepIn->KN,fnOf->J0,hideAll_get->R8,methodObj->R6,boot_heap->R5,instObj->Rr,lookIn->Ro,codeIn->Rn
open PySem.Builtin.Dict_items renaming ownsTuple->Ml
open PySem.Str renaming ofString->Ha
open PySem.F renaming slot_dict_valueiterator_next->Pa,slot_dict_keyiterator_next->OX,slot_tuple_iterator_next->OV,args_tuple_add_2->RL,entry_tuple_add->RK,slot_tuple_add->RJ,slot_zip_next->OH,args_dict_valueiterator_next_1->Wh,entry_dict_valueiterator_next->Wf,args_dict_keyiterator_next_1->We,entry_dict_keyiterator_next->Wc,args_tuple_iterator_next_1->Wb,entry_tuple_iterator_next->VZ
open PySem.Heap.SameBut renaming update->KW
open PySem.Obj renaming data_mapFields->KS,mapSeq->Jx,mapFields->Md,isFreed_of_fields->RD,cls_mapFields->R3
open PySem.Builtin.List renaming listExtendWith->OW,listTooLong->OQ
open PySem.Builtin.Dict renaming showsAll->Mj,entriesForEmpty->Wa
open PySem.Builtin.Slice renaming slicePlaces->OU,sliceAdjust->RM,sliceApplied->VX
open False renaming elim->GZ
open PySem.Builtin.Tuple renaming tupleExact->OR,tupleHashOf->RP
open Ne renaming symm->Et
open PySem.PyData renaming eqv->HJ,canLay0->KJ,depthAll->Me,eqvAll->OF,canLayAll0->R4
open PySem.SeqAt renaming EqAt->IF
open Decidable renaming byContradiction->RQ
open PySem.SeqAt.EqAt renaming same->OI
open Prod.mk renaming injEq->OE
open PySem.Calls renaming spliced_cons->R7,spliced_nil->Ry,Name_function_global->VY
open List renaming getD_eq_getElem?_getD->A7,length_map->Ax,mem_cons_of_mem->AE,mem_cons_self->AD,getElem?_eq_getElem->Bb,range->An,replicate->A6,length_append->Bm,getElem?_eq_some_iff->jb0,length_cons->AY,map_cons->AR,all_eq_true->jb3,map_append->B5,getElem?_map->BO,size_toArray->BQ,mem_cons->jb8,getElem?_append_left->DC,mem_range->jc2,mem_append_right->CL,mem_map->jc4,map_map->BC,length_range->CF,length_replicate->Ee,range_succ->CD,getElem_mem->CV,getElem?_eq_none->EL,getElem?_append_right->GF,getElem?_replicate->Gb,length_reverse->EK,replicate_succ->Fh,getElem?_set_self->GD,getElem?_set_ne->Ga,length_singleton->GC,mem_singleton->je2,nil_append->Ex,lookup_cons->Fg,sum_cons->DP,count_cons->EJ,map_congr_left->GB,sum_append->Ff,length_set->FD,filter_cons->FZ,length_take->GA,mem_append_left->Jb,pairwise_cons->jf6,append_nil->G9,cons_append->Hi,getElem_of_mem->Ja,filter_eq_self->jg2,append_assoc->Ig,nodup_cons->jg5,length_eq_zero_iff->jg8,flatten_cons->IZ,flatMap_cons->IX,mem_filter->jh4,mem_append->jh5,zip_cons_cons->JS,not_mem_nil->IW,all_cons->Hg,flatMap_append->Lr,take_of_length_le->Nm,map_reverse->JR,mem_flatMap->JQ,map_nil->Hf,mem_of_getElem?->Nl,of_mem_zip->JP,length_nil->JO,count_append->Lq,nodup_append->Lp,filterMap_cons->Nk,mem_reverse->jj8,filter_eq_nil_iff->jj9,getElem?_reverse->Qj,find?_cons->Lo,length_zip->Ln,reverse_cons->Ni,count_replicate->Qi,drop_eq_getElem_cons->Ul,take_zero->Lm,pairwise_iff_getElem->jk9,getElem?_range->Qh,zipWith->JL,filter_cons_of_neg->Uk,filter_cons_of_pos->Uj,range'->JK,filter_congr->Qf,pairwise_map->Qe,take_succ->Nh,length_filter_le->Uh,length_drop->Qd,take_length->Qc,getElem?_of_mem->Ug,any_cons->Ng,forIn_cons->Qb,take_succ_cons->Ue,filter_map->Qa,getElem?_concat_length->qZ,mem_filterMap->jn5,map_replicate->Ud,sum_nil->Nc,all_nil->Nb,mem_or_eq_of_mem_set->qY,getElem?_zip_eq_some->qX,getLast?_eq_getElem?->qW,getElem?_take_of_lt->qV,take_sublist->Ua,getLast?_nil->TY,getElem?_cons_succ->qU,sum->IT,getLast?_singleton->qT,ext_getElem->TX,drop_eq_nil_of_le->qS,pairwise_lt_range->qQ,range_succ_eq_map->qP,foldl_cons->TV,pairwise_flatMap->qO,mem_of_mem_take->qN,getLast?_append->qM,getElem?_append->qL,forIn_nil->TU,nodup_nil->TR,length->PN,mem_map_of_mem->qJ,length_flatMap->qI,reverse_append->qH,filter_flatMap->qG,findIdx?_cons->qC,foldl_append->qB,take_add_one->qA,map_set->TM,zipIdx_cons->qx,range'_succ->qv,sum_reverse->qu,append_inj'->qt,zipIdx_nil->qr,all_append->qo,take_left->qm,foldl->TH,getD->TC,map_id->qb
open Bool renaming and_eq_true->AU,false_ne_true->Ce,eq_iff_iff->Ed,false_eq_true->Hj,or_eq_true->G8,and_true->JM,false_xor->Ll,not_eq_true'->Qg,or_true->Na,and_false->PU,eq_false_iff->jp0,or_false->PR,and_eq_true_iff->jq6,false_or->TQ,true_and->qk
open Nat renaming le_refl->A5,lt_of_lt_of_le->BY,le_trans->BD,ne_of_lt->Cd,lt_irrefl->DB,ne_of_gt->Fe,mul_le_mul_right->JT,lt_succ_self->Ie,le_of_succ_le->IY,zero_le->FC,le_add_right->IV,zero_add->He,mul_le_mul->IU,lt_succ_of_lt->Nj,le_of_lt->Lk,min_eq_left->PY,succ_mul->Nf,add_sub_cancel->Uc,le_succ->MZ,lt_of_succ_lt_succ->qR,mul_comm->PQ,pow_le_pow_right->qK,pow_le_pow_left->qF,sub_self->TL,pow_succ->TK,sub_zero->TJ,min_le_right->q9,succ_ne_zero->qy,succ_le_succ->qw,min_le_left->qp,lt_or_ge->qi,lt_trans->qg,min_self->qe,add_mul->qd,one_mul->qc
open Option renaming map_eq_some_iff->jc1,map_some->Hh,bind_eq_some_iff->ji0,isSome_iff_exists->jl2,isSome_map->TZ,isSome_some->qD,getD_none->qz,some_or->ql
open Int renaming toNat_natCast->Di,zero_add->EI,le_refl->EH,natCast_mul->JN,le_trans->Ic,natCast_add->PZ,emod_nonneg->PX,emod_lt_of_pos->Ub,add_mul->PM,ofNat_inj->js4,le_antisymm->qq,toNat->PL,sub_zero->qh,ofNat_le->jv2,le_of_eq->qf,not_lt->jv9
open Array renaming getElem?_eq_none->JU,length_toList->Ls,getElem?_toList->Ui,toList_eq_nil_iff->jp4,append_assoc->qE,toList->qj
set_option Elab.async false
set_option linter.all false
set_option maxRecDepth 100000
set_option autoImplicit false
set_option maxHeartbeats 2000000
namespace L2
open PySem PySem.Spec PyProof.Rows
def Ji (s:Stmt):Arguments:=match s with
 | .FunctionDef _ a _ _ _ _ _ _ _ _=>a
 | _=>{ posonlyargs:=[],args:=[],vararg:=none,kwonlyargs:=[],kw_defaults:=[],kwarg:=none,defaults:=[] }
def Iv (s:Stmt):List Stmt:=match s with
 | .FunctionDef _ _ b _ _ _ _ _ _ _=>b
 | _=>[]
def Dt (s:Stmt):B1:=match s with
 | .FunctionDef _ _ _ _ _ _ sc _ _ _=>sc
 | _=>{ kind:=.function,names:=[],isGenerator:=false,isCoroutine:=false }
end L2
namespace QQ
open PySem PySem.Spec PySem.W PySem.Calls PyProof.Rows L2
abbrev Frag:=PySem.W.Frag
def XN:List Str:=["PileError","NoBox","NoPile","NoStairs","NoWays","NoRoad","NoNumber","NoPlace","TooMany","NoText","NoName","NoRow"]
def Sh (K:Frag) (x:Str):Option Addr:=match PySem.W.nsIn K ED x with
  | some (some (.ref C))=>some C
  | _=>none
def FR (K:Frag) (c:Nat):Option Addr:=match XN[c]? with
 | some x=>Sh K x
 | none=>none
def xj:List Ae:=[.type "ValueError",.type "Exception",.type "BaseException",.type "object"]
def T7 (K:Frag) (C:Addr):List Ae:=match K.lookup C with
 | some ⟨_,_,.cls cd,_⟩=>cd.mro
 | _=>[]
def Um (c d:Nat):Bool:=c == d || d == 0
def Mb (K:Frag):Bool:=(An 12).all λ c=>match FR K c with
 | some C=>PySem.W.excIn K C xj "ValueError.__new__" && (An 12).all λ d=>(match FR K d with
  | some D=>(T7 K C).contains (.ref D) == Um c d
  | none=>true)
 | none=>true
def wQ (K:Frag) (C:Addr):Bool:=(PySem.W.clsIn K C).isSome && PySem.W.mroIn K C (.type "object") == some true && PySem.W.mroIn K C (.type "BaseException") == some true && IH K (.ref C) "__class__" == some (some (.builtin "object.__class__")) &&
 IH K (.ref C) "__getattribute__" == some (some (.builtin "BaseException.__getattribute__")) && IH K (.ref C) "__getattr__" == some none
def Mc (K:Frag):Bool:=II K (.type "NoneType") (.type "ValueError") == some false && (An 12).all λ c=>match FR K c with
 | some C=>wQ K C && II K (.type "NoneType") (.ref C) == some false && II K (.ref C) (.type "ValueError") == some true && (An 12).all λ d=>(match FR K d with
  | some D=>II K (.ref C) (.ref D) == some (Um c d)
  | none=>true)
 | none=>true
def zjk:List Str:=["len","isinstance","all","max","min","tuple","list","range","int","bool","str","dict","sum","enumerate","zip","reversed","set","ValueError","sorted","abs"]
def K6 (tb:String->Option vl5) (p:AB) (w:A9) (n₀:Nat) (ann:Option Ae):Nat->SharedT->Thread->Option SharedT
 | 0,_,_=>none
 | n + 1,s,t=>match through t with
  | true=>some s
  | false=>match stepOk n₀ ann t with
   | false=>none
   | true=>match stepT (denote tb) p w s t with
    | some (s',t')=>K6 tb p w n₀ ann n s' t'
    | none=>none
def qa:List Obj->Nat->BT->BT
 | [],_,t=>t
 | o::r,n,t=>qa r (n + 1) (t.ins n o)
noncomputable def bootT (P:Params):BT:=qa (EC P).objs.toList 0 .nil
noncomputable def bootS (P:Params) (os:OsState):SharedT:=⟨bootT P,(EC P).objs.size,(EC P).life,#[],boot_drawn,boot_toks,os⟩
def Te {α:Type} (p q:AB) (loose:List Str) (Xt:Ai->Bool) (Yf:Ai->α) (H:Heap) (s:Ai):=
 ((staticsOk (Rt p.main.body) H s.heap && namesBound p s.heap && gensDone s && laidKept H s.heap),openSeen q loose (Rt p.main.body) Xt true s,Yf s)
def MY (h:Heap):Frag:=(An h.objs.size).filterMap λ a=>(h.get? a).map λ o=>(a,o)
structure DefSeen where
 name:Str
 qual:Str
 params:Arguments
 body:FuncBody
 scope:B1
 globals:Addr
 closure:List (Str×Addr)
 defaults:Ae
 builtins:Addr
 code:Bool
def Td (K:Frag) (x:Str):Option DefSeen:=match nsIn K ED x with
 | some (some (.ref g))=>(match K.lookup g with
  | some ⟨_,_,.func fd,_⟩=>some ⟨fd.name,fd.qualname,fd.params,fd.body,fd.scope,fd.globals,fd.closure,fd.defaults,fd.builtins,codeIn K fd.code x⟩
  | _=>none)
 | _=>none
def SE (x:Str) (st:Stmt):DefSeen:=⟨x,x,Ji st,.stmts (Iv st),Dt st,mainNs,[],.none,0,true⟩
def By:Stmt->Str
 | .FunctionDef x ..=>x
 | _ => ""
def LN (ds:List Stmt) (xc:List Nat) (K:Frag):List (Option DefSeen)×List (Option (Option Ae))×Bool:=
 (ds.map λ d=>Td K (By d),zjk.map λ x=>nsIn K ED x,xc.isEmpty || (Mb K && Mc K && xc.all λ c=>(FR K c).isSome && match XN[c]? with
  | some x=>!(x == ("__debug__" : Str))
  | none=>false))
def MS (ds:List Stmt):List (Option DefSeen)×List (Option (Option Ae))×Bool:=(ds.map λ d=>some (SE (By d) d),zjk.map λ _=>some none,true)
end QQ
namespace K67
open PySem PySem.Spec PyProof.Rows L2 QQ
def AX (i:Nat):Stmt:=PySem.Challenge.pw_cornerpiles_k67_whole_many_forms_of_one.main.body.getD i (.Pass ⟨0,0,0,0⟩)
def view:AB:={ PySem.Challenge.pw_cornerpiles_k67_whole_many_forms_of_one with main:={ PySem.Challenge.pw_cornerpiles_k67_whole_many_forms_of_one.main with body:=[AX 62] } }
def sts:List Stmt:=[62,61,55,54,53,52,51,50,48,49,47,45,44,43,20,19,18,17,16,15,60,59,58,57,41,39,38,37,36,35,33,34,31,30,29,28,27,26,24,23,22,21,14,13,11,10,9,8,7,12].map AX
def loose:List Str:=(PySem.Challenge.pw_cornerpiles_k67_whole_many_forms_of_one.main.scope.names.map λ x=>x.1).filter λ x=>!(x == ("law" : Str))
theorem run:∀ (w:PySem.World) (os:PySem.OsState),(K6 PySem.treeTable PySem.Challenge.rw_cornerpiles_k67_whole_many_forms_of_one.prog w (R5 w.params).objs.size ((R5 w.params).nsMap ED "__annotations__") 20000 (bootS w.params os) (PySem.W.topStub PySem.Challenge.rw_cornerpiles_k67_whole_many_forms_of_one.prog)).map (λ s=>Te PySem.Challenge.rw_cornerpiles_k67_whole_many_forms_of_one.prog view loose (λ s=>PySem.W.xlAt view [] s && PySem.W.recOk (PySem.W.RowW.records PySem.Challenge.rw_cornerpiles_k67_whole_many_forms_of_one.row.toRowW) s) (λ s=>LN sts [] (MY s.heap)) (R5 w.params) s.abs)=some (true,PySem.W.openGood view loose,MS sts):=λ w os=>by kernel_rfl
end K67
namespace L2
open PySem PySem.Spec PyProof.Rows
abbrev A0:=Sum Int Str
def Lc:A0->Ae->Bool
 | .inl k,v=>Value.isInt k v
 | .inr x,v=>Value.isStrOf x v
def TB (w:A9):A0->Int
 | .inl k=>hashInt k
 | .inr x=>hashStr w x
theorem Hr:∀ {k:A0}{v:Ae},Lc k v=true->(∃ i t,k=Sum.inl i/\v=Value.int i t)\/(∃ x t,k=Sum.inr x/\v=Value.str x t)
 | .inl i,v,h=>by
  obtain ⟨t,e⟩:=Value.isInt_shape (k:=i) (v:=v) h;exact .inl ⟨i,t,rfl,e⟩
 | .inr x,v,h=>by
  obtain ⟨t,e⟩:=Value.isStrOf_shape (x:=x) (v:=v) h;exact .inr ⟨x,t,rfl,e⟩
theorem dJ (i:Int) (t:Tok):Lc (.inl i) (.int i t)=true:=by simp [Lc,Value.isInt]
theorem ff (x:Str) (t:Tok):Lc (.inr x) (.str x t)=true:=by simp [Lc,Value.isStrOf]
theorem kX (a b:Int):decide ((Sum.inl a:A0)=Sum.inl b)=(a == b):=by
 by_cases e:a=b
 ·subst e;simp
 ·have h:¬ (Sum.inl a:A0)=Sum.inl b:=λ q=>e (Sum.inl.inj q);rw [decide_eq_false h];exact (beq_eq_false_iff_ne.mpr e).symm
theorem va (a b:Str):decide ((Sum.inr a:A0)=Sum.inr b)=decide (a=b):=by
 by_cases e:a=b
 ·subst e;simp
 ·have h:¬ (Sum.inr a:A0)=Sum.inr b:=λ q=>e (Sum.inr.inj q);rw [decide_eq_false h,decide_eq_false e]
theorem kY (a:Int) (b:Str):decide ((Sum.inl a:A0)=Sum.inr b)=false:=decide_eq_false (λ q=>nomatch q)
theorem kZ (a:Str) (b:Int):decide ((Sum.inr a:A0)=Sum.inl b)=false:=decide_eq_false (λ q=>nomatch q)
def C7 (prog:AB) (w:A9):PySem.KeyKind prog w A0 where
 is:=Lc
 hash:=TB w
 inj:=λ v a b ha hb=>by
  rcases Hr ha with ⟨i,t,rfl,rfl⟩ | ⟨x,t,rfl,rfl⟩
  ·rcases Hr hb with ⟨j,u,rfl,e⟩ | ⟨y,u,rfl,e⟩
   ·injection e with e1 _;rw [e1]
   ·exact nomatch e
  ·rcases Hr hb with ⟨j,u,rfl,e⟩ | ⟨y,u,rfl,e⟩
   ·exact nomatch e
   ·injection e with e1 _;rw [e1]
 byValue:=λ k v h=>by
  rcases Hr h with ⟨i,t,rfl,rfl⟩ | ⟨x,t,rfl,rfl⟩ <;> rfl
 pyHash:=λ hv h=>by
  rcases Hr hv with ⟨i,t,rfl,rfl⟩ | ⟨x,t,rfl,rfl⟩
  ·exact wpAny_pyHash_int h
  ·exact wpAny_pyHash_str h
 eqBool:=λ hu hv h=>by
  rcases Hr hu with ⟨i,t,rfl,rfl⟩ | ⟨x,t,rfl,rfl⟩
  ·rcases Hr hv with ⟨j,u,rfl,rfl⟩ | ⟨y,u,rfl,rfl⟩
   ·rw [kX] at h;exact wpAny_eqBool_int h
   ·rw [kY] at h;exact SeqAt.EqAt.int_str i t y u _ _ _ _ h
  ·rcases Hr hv with ⟨j,u,rfl,rfl⟩ | ⟨y,u,rfl,rfl⟩
   ·rw [kZ] at h;exact SeqAt.EqAt.str_int x t j u _ _ _ _ h
   ·rw [va] at h;exact wpAny_eqBool_str h
 «strs»:=λ k x t v h=>by
  rcases Hr h with ⟨i,u,rfl,e⟩ | ⟨y,u,rfl,e⟩
  ·exact nomatch e
  ·injection e with e1 _
   subst e1;cases v <;> rfl
theorem hZ (prog:AB) (w:A9) (i:Int) (t:Tok):(C7 prog w).is (.inl i) (.int i t)=true:=dJ i t
theorem lb (prog:AB) (w:A9) (x:Str) (t:Tok):(C7 prog w).is (.inr x) (.str x t)=true:=ff x t
inductive V where
 | non | bl (b:Bool) | int (i:Int) | str (x:Str) | byt (b:Array UInt8) | flt (b:UInt64) | ref (a:Addr) | ty (n:String)
 deriving DecidableEq
def RelV:V->Ae->Prop
 | .non,u=>u=Value.none
 | .bl b,u=>u=Value.bool b
 | .int i,u=>∃ t,u=Value.int i t
 | .str x,u=>∃ t,u=Value.str x t
 | .byt b,u=>∃ t,u=Value.bytes b t
 | .flt b,u=>∃ t,u=Value.float b t
 | .ref a,u=>u=Value.ref a
 | .ty n,u=>u=Value.type n
abbrev Vals:List V->List Ae->Prop:=Bj RelV
theorem Vals.length {xs:List V}{us:List Ae} (r:Vals xs us):xs.length=us.length:=Paired.length r
theorem Vals.get:∀ {xs:List V}{us:List Ae}{i:Nat}{x:V},Vals xs us->xs[i]?=some x->∃ u,us[i]?=some u/\RelV x u
 | _,_,_,_,.nil,e=>by simp at e
 | _,_,0,_,.cons r _,e=>by simp at e;subst e;exact ⟨_,rfl,r⟩
 | _,_,i + 1,x,.cons _ t,e=>by
  obtain ⟨u,h1,h2⟩:=Vals.get (i:=i) (x:=x) t (by simpa using e);exact ⟨u,by simpa using h1,h2⟩
theorem Vals.set {x:V}{u:Ae} (r:RelV x u):∀ {xs:List V}{us:List Ae} (i:Nat),Vals xs us->Vals (xs.set i x) (us.set i u)
 | _,_,_,.nil=>.nil
 | _,_,0,.cons _ t=>.cons r t
 | _,_,i + 1,.cons q t=>.cons q (Vals.set r i t)
theorem Vals.append:∀ {xs ys:List V}{us ws:List Ae},Vals xs us->Vals ys ws->Vals (xs++ys) (us++ws)
 | _,_,_,_,.nil,s=>s
 | _,_,_,_,.cons r t,s=>.cons r (Vals.append t s)
theorem Vals.take:∀ {xs:List V}{us:List Ae} (n:Nat),Vals xs us->Vals (xs.take n) (us.take n)
 | _,_,0,_=>.nil
 | _,_,_ + 1,.nil=>.nil
 | _,_,n + 1,.cons r t=>.cons r (Vals.take n t)
theorem Vals.drop:∀ {xs:List V}{us:List Ae} (n:Nat),Vals xs us->Vals (xs.drop n) (us.drop n)
 | _,_,0,r=>r
 | _,_,_ + 1,.nil=>.nil
 | _,_,n + 1,.cons _ t=>Vals.drop n t
def RelO:Option V->Option Ae->Prop
 | some v,some u=>RelV v u
 | none,none=>True
 | _,_=>False
def KV {κ:Type}:List (κ×V)->List (κ×Ae)->Prop:=Bj λ (p:κ×V) (q:κ×Ae)=>p.1=q.1/\RelV p.2 q.2
def kV:A0->V
 | .inl i=>.int i
 | .inr x=>.str x
inductive HO where
 | lst (xs:List V)
 | tup (xs:List V)
 | dK (kvs:List (A0×V)) | dT (kvs:List (List A0×V))
 | set (S:Int->Bool) (n:Nat)
 | ins (C dx:Addr) (fs:List (Str×V))
 | own (x:Addr)
 | xd (fs:List (Str×V))
 | met (f x:Addr)
 | rng (lo hi:Int)
 | frz (o:Obj) (u:HO)
 | tbl (ps:Array Ae)
 | ext (φ:Heap->Prop)
abbrev Hp:=Addr->Option HO
def Av (H:Hp) (a:Addr) (o:HO):Hp:=λ b=>if b=a then some o else H b
theorem BN {H:Hp}{a:Addr}{o:HO}:Av H a o a=some o:=by unfold Av;rw [if_pos rfl]
theorem AG {H:Hp}{a b:Addr}{o:HO} (h:b≠a):Av H a o b=H b:=by unfold Av;rw [if_neg h]
theorem jy {H:Hp}{a b:Addr}{o u:HO} (h:H a=some o) (h':H b=some u) (d:o≠u):a≠b:=by
 intro e;subst e;rw [h] at h';exact d (Option.some.inj h')
theorem Kn {H:Hp}{a b:Addr}{o:HO} (h:H a=some o) (h':H b=none):a≠b:=by
 intro e;subst e;rw [h] at h';cases h'
section
variable (P:AB) (w:A9)
def zxk (H:Hp) (h:Heap) (a:Addr):HO->Prop
 | .lst xs=>xs.length<=Au/\∃ (its:List Ae) (n:Nat),Vals xs its/\h.get? a=some { cls:=.type "list",data:=.seq its.toArray n }
 | .tup xs=>xs.length<=Au/\∃ its:List Ae,Vals xs its/\IsTup h a its.toArray
 | .dK kvs=>kvs.length<=Au/\(a == Fc)=false/\∃ vs,KV kvs vs/\h.DictOf (C7 P w) a vs
 | .dT kvs=>kvs.length<=Au/\(a == Fc)=false/\∃ xs:List (List A0×Addr×Ae),
   Bj (λ (p:List A0×V) (q:List A0×Addr×Ae)=>p.1=q.1/\H q.2.1=some (.tup (p.1.map kV))/\RelV p.2 q.2.2) kvs xs /\
   ∃ o es ep,h.get? a=some o/\o.ExactDict/\o.data=.dict es ep/\es.toList=xs.map (KG (Gw (C7 P w)))/\(xs.map (·.1)).Nodup
 | .set S n=>h.SetOf (intKind P w) a S n
 | .ins C dx fs=>H dx=some (.own a)/\fs.length<=1000/\dx≠a/\h.get? a=some (Rr C dx) /\
   ∃ mA,h.Ns1 dx mA/\(∀ f,RelO (fs.lookup f) (mA f))/\PySem.Within mA (fs.map (·.1))
 | .own _=>∃ o,h.get? a=some o
 | .xd fs=>∃ mA,h.Ns1 a mA/\∀ f,RelO (fs.lookup f) (mA f)
 | .rng lo hi=>∃ t u v,h.get? a=some { cls:=.type "range",data:=.fields #[.int lo t,.int hi u,.int 1 v] }
 | .frz o u=>h.get? a=some o/\zxk H h a u
 | .tbl ps=>h.get? a=some { cls:=.none,data:=.fields ps }
 | .met f x=>h.get? a=some (R6 (.ref f) (.ref x))
 | .ext φ=>φ h/\(∃ o,h.get? a=some o)/\∀ h1 h2:Heap,φ h1->(∀ o,h1.get? a=some o->h2.get? a=some o)->φ h2
def HOk (H:Hp) (h:Heap):Prop:=∀ a o,H a=some o->zxk P w H h a o
end
section
variable {P:AB}{w:A9}{H H':Hp}{h h':Heap}{a:Addr}{o:HO}
theorem zxk.lt (x:zxk P w H h a o):a < h.objs.size:=by
 cases o with
 | lst xs=>obtain ⟨_,_,_,_,e⟩:=x;exact AH e
 | tup xs=>obtain ⟨_,_,_,p⟩:=x;exact p.lt
 | dK kvs=>obtain ⟨_,_,_,_,o,_,_,e,_⟩:=x;exact AH e
 | dT kvs=>obtain ⟨_,_,_,_,o,_,_,e,_⟩:=x;exact AH e
 | set S n=>obtain ⟨o,_,_,_,e,_⟩:=x;exact AH e
 | ins C dx fs=>obtain ⟨_,_,_,e,_⟩:=x;exact AH e
 | own y=>obtain ⟨_,e⟩:=x;exact AH e
 | xd fs=>obtain ⟨_,⟨_,_,_,e,_⟩,_⟩:=x;exact AH e
 | rng lo hi=>obtain ⟨_,_,_,e⟩:=x;exact AH e
 | frz ob u=>obtain ⟨e,_⟩:=x;exact AH e
 | tbl ps=>exact AH (show h.get? a=some _ from x)
 | met f y=>exact AH (show h.get? a=some _ from x)
 | ext φ=>obtain ⟨_,⟨_,e⟩,_⟩:=x;exact AH e
theorem Paired.mapP {α β:Type}{F G:α->β->Prop}:∀ {l₁:List α}{l₂:List β},Bj F l₁ l₂->(∀ a b,F a b->G a b)->Bj G l₁ l₂
 | _,_,.nil,_=>.nil
 | _,_,.cons r t,f=>.cons (f _ _ r) (Paired.mapP t f)
theorem zxk.stay (x:zxk P w H h a o) (k:∀ b u,(b=a\/H b=some (.own a))->h.get? b=some u->h'.get? b=some u)
  (ho:∀ b,H b=some (.own a)->H' b=some (.own a)) (ht:∀ b xs,H b=some (.tup xs)->H' b=some (.tup xs)):zxk P w H' h' a o:=by
 induction o with
 | lst xs=>obtain ⟨z,its,n,r,e⟩:=x;exact ⟨z,its,n,r,k _ _ (.inl rfl) e⟩
 | tup xs=>obtain ⟨z,its,r,ob,e,c⟩:=x;exact ⟨z,its,r,ob,k _ _ (.inl rfl) e,c⟩
 | dK kvs=>obtain ⟨z,y,vs,r,ob,es,ep,e,c⟩:=x;exact ⟨z,y,vs,r,ob,es,ep,k _ _ (.inl rfl) e,c⟩
 | dT kvs=>
  obtain ⟨z,y,xs,r,ob,es,ep,e,c⟩:=x;exact ⟨z,y,xs,Paired.mapP r λ p q z=>⟨z.1,ht _ _ z.2.1,z.2.2⟩,ob,es,ep,k _ _ (.inl rfl) e,c⟩
 | set S n=>obtain ⟨ob,es,ep,t,e,c⟩:=x;exact ⟨ob,es,ep,t,k _ _ (.inl rfl) e,c⟩
 | ins C dx fs=>
  obtain ⟨d,z,ne,e,mA,⟨od,es,ep,e2,c⟩,r⟩:=x;exact ⟨ho _ d,z,ne,k _ _ (.inl rfl) e,mA,⟨od,es,ep,k _ _ (.inr d) e2,c⟩,r⟩
 | own y=>obtain ⟨ob,e⟩:=x;exact ⟨ob,k _ _ (.inl rfl) e⟩
 | xd fs=>obtain ⟨mA,⟨od,es,ep,e,c⟩,r⟩:=x;exact ⟨mA,⟨od,es,ep,k _ _ (.inl rfl) e,c⟩,r⟩
 | rng lo hi=>obtain ⟨t,u,v,e⟩:=x;exact ⟨t,u,v,k _ _ (.inl rfl) e⟩
 | frz ob u ih=>obtain ⟨e,q⟩:=x;exact ⟨k _ _ (.inl rfl) e,ih q⟩
 | tbl ps=>
  have e:h.get? a=some { cls:=.none,data:=.fields ps }:=x;show h'.get? a=some { cls:=.none,data:=.fields ps };exact k a _ (.inl rfl) e
 | met f y=>
  have e:h.get? a=some (R6 (.ref f) (.ref y)):=x;show h'.get? a=some (R6 (.ref f) (.ref y));exact k a _ (.inl rfl) e
 | ext φ=>obtain ⟨p,⟨o,e⟩,st⟩:=x;exact ⟨st _ _ p λ o q=>k _ _ (.inl rfl) q,⟨o,k _ _ (.inl rfl) e⟩,st⟩
theorem HOk.lt (x:HOk P w H h) (e:H a=some o):a < h.objs.size:=(x a o e).lt
theorem HOk.fresh (x:HOk P w H h) (e:h.objs.size<=a):H a=none:=by
 cases q:H a with
 | none=>rfl
 | some u=>exact absurd (BY (x.lt q) e) (DB _)
theorem HOk.kept (x:HOk P w H h) (k:∀ b u,h.get? b=some u->h'.get? b=some u):HOk P w H h':=λ a o e=>
 (x a o e).stay (λ b u _ q=>k b u q) (λ _ q=>q) λ _ _ q=>q
theorem HOk.laid (x:HOk P w H h) (k:∀ b u,h.get? b=some u->h'.get? b=some u) (hp:h.objs.size<=a) (new:zxk P w (Av H a o) h' a o):HOk P w (Av H a o) h':=λ b u e=>by
 have hn:=x.fresh hp;by_cases hb:b=a
 ·subst hb;rw [BN] at e;cases e;exact new
 ·rw [AG hb] at e;exact (x b u e).stay (λ c v _ q=>k c v q) (λ c q=>by rw [AG (Kn q hn)];exact q) λ c xs q=>by rw [AG (Kn q hn)];exact q
end
def Rd (H:Hp) (a:Addr) (u:HO):Prop:=H a=some u\/∃ o,H a=some (.frz o u)
theorem Rd.ok {P:AB}{w:A9}{H:Hp}{h:Heap}{a:Addr}{u:HO} (r:Rd H a u) (x:HOk P w H h):zxk P w H h a u:=by
 rcases r with r | ⟨o,r⟩
 ·exact x a u r
 ·obtain ⟨_,q⟩:=x a _ r;exact q
def N4:Option HO->Prop
 | some (.lst _)=>True
 | some (.dK _)=>True
 | some (.dT _)=>True
 | some (.set _ _)=>True
 | some (.ins _ _ _)=>True
 | some (.ext _)=>True
 | _=>False
section
variable {P:AB}{w:A9}{H:Hp}{h h':Heap}{x e:Addr}{o':HO}
theorem HOk.write (ok:HOk P w H h) (mu:N4 (H x)) (he:e=x\/H e=some (.own x)) (k:∀ b u,b≠e->h.get? b=some u->h'.get? b=some u) (heo:∃ u,h'.get? e=some u)
  (new:zxk P w (Av H x o') h' x o'):HOk P w (Av H x o') h':=λ b u q=>by
 have nown:∀ c y,H c=some (.own y)->c≠x:=λ c y r z=>by subst z;rw [r] at mu;exact mu
 have ntup:∀ c xs,H c=some (.tup xs)->c≠x:=λ c xs r z=>by subst z;rw [r] at mu;exact mu
 by_cases hb:b=x
 ·subst hb;rw [BN] at q;cases q;exact new
 ·rw [AG hb] at q;by_cases hbe:b=e
  ·have q':H b=some (.own x):=by
    rcases he with z | z
    ·exact absurd (hbe.trans z) hb
    ·rw [hbe];exact z
   rw [q] at q';cases q';obtain ⟨v,hv⟩:=heo;exact ⟨v,by rw [hbe];exact hv⟩
  ·refine (ok b u q).stay (λ c v hc r=>k c v ?_ r) (λ c r=>by rw [AG (nown c b r)];exact r) λ c xs r=>by rw [AG (ntup c xs r)];exact r
   rcases hc with rfl | hc
   ·exact hbe
   ·rintro rfl;rcases he with z | z
    ·exact nown c b hc z
    ·rw [hc] at z;cases z;exact hb rfl
end
structure Un (fs ex:List Addr) (H H':Hp) (h h':Heap):Prop where
 keep:∀ b o,h.get? b=some o->H b=none->b∉fs->b∉ex->h'.get? b=some o
 slot:∀ b o,h.get? b=some o->H b=none->b∈fs->b∉ex->∃ sl,h'.get? b=some { o with slots:=sl }
 free:∀ b o,h.get? b=some o->H b=none->b∉ex->H' b=none
 there:∀ b o,h.get? b=some o->b∉ex->∃ o',h'.get? b=some o'
 tups:∀ b xs,H b=some (.tup xs)->H' b=some (.tup xs)
 frzs:∀ b o u,H b=some (.frz o u)->H' b=some (.frz o u)
 tbls:∀ b ps,H b=some (.tbl ps)->∃ more,H' b=some (.tbl (ps++more))
section
variable {fs fs' ex ex':List Addr}{H H1 H2:Hp}{h h1 h2 h':Heap}{a x e:Addr}{o:HO}
theorem Un.any (u:Un fs ex H H1 h h1) {b:Addr}{ob:Obj} (q:h.get? b=some ob) (n:H b=none) (hx:b∉ex):∃ sl,h1.get? b=some { ob with slots:=sl }:=by
 by_cases hb:b∈fs
 ·exact u.slot b ob q n hb hx
 ·exact ⟨ob.slots,u.keep b ob q n hb hx⟩
theorem Un.kept (k:∀ b u,h.get? b=some u->h'.get? b=some u):Un fs ex H H h h':=
 ⟨λ b ob q _ _ _=>k b ob q,λ b ob q _ _ _=>⟨ob.slots,k b ob q⟩,λ _ _ _ n _=>n,λ b ob q _=>⟨ob,k b ob q⟩,λ _ _ q=>q,λ _ _ _ q=>q,λ _ ps q=>⟨#[],by rw [q];simp⟩⟩
theorem Un.refl:Un fs ex H H h h:=Un.kept λ _ _ q=>q
theorem Un.laid (k:∀ b u,h.get? b=some u->h'.get? b=some u) (hp:h.objs.size<=a) (hn:H a=none):Un fs ex H (Av H a o) h h' where
 keep:=λ b u q _ _ _=>k b u q
 slot:=λ b u q _ _ _=>⟨u.slots,k b u q⟩
 free:=λ b u q n _=>by rw [AG (Cd (BY (AH q) hp))];exact n
 there:=λ b u q _=>⟨u,k b u q⟩
 tups:=λ b xs q=>by rw [AG (Kn q hn)];exact q
 frzs:=λ b u xs q=>by rw [AG (Kn q hn)];exact q
 tbls:=λ b ps q=>⟨#[],by rw [AG (Kn q hn),q];simp⟩
theorem Un.write (mu:N4 (H x)) (he:e=x\/H e=some (.own x)) (k:∀ b u,b≠e->h.get? b=some u->h'.get? b=some u) (heo:∃ u,h'.get? e=some u):Un fs ex H (Av H x o) h h':=by
 have hx:∀ b,H b=none->b≠x:=λ b n z=>by subst z;rw [n] at mu;exact mu
 have hb:∀ b,H b=none->b≠e:=λ b n z=>by
  subst z;rcases he with r | r
  ·exact hx b n r
  ·rw [n] at r;cases r
 have hm:∀ b u,H b=some u->¬ N4 (some u)->b≠x:=λ b u q nm z=>by subst z;rw [q] at mu;exact nm mu
 refine ⟨λ b u q n _ _=>k b u (hb b n) q,λ b u q n _ _=>⟨u.slots,k b u (hb b n) q⟩,λ b u q n _=>by rw [AG (hx b n)];exact n,λ b u q _=>?_,
  λ b xs q=>by rw [AG (hm b _ q λ z=>z)];exact q,λ b u xs q=>by rw [AG (hm b _ q λ z=>z)];exact q,λ b ps q=>⟨#[],by rw [AG (hm b _ q λ z=>z),q];simp⟩⟩
 by_cases hbe:b=e
 ·subst hbe;exact heo
 ·exact ⟨u,k b u hbe q⟩
end
def Hc (h:Heap) (H:Hp):List Addr:=(An h.objs.size).filter λ a=>(H a).isSome
def DD (h:Heap) (H:Hp):Heap:=PySem.W.hideAll h (Hc h H)
theorem dD (h:Heap) (H:Hp):(DD h H).objs.size=h.objs.size:=PySem.W.hideAll_size _ _
theorem gq {h:Heap}{H:Hp}{b:Addr}{o:Obj} (e:h.get? b=some o) (n:H b=none):(DD h H).get? b=some o:=
 R8 _ e λ hm=>by
  have q:(H b).isSome=true:=(jh4.mp hm).2;rw [n] at q;simp at q
theorem yC {h:Heap}{H:Hp}{b:Addr}{o:Obj} (e:(DD h H).get? b=some o):h.get? b=some o/\H b=none:=by
 have e':h.get? b=some o:=PySem.W.of_hideAll (Hc h H) e;refine ⟨e',?_⟩;cases q:H b with
 | none=>rfl
 | some x=>
  have hm:b∈Hc h H:=jh4.mpr ⟨jc2.mpr (AH e'),by simp [q]⟩;have z:(DD h H).get? b=none:=PySem.W.hideAll_none (Hc h H) hm;rw [z] at e;cases e
def wG (g h:Heap) (L:Addr):List (Addr×Obj):=(An h.objs.size).filterMap λ a=>if a=L\/(g.get? a).isSome=true then none else (h.get? a).map λ o=>(a,o)
def rest (g h:Heap) (L d:Addr):List (Addr×Obj):=(wG g h L).filter λ p=>decide (p.1≠d)
structure Mod (K:PySem.W.Frag) (mg:Str->Option Ae) (base:Heap):Prop where
 kin:K.In base
 glob:base.Ns ED mg
 blt:∃ mb,base.Ns builtinsNs mb/\∀ x:Str,x ≠ "__name__" -> mb x=IG x
 nolimit:base.NoLimit
structure Cx where
 prog:AB
 w:A9
 K:PySem.W.Frag
 mg:Str->Option Ae
 base:Heap
 A:Bi
 N:List Str
 s₀:Ai
 H₀:Hp
 env:Env
 outer:List Env
 stack:List Env
 ex:List Addr
 fn:Str->Bool
 calm:Bool
 pn:List (Addr×Obj)
 xe:Ae->Ai->Prop
def CM (l:List Env):List Addr:=l.filterMap (·.frame)
abbrev Cx.fs (X:Cx):List Addr:=CM X.outer
def Ii (sc:B1) (x:Str):Prop:=sc.names.lookup x=some .local\/sc.names.lookup x=some .cell\/sc.names.lookup x=some .free
def Ik (sc:B1) (x:Str):Prop:=sc.names.lookup x=some .local\/sc.names.lookup x=some .cell
def UU (env:Env) (h:Heap) (m:Str->Option Ae) (x:Str) (u:Ae):Prop:=
 (env.kindOf x=some .local/\m x=some u)\/((env.kindOf x=some .cell\/env.kindOf x=some .free)/\∃ c,env.cells.lookup x=some c/\h.IsCell c (some u))
structure Cx.Ok (X:Cx):Prop where
 mod:Mod X.K X.mg X.base
 kind:X.env.scope.kind=.function
 glob:X.env.globals=ED
 blt:X.env.builtins=builtinsNs
 above:X.s₀.heap.objs.size<=X.env.locals
 inj:∀ x y c,X.env.cells.lookup x=some c->X.env.cells.lookup y=some c->x=y
 has:∀ x,(X.env.kindOf x=some .cell\/X.env.kindOf x=some .free)->∃ c,X.env.cells.lookup x=some c
 cab:∀ x c,X.fn x=true->X.env.cells.lookup x=some c->X.s₀.heap.objs.size<=c
 hd:X.calm=true->X.A.handled=none
 frames:X.A.frames=some X.stack
 stk:X.stack=X.outer\/(X.stack=X.env::X.outer/\X.env.frame=some X.env.locals)
 exf:∀ b∈X.ex,b≠X.env.locals/\∀ x c,X.env.cells.lookup x=some c->c≠b
 bs:∀ b o,X.base.get? b=some o->X.s₀.heap.get? b=some o/\X.H₀ b=none
 bsz:X.base.objs.size<=X.s₀.heap.objs.size
 noex:∀ b o,X.base.get? b=some o->b∉X.ex
 exfs:∀ b∈X.ex,b∉X.fs
 funs:X.s₀.heap.FunFrames X.base X.outer
 frf:∀ b∈X.fs,X.H₀ b=none
structure Inv (X:Cx) (pins:List (Addr×Obj)) (σ:List (Option V)) (H:Hp) (s:Ai):Prop where
 ok:X.Ok
 os:s.os=X.s₀.os
 bare:Gs s.gens
 base:Un X.fs X.ex X.H₀ H X.s₀.heap s.heap
 loc:∃ m,s.heap.Ns X.env.locals m/\∀ (i:Nat) (x:Str) (v:V),X.N[i]?=some x->σ[i]?=some (some v)->Ii X.env.scope x->∃ u,RelV v u/\UU X.env s.heap m x u
 cell:∀ x c,X.env.cells.lookup x=some c->∃ v,s.heap.IsCell c v
 free:H X.env.locals=none
 freeC:∀ x c,X.env.cells.lookup x=some c->H c=none
 pin:∀ p∈X.pn++pins,s.heap.get? p.1=some p.2/\H p.1=none/\p.1≠X.env.locals/\p.1∉X.fs/\∀ v,p.2.data≠.cell v
 hok:HOk X.prog X.w H s.heap
 len:σ.length=X.N.length
section
variable {X:Cx}{pins:List (Addr×Obj)}{σ:List (Option V)}{H H':Hp}{s:Ai}{h':Heap}
theorem Cx.Ok.nofr (ok:X.Ok) {b:Addr}{o:Obj} (e:X.base.get? b=some o):b∉X.fs:=λ hb=>by
 have:=(ok.funs.mem hb).1
 rw [e] at this;cases this
theorem Inv.bs (I:Inv X pins σ H s):∀ b o,X.base.get? b=some o->s.heap.get? b=some o/\H b=none:=λ b o e=>
 ⟨I.base.keep b o (I.ok.bs b o e).1 (I.ok.bs b o e).2 (I.ok.nofr e) (I.ok.noex b o e),I.base.free b o (I.ok.bs b o e).1 (I.ok.bs b o e).2 (I.ok.noex b o e)⟩
theorem Inv.bk (I:Inv X pins σ H s):∀ b o,X.base.get? b=some o->s.heap.get? b=some o:=λ b o e=>(I.bs b o e).1
theorem Inv.mod (I:Inv X pins σ H s):Mod X.K X.mg X.base:=I.ok.mod
theorem Inv.kIn (I:Inv X pins σ H s):X.K.In s.heap:=I.ok.mod.kin.keeps I.bk
theorem Inv.lt (I:Inv X pins σ H s):X.env.locals < s.heap.objs.size:=let ⟨_,hn,_⟩:=I.loc;hn.lt
theorem Inv.sz (I:Inv X pins σ H s):X.s₀.heap.objs.size<=s.heap.objs.size:=BD I.ok.above (Lk I.lt)
theorem Inv.nofs (I:Inv X pins σ H s) {a:Addr} (h:s.heap.objs.size<=a):a∉X.fs:=λ hb=>by
 obtain ⟨_,o,ho,_⟩:=I.ok.funs.mem hb;exact absurd (BY (AH ho) (BD I.sz h)) (DB _)
theorem Inv.cne (I:Inv X pins σ H s):∀ x c,X.env.cells.lookup x=some c->c≠X.env.locals:=λ x c e z=>by
 obtain ⟨v,o,ho,hd⟩:=I.cell x c e;obtain ⟨m,⟨o',es,ep,ho',hd',_⟩,_⟩:=I.loc;rw [z,ho'] at ho;cases ho;rw [hd'] at hd;cases hd
theorem Inv.funs (I:Inv X pins σ H s):s.heap.FunFrames X.base X.outer:=by
 have all:∀ (l:List Env),(∀ b∈CM l,b∈X.fs)->X.s₀.heap.FunFrames X.base l->s.heap.FunFrames X.base l:=by
  intro l;induction l with
  | nil=>intro _ _;trivial
  | cons env r ih=>
   intro hs hl;obtain ⟨hk,⟨L,o,hf,hn,ho,hd⟩,hr⟩:=hl;have hL:L∈X.fs:=hs L (by unfold CM;rw [Nk,hf];exact AD);obtain ⟨sl,e⟩:=I.base.slot L o ho (I.ok.frf L hL) hL λ z=>I.ok.exfs L z hL;exact ⟨hk,⟨L,_,hf,hn,e,hd⟩,ih (λ b hb=>hs b (by unfold CM;rw [Nk,hf];exact AE _ hb)) hr⟩
 exact all X.outer (λ _ hb=>hb) I.ok.funs
theorem Inv.stack (I:Inv X pins σ H s):s.heap.FunFrames X.base X.stack:=by
 rcases I.ok.stk with e | ⟨e,hf⟩
 ·rw [e];exact I.funs
 ·rw [e];obtain ⟨m,hn,_⟩:=I.loc;refine .cons (by rw [I.ok.kind];decide) hf hn ?_ I.funs;exact Heap.get?_none_of_le (BD I.ok.bsz I.ok.above)
theorem Inv.stkSub (I:Inv X pins σ H s):∀ b∈CM X.stack,b∈X.env.locals::X.fs:=λ b hb=>by
 rcases I.ok.stk with e | ⟨e,hf⟩
 ·rw [e] at hb;exact AE _ hb
 ·rw [e] at hb;unfold CM at hb;rw [Nk,hf] at hb;exact hb
theorem Inv.stkFree (I:Inv X pins σ H s):∀ b∈CM X.stack,H b=none:=λ b hb=>by
 rcases jb8.mp (I.stkSub b hb) with e | hb
 ·rw [e];exact I.free
 ·obtain ⟨_,o,ho,_⟩:=I.ok.funs.mem hb;exact I.base.free b o ho (I.ok.frf b hb) λ z=>I.ok.exfs b z hb
theorem Inv.step {g':Array GenState}{t':Nat}{d':Drawn}{ch:List Addr} (I:Inv X pins σ H s)
  (hch:∀ b∈ch,(b∈X.ex\/X.s₀.heap.objs.size<=b)/\b≠X.env.locals/\(∀ x c,X.env.cells.lookup x=some c->c≠b)/\∀ p∈X.pn++pins,p.1≠b)
  (keep:∀ b o,b≠X.env.locals->b∉X.fs->b∉ch->s.heap.get? b=some o->H b=none->h'.get? b=some o)
  (slot:∀ b o,b≠X.env.locals->b∈X.fs->b∉ch->s.heap.get? b=some o->H b=none->∃ sl,h'.get? b=some { o with slots:=sl }) (free:∀ b o,b∉ch->s.heap.get? b=some o->H b=none->H' b=none)
  (there:∀ b o,b∉ch->s.heap.get? b=some o->∃ o',h'.get? b=some o')
  (tups:∀ b xs,H b=some (.tup xs)->H' b=some (.tup xs)) (frzs:∀ b o u,H b=some (.frz o u)->H' b=some (.frz o u)) (tbls:∀ b ps,H b=some (.tbl ps)->∃ more,H' b=some (.tbl (ps++more)))
  (ns:∀ m,s.heap.Ns X.env.locals m->h'.Ns X.env.locals m) (hok:HOk X.prog X.w H' h') (hg:Gs g'):
  Inv X pins σ H' { s with heap:=h',gens:=g',drawn:=d',toks:=t' }:=by
 have neL:∀ b o,X.s₀.heap.get? b=some o->b≠X.env.locals:=λ b o e=>Cd (BY (AH e) I.ok.above);have neC:∀ b o,X.s₀.heap.get? b=some o->b∉X.ex->b∉ch:=λ b o e hx hb=>by
  rcases (hch b hb).1 with z | z
  ·exact hx z
  ·exact absurd (BY (AH e) z) (DB _)
 have cellK:∀ x c,X.env.cells.lookup x=some c->∀ v,s.heap.IsCell c v->h'.IsCell c v:=λ x c e v ⟨o,ho,hd⟩=>by
  have nch:c∉ch:=λ z=>(hch c z).2.2.1 x c e rfl;by_cases hc:c∈X.fs
  ·obtain ⟨sl,q⟩:=slot c o (I.cne x c e) hc nch ho (I.freeC x c e);exact ⟨_,q,hd⟩
  ·exact ⟨o,keep c o (I.cne x c e) hc nch ho (I.freeC x c e),hd⟩
 refine ⟨I.ok,I.os,hg,⟨λ b o e n hb hx=>?_,λ b o e n hb hx=>?_,λ b o e n hx=>?_,λ b o e hx=>?_,λ b xs e=>tups b xs (I.base.tups b xs e),λ b o xs e=>frzs b o xs (I.base.frzs b o xs e),λ b ps e=>?_⟩,?_,λ x c e=>?_,?_,λ x c e=>?_,λ p hp=>?_,hok,I.len⟩
 ·exact keep b o (neL b o e) hb (neC b o e hx) (I.base.keep b o e n hb hx) (I.base.free b o e n hx)
 ·obtain ⟨sl,e1⟩:=I.base.slot b o e n hb hx;obtain ⟨sl',e2⟩:=slot b _ (neL b o e) hb (neC b o e hx) e1 (I.base.free b o e n hx);exact ⟨sl',e2⟩
 ·obtain ⟨o',e1⟩:=I.base.there b o e hx;exact free b o' (neC b o e hx) e1 (I.base.free b o e n hx)
 ·obtain ⟨o',e1⟩:=I.base.there b o e hx;exact there b o' (neC b o e hx) e1
 ·obtain ⟨m1,e1⟩:=I.base.tbls b ps e;obtain ⟨m2,e2⟩:=tbls b _ e1;exact ⟨m1++m2,by rw [e2,qE]⟩
 ·obtain ⟨m,hn,hl⟩:=I.loc;refine ⟨m,ns m hn,λ i x v e1 e2 e3=>?_⟩;obtain ⟨u,r,l⟩:=hl i x v e1 e2 e3;refine ⟨u,r,?_⟩;rcases l with l | ⟨k,c,e,z⟩
  ·exact .inl l
  ·exact .inr ⟨k,c,e,cellK x c e _ z⟩
 ·obtain ⟨v,z⟩:=I.cell x c e;exact ⟨v,cellK x c e v z⟩
 ·obtain ⟨m,⟨o,_,_,ho,_⟩,_⟩:=I.loc;exact free _ o (λ z=>(hch _ z).2.1 rfl) ho I.free
 ·obtain ⟨v,o,ho,hd⟩:=I.cell x c e;exact free c o (λ z=>(hch c z).2.2.1 x c e rfl) ho (I.freeC x c e)
 ·obtain ⟨e,n,ne,nf,d⟩:=I.pin p hp;have nch:p.1∉ch:=λ z=>(hch p.1 z).2.2.2 p hp rfl;exact ⟨keep p.1 p.2 ne nf nch e n,free p.1 p.2 nch e n,ne,nf,d⟩
theorem Inv.un {t':Nat} (I:Inv X pins σ H s) (u:Un X.fs [] H H' s.heap h') (hok:HOk X.prog X.w H' h'):Inv X pins σ H' { s with heap:=h',toks:=t' }:=by
 obtain ⟨m,⟨o,es,ep,ho,r⟩,_⟩:=id I.loc;obtain ⟨sl,hL⟩:=u.any ho I.free (by simp);exact I.step (g':=s.gens) (d':=s.drawn) (ch:=[]) (λ _ z=>nomatch z) (λ b o _ hb _ e n=>u.keep b o e n hb (by simp)) (λ b o _ hb _ e n=>u.slot b o e n hb (by simp)) (λ b o _ e n=>u.free b o e n (by simp)) (λ b o _ e=>u.there b o e (by simp)) u.tups u.frzs u.tbls (λ m' hm=>by
  obtain ⟨o',es',ep',ho',r'⟩:=hm;rw [ho] at ho';cases ho';exact ⟨_,es',ep',hL,r'⟩) hok I.bare
theorem Inv.call {g':Array GenState}{t':Nat}{d':Drawn}{ch:List Addr} (I:Inv X pins σ H s) (u:Un (CM X.stack) ch H H' s.heap h') (hok:HOk X.prog X.w H' h') (hg:Gs g')
  (hch:∀ b∈ch,(b∈X.ex\/X.s₀.heap.objs.size<=b)/\b≠X.env.locals/\(∀ x c,X.env.cells.lookup x=some c->c≠b)/\∀ p∈X.pn++pins,p.1≠b):
  Inv X pins σ H' { s with heap:=h',gens:=g',drawn:=d',toks:=t' }:=by
 obtain ⟨m,⟨o,es,ep,ho,r⟩,_⟩:=id I.loc;obtain ⟨sl,hL⟩:=u.any ho I.free λ z=>(hch _ z).2.1 rfl;exact I.step (ch:=ch) hch (λ b o hL hb hc e n=>u.keep b o e n (λ z=>(jb8.mp (I.stkSub b z)).elim hL hb) hc) (λ b o _ _ hc e n=>u.any e n hc) (λ b o hc e n=>u.free b o e n hc) (λ b o hc e=>u.there b o e hc) u.tups u.frzs u.tbls (λ m' hm=>by
  obtain ⟨o',es',ep',ho',r'⟩:=hm;rw [ho] at ho';cases ho';exact ⟨_,es',ep',hL,r'⟩) hok hg
theorem Inv.turned {t':Nat}{it:Addr} (I:Inv X pins σ H s) (k:∀ b o,b≠it->s.heap.get? b=some o->h'.get? b=some o) (hn:H it=none) (hL:it≠X.env.locals)
  (h1:it∈X.ex\/X.s₀.heap.objs.size<=it) (h2:∀ x c,X.env.cells.lookup x=some c->c≠it) (h3:∀ p∈X.pn++pins,p.1≠it):Inv X pins σ H { s with heap:=h',toks:=t' }:=by
 have nit:∀ b u,H b=some u->b≠it:=λ b u e z=>by rw [z,hn] at e;cases e
 refine I.step (g':=s.gens) (d':=s.drawn) (ch:=[it]) (λ b hb=>?_) (λ b o _ _ hc e _=>k b o (λ z=>hc (by simp [z])) e) (λ b o _ _ hc e _=>⟨o.slots,k b o (λ z=>hc (by simp [z])) e⟩) (λ _ _ _ _ n=>n)
  (λ b o hc e=>⟨o,k b o (λ z=>hc (by simp [z])) e⟩) (λ _ _ e=>e) (λ _ _ _ e=>e) (λ b ps e=>⟨#[],by rw [e];simp⟩) (λ m hm=>?_) (λ b u e=>?_) I.bare
 ·have e:b=it:=by simpa using hb
  subst e;exact ⟨h1,hL,h2,h3⟩
 ·obtain ⟨o,es,ep,ho,r⟩:=hm;exact ⟨o,es,ep,k _ o (Et hL) ho,r⟩
 ·refine (I.hok b u e).stay (λ c v hc q=>k c v ?_ q) (λ _ q=>q) λ _ _ q=>q;rcases hc with z | z
  ·rw [z];exact nit b u e
  ·exact nit c _ z
theorem Inv.tok (I:Inv X pins σ H s) (t:Nat):Inv X pins σ H { s with toks:=t }:=I.un (h':=s.heap) (t':=t) Un.refl I.hok
theorem Inv.kept {t':Nat} (I:Inv X pins σ H s) (k:∀ b u,s.heap.get? b=some u->h'.get? b=some u):Inv X pins σ H { s with heap:=h',toks:=t' }:=I.un (Un.kept k) (I.hok.kept k)
theorem Inv.laid {a:Addr}{o:HO}{t':Nat} (I:Inv X pins σ H s) (k:∀ b u,s.heap.get? b=some u->h'.get? b=some u) (hp:s.heap.objs.size<=a) (new:zxk X.prog X.w (Av H a o) h' a o):
  Inv X pins σ (Av H a o) { s with heap:=h',toks:=t' }:=I.un (Un.laid k hp (I.hok.fresh hp)) (I.hok.laid k hp new)
theorem Inv.write {x e:Addr}{o:HO}{t':Nat} (I:Inv X pins σ H s) (mu:N4 (H x)) (he:e=x\/H e=some (.own x)) (k:∀ b u,b≠e->s.heap.get? b=some u->h'.get? b=some u) (heo:∃ u,h'.get? e=some u)
  (new:zxk X.prog X.w (Av H x o) h' x o):Inv X pins σ (Av H x o) { s with heap:=h',toks:=t' }:=I.un (Un.write mu he k heo) (I.hok.write mu he k heo new)
theorem Inv.pins_of {pins':List (Addr×Obj)} (I:Inv X pins σ H s) (h:∀ p∈pins',s.heap.get? p.1=some p.2/\H p.1=none/\p.1≠X.env.locals/\p.1∉X.fs/\∀ v,p.2.data≠.cell v):Inv X pins' σ H s:=
 ⟨I.ok,I.os,I.bare,I.base,I.loc,I.cell,I.free,I.freeC,λ p hp=>(jh5.mp hp).elim (λ z=>I.pin p (Jb _ z)) (h p),I.hok,I.len⟩
theorem YS {N:List Str} (hN:N.Nodup) {i j:Nat}{x:Str} (a:N[i]?=some x) (b:N[j]?=some x):i=j:=by
 obtain ⟨h1,e1⟩:=jb0.mp a;obtain ⟨h2,e2⟩:=jb0.mp b;exact (List.getElem_inj hN).mp (e1.trans e2.symm)
theorem ZP {M:Model}{A:Bi}{E:Ae->Ai->Prop}{i:Nat}{x:Str}{v:V}{u:Ae}{Q:Unit->Ai->Prop} (I:Inv X pins σ H s) (hN:X.N.Nodup) (hi:X.N[i]?=some x) (hx:Ik X.env.scope x) (r:RelV v u)
  (h:∀ s',Inv X pins (σ.set i (some v)) H s'->(∃ a,Jz a s.heap s'.heap/\(a=X.env.locals\/X.env.cells.lookup x=some a))->Q () s') (hf:X.fn x=true\/X.env.scope.names.lookup x=some .local:=by first | exact .inl rfl | exact .inr rfl | assumption):Al M A (storeName X.env x u) Q E s:=by
 obtain ⟨m,hn,hl⟩:=id I.loc;have hcls:(X.env.scope.kind == .class || (X.env.scope.kind == .module && X.env.locals != X.env.globals))=false:=by rw [I.ok.kind];rfl
 have hiσ:i < σ.length:=by rw [I.len];exact (jb0.mp hi).1
 have cne:=I.cne;have tracked:∀ {a:Addr}{h':Heap},(∃ o,s.heap.get? a=some o/\H a=none)->Jz a s.heap h'->HOk X.prog X.w H h':=λ {a h'} ha hs b ob e=>by
  obtain ⟨_,_,hfree⟩:=ha;refine (I.hok b ob e).stay (λ c w' hc q=>(hs.2 c ?_).trans q) (λ _ q=>q) λ _ _ q=>q;rintro rfl;rcases hc with rfl | hc
  ·rw [hfree] at e;cases e
  ·rw [hfree] at hc;cases hc
 rcases hx with hk | hk
 ·refine wpAny_storeName_local hk hn (λ h' hn' hs=>?_) hcls;obtain ⟨oL,_,_,hoL,_⟩:=id hn;refine h _ ⟨I.ok,I.os,I.bare,⟨λ b o e n hb hx=>?_,λ b o e n hb hx=>?_,I.base.free,λ b o e hx=>?_,I.base.tups,I.base.frzs,I.base.tbls⟩,⟨_,hn',λ j y v' e1 e2 e3=>?_⟩,λ y c e=>?_,I.free,I.freeC,λ p hp=>?_,tracked ⟨oL,hoL,I.free⟩ hs,by simpa using I.len⟩ ⟨_,hs,.inl rfl⟩
  ·exact (hs.2 b (Cd (BY (AH e) I.ok.above))).trans (I.base.keep b o e n hb hx)
  ·obtain ⟨sl,e1⟩:=I.base.slot b o e n hb hx;exact ⟨sl,(hs.2 b (Cd (BY (AH e) I.ok.above))).trans e1⟩
  ·obtain ⟨o',e1⟩:=I.base.there b o e hx;exact ⟨o',(hs.2 b (Cd (BY (AH e) I.ok.above))).trans e1⟩
  ·by_cases hj:j=i
   ·subst hj;rw [hi] at e1;cases e1;rw [GD hiσ] at e2;cases e2;exact ⟨u,r,.inl ⟨hk,by simp⟩⟩
   ·rw [Ga (Et hj)] at e2;obtain ⟨u',r',q⟩:=hl j y v' e1 e2 e3;refine ⟨u',r',?_⟩;rcases q with ⟨k,e⟩ | ⟨k,c,e,z⟩
    ·refine .inl ⟨k,?_⟩
     have:y≠x:=λ e=>hj (YS hN e1 (e ▸ hi))
     simp [this,e]
    ·exact .inr ⟨k,c,e,z.sameBut hs (cne y c e)⟩
  ·obtain ⟨w',z⟩:=I.cell y c e;exact ⟨w',z.sameBut hs (cne y c e)⟩
  ·obtain ⟨e,n,ne,nf,d⟩:=I.pin p hp;exact ⟨(hs.2 p.1 ne).trans e,n,ne,nf,d⟩
 ·have hfn:X.fn x=true:=by
   rcases hf with z | z
   ·exact z
   ·rw [z] at hk;cases hk
  obtain ⟨c,hc⟩:=I.ok.has x (.inl hk);obtain ⟨w',z⟩:=I.cell x c hc;refine wpAny_storeName_cell I.ok.kind hk hc z (λ h' hc' hs=>?_);obtain ⟨oc,hoc,hocd⟩:=id z;refine h { s with heap:=h' } ⟨I.ok,I.os,I.bare,⟨λ b o e n hb hx=>?_,λ b o e n hb hx=>?_,I.base.free,λ b o e hx=>?_,I.base.tups,I.base.frzs,I.base.tbls⟩,⟨m,hn.sameBut hs (Et (cne x c hc)),λ j y v' e1 e2 e3=>?_⟩,λ y c' e=>?_,I.free,I.freeC,λ p hp=>?_,tracked ⟨oc,hoc,I.freeC x c hc⟩ hs,by simpa using I.len⟩ ⟨c,hs,.inr hc⟩
  ·exact (hs.2 b (Cd (BY (AH e) (I.ok.cab x c hfn hc)))).trans (I.base.keep b o e n hb hx)
  ·obtain ⟨sl,e1⟩:=I.base.slot b o e n hb hx;exact ⟨sl,(hs.2 b (Cd (BY (AH e) (I.ok.cab x c hfn hc)))).trans e1⟩
  ·obtain ⟨o',e1⟩:=I.base.there b o e hx;exact ⟨o',(hs.2 b (Cd (BY (AH e) (I.ok.cab x c hfn hc)))).trans e1⟩
  ·by_cases hj:j=i
   ·subst hj;rw [hi] at e1;cases e1;rw [GD hiσ] at e2;cases e2;exact ⟨u,r,.inr ⟨.inl hk,c,hc,hc'⟩⟩
   ·rw [Ga (Et hj)] at e2;obtain ⟨u',r',q⟩:=hl j y v' e1 e2 e3;refine ⟨u',r',?_⟩;rcases q with q | ⟨k,c',e,z'⟩
    ·exact .inl q
    ·refine .inr ⟨k,c',e,z'.sameBut hs ?_⟩;rintro rfl;exact hj (YS hN e1 (I.ok.inj _ _ _ e hc ▸ hi))
  ·by_cases hcc:c'=c
   ·subst hcc;exact ⟨_,hc'⟩
   ·obtain ⟨w2,z2⟩:=I.cell y c' e;exact ⟨w2,z2.sameBut hs hcc⟩
  ·obtain ⟨e,n,ne,nf,d⟩:=I.pin p hp;refine ⟨(hs.2 p.1 ?_).trans e,n,ne,nf,d⟩;intro q;rw [q,hoc] at e;have q':oc=p.2:=Option.some.inj e;exact d w' (by rw [<- q'];exact hocd)
theorem Ra {M:Model}{A:Bi}{E:Ae->Ai->Prop}{i:Nat}{x:Str}{v:V}{u:Ae}{Q:Unit->Ai->Prop} (I:Inv X pins σ H s) (hN:X.N.Nodup) (hi:X.N[i]?=some x) (hx:Ik X.env.scope x) (r:RelV v u)
  (h:∀ s',Inv X pins (σ.set i (some v)) H s'->Q () s') (hf:X.fn x=true\/X.env.scope.names.lookup x=some .local:=by first | exact .inl rfl | exact .inr rfl | assumption):Al M A (storeName X.env x u) Q E s:=
 ZP I hN hi hx r (λ s' I' _=>h s' I') hf
theorem Inv.call' {s':Ai}{ch:List Addr} (I:Inv X pins σ H s) (ho:s'.os=s.os) (u:Un (CM X.stack) ch H H' s.heap s'.heap) (hok:HOk X.prog X.w H' s'.heap) (hg:Gs s'.gens)
  (hch:∀ b∈ch,(b∈X.ex\/X.s₀.heap.objs.size<=b)/\b≠X.env.locals/\(∀ x c,X.env.cells.lookup x=some c->c≠b)/\∀ p∈X.pn++pins,p.1≠b):Inv X pins σ H' s':=by
 obtain ⟨h',g',d',t',o'⟩:=s';have e:o'=s.os:=ho;subst e;exact I.call (g':=g') (t':=t') (d':=d') u hok hg hch
end
abbrev XK:=Ae->Option Addr->Hp->Prop
abbrev St:=List (Option V)
abbrev VK:=V->Hp->Prop
abbrev TE:=St->Hp->VK->Prop
abbrev TT:=St->Hp->(Bool->Hp->Prop)->Prop
abbrev TA:=St->Hp->(List V->Hp->Prop)->Prop
structure Ends where
 nx:St->Hp->Prop
 rt:VK
 bk:St->Hp->Prop:=λ _ _=>False
 ct:St->Hp->Prop:=λ _ _=>False
abbrev TS:=Ends->St->Hp->Prop
def EP (X:Cx) (pins:List (Addr×Obj)) (σ:St) (Q:VK) (u:Ae) (s':Ai):Prop:=∃ v H',Inv X pins σ H' s'/\RelV v u/\Q v H'
def TP (X:Cx) (pins:List (Addr×Obj)) (σ:St) (Q:Bool->Hp->Prop) (b:Bool) (s':Ai):Prop:=∃ H',Inv X pins σ H' s'/\Q b H'
def AP (X:Cx) (pins:List (Addr×Obj)) (σ:St) (Q:List V->Hp->Prop) (us:List Ae) (s':Ai):Prop:=∃ vs H',Inv X pins σ H' s'/\Vals vs us/\Q vs H'
def SP (X:Cx) (pins:List (Addr×Obj)) (D:Ends) (f:Flow) (s':Ai):Prop:=
 match f with
 | .next=>∃ σ' H',Inv X pins σ' H' s'/\D.nx σ' H'
 | .brk=>∃ σ' H',Inv X pins σ' H' s'/\D.bk σ' H'
 | .cont=>∃ σ' H',Inv X pins σ' H' s'/\D.ct σ' H'
 | .ret u=>∃ v σ' H',Inv X pins σ' H' s'/\RelV v u/\D.rt v H'
def PE (X:Cx) (e:Expr) (t:TE):Prop:=
 ∀ (pins:List (Addr×Obj)) (s:Ai) (σ:St) (H:Hp) (Q:VK),Inv X pins σ H s->t σ H Q->Al (Ay X.prog X.w) X.A (eval e X.env) (EP X pins σ Q) X.xe s
def PT (X:Cx) (e:Expr) (t:TT):Prop:=
 ∀ (pins:List (Addr×Obj)) (s:Ai) (σ:St) (H:Hp) (Q:Bool->Hp->Prop),Inv X pins σ H s->t σ H Q->Al (Ay X.prog X.w) X.A (isTrue e X.env (eval e X.env)) (TP X pins σ Q) X.xe s
def PW (X:Cx) (e:Expr) (t:TT):Prop:=
 ∀ (whole:Sem Ae) (pins:List (Addr×Obj)) (s:Ai) (σ:St) (H:Hp) (Q:Bool->Hp->Prop),Inv X pins σ H s->t σ H Q->Al (Ay X.prog X.w) X.A (isTrue e X.env whole) (TP X pins σ Q) X.xe s
theorem PW.pt {X:Cx}{e:Expr}{t:TT} (h:PW X e t):PT X e t:=h _
def PA (X:Cx) (es:List Expr) (t:TA):Prop:=
 ∀ (pos:Pos) (pins:List (Addr×Obj)) (s:Ai) (σ:St) (H:Hp) (Q:List V->Hp->Prop),Inv X pins σ H s->t σ H Q->Al (Ay X.prog X.w) X.A (spliced (FV pos (Bt es X.env))) (AP X pins σ Q) X.xe s
def PS (X:Cx) (st:Stmt) (t:TS):Prop:=
 ∀ (pins:List (Addr×Obj)) (s:Ai) (σ:St) (H:Hp) (D:Ends),Inv X pins σ H s->t D σ H->Al (Ay X.prog X.w) X.A (exec st X.env) (SP X pins D) X.xe s
def Fj (X:Cx) (st:List Stmt) (t:TS):Prop:=
 ∀ (pins:List (Addr×Obj)) (s:Ai) (σ:St) (H:Hp) (D:Ends),Inv X pins σ H s->t D σ H->Al (Ay X.prog X.w) X.A (execs st X.env) (SP X pins D) X.xe s
theorem A2 {α:Type}{t:Sem α}{Q Q':α->Ai->Prop}{M:Model}{A:Bi}{E:Ae->Ai->Prop}{s:Ai} (h:Al M A t Q E s) (hQ:∀ a s,Q a s->Q' a s):Al M A t Q' E s:=HK h hQ λ _ _ x=>x
section
variable {X:Cx}
theorem ph {a b:Expr}{ta tb:TE} (ha:PE X a ta) (hb:PE X b tb) {pins:List (Addr×Obj)}{s:Ai}{σ:St}{H:Hp}{R:V->V->Hp->Prop} (I:Inv X pins σ H s) (h:ta σ H λ x H1=>tb σ H1 λ y H2=>R x y H2)
  {α:Type}{Q:α->Ai->Prop}{f:Ae->Ae->Sem α}
  (hf:∀ v u s2 x y H2,Inv X pins σ H2 s2->RelV x v->RelV y u->R x y H2->Al (Ay X.prog X.w) X.A (f v u) Q X.xe s2):
  Al (Ay X.prog X.w) X.A (eval a X.env) (λ v s₁=>Al (Ay X.prog X.w) X.A (eval b X.env) (λ u s₂=>Al (Ay X.prog X.w) X.A (f v u) Q X.xe s₂) X.xe s₁) X.xe s:=by
 refine A2 (ha pins s σ H _ I h) λ v s1 ⟨x,H1,I1,r1,q1⟩=>?_;refine A2 (hb pins s1 σ H1 _ I1 q1) λ u s2 ⟨y,H2,I2,r2,q2⟩=>?_;exact hf v u s2 x y H2 I2 r1 r2 q2
def Dw (i:Nat):TE:=λ σ H Q=>∃ v,σ[i]?=some (some v)/\Q v H
def tC (v:V):TE:=λ _ H Q=>Q v H
theorem vb {i:Nat}{x:Str}{pos:Pos} (hN:X.N[i]?=some x) (hv:Ii X.env.scope x) (hd:(x == ("__debug__" : Str))=false:=by decide) (hcd:(x == ("__classdict__" : Str))=false:=by decide):PE X (.Name x pos) (Dw i):=by
 intro pins s σ H Q I h;obtain ⟨v,e,h⟩:=h;obtain ⟨m,hn,hl⟩:=I.loc;obtain ⟨u,r,l⟩:=hl i x v hN e hv;have fin:EP X pins σ Q u s:=⟨v,H,I,r,h⟩
 rcases l with ⟨hk,hm⟩ | ⟨hk,c,hc,hcell⟩
 ·exact wpAny_Name (wpAny_loadName_local I.ok.kind hk hn hm fin) hd
 ·rcases hk with hk | hk
  ·exact wpAny_Name (wpAny_loadName_cell I.ok.kind hk hc hcell fin) hd
  ·exact wpAny_Name (wpAny_loadName_free I.ok.kind hk hc hcell fin hcd) hd
theorem vL {i j pos}:PE X (.Constant (.int i) j pos) (tC (.int i)):=λ _ _ _ H _ I h=>wpAny_Constant_int ⟨.int i,H,I.tok _,⟨_,rfl⟩,h⟩
theorem j0 {b j pos}:PE X (.Constant (.bool b) j pos) (tC (.bl b)):=λ _ _ _ H _ I h=>Constant_bool ⟨.bl b,H,I,rfl,h⟩
theorem vP {j pos}:PE X (.Constant .none j pos) (tC .non):=λ _ _ _ H _ I h=>Constant_none ⟨.non,H,I,rfl,h⟩
theorem vR {x j pos}:PE X (.Constant (.str x) j pos) (tC (.str x)):=λ _ _ _ H _ I h=>Calls.Constant_str ⟨.str x,H,I.tok _,⟨_,rfl⟩,h⟩
def Gl (X:Cx) (x:Str):Prop:=X.env.kindOf x=some .globalImplicit
theorem yv {E:Ae->Ai->Prop}{pins:List (Addr×Obj)}{s:Ai}{σ:St}{H:Hp}{x:Str}{u:Ae}{pos:Pos}{Q:Ae->Ai->Prop} (I:Inv X pins σ H s) (hg:Gl X x) (hm:X.mg x=some u) (h:Q u s)
  (hd:(x == ("__debug__" : Str))=false:=by decide):Al (Ay X.prog X.w) X.A (eval (.Name x pos) X.env) Q E s:=
 VY I.ok.kind hg (Calls.loadGlobal_global (by rw [I.ok.glob];exact I.mod.glob.keeps I.bk) hm h) hd
theorem Gq {E:Ae->Ai->Prop}{pins:List (Addr×Obj)}{s:Ai}{σ:St}{H:Hp}{x:Str}{u:Ae}{pos:Pos}{Q:Ae->Ai->Prop} (I:Inv X pins σ H s) (hg:Gl X x) (hm:X.mg x=none) (hv:IG x=some u) (h:Q u s)
  (hn:x ≠ "__name__" := by decide) (hd:(x == ("__debug__" : Str))=false:=by decide):Al (Ay X.prog X.w) X.A (eval (.Name x pos) X.env) Q E s:=by
 obtain ⟨mb,h1,h2⟩:=I.mod.blt;exact VY I.ok.kind hg (Calls.loadGlobal_builtin (by rw [I.ok.glob];exact I.mod.glob.keeps I.bk) hm (by rw [I.ok.blt];exact h1.keeps I.bk) ((h2 x hn).trans hv) h) hd
theorem uw {x:Str}{v:V}{u:Ae}{pos:Pos} (hg:Gl X x) (hm:X.mg x=none) (hv:IG x=some u) (r:RelV v u) (hn:x ≠ "__name__" := by decide) (hd:(x == ("__debug__" : Str))=false:=by decide):PE X (.Name x pos) (tC v):=
 λ _ _ _ H _ I h=>Gq I hg hm hv ⟨v,H,I,r,h⟩ hn hd
variable {a b:Expr}{ta tb:TE}{pos:Pos}
def PC (X:Cx) (op:CmpOp) (a b:Expr) (t:TE):Prop:=
 ∀ (pins:List (Addr×Obj)) (s:Ai) (σ:St) (H:Hp) (Q:VK),Inv X pins σ H s->t σ H Q ->
  Al (Ay X.prog X.w) X.A (eval a X.env) (λ v s₁=>Al (Ay X.prog X.w) X.A (eval b X.env) (λ u s₂=>Al (Ay X.prog X.w) X.A (Cc op v u) (EP X pins σ Q) X.xe s₂) X.xe s₁) X.xe s
theorem QR (b:Expr) {op:CmpOp} (h:op≠.In) (h2:op≠.NotIn):J1 op b=false:=by
 have e1:(op == CmpOp.In)=false:=by cases op <;> first | rfl | exact absurd rfl h
 have e2:(op == CmpOp.NotIn)=false:=by cases op <;> first | rfl | exact absurd rfl h2
 cases b <;> simp [J1,e1,e2]
def tB (t:TE):TT:=λ σ H Q=>t σ H λ x H1=>∃ c,x=.bl c/\Q c H1
theorem vq {e:Expr}{t:TE} (h:PE X e t) (he:∀ whole,isTrue e X.env whole=(do let v<-whole;standAt e.pos;holding [v] (truthy v)):=by intro _;rfl):PT X e (tB t):=by
 intro pins s σ H Q I hw;refine isTrue_plain (A2 (h pins s σ H _ I hw) λ v s1 ⟨x,H1,I1,r1,q1⟩=>?_) (he _);obtain ⟨d,rfl,q⟩:=q1;cases r1;exact HN ⟨H1,I1,q⟩
variable {tA tB':TT}{rest:List Expr}
def Mu (t u:TT):TT:=λ σ H Q=>t σ H λ c H1=>if c=true then u σ H1 Q else Q false H1
def Wl (t u:TT):TT:=λ σ H Q=>t σ H λ c H1=>if c=true then Q true H1 else u σ H1 Q
def Mq (t:TT):TT:=λ σ H Q=>t σ H λ c H1=>Q (!c) H1
theorem yZ (ha:PT X a tA):PW X (.BoolOp .And [a] pos) tA:=by
 intro wh pins s σ H Q I h;refine isTrue_and (A2 (ha pins s σ H Q I h) λ c s1 e=>?_);cases c with
 | true=>exact isTrue_and_nil e
 | false=>exact e
theorem vz (ha:PT X a tA):PW X (.BoolOp .Or [a] pos) tA:=by
 intro wh pins s σ H Q I h;refine isTrue_or (A2 (ha pins s σ H Q I h) λ c s1 e=>?_);cases c with
 | false=>exact isTrue_or_nil e
 | true=>exact e
theorem vy (ha:PT X a tA) (hb:PW X (.BoolOp .And (b::rest) pos) tB'):PW X (.BoolOp .And (a::b::rest) pos) (Mu tA tB'):=by
 intro wh pins s σ H Q I h;refine isTrue_and (A2 (ha pins s σ H _ I h) λ c s1 ⟨H1,I1,q1⟩=>?_);cases c with
 | true=>exact hb wh pins s1 σ H1 Q I1 q1
 | false=>exact ⟨H1,I1,q1⟩
theorem j9 (ha:PT X a tA) (hb:PW X (.BoolOp .Or (b::rest) pos) tB'):PW X (.BoolOp .Or (a::b::rest) pos) (Wl tA tB'):=by
 intro wh pins s σ H Q I h;refine isTrue_or (A2 (ha pins s σ H _ I h) λ c s1 ⟨H1,I1,q1⟩=>?_);cases c with
 | true=>exact ⟨H1,I1,q1⟩
 | false=>exact hb wh pins s1 σ H1 Q I1 q1
theorem vp (ha:PT X a tA):PT X (.UnaryOp .Not a pos) (Mq tA):=by
 intro pins s σ H Q I h;exact isTrue_not (ha pins s σ H (λ c H1=>Q (!c) H1) I h)
def WI (ta tb:TE):TE:=λ σ H Q=>ta σ H λ x H1=>∃ c,x=.bl c/\if c=true then tb σ H1 Q else Q (.bl false) H1
def Mp (ta tb:TE):TE:=λ σ H Q=>ta σ H λ x H1=>∃ c,x=.bl c/\if c=true then Q (.bl true) H1 else tb σ H1 Q
def WB (ta:TE):TE:=λ σ H Q=>ta σ H λ x H1=>∃ c,x=.bl c/\Q (.bl (!c)) H1
theorem Xr {op}{t:TE} (h:PE X a t):PE X (.BoolOp op [a] pos) t:=λ pins s σ H Q I hw=>BoolOp_one (h pins s σ H Q I hw)
theorem vK (ha:PE X a ta) (hb:PE X (.BoolOp .And (b::rest) pos) tb):PE X (.BoolOp .And (a::b::rest) pos) (WI ta tb):=by
 intro pins s σ H Q I h;refine BoolOp_and (A2 (ha pins s σ H _ I h) λ v s1 ⟨x,H1,I1,r1,q1⟩=>?_);obtain ⟨c,rfl,q1⟩:=q1;cases r1;refine HN ?_;cases c with
 | true=>exact hb pins s1 σ H1 Q I1 q1
 | false=>exact ⟨.bl false,H1,I1,rfl,q1⟩
theorem j4 (ha:PE X a ta) (hb:PE X (.BoolOp .Or (b::rest) pos) tb):PE X (.BoolOp .Or (a::b::rest) pos) (Mp ta tb):=by
 intro pins s σ H Q I h;refine BoolOp_or (A2 (ha pins s σ H _ I h) λ v s1 ⟨x,H1,I1,r1,q1⟩=>?_);obtain ⟨c,rfl,q1⟩:=q1;cases r1;refine HN ?_;cases c with
 | false=>exact hb pins s1 σ H1 Q I1 q1
 | true=>exact ⟨.bl true,H1,I1,rfl,q1⟩
theorem vQ (ha:PE X a ta):PE X (.UnaryOp .Not a pos) (WB ta):=by
 intro pins s σ H Q I h;refine UnaryOp_ (A2 (ha pins s σ H _ I h) λ v s1 ⟨x,H1,I1,r1,q1⟩=>?_);obtain ⟨c,rfl,q1⟩:=q1;cases r1;exact not_of (HN ⟨.bl (!c),H1,I1,rfl,q1⟩)
def Wm (t:TT) (ta tb:TE):TE:=λ σ H Q=>t σ H λ c H1=>if c=true then ta σ H1 Q else tb σ H1 Q
theorem bO {c:Expr} (hc:PT X c tA) (ha:PE X a ta) (hb:PE X b tb):PE X (.IfExp c a b pos) (Wm tA ta tb):=by
 intro pins s σ H Q I h;refine wpAny_IfExp (A2 (hc pins s σ H _ I h) λ d s1 ⟨H1,I1,q1⟩=>?_);cases d with
 | true=>exact ha pins s1 σ H1 Q I1 q1
 | false=>exact hb pins s1 σ H1 Q I1 q1
end
def Br (K:PySem.W.Frag) (H:Hp) (a:Addr) (xs:List V):Prop:=
 Rd H a (.lst xs) \/
  ∃ (o:Obj) (its:Array Ae) (n:Nat),K.lookup a=some o/\o.cls=.type "list" /\ o.dict=none/\o.data=.seq its n/\its.size<=Au/\Vals xs its.toList
def SqT (K:PySem.W.Frag) (H:Hp) (a:Addr) (xs:List V):Prop:=
 Rd H a (.tup xs) \/
  ∃ (o:Obj) (its:Array Ae) (n:Nat),K.lookup a=some o/\o.cls=.type "tuple" /\ o.data=.seq its n/\its.size<=Au/\Vals xs its.toList
def UO:Ae->Option V
 | .none=>some .non
 | .bool b=>some (.bl b)
 | .int i _=>some (.int i)
 | .str x _=>some (.str x)
 | .bytes b _=>some (.byt b)
 | .float b _=>some (.flt b)
 | .ref a=>some (.ref a)
 | .type n=>some (.ty n)
 | _=>none
theorem RelV.abs {x:V}{u:Ae} (r:RelV x u):UO u=some x:=by
 cases x with
 | non=>cases r;rfl
 | bl _=>cases r;rfl
 | int _=>obtain ⟨t,rfl⟩:=r;rfl
 | str _=>obtain ⟨t,rfl⟩:=r;rfl
 | byt _=>obtain ⟨t,rfl⟩:=r;rfl
 | flt _=>obtain ⟨t,rfl⟩:=r;rfl
 | ref _=>cases r;rfl
 | ty _=>cases r;rfl
theorem RelV.inj {x y:V}{u:Ae} (r:RelV x u) (q:RelV y u):x=y:=Option.some.inj (r.abs.symm.trans q.abs)
theorem Vals.inj:∀ {xs ys:List V}{us:List Ae},Vals xs us->Vals ys us->xs=ys
 | _,_,_,.nil,.nil=>rfl
 | _,_,_,.cons r t,.cons r' t'=>by rw [r.inj r',Vals.inj t t']
section
variable {X:Cx}{pins:List (Addr×Obj)}{σ:St}{H:Hp}{s:Ai}{a:Addr}{xs ys:List V}
theorem SqT.of {K:PySem.W.Frag} (h:H a=some (.tup xs)):SqT K H a xs:=.inl (.inl h)
theorem Inv.list (I:Inv X pins σ H s) (h:Br X.K H a xs):∃ its:List Ae,Vals xs its/\PlainL s.heap a its.toArray/\xs.length<=Au:=by
 rcases h with h | ⟨o,its,n,hk,hc,hd,hs,hz,r⟩
 ·obtain ⟨z,its,n,r,e⟩:=h.ok I.hok;exact ⟨its,r,⟨_,n,e,rfl,rfl,rfl⟩,z⟩
 ·refine ⟨its.toList,r,⟨o,n,I.kIn a o hk,hc,hd,by simpa using hs⟩,?_⟩;have e:=r.length;simp only [Ls] at e;omega
theorem Inv.tuple (I:Inv X pins σ H s) (h:SqT X.K H a xs):∃ its:List Ae,Vals xs its/\IsTup s.heap a its.toArray/\xs.length<=Au:=by
 rcases h with h | ⟨o,its,n,hk,hc,hs,hz,r⟩
 ·obtain ⟨z,its,r,p⟩:=h.ok I.hok;exact ⟨its,r,p,z⟩
 ·refine ⟨its.toList,r,⟨o,I.kIn a o hk,hc,n,by simpa using hs⟩,?_⟩;have e:=r.length;simp only [Ls] at e;omega
theorem Inv.list_inj (I:Inv X pins σ H s) (h:Br X.K H a xs) (h':Br X.K H a ys):xs=ys:=by
 obtain ⟨its,r,⟨o,n,e,_,_,d⟩,_⟩:=I.list h;obtain ⟨its',r',⟨o',n',e',_,_,d'⟩,_⟩:=I.list h';rw [e] at e';cases e';rw [d] at d';injection d' with d1 _
 have:its=its':=by simpa using congrArg qj d1
 subst this;exact r.inj r'
theorem Inv.tuple_inj (I:Inv X pins σ H s) (h:SqT X.K H a xs) (h':SqT X.K H a ys):xs=ys:=by
 obtain ⟨its,r,⟨o,e,_,n,d⟩,_⟩:=I.tuple h;obtain ⟨its',r',⟨o',e',_,n',d'⟩,_⟩:=I.tuple h';rw [e] at e';cases e';rw [d] at d';injection d' with d1 _
 have:its=its':=by simpa using congrArg qj d1
 subst this;exact r.inj r'
end
section
variable {X:Cx}{pins:List (Addr×Obj)}{σ:St}{H:Hp}{s:Ai}{E:Ae->Ai->Prop}
end
section
variable {X:Cx}{st:Stmt}{rest:List Stmt}{t u:TS}{e:Expr}{te:TE}{pos:Pos}
def WA:TS:=λ D σ H=>D.nx σ H
def Mn (t u:TS):TS:=λ D σ H=>t { D with nx:=u D } σ H
theorem yR:Fj X [] WA:=λ _ _ σ H _ I h=>Rw ⟨σ,H,I,h⟩
theorem ba (h1:PS X st t) (h2:Fj X rest u):Fj X (st::rest) (Mn t u):=by
 intro pins s σ H D I h;refine wpAny_execs_cons (A2 (h1 pins s σ H { D with nx:=u D } I h) λ f s1 q=>?_);cases f with
 | next=>
  obtain ⟨σ',H',I',q⟩:=q;exact h2 pins s1 σ' H' D I' q
 | ret v=>exact q
 | brk=>exact q
 | cont=>exact q
theorem yS (h1:PS X st t):Fj X [st] t:=by
 intro pins s σ H D I h;refine wpAny_execs_cons (A2 (h1 pins s σ H D I h) λ f s1 q=>?_);cases f with
 | next=>exact Rw q
 | ret v=>exact q
 | brk=>exact q
 | cont=>exact q
theorem Inv.quiet {pins:List (Addr×Obj)}{σ:St}{H:Hp}{s:Ai} (I:Inv X pins σ H s):interactive X.env=false:=by simp [interactive,I.ok.kind]
def Po (te:TE):TS:=λ D σ H=>te σ H λ _ H1=>D.nx σ H1
theorem Tx (he:PE X e te) (hs:swapsWith e none pos.line X.env=pure false:=by rfl):PS X (.Expr e pos) (Po te):=by
 intro pins s σ H D I h;exact wpAny_Expr_any (A2 (he pins s σ H _ I h) λ v s1 ⟨x,H1,I1,r1,q1⟩=>⟨σ,H1,I1,q1⟩) I.quiet hs
def J5 (te:TE):TS:=λ D σ H=>te σ H D.rt
theorem Xv (he:PE X e te):PS X (.Return (some e) pos) (J5 te):=by
 intro pins s σ H D I h;exact wpAny_Return_some (A2 (he pins s σ H _ I h) λ v s1 ⟨x,H1,I1,r1,q1⟩=>⟨x,σ,H1,I1,r1,q1⟩)
def Ms (c:TT) (t u:TS):TS:=λ D σ H=>c σ H λ b H1=>if b=true then t D σ H1 else u D σ H1
theorem j7 {c:Expr}{a b:List Stmt}{tc:TT} (hc:PT X c tc) (ha:Fj X a t) (hb:Fj X b u):PS X (.If c a b pos) (Ms tc t u):=by
 intro pins s σ H D I h;refine wpAny_If (A2 (hc pins s σ H _ I h) λ d s1 ⟨H1,I1,q1⟩=>?_);cases d with
 | true=>exact ha pins s1 σ H1 D I1 q1
 | false=>exact hb pins s1 σ H1 D I1 q1
def Xc:TS:=λ _ _ _=>False
theorem gZ:PS X st Xc:=λ _ _ _ _ _ _ h=>h.elim
end
abbrev TG:=V->St->Hp->(St->Hp->Prop)->Prop
abbrev Je:=List V->St->Hp->(St->Hp->Prop)->Prop
def PG (X:Cx) (target:Expr) (t:TG):Prop:=
 ∀ (pins:List (Addr×Obj)) (s:Ai) (σ:St) (H:Hp) (v:V) (u:Ae) (Q:St->Hp->Prop),Inv X pins σ H s->RelV v u->t v σ H Q ->
  Al (Ay X.prog X.w) X.A (HG target X.env u) (λ _ s'=>∃ σ' H',Inv X pins σ' H' s'/\Q σ' H') X.xe s
def Lu (X:Cx) (ts:List Expr) (t:Je):Prop:=
 ∀ (pins:List (Addr×Obj)) (s:Ai) (σ:St) (H:Hp) (vs:List V) (us:List Ae) (Q:St->Hp->Prop),Inv X pins σ H s->Vals vs us->t vs σ H Q ->
  Al (Ay X.prog X.w) X.A (assignInOrder ((EZ ts X.env).map (·.2)) us) (λ _ s'=>∃ σ' H',Inv X pins σ' H' s'/\Q σ' H') X.xe s
abbrev Ei:=V->V->V->Hp->(Hp->Prop)->Prop
def PSet (X:Cx) (t:Ei):Prop:=
 ∀ (pins:List (Addr×Obj)) (s:Ai) (σ:St) (H:Hp) (o i v:V) (ov iv u:Ae) (Q:Hp->Prop),Inv X pins σ H s->RelV o ov->RelV i iv->RelV v u->t o i v H Q ->
  Al (Ay X.prog X.w) X.A (setItem ov iv u) (λ _ s'=>∃ H',Inv X pins σ H' s'/\Q H') X.xe s
abbrev Kd:=V->V->Hp->VK->Prop
def Kf (X:Cx) (op:HI) (t:Kd):Prop:=
 ∀ (pins:List (Addr×Obj)) (s:Ai) (σ:St) (H:Hp) (x y:V) (v u:Ae) (Q:VK),Inv X pins σ H s->RelV x v->RelV y u->t x y H Q ->
  Al (Ay X.prog X.w) X.A (inplaceOp op v u) (EP X pins σ Q) X.xe s
section
variable {X:Cx}{pos:Pos}
def HD (i:Nat):TG:=λ v σ H Q=>Q (σ.set i (some v)) H
theorem Ox {i:Nat}{x:Str} (hN:X.N.Nodup) (hi:X.N[i]?=some x) (hx:Ik X.env.scope x) (hf:X.fn x=true\/X.env.scope.names.lookup x=some .local:=by first | exact .inl rfl | exact .inr rfl | assumption):PG X (.Name x pos) (HD i):=by
 intro pins s σ H v u Q I r h;exact wpAny_assign_Name (Ra I hN hi hx r (λ s' I'=>⟨_,H,I',h⟩) hf)
def Nt:Je:=λ vs σ H Q=>vs=[]/\Q σ H
def Wn (t:TG) (u:Je):Je:=λ vs σ H Q=>∃ v r,vs=v::r/\t v σ H λ σ' H'=>u r σ' H' Q
theorem XU:Lu X [] Nt:=by
 intro pins s σ H vs us Q I r h;obtain ⟨e,h⟩:=h;subst e;cases r;exact assignInOrder_nil ⟨σ,H,I,h⟩
theorem YW {e:Expr}{es:List Expr}{t:TG}{u:Je} (h1:PG X e t) (h2:Lu X es u)
  (hs:(EZ (e::es) X.env).map (·.2)=HG e X.env::(EZ es X.env).map (·.2):=by rfl):Lu X (e::es) (Wn t u):=by
 intro pins s σ H vs us Q I r h;obtain ⟨v,vr,e1,h⟩:=h;subst e1;cases r with
 | cons r rr=>
  rw [hs];refine assignInOrder_cons (A2 (h1 pins s σ H _ _ _ I r h) λ _ s1 ⟨σ1,H1,I1,q1⟩=>?_);exact h2 pins s1 σ1 H1 _ _ Q I1 rr q1
def Ka (K:PySem.W.Frag) (n:Nat) (t:Je):TG:=λ v σ H Q=>∃ a xs,v=.ref a/\SqT K H a xs/\xs.length=n/\t xs σ H Q
theorem SJ {es:List Expr}{k:Nat}{t:Je}{n:Nat} (hc:X.calm=true) (h:Lu X es t)
  (hn:(EZ es X.env).length=n:=by rfl) (hst:(EZ es X.env).findIdx? (·.1)=none:=by rfl):PG X (.Tuple es k pos) (Ka X.K n t):=by
 intro pins s σ H v u Q I r hw;obtain ⟨a,xs,e1,hq,hl,hw⟩:=hw;subst e1;cases r;obtain ⟨its,rv,ht,hz⟩:=I.tuple hq;refine assign_Tuple_tuple (I.ok.hd hc) ht (by simp [hn,<- hl,rv.length]) hst λ h' hx=>?_;have I1:Inv X pins σ H { s with heap:=h' }:=I.kept (t':=s.toks) λ b o e=>hx b o (Cd (AH e)) e;exact h pins _ σ H xs _ Q I1 (by simpa using rv) hw
def Kb (to ti:TE) (t:Ei):TG:=λ v σ H Q=>to σ H λ o H1=>ti σ H1 λ i H2=>t o i v H2 λ H3=>Q σ H3
theorem Xs {o i:Expr}{to ti:TE}{t:Ei} (ho:PE X o to) (hi:PE X i ti) (hs:PSet X t)
  (ha:∀ v,HG (.Subscript o i pos) X.env v=(do
   let ov<-holding [v] (eval o X.env);let iv<-holding [v,ov] (eval i X.env)
   standAt pos
   holding [v,ov,iv] (setItem ov iv v)
   release [v,ov,iv] []):=by intro _;rfl):PG X (.Subscript o i pos) (Kb to ti t):=by
 intro pins s σ H v u Q I r h;rw [ha];refine Ah (J2 (A2 (ho pins s σ H _ I h) λ ov s1 ⟨x,H1,I1,r1,q1⟩=>?_));refine Ah (J2 (A2 (hi pins s1 σ H1 _ I1 q1) λ iv s2 ⟨y,H2,I2,r2,q2⟩=>?_));refine Ah (wpAny_standAt (Ah (J2 (A2 (hs pins s2 σ H2 x y v ov iv u _ I2 r1 r2 r q2) λ _ s3 ⟨H3,I3,q3⟩=>?_))));exact wpAny_release ⟨σ,H3,I3,q3⟩
def EE (te:TE) (g:TG):TS:=λ D σ H=>te σ H λ x H1=>g x σ H1 D.nx
theorem SO {tg e:Expr}{te:TE}{g:TG} (he:PE X e te) (hg:PG X tg g) (hs:swapsWithSole [tg] e pos.line X.env=pure false:=by rfl) (hw:swappedStores [tg] e X.env=pure none:=by rfl)
  (h1:(EZ [tg] X.env).map (·.2)=[HG tg X.env]:=by rfl):PS X (.Assign [tg] e pos) (EE te g):=by
 intro pins s σ H D I h;refine wpAny_Assign_stores (A2 (he pins s σ H _ I h) λ v s1 ⟨x,H1,I1,r1,q1⟩=>?_) hs hw;rw [h1];exact A2 (hg pins s1 σ H1 x v _ I1 r1 q1) λ _ s2 q=>q
theorem SX {i:Nat}{x:Str}{e:Expr}{te:TE}{pos':Pos} (hN:X.N.Nodup) (hi:X.N[i]?=some x) (hx:Ik X.env.scope x) (he:PE X e te) (hs:swapsWith e (some (.Name x pos')) pos.line X.env=pure false:=by rfl) (hf:X.fn x=true\/X.env.scope.names.lookup x=some .local:=by first | exact .inl rfl | exact .inr rfl | assumption):
  PS X (.Assign [.Name x pos'] e pos) (EE te (HD i)):=by
 intro pins s σ H D I h;refine wpAny_Assign_Name (A2 (he pins s σ H _ I h) λ v s1 ⟨y,H1,I1,r1,q1⟩=>?_) hs;exact Ra I1 hN hi hx r1 (λ s2 I2=>⟨_,H1,I2,q1⟩) hf
def Mt (i:Nat) (te:TE) (ti:Kd):TS:=λ D σ H=>∃ x,σ[i]?=some (some x)/\te σ H λ y H1=>ti x y H1 λ z H2=>D.nx (σ.set i (some z)) H2
theorem vh {i:Nat}{x:Str}{e:Expr}{te:TE}{op:HI}{ti:Kd}{pos':Pos} (hN:X.N.Nodup) (hi:X.N[i]?=some x) (hx:Ik X.env.scope x) (he:PE X e te) (ho:Kf X op ti) (hf:X.fn x=true\/X.env.scope.names.lookup x=some .local:=by first | exact .inl rfl | exact .inr rfl | assumption):
  PS X (.AugAssign (.Name x pos') op e pos) (Mt i te ti):=by
 intro pins s σ H D I h;obtain ⟨v,e1,h⟩:=h;obtain ⟨m,hn,hl⟩:=I.loc;have vis:Ii X.env.scope x:=by rcases hx with k | k;exact .inl k;exact .inr (.inl k)
 obtain ⟨u,r,l⟩:=hl i x v hi e1 vis;refine wpAny_AugAssign_Name ?_;have go:Al (Ay X.prog X.w) X.A (eval e X.env) (λ w s₂=>Al (Ay X.prog X.w) X.A (inplaceOp op u w) (λ r s₃=>Al (Ay X.prog X.w) X.A (storeName X.env x r) (λ _=>SP X pins D .next) X.xe s₃) X.xe s₂) X.xe s:=by
  refine A2 (he pins s σ H _ I h) λ w s1 ⟨y,H1,I1,r1,q1⟩=>?_;refine A2 (ho pins s1 σ H1 v y u w _ I1 r r1 q1) λ z s2 ⟨zv,H2,I2,r2,q2⟩=>?_;exact Ra I2 hN hi hx r2 (λ s3 I3=>⟨_,H2,I3,q2⟩) hf
 rcases l with ⟨hk,hm⟩ | ⟨hk,c,hc,hcell⟩
 ·exact wpAny_loadName_local I.ok.kind hk hn hm go
 ·rcases hk with hk | hk
  ·exact wpAny_loadName_cell I.ok.kind hk hc hcell go
  ·rcases hx with k | k
   ·have:X.env.scope.names.lookup x=some .free:=hk
    rw [k] at this;cases this
   ·have:X.env.scope.names.lookup x=some .free:=hk
    rw [k] at this;cases this
def W9 (to ti te:TE) (tget:V->V->Hp->VK->Prop) (tip:Kd) (tset:Ei):TS:=λ D σ H=>to σ H λ o H1=>ti σ H1 λ i H2=>tget o i H2 λ x H3=>te σ H3 λ y H4=>tip x y H4 λ z H5=>tset o i z H5 λ H6=>D.nx σ H6
def N3 (X:Cx) (t:V->V->Hp->VK->Prop):Prop:=
 ∀ (pins:List (Addr×Obj)) (s:Ai) (σ:St) (H:Hp) (o i:V) (ov iv:Ae) (Q:VK),Inv X pins σ H s->RelV o ov->RelV i iv->t o i H Q ->
  Al (Ay X.prog X.w) X.A (ID ov iv) (EP X pins σ Q) X.xe s
theorem Yt {o i e:Expr}{to ti te:TE}{tget:V->V->Hp->VK->Prop}{tip:Kd}{tset:Ei}{op:HI}{tpos:Pos} (ho:PE X o to) (hi:PE X i ti) (hg:N3 X tget) (he:PE X e te) (hp:Kf X op tip) (hs:PSet X tset)
  (ha:∀ ov iv new,augStore i ov iv new=(do holding [new,ov,iv] (setItem ov iv new);release [new,ov,iv] [];pure .next):=by intros;rfl):PS X (.AugAssign (.Subscript o i tpos) op e pos) (W9 to ti te tget tip tset):=by
 intro pins s σ H D I h;refine wpAny_AugAssign_SubscriptAny (A2 (ho pins s σ H _ I h) λ ov s1 ⟨x1,H1,I1,r1,q1⟩=>?_) ha;refine A2 (hi pins s1 σ H1 _ I1 q1) λ iv s2 ⟨x2,H2,I2,r2,q2⟩=>?_;refine A2 (hg pins s2 σ H2 x1 x2 ov iv _ I2 r1 r2 q2) λ old s3 ⟨x3,H3,I3,r3,q3⟩=>?_;refine A2 (he pins s3 σ H3 _ I3 q3) λ v s4 ⟨x4,H4,I4,r4,q4⟩=>?_;refine A2 (hp pins s4 σ H4 x3 x4 old v _ I4 r3 r4 q4) λ new s5 ⟨x5,H5,I5,r5,q5⟩=>?_;exact A2 (hs pins s5 σ H5 x1 x2 x5 ov iv new _ I5 r1 r2 r5 q5) λ _ s6 ⟨H6,I6,q6⟩=>⟨σ,H6,I6,q6⟩
def Ql (f:Int->Int->Int):Kd:=λ x y H Q=>∃ i j,x=.int i/\y=.int j/\Q (.int (f i j)) H
theorem WV:Kf X .Add (Ql λ i j=>i + j):=by
 intro pins s σ H x y v u Q I r1 r2 h;obtain ⟨i,j,e1,e2,q⟩:=h;subst e1;subst e2;obtain ⟨t,rfl⟩:=r1;obtain ⟨t',rfl⟩:=r2;exact iadd_int ⟨.int _,H,I.tok _,⟨_,rfl⟩,q⟩
theorem WW:Kf X .Sub (Ql λ i j=>i - j):=by
 intro pins s σ H x y v u Q I r1 r2 h;obtain ⟨i,j,e1,e2,q⟩:=h;subst e1;subst e2;obtain ⟨t,rfl⟩:=r1;obtain ⟨t',rfl⟩:=r2;exact isub_int ⟨.int _,H,I.tok _,⟨_,rfl⟩,q⟩
end
section
variable {X:Cx}{pos:Pos}
end
structure It where
 go:Nat->Hp->Prop
 yld:Nat->Hp->V->Hp->Prop
 stop:Nat->Hp->Prop
def Cg (X:Cx) (pins:List (Addr×Obj)) (H:Hp) (b:Addr):Prop:=
 H b=none/\b≠X.env.locals/\b∉X.fs/\(b∈X.ex\/X.s₀.heap.objs.size<=b)/\(∀ x c,X.env.cells.lookup x=some c->c≠b)/\∀ p∈X.pn++pins,p.1≠b
theorem Inv.fpOk {X:Cx}{pins:List (Addr×Obj)}{σ:St}{H H':Hp}{s:Ai}{b:Addr} (I:Inv X pins σ H s) (hb:s.heap.objs.size<=b) (hn:H' b=none):Cg X pins H' b:=by
 refine ⟨hn,Fe (BY I.lt hb),I.nofs hb,.inr (BD I.sz hb),λ x c e z=>?_,λ p hp z=>?_⟩
 ·obtain ⟨v,q⟩:=I.cell x c e;exact absurd (BY q.lt (by rw [z];exact hb)) (DB _)
 ·exact absurd (BY (AH (I.pin p hp).1) (by rw [z];exact hb)) (DB _)
structure Turn (P:AB) (w:A9) (K:PySem.W.Frag) (tg:Expr) (J:It) (fp:List Addr) (it:Addr) (tn:Nat->Heap->Prop):Prop where
 mem:it∈fp
 obj:∀ i h,tn i h->∀ b∈fp,∃ o,h.get? b=some o/\∀ v,o.data≠.cell v
 keep:∀ i h h',tn i h->(∀ b∈fp,∀ o,h.get? b=some o->h'.get? b=some o)->tn i h'
 item:∀ (X:Cx),X.prog=P->X.w=w->X.K=K->X.calm=true->∀ (i:Nat) (pins:List (Addr×Obj)) (s:Ai) (σ:St) (H:Hp) (E:Ae->Ai->Prop),Inv X pins σ H s->(∀ b∈fp,Cg X pins H b)->tn i s.heap->J.go i H ->
  Al (Ay P w) X.A (E9 (.ref it)) (λ r s1=>∃ u,r=some u /\
   Al (Ay P w) X.A (OJ tg (.ref it) u) (λ _ s2=>∃ x H',Inv X pins σ H' s2/\RelV x u/\J.yld i H x H'/\tn (i + 1) s2.heap/\∀ b∈fp,H' b=none) E s1) E s
 done:∀ (X:Cx),X.prog=P->X.w=w->X.K=K->X.calm=true->∀ (i:Nat) (pins:List (Addr×Obj)) (s:Ai) (σ:St) (H:Hp) (E:Ae->Ai->Prop),Inv X pins σ H s->(∀ b∈fp,Cg X pins H b)->tn i s.heap->J.stop i H ->
  Al (Ay P w) X.A (E9 (.ref it)) (λ r s1=>r=none/\Inv X pins σ H s1) E s
 self:∀ (A:Bi) (i:Nat) (s:Ai) (Q:Ae->Ai->Prop) (E:Ae->Ai->Prop),tn i s.heap->Q (.ref it) s->Al (Ay P w) A (pyIter (.ref it)) Q E s
abbrev TI:=St->Hp->(It->Hp->Prop)->Prop
def US (X:Cx) (pins:List (Addr×Obj)) (σ:St) (tg:Expr) (R:It->Hp->Prop) (itv:Ae) (s2:Ai):Prop:=
 ∃ (it:Addr) (fp:List Addr) (tn:Nat->Heap->Prop) (J:It) (H':Hp),itv=.ref it/\Inv X pins σ H' s2/\Turn X.prog X.w X.K tg J fp it tn/\tn 0 s2.heap/\(∀ b∈fp,Cg X pins H' b)/\R J H'
def PI (X:Cx) (tg iter:Expr) (wi:TI):Prop:=
 ∀ (pins:List (Addr×Obj)) (s:Ai) (σ:St) (H:Hp) (R:It->Hp->Prop),Inv X pins σ H s->wi σ H R ->
  Al (Ay X.prog X.w) X.A (eval iter X.env) (λ v s1=>Al (Ay X.prog X.w) X.A (pyIter v) (US X pins σ tg R) X.xe s1) X.xe s
theorem IM {M:Model}{A:Bi}{E:Ae->Ai->Prop}{s:Ai}{tg:Expr}{it:Addr}{u:Ae}{o:Obj}{n:String}{vs:Array Ae}{Q:Unit->Ai->Prop} (ho:s.heap.get? it=some o) (hc:o.cls=.type n) (hd:o.data=.fields vs)
  (hn:["enumerate","zip","dict_itemiterator","dict_reverseitemiterator","odict_iterator","itertools.zip_longest","itertools.pairwise"].contains n=false) (hQ:Q () s):Al M A (OJ tg (.ref it) u) Q E s:=by
 unfold OJ;cases tg <;> first
  | exact Aw hQ
  | (cases u <;> first
    | exact Aw hQ
    | (refine Ah (wpAny_load ho ?_);rw [hc,hd];show Al M A (if (["enumerate","zip","dict_itemiterator","dict_reverseitemiterator","odict_iterator","itertools.zip_longest","itertools.pairwise"].contains n && vs[0]? == some (DO _))=true then _ else _) Q E s;rw [if_neg (by intro h;rw [hn,Bool.false_and] at h;cases h)];exact Aw hQ))
def UX (K:PySem.W.Frag) (a:Addr):It:=
 ⟨λ i H=>∃ xs x,Br K H a xs/\xs[i]?=some x,λ i H x H'=>H'=H/\∀ xs,Br K H a xs->xs[i]?=some x,λ i H=>∃ xs,Br K H a xs/\xs.length<=i⟩
def UW (K:PySem.W.Frag) (a:Addr):It:=
 ⟨λ i H=>∃ xs x,SqT K H a xs/\xs[i]?=some x,λ i H x H'=>H'=H/\∀ xs,SqT K H a xs->xs[i]?=some x,λ i H=>∃ xs,SqT K H a xs/\xs.length<=i⟩
def N5 (lo:Int) (n:Nat):It:=⟨λ i _=>i < n,λ i H x H'=>H'=H/\x=.int (lo + i),λ i _=>n<=i⟩
theorem fT {P:AB}{w:A9}{K:PySem.W.Frag}{tg:Expr} (a it:Addr):Turn P w K tg (UX K a) [it] it (λ i h=>h.IsListIter it a i) where
 mem:=by simp
 obj:=λ i h st b hb=>by
  have e:b=it:=by simpa using hb
  subst e;obtain ⟨o,e,c,d⟩:=st;exact ⟨o,e,λ v z=>by rw [d] at z;cases z⟩
 keep:=λ i h h' st k=>st.at λ o e=>k it (by simp) o e
 item:=by
  intro X hP hw hK hc i pins s σ H E I hf st hg;subst hP hw hK;obtain ⟨xs,x,hq,hx⟩:=hg;obtain ⟨its,rv,p,hz⟩:=I.list hq;obtain ⟨u,hu,ru⟩:=rv.get hx;obtain ⟨f0,f1,f2,f3,f4,f5⟩:=hf it (by simp);refine wpAny_pyNext_list_item st p.isList (x:=u) (by simpa using hu) λ h' st' sb=>?_;have I1:Inv X pins σ H { s with heap:=h' }:=I.turned (t':=s.toks) (λ b o hb e=>(sb.2 b hb).trans e) f0 f1 f3 f4 f5;obtain ⟨o,e,c,d⟩:=id st';exact ⟨u,rfl,IM (s:={ s with heap:=h' }) e c d (by decide) ⟨x,H,I1,ru,⟨rfl,λ ys hy=>by rw [I.list_inj hy hq];exact hx⟩,st',λ b hb=>(hf b hb).1⟩⟩
 done:=by
  intro X hP hw hK hc i pins s σ H E I hf st hg;subst hP hw hK;obtain ⟨xs,hq,hx⟩:=hg;obtain ⟨its,rv,p,hz⟩:=I.list hq;obtain ⟨f0,f1,f2,f3,f4,f5⟩:=hf it (by simp);have hl:=rv.length;exact wpAny_pyNext_list_end (I.ok.hd hc) st p.isList (by simp;omega) λ h' eb=>⟨rfl,I.turned (t':=s.toks) (λ b o hb e=>eb b o hb e) f0 f1 f3 f4 f5⟩
 self:=λ _ _ _ _ _ st h=>wpAny_pyIter_listiter st h
theorem fY {P:AB}{w:A9}{K:PySem.W.Frag}{tg:Expr} (a it:Addr):Turn P w K tg (UW K a) [it] it (λ i h=>h.IsTupleIter it a i) where
 mem:=by simp
 obj:=λ i h st b hb=>by
  have e:b=it:=by simpa using hb
  subst e;obtain ⟨o,e,c,d⟩:=st;exact ⟨o,e,λ v z=>by rw [d] at z;cases z⟩
 keep:=λ i h h' st k=>st.at λ o e=>k it (by simp) o e
 item:=by
  intro X hP hw hK hc i pins s σ H E I hf st hg;subst hP hw hK;obtain ⟨xs,x,hq,hx⟩:=hg;obtain ⟨its,rv,p,hz⟩:=I.tuple hq;obtain ⟨u,hu,ru⟩:=rv.get hx;obtain ⟨f0,f1,f2,f3,f4,f5⟩:=hf it (by simp);refine wpAny_pyNext_tuple_item st (show s.heap.IsTuple a its.toArray from p) (x:=u) (by simpa using hu) λ h' st' sb=>?_;have I1:Inv X pins σ H { s with heap:=h' }:=I.turned (t':=s.toks) (λ b o hb e=>(sb.2 b hb).trans e) f0 f1 f3 f4 f5;obtain ⟨o,e,c,d⟩:=id st';exact ⟨u,rfl,IM (s:={ s with heap:=h' }) e c d (by decide) ⟨x,H,I1,ru,⟨rfl,λ ys hy=>by rw [I.tuple_inj hy hq];exact hx⟩,st',λ b hb=>(hf b hb).1⟩⟩
 done:=by
  intro X hP hw hK hc i pins s σ H E I hf st hg;subst hP hw hK;obtain ⟨xs,hq,hx⟩:=hg;obtain ⟨its,rv,p,hz⟩:=I.tuple hq;obtain ⟨f0,f1,f2,f3,f4,f5⟩:=hf it (by simp);have hl:=rv.length;exact wpAny_pyNext_tuple_end (I.ok.hd hc) st (show s.heap.IsTuple a its.toArray from p) (by simp;omega) λ h' eb=>⟨rfl,I.turned (t':=s.toks) (λ b o hb e=>eb b o hb e) f0 f1 f3 f4 f5⟩
 self:=λ _ _ _ _ _ st h=>wpAny_pyIter_tupleiter st h
theorem fX {P:AB}{w:A9}{K:PySem.W.Frag}{tg:Expr} (it:Addr) (lo:Int) (n:Nat):Turn P w K tg (N5 lo n) [it] it (λ i h=>OB h it (lo + (i:Nat) * 1) ((n:Int) - (i:Nat)) 1) where
 mem:=by simp
 obj:=λ i h st b hb=>by
  have e:b=it:=by simpa using hb
  subst e;exact ⟨_,st,λ v z=>by
   have z':Data.fields _=Data.cell v:=z;cases z'⟩
 keep:=λ i h h' st k=>k it (by simp) _ st
 item:=by
  intro X hP hw hK hc i pins s σ H E I hf st hg;subst hP hw hK;obtain ⟨f0,f1,f2,f3,f4,f5⟩:=hf it (by simp);have W:=Walks.range (prog:=X.prog) (w:=X.w) (I.ok.hd hc) it lo 1 n;refine W.item i s _ _ hg st λ v h' tk hv st' kk=>?_;obtain ⟨t,rfl⟩:=hv;have I1:Inv X pins σ H { s with heap:=h',toks:=tk }:=I.turned (λ b o hb e=>kk b o (by simpa using hb) e) f0 f1 f3 f4 f5;refine ⟨_,rfl,IM (s:={ s with heap:=h',toks:=tk }) (n := "range_iterator") st' rfl rfl (by decide) ⟨.int (lo + i),H,I1,⟨t,?_⟩,⟨rfl,rfl⟩,st',λ b hb=>(hf b hb).1⟩⟩;rw [Int.mul_one]
 done:=by
  intro X hP hw hK hc i pins s σ H E I hf st hg;subst hP hw hK;obtain ⟨f0,f1,f2,f3,f4,f5⟩:=hf it (by simp);exact wpAny_pyNext_range_end (I.ok.hd hc) st (by have:n<=i:=hg;omega) λ h' eb=>⟨rfl,I.turned (t':=s.toks) (λ b o hb e=>eb b o hb e) f0 f1 f3 f4 f5⟩
 self:=λ _ _ _ _ _ st h=>wpAny_pyIter_rangeiter st h
section
variable {X:Cx}{tg:Expr}
theorem YY {pins:List (Addr×Obj)}{σ:St}{H:Hp}{s:Ai}{R:It->Hp->Prop}{E:Ae->Ai->Prop}{lo hi:Int}{t u v:Tok}{tk:Nat} (I:Inv X pins σ H s) (h1:-(2 ^ 62)<=lo) (h2:lo < 2 ^ 62) (h3:-(2 ^ 62)<=hi) (h4:hi < 2 ^ 62)
  (q:R (N5 lo (hi - lo).toNat) H):Al (Ay X.prog X.w) X.A (pyIter (.ref s.heap.objs.size)) (US X pins σ tg R) E { s with heap:=s.heap.push { cls:=.type "range",data:=.fields #[.int lo t,.int hi u,.int 1 v] },toks:=tk }:=by
 refine wpAny_pyIter_range (IsRange.new ..) (small_one h1 h2 h3 h4) ?_;have I1:Inv X pins σ H { s with heap:=s.heap.push { cls:=.type "range",data:=.fields #[.int lo t,.int hi u,.int 1 v] },toks:=tk }:=I.kept λ b o e=>Ba _ e;refine ⟨(s.heap.push { cls:=.type "range",data:=.fields #[.int lo t,.int hi u,.int 1 v] }).objs.size,[(s.heap.push { cls:=.type "range",data:=.fields #[.int lo t,.int hi u,.int 1 v] }).objs.size],_,_,H,rfl,
  I1.kept (t':=tk) λ b o e=>Ba _ e,fX _ lo (hi - lo).toNat,?_,λ b hb=>?_,q⟩
 ·have e1:lo + ((0:Nat):Int) * 1=lo:=by simp
  have e2:(((hi - lo).toNat:Nat):Int) - ((0:Nat):Int)=Builtin.Range.rangeSize lo hi 1:=by rw [rangeSize_one];split <;> omega
  show OB _ _ (lo + ((0:Nat):Int) * 1) ((((hi - lo).toNat:Nat):Int) - ((0:Nat):Int)) 1;rw [e1,e2];exact BA _ rfl
 ·have e:b=(s.heap.push { cls:=.type "range",data:=.fields #[.int lo t,.int hi u,.int 1 v] }).objs.size:=by simpa using hb
  subst e;exact I1.fpOk (A5 _) (I1.hok.fresh (A5 _))
def Ws (ta:TA):TI:=λ σ H R=>ta σ H λ vs H1=>∃ j:Int,vs=[.int j]/\-(2 ^ 62)<=j/\j < 2 ^ 62/\R (N5 0 j.toNat) H1
def Wt (ta:TA):TI:=λ σ H R=>ta σ H λ vs H1=>∃ i j:Int,vs=[.int i,.int j]/\(-(2 ^ 62)<=i/\i < 2 ^ 62/\-(2 ^ 62)<=j/\j < 2 ^ 62)/\R (N5 i (j - i).toNat) H1
theorem dZ {a:Expr}{ta:TA}{p pos:Pos} (hg:Gl X "range") (hm:X.mg "range" = none) (ha:PA X [a] ta) (hs:Bt [a] X.env=[(false,eval a X.env)]:=by rfl):PI X tg (.Call (.Name "range" p) [a] [] pos) (Ws ta):=by
 intro pins s σ H R I h;refine Call_ (Gq I hg hm boot_range (HR (A2 (ha pos pins s σ H _ I h) λ us s1 ⟨vs,H1,I1,r1,q1⟩=>?_) hs rfl));obtain ⟨j,e,q1,q2,q⟩:=q1;subst e;cases r1 with
 | cons r rr=>
  cases rr;obtain ⟨t,rfl⟩:=r;exact call_range_1 (YY I1 (by omega) (by omega) q1 q2 (by simpa using q))
theorem fc {a b:Expr}{ta:TA}{p pos:Pos} (hg:Gl X "range") (hm:X.mg "range" = none) (ha:PA X [a,b] ta) (hs:Bt [a,b] X.env=[(false,eval a X.env),(false,eval b X.env)]:=by rfl) (hs2:Bt [b] X.env=[(false,eval b X.env)]:=by rfl):
  PI X tg (.Call (.Name "range" p) [a,b] [] pos) (Wt ta):=by
 intro pins s σ H R I h;refine Call_ (Gq I hg hm boot_range (HR (A2 (ha pos pins s σ H _ I h) λ us s1 ⟨vs,H1,I1,r1,q1⟩=>?_) (by rw [hs,hs2]) (by rw [hs2];rfl)));obtain ⟨i,j,e,⟨q1,q2,q3,q4⟩,q⟩:=q1;subst e;cases r1 with
 | cons r rr=>
  cases rr with
  | cons r' rr=>
   cases rr;obtain ⟨t,rfl⟩:=r;obtain ⟨t',rfl⟩:=r';exact call_range_2 (YY I1 q1 q2 q3 q4 q)
def Ft (wi:TI) (g:TG) (tb:TS):TS:=λ D σ H=>wi σ H λ J H1=>∃ W:Nat->Nat->St->Hp->Prop,(∃ m,W 0 m σ H1)/\∀ i m σ H,W i m σ H ->
 (J.stop i H/\D.nx σ H)\/(J.go i H/\∃ N:St->Hp->Prop,(∀ σ' H',N σ' H'->∃ m',m' < m/\W (i + 1) m' σ' H')/\∀ x H',J.yld i H x H'->g x σ H' λ σ2 H2=>tb { D with nx:=N,ct:=N,bk:=D.nx } σ2 H2)
def MJ (fp:List Addr) (h:Heap):List (Addr×Obj):=fp.filterMap λ b=>(h.get? b).map λ o=>(b,o)
theorem Oc {fp:List Addr}{h:Heap}{b:Addr}{o:Obj} (hb:b∈fp) (e:h.get? b=some o):(b,o)∈MJ fp h:=jn5.mpr ⟨b,hb,by rw [e];rfl⟩
theorem dW {fp:List Addr}{h:Heap}{p:Addr×Obj} (hp:p∈MJ fp h):p.1∈fp/\h.get? p.1=some p.2:=by
 obtain ⟨b,hb,e⟩:=jn5.mp hp;cases q:h.get? b with
 | none=>rw [q] at e;cases e
 | some o=>
  rw [q] at e;have e':(b,o)=p:=Option.some.inj e;subst e';exact ⟨hb,q⟩
theorem Inv.pinned {pins:List (Addr×Obj)}{σ:St}{H:Hp}{s:Ai}{fp:List Addr} (I:Inv X pins σ H s) (hf:∀ b∈fp,Cg X pins H b) (ho:∀ b∈fp,∃ o,s.heap.get? b=some o/\∀ v,o.data≠.cell v):Inv X (pins++MJ fp s.heap) σ H s:=
 I.pins_of λ p hp=>(jh5.mp hp).elim (λ z=>I.pin p (CL _ z)) λ z=>by
  obtain ⟨hb,e⟩:=dW z;obtain ⟨f0,f1,f2,_⟩:=hf p.1 hb;obtain ⟨o,e',d⟩:=ho p.1 hb;rw [e] at e';cases e';exact ⟨e,f0,f1,f2,d⟩
theorem Inv.unpinned {pins pl:List (Addr×Obj)}{σ:St}{H:Hp}{s:Ai} (I:Inv X (pins++pl) σ H s):Inv X pins σ H s:=I.pins_of λ p hp=>I.pin p (CL _ (Jb _ hp))
theorem P6 {iter:Expr}{body:List Stmt}{wi:TI}{g:TG}{tb:TS}{pos:Pos} (hp:PassesOwn (Ay X.prog X.w) X.A X.env X.xe) (hc:X.calm=true) (hi:PI X tg iter wi) (hg:PG X tg g) (hb:Fj X body tb)
  (hs:∀ x,OM iter X.env x=pure x:=by intro _;rfl):PS X (.For tg iter body [] pos) (Ft wi g tb):=by
 intro pins s σ H D I h;refine wpAny_For (A2 (hi pins s σ H _ I h) λ v s1 h1=>A2 h1 λ itv s2 h2=>?_) hs;obtain ⟨it,fp,tn,J,H2,e,I2,T,st2,f2,W,⟨m0,w0⟩,turn⟩:=h2;subst e;have stat:∀ {H':Hp},(∀ b∈fp,H' b=none)->∀ b∈fp,Cg X pins H' b:=λ hn b hb=>⟨hn b hb,(f2 b hb).2⟩
 refine codeAny_forLoop_any (λ n s'=>∃ i σ' H',Inv X pins σ' H' s'/\tn i s'.heap/\(∀ b∈fp,H' b=none)/\W i n σ' H') ?_ m0 ⟨0,σ,H2,I2,st2,λ b hb=>(f2 b hb).1,w0⟩;rintro n s3 ⟨i,σ3,H3,I3,st3,fr3,w3⟩;rcases turn i n σ3 H3 w3 with ⟨stop,qn⟩ | ⟨go,N,hN,step⟩
 ·refine Mf hp (A2 (T.done X rfl rfl rfl hc i pins s3 σ3 H3 X.xe I3 (stat fr3) st3 stop) λ r s4 ⟨hr,I4⟩=>?_);subst hr;exact Rw ⟨σ3,H3,I4,qn⟩
 ·refine Mf hp (A2 (T.item X rfl rfl rfl hc i pins s3 σ3 H3 X.xe I3 (stat fr3) st3 go) λ r s4 ⟨u,hr,h4⟩=>?_);subst hr;refine Mf hp (A2 h4 λ _ s5 ⟨x,H5,I5,r5,y5,st5,fr5⟩=>?_);have I5':=I5.pinned (stat fr5) (T.obj _ _ st5);refine Mf hp (A2 (hg _ s5 σ3 H5 x u _ I5' r5 (step x H5 y5)) λ _ s6 ⟨σ6,H6,I6,q6⟩=>?_);refine Mf hp (A2 (hb _ s6 σ6 H6 _ I6 q6) λ f s7 q7=>?_);have again:∀ {σ7:St}{H7:Hp},Inv X (pins++MJ fp s5.heap) σ7 H7 s7->N σ7 H7->∃ m,m < n/\∃ i σ' H',Inv X pins σ' H' s7/\tn i s7.heap/\(∀ b∈fp,H' b=none)/\W i m σ' H':=λ {σ7 H7} I7 n7=>by
   obtain ⟨m',hm,w7⟩:=hN σ7 H7 n7;refine ⟨m',hm,i + 1,σ7,H7,I7.unpinned,T.keep _ _ _ st5 λ b hb o e=>(I7.pin (b,o) (CL _ (CL _ (Oc hb e)))).1,λ b hb=>?_,w7⟩;obtain ⟨o,e,d⟩:=T.obj _ _ st5 b hb;exact (I7.pin (b,o) (CL _ (CL _ (Oc hb e)))).2.1
  cases f with
  | next=>obtain ⟨σ7,H7,I7,n7⟩:=q7;exact again I7 n7
  | cont=>obtain ⟨σ7,H7,I7,n7⟩:=q7;exact again I7 n7
  | brk=>obtain ⟨σ7,H7,I7,q7⟩:=q7;exact ⟨σ7,H7,I7.unpinned,q7⟩
  | ret v=>obtain ⟨x7,σ7,H7,I7,r7,q7⟩:=q7;exact ⟨x7,σ7,H7,I7.unpinned,r7,q7⟩
end
abbrev R2:=V->V->Hp->VK->Prop
def OpR (X:Cx) (f:Ae->Ae->Sem Ae) (r:R2):Prop:=
 ∀ (pins:List (Addr×Obj)) (s:Ai) (σ:St) (H:Hp) (x y:V) (v u:Ae) (Q:VK),Inv X pins σ H s->RelV x v->RelV y u->r x y H Q ->
  Al (Ay X.prog X.w) X.A (f v u) (EP X pins σ Q) X.xe s
def UR (X:Cx) (f:Ae->Sem Ae) (r:V->Hp->VK->Prop):Prop:=
 ∀ (pins:List (Addr×Obj)) (s:Ai) (σ:St) (H:Hp) (x:V) (v:Ae) (Q:VK),Inv X pins σ H s->RelV x v->r x H Q ->
  Al (Ay X.prog X.w) X.A (f v) (EP X pins σ Q) X.xe s
def zzw (X:Cx) (f:Ae) (r:List V->Hp->VK->Prop):Prop:=
 ∀ (pins:List (Addr×Obj)) (s:Ai) (σ:St) (H:Hp) (xs:List V) (us:List Ae) (Q:VK),Inv X pins σ H s->Vals xs us->r xs H Q ->
  Al (Ay X.prog X.w) X.A (call f us) (EP X pins σ Q) X.xe s
def J6 (r:R2) (ta tb:TE):TE:=λ σ H Q=>ta σ H λ x H1=>tb σ H1 λ y H2=>r x y H2 Q
def RV (r:V->Hp->VK->Prop) (ta:TE):TE:=λ σ H Q=>ta σ H λ x H1=>r x H1 Q
def rI (C:Int->Int->Prop) (g:Int->Int->V):R2:=λ x y H Q=>∃ i j,x=.int i/\y=.int j/\C i j/\Q (g i j) H
def FX (g:Int->Int->V):R2:=λ x y H Q=>∃ i j,x=.int i/\y=.int j/\Q (g i j) H
def rU (g:Int->V):V->Hp->VK->Prop:=λ x H Q=>∃ i,x=.int i/\Q (g i) H
section
variable {X:Cx}{a b c:Expr}{ta tb tc:TE}{pos:Pos}
theorem Kc (ha:PE X a ta) (hb:PE X b tb) {pins:List (Addr×Obj)}{s:Ai}{σ:St}{H:Hp}{R:V->V->Hp->Prop} (I:Inv X pins σ H s)
  (h:ta σ H λ x H1=>tb σ H1 λ y H2=>R x y H2) {Q:Ae->Ai->Prop}{f:Ae->Ae->Sem Ae}
  (hf:∀ v u s2 x y H2,Inv X pins σ H2 s2->RelV x v->RelV y u->R x y H2->Al (Ay X.prog X.w) X.A (f v u) Q X.xe s2):
  Al (Ay X.prog X.w) X.A (eval a X.env) (λ v s₁=>Al (Ay X.prog X.w) X.A (eval b X.env) (λ u s₂=>Al (Ay X.prog X.w) X.A (f v u) Q X.xe s₂) X.xe s₁) X.xe s:=by
 refine A2 (ha pins s σ H _ I h) λ v s1 ⟨x,H1,I1,r1,q1⟩=>?_;refine A2 (hb pins s1 σ H1 _ I1 q1) λ u s2 ⟨y,H2,I2,r2,q2⟩=>?_;exact hf v u s2 x y H2 I2 r1 r2 q2
theorem Ss {op:HI}{r:R2} (ho:OpR X (EA op) r) (ha:PE X a ta) (hb:PE X b tb):PE X (.BinOp a op b pos) (J6 r ta tb):=by
 intro pins s σ H Q I h;exact wpAny_BinOp (Kc ha hb I h λ v u s2 x y H2 I2 rx ry q=>ho pins s2 σ H2 x y v u Q I2 rx ry q)
theorem j5 {op:UnaryOp}{r:V->Hp->VK->Prop} (ho:UR X (unaryOp op) r) (ha:PE X a ta):PE X (.UnaryOp op a pos) (RV r ta):=by
 intro pins s σ H Q I h;exact UnaryOp_ (A2 (ha pins s σ H _ I h) λ v s1 ⟨x,H1,I1,r1,q1⟩=>ho pins s1 σ H1 x v Q I1 r1 q1)
theorem MV {f:Ae->Ae->Sem Ae}{C:Int->Int->Prop}{g:Int->Int->Int}
  (rule:∀ (i j:Int) (t u:Tok) (s:Ai) (Q:Ae->Ai->Prop) (E:Ae->Ai->Prop),C i j->Q (.int (g i j) s.toks) { s with toks:=s.toks + 1 }->Al (Ay X.prog X.w) X.A (f (.int i t) (.int j u)) Q E s):
  OpR X f (rI C λ i j=>.int (g i j)):=by
 intro pins s σ H x y v u Q I rx ry h;obtain ⟨i,j,rfl,rfl,hc,q⟩:=h;obtain ⟨t,rfl⟩:=rx;obtain ⟨t',rfl⟩:=ry;exact rule i j t t' s _ _ hc ⟨.int (g i j),H,I.tok _,⟨_,rfl⟩,q⟩
theorem T6 {f:Ae->Ae->Sem Ae}{g:Int->Int->Int}
  (rule:∀ (i j:Int) (t u:Tok) (s:Ai) (Q:Ae->Ai->Prop) (E:Ae->Ai->Prop),Q (.int (g i j) s.toks) { s with toks:=s.toks + 1 }->Al (Ay X.prog X.w) X.A (f (.int i t) (.int j u)) Q E s):
  OpR X f (FX λ i j=>.int (g i j)):=by
 intro pins s σ H x y v u Q I rx ry h;obtain ⟨i,j,rfl,rfl,q⟩:=h;obtain ⟨t,rfl⟩:=rx;obtain ⟨t',rfl⟩:=ry;exact rule i j t t' s _ _ ⟨.int (g i j),H,I.tok _,⟨_,rfl⟩,q⟩
theorem Ia {f:Ae->Ae->Sem Ae}{g:Int->Int->Bool}
  (rule:∀ (i j:Int) (t u:Tok) (s:Ai) (Q:Ae->Ai->Prop) (E:Ae->Ai->Prop),Q (.bool (g i j)) s->Al (Ay X.prog X.w) X.A (f (.int i t) (.int j u)) Q E s):
  OpR X f (FX λ i j=>.bl (g i j)):=by
 intro pins s σ H x y v u Q I rx ry h;obtain ⟨i,j,rfl,rfl,q⟩:=h;obtain ⟨t,rfl⟩:=rx;obtain ⟨t',rfl⟩:=ry;exact rule i j t t' s _ _ ⟨.bl (g i j),H,I,rfl,q⟩
def NA (i j:Int):Prop:=0<=j/\j<=1000000/\i.natAbs < 2 ^ 64
def CMul (i j:Int):Prop:=(-(2 ^ 64) < i/\i < 2 ^ 64)\/(-(2 ^ 64) < j/\j < 2 ^ 64)
theorem CMul.ok {i j:Int} (h:CMul i j):IntMulOk i j:=by
 rcases h with ⟨h1,h2⟩ | ⟨h1,h2⟩
 ·exact .of_left (intBits_le_64 h1 h2)
 ·exact .of_right (intBits_le_64 h1 h2)
theorem qtp:OpR X (EA .Add) (FX λ i j=>.int (i + j)):=T6 λ _ _ _ _ _ _ _ q=>add_int q
theorem qtd:OpR X (EA .Mult) (rI CMul λ i j=>.int (i * j)):=MV λ _ _ _ _ _ _ _ hc q=>mul_int q hc.ok
theorem kQ:OpR X (EA .Mod) (rI (λ _ j=>0 < j) λ i j=>.int (i % j)):=MV λ i j _ _ _ _ _ hc q=>by
 have h1:(0:Int) < j:=hc;exact mod_int' (by omega) (by rw [Int.fmod_eq_emod_of_nonneg i (by omega)];exact q)
theorem kS:OpR X (EA .Pow) (rI NA λ i j=>.int (i ^ j.toNat)):=MV λ _ _ _ _ _ _ _ hc q=>pow_int_small hc.1 hc.2.1 hc.2.2 q
theorem zH {f:Ae->Sem Ae}{g:Int->Int}
  (rule:∀ (i:Int) (t:Tok) (s:Ai) (Q:Ae->Ai->Prop) (E:Ae->Ai->Prop),Q (.int (g i) s.toks) { s with toks:=s.toks + 1 }->Al (Ay X.prog X.w) X.A (f (.int i t)) Q E s):
  UR X f (rU λ i=>.int (g i)):=by
 intro pins s σ H x v Q I rx h;obtain ⟨i,rfl,q⟩:=h;obtain ⟨t,rfl⟩:=rx;exact rule i t s _ _ ⟨.int (g i),H,I.tok _,⟨_,rfl⟩,q⟩
theorem wx:UR X (unaryOp .USub) (rU λ i=>.int (-i)):=zH λ _ _ _ _ _ q=>neg_int q
end
def Sa:V->V->Bool
 | .non,.non=>true | .non,.int _=>true | .int _,.non=>true | .non,.bl _=>true | .bl _,.non=>true | .non,.str _=>true | .str _,.non=>true
 | .int _,.int _=>true | .bl _,.bl _=>true | .str _,.str _=>true | .byt _,.byt _=>true
 | .int _,.str _=>true | .str _,.int _=>true | .bl _,.str _=>true | .str _,.bl _=>true
 | _,_=>false
def zL:R2:=λ x y H Q=>Sa x y=true/\Q (.bl (decide (x=y))) H
theorem XJ {i j:Int}:decide (V.int i=V.int j)=(i == j):=by
 rw [Ed];simp
theorem jW {i j:Bool}:decide (V.bl i=V.bl j)=(i == j):=by
 rw [Ed];simp
theorem wZ {i j:Str}:decide (V.str i=V.str j)=(i == j):=by
 rw [Ed];simp
theorem wY {i j:Array UInt8}:decide (V.byt i=V.byt j)=(i.toList == j.toList):=by
 rw [Ed];cases i;cases j;simp
section
variable {X:Cx}{a b c:Expr}{ta tb tc:TE}{pos:Pos}
theorem DR {pins:List (Addr×Obj)}{σ:St}{H:Hp}{s:Ai}{Q:VK}{k k':Bool} (I:Inv X pins σ H s) (q:Q (.bl k) H) (e:k=k'):EP X pins σ Q (.bool k') s:=by
 subst e;exact ⟨.bl k,H,I,rfl,q⟩
theorem jz:OpR X (Cc .Eq) zL:=by
 intro pins s σ H x y v u Q I rx ry h;obtain ⟨hs,q⟩:=h;cases x with
 | non=>
  cases rx;cases y with
  | non=>cases ry;exact PySem.EqNone.eq_none_none (DR I q (by simp))
  | bl j=>cases ry;exact PySem.EqNone.eq_none_bool (DR I q (by simp))
  | int j=>obtain ⟨t',rfl⟩:=ry;exact PySem.EqNone.eq_none_int (DR I q (by simp))
  | str j=>obtain ⟨t',rfl⟩:=ry;exact PySem.EqNone.eq_none_str (DR I q (by simp))
  | _=>exact absurd (show false=true from hs) Ce
 | bl i=>
  cases rx;cases y with
  | non=>cases ry;exact PySem.EqNone.eq_bool_none (DR I q (by simp))
  | bl j=>cases ry;exact eq_bool (DR I q jW)
  | str j=>obtain ⟨t',rfl⟩:=ry;exact PySem.EqMixed.eq_bool_str (DR I q (by simp))
  | _=>exact absurd (show false=true from hs) Ce
 | int i=>
  obtain ⟨t,rfl⟩:=rx;cases y with
  | non=>cases ry;exact PySem.EqNone.eq_int_none (DR I q (by simp))
  | int j=>obtain ⟨t',rfl⟩:=ry;exact eq_int (DR I q XJ)
  | str j=>obtain ⟨t',rfl⟩:=ry;exact PySem.EqMixed.eq_int_str (DR I q (by simp))
  | _=>exact absurd (show false=true from hs) Ce
 | str i=>
  obtain ⟨t,rfl⟩:=rx;cases y with
  | non=>cases ry;exact PySem.EqNone.eq_str_none (DR I q (by simp))
  | bl j=>cases ry;exact PySem.EqMixed.eq_str_bool (DR I q (by simp))
  | int j=>obtain ⟨t',rfl⟩:=ry;exact PySem.EqMixed.eq_str_int (DR I q (by simp))
  | str j=>obtain ⟨t',rfl⟩:=ry;exact eq_str (DR I q wZ)
  | _=>exact absurd (show false=true from hs) Ce
 | byt i=>
  obtain ⟨t,rfl⟩:=rx;cases y with
  | byt j=>obtain ⟨t',rfl⟩:=ry;exact PySem.W.eq_bytes (DR I q wY)
  | _=>exact absurd (show false=true from hs) Ce
 | _=>cases y <;> exact absurd (show false=true from hs) Ce
theorem W4:OpR X (Cc .Lt) (FX λ i j=>.bl (decide (i < j))):=Ia λ _ _ _ _ _ _ _ q=>lt_int q
theorem W3:OpR X (Cc .LtE) (FX λ i j=>.bl (decide (i<=j))):=Ia λ _ _ _ _ _ _ _ q=>le_int q
theorem W2:OpR X (Cc .Gt) (FX λ i j=>.bl (decide (j < i))):=Ia λ _ _ _ _ _ _ _ q=>gt_int q
theorem Wz:OpR X (Cc .GtE) (FX λ i j=>.bl (decide (j<=i))):=Ia λ _ _ _ _ _ _ _ q=>ge_int q
theorem kN:OpR X (Cc .Is) (λ x y H Q=>y=.non/\Q (.bl (decide (x=.non))) H):=by
 intro pins s σ H x y v u Q I rx ry h;obtain ⟨rfl,q⟩:=h;cases ry;refine is_none_gen (DR I q ?_);cases x <;> first
  | (cases rx;rfl)
  | (obtain ⟨t,rfl⟩:=rx;rfl)
theorem yF:OpR X (Cc .IsNot) (λ x y H Q=>y=.non/\Q (.bl (!decide (x=.non))) H):=by
 intro pins s σ H x y v u Q I rx ry h;obtain ⟨rfl,q⟩:=h;cases ry;refine isnot_none_gen (DR I q ?_);cases x <;> first
  | (cases rx;rfl)
  | (obtain ⟨t,rfl⟩:=rx;rfl)
theorem OpR.or {f:Ae->Ae->Sem Ae}{r r':R2} (h:OpR X f r) (h':OpR X f r'):OpR X f (λ x y H Q=>r x y H Q\/r' x y H Q):=by
 intro pins s σ H x y v u Q I rx ry q;rcases q with q | q
 ·exact h pins s σ H x y v u Q I rx ry q
 ·exact h' pins s σ H x y v u Q I rx ry q
theorem ux {op:CmpOp}{r:R2} (ho:OpR X (Cc op) r) (ha:PE X a ta) (hb:PE X b tb) (hm:J1 op b=false):PE X (.Compare a [op] [b] pos) (J6 r ta tb):=by
 intro pins s σ H Q I h;exact wpAny_Compare1 (Kc ha hb I h λ v u s2 x y H2 I2 rx ry q=>ho pins s2 σ H2 x y v u Q I2 rx ry q) hm
def WD (t:TE):TT:=λ σ H Q=>t σ H λ x H'=>∃ k,x=.bl k/\Q k H'
theorem yT {op:CmpOp}{r:R2} (ho:OpR X (Cc op) r) (ha:PE X a ta) (hb:PE X b tb) (hm:J1 op b=false):PT X (.Compare a [op] [b] pos) (WD (J6 r ta tb)):=by
 intro pins s σ H Q I h;refine wpAny_isTrue_Compare1 (A2 (ha pins s σ H _ I h) λ v s1 ⟨x,H1,I1,r1,q1⟩=>A2 (hb pins s1 σ H1 _ I1 q1) λ u s2 ⟨y,H2,I2,r2,q2⟩=>
  A2 (ho pins s2 σ H2 x y v u _ I2 r1 r2 q2) λ c s3 ⟨z,H3,I3,r3,k,e,q3⟩=>?_) hm
 subst e;cases r3;exact HN ⟨H3,I3,q3⟩
def SU (r r':R2) (ta tb tc:TE):TE:=λ σ H Q=>ta σ H λ x H1=>tb σ H1 λ y H2=>r x y H2 λ z H3=>∃ k,z=.bl k /\
 (if k=true then tc σ H3 λ w' H4=>r' y w' H4 Q else Q (.bl false) H3)
theorem bM {op op':CmpOp}{r r':R2} (ho:OpR X (Cc op) r) (ho':OpR X (Cc op') r') (ha:PE X a ta) (hb:PE X b tb) (hc:PE X c tc)
  (hm:lastMarks [op,op'] [b,c]=false:=by with_unfolding_all rfl):PE X (.Compare a [op,op'] [b,c] pos) (SU r r' ta tb tc):=by
 intro pins s σ H Q I h;refine Compare_chain (A2 (ha pins s σ H _ I h) λ v s1 ⟨x,H1,I1,r1,q1⟩=>chain_link (A2 (hb pins s1 σ H1 _ I1 q1) λ u s2 ⟨y,H2,I2,r2,q2⟩=>
  A2 (ho pins s2 σ H2 x y v u _ I2 r1 r2 q2) λ d s3 ⟨z,H3,I3,r3,k,e,q3⟩=>?_)) hm
 subst e;cases r3;refine HN ?_;cases k with
 | false=>exact ite_ff ⟨.bl false,H3,I3,rfl,q3⟩
 | true=>exact ite_tt (chain_last (A2 (hc pins s3 σ H3 _ I3 q3) λ w' s4 ⟨z',H4,I4,r4,q4⟩=>ho' pins s4 σ H4 y z' u w' Q I4 r2 r4 q4))
theorem bf {op op':CmpOp}{r r':R2} (ho:OpR X (Cc op) r) (ho':OpR X (Cc op') r') (ha:PE X a ta) (hb:PE X b tb) (hc:PE X c tc)
  (hm:lastMarks [op,op'] [b,c]=false:=by with_unfolding_all rfl):PT X (.Compare a [op,op'] [b,c] pos) (WD (SU r r' ta tb tc)):=by
 intro pins s σ H Q I h;refine isTrue_chain (A2 (ha pins s σ H _ I h) λ v s1 ⟨x,H1,I1,r1,q1⟩=>test_link (A2 (hb pins s1 σ H1 _ I1 q1) λ u s2 ⟨y,H2,I2,r2,q2⟩=>
  A2 (ho pins s2 σ H2 x y v u _ I2 r1 r2 q2) λ d s3 ⟨z,H3,I3,r3,k,e,q3⟩=>?_)) hm
 subst e;cases r3;refine HN ?_;cases k with
 | false=>
  obtain ⟨k',e',q'⟩:=q3;cases e';exact ite_ff ⟨H3,I3,q'⟩
 | true=>
  refine ite_tt (test_last (A2 (hc pins s3 σ H3 _ I3 q3) λ w' s4 ⟨z',H4,I4,r4,q4⟩=>A2 (ho' pins s4 σ H4 y z' u w' _ I4 r2 r4 q4) λ d' s5 ⟨z2,H5,I5,r5,k2,e2,q5⟩=>?_));subst e2;cases r5;exact HN ⟨H5,I5,q5⟩
theorem Ju:(Au:Nat) < 2 ^ 63:=by rw [sizeLine_eq];decide
theorem fK:OpR X (EA .Add) (λ x y H Q=>∃ i j,x=.str i/\y=.str j/\i.length + j.length<=Au/\Q (.str (i++j)) H):=by
 intro pins s σ H x y v u Q I rx ry h;obtain ⟨i,j,rfl,rfl,hz,q⟩:=h;obtain ⟨t,rfl⟩:=rx;obtain ⟨t',rfl⟩:=ry;exact add_str (λ t' tk=>⟨.str (i++j),H,I.tok _,⟨_,rfl⟩,q⟩) hz
theorem hV:OpR X (inplaceOp .Add) (λ x y H Q=>∃ i j,x=.str i/\y=.str j/\i.length + j.length<=Au/\Q (.str (i++j)) H):=by
 intro pins s σ H x y v u Q I rx ry h;obtain ⟨i,j,rfl,rfl,hz,q⟩:=h;obtain ⟨t,rfl⟩:=rx;obtain ⟨t',rfl⟩:=ry;exact iadd_str (λ t' tk=>⟨.str (i++j),H,I.tok _,⟨_,rfl⟩,q⟩) hz
theorem FU {x:V}{us:List Ae} (r:Vals [x] us):∃ u,us=[u]/\RelV x u:=by
 cases r with
 | cons r1 r2=>cases r2;exact ⟨_,rfl,r1⟩
theorem Sv {x y:V}{us:List Ae} (r:Vals [x,y] us):∃ u w',us=[u,w']/\RelV x u/\RelV y w':=by
 cases r with
 | cons r1 r2=>
  cases r2 with
  | cons r3 r4=>cases r4;exact ⟨_,_,rfl,r1,r3⟩
theorem bU (hc:X.calm=true):zzw X (.builtin "max") (λ xs H Q=>∃ i j,xs=[.int i,.int j]/\Q (.int (if j > i then j else i)) H):=by
 intro pins s σ H xs us Q I r h;obtain ⟨i,j,rfl,q⟩:=h;obtain ⟨u,w',rfl,⟨t,rfl⟩,⟨t',rfl⟩⟩:=Sv r;refine max_two_ints (I.ok.hd hc) λ h' tk k=>⟨_,H,I.kept k,?_,q⟩
 by_cases hj:j > i
 ·rw [if_pos hj,if_pos hj];exact ⟨_,rfl⟩
 ·rw [if_neg hj,if_neg hj];exact ⟨_,rfl⟩
theorem bX (hc:X.calm=true):zzw X (.builtin "min") (λ xs H Q=>∃ i j,xs=[.int i,.int j]/\Q (.int (if j < i then j else i)) H):=by
 intro pins s σ H xs us Q I r h;obtain ⟨i,j,rfl,q⟩:=h;obtain ⟨u,w',rfl,⟨t,rfl⟩,⟨t',rfl⟩⟩:=Sv r;refine min_two_ints (I.ok.hd hc) λ h' tk k=>⟨_,H,I.kept k,?_,q⟩
 by_cases hj:j < i
 ·rw [if_pos hj,if_pos hj];exact ⟨_,rfl⟩
 ·rw [if_neg hj,if_neg hj];exact ⟨_,rfl⟩
end
structure ObjM (h:Heap) (x dx C:Addr) (mA:Str->Option Ae):Prop where
 obj:h.get? x=some (Rr C dx)
 ns:h.Ns1 dx mA
 ne:dx≠x
theorem fg {h:Heap}{dx:Addr}{mA:Str->Option Ae} (n:h.Ns1 dx mA):∃ od,h.get? dx=some od/\∀ name,Ro name od=some (mA name):=by
 obtain ⟨o,es,ep,ho,hd,hk,_,hm⟩:=n;refine ⟨o,ho,λ name=>?_⟩;have e:=hm name;unfold nsFind findBy at e;rw [<- Array.find?_toList] at e;unfold Ro;rw [hd];dsimp only;split
 ·rename_i y q;rw [q] at e;exact congrArg some e
 ·rename_i q;rw [q] at e;have a:es.toList.any (·.refKey)=false:=by
   rw [List.any_eq_false];intro y hy;obtain ⟨z,t,hkey⟩:=hk y (Array.mem_toList_iff.mp hy);simp [DictEntry.refKey,hkey]
  have a':¬ es.toList.any (·.refKey)=true:=by rw [a];exact Ce
  rw [if_neg a'];exact congrArg some e
theorem ObjM.look {h:Heap}{x dx C:Addr}{mA:Str->Option Ae} (I:ObjM h x dx C mA):∃ od,PySem.W.InstAt h x (Rr C dx) C (some od)/\∀ name,Ro name od=some (mA name):=
 let ⟨od,ho,hl⟩:=fg I.ns
 ⟨od,⟨I.obj,rfl,rfl,ho⟩,hl⟩
section
variable {prog:AB}{w:A9}{A:Bi}{E:Ae->Ai->Prop}{s:Ai}{K:PySem.W.Frag}{x dx C f:Addr}{mA:Str->Option Ae}{name:Str}{v:Ae}
end
theorem RelO.some_of {v:V}{o:Option Ae} (r:RelO (some v) o):∃ u,o=some u/\RelV v u:=by
 cases o with
 | none=>exact (show False from r).elim
 | some u=>exact ⟨u,rfl,r⟩
section
variable {P:AB}{w:A9}{H H':Hp}{h h':Heap}{a C dx:Addr}{fs fs':List (Str×V)}
theorem yn (hok:HOk P w H h) (e:H a=some (.ins C dx fs)):∃ mA,ObjM h a dx C mA/\(∀ f,RelO (fs.lookup f) (mA f))/\PySem.Within mA (fs.map (·.1))/\fs.length<=1000/\H dx=some (.own a):=by
 obtain ⟨d,z,ne,ob,mA,n,r,q⟩:=(show zxk P w H h a (.ins C dx fs) from hok a _ e)
 exact ⟨mA,⟨ob,n,ne⟩,r,q,z,d⟩
end
structure Cls (K:PySem.W.Frag) (C:Addr):Prop where
 pg:PySem.W.plainGet K C Str.empty=true
 hd:PySem.W.hasDictIn K C=true
 po:PySem.W.plainOver K C=true
 sa:IH K (.ref C) "__setattr__" = some (some (.builtin "object.__setattr__"))
theorem Cls.get {K:PySem.W.Frag}{C:Addr} (c:Cls K C) (f:Str):PySem.W.plainGet K C f=true:=c.pg
structure Con (K:PySem.W.Frag) (C:Addr) (f:Str) (v:V) (u:Ae):Prop where
 at_:IH K (.ref C) f=some (some u)
 rel:RelV v u
 get:PySem.W.specialIn K u "__get__" = some none
 cp:PySem.W.copiedNames.contains f=false
structure Meth (K:PySem.W.Frag) (C:Addr) (m:Str) (f:Addr):Prop where
 at_:IH K (.ref C) m=some (some (.ref f))
 fn:PySem.W.isFn K (.ref f)=true
 kp:KN K (.ref f)=true
section
variable {X:Cx}{pins:List (Addr×Obj)}{σ:St}{H:Hp}{s:Ai}{a C dx:Addr}{fs:List (Str×V)}{f:Str}{v:V}{A:Bi}{E:Ae->Ai->Prop}
end
section
variable {X:Cx}{o e value:Expr}{f:Str}{pos pos' tpos:Pos}{ta tv:TE}
end
section
variable {X:Cx}{pins:List (Addr×Obj)}{σ:St}{H:Hp}{s:Ai}{A:Bi}{E:Ae->Ai->Prop}{Q:Ae->Ai->Prop}{c:Ae}{b:Bool}
inductive TyOf (K:PySem.W.Frag) (H:Hp):V->Ae->Prop where
 | non:TyOf K H .non (.type "NoneType")
 | bl (x:Bool):TyOf K H (.bl x) (.type "bool")
 | int (i:Int):TyOf K H (.int i) (.type "int")
 | str (x:Str):TyOf K H (.str x) (.type "str")
 | flt (x:UInt64):TyOf K H (.flt x) (.type "float")
 | lst {a:Addr}{xs:List V} (e:H a=some (.lst xs)):TyOf K H (.ref a) (.type "list")
 | frz {a:Addr}{o:Obj}{xs:List V} (e:H a=some (.frz o (.lst xs))):TyOf K H (.ref a) (.type "list")
 | tup {a:Addr}{xs:List V} (e:H a=some (.tup xs)):TyOf K H (.ref a) (.type "tuple")
 | dK {a:Addr}{kvs:List (A0×V)} (e:H a=some (.dK kvs)):TyOf K H (.ref a) (.type "dict")
 | dT {a:Addr}{kvs:List (List A0×V)} (e:H a=some (.dT kvs)):TyOf K H (.ref a) (.type "dict")
 | ins {a C dx:Addr}{fs:List (Str×V)} (e:H a=some (.ins C dx fs)) (cl:Cls K C) (ha:IH K (.ref C) "__class__" = some (some (.builtin "object.__class__")))
   (hn:PySem.W.specialIn K (.builtin "object.__class__") "__get__" = some (some (.builtin "getset_descriptor.__get__"))) (htk:PySem.W.takesIn K (.builtin "object.__class__")=some true)
   (hm:PySem.W.mroIn K C (.type "object")=some true):TyOf K H (.ref a) (.ref C)
theorem dH {x:V}{u t:Ae} (I:Inv X pins σ H s) (rx:RelV x u) (ty:TyOf X.K H x t) (e:II X.K t c=some b) (h:∀ tk,Q (.bool b) { s with toks:=tk }):
  Al (Ay X.prog X.w) A (call (.builtin "isinstance") [u,c]) Q E s:=by
 cases ty with
 | non=>cases (show u=Value.none from rx);exact Gx PySem.W.kitx_none I.kIn True.intro e (λ z=>nomatch z) h
 | bl y=>cases (show u=Value.bool y from rx);exact Gx PySem.W.kitx_bool I.kIn True.intro e (λ z=>nomatch z) h
 | int i=>obtain ⟨t,q⟩:=(show ∃ t,u=Value.int i t from rx);cases q;exact Gx PySem.W.kitx_int I.kIn True.intro e (λ z=>nomatch z) h
 | str y=>obtain ⟨t,q⟩:=(show ∃ t,u=Value.str y t from rx);cases q;exact Gx PySem.W.kitx_str I.kIn True.intro e (λ z=>nomatch z) h
 | flt y=>obtain ⟨t,q⟩:=(show ∃ t,u=Value.float y t from rx);cases q;exact Gx PySem.W.kitx_float I.kIn True.intro e (λ z=>nomatch z) h
 | @lst a xs ea=>
  cases (show u=Value.ref a from rx);obtain ⟨_,_,n,_,h1⟩:=(show zxk X.prog X.w H s.heap a (.lst xs) from I.hok a _ ea)
  exact Gx PySem.W.kitx_list I.kIn ⟨_,h1,rfl⟩ e (λ z=>nomatch z) h
 | @frz a ob xs ea=>
  cases (show u=Value.ref a from rx);obtain ⟨_,_,_,n,_,h1⟩:=(show zxk X.prog X.w H s.heap a (.frz ob (.lst xs)) from I.hok a _ ea)
  exact Gx PySem.W.kitx_list I.kIn ⟨_,h1,rfl⟩ e (λ z=>nomatch z) h
 | @tup a xs ea=>
  cases (show u=Value.ref a from rx);obtain ⟨_,_,_,p⟩:=(show zxk X.prog X.w H s.heap a (.tup xs) from I.hok a _ ea)
  obtain ⟨o,h1,h2,_⟩:=p;exact Gx PySem.W.kitx_tuple I.kIn ⟨o,h1,h2⟩ e (λ z=>nomatch z) h
 | @dK a kvs ea=>
  cases (show u=Value.ref a from rx);obtain ⟨_,_,vs,_,p⟩:=(show zxk X.prog X.w H s.heap a (.dK kvs) from I.hok a _ ea)
  obtain ⟨o,es,ep,h1,h2,_⟩:=p;exact Gx PySem.W.kitx_dict I.kIn ⟨o,h1,h2.1⟩ e (λ z=>nomatch z) h
 | @dT a kvs ea=>
  cases (show u=Value.ref a from rx);obtain ⟨_,_,xs,_,o,es,ep,h1,h2,_⟩:=(show zxk X.prog X.w H s.heap a (.dT kvs) from I.hok a _ ea)
  exact Gx PySem.W.kitx_dict I.kIn ⟨o,h1,h2.1⟩ e (λ z=>nomatch z) h
 | @ins a C dx fs ea cl ha hn htk hm=>
  cases (show u=Value.ref a from rx);obtain ⟨mA,O,_⟩:=yn I.hok ea;obtain ⟨od,J,_⟩:=O.look;exact Gx (PySem.W.kitx_own (cl.get _) cl.hd ha hn htk hm) I.kIn J e (λ z=>nomatch z) h
end
structure Room (k:Nat) (A:Bi):Prop where
 hd:A.handled=none
 dp:A.depth + 3 * k + 5 < recursionLimit
 un:A.units + 16 * k + 200 < Cv
 gd:A.guards=some []
theorem Room.mono {j k:Nat}{A:Bi} (r:Room k A) (h:j<=k):Room j A:=⟨r.hd,by have:=r.dp;omega,by have:=r.un;omega,r.gd⟩
theorem Room.deeper {k:Nat}{A:Bi} (r:Room (k + 1) A) (env:Env):Room k (A.deeper env):=
 ⟨r.hd,by have:=r.dp;show A.depth + 1 + 3 * k + 5 < _;omega,by have:=r.un;show A.units + 3 + 16 * k + 200 < _;omega,r.gd⟩
theorem Room.depth {k:Nat}{A:Bi} (r:Room k A):A.depth < recursionLimit:=by have:=r.dp;omega
theorem Room.units {k:Nat}{A:Bi} (r:Room k A):A.units + 64 < Cv:=by have:=r.un;omega
def HS:TA:=λ _ H Q=>Q [] H
def Pn (ta:TE) (tr:TA):TA:=λ σ H Q=>ta σ H λ x H1=>tr σ H1 λ xs H2=>Q (x::xs) H2
section
variable {X:Cx}{e:Expr}{es:List Expr}{te:TE}{t:TA}{pos:Pos}
theorem P5:PA X [] HS:=λ _ _ _ _ H Q I h=>Ry ⟨[],H,I,.nil,h⟩
theorem LH (ha:PE X e te) (hr:PA X es t) (hs:Bt (e::es) X.env=(false,eval e X.env)::Bt es X.env:=by rfl):PA X (e::es) (Pn te t):=by
 intro pos pins s σ H Q I h;rw [hs];show Al _ _ (spliced ((false,eval e X.env)::FV pos (Bt es X.env))) _ _ s;refine R7 (A2 (ha pins s σ H _ I h) λ u s1 ⟨x,H1,I1,r1,q1⟩=>?_);exact A2 (hr pos pins s1 σ H1 _ I1 q1) λ us s2 ⟨xs,H2,I2,r2,q2⟩=>⟨x::xs,H2,I2,.cons r1 r2,q2⟩
def RW (t:TA):TE:=λ σ H Q=>t σ H λ xs H1=>xs.length<=Au/\∀ p,H1 p=none->Q (.ref p) (Av H1 p (.tup xs))
def RX (t:TA):TE:=λ σ H Q=>t σ H λ xs H1=>xs.length<=Au/\∀ p,H1 p=none->Q (.ref p) (Av H1 p (.lst xs))
theorem vS {x1} (h:PA X es t):PE X (.Tuple es x1 pos) (RW t):=by
 intro pins s σ H Q I hq;refine wpAny_Tuple_spliced (A2 (h pos pins s σ H _ I hq) λ us s1 ⟨xs,H1,I1,r,z,q⟩=>⟨by rw [<- r.length];exact z,?_⟩);have hf:H1 s1.heap.objs.size=none:=I1.hok.fresh (A5 _);refine ⟨.ref s1.heap.objs.size,Av H1 s1.heap.objs.size (.tup xs),I1.laid (t':=s1.toks) (λ b u e=>Ba _ e) (A5 _) ?_,rfl,q _ hf⟩;exact ⟨z,us,r,⟨_,BA _ rfl,rfl,_,rfl⟩⟩
theorem vO (h:PA X es t):PE X (.List es pos) (RX t):=by
 intro pins s σ H Q I hq;refine wpAny_List_spliced (A2 (h pos pins s σ H _ I hq) λ us s1 ⟨xs,H1,I1,r,z,q⟩=>⟨by rw [<- r.length];exact z,?_⟩);have hf:H1 s1.heap.objs.size=none:=I1.hok.fresh (A5 _);refine ⟨.ref s1.heap.objs.size,Av H1 s1.heap.objs.size (.lst xs),I1.laid (t':=s1.toks) (λ b u e=>Ba _ e) (A5 _) ?_,rfl,q _ hf⟩;exact ⟨z,us,0,r,BA _ rfl⟩
end
abbrev Sp:=List V->Hp->VK->XK->Prop
abbrev Gg:=List Env->Hp->Ai->XK->Ae->Ai->Prop
structure Env0 (P:AB) (w:A9) (K:PySem.W.Frag) (mg:Str->Option Ae) (base:Heap) (A:Bi) (outer:List Env) (s:Ai) (H:Hp):Prop where
 frames:A.frames=some outer
 mod:Mod K mg base
 bs:∀ b o,base.get? b=some o->s.heap.get? b=some o/\H b=none
 bsz:base.objs.size<=s.heap.objs.size
 funs:s.heap.FunFrames base outer
 frf:∀ b∈CM outer,H b=none
 hok:HOk P w H s.heap
 bare:Gs s.gens
def CE (outer:List Env) (P:AB) (w:A9) (H:Hp) (s:Ai) (Q:VK) (u:Ae) (s':Ai):Prop:=
 ∃ v H',s'.os=s.os/\Gs s'.gens/\Un (CM outer) [] H H' s.heap s'.heap/\HOk P w H' s'.heap/\RelV v u/\Q v H'
def CR (CX:Gg) (outer:List Env) (P:AB) (w:A9) (H:Hp) (s:Ai) (Q:VK) (E:XK) (r:Result) (s':Ai):Prop:=
 match r with
 | .ok (.ret u)=>CE outer P w H s Q u s'
 | .ok _=>False
 | .error e=>CX outer H s E e s'
structure FnOk (P:AB) (w:A9) (K:PySem.W.Frag) (mg:Str->Option Ae) (base:Heap) (CX:Gg) (k:Nat) (f:Addr) (fd:DW) (ps:List Str) (sp:Sp):Prop where
 len:∀ vs H Q E,sp vs H Q E->vs.length=ps.length
 run:∀ (A:Bi) (outer:List Env) (s:Ai) (H:Hp) (args:Args) (us:List Ae) (vs:List V) (Q:VK) (E:XK),Room k A->Env0 P w K mg base A outer s H->BindsTo s fd args (ps.zip us)->Vals vs us->sp vs H Q E ->
  IC (Ay P w) A (.call (.ref f) args) (CR CX outer P w H s Q E) s
theorem FnOk.mono {P:AB}{w:A9}{K:PySem.W.Frag}{mg:Str->Option Ae}{base:Heap}{CX:Gg}{j k:Nat}{f:Addr}{fd:DW}{ps:List Str}{sp:Sp} (F:FnOk P w K mg base CX j f fd ps sp) (h:j<=k):
  FnOk P w K mg base CX k f fd ps sp:=⟨F.len,λ A outer s H args us vs Q E hr=>F.run A outer s H args us vs Q E (hr.mono h)⟩
section
variable {X:Cx}{pins:List (Addr×Obj)}{σ:St}{H:Hp}{s s':Ai}
theorem Inv.env0 (I:Inv X pins σ H s):Env0 X.prog X.w X.K X.mg X.base X.A X.stack s H:=
 ⟨I.ok.frames,I.ok.mod,I.bs,BD I.ok.bsz I.sz,I.stack,I.stkFree,I.hok,I.bare⟩
theorem Inv.after {Q:VK}{u:Ae} (I:Inv X pins σ H s) (h:CE X.stack X.prog X.w H s Q u s'):EP X pins σ Q u s':=by
 obtain ⟨v,H',os,bare,un,hok,r,q⟩:=h;obtain ⟨hh,g,d,t,os'⟩:=s';obtain rfl:os'=s.os:=os;exact ⟨v,H',I.call (h':=hh) (g':=g) (d':=d) (t':=t) (ch:=[]) un hok bare (λ b z=>absurd z (by simp)),r,q⟩
end
def qml (K:PySem.W.Frag) (fd:DW) (ps:List Str) (ds:List Ae):Prop:=
 ∀ (s:Ai) (us:List Ae),K.In s.heap->(us++ds).length=ps.length->BindsTo s fd ⟨us,[]⟩ (ps.zip (us++ds))
theorem qml.all {K:PySem.W.Frag}{fd:DW}{ps:List Str} (h:∀ us:List Ae,us.length=ps.length->bindArgs fd ⟨us,[]⟩=pure (ps.zip us)):qml K fd ps []:=λ s us _ hl=>by
 rw [G9] at hl ⊢;exact .of_eq (h us hl)
section
variable {X:Cx}{CX:Gg}{k:Nat}{f C:Addr}{fd:DW}{ps:List Str}{sp:Sp}{dvs:List V}{ds:List Ae}{E:XK}{x m:Str}{p pos apos:Pos}{e o:Expr}{es:List Expr}{ta:TE}{t:TA}
structure Mk (K:PySem.W.Frag) (C f:Addr):Prop where
 makes:PySem.W.makesIn K C=true
 init:IH K (.ref C) "__init__" = some (some (.ref f))
 fn:PySem.W.isFn K (.ref f)=true
 kp:KN K (.ref C)=true
end
section
variable {X:Cx}{CX:Gg}{k:Nat}{f C:Addr}{fd:DW}{ps ks:List Str}{sp:Sp}{E:XK}{x m:Str}{p pos apos kpos:Pos}{e o:Expr}{es:List Expr}{kws:List Keyword}{te ta:TE}{t tk:TA}{nm:Option Str}
structure KBinds (K:PySem.W.Frag) (fd:DW) (ps ks:List Str) (g:List Ae->List Ae->List Ae) (gV:List V->List V->List V):Prop where
 to:∀ (s:Ai) (us ws:List Ae),K.In s.heap->(g us ws).length=ps.length->BindsTo s fd ⟨us,ks.zip ws⟩ (ps.zip (g us ws))
 rel:∀ {vs:List V}{us:List Ae}{zs:List V}{ws:List Ae},Vals vs us->Vals zs ws->Vals (gV vs zs) (g us ws)
variable {g:List Ae->List Ae->List Ae}{gV:List V->List V->List V}
end
structure FnScope (N P:List Str) (sc:B1):Prop where
 kind:sc.kind=.function
 co:sc.isCoroutine=false
 gen:sc.isGenerator=false
 nd:N.Nodup
 pre:N.take P.length=P
 par:∀ x∈P,sc.names.lookup x=some .local\/sc.names.lookup x=some .cell
 nofree:∀ y∈sc.names,y.2≠.free
theorem ZA {kindOf:Str->Option Dv}{x:Str}:∀ {binds:List (Str×Ae)}{m:Str->Option Ae},(∀ v,(x,v)∉binds)->bindL kindOf binds m x=m x
 | [],_,_=>rfl
 | (n,v)::r,m,h=>by
  unfold bindL;rw [ZA λ w hw=>h w (AE _ hw)];split
  ·have:x≠n:=by rintro rfl;exact h v AD
   simp [this]
  ·rfl
theorem Z8 {kindOf:Str->Option Dv}{x:Str}:∀ {binds:List (Str×Ae)}{m:Str->Option Ae},(∀ v,(x,v)∉binds)->bindC kindOf binds m x=m x
 | [],_,_=>rfl
 | (n,v)::r,m,h=>by
  unfold bindC;rw [Z8 λ w hw=>h w (AE _ hw)];split
  ·rfl
  ·have:x≠n:=by rintro rfl;exact h v AD
   simp [this]
theorem Z9 {kindOf:Str->Option Dv}{x:Str}{v:Ae}:∀ {P:List Str}{vs:List Ae}{i:Nat}{m:Str->Option Ae},P.Nodup->P[i]?=some x->vs[i]?=some v->kindOf x=some .local ->
  bindL kindOf (P.zip vs) m x=some v
 | [],_,_,_,_,h,_,_=>by simp at h
 | _::_,[],_,_,_,_,h,_=>by simp at h
 | p::P,w::vs,0,m,nd,h1,h2,hk=>by
  simp at h1 h2;subst h1;subst h2;show bindL kindOf ((p,w)::P.zip vs) m p=_;unfold bindL;rw [ZA λ v hv=>(jg5.mp nd).1 (JP hv).1,if_pos hk];simp
 | p::P,w::vs,i + 1,m,nd,h1,h2,hk=>by
  show bindL kindOf ((p,w)::P.zip vs) m x=_;unfold bindL;exact Z9 (i:=i) (jg5.mp nd).2 (by simpa using h1) (by simpa using h2) hk
theorem Z7 {kindOf:Str->Option Dv}{x:Str}{v:Ae}:∀ {P:List Str}{vs:List Ae}{i:Nat}{m:Str->Option Ae},P.Nodup->P[i]?=some x->vs[i]?=some v->kindOf x≠some .local ->
  bindC kindOf (P.zip vs) m x=some v
 | [],_,_,_,_,h,_,_=>by simp at h
 | _::_,[],_,_,_,_,h,_=>by simp at h
 | p::P,w::vs,0,m,nd,h1,h2,hk=>by
  simp at h1 h2;subst h1;subst h2;show bindC kindOf ((p,w)::P.zip vs) m p=_;unfold bindC;rw [Z8 λ v hv=>(jg5.mp nd).1 (JP hv).1,if_neg hk];simp
 | p::P,w::vs,i + 1,m,nd,h1,h2,hk=>by
  show bindC kindOf ((p,w)::P.zip vs) m x=_;unfold bindC;exact Z7 (i:=i) (jg5.mp nd).2 (by simpa using h1) (by simpa using h2) hk
def start (N:List Str) (vs:List V):St:=vs.map some++A6 (N.length - vs.length) none
def BK (CX:Gg) (P:AB) (w:A9) (K:PySem.W.Frag) (mg:Str->Option Ae) (base:Heap) (N:List Str) (qual:Str) (scope:B1) (f:Addr) (cd:Ae) (A:Bi) (outer:List Env) (s:Ai) (H:Hp) (E:XK):Cx where
 prog:=P
 w:=w
 K:=K
 mg:=mg
 base:=base
 A:=A.deeper (HH qual scope s.heap.objs.size f cd)
 N:=N
 s₀:=s
 H₀:=H
 env:=HH qual scope s.heap.objs.size f cd
 outer:=outer
 stack:=HH qual scope s.heap.objs.size f cd::outer
 ex:=[]
 calm:=true
 fn:=λ _=>true
 pn:=[]
 xe:=λ e s'=>Al (Ay P w) (A.deeper (HH qual scope s.heap.objs.size f cd)) (leaving (HH qual scope s.heap.objs.size f cd) e) (λ _ s''=>CX outer H s E e s'') (λ e' s''=>CX outer H s E e' s'') s'
theorem Y9 {sc:B1}{n:Nat}{x:Str} (h:sc.names.lookup x=some .cell):∃ c,(Dh n sc.names []).lookup x=some c:=by
 have q:=PySem.W.cellsFrom_some sc.names n [] (.inl h);exact jl2.mp q
theorem dE {CX:Gg}{P:AB}{w:A9}{K:PySem.W.Frag}{mg:Str->Option Ae}{base:Heap}{N ps:List Str}{qual:Str}{scope:B1}{f:Addr}{cd:Ae}{A:Bi}{outer:List Env}{s s1:Ai}{H:Hp}{E:XK}{us:List Ae}{vs:List V}
  (S:FnScope N ps scope) (hd:A.handled=none) (e0:Env0 P w K mg base A outer s H) (hl:vs.length=ps.length) (r:Vals vs us)
  (x:InCallC s s.heap.objs.size (bindL (HH qual scope s.heap.objs.size f cd).kindOf (ps.zip us) λ _=>none) (Dh (s.heap.objs.size + 1) scope.names []) (bindC (HH qual scope s.heap.objs.size f cd).kindOf (ps.zip us) λ _=>none) s1):
  Inv (BK CX P w K mg base N qual scope f cd A outer s H E) [] (start N vs) H s1:=by
 have hpl:ps.length<=N.length:=by have:=congrArg PN S.pre;rw [GA] at this;omega
 obtain ⟨h1,tk,rfl,hk⟩:=x.done;have noA:∀ b:Addr,b∉(BK CX P w K mg base N qual scope f cd A outer s H E).ex:=λ b z=>absurd (show b∈([]:List Addr) from z) (by simp);refine ⟨⟨e0.mod,S.kind,rfl,rfl,A5 _,λ y z c h1 h2=>?_,λ y hy=>?_,λ y c _ h=>?_,λ _=>hd,Around.frames_deeper e0.frames,.inr ⟨rfl,rfl⟩,λ b z=>absurd z (noA b),e0.bs,e0.bsz,λ b _ _=>noA b,λ b z=>absurd z (noA b),e0.funs,e0.frf⟩,
  rfl,e0.bare,Un.kept hk,⟨_,x.toInCall.ns,λ i y v h1 h2 h3=>?_⟩,λ y c h=>⟨_,x.cell y c h⟩,e0.hok.fresh (A5 _),λ y c h=>?_,λ p hp=>absurd (show p∈([]:List (Addr×Obj)) from hp) (by simp),e0.hok.kept hk,?_⟩
 ·exact name_of_addr x.apart (Mi h1) (Mi h2)
 ·have hy:scope.names.lookup y=some .cell\/scope.names.lookup y=some .free:=hy;rcases hy with hy | hy
  ·exact Y9 hy
  ·exact absurd rfl (S.nofree _ (Mi hy))
 ·exact Lk (x.above y c (Mi h))
 ·have hi:i < vs.length:=by
   unfold start at h2;by_cases hi:i < vs.length
   ·exact hi
   ·rw [GF (by simpa using hi)] at h2;rw [Gb] at h2;split at h2 <;> cases h2
  have ha:vs[i]?=some v:=by
   unfold start at h2;rw [DC (by simpa using hi),BO] at h2;cases e:vs[i]? with
   | none=>rw [e] at h2;cases h2
   | some a=>rw [e] at h2;cases h2;rfl
  obtain ⟨u,hu,rv⟩:=r.get ha;have hp:ps[i]?=some y:=by
   rw [<- S.pre,qV (by omega)];exact h1
  have ndP:ps.Nodup:=by rw [<- S.pre];exact S.nd.sublist (Ua _ _)
  refine ⟨u,rv,?_⟩;rcases S.par y (Nl hp) with k | k
  ·exact .inl ⟨k,Z9 ndP hp hu k⟩
  ·obtain ⟨c,e⟩:=Y9 (n:=s.heap.objs.size + 1) k;refine .inr ⟨.inl k,c,e,?_⟩;have q:=x.cell y c e;rw [Z7 ndP hp hu (by show scope.names.lookup y≠_;rw [k];decide)] at q;exact q
 ·exact e0.hok.fresh (Lk (x.above y c (Mi h)))
 ·unfold start;show _=N.length;rw [Bm,Ax,Ee];omega
theorem jj {CX:Gg}{P:AB}{w:A9}{K:PySem.W.Frag}{mg:Str->Option Ae}{base:Heap}{k:Nat}{f:Addr}{name qual:Str}{params:Arguments}{body:List Stmt}{scope:B1}{dV kV doc pm cdv ct oc:Ae}{an od:Option Addr}
  {osl:Array (Option Ae)}{N ps:List Str}{sp:Sp} (lk:K.lookup f=some ⟨oc,od,.func (J0 name qual params body scope dV kV doc pm an cdv ct),osl⟩) (hcd:Rn K cdv qual=true) (S:FnScope N ps scope)
  (len:∀ vs H Q E,sp vs H Q E->vs.length=ps.length)
  (hbody:∀ (A:Bi) (outer:List Env) (s:Ai) (H:Hp) (vs:List V) (Q:VK) (E:XK),Room k (A.deeper (HH qual scope s.heap.objs.size f cdv))->sp vs H Q E ->
   ∃ t,Fj (BK CX P w K mg base N qual scope f cdv A outer s H E) body t/\t { nx:=λ _ H'=>Q .non H',rt:=Q } (start N vs) H):
  FnOk P w K mg base CX (k + 1) f (J0 name qual params body scope dV kV doc pm an cdv ct) ps sp:=by
 refine ⟨len,λ A outer s H args us vs Q E hr e0 hb r hsp=>?_⟩;have hl:=len _ _ _ _ hsp;have KX:K.In s.heap:=e0.mod.kin.keeps λ b o e=>(e0.bs b o e).1;have lim:s.heap.NoLimit:=e0.mod.nolimit.keeps λ b o e=>(e0.bs b o e).1;have hkind:∀ y∈ps.zip us,scope.names.lookup y.1=some .local\/(scope.names.lookup y.1=some .cell/\((Dh (s.heap.objs.size + 1) scope.names []).lookup y.1).isSome=true):=λ ⟨n,v⟩ hy=>by
  rcases S.par n (JP hy).1 with q | q
  ·exact .inl q
  ·exact .inr ⟨q,PySem.W.cellsFrom_some _ _ _ (.inl q)⟩
 refine codeAny_call_function hr.depth (KX _ _ lk) rfl S.co S.gen rfl (PySem.W.codeRec_of KX hcd) (hb _ _ _ _ ?_);refine wpAny_newFunctionEnv_cells S.kind hkind λ env he s1 x=>?_;subst he;refine ⟨lim.keeps x.toInCall.keep,codeAny_func ?_⟩;obtain ⟨t,ht,hq⟩:=hbody A outer s H vs Q E (hr.deeper _) hsp;have I:Inv (BK CX P w K mg base N qual scope f cdv A outer s H E) [] (start N vs) H s1:=dE S hr.hd e0 hl r x;refine HK (ht [] s1 (start N vs) H _ I hq) (λ fl s' hs=>?_) λ e s' hs=>hs;have fin:∀ {σ':St}{H':Hp}{v:V}{u:Ae},Inv (BK CX P w K mg base N qual scope f cdv A outer s H E) [] σ' H' s'->RelV v u->Q v H'->CE outer P w H s Q u s':=
  λ {σ' H' v u} J rv q=>⟨v,H',J.os,J.bare,J.base,J.hok,rv,q⟩
 cases fl with
 | ret u=>
  obtain ⟨v,σ',H',J,rv,q⟩:=hs;exact fin J rv q
 | next=>
  obtain ⟨σ',H',J,q⟩:=hs;exact fin (v:=V.non) (u:=Value.none) J rfl q
 | brk=>
  obtain ⟨_,_,_,q⟩:=hs;exact GZ q
 | cont=>
  obtain ⟨_,_,_,q⟩:=hs;exact GZ q
section
variable {X:Cx}{x:Str}{p pos:Pos}{e:Expr}{es:List Expr}{t:TA}{id T:String}{r:List V->Hp->VK->Prop}
def RY (r:List V->Hp->VK->Prop) (t:TA):TE:=λ σ H Q=>t σ H λ vs H1=>r vs H1 Q
theorem YV (hc:zzw X (.builtin id) r) (hg:Gl X x) (hm:X.mg x=none) (hv:IG x=some (.builtin id)) (ha:PA X (e::es) t) (hn:x ≠ "__name__" := by decide) (hdb:(x == ("__debug__" : Str))=false:=by decide)
  (he:Bt (e::es) X.env=(false,eval e X.env)::Bt es X.env:=by rfl) (hpl:(FV pos (Bt es X.env)).any (·.1)=false:=by rfl):PE X (.Call (.Name x p) (e::es) [] pos) (RY r t):=by
 intro pins s σ H Q I h;refine OO (Gq I hg hm hv ?_ hn hdb);exact PyProof.Rows.callWith_builtin1 (A2 (ha pos pins s σ H _ I h) λ us s1 ⟨vs,H1,I1,r1,q1⟩=>hc pins s1 σ H1 vs us Q I1 r1 q1) he hpl
theorem dY (hc:zzw X (.type T) r) (hg:Gl X x) (hm:X.mg x=none) (hv:IG x=some (.type T)) (ha:PA X (e::es) t) (hn:x ≠ "__name__" := by decide) (hdb:(x == ("__debug__" : Str))=false:=by decide)
  (he:Bt (e::es) X.env=(false,eval e X.env)::Bt es X.env:=by rfl) (hpl:(FV pos (Bt es X.env)).any (·.1)=false:=by rfl):PE X (.Call (.Name x p) (e::es) [] pos) (RY r t):=by
 intro pins s σ H Q I h;refine OO (Gq I hg hm hv ?_ hn hdb);exact HR (A2 (ha pos pins s σ H _ I h) λ us s1 ⟨vs,H1,I1,r1,q1⟩=>hc pins s1 σ H1 vs us Q I1 r1 q1) he hpl
end
end L2
namespace HT
open PySem PyProof.Rows
def lexLt:List Int->List Int->Bool
 | [],[]=>false
 | [],_::_=>true
 | _::_,[]=>false
 | x::xs,y::ys=>if x=y then lexLt xs ys else decide (x < y)
theorem fE (x y:Int) (xs ys:List Int):lexLt (x::xs) (y::ys)=if x=y then lexLt xs ys else decide (x < y):=rfl
theorem z9:lexLt [] []=false:=rfl
theorem zx (y:Int) (ys:List Int):lexLt [] (y::ys)=true:=rfl
theorem zw (x:Int) (xs:List Int):lexLt (x::xs) []=false:=rfl
theorem gY (A:Bi) (s:Ai) (a:Int) (t:Tok) (c:Int) (u:Tok):∃ e,IF A s (.int a t) (.int c u) e/\(e=true↔a=c):=
 ⟨(a == c),SeqAt.EqAt.int_int a t c u,by simp⟩
theorem bo (A:Bi) (s:Ai) (a:Int) (t:Tok) (c:Int) (u:Tok) (prog:AB) (w:A9) (E:Ae->Ai->Prop) (Q:Ae->Ai->Prop) (h:Q (.bool (decide (a < c))) s):
  Al (Ay prog w) A (richCompare .Lt (.int a t) (.int c u)) Q E s:=
 (PyProof.Rows.lt_int h:Al (Ay prog w) A (Cc .Lt (.int a t) (.int c u)) Q E s)
section
open PySem.SeqAt
open PySem.AutoSeq1 (wpAny_loadPart')
open PySem.MeetsSeq PySem.MeetsSeq2 PySem.MeetsSeq3
theorem zC (l b:Addr) (items items2:Array Ae) (n n2:Nat) (dd dd2:Option Addr) (sl sl2:Array (Option Ae)) (ns ms:List Int) (hi:EY items.toList ns) (hj:EY items2.toList ms):
  Meets (vl5.«tuple.__lt__» ⟨[.ref l,.ref b],[]⟩)
   (λ _ R s=>s.heap.get? l=some { cls:=.type "tuple",dict:=dd,data:=.seq items n,slots:=sl }/\s.heap.get? b=some { cls:=.type "tuple",dict:=dd2,data:=.seq items2 n2,slots:=sl2 } /\
    R (.ok (.ret (.bool (lexLt ns ms)))) s):=
 .of_wp λ prog w A R s h=>by
  obtain ⟨hp,g,d,tk,os⟩:=s;obtain ⟨hl,hb,h⟩:=h;have f2:=AutoSeq1.sub_tuple_tuple;have z1:items.size=ns.length:=by rw [<- hi.length];simp
  have z2:items2.size=ms.length:=by rw [<- hj.length];simp
  wp_walk using wpAny_loadPart' hl,wpAny_loadPart' hb,wpAny_forIn_list _ (λ rest b s'=>b.1=none/\s'=⟨hp,g,d,tk,os⟩/\∃ (vs ws:List Ae) (ns' ms':List Int),rest=vs.zip ws /\
   EY vs ns'/\EY ws ms'/\ns'.length + items2.size=ms'.length + items.size/\R (.ok (.ret (.bool (lexLt ns' ms')))) ⟨hp,g,d,tk,os⟩) _
  case turn=>
   rintro ⟨y,x⟩ rest b s' ⟨hb',rfl,vs,ws,ns',ms',hz,hvi,hwi,hlen,hR⟩;cases hvi with
   | nil=>rw [List.zip_nil_left] at hz;cases hz
   | cons a t hvi'=>
    cases hwi with
    | nil=>rw [List.zip_nil_right] at hz;cases hz
    | cons c u hwi'=>
     rw [JS] at hz;injection hz with hyx hrest
     injection hyx with hy hx
     subst hy hx;rw [fE] at hR;simp only [AY] at hlen;obtain ⟨e,he,hiff⟩:=gY A.in1 ⟨hp,g,d,tk,os⟩ a t c u;refine Ah (he prog w _ _ ?_);cases e with
     | true=>
      rw [if_pos (hiff.mp rfl)] at hR
      wp_walk
      exact ⟨rfl,rfl,_,_,_,_,hrest,hvi',hwi',by omega,hR⟩
     | false=>
      rw [if_neg (λ q=>absurd (hiff.mpr q) Ce)] at hR;have hri:=bo A.in1 ⟨hp,g,d,tk,os⟩ a t c u prog w
      wp_walk using hri
      exact ⟨_,rfl,by simpa using hR⟩
  case fin=>
   rintro ⟨b1,b2⟩ s' ⟨hb',rfl,vs,ws,ns',ms',hz,hvi,hwi,hlen,hR⟩;simp only at hb';subst hb';have hv:lexLt ns' ms'=decide (items.size < items2.size):=by
    cases hvi with
    | nil=>
     cases hwi with
     | nil=>
      simp only [JO] at hlen;rw [z9];exact (decide_eq_false (by omega)).symm
     | cons c u hw=>
      simp only [JO,AY] at hlen;rw [zx];exact (decide_eq_true (by omega)).symm
    | cons a t hv=>
     cases hwi with
     | nil=>
      simp only [JO,AY] at hlen;rw [zw];exact (decide_eq_false (by omega)).symm
     | cons c u hw=>
      rw [JS] at hz;cases hz
   rw [hv] at hR
   wp_walk
   exact ⟨_,rfl,by simpa [Builtin.Tuple.tupleCompareSizes] using hR⟩
  case h=>
   exact ⟨rfl,rfl,items.toList,items2.toList,ns,ms,rfl,hi,hj,by omega,h⟩
end
section
variable {prog:AB}{w:A9}{A:Bi}{E:Ae->Ai->Prop}{s:Ai}
theorem lt_tupInts {l b:Addr}{items items2:Array Ae}{ns ms:List Int}{Q:Ae->Ai->Prop} (hl:IsTup s.heap l items) (hb:IsTup s.heap b items2) (hi:EY items.toList ns) (hj:EY items2.toList ms)
  (hu:A.units < Cv) (h:Q (.bool (lexLt ns ms)) s):Al (Ay prog w) A (Cc .Lt (.ref l) (.ref b)) Q E s:=by
 obtain ⟨⟨cls,dd,data,sl⟩,ho,hc,n,hd⟩:=id hl;obtain ⟨⟨cls2,dd2,data2,sl2⟩,ho2,hc2,n2,hd2⟩:=id hb;simp only at hc hd hc2 hd2;subst hc hd hc2 hd2;exact richCompare_meets_room (op:=.Lt) ⟨_,ho,rfl⟩ ⟨_,ho2,rfl⟩ PySem.F.slot_tuple_lt PySem.F.entry_tuple_lt (PySem.F.args_tuple_lt_2 _ _) (zC l b items items2 n n2 dd dd2 sl sl2 ns ms hi hj)
  ⟨ho,ho2,show Value.bool (lexLt ns ms)≠Value.notImplemented/\Q (.bool (lexLt ns ms)) s from ⟨(λ x=>nomatch x),h⟩⟩ hu
theorem cat_tup {t b:Addr}{vs ws:List Ae}{Q:Ae->Ai->Prop} (ht:IsTup s.heap t vs.toArray) (hb:IsTup s.heap b ws.toArray) (hv:vs≠[])
  (h1:ws=[]->Q (.ref t) s) (h2:ws≠[]->Q (.ref s.heap.objs.size) { s with heap:=s.heap.push { cls:=.type "tuple",data:=.seq (vs++ws).toArray } })
  (hsz:vs.length + ws.length<=Au):Al (Ay prog w) A (EA .Add (.ref t) (.ref b)) Q E s:=by
 obtain ⟨⟨cls,dd,data,sl⟩,ho,hc,n,hd⟩:=id ht;obtain ⟨⟨cls2,dd2,data2,sl2⟩,ho2,hc2,n2,hd2⟩:=id hb;simp only at hc hd hc2 hd2;subst hc hd hc2 hd2;have e:vs.toArray++ws.toArray=(vs++ws).toArray:=by simp
 by_cases hw:ws=[]
 ·exact concat_meets ⟨_,ho,rfl⟩ ⟨_,ho2,rfl⟩ Rx seq_tuple_add RJ RK (RL _ _)
   (tuple_addW1 t b vs.toArray ws.toArray n n2 dd dd2 sl sl2 (by simpa using hv) (by simp [hw])) ⟨ho,ho2,h1 hw⟩
 ·refine concat_meets ⟨_,ho,rfl⟩ ⟨_,ho2,rfl⟩ Rx seq_tuple_add RJ RK (RL _ _)
   (tuple_addW2 t b vs.toArray ws.toArray n n2 dd dd2 sl sl2 (by simpa using hv) (by simpa using hw) (by rw [BQ,BQ];exact hsz)) ⟨ho,ho2,?_⟩
  rw [e];exact h2 hw
def sIx (n d:Nat):Option Int->Nat
 | none=>d
 | some v=>if v < 0 then (v + (n:Int)).toNat else min v.toNat n
theorem sIx_none (n d:Nat):sIx n d none=d:=rfl
theorem sIx_nat (n d k:Nat):sIx n d (some (k:Int))=min k n:=by
 show (if (k:Int) < 0 then ((k:Int) + (n:Int)).toNat else min (k:Int).toNat n)=min k n;rw [if_neg (by omega),Di]
theorem vC (n d:Nat) (hd:d<=n) (o:Option Int):sIx n d o<=n:=by
 cases o with
 | none=>exact hd
 | some v=>
  show (if v < 0 then (v + (n:Int)).toNat else min v.toNat n)<=n;by_cases hv:v < 0
  ·rw [if_pos hv];omega
  ·rw [if_neg hv];exact q9 _ _
theorem X1 (v:Int) (n d:Nat):(if v < 0 then max (v + (n:Int)) 0 else min v (n:Int))=((sIx n d (some v):Nat):Int):=by
 show (if v < 0 then max (v + (n:Int)) 0 else min v (n:Int))=(((if v < 0 then (v + (n:Int)).toNat else min v.toNat n):Nat):Int);by_cases hv:v < 0
 ·simp only [if_pos hv];omega
 ·simp only [if_neg hv];omega
theorem f9 (lo hi:Option Int) (n:Nat):RM lo hi 1 (n:Int)=(((sIx n 0 lo:Nat):Int),((sIx n n hi:Nat):Int)):=by
 have h1:¬ ((1:Int) < 0):=by omega
 unfold RM;simp only [h1,if_false];refine Prod.ext ?_ ?_
 ·cases lo with
  | none=>rfl
  | some v=>exact X1 v n 0
 ·cases hi with
  | none=>rfl
  | some v=>exact X1 v n n
theorem fM (i j:Nat):OU (i:Int) (j:Int) 1=j - i:=by
 unfold OU;have h1:(1:Int) > 0:=by omega
 simp only [h1,if_true,Int.ediv_one];split <;> omega
theorem VI {v:Ae}{o:Option Int}{Q:Option Int->Ai->Prop} (p:IsPart v o) (h:Q o s):Al (Ay prog w) A (Builtin.Slice.slicePartIndex v) Q E s:=by
 cases p with
 | none=>exact slicePart_none h
 | int i t=>exact slicePart_int h
theorem zG {sl:Addr}{vl vu:Ae}{lo hi:Option Int}{n:Nat}{Q:Int×Int×Nat->Ai->Prop} (hs:s.heap.IsSliceOf sl vl vu .none) (pl:IsPart vl lo) (pu:IsPart vu hi)
  (h:Q (((sIx n 0 lo:Nat):Int),1,sIx n n hi - sIx n 0 lo) s):Al (Ay prog w) A (VX (.ref sl) (pure (n:Int))) Q E s:=by
 obtain ⟨os,hos,hcs,hds⟩:=id hs;unfold VX Builtin.Slice.sliceFields;refine Ah (Ah (Eu hos hds (x:=vl) rfl (Ah (Eu hos hds (x:=vu) rfl (Ah (Eu hos hds (x:=.none) rfl (Aw ?_)))))));refine Ah (slicePart_none ?_);show Al _ _ (if ((1:Int) == 0)=true then _ else _) _ _ s;rw [if_neg (by decide)];refine Ah (VI pl (Ah (VI pu (Ah (Aw ?_)))));show Al _ _ (match RM lo hi 1 (n:Int) with | (lo,hi)=>pure (lo,(1:Int),OU lo hi 1)) _ _ s;rw [f9 lo hi n];show Al _ _ (pure (((sIx n 0 lo:Nat):Int),(1:Int),OU ((sIx n 0 lo:Nat):Int) ((sIx n n hi:Nat):Int) 1)) _ _ s;rw [fM];exact Aw h
theorem bQ (xs:Array Ae) (i k:Nat):((An k).filterMap λ (m:Nat)=>xs[((i:Int) + (m:Int) * 1).toNat]?).toArray=((xs.toList.drop i).take k).toArray:=by
 have e:(λ (m:Nat)=>xs[((i:Int) + (m:Int) * 1).toNat]?)=λ m=>xs[i + m]?:=by
  funext m
  have:((i:Int) + (m:Int) * 1).toNat=i + m:=by omega
  rw [this]
 rw [e]
 have:=pick_run xs i k
 rw [List.filterMap_map] at this;have e2:((λ x=>xs[x]?) ∘ λ x=>i + x)=λ m=>xs[i + m]?:=rfl;rw [e2] at this;rw [this]
theorem getItem_tuple_cut {t sl:Addr}{items:Array Ae}{vl vu:Ae}{lo hi:Option Int}{Q:Ae->Ai->Prop} (ht:IsTup s.heap t items) (hs:s.heap.IsSliceOf sl vl vu .none) (pl:IsPart vl lo) (pu:IsPart vu hi)
  (hw:¬ (sIx items.size 0 lo=0/\sIx items.size items.size hi=items.size))
  (h:Q (.ref s.heap.objs.size) { s with heap:=s.heap.push { cls:=.type "tuple",data:=.seq ((items.toList.drop (sIx items.size 0 lo)).take (sIx items.size items.size hi - sIx items.size 0 lo)).toArray } })
  (hsz:items.size<=Au):Al (Ay prog w) A (ID (.ref t) (.ref sl)) Q E s:=by
 have htake:sizeOk (.seq ((items.toList.drop (sIx items.size 0 lo)).take (sIx items.size items.size hi - sIx items.size 0 lo)).toArray):=by
  show ((items.toList.drop (sIx items.size 0 lo)).take (sIx items.size items.size hi - sIx items.size 0 lo)).toArray.size<=Au;rw [BQ,GA,Qd,Ls];omega
 have hj:sIx items.size items.size hi<=items.size:=vC _ _ (A5 _) hi;obtain ⟨os,hos,hcs,hds⟩:=id hs;have hTs:s.TypeIs (.ref sl) "slice" := ⟨os,hos,hcs⟩
 unfold ID
 try with_reducible refine J2 ?_
 first | refine Ah (Aw ?_) | skip
 refine Ah (wpAny_sequenceKey ht.typeIs (by decide) ?_);refine Ah (HQ (name:=Ha "__getitem__") ht.typeIs Wg
  (Gy Wg ht.typeIs entry_tuple_getitem ?_ (args_tuple_getitem _ _)))
 show Al _ _ (Builtin.Tuple.tupleItemsOf (.ref t) >>= _) _ _ s;refine Ah (tupleItemsOf_ ht ?_);refine Ah (wpAny_typeOf hTs ?_);rw [if_pos (by decide)];refine Ah (zG hs pl pu ?_);have hno:¬ ((((sIx items.size 0 lo:Nat):Int) == 0 && (1:Int) == 1 && (sIx items.size items.size hi - sIx items.size 0 lo) == items.size)=true):=by
  intro q;rw [AU,AU] at q;have q1:((sIx items.size 0 lo:Nat):Int)=0:=eq_of_beq q.1.1;have q2:sIx items.size items.size hi - sIx items.size 0 lo=items.size:=eq_of_beq q.2;exact hw ⟨by omega,by omega⟩
 show Al _ _ (if (((sIx items.size 0 lo:Nat):Int) == 0 && (1:Int) == 1 && (sIx items.size items.size hi - sIx items.size 0 lo) == items.size)=true then _ else _) _ _ s;rw [if_neg hno,bQ]
 first
  | exact Ah (m:=OR _) (Fd (Aw ⟨_,rfl,Aw h⟩) htake)
  | exact Ah (m:=OR _) (Fd (Ah (Aw (Aw ⟨_,rfl,Aw h⟩))) htake)
  | exact Ah (Ah (m:=OR _) (Fd (Aw (Aw ⟨_,rfl,Aw h⟩)) htake))
  | exact Ah (Ah (m:=OR _) (Fd (Aw ⟨_,rfl,Aw h⟩) htake))
end
end HT
namespace L2
open PySem PySem.Spec PyProof.Rows
abbrev TO:=St->Hp->(Option Int->Hp->Prop)->Prop
def PO (X:Cx) (e:Option Expr) (t:TO):Prop:=
 ∀ (pins:List (Addr×Obj)) (s:Ai) (σ:St) (H:Hp) (Q:Option Int->Hp->Prop),Inv X pins σ H s->t σ H Q ->
  Al (Ay X.prog X.w) X.A (evalPart e X.env) (λ u s'=>∃ o H',Inv X pins σ H' s'/\IsPart u o/\Q o H') X.xe s
def Yq:TO:=λ _ H Q=>Q none H
def WC (t:TE):TO:=λ σ H Q=>t σ H λ x H1=>∃ i,x=.int i/\Q (some i) H1
theorem V7 {ns:List Int}:∀ {us:List Ae},Vals (ns.map V.int) us->EY us ns:=by
 induction ns with
 | nil=>intro us r;rw [Hf] at r;cases r;exact .nil
 | cons n ns ih=>
  intro us r;rw [AR] at r;cases r with
  | cons r1 r2=>
   obtain ⟨t,e⟩:=r1;subst e;exact .cons n t (ih r2)
section
variable {X:Cx}{e:Expr}{te:TE}{lo hi:Option Expr}{tl th:TO}{pos p2:Pos}
theorem yP:PO X none Yq:=by
 intro pins s σ H Q I h;rw [evalPart_none];exact Aw ⟨none,H,I,.none,h⟩
theorem yQ (h:PE X e te):PO X (some e) (WC te):=by
 intro pins s σ H Q I hw;rw [evalPart_some];refine A2 (h pins s σ H _ I hw) λ u s1 ⟨x,H1,I1,r1,q1⟩=>?_;obtain ⟨i,rfl,q⟩:=q1;obtain ⟨t,rfl⟩:=r1;exact ⟨some i,H1,I1,.int i t,q⟩
def SlR (X:Cx) (r:V->Option Int->Option Int->Hp->VK->Prop):Prop:=
 ∀ (pins:List (Addr×Obj)) (s:Ai) (σ:St) (H:Hp) (x:V) (v vl vu:Ae) (lo hi:Option Int) (sl:Addr) (Q:VK),Inv X pins σ H s->RelV x v->s.heap.IsSliceOf sl vl vu .none->IsPart vl lo->IsPart vu hi->r x lo hi H Q ->
  ∃ T id,typeLookup (.type T) "__getitem__" = pure (some (.builtin id))/\s.TypeIs v T/\Al (Ay X.prog X.w) X.A (ID v (.ref sl)) (EP X pins σ Q) X.xe s
theorem SlR.or {r r':V->Option Int->Option Int->Hp->VK->Prop} (h:SlR X r) (h':SlR X r'):SlR X (λ x lo hi H Q=>r x lo hi H Q\/r' x lo hi H Q):=by
 intro pins s σ H x v vl vu lo hi sl Q I rx hs pl pu q;rcases q with q | q
 ·exact h pins s σ H x v vl vu lo hi sl Q I rx hs pl pu q
 ·exact h' pins s σ H x v vl vu lo hi sl Q I rx hs pl pu q
def Wj (r:V->Option Int->Option Int->Hp->VK->Prop) (te:TE) (tl th:TO):TE:=λ σ H Q=>te σ H λ x H1=>tl σ H1 λ l H2=>th σ H2 λ u H3=>r x l u H3 Q
theorem bP {r:V->Option Int->Option Int->Hp->VK->Prop} (hr:SlR X r) (he:PE X e te) (hl:PO X lo tl) (hu:PO X hi th):PE X (.Subscript e (.Slice lo hi none p2) pos) (Wj r te tl th):=by
 intro pins s σ H Q I h;refine Subscript_ (A2 (he pins s σ H _ I h) λ v s1 ⟨x,H1,I1,r1,q1⟩=>?_);refine wpAny_Slice (A2 (hl pins s1 σ H1 _ I1 q1) λ vl s2 ⟨l,H2,I2,pl,q2⟩=>A2 (hu pins s2 σ H2 _ I2 q2) λ vu s3 ⟨u,H3,I3,pu,q3⟩=>?_);rw [evalPart_none];refine Aw ?_;have I4:Inv X pins σ H3 { s3 with heap:=s3.heap.push { cls:=.type "slice",data:=.fields #[vl,vu,.none] } }:=I3.kept (t':=s3.toks) λ b ob q=>Ba _ q;obtain ⟨T,id,hT,ht,hg⟩:=hr pins { s3 with heap:=s3.heap.push { cls:=.type "slice",data:=.fields #[vl,vu,.none] } } σ H3 x v vl vu l u s3.heap.objs.size Q I4 r1 (Heap.IsSliceOf.new ..) pl pu q3;show Al (Ay X.prog X.w) X.A (subscriptTail e (.Slice lo hi none p2) v (.ref s3.heap.objs.size)) (EP X pins σ Q) X.xe { s3 with heap:=s3.heap.push { cls:=.type "slice",data:=.fields #[vl,vu,.none] } };exact tail_any (ops:=[.ref s3.heap.objs.size,v]) ht hT hg (by with_unfolding_all rfl)
def Eg (xs:List V) (lo hi:Option Int):List V:=(xs.drop (HT.sIx xs.length 0 lo)).take (HT.sIx xs.length xs.length hi - HT.sIx xs.length 0 lo)
theorem Vp (xs:List V) (lo hi:Option Int):(Eg xs lo hi).length<=xs.length:=by
 unfold Eg;rw [GA,Qd];omega
def Mw (K:PySem.W.Frag):V->Option Int->Option Int->Hp->VK->Prop:=λ x lo hi H Q=>∃ a xs,x=.ref a/\SqT K H a xs /\
 ¬ (HT.sIx xs.length 0 lo=0/\HT.sIx xs.length xs.length hi=xs.length)/\∀ p,H p=none->Q (.ref p) (Av H p (.tup (Eg xs lo hi)))
theorem qr3:SlR X (Mw X.K):=by
 intro pins s σ H x v vl vu lo hi sl Q I rx hs pl pu h;obtain ⟨a,xs,rfl,hx,hw,q⟩:=h;cases rx;obtain ⟨its,r,ht,hz⟩:=I.tuple hx;have hlen:its.toArray.size=xs.length:=by rw [BQ];exact r.length.symm
 refine ⟨"tuple",_,PyProof.Rows.slot_tuple_getitem.lookup,ht.typeIs,?_⟩;refine HT.getItem_tuple_cut ht hs pl pu (by rw [hlen];exact hw) ?_ (by rw [hlen];exact hz);rw [hlen];refine ⟨.ref s.heap.objs.size,_,I.laid (t':=s.toks) (o:=.tup (Eg xs lo hi)) (λ b ob q=>Ba _ q) (A5 _) ?_,rfl,q _ (I.hok.fresh (A5 _))⟩;exact ⟨BD (Vp xs lo hi) hz,_,(r.drop (HT.sIx xs.length 0 lo)).take (HT.sIx xs.length xs.length hi - HT.sIx xs.length 0 lo),IsTup.new _ _⟩
def Mz (K:PySem.W.Frag):R2:=λ x y H Q=>∃ a b ns ms,x=.ref a/\y=.ref b/\SqT K H a (ns.map V.int)/\SqT K H b (ms.map V.int)/\Q (.bl (HT.lexLt ns ms)) H
theorem kO (hu:X.A.units < Cv):OpR X (Cc .Lt) (Mz X.K):=by
 intro pins s σ H x y v u Q I rx ry h;obtain ⟨a,b,ns,ms,rfl,rfl,ha,hb,q⟩:=h;cases rx;cases ry;obtain ⟨its,r1,p1,_⟩:=I.tuple ha;obtain ⟨its2,r2,p2,_⟩:=I.tuple hb;have i1:EY its.toArray.toList ns:=V7 r1;have i2:EY its2.toArray.toList ms:=V7 r2;exact HT.lt_tupInts p1 p2 i1 i2 hu ⟨.bl (HT.lexLt ns ms),H,I,rfl,q⟩
def jA (K:PySem.W.Frag):R2:=λ x y H Q=>∃ a b xs ys,x=.ref a/\y=.ref b/\SqT K H a xs/\SqT K H b ys/\xs≠[]/\xs.length + ys.length<=Au /\
 (ys=[]->Q (.ref a) H)/\(ys≠[]->∀ p,H p=none->Q (.ref p) (Av H p (.tup (xs++ys))))
theorem Vals.nil_iff {xs:List V}{us:List Ae} (r:Vals xs us):us=[]↔xs=[]:=by
 cases r with
 | nil=>simp
 | cons _ _=>simp
theorem qpf:OpR X (EA .Add) (jA X.K):=by
 intro pins s σ H x y v u Q I rx ry h;obtain ⟨a,b,xs,ys,rfl,rfl,ha,hb,hx,hz,q1,q2⟩:=h;cases rx;cases ry;obtain ⟨its,r1,p1,_⟩:=I.tuple ha;obtain ⟨its2,r2,p2,_⟩:=I.tuple hb;refine HT.cat_tup p1 p2 (λ z=>hx (r1.nil_iff.mp z)) (λ z=>⟨.ref a,H,I,rfl,q1 (r2.nil_iff.mp z)⟩) (λ z=>?_) (by rw [<- r1.length,<- r2.length];exact hz);refine ⟨.ref s.heap.objs.size,_,I.laid (t':=s.toks) (o:=.tup (xs++ys)) (λ b ob q=>Ba _ q) (A5 _) ?_,rfl,q2 (λ w=>z (r2.nil_iff.mpr w)) _ (I.hok.fresh (A5 _))⟩;exact ⟨by rw [Bm];exact hz,_,r1.append r2,IsTup.new _ _⟩
end
def CG (n:Nat) (i:Int):Option Nat:=if 0<=i then (if i < n then some i.toNat else none) else if -(n:Int)<=i then some (i + n).toNat else none
def BM {α:Type} (xs:List α) (i:Int):Option α:=(CG xs.length i).bind λ j=>xs[j]?
theorem XH {n:Nat}{i:Int}{j:Nat} (h:CG n i=some j):seqIndex? i n=some j/\j < n/\-(n:Int)<=i/\i < n:=by
 unfold CG at h;by_cases h0:0<=i
 ·rw [if_pos h0] at h;by_cases h1:i < n
  ·rw [if_pos h1] at h;have e:i.toNat=j:=Option.some.inj h;exact ⟨by rw [OC h0 h1,e],by omega,by omega,h1⟩
  ·rw [if_neg h1] at h;cases h
 ·rw [if_neg h0] at h;by_cases h1:-(n:Int)<=i
  ·rw [if_pos h1] at h;have e:(i + n).toNat=j:=Option.some.inj h;exact ⟨by rw [seqIndex_neg (by omega) h1,e],by omega,h1,by omega⟩
  ·rw [if_neg h1] at h;cases h
theorem Ol {α:Type}{xs:List α}{i:Int}{v:α} (h:BM xs i=some v):∃ j,seqIndex? i xs.length=some j/\xs[j]?=some v/\j < xs.length/\-(xs.length:Int)<=i/\i < xs.length:=by
 unfold BM at h;cases e:CG xs.length i with
 | none=>rw [e] at h;cases h
 | some j=>
  rw [e] at h;obtain ⟨h1,h2,h3,h4⟩:=XH e;exact ⟨j,h1,h,h2,h3,h4⟩
def Tt (b:Expr):Prop:=∀ o i,subscripted b false o i=operate [o,i] (ID o i)
def IxR (X:Cx) (r:R2):Prop:=
 ∀ (value slice:Expr) (pins:List (Addr×Obj)) (s:Ai) (σ:St) (H:Hp) (x y:V) (v u:Ae) (Q:VK),Inv X pins σ H s->RelV x v->RelV y u->r x y H Q ->
  subscripted slice false v u=operate [v,u] (ID v u)->Al (Ay X.prog X.w) X.A (subscriptTail value slice v u) (EP X pins σ Q) X.xe s
def UT (X:Cx) (id:String) (r:V->List V->Hp->VK->Prop):Prop:=
 ∀ (pins:List (Addr×Obj)) (s:Ai) (σ:St) (H:Hp) (x:V) (xs:List V) (v:Ae) (us:List Ae) (Q:VK),Inv X pins σ H s->RelV x v->Vals xs us->r x xs H Q ->
  Al (Ay X.prog X.w) X.A (call (.builtin id) (v::us)) (EP X pins σ Q) X.xe s
section
variable {X:Cx}{a b:Expr}{ta tb:TE}{pos:Pos}
theorem IxR.or {r r':R2} (h:IxR X r) (h':IxR X r'):IxR X (λ x y H Q=>r x y H Q\/r' x y H Q):=by
 intro value slice pins s σ H x y v u Q I rx ry q hs;rcases q with q | q
 ·exact h value slice pins s σ H x y v u Q I rx ry q hs
 ·exact h' value slice pins s σ H x y v u Q I rx ry q hs
theorem W8 {r:R2} (hr:IxR X r) (ha:PE X a ta) (hb:PE X b tb) (hs:Tt b):PE X (.Subscript a b pos) (J6 r ta tb):=by
 intro pins s σ H Q I h;exact Subscript_ (Kc ha hb I h λ v u s2 x y H2 I2 rx ry q=>hr a b pins s2 σ H2 x y v u Q I2 rx ry q (hs _ _))
def G4 (K:PySem.W.Frag):R2:=λ x y H Q=>∃ p xs i v,x=.ref p/\y=.int i/\Br K H p xs/\BM xs i=some v/\Q v H
def M0 (K:PySem.W.Frag):R2:=λ x y H Q=>∃ p xs i v,x=.ref p/\y=.int i/\SqT K H p xs/\BM xs i=some v/\Q v H
def M1:R2:=λ x y H Q=>∃ z i c,x=.str z/\y=.int i/\z.length<=Au/\BM z.cps.toList i=some c/\Q (.str ⟨#[c]⟩) H
theorem qic:IxR X (G4 X.K):=by
 intro value slice pins s σ H x y v u Q I rx ry h hs;obtain ⟨p,xs,i,z,rfl,rfl,hq,he,q⟩:=h;cases rx;obtain ⟨t,rfl⟩:=ry;obtain ⟨its,r,pl,hz⟩:=I.list hq;obtain ⟨j,h1,h2,h3,h4,h5⟩:=Ol he;obtain ⟨w,ew,rw'⟩:=r.get h2;have hl:=r.length;have hn:=Ju;have fin:EP X pins σ Q w s:=⟨z,H,I,rw',q⟩
 by_cases h0:0<=i
 ·have hj:i.toNat=j:=by
   rw [OC h0 h5] at h1;exact Option.some.inj h1
  exact item_listR pl.isList h0 (by omega) (by rw [hj];simpa using ew) fin hs
 ·have hj:(i + (its.toArray.size:Int)).toNat=j:=by
   rw [seqIndex_neg (by omega) h4] at h1;rw [BQ,<- hl];exact Option.some.inj h1
  exact subscriptTail_builtinR (x:=w) pl.isList.typeIs slot_list_getitem.lookup
   (wpAny_getItem_list_neg (Q:=λ r s'=>r=w/\EP X pins σ Q r s') pl.isList (by omega) (by rw [BQ] <;> omega) (by omega) (by rw [hj];simpa using ew) ⟨rfl,fin⟩) hs
theorem qt4:IxR X (M0 X.K):=by
 intro value slice pins s σ H x y v u Q I rx ry h hs;obtain ⟨p,xs,i,z,rfl,rfl,hq,he,q⟩:=h;cases rx;obtain ⟨t,rfl⟩:=ry;obtain ⟨its,r,pl,hz⟩:=I.tuple hq;obtain ⟨j,h1,h2,h3,h4,h5⟩:=Ol he;obtain ⟨w,ew,rw'⟩:=r.get h2;have hl:=r.length;have hn:=Ju;have fin:EP X pins σ Q w s:=⟨z,H,I,rw',q⟩
 exact subscriptTail_builtinR (x:=w) pl.typeIs slot_tuple_getitem.lookup
  (getItem_tuple (j:=j) (Q:=λ r s'=>r=w/\EP X pins σ Q r s') pl (by omega) (by omega) (by rw [BQ,<- hl];exact h1) (by simpa using ew) ⟨rfl,fin⟩) hs
theorem kW:IxR X M1:=by
 intro value slice pins s σ H x y v u Q I rx ry h hs;obtain ⟨z,i,c,rfl,rfl,hz,he,q⟩:=h;obtain ⟨t,rfl⟩:=rx;obtain ⟨t',rfl⟩:=ry;obtain ⟨j,h1,h2,h3,h4,h5⟩:=Ol he;have hl:z.cps.toList.length=z.length:=by simp [Str.length]
 rw [hl] at h1 h4 h5;have hn:=Ju;exact tail_any (typeIs_str s z t) slot_str_getitem.lookup (getItem_str (c:=c) (by
  have e1:decide (i < -(2 ^ 63:Int))=false:=decide_eq_false (by omega);have e2:decide (i ≥ 2 ^ 63)=false:=decide_eq_false (by omega);rw [e1,e2,PR]) (by rw [h1];simpa using h2) ⟨.str ⟨#[c]⟩,H,I.tok _,⟨_,rfl⟩,q⟩) hs
def zK (K:PySem.W.Frag):R2:=λ x y H Q=>G4 K x y H Q\/M0 K x y H Q\/M1 x y H Q
theorem qt6:IxR X (zK X.K):=qic.or (qt4.or kW)
theorem fF (its:List Ae) (n j:Nat) (u:Ae):Jx (·.setIfInBounds j u) { cls:=.type "list",data:=.seq its.toArray n }={ cls:=.type "list",data:=.seq (its.set j u).toArray n }:=by
 simp [Jx]
theorem Inv.lst {pins:List (Addr×Obj)}{σ:St}{H:Hp}{s:Ai}{p:Addr}{xs:List V} (I:Inv X pins σ H s) (h:H p=some (.lst xs)):
  ∃ (its:List Ae) (n:Nat),Vals xs its/\s.heap.get? p=some { cls:=.type "list",data:=.seq its.toArray n }/\xs.length<=Au:=by
 obtain ⟨z,its,n,r,e⟩:=I.hok p _ h;exact ⟨its,n,r,e,z⟩
theorem Inv.lstUpd {pins:List (Addr×Obj)}{σ:St}{H:Hp}{s:Ai}{p:Addr}{xs ys:List V}{its its':List Ae}{n n':Nat}{f:Obj->Obj} (I:Inv X pins σ H s) (h:H p=some (.lst xs))
  (ho:s.heap.get? p=some { cls:=.type "list",data:=.seq its.toArray n }) (hf:f { cls:=.type "list",data:=.seq its.toArray n }={ cls:=.type "list",data:=.seq its'.toArray n' }) (r:Vals ys its') (hz:ys.length<=Au) (t:Nat):
  Inv X pins σ (Av H p (.lst ys)) { s with heap:=s.heap.update p f,toks:=t }:=by
 have e:(s.heap.update p f).get? p=some { cls:=.type "list",data:=.seq its'.toArray n' }:=by
  rw [KY f ho (by rw [hf] <;> rfl),hf]
 refine I.write (x:=p) (e:=p) (by rw [h];trivial) (.inl rfl) (λ b u hb q=>(OP _ _ (Et hb)).trans q) ⟨_,e⟩ ?_;exact ⟨hz,its',n',r,e⟩
def Pl:V->V->V->Hp->(Hp->Prop)->Prop:=λ o i v H Q=>∃ p xs k j,o=.ref p/\i=.int k/\H p=some (.lst xs)/\CG xs.length k=some j/\Q (Av H p (.lst (xs.set j v)))
theorem Ob:PSet X Pl:=by
 intro pins s σ H o i v ov iv u Q I ro ri rv h;obtain ⟨p,xs,k,j,rfl,rfl,hp,hj,q⟩:=h;cases ro;obtain ⟨t,rfl⟩:=ri;obtain ⟨its,n,r,ho,hz⟩:=I.lst hp;obtain ⟨h1,h2,h3,h4⟩:=XH hj;have hl:=r.length;have hn:=Ju;have I':Inv X pins σ (Av H p (.lst (xs.set j v))) { s with heap:=s.heap.update p (Jx (·.setIfInBounds j u)) }:=
  I.lstUpd hp ho (fF its n j u) (r.set rv j) (by rw [FD];exact hz) s.toks
 by_cases h0:0<=k
 ·have hk:k.toNat=j:=by
   rw [OC h0 h4] at h1;exact Option.some.inj h1
  exact PySem.W.ki_setAt ho h0 (by omega) (by rw [BQ,<- hl];exact h4) (by rw [hk];exact ⟨_,I',q⟩)
 ·have hk:(k + (its.toArray.size:Int)).toNat=j:=by
   rw [seqIndex_neg (by omega) h3] at h1;rw [BQ,<- hl];exact Option.some.inj h1
  exact PySem.W.ki_setBack ho (by omega) (by rw [BQ,<- hl];exact h3) (by omega) (by rw [hk];exact ⟨_,I',q⟩)
theorem l8 (lo hi:Option Int) (n:Nat):(Jy lo hi none n).1=((HT.sIx n 0 lo:Nat):Int)/\(Jy lo hi none n).2.1=((HT.sIx n n hi:Nat):Int)/\(Jy lo hi none n).2.2=1:=by
 refine ⟨?_,?_,rfl⟩
 ·cases lo with
  | none=>simp [Jy,HT.sIx]
  | some i=>
   simp only [Jy,HT.sIx,qz,show (1:Int) > 0 by decide,if_true];by_cases h:i < 0
   ·simp only [h,if_true] <;> omega
   ·simp only [h,if_false] <;> omega
 ·cases hi with
  | none=>simp [Jy,HT.sIx]
  | some i=>
   simp only [Jy,HT.sIx,qz,show (1:Int) > 0 by decide,if_true];by_cases h:i < 0
   ·simp only [h,if_true] <;> omega
   ·simp only [h,if_false] <;> omega
theorem zB (its:List Ae) (lo hi:Option Int):slicePick its.toArray lo hi none=((its.drop (HT.sIx its.length 0 lo)).take (HT.sIx its.length its.length hi - HT.sIx its.length 0 lo)).toArray:=by
 obtain ⟨h1,h2,h3⟩:=l8 lo hi its.toArray.size;unfold slicePick;rw [h1,h2,h3];simp only [sliceRange_one,pick_run,BQ] <;> rfl
def My (K:PySem.W.Frag):V->Option Int->Option Int->Hp->VK->Prop:=λ x lo hi H Q=>∃ a xs,x=.ref a/\Br K H a xs/\∀ p,H p=none->Q (.ref p) (Av H p (.lst (Eg xs lo hi)))
theorem qoi:SlR X (My X.K):=by
 intro pins s σ H x v vl vu lo hi sl Q I rx hs pl pu h;obtain ⟨a,xs,rfl,hx,q⟩:=h;cases rx;obtain ⟨its,r,ht,hz⟩:=I.list hx;have hlen:=r.length;refine ⟨"list",_,slot_list_getitem.lookup,ht.isList.typeIs,?_⟩;refine wpAny_getItem_list_slice ht.isList hs pl pu .none (by simp) ?_ (by rw [BQ] <;> omega);rw [zB,<- hlen];refine ⟨.ref s.heap.objs.size,_,I.laid (t':=s.toks) (o:=.lst (Eg xs lo hi)) (λ b ob q=>Ba _ q) (A5 _) ?_,rfl,q _ (I.hok.fresh (A5 _))⟩;exact ⟨BD (Vp xs lo hi) hz,_,0,(r.drop (HT.sIx xs.length 0 lo)).take (HT.sIx xs.length xs.length hi - HT.sIx xs.length 0 lo),BA _ rfl⟩
theorem qbn:zzw X (.builtin "len") (λ xs H Q=>∃ p ys,xs=[.ref p]/\(Br X.K H p ys\/SqT X.K H p ys)/\Q (.int ys.length) H):=by
 intro pins s σ H xs us Q I r h;obtain ⟨p,ys,rfl,hq,q⟩:=h;obtain ⟨u,rfl,rx⟩:=FU r;cases rx;have hn:=Ju;rcases hq with hq | hq
 ·obtain ⟨its,r',pl,hz⟩:=I.list hq;have hlen:=r'.length;exact Calls.call_len_list pl.isList (by simp only [BQ] <;> omega) ⟨.int ys.length,H,I.tok _,⟨s.toks + 1,by rw [BQ,hlen]⟩,q⟩
 ·obtain ⟨its,r',pl,hz⟩:=I.tuple hq;have hlen:=r'.length;exact len_tuple pl (by simp only [BQ] <;> omega) ⟨.int ys.length,H,I.tok _,⟨s.toks + 1,by rw [BQ,hlen]⟩,q⟩
theorem ll:zzw X (.builtin "len") (λ xs H Q=>∃ z,xs=[.str z]/\z.length<=Au/\Q (.int z.length) H):=by
 intro pins s σ H xs us Q I r h;obtain ⟨z,rfl,hz,q⟩:=h;obtain ⟨u,rfl,t,rfl⟩:=FU r;have hn:=Ju;exact len_str (by omega) ⟨.int z.length,H,I.tok _,⟨_,rfl⟩,q⟩
theorem zzw.or {f:Ae}{r r':List V->Hp->VK->Prop} (h:zzw X f r) (h':zzw X f r'):zzw X f (λ xs H Q=>r xs H Q\/r' xs H Q):=by
 intro pins s σ H xs us Q I rs q;rcases q with q | q
 ·exact h pins s σ H xs us Q I rs q
 ·exact h' pins s σ H xs us Q I rs q
theorem lq:zzw X (.type "list") (λ xs H Q=>∃ p ys,xs=[.ref p]/\(Br X.K H p ys\/SqT X.K H p ys)/\∀ l,H l=none->Q (.ref l) (Av H l (.lst ys))):=by
 intro pins s σ H xs us Q I r h;obtain ⟨p,ys,rfl,hq,q⟩:=h;obtain ⟨u,rfl,rx⟩:=FU r;cases rx;have fin:∀ (its:List Ae),Vals ys its->ys.length<=Au->∀ (h':Heap) (c':Nat),(∀ b o',s.heap.get? b=some o'->h'.get? b=some o') ->
   h'.get? s.heap.objs.size=some { cls:=.type "list",dict:=none,data:=.seq its.toArray c',slots:=#[] }->EP X pins σ Q (.ref s.heap.objs.size) { s with heap:=h' }:=λ its r' hz h' c' kp e=>
  ⟨.ref s.heap.objs.size,_,I.laid (t':=s.toks) kp (A5 _) (show zxk X.prog X.w _ h' _ (.lst ys) from ⟨hz,its,c',r',e⟩),rfl,q _ (I.hok.fresh (A5 _))⟩
 rcases hq with hq | hq
 ·obtain ⟨its,r',pl,hz⟩:=I.list hq;have hlen:=r'.length;obtain ⟨o,ho,hc,n,hd⟩:=pl.isList;exact call_list_seq p (.inl rfl) ho hc hd (λ h' c' kp e=>fin its r' hz h' c' kp e) (by simp only [BQ] <;> omega)
 ·obtain ⟨its,r',pl,hz⟩:=I.tuple hq;have hlen:=r'.length;obtain ⟨o,ho,hc,n,hd⟩:=pl;exact call_list_seq p (.inr rfl) ho hc hd (λ h' c' kp e=>fin its r' hz h' c' kp e) (by simp only [BQ] <;> omega)
def RU (K:PySem.W.Frag) (T:String) (x:V) (H:Hp):Prop:=match x with
 | .str _=>T = "str"
 | .int _=>T = "int"
 | .ref p=>(T = "list" /\ ∃ xs,Br K H p xs)\/(T = "tuple" /\ ∃ o,K.lookup p=some o/\o.cls=.type "tuple" /\ o.dict=none) \/
   (T = "dict" /\ ((∃ kvs,H p=some (.dK kvs))\/∃ kvs,H p=some (.dT kvs)))\/(T = "set" /\ ∃ S n,H p=some (.set S n))
 | _=>False
theorem wu {pins:List (Addr×Obj)}{σ:St}{H:Hp}{s:Ai}{T:String}{x:V}{v:Ae} (I:Inv X pins σ H s) (r:RelV x v) (ty:RU X.K T x H):
  s.TypeIs v T/\∀ a,v=.ref a->∃ ob,s.heap.get? a=some ob/\ob.dict=none:=by
 cases x with
 | str z=>
  obtain ⟨t,rfl⟩:=r;cases (show T = "str" from ty);exact ⟨typeIs_str s z t,λ _ e=>nomatch e⟩
 | int i=>
  obtain ⟨t,rfl⟩:=r;cases (show T = "int" from ty);exact ⟨typeIs_int s i t,λ _ e=>nomatch e⟩
 | ref p=>
  cases r;rcases ty with ⟨rfl,xs,hq⟩ | ⟨rfl,o,hk,hc,hd⟩ | ⟨rfl,hk⟩ | ⟨rfl,S,n,hk⟩
  ·obtain ⟨its,_,pl,_⟩:=I.list hq;refine ⟨pl.isList.typeIs,λ a e=>?_⟩;cases e;obtain ⟨o,n,e,c,hd,_⟩:=pl;exact ⟨o,e,hd⟩
  ·refine ⟨⟨o,I.kIn p o hk,hc⟩,λ a e=>?_⟩;cases e;exact ⟨o,I.kIn _ o hk,hd⟩
  ·have z:∃ o,s.heap.get? p=some o/\o.ExactDict:=by
    rcases hk with ⟨kvs,hk⟩ | ⟨kvs,hk⟩
    ·obtain ⟨_,_,_,_,o,_,_,e,ex,_⟩:=I.hok p _ hk;exact ⟨o,e,ex⟩
    ·obtain ⟨_,_,_,_,o,_,_,e,ex,_⟩:=I.hok p _ hk;exact ⟨o,e,ex⟩
   obtain ⟨o,e,ex⟩:=z;refine ⟨⟨o,e,ex.1⟩,λ a e2=>?_⟩;cases e2;exact ⟨o,e,ex.2.1⟩
  ·obtain ⟨o,_,_,_,e,ex,_⟩:=I.hok p _ hk;refine ⟨⟨o,e,ex.1⟩,λ a e2=>?_⟩;cases e2;exact ⟨o,e,ex.2.1⟩
 | _=>exact GZ ty
def Pd (K:PySem.W.Frag) (T:String) (r:V->List V->Hp->VK->Prop) (to:TE) (t:TA):TE:=λ σ H Q=>to σ H λ x H1=>RU K T x H1/\t σ H1 λ xs H2=>r x xs H2 Q
variable {o e:Expr}{es:List Expr}{to:TE}{t:TA}{name:Str}{apos cpos:Pos}{T id:String}{r:V->List V->Hp->VK->Prop}
theorem Sr (pa:PlainAttrs T) (slot:Slot T name id) (hty:typeOf (.builtin id)=pure (.type "method_descriptor")) (hm:UT X id r) (ho:PE X o to) (ha:PA X (e::es) t)
  (hbase:attributeBase o name X.env (eval o X.env)=eval o X.env:=by rfl)
  (hfew:((FV cpos (Bt (e::es) X.env)).all (λ x=>!x.1) && (backToKw cpos (keywordEach [] X.env)).all (λ x=>x.1.isSome)
   && decide ((e::es).length + ([]:List Keyword).length + (if ([]:List Keyword).isEmpty then 0 else 1) < 30))=true:=by rfl)
  (hline:(apos.endLine == cpos.line)=true:=by rfl) (hs:Bt (e::es) X.env=(false,eval e X.env)::Bt es X.env:=by rfl) (hplain:(FV cpos (Bt es X.env)).any (·.1)=false:=by rfl):
  PE X (.Call (.Attribute o name apos) (e::es) [] cpos) (Pd X.K T r to t):=by
 intro pins s σ H Q I h;refine wpAny_Call_method_late hbase hfew hline rfl (A2 (ho pins s σ H _ I h) λ v s1 ⟨x,H1,I1,r1,ty,q1⟩=>?_);obtain ⟨h1,h2⟩:=wu I1 r1 ty;refine ⟨T,id,pa,slot,hty,h1,h2,?_⟩;have hA:=ha cpos pins s1 σ H1 _ I1 q1;rw [hs] at hA ⊢;refine Calls.callWith_builtin (by show (false || (FV cpos (Bt es X.env)).any (·.1))=false;rw [hplain] <;> rfl) (Calls.evalArgs_plain ?_);exact A2 hA λ us s2 ⟨vs,H2,I2,r2,q2⟩=>hm pins s2 σ H2 x vs v us Q I2 r1 r2 q2
end
def xm (X:Cx) (id:String) (r:V->List V->Hp->VK->Prop):Prop:=
 ∀ (pins:List (Addr×Obj)) (s:Ai) (σ:St) (H:Hp) (x:V) (xs:List V) (v:Ae) (us:List Ae) (Q:VK),Inv X pins σ H s->RelV x v->Vals xs us->r x xs H Q ->
  Al (Ay X.prog X.w) X.A (call (.builtin id) (v::us)) (EP X pins σ Q) X.xe s
theorem Vals.one:∀ {x:V}{us:List Ae},Vals [x] us->∃ u,us=[u]/\RelV x u
 | _,_,.cons r .nil=>⟨_,rfl,r⟩
theorem Vals.rep {xs:List V}{us:List Ae} (h:Vals xs us):∀ k:Nat,Vals (A6 k xs).flatten (A6 k us).flatten
 | 0=>.nil
 | k + 1=>by
  rw [Fh,Fh,IZ,IZ];exact Vals.append h (Vals.rep h k)
theorem ZE (its:List Ae):∀ (k:Nat) (acc:List Ae),
  TH (λ x1 x2=>x1++x2) acc.toArray (A6 k its.toArray)=(acc++(A6 k its).flatten).toArray
 | 0,acc=>by simp
 | k + 1,acc=>by
  have e:acc.toArray++its.toArray=(acc++its).toArray:=by simp
  have e2:(acc++its)++(A6 k its).flatten=acc++(A6 (k + 1) its).flatten:=by
   rw [Fh,IZ,Ig]
  rw [<- e2,<- ZE its k (acc++its),<- e,Fh,TV]
section
variable {X:Cx}{pins:List (Addr×Obj)}{σ:St}{H:Hp}{s:Ai}{l b:Addr}{xs ys zs:List V}
theorem Inv.lset {its its':List Ae}{n:Nat}{f:Array Ae->Array Ae}{t':Nat} (I:Inv X pins σ H s) (hH:H l=some (.lst xs))
  (e:s.heap.get? l=some { cls:=.type "list",data:=.seq its.toArray n }) (hf:f its.toArray=its'.toArray) (hv:Vals ys its') (hz:ys.length<=Au):
  Inv X pins σ (Av H l (.lst ys)) { s with heap:=s.heap.update l (Jx f),toks:=t' }:=by
 have q:=PySem.IsL.update e f;rw [hf] at q;refine I.write (x:=l) (e:=l) (by rw [hH];exact trivial) (.inl rfl) (λ b' u hb hu=>(OP s.heap (Jx f) (Et hb)).trans hu) ⟨_,q⟩ ?_;exact ⟨hz,its',_,hv,q⟩
theorem Inv.lnew {its:List Ae}{t':Nat} (I:Inv X pins σ H s) (hv:Vals ys its) (hz:ys.length<=Au):
  Inv X pins σ (Av H s.heap.objs.size (.lst ys)) { s with heap:=s.heap.push { cls:=.type "list",data:=.seq its.toArray },toks:=t' }:=
 I.laid (λ _ _ q=>Ba _ q) (A5 _) ⟨hz,its,0,hv,BA _ rfl⟩
theorem Inv.fresh (I:Inv X pins σ H s):H s.heap.objs.size=none:=I.hok.fresh (A5 _)
theorem Inv.lstM (I:Inv X pins σ H s) (hH:H l=some (.lst xs)):xs.length<=Au/\∃ (its:List Ae) (n:Nat),Vals xs its/\xs.length=its.length/\s.heap.get? l=some { cls:=.type "list",data:=.seq its.toArray n }:=by
 obtain ⟨z,its,n,r,e⟩:=I.hok l _ hH;exact ⟨z,its,n,r,r.length,e⟩
theorem YT {n:Nat} (h:n<=Au):OQ n=false:=by
 unfold OQ;exact decide_eq_false (by omega)
end
section
variable {X:Cx}
def Yw:V->List V->Hp->VK->Prop:=λ x vs H Q=>∃ l xs y,x=.ref l/\vs=[y]/\H l=some (.lst xs)/\xs.length < Au/\Q .non (Av H l (.lst (xs++[y])))
theorem ZY:xm X "list.append" Yw:=by
 intro pins s σ H x vs v us Q I rx rv h;obtain ⟨l,xs,y,rfl,rfl,hH,hz,q⟩:=h;cases rx;obtain ⟨u,rfl,ru⟩:=rv.one;obtain ⟨z,its,n,r,hl,e⟩:=I.lstM hH;refine call_meets F.slot_list_append ⟨_,e,rfl⟩ F.entry_list_append (F.args_list_append_2 _ _) (PySem.list_append l its.toArray n u (by rw [BQ];omega)) ⟨e,?_⟩;refine ⟨.non,_,I.lset (its':=its++[u]) hH e (by simp) (r.append (.cons ru .nil)) ?_,rfl,q⟩;rw [Bm,GC];omega
def Yx:V->List V->Hp->VK->Prop:=λ x vs H Q=>∃ l b xs zs,x=.ref l/\vs=[.ref b]/\H l=some (.lst xs)/\H b=some (.lst zs)/\xs.length + zs.length<=Au/\Q .non (Av H l (.lst (xs++zs)))
theorem dQ:xm X "list.extend" Yx:=by
 intro pins s σ H x vs v us Q I rx rv h;obtain ⟨l,b,xs,zs,rfl,rfl,hH,hB,hz,q⟩:=h;cases rx;obtain ⟨u,rfl,ru⟩:=rv.one;cases ru;obtain ⟨z,its,n,r,hl,e⟩:=I.lstM hH;obtain ⟨z2,its2,n2,r2,hl2,e2⟩:=I.lstM hB;have hsz:its.toArray.size + its2.toArray.size<=Au:=by rw [BQ,BQ];omega
 have hlong:¬ (!its.toArray.isEmpty && OQ (its.toArray.size + its2.toArray.size))=true:=by
  rw [YT hsz,PU];exact Ce
 refine call_meets F.slot_list_extend ⟨_,e,rfl⟩ F.entry_list_extend (F.args_list_extend_2 _ _)
  (AutoSeq1.list_extend_list_list_0 l its.toArray n b its2.toArray n2 hlong (by rw [BQ];omega) (by omega)) ⟨e,e2,?_⟩
 refine ⟨.non,_,I.lset (its':=its++its2) hH e (by simp) (r.append r2) ?_,rfl,q⟩;rw [Bm];omega
def Se:R2:=λ x y H Q=>∃ l b xs zs,x=.ref l/\y=.ref b/\H l=some (.lst xs)/\H b=some (.lst zs)/\xs.length + zs.length<=Au/\∀ p,H p=none->Q (.ref p) (Av H p (.lst (xs++zs)))
theorem qto:OpR X (EA .Add) Se:=by
 intro pins s σ H x y v u Q I rx ry h;obtain ⟨l,b,xs,zs,rfl,rfl,hH,hB,hz,q⟩:=h;cases rx;cases ry;obtain ⟨z,its,n,r,hl,e⟩:=I.lstM hH;obtain ⟨z2,its2,n2,r2,hl2,e2⟩:=I.lstM hB;refine PySem.P.add_list e e2 ?_ (by rw [BQ,BQ];omega);have ea:its.toArray++its2.toArray=(its++its2).toArray:=by simp
 rw [ea];exact ⟨.ref _,_,I.lnew (t':=s.toks) (r.append r2) (by rw [Bm];omega),rfl,q _ I.fresh⟩
def Sd:R2:=λ x y H Q=>∃ l k xs,x=.ref l/\y=.int k/\H l=some (.lst xs)/\-(2 ^ 63)<=k/\k < 2 ^ 63/\xs.length * k.toNat<=Au /\
 ∀ p,H p=none->Q (.ref p) (Av H p (.lst (A6 k.toNat xs).flatten))
theorem yy {α:Type} (xs:List α) (k:Nat):(A6 k xs).flatten.length=k * xs.length:=by
 induction k with
 | zero=>simp
 | succ k ih=>rw [Fh,IZ,Bm,ih,Nf,Nat.add_comm]
theorem qta:OpR X (EA .Mult) Sd:=by
 intro pins s σ H x y v u Q I rx ry h;obtain ⟨l,k,xs,rfl,rfl,hH,h1,h2,hz,q⟩:=h;cases rx;obtain ⟨t,rfl⟩:=ry;obtain ⟨z,its,n,r,hl,e⟩:=I.lstM hH;have hlen:its.toArray.size * k.toNat<=Au:=by rw [BQ,<- hl];exact hz
 have hcap:¬ its.toArray.size * k.toNat > (2 ^ 63 - 1) / 8:=by
  have:(Au:Nat)<=(2 ^ 63 - 1) / 8:=by decide
  omega
 have hfit:¬ (!Builtin.List.listFitsIndex k)=true:=by
  rw [fitsIndex_both h1 h2];exact Ce
 have hlong:¬ OQ (its.toArray.size * k.toNat)=true:=by
  rw [YT hlen];exact Ce
 have hnew:TH (λ x1 x2=>x1++x2) #[] (A6 (if its.toArray.isEmpty=true then 0 else k.toNat) its.toArray)=(A6 k.toNat its).flatten.toArray:=by
  have f0:∀ m:Nat,TH (λ x1 x2=>x1++x2) #[] (A6 m its.toArray)=(A6 m its).flatten.toArray:=λ m=>by
   have:=ZE its m []
   rw [Ex] at this;exact this
  rw [f0];cases its with
  | nil=>simp
  | cons a r'=>rw [if_neg (by simp)]
 refine wpAny_binaryOp_repeat_ref (T := "list") (U := "int") (by decide) ⟨_,e,rfl⟩ (λ s'=>typeIs_int s' k t) noFill_list_mul F.fills_int_mul F.slot_int_rmul repeat_list F.slot_int_index.lookup
  (call_meets F.slot_int_rmul (typeIs_int s k t) F.entry_int_rmul (F.args_int_rmul_2 _ _) (int___rmul___int_list k t l its.toArray n)
   ⟨e,rfl,⟨_,e,rfl⟩,call_meets F.slot_list_mul ⟨_,e,rfl⟩ F.entry_list_mul (F.args_list_mul_2 _ _) (AutoListH.list___mul___list_int_3 l its.toArray n k t hfit hcap hlong) ⟨e,?_⟩⟩)
 rw [hnew];exact ⟨.ref _,_,I.lnew (t':=s.toks) (r.rep k.toNat) (by rw [yy,PQ];exact hz),rfl,q _ I.fresh⟩
end
section
variable {prog:AB}{w:A9}{A:Bi}{E:Ae->Ai->Prop}{s:Ai}
end
section
variable {X:Cx}
end
end L2
namespace Att
open PySem PySem.W PySem.Calls PyProof.Rows
theorem z6 {P:Params}{h:Heap}:∀ (ns:List Int) (vs:List Ae),WellAll P h vs (ns.map WData.int)->EY vs ns:=by
 intro ns;induction ns with
 | nil=>
  intro vs w;rw [Hf] at w;cases w;exact .nil
 | cons n ns ih=>
  intro vs w;rw [AR] at w;cases w with
  | cons a b=>
   cases a;exact .cons _ _ (ih _ b)
theorem fq {l:OpenLaw}{n:Nat} (hn:l.most=some n) {P:Params}{h:Heap}{args:List WData}{vals:List Ae}
  (hpre:l.row.toRowW.claim.pre args=true) (hwl:WellAll P h vals args):
  ∃ a vs ns,vals=[Value.ref a]/\args=[WData.list (ns.map WData.int)]/\h.get? a=some { cls:=.type "list",data:=.seq vs.toArray }/\EY vs ns/\ns.length<=n:=by
 have hsh:WShape.hasAll [] args [.list .int]=true:=(pre_splitW hpre).1;have hc:l.pre.holds [] { args:=args }=true:=(pre_splitW hpre).2;obtain ⟨d,r,rfl,h1,h2⟩:=hasAllW_cons hsh;obtain rfl:=hasAllW_nil h2;obtain ⟨xs,rfl,h3⟩:=hasW_list h1;obtain ⟨ns,rfl⟩:=items_int h3;have hlen:ns.length<=n:=by
  unfold OpenLaw.pre at hc;have h4:(WTm.not (.lt (.lit (.int (n:Int))) (.len (.arg 0)))).holds [] { args:=[.list (ns.map .int)] }=true:=by
   have h4:=(holds_andW hc).1;rw [hn] at h4;exact h4
  have h5:=condW_of h4 (w_not (w_lt w_lit (w_len_list (w_arg rfl))));rw [Ax] at h5;refine Nat.le_of_not_lt λ q=>?_;have q':(n:Int) < ((ns.length:Nat):Int):=by omega
  first
   | (rw [decide_eq_true q'] at h5;exact absurd h5 (by decide))
   | (simp at h5;omega)
 cases hwl with
 | cons w1 w2=>
  cases w2;cases w1 with
  | list ho hall=>exact ⟨_,_,ns,rfl,rfl,ho,z6 ns _ hall,hlen⟩
theorem fe (l:OpenLaw) (args:List WData):l.row.toRowW.claim.post args (.bool true) args=true:=
 postW_of (r:=l.row.toRowW) (X:=(true == true))
  (show WShape.has [] (.bool true) .bool=true by first | rfl | decide | simp [WShape.has,WShape.arms,WShape.armsAll])
  (show (WTm.eq .res (.lit (.bool true))).value [] { args:=args,res:=some (.bool true),after:=args }=some (.bool (true == true)) from w_eq_bool (w_res rfl) w_lit) rfl
theorem attach_call {l:OpenLaw}{n:Nat}{q:AB}{loose:List Str}{XP:(Str->Option Ae)->Heap->Prop}{YP:A9->Heap->Prop}{d:DefRec}
  (hn:l.most=some n) (hdf:d.params.defaults=[])
  (call:∀ (w:A9) (s₀ s₁:Ai) (mg mb:Str->Option Ae) (fa:Addr) (o:Obj) (pm cd doc:Ae) (a:Addr) (vs:List Ae) (ns:List Int),
   Ground q loose [] XP w s₀ mg mb s₁.heap->YP w s₁.heap ->
   s₁.heap.get? fa=some o->o.data=.func (docDef d.name d.params d.body d.scope pm cd doc)->s₁.heap.CodeRec cd d.name->mg d.name=some (.ref fa) ->
   s₁.heap.get? a=some { cls:=.type "list",data:=.seq vs.toArray }->EY vs ns->ns.length<=n->s₁.gens=#[] ->
   IC (Ay l.prog w) Jv (.call (.ref fa) ⟨[.ref a],[]⟩) (λ r s'=>r=.ok (.ret (.bool true))/\OldK s₁.heap s'.heap/\s'.os=s₁.os/\Gs s'.gens) s₁):
  WalkO q loose XP YP l.row.toRowW d [] (λ f vs=>PySem.call f vs):=by
 intro w s₀ s₁ mg mb G Y fa o pm cd doc dV kV ho hd hcd hD hmg hg args vals as hpre hlay hrd hwl hlo;obtain rfl:dV=.none:=Dflts.none hD hdf;obtain rfl:kV=.none:=Dflts.noKw hD;obtain ⟨a,vs,ns,rfl,rfl,hobj,hints,hlen⟩:=fq hn hpre hwl;refine enter_call (codeAny_mono (call w s₀ s₁ mg mb fa o pm cd doc a vs ns G Y ho (fd_plain hd) hcd hmg hobj hints hlen hg) λ r s' hq=>?_);obtain ⟨rfl,h2,h3,h4⟩:=hq;exact ⟨.inl ⟨.bool true,.bool true,[],rfl,λ _=>rfl,.bool true,fe l _,λ _=>⟨List.Pairwise.nil,λ _ hm=>(nomatch hm)⟩⟩,h2,h3,h4⟩
section
variable {prog:AB}{w:A9}{A:Bi}{E:Ae->Ai->Prop}{s:Ai}{K:Frag}
end
end Att
namespace L2
open PySem PySem.Spec PyProof.Rows
theorem Vx:∀ {vs:List Ae}{ns:List Int},EY vs ns->Vals (ns.map V.int) vs
 | _,_,.nil=>.nil
 | _,_,.cons n t h=>.cons ⟨t,rfl⟩ (Vx h)
def Kg (H:Hp):Prop:=∀ b,H b=none\/∃ o xs,H b=some (.frz o (.lst xs))
theorem gB {P:AB}{w:A9}{K:PySem.W.Frag}{mg mb:Str->Option Ae}{CX:Gg}{k:Nat}{fa a:Addr}{fd:DW}{x:Str}{sp:Sp}{s₁:Ai}{vs:List Ae}{ns:List Int}
  (KX:K.In s₁.heap) (hns:s₁.heap.Ns ED mg) (hb:s₁.heap.Ns builtinsNs mb) (hbb:∀ x:Str,x ≠ "__name__" -> mb x=IG x) (hlim:s₁.heap.NoLimit) (hg:s₁.gens=#[])
  (ha:s₁.heap.get? a=some { cls:=.type "list",data:=.seq vs.toArray }) (hi:EY vs ns) (hl:ns.length<=Au) (hr:Room k Jv)
  (F:∀ base:Heap,K.In base->base.Ns ED mg->FnOk P w K mg base CX k fa fd [x] sp) (hbind:∀ (s:Ai) (u:Ae),BindsTo s fd ⟨[u],[]⟩ [(x,u)])
  (hsp:∀ H:Hp,Kg H->Br K H a (ns.map V.int)->sp [.ref a] H (λ v _=>v=.bl true) λ _ _ _=>False)
  (hCX:∀ H e s',CX [] H s₁ (λ _ _ _=>False) e s'->False):
  IC (Ay P w) Jv (.call (.ref fa) ⟨[.ref a],[]⟩) (λ r s'=>r=.ok (.ret (.bool true))/\OldK s₁.heap s'.heap/\s'.os=s₁.os/\Gs s'.gens) s₁:=by
 have rv:=Vx hi;have lenV:=hi.length;have core:∀ H:Hp,Kg H->Br K H a (ns.map V.int)->HOk P w H s₁.heap->(∀ b,H b≠none->b=a)->(H a≠none->K.lookup a=none) ->
   IC (Ay P w) Jv (.call (.ref fa) ⟨[.ref a],[]⟩) (λ r s'=>r=.ok (.ret (.bool true))/\OldK s₁.heap s'.heap/\s'.os=s₁.os/\Gs s'.gens) s₁:=by
  intro H hO hS hok hA hK;have base_of:∀ {b:Addr}{o:Obj},s₁.heap.get? b=some o->H b=none->(DD s₁.heap H).get? b=some o:=λ e n=>gq e n;have noA:∀ {b:Addr}{o:Obj}{es:Array EB}{ep:Nat},s₁.heap.get? b=some o->o.data=.dict es ep->H b=none:=λ {b o es ep} e d=>by
   cases q:H b with
   | none=>rfl
   | some u=>
    have e':b=a:=hA b (by rw [q];simp);subst e';rw [ha] at e;cases e;have d':Data.seq vs.toArray _=Data.dict es ep:=d;cases d'
  have nsK:∀ {b:Addr}{m:Str->Option Ae},s₁.heap.Ns b m->(DD s₁.heap H).Ns b m:=λ {b m} ⟨o,es,ep,e,d,r⟩=>⟨o,es,ep,base_of e (noA e d),d,r⟩
  have hKb:K.In (DD s₁.heap H):=λ b o e=>base_of (KX b o e) (by
   cases q:H b with
   | none=>rfl
   | some u=>
    have e':b=a:=hA b (by rw [q];simp);subst e';rw [hK (by rw [q];simp)] at e;cases e)
  have hM:Mod K mg (DD s₁.heap H):=⟨hKb,nsK hns,⟨mb,nsK hb,hbb⟩,let ⟨mc,h1,h2⟩:=hlim;⟨mc,nsK h1,h2⟩⟩
  have e0:Env0 P w K mg (DD s₁.heap H) Jv [] s₁ H:=⟨rfl,hM,λ b o e=>yC e,Nat.le_of_eq (dD _ _),trivial,λ b hb=>absurd (show b∈([]:List Addr) from hb) (by simp),hok,.of_eq hg⟩
  refine codeAny_mono ((F _ hKb (nsK hns)).run Jv [] s₁ H ⟨[.ref a],[]⟩ [.ref a] [.ref a] _ _ hr e0 (hbind s₁ (.ref a)) (.cons rfl .nil) (hsp H hO hS)) λ r s' h=>?_;cases r with
  | error e=>exact (hCX H e s' h).elim
  | ok fl=>
   cases fl with
   | next=>exact GZ h
   | brk=>exact GZ h
   | cont=>exact GZ h
   | ret u=>
    obtain ⟨v,H',os,bare,un,hok',r',q⟩:=h;have q':v=.bl true:=q;subst q';obtain rfl:u=Value.bool true:=r';refine ⟨rfl,OldK.of_keep λ b o e=>?_,os,bare⟩;cases q:H b with
    | none=>exact un.keep b o e q (by intro z;exact absurd (show b∈([]:List Addr) from z) (by simp)) (by simp)
    | some u=>
     rcases hO b with z | ⟨ob,xs,z⟩
     ·rw [q] at z;cases z
     ·have z2:=un.frzs b ob _ z;obtain ⟨e1,_⟩:=hok b _ z;obtain ⟨e2,_⟩:=hok' b _ z2;rw [e] at e1;cases e1;exact e2
 cases hk:K.lookup a with
 | some o=>
  have e:=KX a o hk;rw [ha] at e;cases e;refine core (λ _=>none) (λ _=>.inl rfl) (.inr ⟨_,vs.toArray,_,hk,rfl,rfl,rfl,by rw [BQ,lenV];exact hl,by simpa using rv⟩) (λ b u z=>by have z':(none:Option HO)=some u:=z;cases z') (λ b z=>absurd rfl z) λ z=>absurd rfl z
 | none=>
  refine core (λ b=>if b=a then some (.frz { cls:=.type "list",data:=.seq vs.toArray } (.lst (ns.map V.int))) else none) (λ b=>?_) (.inl (.inr ⟨{ cls:=.type "list",data:=.seq vs.toArray },if_pos rfl⟩)) (λ b u z=>?_) (λ b z=>?_) λ _=>hk
  ·by_cases hb:b=a
   ·exact .inr ⟨_,_,if_pos hb⟩
   ·exact .inl (if_neg hb)
  ·by_cases hb:b=a
   ·have z':=(if_pos hb).symm.trans z;cases z';subst hb;exact ⟨ha,by rw [Ax];exact hl,vs,_,rv,ha⟩
   ·have z':=(if_neg hb).symm.trans z;cases z'
  ·by_cases hb:b=a
   ·exact hb
   ·exact absurd (if_neg hb) z
structure Fun (K:PySem.W.Frag) (x qual:Str) (st:Stmt) (f:Addr) (fd:DW):Prop where
 ex:∃ (oc:Ae) (od:Option Addr) (kV doc pm:Ae) (an:Option Addr) (cdv ct:Ae) (osl:Array (Option Ae)),
  fd=J0 x qual (Ji st) (Iv st) (Dt st) .none kV doc pm an cdv ct/\K.lookup f=some ⟨oc,od,.func fd,osl⟩/\Rn K cdv qual=true
 kp:KN K (.ref f)=true
section
variable {P:AB}{w:A9}{K:PySem.W.Frag}{mg:Str->Option Ae}{base:Heap}
theorem ka {x qual:Str}{st:Stmt}{f:Addr}{oc:Ae}{od an:Option Addr}{osl:Array (Option Ae)}{kV doc pm cdv ct:Ae} (l:K.lookup f=some ⟨oc,od,.func (J0 x qual (Ji st) (Iv st) (Dt st) .none kV doc pm an cdv ct),osl⟩)
  (c:Rn K cdv qual=true) (k:KN K (.ref f)=true):Fun K x qual st f (J0 x qual (Ji st) (Iv st) (Dt st) .none kV doc pm an cdv ct):=⟨⟨oc,od,kV,doc,pm,an,cdv,ct,osl,rfl,l,c⟩,k⟩
end
section
variable {X:Cx}
end
end L2
namespace QQ
open PySem PySem.Spec PyProof.Rows L2
abbrev St:=L2.St
def KL (K:Frag) (a:Addr) (xs:List V):Prop:=∃ (o:Obj) (its:Array Ae) (n:Nat),K.lookup a=some o/\o.cls=.type "list" /\ o.dict=none/\o.data=.seq its n/\its.size<=Au/\Vals xs its.toList
theorem Y5 {K:Frag}{H:Hp}{a:Addr}{xs:List V} (h:Br K H a xs):RU K "list" (.ref a) H:=.inl ⟨rfl,xs,h⟩
def UZ (z:Str):It:=⟨λ i _=>i < z.cps.size,λ i H v H'=>H'=H/\∃ c,z.cps[i]?=some c/\v=.str ⟨#[c]⟩,λ i _=>z.cps.size<=i⟩
def ME (z:Str):Bool:=z.cps.all (·< 128)
def JZ (K:Frag) (tl:TE):TI:=λ σ H R=>tl σ H λ x H1=>(∃ a,x=.ref a/\(((∃ xs,Br K H1 a xs)/\R (UX K a) H1)\/((∃ xs,SqT K H1 a xs)/\R (UW K a) H1)))\/∃ z,x=.str z/\ME z=true/\R (UZ z) H1
def Pm (k:Nat) (wi:TI) (g:TG) (tc:TT) (te:TE):TE:=λ σ H Q=>wi σ H λ J H1=>∀ D,H1 D=none->∃ W:Nat->Nat->List V->Hp->Prop,(∃ m,W 0 m [] (Av H1 D (.lst [])))/\∀ i m ys H,W i m ys H->H D=some (.lst ys) /\
 ((J.stop i H/\Q (.ref D) H)\/(J.go i H/\∀ x H',J.yld i H x H'->g x (σ++A6 k none) H' λ σ2 H2=>tc σ2 H2 λ b H3=>if b=true then te σ2 H3 λ y H4=>H4 D=some (.lst ys)/\ys.length < Au/\∃ m',m' < m/\W (i + 1) m' (ys++[y]) (Av H4 D (.lst (ys++[y]))) else ∃ m',m' < m/\W (i + 1) m' ys H3))
inductive PV where
 | non | bl (b:Bool) | int (i:Int) | str (x:Str) | lst (xs:List PV) | tup (xs:List PV) | emp | dko | scr (ns:List Int) | dct (kvs:List (List A0×V)) | dcl (ks:List (List A0)) (xs:List PV) | exn (c:Nat)
 | loc (n:Nat) | dks (ks:List A0) (xs:List PV) | ins (fs:List Str) (xs:List PV) | sto (os:List PV)
 deriving Inhabited
def Pt:PV->Bool
 | .lst _=>false
 | .tup _=>false
 | .dct _=>false
 | .dcl _ _=>false
 | _=>true
def Pe:List PV->Bool
 | []=>true
 | x::xs=>Pt x && Pe xs
def C5:PV->Bool
 | .tup xs=>Pe xs
 | x=>Pt x
def Cw:List PV->Bool
 | []=>true
 | x::xs=>C5 x && Cw xs
def zO (a C:Addr) (h:Heap):Prop:=∃ o vs,h.get? a=some o/\o.cls=.ref C/\o.data=.fields vs
def om:Nat:=1000
structure Kx where
 K:Frag
 lc:List Addr
 st:Addr->Prop
def Le (H H':Hp):Prop:=∀ a o,H a=some o->H' a=some o
def Mo:HO->Prop
 | .lst _=>True
 | .dT _=>True
 | _=>False
def So:HO->Prop
 | .dK _=>True
 | .ins _ _ _=>True
 | .own _=>True
 | _=>False
def Co:PV->Bool
 | .lst _=>true
 | .dct _=>true
 | .dcl _ _=>true
 | _=>false
def Rf (K:Kx) (H:Hp) (a:Addr):PV->Prop
 | .emp=>¬ K.st a/\H a=some (.dK [])
 | .dko=>¬ K.st a/\∃ kvs,H a=some (.dK kvs)
 | .scr ns=>(∃ o,H a=some (.frz o (.lst (ns.map V.int))))\/KL K.K a (ns.map V.int)
 | .exn c=>∃ C,FR K.K c=some C/\H a=some (.ext (zO a C))
 | .loc n=>K.lc[n]?=some a
 | _=>False
def Nd (R:HO->Prop) (xs:List PV) (vs:List V):PV->Prop
 | .lst ys=>ys=xs/\R (.lst vs)
 | .dct kvs=>xs=[]/\vs=[]/\R (.dT kvs)
 | .dcl ks ys=>ys=xs/\ks.length=xs.length/\R (.dT (ks.zip vs))
 | _=>False
def Rv (H:Hp) (a:Addr):HO->Prop
 | .dT kvs=>Rd H a (.dT kvs)
 | o=>H a=some o
inductive Is (K:Kx) (H:Hp) (Z:Addr->Prop):PV->V->Prop
 | non:Is K H Z .non .non
 | bl (b):Is K H Z (.bl b) (.bl b)
 | int (i):Is K H Z (.int i) (.int i)
 | str (x):Is K H Z (.str x) (.str x)
 | rf {x a} (h:Rf K H a x):Is K H Z x (.ref a)
 | tup {xs a vs} (h:H a=some (.tup vs)) (k:Bj (Is K H Z) xs vs):Is K H Z (.tup xs) (.ref a)
 | nd {x a xs vs} (n:¬ Z a) (h:Nd (Rv H a) xs vs x) (k:Bj (Is K H Z) xs vs):Is K H Z x (.ref a)
abbrev IsL (K:Kx) (H:Hp) (Z:Addr->Prop):List PV->List V->Prop:=Bj (Is K H Z)
def Kp (K:Kx) (Z:Addr->Prop) (H H':Hp):Prop:=∀ a o,H a=some o->H' a=some o\/(Z a/\Mo o\/K.st a/\So o)\/∃ kvs,(o=.dT kvs\/∃ u,o=.frz u (.dT kvs))/\Rd H' a (.dT kvs)
def Lx (K:Kx) (H H':Hp):Prop:=∀ a o,H a=some o->H' a=some o\/(K.st a/\So o/\H' a≠none)
structure Kx.Le (K K':Kx) (H:Hp):Prop where
 kk:K'.K=K.K
 lc:∃ r,K'.lc=K.lc++r
 st:∀ a,K.st a->K'.st a
 nw:∀ a o,H a=some o->So o->K'.st a->K.st a
section
variable {K K' K'':Kx}{H H' H'':Hp}{Z Z':Addr->Prop}{x:PV}{v:V}{a:Addr}{xs ys:List PV}{vs ws:List V}
theorem Kx.Le.rf:K.Le K H:=⟨rfl,⟨[],by simp⟩,λ _ h=>h,λ _ _ _ _ h=>h⟩
theorem Le.refl:Le H H:=λ _ _ h=>h
theorem Le.trans (h:Le H H') (h':Le H' H''):Le H H'':=λ a o e=>h' a o (h a o e)
theorem Le.lx (h:Le H H'):Lx K H H':=λ a o e=>.inl (h a o e)
theorem Le.kp (h:Le H H'):Kp K Z H H':=λ a o e=>.inl (h a o e)
theorem Lx.back (h:Lx K H H') (e:H' a=none):H a=none:=by
 cases q:H a with
 | none=>rfl
 | some o=>exact (h a o q).elim (λ z=>by rw [z] at e;cases e) λ z=>(z.2.2 e).elim
theorem Lx.dom (h:Lx K H H') (e:H a≠none):H' a≠none:=λ n=>e (h.back n)
theorem Le.back (h:Le H H') (e:H' a=none):H a=none:=(h.lx (K:=⟨[],[],λ _=>False⟩)).back e
theorem Le.dom (h:Le H H') (e:H a≠none):H' a≠none:=λ n=>e (h.back n)
theorem E1 {o:HO} (h:H a=none):Le H (Av H a o):=λ b u e=>by rw [AG (λ z=>by rw [z,h] at e;cases e)];exact e
theorem Lx.trans (h:Lx K H H') (k:K.Le K' H) (h':Lx K' H' H''):Lx K H H'':=λ a o e=>by
 rcases h a o e with z | ⟨s,so,d⟩
 ·rcases h' a o z with z' | ⟨s,so,d⟩
  ·exact .inl z'
  ·exact .inr ⟨k.nw a o e so s,so,d⟩
 ·exact .inr ⟨s,so,h'.dom d⟩
theorem Kx.Le.trans (k:K.Le K' H) (l:Lx K H H') (k':K'.Le K'' H'):K.Le K'' H:=by
 obtain ⟨r,e⟩:=k.lc;obtain ⟨r',e'⟩:=k'.lc;exact ⟨k'.kk.trans k.kk,⟨r++r',by rw [e',e,Ig]⟩,λ a h=>k'.st a (k.st a h),λ a o e so h=>(l a o e).elim (λ z=>k.nw a o e so (k'.nw a o z so h)) λ z=>z.1⟩
theorem Nd.mono {R R':HO->Prop} (h:∀ o,Mo o->R o->R' o) (n:Nd R xs vs x):Nd R' xs vs x:=by
 cases x with
 | lst ys=>exact ⟨n.1,h (.lst _) trivial n.2⟩
 | dct kvs=>exact ⟨n.1,n.2.1,h (.dT _) trivial n.2.2⟩
 | dcl ks ys=>exact ⟨n.1,n.2.1,h (.dT _) trivial n.2.2⟩
 | _=>exact n
theorem Nd.get {R:HO->Prop} (n:Nd R xs vs x):∃ o,Mo o/\R o:=by
 cases x with
 | lst ys=>exact ⟨.lst _,trivial,n.2⟩
 | dct kvs=>exact ⟨.dT _,trivial,n.2.2⟩
 | dcl ks ys=>exact ⟨.dT _,trivial,n.2.2⟩
 | _=>exact n.elim
theorem Rd.ne {o:HO} (h:Rd H a o):H a≠none:=by
 rcases h with e | ⟨o,e⟩ <;> rw [e] <;> simp
theorem Mo.so {o:HO} (h:Mo o):¬ So o:=by cases o <;> first | exact h.elim | exact id
theorem Kp.any (k:Kp K Z H H') {o:HO} (h:H a=some o) (n:¬ Mo o) (s:So o->¬ K.st a) (f:∀ u kvs,o≠.frz u (.dT kvs)):H' a=some o:=by
 rcases k a o h with e | (⟨_,m⟩ | ⟨t,m⟩) | ⟨kvs,rfl | ⟨u,rfl⟩,_⟩
 ·exact e
 ·exact (n m).elim
 ·exact (s m t).elim
 ·exact (n trivial).elim
 ·exact (f u kvs rfl).elim
theorem Kp.rd (k:Kp K Z H H') {o:HO} (h:Rv H a o) (m:Mo o) (n:¬ Z a):Rv H' a o:=by
 cases o with
 | lst xs=>rcases k a _ h with e | (⟨z,_⟩ | ⟨_,s⟩) | ⟨kvs,e | ⟨u,e⟩,_⟩ <;> first | exact e | exact (n z).elim | exact s.elim | cases e
 | dT kvs=>
  rcases h with h | ⟨u,h⟩ <;> rcases k a _ h with e | (⟨z,_⟩ | ⟨_,s⟩) | ⟨kvs,e | ⟨u',e⟩,r⟩
  ·exact .inl e
  ·exact (n z).elim
  ·exact s.elim
  ·cases e;exact r
  ·cases e
  ·exact .inr ⟨u,e⟩
  ·exact (n z).elim
  ·exact s.elim
  ·cases e
  ·cases e;exact r
 | _=>exact m.elim
theorem Rv.ne {o:HO} (h:Rv H a o):H a≠none:=by
 cases o <;> first | exact Rd.ne h | (intro e;rw [show H a=_ from h] at e;cases e)
theorem Rv.of {o:HO} (h:H a=some o):Rv H a o:=by
 cases o <;> first | exact .inl h | exact h
theorem Rf.keep (k:Kp K Z H H') (l:K.Le K' H) (h:Rf K H a x):Rf K' H' a x:=by
 have st:∀ {o:HO},H a=some o->So o->¬ K.st a->¬ K'.st a:=λ e so n q=>n (l.nw a _ e so q);cases x <;> first
  | exact h.elim
  | exact ⟨st h.2 trivial h.1,k.any h.2 id (λ _=>h.1) λ _ _ z=>nomatch z⟩
  | (obtain ⟨n,kvs,h⟩:=h;exact ⟨st h trivial n,kvs,k.any h id (λ _=>n) λ _ _ z=>nomatch z⟩)
  | exact h.elim (λ ⟨o,h⟩=>.inl ⟨o,k.any h id (λ z=>z.elim) λ _ _ z=>nomatch z⟩) λ h=>.inr (by rw [l.kk];exact h)
  | (obtain ⟨C,e,h⟩:=h;exact ⟨C,by rw [l.kk];exact e,k.any h id (λ z=>z.elim) λ _ _ z=>nomatch z⟩)
  | (obtain ⟨r,e⟩:=l.lc;show K'.lc[_]?=_;rw [e,DC (jb0.mp h).1];exact h)
theorem Is.move (k:Kp K Z H H') (l:K.Le K' H) (z:∀ a,Z' a->Z a\/H a=none) (h:Is K H Z x v):Is K' H' Z' x v:=by
 induction h using Is.rec (motive_2:=λ xs vs _=>IsL K' H' Z' xs vs) with
 | non=>exact .non
 | bl b=>exact .bl b
 | int i=>exact .int i
 | str x=>exact .str x
 | rf h=>exact .rf (h.keep k l)
 | tup h _ ih=>exact .tup (k.any h id (λ z=>z.elim) λ _ _ z=>nomatch z) ih
 | @nd x a xs vs n h _ ih=>
  obtain ⟨o,_,r⟩:=h.get;exact .nd (λ q=>(z a q).elim n (Rv.ne r)) (h.mono λ o m r=>k.rd r m n) ih
 | nil=>exact .nil
 | cons _ _ i1 i2=>exact .cons i1 i2
theorem IsL.move (k:Kp K Z H H') (l:K.Le K' H) (z:∀ a,Z' a->Z a\/H a=none) (h:IsL K H Z xs vs):IsL K' H' Z' xs vs:=L2.Paired.mapP h λ _ _ h=>h.move k l z
theorem Is.weak (z:∀ a,Z' a->Z a) (h:Is K H Z x v):Is K H Z' x v:=h.move Le.refl.kp .rf λ a q=>.inl (z a q)
theorem IsL.weak (z:∀ a,Z' a->Z a) (h:IsL K H Z xs vs):IsL K H Z' xs vs:=h.move Le.refl.kp .rf λ a q=>.inl (z a q)
theorem Is.up (k:Le H H') (h:Is K H Z x v):Is K H' Z x v:=h.move k.kp .rf λ a q=>.inl q
theorem IsL.up (k:Le H H') (h:IsL K H Z xs vs):IsL K H' Z xs vs:=h.move k.kp .rf λ a q=>.inl q
theorem Is.at (hx:Pt x=true) (h:Is K H Z x v):Is K H Z' x v:=by
 cases h with
 | rf h=>exact .rf h
 | tup h k=>cases hx
 | nd n h k=>cases x <;> first | exact h.elim | cases hx
 | _=>constructor
theorem IsL.at (hx:Pe xs=true) (h:IsL K H Z xs ws):IsL K H Z' xs ws:=by
 induction h with
 | nil=>exact .nil
 | cons h _ ih=>
  unfold Pe at hx;rw [AU] at hx;exact .cons (h.at hx.1) (ih hx.2)
theorem Is.lst (h:Is K H Z (.lst xs) v):∃ a vs,v=.ref a/\¬ Z a/\H a=some (.lst vs)/\IsL K H Z xs vs:=by
 cases h with
 | rf h=>exact h.elim
 | nd n h k=>obtain ⟨rfl,h⟩:=h;exact ⟨_,_,rfl,n,h,k⟩
theorem Is.tupE (h:Is K H Z (.tup xs) v):∃ a vs,v=.ref a/\H a=some (.tup vs)/\IsL K H Z xs vs:=by
 cases h with
 | rf h=>exact h.elim
 | nd n h k=>exact h.elim
 | tup h k=>exact ⟨_,_,rfl,h,k⟩
theorem Is.dcl {ks:List (List A0)} (h:Is K H Z (.dcl ks xs) v):∃ a vs,v=.ref a/\¬ Z a/\ks.length=xs.length/\Rd H a (.dT (ks.zip vs))/\IsL K H Z xs vs:=by
 cases h with
 | rf h=>exact h.elim
 | nd n h k=>obtain ⟨rfl,e,h⟩:=h;exact ⟨_,_,rfl,n,e,h,k⟩
theorem Is.dct {kvs:List (List A0×V)} (h:Is K H Z (.dct kvs) v):∃ a,v=.ref a/\¬ Z a/\Rd H a (.dT kvs):=by
 cases h with
 | rf h=>exact h.elim
 | nd n h k=>obtain ⟨_,_,h⟩:=h;exact ⟨_,rfl,n,h⟩
theorem Is.scr {ns:List Int} (h:Is K H Z (.scr ns) v):∃ a,v=.ref a/\Rf K H a (.scr ns):=by
 cases h with
 | rf h=>exact ⟨_,rfl,h⟩
 | nd n h k=>exact h.elim
theorem Is.emp (h:Is K H Z .emp v):∃ a,v=.ref a/\H a=some (.dK []):=by
 cases h with
 | rf h=>exact ⟨_,rfl,h.2⟩
 | nd n h k=>exact h.elim
def sV:PV->Option V
 | .non=>some .non
 | .bl b=>some (.bl b)
 | .int i=>some (.int i)
 | .str x=>some (.str x)
 | _=>none
theorem Is.sv {u:V} (e:sV x=some u) (h:Is K H Z x v):v=u:=by
 cases h with
 | rf h=>cases x <;> first | exact h.elim | cases e
 | nd n h k=>cases x <;> first | exact h.elim | cases e
 | tup h k=>cases e
 | _=>exact Option.some.inj e
theorem Is.ofs {u:V} (e:sV x=some u):Is K H Z x u:=by
 cases x <;> cases e <;> constructor
theorem Is.flat (hx:C5 x=true) (h:Is K H Z x v):Is K H Z' x v:=by
 cases x with
 | tup xs=>obtain ⟨a,ws,rfl,h,l⟩:=h.tupE;exact .tup h (IsL.at hx l)
 | _=>exact h.at hx
theorem IsL.flat (hx:Cw xs=true) (h:IsL K H Z xs ws):IsL K H Z' xs ws:=by
 induction h with
 | nil=>exact .nil
 | cons h _ ih=>
  unfold Cw at hx;rw [AU] at hx;exact .cons (h.flat hx.1) (ih hx.2)
end
def AN:PV->Bool
 | .lst ys=>Cw ys
 | _=>false
def tf:List PV->Bool
 | []=>true
 | x::xs=>(C5 x || AN x) && tf xs
def El (K:Kx) (H:Hp) (Z G:Addr->Prop) (a:Addr) (t:Bool) (x:PV) (v:V):Prop:=
 ((t && AN x)=false/\Is K H Z x v)\/(t=true/\∃ r ys us,x=.lst ys/\Cw ys=true/\v=.ref r/\r≠a/\G r/\H r=some (.lst us)/\IsL K H Z ys us)
def Ds (xs:List PV) (vs:List V):Prop:=∀ (i j:Nat) (r:Addr) (x y:PV),xs[i]?=some x->xs[j]?=some y->AN x=true->AN y=true->vs[i]?=some (V.ref r)->vs[j]?=some (V.ref r)->i=j
def Bk (d:Nat) (xs:List PV):Bool:=d == om && tf xs
def Ow (K:Kx) (H:Hp) (Z G:Addr->Prop) (d:Nat) (a:Addr) (x:PV):Prop:=
 ∃ xs vs,Nd (λ o=>H a=some o) xs vs x/\G a/\(∀ b,G b->∃ o,Mo o/\H b=some o)/\Bj (El K H Z G a (Bk d xs)) xs vs/\(Bk d xs=true->Ds xs vs)
def Bx (x:PV) (d:Nat):Bool:=Co x && d != 0
def SV (K:Kx) (H:Hp) (Z G:Addr->Prop) (x:PV) (d:Nat) (v:V):Prop:=
 (Bx x d=false/\(∀ b,¬ G b)/\Is K H Z x v)\/(Bx x d=true/\∃ a,v=.ref a/\Ow K H Z G d a x)
section
variable {K K' K'':Kx}{H H' H'':Hp}{Z Z' G G':Addr->Prop}{x:PV}{v:V}{a:Addr}{xs ys:List PV}{vs ws:List V}{d:Nat}{t:Bool}
theorem Yg (h:AN x=true):∃ ys,x=.lst ys/\Cw ys=true:=by cases x <;> first | cases h | exact ⟨_,rfl,h⟩
theorem Zb (h:AN x=true):C5 x=false:=by obtain ⟨ys,rfl,_⟩:=Yg h;rfl
theorem El.move (k:Kp K Z H H') (l:K.Le K' H) (kg:∀ b o,G b->b≠a->H b=some o->H' b=some o) (z:∀ a,Z' a->Z a\/H a=none) (gg:∀ b,G b->G' b) (h:El K H Z G a t x v):El K' H' Z' G' a t x v:=
 h.imp (λ ⟨e,h⟩=>⟨e,h.move k l z⟩) λ ⟨e,r,ys,us,e1,e2,e3,n,g,hr,h⟩=>⟨e,r,ys,us,e1,e2,e3,n,gg r g,kg r _ g n hr,h.move k l z⟩
theorem Ow.move (k:Kp K Z H H') (l:K.Le K' H) (kg:∀ a o,G a->H a=some o->H' a=some o) (z:∀ a,Z' a->Z a\/H a=none) (h:Ow K H Z G d a x):Ow K' H' Z' G d a x:=
 let ⟨xs,vs,n,ga,g,p,s⟩:=h;⟨xs,vs,n.mono λ o _=>kg a o ga,ga,λ b gb=>let ⟨o,m,e⟩:=g b gb;⟨o,m,kg b o gb e⟩,L2.Paired.mapP p λ _ _ h=>h.move k l (λ b o g _=>kg b o g) z λ _ g=>g,s⟩
theorem El.vw (n:∀ a,G a->¬ Z' a) (z:∀ a,Z' a->Z a) (h:El K H Z G a t x v):Is K H Z' x v:=by
 rcases h with ⟨_,h⟩ | ⟨_,r,ys,us,rfl,e,rfl,_,g,hr,h⟩
 ·exact h.weak z
 ·exact .nd (n r g) ⟨rfl,.of hr⟩ (h.weak z)
theorem Ow.vw (n:∀ a,G a->¬ Z' a) (z:∀ a,Z' a->Z a) (h:Ow K H Z G d a x):Is K H Z' x (.ref a):=
 let ⟨_,_,h,ga,_,p,_⟩:=h;.nd (n a ga) (h.mono λ _ _ e=>.of e) (L2.Paired.mapP p λ _ _ h=>h.vw n z)
theorem SV.move (k:Kp K Z H H') (l:K.Le K' H) (kg:∀ a o,G a->H a=some o->H' a=some o) (z:∀ a,Z' a->Z a\/H a=none) (h:SV K H Z G x d v):SV K' H' Z' G x d v:=
 h.imp (λ ⟨e,g,h⟩=>⟨e,g,h.move k l z⟩) λ ⟨e,a,ev,h⟩=>⟨e,a,ev,h.move k l kg z⟩
theorem SV.vw (n:∀ a,G a->¬ Z' a) (z:∀ a,Z' a->Z a) (h:SV K H Z G x d v):Is K H Z' x v:=by
 rcases h with ⟨_,_,h⟩ | ⟨_,a,rfl,h⟩
 ·exact h.weak z
 ·exact h.vw n z
theorem SV.dom {b:Addr} (h:SV K H Z G x d v) (g:G b):∃ o,Mo o/\H b=some o:=by
 rcases h with ⟨_,n,_⟩ | ⟨_,a,_,_,_,_,_,h,_⟩
 ·exact (n b g).elim
 ·exact h b g
theorem SV.el {Z0:Addr->Prop} (s:SV K H Z0 G x d v) (hd:d=om) (hx:(C5 x || AN x)=true) (na:¬ G a):El K H Z G a true x v:=by
 cases hr:AN x with
 | false=>
  rw [hr,PR] at hx;exact .inl ⟨by rw [hr];rfl,(s.vw (Z':=λ _=>False) (λ _ _ h=>h) λ _ h=>h.elim).flat hx⟩
 | true=>
  obtain ⟨ys,rfl,e⟩:=Yg hr;rcases s with ⟨q,_⟩ | ⟨_,r,rfl,zs,us,⟨rfl,h⟩,gr,_,p,_⟩
  ·rw [hd] at q;cases q
  ·exact .inr ⟨rfl,r,_,us,rfl,e,rfl,λ z=>na (z ▸ gr),gr,h,IsL.flat e (L2.Paired.mapP p λ _ _ h=>h.vw (Z':=λ _=>False) (λ _ _ h=>h) λ _ h=>h.elim)⟩
theorem zya:∀ {xs:List PV},tf xs=true↔∀ x∈xs,(C5 x || AN x)=true
 | []=>by simp [tf]
 | x::xs=>by unfold tf;rw [AU,zya];simp
theorem SV.lst (hd:d≠0) (ha:H a=some (.lst vs)) (ga:G a) (g:∀ b,G b->∃ o,Mo o/\H b=some o) (p:Bj (El K H Z G a (Bk d xs)) xs vs) (ds:Bk d xs=true->Ds xs vs):SV K H Z G (.lst xs) d (.ref a):=
 .inr ⟨by simp [Bx,Co,hd],a,rfl,xs,vs,⟨rfl,ha⟩,ga,g,p,ds⟩
theorem SV.own {a:Addr} (e:Bx x d=true) (n:Nd (λ o=>H a=some o) xs vs x) (l:IsL K H Z xs vs) (t:Bk d xs=true->∀ x∈xs,AN x=false):SV K H Z (λ b=>b=a) x d (.ref a):=by
 refine .inr ⟨e,a,rfl,xs,vs,n,rfl,λ b z=>by rw [z];exact n.get,?_,λ h i j r x y e1 _ r1=>by rw [t h x (Nl e1)] at r1;cases r1⟩
 have:∀ x∈xs,(Bk d xs && AN x)=false:=λ x hx=>by
  cases e:Bk d xs with
  | false=>rfl
  | true=>rw [t e x hx];rfl
 clear t n e;revert this;generalize Bk d xs=b;intro this;induction l with
 | nil=>exact .nil
 | cons h _ ih=>exact .cons (.inl ⟨this _ AD,h⟩) (ih λ x hx=>this x (AE _ hx))
def UH (K:Frag):Option Addr:=Sh K "Desk"
def OAt (K:Kx) (H:Hp) (Z:Addr->Prop) (a:Addr):PV->Prop
 | .dks ks xs=>∃ vs,H a=some (.dK (ks.zip vs))/\ks.length=xs.length/\IsL K H Z xs vs
 | .ins fs xs=>∃ vs C dx,UH K.K=some C/\H a=some (.ins C dx (fs.zip vs))/\H dx=some (.own a)/\K.st dx/\fs.length=xs.length/\IsL K H Z xs vs
 | _=>False
structure Sto (K:Kx) (H:Hp) (Z:Addr->Prop) (os:List PV):Prop where
 at':Bj (λ o a=>OAt K H Z a o/\K.st a) os K.lc
 nd:K.lc.Nodup
 st:∀ a,K.st a->∃ o,So o/\H a=some o
theorem OAt.move {o:PV} (k:Kp K Z H H') (l:K.Le K' H) (kg:∀ a o,K.st a->H a=some o->H' a=some o) (z:∀ a,Z' a->Z a\/H a=none) (ha:K.st a) (h:OAt K H Z a o):OAt K' H' Z' a o:=by
 cases o with
 | dks ks xs=>obtain ⟨vs,e,n,i⟩:=h;exact ⟨vs,kg a _ ha e,n,i.move k l z⟩
 | ins fs xs=>obtain ⟨vs,C,dx,c,e,e2,sd,n,i⟩:=h;exact ⟨vs,C,dx,by rw [l.kk];exact c,kg a _ ha e,kg dx _ sd e2,l.st _ sd,n,i.move k l z⟩
 | _=>exact h
theorem Sto.move {os:List PV} (k:Kp K Z H H') (kg:∀ a o,K.st a->H a=some o->H' a=some o) (z:∀ a,Z' a->Z a\/H a=none) (h:Sto K H Z os):Sto K H' Z' os:=
 ⟨L2.Paired.mapP h.at' λ _ _ h=>⟨h.1.move k .rf kg z h.2,h.2⟩,h.nd,λ a s=>let ⟨o,m,e⟩:=h.st a s;⟨o,m,kg a o s e⟩⟩
end
abbrev Slot:=Option (PV×Nat)
abbrev Af:=List Slot
inductive Rz (α:Type) where
 | ok (a:α) | exc (c:Nat) | no
def Rz.bind {α β:Type} (r:Rz α) (f:α->Rz β):Rz β:=match r with
 | .ok a=>f a
 | .exc c=>.exc c
 | .no=>.no
abbrev Fx:=Af->Rz (PV×Nat×Af)
abbrev Fa:=Af->Rz (List (PV×Nat)×Af)
abbrev Fb:=Af->Rz (Bool×Af)
structure Fm where
 K:Frag
 Z:Bool->Addr->Prop
 H₀:Hp
 W:St->Nat->Hp->Prop
 al:Nat->List Nat
 gh:Option Nat
 cl:Bool
 E:Kx
structure Os where
 ow:Nat->Addr->Prop
 lc:List Addr
 st:Addr->Prop
def Fm.k (M:Fm) (g:Os):Kx:=⟨M.K,g.lc,g.st⟩
def C2 (d:Nat):Bool:=d == om
def Fm.z (M:Fm) (g:Os) (vs:List Nat) (d:Nat):Addr->Prop:=λ a=>(∃ i,g.ow i a/\(d=om\/i∉vs))\/M.Z (C2 d) a
def VT (K:Kx) (Z:Addr->Prop) (H0 H:Hp) (x:PV) (d:Nat) (v:V):Prop:=∃ G,(∀ a,G a->H0 a=none)/\SV K H (λ a=>Z a\/G a) G x d v
structure Rep (M:Fm) (ρ:Af) (σ:St) (H:Hp) (g:Os):Prop where
 own:∀ i x d,ρ[i]?=some (some (x,d))->M.gh≠some i->∃ v,σ[i]?=some (some v)/\SV (M.k g) H (M.z g (M.al i) d) (g.ow i) x d v
 sto:∀ i,M.gh=some i->∃ os d,ρ[i]?=some (some (.sto os,d))/\Sto (M.k g) H (M.z g [] 0) os
 new:∀ i a,g.ow i a->M.H₀ a=none/\M.gh≠some i/\∃ p,ρ[i]?=some (some p)
 dj:∀ i j a,g.ow i a->g.ow j a->i=j
 st:∀ a,g.st a->H a≠none/\¬ M.Z true a/\∀ i,¬ g.ow i a
 h0:Lx M.E M.H₀ H
 le:M.E.Le (M.k g) M.H₀
 cl:M.cl=true->Le M.H₀ H
 ke:M.gh=none->M.k g=M.E
 nw:M.cl=false->∀ σ c H,¬ M.W σ c H
 zd:∀ b a,M.Z b a->M.H₀ a≠none
 zt:∀ a,M.Z false a->M.Z true a
 len:ρ.length=σ.length
section
variable {M:Fm}{ρ ρ1 ρ2 ρ':Af}{σ σ':St}{H H' H0 H1 H2:Hp}{g g1 g2:Os}{vs vs':List Nat}{K K':Kx}{Z Z' G:Addr->Prop}{x:PV}{d e:Nat}{v:V}{a:Addr}{z:Nat->Addr->Prop}
theorem VT.vw (hz:∀ a,Z a->H0 a≠none) (h:VT K Z H0 H x d v):Is K H Z x v:=let ⟨_,f,h⟩:=h;h.vw (λ a e q=>hz a q (f a e)) λ _ q=>.inl q
theorem VT.back (k:∀ a,H1 a=none->H0 a=none) (h:VT K Z H1 H x d v):VT K Z H0 H x d v:=let ⟨G,f,h⟩:=h;⟨G,λ a e=>k a (f a e),h⟩
theorem VT.weak (z:∀ a,Z' a->Z a) (h:VT K Z H0 H x d v):VT K Z' H0 H x d v:=let ⟨G,f,h⟩:=h;⟨G,f,h.move Le.refl.kp .rf (λ _ _ _ e=>e) λ a q=>.inl (q.imp (z a) id)⟩
theorem VT.of (e:Bx x d=false) (h:Is K H Z x v):VT K Z H0 H x d v:=⟨λ _=>False,λ _ z=>z.elim,.inl ⟨e,λ _ z=>z,h.weak λ _ q=>q.resolve_right id⟩⟩
theorem VT.at (h:Is K H Z x v):VT K Z H0 H x 0 v:=.of (by cases x <;> rfl) h
theorem VT.sv (e:sV x=some v):VT K Z H0 H x d v:=.of (by cases x <;> first | rfl | cases e) (.ofs e)
theorem VT.new {xs:List PV}{vs:List V} (hn:H0 a=none) (e:Bx x d=true) (n:Nd (λ o=>H a=some o) xs vs x) (l:IsL K H (λ b=>Z b\/b=a) xs vs) (t:Bk d xs=true->∀ x∈xs,AN x=false):VT K Z H0 H x d (.ref a):=
 ⟨λ b=>b=a,λ b z=>by rw [z];exact hn,.own e n l t⟩
theorem Fm.z_sub (hv:∀ i∈vs,i∈vs') (h:M.z g vs' d a):M.z g vs d a:=h.imp (λ ⟨i,e,q⟩=>⟨i,e,q.imp id λ n z=>n (hv i z)⟩) id
theorem Fm.z_ow (ho:∀ i a,g1.ow i a->g.ow i a) (h:M.z g1 vs d a):M.z g vs d a:=h.imp (λ ⟨i,e,q⟩=>⟨i,ho i a e,q⟩) id
theorem Fm.z_to (zt:∀ a,M.Z false a->M.Z true a) {e:Nat} (he:e=d\/e≠om) (h:M.z g vs e a):M.z g vs d a:=by
 rcases he with rfl | he
 ·exact h
 ·refine h.imp (λ ⟨i,q,n⟩=>⟨i,q,.inr (n.resolve_left he)⟩) λ h=>?_;rw [show C2 e=false from beq_false_of_ne he] at h;cases hd:C2 d with
  | false=>exact h
  | true=>exact zt a h
theorem Fm.z_om (zt:∀ a,M.Z false a->M.Z true a) (h:M.z g vs d a):M.z g vs' om a:=h.elim (λ ⟨i,e,_⟩=>.inl ⟨i,e,.inl rfl⟩) λ h=>.inr (by
 cases e:C2 d with
 | false=>rw [e] at h;exact zt a h
 | true=>rw [e] at h;exact h)
theorem Rep.owned (r:Rep M ρ σ H g) {i:Nat} (h:g.ow i a):∃ o,Mo o/\H a=some o:=by
 obtain ⟨_,n,⟨x,d⟩,e⟩:=r.new i a h;obtain ⟨v,_,s⟩:=r.own i x d e n;exact s.dom h
theorem Rep.zdom (r:Rep M ρ σ H g) (h:M.z g vs d a):H a≠none:=by
 rcases h with ⟨i,e,_⟩ | h
 ·obtain ⟨o,_,q⟩:=r.owned e;rw [q];simp
 ·exact r.h0.dom (r.zd _ a h)
theorem Rep.grow (r:Rep M ρ σ H g) (k:Le H H'):Rep M ρ σ H' g:=
 ⟨λ i x d e n=>let ⟨v,h,s⟩:=r.own i x d e n;⟨v,h,s.move k.kp .rf (λ a o _=>k a o) λ _ q=>.inl q⟩,λ i h=>let ⟨os,d,e,s⟩:=r.sto i h;⟨os,d,e,s.move k.kp (λ a o _=>k a o) λ _ q=>.inl q⟩,
  r.new,r.dj,λ a s=>⟨k.dom (r.st a s).1,(r.st a s).2⟩,r.h0.trans .rf k.lx,r.le,λ c=>(r.cl c).trans k,r.ke,r.nw,r.zd,r.zt,r.len⟩
def OutE {α:Type} (M:Fm) (σ:St) (H:Hp) (r:Rz α) (P:α->Prop):Prop:=match r with
 | .ok p=>P p
 | .exc c=>∀ H',Le H H'->M.W σ c H'
 | .no=>False
def EO (M:Fm) (g:Os) (vs:List Nat) (σ:St) (H:Hp) (ρ:Af) (r:Rz (PV×Nat×Af)) (Q:VK):Prop:=
 OutE M σ H r λ p=>p.2.2=ρ->∀ v H',Le H H'->VT (M.k g) (M.z g vs p.2.1) H H' p.1 p.2.1 v->Q v H'
def tE (M:Fm) (f:Fx) (vs:List Nat):TE:=λ σ H Q=>∃ ρ g,Rep M ρ σ H g/\EO M g vs σ H ρ (f ρ) Q
def VA (K:Kx) (z:Nat->Addr->Prop) (H:Hp):List (PV×Nat)->List V->(Addr->Prop)->Prop
 | [],[],G=>∀ a,¬ G a
 | (x,d)::ps,v::vs,G=>∃ G1 G2,(∀ a,G a↔G1 a\/G2 a)/\(∀ a,G1 a->¬ G2 a)/\SV K H (λ a=>z d a\/G1 a) G1 x d v/\VA K z H ps vs G2
 | _,_,_=>False
def tL (M:Fm) (f:Fa) (vs:List Nat):TA:=λ σ H Q=>∃ ρ g,Rep M ρ σ H g/\OutE M σ H (f ρ) λ p=>p.2=ρ->∀ ws H',Le H H'->(∃ G,(∀ a,G a->H a=none)/\VA (M.k g) (M.z g vs) H' p.1 ws G)->Q ws H'
def tT (M:Fm) (f:Fb):TT:=λ σ H Q=>∃ ρ g,Rep M ρ σ H g/\OutE M σ H (f ρ) λ p=>p.2=ρ->∀ H',Le H H'->Q p.1 H'
variable {f f':Fx}{fa:Fa}{fb gb:Fb}{Q:VK}{u:V}{G':Addr->Prop}{i:Nat}
theorem OutE.from {α:Type}{r:Rz α}{P:α->Prop} (k:Le H H1) (q:OutE M σ H r P):OutE M σ H1 r P:=by
 cases r with
 | exc c=>exact λ H' k'=>q H' (k.trans k')
 | _=>exact q
theorem OutE.mono {α:Type}{r:Rz α}{P P':α->Prop} (q:OutE M σ H r P) (h:∀ p,P p->P' p):OutE M σ H r P':=by
 cases r with
 | ok p=>exact h p q
 | _=>exact q
theorem EO.from {r:Rz (PV×Nat×Af)} (k:Le H H1) (q:EO M g vs σ H ρ r Q):EO M g vs σ H1 ρ r Q:=
 OutE.mono (OutE.from k q) λ _ q e v H' l t=>q e v H' (k.trans l) (t.back λ _=>k.back)
theorem ER {α:Type}{k:PV×Nat×Af->Rz α}{P:α->Prop}{Q1:VK} (rep:Rep M ρ σ H g) (q:OutE M σ H ((f ρ).bind k) P)
  (h:∀ x d v H1,Le H H1->Rep M ρ σ H1 g->VT (M.k g) (M.z g vs d) H H1 x d v->OutE M σ H (k (x,d,ρ)) P->Q1 v H1):tE M f vs σ H Q1:=by
 refine ⟨ρ,g,rep,?_⟩;revert q;cases f ρ with
 | ok p=>
  obtain ⟨x,d,ρ1⟩:=p;intro q (e:ρ1=ρ) v H1 l t;subst e;exact h x d v H1 l (rep.grow l) t q
 | _=>exact id
theorem I0 {α:Type}{k:List (PV×Nat)×Af->Rz α}{P:α->Prop}{Q1:List V->Hp->Prop} (rep:Rep M ρ σ H g) (q:OutE M σ H ((fa ρ).bind k) P)
  (h:∀ xs ws H1 G,Le H H1->Rep M ρ σ H1 g->(∀ a,G a->H a=none)->VA (M.k g) (M.z g vs) H1 xs ws G->OutE M σ H (k (xs,ρ)) P->Q1 ws H1):tL M fa vs σ H Q1:=by
 refine ⟨ρ,g,rep,?_⟩;revert q;cases fa ρ with
 | ok p=>
  obtain ⟨xs,ρ1⟩:=p;intro q (e:ρ1=ρ) ws H1 l ⟨G,f,t⟩;subst e;exact h xs ws H1 G l (rep.grow l) f t q
 | _=>exact id
theorem MF {α:Type}{k:Bool×Af->Rz α}{P:α->Prop}{Q1:Bool->Hp->Prop} (rep:Rep M ρ σ H g) (q:OutE M σ H ((fb ρ).bind k) P)
  (h:∀ b H1,Le H H1->Rep M ρ σ H1 g->OutE M σ H (k (b,ρ)) P->Q1 b H1):tT M fb σ H Q1:=by
 refine ⟨ρ,g,rep,?_⟩;revert q;cases fb ρ with
 | ok p=>
  obtain ⟨b,ρ1⟩:=p;intro q (e:ρ1=ρ) H1 l;subst e;exact h b H1 l (rep.grow l) q
 | _=>exact id
structure Zk (z:Nat->Addr->Prop) (H:Hp):Prop where
 dom:∀ d a,z d a->H a≠none
 to:∀ e d a,(e=d\/e≠om)->z e a->z d a
theorem Rep.zk (r:Rep M ρ σ H g):Zk (M.z g vs) H:=⟨λ _ _=>r.zdom,λ _ _ _=>Fm.z_to r.zt⟩
theorem Rep.vw (r:Rep M ρ σ H g) (t:VT (M.k g) (M.z g vs d) H H1 x e v):Is (M.k g) H1 (M.z g vs d) x v:=t.vw λ _=>r.zdom
def Leaf (K:Kx) (z:Nat->Addr->Prop) (H:Hp) (x:PV) (d:Nat) (Q:VK):Prop:=∀ u H',Le H H'->VT K (z d) H H' x d u->Q u H'
def bC (x:PV):Fx:=λ ρ=>.ok (x,om,ρ)
theorem Oz (h:sV x=some u) (hq:tE M (bC x) [] σ H Q):tC u σ H Q:=by
 obtain ⟨ρ,g,rep,q⟩:=hq;exact q rfl u H Le.refl (.sv h)
def dv:PV->Nat
 | .lst _=>0
 | .tup _=>0
 | .dct _=>0
 | .dcl _ _=>0
 | _=>om
def Aa (i:Nat):Fx:=λ ρ=>match ρ[i]? with
 | some (some (x,_))=>.ok (x,dv x,ρ)
 | _=>.no
theorem Is.view {z:Nat->Addr->Prop} (hz:∀ a,z 0 a->Z a) (h:Is K H Z x v):VT K (z (dv x)) H0 H x (dv x) v:=by
 by_cases e:Pt x=true
 ·exact .of (by cases x <;> first | rfl | cases e) (h.at e)
 ·have:dv x=0:=by cases x <;> first | rfl | exact absurd rfl e
  rw [this];exact .at (h.weak hz)
theorem Rep.var (r:Rep M ρ σ H g) (hg:M.gh≠some i) (e:ρ[i]?=some (some (x,d))):∃ v,σ[i]?=some (some v)/\Is (M.k g) H (M.z g (i::M.al i) 0) x v:=by
 obtain ⟨v,hv,s⟩:=r.own i x d e hg;refine ⟨v,hv,s.vw (λ a ea z=>?_) λ a z=>Fm.z_to r.zt (.inr (by decide)) (Fm.z_sub (λ j hj=>AE _ hj) z)⟩;rcases z with ⟨j,ej,n⟩ | z
 ·exact n.elim (by decide) λ n=>n (by rw [r.dj j i a ej ea];exact AD)
 ·exact r.zd _ a z (r.new i a ea).1
theorem vW (hg:M.gh≠some i) (hq:tE M (Aa i) (i::M.al i) σ H Q):Dw i σ H Q:=by
 obtain ⟨ρ,g,rep,q⟩:=hq;unfold Aa at q;split at q
 ·rename_i x d e;obtain ⟨v,hv,s⟩:=rep.var hg e;exact ⟨v,hv,q rfl v H Le.refl (s.view λ _ q=>q)⟩
 ·exact q.elim
def Ac (op:PV->Nat->PV->Nat->Option (PV×Nat)) (f g:Fx):Fx:=λ ρ=>(f ρ).bind λ (x,d,ρ1)=>(g ρ1).bind λ (y,e,ρ2)=>match op x d y e with
 | some (z,c)=>.ok (z,c,ρ2)
 | none=>.no
theorem MP {op:PV->Nat->PV->Nat->Option (PV×Nat)}{r:R2}
  (leaf:∀ (K:Kx) x d y e z c v w H Q (zz:Nat->Addr->Prop),K.K=M.K->op x d y e=some (z,c)->Zk zz H->Is K H (zz d) x v->Is K H (zz e) y w->Leaf K zz H z c Q->r v w H Q)
  (hq:tE M (Ac op f f') (vs++vs') σ H Q):J6 r (tE M f vs) (tE M f' vs') σ H Q:=by
 obtain ⟨ρ,g,rep,q⟩:=hq;refine ER rep q λ x d v H1 l1 r1 t1 q=>ER r1 (EO.from l1 q) λ y e w H2 l2 r2 t2 q=>?_;dsimp only at q;split at q
 ·rename_i z c eo;exact leaf (M.k g) x d y e z c v w H2 Q (M.z g (vs++vs')) rfl eo r2.zk (((rep.vw t1).up l2).weak λ a=>Fm.z_sub λ i=>Jb _) ((r1.vw t2).weak λ a=>Fm.z_sub λ i=>CL _) λ u H' l t=>q rfl u H' (l2.trans l) (t.back λ _=>l2.back)
 ·exact q.elim
def AL (op:PV->Nat->Option (PV×Nat)) (f:Fx):Fx:=λ ρ=>(f ρ).bind λ (x,d,ρ1)=>match op x d with
 | some (z,c)=>.ok (z,c,ρ1)
 | none=>.no
theorem Pp {op:PV->Nat->Option (PV×Nat)}{r:V->Hp->VK->Prop}
  (leaf:∀ (K:Kx) x d z c v H Q (zz:Nat->Addr->Prop),K.K=M.K->op x d=some (z,c)->Zk zz H->Is K H (zz d) x v->Leaf K zz H z c Q->r v H Q)
  (hq:tE M (AL op f) vs σ H Q):RV r (tE M f vs) σ H Q:=by
 obtain ⟨ρ,g,rep,q⟩:=hq;refine ER rep q λ x d v H1 l1 r1 t1 q=>?_;dsimp only at q;split at q
 ·rename_i z c eo;exact leaf (M.k g) x d z c v H1 Q _ rfl eo r1.zk (rep.vw t1) λ u H' l t=>q rfl u H' (l1.trans l) (t.back λ _=>l1.back)
 ·exact q.elim
def Ab:Fa:=λ ρ=>.ok ([],ρ)
def Ad (f:Fx) (fa:Fa):Fa:=λ ρ=>(f ρ).bind λ (x,d,ρ1)=>(fa ρ1).bind λ (xs,ρ2)=>.ok ((x,d)::xs,ρ2)
theorem VA.weak {z':Nat->Addr->Prop} (h:∀ d a,z' d a->z d a):∀ {ps:List (PV×Nat)}{vs:List V}{G:Addr->Prop},VA K z H ps vs G->VA K z' H ps vs G
 | [],[],_,t=>t
 | [],_::_,_,t=>t.elim
 | _::_,[],_,t=>t.elim
 | _::_,_::_,_,⟨G1,G2,e,n,s,t⟩=>⟨G1,G2,e,n,s.move Le.refl.kp .rf (λ _ _ _ e=>e) λ a q=>.inl (q.imp (h _ a) id),t.weak h⟩
theorem VA.vw:∀ {ps:List (PV×Nat)}{vs:List V}{G:Addr->Prop},VA K z H ps vs G->(∀ d a,z d a->¬ G a)->Bj (λ p v=>Is K H (z p.2) p.1 v) ps vs
 | [],[],_,_,_=>.nil
 | [],_::_,_,t,_=>t.elim
 | _::_,[],_,t,_=>t.elim
 | _::_,_::_,_,⟨G1,G2,e,_,s,t⟩,h=>.cons (s.vw (λ a g1 q=>h _ a q ((e a).mpr (.inl g1))) λ a q=>.inl q) (t.vw λ d a q g2=>h d a q ((e a).mpr (.inr g2)))
theorem vX {Q:List V->Hp->Prop} (hq:tL M Ab [] σ H Q):HS σ H Q:=let ⟨_,_,_,q⟩:=hq;q rfl [] H Le.refl ⟨λ _=>False,λ _ h=>h.elim,λ _ h=>h⟩
theorem SV.weak (z:∀ a,Z' a->Z a) (h:SV K H Z G x d v):SV K H Z' G x d v:=h.move Le.refl.kp .rf (λ _ _ _ e=>e) λ a q=>.inl (z a q)
theorem SV.up (k:Le H H') (h:SV K H Z G x d v):SV K H' Z G x d v:=h.move k.kp .rf (λ a o _=>k a o) λ a q=>.inl q
theorem uI {Q:List V->Hp->Prop} (hq:tL M (Ad f fa) (vs++vs') σ H Q):Pn (tE M f vs) (tL M fa vs') σ H Q:=by
 obtain ⟨ρ,g,rep,q⟩:=hq;refine ER rep q λ x d v H1 l1 r1 ⟨G1,f1,s1⟩ q=>?_;refine I0 r1 (OutE.from l1 q) λ xs ws H2 G2 l2 r2 f2 t2 q=>q rfl (v::ws) H2 (l1.trans l2) ⟨λ a=>G1 a\/G2 a,λ a h=>h.elim (f1 a) λ h=>l1.back (f2 a h),G1,G2,λ _=>.rfl,λ a h1 h2=>?_,?_,?_⟩
 ·obtain ⟨o,_,e⟩:=s1.dom h1;rw [f2 a h2] at e;cases e
 ·exact (s1.up l2).weak λ a q=>q.imp (Fm.z_sub λ i=>Jb _) id
 ·exact t2.weak λ d a=>Fm.z_sub λ i=>CL _
def Aq (op:List (PV×Nat)->Option (PV×Nat)) (fa:Fa):Fx:=λ ρ=>(fa ρ).bind λ (xs,ρ1)=>match op xs with
 | some (z,c)=>.ok (z,c,ρ1)
 | none=>.no
theorem Zj {op:List (PV×Nat)->Option (PV×Nat)}{r:List V->Hp->VK->Prop}
  (leaf:∀ (K:Kx) xs z c ws H0 H Q G (zz:Nat->Addr->Prop),K.K=M.K->op xs=some (z,c)->Zk zz H->(∀ d a,zz d a->H0 a≠none)->Le H0 H->(∀ a,G a->H0 a=none)->VA K zz H xs ws G->(∀ u H',Le H H'->VT K (zz c) H0 H' z c u->Q u H')->r ws H Q)
  (hq:tE M (Aq op fa) vs σ H Q):tL M fa vs σ H λ ws H1=>r ws H1 Q:=by
 obtain ⟨ρ,g,rep,q⟩:=hq;refine I0 rep q λ xs ws H1 G l1 r1 f1 t1 q=>?_;dsimp only at q;split at q
 ·rename_i z c eo;exact leaf (M.k g) xs z c ws H H1 Q G _ rfl eo r1.zk (λ d a h=>rep.zdom h) l1 f1 t1 λ u H' l t=>q rfl u H' (l1.trans l) t
 ·exact q.elim
theorem Yp {op:List (PV×Nat)->Option (PV×Nat)}{r:List V->Hp->VK->Prop}
  (leaf:∀ (K:Kx) xs z c ws H Q (zz:Nat->Addr->Prop),K.K=M.K->op xs=some (z,c)->Zk zz H->Bj (λ p v=>Is K H (zz p.2) p.1 v) xs ws->Leaf K zz H z c Q->r ws H Q)
  (hq:tE M (Aq op fa) vs σ H Q):tL M fa vs σ H λ ws H1=>r ws H1 Q:=
 Zj (λ K xs z c ws _ H Q G zz hk ho zk hz hb hg t lf=>leaf K xs z c ws H Q zz hk ho zk (t.vw λ d a h g=>hz d a h (hg a g)) λ u H' l t=>lf u H' l (t.back λ _=>hb.back)) hq
def bT (f:Fx):Fb:=λ ρ=>(f ρ).bind λ (x,_,ρ1)=>match x with
 | .bl b=>.ok (b,ρ1)
 | _=>.no
theorem Ta {Q:Bool->Hp->Prop} (hq:tT M (bT f) σ H Q):tB (tE M f vs) σ H Q:=by
 obtain ⟨ρ,g,rep,q⟩:=hq;refine ER rep q λ x d v H1 l1 r1 t1 q=>?_;cases x <;> first | exact q.elim | exact ⟨_,(rep.vw t1).sv rfl,q rfl H1 l1⟩
end
inductive Rs where
 | nx (ρ:Af) | rt (x:PV) (d:Nat) (ρ:Af) | bk (ρ:Af) | ct (ρ:Af) | exc (c:Nat) | no
abbrev Fs:=Af->Rs
structure FinR (M:Fm) (ρ:Af) (H:Hp) (g:Os):Prop where
 lx:Lx M.E M.H₀ H
 le:M.E.Le (M.k g) M.H₀
 cl:M.cl=true->Le M.H₀ H
 ke:M.gh=none->M.k g=M.E
 sto:∀ i,M.gh=some i->∃ os d,ρ[i]?=some (some (.sto os,d))/\Sto (M.k g) H (M.Z false) os
def RsOk (M:Fm) (D:Ends):Rs->Prop
 | .nx ρ'=>∀ σ' H' g',Rep M ρ' σ' H' g'->D.nx σ' H'
 | .bk ρ'=>∀ σ' H' g',Rep M ρ' σ' H' g'->D.bk σ' H'
 | .ct ρ'=>∀ σ' H' g',Rep M ρ' σ' H' g'->D.ct σ' H'
 | .rt x d ρ'=>∀ v H' g',FinR M ρ' H' g'->VT (M.k g') (M.Z (C2 d)) M.H₀ H' x d v->D.rt v H'
 | .exc c=>∀ σ' H',Le M.H₀ H'->M.W σ' c H'
 | .no=>False
def tS (M:Fm) (f:Fs):TS:=λ D σ H=>∃ ρ g,Rep M ρ σ H g/\RsOk M D (f ρ)
def A4:Fs:=λ ρ=>.nx ρ
def Ag (f g:Fs):Fs:=λ ρ=>match f ρ with
 | .nx ρ1=>g ρ1
 | r=>r
def AV (c:Fb) (f g:Fs):Fs:=λ ρ=>match c ρ with
 | .ok (b,ρ1)=>if b=true then f ρ1 else g ρ1
 | .exc e=>.exc e
 | .no=>.no
def cool (vs:List Nat):Nat->Af->Af
 | _,[]=>[]
 | k,s::r=>(if vs.contains k then s.map λ p=>(p.1,0) else s)::cool vs (k + 1) r
def Bf (d:Nat) (vs:List Nat) (ρ:Af):Af:=if d=om then ρ else cool vs 0 ρ
theorem Kt (vs:List Nat):∀ (ρ:Af) (k i:Nat),(cool vs k ρ)[i]?=(ρ[i]?).map λ s=>if vs.contains (k + i) then s.map λ p=>(p.1,0) else s
 | [],k,i=>by simp [cool]
 | s::r,k,0=>by simp [cool]
 | s::r,k,i + 1=>by
  have:=Kt vs r (k + 1) i
  rw [show k + 1 + i=k + (i + 1) by omega] at this;simpa [cool] using this
theorem NX (vs:List Nat):∀ (ρ:Af) (k:Nat),(cool vs k ρ).length=ρ.length
 | [],_=>rfl
 | s::r,k=>by simp [cool,NX vs r]
section
variable {M:Fm}{ρ ρ':Af}{σ σ':St}{H H' H0 H1:Hp}{g g' g1:Os}{vs vs':List Nat}{K:Kx}{Z Z' G G':Addr->Prop}{x:PV}{d i:Nat}{v:V}{a:Addr}{f f':Fx}{fa:Fa}{fb:Fb}{D:Ends}{R:Rs}
theorem Rep.fin (r:Rep M ρ σ H g):FinR M ρ H g:=⟨r.h0,r.le,r.cl,r.ke,λ i h=>let ⟨os,d,e,s⟩:=r.sto i h;⟨os,d,e,s.move Le.refl.kp (λ _ _ _ e=>e) λ a q=>.inl (.inr q)⟩⟩
theorem Rep.exc {c:Nat} (r:Rep M ρ σ H g) (q:RsOk M D (.exc c)) (l:Le H H'):M.W σ' c H':=by
 cases e:M.cl with
 | true=>exact q σ' H' ((r.cl e).trans l)
 | false=>exact (r.nw e _ _ _ (q σ' _ Le.refl)).elim
theorem BJ {Q1:VK} (rep:Rep M ρ σ H g) (q:RsOk M D R) (hx:∀ c,f ρ=.exc c->R=.exc c) (hn:f ρ=.no->R=.no) (h:∀ x d v H1,f ρ=.ok (x,d,ρ)->Le H H1->Rep M ρ σ H1 g->VT (M.k g) (M.z g vs d) H H1 x d v->Q1 v H1):tE M f vs σ H Q1:=by
 refine ⟨ρ,g,rep,?_⟩;unfold EO;cases e:f ρ with
 | no=>rw [hn e] at q;exact q
 | exc c=>rw [hx c e] at q;exact λ H' k=>rep.exc q k
 | ok p=>
  obtain ⟨x,d,ρ1⟩:=p;intro (e1:ρ1=ρ) v H1 l t;subst e1;exact h x d v H1 e l (rep.grow l) t
theorem UN {Q1:Bool->Hp->Prop} (rep:Rep M ρ σ H g) (q:RsOk M D R) (hx:∀ c,fb ρ=.exc c->R=.exc c) (hn:fb ρ=.no->R=.no) (h:∀ b H1,fb ρ=.ok (b,ρ)->Le H H1->Rep M ρ σ H1 g->Q1 b H1):tT M fb σ H Q1:=by
 refine ⟨ρ,g,rep,?_⟩;cases e:fb ρ with
 | no=>rw [hn e] at q;exact q
 | exc c=>rw [hx c e] at q;exact λ H' k=>rep.exc q k
 | ok p=>
  obtain ⟨b,ρ1⟩:=p;intro (e1:ρ1=ρ) H1 l;subst e1;exact h b H1 e l (rep.grow l)
theorem wb (hq:tS M A4 D σ H):WA D σ H:=let ⟨_,g,r,q⟩:=hq;q σ H g r
theorem we {f g:Fs} (hq:tS M (Ag f g) D σ H):Mn (tS M f) (tS M g) D σ H:=by
 obtain ⟨ρ,g',rep,q⟩:=hq;refine ⟨ρ,g',rep,?_⟩;unfold Ag at q;revert q;cases f ρ with
 | nx ρ1=>exact λ q σ' H' g' r=>⟨ρ1,g',r,q⟩
 | _=>exact id
theorem kA {c:Fb}{f g:Fs} (hq:tS M (AV c f g) D σ H):Ms (tT M c) (tS M f) (tS M g) D σ H:=by
 obtain ⟨ρ,g',rep,q⟩:=hq;unfold AV at q;refine UN rep q (λ _ e=>by rw [e]) (λ e=>by rw [e]) λ b H1 e _ r=>?_;rw [e] at q;cases b
 ·exact ⟨ρ,g',r,q⟩
 ·exact ⟨ρ,g',r,q⟩
theorem Rep.with (r:Rep M ρ σ H g) (k:Kp (M.k g) (λ a=>M.z g [] 0 a) H H') (ks:∀ a o,g.st a->H a=some o->H' a=some o) (kc:Lx M.E M.H₀ H') (cl:M.cl=true->Le M.H₀ H')
  (hst:g1.st=g.st) (hlc:g1.lc=g.lc) (hz:∀ a,M.z g1 [] 0 a->M.z g [] 0 a\/H a=none) (hl:ρ'.length=ρ.length) (hl':σ'.length=σ.length) (hgh:∀ i,M.gh=some i->ρ'[i]?=ρ[i]?\/∃ os d d',ρ[i]?=some (some (.sto os,d))/\ρ'[i]?=some (some (.sto os,d')))
  (own:∀ i x d,ρ'[i]?=some (some (x,d))->M.gh≠some i->∃ v,σ'[i]?=some (some v)/\SV (M.k g1) H' (M.z g1 (M.al i) d) (g1.ow i) x d v)
  (new:∀ i a,g1.ow i a->M.H₀ a=none/\M.gh≠some i/\∃ p,ρ'[i]?=some (some p)) (dj:∀ i j a,g1.ow i a->g1.ow j a->i=j) (st:∀ i a,g1.ow i a->¬ g.st a):Rep M ρ' σ' H' g1:=by
 have ek:M.k g1=M.k g:=by unfold Fm.k;rw [hst,hlc]
 refine ⟨own,λ i h=>?_,new,dj,λ a s=>?_,kc,by rw [ek];exact r.le,cl,λ h=>ek.trans (r.ke h),r.nw,r.zd,r.zt,by rw [hl,hl'];exact r.len⟩
 ·obtain ⟨os,d,e,s⟩:=r.sto i h;rw [ek];have s':Sto (M.k g) H' (M.z g1 [] 0) os:=s.move k ks hz;rcases hgh i h with q | ⟨os1,d1,d',e1,e2⟩
  ·exact ⟨os,d,q.trans e,s'⟩
  ·rw [e1] at e;cases e;exact ⟨_,d',e2,s'⟩
 ·rw [hst] at s;refine ⟨?_,(r.st a s).2.1,λ i h=>st i a h s⟩;cases e:H a with
  | none=>exact absurd e (r.st a s).1
  | some o=>rw [ks a o s e];simp
theorem SV.cong (e:∀ a,G' a↔G a) (h:SV K H Z G x d v):SV K H Z G' x d v:=by rw [show G'=G from funext λ a=>propext (e a)];exact h
theorem fA:(Bf d vs ρ).length=ρ.length:=by
 unfold Bf;split
 ·rfl
 ·exact NX vs ρ 0
theorem Rep.cooled (r:Rep M ρ σ H g) (hal:∀ i,M.al i=[]) (d:Nat) (vs:List Nat):∃ g1,Rep M (Bf d vs ρ) σ H g1/\M.k g1=M.k g/\∀ i a,g1.ow i a->g.ow i a/\(d=om\/i∉vs):=by
 by_cases hd:d=om
 ·exact ⟨g,by unfold Bf;rw [if_pos hd];exact r,rfl,λ i a e=>⟨e,.inl hd⟩⟩
 ·have e:Bf d vs ρ=cool vs 0 ρ:=by unfold Bf;rw [if_neg hd]
  rw [e];have ls:∀ i a,(i∉vs/\g.ow i a)->g.ow i a:=λ i a h=>h.2;have zs:∀ {c e:Nat}{a:Addr},(e=c\/e≠om)->M.z ⟨λ i a=>i∉vs/\g.ow i a,g.lc,g.st⟩ [] e a->M.z g [] c a:=λ {c e a} he q=>Fm.z_to r.zt he (Fm.z_ow ls q);refine ⟨⟨λ i a=>i∉vs/\g.ow i a,g.lc,g.st⟩,r.with Le.refl.kp (λ _ _ _ e=>e) r.h0 r.cl rfl rfl (λ a q=>.inl (zs (.inl rfl) q)) (NX vs ρ 0) rfl (λ i h=>?_) (λ i y e h hg=>?_) (λ i a h=>?_) (λ i j a h h'=>r.dj i j a h.2 h'.2) (λ i a h s=>(r.st a s).2.2 i h.2),rfl,λ i a h=>⟨h.2,.inr h.1⟩⟩
  ·obtain ⟨os,d',e',_⟩:=r.sto i h;rw [Kt,e',He];by_cases hi:vs.contains i=true
   ·exact .inr ⟨os,d',0,rfl,by rw [Hh,if_pos hi];rfl⟩
   ·exact .inl (by rw [Hh,if_neg hi])
  ·rw [Kt,He,jc1] at h;obtain ⟨s,es,h⟩:=h;by_cases hi:vs.contains i=true
   ·rw [if_pos hi] at h;cases s with
    | none=>cases h
    | some p=>
     obtain ⟨z,c⟩:=p;cases h;obtain ⟨v,hv,s⟩:=r.own i z c es hg;refine ⟨v,hv,.inl ⟨by cases z <;> rfl,λ b q=>q.1 (by simpa using hi),s.vw (λ a ea q=>?_) λ a q=>by rw [hal];exact zs (e:=0) (.inr (by decide)) (by rw [hal] at q;exact q)⟩⟩;rcases q with ⟨j,ej,_⟩ | q
     ·exact ej.1 (by rw [r.dj j i a ej.2 ea];simpa using hi)
     ·exact r.zd _ a q (r.new i a ea).1
   ·rw [if_neg hi] at h;obtain ⟨v,hv,s⟩:=r.own i y e (by rw [es,h]) hg;have hi':i∉vs:=by simpa using hi
    exact ⟨v,hv,(SV.weak (λ a q=>by rw [hal];rw [hal] at q;exact zs (.inl rfl) q) s).cong λ a=>⟨λ h=>h.2,λ h=>⟨hi',h⟩⟩⟩
  ·obtain ⟨n,hg,p,e⟩:=r.new i a h.2;refine ⟨n,hg,p,?_⟩;rw [Kt,e,He,Hh,if_neg (by simpa using h.1)]
def Fm.zN (M:Fm) (g:Os) (i d:Nat):Addr->Prop:=λ a=>(∃ j,j≠i/\g.ow j a/\(d=om\/j∉M.al i))\/M.Z (C2 d) a
theorem Fm.zN_z (h:M.zN g i d a):M.z g (M.al i) d a:=h.imp (λ ⟨j,_,h⟩=>⟨j,h⟩) id
theorem Rep.write (r:Rep M ρ σ H0 g) (k:Le H0 H) (hk:∀ a o,H a=some o->H' a=some o\/(g.ow i a/\H' a≠none)) (hi:i < ρ.length) (hg:M.gh≠some i) (hal:H'=H\/∀ i,M.al i=[])
  (hG:∀ a,G' a->g.ow i a\/H0 a=none) (s:SV (M.k g) H' Z G' x d v) (hz:∀ a,M.zN g i d a\/G' a->Z a):Rep M (ρ.set i (some (x,d))) (σ.set i (some v)) H' ⟨λ j a=>(j=i/\G' a)\/(j≠i/\g.ow j a),g.lc,g.st⟩:=by
 have hk0:∀ a o,H0 a=some o->H' a=some o\/(g.ow i a/\H' a≠none):=λ a o e=>hk a o (k a o e);have old:∀ a o,¬ g.ow i a->H0 a=some o->H' a=some o:=λ a o n e=>(hk0 a o e).resolve_right λ h=>n h.1;have kp:∀ {al:List Nat}{c:Nat},(H'=H\/al=[])->Kp (M.k g) (M.z g al c) H0 H':=λ {al c} ha a o e=>by
  rcases ha with ha | ha
  ·exact .inl (by rw [ha];exact k a o e)
  ·rcases hk0 a o e with h | ⟨h,n⟩
   ·exact .inl h
   ·obtain ⟨o',m,e'⟩:=r.owned h;rw [e] at e';cases e';exact .inr (.inl (.inl ⟨.inl ⟨i,h,.inr (by rw [ha];simp)⟩,m⟩))
 have h0:∀ a o,M.H₀ a=some o->H0 a=some o->H' a=some o:=λ a o e e'=>old a o (λ q=>by rw [(r.new i a q).1] at e;cases e) e';have new:∀ a,G' a->M.H₀ a=none:=λ a h=>(hG a h).elim (λ h=>(r.new i a h).1) λ h=>r.h0.back h;have hσ:i < σ.length:=by rw [<- r.len];exact hi
 refine r.with (kp (.inr rfl)) (λ a o s=>old a o λ q=>(r.st a s).2.2 i q) (λ a o e=>?_) (λ c a o e=>h0 a o e (r.cl c a o e)) rfl rfl (λ a q=>?_) (FD ..) (FD ..) (λ j h=>.inl (Ga λ z=>hg (by rw [z];exact h))) (λ j y e h gj=>?_) (λ j a h=>?_) (λ j l a h h'=>?_) (λ j a h s=>?_)
 ·rcases r.h0 a o e with q | ⟨s1,so,q⟩
  ·exact .inl (h0 a o e q)
  ·refine .inr ⟨s1,so,?_⟩;cases e1:H0 a with
   | none=>exact absurd e1 q
   | some o1=>exact (hk0 a o1 e1).elim (λ h=>by rw [h];simp) λ h=>h.2
 ·rcases q with ⟨j,⟨_,ej⟩ | ⟨_,ej⟩,n⟩ | q
  ·exact (hG a ej).elim (λ h=>.inl (.inl ⟨i,h,.inr (by simp)⟩)) .inr
  ·exact .inl (.inl ⟨j,ej,n⟩)
  ·exact .inl (.inr q)
 ·by_cases hj:j=i
  ·subst hj;rw [GD hi] at h;cases h;refine ⟨v,GD hσ,?_⟩;exact (SV.weak (λ a q=>hz a (by
    rcases q with ⟨l,⟨_,el⟩ | ⟨hl,el⟩,n⟩ | q
    ·exact .inr el
    ·exact .inl (.inl ⟨l,hl,el,n⟩)
    ·exact .inl (.inr q))) s).cong λ a=>⟨λ h=>h.elim (λ h=>h.2) λ h=>(h.1 rfl).elim,λ h=>.inl ⟨rfl,h⟩⟩
  ·rw [Ga (Et hj)] at h;obtain ⟨w,hw,t⟩:=r.own j y e h gj;refine ⟨w,by rw [Ga (Et hj)];exact hw,?_⟩;refine SV.cong (λ a=>⟨λ h=>h.elim (λ h=>(hj h.1).elim) λ h=>h.2,λ h=>.inr ⟨hj,h⟩⟩) (t.move (kp (hal.imp id λ h=>h j)) .rf (λ a o q=>old a o λ q'=>hj (r.dj j i a q q')) λ a q=>?_);rcases q with ⟨l,⟨rfl,ej⟩ | ⟨_,ej⟩,n⟩ | q
   ·exact (hG a ej).elim (λ h=>.inl (.inl ⟨_,h,n⟩)) .inr
   ·exact .inl (.inl ⟨l,ej,n⟩)
   ·exact .inl (.inr q)
 ·rcases h with ⟨rfl,h⟩ | ⟨hj,h⟩
  ·exact ⟨new a h,hg,_,GD hi⟩
  ·obtain ⟨n,gj,p,e⟩:=r.new j a h;exact ⟨n,gj,p,by rw [Ga (Et hj)];exact e⟩
 ·have no:∀ {m:Nat},m≠i->G' a->g.ow m a->False:=λ {m} hm e e'=>(hG a e).elim (λ h=>hm (r.dj m i a e' h)) λ h=>by obtain ⟨u,_,q⟩:=r.owned e';rw [h] at q;cases q
  rcases h with ⟨rfl,h⟩ | ⟨hj,h⟩ <;> rcases h' with ⟨rfl,h'⟩ | ⟨hl,h'⟩
  ·rfl
  ·exact (no hl h h').elim
  ·exact (no hj h' h).elim
  ·exact r.dj j l a h h'
 ·rcases h with ⟨rfl,h⟩ | ⟨hj,h⟩
  ·exact (hG a h).elim (λ h=>(r.st a s).2.2 _ h) λ h=>(r.st a s).1 h
  ·exact (r.st a s).2.2 j h
theorem Ku (h:∀ i a,g1.ow i a->g.ow i a/\(d=om\/i∉vs)) (zt:∀ a,M.Z false a->M.Z true a) {c:Nat}{us:List Nat} (hc:c=d\/c≠om) (q:M.z g1 us c a):M.z g vs d a:=
 q.elim (λ ⟨j,ej,_⟩=>.inl ⟨j,h j a ej⟩) λ q=>(Fm.z_to (g:=⟨λ _ _=>False,[],λ _=>False⟩) (vs:=[]) zt hc (.inr q)).elim (λ ⟨_,e,_⟩=>e.elim) .inr
def Aj (ms:Bool) (i:Nat) (f:Fx) (vs:List Nat):Fs:=λ ρ=>match f ρ with
 | .ok (x,d,ρ1)=>if i < ρ1.length/\(ms=true->d=om) then .nx ((Bf d vs ρ1).set i (some (x,d))) else .no
 | .exc c=>.exc c
 | .no=>.no
theorem SW {ms:Bool} (hal:∀ i,M.al i=[]) (hg:M.gh≠some i) (hq:tS M (Aj ms i f vs) D σ H):EE (tE M f vs) (HD i) D σ H:=by
 obtain ⟨ρ,g,rep,q⟩:=hq;unfold Aj at q;refine BJ rep q (λ _ e=>by rw [e]) (λ e=>by rw [e]) λ x d v H1 e l r ⟨G,hn,s⟩=>?_;rw [e] at q;dsimp only at q;split at q
 ·rename_i hc;obtain ⟨g1,r1,ek,h1⟩:=rep.cooled hal d vs;exact q _ _ _ (r1.write l (λ a o e=>.inl e) (by rw [fA];exact hc.1) hg (.inl rfl) (λ a h=>.inr (hn a h)) (ek ▸ s) λ a q=>q.imp (λ h=>Ku h1 rep.zt (.inl rfl) (Fm.zN_z h)) id)
 ·exact q.elim
def As (f:Fx):Fs:=λ ρ=>match f ρ with
 | .ok (x,d,ρ1)=>.rt x d ρ1
 | .exc c=>.exc c
 | .no=>.no
theorem wc (hq:tS M (As f) D σ H):J5 (tE M f vs) D σ H:=by
 obtain ⟨ρ,g,rep,q⟩:=hq;unfold As at q;refine BJ rep q (λ _ e=>by rw [e]) (λ e=>by rw [e]) λ x d v H1 e l r t=>?_;rw [e] at q;exact q v H1 g r.fin ((t.weak λ a q=>.inr q).back λ _=>rep.h0.back)
def C6 (i:Nat):Fs:=λ ρ=>match ρ[i]? with
 | some (some (x,d))=>.rt x d ρ
 | _=>.no
theorem uO (hal:∀ i,M.al i=[]) (hg:M.gh≠some i) (hq:tS M (C6 i) D σ H):J5 (Dw i) D σ H:=by
 obtain ⟨ρ,g,rep,q⟩:=hq;unfold C6 at q;split at q
 ·rename_i x d e;obtain ⟨v,hv,s⟩:=rep.own i x d e hg;refine ⟨v,hv,q v H g rep.fin ⟨g.ow i,λ a ea=>(rep.new i a ea).1,s.weak λ a q=>?_⟩⟩;rcases q with q | q
  ·exact .inr q
  ·exact .inl ⟨i,q,by rw [hal];exact .inr (by simp)⟩
 ·exact q.elim
def Bv (f:Fx):Fs:=λ ρ=>match f ρ with
 | .ok (_,_,ρ1)=>.nx ρ1
 | .exc c=>.exc c
 | .no=>.no
theorem uJ (hq:tS M (Bv f) D σ H):Po (tE M f vs) D σ H:=by
 obtain ⟨ρ,g,rep,q⟩:=hq;unfold Bv at q;refine BJ rep q (λ _ e=>by rw [e]) (λ e=>by rw [e]) λ x d v H1 e l r t=>?_;rw [e] at q;exact q σ H1 g r
theorem IsL.length {xs:List PV}{ws:List V} (h:IsL K H Z xs ws):ws.length=xs.length:=(Paired.length h).symm
theorem Paired.append {α β:Type}{F:α->β->Prop}:∀ {xs ys:List α}{us ws:List β},Bj F xs us->Bj F ys ws->Bj F (xs++ys) (us++ws)
 | _,_,_,_,.nil,s=>s
 | _,_,_,_,.cons r t,s=>.cons r (Paired.append t s)
theorem Paired.set {α β:Type}{F:α->β->Prop}{x:α}{u:β} (r:F x u):∀ {xs:List α}{us:List β} (i:Nat),Bj F xs us->Bj F (xs.set i x) (us.set i u)
 | _,_,_,.nil=>.nil
 | _,_,0,.cons _ t=>.cons r t
 | _,_,i + 1,.cons q t=>.cons q (Paired.set r i t)
theorem Rep.list {xs:List PV} (r:Rep M ρ σ H g) (hg:M.gh≠some i) (e:ρ[i]?=some (some (.lst xs,d))) (hd:d≠0):∃ a,σ[i]?=some (some (.ref a))/\g.ow i a/\∃ ws,H a=some (.lst ws)/\Bj (El (M.k g) H (M.z g (M.al i) d) (g.ow i) a (Bk d xs)) xs ws/\(Bk d xs=true->Ds xs ws):=by
 obtain ⟨v,hv,s⟩:=r.own i _ d e hg;rcases s with ⟨q,_⟩ | ⟨_,a,rfl,ys,ws,⟨rfl,h⟩,ga,_,p,ds⟩
 ·exact absurd q (by unfold Bx;simp [Co,hd])
 ·exact ⟨a,hv,ga,ws,h,p,ds⟩
def AW (i:Nat) (f:Fx) (vs:List Nat):Fs:=λ ρ=>match ρ[i]? with
 | some (some (.lst _,0))=>.no
 | some (some (.lst _,_ + 1))=>(match f ρ with
  | .ok (y,e,ρ1)=>(match (Bf e vs ρ1)[i]? with
   | some (some (.lst xs,d))=>if d≠0/\xs.length < Au then .nx ((Bf e vs ρ1).set i (some (.lst (xs++[y]),if d=om/\e=om then om else 1))) else .no
   | _=>.no)
  | .exc c=>.exc c
  | .no=>.no)
 | _=>.no
theorem zwn {xs:List PV}:Bk d xs=true↔d=om/\tf xs=true:=by unfold Bk;rw [AU,beq_iff_eq]
theorem qf7 {xs ys:List PV}:tf (xs++ys)=true↔tf xs=true/\tf ys=true:=by
 rw [zya,zya,zya];exact ⟨λ h=>⟨λ x hx=>h x (Jb _ hx),λ x hx=>h x (CL _ hx)⟩,λ h x hx=>(jh5.mp hx).elim (h.1 x) (h.2 x)⟩
theorem El.seen {a:Addr}{t:Bool}{xs:List PV}{ws:List V} (p:Bj (El K H Z G a t) xs ws) (n:∀ b,G b->b≠a->¬ Z' b) (z:∀ a,Z' a->Z a):IsL K H Z' xs ws:=
 L2.Paired.mapP p λ _ _ h=>by
  rcases h with ⟨_,h⟩ | ⟨_,r,ys,us,rfl,e,rfl,na,g,hr,h⟩
  ·exact h.weak z
  ·exact .nd (n r g na) ⟨rfl,.of hr⟩ (h.weak z)
theorem Ds.app {xs:List PV}{y:PV}{ws:List V}{w:V} (hl:ws.length=xs.length) (h:Ds xs ws) (n:∀ (i:Nat) (r:Addr) (x:PV),xs[i]?=some x->AN x=true->AN y=true->ws[i]?=some (V.ref r)->w≠.ref r):Ds (xs++[y]) (ws++[w]):=by
 have sp:∀ {k:Nat}{z:PV}{r:Addr},(xs++[y])[k]?=some z->(ws++[w])[k]?=some (V.ref r)->(xs[k]?=some z/\ws[k]?=some (V.ref r))\/(k=xs.length/\z=y/\w=.ref r):=λ {k z r} e h=>by
  rcases Nat.lt_trichotomy k xs.length with q | q | q
  ·rw [DC (by omega)] at e h;exact .inl ⟨e,h⟩
  ·subst q;rw [GF (A5 _)] at e;rw [GF (by omega)] at h;simp [hl] at e h;exact .inr ⟨rfl,e.symm,h⟩
  ·rw [EL (by simp;omega)] at e;cases e
 intro i j r x z e1 e2 r1 r2 h1 h2;rcases sp e1 h1 with ⟨e3,h3⟩ | ⟨q1,e3,h3⟩ <;> rcases sp e2 h2 with ⟨e4,h4⟩ | ⟨q2,e4,h4⟩
 ·exact h i j r x z e3 e4 r1 r2 h3 h4
 ·exact (n i r x e3 r1 (e4 ▸ r2) h3 h4).elim
 ·exact (n j r z e4 r2 (e3 ▸ r1) h4 h3).elim
 ·exact q1.trans q2.symm
theorem O2 {α:Type}:∀ {l:List α}{i:Nat}{x:α},l[i]?=some x->l.set i x=l
 | [],_,_,_=>rfl
 | _::_,0,_,e=>by cases e;rfl
 | _::l,i + 1,_,e=>congrArg _ (O2 (l:=l) (by simpa using e))
theorem El.row {a:Addr}{y:PV}{w:V} (h:El K H Z G a true y w) (hy:AN y=true):∃ r ys us,y=.lst ys/\Cw ys=true/\w=.ref r/\r≠a/\G r/\H r=some (.lst us)/\IsL K H Z ys us:=by
 rcases h with ⟨e,_⟩ | ⟨_,h⟩
 ·rw [hy] at e;cases e
 ·exact h
theorem HY {α β γ:Type}{F:γ->β->Prop}{q:α->γ}:∀ {xs:List α}{ws:List β},Bj (λ a b=>F (q a) b) xs ws->Bj F (xs.map q) ws
 | _,_,.nil=>.nil
 | _,_,.cons h t=>.cons h (HY t)
theorem HX {α β:Type}{F G:α->β->Prop}:∀ {xs:List α}{ws:List β},Bj F xs ws->(∀ a∈xs,∀ b,F a b->G a b)->Bj G xs ws
 | _,_,.nil,_=>.nil
 | _,_,.cons h t,k=>.cons (k _ AD _ h) (HX t λ a ha=>k a (AE _ ha))
theorem Ea {α β:Type}{F:α->β->Prop}:∀ {xs:List α}{us:List β}{i:Nat}{x:α},Bj F xs us->xs[i]?=some x->∃ u,us[i]?=some u/\F x u
 | _,_,_,_,.nil,e=>by simp at e
 | _,_,0,_,.cons r _,e=>by cases e;exact ⟨_,rfl,r⟩
 | _,_,i + 1,x,.cons _ t,e=>Ea (i:=i) t e
theorem P2 {o o':HO} (k:Le H H1) (ha:H1 a=some o) (m:Mo o) (z:Z a):Kp K Z H (Av H1 a o'):=λ b p eb=>by
 by_cases hb:b=a
 ·subst hb;rw [k b p eb] at ha;cases ha;exact .inr (.inl (.inl ⟨z,m⟩))
 ·rw [AG hb];exact .inl (k b p eb)
theorem Rep.relV {o o':HO}{c:Nat}{ys:List PV}{us:List V} (r:Rep M ρ σ H g) (hal:∀ i,M.al i=[]) (hg:M.gh≠some i) (hi:i < ρ.length) (hσ:σ[i]?=some (some (.ref a))) (ga:g.ow i a) (l:Le H H1) (ha:H1 a=some o) (m:Mo o)
  (hc:Bx x c=true) (n:Nd (λ p=>p=o') ys us x) (t:Bk c ys=true->∀ x∈ys,AN x=false) (h:IsL (M.k g) H1 (λ b=>M.zN g i c b\/b=a) ys us):∃ g',Rep M (ρ.set i (some (x,c))) σ (Av H1 a o') g':=by
 have:=r.write (H':=Av H1 a o') (G':=λ b=>b=a) (v:=.ref a) (Z:=λ b=>M.zN g i c b\/b=a) l (λ b o eb=>by
  by_cases hb:b=a
  ·rw [hb];exact .inr ⟨ga,by rw [BN];simp⟩
  ·rw [AG hb];exact .inl eb) hi hg (.inr hal) (λ b hb=>.inl (hb ▸ ga)) (.own hc (n.mono λ p _ e=>by rw [e];exact BN) (h.move (P2 Le.refl ha m (.inr rfl)) .rf λ _=>.inl) t) λ _=>id
 rw [O2 hσ] at this;exact ⟨_,this⟩
theorem Rep.relR {ws us:List V}{ys:List PV} (r:Rep M ρ σ H g) (hal:∀ i,M.al i=[]) (hg:M.gh≠some i) (hi:i < ρ.length) (hσ:σ[i]?=some (some (.ref a))) (ga:g.ow i a) (l:Le H H1) (ha:H1 a=some (.lst ws)) (ht:tf ys=true)
  (hG:∀ b,G b->g.ow i b\/H b=none) (gG:G a) (dom:∀ b,G b->∃ o,Mo o/\H1 b=some o) (p:Bj (El (M.k g) H1 (λ b=>M.zN g i om b\/G b) G a true) ys us) (ds:Ds ys us):∃ g',Rep M (ρ.set i (some (.lst ys,om))) σ (Av H1 a (.lst us)) g':=by
 have tw:Bk om ys=true:=zwn.mpr ⟨rfl,ht⟩
 have:=r.write (H':=Av H1 a (.lst us)) (G':=G) (v:=.ref a) (Z:=λ b=>M.zN g i om b\/G b) l (λ b o eb=>by
  by_cases hb:b=a
  ·rw [hb];exact .inr ⟨ga,by rw [BN];simp⟩
  ·rw [AG hb];exact .inl eb) hi hg (.inr hal) hG (.lst (by decide) BN gG (λ b h=>?_) (by
   rw [tw];exact L2.Paired.mapP p λ _ _ h=>h.move (P2 Le.refl ha trivial (.inr gG)) .rf (λ b o _ hb e=>by rw [AG hb];exact e) (λ _=>.inl) λ _ h=>h) λ _=>ds) λ _=>id
 ·rw [O2 hσ] at this;exact ⟨_,this⟩
 ·by_cases hb:b=a
  ·exact ⟨.lst _,trivial,by rw [hb];exact BN⟩
  ·rw [AG hb];exact dom b h
theorem Rep.oldV {c:Nat}{t:Bool}{xs:List PV}{ws:List V} (r:Rep M ρ σ H g) (hal:∀ i,M.al i=[]) (ga:g.ow i a) (hc:c=d\/c≠om) (p:Bj (El (M.k g) H (M.z g (M.al i) d) (g.ow i) a t) xs ws):IsL (M.k g) H (λ b=>M.zN g i c b\/b=a) xs ws:=
 El.seen p (λ b gb hb q=>by
  rcases q with (⟨j,hj,e,_⟩ | q) | q
  ·exact hj (r.dj j i b e gb)
  ·exact r.zd _ b q (r.new i b gb).1
  ·exact hb q) λ b q=>Fm.z_to r.zt hc (q.elim Fm.zN_z λ h=>.inl ⟨i,h ▸ ga,by rw [hal];exact .inr (by simp)⟩)
theorem Rep.cz {c e:Nat} (r:Rep M ρ σ H g) (hal:∀ i,M.al i=[]) (h1:∀ i a,g1.ow i a->g.ow i a/\(e=om\/i∉vs)) (ga:g1.ow i a) (hc:c=e\/c≠om) {b:Addr} (q:M.zN g1 i c b\/b=a):M.z g vs e b:=
 Ku h1 r.zt hc (us:=M.al i) (q.elim Fm.zN_z λ h=>.inl ⟨i,h ▸ ga,by rw [hal];exact .inr (by simp)⟩)
theorem vY (hal:∀ i,M.al i=[]) (hg:M.gh≠some i) (hq:tS M (AW i f vs) D σ H):Po (Pd M.K "list" Yw (Dw i) (Pn (tE M f vs) HS)) D σ H:=by
 obtain ⟨ρ,g,rep,q⟩:=hq;unfold AW at q;split at q
 ·exact q.elim
 ·rename_i xs0 d0 e0;obtain ⟨a,hσ,_,ws0,ha0,_⟩:=rep.list hg e0 (qy _);refine ⟨_,hσ,Y5 (.inl (.inl ha0)),BJ rep q (λ _ e=>by rw [e]) (λ e=>by rw [e]) λ y e w H1 ef l r ⟨G,hn,s⟩=>?_⟩;rw [ef] at q;dsimp only at q;split at q
  ·rename_i xs d es;split at q
   ·rename_i hc;obtain ⟨g1,r1,ek,h1⟩:=rep.cooled hal e vs;obtain ⟨a',hσ',ga,ws,ha,p,ds⟩:=r1.list hg es hc.1;rw [hσ] at hσ';cases hσ';have hl:ws.length=xs.length:=(Paired.length p).symm;have ha1:=l a _ ha;have na:¬ G a:=λ z=>by rw [hn a z] at ha;cases ha
    have hi:=(jb0.mp es).1;refine ⟨a,ws,w,rfl,rfl,ha1,by rw [hl];exact hc.2,?_⟩;rw [<- ek] at s;have c0:(if d=om/\e=om then om else 1)≠0:=by split <;> decide
    have cd:∀ c,(c=d\/c=e)->(if d=om/\e=om then om else 1)=c\/(if d=om/\e=om then om else 1)≠om:=λ c h=>by
     split
     ·rename_i z;exact .inl (h.elim (λ h=>h ▸ z.1.symm) λ h=>h ▸ z.2.symm)
     ·exact .inr (by decide)
    generalize ec:(if d=om/\e=om then om else 1)=c at c0 cd q
    suffices ∃ g',Rep M ((Bf e vs ρ).set i (some (.lst (xs++[y]),c))) σ (Av H1 a (.lst (ws++[w]))) g' from let ⟨g',r'⟩:=this;q _ _ g' r'
    cases et:Bk c (xs++[y]) with
    | true=>
     obtain ⟨rfl,et⟩:=zwn.mp et;obtain ⟨rfl,rfl⟩:d=om/\e=om:=by
      refine RQ λ z=>?_;rw [if_neg z] at ec;exact absurd ec (by decide)
     obtain ⟨tx,ty⟩:=qf7.mp et;have td:Bk om xs=true:=zwn.mpr ⟨rfl,tx⟩;rw [td] at p;refine r1.relR (G:=λ b=>g1.ow i b\/G b) hal hg hi hσ ga l ha1 et (λ b h=>h.imp id (hn b)) (.inl ga) (λ b h=>h.elim (λ h=>let ⟨o,m,e⟩:=r1.owned h;⟨o,m,l b o e⟩) s.dom)
      (Paired.append (L2.Paired.mapP p λ _ _ h=>h.move l.kp .rf (λ b o _ _=>l b o) (λ b q=>?_) λ _=>.inl) (.cons ((s.el rfl (zya.mp ty y (by simp)) na).move Le.refl.kp .rf (λ _ _ _ _ e=>e) (λ _=>.inl) λ _=>.inr) .nil)) (Ds.app hl (ds td) λ j r x e1 y1 y2 h1 h2=>?_)
     ·rcases q with q | q | q
      ·exact .inl (Fm.zN_z q)
      ·exact .inl (.inl ⟨i,q,.inl rfl⟩)
      ·exact .inr (hn b q)
     ·obtain ⟨u,eu,h⟩:=Ea p e1;rw [h1] at eu;cases eu;obtain ⟨_,_,us,_,_,e,_,_,hr,_⟩:=h.row y1;cases e;obtain ⟨_,_,_,_,_,e,_,gr,_⟩:=(s.el (Z:=λ _=>False) rfl (zya.mp ty y (by simp)) na).row y2;rw [h2] at e;cases e;rw [hn r gr] at hr;cases hr
    | false=>
     have hz:∀ b,(M.zN g1 i c b\/b=a)->M.z g vs e b:=λ b=>rep.cz hal h1 ga (cd e (.inr rfl));exact r1.relV hal hg hi hσ ga l ha1 trivial (by simp [Bx,Co,c0]) ⟨rfl,rfl⟩ (λ h=>by rw [et] at h;cases h) (Paired.append (IsL.up l (r1.oldV hal ga (cd d (.inl rfl)) p)) (.cons (s.vw (λ b gb q=>rep.zdom (hz b q) (hn b gb)) λ b q=>.inl (hz b q)) .nil))
   ·exact q.elim
  ·exact q.elim
 ·exact q.elim
def C1 (i:Nat) (f:Fx) (vs:List Nat):Fs:=λ ρ=>match ρ[i]? with
 | some (some (.lst _,0))=>.no
 | some (some (.lst _,_ + 1))=>(match f ρ with
  | .ok (.lst ys,e,ρ1)=>(match (Bf e vs ρ1)[i]? with
   | some (some (.lst xs,d))=>if d≠0/\xs.length + ys.length<=Au then .nx ((Bf e vs ρ1).set i (some (.lst (xs++ys),1))) else .no
   | _=>.no)
  | .ok _=>.no
  | .exc c=>.exc c
  | .no=>.no)
 | _=>.no
theorem wa (hal:∀ i,M.al i=[]) (hg:M.gh≠some i) (hq:tS M (C1 i f vs) D σ H):Po (Pd M.K "list" Yx (Dw i) (Pn (tE M f vs) HS)) D σ H:=by
 obtain ⟨ρ,g,rep,q⟩:=hq;unfold C1 at q;split at q
 ·exact q.elim
 ·rename_i xs0 d0 e0;obtain ⟨a,hσ,_,ws0,ha0,_⟩:=rep.list hg e0 (qy _);refine ⟨_,hσ,Y5 (.inl (.inl ha0)),BJ rep q (λ _ e=>by rw [e]) (λ e=>by rw [e]) λ y e w H1 ef l r t=>?_⟩;rw [ef] at q;split at q
  ·rename_i ys e' ρ1 eq;cases eq;split at q
   ·rename_i xs d es;split at q
    ·rename_i hc;obtain ⟨g1,r1,ek,h1⟩:=rep.cooled hal e vs;obtain ⟨a',hσ',ga,ws,ha,p,ds⟩:=r1.list hg es hc.1;rw [hσ] at hσ';cases hσ';have hl:ws.length=xs.length:=(Paired.length p).symm;have ha1:=l a _ ha;obtain ⟨b,us,rfl,_,hb,lu⟩:=(rep.vw t).lst;refine ⟨a,b,ws,us,rfl,rfl,ha1,hb,by rw [hl,lu.length];exact hc.2,?_⟩;obtain ⟨g',r'⟩:=r1.relV (x:=.lst (xs++ys)) (c:=1) hal hg (jb0.mp es).1 hσ ga l ha1 trivial rfl ⟨rfl,rfl⟩ (λ h=>by cases h) (Paired.append (IsL.up l (r1.oldV hal ga (.inr (by decide)) p)) (ek ▸ lu.weak λ b=>rep.cz hal h1 ga (.inr (by decide))));exact q _ _ g' r'
    ·exact q.elim
   ·exact q.elim
  ·exact q.elim
  ·cases ‹_=_›
  ·cases ‹_=_›
 ·exact q.elim
end
def Kq (K:Kx) (Z:Addr->Prop) (H H':Hp):Prop:=∀ a o,H a=some o->H' a=some o\/(Z a/\Mo o\/K.st a/\So o)
theorem Kq.kp {K:Kx}{Z:Addr->Prop}{H H':Hp} (k:Kq K Z H H'):Kp K Z H H':=λ a o e=>(k a o e).imp id .inl
theorem Le.kq {K:Kx}{Z:Addr->Prop}{H H':Hp} (l:Le H H'):Kq K Z H H':=λ a o e=>.inl (l a o e)
structure Yl (K:Kx) (Z:Addr->Prop) (H0:Hp) (J:It) (els:List PV):Prop where
 go:∀ H i,Kq K Z H0 H->i < els.length->J.go i H
 stop:∀ H i,Kq K Z H0 H->els.length<=i->J.stop i H
 yld:∀ H i x H',Kq K Z H0 H->i < els.length->J.yld i H x H'->Le H H'/\∃ y,els[i]?=some y/\∀ K' Z',K.Le K' H0->(∀ a,Z' a->Z a\/H0 a=none)->Is K' H' Z' y x
def Gd (M:Fm) (al is:List Nat) (tg:TG) (asg:PV->Af->Option Af):Prop:=∀ y v ρ σ H g ρ' (Q:St->Hp->Prop),Rep M ρ σ H g->Is (M.k g) H (M.z g al 0) y v->asg y ρ=some ρ'->(∀ σ' g',Rep M ρ' σ' H g'->M.k g'=M.k g->(∀ i a,g'.ow i a↔i∉is/\g.ow i a)->Q σ' H)->tg v σ H Q
def asgN (i:Nat):PV->Af->Option Af:=λ y ρ=>if i < ρ.length then some (ρ.set i (some (y,dv y))) else none
def De:List Nat->List PV->Af->Option Af
 | [],[],ρ=>some ρ
 | i::is,y::ys,ρ=>(asgN i y ρ).bind (De is ys)
 | _,_,_=>none
def asgT (is:List Nat):PV->Af->Option Af:=λ y ρ=>match y with
 | .tup ys=>De is ys ρ
 | _=>none
def K7:List Nat->Je
 | []=>Nt
 | i::is=>Wn (HD i) (K7 is)
def Bu (asg:PV->Af->Option Af) (body:Fs):List PV->Af->Rs
 | [],ρ=>.nx ρ
 | x::xs,ρ=>match asg x ρ with
  | none=>.no
  | some ρ1=>match body ρ1 with
   | .nx ρ2=>Bu asg body xs ρ2
   | .ct ρ2=>Bu asg body xs ρ2
   | .bk ρ2=>.nx ρ2
   | .rt x d ρ2=>.rt x d ρ2
   | .exc c=>.exc c
   | .no=>.no
def Rz.bindN {α β:Type} (r:Rz α) (f:α->Rz β):Rz β:=match r with
 | .ok a=>f a
 | _=>.no
def DK (k:Nat) (asg:PV->Af->Option Af) (test:Fb) (elt:Fx):List PV->Af->List (PV×Nat)->Rz (List (PV×Nat)×Af)
 | [],ρ,acc=>.ok (acc,ρ)
 | x::xs,ρ,acc=>match asg x (ρ++A6 k none) with
  | none=>.no
  | some ρ1=>(test ρ1).bindN λ (b,ρ2)=>if b=true then (elt ρ2).bindN λ (y,e,ρ3)=>(if acc.length < Au then DK k asg test elt xs (ρ3.take ρ.length) (acc++[(y,e)]) else .no) else DK k asg test elt xs (ρ2.take ρ.length) acc
def CP:List (PV×Nat)->Bool
 | []=>true
 | p::r=>(p.2 == om) && CP r
theorem Of:∀ {xs:List (PV×Nat)},CP xs=true->∀ p∈xs,p.2=om
 | [],_,p,hp=>by cases hp
 | x::xs,h,p,hp=>by
  unfold CP at h;rw [AU] at h;rcases jb8.mp hp with z | z
  ·rw [z];exact eq_of_beq h.1
  ·exact Of h.2 p z
def DN (acc:List (PV×Nat)) (ρ:Af):Rz (PV×Nat×Af):=.ok (.lst (acc.map (·.1)),if CP acc then om else 1,ρ)
structure Inn (M:Fm) (D:Addr) (n:Nat) (vI:List Nat) (M':Fm):Prop where
 K:M'.K=M.K
 Z:M'.Z=λ b a=>M.Z b a\/a=D
 W:M'.W=λ _ _ _=>False
 al:M'.al=λ j=>if j < n then M.al j else vI
 gh:M'.gh=M.gh
section
variable {M:Fm}{ρ ρ':Af}{σ σ':St}{H H' H0 H1:Hp}{g g' g1:Os}{vs vs':List Nat}{K:Kx}{Z Z' G G':Addr->Prop}{x:PV}{d i:Nat}{v:V}{a p:Addr}{f:Fx}{D:Ends}{J:It}{els:List PV}{tg:TG}{asg:PV->Af->Option Af}{body:Fs}{is:List Nat}{z:Nat->Addr->Prop}{ps:List (PV×Nat)}{ws:List V}
theorem VA.length:∀ {ps:List (PV×Nat)}{ws:List V}{G:Addr->Prop},VA K z H ps ws G->ws.length=ps.length
 | [],[],_,_=>rfl
 | [],_::_,_,h=>h.elim
 | _::_,[],_,h=>h.elim
 | _::_,_::_,_,⟨_,_,_,_,_,t⟩=>congrArg (·+ 1) (VA.length t)
theorem VA.dom {b:Addr}:∀ {ps:List (PV×Nat)}{ws:List V}{G:Addr->Prop},VA K z H ps ws G->G b->∃ o,Mo o/\H b=some o
 | [],[],_,h,g=>(h b g).elim
 | [],_::_,_,h,_=>h.elim
 | _::_,[],_,h,_=>h.elim
 | _::_,_::_,_,⟨_,_,e,_,s,t⟩,g=>((e b).mp g).elim s.dom t.dom
theorem VA.app {y:PV}{e:Nat}{w:V}{G2:Addr->Prop} (s:SV K H (λ a=>z e a\/G2 a) G2 y e w):∀ {ps:List (PV×Nat)}{ws:List V}{G:Addr->Prop},VA K z H ps ws G->(∀ a,G a->¬ G2 a)->VA K z H (ps++[(y,e)]) (ws++[w]) λ a=>G a\/G2 a
 | [],[],G,h,_=>⟨G2,λ _=>False,λ a=>⟨λ h'=>.inl (h'.resolve_left (h a)),λ h=>h.elim .inr λ h=>h.elim⟩,λ _ _ h=>h,s,λ _ h=>h⟩
 | [],_::_,_,h,_=>h.elim
 | _::_,[],_,h,_=>h.elim
 | _::_,_::_,G,⟨G1,G3,e,n,s1,t⟩,hn=>⟨G1,λ a=>G3 a\/G2 a,λ a=>by show (G a\/G2 a)↔(G1 a\/(G3 a\/G2 a));rw [e a];exact or_assoc,λ a g1 h=>h.elim (n a g1) (hn a ((e a).mpr (.inl g1))),s1,VA.app s t λ a g3=>hn a ((e a).mpr (.inr g3))⟩
theorem VA.move {z':Nat->Addr->Prop} (k:∀ d,Kp K (λ a=>z d a) H H') (kg:∀ a o,G a->H a=some o->H' a=some o) (h:∀ d a,z' d a->z d a\/H a=none):∀ {ps:List (PV×Nat)}{vs:List V}{G':Addr->Prop},(∀ a,G' a->G a)->VA K z H ps vs G'->VA K z' H' ps vs G'
 | [],[],_,_,t=>t
 | [],_::_,_,_,t=>t.elim
 | _::_,[],_,_,t=>t.elim
 | _::_,_::_,_,gs,⟨G1,G2,e,n,s,t⟩=>⟨G1,G2,e,n,s.move (λ a o q=>(k _ a o q).imp id (Or.imp (Or.imp (And.imp .inl id) id) id)) .rf (λ a o g=>kg a o (gs a ((e a).mpr (.inl g)))) λ a q=>q.elim (λ q=>(h _ a q).imp .inl id) λ q=>.inl (.inr q),t.move k kg h λ a g=>gs a ((e a).mpr (.inr g))⟩
theorem VA.rows (np:¬ G p):∀ {ps:List (PV×Nat)}{ws:List V}{G':Addr->Prop},(∀ a,G' a->G a)->VA K z H ps ws G'->CP ps=true->tf (ps.map (·.1))=true->Bj (El K H Z G' p true) (ps.map (·.1)) ws/\Ds (ps.map (·.1)) ws
 | [],[],_,_,_,_,_=>⟨.nil,λ i j r x y e=>by simp at e⟩
 | [],_::_,_,_,h,_,_=>h.elim
 | _::_,[],_,_,h,_,_=>h.elim
 | q::ps,w::ws,G',gs,⟨G1,G2,e,n,s,t⟩,ha,ht=>by
  unfold CP at ha;rw [AU] at ha;rw [AR] at ht ⊢;unfold tf at ht;rw [AU] at ht;obtain ⟨t1,t2⟩:=VA.rows np (λ a g=>gs a ((e a).mpr (.inr g))) t ha.2 ht.2;have h1:El K H Z G1 p true q.1 w:=s.el (eq_of_beq ha.1) ht.1 λ g=>np (gs p ((e p).mpr (.inl g)));have wk:∀ {G3:Addr->Prop}{x:PV}{v:V},(∀ a,G3 a->G' a)->El K H Z G3 p true x v->El K H Z G' p true x v:=λ hg h=>h.move Le.refl.kp .rf (λ _ _ _ _ e=>e) (λ _=>.inl) hg;refine ⟨.cons (wk (λ a g=>(e a).mpr (.inl g)) h1) (L2.Paired.mapP t1 λ _ _=>wk λ a g=>(e a).mpr (.inr g)),λ i j r x y e1 e2 r1 r2 v1 v2=>?_⟩;have hd:∀ {j:Nat}{y:PV},(ps.map (·.1))[j]?=some y->AN y=true->ws[j]?=some (V.ref r)->AN q.1=true->w=.ref r->False:=λ ej rj vj rq ew=>by
   obtain ⟨u,eu,h⟩:=Ea t1 ej;rw [vj] at eu;cases eu;obtain ⟨_,_,_,_,_,e3,_,g2,_⟩:=h.row rj;obtain ⟨_,_,_,_,_,e4,_,g1,_⟩:=h1.row rq;cases e3;rw [ew] at e4;cases e4;exact n r g1 g2
  cases i with
  | zero=>
   cases j with
   | zero=>rfl
   | succ j=>cases e1;cases v1;exact (hd (by simpa using e2) r2 (by simpa using v2) r1 rfl).elim
  | succ i=>
   cases j with
   | zero=>cases e2;cases v2;exact (hd (by simpa using e1) r1 (by simpa using v1) r2 rfl).elim
   | succ j=>exact congrArg _ (t2 i j r x y (by simpa using e1) (by simpa using e2) r1 r2 (by simpa using v1) (by simpa using v2))
theorem VA.lst (t:VA K z H ps ws G) (hz:∀ d a,z d a->¬ G a) (to:∀ e d a,(e=d\/e≠om)->z e a->z d a) (l:Le H H') (hp:H' p=some (.lst ws)) (np:¬ G p) (zp:∀ d,z d p\/H p=none) {c:Nat} (hc:c=if CP ps=true then om else 1):
  ∃ G',(∀ a,G' a->a=p\/G a)/\SV K H' (λ a=>z c a\/G' a) G' (.lst (ps.map (·.1))) c (.ref p):=by
 have c0:c≠0:=by rw [hc];split <;> decide
 cases et:Bk c (ps.map (·.1)) with
 | true=>
  obtain ⟨rfl,et⟩:=zwn.mp et;have ha:CP ps=true:=by
   refine RQ λ n=>?_;rw [if_neg n] at hc;exact absurd hc (by decide)
  obtain ⟨h1,h2⟩:=VA.rows (Z:=λ a=>z om a\/a=p\/G a) np (λ _ g=>g) t ha et;refine ⟨λ a=>a=p\/G a,λ _=>id,.lst c0 hp (.inl rfl) (λ b g=>g.elim (λ e=>⟨.lst ws,trivial,by rw [e];exact hp⟩) λ g=>let ⟨o,m,e⟩:=t.dom g;⟨o,m,l b o e⟩) ?_ λ _=>h2⟩;rw [zwn.mpr ⟨rfl,et⟩];exact L2.Paired.mapP h1 λ _ _ h=>h.move l.kp .rf (λ b o _ _=>l b o) (λ _=>.inl) λ _=>.inr
 | false=>
  refine ⟨λ a=>a=p,λ a e=>.inl e,.own (by simp [Bx,Co,c0]) ⟨rfl,hp⟩ (HY ?_) λ h=>by rw [et] at h;cases h⟩;refine HX (t.vw hz) λ q hq v h=>h.move l.kp .rf λ a w=>?_;have hd:c=q.2\/c≠om:=by
   rw [hc];split
   ·rename_i h;exact .inl (Of h q hq).symm
   ·exact .inr (by decide)
  rcases w with w | rfl
  ·exact .inl (to _ _ a hd w)
  ·exact zp _
theorem VA.to {z:Nat->Addr->Prop}{c:Nat} (to:∀ e d a,(e=d\/e≠om)->z e a->z d a) (hz:∀ d a,z d a->¬ G a) (hc:∀ p∈ps,c=p.2\/c≠om) (h:VA K z H ps ws G):IsL K H (z c) (ps.map (·.1)) ws:=
 HY (HX (h.vw hz) λ p hp _ h=>h.weak λ a=>to _ _ a (hc p hp))
theorem S8 (hal:M.al i=vs) (hg:M.gh≠some i):Gd M vs [i] (HD i) (asgN i):=by
 intro y v ρ σ H g ρ' Q r o e k;unfold asgN at e;split at e
 ·rename_i hi;cases e;obtain ⟨G,hG,s⟩:VT (M.k g) (M.z g vs (dv y)) H H y (dv y) v:=o.view λ _ h=>h;have cn:∀ b,¬ G b:=by
   rcases s with ⟨_,n,_⟩ | ⟨e,_⟩
   ·exact n
   ·exact absurd e (by cases y <;> simp [Bx,dv,Co])
  refine k _ _ (r.write Le.refl (λ a o e=>.inl e) hi hg (.inl rfl) (λ a h=>.inr (hG a h)) s λ a q=>q.imp (λ h=>by rw [<- hal];exact Fm.zN_z h) id) rfl λ j a=>?_;simp only [je2];exact ⟨λ h=>h.elim (λ h=>(cn a h.2).elim) id,.inr⟩
 ·cases e
theorem YR:∀ {is:List Nat}{ys:List PV}{ρ ρ':Af},De is ys ρ=some ρ'->ys.length=is.length
 | [],[],_,_,_=>rfl
 | [],_::_,_,_,e=>by cases e
 | _::_,[],_,_,e=>by cases e
 | i::is,y::ys,_,_,e=>by
  obtain ⟨_,_,e2⟩:=ji0.mp e;exact congrArg (·+ 1) (YR e2)
theorem XB:∀ (is:List Nat) (ys:List PV) (ws:List V) (ρ:Af) (σ:St) (H:Hp) (g:Os) (ρ':Af) (Q:St->Hp->Prop),(∀ i∈is,M.al i=vs/\M.gh≠some i)->Rep M ρ σ H g->IsL (M.k g) H (M.z g vs 0) ys ws->De is ys ρ=some ρ'->(∀ σ' g',Rep M ρ' σ' H g'->M.k g'=M.k g->(∀ i a,g'.ow i a↔i∉is/\g.ow i a)->Q σ' H)->K7 is ws σ H Q
 | [],[],_,ρ,σ,H,g,_,Q,_,r,h,e,k=>by cases h;cases e;exact ⟨rfl,k σ g r rfl λ _ _=>by simp⟩
 | [],_::_,_,_,_,_,_,_,_,_,_,_,e,_=>by cases e
 | _::_,[],_,_,_,_,_,_,_,_,_,_,e,_=>by cases e
 | i::is,y::ys,_,ρ,σ,H,g,ρ',Q,hv,r,h,e,k=>by
  cases h with
  | cons h t=>
   obtain ⟨ρ1,e1,e2⟩:=ji0.mp e;refine ⟨_,_,rfl,S8 (hv i AD).1 (hv i AD).2 _ _ _ _ _ _ _ _ r h e1 λ σ1 g1 r1 k1 s1=>?_⟩;refine XB is ys _ ρ1 σ1 H g1 ρ' Q (λ j hj=>hv j (AE _ hj)) r1 (k1 ▸ IsL.weak (λ a q=>Fm.z_ow (λ j a h=>((s1 j a).mp h).2) q) t) e2 λ σ' g' r' k' s'=>k σ' g' r' (k'.trans k1) λ j a=>?_;rw [s',s1];simp only [jb8,IW,or_false,not_or];exact ⟨λ h=>⟨⟨h.2.1,h.1⟩,h.2.2⟩,λ h=>⟨h.1.2,h.1.1,h.2⟩⟩
theorem Sm (hal:∀ i∈is,M.al i=vs/\M.gh≠some i):Gd M vs is (Ka M.K is.length (K7 is)) (asgT is):=by
 intro y v ρ σ H g ρ' Q r o e k;unfold asgT at e;split at e
 ·rename_i ys;obtain ⟨a,ws,rfl,ha,l⟩:=o.tupE;exact ⟨a,ws,rfl,.inl (.inl ha),by rw [l.length,YR e],XB is ys ws ρ σ H g ρ' Q hal r l e k⟩
 ·cases e
def Fm.at (M:Fm) (B:Hp) (g:Os):Fm:={ M with H₀:=B,E:=M.k g }
theorem Rep.rebase (r:Rep M ρ σ H g):∃ B,Lx M.E M.H₀ B/\(M.cl=true->Le M.H₀ B)/\Le B H/\Rep (M.at B g) ρ σ H g/\(∀ a o,H a=some o->(∃ i,g.ow i a)\/B a=some o)/\∀ a,B a=none->(∃ i,g.ow i a)\/H a=none:=by
 classical
 have no:∀ {a o},M.H₀ a=some o->¬ ∃ i,g.ow i a:=λ {a o} e ⟨i,z⟩=>by rw [(r.new i a z).1] at e;cases e
 refine ⟨λ a=>if ∃ i,g.ow i a then none else H a,λ a o e=>?_,λ c a o e=>?_,λ a o e=>?_,⟨r.own,r.sto,λ i a e=>⟨if_pos ⟨i,e⟩,(r.new i a e).2⟩,r.dj,r.st,λ a o e=>?_,.rf,λ _ a o e=>?_,λ _=>rfl,r.nw,λ b a z=>?_,r.zt,r.len⟩,λ a o e=>?_,λ a e=>?_⟩
 ·dsimp only;rw [if_neg (no e)];exact r.h0 a o e
 ·dsimp only;rw [if_neg (no e)];exact r.cl c a o e
 ·dsimp only at e;split at e
  ·cases e
  ·exact e
 ·dsimp only [Fm.at] at e;split at e
  ·cases e
  ·exact .inl e
 ·dsimp only [Fm.at] at e;split at e
  ·cases e
  ·exact e
 ·have hz:=r.zd b a z;dsimp only [Fm.at];rw [if_neg λ ⟨i,e⟩=>hz (r.new i a e).1];exact r.h0.dom hz
 ·by_cases h:∃ i,g.ow i a
  ·exact .inl h
  ·exact .inr ((if_neg h).trans e)
 ·dsimp only at e;split at e
  ·rename_i h;exact .inl h
  ·exact .inr e
theorem Rep.unbase {B:Hp} (l:Lx M.E M.H₀ B) (c:M.cl=true->Le M.H₀ B) (le:M.E.Le (M.k g1) M.H₀) (ke:M.gh=none->M.k g1=M.E) (zd:∀ b a,M.Z b a->M.H₀ a≠none) (r:Rep (M.at B g1) ρ σ H g):Rep M ρ σ H g:=
 ⟨r.own,r.sto,λ i a e=>⟨l.back (r.new i a e).1,(r.new i a e).2⟩,r.dj,r.st,l.trans le r.h0,le.trans l r.le,λ e=>(c e).trans (r.cl e),λ e=>(r.ke e).trans (ke e),r.nw,zd,r.zt,r.len⟩
theorem RsOk.base {B:Hp}{R:Rs} (r:Rep M ρ σ H g) (l:Lx M.E M.H₀ B) (c:M.cl=true->Le M.H₀ B) (q:RsOk M D R):RsOk (M.at B g) D R:=by
 cases R with
 | rt x d ρ=>exact λ v H' g' f t=>q v H' g' ⟨l.trans r.le f.lx,r.le.trans l f.le,λ e=>(c e).trans (f.cl e),λ e=>(f.ke e).trans (r.ke e),f.sto⟩ (t.back λ _=>l.back)
 | exc n=>
  intro σ' H' k;cases e:M.cl with
  | true=>exact q σ' H' ((c e).trans k)
  | false=>exact (r.nw e _ _ _ (q σ' _ Le.refl)).elim
 | no=>exact q
 | _=>exact λ σ' H' g' r'=>q σ' H' g' (r'.unbase l c r.le r.ke r.zd)
def tX (M:Fm) (body:Fs):TS:=λ D σ H=>∃ B g,tS (M.at B g) body D σ H
theorem S7 (r:Rep M ρ σ H g) (y:Yl (M.k g) (M.z g [] 0) H J els) (hg:∀ B g,Gd (M.at B g) [] is tg asg) (q:RsOk M D (Bu asg body els ρ)):
  ∃ W:Nat->Nat->St->Hp->Prop,(∃ m,W 0 m σ H)/\∀ i m σ H,W i m σ H ->
   (J.stop i H/\D.nx σ H)\/(J.go i H/\∃ N:St->Hp->Prop,(∀ σ' H',N σ' H'->∃ m',m' < m/\W (i + 1) m' σ' H')/\∀ x H',J.yld i H x H'->tg x σ H' λ σ2 H2=>(tX M body) { D with nx:=N,ct:=N,bk:=D.nx } σ2 H2):=by
 obtain ⟨B,lB,cB,bH,rB,hB,hN⟩:=r.rebase;have kp:∀ {H1:Hp},Lx (M.k g) B H1->Kq (M.k g) (M.z g [] 0) H H1:=λ l a o e=>(hB a o e).elim (λ ⟨i,z⟩=>.inr (.inl ⟨.inl ⟨i,z,.inr (by simp)⟩,by obtain ⟨u,m,e'⟩:=r.owned z;rw [e] at e';cases e';exact m⟩)) λ z=>(l a o z).imp id λ h=>.inr ⟨h.1,h.2.1⟩;refine ⟨λ i m σ H1=>m=els.length - i/\∃ ρ g1,Rep (M.at B g) ρ σ H1 g1/\RsOk (M.at B g) D (Bu asg body (els.drop i) ρ),⟨els.length,by simp,ρ,g,rB,by simpa using RsOk.base r lB cB q⟩,?_⟩;rintro i m σ1 H1 ⟨rfl,ρ1,g1,r1,q1⟩;have k1:=kp r1.h0;by_cases hi:i < els.length
 ·refine .inr ⟨y.go H1 i k1 hi,_,λ σ' H' w=>⟨els.length - (i + 1),by omega,w⟩,λ x H2 hy=>?_⟩;obtain ⟨l2,z,ez,oz⟩:=y.yld H1 i x H2 k1 hi hy;have ed:els.drop i=z::els.drop (i + 1):=by
   obtain ⟨h1,h2⟩:=jb0.mp ez;rw [<- h2];exact Ul h1
  rw [ed] at q1;unfold Bu at q1;have r2:=r1.grow l2;split at q1
  ·exact q1.elim
  ·rename_i ρ2 ea;have kl:(M.k g).Le (M.k g1) H:=⟨r1.le.kk,r1.le.lc,r1.le.st,λ a o e so s=>(hB a o e).elim (λ ⟨i,z⟩=>by
    obtain ⟨u,m,e'⟩:=r.owned z;rw [e] at e';cases e';exact (m.so so).elim) λ z=>r1.le.nw a o z so s⟩
   refine hg B g z x ρ1 σ1 H2 g1 ρ2 _ r2 (oz _ _ kl λ a h=>?_) ea λ σ3 g3 r3 _ _=>⟨B,g,ρ2,g3,r3,?_⟩
   ·rcases h with ⟨j,ej,_⟩ | h
    ·exact (hN a (r1.new j a ej).1).imp (λ ⟨k,ek⟩=>.inl ⟨k,ek,.inr (by simp)⟩) id
    ·exact .inl (.inr h)
   ·revert q1;cases body ρ2 with
    | nx ρ3=>exact λ q1 σ' H' g' r'=>⟨rfl,ρ3,g',r',q1⟩
    | ct ρ3=>exact λ q1 σ' H' g' r'=>⟨rfl,ρ3,g',r',q1⟩
    | _=>exact id
 ·rw [show els.drop i=[] from qS (by omega)] at q1;exact .inl ⟨y.stop H1 i k1 (by omega),q1 σ1 H1 g1 r1⟩
theorem Rep.inner {D:Addr}{k:Nat}{vI:List Nat} (r:Rep M ρ σ H g) (l:Le H H1) (hD:H D=none) (hD1:H1 D≠none):∃ M',Inn M D ρ.length vI M'/\Rep M' (ρ++A6 k none) (σ++A6 k none) H1 g:=by
 obtain ⟨B,lB,cB,bH,rB,hB,hN⟩:=(r.grow l).rebase;have zl:∀ {al:List Nat}{d:Nat}{a:Addr},((∃ i,g.ow i a/\(d=om\/i∉al))\/(M.Z (C2 d) a\/a=D))->M.z g al d a\/H a=none:=λ q=>by
  rcases q with q | q | q
  ·exact .inl (.inl q)
  ·exact .inl (.inr q)
  ·exact .inr (by rw [q];exact hD)
 refine ⟨⟨M.K,λ b a=>M.Z b a\/a=D,B,λ _ _ _=>False,λ j=>if j < ρ.length then M.al j else vI,M.gh,true,M.k g⟩,⟨rfl,rfl,rfl,rfl,rfl⟩,⟨λ i x d e hg=>?_,λ i h=>?_,λ i a e=>?_,r.dj,λ a s=>⟨l.dom (r.st a s).1,λ z=>z.elim (r.st a s).2.1 λ z=>(r.st a s).1 (z ▸ hD),(r.st a s).2.2⟩,bH.lx,.rf,λ _=>bH,λ _=>rfl,(λ h=>nomatch h),λ b a z=>?_,λ a z=>z.imp (r.zt a) id,by rw [Bm,Bm,r.len,Ee,Ee]⟩⟩
 ·have hi:i < ρ.length:=by
   rcases qi i ρ.length with h | h
   ·exact h
   ·rw [GF h,Gb] at e;split at e <;> cases e
  rw [DC hi] at e;obtain ⟨v,hv,s⟩:=r.own i x d e hg;refine ⟨v,by rw [DC (by rw [<- r.len];exact hi)];exact hv,s.move l.kp .rf (λ a o _=>l a o) λ a q=>zl ?_⟩;revert q;unfold Fm.z;dsimp only;rw [if_pos hi];exact id
 ·obtain ⟨os,d,e,s⟩:=r.sto i h;exact ⟨os,d,by rw [DC (jb0.mp e).1];exact e,s.move l.kp (λ a o _=>l a o) λ a q=>zl q⟩
 ·obtain ⟨n,hg,p,e'⟩:=rB.new i a e;exact ⟨n,hg,p,by rw [DC (jb0.mp e').1];exact e'⟩
 ·rcases z with z | z
  ·exact rB.zd b a z
  ·intro n;rcases hN a n with ⟨i,e⟩ | e
   ·obtain ⟨u,_,q⟩:=r.owned e;rw [z,hD] at q;cases q
   ·rw [z] at e;exact hD1 e
theorem wU {vI vE vo:List Nat}{test:Fb}{elt:Fx}{k:Nat}{Q:VK}{P:Fm->Prop} (r:Rep M ρ σ H g) (y:Yl (M.k g) (M.z g vI 0) H J els) (hP:∀ D M',Inn M D ρ.length vI M'->P M')
  (hg:∀ D M',Inn M D ρ.length vI M'->Gd M' vI is tg asg) (hk:∀ y ρ',asg y (ρ++A6 k none)=some ρ'->ρ'.take ρ.length=ρ) (his:∀ i∈is,ρ.length<=i) (hvo:∀ i∈vE,i < ρ.length->i∈vo)
  (q:OutE M σ H ((DK k asg test elt els ρ []).bindN λ (acc,ρ2)=>DN acc ρ2) λ p=>p.2.2=ρ->∀ v H',Le H H'->VT (M.k g) (M.z g vo p.2.1) H H' p.1 p.2.1 v->Q v H'):
  ∀ D,H D=none->∃ W:Nat->Nat->List V->Hp->Prop,(∃ m,W 0 m [] (Av H D (.lst [])))/\∀ i m ys H1,W i m ys H1->H1 D=some (.lst ys) /\
   ((J.stop i H1/\Q (.ref D) H1)\/(J.go i H1/\∀ x H',J.yld i H1 x H'->tg x (σ++A6 k none) H' λ σ2 H2=>∃ M',P M'/\tT M' test σ2 H2 λ b H3=>if b=true then ∃ M',P M'/\tE M' elt vE σ2 H3 λ y H4=>H4 D=some (.lst ys)/\ys.length < Au/\∃ m',m' < m/\W (i + 1) m' (ys++[y]) (Av H4 D (.lst (ys++[y]))) else ∃ m',m' < m/\W (i + 1) m' ys H3)):=by
 intro D hD;obtain ⟨accF,ρF,eF⟩:∃ a r,DK k asg test elt els ρ []=.ok (a,r):=by
  cases e:DK k asg test elt els ρ [] with
  | ok p=>exact ⟨p.1,p.2,rfl⟩
  | _=>rw [e] at q;exact q.elim
 rw [eF] at q;refine ⟨λ i m ys H1=>m=els.length - i/\Le H H1/\H1 D=some (.lst ys)/\∃ acc G,(∀ a,G a->H a=none/\a≠D)/\VA (M.k g) (λ d a=>M.z g vo d a\/a=D) H1 acc ys G/\DK k asg test elt (els.drop i) ρ acc=.ok (accF,ρF),⟨els.length,by simp,E1 hD,BN,[],λ _=>False,λ _ h=>h.elim,λ _ h=>h,by simpa using eF⟩,?_⟩;rintro i m ys H1 ⟨rfl,l1,h1D,acc,G,hG,ta,ec⟩;refine ⟨h1D,?_⟩;by_cases hi:i < els.length
 ·refine .inr ⟨y.go H1 i l1.kq hi,λ x H2 hy=>?_⟩;obtain ⟨l2,z,ez,oz⟩:=y.yld H1 i x H2 l1.kq hi hy;have ed:els.drop i=z::els.drop (i + 1):=by
   obtain ⟨h1,h2⟩:=jb0.mp ez;rw [<- h2];exact Ul h1
  rw [ed] at ec;unfold DK at ec;split at ec
  ·cases ec
  ·rename_i ρ1 ea;have h2D:=l2 D _ h1D;obtain ⟨M',inn,r2⟩:=r.inner (k:=k) (vI:=vI) (l1.trans l2) hD (by rw [h2D];simp);have ke:∀ g,M'.k g=M.k g:=λ g=>by unfold Fm.k;rw [inn.K]
   have ox:Is (M'.k g) H2 (M'.z g vI 0) z x:=ke g ▸ oz _ _ .rf λ a h=>by
    rw [Fm.z,inn.Z] at h;exact h.elim (λ h=>.inl (.inl h)) λ h=>h.elim (λ h=>.inl (.inr h)) λ h=>.inr (by rw [h];exact hD)
   refine hg D M' inn z x _ _ H2 g ρ1 _ r2 ox ea λ σ2 g2 r3 k3 s3=>⟨M',hP D M' inn,ρ1,g2,r3,?_⟩
   have took:=hk z ρ1 ea;have own:∀ {j a},g.ow j a->g2.ow j a/\j < ρ.length:=λ {j a} e=>by
    obtain ⟨_,_,p,ep⟩:=r.new j a e;have hj:=(jb0.mp ep).1;exact ⟨(s3 j a).mpr ⟨λ z=>absurd (his j z) (by omega),e⟩,hj⟩
   cases et:test ρ1 with
   | exc c=>rw [et] at ec;cases ec
   | no=>rw [et] at ec;cases ec
   | ok p=>
    obtain ⟨b,ρ2⟩:=p;rw [et] at ec;intro (e2:ρ2=ρ1) H3 l3;subst e2;dsimp only [Rz.bindN] at ec;cases b with
    | false=>
     rw [if_neg Ce,took] at ec;rw [if_neg Ce];exact ⟨els.length - (i + 1),by omega,rfl,(l1.trans l2).trans l3,l3 D _ h2D,acc,G,hG,ta.move (λ _=>(l2.trans l3).kp) (λ a o _=>(l2.trans l3) a o) (λ _ _=>.inl) λ _=>id,ec⟩
    | true=>
     rw [if_pos rfl] at ec ⊢;refine ⟨M',hP D M' inn,ρ2,g2,r3.grow l3,?_⟩;unfold EO;cases ee:elt ρ2 with
     | exc c=>rw [ee] at ec;cases ec
     | no=>rw [ee] at ec;cases ec
     | ok p=>
      obtain ⟨w,e,ρ3⟩:=p;rw [ee] at ec;intro (e3:ρ3=ρ2) u H4 l4 ⟨Gu,fu,su⟩;subst e3;dsimp only at ec;split at ec
      ·rename_i hz;rw [took] at ec;have l14:=(l2.trans l3).trans l4;have h4D:=l14 D _ h1D;have kd:∀ {Z:Addr->Prop},Z D->Kp (M.k g) Z H4 (Av H4 D (.lst (ys++[u]))):=λ z=>P2 Le.refl h4D trivial z;have gD:∀ {G:Addr->Prop},(∀ a,G a->a≠D)->∀ a o,G a->H4 a=some o->Av H4 D (.lst (ys++[u])) a=some o:=λ n a o ga e=>by rw [AG (n a ga)];exact e
       have uD:∀ a,Gu a->a≠D:=λ a ga z=>by have h:=fu a ga;rw [z,(l2.trans l3) D _ h1D] at h;cases h
       have tu:SV (M.k g) (Av H4 D (.lst (ys++[u]))) (λ a=>(M.z g vo e a\/a=D)\/Gu a) Gu w e u:=by
        have zD:∀ a,(M.z g vo e a\/a=D)->M'.z g2 vE e a:=λ a h=>by
         rw [Fm.z,inn.Z];rcases h with (⟨j,ej,n⟩ | h) | h
         ·exact .inl ⟨j,(own ej).1,n.imp id λ n z=>n (hvo j z (own ej).2)⟩
         ·exact .inr (.inl h)
         ·exact .inr (.inr h)
        rw [k3,ke g] at su;exact su.move (kd (Z:=λ a=>M'.z g2 vE e a\/Gu a) (.inl (zD D (.inr rfl)))) .rf (gD uD) λ a h=>.inl (h.imp (zD a) id)
       refine ⟨h4D,by rw [ta.length];exact hz,els.length - (i + 1),by omega,rfl,λ a o ho=>?_,BN,acc++[(w,e)],λ a=>G a\/Gu a,λ a h=>h.elim (hG a) λ h=>⟨((l1.trans l2).trans l3).back (fu a h),uD a h⟩,VA.app tu (ta.move (λ _ a o e=>?_) (λ a o ga e=>gD (λ a h=>(hG a h).2) a o ga (l14 a o e)) (λ _ _=>.inl) λ _=>id) λ a ga gu=>?_,ec⟩
       ·rw [AG λ z=>by rw [z,hD] at ho;cases ho];exact (l1.trans l14) a o ho
       ·exact kd (Z:=λ a=>M.z g vo _ a\/a=D) (.inr rfl) a o (l14 a o e)
       ·obtain ⟨o,_,e⟩:=ta.dom ga;have h:=fu a gu;rw [(l2.trans l3) a o e] at h;cases h
      ·cases ec
 ·rw [show els.drop i=[] from qS (by omega)] at ec;cases ec;obtain ⟨G',hG',s⟩:=VA.lst (c:=if CP accF=true then om else 1) ta (λ d a h ga=>h.elim (λ h=>r.zdom h (hG a ga).1) (hG a ga).2) (λ e d a he h=>h.imp (Fm.z_to r.zt he) id) Le.refl h1D (λ h=>(hG D h).2 rfl) (λ _=>.inl (.inr rfl)) rfl;refine .inl ⟨y.stop H1 i l1.kq (by omega),q rfl _ H1 l1 ⟨G',λ a h=>(hG' a h).elim (λ e=>by rw [e];exact hD) λ h=>(hG a h).1,s.weak λ a h=>h.imp .inl id⟩⟩
end
structure XC (h:Heap) (K:Frag) (c:Nat) (C:Addr):Prop where
 obj:∃ bm N nm q bs hdct sn sub ab col dd k0 k1 k2 k3 k5 mN,h.get? C=some (excClassObj nm q C N bs bm hdct sn sub ab col dd k0 k1 k2 k3 k5 "ValueError.__new__")/\h.Ns N mN/\mN "__init__" = none/\OwnTail h xj bm/\∀ d D,FR K d=some D->(Value.ref C::bm).contains (.ref D)=Um c d
def GH (W:Nat->Hp->Prop):XK:=λ v _ H'=>match v with
 | .int c _=>W c.toNat H'
 | _=>False
def Df (P:AB) (w:A9) (K:Frag):Gg:=λ outer H s E e s'=>∃ (a C:Addr) (c:Nat) (H':Hp) (B:Heap) (a0:Ae),e=.ref a/\FR K c=some C/\s'.os=s.os/\Gs s'.gens/\Un (CM outer) [] H H' s.heap s'.heap/\HOk P w H' s'.heap/\H' a=none/\s.heap.get? a=none /\
 Heap.FlyingW B outer a (.ref C) a0 s'.heap/\(∀ b o,s'.heap.get? b=some o->H' b≠none->B.get? b=some o)/\(∀ b o,s.heap.get? b=some o->H b=none->b∉CM outer->B.get? b=some o)/\(∀ b,H b≠none->H' b≠none)/\E (.int (c:Int) 0) none H'
theorem QS {P:AB}{w:A9}{H:Hp}{h:Heap}{a:Addr}{o:HO} (x:zxk P w H h a o):∃ u,h.get? a=some u:=by
 cases o with
 | lst xs=>obtain ⟨_,_,_,_,e⟩:=x;exact ⟨_,e⟩
 | tup xs=>obtain ⟨_,_,_,o,e,_⟩:=x;exact ⟨_,e⟩
 | dK kvs=>obtain ⟨_,_,_,_,o,_,_,e,_⟩:=x;exact ⟨_,e⟩
 | dT kvs=>obtain ⟨_,_,_,_,o,_,_,e,_⟩:=x;exact ⟨_,e⟩
 | set S n=>obtain ⟨o,_,_,_,e,_⟩:=x;exact ⟨_,e⟩
 | ins C dx fs=>obtain ⟨_,_,_,e,_⟩:=x;exact ⟨_,e⟩
 | own y=>exact x
 | xd fs=>obtain ⟨_,⟨_,_,_,e,_⟩,_⟩:=x;exact ⟨_,e⟩
 | rng lo hi=>obtain ⟨_,_,_,e⟩:=x;exact ⟨_,e⟩
 | frz ob u=>obtain ⟨e,_⟩:=x;exact ⟨_,e⟩
 | tbl ps=>exact ⟨_,(show h.get? a=some _ from x)⟩
 | met f y=>exact ⟨_,(show h.get? a=some _ from x)⟩
 | ext φ=>exact x.2.1
section
variable {X:Cx}{pins:List (Addr×Obj)}{σ:St}{H H1:Hp}{s s2:Ai}{h1 B:Heap}{a C:Addr}{a0:Ae}{c:Nat}{E:XK}{P:AB}{w:A9}{K:Frag}
theorem YG (I:L2.Inv X pins σ H s) (hex:X.ex=[]) (u:Un (CM X.stack) [] H H1 s.heap h1) (hok:HOk X.prog X.w H1 h1) (fl:Heap.FlyingW B X.outer a (.ref C) a0 s2.heap) (up:h1.UpToSlots s2.heap)
  (i1:∀ b o,h1.get? b=some o->H1 b≠none->B.get? b=some o) (i2:∀ b o,s.heap.get? b=some o->H b=none->b∉CM X.stack->B.get? b=some o) (ha:H1 a=none) (hn:s.heap.get? a=none)
  (hE:E (.int (c:Int) 0) none H1) (hd:∀ b,X.H₀ b≠none->H1 b≠none) (hc:FR X.K c=some C) (ho:s2.os=s.os) (hg:Gs s2.gens):Df X.prog X.w X.K X.outer X.H₀ X.s₀ E (.ref a) s2:=by
 have nx:∀ b:Addr,b∉X.ex:=λ b z=>by rw [hex] at z;cases z
 have key:∀ b o,X.s₀.heap.get? b=some o->X.H₀ b=none->b∉CM X.outer->B.get? b=some o:=λ b o e n hb=>by
  refine i2 b o (I.base.keep b o e n hb (nx b)) (I.base.free b o e n (nx b)) λ z=>?_;rcases jb8.mp (I.stkSub b z) with z | z
  ·exact absurd (BY (AH e) I.ok.above) (by rw [z];exact DB _)
  ·exact hb z
 have fr:∀ b o,X.s₀.heap.get? b=some o->X.H₀ b=none->b∈CM X.outer->∃ sl,s2.heap.get? b=some { o with slots:=sl }:=λ b o e n hb=>by
  obtain ⟨sl,e1⟩:=I.base.slot b o e n hb (nx b);obtain ⟨sl',e2⟩:=u.any e1 (I.base.free b o e n (nx b)) (by simp);obtain ⟨_,o',ho',hnf⟩:=I.ok.funs.mem hb;rw [e] at ho';cases ho';obtain ⟨sl2,e3⟩:=up b _ e2 hnf;exact ⟨sl2,e3⟩
 have Hc:∀ b v,H1 b≠none->h1.get? b=some v->s2.heap.get? b=some v:=λ b v hb e=>fl.1 b v (i1 b v e hb);have un:Un (CM X.outer) [] X.H₀ H1 X.s₀.heap s2.heap:=by
  refine ⟨λ b o e n hb _=>fl.1 b o (key b o e n hb),λ b o e n hb _=>fr b o e n hb,λ b o e n _=>?_,λ b o e _=>?_,λ b xs e=>u.tups b xs (I.base.tups b xs e),λ b o xs e=>u.frzs b o xs (I.base.frzs b o xs e),λ b ps e=>?_⟩
  ·obtain ⟨o',e'⟩:=I.base.there b o e (nx b);exact u.free b o' e' (I.base.free b o e n (nx b)) (by simp)
  ·by_cases h0:X.H₀ b=none
   ·by_cases hb:b∈CM X.outer
    ·obtain ⟨sl,e2⟩:=fr b o e h0 hb;exact ⟨_,e2⟩
    ·exact ⟨o,fl.1 b o (key b o e h0 hb)⟩
   ·obtain ⟨o',e'⟩:=I.base.there b o e (nx b);obtain ⟨o2,e2⟩:=u.there b o' e' (by simp);exact ⟨o2,Hc b o2 (hd b h0) e2⟩
  ·obtain ⟨m1,e1⟩:=I.base.tbls b ps e;obtain ⟨m2,e2⟩:=u.tbls b _ e1;exact ⟨m1++m2,by rw [e2,qE]⟩
 refine ⟨a,C,c,H1,B,a0,rfl,hc,ho.trans I.os,hg,un,λ b o e=>?_,ha,?_,fl,λ b o e hb=>?_,key,hd,hE⟩
 ·refine (hok b o e).stay (λ d v hd q=>Hc d v ?_ q) (λ _ q=>q) λ _ _ q=>q;rcases hd with rfl | hd
  ·rw [e];simp
  ·rw [hd];simp
 ·cases q:X.s₀.heap.get? a with
  | none=>rfl
  | some o=>
   obtain ⟨o',e'⟩:=I.base.there a o q (nx a);rw [hn] at e';cases e'
 ·cases q:H1 b with
  | none=>exact absurd q hb
  | some o1=>
   obtain ⟨v,hv⟩:=QS (hok b o1 q);have e2:=Hc b v hb hv;rw [e] at e2;cases e2;exact i1 b o hv hb
end
def Oj (CX:Gg) (X:Cx) (W:St->Nat->Hp->Prop):Prop:=∀ (pins:List (Addr×Obj)) (σ:St) (H:Hp) (s:Ai) (e:Ae) (s':Ai),L2.Inv X pins σ H s->CX X.stack H s (GH (W σ)) e s'->X.xe e s'
def X6 (X:Cx) (W:St->Nat->Hp->Prop):Prop:=∀ (pins:List (Addr×Obj)) (σ:St) (H:Hp) (s:Ai) (c:Nat) (C a:Addr) (h':Heap) (args:List Ae),L2.Inv X pins σ H s->FR X.K c=some C->Heap.MadeExcOf s.heap h' a (.ref C) args->W σ c H->X.xe (.ref a) { s with heap:=h' }
abbrev W0:St->Nat->Hp->Prop:=λ _ _ _=>False
theorem vJ {P:AB}{w:A9}{K:Frag}{X:Cx}:Oj (Df P w K) X W0:=λ _ _ _ _ _ _ _ h=>by
 obtain ⟨a,C,c,H',B,a0,_,_,_,_,_,_,_,_,_,_,_,_,hE⟩:=h;exact GZ hE
def WE (E:XK) (H:Hp):St->Nat->Hp->Prop:=λ _ c H'=>E (.int (c:Int) 0) none H'/\∀ b,H b≠none->H' b≠none
section
variable {P:AB}{w:A9}{K:Frag}{mg:Str->Option Ae}{base:Heap}{N:List Str}{qual:Str}{scope:B1}{f:Addr}{cd:Ae}{A:Bi}{outer:List Env}{s:Ai}{H:Hp}{E:XK}
theorem bK:Oj (Df P w K) (BK (Df P w K) P w K mg base N qual scope f cd A outer s H E) (WE E H):=by
 intro pins σ H1 s1 e s' I h;obtain ⟨a,C,c,H',B,a0,rfl,hc,ho,hg,un,hok,ha,hn,fl,i1,i2,hd,hE⟩:=h;have hE':WE E H σ c H':=hE;refine wpAny_leaves_onW (by exact I.ok.frames) rfl fl λ h2 f2 up=>?_;exact YG (s2:={ s' with heap:=h2 }) I rfl un hok f2 up i1 i2 ha hn hE'.1 hE'.2 hc ho hg
theorem f6:X6 (BK (Df P w K) P w K mg base N qual scope f cd A outer s H E) (WE E H):=by
 intro pins σ H1 s1 c C a h' args I hc hx hW;have hin:∀ env∈(BK (Df P w K) P w K mg base N qual scope f cd A outer s H E).stack,∀ b,env.frame=some b->b∈CM (BK (Df P w K) P w K mg base N qual scope f cd A outer s H E).stack:=λ env he b hb=>jn5.mpr ⟨env,he,hb⟩;have Hc:∀ b,H1 b≠none->∃ o,s1.heap.get? b=some o:=λ b hb=>by
  cases q:H1 b with
  | none=>exact absurd q hb
  | some u=>exact QS (I.hok b u q)
 have nfr:∀ b,H1 b≠none->b∉CM (BK (Df P w K) P w K mg base N qual scope f cd A outer s H E).stack:=λ b hb z=>hb (I.stkFree b z);refine wpAny_leaves_madeW (base:=PySem.W.hideAll s1.heap (CM (BK (Df P w K) P w K mg base N qual scope f cd A outer s H E).stack)) (h:=s1.heap) (by exact I.ok.frames) rfl (λ b o q=>PySem.W.of_hideAll _ q) (PySem.W.funFrames_hide I.stack hin) hx λ h2 t f2 _ _ up=>?_;refine YG (s2:={ s1 with heap:=h2 }) I rfl (Un.kept hx.keeps) (I.hok.kept hx.keeps) f2 up (λ b o e hb=>?_) (λ b o e _ hb=>R8 _ e hb) ?_ hx.new hW.1 hW.2 hc rfl I.bare
 ·obtain ⟨o1,e1⟩:=Hc b hb;have e2:=hx.keeps b o1 e1;rw [e] at e2;cases e2;exact R8 _ e1 (nfr b hb)
 ·cases q:H1 a with
  | none=>rfl
  | some u=>
   obtain ⟨o,e⟩:=QS (I.hok a u q);rw [hx.new] at e;cases e
theorem yH:PassesOwn (Ay P w) (BK (Df P w K) P w K mg base N qual scope f cd A outer s H E).A (BK (Df P w K) P w K mg base N qual scope f cd A outer s H E).env (BK (Df P w K) P w K mg base N qual scope f cd A outer s H E).xe:=PassesOwn.leaving
end
section
variable {X:Cx}{CX:Gg}{k:Nat}{f:Addr}{fd:DW}{ps:List Str}{sp:Sp}{x:Str}{p pos:Pos}{e:Expr}{es:List Expr}{t:TA}{W:St->Nat->Hp->Prop}
def Xa (sp:Sp) (W:St->Nat->Hp->Prop) (t:TA):TE:=λ σ H Q=>t σ H λ vs H1=>sp vs H1 Q (GH (W σ))
theorem bL (F:FnOk X.prog X.w X.K X.mg X.base CX k f fd ps sp) (hr:Room k X.A) (hg:Gl X x) (hm:X.mg x=some (.ref f)) (hk:KN X.K (.ref f)=true) (hb:qml X.K fd ps []) (hx:Oj CX X W) (ha:PA X (e::es) t) (hdb:(x == ("__debug__" : Str))=false)
  (he:Bt (e::es) X.env=(false,eval e X.env)::Bt es X.env) (hpl:(FV pos (Bt es X.env)).any (·.1)=false):PE X (.Call (.Name x p) (e::es) [] pos) (Xa sp W t):=by
 intro pins s σ H Q I h;refine OO (yv I hg hm ?_ hdb);refine PySem.W.callWith_K (h₀:=X.base) I.ok.mod.kin hk (A2 (ha pos pins s σ H _ I h) λ us s1 ⟨vs,H1,I1,r,q⟩=>⟨I1.kIn,?_⟩) he hpl;have q':sp vs H1 Q (GH (W σ)):=q;have hl:(us++[]).length=ps.length:=by rw [G9,<- r.length];exact F.len _ _ _ _ q'
 have hbd:=hb s1 us I1.kIn hl;rw [G9] at hbd;refine wpAny_call (codeAny_mono (F.run X.A X.stack s1 H1 ⟨us,[]⟩ us vs Q (GH (W σ)) hr I1.env0 hbd r q') λ r s' hq=>?_);cases r with
 | error e=>exact hx pins σ H1 s1 e s' I1 hq
 | ok fl=>
  cases fl with
  | ret u=>exact I1.after hq
  | next=>exact GZ hq
  | brk=>exact GZ hq
  | cont=>exact GZ hq
end
def Dp (cells:List (Str×Addr)):List (Str×Dv)->List (Str×Addr)->List (Str×Addr)
 | [],cs=>cs
 | (n,k)::r,cs=>if k == .free then Dp cells r ((n,(cells.lookup n).getD 0)::cs) else Dp cells r cs
theorem Vr {scope:B1}{env:Env} (h:∀ x∈scope.names,x.2=.free->∃ c,env.cells.lookup x.1=some c):closureFor scope env=pure (Dp env.cells scope.names []):=by
 unfold closureFor;have all:∀ (l:List (Str×Dv)) (cs:List (Str×Addr)),(∀ x∈l,x.2=.free->∃ c,env.cells.lookup x.1=some c) ->
   (forIn l cs λ (x:Str×Dv) (cs:List (Str×Addr))=>if (x.2 == NameKind.free)=true then (do let a<-cellOf env x.1;pure (ForInStep.yield ((x.1,a)::cs))) else pure (ForInStep.yield cs):Sem (List (Str×Addr)))=pure (Dp env.cells l cs):=by
  intro l;induction l with
  | nil=>intro cs _;rfl
  | cons x r ih=>
   intro cs hl;obtain ⟨n,k⟩:=x;rw [Qb];have ih':=λ cs=>ih cs λ y hy=>hl y (AE _ hy);by_cases hk:(k == NameKind.free)=true
   ·obtain ⟨c,hc⟩:=hl (n,k) AD (by simpa using hk);have e1:cellOf env n=pure c:=by unfold cellOf;rw [hc]
    rw [if_pos hk,e1];simp only [pure_bind];rw [ih',Dp,if_pos hk,hc];rfl
   ·rw [if_neg hk];simp only [pure_bind];rw [ih',Dp,if_neg hk]
 have:=all scope.names [] h
 simp only [bind_pure] at this ⊢;exact this
theorem Hs (cells:List (Str×Addr)) (x:Str) (c:Addr):∀ (l:List (Str×Dv)) (cs:List (Str×Addr)),(∀ y∈l,y.2=.free->∃ c,cells.lookup y.1=some c)->(cs.lookup x=some c->cells.lookup x=some c)->(Dp cells l cs).lookup x=some c->cells.lookup x=some c
 | [],cs,_,h,e=>h e
 | (n,k)::r,cs,hl,h,e=>by
  unfold Dp at e;split at e
  ·rename_i hk;refine Hs cells x c r _ (λ y hy=>hl y (AE _ hy)) (λ e'=>?_) e;rw [Fg] at e';split at e'
   ·rename_i hx;obtain ⟨c',hc⟩:=hl (n,k) AD (by simpa using hk);rw [hc] at e';cases e';rw [eq_of_beq hx];exact hc
   ·exact h e'
  ·exact Hs cells x c r cs (λ y hy=>hl y (AE _ hy)) h e
theorem Ri (cells:List (Str×Addr)) (x:Str):∀ (l:List (Str×Dv)) (cs:List (Str×Addr)),(∃ c,cs.lookup x=some c)->∃ c,(Dp cells l cs).lookup x=some c
 | [],cs,h=>h
 | (n,k)::r,cs,h=>by
  unfold Dp;split
  ·refine Ri cells x r _ ?_;rw [Fg];split
   ·exact ⟨_,rfl⟩
   ·exact h
  ·exact Ri cells x r cs h
theorem Q4 (cells:List (Str×Addr)) (x:Str):∀ (l:List (Str×Dv)) (cs:List (Str×Addr)),(x,NameKind.free)∈l->∃ c,(Dp cells l cs).lookup x=some c
 | [],_,h=>nomatch h
 | (n,k)::r,cs,h=>by
  unfold Dp;rcases jb8.mp h with e | e
  ·cases e;rw [if_pos (show (NameKind.free == NameKind.free)=true by decide)];exact Ri cells x r _ ⟨_,by rw [Fg,beq_self_eq_true]⟩
  ·split
   ·exact Q4 cells x r _ e
   ·exact Q4 cells x r cs e
theorem Q3:∀ (names:List (Str×Dv)) (n:Nat) (acc:List (Str×Addr)) (x:Str) (c:Addr),(Dh n names acc).lookup x=some c->acc.lookup x=some c\/(n<=c/\(x,NameKind.cell)∈names)
 | [],n,acc,x,c,h=>.inl h
 | (m,k)::r,n,acc,x,c,h=>by
  unfold Dh at h;split at h
  ·rename_i hk;have hk':k=.cell:=by simpa using hk
   rcases Q3 r _ _ x c h with z | ⟨z,y⟩
   ·rw [Fg] at z;split at z
    ·rename_i hx;cases z;exact .inr ⟨A5 _,by rw [eq_of_beq hx,hk'];exact AD⟩
    ·exact .inl z
   ·exact .inr ⟨IY z,AE _ y⟩
  ·rcases Q3 r _ _ x c h with z | ⟨z,y⟩
   ·exact .inl z
   ·exact .inr ⟨z,AE _ y⟩
theorem Om:∀ (names:List (Str×Dv)) (n:Nat) (acc:List (Str×Addr)) (x:Str),(x,NameKind.cell)∉names->(Dh n names acc).lookup x=acc.lookup x
 | [],n,acc,x,h=>rfl
 | (m,k)::r,n,acc,x,h=>by
  unfold Dh;split
  ·rename_i hk;have hk':k=.cell:=by simpa using hk
   rw [Om r _ _ x λ z=>h (AE _ z),Fg];split
   ·rename_i hx;exact absurd (by rw [eq_of_beq hx,hk'];exact AD) h
   ·rfl
  ·exact Om r _ _ x λ z=>h (AE _ z)
theorem Pu:∀ (names:List (Str×Dv)) (n:Nat) (acc:List (Str×Addr)) (x:Str),(x,NameKind.cell)∈names->∃ c,(Dh n names acc).lookup x=some c/\n<=c
 | [],n,acc,x,h=>nomatch h
 | (m,k)::r,n,acc,x,h=>by
  by_cases hr:(x,NameKind.cell)∈r
  ·unfold Dh;split
   ·obtain ⟨c,e,l⟩:=Pu r (n + 1) ((m,n)::acc) x hr;exact ⟨c,e,IY l⟩
   ·exact Pu r n acc x hr
  ·rcases jb8.mp h with e | e
   ·cases e;unfold Dh;rw [if_pos (by decide),Om r _ _ _ hr,Fg,beq_self_eq_true];exact ⟨n,rfl,A5 _⟩
   ·exact absurd e hr
theorem Sy:∀ (names:List (Str×Dv)) (n:Nat) (acc:List (Str×Addr)),(∀ x y c,acc.lookup x=some c->acc.lookup y=some c->x=y)->(∀ x c,acc.lookup x=some c->c < n)->∀ x y c,(Dh n names acc).lookup x=some c->(Dh n names acc).lookup y=some c->x=y
 | [],n,acc,hi,_,x,y,c,h1,h2=>hi x y c h1 h2
 | (m,k)::r,n,acc,hi,hl,x,y,c,h1,h2=>by
  unfold Dh at h1 h2;split at h1
  ·rename_i hk;rw [if_pos hk] at h2;refine Sy r (n + 1) ((m,n)::acc) (λ x y c h1 h2=>?_) (λ x c h=>?_) x y c h1 h2
   ·rw [Fg] at h1 h2;split at h1
    ·rename_i e1;cases h1;split at h2
     ·rename_i e2;rw [eq_of_beq e1,eq_of_beq e2]
     ·exact absurd (hl y _ h2) (DB _)
    ·split at h2
     ·cases h2;exact absurd (hl x _ h1) (DB _)
     ·exact hi x y c h1 h2
   ·rw [Fg] at h;split at h
    ·cases h;exact Ie _
    ·exact Nj (hl x c h)
  ·rename_i hk;rw [if_neg hk] at h2;exact Sy r n acc hi hl x y c h1 h2
theorem Tv:∀ (names:List (Str×Dv)) (h:Heap) (acc:List (Str×Addr)) (x:Str) (c:Addr),(Dh h.objs.size names acc).lookup x=some c->acc.lookup x=some c\/(pushCells h names).IsCell c none
 | [],h,acc,x,c,e=>.inl e
 | (m,k)::r,h,acc,x,c,e=>by
  unfold Dh at e;unfold pushCells;split at e
  ·rename_i hk;rw [if_pos hk];have hs:(h.push { cls:=.type "cell",data:=.cell none }).objs.size=h.objs.size + 1:=FW ..;have e':(Dh (h.push { cls:=.type "cell",data:=.cell none }).objs.size r ((m,h.objs.size)::acc)).lookup x=some c:=by rw [hs];exact e
   rcases Tv r _ _ x c e' with z | z
   ·rw [Fg] at z;split at z
    ·cases z;exact .inr ⟨_,Ru _ _ _ _ (BA _ rfl),rfl⟩
    ·exact .inl z
   ·exact .inr z
  ·rename_i hk;rw [if_neg hk];exact Tv r h acc x c e
theorem l9 {M:Model}{A:Bi}{E:Ae->Ai->Prop}{s:Ai}{scope:B1}{globals:Addr}{cl:List (Str×Addr)}{qual:Str}{func:Option Addr}{code:Ae}{around:Env}{builtins:Addr}{Q:Env->Ai->Prop}
  (hQ:Q (newEnv scope s.heap.objs.size globals (Dh (s.heap.objs.size + 1) scope.names cl) qual func code (some around) builtins) { s with heap:=pushCells (s.heap.push { cls:=.type "dict",data:=.dict #[] }) scope.names }):
  Al M A (Rq scope globals cl [] qual func code (some around) builtins) Q E s:=by
 simp only [Rq,qD,if_true];refine Ah (wpAny_alloc ?_);refine Ah (wpAny_layCells _ (λ name kind cells=>by cases hkc:kind == NameKind.cell <;> simp [hkc]) _ _ _ _ ?_);rw [show ({ s with heap:=s.heap.push { cls:=.type "dict",data:=.dict #[] } }:Ai).heap.objs.size=s.heap.objs.size + 1 from FW ..];exact Ah (Aw (Aw hQ))
def MG (X:Cx) (scope:B1) (C:Addr):List (Str×Addr):=Dh (C + 1) scope.names (Dp X.env.cells scope.names [])
def B8 (X:Cx) (s2:Ai) (H2:Hp) (scope:B1) (C:Addr) (N':List Str) (fp:List Addr) (pins:List (Addr×Obj)):Cx:=
 { X with N:=N',s₀:=s2,H₀:=H2,env:=compEnvC scope (MG X scope C) C X.env,outer:=X.stack,stack:=X.stack,ex:=fp,fn:=λ x=>scope.names.contains (x,NameKind.cell),pn:=X.pn++pins,xe:=λ _ _=>False }
structure CompOk (X:Cx) (scope:B1) (N':List Str) (k:Nat):Prop where
 kind:scope.kind=.function
 dis:∀ x,(x,NameKind.free)∈scope.names->(x,NameKind.cell)∉scope.names
 names:∀ x∈scope.names,x.2=.local->scope.names.lookup x.1=some .local
 len:N'.length=X.N.length + k
 free:∀ x∈scope.names,x.2=.free->X.env.kindOf x.1=some .cell\/X.env.kindOf x.1=some .free
 kinds:∀ x,(IE scope X.env).names.lookup x=some .cell\/(IE scope X.env).names.lookup x=some .free->(x,NameKind.free)∈scope.names\/(x,NameKind.cell)∈scope.names
 capt:∀ (i:Nat) (x:Str),i < X.N.length->N'[i]?=some x->Ii (IE scope X.env) x->X.N[i]?=some x/\Ii X.env.scope x/\(x,NameKind.free)∈scope.names/\(IE scope X.env).names.lookup x≠some .local
section
variable {X:Cx}{scope:B1}{N':List Str}{k:Nat}{pins:List (Addr×Obj)}{σ:St}{H2:Hp}{s2:Ai}{fp:List Addr}{C:Addr}
theorem CompOk.cells (c:CompOk X scope N' k) (I:Inv X pins σ H2 s2):∀ x∈scope.names,x.2=.free->∃ a,X.env.cells.lookup x.1=some a:=λ x hx hf=>I.ok.has x.1 (c.free x hx hf)
theorem CompOk.cl (c:CompOk X scope N' k) (I:Inv X pins σ H2 s2) {x:Str}{a:Addr} (h:(MG X scope C).lookup x=some a):X.env.cells.lookup x=some a\/(C + 1<=a/\(x,NameKind.cell)∈scope.names):=
 (Q3 _ _ _ x a h).imp (λ z=>Hs _ x a _ [] (c.cells I) (λ z=>nomatch z) z) id
theorem CompOk.old (c:CompOk X scope N' k) (I:Inv X pins σ H2 s2) {x:Str}{a:Addr} (h:X.env.cells.lookup x=some a):a < s2.heap.objs.size:=by
 obtain ⟨v,o,ho,_⟩:=I.cell x a h;exact AH ho
theorem CompOk.cap (c:CompOk X scope N' k) {x:Str} (h:(x,NameKind.free)∈scope.names):∃ a,(MG X scope C).lookup x=some a/\(Dp X.env.cells scope.names []).lookup x=some a:=by
 obtain ⟨a,ha⟩:=Q4 X.env.cells x scope.names [] h;exact ⟨a,(Om _ _ _ x (c.dis x h)).trans ha,ha⟩
theorem CompOk.ok (c:CompOk X scope N' k) (I:Inv X pins σ H2 s2) (hf:∀ b∈fp,Cg X pins H2 b) (hC:s2.heap.objs.size<=C) (hfp:∀ b∈fp,b < s2.heap.objs.size):(B8 X s2 H2 scope C N' fp pins).Ok where
 mod:=I.ok.mod
 kind:=c.kind
 glob:=I.ok.glob
 blt:=I.ok.blt
 above:=hC
 inj:=λ x y a h1 h2=>Sy scope.names (C + 1) _ (λ x y a h1 h2=>I.ok.inj x y a (Hs _ x a _ [] (c.cells I) (λ z=>nomatch z) h1) (Hs _ y a _ [] (c.cells I) (λ z=>nomatch z) h2))
  (λ x a h=>Nj (BY (c.old I (Hs _ x a _ [] (c.cells I) (λ z=>nomatch z) h)) hC)) x y a h1 h2
 has:=λ x hx=>(c.kinds x hx).elim (λ z=>let ⟨a,h,_⟩:=c.cap (C:=C) z;⟨a,h⟩) λ z=>let ⟨a,h,_⟩:=Pu scope.names (C + 1) (Dp X.env.cells scope.names []) x z;⟨a,h⟩
 cab:=λ x a h e=>by
  have hx:(x,NameKind.cell)∈scope.names:=by
   have h':scope.names.contains (x,NameKind.cell)=true:=h;simpa using h'
  obtain ⟨a',e',l⟩:=Pu scope.names (C + 1) (Dp X.env.cells scope.names []) x hx;have e2:(Dh (C + 1) scope.names (Dp X.env.cells scope.names [])).lookup x=some a:=e;rw [e'] at e2;cases e2;exact BD hC (IY l)
 hd:=I.ok.hd
 frames:=I.ok.frames
 stk:=.inl rfl
 exf:=λ b hb=>⟨Cd (BY (hfp b hb) hC),λ x a h=>(c.cl I h).elim (λ z=>(hf b hb).2.2.2.2.1 x a z) λ z=>Fe (BY (hfp b hb) (BD hC (IY z.1)))⟩
 bs:=I.bs
 bsz:=BD I.ok.bsz I.sz
 noex:=λ b o e hb=>by
  rcases (hf b hb).2.2.2.1 with z | z
  ·exact I.ok.noex b o e z
  ·exact absurd (BY (AH e) (BD I.ok.bsz z)) (DB _)
 exfs:=λ b hb hz=>by
  rcases jb8.mp (I.stkSub b hz) with z | z
  ·exact (hf b hb).2.1 z
  ·exact (hf b hb).2.2.1 z
 funs:=I.stack
 frf:=I.stkFree
theorem CompOk.inv (c:CompOk X scope N' k) (I:Inv X pins σ H2 s2) (hf:∀ b∈fp,Cg X pins H2 b) (hfp:∀ b∈fp,b < s2.heap.objs.size) {H3:Hp}{h':Heap}{t':Nat}{m:Str->Option Ae}{D:Addr} (hCD:D≠C) (hD:s2.heap.objs.size<=D) (hC:s2.heap.objs.size<=C)
  (keep:∀ b o,s2.heap.get? b=some o->h'.get? b=some o) (ns:h'.Ns C m) (hH:∀ b,b≠D->H3 b=H2 b) (hok:HOk X.prog X.w H3 h') (hC3:H3 C=none) (hDC:D < C) (hcN:∀ x a,(MG X scope C).lookup x=some a->C + 1<=a->h'.IsCell a none):
  Inv (B8 X s2 H2 scope C N' fp pins) [] (σ++A6 k none) H3 { s2 with heap:=h',toks:=t' } where
 ok:=c.ok I hf hC hfp
 os:=rfl
 bare:=I.bare
 base:=by
  have nD:∀ b o,s2.heap.get? b=some o->b≠D:=λ b o e=>Cd (BY (AH e) hD);refine ⟨λ b o e _ _ _=>keep b o e,λ b o e _ _ _=>⟨o.slots,keep b o e⟩,λ b o e n _=>by rw [hH b (nD b o e)];exact n,λ b o e _=>⟨o,keep b o e⟩,λ b xs e=>?_,λ b o u e=>?_,λ b ps e=>⟨#[],?_⟩⟩
  ·have e:H2 b=some (.tup xs):=e;rw [hH b (λ z=>by rw [z,I.hok.fresh hD] at e;cases e)];exact e
  ·have e:H2 b=some (.frz o u):=e;rw [hH b (λ z=>by rw [z,I.hok.fresh hD] at e;cases e)];exact e
  ·have e:H2 b=some (.tbl ps):=e;rw [hH b (λ z=>by rw [z,I.hok.fresh hD] at e;cases e)];simpa using e
 loc:=by
  refine ⟨m,ns,λ i x v e1 e2 e3=>?_⟩;have hi:i < σ.length:=by
   by_cases hi:i < σ.length
   ·exact hi
   ·rw [GF (by omega),Gb] at e2;split at e2 <;> cases e2
  rw [DC hi] at e2;obtain ⟨n1,n2,n3,n4⟩:=c.capt i x (by rw [<- I.len];exact hi) e1 e3;obtain ⟨m0,ns0,hl⟩:=I.loc;obtain ⟨u,r,lk⟩:=hl i x v n1 e2 n2;refine ⟨u,r,.inr ⟨?_,?_⟩⟩
  ·rcases e3 with z | z | z
   ·exact absurd z n4
   ·exact .inl z
   ·exact .inr z
  ·obtain ⟨a,ha,hb⟩:=c.cap (C:=C) n3;have ha':=Hs _ x a _ [] (c.cells I) (λ z=>nomatch z) hb;refine ⟨a,ha,?_⟩;rcases lk with ⟨hk,_⟩ | ⟨hk,a2,ha2,hc⟩
   ·rcases c.free _ n3 rfl with z | z <;> rw [hk] at z <;> cases z
   ·rw [ha'] at ha2;cases ha2;obtain ⟨o,ho,hd⟩:=hc;exact ⟨o,keep _ _ ho,hd⟩
 cell:=λ x a h=>by
  rcases c.cl I h with z | z
  ·obtain ⟨v,o,ho,hd⟩:=I.cell x a z;exact ⟨v,o,keep _ _ ho,hd⟩
  ·exact ⟨none,hcN x a h z.1⟩
 free:=hC3
 freeC:=λ x a h=>by
  rcases c.cl I h with ha | z
  ·obtain ⟨v,o,ho,hd⟩:=I.cell x a ha;rw [hH a (Cd (BY (AH ho) hD))];exact I.freeC x a ha
  ·rw [hH a (Fe (BY hDC (IY z.1)))];exact I.hok.fresh (BD hC (IY z.1))
 pin:=λ p hp=>by
  have hp':p∈X.pn++pins:=by simpa [B8] using hp
  obtain ⟨e,n,ne,nf,d⟩:=I.pin p hp';have hlt:=AH e;exact ⟨keep _ _ e,by rw [hH p.1 (Cd (BY hlt hD))];exact n,Cd (BY hlt hC),λ z=>(jb8.mp (I.stkSub p.1 z)).elim ne nf,d⟩
 hok:=hok
 len:=by
  show (σ++A6 k none).length=N'.length;rw [Bm,Ee,c.len,I.len]
def Ke (X:Cx) (ifs:List Expr) (t:TT):Prop:=
 ∀ (pins:List (Addr×Obj)) (s:Ai) (σ:St) (H:Hp) (Q:Bool->Hp->Prop),Inv X pins σ H s->t σ H Q ->
  Al (Ay X.prog X.w) X.A (forIn ifs true λ c r=>if r=true then do let ok<-isTrue c X.env (eval c X.env);pure (ForInStep.yield ok) else pure (ForInStep.yield r)) (TP X pins σ Q) X.xe s
theorem yU {X:Cx}:Ke X [] (λ _ H Q=>Q true H):=λ _ _ _ H _ I h=>Aw ⟨H,I,h⟩
theorem yV {X:Cx}{c:Expr}{t:TT} (hc:PT X c t):Ke X [c] t:=by
 intro pins s σ H Q I h;rw [Qb];refine Ah ?_;rw [if_pos rfl];refine Ah (A2 (hc pins s σ H Q I h) λ b s1 q=>Aw ?_);exact Aw q
theorem CompOk.again (c:CompOk X scope N' k) (I:Inv X pins σ H2 s2) {σ':St}{H':Hp}{s':Ai}{ps:List (Addr×Obj)} (hfp:∀ b∈fp,Cg X pins H2 b) (J:Inv (B8 X s2 H2 scope C N' fp pins) ps σ' H' s'):Inv (B8 X s2 H2 scope C N' fp pins) ps (σ++A6 k none) H' s' where
 ok:=J.ok
 os:=J.os
 bare:=J.bare
 base:=J.base
 loc:=by
  obtain ⟨m,ns,_⟩:=J.loc;refine ⟨m,ns,λ i x v e1 e2 e3=>?_⟩;have hi:i < σ.length:=by
   by_cases hi:i < σ.length
   ·exact hi
   ·rw [GF (by omega),Gb] at e2;split at e2 <;> cases e2
  rw [DC hi] at e2;obtain ⟨n1,n2,n3,n4⟩:=c.capt i x (by rw [<- I.len];exact hi) e1 e3;obtain ⟨m0,ns0,hl⟩:=I.loc;obtain ⟨u,r,lk⟩:=hl i x v n1 e2 n2;refine ⟨u,r,.inr ⟨?_,?_⟩⟩
  ·rcases e3 with z | z | z
   ·exact absurd z n4
   ·exact .inl z
   ·exact .inr z
  ·obtain ⟨a,ha,hb⟩:=c.cap (C:=C) n3;have ha':=Hs _ x a _ [] (c.cells I) (λ z=>nomatch z) hb;refine ⟨a,ha,?_⟩;rcases lk with ⟨hk,_⟩ | ⟨hk,a2,ha2,hc⟩
   ·rcases c.free _ n3 rfl with z | z <;> rw [hk] at z <;> cases z
   ·rw [ha'] at ha2;cases ha2;obtain ⟨o,ho,hd⟩:=hc;obtain ⟨sl,ho'⟩:=J.base.any (b:=a) (ob:=o) ho (I.freeC x a ha') λ z=>(hfp a z).2.2.2.2.1 x a ha' rfl;exact ⟨_,ho',hd⟩
 cell:=J.cell
 free:=J.free
 freeC:=J.freeC
 pin:=J.pin
 hok:=J.hok
 len:=by
  show (σ++A6 k none).length=N'.length;rw [Bm,Ee,c.len,I.len]
theorem zo {prog:AB}{w:A9}{A:Bi}{R:Result->Ai->Prop}{s:Ai}{elt target iter:Expr}{ifs:List Expr}{scope:B1}{pos:Pos}{it acc:Ae}{env:Env} (I:Nat->Ai->Prop)
  (turn:∀ n s,I n s->Al (Ay prog w) A (E9 it) (λ r s₁=>match r with
   | none=>R (.ok .next) s₁
   | some v=>Al (Ay prog w) A (OJ target it v) (λ _ s₁'=>Al (Ay prog w) A (HG target env v) (λ _ s₂=>
     Al (Ay prog w) A (forIn ifs true λ c r=>if r=true then do let ok<-isTrue c env (eval c env);pure (ForInStep.yield ok) else pure (ForInStep.yield r)) (λ ok s₃=>
      if ok=true then Al (Ay prog w) A (eval elt env) (λ x s₄=>
       Al (Ay prog w) A (call (.builtin "list.append") [acc,x]) (λ _ s₅=>∃ m,m < n/\I m s₅) (λ _ _=>False) s₄) (λ _ _=>False) s₃
      else ∃ m,m < n/\I m s₃) (λ _ _=>False) s₂) (λ _ _=>False) s₁') (λ _ _=>False) s₁) (λ _ _=>False) s)
  (n:Nat) (h:I n s):
  IC (Ay prog w) A (.compLoop (.ListComp elt [⟨target,iter,ifs,0⟩] scope pos) 0 it acc env) R s:=by
 refine codeAny_loop rfl I (λ n s hI=>?_) n h;show Al _ A ((compTurn (.ListComp elt [⟨target,iter,ifs,0⟩] scope pos) 0 it acc env).onRaise (λ x=>do noteFrame x env;theTreesLotGoes x)) _ _ s;refine wpAny_noted ?_;rw [compTurn_list];refine Ah (wpAny_standAt (Ah (HK (turn n s hI) (λ r s₁ h₁=>?_) λ _ _ h'=>h'.elim)));cases r with
 | none=>exact Aw h₁
 | some v=>
  refine Ah (HK h₁ (λ _ s₁' h₁'=>?_) λ _ _ h'=>h'.elim);refine Ah (HK h₁' (λ _ s₂ h₂=>Ah (HK h₂ (λ ok s₃ h₃=>?_) λ _ _ h'=>h'.elim)) λ _ _ h'=>h'.elim);cases ok with
  | false=>exact Aw ⟨rfl,h₃⟩
  | true=>
   exact Ah (Ah (HK h₃ (λ x s₄ h₄=>Ah (HK h₄ (λ _ s₅ h₅=>Aw (Aw ⟨rfl,h₅⟩)) λ _ _ h'=>h'.elim)) λ _ _ h'=>h'.elim))
theorem V1 {elt iter tg:Expr}{ifs:List Expr}{pos:Pos}{J:It}{it:Addr}{tn:Nat->Heap->Prop}{g:TG}{tc:TT}{te:TE}{RR:Ae->Addr->Result->Ai->Prop}{Q:VK}{E:Ae->Ai->Prop}
  (c:CompOk X scope N' k) (hcalm:X.calm=true) (I:Inv X pins σ H2 s2) (T:Turn X.prog X.w X.K tg J fp it tn) (st:tn 0 s2.heap) (hf:∀ b∈fp,Cg X pins H2 b)
  (hg:∀ C fp,PG (B8 X s2 H2 scope C N' fp pins) tg g) (hc:∀ C fp,Ke (B8 X s2 H2 scope C N' fp pins) ifs tc) (he:∀ C fp,PE (B8 X s2 H2 scope C N' fp pins) elt te)
  (h:∀ D,H2 D=none->∃ W:Nat->Nat->List V->Hp->Prop,(∃ m,W 0 m [] (Av H2 D (.lst [])))/\∀ i m ys H,W i m ys H->H D=some (.lst ys) /\
   ((J.stop i H/\Q (.ref D) H)\/(J.go i H/\∀ x H',J.yld i H x H'->g x (σ++A6 k none) H' λ σ2 H2=>tc σ2 H2 λ b H3=>if b=true then te σ2 H3 λ y H4=>H4 D=some (.lst ys)/\ys.length < Au/\∃ m',m' < m/\W (i + 1) m' (ys++[y]) (Av H4 D (.lst (ys++[y]))) else ∃ m',m' < m/\W (i + 1) m' ys H3)))
  (hRR:∀ D C σ' H' s',s2.heap.objs.size<=C->Inv (B8 X s2 H2 scope C N' fp pins) [] σ' H' s'->Q (.ref D) H'->RR (.ref D) C (.ok .next) s')
  :
  Al (Ay X.prog X.w) X.A (newList []) (λ acc s₃=>Al (Ay X.prog X.w) X.A (Rq scope X.env.globals (Dp X.env.cells scope.names []) [] X.env.qual none .none (some X.env)) (λ cenv s₄=>
   IC (Ay X.prog X.w) X.A (.compStart (.ListComp elt [⟨tg,iter,ifs,0⟩] scope pos) 0 (.ref it) acc { cenv with scope:=IE scope X.env }) (RR acc cenv.locals) s₄) E s₃) E s2:=by
 refine Fd (l9 ?_);dsimp only;generalize hH2:s2.heap.push { cls:=.type "list",dict:=none,data:=.seq ([]:List Ae).toArray }=HP;obtain ⟨h₁,hh₁⟩:∃ h₁,h₁=pushCells (HP.push { cls:=.type "dict",data:=.dict #[] }) scope.names:=⟨_,rfl⟩
 rw [<- hh₁];have kk:∀ b o,HP.get? b=some o->h₁.get? b=some o:=λ b o e=>by rw [hh₁];exact Ru _ _ b o (Ba _ e)
 have hns₁:h₁.Ns HP.objs.size (λ _=>none):=by rw [hh₁];exact (Heap.Ns.new HP (.type "dict")).keeps (Ru _ _)
 have hC:HP.objs.size=s2.heap.objs.size + 1:=by rw [<- hH2,FW]
 have hDC:s2.heap.objs.size≠HP.objs.size:=by rw [hC];exact Cd (Ie _)
 have hCle:s2.heap.objs.size<=HP.objs.size:=by rw [hC];exact MZ _
 have hfp:∀ b∈fp,b < s2.heap.objs.size:=λ b hb=>by
  obtain ⟨o,e,_⟩:=T.obj 0 _ st b hb;exact AH e
 have below:∀ b,b < s2.heap.objs.size->b≠HP.objs.size:=λ b hb=>by rw [hC];exact Cd (Nj hb)
 have old:∀ b o,s2.heap.get? b=some o->h₁.get? b=some o:=λ b o e=>kk b o (hH2 ▸ Ba _ e);have hacc:h₁.get? s2.heap.objs.size=some { cls:=.type "list",dict:=none,data:=.seq ([]:List Ae).toArray }:=kk _ _ (hH2 ▸ BA _ rfl);have fD:H2 s2.heap.objs.size=none:=I.hok.fresh (A5 _);obtain ⟨W,⟨m0,w0⟩,hW⟩:=h _ fD;have hok3:HOk X.prog X.w (Av H2 s2.heap.objs.size (.lst [])) h₁:=I.hok.laid old (A5 _) ⟨FC _,[],0,.nil,hacc⟩;have st1:tn 0 h₁:=T.keep _ _ _ st λ b hb o e=>old b o e;have I3:Inv (B8 X s2 H2 scope HP.objs.size N' fp pins) [] (σ++A6 k none) (Av H2 s2.heap.objs.size (.lst [])) { s2 with heap:=h₁ }:=
  c.inv I hf hfp (t':=s2.toks) hDC (A5 _) hCle old hns₁ (λ b hb=>AG hb) hok3 (by rw [AG (Et hDC)];exact I.hok.fresh hCle) (by rw [hC];exact Ie _) (λ x a h l=>by
   have hs:(HP.push { cls:=.type "dict",data:=.dict #[] }).objs.size=HP.objs.size + 1:=FW ..;have h':(Dh (HP.push { cls:=.type "dict",data:=.dict #[] }).objs.size scope.names (Dp X.env.cells scope.names [])).lookup x=some a:=by rw [hs];exact h
   rcases Tv scope.names _ _ x a h' with z | z
   ·exact absurd (BY (c.old I (Hs _ x a _ [] (c.cells I) (λ z=>nomatch z) z)) (BD hCle (IY l))) (DB _)
   ·rw [hh₁];exact z)
 have fx:∀ {H':Hp},(∀ b∈fp,H' b=none)->∀ b∈fp,Cg (B8 X s2 H2 scope HP.objs.size N' fp pins) [] H' b:=λ hn b hb=>by
  obtain ⟨f0,f1,f2,f3,f4,f5⟩:=hf b hb;refine ⟨hn b hb,Cd (BY (hfp b hb) hCle),λ hz=>?_,.inl hb,λ x a h=>(c.cl I h).elim (λ z=>f4 x a z) λ z=>Fe (BY (hfp b hb) (BD hCle (IY z.1))),λ p hp=>f5 p (by simpa [B8] using hp)⟩;rcases jb8.mp (I.stkSub b hz) with z | z
  ·exact f1 z
  ·exact f2 z
 have f0:∀ b∈fp,(Av H2 s2.heap.objs.size (.lst [])) b=none:=λ b hb=>by rw [AG (Cd (hfp b hb))];exact (hf b hb).1
 have loop:∀ s₃:Ai,s₃={ s2 with heap:=h₁ } ->
   IC (Ay X.prog X.w) X.A (.compLoop (.ListComp elt [⟨tg,iter,ifs,0⟩] scope pos) 0 (.ref it) (.ref s2.heap.objs.size) (compEnvC scope (MG X scope HP.objs.size) HP.objs.size X.env))
    (RR (.ref s2.heap.objs.size) HP.objs.size) s₃:=by
  rintro s₃ rfl;refine zo (λ n s'=>∃ i H' ys,Inv (B8 X s2 H2 scope HP.objs.size N' fp pins) [] (σ++A6 k none) H' s'/\tn i s'.heap/\(∀ b∈fp,H' b=none)/\W i n ys H') ?_ m0 ⟨0,_,[],I3,st1,f0,w0⟩;rintro n s4 ⟨i,H4,ys,I4,st4,fr4,w4⟩;obtain ⟨hD4,hcase⟩:=hW i n ys H4 w4;rcases hcase with ⟨stop,qn⟩ | ⟨go,step⟩
  ·refine A2 (T.done (B8 X s2 H2 scope HP.objs.size N' fp pins) rfl rfl rfl hcalm i [] s4 _ H4 (λ _ _=>False) I4 (fx fr4) st4 stop) λ r s5 ⟨hr,I5⟩=>?_;subst hr;exact hRR _ _ _ _ _ hCle I5 qn
  ·refine A2 (T.item (B8 X s2 H2 scope HP.objs.size N' fp pins) rfl rfl rfl hcalm i [] s4 _ H4 (λ _ _=>False) I4 (fx fr4) st4 go) λ r s5 ⟨u,hr,h5⟩=>?_;subst hr;refine A2 h5 λ _ s6 ⟨x,H6,I6,r6,y6,st6,fr6⟩=>?_;have I6':=I6.pinned (fx fr6) (T.obj _ _ st6);have stays:∀ {σ':St}{H':Hp}{s':Ai},Inv (B8 X s2 H2 scope HP.objs.size N' fp pins) ([]++MJ fp s6.heap) σ' H' s'->Inv (B8 X s2 H2 scope HP.objs.size N' fp pins) [] (σ++A6 k none) H' s'/\tn (i + 1) s'.heap/\∀ b∈fp,H' b=none:=λ {σ' H' s'} J=>by
    refine ⟨c.again I hf J.unpinned,T.keep _ _ _ st6 λ b hb o e=>(J.pin (b,o) (CL _ (CL _ (Oc hb e)))).1,λ b hb=>?_⟩;obtain ⟨o,e,d⟩:=T.obj _ _ st6 b hb;exact (J.pin (b,o) (CL _ (CL _ (Oc hb e)))).2.1
   refine A2 (hg _ _ _ s6 _ H6 x u _ I6' r6 (step x H6 y6)) λ _ s7 ⟨σ7,H7,I7,q7⟩=>?_;refine A2 (hc _ _ _ s7 σ7 H7 _ I7 q7) λ b s8 ⟨H8,I8,q8⟩=>?_;cases b with
   | false=>
    rw [if_neg Ce] at q8 ⊢;obtain ⟨m',hm,w'⟩:=q8;obtain ⟨j1,j2,j3⟩:=stays I8;exact ⟨m',hm,i + 1,H8,ys,j1,j2,j3,w'⟩
   | true=>
    rw [if_pos rfl] at q8 ⊢;refine A2 (he _ _ _ s8 σ7 H8 _ I8 q8) λ y s9 ⟨z,H9,I9,r9,hD9,hz9,m',hm,w'⟩=>?_;refine A2 (ZY (X:=B8 X s2 H2 scope HP.objs.size N' fp pins) _ s9 σ7 H9 (.ref s2.heap.objs.size) [z] (.ref s2.heap.objs.size) [y] (λ _ H'=>H'=Av H9 s2.heap.objs.size (.lst (ys++[z]))) I9 rfl (.cons r9 .nil) ⟨_,ys,z,rfl,rfl,hD9,hz9,rfl⟩) λ _ s10 ⟨_,H10,I10,_,e10⟩=>?_;subst e10;obtain ⟨j1,j2,j3⟩:=stays I10;exact ⟨m',hm,i + 1,_,_,j1,j2,j3,w'⟩
 exact codeAny_compStart_list (loop _ rfl) (T.self _ 0 _ _ _ st1 (loop _ rfl))
theorem CompOk.out (I:Inv X pins σ H2 s2) (hf:∀ b∈fp,Cg X pins H2 b) {σ':St}{H':Hp}{s':Ai} (J:Inv (B8 X s2 H2 scope C N' fp pins) [] σ' H' s'):Inv X pins σ H' s':=
 I.call' (ch:=fp) J.os J.base J.hok J.bare λ b hb=>⟨(hf b hb).2.2.2.1,(hf b hb).2.1,(hf b hb).2.2.2.2.1,(hf b hb).2.2.2.2.2⟩
theorem CompOk.away (I:Inv X pins σ H2 s2) (hC:s2.heap.objs.size<=C) {σ':St}{H':Hp}{s':Ai} (J:Inv X pins σ' H' s') (hC':H' C=none) {h':Heap} (sb:Jz C s'.heap h'):Inv X pins σ' H' { s' with heap:=h' }:=by
 have lt:∀ b o,s2.heap.get? b=some o->b≠C:=λ b o e=>Cd (BY (AH e) hC);refine J.turned (t':=s'.toks) (it:=C) (λ b o hb e=>(sb.2 b hb).trans e) hC' (Fe (BY I.lt hC)) (.inr (BD I.sz hC)) (λ x c h=>?_) λ p hp=>?_
 ·obtain ⟨v,o,ho,_⟩:=I.cell x c h;exact lt c o ho
 ·exact lt p.1 p.2 (I.pin p hp).1
variable {elt iter tg:Expr}{ifs:List Expr}{pos:Pos}{wi:TI}{g:TG}{tc:TT}{te:TE}
theorem XT (c:CompOk X scope N' k) (hcalm:X.calm=true) (hi:PI X tg iter wi) (hg:∀ s2 H2 C fp pins,PG (B8 X s2 H2 scope C N' fp pins) tg g) (hc:∀ s2 H2 C fp pins,Ke (B8 X s2 H2 scope C N' fp pins) ifs tc)
  (he:∀ s2 H2 C fp pins,PE (B8 X s2 H2 scope C N' fp pins) elt te) (hs:∀ x,OM iter X.env x=pure x):PE X (.ListComp elt [⟨tg,iter,ifs,0⟩] scope pos) (Pm k wi g tc te):=by
 intro pins s σ H Q I h;rw [eval_ListComp];refine wpAny_comprehension_free (use:=none) rfl hs (Vr (c.cells I)) c.kind c.names ?_;refine A2 (hi pins s σ H _ I h) λ v s1 h1=>A2 h1 λ itv s2 h2=>?_;obtain ⟨it,fp,tn,J,H',e,I2,T,st2,f2,W⟩:=h2;subst e;refine V1 (RR:=λ acc C=>compPost (Ay X.prog X.w) X.A X.xe none (EP X pins σ Q) acc C) c hcalm I2 T st2 f2 (λ C fp=>hg s2 H' C fp pins) (λ C fp=>hc s2 H' C fp pins) (λ C fp=>he s2 H' C fp pins) W λ D C σ' H3 s' hC J3 q=>?_;obtain ⟨m,ns,_⟩:=J3.loc;exact ⟨m,ns,λ h' sb=>⟨.ref D,H3,CompOk.away I2 hC (CompOk.out I2 f2 J3) J3.free sb,rfl,q⟩⟩
theorem fN {i:Nat}{x:Str}{pos' spos:Pos} (hN:X.N.Nodup) (hi':X.N[i]?=some x) (hx:Ik X.env.scope x) (hfn:X.fn x=true\/X.env.scope.names.lookup x=some .local) (c:CompOk X scope N' k) (hcalm:X.calm=true) (hi:PI X tg iter wi) (hg:∀ s2 H2 C fp pins,PG (B8 X s2 H2 scope C N' fp pins) tg g) (hc:∀ s2 H2 C fp pins,Ke (B8 X s2 H2 scope C N' fp pins) ifs tc)
  (he:∀ s2 H2 C fp pins,PE (B8 X s2 H2 scope C N' fp pins) elt te) (hs:∀ x,OM iter X.env x=pure x):PS X (.Assign [.Name x pos'] (.ListComp elt [⟨tg,iter,ifs,0⟩] scope pos) spos) (EE (Pm k wi g tc te) (HD i)):=by
 have hsw:∃ b,swapsWith (.ListComp elt [⟨tg,iter,ifs,0⟩] scope pos) (some (.Name x pos')) spos.line X.env=pure b:=⟨_,rfl⟩
 obtain ⟨b,hsw⟩:=hsw;cases b with
 | false=>exact SX hN hi' hx (XT c hcalm hi hg hc he hs) hsw hfn
 | true=>
  intro pins s σ H D I h;rw [exec_Assign_Name_used _ _ _ _ hsw];refine Ah (wpAny_standAt (Ah ?_));show Al _ X.A (do let _<-comprehension (.ListComp elt [⟨tg,iter,ifs,0⟩] scope pos) scope X.env _ (newList []) false (eval iter X.env) (some (HG (.Name x pos') X.env))) _ _ s;refine Ah (HK (wpAny_comprehension_free (use:=some (HG (.Name x pos') X.env)) (Q:=λ _ s'=>SP X pins D .next s') rfl hs (Vr (c.cells I)) c.kind c.names ?_) (λ _ s' hq=>Aw (Aw hq)) λ _ _ e=>e);refine A2 (hi pins s σ H _ I h) λ v s1 h1=>A2 h1 λ itv s2 h2=>?_;obtain ⟨it,fp,tn,J,H',e,I2,T,st2,f2,W⟩:=h2;subst e;refine V1 (Q:=λ x H1=>HD i x σ H1 D.nx) (RR:=λ acc C=>compPost (Ay X.prog X.w) X.A X.xe (some (HG (.Name x pos') X.env)) (λ _ s'=>SP X pins D .next s') acc C) c hcalm I2 T st2 f2 (λ C fp=>hg s2 H' C fp pins) (λ C fp=>hc s2 H' C fp pins) (λ C fp=>he s2 H' C fp pins) W λ E C σ' H3 s' hC J3 q=>?_;obtain ⟨m,ns,_⟩:=J3.loc;have I3:=CompOk.out I2 f2 J3;show Al _ X.A (HG (.Name x pos') X.env (.ref E)) _ _ _;refine wpAny_assign_Name (ZP I3 hN hi' hx (v:=.ref E) rfl (λ s'' I4 hsb=>?_) hfn);obtain ⟨a,sb,ha⟩:=hsb;have hCa:C≠a:=by
   rcases ha with z | z
   ·rw [z];exact Fe (BY I2.lt hC)
   ·obtain ⟨v,o,ho,_⟩:=I2.cell x a z;exact Fe (BY (AH ho) hC)
  exact ⟨m,ns.sameBut sb hCa,λ h' sb'=>⟨_,H3,CompOk.away I2 hC I4 J3.free sb',q⟩⟩
theorem dy {P:AB}{w:A9}{K:Frag}{tg:Expr} (z:Str) (tk:Tok) (it:Addr):Turn P w K tg (UZ z) [it] it (λ i h=>h.IsStrIter it "str_ascii_iterator" z tk i) where
 mem:=by simp
 obj:=λ i h st b hb=>by
  have e:b=it:=by simpa using hb
  subst e;obtain ⟨o,e,c,d⟩:=st;exact ⟨o,e,λ v z=>by rw [d] at z;cases z⟩
 keep:=λ i h h' st k=>by
  obtain ⟨o,e,r⟩:=st;exact ⟨o,k it (by simp) o e,r⟩
 item:=by
  intro X hP hw hK hc i pins s σ H E I hf st hg;subst hP hw hK;have hi:i < z.cps.size:=hg;obtain ⟨f0,f1,f2,f3,f4,f5⟩:=hf it (by simp);refine wpAny_pyNext_ascii_item st (c:=z.cps[i]) (by simp [hi]) λ h' st' sb=>?_;have I1:Inv X pins σ H { s with heap:=h',toks:=s.toks + 1 }:=I.turned (t':=s.toks + 1) (λ b o hb e=>(sb.2 b hb).trans e) f0 f1 f3 f4 f5;obtain ⟨o,e,c,d⟩:=id st';exact ⟨_,rfl,IM (s:={ s with heap:=h',toks:=s.toks + 1 }) e c d (by decide) ⟨.str ⟨#[z.cps[i]]⟩,H,I1,⟨_,rfl⟩,⟨rfl,z.cps[i],by simp [hi],rfl⟩,st',λ b hb=>(hf b hb).1⟩⟩
 done:=by
  intro X hP hw hK hc i pins s σ H E I hf st hg;subst hP hw hK;have hi:z.cps.size<=i:=hg;obtain ⟨f0,f1,f2,f3,f4,f5⟩:=hf it (by simp);exact wpAny_pyNext_ascii_end (I.ok.hd hc) st (by simp;omega) λ h' eb=>⟨rfl,I.turned (t':=s.toks) (λ b o hb e=>eb b o hb e) f0 f1 f3 f4 f5⟩
 self:=λ _ _ _ _ _ st h=>wpAny_pyIter_striter_ascii st h
theorem Xu {l:Expr}{tl:TE} (hl:PE X l tl):PI X tg l (JZ X.K tl):=by
 intro pins s σ H R I h;refine A2 (hl pins s σ H _ I h) λ v s1 ⟨x,H1,I1,r1,q1⟩=>?_;obtain ⟨a,e,⟨⟨xs,hq⟩,q⟩ | ⟨⟨xs,hq⟩,q⟩⟩ | ⟨z,e,ha,q⟩:=q1
 ·subst e;cases r1;obtain ⟨its,rv,p,hz⟩:=I1.list hq;refine wpAny_pyIter_list p.isList ?_;refine ⟨s1.heap.objs.size,[s1.heap.objs.size],_,_,H1,rfl,I1.kept (t':=s1.toks) λ b o e=>Ba _ e,fT a _,⟨_,BA _ rfl,rfl,rfl⟩,λ b hb=>?_,q⟩;have e:b=s1.heap.objs.size:=by simpa using hb
  subst e;exact I1.fpOk (A5 _) (I1.hok.fresh (A5 _))
 ·subst e;cases r1;obtain ⟨its,rv,p,hz⟩:=I1.tuple hq;refine Mh (show s1.heap.IsTuple a its.toArray from p) ?_;refine ⟨s1.heap.objs.size,[s1.heap.objs.size],_,_,H1,rfl,I1.kept (t':=s1.toks) λ b o e=>Ba _ e,fY a _,⟨_,BA _ rfl,rfl,rfl⟩,λ b hb=>?_,q⟩;have e:b=s1.heap.objs.size:=by simpa using hb
  subst e;exact I1.fpOk (A5 _) (I1.hok.fresh (A5 _))
 ·subst e;obtain ⟨tk,rfl⟩:=r1;refine wpAny_pyIter_ascii ha ?_;refine ⟨s1.heap.objs.size,[s1.heap.objs.size],_,_,H1,rfl,I1.kept (t':=s1.toks) λ b o e=>Ba _ e,dy z tk _,⟨_,BA _ rfl,rfl,rfl⟩,λ b hb=>?_,q⟩;have e:b=s1.heap.objs.size:=by simpa using hb
  subst e;exact I1.fpOk (A5 _) (I1.hok.fresh (A5 _))
end
section
variable {prog:AB}{w:A9}{A:Bi}{E:Ae->Ai->Prop}{s:Ai}
theorem SH {p q:Addr}{n:Nat}{us:Array Ae}{u:Ae}{Q:Ae->Ai->Prop} (st:s.heap.IsTupleIter p q n) (ht:s.heap.IsTuple q us) (hu:us[n]?=some u) (hQ:∀ h',h'.IsTupleIter p q (n + 1)->Jz p s.heap h'->Q u { s with heap:=h' }):
  Al (Ay prog w) A (IJ (.ref p)) Q E s:=by
 obtain ⟨ob,eb,cb,db⟩:=id st;obtain ⟨ot,et,_,nt,dt⟩:=ht;unfold IJ;refine Ah (HQ (name:=Ha "__next__") st.typeIs OV (Gy OV st.typeIs VZ ?_ (Wb _)));show Al _ _ (field (.ref p) 0 >>= _) _ _ s;refine Ah (Eu eb db (x:=.ref q) rfl ?_);show Al _ _ (if (Value.ref q == Value.none)=true then _ else _) _ _ s;rw [if_neg (show ¬ ((Value.ref q == Value.none)=true) from Ce)];show Al _ _ (field (.ref p) 1 >>= _) _ _ s;refine Ah (Eu eb db (x:=.int n 0) rfl ?_);show Al _ _ (seqItems? (.ref q) >>= _) _ _ s;refine Ah (HL et dt ?_);simp only [Di,hu];refine Ah (KQ eb db (by simp) (Aw ⟨u,rfl,Aw (hQ _ ?_ (KW ..))⟩));exact ⟨_,KY _ eb (RD (KS db _)),(R3 ..).trans cb,by rw [KS db];simp [DO]⟩
theorem VF {p q:Addr}{n:Nat}{us:Array Ae}{Q:Ae->Ai->Prop} (hh:A.handled=none) (st:s.heap.IsTupleIter p q n) (ht:s.heap.IsTuple q us) (hu:us[n]?=none)
  (hE:∀ h' e,Heap.ExtBut p s.heap h'->(∃ o,h'.get? e=some o/\o.cls=.type "StopIteration")->E (.ref e) { s with heap:=h' }):Al (Ay prog w) A (IJ (.ref p)) Q E s:=by
 obtain ⟨ob,eb,cb,db⟩:=id st;obtain ⟨ot,et,_,nt,dt⟩:=ht;unfold IJ;refine Ah (HQ (name:=Ha "__next__") st.typeIs OV (Gy OV st.typeIs VZ ?_ (Wb _)));show Al _ _ (field (.ref p) 0 >>= _) _ _ s;refine Ah (Eu eb db (x:=.ref q) rfl ?_);show Al _ _ (if (Value.ref q == Value.none)=true then _ else _) _ _ s;rw [if_neg (show ¬ ((Value.ref q == Value.none)=true) from Ce)];show Al _ _ (field (.ref p) 1 >>= _) _ _ s;refine Ah (Eu eb db (x:=.int n 0) rfl ?_);show Al _ _ (seqItems? (.ref q) >>= _) _ _ s;refine Ah (HL et dt ?_);simp only [Di,hu];refine Ah (wpAny_rule (Ah (KQ eb db (by simp) ?_)));show Al _ _ (newExc (.type "StopIteration") [] >>= _) _ _ _;refine Ah ?_;simp only [newExc,newTuple];refine Ah (Fd ?_ (by size_fits));refine Ah (m:=KO _ _) (wpAny_of_eq (a:=Value.none) (by first | rfl | (simp only [KO];rfl)) ?_);refine Fd ?_ (by size_fits);simp only [raiseNew];refine Ah (wpAny_handled ?_)
 first | rw [show A.in1.handled=none from hh] | rw [hh];skip
 refine Ah (Aw (wpAny_throw (hE _ _ (((KW ..).extBut.push _).push _) ⟨_,BA _ rfl,rfl⟩)))
structure ZApart (zz ti to p1 p2 q1 q2:Addr):Prop where
 ne1:ti≠zz
 ne2:to≠zz
 ne3:p1≠zz
 ne4:p2≠zz
 ne5:ti≠to
 ne6:ti≠p1
 ne7:ti≠p2
 ne8:to≠p1
 ne9:to≠p2
 nea:p1≠p2
 neb:q1≠zz
 nec:q1≠to
 ned:q1≠p1
 nee:q1≠p2
 nef:q2≠zz
 neg:q2≠to
 neh:q2≠p1
 nei:q2≠p2
section
variable {zz ti to p1 p2 q1 q2:Addr}{n1 n2:Nat}{us vs:Array Ae}{u v a b:Ae}
theorem uH {Q:Ae->Ai->Prop} (D:ZApart zz ti to p1 p2 q1 q2) (hz:Du s.heap zz ti to .none) (hi:Ck s.heap ti (.ref p1) (.ref p2)) (ho:Ck s.heap to a b) (h1:s.heap.IsTupleIter p1 q1 n1) (h2:s.heap.IsTupleIter p2 q2 n2) (t1:s.heap.IsTuple q1 us) (t2:s.heap.IsTuple q2 vs) (hu:us[n1]?=some u) (hv:vs[n2]?=some v)
  (hQ:∀ h',Du h' zz ti to (DO s.heap.objs.size)->Ck h' to u v->h'.IsTupleIter p1 q1 (n1 + 1)->h'.IsTupleIter p2 q2 (n2 + 1)->Ck h' s.heap.objs.size u v->h'.objs.size=s.heap.objs.size + 1->(∀ c o,c≠zz->c≠to->c≠p1->c≠p2->s.heap.get? c=some o->h'.get? c=some o)->Q (.ref s.heap.objs.size) { s with heap:=h' }):
  Al (Ay prog w) A (vl5.«zip.__next__» ⟨[.ref zz],[]⟩) (λ fin s'=>∃ v,fin=.done (.ret v)/\Q v s') E s:=by
 show Al _ _ (field (.ref zz) 2 >>= _) _ _ _;refine Ah (Eu hz rfl (x:=.bool false) rfl ?_);show Al _ _ (field (.ref zz) 3 >>= _) _ _ _;refine Ah (Eu hz rfl (x:=.ref ti) rfl ?_);refine Ah (HL hi rfl ?_);show Al _ _ (Pb (.ref zz) >>= _) _ _ _;refine Ah ?_;unfold Pb;refine Ah (Eu hz rfl (x:=.none) rfl (Aw ?_));simp only [if_true];refine Ah (wpAny_rule ?_);refine Ah (Eu hz rfl (x:=.ref to) rfl ?_);refine Ah (KU hz (by simp) λ g1 y1 k1=>?_);replace y1:Du g1 zz ti to .ellipsis:=y1;refine Ah ?_;simp only [Qb,TU,qx,qr];refine Ah (Ah (OG ?_));show Al _ _ (IJ (.ref p1) >>= _) _ _ _;refine Ah (SH (h1.extBut k1.extBut D.ne3) (t1.extBut k1.extBut D.neb) hu λ g2 m2 k2=>Aw ?_);have o2:Ck g2 to a b:=k2.extBut _ _ D.ne8 (k1.extBut _ _ D.ne2 ho);refine Ah (HL o2 rfl ?_);refine Ah (RB o2 λ g3 o3 k3=>?_);replace o3:Ck g3 to u b:=o3;refine Ah (OD (Aw ?_));refine Ah (Ah (OG ?_));show Al _ _ (IJ (.ref p2) >>= _) _ _ _;refine Ah (SH (((h2.extBut k1.extBut D.ne4).extBut k2.extBut D.nea.symm).extBut k3.extBut D.ne9.symm) (((t2.extBut k1.extBut D.nef).extBut k2.extBut D.neh).extBut k3.extBut D.neg) hv λ g4 m4 k4=>Aw ?_);have o4:Ck g4 to u b:=k4.extBut _ _ D.ne9 o3;refine Ah (HL o4 rfl ?_);refine Ah (RB o4 λ g5 o5 k5=>?_);replace o5:Ck g5 to u v:=o5;refine Ah (OD (Aw (Aw ?_)));refine Ah (HL o5 rfl ?_);refine Ah (wpAny_newTuple ?_);have sz:g5.objs.size=s.heap.objs.size:=by rw [k5.1,k4.1,k3.1,k2.1,k1.1]
 have y5:Du g5 zz ti to .ellipsis:=k5.extBut _ _ D.ne2.symm (k4.extBut _ _ D.ne4.symm (k3.extBut _ _ D.ne2.symm (k2.extBut _ _ D.ne3.symm y1)));have kk:∀ c o,c≠zz->c≠to->c≠p1->c≠p2->s.heap.get? c=some o->g5.get? c=some o:=λ c o c1 c2 c3 c4 e=>k5.extBut _ _ c2 (k4.extBut _ _ c4 (k3.extBut _ _ c2 (k2.extBut _ _ c3 (k1.extBut _ _ c1 e))));have m1:g5.IsTupleIter p1 q1 (n1 + 1):=((m2.extBut k3.extBut D.ne8.symm).extBut k4.extBut D.nea).extBut k5.extBut D.ne8.symm;have m5:g5.IsTupleIter p2 q2 (n2 + 1):=m4.extBut k5.extBut D.ne9.symm;have zlt:zz < g5.objs.size:=AH y5;show Al _ _ (Wi (.ref zz) (.ref g5.objs.size) >>= _) _ _ _;refine Ah ?_;unfold Wi;have y6:Du (g5.push { cls:=.type "tuple",data:=.seq #[u,v] }) zz ti to .ellipsis:=Ba _ y5;refine Ah (KU y6 (by simp) λ g7 y7 k7=>?_);replace y7:Du g7 zz ti to (DO g5.objs.size):=y7;refine KU y7 (by simp) λ g8 y8 k8=>?_;replace y8:Du g8 zz ti to (DO g5.objs.size):=y8;have up:∀ c o,c≠zz->g5.get? c=some o->g8.get? c=some o:=λ c o c1 e=>k8.extBut _ _ c1 (k7.extBut _ _ c1 (Ba _ e));have t8:Ck g8 g5.objs.size u v:=k8.extBut _ _ (Fe zlt) (k7.extBut _ _ (Fe zlt) (BA _ rfl));have z8:g8.objs.size=g5.objs.size + 1:=by rw [k8.1,k7.1,FW]
 rw [sz] at y8 t8 z8;refine Aw ⟨_,rfl,?_⟩;show Q (.ref g5.objs.size) _;rw [sz];exact hQ g8 y8 (up _ _ D.ne2 o5) (m1.at λ o e=>up _ o D.ne3 e) (m5.at λ o e=>up _ o D.ne4 e) t8 z8 λ c o c1 c2 c3 c4 e=>up c o c1 (kk c o c1 c2 c3 c4 e)
theorem wC {Q:Fin->Ai->Prop} (hh:A.handled=none) (D:ZApart zz ti to p1 p2 q1 q2) (hz:Du s.heap zz ti to .none) (hi:Ck s.heap ti (.ref p1) (.ref p2)) (ho:Ck s.heap to a b) (h1:s.heap.IsTupleIter p1 q1 n1) (h2:s.heap.IsTupleIter p2 q2 n2) (t1:s.heap.IsTuple q1 us) (t2:s.heap.IsTuple q2 vs) (hend:us[n1]?=none\/vs[n2]?=none)
  (hE:∀ h' e,(∀ c o,c≠zz->c≠to->c≠p1->c≠p2->s.heap.get? c=some o->h'.get? c=some o)->(∃ o,h'.get? e=some o/\o.cls=.type "StopIteration")->E (.ref e) { s with heap:=h' }):
  Al (Ay prog w) A (vl5.«zip.__next__» ⟨[.ref zz],[]⟩) Q E s:=by
 show Al _ _ (field (.ref zz) 2 >>= _) _ _ _;refine Ah (Eu hz rfl (x:=.bool false) rfl ?_);show Al _ _ (field (.ref zz) 3 >>= _) _ _ _;refine Ah (Eu hz rfl (x:=.ref ti) rfl ?_);refine Ah (HL hi rfl ?_);show Al _ _ (Pb (.ref zz) >>= _) _ _ _;refine Ah ?_;unfold Pb;refine Ah (Eu hz rfl (x:=.none) rfl (Aw ?_));simp only [if_true];refine Ah (wpAny_rule ?_);refine Ah (Eu hz rfl (x:=.ref to) rfl ?_);refine Ah (KU hz (by simp) λ g1 y1 k1=>?_);replace y1:Du g1 zz ti to .ellipsis:=y1;refine Ah ?_;simp only [Qb,TU,qx,qr];refine Ah (Ah (OG ?_));show Al _ _ (IJ (.ref p1) >>= _) _ _ _;cases hu:us[n1]? with
 | none=>
  refine Ah (VF hh (h1.extBut k1.extBut D.ne3) (t1.extBut k1.extBut D.neb) hu λ g2 e k2 ⟨oe,xe,ce⟩=>?_);have y2:Du g2 zz ti to .ellipsis:=k2 _ _ D.ne3.symm y1;have ne:e≠zz:=λ x=>by subst x;rw [y2] at xe;cases xe;simp at ce
  refine KU y2 (by simp) λ g3 _ k3=>hE g3 e (λ c o c1 _ c3 _ x=>k3.extBut _ _ c1 (k2 _ _ c3 (k1.extBut _ _ c1 x))) ⟨oe,k3.extBut _ _ ne xe,ce⟩
 | some u=>
  have hv:vs[n2]?=none:=by rcases hend with h | h;rw [hu] at h;cases h;exact h
  refine Ah (SH (h1.extBut k1.extBut D.ne3) (t1.extBut k1.extBut D.neb) hu λ g2 m2 k2=>Aw ?_);have o2:Ck g2 to a b:=k2.extBut _ _ D.ne8 (k1.extBut _ _ D.ne2 ho);refine Ah (HL o2 rfl ?_);refine Ah (RB o2 λ g3 o3 k3=>?_);refine Ah (OD (Aw ?_));refine Ah (Ah (OG ?_));show Al _ _ (IJ (.ref p2) >>= _) _ _ _;refine Ah (VF hh (((h2.extBut k1.extBut D.ne4).extBut k2.extBut D.nea.symm).extBut k3.extBut D.ne9.symm) (((t2.extBut k1.extBut D.nef).extBut k2.extBut D.neh).extBut k3.extBut D.neg) hv λ g4 e k4 ⟨oe,xe,ce⟩=>?_);have y4:Du g4 zz ti to .ellipsis:=k4 _ _ D.ne4.symm (k3.extBut _ _ D.ne2.symm (k2.extBut _ _ D.ne3.symm y1));have ne:e≠zz:=λ x=>by subst x;rw [y4] at xe;cases xe;simp at ce
  refine KU y4 (by simp) λ g5 _ k5=>hE g5 e (λ c o c1 c2 c3 c4 x=>k5.extBut _ _ c1 (k4 _ _ c4 (k3.extBut _ _ c2 (k2.extBut _ _ c3 (k1.extBut _ _ c1 x))))) ⟨oe,k5.extBut _ _ ne xe,ce⟩
theorem yB {Q:Option Ae->Ai->Prop} (D:ZApart zz ti to p1 p2 q1 q2) (hz:Du s.heap zz ti to .none) (hi:Ck s.heap ti (.ref p1) (.ref p2)) (ho:Ck s.heap to a b) (h1:s.heap.IsTupleIter p1 q1 n1) (h2:s.heap.IsTupleIter p2 q2 n2) (t1:s.heap.IsTuple q1 us) (t2:s.heap.IsTuple q2 vs) (hu:us[n1]?=some u) (hv:vs[n2]?=some v)
  (hQ:∀ h',Du h' zz ti to (DO s.heap.objs.size)->Ck h' to u v->h'.IsTupleIter p1 q1 (n1 + 1)->h'.IsTupleIter p2 q2 (n2 + 1)->Ck h' s.heap.objs.size u v->h'.objs.size=s.heap.objs.size + 1->(∀ c o,c≠zz->c≠to->c≠p1->c≠p2->s.heap.get? c=some o->h'.get? c=some o)->Q (some (.ref s.heap.objs.size)) { s with heap:=h' }):
  Al (Ay prog w) A (E9 (.ref zz)) Q E s:=by
 have hT:s.TypeIs (.ref zz) "zip" := ⟨_,hz,rfl⟩
 unfold E9;exact Ah (KI (HQ (name:=Ha "__next__") hT OH (Gy OH hT F.entry_zip_next (uH D hz hi ho h1 h2 t1 t2 hu hv λ h' a1 a2 a3 a4 a5 a6 a7=>Aw (hQ h' a1 a2 a3 a4 a5 a6 a7)) (F.args_zip_next_1 _))))
theorem lg {Q:Option Ae->Ai->Prop} (hh:A.handled=none) (D:ZApart zz ti to p1 p2 q1 q2) (hz:Du s.heap zz ti to .none) (hi:Ck s.heap ti (.ref p1) (.ref p2)) (ho:Ck s.heap to a b) (h1:s.heap.IsTupleIter p1 q1 n1) (h2:s.heap.IsTupleIter p2 q2 n2) (t1:s.heap.IsTuple q1 us) (t2:s.heap.IsTuple q2 vs) (hend:us[n1]?=none\/vs[n2]?=none)
  (hQ:∀ h',(∀ c o,c≠zz->c≠to->c≠p1->c≠p2->s.heap.get? c=some o->h'.get? c=some o)->Q none { s with heap:=h' }):Al (Ay prog w) A (E9 (.ref zz)) Q E s:=by
 have hT:s.TypeIs (.ref zz) "zip" := ⟨_,hz,rfl⟩
 unfold E9;refine Ah (KI (HQ (name:=Ha "__next__") hT OH (Gy OH hT F.entry_zip_next (wC hh D hz hi ho h1 h2 t1 t2 hend λ h' e hk ⟨o,xo,xc⟩=>?_) (F.args_zip_next_1 _))));exact Ah (Mg (T := "StopIteration") (b:=true) ⟨o,xo,xc⟩ Rp (Aw (hQ _ hk)))
end
abbrev Hz (h:Heap) (q:Addr):Heap:=h.push { cls:=.type "tuple_iterator",data:=.fields #[.ref q,.int 0 0] }
abbrev Hy (h:Heap) (q r:Addr):Heap:=(Hz h q).push { cls:=.type "tuple_iterator",data:=.fields #[.ref r,.int 0 0] }
abbrev Hx (h:Heap) (q r:Addr):Heap:=(Hy h q r).push { cls:=.type "tuple",data:=.seq #[.ref h.objs.size,.ref (Hz h q).objs.size] }
abbrev Hw (h:Heap) (q r:Addr):Heap:=(Hx h q r).push { cls:=.type "tuple",data:=.seq #[.none,.none] }
abbrev E6 (h:Heap) (q r:Addr):Heap:=(Hw h q r).push { cls:=.type "zip",data:=.fields #[.none,.bool false,.bool false,.ref (Hy h q r).objs.size,.ref (Hx h q r).objs.size] }
theorem gI (q r:Addr) (us vs:Array Ae):Meets (vl5.«zip.__new__» ⟨[.type "zip",.ref q,.ref r],[]⟩) (λ _ R s=>s.heap.IsTuple q us/\s.heap.IsTuple r vs/\R (.ok (.ret (.ref (Hw s.heap q r).objs.size))) { s with heap:=E6 s.heap q r }):=
 .of_wp λ prog w A R s h=>by
  obtain ⟨hp,g,d,tk,os⟩:=s;obtain ⟨t1,t2,h⟩:=h;have hsub:=sub_zip;have T1:Heap.IsTuple (Shared.heap ⟨hp,g,d,tk,os⟩) q us:=t1;have T2:Heap.IsTuple (Shared.heap ⟨hp.push { cls:=.type "tuple_iterator",data:=.fields #[.ref q,.int 0 0] },g,d,tk,os⟩) r vs:=Heap.IsTuple.push t2 _
  wp_walk using Mh T1,Mh T2
  exact ⟨_,rfl,h⟩
theorem wN {q r:Addr}{us vs:Array Ae}{Q:Ae->Ai->Prop} (t1:s.heap.IsTuple q us) (t2:s.heap.IsTuple r vs)
  (h:∀ h',Du h' (s.heap.objs.size + 4) (s.heap.objs.size + 2) (s.heap.objs.size + 3) .none->Ck h' (s.heap.objs.size + 2) (.ref s.heap.objs.size) (.ref (s.heap.objs.size + 1))->Ck h' (s.heap.objs.size + 3) .none .none->h'.IsTupleIter s.heap.objs.size q 0->h'.IsTupleIter (s.heap.objs.size + 1) r 0->h'.objs.size=s.heap.objs.size + 5->(∀ c o,s.heap.get? c=some o->h'.get? c=some o)->Q (.ref (s.heap.objs.size + 4)) { s with heap:=h' }):
  Al (Ay prog w) A (call (.type "zip") [.ref q,.ref r]) Q E s:=by
 refine callType_new F.called_zip (by decide) (F.typeCall_zip_2 _ _) (F.newCall_zip_2 _ _) (λ obj=>F.args_object_init_3 obj _ _) F.entry_zip_new (gI q r us vs) ⟨t1,t2,?_⟩;have z1:(Hz s.heap q).objs.size=s.heap.objs.size + 1:=FW ..;have z2:(Hy s.heap q r).objs.size=s.heap.objs.size + 2:=by rw [FW,z1]
 have z3:(Hx s.heap q r).objs.size=s.heap.objs.size + 3:=by rw [FW,z2]
 have z4:(Hw s.heap q r).objs.size=s.heap.objs.size + 4:=by rw [FW,z3]
 have z5:(E6 s.heap q r).objs.size=s.heap.objs.size + 5:=by rw [FW,z4]
 have g5:(E6 s.heap q r).get? (Hw s.heap q r).objs.size=some _:=BA _ rfl;have g4:(E6 s.heap q r).get? (Hx s.heap q r).objs.size=some _:=Ba _ (BA _ rfl);have g3:(E6 s.heap q r).get? (Hy s.heap q r).objs.size=some _:=Ba _ (Ba _ (BA _ rfl));have g2:(E6 s.heap q r).get? (Hz s.heap q).objs.size=some _:=Ba _ (Ba _ (Ba _ (BA _ rfl)));have g1:(E6 s.heap q r).get? s.heap.objs.size=some _:=Ba _ (Ba _ (Ba _ (Ba _ (BA _ rfl))));show _/\_;rw [z2,z3,z4] at g5;rw [z1,z2] at g3;rw [z3] at g4;rw [z1] at g2;rw [z4];exact ⟨⟨_,g5,rfl⟩,h _ g5 g3 g4 ⟨_,g1,rfl,rfl⟩ ⟨_,g2,rfl,rfl⟩ z5 λ c o x=>Ba _ (Ba _ (Ba _ (Ba _ (Ba _ x))))⟩
end
section
variable {X:Cx}{pins:List (Addr×Obj)}{σ:St}{H:Hp}{s:Ai}{h':Heap}
theorem Rm {fp:List Addr}{a:Addr}{o:HO}{t':Nat} (I:Inv X pins σ H s) (k:∀ b u,b∉fp->s.heap.get? b=some u->h'.get? b=some u) (hf:∀ b∈fp,Cg X pins H b) (ha:s.heap.objs.size<=a) (new:zxk X.prog X.w (Av H a o) h' a o):
  Inv X pins σ (Av H a o) { s with heap:=h',toks:=t' }:=by
 have hn:H a=none:=I.hok.fresh ha;have nfp:∀ b u,H b=some u->b∉fp:=λ b u e z=>by rw [(hf b z).1] at e;cases e
 have up:∀ b u,H b=some u->Av H a o b=some u:=λ b u e=>by rw [AG (λ z=>by rw [z,hn] at e;cases e)];exact e
 refine I.step (g':=s.gens) (d':=s.drawn) (ch:=fp) (λ b hb=>?_) (λ b u _ _ hc e _=>k b u hc e) (λ b u _ _ hc e _=>⟨u.slots,k b u hc e⟩) (λ b u _ e n=>?_) (λ b u hc e=>⟨u,k b u hc e⟩) (λ b xs e=>up b _ e) (λ b _ _ e=>up b _ e) (λ b ps e=>⟨#[],by rw [up b _ e];simp⟩) (λ m hm=>?_) (λ b u e=>?_) I.bare
 ·obtain ⟨_,f1,_,f3,f4,f5⟩:=hf b hb;exact ⟨f3,f1,f4,f5⟩
 ·rw [AG (λ z=>by rw [z] at e;exact absurd (AH e) (Nat.not_lt.mpr ha))];exact n
 ·obtain ⟨u,es,ep,ho,r⟩:=hm;exact ⟨u,es,ep,k _ u (λ z=>(hf _ z).2.1 rfl) ho,r⟩
 ·by_cases eb:b=a
  ·subst eb;rw [BN] at e;cases e;exact new
  ·rw [AG eb] at e;refine (I.hok b u e).stay (λ c v hc q=>k c v ?_ q) (λ c q=>up c _ q) λ c xs q=>up c _ q;rcases hc with z | z
   ·rw [z];exact nfp b u e
   ·exact nfp c _ z
theorem Lz {fp:List Addr}{t':Nat} (I:Inv X pins σ H s) (k:∀ b u,b∉fp->s.heap.get? b=some u->h'.get? b=some u) (hf:∀ b∈fp,Cg X pins H b):Inv X pins σ H { s with heap:=h',toks:=t' }:=by
 have nfp:∀ b u,H b=some u->b∉fp:=λ b u e z=>by rw [(hf b z).1] at e;cases e
 refine I.step (g':=s.gens) (d':=s.drawn) (ch:=fp) (λ b hb=>?_) (λ b u _ _ hc e _=>k b u hc e) (λ b u _ _ hc e _=>⟨u.slots,k b u hc e⟩) (λ _ _ _ _ n=>n) (λ b u hc e=>⟨u,k b u hc e⟩) (λ _ _ e=>e) (λ _ _ _ e=>e) (λ b ps e=>⟨#[],by rw [e];simp⟩) (λ m hm=>?_) (λ b u e=>?_) I.bare
 ·obtain ⟨_,f1,_,f3,f4,f5⟩:=hf b hb;exact ⟨f3,f1,f4,f5⟩
 ·obtain ⟨u,es,ep,ho,r⟩:=hm;exact ⟨u,es,ep,k _ u (λ z=>(hf _ z).2.1 rfl) ho,r⟩
 ·refine (I.hok b u e).stay (λ c v hc q=>k c v ?_ q) (λ _ q=>q) λ _ _ q=>q;rcases hc with z | z
  ·rw [z];exact nfp b u e
  ·exact nfp c _ z
end
def Kj (K:Frag) (a:Addr) (n:Nat):It:=
 ⟨λ i H=>i < n/\∃ xs x,Br K H a xs/\xs[n - 1 - i]?=some x,λ i H x H'=>H'=H/\∀ xs,Br K H a xs->xs[n - 1 - i]?=some x,λ i _=>n<=i⟩
theorem bG {P:AB}{w:A9}{K:Frag}{tg:Expr} (a it:Addr) (n:Nat):Turn P w K tg (Kj K a n) [it] it (λ i h=>i<=n/\h.IsRevIter it a ((n:Int) - 1 - (i:Int))) where
 mem:=by simp
 obj:=λ i h st b hb=>by
  have e:b=it:=by simpa using hb
  subst e;obtain ⟨_,o,e,c,d⟩:=st;exact ⟨o,e,λ v z=>by rw [d] at z;cases z⟩
 keep:=λ i h h' st k=>⟨st.1,st.2.at λ o e=>k it (by simp) o e⟩
 item:=by
  intro X hP hw hK hc i pins s σ H E I hf st hg;subst hP hw hK;obtain ⟨hn,xs,x,hq,hx⟩:=hg;obtain ⟨its,rv,p,hz⟩:=I.list hq;obtain ⟨u,hu,ru⟩:=rv.get hx;have st2:=st.2;rw [show (n:Int) - 1 - (i:Int)=((n - 1 - i:Nat):Int) by omega] at st2;refine wpAny_pyNext_rev_item st2 p.isList (x:=u) (by simpa using hu) λ h' st' sb=>?_;have I1:Inv X pins σ H { s with heap:=h' }:=Lz (t':=s.toks) I (λ b o hb e=>(sb.2 b (λ z=>hb (by simp [z]))).trans e) hf;obtain ⟨o,e,c,d⟩:=id st';refine ⟨u,rfl,IM (s:={ s with heap:=h' }) e c d (by decide) ⟨x,H,I1,ru,⟨rfl,λ ys hy=>by rw [I.list_inj hy hq];exact hx⟩,⟨by omega,?_⟩,λ b hb=>(hf b hb).1⟩⟩;rw [show (n:Int) - 1 - ((i + 1:Nat):Int)=((n - 1 - i:Nat):Int) - 1 by omega];exact st'
 done:=by
  intro X hP hw hK hc i pins s σ H E I hf st hg;subst hP hw hK;have hn:n<=i:=hg;have st2:=st.2;rw [show (n:Int) - 1 - (i:Int)=-1 by have:=st.1;omega] at st2;exact wpAny_pyNext_rev_end (I.ok.hd hc) st2 λ h' eb=>⟨rfl,Lz (t':=s.toks) I (λ b o hb e=>eb b o (λ z=>hb (by simp [z])) e) hf⟩
 self:=λ _ _ _ _ _ st h=>R9 st.2 h
def Kk (K:Frag) (a:Addr):It:=
 ⟨λ i H=>∃ xs x,Br K H a xs/\xs[i]?=some x,λ i H v H'=>∃ T x,H T=none/\v=.ref T/\H'=Av H T (.tup [.int (i:Int),x])/\∀ xs,Br K H a xs->xs[i]?=some x,λ i H=>∃ xs,Br K H a xs/\xs.length<=i⟩
theorem fS {P:AB}{w:A9}{K:Frag}{es:List Expr}{k:Nat}{pos:Pos} (a e it:Addr) (hne:e≠it):Turn P w K (.Tuple es k pos) (Kk K a) [e,it] e (λ i h=>(∃ old,IsEnum h e it (i:Int) old)/\h.IsListIter it a i) where
 mem:=by simp
 obj:=λ i h st b hb=>by
  obtain ⟨⟨old,he⟩,o,ho,c,d⟩:=st;rcases jb8.mp hb with z | z
  ·rw [z];exact ⟨_,he,λ v z=>by cases z⟩
  ·rw [je2.mp z];exact ⟨o,ho,λ v z=>by rw [d] at z;cases z⟩
 keep:=λ i h h' st k=>by
  obtain ⟨⟨old,he⟩,hi⟩:=st;exact ⟨⟨old,k e (by simp) _ he⟩,hi.at λ o x=>k it (by simp) o x⟩
 item:=by
  intro X hP hw hK hc i pins s σ H E I hf st hg;subst hP hw hK;obtain ⟨xs,x,hq,hx⟩:=hg;obtain ⟨its,rv,p,hz⟩:=I.list hq;obtain ⟨u,hu,ru⟩:=rv.get hx;obtain ⟨⟨old,he⟩,hit⟩:=st;refine wpAny_pyNext_enum_item he hit p.isList (x:=u) (by simpa using hu) hne λ h' ho hit' hT hsz hk=>⟨_,rfl,?_⟩
  refine wpAny_letOwnedTupleGo_enum ho λ h2 he2 hs2=>?_;have hs0:s.heap.objs.size≠e:=Fe (AH he);have hn:H s.heap.objs.size=none:=I.hok.fresh (A5 _);have hT2:h2.get? s.heap.objs.size=some { cls:=.type "tuple",data:=.seq #[.int (i:Int) s.toks,u] }:=(hs2.2 _ hs0).trans hT;have I1:Inv X pins σ (Av H s.heap.objs.size (.tup [.int (i:Int),x])) { s with heap:=h2,toks:=s.toks + 1 }:=by
   refine Rm (fp:=[e,it]) I (λ b u hb q=>(hs2.2 b (λ z=>hb (by simp [z]))).trans (hk b u (λ z=>hb (by simp [z])) (λ z=>hb (by simp [z])) q)) hf (A5 _) ?_;exact ⟨BD (by decide:2<=1000) (by decide),_,.cons ⟨_,rfl⟩ (.cons ru .nil),⟨_,hT2,rfl,_,rfl⟩⟩
  refine ⟨.ref s.heap.objs.size,_,I1,rfl,⟨_,x,hn,rfl,rfl,λ ys hy=>by rw [I.list_inj hy hq];exact hx⟩,⟨⟨u,?_⟩,hit'.at λ o q=>(hs2.2 it (Et hne)).trans q⟩,λ b hb=>?_⟩
  ·rw [show ((i + 1:Nat):Int)=(i:Int) + 1 by omega];exact he2
  ·have hb':=(hf b hb).1;rw [AG (λ z=>?_)]
   ·exact hb'
   ·rcases jb8.mp hb with y | y
    ·rw [y] at z;exact hs0 z.symm
    ·rw [je2.mp y] at z;obtain ⟨o,q,_⟩:=hit;exact absurd (AH q) (by rw [z];exact DB _)
 done:=by
  intro X hP hw hK hc i pins s σ H E I hf st hg;subst hP hw hK;obtain ⟨xs,hq,hx⟩:=hg;obtain ⟨its,rv,p,hz⟩:=I.list hq;obtain ⟨⟨old,he⟩,hit⟩:=st;have hl:=rv.length;exact wpAny_pyNext_enum_end (I.ok.hd hc) he hit p.isList (JU (by simp;omega)) λ h' eb=>⟨rfl,Lz (t':=s.toks) I (λ b o hb q=>eb b o (λ z=>hb (by simp [z])) q) hf⟩
 self:=λ _ _ _ _ _ st h=>by
  obtain ⟨⟨old,he⟩,_⟩:=st;exact wpAny_pyIter_enum he h
def Ki (K:Frag) (a b:Addr):It:=
 ⟨λ i H=>∃ xs ys x y,Br K H a xs/\Br K H b ys/\xs[i]?=some x/\ys[i]?=some y,λ i H v H'=>∃ T x y,H T=none/\v=.ref T/\H'=Av H T (.tup [x,y])/\∀ xs ys,Br K H a xs->Br K H b ys->xs[i]?=some x/\ys[i]?=some y,λ i H=>∃ xs ys,Br K H a xs/\Br K H b ys/\(xs.length<=i\/ys.length<=i)⟩
theorem Vz {h:Heap}{z TI TO i1 i2 l1 l2:Addr}{f0:Ae}{a b c d:Ae}{k1 k2:Nat}{xs ys:Array Ae} (hTT:TI≠TO) (h12:i1≠i2) (hz:Du h z TI TO f0) (hTI:Ck h TI a b) (hTO:Ck h TO c d) (h1:h.IsListIter i1 l1 k1) (h2:h.IsListIter i2 l2 k2) (hl1:h.IsList l1 xs) (hl2:h.IsList l2 ys):ZipApart z TI TO i1 i2 l1 l2:=by
 obtain ⟨o1,e1,c1,_⟩:=h1;obtain ⟨o2,e2,c2,_⟩:=h2;obtain ⟨p1,q1,r1,_⟩:=hl1;obtain ⟨p2,q2,r2,_⟩:=hl2;have ne:∀ {x y:Addr}{o o':Obj}{n m:String},h.get? x=some o->h.get? y=some o'->o.cls=.type n->o'.cls=.type m->n≠m->x≠y:=λ {x y o o' n m} ex ey cx cy nm z=>by
  subst z;rw [ex] at ey;cases ey;rw [cx] at cy;injection cy with cy
  exact nm cy
 exact ⟨ne hTI hz rfl rfl (by decide),ne hTO hz rfl rfl (by decide),ne e1 hz c1 rfl (by decide),ne e2 hz c2 rfl (by decide),hTT,ne hTI e1 rfl c1 (by decide),ne hTI e2 rfl c2 (by decide),ne hTO e1 rfl c1 (by decide),ne hTO e2 rfl c2 (by decide),h12,
  ne q1 hz r1 rfl (by decide),ne q1 hTO r1 rfl (by decide),ne q1 e1 r1 c1 (by decide),ne q1 e2 r1 c2 (by decide),ne q2 hz r2 rfl (by decide),ne q2 hTO r2 rfl (by decide),ne q2 e1 r2 c1 (by decide),ne q2 e2 r2 c2 (by decide)⟩
theorem dz {P:AB}{w:A9}{K:Frag}{es:List Expr}{k:Nat}{pos:Pos} (l1 l2 z TI TO i1 i2:Addr) (hTT:TI≠TO) (h12:i1≠i2):
  Turn P w K (.Tuple es k pos) (Ki K l1 l2) [z,TI,TO,i1,i2] z (λ i h=>Du h z TI TO .none/\Ck h TI (.ref i1) (.ref i2)/\(∃ p q,Ck h TO p q)/\h.IsListIter i1 l1 i/\h.IsListIter i2 l2 i) where
 mem:=by simp
 obj:=λ i h st b hb=>by
  obtain ⟨hz,hTI,⟨p,q,hTO⟩,⟨o1,e1,_,d1⟩,⟨o2,e2,_,d2⟩⟩:=st;simp only [jb8,IW,or_false] at hb;rcases hb with rfl | rfl | rfl | rfl | rfl
  ·exact ⟨_,hz,λ v z=>by cases z⟩
  ·exact ⟨_,hTI,λ v z=>by cases z⟩
  ·exact ⟨_,hTO,λ v z=>by cases z⟩
  ·exact ⟨o1,e1,λ v z=>by rw [d1] at z;cases z⟩
  ·exact ⟨o2,e2,λ v z=>by rw [d2] at z;cases z⟩
 keep:=λ i h h' st k=>by
  obtain ⟨hz,hTI,⟨p,q,hTO⟩,h1,h2⟩:=st;exact ⟨k z (by simp) _ hz,k TI (by simp) _ hTI,⟨p,q,k TO (by simp) _ hTO⟩,h1.at λ o x=>k i1 (by simp) o x,h2.at λ o x=>k i2 (by simp) o x⟩
 item:=by
  intro X hP hw hK hc i pins s σ H E I hf st hg;subst hP hw hK;obtain ⟨xs,ys,x,y,hq1,hq2,hx,hy⟩:=hg;obtain ⟨its1,rv1,p1,hz1⟩:=I.list hq1;obtain ⟨its2,rv2,p2,hz2⟩:=I.list hq2;obtain ⟨u1,hu1,ru1⟩:=rv1.get hx;obtain ⟨u2,hu2,ru2⟩:=rv2.get hy;obtain ⟨hz,hTI,⟨p,q,hTO⟩,h1,h2⟩:=st;have D:=Vz hTT h12 hz hTI hTO h1 h2 p1.isList p2.isList;refine wpAny_pyNext_zip_item D hz hTI hTO h1 h2 p1.isList p2.isList (x:=u1) (y:=u2) (by simpa using hu1) (by simpa using hu2) λ h' a1 a2 a3 a4 a5 a6 hk=>⟨_,rfl,?_⟩
  refine VW a1 λ h2' hz' hs'=>?_;have hn:H s.heap.objs.size=none:=I.hok.fresh (A5 _);have hs0:s.heap.objs.size≠z:=Fe (AH hz);have I1:Inv X pins σ (Av H s.heap.objs.size (.tup [x,y])) { s with heap:=h2',toks:=s.toks }:=by
   refine Rm (fp:=[z,TI,TO,i1,i2]) I (λ b u hb e=>(hs'.2 b (λ z=>hb (by simp [z]))).trans (hk b u (λ z=>hb (by simp [z])) (λ z=>hb (by simp [z])) (λ z=>hb (by simp [z])) (λ z=>hb (by simp [z])) e)) hf (A5 _) ?_;exact ⟨BD (by decide:2<=1000) (by decide),_,.cons ru1 (.cons ru2 .nil),⟨_,(hs'.2 _ hs0).trans a5,rfl,_,rfl⟩⟩
  refine ⟨.ref s.heap.objs.size,_,I1,rfl,⟨_,x,y,hn,rfl,rfl,λ xs' ys' e1 e2=>⟨by rw [I.list_inj e1 hq1];exact hx,by rw [I.list_inj e2 hq2];exact hy⟩⟩,⟨hz',(hs'.2 _ D.TIz).trans (hk _ _ D.TIz D.TITO D.TIi1 D.TIi2 hTI),⟨_,_,(hs'.2 _ D.TOz).trans a2⟩,a3.at λ o e=>(hs'.2 _ D.i1z).trans e,a4.at λ o e=>(hs'.2 _ D.i2z).trans e⟩,λ b hb=>?_⟩;have hb':=(hf b hb).1;have lt:b < s.heap.objs.size:=by
   simp only [jb8,IW,or_false] at hb;rcases hb with rfl | rfl | rfl | rfl | rfl
   ·exact AH hz
   ·exact AH hTI
   ·exact AH hTO
   ·obtain ⟨_,e,_⟩:=h1;exact AH e
   ·obtain ⟨_,e,_⟩:=h2;exact AH e
  rw [AG (Cd lt)];exact hb'
 done:=by
  intro X hP hw hK hc i pins s σ H E I hf st hg;subst hP hw hK;obtain ⟨xs,ys,hq1,hq2,hend⟩:=hg;obtain ⟨its1,rv1,p1,hz1⟩:=I.list hq1;obtain ⟨its2,rv2,p2,hz2⟩:=I.list hq2;obtain ⟨hz,hTI,⟨p,q,hTO⟩,h1,h2⟩:=st;have D:=Vz hTT h12 hz hTI hTO h1 h2 p1.isList p2.isList;have r1:=rv1.length;have r2:=rv2.length;refine wpAny_pyNext_zip_end (I.ok.hd hc) D hz hTI hTO h1 h2 p1.isList p2.isList ?_ λ h' hk=>⟨rfl,Lz (t':=s.toks) I (λ b o hb e=>hk b o (λ z=>hb (by simp [z])) (λ z=>hb (by simp [z])) (λ z=>hb (by simp [z])) (λ z=>hb (by simp [z])) e) hf⟩
  rcases hend with h | h
  ·exact .inl (JU (by simp;omega))
  ·exact .inr (JU (by simp;omega))
 self:=λ _ _ _ _ _ st h=>OL st.1 h
def Kh (a b:Addr):It:=
 ⟨λ i H=>∃ xs ys x y,H a=some (.tup xs)/\H b=some (.tup ys)/\xs[i]?=some x/\ys[i]?=some y,λ i H v H'=>∃ T x y,H T=none/\v=.ref T/\H'=Av H T (.tup [x,y])/\∀ xs ys,H a=some (.tup xs)->H b=some (.tup ys)->xs[i]?=some x/\ys[i]?=some y,λ i H=>∃ xs ys,H a=some (.tup xs)/\H b=some (.tup ys)/\(xs.length<=i\/ys.length<=i)⟩
theorem Z2 {h:Heap}{H:Hp}{z TI TO i1 i2 l1 l2:Addr}{f0:Ae}{a b c d:Ae}{k1 k2:Nat}{xs ys:Array Ae}{us vs:List V} (hTT:TI≠TO) (h12:i1≠i2) (hz:Du h z TI TO f0) (hTI:Ck h TI a b) (hTO:Ck h TO c d) (h1:h.IsTupleIter i1 l1 k1) (h2:h.IsTupleIter i2 l2 k2) (hl1:h.IsTuple l1 xs) (hl2:h.IsTuple l2 ys) (n1:H TO=none) (q1:H l1=some (.tup us)) (q2:H l2=some (.tup vs)):ZApart z TI TO i1 i2 l1 l2:=by
 obtain ⟨o1,e1,c1,_⟩:=h1;obtain ⟨o2,e2,c2,_⟩:=h2;obtain ⟨p1,m1,r1,_⟩:=hl1;obtain ⟨p2,m2,r2,_⟩:=hl2;have ne:∀ {x y:Addr}{o o':Obj}{n m:String},h.get? x=some o->h.get? y=some o'->o.cls=.type n->o'.cls=.type m->n≠m->x≠y:=λ {x y o o' n m} ex ey cx cy nm z=>by
  subst z;rw [ex] at ey;cases ey;rw [cx] at cy;injection cy with cy
  exact nm cy
 exact ⟨ne hTI hz rfl rfl (by decide),ne hTO hz rfl rfl (by decide),ne e1 hz c1 rfl (by decide),ne e2 hz c2 rfl (by decide),hTT,ne hTI e1 rfl c1 (by decide),ne hTI e2 rfl c2 (by decide),ne hTO e1 rfl c1 (by decide),ne hTO e2 rfl c2 (by decide),h12,
  ne m1 hz r1 rfl (by decide),(λ z=>by rw [z,n1] at q1;cases q1),ne m1 e1 r1 c1 (by decide),ne m1 e2 r1 c2 (by decide),ne m2 hz r2 rfl (by decide),(λ z=>by rw [z,n1] at q2;cases q2),ne m2 e1 r2 c1 (by decide),ne m2 e2 r2 c2 (by decide)⟩
theorem u6 {P:AB}{w:A9}{K:Frag}{es:List Expr}{k:Nat}{pos:Pos} (l1 l2 z TI TO i1 i2:Addr) (hTT:TI≠TO) (h12:i1≠i2):
  Turn P w K (.Tuple es k pos) (Kh l1 l2) [z,TI,TO,i1,i2] z (λ i h=>Du h z TI TO .none/\Ck h TI (.ref i1) (.ref i2)/\(∃ p q,Ck h TO p q)/\h.IsTupleIter i1 l1 i/\h.IsTupleIter i2 l2 i) where
 mem:=by simp
 obj:=λ i h st b hb=>by
  obtain ⟨hz,hTI,⟨p,q,hTO⟩,⟨o1,e1,_,d1⟩,⟨o2,e2,_,d2⟩⟩:=st;simp only [jb8,IW,or_false] at hb;rcases hb with rfl | rfl | rfl | rfl | rfl
  ·exact ⟨_,hz,λ v z=>by cases z⟩
  ·exact ⟨_,hTI,λ v z=>by cases z⟩
  ·exact ⟨_,hTO,λ v z=>by cases z⟩
  ·exact ⟨o1,e1,λ v z=>by rw [d1] at z;cases z⟩
  ·exact ⟨o2,e2,λ v z=>by rw [d2] at z;cases z⟩
 keep:=λ i h h' st k=>by
  obtain ⟨hz,hTI,⟨p,q,hTO⟩,h1,h2⟩:=st;exact ⟨k z (by simp) _ hz,k TI (by simp) _ hTI,⟨p,q,k TO (by simp) _ hTO⟩,h1.at λ o x=>k i1 (by simp) o x,h2.at λ o x=>k i2 (by simp) o x⟩
 item:=by
  intro X hP hw hK hc i pins s σ H E I hf st hg;subst hP hw hK;obtain ⟨xs,ys,x,y,hq1,hq2,hx,hy⟩:=hg;obtain ⟨its1,rv1,p1,hz1⟩:=I.tuple (.of hq1);obtain ⟨its2,rv2,p2,hz2⟩:=I.tuple (.of hq2);obtain ⟨u1,hu1,ru1⟩:=rv1.get hx;obtain ⟨u2,hu2,ru2⟩:=rv2.get hy;obtain ⟨hz,hTI,⟨p,q,hTO⟩,h1,h2⟩:=st;have T1:s.heap.IsTuple l1 its1.toArray:=p1;have T2:s.heap.IsTuple l2 its2.toArray:=p2;have D:=Z2 hTT h12 hz hTI hTO h1 h2 T1 T2 (hf TO (by simp)).1 hq1 hq2;refine yB D hz hTI hTO h1 h2 T1 T2 (u:=u1) (v:=u2) (by simpa using hu1) (by simpa using hu2) λ h' a1 a2 a3 a4 a5 a6 hk=>⟨_,rfl,?_⟩
  refine VW a1 λ h2' hz' hs'=>?_;have hn:H s.heap.objs.size=none:=I.hok.fresh (A5 _);have hs0:s.heap.objs.size≠z:=Fe (AH hz);have I1:Inv X pins σ (Av H s.heap.objs.size (.tup [x,y])) { s with heap:=h2',toks:=s.toks }:=by
   refine Rm (fp:=[z,TI,TO,i1,i2]) I (λ b u hb e=>(hs'.2 b (λ z=>hb (by simp [z]))).trans (hk b u (λ z=>hb (by simp [z])) (λ z=>hb (by simp [z])) (λ z=>hb (by simp [z])) (λ z=>hb (by simp [z])) e)) hf (A5 _) ?_;exact ⟨BD (by decide:2<=1000) (by decide),_,.cons ru1 (.cons ru2 .nil),⟨_,(hs'.2 _ hs0).trans a5,rfl,_,rfl⟩⟩
  refine ⟨.ref s.heap.objs.size,_,I1,rfl,⟨_,x,y,hn,rfl,rfl,λ xs' ys' e1 e2=>⟨by rw [hq1] at e1;cases e1;exact hx,by rw [hq2] at e2;cases e2;exact hy⟩⟩,⟨hz',(hs'.2 _ D.ne1).trans (hk _ _ D.ne1 D.ne5 D.ne6 D.ne7 hTI),⟨_,_,(hs'.2 _ D.ne2).trans a2⟩,a3.at λ o e=>(hs'.2 _ D.ne3).trans e,a4.at λ o e=>(hs'.2 _ D.ne4).trans e⟩,λ b hb=>?_⟩;have hb':=(hf b hb).1;have lt:b < s.heap.objs.size:=by
   simp only [jb8,IW,or_false] at hb;rcases hb with rfl | rfl | rfl | rfl | rfl
   ·exact AH hz
   ·exact AH hTI
   ·exact AH hTO
   ·obtain ⟨_,e,_⟩:=h1;exact AH e
   ·obtain ⟨_,e,_⟩:=h2;exact AH e
  rw [AG (Cd lt)];exact hb'
 done:=by
  intro X hP hw hK hc i pins s σ H E I hf st hg;subst hP hw hK;obtain ⟨xs,ys,hq1,hq2,hend⟩:=hg;obtain ⟨its1,rv1,p1,hz1⟩:=I.tuple (.of hq1);obtain ⟨its2,rv2,p2,hz2⟩:=I.tuple (.of hq2);obtain ⟨hz,hTI,⟨p,q,hTO⟩,h1,h2⟩:=st;have T1:s.heap.IsTuple l1 its1.toArray:=p1;have T2:s.heap.IsTuple l2 its2.toArray:=p2;have D:=Z2 hTT h12 hz hTI hTO h1 h2 T1 T2 (hf TO (by simp)).1 hq1 hq2;have r1:=rv1.length;have r2:=rv2.length;refine lg (I.ok.hd hc) D hz hTI hTO h1 h2 T1 T2 ?_ λ h' hk=>⟨rfl,Lz (t':=s.toks) I (λ b o hb e=>hk b o (λ z=>hb (by simp [z])) (λ z=>hb (by simp [z])) (λ z=>hb (by simp [z])) (λ z=>hb (by simp [z])) e) hf⟩
  rcases hend with h | h
  ·exact .inl (JU (by simp;omega))
  ·exact .inr (JU (by simp;omega))
 self:=λ _ _ _ _ _ st h=>OL st.1 h
section
variable {X:Cx}{tg:Expr}
def Np (K:Frag) (ta:TA):TI:=λ σ H R=>ta σ H λ vs H1=>∃ a xs,vs=[.ref a]/\Br K H1 a xs/\R (Kj K a xs.length) H1
def Nq (K:Frag) (ta:TA):TI:=λ σ H R=>ta σ H λ vs H1=>∃ a xs,vs=[.ref a]/\Br K H1 a xs/\R (Kk K a) H1
def Nn (K:Frag) (ta:TA):TI:=λ σ H R=>ta σ H λ vs H1=>∃ a b xs ys,vs=[.ref a,.ref b]/\((Br K H1 a xs/\Br K H1 b ys/\R (Ki K a b) H1)\/(H1 a=some (.tup xs)/\H1 b=some (.tup ys)/\R (Kh a b) H1))
theorem vc {a:Expr}{ta:TA}{p pos:Pos} (hg:Gl X "reversed") (hm:X.mg "reversed" = none) (ha:PA X [a] ta) (hs:Bt [a] X.env=[(false,eval a X.env)]):PI X tg (.Call (.Name "reversed" p) [a] [] pos) (Np X.K ta):=by
 intro pins s σ H R I h;refine Call_ (Gq I hg hm boot_reversed (HR (A2 (ha pos pins s σ H _ I h) λ us s1 ⟨vs,H1,I1,r1,q1⟩=>?_) hs rfl));obtain ⟨b,xs,e,hq,q⟩:=q1;subst e;cases r1 with
 | cons r rr=>
  cases rr;cases r;obtain ⟨its,rv,pl,hz⟩:=I1.list hq;have hl:=rv.length;refine call_reversed_list pl.isList ?_;have hT:(s1.heap.push (revObj b ((its.toArray.size:Int) - 1))).IsRevIter s1.heap.objs.size b ((its.toArray.size:Int) - 1):=⟨_,BA _ rfl,rfl,rfl⟩
  refine R9 (s:={ s1 with heap:=s1.heap.push (revObj b ((its.toArray.size:Int) - 1)) }) hT ?_;refine ⟨s1.heap.objs.size,[s1.heap.objs.size],_,_,H1,rfl,I1.kept (t':=s1.toks) λ b o e=>Ba _ e,bG b _ xs.length,⟨FC _,?_⟩,λ c hc=>?_,q⟩
  ·rw [show (xs.length:Int) - 1 - ((0:Nat):Int)=(its.toArray.size:Int) - 1 by simp;omega];exact hT
  ·have e:c=s1.heap.objs.size:=by simpa using hc
   subst e;exact I1.fpOk (A5 _) (I1.hok.fresh (A5 _))
theorem u3 {a:Expr}{ta:TA}{es:List Expr}{k:Nat}{tp p pos:Pos} (hg:Gl X "enumerate") (hm:X.mg "enumerate" = none) (ha:PA X [a] ta) (hs:Bt [a] X.env=[(false,eval a X.env)]):PI X (.Tuple es k tp) (.Call (.Name "enumerate" p) [a] [] pos) (Nq X.K ta):=by
 intro pins s σ H R I h;refine Call_ (Gq I hg hm boot_enumerate (HR (A2 (ha pos pins s σ H _ I h) λ us s1 ⟨vs,H1,I1,r1,q1⟩=>?_) hs rfl));obtain ⟨b,xs,e,hq,q⟩:=q1;subst e;cases r1 with
 | cons r rr=>
  cases rr;cases r;obtain ⟨its,rv,pl,hz⟩:=I1.list hq;refine call_enumerate_list pl.isList λ h' he hit hsz hk=>?_;refine wpAny_pyIter_enum (s:={ s1 with heap:=h' }) he ?_;refine ⟨s1.heap.objs.size + 1,[s1.heap.objs.size + 1,s1.heap.objs.size],_,_,H1,rfl,I1.kept (t':=s1.toks) hk,fS b _ _ (Nat.succ_ne_self _),⟨⟨_,he⟩,hit⟩,λ c hc=>?_,q⟩;rcases jb8.mp hc with e | e
  ·rw [e];exact I1.fpOk (MZ _) (I1.hok.fresh (MZ _))
  ·rw [je2.mp e];exact I1.fpOk (A5 _) (I1.hok.fresh (A5 _))
theorem vd {a b:Expr}{ta:TA}{es:List Expr}{k:Nat}{tp p pos:Pos} (hg:Gl X "zip") (hm:X.mg "zip" = none) (ha:PA X [a,b] ta) (hs:Bt [a,b] X.env=[(false,eval a X.env),(false,eval b X.env)]) (hs2:Bt [b] X.env=[(false,eval b X.env)]):
  PI X (.Tuple es k tp) (.Call (.Name "zip" p) [a,b] [] pos) (Nn X.K ta):=by
 intro pins s σ H R I h;refine Call_ (Gq I hg hm boot_zip (HR (A2 (ha pos pins s σ H _ I h) λ us s1 ⟨vs,H1,I1,r1,q1⟩=>?_) (by rw [hs,hs2]) (by rw [hs2];rfl)));obtain ⟨c,d,xs,ys,e,⟨hq1,hq2,q⟩ | ⟨hq1,hq2,q⟩⟩:=q1
 ·subst e;cases r1 with
  | cons r rr=>
   cases rr with
   | cons r' rr=>
    cases rr;cases r;cases r';obtain ⟨its1,rv1,p1,hz1⟩:=I1.list hq1;obtain ⟨its2,rv2,p2,hz2⟩:=I1.list hq2;refine call_zip_2 p1.isList p2.isList λ h' hz hTI hTO h1 h2 hsz hk=>?_;refine OL (s:={ s1 with heap:=h' }) hz ?_;refine ⟨s1.heap.objs.size + 4,[s1.heap.objs.size + 4,s1.heap.objs.size + 2,s1.heap.objs.size + 3,s1.heap.objs.size,s1.heap.objs.size + 1],_,_,H1,rfl,I1.kept (t':=s1.toks) hk,dz c d _ _ _ _ _ (Cd (Ie _)) (Cd (Ie _)),⟨hz,hTI,⟨_,_,hTO⟩,h1,h2⟩,λ x hx=>?_,q⟩
    have:s1.heap.objs.size<=x:=by
     simp only [jb8,IW,or_false] at hx;rcases hx with rfl | rfl | rfl | rfl | rfl
     ·exact IV _ _
     ·exact IV _ _
     ·exact IV _ _
     ·exact A5 _
     ·exact IV _ _
    exact I1.fpOk this (I1.hok.fresh this)
 ·subst e;cases r1 with
  | cons r rr=>
   cases rr with
   | cons r' rr=>
    cases rr;cases r;cases r';obtain ⟨its1,rv1,p1,hz1⟩:=I1.tuple (.of hq1);obtain ⟨its2,rv2,p2,hz2⟩:=I1.tuple (.of hq2);refine wN (us:=its1.toArray) (vs:=its2.toArray) p1 p2 λ h' hz hTI hTO h1 h2 hsz hk=>?_;refine OL (s:={ s1 with heap:=h' }) hz ?_;refine ⟨s1.heap.objs.size + 4,[s1.heap.objs.size + 4,s1.heap.objs.size + 2,s1.heap.objs.size + 3,s1.heap.objs.size,s1.heap.objs.size + 1],_,_,H1,rfl,I1.kept (t':=s1.toks) hk,u6 c d _ _ _ _ _ (Cd (Ie _)) (Cd (Ie _)),⟨hz,hTI,⟨_,_,hTO⟩,h1,h2⟩,λ x hx=>?_,q⟩
    have:s1.heap.objs.size<=x:=by
     simp only [jb8,IW,or_false] at hx;rcases hx with rfl | rfl | rfl | rfl | rfl
     ·exact IV _ _
     ·exact IV _ _
     ·exact IV _ _
     ·exact A5 _
     ·exact IV _ _
    exact I1.fpOk this (I1.hok.fresh this)
end
def Qp (lo:Int) (n:Nat):It:=⟨λ i _=>i < n,λ i H v H'=>H'=H/\v=.int (lo - (i:Nat)),λ i _=>n<=i⟩
theorem fR {P:AB}{w:A9}{K:Frag}{tg:Expr} (it:Addr) (lo:Int) (n:Nat):Turn P w K tg (Qp lo n) [it] it (λ i h=>OB h it (lo + (i:Nat) * (-1)) ((n:Int) - (i:Nat)) (-1)) where
 mem:=by simp
 obj:=λ i h st b hb=>by
  have e:b=it:=by simpa using hb
  subst e;exact ⟨_,st,λ v z=>by
   have z':Data.fields _=Data.cell v:=z;cases z'⟩
 keep:=λ i h h' st k=>k it (by simp) _ st
 item:=by
  intro X hP hw hK hc i pins s σ H E I hf st hg;subst hP hw hK;obtain ⟨f0,f1,f2,f3,f4,f5⟩:=hf it (by simp);have W:=Walks.range (prog:=X.prog) (w:=X.w) (I.ok.hd hc) it lo (-1) n;refine W.item i s _ _ hg st λ v h' tk hv st' kk=>?_;obtain ⟨t,rfl⟩:=hv;have I1:Inv X pins σ H { s with heap:=h',toks:=tk }:=I.turned (λ b o hb e=>kk b o (by simpa using hb) e) f0 f1 f3 f4 f5;refine ⟨_,rfl,IM (s:={ s with heap:=h',toks:=tk }) (n := "range_iterator") st' rfl rfl (by decide) ⟨.int (lo - i),H,I1,⟨t,?_⟩,⟨rfl,rfl⟩,st',λ b hb=>(hf b hb).1⟩⟩;rw [show lo + (i:Int) * -1=lo - i by omega]
 done:=by
  intro X hP hw hK hc i pins s σ H E I hf st hg;subst hP hw hK;obtain ⟨f0,f1,f2,f3,f4,f5⟩:=hf it (by simp);exact wpAny_pyNext_range_end (I.ok.hd hc) st (by have:n<=i:=hg;omega) λ h' eb=>⟨rfl,I.turned (t':=s.toks) (λ b o hb e=>eb b o hb e) f0 f1 f3 f4 f5⟩
 self:=λ _ _ _ _ _ st h=>wpAny_pyIter_rangeiter st h
section
variable {X:Cx}{tg:Expr}
theorem yb {pins:List (Addr×Obj)}{σ:St}{H:Hp}{s:Ai}{R:It->Hp->Prop}{E:Ae->Ai->Prop}{lo hi:Int}{t u v:Tok}{tk:Nat} (I:Inv X pins σ H s) (h1:-(2 ^ 62)<=lo) (h2:lo < 2 ^ 62) (h3:-(2 ^ 62)<=hi) (h4:hi < 2 ^ 62)
  (q:R (Qp lo (lo - hi).toNat) H):Al (Ay X.prog X.w) X.A (pyIter (.ref s.heap.objs.size)) (US X pins σ tg R) E { s with heap:=s.heap.push { cls:=.type "range",data:=.fields #[.int lo t,.int hi u,.int (-1) v] },toks:=tk }:=by
 refine wpAny_pyIter_range (IsRange.new ..) (PySem.W.small_down h1 h2 h3 h4) ?_;have I1:Inv X pins σ H { s with heap:=s.heap.push { cls:=.type "range",data:=.fields #[.int lo t,.int hi u,.int (-1) v] },toks:=tk }:=I.kept λ b o e=>Ba _ e;refine ⟨(s.heap.push { cls:=.type "range",data:=.fields #[.int lo t,.int hi u,.int (-1) v] }).objs.size,[(s.heap.push { cls:=.type "range",data:=.fields #[.int lo t,.int hi u,.int (-1) v] }).objs.size],_,_,H,rfl,
  I1.kept (t':=tk) λ b o e=>Ba _ e,fR _ lo (lo - hi).toNat,?_,λ b hb=>?_,q⟩
 ·have e1:lo + ((0:Nat):Int) * (-1)=lo:=by simp
  have e2:(((lo - hi).toNat:Nat):Int) - ((0:Nat):Int)=Builtin.Range.rangeSize lo hi (-1):=by rw [PySem.W.rangeSize_downNat];simp
  show OB _ _ (lo + ((0:Nat):Int) * (-1)) ((((lo - hi).toNat:Nat):Int) - ((0:Nat):Int)) (-1);rw [e1,e2];exact BA _ rfl
 ·have e:b=(s.heap.push { cls:=.type "range",data:=.fields #[.int lo t,.int hi u,.int (-1) v] }).objs.size:=by simpa using hb
  subst e;exact I1.fpOk (A5 _) (I1.hok.fresh (A5 _))
def Wq (ta:TA):TI:=λ σ H R=>ta σ H λ vs H1=>∃ i j:Int,vs=[.int i,.int j,.int (-1)]/\(-(2 ^ 40)<=i/\i < 2 ^ 40/\-(2 ^ 40)<=j/\j < 2 ^ 40)/\R (Qp i (i - j).toNat) H1
theorem u0 {e:Expr}{es:List Expr}{ta:TA}{p pos:Pos} (hg:Gl X "range") (hm:X.mg "range" = none) (ha:PA X (e::es) ta) (he:Bt (e::es) X.env=(false,eval e X.env)::Bt es X.env) (hpl:(FV pos (Bt es X.env)).any (·.1)=false):
  PI X tg (.Call (.Name "range" p) (e::es) [] pos) (Wq ta):=by
 intro pins s σ H R I h;refine Call_ (Gq I hg hm boot_range (HR (A2 (ha pos pins s σ H _ I h) λ us s1 ⟨vs,H1,I1,r1,q1⟩=>?_) he hpl));obtain ⟨i,j,e,⟨q1,q2,q3,q4⟩,q⟩:=q1;subst e;cases r1 with
 | cons r rr=>
  cases rr with
  | cons r' rr=>
   cases rr with
   | cons r'' rr=>
    cases rr;obtain ⟨t,rfl⟩:=r;obtain ⟨t',rfl⟩:=r';obtain ⟨t'',rfl⟩:=r'';exact call_range_3 (by decide) (yb I1 (by omega) (by omega) (by omega) (by omega) q) (.inl (PyProof.noPylong_small (by omega)))
end
abbrev Fi:=Af->Rz (List PV×Nat×Af)
def tI (M:Fm) (F:Fi) (vs:List Nat):TI:=λ σ H R=>∃ ρ g,Rep M ρ σ H g/\OutE M σ H (F ρ) λ p=>p.2.2=ρ->∀ J H',Le H H'->Yl (M.k g) (M.z g vs p.2.1) H' J p.1->R J H'
def E3 (F:Fi) (vs:List Nat) (asg:PV->Af->Option Af) (body:Fs):Fs:=λ ρ=>match F ρ with
 | .ok (els,d,ρ1)=>Bu asg body els (Bf d vs ρ1)
 | .exc c=>.exc c
 | .no=>.no
def Ej (F:Fi) (k:Nat) (asg:PV->Af->Option Af) (test:Fb) (elt:Fx):Fx:=λ ρ=>match F ρ with
 | .ok (els,_,ρ1)=>(DK k asg test elt els ρ1 []).bindN λ (acc,ρ2)=>DN acc ρ2
 | .exc c=>.exc c
 | .no=>.no
def KA (lo:Int) (n:Nat):List PV:=(An n).map λ (i:Nat)=>PV.int (lo + (i:Int))
def GW (i:Int) (n:Nat):List PV:=(An n).map λ (k:Nat)=>PV.int (i - (k:Int))
def Bn:List (PV×Nat)->Option (Int×Int)
 | [(.int j,_)]=>if -(2 ^ 62)<=j/\j < 2 ^ 62 then some (0,j) else none
 | _=>none
def Lb:List (PV×Nat)->Option (Int×Int)
 | [(.int i,_),(.int j,_)]=>if -(2 ^ 62)<=i/\i < 2 ^ 62/\-(2 ^ 62)<=j/\j < 2 ^ 62 then some (i,j) else none
 | _=>none
def M9:List (PV×Nat)->Option (Int×Nat)
 | [(.int i,_),(.int j,_),(.int k,_)]=>if k=-1/\-(2 ^ 40)<=i/\i < 2 ^ 40/\-(2 ^ 40)<=j/\j < 2 ^ 40 then some (i,(i - j).toNat) else none
 | _=>none
def signs (z:Str):List PV:=z.cps.toList.map λ c=>.str ⟨#[c]⟩
inductive Vw where
 | rev | enm | zp
def DL:Nat->List PV->List PV
 | _,[]=>[]
 | i,x::xs=>.tup [.int (i:Int),x]::DL (i + 1) xs
def B9:List PV->List PV->List PV
 | x::xs,y::ys=>.tup [x,y]::B9 xs ys
 | _,_=>[]
def Iu:Vw->List PV->Option (List PV)
 | .rev,[.lst xs]=>some xs.reverse
 | .enm,[.lst xs]=>some (DL 0 xs)
 | .zp,[.lst xs,.lst ys]=>some (B9 xs ys)
 | .zp,[.tup xs,.tup ys]=>some (B9 xs ys)
 | _,_=>none
def xb (v:Vw) (K:Frag) (ta:TA):TI:=match v with
 | .rev=>Np K ta
 | .enm=>Nq K ta
 | .zp=>Nn K ta
def CT (en:List (PV×Nat)->Option (Int×Int)) (fa:Fa):Fi:=λ ρ=>(fa ρ).bind λ (xs,ρ1)=>match en xs with
 | some (i,j)=>.ok (KA i (j - i).toNat,om,ρ1)
 | none=>.no
def HW (fa:Fa):Fi:=λ ρ=>(fa ρ).bind λ (xs,ρ1)=>match M9 xs with
 | some (i,n)=>.ok (GW i n,om,ρ1)
 | none=>.no
def C0 (f:Fx):Fi:=λ ρ=>(f ρ).bind λ (x,d,ρ1)=>match x with
 | .lst xs=>.ok (xs,d,ρ1)
 | .tup xs=>.ok (xs,d,ρ1)
 | .str z=>if ME z=true then .ok (signs z,d,ρ1) else .no
 | _=>.no
def CA (v:Vw) (fa:Fa):Fi:=λ ρ=>(fa ρ).bind λ (xs,ρ1)=>match Iu v (xs.map (·.1)) with
 | some els=>.ok (els,if CP xs=true then om else 0,ρ1)
 | none=>.no
theorem LP:∀ (xs:List PV) (k i:Nat),(DL k xs)[i]?=(xs[i]?).map λ x=>PV.tup [.int ((k + i:Nat):Int),x]
 | [],k,i=>by simp [DL]
 | x::xs,k,0=>by simp [DL]
 | x::xs,k,i + 1=>by
  have:=LP xs (k + 1) i
  rw [show k + 1 + i=k + (i + 1) by omega] at this;simpa [DL] using this
theorem LQ:∀ (xs:List PV) (k:Nat),(DL k xs).length=xs.length
 | [],_=>rfl
 | x::xs,k=>by simp [DL,LQ xs]
theorem Zz:∀ (xs ys:List PV) (i:Nat) (x y:PV),xs[i]?=some x->ys[i]?=some y->(B9 xs ys)[i]?=some (.tup [x,y])
 | [],_,i,x,y,h,_=>by simp at h
 | _::_,[],i,x,y,_,h=>by simp at h
 | a::xs,b::ys,0,x,y,h,h'=>by cases h;cases h';rfl
 | a::xs,b::ys,i + 1,x,y,h,h'=>by simpa [B9] using Zz xs ys i x y (by simpa using h) (by simpa using h')
theorem Z1:∀ (xs ys:List PV),(B9 xs ys).length=min xs.length ys.length
 | [],_=>by simp [B9]
 | _::_,[]=>by simp [B9]
 | a::xs,b::ys=>by simp [B9,Z1 xs ys]
section
variable {M:Fm}{ρ ρ':Af}{σ σ':St}{H H' H0 H1:Hp}{g g1:Os}{vs vs':List Nat}{K:Kx}{Z Z':Addr->Prop}{x:PV}{d i:Nat}{v:V}{a b:Addr}{f:Fx}{fa:Fa}{D:Ends}{J:It}{els xs ys:List PV}{tg:TG}{asg:PV->Af->Option Af}{body:Fs}{is:List Nat}{F:Fi}{R:It->Hp->Prop}
theorem Yl.anti (z:∀ a,Z' a->Z a) (y:Yl K Z H J els):Yl K Z' H J els:=
 have k:∀ {H1},Kq K Z' H H1->Kq K Z H H1:=λ k a o e=>(k a o e).imp id (Or.imp (And.imp (z a) id) id)
 ⟨λ H i h=>y.go H i (k h),λ H i h=>y.stop H i (k h),λ H i x H' h hi hy=>let ⟨l,z1,e,o⟩:=y.yld H i x H' (k h) hi hy;⟨l,z1,e,λ K' Z' hk hz=>o K' Z' hk λ a q=>(hz a q).imp (z a) id⟩⟩
theorem Ys (hal:∀ i,M.al i=[]) (hg:∀ B g,Gd (M.at B g) [] is tg asg) (hq:tS M (E3 F vs asg body) D σ H):Ft (tI M F vs) tg (tX M body) D σ H:=by
 obtain ⟨ρ,g,rep,q⟩:=hq;refine ⟨ρ,g,rep,?_⟩;unfold E3 at q;revert q;cases F ρ with
 | no=>exact id
 | exc c=>exact λ q H' l=>rep.exc q l
 | ok p=>
  obtain ⟨els,d,ρ1⟩:=p;intro q (e:ρ1=ρ) J H' l y;subst e;obtain ⟨g1,r1,ek,h1⟩:=(rep.grow l).cooled hal d vs;exact S7 r1 (ek ▸ y.anti λ a=>Ku h1 rep.zt (.inr (by decide))) hg q
theorem bA {vI vE vo:List Nat}{test:Fb}{elt:Fx}{k n:Nat}{Q:VK}{P:Fm->Prop} (hn:σ.length=n) (hP:∀ D M',Inn M D n vI M'->P M') (hg:∀ D M',Inn M D n vI M'->Gd M' vI is tg asg)
  (hk:∀ ρ y ρ',ρ.length=n->asg y (ρ++A6 k none)=some ρ'->ρ'.take n=ρ) (his:∀ i∈is,n<=i) (hvo:∀ i∈vE,i < n->i∈vo) (hq:tE M (Ej F k asg test elt) vo σ H Q):
  Pm k (tI M F vI) tg (λ σ H Q=>∃ M',P M'/\tT M' test σ H Q) (λ σ H Q=>∃ M',P M'/\tE M' elt vE σ H Q) σ H Q:=by
 obtain ⟨ρ,g,rep,q⟩:=hq;refine ⟨ρ,g,rep,?_⟩;obtain rfl:n=ρ.length:=hn.symm.trans rep.len.symm;unfold Ej at q;revert q;cases F ρ with
 | no=>exact id
 | exc c=>exact id
 | ok p=>
  obtain ⟨els,d,ρ1⟩:=p;intro q (e:ρ1=ρ) J H' l y;subst e;exact wU (rep.grow l) (y.anti λ a=>Fm.z_to rep.zt (.inr (by decide))) hP hg (λ y ρ'=>hk _ y ρ' rfl) his hvo (OutE.mono (OutE.from l q) λ p q e v H2 l2 t=>q e v H2 (l.trans l2) (t.back λ _=>l.back))
theorem Xm {lo:Int}{n:Nat}:Yl K Z H (N5 lo n) (KA lo n):=by
 have e:(KA lo n).length=n:=by simp [KA]
 refine ⟨λ _ i _ h=>by rw [e] at h;exact h,λ _ i _ h=>by rw [e] at h;exact h,λ H i x H' _ h hy=>?_⟩;obtain ⟨rfl,rfl⟩:=hy;rw [e] at h;exact ⟨Le.refl,.int (lo + i),by simp [KA,h],λ _ _ _ _=>.int _⟩
theorem uE {lo:Int}{n:Nat}:Yl K Z H (Qp lo n) (GW lo n):=by
 have e:(GW lo n).length=n:=by simp [GW]
 refine ⟨λ _ i _ h=>by rw [e] at h;exact h,λ _ i _ h=>by rw [e] at h;exact h,λ H i x H' _ h hy=>?_⟩;obtain ⟨rfl,rfl⟩:=hy;rw [e] at h;exact ⟨Le.refl,.int (lo - (i:Nat)),by simp [GW,h],λ _ _ _ _=>.int _⟩
theorem yj {z:Str}:Yl K Z H (UZ z) (signs z):=by
 have e:(signs z).length=z.cps.size:=by simp [signs]
 refine ⟨λ _ i _ h=>by rw [e] at h;exact h,λ _ i _ h=>by rw [e] at h;exact h,λ H i x H' _ h hy=>?_⟩;obtain ⟨rfl,c,hc,rfl⟩:=hy;exact ⟨Le.refl,.str ⟨#[c]⟩,by unfold signs;rw [BO,Ui,hc];rfl,λ _ _ _ _=>.str _⟩
structure Sq (K:Kx) (Z:Addr->Prop) (H0:Hp) (a:Addr) (xs:List PV) (S:Hp->List V->Prop):Prop where
 at':∀ H,Kp K Z H0 H->∃ ws,S H ws/\ws.length=xs.length/\∀ K' Z',K.Le K' H0->(∀ a,Z' a->Z a\/H0 a=none)->IsL K' H Z' xs ws
theorem Sq.lst (h:Is K H0 Z (.lst xs) (.ref a)):Sq K Z H0 a xs λ H ws=>Br K.K H a ws:=⟨λ H k=>by
 obtain ⟨b,ws,e,n,r,l⟩:=h.lst;cases e;exact ⟨ws,.inl (.inl (k.rd (o:=.lst ws) r trivial n)),l.length,λ K' Z' hk hz=>l.move k hk hz⟩⟩
theorem Sq.tup (h:Is K H0 Z (.tup xs) (.ref a)):Sq K Z H0 a xs λ H ws=>H a=some (.tup ws):=⟨λ H k=>by
 obtain ⟨b,ws,e,r,l⟩:=h.tupE;cases e;exact ⟨ws,k.any r id (λ z=>z.elim) λ _ _ z=>(nomatch z),l.length,λ K' Z' hk hz=>l.move k hk hz⟩⟩
theorem Pr {S:Hp->List V->Prop} (s:Sq K Z H0 a xs S) (hl:els.length=xs.length) (go:∀ H i,i < xs.length->∀ ws,S H ws->ws.length=xs.length->J.go i H) (st:∀ H i,xs.length<=i->∀ ws,S H ws->ws.length=xs.length->J.stop i H)
  (y:∀ H i x H',i < xs.length->J.yld i H x H'->∀ ws,S H ws->ws.length=xs.length->Le H H'/\∃ y,els[i]?=some y/\∀ K Z',IsL K H Z' xs ws->Is K H' Z' y x):Yl K Z H0 J els:=
 ⟨λ H i k hi=>let ⟨ws,h,l,_⟩:=s.at' H k.kp;go H i (by omega) ws h l,λ H i k hi=>let ⟨ws,h,l,_⟩:=s.at' H k.kp;st H i (by omega) ws h l,λ H i x H' k hi hy=>by
  obtain ⟨ws,h,l,hz⟩:=s.at' H k.kp;obtain ⟨l2,z,ez,o⟩:=y H i x H' (by omega) hy ws h l;exact ⟨l2,z,ez,λ K' Z' hk q=>o K' Z' (hz K' Z' hk q)⟩⟩
theorem Jt {ws:List V} (hw:ws[i]?=some v) (hi:i < xs.length):∃ y,xs[i]?=some y/\∀ K H Z,IsL K H Z xs ws->Is K H Z y v:=⟨xs[i],by simp [hi],λ K H Z l=>by
 obtain ⟨u,e,o⟩:=Ea l (x:=xs[i]) (i:=i) (by simp [hi]);rw [hw] at e;cases e;exact o⟩
theorem yh (h:Is K H0 Z (.lst xs) (.ref a)):Yl K Z H0 (UX K.K a) xs:=
 Pr (Sq.lst h) rfl (λ H i hi ws s e=>⟨ws,ws[i]'(by omega),s,by simp⟩) (λ H i hi ws s e=>⟨ws,s,by omega⟩) λ H i x H' hi hy ws s e=>by
  obtain ⟨rfl,h⟩:=hy;obtain ⟨y,ey,o⟩:=Jt (h ws s) hi;exact ⟨Le.refl,y,ey,λ _ _=>o _ _ _⟩
theorem yk (h:Is K H0 Z (.tup xs) (.ref a)):Yl K Z H0 (UW K.K a) xs:=
 Pr (Sq.tup h) rfl (λ H i hi ws s e=>⟨ws,ws[i]'(by omega),.inl (.inl s),by simp⟩) (λ H i hi ws s e=>⟨ws,.inl (.inl s),by omega⟩) λ H i x H' hi hy ws s e=>by
  obtain ⟨rfl,h⟩:=hy;obtain ⟨y,ey,o⟩:=Jt (h ws (.inl (.inl s))) hi;exact ⟨Le.refl,y,ey,λ _ _=>o _ _ _⟩
theorem yi (h:Is K H0 Z (.lst xs) (.ref a)):Yl K Z H0 (Kj K.K a xs.length) xs.reverse:=
 Pr (Sq.lst h) (by simp) (λ H i hi ws s e=>⟨hi,ws,ws[xs.length - 1 - i]'(by omega),s,by simp⟩) (λ H i hi ws s e=>hi) λ H i x H' hi hy ws s e=>by
  obtain ⟨rfl,h⟩:=hy;obtain ⟨y,ey,o⟩:=Jt (h ws s) (by omega:xs.length - 1 - i < xs.length);exact ⟨Le.refl,y,by rw [Qj hi];exact ey,λ _ _=>o _ _ _⟩
theorem XG {x y:PV}{u v:V}{T:Addr} (hT:H T=none) (ox:Is K H Z x u) (oy:Is K H Z y v):Is K (Av H T (.tup [u,v])) Z (.tup [x,y]) (.ref T):=
 .tup BN (.cons (ox.up (E1 hT)) (.cons (oy.up (E1 hT)) .nil))
theorem yg (h:Is K H0 Z (.lst xs) (.ref a)):Yl K Z H0 (Kk K.K a) (DL 0 xs):=
 Pr (Sq.lst h) (LQ xs 0) (λ H i hi ws s e=>⟨ws,ws[i]'(by omega),s,by simp⟩) (λ H i hi ws s e=>⟨ws,s,by omega⟩) λ H i x H' hi hy ws s e=>by
  obtain ⟨T,w,hT,rfl,rfl,h⟩:=hy;obtain ⟨y,ey,o⟩:=Jt (h ws s) hi;exact ⟨E1 hT,.tup [.int i,y],by rw [LP,ey,He];rfl,λ _ _ l=>XG hT (.int _) (o _ _ _ l)⟩
theorem Xn {S S':Hp->List V->Prop} (s:Sq K Z H0 a xs S) (s':Sq K Z H0 b ys S') (go:∀ H i ws us u v,S H ws->S' H us->ws[i]?=some u->us[i]?=some v->J.go i H) (st:∀ H i ws us,S H ws->S' H us->(ws.length<=i\/us.length<=i)->J.stop i H)
  (y:∀ H i x H',J.yld i H x H'->∃ T u v,H T=none/\x=.ref T/\H'=Av H T (.tup [u,v])/\∀ ws us,S H ws->S' H us->ws[i]?=some u/\us[i]?=some v):Yl K Z H0 J (B9 xs ys):=by
 refine ⟨λ H i k hi=>?_,λ H i k hi=>?_,λ H i x H' k hi hy=>?_⟩
 all_goals
  obtain ⟨ws,h,l,hz⟩:=s.at' H k.kp;obtain ⟨us,h',l',hz'⟩:=s'.at' H k.kp;have e1:=l;have e2:=l';rw [Z1] at hi
 ·exact go H i ws us (ws[i]'(by omega)) (us[i]'(by omega)) h h' (by simp) (by simp)
 ·exact st H i ws us h h' (by omega)
 ·obtain ⟨T,u,v,hT,rfl,rfl,hh⟩:=y H i x H' hy;obtain ⟨w1,w2⟩:=hh ws us h h';obtain ⟨y1,g1,o1⟩:=Jt w1 (by omega:i < xs.length);obtain ⟨y2,g2,o2⟩:=Jt w2 (by omega:i < ys.length);exact ⟨E1 hT,.tup [y1,y2],Zz _ _ _ _ _ g1 g2,λ K' Z' hk q=>XG hT (o1 _ _ _ (hz K' Z' hk q)) (o2 _ _ _ (hz' K' Z' hk q))⟩
theorem yl (h:Is K H0 Z (.lst xs) (.ref a)) (h':Is K H0 Z (.lst ys) (.ref b)):Yl K Z H0 (Ki K.K a b) (B9 xs ys):=
 Xn (Sq.lst h) (Sq.lst h') (λ H i ws us u v s s' e e'=>⟨ws,us,u,v,s,s',e,e'⟩) (λ H i ws us s s' h=>⟨ws,us,s,s',h⟩) λ H i x H' hy=>hy
theorem uF (h:Is K H0 Z (.tup xs) (.ref a)) (h':Is K H0 Z (.tup ys) (.ref b)):Yl K Z H0 (Kh a b) (B9 xs ys):=
 Xn (Sq.tup h) (Sq.tup h') (λ H i ws us u v s s' e e'=>⟨ws,us,u,v,s,s',e,e'⟩) (λ H i ws us s s' h=>⟨ws,us,s,s',h⟩) λ H i x H' hy=>hy
theorem kh (hq:tI M (CT Bn fa) vs' σ H R):Ws (tL M fa vs) σ H R:=by
 obtain ⟨ρ,g,rep,q⟩:=hq;refine I0 rep q λ xs ws H1 G l r f t q=>?_;replace t:=t.vw λ d a h ga=>rep.zdom h (f a ga);dsimp only at q;split at q
 ·rename_i i j e;unfold Bn at e;split at e
  ·split at e
   ·rename_i hb;cases e;cases t with
    | cons h t=>
     cases t;rw [h.sv rfl];rw [qh] at q;exact ⟨_,rfl,hb.1,hb.2,q rfl _ H1 l Xm⟩
   ·cases e
  ·cases e
 ·exact q.elim
theorem kj (hq:tI M (CT Lb fa) vs' σ H R):Wt (tL M fa vs) σ H R:=by
 obtain ⟨ρ,g,rep,q⟩:=hq;refine I0 rep q λ xs ws H1 G l r f t q=>?_;replace t:=t.vw λ d a h ga=>rep.zdom h (f a ga);dsimp only at q;split at q
 ·rename_i i j e;unfold Lb at e;split at e
  ·split at e
   ·rename_i hb;cases e;cases t with
    | cons h t=>
     cases t with
     | cons h' t=>
      cases t;rw [h.sv rfl,h'.sv rfl];exact ⟨_,_,rfl,hb,q rfl _ H1 l Xm⟩
   ·cases e
  ·cases e
 ·exact q.elim
theorem kf (hq:tI M (HW fa) vs' σ H R):Wq (tL M fa vs) σ H R:=by
 obtain ⟨ρ,g,rep,q⟩:=hq;refine I0 rep q λ xs ws H1 G l r f t q=>?_;replace t:=t.vw λ d a h ga=>rep.zdom h (f a ga);dsimp only at q;split at q
 ·rename_i i j e;unfold M9 at e;split at e
  ·split at e
   ·rename_i hb;obtain ⟨rfl,hb⟩:=hb;cases e;cases t with
    | cons h t=>
     cases t with
     | cons h' t=>
      cases t with
      | cons h'' t=>
       cases t;rw [h.sv rfl,h'.sv rfl,h''.sv rfl];exact ⟨_,_,rfl,hb,q rfl _ H1 l uE⟩
   ·cases e
  ·cases e
 ·exact q.elim
theorem Ww (hq:tI M (C0 f) vs σ H R):JZ M.K (tE M f vs) σ H R:=by
 obtain ⟨ρ,g,rep,q⟩:=hq;refine ER rep q λ x d v H1 l r t q=>?_;have t:=rep.vw t;cases x with
 | lst xs=>
  obtain ⟨a,ws,rfl,_,h,_⟩:=t.lst;exact .inl ⟨a,rfl,.inl ⟨⟨ws,.inl (.inl h)⟩,q rfl _ H1 l (yh t)⟩⟩
 | tup xs=>
  obtain ⟨a,ws,rfl,h,_⟩:=t.tupE;exact .inl ⟨a,rfl,.inr ⟨⟨ws,.inl (.inl h)⟩,q rfl _ H1 l (yk t)⟩⟩
 | str z=>
  dsimp only at q;split at q
  ·rename_i ha;exact .inr ⟨z,t.sv rfl,ha,q rfl _ H1 l yj⟩
  ·exact q.elim
 | _=>exact q.elim
theorem JY {w:Vw} (hq:tI M (CA w fa) vs σ H R):xb w M.K (tL M fa vs) σ H R:=by
 obtain ⟨ρ,g,rep,q⟩:=hq;have gg:tL M fa vs σ H λ ws H1=>xb w M.K (λ _ H Q=>Q ws H) σ H1 R:=by
  refine I0 rep q λ xs ws H1 G l r f t q=>?_;have t:=t.to (c:=if CP xs=true then om else 0) (z:=M.z g vs) (λ e d a=>Fm.z_to r.zt) (λ d a h ga=>rep.zdom h (f a ga)) λ p hp=>by
   split
   ·rename_i h;exact .inl (Of h p hp).symm
   ·exact .inr (by decide)
  rename_i t0;clear t0;dsimp only at q;generalize (if CP xs=true then om else 0)=c at q t;generalize xs.map (·.1)=ps at q t;unfold Iu at q;split at q
  ·rename_i els e;replace q:∀ J,Yl (M.k g) (M.z g vs c) H1 J els->R J H1:=λ J=>q rfl J H1 l;split at e
   all_goals cases e
   ·cases t with
    | cons h t=>
     cases t;obtain ⟨a,ws,rfl,_,hr,il⟩:=h.lst;exact ⟨a,ws,rfl,.inl (.inl hr),by rw [il.length];exact q _ (yi h)⟩
   ·cases t with
    | cons h t=>
     cases t;obtain ⟨a,ws,rfl,_,hr,_⟩:=h.lst;exact ⟨a,ws,rfl,.inl (.inl hr),q _ (yg h)⟩
   ·cases t with
    | cons h t=>
     cases t with
     | cons h' t=>
      cases t;obtain ⟨a,ws,rfl,_,hr,_⟩:=h.lst;obtain ⟨b,us,rfl,_,hr',_⟩:=h'.lst;exact ⟨a,b,ws,us,rfl,.inl ⟨.inl (.inl hr),.inl (.inl hr'),q _ (yl h h')⟩⟩
   ·cases t with
    | cons h t=>
     cases t with
     | cons h' t=>
      cases t;obtain ⟨a,ws,rfl,hr,_⟩:=h.tupE;obtain ⟨b,us,rfl,hr',_⟩:=h'.tupE;exact ⟨a,b,ws,us,rfl,.inr ⟨hr,hr',q _ (uF h h')⟩⟩
  ·exact q.elim
 cases w <;> exact gg
end
end QQ
namespace L2
open PySem PySem.Spec PyProof.Rows
section
variable {κ:Type} [DecidableEq κ]
def AM (kvs:List (κ×V)) (k:κ):Option V:=(kvs.find? λ kv=>decide (kv.1=k)).map (·.2)
def Be (kvs:List (κ×V)) (k:κ) (v:V):List (κ×V):=
 if (kvs.any λ kv=>decide (kv.1=k))=true then kvs.map (λ kv=>if kv.1=k then (kv.1,v) else kv) else kvs++[(k,v)]
theorem FN {p:κ×V}{r:List (κ×V)}{k:κ} (e:p.1=k):AM (p::r) k=some p.2:=by simp [AM,Lo,e]
theorem FL {p:κ×V}{r:List (κ×V)}{k:κ} (e:¬ p.1=k):AM (p::r) k=AM r k:=by simp [AM,Lo,e]
theorem OA (k:κ):∀ kvs:List (κ×V),(kvs.any λ kv=>decide (kv.1=k))=(AM kvs k).isSome
 | []=>rfl
 | p::r=>by
  rw [Ng];by_cases e:p.1=k
  ·simp only [FN e,decide_eq_true e,Bool.true_or,qD]
  ·rw [FL e,decide_eq_false e,TQ];exact OA k r
theorem Zm (k j:κ) (y:V):∀ kvs:List (κ×V),AM (kvs.map λ kv=>if kv.1=k then (kv.1,y) else kv) j=(AM kvs j).map λ x=>if j=k then y else x
 | []=>rfl
 | p::r=>by
  have ih:=Zm k j y r;rw [AR];by_cases h:p.1=k
  ·rw [if_pos h];by_cases e:p.1=j
   ·rw [FN (p:=(p.1,y)) e,FN e,Hh,if_pos (e.symm.trans h)]
   ·rw [FL (p:=(p.1,y)) e,FL e,ih]
  ·rw [if_neg h];by_cases e:p.1=j
   ·rw [FN (p:=p) e,FN e,Hh,if_neg (λ z=>h (e.trans z))]
   ·rw [FL (p:=p) e,FL e,ih]
theorem Vv (k j:κ) (y:V):∀ kvs:List (κ×V),AM kvs k=none->AM (kvs++[(k,y)]) j=if j=k then some y else AM kvs j
 | [],_=>by
  by_cases e:k=j
  ·rw [if_pos e.symm];exact FN (p:=(k,y)) e
  ·rw [if_neg (λ z=>e z.symm)];exact FL (p:=(k,y)) e
 | p::r,hn=>by
  rw [Hi];have hk:¬ p.1=k:=λ z=>by rw [FN z] at hn;cases hn
  rw [FL hk] at hn;have ih:=Vv k j y r hn;by_cases e:p.1=j
  ·rw [FN e,FN e,if_neg (λ z=>hk (e.trans z))]
  ·rw [FL e,FL e,ih]
theorem Zv (kvs:List (κ×V)) (k j:κ) (y:V):AM (Be kvs k y) j=if j=k then some y else AM kvs j:=by
 unfold Be;by_cases a:(kvs.any λ kv=>decide (kv.1=k))=true
 ·rw [if_pos a,Zm];rw [OA] at a;by_cases e:j=k
  ·obtain ⟨x,hx⟩:=jl2.mp a;rw [if_pos e,e,hx,Hh,if_pos rfl]
  ·rw [if_neg e];cases AM kvs j with
   | none=>rfl
   | some x=>rw [Hh,if_neg e]
 ·rw [if_neg a];refine Vv k j y kvs ?_;rw [OA] at a;cases q:AM kvs k with
  | none=>rfl
  | some x=>rw [q] at a;exact (a rfl).elim
theorem NO (kvs:List (κ×V)) (k:κ) (v:V):(Be kvs k v).length<=kvs.length + 1:=by
 unfold Be;split
 ·rw [Ax];omega
 ·rw [Bm,AY,JO];omega
theorem RelO.isSome_eq {o:Option V}{u:Option Ae} (r:RelO o u):o.isSome=u.isSome:=by
 cases o with
 | none=>cases u with
  | none=>rfl
  | some _=>exact (show False from r).elim
 | some _=>cases u with
  | none=>exact (show False from r).elim
  | some _=>rfl
theorem KV.val {kvs:List (κ×V)}{vs:List (κ×Ae)} (r:KV kvs vs) (k:κ):RelO (AM kvs k) (Jw vs k):=by
 unfold KV at r;induction r with
 | nil=>exact True.intro
 | @cons p q ps qs h t ih=>
  obtain ⟨h1,h2⟩:=h;by_cases e:p.1=k
  ·have e':q.1=k:=h1.symm.trans e;have b:Jw (q::qs) k=some q.2:=by simp [Jw,Lo,e']
   rw [FN e,b];exact h2
  ·have e':¬ q.1=k:=λ z=>e (h1.trans z);have b:Jw (q::qs) k=Jw qs k:=by simp [Jw,Lo,e']
   rw [FL e,b];exact ih
theorem KV.any {kvs:List (κ×V)}{vs:List (κ×Ae)} (r:KV kvs vs) (k:κ):(kvs.any λ kv=>decide (kv.1=k))=vs.any λ kv=>decide (kv.1=k):=by
 unfold KV at r;induction r with
 | nil=>rfl
 | cons h t ih=>rw [Ng,Ng,ih,h.1]
theorem KV.repl {kvs:List (κ×V)}{vs:List (κ×Ae)} (r:KV kvs vs) (k:κ) {y:V}{u:Ae} (ry:RelV y u):
  KV (kvs.map λ kv=>if kv.1=k then (kv.1,y) else kv) (vs.map λ kv=>if kv.1=k then (kv.1,u) else kv):=by
 unfold KV at r ⊢;induction r with
 | nil=>exact .nil
 | @cons p q ps qs h t ih=>
  rw [AR,AR];refine .cons ?_ ih;obtain ⟨h1,h2⟩:=h;by_cases e:p.1=k
  ·rw [if_pos e,if_pos (h1.symm.trans e)];exact ⟨h1,ry⟩
  ·rw [if_neg e,if_neg (λ z=>e (h1.trans z))];exact ⟨h1,h2⟩
theorem KV.put {kvs:List (κ×V)}{vs:List (κ×Ae)} (r:KV kvs vs) (k:κ) {y:V}{u:Ae} (ry:RelV y u):KV (Be kvs k y) (stored vs k u):=by
 unfold Be stored;rw [r.any k];by_cases e:(vs.any λ kv=>decide (kv.1=k))=true
 ·rw [if_pos e,if_pos e];exact r.repl k ry
 ·rw [if_neg e,if_neg e];exact Paired.snoc r ⟨rfl,ry⟩
theorem KV.length {kvs:List (κ×V)}{vs:List (κ×Ae)} (r:KV kvs vs):kvs.length=vs.length:=Paired.length r
end
theorem M6 {P:AB}{w:A9}{k:A0}{u:Ae} (r:RelV (kV k) u):(C7 P w).is k u=true:=by
 cases k with
 | inl i=>obtain ⟨t,e⟩:=(show ∃ t,u=Value.int i t from r);subst e;exact hZ P w i t
 | inr x=>obtain ⟨t,e⟩:=(show ∃ t,u=Value.str x t from r);subst e;exact lb P w x t
theorem ZG {P:AB}{w:A9}:∀ {ks:List A0}{us:List Ae},Vals (ks.map kV) us->ItemsAre (C7 P w) ks us
 | [],_,r=>by rw [Hf] at r;cases r;exact .nil
 | k::ks,_,r=>by
  rw [AR] at r;cases r with
  | cons h t=>exact .cons (M6 h) (ZG t)
abbrev KT (H:Hp):List (List A0×V)->List (List A0×Addr×Ae)->Prop:=Bj λ p q=>p.1=q.1/\H q.2.1=some (.tup (p.1.map kV))/\RelV p.2 q.2.2
theorem KT.val {H:Hp}{kvs:List (List A0×V)}{xs:List (List A0×Addr×Ae)} (r:KT H kvs xs) (k:List A0):RelO (AM kvs k) ((atKey xs k).map (·.2)):=by
 induction r with
 | nil=>exact True.intro
 | @cons p q ps qs h t ih=>
  obtain ⟨h1,_,h2⟩:=h;by_cases e:p.1=k
  ·have e':q.1=k:=h1.symm.trans e;have b:atKey (q::qs) k=some q.2:=by simp [atKey,Lo,e']
   rw [FN e,b];exact h2
  ·have e':¬ q.1=k:=λ z=>e (h1.trans z);have b:atKey (q::qs) k=atKey qs k:=by simp [atKey,Lo,e']
   rw [FL e,b];exact ih
theorem KT.repl {H:Hp}{kvs:List (List A0×V)}{xs:List (List A0×Addr×Ae)} (r:KT H kvs xs) (k:List A0) {y:V}{u:Ae} (ry:RelV y u):
  KT H (kvs.map λ kv=>if kv.1=k then (kv.1,y) else kv) (xs.map (putAt k u)):=by
 induction r with
 | nil=>exact .nil
 | @cons p q ps qs h t ih=>
  rw [AR,AR];refine .cons ?_ ih;obtain ⟨h1,h2,h3⟩:=h;unfold putAt;by_cases e:p.1=k
  ·rw [if_pos e,if_pos (h1.symm.trans e)];exact ⟨h1,h2,ry⟩
  ·rw [if_neg e,if_neg (λ z=>e (h1.trans z))];exact ⟨h1,h2,h3⟩
theorem KT.put {H:Hp}{kvs:List (List A0×V)}{xs:List (List A0×Addr×Ae)} (r:KT H kvs xs) (k:List A0) {b:Addr}{y:V}{u:Ae} (hb:H b=some (.tup (k.map kV))) (ry:RelV y u):
  KT H (Be kvs k y) (storedH xs k b u):=by
 have e:(kvs.any λ kv=>decide (kv.1=k))=(atKey xs k).isSome:=by
  rw [OA,(r.val k).isSome_eq,TZ]
 unfold Be storedH;rw [e];by_cases q:(atKey xs k).isSome=true
 ·rw [if_pos q,if_pos q];exact r.repl k ry
 ·rw [if_neg q,if_neg q];exact Paired.snoc r ⟨rfl,hb,ry⟩
theorem KT.keeps {H H':Hp}{kvs:List (List A0×V)}{xs:List (List A0×Addr×Ae)} (r:KT H kvs xs) (ht:∀ b ys,H b=some (.tup ys)->H' b=some (.tup ys)):KT H' kvs xs:=
 Paired.mapP r λ _ _ z=>⟨z.1,ht _ _ z.2.1,z.2.2⟩
section
variable {P:AB}{w:A9}{H:Hp}{h:Heap}{a:Addr}
theorem W7 {u:HO} (ok:HOk P w H h) (e:Rd H a u):zxk P w H h a u:=e.ok ok
theorem M7 {kvs:List (A0×V)} (ok:HOk P w H h) (e:Rd H a (.dK kvs)):kvs.length<=Au/\(a == Fc)=false/\∃ vs,KV kvs vs/\h.DictOf (C7 P w) a vs:=
 show zxk P w H h a (.dK kvs) from W7 ok e
theorem dk_of {kvs:List (A0×V)} (ok:HOk P w H h) (e:H a=some (.dK kvs)):kvs.length<=Au/\(a == Fc)=false/\∃ vs,KV kvs vs/\h.DictOf (C7 P w) a vs:=M7 ok (.inl e)
theorem MQ {ks:List A0} (ok:HOk P w H h) (e:H a=some (.tup (ks.map kV))):(Gw (C7 P w)).is h ks a:=by
 obtain ⟨_,its,r,o,h1,h2,n,h3⟩:=(show zxk P w H h a (.tup (ks.map kV)) from ok a _ e)
 exact ⟨o,its.toArray,n,h1,h2,h3,by simpa using ZG r⟩
theorem M8 {kvs:List (List A0×V)} (ok:HOk P w H h) (e:Rd H a (.dT kvs)):kvs.length<=Au/\(a == Fc)=false /\
  ∃ xs,KT H kvs xs/\h.DictOfH (Gw (C7 P w)) a xs:=by
 obtain ⟨z,y,xs,r,o,es,ep,h1,h2,h3,h4,h5⟩:=(show zxk P w H h a (.dT kvs) from W7 ok e)
 refine ⟨z,y,xs,r,o,es,ep,h1,h2,h3,h4,λ x hx=>?_,h5⟩;have all:∀ {l:List (List A0×V)}{m:List (List A0×Addr×Ae)},KT H l m->∀ x∈m,(Gw (C7 P w)).is h x.1 x.2.1:=by
  intro l m q;induction q with
  | nil=>intro x hx;exact nomatch hx
  | @cons p q ps qs hq t ih=>
   intro x hx;rcases jb8.mp hx with e | hx
   ·subst e;exact MQ ok (by rw [<- hq.1];exact hq.2.1)
   ·exact ih x hx
 exact all r x hx
theorem jM {kvs:List (List A0×V)} (ok:HOk P w H h) (e:H a=some (.dT kvs)):kvs.length<=Au/\(a == Fc)=false /\
  ∃ xs,KT H kvs xs/\h.DictOfH (Gw (C7 P w)) a xs:=M8 ok (.inl e)
end
def FH (H:Hp) (a:Addr) (y:V) (r:Option V):Prop:=
 (∃ kvs k,Rd H a (.dK kvs)/\y=kV k/\r=AM kvs k)\/∃ kvs k b,Rd H a (.dT kvs)/\y=.ref b/\H b=some (.tup (k.map kV))/\r=AM kvs k
def DPut (H:Hp) (a:Addr) (y v:V) (H':Hp):Prop:=
 (∃ kvs k,H a=some (.dK kvs)/\y=kV k/\kvs.length < Au/\H'=Av H a (.dK (Be kvs k v))) \/
 ∃ kvs k b,H a=some (.dT kvs)/\y=.ref b/\H b=some (.tup (k.map kV))/\kvs.length < Au/\H'=Av H a (.dT (Be kvs k v))
theorem DPut.t {H:Hp}{a b:Addr}{kvs:List (List A0×V)}{k:List A0}{v:V} (e:H a=some (.dT kvs)) (eb:H b=some (.tup (k.map kV))) (hl:kvs.length < Au):
  DPut H a (.ref b) v (Av H a (.dT (Be kvs k v))):=.inr ⟨kvs,k,b,e,rfl,eb,hl,rfl⟩
section
variable {X:Cx}{pins:List (Addr×Obj)}{σ:St}{H:Hp}{s:Ai}{a:Addr}{y v:V}{u r:Ae}{o:Option V}{A:Bi}{E:Ae->Ai->Prop}
theorem Inv.big (I:Inv X pins σ H s):Fc < s.heap.objs.size:=by
 have h:ED < s.heap.objs.size:=(I.mod.glob.keeps I.bk).lt;exact qg (by decide) h
theorem du {Q:Ae->Ai->Prop} (hu:A.units + 1 < Cv) (I:Inv X pins σ H s) (g:FH H a y (some v)) (ry:RelV y u) (h:∀ w' s',Inv X pins σ H s'->RelV v w'->Q w' s'):
  Al (Ay X.prog X.w) A (ID (.ref a) u) Q E s:=by
 rcases g with ⟨kvs,k,e,ey,l⟩ | ⟨kvs,k,b,e,ey,eb,l⟩
 ·subst ey;obtain ⟨z,hd,vs,rel,dd⟩:=M7 I.hok e;obtain ⟨w',hw,rw'⟩:=RelO.some_of (v:=v) (o:=Jw vs k) (by rw [l];exact rel.val k);exact wpAny_getItem_of (M6 ry) dd.mapOf hw (h w' _ (I.tok _) rw')
 ·subst ey;cases (show u=Value.ref b from ry);obtain ⟨z,hd,xs,rel,dd⟩:=M8 I.hok e;obtain ⟨w',hw,rw'⟩:=RelO.some_of (v:=v) (o:=(atKey xs k).map (·.2)) (by rw [l];exact rel.val k);obtain ⟨p,hp,hp2⟩:=jc1.mp hw;refine wpAny_getItem_heap (ON hu) (MQ I.hok eb) dd hp ?_;rw [hp2];exact h w' _ (I.tok _) rw'
theorem Uq {Q:Ae->Ai->Prop} (hu:A.units + 1 < Cv) (I:Inv X pins σ H s) (g:FH H a y o) (ry:RelV y u) (h:∀ s',Inv X pins σ H s'->Q (.bool o.isSome) s'):
  Al (Ay X.prog X.w) A (Cc .In u (.ref a)) Q E s:=by
 rcases g with ⟨kvs,k,e,ey,l⟩ | ⟨kvs,k,b,e,ey,eb,l⟩
 ·subst ey;obtain ⟨z,hd,vs,rel,dd⟩:=M7 I.hok e;refine wpAny_in_of (M6 ry) hd dd.mapOf ?_;rw [<- (rel.val k).isSome_eq,<- l];exact h _ (I.tok _)
 ·subst ey;cases (show u=Value.ref b from ry);obtain ⟨z,hd,xs,rel,dd⟩:=M8 I.hok e;refine wpAny_in_heap (ON hu) (MQ I.hok eb) hd dd ?_;have q:=(rel.val k).isSome_eq;rw [TZ] at q;rw [<- q,<- l];exact h _ (I.tok _)
theorem wX {Q:Ae->Ai->Prop} (hu:A.units + 1 < Cv) (I:Inv X pins σ H s) (g:FH H a y o) (ry:RelV y u) (h:∀ s',Inv X pins σ H s'->Q (.bool (!o.isSome)) s'):
  Al (Ay X.prog X.w) A (Cc .NotIn u (.ref a)) Q E s:=by
 rcases g with ⟨kvs,k,e,ey,l⟩ | ⟨kvs,k,b,e,ey,eb,l⟩
 ·subst ey;obtain ⟨z,hd,vs,rel,dd⟩:=M7 I.hok e;refine wpAny_notIn_of (M6 ry) hd dd.mapOf ?_;rw [<- (rel.val k).isSome_eq,<- l];exact h _ (I.tok _)
 ·subst ey;cases (show u=Value.ref b from ry);obtain ⟨z,hd,xs,rel,dd⟩:=M8 I.hok e;refine wpAny_notIn_heap (ON hu) (MQ I.hok eb) hd dd ?_;have q:=(rel.val k).isSome_eq;rw [TZ] at q;rw [<- q,<- l];exact h _ (I.tok _)
theorem XI {h':Heap}{t':Nat}{ob:HO} (I:Inv X pins σ H s) (mu:N4 (H a)) (hs:Jz a s.heap h') (he:∃ q,h'.get? a=some q) (new:zxk X.prog X.w (Av H a ob) h' a ob):
  Inv X pins σ (Av H a ob) { s with heap:=h',toks:=t' }:=
 I.write (x:=a) (e:=a) mu (.inl rfl) (λ b q hb z=>(hs.2 b hb).trans z) he new
theorem jY {P:AB}{w:A9}{H':Hp}{h':Heap}{kvs:List (A0×V)}{vs:List (A0×Ae)} (z:kvs.length<=Au) (hd:(a == Fc)=false) (rel:KV kvs vs) (dd:h'.DictOf (C7 P w) a vs):
  zxk P w H' h' a (.dK kvs):=⟨z,hd,vs,rel,dd⟩
theorem dM {H':Hp}{Q:Unit->Ai->Prop} (hu:A.units + 1 < Cv) (I:Inv X pins σ H s) (g:DPut H a y v H') (ry:RelV y u) (rv:RelV v r) (h:∀ s',Inv X pins σ H' s'->Q () s'):
  Al (Ay X.prog X.w) A (setItem (.ref a) u r) Q E s:=by
 rcases g with ⟨kvs,k,e,ey,l,eH⟩ | ⟨kvs,k,b,e,ey,eb,l,eH⟩
 ·subst ey eH;obtain ⟨z,hd,vs,rel,dd⟩:=dk_of I.hok e;have hz:vs.length<=Au:=by rw [<- rel.length];exact z
  have hl:(Be kvs k v).length<=Au:=by have:=NO kvs k v;omega
  refine wpAny_setItem_pairs (hsz:=hz) (M6 ry) dd λ h' dd' hs=>h _ ?_;have he:∃ q,h'.get? a=some q:=let ⟨q,_,_,hq,_⟩:=dd';⟨q,hq⟩;exact XI I (by rw [e];exact True.intro) hs he (jY hl hd (rel.put k rv) dd')
 ·subst ey eH;cases (show u=Value.ref b from ry);obtain ⟨z,hd,xs,rel,dd⟩:=jM I.hok e;have hz:xs.length<=Au:=by rw [<- Paired.length rel];exact z
  have hl:(Be kvs k v).length<=Au:=by have:=NO kvs k v;omega
  refine wpAny_setItem_heap (hsz:=hz) (ON hu) (MQ I.hok eb) dd λ h' dd' hs=>h _ ?_;obtain ⟨q,es,ep,hq,h2,h3,h4,_,h5⟩:=dd';refine XI I (by rw [e];exact True.intro) hs ⟨q,hq⟩ ⟨hl,hd,_,(rel.put k eb rv).keeps λ c ys ec=>?_,q,es,ep,hq,h2,h3,h4,h5⟩;rw [AG (jy ec e (λ z=>nomatch z))];exact ec
end
section
variable {X:Cx}{pins:List (Addr×Obj)}{σ:St}{H:Hp}{s:Ai}{a:Addr}{kvs:List (A0×V)}{k:A0}{u:Ae}{A:Bi}{E:Ae->Ai->Prop}
end
theorem hJ {X:Cx}{pins:List (Addr×Obj)}{σ:St}{H:Hp}{s:Ai}{a:Addr}{y:V}{o:Option V} (I:Inv X pins σ H s) (g:FH H a y o):s.TypeIs (.ref a) "dict" := by
 rcases g with ⟨kvs,k,e,_,_⟩ | ⟨kvs,k,b,e,_,_,_⟩
 ·obtain ⟨_,_,vs,_,dd⟩:=M7 I.hok e;exact dd.typeIs
 ·obtain ⟨_,_,xs,_,dd⟩:=M8 I.hok e;exact dd.typeIs
section
variable {X:Cx}{o i e value:Expr}{pos pos' tpos:Pos}{td ty tv:TE}
end
theorem gU {P:AB}{w:A9}{H:Hp} (h:Heap) (hb:Fc < h.objs.size):zxk P w H (h.push { cls:=.type "dict",data:=.dict #[] }) h.objs.size (.dT []):=
 ⟨FC _,beq_eq_false_iff_ne.mpr (Et (Cd hb)),[],.nil,_,#[],0,BA _ rfl,⟨rfl,rfl,rfl⟩,rfl,rfl,TR⟩
def vT:TE:=λ _ H Q=>∀ p,H p=none->Q (.ref p) (Av H p (.dT []))
section
variable {X:Cx}{pos:Pos}
theorem bN:PE X (.Dict [] [] pos) vT:=λ pins s σ H Q I h=>
 wpAny_Dict_empty ⟨.ref s.heap.objs.size,_,I.laid (a:=s.heap.objs.size) (o:=.dT []) (t':=s.toks) (λ _ _ q=>Ba _ q) (A5 _) (gU s.heap I.big),rfl,h _ (I.hok.fresh (A5 _))⟩
end
end L2
namespace PySem.SeqAt
open AutoSeq1 (wpAny_loadPart')
open MeetsSeq MeetsSeq2 MeetsSeq3 SeqRoads2
section
variable {A:Bi}{s:Ai}
end
end PySem.SeqAt
namespace QQ
open PySem PySem.Spec PyProof.Rows L2
section
variable {pg:AB}{wd:A9}{Ar:Bi}{Er:Ae->Ai->Prop}{st:Ai}
theorem dU:typeLookup (.type "list_reverseiterator") "__len__" = pure none:=by rw [typeLookup_type,builtinLookup_eq_fast];kernel_rfl
theorem gw:typeLookup (.type "list_reverseiterator") "__length_hint__" = pure (some (.builtin "list_reverseiterator.__length_hint__")):=by rw [typeLookup_type,builtinLookup_eq_fast];kernel_rfl
theorem yI {Rz':Result->Ai->Prop}{l it:Addr}{xs:Array Ae} (hd0:Ar.handled=none) (lne:l≠it) (hri:st.heap.IsRevIter it l ((xs.size:Int) - 1)) (hl:st.heap.IsList l xs) (hz:xs.size<=Au) (N:Addr) (nI:N≠it) (nl:N≠l) (rv:Ae) (c0:Nat) (hN:st.heap.get? N=some { cls:=.type "list",data:=.seq #[] c0 })
  (good:∀ hp tk out c2,(∀ b o,b≠N->b≠it->st.heap.get? b=some o->hp.get? b=some o)->hp.get? N=some { cls:=.type "list",dict:=none,data:=.seq out c2,slots:=#[] }->ItemsOf (λ i v=>xs[xs.size - 1 - i]?=some v) out xs.size->Rz' (.ok (.ret rv)) { st with heap:=hp,toks:=tk }):
  Al (Ay pg wd) Ar.in1 (OW (.ref N) (.ref it) rv) (λ z t=>match z with | .done f=>Rz' (.ok f) t | .again k=>k.quiet=true/\IC (Ay pg wd) Ar k Rz' t) (λ e t=>Rz' (.error e) t) st:=by
 have walk:=(Walks.listRev (prog:=pg) (w:=wd) (A:=Ar.in1) hd0 it l lne xs).toS;have tI:st.TypeIs (.ref it) "list_reverseiterator" := hri.typeIs;have other:Builtin.List.listSameRef (.ref N) (.ref it)=false:=by simp [Builtin.List.listSameRef,nI]
 delta OW;refine Ah (wpAny_typeOf tI ?_);rw [if_neg (by rw [other];decide)];refine Ah (R9 hri (Ah (J2 ?_)));delta Builtin.List.listLengthHint;refine Ah (OK tI dU ?_);show Al _ Ar.in1 (specialOf (Value.ref it) (Ha "__length_hint__") >>= _) _ _ _;refine Ah (OK tI gw ?_);generalize en:("list_reverseiterator.__length_hint__" : String)=nm
 wp_delta
 rw [show splitId nm=some ("list_reverseiterator","__length_hint__") from by subst en;decide +kernel];subst en;refine Ah (Mg (b:=true) tI (by rw [isSubtype_type];kernel_rfl) (Aw ?_));rw [if_neg (by decide)];refine Aw ⟨plainId_quiet F.plain_extend_loop _,codeAny_extend_loopS walk hz _ (by simp [nI,nl]) _ xs.size 0 _ _ _ rfl (FC _) ⟨FC _,by simpa using hri,hl⟩ hN (ItemsOf.nil _) λ t out c2 mv hN' all=>?_⟩;rw [Moved.eq_with mv];exact good t.heap t.toks out c2 (λ b o hb hb2 e=>mv.heap b o (by simp [hb,hb2]) e) hN' all
theorem gC {Qv:Ae->Ai->Prop}{l it:Addr}{xs:Array Ae} (hd0:Ar.handled=none) (lne:l≠it) (hri:st.heap.IsRevIter it l ((xs.size:Int) - 1)) (hl:st.heap.IsList l xs) (hz:xs.size<=Au)
  (good:∀ hp tk out c2,(∀ b o,b≠it->st.heap.get? b=some o->hp.get? b=some o)->hp.get? st.heap.objs.size=some { cls:=.type "list",dict:=none,data:=.seq out c2,slots:=#[] }->ItemsOf (λ i v=>xs[xs.size - 1 - i]?=some v) out xs.size->Qv (.ref st.heap.objs.size) { st with heap:=hp,toks:=tk }):Al (Ay pg wd) Ar (call (.type "list") [.ref it]) Qv Er st:=by
 let one:Obj:={ cls:=.type "list",data:=.seq #[] }
 refine callType_codes (Q₁:=λ v t=>v=.ref st.heap.objs.size/\t={ st with heap:=st.heap.push one }) F.called_list (F.typeCall_list_1 _) F.entry_list_init (code_list_new _ ⟨rfl,rfl⟩) λ v t made=>?_;obtain ⟨rfl,rfl⟩:=made;have hN:(st.heap.push one).get? st.heap.objs.size=some one:=BA _ rfl;refine ⟨⟨_,hN,rfl⟩,F.args_list_init_2 _ _,?_⟩;have nI:st.heap.objs.size≠it:=λ e=>by obtain ⟨o,ho,_⟩:=hri;exact DB _ (e ▸ AH ho)
 have nl:st.heap.objs.size≠l:=λ e=>by obtain ⟨o,ho,_⟩:=hl;exact DB _ (e ▸ AH ho)
 show Al _ Ar.in1.in1 (do let old<-Builtin.List.listItems (.ref st.heap.objs.size);Builtin.List.listUpdate (.ref st.heap.objs.size) (λ _=>#[]);letGo old.toList.reverse;OW (.ref st.heap.objs.size) (.ref it) .none) _ _ _;refine Ah ?_;delta Builtin.List.listItems;refine Ah (HL hN rfl (Aw ?_));show Al _ _ (updateSeq st.heap.objs.size (λ _=>#[]) >>= λ _=>letGo (#[]:Array Ae).toList.reverse >>= λ _=>OW (.ref st.heap.objs.size) (.ref it) .none) _ _ _;refine Ah (wpAny_updateSeq hN rfl (Ah (OD ?_)));have hN2:=KY (Jx (λ _=>(#[]:Array Ae))) hN rfl;have rest:∀ b o,b≠st.heap.objs.size->st.heap.get? b=some o->((st.heap.push one).update st.heap.objs.size (Jx (λ _=>(#[]:Array Ae)))).get? b=some o:=λ b o hb e=>(OP _ _ (Et hb)).trans (Ba _ e);refine yI (Ar:=Ar.in1) hd0 lne (hri.at λ o e=>rest it o (Et nI) e) (hl.at λ o e=>rest l o (Et nl) e) hz st.heap.objs.size nI nl .none _ hN2 λ hp tk out c2 hk hN' all=>?_;exact ⟨rfl,good hp tk out c2 (λ b o hb e=>by
  have hb':b≠st.heap.objs.size:=λ z=>DB _ (z ▸ AH e);exact hk b o hb' hb (rest b o hb' e)) hN' all⟩
end
section
variable {X:Cx}{σ:St}{H:Hp}{Q:VK}{pos p p2 pos2:Pos}{e a:Expr}{es:List Expr}
def CB (x:Str) (n:Nat):Str:=⟨(A6 n x.cps.toList).flatten.toArray⟩
theorem bJ:OpR X (EA .FloorDiv) (rI (λ _ j=>0 < j/\j.natAbs.log2 < 9000) λ i j=>.int (i / j)):=MV λ i j _ _ _ _ _ hc q=>by
 have h1:(0:Int) < j:=hc.1;exact floordiv_int (by omega) (by rw [Int.fdiv_eq_ediv_of_nonneg i (by omega)];exact q) (.inl (PyProof.noPylong_of_log2 hc.2))
theorem Cs {X:Cx}{e:Expr}{t t':TE} (h:PE X e t) (i:∀ σ H Q,t' σ H Q->t σ H Q):PE X e t':=λ pins s σ H Q I q=>h pins s σ H Q I (i σ H Q q)
theorem ML {X:Cx}{e:Expr}{t t':TT} (h:PT X e t) (i:∀ σ H Q,t' σ H Q->t σ H Q):PT X e t':=λ pins s σ H Q I q=>h pins s σ H Q I (i σ H Q q)
theorem Xx {X:Cx}{e:Expr}{t t':TT} (h:PW X e t) (i:∀ σ H Q,t' σ H Q->t σ H Q):PW X e t':=λ wh pins s σ H Q I q=>h wh pins s σ H Q I (i σ H Q q)
theorem Xq {X:Cx}{e:List Expr}{t t':TA} (h:PA X e t) (i:∀ σ H Q,t' σ H Q->t σ H Q):PA X e t':=λ p pins s σ H Q I q=>h p pins s σ H Q I (i σ H Q q)
theorem DT {X:Cx}{e:Stmt}{t t':TS} (h:PS X e t) (i:∀ D σ H,t' D σ H->t D σ H):PS X e t':=λ pins s σ H D I q=>h pins s σ H D I (i D σ H q)
theorem Yv {X:Cx}{e:List Stmt}{t t':TS} (h:Fj X e t) (i:∀ D σ H,t' D σ H->t D σ H):Fj X e t':=λ pins s σ H D I q=>h pins s σ H D I (i D σ H q)
theorem qk8:OpR X (EA .Add) (λ x y H Q=>∃ a b ys,x=.ref a/\y=.ref b/\SqT X.K H a []/\SqT X.K H b ys/\Q (.ref b) H):=by
 intro pins s σ H x y v u Q I rx ry h;obtain ⟨a,b,ys,rfl,rfl,ha,hb,q⟩:=h;cases rx;cases ry;obtain ⟨its,r1,p1,_⟩:=I.tuple ha;obtain ⟨its2,r2,p2,_⟩:=I.tuple hb;cases r1;obtain ⟨⟨cls,dd,data,sl⟩,ho,hc,n,hd⟩:=id p1;obtain ⟨⟨cls2,dd2,data2,sl2⟩,ho2,hc2,n2,hd2⟩:=id p2;simp only at hc hd hc2 hd2;subst hc hd hc2 hd2;exact concat_meets ⟨_,ho,rfl⟩ ⟨_,ho2,rfl⟩ Rx seq_tuple_add RJ RK (RL _ _)
  (tuple_addW0 a b _ its2.toArray n n2 dd dd2 sl sl2 rfl) ⟨ho,ho2,⟨.ref b,H,I,rfl,q⟩⟩
theorem yG:OpR X (EA .Sub) (rI (λ _ _=>True) λ i j=>.int (i - j)):=MV λ _ _ _ _ _ _ _ _ q=>sub_int q
theorem Qw (a:Array Nat):∀ (n:Nat) (b:Array Nat),(A6 n a).foldl (·++·) b=⟨b.toList++(A6 n a.toList).flatten⟩
 | 0,b=>by simp
 | n + 1,b=>by
  rw [Fh,TV,Qw a n,Fh,IZ];simp
theorem fL:OpR X (EA .Mult) (λ x y H Q=>∃ z n,x=.str z/\y=.int n/\-(2 ^ 62)<=n/\n < 2 ^ 62/\z.length * n.toNat<=Au/\Q (.str (CB z n.toNat)) H):=by
 intro pins s σ H x y v u Q I rx ry h;obtain ⟨z,n,rfl,rfl,h1,h2,h3,q⟩:=h;obtain ⟨t1,rfl⟩:=rx;obtain ⟨t2,rfl⟩:=ry;have hz:Builtin.Str.tooLong (z.length * n.toNat)=false:=by
  unfold Builtin.Str.tooLong;have h40:Au<=2 ^ 40:=by decide
  exact decide_eq_false (by omega)
 refine PySem.P.mul_str (by rw [decide_eq_false (by omega),decide_eq_false (by omega)];rfl) (λ _ _ hc=>?_) (λ _ _=>hz) ?_
 ·have hn:(1:Int)<=n:=by omega
  have hl:z.length * n.toNat<=2 ^ 62:=BD h3 (by decide);have h4:(z.length:Int) * n<=2 ^ 62:=by
   have:((z.length * n.toNat:Nat):Int)<=((2 ^ 62:Nat):Int):=jv2.mpr hl
   rw [JN,show ((n.toNat:Nat):Int)=n by omega] at this;exact this
  have h5:(2 ^ 63 - 1) / n < (z.length:Int):=hc;have h6:=Int.lt_mul_of_ediv_lt (by omega:(0:Int) < n) h5;omega
 ·by_cases c1:n < 1
  ·rw [if_pos c1];refine ⟨by decide,.str (CB z n.toNat),H,I.tok _,⟨s.toks,?_⟩,q⟩;rw [show n.toNat=0 by omega];rfl
  ·rw [if_neg c1];split
   ·rename_i c2;refine ⟨.str (CB z n.toNat),H,I,⟨t1,?_⟩,q⟩;have e:CB z n.toNat=z:=by
     unfold CB;rcases G8 _ _ ▸ c2 with c | c
     ·have:n=1:=by simpa using c
      subst this;show (⟨([z.cps.toList].flatten).toArray⟩:Str)=z;simp
     ·have e0:z.cps.toList=[]:=by
       have:z.cps.size=0:=eq_of_beq c
       exact jp4.mpr (Array.eq_empty_of_size_eq_zero this)
      rw [e0]
      have:(A6 n.toNat ([]:List Nat)).flatten=[]:=by simp
      rw [this];cases z with
      | mk a=>simp at e0;subst e0;rfl
    rw [e]
   ·refine ⟨?_,.str (CB z n.toNat),H,I.tok _,⟨s.toks,?_⟩,q⟩
    ·rw [Qw];show (#[].toList++(A6 n.toNat z.cps.toList).flatten).length<=Au;simp only [Ex,Bm,List.length_flatten,Ud,List.sum_replicate_nat];have h4:n.toNat * z.cps.size<=Au:=by rw [PQ];exact h3
     simpa using h4
    ·unfold CB;rw [Qw];simp
def BH (f:PV->Option Es):List PV->Option (List Es)
 | []=>some []
 | x::xs=>match f x,BH f xs with
  | some a,some r=>some (a::r)
  | _,_=>none
def CK:Nat->PV->Option Es
 | 0,_=>none
 | n + 1,x=>match x with
  | .non=>some .none
  | .bl b=>some (.bool b)
  | .int i=>some (.int i)
  | .str z=>if PyData.strOk z=true then some (.str z) else none
  | .lst xs=>(BH (CK n) xs).map .list
  | .tup xs=>(BH (CK n) xs).map .tuple
  | _=>none
theorem O9 {f:PV->Option Es}{n:Nat} (hf:∀ x D,f x=some D->D.canLay0=true/\D.depth<=n):∀ {xs:List PV}{Ds:List Es},BH f xs=some Ds->R4 Ds=true/\Me Ds<=n
 | [],Ds,h=>by cases h;rw [R4,Me];exact ⟨rfl,FC _⟩
 | x::xs,Ds,h=>by
  unfold BH at h;split at h
  ·rename_i a r h1 h2;cases h;have h3:=hf x a h1;have h4:=O9 hf h2;rw [R4,Me,h3.1,h4.1];exact ⟨rfl,Nat.max_le.mpr ⟨h3.2,h4.2⟩⟩
  ·cases h
theorem K5:∀ (n:Nat) (x:PV) (D:Es),CK n x=some D->D.canLay0=true/\D.depth<=n
 | 0,_,_,h=>by cases h
 | n + 1,x,D,h=>by
  unfold CK at h;cases x with
  | non=>cases h;rw [KJ,PyData.depth] <;> first | exact ⟨rfl,FC _⟩ | (intros;contradiction)
  | bl b=>cases h;rw [KJ,PyData.depth] <;> first | exact ⟨rfl,FC _⟩ | (intros;contradiction)
  | int i=>cases h;rw [KJ,PyData.depth] <;> first | exact ⟨rfl,FC _⟩ | (intros;contradiction)
  | str z=>
   dsimp only at h;split at h
   ·rename_i hz;cases h;rw [KJ,PyData.depth] <;> first | exact ⟨hz,FC _⟩ | (intros;contradiction)
   ·cases h
  | lst xs=>
   obtain ⟨Ds,e,rfl⟩:=jc1.mp h
   have:=O9 (K5 n) e
   rw [KJ,PyData.depth];exact ⟨this.1,qw this.2⟩
  | tup xs=>
   obtain ⟨Ds,e,rfl⟩:=jc1.mp h
   have:=O9 (K5 n) e
   rw [KJ,PyData.depth];exact ⟨this.1,qw this.2⟩
  | _=>cases h
theorem Py {K':Type} [DecidableEq K'] {prog:AB}{w:A9}{knd:KeyKind prog w K'}{P:AB}{w0:A9}{h:Heap}{a:Addr} (x:h.DictOf (C7 P w0) a []):h.DictOf knd a []:=by
 obtain ⟨o,es,ep,h1,h2,h3,h4,h5,h6⟩:=x;generalize hes:es.toList=l at h5;cases h5;have e:es=#[]:=jp4.mp hes;subst e;exact ⟨o,#[],ep,h1,h2,h3,by intro z hz;simp at hz,.nil,.nil⟩
theorem qtj:OpR X (Cc .Is) (λ x y H Q=>∃ i j,x=.bl i/\y=.bl j/\Q (.bl (i == j)) H):=by
 intro pins s σ H x y v u Q I rx ry h;obtain ⟨i,j,rfl,rfl,q⟩:=h;cases rx;cases ry;exact is_bool ⟨.bl _,H,I,rfl,q⟩
theorem qhl:OpR X (Cc .IsNot) (λ x y H Q=>∃ i j,x=.bl i/\y=.bl j/\Q (.bl (i != j)) H):=by
 intro pins s σ H x y v u Q I rx ry h;obtain ⟨i,j,rfl,rfl,q⟩:=h;cases rx;cases ry;exact isnot_bool ⟨.bl _,H,I,rfl,q⟩
def zM:R2:=λ x y H Q=>∃ a v,x=.ref a/\FH H a y (some v)/\Q v H
theorem yt (hu:X.A.units + 1 < Cv):IxR X zM:=by
 intro value slice pins s σ H x y v u Q I rx ry h hs;obtain ⟨a,w,rfl,g,q⟩:=h;obtain rfl:v=Value.ref a:=rx;exact tail_any (hJ I g) PySem.F.slot_dict_getitem.lookup (du hu I g ry λ w' s' I' rw'=>⟨w,H,I',rw',q⟩) hs
def Mx:V->Option Int->Option Int->Hp->VK->Prop:=λ x lo hi H Q=>∃ z,x=.str z/\z.length<=Au/\Q (.str (Txt.slice z lo hi)) H
theorem w9:SlR X Mx:=by
 intro pins s σ H x v vl vu lo hi sl Q I rx hs pl pu h;obtain ⟨z,rfl,hz,q⟩:=h;obtain ⟨t,rfl⟩:=rx;have go:∀ (l u:Option (Int×Tok)),vl=partValue l->vu=partValue u->l.map (·.1)=lo->u.map (·.1)=hi->∃ T id,typeLookup (.type T) "__getitem__" = pure (some (.builtin id))/\s.TypeIs (.str z t) T/\Al (Ay X.prog X.w) X.A (ID (.str z t) (.ref sl)) (EP X pins σ Q) X.xe s:=by
  rintro l u rfl rfl rfl rfl;refine ⟨"str",_,F.slot_str_getitem.lookup,typeIs_str _ _ _,wpAny_getItem_str_slice (l:=l) (u:=u) (st:=none) hs rfl (post_val_or_str ⟨BD (Txt.slice_le z _ _) hz,λ t' k=>⟨.str _,H,I.tok _,⟨_,rfl⟩,q⟩⟩)⟩
 cases pl with
 | none=>
  cases pu with
  | none=>exact go none none rfl rfl rfl rfl
  | int j uj=>exact go none (some (j,uj)) rfl rfl rfl rfl
 | int i ui=>
  cases pu with
  | none=>exact go (some (i,ui)) none rfl rfl rfl rfl
  | int j uj=>exact go (some (i,ui)) (some (j,uj)) rfl rfl rfl rfl
def Ma:PV->String
 | .non => "NoneType"
 | .bl _ => "bool"
 | .int _ => "int"
 | .str _ => "str"
 | .lst _ => "list"
 | .tup _ => "tuple"
 | .emp => "dict"
 | .dko => "dict"
 | .dct _ => "dict"
 | .dcl _ _ => "dict"
 | _ => ""
def JW (t T:String):Bool:=t == T || (t == "bool" && T == "int")
def Ih:List String:=["int","bool","str","list","tuple","dict"]
def d1 (xs:List PV):Nat:=if Cw xs=true then om else 1
def EG (n:Nat) (xs:List PV):List PV:=(A6 n xs).flatten
def HF (f:PV->PV->Bool):List PV->List PV->Bool
 | [],[]=>true
 | x::xs,y::ys=>f x y && HF f xs ys
 | _,_=>false
def Li:Nat->PV->PV->Bool
 | 0,_,_=>false
 | n + 1,x,y=>match x,y with
  | .non,.non=>true
  | .bl a,.bl b=>a == b
  | .int a,.int b=>a == b
  | .str a,.str b=>a == b
  | .emp,.emp=>true
  | .lst xs,.lst ys=>HF (Li n) xs ys
  | .tup xs,.tup ys=>HF (Li n) xs ys
  | _,_=>false
theorem Z5 {n:Nat}{e:Nat->Bool} (h:∀ j,j < n->e j=true):(An n).all e=true:=jb3.mpr λ j hj=>h j (jc2.mp hj)
def isNon:PV->Bool
 | .non=>true
 | _=>false
def BI:List PV->Option (List A0)
 | []=>some []
 | .int i::r=>(BI r).map (.inl i::·)
 | .str x::r=>(BI r).map (.inr x::·)
 | _=>none
def G7:List (List A0)->List PV->List A0->Option PV
 | k'::ks,x::xs,k=>if k'=k then some x else G7 ks xs k
 | _,_,_=>none
def EN (xs:List PV) (lo hi:Option Int):List PV:=(xs.drop (HT.sIx xs.length 0 lo)).take (HT.sIx xs.length xs.length hi - HT.sIx xs.length 0 lo)
theorem Inv.big {pins:List (Addr×Obj)}{s:Ai} (I:L2.Inv X pins σ H s):Fc < s.heap.objs.size:=by
 have h:ED < s.heap.objs.size:=(I.mod.glob.keeps I.bk).lt;exact qg (by decide) h
theorem uX:zzw X (.builtin "isinstance") (λ xs H Q=>∃ x t T k,xs=[x,.ty T]/\TyOf X.K H x t/\II X.K t (.type T)=some k/\Q (.bl k) H):=by
 intro pins s σ H xs us Q I r h;obtain ⟨x,t,T,k,rfl,ty,hk,q⟩:=h;obtain ⟨u,w,rfl,r1,r2⟩:=Sv r;cases r2;exact dH I r1 ty hk λ tk=>⟨.bl k,H,I.tok _,rfl,q⟩
theorem uW (hc:X.calm=true):zzw X (.builtin "all") (λ xs H Q=>∃ (p:Addr) (bs:List Bool),xs=[.ref p]/\Br X.K H p (bs.map V.bl)/\Q (.bl (bs.all id)) H):=by
 intro pins s σ H xs us Q I r h;obtain ⟨p,bs,rfl,hq,q⟩:=h;obtain ⟨u,rfl,rx⟩:=FU r;cases rx;obtain ⟨its,rv,pl,hz⟩:=I.list hq;have hl:=rv.length;rw [Ax] at hl;refine call_all_walk (wpAny_pyIter_list pl.isList ?_);have hlt:p < s.heap.objs.size:=by obtain ⟨o,n,e,_⟩:=pl;exact AH e
 have hne:p≠s.heap.objs.size:=Cd hlt;refine ⟨s.heap.objs.size,_,_,its.toArray.size,_,_,λ i=>bs.getD i true,rfl,Walks.list (A:=X.A.in1) (show X.A.in1.handled=none from I.ok.hd hc) s.heap.objs.size p hne its.toArray,⟨⟨_,BA _ rfl,rfl,rfl⟩,?_⟩,?_,λ h' tk k=>?_⟩
 ·exact pl.isList.at λ o e=>Ba _ e
 ·intro i v s' Q' E' hv hq';have hv':its[i]?=some v:=by simpa using hv
  have hi:i < bs.length:=by rw [hl];exact (jb0.mp hv').1
  obtain ⟨w,e1,e2⟩:=rv.get (i:=i) (x:=.bl bs[i]) (by simp [hi]);rw [hv'] at e1;cases e1;cases e2;refine HN ?_
  have:bs.getD i true=bs[i]:=by simp [TC,hi]
  dsimp only at hq';rw [this] at hq';exact hq'
 ·have I1:L2.Inv X pins σ H { s with heap:=s.heap.push { cls:=.type "list_iterator",data:=.fields #[.ref p,DO 0] } }:=I.kept (t':=s.toks) λ b o e=>Ba _ e;obtain ⟨f0,f1,f2,f3,f4,f5⟩:=I.fpOk (H':=H) (A5 s.heap.objs.size) (I.hok.fresh (A5 _));have I2:L2.Inv X pins σ H { s with heap:=h',toks:=tk }:=I1.turned (t':=tk) (λ b o hb e=>k b o (by simpa using hb) e) f0 f1 f3 f4 f5;refine ⟨.bl _,H,I2,rfl,?_⟩;have e:(An its.toArray.size).all (λ i=>bs.getD i true)=bs.all id:=by
   rw [BQ,<- hl];rw [Ed];simp only [jb3,jc2,id];constructor
   ·intro h x hx;obtain ⟨i,hi,rfl⟩:=Ja hx
    have:=h i hi
    simpa [TC,hi] using this
   ·intro h i hi;simp [TC,hi];exact h _ (CV hi)
  rw [e];exact q
theorem Jj:∀ {ns:List Int}{its:List Ae},Vals (ns.map V.int) its->∃ xs:List (Int×Tok),its=xs.map (λ p=>Value.int p.1 p.2)/\xs.map (·.1)=ns
 | [],its,h=>by cases h;exact ⟨[],rfl,rfl⟩
 | n::ns,its,h=>by
  cases h with
  | cons r rr=>
   obtain ⟨t,rfl⟩:=r;obtain ⟨xs,rfl,rfl⟩:=Jj rr;exact ⟨(n,t)::xs,rfl,rfl⟩
theorem bY (hc:X.calm=true):zzw X (.builtin "min") (λ xs H Q=>∃ (p:Addr) (ns:List Int),xs=[.ref p]/\Br X.K H p (ns.map V.int)/\ns≠[]/\∀ m,m∈ns->(∀ a∈ns,m<=a)->Q (.int m) H):=by
 intro pins s σ H xs us Q I r h;obtain ⟨p,ns,rfl,hq,hn,q⟩:=h;obtain ⟨u,rfl,rx⟩:=FU r;cases rx;obtain ⟨its,rv,pl,hz⟩:=I.list hq;obtain ⟨zs,rfl,rfl⟩:=Jj rv;have e:(zs.map λ p=>Value.int p.1 p.2).toArray=C8 zs.toArray:=by simp [C8]
 rw [e] at pl;have h0:0 < zs.length:=by
  cases zs with
  | nil=>exact absurd rfl hn
  | cons _ _=>simp
 refine min_intList (I.ok.hd hc) pl.isList (by simpa using h0) λ v h' tk hv k=>?_;obtain ⟨l1,l2⟩:=argBest_lt (BG zs.toArray) (zs.toArray.size - 1);have hv':=hv;obtain ⟨t,rfl⟩:=KH hv;have at':∀ j,j < zs.length->BG zs.toArray j∈zs.map (·.1):=λ j hj=>by
  unfold BG;simp [hj];exact ⟨_,CV hj⟩
 refine ⟨.int _,H,I.kept (t':=tk) k,⟨t,rfl⟩,q _ (at' _ ?_) λ a ha=>?_⟩
 ·have:zs.toArray.size=zs.length:=by simp
  omega
 ·obtain ⟨z,hz,rfl⟩:=jc4.mp ha;obtain ⟨j,hj,rfl⟩:=Ja hz;have hzs:zs.toArray.size=zs.length:=by simp
  have:=l2 j (by omega)
  have e:BG zs.toArray j=zs[j].1:=by unfold BG;simp [hj]
  rw [e] at this;exact this
theorem fI {prog:AB}{w:A9}{A:Bi}{E:Ae->Ai->Prop}{s:Ai}{l:Addr}{xs:Array (Int×Tok)}{Q:Ae->Ai->Prop} (hh:A.handled=none) (hl:s.heap.IsTuple l (C8 xs)) (hne:0 < xs.size)
  (h:∀ v h' tk,(C8 xs)[argBest (λ i j=>decide (BG xs i < BG xs j)) (xs.size - 1)]?=some v->(∀ b o,s.heap.get? b=some o->h'.get? b=some o)->Q v { s with heap:=h',toks:=tk }):
  Al (Ay prog w) A (call (.builtin "min") [.ref l]) Q E s:=by
 have hlt:l < s.heap.objs.size:=by obtain ⟨_,e,_⟩:=hl;exact AH e
 refine call_min_walk (Mh hl ?_);refine ⟨_,[_,l],[_],_,_,_,_,rfl,Walks.tuple (A:=A.in1) hh _ l (Cd hlt) (C8 xs),⟨⟨_,BA _ rfl,rfl,rfl⟩,hl.push _⟩,λ c hc=>?_,by simpa [C8] using hne,CmpOf.ints_lt (BG xs) (λ _ _=>KH),λ v h' tk hP hk=>?_⟩
 ·show c < (s.heap.push _).objs.size;rw [FW];rcases jb8.mp hc with rfl | hc
  ·exact Ie _
  ·rcases jb8.mp hc with rfl | hc
   ·exact Nj hlt
   ·cases hc
 ·exact h v h' tk (by simpa [C8] using hP) λ c o e=>by
   refine hk c o (λ hm=>?_) (Ba _ e);rcases jb8.mp hm with e1 | hm
   ·exact absurd (e1 ▸ AH e) (DB _)
   ·cases hm
theorem bZ (hc:X.calm=true):zzw X (.builtin "min") (λ xs H Q=>∃ (p:Addr) (ns:List Int),xs=[.ref p]/\SqT X.K H p (ns.map V.int)/\ns≠[]/\∀ m,m∈ns->(∀ a∈ns,m<=a)->Q (.int m) H):=by
 intro pins s σ H xs us Q I r h;obtain ⟨p,ns,rfl,hq,hn,q⟩:=h;obtain ⟨u,rfl,rx⟩:=FU r;cases rx;obtain ⟨its,rv,pl,hz⟩:=I.tuple hq;obtain ⟨zs,rfl,rfl⟩:=Jj rv;have e:(zs.map λ p=>Value.int p.1 p.2).toArray=C8 zs.toArray:=by simp [C8]
 rw [e] at pl;have h0:0 < zs.length:=by
  cases zs with
  | nil=>exact absurd rfl hn
  | cons _ _=>simp
 refine fI (I.ok.hd hc) pl (by simpa using h0) λ v h' tk hv k=>?_;obtain ⟨l1,l2⟩:=argBest_lt (BG zs.toArray) (zs.toArray.size - 1);have hv':=hv;obtain ⟨t,rfl⟩:=KH hv;have at':∀ j,j < zs.length->BG zs.toArray j∈zs.map (·.1):=λ j hj=>by
  unfold BG;simp [hj];exact ⟨_,CV hj⟩
 refine ⟨.int _,H,I.kept (t':=tk) k,⟨t,rfl⟩,q _ (at' _ ?_) λ a ha=>?_⟩
 ·have:zs.toArray.size=zs.length:=by simp
  omega
 ·obtain ⟨z,hz,rfl⟩:=jc4.mp ha;obtain ⟨j,hj,rfl⟩:=Ja hz;have hzs:zs.toArray.size=zs.length:=by simp
  have:=l2 j (by omega)
  have e:BG zs.toArray j=zs[j].1:=by unfold BG;simp [hj]
  rw [e] at this;exact this
def FT (ns:List Int):Bool:=decide (ns.length<=2 ^ 20) && ns.all λ i=>decide (-(2 ^ 40)<=i) && decide (i<=2 ^ 40)
theorem fw {ns:List Int} (h:∀ i∈ns,-(2 ^ 40)<=i/\i<=2 ^ 40):∀ j:Nat,-(2 ^ 40) * (j:Int)<=(ns.take j).sum/\(ns.take j).sum<=2 ^ 40 * (j:Int):=by
 induction ns with
 | nil=>intro j;rw [List.take_nil,Nc];omega
 | cons n ns ih=>
  intro j;cases j with
  | zero=>rw [Lm,Nc];omega
  | succ j=>
   have:=ih (λ i hi=>h i (AE _ hi)) j
   have hn:=h n AD;rw [Ue,DP];omega
theorem de (hc:X.calm=true):zzw X (.builtin "sum") (λ xs H Q=>∃ (p:Addr) (ns:List Int),xs=[.ref p]/\Br X.K H p (ns.map V.int)/\FT ns=true/\Q (.int ns.sum) H):=by
 intro pins s σ H xs us Q I r h;obtain ⟨p,ns,rfl,hq,hn,q⟩:=h;obtain ⟨u,rfl,rx⟩:=FU r;cases rx;obtain ⟨its,rv,pl,hz⟩:=I.list hq;obtain ⟨zs,rfl,rfl⟩:=Jj rv;have e:(zs.map λ p=>Value.int p.1 p.2).toArray=C8 zs.toArray:=by simp [C8]
 rw [e] at pl;unfold FT at hn;rw [AU] at hn;have hl:(zs.map (·.1)).length<=2 ^ 20:=by simpa using hn.1
 have hb:∀ i∈zs.map (·.1),-(2 ^ 40)<=i/\i<=2 ^ 40:=λ i hi=>by
  have:=jb3.mp hn.2 i hi
  rw [AU] at this;exact ⟨of_decide_eq_true this.1,of_decide_eq_true this.2⟩
 have sz:zs.toArray.size=zs.length:=by simp
 rw [Ax] at hl;have pre:∀ j,preSum (BG zs.toArray) j=((zs.map (·.1)).take j).sum:=λ j=>by
  rw [preSum_eq]
 refine sum_intList (I.ok.hd hc) pl.isList (λ j hj=>⟨?_,?_⟩) λ h' tk t' k=>⟨.int _,H,I.kept (t':=tk) k,⟨t',rfl⟩,?_⟩
 ·have e1:BG zs.toArray j=zs[j].1:=by unfold BG;simp [show j < zs.length by omega]
  have:=hb (zs[j]'(by omega)).1 (jc4.mpr ⟨_,CV _,rfl⟩)
  rw [e1];unfold InLong;omega
 ·have:=fw hb (j + 1)
  rw [pre];unfold InLong;omega
 ·rw [pre,sz]
  have:((zs.map (·.1)).take zs.length)=zs.map (·.1):=by
   rw [Nm];simp
  rw [this];exact q
def Cp:Int->List Int->Int
 | n,[]=>n
 | n,m::r=>Cp (if m < n then m else n) r
theorem QO:∀ (r:List Int) (n:Int),Cp n r∈n::r
 | [],n=>AD
 | m::r,n=>by
  unfold Cp
  have:=QO r (if m < n then m else n)
  rcases jb8.mp this with h | h
  ·rw [h];split
   ·exact AE _ AD
   ·exact AD
  ·exact AE _ (AE _ h)
theorem Tr:∀ (r:List Int) (n:Int),∀ a∈n::r,Cp n r<=a
 | [],n,a,h=>by
  have:a=n:=by simpa using h
  rw [this];exact EH _
 | m::r,n,a,h=>by
  unfold Cp;have ih:=Tr r (if m < n then m else n);have h1:=ih _ AD;have h2:(if m < n then m else n)<=n/\(if m < n then m else n)<=m:=by split <;> omega
  rcases jb8.mp h with e | h
  ·rw [e];omega
  ·rcases jb8.mp h with e | h
   ·rw [e];omega
   ·exact ih a (AE _ h)
theorem VB {ns:List Int}{m m':Int} (h1:m∈ns) (h2:∀ a∈ns,m<=a) (h3:m'∈ns) (h4:∀ a∈ns,m'<=a):m=m':=by
 have:=h2 m' h3
 have:=h4 m h1
 omega
theorem dg (hc:X.calm=true):zzw X (.builtin "sum") (λ xs H Q=>∃ (p:Addr) (ns:List Int),xs=[.ref p]/\SqT X.K H p (ns.map V.int)/\Q (.int ns.sum) H):=by
 intro pins s σ H xs us Q I r h;obtain ⟨p,ns,rfl,hq,q⟩:=h;obtain ⟨u,rfl,rx⟩:=FU r;cases rx;obtain ⟨its,rv,pl,hz⟩:=I.tuple hq;obtain ⟨zs,rfl,rfl⟩:=Jj rv;have e:(zs.map λ p=>Value.int p.1 p.2).toArray=C8 zs.toArray:=by simp [C8]
 rw [e] at pl;refine PySem.W.ktm_sumG (I.ok.hd hc) (show s.heap.IsTuple p (C8 zs.toArray) from pl) λ h' tk t' k=>⟨.int _,H,I.kept (t':=tk) k,⟨t',rfl⟩,?_⟩
 rw [preSum_eq,Nm (by simp)];exact q
theorem bR:zzw X (.builtin "abs") (λ xs H Q=>∃ i:Int,xs=[.int i]/\Q (.int (if i < 0 then -i else i)) H):=by
 intro pins s σ H xs us Q I rv h;obtain ⟨i,rfl,k⟩:=h;obtain ⟨u,rfl,t,rfl⟩:=FU rv;exact call_abs_int λ u tk=>⟨.int _,H,I.tok _,⟨_,rfl⟩,k⟩
def Cq:Int->List Int->Int
 | n,[]=>n
 | n,m::r=>Cq (if m > n then m else n) r
theorem QN:∀ (r:List Int) (n:Int),Cq n r∈n::r
 | [],n=>AD
 | m::r,n=>by
  have q:=QN r (if m > n then m else n);show Cq (if m > n then m else n) r∈_;rcases jb8.mp q with z | z
  ·rw [z];split <;> simp
  ·simp [z]
theorem Tq:∀ (r:List Int) (n:Int),∀ a∈n::r,a<=Cq n r
 | [],n,a,h=>by
  have e:a=n:=by simpa using h
  rw [e];exact EH _
 | m::r,n,a,h=>by
  show a<=Cq (if m > n then m else n) r;have q:=Tq r (if m > n then m else n);have q1:=q _ AD;have q2:n<=(if m > n then m else n)/\m<=(if m > n then m else n):=by split <;> omega
  simp only [jb8] at h;rcases h with z | z | z
  ·omega
  ·omega
  ·exact q a (AE _ z)
theorem bV (hc:X.calm=true):zzw X (.builtin "max") (λ xs H Q=>∃ (q:Addr) (n:Int) (r:List Int),xs=[.ref q]/\Br X.K H q ((n::r).map V.int)/\Q (.int (Cq n r)) H):=by
 intro pins s σ H xs us Q I rv h;obtain ⟨q,n,r,rfl,hq,k0⟩:=h;obtain ⟨u,rfl,rx⟩:=FU rv;cases rx;obtain ⟨its,rv2,pl,hz⟩:=I.list hq;obtain ⟨zs,rfl,ez⟩:=Jj rv2;have e:(zs.map λ p=>Value.int p.1 p.2).toArray=C8 zs.toArray:=by simp [C8]
 rw [e] at pl;have hsz:zs.toArray.size=zs.length:=by simp
 have h0:0 < zs.length:=by
  cases zs with
  | nil=>cases ez
  | cons _ _=>simp
 refine max_intList (I.ok.hd hc) pl.isList (by simpa using h0) λ v h' tk hv k=>?_;obtain ⟨l1,l2⟩:=argBest_gt (BG zs.toArray) (zs.toArray.size - 1);obtain ⟨t,rfl⟩:=KH hv;generalize argBest (λ i j=>decide (BG zs.toArray i > BG zs.toArray j)) (zs.toArray.size - 1)=b at *;have num:∀ j,(hj:j < zs.length)->BG zs.toArray j=zs[j].1:=λ j hj=>by unfold BG;simp [hj]
 have hm:BG zs.toArray b∈n::r:=by
  rw [num b (by omega),<- ez];exact jc4.mpr ⟨_,CV _,rfl⟩
 have hg:∀ a∈n::r,a<=BG zs.toArray b:=λ a ha=>by
  rw [<- ez] at ha;obtain ⟨z,hz',rfl⟩:=jc4.mp ha;obtain ⟨j,hj,rfl⟩:=Ja hz';rw [<- num j hj];exact l2 j (by omega)
 have eb:BG zs.toArray b=Cq n r:=qq (Tq r n _ hm) (hg _ (QN r n));exact ⟨.int _,H,I.kept (t':=tk) k,⟨t,rfl⟩,by rw [eb];exact k0⟩
theorem fG {prog:AB}{w:A9}{A:Bi}{E:Ae->Ai->Prop}{s:Ai}{l:Addr}{xs:Array (Int×Tok)}{Q:Ae->Ai->Prop} (hh:A.handled=none) (hl:s.heap.IsTuple l (C8 xs)) (hne:0 < xs.size)
  (h:∀ v h' tk,(C8 xs)[argBest (λ i j=>decide (BG xs i > BG xs j)) (xs.size - 1)]?=some v->(∀ b o,s.heap.get? b=some o->h'.get? b=some o)->Q v { s with heap:=h',toks:=tk }):
  Al (Ay prog w) A (call (.builtin "max") [.ref l]) Q E s:=by
 have hlt:l < s.heap.objs.size:=by obtain ⟨_,e,_⟩:=hl;exact AH e
 refine call_max_walk (Mh hl ?_);refine ⟨_,[_,l],[_],_,_,_,_,rfl,Walks.tuple (A:=A.in1) hh _ l (Cd hlt) (C8 xs),⟨⟨_,BA _ rfl,rfl,rfl⟩,hl.push _⟩,λ c hc=>?_,by simpa [C8] using hne,CmpOf.ints_gt (BG xs) (λ _ _=>KH),λ v h' tk hP hk=>?_⟩
 ·show c < (s.heap.push _).objs.size;rw [FW];rcases jb8.mp hc with rfl | hc
  ·exact Ie _
  ·rcases jb8.mp hc with rfl | hc
   ·exact Nj hlt
   ·cases hc
 ·exact h v h' tk (by simpa [C8] using hP) λ c o e=>by
   refine hk c o (λ hm=>?_) (Ba _ e);rcases jb8.mp hm with e1 | hm
   ·exact absurd (e1 ▸ AH e) (DB _)
   ·cases hm
theorem bW (hc:X.calm=true):zzw X (.builtin "max") (λ xs H Q=>∃ (q:Addr) (n:Int) (r:List Int),xs=[.ref q]/\SqT X.K H q ((n::r).map V.int)/\Q (.int (Cq n r)) H):=by
 intro pins s σ H xs us Q I rv h;obtain ⟨q,n,r,rfl,hq,k0⟩:=h;obtain ⟨u,rfl,rx⟩:=FU rv;cases rx;obtain ⟨its,rv2,pl,hz⟩:=I.tuple hq;obtain ⟨zs,rfl,ez⟩:=Jj rv2;have e:(zs.map λ p=>Value.int p.1 p.2).toArray=C8 zs.toArray:=by simp [C8]
 rw [e] at pl;have hsz:zs.toArray.size=zs.length:=by simp
 have h0:0 < zs.length:=by
  cases zs with
  | nil=>cases ez
  | cons _ _=>simp
 refine fG (I.ok.hd hc) pl (by simpa using h0) λ v h' tk hv k=>?_;obtain ⟨l1,l2⟩:=argBest_gt (BG zs.toArray) (zs.toArray.size - 1);obtain ⟨t,rfl⟩:=KH hv;generalize argBest (λ i j=>decide (BG zs.toArray i > BG zs.toArray j)) (zs.toArray.size - 1)=b at *;have num:∀ j,(hj:j < zs.length)->BG zs.toArray j=zs[j].1:=λ j hj=>by unfold BG;simp [hj]
 have hm:BG zs.toArray b∈n::r:=by
  rw [num b (by omega),<- ez];exact jc4.mpr ⟨_,CV _,rfl⟩
 have hg:∀ a∈n::r,a<=BG zs.toArray b:=λ a ha=>by
  rw [<- ez] at ha;obtain ⟨z,hz',rfl⟩:=jc4.mp ha;obtain ⟨j,hj,rfl⟩:=Ja hz';rw [<- num j hj];exact l2 j (by omega)
 have eb:BG zs.toArray b=Cq n r:=qq (Tq r n _ hm) (hg _ (QN r n));exact ⟨.int _,H,I.kept (t':=tk) k,⟨t,rfl⟩,by rw [eb];exact k0⟩
theorem Zw:∀ {xs:List V}{us:List Ae},Vals xs us->Vals xs.reverse us.reverse
 | _,_,.nil=>.nil
 | _,_,.cons r rr=>by rw [Ni,Ni];exact (Zw rr).append (.cons r .nil)
theorem dI {its:List Ae}{acc:Array Ae} (h:ItemsOf (λ i v=>its.toArray[its.toArray.size - 1 - i]?=some v) acc its.toArray.size):acc.toList=its.reverse:=by
 obtain ⟨hs,hi⟩:=h;simp only [BQ] at hs hi;refine List.ext_getElem? λ j=>?_;by_cases hj:j < its.length
 ·have e:acc[j]?=some acc[j]:=Array.getElem?_eq_getElem (by omega)
  have:=hi j _ e
  rw [Ui,e,Qj hj,<- this];simp
 ·rw [EL (by simp;omega),EL (by simp;omega)]
def Sb (K:Frag):V->Hp->VK->Prop:=λ x H1 Q=>∃ l xs,x=.ref l/\Br K H1 l xs/\∀ p,H1 p=none->Q (.ref p) (Av H1 p (.lst xs.reverse))
theorem uy {te:TE} (hc:X.calm=true) (hgL:Gl X "list") (hmL:X.mg "list" = none) (hgR:Gl X "reversed") (hmR:X.mg "reversed" = none) (ha:PE X a te) (hs:Bt [a] X.env=[(false,eval a X.env)]):
  PE X (.Call (.Name "list" p) [.Call (.Name "reversed" p2) [a] [] pos2] [] pos) (RV (Sb X.K) te):=by
 intro pins s σ H Q I h;refine OO (Gq I hgL hmL boot_list ?_ (by decide) (by decide));refine HR ?_ rfl rfl;show Al _ _ (spliced ((false,eval (.Call (.Name "reversed" p2) [a] [] pos2) X.env)::[])) _ _ s;refine R7 ?_;refine Call_ (Gq I hgR hmR boot_reversed (HR ?_ hs rfl));rw [hs];show Al _ _ (spliced ((false,eval a X.env)::[])) _ _ s;refine R7 (A2 (ha pins s σ H _ I h) λ u s1 ⟨x,H1,I1,r1,q1⟩=>Ry ?_);obtain ⟨l,xs,rfl,hq,q⟩:=q1;cases r1;obtain ⟨its,rv,pl,hz⟩:=I1.list hq;have hlen:=rv.length;refine call_reversed_list pl.isList ?_;refine Ry ?_;have hT:(s1.heap.push (revObj l ((its.toArray.size:Int) - 1))).IsRevIter s1.heap.objs.size l ((its.toArray.size:Int) - 1):=⟨_,BA _ rfl,rfl,rfl⟩
 have hlt:s1.heap.objs.size < (s1.heap.push (revObj l ((its.toArray.size:Int) - 1))).objs.size:=AH (BA _ rfl);have hne:l≠s1.heap.objs.size:=λ e=>by obtain ⟨o,ho,_⟩:=pl.isList;exact DB _ (e ▸ AH ho)
 refine gC (st:={ s1 with heap:=s1.heap.push (revObj l ((its.toArray.size:Int) - 1)) }) (I1.ok.hd hc) hne hT (pl.isList.at λ o e=>Ba _ e) (by rw [BQ];omega) λ h' tk acc' c' hk hS' hacc=>?_;have ea:=dI hacc;refine ⟨.ref _,_,I1.laid (h':=h') (t':=tk) (o:=.lst xs.reverse) (λ b o e=>hk b o (λ z=>DB _ (z ▸ AH e)) (Ba _ e)) (Lk hlt) ?_,rfl,q _ (I1.hok.fresh (Lk hlt))⟩;refine ⟨by rw [EK];exact hz,its.reverse,c',Zw rv,?_⟩;rw [<- ea];exact hS'
end
def B0:PV->Nat->PV->Nat->Option (PV×Nat)
 | .int i,_,.int j,_=>some (.int (i + j),om)
 | .lst xs,_,.lst ys,_=>if xs.length + ys.length<=Au then some (.lst (xs++ys),d1 (xs++ys)) else none
 | .tup xs,_,.tup ys,_=>if xs.length + ys.length<=Au then some (.tup (xs++ys),0) else none
 | .str x,_,.str y,_=>if x.length + y.length<=Au then some (.str (x++y),om) else none
 | _,_,_,_=>none
def Lf (p:Int->Int->Bool) (g:Int->Int->Int):PV->Nat->PV->Nat->Option (PV×Nat)
 | .int i,_,.int j,_=>if p i j then some (.int (g i j),om) else none
 | _,_,_,_=>none
def G5 (i j:Int):Bool:=(decide (-(2 ^ 64) < i) && decide (i < 2 ^ 64)) || (decide (-(2 ^ 64) < j) && decide (j < 2 ^ 64))
def G6 (_ j:Int):Bool:=decide (0 < j) && decide (j.natAbs.log2 < 9000)
def JE (_ j:Int):Bool:=decide (0 < j)
def JD (i j:Int):Bool:=decide (0<=j) && decide (j<=1000) && decide (i.natAbs < 2 ^ 64)
def Dl:=Lf (λ _ _=>true) (λ i j=>i - j)
def BZ:PV->Nat->PV->Nat->Option (PV×Nat)
 | .str x,_,.int n,_=>if -(2 ^ 62)<=n/\n < 2 ^ 62/\x.length * n.toNat<=Au then some (.str (CB x n.toNat),om) else none
 | .int i,_,.int j,_=>if G5 i j then some (.int (i * j),om) else none
 | .lst xs,_,.int k,_=>if -(2 ^ 62)<=k/\k < 2 ^ 62/\xs.length * k.toNat<=Au then some (.lst (EG k.toNat xs),d1 (EG k.toNat xs)) else none
 | _,_,_,_=>none
def KC:=Lf G6 (λ i j=>i / j)
def Fl:=Lf JE (λ i j=>i % j)
def SI:=Lf JD (λ i j=>i ^ j.toNat)
def Iq:PV->Nat->Option (PV×Nat)
 | .int i,_=>some (.int (-i),om)
 | _,_=>none
def Dm (p:Int->Int->Bool):PV->Nat->PV->Nat->Option (PV×Nat)
 | .int i,_,.int j,_=>some (.bl (p i j),om)
 | _,_,_,_=>none
def HZ (neg:Bool):PV->Nat->PV->Nat->Option (PV×Nat)
 | .bl a,_,.bl b,_=>some (.bl (neg^^(a == b)),om)
 | x,_,.non,_=>some (.bl (neg^^isNon x),om)
 | _,_,_,_=>none
def AQ:PV->Nat->PV->Nat->Option (PV×Nat)
 | .lst xs,_,.int i,_=>(BM xs i).map λ z=>(z,dv z)
 | .tup xs,_,.int i,_=>(BM xs i).map λ z=>(z,dv z)
 | .scr ns,_,.int i,_=>(BM ns i).map λ z=>(.int z,om)
 | .str z,_,.int i,_=>if z.length<=Au then (BM z.cps.toList i).map λ c=>(.str ⟨#[c]⟩,om) else none
 | .dcl ks xs,_,.tup key,_=>(match BI key with
  | some k=>(G7 ks xs k).map λ z=>(z,dv z)
  | none=>none)
 | _,_,_,_=>none
def Nu:Option Fx->Af->Rz (Option Int×Af)
 | none,ρ=>.ok (none,ρ)
 | some f,ρ=>(f ρ).bind λ (x,_,ρ1)=>match x with
  | .int i=>.ok (some i,ρ1)
  | _=>.no
def Fy (x:PV) (lo hi:Option Int):Option (PV×Nat):=match x with
 | .lst xs=>some (.lst (EN xs lo hi),d1 (EN xs lo hi))
 | .tup xs=>if HT.sIx xs.length 0 lo=0/\HT.sIx xs.length xs.length hi=xs.length then none else some (.tup (EN xs lo hi),0)
 | .str z=>if z.length<=Au then some (.str (Txt.slice z lo hi),om) else none
 | _=>none
def Jc (f:Fx) (lo hi:Option Fx):Fx:=λ ρ=>(f ρ).bind λ (x,_,ρ1)=>(Nu lo ρ1).bind λ (l,ρ2)=>(Nu hi ρ2).bind λ (u,ρ3)=>match Fy x l u with
 | some (z,c)=>.ok (z,c,ρ3)
 | none=>.no
def E7 (T:String) (x:PV) (_:Nat):Option (PV×Nat):=match x with
 | .scr _=>none
 | .exn _=>none
 | .dct _=>none
 | .dcl _ _=>none
 | .loc _=>none
 | .dks _ _=>none
 | .ins _ _=>none
 | .sto _=>none
 | _=>some (.bl (JW (Ma x) T),om)
def Bw (xs:List (PV×Nat)):Option (PV×Nat):=if xs.length<=Au then some (.lst (xs.map (·.1)),if CP xs then om else 1) else none
def BL (xs:List (PV×Nat)):Option (PV×Nat):=if xs.length<=Au then some (.tup (xs.map (·.1)),if CP xs then om else 0) else none
def FI:List (PV×Nat)->Option (PV×Nat)
 | [(.lst xs,_)]=>some (.int xs.length,om)
 | [(.tup xs,_)]=>some (.int xs.length,om)
 | [(.scr ns,_)]=>some (.int ns.length,om)
 | [(.str z,_)]=>if z.length<=Au then some (.int z.length,om) else none
 | _=>none
def PF (k:Int->Int->Int):List (PV×Nat)->Option (PV×Nat)
 | [(.int i,_),(.int j,_)]=>some (.int (k i j),om)
 | _=>none
def Iy:List (PV×Nat)->Option (PV×Nat)
 | [(.lst xs,_)]=>some (.lst xs,d1 xs)
 | [(.tup xs,_)]=>some (.lst xs,d1 xs)
 | _=>none
def allB:List PV->Option (List Bool)
 | []=>some []
 | .bl b::r=>(allB r).map (b::·)
 | _=>none
def Ep:List (PV×Nat)->Option (PV×Nat)
 | [(.lst xs,_)]=>(allB xs).map λ bs=>(.bl (bs.all id),om)
 | _=>none
def ES:List PV->Option (List Int)
 | []=>some []
 | .int i::r=>(ES r).map (i::·)
 | _=>none
def Iz:List (PV×Nat)->Option (PV×Nat)
 | [(.lst xs,_)]=>match ES xs with
  | some (n::r)=>some (.int (Cp n r),om)
  | _=>none
 | [(.tup xs,_)]=>match ES xs with
  | some (n::r)=>some (.int (Cp n r),om)
  | _=>none
 | xs=>PF (λ i j=>if j < i then j else i) xs
def FO:List (PV×Nat)->Option (PV×Nat)
 | [(.lst xs,_)]=>match ES xs with
  | some ns=>if FT ns=true then some (.int ns.sum,om) else none
  | none=>none
 | [(.tup xs,_)]=>match ES xs with
  | some ns=>some (.int ns.sum,om)
  | none=>none
 | _=>none
def MA:List (PV×Nat)->Option (PV×Nat)
 | [(.int i,_)]=>some (.int (if i < 0 then -i else i),om)
 | _=>none
def JC:List (PV×Nat)->Option (PV×Nat)
 | [(.lst xs,_)]=>match ES xs with
  | some (n::r)=>some (.int (Cq n r),om)
  | _=>none
 | [(.tup xs,_)]=>match ES xs with
  | some (n::r)=>some (.int (Cq n r),om)
  | _=>none
 | xs=>PF (λ i j=>if j > i then j else i) xs
def Lg:PV->Nat->Option (PV×Nat)
 | .lst xs,_=>some (.lst xs.reverse,d1 xs.reverse)
 | _,_=>none
def JX:CmpOp->Option (Int->Int->Bool)
 | .Lt=>some λ i j=>decide (i < j)
 | .LtE=>some λ i j=>decide (i<=j)
 | .Gt=>some λ i j=>decide (j < i)
 | .GtE=>some λ i j=>decide (j<=i)
 | .Eq=>some λ i j=>decide (i=j)
 | _=>none
def Hv (p q:Int->Int->Bool) (f g h:Fx):Fx:=λ ρ=>(f ρ).bind λ (x,_,ρ1)=>(g ρ1).bind λ (y,_,ρ2)=>match x,y with
 | .int i,.int j=>if p i j=true then (h ρ2).bind λ (z,_,ρ3)=>(match z with
  | .int k=>.ok (.bl (q j k),om,ρ3)
  | _=>.no) else .ok (.bl false,om,ρ2)
 | _,_=>.no
def Fp (f g:Fx):Fx:=λ ρ=>(f ρ).bind λ (x,_,ρ1)=>match x with
 | .bl true=>g ρ1
 | .bl false=>.ok (.bl false,om,ρ1)
 | _=>.no
def AZ (f g:Fx):Fx:=λ ρ=>(f ρ).bind λ (x,_,ρ1)=>match x with
 | .bl true=>.ok (.bl true,om,ρ1)
 | .bl false=>g ρ1
 | _=>.no
def BU:PV->Nat->Option (PV×Nat)
 | .bl b,_=>some (.bl (!b),om)
 | _,_=>none
def C4 (c:Fb) (f g:Fx):Fx:=λ ρ=>(c ρ).bind λ (b,ρ1)=>if b=true then f ρ1 else g ρ1
section
variable {M:Fm}{ρ ρ':Af}{σ σ':St}{H H' H0 H1:Hp}{gg:Os}{vs vs':List Nat}{K:Kx}{Z Z':Addr->Prop}{x y z:PV}{c d i n:Nat}{u v w:V}{a p:Addr}{f g:Fx}{fa:Fa}{fb:Fb}{xs ys:List PV}{ws us:List V}{zz:Nat->Addr->Prop}{Q:VK}{X:Cx}{ea eb e:Expr}{es:List Expr}{pos p1 p2:Pos}
theorem Xz:∀ {xs:List PV},Cw xs=true->∀ x∈xs,AN x=false
 | [],_,_,h=>by cases h
 | y::ys,e,x,h=>by
  unfold Cw at e;rw [AU] at e;rcases jb8.mp h with rfl | h
  ·cases hr:AN x with
   | false=>rfl
   | true=>rw [Zb hr] at e;exact e.1.symm
  ·exact Xz e.2 x h
theorem Zk.low (zk:Zk zz H) (h:IsL K H (zz d) xs ws):IsL K H (zz 0) xs ws:=h.weak λ a=>zk.to 0 d a (.inr (by decide))
theorem Zk.d1 (zk:Zk zz H) (h:IsL K H (zz 0) xs ws):IsL K H (zz (d1 xs)) xs ws:=by
 unfold QQ.d1;split
 ·rename_i e;exact h.flat e
 ·exact h.weak λ a=>zk.to 1 0 a (.inr (by decide))
theorem jb:d1 xs≠0:=by unfold d1;split <;> decide
theorem Leaf.sv (lf:Leaf K zz H z c Q) (e:sV z=some u):Q u H:=lf u H Le.refl (.sv e)
theorem Leaf.seen (lf:Leaf K zz H z (dv z) Q) (zk:Zk zz H) (h:Is K H (zz d) z v):Q v H:=lf v H Le.refl (h.view λ a=>zk.to 0 d a (.inr (by decide)))
theorem Leaf.lst (lf:Leaf K zz H (.lst xs) c Q) (hc:c≠0) (t:c=om->Cw xs=true) (l:IsL K H (zz c) xs ws) (hp:H p=none):Q (.ref p) (Av H p (.lst ws)):=
 lf _ _ (E1 hp) (.new hp (by simp [Bx,Co,hc]) ⟨rfl,BN⟩ (l.move (E1 hp).kp .rf λ a q=>q.imp id λ q=>by rw [q];exact hp) λ h=>Xz (t (zwn.mp h).1))
theorem jc (h:d1 xs=om):Cw xs=true:=by
 unfold d1 at h;split at h
 ·assumption
 ·cases h
theorem Leaf.lstD (lf:Leaf K zz H (.lst xs) (d1 xs) Q) (zk:Zk zz H) (l:IsL K H (zz 0) xs ws) (hp:H p=none):Q (.ref p) (Av H p (.lst ws)):=lf.lst jb jc (zk.d1 l) hp
theorem Leaf.tup (lf:Leaf K zz H (.tup xs) c Q) (l:IsL K H (zz c) xs ws) (hp:H p=none):Q (.ref p) (Av H p (.tup ws)):=
 lf _ _ (E1 hp) (.of rfl (.tup BN (l.up (E1 hp))))
theorem vF (ha:PE X ea (tE M f vs)) (hb:PE X eb (tE M g vs')):PE X (.BinOp ea .Add eb pos) (tE M (Ac B0 f g) (vs++vs')):=by
 refine Cs (Ss (qtp.or (qto.or (qpf.or (qk8.or fK)))) ha hb) λ σ H Q h=>MP (λ K x d y e z c v w H Q zz hk ho zk o1 o2 lf=>?_) h;unfold B0 at ho;split at ho
 ·cases ho;exact .inl ⟨_,_,o1.sv rfl,o2.sv rfl,lf.sv rfl⟩
 ·split at ho
  ·rename_i hl;cases ho;obtain ⟨p,ws,rfl,_,hp,ol⟩:=o1.lst;obtain ⟨p2,us,rfl,_,hp2,ol2⟩:=o2.lst;exact .inr (.inl ⟨p,p2,ws,us,rfl,rfl,hp,hp2,by rw [ol.length,ol2.length];exact hl,λ q hq=>lf.lstD zk (Paired.append (zk.low ol) (zk.low ol2)) hq⟩)
  ·cases ho
 ·split at ho
  ·rename_i hl;cases ho;obtain ⟨p,ws,rfl,hp,ol⟩:=o1.tupE;obtain ⟨p2,us,rfl,hp2,ol2⟩:=o2.tupE;cases ol with
   | nil=>exact .inr (.inr (.inr (.inl ⟨p,p2,us,rfl,rfl,.inl (.inl hp),.inl (.inl hp2),lf.seen (z:=.tup _) zk o2⟩)))
   | cons h t=>
    refine .inr (.inr (.inl ⟨p,p2,_,us,rfl,rfl,.inl (.inl hp),.inl (.inl hp2),by simp,by rw [(Paired.cons h t).length.symm,ol2.length];exact hl,λ hu=>?_,λ hu q hq=>lf.tup (Paired.append (zk.low (.cons h t)) (zk.low ol2)) hq⟩));subst hu;cases ol2;rw [G9] at lf;exact lf.seen (z:=.tup _) zk o1
  ·cases ho
 ·split at ho
  ·rename_i hl;cases ho;exact .inr (.inr (.inr (.inr ⟨_,_,o1.sv rfl,o2.sv rfl,hl,lf.sv rfl⟩)))
  ·cases ho
 ·cases ho
theorem P8 {op:HI}{p:Int->Int->Bool}{k:Int->Int->Int}{C:Int->Int->Prop} (hop:OpR X (EA op) (rI C λ i j=>.int (k i j))) (hC:∀ i j,p i j=true->C i j) (ha:PE X ea (tE M f vs)) (hb:PE X eb (tE M g vs')):
  PE X (.BinOp ea op eb pos) (tE M (Ac (Lf p k) f g) (vs++vs')):=by
 refine Cs (Ss hop ha hb) λ σ H Q h=>MP (λ K x d y e z c v w H Q zz hk ho zk o1 o2 lf=>?_) h;unfold Lf at ho;split at ho
 ·split at ho
  ·rename_i hp;cases ho;exact ⟨_,_,o1.sv rfl,o2.sv rfl,hC _ _ hp,lf.sv rfl⟩
  ·cases ho
 ·cases ho
theorem UK {i j:Int} (h:G5 i j=true):CMul i j:=by
 unfold G5 at h;simp only [G8,AU,decide_eq_true_eq] at h;exact h
theorem UL {i j:Int} (h:G6 i j=true):0 < j/\j.natAbs.log2 < 9000:=by
 unfold G6 at h;simp only [AU,decide_eq_true_eq] at h;exact h
theorem UJ {i j:Int} (h:JD i j=true):NA i j:=by
 unfold JD at h;simp only [AU,decide_eq_true_eq] at h;exact ⟨h.1.1,by omega,h.2⟩
theorem IsL.rep (h:IsL K H Z xs ws):∀ n,IsL K H Z (EG n xs) (A6 n ws).flatten
 | 0=>by unfold EG;exact .nil
 | n + 1=>by
  have:=IsL.rep h n
  unfold EG at this ⊢;rw [Fh,Fh,IZ,IZ];exact Paired.append h this
theorem w5 (ha:PE X ea (tE M f vs)) (hb:PE X eb (tE M g vs')):PE X (.BinOp ea .Mult eb pos) (tE M (Ac BZ f g) (vs++vs')):=by
 refine Cs (Ss (qtd.or (qta.or fL)) ha hb) λ σ H Q h=>MP (λ K x d y e z c v w H Q zz hk ho zk o1 o2 lf=>?_) h;unfold BZ at ho;split at ho
 all_goals first | cases ho | (split at ho;rename_i hl;cases ho;all_goals first | cases ho | skip)
 ·exact .inr (.inr ⟨_,_,o1.sv rfl,o2.sv rfl,hl.1,hl.2.1,hl.2.2,lf.sv rfl⟩)
 ·exact .inl ⟨_,_,o1.sv rfl,o2.sv rfl,UK hl,lf.sv rfl⟩
 ·obtain ⟨p,ws,rfl,_,hp,ol⟩:=o1.lst;exact .inr (.inl ⟨p,_,ws,rfl,o2.sv rfl,hp,by omega,by omega,by rw [ol.length];exact hl.2.2,λ q hq=>lf.lstD zk (IsL.rep (zk.low ol) _) hq⟩)
theorem w6 (ha:PE X ea (tE M f vs)):PE X (.UnaryOp .USub ea pos) (tE M (AL Iq f) vs):=by
 refine Cs (j5 wx ha) λ σ H Q h=>Pp (λ K x d z c v H Q zz hk ho zk o1 lf=>?_) h;unfold Iq at ho;split at ho
 ·cases ho;exact ⟨_,o1.sv rfl,lf.sv rfl⟩
 ·cases ho
theorem LM:∀ {xs:List PV}{ws:List V}{k:List A0},BI xs=some k->IsL K H Z xs ws->ws=k.map kV:=by
 intro xs;induction xs with
 | nil=>intro ws k e h;cases e;cases h;rfl
 | cons x r ih=>
  intro ws k e h;cases h with
  | cons h t=>
   cases x <;> first | cases e | (obtain ⟨k',e1,rfl⟩:=jc1.mp e;rw [h.sv rfl,ih e1 t];rfl)
theorem wF:∀ {xs:List PV}{ws:List V}{k:List Bool},allB xs=some k->IsL K H Z xs ws->ws=k.map V.bl:=by
 intro xs;induction xs with
 | nil=>intro ws k e h;cases e;cases h;rfl
 | cons x r ih=>
  intro ws k e h;cases h with
  | cons h t=>
   cases x <;> first | cases e | (obtain ⟨k',e1,rfl⟩:=jc1.mp e;rw [h.sv rfl,ih e1 t];rfl)
theorem Ip:∀ {xs:List PV}{ws:List V}{k:List Int},ES xs=some k->IsL K H Z xs ws->ws=k.map V.int:=by
 intro xs;induction xs with
 | nil=>intro ws k e h;cases e;cases h;rfl
 | cons x r ih=>
  intro ws k e h;cases h with
  | cons h t=>
   cases x <;> first | cases e | (obtain ⟨k',e1,rfl⟩:=jc1.mp e;rw [h.sv rfl,ih e1 t];rfl)
theorem SQ {k:List A0}:∀ {ks:List (List A0)}{xs:List PV}{ws:List V},IsL K H Z xs ws->ks.length=xs.length->match G7 ks xs k with
  | some x=>∃ w,AM (ks.zip ws) k=some w/\Is K H Z x w
  | none=>AM (ks.zip ws) k=none
 | [],[],_,.nil,_=>rfl
 | [],_::_,_,_,e=>by cases e
 | _::_,[],_,_,e=>by cases e
 | k'::ks,x::xs,_,.cons (b:=w) h t,e=>by
  have:=SQ (k:=k) t (Nat.succ.inj e)
  unfold G7;rw [JS];by_cases hk:k'=k
  ·rw [if_pos hk,FN (p:=(k',w)) hk];exact ⟨w,rfl,h⟩
  ·rw [if_neg hk,FL (p:=(k',w)) hk];exact this
theorem WL {i:Int} (l:IsL K H Z xs ws) (e:BM xs i=some z):∃ w,BM ws i=some w/\Is K H Z z w:=by
 unfold BM at e ⊢;rw [l.length];cases ej:CG xs.length i with
 | none=>rw [ej] at e;cases e
 | some j=>rw [ej] at e;exact Ea l e
theorem vH (hu:X.A.units + 1 < Cv) (hK:M.K=X.K) (hs:Tt eb) (ha:PE X ea (tE M f vs)) (hb:PE X eb (tE M g vs')):PE X (.Subscript ea eb pos) (tE M (Ac AQ f g) (vs++vs')):=by
 refine Cs (W8 (qt6.or (yt hu)) ha hb hs) λ σ H Q h=>MP (λ K x d y e z c v w H Q zz hk ho zk o1 o2 lf=>?_) h;unfold AQ at ho;split at ho
 ·obtain ⟨z',ez,e2⟩:=jc1.mp ho;cases e2;obtain ⟨p,ws,rfl,_,hp,ol⟩:=o1.lst;obtain ⟨w',e1,ow⟩:=WL ol ez;exact .inl (.inl ⟨p,ws,_,w',rfl,o2.sv rfl,.inl (.inl hp),e1,lf.seen zk ow⟩)
 ·obtain ⟨z',ez,e2⟩:=jc1.mp ho;cases e2;obtain ⟨p,ws,rfl,hp,ol⟩:=o1.tupE;obtain ⟨w',e1,ow⟩:=WL ol ez;exact .inl (.inr (.inl ⟨p,ws,_,w',rfl,o2.sv rfl,.inl (.inl hp),e1,lf.seen zk ow⟩))
 ·rename_i ns i;obtain ⟨z',ez,e2⟩:=jc1.mp ho;cases e2;obtain ⟨p,rfl,hp⟩:=o1.scr;refine .inl (.inl ⟨p,ns.map V.int,i,.int z',rfl,o2.sv rfl,?_,?_,lf.sv rfl⟩)
  ·rw [<- hK,<- hk];exact hp.elim (λ h=>.inl (.inr h)) .inr
  ·unfold BM at ez ⊢;rw [Ax];obtain ⟨j,e1,e2⟩:=ji0.mp ez;rw [e1];show (List.map V.int _)[j]?=_;rw [BO,e2];rfl
 ·split at ho
  ·rename_i hl;obtain ⟨c',ez,e2⟩:=jc1.mp ho;cases e2;exact .inl (.inr (.inr ⟨_,_,c',o1.sv rfl,o2.sv rfl,hl,ez,lf.sv rfl⟩))
  ·cases ho
 ·split at ho
  ·rename_i k ek;obtain ⟨z',ez,e2⟩:=jc1.mp ho;cases e2;obtain ⟨a,ws,rfl,_,en,hr,ol⟩:=o1.dcl;have kv:=SQ (k:=k) ol en;rw [ez] at kv;obtain ⟨w',ew,ow⟩:=kv;obtain ⟨b,us,rfl,hb,okey⟩:=o2.tupE
   have:=LM ek okey
   subst this;exact .inr ⟨a,w',rfl,.inr ⟨_,k,b,hr,rfl,hb,ew.symm⟩,lf.seen zk ow⟩
  ·cases ho
 ·cases ho
def tO (M:Fm):Option (Fx×List Nat)->TO
 | none=>Yq
 | some (f,vs)=>WC (tE M f vs)
theorem Xo {o:Option (Fx×List Nat)}{α:Type}{k:Option Int×Af->Rz α}{P:α->Prop}{R:Option Int->Hp->Prop} (rep:Rep M ρ σ H gg) (q:OutE M σ H ((Nu (o.map (·.1)) ρ).bind k) P)
  (h:∀ l H1,Le H H1->Rep M ρ σ H1 gg->OutE M σ H (k (l,ρ)) P->R l H1):tO M o σ H R:=by
 cases o with
 | none=>exact h none H Le.refl rep q
 | some p=>
  obtain ⟨f,vs⟩:=p;have q:OutE M σ H ((f ρ).bind λ (x,_,ρ1)=>(match x with
   | .int i=>Rz.ok (some i,ρ1)
   | _=>.no).bind k) P:=by
   revert q;show OutE M σ H (((f ρ).bind _).bind k) P->_;cases f ρ <;> exact id
  refine ER rep q λ x d v H1 l r t q=>?_;cases x <;> first | exact q.elim | exact ⟨_,(rep.vw t).sv rfl,h _ H1 l r q⟩
theorem IsL.drop:∀ {xs:List PV}{ws:List V} (n:Nat),IsL K H Z xs ws->IsL K H Z (xs.drop n) (ws.drop n)
 | _,_,0,h=>h
 | _,_,_ + 1,.nil=>.nil
 | _,_,n + 1,.cons _ t=>IsL.drop n t
theorem IsL.take:∀ {xs:List PV}{ws:List V} (n:Nat),IsL K H Z xs ws->IsL K H Z (xs.take n) (ws.take n)
 | _,_,0,_=>.nil
 | _,_,_ + 1,.nil=>.nil
 | _,_,n + 1,.cons h t=>.cons h (IsL.take n t)
theorem IsL.cut {lo hi:Option Int} (h:IsL K H Z xs ws):IsL K H Z (EN xs lo hi) (Eg ws lo hi):=by
 unfold EN Eg;rw [h.length];exact (h.drop _).take _
theorem kz {lo hi:Option (Fx×List Nat)} (hq:tE M (Jc f (lo.map (·.1)) (hi.map (·.1))) vs σ H Q):Wj (λ x lo hi H Q=>My X.K x lo hi H Q\/(Mw X.K x lo hi H Q\/Mx x lo hi H Q)) (tE M f vs) (tO M lo) (tO M hi) σ H Q:=by
 obtain ⟨ρ,g,rep,q⟩:=hq;refine ER rep q λ x d v H1 l1 r1 t1 q=>Xo r1 (OutE.from l1 q) λ l H2 l2 r2 q=>Xo r2 (OutE.from l2 q) λ u H3 l3 r3 q=>?_;have o:=(rep.vw t1).up (l2.trans l3);have zk:=r3.zk (vs:=vs);dsimp only at q;split at q
 ·rename_i z c eo;have lf:Leaf (M.k g) (M.z g vs) H3 z c Q:=λ u H' l t=>q rfl u H' (((l1.trans l2).trans l3).trans l) (t.back λ _=>((l1.trans l2).trans l3).back);unfold Fy at eo;split at eo
  ·cases eo;obtain ⟨p,ws,rfl,_,hp,ol⟩:=o.lst;exact .inl ⟨p,ws,rfl,.inl (.inl hp),λ q hq=>lf.lstD zk (zk.low ol).cut hq⟩
  ·split at eo
   ·cases eo
   ·rename_i hw;cases eo;obtain ⟨p,ws,rfl,hp,ol⟩:=o.tupE;exact .inr (.inl ⟨p,ws,rfl,.inl (.inl hp),by rw [ol.length];exact hw,λ q hq=>lf.tup (zk.low ol).cut hq⟩)
  ·split at eo
   ·rename_i hz;cases eo;exact .inr (.inr ⟨_,o.sv rfl,hz,lf.sv rfl⟩)
   ·cases eo
  ·cases eo
 ·exact q.elim
theorem WZ:PA X [] (tL M Ab []):=Xq P5 λ σ H Q h=>vX h
theorem Yh (ha:PE X e (tE M f vs)) (hr:PA X es (tL M fa vs')) (hs:Bt (e::es) X.env=(false,eval e X.env)::Bt es X.env):PA X (e::es) (tL M (Ad f fa) (vs++vs')):=
 Xq (LH ha hr hs) λ σ H Q h=>uI h
theorem Zk.all {xs:List (PV×Nat)}{c0:Nat} (zk:Zk zz H) (h0:c0≠om) (h:Bj (λ p v=>Is K H (zz p.2) p.1 v) xs ws):IsL K H (zz (if CP xs=true then om else c0)) (xs.map (·.1)) ws:=
 HY (HX h λ p hp v h=>h.weak λ a=>zk.to _ _ a (by
  split
  ·rename_i e;exact .inl (Of e p hp).symm
  ·exact .inr h0))
theorem wz (h:PA X es (tL M fa vs)):PE X (.List es pos) (tE M (Aq Bw fa) vs):=by
 refine Cs (vO h) λ σ H Q h=>Zj (r:=λ xs H1 Q=>xs.length<=Au/\∀ p,H1 p=none->Q (.ref p) (Av H1 p (.lst xs))) (λ K xs z c ws H0 H Q G zz hk ho zk hz hb hg t lf=>?_) h;unfold Bw at ho;split at ho
 ·rename_i hl;cases ho;refine ⟨by rw [t.length];exact hl,λ q hq=>?_⟩;obtain ⟨G',h',s⟩:=VA.lst (c:=if CP xs=true then om else 1) t (λ d a h ga=>hz d a h (hg a ga)) zk.to (E1 hq) BN (λ h=>by obtain ⟨o,_,e⟩:=t.dom h;rw [hq] at e;cases e) (λ _=>.inr hq) rfl;exact lf _ _ (E1 hq) ⟨G',λ a h=>(h' a h).elim (λ e=>hb.back (e ▸ hq)) (hg a),s⟩
 ·cases ho
theorem w8 {k:Nat} (h:PA X es (tL M fa vs)):PE X (.Tuple es k pos) (tE M (Aq BL fa) vs):=by
 refine Cs (vS h) λ σ H Q h=>Yp (r:=λ xs H1 Q=>xs.length<=Au/\∀ p,H1 p=none->Q (.ref p) (Av H1 p (.tup xs))) (λ K xs z c ws H Q zz hk ho zk t lf=>?_) h;unfold BL at ho;split at ho
 ·rename_i hl;cases ho;exact ⟨by rw [<- Paired.length t];exact hl,λ q hq=>lf.tup (zk.all (by decide) t) hq⟩
 ·cases ho
theorem kD (K:Kx) {T:String} (hT:T∈Ih) (ho:E7 T x d=some (z,c)) (h:Is K H Z x v):TyOf K.K H v (.type (Ma x))/\II K.K (.type (Ma x)) (.type T)=some (JW (Ma x) T)/\z=.bl (JW (Ma x) T):=by
 refine ⟨?_,?_⟩
 ·cases h with
  | non=>exact .non
  | bl b=>exact .bl b
  | int i=>exact .int i
  | str z=>exact .str z
  | tup h _=>exact .tup h
  | rf h=>cases x <;> first | exact h.elim | (cases ho;done) | exact .dK h.2 | exact .dK h.2.choose_spec
  | nd n h _=>cases x <;> first | exact h.elim | (cases ho;done) | exact .lst h.2
 ·simp only [Ih,jb8,IW,or_false] at hT;cases x <;> first | (cases ho;done) | (cases ho;refine ⟨?_,rfl⟩;rcases hT with h | h | h | h | h | h <;> subst h <;> rfl)
theorem wy {T:String}{T':Str} (hT:T∈Ih) (hK:M.K=X.K) (ha:PE X e (tE M f vs)) (hg:Gl X "isinstance") (hm:X.mg "isinstance" = none) (hT':PE X (.Name T' p2) (tC (.ty T)))
  (hs1:Bt [e,.Name T' p2] X.env=[(false,eval e X.env),(false,eval (.Name T' p2) X.env)]) (hs2:Bt [Expr.Name T' p2] X.env=[(false,eval (.Name T' p2) X.env)]):
  PE X (.Call (.Name "isinstance" p1) [e,.Name T' p2] [] pos) (tE M (AL (E7 T) f) vs):=by
 refine Cs (YV uX hg hm rfl (LH ha (LH hT' P5 hs2) (by rw [hs1,hs2])) (he:=by rw [hs1,hs2]) (hpl:=by rw [hs2];rfl)) λ σ H Q h=>?_;refine Pp (r:=λ v H Q=>∃ x t T' k,[v,.ty T]=[x,.ty T']/\TyOf X.K H x t/\II X.K t (.type T')=some k/\Q (.bl k) H) (λ K x d z c v H Q zz hk ho zk o1 lf=>?_) h;obtain ⟨h1,h2,rfl⟩:=kD K hT ho o1;rw [hk,hK] at h1 h2;exact ⟨v,_,T,_,rfl,h1,h2,lf.sv rfl⟩
end
def A1 (neg:Bool) (x:PV) (_:Nat) (y:PV) (_:Nat):Option (PV×Nat):=match CK 20 x,CK 20 y with
 | some a,some b=>some (.bl (neg^^HJ a b),om)
 | _,_=>match x,y with
  | .lst xs,.lst ys=>if HF (Li 20) xs ys=true then some (.bl (neg^^true),om) else if xs.length≠ys.length then some (.bl (neg^^false),om) else none
  | .str a,.str b=>some (.bl (neg^^(a == b)),om)
  | .emp,.emp=>some (.bl (neg^^true),om)
  | .tup xs,.tup ys=>if HF (Li 20) xs ys=true then some (.bl (neg^^true),om) else none
  | _,_=>none
section
variable {M:Fm}{ρ ρ':Af}{σ σ':St}{H H' H0 H1:Hp}{gg:Os}{vs vs':List Nat}{K K':Kx}{Z Z':Addr->Prop}{x y z:PV}{c d i n:Nat}{u v w:V}{a b p:Addr}{f g:Fx}{fa:Fa}{fb:Fb}{xs ys:List PV}{ws us:List V}{zz:Nat->Addr->Prop}{Q:VK}{X:Cx}{ea eb e:Expr}{es:List Expr}{pos p1 p2:Pos}{pins:List (Addr×Obj)}{s:Ai}{uu uu':Ae}{A:Bi}
theorem S5 {f:PV->Option Es} (hf:∀ x v u D,f x=some D->Is K H Z x v->RelV v u->∃ as,Reads s.heap u D as):∀ {xs:List PV}{ws:List V}{us:List Ae}{Ds:List Es},BH f xs=some Ds->IsL K H Z xs ws->Vals ws us->∃ as,ReadsAll s.heap us Ds as
 | [],_,_,_,h,.nil,r=>by cases h;cases r;exact ⟨_,.nil⟩
 | y::ys,_,_,_,h,.cons o l,r=>by
  unfold BH at h;split at h
  ·rename_i h1 h2;cases h;cases r with
   | cons r1 r2=>
    obtain ⟨as,ra⟩:=hf _ _ _ _ h1 o r1;obtain ⟨bs,rb⟩:=S5 hf h2 l r2;exact ⟨_,.cons ra rb⟩
  ·cases h
theorem Kz (I:L2.Inv X pins σ H s):∀ (n:Nat) (x:PV) (v:V) (u:Ae) (D:Es),CK n x=some D->Is K H Z x v->RelV v u->∃ as,Reads s.heap u D as
 | 0,_,_,_,_,h,_,_=>by cases h
 | n + 1,x,v,u,D,h,o,r=>by
  unfold CK at h;cases x with
  | non=>cases h;rw [o.sv rfl] at r;cases r;exact ⟨_,.none⟩
  | bl b=>cases h;rw [o.sv rfl] at r;cases r;exact ⟨_,.bool b⟩
  | int i=>cases h;rw [o.sv rfl] at r;obtain ⟨t,rfl⟩:=r;exact ⟨_,.int i t⟩
  | str z=>
   dsimp only at h;split at h
   ·cases h;rw [o.sv rfl] at r;obtain ⟨t,rfl⟩:=r;exact ⟨_,.str z t⟩
   ·cases h
  | lst xs=>
   obtain ⟨Ds,e,rfl⟩:=jc1.mp h;obtain ⟨a,ws,rfl,_,ha,ol⟩:=o.lst;cases r;obtain ⟨its,rv,⟨ob,nn,e1,e2,e3,e4⟩,_⟩:=I.list (.inl (.inl ha));obtain ⟨as,ra⟩:=S5 (Kz I n) e ol rv;exact ⟨_,.list e1 e2 e4 ra⟩
  | tup xs=>
   obtain ⟨Ds,e,rfl⟩:=jc1.mp h;obtain ⟨a,ws,rfl,ha,ol⟩:=o.tupE;cases r;obtain ⟨its,rv,⟨ob,e1,e2,nn,e4⟩,_⟩:=I.tuple (.inl (.inl ha));obtain ⟨as,ra⟩:=S5 (Kz I n) e ol rv;exact ⟨_,.tuple e1 e2 e4 ra⟩
  | _=>cases h
def Cm (A:Bi) (s:Ai) (u u':Ae) (b:Bool):Prop:=SeqAt.RcAt A s u u' b/\SeqAt.RcNeAt A s u u' (!b)
theorem WO (I:L2.Inv X pins σ H s) (ha:H a=some (.dK [])) (hb:H b=some (.dK [])) (hu:A.units < Cv):IF A s (.ref a) (.ref b) true/\Cm A s (.ref a) (.ref b) true:=by
 obtain ⟨_,z1,vs,k1,d1⟩:=dk_of I.hok ha;obtain ⟨_,z2,ws,k2,d2⟩:=dk_of I.hok hb;cases k1;cases k2;have c:Cm A s (.ref a) (.ref b) true:=⟨λ prog w E Q hq=>PySem.W.keq_eq (knd:=C7 prog w) (r:=true) z1 z2 (Py d1) (Py d2) hu (λ _=>.nil) (by simpa using hq),λ prog w E Q hq=>PySem.W.keq_ne (knd:=C7 prog w) (r:=true) z1 z2 (Py d1) (Py d2) hu (λ _=>.nil) (by simpa using hq)⟩
 refine ⟨?_,c⟩;by_cases e:a=b
 ·subst e;exact OI _
 ·exact SeqAt.EqAt.of_refs e c.1
theorem QE {f:PV->PV->Bool} (hf:∀ x y v w u u',f x y=true->Is K H Z x v->Is K H Z' y w->RelV v u->RelV w u'->IF A.in1 s u u' true):∀ {xs ys:List PV}{vs ws:List V}{us us':List Ae},HF f xs ys=true->IsL K H Z xs vs->IsL K H Z' ys ws->Vals vs us->Vals ws us' ->
  us.length=us'.length/\∀ j (h1:j < us.length) (h2:j < us'.length),IF A.in1 s us[j] us'[j] true
 | [],[],_,_,_,_,_,.nil,.nil,r1,r2=>by cases r1;cases r2;exact ⟨rfl,λ j h1 _=>nomatch h1⟩
 | [],_::_,_,_,_,_,h,_,_,_,_=>by cases h
 | _::_,[],_,_,_,_,h,_,_,_,_=>by cases h
 | x::xs,y::ys,_,_,_,_,h,.cons o l,.cons o' l',.cons a1 a2,.cons b1 b2=>by
  unfold HF at h;rw [AU] at h;have t:=QE hf h.2 l l' a2 b2;refine ⟨congrArg (·+ 1) t.1,λ j h1 h2=>?_⟩;cases j with
  | zero=>exact hf _ _ _ _ _ _ h.1 o o' a1 b1
  | succ j=>exact t.2 j (qR h1) (qR h2)
theorem Zn (I:L2.Inv X pins σ H s) {f:PV->PV->Bool} (hf:∀ x y v w u u',f x y=true->Is K H Z x v->Is K H Z' y w->RelV v u->RelV w u'->IF A.in1 s u u' true) (hu:A.units < Cv) (h:HF f xs ys=true) (o1:Is K H Z (.lst xs) v) (o2:Is K H Z' (.lst ys) w) (r1:RelV v uu) (r2:RelV w uu'):∃ a b,uu=.ref a/\uu'=.ref b/\Cm A s uu uu' true:=by
 obtain ⟨a,ws,rfl,_,ha,ol⟩:=o1.lst;obtain ⟨b,ws',rfl,_,hb,ol'⟩:=o2.lst;cases r1;cases r2;obtain ⟨its,rv,⟨ob,nn,e1,e2,e3,e4⟩,_⟩:=I.list (.inl (.inl ha));obtain ⟨its',rv',⟨ob',nn',e1',e2',e3',e4'⟩,_⟩:=I.list (.inl (.inl hb));have t:=QE hf h ol ol' rv rv';have z:=SeqAt.RcAt.lists (A:=A) (s:=s) (l:=a) (b:=b) (items:=its.toArray) (items2:=its'.toArray) (e:=λ _=>true) ⟨ob,e1,e2,nn,e4⟩ ⟨ob',e1',e2',nn',e4'⟩ (by simpa using t.1) hu (λ j h1 h2=>by simpa using t.2 j (by simpa using h1) (by simpa using h2));have z':=SeqAt.RcNeAt.lists (A:=A) (s:=s) (l:=a) (b:=b) (items:=its.toArray) (items2:=its'.toArray) (e:=λ _=>true) ⟨ob,e1,e2,nn,e4⟩ ⟨ob',e1',e2',nn',e4'⟩ (by simpa using t.1) hu (λ j h1 h2=>by simpa using t.2 j (by simpa using h1) (by simpa using h2));rw [Z5 λ _ _=>rfl] at z z';exact ⟨a,b,rfl,rfl,z,z'⟩
theorem Y4 (I:L2.Inv X pins σ H s) {f:PV->PV->Bool} (hf:∀ x y v w u u',f x y=true->Is K H Z x v->Is K H Z' y w->RelV v u->RelV w u'->IF A.in1 s u u' true) (hu:A.units < Cv) (h:HF f xs ys=true) (o1:Is K H Z (.tup xs) v) (o2:Is K H Z' (.tup ys) w) (r1:RelV v uu) (r2:RelV w uu'):∃ a b,uu=.ref a/\uu'=.ref b/\Cm A s uu uu' true:=by
 obtain ⟨a,ws,rfl,ha,ol⟩:=o1.tupE;obtain ⟨b,ws',rfl,hb,ol'⟩:=o2.tupE;cases r1;cases r2;obtain ⟨its,rv,⟨ob,e1,e2,nn,e4⟩,_⟩:=I.tuple (.inl (.inl ha));obtain ⟨its',rv',⟨ob',e1',e2',nn',e4'⟩,_⟩:=I.tuple (.inl (.inl hb));have t:=QE hf h ol ol' rv rv';have z:=SeqAt.RcAt.tuples (A:=A) (s:=s) (l:=a) (b:=b) (items:=its.toArray) (items2:=its'.toArray) (e:=λ _=>true) ⟨ob,e1,e2,nn,e4⟩ ⟨ob',e1',e2',nn',e4'⟩ hu (λ j h1 h2=>by simpa using t.2 j (by simpa using h1) (by simpa using h2));have z':=SeqAt.RcNeAt.tuples (A:=A) (s:=s) (l:=a) (b:=b) (items:=its.toArray) (items2:=its'.toArray) (e:=λ _=>true) ⟨ob,e1,e2,nn,e4⟩ ⟨ob',e1',e2',nn',e4'⟩ hu (λ j h1 h2=>by simpa using t.2 j (by simpa using h1) (by simpa using h2));have z2:((its.toArray.size == its'.toArray.size):Bool)=true:=by simpa using t.1
 rw [Z5 λ _ _=>rfl,z2] at z z';exact ⟨a,b,rfl,rfl,z,z'⟩
theorem XM {a b:Addr} (c:Cm A s (.ref a) (.ref b) true):IF A s (.ref a) (.ref b) true:=by
 by_cases e:a=b
 ·subst e;exact OI _
 ·exact SeqAt.EqAt.of_refs e c.1
theorem Yi (I:L2.Inv X pins σ H s):∀ (n:Nat) (x y:PV) (v w:V) (u u':Ae) (A:Bi),A.units + n < Cv->Li n x y=true->Is K H Z x v->Is K H Z' y w->RelV v u->RelV w u'->IF A s u u' true
 | 0,_,_,_,_,_,_,_,_,h,_,_,_,_=>by cases h
 | n + 1,x,y,v,w,u,u',A,hu,h,o1,o2,r1,r2=>by
  have hr:=λ x y v w u u'=>Yi I n x y v w u u' A.in1 (by have e:A.in1.units=A.units + 1:=rfl;omega);unfold Li at h;split at h
  ·rw [o1.sv rfl] at r1;rw [o2.sv rfl] at r2;cases r1;cases r2;exact OI _
  ·rw [o1.sv rfl] at r1;rw [o2.sv rfl] at r2;cases r1;cases r2;rw [eq_of_beq h];exact OI _
  ·rw [o1.sv rfl] at r1;rw [o2.sv rfl] at r2;obtain ⟨t,rfl⟩:=r1;obtain ⟨t',rfl⟩:=r2;rw [eq_of_beq h];exact beq_self_eq_true (α:=Int) _ ▸ SeqAt.EqAt.int_int (A:=A) (s:=s) _ t _ t'
  ·rw [o1.sv rfl] at r1;rw [o2.sv rfl] at r2;obtain ⟨t,rfl⟩:=r1;obtain ⟨t',rfl⟩:=r2;rw [eq_of_beq h];exact beq_self_eq_true (α:=Str) _ ▸ SeqAt.EqAt.str_str (A:=A) (s:=s) _ t _ t'
  ·obtain ⟨a,rfl,ha⟩:=o1.emp;obtain ⟨b,rfl,hb⟩:=o2.emp;cases r1;cases r2;exact (WO I ha hb (by omega)).1
  ·obtain ⟨a,b,rfl,rfl,c⟩:=Zn I hr (by omega) h o1 o2 r1 r2;exact XM c
  ·obtain ⟨a,b,rfl,rfl,c⟩:=Y4 I hr (by omega) h o1 o2 r1 r2;exact XM c
  ·cases h
theorem WQ {neg:Bool}{e:Nat} (I:L2.Inv X pins σ H s) (hu:A.units + 64 < Cv) (ho:A1 neg x d y e=some (z,c)) (o1:Is K H Z x v) (o2:Is K H Z' y w) (r1:RelV v uu) (r2:RelV w uu'):∃ b,z=.bl (neg^^b)/\Cm A s uu uu' b:=by
 have hr:=λ x y v w u u'=>Yi (K:=K) (Z:=Z) (Z':=Z') I 20 x y v w u u' A.in1 (by have e:A.in1.units=A.units + 1:=rfl;omega);unfold A1 at ho;split at ho
 ·rename_i a b h1 h2;cases ho;obtain ⟨as,ra⟩:=Kz I 20 x v uu a h1 o1 r1;obtain ⟨bs,rb⟩:=Kz I 20 y w uu' b h2 o2 r2;have l1:=K5 20 x a h1;have l2:=K5 20 y b h2;have hm:A.units + min a.depth b.depth < Cv:=by have:=qp a.depth b.depth;omega
  exact ⟨_,rfl,SeqAt.rcAt_reads ra rb l1.1 l2.1 hm,SeqAt.rcNeAt_reads ra rb l1.1 l2.1 hm⟩
 ·split at ho
  ·split at ho
   ·rename_i h;cases ho;obtain ⟨_,_,_,_,c⟩:=Zn I hr (by omega) h o1 o2 r1 r2;exact ⟨_,rfl,c⟩
   ·split at ho
    ·rename_i h;cases ho;obtain ⟨a,ws,rfl,_,ha,ol⟩:=o1.lst;obtain ⟨b,ws',rfl,_,hb,ol'⟩:=o2.lst;cases r1;cases r2;obtain ⟨its,rv,⟨ob,nn,e1,e2,e3,e4⟩,_⟩:=I.list (.inl (.inl ha));obtain ⟨its',rv',⟨ob',nn',e1',e2',e3',e4'⟩,_⟩:=I.list (.inl (.inl hb));have hl:(its.toArray.size != its'.toArray.size)=true:=by
      have h1:=rv.length;have h2:=rv'.length;rw [ol.length] at h1;rw [ol'.length] at h2;simp only [BQ,bne_iff_ne];omega
     exact ⟨_,rfl,SeqAt.RcAt.lists_lengths ⟨ob,e1,e2,nn,e4⟩ ⟨ob',e1',e2',nn',e4'⟩ hl (by omega),SeqAt.RcNeAt.lists_lengths ⟨ob,e1,e2,nn,e4⟩ ⟨ob',e1',e2',nn',e4'⟩ hl (by omega)⟩
    ·cases ho
  ·cases ho;rw [o1.sv rfl] at r1;rw [o2.sv rfl] at r2;obtain ⟨t,rfl⟩:=r1;obtain ⟨t',rfl⟩:=r2;exact ⟨_,rfl,SeqAt.RcAt.str_str _ t _ t',SeqAt.RcNeAt.str_str _ t _ t'⟩
  ·cases ho;obtain ⟨a,rfl,ha⟩:=o1.emp;obtain ⟨b,rfl,hb⟩:=o2.emp;cases r1;cases r2;exact ⟨_,rfl,(WO I ha hb (by omega)).2⟩
  ·split at ho
   ·rename_i h;cases ho;obtain ⟨_,_,_,_,c⟩:=Y4 I hr (by omega) h o1 o2 r1 r2;exact ⟨_,rfl,c⟩
   ·cases ho
  ·cases ho
def IK (k:Frag) (o:PV->Nat->PV->Nat->Option (PV×Nat)):R2:=λ v w H Q=>∃ (K:Kx) (x:PV) (d:Nat) (y:PV) (e:Nat) (z:PV) (c:Nat) (Z Z':Addr->Prop),K.K=k/\o x d y e=some (z,c)/\Is K H Z x v/\Is K H Z' y w/\∀ b,z=.bl b->Q (.bl b) H
theorem kM (hu:X.A.units + 64 < Cv):OpR X (Cc .Eq) (IK X.K (A1 false)):=by
 intro pins s σ H v w u u' Q I rx ry ⟨K,x,d,y,e,z,c,Z,Z',hk,ho,o1,o2,q⟩;obtain ⟨b,rfl,h⟩:=WQ I hu ho o1 o2 rx ry;exact h.1 _ _ _ _ ⟨.bl _,H,I,rfl,by simpa using q _ rfl⟩
theorem kR (hu:X.A.units + 64 < Cv):OpR X (Cc .NotEq) (IK X.K (A1 true)):=by
 intro pins s σ H v w u u' Q I rx ry ⟨K,x,d,y,e,z,c,Z,Z',hk,ho,o1,o2,q⟩;obtain ⟨b,rfl,h⟩:=WQ I hu ho o1 o2 rx ry;exact h.2 _ _ _ _ ⟨.bl _,H,I,rfl,by simpa using q _ rfl⟩
end
def Dz (neg:Bool) (x:PV) (_:Nat) (y:PV) (_:Nat):Option (PV×Nat):=match x,y with
 | .tup ks,.dct kvs=>(BI ks).map λ k=>(.bl (neg^^(AM kvs k).isSome),om)
 | .tup key,.dcl ks xs=>(BI key).map λ k=>(.bl (neg^^(G7 ks xs k).isSome),om)
 | x,.lst ys=>(match CK 20 x,BH (CK 20) ys with
  | some a,some bs=>some (.bl (neg^^bs.any λ b=>HJ b a),om)
  | _,_=>none)
 | x,.tup ys=>(match CK 20 x,BH (CK 20) ys with
  | some a,some bs=>some (.bl (neg^^bs.any λ b=>HJ b a),om)
  | _,_=>none)
 | _,_=>none
def J8 (neg:Bool):R2:=λ v w H Q=>∃ a o,w=.ref a/\FH H a v o/\Q (.bl (neg^^o.isSome)) H
def RZ (tp:Bool) (ys:List PV):PV:=match tp with
 | true=>.tup ys
 | false=>.lst ys
def zI (tp:Bool) (ys:List Es):Es:=match tp with
 | true=>.tuple ys
 | false=>.list ys
theorem wq {tp:Bool}{ys:List PV}{bs:List Es} (h:BH (CK 20) ys=some bs):CK 21 (RZ tp ys)=some (zI tp bs):=by
 cases tp with
 | true=>
  show (BH (CK 20) ys).map PyData.tuple=_;rw [h];rfl
 | false=>
  show (BH (CK 20) ys).map PyData.list=_;rw [h];rfl
def Jm:Expr->Bool
 | .Starred _ _=>false
 | _=>true
def K2:Expr->Bool
 | .Slice _ _ _ _=>false
 | _=>true
def Sg:HI->Option (PV->Nat->PV->Nat->Option (PV×Nat))
 | .Add=>some B0
 | .Sub=>some Dl
 | .Mult=>some BZ
 | .FloorDiv=>some KC
 | .Mod=>some Fl
 | .Pow=>some SI
 | _=>none
def EM:Expr->Bool
 | .Set _ _ _=>false
 | _=>true
def jC:Expr->Bool
 | .Name x _=>decide (x = "row")
 | _=>false
def JG:PV->Nat->PV->Nat->Option (PV×Nat)
 | .tup xs,_,.tup ys,_=>(match ES xs,ES ys with
  | some a,some b=>some (.bl (HT.lexLt a b),om)
  | _,_=>none)
 | _,_,_,_=>none
def Dd:Fx:=λ ρ=>.ok (.dct [],om,ρ)
abbrev Fn:=List PV->Rz (PV×Nat×PV)
def Ak (F:Fn) (fa:Fa):Fx:=λ ρ=>(fa ρ).bind λ (xs,ρ1)=>match F (xs.map (·.1)) with
 | .ok (y,d,_)=>.ok (y,d,ρ1)
 | .exc c=>.exc c
 | .no=>.no
def Si (b:Expr):CmpOp->Option (PV->Nat->PV->Nat->Option (PV×Nat))
 | .Lt=>if jC b=true then some JG else some (Dm λ i j=>decide (i < j))
 | .LtE=>some (Dm λ i j=>decide (i<=j))
 | .Gt=>some (Dm λ i j=>decide (j < i))
 | .GtE=>some (Dm λ i j=>decide (j<=i))
 | .Eq=>some (A1 false)
 | .NotEq=>some (A1 true)
 | .Is=>some (HZ false)
 | .IsNot=>some (HZ true)
 | .In=>if EM b=true then some (Dz false) else none
 | .NotIn=>if EM b=true then some (Dz true) else none
def La (k:Frag) (n:Nat) (F:Fn):Sp:=λ ws H Q E=>ws.length=n/\∃ (xs:List PV) (z:Bool->Addr->Prop) (K:Kx),K.K=k/\(∀ a,z false a->z true a)/\(∀ b a,z b a->H a≠none)/\(∀ a,K.st a->H a≠none/\¬ z true a)/\IsL K H (z false) xs ws/\(match F xs with
 | .ok (y,d,_)=>∀ v H',Le H H'->VT K (z (C2 d)) H H' y d v->Q v H'
 | .exc c=>∀ H',Le H H'->E (.int (c:Int) 0) none H'
 | .no=>False)
section
variable {M:Fm}{ρ ρ':Af}{σ σ':St}{H H' H0 H1:Hp}{gg:Os}{vs vs':List Nat}{K:Kx}{k:Frag}{Z Z':Addr->Prop}{x y z:PV}{c d i n:Nat}{u v w:V}{a b p:Addr}{f g h:Fx}{fa:Fa}{fb:Fb}{xs ys:List PV}{ws us:List V}{zz:Nat->Addr->Prop}{Q:VK}{X:Cx}{ea eb e:Expr}{es:List Expr}{pos p1 p2:Pos}{pins:List (Addr×Obj)}{s:Ai}{uu uu':Ae}{A:Bi}
theorem kL (hu:X.A.units + 1 < Cv):OpR X (Cc .In) (J8 false):=by
 intro pins s σ H x y v u Q I rx ry h;obtain ⟨a,o,rfl,g,q⟩:=h;obtain rfl:u=Value.ref a:=ry;exact Uq hu I g rx λ s3 I3=>⟨.bl o.isSome,H,I3,rfl,by simpa using q⟩
theorem dX (hu:X.A.units + 1 < Cv):OpR X (Cc .NotIn) (J8 true):=by
 intro pins s σ H x y v u Q I rx ry h;obtain ⟨a,o,rfl,g,q⟩:=h;obtain rfl:u=Value.ref a:=ry;exact wX hu I g rx λ s3 I3=>⟨.bl (!o.isSome),H,I3,rfl,by simpa using q⟩
theorem yE:OpR X (Cc .Eq) (FX λ i j=>.bl (decide (i=j))):=λ pins s σ H x y v u Q I rx ry h=>jz pins s σ H x y v u Q I rx ry (by
 obtain ⟨i,j,rfl,rfl,q⟩:=h;refine ⟨rfl,?_⟩;rw [XJ];exact q)
theorem ZF {op:CmpOp}{p:Int->Int->Bool} (h:JX op=some p):OpR X (Cc op) (FX λ i j=>.bl (p i j))/\op≠.In/\op≠.NotIn:=by
 cases op <;> cases h
 ·exact ⟨yE,by decide,by decide⟩
 ·exact ⟨W4,by decide,by decide⟩
 ·exact ⟨W3,by decide,by decide⟩
 ·exact ⟨W2,by decide,by decide⟩
 ·exact ⟨Wz,by decide,by decide⟩
def Mr (t u v:TT):TT:=λ σ H Q=>t σ H λ c H1=>if c=true then u σ H1 Q else v σ H1 Q
theorem vn {t a b:Expr}{pos:Pos}{tA tB tC:TT} (ht:PT X t tA) (ha:PT X a tB) (hb:PT X b tC):PT X (.IfExp t a b pos) (Mr tA tB tC):=by
 intro pins s σ H Q I h;rw [arm_isTrue_IfExp];refine Ah (A2 (ht pins s σ H _ I h) λ d s1 ⟨H1,I1,q1⟩=>?_);cases d with
 | true=>exact ha pins s1 σ H1 Q I1 q1
 | false=>exact hb pins s1 σ H1 Q I1 q1
theorem Ho {f:Ae->Ae->Sem Ae}{r r':R2} (h:OpR X f r) (i:∀ x y H Q,r' x y H Q->r x y H Q):OpR X f r':=λ pins s σ H x y v u Q I rx ry q=>h pins s σ H x y v u Q I rx ry (i _ _ _ _ q)
theorem Pf {p:Int->Int->Bool} (x y:V) (H:Hp) (Q:VK) (h:IK k (Dm p) x y H Q):FX (λ i j=>.bl (p i j)) x y H Q:=by
 obtain ⟨K,x,d,y,e,z,c,Z,Z',hk,ho,o1,o2,q⟩:=h;unfold Dm at ho;split at ho
 ·cases ho;exact ⟨_,_,o1.sv rfl,o2.sv rfl,q _ rfl⟩
 ·cases ho
theorem Is.isNon (o:Is K H Z x v):decide (v=.non)=QQ.isNon x:=by
 cases o with
 | rf h=>cases x <;> first | exact h.elim | rfl
 | nd n h _=>cases x <;> first | exact h.elim | rfl
 | _=>rfl
theorem Nz {neg:Bool} (x y:V) (H:Hp) (Q:VK) (h:IK k (HZ neg) x y H Q):(∃ i j,x=.bl i/\y=.bl j/\Q (.bl (neg^^(i == j))) H)\/(y=.non/\Q (.bl (neg^^decide (x=.non))) H):=by
 obtain ⟨K,x,d,y,e,z,c,Z,Z',hk,ho,o1,o2,q⟩:=h;unfold HZ at ho;split at ho
 ·cases ho;exact .inl ⟨_,_,o1.sv rfl,o2.sv rfl,q _ rfl⟩
 ·cases ho;exact .inr ⟨o2.sv rfl,by rw [o1.isNon];exact q _ rfl⟩
 ·cases ho
def M3 (neg:Bool):R2:=λ v w H Q=>∃ (K:Kx) (tp:Bool) (x:PV) (ys:List PV) (Z Z':Addr->Prop) (a:Es) (bs:List Es),CK 20 x=some a/\BH (CK 20) ys=some bs/\Is K H Z x v/\Is K H Z' (RZ tp ys) w/\Q (.bl (neg^^bs.any λ b=>HJ b a)) H
theorem N0 {neg:Bool} (x y:V) (H:Hp) (Q:VK) (h:IK k (Dz neg) x y H Q):J8 neg x y H Q\/M3 neg x y H Q:=by
 obtain ⟨K,x,d,y,e,z,c,Z,Z',hk,ho,o1,o2,q⟩:=h;unfold Dz at ho;split at ho
 ·obtain ⟨k,ek,e2⟩:=jc1.mp ho;cases e2;obtain ⟨b,ws,rfl,hb,ol⟩:=o1.tupE
  have:=LM ek ol
  subst this;obtain ⟨a,rfl,_,ha⟩:=o2.dct;exact .inl ⟨a,_,rfl,.inr ⟨_,k,b,ha,rfl,hb,rfl⟩,q _ rfl⟩
 ·rename_i ks xs;obtain ⟨k,ek,e2⟩:=jc1.mp ho;cases e2;obtain ⟨b,us,rfl,hb,okey⟩:=o1.tupE
  have:=LM ek okey
  subst this;obtain ⟨a,ws,rfl,_,en,hr,ol⟩:=o2.dcl;have kv:=SQ (k:=k) ol en;refine .inl ⟨a,AM (ks.zip ws) k,rfl,.inr ⟨_,k,b,hr,rfl,hb,rfl⟩,?_⟩;cases ex:G7 ks xs k with
  | none=>rw [ex] at kv q;rw [kv];exact q _ rfl
  | some x=>rw [ex] at kv q;obtain ⟨w',ew,_⟩:=kv;rw [ew];exact q _ rfl
 ·split at ho
  ·rename_i ea eb;cases ho;exact .inr ⟨K,false,_,_,Z,Z',_,_,ea,eb,o1,o2,q _ rfl⟩
  ·cases ho
 ·split at ho
  ·rename_i ea eb;cases ho;exact .inr ⟨K,true,_,_,Z,Z',_,_,ea,eb,o1,o2,q _ rfl⟩
  ·cases ho
 ·cases ho
theorem Xp (hu:X.A.units + 64 < Cv) (neg:Bool):OpR X (Cc (if neg then .NotIn else .In)) (M3 neg):=by
 intro pins s σ H v w u u' Q I rx ry ⟨K,tp,x,ys,Z,Z',a,bs,h1,h2,o1,o2,q⟩;obtain ⟨as,ra⟩:=Kz I 20 x v u a h1 o1 rx;obtain ⟨bs',rb⟩:=Kz I 21 (RZ tp ys) w u' _ (wq h2) o2 ry;have l1:=K5 20 x a h1;have l2:=O9 (λ x D h=>K5 20 x D h) h2;have hm:X.A.units + 1 + min (Me bs) a.depth < Cv:=by have:=q9 (Me bs) a.depth;omega
 cases neg <;> cases tp
 ·exact SeqAt.in_list_reads rb ra l2.1 l1.1 hm ⟨.bl _,H,I,rfl,by simpa using q⟩
 ·exact SeqAt.in_tuple_reads rb ra l2.1 l1.1 hm ⟨.bl _,H,I,rfl,by simpa using q⟩
 ·exact SeqAt.notIn_list_reads rb ra l2.1 l1.1 hm ⟨.bl _,H,I,rfl,by simpa using q⟩
 ·exact SeqAt.notIn_tuple_reads rb ra l2.1 l1.1 hm ⟨.bl _,H,I,rfl,by simpa using q⟩
theorem UI (x y:V) (H:Hp) (Q:VK) (h:IK k JG x y H Q):Mz k x y H Q:=by
 obtain ⟨K,x,d,y,e,z,c,Z,Z',hk,ho,o1,o2,q⟩:=h;unfold JG at ho;split at ho
 ·split at ho
  ·rename_i ea eb;cases ho;obtain ⟨p,us,rfl,hs,ol⟩:=o1.tupE;obtain ⟨p',us',rfl,hs',ol'⟩:=o2.tupE;rw [Ip ea ol] at hs;rw [Ip eb ol'] at hs';exact ⟨p,p',_,_,rfl,rfl,.inl (.inl hs),.inl (.inl hs'),q _ rfl⟩
  ·cases ho
 ·cases ho
theorem XE {op:CmpOp}{b:Expr} (h:EM b=true):J1 op b=false:=by
 cases op <;> cases b <;> first | rfl | cases h
theorem uY {op:CmpOp}{o:PV->Nat->PV->Nat->Option (PV×Nat)}{b:Expr} (h:Si b op=some o) (hu:X.A.units + 64 < Cv):OpR X (Cc op) (IK X.K o)/\J1 op b=false:=by
 have nb:op≠.In->op≠.NotIn->J1 op b=false:=λ h1 h2=>QR _ h1 h2;cases op <;> dsimp only [Si] at h
 ·cases h;exact ⟨kM hu,nb (by decide) (by decide)⟩
 ·cases h;exact ⟨kR hu,nb (by decide) (by decide)⟩
 ·split at h
  ·cases h;exact ⟨Ho (kO (by omega)) UI,nb (by decide) (by decide)⟩
  ·cases h;exact ⟨Ho W4 Pf,nb (by decide) (by decide)⟩
 ·cases h;exact ⟨Ho W3 Pf,nb (by decide) (by decide)⟩
 ·cases h;exact ⟨Ho W2 Pf,nb (by decide) (by decide)⟩
 ·cases h;exact ⟨Ho Wz Pf,nb (by decide) (by decide)⟩
 ·cases h;exact ⟨Ho (qtj.or kN) (λ x y H Q h=>by simpa using Nz x y H Q h),nb (by decide) (by decide)⟩
 ·cases h;exact ⟨Ho (qhl.or yF) (λ x y H Q h=>by simpa [bne] using Nz x y H Q h),nb (by decide) (by decide)⟩
 ·split at h
  ·rename_i hb;cases h;exact ⟨Ho ((kL (by omega)).or (Xp hu false)) N0,XE hb⟩
  ·cases h
 ·split at h
  ·rename_i hb;cases h;exact ⟨Ho ((dX (by omega)).or (Xp hu true)) N0,XE hb⟩
  ·cases h
theorem Xb {o:PV->Nat->PV->Nat->Option (PV×Nat)} (hK:M.K=X.K) (hq:tE M (Ac o f g) (vs++vs') σ H Q):J6 (IK X.K o) (tE M f vs) (tE M g vs') σ H Q:=
 MP (λ K x d y e z c v w H Q zz hk ho zk o1 o2 lf=>⟨K,x,d,y,e,z,c,_,_,hk.trans hK,ho,o1,o2,λ b eb=>by subst eb;exact lf.sv rfl⟩) hq
theorem kn {op:HI}{o:PV->Nat->PV->Nat->Option (PV×Nat)} (h:Sg op=some o) (ha:PE X ea (tE M f vs)) (hb:PE X eb (tE M g vs')):PE X (.BinOp ea op eb pos) (tE M (Ac o f g) (vs++vs')):=by
 unfold Sg at h;split at h
 ·cases h;exact vF ha hb
 ·cases h;exact P8 yG (λ _ _ _=>trivial) ha hb
 ·cases h;exact w5 ha hb
 ·cases h;exact P8 bJ (λ _ _ h=>UL h) ha hb
 ·cases h;exact P8 kQ (λ _ _ h=>by simpa [JE] using h) ha hb
 ·cases h;exact P8 kS (λ _ _ h=>UJ h) ha hb
 ·cases h
theorem uq (hq:tE M (Fp f g) (vs++vs') σ H Q):WI (tE M f vs) (tE M g vs') σ H Q:=by
 obtain ⟨ρ,gg,rep,q⟩:=hq;refine ER rep q λ x d v H1 l r t q=>?_;dsimp only at q;split at q
 ·exact ⟨true,(rep.vw t).sv rfl,by rw [if_pos rfl];exact ⟨ρ,gg,r,OutE.mono (OutE.from l q) λ p q e v H' l' t'=>q e v H' (l.trans l') ((t'.weak λ a=>Fm.z_sub λ i=>CL _).back λ _=>l.back)⟩⟩
 ·exact ⟨false,(rep.vw t).sv rfl,by rw [if_neg Ce];exact q rfl _ H1 l (.of rfl (.bl _))⟩
 ·exact q.elim
theorem vV (hq:tE M (AZ f g) (vs++vs') σ H Q):Mp (tE M f vs) (tE M g vs') σ H Q:=by
 obtain ⟨ρ,gg,rep,q⟩:=hq;refine ER rep q λ x d v H1 l r t q=>?_;dsimp only at q;split at q
 ·exact ⟨true,(rep.vw t).sv rfl,by rw [if_pos rfl];exact q rfl _ H1 l (.of rfl (.bl _))⟩
 ·exact ⟨false,(rep.vw t).sv rfl,by rw [if_neg Ce];exact ⟨ρ,gg,r,OutE.mono (OutE.from l q) λ p q e v H' l' t'=>q e v H' (l.trans l') ((t'.weak λ a=>Fm.z_sub λ i=>CL _).back λ _=>l.back)⟩⟩
 ·exact q.elim
theorem uv (hq:tE M (AL BU f) vs σ H Q):WB (tE M f vs) σ H Q:=
 Pp (r:=λ x H1 Q=>∃ c,x=.bl c/\Q (.bl (!c)) H1) (λ K x d z c v H Q zz hk ho zk o1 lf=>by
  unfold BU at ho;split at ho
  ·cases ho;exact ⟨_,o1.sv rfl,lf.sv rfl⟩
  ·cases ho) hq
theorem vU (hq:tE M (C4 fb f g) (vs++vs') σ H Q):Wm (tT M fb) (tE M f vs) (tE M g vs') σ H Q:=by
 obtain ⟨ρ,gg,rep,q⟩:=hq;refine MF rep q λ b H1 l r q=>?_;have fin:∀ {k:Fx}{us:List Nat},(∀ i∈us,i∈vs++vs')->OutE M σ H (k ρ) (λ p=>p.2.2=ρ->∀ v H',Le H H'->VT (M.k gg) (M.z gg (vs++vs') p.2.1) H H' p.1 p.2.1 v->Q v H')->tE M k us σ H1 Q:=λ hs q=>⟨ρ,gg,r,OutE.mono (OutE.from l q) λ p q e v H' l' t'=>q e v H' (l.trans l') ((t'.weak λ a=>Fm.z_sub hs).back λ _=>l.back)⟩
 dsimp only at q;cases b
 ·exact fin (λ i=>CL _) q
 ·exact fin (λ i=>Jb _) q
theorem Zi {p q:Int->Int->Bool}{v1 v2 v3:List Nat} (hq:tE M (Hv p q f g h) vs σ H Q):SU (FX λ i j=>.bl (p i j)) (FX λ i j=>.bl (q i j)) (tE M f v1) (tE M g v2) (tE M h v3) σ H Q:=by
 obtain ⟨ρ,gg,rep,k⟩:=hq;refine ER rep k λ x d v H1 l1 r1 t1 k=>ER r1 (OutE.from l1 k) λ y e w H2 l2 r2 t2 k=>?_;dsimp only at k;split at k
 ·refine ⟨_,_,(rep.vw t1).sv rfl,(r1.vw t2).sv rfl,_,rfl,?_⟩;split at k
  ·rename_i hp;rw [hp,if_pos rfl];refine ER r2 (OutE.from l2 k) λ z e' u H3 l3 r3 t3 k=>?_;dsimp only at k;split at k
   ·exact ⟨_,_,(r1.vw t2).sv rfl,(r2.vw t3).sv rfl,k rfl _ H3 ((l1.trans l2).trans l3) (.of rfl (.bl _))⟩
   ·exact k.elim
  ·rename_i hp;rw [jp0.mpr hp,if_neg Ce];exact k rfl _ H2 (l1.trans l2) (.of rfl (.bl _))
 ·exact k.elim
theorem ur {F:Fn} (hF:∀ xs,xs.length≠n->F xs=.no) (hq:tE M (Ak F fa) vs σ H Q):Xa (La M.K n F) M.W (tL M fa vs) σ H Q:=by
 obtain ⟨ρ,gg,rep,q⟩:=hq;refine I0 rep q λ xs ws H1 G l r f t q=>?_;show La M.K n F ws H1 Q (GH (M.W σ));dsimp only at q;have hl:xs.length=n:=by
  refine RQ λ e=>?_;rw [hF (xs.map (·.1)) (by rw [Ax];exact e)] at q;exact q
 refine ⟨by rw [<- hl];exact t.length,xs.map (·.1),λ b=>M.z gg vs (if b=true then om else 0),M.k gg,rfl,λ a h=>Fm.z_om r.zt h,λ b a h=>r.zdom h,λ a s=>⟨(r.st a s).1,λ z=>z.elim (λ ⟨i,e,_⟩=>(r.st a s).2.2 i e) (r.st a s).2.1⟩,t.to (z:=M.z gg vs) (c:=0) (λ e d a=>Fm.z_to r.zt) (λ d a h ga=>rep.zdom h (f a ga)) λ p _=>.inr (by decide),?_⟩;cases e:F (xs.map (·.1)) with
 | no=>rw [e] at q;exact q
 | exc c=>rw [e] at q;exact λ H' k=>q H' (l.trans k)
 | ok p=>
  obtain ⟨y,d,z0⟩:=p;rw [e] at q;exact λ v H' k t=>q rfl v H' (l.trans k) ((t.weak λ a h=>Fm.z_to r.zt (by unfold C2;by_cases e:d=om <;> simp [e]) h).back λ _=>l.back)
theorem vG:PE X (.Dict [] [] pos) (tE M Dd []):=
 Cs bN λ σ H Q ⟨ρ,gg,rep,q⟩ p hp=>q rfl (.ref p) _ (E1 hp) (.new hp rfl ⟨rfl,rfl,BN⟩ .nil λ _ x h=>nomatch h)
end
open PySem PySem.Spec PyProof.Rows L2 PySem.Builtin PySem.Builtin.ObjectAttr PySem.Builtin.Getset_descriptor
section
variable {prog:AB}{w:A9}{A:Bi}{E:Ae->Ai->Prop}{K:Frag}{h:Heap}{g:Array GenState}{d:Drawn}{t:Nat}{os:OsState}{a C:Addr}{oe:Obj}
end
section
variable {K:Frag}{a C:Addr}{c d:Nat}{u:Ae}
end
section
variable {X:Cx}
end
structure Wd where
 P:AB
 w:A9
 K:Frag
 mg:Str->Option Ae
 base:Heap
 lvl:Nat
structure Sx where
 N:List Str
 sc:B1
 Γ:List (Str×Nat×Fn)
 rz:Bool
 xc:List Nat
 al:List (List Nat):=[]
 gh:Option Nat:=none
def Sx.alF (S:Sx) (i:Nat):List Nat:=S.al.getD i []
def Dj (sc:B1) (x:Str) (k:Dv):Bool:=sc.names.lookup x == some k
def CQ (sc:B1) (x:Str):Bool:=Dj sc x .local || Dj sc x .cell || Dj sc x .free
def JV (N:List Str) (x:Str):Option Nat:=N.findIdx? (·== x)
def Sx.slot (S:Sx) (x:Str):Option Nat:=if (CQ S.sc x && !(x == ("__debug__" : Str)) && !(x == ("__classdict__" : Str)))=true then (JV S.N x).filter λ i=>S.gh != some i else none
def Sx.glob (S:Sx) (x:Str):Bool:=Dj S.sc x .globalImplicit
structure XS (E:Wd) (S:Sx) (X:Cx) (M:Fm):Prop where
 prog:X.prog=E.P
 w:X.w=E.w
 K:X.K=E.K
 mg:X.mg=E.mg
 base:X.base=E.base
 N:X.N=S.N
 sc:X.env.scope=S.sc
 calm:X.calm=true
 room:Room E.lvl X.A
 po:PassesOwn (Ay X.prog X.w) X.A X.env X.xe
 ps:Oj (Df X.prog X.w X.K) X M.W
 rs:S.rz=true->X6 X M.W
 k:M.K=X.K
 al:∀ i,i < S.N.length->M.al i=S.alF i
 gh:M.gh=S.gh
def GS (E:Wd) (Γ:List (Str×Nat×Fn)):Prop:=∀ x n F,Γ.lookup x=some (n,F)->(x == ("__debug__" : Str))=false/\(∀ xs,xs.length≠n->F xs=.no) /\
  ∃ fa fd ps,E.mg x=some (.ref fa)/\KN E.K (.ref fa)=true/\qml E.K fd ps []/\ps.length=n/\FnOk E.P E.w E.K E.mg E.base (Df E.P E.w E.K) E.lvl fa fd ps (La E.K n F)
def GX (K:Frag) (mg:Str->Option Ae) (xc:List Nat):Prop:=xc≠[]->Mb K=true/\Mc K=true/\∀ c∈xc,∃ x C,XN[c]?=some x/\FR K c=some C/\mg x=some (.ref C)/\(x == ("__debug__" : Str))=false
structure Env' (E:Wd) (S:Sx):Prop where
 bn:∀ x∈zjk,E.mg x=none
 gs:GS E S.Γ
 gx:GX E.K E.mg S.xc
def N6 (S:Sx) (e:Expr) (f:Fx) (vs:List Nat):Prop:=Jm e=true/\∀ E X M,Env' E S->XS E S X M->PE X e (tE M f vs)/\PT X e (tT M (bT f))
structure R (S:Sx) (e:Expr) where
 f:Fx
 vs:List Nat
 ok:N6 S e f vs
abbrev T (S:Sx) (e:Expr):=Option (R S e)
abbrev Dn:=∀ S e,T S e
structure RA (S:Sx) (es:List Expr) where
 f:Fa
 vs:List Nat
 ok:es.all Jm=true/\∀ E X M,Env' E S->XS E S X M->PA X es (tL M f vs)
section
variable {E:Wd}{S:Sx}{X:Cx}{M:Fm}{f g:Fx}{vs vs':List Nat}{σ:St}{H:Hp}{Q:VK}
theorem GN {sc:B1}{x:Str}{k:Dv} (h:Dj sc x k=true):sc.names.lookup x=some k:=by
 unfold Dj at h;exact eq_of_beq h
theorem Xi {sc:B1}{x:Str} (h:CQ sc x=true):Ii sc x:=by
 unfold CQ at h;rw [G8,G8] at h;exact h.elim (λ h=>h.imp GN λ h=>.inl (GN h)) λ h=>.inr (.inr (GN h))
theorem g6 {N:List Str}{x:Str}{i:Nat} (h:JV N x=some i):N[i]?=some x:=by
 unfold JV at h;rw [List.findIdx?_eq_some_iff_getElem] at h;obtain ⟨hi,e,_⟩:=h;rw [Bb hi,show N[i]=x from eq_of_beq e]
theorem Yj {x:Str}{i:Nat} (h:S.slot x=some i):CQ S.sc x=true/\(x == ("__debug__" : Str))=false/\(x == ("__classdict__" : Str))=false/\S.N[i]?=some x/\S.gh≠some i:=by
 unfold Sx.slot at h;split at h
 ·rename_i hc;simp only [AU,Qg] at hc;obtain ⟨h,hg⟩:=Option.filter_eq_some_iff.mp h;exact ⟨hc.1.1,hc.1.2,hc.2,g6 h,by simpa using hg⟩
 ·cases h
theorem XS.slot (xs:XS E S X M) {x:Str}{i:Nat} (h:S.slot x=some i):X.N[i]?=some x/\M.gh≠some i/\M.al i=S.alF i:=by
 obtain ⟨_,_,_,h4,h5⟩:=Yj h;exact ⟨by rw [xs.N];exact h4,by rw [xs.gh];exact h5,xs.al i (jb0.mp h4).1⟩
theorem XS.var (xs:XS E S X M) {x:Str}{i:Nat}{pos:Pos} (h:S.slot x=some i):PE X (.Name x pos) (Dw i):=by
 obtain ⟨h1,h2,h3,_⟩:=Yj h;exact vb (xs.slot h).1 (by rw [xs.sc];exact Xi h1) h2 h3
theorem XS.gl (xs:XS E S X M) {x:Str} (h:S.glob x=true):Gl X x:=by
 show X.env.scope.names.lookup x=_;rw [xs.sc];exact GN h
theorem XS.bn (xs:XS E S X M) (v:Env' E S) {x:Str} (h:x∈zjk):X.mg x=none:=by rw [xs.mg];exact v.bn x h
theorem CJ {e:Expr}{es:List Expr}{env:Env} (h:Jm e=true):Bt (e::es) env=(false,eval e env)::Bt es env:=by
 cases e <;> first | rfl | cases h
theorem LD {env:Env}{pos:Pos}:∀ {es:List Expr},es.all Jm=true->(FV pos (Bt es env)).any (·.1)=false
 | [],_=>rfl
 | e::es,h=>by
  rw [Hg,AU] at h;rw [CJ h.1];show (false || (FV pos (Bt es env)).any (·.1))=false;rw [LD h.2];rfl
theorem VH {b:Expr} (h:K2 b=true):Tt b:=by
 intro o i;cases b <;> first | rfl | cases h
theorem DU {e:Expr} (h2:Jm e=true) (h3:∀ env whole,isTrue e env whole=(do let v<-whole;standAt e.pos;holding [v] (truthy v))) (h:∀ E X M,Env' E S->XS E S X M->PE X e (tE M f vs)):N6 S e f vs:=
 ⟨h2,λ E X M v xs=>⟨h E X M v xs,ML (vq (h E X M v xs) λ wh=>h3 _ wh) λ σ H Q q=>Ta q⟩⟩
theorem R.pe {e:Expr} (r:R S e) (v:Env' E S) (xs:XS E S X M):PE X e (tE M r.f r.vs):=(r.ok.2 E X M v xs).1
theorem R.pt {e:Expr} (r:R S e) (v:Env' E S) (xs:XS E S X M):PT X e (tT M (bT r.f)):=(r.ok.2 E X M v xs).2
theorem uP {Q:Bool->Hp->Prop} (hq:tT M (bT (Fp f g)) σ H Q):Mu (tT M (bT f)) (tT M (bT g)) σ H Q:=by
 obtain ⟨ρ,gg,rep,q⟩:=hq;have q:OutE M σ H ((bT f ρ).bind λ (b,ρ1)=>if b=true then bT g ρ1 else .ok (false,ρ1)) λ p=>p.2=ρ->∀ H',Le H H'->Q p.1 H':=by
  revert q;unfold bT Fp;cases f ρ with
  | ok p=>obtain ⟨x,d,ρ1⟩:=p;cases x <;> first | exact id | (rename_i b;cases b <;> exact id)
  | _=>exact id
 refine MF rep q λ b H1 l r q=>?_;cases b
 ·exact q rfl H1 l
 ·exact ⟨ρ,gg,r,OutE.mono (OutE.from l q) λ p q e H' l'=>q e H' (l.trans l')⟩
theorem wm {Q:Bool->Hp->Prop} (hq:tT M (bT (AZ f g)) σ H Q):Wl (tT M (bT f)) (tT M (bT g)) σ H Q:=by
 obtain ⟨ρ,gg,rep,q⟩:=hq;have q:OutE M σ H ((bT f ρ).bind λ (b,ρ1)=>if b=true then .ok (true,ρ1) else bT g ρ1) λ p=>p.2=ρ->∀ H',Le H H'->Q p.1 H':=by
  revert q;unfold bT AZ;cases f ρ with
  | ok p=>obtain ⟨x,d,ρ1⟩:=p;cases x <;> first | exact id | (rename_i b;cases b <;> exact id)
  | _=>exact id
 refine MF rep q λ b H1 l r q=>?_;cases b
 ·exact ⟨ρ,gg,r,OutE.mono (OutE.from l q) λ p q e H' l'=>q e H' (l.trans l')⟩
 ·exact q rfl H1 l
theorem uQ {Q:Bool->Hp->Prop} (hq:tT M (bT (AL BU f)) σ H Q):Mq (tT M (bT f)) σ H Q:=by
 obtain ⟨ρ,gg,rep,q⟩:=hq;have q:OutE M σ H ((bT f ρ).bind λ (b,ρ1)=>.ok (!b,ρ1)) λ p=>p.2=ρ->∀ H',Le H H'->Q p.1 H':=by
  revert q;unfold bT AL;cases f ρ with
  | ok p=>obtain ⟨x,d,ρ1⟩:=p;cases x <;> exact id
  | _=>exact id
 exact MF rep q λ b H1 l r q=>q rfl H1 l
end
section
variable {X:Cx}{M:Fm}{f g:Fx}{fb:Fb}{vs:List Nat}{σ:St}{H:Hp}{a:Expr}{p p2 p3 p4 pos pos2:Pos}{k:Nat}
theorem wj {Q:Bool->Hp->Prop} (hq:tT M (bT (C4 fb f g)) σ H Q):Mr (tT M fb) (tT M (bT f)) (tT M (bT g)) σ H Q:=by
 obtain ⟨ρ,gg,rep,q⟩:=hq;have q:OutE M σ H ((fb ρ).bind λ (b,ρ1)=>if b=true then bT f ρ1 else bT g ρ1) λ p=>p.2=ρ->∀ H',Le H H'->Q p.1 H':=by
  revert q;unfold bT C4;cases fb ρ with
  | ok p=>obtain ⟨b,ρ1⟩:=p;cases b <;> exact id
  | _=>exact id
 refine MF rep q λ b H1 l r q=>?_;cases b <;> exact ⟨ρ,gg,r,OutE.mono (OutE.from l q) λ p q e H' l'=>q e H' (l.trans l')⟩
theorem IsL.rev {K:Kx}{Z:Addr->Prop}:∀ {xs:List PV}{ws:List V},IsL K H Z xs ws->IsL K H Z xs.reverse ws.reverse
 | _,_,.nil=>.nil
 | _,_,.cons h t=>by rw [Ni,Ni];exact Paired.append (IsL.rev t) (.cons h .nil)
theorem ud (hc:X.calm=true) (hgL:Gl X "list") (hmL:X.mg "list" = none) (hgR:Gl X "reversed") (hmR:X.mg "reversed" = none) (ha:PE X a (tE M f vs)) (hs:Bt [a] X.env=[(false,eval a X.env)]):
  PE X (.Call (.Name "list" p) [.Call (.Name "reversed" p2) [a] [] pos2] [] pos) (tE M (AL Lg f) vs):=by
 refine Cs (uy hc hgL hmL hgR hmR ha hs) λ σ H Q h=>Pp (λ K x d z c v H Q zz hk ho zk o1 lf=>?_) h;unfold Lg at ho;split at ho
 ·cases ho;obtain ⟨p,ws,rfl,_,hp,ol⟩:=o1.lst;exact ⟨p,ws,rfl,.inl (.inl hp),λ q hq=>lf.lstD zk (zk.low ol).rev hq⟩
 ·cases ho
end
def U2 {S:Sx}{j p} (i:Int):R S (.Constant (.int i) j p):=⟨bC (.int i),[],DU rfl (λ _ _=>rfl) λ _ _ _ _ _=>Cs vL λ _ _ _=>Oz rfl⟩
def jV {S:Sx}:∀ (c:Const) (j p),T S (.Constant c j p)
 | .int i,_,_=>some (U2 i)
 | .bool b,_,_=>some ⟨bC (.bl b),[],DU rfl (λ _ _=>rfl) λ _ _ _ _ _=>Cs j0 λ _ _ _=>Oz rfl⟩
 | .none,_,_=>some ⟨bC .non,[],DU rfl (λ _ _=>rfl) λ _ _ _ _ _=>Cs vP λ _ _ _=>Oz rfl⟩
 | .str x,_,_=>some ⟨bC (.str x),[],DU rfl (λ _ _=>rfl) λ _ _ _ _ _=>Cs vR λ _ _ _=>Oz rfl⟩
 | _,_,_=>none
def Cj {α:Type} (b:Bool) (k:b=true->Option α):Option α:=if h:b=true then k h else none
def Bp {α β:Type} (o:Option α) (k:∀ a,o=some a->Option β):Option β:=match o,k with
 | some a,k=>k a rfl
 | none,_=>none
def jH {S:Sx} (x:Str) (p):T S (.Name x p):=Bp (S.slot x) λ i h=>some ⟨Aa i,i::S.alF i,DU rfl (λ _ _=>rfl) λ _ _ _ _ xs=>Cs (xs.var h) λ _ _ _ q=>vW (xs.slot h).2.1 (by rw [(xs.slot h).2.2];exact q)⟩
def UC {S:Sx} (d:Dn) (a op b p):T S (.BinOp a op b p):=Bp (Sg op) λ o h=>(d S a).bind λ r=>(d S b).bind λ s=>some ⟨Ac o r.f s.f,r.vs++s.vs,DU rfl (λ _ _=>rfl) λ _ _ _ v xs=>kn h (r.pe v xs) (s.pe v xs)⟩
def Uy {S:Sx} (d:Dn) (a p):T S (.UnaryOp .USub a p):=(d S a).bind λ r=>some ⟨AL Iq r.f,r.vs,DU rfl (λ _ _=>rfl) λ _ _ _ v xs=>w6 (r.pe v xs)⟩
def Ux {S:Sx} (d:Dn) (a p):T S (.UnaryOp .Not a p):=(d S a).bind λ r=>some ⟨AL BU r.f,r.vs,rfl,λ _ _ _ v xs=>⟨Cs (vQ (r.pe v xs)) λ _ _ _=>uv,ML (vp (r.pt v xs)) λ _ _ _=>uQ⟩⟩
def Ny {S:Sx} (d:Dn) (p):∀ es,Option { r:Fx×List Nat // ∀ E X M,Env' E S->XS E S X M->PE X (.BoolOp .And es p) (tE M r.1 r.2)/\PW X (.BoolOp .And es p) (tT M (bT r.1)) }
 | []=>none
 | [e]=>(d S e).bind λ r=>some ⟨(r.f,r.vs),λ _ _ _ v xs=>⟨Xr (r.pe v xs),yZ (r.pt v xs)⟩⟩
 | e::e'::es=>(d S e).bind λ r=>(Ny d p (e'::es)).bind λ s=>some ⟨(Fp r.f s.1.1,r.vs++s.1.2),λ E X M v xs=>⟨Cs (vK (r.pe v xs) (s.2 E X M v xs).1) λ _ _ _=>uq,Xx (vy (r.pt v xs) (s.2 E X M v xs).2) λ _ _ _=>uP⟩⟩
def xg {S:Sx} (d:Dn) (p):∀ es,Option { r:Fx×List Nat // ∀ E X M,Env' E S->XS E S X M->PE X (.BoolOp .Or es p) (tE M r.1 r.2)/\PW X (.BoolOp .Or es p) (tT M (bT r.1)) }
 | []=>none
 | [e]=>(d S e).bind λ r=>some ⟨(r.f,r.vs),λ _ _ _ v xs=>⟨Xr (r.pe v xs),vz (r.pt v xs)⟩⟩
 | e::e'::es=>(d S e).bind λ r=>(xg d p (e'::es)).bind λ s=>some ⟨(AZ r.f s.1.1,r.vs++s.1.2),λ E X M v xs=>⟨Cs (j4 (r.pe v xs) (s.2 E X M v xs).1) λ _ _ _=>vV,Xx (j9 (r.pt v xs) (s.2 E X M v xs).2) λ _ _ _=>wm⟩⟩
def je {S:Sx} (d:Dn) (o es p):T S (.BoolOp o es p):=match o with
 | .And=>(Ny d p es).map λ r=>⟨r.1.1,r.1.2,rfl,λ E X M v xs=>⟨(r.2 E X M v xs).1,(r.2 E X M v xs).2.pt⟩⟩
 | .Or=>(xg d p es).map λ r=>⟨r.1.1,r.1.2,rfl,λ E X M v xs=>⟨(r.2 E X M v xs).1,(r.2 E X M v xs).2.pt⟩⟩
def mB {S:Sx} (d:Dn) (t a b p):T S (.IfExp t a b p):=(d S t).bind λ c=>(d S a).bind λ r=>(d S b).bind λ s=>some ⟨C4 (bT c.f) r.f s.f,r.vs++s.vs,rfl,λ _ _ _ v xs=>
 ⟨Cs (bO (c.pt v xs) (r.pe v xs) (s.pe v xs)) λ _ _ _=>vU,ML (vn (c.pt v xs) (r.pt v xs) (s.pt v xs)) λ _ _ _=>wj⟩⟩
def UA {S:Sx} (d:Dn) (a op b p):T S (.Compare a [op] [b] p):=Bp (Si b op) λ o h=>(d S a).bind λ r=>(d S b).bind λ s=>some ⟨Ac o r.f s.f,r.vs++s.vs,rfl,λ _ X _ v xs=>
 have c:=uY (X:=X) h xs.room.units;⟨Cs (ux c.1 (r.pe v xs) (s.pe v xs) c.2) λ _ _ _=>Xb xs.k,ML (yT c.1 (r.pe v xs) (s.pe v xs) c.2) λ _ _ _ q=>Xb xs.k (Ta q)⟩⟩
def jU {S:Sx} (d:Dn) (a op op' b c p):T S (.Compare a [op,op'] [b,c] p):=Bp (JX op) λ _ h1=>Bp (JX op') λ _ h2=>(d S a).bind λ r=>(d S b).bind λ s=>(d S c).bind λ t=>some ⟨Hv _ _ r.f s.f t.f,[],rfl,λ _ X _ v xs=>
 have r1:=ZF (X:=X) h1;have r2:=ZF (X:=X) h2
 ⟨Cs (bM r1.1 r2.1 (r.pe v xs) (s.pe v xs) (t.pe v xs) (QR _ r2.2.1 r2.2.2)) λ _ _ _=>Zi,ML (bf r1.1 r2.1 (r.pe v xs) (s.pe v xs) (t.pe v xs) (QR _ r2.2.1 r2.2.2)) λ _ _ _ q=>Zi (vs:=[]) (Ta q)⟩⟩
def Gn {S:Sx} (d:Dn):∀ es,Option (RA S es)
 | []=>some ⟨Ab,[],rfl,λ _ _ _ _ _=>WZ⟩
 | e::es=>(d S e).bind λ r=>(Gn d es).bind λ s=>some ⟨Ad r.f s.f,r.vs++s.vs,by rw [Hg,r.ok.1,s.ok.1];rfl,λ E X M v xs=>Yh (r.pe v xs) (s.ok.2 E X M v xs) (CJ r.ok.1)⟩
def U0 {S:Sx} (d:Dn) (es p):T S (.List es p):=(Gn d es).bind λ r=>some ⟨Aq Bw r.f,r.vs,DU rfl (λ _ _=>rfl) λ E X M v xs=>wz (r.ok.2 E X M v xs)⟩
def Us {S:Sx} (d:Dn) (es k p):T S (.Tuple es k p):=(Gn d es).bind λ r=>some ⟨Aq BL r.f,r.vs,DU rfl (λ _ _=>rfl) λ E X M v xs=>w8 (r.ok.2 E X M v xs)⟩
def U5 {S:Sx} (d:Dn) (a b p):T S (.Subscript a b p):=Cj (K2 b) λ h=>(d S a).bind λ r=>(d S b).bind λ s=>some ⟨Ac AQ r.f s.f,r.vs++s.vs,DU rfl (λ _ _=>rfl) λ _ _ _ v xs=>
 vH (by have:=xs.room.units;omega) xs.k (VH h) (r.pe v xs) (s.pe v xs)⟩
structure RO (S:Sx) (e:Option Expr) where
 f:Option (Fx×List Nat)
 ok:∀ E X M,Env' E S->XS E S X M->PO X e (tO M f)
def Nw {S:Sx} (d:Dn):∀ e,Option (RO S e)
 | none=>some ⟨none,λ _ _ _ _ _=>yP⟩
 | some e=>(d S e).bind λ r=>some ⟨some (r.f,r.vs),λ _ _ _ v xs=>yQ (r.pe v xs)⟩
def m8 {S:Sx} (d:Dn) (a lo hi q p):T S (.Subscript a (.Slice lo hi none q) p):=(d S a).bind λ r=>(Nw d lo).bind λ l=>(Nw d hi).bind λ u=>some ⟨Jc r.f (l.f.map (·.1)) (u.f.map (·.1)),r.vs,DU rfl (λ _ _=>rfl) λ E X M v xs=>
 Cs (bP (qoi.or (qr3.or w9)) (r.pe v xs) (l.ok E X M v xs) (u.ok E X M v xs)) λ _ _ _=>kz⟩
def J4 (x:Str):Option String:=if x = "int" then some "int" else if x = "bool" then some "bool" else if x = "str" then some "str" else if x = "list" then some "list" else if x = "tuple" then some "tuple" else if x = "dict" then some "dict" else none
theorem u7 {T:Str}{t:String} (h:J4 T=some t):t∈Ih/\T∈zjk/\IG T=some (.type t)/\(T == ("__debug__" : Str))=false/\T ≠ "__name__" := by
 unfold J4 at h
 repeat (split at h;(rename_i e;cases h;rw [e];exact ⟨by decide,by decide +kernel,rfl,by decide +kernel,by decide +kernel⟩))
 cases h
def HA (X:Cx) (op:List (PV×Nat)->Option (PV×Nat)) (r:List V->Hp->VK->Prop):Prop:=∀ (K:Kx) xs z c ws H Q zz,K.K=X.K->op xs=some (z,c)->Zk zz H->Bj (λ p v=>Is K H (zz p.2) p.1 v) xs ws->Leaf K zz H z c Q->r ws H Q
structure BR where
 x:Str
 op:List (PV×Nat)->Option (PV×Nat)
 ok:x∈zjk/\x ≠ "__name__" /\ (x == ("__debug__" : Str))=false/\∀ X:Cx,X.calm=true->X.A.units + 64 < Cv->∃ (v:Ae) (r:List V->Hp->VK->Prop),((∃ id,v=.builtin id)\/∃ t,v=.type t)/\IG x=some v/\zzw X v r/\HA X op r
theorem wM {S:Sx}{E:Wd}{X:Cx}{M:Fm}{fa:Fa}{vs:List Nat}{e:Expr}{es:List Expr}{p pos:Pos} (b:BR) (v:Env' E S) (xs:XS E S X M) (hg:S.glob b.x=true) (hs:(e::es).all Jm=true) (ha:PA X (e::es) (tL M fa vs)):PE X (.Call (.Name b.x p) (e::es) [] pos) (tE M (Aq b.op fa) vs):=by
 obtain ⟨h1,h2,h3,h4⟩:=b.ok;obtain ⟨u,r,k,hb,hc,hl⟩:=h4 X xs.calm xs.room.units;rw [Hg,AU] at hs;have i:∀ σ H Q,tE M (Aq b.op fa) vs σ H Q->RY r (tL M fa vs) σ H Q:=λ σ H Q q=>Yp (r:=r) (λ K xs' z c ws H Q zz hk=>hl K xs' z c ws H Q zz (hk.trans xs.k)) q;rcases k with ⟨id,rfl⟩ | ⟨t,rfl⟩
 ·exact Cs (YV hc (xs.gl hg) (xs.bn v h1) hb ha h2 h3 (CJ hs.1) (LD hs.2)) i
 ·exact Cs (dY hc (xs.gl hg) (xs.bn v h1) hb ha h2 h3 (CJ hs.1) (LD hs.2)) i
def N1 (bs:List BR) (x:Str):Option { b:BR // b.x=x }:=match bs with
 | []=>none
 | b::r=>if h:b.x=x then some ⟨b,h⟩ else N1 r x
def jF {S:Sx} (d:Dn) (x p y p2 a q p3):T S (.Call (.Name x p) [.Call (.Name y p2) [a] [] q] [] p3):=if h:x = "list" /\ y = "reversed" then Cj (S.glob "list" && S.glob "reversed") λ hg=>(d S a).bind λ r=>some ⟨AL Lg r.f,r.vs,DU rfl (λ _ _=>rfl) λ _ _ _ v xs=>by
 obtain ⟨rfl,rfl⟩:=h;rw [AU] at hg;exact ud xs.calm (xs.gl hg.1) (xs.bn v (by decide +kernel)) (xs.gl hg.2) (xs.bn v (by decide +kernel)) (r.pe v xs) (CJ r.ok.1)⟩ else none
def U1 {S:Sx} (d:Dn) (x p e T' p2 q):T S (.Call (.Name x p) [e,.Name T' p2] [] q):=if h:x = "isinstance" then Bp (J4 T') λ t ht=>Cj (S.glob "isinstance" && S.glob T') λ hg=>(d S e).bind λ r=>some ⟨AL (E7 t) r.f,r.vs,DU rfl (λ _ _=>rfl) λ E X M v xs=>by
 subst h;rw [AU] at hg;obtain ⟨h1,h2,h3,h4,h5⟩:=u7 ht;exact wy h1 xs.k (r.pe v xs) (xs.gl hg.1) (xs.bn v (by decide +kernel)) (uw (xs.gl hg.2) (xs.bn v h2) h3 rfl h5 h4) (CJ r.ok.1) rfl⟩ else none
def UB {S:Sx} (bs:List BR) (d:Dn) (x p es q):T S (.Call (.Name x p) es [] q):=(N1 bs x).bind λ b=>Cj (S.glob x) λ hg=>match es with
 | []=>none
 | e::es=>(Gn d (e::es)).bind λ r=>some ⟨Aq b.1.op r.f,r.vs,DU rfl (λ _ _=>rfl) λ E X M v xs=>by
  obtain ⟨b,rfl⟩:=b;exact wM b v xs hg r.ok.1 (r.ok.2 E X M v xs)⟩
def jf {S:Sx} (d:Dn) (x p es q):T S (.Call (.Name x p) es [] q):=Bp (S.Γ.lookup x) λ nF hx=>Cj (S.glob x) λ hg=>match es with
 | []=>none
 | e::es=>(Gn d (e::es)).bind λ r=>some ⟨Ak nF.2 r.f,r.vs,DU rfl (λ _ _=>rfl) λ E X M v xs=>by
  obtain ⟨hdb,hF,fa,fd,ps,hm,hk,hb,hn,ok⟩:=v.gs x nF.1 nF.2 hx;have hs:=r.ok.1;rw [Hg,AU] at hs;rw [<- xs.prog,<- xs.w,<- xs.K,<- xs.mg,<- xs.base] at ok;rw [<- xs.K] at hk hb;rw [<- xs.mg] at hm;exact Cs (bL ok xs.room (xs.gl hg) hm hk hb xs.ps (r.ok.2 E X M v xs) hdb (CJ hs.1) (LD hs.2)) λ σ H Q q'=>by
   have:=ur hF q'
   rw [xs.k] at this;exact this⟩
def FK (scope sc:B1):B1:={ scope with names:=scope.names.map λ (n,k)=>if (k == .free && sc.kind == .function && sc.names.lookup n == some .cell) then (n,.cell) else (n,k) }
def TF (i:Nat):Str:=⟨#[2000000 + i]⟩
def J9 (sc':B1):Nat->List Str->List Str
 | _,[]=>[]
 | i,x::r=>(if Dj sc' x .cell || Dj sc' x .free then x else TF i)::J9 sc' (i + 1) r
def Ov:List Expr->Option (List Str)
 | []=>some []
 | .Name x _::r=>(Ov r).map (x::·)
 | _=>none
def Pc (n:Nat):Expr->Option (List Str×(PV->Af->Option Af))
 | .Name x _=>some ([x],asgN n)
 | .Tuple es _ _=>(Ov es).map λ xs=>(xs,asgT (JK n xs.length))
 | _=>none
def Ca (S:Sx) (scope:B1) (xs:List Str) (vI:List Nat):Sx:=⟨J9 (FK scope S.sc) 0 S.N++xs,FK scope S.sc,S.Γ,false,S.xc,(An S.N.length).map S.alF++A6 xs.length vI,S.gh⟩
def LK (S:Sx) (scope:B1) (xs:List Str) (vI:List Nat):Bool:=
 let S':=Ca S scope xs vI;decide (scope.kind=.function) && scope.names.all (λ x=>x.2 != .free || !(scope.names.contains (x.1,.cell))) && scope.names.all (λ x=>x.2 != .local || scope.names.lookup x.1 == some .local)
 && scope.names.all (λ x=>x.2 != .free || (S.sc.names.lookup x.1 == some .cell || S.sc.names.lookup x.1 == some .free))
 && (An S.N.length).all (λ i=>match S'.N[i]? with
  | some x=>!CQ S'.sc x || (decide (S.N[i]?=some x) && CQ S.sc x && scope.names.contains (x,.free) && !Dj S'.sc x .local)
  | none=>true)
 && decide S'.N.Nodup && xs.all (λ x=>Dj S'.sc x .local || (Dj S'.sc x .cell && scope.names.contains (x,.cell))) && decide (S.N.length≠0) && (match S.gh with | some i=>decide (i < S.N.length) | none=>true)
section
variable {E:Wd}{S:Sx}{X:Cx}{M:Fm}{f g:Fx}{vs vs':List Nat}{σ:St}{H:Hp}{Q:VK}
theorem QF (scope:B1) (env:Env):IE scope env=FK scope env.scope:=rfl
theorem Qr {x:Str}{k:Dv}{sc:B1}:∀ (l:List (Str×Dv)),(k=.cell\/k=.free)->(l.map λ (n,k)=>if (k == NameKind.free && sc.kind == .function && sc.names.lookup n == some .cell) then (n,NameKind.cell) else (n,k)).lookup x=some k->(x,NameKind.free)∈l\/(x,NameKind.cell)∈l
 | [],_,h=>by simp at h
 | (n,j)::r,hk,h=>by
  rw [AR] at h;have ih:=Qr (x:=x) (k:=k) (sc:=sc) r hk;dsimp only at h;by_cases hj:(j == NameKind.free && sc.kind == .function && sc.names.lookup n == some .cell)=true
  ·rw [if_pos hj,Fg] at h;split at h
   ·rename_i hx;rw [AU,AU] at hj;have e1:x=n:=eq_of_beq hx;have e2:j=.free:=eq_of_beq hj.1.1;rw [e1,e2];exact .inl AD
   ·exact (ih h).imp (AE _) (AE _)
  ·rw [if_neg hj,Fg] at h;split at h
   ·rename_i hx;have e1:x=n:=eq_of_beq hx;have e2:j=k:=Option.some.inj h;rcases hk with z | z
    ·rw [e1,e2,z];exact .inr AD
    ·rw [e1,e2,z];exact .inl AD
   ·exact (ih h).imp (AE _) (AE _)
theorem LR (sc':B1):∀ (N:List Str) (i:Nat),(J9 sc' i N).length=N.length
 | [],_=>rfl
 | x::r,i=>by rw [J9,AY,LR sc' r (i + 1),AY]
structure ChkOk (S:Sx) (scope:B1) (xs:List Str) (vI:List Nat):Prop where
 kind:scope.kind=.function
 dis:∀ x,(x,NameKind.free)∈scope.names->(x,NameKind.cell)∉scope.names
 names:∀ x∈scope.names,x.2=.local->scope.names.lookup x.1=some .local
 free:∀ x∈scope.names,x.2=.free->S.sc.names.lookup x.1=some .cell\/S.sc.names.lookup x.1=some .free
 capt:∀ (i:Nat) (x:Str),i < S.N.length->(Ca S scope xs vI).N[i]?=some x->Ii (FK scope S.sc) x->S.N[i]?=some x/\Ii S.sc x/\(x,NameKind.free)∈scope.names/\(FK scope S.sc).names.lookup x≠some .local
 nd:(Ca S scope xs vI).N.Nodup
 loc:∀ x∈xs,(FK scope S.sc).names.lookup x=some .local\/((FK scope S.sc).names.lookup x=some .cell/\(x,NameKind.cell)∈scope.names)
 pos:S.N.length≠0
 gh:∀ i,S.gh=some i->i < S.N.length
theorem uA {sc:B1}{x:Str} (h:Ii sc x):CQ sc x=true:=by
 unfold CQ Dj;rcases h with h | h | h <;> rw [h] <;> simp
theorem jS {scope:B1}{xs:List Str}{vI:List Nat} (h:LK S scope xs vI=true):ChkOk S scope xs vI:=by
 unfold LK at h;simp only [AU,decide_eq_true_eq,jb3,bne_iff_ne,ne_eq,G8] at h;obtain ⟨⟨⟨⟨⟨⟨⟨⟨h1,h2⟩,h3⟩,h4⟩,h5⟩,h6⟩,h7⟩,h8⟩,h9⟩:=h;refine ⟨h1,λ x hx hz=>(h2 (x,.free) hx).elim (λ z=>z rfl) λ z=>?_,λ x hx he=>(h3 x hx).elim (λ z=>absurd he z) λ z=>eq_of_beq z,λ x hx he=>(h4 x hx).elim (λ z=>absurd he z) λ z=>z.elim (λ z=>.inl (eq_of_beq z)) λ z=>.inr (eq_of_beq z),λ i x hi e hv=>?_,h6,λ x hx=>(h7 x hx).imp GN λ z=>⟨GN z.1,by simpa using z.2⟩,h8,λ i e=>by rw [e] at h9;simpa using h9⟩
 ·have z':(!(scope.names.contains (x,NameKind.cell)))=true:=z
  have:scope.names.contains (x,NameKind.cell)=true:=by simpa using hz
  rw [this] at z';cases z'
 have q:=h5 i (jc2.mpr hi);rw [e] at q;dsimp only at q;rw [G8] at q;rcases q with q | q
 ·have:CQ (FK scope S.sc) x=true:=uA hv
  have q':(!CQ (FK scope S.sc) x)=true:=q;rw [this] at q';cases q'
 ·simp only [AU,decide_eq_true_eq,Qg] at q;obtain ⟨⟨⟨q1,q2⟩,q3⟩,q4⟩:=q;refine ⟨q1,Xi q2,by simpa using q3,λ z=>?_⟩
  have:Dj (FK scope S.sc) x .local=true:=by unfold Dj;rw [z];simp
  have q4':Dj (FK scope S.sc) x .local=false:=q4;rw [this] at q4';cases q4'
theorem ChkOk.comp {scope:B1}{ys:List Str}{vI:List Nat} (c:ChkOk S scope ys vI) (xs:XS E S X M):CompOk X scope (Ca S scope ys vI).N ys.length where
 kind:=c.kind
 dis:=c.dis
 names:=c.names
 len:=by
  show (J9 _ 0 S.N++ys).length=_;rw [Bm,LR,xs.N]
 free:=λ x hx he=>by
  show X.env.scope.names.lookup x.1=_\/X.env.scope.names.lookup x.1=_;rw [xs.sc];exact c.free x hx he
 kinds:=λ x h=>by
  rcases h with h | h
  ·exact Qr (sc:=X.env.scope) scope.names (.inl rfl) h
  ·exact Qr (sc:=X.env.scope) scope.names (.inr rfl) h
 capt:=λ i x hi e hv=>by
  rw [QF,xs.sc] at hv ⊢;rw [xs.N] at hi ⊢;exact c.capt i x hi e hv
theorem uS {scope:B1}{ys:List Str}{vI:List Nat} (i:Nat):(Ca S scope ys vI).alF i=if i < S.N.length then S.alF i else if i < S.N.length + ys.length then vI else []:=by
 unfold Sx.alF Ca;dsimp only;rw [A7];by_cases h:i < S.N.length
 ·rw [DC (by simpa using h),if_pos h];simp [h,Sx.alF,A7]
 ·rw [GF (by simpa using h),if_neg h,Gb];simp only [Ax,CF];by_cases h2:i < S.N.length + ys.length
  ·rw [if_pos h2,if_pos (by omega)];rfl
  ·rw [if_neg h2,if_neg (by omega)];rfl
theorem ChkOk.xs {scope:B1}{ys:List Str}{vI:List Nat}{D:Addr}{M':Fm} (c:ChkOk S scope ys vI) (xs:XS E S X M) (inn:Inn M D S.N.length vI M') (s2:Ai) (H2:Hp) (C:Addr) (fp:List Addr) (pins:List (Addr×Obj)):XS E (Ca S scope ys vI) (B8 X s2 H2 scope C (Ca S scope ys vI).N fp pins) M':=
 ⟨xs.prog,xs.w,xs.K,xs.mg,xs.base,rfl,by show IE scope X.env=_;rw [QF,xs.sc];rfl,xs.calm,xs.room,PassesOwn.never,by rw [inn.W];exact vJ,(λ h=>nomatch h),inn.K.trans xs.k,λ i hi=>by
  rw [uS,inn.al];have hl:(Ca S scope ys vI).N.length=S.N.length + ys.length:=by
   show (J9 _ 0 S.N++ys).length=_;rw [Bm,LR]
  rw [hl] at hi;by_cases h:i < S.N.length
  ·rw [if_pos h];exact (if_pos h).trans (xs.al i h)
  ·rw [if_neg h,if_pos hi];exact if_neg h,inn.gh.trans xs.gh⟩
theorem LL {iter:Expr}{env:Env} (h:EM iter=true):∀ x,OM iter env x=pure x:=by
 intro x;cases iter <;> first | rfl | cases h
theorem Jo {tg it:Expr}{t t':TI} (h:PI X tg it t) (i:∀ σ H R,t' σ H R->t σ H R):PI X tg it t':=λ pins s σ H R I q=>h pins s σ H R I (i σ H R q)
end
structure RI (S:Sx) (tg it:Expr) where
 F:Fi
 vs:List Nat
 ok:EM it=true/\∀ E X M,Env' E S->XS E S X M->PI X tg it (tI M F vs)
def Wu {S:Sx}{tg} (d:Dn) (it:Expr):Option (RI S tg it):=Cj (EM it) λ h=>(d S it).bind λ r=>some ⟨C0 r.f,r.vs,h,λ _ _ _ v xs=>Jo (Xu (r.pe v xs)) λ _ _ _ q=>xs.k ▸ Ww q⟩
def Uo {S:Sx}{tg} (d:Dn) (x p es q):Option (RI S tg (.Call (.Name x p) es [] q)):=if h:x = "range" then Cj (S.glob "range") λ hg=>match es with
 | [a]=>(Gn d [a]).bind λ r=>some ⟨CT Bn r.f,[],rfl,λ E X M v xs=>by
  subst h;have hs:=r.ok.1;simp only [Hg,Nb,JM] at hs;exact Jo (dZ (xs.gl hg) (xs.bn v (by decide +kernel)) (r.ok.2 E X M v xs) (CJ hs)) λ _ _ _ q=>kh q⟩
 | [a,b]=>(Gn d [a,b]).bind λ r=>some ⟨CT Lb r.f,[],rfl,λ E X M v xs=>by
  subst h;have hs:=r.ok.1;simp only [Hg,Nb,JM,AU] at hs;have s2:Bt [b] X.env=[(false,eval b X.env)]:=CJ hs.2;exact Jo (fc (xs.gl hg) (xs.bn v (by decide +kernel)) (r.ok.2 E X M v xs) (by rw [CJ hs.1,s2]) s2) λ _ _ _ q=>kj q⟩
 | _=>none else none
def Up {S:Sx}{tg} (d:Dn) (x p es q):Option (RI S tg (.Call (.Name x p) es [] q)):=if h:x = "range" then Cj (S.glob "range") λ hg=>match es with
 | [a,b,c]=>(Gn d [a,b,c]).bind λ r=>some ⟨HW r.f,[],rfl,λ E X M v xs=>by
  subst h;have hs:=r.ok.1;rw [Hg,AU] at hs;exact Jo (u0 (xs.gl hg) (xs.bn v (by decide +kernel)) (r.ok.2 E X M v xs) (CJ hs.1) (LD hs.2)) λ _ _ _ q=>kf q⟩
 | _=>none else none
def jm {S:Sx}{tg} (d:Dn) (x p es q):Option (RI S tg (.Call (.Name x p) es [] q)):=if h:x = "reversed" then Cj (S.glob "reversed") λ hg=>match es with
 | [a]=>(Gn d [a]).bind λ r=>some ⟨CA .rev r.f,r.vs,rfl,λ E X M v xs=>by
  subst h;have hs:=r.ok.1;simp only [Hg,Nb,JM] at hs;exact Jo (vc (xs.gl hg) (xs.bn v (by decide +kernel)) (r.ok.2 E X M v xs) (CJ hs)) λ _ _ _ q=>xs.k ▸ JY q⟩
 | _=>none else none
def jl {S:Sx}{tg} (d:Dn) (x p es q):Option (RI S tg (.Call (.Name x p) es [] q)):=if h:x = "enumerate" then Cj (S.glob "enumerate") λ hg=>match tg,es with
 | .Tuple _ _ _,[a]=>(Gn d [a]).bind λ r=>some ⟨CA .enm r.f,r.vs,rfl,λ E X M v xs=>by
  subst h;have hs:=r.ok.1;simp only [Hg,Nb,JM] at hs;exact Jo (u3 (xs.gl hg) (xs.bn v (by decide +kernel)) (r.ok.2 E X M v xs) (CJ hs)) λ _ _ _ q=>xs.k ▸ JY q⟩
 | _,_=>none else none
def jn {S:Sx}{tg} (d:Dn) (x p es q):Option (RI S tg (.Call (.Name x p) es [] q)):=if h:x = "zip" then Cj (S.glob "zip") λ hg=>match tg,es with
 | .Tuple _ _ _,[a,b]=>(Gn d [a,b]).bind λ r=>some ⟨CA .zp r.f,r.vs,rfl,λ E X M v xs=>by
  subst h;have hs:=r.ok.1;simp only [Hg,Nb,JM,AU] at hs;have s2:Bt [b] X.env=[(false,eval b X.env)]:=CJ hs.2;exact Jo (vd (xs.gl hg) (xs.bn v (by decide +kernel)) (r.ok.2 E X M v xs) (by rw [CJ hs.1,s2]) s2) λ _ _ _ q=>xs.k ▸ JY q⟩
 | _,_=>none else none
abbrev In:=Dn->∀ (S:Sx) (tg it:Expr),Option (RI S tg it)
def AO:Fb:=λ ρ=>.ok (true,ρ)
structure RT (S:Sx) (ifs:List Expr) where
 f:Fb
 ok:∀ E X (P:Fm->Prop),Env' E S->(∃ M,P M)->(∀ M,P M->XS E S X M)->Ke X ifs λ σ H Q=>∃ M,P M/\tT M f σ H Q
def U3 {S:Sx} (d:Dn):∀ ifs,Option (RT S ifs)
 | []=>some ⟨AO,λ _ _ _ _ _ _ pins s σ H Q I ⟨_,_,_,_,_,q⟩=>yU pins s σ H Q I (q rfl H Le.refl)⟩
 | [c]=>(d S c).bind λ r=>some ⟨bT r.f,λ _ _ _ v _ xs pins s σ H Q I ⟨M,hM,q⟩=>yV (r.pt v (xs M hM)) pins s σ H Q I q⟩
 | _=>none
section
variable {E:Wd}{S:Sx}{X:Cx}{M:Fm}
theorem ZH {X':Cx}:∀ {es:List Expr}{ys:List Str}{n:Nat},Ov es=some ys->X'.N.Nodup->(∀ j y,ys[j]?=some y->X'.N[n + j]?=some y)->(∀ y∈ys,Ik X'.env.scope y/\(X'.fn y=true\/X'.env.scope.names.lookup y=some .local))->Lu X' es (K7 (JK n ys.length))/\(EZ es X'.env).length=ys.length/\(EZ es X'.env).findIdx? (·.1)=none
 | [],ys,n,h,_,_,_=>by cases h;exact ⟨XU,rfl,rfl⟩
 | e::es,ys,n,h,hN,hi,hl=>by
  unfold Ov at h;split at h
  ·cases ‹_::_=[]›
  ·rename_i x px r heq;cases heq;obtain ⟨zs,h2,rfl⟩:=jc1.mp h;have hx:=hl x AD;obtain ⟨h1,h3,h4⟩:=ZH (n:=n + 1) h2 hN (λ j y e=>by rw [show n + 1 + j=n + (j + 1) by omega];exact hi (j + 1) y (by simpa using e)) λ y hy=>hl y (AE _ hy);rw [AY,qv];refine ⟨YW (Ox hN (by have:=hi 0 x rfl;simpa using this) hx.1 hx.2) h1 rfl,by rw [EZ,AY,h3] <;> (intros;contradiction),?_⟩;rw [EZ,qC,h4] <;> first | rfl | (intros;contradiction)
  ·cases h
def Mm (n:Nat) (vI vE:List Nat):List Nat:=vI++vE.filter (λ i=>decide (i < n))
theorem Q0:∀ {is:List Nat}{ys:List PV}{ρ ρ' ρ0:Af}{n:Nat},De is ys ρ=some ρ'->(∀ i∈is,n<=i)->ρ.take n=ρ0->ρ'.take n=ρ0
 | [],[],_,_,_,_,e,_,h=>by cases e;exact h
 | [],_::_,_,_,_,_,e,_,_=>by cases e
 | _::_,[],_,_,_,_,e,_,_=>by cases e
 | i::is,y::ys,ρ,ρ',ρ0,n,e,hi,h=>by
  obtain ⟨ρ1,e1,e2⟩:=ji0.mp e;refine Q0 e2 (λ j hj=>hi j (AE _ hj)) ?_;unfold asgN at e1;split at e1
  ·cases e1;rw [List.take_set_of_le (hi i AD)];exact h
  ·cases e1
theorem V2 {scope:B1}{tg:Expr}{ys:List Str}{asg:PV->Af->Option Af}{it elt:Expr}{ifs:List Expr} (ri:RI S tg it) (ht:Pc S.N.length tg=some (ys,asg)) (ck:LK S scope ys ri.vs=true) (rt:RT (Ca S scope ys ri.vs) ifs) (re:R (Ca S scope ys ri.vs) elt) (v:Env' E S) (xs:XS E S X M):
  ∃ wi gg tc te,PI X tg it wi/\CompOk X scope (Ca S scope ys ri.vs).N ys.length/\(∀ s2 H2 C fp pins,PG (B8 X s2 H2 scope C (Ca S scope ys ri.vs).N fp pins) tg gg)/\(∀ s2 H2 C fp pins,Ke (B8 X s2 H2 scope C (Ca S scope ys ri.vs).N fp pins) ifs tc) /\
   (∀ s2 H2 C fp pins,PE (B8 X s2 H2 scope C (Ca S scope ys ri.vs).N fp pins) elt te)/\∀ σ H Q,σ.length=S.N.length->tE M (Ej ri.F ys.length asg rt.f re.f) (Mm S.N.length ri.vs re.vs) σ H Q->Pm ys.length wi gg tc te σ H Q:=by
 have c:=jS ck;have v':Env' E (Ca S scope ys ri.vs):=⟨v.bn,v.gs,v.gx⟩
 have hin:∀ s2 H2 C fp pins M',(∃ D,Inn M D S.N.length ri.vs M')->XS E (Ca S scope ys ri.vs) (B8 X s2 H2 scope C (Ca S scope ys ri.vs).N fp pins) M':=λ s2 H2 C fp pins M' ⟨D,inn⟩=>c.xs xs inn s2 H2 C fp pins;have ex:∃ M',∃ D,Inn M D S.N.length ri.vs M':=⟨⟨M.K,_,M.H₀,_,_,_,true,M.E⟩,0,⟨rfl,rfl,rfl,rfl,rfl⟩⟩
 have hix:∀ j y,ys[j]?=some y->(Ca S scope ys ri.vs).N[S.N.length + j]?=some y:=λ j y e=>by
  show (J9 _ 0 S.N++ys)[S.N.length + j]?=some y;rw [GF (by rw [LR];omega),LR];simpa using e
 have hloc:∀ s2 H2 C fp pins,∀ y∈ys,Ik (B8 X s2 H2 scope C (Ca S scope ys ri.vs).N fp pins).env.scope y/\((B8 X s2 H2 scope C (Ca S scope ys ri.vs).N fp pins).fn y=true\/(B8 X s2 H2 scope C (Ca S scope ys ri.vs).N fp pins).env.scope.names.lookup y=some .local):=λ s2 H2 C fp pins y hy=>by
  have e:(B8 X s2 H2 scope C (Ca S scope ys ri.vs).N fp pins).env.scope=FK scope S.sc:=by
   show IE scope X.env=_;rw [QF,xs.sc]
  rw [e];rcases c.loc y hy with z | z
  ·exact ⟨.inl z,.inr z⟩
  ·exact ⟨.inr z.1,.inl (by show scope.names.contains (y,NameKind.cell)=true;simpa using z.2)⟩
 have gal:∀ {D M'} (_:Inn M D S.N.length ri.vs M') (i),S.N.length<=i->M'.al i=ri.vs/\M'.gh≠some i:=λ inn i hi=>⟨by rw [inn.al];exact if_neg (by omega),λ e=>by rw [inn.gh,xs.gh] at e;exact absurd (c.gh i e) (by omega)⟩
 have tgp:∃ is gg,(∀ i∈is,S.N.length<=i)/\(∀ D M',Inn M D S.N.length ri.vs M'->Gd M' ri.vs is gg asg)/\(∀ s2 H2 C fp pins,PG (B8 X s2 H2 scope C (Ca S scope ys ri.vs).N fp pins) tg gg)/\∀ (ρ:Af) y ρ',ρ.length=S.N.length->asg y (ρ++A6 ys.length none)=some ρ'->ρ'.take S.N.length=ρ:=by
  unfold Pc at ht;split at ht
  ·rename_i y py;cases ht;refine ⟨[S.N.length],HD S.N.length,λ i hi=>by rw [je2.mp hi];exact A5 _,λ D M' inn=>S8 (gal inn _ (A5 _)).1 (gal inn _ (A5 _)).2,λ s2 H2 C fp pins=>?_,λ ρ z ρ' hl e=>?_⟩
   ·exact Ox c.nd (hix 0 y rfl) (hloc s2 H2 C fp pins y (by simp)).1 (hloc s2 H2 C fp pins y (by simp)).2
   ·refine Q0 (ρ:=ρ++A6 [y].length none) (is:=[S.N.length]) (ys:=[z]) ?_ (λ i hi=>by rw [je2.mp hi];exact A5 _) (by rw [<- hl];exact qm);exact ji0.mpr ⟨_,e,rfl⟩
  ·rename_i es k tp;obtain ⟨zs,h2,e⟩:=jc1.mp ht;cases e;have hr:∀ i∈JK S.N.length ys.length,S.N.length<=i:=λ i hi=>(List.mem_range'_1.mp hi).1;refine ⟨JK S.N.length ys.length,Ka M.K ys.length (K7 (JK S.N.length ys.length)),hr,λ D M' inn=>?_,λ s2 H2 C fp pins=>?_,λ ρ z ρ' hl e=>?_⟩
   ·have:=Sm (M:=M') (vs:=ri.vs) (is:=JK S.N.length ys.length) λ i hi=>gal inn i (hr i hi)
    rw [List.length_range',inn.K] at this;exact this
   ·obtain ⟨h1,h3,h4⟩:=ZH (X':=B8 X s2 H2 scope C (Ca S scope ys ri.vs).N fp pins) (n:=S.N.length) h2 c.nd hix (hloc s2 H2 C fp pins)
    have:=SJ (X:=B8 X s2 H2 scope C (Ca S scope ys ri.vs).N fp pins) (pos:=tp) (k:=k) xs.calm h1 h3 h4
    have e:(B8 X s2 H2 scope C (Ca S scope ys ri.vs).N fp pins).K=M.K:=xs.k.symm;rw [e] at this;exact this
   ·unfold asgT at e;split at e
    ·exact Q0 e hr (by rw [<- hl];exact qm)
    ·cases e
  ·cases ht
 obtain ⟨is,gg,his,hg,hpg,hk⟩:=tgp;refine ⟨_,gg,_,λ σ H Q=>∃ M',(∃ D,Inn M D S.N.length ri.vs M')/\tE M' re.f re.vs σ H Q,ri.ok.2 E X M v xs,c.comp xs,hpg,λ s2 H2 C fp pins=>rt.ok E _ (λ M'=>∃ D,Inn M D S.N.length ri.vs M') v' ex (hin s2 H2 C fp pins),λ s2 H2 C fp pins pi s σ H Q I ⟨M',m',q⟩=>re.pe v' (hin s2 H2 C fp pins M' m') pi s σ H Q I q,λ σ H Q hl q=>?_⟩;exact bA hl (λ D M' inn=>⟨D,inn⟩) hg hk his (λ i h1 h2=>CL _ (jh4.mpr ⟨h1,by simpa using h2⟩)) q
theorem vM {e:Expr}{t t':TE} (h:PE X e t) (i:∀ σ H Q,σ.length=X.N.length->t' σ H Q->t σ H Q):PE X e t':=λ pins s σ H Q I q=>h pins s σ H Q I (i σ H Q I.len q)
theorem vm {e:Stmt}{t t':TS} (h:PS X e t) (i:∀ D σ H,σ.length=X.N.length->t' D σ H->t D σ H):PS X e t':=λ pins s σ H D I q=>h pins s σ H D I (i D σ H I.len q)
end
structure RC (S:Sx) (elt tg it:Expr) (ifs:List Expr) (scope:B1) where
 ys:List Str
 asg:PV->Af->Option Af
 ri:RI S tg it
 ht:Pc S.N.length tg=some (ys,asg)
 ck:LK S scope ys ri.vs=true
 rt:RT (Ca S scope ys ri.vs) ifs
 re:R (Ca S scope ys ri.vs) elt
def RC.f {S elt tg it ifs scope} (c:RC S elt tg it ifs scope):Fx:=Ej c.ri.F c.ys.length c.asg c.rt.f c.re.f
def RC.vs {S elt tg it ifs scope} (c:RC S elt tg it ifs scope):List Nat:=Mm S.N.length c.ri.vs c.re.vs
def WN {S:Sx} (i:In) (d:Dn) (elt tg it ifs scope):Option (RC S elt tg it ifs scope):=Bp (Pc S.N.length tg) λ ya ht=>(i d S tg it).bind λ ri=>Cj (LK S scope ya.1 ri.vs) λ ck=>(U3 d ifs).bind λ rt=>(d _ elt).bind λ re=>some ⟨ya.1,ya.2,ri,ht,ck,rt,re⟩
def jg {S:Sx} (i:In) (d:Dn) (elt tg it ifs scope p):T S (.ListComp elt [⟨tg,it,ifs,0⟩] scope p):=(WN i d elt tg it ifs scope).bind λ c=>some ⟨c.f,c.vs,DU rfl (λ _ _=>rfl) λ E X M v xs=>by
 obtain ⟨wi,gg,tc,te,h1,h2,h3,h4,h5,h6⟩:=V2 c.ri c.ht c.ck c.rt c.re v xs;exact vM (XT h2 xs.calm h1 h3 h4 h5 (LL c.ri.ok.1)) λ σ H Q hl q=>h6 σ H Q (by rw [hl,xs.N]) q⟩
def DY (g:Int->Int->Int) (sd:Bool) (i:Nat) (f:Fx):Fs:=λ ρ=>match ρ[i]? with
 | some (some (.int a,_))=>(match f ρ with
  | .ok (.int b,_,ρ1)=>if i < ρ1.length then .nx (ρ1.set i (some (.int (g a b),om))) else .no
  | .ok _=>.no
  | .exc c=>.exc c
  | .no=>.no)
 | some (some (.str a,_))=>(match f ρ with
  | .ok (.str b,_,ρ1)=>if i < ρ1.length/\sd=true/\a.length + b.length<=Au then .nx (ρ1.set i (some (.str (a++b),om))) else .no
  | .ok _=>.no
  | .exc c=>.exc c
  | .no=>.no)
 | _=>.no
def Qk (g:Int->Int->Int) (sd:Bool):Kd:=λ x y H Q=>Ql g x y H Q\/(sd=true/\∃ i j,x=.str i/\y=.str j/\i.length + j.length<=Au/\Q (.str (i++j)) H)
theorem yp {X:Cx}:Kf X .Add (Qk (λ i j=>i + j) true):=by
 intro pins s σ H x y v u Q I rx ry h;rcases h with h | ⟨_,h⟩
 ·exact WV pins s σ H x y v u Q I rx ry h
 ·exact hV pins s σ H x y v u Q I rx ry h
theorem yq {X:Cx}:Kf X .Sub (Qk (λ i j=>i - j) false):=by
 intro pins s σ H x y v u Q I rx ry h;rcases h with h | ⟨z,_⟩
 ·exact WW pins s σ H x y v u Q I rx ry h
 ·cases z
theorem YL {X:Cx}:N3 X (G4 X.K):=by
 intro pins s σ H o i ov iv Q I rx ry h;obtain ⟨p,xs,k,z,rfl,rfl,hq,he,q⟩:=h;cases rx;obtain ⟨t,rfl⟩:=ry;obtain ⟨its,r,pl,hz⟩:=I.list hq;obtain ⟨j,h1,h2,h3,h4,h5⟩:=Ol he;obtain ⟨w,ew,rw'⟩:=r.get h2;have hl:=r.length;have hn:=Ju;have fin:EP X pins σ Q w s:=⟨z,H,I,rw',q⟩
 by_cases h0:0<=k
 ·have hj:k.toNat=j:=by
   rw [OC h0 h5] at h1;exact Option.some.inj h1
  exact wpAny_getItem_list pl.isList h0 (by omega) (by rw [hj];simpa using ew) fin
 ·have hj:(k + (its.toArray.size:Int)).toNat=j:=by
   rw [seqIndex_neg (by omega) h4] at h1;rw [BQ,<- hl];exact Option.some.inj h1
  exact wpAny_getItem_list_neg pl.isList (by omega) (by rw [BQ] <;> omega) (by omega) (by rw [hj];simpa using ew) fin
def BB (asg:PV->Af->Option Af) (f:Fx) (vs:List Nat):Fs:=λ ρ=>match f ρ with
 | .ok (x,d,ρ1)=>(match asg x (Bf d vs ρ1) with
  | some ρ2=>.nx ρ2
  | none=>.no)
 | .exc c=>.exc c
 | .no=>.no
def Fv:Fs:=λ _=>.no
section
variable {M:Fm}{ρ ρ':Af}{σ σ':St}{H H' H0 H1:Hp}{g g' g1:Os}{vs vs' is:List Nat}{K:Kx}{Z Z' G G':Addr->Prop}{x y:PV}{d i j:Nat}{v w:V}{a:Addr}{f f' fi fj:Fx}{fa:Fa}{fb:Fb}{D:Ends}{R:Rs}{xs:List PV}{ws:List V}{tg:TG}{asg:PV->Af->Option Af}
theorem kB {t:TS} (hq:tS M Fv D σ H):t D σ H:=let ⟨_,_,_,q⟩:=hq;q.elim
theorem wg (hal:∀ i,M.al i=[]) (hg:Gd M [] is tg asg) (hq:tS M (BB asg f vs) D σ H):EE (tE M f vs) tg D σ H:=by
 obtain ⟨ρ,g,rep,q⟩:=hq;unfold BB at q;refine BJ rep q (λ _ e=>by rw [e]) (λ e=>by rw [e]) λ x d v H1 e l r t=>?_;rw [e] at q;dsimp only at q;split at q
 ·rename_i ρ2 ea;obtain ⟨g1,r1,ek,h1⟩:=r.cooled hal d vs;exact hg x v _ σ H1 g1 ρ2 _ r1 (ek ▸ (rep.vw t).weak λ a=>Ku h1 rep.zt (.inr (by decide))) ea λ σ' g' r' _ _=>q σ' H1 g' r'
 ·exact q.elim
theorem Rep.atom {u:V} (r:Rep M ρ σ H g) (hg:M.gh≠some i) (hi:i < ρ.length) (e:sV x=some u) (k:Le H H1):∃ g',Rep M (ρ.set i (some (x,om))) (σ.set i (some u)) H1 g':=
 ⟨_,r.write (G':=λ _=>False) (Z:=M.zN g i om) k (λ a o e=>.inl e) hi hg (.inl rfl) (λ _ h=>h.elim) (.inl ⟨(by cases x <;> first | rfl | cases e),λ _ h=>h,.ofs e⟩) λ a h=>h.resolve_right id⟩
theorem vZ {gg:Int->Int->Int}{sd:Bool} (hg:M.gh≠some i) (hq:tS M (DY gg sd i f) D σ H):Mt i (tE M f vs) (Qk gg sd) D σ H:=by
 obtain ⟨ρ,g,rep,q⟩:=hq;unfold DY at q;split at q
 ·rename_i a d0 e0;obtain ⟨v,hσ,o⟩:=rep.var hg e0;rw [o.sv rfl] at hσ;refine ⟨_,hσ,BJ rep q (λ _ e=>by rw [e]) (λ e=>by rw [e]) λ y e w H1 ef l r t=>?_⟩;rw [ef] at q;cases y <;> first | exact q.elim | skip
  rw [(rep.vw t).sv rfl];refine .inl ⟨a,_,rfl,rfl,?_⟩;dsimp only at q;split at q
  ·rename_i hl;obtain ⟨g',r'⟩:=r.atom (x:=.int _) hg hl rfl Le.refl;exact q _ _ g' r'
  ·exact q.elim
 ·rename_i a d0 e0;obtain ⟨v,hσ,o⟩:=rep.var hg e0;rw [o.sv rfl] at hσ;refine ⟨_,hσ,BJ rep q (λ _ e=>by rw [e]) (λ e=>by rw [e]) λ y e w H1 ef l r t=>?_⟩;rw [ef] at q;cases y <;> first | exact q.elim | skip
  rw [(rep.vw t).sv rfl];dsimp only at q;split at q
  ·rename_i hl;obtain ⟨g',r'⟩:=r.atom (x:=.str _) hg hl.1 rfl Le.refl;exact .inr ⟨hl.2.1,a,_,rfl,rfl,hl.2.2,q _ _ g' r'⟩
  ·exact q.elim
 ·exact q.elim
def JH (d:Nat) (xs:List PV):Bool:=d != om || tf xs
theorem YI (h:C5 y=true):AN y=false:=by
 cases e:AN y with
 | false=>rfl
 | true=>rw [Zb e] at h;cases h
theorem Xd (h:tf xs=true) (hy:(C5 y || AN y)=true):tf (xs.set j y)=true:=zya.mpr λ x hx=>(qY hx).elim (zya.mp h x) λ e=>e ▸ hy
theorem Ds.set (hy:AN y=false) (h:Ds xs ws):Ds (xs.set j y) (ws.set j w):=by
 have sp:∀ {k:Nat}{z:PV}{r:Addr},(xs.set j y)[k]?=some z->AN z=true->(ws.set j w)[k]?=some (V.ref r)->xs[k]?=some z/\ws[k]?=some (V.ref r):=λ {k z r} e hz h=>by
  by_cases hk:j=k
  ·subst hk;have hl:=(jb0.mp e).1;rw [GD (by simpa using hl)] at e;cases e;rw [hy] at hz;cases hz
  ·rw [Ga hk] at e h;exact ⟨e,h⟩
 exact λ i k r x z e1 e2 r1 r2 h1 h2=>h i k r x z (sp e1 r1 h1).1 (sp e2 r2 h2).1 r1 r2 (sp e1 r1 h1).2 (sp e2 r2 h2).2
theorem Rep.setF (r:Rep M ρ σ H g) (hal:∀ i,M.al i=[]) (hg:M.gh≠some i) (es:ρ[i]?=some (some (.lst xs,d))) (hσ:σ[i]?=some (some (.ref a))) (ga:g.ow i a) (ha:H a=some (.lst ws)) (p:Bj (El (M.k g) H (M.z g (M.al i) d) (g.ow i) a (Bk d xs)) xs ws) (ds:Bk d xs=true->Ds xs ws) (hd:d≠0) (ht:JH d xs=true) (l:Le H H1) (hy:C5 y=true) (o:Is (M.k g) H1 Z y w):
  ∃ g',Rep M (ρ.set i (some (.lst (xs.set j y),d))) σ (Av H1 a (.lst (ws.set j w))) g':=by
 have hi:=(jb0.mp es).1;by_cases e:d=om
 ·subst e;have ht:tf xs=true:=by simpa [JH] using ht
  rw [zwn.mpr ⟨rfl,ht⟩] at p;refine r.relR hal hg hi hσ ga l (l a _ ha) (Xd ht (by rw [hy];rfl)) (λ b h=>.inl h) ga (λ b h=>let ⟨o,m,e⟩:=r.owned h;⟨o,m,l b o e⟩) (Paired.set (.inl ⟨by rw [YI hy];rfl,o.flat hy⟩) j (L2.Paired.mapP p λ _ _ h=>h.move l.kp .rf (λ b o _ _=>l b o) (λ b q=>.inl ?_) λ _ h=>h)) (Ds.set (YI hy) (ds (zwn.mpr ⟨rfl,ht⟩)));exact q.elim Fm.zN_z λ q=>.inl ⟨i,q,.inl rfl⟩
 ·exact r.relV hal hg hi hσ ga l (l a _ ha) trivial (by simp [Bx,Co,hd]) ⟨rfl,rfl⟩ (λ h=>absurd (zwn.mp h).1 e) (Paired.set (o.flat hy) j (IsL.up l (r.oldV hal ga (.inl rfl) p)))
end
section
variable {X:Cx}
theorem DS {K:Kx}{H:Hp}{zz:Nat->Addr->Prop}{x:PV}{d:Nat}{ws:List V} (t:Bj (λ (p:PV×Nat) v=>Is K H (zz p.2) p.1 v) [(x,d)] ws):∃ w,ws=[w]/\Is K H (zz d) x w:=by
 cases t with
 | cons h t=>cases t;exact ⟨_,rfl,h⟩
theorem Xg {K:Kx}{H:Hp}{zz:Nat->Addr->Prop}{x y:PV}{d e:Nat}{ws:List V} (t:Bj (λ (p:PV×Nat) v=>Is K H (zz p.2) p.1 v) [(x,d),(y,e)] ws):∃ w u,ws=[w,u]/\Is K H (zz d) x w/\Is K H (zz e) y u:=by
 cases t with
 | cons h t=>obtain ⟨u,rfl,h'⟩:=DS t;exact ⟨_,u,rfl,h,h'⟩
theorem jt:HA X FI λ xs H Q=>(∃ p ys,xs=[.ref p]/\(Br X.K H p ys\/SqT X.K H p ys)/\Q (.int ys.length) H)\/∃ z,xs=[.str z]/\z.length<=Au/\Q (.int z.length) H:=by
 intro K xs z c ws H Q zz hk ho zk t lf;unfold FI at ho;split at ho
 ·cases ho;obtain ⟨w,rfl,o⟩:=DS t;obtain ⟨p,ws,rfl,_,hp,l⟩:=o.lst;exact .inl ⟨p,ws,rfl,.inl (.inl (.inl hp)),by rw [l.length];exact lf.sv rfl⟩
 ·cases ho;obtain ⟨w,rfl,o⟩:=DS t;obtain ⟨p,ws,rfl,hp,l⟩:=o.tupE;exact .inl ⟨p,ws,rfl,.inr (.inl (.inl hp)),by rw [l.length];exact lf.sv rfl⟩
 ·rename_i ns d;cases ho;obtain ⟨w,rfl,o⟩:=DS t;obtain ⟨p,rfl,hp⟩:=o.scr;refine .inl ⟨p,ns.map V.int,rfl,.inl ?_,by rw [Ax];exact lf.sv rfl⟩;rw [<- hk];exact hp.elim (λ h=>.inl (.inr h)) .inr
 ·split at ho
  ·rename_i hl;cases ho;obtain ⟨w,rfl,o⟩:=DS t;exact .inr ⟨_,by rw [o.sv rfl],hl,lf.sv rfl⟩
  ·cases ho
 ·cases ho
def zW:BR:=⟨"len",FI,by decide +kernel,by decide +kernel,by decide +kernel,λ X _ _=>⟨_,_,.inl ⟨_,rfl⟩,PySem.boot_len,qbn.or ll,jt⟩⟩
theorem js:HA X Ep λ xs H Q=>∃ (p:Addr) (bs:List Bool),xs=[.ref p]/\Br X.K H p (bs.map V.bl)/\Q (.bl (bs.all id)) H:=by
 intro K xs z c ws H Q zz hk ho zk t lf;unfold Ep at ho;split at ho
 ·obtain ⟨bs,eb,e⟩:=jc1.mp ho;cases e;obtain ⟨w,rfl,o⟩:=DS t;obtain ⟨p,ws,rfl,_,hp,l⟩:=o.lst;exact ⟨p,bs,rfl,.inl (.inl (by rw [<- wF eb l];exact hp)),lf.sv rfl⟩
 ·cases ho
def zV:BR:=⟨"all",Ep,by decide +kernel,by decide +kernel,by decide +kernel,λ X hc _=>⟨_,_,.inl ⟨_,rfl⟩,rfl,uW hc,js⟩⟩
theorem jw:HA X FO λ xs H Q=>(∃ (p:Addr) (ns:List Int),xs=[.ref p]/\Br X.K H p (ns.map V.int)/\FT ns=true/\Q (.int ns.sum) H)\/∃ (p:Addr) (ns:List Int),xs=[.ref p]/\SqT X.K H p (ns.map V.int)/\Q (.int ns.sum) H:=by
 intro K xs z c ws H Q zz hk ho zk t lf;unfold FO at ho;split at ho
 ·split at ho
  ·rename_i ns en;split at ho
   ·rename_i hs;cases ho;obtain ⟨w,rfl,o⟩:=DS t;obtain ⟨p,ws,rfl,_,hp,l⟩:=o.lst;exact .inl ⟨p,ns,rfl,.inl (.inl (by rw [<- Ip en l];exact hp)),hs,lf.sv rfl⟩
   ·cases ho
  ·cases ho
 ·split at ho
  ·rename_i ns en;cases ho;obtain ⟨w,rfl,o⟩:=DS t;obtain ⟨p,ws,rfl,hp,l⟩:=o.tupE;exact .inr ⟨p,ns,rfl,.inl (.inl (by rw [<- Ip en l];exact hp)),lf.sv rfl⟩
  ·cases ho
 ·cases ho
def zZ:BR:=⟨"sum",FO,by decide +kernel,by decide +kernel,by decide +kernel,λ X hc _=>⟨_,_,.inl ⟨_,rfl⟩,rfl,(de hc).or (dg hc),jw⟩⟩
theorem jv:HA X Iz λ xs H Q=>((∃ (p:Addr) (ns:List Int),xs=[.ref p]/\Br X.K H p (ns.map V.int)/\ns≠[]/\∀ m,m∈ns->(∀ a∈ns,m<=a)->Q (.int m) H)\/(∃ (p:Addr) (ns:List Int),xs=[.ref p]/\SqT X.K H p (ns.map V.int)/\ns≠[]/\∀ m,m∈ns->(∀ a∈ns,m<=a)->Q (.int m) H))\/∃ i j,xs=[.int i,.int j]/\Q (.int (if j < i then j else i)) H:=by
 intro K xs z c ws H Q zz hk ho zk t lf;unfold Iz at ho;split at ho
 ·split at ho
  ·rename_i n r en;cases ho;obtain ⟨w,rfl,o⟩:=DS t;obtain ⟨p,ws,rfl,_,hp,l⟩:=o.lst;exact .inl (.inl ⟨p,n::r,rfl,.inl (.inl (by rw [<- Ip en l];exact hp)),by simp,λ m h1 h2=>by rw [VB h1 h2 (QO r n) (Tr r n)];exact lf.sv rfl⟩)
  ·cases ho
 ·split at ho
  ·rename_i n r en;cases ho;obtain ⟨w,rfl,o⟩:=DS t;obtain ⟨p,ws,rfl,hp,l⟩:=o.tupE;exact .inl (.inr ⟨p,n::r,rfl,.inl (.inl (by rw [<- Ip en l];exact hp)),by simp,λ m h1 h2=>by rw [VB h1 h2 (QO r n) (Tr r n)];exact lf.sv rfl⟩)
  ·cases ho
 ·unfold PF at ho;split at ho
  ·cases ho;obtain ⟨w,u,rfl,o,o'⟩:=Xg t;exact .inr ⟨_,_,by rw [o.sv rfl,o'.sv rfl],lf.sv rfl⟩
  ·cases ho
def zY:BR:=⟨"min",Iz,by decide +kernel,by decide +kernel,by decide +kernel,λ X hc _=>⟨_,_,.inl ⟨_,rfl⟩,rfl,((bY hc).or (bZ hc)).or (bX hc),jv⟩⟩
theorem ju:HA X JC λ xs H Q=>((∃ (q:Addr) (n:Int) (r:List Int),xs=[.ref q]/\Br X.K H q ((n::r).map V.int)/\Q (.int (Cq n r)) H)\/(∃ (q:Addr) (n:Int) (r:List Int),xs=[.ref q]/\SqT X.K H q ((n::r).map V.int)/\Q (.int (Cq n r)) H))\/∃ i j,xs=[.int i,.int j]/\Q (.int (if j > i then j else i)) H:=by
 intro K xs z c ws H Q zz hk ho zk t lf;unfold JC at ho;split at ho
 ·split at ho
  ·rename_i n r en;cases ho;obtain ⟨w,rfl,o⟩:=DS t;obtain ⟨p,ws,rfl,_,hp,l⟩:=o.lst;exact .inl (.inl ⟨p,n,r,rfl,.inl (.inl (by rw [<- Ip en l];exact hp)),lf.sv rfl⟩)
  ·cases ho
 ·split at ho
  ·rename_i n r en;cases ho;obtain ⟨w,rfl,o⟩:=DS t;obtain ⟨p,ws,rfl,hp,l⟩:=o.tupE;exact .inl (.inr ⟨p,n,r,rfl,.inl (.inl (by rw [<- Ip en l];exact hp)),lf.sv rfl⟩)
  ·cases ho
 ·unfold PF at ho;split at ho
  ·cases ho;obtain ⟨w,u,rfl,o,o'⟩:=Xg t;exact .inr ⟨_,_,by rw [o.sv rfl,o'.sv rfl],lf.sv rfl⟩
  ·cases ho
def zX:BR:=⟨"max",JC,by decide +kernel,by decide +kernel,by decide +kernel,λ X hc _=>⟨_,_,.inl ⟨_,rfl⟩,rfl,((bV hc).or (bW hc)).or (bU hc),ju⟩⟩
theorem jr:HA X MA λ xs H Q=>∃ i:Int,xs=[.int i]/\Q (.int (if i < 0 then -i else i)) H:=by
 intro K xs z c ws H Q zz hk ho zk t lf;unfold MA at ho;split at ho
 ·cases ho;obtain ⟨w,rfl,o⟩:=DS t;exact ⟨_,by rw [o.sv rfl],lf.sv rfl⟩
 ·cases ho
def zU:BR:=⟨"abs",MA,by decide +kernel,by decide +kernel,by decide +kernel,λ X _ _=>⟨_,_,.inl ⟨_,rfl⟩,rfl,bR,jr⟩⟩
theorem kG:HA X Iy λ xs H Q=>∃ p ys,xs=[.ref p]/\(Br X.K H p ys\/SqT X.K H p ys)/\∀ l,H l=none->Q (.ref l) (Av H l (.lst ys)):=by
 intro K xs z c ws H Q zz hk ho zk t lf;unfold Iy at ho;split at ho
 ·cases ho;obtain ⟨w,rfl,o⟩:=DS t;obtain ⟨p,ws,rfl,_,hp,l⟩:=o.lst;exact ⟨p,ws,rfl,.inl (.inl (.inl hp)),λ q hq=>lf.lstD zk (zk.low l) hq⟩
 ·cases ho;obtain ⟨w,rfl,o⟩:=DS t;obtain ⟨p,ws,rfl,hp,l⟩:=o.tupE;exact ⟨p,ws,rfl,.inr (.inl (.inl hp)),λ q hq=>lf.lstD zk (zk.low l) hq⟩
 ·cases ho
def jR:BR:=⟨"list",Iy,by decide +kernel,by decide +kernel,by decide +kernel,λ X _ _=>⟨_,_,.inr ⟨_,rfl⟩,rfl,lq,kG⟩⟩
end
section
variable {X:Cx}{W:St->Nat->Hp->Prop}
end
section
variable {X:Cx}{pins pins1:List (Addr×Obj)}{σ:St}{H:Hp}{s:Ai}{e:Ae->Ai->Prop}
end
section
variable {M:Model}{A:Bi}{E:Ae->Ai->Prop}{K:Frag}
end
section
variable {X:Cx}{pins:List (Addr×Obj)}{σ:St}{H H1:Hp}{s:Ai}{B:Heap}{a C:Addr}{a0:Ae}{c:Nat}
end
def SD:Expr->Bool
 | .ListComp ..=>true
 | .SetComp ..=>true
 | .DictComp ..=>true
 | _=>false
structure SM (S:Sx) (X:Cx) (M:Fm):Prop where
 al:∀ i,M.al i=[]
 fn:∀ x,X.fn x=true
 nd:S.N.Nodup
 st:X.stack=X.env::X.outer
 fr:X.env.frame=some X.env.locals
 cl:M.cl=true
def zQ (S:Sx) (st:Stmt) (f:Fs):Prop:=∀ E X M,Env' E S->XS E S X M->SM S X M->PS X st (tS M f)
structure RS (S:Sx) (st:Stmt) where
 f:Fs
 ok:zQ S st f
structure RSs (S:Sx) (sts:List Stmt) where
 f:Fs
 ok:∀ E X M,Env' E S->XS E S X M->SM S X M->Fj X sts (tS M f)
abbrev DG (S:Sx) (st:Stmt):=Option (RS S st)
abbrev Sn:=∀ S st,RS S st
def xh {S:Sx} (st:Stmt):RS S st:=⟨Fv,λ _ _ _ _ _ _ pins s σ H D I q=>gZ pins s σ H D I (kB (t:=Xc) q)⟩
def Ef {S:Sx} (s:Sn):∀ sts,RSs S sts
 | []=>⟨A4,λ _ _ _ _ _ _=>Yv yR λ _ _ _=>wb⟩
 | [t]=>⟨(s S t).f,λ E X M v xs sm=>yS ((s S t).ok E X M v xs sm)⟩
 | t::u::r=>⟨Ag (s S t).f (Ef s (u::r)).f,λ E X M v xs sm=>Yv (ba ((s S t).ok E X M v xs sm) ((Ef s (u::r)).ok E X M v xs sm)) λ _ _ _=>we⟩
def Ec (S:Sx) (x:Str):Bool:=Dj S.sc x .local || Dj S.sc x .cell
section
variable {E:Wd}{S:Sx}{X:Cx}{M:Fm}{x:Str}{i:Nat}
theorem K8 (xs:XS E S X M) (h:Ec S x=true):Ik X.env.scope x:=by
 rw [xs.sc];unfold Ec at h;rw [G8] at h;exact h.imp GN GN
theorem Ld (xs:XS E S X M) (sm:SM S X M):X.N.Nodup:=by rw [xs.N];exact sm.nd
theorem Yo {e:Expr}{t:Option Expr}{l:Nat}{env:Env} (h:SD e=false):swapsWith e t l env=pure false:=by
 cases e <;> first | rfl | cases h
theorem Tf {e:Expr} (h:Jm e=true) (env:Env) (cpos:Pos):((FV cpos (Bt [e] env)).all (λ x=>!x.1) && (backToKw cpos (keywordEach [] env)).all (λ x=>x.1.isSome)
   && decide (([e]:List Expr).length + ([]:List Keyword).length + (if ([]:List Keyword).isEmpty then 0 else 1) < 30))=true:=by
 rw [show Bt [e] env=[(false,eval e env)] from CJ h];rfl
end
def U4 {S:Sx} (d:Dn) (s:Sn) (c a b p):DG S (.If c a b p):=(d S c).map λ r=>⟨AV (bT r.f) (Ef s a).f (Ef s b).f,λ E X M v xs sm=>DT (j7 (r.pt v xs) ((Ef s a).ok E X M v xs sm) ((Ef s b).ok E X M v xs sm)) λ _ _ _=>kA⟩
def Uw {S:Sx} (d:Dn) (e p):DG S (.Return (some e) p):=match e with
 | .Name x q=>Bp (S.slot x) λ i hi=>some ⟨C6 i,λ _ _ _ _ xs sm=>DT (Xv (xs.var hi)) λ _ _ _=>uO sm.al (xs.slot hi).2.1⟩
 | e=>(d S e).map λ r=>⟨As r.f,λ _ _ _ v xs sm=>DT (Xv (r.pe v xs)) λ _ _ _=>wc⟩
def jh {S:Sx} (d:Dn) (f es ks q p):DG S (.Expr (.Call f es ks q) p):=(d S (.Call f es ks q)).map λ r=>⟨Bv r.f,λ _ _ _ v xs _=>DT (Tx (r.pe v xs) rfl) λ _ _ _=>uJ⟩
def UG {S:Sx} (d:Dn) (x px at' pa e q p):DG S (.Expr (.Call (.Attribute (.Name x px) at' pa) [e] [] q) p):=if h:at' = "append" then Cj (pa.endLine == q.line) λ hl=>Bp (S.slot x) λ i hi=>(d S e).map λ r=>⟨AW i r.f r.vs,λ E X M v xs sm=>by
 subst h;exact DT (Tx (Sr (X:=X) (cpos:=q) PySem.F.plainAttrs_list PySem.F.slot_list_append PySem.F.type_list_append ZY (xs.var (pos:=px) hi) (LH (r.pe v xs) P5 (CJ r.ok.1)) rfl (Tf r.ok.1 X.env q) hl (CJ r.ok.1) rfl) rfl) λ D σ H q'=>by
  have:=vY sm.al (xs.slot hi).2.1 q'
  rw [xs.k] at this;exact this⟩ else none
def U8 {S:Sx} (d:Dn) (x px at' pa e q p):DG S (.Expr (.Call (.Attribute (.Name x px) at' pa) [e] [] q) p):=if h:at' = "extend" then Cj (pa.endLine == q.line) λ hl=>Bp (S.slot x) λ i hi=>(d S e).map λ r=>⟨C1 i r.f r.vs,λ E X M v xs sm=>by
 subst h;exact DT (Tx (Sr (X:=X) (cpos:=q) PySem.F.plainAttrs_list PySem.F.slot_list_extend PySem.F.type_list_extend dQ (xs.var (pos:=px) hi) (LH (r.pe v xs) P5 (CJ r.ok.1)) rfl (Tf r.ok.1 X.env q) hl (CJ r.ok.1) rfl) rfl) λ D σ H q'=>by
  have:=wa sm.al (xs.slot hi).2.1 q'
  rw [xs.k] at this;exact this⟩ else none
def Uv {S:Sx} (d:Dn) (x px e p):DG S (.Assign [.Name x px] e p):=Bp (S.slot x) λ i hi=>Cj (Ec S x) λ hx=>Cj (!SD e) λ hc=>(d S e).map λ r=>⟨Aj false i r.f r.vs,λ _ _ _ v xs sm=>
 DT (SX (Ld xs sm) (xs.slot hi).1 (K8 xs hx) (r.pe v xs) (Yo (by simpa using hc)) (.inl (sm.fn x))) λ _ _ _=>SW sm.al (xs.slot hi).2.1⟩
def jK {S:Sx} (i:In) (d:Dn) (x px elt tg it ifs scope q p):DG S (.Assign [.Name x px] (.ListComp elt [⟨tg,it,ifs,0⟩] scope q) p):=Bp (S.slot x) λ n hn=>Cj (Ec S x) λ hx=>(WN i d elt tg it ifs scope).map λ c=>⟨Aj false n c.f c.vs,λ E X M v xs sm=>by
 obtain ⟨wi,gg,tc,te,h1,h2,h3,h4,h5,h6⟩:=V2 c.ri c.ht c.ck c.rt c.re v xs;exact vm (fN (Ld xs sm) (xs.slot hn).1 (K8 xs hx) (.inl (sm.fn x)) h2 xs.calm h1 h3 h4 h5 (LL c.ri.ok.1)) λ D σ H hl q=>h6 σ H _ (by rw [hl,xs.N]) (SW sm.al (xs.slot hn).2.1 q)⟩
def jL {S:Sx} (x px q p):DG S (.Assign [.Name x px] (.Dict [] [] q) p):=Bp (S.slot x) λ i hi=>Cj (Ec S x) λ hx=>some ⟨Aj false i Dd [],λ _ _ _ v xs sm=>
 DT (SX (Ld xs sm) (xs.slot hi).1 (K8 xs hx) vG (Yo rfl) (.inl (sm.fn x))) λ _ _ _=>SW sm.al (xs.slot hi).2.1⟩
structure RN (S:Sx) (es:List Expr) where
 is:List Nat
 ok:∀ E X M,XS E S X M->SM S X M->Lu X es (K7 is)/\(EZ es X.env).length=is.length/\(EZ es X.env).findIdx? (·.1)=none/\∀ i∈is,M.al i=[]/\M.gh≠some i
def S1 {S:Sx}:∀ es,Option (RN S es)
 | []=>some ⟨[],λ _ _ _ _ _=>⟨XU,rfl,rfl,λ _ h=>nomatch h⟩⟩
 | .Name x p::es=>Bp (S.slot x) λ i hi=>Cj (Ec S x) λ hx=>(S1 es).map λ r=>⟨i::r.is,λ E X M xs sm=>by
  obtain ⟨h1,h2,h3,h4⟩:=r.ok E X M xs sm;refine ⟨YW (Ox (Ld xs sm) (xs.slot hi).1 (K8 xs hx) (.inl (sm.fn x))) h1 rfl,by rw [EZ,AY,h2,AY] <;> (intros;contradiction),?_,λ j hj=>?_⟩
  ·rw [EZ,qC,h3] <;> first | rfl | (intros;contradiction)
  ·rcases jb8.mp hj with z | z
   ·rw [z];exact ⟨sm.al i,(xs.slot hi).2.1⟩
   ·exact h4 j z⟩
 | _=>none
def jo:Expr->Bool
 | .Tuple _ _ _=>true
 | .List _ _=>true
 | _=>false
def Ur {S:Sx} (d:Dn) (es k q e p):DG S (.Assign [.Tuple es k q] e p):=(S1 es).bind λ n=>Cj (!SD e && !jo e) λ hc=>(d S e).map λ r=>⟨BB (asgT n.is) r.f r.vs,λ E X M v xs sm=>by
 obtain ⟨h1,h2,h3,h4⟩:=n.ok E X M xs sm;simp only [AU,Qg] at hc;refine DT (SO (r.pe v xs) (SJ xs.calm h1 h2 h3) ?_ ?_ rfl) λ D σ H q'=>?_
 ·cases e <;> first | rfl | (cases hc.1)
 ·cases e <;> first | rfl | (cases hc.2)
 ·have:=wg sm.al (Sm h4) q'
  rw [xs.k] at this;exact this⟩
structure RG (S:Sx) (tg:Expr) where
 asg:PV->Af->Option Af
 ok:∀ E X M,XS E S X M->SM S X M->∃ is g,PG X tg g/\∀ B o,Gd (M.at B o) [] is g asg
def Ut {S:Sx} (tg:Expr):Option (RG S tg):=match tg with
 | .Name x p=>Bp (S.slot x) λ i hi=>Cj (Ec S x) λ hx=>some ⟨asgN i,λ E X M xs sm=>⟨[i],HD i,Ox (Ld xs sm) (xs.slot hi).1 (K8 xs hx) (.inl (sm.fn x)),λ B o=>S8 (sm.al i) (xs.slot hi).2.1⟩⟩
 | .Tuple es k p=>(S1 es).map λ n=>⟨asgT n.is,λ E X M xs sm=>by
  obtain ⟨h1,h2,h3,h4⟩:=n.ok E X M xs sm;refine ⟨n.is,_,SJ xs.calm h1 h2 h3,λ B o=>?_⟩
  have:=Sm (M:=M.at B o) (vs:=[]) h4
  rw [show (M.at B o).K=X.K from xs.k] at this;exact this⟩
 | _=>none
theorem XS.at {E:Wd}{S:Sx}{X:Cx}{M:Fm} (xs:XS E S X M) (B:Hp) (g:Os):XS E S X (M.at B g):=⟨xs.prog,xs.w,xs.K,xs.mg,xs.base,xs.N,xs.sc,xs.calm,xs.room,xs.po,xs.ps,xs.rs,xs.k,xs.al,xs.gh⟩
theorem SM.at {S:Sx}{X:Cx}{M:Fm} (sm:SM S X M) (B:Hp) (g:Os):SM S X (M.at B g):=⟨sm.al,sm.fn,sm.nd,sm.st,sm.fr,sm.cl⟩
def U6 {S:Sx} (i:In) (d:Dn) (s:Sn) (tg it body p):DG S (.For tg it body [] p):=(Ut tg).bind λ t=>(i d S tg it).map λ w=>⟨E3 w.F w.vs t.asg (Ef s body).f,λ E X M v xs sm=>by
 obtain ⟨is,g,h1,h2⟩:=t.ok E X M xs sm;exact DT (P6 xs.po xs.calm (w.ok.2 E X M v xs) h1 (tb:=tX M (Ef s body).f) (λ pins s' σ H D I ⟨B,o,q⟩=>(Ef s body).ok E X _ v (xs.at B o) (sm.at B o) pins s' σ H D I q) (LL w.ok.1)) λ D σ H q=>Ys sm.al h2 q⟩
def Sf:HI->Option ((Int->Int->Int)×Bool)
 | .Add=>some (λ i j=>i + j,true)
 | .Sub=>some (λ i j=>i - j,false)
 | _=>none
theorem jO {X:Cx}{op:HI}{g:(Int->Int->Int)×Bool} (h:Sf op=some g):Kf X op (Qk g.1 g.2):=by
 unfold Sf at h;split at h <;> cases h
 ·exact yp
 ·exact yq
def UD {S:Sx} (d:Dn) (x px op e p):DG S (.AugAssign (.Name x px) op e p):=Bp (S.slot x) λ i hi=>Cj (Ec S x) λ hx=>Bp (Sf op) λ g hg=>(d S e).map λ r=>⟨DY g.1 g.2 i r.f,λ _ _ _ v xs sm=>
 DT (vh (Ld xs sm) (xs.slot hi).1 (K8 xs hx) (r.pe v xs) (jO hg) (.inl (sm.fn x))) λ _ _ _=>vZ (xs.slot hi).2.1⟩
def Ap (_:Bool) (np k:Nat) (b:Fs):Fn:=λ xs=>if xs.length=np then (match b ((xs.map λ x=>some (x,dv x))++A6 k none) with
 | .rt y d _=>.ok (y,d,.non)
 | .nx _=>.ok (.non,om,.non)
 | .exc c=>.exc c
 | _=>.no) else .no
theorem gK {io:Bool}{np k:Nat}{b:Fs}:∀ xs,xs.length≠np->Ap io np k b xs=.no:=λ xs h=>by
 unfold Ap;rw [if_neg h]
section
variable {E:Wd}{S:Sx}
theorem yL {x qual:Str}{st:Stmt}{f:Addr}{fd:DW}{N ps:List Str}{sp:Sp} (F:Fun E.K x qual st f fd) (FS:FnScope N ps (Dt st)) (len:∀ vs H Q X,sp vs H Q X->vs.length=ps.length)
  (hbody:∀ (cdv:Ae) (A:Bi) (outer:List Env) (s:Ai) (H:Hp) (vs:List V) (Q:VK) (Xe:XK),Room E.lvl (A.deeper (HH qual (Dt st) s.heap.objs.size f cdv))->sp vs H Q Xe ->
   ∃ t,Fj (BK (Df E.P E.w E.K) E.P E.w E.K E.mg E.base N qual (Dt st) f cdv A outer s H Xe) (Iv st) t/\t { nx:=λ _ H'=>Q .non H',rt:=Q } (L2.start N vs) H):FnOk E.P E.w E.K E.mg E.base (Df E.P E.w E.K) (E.lvl + 1) f fd ps sp:=by
 obtain ⟨oc,od,kV,doc,pm,an,cdv,ct,osl,rfl,lk,hcd⟩:=F.ex;exact jj lk hcd FS len λ A outer s H vs Q X hr hsp=>hbody cdv A outer s H vs Q X hr hsp
theorem ji {x qual:Str}{st:Stmt}{fa:Addr}{fd:DW}{ps:List Str}{k:Nat} (Fu:Fun E.K x qual st fa fd) (FS:FnScope S.N ps (Dt st)) (hsc:S.sc=Dt st) (hal:S.al=[]) (hgh:S.gh=none) (hk:S.N.length=ps.length + k) (v:Env' E S) (r:RSs S (Iv st)):
  FnOk E.P E.w E.K E.mg E.base (Df E.P E.w E.K) (E.lvl + 1) fa fd ps (La E.K ps.length (Ap false ps.length k r.f)):=by
 refine yL Fu FS (λ vs H Q X h=>h.1) λ cdv A outer s H vs Q Xe hr h=>?_;obtain ⟨hl,xs,z,K,hK,hz,hz0,hst,hi,q⟩:=h;let M:Fm:={ K:=E.K,Z:=z,H₀:=H,W:=WE Xe H,al:=λ _=>[],gh:=none,cl:=true,E:=K }
 have ek:M.k ⟨λ _ _=>False,K.lc,K.st⟩=K:=by show (⟨E.K,K.lc,K.st⟩:Kx)=K;rw [<- hK]
 have hxs:XS E S (BK (Df E.P E.w E.K) E.P E.w E.K E.mg E.base S.N qual (Dt st) fa cdv A outer s H Xe) M:=⟨rfl,rfl,rfl,rfl,rfl,rfl,hsc.symm,rfl,hr,yH,bK,λ _=>f6,rfl,λ i _=>by unfold Sx.alF;rw [hal];rfl,hgh.symm⟩
 have hsm:SM S (BK (Df E.P E.w E.K) E.P E.w E.K E.mg E.base S.N qual (Dt st) fa cdv A outer s H Xe) M:=⟨λ _=>rfl,λ _=>rfl,FS.nd,rfl,rfl,rfl⟩
 have hlen:xs.length=ps.length:=hi.length.symm.trans hl;have zl:∀ {d:Nat}{a:Addr},(d=0\/d=om)->M.z ⟨λ _ _=>False,K.lc,K.st⟩ [] d a->z (C2 d) a:=λ _ q=>q.elim (λ ⟨_,e,_⟩=>e.elim) id;refine ⟨tS M r.f,r.ok E _ M v hxs hsm,(xs.map λ x=>some (x,dv x))++A6 k none,⟨λ _ _=>False,K.lc,K.st⟩,⟨λ i y d e _=>?_,(λ i h=>nomatch h),λ i a h=>h.elim,λ i j a h=>h.elim,λ a s=>⟨(hst a s).1,(hst a s).2,λ i h=>h⟩,λ a o e=>.inl e,by rw [ek];exact .rf,λ _ a o e=>e,λ _=>ek,(λ h=>nomatch h),hz0,hz,?_⟩,?_⟩
 ·have hlt:i < xs.length:=by
   rcases qi i xs.length with h | h
   ·exact h
   ·rw [GF (by simpa using h),Gb] at e;split at e <;> cases e
  rw [DC (by simpa using hlt),BO,Bb hlt] at e;cases e;obtain ⟨u,eu,o⟩:=Ea hi (Bb hlt);obtain ⟨G,hG,s⟩:VT K (M.z ⟨λ _ _=>False,K.lc,K.st⟩ [] (dv xs[i])) H H xs[i] (dv xs[i]) u:=o.view (z:=M.z ⟨λ _ _=>False,K.lc,K.st⟩ []) λ a h=>zl (.inl rfl) h;have gn:∀ b,¬ G b:=by
   rcases s with ⟨_,n,_⟩ | ⟨e,_⟩
   ·exact n
   ·exact absurd e (by cases xs[i] <;> simp [Bx,dv,Co])
  refine ⟨u,?_,ek.symm ▸ (SV.weak (λ a q=>.inl q) s).cong λ a=>⟨λ h=>h.elim,gn a⟩⟩;unfold L2.start;rw [DC (by rw [Ax];exact (jb0.mp eu).1),BO,eu];rfl
 ·unfold L2.start;rw [Bm,Ax,Ee,Bm,Ax,Ee,hlen,hl,hk];omega
 ·unfold Ap at q;rw [if_pos hlen] at q;have fin:∀ {ρ':Af}{y:PV}{d:Nat}{v:V}{H':Hp}{g':Os},(∀ v H',Le H H'->VT K (z (C2 d)) H H' y d v->Q v H')->FinR M ρ' H' g'->VT (M.k g') (M.Z (C2 d)) M.H₀ H' y d v->Q v H':=λ q f t=>q _ _ (f.cl rfl) (by
   have e:M.k _=K:=f.ke rfl;rw [e] at t;exact t)
  revert q;cases r.f ((xs.map λ x=>some (x,dv x))++A6 k none) with
  | exc c=>exact λ q σ' H' l=>⟨q H' l,λ b hb=>l.dom hb⟩
  | rt y d ρ'=>exact λ q v H' g' f t=>fin q f t
  | nx ρ'=>exact λ q σ' H' g' r'=>fin q r'.fin (.sv rfl)
  | _=>exact λ q=>q.elim
end
open PySem PySem.Spec PySem.W PySem.Calls PyProof.Rows L2
theorem Vs {tb:String->Option vl5}{p:AB}{w:A9}{n₀:Nat}{ann:Option Ae}:∀ {n:Nat}{s r:SharedT}{t:Thread},K6 tb p w n₀ ann n s t=some r->topRun tb p w n₀ ann n s.abs t=some r.abs
 | 0,_,_,_,h=>by cases h
 | n + 1,s,r,t,h=>by
  unfold K6 at h;unfold topRun;cases e1:through t with
  | true=>rw [e1] at h;cases h;rfl
  | false=>
   rw [e1] at h;cases e2:stepOk n₀ ann t with
   | false=>rw [e2] at h;cases h
   | true=>
    rw [e2] at h;cases e3:stepT (denote tb) p w s t with
    | none=>rw [e3] at h;cases h
    | some z=>obtain ⟨s₂,t₂⟩:=z;rw [e3] at h;rw [stepT_spec e3];exact Vs h
theorem uV (P:Params) (os:OsState):(bootS P os).abs=⟨EC P,#[],boot_drawn,boot_toks,os⟩:=by kernel_rfl
theorem wL (P:Params):(EC P).isNs ED=true:=by kernel_rfl
theorem yx {p q:AB}{loose:List Str}{Xt:Ai->Bool}{α:Type}{Yf:Ai->α}{Ya:A9->α}{N:Nat} (e:opening p=plainProg p.main.scope.names) (hN:Nat.ble 600 N=true) (f:∀ s,fenceModules? p s=some s)
  (run:∀ (w:A9) (os:OsState),(K6 treeTable p w (EC w.params).objs.size ((EC w.params).nsMap ED "__annotations__") N (bootS w.params os) (topStub p)).map (λ s=>Te p q loose Xt Yf (EC w.params) s.abs)=some (true,openGood q loose,Ya w)):
  LeftO p q loose Xt Yf Ya N:=λ w=>by
 obtain ⟨⟨h,gs,d,k,os⟩,e1,e2⟩:=jc1.mp (boot_open e hN f w);obtain ⟨rfl,rfl,rfl,rfl⟩:h=EC w.params/\gs=#[]/\d=boot_drawn/\k=boot_toks:=by simpa using e2
 obtain ⟨s,r1,r2⟩:=jc1.mp (run w os);have r:=Vs r1;rw [uV] at r;have r3:(_=_)/\(_ ,_)=(_,_):=Prod.mk.inj r2;obtain ⟨l1,l23⟩:=r3;obtain ⟨l2,l3⟩:=Prod.mk.inj l23;have t:topFrom treeTable p w N ⟨EC w.params,#[],boot_drawn,boot_toks,os⟩=some s.abs:=by
  unfold topFrom;dsimp only;rw [wL,r];show (match staticsOk (Rt p.main.body) (EC w.params) s.abs.heap && namesBound p s.abs.heap && gensDone s.abs && laidKept (EC w.params) s.abs.heap with | true=>_ | false=>_)=_;rw [l1]
 unfold openEnds;rw [e1];show (topFrom treeTable p w N _).map _=_;rw [t];exact congrArg some (Prod.ext l2 l3)
theorem kE (h:Heap):(MY h).In h:=by
 intro a o;unfold MY;generalize An h.objs.size=l;induction l with
 | nil=>intro e;cases e
 | cons b l ih=>
  intro e;rw [Nk] at e;cases g:h.get? b with
  | none=>rw [g] at e;exact ih e
  | some z=>
   rw [g] at e;dsimp only [Hh] at e;rw [Fg] at e;split at e
   ·rename_i q;cases e;rw [beq_iff_eq.mp q];exact g
   ·exact ih e
theorem jX {K:Frag}{x:Str}{st:Stmt} (e:Td K x=some (SE x st)):∃ (g:Addr) (fd:DW),nsIn K ED x=some (some (.ref g))/\Fun K x x st g fd:=by
 unfold Td at e;split at e
 ·rename_i g hg;split at e
  ·rename_i oc od fd sl hl;cases fd;unfold SE at e;simp only [Option.some.injEq,DefSeen.mk.injEq] at e;obtain ⟨rfl,rfl,rfl,rfl,rfl,rfl,rfl,rfl,rfl,hc⟩:=e;refine ⟨g,_,hg,ka hl hc ?_⟩;unfold keepIn;dsimp only;rw [hl]
  ·cases e
 ·cases e
structure DI where
 st:Stmt
 N:List Str
 F:Fn
 b:Fs
def B3 (st:Stmt):List Str:=(Ji st).args.map (·.arg)
def Qm (ds:List DI):List (Str×Nat×Fn):=ds.map λ d=>(By d.st,(B3 d.st).length,d.F)
def HU (rz:Bool) (xc:List Nat) (ds:List DI) (d:DI):Sx:=⟨d.N,Dt d.st,Qm ds,rz,xc,[],none⟩
def GG (d:DI):Bool:=(match Ji d.st with
  | ⟨[],_,none,[],_,none,[]⟩=>true
  | _=>false) && (match (Dt d.st).kind with
  | .function=>true
  | _=>false) && !(Dt d.st).isCoroutine && !(Dt d.st).isGenerator && decide (d.N.Nodup/\d.N.take (B3 d.st).length=B3 d.st) && ((B3 d.st).all λ x=>Dj (Dt d.st) x .local || Dj (Dt d.st) x .cell) && ((Dt d.st).names.all λ y=>y.2 != .free) && !(By d.st == ("__debug__" : Str))
inductive Reads (sn:Sn) (rz:Bool) (xc:List Nat):List DI->Prop
 | nil:Reads sn rz xc []
 | cons {d ds} (t:Reads sn rz xc ds) (r:(Ef (S:=HU rz xc ds d) sn (Iv d.st)).f=d.b) (e:d.F=Ap false (B3 d.st).length (d.N.length - (B3 d.st).length) d.b) (c:GG d=true):Reads sn rz xc (d::ds)
theorem WX {α:Type}:∀ {ns:List Str}{us:List α},ns.Nodup->us.length=ns.length->∀ {i:Nat}{n:Str},ns[i]?=some n->(ns.zip us).lookup n=us[i]?
 | [],[],_,_,i,n,h=>by simp at h
 | [],_::_,_,h,_,_,_=>by cases h
 | _::_,[],_,h,_,_,_=>by cases h
 | a::ns,u::us,nd,h,0,n,e=>by cases e;simp
 | a::ns,u::us,nd,h,i + 1,n,e=>by
  have hm:=Nl (by simpa using e:ns[i]?=some n);have hne:(n == a)=false:=beq_false_of_ne λ z=>(jg5.mp nd).1 (z ▸ hm);rw [JS,Fg,hne];simpa using WX (jg5.mp nd).2 (Nat.succ.inj h) (by simpa using e)
theorem WR {α:Type}:∀ {ns:List Str}{us:List α}{l:List (Str×α)},us.length=ns.length->(∀ (i:Nat) (n:Str),ns[i]?=some n->l.lookup n=us[i]?)->ns.filterMap (λ n=>(l.lookup n).map λ x=>(n,x))=ns.zip us
 | [],[],_,_,_=>rfl
 | [],_::_,_,h,_=>by cases h
 | _::_,[],_,h,_=>by cases h
 | a::ns,u::us,l,h,k=>by
  rw [Nk,k 0 a rfl];show _::_=_::_;rw [WR (us:=us) (Nat.succ.inj h) λ i n e=>by simpa using k (i + 1) n (by simpa using e)];rfl
theorem uU {x qual:Str}{as:List Arg}{kd:List (Option Expr)}{body:List Stmt}{sc:B1}{kV doc pm cdv ct:Ae}{an:Option Addr}{us:List Ae} (nd:(as.map (·.arg)).Nodup) (hl:us.length=(as.map (·.arg)).length):
  bindArgs (J0 x qual ⟨[],as,none,[],kd,none,[]⟩ body sc .none kV doc pm an cdv ct) ⟨us,[]⟩=pure ((as.map (·.arg)).zip us):=by
 generalize hn:as.map (·.arg)=ns at *;have h1:∀ i n,ns[i]?=some n->(ns.zip us).lookup n=us[i]?:=λ i n e=>WX nd hl e;have h2:(ns.filter λ n=>((ns.zip us).lookup n).isNone)=[]:=jj9.mpr λ n hm=>by
  obtain ⟨i,e⟩:=Ug hm;rw [h1 i n e,Bb (by have:=(jb0.mp e).1;omega)];simp
 have h3:=WR (l:=ns.zip us) hl h1;unfold bindArgs J0;dsimp only [Hf,Ex];rw [hn];simp only [TU,pure_bind,Hf,G9];rw [show seqItems? Value.none=pure none from rfl,pure_bind];simp [hl,h2,h3]
structure Given (ds:List Stmt) (xc:List Nat) (K:Frag) (mg:Str->Option Ae):Prop where
 df:∀ d∈ds,∃ (g:Addr) (fd:DW),mg (By d)=some (.ref g)/\Fun K (By d) (By d) d g fd
 bn:∀ x∈zjk,mg x=none
 gx:GX K mg xc
theorem SR {α β:Type}{f g:α->β}:∀ {l:List α},l.map f=l.map g->∀ {i:Nat}{a:α},l[i]?=some a->f a=g a
 | [],_,_,_,h=>by cases h
 | b::l,e,0,a,h=>by
  cases h;exact (List.cons.inj e).1
 | b::l,e,i + 1,a,h=>SR (List.cons.inj e).2 h
theorem gp {ds:List Stmt}{xc:List Nat}{K:Frag}{mg:Str->Option Ae}{h:Heap} (X:K.In h) (G:h.Ns ED mg) (e:LN ds xc K=MS ds):Given ds xc K mg:=by
 obtain ⟨e1,e2⟩:=Prod.mk.inj e;obtain ⟨e2,e3⟩:=Prod.mk.inj e2;refine ⟨λ d hd=>?_,λ x hx=>?_,λ hne=>?_⟩
 ·obtain ⟨i,hi⟩:=Ug hd;obtain ⟨g,fd,a,b⟩:=jX (SR e1 hi);exact ⟨g,fd,mg_of X G a,b⟩
 ·obtain ⟨i,hi⟩:=Ug hx;exact mg_none_of X G (SR e2 hi)
 ·have hm:xc.isEmpty=false:=by
   cases xc with
   | nil=>exact absurd rfl hne
   | cons _ _=>rfl
  rw [hm,TQ,AU,AU] at e3;refine ⟨e3.1.1,e3.1.2,λ c hc=>?_⟩;have h1:=jb3.mp e3.2 c hc;rw [AU] at h1;obtain ⟨C,hC⟩:=jl2.mp h1.1;have hC':=hC;unfold FR at hC';cases hx:XN[c]? with
  | none=>rw [hx] at hC';cases hC'
  | some x=>
   rw [hx] at hC';have h2:=h1.2;rw [hx] at h2;refine ⟨x,C,rfl,hC,?_,by simpa using h2⟩;dsimp only at hC';unfold Sh at hC';split at hC'
   ·rename_i D hD;cases hC';exact mg_of X G hD
   ·cases hC'
theorem wW {P:AB}{w:A9}{K:Frag}{outer:List Env}{H:Hp}{s:Ai}{e:Ae}{s2:Ai} (z:Df P w K outer H s (λ _ _ _=>False) e s2):False:=by
 obtain ⟨_,_,_,_,_,_,_,_,_,_,_,_,_,_,_,_,_,_,z⟩:=z;exact z
theorem Sz {d:DI} (h:GG d=true):FnScope d.N (B3 d.st) (Dt d.st)/\(By d.st == ("__debug__" : Str))=false/\∃ as kd,Ji d.st=⟨[],as,none,[],kd,none,[]⟩:=by
 unfold GG at h;simp only [AU,Qg,decide_eq_true_eq] at h;obtain ⟨⟨⟨⟨⟨⟨⟨h1,h2⟩,h3⟩,h4⟩,h5⟩,h6⟩,h7⟩,h8⟩:=h;refine ⟨⟨?_,h3,h4,h5.1,h5.2,λ x hx=>?_,λ y hy=>by simpa using jb3.mp h7 y hy⟩,h8,?_⟩
 ·split at h2
  ·assumption
  ·cases h2
 ·have:=jb3.mp h6 x hx
  rw [G8] at this;exact this.imp GN GN
 ·split at h1
  ·rename_i e;exact ⟨_,_,e⟩
  ·cases h1
section
variable {P:AB}{w:A9}{K:Frag}{mg:Str->Option Ae}{base:Heap}{d:DI}{ds:List DI}{xc:List Nat}{rz:Bool}{sn:Sn}{g:Addr}{fd:DW}
theorem Y8 (c:GG d=true) (F:Fun K (By d.st) (By d.st) d.st g fd) {us:List Ae} (hl:us.length=(B3 d.st).length):bindArgs fd ⟨us,[]⟩=pure ((B3 d.st).zip us):=by
 obtain ⟨FS,_,as,kd,e⟩:=Sz c;obtain ⟨oc,od,kV,doc,pm,an,cdv,ct,osl,rfl,_,_⟩:=F.ex;unfold B3 at hl ⊢;rw [e] at hl ⊢;refine uU ?_ hl;have nd:=FS.nd;have pre:=FS.pre;unfold B3 at pre;rw [e] at pre;show ((⟨[],as,none,[],kd,none,[]⟩:Arguments).args.map (·.arg)).Nodup;rw [<- pre];exact nd.sublist (Ua ..)
theorem WS (hb:∀ x∈zjk,mg x=none) (gx:GX K mg xc) (r:(Ef (S:=HU rz xc ds d) sn (Iv d.st)).f=d.b) (e:d.F=Ap false (B3 d.st).length (d.N.length - (B3 d.st).length) d.b) (c:GG d=true) (G:GS ⟨P,w,K,mg,base,ds.length⟩ (Qm ds)) (Fu:Fun K (By d.st) (By d.st) d.st g fd):
  FnOk P w K mg base (Df P w K) (ds.length + 1) g fd (B3 d.st) (La K (B3 d.st).length d.F):=by
 have FS:=(Sz c).1;have hk:(HU rz xc ds d).N.length=(B3 d.st).length + (d.N.length - (B3 d.st).length):=by
  have:=congrArg PN FS.pre
  rw [GA] at this;show d.N.length=_;omega
 rw [e,<- r];exact ji (E:=⟨P,w,K,mg,base,ds.length⟩) (S:=HU rz xc ds d) Fu FS rfl rfl rfl hk ⟨hb,G,gx⟩ _
theorem bp (hb:∀ x∈zjk,mg x=none) (gx:GX K mg xc) (R:Reads sn rz xc ds) (G:∀ d∈ds,∃ (g:Addr) (fd:DW),mg (By d.st)=some (.ref g)/\Fun K (By d.st) (By d.st) d.st g fd):GS ⟨P,w,K,mg,base,ds.length⟩ (Qm ds):=by
 induction R with
 | nil=>exact λ x n F h=>by cases h
 | @cons d ds t r e c ih=>
  have ih:=ih λ d hd=>G d (AE _ hd);intro x n F h;rw [Qm,AR,Fg] at h;split at h
  ·rename_i q;cases h;rw [show x=By d.st from eq_of_beq q];obtain ⟨g,fd,m,Fu⟩:=G d AD;exact ⟨(Sz c).2.1,by rw [e];exact gK,g,fd,B3 d.st,m,Fu.kp,.all λ us hl=>Y8 c Fu hl,rfl,WS hb gx r e c ih Fu⟩
  ·obtain ⟨h1,h2,fa,fd,ps,h3,h4,h5,h6,h7⟩:=ih x n F h;exact ⟨h1,h2,fa,fd,ps,h3,h4,h5,h6,h7.mono (MZ _)⟩
end
theorem wA {K:Frag}{H:Hp}{a:Addr}{ns:List Int}{F:Fn} (hO:Kg H) (hS:Br K H a (ns.map V.int)) (h:∃ d z,F [.scr ns]=.ok (.bl true,d,z)):La K 1 F [.ref a] H (λ v _=>v=.bl true) λ _ _ _=>False:=by
 refine ⟨rfl,[.scr ns],λ _ _=>False,⟨K,[],λ _=>False⟩,rfl,λ _ z=>z,λ _ _ z=>z.elim,λ _ z=>z.elim,.cons (.rf ?_) .nil,?_⟩
 ·rcases hS with (h | h) | h
  ·rcases hO a with z | ⟨ob,xs,z⟩
   ·rw [h] at z;cases z
   ·rw [h] at z;cases z
  ·exact .inl h
  ·exact .inr h
 ·obtain ⟨d,z,e⟩:=h;rw [e];exact λ v H' _ t=>(t.vw λ _ z=>z.elim).sv rfl
theorem holds_by {l:OpenLaw}{q:AB}{loose:List Str}{d:DefRec}{N n:Nat}{e:DI}{ds:List DI}{sts:List Stmt}{xc:List Nat}{rz:Bool}{sn:Sn}{x:Str} (said:l.wellSaid=true)
  (op:opening l.prog=plainProg l.prog.main.scope.names) (hN:Nat.ble 600 N=true) (f:∀ s,fenceModules? l.prog s=some s)
  (run:∀ (w:A9) (os:OsState),(K6 treeTable l.prog w (EC w.params).objs.size ((EC w.params).nsMap ED "__annotations__") N (bootS w.params os) (topStub l.prog)).map
   (λ s=>Te l.prog q loose (λ s=>xlAt q [] s && recOk (RowW.records l.row.toRowW) s) (λ s=>LN sts xc (MY s.heap)) (EC w.params) s.abs)=some (true,openGood q loose,MS sts))
  (hdef:defOf q l.row.name=some (d,[])) (hp:l.row.prog.theDef l.row.name=some (d.params,d.body,d.scope)) (hk:kwWritten? d.params.kwonlyargs d.params.kw_defaults=some []) (hwr:(!l.row.writes || l.row.records.isEmpty)=true)
  (ok:(chainsOk q && opensWell l.row.prog && (frees l.row.toRowW && l.row.within.isEmpty))=true) (hb:l.row.prog.bare) (hw:l.row.toRowW.promised)
  (hn:l.most=some n) (hn2:n<=Au) (hdf:d.params.defaults=[]) (hr:Room (ds.length + 1) Jv) (hnm:By e.st=d.name) (hps:B3 e.st=[x])
  (hsts:(e::ds).map (·.st)=sts) (R:Reads sn rz xc (e::ds)) (yes:∀ ns:List Int,ns.length<=n->∃ d z,e.F [.scr ns]=.ok (.bl true,d,z)):l.Holds:=by
 refine holds_law said λ ws=>?_;refine holds_open (q:=q) (loose:=loose) (Xt:=λ s=>xlAt q [] s && recOk (RowW.records l.row.toRowW) s) (XP:=XL q []) (Yf:=λ s=>LN sts xc (MY s.heap)) (Ya:=λ _=>MS sts) (YP:=λ _ h=>∃ K:Frag,K.In h/\LN sts xc K=MS sts) (N:=N)
  (yx op hN f run) (λ _ s z=>⟨_,kE _,z⟩) (λ _ _ _ ⟨K,a,b⟩ kp=>⟨K,a.keeps kp,b⟩) (λ s e=>xl_of s (jq6.mp e).1) XL.keeps hdef hp hk (λ s e=>recFacts_of (jq6.mp e).2) hwr ws ok hb hw ?_
 refine Att.attach_call hn hdf λ w s₀ s₁ mg mb fa o pm cd doc a vs ns G Y ho hd hcd hmg hobj hints hlen hg=>?_;obtain ⟨K,KX,hf⟩:=Y;have gv:=gp KX G.T.g hf;have gd:∀ d∈e::ds,∃ (g:Addr) (fd:DW),mg (By d.st)=some (.ref g)/\Fun K (By d.st) (By d.st) d.st g fd:=λ d hd=>gv.df d.st (by rw [<- hsts];exact qJ hd);obtain ⟨g,fd,m,Fu⟩:=gd e AD;rw [<- hnm,m] at hmg;cases hmg;cases R with
 | cons t r er c=>
  have ok:=λ base=>WS (P:=l.prog) (w:=w) (base:=base) gv.bn gv.gx r er c (bp gv.bn gv.gx t λ d hd=>gd d (AE _ hd)) Fu;rw [hps] at ok;exact gB KX G.T.g G.T.b G.T.builtins G.T.nolimit hg hobj hints (BD hlen hn2) hr (λ base _ _=>ok base) (λ s u=>.of_eq (by rw [Y8 c Fu (us:=[u]) (by rw [hps];rfl),hps];rfl)) (λ H hO hS=>wA hO hS (yes ns hlen)) λ H e s'=>wW
def W6:Ei:=λ o i v H Q=>∃ a H',o=.ref a/\DPut H a i v H'/\Q H'
def jB:Ei:=λ o i v H Q=>Pl o i v H Q\/W6 o i v H Q
theorem ko {X:Cx} (hu:X.A.units + 1 < Cv):PSet X W6:=by
 intro pins s σ H o i v ov iv u Q I ro ri rv h;obtain ⟨a,H',rfl,g,q⟩:=h;obtain rfl:ov=Value.ref a:=ro;exact dM hu I g ri rv λ s' I'=>⟨H',I',q⟩
theorem PSet.or {X:Cx}{t t':Ei} (h:PSet X t) (h':PSet X t'):PSet X (λ o i v H Q=>t o i v H Q\/t' o i v H Q):=by
 intro pins s σ H o i v ov iv u Q I ro ri rv q;rcases q with q | q
 ·exact h pins s σ H o i v ov iv u Q I ro ri rv q
 ·exact h' pins s σ H o i v ov iv u Q I ro ri rv q
def Dy (x:PV) (k y:PV):Option PV:=match x,k with
 | .lst xs,.int i=>(match CG xs.length i with
  | some j=>some (.lst (xs.set j y))
  | none=>none)
 | .dct kvs,.tup ks=>(match BI ks,sV y with
  | some k,some u=>if kvs.length < Au then some (.dct (Be kvs k u)) else none
  | _,_=>none)
 | _,_=>none
def IQ (k:List A0) (y:PV):List (List A0)->List PV->List PV
 | k'::ks,x::xs=>(if k'=k then y else x)::IQ k y ks xs
 | _,_=>[]
def FF (ks:List (List A0)) (k:List A0):Bool:=ks.any λ k'=>decide (k'=k)
def HB (ks:List (List A0)) (xs:List PV) (k:List A0) (y:PV):PV:=if FF ks k=true then .dcl ks (IQ k y ks xs) else .dcl (ks++[k]) (xs++[y])
def Ph:PV->Option (List (List A0)×List PV)
 | .dct []=>some ([],[])
 | .dcl ks xs=>some (ks,xs)
 | _=>none
def m3:PV->Bool
 | .lst _=>true
 | _=>false
def MW (d:Nat):PV->Bool
 | .lst xs=>JH d xs
 | _=>true
def CI (i:Nat) (fk f:Fx):Fs:=λ ρ=>match f ρ with
 | .ok (y,e,ρ1)=>(match ρ1[i]? with
  | some (some (x,d))=>(match fk ρ1 with
   | .ok (k,_,ρ2)=>(match Dy x k y with
    | some x'=>if d≠0/\C5 y=true/\MW d x=true then .nx (ρ2.set i (some (x',d))) else if d≠0/\e=om/\m3 x=true then .nx (ρ2.set i (some (x',1))) else .no
    | none=>match Ph x,k with
     | some (ks,xs),.tup key=>(match BI key with
      | some kk=>if d≠0/\(e=om\/C5 y=true)/\ks.length < Au then .nx (ρ2.set i (some (HB ks xs kk y,1))) else .no
      | none=>.no)
     | _,_=>.no)
   | .exc c=>.exc c
   | .no=>.no)
  | _=>.no)
 | .exc c=>.exc c
 | .no=>.no
section
variable {M:Fm}{ρ ρ':Af}{σ σ':St}{H H' H0 H1:Hp}{g g' g1:Os}{vs vs' vk is:List Nat}{K:Kx}{Z Z' G G':Addr->Prop}{x y:PV}{d e i j:Nat}{v w:V}{a:Addr}{f f' fk fi fj:Fx}{fa:Fa}{D:Ends}{R:Rs}{xs:List PV}{ws:List V}{ks:List (List A0)}{k:List A0}
theorem bI (h:Cw xs=true):JH d xs=true:=by
 have:tf xs=true:=by
  induction xs with
  | nil=>rfl
  | cons x xs ih=>
   unfold Cw at h;rw [AU] at h;unfold tf;rw [h.1,ih h.2];rfl
 unfold JH;rw [this,Na]
theorem YN (hy:Is K H Z y w):∀ {ks:List (List A0)}{xs:List PV}{ws:List V},IsL K H Z xs ws->ks.length=xs.length->∃ ws',(ks.zip ws).map (λ kv=>if kv.1=k then (kv.1,w) else kv)=ks.zip ws'/\IsL K H Z (IQ k y ks xs) ws'/\(IQ k y ks xs).length=ks.length
 | [],[],_,.nil,_=>⟨[],rfl,.nil,rfl⟩
 | [],_::_,_,_,e=>by cases e
 | _::_,[],_,_,e=>by cases e
 | k'::ks,x::xs,_,.cons (b:=v) o t,e=>by
  obtain ⟨ws',e1,o3,e3⟩:=YN hy (ks:=ks) t (Nat.succ.inj e);refine ⟨(if k'=k then w else v)::ws',?_,?_,by unfold IQ;rw [AY,e3,AY]⟩
  ·rw [JS,AR,e1,JS];congr 1;dsimp only;split <;> rfl
  ·unfold IQ;refine .cons ?_ o3;split
   ·exact hy
   ·exact o
theorem Y2:∀ {ks:List (List A0)}{ws:List V},ks.length=ws.length->((ks.zip ws).any λ kv=>decide (kv.1=k))=FF ks k
 | [],[],_=>rfl
 | [],_::_,e=>by cases e
 | _::_,[],e=>by cases e
 | k'::ks,w::ws,e=>by
  have:=Y2 (ks:=ks) (ws:=ws) (Nat.succ.inj e)
  unfold FF at this ⊢;rw [JS,Ng,Ng,this]
theorem dO (hy:Is K H Z y w) (h:IsL K H Z xs ws) (e:ks.length=xs.length):∃ ks' xs' ws',HB ks xs k y=.dcl ks' xs'/\Be (ks.zip ws) k w=ks'.zip ws'/\IsL K H Z xs' ws'/\ks'.length=xs'.length:=by
 unfold HB Be;rw [Y2 (by rw [e,h.length])];by_cases hk:FF ks k=true
 ·rw [if_pos hk,if_pos hk];obtain ⟨ws',e1,o1,e2⟩:=YN hy (k:=k) h e;exact ⟨ks,_,ws',rfl,e1,o1,e2.symm⟩
 ·rw [if_neg hk,if_neg hk];refine ⟨_,_,ws++[w],rfl,?_,Paired.append h (.cons hy .nil),by rw [Bm,Bm,e];rfl⟩;rw [List.zip_append (by rw [e,h.length])];rfl
theorem Rep.obj (r:Rep M ρ σ H g) (hal:∀ i,M.al i=[]) (hg:M.gh≠some i) (e:ρ[i]?=some (some (x,d))) (ho:Bx x d=true):∃ a,σ[i]?=some (some (.ref a))/\g.ow i a/\∃ ys us,Nd (λ o=>H a=some o) ys us x/\IsL (M.k g) H (λ b=>M.zN g i 1 b\/b=a) ys us:=by
 obtain ⟨v,hv,s⟩:=r.own i _ d e hg;rcases s with ⟨q,_⟩ | ⟨_,a,rfl,ys,ws,n,ga,_,p,_⟩
 ·rw [ho] at q;cases q
 ·exact ⟨a,hv,ga,ys,ws,n,r.oldV hal ga (.inr (by decide)) p⟩
theorem Rep.seen (r:Rep M ρ σ H g) (ga:g.ow i a) (he:e=om\/C5 y=true) (h:Is K H1 (M.z g vs e) y w):Is K H1 (λ b=>M.zN g i 1 b\/b=a) y w:=by
 rcases he with rfl | he
 ·exact h.weak λ b q=>q.elim (λ q=>Fm.z_om r.zt (Fm.zN_z q)) λ q=>.inl ⟨i,q ▸ ga,.inl rfl⟩
 ·exact h.flat he
theorem uN (hal:∀ i,M.al i=[]) (hg:M.gh≠some i) (hq:tS M (CI i fk f) D σ H):EE (tE M f vs) (Kb (Dw i) (tE M fk vk) jB) D σ H:=by
 obtain ⟨ρ,g,rep,q⟩:=hq;unfold CI at q;refine BJ rep q (λ _ e=>by rw [e]) (λ e=>by rw [e]) λ y e w H1 ef l r t=>?_;rw [ef] at q;dsimp only at q;split at q
 ·rename_i x d es;obtain ⟨v0,hσ,s0⟩:=r.own i x d es hg;clear s0;refine ⟨v0,hσ,BJ r q (λ _ e=>by rw [e]) (λ e=>by rw [e]) λ k' d' kv H2 ek l2 r2 t2=>?_⟩;rw [ek] at q;dsimp only at q;have o:=(rep.vw t).up l2;have ok:=r.vw t2;have hi:=(jb0.mp es).1;have ob:Bx x d=true->∃ a,v0=.ref a/\g.ow i a/\∃ ys us,Nd (λ o=>H2 a=some o) ys us x/\IsL (M.k g) H2 (λ b=>M.zN g i 1 b\/b=a) ys us:=λ ho=>by
   obtain ⟨a,hσ',h⟩:=r2.obj hal hg es ho;rw [hσ] at hσ';cases hσ';exact ⟨a,rfl,h⟩
  cases ep:Dy x k' y with
  | some x'=>
   rw [ep] at q;dsimp only at q;unfold Dy at ep;split at ep
   ·rename_i xs n0;split at ep
    ·rename_i j ej;cases ep;rw [ok.sv rfl];split at q
     ·rename_i hc;obtain ⟨a,hσ',ga,ws,ha,p,ds⟩:=r2.list hg es hc.1;rw [hσ] at hσ';cases hσ';obtain ⟨g',r'⟩:=r2.setF (j:=j) hal hg es hσ ga ha p ds hc.1 hc.2.2 Le.refl hc.2.1 o;exact .inl ⟨a,ws,n0,j,rfl,rfl,ha,by rw [<- Paired.length p];exact ej,q _ _ g' r'⟩
     ·split at q
      ·rename_i hc;obtain ⟨a,rfl,ga,ys,us,⟨rfl,ha⟩,p⟩:=ob (by simp [Bx,Co,hc.1]);obtain ⟨g',r'⟩:=r2.relV (x:=.lst (xs.set j y)) (c:=1) hal hg hi hσ ga Le.refl ha trivial rfl ⟨rfl,rfl⟩ (λ h=>by cases h) (Paired.set (r2.seen ga (.inl hc.2.1) o) j p);exact .inl ⟨a,us,n0,j,rfl,rfl,ha,by rw [p.length];exact ej,q _ _ g' r'⟩
      ·exact q.elim
    ·cases ep
   ·rename_i kvs key;split at ep
    ·rename_i kk u ekk eu;split at ep
     ·rename_i hl;cases ep;rw [o.sv eu];obtain ⟨b,us',rfl,hb,ol⟩:=ok.tupE
      have:=LM ekk ol
      subst this;split at q
      ·rename_i hc;obtain ⟨a,rfl,ga,ys,us,⟨rfl,rfl,ha⟩,p⟩:=ob (by simp [Bx,Co,hc.1]);obtain ⟨g',r'⟩:=r2.relV (x:=.dct (Be kvs kk u)) (c:=d) (o':=.dT (Be kvs kk u)) hal hg hi hσ ga Le.refl ha trivial (by simp [Bx,Co,hc.1]) ⟨rfl,rfl,rfl⟩ (λ _ x h=>nomatch h) .nil;exact .inr ⟨a,_,rfl,DPut.t ha hb hl,q _ _ g' r'⟩
      ·split at q
       ·rename_i hc;cases hc.2.2
       ·exact q.elim
     ·cases ep
    ·cases ep
   ·cases ep
  | none=>
   rw [ep] at q;dsimp only at q;clear ep;cases ekv:Ph x with
   | none=>rw [ekv] at q;exact q.elim
   | some kx=>
    obtain ⟨ks,xs⟩:=kx;rw [ekv] at q;cases k' <;> first | exact q.elim | skip
    rename_i key;dsimp only at q;split at q
    ·rename_i kk ekk;split at q
     ·rename_i hc;obtain ⟨b,us',rfl,hb,ol⟩:=ok.tupE
      have:=LM ekk ol
      subst this;obtain ⟨a,rfl,ga,ys,us,n,p⟩:=ob (by have hd:=hc.1;unfold Ph at ekv;split at ekv <;> first | (cases ekv;done) | (simp [Bx,Co];exact hd));obtain ⟨ws,ha,en,p⟩:∃ ws,H2 a=some (.dT (ks.zip ws))/\ks.length=xs.length/\IsL (M.k g) H2 (λ b=>M.zN g i 1 b\/b=a) xs ws:=by
       unfold Ph at ekv;split at ekv
       ·cases ekv;exact ⟨[],n.2.2,rfl,.nil⟩
       ·cases ekv;obtain ⟨rfl,e1,h⟩:=n;exact ⟨_,h,e1,p⟩
       ·cases ekv
      obtain ⟨ks',xs',ws',ex',ew',ox',en'⟩:=dO (k:=kk) (r2.seen ga hc.2.1 o) p en;obtain ⟨g',r'⟩:=r2.relV (x:=.dcl ks' xs') (c:=1) (o':=.dT (Be (ks.zip ws) kk w)) hal hg hi hσ ga Le.refl ha trivial rfl ⟨rfl,en',by rw [ew']⟩ (λ h=>by cases h) ox';rw [ex'] at q;exact .inr ⟨a,_,rfl,DPut.t ha hb (by rw [Ln];have:=qp ks.length ws.length;omega),q _ _ g' r'⟩
     ·exact q.elim
    ·exact q.elim
 ·exact q.elim
end
def IP (g:Int->Int->Int) (i:Nat) (fj f:Fx):Fs:=λ ρ=>match ρ[i]?,fj ρ with
 | some (some (.lst xs,d)),.ok (.int b,_,ρ1)=>(match f ρ1 with
  | .ok (.int w,_,ρ2)=>(match CG xs.length b with
   | some j=>(match xs[j]? with
    | some (.int v)=>if d≠0/\JH d xs=true then .nx (ρ2.set i (some (.lst (xs.set j (.int (g v w))),d))) else .no
    | _=>.no)
   | none=>.no)
  | _=>.no)
 | _,_=>.no
section
variable {M:Fm}{ρ ρ':Af}{σ σ':St}{H H' H0 H1:Hp}{g g' g1:Os}{vs vs' vi vj is:List Nat}{K:Kx}{Z Z' G G':Addr->Prop}{x y:PV}{d e i j:Nat}{v w:V}{a:Addr}{f f' fi fj:Fx}{fa:Fa}{D:Ends}{R:Rs}{xs:List PV}{ws:List V}
theorem Yr {k:Int->Int->Int} (hal:∀ i,M.al i=[]) (hg:M.gh≠some i) (hq:tS M (IP k i fj f) D σ H):W9 (Dw i) (tE M fj vj) (tE M f vs) (G4 M.K) (Ql k) Pl D σ H:=by
 obtain ⟨ρ,g,rep,q⟩:=hq;unfold IP at q;have q0:=q;split at q
 ·rename_i xs d b db ρ1 ei e1;by_cases hd:d=0
  ·exfalso;split at q
   ·split at q
    ·split at q
     ·rw [if_neg λ h=>h.1 hd] at q;exact q
     ·exact q
    ·exact q
   ·exact q
  obtain ⟨a,hσ,ga,_⟩:=rep.list hg ei hd;refine ⟨_,hσ,BJ rep q (λ c e=>by rw [e1] at e;cases e) (λ e=>by rw [e1] at e;cases e) λ y e w H1 ef l r t=>?_⟩;rw [e1] at ef;cases ef;obtain ⟨a',hσ',_,ws,ha,p,_⟩:=r.list hg ei hd;rw [hσ] at hσ';cases hσ';rw [(rep.vw t).sv rfl];split at q
  ·rename_i w dw ρ2 e2;split at q
   ·rename_i j ej;split at q
    ·rename_i v0 ev0;split at q
     ·rename_i hc;obtain ⟨u,eu,h⟩:=Ea p ev0;have hu:u=.int v0:=by
       rcases h with ⟨_,h⟩ | ⟨_,_,_,_,h,_⟩
       ·exact h.sv rfl
       ·cases h
      subst hu;refine ⟨a,ws,b,.int v0,rfl,rfl,.inl (.inl ha),(by unfold BM;rw [<- Paired.length p,ej];exact eu),BJ r q (λ c e=>by rw [e2] at e;cases e) (λ e=>by rw [e2] at e;cases e) λ y e u H2 ef l2 r2 t2=>?_⟩;rw [e2] at ef;cases ef;rw [(r.vw t2).sv rfl];obtain ⟨a',hσ',ga',ws',ha',p',ds⟩:=r2.list hg ei hd;rw [hσ] at hσ';cases hσ';obtain ⟨g',r'⟩:=r2.setF (y:=.int (k v0 w)) (j:=j) (Z:=λ _=>False) hal hg ei hσ ga ha' p' ds hd hc.2 Le.refl rfl (.int _);exact ⟨_,_,rfl,rfl,a,ws',b,j,rfl,rfl,ha',by rw [<- Paired.length p'];exact ej,q _ _ g' r'⟩
     ·exact q.elim
    ·exact q.elim
   ·exact q.elim
  ·exact q.elim
 ·exact q.elim
end
def Fq (en:List (PV×Nat)->Option (Int×Int)) (fa:Fa) (asg:PV->Af->Option Af) (body:Fs):Fs:=E3 (CT en fa) [] asg body
def P7 (fa:Fa) (asg:PV->Af->Option Af) (body:Fs):Fs:=E3 (HW fa) [] asg body
def Dr (f:Fx) (vs:List Nat) (asg:PV->Af->Option Af) (body:Fs):Fs:=E3 (C0 f) vs asg body
def ET (v:Vw) (fa:Fa) (vs:List Nat) (asg:PV->Af->Option Af) (body:Fs):Fs:=E3 (CA v fa) vs asg body
def CN (en:List (PV×Nat)->Option (Int×Int)) (fa:Fa) (k:Nat) (asg:PV->Af->Option Af) (test:Fb) (elt:Fx):Fx:=Ej (CT en fa) k asg test elt
def BF (f:Fx) (k:Nat) (asg:PV->Af->Option Af) (test:Fb) (elt:Fx):Fx:=Ej (C0 f) k asg test elt
def EX (v:Vw) (fa:Fa) (k:Nat) (asg:PV->Af->Option Af) (test:Fb) (elt:Fx):Fx:=Ej (CA v fa) k asg test elt
theorem dm {vs:List Nat}{ρ:Af}:Bf om vs ρ=ρ:=if_pos rfl
def RawD (h:Heap) (d:Addr) (es:Array EB) (ep:Nat):Prop:=∃ o,h.get? d=some o/\o.ExactDict/\o.data=.dict es ep
theorem RawD.to {h h':Heap}{d:Addr}{es:Array EB}{ep:Nat} (x:RawD h d es ep) (k:∀ o,h.get? d=some o->h'.get? d=some o):RawD h' d es ep:=let ⟨o,e,r⟩:=x;⟨o,k o e,r⟩
section
variable {pg:AB}{wd:A9}{Ar:Bi}{Er:Ae->Ai->Prop}{st:Ai}{d it:Addr}{es:Array EB}{ep i:Nat}
theorem RawD.ty (x:RawD st.heap d es ep):st.TypeIs (.ref d) "dict" := let ⟨o,e,c,_⟩:=x;⟨o,e,c.1⟩
theorem YZ {Qv:Ae->Ai->Prop} (nm:(d == Fc)=false) (x:RawD st.heap d es ep)
  (q:Qv (.ref st.heap.objs.size) { st with heap:=st.heap.push { cls:=.type "dict_keyiterator",data:=.fields #[.ref d,.int 0 0,.int es.size 0,.int ep 0] } }):
  Al (Ay pg wd) Ar (pyIter (.ref d)) Qv Er st:=by
 obtain ⟨o,e1,c1,e2⟩:=id x;have tD:st.TypeIs (.ref d) "dict" := x.ty;refine wpAny_pyIter_slot tD F.slot_dict_iter (Gy F.slot_dict_iter tD F.entry_dict_iter ?_ (F.args_dict_iter_1 _));delta vl5.«dict.__iter__»;refine Ah ?_;delta Builtin.Dict.dictSlotNone;refine Ah (RH tD (show Al _ _ (pure (Value.ref d)) _ _ st from Aw ?_));show Al _ _ (Mj d >>= _) _ _ st;delta Mj;rw [if_neg (by rw [nm];exact Ce)];refine Ah (Aw (Ah (HM e1 e2 (Ah (KR e1 e2 (Ah (Fd (Aw ⟨_,rfl,"dict_keyiterator",_,⟨_,BA _ rfl,rfl⟩,F.slot_dict_keyiterator_next.lookup,?_⟩))))))));simpa [DO] using q
theorem bj {Qv:Option Ae->Ai->Prop}{e:EB} (ki:st.heap.IsKeyIter it d i es.size ep) (x:RawD st.heap d es ep) (hx:es[i]?=some e)
  (q:∀ hp,hp.IsKeyIter it d (i + 1) es.size ep->Jz it st.heap hp->Qv (some e.key) { st with heap:=hp }):
  Al (Ay pg wd) Ar (E9 (.ref it)) Qv Er st:=by
 obtain ⟨u,i1,i2,i3⟩:=id ki;obtain ⟨o,e1,c1,e2⟩:=id x;delta E9;refine Ah (KI (HQ (name:=Ha "__next__") ki.typeIs OX (Gy OX ki.typeIs Wc ?_ (We _))));refine Ah (Aw (Ah (Ah ?_)))
 first | refine Ah (OY ki.typeIs (Aw (Ah (KP i1 i3 ?_)))) | refine Ah (OS ki.typeIs (Aw (Ah (KP i1 i3 ?_))))
 simp only [show Ml "dict_keyiterator" = false from by decide,Hj,if_false];show Al _ _ (if (Value.ref d == Value.none)=true then _ else _) _ _ st;have nn:¬ ((Value.ref d == Value.none)=true):=Ce;rw [if_neg nn];refine Ah (Aw (Ah (HM e1 e2 ?_)));rw [if_neg (by simp)];refine Ah (Aw (Ah (KR e1 e2 ?_)));rw [if_neg (by simp)];refine Aw ?_;have nl:¬ ((i:Int) < 0):=by omega
 simp only [nl,if_false,Di,hx];refine Ah ?_
 first | refine Ah (OY ki.typeIs (Aw (Ah (RE ki.typeIs ?_)))) | refine Ah (OS ki.typeIs (Aw (Ah (RE ki.typeIs ?_))))
 show Al _ _ (setField (.ref it) 1 (DO ((i:Int) + 1)) >>= _) _ _ st;refine Ah (KQ i1 i3 (by simp) ?_);have k2:(st.heap.update it (Md (·.setIfInBounds 1 (DO ((i:Int) + 1))))).IsKeyIter it d (i + 1) es.size ep:=
  ⟨_,KY _ i1 (RD (KS i3 _)),(R3 ..).trans i2,by rw [KS i3];simp [DO]⟩
 refine Ah (J2 (Ah (RE (s:={ st with heap:=st.heap.update it (Md (·.setIfInBounds 1 (DO ((i:Int) + 1)))) }) k2.typeIs ?_)));show Al _ _ (pure e.key) _ _ _;exact Aw (Aw ⟨_,rfl,Aw (q _ k2 (KW ..))⟩)
end
def kP:A0->PV
 | .inl i=>.int i
 | .inr x=>.str x
def DX (k:List A0):PV:=.tup (k.map kP)
section
variable {X:Cx}
end
section
variable {K:Kx}{H:Hp}{Z:Addr->Prop}
theorem Tj:∀ (k:List A0),IsL K H Z (k.map kP) (k.map kV)
 | []=>.nil
 | .inl _::r=>.cons (.int _) (Tj r)
 | .inr _::r=>.cons (.str _) (Tj r)
theorem yr {b:Addr}{k:List A0} (h:H b=some (.tup (k.map kV))):Is K H Z (DX k) (.ref b):=.tup h (Tj k)
end
section
variable {pg:AB}{wd:A9}{Ar:Bi}{Er:Ae->Ai->Prop}{st:Ai}{d it:Addr}{es:Array EB}{ep i:Nat}
theorem f7 {Qv:Option Ae->Ai->Prop} (hd0:Ar.handled=none) (ki:st.heap.IsKeyIter it d i es.size ep) (x:RawD st.heap d es ep) (hge:es.size<=i)
  (q:∀ hp,Heap.ExtBut it st.heap hp->Qv none { st with heap:=hp }):Al (Ay pg wd) Ar (E9 (.ref it)) Qv Er st:=by
 obtain ⟨u,i1,i2,i3⟩:=id ki;obtain ⟨o,e1,c1,e2⟩:=id x;delta E9;refine Ah (KI (HQ (name:=Ha "__next__") ki.typeIs OX (Gy OX ki.typeIs Wc ?_ (We _))));refine Ah (Aw (Ah (Ah ?_)))
 first | refine Ah (OY ki.typeIs (Aw (Ah (KP i1 i3 ?_)))) | refine Ah (OS ki.typeIs (Aw (Ah (KP i1 i3 ?_))))
 simp only [show Ml "dict_keyiterator" = false from by decide,Hj,if_false];show Al _ _ (if (Value.ref d == Value.none)=true then _ else _) _ _ st;have nn:¬ ((Value.ref d == Value.none)=true):=Ce;rw [if_neg nn];refine Ah (Aw (Ah (HM e1 e2 ?_)));rw [if_neg (by simp)];refine Ah (Aw (Ah (KR e1 e2 ?_)));rw [if_neg (by simp)];refine Aw ?_;have nl:¬ ((i:Int) < 0):=by omega
 simp only [nl,if_false,Di,JU hge];refine Ah ?_
 first | refine Ah (OY ki.typeIs (Aw ?_)) | refine Ah (OS ki.typeIs (Aw ?_))
 show Al _ _ (setField (.ref it) 0 .none >>= _) _ _ st;refine Ah (KQ i1 i3 (by simp) ?_);show Al _ _ (newExc (.type "StopIteration") [] >>= _) _ _ _;refine Ah ?_;simp only [newExc,newTuple];refine Ah (Fd (Ah (m:=KO _ _) (wpAny_of_eq (a:=Value.none) (by first | rfl | (simp only [KO];rfl)) (Fd ?_ (by size_fits)))) (by size_fits));simp only [raiseNew];refine Ah (wpAny_handled ?_);rw [show Ar.in1.handled=none from hd0];refine Ah (Aw (wpAny_throw (E:=_) ?_));refine Ah (Mg (b:=true) (T := "StopIteration") ⟨_,BA _ rfl,rfl⟩ Rp ?_);exact Aw (q _ (((KW ..).extBut.push _).push _))
theorem ZK {v:Addr}{Qv:Ae->Ai->Prop} (hv:st.heap.IsValuesView v d) (x:RawD st.heap d es ep)
  (q:Qv (.ref st.heap.objs.size) { st with heap:=st.heap.push { cls:=.type "dict_valueiterator",data:=.fields #[.ref d,.int 0 0,.int es.size 0,.int ep 0] } }):
  Al (Ay pg wd) Ar (pyIter (.ref v)) Qv Er st:=by
 obtain ⟨ov,hov,hcv,hdv⟩:=id hv;obtain ⟨o,e1,c1,e2⟩:=id x;refine wpAny_pyIter_slot hv.typeIs F.slot_dict_values_iter (Gy F.slot_dict_values_iter hv.typeIs F.entry_dict_values_iter ?_ (F.args_dict_values_iter_1 _));delta vl5.«dict_values.__iter__»;refine Ah (Aw ?_);refine Ah ?_;delta Builtin.Dict_items.dictOf;refine Ah (Eu hov hdv (x:=.ref d) rfl (Aw ?_));refine Ah ?_;delta Builtin.Dict_items.newIterator;refine Ah (HM e1 e2 ?_);refine Ah (KR e1 e2 ?_);have hown:Ml "dict_valueiterator" = false:=by decide
 simp only [hown,Hj,if_false];refine Fd (Aw ⟨_,rfl,"dict_valueiterator",_,⟨_,BA _ rfl,rfl⟩,F.slot_dict_valueiterator_next.lookup,?_⟩);simpa [DO] using q
theorem fo {Qv:Option Ae->Ai->Prop}{e:EB} (ki:st.heap.IsValIter it d i es.size ep) (x:RawD st.heap d es ep) (hx:es[i]?=some e)
  (q:∀ hp,hp.IsValIter it d (i + 1) es.size ep->Jz it st.heap hp->Qv (some e.val) { st with heap:=hp }):
  Al (Ay pg wd) Ar (E9 (.ref it)) Qv Er st:=by
 obtain ⟨u,i1,i2,i3⟩:=id ki;obtain ⟨o,e1,c1,e2⟩:=id x;delta E9;refine Ah (KI (HQ (name:=Ha "__next__") ki.typeIs Pa (Gy Pa ki.typeIs Wf ?_ (Wh _))));refine Ah (Aw ?_);refine Ah ?_;refine Ah ?_
 first | refine Ah (OZ ki.typeIs (Aw ?_)) | refine Ah (OT ki.typeIs (Aw ?_))
 refine Ah (KP i1 i3 ?_);simp only [show Ml "dict_valueiterator" = false from by decide,Hj,if_false];show Al _ _ (if (Value.ref d == Value.none)=true then _ else _) _ _ st;rw [if_neg (show ¬ ((Value.ref d == Value.none)=true) from Ce)];refine Ah (Aw ?_);refine Ah (HM e1 e2 ?_);rw [if_neg (by simp)];refine Ah (Aw ?_);refine Ah (KR e1 e2 ?_);rw [if_neg (by simp)];refine Aw ?_;simp only [show ¬ ((i:Int) < 0) from by omega,if_false,Di,hx];refine Ah ?_
 first | refine Ah (OZ ki.typeIs (Aw ?_)) | refine Ah (OT ki.typeIs (Aw ?_))
 refine Ah (RF ki.typeIs ?_);show Al _ _ (setField (.ref it) 1 (DO ((i:Int) + 1)) >>= _) _ _ st;refine Ah (KQ i1 i3 (by simp) ?_);have k2:(st.heap.update it (Md (·.setIfInBounds 1 (DO ((i:Int) + 1))))).IsValIter it d (i + 1) es.size ep:=
  ⟨_,KY _ i1 (RD (KS i3 _)),(R3 ..).trans i2,by rw [KS i3];simp [DO]⟩
 refine Ah (J2 ?_);refine Ah (RF (s:={ st with heap:=st.heap.update it (Md (·.setIfInBounds 1 (DO ((i:Int) + 1)))) }) k2.typeIs ?_);refine Ah (RF (s:={ st with heap:=st.heap.update it (Md (·.setIfInBounds 1 (DO ((i:Int) + 1)))) }) k2.typeIs ?_);show Al _ _ (pure e.val) _ _ _;exact Aw (Aw ⟨_,rfl,Aw (q _ k2 (KW ..))⟩)
theorem fm {Qv:Option Ae->Ai->Prop} (hd0:Ar.handled=none) (ki:st.heap.IsValIter it d i es.size ep) (x:RawD st.heap d es ep) (hge:es.size<=i)
  (q:∀ hp,Heap.ExtBut it st.heap hp->Qv none { st with heap:=hp }):Al (Ay pg wd) Ar (E9 (.ref it)) Qv Er st:=by
 obtain ⟨u,i1,i2,i3⟩:=id ki;obtain ⟨o,e1,c1,e2⟩:=id x;delta E9;refine Ah (KI (HQ (name:=Ha "__next__") ki.typeIs Pa (Gy Pa ki.typeIs Wf ?_ (Wh _))));refine Ah (Aw ?_);refine Ah ?_;refine Ah ?_
 first | refine Ah (OZ ki.typeIs (Aw ?_)) | refine Ah (OT ki.typeIs (Aw ?_))
 refine Ah (KP i1 i3 ?_);simp only [show Ml "dict_valueiterator" = false from by decide,Hj,if_false];show Al _ _ (if (Value.ref d == Value.none)=true then _ else _) _ _ st;rw [if_neg (show ¬ ((Value.ref d == Value.none)=true) from Ce)];refine Ah (Aw ?_);refine Ah (HM e1 e2 ?_);rw [if_neg (by simp)];refine Ah (Aw ?_);refine Ah (KR e1 e2 ?_);rw [if_neg (by simp)];refine Aw ?_;simp only [show ¬ ((i:Int) < 0) from by omega,if_false,Di,JU hge];refine Ah ?_
 first | refine Ah (OZ ki.typeIs (Aw ?_)) | refine Ah (OT ki.typeIs (Aw ?_))
 show Al _ _ (setField (.ref it) 0 .none >>= _) _ _ st;refine Ah (KQ i1 i3 (by simp) ?_);show Al _ _ (newExc (.type "StopIteration") [] >>= _) _ _ _;refine Ah ?_;simp only [newExc,newTuple];refine Ah (Fd ?_ (by size_fits));refine Ah (m:=KO _ _) (wpAny_of_eq (a:=Value.none) (by first | rfl | (simp only [KO];rfl)) ?_);refine Fd ?_ (by size_fits);simp only [raiseNew];refine Ah (wpAny_handled ?_);rw [show Ar.in1.handled=none from hd0];refine Ah (Aw (wpAny_throw (E:=_) ?_));refine Ah (Mg (b:=true) (T := "StopIteration") ⟨_,BA _ rfl,rfl⟩ Rp ?_);exact Aw (q _ (((KW ..).extBut.push _).push _))
end
def Va (a:Addr) (o:Obj) (kvs:List (List A0×V)):It:=⟨λ i H=>H a=some (.frz o (.dT kvs))/\i < kvs.length,λ i H v H'=>H'=H/\∃ b p,v=.ref b/\kvs[i]?=some p/\H b=some (.tup (p.1.map kV)),λ i H=>H a=some (.frz o (.dT kvs))/\kvs.length<=i⟩
def UY (a:Addr) (o:Obj) (kvs:List (List A0×V)):It:=⟨λ i H=>H a=some (.frz o (.dT kvs))/\i < kvs.length,λ i H v H'=>H'=H/\∃ p,v=p.2/\kvs[i]?=some p,λ i H=>H a=some (.frz o (.dT kvs))/\kvs.length<=i⟩
theorem QA {α β:Type}{R:α->β->Prop}:∀ {xs:List α}{ys:List β},Bj R xs ys->∀ {i:Nat}{x:α},xs[i]?=some x->∃ y,ys[i]?=some y/\R x y
 | _,_,.nil,i,x,e=>by simp at e
 | _,_,.cons h t,0,x,e=>by simp at e;subst e;exact ⟨_,rfl,h⟩
 | _,_,.cons h t,i + 1,x,e=>by
  rw [qU] at e ⊢;exact QA t e
theorem QD {α β:Type}{R:α->β->Prop}:∀ {xs:List α}{ys:List β},Bj R xs ys->xs.length=ys.length
 | _,_,.nil=>rfl
 | _,_,.cons _ t=>by rw [AY,AY,QD t]
theorem Pg {X:Cx}{pins:List (Addr×Obj)}{σ:St}{H:Hp}{s:Ai}{a:Addr}{o:Obj}{kvs:List (List A0×V)}{es:Array EB}{ep:Nat} (I:Inv X pins σ H s) (hd:o.data=.dict es ep) (h:H a=some (.frz o (.dT kvs))):
  s.heap.get? a=some o/\o.ExactDict/\es.size=kvs.length/\∀ (i:Nat) (p:List A0×V),kvs[i]?=some p->∃ (e:EB) (b:Addr),es[i]?=some e/\e.key=.ref b/\H b=some (.tup (p.1.map kV))/\RelV p.2 e.val:=by
 obtain ⟨e0,hz,nm,ys,pr,o',es',ep',e1,c1,d1,l1,nd⟩:=(show zxk X.prog X.w H s.heap a (.frz o (.dT kvs)) from I.hok a _ h)
 cases e0.symm.trans e1;cases hd.symm.trans d1;have hl:es.size=ys.length:=by rw [<- Ls,l1,Ax]
 refine ⟨e0,c1,by rw [hl,QD pr],λ i p hp=>?_⟩;obtain ⟨q,hq,hk,hb,hv⟩:=QA pr hp;refine ⟨KG (Gw (C7 X.prog X.w)) q,q.2.1,?_,rfl,hb,hv⟩;rw [<- Ui,l1,BO,hq];rfl
theorem Vt {P:AB}{w:A9}{K:Frag}{tg:Expr}{o:Obj}{kvs:List (List A0×V)}{es:Array EB}{ep:Nat} (hd:o.data=.dict es ep) (a it:Addr):Turn P w K tg (Va a o kvs) [it] it (λ i h=>h.IsKeyIter it a i es.size ep) where
 mem:=by simp
 obj:=λ i h st b hb=>by
  have e:b=it:=by simpa using hb
  subst e;obtain ⟨o,e,c,d⟩:=st;exact ⟨o,e,λ v z=>by rw [d] at z;cases z⟩
 keep:=λ i h h' st k=>st.at λ o e=>k it (by simp) o e
 item:=by
  intro X hP hw hK hc i pins s σ H E I hf st hg;subst hP hw hK;obtain ⟨h1,hi⟩:=hg;obtain ⟨e0,c0,sz,at'⟩:=Pg I hd h1;obtain ⟨f0,f1,f2,f3,f4,f5⟩:=hf it (by simp);have hx:kvs[i]?=some kvs[i]:=Bb hi;obtain ⟨en,b,he,ek,hb,_⟩:=at' i _ hx;refine bj st ⟨o,e0,c0,hd⟩ he λ hp k2 sb=>?_;have I1:Inv X pins σ H { s with heap:=hp }:=I.turned (t':=s.toks) (λ b o hb e=>(sb.2 b hb).trans e) f0 f1 f3 f4 f5;obtain ⟨o',e,c,d⟩:=id k2;refine ⟨en.key,rfl,IM (s:={ s with heap:=hp }) e c d (by decide) ⟨.ref b,H,I1,ek,⟨rfl,b,_,rfl,hx,hb⟩,k2,λ b hb=>(hf b hb).1⟩⟩
 done:=by
  intro X hP hw hK hc i pins s σ H E I hf st hg;subst hP hw hK;obtain ⟨h1,hi⟩:=hg;obtain ⟨e0,c0,sz,at'⟩:=Pg I hd h1;obtain ⟨f0,f1,f2,f3,f4,f5⟩:=hf it (by simp);exact f7 (I.ok.hd hc) st ⟨o,e0,c0,hd⟩ (by omega) λ h' eb=>⟨rfl,I.turned (t':=s.toks) (λ b o hb e=>eb b o hb e) f0 f1 f3 f4 f5⟩
 self:=λ _ _ _ _ _ st h=>wpAny_pyIter_keyiter st h
theorem Vu {P:AB}{w:A9}{K:Frag}{tg:Expr}{o:Obj}{kvs:List (List A0×V)}{es:Array EB}{ep:Nat} (hd:o.data=.dict es ep) (a it:Addr):Turn P w K tg (UY a o kvs) [it] it (λ i h=>h.IsValIter it a i es.size ep) where
 mem:=by simp
 obj:=λ i h st b hb=>by
  have e:b=it:=by simpa using hb
  subst e;obtain ⟨o,e,c,d⟩:=st;exact ⟨o,e,λ v z=>by rw [d] at z;cases z⟩
 keep:=λ i h h' st k=>st.at λ o e=>k it (by simp) o e
 item:=by
  intro X hP hw hK hc i pins s σ H E I hf st hg;subst hP hw hK;obtain ⟨h1,hi⟩:=hg;obtain ⟨e0,c0,sz,at'⟩:=Pg I hd h1;obtain ⟨f0,f1,f2,f3,f4,f5⟩:=hf it (by simp);have hx:kvs[i]?=some kvs[i]:=Bb hi;obtain ⟨en,b,he,ek,hb,hv⟩:=at' i _ hx;refine fo st ⟨o,e0,c0,hd⟩ he λ hp k2 sb=>?_;have I1:Inv X pins σ H { s with heap:=hp }:=I.turned (t':=s.toks) (λ b o hb e=>(sb.2 b hb).trans e) f0 f1 f3 f4 f5;obtain ⟨o',e,c,d⟩:=id k2;refine ⟨en.val,rfl,IM (s:={ s with heap:=hp }) e c d (by decide) ⟨kvs[i].2,H,I1,hv,⟨rfl,_,rfl,hx⟩,k2,λ b hb=>(hf b hb).1⟩⟩
 done:=by
  intro X hP hw hK hc i pins s σ H E I hf st hg;subst hP hw hK;obtain ⟨h1,hi⟩:=hg;obtain ⟨e0,c0,sz,at'⟩:=Pg I hd h1;obtain ⟨f0,f1,f2,f3,f4,f5⟩:=hf it (by simp);exact fm (I.ok.hd hc) st ⟨o,e0,c0,hd⟩ (by omega) λ h' eb=>⟨rfl,I.turned (t':=s.toks) (λ b o hb e=>eb b o hb e) f0 f1 f3 f4 f5⟩
 self:=λ _ _ _ _ _ st h=>wpAny_pyIter_valiter st h
section
variable {X:Cx}{pins:List (Addr×Obj)}{σ:St}{H:Hp}{s:Ai}{a:Addr}{kvs:List (List A0×V)}{o:Obj}
def GI (X:Cx) (a:Addr):Prop:=∀ o u,X.H₀ a≠some (.frz o u)
theorem XA (I:Inv X pins σ H s) (h:H a=some (.dT kvs)):∃ o es ep,s.heap.get? a=some o/\o.ExactDict/\o.data=.dict es ep/\(a == Fc)=false/\Inv X pins σ (Av H a (.frz o (.dT kvs))) s/\GI X a:=by
 have hO:=(show zxk X.prog X.w H s.heap a (.dT kvs) from I.hok a _ h)
 obtain ⟨hz,nm,ys,pr,o,es,ep,e1,c1,d1,l1,nd⟩:=id hO;have na:∀ b u,H b=some u->u≠.dT kvs->b≠a:=λ b u q n z=>by subst z;rw [h] at q;cases q;exact n rfl
 have nn:∀ b,H b=none->b≠a:=λ b q z=>by subst z;rw [h] at q;cases q
 have tp:∀ b xs,H b=some (.tup xs)->Av H a (.frz o (.dT kvs)) b=some (.tup xs):=λ b xs q=>by rw [AG (na b _ q (λ z=>nomatch z))];exact q
 refine ⟨o,es,ep,e1,c1,d1,nm,⟨I.ok,I.os,I.bare,⟨I.base.keep,I.base.slot,λ b ob q n hx=>?_,I.base.there,λ b xs q=>tp b xs (I.base.tups b xs q),λ b ob u q=>?_,λ b ps q=>?_⟩,I.loc,I.cell,?_,λ x c q=>?_,λ p hp=>?_,λ b u q=>?_,I.len⟩,λ ob u z=>?_⟩
 ·have:=I.base.free b ob q n hx
  rw [AG (nn b this)];exact this
 ·have:=I.base.frzs b ob u q
  rw [AG (na b _ this (λ z=>nomatch z))];exact this
 ·obtain ⟨m,z⟩:=I.base.tbls b ps q;exact ⟨m,by rw [AG (na b _ z (λ z=>nomatch z))];exact z⟩
 ·rw [AG (nn _ I.free)];exact I.free
 ·rw [AG (nn _ (I.freeC x c q))];exact I.freeC x c q
 ·obtain ⟨p1,p2,p3⟩:=I.pin p hp;exact ⟨p1,by rw [AG (nn _ p2)];exact p2,p3⟩
 ·have stay:∀ {b:Addr}{u:HO},zxk X.prog X.w H s.heap b u->zxk X.prog X.w (Av H a (.frz o (.dT kvs))) s.heap b u:=λ x=>x.stay (λ _ _ _ e=>e) (λ c q=>by rw [AG (na c _ q (λ z=>nomatch z))];exact q) tp;by_cases hb:b=a
  ·subst hb;rw [BN] at q;cases q;exact ⟨e1,stay hO⟩
  ·rw [AG hb] at q;exact stay (I.hok b u q)
 ·have:=I.base.frzs a ob u z
  rw [h] at this;cases this
theorem Pq (I:Inv X pins σ H s) (h:H a=some (.frz o (.dT kvs))) (hX:GI X a):Inv X pins σ (Av H a (.dT kvs)) s:=by
 have hO:=(show zxk X.prog X.w H s.heap a (.frz o (.dT kvs)) from I.hok a _ h)
 have na:∀ b u,H b=some u->u≠.frz o (.dT kvs)->b≠a:=λ b u q n z=>by subst z;rw [h] at q;cases q;exact n rfl
 have nn:∀ b,H b=none->b≠a:=λ b q z=>by subst z;rw [h] at q;cases q
 have tp:∀ b xs,H b=some (.tup xs)->Av H a (.dT kvs) b=some (.tup xs):=λ b xs q=>by rw [AG (na b _ q (λ z=>nomatch z))];exact q
 refine ⟨I.ok,I.os,I.bare,⟨I.base.keep,I.base.slot,λ b ob q n hx=>?_,I.base.there,λ b xs q=>tp b xs (I.base.tups b xs q),λ b ob u q=>?_,λ b ps q=>?_⟩,I.loc,I.cell,?_,λ x c q=>?_,λ p hp=>?_,λ b u q=>?_,I.len⟩
 ·have:=I.base.free b ob q n hx
  rw [AG (nn b this)];exact this
 ·have:=I.base.frzs b ob u q
  rw [AG (λ z=>hX ob u (by rw [<- z];exact q))];exact this
 ·obtain ⟨m,z⟩:=I.base.tbls b ps q;exact ⟨m,by rw [AG (na b _ z (λ z=>nomatch z))];exact z⟩
 ·rw [AG (nn _ I.free)];exact I.free
 ·rw [AG (nn _ (I.freeC x c q))];exact I.freeC x c q
 ·obtain ⟨p1,p2,p3⟩:=I.pin p hp;exact ⟨p1,by rw [AG (nn _ p2)];exact p2,p3⟩
 ·have stay:∀ {b:Addr}{u:HO},zxk X.prog X.w H s.heap b u->zxk X.prog X.w (Av H a (.dT kvs)) s.heap b u:=λ x=>x.stay (λ _ _ _ e=>e) (λ c q=>by rw [AG (na c _ q (λ z=>nomatch z))];exact q) tp;by_cases hb:b=a
  ·subst hb;rw [BN] at q;cases q;exact stay hO.2
  ·rw [AG hb] at q;exact stay (I.hok b u q)
def Cy (X:Cx) (D:Ends):Ends where
 nx:=λ σ H=>D.nx σ H\/∃ a o kvs,H a=some (.frz o (.dT kvs))/\GI X a/\D.nx σ (Av H a (.dT kvs))
 rt:=λ v H=>D.rt v H\/∃ a o kvs,H a=some (.frz o (.dT kvs))/\GI X a/\D.rt v (Av H a (.dT kvs))
 bk:=λ σ H=>D.bk σ H\/∃ a o kvs,H a=some (.frz o (.dT kvs))/\GI X a/\D.bk σ (Av H a (.dT kvs))
 ct:=λ σ H=>D.ct σ H\/∃ a o kvs,H a=some (.frz o (.dT kvs))/\GI X a/\D.ct σ (Av H a (.dT kvs))
theorem Yu {st:Stmt}{t:TS} (h:PS X st t):PS X st (λ D σ H=>t (Cy X D) σ H):=by
 intro pins s σ H D I q;refine A2 (h pins s σ H (Cy X D) I q) λ f s' z=>?_;cases f with
 | next=>
  obtain ⟨σ',H',I',q | ⟨a,o,kvs,ha,hX,q⟩⟩:=z
  ·exact ⟨σ',H',I',q⟩
  ·exact ⟨σ',_,Pq I' ha hX,q⟩
 | brk=>
  obtain ⟨σ',H',I',q | ⟨a,o,kvs,ha,hX,q⟩⟩:=z
  ·exact ⟨σ',H',I',q⟩
  ·exact ⟨σ',_,Pq I' ha hX,q⟩
 | cont=>
  obtain ⟨σ',H',I',q | ⟨a,o,kvs,ha,hX,q⟩⟩:=z
  ·exact ⟨σ',H',I',q⟩
  ·exact ⟨σ',_,Pq I' ha hX,q⟩
 | ret u=>
  obtain ⟨v,σ',H',I',r,q | ⟨a,o,kvs,ha,hX,q⟩⟩:=z
  ·exact ⟨v,σ',H',I',r,q⟩
  ·exact ⟨v,σ',_,Pq I' ha hX,r,q⟩
theorem j8 {st:Stmt}{t u:TS} (h:PS X st t) (h':PS X st u):PS X st (λ D σ H=>t D σ H\/u D σ H):=λ pins s σ H D I q=>q.elim (h pins s σ H D I) (h' pins s σ H D I)
def Wr (X:Cx) (tl:TE):TI:=λ σ H R=>tl σ H λ x H1=>∃ a kvs,x=.ref a/\((H1 a=some (.dT kvs)/\∀ o,GI X a->R (Va a o kvs) (Av H1 a (.frz o (.dT kvs))))\/∃ o,H1 a=some (.frz o (.dT kvs))/\R (Va a o kvs) H1)
theorem u4 {tg l:Expr}{tl:TE} (hl:PE X l tl):PI X tg l (Wr X tl):=by
 intro pins s σ H R I h;refine A2 (hl pins s σ H _ I h) λ v s1 ⟨x,H1,I1,r1,q1⟩=>?_;obtain ⟨a,kvs,rfl,⟨ha,q⟩ | ⟨o,ha,q⟩⟩:=q1
 ·cases r1;obtain ⟨o,es,ep,e0,c0,d0,nm,I2,hX⟩:=XA I1 ha;refine YZ nm ⟨o,e0,c0,d0⟩ ?_;refine ⟨s1.heap.objs.size,[s1.heap.objs.size],_,_,_,rfl,I2.kept (t':=s1.toks) λ b o e=>Ba _ e,Vt d0 a _,⟨_,BA _ rfl,rfl,rfl⟩,λ b hb=>?_,q o hX⟩;have e:b=s1.heap.objs.size:=by simpa using hb
  subst e;exact I2.fpOk (A5 _) (I2.hok.fresh (A5 _))
 ·cases r1;obtain ⟨e0,hz,nm,ys,pr,o',es,ep,e1,c1,d1,l1,nd⟩:=(show zxk X.prog X.w H1 s1.heap a (.frz o (.dT kvs)) from I1.hok a _ ha)
  cases e0.symm.trans e1;refine YZ nm ⟨o,e0,c1,d1⟩ ?_;refine ⟨s1.heap.objs.size,[s1.heap.objs.size],_,_,_,rfl,I1.kept (t':=s1.toks) λ b o e=>Ba _ e,Vt d1 a _,⟨_,BA _ rfl,rfl,rfl⟩,λ b hb=>?_,q⟩;have e:b=s1.heap.objs.size:=by simpa using hb
  subst e;exact I1.fpOk (A5 _) (I1.hok.fresh (A5 _))
theorem fH {pg:AB}{wd:A9} (d:Addr) (hd:(d == Fc)=false):
  MeetsIn pg wd (vl5.«dict.values» ⟨[.ref d],[]⟩) (λ _ R s=>s.TypeIs (.ref d) "dict" /\
   R (.ok (.ret (.ref s.heap.objs.size))) { s with heap:=s.heap.push { cls:=.type "dict_values",data:=.fields #[.ref d] } }):=
 .of_wp λ A R s ⟨hm,h⟩=>by
  refine Ah ?_;delta Builtin.Dict.noArgs;refine Ah (RH hm ?_);show Al _ _ (pure d) _ _ s;refine Aw ?_;show Al _ _ (Mj d >>= _) _ _ s;delta Mj;rw [if_neg (by rw [hd];exact Ce)];refine Ah (Aw ?_);exact Ah (Fd (Aw ⟨_,rfl,h⟩))
def WG (to:TE):TE:=λ σ H Q=>to σ H λ x H1=>∃ a kvs,x=.ref a/\Rd H1 a (.dT kvs)/\∀ v,H1 v=none->Q (.ref v) (Av H1 v (.ext λ h=>h.IsValuesView v a))
theorem uz {o:Expr}{to:TE}{apos cpos:Pos} (ho:PE X o to) (hbase:attributeBase o "values" X.env (eval o X.env)=eval o X.env:=by rfl) (hline:(apos.endLine == cpos.line)=true:=by rfl):PE X (.Call (.Attribute o "values" apos) [] [] cpos) (WG to):=by
 intro pins s σ H Q I h;refine wpAny_Call_method0_late hbase hline (A2 (ho pins s σ H _ I h) λ v s1 ⟨x,H1,I1,r1,a,kvs,ex,rd,q⟩=>?_);subst ex;cases r1;obtain ⟨hz,nm,ys,pr,ob,es,ep,e1,c1,d1,l1,nd⟩:=(show zxk X.prog X.w H1 s1.heap a (.dT kvs) from Rd.ok rd I1.hok)
 have ty:s1.TypeIs (.ref a) "dict" := ⟨ob,e1,c1.1⟩
 refine ⟨"dict","dict.values",PySem.F.plainAttrs_dict,PySem.F.slot_dict_values,PySem.F.type_dict_values,ty,λ b e=>by cases e;exact ⟨ob,e1,c1.2.1⟩,Calls.callWith_builtin rfl (PySem.evalArgs_none ?_)⟩;refine call_meetsIn PySem.F.slot_dict_values ty PySem.F.entry_dict_values (PySem.F.args_dict_values_1 _) (fH a nm) ⟨ty,?_⟩;refine ⟨.ref s1.heap.objs.size,_,I1.laid (t':=s1.toks) (λ b o e=>Ba _ e) (A5 _) ?_,rfl,q _ (I1.hok.fresh (A5 _))⟩;exact ⟨⟨_,BA _ rfl,rfl,rfl⟩,⟨_,BA _ rfl⟩,λ h1 h2 x k=>by obtain ⟨o,e,r⟩:=x;exact ⟨o,k o e,r⟩⟩
def Wv (X:Cx) (tl:TE):TI:=λ σ H R=>tl σ H λ x H1=>∃ v a kvs,x=.ref v/\H1 v=some (.ext λ h=>h.IsValuesView v a)/\((H1 a=some (.dT kvs)/\∀ o,GI X a->R (UY a o kvs) (Av H1 a (.frz o (.dT kvs))))\/∃ o,H1 a=some (.frz o (.dT kvs))/\R (UY a o kvs) H1)
theorem u5 {tg l:Expr}{tl:TE} (hl:PE X l tl):PI X tg l (Wv X tl):=by
 intro pins s σ H R I h;refine A2 (hl pins s σ H _ I h) λ v s1 ⟨x,H1,I1,r1,q1⟩=>?_;obtain ⟨vv,a,kvs,rfl,hv,q1⟩:=q1;cases r1;have view:s1.heap.IsValuesView vv a:=(show zxk X.prog X.w H1 s1.heap vv (.ext λ h=>h.IsValuesView vv a) from I1.hok vv _ hv).1;rcases q1 with ⟨ha,q⟩ | ⟨o,ha,q⟩
 ·obtain ⟨o,es,ep,e0,c0,d0,nm,I2,hX⟩:=XA I1 ha;refine ZK view ⟨o,e0,c0,d0⟩ ?_;refine ⟨s1.heap.objs.size,[s1.heap.objs.size],_,_,_,rfl,I2.kept (t':=s1.toks) λ b o e=>Ba _ e,Vu d0 a _,⟨_,BA _ rfl,rfl,rfl⟩,λ b hb=>?_,q o hX⟩;have e:b=s1.heap.objs.size:=by simpa using hb
  subst e;exact I2.fpOk (A5 _) (I2.hok.fresh (A5 _))
 ·obtain ⟨e0,hz,nm,ys,pr,o',es,ep,e1,c1,d1,l1,nd⟩:=(show zxk X.prog X.w H1 s1.heap a (.frz o (.dT kvs)) from I1.hok a _ ha)
  cases e0.symm.trans e1;refine ZK view ⟨o,e0,c1,d1⟩ ?_;refine ⟨s1.heap.objs.size,[s1.heap.objs.size],_,_,_,rfl,I1.kept (t':=s1.toks) λ b o e=>Ba _ e,Vu d1 a _,⟨_,BA _ rfl,rfl,rfl⟩,λ b hb=>?_,q⟩;have e:b=s1.heap.objs.size:=by simpa using hb
  subst e;exact I1.fpOk (A5 _) (I1.hok.fresh (A5 _))
end
def P4:Rs->Bool
 | .exc _=>false
 | _=>true
def EF (r:Rs):Rs:=if P4 r=true then r else .no
def HE (f:Fx) (vs:List Nat) (asg:PV->Af->Option Af) (body:Fs):Fs:=λ ρ=>match f ρ with
 | .ok (.dcl ks _,d,ρ1)=>EF (Bu asg body (ks.map DX) (Bf d vs ρ1))
 | _=>Dr f vs asg body ρ
def Lh (f:Fx) (vs:List Nat) (asg:PV->Af->Option Af) (body:Fs):Fs:=λ ρ=>match f ρ with
 | .ok (.dcl _ xs,d,ρ1)=>EF (Bu asg body xs (Bf d vs ρ1))
 | _=>.no
def Fm.fz (M:Fm) (a:Addr) (o:Obj) (kvs:List (List A0×V)):Fm:={ M with H₀:=Av M.H₀ a (.frz o (.dT kvs)) }
section
variable {M:Fm}{ρ ρ':Af}{σ σ':St}{H H' H0 H1:Hp}{g g' g1:Os}{vs is:List Nat}{K:Kx}{Z Z' G:Addr->Prop}{x:PV}{d i:Nat}{v:V}{a:Addr}{f:Fx}{D:Ends}{R:Rs}{kvs:List (List A0×V)}{o:Obj}{o1 o2:HO}{X:Cx}{tg:TG}{asg:PV->Af->Option Af}{body:Fs}
def DF (kvs:List (List A0×V)) (o:HO):Prop:=o=.dT kvs\/∃ u,o=.frz u (.dT kvs)
theorem DF.so (h:DF kvs o1):¬ So o1:=by rcases h with rfl | ⟨u,rfl⟩ <;> exact id
theorem LJ (h:H a=some o1) (h1:DF kvs o1) (h2:DF kvs o2):Kp K Z H (Av H a o2):=λ b o eb=>by
 by_cases hb:b=a
 ·subst hb;rw [h] at eb;cases eb;exact .inr (.inr ⟨kvs,h1,h2.elim (λ e=>.inl (by rw [BN,e])) λ ⟨u,e⟩=>.inr ⟨u,by rw [BN,e]⟩⟩)
 ·exact .inl (by rw [AG hb];exact eb)
theorem O1 (n:¬ G a):∀ b o,G b->H b=some o->Av H a o2 b=some o:=λ b o gb e=>by rw [AG (by rintro rfl;exact n gb)];exact e
theorem Rep.turn {B:Hp} (r:Rep M ρ σ H g) (h:H a=some o1) (h1:DF kvs o1) (h2:DF kvs o2) (n:∀ i,¬ g.ow i a) (hn:∀ i b,g.ow i b->B b=none) (h0:Lx M.E B (Av H a o2)) (le:M.E.Le (M.k g) B) (cl:M.cl=true->Le B (Av H a o2)) (zd:∀ c b,M.Z c b->B b≠none):Rep { M with H₀:=B } ρ σ (Av H a o2) g:=
 ⟨λ i x d e hg=>let ⟨v,hv,s⟩:=r.own i x d e hg;⟨v,hv,s.move (LJ h h1 h2) .rf (O1 (n i)) λ _ q=>.inl q⟩,
  λ i hg=>let ⟨os,d,e,s⟩:=r.sto i hg;⟨os,d,e,s.move (LJ h h1 h2) (O1 λ z=>by obtain ⟨o,so,e⟩:=s.st a z;rw [h] at e;cases e;exact h1.so so) λ _ q=>.inl q⟩,
  λ i b hb=>⟨hn i b hb,(r.new i b hb).2⟩,r.dj,λ b s=>⟨by
   by_cases hb:b=a
   ·rw [hb,BN];simp
   ·rw [AG hb];exact (r.st b s).1,(r.st b s).2⟩,h0,le,cl,r.ke,r.nw,zd,r.zt,r.len⟩
theorem QM (h:M.H₀ a=some o1) (h1:¬ So o1) (l:Lx M.E M.H₀ H):H a=some o1:=(l a _ h).resolve_right λ z=>h1 z.2.1
theorem Rep.fz (r:Rep M ρ σ H g) (h:M.H₀ a=some (.dT kvs)):Rep (M.fz a o kvs) ρ σ (Av H a (.frz o (.dT kvs))) g:=by
 have ha:=QM h id r.h0;have up:∀ b u,Av M.H₀ a (.frz o (.dT kvs)) b=some u->b=a\/(b≠a/\M.H₀ b=some u):=λ b u e=>by
  by_cases hb:b=a
  ·exact .inl hb
  ·rw [AG hb] at e;exact .inr ⟨hb,e⟩
 refine r.turn ha (.inl rfl) (.inr ⟨o,rfl⟩) (λ i z=>by rw [(r.new i a z).1] at h;cases h) (λ i b z=>?_) (λ b u e=>?_) ⟨r.le.kk,r.le.lc,r.le.st,λ b u e so s=>?_⟩ (λ c b u e=>?_) λ c b z=>?_
 ·have hb:=(r.new i b z).1;rw [AG λ q=>by rw [q,h] at hb;cases hb];exact hb
 ·rcases up b u e with rfl | ⟨n,e1⟩
  ·exact .inl (by rw [BN] at e ⊢;exact e)
  ·rw [AG n];exact r.h0 b u e1
 ·rcases up b u e with rfl | ⟨n,e1⟩
  ·rw [BN] at e;cases e;exact so.elim
  ·exact r.le.nw b u e1 so s
 ·rcases up b u e with rfl | ⟨n,e1⟩
  ·rw [BN] at e ⊢;exact e
  ·rw [AG n];exact r.cl c b u e1
 ·by_cases hb:b=a
  ·rw [hb,BN];simp
  ·rw [AG hb];exact r.zd c b z
theorem MI {b:Addr}{u:HO} (n:b≠a):(M.fz a o kvs).H₀ b=M.H₀ b:=AG n
theorem Y0 (h:M.H₀ a=some (.dT kvs)) (l:Lx M.E (M.fz a o kvs).H₀ H):Lx M.E M.H₀ (Av H a (.dT kvs)):=λ b u e=>by
 by_cases hb:b=a
 ·subst hb;rw [h] at e;exact .inl (by rw [BN];exact e)
 ·rw [AG hb];exact l b u ((MI (u:=u) hb).trans e)
theorem Yz {K':Kx} (h:M.H₀ a=some (.dT kvs)) (l:M.E.Le K' (M.fz a o kvs).H₀):M.E.Le K' M.H₀:=⟨l.kk,l.lc,l.st,λ b u e so s=>l.nw b u ((MI (u:=u) λ z=>by rw [z,h] at e;cases e;exact so).trans e) so s⟩
theorem Y6 (h:M.H₀ a=some (.dT kvs)) (l:Le (M.fz a o kvs).H₀ H):Le M.H₀ (Av H a (.dT kvs)):=λ b u e=>by
 by_cases hb:b=a
 ·subst hb;rw [h] at e;rw [BN];exact e
 ·rw [AG hb];exact l b u ((MI (u:=u) hb).trans e)
theorem Sl:(M.fz a o kvs).H₀ a=some (.frz o (.dT kvs)):=BN
theorem NL {b:Addr} (h:M.H₀ a=some (.dT kvs)) (e:(M.fz a o kvs).H₀ b=none):M.H₀ b=none/\b≠a:=by
 have n:b≠a:=λ z=>by rw [z,Sl] at e;cases e
 exact ⟨(MI (u:=.own a) n).symm.trans e,n⟩
theorem Rep.unfz (h:M.H₀ a=some (.dT kvs)) (r:Rep (M.fz a o kvs) ρ σ H g):H a=some (.frz o (.dT kvs))/\Rep M ρ σ (Av H a (.dT kvs)) g:=by
 have ha:=QM (M:=M.fz a o kvs) Sl id r.h0;exact ⟨ha,r.turn (B:=M.H₀) ha (.inr ⟨o,rfl⟩) (.inl rfl) (λ i z=>(NL h (r.new i a z).1).2 rfl) (λ i b z=>(NL h (r.new i b z).1).1) (Y0 h r.h0) (Yz h r.le) (λ c=>Y6 h (r.cl c)) λ c b z e=>by
  by_cases hb:b=a
  ·rw [hb,h] at e;cases e
  ·exact r.zd c b z ((MI (u:=.own a) hb).trans e)⟩
theorem RsOk.fz (h:M.H₀ a=some (.dT kvs)) (hX:GI X a) (ne:P4 R=true) (q:RsOk M D R):RsOk (M.fz a o kvs) (Cy X D) R:=by
 cases R with
 | no=>exact q
 | exc c=>cases ne
 | rt x d ρ'=>
  intro v H' g' f ⟨G,hG,s⟩;have ha:=QM (M:=M.fz a o kvs) Sl id f.lx;refine .inr ⟨a,o,kvs,ha,hX,q v _ g' ⟨Y0 h f.lx,Yz h f.le,λ c=>Y6 h (f.cl c),f.ke,λ i hg=>?_⟩ ⟨G,λ b z=>(NL h (hG b z)).1,s.move (LJ ha (.inr ⟨o,rfl⟩) (.inl rfl)) .rf (O1 λ z=>(NL h (hG a z)).2 rfl) λ _ q=>.inl q⟩⟩;obtain ⟨os,d,e,s⟩:=f.sto i hg;exact ⟨os,d,e,s.move (LJ ha (.inr ⟨o,rfl⟩) (.inl rfl)) (O1 λ z=>by obtain ⟨o,so,e⟩:=s.st a z;rw [ha] at e;cases e;exact so) λ _ q=>.inl q⟩
 | nx ρ'=>exact λ σ' H' g' r=>let ⟨ha,r'⟩:=r.unfz h;.inr ⟨a,o,kvs,ha,hX,q σ' _ g' r'⟩
 | bk ρ'=>exact λ σ' H' g' r=>let ⟨ha,r'⟩:=r.unfz h;.inr ⟨a,o,kvs,ha,hX,q σ' _ g' r'⟩
 | ct ρ'=>exact λ σ' H' g' r=>let ⟨ha,r'⟩:=r.unfz h;.inr ⟨a,o,kvs,ha,hX,q σ' _ g' r'⟩
theorem RsOk.thaw0 (q:RsOk M D R):RsOk M (Cy X D) R:=by
 cases R with
 | no=>exact q
 | exc c=>exact q
 | rt x d ρ'=>exact λ v H' g' f t=>.inl (q v H' g' f t)
 | _=>exact λ σ' H' g' r=>.inl (q σ' H' g' r)
theorem ug (q:RsOk M D (EF R)):P4 R=true/\RsOk M D R:=by
 unfold EF at q;by_cases h:P4 R=true
 ·rw [if_pos h] at q;exact ⟨h,q⟩
 ·rw [if_neg h] at q;exact q.elim
theorem Y3 {ks:List (List A0)}{ws:List V}{p:List A0×V} (h:(ks.zip ws)[i]?=some p):ks[i]?=some p.1/\ws[i]?=some p.2:=by
 rw [qX] at h;exact h
theorem YK {J:Obj->It}{els:List PV} (r:Rep M ρ σ H g) (hr:Rd H a (.dT kvs)) (n:∀ i,¬ g.ow i a) (y:∀ o H',Kp (M.k g) (M.z g [] 0) H H'->(H a=some (.dT kvs)\/H'=H)->H' a=some (.frz o (.dT kvs))->Yl (M.k g) (M.z g [] 0) H' (J o) els) (hg:∀ B g,Gd (M.at B g) [] is tg asg) (q:RsOk M D (EF (Bu asg body els ρ))):
  (H a=some (.dT kvs)/\∀ o,GI X a->∃ W:Nat->Nat->St->Hp->Prop,(∃ m,W 0 m σ (Av H a (.frz o (.dT kvs))))/\∀ i m σ H,W i m σ H->((J o).stop i H/\(Cy X D).nx σ H)\/((J o).go i H/\∃ N:St->Hp->Prop,(∀ σ' H',N σ' H'->∃ m',m' < m/\W (i + 1) m' σ' H')/\∀ x H',(J o).yld i H x H'->tg x σ H' λ σ2 H2=>(tX M body) { (Cy X D) with nx:=N,ct:=N,bk:=(Cy X D).nx } σ2 H2)) \/
  ∃ o,H a=some (.frz o (.dT kvs))/\∃ W:Nat->Nat->St->Hp->Prop,(∃ m,W 0 m σ H)/\∀ i m σ H,W i m σ H->((J o).stop i H/\(Cy X D).nx σ H)\/((J o).go i H/\∃ N:St->Hp->Prop,(∀ σ' H',N σ' H'->∃ m',m' < m/\W (i + 1) m' σ' H')/\∀ x H',(J o).yld i H x H'->tg x σ H' λ σ2 H2=>(tX M body) { (Cy X D) with nx:=N,ct:=N,bk:=(Cy X D).nx } σ2 H2):=by
 obtain ⟨ne,q⟩:=ug q;rcases hr with hr | ⟨o,hr⟩
 ·refine .inl ⟨hr,λ o hX=>?_⟩;obtain ⟨B,lB,cB,bH,rB,hB,hN⟩:=r.rebase;have hb:(M.at B g).H₀ a=some (.dT kvs):=(hB a _ hr).resolve_left λ ⟨i,z⟩=>n i z;exact S7 (M:=(M.at B g).fz a o kvs) (rB.fz hb) (y o _ (LJ hr (.inl rfl) (.inr ⟨o,rfl⟩)) (.inl hr) BN) hg (.fz hb hX ne (.base r lB cB q))
 ·exact .inr ⟨o,hr,S7 r (y o H Le.refl.kp (.inr rfl) hr) hg q.thaw0⟩
theorem P0 {o1:HO} (k:Kq K Z H H') (h:H a=some o1) (m:¬ Mo o1) (s:¬ So o1):H' a=some o1:=(k a _ h).resolve_right λ z=>z.elim (λ z=>m z.2) λ z=>s z.2
theorem uK (hal:∀ i,M.al i=[]) (hg:∀ B g,Gd (M.at B g) [] is tg asg) (hq:tS M (HE f vs asg body) D σ H):
  Ft (JZ M.K (tE M f vs)) tg (tX M body) D σ H\/Ft (Wr X (tE M f vs)) tg (tX M body) (Cy X D) σ H:=by
 obtain ⟨ρ,g,rep,q⟩:=id hq;unfold HE at q;split at q
 ·rename_i ks xs d ρ1 ef;refine .inr (BJ rep q (λ c e=>by rw [ef] at e;cases e) (λ e=>by rw [ef] at e;cases e) λ y e v H1 e1 l r t=>?_);rw [ef] at e1;cases e1;obtain ⟨g1,r1,ek,h1⟩:=r.cooled hal d vs;obtain ⟨a,ws,rfl,na,en,hr,ol⟩:=(ek ▸ (rep.vw t).weak λ a=>Ku h1 rep.zt (.inr (by decide)):Is (M.k g1) H1 (M.z g1 [] 0) (.dcl ks xs) v).dcl;have lz:(ks.zip ws).length=(ks.map DX).length:=by rw [Ln,Ax];have:=ol.length;omega
  refine ⟨a,ks.zip ws,rfl,YK r1 hr (λ i z=>na (.inl ⟨i,z,.inr (by simp)⟩)) (λ o H' _ _ ha=>⟨λ H i k h=>⟨P0 k ha id id,by rw [lz];exact h⟩,λ H i k h=>⟨P0 k ha id id,by rw [lz];exact h⟩,λ H i x H2 k h y=>?_⟩) hg q⟩;obtain ⟨rfl,b,p',rfl,hp,hb⟩:=y;exact ⟨Le.refl,DX p'.1,by rw [BO,(Y3 hp).1];rfl,λ _ _ _ _=>yr hb⟩
 ·refine .inl ?_
  have:Ft (tI M (C0 f) vs) tg (tX M body) D σ H:=Ys hal hg ⟨ρ,g,rep,q⟩
  exact Ww this
theorem uL (hal:∀ i,M.al i=[]) (hg:∀ B g,Gd (M.at B g) [] is tg asg) (hq:tS M (Lh f vs asg body) D σ H):Ft (Wv X (WG (tE M f vs))) tg (tX M body) (Cy X D) σ H:=by
 obtain ⟨ρ,g,rep,q⟩:=id hq;unfold Lh at q;split at q
 ·rename_i ks xs d ρ1 ef;refine BJ rep q (λ c e=>by rw [ef] at e;cases e) (λ e=>by rw [ef] at e;cases e) λ y e v H1 e1 l r t=>?_;rw [ef] at e1;cases e1;obtain ⟨g1,r1,ek,h1⟩:=r.cooled hal d vs;obtain ⟨a,ws,rfl,na,en,hr,ol⟩:=(ek ▸ (rep.vw t).weak λ a=>Ku h1 rep.zt (.inr (by decide)):Is (M.k g1) H1 (M.z g1 [] 0) (.dcl ks xs) v).dcl;refine ⟨a,ks.zip ws,rfl,hr,λ vw hvw=>⟨vw,a,ks.zip ws,rfl,BN,?_⟩⟩;have lw:=E1 (o:=.ext λ h=>h.IsValuesView vw a) hvw;have lz:(ks.zip ws).length=xs.length:=by rw [Ln];have:=ol.length;omega
  refine YK (r1.grow lw) (hr.imp (lw a _) λ ⟨o,h⟩=>⟨o,lw a _ h⟩) (λ i z=>na (.inl ⟨i,z,.inr (by simp)⟩)) (λ o H' k2 _ ha=>⟨λ H i k h=>⟨P0 k ha id id,by rw [lz];exact h⟩,λ H i k h=>⟨P0 k ha id id,by rw [lz];exact h⟩,λ H i x H2 k h y=>?_⟩) hg q;obtain ⟨rfl,p',rfl,hp⟩:=y;obtain ⟨z,ez,o⟩:∃ z,xs[i]?=some z/\_:=Jt (Y3 hp).2 h;exact ⟨Le.refl,z,ez,λ K' Z' hk hz=>o _ _ _ (((ol.up lw).move k2 .rf λ _=>.inl).move k.kp hk hz)⟩
 ·exact q.elim
end
section
variable {pg:AB}{wd:A9}{Ar:Bi}{Er:Ae->Ai->Prop}{st:Ai}{d:Addr}{es:Array EB}{ep:Nat}
theorem l5 {b:Addr}{Qv:Bool->Ai->Prop} (hT:st.TypeIs (.ref b) "tuple") (q:Qv false st):Al (Ay pg wd) Ar (Builtin.Dict.quietEq (.ref b)) Qv Er st:=by
 delta Builtin.Dict.quietEq;refine Ah (OK hT F.slot_tuple_eq.lookup ?_);exact Aw q
theorem gQ {nm:String}{Qv:Array EB->Ai->Prop} (x:RawD st.heap d es ep) (ht:∀ e∈es.toList,∃ b,e.key=.ref b/\st.TypeIs (.ref b) "tuple") (hh:∀ e∈es.toList,¬ (es.filter (·.hash == e.hash)).size > 1) (q:Qv es st):
  Al (Ay pg wd) Ar (Wa nm d) Qv Er st:=by
 obtain ⟨o,e1,c1,e2⟩:=id x;delta Wa;refine Ah (HM e1 e2 ?_);refine Ah ?_;rw [<- Array.forIn_toList];refine wpAny_forIn_list _ (λ rest _ s'=>s'=st/\∀ e∈rest,e∈es.toList) _ ?_ ?_ _ _ ⟨rfl,λ _ h=>h⟩
 ·rintro e rest b s' ⟨rfl,hr⟩;have he:=hr e AD;obtain ⟨b',ek,hT⟩:=ht e he;rw [ek];refine Ah (l5 hT ?_);rw [if_pos (by decide),if_neg (hh e he)];exact Aw ⟨rfl,λ z hz=>hr z (AE _ hz)⟩
 ·rintro b s' ⟨rfl,_⟩;exact Aw q
end
def xa:A0->Bool
 | .inl _=>true
 | .inr _=>false
def Wo:A0->Int
 | .inl i=>hashInt i
 | .inr _=>0
def GY (k:List A0):Int:=reduceHash (RP (k.map Wo))
def DE (ks:List (List A0)):Bool:=(ks.all λ k=>k.all xa) && (ks.all λ k=>decide ((ks.filter λ k'=>GY k' == GY k).length<=1))
theorem yM {P:AB}{w:A9}{k:List A0} (h:k.all xa=true):(Gw (C7 P w)).hash k=GY k:=by
 show reduceHash (RP (k.map (C7 P w).hash))=reduceHash (RP (k.map Wo));congr 2;apply GB;intro x hx
 have:=jb3.mp h x hx
 cases x with
 | inl i=>rfl
 | inr x=>cases this
theorem zE {pg:AB}{wd:A9}{Ar:Bi}{Er:Ae->Ai->Prop}{st:Ai}{d:Addr}{es:Array EB}{ep:Nat}{Qv:Ae->Ai->Prop} (nm:(d == Fc)=false) (x:RawD st.heap d es ep) (ne:es.size≠0) (hz:es.size<=Au)
  (ht:∀ e∈es.toList,∃ b,e.key=.ref b/\∀ h':Heap,(∀ o,st.heap.get? b=some o->h'.get? b=some o)->Shared.TypeIs { st with heap:=h' } (.ref b) "tuple") (hh:∀ e∈es.toList,¬ (es.filter (·.hash == e.hash)).size > 1)
  (good:∀ h',(∀ b o,st.heap.get? b=some o->h'.get? b=some o)->(∃ o' ep',h'.get? st.heap.objs.size=some o'/\o'.ExactDict/\o'.data=.dict es ep')->Qv (.ref st.heap.objs.size) { st with heap:=h' }):
  Al (Ay pg wd) Ar (call (.type "dict") [.ref d]) Qv Er st:=by
 refine callType_codes (Q₁:=λ obj s₁=>obj=.ref st.heap.objs.size/\s₁={ st with heap:=st.heap.push { cls:=.type "dict",data:=.dict #[] } }) F.kt_called_dict (F.kt_typeCall_dict_1 _) F.entry_dict_init (kt_code_dict_new _ ⟨rfl,rfl⟩) ?_;rintro obj s₁ ⟨rfl,rfl⟩;obtain ⟨o,e1,c1,e2⟩:=id x;have hl:=AH e1;have hdo:st.heap.objs.size≠d:=λ e=>by rw [e] at hl;exact DB _ hl
 have kp:∀ b ob,st.heap.get? b=some ob->(st.heap.push { cls:=.type "dict",data:=.dict #[] }).get? b=some ob:=λ b ob e=>Ba _ e;have e1':=kp d o e1;have hN:(st.heap.push { cls:=.type "dict",data:=.dict #[] }).get? st.heap.objs.size=some { cls:=.type "dict",data:=.dict #[] }:=BA _ rfl;have tyN:Shared.TypeIs { st with heap:=st.heap.push { cls:=.type "dict",data:=.dict #[] } } (.ref st.heap.objs.size) "dict" := ⟨_,hN,rfl⟩
 have tyO:Shared.TypeIs { st with heap:=st.heap.push { cls:=.type "dict",data:=.dict #[] } } (.ref d) "dict" := ⟨o,e1',c1.1⟩
 refine ⟨tyN,F.args_dict_init_2 _ _,?_⟩;unfold vl5.«dict.__init__»;refine Ah ?_;unfold Builtin.Dict.selfAndRest;refine Ah (RH tyN ?_);show Al _ _ (pure (st.heap.objs.size,[Value.ref d])) _ _ _;refine Aw ?_;show Al _ _ (Builtin.Dict.updateFrom "dict.__init__" st.heap.objs.size (.ref d) [] .none) _ _ _;unfold Builtin.Dict.updateFrom;refine Ah (wpAny_typeOf tyO ?_);rw [if_neg (by decide)];refine Ah ?_;unfold Builtin.Dict.merge;refine Ah ?_;unfold Builtin.Dict.readDirectly;refine Ah (Mg tyO isSubtype_dict_dict ?_);simp only [Bool.not_true,Hj,if_false];refine Ah (OK tyO F.slot_dict_iter.lookup (Aw ?_));simp only [beq_self_eq_true,if_true];refine Ah (Aw ?_);show Al _ _ (Builtin.Dict.mergeDict "dict.__init__" st.heap.objs.size d) _ _ _;unfold Builtin.Dict.mergeDict;rw [if_neg (by simpa using hdo)];unfold Mj;rw [if_neg (by rw [nm];exact Ce)];refine Ah (Aw ?_);refine Ah (HM e1' e2 ?_);have few:(decide (es.size<=8) && es.all λ e=>(keyPart e.key).isSome)=false:=by
  have:(es.all λ e=>(keyPart e.key).isSome)=false:=by
   rw [jp0];intro h;have hm:es[0]'(by omega)∈es.toList:=by simp
   obtain ⟨b,ek,_⟩:=ht _ hm
   have:=(Array.all_eq_true.mp h) 0 (by omega)
   rw [ek] at this;cases this
  rw [this,PU]
 dsimp only;rw [few];simp only [Bool.not_false,if_true];refine Ah (HM hN rfl ?_);simp only [Array.isEmpty_empty,if_true];refine Ah (gQ (x.to λ o e=>kp d o e) (λ e he=>?_) hh ?_)
 ·obtain ⟨b,ek,hT⟩:=ht e he;exact ⟨b,ek,hT _ λ o e=>kp b o e⟩
 ·have nem:(!es.isEmpty)=true:=by
   cases he:es.isEmpty with
   | false=>rfl
   | true=>exact absurd (by rw [Array.isEmpty_iff.mp he];rfl) ne
  rw [if_pos nem];refine Ah (wpAny_updateDictKeysTo hN rfl (Aw ?_) (by omega));show Al _ _ (Builtin.Dict.addKeywords st.heap.objs.size [] >>= _) _ _ _;refine Ah (Aw (Aw ⟨rfl,good _ (λ b ob e=>?_) ⟨_,_,KY _ hN (Obj.isFreed_of_dict (Obj.data_mapDictKeys rfl _)),?_,Obj.data_mapDictKeys rfl _⟩⟩))
  ·have hb:=AH e;rw [OP _ _ (Fe hb)];exact kp b ob e
  ·exact Obj.ExactDict.mapDictKeys ⟨rfl,rfl,rfl⟩ _
theorem Vi {α β:Type}{R S:α->β->Prop}:∀ {xs:List α}{ys:List β},Bj R xs ys->(∀ x y,R x y->S x y)->Bj S xs ys
 | _,_,.nil,_=>.nil
 | _,_,.cons h t,f=>.cons (f _ _ h) (Vi t f)
variable {X:Cx}
theorem bS:zzw X (.type "dict") (λ xs H Q=>∃ a kvs,xs=[.ref a]/\Rd H a (.dT kvs)/\kvs≠[]/\DE (kvs.map (·.1))=true/\∀ l,H l=none->Q (.ref l) (Av H l (.dT kvs))):=by
 intro pins s σ H xs us Q I r h;obtain ⟨a,kvs,rfl,rd,ne,dk,q⟩:=h;obtain ⟨u,rfl,rx⟩:=FU r;cases rx;obtain ⟨hz,nm,ys,pr,o,es,ep,h1,h2,h3,h4,h5⟩:=(show zxk X.prog X.w H s.heap a (.dT kvs) from Rd.ok rd I.hok)
 have ln:kvs.length=ys.length:=QD pr;have hl:es.size=ys.length:=by rw [<- Ls,h4,Ax]
 have kk:ys.map (·.1)=kvs.map (·.1):=by
  clear h4 h5 ln hl hz dk ne q rd h1 h2 h3;induction pr with
  | nil=>rfl
  | cons x _ ih=>rw [AR,AR,ih,x.1]
 unfold DE at dk;rw [AU,jb3,jb3,<- kk] at dk;have hash:∀ y∈ys,(KG (Gw (C7 X.prog X.w)) y).hash=GY y.1:=λ y hy=>yM (dk.1 _ (jc4.mpr ⟨y,hy,rfl⟩));refine zE nm ⟨o,h1,h2,h3⟩ (λ z=>ne (jg8.mp (by omega))) (by omega) (λ e he=>?_) (λ e he=>?_) λ h' kp ⟨o',ep',e1,c1,d1⟩=>?_
 ·rw [h4] at he;obtain ⟨y,hy,rfl⟩:=jc4.mp he;obtain ⟨i,hi,ei⟩:=Ja hy;have hk:kvs[i]?=some (kvs[i]'(by omega)):=Bb _;obtain ⟨y',hy',hp⟩:=QA pr hk;rw [Bb hi,ei] at hy';cases hy';obtain ⟨_,its,_,ot,et,ct⟩:=(show zxk X.prog X.w H s.heap y.2.1 (.tup _) from I.hok _ _ hp.2.1)
  exact ⟨y.2.1,rfl,λ h' k=>⟨ot,k ot et,ct.1⟩⟩
 ·rw [h4] at he;obtain ⟨y,hy,rfl⟩:=jc4.mp he;have d2:=of_decide_eq_true (dk.2 _ (jc4.mpr ⟨y,hy,rfl⟩));rw [<- Ls,Array.toList_filter,h4,Qa,Ax];rw [Qa,Ax] at d2;have ef:ys.filter ((λ e:EB=>e.hash == (KG (Gw (C7 X.prog X.w)) y).hash) ∘ KG (Gw (C7 X.prog X.w)))=ys.filter ((λ k'=>GY k' == GY y.1) ∘ λ x=>x.1):=Qf λ z hz'=>by
   show ((KG (Gw (C7 X.prog X.w)) z).hash == _)=(GY z.1 == GY y.1);rw [hash z hz',hash y hy]
  rw [ef];omega
 ·have fr:H s.heap.objs.size=none:=I.hok.fresh (A5 _);have pr':Bj (λ (p:List A0×V) (q:List A0×Addr×Ae)=>p.1=q.1/\Av H s.heap.objs.size (.dT kvs) q.2.1=some (.tup (p.1.map kV))/\RelV p.2 q.2.2) kvs ys:=by
   have up:∀ b xs,H b=some (.tup xs)->Av H s.heap.objs.size (.dT kvs) b=some (.tup xs):=λ b xs e=>by rw [AG (Kn e fr)];exact e
   exact Vi pr λ p q x=>⟨x.1,up _ _ x.2.1,x.2.2⟩
  refine ⟨.ref s.heap.objs.size,_,I.laid (t':=s.toks) kp (A5 _) (show zxk X.prog X.w (Av H s.heap.objs.size (.dT kvs)) h' s.heap.objs.size (.dT kvs) from ⟨hz,?_,ys,pr',o',es,ep',e1,c1,d1,h4,h5⟩),rfl,q _ fr⟩;have big:=Inv.big I;exact beq_false_of_ne (Fe big)
def jJ {S:Sx} (d:Dn) (x px k q e p):DG S (.Assign [.Subscript (.Name x px) k q] e p):=Bp (S.slot x) λ i hi=>Cj (K2 k) λ hk=>(d S k).bind λ rk=>(d S e).map λ r=>⟨CI i rk.f r.f,λ E X M v xs sm=>by
 refine DT (SO (r.pe v xs) (Xs (xs.var hi) (rk.pe v xs) (PSet.or Ob (ko (by have:=xs.room.units;omega))) ?_) ?_ ?_ rfl) λ _ _ _=>uN sm.al (xs.slot hi).2.1
 ·intro v;cases k <;> first | rfl | cases hk
 ·cases e <;> rfl
 ·cases e <;> rfl⟩
def jd {S:Sx} (d:Dn) (x px k q op e p):DG S (.AugAssign (.Subscript (.Name x px) k q) op e p):=Bp (S.slot x) λ i hi=>Cj (K2 k) λ hk=>(d S k).bind λ rk=>(d S e).bind λ r=>match op with
 | .Add=>some ⟨IP (λ i j=>i + j) i rk.f r.f,λ E X M v xs sm=>by
  refine DT (Yt (xs.var hi) (rk.pe v xs) YL (r.pe v xs) WV Ob ?_) λ D σ H q=>by have:=Yr (vs:=r.vs) (vj:=rk.vs) sm.al (xs.slot hi).2.1 q;rw [xs.k] at this;exact this
  intro _ _ _;cases k <;> first | rfl | cases hk⟩
 | .Sub=>some ⟨IP (λ i j=>i - j) i rk.f r.f,λ E X M v xs sm=>by
  refine DT (Yt (xs.var hi) (rk.pe v xs) YL (r.pe v xs) WW Ob ?_) λ D σ H q=>by have:=Yr (vs:=r.vs) (vj:=rk.vs) sm.al (xs.slot hi).2.1 q;rw [xs.k] at this;exact this
  intro _ _ _;cases k <;> first | rfl | cases hk⟩
 | _=>none
def jD {S:Sx} (d:Dn) (s:Sn) (tg it body p):DG S (.For tg it body [] p):=Cj (EM it) λ hn=>(Ut tg).bind λ t=>(d S it).map λ w=>⟨HE w.f w.vs t.asg (Ef s body).f,λ E X M v xs sm=>by
 obtain ⟨is,g,h1,h2⟩:=t.ok E X M xs sm;have hb:Fj X body (tX M (Ef s body).f):=λ pins s' σ H D I ⟨B,o,q⟩=>(Ef s body).ok E X _ v (xs.at B o) (sm.at B o) pins s' σ H D I q;refine DT (j8 (P6 xs.po xs.calm (Xu (w.pe v xs)) h1 hb (LL hn)) (Yu (P6 xs.po xs.calm (u4 (w.pe v xs)) h1 hb (LL hn)))) λ D σ H q=>?_
 have:=uK (X:=X) sm.al h2 q
 rw [xs.k] at this;exact this⟩
def jE {S:Sx} (d:Dn) (s:Sn) (tg o k p1 at' q q' body p):DG S (.For tg (.Call (.Attribute (.Subscript o k p1) at' q) [] [] q') body [] p):=if h:at' = "values" then Cj (q.endLine == q'.line) λ hl=>(Ut tg).bind λ t=>(d S (.Subscript o k p1)).map λ w=>⟨Lh w.f w.vs t.asg (Ef s body).f,λ E X M v xs sm=>by
 subst h;obtain ⟨is,g,h1,h2⟩:=t.ok E X M xs sm;have hb:Fj X body (tX M (Ef s body).f):=λ pins s' σ H D I ⟨B,o,q⟩=>(Ef s body).ok E X _ v (xs.at B o) (sm.at B o) pins s' σ H D I q;exact DT (Yu (P6 xs.po xs.calm (u5 (uz (w.pe v xs) rfl hl)) h1 hb λ _=>rfl)) λ D σ H=>uL (X:=X) sm.al h2⟩ else none
def MU:List (PV×Nat)->Option (PV×Nat)
 | [(.dcl ks xs,_)]=>if DE ks=true/\ks≠[] then some (.dcl ks xs,1) else none
 | _=>none
theorem uG {ks:List (List A0)}{ws:List V} (h:ks.length=ws.length):(ks.zip ws).map (·.1)=ks:=by
 rw [List.map_fst_zip (by omega)]
theorem kF {X:Cx}:HA X MU λ xs H Q=>∃ a kvs,xs=[.ref a]/\Rd H a (.dT kvs)/\kvs≠[]/\DE (kvs.map (·.1))=true/\∀ l,H l=none->Q (.ref l) (Av H l (.dT kvs)):=by
 intro K xs z c ws H Q zz hk ho zk t lf;unfold MU at ho;split at ho
 ·rename_i ks xs d;split at ho
  ·rename_i hc;cases ho;obtain ⟨w,rfl,o⟩:=DS t;obtain ⟨a,us,rfl,_,en,hr,ol⟩:=o.dcl;have el:=uG (en.trans ol.length.symm);refine ⟨a,_,rfl,hr,λ z=>hc.2 (by rw [<- el,z];rfl),by rw [el];exact hc.1,λ l hl=>?_⟩;exact lf _ _ (E1 hl) (.new hl rfl ⟨rfl,en,BN⟩ ((zk.low ol).move (E1 hl).kp .rf λ b q=>q.elim (λ q=>.inl (zk.to 1 0 b (.inr (by decide)) q)) λ q=>.inr (by rw [q];exact hl)) λ h=>by cases h)
  ·cases ho
 ·cases ho
def jQ:BR:=⟨"dict",MU,by decide +kernel,by decide +kernel,by decide +kernel,λ X _ _=>⟨_,_,.inr ⟨_,rfl⟩,rfl,bS,kF⟩⟩
def Fw (x:PV) (a b:Int) (y:PV):Option PV:=match x with
 | .lst rows=>(match CG rows.length a with
  | some p=>(match rows[p]? with
   | some (.lst cells)=>(match CG cells.length b with
    | some q=>some (.lst (rows.set p (.lst (cells.set q y))))
    | none=>none)
   | _=>none)
  | none=>none)
 | _=>none
def JB (i:Nat) (fi fj f:Fx):Fs:=λ ρ=>match f ρ with
 | .ok (y,e,ρ1)=>(match ρ1[i]? with
  | some (some (x,d))=>(match fi ρ1 with
   | .ok (.int a,_,ρ2)=>(match fj ρ2 with
    | .ok (.int b,_,ρ3)=>(match Fw x a b y with
     | some x'=>if d=om/\MW om x=true/\C5 y=true then .nx (ρ3.set i (some (x',om))) else .no
     | none=>.no)
    | _=>.no)
   | _=>.no)
  | _=>.no)
 | .exc c=>.exc c
 | .no=>.no
theorem fy {x x' y:PV}{a b:Int} (h:Fw x a b y=some x'):∃ rows p cells q,x=.lst rows/\CG rows.length a=some p/\rows[p]?=some (.lst cells)/\CG cells.length b=some q/\x'=.lst (rows.set p (.lst (cells.set q y))):=by
 unfold Fw at h;split at h
 ·rename_i rows;split at h
  ·rename_i p ep;split at h
   ·rename_i cells er;split at h
    ·rename_i q eq;cases h;exact ⟨rows,p,cells,q,rfl,ep,er,eq,rfl⟩
    ·cases h
   ·cases h
  ·cases h
 ·cases h
section
variable {M:Fm}{ρ ρ':Af}{σ σ':St}{H H' H0 H1:Hp}{g g' g1:Os}{vs vs' vi vj is:List Nat}{K:Kx}{Z Z' G G':Addr->Prop}{x y:PV}{d e i j p:Nat}{v w:V}{a:Addr}{f f' fi fj:Fx}{D:Ends}{R:Rs}{xs rows cells:List PV}{ws:List V}
theorem Oe:∀ {xs:List PV}{j:Nat},Cw xs=true->C5 y=true->Cw (xs.set j y)=true
 | [],_,_,_=>rfl
 | x::xs,0,h,hy=>by
  unfold Cw at h;rw [AU] at h;show (C5 y && Cw xs)=true;rw [hy,h.2];rfl
 | x::xs,j + 1,h,hy=>by
  unfold Cw at h;rw [AU] at h;show (C5 x && Cw (xs.set j y))=true;rw [h.1,Oe h.2 hy];rfl
theorem Paired.setE {α β:Type}{F F':α->β->Prop}{y:α}{v:β}:∀ {xs:List α}{us:List β}{p:Nat},Bj F xs us->us[p]?=some v->F' y v->(∀ k x u,k≠p->xs[k]?=some x->us[k]?=some u->F x u->F' x u)->Bj F' (xs.set p y) us
 | _,_,_,.nil,e,_,_=>by simp at e
 | _,_,0,.cons r t,e,n,k=>by
  cases e;exact .cons n (go t λ j x u e1 e2 h=>k (j + 1) x u (by omega) e1 e2 h)
 | _,_,p + 1,.cons r t,e,n,k=>.cons (k 0 _ _ (by omega) rfl rfl r) (Paired.setE t (by simpa using e) n λ j x u hj e1 e2 h=>k (j + 1) x u (by omega) e1 e2 h)
where go:∀ {xs:List α}{us:List β},Bj F xs us->(∀ k x u,xs[k]?=some x->us[k]?=some u->F x u->F' x u)->Bj F' xs us
 | _,_,.nil,_=>.nil
 | _,_,.cons r t,k=>.cons (k 0 _ _ rfl rfl r) (go t λ j x u e1 e2 h=>k (j + 1) x u e1 e2 h)
theorem Rep.setR (r:Rep M ρ σ H g) (hal:∀ i,M.al i=[]) (hg:M.gh≠some i) (es:ρ[i]?=some (some (.lst rows,om))) (hσ:σ[i]?=some (some (.ref a))) (ga:g.ow i a) (ha:H a=some (.lst ws)) (p':Bj (El (M.k g) H (M.z g (M.al i) om) (g.ow i) a true) rows ws) (ds:Ds rows ws) (ht:tf rows=true) (er:rows[p]?=some (.lst cells)):
  ∃ b us,ws[p]?=some (.ref b)/\H b=some (.lst us)/\us.length=cells.length/\∀ q y w,C5 y=true->Is (M.k g) H Z y w->∃ g',Rep M (ρ.set i (some (.lst (rows.set p (.lst (cells.set q y))),om))) σ (Av H b (.lst (us.set q w))) g':=by
 have hi:=(jb0.mp es).1;obtain ⟨u,eu,h⟩:=Ea p' er;have hr:AN (.lst cells)=true:=(Bool.or_eq_true_iff.mp (zya.mp ht _ (Nl er))).resolve_left Ce;obtain ⟨b,ys,us,e1,ac,rfl,nb,gb,hb,il⟩:=h.row hr;cases e1;refine ⟨b,us,eu,hb,il.length,λ q y w hy o=>?_⟩;have kb:∀ c o',c≠b->H c=some o'->Av H b (.lst (us.set q w)) c=some o':=λ c o' n e=>by rw [AG n];exact e
 have kp:∀ {Z:Addr->Prop},Z b->Kp (M.k g) Z H (Av H b (.lst (us.set q w))):=λ z=>P2 Le.refl hb trivial z
 have:=r.write (H':=Av H b (.lst (us.set q w))) (G':=g.ow i) (v:=.ref a) (x:=.lst (rows.set p (.lst (cells.set q y)))) (d:=om) (Z:=λ c=>M.zN g i om c\/g.ow i c) Le.refl (λ c o' ec=>by
  by_cases hc:c=b
  ·rw [hc];exact .inr ⟨gb,by rw [BN];simp⟩
  ·exact .inl (kb c o' hc ec)) hi hg (.inr hal) (λ c h=>.inl h) (.lst (by decide) (kb a _ (Et nb) ha) ga (λ c h=>?_) ?_ λ _=>?_) λ _=>id
 ·rw [O2 hσ] at this;exact ⟨_,this⟩
 ·by_cases hc:c=b
  ·exact ⟨.lst _,trivial,by rw [hc];exact BN⟩
  ·obtain ⟨o',m,e⟩:=r.owned h;exact ⟨o',m,kb c o' hc e⟩
 ·have tw:Bk om (rows.set p (.lst (cells.set q y)))=true:=zwn.mpr ⟨rfl,Xd ht (by
   show (_ || Cw (cells.set q y))=true;rw [Oe ac hy,Na])⟩
  rw [tw];refine Paired.setE p' eu (.inr ⟨rfl,b,_,_,rfl,Oe ac hy,rfl,nb,gb,BN,?_⟩) λ k x u hk e1 e2 h=>?_
  ·exact Paired.set ((o.flat hy).move (kp (Z:=λ c=>(M.zN g i om c\/g.ow i c)\/c=b) (.inr rfl)) .rf λ _ q=>.inl (.inl q)) q (il.move (kp (Z:=M.z g (M.al i) om) (.inl ⟨i,gb,.inl rfl⟩)) .rf λ c q=>.inl (q.elim Fm.zN_z λ q=>.inl ⟨i,q,.inl rfl⟩))
  ·rcases h with ⟨e,h⟩ | ⟨_,c,ys',us',e,ac',e',nc,gc,hc,il'⟩
   ·exact .inl ⟨e,h.move (kp (.inl ⟨i,gb,.inl rfl⟩)) .rf λ c q=>.inl (q.elim Fm.zN_z λ q=>.inl ⟨i,q,.inl rfl⟩)⟩
   ·have hcb:c≠b:=λ z=>hk (ds k p b x _ e1 er (by rw [e];exact ac') hr (by rw [e2,e',z]) eu);exact .inr ⟨rfl,c,ys',us',e,ac',e',nc,gc,kb c _ hcb hc,il'.move (kp (Z:=M.z g (M.al i) om) (.inl ⟨i,gb,.inl rfl⟩)) .rf λ c q=>.inl (q.elim Fm.zN_z λ q=>.inl ⟨i,q,.inl rfl⟩)⟩
 ·have hrn:AN (.lst (cells.set q y))=true:=Oe ac hy;have sp:∀ {k:Nat}{z:PV},(rows.set p (.lst (cells.set q y)))[k]?=some z->AN z=true->∃ z',rows[k]?=some z'/\AN z'=true:=λ {k z} e hz=>by
   by_cases hk:p=k
   ·subst hk;exact ⟨_,er,hr⟩
   ·rw [Ga hk] at e;exact ⟨z,e,hz⟩
  exact λ k l c x z e1 e2 r1 r2 h1 h2=>by
   obtain ⟨x',e1',r1'⟩:=sp e1 r1;obtain ⟨z',e2',r2'⟩:=sp e2 r2;exact ds k l c x' z' e1' e2' r1' r2' h1 h2
theorem uM (hal:∀ i,M.al i=[]) (hg:M.gh≠some i) (hq:tS M (JB i fi fj f) D σ H):EE (tE M f vs) (Kb (J6 (G4 M.K) (Dw i) (tE M fi vi)) (tE M fj vj) Pl) D σ H:=by
 obtain ⟨ρ,g,rep,q⟩:=hq;unfold JB at q;refine BJ rep q (λ _ e=>by rw [e]) (λ e=>by rw [e]) λ y e w H1 ef l r t=>?_;rw [ef] at q;dsimp only at q;split at q
 ·rename_i x d es;split at q
  ·rename_i a0 da ρ2 e1;split at q
   ·rename_i b0 db ρ3 e2;split at q
    ·rename_i x' ex;split at q
     ·rename_i hc;obtain ⟨rfl,ht,hy⟩:=hc;obtain ⟨rows,p,cells,jq,rfl,ep,er,eq,rfl⟩:=fy ex;have ht:tf rows=true:=by simpa [MW,JH] using ht
      have tw:Bk om rows=true:=zwn.mpr ⟨rfl,ht⟩;obtain ⟨a,hσ,_⟩:=r.list hg es (by decide);refine ⟨_,hσ,BJ (R:=.nx (ρ3.set i (some (.lst (rows.set p (.lst (cells.set jq y))),om)))) r q (λ c e=>by rw [e1] at e;cases e) (λ e=>by rw [e1] at e;cases e) λ k dk kv H2 ek l2 r2 t2=>?_⟩;rw [e1] at ek;cases ek;rw [(r.vw t2).sv rfl];obtain ⟨a',hσ',ga,ws,ha,pp,ds⟩:=r2.list hg es (by decide);rw [hσ] at hσ';cases hσ';rw [tw] at pp ds;obtain ⟨b,us,ew,hb,_⟩:=r2.setR (Z:=λ _=>False) hal hg es hσ ga ha pp (ds rfl) ht er;refine ⟨a,ws,a0,.ref b,rfl,rfl,.inl (.inl ha),by unfold BM;rw [<- Paired.length pp,ep];exact ew,?_⟩;refine BJ (R:=.nx (ρ3.set i (some (.lst (rows.set p (.lst (cells.set jq y))),om)))) r2 q (λ c e=>by rw [e2] at e;cases e) (λ e=>by rw [e2] at e;cases e) λ k dk kv H3 ek l3 r3 t3=>?_;rw [e2] at ek;cases ek;rw [(r2.vw t3).sv rfl];obtain ⟨a',hσ',ga,ws',ha',pp',ds'⟩:=r3.list hg es (by decide);rw [hσ] at hσ';cases hσ';rw [tw] at pp' ds';rw [l3 a _ ha] at ha';cases ha';obtain ⟨b',us',ew',hb',hl,fin⟩:=r3.setR hal hg es hσ ga (l3 a _ ha) pp' (ds' rfl) ht er;rw [ew] at ew';cases ew';obtain ⟨g',r'⟩:=fin jq y w hy (((rep.vw t).up l2).up l3);exact ⟨b,us',b0,jq,rfl,rfl,hb',by rw [hl];exact eq,q _ _ g' r'⟩
     ·exact q.elim
    ·exact q.elim
   ·exact q.elim
  ·exact q.elim
 ·exact q.elim
def jI {S:Sx} (d:Dn) (x px k1 q1 k2 q2 e p):DG S (.Assign [.Subscript (.Subscript (.Name x px) k1 q1) k2 q2] e p):=Bp (S.slot x) λ i hi=>Cj (K2 k1 && K2 k2) λ hk=>(d S k1).bind λ r1=>(d S k2).bind λ r2=>(d S e).map λ r=>⟨JB i r1.f r2.f r.f,λ E X M v xs sm=>by
 rw [AU] at hk;refine DT (SO (r.pe v xs) (Xs (W8 qic (xs.var hi) (r1.pe v xs) (VH hk.1)) (r2.pe v xs) Ob ?_) ?_ ?_ rfl) λ D σ H q=>?_
 ·intro v;cases k2 <;> first | rfl | cases hk.2
 ·cases e <;> rfl
 ·cases e <;> rfl
 ·have:=uM (vs:=r.vs) (vi:=r1.vs) (vj:=r2.vs) sm.al (xs.slot hi).2.1 q
  rw [xs.k] at this;exact this⟩
end
def Jd (op:Str->List (PV×Nat)->Option (PV×Nat)) (f:Fx) (fa:Fa):Fx:=λ ρ=>(f ρ).bind λ (x,_,ρ1)=>match x with
 | .str z=>(fa ρ1).bind λ (xs,ρ2)=>match op z xs with
  | some (y,c)=>.ok (y,c,ρ2)
  | none=>.no
 | _=>.no
def S2 (X:Cx) (op:Str->List (PV×Nat)->Option (PV×Nat)) (r:V->List V->Hp->VK->Prop):Prop:=∀ (K:Kx) z xs y c ws H Q zz,K.K=X.K->op z xs=some (y,c)->Zk zz H->Bj (λ p v=>Is K H (zz p.2) p.1 v) xs ws->Leaf K zz H y c Q->r (.str z) ws H Q
theorem ky {M:Fm}{f:Fx}{fa:Fa}{vs vs':List Nat}{σ:St}{H:Hp}{Q:VK}{X:Cx}{op:Str->List (PV×Nat)->Option (PV×Nat)}{r:V->List V->Hp->VK->Prop} (hl:S2 X op r) (hK:M.K=X.K) (hq:tE M (Jd op f fa) (vs++vs') σ H Q):Pd X.K "str" r (tE M f vs) (tL M fa vs') σ H Q:=by
 obtain ⟨ρ,g,rep,q⟩:=hq;refine ER rep q λ x d v H1 l1 r1 t1 q=>?_;dsimp only at q;split at q
 ·rename_i z;rw [(rep.vw t1).sv rfl];refine ⟨rfl,I0 r1 (OutE.from l1 q) λ xs ws H2 G l2 r2 f2 t2 q=>?_⟩;dsimp only at q;split at q
  ·rename_i y c eo;refine hl (M.k g) z xs y c ws H2 Q (M.z g vs') hK eo r2.zk (t2.vw λ d a h ga=>r1.zdom h (f2 a ga)) λ u H' l t=>q rfl u H' ((l1.trans l2).trans l) ((t.weak λ a=>Fm.z_sub λ i=>CL _).back λ a=>(l1.trans l2).back)
  ·exact q.elim
 ·exact q.elim
structure MR where
 x:Str
 op:Str->List (PV×Nat)->Option (PV×Nat)
 ok:∃ id,PySem.Slot "str" x id/\typeOf (.builtin id)=pure (.type "method_descriptor")/\∀ X:Cx,X.calm=true->X.A.units + 64 < Cv->∃ r,UT X id r/\S2 X op r
def MX (bs:List MR) (x:Str):Option { b:MR // b.x=x }:=match bs with
 | []=>none
 | b::r=>if h:b.x=x then some ⟨b,h⟩ else MX r x
def ve:Expr->Bool
 | .Name _ _=>true
 | .Constant _ _ _=>true
 | _=>false
def Uz {S:Sx} (bs:List MR) (d:Dn) (o x pa e q):T S (.Call (.Attribute o x pa) [e] [] q):=(MX bs x).bind λ b=>Cj (ve o && pa.endLine == q.line) λ ho=>(d S o).bind λ ro=>(d S e).map λ re=>⟨Jd b.1.op ro.f (Ad re.f Ab),ro.vs++(re.vs++[]),DU rfl (λ _ _=>rfl) λ E X M v xs=>by
 obtain ⟨b,rfl⟩:=b;rw [AU] at ho;obtain ⟨id,h1,h2,h3⟩:=b.ok;obtain ⟨r,h4,h5⟩:=h3 X xs.calm xs.room.units;refine Cs (Sr (X:=X) (cpos:=q) PySem.F.plainAttrs_str h1 h2 h4 (ro.pe v xs) (Yh (re.pe v xs) WZ (CJ re.ok.1)) ?_ (Tf re.ok.1 X.env q) ho.2 (CJ re.ok.1) rfl) λ _ _ _=>ky h5 xs.k;cases o <;> first | rfl | cases ho.1⟩
def Eh (c:Nat) (l:List Nat):Nat:=l.count c
theorem X2 (c:Nat):∀ l:List Nat,PyProof.Rows.cnt c l=(Eh c l:Nat)
 | []=>rfl
 | n::r=>by
  rw [PyProof.Rows.cnt_cons,X2 c r];unfold Eh;rw [EJ];by_cases h:n=c
  ·subst h;rw [if_pos rfl,if_pos (by simp)];omega
  ·rw [if_neg h,if_neg (by simpa using h)];omega
def JA (z:Str):List (PV×Nat)->Option (PV×Nat)
 | [(.str y,_)]=>(match y.cps.toList with
  | [c]=>some (.int (Eh c z.cps.toList:Nat),om)
  | _=>none)
 | _=>none
def M4:V->List V->Hp->VK->Prop:=λ x xs H Q=>∃ z c,x=.str z/\xs=[.str ⟨#[c]⟩]/\Q (.int (Eh c z.cps.toList:Nat)) H
theorem gL {X:Cx}:UT X "str.count" M4:=by
 intro pins s σ H x xs v us Q I rx rs h;obtain ⟨z,c,rfl,rfl,q⟩:=h;obtain ⟨t,rfl⟩:=rx;cases rs with
 | cons r rr=>
  cases rr;obtain ⟨u,rfl⟩:=r;refine call_gives PySem.F.slot_str_count (typeIs_str s z t) PySem.F.entry_str_count (PySem.F.args_str_count_2 _ _) (gives_str_count z ⟨#[c]⟩ t u) ?_;have e:(((Builtin.Str.occurrences z ⟨#[c]⟩ 0 z.length (z.length + 1)).length:Nat):Int)=(Eh c z.cps.toList:Nat):=by
   rw [<- X2,<- PyProof.Rows.count_cnt];rfl
  rw [e];exact ⟨.int _,H,I.tok _,⟨_,rfl⟩,q⟩
theorem yu {X:Cx}:S2 X JA M4:=by
 intro K z xs y c ws H Q zz hk ho zk t lf;unfold JA at ho;split at ho
 ·rename_i w d;split at ho
  ·rename_i k ec;cases ho;obtain ⟨u,rfl,o⟩:=DS t;refine ⟨z,k,rfl,?_,lf.sv rfl⟩;rw [o.sv rfl];cases w with
   | mk a=>
    have:a=#[k]:=Array.toList_inj.mp ec
    rw [this]
  ·cases ho
 ·cases ho
def y9:MR:=⟨"count",JA,_,PySem.F.slot_str_count,PySem.F.type_str_count,λ X _ _=>⟨_,gL,yu⟩⟩
def mD:List BR:=[zW,zV,zZ,zX,zY,jR,zU,jQ]
def lA:List MR:=[y9]
def Uu {S:Sx} (d:Dn) (a b p):T S (.Subscript a b p):=match b with
 | .Slice lo hi none q=>m8 d a lo hi q p
 | b=>U5 d a b p
def xi {S:Sx} (d:Dn) (x p es q):T S (.Call (.Name x p) es [] q):=(jf d x p es q).orElse λ _=>(UB mD d x p es q).orElse λ _=>match es with
 | [e,.Name t p2]=>U1 d x p e t p2 q
 | _=>none
def U7 {S:Sx} (d:Dn) (x p es q):T S (.Call (.Name x p) es [] q):=match es with
 | [.Call (.Name y p2) [a] [] q2]=>(jF d x p y p2 a q2 q).orElse λ _=>xi d x p _ q
 | es=>xi d x p es q
def wk:In:=λ d _ _ it=>match it with
 | .Call (.Name x p) es [] q=>(Uo d x p es q).orElse λ _=>(Up d x p es q).orElse λ _=>(jm d x p es q).orElse λ _=>(jl d x p es q).orElse λ _=>(jn d x p es q).orElse λ _=>Wu d _
 | it=>Wu d it
def ev:Nat->Dn
 | 0=>λ _ _=>none
 | n + 1=>λ _ e=>match e with
  | .Constant c j p=>jV c j p
  | .Name x p=>jH x p
  | .BinOp a op b p=>UC (ev n) a op b p
  | .UnaryOp .USub a p=>Uy (ev n) a p
  | .UnaryOp .Not a p=>Ux (ev n) a p
  | .BoolOp o es p=>je (ev n) o es p
  | .IfExp t a b p=>mB (ev n) t a b p
  | .Compare a [op] [b] p=>UA (ev n) a op b p
  | .Compare a [op,op'] [b,c] p=>jU (ev n) a op op' b c p
  | .List es p=>U0 (ev n) es p
  | .Tuple es k p=>Us (ev n) es k p
  | .Subscript a b p=>Uu (ev n) a b p
  | .ListComp elt [⟨tg,it,ifs,0⟩] scope p=>jg wk (ev n) elt tg it ifs scope p
  | .Call (.Name x p) es [] q=>U7 (ev n) x p es q
  | .Call (.Attribute o x pa) [e] [] q=>Uz lA (ev n) o x pa e q
  | _=>none
def UE {S:Sx} (d:Dn) (t e p):DG S (.Assign [t] e p):=match t with
 | .Name x px=>(match e with
  | .ListComp elt [⟨tg,it,ifs,0⟩] scope q=>jK wk d x px elt tg it ifs scope q p
  | .Dict [] [] q=>jL x px q p
  | e=>Uv d x px e p)
 | .Tuple es k q=>Ur d es k q e p
 | .Subscript (.Name x px) k q=>jJ d x px k q e p
 | .Subscript (.Subscript (.Name x px) k1 q1) k2 q2=>jI d x px k1 q1 k2 q2 e p
 | _=>none
def U9 {S:Sx} (d:Dn) (f es ks q p):DG S (.Expr (.Call f es ks q) p):=match f,es,ks with
 | .Attribute (.Name x px) at' pa,[e],[]=>(UG d x px at' pa e q p).orElse λ _=>U8 d x px at' pa e q p
 | f,es,ks=>jh d f es ks q p
def zJ (dict:Expr->Bool) (s:Sn):∀ S st,DG S st
 | _,.If c a b p=>U4 (ev 40) s c a b p
 | _,.Return (some e) p=>Uw (ev 40) e p
 | _,.Expr (.Call f es ks q) p=>U9 (ev 40) f es ks q p
 | _,.Assign [t] e p=>UE (ev 40) t e p
 | _,.AugAssign (.Name x px) op e p=>UD (ev 40) x px op e p
 | _,.AugAssign (.Subscript (.Name x px) k q) op e p=>jd (ev 40) x px k q op e p
 | _,.For tg (.Call (.Attribute (.Subscript o k p1) at' q) [] [] q') body [] p=>jE (ev 40) s tg o k p1 at' q q' body p
 | _,.For tg it body [] p=>if dict it=true then jD (ev 40) s tg it body p else U6 wk (ev 40) s tg it body p
 | _,_=>none
def sn (dict:Expr->Bool):Nat->Sn
 | 0=>λ _ st=>xh st
 | n + 1=>λ S st=>(zJ dict (sn dict n) S st).getD (xh st)
def kU (ns:List Str):Expr->Bool
 | .Name x _=>ns.contains x
 | _=>false
end QQ
namespace QV
open PySem PySem.Spec PyProof.Rows L2 QQ
theorem Cr {op:PV->Nat->PV->Nat->Option (PV×Nat)}{f g:Fx}{ρ ρ1 ρ2:Af}{x y z:PV}{d e c:Nat} (h1:f ρ=.ok (x,d,ρ1)) (h2:g ρ1=.ok (y,e,ρ2)) (h3:op x d y e=some (z,c)):Ac op f g ρ=.ok (z,c,ρ2):=by
 unfold Ac;rw [h1];dsimp only [Rz.bind];rw [h2];dsimp only;rw [h3]
theorem Su {op:PV->Nat->Option (PV×Nat)}{f:Fx}{ρ ρ1:Af}{x z:PV}{d c:Nat} (h1:f ρ=.ok (x,d,ρ1)) (h3:op x d=some (z,c)):AL op f ρ=.ok (z,c,ρ1):=by
 unfold AL;rw [h1];dsimp only [Rz.bind];rw [h3]
theorem Cu {f:Fx}{fa:Fa}{ρ ρ1 ρ2:Af}{x:PV}{d:Nat}{xs:List (PV×Nat)} (h1:f ρ=.ok (x,d,ρ1)) (h2:fa ρ1=.ok (xs,ρ2)):Ad f fa ρ=.ok ((x,d)::xs,ρ2):=by
 unfold Ad;rw [h1];dsimp only [Rz.bind];rw [h2]
theorem BE {f:Fx}{ρ ρ1:Af}{x:PV}{d:Nat} (h1:f ρ=.ok (x,d,ρ1)):Ad f Ab ρ=.ok ([(x,d)],ρ1):=Cu h1 rfl
theorem CO {op:List (PV×Nat)->Option (PV×Nat)}{fa:Fa}{ρ ρ1:Af}{xs:List (PV×Nat)}{z:PV}{c:Nat} (h1:fa ρ=.ok (xs,ρ1)) (h2:op xs=some (z,c)):Aq op fa ρ=.ok (z,c,ρ1):=by
 unfold Aq;rw [h1];dsimp only [Rz.bind];rw [h2]
theorem AJ {F:Fn}{fa:Fa}{ρ ρ1:Af}{xs:List (PV×Nat)}{y z:PV}{d:Nat} (h1:fa ρ=.ok (xs,ρ1)) (h2:F (xs.map (·.1))=.ok (y,d,z)):Ak F fa ρ=.ok (y,d,ρ1):=by
 unfold Ak;rw [h1];dsimp only [Rz.bind];rw [h2]
theorem Ci {f:Fx}{ρ ρ1:Af}{x:PV}{d:Nat} (h:f ρ=.ok (x,d,ρ1)):As f ρ=.rt x d ρ1:=by
 unfold As;rw [h]
theorem DH {f:Fx}{ρ ρ1:Af}{x:PV}{d:Nat} (h:f ρ=.ok (x,d,ρ1)):Bv f ρ=.nx ρ1:=by
 unfold Bv;rw [h]
theorem setF {i:Nat}{f:Fx}{vs:List Nat}{ρ ρ1 ρ2:Af}{x:PV}{d:Nat} (h:f ρ=.ok (x,d,ρ1)) (hc:i < ρ1.length) (e:(Bf d vs ρ1).set i (some (x,d))=ρ2):Aj false i f vs ρ=.nx ρ2:=by
 unfold Aj;rw [h];dsimp only;rw [if_pos ⟨hc,λ h=>nomatch h⟩,e]
theorem yc {asg:PV->Af->Option Af}{f:Fx}{vs:List Nat}{ρ ρ1 ρ2:Af}{x:PV}{d:Nat} (h:f ρ=.ok (x,d,ρ1)) (e:asg x (Bf d vs ρ1)=some ρ2):BB asg f vs ρ=.nx ρ2:=by
 unfold BB;rw [h];dsimp only;rw [e]
theorem GK {i:Nat}{f:Fx}{vs:List Nat}{ρ ρ1 ρ2:Af}{y:PV}{e:Nat}{xs:List PV}{d0 d:Nat}{xs0:List PV} (h0:ρ[i]?=some (some (.lst xs0,d0 + 1))) (h:f ρ=.ok (y,e,ρ1)) (h1:(Bf e vs ρ1)[i]?=some (some (.lst xs,d))) (hd:d≠0) (hl:xs.length < Au)
  (e2:(Bf e vs ρ1).set i (some (.lst (xs++[y]),if d=om/\e=om then om else 1))=ρ2):AW i f vs ρ=.nx ρ2:=by
 unfold AW;rw [h0];dsimp only;rw [h];dsimp only;rw [h1];dsimp only;rw [if_pos ⟨hd,hl⟩,e2]
theorem A3 {f g:Fs}{ρ ρ1:Af} (h:f ρ=.nx ρ1):Ag f g ρ=g ρ1:=by
 unfold Ag;rw [h]
theorem W5 {c:Fb}{f g:Fs}{ρ ρ1:Af}{b:Bool} (hc:c ρ=.ok (b,ρ1)):AV c f g ρ=if b=true then f ρ1 else g ρ1:=by
 unfold AV;rw [hc]
theorem CH {c:Fb}{f g:Fs}{ρ ρ1:Af} (hc:c ρ=.ok (true,ρ1)):AV c f g ρ=f ρ1:=by rw [W5 hc];rfl
theorem CW {c:Fb}{f g:Fs}{ρ ρ1:Af} (hc:c ρ=.ok (false,ρ1)):AV c f g ρ=g ρ1:=by rw [W5 hc];rfl
theorem Eo {c:Fb}{f g:Fs}{ρ ρ1:Af} (hc:c ρ=.ok (false,ρ1)):Ag (AV c f A4) g ρ=g ρ1:=A3 (by rw [CW hc];rfl)
theorem Jp {f g:Fs}{ρ ρ1:Af}{x:PV}{d:Nat} (h:f ρ=.rt x d ρ1):Ag f g ρ=.rt x d ρ1:=by
 unfold Ag;rw [h]
theorem AK {f:Fx}{ρ ρ1:Af}{b:Bool}{d:Nat} (h:f ρ=.ok (.bl b,d,ρ1)):bT f ρ=.ok (b,ρ1):=by
 unfold bT;rw [h];rfl
theorem Gr {f:Fx}{ρ ρ1:Af}{b:Bool}{d:Nat} (h:f ρ=.ok (.bl b,d,ρ1)):AL BU f ρ=.ok (.bl (!b),om,ρ1):=Su h rfl
theorem MD {f g:Fx}{ρ ρ1:Af}{a b:Bool}{d:Nat} (h:f ρ=.ok (.bl a,d,ρ1)) (h2:a=true->g ρ1=.ok (.bl b,om,ρ1)) (hd:d=om):Fp f g ρ=.ok (.bl (a && b),om,ρ1):=by
 subst hd;unfold Fp;rw [h];cases a with
 | false=>rfl
 | true=>exact h2 rfl
theorem Sj {f g:Fx}{ρ ρ1:Af}{a b:Bool}{d:Nat} (h:f ρ=.ok (.bl a,d,ρ1)) (h2:a=false->g ρ1=.ok (.bl b,om,ρ1)) (hd:d=om):AZ f g ρ=.ok (.bl (a || b),om,ρ1):=by
 subst hd;unfold AZ;rw [h];cases a with
 | true=>rfl
 | false=>exact h2 rfl
theorem FQ {f g:Fx}{ρ ρ1 ρ2:Af}{i j:Int}{d e:Nat} (h1:f ρ=.ok (.int i,d,ρ1)) (h2:g ρ1=.ok (.int j,e,ρ2)) (h:(-(2 ^ 64) < i/\i < 2 ^ 64)\/(-(2 ^ 64) < j/\j < 2 ^ 64)):Ac BZ f g ρ=.ok (.int (i * j),om,ρ2):=by
 refine Cr h1 h2 ?_;show (if G5 i j=true then _ else _)=_;rw [if_pos];unfold G5;rcases h with h | h
 ·rw [decide_eq_true h.1,decide_eq_true h.2];rfl
 ·rw [decide_eq_true h.1,decide_eq_true h.2];simp
theorem IB {f g:Fx}{ρ ρ1 ρ2:Af}{i j:Int}{d e:Nat} (h1:f ρ=.ok (.int i,d,ρ1)) (h2:g ρ1=.ok (.int j,e,ρ2)) (h:0 < j):Ac Fl f g ρ=.ok (.int (i % j),om,ρ2):=by
 refine Cr h1 h2 ?_;show (if JE i j=true then _ else _)=_;rw [if_pos];exact decide_eq_true h
theorem Pz {f g:Fx}{ρ ρ1 ρ2:Af}{i j:Int}{d e:Nat} (h1:f ρ=.ok (.int i,d,ρ1)) (h2:g ρ1=.ok (.int j,e,ρ2)) (h:0 < j) (h':j < 2 ^ 128):Ac KC f g ρ=.ok (.int (i / j),om,ρ2):=by
 refine Cr h1 h2 ?_;show (if G6 i j=true then _ else _)=_;rw [if_pos];have h3:j.natAbs < 2 ^ 128:=by omega
 have h4:j.natAbs≠0:=by omega
 have h5:j.natAbs.log2 < 9000:=by have:=(Nat.log2_lt h4).mpr h3;omega
 unfold G6;rw [decide_eq_true h,decide_eq_true h5];rfl
theorem Ez {f g:Fx}{ρ ρ1 ρ2:Af}{i j:Int}{d e:Nat} (h1:f ρ=.ok (.int i,d,ρ1)) (h2:g ρ1=.ok (.int j,e,ρ2)):Ac B0 f g ρ=.ok (.int (i + j),om,ρ2):=Cr h1 h2 rfl
theorem Hq {f g:Fx}{ρ ρ1 ρ2:Af}{i j:Int}{d e:Nat} (h1:f ρ=.ok (.int i,d,ρ1)) (h2:g ρ1=.ok (.int j,e,ρ2)):Ac Dl f g ρ=.ok (.int (i - j),om,ρ2):=Cr h1 h2 rfl
theorem Js {p:Int->Int->Bool}{f g:Fx}{ρ ρ1 ρ2:Af}{i j:Int}{d e:Nat} (h1:f ρ=.ok (.int i,d,ρ1)) (h2:g ρ1=.ok (.int j,e,ρ2)):Ac (Dm p) f g ρ=.ok (.bl (p i j),om,ρ2):=Cr h1 h2 rfl
theorem QJ {p q:Int->Int->Bool}{f g h:Fx}{ρ:Af}{i j k:Int}{d e c:Nat} (h1:f ρ=.ok (.int i,d,ρ)) (h2:g ρ=.ok (.int j,e,ρ)) (h3:h ρ=.ok (.int k,c,ρ)):Hv p q f g h ρ=.ok (.bl (p i j && q j k),om,ρ):=by
 unfold Hv;rw [h1];dsimp only [Rz.bind];rw [h2];dsimp only;by_cases hp:p i j=true
 ·rw [if_pos hp,h3,hp];rfl
 ·rw [if_neg hp]
  have:p i j=false:=by simpa using hp
  rw [this];rfl
theorem m7 {neg:Bool}{i j:Int}{d e:Nat}:A1 neg (.int i) d (.int j) e=some (.bl (neg^^decide (i=j)),om):=by
 show some (PV.bl (neg^^HJ (.int i) (.int j)),om)=_
 have:HJ (.int i) (.int j)=decide (i=j):=by
  show (i == j)=_;rfl
 rw [this]
theorem Gp {neg:Bool}{f g:Fx}{ρ ρ1 ρ2:Af}{i j:Int}{d e:Nat} (h1:f ρ=.ok (.int i,d,ρ1)) (h2:g ρ1=.ok (.int j,e,ρ2)):Ac (A1 neg) f g ρ=.ok (.bl (neg^^decide (i=j)),om,ρ2):=Cr h1 h2 m7
def il (xs:List Int):PV:=.lst (xs.map .int)
def tb (t:List (List Int)):PV:=.lst (t.map il)
abbrev bx (a b c:Int):PV:=.tup [.int a,.int b,.int c]
theorem E4 {α:Type}{xs:List α}{k:Int}{x:α} (h0:0<=k) (h:xs[k.toNat]?=some x):BM xs k=some x:=by
 have hl:=(jb0.mp h).1;unfold BM CG;rw [if_pos h0,if_pos (by omega)];exact h
theorem IA {f g:Fx}{ρ ρ1 ρ2:Af}{xs:List Int}{k x:Int}{d e:Nat} (h1:f ρ=.ok (il xs,d,ρ1)) (h2:g ρ1=.ok (.int k,e,ρ2)) (h:BM xs k=some x):Ac AQ f g ρ=.ok (.int x,om,ρ2):=by
 refine Cr h1 h2 ?_;show (BM (xs.map PV.int) k).map _=_
 have:BM (xs.map PV.int) k=some (.int x):=by
  unfold BM at h ⊢;rw [Ax];cases e:CG xs.length k with
  | none=>rw [e] at h;cases h
  | some j=>
   rw [e] at h;have h':xs[j]?=some x:=h;show (xs.map PV.int)[j]?=_;rw [BO,h'];rfl
 rw [this];rfl
theorem SA {f g:Fx}{ρ ρ1 ρ2:Af}{t:List (List Int)}{k:Int}{r:List Int}{d e:Nat} (h1:f ρ=.ok (tb t,d,ρ1)) (h2:g ρ1=.ok (.int k,e,ρ2)) (h:BM t k=some r):Ac AQ f g ρ=.ok (il r,0,ρ2):=by
 refine Cr h1 h2 ?_;show (BM (t.map il) k).map _=_
 have:BM (t.map il) k=some (il r):=by
  unfold BM at h ⊢;rw [Ax];cases e:CG t.length k with
  | none=>rw [e] at h;cases h
  | some j=>
   rw [e] at h;have h':t[j]?=some r:=h;show (t.map il)[j]?=_;rw [BO,h'];rfl
 rw [this];rfl
theorem MT {fa:Fa}{ρ ρ1:Af}{xs:List Int}{d:Nat} (h:fa ρ=.ok ([(il xs,d)],ρ1)):Aq FI fa ρ=.ok (.int xs.length,om,ρ1):=by
 refine CO h ?_;show some (PV.int ((xs.map PV.int).length:Nat),om)=_;rw [Ax]
theorem kH {fa:Fa}{ρ ρ1:Af}{t:List (List Int)}{d:Nat} (h:fa ρ=.ok ([(tb t,d)],ρ1)):Aq FI fa ρ=.ok (.int t.length,om,ρ1):=by
 refine CO h ?_;show some (PV.int ((t.map il).length:Nat),om)=_;rw [Ax]
theorem Io {α:Type}{n:Nat}{test:Fb}{elt:Fx}{enc q:α->PV}{e:α->Nat}{p:α->Bool}:∀ (xs:List α) (ρ:Af) (acc:List (PV×Nat)),ρ.length=n->(∀ x∈xs,test (ρ++[some (enc x,dv (enc x))])=.ok (p x,ρ++[some (enc x,dv (enc x))])) ->
  (∀ x∈xs,p x=true->elt (ρ++[some (enc x,dv (enc x))])=.ok (q x,e x,ρ++[some (enc x,dv (enc x))]))->acc.length + xs.length<=Au->DK 1 (asgN n) test elt (xs.map enc) ρ acc=.ok (acc++(xs.filter p).map (λ x=>(q x,e x)),ρ)
 | [],ρ,acc,_,_,_,_=>by simp [DK]
 | x::xs,ρ,acc,hn,ht,he,hl=>by
  have ea:asgN n (enc x) (ρ++A6 1 none)=some (ρ++[some (enc x,dv (enc x))]):=by
   unfold asgN;rw [if_pos (by rw [Bm,hn];simp),List.set_append_right _ _ (by omega),hn];simp
  have ih:=λ acc h=>Io (n:=n) (test:=test) (elt:=elt) (p:=p) (q:=q) (e:=e) (enc:=enc) xs ρ acc hn (λ y hy=>ht y (AE _ hy)) (λ y hy=>he y (AE _ hy)) h;have tk:(ρ++[some (enc x,dv (enc x))]).take ρ.length=ρ:=by simp
  rw [AY] at hl;rw [AR];unfold DK;rw [ea];dsimp only;rw [ht x AD];dsimp only [Rz.bindN];cases hp:p x with
  | false=>
   rw [if_neg Ce,tk,ih acc (by omega),Uk (by simp [hp])]
  | true=>
   rw [if_pos rfl,he x AD hp];dsimp only;rw [if_pos (by omega),tk,ih _ (by rw [Bm,GC];omega),Uj hp];simp
theorem Jg {α:Type} (q:α->PV):∀ xs:List α,CP (xs.map λ x=>(q x,om))=true
 | []=>rfl
 | x::xs=>by rw [AR];unfold CP;rw [Jg q xs];rfl
theorem FJ {α:Type}{n:Nat}{f elt:Fx}{enc q:α->PV}{ρ ρ1:Af}{d:Nat} (xs:List α) (hf:f ρ=.ok (.lst (xs.map enc),d,ρ1)) (hn:ρ1.length=n) (he:∀ x∈xs,elt (ρ1++[some (enc x,dv (enc x))])=.ok (q x,om,ρ1++[some (enc x,dv (enc x))])) (hl:xs.length<=Au):
  BF f 1 (asgN n) AO elt ρ=.ok (.lst (xs.map q),om,ρ1):=by
 unfold BF Ej C0;rw [hf];dsimp only [Rz.bind];rw [Io (p:=λ _=>true) (q:=q) (e:=λ _=>om) xs ρ1 [] hn (λ _ _=>rfl) (λ x hx _=>he x hx) (by simpa using hl),jg2.mpr (λ _ _=>rfl)];show DN (xs.map λ x=>(q x,om)) ρ1=_;unfold DN;rw [Jg,BC];rfl
theorem uZ {α:Type}{n:Nat}{f elt:Fx}{enc q:α->PV}{ρ ρ1:Af}{d:Nat} (xs:List α) (hf:f ρ=.ok (.tup (xs.map enc),d,ρ1)) (hn:ρ1.length=n) (he:∀ x∈xs,elt (ρ1++[some (enc x,dv (enc x))])=.ok (q x,om,ρ1++[some (enc x,dv (enc x))])) (hl:xs.length<=Au):
  BF f 1 (asgN n) AO elt ρ=.ok (.lst (xs.map q),om,ρ1):=by
 unfold BF Ej C0;rw [hf];dsimp only [Rz.bind];rw [Io (p:=λ _=>true) (q:=q) (e:=λ _=>om) xs ρ1 [] hn (λ _ _=>rfl) (λ x hx _=>he x hx) (by simpa using hl),jg2.mpr (λ _ _=>rfl)];show DN (xs.map λ x=>(q x,om)) ρ1=_;unfold DN;rw [Jg,BC];rfl
theorem YC {α:Type}{n:Nat}{f elt:Fx}{test:Fb}{enc q:α->PV}{p:α->Bool}{ρ ρ1:Af}{d:Nat} (xs:List α) (hf:f ρ=.ok (.lst (xs.map enc),d,ρ1)) (hn:ρ1.length=n) (ht:∀ x∈xs,test (ρ1++[some (enc x,dv (enc x))])=.ok (p x,ρ1++[some (enc x,dv (enc x))])) (he:∀ x∈xs,p x=true->elt (ρ1++[some (enc x,dv (enc x))])=.ok (q x,om,ρ1++[some (enc x,dv (enc x))])) (hl:xs.length<=Au):
  BF f 1 (asgN n) test elt ρ=.ok (.lst ((xs.filter p).map q),om,ρ1):=by
 unfold BF Ej C0;rw [hf];dsimp only [Rz.bind];rw [Io (p:=p) (q:=q) (e:=λ _=>om) xs ρ1 [] hn ht he (by simpa using hl)];show DN ((xs.filter p).map λ x=>(q x,om)) ρ1=_;unfold DN;rw [Jg,BC];rfl
theorem NI (lo:Int) (n:Nat):KA lo n=(An n).map λ (k:Nat)=>PV.int (lo + (k:Int)):=rfl
theorem Hm {n:Nat}{en:List (PV×Nat)->Option (Int×Int)}{fa:Fa}{elt:Fx}{q:Nat->PV}{ρ ρ1:Af}{as:List (PV×Nat)}{lo hi:Int} (hf:fa ρ=.ok (as,ρ1)) (hen:en as=some (lo,hi)) (hn:ρ1.length=n) (he:∀ k,k < (hi - lo).toNat->elt (ρ1++[some (.int (lo + (k:Int)),om)])=.ok (q k,om,ρ1++[some (.int (lo + (k:Int)),om)])) (hl:(hi - lo).toNat<=Au):
  CN en fa 1 (asgN n) AO elt ρ=.ok (.lst ((An (hi - lo).toNat).map q),om,ρ1):=by
 unfold CN Ej CT;rw [hf];dsimp only [Rz.bind];rw [hen];dsimp only;rw [NI,Io (enc:=λ (k:Nat)=>PV.int (lo + (k:Int))) (p:=λ _=>true) (q:=q) (e:=λ _=>om) (An (hi - lo).toNat) ρ1 [] hn (λ _ _=>rfl) (λ x hx _=>he x (jc2.mp hx)) (by simpa using hl),jg2.mpr (λ _ _=>rfl)];show DN ((An (hi - lo).toNat).map λ x=>(q x,om)) ρ1=_;unfold DN;rw [Jg,BC];rfl
theorem uT {α:Type} (g:α->Bool) (xs:List α):QQ.allB (xs.map λ x=>.bl (g x))=some (xs.map g):=by
 induction xs with
 | nil=>rfl
 | cons x r ih=>rw [AR,AR,QQ.allB,ih];rfl
theorem FP {α:Type}{f:Fx}{ρ ρ1:Af}{d:Nat}{g:α->Bool}{xs:List α} (h:f ρ=.ok (.lst (xs.map λ x=>.bl (g x)),d,ρ1)):Aq Ep (Ad f Ab) ρ=.ok (.bl (xs.all g),om,ρ1):=by
 refine CO (BE h) ?_;show (QQ.allB _).map _=_;rw [uT];simp
theorem Zo {i:Nat}{body:Fs}{lo:Int} (I:Nat->Af->Prop):∀ (m k:Nat) (ρ:Af),I k ρ->(∀ j ρ,k<=j->j < k + m->I j ρ->i < ρ.length/\∃ ρ2,body (ρ.set i (some (.int (lo + (j:Int)),om)))=.nx ρ2/\I (j + 1) ρ2) ->
  ∃ ρ',Bu (asgN i) body ((JK k m).map λ (k:Nat)=>PV.int (lo + (k:Int))) ρ=.nx ρ'/\I (k + m) ρ'
 | 0,k,ρ,hi,_=>⟨ρ,rfl,hi⟩
 | m + 1,k,ρ,hi,hb=>by
  obtain ⟨h1,ρ2,e2,h2⟩:=hb k ρ (A5 _) (by omega) hi;obtain ⟨ρ',e',h'⟩:=Zo (i:=i) (body:=body) (lo:=lo) I m (k + 1) ρ2 h2 λ j ρ a b=>hb j ρ (by omega) (by omega);refine ⟨ρ',?_,by rw [show k + (m + 1)=k + 1 + m by omega];exact h'⟩;rw [qv,AR];unfold Bu
  have:asgN i (PV.int (lo + (k:Int))) ρ=some (ρ.set i (some (.int (lo + (k:Int)),om))):=by
   unfold asgN;rw [if_pos h1];rfl
  rw [this];dsimp only;rw [e2];exact e'
theorem Kv {i:Nat}{body:Fs}{en:List (PV×Nat)->Option (Int×Int)}{fa:Fa}{ρ ρ1:Af}{as:List (PV×Nat)}{lo hi:Int} (I:Nat->Af->Prop) (hf:fa ρ=.ok (as,ρ1)) (hen:en as=some (lo,hi)) (h0:I 0 ρ1)
  (hb:∀ j ρ,j < (hi - lo).toNat->I j ρ->i < ρ.length/\∃ ρ2,body (ρ.set i (some (.int (lo + (j:Int)),om)))=.nx ρ2/\I (j + 1) ρ2):∃ ρ',Fq en fa (asgN i) body ρ=.nx ρ'/\I (hi - lo).toNat ρ':=by
 obtain ⟨ρ',e,h⟩:=Zo (i:=i) (body:=body) (lo:=lo) I (hi - lo).toNat 0 ρ1 h0 λ j ρ _ h hi=>hb j ρ (by omega) hi;refine ⟨ρ',?_,by rw [He] at h;exact h⟩;unfold Fq E3 CT;rw [hf];dsimp only [Rz.bind];rw [hen];dsimp only;rw [dm];rw [NI,List.range_eq_range'];exact e
theorem Em {j:Int}{d:Nat} (h1:-(2 ^ 62)<=j) (h2:j < 2 ^ 62):Bn [(.int j,d)]=some (0,j):=by
 show (if -(2 ^ 62)<=j/\j < 2 ^ 62 then some ((0:Int),j) else none)=_;rw [if_pos ⟨h1,h2⟩]
theorem gW {i j:Int}{d e:Nat} (h1:-(2 ^ 62)<=i) (h2:i < 2 ^ 62) (h3:-(2 ^ 62)<=j) (h4:j < 2 ^ 62):Lb [(.int i,d),(.int j,e)]=some (i,j):=by
 show (if -(2 ^ 62)<=i/\i < 2 ^ 62/\-(2 ^ 62)<=j/\j < 2 ^ 62 then some (i,j) else none)=_;rw [if_pos ⟨h1,h2,h3,h4⟩]
theorem Bg {np k:Nat}{b:Fs}{xs:List PV}{ρ':Af}{y:PV}{d:Nat} (hl:xs.length=np) (h:b (xs.map (λ x=>some (x,dv x))++A6 k none)=.rt y d ρ'):Ap false np k b xs=.ok (y,d,.non):=by
 unfold Ap;rw [if_pos hl,h]
theorem Pk {np k:Nat}{b:Fs}{xs:List PV}{ρ':Af} (hl:xs.length=np) (h:b (xs.map (λ x=>some (x,dv x))++A6 k none)=.nx ρ'):Ap false np k b xs=.ok (.non,om,.non):=by
 unfold Ap;rw [if_pos hl,h]
theorem yW {i:Nat}{fi fj f:Fx}{ρ ρ1 ρ2 ρ3 ρ4:Af}{y x x':PV}{a b:Int}{d0 d1 d2:Nat} (h:f ρ=.ok (y,d0,ρ1)) (hx:ρ1[i]?=some (some (x,om))) (h1:fi ρ1=.ok (.int a,d1,ρ2)) (h2:fj ρ2=.ok (.int b,d2,ρ3)) (hp:Fw x a b y=some x') (hy:C5 y=true) (e:ρ3.set i (some (x',om))=ρ4) (ht:MW om x=true):JB i fi fj f ρ=.nx ρ4:=by
 unfold JB;rw [h];dsimp only;rw [hx];dsimp only;rw [h1];dsimp only;rw [h2];dsimp only;rw [hp];dsimp only;rw [if_pos ⟨rfl,ht,hy⟩,e]
theorem XF:∀ r:List Int,Cw (r.map PV.int)=true
 | []=>rfl
 | _::r=>XF r
theorem kK (t:List (List Int)):MW om (tb t)=true:=by
 show (om != om || tf (t.map il))=true;rw [zya.mpr λ x hx=>?_,Na];obtain ⟨r,_,rfl⟩:=jc4.mp hx;show (C5 (il r) || Cw (r.map PV.int))=true;rw [XF,Na]
theorem jx {op:Str->List (PV×Nat)->Option (PV×Nat)}{f:Fx}{fa:Fa}{ρ ρ1 ρ2:Af}{z:Str}{y:PV}{d c:Nat}{xs:List (PV×Nat)} (h1:f ρ=.ok (.str z,d,ρ1)) (h2:fa ρ1=.ok (xs,ρ2)) (h3:op z xs=some (y,c)):Jd op f fa ρ=.ok (y,c,ρ2):=by
 unfold Jd;rw [h1];dsimp only [Rz.bind];rw [h2];dsimp only;rw [h3]
def Xf_is_whole_number:Fs:=(As (Fp (AL (E7 "int") (Aa 0)) (AL BU (AL (E7 "bool") (Aa 0)))))
def f_is_whole_number:Fn:=Ap false 1 0 Xf_is_whole_number
abbrev _root_.pb3:=Aq FI (Ad (Aa 0) (Ab))
abbrev _root_.pe3:=Fp (Ak f_is_whole_number (Ad (Aa 1) (Ab))) (Ac (Dm λ i j=>decide (j<=i)) (Aa 1) (bC (.int 1)))
def Xf_is_box:Fs:=(Ag (AV (bT (AZ (AL BU (AL (E7 "tuple") (Aa 0))) (Ac (A1 true) pb3 (bC (.int 3))))) (As (bC (.bl false))) A4)
 (As (Aq Ep (Ad (BF (Aa 0) 1 (asgN 1) AO pe3) (Ab)))))
def f_is_box:Fn:=Ap false 1 0 Xf_is_box
def Xf_must_be_box:Fs:=(AV (bT (AL BU (Ak f_is_box (Ad (Aa 0) (Ab))))) Fv A4)
def f_must_be_box:Fn:=Ap false 1 0 Xf_must_be_box
abbrev _root_.pd2:=Fp (Ak f_is_whole_number (Ad (Aa 3) (Ab))) (Hv (λ i j=>decide (i<=j)) (λ i j=>decide (i<=j)) (bC (.int 0)) (Aa 3) (Aa 2))
def Xf_is_row_of_heights:Fs:=(Ag (AV (bT (AZ (AL BU (AL (E7 "list") (Aa 0))) (Ac (A1 true) pb3 (Aa 1)))) (As (bC (.bl false))) A4)
 (As (Aq Ep (Ad (BF (Aa 0) 1 (asgN 3) AO pd2) (Ab)))))
def f_is_row_of_heights:Fn:=Ap false 3 0 Xf_is_row_of_heights
abbrev _root_.pg5:=Ac Dl (Aa 1) (bC (.int 1))
abbrev _root_.pe0:=Ac (Dm λ i j=>decide (i<=j)) (Ac AQ (Aa 0) (Aa 1)) (Ac AQ (Aa 0) pg5)
def Xf_never_rises:Fs:=(As (Aq Ep (Ad (CN Lb (Ad (bC (.int 1)) (Ad pb3 (Ab))) 1 (asgN 1) AO pe0) (Ab))))
def f_never_rises:Fn:=Ap false 1 0 Xf_never_rises
def Xf_column_of:Fs:=(As (BF (Aa 0) 1 (asgN 2) AO (Ac AQ (Aa 2) (Aa 1))))
def f_column_of:Fn:=Ap false 2 0 Xf_column_of
abbrev _root_.pa8:=Ak f_must_be_box (Ad (Aa 0) (Ab))
abbrev _root_.pc9:=BB (asgT [2,3,4]) (Aa 0) [0]
abbrev _root_.pf3:=Ak f_never_rises (Ad (Ak f_column_of (Ad (Aa 1) (Ad (Aa 5) (Ab)))) (Ab))
abbrev _root_.pf0:=Ad (Aa 5) (Ad (Aa 3) (Ad (Aa 4) (Ab)))
abbrev _root_.pd1:=Aq FI (Ad (Aa 1) (Ab))
abbrev _root_.pf6:=AL BU (AL (E7 "list") (Aa 1))
abbrev _root_.ph9:=Ak f_never_rises (Ad (Aa 5) (Ab))
def Xf_is_pile:Fs:=(Ag (Bv pa8)
 (Ag pc9
 (Ag (AV (bT (AZ pf6 (Ac (A1 true) pd1 (Aa 2)))) (As (bC (.bl false))) A4)
 (Ag (AV (bT (AL BU (Aq Ep (Ad (BF (Aa 1) 1 (asgN 5) AO (Ak f_is_row_of_heights pf0)) (Ab))))) (As (bC (.bl false))) A4)
 (Ag (AV (bT (AL BU (Aq Ep (Ad (BF (Aa 1) 1 (asgN 5) AO ph9) (Ab))))) (As (bC (.bl false))) A4)
 (As (Aq Ep (Ad (CN Bn (Ad (Aa 3) (Ab)) 1 (asgN 5) AO pf3) (Ab)))))))))
def f_is_pile:Fn:=Ap false 2 3 Xf_is_pile
abbrev _root_.pa0:=Ad (Aa 0) (Ad (Aa 1) (Ab))
def Xf_must_be_pile:Fs:=(AV (bT (AL BU (Ak f_is_pile pa0))) Fv A4)
def f_must_be_pile:Fn:=Ap false 2 0 Xf_must_be_pile
abbrev _root_.ph3:=Ac (Dm λ i j=>decide (j < i)) (Aa 2) (Aa 1)
def Xf_how_many_above:Fs:=(As (Aq FI (Ad (BF (Aa 0) 1 (asgN 2) (bT ph3) (Aa 2)) (Ab))))
def f_how_many_above:Fn:=Ap false 2 0 Xf_how_many_above
abbrev _root_.pf7:=Ad (Aa 4) (Ad (Aa 3) (Ab))
abbrev _root_.pc3:=Ak f_how_many_above pf7
abbrev _root_.pb4:=Ac AQ (Aa 0) (bC (.int 2))
abbrev _root_.pf1:=Aj false 2 (Aq Bw (Ab)) []
def Xf_stairs_of:Fs:=(Ag (Bv (Ak f_must_be_pile pa0))
 (Ag pf1
 (Ag (Fq Bn (Ad pb4 (Ab)) (asgN 3) (AW 2 (BF (Aa 1) 1 (asgN 4) AO pc3) [1,1,3]))
 (C6 2))))
def f_stairs_of:Fn:=Ap false 2 2 Xf_stairs_of
abbrev _root_.pa5:=Ad (Aa 2) (Ad (Aa 3) (Ab))
def Xf_are_stairs:Fs:=(Ag (Bv pa8)
 (Ag pc9
 (As (Ak f_is_pile (Ad (Aq BL (Ad (Aa 4) pa5)) (Ad (Aa 1) (Ab)))))))
def f_are_stairs:Fn:=Ap false 2 3 Xf_are_stairs
abbrev _root_.pe5:=Ak f_column_of (Ad (Aa 1) (Ad (Aa 6) (Ab)))
abbrev _root_.ph0:=Ak f_how_many_above (Ad (Aa 7) (Ad (Aa 8) (Ab)))
abbrev _root_.pd9:=AW 5 (CN Bn (Ad (Aa 3) (Ab)) 1 (asgN 8) AO ph0) [7]
def Xf_pile_of_stairs:Fs:=(Ag (AV (bT (AL BU (Ak f_are_stairs pa0))) Fv A4)
 (Ag pc9
 (Ag (Aj false 5 (Aq Bw (Ab)) [])
 (Ag (Fq Bn (Ad (Aa 2) (Ab)) (asgN 6) (Ag (Aj false 7 pe5 [1,6])
 pd9))
 (C6 5)))))
def f_pile_of_stairs:Fn:=Ap false 2 6 Xf_pile_of_stairs
def Xb_cell_at:Fs:=(Ag (AV (bT (Ac (Dm λ i j=>decide (i < j)) (Aa 1) pb3)) (As (Ac AQ (Aa 0) (Aa 1))) A4)
 (As (bC (.int 0))))
def b_cell_at:Fn:=Ap false 2 0 Xb_cell_at
abbrev _root_.pc8:=DY (λ i j=>i + j) true 2 (bC (.int 1))
abbrev _root_.pd7:=Ac (A1 false) (Aa 3) (bC (.str "r"))
def Xf_staircase_of_way:Fs:=(Ag (Aj false 1 (Aq Bw (Ab)) [])
 (Ag (Aj false 2 (bC (.int 0)) [])
 (Ag (Dr (Aa 0) [0] (asgN 3) (AV (bT pd7) pc8 (AW 1 (Aa 2) [2])))
 (As (AL Lg (Aa 1))))))
def f_staircase_of_way:Fn:=Ap false 1 3 Xf_staircase_of_way
def Xf_is_way:Fs:=(Ag pc9
 (Ag (AV (bT (AZ (AL BU (AL (E7 "str") (Aa 1))) (Ac (A1 true) pd1 (Ac B0 (Aa 2) (Aa 3))))) (As (bC (.bl false))) A4)
 (As (Fp (Ac (A1 false) (Jd JA (Aa 1) (Ad (bC (.str "d")) (Ab))) (Aa 2)) (Ac (A1 false) (Jd JA (Aa 1) (Ad (bC (.str "r")) (Ab))) (Aa 3))))))
def f_is_way:Fn:=Ap false 2 3 Xf_is_way
abbrev _root_.pf8:=Ad (Aa 0) (Ad (Aa 2) (Ab))
def Xf_is_list_of_ways:Fs:=(As (Fp (AL (E7 "list") (Aa 1)) (Aq Ep (Ad (BF (Aa 1) 1 (asgN 2) AO (Ak f_is_way pf8)) (Ab)))))
def f_is_list_of_ways:Fn:=Ap false 2 0 Xf_is_list_of_ways
abbrev _root_.ph8:=Ak f_staircase_of_way (Ad (Aa 2) (Ab))
abbrev _root_.pe6:=Ad (Aa 0) (Ad (BF (Aa 1) 1 (asgN 2) AO ph8) (Ab))
def Xf_are_ways:Fs:=(Ag (Bv pa8)
 (Ag (AV (bT (AL BU (Ak f_is_list_of_ways pa0))) (As (bC (.bl false))) A4)
 (As (Ak f_are_stairs pe6))))
def f_are_ways:Fn:=Ap false 2 0 Xf_are_ways
def Xf_pile_of_ways:Fs:=(Ag (AV (bT (AL BU (Ak f_are_ways pa0))) Fv A4)
 (As (Ak f_pile_of_stairs pe6)))
def f_pile_of_ways:Fn:=Ap false 2 0 Xf_pile_of_ways
abbrev _root_.pc5:=Ac (A1 false) (Aa 5) (bC (.str "r"))
abbrev _root_.pf4:=DY (λ i j=>i + j) true 3 (bC (.int 1))
def Xf_points_moved_apart:Fs:=(Ag (Aj false 2 (AL Iq (Aa 1)) [1])
 (Ag (Aj false 3 (Aa 1) [1])
 (Ag (Aj false 4 (Aq Bw (Ad (Aq BL pa5) (Ab))) [2,3])
 (Ag (Dr (Aa 0) [0] (asgN 5) (Ag (AV (bT pc5) pc8 pf4)
 (AW 4 (Aq BL pa5) [2,3])))
 (C6 4)))))
def f_points_moved_apart:Fn:=Ap false 2 4 Xf_points_moved_apart
abbrev _root_.pe7:=Ac (Dz false) (Aa 5) (Aa 2)
def Xf_never_touch:Fs:=(Ag (Bv pa8)
 (Ag (AV (bT (AL BU (Ak f_is_list_of_ways pa0))) Fv A4)
 (Ag (Aj false 2 Dd [])
 (Ag (ET .enm (Ad (Aa 1) (Ab)) [1] (asgT [3,4]) (Dr (Ak f_points_moved_apart pf7) [4,3] (asgN 5) (Ag (AV (bT pe7) (As (bC (.bl false))) A4)
 (CI 2 (Aa 5) (bC (.bl true))))))
 (As (bC (.bl true)))))))
def f_never_touch:Fn:=Ap false 2 4 Xf_never_touch
abbrev _root_.pa4:=Ad (Aa 1) (Ad (Aa 2) (Ab))
abbrev _root_.pb5:=Ac AQ (Aa 0) (bC (.int 1))
def Xf_mirrored_pile:Fs:=(Ag (Bv (Ak f_must_be_pile pa0))
 (As (CN Bn (Ad pb5 (Ab)) 1 (asgN 2) AO (Ak f_column_of pa4))))
def f_mirrored_pile:Fn:=Ap false 2 0 Xf_mirrored_pile
abbrev _root_.pa9:=Ad (Aa 4) (Ad (Aa 5) (Ab))
abbrev _root_.pb7:=Ad (Aa 1) (Ad (Aa 3) (Ab))
def Xf_rolled_pile:Fs:=(Ag (Bv (Ak f_must_be_pile pa0))
 (Ag pf1
 (Ag (Fq Bn (Ad pb5 (Ab)) (asgN 3) (Ag (Aj false 4 (Ak f_column_of pb7) [1,3])
 (AW 2 (CN Bn (Ad pb4 (Ab)) 1 (asgN 5) AO (Ak f_how_many_above pa9)) [4])))
 (C6 2))))
def f_rolled_pile:Fn:=Ap false 2 3 Xf_rolled_pile
def Xf_rest_of:Fs:=(Ag (Bv (Ak f_must_be_pile pa0))
 (Ag pf1
 (Ag (ET .rev (Ad (Aa 1) (Ab)) [1] (asgN 3) (AW 2 (EX .rev (Ad (Aa 3) (Ab)) 1 (asgN 4) AO (Ac Dl pb4 (Aa 4))) [3,0,3]))
 (C6 2))))
def f_rest_of:Fn:=Ap false 2 2 Xf_rest_of
abbrev _root_.ph5:=Ad (Aa 3) (Ad (Aa 5) (Ad (Aa 7) (Ab)))
abbrev _root_.pb6:=CN Bn (Ad (Aa 6) (Ab)) 1 (asgN 7) AO (Aq BL ph5)
def Xf_cubes_of:Fs:=(Ag (Bv (Ak f_must_be_pile pa0))
 (Ag pf1
 (Ag (ET .enm (Ad (Aa 1) (Ab)) [1] (asgT [3,4]) (ET .enm (Ad (Aa 4) (Ab)) [4] (asgT [5,6]) (C1 2 pb6 [3,5])))
 (C6 2))))
def f_cubes_of:Fn:=Ap false 2 5 Xf_cubes_of
def Xf_how_many_cubes:Fs:=(Ag (Bv (Ak f_must_be_pile pa0))
 (As (Aq FO (Ad (BF (Aa 1) 1 (asgN 2) AO (Aq FO (Ad (Aa 2) (Ab)))) (Ab)))))
def f_how_many_cubes:Fn:=Ap false 2 0 Xf_how_many_cubes
theorem sz:(1000000:Nat)<=Au:=by decide
theorem Zy (i:Int):f_is_whole_number [.int i]=.ok (.bl true,om,.non):=by kernel_rfl
def Dc (a b c:Int):Bool:=decide (1<=a) && (decide (1<=b) && decide (1<=c))
theorem dF (a b c:Int):f_is_box [bx a b c]=.ok (.bl (Dc a b c),om,.non):=by
 have e0:∀ x∈[a,b,c],pe3 ([some (bx a b c,0)]++[some (.int x,om)])=.ok (.bl (decide (1<=x)),om,[some (bx a b c,0)]++[some (.int x,om)]):=λ x _=>by kernel_rfl
 have e1:=uZ (n:=1) (f:=Aa 0) (ρ:=[some (bx a b c,0)]) (enc:=PV.int) (q:=λ x=>.bl (decide (1<=x))) (d:=0) [a,b,c] rfl rfl e0 (by have:=sz;show 3<=Au;omega);refine Bg rfl (ρ':=[some (bx a b c,0)]) ?_;show Xf_is_box [some (bx a b c,0)]=_;refine (Eo (ρ1:=[some (bx a b c,0)]) (by kernel_rfl)).trans (Ci ?_);rw [FP e1];show Rz.ok (PV.bl (decide (1<=a) && (decide (1<=b) && (decide (1<=c) && true))),om,_)=_;rw [JM];rfl
theorem LA {a b c:Int} (h:Dc a b c=true):f_must_be_box [bx a b c]=.ok (.non,om,.non):=by
 refine Pk rfl (ρ':=[some (bx a b c,0)]) ?_;have hb:=dF a b c;rw [h] at hb;exact CW (f:=Fv) (g:=A4) (AK (Gr (AJ (F:=f_is_box) (fa:=Ad (Aa 0) Ab) (ρ:=[some (bx a b c,0)]) (xs:=[(bx a b c,0)]) rfl hb)))
def DZ (xs:List Int) (c h:Int):Bool:=decide ((xs.length:Int)=c) && xs.all λ x=>decide (0<=x) && decide (x<=h)
theorem vA (xs:List Int) (c h:Int) (hl:xs.length<=1000):f_is_row_of_heights [il xs,.int c,.int h]=.ok (.bl (DZ xs c h),om,.non):=by
 have e0:∀ x∈xs,pd2 ([some (il xs,0),some (.int c,om),some (.int h,om)]++[some (.int x,om)])=.ok (.bl (decide (0<=x) && decide (x<=h)),om,[some (il xs,0),some (.int c,om),some (.int h,om)]++[some (.int x,om)]):=λ x _=>
  MD (a:=true) (AJ (xs:=[(.int x,om)]) rfl (Zy x)) (λ _=>QJ (i:=0) (j:=x) (k:=h) rfl rfl rfl) rfl
 have e1:=FJ (n:=3) (f:=Aa 0) (ρ:=[some (il xs,0),some (.int c,om),some (.int h,om)]) (enc:=PV.int) (q:=λ x=>.bl (decide (0<=x) && decide (x<=h))) (d:=0) xs rfl rfl e0 (by have:=sz;omega);have t:bT (AZ (AL BU (AL (E7 "list") (Aa 0))) (Ac (A1 true) pb3 (Aa 1))) [some (il xs,0),some (.int c,om),some (.int h,om)]=.ok (!decide ((xs.length:Int)=c),[some (il xs,0),some (.int c,om),some (.int h,om)]):=by
  refine AK (d:=om) ((Sj (a:=false) rfl (λ _=>Gp (MT (xs:=xs) (d:=0) rfl) (j:=c) rfl) rfl).trans ?_);rw [TQ,Bool.true_xor]
 refine Bg rfl (ρ':=[some (il xs,0),some (.int c,om),some (.int h,om)]) ?_;show Xf_is_row_of_heights [some (il xs,0),some (.int c,om),some (.int h,om)]=_;unfold DZ;by_cases hc:(xs.length:Int)=c
 ·rw [decide_eq_true hc] at t ⊢;refine (Eo t).trans (Ci ?_);rw [FP e1];rfl
 ·rw [decide_eq_false hc] at t ⊢;exact Jp ((CH t).trans rfl)
def FY (xs:List Int):Bool:=(An ((xs.length:Int) - 1).toNat).all λ k=>decide (xs.getD (k + 1) 0<=xs.getD k 0)
theorem Zu (xs:List Int) (hl:xs.length<=1000):f_never_rises [il xs]=.ok (.bl (FY xs),om,.non):=by
 have e0:∀ k,k < ((xs.length:Int) - 1).toNat->pe0 ([some (il xs,0)]++[some (.int (1 + (k:Int)),om)])=.ok (.bl (decide (xs.getD (k + 1) 0<=xs.getD k 0)),om,[some (il xs,0)]++[some (.int (1 + (k:Int)),om)]):=λ k hk=>by
  refine Js (i:=xs.getD (k + 1) 0) (j:=xs.getD k 0) (IA (xs:=xs) (k:=1 + (k:Int)) rfl rfl (E4 (by omega) ?_)) (IA (xs:=xs) (k:=1 + (k:Int) - 1) rfl rfl (E4 (by omega) ?_))
  ·rw [show (1 + (k:Int)).toNat=k + 1 by omega,Bb (show k + 1 < xs.length by omega),A7,Bb (show k + 1 < xs.length by omega)];rfl
  ·rw [show (1 + (k:Int) - 1).toNat=k by omega,Bb (show k < xs.length by omega),A7,Bb (show k < xs.length by omega)];rfl
 have e1:=Hm (n:=1) (en:=Lb) (ρ:=[some (il xs,0)]) (q:=λ k=>.bl (decide (xs.getD (k + 1) 0<=xs.getD k 0))) (Cu (f:=bC (.int 1)) (d:=om) (x:=.int 1) rfl (BE (MT (fa:=Ad (Aa 0) Ab) (xs:=xs) (d:=0) rfl))) (gW (by decide) (by decide) (by omega) (by omega)) rfl e0 (by have:=sz;omega);exact Bg rfl (ρ':=[some (il xs,0)]) (Ci (FP e1))
def Bs (t:List (List Int)) (j:Nat):List Int:=t.map λ r=>r.getD j 0
theorem EU {xs:List Int}{j:Nat} (h:j < xs.length):xs[j]?=some (xs.getD j 0):=by
 rw [A7,Bb h];rfl
theorem Ht {xs:List (List Int)}{j:Nat} (h:j < xs.length):xs[j]?=some (xs.getD j []):=by
 rw [A7,Bb h];rfl
theorem Og (t:List (List Int)) (j:Nat) (hl:t.length<=1000) (hr:∀ r∈t,j < r.length):f_column_of [tb t,.int (j:Int)]=.ok (il (Bs t j),om,.non):=by
 have e0:∀ r∈t,(Ac AQ (Aa 2) (Aa 1)) ([some (tb t,0),some (.int (j:Int),om)]++[some (il r,0)])=.ok (.int (r.getD j 0),om,[some (tb t,0),some (.int (j:Int),om)]++[some (il r,0)]):=λ r hm=>
  IA (xs:=r) (k:=(j:Int)) rfl rfl (E4 (by omega) (EU (hr r hm)))
 have e1:=FJ (n:=2) (f:=Aa 0) (ρ:=[some (tb t,0),some (.int (j:Int),om)]) (enc:=il) (q:=λ r=>.int (r.getD j 0)) (d:=0) t rfl rfl e0 (by have:=sz;omega);refine Bg rfl (ρ':=[some (tb t,0),some (.int (j:Int),om)]) ((Ci e1).trans ?_);unfold Bs il;rw [BC];rfl
theorem QG (xs:List Int) (k:Int) (hl:xs.length<=1000):f_how_many_above [il xs,.int k]=.ok (.int ((xs.filter λ x=>decide (k < x)).length:Nat),om,.non):=by
 have e1:=YC (n:=2) (f:=Aa 0) (elt:=Aa 2) (test:=bT ph3) (ρ:=[some (il xs,0),some (.int k,om)]) (enc:=PV.int) (q:=PV.int) (p:=λ x=>decide (k < x)) (d:=0) xs rfl rfl (λ x _=>rfl) (λ x _ _=>rfl) (by have:=sz;omega);exact Bg rfl (ρ':=[some (il xs,0),some (.int k,om)]) (Ci (MT (xs:=xs.filter λ x=>decide (k < x)) (BE e1)))
def Tab (a b:Nat) (t:List (List Int)):Prop:=t.length=a/\∀ r∈t,r.length=b
def Gm (a b:Nat) (c:Int) (t:List (List Int)):Bool:=(t.all λ r=>DZ r b c) && ((t.all FY) && ((An b).all λ j=>FY (Bs t j)))
theorem V9 {a b:Nat}{c:Int}{t:List (List Int)} (ht:Tab a b t) (ha:1<=a/\a<=100) (hb:1<=b/\b<=100) (hc:1<=c):f_is_pile [bx a b c,tb t]=.ok (.bl (Gm a b c t),om,.non):=by
 let R0:Af:=[some (bx a b c,0),some (tb t,0),none,none,none]
 let R1:Af:=[some (bx a b c,0),some (tb t,0),some (.int a,om),some (.int b,om),some (.int c,om)]
 have hbx:Dc a b c=true:=by unfold Dc;rw [decide_eq_true (by omega),decide_eq_true (by omega),decide_eq_true hc];rfl
 have hs:=sz;have l1:=ht.1;have s1:Bv pa8 R0=.nx R0:=DH (AJ (xs:=[(bx a b c,0)]) rfl (LA hbx));have s2:BB (asgT [2,3,4]) (Aa 0) [0] R0=.nx R1:=by kernel_rfl
 have t3:bT (AZ pf6 (Ac (A1 true) pd1 (Aa 2))) R1=.ok (false,R1):=by
  refine AK (d:=om) ((Sj (a:=false) rfl (λ _=>Gp (kH (t:=t) (d:=0) rfl) (j:=(a:Int)) rfl) rfl).trans ?_);rw [l1];simp
 have e4:∀ r∈t,(Ak f_is_row_of_heights pf0) (R1++[some (il r,0)])=.ok (.bl (DZ r b c),om,R1++[some (il r,0)]):=λ r hr=>
  AJ (xs:=[(il r,0),(.int b,om),(.int c,om)]) rfl (vA r b c (by rw [ht.2 r hr];omega))
 have t4:=AK (Gr (FP (FJ (n:=5) (f:=Aa 1) (ρ:=R1) (enc:=il) (q:=λ r=>.bl (DZ r b c)) (d:=0) t rfl rfl e4 (by omega))));have e5:∀ r∈t,ph9 (R1++[some (il r,0)])=.ok (.bl (FY r),om,R1++[some (il r,0)]):=λ r hr=>
  AJ (xs:=[(il r,0)]) rfl (Zu r (by rw [ht.2 r hr];omega))
 have t5:=AK (Gr (FP (FJ (n:=5) (f:=Aa 1) (ρ:=R1) (enc:=il) (q:=λ r=>.bl (FY r)) (d:=0) t rfl rfl e5 (by omega))));have e6:∀ k,k < ((b:Int) - 0).toNat->pf3 (R1++[some (.int (0 + (k:Int)),om)])=.ok (.bl (FY (Bs t k)),om,R1++[some (.int (0 + (k:Int)),om)]):=λ k hk=>by
  have e:=Og t k (by omega) λ r hr=>by rw [ht.2 r hr];omega
  rw [EI];exact AJ (xs:=[(il (Bs t k),om)]) (BE (AJ (xs:=[(tb t,0),(.int (k:Int),om)]) rfl e)) (Zu _ (by unfold Bs;rw [Ax];omega))
 have e7:=Hm (n:=5) (en:=Bn) (fa:=Ad (Aa 3) Ab) (ρ:=R1) (q:=λ k=>.bl (FY (Bs t k))) (as:=[(.int (b:Int),om)]) rfl (Em (by omega) (by omega)) rfl e6 (by omega);rw [show ((b:Int) - 0).toNat=b by omega] at e7;refine Bg rfl (ρ':=R1) ?_;show Xf_is_pile R0=_;unfold Gm;refine (A3 s1).trans ((A3 s2).trans ((Eo t3).trans ?_));cases h1:t.all λ r=>DZ r b c with
 | false=>
  rw [h1] at t4;exact Jp ((CH t4).trans rfl)
 | true=>
  rw [h1] at t4;refine (Eo t4).trans ?_;cases h2:t.all FY with
  | false=>
   have h2':t.all (λ r=>FY r)=false:=h2;rw [h2'] at t5;exact Jp ((CH t5).trans rfl)
  | true=>
   have h2':t.all (λ r=>FY r)=true:=h2;rw [h2'] at t5;exact (Eo t5).trans (Ci (FP e7))
theorem Ir {a b:Nat}{c:Int}{t:List (List Int)} (ht:Tab a b t) (ha:1<=a/\a<=100) (hb:1<=b/\b<=100) (hc:1<=c) (h:Gm a b c t=true):f_must_be_pile [bx a b c,tb t]=.ok (.non,om,.non):=by
 refine Pk rfl (ρ':=[some (bx a b c,0),some (tb t,0)]) ?_;have hp:=V9 ht ha hb hc;rw [h] at hp;exact CW (f:=Fv) (g:=A4) (AK (Gr (AJ (F:=f_is_pile) (fa:=Ad (Aa 0) (Ad (Aa 1) Ab)) (ρ:=[some (bx a b c,0),some (tb t,0)]) (xs:=[(bx a b c,0),(tb t,0)]) rfl hp)))
def cnt (xs:List Int) (k:Int):Int:=((xs.filter λ x=>decide (k < x)).length:Nat)
def Gk (t:List (List Int)) (k:Int):List Int:=t.map λ r=>cnt r k
def Bh (t:List (List Int)) (c:Nat):List (List Int):=(An c).map λ (k:Nat)=>Gk t (k:Int)
theorem O0 (t:List (List Int)) (r:List Int):PV.lst ((t.map il)++[il r])=tb (t++[r]):=by
 unfold tb;rw [B5];rfl
theorem ZO {a b c:Nat}{t:List (List Int)} (ht:Tab a b t) (ha:1<=a/\a<=100) (hb:1<=b/\b<=100) (hc:1<=c/\c<=100) (h:Gm a b c t=true):f_stairs_of [bx a b c,tb t]=.ok (tb (Bh t c),om,.non):=by
 let R (s:PV) (s3:QQ.Slot):Af:=[some (bx a b c,0),some (tb t,0),some (s,om),s3]
 have hs:=sz;have l1:=ht.1;have s1:Bv (Ak f_must_be_pile pa0) [some (bx a b c,0),some (tb t,0),none,none]=.nx [some (bx a b c,0),some (tb t,0),none,none]:=DH (AJ (xs:=[(bx a b c,0),(tb t,0)]) rfl (Ir ht ha hb (by (clear l1 hs hb ha;omega)) h));have s2:Aj false 2 (Aq Bw (Ab)) [] [some (bx a b c,0),some (tb t,0),none,none]=.nx (R (tb []) none):=by kernel_rfl
 have e4:∀ (s:PV) (k:Int),∀ r∈t,pc3 (R s (some (.int k,om))++[some (il r,0)])=.ok (.int (cnt r k),om,R s (some (.int k,om))++[some (il r,0)]):=λ s k r hr=>
  AJ (xs:=[(il r,0),(.int k,om)]) rfl (QG r k (by rw [ht.2 r hr];(clear l1 hs hc ha;omega)))
 have e5:∀ (s:PV) (k:Int),BF (Aa 1) 1 (asgN 4) AO pc3 (R s (some (.int k,om)))=.ok (il (Gk t k),om,R s (some (.int k,om))):=λ s k=>by
  rw [FJ (n:=4) (f:=Aa 1) (ρ:=R s (some (.int k,om))) (enc:=il) (q:=λ r=>.int (cnt r k)) (d:=0) t rfl rfl (e4 s k) (by (clear hc hb;omega))];unfold Gk il;rw [BC];rfl
 obtain ⟨ρ',e6,s3,rfl⟩:=Kv (i:=3) (body:=AW 2 (BF (Aa 1) 1 (asgN 4) AO pc3) [1,1,3]) (en:=Bn) (fa:=Ad pb4 (Ab)) (ρ:=R (tb []) none) (ρ1:=R (tb []) none) (as:=[(.int (c:Int),om)]) (lo:=0) (hi:=(c:Int))
  (λ k ρ=>∃ s3,ρ=R (tb (Bh t k)) s3) (by kernel_rfl) (Em (by (clear l1 hs hc hb ha;omega)) (by (clear l1 hs hb ha;omega))) ⟨none,rfl⟩ (by
   rintro j ρ hj ⟨s3,rfl⟩;refine ⟨show 3 < 4 by decide,_,GK (i:=2) (d0:=999) (d:=om) (xs:=(Bh t j).map il) (xs0:=(Bh t j).map il) rfl (e5 _ _) rfl (by decide) (by unfold Bh;rw [Ax,Ax,CF];(clear l1 hb ha;omega)) rfl,some (.int (0 + (j:Int)),om),?_⟩;rw [EI];show R (PV.lst ((Bh t j).map il++[il (Gk t (j:Int))])) _=_;rw [O0]
   have:Bh t j++[Gk t (j:Int)]=Bh t (j + 1):=by
    unfold Bh;rw [CD,B5];rfl
   rw [this])
 rw [show ((c:Int) - 0).toNat=c by (clear l1 hs hc hb ha;omega)] at e6;refine Bg rfl (ρ':=R (tb (Bh t c)) s3) ?_;exact (A3 s1).trans ((A3 s2).trans ((A3 e6).trans rfl))
theorem Vq {a b c:Nat}{s:List (List Int)} (hs:Tab c a s) (ha:1<=a/\a<=100) (hb:1<=b/\b<=100) (hc:1<=c/\c<=100):f_are_stairs [bx a b c,tb s]=.ok (.bl (Gm c a b s),om,.non):=by
 let R1:Af:=[some (bx a b c,0),some (tb s,0),some (.int a,om),some (.int b,om),some (.int c,om)]
 have hbx:Dc a b c=true:=by unfold Dc;rw [decide_eq_true (by (clear hc hb;omega)),decide_eq_true (by (clear hc ha;omega)),decide_eq_true (by (clear hb ha;omega))];rfl
 have s1:Bv pa8 [some (bx a b c,0),some (tb s,0),none,none,none]=.nx [some (bx a b c,0),some (tb s,0),none,none,none]:=DH (AJ (xs:=[(bx a b c,0)]) rfl (LA hbx));have s2:BB (asgT [2,3,4]) (Aa 0) [0] [some (bx a b c,0),some (tb s,0),none,none,none]=.nx R1:=by kernel_rfl
 refine Bg rfl (ρ':=R1) ?_;exact (A3 s1).trans ((A3 s2).trans (Ci (AJ (xs:=[(bx c a b,om),(tb s,0)]) rfl (V9 hs hc ha (by (clear hc ha;omega))))))
def EW (s:List (List Int)) (a b:Nat):List (List Int):=(An a).map λ i=>(An b).map λ (j:Nat)=>cnt (Bs s i) (j:Int)
theorem Vn {a b c:Nat}{s:List (List Int)} (hs:Tab c a s) (ha:1<=a/\a<=100) (hb:1<=b/\b<=100) (hc:1<=c/\c<=100) (h:Gm c a b s=true):f_pile_of_stairs [bx a b c,tb s]=.ok (tb (EW s a b),om,.non):=by
 let R (p:PV) (s6 s7:QQ.Slot):Af:=[some (bx a b c,0),some (tb s,0),some (.int a,om),some (.int b,om),some (.int c,om),some (p,om),s6,s7]
 have z:=sz;have l1:=hs.1;have hh:=Vq (b:=b) hs ha hb hc;rw [h] at hh;let R0:Af:=[some (bx a b c,0),some (tb s,0),none,none,none,none,none,none]
 have t1:bT (AL BU (Ak f_are_stairs pa0)) R0=.ok (false,R0):=AK (Gr (AJ (xs:=[(bx a b c,0),(tb s,0)]) rfl hh));have s1:AV (bT (AL BU (Ak f_are_stairs pa0))) Fv A4 R0=.nx R0:=CW t1;have s2:BB (asgT [2,3,4]) (Aa 0) [0] R0=.nx [some (bx a b c,0),some (tb s,0),some (.int a,om),some (.int b,om),some (.int c,om),none,none,none]:=by kernel_rfl
 have s3:Aj false 5 (Aq Bw (Ab)) [] [some (bx a b c,0),some (tb s,0),some (.int a,om),some (.int b,om),some (.int c,om),none,none,none]=.nx (R (tb []) none none):=by kernel_rfl
 have cl:∀ i,(Bs s i).length=c:=λ i=>by unfold Bs;rw [Ax,l1]
 have e4:∀ (p:PV) (i:Nat) (s6:QQ.Slot),CN Bn (Ad (Aa 3) (Ab)) 1 (asgN 8) AO ph0 (R p s6 (some (il (Bs s i),om)))=.ok (il ((An b).map λ (j:Nat)=>cnt (Bs s i) (j:Int)),om,R p s6 (some (il (Bs s i),om))):=λ p i s6=>by
  rw [Hm (n:=8) (en:=Bn) (fa:=Ad (Aa 3) Ab) (ρ:=R p s6 (some (il (Bs s i),om))) (q:=λ (j:Nat)=>.int (cnt (Bs s i) (j:Int))) (as:=[(.int (b:Int),om)]) rfl (Em (by (clear l1 z hc hb ha;omega)) (by (clear l1 z hc ha;omega))) rfl (λ k hk=>by
   rw [EI];exact AJ (xs:=[(il (Bs s i),0),(.int (k:Int),om)]) rfl (QG _ _ (by rw [cl];(clear hk l1 z hb ha;omega)))) (by (clear l1 hc ha;omega)),show ((b:Int) - 0).toNat=b by (clear l1 z hc hb ha;omega)]
  unfold il;rw [BC];rfl
 obtain ⟨ρ',e6,s6,s7,rfl⟩:=Kv (i:=6) (body:=Ag (Aj false 7 pe5 [1,6]) pd9) (en:=Bn) (fa:=Ad (Aa 2) (Ab)) (ρ:=R (tb []) none none) (ρ1:=R (tb []) none none) (as:=[(.int (a:Int),om)]) (lo:=0) (hi:=(a:Int))
  (λ k ρ=>∃ s6 s7,ρ=R (tb (EW s k b)) s6 s7) rfl (Em (by (clear l1 z hc hb ha;omega)) (by (clear l1 z hc hb;omega))) ⟨none,none,rfl⟩ (by
   rintro j ρ hj ⟨s6,s7,rfl⟩;have ec:=Og s j (by (clear hj z hb ha;omega)) λ r hr=>by rw [hs.2 r hr];(clear l1 z hc hb ha;omega)
   have u1:Aj false 7 pe5 [1,6] (R (tb (EW s j b)) (some (.int (0 + (j:Int)),om)) s7)=.nx (R (tb (EW s j b)) (some (.int (0 + (j:Int)),om)) (some (il (Bs s j),om))):=by
    rw [EI];exact setF (AJ (xs:=[(tb s,0),(.int (j:Int),om)]) rfl ec) (show 7 < 8 by decide) rfl
   refine ⟨show 6 < 8 by decide,_,(A3 u1).trans (GK (i:=5) (d0:=999) (d:=om) (xs:=(EW s j b).map il) (xs0:=(EW s j b).map il) rfl (e4 _ j _) rfl (by decide) (by unfold EW;rw [Ax,Ax,CF];(clear l1 hc hb;omega)) rfl),some (.int (0 + (j:Int)),om),some (il (Bs s j),om),?_⟩;show R (PV.lst ((EW s j b).map il++[il ((An b).map λ (i:Nat)=>cnt (Bs s j) (i:Int))])) _ _=_;rw [O0]
   have:EW s j b++[(An b).map λ (i:Nat)=>cnt (Bs s j) (i:Int)]=EW s (j + 1) b:=by
    unfold EW;rw [CD,B5];rfl
   rw [this])
 rw [show ((a:Int) - 0).toNat=a by (clear l1 z hc hb ha;omega)] at e6;refine Bg rfl (ρ':=R (tb (EW s a b)) s6 s7) ?_;exact (A3 s1).trans ((A3 s2).trans ((A3 s3).trans ((A3 e6).trans rfl)))
def g (t:List (List Int)) (i j:Nat):Int:=(t.getD i []).getD j 0
structure Pile (a b:Nat) (c:Int) (t:List (List Int)):Prop where
 tab:Tab a b t
 lo:∀ i j,i < a->j < b->0<=g t i j
 hi:∀ i j,i < a->j < b->g t i j<=c
 dn:∀ i j,i + 1 < a->j < b->g t (i + 1) j<=g t i j
 rt:∀ i j,i < a->j + 1 < b->g t i (j + 1)<=g t i j
theorem T4 {t:List (List Int)}{i:Nat} (h:i < t.length):t.getD i []∈t:=by
 rw [A7,Bb h];exact CV h
theorem Tab.row {a b:Nat}{t:List (List Int)} (h:Tab a b t) {i:Nat} (hi:i < a):(t.getD i []).length=b:=h.2 _ (T4 (by rw [h.1];exact hi))
theorem gm {xs:List Int}{i:Nat} (h:i < xs.length):xs.getD i 0∈xs:=by
 rw [A7,Bb h];exact CV h
theorem LX {xs:List Int}{x:Int} (h:x∈xs):∃ i,i < xs.length/\xs.getD i 0=x:=by
 obtain ⟨i,hi,e⟩:=Ja h;exact ⟨i,hi,by rw [A7,Bb hi];exact e⟩
theorem Kr {t:List (List Int)}{r:List Int} (h:r∈t):∃ i,i < t.length/\t.getD i []=r:=by
 obtain ⟨i,hi,e⟩:=Ja h;exact ⟨i,hi,by rw [A7,Bb hi];exact e⟩
theorem NZ {xs ys:List Int} (hl:xs.length=ys.length) (h:∀ i,i < xs.length->xs.getD i 0=ys.getD i 0):xs=ys:=by
 refine TX hl λ i h1 h2=>?_
 have:=h i h1
 rw [A7,Bb h1,A7,Bb h2] at this;exact this
theorem Gh {a b:Nat}{t u:List (List Int)} (ht:Tab a b t) (hu:Tab a b u) (h:∀ i j,i < a->j < b->g t i j=g u i j):t=u:=by
 refine TX (by rw [ht.1,hu.1]) λ i h1 h2=>?_;have hi:i < a:=by rw [<- ht.1];exact h1
 have e1:t.getD i []=t[i]:=by rw [A7,Bb h1];rfl
 have e2:u.getD i []=u[i]:=by rw [A7,Bb h2];rfl
 rw [<- e1,<- e2];refine NZ (by rw [ht.row hi,hu.row hi]) λ j hj=>h i j hi (by rw [<- ht.row hi];exact hj)
theorem qdo {xs:List Int}{c h:Int}:DZ xs c h=true↔(xs.length:Int)=c/\∀ x∈xs,0<=x/\x<=h:=by
 unfold DZ;rw [AU,decide_eq_true_iff,jb3];constructor
 ·rintro ⟨h1,h2⟩;refine ⟨h1,λ x hx=>?_⟩
  have:=h2 x hx
  rw [AU,decide_eq_true_iff,decide_eq_true_iff] at this;exact this
 ·rintro ⟨h1,h2⟩;refine ⟨h1,λ x hx=>?_⟩;rw [AU,decide_eq_true_iff,decide_eq_true_iff];exact h2 x hx
theorem zgv {xs:List Int}:FY xs=true↔∀ k,k + 1 < xs.length->xs.getD (k + 1) 0<=xs.getD k 0:=by
 unfold FY;rw [jb3];constructor
 ·intro h k hk;exact of_decide_eq_true (h k (jc2.mpr (by omega)))
 ·intro h k hk
  have:=jc2.mp hk
  exact decide_eq_true (h k (by omega))
theorem GQ {t:List (List Int)}{i j:Nat} (h:i < t.length):(Bs t j).getD i 0=g t i j:=by
 unfold Bs g;rw [A7,BO,Bb h,A7 (l:=t),Bb h];rfl
theorem GR {t:List (List Int)}{j:Nat}:(Bs t j).length=t.length:=by unfold Bs;rw [Ax]
theorem Gj {a b:Nat}{c:Int}{t:List (List Int)} (ht:Tab a b t):Gm a b c t=true↔Pile a b c t:=by
 unfold Gm;rw [AU,AU,jb3,jb3,jb3];constructor
 ·rintro ⟨h1,h2,h3⟩;have q:∀ i j,i < a->j < b->0<=g t i j/\g t i j<=c:=λ i j hi hj=>(qdo.mp (h1 _ (T4 (by rw [ht.1];exact hi)))).2 _ (gm (by rw [ht.row hi];exact hj));refine ⟨ht,λ i j hi hj=>(q i j hi hj).1,λ i j hi hj=>(q i j hi hj).2,λ i j hi hj=>?_,λ i j hi hj=>?_⟩
  ·have:=zgv.mp (h3 j (jc2.mpr hj)) i (by rw [GR,ht.1];exact hi)
   rw [GQ (by rw [ht.1];exact hi),GQ (by rw [ht.1];(clear this hj;omega))] at this;exact this
  ·exact zgv.mp (h2 _ (T4 (by rw [ht.1];exact hi))) j (by rw [ht.row hi];exact hj)
 ·intro p;refine ⟨λ r hr=>qdo.mpr ⟨by rw [ht.2 r hr],λ x hx=>?_⟩,λ r hr=>zgv.mpr λ k hk=>?_,λ j hj=>zgv.mpr λ k hk=>?_⟩
  ·obtain ⟨i,hi,rfl⟩:=Kr hr;obtain ⟨j,hj,rfl⟩:=LX hx;have hi':i < a:=by rw [<- ht.1];exact hi
   rw [ht.row hi'] at hj;exact ⟨p.lo i j hi' hj,p.hi i j hi' hj⟩
  ·obtain ⟨i,hi,rfl⟩:=Kr hr;have hi':i < a:=by rw [<- ht.1];exact hi
   rw [ht.row hi'] at hk;exact p.rt i k hi' hk
  ·rw [GR,ht.1] at hk;rw [GQ (by rw [ht.1];exact hk),GQ (by rw [ht.1];omega)];exact p.dn k j hk (jc2.mp hj)
def FA (a b:Nat) (f:Nat->Nat->Int):List (List Int):=(An a).map λ i=>(An b).map λ j=>f i j
theorem LG {a b:Nat}{f:Nat->Nat->Int}:Tab a b (FA a b f):=by
 refine ⟨by unfold FA;rw [Ax,CF],λ r hr=>?_⟩;obtain ⟨i,_,rfl⟩:=jc4.mp hr;rw [Ax,CF]
theorem LO {b j:Nat}{f:Nat->Int} (hj:j < b):((An b).map f).getD j 0=f j:=by
 rw [A7,BO,Qh hj];rfl
theorem Ou {a i:Nat}{f:Nat->List Int} (hi:i < a):((An a).map f).getD i []=f i:=by
 rw [A7,BO,Qh hi];rfl
theorem E5 {a b i j:Nat}{f:Nat->Nat->Int} (hi:i < a) (hj:j < b):g (FA a b f) i j=f i j:=by
 unfold g FA;rw [Ou hi,LO hj]
theorem LB {a b c:Nat}{t:List (List Int)} (ht:Tab a b t):Tab c a (Bh t c):=by
 refine ⟨by unfold Bh;rw [Ax,CF],λ r hr=>?_⟩;obtain ⟨i,_,rfl⟩:=jc4.mp hr;unfold Gk;rw [Ax,ht.1]
theorem GO {a b c k i:Nat}{t:List (List Int)} (ht:Tab a b t) (hk:k < c) (hi:i < a):g (Bh t c) k i=cnt (t.getD i []) k:=by
 unfold g Bh;rw [Ou hk];unfold Gk;rw [A7,BO,Bb (by rw [ht.1];exact hi),A7,Bb (by rw [ht.1];exact hi)];rfl
theorem cnt_cons {x k:Int}{r:List Int}:cnt (x::r) k=cnt r k + if k < x then 1 else 0:=by
 unfold cnt;by_cases h:k < x
 ·rw [Uj (p:=λ x=>decide (k < x)) (decide_eq_true h),AY,if_pos h];omega
 ·rw [Uk (p:=λ x=>decide (k < x)) (by rw [decide_eq_true_iff];exact h),if_neg h];omega
theorem Px (r:List Int) (k:Int):0<=cnt r k:=by unfold cnt;omega
theorem S0 (r:List Int) (k:Int):cnt r k<=r.length:=by
 unfold cnt
 have:=Uh (λ x=>decide (k < x)) r
 omega
def Nr (r:List Int):Prop:=∀ k,k + 1 < r.length->r.getD (k + 1) 0<=r.getD k 0
theorem Nr.tail {x:Int}{r:List Int} (h:Nr (x::r)):Nr r:=λ k hk=>h (k + 1) (by rw [AY];omega)
theorem Nr.le {r:List Int} (h:Nr r):∀ {i j:Nat},i<=j->j < r.length->r.getD j 0<=r.getD i 0:=by
 intro i j hij hj;induction j with
 | zero=>
  have:i=0:=by omega
  rw [this];exact EH _
 | succ j ih=>
  by_cases e:i=j + 1
  ·rw [e];exact EH _
  ·exact Ic (h j hj) (ih (by omega) (by (clear e hij;omega)))
theorem YB {k:Int}:∀ {r:List Int},(∀ x∈r,x<=k)->cnt r k=0
 | [],_=>rfl
 | x::r,h=>by
  rw [cnt_cons,if_neg (by have:=h x AD;omega),YB λ y hy=>h y (AE _ hy)];rfl
theorem Pw {k:Int}:∀ {r:List Int},Nr r->∀ {j:Nat},j < r.length->((j:Int) < cnt r k↔k < r.getD j 0)
 | [],_,j,h=>absurd h (by simp)
 | x::r,hn,j,hj=>by
  rw [cnt_cons];by_cases hx:k < x
  ·rw [if_pos hx];cases j with
   | zero=>
    have:=Px r k
    constructor
    ·intro _;exact hx
    ·intro _;(clear hj hx;omega)
   | succ j=>
    have:=Pw (k:=k) hn.tail (j:=j) (by rw [AY] at hj;omega)
    show ((j + 1:Nat):Int) < _↔k < r.getD j 0;rw [<- this];(clear this hj hx;omega)
  ·rw [if_neg hx,YB]
   ·have:=hn.le (i:=0) (j:=j) (by (clear hx hj;omega)) hj
    have e:(x::r).getD 0 0=x:=rfl;rw [e] at this;constructor <;> intro h <;> (clear e hj;omega)
   ·intro y hy;obtain ⟨i,hi,rfl⟩:=LX hy
    have:=hn.le (i:=0) (j:=i + 1) (by (clear hi hx hj;omega)) (by rw [AY];(clear hx hj;omega))
    have e:(x::r).getD 0 0=x:=rfl;have e':(x::r).getD (i + 1) 0=r.getD i 0:=rfl;rw [e,e'] at this
    (clear e' e hi hj;omega)
theorem YA {x k:Int}:∀ {r:List Int},cnt (r++[x]) k=cnt r k + if k < x then 1 else 0
 | []=>by rw [Ex,cnt_cons]
 | y::r=>by rw [Hi,cnt_cons,cnt_cons,YA];omega
theorem ZD {f:Nat->Int}{j H:Int}:∀ {c:Nat},(∀ k,k < c->(j < f k↔(k:Int) < H))->0<=H->cnt ((An c).map f) j=min (c:Int) H
 | 0,_,h0=>by show (0:Int)=_;omega
 | c + 1,h,h0=>by
  rw [CD,B5,List.map_singleton,YA,ZD (λ k hk=>h k (by omega)) h0]
  have:=h c (by omega)
  by_cases e:(c:Int) < H
  ·rw [if_pos (this.mpr e)];(clear this h0;omega)
  ·rw [if_neg (λ z=>e (this.mp z))];(clear this h0;omega)
theorem Pile.nr {a b:Nat}{c:Int}{t:List (List Int)} (p:Pile a b c t) {i:Nat} (hi:i < a):Nr (t.getD i []):=λ k hk=>p.rt i k hi (by rw [p.tab.row hi] at hk;exact hk)
theorem O3 {a b c:Nat}{t:List (List Int)} (p:Pile a b c t) {i j k:Nat} (hi:i < a) (hj:j < b) (hk:k < c):(j:Int) < g (Bh t c) k i↔(k:Int) < g t i j:=by
 rw [GO p.tab hk hi];exact Pw (p.nr hi) (by rw [p.tab.row hi];exact hj)
theorem lr {a b c:Nat}{t:List (List Int)} (ht:Tab a b t) {i:Nat} (hi:i < a):Bs (Bh t c) i=(An c).map λ (k:Nat)=>cnt (t.getD i []) (k:Int):=by
 refine NZ (by rw [GR,(LB (c:=c) ht).1,Ax,CF]) λ k hk=>?_;rw [GR,(LB (c:=c) ht).1] at hk;rw [GQ (by rw [(LB (c:=c) ht).1];exact hk),GO ht hk hi,LO hk]
theorem zy {a b c:Nat}{t:List (List Int)} (p:Pile a b c t) {i j:Nat} (hi:i < a) (hj:j < b):cnt (Bs (Bh t c) i) j=g t i j:=by
 rw [lr p.tab hi,ZD (H:=g t i j) (λ k hk=>Pw (p.nr hi) (by rw [p.tab.row hi];exact hj)) (p.lo i j hi hj)]
 have:=p.hi i j hi hj
 (clear hj hi;omega)
theorem NQ {a b c:Nat}{t:List (List Int)} (p:Pile a b c t):Pile c a b (Bh t c):=by
 refine ⟨LB p.tab,λ k i hk hi=>?_,λ k i hk hi=>?_,λ k i hk hi=>?_,λ k i hk hi=>?_⟩
 ·rw [GO p.tab hk hi];exact Px _ _
 ·rw [GO p.tab hk hi]
  have:=S0 (t.getD i []) k
  rw [p.tab.row hi] at this;exact this
 ·refine jv9.mp λ z=>?_;have h0:0<=g (Bh t c) k i:=by rw [GO p.tab (by (clear z hi;omega)) hi];exact Px _ _
  have hb:g (Bh t c) (k + 1) i<=b:=by
   rw [GO p.tab hk hi]
   have:=S0 (t.getD i []) ((k + 1:Nat):Int)
   rw [p.tab.row hi] at this;exact this
  have h1:=(O3 p (j:=(g (Bh t c) k i).toNat) hi (by (clear hi hk;omega)) hk).mp (by (clear hb hi hk;omega));have h2:=(O3 p (j:=(g (Bh t c) k i).toNat) (k:=k) hi (by (clear h1 hi hk;omega)) (by (clear h1 hb h0 z hi;omega))).mpr (by (clear hb h0 z hi hk;omega))
  (clear h1 hb h0 z hi hk;omega)
 ·refine jv9.mp λ z=>?_;have h0:0<=g (Bh t c) k i:=by rw [GO p.tab (by (clear z hi;omega)) (by (clear z hk;omega))];exact Px _ _
  have hb:g (Bh t c) k (i + 1)<=b:=by
   rw [GO p.tab hk hi]
   have:=S0 (t.getD (i + 1) []) k
   rw [p.tab.row hi] at this;exact this
  have h1:=(O3 p (j:=(g (Bh t c) k i).toNat) (k:=k) hi (by (clear hi hk;omega)) hk).mp (by (clear hb hi hk;omega));have h2:=(O3 p (j:=(g (Bh t c) k i).toNat) (k:=k) (i:=i) (by (clear h1 hb h0 z hk;omega)) (by (clear h1 hi hk;omega)) (by (clear h1 hb h0 z hi;omega))).mpr (by have:=p.dn i (g (Bh t c) k i).toNat hi (by (clear h1 hi hk;omega));(clear hb h0 z hi hk;omega))
  (clear h1 hb h0 z hi hk;omega)
theorem Vf {α:Type}{xs:List α}{i:Nat}{x d:α} (h:i < xs.length):(xs.set i x).getD i d=x:=by
 rw [A7,GD h];rfl
theorem Vl {α:Type}{xs:List α}{i j:Nat}{x d:α} (h:i≠j):(xs.set i x).getD j d=xs.getD j d:=by
 rw [A7,Ga h,A7]
theorem Rg {α:Type}{f:PV->Option Es}{e:α->PV}{q:α->Es} (h:∀ x,f (e x)=some (q x)):∀ xs:List α,BH f (xs.map e)=some (xs.map q)
 | []=>rfl
 | x::xs=>by rw [AR,BH,h,Rg h xs];rfl
theorem wo (n:Nat) (xs:List Int):CK (n + 2) (il xs)=some (.list (xs.map .int)):=by
 show (BH (CK (n + 1)) (xs.map PV.int)).map PyData.list=_;rw [Rg (q:=PyData.int) (λ x=>rfl)];rfl
theorem Xf (n:Nat) (t:List (List Int)):CK (n + 3) (tb t)=some (.list (t.map λ r=>.list (r.map .int))):=by
 show (BH (CK (n + 2)) (t.map il)).map PyData.list=_;rw [Rg (λ x=>wo n x)];rfl
theorem V3:∀ xs ys:List Int,OF (xs.map .int) (ys.map .int)=decide (xs=ys)
 | [],[]=>rfl
 | [],y::ys=>rfl
 | x::xs,[]=>rfl
 | x::xs,y::ys=>by
  rw [AR,AR,OF,V3 xs ys];show ((x == y) && _)=_;by_cases h:x=y
  ·subst h;by_cases h2:xs=ys
   ·subst h2;simp
   ·simp [h2]
  ·simp [h]
theorem V4:∀ t u:List (List Int),OF (t.map λ r=>.list (r.map .int)) (u.map λ r=>.list (r.map .int))=decide (t=u)
 | [],[]=>rfl
 | [],y::ys=>rfl
 | x::xs,[]=>rfl
 | x::xs,y::ys=>by
  rw [AR,AR,OF,V4 xs ys,HJ,V3];by_cases h:x=y
  ·subst h;by_cases h2:xs=ys
   ·subst h2;simp
   ·simp [h2]
  ·simp [h]
theorem Sk {neg:Bool}{f h:Fx}{ρ ρ1 ρ2:Af}{t u:List (List Int)}{d e:Nat} (h1:f ρ=.ok (tb t,d,ρ1)) (h2:h ρ1=.ok (tb u,e,ρ2)):Ac (A1 neg) f h ρ=.ok (.bl (neg^^decide (t=u)),om,ρ2):=by
 refine Cr h1 h2 ?_;unfold A1;rw [Xf 17,Xf 17];show some (PV.bl (neg^^HJ _ _),om)=_;rw [HJ,V4]
theorem yO {f h:Fx}{ρ ρ1 ρ2:Af}{xs:List Int}{k x:Int}{d e:Nat} (h1:f ρ=.ok (.scr xs,d,ρ1)) (h2:h ρ1=.ok (.int k,e,ρ2)) (hx:BM xs k=some x):Ac AQ f h ρ=.ok (.int x,om,ρ2):=by
 refine Cr h1 h2 ?_;show (BM xs k).map _=_;rw [hx];rfl
theorem wO (ns:List Int) (k:Nat):b_cell_at [.scr ns,.int (k:Int)]=.ok (.int (ns.getD k 0),om,.non):=by
 let R:Af:=[some (.scr ns,om),some (.int (k:Int),om)]
 have t1:bT (Ac (Dm λ i j=>decide (i < j)) (Aa 1) pb3) R=.ok (decide ((k:Int) < (ns.length:Int)),R):=rfl;refine Bg rfl (ρ':=R) ?_;by_cases h:(k:Int) < (ns.length:Int)
 ·rw [decide_eq_true h] at t1;exact Jp ((CH t1).trans (Ci (yO (xs:=ns) (k:=(k:Int)) (d:=om) rfl rfl (E4 (by omega) (EU (by omega))))))
 ·rw [decide_eq_false h] at t1;refine (Eo t1).trans ((Ci (d:=om) rfl).trans ?_);rw [A7,EL (by omega)];rfl
theorem ym (xs:List Int) (x:Int):PV.lst (xs.map PV.int++[.int x])=il (xs++[x]):=by unfold il;rw [B5];rfl
theorem wD {f h:Fx}{ρ ρ1 ρ2:Af}{xs ys:List PV}{d e:Nat} (h1:f ρ=.ok (.lst xs,d,ρ1)) (h2:h ρ1=.ok (.lst ys,e,ρ2)) (hl:xs.length + ys.length<=Au):Ac B0 f h ρ=.ok (.lst (xs++ys),d1 (xs++ys),ρ2):=by
 refine Cr h1 h2 ?_;show (if _ then _ else _)=_;rw [if_pos hl]
theorem Rl:∀ xs:List Int,ES (xs.map PV.int)=some xs
 | []=>rfl
 | x::xs=>by rw [AR,ES,Rl xs];rfl
def Hb (c:Int) (t:List (List Int)) (j:Nat):Int:=if t.length=0 then c else g t (t.length - 1) j
theorem br {t:List (List Int)}{r:List Int}{i:Nat}:(t++[r]).getD i []=if i < t.length then t.getD i [] else if i=t.length then r else []:=by
 by_cases h:i < t.length
 ·rw [if_pos h,A7,DC h,A7]
 ·rw [if_neg h];by_cases h2:i=t.length
  ·rw [if_pos h2,h2,A7,qZ];rfl
  ·rw [if_neg h2,A7,EL (by rw [Bm,GC];omega)];rfl
theorem QY {r:List Int}{x:Int}{i:Nat}:(r++[x]).getD i 0=if i < r.length then r.getD i 0 else if i=r.length then x else 0:=by
 by_cases h:i < r.length
 ·rw [if_pos h,A7,DC h,A7]
 ·rw [if_neg h];by_cases h2:i=r.length
  ·rw [if_pos h2,h2,A7,qZ];rfl
  ·rw [if_neg h2,A7,EL (by rw [Bm,GC];omega)];rfl
theorem Pile.snoc {k b:Nat}{c:Int}{t:List (List Int)}{r:List Int} (p:Pile k b c t) (hr:r.length=b) (h:∀ y,y < b->0<=r.getD y 0/\r.getD y 0<=Hb c t y) (hn:Nr r):Pile (k + 1) b c (t++[r]):=by
 have l:=p.tab.1;have e:∀ i j,g (t++[r]) i j=if i < k then g t i j else if i=k then r.getD j 0 else 0:=λ i j=>by
  unfold g;rw [br,l];split
  ·rfl
  ·split <;> rfl
 have u:∀ y,y < b->Hb c t y<=c:=λ y hy=>by
  unfold Hb;split
  ·exact EH _
  ·exact p.hi _ _ (by omega) hy
 refine ⟨⟨by rw [Bm,l];rfl,λ x hx=>?_⟩,λ i j hi hj=>?_,λ i j hi hj=>?_,λ i j hi hj=>?_,λ i j hi hj=>?_⟩
 ·rcases jh5.mp hx with z | z
  ·exact p.tab.2 x z
  ·rw [je2.mp z,hr]
 ·rw [e];by_cases z:i < k
  ·rw [if_pos z];exact p.lo i j z hj
  ·rw [if_neg z,if_pos (by omega)];exact (h j hj).1
 ·rw [e];by_cases z:i < k
  ·rw [if_pos z];exact p.hi i j z hj
  ·rw [if_neg z,if_pos (by omega)];exact Ic (h j hj).2 (u j hj)
 ·rw [e,e];by_cases z:i + 1 < k
  ·rw [if_pos z,if_pos (by omega)];exact p.dn i j z hj
  ·rw [if_neg z,if_pos (by omega),if_pos (by omega)]
   have:=(h j hj).2
   unfold Hb at this;rw [if_neg (by omega),l,show k - 1=i by omega] at this;exact this
 ·rw [e,e];by_cases z:i < k
  ·rw [if_pos z,if_pos z];exact p.rt i j z hj
  ·rw [if_neg z,if_neg z,if_pos (by omega),if_pos (by omega)];exact hn j (by rw [hr];exact hj)
theorem Qz:∀ xs:List Int,Cw (xs.map PV.int)=true
 | []=>rfl
 | x::xs=>by rw [AR,Cw,Qz xs];rfl
theorem MH (xs:List Int):d1 (xs.map PV.int)=om:=by unfold d1;rw [Qz];rfl
theorem y0 {f:Fx}{ρ ρ1:Af}{xs:List Int}{d:Nat} (h:f ρ=.ok (il xs,d,ρ1)):Aq Iy (Ad f Ab) ρ=.ok (il xs,om,ρ1):=by
 refine CO (BE h) ?_;show some (PV.lst (xs.map PV.int),d1 (xs.map PV.int))=_;rw [MH];rfl
theorem yX {t:List (List Int)}{i j:Nat}{v:Int} (hi:i < t.length) (hj:j < (t.getD i []).length):Fw (tb t) (i:Int) (j:Int) (.int v)=some (tb (t.set i ((t.getD i []).set j v))):=by
 unfold Fw tb;dsimp only;have e1:CG (t.map il).length (i:Int)=some i:=by
  unfold CG;rw [Ax,if_pos (by omega),if_pos (by omega)];rfl
 have e2:(t.map il)[i]?=some (.lst ((t.getD i []).map PV.int)):=by
  rw [BO,Ht hi];rfl
 have e3:CG ((t.getD i []).map PV.int).length (j:Int)=some j:=by
  unfold CG;rw [Ax,if_pos (by omega),if_pos (by omega)];rfl
 rw [e1];dsimp only;rw [e2];dsimp only;rw [e3];dsimp only;rw [TM];unfold il;rw [TM]
theorem KD {f h k:Fx}{ρ ρ1 ρ2 ρ3:Af}{t:List (List Int)}{a b i j:Nat}{d e e':Nat} (ht:Tab a b t) (h1:f ρ=.ok (tb t,d,ρ1)) (h2:h ρ1=.ok (.int (i:Int),e,ρ2)) (h3:k ρ2=.ok (.int (j:Int),e',ρ3)) (hi:i < a) (hj:j < b):Ac AQ (Ac AQ f h) k ρ=.ok (.int (g t i j),om,ρ3):=
 IA (xs:=t.getD i []) (k:=(j:Int)) (SA (t:=t) (k:=(i:Int)) h1 h2 (E4 (by omega) (Ht (by rw [Di,ht.1];exact hi)))) h3 (E4 (by omega) (EU (by rw [Di,ht.row hi];exact hj)))
theorem LS {asg:PV->Af->Option Af}{body:Fs}:∀ (els:List PV) (I:Nat->Af->Prop) (ρ:Af),I 0 ρ->(∀ j x ρ,els[j]?=some x->I j ρ->∃ ρ1 ρ2,asg x ρ=some ρ1/\body ρ1=.nx ρ2/\I (j + 1) ρ2)->∃ ρ',Bu asg body els ρ=.nx ρ'/\I els.length ρ'
 | [],I,ρ,h,_=>⟨ρ,rfl,h⟩
 | x::xs,I,ρ,h,hb=>by
  obtain ⟨ρ1,ρ2,e1,e2,h2⟩:=hb 0 x ρ rfl h;obtain ⟨ρ',e',h'⟩:=LS xs (λ j=>I (j + 1)) ρ2 h2 λ j y ρ hy hi=>hb (j + 1) y ρ (by simpa using hy) hi;refine ⟨ρ',?_,h'⟩;unfold Bu;rw [e1];dsimp only;rw [e2];exact e'
theorem LW {v:Vw}{fa:Fa}{vs:List Nat}{asg:PV->Af->Option Af}{body:Fs}{ρ ρ1 ρ2:Af}{xs:List (PV×Nat)}{els:List PV} (I:Nat->Af->Prop) (hf:fa ρ=.ok (xs,ρ1)) (he:Iu v (xs.map (·.1))=some els) (ec:Bf (if CP xs=true then om else 0) vs ρ1=ρ2) (h0:I 0 ρ2)
  (hb:∀ j x ρ,els[j]?=some x->I j ρ->∃ ρ1 ρ2,asg x ρ=some ρ1/\body ρ1=.nx ρ2/\I (j + 1) ρ2):∃ ρ',ET v fa vs asg body ρ=.nx ρ'/\I els.length ρ':=by
 obtain ⟨ρ',e,h⟩:=LS els I ρ2 h0 hb;refine ⟨ρ',?_,h⟩;unfold ET E3 CA;rw [hf];dsimp only [Rz.bind];rw [he];dsimp only;rw [ec];exact e
theorem QK {f:Fx}{vs:List Nat}{asg:PV->Af->Option Af}{body:Fs}{ρ ρ1 ρ2:Af}{els:List PV}{d:Nat} (I:Nat->Af->Prop) (hf:f ρ=.ok (.lst els,d,ρ1)) (ec:Bf d vs ρ1=ρ2) (h0:I 0 ρ2)
  (hb:∀ j x ρ,els[j]?=some x->I j ρ->∃ ρ1 ρ2,asg x ρ=some ρ1/\body ρ1=.nx ρ2/\I (j + 1) ρ2):∃ ρ',Dr f vs asg body ρ=.nx ρ'/\I els.length ρ':=by
 obtain ⟨ρ',e,h⟩:=LS els I ρ2 h0 hb;refine ⟨ρ',?_,h⟩;unfold Dr E3 C0;rw [hf];dsimp only [Rz.bind];rw [ec];exact e
theorem S6 {i:Nat}{f:Fx}{vs:List Nat}{ρ ρ1 ρ2:Af}{ys:List PV}{e:Nat}{xs:List PV}{d0 d:Nat}{xs0:List PV} (h0:ρ[i]?=some (some (.lst xs0,d0 + 1))) (h:f ρ=.ok (.lst ys,e,ρ1)) (h1:(Bf e vs ρ1)[i]?=some (some (.lst xs,d))) (hd:d≠0) (hl:xs.length + ys.length<=Au)
  (e2:(Bf e vs ρ1).set i (some (.lst (xs++ys),1))=ρ2):C1 i f vs ρ=.nx ρ2:=by
 unfold C1;rw [h0];dsimp only;rw [h];dsimp only;rw [h1];dsimp only;rw [if_pos ⟨hd,hl⟩,e2]
abbrev C3:=Nat×Nat×Nat
def c3 (x:C3):PV:=.tup [.int (x.1:Int),.int (x.2.1:Int),.int (x.2.2:Int)]
def ct (cs:List C3):PV:=.lst (cs.map c3)
def IL (t:List (List Int)) (i j:Nat):List C3:=(An (g t i j).toNat).map λ k=>(i,j,k)
def B2 (t:List (List Int)) (i b:Nat):List C3:=(An b).flatMap (IL t i)
def BV (t:List (List Int)) (a b:Nat):List C3:=(An a).flatMap λ i=>B2 t i b
theorem ZL (t:List (List Int)) (i j:Nat):B2 t i (j + 1)=B2 t i j++IL t i j:=by
 unfold B2;rw [CD,Lr];simp
theorem Vo (t:List (List Int)) (i b:Nat):BV t (i + 1) b=BV t i b++B2 t i b:=by
 unfold BV;rw [CD,Lr];simp
theorem Q2 (t:List (List Int)) (i j:Nat):(IL t i j).length=(g t i j).toNat:=by unfold IL;rw [Ax,CF]
theorem Oa {a b c:Nat}{t:List (List Int)} (p:Pile a b c t) {i:Nat} (hi:i < a):∀ {j:Nat},j<=b->(B2 t i j).length<=j * c
 | 0,_=>by unfold B2;simp
 | j + 1,h=>by
  rw [ZL,Bm,Q2,Nf]
  have:=Oa p hi (j:=j) (by omega)
  have:=p.hi i j hi (by (clear this hi;omega))
  (clear h hi;omega)
theorem Rj {a b c:Nat}{t:List (List Int)} (p:Pile a b c t):∀ {i:Nat},i<=a->(BV t i b).length<=i * (b * c)
 | 0,_=>by unfold BV;simp
 | i + 1,h=>by
  rw [Vo,Bm,Nf]
  have:=Rj p (i:=i) (by omega)
  have:=Oa p (i:=i) (by omega) (j:=b) (A5 _)
  omega
theorem dr (x y:List C3):PV.lst (x.map c3++y.map c3)=ct (x++y):=by unfold ct;rw [B5]
theorem jN {a b c:Nat} (ha:a<=30) (hb:b<=30) (hc:c<=1000):a * (b * c)<=900000:=BD (IU ha (IU hb hc)) (by decide)
theorem gR {a b c:Nat}{t:List (List Int)} (p:Pile a b c t) (ha:1<=a/\a<=30) (hb:1<=b/\b<=30) (hc:1<=c/\c<=1000):∃ d,d≠0/\f_cubes_of [bx a b c,tb t]=.ok (ct (BV t a b),d,.non):=by
 have z:=sz;have ht:=p.tab;have l1:=ht.1;have habc:=jN ha.2 hb.2 hc.2;let R (cs:List C3) (d:Nat) (s3 s4 s5 s6:QQ.Slot):Af:=[some (bx a b c,0),some (tb t,0),some (ct cs,d),s3,s4,s5,s6]
 have s1:Bv (Ak f_must_be_pile pa0) [some (bx a b c,0),some (tb t,0),none,none,none,none,none]=.nx [some (bx a b c,0),some (tb t,0),none,none,none,none,none]:=DH (AJ (xs:=[(bx a b c,0),(tb t,0)]) rfl (Ir ht (by (clear habc l1 z hc hb;omega)) (by (clear habc l1 z hc ha;omega)) (by (clear habc l1 z hb ha;omega)) ((Gj ht).mpr p)));have s2:Aj false 2 (Aq Bw (Ab)) [] [some (bx a b c,0),some (tb t,0),none,none,none,none,none]=.nx (R [] om none none none none):=by kernel_rfl
 obtain ⟨ρ',e3,d,s3,s4,s5,s6,rfl,hd⟩:=LW (v:=.enm) (fa:=Ad (Aa 1) (Ab)) (vs:=[1]) (asg:=asgT [3,4]) (body:=ET .enm (Ad (Aa 4) (Ab)) [4] (asgT [5,6]) (C1 2 pb6 [3,5])) (ρ:=R [] om none none none none) (xs:=[(tb t,0)]) (els:=DL 0 (t.map il))
  (λ k ρ=>∃ d s3 s4 s5 s6,ρ=R (BV t k b) d s3 s4 s5 s6/\d≠0) rfl rfl rfl ⟨om,none,none,none,none,rfl,by decide⟩ (by
   rintro k x ρ hx ⟨d,s3,s4,s5,s6,rfl,hd⟩;rw [LP,BO] at hx;have hk:k < t.length:=by
    by_cases h:k < t.length
    ·exact h
    ·rw [EL (by (clear hd habc l1 z hc hb ha;omega))] at hx;cases hx
   rw [Ht hk] at hx;simp only [Hh,Option.some.injEq,He] at hx;subst hx;have hk':k < a:=by (clear hd habc z hc hb ha;omega)
   let r:=t.getD k [];have hr:r.length=b:=ht.row hk';let S (cs:List C3) (d:Nat) (s5 s6:QQ.Slot):Af:=R cs d (some (.int (k:Int),om)) (some (il r,0)) s5 s6;obtain ⟨ρ2,e4,d',s5',s6',rfl,hd'⟩:=LW (v:=.enm) (fa:=Ad (Aa 4) (Ab)) (vs:=[4]) (asg:=asgT [5,6]) (body:=C1 2 pb6 [3,5]) (ρ:=S (BV t k b) d s5 s6) (xs:=[(il r,0)]) (els:=DL 0 (r.map PV.int))
    (λ j ρ=>∃ d s5 s6,ρ=S (BV t k b++B2 t k j) d s5 s6/\d≠0) rfl rfl rfl ⟨d,s5,s6,by unfold B2;simp;rfl,hd⟩ (by
     rintro j x ρ hx ⟨d,s5,s6,rfl,hd⟩;rw [LP,BO] at hx;have hj:j < r.length:=by
      by_cases h:j < r.length
      ·exact h
      ·rw [EL (by (clear hd hr hk' hk habc l1 z hc hb ha;omega))] at hx;cases hx
     rw [EU hj] at hx;simp only [Hh,Option.some.injEq,He] at hx;subst hx;have hj':j < b:=by (clear hd hk' hk habc l1 z hc hb ha;omega)
     have hg:r.getD j 0=g t k j:=rfl;have g0:=p.lo k j hk' hj';have g1:=p.hi k j hk' hj';rw [hg];let Q (d:Nat) (cs:List C3):Af:=S cs d (some (.int (j:Int),om)) (some (.int (g t k j),om));have w1:=Hm (n:=7) (en:=Bn) (fa:=Ad (Aa 6) (Ab)) (elt:=Aq BL ph5) (ρ:=Q d (BV t k b++B2 t k j)) (ρ1:=Q d (BV t k b++B2 t k j)) (as:=[(.int (g t k j),om)]) (lo:=0) (hi:=g t k j) (q:=λ m=>c3 (k,j,m)) rfl (Em (by (clear g1 hg hj' hj hd hr hk' hk habc l1 z hc hb ha;omega)) (by (clear g0 hg hj' hj hd hr hk' hk habc l1 z hb ha;omega))) rfl (λ m _=>by
      rw [EI]
      rfl) (by (clear g0 hg hj' hj hd hr hk' hk habc l1 hb ha;omega))
     have w2:(An (g t k j - 0).toNat).map (λ m=>c3 (k,j,m))=(IL t k j).map c3:=by
      unfold IL;rw [BC,qh];rfl
     rw [w2] at w1;have len1:=Rj p (i:=k) (by (clear g1 g0 hg hj' hj hd hr hk' habc z hc hb ha;omega));have len2:=Oa p hk' (j:=j) (by (clear len1 g1 g0 hg hj' hd hk' hk habc l1 z hc hb ha;omega));have len3:=Q2 t k j;have b1:k * (b * c) + (j * c + c)<=a * (b * c):=by
      have q1:(k + 1) * (b * c)<=a * (b * c):=JT _ hk';have q2:(j + 1) * c<=b * c:=JT _ hj';rw [Nf] at q1 q2
      (clear len3 len2 len1 g1 g0 hg hj' hj hd hr hk' hk habc l1 z hc hb ha;omega)
     obtain ⟨d0,rfl⟩:∃ d0,d=d0 + 1:=⟨d - 1,by (clear b1 len3 len2 len1 g1 g0 hg hj' hj hr hk' hk habc l1 z hc hb ha;omega)⟩
     refine ⟨Q (d0 + 1) (BV t k b++B2 t k j),Q 1 (BV t k b++B2 t k (j + 1)),rfl,?_,1,_,_,rfl,by decide⟩;refine (S6 (i:=2) (d0:=d0) (d:=d0 + 1) (xs:=(BV t k b++B2 t k j).map c3) (xs0:=(BV t k b++B2 t k j).map c3) rfl w1 rfl hd (by rw [Ax,Ax,Bm];(clear hd g0 hg hj' hj hr hk' hk l1 hc hb ha;omega)) rfl).trans ?_;rw [ZL,<- Ig,dr]
     rfl)
   rw [LQ,Ax,hr] at e4;refine ⟨S (BV t k b) d s5 s6,_,rfl,e4,d',some (.int (k:Int),om),some (il r,0),s5',s6',?_,hd'⟩;rw [Vo])
 rw [LQ,Ax,l1] at e3;exact ⟨d,hd,Bg rfl ((A3 s1).trans ((A3 s2).trans ((A3 e3).trans rfl)))⟩
theorem O4 {xs:List Int} (h1:xs.length<=1000) (h2:∀ x∈xs,-1000000<=x/\x<=1000000):FT xs=true:=by
 unfold FT;rw [AU,decide_eq_true_iff,jb3];refine ⟨by omega,λ x hx=>?_⟩
 have:=h2 x hx
 rw [AU,decide_eq_true_iff,decide_eq_true_iff];omega
theorem MO {fa:Fa}{ρ ρ1:Af}{xs:List Int}{d:Nat} (h:fa ρ=.ok ([(il xs,d)],ρ1)) (hs:FT xs=true):Aq FO fa ρ=.ok (.int xs.sum,om,ρ1):=by
 refine CO h ?_;show (match ES (xs.map PV.int) with | some ns=>if FT ns=true then some (PV.int ns.sum,om) else none | none=>none)=_;rw [Rl];dsimp only;rw [if_pos hs]
theorem v8 {a b:Nat}{t:List (List Int)} (ht:Tab a b t) {i:Nat} (hi:i < a):t.getD i []=(An b).map (g t i):=
 NZ (by rw [ht.row hi,Ax,CF]) λ j hj=>by
  rw [LO (by rw [<- ht.row hi];exact hj)];rfl
theorem ZU {f:Nat->Int}:∀ {n:Nat},(∀ i,i < n->0<=f i)->((((An n).map λ i=>(f i).toNat).sum:Nat):Int)=((An n).map f).sum
 | 0,_=>rfl
 | n + 1,h=>by
  rw [CD,B5,B5,Ff,Ff,PZ,ZU λ i hi=>h i (by omega)]
  have:=h n (by omega)
  simp;omega
theorem Za {a b c:Nat}{t:List (List Int)} (p:Pile a b c t) {i:Nat} (hi:i < a):((B2 t i b).length:Int)=(t.getD i []).sum:=by
 rw [v8 p.tab hi,<- ZU λ j hj=>p.lo i j hi hj];unfold B2;rw [qI];have e:(λ j=>(IL t i j).length)=λ j=>(g t i j).toNat:=funext λ j=>Q2 t i j;rw [e]
theorem Oh {a b c:Nat}{t:List (List Int)} (p:Pile a b c t):((BV t a b).length:Int)=(t.map IT).sum:=by
 have e:t.map IT=(An a).map λ i=>(t.getD i []).sum:=by
  refine NZ (by rw [Ax,p.tab.1,Ax,CF]) λ i hi=>?_;rw [Ax,p.tab.1] at hi;rw [LO hi,A7,BO,Ht (by rw [p.tab.1];exact hi)];rfl
 rw [e];unfold BV;rw [qI]
 have:∀ n,n<=a->((((An n).map λ i=>(B2 t i b).length).sum:Nat):Int)=((An n).map λ i=>(t.getD i []).sum).sum:=λ n=>by
  induction n with
  | zero=>intro _;rfl
  | succ n ih=>
   intro hn;rw [CD,B5,B5,Ff,Ff,PZ,ih (by omega)]
   have:=Za p (i:=n) (by omega)
   simp only [AR,Hf,DP,Nc];omega
 exact this a (A5 _)
theorem fO {a b c:Nat}{t:List (List Int)} (p:Pile a b c t) {i:Nat} (hi:i < a):0<=(t.getD i []).sum/\(t.getD i []).sum<=b * c:=by
 rw [<- Za p hi]
 have:=Oa p hi (j:=b) (A5 _)
 exact ⟨by (clear this hi;omega),by rw [<- JN];omega⟩
theorem Tp {a b c:Nat}{t:List (List Int)} (p:Pile a b c t) (ha:1<=a/\a<=30) (hb:1<=b/\b<=30) (hc:1<=c/\c<=1000):f_how_many_cubes [bx a b c,tb t]=.ok (.int (BV t a b).length,om,.non):=by
 have z:=sz;have ht:=p.tab;have l1:=ht.1;let R:Af:=[some (bx a b c,0),some (tb t,0)]
 have s1:Bv (Ak f_must_be_pile pa0) R=.nx R:=DH (AJ (xs:=[(bx a b c,0),(tb t,0)]) rfl (Ir ht (by (clear l1 z hc hb;omega)) (by (clear l1 z hc ha;omega)) (by (clear l1 z hb ha;omega)) ((Gj ht).mpr p)));have bc:b * c<=30000:=BD (IU hb.2 hc.2) (by decide);have bc':(b:Int) * (c:Int)<=30000:=by rw [<- JN];(clear l1 z hc hb ha;omega)
 have e1:∀ r∈t,(Aq FO (Ad (Aa 2) (Ab))) (R++[some (il r,0)])=.ok (.int r.sum,om,R++[some (il r,0)]):=λ r hr=>by
  obtain ⟨i,hi,rfl⟩:=Kr hr;have hi':i < a:=by (clear bc' bc z hc hb ha;omega)
  refine MO (d:=0) (xs:=t.getD i []) rfl (O4 (by rw [ht.row hi'];(clear hi' hi bc' bc l1 z hc ha;omega)) λ x hx=>?_);obtain ⟨j,hj,rfl⟩:=LX hx;rw [ht.row hi'] at hj;have h1:=p.lo i j hi' hj;have h2:=p.hi i j hi' hj;exact ⟨by show -1000000<=g t i j;(clear h2 hj hi' hi bc' bc l1 z hc hb ha;omega),by show g t i j<=1000000;(clear h1 hj hi' hi bc' bc l1 z hb ha;omega)⟩
 have e2:=FJ (n:=2) (f:=Aa 1) (ρ:=R) (enc:=il) (q:=λ r=>.int r.sum) (d:=0) t rfl rfl e1 (by (clear bc' bc hc hb;omega));have e3:PV.lst (t.map λ r=>.int r.sum)=il (t.map IT):=by unfold il;rw [BC];rfl
 rw [e3] at e2;have e4:=MO (BE e2) (O4 (by rw [Ax];(clear bc' bc z hc hb;omega)) λ x hx=>by
  obtain ⟨r,hr,rfl⟩:=jc4.mp hx;obtain ⟨i,hi,rfl⟩:=Kr hr
  have:=fO p (i:=i) (by (clear bc' bc z hc hb ha;omega))
  (clear hi bc' l1 z hc hb ha;omega))
 refine Bg rfl (ρ':=R) ((A3 s1).trans (Ci (e4.trans ?_)));rw [Oh p]
def BX (t:List (List Int)) (b:Nat):List (List Int):=(An b).map λ j=>Bs t j
def AA (t:List (List Int)) (b c:Nat):List (List Int):=(An b).map λ j=>(An c).map λ (k:Nat)=>cnt (Bs t j) (k:Int)
def B6 (t:List (List Int)) (c:Int):List (List Int):=t.reverse.map λ r=>r.reverse.map λ h=>c - h
theorem P9 {a b c:Nat}{t:List (List Int)} (p:Pile a b c t) (ha:1<=a/\a<=100) (hb:1<=b/\b<=100) (hc:1<=c):f_mirrored_pile [bx a b c,tb t]=.ok (tb (BX t b),om,.non):=by
 have z:=sz;have ht:=p.tab;let R:Af:=[some (bx a b c,0),some (tb t,0)]
 have s1:Bv (Ak f_must_be_pile pa0) R=.nx R:=DH (AJ (xs:=[(bx a b c,0),(tb t,0)]) rfl (Ir ht ha hb (by omega) ((Gj ht).mpr p)));have e1:=Hm (n:=2) (en:=Bn) (fa:=Ad pb5 (Ab)) (elt:=Ak f_column_of pa4) (ρ:=R) (ρ1:=R) (as:=[(.int (b:Int),om)]) (lo:=0) (hi:=(b:Int)) (q:=λ j=>il (Bs t j)) rfl (Em (by omega) (by omega)) rfl (λ k hk=>by
  rw [EI];exact AJ (xs:=[(tb t,0),(.int (k:Int),om)]) rfl (Og t k (by rw [ht.1];omega) λ r hr=>by rw [ht.2 r hr];omega)) (by omega)
 rw [show ((b:Int) - 0).toNat=b by omega] at e1;have e2:PV.lst ((An b).map λ j=>il (Bs t j))=tb (BX t b):=by unfold tb BX;rw [BC];rfl
 rw [e2] at e1;exact Bg rfl ((A3 s1).trans (Ci e1))
theorem MM {a b c:Nat}{t:List (List Int)} (p:Pile a b c t) (ha:1<=a/\a<=100) (hb:1<=b/\b<=100) (hc:1<=c/\c<=100):f_rolled_pile [bx a b c,tb t]=.ok (tb (AA t b c),om,.non):=by
 have z:=sz;have ht:=p.tab;have l1:=ht.1;let R (q:List (List Int)) (s3 s4:QQ.Slot):Af:=[some (bx a b c,0),some (tb t,0),some (tb q,om),s3,s4]
 have s1:Bv (Ak f_must_be_pile pa0) [some (bx a b c,0),some (tb t,0),none,none,none]=.nx [some (bx a b c,0),some (tb t,0),none,none,none]:=DH (AJ (xs:=[(bx a b c,0),(tb t,0)]) rfl (Ir ht ha hb (by omega) ((Gj ht).mpr p)));have s2:Aj false 2 (Aq Bw (Ab)) [] [some (bx a b c,0),some (tb t,0),none,none,none]=.nx (R [] none none):=by kernel_rfl
 have e4:∀ (q:List (List Int)) (j:Nat) (s3:QQ.Slot),CN Bn (Ad pb4 (Ab)) 1 (asgN 5) AO (Ak f_how_many_above pa9) (R q s3 (some (il (Bs t j),om)))=.ok (il ((An c).map λ (k:Nat)=>cnt (Bs t j) (k:Int)),om,R q s3 (some (il (Bs t j),om))):=λ q j s3=>by
  rw [Hm (n:=5) (en:=Bn) (fa:=Ad pb4 (Ab)) (ρ:=R q s3 (some (il (Bs t j),om))) (ρ1:=R q s3 (some (il (Bs t j),om))) (q:=λ (k:Nat)=>.int (cnt (Bs t j) (k:Int))) (as:=[(.int (c:Int),om)]) (by kernel_rfl) (Em (by omega) (by omega)) rfl (λ k hk=>by
   rw [EI];exact AJ (xs:=[(il (Bs t j),0),(.int (k:Int),om)]) rfl (QG _ _ (by rw [GR];omega))) (by omega),show ((c:Int) - 0).toNat=c by omega]
  unfold il;rw [BC];rfl
 obtain ⟨ρ',e6,s3,s4,rfl⟩:=Kv (i:=3) (body:=Ag (Aj false 4 (Ak f_column_of pb7) [1,3]) (AW 2 (CN Bn (Ad pb4 (Ab)) 1 (asgN 5) AO (Ak f_how_many_above pa9)) [4])) (en:=Bn) (fa:=Ad pb5 (Ab)) (ρ:=R [] none none) (ρ1:=R [] none none) (as:=[(.int (b:Int),om)]) (lo:=0) (hi:=(b:Int))
  (λ k ρ=>∃ s3 s4,ρ=R (AA t k c) s3 s4) (by kernel_rfl) (Em (by omega) (by omega)) ⟨none,none,rfl⟩ (by
   rintro j ρ hj ⟨s3,s4,rfl⟩;have u1:Aj false 4 (Ak f_column_of pb7) [1,3] (R (AA t j c) (some (.int (0 + (j:Int)),om)) s4)=.nx (R (AA t j c) (some (.int (0 + (j:Int)),om)) (some (il (Bs t j),om))):=by
    rw [EI];exact setF (AJ (xs:=[(tb t,0),(.int (j:Int),om)]) rfl (Og t j (by omega) λ r hr=>by rw [ht.2 r hr];omega)) (show 4 < 5 by decide) rfl
   refine ⟨show 3 < 5 by decide,_,(A3 u1).trans (GK (i:=2) (d0:=999) (d:=om) (xs:=(AA t j c).map il) (xs0:=(AA t j c).map il) rfl (e4 _ j _) rfl (by decide) (by unfold AA;rw [Ax,Ax,CF];omega) rfl),some (.int (0 + (j:Int)),om),some (il (Bs t j),om),?_⟩
   have:PV.lst ((AA t j c).map il++[il ((An c).map λ (k:Nat)=>cnt (Bs t j) (k:Int))])=tb (AA t (j + 1) c):=by
    rw [O0];unfold AA;rw [CD,B5];rfl
   rw [this]
   rfl)
 rw [show ((b:Int) - 0).toNat=b by omega] at e6;exact Bg rfl ((A3 s1).trans ((A3 s2).trans ((A3 e6).trans rfl)))
theorem gf {α:Type}{n:Nat}{v:Vw}{fa:Fa}{elt:Fx}{enc q:α->PV}{ρ ρ1:Af}{as:List (PV×Nat)} (xs:List α) (hf:fa ρ=.ok (as,ρ1)) (hv:Iu v (as.map (·.1))=some (xs.map enc)) (hn:ρ1.length=n) (he:∀ x∈xs,elt (ρ1++[some (enc x,dv (enc x))])=.ok (q x,om,ρ1++[some (enc x,dv (enc x))])) (hl:xs.length<=Au):
  EX v fa 1 (asgN n) AO elt ρ=.ok (.lst (xs.map q),om,ρ1):=by
 unfold EX Ej CA;rw [hf];dsimp only [Rz.bind];rw [hv];dsimp only;rw [Io (p:=λ _=>true) (q:=q) (e:=λ _=>om) xs ρ1 [] hn (λ _ _=>rfl) (λ x hx _=>he x hx) (by simpa using hl),jg2.mpr (λ _ _=>rfl)];show DN (xs.map λ x=>(q x,om)) ρ1=_;unfold DN;rw [Jg,BC];rfl
theorem K3 {a b c:Nat}{t:List (List Int)} (p:Pile a b c t) (ha:1<=a/\a<=100) (hb:1<=b/\b<=100) (hc:1<=c):f_rest_of [bx a b c,tb t]=.ok (tb (B6 t c),om,.non):=by
 have z:=sz;have ht:=p.tab;have l1:=ht.1;let R (q:List (List Int)) (s3:QQ.Slot):Af:=[some (bx a b c,0),some (tb t,0),some (tb q,om),s3]
 have s1:Bv (Ak f_must_be_pile pa0) [some (bx a b c,0),some (tb t,0),none,none]=.nx [some (bx a b c,0),some (tb t,0),none,none]:=DH (AJ (xs:=[(bx a b c,0),(tb t,0)]) rfl (Ir ht ha hb (by (clear l1 z hb ha;omega)) ((Gj ht).mpr p)));have s2:Aj false 2 (Aq Bw (Ab)) [] [some (bx a b c,0),some (tb t,0),none,none]=.nx (R [] none):=by kernel_rfl
 let rs (n:Nat):List (List Int):=(t.reverse.take n).map λ r=>r.reverse.map λ h=>(c:Int) - h;obtain ⟨ρ',e6,s3,rfl⟩:=LW (v:=.rev) (fa:=Ad (Aa 1) (Ab)) (vs:=[1]) (asg:=asgN 3) (body:=AW 2 (EX .rev (Ad (Aa 3) (Ab)) 1 (asgN 4) AO (Ac Dl pb4 (Aa 4))) [3,0,3]) (ρ:=R [] none) (xs:=[(tb t,0)]) (els:=t.reverse.map il)
  (λ n ρ=>∃ s3,ρ=R (rs n) s3) rfl (by show some (t.map il).reverse=_;rw [JR]) rfl ⟨none,by show R [] none=R ((t.reverse.take 0).map _) none;rw [Lm];rfl⟩ (by
   rintro n y ρ hy ⟨s3,rfl⟩;have hn:n < t.reverse.length:=by
    have:=(jb0.mp hy).1
    rw [Ax] at this;exact this
   rw [BO,Bb hn] at hy;cases hy;let r:=t.reverse[n];have hr:r∈t:=jj8.mp (CV hn);have e1:=gf (n:=4) (v:=.rev) (fa:=Ad (Aa 3) (Ab)) (elt:=Ac Dl pb4 (Aa 4)) (enc:=PV.int) (q:=λ h=>.int ((c:Int) - h)) (ρ:=R (rs n) (some (il r,0))) (ρ1:=R (rs n) (some (il r,0))) (as:=[(il r,0)]) r.reverse rfl (by show some (r.map PV.int).reverse=_;rw [JR]) rfl (λ h _=>Hq (i:=(c:Int)) (j:=h) rfl rfl) (by rw [EK,ht.2 r hr];(clear l1 hc ha;omega));have e2:PV.lst (r.reverse.map λ h=>.int ((c:Int) - h))=il (r.reverse.map λ h=>(c:Int) - h):=by unfold il;rw [BC];rfl
   rw [e2] at e1;refine ⟨R (rs n) (some (il r,0)),R (rs (n + 1)) (some (il r,0)),rfl,?_,_,rfl⟩;have hlen:((rs n).map il).length < Au:=by
    have e:((rs n).map il).length=(t.reverse.take n).length:=by rw [Ax,Ax]
    rw [e,GA,EK]
    (clear e hc hb;omega)
   refine (GK (i:=2) (d0:=999) (d:=om) (xs:=(rs n).map il) (xs0:=(rs n).map il) rfl e1 rfl (by decide) hlen rfl).trans ?_
   have:PV.lst ((rs n).map il++[il (r.reverse.map λ h=>(c:Int) - h)])=tb (rs (n + 1)):=by
    rw [O0];show tb ((t.reverse.take n).map _++_)=tb ((t.reverse.take (n + 1)).map _);rw [Nh,Bb hn,B5];rfl
   rw [this]
   rfl)
 rw [Ax,EK] at e6
 have:rs t.length=B6 t c:=by
  show (t.reverse.take t.length).map _=_;rw [Nm (by rw [EK];exact A5 _)];rfl
 rw [this] at e6;exact Bg rfl ((A3 s1).trans ((A3 s2).trans ((A3 e6).trans rfl)))
theorem LY {a b:Nat}{t:List (List Int)} (ht:Tab a b t):Tab b a (BX t b):=by
 refine ⟨by unfold BX;rw [Ax,CF],λ r hr=>?_⟩;obtain ⟨j,_,rfl⟩:=jc4.mp hr;rw [GR,ht.1]
theorem Gi {a b:Nat}{t:List (List Int)} (ht:Tab a b t) {i j:Nat} (hi:i < a) (hj:j < b):g (BX t b) j i=g t i j:=by
 unfold g BX;rw [Ou hj,GQ (by rw [ht.1];exact hi)];rfl
theorem LZ {a b:Nat}{c:Int}{t:List (List Int)} (p:Pile a b c t):Pile b a c (BX t b):=by
 refine ⟨LY p.tab,λ j i hj hi=>?_,λ j i hj hi=>?_,λ j i hj hi=>?_,λ j i hj hi=>?_⟩
 ·rw [Gi p.tab hi hj];exact p.lo i j hi hj
 ·rw [Gi p.tab hi hj];exact p.hi i j hi hj
 ·rw [Gi p.tab hi hj,Gi p.tab hi (by omega)];exact p.rt i j hi hj
 ·rw [Gi p.tab hi hj,Gi p.tab (by omega) hj];exact p.dn i j hi hj
theorem K4 (t:List (List Int)) (b c:Nat):AA t b c=FA b c λ j k=>cnt (Bs t j) k:=rfl
theorem Pile.nrc {a b:Nat}{c:Int}{t:List (List Int)} (p:Pile a b c t) {j:Nat} (hj:j < b):Nr (Bs t j):=λ k hk=>by
 rw [GR,p.tab.1] at hk;rw [GQ (by rw [p.tab.1];exact hk),GQ (by rw [p.tab.1];omega)];exact p.dn k j hk hj
theorem SS {a b c:Nat}{t:List (List Int)} (p:Pile a b c t) {i j k:Nat} (hi:i < a) (hj:j < b) (hk:k < c):(i:Int) < g (AA t b c) j k↔(k:Int) < g t i j:=by
 rw [K4,E5 hj hk,<- GQ (t:=t) (by rw [p.tab.1];exact hi)];exact Pw (p.nrc hj) (by rw [GR,p.tab.1];exact hi)
theorem Hn {a b c:Nat}{t:List (List Int)} (p:Pile a b c t):Pile b c a (AA t b c):=by
 have e:=LZ p;have s:=NQ e;have q:AA t b c=BX (Bh (BX t b) c) b:=by
  refine Gh (by rw [K4];exact LG) (LY s.tab) λ j k hj hk=>?_;rw [K4,E5 hj hk,Gi s.tab hk hj,GO e.tab hk hj];unfold BX;rw [Ou hj]
 rw [q];exact LZ s
theorem ZC {j k:Int}:∀ {xs ys:List Int},xs.length=ys.length->(∀ i,i < xs.length->(j < xs.getD i 0↔k < ys.getD i 0))->cnt xs j=cnt ys k
 | [],[],_,_=>rfl
 | [],y::ys,h,_=>by simp at h
 | x::xs,[],h,_=>by simp at h
 | x::xs,y::ys,h,e=>by
  rw [cnt_cons,cnt_cons,ZC (by simpa using h) λ i hi=>e (i + 1) (by rw [AY];omega)]
  have:=e 0 (by simp)
  have e1:(x::xs).getD 0 0=x:=rfl;have e2:(y::ys).getD 0 0=y:=rfl;rw [e1,e2] at this;by_cases hx:j < x
  ·rw [if_pos hx,if_pos (this.mp hx)]
  ·rw [if_neg hx,if_neg (λ z=>hx (this.mpr z))]
theorem T3 {a b c:Nat}{t:List (List Int)} (p:Pile a b c t):AA (AA t b c) c a=Bh t c:=by
 have r:=Hn p;refine Gh (by rw [K4];exact LG) (LB p.tab) λ k i hk hi=>?_;rw [K4 (AA t b c),E5 hk hi,GO p.tab hk hi];refine ZC (by rw [GR,r.tab.1,p.tab.row hi]) λ j hj=>?_;rw [GR,r.tab.1] at hj;rw [GQ (by rw [r.tab.1];exact hj),SS p hi hj hk];exact Iff.rfl
theorem Yd {α:Type}{xs:List α}{d:α}{i:Nat} (h:i < xs.length):xs.reverse.getD i d=xs.getD (xs.length - 1 - i) d:=by
 rw [A7,Qj h,A7]
theorem Hu {a b:Nat}{c:Int}{t:List (List Int)} (ht:Tab a b t):Tab a b (B6 t c):=by
 refine ⟨by unfold B6;rw [Ax,EK,ht.1],λ r hr=>?_⟩;obtain ⟨q,hq,rfl⟩:=jc4.mp hr;rw [Ax,EK,ht.2 q (jj8.mp hq)]
theorem gH {f:Int->Int}{xs:List Int}{j:Nat} (h:j < xs.length):(xs.map f).getD j 0=f (xs.getD j 0):=by
 rw [A7,BO,EU h];rfl
theorem fh {f:List Int->List Int}{t:List (List Int)}{j:Nat} (h:j < t.length):(t.map f).getD j []=f (t.getD j []):=by
 rw [A7,BO,Ht h];rfl
theorem En {a b:Nat}{c:Int}{t:List (List Int)} (ht:Tab a b t) {i j:Nat} (hi:i < a) (hj:j < b):g (B6 t c) i j=c - g t (a - 1 - i) (b - 1 - j):=by
 unfold g B6;have hi2:a - 1 - i < a:=by omega
 rw [fh (by rw [EK,ht.1];exact hi),Yd (by rw [ht.1];exact hi),ht.1,gH (by rw [EK,ht.row hi2];exact hj),Yd (by rw [ht.row hi2];exact hj),ht.row hi2]
theorem EV {a b:Nat}{c:Int}{t:List (List Int)} (p:Pile a b c t):Pile a b c (B6 t c):=by
 refine ⟨Hu p.tab,λ i j hi hj=>?_,λ i j hi hj=>?_,λ i j hi hj=>?_,λ i j hi hj=>?_⟩
 ·rw [En p.tab hi hj];have:=p.hi (a - 1 - i) (b - 1 - j) (by omega) (by omega);(clear hj hi;omega)
 ·rw [En p.tab hi hj];have:=p.lo (a - 1 - i) (b - 1 - j) (by omega) (by omega);(clear hj hi;omega)
 ·rw [En p.tab hi hj,En p.tab (by omega) hj]
  have:=p.dn (a - 1 - (i + 1)) (b - 1 - j) (by omega) (by omega)
  rw [show a - 1 - (i + 1) + 1=a - 1 - i by (clear this hj;omega)] at this
  (clear hj hi;omega)
 ·rw [En p.tab hi hj,En p.tab hi (by omega)]
  have:=p.rt (a - 1 - i) (b - 1 - (j + 1)) (by omega) (by omega)
  rw [show b - 1 - (j + 1) + 1=b - 1 - j by (clear this hi;omega)] at this
  (clear hj hi;omega)
theorem MN (x:Int):∀ c:Nat,0<=x->x<=c->((An c).map λ (k:Nat)=>if (k:Int) < x then (1:Int) else 0).sum=x
 | 0,h0,h1=>by show (0:Int)=x;omega
 | c + 1,h0,h1=>by
  rw [CD,B5,Ff];show _ + ((if (c:Int) < x then (1:Int) else 0) + 0)=x;by_cases h:(c:Int) < x
  ·rw [if_pos h];have e:(An c).map (λ (k:Nat)=>if (k:Int) < x then (1:Int) else 0)=(An c).map (λ (k:Nat)=>if (k:Int) < (c:Int) then (1:Int) else 0):=GB λ k hk=>by
    have:=jc2.mp hk
    rw [if_pos (by (clear h1 h0;omega)),if_pos (by (clear h h1 h0;omega))]
   rw [e,MN c c (by (clear h h1 h0;omega)) (by (clear h h1 h0;omega))];omega
  ·rw [if_neg h,MN x c h0 (by (clear h1 h0;omega))]
   (clear h h1 h0;omega)
theorem LI {f h:Nat->Int}:∀ n:Nat,((An n).map λ k=>f k + h k).sum=((An n).map f).sum + ((An n).map h).sum
 | 0=>rfl
 | n + 1=>by
  rw [CD,B5,B5,B5,Ff,Ff,Ff,LI n];simp only [AR,Hf,DP,Nc];omega
theorem O7:∀ n:Nat,((An n).map λ _=>(0:Int)).sum=0
 | 0=>rfl
 | n + 1=>by
  rw [CD,B5,Ff,O7 n];rfl
theorem X3 (c:Nat):∀ r:List Int,(∀ x∈r,0<=x/\x<=c)->((An c).map λ (k:Nat)=>cnt r (k:Int)).sum=r.sum
 | [],_=>O7 c
 | x::r,h=>by
  have e:(λ (k:Nat)=>cnt (x::r) (k:Int))=λ (k:Nat)=>cnt r (k:Int) + if (k:Int) < x then (1:Int) else 0:=funext λ k=>cnt_cons
  rw [e,LI,X3 c r λ y hy=>h y (AE _ hy),MN x c (h x AD).1 (h x AD).2,DP];omega
theorem VJ (c:Nat):∀ t:List (List Int),(∀ r∈t,∀ x∈r,0<=x/\x<=c)->((Bh t c).map IT).sum=(t.map IT).sum
 | [],_=>by
  unfold Bh;rw [BC];exact O7 c
 | r::t,h=>by
  have ih:=VJ c t λ q hq=>h q (AE _ hq);unfold Bh at ih ⊢;rw [BC] at ih ⊢;have e:(IT ∘ λ (k:Nat)=>Gk (r::t) (k:Int))=λ (k:Nat)=>cnt r (k:Int) + (IT ∘ λ (k:Nat)=>Gk t (k:Int)) k:=funext λ k=>by
   show (Gk (r::t) (k:Int)).sum=_;unfold Gk;rw [AR,DP];rfl
  rw [e,LI,ih,X3 c r (h r AD),AR,DP]
def Hd (b:Bool):Nat:=if b then 114 else 100
def AS (w:List Bool):Str:=⟨(w.map Hd).toArray⟩
def wd (w:List Bool):PV:=.str (AS w)
theorem Ze (u v:List Bool):AS u++AS v=AS (u++v):=by
 show (⟨(u.map Hd).toArray++(v.map Hd).toArray⟩:Str)=_;unfold AS;rw [B5];simp
theorem K0 (w:List Bool):(AS w).length=w.length:=by
 show (w.map Hd).toArray.size=_;simp
theorem vD (n:Nat):CB "r" n=AS (A6 n true):=by
 unfold CB AS;have e:("r" : Str).cps.toList=[114]:=rfl;rw [e,Ud]
 have:(A6 n [114]).flatten=A6 n (Hd true):=by
  induction n with
  | zero=>rfl
  | succ n ih=>rw [Fh,IZ,ih];rfl
 rw [this]
theorem wH (w:List Bool):ME (AS w)=true:=by
 unfold ME AS;rw [<- Array.all_toList];rw [jb3];intro x hx;obtain ⟨b,_,rfl⟩:=jc4.mp hx;cases b <;> decide
theorem ue (w:List Bool):QQ.signs (AS w)=w.map λ b=>wd [b]:=by
 unfold QQ.signs AS;show ((w.map Hd).map _)=_;rw [BC];rfl
theorem ja (b:Bool) (w:List Bool):Eh (Hd b) (AS w).cps.toList=w.count b:=by
 unfold Eh AS;show (w.map Hd).count (Hd b)=_;induction w with
 | nil=>rfl
 | cons x r ih=>
  rw [AR,EJ,EJ,ih];cases x <;> cases b <;> rfl
def BW (b:Nat):Nat->List Nat->List Bool
 | k,[]=>A6 (b - k) true
 | k,n::r=>A6 (n - k) true++false::BW b n r
def pos:Nat->List Bool->List Nat
 | _,[]=>[]
 | k,true::w=>pos (k + 1) w
 | k,false::w=>k::pos k w
theorem MK:∀ (w:List Bool) (k:Nat),∀ n∈pos k w,k<=n
 | [],_,n,h=>by cases h
 | true::w,k,n,h=>BD (MZ k) (MK w (k + 1) n h)
 | false::w,k,n,h=>by
  rcases jb8.mp h with rfl | h
  ·exact A5 _
  ·exact MK w k n h
def Rise (b:Nat):Nat->List Nat->Prop
 | k,[]=>k<=b
 | k,n::r=>k<=n/\Rise b n r
theorem Rise.le {b:Nat}:∀ {ns:List Nat}{k:Nat},Rise b k ns->k<=b
 | [],_,h=>h
 | _::_,_,h=>BD h.1 h.2.le
theorem Tw (v:List Bool):∀ (m k:Nat),pos k (A6 m true++v)=pos (k + m) v
 | 0,k=>rfl
 | m + 1,k=>by
  rw [Fh];show pos (k + 1) (A6 m true++v)=_;rw [Tw v m (k + 1),show k + 1 + m=k + (m + 1) by omega]
theorem XW {b:Nat}:∀ {ns:List Nat}{k:Nat},Rise b k ns->pos k (BW b k ns)=ns
 | [],k,h=>by
  unfold BW
  have:=Tw [] (b - k) k
  rw [G9] at this;rw [this];rfl
 | n::r,k,h=>by
  unfold BW;rw [Tw,show k + (n - k)=n by have:=h.1;omega];show n::pos n (BW b n r)=_;rw [XW h.2]
theorem X5 {b:Nat}:∀ {ns:List Nat}{k:Nat},Rise b k ns->(BW b k ns).count true=b - k
 | [],k,h=>by unfold BW;rw [Qi];simp
 | n::r,k,h=>by
  unfold BW;rw [Lq,Qi,EJ,X5 h.2];have h1:=h.1;have h2:=h.2.le;simp;omega
theorem X4 {b:Nat}:∀ (ns:List Nat) (k:Nat),(BW b k ns).count false=ns.length
 | [],k=>by unfold BW;rw [Qi];simp
 | n::r,k=>by
  unfold BW;rw [Lq,Qi,EJ,X4 r n];simp
theorem Pj:∀ w:List Bool,w.length=w.count true + w.count false
 | []=>rfl
 | x::r=>by
  rw [AY,EJ,EJ,Pj r];cases x <;> simp <;> omega
theorem Oy:∀ (u v:List Bool) (k:Nat),pos k (u++v)=pos k u++pos (k + u.count true) v
 | [],v,k=>by simp [pos]
 | true::u,v,k=>by
  show pos (k + 1) (u++v)=pos (k + 1) u++_;rw [Oy u v (k + 1),EJ,if_pos (by rfl),show k + 1 + u.count true=k + (u.count true + 1) by omega]
 | false::u,v,k=>by
  show k::pos k (u++v)=k::pos k u++_;rw [Oy u v k,EJ,if_neg (by decide)];rfl
def Fz (s:List Int):List Nat:=s.reverse.map PL
def Cb (b:Nat) (s:List Int):List Bool:=BW b 0 (Fz s)
def StR (b:Nat) (s:List Int):Prop:=Nr s/\∀ x∈s,0<=x/\x<=b
theorem Ye {b:Nat}:∀ {l:List Int}{k:Nat},l.Pairwise (·<=·)->(∀ x∈l,(k:Int)<=x/\x<=b)->k<=b->Rise b k (l.map PL)
 | [],k,_,_,hb=>hb
 | x::r,k,hp,hx,_=>by
  have h0:=hx x AD;rw [jf6] at hp;refine ⟨by omega,Ye hp.2 (λ y hy=>⟨?_,(hx y (AE _ hy)).2⟩) (by omega)⟩
  have:=hp.1 y hy
  omega
theorem Nr.pw {s:List Int} (h:Nr s):s.Pairwise (·≥ ·):=by
 rw [jk9];intro i j hi hj hij
 have:=h.le (Lk hij) hj
 rw [A7,A7,Bb hi,Bb hj] at this;exact this
theorem StR.rise {b:Nat}{s:List Int} (h:StR b s):Rise b 0 (Fz s):=by
 unfold Fz;refine Ye ?_ (λ x hx=>?_) (FC _)
 ·rw [List.pairwise_reverse];exact h.1.pw
 ·have:=h.2 x (jj8.mp hx)
  exact ⟨by omega,this.2⟩
theorem gO (s:List Int):(Fz s).length=s.length:=by unfold Fz;rw [Ax,EK]
theorem Xk {b:Nat}{s:List Int} (h:StR b s):(Cb b s).count true=b:=by
 unfold Cb;rw [X5 h.rise];omega
theorem Xj {b:Nat} (s:List Int):(Cb b s).count false=s.length:=by
 unfold Cb;rw [X4,gO]
theorem d8 {b:Nat}{s:List Int} (h:StR b s):(Cb b s).length=s.length + b:=by
 rw [Pj,Xk h,Xj];omega
theorem YJ {f:Fx}{vs:List Nat}{asg:PV->Af->Option Af}{body:Fs}{ρ:Af}{w:List Bool} (I:Nat->Af->Prop) (hf:f ρ=.ok (wd w,om,ρ)) (h0:I 0 ρ)
  (hb:∀ j x ρ,w[j]?=some x->I j ρ->∃ ρ1 ρ2,asg (wd [x]) ρ=some ρ1/\body ρ1=.nx ρ2/\I (j + 1) ρ2):∃ ρ',Dr f vs asg body ρ=.nx ρ'/\I w.length ρ':=by
 obtain ⟨ρ',e,h⟩:=LS (asg:=asg) (body:=body) (w.map λ b=>wd [b]) I ρ h0 (λ j x ρ hx hi=>by
  rw [BO] at hx;obtain ⟨b,hb',rfl⟩:=jc1.mp hx;exact hb j b ρ hb' hi)
 rw [Ax] at h;refine ⟨ρ',?_,h⟩;unfold Dr E3 C0;rw [hf];show (match (if ME (AS w)=true then Rz.ok (QQ.signs (AS w),om,ρ) else .no:Rz (List PV×Nat×Af)) with | .ok (els,d,ρ1)=>Bu asg body els (Bf d vs ρ1) | .exc c=>.exc c | .no=>.no)=_;rw [if_pos (wH w),ue];exact e
abbrev _root_.pe1:=DY (λ i j=>i + j) true 2 (Ac B0 (Ac BZ (bC (.str "r")) (Ac Dl (Aa 4) (Aa 3))) (bC (.str "d")))
abbrev _root_.pa7:=Ag (Aj false 2 (bC (.str "")) []) (Ag (Aj false 3 (bC (.int 0)) []) (Ag (ET .rev (Ad (Aa 1) (Ab)) [1] (asgN 4) (Ag pe1 (Aj false 3 (Aa 4) [4]))) (As (Ac B0 (Aa 2) (Ac BZ (bC (.str "r")) (Ac Dl (Aa 0) (Aa 3)))))))
def UQ:Fs:=pa7
def Qt:Fn:=Ap false 2 3 UQ
theorem XO {f h:Fx}{ρ ρ1 ρ2:Af}{n:Int}{d e:Nat} (h1:f ρ=.ok (.str "r",d,ρ1)) (h2:h ρ1=.ok (.int n,e,ρ2)) (hn:-1000<=n/\n<=1000):Ac BZ f h ρ=.ok (wd (A6 n.toNat true),om,ρ2):=by
 have z:=sz;refine Cr h1 h2 ?_;show (if -(2 ^ 62)<=n/\n < 2 ^ 62/\("r" : Str).length * n.toNat<=Au then some (PV.str (CB "r" n.toNat),om) else none)=_;rw [if_pos ⟨by omega,by omega,by show 1 * n.toNat<=Au;omega⟩,vD];rfl
theorem X7 {f h:Fx}{ρ ρ1 ρ2:Af}{u v:List Bool}{d e:Nat} (h1:f ρ=.ok (wd u,d,ρ1)) (h2:h ρ1=.ok (wd v,e,ρ2)) (hl:u.length + v.length<=100000):Ac B0 f h ρ=.ok (wd (u++v),om,ρ2):=by
 have z:=sz;refine Cr h1 h2 ?_;show (if (AS u).length + (AS v).length<=Au then some (PV.str (AS u++AS v),om) else none)=_;rw [K0,K0,if_pos (by omega),Ze];rfl
theorem wJ {i:Nat}{f:Fx}{ρ ρ1 ρ2:Af}{u v:List Bool}{d e:Nat}{g:Int->Int->Int} (h0:ρ[i]?=some (some (wd u,d))) (h:f ρ=.ok (wd v,e,ρ1)) (hi:i < ρ1.length) (hl:u.length + v.length<=100000) (e2:ρ1.set i (some (wd (u++v),om))=ρ2):DY g true i f ρ=.nx ρ2:=by
 have z:=sz;unfold DY;rw [h0];show (match f ρ with | .ok (.str b,_,ρ1)=>_ | .ok _=>_ | .exc c=>_ | .no=>_)=_;rw [h];show (if i < ρ1.length/\true=true/\(AS u).length + (AS v).length<=Au then Rs.nx (ρ1.set i (some (PV.str (AS u++AS v),om))) else .no)=_;rw [K0,K0,if_pos ⟨hi,rfl,by omega⟩,Ze];exact congrArg Rs.nx e2
theorem ye {b:Nat}{s:List Int} (h:StR b s) (hb:b<=100) (hs:s.length<=100):Qt [.int (b:Int),il s]=.ok (wd (Cb b s),om,.non):=by
 have z:=sz;have hwl:=d8 h;let R (acc:List Bool) (r:Int) (s4:QQ.Slot):Af:=[some (.int (b:Int),om),some (il s,0),some (wd acc,om),some (.int r,om),s4]
 have v1:Aj false 2 (bC (.str "")) [] [some (.int (b:Int),om),some (il s,0),none,none,none]=.nx [some (.int (b:Int),om),some (il s,0),some (wd [],om),none,none]:=rfl;have v2:Aj false 3 (bC (.int 0)) [] [some (.int (b:Int),om),some (il s,0),some (wd [],om),none,none]=.nx (R [] 0 none):=rfl;obtain ⟨ρ',v3,acc,r,s4,rfl,hr0,hr1,hacc⟩:=LW (v:=.rev) (fa:=Ad (Aa 1) (Ab)) (vs:=[1]) (asg:=asgN 4) (body:=Ag pe1 (Aj false 3 (Aa 4) [4])) (ρ:=R [] 0 none) (ρ1:=R [] 0 none) (ρ2:=R [] 0 none) (xs:=[(il s,0)]) (els:=s.reverse.map .int)
  (λ n ρ=>∃ acc r s4,ρ=R acc r s4/\0<=r/\r<=b/\acc++BW b r.toNat ((s.reverse.drop n).map PL)=Cb b s) rfl (by show some ((s.map PV.int).reverse)=_;rw [JR]) rfl ⟨[],0,none,rfl,by (clear hwl z hs hb;omega),by (clear hwl z hs hb;omega),rfl⟩ (by
   rintro n y ρ hy ⟨acc,r,s4,rfl,hr0,hr1,hacc⟩;have hn:n < s.reverse.length:=by
    have:=(jb0.mp hy).1
    rw [Ax] at this;exact this
   rw [BO,Bb hn] at hy;cases hy;let x:=s.reverse[n];have hx:=h.2 x (jj8.mp (CV hn));rw [Ul hn,AR] at hacc;unfold BW at hacc;have hal:acc.length<=200:=by
    have:=congrArg PN hacc
    rw [Bm,hwl] at this
    (clear hx hr1 hr0 hwl z;omega)
   let Q:Af:=R acc r (some (.int x,om));have k1:=Hq (f:=Aa 4) (g:=Aa 3) (ρ:=Q) (ρ1:=Q) (ρ2:=Q) (i:=x) (j:=r) (d:=om) (e:=om) rfl rfl;have k2:=XO (f:=bC (.str "r")) (ρ:=Q) (ρ1:=Q) (d:=om) rfl k1 (by (clear hal hwl z hs;omega));have k3:=X7 k2 (h:=bC (.str "d")) (v:=[false]) (e:=om) (ρ2:=Q) rfl (by rw [Ee];show (x - r).toNat + 1<=_;(clear hal hr1 hwl z hs;omega));refine ⟨Q,R (acc++(A6 (x - r).toNat true++[false])) x (some (.int x,om)),rfl,?_,_,x,_,rfl,hx.1,hx.2,?_⟩
   ·refine (A3 (wJ (i:=2) (u:=acc) (d:=om) (ρ2:=R (acc++(A6 (x - r).toNat true++[false])) r (some (.int x,om))) rfl k3 (show 2 < 5 by decide) ?_ rfl)).trans rfl;rw [Bm,Ee];show acc.length + ((x - r).toNat + 1)<=_
    (clear hr1 hwl z hs;omega)
   ·rw [<- hacc,show (x - r).toNat=x.toNat - r.toNat by (clear hal hx hr1 hwl z hs hb;omega)];show acc++(A6 (x.toNat - r.toNat) true++[false])++BW b x.toNat ((s.reverse.drop (n + 1)).map PL)=_;rw [Ig,Ig]
    rfl)
 rw [show (s.reverse.map PV.int).length=s.reverse.length by rw [Ax]] at hacc;rw [List.drop_length] at hacc;have hacc':acc++A6 (b - r.toNat) true=Cb b s:=hacc;have hal:acc.length<=200:=by
  have:=congrArg PN hacc'
  rw [Bm,hwl] at this
  (clear hr1 hr0 hwl z;omega)
 let Q:Af:=R acc r s4;have k1:=Hq (f:=Aa 0) (g:=Aa 3) (ρ:=Q) (ρ1:=Q) (ρ2:=Q) (i:=(b:Int)) (j:=r) (d:=om) (e:=om) rfl rfl;have k2:=XO (f:=bC (.str "r")) (ρ:=Q) (ρ1:=Q) (d:=om) rfl k1 (by (clear hal hwl z hs;omega));have k3:=X7 (f:=Aa 2) (ρ:=Q) (ρ1:=Q) (u:=acc) (d:=om) rfl k2 (by rw [Ee];(clear hr1 hwl z hs;omega));rw [show ((b:Int) - r).toNat=b - r.toNat by (clear hal hr1 hwl z hs hb;omega),hacc'] at k3;exact Bg rfl ((A3 v1).trans ((A3 v2).trans ((A3 v3).trans (Ci k3))))
def zR:Fs:=(Ag (Aj false 2 (Ak f_stairs_of pa0) [0,1])
 (As (BF (Aa 2) 1 (asgN 3) AO (Ak Qt (Ad pb5 (Ad (Aa 3) (Ab)))))))
def dC:Fn:=Ap false 2 1 zR
theorem Qx {a b c:Nat}{t:List (List Int)} (p:Pile a b c t) {s:List Int} (hs:s∈Bh t c):StR b s/\s.length=a:=by
 have q:=NQ p;obtain ⟨k,hk,rfl⟩:=Kr hs;rw [q.tab.1] at hk;refine ⟨⟨q.nr hk,λ x hx=>?_⟩,q.tab.row hk⟩;obtain ⟨i,hi,rfl⟩:=LX hx;rw [q.tab.row hk] at hi;exact ⟨q.lo k i hk hi,q.hi k i hk hi⟩
theorem uB {a b c:Nat}{t:List (List Int)} (p:Pile a b c t) (ha:1<=a/\a<=100) (hb:1<=b/\b<=100) (hc:1<=c/\c<=100):dC [bx a b c,tb t]=.ok (.lst ((Bh t c).map λ s=>wd (Cb b s)),om,.non):=by
 have z:=sz;let R (s2:QQ.Slot):Af:=[some (bx a b c,0),some (tb t,0),s2]
 have v1:Aj false 2 (Ak f_stairs_of pa0) [0,1] (R none)=.nx (R (some (tb (Bh t c),om))):=setF (AJ (xs:=[(bx a b c,0),(tb t,0)]) rfl (ZO p.tab ha hb hc ((Gj p.tab).mpr p))) (show 2 < 3 by decide) rfl;have v2:=FJ (n:=3) (f:=Aa 2) (elt:=Ak Qt (Ad pb5 (Ad (Aa 3) (Ab)))) (ρ:=R (some (tb (Bh t c),om))) (ρ1:=R (some (tb (Bh t c),om))) (enc:=il) (q:=λ s=>wd (Cb b s)) (d:=0) (Bh t c) rfl rfl (λ s hs=>by
  obtain ⟨h1,h2⟩:=Qx p hs;exact AJ (xs:=[(.int (b:Int),om),(il s,0)]) rfl (ye h1 (by (clear h2 z hc ha;omega)) (by (clear z hc hb;omega)))) (by rw [(NQ p).tab.1];(clear hb ha;omega))
 exact Bg rfl ((A3 v1).trans (Ci v2))
theorem ZZ {f g:Fx}{ρ ρ1:Af}{d:Nat} (h:f ρ=.ok (.bl false,d,ρ1)):AZ f g ρ=g ρ1:=by
 unfold AZ;rw [h];rfl
theorem QT (v:Int):∀ n:Nat,EG n [.int v]=(A6 n v).map PV.int
 | 0=>rfl
 | n + 1=>by
  show [PV.int v]++EG n [.int v]=_;rw [QT v n];rfl
theorem v7 {f g:Fx}{ρ ρ1 ρ2:Af}{v:Int}{n:Nat}{d e:Nat} (h1:f ρ=.ok (.lst [.int v],d,ρ1)) (h2:g ρ1=.ok (.int (n:Int),e,ρ2)) (hn:n<=1000):Ac BZ f g ρ=.ok (il (A6 n v),om,ρ2):=by
 refine Cr h1 h2 ?_;have z:=sz;unfold BZ;dsimp only [Rz.bind];rw [if_pos ⟨by omega,by omega,by rw [GC,Di];omega⟩,Di,QT,MH];rfl
def Dg (a b:Nat):List (List Int):=A6 a (A6 b 0)
theorem NN (a b:Nat):Tab a b (Dg a b):=⟨by unfold Dg;rw [Ee],λ r hr=>by rw [(List.mem_replicate.mp hr).2,Ee]⟩
theorem Vy {a b i j:Nat} (hi:i < a) (hj:j < b):g (Dg a b) i j=0:=by
 unfold g Dg;rw [A7,A7,Gb,if_pos hi];show (A6 b (0:Int))[j]?.getD 0=0;rw [Gb,if_pos hj];rfl
abbrev _root_.pb1:=Fp (Ak f_is_whole_number (Ad (Aa 2) (Ab))) (Hv (λ i j=>decide (i<=j)) (λ i j=>decide (i < j)) (bC (.int 0)) (Aa 2) (Aa 3))
abbrev _root_.pf9:=Ad (Aa 1) (Ad (Aa 0) (Ab))
def Xf_is_cube_in:Fs:=(Ag (AV (bT (AZ (AL BU (AL (E7 "tuple") (Aa 1))) (Ac (A1 true) pd1 (bC (.int 3))))) (As (bC (.bl false))) A4)
 (As (Aq Ep (Ad (EX .zp pf9 2 (asgT [2,3]) AO pb1) (Ab)))))
def f_is_cube_in:Fn:=Ap false 2 0 Xf_is_cube_in
abbrev _root_.pb0:=Ac (Dm λ i j=>decide (j<=i)) (Aq Iz (Ad (Aa 5) (Ab))) (bC (.int 0))
abbrev _root_.pb9:=Ad (Aq BL (Ad (Aa 1) (Ad (Ac Dl (Aa 2) (bC (.int 1))) (Ad (Aa 3) (Ab))))) (Ad (Aq BL (Ad (Aa 1) (Ad (Aa 2) (Ad (Ac Dl (Aa 3) (bC (.int 1))) (Ab))))) (Ab))
def Xf_cubes_needed_by:Fs:=(Ag (BB (asgT [1,2,3]) (Aa 0) [0])
 (Ag (Aj false 4 (Aq Bw (Ad (Aq BL (Ad pg5 pa5)) pb9)) [1,2,3,1,2,3,1,2,3])
 (As (BF (Aa 4) 1 (asgN 5) (bT pb0) (Aa 5)))))
def f_cubes_needed_by:Fn:=Ap false 1 4 Xf_cubes_needed_by
abbrev _root_.pd0:=bT (AL BU (Aq Ep (Ad (BF (Ak f_cubes_needed_by (Ad (Aa 3) (Ab))) 1 (asgN 4) AO (Ac (Dz false) (Aa 4) (Aa 2))) (Ab))))
def Xf_must_be_cubes_of_a_pile:Fs:=(Ag (AV (bT (AZ pf6 (AL BU (Aq Ep (Ad (BF (Aa 1) 1 (asgN 4) AO (Ak f_is_cube_in (Ad (Aa 0) (Ad (Aa 4) (Ab))))) (Ab)))))) Fv A4)
 (Ag (Aj false 2 Dd [])
 (Ag (Dr (Aa 1) [1] (asgN 3) (CI 2 (Aa 3) (bC (.bl true))))
 (Dr (Aa 1) [1] (asgN 3) (AV pd0 Fv A4)))))
def f_must_be_cubes_of_a_pile:Fn:=Ap false 2 2 Xf_must_be_cubes_of_a_pile
abbrev _root_.pc6:=Aq Bw (Ad (bC (.int 0)) (Ab))
abbrev _root_.pe2:=Aq JC (Ad (Ac AQ (Ac AQ (Aa 5) (Aa 6)) (Aa 7)) (Ad (Ac B0 (Aa 8) (bC (.int 1))) (Ab)))
def Xf_pile_of_cubes:Fs:=(Ag (Bv pa8)
 (Ag (Bv (Ak f_must_be_cubes_of_a_pile pa0))
 (Ag pc9
 (Ag (Aj false 5 (CN Bn (Ad (Aa 2) (Ab)) 1 (asgN 9) AO (Ac BZ pc6 (Aa 3))) [3])
 (Ag (Dr (Aa 1) [1] (asgT [6,7,8]) (JB 5 (Aa 6) (Aa 7) pe2))
 (C6 5))))))
def f_pile_of_cubes:Fn:=Ap false 2 7 Xf_pile_of_cubes
theorem zzl {t:List (List Int)}{a b:Nat}{x:C3}:x∈BV t a b↔x.1 < a/\x.2.1 < b/\(x.2.2:Int) < g t x.1 x.2.1:=by
 obtain ⟨i,j,k⟩:=x;unfold BV B2 IL;simp only [JQ,jc2,jc4,OE];constructor
 ·rintro ⟨i',hi,j',hj,k',hk,rfl,rfl,rfl⟩;exact ⟨hi,hj,by (clear hj hi;omega)⟩
 ·rintro ⟨hi,hj,hk⟩;exact ⟨i,hi,j,hj,k,by (clear hj hi;omega),rfl,rfl,rfl⟩
theorem Sw {elt:Fx}{p q:QQ.Slot}{u v:Int}{y:PV}{xs:List PV}{acc:List (PV×Nat)} (he:elt [p,q,some (.int u,om),some (.int v,om)]=.ok (y,om,[p,q,some (.int u,om),some (.int v,om)])) (ha:acc.length < Au):
  DK 2 (asgT [2,3]) AO elt (.tup [.int u,.int v]::xs) [p,q] acc=DK 2 (asgT [2,3]) AO elt xs [p,q] (acc++[(y,om)]):=by
 conv=>lhs;unfold DK
 have ea:asgT [2,3] (.tup [.int u,.int v]) ([p,q]++A6 2 none)=some [p,q,some (.int u,om),some (.int v,om)]:=rfl;rw [ea];dsimp only
 have:AO [p,q,some (.int u,om),some (.int v,om)]=.ok (true,[p,q,some (.int u,om),some (.int v,om)]):=rfl
 rw [this];dsimp only [Rz.bindN];rw [if_pos rfl,he];dsimp only;rw [if_pos ha];rfl
theorem fB {a b c:Nat}{x:C3} (h1:x.1 < a) (h2:x.2.1 < b) (h3:x.2.2 < c):f_is_cube_in [bx a b c,c3 x]=.ok (.bl true,om,.non):=by
 have z:=sz;let R:Af:=[some (bx a b c,0),some (c3 x,0)]
 have e0:∀ u v:Int,0<=u->u < v->pb1 [some (bx a b c,0),some (c3 x,0),some (.int u,om),some (.int v,om)]=.ok (.bl true,om,[some (bx a b c,0),some (c3 x,0),some (.int u,om),some (.int v,om)]):=λ u v hu hv=>by
  have:=MD (a:=true) (f:=Ak f_is_whole_number (Ad (Aa 2) (Ab))) (g:=Hv (λ i j=>decide (i<=j)) (λ i j=>decide (i < j)) (bC (.int 0)) (Aa 2) (Aa 3)) (ρ:=[some (bx a b c,0),some (c3 x,0),some (.int u,om),some (.int v,om)]) (AJ (xs:=[(.int u,om)]) rfl (Zy u)) (λ _=>QJ (i:=0) (j:=u) (k:=v) rfl rfl rfl) rfl
  rw [decide_eq_true hu,decide_eq_true hv] at this;exact this
 have e1:EX .zp pf9 2 (asgT [2,3]) AO pb1 R=.ok (.lst ([(),(),()].map λ _=>.bl true),om,R):=by
  unfold EX Ej CA;have ef:pf9 R=.ok ([(c3 x,0),(bx a b c,0)],R):=rfl;rw [ef];dsimp only [Rz.bind];have ev:Iu .zp ([(c3 x,0),(bx a b c,0)].map (·.1))=some [.tup [.int (x.1:Int),.int (a:Int)],.tup [.int (x.2.1:Int),.int (b:Int)],.tup [.int (x.2.2:Int),.int (c:Int)]]:=rfl;rw [ev];dsimp only;rw [Sw (e0 _ _ (by (clear z h3 h2 h1;omega)) (by (clear z h3 h2;omega))) (by show 0 < Au;(clear h3 h2 h1;omega)),Sw (e0 _ _ (by (clear z h3 h2 h1;omega)) (by (clear z h3 h1;omega))) (by show 1 < Au;(clear h3 h2 h1;omega)),Sw (e0 _ _ (by (clear z h3 h2 h1;omega)) (by (clear z h2 h1;omega))) (by show 2 < Au;(clear h3 h2 h1;omega))];rfl
 refine Bg rfl (ρ':=R) ?_;show Xf_is_cube_in R=_;refine (Eo (ρ1:=R) (by kernel_rfl)).trans (Ci ?_);rw [FP e1];rfl
def GU (x:C3):List C3:=(if 0 < x.1 then [(x.1 - 1,x.2.1,x.2.2)] else [])++(if 0 < x.2.1 then [(x.1,x.2.1 - 1,x.2.2)] else [])++(if 0 < x.2.2 then [(x.1,x.2.1,x.2.2 - 1)] else [])
def CC (x:C3):List A0:=[.inl (x.1:Int),.inl (x.2.1:Int),.inl (x.2.2:Int)]
theorem gA {x y:C3} (h:CC x=CC y):x=y:=by
 unfold CC at h;simp only [List.cons.injEq,Sum.inl.injEq,and_true] at h;obtain ⟨h1,h2,h3⟩:=h;obtain ⟨i,j,k⟩:=x;obtain ⟨i',j',k'⟩:=y;simp only at h1 h2 h3;rw [js4.mp h1,js4.mp h2,js4.mp h3]
theorem XX (x:C3):BI [.int (x.1:Int),.int (x.2.1:Int),.int (x.2.2:Int)]=some (CC x):=rfl
def Dk:List C3->List (List A0×V)
 | []=>[]
 | x::r=>Be (Dk r) (CC x) (.bl true)
theorem VN (y:C3):∀ xs:List C3,(AM (Dk xs) (CC y)).isSome=decide (y∈xs)
 | []=>by simp [Dk,AM]
 | x::r=>by
  unfold Dk;rw [Zv];by_cases e:y=x
  ·subst e;simp
  ·have:¬ CC y=CC x:=λ h=>e (gA h)
   rw [if_neg this,VN y r];simp [e]
theorem VP:∀ xs:List C3,(Dk xs).length<=xs.length
 | []=>A5 _
 | x::r=>by
  unfold Dk
  have:=NO (Dk r) (CC x) (.bl true)
  have:=VP r
  rw [AY];omega
theorem yD {i j k:Nat}:((([((i:Int) - 1,(j:Int),(k:Int)),((i:Int),(j:Int) - 1,(k:Int)),((i:Int),(j:Int),(k:Int) - 1)]:List (Int×Int×Int)).filter λ z=>decide (0<=Cp z.1 [z.2.1,z.2.2])).map λ z=>PV.tup [.int z.1,.int z.2.1,.int z.2.2])=(GU (i,j,k)).map c3:=by
 have m:∀ x y z:Int,Cp x [y,z]=min (min x y) z:=λ x y z=>by
  unfold Cp;unfold Cp;unfold Cp;split <;> split <;> omega
 unfold GU;simp only [FZ,List.filter_nil,m];by_cases h1:0 < i <;> by_cases h2:0 < j <;> by_cases h3:0 < k <;> simp only [h1,h2,h3,if_true,if_false] <;>
  (first | rw [if_pos (decide_eq_true (by (clear h3 h2;omega)))] | rw [if_neg (by rw [decide_eq_true_iff];(clear h3 h2;omega))]) <;>
  (first | rw [if_pos (decide_eq_true (by (clear h3 h1;omega)))] | rw [if_neg (by rw [decide_eq_true_iff];(clear h3 h1;omega))]) <;>
  (first | rw [if_pos (decide_eq_true (by (clear h2 h1;omega)))] | rw [if_neg (by rw [decide_eq_true_iff];(clear h2 h1;omega))]) <;>
  simp only [AR,Hf,Ex,Hi,G9,c3] <;>
  (try simp only [List.cons.injEq,PV.tup.injEq,PV.int.injEq,and_true,true_and]) <;> (try omega)
theorem dR (x:C3):∃ d,f_cubes_needed_by [c3 x]=.ok (ct (GU x),d,.non):=by
 have z:=sz;obtain ⟨i,j,k⟩:=x;let R (s4:QQ.Slot):Af:=[some (c3 (i,j,k),0),some (.int (i:Int),om),some (.int (j:Int),om),some (.int (k:Int),om),s4]
 let ys:List (Int×Int×Int):=[((i:Int) - 1,(j:Int),(k:Int)),((i:Int),(j:Int) - 1,(k:Int)),((i:Int),(j:Int),(k:Int) - 1)]
 let enc:Int×Int×Int->PV:=λ z=>.tup [.int z.1,.int z.2.1,.int z.2.2];have v1:BB (asgT [1,2,3]) (Aa 0) [0] [some (c3 (i,j,k),0),none,none,none,none]=.nx (R none):=rfl;have v2:∃ d4,Aj false 4 (Aq Bw (Ad (Aq BL (Ad pg5 pa5)) pb9)) [1,2,3,1,2,3,1,2,3] (R none)=.nx (R (some (.lst (ys.map enc),d4))):=⟨_,rfl⟩
 obtain ⟨d4,v2⟩:=v2;have v3:=Io (n:=5) (test:=bT pb0) (elt:=Aa 5) (enc:=enc) (q:=enc) (e:=λ _=>0) (p:=λ z=>decide (0<=Cp z.1 [z.2.1,z.2.2])) ys (R (some (.lst (ys.map enc),d4))) [] rfl (λ z _=>rfl) (λ z _ _=>rfl) (by show 0 + 3<=Au;omega);have v4:∃ d,BF (Aa 4) 1 (asgN 5) (bT pb0) (Aa 5) (R (some (.lst (ys.map enc),d4)))=.ok (ct (GU (i,j,k)),d,R (some (.lst (ys.map enc),d4))):=by
  have e0:BF (Aa 4) 1 (asgN 5) (bT pb0) (Aa 5) (R (some (.lst (ys.map enc),d4)))=(DK 1 (asgN 5) (bT pb0) (Aa 5) (ys.map enc) (R (some (.lst (ys.map enc),d4))) []).bindN λ (acc,ρ2)=>DN acc ρ2:=rfl;rw [e0,v3];dsimp only [Rz.bindN,DN];rw [Ex,BC];refine ⟨_,congrArg (λ l=>Rz.ok (PV.lst l,_,_)) ?_⟩;exact yD
 obtain ⟨d,v4⟩:=v4;exact ⟨d,Bg rfl ((A3 v1).trans ((A3 v2).trans (Ci v4)))⟩
structure Cubes (a b c:Nat) (cs:List C3):Prop where
 box:∀ x∈cs,x.1 < a/\x.2.1 < b/\x.2.2 < c
 all:∀ x∈cs,∀ y∈GU x,y∈cs
 len:cs.length<=100000
theorem zA {a b c:Nat}{cs:List C3} (h:Cubes a b c cs):f_must_be_cubes_of_a_pile [bx a b c,ct cs]=.ok (.non,om,.non):=by
 have z:=sz;have hl:=h.len;let R (s2 s3:QQ.Slot):Af:=[some (bx a b c,0),some (ct cs,0),s2,s3]
 have c1:=FJ (n:=4) (f:=Aa 1) (elt:=Ak f_is_cube_in (Ad (Aa 0) (Ad (Aa 4) (Ab)))) (ρ:=R none none) (ρ1:=R none none) (enc:=c3) (q:=λ _=>.bl true) (d:=0) cs rfl rfl (λ x hx=>by
  obtain ⟨h1,h2,h3⟩:=h.box x hx;exact AJ (xs:=[(bx a b c,0),(c3 x,0)]) rfl (fB h1 h2 h3)) (by omega)
 have c2:=FP (g:=λ _=>true) c1;rw [show (cs.all λ _=>true)=true by simp] at c2;have t1:=AK (Sj (a:=false) (f:=AL BU (AL (E7 "list") (Aa 1))) (ρ:=R none none) (ρ1:=R none none) (d:=om) rfl (λ _=>Gr c2) rfl);have v2:Aj false 2 Dd [] (R none none)=.nx (R (some (.dct [],om)) none):=rfl;obtain ⟨ρ',v3,s3,rfl⟩:=QK (f:=Aa 1) (vs:=[1]) (asg:=asgN 3) (body:=CI 2 (Aa 3) (bC (.bl true))) (ρ:=R (some (.dct [],om)) none) (ρ1:=R (some (.dct [],om)) none) (ρ2:=R (some (.dct [],om)) none) (els:=cs.map c3) (d:=0)
  (λ n ρ=>∃ s3,ρ=R (some (.dct (Dk (cs.take n).reverse),om)) s3) rfl rfl ⟨none,by rw [Lm];rfl⟩ (by
   rintro n y ρ hy ⟨s3,rfl⟩;have hn:n < cs.length:=by
    have:=(jb0.mp hy).1
    rw [Ax] at this;exact this
   rw [BO,Bb hn] at hy;cases hy;refine ⟨R (some (.dct (Dk (cs.take n).reverse),om)) (some (c3 cs[n],0)),R (some (.dct (Dk (cs.take (n + 1)).reverse),om)) (some (c3 cs[n],0)),rfl,?_,_,rfl⟩;have es:(cs.take (n + 1)).reverse=cs[n]::(cs.take n).reverse:=by rw [Nh,Bb hn];simp
   rw [es];have hk:(Dk (cs.take n).reverse).length < Au:=by
    have:=VP (cs.take n).reverse
    rw [EK,GA] at this;omega
   have hp:Dy (.dct (Dk (cs.take n).reverse)) (c3 cs[n]) (.bl true)=some (.dct (Dk (cs[n]::(cs.take n).reverse))):=by
    unfold Dy c3;dsimp only;rw [XX];show (if (Dk (cs.take n).reverse).length < Au then some (PV.dct (Be (Dk (cs.take n).reverse) (CC cs[n]) (.bl true))) else none)=_;rw [if_pos hk];rfl
   unfold CI;show (match Dy (.dct (Dk (cs.take n).reverse)) (c3 cs[n]) (.bl true) with | some x'=>_ | none=>_)=_;rw [hp]
   rfl)
 rw [Ax,Qc] at v3;let S:QQ.Slot:=some (.dct (Dk cs.reverse),om);obtain ⟨ρ'',v4,s3',rfl⟩:=QK (f:=Aa 1) (vs:=[1]) (ρ1:=R S s3) (ρ2:=R S s3) (asg:=asgN 3) (body:=AV pd0 Fv A4) (ρ:=R S s3) (els:=cs.map c3) (d:=0) (λ _ ρ=>∃ s3,ρ=R S s3) rfl rfl ⟨_,rfl⟩ (by
  rintro n y ρ hy ⟨s3,rfl⟩;obtain ⟨x,hx,rfl⟩:=jc4.mp (Nl hy);let Q:Af:=R S (some (c3 x,0));obtain ⟨d,e1⟩:=dR x;have hnl:(GU x).length<=3:=by unfold GU;rw [Bm,Bm];split <;> split <;> split <;> simp
  have e2:=FJ (n:=4) (f:=Ak f_cubes_needed_by (Ad (Aa 3) (Ab))) (elt:=Ac (Dz false) (Aa 4) (Aa 2)) (ρ:=Q) (ρ1:=Q) (enc:=c3) (q:=λ _=>.bl true) (d:=d) (GU x) (AJ (xs:=[(c3 x,0)]) rfl e1) rfl (λ y hy=>by
   have g1:=VN y cs.reverse;rw [decide_eq_true (jj8.mpr (h.all x hx y hy))] at g1;refine Cr (x:=c3 y) (d:=0) (y:=.dct (Dk cs.reverse)) (e:=0) rfl rfl ?_;unfold Dz c3;dsimp only;rw [XX];show some (PV.bl (false^^(AM (Dk cs.reverse) (CC y)).isSome),om)=_;rw [g1]
   rfl) (by omega)
  have e3:=FP (g:=λ _=>true) e2;rw [show ((GU x).all λ _=>true)=true by simp] at e3;exact ⟨Q,Q,rfl,(CW (AK (Gr e3))).trans rfl,_,rfl⟩)
 exact Pk rfl ((Eo t1).trans ((A3 v2).trans ((A3 v3).trans v4)))
def Ib (u:List (List Int)) (x:C3):List (List Int):=u.set x.1 ((u.getD x.1 []).set x.2.1 (if ((x.2.2:Int) + 1) > g u x.1 x.2.1 then (x.2.2:Int) + 1 else g u x.1 x.2.1))
theorem XR {a b:Nat}{u:List (List Int)} (h:Tab a b u) {x:C3} (hx:x.1 < a):Tab a b (Ib u x):=by
 refine ⟨by unfold Ib;rw [FD];exact h.1,λ r hr=>?_⟩;unfold Ib at hr;rcases qY hr with z | z
 ·exact h.2 r z
 ·rw [z,FD];exact h.row hx
theorem yA {a b:Nat}{u:List (List Int)} (h:Tab a b u) {x:C3} (h1:x.1 < a) (h2:x.2.1 < b) (i j:Nat):g (Ib u x) i j=if i=x.1/\j=x.2.1 then (if ((x.2.2:Int) + 1) > g u x.1 x.2.1 then (x.2.2:Int) + 1 else g u x.1 x.2.1) else g u i j:=by
 unfold Ib;generalize (if ((x.2.2:Int) + 1) > g u x.1 x.2.1 then (x.2.2:Int) + 1 else g u x.1 x.2.1)=v;by_cases e:i=x.1
 ·subst e;unfold g;rw [Vf (by rw [h.1];exact h1)];by_cases e2:j=x.2.1
  ·subst e2;rw [if_pos ⟨rfl,rfl⟩,Vf (by rw [h.row h1];exact h2)]
  ·rw [if_neg (λ z=>e2 z.2),Vl (λ z=>e2 z.symm)]
 ·rw [if_neg (λ z=>e z.1)];unfold g;rw [Vl (λ z=>e z.symm)]
def Eb (cs:List C3) (u:List (List Int)):List (List Int):=cs.foldl Ib u
theorem gN (cs:List C3) (x:C3) (u:List (List Int)):Eb (cs++[x]) u=Ib (Eb cs u) x:=by unfold Eb;rw [qB];rfl
theorem Ts {a b:Nat}:∀ {cs:List C3}{u:List (List Int)},Tab a b u->(∀ x∈cs,x.1 < a/\x.2.1 < b)->Tab a b (Eb cs u)
 | [],u,h,_=>h
 | x::r,u,h,hx=>Ts (cs:=r) (u:=Ib u x) (XR h (hx x AD).1) λ y hy=>hx y (AE _ hy)
theorem SF {a b i j:Nat} (n:Int):∀ {cs:List C3}{u:List (List Int)},Tab a b u->(∀ x∈cs,x.1 < a/\x.2.1 < b)->(n < g (Eb cs u) i j↔n < g u i j\/∃ x∈cs,x.1=i/\x.2.1=j/\n<=(x.2.2:Int))
 | [],u,h,_=>by simp [Eb]
 | x::r,u,h,hx=>by
  have h0:=hx x AD;show n < g (Eb r (Ib u x)) i j↔_;rw [SF n (XR h h0.1) λ y hy=>hx y (AE _ hy),yA h h0.1 h0.2];constructor
  ·rintro (z | ⟨y,hy,z⟩)
   ·by_cases e:i=x.1/\j=x.2.1
    ·rw [if_pos e] at z;obtain ⟨rfl,rfl⟩:=e;split at z
     ·exact .inr ⟨x,AD,rfl,rfl,by omega⟩
     ·exact .inl z
    ·rw [if_neg e] at z;exact .inl z
   ·exact .inr ⟨y,AE _ hy,z⟩
  ·rintro (z | ⟨y,hy,e1,e2,z⟩)
   ·left
    by_cases e:i=x.1/\j=x.2.1
    ·rw [if_pos e];obtain ⟨rfl,rfl⟩:=e;split <;> omega
    ·rw [if_neg e];exact z
   ·rcases jb8.mp hy with rfl | hy
    ·left
     rw [if_pos ⟨e1.symm,e2.symm⟩];split <;> (clear h0 e2 e1;omega)
    ·exact .inr ⟨y,hy,e1,e2,z⟩
theorem kJ {a b c:Nat}{t:List (List Int)}{cs:List C3} (p:Pile a b c t) (h:∀ x,x∈cs↔x∈BV t a b):Eb cs (Dg a b)=t:=by
 have hb:∀ x∈cs,x.1 < a/\x.2.1 < b:=λ x hx=>by
  have:=zzl.mp ((h x).mp hx)
  exact ⟨this.1,this.2.1⟩
 refine Gh (Ts (NN a b) hb) p.tab λ i j hi hj=>?_;have q:=p.lo i j hi hj;have key:∀ n:Int,0<=n->(n < g (Eb cs (Dg a b)) i j↔n < g t i j):=λ n hn=>by
  rw [SF n (NN a b) hb,Vy hi hj];constructor
  ·rintro (z | ⟨x,hx,rfl,rfl,z⟩)
   ·(clear hn hj hi;omega)
   ·have:=zzl.mp ((h x).mp hx)
    (clear q hj hi hn;omega)
  ·intro z;refine .inr ⟨(i,j,n.toNat),(h _).mpr (zzl.mpr ⟨hi,hj,?_⟩),rfl,rfl,?_⟩
   ·show ((n.toNat:Nat):Int) < g t i j
    (clear q hj hi;omega)
   ·show n<=((n.toNat:Nat):Int)
    (clear z hn q hj hi;omega)
 have lo:-1 < g (Eb cs (Dg a b)) i j:=(SF (-1) (NN a b) hb).mpr (.inl (by rw [Vy hi hj];(clear q hj hi;omega)));have k1:=key (g t i j) q;have k2:=key (g (Eb cs (Dg a b)) i j) (by (clear k1 q hj hi;omega))
 (clear lo q hj hi;omega)
theorem z7 {a b c:Nat}{t:List (List Int)}{cs:List C3} (p:Pile a b c t) (h:∀ x,x∈cs↔x∈BV t a b) (hl:cs.length<=100000):Cubes a b c cs:=by
 refine ⟨λ x hx=>?_,λ x hx y hy=>?_,hl⟩
 ·obtain ⟨h1,h2,h3⟩:=zzl.mp ((h x).mp hx)
  have:=p.hi x.1 x.2.1 h1 h2
  exact ⟨h1,h2,by (clear h2 h1 hl;omega)⟩
 ·obtain ⟨h1,h2,h3⟩:=zzl.mp ((h x).mp hx);refine (h y).mpr (zzl.mpr ?_);unfold GU at hy;rw [jh5,jh5] at hy;rcases hy with (hy | hy) | hy
  ·split at hy
   ·rw [je2] at hy;subst hy
    have:=p.dn (x.1 - 1) x.2.1 (by (clear h3 h2 hl;omega)) h2
    rw [show x.1 - 1 + 1=x.1 by (clear this h3 h2 h1 hl;omega)] at this;exact ⟨by show x.1 - 1 < a;(clear this h3 h2 hl;omega),h2,by show (x.2.2:Int) < g t (x.1 - 1) x.2.1;(clear h2 h1 hl;omega)⟩
   ·cases hy
  ·split at hy
   ·rw [je2] at hy;subst hy
    have:=p.rt x.1 (x.2.1 - 1) h1 (by (clear h3 h1 hl;omega))
    rw [show x.2.1 - 1 + 1=x.2.1 by (clear this h3 h2 h1 hl;omega)] at this;exact ⟨h1,by show x.2.1 - 1 < b;(clear this h3 h1 hl;omega),by show (x.2.2:Int) < g t x.1 (x.2.1 - 1);(clear h2 h1 hl;omega)⟩
   ·cases hy
  ·split at hy
   ·rw [je2] at hy;subst hy;exact ⟨h1,h2,by show ((x.2.2 - 1:Nat):Int) < g t x.1 x.2.1;(clear h2 h1 hl;omega)⟩
   ·cases hy
theorem vf {a b c:Nat}{t:List (List Int)}{cs:List C3} (p:Pile a b c t) (ha:1<=a/\a<=100) (hb:1<=b/\b<=100) (hc:1<=c) (h:∀ x,x∈cs↔x∈BV t a b) (hl:cs.length<=100000):f_pile_of_cubes [bx a b c,ct cs]=.ok (tb t,om,.non):=by
 have z:=sz;have C:=z7 p h hl;let R (s2 s3 s4 s5 s6 s7 s8:QQ.Slot):Af:=[some (bx a b c,0),some (ct cs,0),s2,s3,s4,s5,s6,s7,s8]
 have bb:Dc a b c=true:=by unfold Dc;rw [decide_eq_true (by (clear z hl hc hb;omega)),decide_eq_true (by (clear z hl hc ha;omega)),decide_eq_true (by (clear z hl hb ha;omega))];rfl
 have v1:Bv pa8 (R none none none none none none none)=.nx (R none none none none none none none):=DH (AJ (xs:=[(bx a b c,0)]) rfl (LA bb));have v2:Bv (Ak f_must_be_cubes_of_a_pile pa0) (R none none none none none none none)=.nx (R none none none none none none none):=DH (AJ (xs:=[(bx a b c,0),(ct cs,0)]) rfl (zA C));let S (s5 s6 s7 s8:QQ.Slot):Af:=R (some (.int (a:Int),om)) (some (.int (b:Int),om)) (some (.int (c:Int),om)) s5 s6 s7 s8;have v3:BB (asgT [2,3,4]) (Aa 0) [0] (R none none none none none none none)=.nx (S none none none none):=rfl;have e1:=Hm (n:=9) (en:=Bn) (fa:=Ad (Aa 2) (Ab)) (elt:=Ac BZ pc6 (Aa 3)) (ρ:=S none none none none) (ρ1:=S none none none none) (as:=[(.int (a:Int),om)]) (lo:=0) (hi:=(a:Int)) (q:=λ _=>il (A6 b 0)) rfl (Em (by (clear z hl hc hb ha;omega)) (by (clear z hl hc hb;omega))) rfl (λ k hk=>v7 (v:=0) (n:=b) (d:=om) (e:=om) rfl rfl (by (clear hk z hl hc ha;omega))) (by (clear hl hc hb;omega));have e2:PV.lst ((An ((a:Int) - 0).toNat).map λ _=>il (A6 b 0))=tb (Dg a b):=by
  unfold tb Dg;rw [show ((a:Int) - 0).toNat=a by (clear z hl hc hb ha;omega),Ud,List.map_const',CF]
 rw [e2] at e1;let T (u:List (List Int)) (s6 s7 s8:QQ.Slot):Af:=S (some (tb u,om)) s6 s7 s8;have v4:Aj false 5 (CN Bn (Ad (Aa 2) (Ab)) 1 (asgN 9) AO (Ac BZ pc6 (Aa 3))) [3] (S none none none none)=.nx (T (Dg a b) none none none):=setF e1 (show 5 < 9 by decide) rfl;obtain ⟨ρ',v5,s6,s7,s8,rfl⟩:=QK (f:=Aa 1) (vs:=[1]) (asg:=asgT [6,7,8]) (body:=JB 5 (Aa 6) (Aa 7) pe2) (ρ:=T (Dg a b) none none none) (ρ1:=T (Dg a b) none none none) (ρ2:=T (Dg a b) none none none) (els:=cs.map c3) (d:=0)
  (λ n ρ=>∃ s6 s7 s8,ρ=T (Eb (cs.take n) (Dg a b)) s6 s7 s8) rfl rfl ⟨none,none,none,by rw [Lm];rfl⟩ (by
   rintro n y ρ hy ⟨s6,s7,s8,rfl⟩;have hn:n < cs.length:=by
    have:=(jb0.mp hy).1
    rw [Ax] at this;exact this
   rw [BO,Bb hn] at hy;cases hy;have hx:=C.box cs[n] (CV hn);have ht:=Ts (NN a b) (cs:=cs.take n) λ x hx=>⟨(C.box x (qN hx)).1,(C.box x (qN hx)).2.1⟩
   let Q (u:List (List Int)):Af:=T u (some (.int (cs[n].1:Int),om)) (some (.int (cs[n].2.1:Int),om)) (some (.int (cs[n].2.2:Int),om));refine ⟨Q (Eb (cs.take n) (Dg a b)),Q (Eb (cs.take (n + 1)) (Dg a b)),rfl,?_,_,_,_,rfl⟩;have es:cs.take (n + 1)=cs.take n++[cs[n]]:=by rw [Nh,Bb hn];rfl
   rw [es,gN];have i1:=KD (f:=Aa 5) (h:=Aa 6) (k:=Aa 7) (ρ:=Q (Eb (cs.take n) (Dg a b))) (i:=cs[n].1) (j:=cs[n].2.1) ht (d:=0) rfl rfl rfl hx.1 hx.2.1;have i2:=Ez (f:=Aa 8) (g:=bC (.int 1)) (ρ:=Q (Eb (cs.take n) (Dg a b))) (i:=(cs[n].2.2:Int)) (j:=1) (d:=om) (e:=om) rfl rfl;have i3:=CO (op:=JC) (Cu i1 (BE i2)) rfl;exact yW (x:=tb (Eb (cs.take n) (Dg a b))) (a:=(cs[n].1:Int)) (b:=(cs[n].2.1:Int)) i3 rfl rfl rfl (yX (by rw [ht.1];exact hx.1) (by rw [ht.row hx.1];exact hx.2.1)) rfl rfl (kK _))
 rw [Ax,Qc,kJ p h] at v5;exact Bg rfl ((A3 v1).trans ((A3 v2).trans ((A3 v3).trans ((A3 v4).trans ((A3 v5).trans rfl)))))
theorem y3 {a b:Nat}{t:List (List Int)} (ht:Tab a b t):BX (BX t b) a=t:=
 Gh (LY (LY ht)) ht λ i j hi hj=>by rw [Gi (LY ht) hj hi,Gi ht hi hj]
theorem LU {a b:Nat}{c:Int}{t:List (List Int)} (ht:Tab a b t):B6 (B6 t c) c=t:=
 Gh (Hu (Hu ht)) ht λ i j hi hj=>by
  rw [En (Hu ht) hi hj,En ht (by omega) (by omega),show a - 1 - (a - 1 - i)=i by omega,show b - 1 - (b - 1 - j)=j by omega]
  (clear hj hi;omega)
theorem J7 {a b c:Nat}{t:List (List Int)} (p:Pile a b c t):AA (AA (AA t b c) c a) a b=t:=by
 rw [T3 p,K4];exact Gh LG p.tab λ i j hi hj=>by rw [E5 hi hj,zy p hi hj]
def C9 (t:List (List Int)):Int:=(t.map IT).sum
theorem O6 {f:Nat->Nat->Int} (b:Nat):∀ a:Nat,((An a).map λ i=>((An b).map λ j=>f i j).sum).sum=((An b).map λ j=>((An a).map λ i=>f i j).sum).sum
 | 0=>by simp [O7]
 | a + 1=>by
  rw [CD,B5,Ff,O6 b a]
  have:((An b).map λ j=>((An a++[a]).map λ i=>f i j).sum)=(An b).map λ j=>((An a).map λ i=>f i j).sum + f a j:=GB λ j _=>by rw [B5,Ff];simp
  rw [this,LI];simp
theorem fV {a b c:Nat}{t:List (List Int)} (p:Pile a b c t):C9 (Bh t c)=C9 t:=by
 refine VJ c t λ r hr x hx=>?_;obtain ⟨i,hi,rfl⟩:=Kr hr;obtain ⟨j,hj,rfl⟩:=LX hx;rw [p.tab.1] at hi;rw [p.tab.row hi] at hj;exact ⟨p.lo i j hi hj,p.hi i j hi hj⟩
theorem um {a b c:Nat}{t:List (List Int)} (p:Pile a b c t):C9 (AA t b c)=C9 t:=by
 have e:=fV (Hn p);rw [<- T3 (Hn p),J7 p] at e;exact e.symm
theorem ZS (c:Int):∀ r:List Int,(r.map λ h=>c - h).sum=r.length * c - r.sum
 | []=>by simp
 | x::r=>by
  rw [AR,DP,ZS c r,DP,AY];rw [show ((r.length + 1:Nat):Int)=(r.length:Int) + 1 by omega,PM];omega
theorem ZT (b:Nat) (c:Int):∀ t:List (List Int),(∀ r∈t,r.length=b)->C9 (t.map λ r=>r.reverse.map λ h=>c - h)=t.length * (b * c) - C9 t
 | [],_=>by simp [C9]
 | r::t,h=>by
  have ih:=ZT b c t λ q hq=>h q (AE _ hq);unfold C9 at ih ⊢;rw [AR,AR,DP,ih,ZS,EK,qu,h r AD,AR,DP,AY];rw [show ((t.length + 1:Nat):Int)=(t.length:Int) + 1 by omega,PM];omega
theorem bz {a b:Nat}{c:Int}{t:List (List Int)} (ht:Tab a b t):C9 (B6 t c)=a * (b * c) - C9 t:=by
 unfold B6;rw [ZT b c t.reverse λ r hr=>ht.2 r (jj8.mp hr),EK,ht.1];unfold C9;rw [JR,qu]
def rN (w:List Bool) (n:Nat):Nat:=(w.take n).count true
def dN (w:List Bool) (n:Nat):Nat:=(w.take n).count false
theorem GL (w:List Bool) (n:Nat):rN w n + dN w n=min n w.length:=by
 unfold rN dN
 have:=Pj (w.take n)
 rw [GA] at this;omega
theorem Iw:∀ (w:List Bool) (k:Nat),(pos k w).length=w.count false
 | [],_=>rfl
 | true::w,k=>by
  show (pos (k + 1) w).length=_;rw [Iw w,EJ];rfl
 | false::w,k=>by
  show (k::pos k w).length=_;rw [AY,Iw w,EJ];rfl
theorem SK:∀ (w:List Bool) (k:Nat),∀ n∈pos k w,n<=k + w.count true
 | [],_,_,h=>nomatch h
 | true::w,k,n,h=>by
  have:=SK w (k + 1) n h
  rw [EJ];simp only [beq_self_eq_true,if_true];omega
 | false::w,k,n,h=>by
  rw [EJ];rcases jb8.mp h with e | e
  ·omega
  ·have:=SK w k n e
   omega
theorem SN:∀ (w:List Bool) (k:Nat),(pos k w).Pairwise (·<=·)
 | [],_=>.nil
 | true::w,k=>SN w (k + 1)
 | false::w,k=>jf6.mpr ⟨λ n h=>MK w k n h,SN w k⟩
theorem K9:∀ (w:List Bool) (k j n:Nat),j < (pos k w).length->(j + 1<=dN w n↔(pos k w).getD j 0 + j + 1<=n + k)
 | [],_,_,_,h=>nomatch h
 | true::w,k,j,n,h=>by
  have h:j < (pos (k + 1) w).length:=h;show _↔(pos (k + 1) w).getD j 0 + j + 1<=n + k;cases n with
  | zero=>
   have e:dN (true::w) 0=0:=rfl
   have:k + 1<=(pos (k + 1) w).getD j 0:=by
    rw [A7,Bb h];exact MK w (k + 1) _ (CV h)
   omega
  | succ m=>
   have e:dN (true::w) (m + 1)=dN w m:=by
    unfold dN;rw [Ue,EJ];rfl
   have:=K9 w (k + 1) j m h
   omega
 | false::w,k,j,n,h=>by
  show _↔(k::pos k w).getD j 0 + j + 1<=n + k;have e0:dN (false::w) 0=0:=rfl;have e1:∀ m,dN (false::w) (m + 1)=dN w m + 1:=λ m=>by
   unfold dN;rw [Ue,EJ];rfl
  cases j with
  | zero=>
   show _↔k + 0 + 1<=n + k;cases n with
   | zero=>omega
   | succ m=>have:=e1 m;(clear h e0;omega)
  | succ i=>
   have h:i < (pos k w).length:=by
    have:i + 1 < (k::pos k w).length:=h
    rw [AY] at this
    (clear h e0;omega)
   show _↔(pos k w).getD i 0 + (i + 1) + 1<=n + k;cases n with
   | zero=>
    have:k<=(pos k w).getD i 0:=by
     rw [A7,Bb h];exact MK w k _ (CV h)
    omega
   | succ m=>
    have:=e1 m
    have:=K9 w k i m h
    (clear h e0;omega)
def Wd (a b:Nat) (w:List Bool):Prop:=w.count false=a/\w.count true=b
theorem Wd.len {a b:Nat}{w:List Bool} (h:Wd a b w):w.length=a + b:=by
 have:=Pj w
 have:=h.1
 have:=h.2
 omega
def Lw (u v:List Bool):Prop:=∀ n,rN v n<=rN u n
section
variable {a b c:Nat}{u v w:List Bool}
theorem jG (h:Wd a b w) (n:Nat):dN w n<=a:=by
 unfold dN;rw [<- h.1];exact (Ua n w).count_le false
theorem WY (hu:Wd a b u) (hv:Wd a b v):Lw u v↔∀ j,j < a->(pos 0 v).getD j 0<=(pos 0 u).getD j 0:=by
 have lu:=hu.len;have lv:=hv.len;have pu:(pos 0 u).length=a:=by rw [Iw];exact hu.1
 have pv:(pos 0 v).length=a:=by rw [Iw];exact hv.1
 constructor
 ·intro h j hj;have k1:=K9 u 0 j ((pos 0 u).getD j 0 + j + 1) (by (clear pv lv lu;omega));have k2:=K9 v 0 j ((pos 0 u).getD j 0 + j + 1) (by (clear k1 pu lv lu;omega));have k3:=h ((pos 0 u).getD j 0 + j + 1);have k4:=GL u ((pos 0 u).getD j 0 + j + 1);have k5:=GL v ((pos 0 u).getD j 0 + j + 1);have k6:=k1.mpr (by (clear k5 k4 k3 k2 k1 hj pv pu lv lu;omega));have k7:=k2.mp (by (clear k6 k2 hj pv pu;omega))
  (clear k7 k6 hj pv pu;omega)
 ·intro h n;have k4:=GL u n;have k5:=GL v n;by_cases q:dN u n=0
  ·(clear pv pu;omega)
  ·have d1:=jG hu n;have k1:=(K9 u 0 (dN u n - 1) n (by (clear k5 k4 pv lv lu;omega))).mp (by (clear d1 k5 k4 pv pu lv lu;omega));have k3:=h (dN u n - 1) (by (clear k1 k5 k4 pv pu lv lu;omega));have k2:=(K9 v 0 (dN u n - 1) n (by (clear k3 k1 k5 k4 pu lv lu;omega))).mpr (by (clear d1 q k5 k4 pv pu lv lu;omega))
   (clear k3 k1 d1 q pv pu;omega)
def BP (k:Nat) (w:List Bool) (n:Nat):Int×Int:=(-(k:Int) + (rN w n:Nat),(k:Int) + (dN w n:Nat))
def Ew (k:Nat) (w:List Bool):List (Int×Int):=(An (w.length + 1)).map (BP k w)
def Cf:Nat->List (List Bool)->List (Int×Int)
 | _,[]=>[]
 | k,w::ws=>Ew k w++Cf (k + 1) ws
theorem vt (k:Nat) (w:List Bool):(Ew k w).Nodup:=by
 unfold Ew;rw [List.nodup_iff_pairwise_ne,Qe];refine List.Pairwise.imp_of_mem (R:=(·< ·)) (λ {n m} hn hm h e=>?_) qQ;have hn:=jc2.mp hn;have hm:=jc2.mp hm;have k1:=GL w n;have k2:=GL w m;unfold BP at e;simp only [OE] at e;omega
theorem YX {k l:Nat} (hu:Wd a b u) (hv:Wd a b v):(∃ z,z∈Ew k u/\z∈Ew l v)↔∃ n,n<=a + b/\-(k:Int) + (rN u n:Nat)=-(l:Int) + (rN v n:Nat):=by
 have lu:=hu.len;have lv:=hv.len;constructor
 ·rintro ⟨z,h1,h2⟩;obtain ⟨n,hn,rfl⟩:=jc4.mp h1;obtain ⟨m,hm,e⟩:=jc4.mp h2;have hn:=jc2.mp hn;have hm:=jc2.mp hm;have k1:=GL u n;have k2:=GL v m;unfold BP at e;simp only [OE] at e
  have:m=n:=by (clear lv lu;omega)
  subst this;exact ⟨m,by (clear e k1 hn k2 lu;omega),by (clear k1 hn k2 hm lv lu;omega)⟩
 ·rintro ⟨n,hn,e⟩;have k1:=GL u n;have k2:=GL v n;refine ⟨BP k u n,jc4.mpr ⟨n,jc2.mpr (by (clear k2 k1 e lv;omega)),rfl⟩,jc4.mpr ⟨n,jc2.mpr (by (clear k2 k1 e lu;omega)),?_⟩⟩;unfold BP;simp only [OE];omega
theorem Yy (w:List Bool) (n:Nat):rN w (n + 1)=rN w n\/rN w (n + 1)=rN w n + 1:=by
 unfold rN;rw [qA,Lq];cases w[n]? with
 | none=>exact .inl rfl
 | some x=>cases x;exact .inl rfl;exact .inr rfl
theorem Xy (w:List Bool) {n:Nat} (h:w.length<=n):rN w n=w.count true:=by
 unfold rN;rw [Nm h]
theorem hY {k:Nat} (hu:Wd a b u) (hv:Wd a b v) (h:¬ ∃ z,z∈Ew k u/\z∈Ew (k + 1) v):Lw u v:=by
 rw [YX hu hv] at h;have main:∀ n,n<=a + b->rN v n<=rN u n:=λ n=>by
  induction n with
  | zero=>exact λ _=>A5 _
  | succ n ih=>
   intro hn;have k0:=ih (by omega);have k1:=Yy u n;have k2:=Yy v n;have k3:¬ (-(k:Int) + (rN u (n + 1):Nat)=-((k + 1:Nat):Int) + (rN v (n + 1):Nat)):=λ e=>h ⟨n + 1,hn,e⟩;omega
 intro n;by_cases hn:n<=a + b
 ·exact main n hn
 ·rw [Xy u (by rw [hu.len];omega),Xy v (by rw [hv.len];omega),hu.2,hv.2];exact A5 _
theorem Lw.trans (h:Lw u v) (h':Lw v w):Lw u w:=λ n=>BD (h' n) (h n)
theorem Zs {z:Int×Int}:∀ {ws:List (List Bool)}{k:Nat},z∈Cf k ws->∃ l w,k<=l/\w∈ws/\z∈Ew l w
 | [],_,h=>nomatch h
 | w::ws,k,h=>by
  rcases jh5.mp h with h | h
  ·exact ⟨k,w,A5 _,AD,h⟩
  ·obtain ⟨l,v,h1,h2,h3⟩:=Zs h;exact ⟨l,v,by omega,AE _ h2,h3⟩
theorem Z6:∀ (ws:List (List Bool)) (k:Nat),(∀ w∈ws,Wd a b w)->((Cf k ws).Nodup↔ws.Pairwise Lw)
 | [],_,_=>by
  constructor
  ·exact λ _=>.nil
  ·exact λ _=>TR
 | w::ws,k,hw=>by
  have ih:=Z6 ws (k + 1) λ v hv=>hw v (AE _ hv);show (Ew k w++Cf (k + 1) ws).Nodup↔_;rw [Lp,jf6];constructor
  ·rintro ⟨_,h2,h3⟩;have pw:=ih.mp h2;refine ⟨?_,pw⟩;cases ws with
   | nil=>exact λ v hv=>nomatch hv
   | cons v0 rest=>
    have l0:Lw w v0:=hY (k:=k) (hw w AD) (hw v0 (AE _ AD)) λ ⟨z,z1,z2⟩=>h3 z z1 z (Jb _ z2) rfl;intro v hv;rcases jb8.mp hv with rfl | hv
    ·exact l0
    ·exact l0.trans ((jf6.mp pw).1 v hv)
  ·rintro ⟨h1,h2⟩;refine ⟨vt k w,ih.mpr h2,λ z hz y hy e=>?_⟩;subst e;obtain ⟨l,v,hl,hv,hz'⟩:=Zs hy;obtain ⟨n,_,e⟩:=(YX (hw w AD) (hw v (AE _ hv))).mp ⟨z,hz,hz'⟩
   have:=h1 v hv n
   omega
def CS (w:List Bool):List Int:=((pos 0 w).reverse).map λ (n:Nat)=>(n:Int)
theorem Yk (h:Wd a b w):(CS w).length=a:=by unfold CS;rw [Ax,EK,Iw];exact h.1
theorem uh (h:Wd a b w) {i:Nat} (hi:i < a):(CS w).getD i 0=(((pos 0 w).getD (a - 1 - i) 0:Nat):Int):=by
 have pl:(pos 0 w).length=a:=by rw [Iw];exact h.1
 unfold CS;rw [A7,BO,Qj (by omega),pl,Bb (by omega),A7,Bb (show a - 1 - i < (pos 0 w).length by omega)];rfl
theorem Xw {α:Type}{R:α->α->Prop} (hR:∀ x y z,R x y->R y z->R x z):∀ {l:List α},(∀ i (h:i + 1 < l.length),R (l[i]'(by omega)) l[i + 1])->l.Pairwise R
 | [],_=>.nil
 | [x],_=>List.pairwise_singleton _ x
 | x::y::l,h=>by
  have ih:=Xw hR (l:=y::l) λ i hi=>h (i + 1) (by rw [AY];omega);have h0:R x y:=h 0 (by rw [AY,AY];omega);refine jf6.mpr ⟨λ z hz=>?_,ih⟩;rcases jb8.mp hz with rfl | hz
  ·exact h0
  ·exact hR x y z h0 ((jf6.mp ih).1 z hz)
theorem fU {ws:List (List Bool)} (hc:ws.length=c) (hw:∀ w∈ws,Wd a b w):Pile c a b (ws.map CS)↔ws.Pairwise Lw:=by
 have tb':Tab c a (ws.map CS):=⟨by rw [Ax];exact hc,λ r hr=>by obtain ⟨w,h,rfl⟩:=jc4.mp hr;exact Yk (hw w h)⟩
 have gt:∀ k i,(hk:k < ws.length)->i < a->g (ws.map CS) k i=(((pos 0 ws[k]).getD (a - 1 - i) 0:Nat):Int):=λ k i hk hi=>by
  unfold g;rw [show (ws.map CS).getD k []=CS ws[k] by rw [A7,BO,Bb hk];rfl];exact uh (hw _ (CV hk)) hi
 constructor
 ·intro p;refine Xw (λ x y z h1 h2=>h1.trans h2) λ i hi=>?_;rw [WY (hw _ (CV _)) (hw _ (CV _))];intro j hj;have k:=p.dn i (a - 1 - j) (by omega) (by (clear hi hc;omega));rw [gt (i + 1) (a - 1 - j) hi (by (clear k hi hc;omega)),gt i (a - 1 - j) (by (clear k hj hc;omega)) (by (clear k hi hc;omega)),show a - 1 - (a - 1 - j)=j by (clear k hi hc;omega)] at k;omega
 ·intro p;have pl:∀ k,(hk:k < ws.length)->(pos 0 ws[k]).length=a:=λ k hk=>by rw [Iw];exact (hw _ (CV hk)).1
  refine ⟨tb',λ k i hk hi=>?_,λ k i hk hi=>?_,λ k i hk hi=>?_,λ k i hk hi=>?_⟩
  ·rw [gt k i (by omega) hi];omega
  ·rw [gt k i (by omega) hi];have l:=pl k (by omega)
   have:=SK ws[k] 0 ((pos 0 ws[k]).getD (a - 1 - i) 0) (by rw [A7,Bb (by omega)];exact CV _)
   have:=(hw ws[k] (CV _)).2
   (clear l hi;omega)
  ·rw [gt (k + 1) i (by omega) hi,gt k i (by omega) hi];have k1:=(jk9.mp p) k (k + 1) (by omega) (by omega) (by (clear hi hk hc;omega));have k2:=(WY (hw _ (CV _)) (hw _ (CV _))).mp k1 (a - 1 - i) (by omega);omega
  ·rw [gt k (i + 1) (by omega) hi,gt k i (by omega) (by (clear hk hc;omega))];have l:=pl k (by omega);have k1:=(jk9.mp (SN ws[k] 0)) (a - 1 - (i + 1)) (a - 1 - i) (by omega) (by omega) (by (clear l hk hc;omega))
   rw [A7,Bb (show a - 1 - (i + 1) < (pos 0 ws[k]).length by omega),A7,Bb (show a - 1 - i < (pos 0 ws[k]).length by omega)];exact jv2.mpr k1
end
def Xf_must_be_two_piles:Fs:=(Ag (Bv (Ak f_must_be_pile pa0))
 (Bv (Ak f_must_be_pile pf8)))
def f_must_be_two_piles:Fn:=Ap false 3 0 Xf_must_be_two_piles
def Xf_places_of:Fs:=(Ag (Aj false 1 (Aq Bw (Ab)) [])
 (Ag (Fq Bn (Ad (Ac AQ (Aa 0) (bC (.int 0))) (Ab)) (asgN 2) (C1 1 (CN Bn (Ad pb5 (Ab)) 1 (asgN 3) AO (Aq BL pa5)) [2]))
 (C6 1)))
def f_places_of:Fn:=Ap false 1 2 Xf_places_of
abbrev _root_.pd5:=Ad (Aa 6) (Ad (Aa 7) (Ab))
abbrev _root_.pg2:=Aj false 3 (Aq Bw (Ab)) []
def Xf_pile_below:Fs:=(Ag (Bv (Ak f_must_be_two_piles (Ad (Aa 0) pa4)))
 (Ag pg2
 (Ag (ET .zp pa4 [1,2] (asgT [4,5]) (AW 3 (EX .zp pa9 2 (asgT [6,7]) AO (Aq Iz pd5)) [4,5,4,5,4,5]))
 (C6 3))))
def f_pile_below:Fn:=Ap false 3 3 Xf_pile_below
def Xf_pile_above:Fs:=(Ag (Bv (Ak f_must_be_two_piles (Ad (Aa 0) pa4)))
 (Ag pg2
 (Ag (ET .zp pa4 [1,2] (asgT [4,5]) (AW 3 (EX .zp pa9 2 (asgT [6,7]) AO (Aq JC pd5)) [4,5,4,5,4,5]))
 (C6 3))))
def f_pile_above:Fn:=Ap false 3 3 Xf_pile_above
abbrev _root_.pd4:=Ac AQ (Ac AQ (Aa 2) (Aa 3)) (Aa 4)
abbrev _root_.pd3:=Ac AQ (Ac AQ (Aa 1) (Aa 3)) (Aa 4)
def Xf_fewest_moved:Fs:=(Ag (Bv (Ak f_must_be_two_piles (Ad (Aa 0) pa4)))
 (As (Aq FO (Ad (BF (Ak f_places_of (Ad (Aa 0) (Ab))) 2 (asgT [3,4]) AO (Aq MA (Ad (Ac Dl pd3 pd4) (Ab)))) (Ab)))))
def f_fewest_moved:Fn:=Ap false 3 0 Xf_fewest_moved
def Xf_lies_below:Fs:=(Ag (Bv (Ak f_must_be_two_piles (Ad (Aa 0) pa4)))
 (As (Aq Ep (Ad (BF (Ak f_places_of (Ad (Aa 0) (Ab))) 2 (asgT [3,4]) AO (Ac (Dm λ i j=>decide (i<=j)) pd3 pd4)) (Ab)))))
def f_lies_below:Fn:=Ap false 3 0 Xf_lies_below
theorem Q5 {α:Type}{k:Nat}{asg:PV->Af->Option Af}{test:Fb}{elt:Fx}{enc q:α->PV}{E:α->Af}{e:α->Nat}{p:α->Bool}:∀ (xs:List α) (ρ:Af) (acc:List (PV×Nat)),(∀ x∈xs,asg (enc x) (ρ++A6 k none)=some (ρ++E x)) ->
  (∀ x∈xs,test (ρ++E x)=.ok (p x,ρ++E x))->(∀ x∈xs,p x=true->elt (ρ++E x)=.ok (q x,e x,ρ++E x))->acc.length + xs.length<=Au->DK k asg test elt (xs.map enc) ρ acc=.ok (acc++(xs.filter p).map (λ x=>(q x,e x)),ρ)
 | [],ρ,acc,_,_,_,_=>by simp [DK]
 | x::xs,ρ,acc,ha,ht,he,hl=>by
  have ih:=λ acc h=>Q5 (k:=k) (asg:=asg) (test:=test) (elt:=elt) (p:=p) (q:=q) (e:=e) (enc:=enc) (E:=E) xs ρ acc (λ y hy=>ha y (AE _ hy)) (λ y hy=>ht y (AE _ hy)) (λ y hy=>he y (AE _ hy)) h;have tk:(ρ++E x).take ρ.length=ρ:=by simp
  rw [AY] at hl;rw [AR];unfold DK;rw [ha x AD];dsimp only;rw [ht x AD];dsimp only [Rz.bindN];cases hp:p x with
  | false=>rw [if_neg Ce,tk,ih acc (by omega),Uk (by simp [hp])]
  | true=>
   rw [if_pos rfl,he x AD hp];dsimp only;rw [if_pos (by omega),tk,ih _ (by rw [Bm,GC];omega),Uj hp];simp
theorem ZX {α:Type}{q:α->PV}{xs:List α}{ρ:Af}:DN ([]++xs.map λ x=>(q x,om)) ρ=.ok (.lst (xs.map q),om,ρ):=by
 rw [Ex];unfold DN;rw [Jg,BC];rfl
theorem jT {α:Type}{k:Nat}{v:Vw}{fa:Fa}{asg:PV->Af->Option Af}{elt:Fx}{enc q:α->PV}{E:α->Af}{ρ ρ1:Af}{as:List (PV×Nat)} (xs:List α) (hf:fa ρ=.ok (as,ρ1)) (hv:Iu v (as.map (·.1))=some (xs.map enc)) (ha:∀ x∈xs,asg (enc x) (ρ1++A6 k none)=some (ρ1++E x))
  (he:∀ x∈xs,elt (ρ1++E x)=.ok (q x,om,ρ1++E x)) (hl:xs.length<=Au):EX v fa k asg AO elt ρ=.ok (.lst (xs.map q),om,ρ1):=by
 unfold EX Ej CA;rw [hf];dsimp only [Rz.bind];rw [hv];dsimp only;rw [Q5 (p:=λ _=>true) (q:=q) (e:=λ _=>om) xs ρ1 [] ha (λ _ _=>rfl) (λ x hx _=>he x hx) (by simpa using hl),jg2.mpr (λ _ _=>rfl)];exact ZX
theorem WM {α:Type}{k:Nat}{f:Fx}{asg:PV->Af->Option Af}{test:Fb}{elt:Fx}{enc q:α->PV}{E:α->Af}{p:α->Bool}{ρ ρ1:Af}{d:Nat} (xs:List α) (hf:f ρ=.ok (.lst (xs.map enc),d,ρ1)) (ha:∀ x∈xs,asg (enc x) (ρ1++A6 k none)=some (ρ1++E x))
  (ht:∀ x∈xs,test (ρ1++E x)=.ok (p x,ρ1++E x)) (he:∀ x∈xs,p x=true->elt (ρ1++E x)=.ok (q x,om,ρ1++E x)) (hl:xs.length<=Au):BF f k asg test elt ρ=.ok (.lst ((xs.filter p).map q),om,ρ1):=by
 unfold BF Ej C0;rw [hf];dsimp only [Rz.bind];rw [Q5 (p:=p) (q:=q) (e:=λ _=>om) xs ρ1 [] ha ht he (by simpa using hl)];exact ZX
theorem V5 {α:Type} (xs:List α):xs.filter (λ _=>true)=xs:=jg2.mpr λ _ _=>rfl
theorem Ky {α:Type}{asg:PV->Af->Option Af}{body:Fs}{enc:α->PV} (P:List α->Af->Prop):∀ (xs pre:List α) (ρ:Af),P pre ρ->(∀ p x s ρ,pre++xs=p++x::s->P p ρ->∃ ρ1 ρ2,asg (enc x) ρ=some ρ1/\body ρ1=.nx ρ2/\P (p++[x]) ρ2) ->
  ∃ ρ',Bu asg body (xs.map enc) ρ=.nx ρ'/\P (pre++xs) ρ'
 | [],pre,ρ,h,_=>⟨ρ,rfl,by simpa using h⟩
 | x::xs,pre,ρ,h,hb=>by
  obtain ⟨ρ1,ρ2,e1,e2,h2⟩:=hb pre x xs ρ rfl h;obtain ⟨ρ',e',h'⟩:=Ky P xs (pre++[x]) ρ2 h2 λ p y s ρ e=>hb p y s ρ (by rw [<- e];simp);refine ⟨ρ',?_,by simpa using h'⟩;rw [AR];unfold Bu;rw [e1];dsimp only;rw [e2];exact e'
theorem ZW {α β:Type}{asg:PV->Af->Option Af}{body:Fs}{enc:α->PV}{q:α->β}{N:Nat} (P:List β->Af->Prop):∀ (xs:List α) (acc:List β) (ρ:Af),acc.length + xs.length<=N->P acc ρ->(∀ x∈xs,∀ ys ρ,ys.length < N->P ys ρ->∃ ρ1 ρ2,asg (enc x) ρ=some ρ1/\body ρ1=.nx ρ2/\P (ys++[q x]) ρ2) ->
  ∃ ρ',Bu asg body (xs.map enc) ρ=.nx ρ'/\P (acc++xs.map q) ρ'
 | [],acc,ρ,_,h,_=>⟨ρ,rfl,by simpa using h⟩
 | x::xs,acc,ρ,hN,h,hb=>by
  rw [AY] at hN;obtain ⟨ρ1,ρ2,e1,e2,h2⟩:=hb x AD acc ρ (by omega) h;obtain ⟨ρ',e',h'⟩:=ZW P xs (acc++[q x]) ρ2 (by rw [Bm,GC];omega) h2 λ y hy=>hb y (AE _ hy);refine ⟨ρ',?_,by rw [AR];rw [Ig] at h';exact h'⟩;rw [AR];unfold Bu;rw [e1];dsimp only;rw [e2];exact e'
theorem Th {v:Vw}{fa:Fa}{vs:List Nat}{asg:PV->Af->Option Af}{body:Fs}{ρ ρ1 ρ2:Af}{r:Rs}{xs:List (PV×Nat)}{els:List PV} (hf:fa ρ=.ok (xs,ρ1)) (he:Iu v (xs.map (·.1))=some els) (ec:Bf (if CP xs=true then om else 0) vs ρ1=ρ2) (h:Bu asg body els ρ2=r):ET v fa vs asg body ρ=r:=by
 unfold ET E3 CA;rw [hf];dsimp only [Rz.bind];rw [he];dsimp only;rw [ec,h]
theorem Tg {f:Fx}{vs:List Nat}{asg:PV->Af->Option Af}{body:Fs}{ρ ρ1 ρ2:Af}{r:Rs}{els:List PV}{d:Nat} (hf:f ρ=.ok (.lst els,d,ρ1)) (ec:Bf d vs ρ1=ρ2) (h:Bu asg body els ρ2=r):Dr f vs asg body ρ=r:=by
 unfold Dr E3 C0;rw [hf];dsimp only [Rz.bind];rw [ec,h]
theorem yJ {en:List (PV×Nat)->Option (Int×Int)}{fa:Fa}{asg:PV->Af->Option Af}{body:Fs}{ρ ρ1:Af}{r:Rs}{as:List (PV×Nat)}{n:Nat} (hf:fa ρ=.ok (as,ρ1)) (hen:en as=some (0,(n:Int))) (h:Bu asg body ((An n).map λ (k:Nat)=>.int (k:Int)) ρ1=r):Fq en fa asg body ρ=r:=by
 unfold Fq E3 CT;rw [hf];dsimp only [Rz.bind];rw [hen];dsimp only;rw [NI,show ((n:Int) - 0).toNat=n by omega,<- h];congr 2;funext k;rw [EI]
theorem Rh {α β:Type} (f:α->PV) (h:β->PV):∀ (xs:List α) (ys:List β),B9 (xs.map f) (ys.map h)=(xs.zip ys).map λ z=>.tup [f z.1,h z.2]
 | [],_=>by simp [B9]
 | _::_,[]=>by simp [B9]
 | x::xs,y::ys=>by
  rw [AR,AR,B9,Rh f h xs ys];rfl
theorem wt {x y z:PV} (h1:f_must_be_pile [x,y]=.ok (.non,om,.non)) (h2:f_must_be_pile [x,z]=.ok (.non,om,.non)):f_must_be_two_piles [x,y,z]=.ok (.non,om,.non):=
 Pk rfl ((A3 (DH (AJ (xs:=[(x,dv x),(y,dv y)]) rfl h1))).trans (DH (AJ (xs:=[(x,dv x),(z,dv z)]) rfl h2)))
def zT (h:Int->Int->Int) (t u:List (List Int)):List (List Int):=(t.zip u).map λ z=>JL h z.1 z.2
def nC (op:List (PV×Nat)->Option (PV×Nat)):Fs:=(Ag (Bv (Ak f_must_be_two_piles (Ad (Aa 0) pa4)))
 (Ag pg2
 (Ag (ET .zp pa4 [1,2] (asgT [4,5]) (AW 3 (EX .zp pa9 2 (asgT [6,7]) AO (Aq op pd5)) [4,5,4,5,4,5]))
 (C6 3))))
theorem WJ {op:List (PV×Nat)->Option (PV×Nat)}{h:Int->Int->Int} (hop:∀ i j,op [(.int i,om),(.int j,om)]=some (.int (h i j),om)) {a b c:Nat}{t u:List (List Int)} (ht:Tab a b t) (hu:Tab a b u) (ha:a<=1000) (hb:b<=1000)
  (h2:f_must_be_two_piles [bx a b c,tb t,tb u]=.ok (.non,om,.non)):Ap false 3 3 (nC op) [bx a b c,tb t,tb u]=.ok (tb (zT h t u),om,.non):=by
 have z:=sz;let R (s3 s4 s5:QQ.Slot):Af:=[some (bx a b c,0),some (tb t,0),some (tb u,0),s3,s4,s5]
 have s1:Bv (Ak f_must_be_two_piles (Ad (Aa 0) pa4)) (R none none none)=.nx (R none none none):=DH (AJ (xs:=[(bx a b c,0),(tb t,0),(tb u,0)]) rfl h2);have s2:Aj false 3 (Aq Bw (Ab)) [] (R none none none)=.nx (R (some (tb [],om)) none none):=by kernel_rfl
 have row:∀ (r s:List Int) (s3:QQ.Slot),r.length=b->s.length=b->EX .zp pa9 2 (asgT [6,7]) AO (Aq op pd5) (R s3 (some (il r,0)) (some (il s,0)))=.ok (il (JL h r s),om,R s3 (some (il r,0)) (some (il s,0))):=by
  intro r s s3 hr hs;rw [jT (enc:=λ (z:Int×Int)=>.tup [.int z.1,.int z.2]) (q:=λ z=>.int (h z.1 z.2)) (E:=λ z=>[some (.int z.1,om),some (.int z.2,om)]) (r.zip s) rfl (by show some (B9 (r.map PV.int) (s.map PV.int))=_;rw [Rh]) (λ _ _=>rfl) (λ z _=>CO (xs:=[(.int z.1,om),(.int z.2,om)]) rfl (hop _ _)) (by rw [Ln];(clear hs ha;omega))];show Rz.ok (PV.lst _,om,_)=Rz.ok (PV.lst ((JL h r s).map PV.int),om,_);rw [<- List.map_uncurry_zip_eq_zipWith,BC];rfl
 obtain ⟨ρ',e',s5,s6,rfl⟩:=ZW (asg:=asgT [4,5]) (body:=AW 3 (EX .zp pa9 2 (asgT [6,7]) AO (Aq op pd5)) [4,5,4,5,4,5]) (enc:=λ (z:List Int×List Int)=>.tup [il z.1,il z.2]) (q:=λ z=>JL h z.1 z.2) (N:=a)
  (λ ys ρ=>∃ s4 s5,ρ=R (some (tb ys,om)) s4 s5) (t.zip u) [] (R (some (tb [],om)) none none) (by rw [JO,Ln,ht.1];(clear z hb ha;omega)) ⟨none,none,rfl⟩ (by
   rintro z hz ys _ hy ⟨s4,s5,rfl⟩;have h1:=ht.2 z.1 (JP hz).1;have h2:=hu.2 z.2 (JP hz).2;refine ⟨R (some (tb ys,om)) (some (il z.1,0)) (some (il z.2,0)),_,rfl,GK (xs:=ys.map il) (d:=om) (d0:=999) rfl (row z.1 z.2 _ h1 h2) rfl (by decide) (by rw [Ax];(clear h2 h1 hb;omega)) rfl,some (il z.1,0),some (il z.2,0),?_⟩;show R (some (PV.lst (ys.map il++[il (JL h z.1 z.2)]),om)) _ _=R (some (PV.lst ((ys++[JL h z.1 z.2]).map il),om)) _ _;rw [B5]
   rfl)
 rw [Ex] at e';have s3:=Th (v:=.zp) (fa:=Ad (Aa 1) (Ad (Aa 2) Ab)) (vs:=[1,2]) (ρ:=R (some (tb [],om)) none none) (xs:=[(tb t,0),(tb u,0)]) (els:=(t.zip u).map λ z=>.tup [il z.1,il z.2]) rfl (by show some (B9 (t.map il) (u.map il))=_;rw [Rh]) rfl e';exact Bg rfl ((A3 s1).trans ((A3 s2).trans ((A3 s3).trans rfl)))
theorem Y7 {a b c:Nat}{t u:List (List Int)} (ht:Tab a b t) (hu:Tab a b u) (ha:a<=1000) (hb:b<=1000) (h2:f_must_be_two_piles [bx a b c,tb t,tb u]=.ok (.non,om,.non)):f_pile_below [bx a b c,tb t,tb u]=.ok (tb (zT (λ i j=>if j < i then j else i) t u),om,.non):=
 WJ (op:=Iz) (λ _ _=>rfl) ht hu ha hb h2
theorem dA {a b c:Nat}{t u:List (List Int)} (ht:Tab a b t) (hu:Tab a b u) (ha:a<=1000) (hb:b<=1000) (h2:f_must_be_two_piles [bx a b c,tb t,tb u]=.ok (.non,om,.non)):f_pile_above [bx a b c,tb t,tb u]=.ok (tb (zT (λ i j=>if j > i then j else i) t u),om,.non):=
 WJ (op:=JC) (λ _ _=>rfl) ht hu ha hb h2
def DJ (a b:Nat):List (Nat×Nat):=(An a).flatMap λ i=>(An b).map λ j=>(i,j)
def pr (z:Nat×Nat):PV:=.tup [.int (z.1:Int),.int (z.2:Int)]
theorem zqr {a b:Nat}{z:Nat×Nat}:z∈DJ a b↔z.1 < a/\z.2 < b:=by
 unfold DJ;simp only [JQ,jc4,jc2];constructor
 ·rintro ⟨i,hi,j,hj,rfl⟩;exact ⟨hi,hj⟩
 ·intro h;exact ⟨z.1,h.1,z.2,h.2,rfl⟩
theorem YH {α:Type}{q:Nat->List α}{b:Nat} (h:∀ i,(q i).length=b):∀ a,((An a).flatMap q).length=a * b
 | 0=>by simp
 | a + 1=>by rw [CD,Lr,Bm,YH h a,Nf];simp [h]
theorem Qq (a b:Nat):(DJ a b).length=a * b:=YH (λ i=>by rw [Ax,CF]) a
theorem vB {R:Af}{fn:Fx}{b i:Nat}{n:Nat} (hb:b<=100) (hn:R.length=n) (hf:fn R=.ok (.int (b:Int),om,R)) (he:∀ k,k < b->Aq BL (Ad (Aa 2) (Ad (Aa n) (Ab))) (R++[some (.int (k:Int),om)])=.ok (pr (i,k),om,R++[some (.int (k:Int),om)])):
  CN Bn (Ad fn (Ab)) 1 (asgN n) AO (Aq BL (Ad (Aa 2) (Ad (Aa n) (Ab)))) R=.ok (.lst (((An b).map λ j=>(i,j)).map pr),om,R):=by
 have z:=sz;have w:=Hm (n:=n) (en:=Bn) (fa:=Ad fn Ab) (elt:=Aq BL (Ad (Aa 2) (Ad (Aa n) (Ab)))) (ρ:=R) (ρ1:=R) (as:=[(.int (b:Int),om)]) (lo:=0) (hi:=(b:Int)) (q:=λ m=>pr (i,m)) (BE hf) (Em (by (clear z hn hb;omega)) (by (clear z hn;omega))) hn (λ m hm=>by rw [EI];exact he m (by (clear z hn hb;omega))) (by omega);rw [w,show ((b:Int) - 0).toNat=b by (clear z hn hb;omega),BC];rfl
theorem VU (a b:Nat):DJ (a + 1) b=DJ a b++(An b).map λ j=>(a,j):=by
 unfold DJ;rw [CD,Lr];simp
theorem ZJ {a b c:Nat} (ha:a<=100) (hb:b<=100):∃ d,d≠0/\f_places_of [bx a b c]=.ok (.lst ((DJ a b).map pr),d,.non):=by
 have z:=sz;let R (s1 s2:QQ.Slot):Af:=[some (bx a b c,0),s1,s2]
 have s1:Aj false 1 (Aq Bw (Ab)) [] (R none none)=.nx (R (some (.lst [],om)) none):=by kernel_rfl
 obtain ⟨ρ',e',d,s2,hd,rfl⟩:=Kv (i:=2) (en:=Bn) (fa:=Ad (Ac AQ (Aa 0) (bC (.int 0))) Ab) (body:=C1 1 (CN Bn (Ad pb5 (Ab)) 1 (asgN 3) AO (Aq BL pa5)) [2]) (ρ:=R (some (.lst [],om)) none) (lo:=0) (hi:=(a:Int)) (as:=[(.int (a:Int),om)])
  (λ k ρ=>∃ d s2,d≠0/\ρ=R (some (.lst ((DJ k b).map pr),d)) s2) rfl (Em (by (clear z hb ha;omega)) (by (clear z hb;omega))) ⟨om,none,by decide,rfl⟩ (by
   rintro i _ hi ⟨d,s2,hd,rfl⟩;obtain ⟨d0,rfl⟩:∃ d0,d=d0 + 1:=⟨d - 1,by (clear hi z hb ha;omega)⟩
   rw [EI];refine ⟨(show 2 < 3 by decide),_,S6 (i:=1) (d0:=d0) (d:=d0 + 1) rfl (vB (R:=R (some (.lst ((DJ i b).map pr),d0 + 1)) (some (.int (i:Int),om))) (i:=i) hb rfl rfl λ k _=>rfl) rfl hd ?_ rfl,1,some (.int (i:Int),om),by decide,?_⟩
   ·rw [Ax,Ax,Ax,CF,Qq]
    have:i * b<=100 * 100:=IU (by (clear hd z hb;omega)) hb
    (clear hd hi ha;omega)
   ·show R (some (PV.lst ((DJ i b).map pr++((An b).map λ j=>(i,j)).map pr),1)) _=R (some (PV.lst ((DJ (i + 1) b).map pr),1)) _;rw [VU,B5])
 rw [show ((a:Int) - 0).toNat=a by (clear hd z hb ha;omega)] at e';exact ⟨d,hd,Bg rfl ((A3 s1).trans ((A3 e').trans rfl))⟩
def IS (a b:Nat) (t u:List (List Int)):Bool:=(DJ a b).all λ z=>decide (g t z.1 z.2<=g u z.1 z.2)
theorem XY {a b c:Nat}{t u:List (List Int)} (ht:Tab a b t) (hu:Tab a b u) (ha:a<=100) (hb:b<=100) (h2:f_must_be_two_piles [bx a b c,tb t,tb u]=.ok (.non,om,.non)):f_lies_below [bx a b c,tb t,tb u]=.ok (.bl (IS a b t u),om,.non):=by
 have z:=sz;let R:Af:=[some (bx a b c,0),some (tb t,0),some (tb u,0)]
 have s1:Bv (Ak f_must_be_two_piles (Ad (Aa 0) pa4)) R=.nx R:=DH (AJ (xs:=[(bx a b c,0),(tb t,0),(tb u,0)]) rfl h2);obtain ⟨d,_,hp⟩:=ZJ (c:=c) ha hb;have e1:=WM (k:=2) (f:=Ak f_places_of (Ad (Aa 0) (Ab))) (asg:=asgT [3,4]) (test:=AO) (elt:=Ac (Dm λ i j=>decide (i<=j)) pd3 pd4) (enc:=pr) (q:=λ z=>.bl (decide (g t z.1 z.2<=g u z.1 z.2))) (E:=λ z=>[some (.int (z.1:Int),om),some (.int (z.2:Int),om)]) (p:=λ _=>true) (ρ:=R) (DJ a b) (AJ (xs:=[(bx a b c,0)]) rfl hp) (λ _ _=>rfl) (λ _ _=>rfl)
  (λ z hz _=>Js (KD (i:=z.1) (j:=z.2) ht (d:=0) rfl rfl rfl (zqr.mp hz).1 (zqr.mp hz).2) (KD (i:=z.1) (j:=z.2) hu (d:=0) rfl rfl rfl (zqr.mp hz).1 (zqr.mp hz).2)) (by rw [Qq];have:a * b<=100 * 100:=IU ha hb;(clear hb ha;omega))
 rw [V5] at e1;exact Bg rfl ((A3 s1).trans (Ci (FP e1)))
def wl (ws:List (List Bool)):PV:=.lst (ws.map wd)
theorem wB (w:List Bool) (hw:w.length<=1000):f_staircase_of_way [wd w]=.ok (il (CS w),om,.non):=by
 have z:=sz;let R (acc:List Nat) (m:Nat) (s3:QQ.Slot):Af:=[some (wd w,om),some (il (acc.map λ (n:Nat)=>(n:Int)),om),some (.int (m:Int),om),s3]
 have v1:Aj false 1 (Aq Bw (Ab)) [] [some (wd w,om),none,none,none]=.nx [some (wd w,om),some (il [],om),none,none]:=rfl;have v2:Aj false 2 (bC (.int 0)) [] [some (wd w,om),some (il [],om),none,none]=.nx (R [] 0 none):=rfl;obtain ⟨ρ',v3,s3,rfl⟩:=YJ (f:=Aa 0) (vs:=[0]) (asg:=asgN 3) (body:=AV (bT pd7) pc8 (AW 1 (Aa 2) [2])) (ρ:=R [] 0 none) (w:=w) (λ n ρ=>∃ s3,ρ=R (pos 0 (w.take n)) (rN w n) s3) rfl ⟨none,by rw [Lm];rfl⟩ (by
  rintro n x ρ hx ⟨s3,rfl⟩;have es:w.take (n + 1)=w.take n++[x]:=by rw [Nh,hx];rfl
  have er:rN w (n + 1)=rN w n + [x].count true:=by unfold rN;rw [es,Lq]
  let A:=pos 0 (w.take n);let m:=rN w n;cases x with
  | true=>
   refine ⟨R A m (some (wd [true],om)),R A (m + 1) (some (wd [true],om)),rfl,?_,some (wd [true],om),?_⟩
   ·have t1:bT pd7 (R A m (some (wd [true],om)))=.ok (true,R A m (some (wd [true],om))):=by kernel_rfl
    exact (CH t1).trans rfl
   ·rw [es,Oy,er];show R A (m + 1) _=R (A++[]) (m + 1) _;rw [G9]
  | false=>
   refine ⟨R A m (some (wd [false],om)),R (A++[m]) m (some (wd [false],om)),rfl,?_,some (wd [false],om),?_⟩
   ·have t1:bT pd7 (R A m (some (wd [false],om)))=.ok (false,R A m (some (wd [false],om))):=by kernel_rfl
    have la:A.length<=1000:=by
     show (pos 0 (w.take n)).length<=1000;rw [Iw];exact BD List.count_le_length (by rw [GA];(clear er z;omega))
    refine (CW t1).trans ((GK (i:=1) (xs:=(A.map λ (n:Nat)=>(n:Int)).map PV.int) (xs0:=(A.map λ (n:Nat)=>(n:Int)).map PV.int) (d:=om) (d0:=999) (y:=.int (m:Int)) (e:=om) (ρ1:=R A m (some (wd [false],om))) rfl rfl rfl (by decide) (by rw [Ax,Ax];(clear er hw;omega)) rfl).trans ?_);rw [ym];show _=Rs.nx [some (wd w,om),some (il ((A++[m]).map λ (n:Nat)=>(n:Int)),om),_,_];rw [B5];rfl
   ·rw [es,Oy,er];show R (A++[m]) m _=R (A++[0 + m]) (m + 0) _;rw [He]
    rfl)
 rw [Qc] at v3;have v4:AL Lg (Aa 1) (R (pos 0 w) (rN w w.length) s3)=.ok (il (CS w),om,R (pos 0 w) (rN w w.length) s3):=by
  refine Su (x:=il ((pos 0 w).map λ (n:Nat)=>(n:Int))) (d:=0) rfl ?_;show some (PV.lst (((pos 0 w).map λ (n:Nat)=>(n:Int)).map PV.int).reverse,d1 (((pos 0 w).map λ (n:Nat)=>(n:Int)).map PV.int).reverse)=_;rw [<- JR,MH,<- JR];rfl
 exact Bg rfl ((A3 v1).trans ((A3 v2).trans ((A3 v3).trans (Ci v4))))
section
variable {a b c:Nat}{w:List Bool}{ws:List (List Bool)}
theorem dG (h:Wd a b w) (hab:a + b<=1000):f_is_way [bx a b c,wd w]=.ok (.bl true,om,.non):=by
 have z:=sz;have hlw:=h.len;let R:Af:=[some (bx a b c,0),some (wd w,om),some (.int (a:Int),om),some (.int (b:Int),om),some (.int (c:Int),om)]
 have v1:BB (asgT [2,3,4]) (Aa 0) [0] [some (bx a b c,0),some (wd w,om),none,none,none]=.nx R:=rfl;have ln:Aq FI (Ad (Aa 1) (Ab)) R=.ok (.int (w.length:Int),om,R):=by
  refine CO (BE (x:=wd w) (d:=om) rfl) ?_;show (if (AS w).length<=Au then some (PV.int ((AS w).length:Nat),om) else none)=_;rw [if_pos (by rw [K0];omega),K0]
 have t1:=Gp (neg:=true) ln (Ez (f:=Aa 2) (g:=Aa 3) (i:=(a:Int)) (j:=(b:Int)) (d:=om) (e:=om) (ρ2:=R) rfl rfl);rw [decide_eq_true (show (w.length:Int)=(a:Int) + b by have:=h.len;(clear this z hab;omega))] at t1;have t2:=AK ((ZZ (f:=AL BU (AL (E7 "str") (Aa 1))) (ρ:=R) (ρ1:=R) (d:=om) rfl).trans t1);have cn:∀ (x:Bool) (f:Fx),f R=.ok (wd [x],om,R)->Jd JA (Aa 1) (Ad f Ab) R=.ok (.int (w.count x:Nat),om,R):=λ x f hf=>by
  have:Jd JA (Aa 1) (Ad f Ab) R=.ok (.int (Eh (Hd x) (AS w).cps.toList:Nat),om,R):=jx (z:=AS w) (d:=om) rfl (BE hf) (by cases x <;> rfl)
  rw [this,ja]
 have k1:=Gp (neg:=false) (cn false (bC (.str "d")) rfl) (g:=Aa 2) (j:=(a:Int)) (e:=om) rfl;have k2:=Gp (neg:=false) (cn true (bC (.str "r")) rfl) (g:=Aa 3) (j:=(b:Int)) (e:=om) rfl;rw [h.1,decide_eq_true rfl] at k1;rw [h.2,decide_eq_true rfl] at k2;exact Bg rfl ((A3 v1).trans ((Eo t2).trans (Ci (MD k1 (λ _=>k2) rfl))))
theorem V8 (h:∀ w∈ws,Wd a b w) (hab:a + b<=1000) (hl:ws.length<=1000):f_is_list_of_ways [bx a b c,wl ws]=.ok (.bl true,om,.non):=by
 have z:=sz;let R:Af:=[some (bx a b c,0),some (wl ws,0)]
 have e1:=FJ (n:=2) (f:=Aa 1) (elt:=Ak f_is_way pf8) (enc:=wd) (q:=λ _=>.bl true) (ρ:=R) (ρ1:=R) (d:=0) ws rfl rfl (λ w hw=>AJ (xs:=[(bx a b c,0),(wd w,om)]) rfl (dG (h w hw) hab)) (by omega);have e2:=FP (g:=λ _=>true) e1;rw [show (ws.all λ _=>true)=true by simp] at e2;exact Bg rfl (Ci (MD (f:=AL (E7 "list") (Aa 1)) (a:=true) (ρ:=R) (ρ1:=R) (d:=om) rfl (λ _=>e2) rfl))
theorem Vg (h:∀ w∈ws,Wd a b w) (hab:a + b<=1000) (hl:ws.length<=1000) {R:Af} (hR:Aa 1 R=.ok (wl ws,0,R)) (hn:R.length=2):BF (Aa 1) 1 (asgN 2) AO ph8 R=.ok (tb (ws.map CS),om,R):=by
 have z:=sz;have e1:=FJ (n:=2) (f:=Aa 1) (elt:=Ak f_staircase_of_way (Ad (Aa 2) (Ab))) (enc:=wd) (q:=λ w=>il (CS w)) (ρ:=R) (ρ1:=R) (d:=0) ws hR hn (λ w hw=>AJ (xs:=[(wd w,om)]) (by
  refine BE ?_;unfold Aa;rw [GF (by (clear z hl hab;omega)),hn]
  rfl) (wB w (by rw [(h w hw).len];(clear z hn hl;omega)))) (by (clear hn hab;omega))
 refine e1.trans ?_;unfold tb;rw [BC];rfl
theorem Rc (h:∀ w∈ws,Wd a b w) (hc:ws.length=c):Tab c a (ws.map CS):=⟨by rw [Ax];exact hc,λ r hr=>by obtain ⟨w,hw,rfl⟩:=jc4.mp hr;exact Yk (h w hw)⟩
theorem fZ (h:∀ w∈ws,Wd a b w) (hl:ws.length=c) (ha:1<=a/\a<=6) (hb:1<=b/\b<=6) (hc:1<=c/\c<=6):f_are_ways [bx a b c,wl ws]=.ok (.bl (Gm c a b (ws.map CS)),om,.non):=by
 let R:Af:=[some (bx a b c,0),some (wl ws,0)]
 have v1:Bv pa8 R=.nx R:=DH (AJ (xs:=[(bx a b c,0)]) rfl (LA (by unfold Dc;rw [decide_eq_true (by (clear hc hb hl;omega)),decide_eq_true (by (clear hc ha hl;omega)),decide_eq_true (by (clear hb ha hl;omega))];rfl)));have t1:=AK (Gr (AJ (F:=f_is_list_of_ways) (fa:=Ad (Aa 0) (Ad (Aa 1) Ab)) (ρ:=R) (xs:=[(bx a b c,0),(wl ws,0)]) rfl (V8 h (by (clear hc hl;omega)) (by (clear hb ha;omega)))));have k:=AJ (F:=f_are_stairs) (Cu (f:=Aa 0) (x:=bx a b c) (d:=0) (ρ:=R) rfl (BE (Vg h (by (clear hc hl;omega)) (by (clear hb ha;omega)) rfl rfl))) (Vq (Rc h hl) (by (clear hc hb hl;omega)) (by (clear hc ha hl;omega)) (by (clear hb ha hl;omega)));exact Bg rfl ((A3 v1).trans ((Eo t1).trans (Ci k)))
theorem vg (h:∀ w∈ws,Wd a b w) (hl:ws.length=c) (ha:1<=a/\a<=6) (hb:1<=b/\b<=6) (hc:1<=c/\c<=6) (hp:Gm c a b (ws.map CS)=true):f_pile_of_ways [bx a b c,wl ws]=.ok (tb (EW (ws.map CS) a b),om,.non):=by
 let R:Af:=[some (bx a b c,0),some (wl ws,0)]
 have t1:=AK (Gr (AJ (F:=f_are_ways) (fa:=Ad (Aa 0) (Ad (Aa 1) Ab)) (ρ:=R) (xs:=[(bx a b c,0),(wl ws,0)]) rfl (fZ h hl ha hb hc)));rw [hp] at t1;have k:=AJ (F:=f_pile_of_stairs) (Cu (f:=Aa 0) (x:=bx a b c) (d:=0) (ρ:=R) rfl (BE (Vg h (by (clear hc hl;omega)) (by (clear hb ha;omega)) rfl rfl))) (Vn (Rc h hl) (by (clear hc hb hl;omega)) (by (clear hc ha hl;omega)) (by (clear hb ha hl;omega)) hp);exact Bg rfl ((Eo t1).trans (Ci k))
end
def pt (z:Int×Int):PV:=.tup [.int z.1,.int z.2]
section
variable {a b c:Nat}{w:List Bool}{ws:List (List Bool)}
theorem vx (w:List Bool) (k:Nat) (hw:w.length<=1000):f_points_moved_apart [wd w,.int (k:Int)]=.ok (.lst ((Ew k w).map pt),om,.non):=by
 have z:=sz;let P (n:Nat):List (Int×Int):=(An (n + 1)).map (BP k w);let R (n:Nat) (s5:QQ.Slot):Af:=[some (wd w,om),some (.int (k:Int),om),some (.int (BP k w n).1,om),some (.int (BP k w n).2,om),some (.lst ((P n).map pt),om),s5]
 have v1:Aj false 2 (AL Iq (Aa 1)) [1] [some (wd w,om),some (.int (k:Int),om),none,none,none,none]=.nx [some (wd w,om),some (.int (k:Int),om),some (.int (-(k:Int)),om),none,none,none]:=rfl;have v2:Aj false 3 (Aa 1) [1] [some (wd w,om),some (.int (k:Int),om),some (.int (-(k:Int)),om),none,none,none]=.nx [some (wd w,om),some (.int (k:Int),om),some (.int (-(k:Int)),om),some (.int (k:Int),om),none,none]:=rfl;have v3:Aj false 4 (Aq Bw (Ad (Aq BL pa5) (Ab))) [2,3] [some (wd w,om),some (.int (k:Int),om),some (.int (-(k:Int)),om),some (.int (k:Int),om),none,none]=.nx (R 0 none):=by
  have e1:(BP k w 0).1=-(k:Int):=by show -(k:Int) + ((0:Nat):Int)=_;(clear z hw;omega)
  have e2:(BP k w 0).2=(k:Int):=by show (k:Int) + ((0:Nat):Int)=_;(clear e1 z hw;omega)
  show _=Rs.nx [some (wd w,om),some (.int (k:Int),om),some (.int (BP k w 0).1,om),some (.int (BP k w 0).2,om),some (.lst [.tup [.int (BP k w 0).1,.int (BP k w 0).2]],om),none];rw [e1,e2];rfl
 obtain ⟨ρ',v4,s5,rfl⟩:=YJ (f:=Aa 0) (vs:=[0]) (asg:=asgN 5) (body:=Ag (AV (bT pc5) pc8 pf4) (AW 4 (Aq BL pa5) [2,3])) (ρ:=R 0 none) (w:=w) (λ n ρ=>∃ s5,ρ=R n s5) rfl ⟨none,rfl⟩ (by
  rintro n x ρ hx ⟨s5,rfl⟩;have es:w.take (n + 1)=w.take n++[x]:=by rw [Nh,hx];rfl
  have er:rN w (n + 1)=rN w n + [x].count true:=by unfold rN;rw [es,Lq]
  have ed:dN w (n + 1)=dN w n + [x].count false:=by unfold dN;rw [es,Lq]
  have hn:=(jb0.mp hx).1;let S:QQ.Slot:=some (wd [x],om);let M:Af:=[some (wd w,om),some (.int (k:Int),om),some (.int (BP k w (n + 1)).1,om),some (.int (BP k w (n + 1)).2,om),some (.lst ((P n).map pt),om),S]
  have u1:AV (bT pc5) pc8 pf4 (R n S)=.nx M:=by
   have e1:(BP k w (n + 1)).1=(BP k w n).1 + ([x].count true:Nat):=by show -(k:Int) + ((rN w (n + 1):Nat):Int)=-(k:Int) + ((rN w n:Nat):Int) + _;rw [er];(clear hn ed er z hw;omega)
   have e2:(BP k w (n + 1)).2=(BP k w n).2 + ([x].count false:Nat):=by show (k:Int) + ((dN w (n + 1):Nat):Int)=(k:Int) + ((dN w n:Nat):Int) + _;rw [ed];(clear e1 hn ed er z hw;omega)
   show _=Rs.nx [some (wd w,om),some (.int (k:Int),om),some (.int (BP k w (n + 1)).1,om),some (.int (BP k w (n + 1)).2,om),some (.lst ((P n).map pt),om),S];rw [e1,e2];cases x with
   | true=>
    have t1:bT pc5 (R n (some (wd [true],om)))=.ok (true,R n (some (wd [true],om))):=by kernel_rfl
    refine (CH t1).trans ?_;rw [show ((BP k w n).2 + (([true].count false:Nat):Int))=(BP k w n).2 by show _ + ((0:Nat):Int)=_;(clear e2 e1 ed er hn z hw;omega)];rfl
   | false=>
    have t1:bT pc5 (R n (some (wd [false],om)))=.ok (false,R n (some (wd [false],om))):=by kernel_rfl
    refine (CW t1).trans ?_;rw [show ((BP k w n).1 + (([false].count true:Nat):Int))=(BP k w n).1 by show _ + ((0:Nat):Int)=_;(clear e2 e1 ed er hn z hw;omega)];rfl
  have eP:P (n + 1)=P n++[BP k w (n + 1)]:=by
   show (An (n + 1 + 1)).map (BP k w)=_;rw [CD,B5];rfl
  have u2:AW 4 (Aq BL pa5) [2,3] M=.nx (R (n + 1) S):=by
   refine (GK (i:=4) (xs:=(P n).map pt) (xs0:=(P n).map pt) (d:=om) (d0:=999) (y:=pt (BP k w (n + 1))) (e:=om) (ρ1:=M) rfl rfl rfl (by decide) (by rw [Ax];show ((An (n + 1)).map (BP k w)).length < _;rw [Ax,CF];(clear ed er;omega)) rfl).trans ?_;show _=Rs.nx [some (wd w,om),some (.int (k:Int),om),some (.int (BP k w (n + 1)).1,om),some (.int (BP k w (n + 1)).2,om),some (.lst ((P (n + 1)).map pt),om),S];rw [eP,B5];rfl
  exact ⟨R n S,R (n + 1) S,rfl,(A3 u1).trans u2,_,rfl⟩)
 exact Bg rfl ((A3 v1).trans ((A3 v2).trans ((A3 v3).trans ((A3 v4).trans rfl))))
def CU (z:Int×Int):List A0:=[.inl z.1,.inl z.2]
theorem g9 {x y:Int×Int} (h:CU x=CU y):x=y:=by
 unfold CU at h;simp only [List.cons.injEq,Sum.inl.injEq,and_true] at h;exact Prod.ext h.1 h.2
def Ek:List (Int×Int)->List (List A0×V)
 | []=>[]
 | x::r=>Be (Ek r) (CU x) (.bl true)
theorem VQ (y:Int×Int):∀ xs:List (Int×Int),(AM (Ek xs) (CU y)).isSome=decide (y∈xs)
 | []=>by simp [Ek,AM]
 | x::r=>by
  unfold Ek;rw [Zv];by_cases e:y=x
  ·subst e;simp
  ·have:¬ CU y=CU x:=λ h=>e (g9 h)
   rw [if_neg this,VQ y r];simp [e]
theorem VR:∀ xs:List (Int×Int),(Ek xs).length<=xs.length
 | []=>A5 _
 | x::r=>by
  unfold Ek
  have:=NO (Ek r) (CU x) (.bl true)
  have:=VR r
  rw [AY];omega
def Jf:Fs:=(Ag (AV (bT pe7) (As (bC (.bl false))) A4) (CI 2 (Aa 5) (bC (.bl true))))
abbrev NR (a b c:Nat) (ws:List (List Bool)) (T:List (Int×Int)) (s3 s4 s5:QQ.Slot):Af:=[some (bx a b c,0),some (wl ws,0),some (.dct (Ek T),om),s3,s4,s5]
theorem XD {s3 s4:QQ.Slot}:∀ (L T:List (Int×Int)) (s5:QQ.Slot),T.Nodup->T.length + L.length<=100000->((L.reverse++T).Nodup/\∃ s5',Bu (asgN 5) Jf (L.map pt) (NR a b c ws T s3 s4 s5)=.nx (NR a b c ws (L.reverse++T) s3 s4 s5'))\/(¬ (L.reverse++T).Nodup/\∃ ρ',Bu (asgN 5) Jf (L.map pt) (NR a b c ws T s3 s4 s5)=.rt (.bl false) om ρ')
 | [],T,s5,hT,_=>.inl ⟨hT,s5,rfl⟩
 | y::L,T,s5,hT,hl=>by
  have z:=sz;rw [AY] at hl;let Q:Af:=NR a b c ws T s3 s4 (some (pt y,0));have tt:bT pe7 Q=.ok (decide (y∈T),Q):=by
   refine AK (d:=om) (Cr (x:=pt y) (d:=0) (y:=.dct (Ek T)) (e:=0) rfl rfl ?_);show some (PV.bl (false^^(AM (Ek T) (CU y)).isSome),om)=_;rw [VQ,Ll]
  have er:(y::L).reverse++T=L.reverse++(y::T):=by rw [Ni,Ig];rfl
  have el:∀ {r:Rs},Jf Q=r->Bu (asgN 5) Jf ((y::L).map pt) (NR a b c ws T s3 s4 s5)=(match r with | .nx ρ2=>Bu (asgN 5) Jf (L.map pt) ρ2 | .ct ρ2=>Bu (asgN 5) Jf (L.map pt) ρ2 | .bk ρ2=>.nx ρ2 | .rt x d ρ2=>.rt x d ρ2 | .exc c=>.exc c | .no=>.no):=λ {r} h=>by
   subst h;rfl
  by_cases hy:y∈T
  ·rw [decide_eq_true hy] at tt;refine .inr ⟨λ nd=>?_,Q,?_⟩
   ·rw [er,Lp] at nd;exact (jg5.mp nd.2.1).1 hy
   ·rw [el (r:=.rt (.bl false) om Q) (Jp ((CH tt).trans rfl))]
  ·rw [decide_eq_false hy] at tt;have hk:(Ek T).length < Au:=by
    have:=VR T
    omega
   have hp:Dy (.dct (Ek T)) (pt y) (.bl true)=some (.dct (Ek (y::T))):=by
    show (if (Ek T).length < Au then some (PV.dct (Be (Ek T) (CU y) (.bl true))) else none)=_;rw [if_pos hk];rfl
   have pu:CI 2 (Aa 5) (bC (.bl true)) Q=.nx (NR a b c ws (y::T) s3 s4 (some (pt y,0))):=by
    unfold CI;show (match Dy (.dct (Ek T)) (pt y) (.bl true) with | some x'=>_ | none=>_)=_;rw [hp];rfl
   rw [el ((Eo tt).trans pu),er];exact XD L (y::T) _ (jg5.mpr ⟨hy,hT⟩) (by rw [AY];(clear hk z;omega))
def Ij:Fs:=Dr (Ak f_points_moved_apart pf7) [4,3] (asgN 5) Jf
theorem YU {W:List (List Bool)}:∀ (ws:List (List Bool)) (k:Nat) (T:List (Int×Int)) (s3 s4 s5:QQ.Slot),(∀ w∈ws,w.length<=100)->T.Nodup->T.length + 101 * ws.length<=100000->(((Cf k ws).reverse++T).Nodup/\∃ s3' s4' s5',Bu (asgT [3,4]) Ij (DL k (ws.map wd)) (NR a b c W T s3 s4 s5)=.nx (NR a b c W ((Cf k ws).reverse++T) s3' s4' s5'))\/(¬ ((Cf k ws).reverse++T).Nodup/\∃ ρ',Bu (asgT [3,4]) Ij (DL k (ws.map wd)) (NR a b c W T s3 s4 s5)=.rt (.bl false) om ρ')
 | [],k,T,s3,s4,s5,_,hT,_=>.inl ⟨hT,s3,s4,s5,rfl⟩
 | w::ws,k,T,s3,s4,s5,hw,hT,hl=>by
  have lw:=hw w AD;rw [AY] at hl;have lp:(Ew k w).length=w.length + 1:=by unfold Ew;rw [Ax,CF]
  let S3:QQ.Slot:=some (.int (k:Int),om);let S4:QQ.Slot:=some (wd w,om);have er:(Cf k (w::ws)).reverse++T=(Cf (k + 1) ws).reverse++((Ew k w).reverse++T):=by
   show (Ew k w++Cf (k + 1) ws).reverse++T=_;rw [qH,Ig]
  have el:∀ {r:Rs},Ij (NR a b c W T S3 S4 s5)=r->Bu (asgT [3,4]) Ij (DL k ((w::ws).map wd)) (NR a b c W T s3 s4 s5)=(match r with | .nx ρ2=>Bu (asgT [3,4]) Ij (DL (k + 1) (ws.map wd)) ρ2 | .ct ρ2=>Bu (asgT [3,4]) Ij (DL (k + 1) (ws.map wd)) ρ2 | .bk ρ2=>.nx ρ2 | .rt x d ρ2=>.rt x d ρ2 | .exc c=>.exc c | .no=>.no):=λ {r} h=>by
   subst h;rfl
  have pk:=vx w k (by (clear lp hl;omega));have go:∀ r,Bu (asgN 5) Jf ((Ew k w).map pt) (NR a b c W T S3 S4 s5)=r->Ij (NR a b c W T S3 S4 s5)=r:=λ r h=>Tg (ρ1:=NR a b c W T S3 S4 s5) (ρ2:=NR a b c W T S3 S4 s5) (d:=om) (AJ (xs:=[(wd w,om),(.int (k:Int),om)]) rfl pk) rfl h;rcases XD (a:=a) (b:=b) (c:=c) (ws:=W) (s3:=S3) (s4:=S4) (Ew k w) T s5 hT (by omega) with ⟨h1,s5',e1⟩ | ⟨h1,ρ',e1⟩
  ·rw [el (go _ e1),er];exact YU ws (k + 1) _ S3 S4 s5' (λ v hv=>hw v (AE _ hv)) h1 (by rw [Bm,EK];omega)
  ·refine .inr ⟨λ nd=>h1 ?_,ρ',?_⟩
   ·rw [er,Lp] at nd;exact nd.2.1
   ·rw [el (go _ e1)]
theorem dS (h:∀ w∈ws,Wd a b w) (hl:ws.length<=6) (ha:1<=a/\a<=6) (hb:1<=b/\b<=6) (hc:1<=c/\c<=6):f_never_touch [bx a b c,wl ws]=.ok (.bl (decide (Cf 0 ws).Nodup),om,.non):=by
 let R (s2:QQ.Slot):Af:=[some (bx a b c,0),some (wl ws,0),s2,none,none,none]
 have v1:Bv pa8 (R none)=.nx (R none):=DH (AJ (xs:=[(bx a b c,0)]) rfl (LA (by unfold Dc;rw [decide_eq_true (by (clear hc hb hl;omega)),decide_eq_true (by (clear hc ha hl;omega)),decide_eq_true (by (clear hb ha hl;omega))];rfl)));have t1:=AK (Gr (AJ (F:=f_is_list_of_ways) (fa:=Ad (Aa 0) (Ad (Aa 1) Ab)) (ρ:=R none) (xs:=[(bx a b c,0),(wl ws,0)]) rfl (V8 h (by (clear hc hl;omega)) (by (clear hc hb ha;omega)))));have v2:Aj false 2 Dd [] (R none)=.nx (NR a b c ws [] none none none):=rfl;have en:Iu .enm [wl ws]=some (DL 0 (ws.map wd)):=rfl;have ro:((Cf 0 ws).reverse++[]).Nodup↔(Cf 0 ws).Nodup:=by rw [G9];exact (List.reverse_perm _).nodup_iff
 rcases YU (a:=a) (b:=b) (c:=c) (W:=ws) ws 0 [] none none none (λ w hw=>by rw [(h w hw).len];(clear hc hl;omega)) TR (by rw [JO];(clear hc hb ha;omega)) with ⟨h1,s3,s4,s5,e1⟩ | ⟨h1,ρ',e1⟩
 ·rw [decide_eq_true (ro.mp h1)];have v3:=Th (v:=.enm) (fa:=Ad (Aa 1) (Ab)) (vs:=[1]) (asg:=asgT [3,4]) (body:=Ij) (ρ:=NR a b c ws [] none none none) (ρ1:=NR a b c ws [] none none none) (ρ2:=NR a b c ws [] none none none) (xs:=[(wl ws,0)]) rfl en rfl e1;exact Bg rfl ((A3 v1).trans ((Eo t1).trans ((A3 v2).trans ((A3 v3).trans rfl))))
 ·rw [decide_eq_false (λ z=>h1 (ro.mpr z))];have v3:=Th (v:=.enm) (fa:=Ad (Aa 1) (Ab)) (vs:=[1]) (asg:=asgT [3,4]) (body:=Ij) (ρ:=NR a b c ws [] none none none) (ρ1:=NR a b c ws [] none none none) (ρ2:=NR a b c ws [] none none none) (xs:=[(wl ws,0)]) rfl en rfl e1;exact Bg rfl ((A3 v1).trans ((Eo t1).trans ((A3 v2).trans (Jp v3))))
theorem fW (h:∀ w∈ws,Wd a b w) (hl:ws.length=c):decide (Cf 0 ws).Nodup=Gm c a b (ws.map CS):=by
 rw [Ed,decide_eq_true_iff,Z6 ws 0 h,<- fU hl h,Gj (Rc h hl)]
end
abbrev _root_.pc4:=Ac (Dm λ i j=>decide (j < i)) (Aa 3) (bC (.int 0))
abbrev _root_.ph2:=Aq BL (Ad (Aa 7) (Ab))
abbrev _root_.pg6:=Ac B0 (Aa 6) (bC (.int 1))
abbrev _root_.pd8:=CN Bn (Ad pg6 (Ab)) 1 (asgN 7) AO (Ac B0 (Aa 5) ph2)
abbrev _root_.pf5:=Ac AQ (Aa 5) (AL Iq (bC (.int 1)))
abbrev _root_.pa1:=Ag (Aj false 6 (C4 (bT pc4) pf5 (Aa 1)) [5,1]) (C1 4 pd8 [5])
abbrev _root_.pg3:=Aj false 4 (Aq Bw (Ab)) []
def Xf_rows_of_heights:Fs:=(Ag (Aj false 2 (Aq Bw (Ad (Aq BL (Ab)) (Ab))) [])
 (Ag (Fq Bn (Ad (Aa 0) (Ab)) (asgN 3) (Ag pg3
 (Ag (Dr (Aa 2) [2] (asgN 5) pa1)
 (Aj false 2 (Aa 4) [4]))))
 (C6 2)))
def f_rows_of_heights:Fn:=Ap false 2 5 Xf_rows_of_heights
def Xf_added:Fs:=(Ag (Aj false 2 (Ac B0 (Aq Iy (Ad (Aa 0) (Ab))) (Ac BZ pc6 (Ac Dl pd1 pb3))) [0,1,0])
 (Ag (ET .enm (Ad (Aa 1) (Ab)) [1] (asgT [3,4]) (IP (λ i j=>i + j) 2 (Aa 3) (Aa 4)))
 (C6 2)))
def f_added:Fn:=Ap false 2 3 Xf_added
abbrev _root_.pg1:=Ad (Ac Dl (Ac AQ (Aa 4) (Aa 3)) (bC (.int 1))) (Ab)
abbrev _root_.pb8:=Ac B0 (Ac B0 (Jc (Aa 4) none (some (Aa 3))) (Aq BL pg1)) (Jc (Aa 4) (some (Ac B0 (Aa 3) (bC (.int 1)))) none)
abbrev _root_.pf2:=Ak f_added (Ad (Ac AQ (Aa 2) (Aa 4)) (Ad (Ac AQ (Aa 2) (Aa 5)) (Ab)))
abbrev _root_.pa3:=Ag (Aj false 5 pb8 [4,4,3,4]) (AV (bT pe7) (CI 2 (Aa 4) pf2) A4)
def Xf_sums_of_lower_rows:Fs:=(Ag (Aj false 2 (Aq MU (Ad (Aa 0) (Ab))) [0])
 (Ag (Fq Bn (Ad (Aa 1) (Ab)) (asgN 3) (HE (Aa 0) [0] (asgN 4) pa3))
 (C6 2)))
def f_sums_of_lower_rows:Fn:=Ap false 2 4 Xf_sums_of_lower_rows
def Xf_lies_between:Fs:=(As (Aq Ep (Ad (CN Bn (Ad pb3 (Ab)) 1 (asgN 3) AO (Hv (λ i j=>decide (i<=j)) (λ i j=>decide (i<=j)) (Ac AQ (Aa 1) (Aa 3)) (Ac AQ (Aa 0) (Aa 3)) (Ac AQ (Aa 2) (Aa 3)))) (Ab))))
def f_lies_between:Fn:=Ap false 3 0 Xf_lies_between
abbrev _root_.pa6:=CI 4 (Aa 5) (Ac B0 (Ac BZ pc6 (Aq FO (Ad (BF (Aa 3) 1 (asgN 6) AO (Ac AQ (Aa 5) (Aa 6))) (Ab)))) (Ac AQ (Aa 0) (Aa 5)))
abbrev _root_.pg7:=CI 4 (Aa 5) (Aq Bw (Ab))
def Xf_table_of_row:Fs:=(Ag (Aj false 4 Dd [])
 (Ag (HE (Aa 0) [0] (asgN 5) (AV (bT (Ak f_lies_between (Ad (Aa 5) pa4))) pa6 pg7))
 (C6 4)))
def f_table_of_row:Fn:=Ap false 4 2 Xf_table_of_row
abbrev _root_.pc1:=Ac (A1 false) (Ac AQ (Aa 12) (bC (.int 0))) (Aa 10)
abbrev _root_.pc0:=Ak f_table_of_row (Ad (Ak f_sums_of_lower_rows (Ad (Aa 7) (Ad (Aa 5) (Ab)))) (Ad (Ac AQ (Aa 1) (Aa 10)) (Ad (Ac AQ (Aa 2) (Aa 10)) (Ad (Aa 11) (Ab)))))
abbrev _root_.pg4:=Ac AQ (Aa 12) (bC (.int 1))
abbrev _root_.pa2:=Ag (Aj false 11 (BF (Aa 3) 1 (asgN 12) (bT pc1) pg4) [3,3]) (Ag (Aj false 7 pc0 [7,5,1,10,2,10,11]) (AW 9 (Aa 7) [7]))
abbrev _root_.pd6:=Ac (A1 false) (Aq FO (Ad (Aa 8) (Ab))) (bC (.int 0))
abbrev _root_.pb2:=C4 (bT pd6) (Aq Bw (Ad (bC (.int 1)) (Ab))) (Aq Bw (Ab))
abbrev _root_.pe4:=Ad (Ac Dl (Aa 4) (bC (.int 1))) (Ad (AL Iq (bC (.int 1))) (Ad (AL Iq (bC (.int 1))) (Ab)))
abbrev _root_.pg9:=Ak f_rows_of_heights (Ad (Aa 5) (Ad (Aa 6) (Ab)))
def Xf_tables_between:Fs:=(Ag (BB (asgT [4,5,6]) (Aa 0) [0])
 (Ag (Aj false 7 Dd [])
 (Ag (Dr pg9 [5,6] (asgN 8) (CI 7 (Aa 8) pb2))
 (Ag (Aj false 9 (Aq Bw (Ab)) [])
 (Ag (P7 pe4 (asgN 10) pa2)
 (As (AL Lg (Aa 9))))))))
def f_tables_between:Fn:=Ap false 4 8 Xf_tables_between
def Xf_tally_between:Fs:=(Ag pg3
 (Ag (Lh (Ac AQ (Ak f_tables_between (Ad (Aa 0) (Ad (Aa 1) pa5))) (bC (.int 0))) [0,1,2,3] (asgN 5) (Aj false 4 (Ak f_added pa9) [4,5]))
 (C6 4)))
def f_tally_between:Fn:=Ap false 4 2 Xf_tally_between
def Dq (a b:Int):List Int:=(An (b - a).toNat).map λ k=>a + (k:Nat)
theorem Kw {a b:Int} (h:b<=a):Dq a b=[]:=by
 unfold Dq;rw [show (b - a).toNat=0 by omega];rfl
theorem Oi {a b:Int} (h:a < b):Dq a b=a::Dq (a + 1) b:=by
 unfold Dq;rw [show (b - a).toNat=(b - (a + 1)).toNat + 1 by omega,qP];simp only [AR,BC,Int.natCast_zero,Int.add_zero];congr 1;apply GB;intro k _;show a + ((k + 1:Nat):Int)=a + 1 + (k:Int);omega
theorem qd3 {a b x:Int}:x∈Dq a b↔a<=x/\x < b:=by
 unfold Dq;simp only [jc4,jc2];constructor
 ·rintro ⟨k,hk,rfl⟩;omega
 ·rintro ⟨h1,h2⟩;exact ⟨(x - a).toNat,by omega,by omega⟩
def FE (lo hi x:Int):Bool:=decide (lo<=x) && decide (x<=hi)
theorem fC (lo hi:Int):∀ (n:Nat) (a b:Int),(b - a).toNat=n->lo<=a->(Dq a b).filter (FE lo hi)=Dq a (min (b - 1) hi + 1):=by
 intro n;induction n with
 | zero=>
  intro a b h ha;rw [Kw (a:=a) (by omega),Kw (by omega)];rfl
 | succ n ih=>
  intro a b h ha;rw [Oi (by omega),FZ];by_cases h2:a<=hi
  ·rw [if_pos (by unfold FE;simp [h2,ha]),Oi (a:=a) (b:=min (b - 1) hi + 1) (by omega),ih (a + 1) b (by (clear h2 ha;omega)) (by (clear h2 h;omega))]
  ·rw [if_neg (by unfold FE;simp;(clear ha h;omega)),Kw (a:=a) (b:=min (b - 1) hi + 1) (by (clear ha h;omega)),ih (a + 1) b (by (clear h2 ha;omega)) (by (clear h2 h;omega)),Kw (by (clear ha h;omega))]
theorem hU (lo hi:Int):∀ (n:Nat) (a b:Int),(b - a).toNat=n->a<=lo->(Dq a b).filter (FE lo hi)=Dq lo (min (b - 1) hi + 1):=by
 intro n;induction n with
 | zero=>
  intro a b h ha;rw [Kw (a:=a) (by omega),Kw (by omega)];rfl
 | succ n ih=>
  intro a b h ha;by_cases e:a=lo
  ·subst e;exact fC a hi _ a b rfl (EH _)
  ·rw [Oi (by (clear e ha;omega)),FZ,if_neg (by unfold FE;simp;omega)];exact ih (a + 1) b (by (clear e ha;omega)) (by omega)
def Bc (hi ah:Int) (row:List Int):Int:=match row.getLast? with
 | none=>min hi ah
 | some m=>min (min hi ah) m
def B7 (lo hi ah:Nat->Int):Nat->List (List Int)
 | 0=>[[]]
 | n + 1=>(B7 lo hi ah n).flatMap λ row=>(Dq (lo n) (Bc (hi n) (ah n) row + 1)).map λ x=>row++[x]
def E2 (lo hi:Nat->Int) (n:Nat) (r:List Int):Bool:=(An n).all λ i=>FE (lo i) (hi i) (r.getD i 0)
theorem NJ (lo hi ah:Nat->Int):∀ (n:Nat) (r:List Int),r∈B7 lo hi ah n->r.length=n
 | 0,r,h=>by simp [B7] at h;simp [h]
 | n + 1,r,h=>by
  rw [B7,JQ] at h;obtain ⟨q,h1,h2⟩:=h;obtain ⟨x,_,rfl⟩:=jc4.mp h2;simp [NJ lo hi ah n q h1]
theorem fJ (lo hi:Nat->Int) (r:List Int) (x:Int):E2 lo hi (r.length + 1) (r++[x])=(E2 lo hi r.length r && FE (lo r.length) (hi r.length) x):=by
 unfold E2;rw [CD,qo];have e1:((An r.length).all λ i=>FE (lo i) (hi i) ((r++[x]).getD i 0))=(An r.length).all λ i=>FE (lo i) (hi i) (r.getD i 0):=by
  rw [Ed,jb3,jb3];constructor
  ·intro h i hi'
   have:=h i hi'
   have hl:=jc2.mp hi';rwa [A7,DC hl,<- A7] at this
  ·intro h i hi';have hl:=jc2.mp hi';rw [A7,DC hl,<- A7];exact h i hi'
 rw [e1];simp [A7]
theorem Q7 {α β:Type} (p:α->Bool) (f g:α->List β):∀ (l:List α),(∀ a∈l,f a=if p a=true then g a else [])->l.flatMap f=(l.filter p).flatMap g
 | [],_=>rfl
 | a::l,h=>by
  rw [IX,Q7 p f g l λ b hb=>h b (AE _ hb),h a AD,FZ];split
  ·rw [IX]
  ·rfl
theorem bD {hi hi' ah:Int} (h:hi<=hi') (row:List Int):min (Bc hi' ah row) hi=Bc hi ah row:=by
 unfold Bc;cases row.getLast? with
 | none=>simp only;omega
 | some m=>simp only;omega
theorem Q9 {lo hi lo' hi' ah:Nat->Int} (hl:∀ i,lo' i<=lo i) (hh:∀ i,hi i<=hi' i):∀ (n:Nat),(B7 lo' hi' ah n).filter (E2 lo hi n)=B7 lo hi ah n
 | 0=>rfl
 | n + 1=>by
  rw [B7,B7,<- Q9 hl hh n,qG];refine Q7 _ _ _ _ λ a ha=>?_;have la:=NJ _ _ _ n a ha;subst la;rw [Qa];have e:(E2 lo hi (a.length + 1) ∘ λ x=>a++[x])=λ x=>E2 lo hi a.length a && FE (lo a.length) (hi a.length) x:=by
   funext x;exact fJ lo hi a x
  rw [e];cases E2 lo hi a.length a with
  | false=>simp
  | true=>
   simp only [qk,if_true]
   have:=hU (lo a.length) (hi a.length) _ (lo' a.length) (Bc (hi' a.length) (ah a.length) a + 1) rfl (hl _)
   rw [show (λ x=>FE (lo a.length) (hi a.length) x)=FE (lo a.length) (hi a.length) from rfl,this,Int.add_sub_cancel,bD (hh _)]
def GJ (c:Int) (pile:List (List Int)):Nat->Int:=match pile.getLast? with
 | none=>λ _=>c
 | some r=>λ j=>r.getD j 0
def Ct (lo hi:Nat->Nat->Int) (c:Int) (b:Nat):Nat->List (List (List Int))
 | 0=>[[]]
 | n + 1=>(Ct lo hi c b n).flatMap λ pile=>(B7 (lo n) (hi n) (GJ c pile) b).map λ r=>pile++[r]
def Jn (lo hi:Nat->Nat->Int) (b n:Nat) (p:List (List Int)):Bool:=(An n).all λ i=>E2 (lo i) (hi i) b (p.getD i [])
theorem VG (lo hi:Nat->Nat->Int) (c:Int) (b:Nat):∀ (n:Nat) (p:List (List Int)),p∈Ct lo hi c b n->p.length=n
 | 0,r,h=>by simp [Ct] at h;simp [h]
 | n + 1,r,h=>by
  rw [Ct,JQ] at h;obtain ⟨q,h1,h2⟩:=h;obtain ⟨x,_,rfl⟩:=jc4.mp h2;simp [VG lo hi c b n q h1]
theorem lh (lo hi:Nat->Nat->Int) (b:Nat) (p:List (List Int)) (r:List Int):Jn lo hi b (p.length + 1) (p++[r])=(Jn lo hi b p.length p && E2 (lo p.length) (hi p.length) b r):=by
 unfold Jn;rw [CD,qo];have e1:((An p.length).all λ i=>E2 (lo i) (hi i) b ((p++[r]).getD i []))=(An p.length).all λ i=>E2 (lo i) (hi i) b (p.getD i []):=by
  rw [Ed,jb3,jb3];constructor
  ·intro h i hi'
   have:=h i hi'
   have hl:=jc2.mp hi';rwa [A7,DC hl,<- A7] at this
  ·intro h i hi';have hl:=jc2.mp hi';rw [A7,DC hl,<- A7];exact h i hi'
 rw [e1];simp [A7]
theorem Ve {lo hi lo' hi':Nat->Nat->Int}{c:Int}{b:Nat} (hl:∀ i j,lo' i j<=lo i j) (hh:∀ i j,hi i j<=hi' i j):∀ (n:Nat),(Ct lo' hi' c b n).filter (Jn lo hi b n)=Ct lo hi c b n
 | 0=>rfl
 | n + 1=>by
  rw [Ct,Ct,<- Ve hl hh n,qG];refine Q7 _ _ _ _ λ a ha=>?_;have la:=VG _ _ _ _ n a ha;subst la;rw [Qa];have e:(Jn lo hi b (a.length + 1) ∘ λ x=>a++[x])=λ x=>Jn lo hi b a.length a && E2 (lo a.length) (hi a.length) b x:=by
   funext x;exact lh lo hi b a x
  rw [e];cases Jn lo hi b a.length a with
  | false=>simp
  | true=>
   simp only [qk,if_true];rw [show (λ x=>E2 (lo a.length) (hi a.length) b x)=E2 (lo a.length) (hi a.length) b from rfl,Q9 (hl _) (hh _)]
def Gz (f:Nat->Int) (n:Nat):List Int:=(An n).map f
theorem Zl (f:Nat->Int) (n:Nat):Gz f (n + 1)=Gz f n++[f n]:=by unfold Gz;rw [CD,B5];rfl
theorem bE {hi ah x:Int}{f:Nat->Int}{n:Nat} (h1:x<=hi) (h2:x<=ah) (h3:∀ m,m + 1=n->x<=f m):x<=Bc hi ah (Gz f n):=by
 unfold Bc;cases n with
 | zero=>simp only [Gz,List.range_zero,Hf,TY];omega
 | succ m=>
  rw [Zl,qM];simp only [qT,ql]
  have:=h3 m rfl
  omega
theorem Vk {lo hi ah:Nat->Int}:∀ (n:Nat),(∀ i,i < n->lo i<=hi i)->(∀ i,i < n->lo i<=ah i)->(∀ i,i + 1 < n->lo (i + 1)<=lo i)->∃ t,B7 lo hi ah n=Gz lo n::t
 | 0,_,_,_=>⟨[],rfl⟩
 | n + 1,h1,h2,h3=>by
  obtain ⟨t,e⟩:=Vk n (λ i hi=>h1 i (by omega)) (λ i hi=>h2 i (by omega)) (λ i hi=>h3 i (by omega));have hx:lo n<=Bc (hi n) (ah n) (Gz lo n):=bE (h1 n (by omega)) (h2 n (by omega)) λ m hm=>by subst hm;exact h3 m (by omega)
  rw [B7,e,IX,Oi (by omega),AR,Hi,<- Zl];exact ⟨_,rfl⟩
theorem Q6 {r:List Int}{n:Nat} (h:r.length=n + 1):r.getLast?=some (r.getD n 0):=by
 rw [qW,h,Uc,A7,Bb (by omega)];rfl
theorem MB {r:List Int}{x:Int}{n j:Nat} (h:r.length=n):(r++[x]).getD j 0=if j=n then x else r.getD j 0:=by
 rw [A7,A7,qL];by_cases hj:j < n
 ·rw [if_pos (by omega),if_neg (by omega)]
 ·rw [if_neg (by omega)];by_cases e:j=n
  ·rw [if_pos e,e,h,TL];rfl
  ·rw [if_neg e,EL (by simp;omega),EL (by omega)]
theorem Qu {lo hi ah:Nat->Int}:∀ {n:Nat}{r:List Int},r∈B7 lo hi ah n->r.length=n/\(∀ j,j < n->lo j<=r.getD j 0/\r.getD j 0<=hi j/\r.getD j 0<=ah j)/\∀ j,j + 1 < n->r.getD (j + 1) 0<=r.getD j 0
 | 0,r,h=>by
  have e:r=[]:=by simpa [B7] using h
  subst e;exact ⟨rfl,λ j h=>by omega,λ j h=>by omega⟩
 | n + 1,r,h=>by
  rw [B7,JQ] at h;obtain ⟨q,h1,h2⟩:=h;obtain ⟨x,hx,rfl⟩:=jc4.mp h2;obtain ⟨l,b,m⟩:=Qu h1;obtain ⟨x1,x2⟩:=qd3.mp hx;have t1:Bc (hi n) (ah n) q<=hi n/\Bc (hi n) (ah n) q<=ah n/\(0 < n->Bc (hi n) (ah n) q<=q.getD (n - 1) 0):=by
   unfold Bc;cases n with
   | zero=>
    have e:q=[]:=jg8.mp l;subst e;exact ⟨by show min _ _<=_;(clear x2 l x1;omega),by show min _ _<=_;(clear x2 l x1;omega),λ h=>by (clear x2 l x1;omega)⟩
   | succ n=>
    rw [Q6 l];exact ⟨by show min (min _ _) _<=_;(clear x2 x1 l;omega),by show min (min _ _) _<=_;(clear x2 x1 l;omega),λ _=>by show min (min _ _) _<=_;rw [Uc];(clear x2 x1 l;omega)⟩
  refine ⟨by rw [Bm,l];rfl,λ j hj=>?_,λ j hj=>?_⟩
  ·rw [MB l];by_cases e:j=n
   ·subst e;rw [if_pos rfl];(clear hj l;omega)
   ·rw [if_neg e];exact b j (by (clear t1 x2 x1 l;omega))
  ·rw [MB l,MB l,if_neg (show ¬ j=n by (clear t1 x2 x1 l;omega))];by_cases e:j + 1=n
   ·rw [if_pos e]
    have:=t1.2.2 (by (clear e t1 x2 x1 l;omega))
    rw [show n - 1=j by (clear this hj t1 x2 x1 l;omega)] at this
    (clear e hj t1 x1 l;omega)
   ·rw [if_neg e];exact m j (by (clear t1 x2 x1 l;omega))
theorem Wx {p:List (List Int)}{n:Nat} (h:p.length=n + 1):p.getLast?=some (p.getD n []):=by
 rw [qW,h,Uc,A7,Bb (by omega)];rfl
theorem ku {p:List (List Int)}{r:List Int}{n i:Nat} (h:p.length=n):(p++[r]).getD i []=if i=n then r else p.getD i []:=by
 rw [A7,A7,qL];by_cases hj:i < n
 ·rw [if_pos (by omega),if_neg (by omega)]
 ·rw [if_neg (by omega)];by_cases e:i=n
  ·rw [if_pos e,e,h,TL];rfl
  ·rw [if_neg e,EL (by simp;omega),EL (by omega)]
theorem MC {p:List (List Int)}{r:List Int}{n i j:Nat} (h:p.length=n):g (p++[r]) i j=if i=n then r.getD j 0 else g p i j:=by
 unfold g;rw [ku h];split <;> rfl
theorem Od {lo hi:Nat->Nat->Int}{c:Int}{b:Nat}:∀ {n:Nat}{p:List (List Int)},p∈Ct lo hi c b n->Tab n b p/\(∀ i j,i < n->j < b->lo i j<=g p i j/\g p i j<=hi i j/\g p i j<=c)/\(∀ i j,i + 1 < n->j < b->g p (i + 1) j<=g p i j)/\∀ i j,i < n->j + 1 < b->g p i (j + 1)<=g p i j
 | 0,p,h=>by
  have e:p=[]:=by simpa [Ct] using h
  subst e;exact ⟨⟨rfl,λ _ z=>nomatch z⟩,λ i j h=>by omega,λ i j h=>by omega,λ i j h=>by omega⟩
 | n + 1,p,h=>by
  rw [Ct,JQ] at h;obtain ⟨q,h1,h2⟩:=h;obtain ⟨r,hr,rfl⟩:=jc4.mp h2;obtain ⟨tq,b1,d1,r1⟩:=Od h1;obtain ⟨l,b2,m2⟩:=Qu hr;have ah:∀ j,j < b->GJ c q j<=c/\(0 < n->GJ c q j<=g q (n - 1) j):=λ j hj=>by
   unfold GJ;cases n with
   | zero=>
    have e:q=[]:=jg8.mp tq.1;subst e;exact ⟨EH _,λ h=>by (clear hj l;omega)⟩
   | succ n=>
    rw [Wx tq.1];exact ⟨(b1 n j (by (clear hj l;omega)) hj).2.2,λ _=>EH _⟩
  refine ⟨⟨by rw [Bm,tq.1];rfl,λ s hs=>(jh5.mp hs).elim (λ z=>tq.2 s z) λ z=>by rw [je2.mp z,l]⟩,λ i j hi' hj=>?_,λ i j hi' hj=>?_,λ i j hi' hj=>?_⟩
  ·rw [MC tq.1];by_cases e:i=n
   ·subst e;rw [if_pos rfl];have h3:=b2 j hj;have h4:=ah j hj
    (clear hi' hj l;omega)
   ·rw [if_neg e];exact b1 i j (by (clear hj l;omega)) hj
  ·rw [MC tq.1,MC tq.1,if_neg (show ¬ i=n by (clear hj l;omega))];by_cases e:i + 1=n
   ·rw [if_pos e];have h3:=b2 j hj;have h4:=(ah j hj).2 (by (clear h3 e hj l;omega));rw [show n - 1=i by (clear h4 h3 hj hi' l;omega)] at h4
    (clear e hj hi' l;omega)
   ·rw [if_neg e];exact d1 i j (by (clear hj l;omega)) hj
  ·rw [MC tq.1,MC tq.1];by_cases e:i=n
   ·rw [if_pos e,if_pos e];exact m2 j hj
   ·rw [if_neg e,if_neg e];exact r1 i j (by (clear hj l;omega)) hj
theorem ly {hi:Nat->Nat->Int}{c:Int}{a b:Nat}{lo:Nat->Nat->Int}{p:List (List Int)} (h0:∀ i j,0<=lo i j) (h:p∈Ct lo hi c b a):Pile a b c p:=by
 obtain ⟨t,h1,h2,h3⟩:=Od h;exact ⟨t,λ i j hi hj=>Ic (h0 i j) (h1 i j hi hj).1,λ i j hi hj=>(h1 i j hi hj).2.2,h2,h3⟩
theorem Vj {lo hi ah lo' hi' ah':Nat->Int}:∀ (n:Nat),(∀ j,j < n->lo j=lo' j/\hi j=hi' j/\ah j=ah' j)->B7 lo hi ah n=B7 lo' hi' ah' n
 | 0,_=>rfl
 | n + 1,h=>by
  rw [B7,B7,Vj n λ j hj=>h j (by omega)];obtain ⟨e1,e2,e3⟩:=h n (by omega);rw [e1,e2,e3]
theorem V6 {α β:Type}{f:α->List β}{m:Nat}:∀ (l:List α),(∀ a∈l,(f a).length<=m)->(l.flatMap f).length<=l.length * m
 | [],_=>by simp
 | a::l,h=>by
  rw [IX,Bm,AY,qd,qc];have h1:=h a AD;have h2:=V6 l λ x hx=>h x (AE _ hx);omega
theorem gz (a b:Int):(Dq a b).length=(b - a).toNat:=by unfold Dq;rw [Ax,CF]
theorem uR (hi ah:Int) (row:List Int):Bc hi ah row<=hi:=by
 unfold Bc;split <;> omega
theorem Zd {lo hi ah:Nat->Int}{m:Nat}:∀ (n:Nat),(∀ j,j < n->hi j - lo j + 1<=m)->(B7 lo hi ah n).length<=m ^ n
 | 0,_=>by simp [B7]
 | n + 1,h=>by
  rw [B7];refine BD (V6 (m:=m) _ λ r hr=>?_) ?_
  ·rw [Ax,gz]
   have:=uR (hi n) (ah n) r
   have:=h n (by omega)
   omega
  ·rw [TK];exact JT m (Zd n λ j hj=>h j (by omega))
theorem Zt (a b:Nat) (f:Nat->Nat->Int):FA (a + 1) b f=FA a b f++[Gz (f a) b]:=by
 unfold FA Gz;rw [CD,B5];rfl
theorem dB {c:Int}{b n j:Nat}{f:Nat->Nat->Int}{x:Int} (hj:j < b) (h0:x<=c) (h1:∀ m,m + 1=n->x<=f m j):x<=GJ c (FA n b f) j:=by
 unfold GJ;cases n with
 | zero=>exact h0
 | succ m=>
  rw [Zt,qM];simp only [qT,ql];show x<=(Gz (f m) b).getD j 0;unfold Gz;rw [LO hj];exact h1 m rfl
theorem VS {lo hi:Nat->Nat->Int}{c:Int}{b:Nat}:∀ (n:Nat),(∀ i j,i < n->j < b->lo i j<=hi i j)->(∀ i j,i < n->j < b->lo i j<=c)->(∀ i j,i + 1 < n->j < b->lo (i + 1) j<=lo i j)->(∀ i j,i < n->j + 1 < b->lo i (j + 1)<=lo i j)->∃ t,Ct lo hi c b n=FA n b lo::t
 | 0,_,_,_,_=>⟨[],rfl⟩
 | n + 1,h1,h2,h3,h4=>by
  obtain ⟨t,e⟩:=VS n (λ i j hi hj=>h1 i j (by omega) hj) (λ i j hi hj=>h2 i j (by omega) hj) (λ i j hi hj=>h3 i j (by omega) hj) (λ i j hi hj=>h4 i j (by omega) hj);obtain ⟨u,eu⟩:=Vk (lo:=lo n) (hi:=hi n) (ah:=GJ c (FA n b lo)) b (λ j hj=>h1 n j (by omega) hj) (λ j hj=>dB hj (h2 n j (by omega) hj) λ m hm=>by subst hm;exact h3 m j (by omega) hj) (λ j hj=>h4 n j (by omega) hj);rw [Ct,e,IX,eu,AR,Hi,<- Zt];exact ⟨_,rfl⟩
def DA:List Int->List Int->Bool
 | [],[]=>false
 | [],_::_=>true
 | _::_,[]=>false
 | x::xs,y::ys=>decide (x < y) || (decide (x=y) && DA xs ys)
theorem Ot:∀ r:List Int,DA r r=false
 | []=>rfl
 | x::r=>by simp [DA,Ot r]
theorem Zp:∀ {r q:List Int},DA r q=true->DA q r=false
 | [],[],h=>by cases h
 | [],_::_,_=>rfl
 | _::_,[],h=>by cases h
 | x::r,y::q,h=>by
  simp only [DA,G8,AU,decide_eq_true_iff] at h;rcases h with h | ⟨h,h2⟩
  ·simp only [DA,Bool.or_eq_false_iff,Bool.and_eq_false_iff,decide_eq_false_iff_not];exact ⟨by omega,.inl (by omega)⟩
  ·subst h;simp [DA,Zp h2]
theorem Zr:∀ {r q:List Int} (x y:Int),r.length=q.length->DA r q=true->DA (r++[x]) (q++[y])=true
 | [],[],_,_,_,h=>by cases h
 | [],_::_,_,_,e,_=>by cases e
 | _::_,[],_,_,e,_=>by cases e
 | a::r,b::q,x,y,e,h=>by
  simp only [DA,G8,AU,decide_eq_true_iff,Hi] at h ⊢;rcases h with h | ⟨h,h2⟩
  ·exact .inl h
  ·exact .inr ⟨h,Zr x y (by simpa using e) h2⟩
theorem Zq:∀ (r:List Int) {x y:Int},x < y->DA (r++[x]) (r++[y])=true
 | [],x,y,h=>by simp [DA,h]
 | a::r,x,y,h=>by simp [DA,Zq r h]
theorem yo (a:Int):∀ (n:Nat) (b:Int),(b - a).toNat=n->(Dq a b).Pairwise (·< ·):=by
 intro n b _;unfold Dq;rw [Qe];refine List.Pairwise.imp (λ {i j} h=>?_) qQ;show a + (i:Int) < a + (j:Int);omega
theorem QW {lo hi ah:Nat->Int}:∀ (n:Nat),(B7 lo hi ah n).Pairwise λ r q=>DA r q=true
 | 0=>by simp [B7]
 | n + 1=>by
  rw [B7,qO];refine ⟨λ r hr=>?_,?_⟩
  ·rw [Qe];exact List.Pairwise.imp (λ {x y} h=>Zq r h) (yo _ _ _ rfl)
  ·refine List.Pairwise.imp_of_mem (λ {r q} hr hq h u hu v hv=>?_) (QW n);obtain ⟨x,_,rfl⟩:=jc4.mp hu;obtain ⟨y,_,rfl⟩:=jc4.mp hv;exact Zr x y (by rw [NJ _ _ _ n r hr,NJ _ _ _ n q hq]) h
theorem ZM {lo hi ah:Nat->Int}:∀ {n:Nat}{r:List Int},r.length=n->(∀ j,j < n->lo j<=r.getD j 0/\r.getD j 0<=hi j/\r.getD j 0<=ah j)->(∀ j,j + 1 < n->r.getD (j + 1) 0<=r.getD j 0)->r∈B7 lo hi ah n
 | 0,r,h,_,_=>by rw [jg8.mp h];simp [B7]
 | n + 1,r,h,h1,h2=>by
  have hn:r≠[]:=λ e=>by rw [e] at h;cases h
  obtain ⟨q,x,rfl⟩:∃ q x,r=q++[x]:=⟨r.dropLast,r.getLast hn,(List.dropLast_concat_getLast hn).symm⟩
  have hq:q.length=n:=by simpa using h
  have g1:∀ j,j < n->(q++[x]).getD j 0=q.getD j 0:=λ j hj=>by rw [MB hq,if_neg (by (clear hq h;omega))]
  have g2:(q++[x]).getD n 0=x:=by rw [MB hq,if_pos rfl]
  have mq:q∈B7 lo hi ah n:=ZM hq (λ j hj=>by have:=h1 j (by (clear g2 hq h;omega));rwa [g1 j hj] at this) (λ j hj=>by have:=h2 j (by (clear g2 hq h;omega));rwa [g1 j (by (clear this g2 hq h;omega)),g1 (j + 1) (by (clear this g2 hq h;omega))] at this);rw [B7,JQ];refine ⟨q,mq,jc4.mpr ⟨x,qd3.mpr ⟨?_,?_⟩,rfl⟩⟩
  ·have:=(h1 n (by (clear g2 hq h;omega))).1;rwa [g2] at this
  ·have a1:=(h1 n (by (clear g2 hq h;omega))).2;rw [g2] at a1;unfold Bc;cases n with
   | zero=>rw [jg8.mp hq];simp only [TY];(clear g2 hq h;omega)
   | succ m=>
    have a2:=h2 m (by (clear a1 g2 hq h;omega));rw [g2,g1 m (by (clear a2 a1 g2 hq h;omega))] at a2;rw [Q6 hq];simp only;(clear g2 hq h;omega)
def AF (b:Nat) (c:Int):List (List Int):=B7 (λ _=>0) (λ _=>c) (λ _=>c) b
structure RowB (b:Nat) (c:Int) (r:List Int):Prop where
 len:r.length=b
 lo:∀ j,j < b->0<=r.getD j 0
 hi:∀ j,j < b->r.getD j 0<=c
 nr:∀ j,j + 1 < b->r.getD (j + 1) 0<=r.getD j 0
theorem zxb {b:Nat}{c:Int}{r:List Int}:r∈AF b c↔RowB b c r:=by
 constructor
 ·intro h;obtain ⟨h1,h2,h3⟩:=Qu h;exact ⟨h1,λ j hj=>(h2 j hj).1,λ j hj=>(h2 j hj).2.1,h3⟩
 ·intro h;exact ZM h.len (λ j hj=>⟨h.lo j hj,h.hi j hj,h.hi j hj⟩) h.nr
theorem Zc (b:Nat) (c:Int):(AF b c).Pairwise λ r q=>DA r q=true:=QW b
theorem LC (b:Nat) (c:Int):(AF b c).Nodup:=List.Pairwise.imp (λ {r q} h e=>by rw [e,Ot] at h;cases h) (Zc b c)
def Az:List Int->List Int->List Int
 | [],ys=>ys
 | x::xs,[]=>x::xs
 | x::xs,y::ys=>(x + y)::Az xs ys
theorem LV:∀ xs:List Int,Az xs []=xs
 | []=>rfl
 | _::_=>rfl
theorem Z3:∀ xs ys:List Int,Az xs ys=Az ys xs
 | [],ys=>by rw [LV];rfl
 | x::xs,[]=>rfl
 | x::xs,y::ys=>by rw [Az,Az,Z3 xs ys,Int.add_comm]
theorem LF:∀ xs ys zs:List Int,Az (Az xs ys) zs=Az xs (Az ys zs)
 | [],ys,zs=>rfl
 | x::xs,[],zs=>rfl
 | x::xs,y::ys,[]=>rfl
 | x::xs,y::ys,z::zs=>by simp only [Az];rw [LF xs ys zs,Int.add_assoc]
theorem QH:∀ xs ys:List Int,(Az xs ys).length=max xs.length ys.length
 | [],ys=>by simp [Az]
 | x::xs,[]=>by simp [Az]
 | x::xs,y::ys=>by simp only [Az,AY,QH xs ys];omega
theorem YO:∀ xs ys:List Int,(Az xs ys).sum=xs.sum + ys.sum
 | [],ys=>by simp [Az]
 | x::xs,[]=>by simp [Az]
 | x::xs,y::ys=>by simp only [Az,DP,YO xs ys];omega
def Cn (f:List Int->List Int) (l:List (List Int)):List Int:=l.foldr (λ r s=>Az (f r) s) []
theorem Ks {f:List Int->List Int}{r:List Int}{l:List (List Int)}:Cn f (r::l)=Az (f r) (Cn f l):=rfl
theorem VL {f:List Int->List Int}{p q s:List Int->Bool}:∀ (l:List (List Int)),(∀ r∈l,s r=(p r || q r))->(∀ r∈l,p r=true->q r=false)->Cn f (l.filter s)=Az (Cn f (l.filter p)) (Cn f (l.filter q))
 | [],_,_=>rfl
 | r::l,h,d=>by
  have ih:=VL (f:=f) l (λ a ha=>h a (AE _ ha)) (λ a ha=>d a (AE _ ha));have hs:=h r AD;have hd:=d r AD;rw [FZ,FZ,FZ,hs];cases hp:p r with
  | true=>
   rw [hd hp];simp only [PR,if_true,Hj,if_false,Ks,ih,LF]
  | false=>
   cases hq:q r with
   | true=>
    simp only [Na,if_true,Hj,if_false,Ks,ih];rw [<- LF,<- LF,Z3 (f r)]
   | false=>simp only [PR,Hj,if_false,ih]
theorem Zh {f:List Int->List Int}{p:List Int->Bool}{r:List Int}:∀ {l:List (List Int)},l.Nodup->r∈l->(∀ q∈l,p q=decide (q=r))->Cn f (l.filter p)=f r
 | [],_,h,_=>by cases h
 | a::l,nd,h,hp=>by
  rw [jg5] at nd;rw [FZ,hp a AD];by_cases e:a=r
  ·subst e
   have:l.filter p=[]:=by
    rw [jj9];intro q hq;rw [hp q (AE _ hq),decide_eq_true_iff];rintro rfl;exact nd.1 hq
   rw [decide_eq_true rfl,if_pos rfl,this,Ks];exact LV _
  ·rw [decide_eq_false e,if_neg (by simp)];rcases jb8.mp h with h | h
   ·exact absurd h.symm e
   ·exact Zh nd.2 h λ q hq=>hp q (AE _ hq)
def JJ (b j:Nat) (r q:List Int):Bool:=(An b).all λ i=>if i < j then decide (q.getD i 0<=r.getD i 0) else decide (q.getD i 0=r.getD i 0)
theorem Im {b j:Nat}{r q:List Int}:JJ b j r q=true↔∀ i,i < b->(i < j->q.getD i 0<=r.getD i 0)/\(j<=i->q.getD i 0=r.getD i 0):=by
 unfold JJ;rw [jb3];constructor
 ·intro h i hi
  have:=h i (jc2.mpr hi)
  by_cases e:i < j
  ·rw [if_pos e,decide_eq_true_iff] at this;exact ⟨λ _=>this,λ e'=>absurd e (by (clear e this hi;omega))⟩
  ·rw [if_neg e,decide_eq_true_iff] at this;exact ⟨λ e'=>absurd e' e,λ _=>this⟩
 ·intro h i hi
  have:=h i (jc2.mp hi)
  by_cases e:i < j
  ·rw [if_pos e,decide_eq_true_iff];exact this.1 e
  ·rw [if_neg e,decide_eq_true_iff];exact this.2 (by omega)
def Bd (b:Nat) (c:Int) (f:List Int->List Int) (j:Nat) (r:List Int):List Int:=Cn f ((AF b c).filter (JJ b j r))
def Bo (r:List Int) (j:Nat):List Int:=r.take j++[r.getD j 0 - 1]++r.drop (j + 1)
theorem gE {r:List Int}{j:Nat} (h:j < r.length):(Bo r j).length=r.length:=by
 unfold Bo;simp;omega
theorem Jl {r:List Int}{j i:Nat} (h:j < r.length):(Bo r j).getD i 0=if i=j then r.getD j 0 - 1 else r.getD i 0:=by
 unfold Bo;simp only [A7,Ig];by_cases h1:i < j
 ·rw [DC (by simp;omega),if_neg (by omega),qV h1]
 ·rw [GF (by simp;omega)];have hl:(r.take j).length=j:=by simp;omega
  rw [hl];by_cases h2:i=j
  ·subst h2;simp
  ·rw [if_neg h2,show i - j=(i - j - 1) + 1 by (clear hl h;omega),List.singleton_append,qU,List.getElem?_drop];congr 2;(clear hl h;omega)
theorem To:∀ {r:List Int}{j:Nat},j < r.length->DA (Bo r j) r=true
 | [],_,h=>by cases h
 | x::r,0,_=>by simp [Bo,DA];omega
 | x::r,j + 1,h=>by
  have ih:=To (r:=r) (j:=j) (by simpa using h);unfold Bo at ih ⊢;simp [DA] at ih ⊢;exact ih
theorem yz {r q:List Int}{b:Nat} (h1:r.length=b) (h2:q.length=b) (h:∀ i,i < b->q.getD i 0=r.getD i 0):q=r:=by
 apply TX (by omega);intro i hi hi'
 have:=h i (by (clear hi' h1;omega))
 rw [A7,A7,Bb hi,Bb hi'] at this;simpa using this
theorem ft {b:Nat}{c:Int}{f:List Int->List Int}{r:List Int} (h:r∈AF b c):Bd b c f 0 r=f r:=by
 unfold Bd;refine Zh (LC b c) h λ q hq=>?_;rw [Ed,Im,decide_eq_true_iff];have h1:=zxb.mp h;have h2:=zxb.mp hq;constructor
 ·intro e;exact yz h1.len h2.len λ i hi=>(e i hi).2 (by omega)
 ·rintro rfl i _;exact ⟨λ z=>absurd z (by omega),λ _=>rfl⟩
theorem ZR {b:Nat}{c:Int}{f:List Int->List Int}{r:List Int}{j:Nat} (h:r∈AF b c) (hj:j < b):Bd b c f (j + 1) r=if Bo r j∈AF b c then Az (Bd b c f j r) (Bd b c f (j + 1) (Bo r j)) else Bd b c f j r:=by
 have h1:=zxb.mp h;have hl:j < r.length:=by rw [h1.len];exact hj
 split
 ·rename_i hm;unfold Bd;refine VL _ (λ q hq=>?_) (λ q hq=>?_)
  ·have h2:=zxb.mp hq;rw [Ed,G8,Im,Im,Im];constructor
   ·intro e;by_cases ej:q.getD j 0=r.getD j 0
    ·refine .inl λ i hi=>⟨λ z=>(e i hi).1 (by (clear hi ej hl hj;omega)),λ z=>?_⟩
     by_cases ei:i=j
     ·subst ei;exact ej
     ·exact (e i hi).2 (by (clear hi ej hl hj;omega))
    ·refine .inr λ i hi=>?_;rw [Jl hl];refine ⟨λ z=>?_,λ z=>?_⟩
     ·have:=(e i hi).1 z
      split
      ·rename_i e';subst e';(clear z hl hj hi;omega)
      ·exact this
     ·rw [if_neg (by (clear hi ej hl hj;omega))];exact (e i hi).2 z
   ·rintro (e | e) i hi
    ·refine ⟨λ z=>?_,λ z=>(e i hi).2 (by (clear hi hl hj;omega))⟩;by_cases ei:i < j
     ·exact (e i hi).1 ei
     ·exact qf ((e i hi).2 (by (clear z hi hl hj;omega)))
    ·have e':=e i hi;rw [Jl hl] at e';refine ⟨λ z=>?_,λ z=>?_⟩
     ·have:=e'.1 z
      split at this
      ·rename_i e2;subst e2;(clear this z hl hj hi;omega)
      ·exact this
     ·have:=e'.2 z
      rwa [if_neg (by (clear this hi hl hj;omega))] at this
  ·intro e;rw [jp0];intro e2;rw [Im] at e e2;have a1:=(e j hj).2 (A5 _);have a2:=(e2 j hj).1 (by (clear a1 hl hj;omega));rw [Jl hl,if_pos rfl] at a2
   (clear hl hj;omega)
 ·rename_i hm;unfold Bd;congr 1;apply Qf;intro q hq;have h2:=zxb.mp hq;rw [Ed,Im,Im];constructor
  ·intro e i hi;refine ⟨λ z=>(e i hi).1 (by (clear hi hl hj;omega)),λ z=>?_⟩;by_cases ei:i=j
   ·subst ei;have a1:=(e i hi).1 (by (clear z hl hj hi;omega));by_cases ej:q.getD i 0=r.getD i 0
    ·exact ej
    ·refine absurd (zxb.mpr ⟨by rw [gE hl,h1.len],λ k hk=>?_,λ k hk=>?_,λ k hk=>?_⟩) hm
     ·rw [Jl hl]
      have:=h2.lo i hi
      have:=h1.lo k hk
      split <;> (clear hk z hl hj hi;omega)
     ·rw [Jl hl]
      have:=h1.hi k hk
      split
      ·rename_i e';subst e';(clear ej a1 z hl hj hi hk;omega)
      ·exact this
     ·rw [Jl hl,Jl hl];have b1:=h1.nr k hk;by_cases c1:k + 1=i
      ·rw [if_pos c1,if_neg (by (clear b1 hk ej a1 z hl hj hi;omega))];subst c1;(clear ej a1 z hl hj hi hk;omega)
      ·rw [if_neg c1];by_cases c2:k=i
       ·rw [if_pos c2];subst c2;have b2:=h2.nr k hk;have b3:=(e (k + 1) hk).2 (by (clear b2 c1 ej a1 z hl hj hi b1 hk;omega))
        (clear c1 z hl hj hi b1 hk;omega)
       ·rw [if_neg c2];exact b1
   ·exact (e i hi).2 (by (clear hi hl hj;omega))
  ·intro e i hi;refine ⟨λ z=>?_,λ z=>(e i hi).2 (by (clear hi hl hj;omega))⟩;by_cases ei:i < j
   ·exact (e i hi).1 ei
   ·exact qf ((e i hi).2 (by (clear z hi hl hj;omega)))
def T9 (b:Nat) (q r:List Int):Bool:=(An b).all λ i=>decide (q.getD i 0<=r.getD i 0)
theorem yw {b:Nat}{r q:List Int}:T9 b q r=true↔∀ i,i < b->q.getD i 0<=r.getD i 0:=by
 unfold T9;rw [jb3];exact ⟨λ h i hi=>by simpa using h i (jc2.mpr hi),λ h i hi=>by simpa using h i (jc2.mp hi)⟩
def Dx (b:Nat) (c:Int) (f:List Int->List Int) (r:List Int):List Int:=Cn f ((AF b c).filter λ q=>T9 b q r)
theorem bu {b:Nat}{c:Int}{f:List Int->List Int}{r:List Int}:Bd b c f b r=Dx b c f r:=by
 unfold Bd Dx;congr 1;apply Qf;intro q _;rw [Ed,Im,yw];exact ⟨λ h i hi=>(h i hi).1 hi,λ h i hi=>⟨λ _=>h i hi,λ z=>absurd z (by omega)⟩⟩
theorem WK {f g:Fx}{ρ ρ1 ρ2:Af}{xs ys:List Int}{d e:Nat} (h1:f ρ=.ok (il xs,d,ρ1)) (h2:g ρ1=.ok (il ys,e,ρ2)) (hl:xs.length + ys.length<=1000000):Ac B0 f g ρ=.ok (il (xs++ys),om,ρ2):=by
 have:=wD h1 h2 (by rw [Ax,Ax];exact BD hl sz)
 rw [this,<- B5,MH];rfl
theorem XQ {f g:Fx}{ρ ρ1 ρ2:Af}{k:Int}{d e:Nat} (h1:f ρ=.ok (.lst [.int 0],d,ρ1)) (h2:g ρ1=.ok (.int k,e,ρ2)) (hk:-1000000<=k/\k<=1000000):Ac BZ f g ρ=.ok (il (A6 k.toNat 0),om,ρ2):=by
 refine Cr h1 h2 ?_;have z:=sz;unfold BZ;dsimp only;rw [if_pos ⟨by omega,by omega,by rw [GC];omega⟩,QT,MH];rfl
theorem wI {i:Nat}{fj f:Fx}{ρ ρ2:Af}{xs:List Int}{w:Int}{j d d1 d2:Nat} (hx:ρ[i]?=some (some (il xs,d))) (hd:d≠0) (hj:fj ρ=.ok (.int (j:Int),d1,ρ)) (hf:f ρ=.ok (.int w,d2,ρ)) (hl:j < xs.length) (e:ρ.set i (some (il (xs.set j (xs.getD j 0 + w)),d))=ρ2):IP (λ i j=>i + j) i fj f ρ=.nx ρ2:=by
 unfold IP;rw [hx,hj];show (match f ρ with | .ok (.int w,_,ρ2)=>_ | _=>Rs.no)=_;rw [hf];dsimp only;have e1:CG (xs.map PV.int).length (j:Int)=some j:=by
  unfold CG;rw [if_pos (by (clear hl hd;omega)),Ax,if_pos (by omega),Di]
 rw [e1];dsimp only;have e2:(xs.map PV.int)[j]?=some (.int (xs.getD j 0)):=by
  rw [BO,A7,Bb hl];rfl
 rw [e2];dsimp only;rw [if_pos ⟨hd,bI (Qz xs)⟩,<- e,il,TM]
theorem Z4:∀ (t p:List Int) (y:Int),p.length < t.length->Az t (p++[y])=(Az t p).set p.length ((Az t p).getD p.length 0 + y)
 | [],p,y,h=>by simp at h
 | a::t,[],y,h=>by simp [Az,LV]
 | a::t,b::p,y,h=>by
  have:=Z4 t p y (by simpa using h)
  simp only [Hi,Az,AY,List.set_cons_succ,List.getD_cons_succ];rw [this]
theorem QI:∀ (xs ys:List Int),Az (xs++A6 (ys.length - xs.length) 0) ys=Az xs ys
 | [],[]=>rfl
 | [],y::ys=>by
  have:=QI [] ys
  simp only [Ex,JO,TJ,AY,Fh,Az,EI] at this ⊢;rw [this]
 | x::xs,[]=>by simp [Az]
 | x::xs,y::ys=>by
  have:=QI xs ys
  simp only [Hi,AY,Nat.add_sub_add_right,Az];rw [this]
theorem YQ {xs ys:List Int} (hx:xs.length<=1000) (hy:ys.length<=1000):f_added [il xs,il ys]=.ok (il (Az xs ys),om,.non):=by
 let L (t:List Int) (s3 s4:QQ.Slot):Af:=[some (il xs,0),some (il ys,0),some (il t,om),s3,s4]
 let base:=xs++A6 (ys.length - xs.length) 0;have hbl:ys.length<=base.length:=by simp [base];(clear hy hx;omega)
 have v1:Aj false 2 (Ac B0 (Aq Iy (Ad (Aa 0) (Ab))) (Ac BZ pc6 (Ac Dl pd1 pb3))) [0,1,0] [some (il xs,0),some (il ys,0),none,none,none]=.nx (L base none none):=by
  have e1:=XQ (f:=Aq Bw (Ad (bC (.int 0)) (Ab))) (ρ:=[some (il xs,0),some (il ys,0),none,none,none]) (d:=om) rfl (Hq (MT (xs:=ys) (fa:=Ad (Aa 1) Ab) (d:=0) rfl) (MT (xs:=xs) (fa:=Ad (Aa 0) Ab) (d:=0) rfl)) (by omega);rw [show ((ys.length:Int) - (xs.length:Int)).toNat=ys.length - xs.length by (clear hbl hy hx;omega)] at e1;exact setF (WK (y0 (f:=Aa 0) (xs:=xs) (d:=0) rfl) e1 (by rw [Ee];omega)) (show 2 < 5 by decide) rfl
 obtain ⟨ρ',v2,s3,s4,rfl⟩:=LW (v:=.enm) (fa:=Ad (Aa 1) Ab) (vs:=[1]) (asg:=asgT [3,4]) (body:=IP (λ i j=>i + j) 2 (Aa 3) (Aa 4)) (ρ:=L base none none) (ρ1:=L base none none) (ρ2:=L base none none) (xs:=[(il ys,0)]) (els:=DL 0 (ys.map PV.int)) (λ j ρ=>∃ s3 s4,ρ=L (Az base (ys.take j)) s3 s4) rfl rfl rfl ⟨none,none,by rw [Lm,LV]⟩ (by
  rintro j x _ hx ⟨s3,s4,rfl⟩;rw [LP,BO] at hx;cases ey:ys[j]? with
  | none=>rw [ey] at hx;cases hx
  | some y=>
   rw [ey] at hx;obtain rfl:PV.tup [.int ((0 + j:Nat):Int),.int y]=x:=Option.some.inj hx;have hj:j < ys.length:=(jb0.mp ey).1;have ht:ys.take (j + 1)=ys.take j++[y]:=by rw [qA,ey];rfl
   have hl:(ys.take j).length=j:=by rw [GA];(clear hbl hy;omega)
   refine ⟨L (Az base (ys.take j)) (some (.int ((0 + j:Nat):Int),om)) (some (.int y,om)),L (Az base (ys.take (j + 1))) (some (.int ((0 + j:Nat):Int),om)) (some (.int y,om)),rfl,?_,_,_,rfl⟩;refine wI (xs:=Az base (ys.take j)) (w:=y) (j:=j) (d:=om) (d1:=om) (d2:=om) rfl (by decide) (by rw [He];rfl) rfl (by rw [QH];(clear hl hy;omega)) ?_;rw [ht,Z4 base (ys.take j) y (by rw [hl];(clear hl hy;omega)),hl]
   rfl)
 rw [LQ,Ax,Qc,show Az base ys=Az xs ys from QI xs ys] at v2;exact Bg rfl ((A3 v1).trans ((A3 v2).trans rfl))
def A8 (r:List Int):List A0:=r.map Sum.inl
def Am (r:List Int):PV:=.tup (r.map PV.int)
theorem bF (r:List Int):DX (A8 r)=Am r:=by
 unfold DX A8 Am;rw [BC];rfl
theorem Jk:∀ r:List Int,BI (r.map PV.int)=some (A8 r)
 | []=>rfl
 | x::r=>by rw [AR,BI,Jk r];rfl
theorem NY:∀ {r q:List Int},A8 r=A8 q->r=q
 | [],[],_=>rfl
 | [],_::_,h=>by cases h
 | _::_,[],h=>by cases h
 | x::r,y::q,h=>by
  have h1:(Sum.inl x:A0)::A8 r=Sum.inl y::A8 q:=h;injection h1 with h2 h3
  injection h2 with h2
  rw [h2,NY h3]
def Ao (R:List (List Int)) (f:List Int->List Int):PV:=.dcl (R.map A8) (R.map λ r=>il (f r))
theorem Tn {h:List Int->PV}{r:List Int}:∀ {R:List (List Int)},G7 (R.map A8) (R.map h) (A8 r)=if r∈R then some (h r) else none
 | []=>rfl
 | q::R=>by
  rw [AR,AR,G7];by_cases e:q=r
  ·subst e;rw [if_pos rfl,if_pos AD]
  ·rw [if_neg λ z=>e (NY z),Tn]
   have:r∈q::R↔r∈R:=by rw [jb8];exact ⟨λ z=>z.resolve_left λ z=>e z.symm,.inr⟩
   simp only [this]
theorem ZV {h:List Int->PV}{r:List Int}{y:PV}:∀ {R:List (List Int)},IQ (A8 r) y (R.map A8) (R.map h)=R.map λ q=>if q=r then y else h q
 | []=>rfl
 | q::R=>by
  rw [AR,AR,IQ,ZV,AR];congr 1;by_cases e:q=r
  ·subst e;rw [if_pos rfl,if_pos rfl]
  ·rw [if_neg λ z=>e (NY z),if_neg e]
theorem YM {r:List Int}{R:List (List Int)}:FF (R.map A8) (A8 r)=decide (r∈R):=by
 unfold FF;rw [List.any_map,Ed,List.any_eq_true,decide_eq_true_iff];constructor
 ·rintro ⟨q,hq,e⟩
  have:A8 q=A8 r:=by simpa using e
  rw [<- NY this];exact hq
 ·intro h;exact ⟨r,h,by simp⟩
theorem gy {f g:Fx}{ρ ρ1 ρ2:Af}{R:List (List Int)}{h:List Int->PV}{r:List Int}{d e:Nat} (h1:f ρ=.ok (.dcl (R.map A8) (R.map h),d,ρ1)) (h2:g ρ1=.ok (Am r,e,ρ2)) (hr:r∈R):Ac AQ f g ρ=.ok (h r,dv (h r),ρ2):=by
 refine Cr h1 h2 ?_;show (match BI (r.map PV.int) with | some k=>(G7 (R.map A8) (R.map h) k).map λ z=>(z,dv z) | none=>none)=_;rw [Jk];dsimp only;rw [Tn,if_pos hr];rfl
theorem Ti {f g:Fx}{ρ ρ1 ρ2:Af}{R:List (List Int)}{h:List Int->List Int}{r:List Int}{d e:Nat} (h1:f ρ=.ok (Ao R h,d,ρ1)) (h2:g ρ1=.ok (Am r,e,ρ2)) (hr:r∈R):Ac AQ f g ρ=.ok (il (h r),0,ρ2):=
 gy (h:=λ r=>il (h r)) h1 h2 hr
theorem kT {f g:Fx}{ρ ρ1 ρ2:Af}{R:List (List Int)}{h:List Int->List Int}{r:List Int}{d e:Nat} (h1:f ρ=.ok (Am r,d,ρ1)) (h2:g ρ1=.ok (Ao R h,e,ρ2)):Ac (Dz false) f g ρ=.ok (.bl (decide (r∈R)),om,ρ2):=by
 refine Cr h1 h2 ?_;show (BI (r.map PV.int)).map (λ k=>(PV.bl (false^^(G7 (R.map A8) (R.map λ r=>il (h r)) k).isSome),om))=_;rw [Jk];show some (PV.bl (false^^(G7 (R.map A8) (R.map λ r=>il (h r)) (A8 r)).isSome),om)=_;rw [Tn (h:=λ r=>il (h r)),Ll];by_cases e:r∈R
 ·rw [if_pos e,decide_eq_true e];rfl
 ·rw [if_neg e,decide_eq_false e];rfl
theorem VM {R:List (List Int)}{f h:List Int->List Int} (e:∀ r∈R,f r=h r):Ao R f=Ao R h:=by
 unfold Ao;congr 1;exact GB λ r hr=>by rw [e r hr]
theorem yY {i:Nat}{fk f:Fx}{ρ ρ1 ρ2:Af}{R:List (List Int)}{h:List Int->List Int}{r:List Int}{y:List Int}{d e:Nat} (hf:f ρ=.ok (il y,om,ρ1)) (hx:ρ1[i]?=some (some (Ao R h,d))) (hd:d≠0) (hk:fk ρ1=.ok (Am r,e,ρ1)) (hr:r∈R) (hl:R.length < 1000000) (e2:ρ1.set i (some (Ao R (λ q=>if q=r then y else h q),1))=ρ2):CI i fk f ρ=.nx ρ2:=by
 have z:=sz;unfold CI;rw [hf];dsimp only;rw [hx];dsimp only;rw [hk];dsimp only;show (match BI (r.map PV.int) with | some kk=>if d≠0/\(om=om\/C5 (il y)=true)/\(R.map A8).length < Au then Rs.nx (ρ1.set i (some (HB (R.map A8) (R.map λ r=>il (h r)) kk (il y),1))) else .no | none=>.no)=_;rw [Jk];dsimp only;rw [if_pos ⟨hd,.inl rfl,by rw [Ax];omega⟩,<- e2];unfold HB;rw [YM,decide_eq_true hr,if_pos rfl,ZV (h:=λ r=>il (h r))];unfold Ao;congr 5;refine GB λ q _=>?_;dsimp only;split <;> rfl
def G0 (R:List (List Int)) (h:List Int->PV):PV:=.dcl (R.map A8) (R.map h)
theorem bg {i:Nat}{fk f:Fx}{ρ ρ1 ρ2:Af}{R:List (List Int)}{h:List Int->PV}{r:List Int}{d e e':Nat}{x:PV} (hf:f ρ=.ok (h r,e',ρ1)) (he:e'=om\/C5 (h r)=true) (hs:sV (h r)=none) (hx:ρ1[i]?=some (some (x,d))) (hxe:x=G0 R h\/(x=.dct []/\R=[])) (hd:d≠0) (hk:fk ρ1=.ok (Am r,e,ρ1)) (hr:r∉R) (hl:R.length < 1000000) (e2:ρ1.set i (some (G0 (R++[r]) h,1))=ρ2):CI i fk f ρ=.nx ρ2:=by
 have z:=sz;have fin:HB (R.map A8) (R.map h) (A8 r) (h r)=G0 (R++[r]) h:=by
  unfold HB;rw [YM,decide_eq_false hr,if_neg (by simp)];unfold G0;rw [B5,B5];rfl
 unfold CI;rw [hf];dsimp only;rw [hx];dsimp only;rw [hk];dsimp only;rcases hxe with rfl | ⟨rfl,rfl⟩
 ·show (match BI (r.map PV.int) with | some kk=>if d≠0/\(e'=om\/C5 (h r)=true)/\(R.map A8).length < Au then Rs.nx (ρ1.set i (some (HB (R.map A8) (R.map h) kk (h r),1))) else .no | none=>.no)=_;rw [Jk];dsimp only;rw [if_pos ⟨hd,he,by rw [Ax];(clear hd he;omega)⟩,<- e2,fin]
 ·have ep:Dy (.dct []) (Am r) (h r)=none:=by
   show (match BI (r.map PV.int),sV (h r) with | some k,some u=>_ | _,_=>none)=_;rw [Jk,hs]
  rw [ep];show (match BI (r.map PV.int) with | some kk=>if d≠0/\(e'=om\/C5 (h r)=true)/\0 < Au then Rs.nx (ρ1.set i (some (HB [] [] kk (h r),1))) else .no | none=>.no)=_;rw [Jk];dsimp only;rw [if_pos ⟨hd,he,by (clear hl hd he;omega)⟩,<- e2];exact congrArg (λ z=>Rs.nx (ρ1.set i (some (z,1)))) fin
theorem Tz {i:Nat}{fk f:Fx}{ρ ρ1 ρ2:Af}{R:List (List Int)}{h:List Int->List Int}{r:List Int}{y:List Int}{d e:Nat}{x:PV} (hf:f ρ=.ok (il y,om,ρ1)) (hx:ρ1[i]?=some (some (x,d))) (hxe:x=Ao R h\/(x=.dct []/\R=[])) (hd:d≠0) (hk:fk ρ1=.ok (Am r,e,ρ1)) (hr:r∉R) (hy:h r=y) (hl:R.length < 1000000) (e2:ρ1.set i (some (Ao (R++[r]) h,1))=ρ2):CI i fk f ρ=.nx ρ2:=
 bg (h:=λ r=>il (h r)) (by rw [hf,hy]) (.inl rfl) rfl hx hxe hd hk hr hl e2
theorem gi {f:Fx}{vs:List Nat}{asg:PV->Af->Option Af}{body:Fs}{ρ ρ1 ρ2 ρ3:Af}{R:List (List Int)}{h:List Int->PV}{d:Nat} (hf:f ρ=.ok (G0 R h,d,ρ1)) (ec:Bf d vs ρ1=ρ2) (hl:Bu asg body (R.map Am) ρ2=.nx ρ3):HE f vs asg body ρ=.nx ρ3:=by
 unfold HE;rw [hf];show EF (Bu asg body ((R.map A8).map DX) (Bf d vs ρ1))=_;rw [BC,ec,show (DX ∘ A8)=Am from funext bF,hl];rfl
theorem X9 {f:Fx}{vs:List Nat}{asg:PV->Af->Option Af}{body:Fs}{ρ ρ1 ρ2 ρ3:Af}{R:List (List Int)}{h:List Int->List Int}{d:Nat} (hf:f ρ=.ok (Ao R h,d,ρ1)) (ec:Bf d vs ρ1=ρ2) (hl:Bu asg body (R.map Am) ρ2=.nx ρ3):HE f vs asg body ρ=.nx ρ3:=gi (h:=λ r=>il (h r)) hf ec hl
theorem yK {f:Fx}{vs:List Nat}{asg:PV->Af->Option Af}{body:Fs}{ρ ρ1 ρ2 ρ3:Af}{R:List (List Int)}{h:List Int->List Int}{d:Nat} (hf:f ρ=.ok (Ao R h,d,ρ1)) (ec:Bf d vs ρ1=ρ2) (hl:Bu asg body (R.map λ r=>il (h r)) ρ2=.nx ρ3):Lh f vs asg body ρ=.nx ρ3:=by
 unfold Lh;rw [hf];show EF (Bu asg body (R.map λ r=>il (h r)) (Bf d vs ρ1))=_;rw [ec,hl];rfl
theorem Tu {f h:Fx}{ρ ρ1 ρ2:Af}{xs ys:List Int}{d e:Nat} (h1:f ρ=.ok (Am xs,d,ρ1)) (h2:h ρ1=.ok (Am ys,e,ρ2)) (hl:xs.length + ys.length<=1000000):Ac B0 f h ρ=.ok (Am (xs++ys),0,ρ2):=by
 have z:=sz;refine Cr h1 h2 ?_;show (if _ then _ else _)=_;rw [if_pos (by rw [Ax,Ax];omega),<- B5];rfl
theorem Oo {f g:Fx}{ρ ρ1 ρ2:Af}{xs:List Int}{k x:Int}{d e:Nat} (h1:f ρ=.ok (Am xs,d,ρ1)) (h2:g ρ1=.ok (.int k,e,ρ2)) (h:BM xs k=some x):Ac AQ f g ρ=.ok (.int x,om,ρ2):=by
 refine Cr h1 h2 ?_;show (BM (xs.map PV.int) k).map _=_
 have:BM (xs.map PV.int) k=some (.int x):=by
  unfold BM at h ⊢;rw [Ax];cases e:CG xs.length k with
  | none=>rw [e] at h;cases h
  | some j=>
   rw [e] at h;have h':xs[j]?=some x:=h;show (xs.map PV.int)[j]?=_;rw [BO,h'];rfl
 rw [this];rfl
theorem kr {f g:Fx}{ρ:Af}{xs:List Int}{j d e:Nat} (h1:f ρ=.ok (Am xs,d,ρ)) (h2:g ρ=.ok (.int (j:Int),e,ρ)) (hj:j < xs.length):Jc f none (some g) ρ=.ok (Am (xs.take j),0,ρ):=by
 unfold Jc;rw [h1];dsimp only [Rz.bind,Nu];rw [h2];dsimp only;have e1:Fy (Am xs) none (some (j:Int))=some (Am (xs.take j),0):=by
  unfold Fy Am;dsimp only;rw [HT.sIx_none,HT.sIx_nat,Ax,if_neg (by rw [PY (by omega)];omega)];unfold EN;rw [HT.sIx_none,HT.sIx_nat,Ax,PY (by omega),List.drop_zero,TJ,List.map_take]
 rw [e1]
theorem uf {f g:Fx}{ρ:Af}{xs:List Int}{j d e:Nat} (h1:f ρ=.ok (Am xs,d,ρ)) (h2:g ρ=.ok (.int (j:Int),e,ρ)) (h0:0 < j) (hj:j<=xs.length):Jc f (some g) none ρ=.ok (Am (xs.drop j),0,ρ):=by
 unfold Jc;rw [h1];dsimp only [Rz.bind,Nu];rw [h2];dsimp only;have e1:Fy (Am xs) (some (j:Int)) none=some (Am (xs.drop j),0):=by
  unfold Fy Am;dsimp only;rw [HT.sIx_none,HT.sIx_nat,Ax,if_neg (by rw [PY (by omega)];omega)];unfold EN;rw [HT.sIx_none,HT.sIx_nat,Ax,PY (by omega),List.map_drop,Nm (by rw [Qd,Ax];(clear hj h0;omega))]
 rw [e1]
theorem K1 {f:List Int->List Int}{m:Nat}:∀ {l:List (List Int)},(∀ r∈l,(f r).length<=m)->(Cn f l).length<=m
 | [],_=>FC _
 | r::l,h=>by
  rw [Ks,QH]
  have:=h r AD
  have:=K1 (l:=l) λ q hq=>h q (AE _ hq)
  omega
theorem bw {b:Nat}{c:Int}{f:List Int->List Int}{m j:Nat}{r:List Int} (h:∀ r∈AF b c,(f r).length<=m):(Bd b c f j r).length<=m:=K1 λ q hq=>h q (jh4.mp hq).1
def Bl (b:Nat) (c:Int) (f:List Int->List Int) (j:Nat) (pre:List (List Int)) (r:List Int):List Int:=if r∈pre then Bd b c f (j + 1) r else Bd b c f j r
theorem T8 (b:Nat) (c:Int) (f:List Int->List Int) (j:Nat):Bl b c f j []=Bd b c f j:=by
 funext r;unfold Bl;rw [if_neg (by simp)]
theorem uo {b:Nat}{c:Int}{f:List Int->List Int} (hb:1<=b/\b<=1000) (hd:DE ((AF b c).map A8)=true) (hn:AF b c≠[]) (hR:(AF b c).length < 1000000) (hf:∀ r∈AF b c,(f r).length<=1000):f_sums_of_lower_rows [Ao (AF b c) f,.int (b:Int)]=.ok (Ao (AF b c) (Dx b c f),1,.non):=by
 let R:=AF b c;let L (h:List Int->List Int) (s3 s4 s5:QQ.Slot):Af:=[some (Ao R f,0),some (.int (b:Int),om),some (Ao R h,1),s3,s4,s5]
 have v1:Aj false 2 (Aq MU (Ad (Aa 0) (Ab))) [0] [some (Ao R f,0),some (.int (b:Int),om),none,none,none,none]=.nx (L f none none none):=by
  refine setF (x:=Ao R f) (d:=1) (CO (BE (x:=Ao R f) (d:=0) rfl) ?_) (show 2 < 6 by decide) rfl;show (if DE (R.map A8)=true/\R.map A8≠[] then some (Ao R f,1) else none)=_;rw [if_pos ⟨hd,λ z=>hn (List.map_eq_nil_iff.mp z)⟩]
 have start:L f none none none=L (Bd b c f 0) none none none:=by
  have:Ao R f=Ao R (Bd b c f 0):=VM λ r hr=>(ft hr).symm
  show [_,_,some (Ao R f,1),_,_,_]=[_,_,some (Ao R (Bd b c f 0),1),_,_,_];rw [this]
 obtain ⟨ρ',v2,s3,s4,s5,rfl⟩:=Kv (i:=3) (en:=Bn) (fa:=Ad (Aa 1) Ab) (body:=(HE (Aa 0) [0] (asgN 4) pa3)) (ρ:=L f none none none) (ρ1:=L f none none none) (as:=[(.int (b:Int),om)]) (lo:=0) (hi:=(b:Int))
  (λ j ρ=>∃ s3 s4 s5,ρ=L (Bd b c f j) s3 s4 s5) rfl (Em (by (clear hR hb;omega)) (by omega)) ⟨none,none,none,start⟩ (by
  rintro j _ hj ⟨s3,s4,s5,rfl⟩;have hjb:j < b:=by (clear hR hb;omega)
  refine ⟨by show 3 < 6;decide,?_⟩;rw [EI];let M (h:List Int->List Int) (d3:Nat) (s4 s5:QQ.Slot):Af:=L h (some (.int (j:Int),d3)) s4 s5;obtain ⟨ρ2,e2,d3',s4',s5',rfl⟩:=Ky (asg:=asgN 4) (enc:=Am) (body:=pa3) (λ pre ρ=>∃ d3 s4 s5,ρ=M (Bl b c f j pre) d3 s4 s5) R [] (M (Bd b c f j) om s4 s5) ⟨om,s4,s5,by rw [T8 b c f j]⟩ (by
   rintro pre r post _ ep ⟨d3,s4,s5,rfl⟩;rw [Ex] at ep;have hr:r∈R:=by rw [ep];exact CL _ AD
   have h1:=zxb.mp hr;have hl:j < r.length:=by rw [h1.len];exact hjb
   have hrp:r∉pre:=λ z=>by
    have:=LC b c
    rw [show AF b c=pre++r::post from ep,Lp] at this;exact this.2.2 r z r AD rfl
   let N (d3 d4:Nat) (s5:QQ.Slot):Af:=M (Bl b c f j pre) d3 (some (Am r,d4)) s5;have w1:Aj false 5 pb8 [4,4,3,4] (N d3 0 s5)=.nx (N 0 0 (some (Am (Bo r j),0))):=by
    have a1:=kr (f:=Aa 4) (g:=Aa 3) (ρ:=N d3 0 s5) (xs:=r) (j:=j) (d:=0) (e:=om) rfl rfl hl;have a2:Aq BL pg1 (N d3 0 s5)=.ok (Am [r.getD j 0 - 1],om,N d3 0 s5):=CO (BE (Hq (j:=1) (e:=om) (Oo (xs:=r) (k:=(j:Int)) (d:=0) (e:=om) rfl rfl (E4 (by (clear hl hjb hj hR hb;omega)) (by rw [Di];exact EU hl))) rfl)) rfl;have a3:=uf (f:=Aa 4) (g:=Ac B0 (Aa 3) (bC (.int 1))) (ρ:=N d3 0 s5) (xs:=r) (j:=j + 1) (d:=0) (e:=om) rfl rfl (by (clear hl hjb hj hR hb;omega)) (by (clear hjb hj hR hb;omega));have a4:=Tu (Tu a1 a2 (by rw [GA,GC];(clear hl hjb hR;omega))) a3 (by rw [Bm,GA,GC,Qd];have:=h1.len;(clear hl hjb hj hR;omega));exact setF a4 (show 5 < 6 by decide) rfl
   have w2:=kT (f:=Aa 5) (g:=Aa 2) (ρ:=N 0 0 (some (Am (Bo r j),0))) (r:=Bo r j) (R:=R) (h:=Bl b c f j pre) (d:=0) (e:=0) rfl rfl;have fl:∀ q,(Bl b c f j pre q).length<=1000:=λ q=>by
    unfold Bl;split <;> exact bw hf
   by_cases hm:Bo r j∈R
   ·have hp:Bo r j∈pre:=by
     have pw:=Zc b c;rw [show AF b c=pre++r::post from ep,List.pairwise_append,jf6] at pw;rw [ep,jh5,jb8] at hm;rcases hm with hm | hm | hm
     ·exact hm
     ·have:=To hl
      rw [hm,Ot] at this;cases this
     ·have:=Zp (To hl)
      rw [pw.2.1.1 _ hm] at this;cases this
    rw [decide_eq_true hm] at w2;have w3:CI 2 (Aa 4) pf2 (N 0 0 (some (Am (Bo r j),0)))=.nx (M (Bl b c f j (pre++[r])) 0 (some (Am r,0)) (some (Am (Bo r j),0))):=by
     have c1:=Ti (f:=Aa 2) (g:=Aa 4) (ρ:=N 0 0 (some (Am (Bo r j),0))) (R:=R) (h:=Bl b c f j pre) (r:=r) (d:=0) (e:=0) rfl rfl hr;have c2:=Ti (f:=Aa 2) (g:=Aa 5) (ρ:=N 0 0 (some (Am (Bo r j),0))) (R:=R) (h:=Bl b c f j pre) (r:=Bo r j) (d:=0) (e:=0) rfl rfl hm;refine yY (R:=R) (h:=Bl b c f j pre) (r:=r) (d:=1) (e:=0) (AJ (Cu c1 (BE c2)) (YQ (fl _) (fl _))) rfl (by decide) rfl hr hR ?_;show M (λ q=>if q=r then Az (Bl b c f j pre r) (Bl b c f j pre (Bo r j)) else Bl b c f j pre q) _ _ _=_;congr 1;funext q;by_cases e:q=r
     ·subst e;rw [if_pos rfl];unfold Bl;rw [if_neg hrp,if_pos hp,if_pos (by simp),ZR hr hjb,if_pos hm]
     ·rw [if_neg e];unfold Bl
      have:q∈pre++[r]↔q∈pre:=by simp [e]
      simp only [this]
    exact ⟨N d3 0 s5,_,rfl,(A3 w1).trans ((CH (AK w2)).trans w3),_,_,_,rfl⟩
   ·rw [decide_eq_false hm] at w2;refine ⟨N d3 0 s5,_,rfl,(A3 w1).trans ((CW (AK w2)).trans rfl),0,some (Am r,0),some (Am (Bo r j),0),?_⟩;show M (Bl b c f j pre) _ _ _=_;congr 1;funext q;unfold Bl;by_cases e:q=r
    ·subst e;rw [if_neg hrp,if_pos (by simp),ZR hr hjb,if_neg hm]
    ·have:q∈pre++[r]↔q∈pre:=by simp [e]
     simp only [this])
  refine ⟨_,X9 (R:=R) (h:=f) (d:=0) (ρ2:=M (Bd b c f j) om s4 s5) rfl rfl e2,some (.int (j:Int),d3'),s4',s5',?_⟩;show L (Bl b c f j ([]++R)) _ _ _=_
  have:Ao R (Bl b c f j ([]++R))=Ao R (Bd b c f (j + 1)):=VM λ r hr=>by
   unfold Bl;rw [Ex,if_pos hr]
  show [_,_,some (Ao R (Bl b c f j ([]++R)),1),_,_,_]=[_,_,some (Ao R (Bd b c f (j + 1)),1),_,_,_];rw [this])
 rw [show ((b:Int) - 0).toNat=b by (clear hR hb;omega),show Bd b c f b=Dx b c f from funext λ r=>bu] at v2;exact Bg rfl ((A3 v1).trans ((A3 v2).trans rfl))
def FG (b:Nat) (lo r hi:List Int):Bool:=(An b).all λ j=>decide (lo.getD j 0<=r.getD j 0) && decide (r.getD j 0<=hi.getD j 0)
theorem wK {b:Nat}{lo r hi:List Int} (h1:lo.length=b) (h2:r.length=b) (h3:hi.length=b) (hb:b<=1000):f_lies_between [Am r,il lo,il hi]=.ok (.bl (FG b lo r hi),om,.non):=by
 have z:=sz;let R:Af:=[some (Am r,0),some (il lo,0),some (il hi,0)]
 have e0:Aq FI (Ad (Aa 0) (Ab)) R=.ok (.int (b:Int),om,R):=by
  refine CO (xs:=[(Am r,0)]) rfl ?_;show some (PV.int ((r.map PV.int).length:Nat),om)=_;rw [Ax,h2]
 have e1:=Hm (n:=3) (en:=Bn) (fa:=Ad pb3 Ab) (elt:=Hv (λ i j=>decide (i<=j)) (λ i j=>decide (i<=j)) (Ac AQ (Aa 1) (Aa 3)) (Ac AQ (Aa 0) (Aa 3)) (Ac AQ (Aa 2) (Aa 3))) (q:=λ j=>.bl (decide (lo.getD j 0<=r.getD j 0) && decide (r.getD j 0<=hi.getD j 0))) (ρ:=R) (ρ1:=R) (as:=[(.int (b:Int),om)]) (lo:=0) (hi:=(b:Int)) (BE e0) (Em (by (clear z hb h3 h2 h1;omega)) (by (clear z h3 h2 h1;omega))) rfl (λ k hk=>by
  have hkb:k < b:=by (clear z hb h3 h2 h1;omega)
  rw [EI];exact QJ (IA (xs:=lo) (k:=(k:Int)) (d:=0) (e:=om) rfl rfl (E4 (by (clear hkb hk z hb h3 h2 h1;omega)) (by rw [Di];exact EU (by (clear hkb z hb h3 h2;omega))))) (Oo (xs:=r) (k:=(k:Int)) (d:=0) (e:=om) rfl rfl (E4 (by (clear hkb hk z hb h3 h2 h1;omega)) (by rw [Di];exact EU (by (clear hkb z hb h3 h1;omega))))) (IA (xs:=hi) (k:=(k:Int)) (d:=0) (e:=om) rfl rfl (E4 (by (clear hkb hk z hb h3 h2 h1;omega)) (by rw [Di];exact EU (by (clear hkb z hb h2 h1;omega)))))) (by (clear h3 h2 h1;omega))
 rw [show ((b:Int) - 0).toNat=b by (clear z hb h3 h2 h1;omega)] at e1;exact Bg rfl (Ci (FP (xs:=An b) (g:=λ j=>decide (lo.getD j 0<=r.getD j 0) && decide (r.getD j 0<=hi.getD j 0)) e1))
def CZ (ct:List Nat) (r:List Int):Int:=(ct.map λ j=>r.getD j 0).sum
def GV (b:Nat) (lo hi:List Int) (ct:List Nat) (g:List Int->List Int) (r:List Int):List Int:=if FG b lo r hi=true then A6 (CZ ct r).toNat 0++g r else []
theorem Tb {b:Nat}{c:Nat}{r:List Int} (h:RowB b c r):∀ {ct:List Nat},(∀ j∈ct,j < b)->0<=CZ ct r/\CZ ct r<=ct.length * c
 | [],_=>by simp [CZ]
 | j::ct,hc=>by
  have h1:=Tb h (ct:=ct) λ k hk=>hc k (AE _ hk);have h2:=h.lo j (hc j AD);have h3:=h.hi j (hc j AD);have e:CZ (j::ct) r=r.getD j 0 + CZ ct r:=rfl;rw [e,AY,PZ,PM];omega
theorem l6 {b:Nat}{c:Nat}{lo hi:List Int}{ct:List Nat}{g:List Int->List Int} (h1:lo.length=b) (h3:hi.length=b) (hb:b<=1000) (hct:∀ j∈ct,j < b) (hcl:ct.length * c<=1000/\ct.length<=1000/\c<=1000) (hn:AF b c≠[]) (hR:(AF b c).length < 1000000) (hg:∀ r∈AF b c,(g r).length<=1000):
  f_table_of_row [Ao (AF b c) g,il lo,il hi,.lst (ct.map λ (j:Nat)=>.int (j:Int))]=.ok (Ao (AF b c) (GV b lo hi ct g),1,.non):=by
 have z:=sz;let R:=AF b c;let L (s4 s5:QQ.Slot):Af:=[some (Ao R g,0),some (il lo,0),some (il hi,0),some (.lst (ct.map λ (j:Nat)=>.int (j:Int)),0),s4,s5]
 let T:=GV b lo hi ct g;obtain ⟨ρ',v2,s5,s4,hs,rfl⟩:=Ky (asg:=asgN 5) (enc:=Am) (body:=(AV (bT (Ak f_lies_between (Ad (Aa 5) pa4))) pa6 pg7)) (λ pre ρ=>∃ s5 s4,((pre=[]/\s4=some (.dct [],om))\/(pre≠[]/\s4=some (Ao pre T,1)))/\ρ=L s4 s5) R [] (L (some (.dct [],om)) none) ⟨none,some (.dct [],om),.inl ⟨rfl,rfl⟩,rfl⟩ (by
  rintro pre r post _ ep ⟨s5,s4,hs,rfl⟩;rw [Ex] at ep;have hr:r∈R:=by rw [ep];exact CL _ AD
  have h2:=zxb.mp hr;have hrp:r∉pre:=λ z=>by
   have:=LC b c
   rw [show AF b c=pre++r::post from ep,Lp] at this;exact this.2.2 r z r AD rfl
  have hpl:pre.length < 1000000:=by
   have:R.length=pre.length + (post.length + 1):=by rw [ep];simp
   have:R.length < 1000000:=hR
   (clear z hR hcl hb h3 h1;omega)
  obtain ⟨x4,d4,rfl,hx,hd⟩:∃ x4 d4,s4=some (x4,d4)/\(x4=Ao pre T\/(x4=.dct []/\pre=[]))/\d4≠0:=by
   rcases hs with ⟨e1,e2⟩ | ⟨e1,e2⟩
   ·exact ⟨_,_,e2,.inr ⟨rfl,e1⟩,by decide⟩
   ·exact ⟨_,_,e2,.inl rfl,by decide⟩
  let N:Af:=L (some (x4,d4)) (some (Am r,0));have t:=AK (AJ (F:=f_lies_between) (fa:=Ad (Aa 5) pa4) (ρ:=N) (ρ1:=N) (xs:=[(Am r,0),(il lo,0),(il hi,0)]) rfl (wK h1 h2.len h3 hb));have fin:∃ ρ2,(AV (bT (Ak f_lies_between (Ad (Aa 5) pa4))) pa6 pg7) N=.nx ρ2/\ρ2=L (some (Ao (pre++[r]) T,1)) (some (Am r,0)):=by
   refine ⟨_,?_,rfl⟩;cases hbt:FG b lo r hi with
   | true=>
    rw [hbt] at t;have cs:=FJ (n:=6) (f:=Aa 3) (elt:=Ac AQ (Aa 5) (Aa 6)) (enc:=λ (j:Nat)=>PV.int (j:Int)) (q:=λ j=>.int (r.getD j 0)) (ρ:=N) (ρ1:=N) (d:=0) ct rfl rfl (λ j hj=>Oo (xs:=r) (k:=(j:Int)) (d:=0) (e:=om) rfl rfl (E4 (by (clear hd hpl z hR hcl hb h3 h1;omega)) (by rw [Di];exact EU (by rw [h2.len];exact hct j hj)))) (by (clear hd hpl hR hb h3 h1;omega));have cs':BF (Aa 3) 1 (asgN 6) AO (Ac AQ (Aa 5) (Aa 6)) N=.ok (il (ct.map λ j=>r.getD j 0),om,N):=by
     rw [cs];unfold il;rw [BC];rfl
    have sok:FT (ct.map λ j=>r.getD j 0)=true:=O4 (by rw [Ax];(clear hd hpl z hR hb h3 h1;omega)) (λ x hx=>by
     obtain ⟨j,hj,rfl⟩:=jc4.mp hx;have a1:=h2.lo j (hct j hj);have a2:=h2.hi j (hct j hj)
     (clear hd hpl z hR hb h3 h1;omega))
    have sm:=MO (BE cs') sok;have cb:=Tb h2 hct;have cc:((ct.length * c:Nat):Int)<=1000:=by (clear cb hd hpl z hR hb h3 h1;omega)
    rw [JN] at cc;have e1:=XQ (f:=Aq Bw (Ad (bC (.int 0)) (Ab))) (ρ:=N) (ρ1:=N) (d:=om) rfl sm (by show -1000000<=CZ ct r/\CZ ct r<=1000000;(clear cc hd hpl z hR hb h3 h1;omega));have e2:=WK e1 (Ti (f:=Aa 0) (g:=Aa 5) (R:=R) (h:=g) (r:=r) (d:=0) (e:=0) rfl rfl hr) (by
     have:=hg r hr
     rw [Ee];show (CZ ct r).toNat + _<=_
     (clear cc hd hpl z hR hb h3 h1;omega))
    refine (CH t).trans (Tz (R:=pre) (h:=T) (r:=r) (d:=d4) (e:=0) (x:=x4) e2 rfl hx hd rfl hrp ?_ hpl rfl);show GV b lo hi ct g r=_;unfold GV;rw [hbt,if_pos rfl];rfl
   | false=>
    rw [hbt] at t;refine (CW t).trans (Tz (R:=pre) (h:=T) (r:=r) (y:=[]) (d:=d4) (e:=0) (x:=x4) (f:=Aq Bw Ab) (ρ1:=N) rfl rfl hx hd rfl hrp ?_ hpl rfl);show GV b lo hi ct g r=_;unfold GV;rw [hbt,if_neg (by simp)]
  obtain ⟨ρ2,f1,rfl⟩:=fin;exact ⟨N,_,rfl,f1,_,_,.inr ⟨by simp,rfl⟩,rfl⟩)
 rcases hs with ⟨e,_⟩ | ⟨_,rfl⟩
 ·exact absurd e hn
 ·have v1:Aj false 4 Dd [] (L none none)=.nx (L (some (.dct [],om)) none):=rfl;exact Bg rfl ((A3 v1).trans ((A3 (X9 (R:=R) (h:=g) (d:=0) rfl rfl v2)).trans rfl))
theorem wR {n:Nat}{en:List (PV×Nat)->Option (Int×Int)}{fa:Fa}{elt:Fx}{q:Nat->PV}{ρ ρ1:Af}{as:List (PV×Nat)}{lo hi:Int} (hf:fa ρ=.ok (as,ρ1)) (hen:en as=some (lo,hi)) (hn:ρ1.length=n) (he:∀ k,k < (hi - lo).toNat->elt (ρ1++[some (.int (lo + (k:Int)),om)])=.ok (q k,0,ρ1++[some (.int (lo + (k:Int)),om)])) (hl:(hi - lo).toNat<=Au):
  ∃ e,CN en fa 1 (asgN n) AO elt ρ=.ok (.lst ((An (hi - lo).toNat).map q),e,ρ1):=by
 refine ⟨if CP ((An (hi - lo).toNat).map λ (k:Nat)=>(q k,0)) then om else 1,?_⟩;unfold CN Ej CT;rw [hf];dsimp only [Rz.bind];rw [hen];dsimp only;rw [NI,Io (enc:=λ (k:Nat)=>PV.int (lo + (k:Int))) (p:=λ _=>true) (q:=q) (e:=λ _=>0) (An (hi - lo).toNat) ρ1 [] hn (λ _ _=>rfl) (λ x hx _=>he x (jc2.mp hx)) (by simpa using hl),jg2.mpr (λ _ _=>rfl)];show DN ((An (hi - lo).toNat).map λ x=>(q x,0)) ρ1=_;unfold DN;rw [BC];rfl
theorem uc {b c:Nat} (hb:1<=b/\b<=1000) (hc:c<=1000) (hR:∀ n,n<=b->(AF n c).length<=500000):f_rows_of_heights [.int (b:Int),.int (c:Int)]=.ok (.lst ((AF b c).map Am),0,.non):=by
 have z:=sz;let L (x2:PV) (d2:Nat) (s3 s4 s5 s6:QQ.Slot) (d1:Nat):Af:=[some (.int (b:Int),om),some (.int (c:Int),d1),some (x2,d2),s3,s4,s5,s6]
 have v1:Aj false 2 (Aq Bw (Ad (Aq BL (Ab)) (Ab))) [] [some (.int (b:Int),om),some (.int (c:Int),om),none,none,none,none,none]=.nx (L (.lst [Am []]) om none none none none om):=rfl;obtain ⟨ρ',v2,d1,d2,s3,s4,s5,s6,hd2,rfl⟩:=Kv (i:=3) (en:=Bn) (fa:=Ad (Aa 0) Ab) (body:=(Ag pg3
 (Ag (Dr (Aa 2) [2] (asgN 5) pa1)
 (Aj false 2 (Aa 4) [4])))) (ρ:=L (.lst [Am []]) om none none none none om) (ρ1:=L (.lst [Am []]) om none none none none om) (as:=[(.int (b:Int),om)]) (lo:=0) (hi:=(b:Int))
  (λ j ρ=>∃ d1 d2 s3 s4 s5 s6,(0 < j->d2=0)/\ρ=L (.lst ((AF j c).map Am)) d2 s3 s4 s5 s6 d1) rfl (Em (by (clear z hc hb;omega)) (by (clear z hc;omega))) ⟨om,om,none,none,none,none,λ h=>absurd h (by (clear h z hc hb;omega)),rfl⟩ (by
  rintro j _ hj ⟨d1,d2,s3,s4,s5,s6,_,rfl⟩;have hjb:j < b:=by (clear z hc hb;omega)
  refine ⟨by show 3 < 7;decide,?_⟩;rw [EI];let R:=AF j c;let M (xs:List PV) (d4 d1 d2 d3:Nat) (s5 s6:QQ.Slot):Af:=[some (.int (b:Int),om),some (.int (c:Int),d1),some (.lst (R.map Am),d2),some (.int (j:Int),d3),some (.lst xs,d4),s5,s6]
  let nx (r:List Int):List (List Int):=(Dq 0 (Bc c c r + 1)).map λ x=>r++[x];have hnx:AF (j + 1) c=R.flatMap nx:=rfl;obtain ⟨ρ2,e2,d1',d3',d4',s5',s6',hd4,rfl⟩:=Ky (asg:=asgN 5) (enc:=Am) (body:=pa1) (λ pre ρ=>∃ d1 d3 d4 s5 s6,d4≠0/\ρ=M ((pre.flatMap nx).map Am) d4 d1 0 d3 s5 s6) R [] (M [] om d1 0 om s5 s6) ⟨d1,om,om,s5,s6,by decide,rfl⟩ (by
   rintro pre r post _ ep ⟨d1,d3,d4,s5,s6,hd4,rfl⟩;rw [Ex] at ep;have hr:r∈R:=by rw [ep];exact CL _ AD
   have h2:=zxb.mp hr;let N (d1 d5:Nat) (s6:QQ.Slot):Af:=M ((pre.flatMap nx).map Am) d4 d1 0 d3 (some (Am r,d5)) s6;have ht:∃ m:Nat,Bc c c r=(m:Int)/\m<=c/\C4 (bT pc4) pf5 (Aa 1) (N d1 0 s6)=.ok (.int (m:Int),om,N d1 0 s6):=by
    have tt:bT pc4 (N d1 0 s6)=.ok (decide (0 < (j:Int)),N d1 0 s6):=AK (Js (p:=λ i j=>decide (j < i)) (i:=(j:Int)) (j:=0) (d:=om) (e:=om) rfl rfl);cases j with
    | zero=>
     refine ⟨c,?_,A5 _,?_⟩
     ·unfold Bc;rw [jg8.mp h2.len];simp only [TY];(clear hjb hj hd4 z hc hb;omega)
     ·unfold C4;rw [tt];rfl
    | succ i=>
     have g1:=Q6 h2.len;have g2:=h2.lo i (by (clear hjb hj hd4 z hc hb;omega));have g3:=h2.hi i (by (clear g2 hjb hj hd4 z hc hb;omega));obtain ⟨m,hm⟩:∃ m:Nat,r.getD i 0=(m:Int):=⟨(r.getD i 0).toNat,by (clear g3 hjb hj hd4 z hc hb;omega)⟩
     refine ⟨m,?_,by (clear g2 hjb hj hd4 z hc hb;omega),?_⟩
     ·unfold Bc;rw [g1];simp only;(clear g2 hjb hj hd4 z hc hb;omega)
     ·unfold C4;rw [tt];dsimp only [Rz.bind];rw [if_pos (by rw [decide_eq_true_iff];(clear hm g3 g2 hjb hj hd4 z hc hb;omega))];refine Oo (xs:=r) (k:=-1) (d:=0) (e:=om) rfl rfl ?_;unfold BM CG;rw [if_neg (by decide),if_pos (by rw [h2.len];(clear hm g3 g2 hjb hj hd4 z hc hb;omega)),h2.len,<- hm];rw [show (-1 + ((i + 1:Nat):Int)).toNat=i by (clear hm g3 g2 hjb hj hd4 z hc hb;omega)];exact EU (by rw [h2.len];(clear hm g3 g2 hjb hj hd4 z hc hb;omega))
   obtain ⟨m,tm,hmc,ev⟩:=ht;have w1:Aj false 6 (C4 (bT pc4) pf5 (Aa 1)) [5,1] (N d1 0 s6)=.nx (N d1 0 (some (.int (m:Int),om))):=setF ev (show 6 < 7 by decide) rfl;have ct:∃ e,CN Bn (Ad pg6 (Ab)) 1 (asgN 7) AO (Ac B0 (Aa 5) ph2) (N d1 0 (some (.int (m:Int),om)))=.ok (.lst ((nx r).map Am),e,N d1 0 (some (.int (m:Int),om))):=by
    let W:Af:=N d1 0 (some (.int (m:Int),om));have e1:(nx r).map Am=(An (m + 1)).map λ (k:Nat)=>Am (r++[(0:Int) + (k:Int)]):=by
     show ((Dq 0 (Bc c c r + 1)).map λ x=>r++[x]).map Am=_;unfold Dq;rw [tm,BC,BC,show ((m:Int) + 1 - 0).toNat=m + 1 by (clear hmc tm hd4 hjb hj z hc hb;omega)];rfl
    have hc:=wR (n:=7) (en:=Bn) (fa:=Ad pg6 (Ab)) (elt:=Ac B0 (Aa 5) ph2) (q:=λ k=>Am (r++[(0:Int) + (k:Int)])) (ρ:=W) (ρ1:=W) (as:=[(.int ((m:Int) + 1),om)]) (lo:=0) (hi:=(m:Int) + 1) rfl (Em (by (clear hmc tm hd4 hjb hj z hc hb;omega)) (by (clear tm hd4 hjb hj z hb;omega))) rfl (λ k hk=>by
     exact Tu (f:=Aa 5) (h:=Aq BL (Ad (Aa 7) (Ab))) (xs:=r) (ys:=[(0:Int) + (k:Int)]) (d:=0) (e:=om) rfl rfl (by rw [h2.len,GC];(clear hk hmc tm hd4 hjb z hc;omega))) (by (clear tm hd4 hjb hj hb;omega))
    rw [show ((m:Int) + 1 - 0).toNat=m + 1 by (clear hmc tm hd4 hjb hj z hb;omega),<- e1] at hc;exact hc
   obtain ⟨e,ct⟩:=ct;have hjl:(AF (j + 1) c).length<=500000:=hR (j + 1) (by (clear hmc tm hd4 hjb z hc hb;omega));have hln:((pre.flatMap nx).map Am).length + ((nx r).map Am).length<=Au:=by
    have:(AF (j + 1) c).length=(pre.flatMap nx).length + ((nx r).length + (post.flatMap nx).length):=by
     rw [hnx,ep,Lr,IX,Bm,Bm]
    rw [Ax,Ax]
    (clear hmc tm hd4 hjb hj hc hb;omega)
   have w2:C1 4 pd8 [5] (N d1 0 (some (.int (m:Int),om)))=.nx (M (((pre++[r]).flatMap nx).map Am) 1 d1 0 d3 (some (Am r,0)) (some (.int (m:Int),om))):=by
    obtain ⟨k,rfl⟩:∃ k,d4=k + 1:=⟨d4 - 1,by (clear hln hjl hmc tm hjb hj z hc hb;omega)⟩
    have hcool:Bf e [5] (N d1 0 (some (.int (m:Int),om)))=N d1 0 (some (.int (m:Int),om)):=by
     unfold Bf;split <;> rfl
    refine S6 (xs:=(pre.flatMap nx).map Am) (xs0:=(pre.flatMap nx).map Am) (d0:=k) (d:=k + 1) rfl ct (by rw [hcool];rfl) (by (clear hd4 hln hjl hmc tm hjb hj z hc hb;omega)) hln ?_;rw [hcool,Lr,B5];simp only [IX,List.flatMap_nil,G9];rfl
   exact ⟨N d1 0 s6,_,rfl,(A3 w1).trans w2,d1,d3,1,_,_,by decide,rfl⟩)
  have u1:Aj false 4 (Aq Bw (Ab)) [] (L (.lst (R.map Am)) d2 (some (.int (j:Int),om)) s4 s5 s6 d1)=.nx (M [] om d1 d2 om s5 s6):=rfl;have u2:Dr (Aa 2) [2] (asgN 5) pa1 (M [] om d1 d2 om s5 s6)=_:=Tg (els:=R.map Am) (d:=0) rfl rfl e2
  refine ⟨_,(A3 u1).trans ((A3 u2).trans (setF (x:=.lst (((([]:List (List Int))++R).flatMap nx).map Am)) (d:=0) rfl (show 2 < 7 by decide) rfl)),d1',0,some (.int (j:Int),d3'),some (.lst (((([]:List (List Int))++R).flatMap nx).map Am),0),s5',s6',λ _=>rfl,?_⟩
  rfl)
 rw [show ((b:Int) - 0).toNat=b by (clear z hc hb;omega)] at v2;have hd:d2=0:=hd2 (by (clear z hc;omega));subst hd;exact Bg rfl ((A3 v1).trans ((A3 v2).trans rfl))
structure BoxT (a b c:Nat):Prop where
 ha:1<=a/\a<=100
 hb:1<=b/\b<=100
 hc:c<=100
 dk:DE ((AF b c).map A8)=true
 rl:∀ n,n<=b->(AF n c).length<=500000
theorem QU {b c:Nat}:AF b c≠[]:=λ e=>by
 have:A6 b (0:Int)∈AF b c:=zxb.mpr ⟨Ee,λ j hj=>by simp [A7,Gb,hj],λ j hj=>by simp [A7,Gb,hj],λ j hj=>by simp [A7,Gb,hj,show j < b by omega]⟩
 rw [e] at this;cases this
def DM (r:List Int):List Int:=if r.sum=0 then [1] else []
def Cz (a b:Nat) (c:Int) (lo hi:Nat->List Int) (ct:Nat->List Nat):Nat->List Int->List Int
 | 0=>DM
 | k + 1=>GV b (lo (a - 1 - k)) (hi (a - 1 - k)) (ct (a - 1 - k)) (Dx b c (Cz a b c lo hi ct k))
theorem O8 {a b c:Nat}{lo hi:Nat->List Int}{ct:Nat->List Nat}{m:Nat} (hct:∀ i,(ct i).length<=m) (hcb:∀ i,∀ j∈ct i,j < b):∀ (k:Nat),∀ r∈AF b c,(Cz a b c lo hi ct k r).length<=1 + k * (m * c)
 | 0,r,_=>by
  unfold Cz DM;split <;> simp
 | k + 1,r,hr=>by
  have ih:=O8 (a:=a) (b:=b) (c:=c) (lo:=lo) (hi:=hi) hct hcb k;unfold Cz GV;split
  ·rw [Bm,Ee];have h1:(Dx b c (Cz a b c lo hi ct k) r).length<=1 + k * (m * c):=K1 λ q hq=>ih q (jh4.mp hq).1;have h2:=(Tb (zxb.mp hr) (hcb (a - 1 - k))).2;have h3:(ct (a - 1 - k)).length * c<=m * c:=JT _ (hct _);have h4:(CZ (ct (a - 1 - k)) r).toNat<=m * c:=by
    have:(((ct (a - 1 - k)).length * c:Nat):Int)=((ct (a - 1 - k)).length:Int) * (c:Int):=JN _ _
    (clear this h1;omega)
   have h5:(k + 1) * (m * c)=k * (m * c) + m * c:=by rw [qd,qc]
   omega
  ·simp
def CY (ps:List (Nat×Nat)) (i:Nat):List Nat:=(ps.filter λ z=>decide (z.1=i)).map (·.2)
theorem Tc {ps:List (Nat×Nat)}{b i:Nat} (h:∀ z∈ps,z.2 < b):∀ j∈CY ps i,j < b:=λ j hj=>by
 obtain ⟨z,hz,rfl⟩:=jc4.mp hj;exact h z (jh4.mp hz).1
theorem gk {fa:Fa}{asg:PV->Af->Option Af}{body:Fs}{ρ ρ1:Af}{r:Rs}{as:List (PV×Nat)}{i:Int}{n:Nat} (hf:fa ρ=.ok (as,ρ1)) (hen:M9 as=some (i,n)) (h:Bu asg body (GW i n) ρ1=r):P7 fa asg body ρ=r:=by
 unfold P7 E3 HW;rw [hf];dsimp only [Rz.bind];rw [hen];exact h
theorem gX {i j:Int}{d1 d2 d3:Nat} (h1:-(2 ^ 40)<=i) (h2:i < 2 ^ 40) (h3:-(2 ^ 40)<=j) (h4:j < 2 ^ 40):M9 [(.int i,d1),(.int j,d2),(.int (-1),d3)]=some (i,(i - j).toNat):=by
 show (if (-1:Int)=-1/\-(2 ^ 40)<=i/\i < 2 ^ 40/\-(2 ^ 40)<=j/\j < 2 ^ 40 then some (i,(i - j).toNat) else none)=_;rw [if_pos ⟨rfl,h1,h2,h3,h4⟩]
theorem fP {a b c:Nat} (B:BoxT a b c) {low high:List (List Int)} (hl:Tab a b low) (hh:Tab a b high) {ps:List (Nat×Nat)} (hp:∀ z∈ps,z.2 < b) {m:Nat} (hm:∀ i,(CY ps i).length<=m) (hmc:1 + a * (m * c)<=1000) (hpl:ps.length<=1000):
  ∃ d,f_tables_between [bx a b c,tb low,tb high,.lst (ps.map pr)]=.ok (.lst ((An a).map λ k=>Ao (AF b c) (Cz a b c (λ i=>low.getD i []) (λ i=>high.getD i []) (CY ps) (k + 1))).reverse,d,.non):=by
 have z:=sz;obtain ⟨ha,hb,hc,dk,rl⟩:=B;let R:=AF b c;let T:=Cz a b c (λ i=>low.getD i []) (λ i=>high.getD i []) (CY ps);have hRl:R.length < 1000000:=by have:=rl b (A5 _);show (AF b c).length < _;(clear hc hb ha z hpl hmc;omega)
 let L (d5 d6:Nat) (s7 s8 s9 s10 s11:QQ.Slot):Af:=[some (bx a b c,0),some (tb low,0),some (tb high,0),some (.lst (ps.map pr),0),some (.int (a:Int),om),some (.int (b:Int),d5),some (.int (c:Int),d6),s7,s8,s9,s10,s11]
 have v1:BB (asgT [4,5,6]) (Aa 0) [0] [some (bx a b c,0),some (tb low,0),some (tb high,0),some (.lst (ps.map pr),0),none,none,none,none,none,none,none,none]=.nx (L om om none none none none none):=rfl;have v2:Aj false 7 Dd [] (L om om none none none none none)=.nx (L om om (some (.dct [],om)) none none none none):=rfl;obtain ⟨ρ3,e3,s8,s7,hs,rfl⟩:=Ky (asg:=asgN 8) (enc:=Am) (body:=CI 7 (Aa 8) pb2) (λ pre ρ=>∃ s8 s7,((pre=[]/\s7=some (.dct [],om))\/(pre≠[]/\s7=some (Ao pre DM,1)))/\ρ=L 0 0 s7 s8 none none none) R [] (L 0 0 (some (.dct [],om)) none none none none) ⟨none,_,.inl ⟨rfl,rfl⟩,rfl⟩ (by
  rintro pre r post _ ep ⟨s8,s7,hs,rfl⟩;rw [Ex] at ep;have hrp:r∉pre:=λ z=>by
   have:=LC b c
   rw [show AF b c=pre++r::post from ep,Lp] at this;exact this.2.2 r z r AD rfl
  have hpl:pre.length < 1000000:=by
   have:R.length=pre.length + (post.length + 1):=by rw [ep];simp
   (clear hc hb ha z hpl hmc;omega)
  obtain ⟨x4,d4,rfl,hx,hd⟩:∃ x4 d4,s7=some (x4,d4)/\(x4=Ao pre DM\/(x4=.dct []/\pre=[]))/\d4≠0:=by
   rcases hs with ⟨e1,e2⟩ | ⟨e1,e2⟩
   ·exact ⟨_,_,e2,.inr ⟨rfl,e1⟩,by decide⟩
   ·exact ⟨_,_,e2,.inl rfl,by decide⟩
  let N:Af:=L 0 0 (some (x4,d4)) (some (Am r,0)) none none none;have e1:Aq FO (Ad (Aa 8) (Ab)) N=.ok (.int r.sum,om,N):=by
   refine CO (xs:=[(Am r,0)]) rfl ?_;show (match ES (r.map PV.int) with | some ns=>some (PV.int ns.sum,om) | none=>none)=_;rw [Rl]
  have e2:bT pd6 N=.ok (false^^decide (r.sum=0),N):=AK (Gp (neg:=false) (g:=bC (.int 0)) (j:=0) (e:=om) e1 rfl);have e3:C4 (bT pd6) (Aq Bw (Ad (bC (.int 1)) (Ab))) (Aq Bw (Ab)) N=.ok (il (DM r),om,N):=by
   unfold C4;rw [e2];dsimp only [Rz.bind];rw [Ll];unfold DM;by_cases h0:r.sum=0
   ·rw [decide_eq_true h0,if_pos rfl,if_pos h0];rfl
   ·rw [decide_eq_false h0,if_neg (by simp),if_neg h0];rfl
  exact ⟨N,_,rfl,Tz (R:=pre) (h:=DM) (r:=r) (d:=d4) (e:=0) (x:=x4) e3 rfl hx hd rfl hrp rfl hpl rfl,some (Am r,0),_,.inr ⟨by simp,rfl⟩,rfl⟩)
 have hs:s7=some (Ao R DM,1):=by
  rcases hs with ⟨e,_⟩ | ⟨_,e⟩
  ·exact absurd e QU
  ·exact e
 subst hs;have v3:Dr pg9 [5,6] (asgN 8) (CI 7 (Aa 8) pb2) (L om om (some (.dct [],om)) none none none none)=.nx (L 0 0 (some (Ao R DM,1)) s8 none none none):=Tg (els:=R.map Am) (d:=0) (AJ (xs:=[(.int (b:Int),om),(.int (c:Int),om)]) rfl (uc (by (clear hRl hc ha z hpl hmc;omega)) (by (clear hRl hb ha z hpl hmc;omega)) rl)) rfl e3;have v4:Aj false 9 (Aq Bw (Ab)) [] (L 0 0 (some (Ao R DM,1)) s8 none none none)=.nx (L 0 0 (some (Ao R DM,1)) s8 (some (.lst [],om)) none none):=rfl;obtain ⟨ρ5,e5,d7,d9,s10,s11,hd9,rfl⟩:=LS (asg:=asgN 10) (body:=pa2) (GW ((a:Int) - 1) a) (λ k ρ=>∃ d7 d9 s10 s11,d9≠0/\ρ=L 0 0 (some (Ao R (T k),d7)) s8 (some (.lst ((An k).map λ t=>Ao R (T (t + 1))),d9)) s10 s11) (L 0 0 (some (Ao R DM,1)) s8 (some (.lst [],om)) none none) ⟨1,om,none,none,by decide,rfl⟩ (by
  rintro k x _ hx ⟨d7,d9,s10,s11,hd9,rfl⟩;unfold GW at hx;rw [BO] at hx;have hk:k < a:=by
   cases e:(An a)[k]? with
   | none=>rw [e] at hx;cases hx
   | some t=>have:=(jb0.mp e).1;simpa using this
  rw [Qh hk] at hx;obtain rfl:PV.int ((a:Int) - 1 - (k:Int))=x:=Option.some.inj hx;let i:=a - 1 - k;have hi:i < a:=by show a - 1 - k < a;(clear hk hd9 hRl hc hb z hpl hmc;omega)
  have ei:(a:Int) - 1 - (k:Int)=(i:Int):=by show _=((a - 1 - k:Nat):Int);(clear hi hd9 hRl hc hb ha z hpl hmc;omega)
  rw [ei];let N (d7 d10:Nat) (s11:QQ.Slot):Af:=L 0 0 (some (Ao R (T k),d7)) s8 (some (.lst ((An k).map λ t=>Ao R (T (t + 1))),d9)) (some (.int (i:Int),d10)) s11;have w1:Aj false 11 (BF (Aa 3) 1 (asgN 12) (bT pc1) pg4) [3,3] (N d7 om s11)=.nx (N d7 om (some (.lst ((CY ps i).map λ (j:Nat)=>.int (j:Int)),om))):=by
   have cf:=YC (n:=12) (f:=Aa 3) (enc:=pr) (q:=λ z=>.int (z.2:Int)) (p:=λ z=>decide (z.1=i)) (test:=bT pc1) (elt:=Ac AQ (Aa 12) (bC (.int 1))) (ρ:=N d7 om s11) (ρ1:=N d7 om s11) (d:=0) ps rfl rfl (λ z _=>by
    have e1:Ac AQ (Aa 12) (bC (.int 0)) (N d7 om s11++[some (pr z,dv (pr z))])=.ok (.int (z.1:Int),om,N d7 om s11++[some (pr z,dv (pr z))]):=rfl;have e2:=AK (Gp (neg:=false) (g:=Aa 10) (j:=(i:Int)) (e:=om) e1 rfl);have e4:decide ((z.1:Int)=(i:Int))=decide (z.1=i):=by
     rw [Ed,decide_eq_true_iff,decide_eq_true_iff]
     (clear ei hi hk hd9 hRl hc hb ha hpl hmc;omega)
    rw [e2,Ll,e4]) (λ z _ _=>rfl) (by (clear ei hi hk hd9 hRl hc hb ha hmc;omega))
   have cf':BF (Aa 3) 1 (asgN 12) (bT pc1) pg4 (N d7 om s11)=.ok (.lst ((CY ps i).map λ (j:Nat)=>.int (j:Int)),om,N d7 om s11):=by
    rw [cf];unfold CY;rw [BC];rfl
   exact setF cf' (show 11 < 12 by decide) rfl
  let N2:Af:=N d7 om (some (.lst ((CY ps i).map λ (j:Nat)=>.int (j:Int)),om));have hkm:1 + k * (m * c)<=1000:=by
   have:k * (m * c)<=a * (m * c):=JT _ (by (clear ei hi hd9 hRl hc hb ha z hpl hmc;omega))
   (clear ei hi hk hd9 hRl hc hb ha z hpl;omega)
  have tl:∀ r∈R,(T k r).length<=1000:=λ r hr=>BD (O8 hm (λ i=>Tc hp) k r hr) hkm;have c1:Ak f_sums_of_lower_rows (Ad (Aa 7) (Ad (Aa 5) (Ab))) N2=.ok (Ao R (Dx b c (T k)),1,N2):=AJ (xs:=[(Ao R (T k),0),(.int (b:Int),om)]) rfl (uo (by (clear hkm ei hi hk hd9 hRl hc ha z hpl hmc;omega)) dk QU hRl tl);have gl:low[i]?=some (low.getD i []):=Ht (by rw [hl.1];exact hi);have gh:high[i]?=some (high.getD i []):=Ht (by rw [hh.1];exact hi);have c2:Ac AQ (Aa 1) (Aa 10) N2=.ok (il (low.getD i []),0,N2):=SA (t:=low) (k:=(i:Int)) (d:=0) (e:=om) rfl rfl (E4 (by (clear hkm ei hi hk hd9 hRl hc hb ha z hpl hmc;omega)) (by rw [Di];exact gl));have c3:Ac AQ (Aa 2) (Aa 10) N2=.ok (il (high.getD i []),0,N2):=SA (t:=high) (k:=(i:Int)) (d:=0) (e:=om) rfl rfl (E4 (by (clear hkm ei hi hk hd9 hRl hc hb ha z hpl hmc;omega)) (by rw [Di];exact gh));have hcm:(CY ps i).length * c<=1000:=by
   have e1:(CY ps i).length * c<=m * c:=JT _ (hm i);have e2:1 * (m * c)<=a * (m * c):=JT _ (by (clear e1 hkm ei hi hk hd9 hRl hc hb z hpl hmc;omega))
   (clear hkm ei hi hk hd9 hRl hc hb ha z hpl;omega)
  have hcl:(CY ps i).length<=1000:=by
   unfold CY;rw [Ax];exact BD (Uh _ _) hpl
  have rt:=l6 (b:=b) (c:=c) (lo:=low.getD i []) (hi:=high.getD i []) (ct:=CY ps i) (g:=Dx b c (T k)) (Tab.row hl hi) (Tab.row hh hi) (by (clear hcl hcm hkm ei hi hk hd9 hRl hc ha z hpl hmc;omega)) (Tc hp) ⟨hcm,hcl,by (clear hcl hcm hkm ei hi hk hd9 hRl hb ha z hpl hmc;omega)⟩ QU hRl (λ r hr=>K1 λ q hq=>tl q (jh4.mp hq).1);have w2:Aj false 7 pc0 [7,5,1,10,2,10,11] N2=.nx (L 0 0 (some (Ao R (T (k + 1)),1)) s8 (some (.lst ((An k).map λ t=>Ao R (T (t + 1))),d9)) (some (.int (i:Int),0)) (some (.lst ((CY ps i).map λ (j:Nat)=>.int (j:Int)),0))):=
   setF (x:=Ao R (T (k + 1))) (d:=1) (AJ (xs:=[(Ao R (Dx b c (T k)),1),(il (low.getD i []),0),(il (high.getD i []),0),(.lst ((CY ps i).map λ (j:Nat)=>.int (j:Int)),0)]) (Cu c1 (Cu c2 (Cu c3 (BE rfl)))) rt) (show 7 < 12 by decide) rfl
  have w3:AW 9 (Aa 7) [7] (L 0 0 (some (Ao R (T (k + 1)),1)) s8 (some (.lst ((An k).map λ t=>Ao R (T (t + 1))),d9)) (some (.int (i:Int),0)) (some (.lst ((CY ps i).map λ (j:Nat)=>.int (j:Int)),0)))=.nx (L 0 0 (some (Ao R (T (k + 1)),0)) s8 (some (.lst ((An (k + 1)).map λ t=>Ao R (T (t + 1))),1)) (some (.int (i:Int),0)) (some (.lst ((CY ps i).map λ (j:Nat)=>.int (j:Int)),0))):=by
   obtain ⟨e,rfl⟩:∃ e,d9=e + 1:=⟨d9 - 1,by (clear hcl hcm hkm ei hi hk hRl hc hb ha z hpl hmc;omega)⟩
   refine GK (xs0:=(An k).map λ t=>Ao R (T (t + 1))) (xs:=(An k).map λ t=>Ao R (T (t + 1))) (d0:=e) (d:=e + 1) (y:=Ao R (T (k + 1))) (e:=0) rfl rfl rfl (by (clear hd9 hcl hcm hkm ei hi hk hRl hc hb ha z hpl hmc;omega)) (by rw [Ax,CF];(clear hd9 hcl hcm hkm ei hi hRl hc hb hpl hmc;omega)) ?_;rw [if_neg (λ h=>absurd h.2 (by decide)),CD,B5];rfl
  exact ⟨N d7 om s11,_,rfl,(A3 w1).trans ((A3 w2).trans w3),0,1,some (.int (i:Int),0),some (.lst ((CY ps i).map λ (j:Nat)=>.int (j:Int)),0),by decide,rfl⟩)
 have hdl:(GW ((a:Int) - 1) a).length=a:=by unfold GW;rw [Ax,CF]
 rw [hdl] at e5;have v5:P7 pe4 (asgN 10) pa2 (L 0 0 (some (Ao R DM,1)) s8 (some (.lst [],om)) none none)=.nx (L 0 0 (some (Ao R (T a),d7)) s8 (some (.lst ((An a).map λ t=>Ao R (T (t + 1))),d9)) s10 s11):=by
  have en:M9 [(.int ((a:Int) - 1),om),(.int (-1),om),(.int (-1),om)]=some ((a:Int) - 1,a):=by
   rw [gX (by (clear hdl hd9 hRl hc hb ha z hpl hmc;omega)) (by (clear hdl hd9 hRl hc hb z hpl hmc;omega)) (by (clear hdl hd9 hRl hc hb ha z hpl hmc;omega)) (by (clear hdl hd9 hRl hc hb ha z hpl hmc;omega)),show ((a:Int) - 1 - -1).toNat=a by (clear hdl hd9 hRl hc hb ha z hpl hmc;omega)]
  exact gk (as:=[(.int ((a:Int) - 1),om),(.int (-1),om),(.int (-1),om)]) rfl en e5
 exact ⟨_,Bg rfl ((A3 v1).trans ((A3 v2).trans ((A3 v3).trans ((A3 v4).trans ((A3 v5).trans (Ci (Su (x:=.lst ((An a).map λ t=>Ao R (T (t + 1)))) (d:=0) rfl rfl)))))))⟩
theorem Rk {f:List Int->List Int}:∀ (l:List (List Int)) (acc:List Int),l.foldl (λ s r=>Az s (f r)) acc=Az acc (Cn f l)
 | [],acc=>(LV acc).symm
 | r::l,acc=>by rw [TV,Rk l,Ks,LF]
def Jq (a b c:Nat) (low high:List (List Int)) (ps:List (Nat×Nat)):List Int:=Cn (Cz a b c (λ i=>low.getD i []) (λ i=>high.getD i []) (CY ps) a) (AF b c)
theorem bB {a b c:Nat} (B:BoxT a b c) {low high:List (List Int)} (hl:Tab a b low) (hh:Tab a b high) {ps:List (Nat×Nat)} (hp:∀ z∈ps,z.2 < b) {m:Nat} (hm:∀ i,(CY ps i).length<=m) (hmc:1 + a * (m * c)<=1000) (hpl:ps.length<=1000):
  f_tally_between [bx a b c,tb low,tb high,.lst (ps.map pr)]=.ok (il (Jq a b c low high ps),om,.non):=by
 have z:=sz;obtain ⟨dt,ht⟩:=fP B hl hh hp hm hmc hpl;let R:=AF b c;let T:=Cz a b c (λ i=>low.getD i []) (λ i=>high.getD i []) (CY ps);let L (s4 s5:QQ.Slot):Af:=[some (bx a b c,0),some (tb low,0),some (tb high,0),some (.lst (ps.map pr),0),s4,s5]
 have v1:Aj false 4 (Aq Bw (Ab)) [] (L none none)=.nx (L (some (il [],om)) none):=rfl;have tl:∀ r∈R,(T a r).length<=1000:=λ r hr=>BD (O8 hm (λ i=>Tc hp) a r hr) hmc;obtain ⟨ρ',e2,s5,rfl⟩:=Ky (asg:=asgN 5) (enc:=λ r=>il (T a r)) (body:=Aj false 4 (Ak f_added pa9) [4,5]) (λ pre ρ=>∃ s5,ρ=L (some (il (pre.foldl (λ s r=>Az s (T a r)) []),om)) s5) R [] (L (some (il [],om)) none) ⟨none,rfl⟩ (by
  rintro pre r post _ ep ⟨s5,rfl⟩;rw [Ex] at ep;have hr:r∈R:=by rw [ep];exact CL _ AD
  have hpre:(pre.foldl (λ s r=>Az s (T a r)) []).length<=1000:=by
   rw [Rk];exact K1 λ q hq=>tl q (by rw [ep];exact Jb _ hq)
  refine ⟨L (some (il (pre.foldl (λ s r=>Az s (T a r)) []),om)) (some (il (T a r),0)),_,rfl,setF (x:=il (Az (pre.foldl (λ s r=>Az s (T a r)) []) (T a r))) (d:=om) (AJ (xs:=[(il (pre.foldl (λ s r=>Az s (T a r)) []),0),(il (T a r),0)]) rfl (YQ hpre (tl r hr))) (show 4 < 6 by decide) rfl,some (il (T a r),0),?_⟩;rw [qB]
  rfl)
 have hidx:Ac AQ (Ak f_tables_between (Ad (Aa 0) (Ad (Aa 1) pa5))) (bC (.int 0)) (L (some (il [],om)) none)=.ok (Ao R (T a),0,L (some (il [],om)) none):=by
  refine Cr (AJ (xs:=[(bx a b c,0),(tb low,0),(tb high,0),(.lst (ps.map pr),0)]) rfl ht) (y:=.int 0) (e:=om) rfl ?_;show (BM _ 0).map _=_;rw [E4 (x:=Ao R (T a)) (by decide) ?_]
  ·rfl
  ·obtain ⟨k,rfl⟩:∃ k,a=k + 1:=⟨a - 1,by have:=B.ha;(clear z hpl hmc;omega)⟩
   show (List.reverse _)[0]?=_;rw [CD,B5,qH];rfl
 have v2:=yK (asg:=asgN 5) (body:=Aj false 4 (Ak f_added pa9) [4,5]) (vs:=[0,1,2,3]) (ρ2:=L (some (il [],om)) none) hidx rfl e2;have he:([]++R).foldl (λ s r=>Az s (T a r)) []=Jq a b c low high ps:=by
  rw [Ex,Rk];rfl
 rw [he] at v2;exact Bg rfl ((A3 v1).trans ((A3 v2).trans rfl))
def AI {α:Type} (f:α->Int) (l:List α):Int:=(l.map f).sum
theorem Fo {α:Type}{f:α->Int}{x:α}{l:List α}:AI f (x::l)=f x + AI f l:=rfl
theorem Zf {α:Type}{f:α->Int}:∀ (l m:List α),AI f (l++m)=AI f l + AI f m
 | [],m=>by simp [AI]
 | x::l,m=>by rw [Hi,Fo,Fo,Zf l m];omega
theorem Ko {α:Type}{f g:α->Int}:∀ {l:List α},(∀ x∈l,f x=g x)->AI f l=AI g l
 | [],_=>rfl
 | x::l,h=>by rw [Fo,Fo,h x AD,Ko λ y hy=>h y (AE _ hy)]
theorem ZQ {α β:Type}{f:β->Int}{h:α->List β}:∀ (l:List α),AI f (l.flatMap h)=AI (λ x=>AI f (h x)) l
 | []=>rfl
 | x::l=>by rw [IX,Zf,ZQ l,Fo]
theorem bt {α β:Type}{f:β->Int}{h:α->β}{l:List α}:AI f (l.map h)=AI (λ x=>f (h x)) l:=by
 unfold AI;rw [BC];rfl
theorem Zg {α:Type}:∀ (l:List α),AI (λ _=>1) l=(l.length:Int)
 | []=>rfl
 | x::l=>by rw [Fo,Zg l,AY];omega
theorem Qs {α:Type}{f:α->Int}{p q:α->Bool}:∀ (l:List α),AI (λ x=>if q x=true then f x else 0) (l.filter p)=AI f (l.filter λ x=>p x && q x)
 | []=>rfl
 | x::l=>by
  have ih:=Qs (f:=f) (p:=p) (q:=q) l;rw [FZ,FZ];cases hp:p x with
  | false=>simpa using ih
  | true=>
   cases hq:q x with
   | false=>simp only [if_true,PU,Hj,if_false,Fo,hq,ih];omega
   | true=>simp only [if_true,JM,Fo,hq,ih]
theorem Vm {α:Type}{f:α->Int}:∀ {l:List α},(∀ x∈l,0<=f x)->0<=AI f l
 | [],_=>EH _
 | x::l,h=>by
  have h1:=h x AD;have h2:=Vm (f:=f) (l:=l) λ y hy=>h y (AE _ hy);rw [Fo];omega
theorem O5 {f:List Int->List Int}:∀ (l:List (List Int)),(Cn f l).sum=AI (λ r=>(f r).sum) l
 | []=>rfl
 | r::l=>by rw [Ks,YO,O5 l,Fo]
def E8 (a b:Nat) (c:Int) (lo hi:Nat->List Int) (k:Nat) (r:List Int):Int:=(Cz a b c lo hi (λ _=>[]) k r).sum
def HC (a b:Nat) (c:Int) (lo hi:Nat->List Int) (k:Nat) (ah:Nat->Int):Int:=AI (E8 a b c lo hi k) ((AF b c).filter λ q=>(An b).all λ i=>decide (q.getD i 0<=ah i))
theorem Q8:∀ (n:Nat) (l:List Int),(A6 n (0:Int)++l).sum=l.sum
 | 0,l=>rfl
 | n + 1,l=>by rw [Fh,Hi,DP,Q8 n l];omega
theorem Zx {a b:Nat}{c:Int}{lo hi:Nat->List Int}{k:Nat}{r:List Int}:E8 a b c lo hi (k + 1) r=if FG b (lo (a - 1 - k)) r (hi (a - 1 - k))=true then HC a b c lo hi k (λ i=>r.getD i 0) else 0:=by
 show (GV b _ _ _ _ r).sum=_;unfold GV;split
 ·rw [Q8];exact O5 _
 ·rfl
theorem Vh:∀ {r:List Int},(∀ j,j < r.length->0<=r.getD j 0)->r.sum=0->r=A6 r.length 0
 | [],_,_=>rfl
 | x::r,h,e=>by
  have h0:=h 0 (by simp);have hr:∀ j,j < r.length->0<=r.getD j 0:=λ j hj=>by simpa using h (j + 1) (by simpa using hj)
  have hs:∀ (r:List Int),(∀ j,j < r.length->0<=r.getD j 0)->0<=r.sum:=by
   intro r;induction r with
   | nil=>intro _;simp
   | cons y r ih=>
    intro h
    have:=h 0 (by simp)
    have:=ih λ j hj=>by simpa using h (j + 1) (by simpa using hj)
    simp at *;(clear h0 e;omega)
  have h1:=hs r hr;rw [DP] at e;simp at h0;have ex:x=0:=by omega
  have er:r.sum=0:=by omega
  rw [AY,Fh,<- Vh hr er,ex]
theorem di {a b:Nat}{c:Int}{lo hi:Nat->List Int}{ah:Nat->Int} (hc:0<=c) (h:∀ i,i < b->0<=ah i):HC a b c lo hi 0 ah=1:=by
 let z:=A6 b (0:Int);have zg:∀ j,z.getD j 0=0:=λ j=>by
  show (A6 b (0:Int)).getD j 0=0;rw [A7,Gb];split <;> rfl
 have zm:z∈AF b c:=zxb.mpr ⟨Ee,λ j _=>by rw [zg];omega,λ j _=>by rw [zg];exact hc,λ j _=>by rw [zg,zg];omega⟩;unfold HC;have e1:AI (E8 a b c lo hi 0) ((AF b c).filter λ q=>(An b).all λ i=>decide (q.getD i 0<=ah i))=AI (λ r=>if decide (r=z)=true then (1:Int) else 0) ((AF b c).filter λ q=>(An b).all λ i=>decide (q.getD i 0<=ah i)):=by
  refine Ko λ r hr=>?_;have hr:=zxb.mp (jh4.mp hr).1;show (DM r).sum=_;unfold DM;by_cases e:r=z
  ·have hz:r.sum=0:=by
    have:=Q8 b []
    rw [G9] at this;rw [e];exact this
   rw [if_pos hz,if_pos (decide_eq_true e)];rfl
  ·have hz:¬ r.sum=0:=λ h0=>e (by
    have:=Vh (λ j hj=>hr.lo j (by rw [<- hr.len];exact hj)) h0
    rw [this,hr.len])
   rw [if_neg hz,if_neg (by simpa using e)];rfl
 rw [e1,Qs];have nd:=LC b c;have key:∀ {l:List (List Int)},l.Nodup->z∈l->AI (λ _=>(1:Int)) (l.filter λ x=>((An b).all λ i=>decide (x.getD i 0<=ah i)) && decide (x=z))=1:=by
  intro l;induction l with
  | nil=>intro _ h;cases h
  | cons x l ih=>
   intro nd hm;rw [jg5] at nd;rw [FZ];by_cases e:x=z
   ·have hz:((An b).all λ i=>decide (x.getD i 0<=ah i))=true:=by
     rw [jb3];intro i hi;rw [decide_eq_true_iff,e,zg];exact h i (jc2.mp hi)
    rw [hz,decide_eq_true e,if_pos (show (true && true)=true from rfl),Fo]
    have:l.filter (λ y=>((An b).all λ i=>decide (y.getD i 0<=ah i)) && decide (y=z))=[]:=by
     rw [jj9];intro y hy e';rw [AU,decide_eq_true_iff] at e';exact nd.1 (by rw [e,<- e'.2];exact hy)
    rw [this];rfl
   ·rw [decide_eq_false e,PU,if_neg (by simp)];exact ih nd.2 ((jb8.mp hm).resolve_left λ e'=>e e'.symm)
 exact key nd zm
theorem fQ {hi ah c:Int} (h:min hi ah<=c) (row:List Int):Bc (min hi ah) c row=Bc hi ah row:=by
 unfold Bc;cases row.getLast? with
 | none=>simp only;omega
 | some m=>simp only;omega
theorem ZN {lo hi ah:Nat->Int}{c:Int}:∀ (n:Nat),(∀ i,i < n->min (hi i) (ah i)<=c)->B7 lo (λ i=>min (hi i) (ah i)) (λ _=>c) n=B7 lo hi ah n
 | 0,_=>rfl
 | n + 1,h=>by
  rw [B7,B7,ZN n λ i hi=>h i (by omega)];congr 1;funext row;rw [fQ (h n (by omega))]
theorem l7 {b:Nat}{c:Int}{lo hi:List Int}{ah:Nat->Int} (h0:∀ i,i < b->0<=lo.getD i 0) (hc:∀ i,i < b->hi.getD i 0<=c):((AF b c).filter λ q=>((An b).all λ i=>decide (q.getD i 0<=ah i)) && FG b lo q hi)=B7 (λ i=>lo.getD i 0) (λ i=>hi.getD i 0) ah b:=by
 have e1:B7 (λ i=>lo.getD i 0) (λ i=>hi.getD i 0) ah b=B7 (λ i=>if i < b then lo.getD i 0 else 0) (λ i=>if i < b then min (hi.getD i 0) (ah i) else 0 - (0 - c) ) (λ _=>c) b:=by
  rw [<- ZN (c:=c) b λ i hi=>by have:=hc i hi;omega];exact Vj b λ j hj=>⟨by rw [if_pos hj],by rw [if_pos hj],rfl⟩
 rw [e1];have e2:=Q9 (lo':=λ _=>0) (hi':=λ _=>c) (ah:=λ _=>c) (lo:=λ i=>if i < b then lo.getD i 0 else 0) (hi:=λ i=>if i < b then min (hi.getD i 0) (ah i) else 0 - (0 - c)) (λ i=>by
  show 0<=if i < b then lo.getD i 0 else 0
  split
  ·rename_i h;exact h0 i h
  ·omega) (λ i=>by
  show (if i < b then min (hi.getD i 0) (ah i) else 0 - (0 - c))<=c;split
  ·rename_i h;have:=hc i h;omega
  ·omega) b
 rw [<- e2];unfold AF;apply Qf;intro q _;rw [Ed,AU];unfold FG E2 FE;simp only [jb3,jc2,AU,decide_eq_true_iff];constructor
 ·rintro ⟨h1,h2⟩ i hi;have a1:=h1 i hi;have a2:=h2 i hi;rw [if_pos hi,if_pos hi];omega
 ·intro h;refine ⟨λ i hi=>?_,λ i hi=>?_⟩
  ·have:=h i hi
   rw [if_pos hi,if_pos hi] at this;omega
  ·have:=h i hi
   rw [if_pos hi,if_pos hi] at this;omega
section
variable {a b:Nat}{c:Int}{low high:List (List Int)}
theorem dh (h0:∀ i j,i < a->j < b->0<=g low i j) (hc:∀ i j,i < a->j < b->g high i j<=c) {k:Nat} (hk:k < a) {ah:Nat->Int}:HC a b c (λ i=>low.getD i []) (λ i=>high.getD i []) (k + 1) ah=AI (λ r=>HC a b c (λ i=>low.getD i []) (λ i=>high.getD i []) k (λ i=>r.getD i 0)) (B7 (g low (a - 1 - k)) (g high (a - 1 - k)) ah b):=by
 have e:=l7 (b:=b) (c:=c) (lo:=low.getD (a - 1 - k) []) (hi:=high.getD (a - 1 - k) []) (ah:=ah) (λ i hi=>h0 _ i (by omega) hi) (λ i hi=>hc _ i (by omega) hi);show AI _ _=AI _ (B7 (λ i=>(low.getD (a - 1 - k) []).getD i 0) (λ i=>(high.getD (a - 1 - k) []).getD i 0) ah b);rw [<- e,<- Qs];refine Ko λ r _=>?_;exact Zx
theorem YD (hcc:0<=c) (h0:∀ i j,i < a->j < b->0<=g low i j) (hc:∀ i j,i < a->j < b->g high i j<=c):∀ (k:Nat),k<=a->AI (λ p=>HC a b c (λ i=>low.getD i []) (λ i=>high.getD i []) k (GJ c p)) (Ct (g low) (g high) c b (a - k))=((Ct (g low) (g high) c b a).length:Int)
 | 0,_=>by
  rw [TJ,<- Zg];refine Ko λ p hp=>di hcc λ i hi=>?_;unfold GJ;cases a with
  | zero=>
   simp only [Ct,je2] at hp;subst hp;exact hcc
  | succ n=>
   have:=Od hp
   rw [Wx this.1.1];exact Ic (h0 n i (by (clear hi hcc;omega)) hi) (this.2.1 n i (by (clear hi hcc;omega)) hi).1
 | k + 1,hk=>by
  have ih:=YD hcc h0 hc k (by omega);rw [<- ih,show a - k=(a - (k + 1)) + 1 by (clear ih hcc;omega),Ct,ZQ];refine Ko λ p hp=>?_;rw [dh h0 hc (by (clear ih hcc;omega)),bt,show a - 1 - k=a - (k + 1) by (clear ih hk hcc;omega)];refine Ko λ r _=>?_;congr 1;unfold GJ;rw [List.getLast?_concat]
theorem lj (hcc:0<=c) (h0:∀ i j,i < a->j < b->0<=g low i j) (hc:∀ i j,i < a->j < b->g high i j<=c):(Cn (Cz a b c (λ i=>low.getD i []) (λ i=>high.getD i []) (λ _=>[]) a) (AF b c)).sum=((Ct (g low) (g high) c b a).length:Int):=by
 rw [O5,<- YD hcc h0 hc a (A5 _),TL];show _=AI _ [[]];rw [Fo];show AI (E8 a b c _ _ a) (AF b c)=HC a b c _ _ a (λ _=>c) + 0;unfold HC;rw [jg2.mpr λ r hr=>?_]
 ·omega
 ·rw [jb3];intro i hi;rw [decide_eq_true_iff];exact (zxb.mp hr).hi i (jc2.mp hi)
end
def Xf_how_many_between:Fs:=(Ag (Bv (Ak f_must_be_two_piles (Ad (Aa 0) pa4)))
 (As (Aq FO (Ad (Ak f_tally_between (Ad (Aa 0) (Ad (Aa 1) (Ad (Aa 2) (Ad (Aq Bw (Ab)) (Ab)))))) (Ab)))))
def f_how_many_between:Fn:=Ap false 3 0 Xf_how_many_between
theorem PD {a b:Nat}{h:Int->Int->Int}{t u:List (List Int)} (ht:Tab a b t) (hu:Tab a b u):Tab a b (zT h t u):=by
 refine ⟨by unfold zT;rw [Ax,Ln,ht.1,hu.1,qe],λ r hr=>?_⟩;obtain ⟨z,hz,rfl⟩:=jc4.mp hr;rw [List.length_zipWith,ht.2 _ (JP hz).1,hu.2 _ (JP hz).2,qe]
theorem Jr {a b:Nat}{h:Int->Int->Int}{t u:List (List Int)} (ht:Tab a b t) (hu:Tab a b u):zT h t u=FA a b λ i j=>h (g t i j) (g u i j):=by
 refine Gh (PD ht hu) LG λ i j hi hj=>?_;rw [E5 hi hj];have e1:(zT h t u).getD i []=JL h (t.getD i []) (u.getD i []):=by
  unfold zT;rw [A7,BO,(qX (z:=(t.getD i [],u.getD i []))).mpr ⟨Ht (by rw [ht.1];exact hi),Ht (by rw [hu.1];exact hi)⟩];rfl
 show ((zT h t u).getD i []).getD j 0=_;rw [e1,A7,List.getElem?_zipWith,EU (by rw [ht.row hi];exact hj),EU (by rw [hu.row hi];exact hj)];rfl
section
variable {a b c:Nat}{t u l:List (List Int)}
theorem Y1 (f:Int->Int->Int) (hf:∀ i j k m:Int,i<=k->j<=m->f i j<=f k m) (h0:∀ i j,f i j=i\/f i j=j) (p:Pile a b c t) (q:Pile a b c u):Pile a b c (zT f t u):=by
 refine ⟨PD p.tab q.tab,λ x y hx hy=>?_,λ x y hx hy=>?_,λ x y hx hy=>?_,λ x y hx hy=>?_⟩
 ·rw [Jr p.tab q.tab,E5 hx hy]
  have:=p.lo x y hx hy
  have:=q.lo x y hx hy
  rcases h0 (g t x y) (g u x y) with e | e <;> omega
 ·rw [Jr p.tab q.tab,E5 hx hy]
  have:=p.hi x y hx hy
  have:=q.hi x y hx hy
  rcases h0 (g t x y) (g u x y) with e | e <;> omega
 ·rw [Jr p.tab q.tab,E5 hx hy,E5 (by omega) hy];exact hf _ _ _ _ (p.dn x y hx hy) (q.dn x y hx hy)
 ·rw [Jr p.tab q.tab,E5 hx hy,E5 hx (by omega)];exact hf _ _ _ _ (p.rt x y hx hy) (q.rt x y hx hy)
end
section
variable {a b c:Nat}{t u l:List (List Int)}
theorem Qy (p:Pile a b c t) (q:Pile a b c u) (ha:1<=a/\a<=30) (hb:1<=b/\b<=30) (hc:1<=c/\c<=1000):f_must_be_two_piles [bx a b c,tb t,tb u]=.ok (.non,om,.non):=
 wt (Ir p.tab (by omega) (by omega) (by omega) ((Gj p.tab).mpr p)) (Ir q.tab (by omega) (by omega) (by omega) ((Gj q.tab).mpr q))
end
theorem T5 {α:Type}{f:α->Int}{m:Int} (hm:0<=m):∀ {l:List α},(∀ x∈l,f x<=m)->AI f l<=l.length * m
 | [],_=>by simp [AI]
 | x::l,h=>by
  have h1:=h x AD;have h2:=T5 hm (l:=l) λ y hy=>h y (AE _ hy);rw [Fo,AY,PZ,PM];omega
theorem zu {α:Type}{p:α->Bool}{l:List α}{m:Int} (hm:0<=m):((l.filter p).length:Int) * m<=(l.length:Int) * m:=Int.mul_le_mul_of_nonneg_right (by have:=Uh p l;omega) hm
theorem Xl {a b:Nat}{c:Int}{lo hi:Nat->List Int}:∀ (k:Nat) (r:List Int),0<=E8 a b c lo hi k r/\E8 a b c lo hi k r<=(((AF b c).length ^ k:Nat):Int)
 | 0,r=>by
  show 0<=(DM r).sum/\(DM r).sum<=_;unfold DM;split <;> simp
 | k + 1,r=>by
  rw [Zx];have ih:=Xl (a:=a) (b:=b) (c:=c) (lo:=lo) (hi:=hi) k;split
  ·unfold HC;refine ⟨Vm λ q _=>(ih q).1,Ic (T5 (m:=(((AF b c).length ^ k:Nat):Int)) (by omega) λ q _=>(ih q).2) ?_⟩;rw [TK,PQ,JN];exact zu (by omega)
  ·omega
theorem fv {l:List Int} (h1:l.length<=1) (h2:0<=l.sum/\l.sum<=2 ^ 40):FT l=true:=by
 unfold FT;rw [AU,decide_eq_true_iff,jb3];refine ⟨by omega,λ x hx=>?_⟩
 match l,h1,h2,hx with
 | [y],_,h2,hx=>
  rw [je2.mp hx];simp at h2;rw [AU,decide_eq_true_iff,decide_eq_true_iff];omega
structure BoxN (a b c:Nat):Prop where
 box:BoxT a b c
 hc:1<=c
 bd:(AF b c).length ^ (a + 1)<=2 ^ 40
 ab:a<=30/\b<=30
section
variable {a b c:Nat}{low high:List (List Int)}
def TN (a b c:Nat) (low high:List (List Int)) (k:Nat) (r:List Int):List Int:=Cz a b c (λ i=>low.getD i []) (λ i=>high.getD i []) (λ _=>[]) k r
theorem kC (k:Nat) {r:List Int} (hr:r∈AF b c):(TN a b c low high k r).length<=1:=by
 have:=O8 (a:=a) (b:=b) (c:=c) (lo:=λ i=>low.getD i []) (hi:=λ i=>high.getD i []) (ct:=λ _=>[]) (m:=0) (λ _=>A5 _) (λ _ j hj=>by cases hj) k r hr
 rw [Nat.zero_mul,Nat.mul_zero] at this;exact this
theorem gM (N:BoxN a b c) (p:Pile a b c low) (q:Pile a b c high):f_must_be_two_piles [bx a b c,tb low,tb high]=.ok (.non,om,.non):=by
 have h1:=N.box.ha;have h2:=N.box.hb;have h3:=N.box.hc;have h4:=N.hc;have h5:=N.ab;exact Qy p q (by (clear h4 h3 h2;omega)) (by (clear h4 h3 h1;omega)) (by (clear h5 h2 h1;omega))
theorem YE (N:BoxN a b c) (p:Pile a b c low) (q:Pile a b c high):f_how_many_between [bx a b c,tb low,tb high]=.ok (.int ((Ct (g low) (g high) c b a).length:Int),om,.non):=by
 have t:=bB N.box p.tab q.tab (ps:=[]) (λ z hz=>by cases hz) (m:=0) (λ i=>A5 _) (by omega) (by simp);have e:(Jq a b c low high []).sum=((Ct (g low) (g high) c b a).length:Int):=lj (by omega) p.lo q.hi;have hl:(Jq a b c low high []).length<=1:=K1 λ r hr=>kC a hr;have hs:(Jq a b c low high []).sum<=2 ^ 40:=by
  unfold Jq;rw [O5];have h1:=T5 (f:=E8 a b c (λ i=>low.getD i []) (λ i=>high.getD i []) a) (m:=(((AF b c).length ^ a:Nat):Int)) (by (clear hl e;omega)) (l:=AF b c) λ r _=>(Xl a r).2;have h2:(((AF b c).length ^ (a + 1):Nat):Int)<=((2 ^ 40:Nat):Int):=by exact_mod_cast N.bd
  rw [TK,PQ,JN] at h2;exact Ic h1 (Ic h2 (by decide))
 have so:FT (Jq a b c low high [])=true:=fv hl ⟨by rw [e];(clear hs hl e;omega),hs⟩;rw [<- e];have v1:Bv (Ak f_must_be_two_piles (Ad (Aa 0) pa4)) [some (bx a b c,0),some (tb low,0),some (tb high,0)]=.nx [some (bx a b c,0),some (tb low,0),some (tb high,0)]:=DH (AJ (xs:=[(bx a b c,0),(tb low,0),(tb high,0)]) rfl (gM N p q));exact Bg rfl ((A3 v1).trans (Ci (MO (BE (AJ (xs:=[(bx a b c,0),(tb low,0),(tb high,0),(.lst [],om)]) rfl t)) so)))
end
structure HV (L:List (Option PV)) (O:List Nat) (ρ:Af):Prop where
 len:ρ.length=L.length
 get:∀ (j:Nat) (x:PV),L[j]?=some (some x)->∃ d,ρ[j]?=some (some (x,d))
 own:∀ j∈O,∃ x d,ρ[j]?=some (some (x,d))/\d≠0
section
variable {L L':List (Option PV)}{O O':List Nat}{ρ:Af}
theorem HV.of (ρ:Af):HV (ρ.map λ s=>s.map (·.1)) [] ρ:=by
 refine ⟨by rw [Ax],λ j x h=>?_,λ _ h=>nomatch h⟩;rw [BO] at h;cases e:ρ[j]? with
 | none=>rw [e] at h;cases h
 | some s=>
  rw [e] at h;cases s with
  | none=>cases h
  | some p=>obtain ⟨y,d⟩:=p;cases h;exact ⟨d,rfl⟩
theorem HV.var {j:Nat}{x:PV} (h:HV L O ρ) (e:L[j]?=some (some x)):Aa j ρ=.ok (x,dv x,ρ):=by
 obtain ⟨d,e⟩:=h.get j x e;unfold Aa;rw [e]
def Wk:List (Option PV)->List (Option PV)->Prop
 | [],[]=>True
 | none::a,_::b=>Wk a b
 | some x::a,some y::b=>x=y/\Wk a b
 | _,_=>False
theorem Wk.get:∀ {a b:List (Option PV)},Wk a b->a.length=b.length/\∀ (j:Nat) (x:PV),a[j]?=some (some x)->b[j]?=some (some x)
 | [],[],_=>⟨rfl,λ j x h=>by cases h⟩
 | none::a,y::b,h=>by
  obtain ⟨h1,h2⟩:=Wk.get (a:=a) (b:=b) (by cases y <;> exact h);refine ⟨by rw [AY,AY,h1],λ j x e=>?_⟩;cases j with
  | zero=>cases e
  | succ j=>exact h2 j x e
 | some x::a,some y::b,h=>by
  obtain ⟨h0,h⟩:x=y/\Wk a b:=h;obtain ⟨h1,h2⟩:=Wk.get h;refine ⟨by rw [AY,AY,h1],λ j z e=>?_⟩;cases j with
  | zero=>rw [<- h0];exact e
  | succ j=>exact h2 j z e
 | some x::a,none::b,h=>h.elim
 | [],_::_,h=>h.elim
 | some _::_,[],h=>h.elim
 | none::_,[],h=>h.elim
theorem HV.weak (h:HV L O ρ) (w:Wk L' L) (ho:∀ j∈O',j∈O):HV L' O' ρ:=⟨h.len.trans w.get.1.symm,λ j x e=>h.get j x (w.get.2 j x e),λ j hj=>h.own j (ho j hj)⟩
theorem gP {d j e:Nat}{vs:List Nat}{x:PV} (h:ρ[j]?=some (some (x,e))):∃ e',(Bf d vs ρ)[j]?=some (some (x,e')):=by
 unfold Bf;split
 ·exact ⟨e,h⟩
 ·rw [Kt,h];dsimp only [Option.map];split
  ·exact ⟨0,rfl⟩
  ·exact ⟨e,rfl⟩
theorem wV {d:Nat}{vs:List Nat}{ρ:Af}:(Bf d vs ρ).length=ρ.length:=by
 unfold Bf;split
 ·rfl
 ·exact NX vs ρ 0
theorem HV.cool {d:Nat}{vs:List Nat} (h:HV L O ρ):HV L [] (Bf d vs ρ):=⟨by rw [wV];exact h.len,λ j x e=>by
 obtain ⟨d',e⟩:=h.get j x e;exact gP e,λ _ h=>nomatch h⟩
theorem HV.coolO {vs:List Nat} (h:HV L O ρ):HV L O (Bf om vs ρ):=by
 unfold Bf;rw [if_pos rfl];exact h
theorem HV.put {i d:Nat}{x:PV} (h:HV L O ρ) (hi:i < L.length) (ho:i∉O\/d≠0):HV (L.set i (some x)) O (ρ.set i (some (x,d))):=by
 have hl:=h.len;refine ⟨by rw [FD,FD,hl],λ j y e=>?_,λ j hj=>?_⟩
 ·by_cases hj:i=j
  ·subst hj;rw [GD hi] at e;cases e;exact ⟨d,GD (by omega)⟩
  ·rw [Ga hj] at e;rw [Ga hj];exact h.get j y e
 ·by_cases hij:i=j
  ·subst hij;rcases ho with ho | ho
   ·exact absurd hj ho
   ·exact ⟨x,d,GD (by omega),ho⟩
  ·rw [Ga hij];exact h.own j hj
theorem HV.putO {i d:Nat}{x:PV} (h:HV L O ρ) (hi:i < L.length) (hd:d≠0):HV (L.set i (some x)) (i::O) (ρ.set i (some (x,d))):=by
 have h1:=h.put (x:=x) (d:=d) hi (.inr hd);refine ⟨h1.len,h1.get,λ j hj=>?_⟩;rcases jb8.mp hj with rfl | hj
 ·exact ⟨x,d,GD (by rw [h.len];exact hi),hd⟩
 ·exact h1.own j hj
theorem HV.set {i d:Nat}{f:Fx}{vs:List Nat}{x:PV} (h:HV L O ρ) (hf:f ρ=.ok (x,d,ρ)) (hi:i < L.length):∃ ρ',Aj false i f vs ρ=.nx ρ'/\HV (L.set i (some x)) [] ρ':=⟨_,setF hf (by rw [h.len];exact hi) rfl,(h.cool).put hi (.inl (λ h=>nomatch h))⟩
theorem HV.setO {i:Nat}{f:Fx}{vs:List Nat}{x:PV} (h:HV L O ρ) (hf:f ρ=.ok (x,om,ρ)) (hi:i < L.length):∃ ρ',Aj false i f vs ρ=.nx ρ'/\HV (L.set i (some x)) O ρ':=⟨_,setF hf (by rw [h.len];exact hi) rfl,(h.coolO).put hi (.inr (by decide))⟩
theorem HV.setN {i:Nat}{f:Fx}{vs:List Nat}{x:PV} (h:HV L O ρ) (hf:f ρ=.ok (x,om,ρ)) (hi:i < L.length):∃ ρ',Aj false i f vs ρ=.nx ρ'/\HV (L.set i (some x)) (i::O) ρ':=⟨_,setF hf (by rw [h.len];exact hi) rfl,(h.coolO).putO hi (by decide)⟩
theorem HV.app {i:Nat}{f:Fx}{vs:List Nat}{xs:List PV}{y:PV} (h:HV L O ρ) (hx:L[i]?=some (some (.lst xs))) (ho:i∈O) (hf:f ρ=.ok (y,om,ρ)) (hl:xs.length < Au):∃ ρ',AW i f vs ρ=.nx ρ'/\HV (L.set i (some (.lst (xs++[y])))) O ρ':=by
 obtain ⟨x,d,e,hd⟩:=h.own i ho;obtain ⟨d',e'⟩:=h.get i _ hx;rw [e] at e';cases e';obtain ⟨d0,rfl⟩:∃ d0,d=d0 + 1:=⟨d - 1,by omega⟩
 have hi:i < L.length:=(jb0.mp hx).1;have c:Bf om vs ρ=ρ:=by unfold Bf;rw [if_pos rfl]
 exact ⟨_,GK (d:=d0 + 1) e hf (by rw [c];exact e) hd hl rfl,by rw [c];exact h.put hi (.inr (by split <;> decide))⟩
theorem HV.asgN {i:Nat} (x:PV) (h:HV L O ρ) (hi:i < L.length) (ho:i∉O):∃ ρ',asgN i x ρ=some ρ'/\HV (L.set i (some x)) O ρ':=by
 refine ⟨_,?_,h.put (x:=x) (d:=dv x) hi (.inl ho)⟩;unfold QQ.asgN;rw [if_pos (by rw [h.len];exact hi)]
theorem HV.asg3 {i j k:Nat} (x y z:PV) (h:HV L O ρ) (hi:i < L.length) (hj:j < L.length) (hk:k < L.length) (ho:i∉O/\j∉O/\k∉O):∃ ρ',asgT [i,j,k] (.tup [x,y,z]) ρ=some ρ'/\HV (((L.set i (some x)).set j (some y)).set k (some z)) O ρ':=by
 have hl:=h.len;refine ⟨((ρ.set i (some (x,dv x))).set j (some (y,dv y))).set k (some (z,dv z)),?_,((h.put hi (.inl ho.1)).put (by rw [FD];exact hj) (.inl ho.2.1)).put (by rw [FD,FD];exact hk) (.inl ho.2.2)⟩;unfold QQ.asgT;dsimp only;rw [De,QQ.asgN,if_pos (by omega)];show De [j,k] [y,z] _=_;rw [De,QQ.asgN,if_pos (by rw [FD];omega)];show De [k] [z] _=_;rw [De,QQ.asgN,if_pos (by rw [FD,FD];omega)];rfl
theorem XZ {asg:PV->Af->Option Af}{body:Fs}:∀ (els:List PV) (I:Nat->Af->Prop) (ρ:Af),I 0 ρ->(∀ j x ρ,els[j]?=some x->I j ρ->∃ ρ1 ρ2,asg x ρ=some ρ1/\body ρ1=.nx ρ2/\I (j + 1) ρ2)->∃ ρ',Bu asg body els ρ=.nx ρ'/\I els.length ρ'
 | [],I,ρ,h0,_=>⟨ρ,rfl,h0⟩
 | x::els,I,ρ,h0,hs=>by
  obtain ⟨ρ1,ρ2,e1,e2,h2⟩:=hs 0 x ρ rfl h0;obtain ⟨ρ',e,h⟩:=XZ els (λ j=>I (j + 1)) ρ2 h2 λ j y ρ hj=>hs (j + 1) y ρ hj;exact ⟨ρ',by rw [Bu,e1];dsimp only;rw [e2];exact e,h⟩
def Gv (s:Fs) (ρ:Af) (y:PV):Prop:=∃ d ρ',s ρ=.rt y d ρ'
theorem Gv.nx {s r:Fs}{ρ1:Af}{y:PV} (e:s ρ=.nx ρ1) (h:Gv r ρ1 y):Gv (Ag s r) ρ y:=by
 obtain ⟨d,ρ',h⟩:=h;exact ⟨d,ρ',(A3 e).trans h⟩
theorem Gv.ex {s r:Fs}{P:Af->Prop}{y:PV} (e:∃ ρ1,s ρ=.nx ρ1/\P ρ1) (h:∀ ρ1,P ρ1->Gv r ρ1 y):Gv (Ag s r) ρ y:=by
 obtain ⟨ρ1,e,p⟩:=e;exact Gv.nx e (h ρ1 p)
theorem Gv.no {c:Fb}{f r:Fs}{y:PV} (hc:c ρ=.ok (false,ρ)) (h:Gv r ρ y):Gv (Ag (AV c f A4) r) ρ y:=by
 obtain ⟨d,ρ',h⟩:=h;exact ⟨d,ρ',(Eo hc).trans h⟩
theorem Gv.ret {f:Fx}{ρ1:Af}{d:Nat}{y:PV} (h:f ρ=.ok (y,d,ρ1)):Gv (As f) ρ y:=⟨_,_,Ci h⟩
theorem Gv.fn {np k:Nat}{b:Fs}{xs:List PV}{y:PV} (hl:xs.length=np) (h:Gv b (xs.map (λ x=>some (x,dv x))++A6 k none) y):∃ d z,Ap false np k b xs=.ok (y,d,z):=by
 obtain ⟨d,ρ',h⟩:=h;exact ⟨_,_,Bg hl h⟩
theorem HV.unp3 {i j k:Nat}{f:Fx}{vs:List Nat}{x y z:PV}{d:Nat} (h:HV L O ρ) (hf:f ρ=.ok (.tup [x,y,z],d,ρ)) (hi:i < L.length) (hj:j < L.length) (hk:k < L.length):∃ ρ',BB (asgT [i,j,k]) f vs ρ=.nx ρ'/\HV (((L.set i (some x)).set j (some y)).set k (some z)) [] ρ':=by
 obtain ⟨ρ',e,h'⟩:=(h.cool (d:=d) (vs:=vs)).asg3 x y z hi hj hk ⟨λ h=>(nomatch h),λ h=>(nomatch h),λ h=>(nomatch h)⟩;exact ⟨ρ',yc hf e,h'⟩
theorem HV.appK {i e:Nat}{f:Fx}{vs:List Nat}{xs:List PV}{y:PV} (h:HV L O ρ) (hx:L[i]?=some (some (.lst xs))) (ho:i∈O) (hv:vs.contains i=false) (hf:f ρ=.ok (y,e,ρ)) (hl:xs.length < Au):∃ ρ',AW i f vs ρ=.nx ρ'/\HV (L.set i (some (.lst (xs++[y])))) [i] ρ':=by
 obtain ⟨x,d,e0,hd⟩:=h.own i ho;obtain ⟨d',e'⟩:=h.get i _ hx;rw [e0] at e';cases e';obtain ⟨d0,rfl⟩:∃ d0,d=d0 + 1:=⟨d - 1,by omega⟩
 have hi:i < L.length:=(jb0.mp hx).1;have c:(Bf e vs ρ)[i]?=some (some (.lst xs,d0 + 1)):=by
  unfold Bf;split
  ·exact e0
  ·rw [Kt,He,hv,e0];rfl
 exact ⟨_,GK (d:=d0 + 1) e0 hf c hd hl rfl,(h.cool (d:=e) (vs:=vs)).putO hi (by split <;> decide)⟩
def Nx (s:Fs) (ρ:Af) (P:Af->Prop):Prop:=∃ ρ',s ρ=.nx ρ'/\P ρ'
section
variable {P Q:Af->Prop}{s r:Fs}
theorem Nx.seq (h:Nx s ρ P) (k:∀ ρ',P ρ'->Nx r ρ' Q):Nx (Ag s r) ρ Q:=by
 obtain ⟨ρ1,e,p⟩:=h;obtain ⟨ρ2,e2,q⟩:=k ρ1 p;exact ⟨ρ2,(A3 e).trans e2,q⟩
theorem Nx.mono (h:Nx s ρ P) (k:∀ ρ',P ρ'->Q ρ'):Nx s ρ Q:=by
 obtain ⟨ρ1,e,p⟩:=h;exact ⟨ρ1,e,k ρ1 p⟩
theorem Nx.yes {c:Fb} (hc:c ρ=.ok (true,ρ)) (h:Nx s ρ P):Nx (AV c s r) ρ P:=by
 obtain ⟨ρ1,e,p⟩:=h;exact ⟨ρ1,(CH hc).trans e,p⟩
theorem Nx.no {c:Fb} (hc:c ρ=.ok (false,ρ)) (h:P ρ):Nx (AV c s A4) ρ P:=⟨ρ,(CW hc).trans rfl,h⟩
theorem Nx.loop {asg:PV->Af->Option Af}{els:List PV} (I:Nat->Af->Prop) (h0:I 0 ρ) (hs:∀ k x ρ,els[k]?=some x->I k ρ->∃ ρ1,asg x ρ=some ρ1/\Nx s ρ1 (I (k + 1))):∃ ρ',Bu asg s els ρ=.nx ρ'/\I els.length ρ':=XZ els I ρ h0 λ k x ρ e h=>by
 obtain ⟨ρ1,e1,ρ2,e2,h2⟩:=hs k x ρ e h;exact ⟨ρ1,ρ2,e1,e2,h2⟩
theorem bh {n k:Nat}{x:PV} (hx:((An n).map λ (k:Nat)=>PV.int (k:Int))[k]?=some x):k < n/\x=.int (k:Int):=by
 rw [BO] at hx;by_cases hk:k < n
 ·rw [Qh hk] at hx;cases hx;exact ⟨hk,rfl⟩
 ·rw [EL (by rw [CF];omega)] at hx;cases hx
theorem Nx.forR {asg:PV->Af->Option Af}{f:Fx}{n d:Nat} (I:Nat->Af->Prop) (hf:f ρ=.ok (.int (n:Int),d,ρ)) (hn:n<=1000) (h0:I 0 ρ) (hs:∀ k ρ,k < n->I k ρ->∃ ρ1,asg (.int (k:Int)) ρ=some ρ1/\Nx s ρ1 (I (k + 1))):Nx (Fq Bn (Ad f Ab) asg s) ρ (I n):=by
 obtain ⟨ρ',e,h⟩:=Nx.loop (els:=(An n).map λ (k:Nat)=>.int (k:Int)) I h0 λ k x ρ hx h=>by
  obtain ⟨hk,rfl⟩:=bh hx;exact hs k ρ hk h
 rw [Ax,CF] at h;exact ⟨ρ',yJ (BE hf) (Em (by omega) (by omega)) e,h⟩
def Ge (s:Fs) (ρ:Af) (P:PV->Prop):Prop:=∃ y d ρ',s ρ=.rt y d ρ'/\P y
theorem Ge.ex {R:PV->Prop} (h:Nx s ρ P) (k:∀ ρ',P ρ'->Ge r ρ' R):Ge (Ag s r) ρ R:=by
 obtain ⟨ρ1,e,p⟩:=h;obtain ⟨y,d,ρ',e',q⟩:=k ρ1 p;exact ⟨y,d,ρ',(A3 e).trans e',q⟩
theorem Ge.retV {R:PV->Prop}{i:Nat}{x:PV} (h:HV L O ρ) (e:L[i]?=some (some x)) (p:R x):Ge (C6 i) ρ R:=by
 obtain ⟨d,e⟩:=h.get i x e;exact ⟨x,d,ρ,by unfold C6;rw [e],p⟩
theorem Ge.fn {R:PV->Prop}{np k:Nat}{b:Fs}{xs:List PV} (hl:xs.length=np) (h:Ge b (xs.map (λ x=>some (x,dv x))++A6 k none) R):∃ y d,Ap false np k b xs=.ok (y,d,.non)/\R y:=by
 obtain ⟨y,d,ρ',h,p⟩:=h;exact ⟨y,d,Bg hl h,p⟩
end
end
section
variable {a b c:Nat}{low high t u:List (List Int)}
end
abbrev _root_.pc7:=Ac (Dm λ i j=>decide (j<=i)) (Aa 0) (Ac SI (bC (.int 10)) (bC (.int 18)))
abbrev _root_.pc2:=Ac B0 (Ac B0 (Ac B0 (Ac BZ (Aa 0) (bC (.int 48271))) (Ac BZ (Ac BZ (bC (.int 7919)) (Aa 1)) (Aa 1))) (Ac BZ (bC (.int 104729)) (Aa 1))) (bC (.int 29))
abbrev _root_.pe9:=Ac B0 (Ac BZ (Ac BZ (Aa 2) (Aa 2)) (Aa 2)) (Ac BZ (bC (.int 1000003)) (Aa 2))
def Xd_mixed:Fs:=(Ag (AV (bT pc7) (C6 0) A4)
 (Ag (Aj false 2 (Ac Fl pc2 (bC (.int 2147483647))) [0,1,1,1])
 (Ag (Aj false 2 (Ac Fl (Ac BZ (Aa 2) (Aa 2)) (bC (.int 2147483629))) [2,2])
 (As (Ac B0 pe9 (Aa 1))))))
def d_mixed:Fn:=Ap false 2 1 Xd_mixed
abbrev _root_.pg0:=Ac Fl (Ac KC (Aa 0) (Ac BZ (Aa 1) (Aa 2))) (Aa 3)
abbrev _root_.ph6:=Ac Fl (Ac KC (Aa 0) (Aa 1)) (Aa 2)
def Xd_box:Fs:=(As (Aq BL (Ad (Ac B0 (bC (.int 1)) (Ac Fl (Aa 0) (Aa 1))) (Ad (Ac B0 (bC (.int 1)) ph6) (Ad (Ac B0 (bC (.int 1)) pg0) (Ab))))))
def d_box:Fn:=Ap false 4 0 Xd_box
def Xd_pile:Fs:=(Ag pc9
 (Ag (Aj false 5 (Aq Bw (Ab)) [])
 (Ag (Fq Bn (Ad (Aa 2) (Ab)) (asgN 6) (Ag (Aj false 7 (Aq Bw (Ab)) [])
 (Ag (Fq Bn (Ad (Aa 3) (Ab)) (asgN 8) (Ag (Aj false 9 (Aa 4) [4])
 (Ag (AV (bT (Ac (Dm λ i j=>decide (j < i)) (Aa 6) (bC (.int 0)))) (Aj false 9 (Ac AQ (Ac AQ (Aa 5) (Ac Dl (Aa 6) (bC (.int 1)))) (Aa 8)) [5,6,8]) A4)
 (Ag (AV (bT (Ac (Dm λ i j=>decide (j < i)) (Aa 8) (bC (.int 0)))) (Aj false 9 (Aq Iz (Ad (Aa 9) (Ad (Ac AQ (Aa 7) (Ac Dl (Aa 8) (bC (.int 1)))) (Ab)))) [9,7,8]) A4)
 (Ag (AW 7 (Ac Dl (Aa 9) (Aq Iz (Ad (Aa 9) (Ad (Ac AQ (Aq Bw (Ad (bC (.int 0)) (Ad (bC (.int 1)) (Ad (bC (.int 0)) (Ad (bC (.int 2)) (Ad (Ac Fl (Aa 1) (Ac B0 (Aa 4) (bC (.int 1)))) (Ab))))))) (Ac Fl (Ac KC (Aa 1) (bC (.int 9))) (bC (.int 5)))) (Ab))))) [9,9,1,4,1])
 (Aj false 1 (Ac B0 (Ac KC (Aa 1) (bC (.int 45))) (Ac Fl (Ac BZ (bC (.int 13)) (Aa 1)) (bC (.int 1009)))) [1,1]))))))
 (AW 5 (Aa 7) [7]))))
 (C6 5))))
def d_pile:Fn:=Ap false 2 8 Xd_pile
open QQ
section
variable {hs:List C3}{a b c:Nat}
end
theorem gJ (c:Int) (k:Nat) (hk:k<=1000):∃ l:Int,d_mixed [.int c,.int k]=.ok (.int l,om,.non):=by
 let R (s:QQ.Slot):Af:=[some (.int c,om),some (.int (k:Int),om),s]
 have hp:Ac SI (bC (.int 10)) (bC (.int 18)) (R none)=.ok (.int (10 ^ 18),om,R none):=rfl;by_cases h:c ≥ 10 ^ 18
 ·have hc:bT pc7 (R none)=.ok (true,R none):=by
   have:=AK (Js (p:=λ i j=>decide (j<=i)) (f:=Aa 0) (ρ:=R none) (i:=c) (d:=om) rfl hp)
   rw [this,decide_eq_true h]
  exact ⟨c,Bg rfl (Jp ((CH hc).trans rfl))⟩
 ·have hc:bT pc7 (R none)=.ok (false,R none):=by
   have:=AK (Js (p:=λ i j=>decide (j<=i)) (f:=Aa 0) (ρ:=R none) (i:=c) (d:=om) rfl hp)
   rw [this,decide_eq_false h]
  have e1:Ac Fl pc2 (bC (.int 2147483647)) (R none)=.ok (.int ((c * 48271 + 7919 * (k:Int) * (k:Int) + 104729 * (k:Int) + 29) % 2147483647),om,R none):=
   IB (Ez (Ez (Ez (FQ (d:=om) (e:=om) rfl rfl (.inr (by decide))) (FQ (e:=om) (FQ (d:=om) (e:=om) (j:=(k:Int)) rfl rfl (.inl (by decide))) rfl (.inr (by omega)))) (FQ (d:=om) (e:=om) (j:=(k:Int)) rfl rfl (.inl (by decide)))) (e:=om) rfl) (e:=om) rfl (by decide)
  generalize hn:(c * 48271 + 7919 * (k:Int) * (k:Int) + 104729 * (k:Int) + 29) % 2147483647=n at e1;have b1:0<=n/\n < 2147483647:=by (clear h hk;omega)
  have e2:Ac Fl (Ac BZ (Aa 2) (Aa 2)) (bC (.int 2147483629)) (R (some (.int n,om)))=.ok (.int (n * n % 2147483629),om,R (some (.int n,om))):=IB (FQ (d:=om) (e:=om) (i:=n) (j:=n) rfl rfl (.inl (by (clear b1 h hk;omega)))) (e:=om) rfl (by decide);generalize hm:n * n % 2147483629=m at e2;have b2:0<=m/\m < 2147483629:=by (clear b1 hn h hk;omega)
  have e3:Ac B0 pe9 (Aa 1) (R (some (.int m,om)))=.ok (.int (m * m * m + 1000003 * m + (k:Int)),om,R (some (.int m,om))):=
   Ez (e:=om) (Ez (FQ (e:=om) (FQ (d:=om) (e:=om) (i:=m) (j:=m) rfl rfl (.inl (by (clear b2 b1 hn h hk;omega)))) rfl (.inr (by (clear b2 b1 hn h hk;omega)))) (FQ (d:=om) (e:=om) (j:=m) rfl rfl (.inl (by decide)))) rfl
  exact ⟨_,Bg rfl ((Eo hc).trans ((A3 (setF e1 (show 2 < 3 by decide) rfl)).trans ((A3 (setF e2 (show 2 < 3 by decide) rfl)).trans (Ci e3))))⟩
theorem SG {i:Int} (h:0<=i):∃ n:Nat,i=(n:Int):=⟨i.toNat,by omega⟩
theorem UM (l:Int) {r s t:Int} (hr:1<=r/\r<=6) (hs:1<=s/\s<=6) (ht:1<=t/\t<=6):∃ x y z:Nat,(1<=x/\(x:Int)<=r)/\(1<=y/\(y:Int)<=s)/\(1<=z/\(z:Int)<=t)/\d_box [.int l,.int r,.int s,.int t]=.ok (bx x y z,om,.non):=by
 let R:Af:=[some (.int l,om),some (.int r,om),some (.int s,om),some (.int t,om)]
 have q1:=PX l (show r≠0 by (clear ht hs;omega));have q2:=Ub l (show 0 < r by (clear q1 ht hs;omega));have q3:=PX (l / r) (show s≠0 by (clear q2 q1 ht hr;omega));have q4:=Ub (l / r) (show 0 < s by (clear q3 q2 q1 ht hr;omega));have q5:=PX (l / (r * s)) (show t≠0 by (clear q4 q3 q2 q1 hs hr;omega));have q6:=Ub (l / (r * s)) (show 0 < t by (clear q5 q4 q3 q2 q1 hs hr;omega));have rs0:0 < r * s:=Int.mul_pos (by (clear q6 q5 q4 q3 q2 q1 ht hs;omega)) (by (clear q6 q5 q4 q3 q2 q1 ht hr;omega));have rs1:r * s<=6 * 6:=Int.mul_le_mul hr.2 hs.2 (by (clear rs0 q6 q5 q4 q3 q2 q1 ht hr;omega)) (by (clear rs0 q6 q5 q4 q3 q2 q1 ht hs hr;omega));obtain ⟨x,hx⟩:=SG (i:=1 + l % r) (by (clear rs1 rs0 q6 q5 q4 q3 q2 ht hs hr;omega));obtain ⟨y,hy⟩:=SG (i:=1 + l / r % s) (by (clear hx rs1 rs0 q6 q5 q4 q2 q1 ht hs hr;omega));obtain ⟨z,hz⟩:=SG (i:=1 + l / (r * s) % t) (by (clear hy hx rs1 rs0 q6 q4 q3 q2 q1 ht hs hr;omega));refine ⟨x,y,z,by (clear hz hy rs1 rs0 q6 q5 q4 q3 ht hs hr;omega),by (clear hz hx rs1 rs0 q6 q5 q2 q1 ht hs hr;omega),by (clear hy hx rs1 rs0 q4 q3 q2 q1 ht hs hr;omega),?_⟩;have e1:Ac B0 (bC (.int 1)) (Ac Fl (Aa 0) (Aa 1)) R=.ok (.int (1 + l % r),om,R):=Ez (d:=om) rfl (IB (i:=l) (d:=om) (e:=om) rfl rfl (by (clear hz hy hx rs1 rs0 q6 q5 q4 q3 q2 q1 ht hs;omega)));have e2:Ac B0 (bC (.int 1)) ph6 R=.ok (.int (1 + l / r % s),om,R):=Ez (d:=om) rfl (IB (Pz (i:=l) (d:=om) (e:=om) rfl rfl (by (clear hz hy hx rs1 rs0 q6 q5 q4 q3 q2 q1 ht hs;omega)) (by (clear hz hy hx rs1 rs0 q6 q5 q4 q3 q2 q1 ht hs;omega))) (e:=om) rfl (by (clear hz hy hx rs1 rs0 q6 q5 q4 q3 q2 q1 ht hr;omega)));have e3:Ac B0 (bC (.int 1)) pg0 R=.ok (.int (1 + l / (r * s) % t),om,R):=Ez (d:=om) rfl (IB (Pz (i:=l) (d:=om) (e:=om) rfl (FQ (i:=r) (j:=s) (d:=om) (e:=om) rfl rfl (.inl (by (clear hz hy hx rs1 rs0 q6 q5 q4 q3 q2 q1 ht hs;omega)))) (by (clear hz hy hx rs1 q6 q5 q4 q3 q2 q1 ht hs hr;omega)) (by (clear hz hy hx rs0 q6 q5 q4 q3 q2 q1 ht hs hr;omega))) (e:=om) rfl (by (clear hz hy hx rs1 rs0 q6 q5 q4 q3 q2 q1 hs hr;omega)));rw [hx] at e1;rw [hy] at e2;rw [hz] at e3;exact Bg rfl (Ci (CO (Cu e1 (Cu e2 (BE e3))) rfl))
section
variable {a b c:Nat}{hs:List C3}
end
theorem j6 {b c:Nat}:Pile 0 b c []:=⟨⟨rfl,λ _ h=>(nomatch h)⟩,λ i j hi=>absurd hi (by omega),λ i j hi=>absurd hi (by omega),λ i j hi=>absurd hi (by omega),λ i j hi=>absurd hi (by omega)⟩
def RowP (b c:Nat) (t:List (List Int)) (r:List Int):Prop:=(∀ y,y < r.length->0<=r.getD y 0/\r.getD y 0<=Hb c t y)/\∀ n,n + 1 < r.length->r.getD (n + 1) 0<=r.getD n 0
theorem km {b c:Nat}{t:List (List Int)}:RowP b c t []:=⟨λ y h=>absurd h (by simp),λ n h=>absurd h (by simp)⟩
theorem RowP.snoc {b c:Nat}{t:List (List Int)}{r:List Int}{v:Int} (h:RowP b c t r) (h1:0<=v/\v<=Hb c t r.length) (h2:∀ n,n + 1=r.length->v<=r.getD n 0):RowP b c t (r++[v]):=by
 refine ⟨λ y hy=>?_,λ n hn=>?_⟩
 ·rw [Bm] at hy;rw [QY];split
  ·exact h.1 y (by assumption)
  ·have:y=r.length:=by simp at hy;omega
   rw [if_pos this,this];exact h1
 ·rw [Bm] at hn;rw [QY,QY];split
  ·rw [if_pos (by (clear hn h1;omega))];exact h.2 n (by assumption)
  ·have:n + 1=r.length:=by simp at hn;omega
   rw [if_pos this,if_pos (by (clear hn h1;omega))];exact h2 n this
theorem nB (n:Int) (x:Int) (hx:0<=x):∃ y,0<=y/\BM [0,1,0,2,x] (n % 5)=some y:=by
 have h:n % 5=0\/n % 5=1\/n % 5=2\/n % 5=3\/n % 5=4:=by omega
 rcases h with h | h | h | h | h <;> rw [h]
 ·exact ⟨0,by decide,rfl⟩
 ·exact ⟨1,by decide,rfl⟩
 ·exact ⟨0,by decide,rfl⟩
 ·exact ⟨2,by decide,rfl⟩
 ·exact ⟨x,hx,rfl⟩
theorem YF {a b c:Nat} (l:Int) (ha:a<=100) (hb:b<=100) (hc:c<=1000):∃ t d,Pile a b c t/\d_pile [bx a b c,.int l]=.ok (tb t,d,.non):=by
 have z:=sz;let F (l:Int) (s5 s6 s7 s8 s9:Option PV):List (Option PV):=[some (bx a b c),some (.int l),some (.int a),some (.int b),some (.int c),s5,s6,s7,s8,s9]
 let ρ0:Af:=[some (bx a b c,0),some (.int l,om),none,none,none,none,none,none,none,none]
 have nin:∀ {i:Nat},i∉([]:List Nat):=λ h=>nomatch h
 suffices h:Ge Xd_pile ρ0 λ y=>∃ t,Pile a b c t/\y=tb t by
  obtain ⟨y,d,e,t,p,rfl⟩:=Ge.fn (np:=2) (k:=8) (xs:=[bx a b c,.int l]) rfl h;exact ⟨t,d,p,e⟩
 have h0:HV [some (bx a b c),some (.int l),none,none,none,none,none,none,none,none] [] ρ0:=HV.of ρ0;refine Ge.ex (h0.unp3 (x:=.int a) (y:=.int b) (z:=.int c) (d:=0) (h0.var rfl) (show 2 < 10 by decide) (show 3 < 10 by decide) (show 4 < 10 by decide)) λ ρ1 h1=>?_;refine Ge.ex (h1.setN (x:=.lst []) rfl (show 5 < 10 by decide)) λ ρ2 h2=>?_;refine Ge.ex (P:=λ ρ=>∃ l t,Pile a b c t/\HV (F l (some (tb t)) none none none none) [5] ρ) (Nx.forR (λ k ρ=>∃ l t,Pile k b c t/\HV (F l (some (tb t)) none none none none) [5] ρ) (h2.var rfl) (by (clear z hc hb;omega)) ⟨l,[],j6,h2⟩ λ k ρ hk ⟨l,t,ht,h⟩=>?_) λ ρ3 ⟨l,t,ht,h3⟩=>Ge.retV h3 rfl ⟨t,ht,rfl⟩;have hl:t.length=k:=ht.tab.1;obtain ⟨ρa,ea,h⟩:=h.asgN (i:=6) (.int (k:Int)) (show 6 < 10 by decide) (by decide);refine ⟨ρa,ea,Nx.seq (h.setN (x:=.lst []) rfl (show 7 < 10 by decide)) λ ρ4 h4=>Nx.seq (Nx.forR (λ m ρ=>∃ l r,RowP b c t r/\r.length=m/\HV (F l (some (tb t)) (some (.int (k:Int))) (some (il r)) none none) [7,5] ρ) (h4.var rfl) (by (clear hl hk z hc ha;omega)) ⟨l,[],km,rfl,h4⟩ λ m ρ hm ⟨l,r,hr,hrl,h⟩=>?_) λ ρ5 ⟨l,r,hr,hrl,h⟩=>?_⟩
 ·obtain ⟨ρb,eb,h⟩:=h.asgN (i:=8) (.int (m:Int)) (show 8 < 10 by decide) (by decide);let G (m9:Int):=F l (some (tb t)) (some (.int (k:Int))) (some (il r)) (some (.int (m:Int))) (some (.int m9));refine ⟨ρb,eb,Nx.seq (h.setO (x:=.int c) (h.var rfl) (show 9 < 10 by decide)) λ ρ6 (h6:HV (G c) [7,5] ρ6)=>Nx.seq (P:=λ ρ=>∃ m1:Int,(0<=m1/\m1<=Hb c t m)/\HV (G m1) [7,5] ρ) ?_ λ ρ7 ⟨m1,hm1,h7⟩=>Nx.seq (P:=λ ρ=>∃ m2:Int,(0<=m2/\m2<=Hb c t m/\∀ n,n + 1=m->m2<=r.getD n 0)/\HV (G m2) [7,5] ρ) ?_ λ ρ8 ⟨m2,hm2,h8⟩=>?_⟩
  ·have q:=AK (Js (p:=λ i j=>decide (j < i)) (g:=bC (.int 0)) (j:=0) (e:=om) (h6.var (j:=6) (x:=.int (k:Int)) rfl) rfl);by_cases h0:0 < k
   ·rw [decide_eq_true (by (clear hrl hm hl hk z hc hb ha;omega))] at q;have s:=Hq (g:=bC (.int 1)) (j:=1) (e:=om) (h6.var (j:=6) (x:=.int (k:Int)) rfl) rfl;rw [show (k:Int) - 1=((k - 1:Nat):Int) by (clear hrl hm hl hk z hc hb ha;omega)] at s;exact Nx.yes q (Nx.mono (h6.setO (KD (i:=k - 1) (j:=m) ht.tab (h6.var (j:=5) rfl) s (h6.var (j:=8) rfl) (by (clear hrl hm hl hk z hc hb ha;omega)) hm) (show 9 < 10 by decide)) λ ρ h=>⟨_,⟨ht.lo (k - 1) m (by (clear hrl hm hl hk z hc hb ha;omega)) hm,by unfold Hb;rw [if_neg (by (clear hrl hm hk z hc hb ha;omega)),hl];exact EH _⟩,h⟩)
   ·rw [decide_eq_false (by (clear hrl hm hl hk z hc hb ha;omega))] at q;exact Nx.no q ⟨c,⟨by (clear h0 hrl hm hl hk z hc hb ha;omega),by unfold Hb;rw [if_pos (by (clear hrl hm hk z hc hb ha;omega))];exact EH _⟩,h6⟩
  ·have q:=AK (Js (p:=λ i j=>decide (j < i)) (g:=bC (.int 0)) (j:=0) (e:=om) (h7.var (j:=8) (x:=.int (m:Int)) rfl) rfl);by_cases h0:0 < m
   ·rw [decide_eq_true (by (clear hm1 hrl hm hl hk z hc hb ha;omega))] at q;have s:=Hq (g:=bC (.int 1)) (j:=1) (e:=om) (h7.var (j:=8) (x:=.int (m:Int)) rfl) rfl;rw [show (m:Int) - 1=((m - 1:Nat):Int) by (clear hm1 hrl hm hl hk z hc hb ha;omega)] at s;have hx:=hr.1 (m - 1) (by (clear hm1 hm hl hk z hc hb ha;omega));exact Nx.yes q (Nx.mono (h7.setO (x:=.int (if r.getD (m - 1) 0 < m1 then r.getD (m - 1) 0 else m1)) (CO (Cu (h7.var (j:=9) rfl) (BE (IA (xs:=r) (h7.var (j:=7) rfl) s (E4 (by (clear hx h0 hm1 hrl hm hl hk z hc hb ha;omega)) (by rw [Di];exact EU (by (clear hx hm1 hm hl hk z hc hb ha;omega))))))) rfl) (show 9 < 10 by decide)) λ ρ h=>⟨_,⟨by split <;> (clear h0 hrl hm hl hk z hc hb ha;omega),by split <;> (clear hx h0 hrl hm hl hk z hc hb ha;omega),λ n hn=>by rw [show m - 1=n by (clear hx h0 hm1 hrl hm hl hk z hc hb ha;omega)];split <;> (clear hn hx h0 hm1 hrl hm hl hk z hc hb ha;omega)⟩,h⟩)
   ·rw [decide_eq_false (by (clear hm1 hrl hm hl hk z hc hb ha;omega))] at q;exact Nx.no q ⟨m1,⟨hm1.1,hm1.2,λ n hn=>absurd hn (by (clear hn hm1 hrl hm hl hk z hc hb ha;omega))⟩,h7⟩
  ·obtain ⟨y,hy,ey⟩:=nB (l / 9) (l % ((c:Int) + 1)) (PX _ (by (clear hm2 hm1 hrl hm hl hk z hc hb ha;omega)));let v:=m2 - (if y < m2 then y else m2);have hv:0<=v/\v<=m2:=by
    show 0<=m2 - (if y < m2 then y else m2)/\m2 - (if y < m2 then y else m2)<=m2;split <;> (clear hm1 hrl hm hl hk z hc hb ha;omega)
   have v1:Aa 1 ρ8=.ok (.int l,om,ρ8):=h8.var rfl;have f1:=CO (op:=Bw) (z:=il [0,1,0,2,l % ((c:Int) + 1)]) (c:=om) (Cu (f:=bC (.int 0)) rfl (Cu (f:=bC (.int 1)) rfl (Cu (f:=bC (.int 0)) rfl (Cu (f:=bC (.int 2)) rfl (BE (IB v1 (Ez (g:=bC (.int 1)) (j:=1) (e:=om) (h8.var (j:=4) (x:=.int c) rfl) rfl) (by (clear hv hy hm2 hm1 hrl hm hl hk z hc hb ha;omega)))))))) rfl;have f2:=IB (g:=bC (.int 5)) (j:=5) (e:=om) (Pz (g:=bC (.int 9)) (j:=9) (e:=om) v1 rfl (by decide) (by decide)) rfl (by decide);refine Nx.seq (h8.app (i:=7) (xs:=r.map PV.int) (y:=.int v) rfl (by decide) (Hq (i:=m2) (h8.var (j:=9) rfl) (CO (xs:=[(.int m2,om),(.int y,om)]) (Cu (h8.var (j:=9) rfl) (BE (IA f1 f2 ey))) rfl)) (by rw [Ax];(clear hv hy hm2 hm1 hl hk hc ha;omega))) λ ρ9 h9=>?_;have v1:Aa 1 ρ9=.ok (.int l,om,ρ9):=h9.var rfl;refine Nx.mono (h9.setO (Ez (Pz (g:=bC (.int 45)) (j:=45) (e:=om) v1 rfl (by decide) (by decide)) (IB (g:=bC (.int 1009)) (j:=1009) (e:=om) (FQ (f:=bC (.int 13)) (i:=13) (d:=om) rfl v1 (.inl (by decide))) rfl (by decide))) (show 1 < 10 by decide)) λ ρ h=>⟨_,r++[v],hr.snoc (by rw [hrl];exact ⟨hv.1,Ic hv.2 hm2.2.1⟩) (λ n hn=>Ic hv.2 (hm2.2.2 n (by (clear hv hy hm2 hm1 hm hl hk z hc hb ha;omega)))),by rw [Bm,hrl];rfl,h.weak ⟨rfl,rfl,rfl,rfl,rfl,rfl,rfl,?_,trivial⟩ λ _ h=>h⟩
   unfold il;rw [B5];rfl
 ·refine Nx.mono (h.appK (i:=5) (xs:=t.map il) (y:=il r) rfl (by decide) (by decide) (h.var (j:=7) rfl) (by rw [Ax];(clear hrl hc hb;omega))) λ ρ h=>⟨l,t++[r],ht.snoc hrl (λ y hy=>hr.1 y (by (clear hl hk z hc hb ha;omega))) (λ n hn=>hr.2 n hn),h.weak ⟨rfl,rfl,rfl,rfl,rfl,?_,trivial⟩ λ _ h=>h⟩
  unfold tb;rw [B5];rfl
def PJ:List Int->Bool
 | []=>true
 | x::l=>l.all (λ y=>!(x == y)) && PJ l
theorem Wy:∀ {l:List Int},PJ l=true->l.Pairwise (·≠·)
 | [],_=>List.Pairwise.nil
 | x::l,h=>by
  rw [PJ,AU] at h;refine List.Pairwise.cons (λ y hy=>?_) (Wy h.2)
  have:=jb3.mp h.1 y hy
  simpa using this
def Nv (b c:Nat):Bool:=PJ ((AF b c).map λ r=>GY (A8 r))
theorem X8 {α:Type}{f:α->Int}:∀ {l:List α}{x:Int},(l.map f).Pairwise (·≠·)->(l.filter λ y=>f y == x).length<=1
 | [],_,_=>by simp
 | y::l,x,h=>by
  rw [AR,jf6] at h;rw [FZ];split
  ·rename_i e
   have:l.filter (λ z=>f z == x)=[]:=by
    rw [jj9];intro z hz e2;exact h.1 _ (qJ hz) ((eq_of_beq e).trans (eq_of_beq e2).symm)
   rw [this];simp
  ·exact X8 h.2
theorem dk_of {b c:Nat} (h:Nv b c=true):DE ((AF b c).map A8)=true:=by
 unfold Nv at h;have hp:=Wy h;unfold DE;rw [AU,jb3,jb3];refine ⟨λ k hk=>?_,λ k hk=>?_⟩
 ·obtain ⟨r,_,rfl⟩:=jc4.mp hk;rw [jb3];intro x hx;obtain ⟨n,_,rfl⟩:=jc4.mp hx;rfl
 ·rw [decide_eq_true_iff];refine X8 (f:=GY) ?_;rw [BC];exact hp
theorem ub {n:Nat}{c:Nat}:(AF n c).length<=(c + 1) ^ n:=Zd (m:=c + 1) n λ j _=>by omega
theorem jP {a b c:Nat} (ha:1<=a/\a<=6) (hb:1<=b/\b<=6) (hc:c<=6) (h:Nv b c=true):BoxT a b c:=by
 refine ⟨by omega,by omega,by omega,dk_of h,λ n hn=>?_⟩;have h1:(c + 1) ^ n<=7 ^ n:=qF (by omega) n;have h2:7 ^ n<=7 ^ 6:=qK (by omega) (by omega)
 have:=ub (n:=n) (c:=c)
 omega
section
variable {a b c:Nat}{hs:List C3}
end
section
variable {a b c:Nat}{low high t u:List (List Int)}
theorem M5 (h:Tab a b t) {i j:Nat} (hn:¬ (i < a/\j < b)):g t i j=0:=by
 unfold g;by_cases hi:i < a
 ·rw [A7,EL (by rw [h.row hi];omega)];rfl
 ·rw [A7 (l:=t),EL (by rw [h.1];omega)];rfl
theorem m6 (p:Pile a b c t) (i j:Nat):0<=g t i j:=by
 by_cases h:i < a/\j < b
 ·exact p.lo i j h.1 h.2
 ·rw [M5 p.tab h];exact EH _
theorem ZI {lo hi:Nat->Nat->Int}{c:Int}{b:Nat}:∀ (n:Nat),(Ct lo hi c b n).Pairwise (·≠·)
 | 0=>by simp [Ct]
 | n + 1=>by
  rw [Ct,qO];refine ⟨λ r hr=>?_,?_⟩
  ·rw [Qe];refine List.Pairwise.imp (λ {x y} h e=>?_) (QW b);have e:=(qt e rfl).2;cases e;rw [Ot] at h;cases h
  ·refine List.Pairwise.imp_of_mem (λ {r q} hr hq h u hu v hv e=>?_) (ZI n);obtain ⟨x,_,rfl⟩:=jc4.mp hu;obtain ⟨y,_,rfl⟩:=jc4.mp hv;exact h (qt e rfl).1
end
structure Mom (φ:Nat->List Int->Int) (op:Nat->Nat->Nat) (ψ:Nat->Int):Prop where
 nil:∀ m,φ m []=0
 add:∀ m x y,φ m (Az x y)=φ m x + φ m y
 sh:∀ m w x,φ m (A6 w 0++x)=φ (op m w) x
 one:∀ m,φ m [1]=ψ m
 as:∀ m u v,op (op m u) v=op m (u + v)
 zr:∀ m,op m 0=m
section
variable {φ:Nat->List Int->Int}{op:Nat->Nat->Nat}{ψ:Nat->Int}
variable {a b c:Nat}{low high:List (List Int)}{ct:Nat->List Nat}
end
end QV
namespace K67
open PySem PySem.Spec PyProof.Rows L2 QQ
def sn:Sn:=QQ.sn (kU ["table","behind"]) 40
abbrev Rd (ds:List DI):=Reads sn false [] ds
abbrev b5:Fs:=QV.Xf_column_of
abbrev F5:Fn:=QV.f_column_of
abbrev D5:DI:=⟨AX 12,["table","j"],F5,b5⟩
abbrev L5:List DI:=D5::[]
theorem k5:Rd L5:=.cons .nil (by kernel_rfl) (by kernel_rfl) (by kernel_rfl)
abbrev b0:Fs:=QV.Xf_is_whole_number
abbrev F0:Fn:=QV.f_is_whole_number
abbrev D0:DI:=⟨AX 7,["thing"],F0,b0⟩
abbrev L0:List DI:=D0::L5
theorem k0:Rd L0:=.cons k5 (by kernel_rfl) (by kernel_rfl) (by kernel_rfl)
abbrev b1:Fs:=QV.Xf_is_box
abbrev F1:Fn:=QV.f_is_box
abbrev D1:DI:=⟨AX 8,["thing"],F1,b1⟩
abbrev L1:List DI:=D1::L0
theorem k1:Rd L1:=.cons k0 (by kernel_rfl) (by kernel_rfl) (by kernel_rfl)
abbrev b2:Fs:=QV.Xf_must_be_box
abbrev F2:Fn:=QV.f_must_be_box
abbrev D2:DI:=⟨AX 9,["box"],F2,b2⟩
abbrev L2:List DI:=D2::L1
theorem k2:Rd L2:=.cons k1 (by kernel_rfl) (by kernel_rfl) (by kernel_rfl)
abbrev b3:Fs:=QV.Xf_is_row_of_heights
abbrev F3:Fn:=QV.f_is_row_of_heights
abbrev D3:DI:=⟨AX 10,["thing","columns","height"],F3,b3⟩
abbrev L3:List DI:=D3::L2
theorem k3:Rd L3:=.cons k2 (by kernel_rfl) (by kernel_rfl) (by kernel_rfl)
abbrev b4:Fs:=QV.Xf_never_rises
abbrev F4:Fn:=QV.f_never_rises
abbrev D4:DI:=⟨AX 11,["numbers"],F4,b4⟩
abbrev L4:List DI:=D4::L3
theorem k4:Rd L4:=.cons k3 (by kernel_rfl) (by kernel_rfl) (by kernel_rfl)
abbrev b6:Fs:=QV.Xf_is_pile
abbrev F6:Fn:=QV.f_is_pile
abbrev D6:DI:=⟨AX 13,["box","thing","rows","columns","height"],F6,b6⟩
abbrev L6:List DI:=D6::L4
theorem k6:Rd L6:=.cons k4 (by kernel_rfl) (by kernel_rfl) (by kernel_rfl)
abbrev b7:Fs:=QV.Xf_must_be_pile
abbrev F7:Fn:=QV.f_must_be_pile
abbrev D7:DI:=⟨AX 14,["box","pile"],F7,b7⟩
abbrev L7:List DI:=D7::L6
theorem k7:Rd L7:=.cons k6 (by kernel_rfl) (by kernel_rfl) (by kernel_rfl)
abbrev n5:Fs:=QV.Xf_mirrored_pile
abbrev Km:Fn:=QV.f_mirrored_pile
abbrev oY:DI:=⟨AX 21,["box","pile"],Km,n5⟩
abbrev xW:List DI:=oY::L7
theorem mr:Rd xW:=.cons k7 (by kernel_rfl) (by kernel_rfl) (by kernel_rfl)
abbrev nz:Fs:=QV.Xf_how_many_above
abbrev nW:Fn:=QV.f_how_many_above
abbrev oX:DI:=⟨AX 22,["numbers","level"],nW,nz⟩
abbrev xV:List DI:=oX::xW
theorem mn:Rd xV:=.cons mr (by kernel_rfl) (by kernel_rfl) (by kernel_rfl)
abbrev ny:Fs:=QV.Xf_rolled_pile
abbrev Hl:Fn:=QV.f_rolled_pile
abbrev oW:DI:=⟨AX 23,["box","pile","rolled","j","column"],Hl,ny⟩
abbrev xU:List DI:=oW::xV
theorem mm:Rd xU:=.cons mn (by kernel_rfl) (by kernel_rfl) (by kernel_rfl)
abbrev nv:Fs:=QV.Xf_rest_of
abbrev Gf:Fn:=QV.f_rest_of
abbrev oV:DI:=⟨AX 24,["box","pile","rest","row"],Gf,nv⟩
abbrev xT:List DI:=oV::xU
theorem ml:Rd xT:=.cons mm (by kernel_rfl) (by kernel_rfl) (by kernel_rfl)
abbrev nu:Fs:=QV.Xf_must_be_two_piles
abbrev nV:Fn:=QV.f_must_be_two_piles
abbrev oU:DI:=⟨AX 26,["box","pile","other"],nV,nu⟩
abbrev xS:List DI:=oU::xT
theorem mj:Rd xS:=.cons ml (by kernel_rfl) (by kernel_rfl) (by kernel_rfl)
abbrev nq:Fs:=QV.Xf_places_of
abbrev nU:Fn:=QV.f_places_of
abbrev oT:DI:=⟨AX 27,["box","places","i"],nU,nq⟩
abbrev xR:List DI:=oT::xS
theorem mi:Rd xR:=.cons mj (by kernel_rfl) (by kernel_rfl) (by kernel_rfl)
abbrev nk:Fs:=QV.Xf_fewest_moved
abbrev Hk:Fn:=QV.f_fewest_moved
abbrev oS:DI:=⟨AX 28,["box","pile","other"],Hk,nk⟩
abbrev xQ:List DI:=oS::xR
theorem mh:Rd xQ:=.cons mi (by kernel_rfl) (by kernel_rfl) (by kernel_rfl)
abbrev nj:Fs:=QV.Xf_pile_below
abbrev Ly:Fn:=QV.f_pile_below
abbrev oR:DI:=⟨AX 29,["box","pile","other","below","row","other_row"],Ly,nj⟩
abbrev xP:List DI:=oR::xQ
theorem mf:Rd xP:=.cons mh (by kernel_rfl) (by kernel_rfl) (by kernel_rfl)
abbrev ni:Fs:=QV.Xf_pile_above
abbrev Vd:Fn:=QV.f_pile_above
abbrev oQ:DI:=⟨AX 30,["box","pile","other","above","row","other_row"],Vd,ni⟩
abbrev xO:List DI:=oQ::xP
theorem me:Rd xO:=.cons mf (by kernel_rfl) (by kernel_rfl) (by kernel_rfl)
abbrev nh:Fs:=QV.Xf_lies_below
abbrev Il:Fn:=QV.f_lies_below
abbrev oP:DI:=⟨AX 31,["box","pile","other"],Il,nh⟩
abbrev xN:List DI:=oP::xO
theorem md:Rd xN:=.cons me (by kernel_rfl) (by kernel_rfl) (by kernel_rfl)
abbrev mZ:Fs:=QV.Xf_added
abbrev nS:Fn:=QV.f_added
abbrev oN:DI:=⟨AX 34,["tally","other","total","n","many"],nS,mZ⟩
abbrev xK:List DI:=oN::xN
theorem lZ:Rd xK:=.cons md (by kernel_rfl) (by kernel_rfl) (by kernel_rfl)
abbrev ng:Fs:=QV.Xf_rows_of_heights
abbrev nT:Fn:=QV.f_rows_of_heights
abbrev oO:DI:=⟨AX 33,["columns","height","rows","j","longer","row","most"],nT,ng⟩
abbrev xM:List DI:=oO::xK
theorem ma:Rd xM:=.cons lZ (by kernel_rfl) (by kernel_rfl) (by kernel_rfl)
abbrev mY:Fs:=QV.Xf_sums_of_lower_rows
abbrev nR:Fn:=QV.f_sums_of_lower_rows
abbrev oM:DI:=⟨AX 35,["table","columns","sums","j","row","lower"],nR,mY⟩
abbrev xJ:List DI:=oM::xM
theorem lY:Rd xJ:=.cons ma (by kernel_rfl) (by kernel_rfl) (by kernel_rfl)
abbrev mX:Fs:=QV.Xf_lies_between
abbrev nQ:Fn:=QV.f_lies_between
abbrev oK:DI:=⟨AX 36,["row","low","high"],nQ,mX⟩
abbrev xI:List DI:=oK::xJ
theorem lX:Rd xI:=.cons lY (by kernel_rfl) (by kernel_rfl) (by kernel_rfl)
abbrev mW:Fs:=QV.Xf_table_of_row
abbrev nP:Fn:=QV.f_table_of_row
abbrev oJ:DI:=⟨AX 37,["behind","low","high","counted","table","row"],nP,mW⟩
abbrev xH:List DI:=oJ::xI
theorem lW:Rd xH:=.cons lX (by kernel_rfl) (by kernel_rfl) (by kernel_rfl)
abbrev mV:Fs:=QV.Xf_tables_between
abbrev nO:Fn:=QV.f_tables_between
abbrev oI:DI:=⟨AX 38,["box","low","high","places","rows","columns","height","table","row","tables","i","counted"],nO,mV⟩
abbrev xG:List DI:=oI::xH
theorem lV:Rd xG:=.cons lW (by kernel_rfl) (by kernel_rfl) (by kernel_rfl)
abbrev mU:Fs:=QV.Xf_tally_between
abbrev nN:Fn:=QV.f_tally_between
abbrev oH:DI:=⟨AX 39,["box","low","high","places","total","tally"],nN,mU⟩
abbrev xF:List DI:=oH::xG
theorem lU:Rd xF:=.cons lV (by kernel_rfl) (by kernel_rfl) (by kernel_rfl)
abbrev mT:Fs:=QV.Xf_how_many_between
abbrev Kl:Fn:=QV.f_how_many_between
abbrev oG:DI:=⟨AX 41,["box","low","high"],Kl,mT⟩
abbrev xE:List DI:=oG::xF
theorem lT:Rd xE:=.cons lU (by kernel_rfl) (by kernel_rfl) (by kernel_rfl)
abbrev mH:Fs:=QV.Xb_cell_at
abbrev N9:Fn:=QV.b_cell_at
abbrev oo:DI:=⟨AX 57,["script","k"],N9,mH⟩
abbrev xt:List DI:=oo::xE
theorem lG:Rd xt:=.cons lT (by kernel_rfl) (by kernel_rfl) (by kernel_rfl)
abbrev mG:Fs:=QV.Xd_mixed
abbrev N8:Fn:=QV.d_mixed
abbrev oj:DI:=⟨AX 58,["cell","k","number"],N8,mG⟩
abbrev xr:List DI:=oj::xt
theorem lF:Rd xr:=.cons lG (by kernel_rfl) (by kernel_rfl) (by kernel_rfl)
abbrev mF:Fs:=QV.Xd_box
abbrev zc:Fn:=QV.d_box
abbrev oi:DI:=⟨AX 59,["left","rows","columns","height"],zc,mF⟩
abbrev xq:List DI:=oi::xr
theorem lE:Rd xq:=.cons lF (by kernel_rfl) (by kernel_rfl) (by kernel_rfl)
abbrev mE:Fs:=QV.Xd_pile
abbrev N7:Fn:=QV.d_pile
abbrev oh:DI:=⟨AX 60,["box","left","a","b","c","found","i","row","j","most"],N7,mE⟩
abbrev xp:List DI:=oh::xq
theorem lD:Rd xp:=.cons lE (by kernel_rfl) (by kernel_rfl) (by kernel_rfl)
abbrev b8:Fs:=QV.Xf_cubes_of
abbrev F8:Fn:=QV.f_cubes_of
abbrev D8:DI:=⟨AX 15,["box","pile","cubes","i","row","j","height"],F8,b8⟩
abbrev L8:List DI:=D8::xp
theorem k8:Rd L8:=.cons lD (by kernel_rfl) (by kernel_rfl) (by kernel_rfl)
abbrev b9:Fs:=QV.Xf_how_many_cubes
abbrev F9:Fn:=QV.f_how_many_cubes
abbrev D9:DI:=⟨AX 16,["box","pile"],F9,b9⟩
abbrev L9:List DI:=D9::L8
theorem k9:Rd L9:=.cons k8 (by kernel_rfl) (by kernel_rfl) (by kernel_rfl)
abbrev nA:Fs:=QV.Xf_is_cube_in
abbrev nZ:Fn:=QV.f_is_cube_in
abbrev pf:DI:=⟨AX 17,["box","thing"],nZ,nA⟩
abbrev za:List DI:=pf::L9
theorem mz:Rd za:=.cons k9 (by kernel_rfl) (by kernel_rfl) (by kernel_rfl)
abbrev n9:Fs:=QV.Xf_cubes_needed_by
abbrev nY:Fn:=QV.f_cubes_needed_by
abbrev pd:DI:=⟨AX 18,["cube","i","j","k","nearer"],nY,n9⟩
abbrev xZ:List DI:=pd::za
theorem my:Rd xZ:=.cons mz (by kernel_rfl) (by kernel_rfl) (by kernel_rfl)
abbrev n8:Fs:=QV.Xf_must_be_cubes_of_a_pile
abbrev nX:Fn:=QV.f_must_be_cubes_of_a_pile
abbrev pb:DI:=⟨AX 19,["box","cubes","there","cube"],nX,n8⟩
abbrev xY:List DI:=pb::xZ
theorem mx:Rd xY:=.cons my (by kernel_rfl) (by kernel_rfl) (by kernel_rfl)
abbrev n6:Fs:=QV.Xf_pile_of_cubes
abbrev zj:Fn:=QV.f_pile_of_cubes
abbrev oZ:DI:=⟨AX 20,["box","cubes","rows","columns","height","pile","i","j","k"],zj,n6⟩
abbrev xX:List DI:=oZ::xY
theorem mw:Rd xX:=.cons mx (by kernel_rfl) (by kernel_rfl) (by kernel_rfl)
abbrev mS:Fs:=QV.Xf_stairs_of
abbrev Vc:Fn:=QV.f_stairs_of
abbrev oF:DI:=⟨AX 43,["box","pile","stairs","k"],Vc,mS⟩
abbrev xD:List DI:=oF::xX
theorem lS:Rd xD:=.cons mw (by kernel_rfl) (by kernel_rfl) (by kernel_rfl)
abbrev mR:Fs:=QV.Xf_are_stairs
abbrev nM:Fn:=QV.f_are_stairs
abbrev oE:DI:=⟨AX 44,["box","thing","rows","columns","height"],nM,mR⟩
abbrev xC:List DI:=oE::xD
theorem lR:Rd xC:=.cons lS (by kernel_rfl) (by kernel_rfl) (by kernel_rfl)
abbrev mQ:Fs:=QV.Xf_pile_of_stairs
abbrev zi:Fn:=QV.f_pile_of_stairs
abbrev oD:DI:=⟨AX 45,["box","stairs","rows","columns","height","pile","i","numbers"],zi,mQ⟩
abbrev xB:List DI:=oD::xC
theorem lQ:Rd xB:=.cons lR (by kernel_rfl) (by kernel_rfl) (by kernel_rfl)
def xl:Fs:=pa7
def zh:Fn:=Ap false 2 3 xl
abbrev oC:DI:=⟨AX 47,["columns","staircase","way","reached","number"],zh,xl⟩
abbrev xA:List DI:=oC::xB
theorem lP:Rd xA:=.cons lQ (by kernel_rfl) (by kernel_rfl) (by kernel_rfl)
def xk:Fs:=(Ag (Aj false 2 (Ak Vc pa0) [0,1])
 (As (BF (Aa 2) 1 (asgN 3) AO (Ak zh (Ad pb5 (Ad (Aa 3) (Ab)))))))
def Vb:Fn:=Ap false 2 1 xk
abbrev oA:DI:=⟨AX 49,["box","pile","stairs"],Vb,xk⟩
abbrev x8:List DI:=oA::xA
theorem lN:Rd x8:=.cons lP (by kernel_rfl) (by kernel_rfl) (by kernel_rfl)
abbrev mP:Fs:=QV.Xf_staircase_of_way
abbrev nL:Fn:=QV.f_staircase_of_way
abbrev oB:DI:=⟨AX 48,["way","numbers","reached","sign"],nL,mP⟩
abbrev x9:List DI:=oB::x8
theorem lO:Rd x9:=.cons lN (by kernel_rfl) (by kernel_rfl) (by kernel_rfl)
abbrev mO:Fs:=QV.Xf_is_way
abbrev nK:Fn:=QV.f_is_way
abbrev o9:DI:=⟨AX 50,["box","thing","rows","columns","height"],nK,mO⟩
abbrev x6:List DI:=o9::x9
theorem lM:Rd x6:=.cons lO (by kernel_rfl) (by kernel_rfl) (by kernel_rfl)
abbrev mM:Fs:=QV.Xf_is_list_of_ways
abbrev nJ:Fn:=QV.f_is_list_of_ways
abbrev o8:DI:=⟨AX 51,["box","thing"],nJ,mM⟩
abbrev xy:List DI:=o8::x6
theorem lL:Rd xy:=.cons lM (by kernel_rfl) (by kernel_rfl) (by kernel_rfl)
abbrev mL:Fs:=QV.Xf_are_ways
abbrev nH:Fn:=QV.f_are_ways
abbrev o7:DI:=⟨AX 52,["box","thing"],nH,mL⟩
abbrev xx:List DI:=o7::xy
theorem lK:Rd xx:=.cons lL (by kernel_rfl) (by kernel_rfl) (by kernel_rfl)
abbrev mK:Fs:=QV.Xf_pile_of_ways
abbrev zf:Fn:=QV.f_pile_of_ways
abbrev o6:DI:=⟨AX 53,["box","ways"],zf,mK⟩
abbrev xw:List DI:=o6::xx
theorem lJ:Rd xw:=.cons lK (by kernel_rfl) (by kernel_rfl) (by kernel_rfl)
abbrev mJ:Fs:=QV.Xf_points_moved_apart
abbrev nG:Fn:=QV.f_points_moved_apart
abbrev ou:DI:=⟨AX 54,["way","k","x","y","points","sign"],nG,mJ⟩
abbrev xv:List DI:=ou::xw
theorem lI:Rd xv:=.cons lJ (by kernel_rfl) (by kernel_rfl) (by kernel_rfl)
abbrev mI:Fs:=QV.Xf_never_touch
abbrev ze:Fn:=QV.f_never_touch
abbrev oq:DI:=⟨AX 55,["box","ways","taken","k","way","point"],ze,mI⟩
abbrev xu:List DI:=oq::xv
theorem lH:Rd xu:=.cons lI (by kernel_rfl) (by kernel_rfl) (by kernel_rfl)
abbrev _root_.ph1:=Ad (Aa 0) (Ad (Aq Iy (Ad (Aa 2) (Ab))) (Ab))
abbrev _root_.pg8:=Aq BL (Ad (Aa 4) (Ad (Aa 5) (Ad (Aa 3) (Ab))))
def Qo:Fs:=(Ag (AV (bT (AZ (Ac (A1 true) (Ak zj (Ad (Aa 0) (Ad (Ak F8 pa0) (Ab)))) (Aa 1)) (Ac (A1 true) (Ak zi (Ad (Aa 0) (Ad (Ak Vc pa0) (Ab)))) (Aa 1)))) (As (bC (.bl false))) A4)
 (Ag (Aj false 2 (Ak Vb pa0) [0,1])
 (Ag (AV (bT (AZ (Ac (A1 true) (Ak zf ph1) (Aa 1)) (AL BU (Ak ze ph1)))) (As (bC (.bl false))) A4)
 (Ag (BB (asgT [3,4,5]) (Aa 0) [0])
 (Ag (Aj false 6 (Ak Hl (Ad pg8 (Ad (Ak Hl pa0) (Ab)))) [4,5,3,0,1])
 (Ag (AV (bT (AZ (Ac (A1 true) (Ak Hl (Ad (Aq BL pf0) (Ad (Aa 6) (Ab)))) (Aa 1)) (Ac (A1 true) (Ak Km (Ad (Aq BL (Ad (Aa 4) (Ad (Aa 3) (Ad (Aa 5) (Ab))))) (Ad (Ak Km pa0) (Ab)))) (Aa 1)))) (As (bC (.bl false))) A4)
 (Ag (Aj false 7 (Ak Gf pa0) [0,1])
 (Ag (Aj false 8 (Ak F9 pa0) [0,1])
 (Ag (AV (bT (AZ (Ac (A1 true) (Ak Gf (Ad (Aa 0) (Ad (Aa 7) (Ab)))) (Aa 1)) (Ac (A1 true) (Ac B0 (Ak F9 (Ad (Aa 0) (Ad (Aa 7) (Ab)))) (Aa 8)) (Ac BZ (Ac BZ (Aa 3) (Aa 4)) (Aa 5))))) (As (bC (.bl false))) A4)
 (As (Fp (Ac (A1 false) (Aa 8) (Aq FI (Ad (Ak F8 pa0) (Ab)))) (Ac (A1 false) (Ak F9 (Ad pg8 (Ad (Ak Hl pa0) (Ab)))) (Aa 8)))))))))))))
def Lv:Fn:=Ap false 2 7 Qo
abbrev og:DI:=⟨AX 61,["box","pile","ways","a","b","c","twice","rest","many"],Lv,Qo⟩
abbrev xn:List DI:=og::xu
theorem lC:Rd xn:=.cons lH (by kernel_rfl) (by kernel_rfl) (by kernel_rfl)
abbrev _root_.pe8:=Ad (Aa 1) (Ad (Ac AQ (Aa 8) (bC (.int 0))) (Ad (Ac AQ (Aa 8) (bC (.int 1))) (Ab)))
abbrev _root_.ph7:=Ak Gf (Ad (Aa 1) (Ad (Aa 10) (Ab)))
abbrev _root_.ph4:=Ad (Aa 1) (Ad (Aa 9) (Ad (Aa 10) (Ab)))
def Qn:Fs:=(Ag (Aj false 1 (Ak zc (Ad (Ak N8 (Ad (Ak N9 (Ad (Aa 0) (Ad (bC (.int 0)) (Ab)))) (Ad (bC (.int 0)) (Ab)))) (Ad (bC (.int 4)) (Ad (bC (.int 4)) (Ad (bC (.int 4)) (Ab)))))) [0])
 (Ag (Aj false 2 (Ak N7 (Ad (Aa 1) (Ad (Ak N8 (Ad (Ak N9 (Ad (Aa 0) (Ad (bC (.int 1)) (Ab)))) (Ad (bC (.int 1)) (Ab)))) (Ab)))) [1,0])
 (Ag (Aj false 3 (Ak N7 (Ad (Aa 1) (Ad (Ak N8 (Ad (Ak N9 (Ad (Aa 0) (Ad (bC (.int 2)) (Ab)))) (Ad (bC (.int 2)) (Ab)))) (Ab)))) [1,0])
 (Ag (AV (bT (AZ (AL BU (Ak Lv pa4)) (AL BU (Ak Lv pb7)))) (As (bC (.bl false))) A4)
 (Ag (BB (asgT [4,5,6]) (Aa 1) [1])
 (Ag (Aj false 7 (Ak Hk (Ad (Aa 1) pa5)) [1,2,3])
 (Ag (AV (bT (Ac (A1 true) (Ak Hk (Ad (Aq BL (Ad (Aa 5) (Ad (Aa 4) (Ad (Aa 6) (Ab))))) (Ad (Ak Km pa4) (Ad (Ak Km pb7) (Ab))))) (Aa 7))) (As (bC (.bl false))) A4)
 (Ag (AV (bT (Ac (A1 true) (Ak Hk (Ad (Aq BL (Ad (Aa 5) (Ad (Aa 6) (Ad (Aa 4) (Ab))))) (Ad (Ak Hl pa4) (Ad (Ak Hl pb7) (Ab))))) (Aa 7))) (As (bC (.bl false))) A4)
 (Ag (Aj false 8 (Aq BL (Ad (Ak Gf pa4) (Ad (Ak Gf pb7) (Ab)))) [1,2,1,3])
 (Ag (AV (bT (Ac (A1 true) (Ak Hk pe8) (Aa 7))) (As (bC (.bl false))) A4)
 (Ag (Aj false 9 (Ak Ly (Ad (Aa 1) pa5)) [1,2,3])
 (Ag (Aj false 10 (Ak Vd (Ad (Aa 1) pa5)) [1,2,3])
 (Ag (AV (bT (Ac (A1 true) (Ac B0 (Ak Hk (Ad (Aa 1) (Ad (Aa 2) (Ad (Aa 9) (Ab))))) (Ak Hk (Ad (Aa 1) (Ad (Aa 9) (Ad (Aa 3) (Ab)))))) (Aa 7))) (As (bC (.bl false))) A4)
 (Ag (AV (bT (Ac (A1 true) (Ac B0 (Ak Hk (Ad (Aa 1) (Ad (Aa 2) (Ad (Aa 10) (Ab))))) (Ak Hk (Ad (Aa 1) (Ad (Aa 10) (Ad (Aa 3) (Ab)))))) (Aa 7))) (As (bC (.bl false))) A4)
 (Ag (AV (bT (AZ (Ac (A1 true) ph7 (Ak Ly pe8)) (AL BU (Ak Il ph4)))) (As (bC (.bl false))) A4)
 (Ag (AV (bT (AZ (Ac (A1 true) (Ak Il (Ad (Aa 1) pa5)) (Ac (A1 false) (Aa 9) (Aa 2))) (Ac (A1 true) (Ak Il (Ad (Aa 1) pa5)) (Ac (A1 false) (Aa 10) (Aa 3))))) (As (bC (.bl false))) A4)
 (As (Ac (A1 false) (Ak Kl ph4) (Ak Kl (Ad (Aa 1) (Ad ph7 (Ad (Ak Gf (Ad (Aa 1) (Ad (Aa 9) (Ab)))) (Ab)))))))))))))))))))))))
def zb:Fn:=Ap false 1 10 Qn
abbrev oa:DI:=⟨AX 62,["script","box","pile","other","a","b","c","many","rests","low","high"],zb,Qn⟩
abbrev nE:List DI:=oa::xn
theorem k49:Rd nE:=.cons lC (by kernel_rfl) (by kernel_rfl) (by kernel_rfl)
end K67
namespace QV
open PySem PySem.Spec PyProof.Rows L2 QQ
def ab (i:Int):Int:=if i < 0 then -i else i
def Bq (a b:Nat) (t u:List (List Int)):Int:=((DJ a b).map λ z=>ab (g t z.1 z.2 - g u z.1 z.2)).sum
def Bz (t u:List (List Int)):List (List Int):=zT (λ i j=>if j < i then j else i) t u
def DQ (t u:List (List Int)):List (List Int):=zT (λ i j=>if j > i then j else i) t u
section
variable {a b c:Nat}{t u v l:List (List Int)}
theorem Oq (ht:Tab a b t) (hu:Tab a b u) {x y:Nat} (hx:x < a) (hy:y < b):g (Bz t u) x y=if g u x y < g t x y then g u x y else g t x y:=by
 unfold Bz;rw [Jr ht hu,E5 hx hy]
theorem gF (p:Pile a b c t) (q:Pile a b c u):Pile a b c (Bz t u):=Y1 _ (λ i j k m h1 h2=>by split <;> split <;> omega) (λ i j=>by split <;> simp) p q
theorem Mv {f h k:Nat×Nat->Int}:∀ {L:List (Nat×Nat)},(∀ z∈L,f z + h z=k z)->(L.map f).sum + (L.map h).sum=(L.map k).sum
 | [],_=>rfl
 | z::L,e=>by
  have:=Mv (L:=L) λ y hy=>e y (AE _ hy)
  have:=e z AD
  rw [AR,AR,AR,DP,DP,DP];omega
theorem zS (p:Pile a b c t) (q:Pile a b c u) {x y:Nat} (hx:x < a) (hy:y < b):0<=ab (g t x y - g u x y)/\ab (g t x y - g u x y)<=c:=by
 have:=p.lo x y hx hy
 have:=p.hi x y hx hy
 have:=q.lo x y hx hy
 have:=q.hi x y hx hy
 unfold ab;split <;> (clear hy hx;omega)
theorem UP (ha:a<=30) (hb:b<=30):(DJ a b).length<=900:=by
 rw [Qq];exact IU ha hb
theorem jZ (p:Pile a b c t) (q:Pile a b c u) (ha:1<=a/\a<=30) (hb:1<=b/\b<=30) (hc:1<=c/\c<=1000):f_fewest_moved [bx a b c,tb t,tb u]=.ok (.int (Bq a b t u),om,.non):=by
 have z:=sz;let R:Af:=[some (bx a b c,0),some (tb t,0),some (tb u,0)]
 have s1:Bv (Ak f_must_be_two_piles (Ad (Aa 0) pa4)) R=.nx R:=DH (AJ (xs:=[(bx a b c,0),(tb t,0),(tb u,0)]) rfl (Qy p q ha hb hc));obtain ⟨d,_,hp⟩:=ZJ (c:=c) (a:=a) (b:=b) (by (clear z hc hb;omega)) (by (clear z hc ha;omega));have hl:=UP ha.2 hb.2;have e1:=WM (k:=2) (f:=Ak f_places_of (Ad (Aa 0) (Ab))) (asg:=asgT [3,4]) (test:=AO) (elt:=Aq MA (Ad (Ac Dl pd3 pd4) (Ab))) (enc:=pr) (q:=λ z=>.int (ab (g t z.1 z.2 - g u z.1 z.2))) (E:=λ z=>[some (.int (z.1:Int),om),some (.int (z.2:Int),om)]) (p:=λ _=>true) (ρ:=R) (DJ a b) (AJ (xs:=[(bx a b c,0)]) rfl hp) (λ _ _=>rfl) (λ _ _=>rfl)
  (λ z hz _=>CO (BE (Hq (KD (i:=z.1) (j:=z.2) p.tab (d:=0) rfl rfl rfl (zqr.mp hz).1 (zqr.mp hz).2) (KD (i:=z.1) (j:=z.2) q.tab (d:=0) rfl rfl rfl (zqr.mp hz).1 (zqr.mp hz).2))) rfl) (by (clear hc hb ha;omega))
 rw [V5] at e1;have e2:PV.lst ((DJ a b).map λ z=>.int (ab (g t z.1 z.2 - g u z.1 z.2)))=il ((DJ a b).map λ z=>ab (g t z.1 z.2 - g u z.1 z.2)):=by
  unfold il;rw [BC];rfl
 rw [e2] at e1;refine Bg rfl ((A3 s1).trans (Ci (MO (BE e1) (O4 (by rw [Ax];(clear z hc hb ha;omega)) λ x hx=>?_))));obtain ⟨z,hz,rfl⟩:=jc4.mp hx;obtain ⟨h1,h2⟩:=zqr.mp hz
 have:=zS p q h1 h2
 (clear h2 h1 hl hb ha;omega)
theorem Jh:∀ a:Nat,Bq a b t u=((An a).map λ i=>((An b).map λ j=>ab (g t i j - g u i j)).sum).sum
 | 0=>rfl
 | a + 1=>by
  have:=Jh a
  unfold Bq at this ⊢;rw [VU,B5,Ff,this,CD,B5,Ff,BC];simp [Function.comp_def]
theorem Xh (f:Int->Int->Int) (hf:∀ i j,ab (i - f i j) + ab (f i j - j)=ab (i - j)) (ht:Tab a b t) (hu:Tab a b u):Bq a b t (zT f t u) + Bq a b (zT f t u) u=Bq a b t u:=by
 unfold Bq;refine Mv λ z hz=>?_;obtain ⟨h1,h2⟩:=zqr.mp hz;rw [Jr ht hu,E5 h1 h2];exact hf _ _
theorem GP {f h:Nat->Int}{n:Nat} (e:∀ i,i < n->f i=h i):((An n).map f).sum=((An n).map h).sum:=by
 rw [GB λ i hi=>e i (jc2.mp hi)]
theorem gS (ht:Tab a b t) (hu:Tab a b u):Bq b a (BX t b) (BX u b)=Bq a b t u:=by
 rw [Jh,Jh,O6 b a];refine GP λ j hj=>GP λ i hi=>?_;rw [Gi ht hi hj,Gi hu hi hj]
theorem Rb {f:Nat->Int}:∀ n:Nat,((An n).map λ i=>f (n - 1 - i)).sum=((An n).map f).sum
 | 0=>rfl
 | n + 1=>by
  have k:=Rb (f:=f) n
  conv=>lhs;rw [qP]
  rw [AR,DP,BC,CD,B5,Ff,<- k];have e:((An n).map ((λ i=>f (n + 1 - 1 - i)) ∘ Nat.succ))=(An n).map λ i=>f (n - 1 - i):=GB λ i hi=>by
   show f (n + 1 - 1 - (i + 1))=_;congr 1;omega
  rw [e,AR,Hf,DP,Nc];show f n + _=_;omega
theorem dP (ht:Tab a b t) (hu:Tab a b u):Bq a b (B6 t c) (B6 u c)=Bq a b t u:=by
 rw [Jh,Jh,<- Rb a];refine GP λ i hi=>?_;rw [<- Rb b];refine GP λ j hj=>?_;rw [En ht (i:=a - 1 - i) (j:=b - 1 - j) (by omega) (by omega),En hu (i:=a - 1 - i) (j:=b - 1 - j) (by omega) (by omega),show a - 1 - (a - 1 - i)=i by omega,show b - 1 - (b - 1 - j)=j by omega];unfold ab;split <;> split <;> (clear hj hi;omega)
theorem Yn {f h:Nat->Int} (n:Nat):((An n).map λ k=>f k - h k).sum=((An n).map f).sum - ((An n).map h).sum:=by
 have:=LI (f:=λ k=>f k - h k) (h:=h) n
 rw [show ((An n).map λ k=>f k - h k + h k)=(An n).map f from GB λ k _=>by omega] at this;omega
theorem Ym {x y:Int}{n:Nat} (hx:0<=x/\x<=n) (hy:0<=y/\y<=n):((An n).map λ (k:Nat)=>ab ((if (k:Int) < x then (1:Int) else 0) - if (k:Int) < y then (1:Int) else 0)).sum=ab (x - y):=by
 have k1:=MN x n hx.1 hx.2;have k2:=MN y n hy.1 hy.2;by_cases h:x < y
 ·rw [GP (h:=λ (k:Nat)=>(if (k:Int) < y then (1:Int) else 0) - if (k:Int) < x then (1:Int) else 0) λ k _=>by unfold ab;split <;> split <;> split <;> (clear k2 k1 hy hx;omega),Yn,k1,k2];unfold ab;split <;> (clear k2 k1 hy hx;omega)
 ·rw [GP (h:=λ (k:Nat)=>(if (k:Int) < x then (1:Int) else 0) - if (k:Int) < y then (1:Int) else 0) λ k _=>by unfold ab;split <;> split <;> split <;> (clear k2 k1 hy hx;omega),Yn,k1,k2];unfold ab;split <;> (clear k2 k1 hy hx;omega)
theorem gT (p:Pile a b c t) (q:Pile a b c u):Bq b c (AA t b c) (AA u b c)=Bq a b t u:=by
 have p1:=Hn p;have q1:=Hn q;rw [Jh,Jh,O6 b a];refine GP λ j hj=>?_;have e1:((An c).map λ k=>ab (g (AA t b c) j k - g (AA u b c) j k)).sum=((An c).map λ (k:Nat)=>((An a).map λ (i:Nat)=>ab ((if (k:Int) < g t i j then (1:Int) else 0) - if (k:Int) < g u i j then (1:Int) else 0)).sum).sum:=GP λ k hk=>by
  rw [<- Ym (n:=a) ⟨p1.lo j k hj hk,p1.hi j k hj hk⟩ ⟨q1.lo j k hj hk,q1.hi j k hj hk⟩];refine GP λ i hi=>?_;have m1:=SS p hi hj hk;have m2:=SS q hi hj hk;simp only [m1,m2]
 rw [e1,O6 a c];refine GP λ i hi=>?_;exact Ym (n:=c) ⟨p.lo i j hi hj,p.hi i j hi hj⟩ ⟨q.lo i j hi hj,q.hi i j hi hj⟩
theorem yN (p:Pile a b c t) (q:Pile a b c u):Pile a b c (DQ t u):=Y1 _ (λ i j k m h1 h2=>by split <;> split <;> omega) (λ i j=>by split <;> simp) p q
theorem u9 (p:Pile a b c t) (q:Pile a b c u):Bq a b t (Bz t u) + Bq a b (Bz t u) u=Bq a b t u:=Xh _ (λ i j=>by unfold ab;(repeat split) <;> omega) p.tab q.tab
theorem yd (p:Pile a b c t) (q:Pile a b c u):Bq a b t (DQ t u) + Bq a b (DQ t u) u=Bq a b t u:=Xh _ (λ i j=>by unfold ab;(repeat split) <;> omega) p.tab q.tab
theorem P1 (ht:Tab a b t) (hu:Tab a b u) {x y:Nat} (hx:x < a) (hy:y < b):g (DQ t u) x y=if g u x y > g t x y then g u x y else g t x y:=by
 unfold DQ;rw [Jr ht hu,E5 hx hy]
theorem Yb (ht:Tab a b t) (hu:Tab a b u):Tab a b (Bz t u):=PD ht hu
theorem S9 (ht:Tab a b t) (hu:Tab a b u):Tab a b (DQ t u):=PD ht hu
theorem qh6:IS a b t u=true↔∀ i j,i < a->j < b->g t i j<=g u i j:=by
 unfold IS;rw [jb3];exact ⟨λ h i j hi hj=>of_decide_eq_true (h (i,j) (zqr.mpr ⟨hi,hj⟩)),λ h z hz=>decide_eq_true (h z.1 z.2 (zqr.mp hz).1 (zqr.mp hz).2)⟩
theorem kI (ht:Tab a b t) (hu:Tab a b u):decide (Bz t u=t)=IS a b t u:=by
 rw [Ed,qh6,decide_eq_true_iff];constructor
 ·intro e i j hi hj
  have:=Oq ht hu hi hj
  rw [e] at this;split at this <;> (clear hj hi;omega)
 ·intro h;refine Gh (Yb ht hu) ht λ i j hi hj=>?_
  have:=h i j hi hj
  rw [Oq ht hu hi hj];split <;> (clear hj hi;omega)
theorem jk (ht:Tab a b t) (hu:Tab a b u):decide (DQ t u=u)=IS a b t u:=by
 rw [Ed,qh6,decide_eq_true_iff];constructor
 ·intro e i j hi hj
  have:=P1 ht hu hi hj
  rw [e] at this;split at this <;> (clear hj hi;omega)
 ·intro h;refine Gh (S9 ht hu) hu λ i j hi hj=>?_
  have:=h i j hi hj
  rw [P1 ht hu hi hj];split <;> (clear hj hi;omega)
theorem ua (ht:Tab a b t) (hu:Tab a b u) (ha:1<=a) (hb:1<=b) {k:Int}:B6 (DQ t u) k=Bz (B6 t k) (B6 u k):=Gh (Hu (S9 ht hu)) (Yb (Hu ht) (Hu hu)) λ i j hi hj=>by
 rw [En (S9 ht hu) hi hj,Oq (Hu ht) (Hu hu) hi hj,En ht hi hj,En hu hi hj,P1 ht hu (by (clear hj hi hb;omega)) (by (clear hj hi ha;omega))];split <;> split <;> (clear hj hi hb ha;omega)
end
end QV
namespace K67
open PySem PySem.Spec PyProof.Rows L2 QQ QV
section
variable {a b c:Nat}{t u low high:List (List Int)}
def DV (b c:Nat) (t:List (List Int)):List (List Bool):=(Bh t c).map (Cb b)
theorem yf (p:Pile a b c t):∀ w∈DV b c t,Wd a b w:=λ w hw=>by
 obtain ⟨s,hs,rfl⟩:=jc4.mp hw;obtain ⟨h1,h2⟩:=Qx p hs;exact ⟨by rw [Xj];exact h2,Xk h1⟩
theorem uC:(DV b c t).length=c:=by unfold DV;rw [Ax];unfold Bh;rw [Ax,CF]
theorem uk {s:List Int} (h:StR b s):CS (Cb b s)=s:=by
 unfold CS Cb;rw [XW h.rise];unfold Fz;rw [<- JR,List.reverse_reverse,BC];refine (GB λ x hx=>?_).trans (qb _)
 have:=(h.2 x hx).1
 show ((x.toNat:Nat):Int)=x;omega
theorem SY (p:Pile a b c t):(DV b c t).map CS=Bh t c:=by
 unfold DV;rw [BC];refine (GB λ s hs=>?_).trans (qb _);exact uk (Qx p hs).1
theorem WH (p:Pile a b c t):EW (Bh t c) a b=t:=by
 show AA (Bh t c) a b=t;rw [<- T3 p,J7 p]
theorem WU {α β:Type} [BEq β] [LawfulBEq β] {f:α->β}:∀ {l:List α}{m:List β},l.Pairwise (·≠·)->(∀ x∈l,f x∈m)->(∀ x∈l,∀ y∈l,f x=f y->x=y)->l.length<=m.length
 | [],_,_,_,_=>FC _
 | x::l,m,hn,hm,hi=>by
  have h1:=hm x AD;have hn':=jf6.mp hn
  have:=WU (l:=l) (m:=m.erase (f x)) hn'.2 (λ y hy=>(List.mem_erase_of_ne λ e=>hn'.1 y hy (hi y (AE _ hy) x AD e).symm).mpr (hm y (AE _ hy))) λ y hy z hz=>hi y (AE _ hy) z (AE _ hz)
  have h2:=List.length_erase_of_mem h1;have h3:=List.length_pos_of_mem h1;rw [AY];omega
def PB (a b c:Nat) (low high:List (List Int)):List (List (List Int)):=Ct (g low) (g high) c b a
theorem zP (p:Pile a b c low) (q:Pile a b c high) (ht:Pile a b c t) (h:∀ i j,i < a->j < b->g low i j<=g t i j/\g t i j<=g high i j):t∈PB a b c low high:=by
 have e:=Ve (lo:=g t) (hi:=g t) (lo':=g low) (hi':=g high) (c:=(c:Int)) (b:=b) (λ i j=>by
  by_cases hh:i < a/\j < b
  ·exact (h i j hh.1 hh.2).1
  ·rw [M5 p.tab hh,M5 ht.tab hh];exact EH _) (λ i j=>by
  by_cases hh:i < a/\j < b
  ·exact (h i j hh.1 hh.2).2
  ·rw [M5 q.tab hh,M5 ht.tab hh];exact EH _) a
 obtain ⟨r,e2⟩:=VS (lo:=g t) (hi:=g t) (c:=(c:Int)) (b:=b) a (λ _ _ _ _=>EH _) ht.hi ht.dn ht.rt;have e3:FA a b (g t)=t:=Gh LG ht.tab λ i j hi hj=>E5 hi hj;have m:t∈Ct (g t) (g t) c b a:=by rw [e2,e3];exact AD
 rw [<- e] at m;exact (jh4.mp m).1
theorem Yc (p:Pile a b c low) (q:Pile a b c high):(PB a b c low high).length<=(PB a b c (B6 high c) (B6 low c)).length:=by
 have ps:∀ t∈PB a b c low high,Pile a b c t:=λ t h=>ly (λ i j=>m6 p i j) h;refine WU (f:=λ t=>B6 t c) (ZI a) (λ t ht=>?_) λ t ht u hu e=>?_
 ·have pt:=ps t ht;refine zP (EV q) (EV p) (EV pt) λ i j hi hj=>?_;rw [En p.tab hi hj,En q.tab hi hj,En pt.tab hi hj]
  have:=(Od ht).2.1 (a - 1 - i) (b - 1 - j) (by omega) (by omega)
  (clear hj hi;omega)
 ·rw [<- LU (c:=(c:Int)) (ps t ht).tab,<- LU (c:=(c:Int)) (ps u hu).tab];exact congrArg (λ t=>B6 t (c:Int)) e
theorem bq (p:Pile a b c low) (q:Pile a b c high):(PB a b c (B6 high c) (B6 low c)).length=(PB a b c low high).length:=by
 refine Nat.le_antisymm ?_ (Yc p q)
 have:=Yc (EV q) (EV p)
 rwa [LU p.tab,LU q.tab] at this
theorem dks:((An 4).all λ b=>(An 4).all λ c=>Nv (b + 1) (c + 1))=true:=by kernel_rfl
structure B4 (a b c:Nat):Prop where
 a:1<=a/\a<=4
 b:1<=b/\b<=4
 c:1<=c/\c<=4
theorem B4.N (h:B4 a b c):BoxN a b c:=by
 have h1:=h.a;have h2:=h.b;have h3:=h.c;have hd:Nv b c=true:=by
  have:=jb3.mp (jb3.mp dks (b - 1) (jc2.mpr (by (clear h3 h1;omega)))) (c - 1) (jc2.mpr (by (clear h2 h1;omega)))
  rwa [show b - 1 + 1=b by (clear h3 h1;omega),show c - 1 + 1=c by (clear h2 h1;omega)] at this
 refine ⟨jP (by (clear h3 h2;omega)) (by (clear h3 h1;omega)) (by (clear h2 h1;omega)) hd,h3.1,?_,by omega⟩;have e3:(AF b c).length ^ (a + 1)<=128 ^ (a + 1):=qF ?_ _
 ·have e4:128 ^ (a + 1)<=128 ^ 5:=qK (by (clear e3 h3 h2 h1;omega)) (by (clear e3 h3 h2;omega));exact BD e3 (BD e4 (by decide))
 ·have l4:((An 4).all λ b=>(An 4).all λ c=>decide ((AF (b + 1) ((c + 1:Nat):Int)).length<=128))=true:=by kernel_rfl
  have:=of_decide_eq_true (jb3.mp (jb3.mp l4 (b - 1) (jc2.mpr (by (clear h3 h1;omega)))) (c - 1) (jc2.mpr (by (clear h2 h1;omega))))
  rwa [show b - 1 + 1=b by (clear this h3 h1;omega),show c - 1 + 1=c by (clear this h2 h1;omega)] at this
end
section
variable {a b c:Nat}{t u:List (List Int)}{ρ:Af}
theorem JI {f h:Fx}{d e:Nat} (h1:f ρ=.ok (tb t,d,ρ)) (h2:h ρ=.ok (tb t,e,ρ)):Ac (A1 true) f h ρ=.ok (.bl false,om,ρ):=by
 have:=Sk (neg:=true) h1 h2
 rwa [decide_eq_true rfl] at this
theorem Lj {f h:Fx}{i j:Int}{d e:Nat} (h1:f ρ=.ok (.int i,d,ρ)) (h2:h ρ=.ok (.int j,e,ρ)) (hi:i=j):Ac (A1 true) f h ρ=.ok (.bl false,om,ρ):=by
 have:=Gp (neg:=true) h1 h2
 rwa [decide_eq_true hi] at this
theorem PH {f:Fx}{d:Nat} (h:f ρ=.ok (.bl true,d,ρ)):AL BU f ρ=.ok (.bl false,om,ρ):=Gr h
theorem JF {f h:Fx} (h1:f ρ=.ok (.bl false,om,ρ)) (h2:h ρ=.ok (.bl false,om,ρ)):bT (AZ f h) ρ=.ok (false,ρ):=AK ((ZZ h1).trans h2)
theorem BS {F:Fn}{f h:Fx}{x y r z:PV}{d e k:Nat} (h1:f ρ=.ok (x,d,ρ)) (h2:h ρ=.ok (y,e,ρ)) (hF:F [x,y]=.ok (r,k,z)):Ak F (Ad f (Ad h Ab)) ρ=.ok (r,k,ρ):=AJ (Cu h1 (BE h2)) hF
theorem Ey {F:Fn}{f h l:Fx}{x y w r z:PV}{d e m k:Nat} (h1:f ρ=.ok (x,d,ρ)) (h2:h ρ=.ok (y,e,ρ)) (h3:l ρ=.ok (w,m,ρ)) (hF:F [x,y,w]=.ok (r,k,z)):Ak F (Ad f (Ad h (Ad l Ab))) ρ=.ok (r,k,ρ):=AJ (Cu h1 (Cu h2 (BE h3))) hF
theorem KZ {f h l:Fx}{x y w:Nat} (h1:f ρ=.ok (.int (x:Int),om,ρ)) (h2:h ρ=.ok (.int (y:Int),om,ρ)) (h3:l ρ=.ok (.int (w:Int),om,ρ)):Aq BL (Ad f (Ad h (Ad l Ab))) ρ=.ok (bx x y w,om,ρ):=CO (Cu h1 (Cu h2 (BE h3))) rfl
def Fb (a b c:Nat) (t:List (List Int)) (s2 s3 s4 s5 s6 s7 s8:Option PV):List (Option PV):=[some (bx a b c),some (tb t),s2,s3,s4,s5,s6,s7,s8]
theorem X0 (B:B4 a b c) (p:Pile a b c t):∃ d z,Lv [bx a b c,tb t]=.ok (.bl true,d,z):=by
 have ha:=B.a;have hb:=B.b;have hc:=B.c;have z:=sz;refine Gv.fn (np:=2) (k:=7) (b:=Qo) rfl (show Gv Qo [some (bx a b c,0),some (tb t,0),none,none,none,none,none,none,none] _ from ?_);have h0:HV (Fb a b c t none none none none none none none) [] [some (bx a b c,0),some (tb t,0),none,none,none,none,none,none,none]:=HV.of [some (bx a b c,0),some (tb t,0),none,none,none,none,none,none,none];obtain ⟨dc,_,kc⟩:=gR p (by (clear z hc hb;omega)) (by (clear z hc ha;omega)) (by (clear z hb ha;omega));have hl:(BV t a b).length<=64:=BD (Rj p (A5 a)) (BD (IU ha.2 (IU hb.2 hc.2)) (by decide));have sp:=(Gj p.tab).mpr p;have s1:=ZO p.tab (by (clear hl z hc hb;omega)) (by (clear hl z hc ha;omega)) (by (clear hl z hb ha;omega)) sp;have pss:=NQ p;have sps:=(Gj pss.tab).mpr pss;have s2:=Vn pss.tab (by (clear hl z hc hb;omega)) (by (clear hl z hc ha;omega)) (by (clear hl z hb ha;omega)) sps;rw [WH p] at s2;refine Gv.no (JF (JI (BS (h0.var rfl) (BS (h0.var rfl) (h0.var rfl) kc) (vf p (by (clear hl z hc hb;omega)) (by (clear hl z hc ha;omega)) hc.1 (λ _=>Iff.rfl) (by (clear z hc hb ha;omega)))) (h0.var rfl)) (JI (BS (h0.var rfl) (BS (h0.var rfl) (h0.var rfl) s1) s2) (h0.var rfl))) ?_;have w1:=uB p (by (clear hl z hc hb;omega)) (by (clear hl z hc ha;omega)) (by (clear hl z hb ha;omega));have ew:PV.lst ((Bh t c).map λ s=>wd (Cb b s))=wl (DV b c t):=by unfold wl DV;rw [BC];rfl
 rw [ew] at w1;refine Gv.ex (h0.setO (x:=wl (DV b c t)) (BS (F:=Vb) (h0.var rfl) (h0.var rfl) w1) (show 2 < 9 by decide)) λ ρ1 (h1:HV (Fb a b c t (some (wl (DV b c t))) none none none none none none) [] ρ1)=>?_;have wd:=yf p;have wln:(DV b c t).length=c:=uC;have k1:=vg (c:=c) wd wln (by (clear wln hl z hc hb;omega)) (by (clear wln hl z hc ha;omega)) (by (clear wln hl z hb ha;omega)) (by rw [SY p];exact sps);rw [SY p,WH p] at k1;have k2:=dS (c:=c) wd (by (clear hl z hb ha;omega)) (by (clear wln hl z hc hb;omega)) (by (clear wln hl z hc ha;omega)) (by (clear wln hl z hb ha;omega));rw [fW wd wln,SY p,sps] at k2;have kl:Aq Iy (Ad (Aa 2) Ab) ρ1=.ok (wl (DV b c t),d1 ((DV b c t).map QV.wd),ρ1):=CO (BE (h1.var (x:=wl (DV b c t)) rfl)) rfl;refine Gv.no (JF (JI (BS (h1.var rfl) kl k1) (h1.var rfl)) (PH (BS (h1.var rfl) kl k2))) ?_;refine Gv.ex (h1.unp3 (h1.var rfl) (show 3 < 9 by decide) (show 4 < 9 by decide) (show 5 < 9 by decide)) λ ρ2 (h2:HV (Fb a b c t (some (wl (DV b c t))) (some (.int (a:Int))) (some (.int (b:Int))) (some (.int (c:Int))) none none none) [] ρ2)=>?_;have pr:=Hn p;have prr:=Hn pr;have r1:=MM p (by (clear wln hl z hc hb;omega)) (by (clear wln hl z hc ha;omega)) (by (clear wln hl z hb ha;omega));have r2:=MM pr (by (clear wln hl z hc ha;omega)) (by (clear wln hl z hb ha;omega)) (by (clear wln hl z hc hb;omega));have r3:=MM prr (by (clear wln hl z hb ha;omega)) (by (clear wln hl z hc hb;omega)) (by (clear wln hl z hc ha;omega));rw [J7 p] at r3;refine Gv.ex (h2.setO (x:=tb (AA (AA t b c) c a)) (BS (KZ (h2.var rfl) (h2.var rfl) (h2.var rfl)) (BS (h2.var rfl) (h2.var rfl) r1) r2) (show 6 < 9 by decide)) λ ρ3 (h3:HV (Fb a b c t (some (wl (DV b c t))) (some (.int (a:Int))) (some (.int (b:Int))) (some (.int (c:Int))) (some (tb (AA (AA t b c) c a))) none none) [] ρ3)=>?_;have m1:=P9 p (by (clear wln hl z hc hb;omega)) (by (clear wln hl z hc ha;omega)) hc.1;have m2:=P9 (LZ p) (by (clear wln hl z hc ha;omega)) (by (clear wln hl z hc hb;omega)) hc.1;rw [y3 p.tab] at m2;refine Gv.no (JF (JI (BS (KZ (h3.var rfl) (h3.var rfl) (h3.var rfl)) (h3.var rfl) r3) (h3.var rfl)) (JI (BS (KZ (h3.var rfl) (h3.var rfl) (h3.var rfl)) (BS (h3.var rfl) (h3.var rfl) m1) m2) (h3.var rfl))) ?_;have q1:=K3 p (by (clear wln hl z hc hb;omega)) (by (clear wln hl z hc ha;omega)) hc.1;have po:=EV p;have q2:=K3 po (by (clear wln hl z hc hb;omega)) (by (clear wln hl z hc ha;omega)) hc.1;rw [LU p.tab] at q2;refine Gv.ex (h3.setO (x:=tb (B6 t c)) (BS (h3.var rfl) (h3.var rfl) q1) (show 7 < 9 by decide)) λ ρ4 (h4:HV (Fb a b c t (some (wl (DV b c t))) (some (.int (a:Int))) (some (.int (b:Int))) (some (.int (c:Int))) (some (tb (AA (AA t b c) c a))) (some (tb (B6 t c))) none) [] ρ4)=>?_;let m:Int:=((BV t a b).length:Nat)
 have n1:=Tp p (by (clear wln hl z hc hb;omega)) (by (clear wln hl z hc ha;omega)) (by (clear wln hl z hb ha;omega));have n2:=Tp pr (by (clear wln hl z hc ha;omega)) (by (clear wln hl z hb ha;omega)) (by (clear wln hl z hc hb;omega));have n3:=Tp po (by (clear wln hl z hc hb;omega)) (by (clear wln hl z hc ha;omega)) (by (clear wln hl z hb ha;omega));have cm:=Oh p;have cm2:=Oh pr;have cm3:=Oh po;have e2:(((BV (AA t b c) b c).length:Nat):Int)=m:=by show _=(((BV t a b).length:Nat):Int);rw [cm,cm2];exact um p
 have e3:(((BV (B6 t c) a b).length:Nat):Int)=(a:Int) * b * c - m:=by
  show _=_ - (((BV t a b).length:Nat):Int);rw [cm,cm3,Int.mul_assoc];exact bz p.tab
 refine Gv.ex (h4.setO (x:=.int m) (BS (h4.var rfl) (h4.var rfl) n1) (show 8 < 9 by decide)) λ ρ5 (h5:HV (Fb a b c t (some (wl (DV b c t))) (some (.int (a:Int))) (some (.int (b:Int))) (some (.int (c:Int))) (some (tb (AA (AA t b c) c a))) (some (tb (B6 t c))) (some (.int m))) [] ρ5)=>?_;have mu:=FQ (FQ (f:=Aa 3) (g:=Aa 4) (ρ:=ρ5) (i:=(a:Int)) (j:=(b:Int)) (h5.var rfl) (h5.var rfl) (.inl (by (clear e3 e2 cm3 cm2 cm wln hl z hc hb;omega)))) (g:=Aa 5) (j:=(c:Int)) (h5.var rfl) (.inr (by (clear e3 e2 cm3 cm2 cm wln hl z hb ha;omega)));refine Gv.no (JF (JI (BS (h5.var rfl) (h5.var rfl) q2) (h5.var rfl)) (Lj (Ez (BS (h5.var rfl) (h5.var rfl) n3) (h5.var (j:=8) (x:=.int m) rfl)) mu (by rw [e3];(clear e3 e2 cm3 cm2 cm wln hl z hc hb ha;omega)))) ?_;have l1:Aq FI (Ad (Ak F8 (Ad (Aa 0) (Ad (Aa 1) Ab))) Ab) ρ5=.ok (.int m,om,ρ5):=CO (BE (BS (h5.var rfl) (h5.var rfl) kc)) (by
  show some (PV.int ((((BV t a b).map c3).length:Nat):Int),om)=_;rw [Ax])
 have x1:=Gp (neg:=false) (h5.var (j:=8) (x:=.int m) rfl) l1;rw [decide_eq_true rfl] at x1;have x2:=Gp (neg:=false) (BS (F:=F9) (KZ (h5.var (j:=4) rfl) (h5.var (j:=5) rfl) (h5.var (j:=3) rfl)) (BS (F:=Hl) (h5.var (j:=0) rfl) (h5.var (j:=1) rfl) r1) n2) (h5.var (j:=8) (x:=.int m) rfl);rw [decide_eq_true e2] at x2;exact Gv.ret (MD x1 (λ _=>x2) rfl)
end
def Fr (ns:List Int) (s1 s2 s3 s4 s5 s6 s7 s8 s9 s10:Option PV):List (Option PV):=[some (.scr ns),s1,s2,s3,s4,s5,s6,s7,s8,s9,s10]
theorem xf {ρ:Af}{f h:Fx}{w:Bool} (h1:f ρ=.ok (.bl w,om,ρ)) (h2:h ρ=.ok (.bl w,om,ρ)):Ac (A1 true) f h ρ=.ok (.bl false,om,ρ):=Cr h1 h2 (by cases w <;> rfl)
theorem law_true:∀ ns:List Int,ns.length<=63->∃ d z,zb [.scr ns]=.ok (.bl true,d,z):=by
 intro ns hns;have z:=sz;refine Gv.fn (np:=1) (k:=10) (b:=Qn) rfl (show Gv Qn [some (.scr ns,om),none,none,none,none,none,none,none,none,none,none] _ from ?_);have h0:HV (Fr ns none none none none none none none none none none) [] [some (.scr ns,om),none,none,none,none,none,none,none,none,none,none]:=HV.of [some (.scr ns,om),none,none,none,none,none,none,none,none,none,none];have K:∀ (k:Nat) {L:List (Option PV)}{O:List Nat}{ρ:Af},k<=100->HV L O ρ->L[0]?=some (some (.scr ns))->∃ x:Int,Ak N8 (Ad (Ak N9 (Ad (Aa 0) (Ad (bC (.int (k:Nat))) (Ab)))) (Ad (bC (.int (k:Nat))) (Ab))) ρ=.ok (.int x,om,ρ):=λ k L O ρ hk h e=>by
  obtain ⟨x,ex⟩:=gJ (ns.getD k 0) k (by (clear z hns;omega));exact ⟨x,AJ (xs:=[(.int (ns.getD k 0),om),(.int (k:Int),om)]) (Cu (AJ (xs:=[(.scr ns,om),(.int (k:Int),om)]) (Cu (h.var e) (BE rfl)) (wO ns k)) (BE rfl)) ex⟩
 obtain ⟨l,el⟩:=K 0 (by (clear z hns;omega)) h0 rfl;obtain ⟨a,b,c,hx,hy,hw,eb⟩:=UM l (r:=4) (s:=4) (t:=4) (by (clear z hns;omega)) (by (clear z hns;omega)) (by (clear z hns;omega));have B:B4 a b c:=⟨by (clear hw hy z hns;omega),by (clear hw hx z hns;omega),by (clear hy hx z hns;omega)⟩
 have ha:=B.a;have hb:=B.b;have hc:=B.c;refine Gv.ex (h0.setO (x:=bx a b c) (AJ (xs:=[(.int l,om),(.int 4,om),(.int 4,om),(.int 4,om)]) (Cu el rfl) eb) (show 1 < 11 by decide)) λ ρ1 (h1:HV (Fr ns (some (bx a b c)) none none none none none none none none none) [] ρ1)=>?_;obtain ⟨l1,el1⟩:=K 1 (by (clear hc hb ha hw hy hx z hns;omega)) h1 rfl;obtain ⟨t,d1',p,e1⟩:=YF (a:=a) (b:=b) (c:=c) l1 (by (clear hc hb ha hw hy z hns;omega)) (by (clear hc hb ha hw hx z hns;omega)) (by (clear hc hb ha hy hx z hns;omega));refine Gv.ex (h1.set (x:=tb t) (BS (F:=N7) (h1.var rfl) el1 e1) (show 2 < 11 by decide)) λ ρ2 (h2:HV (Fr ns (some (bx a b c)) (some (tb t)) none none none none none none none none) [] ρ2)=>?_;obtain ⟨l2,el2⟩:=K 2 (by (clear hc hb ha hw hy hx z hns;omega)) h2 rfl;obtain ⟨u,d2',q,e2⟩:=YF (a:=a) (b:=b) (c:=c) l2 (by (clear hc hb ha hw hy z hns;omega)) (by (clear hc hb ha hw hx z hns;omega)) (by (clear hc hb ha hy hx z hns;omega));refine Gv.ex (h2.set (x:=tb u) (BS (F:=N7) (h2.var rfl) el2 e2) (show 3 < 11 by decide)) λ ρ3 (h3:HV (Fr ns (some (bx a b c)) (some (tb t)) (some (tb u)) none none none none none none none) [] ρ3)=>?_;obtain ⟨dp,zp,k1⟩:=X0 B p;obtain ⟨dq,zq,k2⟩:=X0 B q;refine Gv.no (JF (PH (BS (F:=Lv) (h3.var rfl) (h3.var rfl) k1)) (PH (BS (F:=Lv) (h3.var rfl) (h3.var rfl) k2))) ?_;refine Gv.ex (h3.unp3 (h3.var rfl) (show 4 < 11 by decide) (show 5 < 11 by decide) (show 6 < 11 by decide)) λ ρ4 (h4:HV (Fr ns (some (bx a b c)) (some (tb t)) (some (tb u)) (some (.int (a:Int))) (some (.int (b:Int))) (some (.int (c:Int))) none none none none) [] ρ4)=>?_;let N:Int:=Bq a b t u;let G (s8 s9 s10:Option PV):List (Option PV):=Fr ns (some (bx a b c)) (some (tb t)) (some (tb u)) (some (.int (a:Int))) (some (.int (b:Int))) (some (.int (c:Int))) (some (.int N)) s8 s9 s10;have few:∀ {a b c:Nat}{t u:List (List Int)},Pile a b c t->Pile a b c u->a<=4/\b<=4/\c<=4->1<=a/\1<=b/\1<=c->Hk [bx a b c,tb t,tb u]=.ok (.int (Bq a b t u),om,.non):=λ p q h h'=>jZ p q (by (clear hc hb ha hw hy hx z hns;omega)) (by (clear hc hb ha hw hy hx z hns;omega)) (by (clear hc hb ha hw hy hx z hns;omega));have l4:a<=4/\b<=4/\c<=4:=by (clear hc hb ha z hns;omega)
 have g1:1<=a/\1<=b/\1<=c:=by (clear l4 hc hb ha z hns;omega)
 refine Gv.ex (h4.setO (x:=.int N) (Ey (h4.var rfl) (h4.var rfl) (h4.var rfl) (few p q l4 g1)) (show 7 < 11 by decide)) λ ρ5 (h5:HV (G none none none) [] ρ5)=>?_;have vN:∀ {s8 s9 s10:Option PV}{ρ:Af},HV (G s8 s9 s10) [] ρ->Aa 7 ρ=.ok (.int N,om,ρ):=λ h=>h.var (j:=7) (x:=.int N) rfl;have m1:=P9 p (by (clear g1 l4 hc hb ha hw hy z hns;omega)) (by (clear g1 l4 hc hb ha hw hx z hns;omega)) hc.1;have m2:=P9 q (by (clear g1 l4 hc hb ha hw hy z hns;omega)) (by (clear g1 l4 hc hb ha hw hx z hns;omega)) hc.1;refine Gv.no (AK (Lj (Ey (KZ (h5.var (j:=5) rfl) (h5.var (j:=4) rfl) (h5.var (j:=6) rfl)) (BS (F:=Km) (h5.var (j:=1) rfl) (h5.var (j:=2) rfl) m1) (BS (F:=Km) (h5.var (j:=1) rfl) (h5.var (j:=3) rfl) m2) (few (LZ p) (LZ q) (by (clear g1 l4 hc hb ha z hns;omega)) (by (clear g1 l4 hc hb ha z hns;omega)))) (vN h5) (gS p.tab q.tab))) ?_;have r1:=MM p (by (clear g1 l4 hc hb ha hw hy z hns;omega)) (by (clear g1 l4 hc hb ha hw hx z hns;omega)) (by (clear g1 l4 hc hb ha hy hx z hns;omega));have r2:=MM q (by (clear g1 l4 hc hb ha hw hy z hns;omega)) (by (clear g1 l4 hc hb ha hw hx z hns;omega)) (by (clear g1 l4 hc hb ha hy hx z hns;omega));refine Gv.no (AK (Lj (Ey (KZ (h5.var (j:=5) rfl) (h5.var (j:=6) rfl) (h5.var (j:=4) rfl)) (BS (F:=Hl) (h5.var (j:=1) rfl) (h5.var (j:=2) rfl) r1) (BS (F:=Hl) (h5.var (j:=1) rfl) (h5.var (j:=3) rfl) r2) (few (Hn p) (Hn q) (by (clear g1 l4 hc hb ha z hns;omega)) (by (clear g1 l4 hc hb ha z hns;omega)))) (vN h5) (gT p q))) ?_;have s1:=K3 p (by (clear g1 l4 hc hb ha hw hy z hns;omega)) (by (clear g1 l4 hc hb ha hw hx z hns;omega)) hc.1;have s2:=K3 q (by (clear g1 l4 hc hb ha hw hy z hns;omega)) (by (clear g1 l4 hc hb ha hw hx z hns;omega)) hc.1;let RR:PV:=.tup [tb (B6 t c),tb (B6 u c)];refine Gv.ex (h5.setO (x:=RR) (CO (Cu (BS (F:=Gf) (h5.var (j:=1) rfl) (h5.var (j:=2) rfl) s1) (BE (BS (F:=Gf) (h5.var (j:=1) rfl) (h5.var (j:=3) rfl) s2))) rfl) (show 8 < 11 by decide)) λ ρ6 (h6:HV (G (some RR) none none) [] ρ6)=>?_;have i0:∀ {s9 s10:Option PV}{ρ:Af},HV (G (some RR) s9 s10) [] ρ->Ac AQ (Aa 8) (bC (.int 0)) ρ=.ok (tb (B6 t c),0,ρ):=λ h=>Cr (x:=RR) (d:=0) (y:=.int 0) (e:=om) (h.var (j:=8) (x:=RR) rfl) rfl rfl;have i1:∀ {s9 s10:Option PV}{ρ:Af},HV (G (some RR) s9 s10) [] ρ->Ac AQ (Aa 8) (bC (.int 1)) ρ=.ok (tb (B6 u c),0,ρ):=λ h=>Cr (x:=RR) (d:=0) (y:=.int 1) (e:=om) (h.var (j:=8) (x:=RR) rfl) rfl rfl;refine Gv.no (AK (Lj (Ey (h6.var (j:=1) rfl) (i0 h6) (i1 h6) (few (EV p) (EV q) l4 g1)) (vN h6) (dP p.tab q.tab))) ?_;have lp:=gF p q;have hp:=yN p q;have tp:∀ {t u:List (List Int)},Pile a b c t->Pile a b c u->f_must_be_two_piles [bx a b c,tb t,tb u]=.ok (.non,om,.non):=λ p q=>Qy p q (by (clear g1 l4 hc hb ha hw hy z hns;omega)) (by (clear g1 l4 hc hb ha hw hx z hns;omega)) (by (clear g1 l4 hc hb ha hy hx z hns;omega));have bl:Ly [bx a b c,tb t,tb u]=.ok (tb (Bz t u),om,.non):=Y7 p.tab q.tab (by (clear g1 l4 hc hb ha hw hy z hns;omega)) (by (clear g1 l4 hc hb ha hw hx z hns;omega)) (tp p q);have ab':Vd [bx a b c,tb t,tb u]=.ok (tb (DQ t u),om,.non):=dA p.tab q.tab (by (clear g1 l4 hc hb ha hw hy z hns;omega)) (by (clear g1 l4 hc hb ha hw hx z hns;omega)) (tp p q);refine Gv.ex (h6.setO (x:=tb (Bz t u)) (Ey (h6.var (j:=1) rfl) (h6.var (j:=2) rfl) (h6.var (j:=3) rfl) bl) (show 9 < 11 by decide)) λ ρ7 (h7:HV (G (some RR) (some (tb (Bz t u))) none) [] ρ7)=>?_;refine Gv.ex (h7.setO (x:=tb (DQ t u)) (Ey (h7.var (j:=1) rfl) (h7.var (j:=2) rfl) (h7.var (j:=3) rfl) ab') (show 10 < 11 by decide)) λ ρ8 (h8:HV (G (some RR) (some (tb (Bz t u))) (some (tb (DQ t u)))) [] ρ8)=>?_;have v1:=h8.var (j:=1) rfl;have v2:=h8.var (j:=2) rfl;have v3:=h8.var (j:=3) rfl;have v9:=h8.var (j:=9) rfl;have v10:=h8.var (j:=10) rfl;refine Gv.no (AK (Lj (Ez (Ey v1 v2 v9 (few p lp l4 g1)) (Ey v1 v9 v3 (few lp q l4 g1))) (vN h8) (u9 p q))) ?_;refine Gv.no (AK (Lj (Ez (Ey v1 v2 v10 (few p hp l4 g1)) (Ey v1 v10 v3 (few hp q l4 g1))) (vN h8) (yd p q))) ?_;have s3:=K3 hp (by (clear g1 l4 hc hb ha hw hy z hns;omega)) (by (clear g1 l4 hc hb ha hw hx z hns;omega)) hc.1;have s4:=K3 lp (by (clear g1 l4 hc hb ha hw hy z hns;omega)) (by (clear g1 l4 hc hb ha hw hx z hns;omega)) hc.1;have bl2:Ly [bx a b c,tb (B6 t c),tb (B6 u c)]=.ok (tb (Bz (B6 t c) (B6 u c)),om,.non):=Y7 (EV p).tab (EV q).tab (by (clear g1 l4 hc hb ha hw hy z hns;omega)) (by (clear g1 l4 hc hb ha hw hx z hns;omega)) (tp (EV p) (EV q));rw [<- ua p.tab q.tab ha.1 hb.1] at bl2;have li:Il [bx a b c,tb (Bz t u),tb (DQ t u)]=.ok (.bl (IS a b (Bz t u) (DQ t u)),om,.non):=XY lp.tab hp.tab (by (clear g1 l4 hc hb ha hw hy z hns;omega)) (by (clear g1 l4 hc hb ha hw hx z hns;omega)) (tp lp hp);rw [show IS a b (Bz t u) (DQ t u)=true from qh6.mpr λ i j hi hj=>by
  rw [Oq p.tab q.tab hi hj,P1 p.tab q.tab hi hj];split <;> split <;> (clear hj hi g1 l4 hc hb ha hw hy hx z hns;omega)] at li
 refine Gv.no (JF (JI (BS (F:=Gf) v1 v10 s3) (Ey (F:=Ly) v1 (i0 h8) (i1 h8) bl2)) (PH (Ey (F:=Il) v1 v9 v10 li))) ?_;have lt:Il [bx a b c,tb t,tb u]=.ok (.bl (IS a b t u),om,.non):=XY p.tab q.tab (by (clear g1 l4 hc hb ha hw hy z hns;omega)) (by (clear g1 l4 hc hb ha hw hx z hns;omega)) (tp p q);have w1:=Sk (neg:=false) v9 v2;have w2:=Sk (neg:=false) v10 v3;rw [kI p.tab q.tab,Ll] at w1;rw [jk p.tab q.tab,Ll] at w2;refine Gv.no (JF (xf (Ey (F:=Il) v1 v2 v3 lt) w1) (xf (Ey (F:=Il) v1 v2 v3 lt) w2)) ?_;have c1:Kl [bx a b c,tb (Bz t u),tb (DQ t u)]=.ok (.int ((PB a b c (Bz t u) (DQ t u)).length:Int),om,.non):=YE B.N lp hp;have c2:Kl [bx a b c,tb (B6 (DQ t u) c),tb (B6 (Bz t u) c)]=.ok (.int ((PB a b c (B6 (DQ t u) c) (B6 (Bz t u) c)).length:Int),om,.non):=YE B.N (EV hp) (EV lp);have x:=Gp (neg:=false) (Ey (F:=Kl) v1 v9 v10 c1) (Ey (F:=Kl) v1 (BS (F:=Gf) v1 v10 s3) (BS (F:=Gf) v1 v9 s4) c2);rw [decide_eq_true (congrArg (λ n:Nat=>(n:Int)) (bq lp hp).symm)] at x;exact Gv.ret x
open PySem PySem.Spec PyProof.Rows L2 QQ
end K67
open PySem PySem.W PyProof.Rows
set_option maxRecDepth 100000 in
set_option maxHeartbeats 0 in
theorem PySem.Challenge.cw_cornerpiles_k67_whole_many_forms_of_one_holds : PySem.Challenge.rw_cornerpiles_k67_whole_many_forms_of_one.Holds := by
 refine QQ.holds_by (l:=PySem.Challenge.rw_cornerpiles_k67_whole_many_forms_of_one) (q:=K67.view) (loose:=K67.loose) (N:=20000) (n:=63) ?said rfl rfl (λ _=>rfl) K67.run (by rfl) (by rfl) (by rfl) (by rfl) (by decide +kernel) ⟨rfl,rfl,rfl,rfl,rfl,by decide +kernel⟩ ?hw rfl (by decide) rfl ⟨rfl,by decide,by decide,rfl⟩ rfl rfl (sts:=K67.sts) rfl K67.k49 K67.law_true
 case said=>decide +kernel
 case hw=>w_witness2
