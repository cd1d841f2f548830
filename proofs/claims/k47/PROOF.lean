import PyProof.Rows.All
import Wide.All
import OpenK.AllK
import Wide.FinOn
import Lean
import PyProof.EqAt
import PyProof.EqKinds
import PyProof.TupleCall
import PySem.Challenge.RW_cornerpiles_k47_whole_shares_turned
open PySem renaming wpAny_bind->Ag,wpAny_pure->Ao,Value->Ad,Shared->Ai,sizeLine->Aw,starEach->AK,Program->AA,wpAny->Ak,wpAny_newObj_type->DS,model->Av,wpAny_callSpecial?_slot->HE,World->A4,compareOp->CC,wpAny_call_entry->FW,wpAny_field->DR,cellsFrom->Di,wpAny_truthy_bool->HD,wpAny_dictEntries->HC,Around->BD,mainGlobals->E5,FuncData->CQ,assignEach->E4,NameKind->Dw,wpAny_seqItems->HB,sysModules->EJ,DictEntry->Ef,Scope->Bv,IsPair->Cv,wpAny_typeNameOfWhole_valiter->NS,wpAny_typeNameOfWhole_keyiter->NR,wpAny_setField_rec->Kw,intItems->DQ,wpAny_passesOwn->Jv,mem_of_lookup->L8,wpAny_typeNameOf_valiter->NL,wpAny_typeNameOf_keyiter->NK,wpAny_holding->Js,wpAny_dictEpoch->Kt,tupleKind->FR,swappedStores->Jr,binaryOp->EI,backTo->Dh,wpAny_mono->HA,wpAny_setField->Ks,wpAny_fieldsOf->Kr,firstArgMember->Kq,bootBuiltins->Jq,wpAny_isInstance->L7,rawInt->DA,wpAny_attempt->Ko,behindInMarks->Kn,sliceBounds->Jo,numAt->CA,wpAny_pyIter_tuple->NG,wpAny_Call_Name_kw->NF,tupleKind_room_in1->ND,bindName->GK,wpAny_bindName->L6,pyNext->Ee,foldedSetIterable->NC,wpAny_standAt->L4,assignInOrder->L3,wpAny_pyIter_zip->NB,wpAny_specialOf->NA,wpAny_notOrdered_dict->Rg,wpAny_isOneOf_valiter->Rf,wpAny_isOneOf_keyiter->Rc,wpAny_execs_nil->N9,letOwnedTupleGo->N8,IsZip->Du,entryOfKey->Kl,Operator->IB,wpAny_updateSeq_pair->Ra,wpAny_pyIter_revIter->QY,cLine->D9,Builtin->vl9,wpAny_onRaise->N5,PyData->FQ,Paired->FP,wpAny_rule->L0,relabel->IA,codeAny->I0,noFill_tuple_add->QB,CmpOp->E3,wpAny_letGo->N4,valueAt->Jm,seqIndex_of->N3,pushCells_keeps->QA,intItems_at->N1,importedModules->Q9,getItem->Jl,callerA->Jk,assign->Hw,PassesOwn->Lz,IsRangeIter->N0,wpAny_letOwnedTupleGo_zip->UR,newFunctionEnv->Q7,isSubtype_stop->Q6
open PySem.Heap renaming get?_push_of_some->Bb,get?_push_size->BL,lt_size->AO,size_push->FU,get?_update_self->Ky,get?_update_other->NH,SameBut->Jp
open PyProof.Rows renaming callWith_type1->HF,assignInOrder_cons->Kv,AllBare->Hy,assignInOrder_nil->QT,slot_tuple_getitem->Vb,envOfC->Hx
open PySem.Builtin.SmallTypes renaming nextOf->IC,ownedTupleIsFree->NU,ownedTupleHandOut->Vd
open Ne renaming symm->BE
open PySem.W renaming kia_one->FV,boot_heap->Eg,keepIn->Jt,fnOf->Km,findIn->L5,kitOne->N6,methodObj->QR,boot_heap->QO,instObj->Q8,lookIn->Q5,codeIn->Q4
open PySem.Builtin.Dict_items renaming ownsTuple->LA
open PySem.Str renaming ofString->GL
open PySem.F renaming slot_dict_valueiterator_next->NT,slot_dict_keyiterator_next->NQ,slot_tuple_iterator_next->NO,args_tuple_add_2->Rj,entry_tuple_add->Ri,slot_tuple_add->Rh,slot_zip_next->N7,args_dict_valueiterator_next_1->Vc,entry_dict_valueiterator_next->Va,args_dict_keyiterator_next_1->UZ,entry_dict_keyiterator_next->UY,args_tuple_iterator_next_1->UX,entry_tuple_iterator_next->UU
open PySem.Heap.SameBut renaming update->Kx
open PySem.Obj renaming data_mapFields->Ku,mapSeq->Jn,mapFields->L1,isFreed_of_fields->Rb,cls_mapFields->QH
open PySem.PyData renaming depthAll->Ju,eqv->FT,canLay0->Kp,canLayAll0->QN
open PySem.Builtin.List renaming listExtendWith->NP,listTooLong->NI
open PySem.Builtin.Dict renaming showsAll->L9,entriesForEmpty->UW
open PySem.Builtin.Slice renaming slicePlaces->NM,sliceAdjust->Rk,sliceApplied->US
open PySem.Builtin.Tuple renaming tupleExact->NJ,tupleHashOf->Rl
open False renaming elim->Hz
open PySem.Calls renaming spliced_cons->QU,spliced_nil->QD,Name_function_global->UT
open List renaming getD_eq_getElem?_getD->AM,mem_cons_of_mem->AI,mem_cons_self->AH,length_map->A8,replicate->AL,getElem?_eq_getElem->BW,length_cons->Bh,mem_append_right->BV,getElem?_eq_some_iff->jb0,range->A6,mem_append_left->BU,length_append->BI,getElem?_append_left->C7,mem_cons->jb5,mem_singleton->jb6,all_eq_true->jb8,size_toArray->Ca,map_cons->BF,getElem?_set_ne->CK,getElem?_map->C5,mem_range->jc5,getElem?_set_self->DT,getElem?_replicate->EB,length_replicate->El,mem_map->jd1,getElem?_append_right->Gi,mem_append->jd4,length_singleton->EA,length_set->DB,getElem?_eq_none->FA,map_map->CB,length_range->Ek,map_append->DL,mem_filter->je1,filter_cons->E9,replicate_succ->Gh,lookup_cons->EV,getElem?_cons_succ->IQ,length_reverse->GU,length_eq_zero_iff->je9,filter_eq_self->jf0,length_take->Fz,length_drop->Fy,nil_append->EU,cons_append->Fw,range_succ->Fv,not_mem_nil->Gg,getElem?_take_of_lt->KO,take_of_length_le->KN,getElem_of_mem->JD,map_congr_left->JC,flatMap_cons->IL,getElem_mem->IK,all_cons->GP,drop_eq_nil_of_le->My,append_nil->JB,nodup_cons->jh9,flatten_cons->KI,sum_cons->II,getElem?_range->Mx,mem_flatMap->KH,of_mem_zip->KG,map_nil->IH,find?_cons->KC,append_assoc->Mw,drop_eq_getElem_cons->T8,getElem?_eq_none_iff->jj3,filterMap_cons->Pn,flatMap_append->Pm,zip_cons_cons->Pl,length_zip->Mu,filter_cons_of_neg->T7,filter_cons_of_pos->T6,filter_eq_nil_iff->T5,reverse_cons->Ph,filter_congr->Pf,take_zero->Mr,getElem?_reverse->T4,length_filter_le->T3,any_cons->Mp,drop_nil->Mo,forIn_cons->Pe,take_succ_cons->Tz,filter_map->Pd,range'->K9,getElem?_concat_length->Zz,set_cons_succ->Tx,all_nil->Mm,pairwise_cons->jm5,getElem?_zip_eq_some->Zy,getLast?_eq_getElem?->Zx,getLast?_nil->Tu,pairwise_map->Tt,nodup_append->Ts,set_comm->OZ,take_nil->OX,map_drop->OW,getLast?_singleton->Zu,ext_getElem->Tq,length_eq_one_iff->jo2,length_pos_of_mem->Zs,pairwise_flatMap->Zq,sum_append->Tn,getLast?_append->Zp,getElem?_append->Zn,getLast?_concat->Zm,mem_of_mem_drop->Zl,drop_zero->Ti,replicate_zero->Zk,eraseDups_cons->Zj,filter_flatMap->Zi,mem_filterMap->jq3,set_cons_zero->Zg,findIdx?_cons->Zd,mem_replicate->jq7,ext_getElem?->Zb,mem_range'_1->jr1,zipWith->Tf,flatten_nil->YW,zipIdx_cons->YU,range'_succ->YT,map_reverse->YS,mem_reverse->js2,append_inj'->YR,foldl_cons->YO,length_nil->YN,zipIdx_nil->YM,all_append->YL,forIn_nil->YK,foldl->Td,set_nil->YF,getD->Tc,sum_nil->YE,length->YB
open Bool renaming and_eq_true->Ba,false_ne_true->Cy,eq_iff_iff->E8,false_eq_true->GR,or_eq_true->Gf,and_true->J9,not_eq_true'->Pg,and_false->Pb,false_xor->Pa,or_false->OY,and_eq_true_iff->jp3,eq_false_iff->YZ,false_or->YI,true_and->YH
open Nat renaming le_refl->AB,lt_of_lt_of_le->Cg,ne_of_lt->Cf,le_trans->Cw,lt_irrefl->DK,lt_succ_self->GQ,ne_of_gt->E7,le_of_succ_le->IM,le_add_right->IJ,gcd->C4,mul_le_mul_right->KJ,zero_le->Ft,min_eq_left->Mt,lt_succ_of_lt->Pj,mul_le_mul->Mq,zero_add->KA,le_of_lt->Mn,add_sub_cancel->Tw,gcd_pos_of_pos_right->Zw,min_le_right->Tr,min_le_left->Tp,sub_self->OV,pow_succ->OU,sub_zero->OT,gcd_comm->OS,le_antisymm->Tj,mul_div_cancel'->Zh,gcd_zero_right->Zc,succ_mul->Th,mul_comm->Tg,succ_ne_zero->YX,succ_le_succ->YV,zero_lt_succ->YQ,le_succ->Te,min_self->YC,add_mul->YA,one_mul->Y9,gcd_rec->Y7
open Option renaming map_eq_some_iff->jb9,map_some->Mv,isSome_map->Tv,isSome_some->Ze,getD_none->YY,some_or->YJ,map->Y6
open Int renaming toNat_natCast->D3,le_refl->D1,zero_add->ET,natCast_mul->JA,le_trans->HM,emod_lt_of_pos->Pk,emod_nonneg->Pc,natCast_add->To,le_of_eq->YD,add_mul->Y8,not_lt->ju7
open Array renaming getElem?_eq_none->JE,length_toList->IP,getElem?_toList->Po,toList->YG
set_option Elab.async false
set_option linter.all false
set_option maxRecDepth 100000
set_option autoImplicit false
set_option maxHeartbeats 2000000
namespace L2
open PySem PySem.Spec PyProof.Rows
def Lb (s:Stmt):Arguments:=match s with
 | .FunctionDef _ a _ _ _ _ _ _ _ _=>a
 | _=>{ posonlyargs:=[],args:=[],vararg:=none,kwonlyargs:=[],kw_defaults:=[],kwarg:=none,defaults:=[] }
def AY (s:Stmt):List Stmt:=match s with
 | .FunctionDef _ _ b _ _ _ _ _ _ _=>b
 | _=>[]
def A2 (s:Stmt):Bv:=match s with
 | .FunctionDef _ _ _ _ _ _ sc _ _ _=>sc
 | _=>{ kind:=.function,names:=[],isGenerator:=false,isCoroutine:=false }
end L2
namespace QQ
open PySem PySem.Spec PySem.W PySem.Calls PyProof.Rows L2
abbrev Frag:=PySem.W.Frag
def zyn:List Str:=["len","isinstance","all","max","min","tuple","list","range","int","bool","str","dict","sum","enumerate","zip","reversed","set","ValueError","sorted","abs"]
def Kj (tb:String->Option vl9) (p:AA) (w:A4) (n₀:Nat) (ann:Option Ad):Nat->SharedT->Thread->Option SharedT
 | 0,_,_=>none
 | n + 1,s,t=>match through t with
  | true=>some s
  | false=>match stepOk n₀ ann t with
   | false=>none
   | true=>match stepT (denote tb) p w s t with
    | some (s',t')=>Kj tb p w n₀ ann n s' t'
    | none=>none
def Y5:List Obj->Nat->BT->BT
 | [],_,t=>t
 | o::r,n,t=>Y5 r (n + 1) (t.ins n o)
noncomputable def bootT (P:Params):BT:=Y5 (Eg P).objs.toList 0 .nil
noncomputable def bootS (P:Params) (os:OsState):SharedT:=⟨bootT P,(Eg P).objs.size,(Eg P).life,#[],boot_drawn,boot_toks,os⟩
def Ss {α:Type} (p q:AA) (loose:List Str) (Xt:Ai->Bool) (Yf:Ai->α) (H:Heap) (s:Ai):=
 ((staticsOk (Q9 p.main.body) H s.heap && namesBound p s.heap && gensDone s && laidKept H s.heap),openSeen q loose (Q9 p.main.body) Xt true s,Yf s)
def Ml (h:Heap):Frag:=(A6 h.objs.size).filterMap λ a=>(h.get? a).map λ o=>(a,o)
structure DefSeen where
 name:Str
 qual:Str
 params:Arguments
 body:FuncBody
 scope:Bv
 globals:Addr
 closure:List (Str×Addr)
 defaults:Ad
 builtins:Addr
 code:Bool
def SS (K:Frag) (x:Str):Option DefSeen:=match nsIn K E5 x with
 | some (some (.ref g))=>(match K.lookup g with
  | some ⟨_,_,.func fd,_⟩=>some ⟨fd.name,fd.qualname,fd.params,fd.body,fd.scope,fd.globals,fd.closure,fd.defaults,fd.builtins,codeIn K fd.code x⟩
  | _=>none)
 | _=>none
def RW (x:Str) (st:Stmt):DefSeen:=⟨x,x,Lb st,.stmts (AY st),A2 st,mainNs,[],.none,0,true⟩
def Lc (ds:List (Str×Stmt)) (xc:List Nat) (K:Frag):List (Option DefSeen)×List (Option (Option Ad))×Bool:=
 (ds.map λ d=>SS K d.1,zyn.map λ x=>nsIn K E5 x,xc.isEmpty)
def Mg (ds:List (Str×Stmt)):List (Option DefSeen)×List (Option (Option Ad))×Bool:=(ds.map λ d=>some (RW d.1 d.2),zyn.map λ _=>some none,true)
end QQ
namespace K47
open PySem PySem.Spec PyProof.Rows L2 QQ
def top (i:Nat):Stmt:=PySem.Challenge.pw_cornerpiles_k47_whole_shares_turned.main.body.getD i (.Pass ⟨0,0,0,0⟩)
abbrev t0:Stmt:=top 7
abbrev t1:Stmt:=top 8
abbrev t2:Stmt:=top 9
abbrev t3:Stmt:=top 10
abbrev t4:Stmt:=top 11
abbrev t5:Stmt:=top 12
abbrev t6:Stmt:=top 13
abbrev t7:Stmt:=top 14
abbrev t8:Stmt:=top 15
abbrev t9:Stmt:=top 16
abbrev HI:Stmt:=top 17
abbrev Ox:Stmt:=top 18
abbrev Ow:Stmt:=top 19
abbrev Ov:Stmt:=top 21
abbrev Ou:Stmt:=top 22
abbrev Ot:Stmt:=top 23
abbrev Oq:Stmt:=top 25
abbrev Oo:Stmt:=top 26
abbrev Om:Stmt:=top 27
abbrev Ol:Stmt:=top 28
abbrev Oj:Stmt:=top 29
abbrev Oi:Stmt:=top 30
abbrev Oh:Stmt:=top 31
abbrev Og:Stmt:=top 33
abbrev Of:Stmt:=top 34
abbrev Oe:Stmt:=top 35
abbrev Od:Stmt:=top 36
abbrev Oc:Stmt:=top 38
abbrev Ob:Stmt:=top 39
abbrev Oa:Stmt:=top 40
abbrev E6:Stmt:=top 41
abbrev NZ:Stmt:=top 42
abbrev NY:Stmt:=top 43
abbrev NX:Stmt:=top 44
abbrev LI:Stmt:=top 45
def dfs:List (Str×Stmt):=[(("is_whole_number" : Str),t0),(("is_box" : Str),t1),(("must_be_box" : Str),t2),(("is_row_of_heights" : Str),t3),(("never_rises" : Str),t4),(("column_of" : Str),t5),(("is_pile" : Str),t6),(("must_be_pile" : Str),t7),(("is_cube_in" : Str),t8),(("mirrored_pile" : Str),t9),(("how_many_above" : Str),HI),(("rolled_pile" : Str),Ox),(("rest_of" : Str),Ow),(("must_be_two_piles" : Str),Ov),(("places_of" : Str),Ou),(("lies_below" : Str),Ot),(("rows_of_heights" : Str),Oq),(("added" : Str),Oo),(("sums_of_lower_rows" : Str),Om),(("lies_between" : Str),Ol),(("table_of_row" : Str),Oj),(("tables_between" : Str),Oi),(("tally_between" : Str),Oh),(("greatest_divisor" : Str),Og),(("in_least_numbers" : Str),Of),(("must_be_piles_between" : Str),Oe),(("cube_share" : Str),Od),(("_law_cell_at" : Str),Oc),(("_law_stir" : Str),Ob),(("_law_numbers" : Str),Oa),(("_law_alike" : Str),E6),(("_law_box" : Str),NZ),(("_law_pile" : Str),NY),(("_law_bounds" : Str),NX),(("law" : Str),LI)]
def view:AA:={ PySem.Challenge.pw_cornerpiles_k47_whole_shares_turned with main:={ PySem.Challenge.pw_cornerpiles_k47_whole_shares_turned.main with body:=[LI] } }
def loose:List Str:=(PySem.Challenge.pw_cornerpiles_k47_whole_shares_turned.main.scope.names.map λ x=>x.1).filter λ x=>!(x == ("law" : Str))
def run:∀ (w:PySem.World) (os:PySem.OsState),(Kj PySem.treeTable PySem.Challenge.rw_cornerpiles_k47_whole_shares_turned.prog w (QO w.params).objs.size ((QO w.params).nsMap E5 "__annotations__") 20000 (bootS w.params os) (PySem.W.topStub PySem.Challenge.rw_cornerpiles_k47_whole_shares_turned.prog)).map (λ s=>Ss PySem.Challenge.rw_cornerpiles_k47_whole_shares_turned.prog view loose (λ s=>PySem.W.xlAt view [] s && PySem.W.recOk (PySem.W.RowW.records PySem.Challenge.rw_cornerpiles_k47_whole_shares_turned.row.toRowW) s) (λ s=>Lc dfs [] (Ml s.heap)) (QO w.params) s.abs)=some (true,PySem.W.openGood view loose,Mg dfs):=λ w os=>by kernel_rfl
end K47
namespace L2
open PySem PySem.Spec PyProof.Rows
abbrev Ax:=Sum Int Str
def K4:Ax->Ad->Bool
 | .inl k,v=>Value.isInt k v
 | .inr x,v=>Value.isStrOf x v
def Ta (w:A4):Ax->Int
 | .inl k=>hashInt k
 | .inr x=>hashStr w x
theorem Hd:∀ {k:Ax}{v:Ad},K4 k v=true->(∃ i t,k=Sum.inl i/\v=Value.int i t)\/(∃ x t,k=Sum.inr x/\v=Value.str x t)
 | .inl i,v,h=>by
  obtain ⟨t,e⟩:=Value.isInt_shape (k:=i) (v:=v) h;exact .inl ⟨i,t,rfl,e⟩
 | .inr x,v,h=>by
  obtain ⟨t,e⟩:=Value.isStrOf_shape (x:=x) (v:=v) h;exact .inr ⟨x,t,rfl,e⟩
def wW (i:Int) (t:Tok):K4 (.inl i) (.int i t)=true:=by simp [K4,Value.isInt]
def wX (x:Str) (t:Tok):K4 (.inr x) (.str x t)=true:=by simp [K4,Value.isStrOf]
def xq (a b:Int):decide ((Sum.inl a:Ax)=Sum.inl b)=(a == b):=by
 by_cases e:a=b
 ·subst e;simp
 ·have h:¬ (Sum.inl a:Ax)=Sum.inl b:=λ q=>e (Sum.inl.inj q);rw [decide_eq_false h];exact (beq_eq_false_iff_ne.mpr e).symm
def xv (a b:Str):decide ((Sum.inr a:Ax)=Sum.inr b)=decide (a=b):=by
 by_cases e:a=b
 ·subst e;simp
 ·have h:¬ (Sum.inr a:Ax)=Sum.inr b:=λ q=>e (Sum.inr.inj q);rw [decide_eq_false h,decide_eq_false e]
def xt (a:Int) (b:Str):decide ((Sum.inl a:Ax)=Sum.inr b)=false:=decide_eq_false (λ q=>nomatch q)
def xu (a:Str) (b:Int):decide ((Sum.inr a:Ax)=Sum.inl b)=false:=decide_eq_false (λ q=>nomatch q)
def De (prog:AA) (w:A4):PySem.KeyKind prog w Ax where
 is:=K4
 hash:=Ta w
 inj:=λ v a b ha hb=>by
  rcases Hd ha with ⟨i,t,rfl,rfl⟩ | ⟨x,t,rfl,rfl⟩
  ·rcases Hd hb with ⟨j,u,rfl,e⟩ | ⟨y,u,rfl,e⟩
   ·injection e with e1 _;rw [e1]
   ·exact nomatch e
  ·rcases Hd hb with ⟨j,u,rfl,e⟩ | ⟨y,u,rfl,e⟩
   ·exact nomatch e
   ·injection e with e1 _;rw [e1]
 byValue:=λ k v h=>by
  rcases Hd h with ⟨i,t,rfl,rfl⟩ | ⟨x,t,rfl,rfl⟩ <;> rfl
 pyHash:=λ hv h=>by
  rcases Hd hv with ⟨i,t,rfl,rfl⟩ | ⟨x,t,rfl,rfl⟩
  ·exact wpAny_pyHash_int h
  ·exact wpAny_pyHash_str h
 eqBool:=λ hu hv h=>by
  rcases Hd hu with ⟨i,t,rfl,rfl⟩ | ⟨x,t,rfl,rfl⟩
  ·rcases Hd hv with ⟨j,u,rfl,rfl⟩ | ⟨y,u,rfl,rfl⟩
   ·rw [xq] at h;exact wpAny_eqBool_int h
   ·rw [xt] at h;exact SeqAt.EqAt.int_str i t y u _ _ _ _ h
  ·rcases Hd hv with ⟨j,u,rfl,rfl⟩ | ⟨y,u,rfl,rfl⟩
   ·rw [xu] at h;exact SeqAt.EqAt.str_int x t j u _ _ _ _ h
   ·rw [xv] at h;exact wpAny_eqBool_str h
 «strs»:=λ k x t v h=>by
  rcases Hd h with ⟨i,u,rfl,e⟩ | ⟨y,u,rfl,e⟩
  ·exact nomatch e
  ·injection e with e1 _
   subst e1;cases v <;> rfl
def yQ (prog:AA) (w:A4) (i:Int) (t:Tok):(De prog w).is (.inl i) (.int i t)=true:=wW i t
def yR (prog:AA) (w:A4) (x:Str) (t:Tok):(De prog w).is (.inr x) (.str x t)=true:=wX x t
inductive V where
 | non | bl (b:Bool) | int (i:Int) | str (x:Str) | byt (b:Array UInt8) | flt (b:UInt64) | ref (a:Addr) | ty (n:String)
 deriving DecidableEq
def RelV:V->Ad->Prop
 | .non,u=>u=Value.none
 | .bl b,u=>u=Value.bool b
 | .int i,u=>∃ t,u=Value.int i t
 | .str x,u=>∃ t,u=Value.str x t
 | .byt b,u=>∃ t,u=Value.bytes b t
 | .flt b,u=>∃ t,u=Value.float b t
 | .ref a,u=>u=Value.ref a
 | .ty n,u=>u=Value.type n
abbrev Vals:List V->List Ad->Prop:=FP RelV
def Vals.length {xs:List V}{us:List Ad} (r:Vals xs us):xs.length=us.length:=Paired.length r
theorem Vals.get:∀ {xs:List V}{us:List Ad}{i:Nat}{x:V},Vals xs us->xs[i]?=some x->∃ u,us[i]?=some u/\RelV x u
 | _,_,_,_,.nil,e=>by simp at e
 | _,_,0,_,.cons r _,e=>by simp at e;subst e;exact ⟨_,rfl,r⟩
 | _,_,i + 1,x,.cons _ t,e=>by
  obtain ⟨u,h1,h2⟩:=Vals.get (i:=i) (x:=x) t (by simpa using e);exact ⟨u,by simpa using h1,h2⟩
theorem Vals.set {x:V}{u:Ad} (r:RelV x u):∀ {xs:List V}{us:List Ad} (i:Nat),Vals xs us->Vals (xs.set i x) (us.set i u)
 | _,_,_,.nil=>.nil
 | _,_,0,.cons _ t=>.cons r t
 | _,_,i + 1,.cons q t=>.cons q (Vals.set r i t)
theorem Vals.append:∀ {xs ys:List V}{us ws:List Ad},Vals xs us->Vals ys ws->Vals (xs++ys) (us++ws)
 | _,_,_,_,.nil,s=>s
 | _,_,_,_,.cons r t,s=>.cons r (Vals.append t s)
theorem Vals.take:∀ {xs:List V}{us:List Ad} (n:Nat),Vals xs us->Vals (xs.take n) (us.take n)
 | _,_,0,_=>.nil
 | _,_,_ + 1,.nil=>.nil
 | _,_,n + 1,.cons r t=>.cons r (Vals.take n t)
theorem Vals.drop:∀ {xs:List V}{us:List Ad} (n:Nat),Vals xs us->Vals (xs.drop n) (us.drop n)
 | _,_,0,r=>r
 | _,_,_ + 1,.nil=>.nil
 | _,_,n + 1,.cons _ t=>Vals.drop n t
def RelO:Option V->Option Ad->Prop
 | some v,some u=>RelV v u
 | none,none=>True
 | _,_=>False
def KV {κ:Type}:List (κ×V)->List (κ×Ad)->Prop:=FP λ (p:κ×V) (q:κ×Ad)=>p.1=q.1/\RelV p.2 q.2
def kV:Ax->V
 | .inl i=>.int i
 | .inr x=>.str x
inductive HO where
 | lst (xs:List V)
 | tup (xs:List V)
 | dK (kvs:List (Ax×V)) | dT (kvs:List (List Ax×V))
 | set (S:Int->Bool) (n:Nat)
 | ins (C dx:Addr) (fs:List (Str×V))
 | own (x:Addr)
 | xd (fs:List (Str×V))
 | met (f x:Addr)
 | rng (lo hi:Int)
 | frz (o:Obj) (u:HO)
 | tbl (ps:Array Ad)
 | ext (φ:Heap->Prop)
abbrev Hp:=Addr->Option HO
def Ap (H:Hp) (a:Addr) (o:HO):Hp:=λ b=>if b=a then some o else H b
def Bp {H:Hp}{a:Addr}{o:HO}:Ap H a o a=some o:=by unfold Ap;rw [if_pos rfl]
def AE {H:Hp}{a b:Addr}{o:HO} (h:b≠a):Ap H a o b=H b:=by unfold Ap;rw [if_neg h]
def qo {H:Hp}{a b:Addr}{o u:HO} (h:H a=some o) (h':H b=some u) (d:o≠u):a≠b:=by
 intro e;subst e;rw [h] at h';exact d (Option.some.inj h')
def JO {H:Hp}{a b:Addr}{o:HO} (h:H a=some o) (h':H b=none):a≠b:=by
 intro e;subst e;rw [h] at h';cases h'
section
variable (P:AA) (w:A4)
def zxq (H:Hp) (h:Heap) (a:Addr):HO->Prop
 | .lst xs=>xs.length<=Aw/\∃ (its:List Ad) (n:Nat),Vals xs its/\h.get? a=some { cls:=.type "list",data:=.seq its.toArray n }
 | .tup xs=>xs.length<=Aw/\∃ its:List Ad,Vals xs its/\IsTup h a its.toArray
 | .dK kvs=>kvs.length<=Aw/\(a == EJ)=false/\∃ vs,KV kvs vs/\h.DictOf (De P w) a vs
 | .dT kvs=>kvs.length<=Aw/\(a == EJ)=false/\∃ xs:List (List Ax×Addr×Ad),
   FP (λ (p:List Ax×V) (q:List Ax×Addr×Ad)=>p.1=q.1/\H q.2.1=some (.tup (p.1.map kV))/\RelV p.2 q.2.2) kvs xs /\
   ∃ o es ep,h.get? a=some o/\o.ExactDict/\o.data=.dict es ep/\es.toList=xs.map (Kl (FR (De P w)))/\(xs.map (·.1)).Nodup
 | .set S n=>h.SetOf (intKind P w) a S n
 | .ins C dx fs=>H dx=some (.own a)/\fs.length<=1000/\dx≠a/\h.get? a=some (Q8 C dx) /\
   ∃ mA,h.Ns1 dx mA/\(∀ f,RelO (fs.lookup f) (mA f))/\PySem.Within mA (fs.map (·.1))
 | .own _=>∃ o,h.get? a=some o
 | .xd fs=>∃ mA,h.Ns1 a mA/\∀ f,RelO (fs.lookup f) (mA f)
 | .rng lo hi=>∃ t u v,h.get? a=some { cls:=.type "range",data:=.fields #[.int lo t,.int hi u,.int 1 v] }
 | .frz o u=>h.get? a=some o/\zxq H h a u
 | .tbl ps=>h.get? a=some { cls:=.none,data:=.fields ps }
 | .met f x=>h.get? a=some (QR (.ref f) (.ref x))
 | .ext φ=>φ h/\(∃ o,h.get? a=some o)/\∀ h1 h2:Heap,φ h1->(∀ o,h1.get? a=some o->h2.get? a=some o)->φ h2
def HOk (H:Hp) (h:Heap):Prop:=∀ a o,H a=some o->zxq P w H h a o
end
section
variable {P:AA}{w:A4}{H H':Hp}{h h':Heap}{a:Addr}{o:HO}
theorem zxq.lt (x:zxq P w H h a o):a < h.objs.size:=by
 cases o with
 | lst xs=>obtain ⟨_,_,_,_,e⟩:=x;exact AO e
 | tup xs=>obtain ⟨_,_,_,p⟩:=x;exact p.lt
 | dK kvs=>obtain ⟨_,_,_,_,o,_,_,e,_⟩:=x;exact AO e
 | dT kvs=>obtain ⟨_,_,_,_,o,_,_,e,_⟩:=x;exact AO e
 | set S n=>obtain ⟨o,_,_,_,e,_⟩:=x;exact AO e
 | ins C dx fs=>obtain ⟨_,_,_,e,_⟩:=x;exact AO e
 | own y=>obtain ⟨_,e⟩:=x;exact AO e
 | xd fs=>obtain ⟨_,⟨_,_,_,e,_⟩,_⟩:=x;exact AO e
 | rng lo hi=>obtain ⟨_,_,_,e⟩:=x;exact AO e
 | frz ob u=>obtain ⟨e,_⟩:=x;exact AO e
 | tbl ps=>exact AO (show h.get? a=some _ from x)
 | met f y=>exact AO (show h.get? a=some _ from x)
 | ext φ=>obtain ⟨_,⟨_,e⟩,_⟩:=x;exact AO e
theorem Paired.mapP {α β:Type}{F G:α->β->Prop}:∀ {l₁:List α}{l₂:List β},FP F l₁ l₂->(∀ a b,F a b->G a b)->FP G l₁ l₂
 | _,_,.nil,_=>.nil
 | _,_,.cons r t,f=>.cons (f _ _ r) (Paired.mapP t f)
theorem zxq.stay (x:zxq P w H h a o) (k:∀ b u,(b=a\/H b=some (.own a))->h.get? b=some u->h'.get? b=some u)
  (ho:∀ b,H b=some (.own a)->H' b=some (.own a)) (ht:∀ b xs,H b=some (.tup xs)->H' b=some (.tup xs)):zxq P w H' h' a o:=by
 induction o with
 | lst xs=>obtain ⟨z,its,n,r,e⟩:=x;exact ⟨z,its,n,r,k _ _ (.inl rfl) e⟩
 | tup xs=>obtain ⟨z,its,r,ob,e,c⟩:=x;exact ⟨z,its,r,ob,k _ _ (.inl rfl) e,c⟩
 | dK kvs=>obtain ⟨z,y,vs,r,ob,es,ep,e,c⟩:=x;exact ⟨z,y,vs,r,ob,es,ep,k _ _ (.inl rfl) e,c⟩
 | dT kvs=>
  obtain ⟨z,y,xs,r,ob,es,ep,e,c⟩:=x;exact ⟨z,y,xs,Paired.mapP r λ p q z=>⟨z.1,ht _ _ z.2.1,z.2.2⟩,ob,es,ep,k _ _ (.inl rfl) e,c⟩
 | set S n=>obtain ⟨ob,es,ep,t,e,c⟩:=x;exact ⟨ob,es,ep,t,k _ _ (.inl rfl) e,c⟩
 | ins C dx fs=>
  obtain ⟨d,z,ne,e,mA,⟨od,es,ep,e2,c⟩,r⟩:=x;exact ⟨ho _ d,z,ne,k _ _ (.inl rfl) e,mA,⟨od,es,ep,k _ _ (.inr d) e2,c⟩,r⟩
 | own y=>obtain ⟨ob,e⟩:=x;exact ⟨ob,k _ _ (.inl rfl) e⟩
 | xd fs=>obtain ⟨mA,⟨od,es,ep,e,c⟩,r⟩:=x;exact ⟨mA,⟨od,es,ep,k _ _ (.inl rfl) e,c⟩,r⟩
 | rng lo hi=>obtain ⟨t,u,v,e⟩:=x;exact ⟨t,u,v,k _ _ (.inl rfl) e⟩
 | frz ob u ih=>obtain ⟨e,q⟩:=x;exact ⟨k _ _ (.inl rfl) e,ih q⟩
 | tbl ps=>
  have e:h.get? a=some { cls:=.none,data:=.fields ps }:=x;show h'.get? a=some { cls:=.none,data:=.fields ps };exact k a _ (.inl rfl) e
 | met f y=>
  have e:h.get? a=some (QR (.ref f) (.ref y)):=x;show h'.get? a=some (QR (.ref f) (.ref y));exact k a _ (.inl rfl) e
 | ext φ=>obtain ⟨p,⟨o,e⟩,st⟩:=x;exact ⟨st _ _ p λ o q=>k _ _ (.inl rfl) q,⟨o,k _ _ (.inl rfl) e⟩,st⟩
def HOk.lt (x:HOk P w H h) (e:H a=some o):a < h.objs.size:=(x a o e).lt
theorem HOk.fresh (x:HOk P w H h) (e:h.objs.size<=a):H a=none:=by
 cases q:H a with
 | none=>rfl
 | some u=>exact absurd (Cg (x.lt q) e) (DK _)
def HOk.kept (x:HOk P w H h) (k:∀ b u,h.get? b=some u->h'.get? b=some u):HOk P w H h':=λ a o e=>
 (x a o e).stay (λ b u _ q=>k b u q) (λ _ q=>q) λ _ _ q=>q
def HOk.laid (x:HOk P w H h) (k:∀ b u,h.get? b=some u->h'.get? b=some u) (hp:h.objs.size<=a) (new:zxq P w (Ap H a o) h' a o):HOk P w (Ap H a o) h':=λ b u e=>by
 have hn:=x.fresh hp;by_cases hb:b=a
 ·subst hb;rw [Bp] at e;cases e;exact new
 ·rw [AE hb] at e;exact (x b u e).stay (λ c v _ q=>k c v q) (λ c q=>by rw [AE (JO q hn)];exact q) λ c xs q=>by rw [AE (JO q hn)];exact q
end
def Rd (H:Hp) (a:Addr) (u:HO):Prop:=H a=some u\/∃ o,H a=some (.frz o u)
def Rd.ok {P:AA}{w:A4}{H:Hp}{h:Heap}{a:Addr}{u:HO} (r:Rd H a u) (x:HOk P w H h):zxq P w H h a u:=by
 rcases r with r | ⟨o,r⟩
 ·exact x a u r
 ·obtain ⟨_,q⟩:=x a _ r;exact q
def M7:Option HO->Prop
 | some (.lst _)=>True
 | some (.dK _)=>True
 | some (.dT _)=>True
 | some (.set _ _)=>True
 | some (.ins _ _ _)=>True
 | some (.ext _)=>True
 | _=>False
section
variable {P:AA}{w:A4}{H:Hp}{h h':Heap}{x e:Addr}{o':HO}
def HOk.write (ok:HOk P w H h) (mu:M7 (H x)) (he:e=x\/H e=some (.own x)) (k:∀ b u,b≠e->h.get? b=some u->h'.get? b=some u) (heo:∃ u,h'.get? e=some u)
  (new:zxq P w (Ap H x o') h' x o'):HOk P w (Ap H x o') h':=λ b u q=>by
 have nown:∀ c y,H c=some (.own y)->c≠x:=λ c y r z=>by subst z;rw [r] at mu;exact mu
 have ntup:∀ c xs,H c=some (.tup xs)->c≠x:=λ c xs r z=>by subst z;rw [r] at mu;exact mu
 by_cases hb:b=x
 ·subst hb;rw [Bp] at q;cases q;exact new
 ·rw [AE hb] at q;by_cases hbe:b=e
  ·have q':H b=some (.own x):=by
    rcases he with z | z
    ·exact absurd (hbe.trans z) hb
    ·rw [hbe];exact z
   rw [q] at q';cases q';obtain ⟨v,hv⟩:=heo;exact ⟨v,by rw [hbe];exact hv⟩
  ·refine (ok b u q).stay (λ c v hc r=>k c v ?_ r) (λ c r=>by rw [AE (nown c b r)];exact r) λ c xs r=>by rw [AE (ntup c xs r)];exact r
   rcases hc with rfl | hc
   ·exact hbe
   ·rintro rfl;rcases he with z | z
    ·exact nown c b hc z
    ·rw [hc] at z;cases z;exact hb rfl
end
structure Un (fs ex:List Addr) (H H':Hp) (h h':Heap):Prop where
 keep:∀ b o,h.get? b=some o->H b=none->b∉fs->b∉ex->h'.get? b=some o
 slot:∀ b o,h.get? b=some o->H b=none->b∈fs->b∉ex->∃ sl,h'.get? b=some { o with slots:=sl }
 free:∀ b o,h.get? b=some o->H b=none->b∉ex->H' b=none
 there:∀ b o,h.get? b=some o->b∉ex->∃ o',h'.get? b=some o'
 tups:∀ b xs,H b=some (.tup xs)->H' b=some (.tup xs)
 frzs:∀ b o u,H b=some (.frz o u)->H' b=some (.frz o u)
 tbls:∀ b ps,H b=some (.tbl ps)->∃ more,H' b=some (.tbl (ps++more))
section
variable {fs fs' ex ex':List Addr}{H H1 H2:Hp}{h h1 h2 h':Heap}{a x e:Addr}{o:HO}
def Un.any (u:Un fs ex H H1 h h1) {b:Addr}{ob:Obj} (q:h.get? b=some ob) (n:H b=none) (hx:b∉ex):∃ sl,h1.get? b=some { ob with slots:=sl }:=by
 by_cases hb:b∈fs
 ·exact u.slot b ob q n hb hx
 ·exact ⟨ob.slots,u.keep b ob q n hb hx⟩
def Un.kept (k:∀ b u,h.get? b=some u->h'.get? b=some u):Un fs ex H H h h':=
 ⟨λ b ob q _ _ _=>k b ob q,λ b ob q _ _ _=>⟨ob.slots,k b ob q⟩,λ _ _ _ n _=>n,λ b ob q _=>⟨ob,k b ob q⟩,λ _ _ q=>q,λ _ _ _ q=>q,λ _ ps q=>⟨#[],by rw [q];simp⟩⟩
def Un.refl:Un fs ex H H h h:=Un.kept λ _ _ q=>q
def Un.laid (k:∀ b u,h.get? b=some u->h'.get? b=some u) (hp:h.objs.size<=a) (hn:H a=none):Un fs ex H (Ap H a o) h h' where
 keep:=λ b u q _ _ _=>k b u q
 slot:=λ b u q _ _ _=>⟨u.slots,k b u q⟩
 free:=λ b u q n _=>by rw [AE (Cf (Cg (AO q) hp))];exact n
 there:=λ b u q _=>⟨u,k b u q⟩
 tups:=λ b xs q=>by rw [AE (JO q hn)];exact q
 frzs:=λ b u xs q=>by rw [AE (JO q hn)];exact q
 tbls:=λ b ps q=>⟨#[],by rw [AE (JO q hn),q];simp⟩
def Un.write (mu:M7 (H x)) (he:e=x\/H e=some (.own x)) (k:∀ b u,b≠e->h.get? b=some u->h'.get? b=some u) (heo:∃ u,h'.get? e=some u):Un fs ex H (Ap H x o) h h':=by
 have hx:∀ b,H b=none->b≠x:=λ b n z=>by subst z;rw [n] at mu;exact mu
 have hb:∀ b,H b=none->b≠e:=λ b n z=>by
  subst z;rcases he with r | r
  ·exact hx b n r
  ·rw [n] at r;cases r
 have hm:∀ b u,H b=some u->¬ M7 (some u)->b≠x:=λ b u q nm z=>by subst z;rw [q] at mu;exact nm mu
 refine ⟨λ b u q n _ _=>k b u (hb b n) q,λ b u q n _ _=>⟨u.slots,k b u (hb b n) q⟩,λ b u q n _=>by rw [AE (hx b n)];exact n,λ b u q _=>?_,
  λ b xs q=>by rw [AE (hm b _ q λ z=>z)];exact q,λ b u xs q=>by rw [AE (hm b _ q λ z=>z)];exact q,λ b ps q=>⟨#[],by rw [AE (hm b _ q λ z=>z),q];simp⟩⟩
 by_cases hbe:b=e
 ·subst hbe;exact heo
 ·exact ⟨u,k b u hbe q⟩
end
def NV (h:Heap) (H:Hp):List Addr:=(A6 h.objs.size).filter λ a=>(H a).isSome
def D4 (h:Heap) (H:Hp):Heap:=PySem.W.hideAll h (NV h H)
def yf (h:Heap) (H:Hp):(D4 h H).objs.size=h.objs.size:=PySem.W.hideAll_size _ _
def vd {h:Heap}{H:Hp}{b:Addr}{o:Obj} (e:h.get? b=some o) (n:H b=none):(D4 h H).get? b=some o:=
 PySem.W.hideAll_get _ e λ hm=>by
  have q:(H b).isSome=true:=(je1.mp hm).2;rw [n] at q;simp at q
theorem jy {h:Heap}{H:Hp}{b:Addr}{o:Obj} (e:(D4 h H).get? b=some o):h.get? b=some o/\H b=none:=by
 have e':h.get? b=some o:=PySem.W.of_hideAll (NV h H) e;refine ⟨e',?_⟩;cases q:H b with
 | none=>rfl
 | some x=>
  have hm:b∈NV h H:=je1.mpr ⟨jc5.mpr (AO e'),by simp [q]⟩;have z:(D4 h H).get? b=none:=PySem.W.hideAll_none (NV h H) hm;rw [z] at e;cases e
def ji (g h:Heap) (L:Addr):List (Addr×Obj):=(A6 h.objs.size).filterMap λ a=>if a=L\/(g.get? a).isSome=true then none else (h.get? a).map λ o=>(a,o)
def rest (g h:Heap) (L d:Addr):List (Addr×Obj):=(ji g h L).filter λ p=>decide (p.1≠d)
structure Mod (K:PySem.W.Frag) (mg:Str->Option Ad) (base:Heap):Prop where
 kin:K.In base
 glob:base.Ns E5 mg
 blt:∃ mb,base.Ns builtinsNs mb/\∀ x:Str,x ≠ "__name__" -> mb x=Jq x
 nolimit:base.NoLimit
structure Cx where
 prog:AA
 w:A4
 K:PySem.W.Frag
 mg:Str->Option Ad
 base:Heap
 A:BD
 N:List Str
 s₀:Ai
 H₀:Hp
 env:Env
 outer:List Env
 stack:List Env
 ex:List Addr
 fn:Str->Bool
 calm:Bool
 pn:List (Addr×Obj)
 xe:Ad->Ai->Prop
def Gp (l:List Env):List Addr:=l.filterMap (·.frame)
abbrev Cx.fs (X:Cx):List Addr:=Gp X.outer
def IS (sc:Bv) (x:Str):Prop:=sc.names.lookup x=some .local\/sc.names.lookup x=some .cell\/sc.names.lookup x=some .free
def FC (sc:Bv) (x:Str):Prop:=sc.names.lookup x=some .local\/sc.names.lookup x=some .cell
def Ua (env:Env) (h:Heap) (m:Str->Option Ad) (x:Str) (u:Ad):Prop:=
 (env.kindOf x=some .local/\m x=some u)\/((env.kindOf x=some .cell\/env.kindOf x=some .free)/\∃ c,env.cells.lookup x=some c/\h.IsCell c (some u))
structure Cx.Ok (X:Cx):Prop where
 mod:Mod X.K X.mg X.base
 kind:X.env.scope.kind=.function
 glob:X.env.globals=E5
 blt:X.env.builtins=builtinsNs
 above:X.s₀.heap.objs.size<=X.env.locals
 inj:∀ x y c,X.env.cells.lookup x=some c->X.env.cells.lookup y=some c->x=y
 has:∀ x,(X.env.kindOf x=some .cell\/X.env.kindOf x=some .free)->∃ c,X.env.cells.lookup x=some c
 cab:∀ x c,X.fn x=true->X.env.cells.lookup x=some c->X.s₀.heap.objs.size<=c
 hd:X.calm=true->X.A.handled=none
 frames:X.A.frames=some X.stack
 stk:X.stack=X.outer\/(X.stack=X.env::X.outer/\X.env.frame=some X.env.locals)
 exf:∀ b∈X.ex,b≠X.env.locals/\∀ x c,X.env.cells.lookup x=some c->c≠b
 bs:∀ b o,X.base.get? b=some o->X.s₀.heap.get? b=some o/\X.H₀ b=none
 bsz:X.base.objs.size<=X.s₀.heap.objs.size
 noex:∀ b o,X.base.get? b=some o->b∉X.ex
 exfs:∀ b∈X.ex,b∉X.fs
 funs:X.s₀.heap.FunFrames X.base X.outer
 frf:∀ b∈X.fs,X.H₀ b=none
structure Inv (X:Cx) (pins:List (Addr×Obj)) (σ:List (Option V)) (H:Hp) (s:Ai):Prop where
 ok:X.Ok
 os:s.os=X.s₀.os
 bare:Hy s.gens
 base:Un X.fs X.ex X.H₀ H X.s₀.heap s.heap
 loc:∃ m,s.heap.Ns X.env.locals m/\∀ (i:Nat) (x:Str) (v:V),X.N[i]?=some x->σ[i]?=some (some v)->IS X.env.scope x->∃ u,RelV v u/\Ua X.env s.heap m x u
 cell:∀ x c,X.env.cells.lookup x=some c->∃ v,s.heap.IsCell c v
 free:H X.env.locals=none
 freeC:∀ x c,X.env.cells.lookup x=some c->H c=none
 pin:∀ p∈X.pn++pins,s.heap.get? p.1=some p.2/\H p.1=none/\p.1≠X.env.locals/\p.1∉X.fs/\∀ v,p.2.data≠.cell v
 hok:HOk X.prog X.w H s.heap
 len:σ.length=X.N.length
section
variable {X:Cx}{pins:List (Addr×Obj)}{σ:List (Option V)}{H H':Hp}{s:Ai}{h':Heap}
def Cx.Ok.nofr (ok:X.Ok) {b:Addr}{o:Obj} (e:X.base.get? b=some o):b∉X.fs:=λ hb=>by
 have:=(ok.funs.mem hb).1
 rw [e] at this;cases this
def Inv.bs (I:Inv X pins σ H s):∀ b o,X.base.get? b=some o->s.heap.get? b=some o/\H b=none:=λ b o e=>
 ⟨I.base.keep b o (I.ok.bs b o e).1 (I.ok.bs b o e).2 (I.ok.nofr e) (I.ok.noex b o e),I.base.free b o (I.ok.bs b o e).1 (I.ok.bs b o e).2 (I.ok.noex b o e)⟩
def Inv.bk (I:Inv X pins σ H s):∀ b o,X.base.get? b=some o->s.heap.get? b=some o:=λ b o e=>(I.bs b o e).1
def Inv.mod (I:Inv X pins σ H s):Mod X.K X.mg X.base:=I.ok.mod
def Inv.kIn (I:Inv X pins σ H s):X.K.In s.heap:=I.ok.mod.kin.keeps I.bk
def Inv.lt (I:Inv X pins σ H s):X.env.locals < s.heap.objs.size:=let ⟨_,hn,_⟩:=I.loc;hn.lt
def Inv.sz (I:Inv X pins σ H s):X.s₀.heap.objs.size<=s.heap.objs.size:=Cw I.ok.above (Mn I.lt)
def Inv.nofs (I:Inv X pins σ H s) {a:Addr} (h:s.heap.objs.size<=a):a∉X.fs:=λ hb=>by
 obtain ⟨_,o,ho,_⟩:=I.ok.funs.mem hb;exact absurd (Cg (AO ho) (Cw I.sz h)) (DK _)
def Inv.cne (I:Inv X pins σ H s):∀ x c,X.env.cells.lookup x=some c->c≠X.env.locals:=λ x c e z=>by
 obtain ⟨v,o,ho,hd⟩:=I.cell x c e;obtain ⟨m,⟨o',es,ep,ho',hd',_⟩,_⟩:=I.loc;rw [z,ho'] at ho;cases ho;rw [hd'] at hd;cases hd
def Inv.funs (I:Inv X pins σ H s):s.heap.FunFrames X.base X.outer:=by
 have all:∀ (l:List Env),(∀ b∈Gp l,b∈X.fs)->X.s₀.heap.FunFrames X.base l->s.heap.FunFrames X.base l:=by
  intro l;induction l with
  | nil=>intro _ _;trivial
  | cons env r ih=>
   intro hs hl;obtain ⟨hk,⟨L,o,hf,hn,ho,hd⟩,hr⟩:=hl;have hL:L∈X.fs:=hs L (by unfold Gp;rw [Pn,hf];exact AH);obtain ⟨sl,e⟩:=I.base.slot L o ho (I.ok.frf L hL) hL λ z=>I.ok.exfs L z hL;exact ⟨hk,⟨L,_,hf,hn,e,hd⟩,ih (λ b hb=>hs b (by unfold Gp;rw [Pn,hf];exact AI _ hb)) hr⟩
 exact all X.outer (λ _ hb=>hb) I.ok.funs
def Inv.stack (I:Inv X pins σ H s):s.heap.FunFrames X.base X.stack:=by
 rcases I.ok.stk with e | ⟨e,hf⟩
 ·rw [e];exact I.funs
 ·rw [e];obtain ⟨m,hn,_⟩:=I.loc;refine .cons (by rw [I.ok.kind];decide) hf hn ?_ I.funs;exact Heap.get?_none_of_le (Cw I.ok.bsz I.ok.above)
def Inv.stkSub (I:Inv X pins σ H s):∀ b∈Gp X.stack,b∈X.env.locals::X.fs:=λ b hb=>by
 rcases I.ok.stk with e | ⟨e,hf⟩
 ·rw [e] at hb;exact AI _ hb
 ·rw [e] at hb;unfold Gp at hb;rw [Pn,hf] at hb;exact hb
def Inv.stkFree (I:Inv X pins σ H s):∀ b∈Gp X.stack,H b=none:=λ b hb=>by
 rcases jb5.mp (I.stkSub b hb) with e | hb
 ·rw [e];exact I.free
 ·obtain ⟨_,o,ho,_⟩:=I.ok.funs.mem hb;exact I.base.free b o ho (I.ok.frf b hb) λ z=>I.ok.exfs b z hb
def Inv.step {g':Array GenState}{t':Nat}{d':Drawn}{ch:List Addr} (I:Inv X pins σ H s)
  (hch:∀ b∈ch,(b∈X.ex\/X.s₀.heap.objs.size<=b)/\b≠X.env.locals/\(∀ x c,X.env.cells.lookup x=some c->c≠b)/\∀ p∈X.pn++pins,p.1≠b)
  (keep:∀ b o,b≠X.env.locals->b∉X.fs->b∉ch->s.heap.get? b=some o->H b=none->h'.get? b=some o)
  (slot:∀ b o,b≠X.env.locals->b∈X.fs->b∉ch->s.heap.get? b=some o->H b=none->∃ sl,h'.get? b=some { o with slots:=sl }) (free:∀ b o,b∉ch->s.heap.get? b=some o->H b=none->H' b=none)
  (there:∀ b o,b∉ch->s.heap.get? b=some o->∃ o',h'.get? b=some o')
  (tups:∀ b xs,H b=some (.tup xs)->H' b=some (.tup xs)) (frzs:∀ b o u,H b=some (.frz o u)->H' b=some (.frz o u)) (tbls:∀ b ps,H b=some (.tbl ps)->∃ more,H' b=some (.tbl (ps++more)))
  (ns:∀ m,s.heap.Ns X.env.locals m->h'.Ns X.env.locals m) (hok:HOk X.prog X.w H' h') (hg:Hy g'):
  Inv X pins σ H' { s with heap:=h',gens:=g',drawn:=d',toks:=t' }:=by
 have neL:∀ b o,X.s₀.heap.get? b=some o->b≠X.env.locals:=λ b o e=>Cf (Cg (AO e) I.ok.above);have neC:∀ b o,X.s₀.heap.get? b=some o->b∉X.ex->b∉ch:=λ b o e hx hb=>by
  rcases (hch b hb).1 with z | z
  ·exact hx z
  ·exact absurd (Cg (AO e) z) (DK _)
 have cellK:∀ x c,X.env.cells.lookup x=some c->∀ v,s.heap.IsCell c v->h'.IsCell c v:=λ x c e v ⟨o,ho,hd⟩=>by
  have nch:c∉ch:=λ z=>(hch c z).2.2.1 x c e rfl;by_cases hc:c∈X.fs
  ·obtain ⟨sl,q⟩:=slot c o (I.cne x c e) hc nch ho (I.freeC x c e);exact ⟨_,q,hd⟩
  ·exact ⟨o,keep c o (I.cne x c e) hc nch ho (I.freeC x c e),hd⟩
 refine ⟨I.ok,I.os,hg,⟨λ b o e n hb hx=>?_,λ b o e n hb hx=>?_,λ b o e n hx=>?_,λ b o e hx=>?_,λ b xs e=>tups b xs (I.base.tups b xs e),λ b o xs e=>frzs b o xs (I.base.frzs b o xs e),λ b ps e=>?_⟩,?_,λ x c e=>?_,?_,λ x c e=>?_,λ p hp=>?_,hok,I.len⟩
 ·exact keep b o (neL b o e) hb (neC b o e hx) (I.base.keep b o e n hb hx) (I.base.free b o e n hx)
 ·obtain ⟨sl,e1⟩:=I.base.slot b o e n hb hx;obtain ⟨sl',e2⟩:=slot b _ (neL b o e) hb (neC b o e hx) e1 (I.base.free b o e n hx);exact ⟨sl',e2⟩
 ·obtain ⟨o',e1⟩:=I.base.there b o e hx;exact free b o' (neC b o e hx) e1 (I.base.free b o e n hx)
 ·obtain ⟨o',e1⟩:=I.base.there b o e hx;exact there b o' (neC b o e hx) e1
 ·obtain ⟨m1,e1⟩:=I.base.tbls b ps e;obtain ⟨m2,e2⟩:=tbls b _ e1;exact ⟨m1++m2,by rw [e2,Array.append_assoc]⟩
 ·obtain ⟨m,hn,hl⟩:=I.loc;refine ⟨m,ns m hn,λ i x v e1 e2 e3=>?_⟩;obtain ⟨u,r,l⟩:=hl i x v e1 e2 e3;refine ⟨u,r,?_⟩;rcases l with l | ⟨k,c,e,z⟩
  ·exact .inl l
  ·exact .inr ⟨k,c,e,cellK x c e _ z⟩
 ·obtain ⟨v,z⟩:=I.cell x c e;exact ⟨v,cellK x c e v z⟩
 ·obtain ⟨m,⟨o,_,_,ho,_⟩,_⟩:=I.loc;exact free _ o (λ z=>(hch _ z).2.1 rfl) ho I.free
 ·obtain ⟨v,o,ho,hd⟩:=I.cell x c e;exact free c o (λ z=>(hch c z).2.2.1 x c e rfl) ho (I.freeC x c e)
 ·obtain ⟨e,n,ne,nf,d⟩:=I.pin p hp;have nch:p.1∉ch:=λ z=>(hch p.1 z).2.2.2 p hp rfl;exact ⟨keep p.1 p.2 ne nf nch e n,free p.1 p.2 nch e n,ne,nf,d⟩
def Inv.un {t':Nat} (I:Inv X pins σ H s) (u:Un X.fs [] H H' s.heap h') (hok:HOk X.prog X.w H' h'):Inv X pins σ H' { s with heap:=h',toks:=t' }:=by
 obtain ⟨m,⟨o,es,ep,ho,r⟩,_⟩:=id I.loc;obtain ⟨sl,hL⟩:=u.any ho I.free (by simp);exact I.step (g':=s.gens) (d':=s.drawn) (ch:=[]) (λ _ z=>nomatch z) (λ b o _ hb _ e n=>u.keep b o e n hb (by simp)) (λ b o _ hb _ e n=>u.slot b o e n hb (by simp)) (λ b o _ e n=>u.free b o e n (by simp)) (λ b o _ e=>u.there b o e (by simp)) u.tups u.frzs u.tbls (λ m' hm=>by
  obtain ⟨o',es',ep',ho',r'⟩:=hm;rw [ho] at ho';cases ho';exact ⟨_,es',ep',hL,r'⟩) hok I.bare
def Inv.call {g':Array GenState}{t':Nat}{d':Drawn}{ch:List Addr} (I:Inv X pins σ H s) (u:Un (Gp X.stack) ch H H' s.heap h') (hok:HOk X.prog X.w H' h') (hg:Hy g')
  (hch:∀ b∈ch,(b∈X.ex\/X.s₀.heap.objs.size<=b)/\b≠X.env.locals/\(∀ x c,X.env.cells.lookup x=some c->c≠b)/\∀ p∈X.pn++pins,p.1≠b):
  Inv X pins σ H' { s with heap:=h',gens:=g',drawn:=d',toks:=t' }:=by
 obtain ⟨m,⟨o,es,ep,ho,r⟩,_⟩:=id I.loc;obtain ⟨sl,hL⟩:=u.any ho I.free λ z=>(hch _ z).2.1 rfl;exact I.step (ch:=ch) hch (λ b o hL hb hc e n=>u.keep b o e n (λ z=>(jb5.mp (I.stkSub b z)).elim hL hb) hc) (λ b o _ _ hc e n=>u.any e n hc) (λ b o hc e n=>u.free b o e n hc) (λ b o hc e=>u.there b o e hc) u.tups u.frzs u.tbls (λ m' hm=>by
  obtain ⟨o',es',ep',ho',r'⟩:=hm;rw [ho] at ho';cases ho';exact ⟨_,es',ep',hL,r'⟩) hok hg
def Inv.turned {t':Nat}{it:Addr} (I:Inv X pins σ H s) (k:∀ b o,b≠it->s.heap.get? b=some o->h'.get? b=some o) (hn:H it=none) (hL:it≠X.env.locals)
  (h1:it∈X.ex\/X.s₀.heap.objs.size<=it) (h2:∀ x c,X.env.cells.lookup x=some c->c≠it) (h3:∀ p∈X.pn++pins,p.1≠it):Inv X pins σ H { s with heap:=h',toks:=t' }:=by
 have nit:∀ b u,H b=some u->b≠it:=λ b u e z=>by rw [z,hn] at e;cases e
 refine I.step (g':=s.gens) (d':=s.drawn) (ch:=[it]) (λ b hb=>?_) (λ b o _ _ hc e _=>k b o (λ z=>hc (by simp [z])) e) (λ b o _ _ hc e _=>⟨o.slots,k b o (λ z=>hc (by simp [z])) e⟩) (λ _ _ _ _ n=>n)
  (λ b o hc e=>⟨o,k b o (λ z=>hc (by simp [z])) e⟩) (λ _ _ e=>e) (λ _ _ _ e=>e) (λ b ps e=>⟨#[],by rw [e];simp⟩) (λ m hm=>?_) (λ b u e=>?_) I.bare
 ·have e:b=it:=by simpa using hb
  subst e;exact ⟨h1,hL,h2,h3⟩
 ·obtain ⟨o,es,ep,ho,r⟩:=hm;exact ⟨o,es,ep,k _ o (BE hL) ho,r⟩
 ·refine (I.hok b u e).stay (λ c v hc q=>k c v ?_ q) (λ _ q=>q) λ _ _ q=>q;rcases hc with z | z
  ·rw [z];exact nit b u e
  ·exact nit c _ z
def Inv.tok (I:Inv X pins σ H s) (t:Nat):Inv X pins σ H { s with toks:=t }:=I.un (h':=s.heap) (t':=t) Un.refl I.hok
def Inv.kept {t':Nat} (I:Inv X pins σ H s) (k:∀ b u,s.heap.get? b=some u->h'.get? b=some u):Inv X pins σ H { s with heap:=h',toks:=t' }:=I.un (Un.kept k) (I.hok.kept k)
def Inv.laid {a:Addr}{o:HO}{t':Nat} (I:Inv X pins σ H s) (k:∀ b u,s.heap.get? b=some u->h'.get? b=some u) (hp:s.heap.objs.size<=a) (new:zxq X.prog X.w (Ap H a o) h' a o):
  Inv X pins σ (Ap H a o) { s with heap:=h',toks:=t' }:=I.un (Un.laid k hp (I.hok.fresh hp)) (I.hok.laid k hp new)
def Inv.write {x e:Addr}{o:HO}{t':Nat} (I:Inv X pins σ H s) (mu:M7 (H x)) (he:e=x\/H e=some (.own x)) (k:∀ b u,b≠e->s.heap.get? b=some u->h'.get? b=some u) (heo:∃ u,h'.get? e=some u)
  (new:zxq X.prog X.w (Ap H x o) h' x o):Inv X pins σ (Ap H x o) { s with heap:=h',toks:=t' }:=I.un (Un.write mu he k heo) (I.hok.write mu he k heo new)
def Inv.pins_of {pins':List (Addr×Obj)} (I:Inv X pins σ H s) (h:∀ p∈pins',s.heap.get? p.1=some p.2/\H p.1=none/\p.1≠X.env.locals/\p.1∉X.fs/\∀ v,p.2.data≠.cell v):Inv X pins' σ H s:=
 ⟨I.ok,I.os,I.bare,I.base,I.loc,I.cell,I.free,I.freeC,λ p hp=>(jd4.mp hp).elim (λ z=>I.pin p (BU _ z)) (h p),I.hok,I.len⟩
def XF {N:List Str} (hN:N.Nodup) {i j:Nat}{x:Str} (a:N[i]?=some x) (b:N[j]?=some x):i=j:=by
 obtain ⟨h1,e1⟩:=jb0.mp a;obtain ⟨h2,e2⟩:=jb0.mp b;exact (List.getElem_inj hN).mp (e1.trans e2.symm)
def UD {M:Model}{A:BD}{E:Ad->Ai->Prop}{i:Nat}{x:Str}{v:V}{u:Ad}{Q:Unit->Ai->Prop} (I:Inv X pins σ H s) (hN:X.N.Nodup) (hi:X.N[i]?=some x) (hx:FC X.env.scope x) (r:RelV v u)
  (h:∀ s',Inv X pins (σ.set i (some v)) H s'->(∃ a,Jp a s.heap s'.heap/\(a=X.env.locals\/X.env.cells.lookup x=some a))->Q () s') (hf:X.fn x=true\/X.env.scope.names.lookup x=some .local:=by first | exact .inl rfl | exact .inr rfl | assumption):Ak M A (storeName X.env x u) Q E s:=by
 obtain ⟨m,hn,hl⟩:=id I.loc;have hcls:(X.env.scope.kind == .class || (X.env.scope.kind == .module && X.env.locals != X.env.globals))=false:=by rw [I.ok.kind];rfl
 have hiσ:i < σ.length:=by rw [I.len];exact (jb0.mp hi).1
 have cne:=I.cne;have tracked:∀ {a:Addr}{h':Heap},(∃ o,s.heap.get? a=some o/\H a=none)->Jp a s.heap h'->HOk X.prog X.w H h':=λ {a h'} ha hs b ob e=>by
  obtain ⟨_,_,hfree⟩:=ha;refine (I.hok b ob e).stay (λ c w' hc q=>(hs.2 c ?_).trans q) (λ _ q=>q) λ _ _ q=>q;rintro rfl;rcases hc with rfl | hc
  ·rw [hfree] at e;cases e
  ·rw [hfree] at hc;cases hc
 rcases hx with hk | hk
 ·refine wpAny_storeName_local hk hn (λ h' hn' hs=>?_) hcls;obtain ⟨oL,_,_,hoL,_⟩:=id hn;refine h _ ⟨I.ok,I.os,I.bare,⟨λ b o e n hb hx=>?_,λ b o e n hb hx=>?_,I.base.free,λ b o e hx=>?_,I.base.tups,I.base.frzs,I.base.tbls⟩,⟨_,hn',λ j y v' e1 e2 e3=>?_⟩,λ y c e=>?_,I.free,I.freeC,λ p hp=>?_,tracked ⟨oL,hoL,I.free⟩ hs,by simpa using I.len⟩ ⟨_,hs,.inl rfl⟩
  ·exact (hs.2 b (Cf (Cg (AO e) I.ok.above))).trans (I.base.keep b o e n hb hx)
  ·obtain ⟨sl,e1⟩:=I.base.slot b o e n hb hx;exact ⟨sl,(hs.2 b (Cf (Cg (AO e) I.ok.above))).trans e1⟩
  ·obtain ⟨o',e1⟩:=I.base.there b o e hx;exact ⟨o',(hs.2 b (Cf (Cg (AO e) I.ok.above))).trans e1⟩
  ·by_cases hj:j=i
   ·subst hj;rw [hi] at e1;cases e1;rw [DT hiσ] at e2;cases e2;exact ⟨u,r,.inl ⟨hk,by simp⟩⟩
   ·rw [CK (BE hj)] at e2;obtain ⟨u',r',q⟩:=hl j y v' e1 e2 e3;refine ⟨u',r',?_⟩;rcases q with ⟨k,e⟩ | ⟨k,c,e,z⟩
    ·refine .inl ⟨k,?_⟩
     have:y≠x:=λ e=>hj (XF hN e1 (e ▸ hi))
     simp [this,e]
    ·exact .inr ⟨k,c,e,z.sameBut hs (cne y c e)⟩
  ·obtain ⟨w',z⟩:=I.cell y c e;exact ⟨w',z.sameBut hs (cne y c e)⟩
  ·obtain ⟨e,n,ne,nf,d⟩:=I.pin p hp;exact ⟨(hs.2 p.1 ne).trans e,n,ne,nf,d⟩
 ·have hfn:X.fn x=true:=by
   rcases hf with z | z
   ·exact z
   ·rw [z] at hk;cases hk
  obtain ⟨c,hc⟩:=I.ok.has x (.inl hk);obtain ⟨w',z⟩:=I.cell x c hc;refine wpAny_storeName_cell I.ok.kind hk hc z (λ h' hc' hs=>?_);obtain ⟨oc,hoc,hocd⟩:=id z;refine h { s with heap:=h' } ⟨I.ok,I.os,I.bare,⟨λ b o e n hb hx=>?_,λ b o e n hb hx=>?_,I.base.free,λ b o e hx=>?_,I.base.tups,I.base.frzs,I.base.tbls⟩,⟨m,hn.sameBut hs (BE (cne x c hc)),λ j y v' e1 e2 e3=>?_⟩,λ y c' e=>?_,I.free,I.freeC,λ p hp=>?_,tracked ⟨oc,hoc,I.freeC x c hc⟩ hs,by simpa using I.len⟩ ⟨c,hs,.inr hc⟩
  ·exact (hs.2 b (Cf (Cg (AO e) (I.ok.cab x c hfn hc)))).trans (I.base.keep b o e n hb hx)
  ·obtain ⟨sl,e1⟩:=I.base.slot b o e n hb hx;exact ⟨sl,(hs.2 b (Cf (Cg (AO e) (I.ok.cab x c hfn hc)))).trans e1⟩
  ·obtain ⟨o',e1⟩:=I.base.there b o e hx;exact ⟨o',(hs.2 b (Cf (Cg (AO e) (I.ok.cab x c hfn hc)))).trans e1⟩
  ·by_cases hj:j=i
   ·subst hj;rw [hi] at e1;cases e1;rw [DT hiσ] at e2;cases e2;exact ⟨u,r,.inr ⟨.inl hk,c,hc,hc'⟩⟩
   ·rw [CK (BE hj)] at e2;obtain ⟨u',r',q⟩:=hl j y v' e1 e2 e3;refine ⟨u',r',?_⟩;rcases q with q | ⟨k,c',e,z'⟩
    ·exact .inl q
    ·refine .inr ⟨k,c',e,z'.sameBut hs ?_⟩;rintro rfl;exact hj (XF hN e1 (I.ok.inj _ _ _ e hc ▸ hi))
  ·by_cases hcc:c'=c
   ·subst hcc;exact ⟨_,hc'⟩
   ·obtain ⟨w2,z2⟩:=I.cell y c' e;exact ⟨w2,z2.sameBut hs hcc⟩
  ·obtain ⟨e,n,ne,nf,d⟩:=I.pin p hp;refine ⟨(hs.2 p.1 ?_).trans e,n,ne,nf,d⟩;intro q;rw [q,hoc] at e;have q':oc=p.2:=Option.some.inj e;exact d w' (by rw [<- q'];exact hocd)
def Jc {M:Model}{A:BD}{E:Ad->Ai->Prop}{i:Nat}{x:Str}{v:V}{u:Ad}{Q:Unit->Ai->Prop} (I:Inv X pins σ H s) (hN:X.N.Nodup) (hi:X.N[i]?=some x) (hx:FC X.env.scope x) (r:RelV v u)
  (h:∀ s',Inv X pins (σ.set i (some v)) H s'->Q () s') (hf:X.fn x=true\/X.env.scope.names.lookup x=some .local:=by first | exact .inl rfl | exact .inr rfl | assumption):Ak M A (storeName X.env x u) Q E s:=
 UD I hN hi hx r (λ s' I' _=>h s' I') hf
def Inv.call' {s':Ai}{ch:List Addr} (I:Inv X pins σ H s) (ho:s'.os=s.os) (u:Un (Gp X.stack) ch H H' s.heap s'.heap) (hok:HOk X.prog X.w H' s'.heap) (hg:Hy s'.gens)
  (hch:∀ b∈ch,(b∈X.ex\/X.s₀.heap.objs.size<=b)/\b≠X.env.locals/\(∀ x c,X.env.cells.lookup x=some c->c≠b)/\∀ p∈X.pn++pins,p.1≠b):Inv X pins σ H' s':=by
 obtain ⟨h',g',d',t',o'⟩:=s';have e:o'=s.os:=ho;subst e;exact I.call (g':=g') (t':=t') (d':=d') u hok hg hch
end
abbrev XK:=Ad->Option Addr->Hp->Prop
abbrev St:=List (Option V)
abbrev VK:=V->Hp->Prop
abbrev TE:=St->Hp->VK->Prop
abbrev TT:=St->Hp->(Bool->Hp->Prop)->Prop
abbrev TA:=St->Hp->(List V->Hp->Prop)->Prop
structure Ends where
 nx:St->Hp->Prop
 rt:VK
 bk:St->Hp->Prop:=λ _ _=>False
 ct:St->Hp->Prop:=λ _ _=>False
abbrev TS:=Ends->St->Hp->Prop
def EP (X:Cx) (pins:List (Addr×Obj)) (σ:St) (Q:VK) (u:Ad) (s':Ai):Prop:=∃ v H',Inv X pins σ H' s'/\RelV v u/\Q v H'
def TP (X:Cx) (pins:List (Addr×Obj)) (σ:St) (Q:Bool->Hp->Prop) (b:Bool) (s':Ai):Prop:=∃ H',Inv X pins σ H' s'/\Q b H'
def AP (X:Cx) (pins:List (Addr×Obj)) (σ:St) (Q:List V->Hp->Prop) (us:List Ad) (s':Ai):Prop:=∃ vs H',Inv X pins σ H' s'/\Vals vs us/\Q vs H'
def SP (X:Cx) (pins:List (Addr×Obj)) (D:Ends) (f:Flow) (s':Ai):Prop:=
 match f with
 | .next=>∃ σ' H',Inv X pins σ' H' s'/\D.nx σ' H'
 | .brk=>∃ σ' H',Inv X pins σ' H' s'/\D.bk σ' H'
 | .cont=>∃ σ' H',Inv X pins σ' H' s'/\D.ct σ' H'
 | .ret u=>∃ v σ' H',Inv X pins σ' H' s'/\RelV v u/\D.rt v H'
def PE (X:Cx) (e:Expr) (t:TE):Prop:=
 ∀ (pins:List (Addr×Obj)) (s:Ai) (σ:St) (H:Hp) (Q:VK),Inv X pins σ H s->t σ H Q->Ak (Av X.prog X.w) X.A (eval e X.env) (EP X pins σ Q) X.xe s
def PT (X:Cx) (e:Expr) (t:TT):Prop:=
 ∀ (pins:List (Addr×Obj)) (s:Ai) (σ:St) (H:Hp) (Q:Bool->Hp->Prop),Inv X pins σ H s->t σ H Q->Ak (Av X.prog X.w) X.A (isTrue e X.env (eval e X.env)) (TP X pins σ Q) X.xe s
def PW (X:Cx) (e:Expr) (t:TT):Prop:=
 ∀ (whole:Sem Ad) (pins:List (Addr×Obj)) (s:Ai) (σ:St) (H:Hp) (Q:Bool->Hp->Prop),Inv X pins σ H s->t σ H Q->Ak (Av X.prog X.w) X.A (isTrue e X.env whole) (TP X pins σ Q) X.xe s
def PW.pt {X:Cx}{e:Expr}{t:TT} (h:PW X e t):PT X e t:=h _
def PA (X:Cx) (es:List Expr) (t:TA):Prop:=
 ∀ (pos:Pos) (pins:List (Addr×Obj)) (s:Ai) (σ:St) (H:Hp) (Q:List V->Hp->Prop),Inv X pins σ H s->t σ H Q->Ak (Av X.prog X.w) X.A (spliced (Dh pos (AK es X.env))) (AP X pins σ Q) X.xe s
def PS (X:Cx) (st:Stmt) (t:TS):Prop:=
 ∀ (pins:List (Addr×Obj)) (s:Ai) (σ:St) (H:Hp) (D:Ends),Inv X pins σ H s->t D σ H->Ak (Av X.prog X.w) X.A (exec st X.env) (SP X pins D) X.xe s
def En (X:Cx) (st:List Stmt) (t:TS):Prop:=
 ∀ (pins:List (Addr×Obj)) (s:Ai) (σ:St) (H:Hp) (D:Ends),Inv X pins σ H s->t D σ H->Ak (Av X.prog X.w) X.A (execs st X.env) (SP X pins D) X.xe s
def Az {α:Type}{t:Sem α}{Q Q':α->Ai->Prop}{M:Model}{A:BD}{E:Ad->Ai->Prop}{s:Ai} (h:Ak M A t Q E s) (hQ:∀ a s,Q a s->Q' a s):Ak M A t Q' E s:=HA h hQ λ _ _ x=>x
section
variable {X:Cx}
def bo {a b:Expr}{ta tb:TE} (ha:PE X a ta) (hb:PE X b tb) {pins:List (Addr×Obj)}{s:Ai}{σ:St}{H:Hp}{R:V->V->Hp->Prop} (I:Inv X pins σ H s) (h:ta σ H λ x H1=>tb σ H1 λ y H2=>R x y H2)
  {α:Type}{Q:α->Ai->Prop}{f:Ad->Ad->Sem α}
  (hf:∀ v u s2 x y H2,Inv X pins σ H2 s2->RelV x v->RelV y u->R x y H2->Ak (Av X.prog X.w) X.A (f v u) Q X.xe s2):
  Ak (Av X.prog X.w) X.A (eval a X.env) (λ v s₁=>Ak (Av X.prog X.w) X.A (eval b X.env) (λ u s₂=>Ak (Av X.prog X.w) X.A (f v u) Q X.xe s₂) X.xe s₁) X.xe s:=by
 refine Az (ha pins s σ H _ I h) λ v s1 ⟨x,H1,I1,r1,q1⟩=>?_;refine Az (hb pins s1 σ H1 _ I1 q1) λ u s2 ⟨y,H2,I2,r2,q2⟩=>?_;exact hf v u s2 x y H2 I2 r1 r2 q2
def DF (i:Nat):TE:=λ σ H Q=>∃ v,σ[i]?=some (some v)/\Q v H
def tC (v:V):TE:=λ _ H Q=>Q v H
def xY {i:Nat}{x:Str}{pos:Pos} (hN:X.N[i]?=some x) (hv:IS X.env.scope x) (hd:(x == ("__debug__" : Str))=false:=by decide) (hcd:(x == ("__classdict__" : Str))=false:=by decide):PE X (.Name x pos) (DF i):=by
 intro pins s σ H Q I h;obtain ⟨v,e,h⟩:=h;obtain ⟨m,hn,hl⟩:=I.loc;obtain ⟨u,r,l⟩:=hl i x v hN e hv;have fin:EP X pins σ Q u s:=⟨v,H,I,r,h⟩
 rcases l with ⟨hk,hm⟩ | ⟨hk,c,hc,hcell⟩
 ·exact wpAny_Name (wpAny_loadName_local I.ok.kind hk hn hm fin) hd
 ·rcases hk with hk | hk
  ·exact wpAny_Name (wpAny_loadName_cell I.ok.kind hk hc hcell fin) hd
  ·exact wpAny_Name (wpAny_loadName_free I.ok.kind hk hc hcell fin hcd) hd
def Wo {i j pos}:PE X (.Constant (.int i) j pos) (tC (.int i)):=λ _ _ _ H _ I h=>wpAny_Constant_int ⟨.int i,H,I.tok _,⟨_,rfl⟩,h⟩
def qu {b j pos}:PE X (.Constant (.bool b) j pos) (tC (.bl b)):=λ _ _ _ H _ I h=>Constant_bool ⟨.bl b,H,I,rfl,h⟩
def xl {j pos}:PE X (.Constant .none j pos) (tC .non):=λ _ _ _ H _ I h=>Constant_none ⟨.non,H,I,rfl,h⟩
def xW {x j pos}:PE X (.Constant (.str x) j pos) (tC (.str x)):=λ _ _ _ H _ I h=>Calls.Constant_str ⟨.str x,H,I.tok _,⟨_,rfl⟩,h⟩
def Gl (X:Cx) (x:Str):Prop:=X.env.kindOf x=some .globalImplicit
def jl {E:Ad->Ai->Prop}{pins:List (Addr×Obj)}{s:Ai}{σ:St}{H:Hp}{x:Str}{u:Ad}{pos:Pos}{Q:Ad->Ai->Prop} (I:Inv X pins σ H s) (hg:Gl X x) (hm:X.mg x=some u) (h:Q u s)
  (hd:(x == ("__debug__" : Str))=false:=by decide):Ak (Av X.prog X.w) X.A (eval (.Name x pos) X.env) Q E s:=
 UT I.ok.kind hg (Calls.loadGlobal_global (by rw [I.ok.glob];exact I.mod.glob.keeps I.bk) hm h) hd
def FK {E:Ad->Ai->Prop}{pins:List (Addr×Obj)}{s:Ai}{σ:St}{H:Hp}{x:Str}{u:Ad}{pos:Pos}{Q:Ad->Ai->Prop} (I:Inv X pins σ H s) (hg:Gl X x) (hm:X.mg x=none) (hv:Jq x=some u) (h:Q u s)
  (hn:x ≠ "__name__" := by decide) (hd:(x == ("__debug__" : Str))=false:=by decide):Ak (Av X.prog X.w) X.A (eval (.Name x pos) X.env) Q E s:=by
 obtain ⟨mb,h1,h2⟩:=I.mod.blt;exact UT I.ok.kind hg (Calls.loadGlobal_builtin (by rw [I.ok.glob];exact I.mod.glob.keeps I.bk) hm (by rw [I.ok.blt];exact h1.keeps I.bk) ((h2 x hn).trans hv) h) hd
def j5 {x:Str}{v:V}{u:Ad}{pos:Pos} (hg:Gl X x) (hm:X.mg x=none) (hv:Jq x=some u) (r:RelV v u) (hn:x ≠ "__name__" := by decide) (hd:(x == ("__debug__" : Str))=false:=by decide):PE X (.Name x pos) (tC v):=
 λ _ _ _ H _ I h=>FK I hg hm hv ⟨v,H,I,r,h⟩ hn hd
variable {a b:Expr}{ta tb:TE}{pos:Pos}
def PC (X:Cx) (op:E3) (a b:Expr) (t:TE):Prop:=
 ∀ (pins:List (Addr×Obj)) (s:Ai) (σ:St) (H:Hp) (Q:VK),Inv X pins σ H s->t σ H Q ->
  Ak (Av X.prog X.w) X.A (eval a X.env) (λ v s₁=>Ak (Av X.prog X.w) X.A (eval b X.env) (λ u s₂=>Ak (Av X.prog X.w) X.A (CC op v u) (EP X pins σ Q) X.xe s₂) X.xe s₁) X.xe s
def Io (b:Expr) {op:E3} (h:op≠.In) (h2:op≠.NotIn):Kn op b=false:=by
 have e1:(op == CmpOp.In)=false:=by cases op <;> first | rfl | exact absurd rfl h
 have e2:(op == CmpOp.NotIn)=false:=by cases op <;> first | rfl | exact absurd rfl h2
 cases b <;> simp [Kn,e1,e2]
def tB (t:TE):TT:=λ σ H Q=>t σ H λ x H1=>∃ c,x=.bl c/\Q c H1
def xC {e:Expr}{t:TE} (h:PE X e t) (he:∀ whole,isTrue e X.env whole=(do let v<-whole;standAt e.pos;holding [v] (truthy v)):=by intro _;rfl):PT X e (tB t):=by
 intro pins s σ H Q I hw;refine isTrue_plain (Az (h pins s σ H _ I hw) λ v s1 ⟨x,H1,I1,r1,q1⟩=>?_) (he _);obtain ⟨d,rfl,q⟩:=q1;cases r1;exact HD ⟨H1,I1,q⟩
variable {tA tB':TT}{rest:List Expr}
def Jz (t u:TT):TT:=λ σ H Q=>t σ H λ c H1=>if c=true then u σ H1 Q else Q false H1
def Rp (t u:TT):TT:=λ σ H Q=>t σ H λ c H1=>if c=true then Q true H1 else u σ H1 Q
def Jy (t:TT):TT:=λ σ H Q=>t σ H λ c H1=>Q (!c) H1
theorem jJ (ha:PT X a tA):PW X (.BoolOp .And [a] pos) tA:=by
 intro wh pins s σ H Q I h;refine isTrue_and (Az (ha pins s σ H Q I h) λ c s1 e=>?_);cases c with
 | true=>exact isTrue_and_nil e
 | false=>exact e
theorem xE (ha:PT X a tA):PW X (.BoolOp .Or [a] pos) tA:=by
 intro wh pins s σ H Q I h;refine isTrue_or (Az (ha pins s σ H Q I h) λ c s1 e=>?_);cases c with
 | false=>exact isTrue_or_nil e
 | true=>exact e
theorem xD (ha:PT X a tA) (hb:PW X (.BoolOp .And (b::rest) pos) tB'):PW X (.BoolOp .And (a::b::rest) pos) (Jz tA tB'):=by
 intro wh pins s σ H Q I h;refine isTrue_and (Az (ha pins s σ H _ I h) λ c s1 ⟨H1,I1,q1⟩=>?_);cases c with
 | true=>exact hb wh pins s1 σ H1 Q I1 q1
 | false=>exact ⟨H1,I1,q1⟩
theorem qN (ha:PT X a tA) (hb:PW X (.BoolOp .Or (b::rest) pos) tB'):PW X (.BoolOp .Or (a::b::rest) pos) (Rp tA tB'):=by
 intro wh pins s σ H Q I h;refine isTrue_or (Az (ha pins s σ H _ I h) λ c s1 ⟨H1,I1,q1⟩=>?_);cases c with
 | true=>exact ⟨H1,I1,q1⟩
 | false=>exact hb wh pins s1 σ H1 Q I1 q1
def xB (ha:PT X a tA):PT X (.UnaryOp .Not a pos) (Jy tA):=by
 intro pins s σ H Q I h;exact isTrue_not (ha pins s σ H (λ c H1=>Q (!c) H1) I h)
def VF (ta tb:TE):TE:=λ σ H Q=>ta σ H λ x H1=>∃ c,x=.bl c/\if c=true then tb σ H1 Q else Q (.bl false) H1
def LF (ta tb:TE):TE:=λ σ H Q=>ta σ H λ x H1=>∃ c,x=.bl c/\if c=true then Q (.bl true) H1 else tb σ H1 Q
def V7 (ta:TE):TE:=λ σ H Q=>ta σ H λ x H1=>∃ c,x=.bl c/\Q (.bl (!c)) H1
def Ws {op}{t:TE} (h:PE X a t):PE X (.BoolOp op [a] pos) t:=λ pins s σ H Q I hw=>BoolOp_one (h pins s σ H Q I hw)
theorem xk (ha:PE X a ta) (hb:PE X (.BoolOp .And (b::rest) pos) tb):PE X (.BoolOp .And (a::b::rest) pos) (VF ta tb):=by
 intro pins s σ H Q I h;refine BoolOp_and (Az (ha pins s σ H _ I h) λ v s1 ⟨x,H1,I1,r1,q1⟩=>?_);obtain ⟨c,rfl,q1⟩:=q1;cases r1;refine HD ?_;cases c with
 | true=>exact hb pins s1 σ H1 Q I1 q1
 | false=>exact ⟨.bl false,H1,I1,rfl,q1⟩
theorem qv (ha:PE X a ta) (hb:PE X (.BoolOp .Or (b::rest) pos) tb):PE X (.BoolOp .Or (a::b::rest) pos) (LF ta tb):=by
 intro pins s σ H Q I h;refine BoolOp_or (Az (ha pins s σ H _ I h) λ v s1 ⟨x,H1,I1,r1,q1⟩=>?_);obtain ⟨c,rfl,q1⟩:=q1;cases r1;refine HD ?_;cases c with
 | false=>exact hb pins s1 σ H1 Q I1 q1
 | true=>exact ⟨.bl true,H1,I1,rfl,q1⟩
def xV (ha:PE X a ta):PE X (.UnaryOp .Not a pos) (V7 ta):=by
 intro pins s σ H Q I h;refine UnaryOp_ (Az (ha pins s σ H _ I h) λ v s1 ⟨x,H1,I1,r1,q1⟩=>?_);obtain ⟨c,rfl,q1⟩:=q1;cases r1;exact not_of (HD ⟨.bl (!c),H1,I1,rfl,q1⟩)
def Vf (t:TT) (ta tb:TE):TE:=λ σ H Q=>t σ H λ c H1=>if c=true then ta σ H1 Q else tb σ H1 Q
theorem vC {c:Expr} (hc:PT X c tA) (ha:PE X a ta) (hb:PE X b tb):PE X (.IfExp c a b pos) (Vf tA ta tb):=by
 intro pins s σ H Q I h;refine wpAny_IfExp (Az (hc pins s σ H _ I h) λ d s1 ⟨H1,I1,q1⟩=>?_);cases d with
 | true=>exact ha pins s1 σ H1 Q I1 q1
 | false=>exact hb pins s1 σ H1 Q I1 q1
end
def Bi (K:PySem.W.Frag) (H:Hp) (a:Addr) (xs:List V):Prop:=
 Rd H a (.lst xs) \/
  ∃ (o:Obj) (its:Array Ad) (n:Nat),K.lookup a=some o/\o.cls=.type "list" /\ o.dict=none/\o.data=.seq its n/\its.size<=Aw/\Vals xs its.toList
def SqT (K:PySem.W.Frag) (H:Hp) (a:Addr) (xs:List V):Prop:=
 Rd H a (.tup xs) \/
  ∃ (o:Obj) (its:Array Ad) (n:Nat),K.lookup a=some o/\o.cls=.type "tuple" /\ o.data=.seq its n/\its.size<=Aw/\Vals xs its.toList
def TX:Ad->Option V
 | .none=>some .non
 | .bool b=>some (.bl b)
 | .int i _=>some (.int i)
 | .str x _=>some (.str x)
 | .bytes b _=>some (.byt b)
 | .float b _=>some (.flt b)
 | .ref a=>some (.ref a)
 | .type n=>some (.ty n)
 | _=>none
theorem RelV.abs {x:V}{u:Ad} (r:RelV x u):TX u=some x:=by
 cases x with
 | non=>cases r;rfl
 | bl _=>cases r;rfl
 | int _=>obtain ⟨t,rfl⟩:=r;rfl
 | str _=>obtain ⟨t,rfl⟩:=r;rfl
 | byt _=>obtain ⟨t,rfl⟩:=r;rfl
 | flt _=>obtain ⟨t,rfl⟩:=r;rfl
 | ref _=>cases r;rfl
 | ty _=>cases r;rfl
def RelV.inj {x y:V}{u:Ad} (r:RelV x u) (q:RelV y u):x=y:=Option.some.inj (r.abs.symm.trans q.abs)
theorem Vals.inj:∀ {xs ys:List V}{us:List Ad},Vals xs us->Vals ys us->xs=ys
 | _,_,_,.nil,.nil=>rfl
 | _,_,_,.cons r t,.cons r' t'=>by rw [r.inj r',Vals.inj t t']
section
variable {X:Cx}{pins:List (Addr×Obj)}{σ:St}{H:Hp}{s:Ai}{a:Addr}{xs ys:List V}
def SqT.of {K:PySem.W.Frag} (h:H a=some (.tup xs)):SqT K H a xs:=.inl (.inl h)
def Inv.list (I:Inv X pins σ H s) (h:Bi X.K H a xs):∃ its:List Ad,Vals xs its/\PlainL s.heap a its.toArray/\xs.length<=Aw:=by
 rcases h with h | ⟨o,its,n,hk,hc,hd,hs,hz,r⟩
 ·obtain ⟨z,its,n,r,e⟩:=h.ok I.hok;exact ⟨its,r,⟨_,n,e,rfl,rfl,rfl⟩,z⟩
 ·refine ⟨its.toList,r,⟨o,n,I.kIn a o hk,hc,hd,by simpa using hs⟩,?_⟩;have e:=r.length;simp only [IP] at e;omega
def Inv.tuple (I:Inv X pins σ H s) (h:SqT X.K H a xs):∃ its:List Ad,Vals xs its/\IsTup s.heap a its.toArray/\xs.length<=Aw:=by
 rcases h with h | ⟨o,its,n,hk,hc,hs,hz,r⟩
 ·obtain ⟨z,its,r,p⟩:=h.ok I.hok;exact ⟨its,r,p,z⟩
 ·refine ⟨its.toList,r,⟨o,I.kIn a o hk,hc,n,by simpa using hs⟩,?_⟩;have e:=r.length;simp only [IP] at e;omega
def Inv.list_inj (I:Inv X pins σ H s) (h:Bi X.K H a xs) (h':Bi X.K H a ys):xs=ys:=by
 obtain ⟨its,r,⟨o,n,e,_,_,d⟩,_⟩:=I.list h;obtain ⟨its',r',⟨o',n',e',_,_,d'⟩,_⟩:=I.list h';rw [e] at e';cases e';rw [d] at d';injection d' with d1 _
 have:its=its':=by simpa using congrArg YG d1
 subst this;exact r.inj r'
def Inv.tuple_inj (I:Inv X pins σ H s) (h:SqT X.K H a xs) (h':SqT X.K H a ys):xs=ys:=by
 obtain ⟨its,r,⟨o,e,_,n,d⟩,_⟩:=I.tuple h;obtain ⟨its',r',⟨o',e',_,n',d'⟩,_⟩:=I.tuple h';rw [e] at e';cases e';rw [d] at d';injection d' with d1 _
 have:its=its':=by simpa using congrArg YG d1
 subst this;exact r.inj r'
end
section
variable {X:Cx}{pins:List (Addr×Obj)}{σ:St}{H:Hp}{s:Ai}{E:Ad->Ai->Prop}
end
section
variable {X:Cx}{st:Stmt}{rest:List Stmt}{t u:TS}{e:Expr}{te:TE}{pos:Pos}
def V6:TS:=λ D σ H=>D.nx σ H
def LB (t u:TS):TS:=λ D σ H=>t { D with nx:=u D } σ H
def ko:En X [] V6:=λ _ _ σ H _ I h=>N9 ⟨σ,H,I,h⟩
theorem vG (h1:PS X st t) (h2:En X rest u):En X (st::rest) (LB t u):=by
 intro pins s σ H D I h;refine wpAny_execs_cons (Az (h1 pins s σ H { D with nx:=u D } I h) λ f s1 q=>?_);cases f with
 | next=>
  obtain ⟨σ',H',I',q⟩:=q;exact h2 pins s1 σ' H' D I' q
 | ret v=>exact q
 | brk=>exact q
 | cont=>exact q
theorem kq (h1:PS X st t):En X [st] t:=by
 intro pins s σ H D I h;refine wpAny_execs_cons (Az (h1 pins s σ H D I h) λ f s1 q=>?_);cases f with
 | next=>exact N9 q
 | ret v=>exact q
 | brk=>exact q
 | cont=>exact q
def Inv.quiet {pins:List (Addr×Obj)}{σ:St}{H:Hp}{s:Ai} (I:Inv X pins σ H s):interactive X.env=false:=by simp [interactive,I.ok.kind]
def O7 (te:TE):TS:=λ D σ H=>te σ H λ _ H1=>D.nx σ H1
def SE (he:PE X e te) (hs:swapsWith e none pos.line X.env=pure false:=by rfl):PS X (.Expr e pos) (O7 te):=by
 intro pins s σ H D I h;exact wpAny_Expr_any (Az (he pins s σ H _ I h) λ v s1 ⟨x,H1,I1,r1,q1⟩=>⟨σ,H1,I1,q1⟩) I.quiet hs
def Jx (te:TE):TS:=λ D σ H=>te σ H D.rt
def Wv (he:PE X e te):PS X (.Return (some e) pos) (Jx te):=by
 intro pins s σ H D I h;exact wpAny_Return_some (Az (he pins s σ H _ I h) λ v s1 ⟨x,H1,I1,r1,q1⟩=>⟨x,σ,H1,I1,r1,q1⟩)
def LH (c:TT) (t u:TS):TS:=λ D σ H=>c σ H λ b H1=>if b=true then t D σ H1 else u D σ H1
theorem qL {c:Expr}{a b:List Stmt}{tc:TT} (hc:PT X c tc) (ha:En X a t) (hb:En X b u):PS X (.If c a b pos) (LH tc t u):=by
 intro pins s σ H D I h;refine wpAny_If (Az (hc pins s σ H _ I h) λ d s1 ⟨H1,I1,q1⟩=>?_);cases d with
 | true=>exact ha pins s1 σ H1 D I1 q1
 | false=>exact hb pins s1 σ H1 D I1 q1
def Sq:TS:=λ _ _ _=>False
def XJ:PS X st Sq:=λ _ _ _ _ _ _ h=>h.elim
end
abbrev TG:=V->St->Hp->(St->Hp->Prop)->Prop
abbrev IT:=List V->St->Hp->(St->Hp->Prop)->Prop
def PG (X:Cx) (target:Expr) (t:TG):Prop:=
 ∀ (pins:List (Addr×Obj)) (s:Ai) (σ:St) (H:Hp) (v:V) (u:Ad) (Q:St->Hp->Prop),Inv X pins σ H s->RelV v u->t v σ H Q ->
  Ak (Av X.prog X.w) X.A (Hw target X.env u) (λ _ s'=>∃ σ' H',Inv X pins σ' H' s'/\Q σ' H') X.xe s
def KP (X:Cx) (ts:List Expr) (t:IT):Prop:=
 ∀ (pins:List (Addr×Obj)) (s:Ai) (σ:St) (H:Hp) (vs:List V) (us:List Ad) (Q:St->Hp->Prop),Inv X pins σ H s->Vals vs us->t vs σ H Q ->
  Ak (Av X.prog X.w) X.A (L3 ((E4 ts X.env).map (·.2)) us) (λ _ s'=>∃ σ' H',Inv X pins σ' H' s'/\Q σ' H') X.xe s
abbrev Fe:=V->V->V->Hp->(Hp->Prop)->Prop
def HZ (X:Cx) (t:Fe):Prop:=
 ∀ (pins:List (Addr×Obj)) (s:Ai) (σ:St) (H:Hp) (o i v:V) (ov iv u:Ad) (Q:Hp->Prop),Inv X pins σ H s->RelV o ov->RelV i iv->RelV v u->t o i v H Q ->
  Ak (Av X.prog X.w) X.A (setItem ov iv u) (λ _ s'=>∃ H',Inv X pins σ H' s'/\Q H') X.xe s
abbrev Pz:=V->V->Hp->VK->Prop
def P0 (X:Cx) (op:IB) (t:Pz):Prop:=
 ∀ (pins:List (Addr×Obj)) (s:Ai) (σ:St) (H:Hp) (x y:V) (v u:Ad) (Q:VK),Inv X pins σ H s->RelV x v->RelV y u->t x y H Q ->
  Ak (Av X.prog X.w) X.A (inplaceOp op v u) (EP X pins σ Q) X.xe s
section
variable {X:Cx}{pos:Pos}
def Fo (i:Nat):TG:=λ v σ H Q=>Q (σ.set i (some v)) H
def Lh {i:Nat}{x:Str} (hN:X.N.Nodup) (hi:X.N[i]?=some x) (hx:FC X.env.scope x) (hf:X.fn x=true\/X.env.scope.names.lookup x=some .local:=by first | exact .inl rfl | exact .inr rfl | assumption):PG X (.Name x pos) (Fo i):=by
 intro pins s σ H v u Q I r h;exact wpAny_assign_Name (Jc I hN hi hx r (λ s' I'=>⟨_,H,I',h⟩) hf)
def M1:IT:=λ vs σ H Q=>vs=[]/\Q σ H
def Vj (t:TG) (u:IT):IT:=λ vs σ H Q=>∃ v r,vs=v::r/\t v σ H λ σ' H'=>u r σ' H' Q
def Xh:KP X [] M1:=by
 intro pins s σ H vs us Q I r h;obtain ⟨e,h⟩:=h;subst e;cases r;exact QT ⟨σ,H,I,h⟩
theorem XI {e:Expr}{es:List Expr}{t:TG}{u:IT} (h1:PG X e t) (h2:KP X es u)
  (hs:(E4 (e::es) X.env).map (·.2)=Hw e X.env::(E4 es X.env).map (·.2):=by rfl):KP X (e::es) (Vj t u):=by
 intro pins s σ H vs us Q I r h;obtain ⟨v,vr,e1,h⟩:=h;subst e1;cases r with
 | cons r rr=>
  rw [hs];refine Kv (Az (h1 pins s σ H _ _ _ I r h) λ _ s1 ⟨σ1,H1,I1,q1⟩=>?_);exact h2 pins s1 σ1 H1 _ _ Q I1 rr q1
def JH (K:PySem.W.Frag) (n:Nat) (t:IT):TG:=λ v σ H Q=>∃ a xs,v=.ref a/\SqT K H a xs/\xs.length=n/\t xs σ H Q
def Sn {es:List Expr}{k:Nat}{t:IT}{n:Nat} (hc:X.calm=true) (h:KP X es t)
  (hn:(E4 es X.env).length=n:=by rfl) (hst:(E4 es X.env).findIdx? (·.1)=none:=by rfl):PG X (.Tuple es k pos) (JH X.K n t):=by
 intro pins s σ H v u Q I r hw;obtain ⟨a,xs,e1,hq,hl,hw⟩:=hw;subst e1;cases r;obtain ⟨its,rv,ht,hz⟩:=I.tuple hq;refine assign_Tuple_tuple (I.ok.hd hc) ht (by simp [hn,<- hl,rv.length]) hst λ h' hx=>?_;have I1:Inv X pins σ H { s with heap:=h' }:=I.kept (t':=s.toks) λ b o e=>hx b o (Cf (AO e)) e;exact h pins _ σ H xs _ Q I1 (by simpa using rv) hw
def M0 (to ti:TE) (t:Fe):TG:=λ v σ H Q=>to σ H λ o H1=>ti σ H1 λ i H2=>t o i v H2 λ H3=>Q σ H3
def xZ {o i:Expr}{to ti:TE}{t:Fe} (ho:PE X o to) (hi:PE X i ti) (hs:HZ X t)
  (ha:∀ v,Hw (.Subscript o i pos) X.env v=(do
   let ov<-holding [v] (eval o X.env);let iv<-holding [v,ov] (eval i X.env)
   standAt pos
   holding [v,ov,iv] (setItem ov iv v)
   release [v,ov,iv] []):=by intro _;rfl):PG X (.Subscript o i pos) (M0 to ti t):=by
 intro pins s σ H v u Q I r h;rw [ha];refine Ag (Js (Az (ho pins s σ H _ I h) λ ov s1 ⟨x,H1,I1,r1,q1⟩=>?_));refine Ag (Js (Az (hi pins s1 σ H1 _ I1 q1) λ iv s2 ⟨y,H2,I2,r2,q2⟩=>?_));refine Ag (L4 (Ag (Js (Az (hs pins s2 σ H2 x y v ov iv u _ I2 r1 r2 r q2) λ _ s3 ⟨H3,I3,q3⟩=>?_))));exact wpAny_release ⟨σ,H3,I3,q3⟩
def EL (te:TE) (g:TG):TS:=λ D σ H=>te σ H λ x H1=>g x σ H1 D.nx
def Wu {tg e:Expr}{te:TE}{g:TG} (he:PE X e te) (hg:PG X tg g) (hs:swapsWithSole [tg] e pos.line X.env=pure false:=by rfl) (hw:Jr [tg] e X.env=pure none:=by rfl)
  (h1:(E4 [tg] X.env).map (·.2)=[Hw tg X.env]:=by rfl):PS X (.Assign [tg] e pos) (EL te g):=by
 intro pins s σ H D I h;refine wpAny_Assign_stores (Az (he pins s σ H _ I h) λ v s1 ⟨x,H1,I1,r1,q1⟩=>?_) hs hw;rw [h1];exact Az (hg pins s1 σ H1 x v _ I1 r1 q1) λ _ s2 q=>q
def Ww {i:Nat}{x:Str}{e:Expr}{te:TE}{pos':Pos} (hN:X.N.Nodup) (hi:X.N[i]?=some x) (hx:FC X.env.scope x) (he:PE X e te) (hs:swapsWith e (some (.Name x pos')) pos.line X.env=pure false:=by rfl) (hf:X.fn x=true\/X.env.scope.names.lookup x=some .local:=by first | exact .inl rfl | exact .inr rfl | assumption):
  PS X (.Assign [.Name x pos'] e pos) (EL te (Fo i)):=by
 intro pins s σ H D I h;refine wpAny_Assign_Name (Az (he pins s σ H _ I h) λ v s1 ⟨y,H1,I1,r1,q1⟩=>?_) hs;exact Jc I1 hN hi hx r1 (λ s2 I2=>⟨_,H1,I2,q1⟩) hf
def LD (i j:Nat) (ta:TA):TS:=λ D σ H=>ta σ H λ vs H1=>∃ v w,vs=[v,w]/\D.nx ((σ.set i (some v)).set j (some w)) H1
def x8 {i j:Nat}{x y:Str}{a b:Expr}{ta:TA}{px py pt:Pos}{kt k2 pt2} (hc:X.calm=true) (hN:X.N.Nodup) (hi:X.N[i]?=some x) (hj:X.N[j]?=some y) (hij:i≠j)
  (hx:X.env.scope.names.lookup x=some .local) (hy:X.env.scope.names.lookup y=some .local) (ha:PA X [a,b] ta)
  (hw:Jr [.Tuple [.Name x px,.Name y py] kt pt] (.Tuple [a,b] k2 pt2) X.env=pure (some [x,y]))
  (hs:swapsWithSole [.Tuple [.Name x px,.Name y py] kt pt] (.Tuple [a,b] k2 pt2) pos.line X.env=pure false:=by rfl):
  PS X (.Assign [.Tuple [.Name x px,.Name y py] kt pt] (.Tuple [a,b] k2 pt2) pos) (LD i j ta):=by
 intro pins s σ H D I h;rw [exec_Assign_arm];refine Ag (L4 ?_);rw [hs];refine Ag (Ao ?_);rw [if_neg (by decide)];refine Ag (Tuple_ (Az (ha _ pins s σ H _ I h) λ us s1 ⟨vs,H1,I1,r1,q1⟩=>?_));obtain ⟨v,w,e1,q1⟩:=q1;subst e1;obtain ⟨u1,u2,rfl,rv,rw'⟩:∃ u1 u2,us=[u1,u2]/\RelV v u1/\RelV w u2:=by
  cases r1 with
  | cons p q=>
   cases q with
   | cons p' q'=>
    cases q';exact ⟨_,_,rfl,p,p'⟩
 refine DS ?_ (by show 2<=Aw;decide);have I2:Inv X pins σ H1 { s1 with heap:=s1.heap.push { cls:=.type "tuple",data:=.seq [u1,u2].toArray } }:=I1.kept (t':=s1.toks) λ b o e=>Bb _ e;rw [hw];refine Ag (Ao ?_);show Ak (Av X.prog X.w) X.A (do rule "assign.swapped-stores";let items<-unpackItems (.ref s1.heap.objs.size) 2 none;L3 [λ v=>GK X.env y v,λ v=>GK X.env x v] items.reverse;pure Flow.next) _ _ _;refine Ag (L0 (Ag (unpackItems_tuple (items:=#[u1,u2]) (I.ok.hd hc) (IsTup.new s1.heap _) λ h' hx'=>?_)));have I3:=I2.kept (h':=h') (t':=s1.toks) λ b o e=>hx' b o (Cf (AO e)) e;show Ak _ _ (L3 [λ v=>GK X.env y v,λ v=>GK X.env x v] [u2,u1] >>= λ _=>pure Flow.next) _ _ _;refine Ag (Kv (L6 (Jc I3 hN hj (.inl hy) rw' (λ s2 I4=>?_) (.inr hy))));refine Kv (L6 (Jc I4 hN hi (.inl hx) rv (λ s3 I5=>QT (Ao ?_)) (.inr hx)));rw [OZ _ _ (BE hij)] at I5;exact ⟨_,H1,I5,q1⟩
def VG (to ti te:TE) (tget:V->V->Hp->VK->Prop) (tip:Pz) (tset:Fe):TS:=λ D σ H=>to σ H λ o H1=>ti σ H1 λ i H2=>tget o i H2 λ x H3=>te σ H3 λ y H4=>tip x y H4 λ z H5=>tset o i z H5 λ H6=>D.nx σ H6
def M6 (X:Cx) (t:V->V->Hp->VK->Prop):Prop:=
 ∀ (pins:List (Addr×Obj)) (s:Ai) (σ:St) (H:Hp) (o i:V) (ov iv:Ad) (Q:VK),Inv X pins σ H s->RelV o ov->RelV i iv->t o i H Q ->
  Ak (Av X.prog X.w) X.A (Jl ov iv) (EP X pins σ Q) X.xe s
def kn {o i e:Expr}{to ti te:TE}{tget:V->V->Hp->VK->Prop}{tip:Pz}{tset:Fe}{op:IB}{tpos:Pos} (ho:PE X o to) (hi:PE X i ti) (hg:M6 X tget) (he:PE X e te) (hp:P0 X op tip) (hs:HZ X tset)
  (ha:∀ ov iv new,augStore i ov iv new=(do holding [new,ov,iv] (setItem ov iv new);release [new,ov,iv] [];pure .next):=by intros;rfl):PS X (.AugAssign (.Subscript o i tpos) op e pos) (VG to ti te tget tip tset):=by
 intro pins s σ H D I h;refine wpAny_AugAssign_SubscriptAny (Az (ho pins s σ H _ I h) λ ov s1 ⟨x1,H1,I1,r1,q1⟩=>?_) ha;refine Az (hi pins s1 σ H1 _ I1 q1) λ iv s2 ⟨x2,H2,I2,r2,q2⟩=>?_;refine Az (hg pins s2 σ H2 x1 x2 ov iv _ I2 r1 r2 q2) λ old s3 ⟨x3,H3,I3,r3,q3⟩=>?_;refine Az (he pins s3 σ H3 _ I3 q3) λ v s4 ⟨x4,H4,I4,r4,q4⟩=>?_;refine Az (hp pins s4 σ H4 x3 x4 old v _ I4 r3 r4 q4) λ new s5 ⟨x5,H5,I5,r5,q5⟩=>?_;exact Az (hs pins s5 σ H5 x1 x2 x5 ov iv new _ I5 r1 r2 r5 q5) λ _ s6 ⟨H6,I6,q6⟩=>⟨σ,H6,I6,q6⟩
def Pp (f:Int->Int->Int):Pz:=λ x y H Q=>∃ i j,x=.int i/\y=.int j/\Q (.int (f i j)) H
def qH:P0 X .Add (Pp λ i j=>i + j):=by
 intro pins s σ H x y v u Q I r1 r2 h;obtain ⟨i,j,e1,e2,q⟩:=h;subst e1;subst e2;obtain ⟨t,rfl⟩:=r1;obtain ⟨t',rfl⟩:=r2;exact iadd_int ⟨.int _,H,I.tok _,⟨_,rfl⟩,q⟩
def qI:P0 X .Sub (Pp λ i j=>i - j):=by
 intro pins s σ H x y v u Q I r1 r2 h;obtain ⟨i,j,e1,e2,q⟩:=h;subst e1;subst e2;obtain ⟨t,rfl⟩:=r1;obtain ⟨t',rfl⟩:=r2;exact isub_int ⟨.int _,H,I.tok _,⟨_,rfl⟩,q⟩
end
section
variable {X:Cx}{pos:Pos}
def Wf (c:TT) (tb:TS):TS:=λ D σ H=>∃ W:Nat->St->Hp->Prop,(∃ m,W m σ H)/\∀ m σ H,W m σ H ->
 c σ H λ b H1=>if b=true then ∃ N:St->Hp->Prop,(∀ σ' H',N σ' H'->∃ m',m' < m/\W m' σ' H')/\tb { D with nx:=N,ct:=N,bk:=D.nx } σ H1 else D.nx σ H1
theorem vF {c:Expr}{body:List Stmt}{tc:TT}{tb:TS} (hp:Lz (Av X.prog X.w) X.A X.env X.xe) (hc:PT X c tc) (hb:En X body tb):PS X (.While c body [] pos) (Wf tc tb):=by
 intro pins s σ H D I h;obtain ⟨W,⟨m0,w0⟩,turn⟩:=h;refine wpAny_While (codeAny_whileLoop (λ n s'=>∃ σ' H',Inv X pins σ' H' s'/\W n σ' H') ?_ m0 ⟨σ,H,I,w0⟩);rintro n s1 ⟨σ1,H1,I1,w1⟩;refine Jv hp (Az (hc pins s1 σ1 H1 _ I1 (turn n σ1 H1 w1)) λ b s2 ⟨H2,I2,q2⟩=>?_);cases b with
 | true=>
  obtain ⟨N,hN,q2⟩:=q2;rw [if_pos rfl];refine Jv hp (Az (hb pins s2 σ1 H2 _ I2 q2) λ f s3 q3=>?_);cases f with
  | next=>
   obtain ⟨σ3,H3,I3,n3⟩:=q3;obtain ⟨m',hm,w3⟩:=hN σ3 H3 n3;exact ⟨m',hm,σ3,H3,I3,w3⟩
  | cont=>
   obtain ⟨σ3,H3,I3,n3⟩:=q3;obtain ⟨m',hm,w3⟩:=hN σ3 H3 n3;exact ⟨m',hm,σ3,H3,I3,w3⟩
  | brk=>exact q3
  | ret v=>exact q3
 | false=>
  rw [if_neg Cy];exact N9 ⟨σ1,H2,I2,q2⟩
end
structure It where
 go:Nat->Hp->Prop
 yld:Nat->Hp->V->Hp->Prop
 stop:Nat->Hp->Prop
def Cr (X:Cx) (pins:List (Addr×Obj)) (H:Hp) (b:Addr):Prop:=
 H b=none/\b≠X.env.locals/\b∉X.fs/\(b∈X.ex\/X.s₀.heap.objs.size<=b)/\(∀ x c,X.env.cells.lookup x=some c->c≠b)/\∀ p∈X.pn++pins,p.1≠b
def Inv.fpOk {X:Cx}{pins:List (Addr×Obj)}{σ:St}{H H':Hp}{s:Ai}{b:Addr} (I:Inv X pins σ H s) (hb:s.heap.objs.size<=b) (hn:H' b=none):Cr X pins H' b:=by
 refine ⟨hn,E7 (Cg I.lt hb),I.nofs hb,.inr (Cw I.sz hb),λ x c e z=>?_,λ p hp z=>?_⟩
 ·obtain ⟨v,q⟩:=I.cell x c e;exact absurd (Cg q.lt (by rw [z];exact hb)) (DK _)
 ·exact absurd (Cg (AO (I.pin p hp).1) (by rw [z];exact hb)) (DK _)
structure Turn (P:AA) (w:A4) (K:PySem.W.Frag) (tg:Expr) (J:It) (fp:List Addr) (it:Addr) (tn:Nat->Heap->Prop):Prop where
 mem:it∈fp
 obj:∀ i h,tn i h->∀ b∈fp,∃ o,h.get? b=some o/\∀ v,o.data≠.cell v
 keep:∀ i h h',tn i h->(∀ b∈fp,∀ o,h.get? b=some o->h'.get? b=some o)->tn i h'
 item:∀ (X:Cx),X.prog=P->X.w=w->X.K=K->X.calm=true->∀ (i:Nat) (pins:List (Addr×Obj)) (s:Ai) (σ:St) (H:Hp) (E:Ad->Ai->Prop),Inv X pins σ H s->(∀ b∈fp,Cr X pins H b)->tn i s.heap->J.go i H ->
  Ak (Av P w) X.A (Ee (.ref it)) (λ r s1=>∃ u,r=some u /\
   Ak (Av P w) X.A (N8 tg (.ref it) u) (λ _ s2=>∃ x H',Inv X pins σ H' s2/\RelV x u/\J.yld i H x H'/\tn (i + 1) s2.heap/\∀ b∈fp,H' b=none) E s1) E s
 done:∀ (X:Cx),X.prog=P->X.w=w->X.K=K->X.calm=true->∀ (i:Nat) (pins:List (Addr×Obj)) (s:Ai) (σ:St) (H:Hp) (E:Ad->Ai->Prop),Inv X pins σ H s->(∀ b∈fp,Cr X pins H b)->tn i s.heap->J.stop i H ->
  Ak (Av P w) X.A (Ee (.ref it)) (λ r s1=>r=none/\Inv X pins σ H s1) E s
 self:∀ (A:BD) (i:Nat) (s:Ai) (Q:Ad->Ai->Prop) (E:Ad->Ai->Prop),tn i s.heap->Q (.ref it) s->Ak (Av P w) A (pyIter (.ref it)) Q E s
abbrev TI:=St->Hp->(It->Hp->Prop)->Prop
def TZ (X:Cx) (pins:List (Addr×Obj)) (σ:St) (tg:Expr) (R:It->Hp->Prop) (itv:Ad) (s2:Ai):Prop:=
 ∃ (it:Addr) (fp:List Addr) (tn:Nat->Heap->Prop) (J:It) (H':Hp),itv=.ref it/\Inv X pins σ H' s2/\Turn X.prog X.w X.K tg J fp it tn/\tn 0 s2.heap/\(∀ b∈fp,Cr X pins H' b)/\R J H'
def PI (X:Cx) (tg iter:Expr) (wi:TI):Prop:=
 ∀ (pins:List (Addr×Obj)) (s:Ai) (σ:St) (H:Hp) (R:It->Hp->Prop),Inv X pins σ H s->wi σ H R ->
  Ak (Av X.prog X.w) X.A (eval iter X.env) (λ v s1=>Ak (Av X.prog X.w) X.A (pyIter v) (TZ X pins σ tg R) X.xe s1) X.xe s
def IE {M:Model}{A:BD}{E:Ad->Ai->Prop}{s:Ai}{tg:Expr}{it:Addr}{u:Ad}{o:Obj}{n:String}{vs:Array Ad}{Q:Unit->Ai->Prop} (ho:s.heap.get? it=some o) (hc:o.cls=.type n) (hd:o.data=.fields vs)
  (hn:["enumerate","zip","dict_itemiterator","dict_reverseitemiterator","odict_iterator","itertools.zip_longest","itertools.pairwise"].contains n=false) (hQ:Q () s):Ak M A (N8 tg (.ref it) u) Q E s:=by
 unfold N8;cases tg <;> first
  | exact Ao hQ
  | (cases u <;> first
    | exact Ao hQ
    | (refine Ag (wpAny_load ho ?_);rw [hc,hd];show Ak M A (if (["enumerate","zip","dict_itemiterator","dict_reverseitemiterator","odict_iterator","itertools.zip_longest","itertools.pairwise"].contains n && vs[0]? == some (DA _))=true then _ else _) Q E s;rw [if_neg (by intro h;rw [hn,Bool.false_and] at h;cases h)];exact Ao hQ))
def Z3 (K:PySem.W.Frag) (a:Addr):It:=
 ⟨λ i H=>∃ xs x,Bi K H a xs/\xs[i]?=some x,λ i H x H'=>H'=H/\∀ xs,Bi K H a xs->xs[i]?=some x,λ i H=>∃ xs,Bi K H a xs/\xs.length<=i⟩
def Z2 (K:PySem.W.Frag) (a:Addr):It:=
 ⟨λ i H=>∃ xs x,SqT K H a xs/\xs[i]?=some x,λ i H x H'=>H'=H/\∀ xs,SqT K H a xs->xs[i]?=some x,λ i H=>∃ xs,SqT K H a xs/\xs.length<=i⟩
def GV (lo:Int) (n:Nat):It:=⟨λ i _=>i < n,λ i H x H'=>H'=H/\x=.int (lo + i),λ i _=>n<=i⟩
def yv {P:AA}{w:A4}{K:PySem.W.Frag}{tg:Expr} (a it:Addr):Turn P w K tg (Z3 K a) [it] it (λ i h=>h.IsListIter it a i) where
 mem:=by simp
 obj:=λ i h st b hb=>by
  have e:b=it:=by simpa using hb
  subst e;obtain ⟨o,e,c,d⟩:=st;exact ⟨o,e,λ v z=>by rw [d] at z;cases z⟩
 keep:=λ i h h' st k=>st.at λ o e=>k it (by simp) o e
 item:=by
  intro X hP hw hK hc i pins s σ H E I hf st hg;subst hP hw hK;obtain ⟨xs,x,hq,hx⟩:=hg;obtain ⟨its,rv,p,hz⟩:=I.list hq;obtain ⟨u,hu,ru⟩:=rv.get hx;obtain ⟨f0,f1,f2,f3,f4,f5⟩:=hf it (by simp);refine wpAny_pyNext_list_item st p.isList (x:=u) (by simpa using hu) λ h' st' sb=>?_;have I1:Inv X pins σ H { s with heap:=h' }:=I.turned (t':=s.toks) (λ b o hb e=>(sb.2 b hb).trans e) f0 f1 f3 f4 f5;obtain ⟨o,e,c,d⟩:=id st';exact ⟨u,rfl,IE (s:={ s with heap:=h' }) e c d (by decide) ⟨x,H,I1,ru,⟨rfl,λ ys hy=>by rw [I.list_inj hy hq];exact hx⟩,st',λ b hb=>(hf b hb).1⟩⟩
 done:=by
  intro X hP hw hK hc i pins s σ H E I hf st hg;subst hP hw hK;obtain ⟨xs,hq,hx⟩:=hg;obtain ⟨its,rv,p,hz⟩:=I.list hq;obtain ⟨f0,f1,f2,f3,f4,f5⟩:=hf it (by simp);have hl:=rv.length;exact wpAny_pyNext_list_end (I.ok.hd hc) st p.isList (by simp;omega) λ h' eb=>⟨rfl,I.turned (t':=s.toks) (λ b o hb e=>eb b o hb e) f0 f1 f3 f4 f5⟩
 self:=λ _ _ _ _ _ st h=>wpAny_pyIter_listiter st h
def yM {P:AA}{w:A4}{K:PySem.W.Frag}{tg:Expr} (a it:Addr):Turn P w K tg (Z2 K a) [it] it (λ i h=>h.IsTupleIter it a i) where
 mem:=by simp
 obj:=λ i h st b hb=>by
  have e:b=it:=by simpa using hb
  subst e;obtain ⟨o,e,c,d⟩:=st;exact ⟨o,e,λ v z=>by rw [d] at z;cases z⟩
 keep:=λ i h h' st k=>st.at λ o e=>k it (by simp) o e
 item:=by
  intro X hP hw hK hc i pins s σ H E I hf st hg;subst hP hw hK;obtain ⟨xs,x,hq,hx⟩:=hg;obtain ⟨its,rv,p,hz⟩:=I.tuple hq;obtain ⟨u,hu,ru⟩:=rv.get hx;obtain ⟨f0,f1,f2,f3,f4,f5⟩:=hf it (by simp);refine wpAny_pyNext_tuple_item st (show s.heap.IsTuple a its.toArray from p) (x:=u) (by simpa using hu) λ h' st' sb=>?_;have I1:Inv X pins σ H { s with heap:=h' }:=I.turned (t':=s.toks) (λ b o hb e=>(sb.2 b hb).trans e) f0 f1 f3 f4 f5;obtain ⟨o,e,c,d⟩:=id st';exact ⟨u,rfl,IE (s:={ s with heap:=h' }) e c d (by decide) ⟨x,H,I1,ru,⟨rfl,λ ys hy=>by rw [I.tuple_inj hy hq];exact hx⟩,st',λ b hb=>(hf b hb).1⟩⟩
 done:=by
  intro X hP hw hK hc i pins s σ H E I hf st hg;subst hP hw hK;obtain ⟨xs,hq,hx⟩:=hg;obtain ⟨its,rv,p,hz⟩:=I.tuple hq;obtain ⟨f0,f1,f2,f3,f4,f5⟩:=hf it (by simp);have hl:=rv.length;exact wpAny_pyNext_tuple_end (I.ok.hd hc) st (show s.heap.IsTuple a its.toArray from p) (by simp;omega) λ h' eb=>⟨rfl,I.turned (t':=s.toks) (λ b o hb e=>eb b o hb e) f0 f1 f3 f4 f5⟩
 self:=λ _ _ _ _ _ st h=>wpAny_pyIter_tupleiter st h
def yL {P:AA}{w:A4}{K:PySem.W.Frag}{tg:Expr} (it:Addr) (lo:Int) (n:Nat):Turn P w K tg (GV lo n) [it] it (λ i h=>N0 h it (lo + (i:Nat) * 1) ((n:Int) - (i:Nat)) 1) where
 mem:=by simp
 obj:=λ i h st b hb=>by
  have e:b=it:=by simpa using hb
  subst e;exact ⟨_,st,λ v z=>by
   have z':Data.fields _=Data.cell v:=z;cases z'⟩
 keep:=λ i h h' st k=>k it (by simp) _ st
 item:=by
  intro X hP hw hK hc i pins s σ H E I hf st hg;subst hP hw hK;obtain ⟨f0,f1,f2,f3,f4,f5⟩:=hf it (by simp);have W:=Walks.range (prog:=X.prog) (w:=X.w) (I.ok.hd hc) it lo 1 n;refine W.item i s _ _ hg st λ v h' tk hv st' kk=>?_;obtain ⟨t,rfl⟩:=hv;have I1:Inv X pins σ H { s with heap:=h',toks:=tk }:=I.turned (λ b o hb e=>kk b o (by simpa using hb) e) f0 f1 f3 f4 f5;refine ⟨_,rfl,IE (s:={ s with heap:=h',toks:=tk }) (n := "range_iterator") st' rfl rfl (by decide) ⟨.int (lo + i),H,I1,⟨t,?_⟩,⟨rfl,rfl⟩,st',λ b hb=>(hf b hb).1⟩⟩;rw [Int.mul_one]
 done:=by
  intro X hP hw hK hc i pins s σ H E I hf st hg;subst hP hw hK;obtain ⟨f0,f1,f2,f3,f4,f5⟩:=hf it (by simp);exact wpAny_pyNext_range_end (I.ok.hd hc) st (by have:n<=i:=hg;omega) λ h' eb=>⟨rfl,I.turned (t':=s.toks) (λ b o hb e=>eb b o hb e) f0 f1 f3 f4 f5⟩
 self:=λ _ _ _ _ _ st h=>wpAny_pyIter_rangeiter st h
section
variable {X:Cx}{tg:Expr}
def XM {pins:List (Addr×Obj)}{σ:St}{H:Hp}{s:Ai}{R:It->Hp->Prop}{E:Ad->Ai->Prop}{lo hi:Int}{t u v:Tok}{tk:Nat} (I:Inv X pins σ H s) (h1:-(2 ^ 62)<=lo) (h2:lo < 2 ^ 62) (h3:-(2 ^ 62)<=hi) (h4:hi < 2 ^ 62)
  (q:R (GV lo (hi - lo).toNat) H):Ak (Av X.prog X.w) X.A (pyIter (.ref s.heap.objs.size)) (TZ X pins σ tg R) E { s with heap:=s.heap.push { cls:=.type "range",data:=.fields #[.int lo t,.int hi u,.int 1 v] },toks:=tk }:=by
 refine wpAny_pyIter_range (IsRange.new ..) (small_one h1 h2 h3 h4) ?_;have I1:Inv X pins σ H { s with heap:=s.heap.push { cls:=.type "range",data:=.fields #[.int lo t,.int hi u,.int 1 v] },toks:=tk }:=I.kept λ b o e=>Bb _ e;refine ⟨(s.heap.push { cls:=.type "range",data:=.fields #[.int lo t,.int hi u,.int 1 v] }).objs.size,[(s.heap.push { cls:=.type "range",data:=.fields #[.int lo t,.int hi u,.int 1 v] }).objs.size],_,_,H,rfl,
  I1.kept (t':=tk) λ b o e=>Bb _ e,yL _ lo (hi - lo).toNat,?_,λ b hb=>?_,q⟩
 ·have e1:lo + ((0:Nat):Int) * 1=lo:=by simp
  have e2:(((hi - lo).toNat:Nat):Int) - ((0:Nat):Int)=Builtin.Range.rangeSize lo hi 1:=by rw [rangeSize_one];split <;> omega
  show N0 _ _ (lo + ((0:Nat):Int) * 1) ((((hi - lo).toNat:Nat):Int) - ((0:Nat):Int)) 1;rw [e1,e2];exact BL _ rfl
 ·have e:b=(s.heap.push { cls:=.type "range",data:=.fields #[.int lo t,.int hi u,.int 1 v] }).objs.size:=by simpa using hb
  subst e;exact I1.fpOk (AB _) (I1.hok.fresh (AB _))
def O3 (ta:TA):TI:=λ σ H R=>ta σ H λ vs H1=>∃ j:Int,vs=[.int j]/\-(2 ^ 62)<=j/\j < 2 ^ 62/\R (GV 0 j.toNat) H1
def O4 (ta:TA):TI:=λ σ H R=>ta σ H λ vs H1=>∃ i j:Int,vs=[.int i,.int j]/\(-(2 ^ 62)<=i/\i < 2 ^ 62/\-(2 ^ 62)<=j/\j < 2 ^ 62)/\R (GV i (j - i).toNat) H1
theorem yq {a:Expr}{ta:TA}{p pos:Pos} (hg:Gl X "range") (hm:X.mg "range" = none) (ha:PA X [a] ta) (hs:AK [a] X.env=[(false,eval a X.env)]:=by rfl):PI X tg (.Call (.Name "range" p) [a] [] pos) (O3 ta):=by
 intro pins s σ H R I h;refine Call_ (FK I hg hm boot_range (HF (Az (ha pos pins s σ H _ I h) λ us s1 ⟨vs,H1,I1,r1,q1⟩=>?_) hs rfl));obtain ⟨j,e,q1,q2,q⟩:=q1;subst e;cases r1 with
 | cons r rr=>
  cases rr;obtain ⟨t,rfl⟩:=r;exact call_range_1 (XM I1 (by omega) (by omega) q1 q2 (by simpa using q))
theorem yr {a b:Expr}{ta:TA}{p pos:Pos} (hg:Gl X "range") (hm:X.mg "range" = none) (ha:PA X [a,b] ta) (hs:AK [a,b] X.env=[(false,eval a X.env),(false,eval b X.env)]:=by rfl) (hs2:AK [b] X.env=[(false,eval b X.env)]:=by rfl):
  PI X tg (.Call (.Name "range" p) [a,b] [] pos) (O4 ta):=by
 intro pins s σ H R I h;refine Call_ (FK I hg hm boot_range (HF (Az (ha pos pins s σ H _ I h) λ us s1 ⟨vs,H1,I1,r1,q1⟩=>?_) (by rw [hs,hs2]) (by rw [hs2];rfl)));obtain ⟨i,j,e,⟨q1,q2,q3,q4⟩,q⟩:=q1;subst e;cases r1 with
 | cons r rr=>
  cases rr with
  | cons r' rr=>
   cases rr;obtain ⟨t,rfl⟩:=r;obtain ⟨t',rfl⟩:=r';exact call_range_2 (XM I1 q1 q2 q3 q4 q)
def Dx (wi:TI) (g:TG) (tb:TS):TS:=λ D σ H=>wi σ H λ J H1=>∃ W:Nat->Nat->St->Hp->Prop,(∃ m,W 0 m σ H1)/\∀ i m σ H,W i m σ H ->
 (J.stop i H/\D.nx σ H)\/(J.go i H/\∃ N:St->Hp->Prop,(∀ σ' H',N σ' H'->∃ m',m' < m/\W (i + 1) m' σ' H')/\∀ x H',J.yld i H x H'->g x σ H' λ σ2 H2=>tb { D with nx:=N,ct:=N,bk:=D.nx } σ2 H2)
def Lu (fp:List Addr) (h:Heap):List (Addr×Obj):=fp.filterMap λ b=>(h.get? b).map λ o=>(b,o)
def MG {fp:List Addr}{h:Heap}{b:Addr}{o:Obj} (hb:b∈fp) (e:h.get? b=some o):(b,o)∈Lu fp h:=jq3.mpr ⟨b,hb,by rw [e];rfl⟩
theorem yd {fp:List Addr}{h:Heap}{p:Addr×Obj} (hp:p∈Lu fp h):p.1∈fp/\h.get? p.1=some p.2:=by
 obtain ⟨b,hb,e⟩:=jq3.mp hp;cases q:h.get? b with
 | none=>rw [q] at e;cases e
 | some o=>
  rw [q] at e;have e':(b,o)=p:=Option.some.inj e;subst e';exact ⟨hb,q⟩
def Inv.pinned {pins:List (Addr×Obj)}{σ:St}{H:Hp}{s:Ai}{fp:List Addr} (I:Inv X pins σ H s) (hf:∀ b∈fp,Cr X pins H b) (ho:∀ b∈fp,∃ o,s.heap.get? b=some o/\∀ v,o.data≠.cell v):Inv X (pins++Lu fp s.heap) σ H s:=
 I.pins_of λ p hp=>(jd4.mp hp).elim (λ z=>I.pin p (BV _ z)) λ z=>by
  obtain ⟨hb,e⟩:=yd z;obtain ⟨f0,f1,f2,_⟩:=hf p.1 hb;obtain ⟨o,e',d⟩:=ho p.1 hb;rw [e] at e';cases e';exact ⟨e,f0,f1,f2,d⟩
def Inv.unpinned {pins pl:List (Addr×Obj)}{σ:St}{H:Hp}{s:Ai} (I:Inv X (pins++pl) σ H s):Inv X pins σ H s:=I.pins_of λ p hp=>I.pin p (BV _ (BU _ hp))
def Fl {iter:Expr}{body:List Stmt}{wi:TI}{g:TG}{tb:TS}{pos:Pos} (hp:Lz (Av X.prog X.w) X.A X.env X.xe) (hc:X.calm=true) (hi:PI X tg iter wi) (hg:PG X tg g) (hb:En X body tb)
  (hs:∀ x,NC iter X.env x=pure x:=by intro _;rfl):PS X (.For tg iter body [] pos) (Dx wi g tb):=by
 intro pins s σ H D I h;refine wpAny_For (Az (hi pins s σ H _ I h) λ v s1 h1=>Az h1 λ itv s2 h2=>?_) hs;obtain ⟨it,fp,tn,J,H2,e,I2,T,st2,f2,W,⟨m0,w0⟩,turn⟩:=h2;subst e;have stat:∀ {H':Hp},(∀ b∈fp,H' b=none)->∀ b∈fp,Cr X pins H' b:=λ hn b hb=>⟨hn b hb,(f2 b hb).2⟩
 refine codeAny_forLoop_any (λ n s'=>∃ i σ' H',Inv X pins σ' H' s'/\tn i s'.heap/\(∀ b∈fp,H' b=none)/\W i n σ' H') ?_ m0 ⟨0,σ,H2,I2,st2,λ b hb=>(f2 b hb).1,w0⟩;rintro n s3 ⟨i,σ3,H3,I3,st3,fr3,w3⟩;rcases turn i n σ3 H3 w3 with ⟨stop,qn⟩ | ⟨go,N,hN,step⟩
 ·refine Jv hp (Az (T.done X rfl rfl rfl hc i pins s3 σ3 H3 X.xe I3 (stat fr3) st3 stop) λ r s4 ⟨hr,I4⟩=>?_);subst hr;exact N9 ⟨σ3,H3,I4,qn⟩
 ·refine Jv hp (Az (T.item X rfl rfl rfl hc i pins s3 σ3 H3 X.xe I3 (stat fr3) st3 go) λ r s4 ⟨u,hr,h4⟩=>?_);subst hr;refine Jv hp (Az h4 λ _ s5 ⟨x,H5,I5,r5,y5,st5,fr5⟩=>?_);have I5':=I5.pinned (stat fr5) (T.obj _ _ st5);refine Jv hp (Az (hg _ s5 σ3 H5 x u _ I5' r5 (step x H5 y5)) λ _ s6 ⟨σ6,H6,I6,q6⟩=>?_);refine Jv hp (Az (hb _ s6 σ6 H6 _ I6 q6) λ f s7 q7=>?_);have again:∀ {σ7:St}{H7:Hp},Inv X (pins++Lu fp s5.heap) σ7 H7 s7->N σ7 H7->∃ m,m < n/\∃ i σ' H',Inv X pins σ' H' s7/\tn i s7.heap/\(∀ b∈fp,H' b=none)/\W i m σ' H':=λ {σ7 H7} I7 n7=>by
   obtain ⟨m',hm,w7⟩:=hN σ7 H7 n7;refine ⟨m',hm,i + 1,σ7,H7,I7.unpinned,T.keep _ _ _ st5 λ b hb o e=>(I7.pin (b,o) (BV _ (BV _ (MG hb e)))).1,λ b hb=>?_,w7⟩;obtain ⟨o,e,d⟩:=T.obj _ _ st5 b hb;exact (I7.pin (b,o) (BV _ (BV _ (MG hb e)))).2.1
  cases f with
  | next=>obtain ⟨σ7,H7,I7,n7⟩:=q7;exact again I7 n7
  | cont=>obtain ⟨σ7,H7,I7,n7⟩:=q7;exact again I7 n7
  | brk=>obtain ⟨σ7,H7,I7,q7⟩:=q7;exact ⟨σ7,H7,I7.unpinned,q7⟩
  | ret v=>obtain ⟨x7,σ7,H7,I7,r7,q7⟩:=q7;exact ⟨x7,σ7,H7,I7.unpinned,r7,q7⟩
end
abbrev R2:=V->V->Hp->VK->Prop
def OpR (X:Cx) (f:Ad->Ad->Sem Ad) (r:R2):Prop:=
 ∀ (pins:List (Addr×Obj)) (s:Ai) (σ:St) (H:Hp) (x y:V) (v u:Ad) (Q:VK),Inv X pins σ H s->RelV x v->RelV y u->r x y H Q ->
  Ak (Av X.prog X.w) X.A (f v u) (EP X pins σ Q) X.xe s
def TY (X:Cx) (f:Ad->Sem Ad) (r:V->Hp->VK->Prop):Prop:=
 ∀ (pins:List (Addr×Obj)) (s:Ai) (σ:St) (H:Hp) (x:V) (v:Ad) (Q:VK),Inv X pins σ H s->RelV x v->r x H Q ->
  Ak (Av X.prog X.w) X.A (f v) (EP X pins σ Q) X.xe s
def zkg (X:Cx) (f:Ad) (r:List V->Hp->VK->Prop):Prop:=
 ∀ (pins:List (Addr×Obj)) (s:Ai) (σ:St) (H:Hp) (xs:List V) (us:List Ad) (Q:VK),Inv X pins σ H s->Vals xs us->r xs H Q ->
  Ak (Av X.prog X.w) X.A (call f us) (EP X pins σ Q) X.xe s
def Kz (r:R2) (ta tb:TE):TE:=λ σ H Q=>ta σ H λ x H1=>tb σ H1 λ y H2=>r x y H2 Q
def Rn (r:V->Hp->VK->Prop) (ta:TE):TE:=λ σ H Q=>ta σ H λ x H1=>r x H1 Q
def rI (C:Int->Int->Prop) (g:Int->Int->V):R2:=λ x y H Q=>∃ i j,x=.int i/\y=.int j/\C i j/\Q (g i j) H
def Fp (g:Int->Int->V):R2:=λ x y H Q=>∃ i j,x=.int i/\y=.int j/\Q (g i j) H
def rU (g:Int->V):V->Hp->VK->Prop:=λ x H Q=>∃ i,x=.int i/\Q (g i) H
section
variable {X:Cx}{a b c:Expr}{ta tb tc:TE}{pos:Pos}
def JJ (ha:PE X a ta) (hb:PE X b tb) {pins:List (Addr×Obj)}{s:Ai}{σ:St}{H:Hp}{R:V->V->Hp->Prop} (I:Inv X pins σ H s)
  (h:ta σ H λ x H1=>tb σ H1 λ y H2=>R x y H2) {Q:Ad->Ai->Prop}{f:Ad->Ad->Sem Ad}
  (hf:∀ v u s2 x y H2,Inv X pins σ H2 s2->RelV x v->RelV y u->R x y H2->Ak (Av X.prog X.w) X.A (f v u) Q X.xe s2):
  Ak (Av X.prog X.w) X.A (eval a X.env) (λ v s₁=>Ak (Av X.prog X.w) X.A (eval b X.env) (λ u s₂=>Ak (Av X.prog X.w) X.A (f v u) Q X.xe s₂) X.xe s₁) X.xe s:=by
 refine Az (ha pins s σ H _ I h) λ v s1 ⟨x,H1,I1,r1,q1⟩=>?_;refine Az (hb pins s1 σ H1 _ I1 q1) λ u s2 ⟨y,H2,I2,r2,q2⟩=>?_;exact hf v u s2 x y H2 I2 r1 r2 q2
def RM {op:IB}{r:R2} (ho:OpR X (EI op) r) (ha:PE X a ta) (hb:PE X b tb):PE X (.BinOp a op b pos) (Kz r ta tb):=by
 intro pins s σ H Q I h;exact wpAny_BinOp (JJ ha hb I h λ v u s2 x y H2 I2 rx ry q=>ho pins s2 σ H2 x y v u Q I2 rx ry q)
def qK {op:UnaryOp}{r:V->Hp->VK->Prop} (ho:TY X (unaryOp op) r) (ha:PE X a ta):PE X (.UnaryOp op a pos) (Rn r ta):=by
 intro pins s σ H Q I h;exact UnaryOp_ (Az (ha pins s σ H _ I h) λ v s1 ⟨x,H1,I1,r1,q1⟩=>ho pins s1 σ H1 x v Q I1 r1 q1)
def Mi {f:Ad->Ad->Sem Ad}{C:Int->Int->Prop}{g:Int->Int->Int}
  (rule:∀ (i j:Int) (t u:Tok) (s:Ai) (Q:Ad->Ai->Prop) (E:Ad->Ai->Prop),C i j->Q (.int (g i j) s.toks) { s with toks:=s.toks + 1 }->Ak (Av X.prog X.w) X.A (f (.int i t) (.int j u)) Q E s):
  OpR X f (rI C λ i j=>.int (g i j)):=by
 intro pins s σ H x y v u Q I rx ry h;obtain ⟨i,j,rfl,rfl,hc,q⟩:=h;obtain ⟨t,rfl⟩:=rx;obtain ⟨t',rfl⟩:=ry;exact rule i j t t' s _ _ hc ⟨.int (g i j),H,I.tok _,⟨_,rfl⟩,q⟩
def SW {f:Ad->Ad->Sem Ad}{g:Int->Int->Int}
  (rule:∀ (i j:Int) (t u:Tok) (s:Ai) (Q:Ad->Ai->Prop) (E:Ad->Ai->Prop),Q (.int (g i j) s.toks) { s with toks:=s.toks + 1 }->Ak (Av X.prog X.w) X.A (f (.int i t) (.int j u)) Q E s):
  OpR X f (Fp λ i j=>.int (g i j)):=by
 intro pins s σ H x y v u Q I rx ry h;obtain ⟨i,j,rfl,rfl,q⟩:=h;obtain ⟨t,rfl⟩:=rx;obtain ⟨t',rfl⟩:=ry;exact rule i j t t' s _ _ ⟨.int (g i j),H,I.tok _,⟨_,rfl⟩,q⟩
def HL {f:Ad->Ad->Sem Ad}{g:Int->Int->Bool}
  (rule:∀ (i j:Int) (t u:Tok) (s:Ai) (Q:Ad->Ai->Prop) (E:Ad->Ai->Prop),Q (.bool (g i j)) s->Ak (Av X.prog X.w) X.A (f (.int i t) (.int j u)) Q E s):
  OpR X f (Fp λ i j=>.bl (g i j)):=by
 intro pins s σ H x y v u Q I rx ry h;obtain ⟨i,j,rfl,rfl,q⟩:=h;obtain ⟨t,rfl⟩:=rx;obtain ⟨t',rfl⟩:=ry;exact rule i j t t' s _ _ ⟨.bl (g i j),H,I,rfl,q⟩
def MB (i j:Int):Prop:=0<=j/\j<=1000000/\i.natAbs < 2 ^ 64
def CMul (i j:Int):Prop:=(-(2 ^ 64) < i/\i < 2 ^ 64)\/(-(2 ^ 64) < j/\j < 2 ^ 64)
def CMul.ok {i j:Int} (h:CMul i j):IntMulOk i j:=by
 rcases h with ⟨h1,h2⟩ | ⟨h1,h2⟩
 ·exact .of_left (intBits_le_64 h1 h2)
 ·exact .of_right (intBits_le_64 h1 h2)
def qrv:OpR X (EI .Add) (Fp λ i j=>.int (i + j)):=SW λ _ _ _ _ _ _ _ q=>add_int q
def qrl:OpR X (EI .Mult) (rI CMul λ i j=>.int (i * j)):=Mi λ _ _ _ _ _ _ _ hc q=>mul_int q hc.ok
def xa:OpR X (EI .Mod) (rI (λ _ j=>0 < j) λ i j=>.int (i % j)):=Mi λ i j _ _ _ _ _ hc q=>by
 have h1:(0:Int) < j:=hc;exact mod_int' (by omega) (by rw [Int.fmod_eq_emod_of_nonneg i (by omega)];exact q)
def xg:OpR X (EI .Pow) (rI MB λ i j=>.int (i ^ j.toNat)):=Mi λ _ _ _ _ _ _ _ hc q=>pow_int_small hc.1 hc.2.1 hc.2.2 q
def ZP {f:Ad->Sem Ad}{g:Int->Int}
  (rule:∀ (i:Int) (t:Tok) (s:Ai) (Q:Ad->Ai->Prop) (E:Ad->Ai->Prop),Q (.int (g i) s.toks) { s with toks:=s.toks + 1 }->Ak (Av X.prog X.w) X.A (f (.int i t)) Q E s):
  TY X f (rU λ i=>.int (g i)):=by
 intro pins s σ H x v Q I rx h;obtain ⟨i,rfl,q⟩:=h;obtain ⟨t,rfl⟩:=rx;exact rule i t s _ _ ⟨.int (g i),H,I.tok _,⟨_,rfl⟩,q⟩
def zF:TY X (unaryOp .USub) (rU λ i=>.int (-i)):=ZP λ _ _ _ _ _ q=>neg_int q
end
def Rv:V->V->Bool
 | .non,.non=>true | .non,.int _=>true | .int _,.non=>true | .non,.bl _=>true | .bl _,.non=>true | .non,.str _=>true | .str _,.non=>true
 | .int _,.int _=>true | .bl _,.bl _=>true | .str _,.str _=>true | .byt _,.byt _=>true
 | .int _,.str _=>true | .str _,.int _=>true | .bl _,.str _=>true | .str _,.bl _=>true
 | _,_=>false
def ZT:R2:=λ x y H Q=>Rv x y=true/\Q (.bl (decide (x=y))) H
def W8 {i j:Int}:decide (V.int i=V.int j)=(i == j):=by
 rw [E8];simp
def qB {i j:Bool}:decide (V.bl i=V.bl j)=(i == j):=by
 rw [E8];simp
def zY {i j:Str}:decide (V.str i=V.str j)=(i == j):=by
 rw [E8];simp
def zX {i j:Array UInt8}:decide (V.byt i=V.byt j)=(i.toList == j.toList):=by
 rw [E8];cases i;cases j;simp
section
variable {X:Cx}{a b c:Expr}{ta tb tc:TE}{pos:Pos}
def DV {pins:List (Addr×Obj)}{σ:St}{H:Hp}{s:Ai}{Q:VK}{k k':Bool} (I:Inv X pins σ H s) (q:Q (.bl k) H) (e:k=k'):EP X pins σ Q (.bool k') s:=by
 subst e;exact ⟨.bl k,H,I,rfl,q⟩
theorem qp:OpR X (CC .Eq) ZT:=by
 intro pins s σ H x y v u Q I rx ry h;obtain ⟨hs,q⟩:=h;cases x with
 | non=>
  cases rx;cases y with
  | non=>cases ry;exact PySem.EqNone.eq_none_none (DV I q (by simp))
  | bl j=>cases ry;exact PySem.EqNone.eq_none_bool (DV I q (by simp))
  | int j=>obtain ⟨t',rfl⟩:=ry;exact PySem.EqNone.eq_none_int (DV I q (by simp))
  | str j=>obtain ⟨t',rfl⟩:=ry;exact PySem.EqNone.eq_none_str (DV I q (by simp))
  | _=>exact absurd (show false=true from hs) Cy
 | bl i=>
  cases rx;cases y with
  | non=>cases ry;exact PySem.EqNone.eq_bool_none (DV I q (by simp))
  | bl j=>cases ry;exact eq_bool (DV I q qB)
  | str j=>obtain ⟨t',rfl⟩:=ry;exact PySem.EqMixed.eq_bool_str (DV I q (by simp))
  | _=>exact absurd (show false=true from hs) Cy
 | int i=>
  obtain ⟨t,rfl⟩:=rx;cases y with
  | non=>cases ry;exact PySem.EqNone.eq_int_none (DV I q (by simp))
  | int j=>obtain ⟨t',rfl⟩:=ry;exact eq_int (DV I q W8)
  | str j=>obtain ⟨t',rfl⟩:=ry;exact PySem.EqMixed.eq_int_str (DV I q (by simp))
  | _=>exact absurd (show false=true from hs) Cy
 | str i=>
  obtain ⟨t,rfl⟩:=rx;cases y with
  | non=>cases ry;exact PySem.EqNone.eq_str_none (DV I q (by simp))
  | bl j=>cases ry;exact PySem.EqMixed.eq_str_bool (DV I q (by simp))
  | int j=>obtain ⟨t',rfl⟩:=ry;exact PySem.EqMixed.eq_str_int (DV I q (by simp))
  | str j=>obtain ⟨t',rfl⟩:=ry;exact eq_str (DV I q zY)
  | _=>exact absurd (show false=true from hs) Cy
 | byt i=>
  obtain ⟨t,rfl⟩:=rx;cases y with
  | byt j=>obtain ⟨t',rfl⟩:=ry;exact PySem.W.eq_bytes (DV I q zX)
  | _=>exact absurd (show false=true from hs) Cy
 | _=>cases y <;> exact absurd (show false=true from hs) Cy
def Vt:OpR X (CC .Lt) (Fp λ i j=>.bl (decide (i < j))):=HL λ _ _ _ _ _ _ _ q=>lt_int q
def Vs:OpR X (CC .LtE) (Fp λ i j=>.bl (decide (i<=j))):=HL λ _ _ _ _ _ _ _ q=>le_int q
def Vr:OpR X (CC .Gt) (Fp λ i j=>.bl (decide (j < i))):=HL λ _ _ _ _ _ _ _ q=>gt_int q
def Vq:OpR X (CC .GtE) (Fp λ i j=>.bl (decide (j<=i))):=HL λ _ _ _ _ _ _ _ q=>ge_int q
def OpR.or {f:Ad->Ad->Sem Ad}{r r':R2} (h:OpR X f r) (h':OpR X f r'):OpR X f (λ x y H Q=>r x y H Q\/r' x y H Q):=by
 intro pins s σ H x y v u Q I rx ry q;rcases q with q | q
 ·exact h pins s σ H x y v u Q I rx ry q
 ·exact h' pins s σ H x y v u Q I rx ry q
def j6 {op:E3}{r:R2} (ho:OpR X (CC op) r) (ha:PE X a ta) (hb:PE X b tb) (hm:Kn op b=false):PE X (.Compare a [op] [b] pos) (Kz r ta tb):=by
 intro pins s σ H Q I h;exact wpAny_Compare1 (JJ ha hb I h λ v u s2 x y H2 I2 rx ry q=>ho pins s2 σ H2 x y v u Q I2 rx ry q) hm
def VA (t:TE):TT:=λ σ H Q=>t σ H λ x H'=>∃ k,x=.bl k/\Q k H'
def kr {op:E3}{r:R2} (ho:OpR X (CC op) r) (ha:PE X a ta) (hb:PE X b tb) (hm:Kn op b=false):PT X (.Compare a [op] [b] pos) (VA (Kz r ta tb)):=by
 intro pins s σ H Q I h;refine wpAny_isTrue_Compare1 (Az (ha pins s σ H _ I h) λ v s1 ⟨x,H1,I1,r1,q1⟩=>Az (hb pins s1 σ H1 _ I1 q1) λ u s2 ⟨y,H2,I2,r2,q2⟩=>
  Az (ho pins s2 σ H2 x y v u _ I2 r1 r2 q2) λ c s3 ⟨z,H3,I3,r3,k,e,q3⟩=>?_) hm
 subst e;cases r3;exact HD ⟨H3,I3,q3⟩
def So (r r':R2) (ta tb tc:TE):TE:=λ σ H Q=>ta σ H λ x H1=>tb σ H1 λ y H2=>r x y H2 λ z H3=>∃ k,z=.bl k /\
 (if k=true then tc σ H3 λ w' H4=>r' y w' H4 Q else Q (.bl false) H3)
theorem vA {op op':E3}{r r':R2} (ho:OpR X (CC op) r) (ho':OpR X (CC op') r') (ha:PE X a ta) (hb:PE X b tb) (hc:PE X c tc)
  (hm:lastMarks [op,op'] [b,c]=false:=by with_unfolding_all rfl):PE X (.Compare a [op,op'] [b,c] pos) (So r r' ta tb tc):=by
 intro pins s σ H Q I h;refine Compare_chain (Az (ha pins s σ H _ I h) λ v s1 ⟨x,H1,I1,r1,q1⟩=>chain_link (Az (hb pins s1 σ H1 _ I1 q1) λ u s2 ⟨y,H2,I2,r2,q2⟩=>
  Az (ho pins s2 σ H2 x y v u _ I2 r1 r2 q2) λ d s3 ⟨z,H3,I3,r3,k,e,q3⟩=>?_)) hm
 subst e;cases r3;refine HD ?_;cases k with
 | false=>exact ite_ff ⟨.bl false,H3,I3,rfl,q3⟩
 | true=>exact ite_tt (chain_last (Az (hc pins s3 σ H3 _ I3 q3) λ w' s4 ⟨z',H4,I4,r4,q4⟩=>ho' pins s4 σ H4 y z' u w' Q I4 r2 r4 q4))
theorem wo {op op':E3}{r r':R2} (ho:OpR X (CC op) r) (ho':OpR X (CC op') r') (ha:PE X a ta) (hb:PE X b tb) (hc:PE X c tc)
  (hm:lastMarks [op,op'] [b,c]=false:=by with_unfolding_all rfl):PT X (.Compare a [op,op'] [b,c] pos) (VA (So r r' ta tb tc)):=by
 intro pins s σ H Q I h;refine isTrue_chain (Az (ha pins s σ H _ I h) λ v s1 ⟨x,H1,I1,r1,q1⟩=>test_link (Az (hb pins s1 σ H1 _ I1 q1) λ u s2 ⟨y,H2,I2,r2,q2⟩=>
  Az (ho pins s2 σ H2 x y v u _ I2 r1 r2 q2) λ d s3 ⟨z,H3,I3,r3,k,e,q3⟩=>?_)) hm
 subst e;cases r3;refine HD ?_;cases k with
 | false=>
  obtain ⟨k',e',q'⟩:=q3;cases e';exact ite_ff ⟨H3,I3,q'⟩
 | true=>
  refine ite_tt (test_last (Az (hc pins s3 σ H3 _ I3 q3) λ w' s4 ⟨z',H4,I4,r4,q4⟩=>Az (ho' pins s4 σ H4 y z' u w' _ I4 r2 r4 q4) λ d' s5 ⟨z2,H5,I5,r5,k2,e2,q5⟩=>?_));subst e2;cases r5;exact HD ⟨H5,I5,q5⟩
def Je:(Aw:Nat) < 2 ^ 63:=by rw [sizeLine_eq];decide
theorem GJ {x:V}{us:List Ad} (r:Vals [x] us):∃ u,us=[u]/\RelV x u:=by
 cases r with
 | cons r1 r2=>cases r2;exact ⟨_,rfl,r1⟩
theorem RQ {x y:V}{us:List Ad} (r:Vals [x,y] us):∃ u w',us=[u,w']/\RelV x u/\RelV y w':=by
 cases r with
 | cons r1 r2=>
  cases r2 with
  | cons r3 r4=>cases r4;exact ⟨_,_,rfl,r1,r3⟩
def wJ (hc:X.calm=true):zkg X (.builtin "max") (λ xs H Q=>∃ i j,xs=[.int i,.int j]/\Q (.int (if j > i then j else i)) H):=by
 intro pins s σ H xs us Q I r h;obtain ⟨i,j,rfl,q⟩:=h;obtain ⟨u,w',rfl,⟨t,rfl⟩,⟨t',rfl⟩⟩:=RQ r;refine max_two_ints (I.ok.hd hc) λ h' tk k=>⟨_,H,I.kept k,?_,q⟩
 by_cases hj:j > i
 ·rw [if_pos hj,if_pos hj];exact ⟨_,rfl⟩
 ·rw [if_neg hj,if_neg hj];exact ⟨_,rfl⟩
def wL (hc:X.calm=true):zkg X (.builtin "min") (λ xs H Q=>∃ i j,xs=[.int i,.int j]/\Q (.int (if j < i then j else i)) H):=by
 intro pins s σ H xs us Q I r h;obtain ⟨i,j,rfl,q⟩:=h;obtain ⟨u,w',rfl,⟨t,rfl⟩,⟨t',rfl⟩⟩:=RQ r;refine min_two_ints (I.ok.hd hc) λ h' tk k=>⟨_,H,I.kept k,?_,q⟩
 by_cases hj:j < i
 ·rw [if_pos hj,if_pos hj];exact ⟨_,rfl⟩
 ·rw [if_neg hj,if_neg hj];exact ⟨_,rfl⟩
end
structure ObjM (h:Heap) (x dx C:Addr) (mA:Str->Option Ad):Prop where
 obj:h.get? x=some (Q8 C dx)
 ns:h.Ns1 dx mA
 ne:dx≠x
def wZ {h:Heap}{dx:Addr}{mA:Str->Option Ad} (n:h.Ns1 dx mA):∃ od,h.get? dx=some od/\∀ name,Q5 name od=some (mA name):=by
 obtain ⟨o,es,ep,ho,hd,hk,_,hm⟩:=n;refine ⟨o,ho,λ name=>?_⟩;have e:=hm name;unfold nsFind findBy at e;rw [<- Array.find?_toList] at e;unfold Q5;rw [hd];dsimp only;split
 ·rename_i y q;rw [q] at e;exact congrArg some e
 ·rename_i q;rw [q] at e;have a:es.toList.any (·.refKey)=false:=by
   rw [List.any_eq_false];intro y hy;obtain ⟨z,t,hkey⟩:=hk y (Array.mem_toList_iff.mp hy);simp [DictEntry.refKey,hkey]
  have a':¬ es.toList.any (·.refKey)=true:=by rw [a];exact Cy
  rw [if_neg a'];exact congrArg some e
def ObjM.look {h:Heap}{x dx C:Addr}{mA:Str->Option Ad} (I:ObjM h x dx C mA):∃ od,PySem.W.InstAt h x (Q8 C dx) C (some od)/\∀ name,Q5 name od=some (mA name):=
 let ⟨od,ho,hl⟩:=wZ I.ns
 ⟨od,⟨I.obj,rfl,rfl,ho⟩,hl⟩
section
variable {prog:AA}{w:A4}{A:BD}{E:Ad->Ai->Prop}{s:Ai}{K:PySem.W.Frag}{x dx C f:Addr}{mA:Str->Option Ad}{name:Str}{v:Ad}
end
theorem RelO.some_of {v:V}{o:Option Ad} (r:RelO (some v) o):∃ u,o=some u/\RelV v u:=by
 cases o with
 | none=>exact (show False from r).elim
 | some u=>exact ⟨u,rfl,r⟩
section
variable {P:AA}{w:A4}{H H':Hp}{h h':Heap}{a C dx:Addr}{fs fs':List (Str×V)}
def jE (hok:HOk P w H h) (e:H a=some (.ins C dx fs)):∃ mA,ObjM h a dx C mA/\(∀ f,RelO (fs.lookup f) (mA f))/\PySem.Within mA (fs.map (·.1))/\fs.length<=1000/\H dx=some (.own a):=by
 obtain ⟨d,z,ne,ob,mA,n,r,q⟩:=(show zxq P w H h a (.ins C dx fs) from hok a _ e)
 exact ⟨mA,⟨ob,n,ne⟩,r,q,z,d⟩
end
structure Cls (K:PySem.W.Frag) (C:Addr):Prop where
 pg:PySem.W.plainGet K C Str.empty=true
 hd:PySem.W.hasDictIn K C=true
 po:PySem.W.plainOver K C=true
 sa:L5 K (.ref C) "__setattr__" = some (some (.builtin "object.__setattr__"))
def Cls.get {K:PySem.W.Frag}{C:Addr} (c:Cls K C) (f:Str):PySem.W.plainGet K C f=true:=c.pg
structure Con (K:PySem.W.Frag) (C:Addr) (f:Str) (v:V) (u:Ad):Prop where
 at_:L5 K (.ref C) f=some (some u)
 rel:RelV v u
 get:PySem.W.specialIn K u "__get__" = some none
 cp:PySem.W.copiedNames.contains f=false
structure Meth (K:PySem.W.Frag) (C:Addr) (m:Str) (f:Addr):Prop where
 at_:L5 K (.ref C) m=some (some (.ref f))
 fn:PySem.W.isFn K (.ref f)=true
 kp:Jt K (.ref f)=true
section
variable {X:Cx}{pins:List (Addr×Obj)}{σ:St}{H:Hp}{s:Ai}{a C dx:Addr}{fs:List (Str×V)}{f:Str}{v:V}{A:BD}{E:Ad->Ai->Prop}
end
section
variable {X:Cx}{o e value:Expr}{f:Str}{pos pos' tpos:Pos}{ta tv:TE}
end
section
variable {X:Cx}{pins:List (Addr×Obj)}{σ:St}{H:Hp}{s:Ai}{A:BD}{E:Ad->Ai->Prop}{Q:Ad->Ai->Prop}{c:Ad}{b:Bool}
inductive TyOf (K:PySem.W.Frag) (H:Hp):V->Ad->Prop where
 | non:TyOf K H .non (.type "NoneType")
 | bl (x:Bool):TyOf K H (.bl x) (.type "bool")
 | int (i:Int):TyOf K H (.int i) (.type "int")
 | str (x:Str):TyOf K H (.str x) (.type "str")
 | flt (x:UInt64):TyOf K H (.flt x) (.type "float")
 | lst {a:Addr}{xs:List V} (e:H a=some (.lst xs)):TyOf K H (.ref a) (.type "list")
 | frz {a:Addr}{o:Obj}{xs:List V} (e:H a=some (.frz o (.lst xs))):TyOf K H (.ref a) (.type "list")
 | tup {a:Addr}{xs:List V} (e:H a=some (.tup xs)):TyOf K H (.ref a) (.type "tuple")
 | dK {a:Addr}{kvs:List (Ax×V)} (e:H a=some (.dK kvs)):TyOf K H (.ref a) (.type "dict")
 | dT {a:Addr}{kvs:List (List Ax×V)} (e:H a=some (.dT kvs)):TyOf K H (.ref a) (.type "dict")
 | ins {a C dx:Addr}{fs:List (Str×V)} (e:H a=some (.ins C dx fs)) (cl:Cls K C) (ha:L5 K (.ref C) "__class__" = some (some (.builtin "object.__class__")))
   (hn:PySem.W.specialIn K (.builtin "object.__class__") "__get__" = some (some (.builtin "getset_descriptor.__get__"))) (htk:PySem.W.takesIn K (.builtin "object.__class__")=some true)
   (hm:PySem.W.mroIn K C (.type "object")=some true):TyOf K H (.ref a) (.ref C)
theorem wU {x:V}{u t:Ad} (I:Inv X pins σ H s) (rx:RelV x u) (ty:TyOf X.K H x t) (e:N6 X.K t c=some b) (h:∀ tk,Q (.bool b) { s with toks:=tk }):
  Ak (Av X.prog X.w) A (call (.builtin "isinstance") [u,c]) Q E s:=by
 cases ty with
 | non=>cases (show u=Value.none from rx);exact FV PySem.W.kitx_none I.kIn True.intro e (λ z=>nomatch z) h
 | bl y=>cases (show u=Value.bool y from rx);exact FV PySem.W.kitx_bool I.kIn True.intro e (λ z=>nomatch z) h
 | int i=>obtain ⟨t,q⟩:=(show ∃ t,u=Value.int i t from rx);cases q;exact FV PySem.W.kitx_int I.kIn True.intro e (λ z=>nomatch z) h
 | str y=>obtain ⟨t,q⟩:=(show ∃ t,u=Value.str y t from rx);cases q;exact FV PySem.W.kitx_str I.kIn True.intro e (λ z=>nomatch z) h
 | flt y=>obtain ⟨t,q⟩:=(show ∃ t,u=Value.float y t from rx);cases q;exact FV PySem.W.kitx_float I.kIn True.intro e (λ z=>nomatch z) h
 | @lst a xs ea=>
  cases (show u=Value.ref a from rx);obtain ⟨_,_,n,_,h1⟩:=(show zxq X.prog X.w H s.heap a (.lst xs) from I.hok a _ ea)
  exact FV PySem.W.kitx_list I.kIn ⟨_,h1,rfl⟩ e (λ z=>nomatch z) h
 | @frz a ob xs ea=>
  cases (show u=Value.ref a from rx);obtain ⟨_,_,_,n,_,h1⟩:=(show zxq X.prog X.w H s.heap a (.frz ob (.lst xs)) from I.hok a _ ea)
  exact FV PySem.W.kitx_list I.kIn ⟨_,h1,rfl⟩ e (λ z=>nomatch z) h
 | @tup a xs ea=>
  cases (show u=Value.ref a from rx);obtain ⟨_,_,_,p⟩:=(show zxq X.prog X.w H s.heap a (.tup xs) from I.hok a _ ea)
  obtain ⟨o,h1,h2,_⟩:=p;exact FV PySem.W.kitx_tuple I.kIn ⟨o,h1,h2⟩ e (λ z=>nomatch z) h
 | @dK a kvs ea=>
  cases (show u=Value.ref a from rx);obtain ⟨_,_,vs,_,p⟩:=(show zxq X.prog X.w H s.heap a (.dK kvs) from I.hok a _ ea)
  obtain ⟨o,es,ep,h1,h2,_⟩:=p;exact FV PySem.W.kitx_dict I.kIn ⟨o,h1,h2.1⟩ e (λ z=>nomatch z) h
 | @dT a kvs ea=>
  cases (show u=Value.ref a from rx);obtain ⟨_,_,xs,_,o,es,ep,h1,h2,_⟩:=(show zxq X.prog X.w H s.heap a (.dT kvs) from I.hok a _ ea)
  exact FV PySem.W.kitx_dict I.kIn ⟨o,h1,h2.1⟩ e (λ z=>nomatch z) h
 | @ins a C dx fs ea cl ha hn htk hm=>
  cases (show u=Value.ref a from rx);obtain ⟨mA,O,_⟩:=jE I.hok ea;obtain ⟨od,J,_⟩:=O.look;exact FV (PySem.W.kitx_own (cl.get _) cl.hd ha hn htk hm) I.kIn J e (λ z=>nomatch z) h
end
structure Room (k:Nat) (A:BD):Prop where
 hd:A.handled=none
 dp:A.depth + 3 * k + 5 < recursionLimit
 un:A.units + 16 * k + 200 < D9
 gd:A.guards=some []
def Room.mono {j k:Nat}{A:BD} (r:Room k A) (h:j<=k):Room j A:=⟨r.hd,by have:=r.dp;omega,by have:=r.un;omega,r.gd⟩
def Room.deeper {k:Nat}{A:BD} (r:Room (k + 1) A) (env:Env):Room k (A.deeper env):=
 ⟨r.hd,by have:=r.dp;show A.depth + 1 + 3 * k + 5 < _;omega,by have:=r.un;show A.units + 3 + 16 * k + 200 < _;omega,r.gd⟩
def Room.depth {k:Nat}{A:BD} (r:Room k A):A.depth < recursionLimit:=by have:=r.dp;omega
def Room.units {k:Nat}{A:BD} (r:Room k A):A.units + 64 < D9:=by have:=r.un;omega
def HH:TA:=λ _ H Q=>Q [] H
def OA (ta:TE) (tr:TA):TA:=λ σ H Q=>ta σ H λ x H1=>tr σ H1 λ xs H2=>Q (x::xs) H2
section
variable {X:Cx}{e:Expr}{es:List Expr}{te:TE}{t:TA}{pos:Pos}
def OM:PA X [] HH:=λ _ _ _ _ H Q I h=>QD ⟨[],H,I,.nil,h⟩
def Lg (ha:PE X e te) (hr:PA X es t) (hs:AK (e::es) X.env=(false,eval e X.env)::AK es X.env:=by rfl):PA X (e::es) (OA te t):=by
 intro pos pins s σ H Q I h;rw [hs];show Ak _ _ (spliced ((false,eval e X.env)::Dh pos (AK es X.env))) _ _ s;refine QU (Az (ha pins s σ H _ I h) λ u s1 ⟨x,H1,I1,r1,q1⟩=>?_);exact Az (hr pos pins s1 σ H1 _ I1 q1) λ us s2 ⟨xs,H2,I2,r2,q2⟩=>⟨x::xs,H2,I2,.cons r1 r2,q2⟩
def Ro (t:TA):TE:=λ σ H Q=>t σ H λ xs H1=>xs.length<=Aw/\∀ p,H1 p=none->Q (.ref p) (Ap H1 p (.tup xs))
def Rq (t:TA):TE:=λ σ H Q=>t σ H λ xs H1=>xs.length<=Aw/\∀ p,H1 p=none->Q (.ref p) (Ap H1 p (.lst xs))
def xX {x1} (h:PA X es t):PE X (.Tuple es x1 pos) (Ro t):=by
 intro pins s σ H Q I hq;refine wpAny_Tuple_spliced (Az (h pos pins s σ H _ I hq) λ us s1 ⟨xs,H1,I1,r,z,q⟩=>⟨by rw [<- r.length];exact z,?_⟩);have hf:H1 s1.heap.objs.size=none:=I1.hok.fresh (AB _);refine ⟨.ref s1.heap.objs.size,Ap H1 s1.heap.objs.size (.tup xs),I1.laid (t':=s1.toks) (λ b u e=>Bb _ e) (AB _) ?_,rfl,q _ hf⟩;exact ⟨z,us,r,⟨_,BL _ rfl,rfl,_,rfl⟩⟩
def Wr (h:PA X es t):PE X (.List es pos) (Rq t):=by
 intro pins s σ H Q I hq;refine wpAny_List_spliced (Az (h pos pins s σ H _ I hq) λ us s1 ⟨xs,H1,I1,r,z,q⟩=>⟨by rw [<- r.length];exact z,?_⟩);have hf:H1 s1.heap.objs.size=none:=I1.hok.fresh (AB _);refine ⟨.ref s1.heap.objs.size,Ap H1 s1.heap.objs.size (.lst xs),I1.laid (t':=s1.toks) (λ b u e=>Bb _ e) (AB _) ?_,rfl,q _ hf⟩;exact ⟨z,us,0,r,BL _ rfl⟩
end
abbrev Sp:=List V->Hp->VK->XK->Prop
abbrev FD:=List Env->Hp->Ai->XK->Ad->Ai->Prop
structure Env0 (P:AA) (w:A4) (K:PySem.W.Frag) (mg:Str->Option Ad) (base:Heap) (A:BD) (outer:List Env) (s:Ai) (H:Hp):Prop where
 frames:A.frames=some outer
 mod:Mod K mg base
 bs:∀ b o,base.get? b=some o->s.heap.get? b=some o/\H b=none
 bsz:base.objs.size<=s.heap.objs.size
 funs:s.heap.FunFrames base outer
 frf:∀ b∈Gp outer,H b=none
 hok:HOk P w H s.heap
 bare:Hy s.gens
def CE (outer:List Env) (P:AA) (w:A4) (H:Hp) (s:Ai) (Q:VK) (u:Ad) (s':Ai):Prop:=
 ∃ v H',s'.os=s.os/\Hy s'.gens/\Un (Gp outer) [] H H' s.heap s'.heap/\HOk P w H' s'.heap/\RelV v u/\Q v H'
def CR (CX:FD) (outer:List Env) (P:AA) (w:A4) (H:Hp) (s:Ai) (Q:VK) (E:XK) (r:Result) (s':Ai):Prop:=
 match r with
 | .ok (.ret u)=>CE outer P w H s Q u s'
 | .ok _=>False
 | .error e=>CX outer H s E e s'
structure FnOk (P:AA) (w:A4) (K:PySem.W.Frag) (mg:Str->Option Ad) (base:Heap) (CX:FD) (k:Nat) (f:Addr) (fd:CQ) (ps:List Str) (sp:Sp):Prop where
 len:∀ vs H Q E,sp vs H Q E->vs.length=ps.length
 run:∀ (A:BD) (outer:List Env) (s:Ai) (H:Hp) (args:Args) (us:List Ad) (vs:List V) (Q:VK) (E:XK),Room k A->Env0 P w K mg base A outer s H->BindsTo s fd args (ps.zip us)->Vals vs us->sp vs H Q E ->
  I0 (Av P w) A (.call (.ref f) args) (CR CX outer P w H s Q E) s
def FnOk.mono {P:AA}{w:A4}{K:PySem.W.Frag}{mg:Str->Option Ad}{base:Heap}{CX:FD}{j k:Nat}{f:Addr}{fd:CQ}{ps:List Str}{sp:Sp} (F:FnOk P w K mg base CX j f fd ps sp) (h:j<=k):
  FnOk P w K mg base CX k f fd ps sp:=⟨F.len,λ A outer s H args us vs Q E hr=>F.run A outer s H args us vs Q E (hr.mono h)⟩
section
variable {X:Cx}{pins:List (Addr×Obj)}{σ:St}{H:Hp}{s s':Ai}
def Inv.env0 (I:Inv X pins σ H s):Env0 X.prog X.w X.K X.mg X.base X.A X.stack s H:=
 ⟨I.ok.frames,I.ok.mod,I.bs,Cw I.ok.bsz I.sz,I.stack,I.stkFree,I.hok,I.bare⟩
def Inv.after {Q:VK}{u:Ad} (I:Inv X pins σ H s) (h:CE X.stack X.prog X.w H s Q u s'):EP X pins σ Q u s':=by
 obtain ⟨v,H',os,bare,un,hok,r,q⟩:=h;obtain ⟨hh,g,d,t,os'⟩:=s';obtain rfl:os'=s.os:=os;exact ⟨v,H',I.call (h':=hh) (g':=g) (d':=d) (t':=t) (ch:=[]) un hok bare (λ b z=>absurd z (by simp)),r,q⟩
end
def qa5 (K:PySem.W.Frag) (fd:CQ) (ps:List Str) (ds:List Ad):Prop:=
 ∀ (s:Ai) (us:List Ad),K.In s.heap->(us++ds).length=ps.length->BindsTo s fd ⟨us,[]⟩ (ps.zip (us++ds))
def qa5.all {K:PySem.W.Frag}{fd:CQ}{ps:List Str} (h:∀ us:List Ad,us.length=ps.length->bindArgs fd ⟨us,[]⟩=pure (ps.zip us)):qa5 K fd ps []:=λ s us _ hl=>by
 rw [JB] at hl ⊢;exact .of_eq (h us hl)
section
variable {X:Cx}{CX:FD}{k:Nat}{f C:Addr}{fd:CQ}{ps:List Str}{sp:Sp}{dvs:List V}{ds:List Ad}{E:XK}{x m:Str}{p pos apos:Pos}{e o:Expr}{es:List Expr}{ta:TE}{t:TA}
structure Mk (K:PySem.W.Frag) (C f:Addr):Prop where
 makes:PySem.W.makesIn K C=true
 init:L5 K (.ref C) "__init__" = some (some (.ref f))
 fn:PySem.W.isFn K (.ref f)=true
 kp:Jt K (.ref C)=true
end
section
variable {X:Cx}{CX:FD}{k:Nat}{f C:Addr}{fd:CQ}{ps ks:List Str}{sp:Sp}{E:XK}{x m:Str}{p pos apos kpos:Pos}{e o:Expr}{es:List Expr}{kws:List Keyword}{te ta:TE}{t tk:TA}{nm:Option Str}
structure KBinds (K:PySem.W.Frag) (fd:CQ) (ps ks:List Str) (g:List Ad->List Ad->List Ad) (gV:List V->List V->List V):Prop where
 to:∀ (s:Ai) (us ws:List Ad),K.In s.heap->(g us ws).length=ps.length->BindsTo s fd ⟨us,ks.zip ws⟩ (ps.zip (g us ws))
 rel:∀ {vs:List V}{us:List Ad}{zs:List V}{ws:List Ad},Vals vs us->Vals zs ws->Vals (gV vs zs) (g us ws)
variable {g:List Ad->List Ad->List Ad}{gV:List V->List V->List V}
end
structure FnScope (N P:List Str) (sc:Bv):Prop where
 kind:sc.kind=.function:=by rfl
 co:sc.isCoroutine=false:=by rfl
 gen:sc.isGenerator=false:=by rfl
 nd:N.Nodup:=by decide +kernel
 pre:N.take P.length=P:=by rfl
 par:∀ x∈P,sc.names.lookup x=some .local\/sc.names.lookup x=some .cell:=by decide +kernel
 nofree:∀ y∈sc.names,y.2≠.free:=by decide +kernel
theorem Ys {kindOf:Str->Option Dw}{x:Str}:∀ {binds:List (Str×Ad)}{m:Str->Option Ad},(∀ v,(x,v)∉binds)->bindL kindOf binds m x=m x
 | [],_,_=>rfl
 | (n,v)::r,m,h=>by
  unfold bindL;rw [Ys λ w hw=>h w (AI _ hw)];split
  ·have:x≠n:=by rintro rfl;exact h v AH
   simp [this]
  ·rfl
theorem Yq {kindOf:Str->Option Dw}{x:Str}:∀ {binds:List (Str×Ad)}{m:Str->Option Ad},(∀ v,(x,v)∉binds)->bindC kindOf binds m x=m x
 | [],_,_=>rfl
 | (n,v)::r,m,h=>by
  unfold bindC;rw [Yq λ w hw=>h w (AI _ hw)];split
  ·rfl
  ·have:x≠n:=by rintro rfl;exact h v AH
   simp [this]
theorem Yr {kindOf:Str->Option Dw}{x:Str}{v:Ad}:∀ {P:List Str}{vs:List Ad}{i:Nat}{m:Str->Option Ad},P.Nodup->P[i]?=some x->vs[i]?=some v->kindOf x=some .local ->
  bindL kindOf (P.zip vs) m x=some v
 | [],_,_,_,_,h,_,_=>by simp at h
 | _::_,[],_,_,_,_,h,_=>by simp at h
 | p::P,w::vs,0,m,nd,h1,h2,hk=>by
  simp at h1 h2;subst h1;subst h2;show bindL kindOf ((p,w)::P.zip vs) m p=_;unfold bindL;rw [Ys λ v hv=>(jh9.mp nd).1 (KG hv).1,if_pos hk];simp
 | p::P,w::vs,i + 1,m,nd,h1,h2,hk=>by
  show bindL kindOf ((p,w)::P.zip vs) m x=_;unfold bindL;exact Yr (i:=i) (jh9.mp nd).2 (by simpa using h1) (by simpa using h2) hk
theorem Yp {kindOf:Str->Option Dw}{x:Str}{v:Ad}:∀ {P:List Str}{vs:List Ad}{i:Nat}{m:Str->Option Ad},P.Nodup->P[i]?=some x->vs[i]?=some v->kindOf x≠some .local ->
  bindC kindOf (P.zip vs) m x=some v
 | [],_,_,_,_,h,_,_=>by simp at h
 | _::_,[],_,_,_,_,h,_=>by simp at h
 | p::P,w::vs,0,m,nd,h1,h2,hk=>by
  simp at h1 h2;subst h1;subst h2;show bindC kindOf ((p,w)::P.zip vs) m p=_;unfold bindC;rw [Yq λ v hv=>(jh9.mp nd).1 (KG hv).1,if_neg hk];simp
 | p::P,w::vs,i + 1,m,nd,h1,h2,hk=>by
  show bindC kindOf ((p,w)::P.zip vs) m x=_;unfold bindC;exact Yp (i:=i) (jh9.mp nd).2 (by simpa using h1) (by simpa using h2) hk
def start (N:List Str) (vs:List V):St:=vs.map some++AL (N.length - vs.length) none
def CG (CX:FD) (P:AA) (w:A4) (K:PySem.W.Frag) (mg:Str->Option Ad) (base:Heap) (N:List Str) (qual:Str) (scope:Bv) (f:Addr) (cd:Ad) (A:BD) (outer:List Env) (s:Ai) (H:Hp) (E:XK):Cx where
 prog:=P
 w:=w
 K:=K
 mg:=mg
 base:=base
 A:=A.deeper (Hx qual scope s.heap.objs.size f cd)
 N:=N
 s₀:=s
 H₀:=H
 env:=Hx qual scope s.heap.objs.size f cd
 outer:=outer
 stack:=Hx qual scope s.heap.objs.size f cd::outer
 ex:=[]
 calm:=true
 fn:=λ _=>true
 pn:=[]
 xe:=λ e s'=>Ak (Av P w) (A.deeper (Hx qual scope s.heap.objs.size f cd)) (leaving (Hx qual scope s.heap.objs.size f cd) e) (λ _ s''=>CX outer H s E e s'') (λ e' s''=>CX outer H s E e' s'') s'
def Xu {sc:Bv}{n:Nat}{x:Str} (h:sc.names.lookup x=some .cell):∃ c,(Di n sc.names []).lookup x=some c:=by
 have q:=PySem.W.cellsFrom_some sc.names n [] (.inl h);exact Option.isSome_iff_exists.mp q
def wQ {CX:FD}{P:AA}{w:A4}{K:PySem.W.Frag}{mg:Str->Option Ad}{base:Heap}{N ps:List Str}{qual:Str}{scope:Bv}{f:Addr}{cd:Ad}{A:BD}{outer:List Env}{s s1:Ai}{H:Hp}{E:XK}{us:List Ad}{vs:List V}
  (S:FnScope N ps scope) (hd:A.handled=none) (e0:Env0 P w K mg base A outer s H) (hl:vs.length=ps.length) (r:Vals vs us)
  (x:InCallC s s.heap.objs.size (bindL (Hx qual scope s.heap.objs.size f cd).kindOf (ps.zip us) λ _=>none) (Di (s.heap.objs.size + 1) scope.names []) (bindC (Hx qual scope s.heap.objs.size f cd).kindOf (ps.zip us) λ _=>none) s1):
  Inv (CG CX P w K mg base N qual scope f cd A outer s H E) [] (start N vs) H s1:=by
 have hpl:ps.length<=N.length:=by have:=congrArg YB S.pre;rw [Fz] at this;omega
 obtain ⟨h1,tk,rfl,hk⟩:=x.done;have noA:∀ b:Addr,b∉(CG CX P w K mg base N qual scope f cd A outer s H E).ex:=λ b z=>absurd (show b∈([]:List Addr) from z) (by simp);refine ⟨⟨e0.mod,S.kind,rfl,rfl,AB _,λ y z c h1 h2=>?_,λ y hy=>?_,λ y c _ h=>?_,λ _=>hd,Around.frames_deeper e0.frames,.inr ⟨rfl,rfl⟩,λ b z=>absurd z (noA b),e0.bs,e0.bsz,λ b _ _=>noA b,λ b z=>absurd z (noA b),e0.funs,e0.frf⟩,
  rfl,e0.bare,Un.kept hk,⟨_,x.toInCall.ns,λ i y v h1 h2 h3=>?_⟩,λ y c h=>⟨_,x.cell y c h⟩,e0.hok.fresh (AB _),λ y c h=>?_,λ p hp=>absurd (show p∈([]:List (Addr×Obj)) from hp) (by simp),e0.hok.kept hk,?_⟩
 ·exact name_of_addr x.apart (L8 h1) (L8 h2)
 ·have hy:scope.names.lookup y=some .cell\/scope.names.lookup y=some .free:=hy;rcases hy with hy | hy
  ·exact Xu hy
  ·exact absurd rfl (S.nofree _ (L8 hy))
 ·exact Mn (x.above y c (L8 h))
 ·have hi:i < vs.length:=by
   unfold start at h2;by_cases hi:i < vs.length
   ·exact hi
   ·rw [Gi (by simpa using hi)] at h2;rw [EB] at h2;split at h2 <;> cases h2
  have ha:vs[i]?=some v:=by
   unfold start at h2;rw [C7 (by simpa using hi),C5] at h2;cases e:vs[i]? with
   | none=>rw [e] at h2;cases h2
   | some a=>rw [e] at h2;cases h2;rfl
  obtain ⟨u,hu,rv⟩:=r.get ha;have hp:ps[i]?=some y:=by
   rw [<- S.pre,KO (by omega)];exact h1
  have ndP:ps.Nodup:=by rw [<- S.pre];exact S.nd.sublist (List.take_sublist _ _)
  refine ⟨u,rv,?_⟩;rcases S.par y (List.mem_of_getElem? hp) with k | k
  ·exact .inl ⟨k,Yr ndP hp hu k⟩
  ·obtain ⟨c,e⟩:=Xu (n:=s.heap.objs.size + 1) k;refine .inr ⟨.inl k,c,e,?_⟩;have q:=x.cell y c e;rw [Yp ndP hp hu (by show scope.names.lookup y≠_;rw [k];decide)] at q;exact q
 ·exact e0.hok.fresh (Mn (x.above y c (L8 h)))
 ·unfold start;show _=N.length;rw [BI,A8,El];omega
theorem qf {CX:FD}{P:AA}{w:A4}{K:PySem.W.Frag}{mg:Str->Option Ad}{base:Heap}{k:Nat}{f:Addr}{name qual:Str}{params:Arguments}{body:List Stmt}{scope:Bv}{dV kV doc pm cdv ct oc:Ad}{an od:Option Addr}
  {osl:Array (Option Ad)}{N ps:List Str}{sp:Sp} (lk:K.lookup f=some ⟨oc,od,.func (Km name qual params body scope dV kV doc pm an cdv ct),osl⟩) (hcd:Q4 K cdv qual=true) (S:FnScope N ps scope)
  (len:∀ vs H Q E,sp vs H Q E->vs.length=ps.length)
  (hbody:∀ (A:BD) (outer:List Env) (s:Ai) (H:Hp) (vs:List V) (Q:VK) (E:XK),Room k (A.deeper (Hx qual scope s.heap.objs.size f cdv))->sp vs H Q E ->
   ∃ t,En (CG CX P w K mg base N qual scope f cdv A outer s H E) body t/\t { nx:=λ _ H'=>Q .non H',rt:=Q } (start N vs) H):
  FnOk P w K mg base CX (k + 1) f (Km name qual params body scope dV kV doc pm an cdv ct) ps sp:=by
 refine ⟨len,λ A outer s H args us vs Q E hr e0 hb r hsp=>?_⟩;have hl:=len _ _ _ _ hsp;have KX:K.In s.heap:=e0.mod.kin.keeps λ b o e=>(e0.bs b o e).1;have lim:s.heap.NoLimit:=e0.mod.nolimit.keeps λ b o e=>(e0.bs b o e).1;have hkind:∀ y∈ps.zip us,scope.names.lookup y.1=some .local\/(scope.names.lookup y.1=some .cell/\((Di (s.heap.objs.size + 1) scope.names []).lookup y.1).isSome=true):=λ ⟨n,v⟩ hy=>by
  rcases S.par n (KG hy).1 with q | q
  ·exact .inl q
  ·exact .inr ⟨q,PySem.W.cellsFrom_some _ _ _ (.inl q)⟩
 refine codeAny_call_function hr.depth (KX _ _ lk) rfl S.co S.gen rfl (PySem.W.codeRec_of KX hcd) (hb _ _ _ _ ?_);refine wpAny_newFunctionEnv_cells S.kind hkind λ env he s1 x=>?_;subst he;refine ⟨lim.keeps x.toInCall.keep,codeAny_func ?_⟩;obtain ⟨t,ht,hq⟩:=hbody A outer s H vs Q E (hr.deeper _) hsp;have I:Inv (CG CX P w K mg base N qual scope f cdv A outer s H E) [] (start N vs) H s1:=wQ S hr.hd e0 hl r x;refine HA (ht [] s1 (start N vs) H _ I hq) (λ fl s' hs=>?_) λ e s' hs=>hs;have fin:∀ {σ':St}{H':Hp}{v:V}{u:Ad},Inv (CG CX P w K mg base N qual scope f cdv A outer s H E) [] σ' H' s'->RelV v u->Q v H'->CE outer P w H s Q u s':=
  λ {σ' H' v u} J rv q=>⟨v,H',J.os,J.bare,J.base,J.hok,rv,q⟩
 cases fl with
 | ret u=>
  obtain ⟨v,σ',H',J,rv,q⟩:=hs;exact fin J rv q
 | next=>
  obtain ⟨σ',H',J,q⟩:=hs;exact fin (v:=V.non) (u:=Value.none) J rfl q
 | brk=>
  obtain ⟨_,_,_,q⟩:=hs;exact Hz q
 | cont=>
  obtain ⟨_,_,_,q⟩:=hs;exact Hz q
section
variable {X:Cx}{x:Str}{p pos:Pos}{e:Expr}{es:List Expr}{t:TA}{id T:String}{r:List V->Hp->VK->Prop}
def Rr (r:List V->Hp->VK->Prop) (t:TA):TE:=λ σ H Q=>t σ H λ vs H1=>r vs H1 Q
def JX (hc:zkg X (.builtin id) r) (hg:Gl X x) (hm:X.mg x=none) (hv:Jq x=some (.builtin id)) (ha:PA X (e::es) t) (hn:x ≠ "__name__" := by decide) (hdb:(x == ("__debug__" : Str))=false:=by decide)
  (he:AK (e::es) X.env=(false,eval e X.env)::AK es X.env:=by rfl) (hpl:(Dh pos (AK es X.env)).any (·.1)=false:=by rfl):PE X (.Call (.Name x p) (e::es) [] pos) (Rr r t):=by
 intro pins s σ H Q I h;refine NF (FK I hg hm hv ?_ hn hdb);exact PyProof.Rows.callWith_builtin1 (Az (ha pos pins s σ H _ I h) λ us s1 ⟨vs,H1,I1,r1,q1⟩=>hc pins s1 σ H1 vs us Q I1 r1 q1) he hpl
def U6 (hc:zkg X (.type T) r) (hg:Gl X x) (hm:X.mg x=none) (hv:Jq x=some (.type T)) (ha:PA X (e::es) t) (hn:x ≠ "__name__" := by decide) (hdb:(x == ("__debug__" : Str))=false:=by decide)
  (he:AK (e::es) X.env=(false,eval e X.env)::AK es X.env:=by rfl) (hpl:(Dh pos (AK es X.env)).any (·.1)=false:=by rfl):PE X (.Call (.Name x p) (e::es) [] pos) (Rr r t):=by
 intro pins s σ H Q I h;refine NF (FK I hg hm hv ?_ hn hdb);exact HF (Az (ha pos pins s σ H _ I h) λ us s1 ⟨vs,H1,I1,r1,q1⟩=>hc pins s1 σ H1 vs us Q I1 r1 q1) he hpl
end
end L2
namespace HT
open PySem PyProof.Rows
section
open PySem.SeqAt
open PySem.AutoSeq1 (wpAny_loadPart')
open PySem.MeetsSeq PySem.MeetsSeq2 PySem.MeetsSeq3
end
section
variable {prog:AA}{w:A4}{A:BD}{E:Ad->Ai->Prop}{s:Ai}
def cat_tup {t b:Addr}{vs ws:List Ad}{Q:Ad->Ai->Prop} (ht:IsTup s.heap t vs.toArray) (hb:IsTup s.heap b ws.toArray) (hv:vs≠[])
  (h1:ws=[]->Q (.ref t) s) (h2:ws≠[]->Q (.ref s.heap.objs.size) { s with heap:=s.heap.push { cls:=.type "tuple",data:=.seq (vs++ws).toArray } })
  (hsz:vs.length + ws.length<=Aw):Ak (Av prog w) A (EI .Add (.ref t) (.ref b)) Q E s:=by
 obtain ⟨⟨cls,dd,data,sl⟩,ho,hc,n,hd⟩:=id ht;obtain ⟨⟨cls2,dd2,data2,sl2⟩,ho2,hc2,n2,hd2⟩:=id hb;simp only at hc hd hc2 hd2;subst hc hd hc2 hd2;have e:vs.toArray++ws.toArray=(vs++ws).toArray:=by simp
 by_cases hw:ws=[]
 ·exact concat_meets ⟨_,ho,rfl⟩ ⟨_,ho2,rfl⟩ QB seq_tuple_add Rh Ri (Rj _ _)
   (tuple_addW1 t b vs.toArray ws.toArray n n2 dd dd2 sl sl2 (by simpa using hv) (by simp [hw])) ⟨ho,ho2,h1 hw⟩
 ·refine concat_meets ⟨_,ho,rfl⟩ ⟨_,ho2,rfl⟩ QB seq_tuple_add Rh Ri (Rj _ _)
   (tuple_addW2 t b vs.toArray ws.toArray n n2 dd dd2 sl sl2 (by simpa using hv) (by simpa using hw) (by rw [Ca,Ca];exact hsz)) ⟨ho,ho2,?_⟩
  rw [e];exact h2 hw
def sIx (n d:Nat):Option Int->Nat
 | none=>d
 | some v=>if v < 0 then (v + (n:Int)).toNat else min v.toNat n
def sIx_none (n d:Nat):sIx n d none=d:=rfl
def sIx_nat (n d k:Nat):sIx n d (some (k:Int))=min k n:=by
 show (if (k:Int) < 0 then ((k:Int) + (n:Int)).toNat else min (k:Int).toNat n)=min k n;rw [if_neg (by omega),D3]
theorem xO (n d:Nat) (hd:d<=n) (o:Option Int):sIx n d o<=n:=by
 cases o with
 | none=>exact hd
 | some v=>
  show (if v < 0 then (v + (n:Int)).toNat else min v.toNat n)<=n;by_cases hv:v < 0
  ·rw [if_pos hv];omega
  ·rw [if_neg hv];exact Tr _ _
def W4 (v:Int) (n d:Nat):(if v < 0 then max (v + (n:Int)) 0 else min v (n:Int))=((sIx n d (some v):Nat):Int):=by
 show (if v < 0 then max (v + (n:Int)) 0 else min v (n:Int))=(((if v < 0 then (v + (n:Int)).toNat else min v.toNat n):Nat):Int);by_cases hv:v < 0
 ·simp only [if_pos hv];omega
 ·simp only [if_neg hv];omega
def yx (lo hi:Option Int) (n:Nat):Rk lo hi 1 (n:Int)=(((sIx n 0 lo:Nat):Int),((sIx n n hi:Nat):Int)):=by
 have h1:¬ ((1:Int) < 0):=by omega
 unfold Rk;simp only [h1,if_false];refine Prod.ext ?_ ?_
 ·cases lo with
  | none=>rfl
  | some v=>exact W4 v n 0
 ·cases hi with
  | none=>rfl
  | some v=>exact W4 v n n
def yH (i j:Nat):NM (i:Int) (j:Int) 1=j - i:=by
 unfold NM;have h1:(1:Int) > 0:=by omega
 simp only [h1,if_true,Int.ediv_one];split <;> omega
theorem Uu {v:Ad}{o:Option Int}{Q:Option Int->Ai->Prop} (p:IsPart v o) (h:Q o s):Ak (Av prog w) A (Builtin.Slice.slicePartIndex v) Q E s:=by
 cases p with
 | none=>exact slicePart_none h
 | int i t=>exact slicePart_int h
def ZO {sl:Addr}{vl vu:Ad}{lo hi:Option Int}{n:Nat}{Q:Int×Int×Nat->Ai->Prop} (hs:s.heap.IsSliceOf sl vl vu .none) (pl:IsPart vl lo) (pu:IsPart vu hi)
  (h:Q (((sIx n 0 lo:Nat):Int),1,sIx n n hi - sIx n 0 lo) s):Ak (Av prog w) A (US (.ref sl) (pure (n:Int))) Q E s:=by
 obtain ⟨os,hos,hcs,hds⟩:=id hs;unfold US Builtin.Slice.sliceFields;refine Ag (Ag (DR hos hds (x:=vl) rfl (Ag (DR hos hds (x:=vu) rfl (Ag (DR hos hds (x:=.none) rfl (Ao ?_)))))));refine Ag (slicePart_none ?_);show Ak _ _ (if ((1:Int) == 0)=true then _ else _) _ _ s;rw [if_neg (by decide)];refine Ag (Uu pl (Ag (Uu pu (Ag (Ao ?_)))));show Ak _ _ (match Rk lo hi 1 (n:Int) with | (lo,hi)=>pure (lo,(1:Int),NM lo hi 1)) _ _ s;rw [yx lo hi n];show Ak _ _ (pure (((sIx n 0 lo:Nat):Int),(1:Int),NM ((sIx n 0 lo:Nat):Int) ((sIx n n hi:Nat):Int) 1)) _ _ s;rw [yH];exact Ao h
def vD (xs:Array Ad) (i k:Nat):((A6 k).filterMap λ (m:Nat)=>xs[((i:Int) + (m:Int) * 1).toNat]?).toArray=((xs.toList.drop i).take k).toArray:=by
 have e:(λ (m:Nat)=>xs[((i:Int) + (m:Int) * 1).toNat]?)=λ m=>xs[i + m]?:=by
  funext m
  have:((i:Int) + (m:Int) * 1).toNat=i + m:=by omega
  rw [this]
 rw [e]
 have:=pick_run xs i k
 rw [List.filterMap_map] at this;have e2:((λ x=>xs[x]?) ∘ λ x=>i + x)=λ m=>xs[i + m]?:=rfl;rw [e2] at this;rw [this]
def getItem_tuple_cut {t sl:Addr}{items:Array Ad}{vl vu:Ad}{lo hi:Option Int}{Q:Ad->Ai->Prop} (ht:IsTup s.heap t items) (hs:s.heap.IsSliceOf sl vl vu .none) (pl:IsPart vl lo) (pu:IsPart vu hi)
  (hw:¬ (sIx items.size 0 lo=0/\sIx items.size items.size hi=items.size))
  (h:Q (.ref s.heap.objs.size) { s with heap:=s.heap.push { cls:=.type "tuple",data:=.seq ((items.toList.drop (sIx items.size 0 lo)).take (sIx items.size items.size hi - sIx items.size 0 lo)).toArray } })
  (hsz:items.size<=Aw):Ak (Av prog w) A (Jl (.ref t) (.ref sl)) Q E s:=by
 have htake:sizeOk (.seq ((items.toList.drop (sIx items.size 0 lo)).take (sIx items.size items.size hi - sIx items.size 0 lo)).toArray):=by
  show ((items.toList.drop (sIx items.size 0 lo)).take (sIx items.size items.size hi - sIx items.size 0 lo)).toArray.size<=Aw;rw [Ca,Fz,Fy,IP];omega
 have hj:sIx items.size items.size hi<=items.size:=xO _ _ (AB _) hi;obtain ⟨os,hos,hcs,hds⟩:=id hs;have hTs:s.TypeIs (.ref sl) "slice" := ⟨os,hos,hcs⟩
 unfold Jl
 try with_reducible refine Js ?_
 first | refine Ag (Ao ?_) | skip
 refine Ag (wpAny_sequenceKey ht.typeIs (by decide) ?_);refine Ag (HE (name:=GL "__getitem__") ht.typeIs Vb
  (FW Vb ht.typeIs entry_tuple_getitem ?_ (args_tuple_getitem _ _)))
 show Ak _ _ (Builtin.Tuple.tupleItemsOf (.ref t) >>= _) _ _ s;refine Ag (tupleItemsOf_ ht ?_);refine Ag (wpAny_typeOf hTs ?_);rw [if_pos (by decide)];refine Ag (ZO hs pl pu ?_);have hno:¬ ((((sIx items.size 0 lo:Nat):Int) == 0 && (1:Int) == 1 && (sIx items.size items.size hi - sIx items.size 0 lo) == items.size)=true):=by
  intro q;rw [Ba,Ba] at q;have q1:((sIx items.size 0 lo:Nat):Int)=0:=eq_of_beq q.1.1;have q2:sIx items.size items.size hi - sIx items.size 0 lo=items.size:=eq_of_beq q.2;exact hw ⟨by omega,by omega⟩
 show Ak _ _ (if (((sIx items.size 0 lo:Nat):Int) == 0 && (1:Int) == 1 && (sIx items.size items.size hi - sIx items.size 0 lo) == items.size)=true then _ else _) _ _ s;rw [if_neg hno,vD]
 first
  | exact Ag (m:=NJ _) (DS (Ao ⟨_,rfl,Ao h⟩) htake)
  | exact Ag (m:=NJ _) (DS (Ag (Ao (Ao ⟨_,rfl,Ao h⟩))) htake)
  | exact Ag (Ag (m:=NJ _) (DS (Ao (Ao ⟨_,rfl,Ao h⟩)) htake))
  | exact Ag (Ag (m:=NJ _) (DS (Ao ⟨_,rfl,Ao h⟩) htake))
end
end HT
namespace L2
open PySem PySem.Spec PyProof.Rows
abbrev TO:=St->Hp->(Option Int->Hp->Prop)->Prop
def PO (X:Cx) (e:Option Expr) (t:TO):Prop:=
 ∀ (pins:List (Addr×Obj)) (s:Ai) (σ:St) (H:Hp) (Q:Option Int->Hp->Prop),Inv X pins σ H s->t σ H Q ->
  Ak (Av X.prog X.w) X.A (evalPart e X.env) (λ u s'=>∃ o H',Inv X pins σ H' s'/\IsPart u o/\Q o H') X.xe s
def Xn:TO:=λ _ H Q=>Q none H
def V8 (t:TE):TO:=λ σ H Q=>t σ H λ x H1=>∃ i,x=.int i/\Q (some i) H1
section
variable {X:Cx}{e:Expr}{te:TE}{lo hi:Option Expr}{tl th:TO}{pos p2:Pos}
def WT:PO X none Xn:=by
 intro pins s σ H Q I h;rw [evalPart_none];exact Ao ⟨none,H,I,.none,h⟩
def Nf (h:PE X e te):PO X (some e) (V8 te):=by
 intro pins s σ H Q I hw;rw [evalPart_some];refine Az (h pins s σ H _ I hw) λ u s1 ⟨x,H1,I1,r1,q1⟩=>?_;obtain ⟨i,rfl,q⟩:=q1;obtain ⟨t,rfl⟩:=r1;exact ⟨some i,H1,I1,.int i t,q⟩
def SlR (X:Cx) (r:V->Option Int->Option Int->Hp->VK->Prop):Prop:=
 ∀ (pins:List (Addr×Obj)) (s:Ai) (σ:St) (H:Hp) (x:V) (v vl vu:Ad) (lo hi:Option Int) (sl:Addr) (Q:VK),Inv X pins σ H s->RelV x v->s.heap.IsSliceOf sl vl vu .none->IsPart vl lo->IsPart vu hi->r x lo hi H Q ->
  ∃ T id,typeLookup (.type T) "__getitem__" = pure (some (.builtin id))/\s.TypeIs v T/\Ak (Av X.prog X.w) X.A (Jl v (.ref sl)) (EP X pins σ Q) X.xe s
def SlR.or {r r':V->Option Int->Option Int->Hp->VK->Prop} (h:SlR X r) (h':SlR X r'):SlR X (λ x lo hi H Q=>r x lo hi H Q\/r' x lo hi H Q):=by
 intro pins s σ H x v vl vu lo hi sl Q I rx hs pl pu q;rcases q with q | q
 ·exact h pins s σ H x v vl vu lo hi sl Q I rx hs pl pu q
 ·exact h' pins s σ H x v vl vu lo hi sl Q I rx hs pl pu q
def Ve (r:V->Option Int->Option Int->Hp->VK->Prop) (te:TE) (tl th:TO):TE:=λ σ H Q=>te σ H λ x H1=>tl σ H1 λ l H2=>th σ H2 λ u H3=>r x l u H3 Q
def Qs {r:V->Option Int->Option Int->Hp->VK->Prop} (hr:SlR X r) (he:PE X e te) (hl:PO X lo tl) (hu:PO X hi th):PE X (.Subscript e (.Slice lo hi none p2) pos) (Ve r te tl th):=by
 intro pins s σ H Q I h;refine Subscript_ (Az (he pins s σ H _ I h) λ v s1 ⟨x,H1,I1,r1,q1⟩=>?_);refine wpAny_Slice (Az (hl pins s1 σ H1 _ I1 q1) λ vl s2 ⟨l,H2,I2,pl,q2⟩=>Az (hu pins s2 σ H2 _ I2 q2) λ vu s3 ⟨u,H3,I3,pu,q3⟩=>?_);rw [evalPart_none];refine Ao ?_;have I4:Inv X pins σ H3 { s3 with heap:=s3.heap.push { cls:=.type "slice",data:=.fields #[vl,vu,.none] } }:=I3.kept (t':=s3.toks) λ b ob q=>Bb _ q;obtain ⟨T,id,hT,ht,hg⟩:=hr pins { s3 with heap:=s3.heap.push { cls:=.type "slice",data:=.fields #[vl,vu,.none] } } σ H3 x v vl vu l u s3.heap.objs.size Q I4 r1 (Heap.IsSliceOf.new ..) pl pu q3;show Ak (Av X.prog X.w) X.A (subscriptTail e (.Slice lo hi none p2) v (.ref s3.heap.objs.size)) (EP X pins σ Q) X.xe { s3 with heap:=s3.heap.push { cls:=.type "slice",data:=.fields #[vl,vu,.none] } };exact tail_any (ops:=[.ref s3.heap.objs.size,v]) ht hT hg (by with_unfolding_all rfl)
def CZ (xs:List V) (lo hi:Option Int):List V:=(xs.drop (HT.sIx xs.length 0 lo)).take (HT.sIx xs.length xs.length hi - HT.sIx xs.length 0 lo)
def Ux (xs:List V) (lo hi:Option Int):(CZ xs lo hi).length<=xs.length:=by
 unfold CZ;rw [Fz,Fy];omega
def LJ (K:PySem.W.Frag):V->Option Int->Option Int->Hp->VK->Prop:=λ x lo hi H Q=>∃ a xs,x=.ref a/\SqT K H a xs /\
 ¬ (HT.sIx xs.length 0 lo=0/\HT.sIx xs.length xs.length hi=xs.length)/\∀ p,H p=none->Q (.ref p) (Ap H p (.tup (CZ xs lo hi)))
def Sk:SlR X (LJ X.K):=by
 intro pins s σ H x v vl vu lo hi sl Q I rx hs pl pu h;obtain ⟨a,xs,rfl,hx,hw,q⟩:=h;cases rx;obtain ⟨its,r,ht,hz⟩:=I.tuple hx;have hlen:its.toArray.size=xs.length:=by rw [Ca];exact r.length.symm
 refine ⟨"tuple",_,PyProof.Rows.slot_tuple_getitem.lookup,ht.typeIs,?_⟩;refine HT.getItem_tuple_cut ht hs pl pu (by rw [hlen];exact hw) ?_ (by rw [hlen];exact hz);rw [hlen];refine ⟨.ref s.heap.objs.size,_,I.laid (t':=s.toks) (o:=.tup (CZ xs lo hi)) (λ b ob q=>Bb _ q) (AB _) ?_,rfl,q _ (I.hok.fresh (AB _))⟩;exact ⟨Cw (Ux xs lo hi) hz,_,(r.drop (HT.sIx xs.length 0 lo)).take (HT.sIx xs.length xs.length hi - HT.sIx xs.length 0 lo),IsTup.new _ _⟩
def qO (K:PySem.W.Frag):R2:=λ x y H Q=>∃ a b xs ys,x=.ref a/\y=.ref b/\SqT K H a xs/\SqT K H b ys/\xs≠[]/\xs.length + ys.length<=Aw /\
 (ys=[]->Q (.ref a) H)/\(ys≠[]->∀ p,H p=none->Q (.ref p) (Ap H p (.tup (xs++ys))))
theorem Vals.nil_iff {xs:List V}{us:List Ad} (r:Vals xs us):us=[]↔xs=[]:=by
 cases r with
 | nil=>simp
 | cons _ _=>simp
def qnj:OpR X (EI .Add) (qO X.K):=by
 intro pins s σ H x y v u Q I rx ry h;obtain ⟨a,b,xs,ys,rfl,rfl,ha,hb,hx,hz,q1,q2⟩:=h;cases rx;cases ry;obtain ⟨its,r1,p1,_⟩:=I.tuple ha;obtain ⟨its2,r2,p2,_⟩:=I.tuple hb;refine HT.cat_tup p1 p2 (λ z=>hx (r1.nil_iff.mp z)) (λ z=>⟨.ref a,H,I,rfl,q1 (r2.nil_iff.mp z)⟩) (λ z=>?_) (by rw [<- r1.length,<- r2.length];exact hz);refine ⟨.ref s.heap.objs.size,_,I.laid (t':=s.toks) (o:=.tup (xs++ys)) (λ b ob q=>Bb _ q) (AB _) ?_,rfl,q2 (λ w=>z (r2.nil_iff.mpr w)) _ (I.hok.fresh (AB _))⟩;exact ⟨by rw [BI];exact hz,_,r1.append r2,IsTup.new _ _⟩
end
def DM (n:Nat) (i:Int):Option Nat:=if 0<=i then (if i < n then some i.toNat else none) else if -(n:Int)<=i then some (i + n).toNat else none
def BJ {α:Type} (xs:List α) (i:Int):Option α:=(DM xs.length i).bind λ j=>xs[j]?
def WD {n:Nat}{i:Int}{j:Nat} (h:DM n i=some j):seqIndex? i n=some j/\j < n/\-(n:Int)<=i/\i < n:=by
 unfold DM at h;by_cases h0:0<=i
 ·rw [if_pos h0] at h;by_cases h1:i < n
  ·rw [if_pos h1] at h;have e:i.toNat=j:=Option.some.inj h;exact ⟨by rw [N3 h0 h1,e],by omega,by omega,h1⟩
  ·rw [if_neg h1] at h;cases h
 ·rw [if_neg h0] at h;by_cases h1:-(n:Int)<=i
  ·rw [if_pos h1] at h;have e:(i + n).toNat=j:=Option.some.inj h;exact ⟨by rw [seqIndex_neg (by omega) h1,e],by omega,h1,by omega⟩
  ·rw [if_neg h1] at h;cases h
theorem MQ {α:Type}{xs:List α}{i:Int}{v:α} (h:BJ xs i=some v):∃ j,seqIndex? i xs.length=some j/\xs[j]?=some v/\j < xs.length/\-(xs.length:Int)<=i/\i < xs.length:=by
 unfold BJ at h;cases e:DM xs.length i with
 | none=>rw [e] at h;cases h
 | some j=>
  rw [e] at h;obtain ⟨h1,h2,h3,h4⟩:=WD e;exact ⟨j,h1,h,h2,h3,h4⟩
def MP (b:Expr):Prop:=∀ o i,subscripted b false o i=operate [o,i] (Jl o i)
def IxR (X:Cx) (r:R2):Prop:=
 ∀ (value slice:Expr) (pins:List (Addr×Obj)) (s:Ai) (σ:St) (H:Hp) (x y:V) (v u:Ad) (Q:VK),Inv X pins σ H s->RelV x v->RelV y u->r x y H Q ->
  subscripted slice false v u=operate [v,u] (Jl v u)->Ak (Av X.prog X.w) X.A (subscriptTail value slice v u) (EP X pins σ Q) X.xe s
def gE (X:Cx) (id:String) (r:V->List V->Hp->VK->Prop):Prop:=
 ∀ (pins:List (Addr×Obj)) (s:Ai) (σ:St) (H:Hp) (x:V) (xs:List V) (v:Ad) (us:List Ad) (Q:VK),Inv X pins σ H s->RelV x v->Vals xs us->r x xs H Q ->
  Ak (Av X.prog X.w) X.A (call (.builtin id) (v::us)) (EP X pins σ Q) X.xe s
section
variable {X:Cx}{a b:Expr}{ta tb:TE}{pos:Pos}
def IxR.or {r r':R2} (h:IxR X r) (h':IxR X r'):IxR X (λ x y H Q=>r x y H Q\/r' x y H Q):=by
 intro value slice pins s σ H x y v u Q I rx ry q hs;rcases q with q | q
 ·exact h value slice pins s σ H x y v u Q I rx ry q hs
 ·exact h' value slice pins s σ H x y v u Q I rx ry q hs
def Vy {r:R2} (hr:IxR X r) (ha:PE X a ta) (hb:PE X b tb) (hs:MP b):PE X (.Subscript a b pos) (Kz r ta tb):=by
 intro pins s σ H Q I h;exact Subscript_ (JJ ha hb I h λ v u s2 x y H2 I2 rx ry q=>hr a b pins s2 σ H2 x y v u Q I2 rx ry q (hs _ _))
def HJ (K:PySem.W.Frag):R2:=λ x y H Q=>∃ p xs i v,x=.ref p/\y=.int i/\Bi K H p xs/\BJ xs i=some v/\Q v H
def LL (K:PySem.W.Frag):R2:=λ x y H Q=>∃ p xs i v,x=.ref p/\y=.int i/\SqT K H p xs/\BJ xs i=some v/\Q v H
def LM:R2:=λ x y H Q=>∃ z i c,x=.str z/\y=.int i/\z.length<=Aw/\BJ z.cps.toList i=some c/\Q (.str ⟨#[c]⟩) H
def qn0:IxR X (HJ X.K):=by
 intro value slice pins s σ H x y v u Q I rx ry h hs;obtain ⟨p,xs,i,z,rfl,rfl,hq,he,q⟩:=h;cases rx;obtain ⟨t,rfl⟩:=ry;obtain ⟨its,r,pl,hz⟩:=I.list hq;obtain ⟨j,h1,h2,h3,h4,h5⟩:=MQ he;obtain ⟨w,ew,rw'⟩:=r.get h2;have hl:=r.length;have hn:=Je;have fin:EP X pins σ Q w s:=⟨z,H,I,rw',q⟩
 by_cases h0:0<=i
 ·have hj:i.toNat=j:=by
   rw [N3 h0 h5] at h1;exact Option.some.inj h1
  exact item_listR pl.isList h0 (by omega) (by rw [hj];simpa using ew) fin hs
 ·have hj:(i + (its.toArray.size:Int)).toNat=j:=by
   rw [seqIndex_neg (by omega) h4] at h1;rw [Ca,<- hl];exact Option.some.inj h1
  exact subscriptTail_builtinR (x:=w) pl.isList.typeIs slot_list_getitem.lookup
   (wpAny_getItem_list_neg (Q:=λ r s'=>r=w/\EP X pins σ Q r s') pl.isList (by omega) (by rw [Ca] <;> omega) (by omega) (by rw [hj];simpa using ew) ⟨rfl,fin⟩) hs
def qr8:IxR X (LL X.K):=by
 intro value slice pins s σ H x y v u Q I rx ry h hs;obtain ⟨p,xs,i,z,rfl,rfl,hq,he,q⟩:=h;cases rx;obtain ⟨t,rfl⟩:=ry;obtain ⟨its,r,pl,hz⟩:=I.tuple hq;obtain ⟨j,h1,h2,h3,h4,h5⟩:=MQ he;obtain ⟨w,ew,rw'⟩:=r.get h2;have hl:=r.length;have hn:=Je;have fin:EP X pins σ Q w s:=⟨z,H,I,rw',q⟩
 exact subscriptTail_builtinR (x:=w) pl.typeIs slot_tuple_getitem.lookup
  (getItem_tuple (j:=j) (Q:=λ r s'=>r=w/\EP X pins σ Q r s') pl (by omega) (by omega) (by rw [Ca,<- hl];exact h1) (by simpa using ew) ⟨rfl,fin⟩) hs
def xn:IxR X LM:=by
 intro value slice pins s σ H x y v u Q I rx ry h hs;obtain ⟨z,i,c,rfl,rfl,hz,he,q⟩:=h;obtain ⟨t,rfl⟩:=rx;obtain ⟨t',rfl⟩:=ry;obtain ⟨j,h1,h2,h3,h4,h5⟩:=MQ he;have hl:z.cps.toList.length=z.length:=by simp [Str.length]
 rw [hl] at h1 h4 h5;have hn:=Je;exact tail_any (typeIs_str s z t) slot_str_getitem.lookup (getItem_str (c:=c) (by
  have e1:decide (i < -(2 ^ 63:Int))=false:=decide_eq_false (by omega);have e2:decide (i ≥ 2 ^ 63)=false:=decide_eq_false (by omega);rw [e1,e2,OY]) (by rw [h1];simpa using h2) ⟨.str ⟨#[c]⟩,H,I.tok _,⟨_,rfl⟩,q⟩) hs
def ZS (K:PySem.W.Frag):R2:=λ x y H Q=>HJ K x y H Q\/LL K x y H Q\/LM x y H Q
def qlf:IxR X (ZS X.K):=qn0.or (qr8.or xn)
def yB (its:List Ad) (n j:Nat) (u:Ad):Jn (·.setIfInBounds j u) { cls:=.type "list",data:=.seq its.toArray n }={ cls:=.type "list",data:=.seq (its.set j u).toArray n }:=by
 simp [Jn]
def Inv.lst {pins:List (Addr×Obj)}{σ:St}{H:Hp}{s:Ai}{p:Addr}{xs:List V} (I:Inv X pins σ H s) (h:H p=some (.lst xs)):
  ∃ (its:List Ad) (n:Nat),Vals xs its/\s.heap.get? p=some { cls:=.type "list",data:=.seq its.toArray n }/\xs.length<=Aw:=by
 obtain ⟨z,its,n,r,e⟩:=I.hok p _ h;exact ⟨its,n,r,e,z⟩
def Inv.lstUpd {pins:List (Addr×Obj)}{σ:St}{H:Hp}{s:Ai}{p:Addr}{xs ys:List V}{its its':List Ad}{n n':Nat}{f:Obj->Obj} (I:Inv X pins σ H s) (h:H p=some (.lst xs))
  (ho:s.heap.get? p=some { cls:=.type "list",data:=.seq its.toArray n }) (hf:f { cls:=.type "list",data:=.seq its.toArray n }={ cls:=.type "list",data:=.seq its'.toArray n' }) (r:Vals ys its') (hz:ys.length<=Aw) (t:Nat):
  Inv X pins σ (Ap H p (.lst ys)) { s with heap:=s.heap.update p f,toks:=t }:=by
 have e:(s.heap.update p f).get? p=some { cls:=.type "list",data:=.seq its'.toArray n' }:=by
  rw [Ky f ho (by rw [hf] <;> rfl),hf]
 refine I.write (x:=p) (e:=p) (by rw [h];trivial) (.inl rfl) (λ b u hb q=>(NH _ _ (BE hb)).trans q) ⟨_,e⟩ ?_;exact ⟨hz,its',n',r,e⟩
def V1:V->V->V->Hp->(Hp->Prop)->Prop:=λ o i v H Q=>∃ p xs k j,o=.ref p/\i=.int k/\H p=some (.lst xs)/\DM xs.length k=some j/\Q (Ap H p (.lst (xs.set j v)))
def wx:HZ X V1:=by
 intro pins s σ H o i v ov iv u Q I ro ri rv h;obtain ⟨p,xs,k,j,rfl,rfl,hp,hj,q⟩:=h;cases ro;obtain ⟨t,rfl⟩:=ri;obtain ⟨its,n,r,ho,hz⟩:=I.lst hp;obtain ⟨h1,h2,h3,h4⟩:=WD hj;have hl:=r.length;have hn:=Je;have I':Inv X pins σ (Ap H p (.lst (xs.set j v))) { s with heap:=s.heap.update p (Jn (·.setIfInBounds j u)) }:=
  I.lstUpd hp ho (yB its n j u) (r.set rv j) (by rw [DB];exact hz) s.toks
 by_cases h0:0<=k
 ·have hk:k.toNat=j:=by
   rw [N3 h0 h4] at h1;exact Option.some.inj h1
  exact PySem.W.ki_setAt ho h0 (by omega) (by rw [Ca,<- hl];exact h4) (by rw [hk];exact ⟨_,I',q⟩)
 ·have hk:(k + (its.toArray.size:Int)).toNat=j:=by
   rw [seqIndex_neg (by omega) h3] at h1;rw [Ca,<- hl];exact Option.some.inj h1
  exact PySem.W.ki_setBack ho (by omega) (by rw [Ca,<- hl];exact h3) (by omega) (by rw [hk];exact ⟨_,I',q⟩)
def ZM (lo hi:Option Int) (n:Nat):(Jo lo hi none n).1=((HT.sIx n 0 lo:Nat):Int)/\(Jo lo hi none n).2.1=((HT.sIx n n hi:Nat):Int)/\(Jo lo hi none n).2.2=1:=by
 refine ⟨?_,?_,rfl⟩
 ·cases lo with
  | none=>simp [Jo,HT.sIx]
  | some i=>
   simp only [Jo,HT.sIx,YY,show (1:Int) > 0 by decide,if_true];by_cases h:i < 0
   ·simp only [h,if_true] <;> omega
   ·simp only [h,if_false] <;> omega
 ·cases hi with
  | none=>simp [Jo,HT.sIx]
  | some i=>
   simp only [Jo,HT.sIx,YY,show (1:Int) > 0 by decide,if_true];by_cases h:i < 0
   ·simp only [h,if_true] <;> omega
   ·simp only [h,if_false] <;> omega
def ZN (its:List Ad) (lo hi:Option Int):slicePick its.toArray lo hi none=((its.drop (HT.sIx its.length 0 lo)).take (HT.sIx its.length its.length hi - HT.sIx its.length 0 lo)).toArray:=by
 obtain ⟨h1,h2,h3⟩:=ZM lo hi its.toArray.size;unfold slicePick;rw [h1,h2,h3];simp only [sliceRange_one,pick_run,Ca] <;> rfl
def LK (K:PySem.W.Frag):V->Option Int->Option Int->Hp->VK->Prop:=λ x lo hi H Q=>∃ a xs,x=.ref a/\Bi K H a xs/\∀ p,H p=none->Q (.ref p) (Ap H p (.lst (CZ xs lo hi)))
def qbd:SlR X (LK X.K):=by
 intro pins s σ H x v vl vu lo hi sl Q I rx hs pl pu h;obtain ⟨a,xs,rfl,hx,q⟩:=h;cases rx;obtain ⟨its,r,ht,hz⟩:=I.list hx;have hlen:=r.length;refine ⟨"list",_,slot_list_getitem.lookup,ht.isList.typeIs,?_⟩;refine wpAny_getItem_list_slice ht.isList hs pl pu .none (by simp) ?_ (by rw [Ca] <;> omega);rw [ZN,<- hlen];refine ⟨.ref s.heap.objs.size,_,I.laid (t':=s.toks) (o:=.lst (CZ xs lo hi)) (λ b ob q=>Bb _ q) (AB _) ?_,rfl,q _ (I.hok.fresh (AB _))⟩;exact ⟨Cw (Ux xs lo hi) hz,_,0,(r.drop (HT.sIx xs.length 0 lo)).take (HT.sIx xs.length xs.length hi - HT.sIx xs.length 0 lo),BL _ rfl⟩
def qav:zkg X (.builtin "len") (λ xs H Q=>∃ p ys,xs=[.ref p]/\(Bi X.K H p ys\/SqT X.K H p ys)/\Q (.int ys.length) H):=by
 intro pins s σ H xs us Q I r h;obtain ⟨p,ys,rfl,hq,q⟩:=h;obtain ⟨u,rfl,rx⟩:=GJ r;cases rx;have hn:=Je;rcases hq with hq | hq
 ·obtain ⟨its,r',pl,hz⟩:=I.list hq;have hlen:=r'.length;exact Calls.call_len_list pl.isList (by simp only [Ca] <;> omega) ⟨.int ys.length,H,I.tok _,⟨s.toks + 1,by rw [Ca,hlen]⟩,q⟩
 ·obtain ⟨its,r',pl,hz⟩:=I.tuple hq;have hlen:=r'.length;exact len_tuple pl (by simp only [Ca] <;> omega) ⟨.int ys.length,H,I.tok _,⟨s.toks + 1,by rw [Ca,hlen]⟩,q⟩
def yY:zkg X (.builtin "len") (λ xs H Q=>∃ z,xs=[.str z]/\z.length<=Aw/\Q (.int z.length) H):=by
 intro pins s σ H xs us Q I r h;obtain ⟨z,rfl,hz,q⟩:=h;obtain ⟨u,rfl,t,rfl⟩:=GJ r;have hn:=Je;exact len_str (by omega) ⟨.int z.length,H,I.tok _,⟨_,rfl⟩,q⟩
def zkg.or {f:Ad}{r r':List V->Hp->VK->Prop} (h:zkg X f r) (h':zkg X f r'):zkg X f (λ xs H Q=>r xs H Q\/r' xs H Q):=by
 intro pins s σ H xs us Q I rs q;rcases q with q | q
 ·exact h pins s σ H xs us Q I rs q
 ·exact h' pins s σ H xs us Q I rs q
def yZ:zkg X (.type "list") (λ xs H Q=>∃ p ys,xs=[.ref p]/\(Bi X.K H p ys\/SqT X.K H p ys)/\∀ l,H l=none->Q (.ref l) (Ap H l (.lst ys))):=by
 intro pins s σ H xs us Q I r h;obtain ⟨p,ys,rfl,hq,q⟩:=h;obtain ⟨u,rfl,rx⟩:=GJ r;cases rx;have fin:∀ (its:List Ad),Vals ys its->ys.length<=Aw->∀ (h':Heap) (c':Nat),(∀ b o',s.heap.get? b=some o'->h'.get? b=some o') ->
   h'.get? s.heap.objs.size=some { cls:=.type "list",dict:=none,data:=.seq its.toArray c',slots:=#[] }->EP X pins σ Q (.ref s.heap.objs.size) { s with heap:=h' }:=λ its r' hz h' c' kp e=>
  ⟨.ref s.heap.objs.size,_,I.laid (t':=s.toks) kp (AB _) (show zxq X.prog X.w _ h' _ (.lst ys) from ⟨hz,its,c',r',e⟩),rfl,q _ (I.hok.fresh (AB _))⟩
 rcases hq with hq | hq
 ·obtain ⟨its,r',pl,hz⟩:=I.list hq;have hlen:=r'.length;obtain ⟨o,ho,hc,n,hd⟩:=pl.isList;exact call_list_seq p (.inl rfl) ho hc hd (λ h' c' kp e=>fin its r' hz h' c' kp e) (by simp only [Ca] <;> omega)
 ·obtain ⟨its,r',pl,hz⟩:=I.tuple hq;have hlen:=r'.length;obtain ⟨o,ho,hc,n,hd⟩:=pl;exact call_list_seq p (.inr rfl) ho hc hd (λ h' c' kp e=>fin its r' hz h' c' kp e) (by simp only [Ca] <;> omega)
def Rm (K:PySem.W.Frag) (T:String) (x:V) (H:Hp):Prop:=match x with
 | .str _=>T = "str"
 | .int _=>T = "int"
 | .ref p=>(T = "list" /\ ∃ xs,Bi K H p xs)\/(T = "tuple" /\ ∃ o,K.lookup p=some o/\o.cls=.type "tuple" /\ o.dict=none) \/
   (T = "dict" /\ ((∃ kvs,H p=some (.dK kvs))\/∃ kvs,H p=some (.dT kvs)))\/(T = "set" /\ ∃ S n,H p=some (.set S n))
 | _=>False
theorem zE {pins:List (Addr×Obj)}{σ:St}{H:Hp}{s:Ai}{T:String}{x:V}{v:Ad} (I:Inv X pins σ H s) (r:RelV x v) (ty:Rm X.K T x H):
  s.TypeIs v T/\∀ a,v=.ref a->∃ ob,s.heap.get? a=some ob/\ob.dict=none:=by
 cases x with
 | str z=>
  obtain ⟨t,rfl⟩:=r;cases (show T = "str" from ty);exact ⟨typeIs_str s z t,λ _ e=>nomatch e⟩
 | int i=>
  obtain ⟨t,rfl⟩:=r;cases (show T = "int" from ty);exact ⟨typeIs_int s i t,λ _ e=>nomatch e⟩
 | ref p=>
  cases r;rcases ty with ⟨rfl,xs,hq⟩ | ⟨rfl,o,hk,hc,hd⟩ | ⟨rfl,hk⟩ | ⟨rfl,S,n,hk⟩
  ·obtain ⟨its,_,pl,_⟩:=I.list hq;refine ⟨pl.isList.typeIs,λ a e=>?_⟩;cases e;obtain ⟨o,n,e,c,hd,_⟩:=pl;exact ⟨o,e,hd⟩
  ·refine ⟨⟨o,I.kIn p o hk,hc⟩,λ a e=>?_⟩;cases e;exact ⟨o,I.kIn _ o hk,hd⟩
  ·have z:∃ o,s.heap.get? p=some o/\o.ExactDict:=by
    rcases hk with ⟨kvs,hk⟩ | ⟨kvs,hk⟩
    ·obtain ⟨_,_,_,_,o,_,_,e,ex,_⟩:=I.hok p _ hk;exact ⟨o,e,ex⟩
    ·obtain ⟨_,_,_,_,o,_,_,e,ex,_⟩:=I.hok p _ hk;exact ⟨o,e,ex⟩
   obtain ⟨o,e,ex⟩:=z;refine ⟨⟨o,e,ex.1⟩,λ a e2=>?_⟩;cases e2;exact ⟨o,e,ex.2.1⟩
  ·obtain ⟨o,_,_,_,e,ex,_⟩:=I.hok p _ hk;refine ⟨⟨o,e,ex.1⟩,λ a e2=>?_⟩;cases e2;exact ⟨o,e,ex.2.1⟩
 | _=>exact Hz ty
def Rt (K:PySem.W.Frag) (T:String) (r:V->List V->Hp->VK->Prop) (to:TE) (t:TA):TE:=λ σ H Q=>to σ H λ x H1=>Rm K T x H1/\t σ H1 λ xs H2=>r x xs H2 Q
variable {o e:Expr}{es:List Expr}{to:TE}{t:TA}{name:Str}{apos cpos:Pos}{T id:String}{r:V->List V->Hp->VK->Prop}
def Vx (pa:PlainAttrs T) (slot:Slot T name id) (hty:typeOf (.builtin id)=pure (.type "method_descriptor")) (hm:gE X id r) (ho:PE X o to) (ha:PA X (e::es) t)
  (hbase:attributeBase o name X.env (eval o X.env)=eval o X.env:=by rfl)
  (hfew:((Dh cpos (AK (e::es) X.env)).all (λ x=>!x.1) && (backToKw cpos (keywordEach [] X.env)).all (λ x=>x.1.isSome)
   && decide ((e::es).length + ([]:List Keyword).length + (if ([]:List Keyword).isEmpty then 0 else 1) < 30))=true:=by rfl)
  (hline:(apos.endLine == cpos.line)=true:=by rfl) (hs:AK (e::es) X.env=(false,eval e X.env)::AK es X.env:=by rfl) (hplain:(Dh cpos (AK es X.env)).any (·.1)=false:=by rfl):
  PE X (.Call (.Attribute o name apos) (e::es) [] cpos) (Rt X.K T r to t):=by
 intro pins s σ H Q I h;refine wpAny_Call_method_late hbase hfew hline rfl (Az (ho pins s σ H _ I h) λ v s1 ⟨x,H1,I1,r1,ty,q1⟩=>?_);obtain ⟨h1,h2⟩:=zE I1 r1 ty;refine ⟨T,id,pa,slot,hty,h1,h2,?_⟩;have hA:=ha cpos pins s1 σ H1 _ I1 q1;rw [hs] at hA ⊢;refine Calls.callWith_builtin (by show (false || (Dh cpos (AK es X.env)).any (·.1))=false;rw [hplain] <;> rfl) (Calls.evalArgs_plain ?_);exact Az hA λ us s2 ⟨vs,H2,I2,r2,q2⟩=>hm pins s2 σ H2 x vs v us Q I2 r1 r2 q2
end
def Z1 (X:Cx) (id:String) (r:V->List V->Hp->VK->Prop):Prop:=
 ∀ (pins:List (Addr×Obj)) (s:Ai) (σ:St) (H:Hp) (x:V) (xs:List V) (v:Ad) (us:List Ad) (Q:VK),Inv X pins σ H s->RelV x v->Vals xs us->r x xs H Q ->
  Ak (Av X.prog X.w) X.A (call (.builtin id) (v::us)) (EP X pins σ Q) X.xe s
theorem Vals.one:∀ {x:V}{us:List Ad},Vals [x] us->∃ u,us=[u]/\RelV x u
 | _,_,.cons r .nil=>⟨_,rfl,r⟩
theorem Vals.rep {xs:List V}{us:List Ad} (h:Vals xs us):∀ k:Nat,Vals (AL k xs).flatten (AL k us).flatten
 | 0=>.nil
 | k + 1=>by
  rw [Gh,Gh,KI,KI];exact Vals.append h (Vals.rep h k)
theorem Yy (its:List Ad):∀ (k:Nat) (acc:List Ad),
  Td (λ x1 x2=>x1++x2) acc.toArray (AL k its.toArray)=(acc++(AL k its).flatten).toArray
 | 0,acc=>by simp
 | k + 1,acc=>by
  have e:acc.toArray++its.toArray=(acc++its).toArray:=by simp
  have e2:(acc++its)++(AL k its).flatten=acc++(AL (k + 1) its).flatten:=by
   rw [Gh,KI,Mw]
  rw [<- e2,<- Yy its k (acc++its),<- e,Gh,YO]
section
variable {X:Cx}{pins:List (Addr×Obj)}{σ:St}{H:Hp}{s:Ai}{l b:Addr}{xs ys zs:List V}
def Inv.lset {its its':List Ad}{n:Nat}{f:Array Ad->Array Ad}{t':Nat} (I:Inv X pins σ H s) (hH:H l=some (.lst xs))
  (e:s.heap.get? l=some { cls:=.type "list",data:=.seq its.toArray n }) (hf:f its.toArray=its'.toArray) (hv:Vals ys its') (hz:ys.length<=Aw):
  Inv X pins σ (Ap H l (.lst ys)) { s with heap:=s.heap.update l (Jn f),toks:=t' }:=by
 have q:=PySem.IsL.update e f;rw [hf] at q;refine I.write (x:=l) (e:=l) (by rw [hH];exact trivial) (.inl rfl) (λ b' u hb hu=>(NH s.heap (Jn f) (BE hb)).trans hu) ⟨_,q⟩ ?_;exact ⟨hz,its',_,hv,q⟩
def Inv.lnew {its:List Ad}{t':Nat} (I:Inv X pins σ H s) (hv:Vals ys its) (hz:ys.length<=Aw):
  Inv X pins σ (Ap H s.heap.objs.size (.lst ys)) { s with heap:=s.heap.push { cls:=.type "list",data:=.seq its.toArray },toks:=t' }:=
 I.laid (λ _ _ q=>Bb _ q) (AB _) ⟨hz,its,0,hv,BL _ rfl⟩
def Inv.fresh (I:Inv X pins σ H s):H s.heap.objs.size=none:=I.hok.fresh (AB _)
def Inv.lstM (I:Inv X pins σ H s) (hH:H l=some (.lst xs)):xs.length<=Aw/\∃ (its:List Ad) (n:Nat),Vals xs its/\xs.length=its.length/\s.heap.get? l=some { cls:=.type "list",data:=.seq its.toArray n }:=by
 obtain ⟨z,its,n,r,e⟩:=I.hok l _ hH;exact ⟨z,its,n,r,r.length,e⟩
def XG {n:Nat} (h:n<=Aw):NI n=false:=by
 unfold NI;exact decide_eq_false (by omega)
end
section
variable {X:Cx}
def WW:V->List V->Hp->VK->Prop:=λ x vs H Q=>∃ l xs y,x=.ref l/\vs=[y]/\H l=some (.lst xs)/\xs.length < Aw/\Q .non (Ap H l (.lst (xs++[y])))
def U5:Z1 X "list.append" WW:=by
 intro pins s σ H x vs v us Q I rx rv h;obtain ⟨l,xs,y,rfl,rfl,hH,hz,q⟩:=h;cases rx;obtain ⟨u,rfl,ru⟩:=rv.one;obtain ⟨z,its,n,r,hl,e⟩:=I.lstM hH;refine call_meets F.slot_list_append ⟨_,e,rfl⟩ F.entry_list_append (F.args_list_append_2 _ _) (PySem.list_append l its.toArray n u (by rw [Ca];omega)) ⟨e,?_⟩;refine ⟨.non,_,I.lset (its':=its++[u]) hH e (by simp) (r.append (.cons ru .nil)) ?_,rfl,q⟩;rw [BI,EA];omega
def WX:V->List V->Hp->VK->Prop:=λ x vs H Q=>∃ l b xs zs,x=.ref l/\vs=[.ref b]/\H l=some (.lst xs)/\H b=some (.lst zs)/\xs.length + zs.length<=Aw/\Q .non (Ap H l (.lst (xs++zs)))
def yb:Z1 X "list.extend" WX:=by
 intro pins s σ H x vs v us Q I rx rv h;obtain ⟨l,b,xs,zs,rfl,rfl,hH,hB,hz,q⟩:=h;cases rx;obtain ⟨u,rfl,ru⟩:=rv.one;cases ru;obtain ⟨z,its,n,r,hl,e⟩:=I.lstM hH;obtain ⟨z2,its2,n2,r2,hl2,e2⟩:=I.lstM hB;have hsz:its.toArray.size + its2.toArray.size<=Aw:=by rw [Ca,Ca];omega
 have hlong:¬ (!its.toArray.isEmpty && NI (its.toArray.size + its2.toArray.size))=true:=by
  rw [XG hsz,Pb];exact Cy
 refine call_meets F.slot_list_extend ⟨_,e,rfl⟩ F.entry_list_extend (F.args_list_extend_2 _ _)
  (AutoSeq1.list_extend_list_list_0 l its.toArray n b its2.toArray n2 hlong (by rw [Ca];omega) (by omega)) ⟨e,e2,?_⟩
 refine ⟨.non,_,I.lset (its':=its++its2) hH e (by simp) (r.append r2) ?_,rfl,q⟩;rw [BI];omega
def Ry:R2:=λ x y H Q=>∃ l b xs zs,x=.ref l/\y=.ref b/\H l=some (.lst xs)/\H b=some (.lst zs)/\xs.length + zs.length<=Aw/\∀ p,H p=none->Q (.ref p) (Ap H p (.lst (xs++zs)))
def qru:OpR X (EI .Add) Ry:=by
 intro pins s σ H x y v u Q I rx ry h;obtain ⟨l,b,xs,zs,rfl,rfl,hH,hB,hz,q⟩:=h;cases rx;cases ry;obtain ⟨z,its,n,r,hl,e⟩:=I.lstM hH;obtain ⟨z2,its2,n2,r2,hl2,e2⟩:=I.lstM hB;refine PySem.P.add_list e e2 ?_ (by rw [Ca,Ca];omega);have ea:its.toArray++its2.toArray=(its++its2).toArray:=by simp
 rw [ea];exact ⟨.ref _,_,I.lnew (t':=s.toks) (r.append r2) (by rw [BI];omega),rfl,q _ I.fresh⟩
def Rx:R2:=λ x y H Q=>∃ l k xs,x=.ref l/\y=.int k/\H l=some (.lst xs)/\-(2 ^ 63)<=k/\k < 2 ^ 63/\xs.length * k.toNat<=Aw /\
 ∀ p,H p=none->Q (.ref p) (Ap H p (.lst (AL k.toNat xs).flatten))
theorem jo {α:Type} (xs:List α) (k:Nat):(AL k xs).flatten.length=k * xs.length:=by
 induction k with
 | zero=>simp
 | succ k ih=>rw [Gh,KI,BI,ih,Th,Nat.add_comm]
def xh:OpR X (EI .Mult) Rx:=by
 intro pins s σ H x y v u Q I rx ry h;obtain ⟨l,k,xs,rfl,rfl,hH,h1,h2,hz,q⟩:=h;cases rx;obtain ⟨t,rfl⟩:=ry;obtain ⟨z,its,n,r,hl,e⟩:=I.lstM hH;have hlen:its.toArray.size * k.toNat<=Aw:=by rw [Ca,<- hl];exact hz
 have hcap:¬ its.toArray.size * k.toNat > (2 ^ 63 - 1) / 8:=by
  have:(Aw:Nat)<=(2 ^ 63 - 1) / 8:=by decide
  omega
 have hfit:¬ (!Builtin.List.listFitsIndex k)=true:=by
  rw [fitsIndex_both h1 h2];exact Cy
 have hlong:¬ NI (its.toArray.size * k.toNat)=true:=by
  rw [XG hlen];exact Cy
 have hnew:Td (λ x1 x2=>x1++x2) #[] (AL (if its.toArray.isEmpty=true then 0 else k.toNat) its.toArray)=(AL k.toNat its).flatten.toArray:=by
  have f0:∀ m:Nat,Td (λ x1 x2=>x1++x2) #[] (AL m its.toArray)=(AL m its).flatten.toArray:=λ m=>by
   have:=Yy its m []
   rw [EU] at this;exact this
  rw [f0];cases its with
  | nil=>simp
  | cons a r'=>rw [if_neg (by simp)]
 refine wpAny_binaryOp_repeat_ref (T := "list") (U := "int") (by decide) ⟨_,e,rfl⟩ (λ s'=>typeIs_int s' k t) noFill_list_mul F.fills_int_mul F.slot_int_rmul repeat_list F.slot_int_index.lookup
  (call_meets F.slot_int_rmul (typeIs_int s k t) F.entry_int_rmul (F.args_int_rmul_2 _ _) (int___rmul___int_list k t l its.toArray n)
   ⟨e,rfl,⟨_,e,rfl⟩,call_meets F.slot_list_mul ⟨_,e,rfl⟩ F.entry_list_mul (F.args_list_mul_2 _ _) (AutoListH.list___mul___list_int_3 l its.toArray n k t hfit hcap hlong) ⟨e,?_⟩⟩)
 rw [hnew];exact ⟨.ref _,_,I.lnew (t':=s.toks) (r.rep k.toNat) (by rw [jo,Tg];exact hz),rfl,q _ I.fresh⟩
end
section
variable {prog:AA}{w:A4}{A:BD}{E:Ad->Ai->Prop}{s:Ai}
end
section
variable {X:Cx}
end
end L2
namespace Att
open PySem PySem.W PySem.Calls PyProof.Rows
theorem ZF {P:Params}{h:Heap}:∀ (ns:List Int) (vs:List Ad),WellAll P h vs (ns.map WData.int)->IntsAre vs ns:=by
 intro ns;induction ns with
 | nil=>
  intro vs w;rw [IH] at w;cases w;exact .nil
 | cons n ns ih=>
  intro vs w;rw [BF] at w;cases w with
  | cons a b=>
   cases a;exact .cons _ _ (ih _ b)
theorem yl {l:OpenLaw}{n:Nat} (hn:l.most=some n) {P:Params}{h:Heap}{args:List WData}{vals:List Ad}
  (hpre:l.row.toRowW.claim.pre args=true) (hwl:WellAll P h vals args):
  ∃ a vs ns,vals=[Value.ref a]/\args=[WData.list (ns.map WData.int)]/\h.get? a=some { cls:=.type "list",data:=.seq vs.toArray }/\IntsAre vs ns/\ns.length<=n:=by
 have hsh:WShape.hasAll [] args [.list .int]=true:=(pre_splitW hpre).1;have hc:l.pre.holds [] { args:=args }=true:=(pre_splitW hpre).2;obtain ⟨d,r,rfl,h1,h2⟩:=hasAllW_cons hsh;obtain rfl:=hasAllW_nil h2;obtain ⟨xs,rfl,h3⟩:=hasW_list h1;obtain ⟨ns,rfl⟩:=items_int h3;have hlen:ns.length<=n:=by
  unfold OpenLaw.pre at hc;have h4:(WTm.not (.lt (.lit (.int (n:Int))) (.len (.arg 0)))).holds [] { args:=[.list (ns.map .int)] }=true:=by
   have h4:=(holds_andW hc).1;rw [hn] at h4;exact h4
  have h5:=condW_of h4 (w_not (w_lt w_lit (w_len_list (w_arg rfl))));rw [A8] at h5;refine Nat.le_of_not_lt λ q=>?_;have q':(n:Int) < ((ns.length:Nat):Int):=by omega
  first
   | (rw [decide_eq_true q'] at h5;exact absurd h5 (by decide))
   | (simp at h5;omega)
 cases hwl with
 | cons w1 w2=>
  cases w2;cases w1 with
  | list ho hall=>exact ⟨_,_,ns,rfl,rfl,ho,ZF ns _ hall,hlen⟩
def yh (l:OpenLaw) (args:List WData):l.row.toRowW.claim.post args (.bool true) args=true:=
 postW_of (r:=l.row.toRowW) (X:=(true == true))
  (show WShape.has [] (.bool true) .bool=true by first | rfl | decide | simp [WShape.has,WShape.arms,WShape.armsAll])
  (show (WTm.eq .res (.lit (.bool true))).value [] { args:=args,res:=some (.bool true),after:=args }=some (.bool (true == true)) from w_eq_bool (w_res rfl) w_lit) rfl
def attach_call {l:OpenLaw}{n:Nat}{q:AA}{loose:List Str}{XP:(Str->Option Ad)->Heap->Prop}{YP:A4->Heap->Prop}{d:DefRec}
  (hn:l.most=some n) (hdf:d.params.defaults=[])
  (call:∀ (w:A4) (s₀ s₁:Ai) (mg mb:Str->Option Ad) (fa:Addr) (o:Obj) (pm cd doc:Ad) (a:Addr) (vs:List Ad) (ns:List Int),
   Ground q loose [] XP w s₀ mg mb s₁.heap->YP w s₁.heap ->
   s₁.heap.get? fa=some o->o.data=.func (docDef d.name d.params d.body d.scope pm cd doc)->s₁.heap.CodeRec cd d.name->mg d.name=some (.ref fa) ->
   s₁.heap.get? a=some { cls:=.type "list",data:=.seq vs.toArray }->IntsAre vs ns->ns.length<=n->s₁.gens=#[] ->
   I0 (Av l.prog w) Jk (.call (.ref fa) ⟨[.ref a],[]⟩) (λ r s'=>r=.ok (.ret (.bool true))/\OldK s₁.heap s'.heap/\s'.os=s₁.os/\Hy s'.gens) s₁):
  WalkO q loose XP YP l.row.toRowW d [] (λ f vs=>PySem.call f vs):=by
 intro w s₀ s₁ mg mb G Y fa o pm cd doc dV kV ho hd hcd hD hmg hg args vals as hpre hlay hrd hwl hlo;obtain rfl:dV=.none:=Dflts.none hD hdf;obtain rfl:kV=.none:=Dflts.noKw hD;obtain ⟨a,vs,ns,rfl,rfl,hobj,hints,hlen⟩:=yl hn hpre hwl;refine enter_call (codeAny_mono (call w s₀ s₁ mg mb fa o pm cd doc a vs ns G Y ho (fd_plain hd) hcd hmg hobj hints hlen hg) λ r s' hq=>?_);obtain ⟨rfl,h2,h3,h4⟩:=hq;exact ⟨.inl ⟨.bool true,.bool true,[],rfl,λ _=>rfl,.bool true,yh l _,λ _=>⟨List.Pairwise.nil,λ _ hm=>(nomatch hm)⟩⟩,h2,h3,h4⟩
section
variable {prog:AA}{w:A4}{A:BD}{E:Ad->Ai->Prop}{s:Ai}{K:Frag}
end
end Att
namespace L2
open PySem PySem.Spec PyProof.Rows
theorem UK:∀ {vs:List Ad}{ns:List Int},IntsAre vs ns->Vals (ns.map V.int) vs
 | _,_,.nil=>.nil
 | _,_,.cons n t h=>.cons ⟨t,rfl⟩ (UK h)
def Ia (H:Hp):Prop:=∀ b,H b=none\/∃ o xs,H b=some (.frz o (.lst xs))
theorem vg {P:AA}{w:A4}{K:PySem.W.Frag}{mg mb:Str->Option Ad}{CX:FD}{k:Nat}{fa a:Addr}{fd:CQ}{x:Str}{sp:Sp}{s₁:Ai}{vs:List Ad}{ns:List Int}
  (KX:K.In s₁.heap) (hns:s₁.heap.Ns E5 mg) (hb:s₁.heap.Ns builtinsNs mb) (hbb:∀ x:Str,x ≠ "__name__" -> mb x=Jq x) (hlim:s₁.heap.NoLimit) (hg:s₁.gens=#[])
  (ha:s₁.heap.get? a=some { cls:=.type "list",data:=.seq vs.toArray }) (hi:IntsAre vs ns) (hl:ns.length<=Aw) (hr:Room k Jk)
  (F:∀ base:Heap,K.In base->base.Ns E5 mg->FnOk P w K mg base CX k fa fd [x] sp) (hbind:∀ (s:Ai) (u:Ad),BindsTo s fd ⟨[u],[]⟩ [(x,u)])
  (hsp:∀ H:Hp,Ia H->Bi K H a (ns.map V.int)->sp [.ref a] H (λ v _=>v=.bl true) λ _ _ _=>False)
  (hCX:∀ H e s',CX [] H s₁ (λ _ _ _=>False) e s'->False):
  I0 (Av P w) Jk (.call (.ref fa) ⟨[.ref a],[]⟩) (λ r s'=>r=.ok (.ret (.bool true))/\OldK s₁.heap s'.heap/\s'.os=s₁.os/\Hy s'.gens) s₁:=by
 have rv:=UK hi;have lenV:=hi.length;have core:∀ H:Hp,Ia H->Bi K H a (ns.map V.int)->HOk P w H s₁.heap->(∀ b,H b≠none->b=a)->(H a≠none->K.lookup a=none) ->
   I0 (Av P w) Jk (.call (.ref fa) ⟨[.ref a],[]⟩) (λ r s'=>r=.ok (.ret (.bool true))/\OldK s₁.heap s'.heap/\s'.os=s₁.os/\Hy s'.gens) s₁:=by
  intro H hO hS hok hA hK;have base_of:∀ {b:Addr}{o:Obj},s₁.heap.get? b=some o->H b=none->(D4 s₁.heap H).get? b=some o:=λ e n=>vd e n;have noA:∀ {b:Addr}{o:Obj}{es:Array Ef}{ep:Nat},s₁.heap.get? b=some o->o.data=.dict es ep->H b=none:=λ {b o es ep} e d=>by
   cases q:H b with
   | none=>rfl
   | some u=>
    have e':b=a:=hA b (by rw [q];simp);subst e';rw [ha] at e;cases e;have d':Data.seq vs.toArray _=Data.dict es ep:=d;cases d'
  have nsK:∀ {b:Addr}{m:Str->Option Ad},s₁.heap.Ns b m->(D4 s₁.heap H).Ns b m:=λ {b m} ⟨o,es,ep,e,d,r⟩=>⟨o,es,ep,base_of e (noA e d),d,r⟩
  have hKb:K.In (D4 s₁.heap H):=λ b o e=>base_of (KX b o e) (by
   cases q:H b with
   | none=>rfl
   | some u=>
    have e':b=a:=hA b (by rw [q];simp);subst e';rw [hK (by rw [q];simp)] at e;cases e)
  have hM:Mod K mg (D4 s₁.heap H):=⟨hKb,nsK hns,⟨mb,nsK hb,hbb⟩,let ⟨mc,h1,h2⟩:=hlim;⟨mc,nsK h1,h2⟩⟩
  have e0:Env0 P w K mg (D4 s₁.heap H) Jk [] s₁ H:=⟨rfl,hM,λ b o e=>jy e,Nat.le_of_eq (yf _ _),trivial,λ b hb=>absurd (show b∈([]:List Addr) from hb) (by simp),hok,.of_eq hg⟩
  refine codeAny_mono ((F _ hKb (nsK hns)).run Jk [] s₁ H ⟨[.ref a],[]⟩ [.ref a] [.ref a] _ _ hr e0 (hbind s₁ (.ref a)) (.cons rfl .nil) (hsp H hO hS)) λ r s' h=>?_;cases r with
  | error e=>exact (hCX H e s' h).elim
  | ok fl=>
   cases fl with
   | next=>exact Hz h
   | brk=>exact Hz h
   | cont=>exact Hz h
   | ret u=>
    obtain ⟨v,H',os,bare,un,hok',r',q⟩:=h;have q':v=.bl true:=q;subst q';obtain rfl:u=Value.bool true:=r';refine ⟨rfl,OldK.of_keep λ b o e=>?_,os,bare⟩;cases q:H b with
    | none=>exact un.keep b o e q (by intro z;exact absurd (show b∈([]:List Addr) from z) (by simp)) (by simp)
    | some u=>
     rcases hO b with z | ⟨ob,xs,z⟩
     ·rw [q] at z;cases z
     ·have z2:=un.frzs b ob _ z;obtain ⟨e1,_⟩:=hok b _ z;obtain ⟨e2,_⟩:=hok' b _ z2;rw [e] at e1;cases e1;exact e2
 cases hk:K.lookup a with
 | some o=>
  have e:=KX a o hk;rw [ha] at e;cases e;refine core (λ _=>none) (λ _=>.inl rfl) (.inr ⟨_,vs.toArray,_,hk,rfl,rfl,rfl,by rw [Ca,lenV];exact hl,by simpa using rv⟩) (λ b u z=>by have z':(none:Option HO)=some u:=z;cases z') (λ b z=>absurd rfl z) λ z=>absurd rfl z
 | none=>
  refine core (λ b=>if b=a then some (.frz { cls:=.type "list",data:=.seq vs.toArray } (.lst (ns.map V.int))) else none) (λ b=>?_) (.inl (.inr ⟨{ cls:=.type "list",data:=.seq vs.toArray },if_pos rfl⟩)) (λ b u z=>?_) (λ b z=>?_) λ _=>hk
  ·by_cases hb:b=a
   ·exact .inr ⟨_,_,if_pos hb⟩
   ·exact .inl (if_neg hb)
  ·by_cases hb:b=a
   ·have z':=(if_pos hb).symm.trans z;cases z';subst hb;exact ⟨ha,by rw [A8];exact hl,vs,_,rv,ha⟩
   ·have z':=(if_neg hb).symm.trans z;cases z'
  ·by_cases hb:b=a
   ·exact hb
   ·exact absurd (if_neg hb) z
structure Fun (K:PySem.W.Frag) (x qual:Str) (st:Stmt) (f:Addr) (fd:CQ):Prop where
 ex:∃ (oc:Ad) (od:Option Addr) (kV doc pm:Ad) (an:Option Addr) (cdv ct:Ad) (osl:Array (Option Ad)),
  fd=Km x qual (Lb st) (AY st) (A2 st) .none kV doc pm an cdv ct/\K.lookup f=some ⟨oc,od,.func fd,osl⟩/\Q4 K cdv qual=true
 kp:Jt K (.ref f)=true
section
variable {P:AA}{w:A4}{K:PySem.W.Frag}{mg:Str->Option Ad}{base:Heap}
def Fun.binds {x qual:Str}{st:Stmt}{f:Addr}{fd:CQ}{ps:List Str} (F:Fun K x qual st f fd)
  (h:∀ (kV doc pm:Ad) (an:Option Addr) (cdv ct:Ad) (us:List Ad),us.length=ps.length->bindArgs (Km x qual (Lb st) (AY st) (A2 st) .none kV doc pm an cdv ct) ⟨us,[]⟩=pure (ps.zip us)):qa5 K fd ps []:=by
 obtain ⟨oc,od,kV,doc,pm,an,cdv,ct,osl,rfl,lk,hcd⟩:=F.ex;exact .all (h kV doc pm an cdv ct)
def qE {x qual:Str}{st:Stmt}{f:Addr}{oc:Ad}{od an:Option Addr}{osl:Array (Option Ad)}{kV doc pm cdv ct:Ad} (l:K.lookup f=some ⟨oc,od,.func (Km x qual (Lb st) (AY st) (A2 st) .none kV doc pm an cdv ct),osl⟩)
  (c:Q4 K cdv qual=true) (k:Jt K (.ref f)=true):Fun K x qual st f (Km x qual (Lb st) (AY st) (A2 st) .none kV doc pm an cdv ct):=⟨⟨oc,od,kV,doc,pm,an,cdv,ct,osl,rfl,l,c⟩,k⟩
end
section
variable {X:Cx}
end
end L2
namespace QQ
open PySem PySem.Spec PyProof.Rows L2
abbrev St:=L2.St
def KL (K:Frag) (a:Addr) (xs:List V):Prop:=∃ (o:Obj) (its:Array Ad) (n:Nat),K.lookup a=some o/\o.cls=.type "list" /\ o.dict=none/\o.data=.seq its n/\its.size<=Aw/\Vals xs its.toList
def Xj {K:Frag}{H:Hp}{a:Addr}{xs:List V} (h:Bi K H a xs):Rm K "list" (.ref a) H:=.inl ⟨rfl,xs,h⟩
def Z4 (z:Str):It:=⟨λ i _=>i < z.cps.size,λ i H v H'=>H'=H/\∃ c,z.cps[i]?=some c/\v=.str ⟨#[c]⟩,λ i _=>z.cps.size<=i⟩
def OC (z:Str):Bool:=z.cps.all (·< 128)
def EX (K:Frag) (tl:TE):TI:=λ σ H R=>tl σ H λ x H1=>(∃ a,x=.ref a/\(((∃ xs,Bi K H1 a xs)/\R (Z3 K a) H1)\/((∃ xs,SqT K H1 a xs)/\R (Z2 K a) H1)))\/∃ z,x=.str z/\OC z=true/\R (Z4 z) H1
def J6 (k:Nat) (wi:TI) (g:TG) (tc:TT) (te:TE):TE:=λ σ H Q=>wi σ H λ J H1=>∀ D,H1 D=none->∃ W:Nat->Nat->List V->Hp->Prop,(∃ m,W 0 m [] (Ap H1 D (.lst [])))/\∀ i m ys H,W i m ys H->H D=some (.lst ys) /\
 ((J.stop i H/\Q (.ref D) H)\/(J.go i H/\∀ x H',J.yld i H x H'->g x (σ++AL k none) H' λ σ2 H2=>tc σ2 H2 λ b H3=>if b=true then te σ2 H3 λ y H4=>H4 D=some (.lst ys)/\ys.length < Aw/\∃ m',m' < m/\W (i + 1) m' (ys++[y]) (Ap H4 D (.lst (ys++[y]))) else ∃ m',m' < m/\W (i + 1) m' ys H3))
inductive PV where
 | non | bl (b:Bool) | int (i:Int) | str (x:Str) | lst (xs:List PV) | tup (xs:List PV) | emp | dko | scr (ns:List Int) | dct (kvs:List (List Ax×V)) | dcl (ks:List (List Ax)) (xs:List PV) | exn (c:Nat)
 deriving Inhabited
inductive MO where
 | l (xs:List V) | d (kvs:List (List Ax×V))
def MO.ho:MO->HO
 | .l xs=>.lst xs
 | .d kvs=>.dT kvs
def XN:List Str:=["PileError","NoBox","NoPile","NoStairs","NoWays","NoRoad","NoNumber","NoPlace","TooMany","NoText","NoName","NoRow"]
def RA (K:Frag) (c:Nat):Option Addr:=match XN[c]? with
 | some x=>(match PySem.W.nsIn K E5 x with
  | some (some (.ref C))=>some C
  | _=>none)
 | none=>none
def ZV (a C:Addr) (h:Heap):Prop:=∃ o vs,h.get? a=some o/\o.cls=.ref C/\o.data=.fields vs
def om:Nat:=1000
def pd (d:Nat):Nat:=if d=om then om else d - 1
def qt:pd om=om:=rfl
def Nd:pd 0=0:=rfl
mutual
def Own (K:Frag) (H:Hp) (Z:Addr->Prop):PV->Nat->V->List Addr->Prop
 | .non,_,v,fp=>v=.non/\fp=[]
 | .bl b,_,v,fp=>v=.bl b/\fp=[]
 | .int i,_,v,fp=>v=.int i/\fp=[]
 | .str x,_,v,fp=>v=.str x/\fp=[]
 | .emp,_,v,fp=>fp=[]/\∃ a,v=.ref a/\H a=some (.dK [])
 | .dko,_,v,fp=>fp=[]/\∃ a,v=.ref a/\∃ kvs,H a=some (.dK kvs)
 | .scr ns,_,v,fp=>fp=[]/\∃ a,v=.ref a/\((∃ o,H a=some (.frz o (.lst (ns.map V.int))))\/KL K a (ns.map V.int))
 | .exn c,_,v,fp=>fp=[]/\∃ a C,v=.ref a/\RA K c=some C/\H a=some (.ext (ZV a C))
 | .dct kvs,d,v,fp=>∃ a,v=.ref a/\((d=0/\(Rd H a (.dT kvs)/\¬ Z a)/\fp=[])\/(d≠0/\H a=some (.dT kvs)/\fp=[a]))
 | .dcl ks xs,d,v,fp=>∃ a vs,v=.ref a/\ks.length=xs.length/\((d=0/\(Rd H a (.dT (ks.zip vs))/\¬ Z a)/\fp=[]/\OwnL K H Z xs 0 vs [])\/(d≠0/\∃ f,H a=some (.dT (ks.zip vs))/\fp=a::f/\a∉f/\OwnL K H Z xs (pd d) vs f))
 | .lst xs,d,v,fp=>∃ a vs,v=.ref a/\((d=0/\(H a=some (.lst vs)/\¬ Z a)/\fp=[]/\OwnL K H Z xs 0 vs [])\/(d≠0/\∃ f,H a=some (.lst vs)/\fp=a::f/\a∉f/\OwnL K H Z xs (pd d) vs f))
 | .tup xs,d,v,fp=>∃ a vs,v=.ref a/\H a=some (.tup vs)/\OwnL K H Z xs (pd d) vs fp
def OwnL (K:Frag) (H:Hp) (Z:Addr->Prop):List PV->Nat->List V->List Addr->Prop
 | [],_,vs,fp=>vs=[]/\fp=[]
 | x::xs,d,vs,fp=>∃ v r f1 f2,vs=v::r/\fp=f1++f2/\(∀ a∈f1,a∉f2)/\Own K H Z x d v f1/\OwnL K H Z xs d r f2
end
def D5 (S:Addr->Prop) (H H':Hp):Prop:=∀ a o,H a=some o->¬ S a->H' a=some o
def Rd.keepS {S:Addr->Prop}{H H':Hp}{a:Addr}{u:HO} (k:D5 S H H') (h:Rd H a u) (n:¬ S a):Rd H' a u:=h.elim (λ e=>.inl (k a _ e n)) λ ⟨o,e⟩=>.inr ⟨o,k a _ e n⟩
def Rd.ne {H:Hp}{a:Addr}{u:HO} (h:Rd H a u):H a≠none:=by
 rcases h with e | ⟨o,e⟩ <;> rw [e] <;> simp
section
variable {K:Frag}{H H':Hp}{Z Z' S:Addr->Prop}
mutual
theorem Own.lsts:∀ (x:PV) (d:Nat) (v:V) (fp:List Addr),Own K H Z x d v fp->∀ a∈fp,∃ o:MO,H a=some o.ho
 | .non,_,_,_,h,a,ha=>by rw [Own] at h;rw [h.2] at ha;cases ha
 | .bl _,_,_,_,h,a,ha=>by rw [Own] at h;rw [h.2] at ha;cases ha
 | .int _,_,_,_,h,a,ha=>by rw [Own] at h;rw [h.2] at ha;cases ha
 | .str _,_,_,_,h,a,ha=>by rw [Own] at h;rw [h.2] at ha;cases ha
 | .emp,_,_,_,h,a,ha=>by rw [Own] at h;rw [h.1] at ha;cases ha
 | .dko,_,_,_,h,a,ha=>by rw [Own] at h;rw [h.1] at ha;cases ha
 | .scr _,_,_,_,h,a,ha=>by rw [Own] at h;rw [h.1] at ha;cases ha
 | .exn _,_,_,_,h,a,ha=>by rw [Own] at h;rw [h.1] at ha;cases ha
 | .dct kvs,d,v,fp,h,a,ha=>by
  rw [Own] at h;obtain ⟨b,_,⟨_,_,e⟩ | ⟨_,hb,e⟩⟩:=h
  ·rw [e] at ha;cases ha
  ·rw [e] at ha;rw [jb6.mp ha];exact ⟨.d kvs,hb⟩
 | .dcl ks xs,d,v,fp,h,a,ha=>by
  rw [Own] at h;obtain ⟨b,vs,_,_,⟨_,_,e,_⟩ | ⟨_,f,hb,e,_,hl⟩⟩:=h
  ·rw [e] at ha;cases ha
  ·rw [e] at ha;rcases jb5.mp ha with z | z
   ·exact ⟨.d (ks.zip vs),by rw [z];exact hb⟩
   ·exact OwnL.lsts xs _ vs f hl a z
 | .lst xs,d,v,fp,h,a,ha=>by
  rw [Own] at h;obtain ⟨b,vs,_,⟨_,_,e,_⟩ | ⟨_,f,hb,e,_,hl⟩⟩:=h
  ·rw [e] at ha;cases ha
  ·rw [e] at ha;rcases jb5.mp ha with z | z
   ·exact ⟨.l vs,by rw [z];exact hb⟩
   ·exact OwnL.lsts xs _ vs f hl a z
 | .tup xs,d,v,fp,h,a,ha=>by
  rw [Own] at h;obtain ⟨b,vs,_,_,hl⟩:=h;exact OwnL.lsts xs _ vs fp hl a ha
theorem OwnL.lsts:∀ (xs:List PV) (d:Nat) (vs:List V) (fp:List Addr),OwnL K H Z xs d vs fp->∀ a∈fp,∃ o:MO,H a=some o.ho
 | [],_,_,_,h,a,ha=>by rw [OwnL] at h;rw [h.2] at ha;cases ha
 | x::xs,d,vs,fp,h,a,ha=>by
  rw [OwnL] at h;obtain ⟨v,r,f1,f2,_,e,_,h1,h2⟩:=h;rw [e] at ha;rcases jd4.mp ha with z | z
  ·exact Own.lsts x d v f1 h1 a z
  ·exact OwnL.lsts xs d r f2 h2 a z
end
mutual
theorem Own.move (k:D5 S H H') (hS:∀ a,S a->Z a/\∃ o:MO,H a=some o.ho) (hz:∀ a,H a≠none->¬ Z a->¬ Z' a):
  ∀ (x:PV) (d:Nat) (v:V) (fp:List Addr),(∀ a∈fp,¬ S a)->Own K H Z x d v fp->Own K H' Z' x d v fp
 | .non,_,_,_,_,h=>by rw [Own] at h ⊢;exact h
 | .bl _,_,_,_,_,h=>by rw [Own] at h ⊢;exact h
 | .int _,_,_,_,_,h=>by rw [Own] at h ⊢;exact h
 | .str _,_,_,_,_,h=>by rw [Own] at h ⊢;exact h
 | .emp,_,_,_,_,h=>by
  rw [Own] at h ⊢;obtain ⟨e,a,ev,ha⟩:=h;exact ⟨e,a,ev,k a _ ha λ s=>by obtain ⟨_,o,e⟩:=hS a s;rw [ha] at e;cases o <;> cases e⟩
 | .dko,_,_,_,_,h=>by
  rw [Own] at h ⊢;obtain ⟨e,a,ev,kvs,ha⟩:=h;exact ⟨e,a,ev,kvs,k a _ ha λ s=>by obtain ⟨_,o,e⟩:=hS a s;rw [ha] at e;cases o <;> cases e⟩
 | .scr ns,_,_,_,_,h=>by
  rw [Own] at h ⊢;obtain ⟨e,a,ev,⟨o,ha⟩ | ha⟩:=h
  ·exact ⟨e,a,ev,.inl ⟨o,k a _ ha λ s=>by obtain ⟨_,q,e⟩:=hS a s;rw [ha] at e;cases q <;> cases e⟩⟩
  ·exact ⟨e,a,ev,.inr ha⟩
 | .exn c,_,_,_,_,h=>by
  rw [Own] at h ⊢;obtain ⟨e,a,C,ev,hc,ha⟩:=h;exact ⟨e,a,C,ev,hc,k a _ ha λ s=>by obtain ⟨_,q,e⟩:=hS a s;rw [ha] at e;cases q <;> cases e⟩
 | .dct kvs,d,v,fp,hf,h=>by
  rw [Own] at h ⊢;obtain ⟨b,ev,⟨d0,hr,e⟩ | ⟨d0,hb,e⟩⟩:=h
  ·exact ⟨b,ev,.inl ⟨d0,⟨Rd.keepS k hr.1 λ s=>hr.2 (hS b s).1,hz b (Rd.ne hr.1) hr.2⟩,e⟩⟩
  ·exact ⟨b,ev,.inr ⟨d0,k b _ hb (hf b (by rw [e];exact AH)),e⟩⟩
 | .dcl ks xs,d,v,fp,hf,h=>by
  rw [Own] at h ⊢;obtain ⟨b,vs,ev,en,⟨d0,hr,e,hl⟩ | ⟨d0,f,hb,e,nb,hl⟩⟩:=h
  ·refine ⟨b,vs,ev,en,.inl ⟨d0,?_,e,OwnL.move k hS hz xs 0 vs [] (λ _ z=>nomatch z) hl⟩⟩;exact ⟨Rd.keepS k hr.1 λ s=>hr.2 (hS b s).1,hz b (Rd.ne hr.1) hr.2⟩
  ·refine ⟨b,vs,ev,en,.inr ⟨d0,f,k b _ hb (hf b (by rw [e];exact AH)),e,nb,?_⟩⟩;exact OwnL.move k hS hz xs _ vs f (λ a ha=>hf a (by rw [e];exact AI _ ha)) hl
 | .lst xs,d,v,fp,hf,h=>by
  rw [Own] at h ⊢;obtain ⟨b,vs,ev,⟨d0,hr,e,hl⟩ | ⟨d0,f,hb,e,nb,hl⟩⟩:=h
  ·refine ⟨b,vs,ev,.inl ⟨d0,?_,e,OwnL.move k hS hz xs 0 vs [] (λ _ z=>nomatch z) hl⟩⟩;exact ⟨k b _ hr.1 λ s=>hr.2 (hS b s).1,hz b (by rw [hr.1];simp) hr.2⟩
  ·refine ⟨b,vs,ev,.inr ⟨d0,f,k b _ hb (hf b (by rw [e];exact AH)),e,nb,?_⟩⟩;exact OwnL.move k hS hz xs _ vs f (λ a ha=>hf a (by rw [e];exact AI _ ha)) hl
 | .tup xs,d,v,fp,hf,h=>by
  rw [Own] at h ⊢;obtain ⟨b,vs,ev,hr,hl⟩:=h;exact ⟨b,vs,ev,k b _ hr (λ s=>by obtain ⟨_,o,e⟩:=hS b s;rw [hr] at e;cases o <;> cases e),OwnL.move k hS hz xs _ vs fp hf hl⟩
theorem OwnL.move (k:D5 S H H') (hS:∀ a,S a->Z a/\∃ o:MO,H a=some o.ho) (hz:∀ a,H a≠none->¬ Z a->¬ Z' a):
  ∀ (xs:List PV) (d:Nat) (vs:List V) (fp:List Addr),(∀ a∈fp,¬ S a)->OwnL K H Z xs d vs fp->OwnL K H' Z' xs d vs fp
 | [],_,_,_,_,h=>by rw [OwnL] at h ⊢;exact h
 | x::xs,d,vs,fp,hf,h=>by
  rw [OwnL] at h ⊢;obtain ⟨v,r,f1,f2,e1,e,dj,h1,h2⟩:=h;exact ⟨v,r,f1,f2,e1,e,dj,Own.move k hS hz x d v f1 (λ a ha=>hf a (by rw [e];exact BU _ ha)) h1,OwnL.move k hS hz xs d r f2 (λ a ha=>hf a (by rw [e];exact BV _ ha)) h2⟩
end
mutual
theorem Own.freeze (hz:∀ a,Z' a->Z a):∀ (x:PV) (d:Nat) (v:V) (fp:List Addr),(∀ a∈fp,¬ Z' a)->Own K H Z x d v fp->Own K H Z' x 0 v []
 | .non,_,_,_,_,h=>by rw [Own] at h ⊢;exact ⟨h.1,rfl⟩
 | .bl _,_,_,_,_,h=>by rw [Own] at h ⊢;exact ⟨h.1,rfl⟩
 | .int _,_,_,_,_,h=>by rw [Own] at h ⊢;exact ⟨h.1,rfl⟩
 | .str _,_,_,_,_,h=>by rw [Own] at h ⊢;exact ⟨h.1,rfl⟩
 | .emp,_,_,_,_,h=>by rw [Own] at h ⊢;exact ⟨rfl,h.2⟩
 | .dko,_,_,_,_,h=>by rw [Own] at h ⊢;exact ⟨rfl,h.2⟩
 | .scr _,_,_,_,_,h=>by rw [Own] at h ⊢;exact ⟨rfl,h.2⟩
 | .exn _,_,_,_,_,h=>by rw [Own] at h ⊢;exact ⟨rfl,h.2⟩
 | .dct kvs,d,v,fp,hf,h=>by
  rw [Own] at h ⊢;obtain ⟨b,ev,⟨d0,hr,e⟩ | ⟨d0,hb,e⟩⟩:=h
  ·exact ⟨b,ev,.inl ⟨rfl,⟨hr.1,λ z=>hr.2 (hz b z)⟩,rfl⟩⟩
  ·exact ⟨b,ev,.inl ⟨rfl,⟨.inl hb,hf b (by rw [e];exact AH)⟩,rfl⟩⟩
 | .dcl ks xs,d,v,fp,hf,h=>by
  rw [Own] at h ⊢;obtain ⟨b,vs,ev,en,⟨d0,hr,e,hl⟩ | ⟨d0,f,hb,e,nb,hl⟩⟩:=h
  ·refine ⟨b,vs,ev,en,.inl ⟨rfl,?_,rfl,OwnL.freeze hz xs 0 vs [] (λ _ z=>nomatch z) hl⟩⟩;exact ⟨hr.1,λ z=>hr.2 (hz b z)⟩
  ·exact ⟨b,vs,ev,en,.inl ⟨rfl,⟨.inl hb,hf b (by rw [e];exact AH)⟩,rfl,OwnL.freeze hz xs _ vs f (λ a ha=>hf a (by rw [e];exact AI _ ha)) hl⟩⟩
 | .lst xs,d,v,fp,hf,h=>by
  rw [Own] at h ⊢;obtain ⟨b,vs,ev,⟨d0,hr,e,hl⟩ | ⟨d0,f,hb,e,nb,hl⟩⟩:=h
  ·refine ⟨b,vs,ev,.inl ⟨rfl,?_,rfl,OwnL.freeze hz xs 0 vs [] (λ _ z=>nomatch z) hl⟩⟩;exact ⟨hr.1,λ z=>hr.2 (hz b z)⟩
  ·exact ⟨b,vs,ev,.inl ⟨rfl,⟨hb,hf b (by rw [e];exact AH)⟩,rfl,OwnL.freeze hz xs _ vs f (λ a ha=>hf a (by rw [e];exact AI _ ha)) hl⟩⟩
 | .tup xs,d,v,fp,hf,h=>by
  rw [Own] at h ⊢;obtain ⟨b,vs,ev,hr,hl⟩:=h;exact ⟨b,vs,ev,hr,OwnL.freeze hz xs _ vs fp hf hl⟩
theorem OwnL.freeze (hz:∀ a,Z' a->Z a):∀ (xs:List PV) (d:Nat) (vs:List V) (fp:List Addr),(∀ a∈fp,¬ Z' a)->OwnL K H Z xs d vs fp->OwnL K H Z' xs 0 vs []
 | [],_,_,_,_,h=>by rw [OwnL] at h ⊢;exact ⟨h.1,rfl⟩
 | x::xs,d,vs,fp,hf,h=>by
  rw [OwnL] at h ⊢;obtain ⟨v,r,f1,f2,e1,e,dj,h1,h2⟩:=h;exact ⟨v,r,[],[],e1,rfl,λ _ z=>(nomatch z),Own.freeze hz x d v f1 (λ a ha=>hf a (by rw [e];exact BU _ ha)) h1,OwnL.freeze hz xs d r f2 (λ a ha=>hf a (by rw [e];exact BV _ ha)) h2⟩
end
mutual
theorem Own.full:∀ (x:PV) (v:V) (fp:List Addr),Own K H Z x om v fp->Own K H Z' x om v fp
 | .non,_,_,h=>by rw [Own] at h ⊢;exact h
 | .bl _,_,_,h=>by rw [Own] at h ⊢;exact h
 | .int _,_,_,h=>by rw [Own] at h ⊢;exact h
 | .str _,_,_,h=>by rw [Own] at h ⊢;exact h
 | .emp,_,_,h=>by rw [Own] at h ⊢;exact h
 | .dko,_,_,h=>by rw [Own] at h ⊢;exact h
 | .scr _,_,_,h=>by rw [Own] at h ⊢;exact h
 | .exn _,_,_,h=>by rw [Own] at h ⊢;exact h
 | .dct kvs,v,fp,h=>by
  rw [Own] at h ⊢;obtain ⟨b,ev,⟨d0,_⟩ | ⟨d0,hb,e⟩⟩:=h
  ·exact absurd d0 (by decide)
  ·exact ⟨b,ev,.inr ⟨d0,hb,e⟩⟩
 | .dcl ks xs,v,fp,h=>by
  rw [Own] at h ⊢;obtain ⟨b,vs,ev,en,⟨d0,_⟩ | ⟨d0,f,hb,e,nb,hl⟩⟩:=h
  ·exact absurd d0 (by decide)
  ·exact ⟨b,vs,ev,en,.inr ⟨d0,f,hb,e,nb,OwnL.full xs vs f hl⟩⟩
 | .lst xs,v,fp,h=>by
  rw [Own] at h ⊢;obtain ⟨b,vs,ev,⟨d0,_⟩ | ⟨d0,f,hb,e,nb,hl⟩⟩:=h
  ·exact absurd d0 (by decide)
  ·exact ⟨b,vs,ev,.inr ⟨d0,f,hb,e,nb,OwnL.full xs vs f hl⟩⟩
 | .tup xs,v,fp,h=>by
  rw [Own] at h ⊢;obtain ⟨b,vs,ev,hr,hl⟩:=h;exact ⟨b,vs,ev,hr,OwnL.full xs vs fp hl⟩
theorem OwnL.full:∀ (xs:List PV) (vs:List V) (fp:List Addr),OwnL K H Z xs om vs fp->OwnL K H Z' xs om vs fp
 | [],_,_,h=>by rw [OwnL] at h ⊢;exact h
 | x::xs,vs,fp,h=>by
  rw [OwnL] at h ⊢;obtain ⟨v,r,f1,f2,e1,e,dj,h1,h2⟩:=h;exact ⟨v,r,f1,f2,e1,e,dj,Own.full x v f1 h1,OwnL.full xs r f2 h2⟩
end
def Own.weak (hz:∀ a,Z' a->Z a) {x:PV}{d:Nat}{v:V}{fp:List Addr} (h:Own K H Z x d v fp):Own K H Z' x d v fp:=
 Own.move (S:=λ _=>False) (λ _ _ h _=>h) (λ _ z=>z.elim) (λ a _ n z=>n (hz a z)) x d v fp (λ _ _ z=>z) h
def OwnL.weak (hz:∀ a,Z' a->Z a) {xs:List PV}{d:Nat}{vs:List V}{fp:List Addr} (h:OwnL K H Z xs d vs fp):OwnL K H Z' xs d vs fp:=
 OwnL.move (S:=λ _=>False) (λ _ _ h _=>h) (λ _ z=>z.elim) (λ a _ n z=>n (hz a z)) xs d vs fp (λ _ _ z=>z) h
end
abbrev Slot:=Option (PV×Nat)
abbrev Ae:=List Slot
inductive Rz (α:Type) where
 | ok (a:α) | exc (c:Nat) | no
def Rz.bind {α β:Type} (r:Rz α) (f:α->Rz β):Rz β:=match r with
 | .ok a=>f a
 | .exc c=>.exc c
 | .no=>.no
abbrev Fx:=Ae->Rz (PV×Nat×Ae)
abbrev Fa:=Ae->Rz (List (PV×Nat)×Ae)
abbrev Fb:=Ae->Rz (Bool×Ae)
structure Fm where
 K:Frag
 Ms:Nat->Bool
 Zo:Addr->Prop
 H₀:Hp
 W:St->Nat->Hp->Prop
 io:Option V
 al:Nat->List Nat
 pn:List (Nat×V):=[]
abbrev AU:=Nat->List Addr
def Fm.Fre (M:Fm) (i:Nat):Prop:=(M.io≠none->i≠0)/\∀ p∈M.pn,p.1≠i
def Zf (M:Fm) (fps:AU):Addr->Prop:=λ a=>M.Zo a\/∃ i,a∈fps i
def Zv (M:Fm) (vs:List Nat) (fps:AU):Addr->Prop:=λ a=>M.Zo a\/∃ i,i∉vs/\a∈fps i
def Za (M:Fm) (fps:AU) (i:Nat):Addr->Prop:=λ a=>M.Zo a\/∃ j,j∉M.al i/\a∈fps j
def Zt (M:Fm) (vs:List Nat) (fps:AU) (fp:List Addr):Addr->Prop:=λ a=>Zv M vs fps a\/a∈fp
def Fm.plus (M:Fm) (fp:List Addr):Fm:={ M with Zo:=λ a=>M.Zo a\/a∈fp }
structure Rep (M:Fm) (ρ:Ae) (σ:St) (H:Hp) (fps:AU):Prop where
 own:∀ i x d,ρ[i]?=some (some (x,d))->∃ v,σ[i]?=some (some v)/\Own M.K H (Za M fps i) x d v (fps i)
 non:∀ i,(∀ p,ρ[i]?≠some (some p))->fps i=[]
 dj:∀ i j,i≠j->∀ a∈fps i,a∉fps j
 zo:∀ i,∀ a∈fps i,¬ M.Zo a
 fr:∀ i,M.Ms i=false->∀ a∈fps i,M.H₀ a=none
 zd:∀ a,M.Zo a->H a≠none
 len:ρ.length=σ.length
 msf:∀ i x d,M.Ms i=true->ρ[i]?=some (some (x,d))->d=om
 h0:∀ a,M.H₀ a≠none->H a≠none
 iov:(∀ v,M.io=some v->σ[0]?=some (some v)/\M.Ms 0=true)/\∀ p∈M.pn,σ[p.1]?=some (some p.2)
def Agr (M:Fm) (ρ ρ':Ae):Prop:=(∀ i,M.Ms i=false->ρ'[i]?=ρ[i]?)/\ρ'.length=ρ.length
structure KD (M:Fm) (H:Hp) (fps:AU) (H':Hp) (fps':AU):Prop where
 keep:D5 (λ a=>∃ i,M.Ms i=true/\a∈fps i) H H'
 dom:∀ a,H a≠none->H' a≠none
 sub:∀ i,∀ a∈fps' i,a∈fps i\/H a=none
 same:∀ i,M.Ms i=false->fps' i=fps i
def Tmps (K:Frag) (H:Hp) (Z:Addr->Prop):List (PV×Nat)->List V->List Addr->Prop
 | [],vs,fp=>vs=[]/\fp=[]
 | (x,d)::xs,vs,fp=>∃ v r f1 f2,vs=v::r/\fp=f1++f2/\(∀ a∈f1,a∉f2)/\Own K H (λ a=>Z a\/a∈f1) x d v f1/\Tmps K H Z xs r f2
structure Temp (M:Fm) (vs:List Nat) (H:Hp) (H':Hp) (fps':AU) (fp:List Addr):Prop where
 new:∀ a∈fp,H a=none
 ndj:∀ a∈fp,¬ Zf M fps' a
section
variable {M:Fm}{ρ ρ':Ae}{σ:St}{H H' H'':Hp}{fps fps' fps'':AU}{vs vs':List Nat}
def Agr.refl:Agr M ρ ρ:=⟨λ _ _=>rfl,rfl⟩
def Agr.trans {ρ'':Ae} (a:Agr M ρ ρ') (b:Agr M ρ' ρ''):Agr M ρ ρ'':=⟨λ i hi=>(b.1 i hi).trans (a.1 i hi),b.2.trans a.2⟩
def KD.refl:KD M H fps H fps:=⟨λ _ _ h _=>h,λ _ h=>h,λ _ _ h=>.inl h,λ _ _=>rfl⟩
def KD.trans (a:KD M H fps H' fps') (b:KD M H' fps' H'' fps''):KD M H fps H'' fps'' where
 keep:=λ x o h n=>b.keep x o (a.keep x o h n) λ ⟨i,hi,hx⟩=>(a.sub i x hx).elim (λ z=>n ⟨i,hi,z⟩) λ z=>by rw [z] at h;cases h
 dom:=λ x h=>b.dom x (a.dom x h)
 sub:=λ i x hx=>(b.sub i x hx).elim (λ z=>a.sub i x z) λ z=>.inr (by
  cases e:H x with
  | none=>rfl
  | some o=>exact absurd z (a.dom x (by rw [e];simp)))
 same:=λ i hi=>(b.same i hi).trans (a.same i hi)
def Za.zf {i:Nat}{a:Addr} (h:Za M fps i a):Zf M fps a:=h.elim .inl λ ⟨j,_,h⟩=>.inr ⟨j,h⟩
def Za.of {i:Nat} (hal:M.al i=[]) {a:Addr} (h:Zf M fps a):Za M fps i a:=h.elim .inl λ ⟨j,h⟩=>.inr ⟨j,(by rw [hal];simp),h⟩
def Rep.own0 (r:Rep M ρ σ H fps) (hal:∀ i,M.al i=[]) (i:Nat) (x:PV) (d:Nat) (e:ρ[i]?=some (some (x,d))):∃ v,σ[i]?=some (some v)/\Own M.K H (Zf M fps) x d v (fps i):=
 let ⟨v,h1,h2⟩:=r.own i x d e;⟨v,h1,h2.weak λ _ h=>Za.of (hal i) h⟩
def Rep.lsts (r:Rep M ρ σ H fps) {i:Nat}{a:Addr} (h:a∈fps i):∃ o:MO,H a=some o.ho:=by
 by_cases hp:∃ p,ρ[i]?=some (some p)
 ·obtain ⟨⟨x,d⟩,e⟩:=hp;obtain ⟨v,_,o⟩:=r.own i x d e;exact Own.lsts x d v _ o a h
 ·rw [r.non i λ p e=>hp ⟨p,e⟩] at h;cases h
def Rep.zdom (r:Rep M ρ σ H fps) {a:Addr} (h:Zf M fps a):H a≠none:=by
 rcases h with h | ⟨i,h⟩
 ·exact r.zd a h
 ·obtain ⟨xs,e⟩:=r.lsts h;rw [e];simp
def Rep.nz (r:Rep M ρ σ H fps) {a:Addr} (h:H a=none):¬ Zf M fps a:=λ z=>r.zdom z h
def Zv.zf {a:Addr} (h:Zv M vs fps a):Zf M fps a:=h.elim .inl λ ⟨i,_,h⟩=>.inr ⟨i,h⟩
def Zv.mono (hv:∀ i∈vs',i∈vs) {a:Addr} (h:Zv M vs fps a):Zv M vs' fps a:=h.elim .inl λ ⟨i,n,h⟩=>.inr ⟨i,λ z=>n (hv i z),h⟩
def Zt.mono (hv:∀ i∈vs',i∈vs) {a:Addr}{fp:List Addr} (h:Zt M vs fps fp a):Zt M vs' fps fp a:=h.elim (λ h=>.inl (h.mono hv)) .inr
def KD.stay (k:KD M H fps H' fps') (r:Rep M ρ σ H fps) (hv:∀ i∈vs,M.Ms i=false) {x:PV}{d:Nat}{v:V}{fp:List Addr} (h:Own M.K H (Zt M vs fps fp) x d v fp) (hf:∀ a∈fp,¬ Zf M fps a):Own M.K H' (Zt M vs fps' fp) x d v fp:=by
 have h1:∀ a,(∃ i,M.Ms i=true/\a∈fps i)->Zt M vs fps fp a/\∃ o:MO,H a=some o.ho:=by
  rintro a ⟨i,hi,ha⟩;exact ⟨.inl (.inr ⟨i,λ z=>(by rw [hv i z] at hi;cases hi),ha⟩),r.lsts ha⟩
 have h2:∀ a,H a≠none->¬ Zt M vs fps fp a->¬ Zt M vs fps' fp a:=by
  intro a hd nz z;rcases z with (z | ⟨i,ni,hx⟩) | z
  ·exact nz (.inl (.inl z))
  ·rcases k.sub i a hx with z | z
   ·exact nz (.inl (.inr ⟨i,ni,z⟩))
   ·exact hd z
  ·exact nz (.inr z)
 exact Own.move k.keep h1 h2 x d v fp (λ a ha ⟨i,_,hx⟩=>hf a ha (.inr ⟨i,hx⟩)) h
theorem KD.stays (k:KD M H fps H' fps') (r:Rep M ρ σ H fps) (hv:∀ i∈vs,M.Ms i=false):∀ {xs:List (PV×Nat)}{ws:List V}{fp:List Addr},Tmps M.K H (Zv M vs fps) xs ws fp->(∀ a∈fp,¬ Zf M fps a)->Tmps M.K H' (Zv M vs fps') xs ws fp
 | [],_,_,h,_=>h
 | (x,d)::xs,ws,fp,h,hf=>by
  obtain ⟨v,s,f1,f2,e1,e2,dj,h1,h2⟩:=h;exact ⟨v,s,f1,f2,e1,e2,dj,k.stay r hv h1 λ a ha=>hf a (by rw [e2];exact BU _ ha),k.stays r hv h2 λ a ha=>hf a (by rw [e2];exact BV _ ha)⟩
theorem Tmps.weak {K:Frag}{Z Z':Addr->Prop} (hz:∀ a,Z' a->Z a):∀ {xs:List (PV×Nat)}{ws:List V}{fp:List Addr},Tmps K H Z xs ws fp->Tmps K H Z' xs ws fp
 | [],_,_,h=>h
 | (x,d)::xs,ws,fp,h=>by
  obtain ⟨v,s,f1,f2,e1,e2,dj,h1,h2⟩:=h;exact ⟨v,s,f1,f2,e1,e2,dj,h1.weak λ a h=>h.elim (λ h=>.inl (hz a h)) .inr,h2.weak hz⟩
theorem KD.grow (k:∀ a o,H a=some o->H' a=some o):KD M H fps H' fps:=⟨λ a o h _=>k a o h,λ a h=>by
 cases e:H a with
 | none=>exact absurd e h
 | some o=>rw [k a o e];simp,λ _ _ h=>.inl h,λ _ _=>rfl⟩
def Rep.grow (r:Rep M ρ σ H fps) (k:∀ a o,H a=some o->H' a=some o):Rep M ρ σ H' fps where
 own:=λ i x d e=>by
  obtain ⟨v,hv,o⟩:=r.own i x d e;exact ⟨v,hv,Own.move (S:=λ _=>False) (λ a o h _=>k a o h) (λ _ z=>z.elim) (λ _ _ n=>n) x d v _ (λ _ _ z=>z) o⟩
 non:=r.non
 dj:=r.dj
 zo:=r.zo
 fr:=r.fr
 zd:=λ a h=>(KD.grow (M:=M) (fps:=fps) k).dom a (r.zd a h)
 len:=r.len
 msf:=r.msf
 h0:=λ a h=>(KD.grow (M:=M) (fps:=fps) k).dom a (r.h0 a h)
 iov:=r.iov
end
def tE (M:Fm) (f:Fx) (vs:List Nat):TE:=λ σ H Q=>∃ ρ fps,Rep M ρ σ H fps/\(match f ρ with
 | .ok (x,d,ρ')=>∀ v H' fps' fp,KD M H fps H' fps'->Agr M ρ ρ'->Rep M ρ' σ H' fps'->Own M.K H' (Zt M vs fps' fp) x d v fp->Temp M vs H H' fps' fp->Q v H'
 | .exc c=>∀ H' fps',KD M H fps H' fps'->M.W σ c H'
 | .no=>False)
def tL (M:Fm) (f:Fa) (vs:List Nat):TA:=λ σ H Q=>∃ ρ fps,Rep M ρ σ H fps/\(match f ρ with
 | .ok (xs,ρ')=>∀ ws H' fps' fp,KD M H fps H' fps'->Agr M ρ ρ'->Rep M ρ' σ H' fps'->Tmps M.K H' (Zv M vs fps') xs ws fp->Temp M vs H H' fps' fp->Q ws H'
 | .exc c=>∀ H' fps',KD M H fps H' fps'->M.W σ c H'
 | .no=>False)
def tT (M:Fm) (f:Fb):TT:=λ σ H Q=>∃ ρ fps,Rep M ρ σ H fps/\(match f ρ with
 | .ok (b,ρ')=>∀ H' fps',KD M H fps H' fps'->Agr M ρ ρ'->Rep M ρ' σ H' fps'->Q b H'
 | .exc c=>∀ H' fps',KD M H fps H' fps'->M.W σ c H'
 | .no=>False)
def BB (M:Fm) (H:Hp) (fps:AU) (vs:List Nat) (F:List Addr) (z:PV) (d:Nat) (Q:VK):Prop:=
 ∀ u H' fp,(∀ a o,H a=some o->H' a=some o)->Own M.K H' (Zt M vs fps fp) z d u fp->(∀ a∈fp,a∈F\/H a=none)->Q u H'
section
variable {M:Fm}{ρ ρ':Ae}{σ:St}{H H' H'':Hp}{fps fps' fps'':AU}{vs vs':List Nat}{f g:Fx}{fa:Fa}{fb:Fb}{Q:VK}
def bC (x:PV):Fx:=λ ρ=>.ok (x,om,ρ)
def Lx {x:PV}{v:V} (h:∀ K H Z,Own K H Z x om v []) {σ:St}{H:Hp}{Q:VK} (hq:tE M (bC x) [] σ H Q):tC v σ H Q:=by
 obtain ⟨ρ,fps,rep,q⟩:=hq;exact q v H fps [] KD.refl Agr.refl rep (h _ _ _) ⟨λ _ z=>(nomatch z),λ _ z=>nomatch z⟩
def dv:PV->Nat
 | .lst _=>0
 | .tup _=>0
 | .dct _=>0
 | .dcl _ _=>0
 | _=>om
def Aa (i:Nat):Fx:=λ ρ=>match ρ[i]? with
 | some (some (x,_))=>.ok (x,dv x,ρ)
 | _=>.no
theorem Own.view {K:Frag}{Z Z':Addr->Prop}{x:PV}{d:Nat}{v:V}{fp:List Addr} (hz:∀ a,Z' a->Z a) (hf:∀ a∈fp,¬ Z' a) (h:Own K H Z x d v fp):Own K H Z' x (dv x) v []:=by
 have q:=Own.freeze hz x d v fp hf h;cases x with
 | lst xs=>exact q
 | tup xs=>exact q
 | dct kvs=>exact q
 | dcl ks xs=>exact q
 | exn _=>rw [Own] at q ⊢;exact q
 | non=>rw [Own] at q ⊢;exact q
 | bl _=>rw [Own] at q ⊢;exact q
 | int _=>rw [Own] at q ⊢;exact q
 | str _=>rw [Own] at q ⊢;exact q
 | emp=>rw [Own] at q ⊢;exact q
 | dko=>rw [Own] at q ⊢;exact q
 | scr _=>rw [Own] at q ⊢;exact q
theorem Wd {i:Nat}{σ:St}{H:Hp}{Q:VK} (hq:tE M (Aa i) (i::M.al i) σ H Q):DF i σ H Q:=by
 obtain ⟨ρ,fps,rep,q⟩:=hq;unfold Aa at q;cases e0:ρ[i]? with
 | none=>rw [e0] at q;exact q.elim
 | some sl=>
  cases sl with
  | none=>rw [e0] at q;exact q.elim
  | some p=>
   obtain ⟨x0,d0⟩:=p;rw [e0] at q;obtain ⟨v,hv,o⟩:=rep.own i x0 d0 e0;refine ⟨v,hv,q v H fps [] KD.refl Agr.refl rep ((o.view (Z':=Zv M (i::M.al i) fps) (λ a h=>h.elim .inl λ ⟨j,n,h⟩=>.inr ⟨j,λ z=>n (AI _ z),h⟩) λ a ha z=>?_).weak λ a h=>h.elim id λ z=>nomatch z) ⟨λ _ z=>(nomatch z),λ _ z=>nomatch z⟩⟩;rcases z with z | ⟨j,nj,hj⟩
   ·exact rep.zo i a ha z
   ·exact rep.dj i j (λ e=>nj (by simp [e])) a ha hj
def Ab (op:PV->Nat->PV->Nat->Option (PV×Nat)) (f g:Fx):Fx:=λ ρ=>(f ρ).bind λ (x,d,ρ1)=>(g ρ1).bind λ (y,e,ρ2)=>match op x d y e with
 | some (z,c)=>.ok (z,c,ρ2)
 | none=>.no
theorem EF {op:PV->Nat->PV->Nat->Option (PV×Nat)}{r:R2} (hv:∀ i∈vs,M.Ms i=false)
  (leaf:∀ x d y e z c v w H fps f1 f2 Q,op x d y e=some (z,c)->Own M.K H (Zt M (vs++vs') fps f1) x d v f1->Own M.K H (Zt M (vs++vs') fps f2) y e w f2->(∀ a∈f1,a∉f2)->(∀ a∈f1++f2,¬ Zf M fps a)->(∀ a,Zf M fps a->H a≠none)->BB M H fps (vs++vs') (f1++f2) z c Q->r v w H Q)
  {σ:St}{H:Hp}{Q:VK} (hq:tE M (Ab op f g) (vs++vs') σ H Q):Kz r (tE M f vs) (tE M g vs') σ H Q:=by
 obtain ⟨ρ,fps,rep,q⟩:=hq;refine ⟨ρ,fps,rep,?_⟩;unfold Ab at q;cases ef:f ρ with
 | no=>rw [ef] at q;exact q
 | exc c=>rw [ef] at q;exact q
 | ok p=>
  obtain ⟨x,d,ρ1⟩:=p;rw [ef] at q;intro v H1 fps1 f1 k1 g1 rep1 o1 t1;refine ⟨ρ1,fps1,rep1,?_⟩;dsimp only [Rz.bind] at q;cases eg:g ρ1 with
  | no=>rw [eg] at q;exact q
  | exc c=>rw [eg] at q;exact λ H' fps' k=>q H' fps' (k1.trans k)
  | ok p2=>
   obtain ⟨y,e,ρ2⟩:=p2;rw [eg] at q;intro w H2 fps2 f2 k2 g2 rep2 o2 t2;dsimp only at q;cases eo:op x d y e with
   | none=>rw [eo] at q;exact q.elim
   | some zc=>
    obtain ⟨z,c⟩:=zc;rw [eo] at q;have o1':=k2.stay rep1 hv o1 t1.ndj;have n1:∀ a∈f1,¬ Zf M fps2 a:=λ a ha z=>by
     rcases z with z | ⟨i,z⟩
     ·exact t1.ndj a ha (.inl z)
     ·rcases k2.sub i a z with z | z
      ·exact t1.ndj a ha (.inr ⟨i,z⟩)
      ·obtain ⟨xs,e⟩:=Own.lsts x d v f1 o1 a ha;rw [z] at e;cases e
    refine leaf x d y e z c v w H2 fps2 f1 f2 Q eo (o1'.weak λ a h=>Zt.mono (λ i hi=>BU _ hi) h) (o2.weak λ a h=>Zt.mono (λ i hi=>BV _ hi) h) (λ a h1 h2=>?_) (λ a ha=>?_) (λ a h=>rep2.zdom h) λ u H3 fp k3 o3 hfp=>?_
    ·obtain ⟨xs,e⟩:=Own.lsts x d v f1 o1 a h1;rw [t2.new a h2] at e;cases e
    ·rcases jd4.mp ha with z | z
     ·exact n1 a z
     ·exact t2.ndj a z
    ·have new:∀ a∈fp,H a=none:=λ a ha=>by
      have back:H1 a=none->H a=none:=λ e=>by
       cases e':H a with
       | none=>rfl
       | some o=>exact absurd e (k1.dom a (by rw [e'];simp))
      have back2:H2 a=none->H1 a=none:=λ e=>by
       cases e':H1 a with
       | none=>rfl
       | some o=>exact absurd e (k2.dom a (by rw [e'];simp))
      rcases hfp a ha with z | z
      ·rcases jd4.mp z with z | z
       ·exact t1.new a z
       ·exact back (t2.new a z)
      ·exact back (back2 z)
     refine q u H3 fps2 fp ((k1.trans k2).trans (KD.grow k3)) (g1.trans g2) (rep2.grow k3) o3 ⟨new,λ a ha=>?_⟩;rcases hfp a ha with z | z
     ·rcases jd4.mp z with z | z
      ·exact n1 a z
      ·exact t2.ndj a z
     ·exact rep2.nz z
end
section
variable {M:Fm}{vs vs':List Nat}{f g:Fx}{fa:Fa}{fb gb:Fb}
def AN (op:PV->Nat->Option (PV×Nat)) (f:Fx):Fx:=λ ρ=>(f ρ).bind λ (x,d,ρ1)=>match op x d with
 | some (z,c)=>.ok (z,c,ρ1)
 | none=>.no
theorem O8 {op:PV->Nat->Option (PV×Nat)}{r:V->Hp->VK->Prop}
  (leaf:∀ x d z c v H fps f1 Q,op x d=some (z,c)->Own M.K H (Zt M vs fps f1) x d v f1->(∀ a∈f1,¬ Zf M fps a)->(∀ a,Zf M fps a->H a≠none)->BB M H fps vs f1 z c Q->r v H Q)
  {σ:St}{H:Hp}{Q:VK} (hq:tE M (AN op f) vs σ H Q):Rn r (tE M f vs) σ H Q:=by
 obtain ⟨ρ,fps,rep,q⟩:=hq;refine ⟨ρ,fps,rep,?_⟩;unfold AN at q;cases ef:f ρ with
 | no=>rw [ef] at q;exact q
 | exc c=>rw [ef] at q;exact q
 | ok p=>
  obtain ⟨x,d,ρ1⟩:=p;rw [ef] at q;intro v H1 fps1 f1 k1 g1 rep1 o1 t1;dsimp only [Rz.bind] at q;cases eo:op x d with
  | none=>rw [eo] at q;exact q.elim
  | some zc=>
   obtain ⟨z,c⟩:=zc;rw [eo] at q;refine leaf x d z c v H1 fps1 f1 Q eo o1 t1.ndj (λ a h=>rep1.zdom h) λ u H3 fp k3 o3 hfp=>?_;have back:∀ a,H1 a=none->H a=none:=λ a e=>by
    cases e':H a with
    | none=>rfl
    | some o=>exact absurd e (k1.dom a (by rw [e'];simp))
   refine q u H3 fps1 fp (k1.trans (KD.grow k3)) g1 (rep1.grow k3) o3 ⟨λ a ha=>(hfp a ha).elim (t1.new a) (back a),λ a ha=>(hfp a ha).elim (t1.ndj a) λ z=>rep1.nz z⟩
def Ac:Fa:=λ ρ=>.ok ([],ρ)
def Af (f:Fx) (fa:Fa):Fa:=λ ρ=>(f ρ).bind λ (x,d,ρ1)=>(fa ρ1).bind λ (xs,ρ2)=>.ok ((x,d)::xs,ρ2)
def zk {σ:St}{H:Hp}{Q:List V->Hp->Prop} (hq:tL M Ac [] σ H Q):HH σ H Q:=by
 obtain ⟨ρ,fps,rep,q⟩:=hq;exact q [] H fps [] KD.refl Agr.refl rep ⟨rfl,rfl⟩ ⟨λ _ z=>(nomatch z),λ _ z=>nomatch z⟩
theorem kE (hv:∀ i∈vs,M.Ms i=false) {σ:St}{H:Hp}{Q:List V->Hp->Prop} (hq:tL M (Af f fa) (vs++vs') σ H Q):OA (tE M f vs) (tL M fa vs') σ H Q:=by
 obtain ⟨ρ,fps,rep,q⟩:=hq;refine ⟨ρ,fps,rep,?_⟩;unfold Af at q;cases ef:f ρ with
 | no=>rw [ef] at q;exact q
 | exc c=>rw [ef] at q;exact q
 | ok p=>
  obtain ⟨x,d,ρ1⟩:=p;rw [ef] at q;intro v H1 fps1 f1 k1 g1 rep1 o1 t1;refine ⟨ρ1,fps1,rep1,?_⟩;dsimp only [Rz.bind] at q;cases eg:fa ρ1 with
  | no=>rw [eg] at q;exact q
  | exc c=>rw [eg] at q;exact λ H' fps' k=>q H' fps' (k1.trans k)
  | ok p2=>
   obtain ⟨ys,ρ2⟩:=p2;rw [eg] at q;intro ws H2 fps2 f2 k2 g2 rep2 o2 t2;dsimp only at q;have o1':=k2.stay rep1 hv o1 t1.ndj;have n1:∀ a∈f1,¬ Zf M fps2 a:=λ a ha z=>by
    rcases z with z | ⟨i,z⟩
    ·exact t1.ndj a ha (.inl z)
    ·rcases k2.sub i a z with z | z
     ·exact t1.ndj a ha (.inr ⟨i,z⟩)
     ·obtain ⟨xs,e⟩:=Own.lsts x d v f1 o1 a ha;rw [z] at e;cases e
   have back:∀ a,H1 a=none->H a=none:=λ a e=>by
    cases e':H a with
    | none=>rfl
    | some o=>exact absurd e (k1.dom a (by rw [e'];simp))
   refine q (v::ws) H2 fps2 (f1++f2) (k1.trans k2) (g1.trans g2) rep2 ⟨v,ws,f1,f2,rfl,rfl,λ a h1 h2=>?_,o1'.weak λ a h=>Zt.mono (λ i hi=>BU _ hi) h,o2.weak λ a h=>h.mono λ i hi=>BV _ hi⟩ ⟨λ a ha=>?_,λ a ha=>?_⟩
   ·obtain ⟨xs,e⟩:=Own.lsts x d v f1 o1 a h1;rw [t2.new a h2] at e;cases e
   ·rcases jd4.mp ha with z | z
    ·exact t1.new a z
    ·exact back a (t2.new a z)
   ·rcases jd4.mp ha with z | z
    ·exact n1 a z
    ·exact t2.ndj a z
def An (op:List (PV×Nat)->Option (PV×Nat)) (fa:Fa):Fx:=λ ρ=>(fa ρ).bind λ (xs,ρ1)=>match op xs with
 | some (z,c)=>.ok (z,c,ρ1)
 | none=>.no
theorem Nh {op:List (PV×Nat)->Option (PV×Nat)}{r:List V->Hp->VK->Prop}
  (leaf:∀ xs z c ws H fps fp Q,op xs=some (z,c)->Tmps M.K H (Zv M vs fps) xs ws fp->(∀ a∈fp,¬ Zf M fps a)->(∀ a,Zf M fps a->H a≠none)->BB M H fps vs fp z c Q->r ws H Q)
  {σ:St}{H:Hp}{Q:VK} (hq:tE M (An op fa) vs σ H Q):tL M fa vs σ H λ ws H1=>r ws H1 Q:=by
 obtain ⟨ρ,fps,rep,q⟩:=hq;refine ⟨ρ,fps,rep,?_⟩;unfold An at q;cases ef:fa ρ with
 | no=>rw [ef] at q;exact q
 | exc c=>rw [ef] at q;exact q
 | ok p=>
  obtain ⟨xs,ρ1⟩:=p;rw [ef] at q;intro ws H1 fps1 f1 k1 g1 rep1 o1 t1;dsimp only [Rz.bind] at q;cases eo:op xs with
  | none=>rw [eo] at q;exact q.elim
  | some zc=>
   obtain ⟨z,c⟩:=zc;rw [eo] at q;refine leaf xs z c ws H1 fps1 f1 Q eo o1 t1.ndj (λ a h=>rep1.zdom h) λ u H3 fp k3 o3 hfp=>?_;have back:∀ a,H1 a=none->H a=none:=λ a e=>by
    cases e':H a with
    | none=>rfl
    | some o=>exact absurd e (k1.dom a (by rw [e'];simp))
   refine q u H3 fps1 fp (k1.trans (KD.grow k3)) g1 (rep1.grow k3) o3 ⟨λ a ha=>(hfp a ha).elim (t1.new a) (back a),λ a ha=>(hfp a ha).elim (t1.ndj a) λ z=>rep1.nz z⟩
def bT (f:Fx):Fb:=λ ρ=>(f ρ).bind λ (x,_,ρ1)=>match x with
 | .bl b=>.ok (b,ρ1)
 | _=>.no
theorem Sr {σ:St}{H:Hp}{Q:Bool->Hp->Prop} (hq:tT M (bT f) σ H Q):tB (tE M f vs) σ H Q:=by
 obtain ⟨ρ,fps,rep,q⟩:=hq;refine ⟨ρ,fps,rep,?_⟩;unfold bT at q;cases ef:f ρ with
 | no=>rw [ef] at q;exact q
 | exc c=>rw [ef] at q;exact q
 | ok p=>
  obtain ⟨x,d,ρ1⟩:=p;rw [ef] at q;intro v H1 fps1 f1 k1 g1 rep1 o1 t1;dsimp only [Rz.bind] at q;cases x with
  | bl b=>
   rw [Own] at o1;exact ⟨b,o1.1,q H1 fps1 k1 g1 rep1⟩
  | _=>exact q.elim
def HX (f g:Fb):Fb:=λ ρ=>(f ρ).bind λ (b,ρ1)=>if b=true then g ρ1 else .ok (false,ρ1)
def Pu (f g:Fb):Fb:=λ ρ=>(f ρ).bind λ (b,ρ1)=>if b=true then .ok (true,ρ1) else g ρ1
def HW (f:Fb):Fb:=λ ρ=>(f ρ).bind λ (b,ρ1)=>.ok (!b,ρ1)
theorem z7 {σ:St}{H:Hp}{Q:Bool->Hp->Prop} (hq:tT M (HX fb gb) σ H Q):Jz (tT M fb) (tT M gb) σ H Q:=by
 obtain ⟨ρ,fps,rep,q⟩:=hq;refine ⟨ρ,fps,rep,?_⟩;unfold HX at q;cases ef:fb ρ with
 | no=>rw [ef] at q;exact q
 | exc c=>rw [ef] at q;exact q
 | ok p=>
  obtain ⟨b,ρ1⟩:=p;rw [ef] at q;intro H1 fps1 k1 g1 rep1;dsimp only [Rz.bind] at q;cases b with
  | false=>exact (q H1 fps1 k1 g1 rep1)
  | true=>
   refine ⟨ρ1,fps1,rep1,?_⟩;rw [if_pos rfl] at q;cases eg:gb ρ1 with
   | no=>rw [eg] at q;exact q
   | exc c=>rw [eg] at q;exact λ H' fps' k=>q H' fps' (k1.trans k)
   | ok p2=>rw [eg] at q;exact λ H' fps' k g r=>q H' fps' (k1.trans k) (g1.trans g) r
theorem qw {σ:St}{H:Hp}{Q:Bool->Hp->Prop} (hq:tT M (Pu fb gb) σ H Q):Rp (tT M fb) (tT M gb) σ H Q:=by
 obtain ⟨ρ,fps,rep,q⟩:=hq;refine ⟨ρ,fps,rep,?_⟩;unfold Pu at q;cases ef:fb ρ with
 | no=>rw [ef] at q;exact q
 | exc c=>rw [ef] at q;exact q
 | ok p=>
  obtain ⟨b,ρ1⟩:=p;rw [ef] at q;intro H1 fps1 k1 g1 rep1;dsimp only [Rz.bind] at q;cases b with
  | true=>exact (q H1 fps1 k1 g1 rep1)
  | false=>
   refine ⟨ρ1,fps1,rep1,?_⟩;rw [if_neg Cy] at q;cases eg:gb ρ1 with
   | no=>rw [eg] at q;exact q
   | exc c=>rw [eg] at q;exact λ H' fps' k=>q H' fps' (k1.trans k)
   | ok p2=>rw [eg] at q;exact λ H' fps' k g r=>q H' fps' (k1.trans k) (g1.trans g) r
theorem zA {σ:St}{H:Hp}{Q:Bool->Hp->Prop} (hq:tT M (HW fb) σ H Q):Jy (tT M fb) σ H Q:=by
 obtain ⟨ρ,fps,rep,q⟩:=hq;refine ⟨ρ,fps,rep,?_⟩;unfold HW at q;cases ef:fb ρ with
 | no=>rw [ef] at q;exact q
 | exc c=>rw [ef] at q;exact q
 | ok p=>obtain ⟨b,ρ1⟩:=p;rw [ef] at q;exact q
theorem Tmps.all {K:Frag}{H:Hp}{Z:Addr->Prop}:∀ {xs:List (PV×Nat)}{ws:List V}{fp:List Addr},Tmps K H Z xs ws fp->(∀ p∈xs,p.2=om)->OwnL K H Z (xs.map (·.1)) om ws fp
 | [],_,_,h,_=>by rw [IH,OwnL];exact h
 | (x,d)::xs,ws,fp,h,ha=>by
  obtain ⟨v,s,f1,f2,e1,e2,dj,h1,h2⟩:=h;have e:d=om:=ha (x,d) AH;subst e;rw [BF,OwnL];exact ⟨v,s,f1,f2,e1,e2,dj,Own.full x v f1 h1,h2.all λ p hp=>ha p (AI _ hp)⟩
theorem Tmps.cold {K:Frag}{H:Hp}{Z:Addr->Prop}:∀ {xs:List (PV×Nat)}{ws:List V}{fp:List Addr},Tmps K H Z xs ws fp->(∀ a∈fp,¬ Z a)->OwnL K H Z (xs.map (·.1)) 0 ws []
 | [],_,_,h,_=>by rw [IH,OwnL];exact ⟨h.1,rfl⟩
 | (x,d)::xs,ws,fp,h,ha=>by
  obtain ⟨v,s,f1,f2,e1,e2,dj,h1,h2⟩:=h;rw [BF,OwnL];exact ⟨v,s,[],[],e1,rfl,λ _ z=>(nomatch z),Own.freeze (λ _ z=>.inl z) x d v f1 (λ a z=>ha a (by rw [e2];exact BU _ z)) h1,h2.cold λ a z=>ha a (by rw [e2];exact BV _ z)⟩
theorem Tmps.length {K:Frag}{H:Hp}{Z:Addr->Prop}:∀ {xs:List (PV×Nat)}{ws:List V}{fp:List Addr},Tmps K H Z xs ws fp->ws.length=xs.length
 | [],_,_,h=>by rw [h.1];rfl
 | (x,d)::xs,ws,fp,h=>by
  obtain ⟨v,s,f1,f2,e1,e2,dj,h1,h2⟩:=h;rw [e1,Bh,Bh,h2.length]
theorem OwnL.length {K:Frag}{H:Hp}{Z:Addr->Prop}:∀ {xs:List PV}{d:Nat}{ws:List V}{fp:List Addr},OwnL K H Z xs d ws fp->ws.length=xs.length
 | [],_,_,_,h=>by rw [OwnL] at h;rw [h.1];rfl
 | x::xs,d,ws,fp,h=>by
  rw [OwnL] at h;obtain ⟨v,s,f1,f2,e1,e2,dj,h1,h2⟩:=h;rw [e1,Bh,Bh,h2.length]
end
inductive Rs where
 | nx (ρ:Ae) | rt (x:PV) (d:Nat) (ρ:Ae) | bk (ρ:Ae) | ct (ρ:Ae) | exc (c:Nat) | no
abbrev Fs:=Ae->Rs
structure KS (M:Fm) (H:Hp) (fps:AU) (H':Hp) (fps':AU):Prop where
 keep:D5 (λ a=>∃ i,a∈fps i) H H'
 dom:∀ a,H a≠none->H' a≠none
 sub:∀ i,∀ a∈fps' i,(∃ j,a∈fps j)\/H a=none
def Zr (M:Fm) (fps:AU):Addr->Prop:=λ a=>M.Zo a\/(M.io≠none/\a∈fps 0)
def RsOk (M:Fm) (D:Ends) (H:Hp) (fps:AU):Rs->Prop
 | .nx ρ'=>∀ σ' H' fps',KS M H fps H' fps'->Rep M ρ' σ' H' fps'->D.nx σ' H'
 | .bk ρ'=>∀ σ' H' fps',KS M H fps H' fps'->Rep M ρ' σ' H' fps'->D.bk σ' H'
 | .ct ρ'=>∀ σ' H' fps',KS M H fps H' fps'->Rep M ρ' σ' H' fps'->D.ct σ' H'
 | .rt x d ρ'=>∀ v σ' H' fps' fp,KS M H fps H' fps'->Rep M ρ' σ' H' fps'->Own M.K H' (λ a=>Zr M fps' a\/a∈fp) x d v fp->(∀ a∈fp,M.H₀ a=none/\¬ Zr M fps' a)->D.rt v H'
 | .exc c=>∀ σ' H' fps',KS M H fps H' fps'->M.W σ' c H'
 | .no=>False
def tS (M:Fm) (f:Fs):TS:=λ D σ H=>∃ ρ fps,Rep M ρ σ H fps/\RsOk M D H fps (f ρ)
section
variable {M:Fm}{ρ ρ':Ae}{σ σ':St}{H H' H'':Hp}{fps fps' fps'':AU}{vs vs':List Nat}
def KS.refl:KS M H fps H fps:=⟨λ _ _ h _=>h,λ _ h=>h,λ i _ h=>.inl ⟨i,h⟩⟩
def KD.ks (k:KD M H fps H' fps'):KS M H fps H' fps':=⟨λ a o h n=>k.keep a o h λ ⟨i,_,z⟩=>n ⟨i,z⟩,k.dom,λ i a h=>(k.sub i a h).elim (λ z=>.inl ⟨i,z⟩) .inr⟩
def KS.trans (a:KS M H fps H' fps') (b:KS M H' fps' H'' fps''):KS M H fps H'' fps'' where
 keep:=λ x o h n=>b.keep x o (a.keep x o h n) λ ⟨i,hx⟩=>(a.sub i x hx).elim (λ z=>n z) λ z=>by rw [z] at h;cases h
 dom:=λ x h=>b.dom x (a.dom x h)
 sub:=λ i x hx=>(b.sub i x hx).elim (λ ⟨j,z⟩=>a.sub j x z) λ z=>.inr (by
  cases e:H x with
  | none=>rfl
  | some o=>exact absurd z (a.dom x (by rw [e];simp)))
def KS.stay0 (k:KS M H fps H' fps') (r:Rep M ρ σ H fps) {x:PV}{v:V} (h:Own M.K H (Zf M fps) x 0 v []):Own M.K H' (Zf M fps') x 0 v []:=by
 refine Own.move k.keep (λ a ⟨i,ha⟩=>⟨.inr ⟨i,ha⟩,r.lsts ha⟩) ?_ x 0 v [] (λ _ z=>nomatch z) h;intro a hd nz z;rcases z with z | ⟨i,hx⟩
 ·exact nz (.inl z)
 ·rcases k.sub i a hx with z | z
  ·exact nz (.inr z)
  ·exact hd z
def A5:Fs:=λ ρ=>.nx ρ
def Ah (f g:Fs):Fs:=λ ρ=>match f ρ with
 | .nx ρ1=>g ρ1
 | r=>r
def zu {D:Ends} (hq:tS M A5 D σ H):V6 D σ H:=by
 obtain ⟨ρ,fps,rep,q⟩:=hq;exact q σ H fps KS.refl rep
def Bw (c:Fb) (f g:Fs):Fs:=λ ρ=>match c ρ with
 | .ok (b,ρ1)=>if b=true then f ρ1 else g ρ1
 | .exc e=>.exc e
 | .no=>.no
theorem RsOk.from {D:Ends}{r:Rs} (k1:KS M H fps H' fps') (q:RsOk M D H fps r):RsOk M D H' fps' r:=by
 cases r with
 | no=>exact q
 | exc c=>exact λ σ' H' fps' k=>q σ' H' fps' (k1.trans k)
 | rt x d ρ2=>exact λ v σ' H' fps' fp k=>q v σ' H' fps' fp (k1.trans k)
 | bk ρ2=>exact λ σ' H' fps' k=>q σ' H' fps' (k1.trans k)
 | ct ρ2=>exact λ σ' H' fps' k=>q σ' H' fps' (k1.trans k)
 | nx ρ2=>exact λ σ' H' fps' k=>q σ' H' fps' (k1.trans k)
theorem zy {f g:Fs}{D:Ends} (hq:tS M (Ah f g) D σ H):LB (tS M f) (tS M g) D σ H:=by
 obtain ⟨ρ,fps,rep,q⟩:=hq;refine ⟨ρ,fps,rep,?_⟩;unfold Ah at q;cases ef:f ρ with
 | no=>rw [ef] at q;exact q
 | exc c=>rw [ef] at q;exact q
 | rt x d ρ1=>rw [ef] at q;exact q
 | bk ρ1=>rw [ef] at q;exact q
 | ct ρ1=>rw [ef] at q;exact q
 | nx ρ1=>
  rw [ef] at q;exact λ σ1 H1 fps1 k1 rep1=>⟨ρ1,fps1,rep1,RsOk.from k1 q⟩
theorem qT {c:Fb}{f g:Fs}{D:Ends} (hq:tS M (Bw c f g) D σ H):LH (tT M c) (tS M f) (tS M g) D σ H:=by
 obtain ⟨ρ,fps,rep,q⟩:=hq;refine ⟨ρ,fps,rep,?_⟩;unfold Bw at q;cases ef:c ρ with
 | no=>rw [ef] at q;exact q
 | exc c=>rw [ef] at q;exact λ H' fps' k=>q _ H' fps' k.ks
 | ok p=>
  obtain ⟨b,ρ1⟩:=p;rw [ef] at q;intro H1 fps1 k1 g1 rep1;dsimp only at q;cases b with
  | true=>
   rw [if_pos rfl] at q ⊢;exact ⟨ρ1,fps1,rep1,RsOk.from k1.ks q⟩
  | false=>
   rw [if_neg Cy] at q ⊢;exact ⟨ρ1,fps1,rep1,RsOk.from k1.ks q⟩
def cool (vs:List Nat):Nat->Ae->Ae
 | _,[]=>[]
 | k,s::r=>(if vs.contains k then s.map λ p=>(p.1,0) else s)::cool vs (k + 1) r
def Bj (d:Nat) (vs:List Nat) (ρ:Ae):Ae:=if d=om then ρ else cool vs 0 ρ
theorem JS (vs:List Nat):∀ (ρ:Ae) (k i:Nat),(cool vs k ρ)[i]?=(ρ[i]?).map λ s=>if vs.contains (k + i) then s.map λ p=>(p.1,0) else s
 | [],k,i=>by simp [cool]
 | s::r,k,0=>by simp [cool]
 | s::r,k,i + 1=>by
  rw [cool,IQ,JS vs r (k + 1) i,IQ]
  have:k + 1 + i=k + (i + 1):=by omega
  rw [this]
theorem Nj (vs:List Nat):∀ (ρ:Ae) (k:Nat),(cool vs k ρ).length=ρ.length
 | [],_=>rfl
 | s::r,k=>by rw [cool,Bh,Nj vs r (k + 1),Bh]
def DW (vs:List Nat) (fps:AU):AU:=λ i=>if vs.contains i then [] else fps i
def Gz {a:Addr}{i:Nat} (h:a∈DW vs fps i):a∈fps i/\i∉vs:=by
 unfold DW at h;split at h
 ·cases h
 ·rename_i n;exact ⟨h,λ z=>n (by simpa using z)⟩
def Ip {a:Addr} (h:Zf M (DW vs fps) a):Zv M vs fps a:=h.elim .inl λ ⟨i,z⟩=>.inr ⟨i,(Gz z).2,(Gz z).1⟩
def Rep.cool (r:Rep M ρ σ H fps) (hal:∀ i,M.al i=[]) (hv:∀ i∈vs,M.Ms i=false):Rep M (cool vs 0 ρ) σ H (DW vs fps) where
 own:=λ i x d e=>by
  rw [JS] at e;cases e1:ρ[i]? with
  | none=>rw [e1] at e;cases e
  | some s=>
   rw [e1] at e;simp only [Mv,KA] at e;by_cases hc:vs.contains i=true
   ·rw [if_pos hc] at e;cases s with
    | none=>cases e
    | some p=>
     obtain ⟨x0,d0⟩:=p;simp only [Mv,Option.some.injEq,Prod.mk.injEq] at e;obtain ⟨rfl,rfl⟩:=e;obtain ⟨v,hσ,o⟩:=r.own0 hal i x0 d0 e1;refine ⟨v,hσ,Own.weak (Z:=Zf M (DW vs fps)) (λ a h=>h.zf) ?_⟩
     have:DW vs fps i=[]:=by unfold DW;rw [if_pos hc]
     rw [this];exact Own.freeze (λ a h=>Zv.zf (Ip h)) x0 d0 v _ (λ a ha z=>by
      rcases z with z | ⟨j,z⟩
      ·exact r.zo i a ha z
      ·obtain ⟨z1,z2⟩:=Gz z;exact r.dj i j (λ e=>z2 (by rw [<- e];simpa using hc)) a ha z1) o
   ·rw [if_neg hc] at e;cases e;obtain ⟨v,hσ,o⟩:=r.own0 hal i x d e1;refine ⟨v,hσ,Own.weak (Z:=Zf M (DW vs fps)) (λ a h=>h.zf) ?_⟩
    have:DW vs fps i=fps i:=by unfold DW;rw [if_neg hc]
    rw [this];exact o.weak λ a h=>Zv.zf (Ip h)
 non:=λ i h=>by
  unfold DW;split
  ·rfl
  ·rename_i hc;refine r.non i λ p e=>h p ?_;rw [JS,e];simp only [Mv,KA];rw [if_neg hc]
 dj:=λ i j hij a ha hb=>r.dj i j hij a (Gz ha).1 (Gz hb).1
 zo:=λ i a ha=>r.zo i a (Gz ha).1
 fr:=λ i hi a ha=>r.fr i hi a (Gz ha).1
 zd:=r.zd
 len:=by rw [Nj];exact r.len
 msf:=λ i x d hi e=>by
  rw [JS] at e;cases e1:ρ[i]? with
  | none=>rw [e1] at e;cases e
  | some s=>
   rw [e1] at e;simp only [Mv,KA] at e;have hc:¬ vs.contains i=true:=λ z=>by rw [hv i (by simpa using z)] at hi;cases hi
   rw [if_neg hc] at e;cases e;exact r.msf i x d hi e1
 h0:=r.h0
 iov:=r.iov
def KS.cool (k:KS M H fps H' fps'):KS M H fps H' (DW vs fps'):=⟨k.keep,k.dom,λ i a h=>k.sub i a (Gz h).1⟩
def Rep.wide {fp:List Addr} (hal:∀ i,∀ j∈M.al i,M.Ms j=false) (r:Rep M ρ σ H fps) (k:KD M H fps H' fps') (g:Agr M ρ ρ') (r':Rep M ρ' σ H' fps') (hf:∀ a∈fp,H a=none/\H' a≠none/\¬ Zf M fps' a):Rep (M.plus fp) ρ' σ H' fps' where
 own:=λ i x d e=>by
  by_cases hm:M.Ms i=true
  ·obtain ⟨v,hv,o⟩:=r'.own i x d e;have hd:=r'.msf i x d hm e;subst hd;exact ⟨v,hv,Own.full x v _ o⟩
  ·have hm':M.Ms i=false:=by simpa using hm
   rw [g.1 i hm'] at e;obtain ⟨v,hv,o⟩:=r.own i x d e;refine ⟨v,hv,?_⟩;rw [k.same i hm'];refine Own.move k.keep (λ a ⟨j,hj,ha⟩=>⟨.inr ⟨j,λ z=>(by rw [hal i j z] at hj;cases hj),ha⟩,r.lsts ha⟩) ?_ x d v _ ?_ o
   ·intro a hd nz z;rcases z with (z | z) | ⟨j,nj,z⟩
    ·exact nz (.inl z)
    ·exact hd (hf a z).1
    ·rcases k.sub j a z with z | z
     ·exact nz (.inr ⟨j,nj,z⟩)
     ·exact hd z
   ·rintro a ha ⟨j,hj,hx⟩;exact r.dj i j (λ e=>by rw [e,hj] at hm';cases hm') a ha hx
 non:=r'.non
 dj:=r'.dj
 zo:=λ i a ha z=>z.elim (r'.zo i a ha) λ z=>(hf a z).2.2 (.inr ⟨i,ha⟩)
 fr:=r'.fr
 zd:=λ a z=>z.elim (r'.zd a) λ z=>(hf a z).2.1
 len:=r'.len
 msf:=r'.msf
 h0:=r'.h0
 iov:=r'.iov
def Rep.put {i:Nat}{x:PV}{d:Nat}{v:V}{fp:List Addr} (r:Rep (M.plus fp) ρ σ H fps) (h:Own M.K H (λ a=>Za M fps i a\/a∈fp) x d v fp) (hf:∀ a∈fp,M.H₀ a=none/\¬ M.Zo a) (hi:i < ρ.length) (hm:M.Ms i=true->d=om) (hio:M.Fre i):
  Rep M (ρ.set i (some (x,d))) (σ.set i (some v)) H (λ j=>if j=i then fp else fps j):=by
 have zz:∀ a,Zf M (λ j=>if j=i then fp else fps j) a->Zf M fps a\/a∈fp:=λ a h=>by
  rcases h with z | ⟨j,z⟩
  ·exact .inl (.inl z)
  ·by_cases e:j=i
   ·simp only [if_pos e] at z;exact .inr z
   ·simp only [if_neg e] at z;exact .inl (.inr ⟨j,z⟩)
 have zz2:∀ a,Zf M fps a\/a∈fp->Zf (M.plus fp) fps a:=λ a h=>h.elim (λ h=>h.elim (λ z=>.inl (.inl z)) λ z=>.inr z) λ z=>.inl (.inr z);refine ⟨λ j y e hj=>?_,λ j hj=>?_,λ j k hjk a ha hb=>?_,λ j a ha z=>?_,λ j hj a ha=>?_,λ a z=>r.zd a (.inl z),?_,λ j y e hj he=>?_,r.h0,?_⟩
 ·by_cases e:j=i
  ·subst e;rw [DT hi] at hj;cases hj;refine ⟨v,by rw [DT (by rw [<- r.len];exact hi)],?_⟩;rw [if_pos rfl];refine h.weak λ a h=>?_;rcases h with z | ⟨k,nk,z⟩
   ·exact .inl (.inl z)
   ·by_cases ek:k=j
    ·simp only [if_pos ek] at z;exact .inr z
    ·simp only [if_neg ek] at z;exact .inl (.inr ⟨k,nk,z⟩)
  ·rw [CK (BE e)] at hj;obtain ⟨w,hw,o⟩:=r.own j y _ hj;refine ⟨w,by rw [CK (BE e)];exact hw,?_⟩;rw [if_neg e];refine o.weak λ a h=>?_;rcases h with z | ⟨k,nk,z⟩
   ·exact .inl (.inl z)
   ·by_cases ek:k=i
    ·simp only [if_pos ek] at z;exact .inl (.inr z)
    ·simp only [if_neg ek] at z;exact .inr ⟨k,nk,z⟩
 ·by_cases e:j=i
  ·subst e;exact absurd (DT hi) (hj _)
  ·rw [if_neg e];exact r.non j λ p hp=>hj p (by rw [CK (BE e)];exact hp)
 ·by_cases e1:j=i
  ·by_cases e2:k=i
   ·exact hjk (e1.trans e2.symm)
   ·rw [if_pos e1] at ha;rw [if_neg e2] at hb;exact r.zo k a hb (.inr ha)
  ·rw [if_neg e1] at ha;by_cases e2:k=i
   ·rw [if_pos e2] at hb;exact r.zo j a ha (.inr hb)
   ·rw [if_neg e2] at hb;exact r.dj j k hjk a ha hb
 ·by_cases e:j=i
  ·rw [if_pos e] at ha;exact (hf a ha).2 z
  ·rw [if_neg e] at ha;exact r.zo j a ha (.inl z)
 ·by_cases e:j=i
  ·rw [if_pos e] at ha;exact (hf a ha).1
  ·rw [if_neg e] at ha;exact r.fr j hj a ha
 ·rw [DB,DB];exact r.len
 ·by_cases e:j=i
  ·subst e;rw [DT hi] at he;cases he;exact hm hj
  ·rw [CK (BE e)] at he;exact r.msf j y _ hj he
 ·refine ⟨λ w hw=>?_,λ p hp=>?_⟩
  ·have h0:i≠0:=hio.1 (by rw [hw];simp);rw [CK h0];exact r.iov.1 w hw
  ·rw [CK (hio.2 p hp).symm];exact r.iov.2 p hp
def Aj (ms:Bool) (i:Nat) (f:Fx) (vs:List Nat):Fs:=λ ρ=>match f ρ with
 | .ok (x,d,ρ1)=>if i < ρ1.length/\(ms=true->d=om) then .nx ((Bj d vs ρ1).set i (some (x,d))) else .no
 | .exc c=>.exc c
 | .no=>.no
def Rep.store {i:Nat}{x:PV}{d:Nat}{v:V}{fp:List Addr} (rep:Rep M ρ σ H fps) (k:KD M H fps H' fps') (g:Agr M ρ ρ') (r':Rep M ρ' σ H' fps') (o:Own M.K H' (Zt M vs fps' fp) x d v fp) (t:Temp M vs H H' fps' fp)
  (hal:∀ i,M.al i=[]) (hv:∀ i∈vs,M.Ms i=false) (hi:i < ρ'.length) (hm:M.Ms i=true->d=om) (hio:M.Fre i):
  ∃ fps2,KS M H fps H' fps2/\Rep M ((Bj d vs ρ').set i (some (x,d))) (σ.set i (some v)) H' fps2:=by
 have back:∀ a,H a=none->M.H₀ a=none:=λ a e=>by
  cases e':M.H₀ a with
  | none=>rfl
  | some o=>exact absurd e (rep.h0 a (by rw [e'];simp))
 have w:Rep (M.plus fp) ρ' σ H' fps':=rep.wide (λ i j hj=>by rw [hal i] at hj;cases hj) k g r' λ a ha=>⟨t.new a ha,by obtain ⟨xs,e⟩:=Own.lsts x d v fp o a ha;rw [e];simp,t.ndj a ha⟩
 have hf:∀ a∈fp,M.H₀ a=none/\¬ M.Zo a:=λ a ha=>⟨back a (t.new a ha),λ z=>t.ndj a ha (.inl z)⟩
 have ks2:∀ {fps2:AU},(∀ i a,a∈fps2 i->a∈fps' i)->KS M H fps H' (λ j=>if j=i then fp else fps2 j):=λ {fps2} h2=>⟨k.ks.keep,k.dom,λ j a ha=>by
  by_cases e:j=i
  ·simp only [if_pos e] at ha;exact .inr (t.new a ha)
  ·simp only [if_neg e] at ha;exact k.ks.sub j a (h2 j a ha)⟩
 unfold Bj;by_cases hd:d=om
 ·rw [if_pos hd];refine ⟨_,ks2 λ _ _ h=>h,w.put (i:=i) (x:=x) (d:=d) (v:=v) ?_ hf hi hm hio⟩;rw [hd] at o ⊢;exact Own.full x v fp o
 ·rw [if_neg hd];refine ⟨_,ks2 λ _ _ h=>(Gz h).1,(w.cool (vs:=vs) hal hv).put (i:=i) (x:=x) (d:=d) (v:=v) ?_ hf (by rw [Nj];exact hi) hm hio⟩;exact o.weak λ a h=>h.elim (λ h=>.inl (Ip h.zf)) .inr
theorem We {f:Fx}{i:Nat}{ms:Bool}{D:Ends} (hal:∀ i,M.al i=[]) (hv:∀ i∈vs,M.Ms i=false) (hms:M.Ms i=ms) (hio:M.Fre i) (hq:tS M (Aj ms i f vs) D σ H):EL (tE M f vs) (Fo i) D σ H:=by
 obtain ⟨ρ,fps,rep,q⟩:=hq;refine ⟨ρ,fps,rep,?_⟩;unfold Aj at q;cases ef:f ρ with
 | no=>rw [ef] at q;exact q
 | exc c=>rw [ef] at q;exact λ H' fps' k=>q _ H' fps' k.ks
 | ok p=>
  obtain ⟨x,d,ρ1⟩:=p;rw [ef] at q;intro v H1 fps1 f1 k1 g1 rep1 o1 t1;dsimp only at q;by_cases hc:i < ρ1.length/\(ms=true->d=om)
  ·rw [if_pos hc] at q;obtain ⟨fps2,k2,r2⟩:=Rep.store rep k1 g1 rep1 o1 t1 hal hv hc.1 (λ h=>hc.2 (by rw [<- hms];exact h)) hio;exact q _ _ _ k2 r2
  ·rw [if_neg hc] at q;exact q.elim
end
section
variable {M:Fm}{ρ ρ':Ae}{σ σ':St}{H H' H'':Hp}{fps fps' fps'':AU}{vs vs':List Nat}
def Zr.zf {a:Addr} (h:Zr M fps a):Zf M fps a:=h.elim .inl λ h=>.inr ⟨0,h.2⟩
def Rep.zr (r:Rep M ρ σ H fps) (hv:∀ i∈vs,M.Ms i=false) {a:Addr} (h:Zr M fps a):Zv M vs fps a:=by
 rcases h with h | ⟨h1,h2⟩
 ·exact .inl h
 ·refine .inr ⟨0,λ z=>?_,h2⟩;cases e:M.io with
  | none=>exact h1 e
  | some v=>have:=(r.iov.1 v e).2;rw [hv 0 z] at this;cases this
theorem Rep.h0' (r:Rep M ρ σ H fps) {a:Addr} (e:H a=none):M.H₀ a=none:=by
 cases e':M.H₀ a with
 | none=>rfl
 | some o=>exact absurd e (r.h0 a (by rw [e'];simp))
def A3 (f:Fx):Fs:=λ ρ=>match f ρ with
 | .ok (x,d,ρ1)=>.rt x d ρ1
 | .exc c=>.exc c
 | .no=>.no
theorem zx {f:Fx}{D:Ends} (hv:∀ i∈vs,M.Ms i=false) (hq:tS M (A3 f) D σ H):Jx (tE M f vs) D σ H:=by
 obtain ⟨ρ,fps,rep,q⟩:=hq;refine ⟨ρ,fps,rep,?_⟩;unfold A3 at q;cases ef:f ρ with
 | no=>rw [ef] at q;exact q
 | exc c=>rw [ef] at q;exact λ H' fps' k=>q _ H' fps' k.ks
 | ok p=>
  obtain ⟨x,d,ρ1⟩:=p;rw [ef] at q;intro v H1 fps1 f1 k1 g1 rep1 o1 t1;exact q v σ H1 fps1 f1 k1.ks rep1 (o1.weak λ a h=>h.elim (λ h=>.inl (rep1.zr hv h)) .inr) λ a ha=>⟨rep.h0' (t1.new a ha),λ z=>t1.ndj a ha z.zf⟩
def D8 (i:Nat):Fs:=λ ρ=>match ρ[i]? with
 | some (some (x,d))=>.rt x d ρ
 | _=>.no
theorem kK {i:Nat}{D:Ends} (hal:∀ i,M.al i=[]) (hm:M.Ms i=false) (hq:tS M (D8 i) D σ H):Jx (DF i) D σ H:=by
 obtain ⟨ρ,fps,rep,q⟩:=hq;unfold D8 at q;cases e0:ρ[i]? with
 | none=>rw [e0] at q;exact q.elim
 | some sl=>
  cases sl with
  | none=>rw [e0] at q;exact q.elim
  | some p=>
   obtain ⟨x,d⟩:=p;rw [e0] at q;obtain ⟨v,hv,o⟩:=rep.own0 hal i x d e0;refine ⟨v,hv,q v σ H fps (fps i) KS.refl rep (o.weak λ a h=>h.elim Zr.zf λ z=>.inr ⟨i,z⟩) λ a ha=>⟨rep.fr i hm a ha,λ z=>?_⟩⟩;rcases z with z | ⟨z1,z2⟩
   ·exact rep.zo i a ha z
   ·cases e:M.io with
    | none=>exact z1 e
    | some w=>exact rep.dj i 0 (λ e'=>by rw [e',(rep.iov.1 w e).2] at hm;cases hm) a ha z2
def D7 (f:Fx):Fs:=λ ρ=>match f ρ with
 | .ok (_,_,ρ1)=>.nx ρ1
 | .exc c=>.exc c
 | .no=>.no
theorem kG {f:Fx}{D:Ends} (hq:tS M (D7 f) D σ H):O7 (tE M f vs) D σ H:=by
 obtain ⟨ρ,fps,rep,q⟩:=hq;refine ⟨ρ,fps,rep,?_⟩;unfold D7 at q;cases ef:f ρ with
 | no=>rw [ef] at q;exact q
 | exc c=>rw [ef] at q;exact λ H' fps' k=>q _ H' fps' k.ks
 | ok p=>
  obtain ⟨x,d,ρ1⟩:=p;rw [ef] at q;intro v H1 fps1 f1 k1 g1 rep1 o1 t1;exact q σ H1 fps1 k1.ks rep1
theorem OwnL.snoc {K:Frag}{Z:Addr->Prop}{y:PV}{d:Nat}{w:V}{fy:List Addr}:∀ {xs:List PV}{ws:List V}{f:List Addr},OwnL K H Z xs d ws f->Own K H Z y d w fy->(∀ a∈f,a∉fy)->OwnL K H Z (xs++[y]) d (ws++[w]) (f++fy)
 | [],ws,f,h,hy,_=>by
  rw [OwnL] at h;obtain ⟨rfl,rfl⟩:=h;show OwnL K H Z [y] d [w] fy;rw [OwnL];refine ⟨w,[],fy,[],rfl,by simp,λ _ _ z=>(nomatch z),hy,?_⟩;rw [OwnL];exact ⟨rfl,rfl⟩
 | x::xs,ws,f,h,hy,hd=>by
  rw [OwnL] at h;obtain ⟨v,s,f1,f2,rfl,rfl,dj,h1,h2⟩:=h;show OwnL K H Z (x::(xs++[y])) d (v::(s++[w])) (f1++f2++fy);rw [OwnL];refine ⟨v,s++[w],f1,f2++fy,rfl,by rw [Mw],λ a ha hb=>?_,h1,h2.snoc hy λ a ha=>hd a (BV _ ha)⟩;rcases jd4.mp hb with z | z
  ·exact dj a ha z
  ·exact hd a (BU _ ha) z
def Own.at {K:Frag}{Z Z':Addr->Prop}{a:Addr}{o:HO}{x:PV}{d:Nat}{v:V}{fp:List Addr} (h:Own K H Z x d v fp) (hZ:Z a) (hl:∃ o:MO,H a=some o.ho) (hf:a∉fp) (hz:∀ b,H b≠none->¬ Z b->¬ Z' b):Own K (Ap H a o) Z' x d v fp:=
 Own.move (S:=λ b=>b=a) (λ b u hb n=>by rw [AE n];exact hb) (λ b e=>by rw [e];exact ⟨hZ,hl⟩) hz x d v fp (λ b hb e=>hf (by rw [<- e];exact hb)) h
def OwnL.at {K:Frag}{Z Z':Addr->Prop}{a:Addr}{o:HO}{x:List PV}{d:Nat}{v:List V}{fp:List Addr} (h:OwnL K H Z x d v fp) (hZ:Z a) (hl:∃ o:MO,H a=some o.ho) (hf:a∉fp) (hz:∀ b,H b≠none->¬ Z b->¬ Z' b):OwnL K (Ap H a o) Z' x d v fp:=
 OwnL.move (S:=λ b=>b=a) (λ b u hb n=>by rw [AE n];exact hb) (λ b e=>by rw [e];exact ⟨hZ,hl⟩) hz x d v fp (λ b hb e=>hf (by rw [<- e];exact hb)) h
def Rep.rewrite {i:Nat}{xs:List PV}{d:Nat}{a:Addr}{ws:List V}{zs:List PV}{us:List V}{e:Nat}{f f' fp:List Addr} (hal:∀ i,M.al i=[]) (r:Rep (M.plus fp) ρ σ H fps) (hi:ρ[i]?=some (some (.lst xs,d))) (hσ:σ[i]?=some (some (.ref a)))
  (ha:H a=some (.lst ws)) (hfp:fps i=a::f) (hn:a∉f') (hsub:∀ b∈f',b∈f\/b∈fp) (he:e≠0) (hm:M.Ms i=true->e=om) (hH:∀ b∈fp,M.H₀ b=none/\¬ M.Zo b)
  (hnew:OwnL M.K (Ap H a (.lst us)) (Zf M (λ j=>if j=i then a::f' else fps j)) zs (pd e) us f'):
  Rep M (ρ.set i (some (.lst zs,e))) σ (Ap H a (.lst us)) (λ j=>if j=i then a::f' else fps j):=by
 have hlen:i < ρ.length:=(jb0.mp hi).1;have hai:a∈fps i:=by rw [hfp];exact AH
 have zz:∀ b,Zf M (λ j=>if j=i then a::f' else fps j) b->Zf (M.plus fp) fps b:=λ b h=>by
  rcases h with z | ⟨j,z⟩
  ·exact .inl (.inl z)
  ·by_cases ej:j=i
   ·simp only [if_pos ej] at z;rcases jb5.mp z with z | z
    ·exact .inr ⟨i,by rw [z];exact hai⟩
    ·rcases hsub b z with z | z
     ·exact .inr ⟨i,by rw [hfp];exact AI _ z⟩
     ·exact .inl (.inr z)
   ·simp only [if_neg ej] at z;exact .inr ⟨j,z⟩
 have dm:∀ b,H b≠none->(Ap H a (.lst us)) b≠none:=λ b h=>by
  by_cases eb:b=a
  ·rw [eb,Bp];simp
  ·rw [AE eb];exact h
 have inI:∀ b,b∈a::f'->b∈fps i\/b∈fp:=λ b hb=>by
  rcases jb5.mp hb with z | z
  ·exact .inl (by rw [z];exact hai)
  ·rcases hsub b z with z | z
   ·exact .inl (by rw [hfp];exact AI _ z)
   ·exact .inr z
 refine ⟨λ j y c hj=>?_,λ j hj=>?_,λ j k hjk b hb hc=>?_,λ j b hb z=>?_,λ j hj b hb=>?_,λ b z=>dm b (r.zd b (.inl z)),by rw [DB];exact r.len,λ j y c hj hc=>?_,λ b z=>dm b (r.h0 b z),r.iov⟩
 ·by_cases ej:j=i
  ·subst ej;rw [DT hlen] at hj;cases hj;refine ⟨_,hσ,?_⟩;rw [if_pos rfl,Own];exact ⟨a,us,rfl,.inr ⟨he,f',Bp,rfl,hn,hnew.weak λ _ h=>h.zf⟩⟩
  ·rw [CK (BE ej)] at hj;obtain ⟨w,hw,ow⟩:=r.own0 hal j y c hj;refine ⟨w,hw,?_⟩;rw [if_neg ej];exact ow.at (.inr ⟨i,hai⟩) ⟨.l ws,ha⟩ (λ z=>r.dj j i ej a z hai) λ b _ nz z=>nz (zz b z.zf)
 ·by_cases ej:j=i
  ·subst ej;exact absurd (DT hlen) (hj _)
  ·rw [if_neg ej];exact r.non j λ p hp=>hj p (by rw [CK (BE ej)];exact hp)
 ·have one:∀ k,k≠i->∀ b,b∈a::f'->b∈fps k->False:=λ k hk b h1 h2=>(inI b h1).elim (λ z=>r.dj i k (BE hk) b z h2) λ z=>r.zo k b h2 (.inr z);by_cases e1:j=i
  ·by_cases e2:k=i
   ·exact hjk (e1.trans e2.symm)
   ·rw [if_pos e1] at hb;rw [if_neg e2] at hc;exact one k e2 b hb hc
  ·rw [if_neg e1] at hb;by_cases e2:k=i
   ·rw [if_pos e2] at hc;exact one j e1 b hc hb
   ·rw [if_neg e2] at hc;exact r.dj j k hjk b hb hc
 ·by_cases ej:j=i
  ·rw [if_pos ej] at hb;rcases inI b hb with y | y
   ·exact r.zo i b y (.inl z)
   ·exact (hH b y).2 z
  ·rw [if_neg ej] at hb;exact r.zo j b hb (.inl z)
 ·by_cases ej:j=i
  ·rw [if_pos ej] at hb;rcases inI b hb with y | y
   ·exact r.fr i (by rw [<- ej];exact hj) b y
   ·exact (hH b y).1
  ·rw [if_neg ej] at hb;exact r.fr j hj b hb
 ·by_cases ej:j=i
  ·subst ej;rw [DT hlen] at hc;cases hc;exact hm hj
  ·rw [CK (BE ej)] at hc;exact r.msf j y c hj hc
end
section
variable {M:Fm}{ρ ρ':Ae}{σ σ':St}{H H' H'':Hp}{fps fps' fps'':AU}{vs vs':List Nat}
def KS.write {a:Addr}{o:HO}{i:Nat}{f' fp:List Addr} (k:KS M H fps H' fps') (ha:∃ j,a∈fps j) (hs:∀ b∈a::f',b∈fps' i\/H b=none):
  KS M H fps (Ap H' a o) (λ j=>if j=i then a::f' else fps' j) where
 keep:=λ b u hb n=>by rw [AE (λ e=>n (by rw [e];exact ha))];exact k.keep b u hb n
 dom:=λ b hb=>by
  by_cases e:b=a
  ·rw [e,Bp];simp
  ·rw [AE e];exact k.dom b hb
 sub:=λ j b hb=>by
  by_cases e:j=i
  ·simp only [if_pos e] at hb;rcases hs b hb with z | z
   ·exact k.sub i b z
   ·exact .inr z
  ·simp only [if_neg e] at hb;exact k.sub j b hb
def Rep.behind {x:PV}{d:Nat}{v:V}{fp:List Addr} (rep:Rep M ρ σ H fps) (k:KD M H fps H' fps') (g:Agr M ρ ρ') (r':Rep M ρ' σ H' fps') (o:Own M.K H' (Zt M vs fps' fp) x d v fp) (t:Temp M vs H H' fps' fp)
  (hal:∀ i,M.al i=[]) (hv:∀ i∈vs,M.Ms i=false):∃ fps2,KS M H fps H' fps2/\Rep (M.plus fp) (Bj d vs ρ') σ H' fps2/\Own M.K H' (λ a=>Zf M fps2 a\/a∈fp) x d v fp/\(∀ a∈fp,¬ Zf M fps2 a)/\(∀ i a,a∈fps2 i->a∈fps' i)/\(∀ a∈fp,M.H₀ a=none/\¬ M.Zo a):=by
 have w:Rep (M.plus fp) ρ' σ H' fps':=rep.wide (λ i j hj=>by rw [hal i] at hj;cases hj) k g r' λ a ha=>⟨t.new a ha,by obtain ⟨xs,e⟩:=Own.lsts x d v fp o a ha;rw [e];simp,t.ndj a ha⟩
 have hf:∀ a∈fp,M.H₀ a=none/\¬ M.Zo a:=λ a ha=>⟨rep.h0' (t.new a ha),λ z=>t.ndj a ha (.inl z)⟩
 unfold Bj;by_cases hd:d=om
 ·rw [if_pos hd];refine ⟨fps',k.ks,w,?_,t.ndj,λ _ _ h=>h,hf⟩;rw [hd] at o ⊢;exact Own.full x v fp o
 ·rw [if_neg hd];exact ⟨DW vs fps',k.ks.cool,w.cool hal hv,o.weak λ a h=>h.elim (λ h=>.inl (Ip h)) .inr,λ a ha z=>t.ndj a ha (Ip z).zf,λ _ _ h=>(Gz h).1,hf⟩
def BZ (i:Nat) (f:Fx) (vs:List Nat):Fs:=λ ρ=>match ρ[i]? with
 | some (some (.lst _,0))=>.no
 | some (some (.lst _,_ + 1))=>(match f ρ with
  | .ok (y,e,ρ1)=>(match (Bj e vs ρ1)[i]? with
   | some (some (.lst xs,d))=>if d≠0/\xs.length < Aw then .nx ((Bj e vs ρ1).set i (some (.lst (xs++[y]),if d=om/\e=om then om else 1))) else .no
   | _=>.no)
  | .exc c=>.exc c
  | .no=>.no)
 | _=>.no
def Ls:pd 1=0:=by decide
def Own.list {K:Frag}{Z:Addr->Prop}{xs:List PV}{d:Nat}{v:V}{fp:List Addr} (h:Own K H Z (.lst xs) d v fp) (hd:d≠0):∃ a ws f,v=.ref a/\H a=some (.lst ws)/\fp=a::f/\a∉f/\OwnL K H Z xs (pd d) ws f:=by
 rw [Own] at h;obtain ⟨a,ws,e,⟨d0,_⟩ | ⟨_,f,h1,h2,h3,h4⟩⟩:=h
 ·exact absurd d0 hd
 ·exact ⟨a,ws,f,e,h1,h2,h3,h4⟩
def zl {f:Fx}{i:Nat}{D:Ends} (hal:∀ i,M.al i=[]) (hv:∀ i∈vs,M.Ms i=false) (hm:M.Ms i=false) (hq:tS M (BZ i f vs) D σ H):O7 (Rt M.K "list" WW (DF i) (OA (tE M f vs) HH)) D σ H:=by
 obtain ⟨ρ,fps,rep,q⟩:=hq;unfold BZ at q;split at q
 ·exact q.elim
 ·rename_i xs0 d0 e0;obtain ⟨v,hσ,o⟩:=rep.own0 hal i _ _ e0;obtain ⟨a,ws0,fc0,rfl,ha0,hfp0,_,_⟩:=o.list (YX _);refine ⟨_,hσ,Xj (.inl (.inl ha0)),ρ,fps,rep,?_⟩;cases ef:f ρ with
  | no=>rw [ef] at q;exact q
  | exc c=>rw [ef] at q;exact λ H' fps' k=>q _ H' fps' k.ks
  | ok p=>
   obtain ⟨y,e,ρ1⟩:=p;rw [ef] at q;intro w H1 fps1 fp k1 g1 rep1 o1 t1;dsimp only at q;split at q
   ·rename_i xs d es;split at q
    ·rename_i hc;obtain ⟨fps2,k2,r2,o2,n2,s2,h2⟩:=Rep.behind rep k1 g1 rep1 o1 t1 hal hv;obtain ⟨v',hσ',ol⟩:=r2.own0 hal i _ _ es;rw [hσ] at hσ';cases hσ';obtain ⟨a',ws,fc,ev,ha,hfp,nac,hol⟩:=ol.list hc.1;cases ev;have hai:a∈fps2 i:=by rw [hfp];exact AH
     have hafp:a∉fp:=λ z=>n2 a z (.inr ⟨i,hai⟩);have hst:∃ j,a∈fps j:=⟨i,by have:=s2 i a hai;rw [k1.same i hm] at this;exact this⟩
     refine ⟨a,ws,w,rfl,rfl,ha,by rw [hol.length];exact hc.2,?_⟩;by_cases ho:d=om/\e=om
     ·rw [if_pos ho] at q;obtain ⟨rfl,rfl⟩:=ho;refine q σ _ _ (k2.write (i:=i) (f':=fc++fp) (fp:=fp) hst λ b hb=>?_) (r2.rewrite hal es hσ ha hfp (λ z=>(jd4.mp z).elim nac hafp) (λ b hb=>jd4.mp hb) (by decide) (λ _=>rfl) h2 ?_)
      ·rcases jb5.mp hb with z | z
       ·exact .inl (by rw [z];exact hai)
       ·rcases jd4.mp z with z | z
        ·exact .inl (by rw [hfp];exact AI _ z)
        ·exact .inr (t1.new b z)
      ·have u1:OwnL M.K (Ap H1 a (.lst (ws++[w]))) (λ _=>True) xs om ws fc:=(OwnL.full (Z':=λ _=>True) xs ws fc hol).at trivial ⟨.l ws,ha⟩ nac λ _ _ n=>absurd trivial n;have u2:Own M.K (Ap H1 a (.lst (ws++[w]))) (λ _=>True) y om w fp:=(Own.full (Z':=λ _=>True) y w fp o2).at trivial ⟨.l ws,ha⟩ hafp λ _ _ n=>absurd trivial n;exact OwnL.full _ _ _ (u1.snoc u2 λ b hb z=>n2 b z (.inr ⟨i,by rw [hfp];exact AI _ hb⟩))
     ·rw [if_neg ho] at q;refine q σ _ _ (k2.write (i:=i) (f':=[]) (fp:=fp) hst λ b hb=>?_) (r2.rewrite hal es hσ ha hfp (λ z=>nomatch z) (λ b hb=>nomatch hb) (by decide) (λ h=>by rw [hm] at h;cases h) h2 ?_)
      ·rcases jb5.mp hb with z | z
       ·exact .inl (by rw [z];exact hai)
       ·cases z
      ·rw [Ls];have zsub:∀ b,Zf M (λ j=>if j=i then [a] else fps2 j) b->Zf (M.plus fp) fps2 b:=λ b h=>by
        rcases h with z | ⟨j,z⟩
        ·exact .inl (.inl z)
        ·by_cases ej:j=i
         ·simp only [if_pos ej] at z;rw [jb6.mp z];exact .inr ⟨i,hai⟩
         ·simp only [if_neg ej] at z;exact .inr ⟨j,z⟩
       have nf:∀ b∈fc,¬ Zf M (λ j=>if j=i then [a] else fps2 j) b:=λ b hb z=>by
        have hbi:b∈fps2 i:=by rw [hfp];exact AI _ hb
        rcases z with z | ⟨j,z⟩
        ·exact r2.zo i b hbi (.inl z)
        ·by_cases ej:j=i
         ·simp only [if_pos ej] at z;rw [jb6.mp z] at hb;exact nac hb
         ·simp only [if_neg ej] at z;exact r2.dj i j (BE ej) b hbi z
       have nfp:∀ b∈fp,¬ Zf M (λ j=>if j=i then [a] else fps2 j) b:=λ b hb z=>by
        rcases z with z | ⟨j,z⟩
        ·exact n2 b hb (.inl z)
        ·by_cases ej:j=i
         ·simp only [if_pos ej] at z;rw [jb6.mp z] at hb;exact hafp hb
         ·simp only [if_neg ej] at z;exact n2 b hb (.inr ⟨j,z⟩)
       have za:Zf M (λ j=>if j=i then [a] else fps2 j) a:=.inr ⟨i,by simp⟩;have u1:=(OwnL.freeze (Z':=Zf M (λ j=>if j=i then [a] else fps2 j)) zsub xs _ ws fc nf hol)
       have u2:=(Own.freeze (Z':=Zf M (λ j=>if j=i then [a] else fps2 j)) (λ b h=>by
        rcases h with z | ⟨j,z⟩
        ·exact .inl (.inl z)
        ·by_cases ej:j=i
         ·simp only [if_pos ej] at z;rw [jb6.mp z];exact .inl (.inr ⟨i,hai⟩)
         ·simp only [if_neg ej] at z;exact .inl (.inr ⟨j,z⟩)) y _ w fp nfp o2)
       exact (u1.at za ⟨.l ws,ha⟩ (λ z=>nomatch z) λ _ _ n=>n).snoc (u2.at za ⟨.l ws,ha⟩ (λ z=>nomatch z) λ _ _ n=>n) λ _ z=>nomatch z
    ·exact q.elim
   ·exact q.elim
 ·exact q.elim
def OD:PV->Bool
 | .lst _=>false
 | .tup _=>false
 | .dct _=>false
 | .dcl _ _=>false
 | _=>true
theorem OwnL.set {K:Frag}{Z:Addr->Prop}{y:PV}{d:Nat}{w:V} (hy:Own K H Z y d w []):∀ {xs:List PV}{ws:List V}{f:List Addr} (k:Nat),OwnL K H Z xs d ws f->∃ f',(∀ b∈f',b∈f)/\OwnL K H Z (xs.set k y) d (ws.set k w) f'
 | [],ws,f,k,h=>by
  rw [OwnL] at h;obtain ⟨rfl,rfl⟩:=h;refine ⟨[],λ _ z=>z,?_⟩;rw [YF,YF,OwnL];exact ⟨rfl,rfl⟩
 | x::xs,ws,f,0,h=>by
  rw [OwnL] at h;obtain ⟨v,s,f1,f2,rfl,rfl,dj,h1,h2⟩:=h;refine ⟨f2,λ b hb=>BV _ hb,?_⟩;rw [Zg,Zg,OwnL];exact ⟨w,s,[],f2,rfl,rfl,λ _ z=>(nomatch z),hy,h2⟩
 | x::xs,ws,f,k + 1,h=>by
  rw [OwnL] at h;obtain ⟨v,s,f1,f2,rfl,rfl,dj,h1,h2⟩:=h;obtain ⟨f',hs,h'⟩:=h2.set hy k;refine ⟨f1++f',λ b hb=>(jd4.mp hb).elim (λ z=>BU _ z) λ z=>BV _ (hs b z),?_⟩;rw [Tx,Tx,OwnL];exact ⟨v,s.set k w,f1,f',rfl,rfl,λ b hb hc=>dj b hb (hs b hc),h1,h'⟩
theorem Own.atom {K:Frag}{Z Z':Addr->Prop}{y:PV}{d d':Nat}{w:V}{fp:List Addr} (hy:OD y=true) (h:Own K H Z y d w fp):fp=[]/\Own K H Z' y d' w []:=by
 cases y with
 | lst _=>cases hy
 | tup _=>cases hy
 | dct _=>cases hy
 | dcl _ _=>cases hy
 | exn _=>rw [Own] at h ⊢;exact ⟨h.1,rfl,h.2⟩
 | emp=>rw [Own] at h ⊢;exact ⟨h.1,rfl,h.2⟩
 | dko=>rw [Own] at h ⊢;exact ⟨h.1,rfl,h.2⟩
 | scr _=>rw [Own] at h ⊢;exact ⟨h.1,rfl,h.2⟩
 | non=>rw [Own] at h ⊢;exact ⟨h.2,h.1,rfl⟩
 | bl _=>rw [Own] at h ⊢;exact ⟨h.2,h.1,rfl⟩
 | int _=>rw [Own] at h ⊢;exact ⟨h.2,h.1,rfl⟩
 | str _=>rw [Own] at h ⊢;exact ⟨h.2,h.1,rfl⟩
end
section
variable {is:List Nat}{M:Fm}{ρ ρ':Ae}{σ σ':St}{H H' H'':Hp}{fps fps' fps'':AU}{vs vs':List Nat}
def Rep.plus0 (hal:∀ i,∀ j∈M.al i,M.Ms j=false) (r:Rep M ρ σ H fps):Rep (M.plus []) ρ σ H fps:=r.wide hal KD.refl Agr.refl r (λ _ z=>nomatch z)
def Dd (M:Fm) (al is:List Nat) (g:TG) (asg:PV->Ae->Option Ae):Prop:=∀ y v ρ σ H fps ρ' (Q:St->Hp->Prop),Rep M ρ σ H fps->Own M.K H (Zv M al fps) y 0 v []->asg y ρ=some ρ'->(∀ σ' fps',(∀ i,∀ a∈fps' i,a∈fps i)->(∀ i,i∉is->ρ'[i]?=ρ[i]?/\fps' i=fps i/\σ'[i]?=σ[i]?)->ρ'.length=ρ.length->Rep M ρ' σ' H fps'->Q σ' H)->g v σ H Q
def asgN (i:Nat):PV->Ae->Option Ae:=λ y ρ=>if i < ρ.length then some (ρ.set i (some (y,dv y))) else none
def Own.dv {K:Frag}{Z:Addr->Prop}{x:PV}{v:V} (h:Own K H Z x 0 v []):Own K H Z x (dv x) v []:=Own.view (fp:=[]) (λ _ z=>z) (λ _ z=>nomatch z) h
structure Bd (M:Fm) (al:List Nat) (i:Nat):Prop where
 ms:M.Ms i=false
 io:M.Fre i
 al:M.al i=al
 als:∀ i,∀ j∈M.al i,M.Ms j=false
def Rep.bind1 {al:List Nat}{i:Nat}{y:PV}{v:V} (r:Rep M ρ σ H fps) (o:Own M.K H (Zv M al fps) y 0 v []) (hi:i < ρ.length) (b:Bd M al i):
  Rep M (ρ.set i (some (y,dv y))) (σ.set i (some v)) H (λ j=>if j=i then [] else fps j):=by
 refine (r.plus0 b.als).put (o.dv.weak λ a h=>h.elim (λ h=>?_) λ z=>nomatch z) (λ _ z=>nomatch z) hi (λ h=>by rw [b.ms] at h;cases h) b.io;rcases h with h | ⟨j,nj,h⟩
 ·exact .inl h
 ·exact .inr ⟨j,by rw [b.al] at nj;exact nj,h⟩
def Si {al:List Nat}{i:Nat} (b:Bd M al i):Dd M al [i] (Fo i) (asgN i):=by
 intro y v ρ σ H fps ρ' Q r o e q;unfold asgN at e;split at e
 ·rename_i hi;cases e;refine q _ _ (λ j a ha=>?_) (λ j nj=>?_) (by rw [DB]) (r.bind1 o hi b)
  ·by_cases e:j=i
   ·simp only [if_pos e] at ha;cases ha
   ·simp only [if_neg e] at ha;exact ha
  ·have e:j≠i:=λ e=>nj (by simp [e]);exact ⟨CK (BE e),if_neg e,CK (BE e)⟩
 ·cases e
def Kd:List Nat->IT
 | []=>M1
 | i::is=>Vj (Fo i) (Kd is)
def By:List Nat->List PV->Ae->Option Ae
 | [],[],ρ=>some ρ
 | i::is,y::ys,ρ=>(asgN i y ρ).bind (By is ys)
 | _,_,_=>none
def asgT (is:List Nat):PV->Ae->Option Ae:=λ y ρ=>match y with
 | .tup ys=>By is ys ρ
 | _=>none
theorem MY {al:List Nat}:∀ (is:List Nat) (ys:List PV) (ws:List V) (ρ:Ae) (σ:St) (H:Hp) (fps:AU) (ρ':Ae) (Q:St->Hp->Prop),(∀ i∈is,Bd M al i)->Rep M ρ σ H fps->OwnL M.K H (Zv M al fps) ys 0 ws []->By is ys ρ=some ρ' ->
  (∀ σ' fps',(∀ i,∀ a∈fps' i,a∈fps i)->(∀ i,i∉is->ρ'[i]?=ρ[i]?/\fps' i=fps i/\σ'[i]?=σ[i]?)->ρ'.length=ρ.length->Rep M ρ' σ' H fps'->Q σ' H)->ws.length=is.length/\Kd is ws σ H Q
 | [],[],ws,ρ,σ,H,fps,ρ',Q,_,r,o,e,q=>by
  rw [OwnL] at o;obtain ⟨rfl,_⟩:=o;cases e;exact ⟨rfl,rfl,q σ fps (λ _ _ h=>h) (λ _ _=>⟨rfl,rfl,rfl⟩) rfl r⟩
 | [],_::_,_,_,_,_,_,_,_,_,_,_,e,_=>by cases e
 | _::_,[],_,_,_,_,_,_,_,_,_,_,e,_=>by cases e
 | i::is,y::ys,ws,ρ,σ,H,fps,ρ',Q,hs,r,o,e,q=>by
  rw [OwnL] at o;obtain ⟨v,s,f1,f2,rfl,ef,_,o1,o2⟩:=o;obtain ⟨rfl,rfl⟩:f1=[]/\f2=[]:=by simpa using ef.symm
  unfold By at e;cases e1:asgN i y ρ with
  | none=>rw [e1] at e;cases e
  | some ρ1=>
   rw [e1] at e;unfold asgN at e1;split at e1
   ·rename_i hi;cases e1;have bi:=hs i AH;have r':=r.bind1 o1 hi bi;have sub:∀ j a,a∈(λ j=>if j=i then [] else fps j) j->a∈fps j:=λ j a z=>by
     by_cases ej:j=i
     ·simp only [if_pos ej] at z;cases z
     ·simp only [if_neg ej] at z;exact z
    have o2':OwnL M.K H (Zv M al (λ j=>if j=i then [] else fps j)) ys 0 s []:=o2.weak λ a h=>h.elim .inl λ ⟨j,nj,z⟩=>.inr ⟨j,nj,sub j a z⟩;obtain ⟨hl,hg⟩:=MY is ys s _ _ H _ ρ' Q (λ j hj=>hs j (AI _ hj)) r' o2' e λ σ' fps' k' a' l' r''=>q σ' fps' (λ j a ha=>sub j a (k' j a ha)) (λ j hj=>by
     have ej:j≠i:=λ e=>hj (by rw [e];exact AH);obtain ⟨z1,z2,z3⟩:=a' j λ z=>hj (AI _ z);rw [if_neg ej] at z2;exact ⟨z1.trans (CK (BE ej)),z2,z3.trans (CK (BE ej))⟩) (l'.trans (by rw [DB])) r''
    exact ⟨by rw [Bh,Bh,hl],v,s,rfl,hg⟩
   ·cases e1
def RN {al:List Nat}{is:List Nat} (hs:∀ i∈is,Bd M al i):Dd M al is (JH M.K is.length (Kd is)) (asgT is):=by
 intro y v ρ σ H fps ρ' Q r o e q;unfold asgT at e;split at e
 ·rename_i ys;rw [Own] at o;obtain ⟨a,ws,rfl,hr,ol⟩:=o;obtain ⟨hl,hg⟩:=MY is ys ws ρ σ H fps ρ' Q hs r ol e q;exact ⟨a,ws,rfl,.inl (.inl hr),hl,hg⟩
 ·cases e
def BO (asg:PV->Ae->Option Ae) (body:Fs):List PV->Ae->Rs
 | [],ρ=>.nx ρ
 | x::xs,ρ=>match asg x ρ with
  | none=>.no
  | some ρ1=>match body ρ1 with
   | .nx ρ2=>BO asg body xs ρ2
   | .ct ρ2=>BO asg body xs ρ2
   | .bk ρ2=>.nx ρ2
   | .rt x d ρ2=>.rt x d ρ2
   | .exc c=>.exc c
   | .no=>.no
def GD {g:TG}{asg:PV->Ae->Option Ae}{body:Fs}{D:Ends}{J:It}{els:List PV}{Pq:Hp->AU->Prop} (hg:Dd M [] is g asg)
  (hP:∀ {ρ σ H fps H' fps'},Rep M ρ σ H fps->KS M H fps H' fps'->Pq H fps->Pq H' fps') (hgo:∀ {H fps i},Pq H fps->i < els.length->J.go i H) (hst:∀ {H fps i},Pq H fps->els.length<=i->J.stop i H)
  (hy:∀ {ρ σ H fps i x H'},Rep M ρ σ H fps->Pq H fps->i < els.length->J.yld i H x H'->(∀ a o,H a=some o->H' a=some o)/\∃ y,els[i]?=some y/\Own M.K H' (Zf M fps) y 0 x [])
  (rep:Rep M ρ σ H fps) (p:Pq H fps) (q:RsOk M D H fps (BO asg body els ρ)):
  ∃ W:Nat->Nat->St->Hp->Prop,(∃ m,W 0 m σ H)/\∀ i m σ H,W i m σ H ->
   (J.stop i H/\D.nx σ H)\/(J.go i H/\∃ N:St->Hp->Prop,(∀ σ' H',N σ' H'->∃ m',m' < m/\W (i + 1) m' σ' H')/\∀ x H',J.yld i H x H'->g x σ H' λ σ2 H2=>(tS M body) { D with nx:=N,ct:=N,bk:=D.nx } σ2 H2):=by
 let W:Nat->Nat->St->Hp->Prop:=λ i m σ H=>m=els.length - i/\∃ ρ fps,Rep M ρ σ H fps/\Pq H fps/\RsOk M D H fps (BO asg body (els.drop i) ρ);refine ⟨W,⟨els.length,by simp,ρ,fps,rep,p,by simpa using q⟩,?_⟩;rintro i m σ H ⟨rfl,ρ,fps,r,p,q⟩;by_cases hi:i < els.length
 ·right
  refine ⟨hgo p hi,W (i + 1) (els.length - (i + 1)),λ σ' H' w=>⟨_,by omega,w⟩,λ x H' y=>?_⟩;obtain ⟨kx,z,ez,oz⟩:=hy r p hi y;have k0:KS M H fps H' fps:=(KD.grow kx).ks;have p:=hP r k0 p;have r:=r.grow kx;have q:=RsOk.from k0 q;have ed:els.drop i=z::els.drop (i + 1):=by
   obtain ⟨h1,h2⟩:=jb0.mp ez;rw [<- h2];exact T8 h1
  rw [ed] at q;unfold BO at q;cases ea:asg z ρ with
  | none=>rw [ea] at q;exact q.elim
  | some ρ1=>
   rw [ea] at q;dsimp only at q;refine hg z x ρ σ _ fps ρ1 _ r (oz.weak λ a h=>h.zf) ea λ σ1 fps1 s1 _ _ r1=>⟨ρ1,fps1,r1,?_⟩
   have k1:KS M H' fps H' fps1:=⟨λ _ _ h _=>h,λ _ h=>h,λ j a ha=>.inl ⟨j,s1 j a ha⟩⟩
   have p1:=hP r k1 p;cases eb:body ρ1 with
   | no=>rw [eb] at q;exact q
   | exc c=>rw [eb] at q;exact RsOk.from (r:=.exc c) k1 q
   | rt x d ρ2=>rw [eb] at q;exact RsOk.from (r:=.rt x d ρ2) k1 q
   | bk ρ2=>rw [eb] at q;exact λ σ' H' fps' k=>q σ' H' fps' (k1.trans k)
   | nx ρ2=>rw [eb] at q;exact λ σ' H' fps' k r'=>⟨rfl,ρ2,fps',r',hP r1 k p1,RsOk.from (k1.trans k) q⟩
   | ct ρ2=>rw [eb] at q;exact λ σ' H' fps' k r'=>⟨rfl,ρ2,fps',r',hP r1 k p1,RsOk.from (k1.trans k) q⟩
 ·left
  have ed:els.drop i=[]:=My (by omega);rw [ed] at q;exact ⟨hst p (by omega),q σ H fps KS.refl r⟩
def FL (lo:Int) (n:Nat):List PV:=(A6 n).map λ (i:Nat)=>PV.int (lo + (i:Int))
def JQ (lo:Int) (n:Nat):(FL lo n).length=n:=by simp [FL]
def Bn:List (PV×Nat)->Option (Int×Int)
 | [(.int j,_)]=>if -(2 ^ 62)<=j/\j < 2 ^ 62 then some (0,j) else none
 | _=>none
def FG:List (PV×Nat)->Option (Int×Int)
 | [(.int i,_),(.int j,_)]=>if -(2 ^ 62)<=i/\i < 2 ^ 62/\-(2 ^ 62)<=j/\j < 2 ^ 62 then some (i,j) else none
 | _=>none
def Dq (en:List (PV×Nat)->Option (Int×Int)) (fa:Fa) (asg:PV->Ae->Option Ae) (body:Fs):Fs:=λ ρ=>match fa ρ with
 | .ok (xs,ρ1)=>(match en xs with
  | some (i,j)=>BO asg body (FL i (j - i).toNat) ρ1
  | none=>.no)
 | .exc c=>.exc c
 | .no=>.no
def Uz {g:TG}{asg:PV->Ae->Option Ae}{body:Fs}{D:Ends}{lo:Int}{n:Nat} (hg:Dd M [] is g asg) (rep:Rep M ρ σ H fps) (q:RsOk M D H fps (BO asg body (FL lo n) ρ)):
  ∃ W:Nat->Nat->St->Hp->Prop,(∃ m,W 0 m σ H)/\∀ i m σ H,W i m σ H ->
   ((GV lo n).stop i H/\D.nx σ H)\/((GV lo n).go i H/\∃ N:St->Hp->Prop,(∀ σ' H',N σ' H'->∃ m',m' < m/\W (i + 1) m' σ' H')/\∀ x H',(GV lo n).yld i H x H'->g x σ H' λ σ2 H2=>(tS M body) { D with nx:=N,ct:=N,bk:=D.nx } σ2 H2):=by
 refine GD (Pq:=λ _ _=>True) hg (λ _ _ _=>trivial) (λ {H fps i} _ h=>?_) (λ {H fps i} _ h=>?_) (λ {ρ σ H fps i x H'} _ _ h y=>?_) rep trivial q
 ·rw [JQ] at h;exact h
 ·rw [JQ] at h;exact h
 ·rw [JQ] at h;obtain ⟨e1,e2⟩:=y;subst e1;exact ⟨λ _ _ h=>h,.int (lo + i),by simp [FL,h],by rw [e2,Own];exact ⟨rfl,rfl⟩⟩
theorem Xp {g:TG}{asg:PV->Ae->Option Ae}{body:Fs}{fa:Fa}{D:Ends} (hg:Dd M [] is g asg) (hq:tS M (Dq Bn fa asg body) D σ H):Dx (O3 (tL M fa vs)) g (tS M body) D σ H:=by
 obtain ⟨ρ,fps,rep,q⟩:=hq;refine ⟨ρ,fps,rep,?_⟩;unfold Dq at q;cases ef:fa ρ with
 | no=>rw [ef] at q;exact q
 | exc c=>rw [ef] at q;exact λ H' fps' k=>q _ H' fps' k.ks
 | ok p=>
  obtain ⟨xs,ρ1⟩:=p;rw [ef] at q;intro ws H1 fps1 f1 k1 g1 rep1 o1 t1;dsimp only at q;cases ee:Bn xs with
  | none=>rw [ee] at q;exact q.elim
  | some ij=>
   obtain ⟨i,j⟩:=ij;rw [ee] at q;unfold Bn at ee;split at ee
   ·rename_i j' d;split at ee
    ·rename_i hb;cases ee;obtain ⟨v,r,f1,f2,rfl,_,_,h1,h2⟩:=o1;obtain ⟨rfl,_⟩:=h2;rw [Own] at h1;obtain ⟨rfl,_⟩:=h1;refine ⟨j,rfl,hb.1,hb.2,?_⟩;have e:(j - 0).toNat=j.toNat:=by omega
     dsimp only at q;rw [e] at q;exact Uz hg rep1 (RsOk.from k1.ks q)
    ·cases ee
   ·cases ee
theorem Xq {g:TG}{asg:PV->Ae->Option Ae}{body:Fs}{fa:Fa}{D:Ends} (hg:Dd M [] is g asg) (hq:tS M (Dq FG fa asg body) D σ H):Dx (O4 (tL M fa vs)) g (tS M body) D σ H:=by
 obtain ⟨ρ,fps,rep,q⟩:=hq;refine ⟨ρ,fps,rep,?_⟩;unfold Dq at q;cases ef:fa ρ with
 | no=>rw [ef] at q;exact q
 | exc c=>rw [ef] at q;exact λ H' fps' k=>q _ H' fps' k.ks
 | ok p=>
  obtain ⟨xs,ρ1⟩:=p;rw [ef] at q;intro ws H1 fps1 f1 k1 g1 rep1 o1 t1;dsimp only at q;cases ee:FG xs with
  | none=>rw [ee] at q;exact q.elim
  | some ij=>
   obtain ⟨i,j⟩:=ij;rw [ee] at q;unfold FG at ee;split at ee
   ·rename_i i' d j' d';split at ee
    ·rename_i hb;cases ee;obtain ⟨v,r,f1,f2,rfl,_,_,h1,h2⟩:=o1;obtain ⟨v2,r2,f3,f4,rfl,_,_,h3,h4⟩:=h2;obtain ⟨rfl,_⟩:=h4;rw [Own] at h1 h3;obtain ⟨rfl,_⟩:=h1;obtain ⟨rfl,_⟩:=h3;exact ⟨i,j,rfl,hb,Uz hg rep1 (RsOk.from k1.ks q)⟩
    ·cases ee
   ·cases ee
def FN (z:Str):List PV:=z.cps.toList.map λ c=>.str ⟨#[c]⟩
def FH (f:Fx) (vs:List Nat) (asg:PV->Ae->Option Ae) (body:Fs):Fs:=λ ρ=>match f ρ with
 | .ok (.str z,d,ρ1)=>if OC z=true then BO asg body (FN z) (Bj d vs ρ1) else .no
 | .ok (.lst xs,d,ρ1)=>BO asg body xs (Bj d vs ρ1)
 | .ok (.tup xs,d,ρ1)=>BO asg body xs (Bj d vs ρ1)
 | .ok _=>.no
 | .exc c=>.exc c
 | .no=>.no
theorem OwnL.get {K:Frag}{Z:Addr->Prop}:∀ {xs:List PV}{ws:List V}{i:Nat}{w:V},OwnL K H Z xs 0 ws []->ws[i]?=some w->∃ x,xs[i]?=some x/\Own K H Z x 0 w []
 | [],ws,i,w,h,e=>by
  rw [OwnL] at h;obtain ⟨rfl,_⟩:=h;simp at e
 | x::xs,ws,i,w,h,e=>by
  rw [OwnL] at h;obtain ⟨v,s,f1,f2,rfl,ef,_,o1,o2⟩:=h;obtain ⟨rfl,rfl⟩:f1=[]/\f2=[]:=by simpa using ef.symm
  cases i with
  | zero=>simp at e;subst e;exact ⟨x,by simp,o1⟩
  | succ i=>obtain ⟨y,e1,e2⟩:=o2.get (i:=i) (w:=w) (by simpa using e);exact ⟨y,by simpa using e1,e2⟩
def Rep.seen {x:PV}{d:Nat}{v:V}{fp:List Addr} (rep:Rep M ρ σ H fps) (k:KD M H fps H' fps') (g:Agr M ρ ρ') (r':Rep M ρ' σ H' fps') (o:Own M.K H' (Zt M vs fps' fp) x d v fp) (t:Temp M vs H H' fps' fp)
  (hal:∀ i,M.al i=[]) (hv:∀ i∈vs,M.Ms i=false):∃ fps2,KS M H fps H' fps2/\Rep M (Bj d vs ρ') σ H' fps2/\Own M.K H' (Zf M fps2) x 0 v []:=by
 unfold Bj;by_cases hd:d=om
 ·rw [if_pos hd];rw [hd] at o;exact ⟨fps',k.ks,r',Own.freeze (λ _ z=>z) x om v fp (λ a ha=>t.ndj a ha) (Own.full x v fp o)⟩
 ·rw [if_neg hd];exact ⟨DW vs fps',k.ks.cool,r'.cool hal hv,Own.freeze (λ a h=>.inl (Ip h)) x d v fp (λ a ha z=>t.ndj a ha (Ip z).zf) o⟩
theorem SU {g:TG}{asg:PV->Ae->Option Ae}{body:Fs}{f:Fx}{D:Ends} (hal:∀ i,M.al i=[]) (hv:∀ i∈vs,M.Ms i=false) (hg:Dd M [] is g asg) (hq:tS M (FH f vs asg body) D σ H):Dx (EX M.K (tE M f vs)) g (tS M body) D σ H:=by
 obtain ⟨ρ,fps,rep,q⟩:=hq;refine ⟨ρ,fps,rep,?_⟩;unfold FH at q;cases ef:f ρ with
 | no=>rw [ef] at q;exact q
 | exc c=>rw [ef] at q;exact λ H' fps' k=>q _ H' fps' k.ks
 | ok p=>
  obtain ⟨x,d,ρ1⟩:=p;rw [ef] at q;intro v H1 fps1 f1 k1 g1 rep1 o1 t1;obtain ⟨fps2,k2,r2,o2⟩:=Rep.seen rep k1 g1 rep1 o1 t1 hal hv;cases x with
  | lst xs=>
   have o2':=o2;rw [Own] at o2';obtain ⟨a,ws,rfl,⟨_,hr,_,ol⟩ | ⟨h,_⟩⟩:=o2'
   ·have sq:Bi M.K H1 a ws:=.inl (.inl hr.1);refine .inl ⟨a,rfl,.inl ⟨⟨ws,sq⟩,?_⟩⟩;have one:∀ {H:Hp}{fps:AU},Own M.K H (Zf M fps) (.lst xs) 0 (.ref a) []->∃ ws,Bi M.K H a ws/\OwnL M.K H (Zf M fps) xs 0 ws []:=λ o=>by
     rw [Own] at o;obtain ⟨b,ws,e,⟨_,hr,_,ol⟩ | ⟨h,_⟩⟩:=o
     ·cases e;exact ⟨ws,.inl (.inl hr.1),ol⟩
     ·exact absurd rfl h
    refine GD (Pq:=λ H fps=>Own M.K H (Zf M fps) (.lst xs) 0 (.ref a) []) (els:=xs) hg (λ r k o=>k.stay0 r o) (λ {H fps i} o h=>?_) (λ {H fps i} o h=>?_) (λ {ρ σ H fps i x H'} _ o h y=>?_) r2 o2 (RsOk.from k2 q)
    ·obtain ⟨ws,s,ol⟩:=one o;exact ⟨ws,ws[i]'(by rw [ol.length];exact h),s,by simp⟩
    ·obtain ⟨ws,s,ol⟩:=one o;exact ⟨ws,s,by rw [ol.length];exact h⟩
    ·obtain ⟨ws,s,ol⟩:=one o;obtain ⟨e1,e2⟩:=y;subst e1;exact ⟨λ _ _ h=>h,ol.get (e2 ws s)⟩
   ·exact absurd rfl h
  | tup xs=>
   have o2':=o2;rw [Own] at o2';obtain ⟨a,ws,rfl,hr,ol⟩:=o2';refine .inl ⟨a,rfl,.inr ⟨⟨ws,.inl (.inl hr)⟩,?_⟩⟩;have one:∀ {H:Hp}{fps:AU},Own M.K H (Zf M fps) (.tup xs) 0 (.ref a) []->∃ ws,SqT M.K H a ws/\OwnL M.K H (Zf M fps) xs 0 ws []:=λ o=>by
    rw [Own] at o;obtain ⟨b,ws,e,hr,ol⟩:=o;cases e;exact ⟨ws,.inl (.inl hr),ol⟩
   refine GD (Pq:=λ H fps=>Own M.K H (Zf M fps) (.tup xs) 0 (.ref a) []) (els:=xs) hg (λ r k o=>k.stay0 r o) (λ {H fps i} o h=>?_) (λ {H fps i} o h=>?_) (λ {ρ σ H fps i x H'} _ o h y=>?_) r2 o2 (RsOk.from k2 q)
   ·obtain ⟨ws,s,ol⟩:=one o;exact ⟨ws,ws[i]'(by rw [ol.length];exact h),s,by simp⟩
   ·obtain ⟨ws,s,ol⟩:=one o;exact ⟨ws,s,by rw [ol.length];exact h⟩
   ·obtain ⟨ws,s,ol⟩:=one o;obtain ⟨e1,e2⟩:=y;subst e1;exact ⟨λ _ _ h=>h,ol.get (e2 ws s)⟩
  | str z=>
   have o2':=o2;rw [Own] at o2';obtain ⟨rfl,_⟩:=o2';dsimp only at q;split at q
   ·rename_i ha;refine .inr ⟨z,rfl,ha,?_⟩;have hl:(FN z).length=z.cps.size:=by unfold FN;rw [A8,IP]
    refine GD (Pq:=λ _ _=>True) (els:=FN z) hg (λ _ _ _=>trivial) (λ {H fps i} _ h=>?_) (λ {H fps i} _ h=>?_) (λ {ρ σ H fps i x H'} _ _ h y=>?_) r2 trivial (RsOk.from k2 q)
    ·show i < z.cps.size;omega
    ·show z.cps.size<=i;omega
    ·obtain ⟨rfl,c,hc,rfl⟩:=y;refine ⟨λ _ _ h=>h,.str ⟨#[c]⟩,?_,by rw [Own];exact ⟨rfl,rfl⟩⟩;unfold FN;rw [C5,Po,hc];rfl
   ·exact q.elim
  | _=>exact q.elim
end
section
variable {M:Fm}{ρ ρ':Ae}{σ σ':St}{H H' H'':Hp}{fps fps' fps'':AU}{vs vs':List Nat}
def Fm.comp (M:Fm) (D:Addr) (n:Nat) (vI:List Nat):Fm:={ M.plus [D] with W:=λ _ _ _=>False,al:=λ j=>if j < n then M.al j else vI }
def Rep.minus {fp:List Addr} (r:Rep (M.plus fp) ρ σ H fps):Rep M ρ σ H fps where
 own:=λ i x d e=>let ⟨v,h1,h2⟩:=r.own i x d e;⟨v,h1,h2.weak λ a h=>h.elim (λ h=>.inl (.inl h)) .inr⟩
 non:=r.non
 dj:=r.dj
 zo:=λ i a ha z=>r.zo i a ha (.inl z)
 fr:=r.fr
 zd:=λ a z=>r.zd a (.inl z)
 len:=r.len
 msf:=r.msf
 h0:=r.h0
 iov:=r.iov
def Rep.far (r:Rep M ρ σ H fps) {j:Nat} (h:ρ.length<=j):fps j=[]:=r.non j λ p e=>by
 rw [jj3.mpr h] at e;cases e
def Rep.ext {D:Addr}{k:Nat}{vI:List Nat} (r:Rep (M.plus [D]) ρ σ H fps):Rep (M.comp D ρ.length vI) (ρ++AL k none) (σ++AL k none) H fps where
 own:=λ i x d e=>by
  by_cases hi:i < ρ.length
  ·rw [C7 hi] at e;obtain ⟨v,h1,h2⟩:=r.own i x d e;refine ⟨v,by rw [C7 (by rw [<- r.len];exact hi)];exact h1,h2.weak λ a h=>?_⟩;rcases h with h | ⟨j,nj,h⟩
   ·exact .inl h
   ·refine .inr ⟨j,?_,h⟩
    have:(M.comp D ρ.length vI).al i=M.al i:=if_pos hi
    rw [this] at nj;exact nj
  ·rw [Gi (by omega),EB] at e;split at e <;> cases e
 non:=λ i h=>by
  by_cases hi:i < ρ.length
  ·exact r.non i λ p e=>h p (by rw [C7 hi];exact e)
  ·exact r.far (by omega)
 dj:=r.dj
 zo:=r.zo
 fr:=r.fr
 zd:=r.zd
 len:=by simp [r.len]
 msf:=λ i x d hm e=>by
  by_cases hi:i < ρ.length
  ·rw [C7 hi] at e;exact r.msf i x d hm e
  ·rw [Gi (by omega),EB] at e;split at e <;> cases e
 h0:=r.h0
 iov:=⟨λ v hv=>by
  have h:=r.iov.1 v hv;refine ⟨?_,h.2⟩
  have:0 < σ.length:=(jb0.mp h.1).1
  rw [C7 this];exact h.1,λ p hp=>by
  have h:=r.iov.2 p hp;rw [C7 (jb0.mp h).1];exact h⟩
def DU (n:Nat) (fps:AU):AU:=λ j=>if j < n then fps j else []
def Hl {n i:Nat}{a:Addr} (h:a∈DU n fps i):a∈fps i/\i < n:=by
 unfold DU at h;split at h
 ·rename_i hi;exact ⟨h,hi⟩
 ·cases h
def Rep.take {D:Addr}{n:Nat}{vI:List Nat} (r:Rep (M.comp D n vI) ρ σ H fps) (hσ:∀ i,i < n->σ[i]?=σ'[i]?) (hl:σ'.length=n) (hn:n<=ρ.length) (hio:(M.io≠none->0 < n)/\∀ p∈M.pn,p.1 < n):Rep (M.plus [D]) (ρ.take n) σ' H (DU n fps) where
 own:=λ i x d e=>by
  have hi:i < n:=by
   have:=(jb0.mp e).1
   rw [Fz] at this;omega
  rw [KO hi] at e;obtain ⟨v,h1,h2⟩:=r.own i x d e;refine ⟨v,by rw [<- hσ i hi];exact h1,?_⟩
  have:DU n fps i=fps i:=if_pos hi
  rw [this];refine h2.weak λ a h=>?_;rcases h with h | ⟨j,nj,h⟩
  ·exact .inl h
  ·refine .inr ⟨j,?_,(Hl h).1⟩
   have:(M.comp D n vI).al i=M.al i:=if_pos hi
   rw [this];exact nj
 non:=λ i h=>by
  unfold DU;split
  ·rename_i hi;exact r.non i λ p e=>h p (by rw [KO hi];exact e)
  ·rfl
 dj:=λ i j hij a ha hb=>r.dj i j hij a (Hl ha).1 (Hl hb).1
 zo:=λ i a ha=>r.zo i a (Hl ha).1
 fr:=λ i hi a ha=>r.fr i hi a (Hl ha).1
 zd:=r.zd
 len:=by rw [Fz,hl];omega
 msf:=λ i x d hm e=>by
  have hi:i < n:=by
   have:=(jb0.mp e).1
   rw [Fz] at this;omega
  rw [KO hi] at e;exact r.msf i x d hm e
 h0:=r.h0
 iov:=⟨λ v hv=>by
  have h:=r.iov.1 v hv;refine ⟨?_,h.2⟩;have h0:0 < n:=hio.1 (by
   have hv':M.io=some v:=hv;rw [hv'];simp)
  rw [<- hσ 0 h0];exact h.1,λ p hp=>by rw [<- hσ p.1 (hio.2 p hp)];exact r.iov.2 p hp⟩
def Rep.touch {D:Addr}{us ws:List V} (r:Rep (M.plus [D]) ρ σ H fps) (hD:H D=some (.lst ws)):Rep (M.plus [D]) ρ σ (Ap H D (.lst us)) fps:=by
 have zD:(M.plus [D]).Zo D:=.inr (by simp);have dm:∀ b,H b≠none->(Ap H D (.lst us)) b≠none:=λ b h=>by
  by_cases eb:b=D
  ·rw [eb,Bp];simp
  ·rw [AE eb];exact h
 exact ⟨λ i x d e=>let ⟨v,h1,h2⟩:=r.own i x d e;⟨v,h1,h2.at (.inl zD) ⟨.l ws,hD⟩ (λ z=>r.zo i D z zD) λ _ _ n=>n⟩,r.non,r.dj,r.zo,r.fr,λ a z=>dm a (r.zd a z),r.len,r.msf,λ a z=>dm a (r.h0 a z),r.iov⟩
theorem Tmps.snoc {K:Frag}{Z:Addr->Prop}{y:PV}{e:Nat}{w:V}{fe:List Addr} (hy:Own K H (λ a=>Z a\/a∈fe) y e w fe):∀ {xs:List (PV×Nat)}{ws:List V}{fp:List Addr},Tmps K H Z xs ws fp->(∀ a∈fp,a∉fe)->Tmps K H Z (xs++[(y,e)]) (ws++[w]) (fp++fe)
 | [],ws,fp,h,_=>by
  obtain ⟨rfl,rfl⟩:=h;exact ⟨w,[],fe,[],rfl,by simp,λ _ _ z=>(nomatch z),hy,rfl,rfl⟩
 | (x,d)::xs,ws,fp,h,hd=>by
  obtain ⟨v,s,f1,f2,rfl,rfl,dj,h1,h2⟩:=h;refine ⟨v,s++[w],f1,f2++fe,rfl,by rw [Mw],λ a ha hb=>?_,h1,h2.snoc hy λ a ha=>hd a (BV _ ha)⟩;rcases jd4.mp hb with z | z
  ·exact dj a ha z
  ·exact hd a (BU _ ha) z
theorem Tmps.at {K:Frag}{Z:Addr->Prop}{a:Addr}{o:HO} (hZ:Z a) (hl:∃ o:MO,H a=some o.ho):∀ {xs:List (PV×Nat)}{ws:List V}{fp:List Addr},Tmps K H Z xs ws fp->a∉fp->Tmps K (Ap H a o) Z xs ws fp
 | [],_,_,h,_=>h
 | (x,d)::xs,ws,fp,h,hf=>by
  obtain ⟨v,s,f1,f2,e1,rfl,dj,h1,h2⟩:=h;exact ⟨v,s,f1,f2,e1,rfl,dj,h1.at (.inl hZ) hl (λ z=>hf (BU _ z)) λ _ _ n=>n,h2.at hZ hl λ z=>hf (BV _ z)⟩
theorem Tmps.lsts {K:Frag}{Z:Addr->Prop}:∀ {xs:List (PV×Nat)}{ws:List V}{fp:List Addr},Tmps K H Z xs ws fp->∀ a∈fp,∃ o:MO,H a=some o.ho
 | [],_,_,h,a,ha=>by rw [h.2] at ha;cases ha
 | (x,d)::xs,ws,fp,h,a,ha=>by
  obtain ⟨v,s,f1,f2,e1,rfl,dj,h1,h2⟩:=h;rcases jd4.mp ha with z | z
  ·exact Own.lsts x d v f1 h1 a z
  ·exact h2.lsts a z
def Rz.bindN {α β:Type} (r:Rz α) (f:α->Rz β):Rz β:=match r with
 | .ok a=>f a
 | _=>.no
def Cj (k:Nat) (asg:PV->Ae->Option Ae) (test:Fb) (elt:Fx):List PV->Ae->List (PV×Nat)->Rz (List (PV×Nat)×Ae)
 | [],ρ,acc=>.ok (acc,ρ)
 | x::xs,ρ,acc=>match asg x (ρ++AL k none) with
  | none=>.no
  | some ρ1=>(test ρ1).bindN λ (b,ρ2)=>if b=true then (elt ρ2).bindN λ (y,e,ρ3)=>(if acc.length < Aw then Cj k asg test elt xs (ρ3.take ρ.length) (acc++[(y,e)]) else .no) else Cj k asg test elt xs (ρ2.take ρ.length) acc
def KD.seen {D:Addr}{x:PV}{v:V} (r:Rep M ρ σ H fps) (k:KD M H fps H' fps') (hD:H D=none) (hv:∀ i∈vs,M.Ms i=false) (o:Own M.K H (Zv M vs fps) x 0 v []):Own M.K H' (Zv (M.plus [D]) vs fps') x 0 v []:=by
 refine Own.move k.keep ?_ ?_ x 0 v [] (λ _ z=>nomatch z) o
 ·rintro a ⟨i,hi,ha⟩;exact ⟨.inr ⟨i,λ z=>(by rw [hv i z] at hi;cases hi),ha⟩,r.lsts ha⟩
 ·intro a hd nz z;rcases z with (z | z) | ⟨i,ni,hx⟩
  ·exact nz (.inl z)
  ·rw [jb6.mp z] at hd;exact hd hD
  ·rcases k.sub i a hx with z | z
   ·exact nz (.inr ⟨i,ni,z⟩)
   ·exact hd z
def Lm {g:TG}{is vI vE vo:List Nat}{asg:PV->Ae->Option Ae}{test:Fb}{elt:Fx}{k:Nat}{J:It}{els:List PV}{Q:VK}{n:Nat}{P:Fm->Prop}
  (hP:∀ D,P (M.comp D n vI)) (hn:n=ρ.length) (hal:∀ i,∀ j∈M.al i,M.Ms j=false) (hvI:∀ i∈vI,M.Ms i=false) (hvE:∀ i∈vE,M.Ms i=false) (his:∀ i∈is,n<=i) (hg:∀ D,Dd (M.comp D n vI) vI is g asg) (hvo:∀ i,i∈vE->i < n->i∈vo) (hvo2:∀ i∈vo,M.Ms i=false)
  (rep:Rep M ρ σ H fps)
  (hgo:∀ {D H' fps' i},H D=none->KD M H fps H' fps'->i < els.length->J.go i H') (hst:∀ {D H' fps' i},H D=none->KD M H fps H' fps'->els.length<=i->J.stop i H')
  (hy:∀ {D H' fps' i x H''},H D=none->KD M H fps H' fps'->i < els.length->J.yld i H' x H''->(∀ a o,H' a=some o->H'' a=some o)/\∃ z,els[i]?=some z/\Own M.K H'' (Zv (M.plus [D]) vI fps') z 0 x [])
  (q:match Cj k asg test elt els ρ [] with
   | .ok (acc,ρ')=>∀ D ws H' fps' fpl,KD M H fps H' fps'->Agr M ρ ρ'->Rep (M.plus [D]) ρ' σ H' fps'->H D=none->H' D=some (.lst ws)->Tmps M.K H' (Zv (M.plus [D]) vo fps') acc ws fpl->(∀ a∈fpl,H a=none/\¬ Zf (M.plus [D]) fps' a)->Q (.ref D) H'
   | _=>False):
  ∀ D,H D=none->∃ W:Nat->Nat->List V->Hp->Prop,(∃ m,W 0 m [] (Ap H D (.lst [])))/\∀ i m ys H1,W i m ys H1->H1 D=some (.lst ys) /\
   ((J.stop i H1/\Q (.ref D) H1)\/(J.go i H1/\∀ x H',J.yld i H1 x H'->g x (σ++AL k none) H' λ σ2 H2=>∃ M',P M'/\tT M' test σ2 H2 λ b H3=>if b=true then ∃ M',P M'/\tE M' elt vE σ2 H3 λ y H4=>H4 D=some (.lst ys)/\ys.length < Aw/\∃ m',m' < m/\W (i + 1) m' (ys++[y]) (Ap H4 D (.lst (ys++[y]))) else ∃ m',m' < m/\W (i + 1) m' ys H3)):=by
 intro D hD;subst hn;let W:Nat->Nat->List V->Hp->Prop:=λ i m ys H1=>m=els.length - i/\∃ ρ1 fps1 acc fpl,Rep (M.plus [D]) ρ1 σ H1 fps1/\KD M H fps H1 fps1/\Agr M ρ ρ1/\Tmps M.K H1 (Zv (M.plus [D]) vo fps1) acc ys fpl/\(∀ a∈fpl,H a=none/\¬ Zf (M.plus [D]) fps1 a)/\H1 D=some (.lst ys)/\Cj k asg test elt (els.drop i) ρ1 acc=Cj k asg test elt els ρ [];have k0:KD M H fps (Ap H D (.lst [])) fps:=KD.grow λ a o h=>by rw [AE (λ e=>by rw [e,hD] at h;cases h)];exact h
 have r0:Rep (M.plus [D]) ρ σ (Ap H D (.lst [])) fps:=by
  refine rep.wide hal k0 Agr.refl (rep.grow λ a o h=>by rw [AE (λ e=>by rw [e,hD] at h;cases h)];exact h) λ a ha=>?_;rw [jb6.mp ha];exact ⟨hD,by rw [Bp];simp,rep.nz hD⟩
 refine ⟨W,⟨els.length,by simp,ρ,fps,[],[],r0,k0,Agr.refl,⟨rfl,rfl⟩,λ _ z=>(nomatch z),Bp,by simp⟩,?_⟩;rintro i m ys H1 ⟨rfl,ρ1,fps1,acc,fpl,r1,k1,g1,tm,hf,h1D,ec⟩;refine ⟨h1D,?_⟩;have hlen:ρ1.length=ρ.length:=g1.2;by_cases hi:i < els.length
 ·right
  refine ⟨hgo hD k1 hi,λ x H' hyl=>?_⟩;obtain ⟨kx,z,ez,oz⟩:=hy hD k1 hi hyl;have tm:=KD.stays (M:=M.plus [D]) (KD.grow kx) r1 hvo2 tm λ a ha=>(hf a ha).2;have r1:=r1.grow kx;have k1:=k1.trans (KD.grow (M:=M) (fps:=fps1) kx);have h1D:=kx D _ h1D;have ed:els.drop i=z::els.drop (i + 1):=by
   obtain ⟨h1,h2⟩:=jb0.mp ez;rw [<- h2];exact T8 h1
  rw [ed] at ec;have good:∃ a r,Cj k asg test elt els ρ []=.ok (a,r):=by
   cases e:Cj k asg test elt els ρ [] with
   | ok p=>exact ⟨p.1,p.2,rfl⟩
   | exc c=>rw [e] at q;exact q.elim
   | no=>rw [e] at q;exact q.elim
  obtain ⟨accF,ρF,eF⟩:=good;rw [eF] at ec;unfold Cj at ec;cases ea:asg z (ρ1++AL k none) with
  | none=>rw [ea] at ec;cases ec
  | some ρ2=>
   rw [ea] at ec;dsimp only at ec;have rx:Rep (M.comp D ρ.length vI) (ρ1++AL k none) (σ++AL k none) H' fps1:=by rw [<- hlen];exact r1.ext
   refine hg D z x _ _ H' fps1 ρ2 _ rx oz ea λ σ2 fps2 s2 a2 l2 r2=>⟨_,hP D,ρ2,fps2,r2,?_⟩
   have hl2:ρ2.length=ρ.length + k:=by rw [l2,BI,El,hlen]
   have same2:∀ j,j < ρ.length->ρ2[j]?=ρ1[j]?/\fps2 j=fps1 j/\σ2[j]?=σ[j]?:=λ j hj=>by
    obtain ⟨z1,z2,z3⟩:=a2 j λ z=>absurd (his j z) (by omega);rw [C7 (by omega)] at z1;rw [C7 (by rw [<- rep.len];omega)] at z3;exact ⟨z1,z2,z3⟩
   have kd2:KD (M.comp D ρ.length vI) H' fps1 H' fps2->True:=λ _=>trivial;cases et:test ρ2 with
   | exc c=>rw [et] at ec;cases ec
   | no=>rw [et] at ec;cases ec
   | ok p=>
    obtain ⟨b,ρ3⟩:=p;rw [et] at ec;intro H3 fps3 k3 g3 r3;dsimp only [Rz.bindN] at ec;have far:∀ {ρ4:Ae}{H4:Hp}{fps4:AU},KD (M.comp D ρ.length vI) H' fps2 H4 fps4->Agr (M.comp D ρ.length vI) ρ2 ρ4->Rep (M.comp D ρ.length vI) ρ4 σ2 H4 fps4 ->
      KD M H fps H4 (DU ρ.length fps4)/\KD M H' fps1 H4 (DU ρ.length fps4)/\Agr M ρ (ρ4.take ρ.length)/\Rep (M.plus [D]) (ρ4.take ρ.length) σ H4 (DU ρ.length fps4)/\H4 D=some (.lst ys):=λ {ρ4 H4 fps4} k4 g4 r4=>by
     have kk:KD M H' fps1 H4 (DU ρ.length fps4):=by
      refine ⟨λ a o ha hn=>k4.keep a o ha λ ⟨j,hj,hx⟩=>hn ⟨j,hj,s2 j a hx⟩,k4.dom,λ j a ha=>?_,λ j hj=>?_⟩
      ·rcases k4.sub j a (Hl ha).1 with z | z
       ·exact .inl (s2 j a z)
       ·exact .inr z
      ·unfold DU;by_cases hjl:j < ρ.length
       ·rw [if_pos hjl,k4.same j hj];exact (same2 j hjl).2.1
       ·rw [if_neg hjl];exact (r1.far (by omega)).symm
     refine ⟨k1.trans kk,kk,?_,r4.take (σ':=σ) (λ j hj=>(same2 j hj).2.2) rep.len.symm (by rw [g4.2,hl2];omega) ⟨λ hio=>?_,λ p hp=>by rw [rep.len];exact (jb0.mp (rep.iov.2 p hp)).1⟩,?_⟩
     ·refine ⟨λ j hj=>?_,by rw [Fz,g4.2,hl2];omega⟩;by_cases hjl:j < ρ.length
      ·rw [KO hjl,g4.1 j hj,(same2 j hjl).1];exact g1.1 j hj
      ·rw [jj3.mpr (by rw [Fz];omega),jj3.mpr (by omega)]
     ·cases e:M.io with
      | none=>exact absurd e hio
      | some v=>
       have:=(jb0.mp (rep.iov.1 v e).1).1
       rw [rep.len];exact this
     ·exact k4.keep D _ h1D λ ⟨j,_,hx⟩=>r2.zo j D hx (.inr (by simp))
    have notZ:∀ {H4:Hp}{fps4:AU},KD M H' fps1 H4 fps4->∀ {a},a∈fpl->¬ Zf (M.plus [D]) fps4 a:=λ {H4 fps4} k4 a ha z=>by
     rcases z with z | ⟨j,z⟩
     ·exact (hf a ha).2 (.inl z)
     ·rcases k4.sub j a z with z | z
      ·exact (hf a ha).2 (.inr ⟨j,z⟩)
      ·obtain ⟨xs,e⟩:=tm.lsts a ha;rw [z] at e;cases e
    cases b with
    | false=>
     rw [if_neg Cy] at ec ⊢;obtain ⟨f1,f2,f3,f4,f5⟩:=far k3 g3 r3;refine ⟨els.length - (i + 1),by omega,rfl,ρ3.take ρ.length,DU ρ.length fps3,acc,fpl,f4,f1,f3,?_,λ a ha=>⟨(hf a ha).1,λ z=>?_⟩,f5,by rw [eF,<- hlen];exact ec⟩
     ·exact KD.stays (M:=M.plus [D]) (σ:=σ) (ρ:=ρ1) ⟨f2.keep,f2.dom,f2.sub,f2.same⟩ r1 hvo2 tm λ a ha=>(hf a ha).2
     ·exact notZ f2 ha z
    | true=>
     rw [if_pos rfl] at ec ⊢;refine ⟨_,hP D,ρ3,fps3,r3,?_⟩;cases ee:elt ρ3 with
     | exc c=>rw [ee] at ec;cases ec
     | no=>rw [ee] at ec;cases ec
     | ok p=>
      obtain ⟨y,e,ρ4⟩:=p;rw [ee] at ec;intro w H4 fps4 fe k4 g4 r4 o4 t4;dsimp only at ec;by_cases hz:acc.length < Aw
      ·rw [if_pos hz] at ec;obtain ⟨f1,f2,f3,f4,f5⟩:=far (k3.trans k4) (g3.trans g4) r4;have tm4:Tmps M.K H4 (Zv (M.plus [D]) vo (DU ρ.length fps4)) acc ys fpl:=KD.stays (M:=M.plus [D]) (σ:=σ) (ρ:=ρ1) ⟨f2.keep,f2.dom,f2.sub,f2.same⟩ r1 hvo2 tm λ a ha=>(hf a ha).2;have zD:Zv (M.plus [D]) vo (DU ρ.length fps4) D:=.inl (.inr (by simp));have hDe:D∉fe:=λ z=>t4.ndj D z (.inl (.inr (by simp)));have hDl:D∉fpl:=λ z=>(hf D z).2 (.inl (.inr (by simp)));have oy:Own M.K H4 (λ a=>Zv (M.plus [D]) vo (DU ρ.length fps4) a\/a∈fe) y e w fe:=o4.weak λ a h=>h.elim (λ h=>.inl (h.elim .inl λ ⟨j,nj,hx⟩=>.inr ⟨j,λ z=>nj (hvo j z (Hl hx).2),(Hl hx).1⟩)) .inr;have back3:∀ a,H3 a=none->H' a=none:=λ a e=>by
        cases e':H' a with
        | none=>rfl
        | some o=>exact absurd e (k3.dom a (by rw [e'];simp))
       have back1:∀ a,H' a=none->H a=none:=λ a e=>by
        cases e':H a with
        | none=>rfl
        | some o=>exact absurd e (k1.dom a (by rw [e'];simp))
       have kt:KD M H fps (Ap H4 D (.lst (ys++[w]))) (DU ρ.length fps4):=⟨λ a o ha hn=>by rw [AE (λ e=>by rw [e,hD] at ha;cases ha)];exact f1.keep a o ha hn,λ a ha=>by
        by_cases eb:a=D
        ·rw [eb,Bp];simp
        ·rw [AE eb];exact f1.dom a ha,f1.sub,f1.same⟩
       refine ⟨f5,by rw [tm.length];exact hz,els.length - (i + 1),by omega,rfl,ρ4.take ρ.length,DU ρ.length fps4,acc++[(y,e)],fpl++fe,f4.touch f5,kt,f3,?_,λ a ha=>?_,Bp,by rw [eF,<- hlen];exact ec⟩
       ·exact (tm4.at zD ⟨.l ys,f5⟩ hDl).snoc (oy.at (.inl zD) ⟨.l ys,f5⟩ hDe λ _ _ n=>n) λ a ha hb=>by
         obtain ⟨xs,e⟩:=tm.lsts a ha;rw [back3 a (t4.new a hb)] at e;cases e
       ·rcases jd4.mp ha with z | z
        ·exact ⟨(hf a z).1,notZ f2 z⟩
        ·refine ⟨back1 a (back3 a (t4.new a z)),λ hz=>t4.ndj a z ?_⟩;rcases hz with hz | ⟨j,hz⟩
         ·exact .inl hz
         ·exact .inr ⟨j,(Hl hz).1⟩
      ·rw [if_neg hz] at ec;cases ec
 ·left
  have ed:els.drop i=[]:=My (by omega);rw [ed] at ec;rw [<- ec] at q;unfold Cj at q;exact ⟨hst hD k1 (by omega),q D ys H1 fps1 fpl k1 g1 r1 hD h1D tm hf⟩
end
section
variable {M:Fm}{ρ ρ':Ae}{σ σ':St}{H H' H'':Hp}{fps fps' fps'':AU}{vs vs':List Nat}
def D6:List (PV×Nat)->Bool
 | []=>true
 | p::r=>(p.2 == om) && D6 r
theorem Lj:∀ {xs:List (PV×Nat)},D6 xs=true->∀ p∈xs,p.2=om
 | [],_,_,h=>nomatch h
 | p::r,h,q,hq=>by
  unfold D6 at h;rw [Ba] at h;rcases jb5.mp hq with e | e
  ·rw [e];exact eq_of_beq h.1
  ·exact Lj h.2 q e
def CP (acc:List (PV×Nat)) (ρ:Ae):Rz (PV×Nat×Ae):=.ok (.lst (acc.map (·.1)),if D6 acc then om else 1,ρ)
def Cu (f:Fx) (k:Nat) (asg:PV->Ae->Option Ae) (test:Fb) (elt:Fx):Fx:=λ ρ=>match f ρ with
 | .ok (.lst xs,_,ρ1)=>(Cj k asg test elt xs ρ1 []).bindN λ (acc,ρ2)=>CP acc ρ2
 | .ok (.tup xs,_,ρ1)=>(Cj k asg test elt xs ρ1 []).bindN λ (acc,ρ2)=>CP acc ρ2
 | .ok (.str z,_,ρ1)=>if OC z=true then (Cj k asg test elt (FN z) ρ1 []).bindN λ (acc,ρ2)=>CP acc ρ2 else .no
 | .ok _=>.no
 | .exc c=>.exc c
 | .no=>.no
def CL (en:List (PV×Nat)->Option (Int×Int)) (fa:Fa) (k:Nat) (asg:PV->Ae->Option Ae) (test:Fb) (elt:Fx):Fx:=λ ρ=>match fa ρ with
 | .ok (xs,ρ1)=>(match en xs with
  | some (i,j)=>(Cj k asg test elt (FL i (j - i).toNat) ρ1 []).bindN λ (acc,ρ2)=>CP acc ρ2
  | none=>.no)
 | .exc c=>.exc c
 | .no=>.no
theorem Qo {D:Addr}{acc:List (PV×Nat)}{ws:List V}{fpl:List Addr}{vo:List Nat}{Q:VK}{H0:Hp}{fps0:AU}{ρ0:Ae}
  (rep0:Rep M ρ σ H fps) (k0:KD M H0 fps0 H fps) (g0:Agr M ρ0 ρ) (q:∀ v H' fps' fp,KD M H0 fps0 H' fps'->Agr M ρ0 ρ'->Rep M ρ' σ H' fps'->Own M.K H' (Zt M vo fps' fp) (.lst (acc.map (·.1))) (if D6 acc then om else 1) v fp->Temp M vo H0 H' fps' fp->Q v H')
  (k:KD M H fps H' fps') (g:Agr M ρ ρ') (r:Rep (M.plus [D]) ρ' σ H' fps') (hD:H D=none) (hD':H' D=some (.lst ws)) (tm:Tmps M.K H' (Zv (M.plus [D]) vo fps') acc ws fpl) (hf:∀ a∈fpl,H a=none/\¬ Zf (M.plus [D]) fps' a):Q (.ref D) H':=by
 have back:∀ a,H a=none->H0 a=none:=λ a e=>by
  cases e':H0 a with
  | none=>rfl
  | some o=>exact absurd e (k0.dom a (by rw [e'];simp))
 have nD:¬ Zf M fps' D:=λ z=>by
  rcases z with z | ⟨j,z⟩
  ·exact rep0.zd D z hD
  ·exact r.zo j D z (.inr (by simp))
 have hDl:D∉fpl:=λ z=>(hf D z).2 (.inl (.inr (by simp)));have zt:∀ a,Zt M vo fps' [D] a->Zv (M.plus [D]) vo fps' a:=λ a h=>h.elim (λ h=>h.elim (λ h=>.inl (.inl h)) .inr) λ h=>.inl (.inr h);cases ho:D6 acc with
 | true=>
  rw [ho] at q;refine q (.ref D) H' fps' (D::fpl) (k0.trans k) (g0.trans g) r.minus ?_ ⟨λ a ha=>?_,λ a ha=>?_⟩
  ·rw [Own];exact ⟨D,ws,rfl,.inr ⟨(by decide),fpl,hD',rfl,hDl,OwnL.full _ ws fpl (tm.all (Lj ho))⟩⟩
  ·rcases jb5.mp ha with z | z
   ·rw [z];exact back D hD
   ·exact back a (hf a z).1
  ·rcases jb5.mp ha with z | z
   ·rw [z];exact nD
   ·exact λ y=>(hf a z).2 (y.elim (λ y=>.inl (.inl y)) .inr)
 | false=>
  rw [ho] at q;refine q (.ref D) H' fps' [D] (k0.trans k) (g0.trans g) r.minus ?_ ⟨λ a ha=>?_,λ a ha=>?_⟩
  ·show Own M.K H' (Zt M vo fps' [D]) (.lst (acc.map (·.1))) 1 (.ref D) [D];rw [Own];refine ⟨D,ws,rfl,.inr ⟨(by decide),[],hD',rfl,(λ z=>nomatch z),?_⟩⟩;rw [Ls];exact (tm.cold λ a ha z=>(hf a ha).2 z.zf).weak zt
  ·rw [jb6.mp ha];exact back D hD
  ·rw [jb6.mp ha];exact nD
theorem vS {g:TG}{is vI vE vo:List Nat}{asg:PV->Ae->Option Ae}{test:Fb}{elt f:Fx}{k n:Nat}{Q:VK}{P:Fm->Prop}
  (hn:σ.length=n) (hP:∀ D,P (M.comp D n vI)) (hal:∀ i,∀ j∈M.al i,M.Ms j=false) (hvI:∀ i∈vI,M.Ms i=false) (hvE:∀ i∈vE,M.Ms i=false) (his:∀ i∈is,n<=i) (hg:∀ D,Dd (M.comp D n vI) vI is g asg)
  (hvo:∀ i,i∈vE->i < n->i∈vo) (hvo2:∀ i∈vo,M.Ms i=false) (hq:tE M (Cu f k asg test elt) vo σ H Q):
  J6 k (EX M.K (tE M f vI)) g (λ σ H Q=>∃ M',P M'/\tT M' test σ H Q) (λ σ H Q=>∃ M',P M'/\tE M' elt vE σ H Q) σ H Q:=by
 obtain ⟨ρ,fps,rep,q⟩:=hq;refine ⟨ρ,fps,rep,?_⟩;unfold Cu at q;cases ef:f ρ with
 | no=>rw [ef] at q;exact q
 | exc c=>rw [ef] at q;exact q
 | ok p=>
  obtain ⟨x,d,ρ1⟩:=p;rw [ef] at q;intro v H1 fps1 f1 k1 g1 rep1 o1 t1;have o0:Own M.K H1 (Zv M vI fps1) x 0 v []:=Own.freeze (λ _ z=>.inl z) x d v f1 (λ a ha z=>t1.ndj a ha z.zf) o1;have hl:n=ρ1.length:=by rw [rep1.len];exact hn.symm
  have fin:∀ (els:List PV),(match (Cj k asg test elt els ρ1 []).bindN λ (acc,ρ2)=>CP acc ρ2 with
    | .ok (x,d,ρ')=>∀ v H' fps' fp,KD M H fps H' fps'->Agr M ρ ρ'->Rep M ρ' σ H' fps'->Own M.K H' (Zt M vo fps' fp) x d v fp->Temp M vo H H' fps' fp->Q v H'
    | .exc c=>∀ H' fps',KD M H fps H' fps'->M.W σ c H'
    | .no=>False)->(match Cj k asg test elt els ρ1 [] with
    | .ok (acc,ρ')=>∀ D ws H' fps' fpl,KD M H1 fps1 H' fps'->Agr M ρ1 ρ'->Rep (M.plus [D]) ρ' σ H' fps'->H1 D=none->H' D=some (.lst ws)->Tmps M.K H' (Zv (M.plus [D]) vo fps') acc ws fpl->(∀ a∈fpl,H1 a=none/\¬ Zf (M.plus [D]) fps' a)->Q (.ref D) H'
    | _=>False):=λ els q=>by
   cases ec:Cj k asg test elt els ρ1 [] with
   | no=>rw [ec] at q;exact q.elim
   | exc c=>rw [ec] at q;exact q.elim
   | ok p=>
    obtain ⟨acc,ρ2⟩:=p;rw [ec] at q;exact λ D ws H' fps' fpl k g r hD hD' tm hf=>Qo rep1 k1 g1 q k g r hD hD' tm hf
  cases x with
  | lst xs=>
   have one:∀ {Z:Addr->Prop}{H:Hp},Own M.K H Z (.lst xs) 0 v []->∃ a ws,v=.ref a/\Bi M.K H a ws/\OwnL M.K H Z xs 0 ws []:=λ o=>by
    rw [Own] at o;obtain ⟨b,ws,e,⟨_,hr,_,ol⟩ | ⟨h,_⟩⟩:=o
    ·exact ⟨b,ws,e,.inl (.inl hr.1),ol⟩
    ·exact absurd rfl h
   obtain ⟨a,ws,rfl,sq,ol⟩:=one o0;refine .inl ⟨a,rfl,.inl ⟨⟨ws,sq⟩,?_⟩⟩;refine Lm (els:=xs) hP hl hal hvI hvE his hg hvo hvo2 rep1 (λ {D H' fps' i} hD k' h=>?_) (λ {D H' fps' i} hD k' h=>?_) (λ {D H' fps' i x H''} hD k' h y=>?_) (fin xs q)
   ·obtain ⟨a',ws,e,s,ol⟩:=one (KD.seen rep1 k' hD hvI o0);cases e;exact ⟨ws,ws[i]'(by rw [ol.length];exact h),s,by simp⟩
   ·obtain ⟨a',ws,e,s,ol⟩:=one (KD.seen rep1 k' hD hvI o0);cases e;exact ⟨ws,s,by rw [ol.length];exact h⟩
   ·obtain ⟨a',ws,e,s,ol⟩:=one (KD.seen rep1 k' hD hvI o0);cases e;obtain ⟨e1,e2⟩:=y;subst e1;exact ⟨λ _ _ h=>h,ol.get (e2 ws s)⟩
  | tup xs=>
   have one:∀ {Z:Addr->Prop}{H:Hp},Own M.K H Z (.tup xs) 0 v []->∃ a ws,v=.ref a/\SqT M.K H a ws/\OwnL M.K H Z xs 0 ws []:=λ o=>by
    rw [Own] at o;obtain ⟨a,ws,e,hr,ol⟩:=o;exact ⟨a,ws,e,.inl (.inl hr),ol⟩
   obtain ⟨a,ws,rfl,sq,ol⟩:=one o0;refine .inl ⟨a,rfl,.inr ⟨⟨ws,sq⟩,?_⟩⟩;refine Lm (els:=xs) hP hl hal hvI hvE his hg hvo hvo2 rep1 (λ {D H' fps' i} hD k' h=>?_) (λ {D H' fps' i} hD k' h=>?_) (λ {D H' fps' i x H''} hD k' h y=>?_) (fin xs q)
   ·obtain ⟨a',ws,e,s,ol⟩:=one (KD.seen rep1 k' hD hvI o0);cases e;exact ⟨ws,ws[i]'(by rw [ol.length];exact h),s,by simp⟩
   ·obtain ⟨a',ws,e,s,ol⟩:=one (KD.seen rep1 k' hD hvI o0);cases e;exact ⟨ws,s,by rw [ol.length];exact h⟩
   ·obtain ⟨a',ws,e,s,ol⟩:=one (KD.seen rep1 k' hD hvI o0);cases e;obtain ⟨e1,e2⟩:=y;subst e1;exact ⟨λ _ _ h=>h,ol.get (e2 ws s)⟩
  | str z=>
   have o0':=o0;rw [Own] at o0';obtain ⟨rfl,_⟩:=o0';dsimp only at q;by_cases ha:OC z=true
   ·rw [if_pos ha] at q;refine .inr ⟨z,rfl,ha,?_⟩;have hl':(FN z).length=z.cps.size:=by unfold FN;rw [A8,IP]
    refine Lm (els:=FN z) hP hl hal hvI hvE his hg hvo hvo2 rep1 (λ {D H' fps' i} hD k' h=>?_) (λ {D H' fps' i} hD k' h=>?_) (λ {D H' fps' i x H''} hD k' h y=>?_) (fin (FN z) q)
    ·show i < z.cps.size;omega
    ·show z.cps.size<=i;omega
    ·obtain ⟨rfl,c,hc,rfl⟩:=y;refine ⟨λ _ _ h=>h,.str ⟨#[c]⟩,?_,by rw [Own];exact ⟨rfl,rfl⟩⟩;unfold FN;rw [C5,Po,hc];rfl
   ·rw [if_neg ha] at q;exact q.elim
  | _=>exact q.elim
def UO {g:TG}{is vI vE vo:List Nat}{asg:PV->Ae->Option Ae}{test:Fb}{elt:Fx}{k n:Nat}{Q:VK}{P:Fm->Prop}{lo:Int}{m:Nat}{H0:Hp}{fps0:AU}{ρ0:Ae}
  (hn:σ.length=n) (hP:∀ D,P (M.comp D n vI)) (hal:∀ i,∀ j∈M.al i,M.Ms j=false) (hvI:∀ i∈vI,M.Ms i=false) (hvE:∀ i∈vE,M.Ms i=false) (his:∀ i∈is,n<=i) (hg:∀ D,Dd (M.comp D n vI) vI is g asg)
  (hvo:∀ i,i∈vE->i < n->i∈vo) (hvo2:∀ i∈vo,M.Ms i=false) (k0:KD M H0 fps0 H fps) (g0:Agr M ρ0 ρ) (rep:Rep M ρ σ H fps)
  (q:match (Cj k asg test elt (FL lo m) ρ []).bindN λ (acc,ρ2)=>CP acc ρ2 with
    | .ok (x,d,ρ')=>∀ v H' fps' fp,KD M H0 fps0 H' fps'->Agr M ρ0 ρ'->Rep M ρ' σ H' fps'->Own M.K H' (Zt M vo fps' fp) x d v fp->Temp M vo H0 H' fps' fp->Q v H'
    | .exc c=>∀ H' fps',KD M H0 fps0 H' fps'->M.W σ c H'
    | .no=>False):
  ∀ D,H D=none->∃ W:Nat->Nat->List V->Hp->Prop,(∃ m,W 0 m [] (Ap H D (.lst [])))/\∀ i j ys H1,W i j ys H1->H1 D=some (.lst ys) /\
   (((GV lo m).stop i H1/\Q (.ref D) H1)\/((GV lo m).go i H1/\∀ x H',(GV lo m).yld i H1 x H'->g x (σ++AL k none) H' λ σ2 H2=>∃ M',P M'/\tT M' test σ2 H2 λ b H3=>if b=true then ∃ M',P M'/\tE M' elt vE σ2 H3 λ y H4=>H4 D=some (.lst ys)/\ys.length < Aw/\∃ m',m' < j/\W (i + 1) m' (ys++[y]) (Ap H4 D (.lst (ys++[y]))) else ∃ m',m' < j/\W (i + 1) m' ys H3)):=by
 have hl:n=ρ.length:=by rw [rep.len];exact hn.symm
 refine Lm (els:=FL lo m) hP hl hal hvI hvE his hg hvo hvo2 rep (λ {D H' fps' i} hD k' h=>?_) (λ {D H' fps' i} hD k' h=>?_) (λ {D H' fps' i x H''} hD k' h y=>?_) ?_
 ·rw [JQ] at h;exact h
 ·rw [JQ] at h;exact h
 ·rw [JQ] at h;obtain ⟨e1,e2⟩:=y;subst e1;exact ⟨λ _ _ h=>h,.int (lo + i),by simp [FL,h],by rw [e2,Own];exact ⟨rfl,rfl⟩⟩
 ·cases ec:Cj k asg test elt (FL lo m) ρ [] with
  | no=>rw [ec] at q;exact q.elim
  | exc c=>rw [ec] at q;exact q.elim
  | ok p=>
   obtain ⟨acc,ρ2⟩:=p;rw [ec] at q;exact λ D ws H' fps' fpl k g r hD hD' tm hf=>Qo rep k0 g0 q k g r hD hD' tm hf
theorem vQ {g:TG}{is vI vE vo:List Nat}{asg:PV->Ae->Option Ae}{test:Fb}{elt:Fx}{fa:Fa}{k n:Nat}{Q:VK}{P:Fm->Prop}
  (hn:σ.length=n) (hP:∀ D,P (M.comp D n vI)) (hal:∀ i,∀ j∈M.al i,M.Ms j=false) (hvI:∀ i∈vI,M.Ms i=false) (hvE:∀ i∈vE,M.Ms i=false) (his:∀ i∈is,n<=i) (hg:∀ D,Dd (M.comp D n vI) vI is g asg)
  (hvo:∀ i,i∈vE->i < n->i∈vo) (hvo2:∀ i∈vo,M.Ms i=false) (hq:tE M (CL Bn fa k asg test elt) vo σ H Q):
  J6 k (O3 (tL M fa vs)) g (λ σ H Q=>∃ M',P M'/\tT M' test σ H Q) (λ σ H Q=>∃ M',P M'/\tE M' elt vE σ H Q) σ H Q:=by
 obtain ⟨ρ,fps,rep,q⟩:=hq;refine ⟨ρ,fps,rep,?_⟩;unfold CL at q;cases ef:fa ρ with
 | no=>rw [ef] at q;exact q
 | exc c=>rw [ef] at q;exact q
 | ok p=>
  obtain ⟨xs,ρ1⟩:=p;rw [ef] at q;intro ws H1 fps1 f1 k1 g1 rep1 o1 t1;dsimp only at q;cases ee:Bn xs with
  | none=>rw [ee] at q;exact q.elim
  | some ij=>
   obtain ⟨i,j⟩:=ij;rw [ee] at q;unfold Bn at ee;split at ee
   ·rename_i j' d;split at ee
    ·rename_i hb;cases ee;obtain ⟨v,r,f1,f2,rfl,_,_,h1,h2⟩:=o1;obtain ⟨rfl,_⟩:=h2;rw [Own] at h1;obtain ⟨rfl,_⟩:=h1;refine ⟨j,rfl,hb.1,hb.2,?_⟩;have e:(j - 0).toNat=j.toNat:=by omega
     dsimp only at q;rw [e] at q;exact UO hn hP hal hvI hvE his hg hvo hvo2 k1 g1 rep1 q
    ·cases ee
   ·cases ee
theorem vR {g:TG}{is vI vE vo:List Nat}{asg:PV->Ae->Option Ae}{test:Fb}{elt:Fx}{fa:Fa}{k n:Nat}{Q:VK}{P:Fm->Prop}
  (hn:σ.length=n) (hP:∀ D,P (M.comp D n vI)) (hal:∀ i,∀ j∈M.al i,M.Ms j=false) (hvI:∀ i∈vI,M.Ms i=false) (hvE:∀ i∈vE,M.Ms i=false) (his:∀ i∈is,n<=i) (hg:∀ D,Dd (M.comp D n vI) vI is g asg)
  (hvo:∀ i,i∈vE->i < n->i∈vo) (hvo2:∀ i∈vo,M.Ms i=false) (hq:tE M (CL FG fa k asg test elt) vo σ H Q):
  J6 k (O4 (tL M fa vs)) g (λ σ H Q=>∃ M',P M'/\tT M' test σ H Q) (λ σ H Q=>∃ M',P M'/\tE M' elt vE σ H Q) σ H Q:=by
 obtain ⟨ρ,fps,rep,q⟩:=hq;refine ⟨ρ,fps,rep,?_⟩;unfold CL at q;cases ef:fa ρ with
 | no=>rw [ef] at q;exact q
 | exc c=>rw [ef] at q;exact q
 | ok p=>
  obtain ⟨xs,ρ1⟩:=p;rw [ef] at q;intro ws H1 fps1 f1 k1 g1 rep1 o1 t1;dsimp only at q;cases ee:FG xs with
  | none=>rw [ee] at q;exact q.elim
  | some ij=>
   obtain ⟨i,j⟩:=ij;rw [ee] at q;unfold FG at ee;split at ee
   ·rename_i i' d j' d';split at ee
    ·rename_i hb;cases ee;obtain ⟨v,r,f1,f2,rfl,_,_,h1,h2⟩:=o1;obtain ⟨v2,r2,f3,f4,rfl,_,_,h3,h4⟩:=h2;obtain ⟨rfl,_⟩:=h4;rw [Own] at h1 h3;obtain ⟨rfl,_⟩:=h1;obtain ⟨rfl,_⟩:=h3;exact ⟨i,j,rfl,hb,UO hn hP hal hvI hvE his hg hvo hvo2 k1 g1 rep1 q⟩
    ·cases ee
   ·cases ee
end
def gf:List Ad:=[.type "ValueError",.type "Exception",.type "BaseException",.type "object"]
def uc (c d:Nat):Bool:=c == d || d == 0
structure XC (h:Heap) (K:Frag) (c:Nat) (C:Addr):Prop where
 obj:∃ bm N nm q bs hdct sn sub ab col dd k0 k1 k2 k3 k5 mN,h.get? C=some (excClassObj nm q C N bs bm hdct sn sub ab col dd k0 k1 k2 k3 k5 "ValueError.__new__")/\h.Ns N mN/\mN "__init__" = none/\OwnTail h gf bm/\∀ d D,RA K d=some D->(Value.ref C::bm).contains (.ref D)=uc c d
def Gs (W:Nat->Hp->Prop):XK:=λ v _ H'=>match v with
 | .int c _=>W c.toNat H'
 | _=>False
def AV (_:AA) (_:A4) (_:Frag):FD:=λ _ _ _ _ _ _=>False
section
variable {X:Cx}{pins:List (Addr×Obj)}{σ:St}{H H1:Hp}{s s2:Ai}{h1 B:Heap}{a C:Addr}{a0:Ad}{c:Nat}{E:XK}{P:AA}{w:A4}{K:Frag}
end
def SJ (CX:FD) (X:Cx) (W:St->Nat->Hp->Prop):Prop:=∀ (pins:List (Addr×Obj)) (σ:St) (H:Hp) (s:Ai) (e:Ad) (s':Ai),L2.Inv X pins σ H s->CX X.stack H s (Gs (W σ)) e s'->X.xe e s'
def W2 (X:Cx) (W:St->Nat->Hp->Prop):Prop:=∀ (pins:List (Addr×Obj)) (σ:St) (H:Hp) (s:Ai) (c:Nat) (C a:Addr) (h':Heap) (args:List Ad),L2.Inv X pins σ H s->RA X.K c=some C->Heap.MadeExcOf s.heap h' a (.ref C) args->W σ c H->X.xe (.ref a) { s with heap:=h' }
abbrev W0:St->Nat->Hp->Prop:=λ _ _ _=>False
def VZ {P:AA}{w:A4}{K:Frag}{X:Cx}:SJ (AV P w K) X W0:=λ _ _ _ _ _ _ _ h=>h.elim
def jK {X:Cx}:W2 X W0:=λ _ _ _ _ _ _ _ _ _ _ _ _ h=>h.elim
section
variable {P:AA}{w:A4}{K:Frag}{mg:Str->Option Ad}{base:Heap}{N:List Str}{qual:Str}{scope:Bv}{f:Addr}{cd:Ad}{A:BD}{outer:List Env}{s:Ai}{H:Hp}{E:XK}
def j4:Lz (Av P w) (CG (AV P w K) P w K mg base N qual scope f cd A outer s H E).A (CG (AV P w K) P w K mg base N qual scope f cd A outer s H E).env (CG (AV P w K) P w K mg base N qual scope f cd A outer s H E).xe:=PassesOwn.leaving
end
section
variable {X:Cx}{CX:FD}{k:Nat}{f:Addr}{fd:CQ}{ps:List Str}{sp:Sp}{x:Str}{p pos:Pos}{e:Expr}{es:List Expr}{t:TA}{W:St->Nat->Hp->Prop}
def Wc (sp:Sp) (W:St->Nat->Hp->Prop) (t:TA):TE:=λ σ H Q=>t σ H λ vs H1=>sp vs H1 Q (Gs (W σ))
theorem v9 (F:FnOk X.prog X.w X.K X.mg X.base CX k f fd ps sp) (hr:Room k X.A) (hg:Gl X x) (hm:X.mg x=some (.ref f)) (hk:Jt X.K (.ref f)=true) (hb:qa5 X.K fd ps []) (hx:SJ CX X W) (ha:PA X (e::es) t) (hdb:(x == ("__debug__" : Str))=false)
  (he:AK (e::es) X.env=(false,eval e X.env)::AK es X.env) (hpl:(Dh pos (AK es X.env)).any (·.1)=false):PE X (.Call (.Name x p) (e::es) [] pos) (Wc sp W t):=by
 intro pins s σ H Q I h;refine NF (jl I hg hm ?_ hdb);refine PySem.W.callWith_K (h₀:=X.base) I.ok.mod.kin hk (Az (ha pos pins s σ H _ I h) λ us s1 ⟨vs,H1,I1,r,q⟩=>⟨I1.kIn,?_⟩) he hpl;have q':sp vs H1 Q (Gs (W σ)):=q;have hl:(us++[]).length=ps.length:=by rw [JB,<- r.length];exact F.len _ _ _ _ q'
 have hbd:=hb s1 us I1.kIn hl;rw [JB] at hbd;refine wpAny_call (codeAny_mono (F.run X.A X.stack s1 H1 ⟨us,[]⟩ us vs Q (Gs (W σ)) hr I1.env0 hbd r q') λ r s' hq=>?_);cases r with
 | error e=>exact hx pins σ H1 s1 e s' I1 hq
 | ok fl=>
  cases fl with
  | ret u=>exact I1.after hq
  | next=>exact Hz hq
  | brk=>exact Hz hq
  | cont=>exact Hz hq
end
def Dt (cells:List (Str×Addr)):List (Str×Dw)->List (Str×Addr)->List (Str×Addr)
 | [],cs=>cs
 | (n,k)::r,cs=>if k == .free then Dt cells r ((n,(cells.lookup n).getD 0)::cs) else Dt cells r cs
def Uy {scope:Bv}{env:Env} (h:∀ x∈scope.names,x.2=.free->∃ c,env.cells.lookup x.1=some c):closureFor scope env=pure (Dt env.cells scope.names []):=by
 unfold closureFor;have all:∀ (l:List (Str×Dw)) (cs:List (Str×Addr)),(∀ x∈l,x.2=.free->∃ c,env.cells.lookup x.1=some c) ->
   (forIn l cs λ (x:Str×Dw) (cs:List (Str×Addr))=>if (x.2 == NameKind.free)=true then (do let a<-cellOf env x.1;pure (ForInStep.yield ((x.1,a)::cs))) else pure (ForInStep.yield cs):Sem (List (Str×Addr)))=pure (Dt env.cells l cs):=by
  intro l;induction l with
  | nil=>intro cs _;rfl
  | cons x r ih=>
   intro cs hl;obtain ⟨n,k⟩:=x;rw [Pe];have ih':=λ cs=>ih cs λ y hy=>hl y (AI _ hy);by_cases hk:(k == NameKind.free)=true
   ·obtain ⟨c,hc⟩:=hl (n,k) AH (by simpa using hk);have e1:cellOf env n=pure c:=by unfold cellOf;rw [hc]
    rw [if_pos hk,e1];simp only [pure_bind];rw [ih',Dt,if_pos hk,hc];rfl
   ·rw [if_neg hk];simp only [pure_bind];rw [ih',Dt,if_neg hk]
 have:=all scope.names [] h
 simp only [bind_pure] at this ⊢;exact this
theorem He (cells:List (Str×Addr)) (x:Str) (c:Addr):∀ (l:List (Str×Dw)) (cs:List (Str×Addr)),(∀ y∈l,y.2=.free->∃ c,cells.lookup y.1=some c)->(cs.lookup x=some c->cells.lookup x=some c)->(Dt cells l cs).lookup x=some c->cells.lookup x=some c
 | [],cs,_,h,e=>h e
 | (n,k)::r,cs,hl,h,e=>by
  unfold Dt at e;split at e
  ·rename_i hk;refine He cells x c r _ (λ y hy=>hl y (AI _ hy)) (λ e'=>?_) e;rw [EV] at e';split at e'
   ·rename_i hx;obtain ⟨c',hc⟩:=hl (n,k) AH (by simpa using hk);rw [hc] at e';cases e';rw [eq_of_beq hx];exact hc
   ·exact h e'
  ·exact He cells x c r cs (λ y hy=>hl y (AI _ hy)) h e
theorem Q2 (cells:List (Str×Addr)) (x:Str):∀ (l:List (Str×Dw)) (cs:List (Str×Addr)),(∃ c,cs.lookup x=some c)->∃ c,(Dt cells l cs).lookup x=some c
 | [],cs,h=>h
 | (n,k)::r,cs,h=>by
  unfold Dt;split
  ·refine Q2 cells x r _ ?_;rw [EV];split
   ·exact ⟨_,rfl⟩
   ·exact h
  ·exact Q2 cells x r cs h
theorem PR (cells:List (Str×Addr)) (x:Str):∀ (l:List (Str×Dw)) (cs:List (Str×Addr)),(x,NameKind.free)∈l->∃ c,(Dt cells l cs).lookup x=some c
 | [],_,h=>nomatch h
 | (n,k)::r,cs,h=>by
  unfold Dt;rcases jb5.mp h with e | e
  ·cases e;rw [if_pos (show (NameKind.free == NameKind.free)=true by decide)];exact Q2 cells x r _ ⟨_,by rw [EV,beq_self_eq_true]⟩
  ·split
   ·exact PR cells x r _ e
   ·exact PR cells x r cs e
theorem PQ:∀ (names:List (Str×Dw)) (n:Nat) (acc:List (Str×Addr)) (x:Str) (c:Addr),(Di n names acc).lookup x=some c->acc.lookup x=some c\/(n<=c/\(x,NameKind.cell)∈names)
 | [],n,acc,x,c,h=>.inl h
 | (m,k)::r,n,acc,x,c,h=>by
  unfold Di at h;split at h
  ·rename_i hk;have hk':k=.cell:=by simpa using hk
   rcases PQ r _ _ x c h with z | ⟨z,y⟩
   ·rw [EV] at z;split at z
    ·rename_i hx;cases z;exact .inr ⟨AB _,by rw [eq_of_beq hx,hk'];exact AH⟩
    ·exact .inl z
   ·exact .inr ⟨IM z,AI _ y⟩
  ·rcases PQ r _ _ x c h with z | ⟨z,y⟩
   ·exact .inl z
   ·exact .inr ⟨z,AI _ y⟩
theorem MR:∀ (names:List (Str×Dw)) (n:Nat) (acc:List (Str×Addr)) (x:Str),(x,NameKind.cell)∉names->(Di n names acc).lookup x=acc.lookup x
 | [],n,acc,x,h=>rfl
 | (m,k)::r,n,acc,x,h=>by
  unfold Di;split
  ·rename_i hk;have hk':k=.cell:=by simpa using hk
   rw [MR r _ _ x λ z=>h (AI _ z),EV];split
   ·rename_i hx;exact absurd (by rw [eq_of_beq hx,hk'];exact AH) h
   ·rfl
  ·exact MR r _ _ x λ z=>h (AI _ z)
theorem OE:∀ (names:List (Str×Dw)) (n:Nat) (acc:List (Str×Addr)) (x:Str),(x,NameKind.cell)∈names->∃ c,(Di n names acc).lookup x=some c/\n<=c
 | [],n,acc,x,h=>nomatch h
 | (m,k)::r,n,acc,x,h=>by
  by_cases hr:(x,NameKind.cell)∈r
  ·unfold Di;split
   ·obtain ⟨c,e,l⟩:=OE r (n + 1) ((m,n)::acc) x hr;exact ⟨c,e,IM l⟩
   ·exact OE r n acc x hr
  ·rcases jb5.mp h with e | e
   ·cases e;unfold Di;rw [if_pos (by decide),MR r _ _ _ hr,EV,beq_self_eq_true];exact ⟨n,rfl,AB _⟩
   ·exact absurd e hr
theorem RU:∀ (names:List (Str×Dw)) (n:Nat) (acc:List (Str×Addr)),(∀ x y c,acc.lookup x=some c->acc.lookup y=some c->x=y)->(∀ x c,acc.lookup x=some c->c < n)->∀ x y c,(Di n names acc).lookup x=some c->(Di n names acc).lookup y=some c->x=y
 | [],n,acc,hi,_,x,y,c,h1,h2=>hi x y c h1 h2
 | (m,k)::r,n,acc,hi,hl,x,y,c,h1,h2=>by
  unfold Di at h1 h2;split at h1
  ·rename_i hk;rw [if_pos hk] at h2;refine RU r (n + 1) ((m,n)::acc) (λ x y c h1 h2=>?_) (λ x c h=>?_) x y c h1 h2
   ·rw [EV] at h1 h2;split at h1
    ·rename_i e1;cases h1;split at h2
     ·rename_i e2;rw [eq_of_beq e1,eq_of_beq e2]
     ·exact absurd (hl y _ h2) (DK _)
    ·split at h2
     ·cases h2;exact absurd (hl x _ h1) (DK _)
     ·exact hi x y c h1 h2
   ·rw [EV] at h;split at h
    ·cases h;exact GQ _
    ·exact Pj (hl x c h)
  ·rename_i hk;rw [if_neg hk] at h2;exact RU r n acc hi hl x y c h1 h2
theorem SD:∀ (names:List (Str×Dw)) (h:Heap) (acc:List (Str×Addr)) (x:Str) (c:Addr),(Di h.objs.size names acc).lookup x=some c->acc.lookup x=some c\/(pushCells h names).IsCell c none
 | [],h,acc,x,c,e=>.inl e
 | (m,k)::r,h,acc,x,c,e=>by
  unfold Di at e;unfold pushCells;split at e
  ·rename_i hk;rw [if_pos hk];have hs:(h.push { cls:=.type "cell",data:=.cell none }).objs.size=h.objs.size + 1:=FU ..;have e':(Di (h.push { cls:=.type "cell",data:=.cell none }).objs.size r ((m,h.objs.size)::acc)).lookup x=some c:=by rw [hs];exact e
   rcases SD r _ _ x c e' with z | z
   ·rw [EV] at z;split at z
    ·cases z;exact .inr ⟨_,QA _ _ _ _ (BL _ rfl),rfl⟩
    ·exact .inl z
   ·exact .inr z
  ·rename_i hk;rw [if_neg hk];exact SD r h acc x c e
def ZJ {M:Model}{A:BD}{E:Ad->Ai->Prop}{s:Ai}{scope:Bv}{globals:Addr}{cl:List (Str×Addr)}{qual:Str}{func:Option Addr}{code:Ad}{around:Env}{builtins:Addr}{Q:Env->Ai->Prop}
  (hQ:Q (newEnv scope s.heap.objs.size globals (Di (s.heap.objs.size + 1) scope.names cl) qual func code (some around) builtins) { s with heap:=pushCells (s.heap.push { cls:=.type "dict",data:=.dict #[] }) scope.names }):
  Ak M A (Q7 scope globals cl [] qual func code (some around) builtins) Q E s:=by
 simp only [Q7,Ze,if_true];refine Ag (wpAny_alloc ?_);refine Ag (wpAny_layCells _ (λ name kind cells=>by cases hkc:kind == NameKind.cell <;> simp [hkc]) _ _ _ _ ?_);rw [show ({ s with heap:=s.heap.push { cls:=.type "dict",data:=.dict #[] } }:Ai).heap.objs.size=s.heap.objs.size + 1 from FU ..];exact Ag (Ao (Ao hQ))
def Mc (X:Cx) (scope:Bv) (C:Addr):List (Str×Addr):=Di (C + 1) scope.names (Dt X.env.cells scope.names [])
def BA (X:Cx) (s2:Ai) (H2:Hp) (scope:Bv) (C:Addr) (N':List Str) (fp:List Addr) (pins:List (Addr×Obj)):Cx:=
 { X with N:=N',s₀:=s2,H₀:=H2,env:=compEnvC scope (Mc X scope C) C X.env,outer:=X.stack,stack:=X.stack,ex:=fp,fn:=λ x=>scope.names.contains (x,NameKind.cell),pn:=X.pn++pins,xe:=λ _ _=>False }
structure CompOk (X:Cx) (scope:Bv) (N':List Str) (k:Nat):Prop where
 kind:scope.kind=.function
 dis:∀ x,(x,NameKind.free)∈scope.names->(x,NameKind.cell)∉scope.names
 names:∀ x∈scope.names,x.2=.local->scope.names.lookup x.1=some .local
 len:N'.length=X.N.length + k
 free:∀ x∈scope.names,x.2=.free->X.env.kindOf x.1=some .cell\/X.env.kindOf x.1=some .free
 kinds:∀ x,(IA scope X.env).names.lookup x=some .cell\/(IA scope X.env).names.lookup x=some .free->(x,NameKind.free)∈scope.names\/(x,NameKind.cell)∈scope.names
 capt:∀ (i:Nat) (x:Str),i < X.N.length->N'[i]?=some x->IS (IA scope X.env) x->X.N[i]?=some x/\IS X.env.scope x/\(x,NameKind.free)∈scope.names/\(IA scope X.env).names.lookup x≠some .local
section
variable {X:Cx}{scope:Bv}{N':List Str}{k:Nat}{pins:List (Addr×Obj)}{σ:St}{H2:Hp}{s2:Ai}{fp:List Addr}{C:Addr}
def CompOk.cells (c:CompOk X scope N' k) (I:Inv X pins σ H2 s2):∀ x∈scope.names,x.2=.free->∃ a,X.env.cells.lookup x.1=some a:=λ x hx hf=>I.ok.has x.1 (c.free x hx hf)
def CompOk.cl (c:CompOk X scope N' k) (I:Inv X pins σ H2 s2) {x:Str}{a:Addr} (h:(Mc X scope C).lookup x=some a):X.env.cells.lookup x=some a\/(C + 1<=a/\(x,NameKind.cell)∈scope.names):=
 (PQ _ _ _ x a h).imp (λ z=>He _ x a _ [] (c.cells I) (λ z=>nomatch z) z) id
def CompOk.old (c:CompOk X scope N' k) (I:Inv X pins σ H2 s2) {x:Str}{a:Addr} (h:X.env.cells.lookup x=some a):a < s2.heap.objs.size:=by
 obtain ⟨v,o,ho,_⟩:=I.cell x a h;exact AO ho
def CompOk.cap (c:CompOk X scope N' k) {x:Str} (h:(x,NameKind.free)∈scope.names):∃ a,(Mc X scope C).lookup x=some a/\(Dt X.env.cells scope.names []).lookup x=some a:=by
 obtain ⟨a,ha⟩:=PR X.env.cells x scope.names [] h;exact ⟨a,(MR _ _ _ x (c.dis x h)).trans ha,ha⟩
def CompOk.ok (c:CompOk X scope N' k) (I:Inv X pins σ H2 s2) (hf:∀ b∈fp,Cr X pins H2 b) (hC:s2.heap.objs.size<=C) (hfp:∀ b∈fp,b < s2.heap.objs.size):(BA X s2 H2 scope C N' fp pins).Ok where
 mod:=I.ok.mod
 kind:=c.kind
 glob:=I.ok.glob
 blt:=I.ok.blt
 above:=hC
 inj:=λ x y a h1 h2=>RU scope.names (C + 1) _ (λ x y a h1 h2=>I.ok.inj x y a (He _ x a _ [] (c.cells I) (λ z=>nomatch z) h1) (He _ y a _ [] (c.cells I) (λ z=>nomatch z) h2))
  (λ x a h=>Pj (Cg (c.old I (He _ x a _ [] (c.cells I) (λ z=>nomatch z) h)) hC)) x y a h1 h2
 has:=λ x hx=>(c.kinds x hx).elim (λ z=>let ⟨a,h,_⟩:=c.cap (C:=C) z;⟨a,h⟩) λ z=>let ⟨a,h,_⟩:=OE scope.names (C + 1) (Dt X.env.cells scope.names []) x z;⟨a,h⟩
 cab:=λ x a h e=>by
  have hx:(x,NameKind.cell)∈scope.names:=by
   have h':scope.names.contains (x,NameKind.cell)=true:=h;simpa using h'
  obtain ⟨a',e',l⟩:=OE scope.names (C + 1) (Dt X.env.cells scope.names []) x hx;have e2:(Di (C + 1) scope.names (Dt X.env.cells scope.names [])).lookup x=some a:=e;rw [e'] at e2;cases e2;exact Cw hC (IM l)
 hd:=I.ok.hd
 frames:=I.ok.frames
 stk:=.inl rfl
 exf:=λ b hb=>⟨Cf (Cg (hfp b hb) hC),λ x a h=>(c.cl I h).elim (λ z=>(hf b hb).2.2.2.2.1 x a z) λ z=>E7 (Cg (hfp b hb) (Cw hC (IM z.1)))⟩
 bs:=I.bs
 bsz:=Cw I.ok.bsz I.sz
 noex:=λ b o e hb=>by
  rcases (hf b hb).2.2.2.1 with z | z
  ·exact I.ok.noex b o e z
  ·exact absurd (Cg (AO e) (Cw I.ok.bsz z)) (DK _)
 exfs:=λ b hb hz=>by
  rcases jb5.mp (I.stkSub b hz) with z | z
  ·exact (hf b hb).2.1 z
  ·exact (hf b hb).2.2.1 z
 funs:=I.stack
 frf:=I.stkFree
def CompOk.inv (c:CompOk X scope N' k) (I:Inv X pins σ H2 s2) (hf:∀ b∈fp,Cr X pins H2 b) (hfp:∀ b∈fp,b < s2.heap.objs.size) {H3:Hp}{h':Heap}{t':Nat}{m:Str->Option Ad}{D:Addr} (hCD:D≠C) (hD:s2.heap.objs.size<=D) (hC:s2.heap.objs.size<=C)
  (keep:∀ b o,s2.heap.get? b=some o->h'.get? b=some o) (ns:h'.Ns C m) (hH:∀ b,b≠D->H3 b=H2 b) (hok:HOk X.prog X.w H3 h') (hC3:H3 C=none) (hDC:D < C) (hcN:∀ x a,(Mc X scope C).lookup x=some a->C + 1<=a->h'.IsCell a none):
  Inv (BA X s2 H2 scope C N' fp pins) [] (σ++AL k none) H3 { s2 with heap:=h',toks:=t' } where
 ok:=c.ok I hf hC hfp
 os:=rfl
 bare:=I.bare
 base:=by
  have nD:∀ b o,s2.heap.get? b=some o->b≠D:=λ b o e=>Cf (Cg (AO e) hD);refine ⟨λ b o e _ _ _=>keep b o e,λ b o e _ _ _=>⟨o.slots,keep b o e⟩,λ b o e n _=>by rw [hH b (nD b o e)];exact n,λ b o e _=>⟨o,keep b o e⟩,λ b xs e=>?_,λ b o u e=>?_,λ b ps e=>⟨#[],?_⟩⟩
  ·have e:H2 b=some (.tup xs):=e;rw [hH b (λ z=>by rw [z,I.hok.fresh hD] at e;cases e)];exact e
  ·have e:H2 b=some (.frz o u):=e;rw [hH b (λ z=>by rw [z,I.hok.fresh hD] at e;cases e)];exact e
  ·have e:H2 b=some (.tbl ps):=e;rw [hH b (λ z=>by rw [z,I.hok.fresh hD] at e;cases e)];simpa using e
 loc:=by
  refine ⟨m,ns,λ i x v e1 e2 e3=>?_⟩;have hi:i < σ.length:=by
   by_cases hi:i < σ.length
   ·exact hi
   ·rw [Gi (by omega),EB] at e2;split at e2 <;> cases e2
  rw [C7 hi] at e2;obtain ⟨n1,n2,n3,n4⟩:=c.capt i x (by rw [<- I.len];exact hi) e1 e3;obtain ⟨m0,ns0,hl⟩:=I.loc;obtain ⟨u,r,lk⟩:=hl i x v n1 e2 n2;refine ⟨u,r,.inr ⟨?_,?_⟩⟩
  ·rcases e3 with z | z | z
   ·exact absurd z n4
   ·exact .inl z
   ·exact .inr z
  ·obtain ⟨a,ha,hb⟩:=c.cap (C:=C) n3;have ha':=He _ x a _ [] (c.cells I) (λ z=>nomatch z) hb;refine ⟨a,ha,?_⟩;rcases lk with ⟨hk,_⟩ | ⟨hk,a2,ha2,hc⟩
   ·rcases c.free _ n3 rfl with z | z <;> rw [hk] at z <;> cases z
   ·rw [ha'] at ha2;cases ha2;obtain ⟨o,ho,hd⟩:=hc;exact ⟨o,keep _ _ ho,hd⟩
 cell:=λ x a h=>by
  rcases c.cl I h with z | z
  ·obtain ⟨v,o,ho,hd⟩:=I.cell x a z;exact ⟨v,o,keep _ _ ho,hd⟩
  ·exact ⟨none,hcN x a h z.1⟩
 free:=hC3
 freeC:=λ x a h=>by
  rcases c.cl I h with ha | z
  ·obtain ⟨v,o,ho,hd⟩:=I.cell x a ha;rw [hH a (Cf (Cg (AO ho) hD))];exact I.freeC x a ha
  ·rw [hH a (E7 (Cg hDC (IM z.1)))];exact I.hok.fresh (Cw hC (IM z.1))
 pin:=λ p hp=>by
  have hp':p∈X.pn++pins:=by simpa [BA] using hp
  obtain ⟨e,n,ne,nf,d⟩:=I.pin p hp';have hlt:=AO e;exact ⟨keep _ _ e,by rw [hH p.1 (Cf (Cg hlt hD))];exact n,Cf (Cg hlt hC),λ z=>(jb5.mp (I.stkSub p.1 z)).elim ne nf,d⟩
 hok:=hok
 len:=by
  show (σ++AL k none).length=N'.length;rw [BI,El,c.len,I.len]
def HY (X:Cx) (ifs:List Expr) (t:TT):Prop:=
 ∀ (pins:List (Addr×Obj)) (s:Ai) (σ:St) (H:Hp) (Q:Bool->Hp->Prop),Inv X pins σ H s->t σ H Q ->
  Ak (Av X.prog X.w) X.A (forIn ifs true λ c r=>if r=true then do let ok<-isTrue c X.env (eval c X.env);pure (ForInStep.yield ok) else pure (ForInStep.yield r)) (TP X pins σ Q) X.xe s
def ku {X:Cx}:HY X [] (λ _ H Q=>Q true H):=λ _ _ _ H _ I h=>Ao ⟨H,I,h⟩
def jH {X:Cx}{c:Expr}{t:TT} (hc:PT X c t):HY X [c] t:=by
 intro pins s σ H Q I h;rw [Pe];refine Ag ?_;rw [if_pos rfl];refine Ag (Az (hc pins s σ H Q I h) λ b s1 q=>Ao ?_);exact Ao q
def CompOk.again (c:CompOk X scope N' k) (I:Inv X pins σ H2 s2) {σ':St}{H':Hp}{s':Ai}{ps:List (Addr×Obj)} (hfp:∀ b∈fp,Cr X pins H2 b) (J:Inv (BA X s2 H2 scope C N' fp pins) ps σ' H' s'):Inv (BA X s2 H2 scope C N' fp pins) ps (σ++AL k none) H' s' where
 ok:=J.ok
 os:=J.os
 bare:=J.bare
 base:=J.base
 loc:=by
  obtain ⟨m,ns,_⟩:=J.loc;refine ⟨m,ns,λ i x v e1 e2 e3=>?_⟩;have hi:i < σ.length:=by
   by_cases hi:i < σ.length
   ·exact hi
   ·rw [Gi (by omega),EB] at e2;split at e2 <;> cases e2
  rw [C7 hi] at e2;obtain ⟨n1,n2,n3,n4⟩:=c.capt i x (by rw [<- I.len];exact hi) e1 e3;obtain ⟨m0,ns0,hl⟩:=I.loc;obtain ⟨u,r,lk⟩:=hl i x v n1 e2 n2;refine ⟨u,r,.inr ⟨?_,?_⟩⟩
  ·rcases e3 with z | z | z
   ·exact absurd z n4
   ·exact .inl z
   ·exact .inr z
  ·obtain ⟨a,ha,hb⟩:=c.cap (C:=C) n3;have ha':=He _ x a _ [] (c.cells I) (λ z=>nomatch z) hb;refine ⟨a,ha,?_⟩;rcases lk with ⟨hk,_⟩ | ⟨hk,a2,ha2,hc⟩
   ·rcases c.free _ n3 rfl with z | z <;> rw [hk] at z <;> cases z
   ·rw [ha'] at ha2;cases ha2;obtain ⟨o,ho,hd⟩:=hc;obtain ⟨sl,ho'⟩:=J.base.any (b:=a) (ob:=o) ho (I.freeC x a ha') λ z=>(hfp a z).2.2.2.2.1 x a ha' rfl;exact ⟨_,ho',hd⟩
 cell:=J.cell
 free:=J.free
 freeC:=J.freeC
 pin:=J.pin
 hok:=J.hok
 len:=by
  show (σ++AL k none).length=N'.length;rw [BI,El,c.len,I.len]
theorem ZE {prog:AA}{w:A4}{A:BD}{R:Result->Ai->Prop}{s:Ai}{elt target iter:Expr}{ifs:List Expr}{scope:Bv}{pos:Pos}{it acc:Ad}{env:Env} (I:Nat->Ai->Prop)
  (turn:∀ n s,I n s->Ak (Av prog w) A (Ee it) (λ r s₁=>match r with
   | none=>R (.ok .next) s₁
   | some v=>Ak (Av prog w) A (N8 target it v) (λ _ s₁'=>Ak (Av prog w) A (Hw target env v) (λ _ s₂=>
     Ak (Av prog w) A (forIn ifs true λ c r=>if r=true then do let ok<-isTrue c env (eval c env);pure (ForInStep.yield ok) else pure (ForInStep.yield r)) (λ ok s₃=>
      if ok=true then Ak (Av prog w) A (eval elt env) (λ x s₄=>
       Ak (Av prog w) A (call (.builtin "list.append") [acc,x]) (λ _ s₅=>∃ m,m < n/\I m s₅) (λ _ _=>False) s₄) (λ _ _=>False) s₃
      else ∃ m,m < n/\I m s₃) (λ _ _=>False) s₂) (λ _ _=>False) s₁') (λ _ _=>False) s₁) (λ _ _=>False) s)
  (n:Nat) (h:I n s):
  I0 (Av prog w) A (.compLoop (.ListComp elt [⟨target,iter,ifs,0⟩] scope pos) 0 it acc env) R s:=by
 refine codeAny_loop rfl I (λ n s hI=>?_) n h;show Ak _ A ((compTurn (.ListComp elt [⟨target,iter,ifs,0⟩] scope pos) 0 it acc env).onRaise (λ x=>do noteFrame x env;theTreesLotGoes x)) _ _ s;refine wpAny_noted ?_;rw [compTurn_list];refine Ag (L4 (Ag (HA (turn n s hI) (λ r s₁ h₁=>?_) λ _ _ h'=>h'.elim)));cases r with
 | none=>exact Ao h₁
 | some v=>
  refine Ag (HA h₁ (λ _ s₁' h₁'=>?_) λ _ _ h'=>h'.elim);refine Ag (HA h₁' (λ _ s₂ h₂=>Ag (HA h₂ (λ ok s₃ h₃=>?_) λ _ _ h'=>h'.elim)) λ _ _ h'=>h'.elim);cases ok with
  | false=>exact Ao ⟨rfl,h₃⟩
  | true=>
   exact Ag (Ag (HA h₃ (λ x s₄ h₄=>Ag (HA h₄ (λ _ s₅ h₅=>Ao (Ao ⟨rfl,h₅⟩)) λ _ _ h'=>h'.elim)) λ _ _ h'=>h'.elim))
def UM {elt iter tg:Expr}{ifs:List Expr}{pos:Pos}{J:It}{it:Addr}{tn:Nat->Heap->Prop}{g:TG}{tc:TT}{te:TE}{RR:Ad->Addr->Result->Ai->Prop}{Q:VK}{E:Ad->Ai->Prop}
  (c:CompOk X scope N' k) (hcalm:X.calm=true) (I:Inv X pins σ H2 s2) (T:Turn X.prog X.w X.K tg J fp it tn) (st:tn 0 s2.heap) (hf:∀ b∈fp,Cr X pins H2 b)
  (hg:∀ C fp,PG (BA X s2 H2 scope C N' fp pins) tg g) (hc:∀ C fp,HY (BA X s2 H2 scope C N' fp pins) ifs tc) (he:∀ C fp,PE (BA X s2 H2 scope C N' fp pins) elt te)
  (h:∀ D,H2 D=none->∃ W:Nat->Nat->List V->Hp->Prop,(∃ m,W 0 m [] (Ap H2 D (.lst [])))/\∀ i m ys H,W i m ys H->H D=some (.lst ys) /\
   ((J.stop i H/\Q (.ref D) H)\/(J.go i H/\∀ x H',J.yld i H x H'->g x (σ++AL k none) H' λ σ2 H2=>tc σ2 H2 λ b H3=>if b=true then te σ2 H3 λ y H4=>H4 D=some (.lst ys)/\ys.length < Aw/\∃ m',m' < m/\W (i + 1) m' (ys++[y]) (Ap H4 D (.lst (ys++[y]))) else ∃ m',m' < m/\W (i + 1) m' ys H3)))
  (hRR:∀ D C σ' H' s',s2.heap.objs.size<=C->Inv (BA X s2 H2 scope C N' fp pins) [] σ' H' s'->Q (.ref D) H'->RR (.ref D) C (.ok .next) s')
  :
  Ak (Av X.prog X.w) X.A (newList []) (λ acc s₃=>Ak (Av X.prog X.w) X.A (Q7 scope X.env.globals (Dt X.env.cells scope.names []) [] X.env.qual none .none (some X.env)) (λ cenv s₄=>
   I0 (Av X.prog X.w) X.A (.compStart (.ListComp elt [⟨tg,iter,ifs,0⟩] scope pos) 0 (.ref it) acc { cenv with scope:=IA scope X.env }) (RR acc cenv.locals) s₄) E s₃) E s2:=by
 refine DS (ZJ ?_);dsimp only;generalize hH2:s2.heap.push { cls:=.type "list",dict:=none,data:=.seq ([]:List Ad).toArray }=HP;obtain ⟨h₁,hh₁⟩:∃ h₁,h₁=pushCells (HP.push { cls:=.type "dict",data:=.dict #[] }) scope.names:=⟨_,rfl⟩
 rw [<- hh₁];have kk:∀ b o,HP.get? b=some o->h₁.get? b=some o:=λ b o e=>by rw [hh₁];exact QA _ _ b o (Bb _ e)
 have hns₁:h₁.Ns HP.objs.size (λ _=>none):=by rw [hh₁];exact (Heap.Ns.new HP (.type "dict")).keeps (QA _ _)
 have hC:HP.objs.size=s2.heap.objs.size + 1:=by rw [<- hH2,FU]
 have hDC:s2.heap.objs.size≠HP.objs.size:=by rw [hC];exact Cf (GQ _)
 have hCle:s2.heap.objs.size<=HP.objs.size:=by rw [hC];exact Te _
 have hfp:∀ b∈fp,b < s2.heap.objs.size:=λ b hb=>by
  obtain ⟨o,e,_⟩:=T.obj 0 _ st b hb;exact AO e
 have IG:∀ b,b < s2.heap.objs.size->b≠HP.objs.size:=λ b hb=>by rw [hC];exact Cf (Pj hb)
 have old:∀ b o,s2.heap.get? b=some o->h₁.get? b=some o:=λ b o e=>kk b o (hH2 ▸ Bb _ e);have hacc:h₁.get? s2.heap.objs.size=some { cls:=.type "list",dict:=none,data:=.seq ([]:List Ad).toArray }:=kk _ _ (hH2 ▸ BL _ rfl);have fD:H2 s2.heap.objs.size=none:=I.hok.fresh (AB _);obtain ⟨W,⟨m0,w0⟩,hW⟩:=h _ fD;have hok3:HOk X.prog X.w (Ap H2 s2.heap.objs.size (.lst [])) h₁:=I.hok.laid old (AB _) ⟨Ft _,[],0,.nil,hacc⟩;have st1:tn 0 h₁:=T.keep _ _ _ st λ b hb o e=>old b o e;have I3:Inv (BA X s2 H2 scope HP.objs.size N' fp pins) [] (σ++AL k none) (Ap H2 s2.heap.objs.size (.lst [])) { s2 with heap:=h₁ }:=
  c.inv I hf hfp (t':=s2.toks) hDC (AB _) hCle old hns₁ (λ b hb=>AE hb) hok3 (by rw [AE (BE hDC)];exact I.hok.fresh hCle) (by rw [hC];exact GQ _) (λ x a h l=>by
   have hs:(HP.push { cls:=.type "dict",data:=.dict #[] }).objs.size=HP.objs.size + 1:=FU ..;have h':(Di (HP.push { cls:=.type "dict",data:=.dict #[] }).objs.size scope.names (Dt X.env.cells scope.names [])).lookup x=some a:=by rw [hs];exact h
   rcases SD scope.names _ _ x a h' with z | z
   ·exact absurd (Cg (c.old I (He _ x a _ [] (c.cells I) (λ z=>nomatch z) z)) (Cw hCle (IM l))) (DK _)
   ·rw [hh₁];exact z)
 have fx:∀ {H':Hp},(∀ b∈fp,H' b=none)->∀ b∈fp,Cr (BA X s2 H2 scope HP.objs.size N' fp pins) [] H' b:=λ hn b hb=>by
  obtain ⟨f0,f1,f2,f3,f4,f5⟩:=hf b hb;refine ⟨hn b hb,Cf (Cg (hfp b hb) hCle),λ hz=>?_,.inl hb,λ x a h=>(c.cl I h).elim (λ z=>f4 x a z) λ z=>E7 (Cg (hfp b hb) (Cw hCle (IM z.1))),λ p hp=>f5 p (by simpa [BA] using hp)⟩;rcases jb5.mp (I.stkSub b hz) with z | z
  ·exact f1 z
  ·exact f2 z
 have f0:∀ b∈fp,(Ap H2 s2.heap.objs.size (.lst [])) b=none:=λ b hb=>by rw [AE (Cf (hfp b hb))];exact (hf b hb).1
 have loop:∀ s₃:Ai,s₃={ s2 with heap:=h₁ } ->
   I0 (Av X.prog X.w) X.A (.compLoop (.ListComp elt [⟨tg,iter,ifs,0⟩] scope pos) 0 (.ref it) (.ref s2.heap.objs.size) (compEnvC scope (Mc X scope HP.objs.size) HP.objs.size X.env))
    (RR (.ref s2.heap.objs.size) HP.objs.size) s₃:=by
  rintro s₃ rfl;refine ZE (λ n s'=>∃ i H' ys,Inv (BA X s2 H2 scope HP.objs.size N' fp pins) [] (σ++AL k none) H' s'/\tn i s'.heap/\(∀ b∈fp,H' b=none)/\W i n ys H') ?_ m0 ⟨0,_,[],I3,st1,f0,w0⟩;rintro n s4 ⟨i,H4,ys,I4,st4,fr4,w4⟩;obtain ⟨hD4,hcase⟩:=hW i n ys H4 w4;rcases hcase with ⟨stop,qn⟩ | ⟨go,step⟩
  ·refine Az (T.done (BA X s2 H2 scope HP.objs.size N' fp pins) rfl rfl rfl hcalm i [] s4 _ H4 (λ _ _=>False) I4 (fx fr4) st4 stop) λ r s5 ⟨hr,I5⟩=>?_;subst hr;exact hRR _ _ _ _ _ hCle I5 qn
  ·refine Az (T.item (BA X s2 H2 scope HP.objs.size N' fp pins) rfl rfl rfl hcalm i [] s4 _ H4 (λ _ _=>False) I4 (fx fr4) st4 go) λ r s5 ⟨u,hr,h5⟩=>?_;subst hr;refine Az h5 λ _ s6 ⟨x,H6,I6,r6,y6,st6,fr6⟩=>?_;have I6':=I6.pinned (fx fr6) (T.obj _ _ st6);have stays:∀ {σ':St}{H':Hp}{s':Ai},Inv (BA X s2 H2 scope HP.objs.size N' fp pins) ([]++Lu fp s6.heap) σ' H' s'->Inv (BA X s2 H2 scope HP.objs.size N' fp pins) [] (σ++AL k none) H' s'/\tn (i + 1) s'.heap/\∀ b∈fp,H' b=none:=λ {σ' H' s'} J=>by
    refine ⟨c.again I hf J.unpinned,T.keep _ _ _ st6 λ b hb o e=>(J.pin (b,o) (BV _ (BV _ (MG hb e)))).1,λ b hb=>?_⟩;obtain ⟨o,e,d⟩:=T.obj _ _ st6 b hb;exact (J.pin (b,o) (BV _ (BV _ (MG hb e)))).2.1
   refine Az (hg _ _ _ s6 _ H6 x u _ I6' r6 (step x H6 y6)) λ _ s7 ⟨σ7,H7,I7,q7⟩=>?_;refine Az (hc _ _ _ s7 σ7 H7 _ I7 q7) λ b s8 ⟨H8,I8,q8⟩=>?_;cases b with
   | false=>
    rw [if_neg Cy] at q8 ⊢;obtain ⟨m',hm,w'⟩:=q8;obtain ⟨j1,j2,j3⟩:=stays I8;exact ⟨m',hm,i + 1,H8,ys,j1,j2,j3,w'⟩
   | true=>
    rw [if_pos rfl] at q8 ⊢;refine Az (he _ _ _ s8 σ7 H8 _ I8 q8) λ y s9 ⟨z,H9,I9,r9,hD9,hz9,m',hm,w'⟩=>?_;refine Az (U5 (X:=BA X s2 H2 scope HP.objs.size N' fp pins) _ s9 σ7 H9 (.ref s2.heap.objs.size) [z] (.ref s2.heap.objs.size) [y] (λ _ H'=>H'=Ap H9 s2.heap.objs.size (.lst (ys++[z]))) I9 rfl (.cons r9 .nil) ⟨_,ys,z,rfl,rfl,hD9,hz9,rfl⟩) λ _ s10 ⟨_,H10,I10,_,e10⟩=>?_;subst e10;obtain ⟨j1,j2,j3⟩:=stays I10;exact ⟨m',hm,i + 1,_,_,j1,j2,j3,w'⟩
 exact codeAny_compStart_list (loop _ rfl) (T.self _ 0 _ _ _ st1 (loop _ rfl))
def CompOk.out (I:Inv X pins σ H2 s2) (hf:∀ b∈fp,Cr X pins H2 b) {σ':St}{H':Hp}{s':Ai} (J:Inv (BA X s2 H2 scope C N' fp pins) [] σ' H' s'):Inv X pins σ H' s':=
 I.call' (ch:=fp) J.os J.base J.hok J.bare λ b hb=>⟨(hf b hb).2.2.2.1,(hf b hb).2.1,(hf b hb).2.2.2.2.1,(hf b hb).2.2.2.2.2⟩
def CompOk.away (I:Inv X pins σ H2 s2) (hC:s2.heap.objs.size<=C) {σ':St}{H':Hp}{s':Ai} (J:Inv X pins σ' H' s') (hC':H' C=none) {h':Heap} (sb:Jp C s'.heap h'):Inv X pins σ' H' { s' with heap:=h' }:=by
 have lt:∀ b o,s2.heap.get? b=some o->b≠C:=λ b o e=>Cf (Cg (AO e) hC);refine J.turned (t':=s'.toks) (it:=C) (λ b o hb e=>(sb.2 b hb).trans e) hC' (E7 (Cg I.lt hC)) (.inr (Cw I.sz hC)) (λ x c h=>?_) λ p hp=>?_
 ·obtain ⟨v,o,ho,_⟩:=I.cell x c h;exact lt c o ho
 ·exact lt p.1 p.2 (I.pin p hp).1
variable {elt iter tg:Expr}{ifs:List Expr}{pos:Pos}{wi:TI}{g:TG}{tc:TT}{te:TE}
def Xg (c:CompOk X scope N' k) (hcalm:X.calm=true) (hi:PI X tg iter wi) (hg:∀ s2 H2 C fp pins,PG (BA X s2 H2 scope C N' fp pins) tg g) (hc:∀ s2 H2 C fp pins,HY (BA X s2 H2 scope C N' fp pins) ifs tc)
  (he:∀ s2 H2 C fp pins,PE (BA X s2 H2 scope C N' fp pins) elt te) (hs:∀ x,NC iter X.env x=pure x):PE X (.ListComp elt [⟨tg,iter,ifs,0⟩] scope pos) (J6 k wi g tc te):=by
 intro pins s σ H Q I h;rw [eval_ListComp];refine wpAny_comprehension_free (use:=none) rfl hs (Uy (c.cells I)) c.kind c.names ?_;refine Az (hi pins s σ H _ I h) λ v s1 h1=>Az h1 λ itv s2 h2=>?_;obtain ⟨it,fp,tn,J,H',e,I2,T,st2,f2,W⟩:=h2;subst e;refine UM (RR:=λ acc C=>compPost (Av X.prog X.w) X.A X.xe none (EP X pins σ Q) acc C) c hcalm I2 T st2 f2 (λ C fp=>hg s2 H' C fp pins) (λ C fp=>hc s2 H' C fp pins) (λ C fp=>he s2 H' C fp pins) W λ D C σ' H3 s' hC J3 q=>?_;obtain ⟨m,ns,_⟩:=J3.loc;exact ⟨m,ns,λ h' sb=>⟨.ref D,H3,CompOk.away I2 hC (CompOk.out I2 f2 J3) J3.free sb,rfl,q⟩⟩
theorem yI {i:Nat}{x:Str}{pos' spos:Pos} (hN:X.N.Nodup) (hi':X.N[i]?=some x) (hx:FC X.env.scope x) (hfn:X.fn x=true\/X.env.scope.names.lookup x=some .local) (c:CompOk X scope N' k) (hcalm:X.calm=true) (hi:PI X tg iter wi) (hg:∀ s2 H2 C fp pins,PG (BA X s2 H2 scope C N' fp pins) tg g) (hc:∀ s2 H2 C fp pins,HY (BA X s2 H2 scope C N' fp pins) ifs tc)
  (he:∀ s2 H2 C fp pins,PE (BA X s2 H2 scope C N' fp pins) elt te) (hs:∀ x,NC iter X.env x=pure x):PS X (.Assign [.Name x pos'] (.ListComp elt [⟨tg,iter,ifs,0⟩] scope pos) spos) (EL (J6 k wi g tc te) (Fo i)):=by
 have hsw:∃ b,swapsWith (.ListComp elt [⟨tg,iter,ifs,0⟩] scope pos) (some (.Name x pos')) spos.line X.env=pure b:=⟨_,rfl⟩
 obtain ⟨b,hsw⟩:=hsw;cases b with
 | false=>exact Ww hN hi' hx (Xg c hcalm hi hg hc he hs) hsw hfn
 | true=>
  intro pins s σ H D I h;rw [exec_Assign_Name_used _ _ _ _ hsw];refine Ag (L4 (Ag ?_));show Ak _ X.A (do let _<-comprehension (.ListComp elt [⟨tg,iter,ifs,0⟩] scope pos) scope X.env _ (newList []) false (eval iter X.env) (some (Hw (.Name x pos') X.env))) _ _ s;refine Ag (HA (wpAny_comprehension_free (use:=some (Hw (.Name x pos') X.env)) (Q:=λ _ s'=>SP X pins D .next s') rfl hs (Uy (c.cells I)) c.kind c.names ?_) (λ _ s' hq=>Ao (Ao hq)) λ _ _ e=>e);refine Az (hi pins s σ H _ I h) λ v s1 h1=>Az h1 λ itv s2 h2=>?_;obtain ⟨it,fp,tn,J,H',e,I2,T,st2,f2,W⟩:=h2;subst e;refine UM (Q:=λ x H1=>Fo i x σ H1 D.nx) (RR:=λ acc C=>compPost (Av X.prog X.w) X.A X.xe (some (Hw (.Name x pos') X.env)) (λ _ s'=>SP X pins D .next s') acc C) c hcalm I2 T st2 f2 (λ C fp=>hg s2 H' C fp pins) (λ C fp=>hc s2 H' C fp pins) (λ C fp=>he s2 H' C fp pins) W λ E C σ' H3 s' hC J3 q=>?_;obtain ⟨m,ns,_⟩:=J3.loc;have I3:=CompOk.out I2 f2 J3;show Ak _ X.A (Hw (.Name x pos') X.env (.ref E)) _ _ _;refine wpAny_assign_Name (UD I3 hN hi' hx (v:=.ref E) rfl (λ s'' I4 hsb=>?_) hfn);obtain ⟨a,sb,ha⟩:=hsb;have hCa:C≠a:=by
   rcases ha with z | z
   ·rw [z];exact E7 (Cg I2.lt hC)
   ·obtain ⟨v,o,ho,_⟩:=I2.cell x a z;exact E7 (Cg (AO ho) hC)
  exact ⟨m,ns.sameBut sb hCa,λ h' sb'=>⟨_,H3,CompOk.away I2 hC I4 J3.free sb',q⟩⟩
def wc {P:AA}{w:A4}{K:Frag}{tg:Expr} (z:Str) (tk:Tok) (it:Addr):Turn P w K tg (Z4 z) [it] it (λ i h=>h.IsStrIter it "str_ascii_iterator" z tk i) where
 mem:=by simp
 obj:=λ i h st b hb=>by
  have e:b=it:=by simpa using hb
  subst e;obtain ⟨o,e,c,d⟩:=st;exact ⟨o,e,λ v z=>by rw [d] at z;cases z⟩
 keep:=λ i h h' st k=>by
  obtain ⟨o,e,r⟩:=st;exact ⟨o,k it (by simp) o e,r⟩
 item:=by
  intro X hP hw hK hc i pins s σ H E I hf st hg;subst hP hw hK;have hi:i < z.cps.size:=hg;obtain ⟨f0,f1,f2,f3,f4,f5⟩:=hf it (by simp);refine wpAny_pyNext_ascii_item st (c:=z.cps[i]) (by simp [hi]) λ h' st' sb=>?_;have I1:Inv X pins σ H { s with heap:=h',toks:=s.toks + 1 }:=I.turned (t':=s.toks + 1) (λ b o hb e=>(sb.2 b hb).trans e) f0 f1 f3 f4 f5;obtain ⟨o,e,c,d⟩:=id st';exact ⟨_,rfl,IE (s:={ s with heap:=h',toks:=s.toks + 1 }) e c d (by decide) ⟨.str ⟨#[z.cps[i]]⟩,H,I1,⟨_,rfl⟩,⟨rfl,z.cps[i],by simp [hi],rfl⟩,st',λ b hb=>(hf b hb).1⟩⟩
 done:=by
  intro X hP hw hK hc i pins s σ H E I hf st hg;subst hP hw hK;have hi:z.cps.size<=i:=hg;obtain ⟨f0,f1,f2,f3,f4,f5⟩:=hf it (by simp);exact wpAny_pyNext_ascii_end (I.ok.hd hc) st (by simp;omega) λ h' eb=>⟨rfl,I.turned (t':=s.toks) (λ b o hb e=>eb b o hb e) f0 f1 f3 f4 f5⟩
 self:=λ _ _ _ _ _ st h=>wpAny_pyIter_striter_ascii st h
def Wt {l:Expr}{tl:TE} (hl:PE X l tl):PI X tg l (EX X.K tl):=by
 intro pins s σ H R I h;refine Az (hl pins s σ H _ I h) λ v s1 ⟨x,H1,I1,r1,q1⟩=>?_;obtain ⟨a,e,⟨⟨xs,hq⟩,q⟩ | ⟨⟨xs,hq⟩,q⟩⟩ | ⟨z,e,ha,q⟩:=q1
 ·subst e;cases r1;obtain ⟨its,rv,p,hz⟩:=I1.list hq;refine wpAny_pyIter_list p.isList ?_;refine ⟨s1.heap.objs.size,[s1.heap.objs.size],_,_,H1,rfl,I1.kept (t':=s1.toks) λ b o e=>Bb _ e,yv a _,⟨_,BL _ rfl,rfl,rfl⟩,λ b hb=>?_,q⟩;have e:b=s1.heap.objs.size:=by simpa using hb
  subst e;exact I1.fpOk (AB _) (I1.hok.fresh (AB _))
 ·subst e;cases r1;obtain ⟨its,rv,p,hz⟩:=I1.tuple hq;refine NG (show s1.heap.IsTuple a its.toArray from p) ?_;refine ⟨s1.heap.objs.size,[s1.heap.objs.size],_,_,H1,rfl,I1.kept (t':=s1.toks) λ b o e=>Bb _ e,yM a _,⟨_,BL _ rfl,rfl,rfl⟩,λ b hb=>?_,q⟩;have e:b=s1.heap.objs.size:=by simpa using hb
  subst e;exact I1.fpOk (AB _) (I1.hok.fresh (AB _))
 ·subst e;obtain ⟨tk,rfl⟩:=r1;refine wpAny_pyIter_ascii ha ?_;refine ⟨s1.heap.objs.size,[s1.heap.objs.size],_,_,H1,rfl,I1.kept (t':=s1.toks) λ b o e=>Bb _ e,wc z tk _,⟨_,BL _ rfl,rfl,rfl⟩,λ b hb=>?_,q⟩;have e:b=s1.heap.objs.size:=by simpa using hb
  subst e;exact I1.fpOk (AB _) (I1.hok.fresh (AB _))
end
end QQ
namespace L2
open PySem PySem.Spec PyProof.Rows
section
variable {κ:Type} [DecidableEq κ]
def Cm (kvs:List (κ×V)) (k:κ):Option V:=(kvs.find? λ kv=>decide (kv.1=k)).map (·.2)
def Co (kvs:List (κ×V)) (k:κ) (v:V):List (κ×V):=
 if (kvs.any λ kv=>decide (kv.1=k))=true then kvs.map (λ kv=>if kv.1=k then (kv.1,v) else kv) else kvs++[(k,v)]
def Nz {p:κ×V}{r:List (κ×V)}{k:κ} (e:p.1=k):Cm (p::r) k=some p.2:=by simp [Cm,KC,e]
def Ny {p:κ×V}{r:List (κ×V)}{k:κ} (e:¬ p.1=k):Cm (p::r) k=Cm r k:=by simp [Cm,KC,e]
theorem XZ (k:κ):∀ kvs:List (κ×V),(kvs.any λ kv=>decide (kv.1=k))=(Cm kvs k).isSome
 | []=>rfl
 | p::r=>by
  rw [Mp];by_cases e:p.1=k
  ·simp only [Nz e,decide_eq_true e,Bool.true_or,Ze]
  ·rw [Ny e,decide_eq_false e,YI];exact XZ k r
def Ui (kvs:List (κ×V)) (k:κ) (v:V):(Co kvs k v).length<=kvs.length + 1:=by
 unfold Co;split
 ·rw [A8];omega
 ·rw [BI,Bh,YN];omega
theorem RelO.isSome_eq {o:Option V}{u:Option Ad} (r:RelO o u):o.isSome=u.isSome:=by
 cases o with
 | none=>cases u with
  | none=>rfl
  | some _=>exact (show False from r).elim
 | some _=>cases u with
  | none=>exact (show False from r).elim
  | some _=>rfl
theorem KV.val {kvs:List (κ×V)}{vs:List (κ×Ad)} (r:KV kvs vs) (k:κ):RelO (Cm kvs k) (Jm vs k):=by
 unfold KV at r;induction r with
 | nil=>exact True.intro
 | @cons p q ps qs h t ih=>
  obtain ⟨h1,h2⟩:=h;by_cases e:p.1=k
  ·have e':q.1=k:=h1.symm.trans e;have b:Jm (q::qs) k=some q.2:=by simp [Jm,KC,e']
   rw [Nz e,b];exact h2
  ·have e':¬ q.1=k:=λ z=>e (h1.trans z);have b:Jm (q::qs) k=Jm qs k:=by simp [Jm,KC,e']
   rw [Ny e,b];exact ih
theorem KV.any {kvs:List (κ×V)}{vs:List (κ×Ad)} (r:KV kvs vs) (k:κ):(kvs.any λ kv=>decide (kv.1=k))=vs.any λ kv=>decide (kv.1=k):=by
 unfold KV at r;induction r with
 | nil=>rfl
 | cons h t ih=>rw [Mp,Mp,ih,h.1]
theorem KV.repl {kvs:List (κ×V)}{vs:List (κ×Ad)} (r:KV kvs vs) (k:κ) {y:V}{u:Ad} (ry:RelV y u):
  KV (kvs.map λ kv=>if kv.1=k then (kv.1,y) else kv) (vs.map λ kv=>if kv.1=k then (kv.1,u) else kv):=by
 unfold KV at r ⊢;induction r with
 | nil=>exact .nil
 | @cons p q ps qs h t ih=>
  rw [BF,BF];refine .cons ?_ ih;obtain ⟨h1,h2⟩:=h;by_cases e:p.1=k
  ·rw [if_pos e,if_pos (h1.symm.trans e)];exact ⟨h1,ry⟩
  ·rw [if_neg e,if_neg (λ z=>e (h1.trans z))];exact ⟨h1,h2⟩
def KV.put {kvs:List (κ×V)}{vs:List (κ×Ad)} (r:KV kvs vs) (k:κ) {y:V}{u:Ad} (ry:RelV y u):KV (Co kvs k y) (stored vs k u):=by
 unfold Co stored;rw [r.any k];by_cases e:(vs.any λ kv=>decide (kv.1=k))=true
 ·rw [if_pos e,if_pos e];exact r.repl k ry
 ·rw [if_neg e,if_neg e];exact Paired.snoc r ⟨rfl,ry⟩
def KV.length {kvs:List (κ×V)}{vs:List (κ×Ad)} (r:KV kvs vs):kvs.length=vs.length:=Paired.length r
end
theorem LW {P:AA}{w:A4}{k:Ax}{u:Ad} (r:RelV (kV k) u):(De P w).is k u=true:=by
 cases k with
 | inl i=>obtain ⟨t,e⟩:=(show ∃ t,u=Value.int i t from r);subst e;exact yQ P w i t
 | inr x=>obtain ⟨t,e⟩:=(show ∃ t,u=Value.str x t from r);subst e;exact yR P w x t
theorem Y0 {P:AA}{w:A4}:∀ {ks:List Ax}{us:List Ad},Vals (ks.map kV) us->ItemsAre (De P w) ks us
 | [],_,r=>by rw [IH] at r;cases r;exact .nil
 | k::ks,_,r=>by
  rw [BF] at r;cases r with
  | cons h t=>exact .cons (LW h) (Y0 t)
abbrev KT (H:Hp):List (List Ax×V)->List (List Ax×Addr×Ad)->Prop:=FP λ p q=>p.1=q.1/\H q.2.1=some (.tup (p.1.map kV))/\RelV p.2 q.2.2
theorem KT.val {H:Hp}{kvs:List (List Ax×V)}{xs:List (List Ax×Addr×Ad)} (r:KT H kvs xs) (k:List Ax):RelO (Cm kvs k) ((atKey xs k).map (·.2)):=by
 induction r with
 | nil=>exact True.intro
 | @cons p q ps qs h t ih=>
  obtain ⟨h1,_,h2⟩:=h;by_cases e:p.1=k
  ·have e':q.1=k:=h1.symm.trans e;have b:atKey (q::qs) k=some q.2:=by simp [atKey,KC,e']
   rw [Nz e,b];exact h2
  ·have e':¬ q.1=k:=λ z=>e (h1.trans z);have b:atKey (q::qs) k=atKey qs k:=by simp [atKey,KC,e']
   rw [Ny e,b];exact ih
theorem KT.repl {H:Hp}{kvs:List (List Ax×V)}{xs:List (List Ax×Addr×Ad)} (r:KT H kvs xs) (k:List Ax) {y:V}{u:Ad} (ry:RelV y u):
  KT H (kvs.map λ kv=>if kv.1=k then (kv.1,y) else kv) (xs.map (putAt k u)):=by
 induction r with
 | nil=>exact .nil
 | @cons p q ps qs h t ih=>
  rw [BF,BF];refine .cons ?_ ih;obtain ⟨h1,h2,h3⟩:=h;unfold putAt;by_cases e:p.1=k
  ·rw [if_pos e,if_pos (h1.symm.trans e)];exact ⟨h1,h2,ry⟩
  ·rw [if_neg e,if_neg (λ z=>e (h1.trans z))];exact ⟨h1,h2,h3⟩
def KT.put {H:Hp}{kvs:List (List Ax×V)}{xs:List (List Ax×Addr×Ad)} (r:KT H kvs xs) (k:List Ax) {b:Addr}{y:V}{u:Ad} (hb:H b=some (.tup (k.map kV))) (ry:RelV y u):
  KT H (Co kvs k y) (storedH xs k b u):=by
 have e:(kvs.any λ kv=>decide (kv.1=k))=(atKey xs k).isSome:=by
  rw [XZ,(r.val k).isSome_eq,Tv]
 unfold Co storedH;rw [e];by_cases q:(atKey xs k).isSome=true
 ·rw [if_pos q,if_pos q];exact r.repl k ry
 ·rw [if_neg q,if_neg q];exact Paired.snoc r ⟨rfl,hb,ry⟩
def KT.keeps {H H':Hp}{kvs:List (List Ax×V)}{xs:List (List Ax×Addr×Ad)} (r:KT H kvs xs) (ht:∀ b ys,H b=some (.tup ys)->H' b=some (.tup ys)):KT H' kvs xs:=
 Paired.mapP r λ _ _ z=>⟨z.1,ht _ _ z.2.1,z.2.2⟩
section
variable {P:AA}{w:A4}{H:Hp}{h:Heap}{a:Addr}
def V3 {u:HO} (ok:HOk P w H h) (e:Rd H a u):zxq P w H h a u:=e.ok ok
def LS {kvs:List (Ax×V)} (ok:HOk P w H h) (e:Rd H a (.dK kvs)):kvs.length<=Aw/\(a == EJ)=false/\∃ vs,KV kvs vs/\h.DictOf (De P w) a vs:=
 show zxq P w H h a (.dK kvs) from V3 ok e
def dk_of {kvs:List (Ax×V)} (ok:HOk P w H h) (e:H a=some (.dK kvs)):kvs.length<=Aw/\(a == EJ)=false/\∃ vs,KV kvs vs/\h.DictOf (De P w) a vs:=LS ok (.inl e)
def Mf {ks:List Ax} (ok:HOk P w H h) (e:H a=some (.tup (ks.map kV))):(FR (De P w)).is h ks a:=by
 obtain ⟨_,its,r,o,h1,h2,n,h3⟩:=(show zxq P w H h a (.tup (ks.map kV)) from ok a _ e)
 exact ⟨o,its.toArray,n,h1,h2,h3,by simpa using Y0 r⟩
def LU {kvs:List (List Ax×V)} (ok:HOk P w H h) (e:Rd H a (.dT kvs)):kvs.length<=Aw/\(a == EJ)=false /\
  ∃ xs,KT H kvs xs/\h.DictOfH (FR (De P w)) a xs:=by
 obtain ⟨z,y,xs,r,o,es,ep,h1,h2,h3,h4,h5⟩:=(show zxq P w H h a (.dT kvs) from V3 ok e)
 refine ⟨z,y,xs,r,o,es,ep,h1,h2,h3,h4,λ x hx=>?_,h5⟩;have all:∀ {l:List (List Ax×V)}{m:List (List Ax×Addr×Ad)},KT H l m->∀ x∈m,(FR (De P w)).is h x.1 x.2.1:=by
  intro l m q;induction q with
  | nil=>intro x hx;exact nomatch hx
  | @cons p q ps qs hq t ih=>
   intro x hx;rcases jb5.mp hx with e | hx
   ·subst e;exact Mf ok (by rw [<- hq.1];exact hq.2.1)
   ·exact ih x hx
 exact all r x hx
def qc {kvs:List (List Ax×V)} (ok:HOk P w H h) (e:H a=some (.dT kvs)):kvs.length<=Aw/\(a == EJ)=false /\
  ∃ xs,KT H kvs xs/\h.DictOfH (FR (De P w)) a xs:=LU ok (.inl e)
end
def Ff (H:Hp) (a:Addr) (y:V) (r:Option V):Prop:=
 (∃ kvs k,Rd H a (.dK kvs)/\y=kV k/\r=Cm kvs k)\/∃ kvs k b,Rd H a (.dT kvs)/\y=.ref b/\H b=some (.tup (k.map kV))/\r=Cm kvs k
def DPut (H:Hp) (a:Addr) (y v:V) (H':Hp):Prop:=
 (∃ kvs k,H a=some (.dK kvs)/\y=kV k/\kvs.length < Aw/\H'=Ap H a (.dK (Co kvs k v))) \/
 ∃ kvs k b,H a=some (.dT kvs)/\y=.ref b/\H b=some (.tup (k.map kV))/\kvs.length < Aw/\H'=Ap H a (.dT (Co kvs k v))
def DPut.t {H:Hp}{a b:Addr}{kvs:List (List Ax×V)}{k:List Ax}{v:V} (e:H a=some (.dT kvs)) (eb:H b=some (.tup (k.map kV))) (hl:kvs.length < Aw):
  DPut H a (.ref b) v (Ap H a (.dT (Co kvs k v))):=.inr ⟨kvs,k,b,e,rfl,eb,hl,rfl⟩
section
variable {X:Cx}{pins:List (Addr×Obj)}{σ:St}{H:Hp}{s:Ai}{a:Addr}{y v:V}{u r:Ad}{o:Option V}{A:BD}{E:Ad->Ai->Prop}
def Inv.big (I:Inv X pins σ H s):EJ < s.heap.objs.size:=by
 have h:E5 < s.heap.objs.size:=(I.mod.glob.keeps I.bk).lt;exact Nat.lt_trans (by decide) h
def wC {Q:Ad->Ai->Prop} (hu:A.units + 1 < D9) (I:Inv X pins σ H s) (g:Ff H a y (some v)) (ry:RelV y u) (h:∀ w' s',Inv X pins σ H s'->RelV v w'->Q w' s'):
  Ak (Av X.prog X.w) A (Jl (.ref a) u) Q E s:=by
 rcases g with ⟨kvs,k,e,ey,l⟩ | ⟨kvs,k,b,e,ey,eb,l⟩
 ·subst ey;obtain ⟨z,hd,vs,rel,dd⟩:=LS I.hok e;obtain ⟨w',hw,rw'⟩:=RelO.some_of (v:=v) (o:=Jm vs k) (by rw [l];exact rel.val k);exact wpAny_getItem_of (LW ry) dd.mapOf hw (h w' _ (I.tok _) rw')
 ·subst ey;cases (show u=Value.ref b from ry);obtain ⟨z,hd,xs,rel,dd⟩:=LU I.hok e;obtain ⟨w',hw,rw'⟩:=RelO.some_of (v:=v) (o:=(atKey xs k).map (·.2)) (by rw [l];exact rel.val k);obtain ⟨p,hp,hp2⟩:=jb9.mp hw;refine wpAny_getItem_heap (ND hu) (Mf I.hok eb) dd hp ?_;rw [hp2];exact h w' _ (I.tok _) rw'
def TJ {Q:Ad->Ai->Prop} (hu:A.units + 1 < D9) (I:Inv X pins σ H s) (g:Ff H a y o) (ry:RelV y u) (h:∀ s',Inv X pins σ H s'->Q (.bool o.isSome) s'):
  Ak (Av X.prog X.w) A (CC .In u (.ref a)) Q E s:=by
 rcases g with ⟨kvs,k,e,ey,l⟩ | ⟨kvs,k,b,e,ey,eb,l⟩
 ·subst ey;obtain ⟨z,hd,vs,rel,dd⟩:=LS I.hok e;refine wpAny_in_of (LW ry) hd dd.mapOf ?_;rw [<- (rel.val k).isSome_eq,<- l];exact h _ (I.tok _)
 ·subst ey;cases (show u=Value.ref b from ry);obtain ⟨z,hd,xs,rel,dd⟩:=LU I.hok e;refine wpAny_in_heap (ND hu) (Mf I.hok eb) hd dd ?_;have q:=(rel.val k).isSome_eq;rw [Tv] at q;rw [<- q,<- l];exact h _ (I.tok _)
def zW {Q:Ad->Ai->Prop} (hu:A.units + 1 < D9) (I:Inv X pins σ H s) (g:Ff H a y o) (ry:RelV y u) (h:∀ s',Inv X pins σ H s'->Q (.bool (!o.isSome)) s'):
  Ak (Av X.prog X.w) A (CC .NotIn u (.ref a)) Q E s:=by
 rcases g with ⟨kvs,k,e,ey,l⟩ | ⟨kvs,k,b,e,ey,eb,l⟩
 ·subst ey;obtain ⟨z,hd,vs,rel,dd⟩:=LS I.hok e;refine wpAny_notIn_of (LW ry) hd dd.mapOf ?_;rw [<- (rel.val k).isSome_eq,<- l];exact h _ (I.tok _)
 ·subst ey;cases (show u=Value.ref b from ry);obtain ⟨z,hd,xs,rel,dd⟩:=LU I.hok e;refine wpAny_notIn_heap (ND hu) (Mf I.hok eb) hd dd ?_;have q:=(rel.val k).isSome_eq;rw [Tv] at q;rw [<- q,<- l];exact h _ (I.tok _)
def W7 {h':Heap}{t':Nat}{ob:HO} (I:Inv X pins σ H s) (mu:M7 (H a)) (hs:Jp a s.heap h') (he:∃ q,h'.get? a=some q) (new:zxq X.prog X.w (Ap H a ob) h' a ob):
  Inv X pins σ (Ap H a ob) { s with heap:=h',toks:=t' }:=
 I.write (x:=a) (e:=a) mu (.inl rfl) (λ b q hb z=>(hs.2 b hb).trans z) he new
def qD {P:AA}{w:A4}{H':Hp}{h':Heap}{kvs:List (Ax×V)}{vs:List (Ax×Ad)} (z:kvs.length<=Aw) (hd:(a == EJ)=false) (rel:KV kvs vs) (dd:h'.DictOf (De P w) a vs):
  zxq P w H' h' a (.dK kvs):=⟨z,hd,vs,rel,dd⟩
def wD {H':Hp}{Q:Unit->Ai->Prop} (hu:A.units + 1 < D9) (I:Inv X pins σ H s) (g:DPut H a y v H') (ry:RelV y u) (rv:RelV v r) (h:∀ s',Inv X pins σ H' s'->Q () s'):
  Ak (Av X.prog X.w) A (setItem (.ref a) u r) Q E s:=by
 rcases g with ⟨kvs,k,e,ey,l,eH⟩ | ⟨kvs,k,b,e,ey,eb,l,eH⟩
 ·subst ey eH;obtain ⟨z,hd,vs,rel,dd⟩:=dk_of I.hok e;have hz:vs.length<=Aw:=by rw [<- rel.length];exact z
  have hl:(Co kvs k v).length<=Aw:=by have:=Ui kvs k v;omega
  refine wpAny_setItem_pairs (hsz:=hz) (LW ry) dd λ h' dd' hs=>h _ ?_;have he:∃ q,h'.get? a=some q:=let ⟨q,_,_,hq,_⟩:=dd';⟨q,hq⟩;exact W7 I (by rw [e];exact True.intro) hs he (qD hl hd (rel.put k rv) dd')
 ·subst ey eH;cases (show u=Value.ref b from ry);obtain ⟨z,hd,xs,rel,dd⟩:=qc I.hok e;have hz:xs.length<=Aw:=by rw [<- Paired.length rel];exact z
  have hl:(Co kvs k v).length<=Aw:=by have:=Ui kvs k v;omega
  refine wpAny_setItem_heap (hsz:=hz) (ND hu) (Mf I.hok eb) dd λ h' dd' hs=>h _ ?_;obtain ⟨q,es,ep,hq,h2,h3,h4,_,h5⟩:=dd';refine W7 I (by rw [e];exact True.intro) hs ⟨q,hq⟩ ⟨hl,hd,_,(rel.put k eb rv).keeps λ c ys ec=>?_,q,es,ep,hq,h2,h3,h4,h5⟩;rw [AE (qo ec e (λ z=>nomatch z))];exact ec
end
section
variable {X:Cx}{pins:List (Addr×Obj)}{σ:St}{H:Hp}{s:Ai}{a:Addr}{kvs:List (Ax×V)}{k:Ax}{u:Ad}{A:BD}{E:Ad->Ai->Prop}
end
def yO {X:Cx}{pins:List (Addr×Obj)}{σ:St}{H:Hp}{s:Ai}{a:Addr}{y:V}{o:Option V} (I:Inv X pins σ H s) (g:Ff H a y o):s.TypeIs (.ref a) "dict" := by
 rcases g with ⟨kvs,k,e,_,_⟩ | ⟨kvs,k,b,e,_,_,_⟩
 ·obtain ⟨_,_,vs,_,dd⟩:=LS I.hok e;exact dd.typeIs
 ·obtain ⟨_,_,xs,_,dd⟩:=LU I.hok e;exact dd.typeIs
section
variable {X:Cx}{o i e value:Expr}{pos pos' tpos:Pos}{td ty tv:TE}
end
def vK {P:AA}{w:A4}{H:Hp} (h:Heap) (hb:EJ < h.objs.size):zxq P w H (h.push { cls:=.type "dict",data:=.dict #[] }) h.objs.size (.dT []):=
 ⟨Ft _,beq_eq_false_iff_ne.mpr (BE (Cf hb)),[],.nil,_,#[],0,BL _ rfl,⟨rfl,rfl,rfl⟩,rfl,rfl,List.nodup_nil⟩
def zM:TE:=λ _ H Q=>∀ p,H p=none->Q (.ref p) (Ap H p (.dT []))
section
variable {X:Cx}{pos:Pos}
def vB:PE X (.Dict [] [] pos) zM:=λ pins s σ H Q I h=>
 wpAny_Dict_empty ⟨.ref s.heap.objs.size,_,I.laid (a:=s.heap.objs.size) (o:=.dT []) (t':=s.toks) (λ _ _ q=>Bb _ q) (AB _) (vK s.heap I.big),rfl,h _ (I.hok.fresh (AB _))⟩
end
end L2
namespace QQ
open PySem PySem.Spec PyProof.Rows L2
section
variable {M:Fm}{vs:List Nat}{H:Hp}{fps:AU}{F:List Addr}{Q:VK}
def DY {k:Int}{d:Nat} (h:BB M H fps vs F (.int k) d Q):Q (.int k) H:=h (.int k) H [] (λ _ _ h=>h) (by rw [Own];exact ⟨rfl,rfl⟩) (λ _ z=>nomatch z)
def Hf {k:Bool}{d:Nat} (h:BB M H fps vs F (.bl k) d Q):Q (.bl k) H:=h (.bl k) H [] (λ _ _ h=>h) (by rw [Own];exact ⟨rfl,rfl⟩) (λ _ z=>nomatch z)
def vi {k:Str}{d:Nat} (h:BB M H fps vs F (.str k) d Q):Q (.str k) H:=h (.str k) H [] (λ _ _ h=>h) (by rw [Own];exact ⟨rfl,rfl⟩) (λ _ z=>nomatch z)
def Kb {x:PV}{v:V} (h:BB M H fps vs F x (dv x) Q) (o:Own M.K H (Zv M vs fps) x 0 v []):Q v H:=h v H [] (λ _ _ h=>h) (o.dv.weak λ a z=>z.elim id λ z=>nomatch z) (λ _ z=>nomatch z)
def Ea {p:Addr}{o:HO} (hp:H p=none):∀ a u,H a=some u->Ap H p o a=some u:=λ a u h=>by rw [AE (λ e=>by rw [e,hp] at h;cases h)];exact h
def PL {xs:List PV}{ws:List V} (h:BB M H fps vs F (.lst xs) 1 Q) (o:OwnL M.K H (Zv M vs fps) xs 0 ws []) {p:Addr} (hp:H p=none):Q (.ref p) (Ap H p (.lst ws)):=by
 refine h (.ref p) _ [p] (Ea hp) ?_ λ a ha=>.inr (by rw [jb6.mp ha];exact hp);rw [Own];refine ⟨p,ws,rfl,.inr ⟨(by decide),[],Bp,rfl,(λ z=>nomatch z),?_⟩⟩;rw [Ls];exact OwnL.move (S:=λ _=>False) (λ a u ha _=>Ea hp a u ha) (λ _ z=>z.elim) (λ a hd nz z=>z.elim nz λ z=>hd (by rw [jb6.mp z];exact hp)) xs 0 ws [] (λ _ z=>nomatch z) o
def atoms:List PV->Bool
 | []=>true
 | x::xs=>OD x && atoms xs
def O5:PV->Bool
 | .tup xs=>atoms xs
 | x=>OD x
def K0:List PV->Bool
 | []=>true
 | x::xs=>O5 x && K0 xs
def d1 (xs:List PV):Nat:=if K0 xs=true then om else 1
theorem OwnL.ats {K:Frag}{H:Hp}{Z Z':Addr->Prop}:∀ {xs:List PV}{ws:List V}{d d':Nat},QQ.atoms xs=true->OwnL K H Z xs d' ws []->OwnL K H Z' xs d ws []
 | [],ws,d,_,_,h=>by rw [OwnL] at h ⊢;exact h
 | x::xs,ws,d,_,ha,h=>by
  unfold QQ.atoms at ha;rw [Ba] at ha;rw [OwnL] at h ⊢;obtain ⟨v,s,f1,f2,rfl,ef,dj,h1,h2⟩:=h;obtain ⟨rfl,rfl⟩:f1=[]/\f2=[]:=by simpa using ef.symm
  exact ⟨v,s,[],[],rfl,rfl,dj,(Own.atom ha.1 h1).2,h2.ats ha.2⟩
theorem Own.flat {K:Frag}{H:Hp}{Z Z':Addr->Prop}{x:PV}{v:V}{d d':Nat} (hx:O5 x=true) (h:Own K H Z x d' v []):Own K H Z' x d v []:=by
 cases x with
 | tup xs=>
  rw [Own] at h ⊢;obtain ⟨a,vs,e,ha,hl⟩:=h;exact ⟨a,vs,e,ha,hl.ats hx⟩
 | lst _=>cases hx
 | dct _=>cases hx
 | dcl _ _=>cases hx
 | exn _=>exact (Own.atom rfl h).2
 | emp=>exact (Own.atom rfl h).2
 | dko=>exact (Own.atom rfl h).2
 | scr _=>exact (Own.atom rfl h).2
 | non=>exact (Own.atom rfl h).2
 | bl _=>exact (Own.atom rfl h).2
 | int _=>exact (Own.atom rfl h).2
 | str _=>exact (Own.atom rfl h).2
theorem OwnL.ats0 {K:Frag}{H:Hp}{Z:Addr->Prop}:∀ {xs:List PV}{ws:List V}{d:Nat}{f:List Addr},QQ.atoms xs=true->OwnL K H Z xs d ws f->f=[]
 | [],ws,d,f,_,h=>by rw [OwnL] at h;exact h.2
 | x::xs,ws,d,f,ha,h=>by
  unfold QQ.atoms at ha;rw [Ba] at ha;rw [OwnL] at h;obtain ⟨v,s,f1,f2,rfl,rfl,dj,h1,h2⟩:=h;rw [(Own.atom (Z':=Z) (d':=d) ha.1 h1).1,h2.ats0 ha.2];rfl
def Own.flatA {K:Frag}{H:Hp}{Z Z':Addr->Prop}{x:PV}{v:V}{d d':Nat}{f:List Addr} (hx:O5 x=true) (h:Own K H Z x d v f):f=[]/\Own K H Z' x d' v []:=by
 have e:f=[]:=by
  cases x with
  | tup xs=>
   rw [Own] at h;obtain ⟨a,vs,e,ha,hl⟩:=h;exact hl.ats0 hx
  | lst _=>cases hx
  | dct _=>cases hx
  | dcl _ _=>cases hx
  | exn _=>exact (Own.atom (Z':=Z) (d':=d) rfl h).1
  | emp=>exact (Own.atom (Z':=Z) (d':=d) rfl h).1
  | dko=>exact (Own.atom (Z':=Z) (d':=d) rfl h).1
  | scr _=>exact (Own.atom (Z':=Z) (d':=d) rfl h).1
  | non=>exact (Own.atom (Z':=Z) (d':=d) rfl h).1
  | bl _=>exact (Own.atom (Z':=Z) (d':=d) rfl h).1
  | int _=>exact (Own.atom (Z':=Z) (d':=d) rfl h).1
  | str _=>exact (Own.atom (Z':=Z) (d':=d) rfl h).1
 subst e;exact ⟨rfl,h.flat hx⟩
theorem OwnL.atoms {K:Frag}{H:Hp}{Z Z':Addr->Prop}:∀ {xs:List PV}{ws:List V}{d:Nat},K0 xs=true->OwnL K H Z xs 0 ws []->OwnL K H Z' xs d ws []
 | [],ws,d,_,h=>by rw [OwnL] at h ⊢;exact h
 | x::xs,ws,d,ha,h=>by
  unfold K0 at ha;rw [Ba] at ha;rw [OwnL] at h ⊢;obtain ⟨v,s,f1,f2,rfl,ef,dj,h1,h2⟩:=h;obtain ⟨rfl,rfl⟩:f1=[]/\f2=[]:=by simpa using ef.symm
  exact ⟨v,s,[],[],rfl,rfl,dj,h1.flat ha.1,h2.atoms ha.2⟩
def JN {xs:List PV}{ws:List V} (h:BB M H fps vs F (.lst xs) (d1 xs) Q) (o:OwnL M.K H (Zv M vs fps) xs 0 ws []) {p:Addr} (hp:H p=none):Q (.ref p) (Ap H p (.lst ws)):=by
 unfold d1 at h;split at h
 ·rename_i ha;refine h (.ref p) _ [p] (Ea hp) ?_ λ a ha=>.inr (by rw [jb6.mp ha];exact hp);rw [Own];refine ⟨p,ws,rfl,.inr ⟨(by decide),[],Bp,rfl,(λ z=>nomatch z),?_⟩⟩;have o':OwnL M.K (Ap H p (.lst ws)) (Zv M vs fps) xs 0 ws []:=OwnL.move (S:=λ _=>False) (λ a u ha _=>Ea hp a u ha) (λ _ z=>z.elim) (λ _ _ n=>n) xs 0 ws [] (λ _ z=>nomatch z) o;exact o'.atoms ha
 ·exact PL h o hp
def Qp {xs:List PV}{ws:List V} (h:BB M H fps vs F (.tup xs) 0 Q) (o:OwnL M.K H (Zv M vs fps) xs 0 ws []) {p:Addr} (hp:H p=none):Q (.ref p) (Ap H p (.tup ws)):=by
 refine h (.ref p) _ [] (Ea hp) ?_ λ a ha=>nomatch ha
 rw [Own];refine ⟨p,ws,rfl,Bp,?_⟩;rw [Nd];exact OwnL.move (S:=λ _=>False) (λ a u ha _=>Ea hp a u ha) (λ _ z=>z.elim) (λ a hd nz z=>z.elim nz λ z=>nomatch z) xs 0 ws [] (λ _ z=>nomatch z) o
def Up {xs:List PV}{ws:List V} (h:BB M H fps vs F (.lst xs) om Q) {Z:Addr->Prop} (o:OwnL M.K H Z xs om ws F) {p:Addr} (hp:H p=none):Q (.ref p) (Ap H p (.lst ws)):=by
 refine h (.ref p) _ (p::F) (Ea hp) ?_ λ a ha=>(jb5.mp ha).elim (λ e=>.inr (by rw [e];exact hp)) .inl;rw [Own];refine ⟨p,ws,rfl,.inr ⟨(by decide),F,Bp,rfl,λ z=>?_,?_⟩⟩
 ·obtain ⟨ys,e⟩:=OwnL.lsts xs om ws F o p z;rw [hp] at e;cases e
 ·exact OwnL.full xs ws F (OwnL.move (S:=λ _=>False) (Z':=Z) (λ a u ha _=>Ea hp a u ha) (λ _ z=>z.elim) (λ _ _ n=>n) xs om ws F (λ _ _ z=>z) o)
def wY {xs:List PV}{ws:List V} (h:BB M H fps vs F (.tup xs) om Q) {Z:Addr->Prop} (o:OwnL M.K H Z xs om ws F) {p:Addr} (hp:H p=none):Q (.ref p) (Ap H p (.tup ws)):=by
 refine h (.ref p) _ F (Ea hp) ?_ λ a ha=>.inl ha;rw [Own];exact ⟨p,ws,rfl,Bp,OwnL.full xs ws F (OwnL.move (S:=λ _=>False) (Z':=Z) (λ a u ha _=>Ea hp a u ha) (λ _ z=>z.elim) (λ _ _ n=>n) xs om ws F (λ _ _ z=>z) o)⟩
end
def Own.seqL {K:Frag}{H:Hp}{Z:Addr->Prop}{xs:List PV}{d:Nat}{v:V}{fp:List Addr} (h:Own K H Z (.lst xs) d v fp):∃ a ws,v=.ref a/\Bi K H a ws/\ws.length=xs.length:=by
 rw [Own] at h;obtain ⟨a,ws,e,⟨_,hr,_,ol⟩ | ⟨_,f,ha,_,_,ol⟩⟩:=h
 ·exact ⟨a,ws,e,.inl (.inl hr.1),ol.length⟩
 ·exact ⟨a,ws,e,.inl (.inl ha),ol.length⟩
def Own.seqT {K:Frag}{H:Hp}{Z:Addr->Prop}{xs:List PV}{d:Nat}{v:V}{fp:List Addr} (h:Own K H Z (.tup xs) d v fp):∃ a ws,v=.ref a/\SqT K H a ws/\ws.length=xs.length:=by
 rw [Own] at h;obtain ⟨a,ws,e,hr,ol⟩:=h;exact ⟨a,ws,e,.inl (.inl hr),ol.length⟩
def Own.coldL {K:Frag}{H:Hp}{Z:Addr->Prop}{xs:List PV}{v:V} (h:Own K H Z (.lst xs) 0 v []):∃ a ws,v=.ref a/\H a=some (.lst ws)/\OwnL K H Z xs 0 ws []:=by
 rw [Own] at h;obtain ⟨a,ws,e,⟨_,hr,_,ol⟩ | ⟨h,_⟩⟩:=h
 ·exact ⟨a,ws,e,hr.1,ol⟩
 ·exact absurd rfl h
def Own.coldT {K:Frag}{H:Hp}{Z:Addr->Prop}{xs:List PV}{v:V} (h:Own K H Z (.tup xs) 0 v []):∃ a ws,v=.ref a/\H a=some (.tup ws)/\OwnL K H Z xs 0 ws []:=by
 rw [Own] at h;exact h
theorem OwnL.app {K:Frag}{H:Hp}{Z:Addr->Prop}:∀ {xs ys:List PV}{ws us:List V},OwnL K H Z xs 0 ws []->OwnL K H Z ys 0 us []->OwnL K H Z (xs++ys) 0 (ws++us) []
 | [],ys,ws,us,h,h'=>by rw [OwnL] at h;obtain ⟨rfl,_⟩:=h;exact h'
 | x::xs,ys,ws,us,h,h'=>by
  rw [OwnL] at h;obtain ⟨v,s,f1,f2,rfl,ef,dj,h1,h2⟩:=h;obtain ⟨rfl,rfl⟩:f1=[]/\f2=[]:=by simpa using ef.symm
  show OwnL K H Z (x::(xs++ys)) 0 (v::(s++us)) [];rw [OwnL];exact ⟨v,s++us,[],[],rfl,rfl,λ _ z=>(nomatch z),h1,h2.app h'⟩
theorem OwnL.drop {K:Frag}{H:Hp}{Z:Addr->Prop}:∀ {xs:List PV}{ws:List V} (n:Nat),OwnL K H Z xs 0 ws []->OwnL K H Z (xs.drop n) 0 (ws.drop n) []
 | xs,ws,0,h=>h
 | [],ws,n + 1,h=>by rw [OwnL] at h;obtain ⟨rfl,_⟩:=h;rw [Mo,Mo,OwnL];exact ⟨rfl,rfl⟩
 | x::xs,ws,n + 1,h=>by
  rw [OwnL] at h;obtain ⟨v,s,f1,f2,rfl,ef,dj,h1,h2⟩:=h;obtain ⟨rfl,rfl⟩:f1=[]/\f2=[]:=by simpa using ef.symm
  exact h2.drop n
theorem OwnL.take {K:Frag}{H:Hp}{Z:Addr->Prop}:∀ {xs:List PV}{ws:List V} (n:Nat),OwnL K H Z xs 0 ws []->OwnL K H Z (xs.take n) 0 (ws.take n) []
 | xs,ws,0,h=>by rw [Mr,Mr,OwnL];exact ⟨rfl,rfl⟩
 | [],ws,n + 1,h=>by rw [OwnL] at h;obtain ⟨rfl,_⟩:=h;rw [OX,OX,OwnL];exact ⟨rfl,rfl⟩
 | x::xs,ws,n + 1,h=>by
  rw [OwnL] at h;obtain ⟨v,s,f1,f2,rfl,ef,dj,h1,h2⟩:=h;obtain ⟨rfl,rfl⟩:f1=[]/\f2=[]:=by simpa using ef.symm
  rw [Tz,Tz,OwnL];exact ⟨v,s.take n,[],[],rfl,rfl,λ _ z=>(nomatch z),h1,h2.take n⟩
def OwnL.nth {K:Frag}{H:Hp}{Z:Addr->Prop}{xs:List PV}{ws:List V}{j:Nat}{x:PV} (h:OwnL K H Z xs 0 ws []) (e:xs[j]?=some x):∃ w,ws[j]?=some w/\Own K H Z x 0 w []:=by
 have hj:j < ws.length:=by rw [h.length];exact (jb0.mp e).1
 obtain ⟨y,e1,e2⟩:=h.get (i:=j) (w:=ws[j]) (by simp [hj]);rw [e] at e1;cases e1;exact ⟨_,by simp [hj],e2⟩
def cold {M:Fm}{vs:List Nat}{H:Hp}{fps:AU}{x:PV}{d:Nat}{v:V}{fp:List Addr} (o:Own M.K H (Zt M vs fps fp) x d v fp) (hf:∀ a∈fp,¬ Zf M fps a):Own M.K H (Zv M vs fps) x 0 v []:=
 Own.freeze (λ _ z=>.inl z) x d v fp (λ a ha z=>hf a ha z.zf) o
def Bo:PV->Nat->PV->Nat->Option (PV×Nat)
 | .int i,_,.int j,_=>some (.int (i + j),om)
 | .lst xs,_,.lst ys,_=>if xs.length + ys.length<=Aw then some (.lst (xs++ys),d1 (xs++ys)) else none
 | .tup xs,_,.tup ys,_=>if xs.length + ys.length<=Aw then some (.tup (xs++ys),0) else none
 | _,_,_,_=>none
def K6 (p:Int->Int->Bool) (g:Int->Int->Int):PV->Nat->PV->Nat->Option (PV×Nat)
 | .int i,_,.int j,_=>if p i j then some (.int (g i j),om) else none
 | _,_,_,_=>none
def Ga (i j:Int):Bool:=(decide (-(2 ^ 64) < i) && decide (i < 2 ^ 64)) || (decide (-(2 ^ 64) < j) && decide (j < 2 ^ 64))
def Gb (_ j:Int):Bool:=decide (0 < j) && decide (j.natAbs.log2 < 9000)
def HK (_ j:Int):Bool:=decide (0 < j)
def J7 (i j:Int):Bool:=decide (0<=j) && decide (j<=1000) && decide (i.natAbs < 2 ^ 64)
def Df:=K6 (λ _ _=>true) (λ i j=>i - j)
def Eh (n:Nat) (xs:List PV):List PV:=(AL n xs).flatten
def BX:PV->Nat->PV->Nat->Option (PV×Nat)
 | .int i,_,.int j,_=>if Ga i j then some (.int (i * j),om) else none
 | .lst xs,_,.int k,_=>if -(2 ^ 62)<=k/\k < 2 ^ 62/\xs.length * k.toNat<=Aw then some (.lst (Eh k.toNat xs),d1 (Eh k.toNat xs)) else none
 | _,_,_,_=>none
def GW:=K6 Gb (λ i j=>i / j)
def CO:=K6 HK (λ i j=>i % j)
def Xe:=K6 J7 (λ i j=>i ^ j.toNat)
section
variable {X:Cx}
def vz:OpR X (EI .FloorDiv) (rI (λ _ j=>0 < j/\j.natAbs.log2 < 9000) λ i j=>.int (i / j)):=Mi λ i j _ _ _ _ _ hc q=>by
 have h1:(0:Int) < j:=hc.1;exact floordiv_int (by omega) (by rw [Int.fdiv_eq_ediv_of_nonneg i (by omega)];exact q) (.inl (PyProof.noPylong_of_log2 hc.2))
end
def BQ {X:Cx}{e:Expr}{t t':TE} (h:PE X e t) (i:∀ σ H Q,t' σ H Q->t σ H Q):PE X e t':=λ pins s σ H Q I q=>h pins s σ H Q I (i σ H Q q)
def Kf {X:Cx}{e:Expr}{t t':TT} (h:PT X e t) (i:∀ σ H Q,t' σ H Q->t σ H Q):PT X e t':=λ pins s σ H Q I q=>h pins s σ H Q I (i σ H Q q)
def Wy {X:Cx}{e:Expr}{t t':TT} (h:PW X e t) (i:∀ σ H Q,t' σ H Q->t σ H Q):PW X e t':=λ wh pins s σ H Q I q=>h wh pins s σ H Q I (i σ H Q q)
def VY {X:Cx}{e:List Expr}{t t':TA} (h:PA X e t) (i:∀ σ H Q,t' σ H Q->t σ H Q):PA X e t':=λ p pins s σ H Q I q=>h p pins s σ H Q I (i σ H Q q)
def C9 {X:Cx}{e:Stmt}{t t':TS} (h:PS X e t) (i:∀ D σ H,t' D σ H->t D σ H):PS X e t':=λ pins s σ H D I q=>h pins s σ H D I (i D σ H q)
def WV {X:Cx}{e:List Stmt}{t t':TS} (h:En X e t) (i:∀ D σ H,t' D σ H->t D σ H):En X e t':=λ pins s σ H D I q=>h pins s σ H D I (i D σ H q)
section
variable {X:Cx}{M:Fm}{a b:Expr}{f g:Fx}{vs vs':List Nat}{pos:Pos}{σ:St}{H:Hp}{Q:VK}
def vy:OpR X (EI .Add) (λ x y H Q=>∃ a b ys,x=.ref a/\y=.ref b/\SqT X.K H a []/\SqT X.K H b ys/\Q (.ref b) H):=by
 intro pins s σ H x y v u Q I rx ry h;obtain ⟨a,b,ys,rfl,rfl,ha,hb,q⟩:=h;cases rx;cases ry;obtain ⟨its,r1,p1,_⟩:=I.tuple ha;obtain ⟨its2,r2,p2,_⟩:=I.tuple hb;cases r1;obtain ⟨⟨cls,dd,data,sl⟩,ho,hc,n,hd⟩:=id p1;obtain ⟨⟨cls2,dd2,data2,sl2⟩,ho2,hc2,n2,hd2⟩:=id p2;simp only at hc hd hc2 hd2;subst hc hd hc2 hd2;exact concat_meets ⟨_,ho,rfl⟩ ⟨_,ho2,rfl⟩ QB seq_tuple_add Rh Ri (Rj _ _)
  (tuple_addW0 a b _ its2.toArray n n2 dd dd2 sl sl2 rfl) ⟨ho,ho2,⟨.ref b,H,I,rfl,q⟩⟩
theorem xQ (hv:∀ i∈vs,M.Ms i=false) (hK:M.K=X.K) (ha:PE X a (tE M f vs)) (hb:PE X b (tE M g vs')):PE X (.BinOp a .Add b pos) (tE M (Ab Bo f g) (vs++vs')):=by
 refine BQ (RM (qrv.or (qru.or (qnj.or vy))) ha hb) λ σ H Q h=>EF hv (λ x d y e z c v w H fps f1 f2 Q ho o1 o2 dj nz zd lf=>?_) h;cases x with
 | int i=>
  cases y with
  | int j=>
   cases ho;rw [Own] at o1 o2;exact .inl ⟨i,j,o1.1,o2.1,DY lf⟩
  | _=>cases ho
 | lst xs=>
  cases y with
  | lst ys=>
   dsimp only [Bo] at ho;split at ho
   ·rename_i hl;cases ho;obtain ⟨p,ws,rfl,hp,ol⟩:=(cold o1 λ a ha=>nz a (BU _ ha)).coldL;obtain ⟨p2,us,rfl,hp2,ol2⟩:=(cold o2 λ a ha=>nz a (BV _ ha)).coldL;exact .inr (.inl ⟨p,p2,ws,us,rfl,rfl,hp,hp2,by rw [ol.length,ol2.length];exact hl,λ q hq=>JN lf (ol.app ol2) hq⟩)
   ·cases ho
  | _=>cases ho
 | tup xs=>
  cases y with
  | tup ys=>
   dsimp only [Bo] at ho;split at ho
   ·rename_i hl;cases ho;obtain ⟨p,ws,rfl,hp,ol⟩:=(cold o1 λ a ha=>nz a (BU _ ha)).coldT;obtain ⟨p2,us,rfl,hp2,ol2⟩:=(cold o2 λ a ha=>nz a (BV _ ha)).coldT;by_cases hw:ws=[]
    ·subst hw;refine .inr (.inr (.inr ⟨p,p2,us,rfl,rfl,.inl (.inl hp),.inl (.inl hp2),?_⟩));have ex:xs=[]:=by
      have:=ol.length
      cases xs with
      | nil=>rfl
      | cons _ _=>simp at this
     subst ex;exact Kb (x:=.tup ys) lf (by rw [Own];exact ⟨p2,us,rfl,hp2,ol2⟩)
    ·refine .inr (.inr (.inl ⟨p,p2,ws,us,rfl,rfl,.inl (.inl hp),.inl (.inl hp2),hw,by rw [ol.length,ol2.length];exact hl,λ hu=>?_,λ hu q hq=>Qp lf (ol.app ol2) hq⟩));subst hu;have ey:ys=[]:=by
      have:=ol2.length
      cases ys with
      | nil=>rfl
      | cons _ _=>simp at this
     subst ey;rw [JB] at lf;exact Kb (x:=.tup xs) lf (by rw [Own];exact ⟨p,ws,rfl,hp,ol⟩)
   ·cases ho
  | _=>cases ho
 | _=>cases ho
theorem OO {op:IB}{p:Int->Int->Bool}{k:Int->Int->Int}{C:Int->Int->Prop} (hop:OpR X (EI op) (rI C λ i j=>.int (k i j))) (hC:∀ i j,p i j=true->C i j) (hv:∀ i∈vs,M.Ms i=false) (ha:PE X a (tE M f vs)) (hb:PE X b (tE M g vs')):
  PE X (.BinOp a op b pos) (tE M (Ab (K6 p k) f g) (vs++vs')):=by
 refine BQ (RM hop ha hb) λ σ H Q h=>EF hv (λ x d y e z c v w H fps f1 f2 Q ho o1 o2 dj nz zd lf=>?_) h;cases x with
 | int i=>
  cases y with
  | int j=>
   dsimp only [K6] at ho;split at ho
   ·rename_i hp;cases ho;rw [Own] at o1 o2;exact ⟨i,j,o1.1,o2.1,hC i j hp,DY lf⟩
   ·cases ho
  | _=>cases ho
 | _=>cases ho
theorem OwnL.rep {K:Frag}{H:Hp}{Z:Addr->Prop}{xs:List PV}{ws:List V} (h:OwnL K H Z xs 0 ws []):∀ n,OwnL K H Z (Eh n xs) 0 (AL n ws).flatten []
 | 0=>by
  unfold Eh;rw [Zk,Zk,YW,YW,OwnL];exact ⟨rfl,rfl⟩
 | n + 1=>by
  have:=h.rep n
  unfold Eh at this ⊢;rw [Gh,Gh,KI,KI];exact h.app this
def j0:OpR X (EI .Sub) (rI (λ _ _=>True) λ i j=>.int (i - j)):=Mi λ _ _ _ _ _ _ _ _ q=>sub_int q
def TL {i j:Int} (h:Ga i j=true):CMul i j:=by
 unfold Ga at h;simp only [Gf,Ba,decide_eq_true_eq] at h;exact h
theorem zJ (hv:∀ i∈vs,M.Ms i=false) (ha:PE X a (tE M f vs)) (hb:PE X b (tE M g vs')):PE X (.BinOp a .Mult b pos) (tE M (Ab BX f g) (vs++vs')):=by
 refine BQ (RM (qrl.or xh) ha hb) λ σ H Q h=>EF hv (λ x d y e z c v w H fps f1 f2 Q ho o1 o2 dj nz zd lf=>?_) h;cases x with
 | int i=>
  cases y with
  | int j=>
   dsimp only [BX] at ho;split at ho
   ·rename_i hp;cases ho;rw [Own] at o1 o2;exact .inl ⟨i,j,o1.1,o2.1,TL hp,DY lf⟩
   ·cases ho
  | _=>cases ho
 | lst xs=>
  cases y with
  | int k=>
   dsimp only [BX] at ho;split at ho
   ·rename_i hl;cases ho;obtain ⟨p,ws,rfl,hp,ol⟩:=(cold o1 λ a ha=>nz a (BU _ ha)).coldL;rw [Own] at o2;exact .inr ⟨p,k,ws,rfl,o2.1,hp,by omega,by omega,by rw [ol.length];exact hl.2.2,λ q hq=>JN lf (ol.rep k.toNat) hq⟩
   ·cases ho
  | _=>cases ho
 | _=>cases ho
def TN {i j:Int} (h:Gb i j=true):0 < j/\j.natAbs.log2 < 9000:=by
 unfold Gb at h;simp only [Ba,decide_eq_true_eq] at h;exact h
def TM {i j:Int} (h:HK i j=true):0 < j:=by
 unfold HK at h;simpa using h
def TK {i j:Int} (h:J7 i j=true):MB i j:=by
 unfold J7 at h;simp only [Ba,decide_eq_true_eq] at h;exact ⟨h.1.1,by omega,h.2⟩
def Il:PV->Nat->Option (PV×Nat)
 | .int i,_=>some (.int (-i),om)
 | _,_=>none
theorem zK (ha:PE X a (tE M f vs)):PE X (.UnaryOp .USub a pos) (tE M (AN Il f) vs):=by
 refine BQ (qK zF ha) λ σ H Q h=>O8 (λ x d z c v H fps f1 Q ho o1 nz zd lf=>?_) h;cases x with
 | int i=>cases ho;rw [Own] at o1;exact ⟨i,o1.1,DY lf⟩
 | _=>cases ho
def Dg (p:Int->Int->Bool):PV->Nat->PV->Nat->Option (PV×Nat)
 | .int i,_,.int j,_=>some (.bl (p i j),om)
 | _,_,_,_=>none
theorem Nm {p:Int->Int->Bool}{x y z:PV}{d e c:Nat}{v w:V}{fps:AU}{f1 f2 F:List Addr}{Z Z':Addr->Prop} (ho:Dg p x d y e=some (z,c)) (o1:Own M.K H Z x d v f1) (o2:Own M.K H Z' y e w f2) (lf:BB M H fps vs F z c Q):Fp (λ i j=>.bl (p i j)) v w H Q:=by
 cases x with
 | int i=>
  cases y with
  | int j=>
   cases ho;rw [Own] at o1 o2;exact ⟨i,j,o1.1,o2.1,Hf lf⟩
  | _=>cases ho
 | _=>cases ho
def Cz (f:PV->Option FQ):List PV->Option (List FQ)
 | []=>some []
 | x::xs=>match f x,Cz f xs with
  | some a,some r=>some (a::r)
  | _,_=>none
def CT:Nat->PV->Option FQ
 | 0,_=>none
 | n + 1,x=>match x with
  | .non=>some .none
  | .bl b=>some (.bool b)
  | .int i=>some (.int i)
  | .str z=>if PyData.strOk z=true then some (.str z) else none
  | .lst xs=>(Cz (CT n) xs).map .list
  | .tup xs=>(Cz (CT n) xs).map .tuple
  | _=>none
def Br (neg:Bool) (x:PV) (_:Nat) (y:PV) (_:Nat):Option (PV×Nat):=match CT 20 x,CT 20 y with
 | some a,some b=>some (.bl (neg^^FT a b),om)
 | _,_=>none
theorem KZ {f:PV->Option FQ}{n:Nat} (hf:∀ x D,f x=some D->D.canLay0=true/\D.depth<=n):∀ {xs:List PV}{Ds:List FQ},Cz f xs=some Ds->QN Ds=true/\Ju Ds<=n
 | [],Ds,h=>by cases h;rw [QN,Ju];exact ⟨rfl,Ft _⟩
 | x::xs,Ds,h=>by
  unfold Cz at h;split at h
  ·rename_i a r h1 h2;cases h;have h3:=hf x a h1;have h4:=KZ hf h2;rw [QN,Ju,h3.1,h4.1];exact ⟨rfl,Nat.max_le.mpr ⟨h3.2,h4.2⟩⟩
  ·cases h
theorem GF:∀ (n:Nat) (x:PV) (D:FQ),CT n x=some D->D.canLay0=true/\D.depth<=n
 | 0,_,_,h=>by cases h
 | n + 1,x,D,h=>by
  unfold CT at h;cases x with
  | non=>cases h;rw [Kp,PyData.depth] <;> first | exact ⟨rfl,Ft _⟩ | (intros;contradiction)
  | bl b=>cases h;rw [Kp,PyData.depth] <;> first | exact ⟨rfl,Ft _⟩ | (intros;contradiction)
  | int i=>cases h;rw [Kp,PyData.depth] <;> first | exact ⟨rfl,Ft _⟩ | (intros;contradiction)
  | str z=>
   dsimp only at h;split at h
   ·rename_i hz;cases h;rw [Kp,PyData.depth] <;> first | exact ⟨hz,Ft _⟩ | (intros;contradiction)
   ·cases h
  | lst xs=>
   obtain ⟨Ds,e,rfl⟩:=jb9.mp h
   have:=KZ (GF n) e
   rw [Kp,PyData.depth];exact ⟨this.1,YV this.2⟩
  | tup xs=>
   obtain ⟨Ds,e,rfl⟩:=jb9.mp h
   have:=KZ (GF n) e
   rw [Kp,PyData.depth];exact ⟨this.1,YV this.2⟩
  | emp=>cases h
  | dko=>cases h
  | scr ns=>cases h
  | dct _=>cases h
  | dcl _ _=>cases h
  | exn _=>cases h
theorem GZ {pins:List (Addr×Obj)}{s:Ai}{Z:Addr->Prop} (I:L2.Inv X pins σ H s):∀ (n:Nat) (x:PV) (d:Nat) (v:V) (fp:List Addr) (u:Ad) (D:FQ),CT n x=some D->Own X.K H Z x d v fp->RelV v u->∃ as,Reads s.heap u D as
 | 0,_,_,_,_,_,_,h,_,_=>by cases h
 | n + 1,x,d,v,fp,u,D,h,o,r=>by
  have all:∀ (xs:List PV) (d:Nat) (ws:List V) (fp:List Addr) (us:List Ad) (Ds:List FQ),Cz (CT n) xs=some Ds->OwnL X.K H Z xs d ws fp->Vals ws us->∃ as,ReadsAll s.heap us Ds as:=λ xs=>by
   induction xs with
   | nil=>
    intro d ws fp us Ds h o r;cases h;rw [OwnL] at o;obtain ⟨rfl,_⟩:=o;cases r;exact ⟨_,.nil⟩
   | cons y ys ih=>
    intro d ws fp us Ds h o r;unfold Cz at h;split at h
    ·rename_i a rr h1 h2;cases h;rw [OwnL] at o;obtain ⟨v,s,f1,f2,rfl,_,_,o1,o2⟩:=o;cases r with
     | cons r1 r2=>
      obtain ⟨as,ra⟩:=GZ I n y d v f1 _ a h1 o1 r1;obtain ⟨bs,rb⟩:=ih d s f2 _ rr h2 o2 r2;exact ⟨_,.cons ra rb⟩
    ·cases h
  unfold CT at h;cases x with
  | non=>cases h;rw [Own] at o;obtain ⟨rfl,_⟩:=o;cases r;exact ⟨_,.none⟩
  | bl b=>cases h;rw [Own] at o;obtain ⟨rfl,_⟩:=o;cases r;exact ⟨_,.bool b⟩
  | int i=>cases h;rw [Own] at o;obtain ⟨rfl,_⟩:=o;obtain ⟨t,rfl⟩:=r;exact ⟨_,.int i t⟩
  | str z=>
   dsimp only at h;split at h
   ·cases h;rw [Own] at o;obtain ⟨rfl,_⟩:=o;obtain ⟨t,rfl⟩:=r;exact ⟨_,.str z t⟩
   ·cases h
  | lst xs=>
   obtain ⟨Ds,e,rfl⟩:=jb9.mp h;have hh:∃ a ws d' f,v=.ref a/\H a=some (.lst ws)/\OwnL X.K H Z xs d' ws f:=by
    rw [Own] at o;obtain ⟨a,ws,ev,⟨_,hr,_,ol⟩ | ⟨_,f,ha,_,_,ol⟩⟩:=o
    ·exact ⟨a,ws,_,_,ev,hr.1,ol⟩
    ·exact ⟨a,ws,_,_,ev,ha,ol⟩
   obtain ⟨a,ws,d',f,rfl,ha,ol⟩:=hh;cases r;obtain ⟨its,rv,⟨ob,nn,e1,e2,e3,e4⟩,_⟩:=I.list (.inl (.inl ha));obtain ⟨as,ra⟩:=all xs d' ws f its Ds e ol rv;exact ⟨_,.list e1 e2 e4 ra⟩
  | tup xs=>
   obtain ⟨Ds,e,rfl⟩:=jb9.mp h;rw [Own] at o;obtain ⟨a,ws,rfl,ha,ol⟩:=o;cases r;obtain ⟨its,rv,⟨ob,e1,e2,nn,e4⟩,_⟩:=I.tuple (.inl (.inl ha));obtain ⟨as,ra⟩:=all xs _ ws fp its Ds e ol rv;exact ⟨_,.tuple e1 e2 e4 ra⟩
  | emp=>cases h
  | dko=>cases h
  | scr ns=>cases h
  | dct _=>cases h
  | dcl _ _=>cases h
  | exn _=>cases h
def J1 (K:Frag) (neg:Bool):R2:=λ v w H Q=>∃ x y d e Z Z' f1 f2 a b,Own K H Z x d v f1/\Own K H Z' y e w f2/\CT 20 x=some a/\CT 20 y=some b/\Q (.bl (neg^^FT a b)) H
def qY (hu:X.A.units + 64 < D9):OpR X (CC .Eq) (J1 X.K false):=by
 intro pins s σ H v w u u' Q I rx ry h;obtain ⟨x,y,d,e,Z,Z',f1,f2,a,b,o1,o2,h1,h2,q⟩:=h;obtain ⟨as,ra⟩:=GZ I 20 x d v f1 u a h1 o1 rx;obtain ⟨bs,rb⟩:=GZ I 20 y e w f2 u' b h2 o2 ry;have l1:=GF 20 x a h1;have l2:=GF 20 y b h2;exact SeqAt.compareEq_reads ra rb l1.1 l2.1 (by have:=Tp a.depth b.depth;omega) ⟨.bl _,H,I,rfl,by simpa using q⟩
def xf (hu:X.A.units + 64 < D9):OpR X (CC .NotEq) (J1 X.K true):=by
 intro pins s σ H v w u u' Q I rx ry h;obtain ⟨x,y,d,e,Z,Z',f1,f2,a,b,o1,o2,h1,h2,q⟩:=h;obtain ⟨as,ra⟩:=GZ I 20 x d v f1 u a h1 o1 rx;obtain ⟨bs,rb⟩:=GZ I 20 y e w f2 u' b h2 o2 ry;have l1:=GF 20 x a h1;have l2:=GF 20 y b h2;exact SeqAt.compareNe_reads ra rb l1.1 l2.1 (by have:=Tp a.depth b.depth;omega) ⟨.bl _,H,I,rfl,by simpa using q⟩
def X6 {neg:Bool}{x y z:PV}{d e c:Nat}{v w:V}{fps:AU}{f1 f2 F:List Addr}{Z Z':Addr->Prop} (hK:M.K=X.K) (ho:Br neg x d y e=some (z,c)) (o1:Own M.K H Z x d v f1) (o2:Own M.K H Z' y e w f2) (lf:BB M H fps vs F z c Q):J1 X.K neg v w H Q:=by
 rw [hK] at o1 o2;unfold Br at ho;split at ho
 ·rename_i a b ea eb;cases ho;exact ⟨x,y,d,e,Z,Z',f1,f2,a,b,o1,o2,ea,eb,Hf lf⟩
 ·cases ho
def Cp:List PV->Option (List Ax)
 | []=>some []
 | .int i::r=>(Cp r).map (.inl i::·)
 | .str x::r=>(Cp r).map (.inr x::·)
 | _=>none
theorem JU {K:Frag}{Z:Addr->Prop}:∀ {xs:List PV}{ws:List V}{d:Nat}{fp:List Addr}{k:List Ax},Cp xs=some k->OwnL K H Z xs d ws fp->ws=k.map kV
 | [],ws,d,fp,k,e,h=>by cases e;rw [OwnL] at h;exact h.1
 | .int i::r,ws,d,fp,k,e,h=>by
  obtain ⟨k',e1,rfl⟩:=jb9.mp e;rw [OwnL] at h;obtain ⟨v,s,f1,f2,rfl,ef,dj,h1,h2⟩:=h;rw [Own] at h1;rw [h1.1,JU e1 h2];rfl
 | .str i::r,ws,d,fp,k,e,h=>by
  obtain ⟨k',e1,rfl⟩:=jb9.mp e;rw [OwnL] at h;obtain ⟨v,s,f1,f2,rfl,ef,dj,h1,h2⟩:=h;rw [Own] at h1;rw [h1.1,JU e1 h2];rfl
 | .non::_,_,_,_,_,e,_=>by cases e
 | .bl _::_,_,_,_,_,e,_=>by cases e
 | .lst _::_,_,_,_,_,e,_=>by cases e
 | .tup _::_,_,_,_,_,e,_=>by cases e
 | .emp::_,_,_,_,_,e,_=>by cases e
 | .dko::_,_,_,_,_,e,_=>by cases e
 | .scr _::_,_,_,_,_,e,_=>by cases e
 | .dct _::_,_,_,_,_,e,_=>by cases e
 | .dcl _ _::_,_,_,_,_,e,_=>by cases e
 | .exn _::_,_,_,_,_,e,_=>by cases e
def ES:List (List Ax)->List PV->List Ax->Option PV
 | k'::ks,x::xs,k=>if k'=k then some x else ES ks xs k
 | _,_,_=>none
theorem Sv {K:Frag}{Z:Addr->Prop}{k:List Ax}:∀ {ks:List (List Ax)}{xs:List PV}{ws:List V},OwnL K H Z xs 0 ws []->ks.length=xs.length->(∀ x,ES ks xs k=some x->∃ w,Cm (ks.zip ws) k=some w/\Own K H Z x 0 w [])/\(ES ks xs k=none->Cm (ks.zip ws) k=none)
 | [],[],ws,h,_=>⟨λ x e=>(nomatch e),λ _=>rfl⟩
 | [],_::_,ws,h,e=>by cases e
 | _::_,[],ws,h,e=>by cases e
 | k'::ks,x::xs,ws,h,e=>by
  rw [OwnL] at h;obtain ⟨v,s,f1,f2,rfl,ef,_,o1,o2⟩:=h;obtain ⟨rfl,rfl⟩:f1=[]/\f2=[]:=by simpa using ef.symm
  have ih:=Sv (k:=k) o2 (by simpa using e);rw [Pl];unfold ES;by_cases hk:k'=k
  ·rw [if_pos hk,Nz (p:=(k',v)) hk];exact ⟨λ y ey=>by cases ey;exact ⟨v,rfl,o1⟩,λ z=>(nomatch z)⟩
  ·rw [if_neg hk,Ny (p:=(k',v)) hk];exact ih
def Ay:PV->Nat->PV->Nat->Option (PV×Nat)
 | .lst xs,_,.int i,_=>(BJ xs i).map λ z=>(z,dv z)
 | .tup xs,_,.int i,_=>(BJ xs i).map λ z=>(z,dv z)
 | .scr ns,_,.int i,_=>(BJ ns i).map λ z=>(.int z,om)
 | .str z,_,.int i,_=>if z.length<=Aw then (BJ z.cps.toList i).map λ c=>(.str ⟨#[c]⟩,om) else none
 | .dcl ks xs,_,.tup key,_=>(match Cp key with
  | some k=>(ES ks xs k).map λ z=>(z,dv z)
  | none=>none)
 | _,_,_,_=>none
def ZU:R2:=λ x y H Q=>∃ a v,x=.ref a/\Ff H a y (some v)/\Q v H
def jG (hu:X.A.units + 1 < D9):IxR X ZU:=by
 intro value slice pins s σ H x y v u Q I rx ry h hs;obtain ⟨a,w,rfl,g,q⟩:=h;obtain rfl:v=Value.ref a:=rx;exact tail_any (yO I g) PySem.F.slot_dict_getitem.lookup (wC hu I g ry λ w' s' I' rw'=>⟨w,H,I',rw',q⟩) hs
def Own.dcl0 {K:Frag}{Z:Addr->Prop}{ks:List (List Ax)}{xs:List PV}{v:V} (h:Own K H Z (.dcl ks xs) 0 v []):∃ a ws,v=.ref a/\ks.length=xs.length/\Rd H a (.dT (ks.zip ws))/\¬ Z a/\OwnL K H Z xs 0 ws []:=by
 rw [Own] at h;obtain ⟨a,ws,e,en,⟨_,hr,_,ol⟩ | ⟨h,_⟩⟩:=h
 ·exact ⟨a,ws,e,en,hr.1,hr.2,ol⟩
 ·exact absurd rfl h
theorem SO {K:Frag}{Z:Addr->Prop}{xs:List PV}{ws:List V}{i:Int}{z:PV} (ol:OwnL K H Z xs 0 ws []) (e:BJ xs i=some z):∃ w,BJ ws i=some w/\Own K H Z z 0 w []:=by
 unfold BJ at e ⊢;rw [ol.length];cases ej:DM xs.length i with
 | none=>rw [ej] at e;cases e
 | some j=>rw [ej] at e;exact ol.nth e
theorem Wb (hu:X.A.units + 1 < D9) (hv:∀ i∈vs,M.Ms i=false) (hK:M.K=X.K) (hs:MP b) (ha:PE X a (tE M f vs)) (hb:PE X b (tE M g vs')):PE X (.Subscript a b pos) (tE M (Ab Ay f g) (vs++vs')):=by
 refine BQ (Vy (qlf.or (jG hu)) ha hb hs) λ σ H Q h=>EF hv (λ x d y e z c v w H fps f1 f2 Q ho o1 o2 dj nz zd lf=>?_) h;cases y with
 | int i=>
  rw [Own] at o2;cases x with
  | lst xs=>
   dsimp only [Ay] at ho;obtain ⟨z',ez,e2⟩:=jb9.mp ho;cases e2;obtain ⟨p,ws,rfl,hp,ol⟩:=(cold o1 λ a ha=>nz a (BU _ ha)).coldL;obtain ⟨w',e1,ow⟩:=SO ol ez;exact .inl (.inl ⟨p,ws,i,w',rfl,o2.1,.inl (.inl hp),e1,Kb lf ow⟩)
  | tup xs=>
   dsimp only [Ay] at ho;obtain ⟨z',ez,e2⟩:=jb9.mp ho;cases e2;obtain ⟨p,ws,rfl,hp,ol⟩:=(cold o1 λ a ha=>nz a (BU _ ha)).coldT;obtain ⟨w',e1,ow⟩:=SO ol ez;exact .inl (.inr (.inl ⟨p,ws,i,w',rfl,o2.1,.inl (.inl hp),e1,Kb lf ow⟩))
  | scr ns=>
   dsimp only [Ay] at ho;obtain ⟨z',ez,e2⟩:=jb9.mp ho;cases e2;rw [Own] at o1;obtain ⟨_,p,rfl,hp⟩:=o1;refine .inl (.inl ⟨p,ns.map V.int,i,.int z',rfl,o2.1,?_,?_,DY lf⟩)
   ·rw [<- hK];exact hp.elim (λ h=>.inl (.inr h)) .inr
   ·unfold BJ at ez ⊢;rw [A8];cases ej:DM ns.length i with
    | none=>rw [ej] at ez;cases ez
    | some j=>
     rw [ej] at ez;show (ns.map V.int)[j]?=_;rw [C5]
     have:ns[j]?=some z':=ez
     rw [this];rfl
  | str z=>
   dsimp only [Ay] at ho;split at ho
   ·rename_i hl;obtain ⟨c',ez,e2⟩:=jb9.mp ho;cases e2;rw [Own] at o1;exact .inl (.inr (.inr ⟨z,i,c',o1.1,o2.1,hl,ez,vi lf⟩))
   ·cases ho
  | _=>cases ho
 | tup key=>
  cases x with
  | dcl ks xs=>
   dsimp only [Ay] at ho;split at ho
   ·rename_i k ek;obtain ⟨z',ez,e2⟩:=jb9.mp ho;cases e2;obtain ⟨a,ws,rfl,en,hr,nz',ol⟩:=(cold o1 λ a ha=>nz a (BU _ ha)).dcl0;obtain ⟨w',ew,ow⟩:=(Sv (k:=k) ol en).1 _ ez;rw [Own] at o2;obtain ⟨b,us,rfl,hb,okey⟩:=o2
    have:=JU ek okey
    subst this;exact .inr ⟨a,w',rfl,.inr ⟨_,k,b,hr,rfl,hb,ew.symm⟩,Kb lf ow⟩
   ·cases ho
  | _=>cases ho
 | _=>cases x <;> cases ho
def HQ:Option Fx->Ae->Rz (Option Int×Ae)
 | none,ρ=>.ok (none,ρ)
 | some f,ρ=>(f ρ).bind λ (x,_,ρ1)=>match x with
  | .int i=>.ok (some i,ρ1)
  | _=>.no
def Cb (xs:List PV) (lo hi:Option Int):List PV:=(xs.drop (HT.sIx xs.length 0 lo)).take (HT.sIx xs.length xs.length hi - HT.sIx xs.length 0 lo)
def DI (x:PV) (lo hi:Option Int):Option (PV×Nat):=match x with
 | .lst xs=>some (.lst (Cb xs lo hi),d1 (Cb xs lo hi))
 | .tup xs=>if HT.sIx xs.length 0 lo=0/\HT.sIx xs.length xs.length hi=xs.length then none else some (.tup (Cb xs lo hi),0)
 | _=>none
def Dc (f:Fx) (lo hi:Option Fx):Fx:=λ ρ=>(f ρ).bind λ (x,_,ρ1)=>(HQ lo ρ1).bind λ (l,ρ2)=>(HQ hi ρ2).bind λ (u,ρ3)=>match DI x l u with
 | some (z,c)=>.ok (z,c,ρ3)
 | none=>.no
def tO (M:Fm):Option (Fx×List Nat)->TO
 | none=>Xn
 | some (f,vs)=>V8 (tE M f vs)
theorem Xo {o:Option (Fx×List Nat)}{ρ:Ae}{fps:AU}{R:Option Int->Hp->Prop} (rep:Rep M ρ σ H fps)
  (q:match HQ (o.map (·.1)) ρ with
   | .ok (l,ρ')=>∀ H' fps',KD M H fps H' fps'->Agr M ρ ρ'->Rep M ρ' σ H' fps'->R l H'
   | .exc c=>∀ H' fps',KD M H fps H' fps'->M.W σ c H'
   | .no=>False):tO M o σ H R:=by
 cases o with
 | none=>exact q H fps KD.refl Agr.refl rep
 | some p=>
  obtain ⟨f,vs⟩:=p;refine ⟨ρ,fps,rep,?_⟩;dsimp only [Y6,HQ] at q;cases ef:f ρ with
  | no=>rw [ef] at q;exact q
  | exc c=>rw [ef] at q;exact q
  | ok p=>
   obtain ⟨x,d,ρ1⟩:=p;rw [ef] at q;intro v H1 fps1 f1 k1 g1 rep1 o1 t1;dsimp only [Rz.bind] at q;cases x with
   | int i=>rw [Own] at o1;exact ⟨i,o1.1,q H1 fps1 k1 g1 rep1⟩
   | _=>exact q.elim
theorem RT {lo hi:Option (Fx×List Nat)} (hv:∀ i∈vs,M.Ms i=false) (hK:M.K=X.K) {σ:St}{H:Hp}{Q:VK} (hq:tE M (Dc f (lo.map (·.1)) (hi.map (·.1))) vs σ H Q):Ve (λ x lo hi H Q=>LK X.K x lo hi H Q\/LJ X.K x lo hi H Q) (tE M f vs) (tO M lo) (tO M hi) σ H Q:=by
 obtain ⟨ρ,fps,rep,q⟩:=hq;refine ⟨ρ,fps,rep,?_⟩;unfold Dc at q;cases ef:f ρ with
 | no=>rw [ef] at q;exact q
 | exc c=>rw [ef] at q;exact q
 | ok p=>
  obtain ⟨x,d,ρ1⟩:=p;rw [ef] at q;intro v H1 fps1 f1 k1 g1 rep1 o1 t1;dsimp only [Rz.bind] at q;refine Xo rep1 ?_;cases el:HQ (lo.map (·.1)) ρ1 with
  | no=>rw [el] at q;exact q
  | exc c=>rw [el] at q;exact λ H' fps' k=>q H' fps' (k1.trans k)
  | ok p2=>
   obtain ⟨l,ρ2⟩:=p2;rw [el] at q;intro H2 fps2 k2 g2 rep2;refine Xo rep2 ?_;dsimp only at q;cases eh:HQ (hi.map (·.1)) ρ2 with
   | no=>rw [eh] at q;exact q
   | exc c=>rw [eh] at q;exact λ H' fps' k=>q H' fps' ((k1.trans k2).trans k)
   | ok p3=>
    obtain ⟨u,ρ3⟩:=p3;rw [eh] at q;intro H3 fps3 k3 g3 rep3;dsimp only at q;have kk:=k2.trans k3;have o3:=kk.stay rep1 hv o1 t1.ndj;have n3:∀ a∈f1,¬ Zf M fps3 a:=λ a ha z=>by
     rcases z with z | ⟨i,z⟩
     ·exact t1.ndj a ha (.inl z)
     ·rcases kk.sub i a z with z | z
      ·exact t1.ndj a ha (.inr ⟨i,z⟩)
      ·obtain ⟨xs,e⟩:=Own.lsts x d v f1 o1 a ha;rw [z] at e;cases e
    have back:∀ a,H3 a=none->H a=none:=λ a e=>by
     cases e':H a with
     | none=>rfl
     | some o=>exact absurd e ((k1.trans kk).dom a (by rw [e'];simp))
    cases eo:DI x l u with
    | none=>rw [eo] at q;exact q.elim
    | some zc=>
     obtain ⟨z,c⟩:=zc;rw [eo] at q;have lf:BB M H3 fps3 vs f1 z c Q:=λ w H4 fp k4 o4 hfp=>q w H4 fps3 fp ((k1.trans kk).trans (KD.grow k4)) (g1.trans (g2.trans g3)) (rep3.grow k4) o4 ⟨λ a ha=>(hfp a ha).elim (t1.new a) (back a),λ a ha=>(hfp a ha).elim (n3 a) λ z=>rep3.nz z⟩;have c0:=cold o3 n3;unfold DI at eo;cases x with
     | lst xs=>
      cases eo;obtain ⟨p,ws,rfl,hp,ol⟩:=c0.coldL;refine .inl ⟨p,ws,rfl,.inl (.inl hp),λ q hq=>?_⟩;have e:OwnL M.K H3 (Zv M vs fps3) (Cb xs l u) 0 (CZ ws l u) []:=by
       unfold Cb CZ;rw [ol.length];exact (ol.drop _).take _
      exact JN lf e hq
     | tup xs=>
      dsimp only at eo;split at eo
      ·cases eo
      ·rename_i hw;cases eo;obtain ⟨p,ws,rfl,hp,ol⟩:=c0.coldT;refine .inr ⟨p,ws,rfl,.inl (.inl hp),by rw [ol.length];exact hw,λ q hq=>?_⟩;have e:OwnL M.K H3 (Zv M vs fps3) (Cb xs l u) 0 (CZ ws l u) []:=by
        unfold Cb CZ;rw [ol.length];exact (ol.drop _).take _
       exact Qp lf e hq
     | _=>cases eo
def Lw:PV->String
 | .non => "NoneType"
 | .bl _ => "bool"
 | .int _ => "int"
 | .str _ => "str"
 | .lst _ => "list"
 | .tup _ => "tuple"
 | .emp => "dict"
 | .dko => "dict"
 | .dct _ => "dict"
 | .dcl _ _ => "dict"
 | _ => ""
def JG (t T:String):Bool:=t == T || (t == "bool" && T == "int")
def HN:List String:=["int","bool","str","list","tuple","dict"]
def CN (T:String) (x:PV) (_:Nat):Option (PV×Nat):=match x with
 | .scr _=>none
 | .exn _=>none
 | .dct _=>none
 | .dcl _ _=>none
 | _=>some (.bl (JG (Lw x) T),om)
theorem Own.ty {K:Frag}{Z:Addr->Prop}{x:PV}{d:Nat}{v:V}{fp:List Addr} (h:Own K H Z x d v fp) (hs:∀ ns,x≠.scr ns) (hx:∀ c,x≠.exn c) (hd1:∀ kvs,x≠.dct kvs) (hd2:∀ ks xs,x≠.dcl ks xs):TyOf K H v (.type (Lw x)):=by
 cases x with
 | non=>rw [Own] at h;rw [h.1];exact .non
 | bl b=>rw [Own] at h;rw [h.1];exact .bl b
 | int i=>rw [Own] at h;rw [h.1];exact .int i
 | str s=>rw [Own] at h;rw [h.1];exact .str s
 | emp=>rw [Own] at h;obtain ⟨_,a,e,ha⟩:=h;rw [e];exact .dK ha
 | dko=>rw [Own] at h;obtain ⟨_,a,e,_,ha⟩:=h;rw [e];exact .dK ha
 | scr ns=>exact absurd rfl (hs ns)
 | exn c=>exact absurd rfl (hx c)
 | dct kvs=>exact absurd rfl (hd1 kvs)
 | dcl ks xs=>exact absurd rfl (hd2 ks xs)
 | lst xs=>
  rw [Own] at h;obtain ⟨a,ws,e,⟨_,hr,_,_⟩ | ⟨_,f,ha,_⟩⟩:=h
  ·rw [e];exact .lst hr.1
  ·rw [e];exact .lst ha
 | tup xs=>
  rw [Own] at h;obtain ⟨a,ws,e,hr,_⟩:=h;rw [e];exact .tup hr
end
section
variable {X:Cx}{M:Fm}{a b:Expr}{f g:Fx}{fa:Fa}{vs vs':List Nat}{pos p:Pos}{σ:St}{H:Hp}{Q:VK}{e:Expr}{es:List Expr}
def xP:PA X [] (tL M Ac []):=VY OM λ σ H Q h=>zk h
def jQ (hv:∀ i∈vs,M.Ms i=false) (ha:PE X e (tE M f vs)) (hr:PA X es (tL M fa vs')) (hs:AK (e::es) X.env=(false,eval e X.env)::AK es X.env):PA X (e::es) (tL M (Af f fa) (vs++vs')):=
 VY (Lg ha hr hs) λ σ H Q h=>kE hv h
def Jd {op:List (PV×Nat)->Option (PV×Nat)}{r:List V->Hp->VK->Prop}
  (leaf:∀ xs z c ws H fps fp Q,op xs=some (z,c)->Tmps M.K H (Zv M vs fps) xs ws fp->(∀ a∈fp,¬ Zf M fps a)->(∀ a,Zf M fps a->H a≠none)->BB M H fps vs fp z c Q->r ws H Q)
  {σ:St}{H:Hp}{Q:VK} (hq:tE M (An op fa) vs σ H Q):Rr r (tL M fa vs) σ H Q:=Nh leaf hq
def Bm (xs:List (PV×Nat)):Option (PV×Nat):=if xs.length<=Aw then some (.lst (xs.map (·.1)),if D6 xs then om else 1) else none
def BK (xs:List (PV×Nat)):Option (PV×Nat):=if xs.length<=Aw then some (.tup (xs.map (·.1)),if D6 xs then om else 0) else none
def zI (h:PA X es (tL M fa vs)):PE X (.List es pos) (tE M (An Bm fa) vs):=by
 refine BQ (Wr h) λ σ H Q h=>Nh (r:=λ xs H1 Q=>xs.length<=Aw/\∀ p,H1 p=none->Q (.ref p) (Ap H1 p (.lst xs))) (λ xs z c ws H fps fp Q ho tm nz zd lf=>?_) h;unfold Bm at ho;split at ho
 ·rename_i hl;refine ⟨by rw [tm.length];exact hl,λ q hq=>?_⟩;cases eo:D6 xs with
  | true=>rw [eo] at ho;cases ho;exact Up lf (tm.all (Lj eo)) hq
  | false=>rw [eo] at ho;cases ho;exact PL lf (tm.cold λ a ha z=>nz a ha z.zf) hq
 ·cases ho
def zL {x1:_} (h:PA X es (tL M fa vs)):PE X (.Tuple es x1 pos) (tE M (An BK fa) vs):=by
 refine BQ (xX h) λ σ H Q h=>Nh (r:=λ xs H1 Q=>xs.length<=Aw/\∀ p,H1 p=none->Q (.ref p) (Ap H1 p (.tup xs))) (λ xs z c ws H fps fp Q ho tm nz zd lf=>?_) h;unfold BK at ho;split at ho
 ·rename_i hl;refine ⟨by rw [tm.length];exact hl,λ q hq=>?_⟩;cases eo:D6 xs with
  | true=>rw [eo] at ho;cases ho;exact wY lf (tm.all (Lj eo)) hq
  | false=>rw [eo] at ho;cases ho;exact Qp lf (tm.cold λ a ha z=>nz a ha z.zf) hq
 ·cases ho
def kS:zkg X (.builtin "isinstance") (λ xs H Q=>∃ x t T k,xs=[x,.ty T]/\TyOf X.K H x t/\N6 X.K t (.type T)=some k/\Q (.bl k) H):=by
 intro pins s σ H xs us Q I r h;obtain ⟨x,t,T,k,rfl,ty,hk,q⟩:=h;obtain ⟨u,w,rfl,r1,r2⟩:=RQ r;cases r2;exact wU I r1 ty hk λ tk=>⟨.bl k,H,I.tok _,rfl,q⟩
theorem xx (K:Frag) {T:String} (hT:T∈HN) (x:PV) (hs:∀ ns,x≠.scr ns) (hx:∀ c,x≠.exn c):N6 K (.type (Lw x)) (.type T)=some (JG (Lw x) T):=by
 simp only [HN,jb5,Gg,or_false] at hT;cases x with
 | scr ns=>exact absurd rfl (hs ns)
 | exn c=>exact absurd rfl (hx c)
 | _=>rcases hT with h | h | h | h | h | h <;> subst h <;> rfl
def zG {T:String}{x T':Str}{p1 p2:Pos} (hT:T∈HN) (hK:M.K=X.K) (ha:PE X e (tE M f vs)) (hg:Gl X "isinstance") (hm:X.mg "isinstance" = none) (hT':PE X (.Name T' p2) (tC (.ty T)))
  (hs1:AK [e,.Name T' p2] X.env=[(false,eval e X.env),(false,eval (.Name T' p2) X.env)]) (hs2:AK [Expr.Name T' p2] X.env=[(false,eval (.Name T' p2) X.env)]):
  PE X (.Call (.Name "isinstance" p1) [e,.Name T' p2] [] pos) (tE M (AN (CN T) f) vs):=by
 refine BQ (JX kS hg hm rfl (Lg ha (Lg hT' OM hs2) (by rw [hs1,hs2])) (he:=by rw [hs1,hs2]) (hpl:=by rw [hs2];rfl)) λ σ H Q h=>?_;refine O8 (r:=λ v H Q=>∃ x t T' k,[v,.ty T]=[x,.ty T']/\TyOf X.K H x t/\N6 X.K t (.type T')=some k/\Q (.bl k) H) (λ x d z c v H fps f1 Q ho o1 nz zd lf=>?_) h;have hs:∀ ns,x≠.scr ns:=λ ns e=>by subst e;cases ho
 have hx:∀ c,x≠.exn c:=λ c e=>by subst e;cases ho
 have hd1:∀ kvs,x≠.dct kvs:=λ c e=>by subst e;cases ho
 have hd2:∀ ks xs,x≠.dcl ks xs:=λ c d e=>by subst e;cases ho
 have e2:z=.bl (JG (Lw x) T):=by
  cases x with
  | scr ns=>cases ho
  | exn c=>cases ho
  | dct _=>cases ho
  | dcl _ _=>cases ho
  | _=>cases ho;rfl
 subst e2;exact ⟨v,_,T,_,rfl,by rw [<- hK];exact o1.ty hs hx hd1 hd2,xx X.K hT x hs hx,Hf lf⟩
def GA:List (PV×Nat)->Option (PV×Nat)
 | [(.lst xs,_)]=>some (.int xs.length,om)
 | [(.tup xs,_)]=>some (.int xs.length,om)
 | [(.scr ns,_)]=>some (.int ns.length,om)
 | [(.str z,_)]=>if z.length<=Aw then some (.int z.length,om) else none
 | _=>none
def zH (hK:M.K=X.K) (hg:Gl X "len") (hm:X.mg "len" = none) (ha:PA X (e::es) (tL M fa vs)) (he:AK (e::es) X.env=(false,eval e X.env)::AK es X.env) (hpl:(Dh pos (AK es X.env)).any (·.1)=false):
  PE X (.Call (.Name "len" p) (e::es) [] pos) (tE M (An GA fa) vs):=by
 refine BQ (JX (qav.or yY) hg hm PySem.boot_len ha (he:=he) (hpl:=hpl)) λ σ H Q h=>Jd (λ xs z c ws H fps fp Q ho tm nz zd lf=>?_) h;unfold GA at ho;split at ho
 ·rename_i xs d;cases ho;obtain ⟨v,r,f1,f2,rfl,_,_,o1,h2⟩:=tm;obtain ⟨rfl,_⟩:=h2;obtain ⟨q,us,rfl,hs,hl⟩:=o1.seqL;exact .inl ⟨q,us,rfl,.inl (by rw [<- hK];exact hs),by rw [hl];exact DY lf⟩
 ·rename_i xs d;cases ho;obtain ⟨v,r,f1,f2,rfl,_,_,o1,h2⟩:=tm;obtain ⟨rfl,_⟩:=h2;obtain ⟨q,us,rfl,hs,hl⟩:=o1.seqT;exact .inl ⟨q,us,rfl,.inr (by rw [<- hK];exact hs),by rw [hl];exact DY lf⟩
 ·rename_i ns d;cases ho;obtain ⟨v,r,f1,f2,rfl,_,_,o1,h2⟩:=tm;obtain ⟨rfl,_⟩:=h2;rw [Own] at o1;obtain ⟨_,q,rfl,hp⟩:=o1;refine .inl ⟨q,ns.map V.int,rfl,.inl ?_,by rw [A8];exact DY lf⟩;rw [<- hK];exact hp.elim (λ h=>.inl (.inr h)) .inr
 ·rename_i z d;split at ho
  ·rename_i hl;cases ho;obtain ⟨v,r,f1,f2,rfl,_,_,o1,h2⟩:=tm;obtain ⟨rfl,_⟩:=h2;rw [Own] at o1;obtain ⟨rfl,_⟩:=o1;exact .inr ⟨_,rfl,hl,DY lf⟩
  ·cases ho
 ·cases ho
def OQ (k:Int->Int->Int):List (PV×Nat)->Option (PV×Nat)
 | [(.int i,_),(.int j,_)]=>some (.int (k i j),om)
 | _=>none
def X7 {k:Int->Int->Int}{xs:List (PV×Nat)}{z:PV}{c:Nat}{ws:List V}{fps:AU}{fp F:List Addr}{Z:Addr->Prop} (ho:OQ k xs=some (z,c)) (tm:Tmps M.K H Z xs ws fp) (lf:BB M H fps vs F z c Q):∃ i j,ws=[.int i,.int j]/\Q (.int (k i j)) H:=by
 unfold OQ at ho;split at ho
 ·rename_i i d j e;cases ho;obtain ⟨v,r,f1,f2,rfl,_,_,o1,h2⟩:=tm;obtain ⟨v2,r2,f3,f4,rfl,_,_,o2,h3⟩:=h2;obtain ⟨rfl,_⟩:=h3;rw [Own] at o1 o2;obtain ⟨rfl,_⟩:=o1;obtain ⟨rfl,_⟩:=o2;exact ⟨_,_,rfl,DY lf⟩
 ·cases ho
def Ke:List (PV×Nat)->Option (PV×Nat)
 | [(.lst xs,_)]=>some (.lst xs,d1 xs)
 | [(.tup xs,_)]=>some (.lst xs,d1 xs)
 | _=>none
def jU (hK:M.K=X.K) (hg:Gl X "list") (hm:X.mg "list" = none) (ha:PA X (e::es) (tL M fa vs)) (he:AK (e::es) X.env=(false,eval e X.env)::AK es X.env) (hpl:(Dh pos (AK es X.env)).any (·.1)=false):
  PE X (.Call (.Name "list" p) (e::es) [] pos) (tE M (An Ke fa) vs):=by
 refine BQ (U6 yZ hg hm rfl ha (he:=he) (hpl:=hpl)) λ σ H Q h=>Jd (λ xs z c ws H fps fp Q ho tm nz zd lf=>?_) h;unfold Ke at ho;split at ho
 ·rename_i xs d;cases ho;obtain ⟨v,r,f1,f2,rfl,rfl,_,o1,h2⟩:=tm;obtain ⟨rfl,rfl⟩:=h2;obtain ⟨q,us,rfl,hs,ol⟩:=(cold (fp:=f1) o1 λ a ha=>nz a (BU _ ha)).coldL;exact ⟨q,us,rfl,.inl (.inl (.inl hs)),λ l hl=>JN lf ol hl⟩
 ·rename_i xs d;cases ho;obtain ⟨v,r,f1,f2,rfl,rfl,_,o1,h2⟩:=tm;obtain ⟨rfl,rfl⟩:=h2;obtain ⟨q,us,rfl,hs,ol⟩:=(cold (fp:=f1) o1 λ a ha=>nz a (BU _ ha)).coldT;exact ⟨q,us,rfl,.inr (.inl (.inl hs)),λ l hl=>JN lf ol hl⟩
 ·cases ho
end
section
variable {X:Cx}{M:Fm}{a b:Expr}{f g:Fx}{fa:Fa}{vs vs':List Nat}{pos p:Pos}{σ:St}{H:Hp}{Q:VK}{e:Expr}{es:List Expr}
def kR (hc:X.calm=true):zkg X (.builtin "all") (λ xs H Q=>∃ (p:Addr) (bs:List Bool),xs=[.ref p]/\Bi X.K H p (bs.map V.bl)/\Q (.bl (bs.all id)) H):=by
 intro pins s σ H xs us Q I r h;obtain ⟨p,bs,rfl,hq,q⟩:=h;obtain ⟨u,rfl,rx⟩:=GJ r;cases rx;obtain ⟨its,rv,pl,hz⟩:=I.list hq;have hl:=rv.length;rw [A8] at hl;refine call_all_walk (wpAny_pyIter_list pl.isList ?_);have hlt:p < s.heap.objs.size:=by obtain ⟨o,n,e,_⟩:=pl;exact AO e
 have hne:p≠s.heap.objs.size:=Cf hlt;refine ⟨s.heap.objs.size,_,_,its.toArray.size,_,_,λ i=>bs.getD i true,rfl,Walks.list (A:=X.A.in1) (show X.A.in1.handled=none from I.ok.hd hc) s.heap.objs.size p hne its.toArray,⟨⟨_,BL _ rfl,rfl,rfl⟩,?_⟩,?_,λ h' tk k=>?_⟩
 ·exact pl.isList.at λ o e=>Bb _ e
 ·intro i v s' Q' E' hv hq';have hv':its[i]?=some v:=by simpa using hv
  have hi:i < bs.length:=by rw [hl];exact (jb0.mp hv').1
  obtain ⟨w,e1,e2⟩:=rv.get (i:=i) (x:=.bl bs[i]) (by simp [hi]);rw [hv'] at e1;cases e1;cases e2;refine HD ?_
  have:bs.getD i true=bs[i]:=by simp [Tc,hi]
  dsimp only at hq';rw [this] at hq';exact hq'
 ·have I1:L2.Inv X pins σ H { s with heap:=s.heap.push { cls:=.type "list_iterator",data:=.fields #[.ref p,DA 0] } }:=I.kept (t':=s.toks) λ b o e=>Bb _ e;obtain ⟨f0,f1,f2,f3,f4,f5⟩:=I.fpOk (H':=H) (AB s.heap.objs.size) (I.hok.fresh (AB _));have I2:L2.Inv X pins σ H { s with heap:=h',toks:=tk }:=I1.turned (t':=tk) (λ b o hb e=>k b o (by simpa using hb) e) f0 f1 f3 f4 f5;refine ⟨.bl _,H,I2,rfl,?_⟩;have e:(A6 its.toArray.size).all (λ i=>bs.getD i true)=bs.all id:=by
   rw [Ca,<- hl];rw [E8];simp only [jb8,jc5,id];constructor
   ·intro h x hx;obtain ⟨i,hi,rfl⟩:=JD hx
    have:=h i hi
    simpa [Tc,hi] using this
   ·intro h i hi;simp [Tc,hi];exact h _ (IK hi)
  rw [e];exact q
def allB:List PV->Option (List Bool)
 | []=>some []
 | .bl b::r=>(allB r).map (b::·)
 | _=>none
def EH:List (PV×Nat)->Option (PV×Nat)
 | [(.lst xs,_)]=>(allB xs).map λ bs=>(.bl (bs.all id),om)
 | _=>none
theorem XA {K:Frag}{Z:Addr->Prop}:∀ {xs:List PV}{ws:List V}{bs:List Bool},allB xs=some bs->OwnL K H Z xs 0 ws []->ws=bs.map V.bl
 | [],ws,bs,e,h=>by cases e;rw [OwnL] at h;exact h.1
 | .bl b::r,ws,bs,e,h=>by
  obtain ⟨bs',e1,rfl⟩:=jb9.mp e;rw [OwnL] at h;obtain ⟨v,s,f1,f2,rfl,ef,dj,h1,h2⟩:=h;obtain ⟨rfl,rfl⟩:f1=[]/\f2=[]:=by simpa using ef.symm
  rw [Own] at h1;rw [h1.1,XA e1 h2];rfl
 | .non::_,_,_,e,_=>by cases e
 | .int _::_,_,_,e,_=>by cases e
 | .str _::_,_,_,e,_=>by cases e
 | .lst _::_,_,_,e,_=>by cases e
 | .tup _::_,_,_,e,_=>by cases e
 | .emp::_,_,_,e,_=>by cases e
 | .dko::_,_,_,e,_=>by cases e
 | .scr _::_,_,_,e,_=>by cases e
 | .dct _::_,_,_,e,_=>by cases e
 | .dcl _ _::_,_,_,e,_=>by cases e
 | .exn _::_,_,_,e,_=>by cases e
def xR (hc:X.calm=true) (hg:Gl X "all") (hm:X.mg "all" = none) (ha:PA X (e::es) (tL M fa vs)) (he:AK (e::es) X.env=(false,eval e X.env)::AK es X.env) (hpl:(Dh pos (AK es X.env)).any (·.1)=false):
  PE X (.Call (.Name "all" p) (e::es) [] pos) (tE M (An EH fa) vs):=by
 refine BQ (JX (kR hc) hg hm rfl ha (he:=he) (hpl:=hpl)) λ σ H Q h=>Jd (λ xs z c ws H fps fp Q ho tm nz zd lf=>?_) h;unfold EH at ho;split at ho
 ·rename_i xs d;obtain ⟨bs,eb,e2⟩:=jb9.mp ho;cases e2;obtain ⟨v,r,f1,f2,rfl,rfl,_,o1,h2⟩:=tm;obtain ⟨rfl,rfl⟩:=h2;obtain ⟨q,us,rfl,hs,ol⟩:=(cold (fp:=f1) o1 λ a ha=>nz a (BU _ ha)).coldL
  have:=XA eb ol
  subst this;exact ⟨q,bs,rfl,.inl (.inl hs),Hf lf⟩
 ·cases ho
def Fi:List PV->Option (List Int)
 | []=>some []
 | .int i::r=>(Fi r).map (i::·)
 | _=>none
theorem JL {K:Frag}{Z:Addr->Prop}:∀ {xs:List PV}{ws:List V}{ns:List Int},Fi xs=some ns->OwnL K H Z xs 0 ws []->ws=ns.map V.int
 | [],ws,ns,e,h=>by cases e;rw [OwnL] at h;exact h.1
 | .int b::r,ws,ns,e,h=>by
  obtain ⟨ns',e1,rfl⟩:=jb9.mp e;rw [OwnL] at h;obtain ⟨v,s,f1,f2,rfl,ef,dj,h1,h2⟩:=h;obtain ⟨rfl,rfl⟩:f1=[]/\f2=[]:=by simpa using ef.symm
  rw [Own] at h1;rw [h1.1,JL e1 h2];rfl
 | .non::_,_,_,e,_=>by cases e
 | .bl _::_,_,_,e,_=>by cases e
 | .str _::_,_,_,e,_=>by cases e
 | .lst _::_,_,_,e,_=>by cases e
 | .tup _::_,_,_,e,_=>by cases e
 | .emp::_,_,_,e,_=>by cases e
 | .dko::_,_,_,e,_=>by cases e
 | .scr _::_,_,_,e,_=>by cases e
 | .dct _::_,_,_,e,_=>by cases e
 | .dcl _ _::_,_,_,e,_=>by cases e
 | .exn _::_,_,_,e,_=>by cases e
theorem JM:∀ {ns:List Int}{its:List Ad},Vals (ns.map V.int) its->∃ xs:List (Int×Tok),its=xs.map (λ p=>Value.int p.1 p.2)/\xs.map (·.1)=ns
 | [],its,h=>by cases h;exact ⟨[],rfl,rfl⟩
 | n::ns,its,h=>by
  cases h with
  | cons r rr=>
   obtain ⟨t,rfl⟩:=r;obtain ⟨xs,rfl,rfl⟩:=JM rr;exact ⟨(n,t)::xs,rfl,rfl⟩
def wM (hc:X.calm=true):zkg X (.builtin "min") (λ xs H Q=>∃ (p:Addr) (ns:List Int),xs=[.ref p]/\Bi X.K H p (ns.map V.int)/\ns≠[]/\∀ m,m∈ns->(∀ a∈ns,m<=a)->Q (.int m) H):=by
 intro pins s σ H xs us Q I r h;obtain ⟨p,ns,rfl,hq,hn,q⟩:=h;obtain ⟨u,rfl,rx⟩:=GJ r;cases rx;obtain ⟨its,rv,pl,hz⟩:=I.list hq;obtain ⟨zs,rfl,rfl⟩:=JM rv;have e:(zs.map λ p=>Value.int p.1 p.2).toArray=DQ zs.toArray:=by simp [DQ]
 rw [e] at pl;have h0:0 < zs.length:=by
  cases zs with
  | nil=>exact absurd rfl hn
  | cons _ _=>simp
 refine min_intList (I.ok.hd hc) pl.isList (by simpa using h0) λ v h' tk hv k=>?_;obtain ⟨l1,l2⟩:=argBest_lt (CA zs.toArray) (zs.toArray.size - 1);have hv':=hv;obtain ⟨t,rfl⟩:=N1 hv;have at':∀ j,j < zs.length->CA zs.toArray j∈zs.map (·.1):=λ j hj=>by
  unfold CA;simp [hj];exact ⟨_,IK hj⟩
 refine ⟨.int _,H,I.kept (t':=tk) k,⟨t,rfl⟩,q _ (at' _ ?_) λ a ha=>?_⟩
 ·have:zs.toArray.size=zs.length:=by simp
  omega
 ·obtain ⟨z,hz,rfl⟩:=jd1.mp ha;obtain ⟨j,hj,rfl⟩:=JD hz;have hzs:zs.toArray.size=zs.length:=by simp
  have:=l2 j (by omega)
  have e:CA zs.toArray j=zs[j].1:=by unfold CA;simp [hj]
  rw [e] at this;exact this
def yD {prog:AA}{w:A4}{A:BD}{E:Ad->Ai->Prop}{s:Ai}{l:Addr}{xs:Array (Int×Tok)}{Q:Ad->Ai->Prop} (hh:A.handled=none) (hl:s.heap.IsTuple l (DQ xs)) (hne:0 < xs.size)
  (h:∀ v h' tk,(DQ xs)[argBest (λ i j=>decide (CA xs i < CA xs j)) (xs.size - 1)]?=some v->(∀ b o,s.heap.get? b=some o->h'.get? b=some o)->Q v { s with heap:=h',toks:=tk }):
  Ak (Av prog w) A (call (.builtin "min") [.ref l]) Q E s:=by
 have hlt:l < s.heap.objs.size:=by obtain ⟨_,e,_⟩:=hl;exact AO e
 refine call_min_walk (NG hl ?_);refine ⟨_,[_,l],[_],_,_,_,_,rfl,Walks.tuple (A:=A.in1) hh _ l (Cf hlt) (DQ xs),⟨⟨_,BL _ rfl,rfl,rfl⟩,hl.push _⟩,λ c hc=>?_,by simpa [DQ] using hne,CmpOf.ints_lt (CA xs) (λ _ _=>N1),λ v h' tk hP hk=>?_⟩
 ·show c < (s.heap.push _).objs.size;rw [FU];rcases jb5.mp hc with rfl | hc
  ·exact GQ _
  ·rcases jb5.mp hc with rfl | hc
   ·exact Pj hlt
   ·cases hc
 ·exact h v h' tk (by simpa [DQ] using hP) λ c o e=>by
   refine hk c o (λ hm=>?_) (Bb _ e);rcases jb5.mp hm with e1 | hm
   ·exact absurd (e1 ▸ AO e) (DK _)
   ·cases hm
def wN (hc:X.calm=true):zkg X (.builtin "min") (λ xs H Q=>∃ (p:Addr) (ns:List Int),xs=[.ref p]/\SqT X.K H p (ns.map V.int)/\ns≠[]/\∀ m,m∈ns->(∀ a∈ns,m<=a)->Q (.int m) H):=by
 intro pins s σ H xs us Q I r h;obtain ⟨p,ns,rfl,hq,hn,q⟩:=h;obtain ⟨u,rfl,rx⟩:=GJ r;cases rx;obtain ⟨its,rv,pl,hz⟩:=I.tuple hq;obtain ⟨zs,rfl,rfl⟩:=JM rv;have e:(zs.map λ p=>Value.int p.1 p.2).toArray=DQ zs.toArray:=by simp [DQ]
 rw [e] at pl;have h0:0 < zs.length:=by
  cases zs with
  | nil=>exact absurd rfl hn
  | cons _ _=>simp
 refine yD (I.ok.hd hc) pl (by simpa using h0) λ v h' tk hv k=>?_;obtain ⟨l1,l2⟩:=argBest_lt (CA zs.toArray) (zs.toArray.size - 1);have hv':=hv;obtain ⟨t,rfl⟩:=N1 hv;have at':∀ j,j < zs.length->CA zs.toArray j∈zs.map (·.1):=λ j hj=>by
  unfold CA;simp [hj];exact ⟨_,IK hj⟩
 refine ⟨.int _,H,I.kept (t':=tk) k,⟨t,rfl⟩,q _ (at' _ ?_) λ a ha=>?_⟩
 ·have:zs.toArray.size=zs.length:=by simp
  omega
 ·obtain ⟨z,hz,rfl⟩:=jd1.mp ha;obtain ⟨j,hj,rfl⟩:=JD hz;have hzs:zs.toArray.size=zs.length:=by simp
  have:=l2 j (by omega)
  have e:CA zs.toArray j=zs[j].1:=by unfold CA;simp [hj]
  rw [e] at this;exact this
def FO (ns:List Int):Bool:=decide (ns.length<=2 ^ 20) && ns.all λ i=>decide (-(2 ^ 40)<=i) && decide (i<=2 ^ 40)
theorem yn {ns:List Int} (h:∀ i∈ns,-(2 ^ 40)<=i/\i<=2 ^ 40):∀ j:Nat,-(2 ^ 40) * (j:Int)<=(ns.take j).sum/\(ns.take j).sum<=2 ^ 40 * (j:Int):=by
 induction ns with
 | nil=>intro j;rw [OX,YE];omega
 | cons n ns ih=>
  intro j;cases j with
  | zero=>rw [Mr,YE];omega
  | succ j=>
   have:=ih (λ i hi=>h i (AI _ hi)) j
   have hn:=h n AH;rw [Tz,II];omega
def wO (hc:X.calm=true):zkg X (.builtin "sum") (λ xs H Q=>∃ (p:Addr) (ns:List Int),xs=[.ref p]/\Bi X.K H p (ns.map V.int)/\FO ns=true/\Q (.int ns.sum) H):=by
 intro pins s σ H xs us Q I r h;obtain ⟨p,ns,rfl,hq,hn,q⟩:=h;obtain ⟨u,rfl,rx⟩:=GJ r;cases rx;obtain ⟨its,rv,pl,hz⟩:=I.list hq;obtain ⟨zs,rfl,rfl⟩:=JM rv;have e:(zs.map λ p=>Value.int p.1 p.2).toArray=DQ zs.toArray:=by simp [DQ]
 rw [e] at pl;unfold FO at hn;rw [Ba] at hn;have hl:(zs.map (·.1)).length<=2 ^ 20:=by simpa using hn.1
 have hb:∀ i∈zs.map (·.1),-(2 ^ 40)<=i/\i<=2 ^ 40:=λ i hi=>by
  have:=jb8.mp hn.2 i hi
  rw [Ba] at this;exact ⟨of_decide_eq_true this.1,of_decide_eq_true this.2⟩
 have sz:zs.toArray.size=zs.length:=by simp
 rw [A8] at hl;have pre:∀ j,preSum (CA zs.toArray) j=((zs.map (·.1)).take j).sum:=λ j=>by
  rw [preSum_eq]
 refine sum_intList (I.ok.hd hc) pl.isList (λ j hj=>⟨?_,?_⟩) λ h' tk t' k=>⟨.int _,H,I.kept (t':=tk) k,⟨t',rfl⟩,?_⟩
 ·have e1:CA zs.toArray j=zs[j].1:=by unfold CA;simp [show j < zs.length by omega]
  have:=hb (zs[j]'(by omega)).1 (jd1.mpr ⟨_,IK _,rfl⟩)
  rw [e1];unfold InLong;omega
 ·have:=yn hb (j + 1)
  rw [pre];unfold InLong;omega
 ·rw [pre,sz]
  have:((zs.map (·.1)).take zs.length)=zs.map (·.1):=by
   rw [KN];simp
  rw [this];exact q
def CU:Int->List Int->Int
 | n,[]=>n
 | n,m::r=>CU (if m < n then m else n) r
theorem Qq:∀ (r:List Int) (n:Int),CU n r∈n::r
 | [],n=>AH
 | m::r,n=>by
  unfold CU
  have:=Qq r (if m < n then m else n)
  rcases jb5.mp this with h | h
  ·rw [h];split
   ·exact AI _ AH
   ·exact AH
  ·exact AI _ (AI _ h)
theorem Sz:∀ (r:List Int) (n:Int),∀ a∈n::r,CU n r<=a
 | [],n,a,h=>by
  have:a=n:=by simpa using h
  rw [this];exact D1 _
 | m::r,n,a,h=>by
  unfold CU;have ih:=Sz r (if m < n then m else n);have h1:=ih _ AH;have h2:(if m < n then m else n)<=n/\(if m < n then m else n)<=m:=by split <;> omega
  rcases jb5.mp h with e | h
  ·rw [e];omega
  ·rcases jb5.mp h with e | h
   ·rw [e];omega
   ·exact ih a (AI _ h)
def Uq {ns:List Int}{m m':Int} (h1:m∈ns) (h2:∀ a∈ns,m<=a) (h3:m'∈ns) (h4:∀ a∈ns,m'<=a):m=m':=by
 have:=h2 m' h3
 have:=h4 m h1
 omega
def Hc:List (PV×Nat)->Option (PV×Nat)
 | [(.lst xs,_)]=>match Fi xs with
  | some (n::r)=>some (.int (CU n r),om)
  | _=>none
 | [(.tup xs,_)]=>match Fi xs with
  | some (n::r)=>some (.int (CU n r),om)
  | _=>none
 | xs=>OQ (λ i j=>if j < i then j else i) xs
def Hb:List (PV×Nat)->Option (PV×Nat)
 | [(.lst xs,_)]=>match Fi xs with
  | some ns=>if FO ns=true then some (.int ns.sum,om) else none
  | none=>none
 | [(.tup xs,_)]=>match Fi xs with
  | some ns=>some (.int ns.sum,om)
  | none=>none
 | _=>none
def w8 (hc:X.calm=true):zkg X (.builtin "sum") (λ xs H Q=>∃ (p:Addr) (ns:List Int),xs=[.ref p]/\SqT X.K H p (ns.map V.int)/\Q (.int ns.sum) H):=by
 intro pins s σ H xs us Q I r h;obtain ⟨p,ns,rfl,hq,q⟩:=h;obtain ⟨u,rfl,rx⟩:=GJ r;cases rx;obtain ⟨its,rv,pl,hz⟩:=I.tuple hq;obtain ⟨zs,rfl,rfl⟩:=JM rv;have e:(zs.map λ p=>Value.int p.1 p.2).toArray=DQ zs.toArray:=by simp [DQ]
 rw [e] at pl;refine PySem.W.ktm_sumG (I.ok.hd hc) (show s.heap.IsTuple p (DQ zs.toArray) from pl) λ h' tk t' k=>⟨.int _,H,I.kept (t':=tk) k,⟨t',rfl⟩,?_⟩
 rw [preSum_eq,KN (by simp)];exact q
def jX (hc:X.calm=true) (hg:Gl X "min") (hm:X.mg "min" = none) (ha:PA X (e::es) (tL M fa vs)) (he:AK (e::es) X.env=(false,eval e X.env)::AK es X.env) (hpl:(Dh pos (AK es X.env)).any (·.1)=false):
  PE X (.Call (.Name "min" p) (e::es) [] pos) (tE M (An Hc fa) vs):=by
 refine BQ (JX (((wL hc).or (wM hc)).or (wN hc)) hg hm rfl ha (he:=he) (hpl:=hpl)) λ σ H Q h=>Jd (λ xs z c ws H fps fp Q ho tm nz zd lf=>?_) h;unfold Hc at ho;split at ho
 ·rename_i xs d;split at ho
  ·rename_i n r eb;cases ho;obtain ⟨v,r',f1,f2,rfl,rfl,_,o1,h2⟩:=tm;obtain ⟨rfl,rfl⟩:=h2;obtain ⟨q,us,rfl,hs,ol⟩:=(cold (fp:=f1) o1 λ a ha=>nz a (BU _ ha)).coldL
   have:=JL eb ol
   subst this;refine .inl (.inr ⟨q,n::r,rfl,.inl (.inl hs),by simp,λ m h1 h2=>?_⟩);rw [Uq h1 h2 (Qq r n) (Sz r n)];exact DY lf
  ·cases ho
 ·rename_i xs d;split at ho
  ·rename_i n r eb;cases ho;obtain ⟨v,r',f1,f2,rfl,rfl,_,o1,h2⟩:=tm;obtain ⟨rfl,rfl⟩:=h2;obtain ⟨q,us,rfl,hs,ol⟩:=(cold (fp:=f1) o1 λ a ha=>nz a (BU _ ha)).coldT
   have:=JL eb ol
   subst this;refine .inr ⟨q,n::r,rfl,.inl (.inl hs),by simp,λ m h1 h2=>?_⟩;rw [Uq h1 h2 (Qq r n) (Sz r n)];exact DY lf
  ·cases ho
 ·exact .inl (.inl (X7 ho tm lf))
def jY (hc:X.calm=true) (hg:Gl X "sum") (hm:X.mg "sum" = none) (ha:PA X (e::es) (tL M fa vs)) (he:AK (e::es) X.env=(false,eval e X.env)::AK es X.env) (hpl:(Dh pos (AK es X.env)).any (·.1)=false):
  PE X (.Call (.Name "sum" p) (e::es) [] pos) (tE M (An Hb fa) vs):=by
 refine BQ (JX ((wO hc).or (w8 hc)) hg hm rfl ha (he:=he) (hpl:=hpl)) λ σ H Q h=>Jd (λ xs z c ws H fps fp Q ho tm nz zd lf=>?_) h;unfold Hb at ho;split at ho
 ·rename_i xs d;split at ho
  ·rename_i ns eb;split at ho
   ·rename_i hk;cases ho;obtain ⟨v,r',f1,f2,rfl,rfl,_,o1,h2⟩:=tm;obtain ⟨rfl,rfl⟩:=h2;obtain ⟨q,us,rfl,hs,ol⟩:=(cold (fp:=f1) o1 λ a ha=>nz a (BU _ ha)).coldL
    have:=JL eb ol
    subst this;exact .inl ⟨q,ns,rfl,.inl (.inl hs),hk,DY lf⟩
   ·cases ho
  ·cases ho
 ·rename_i xs d;split at ho
  ·rename_i ns eb;cases ho;obtain ⟨v,r',f1,f2,rfl,rfl,_,o1,h2⟩:=tm;obtain ⟨rfl,rfl⟩:=h2;obtain ⟨q,us,rfl,hs,ol⟩:=(cold (fp:=f1) o1 λ a ha=>nz a (BU _ ha)).coldT
   have:=JL eb ol
   subst this;exact .inr ⟨q,ns,rfl,.inl (.inl hs),DY lf⟩
  ·cases ho
 ·cases ho
abbrev Fn:=List PV->Rz (PV×Nat×PV)
def AZ (K:Frag) (_:Bool) (n:Nat) (F:Fn):Sp:=λ ws H Q _=>ws.length=n/\∃ (xs:List PV) (Zo:Addr->Prop),(∀ a,Zo a->H a≠none)/\OwnL K H Zo xs 0 ws [] /\
 (match F xs with
  | .ok (y,d,_)=>∀ v H' fp,D5 (λ _=>False) H H'->(∀ a,H a≠none->H' a≠none)->Own K H' (λ a=>Zo a\/a∈fp) y d v fp->(∀ a∈fp,H a=none/\¬ Zo a)->Q v H'
  | _=>False)
def A9 (F:Fn) (fa:Fa):Fx:=λ ρ=>(fa ρ).bind λ (xs,ρ1)=>match F (xs.map (·.1)) with
 | .ok (y,d,_)=>.ok (y,d,ρ1)
 | _=>.no
theorem kf {F:Fn}{n:Nat} (hF:∀ xs,xs.length≠n->F xs=.no) {σ:St}{H:Hp}{Q:VK} (hq:tE M (A9 F fa) vs σ H Q):Wc (AZ M.K false n F) M.W (tL M fa vs) σ H Q:=by
 obtain ⟨ρ,fps,rep,q⟩:=hq;refine ⟨ρ,fps,rep,?_⟩;unfold A9 at q;cases ef:fa ρ with
 | no=>rw [ef] at q;exact q
 | exc c=>rw [ef] at q;exact q
 | ok p=>
  obtain ⟨xs,ρ1⟩:=p;rw [ef] at q;intro ws H1 fps1 f1 k1 g1 rep1 o1 t1;dsimp only [Rz.bind] at q;have back:∀ a,H1 a=none->H a=none:=λ a e=>by
   cases e':H a with
   | none=>rfl
   | some o=>exact absurd e (k1.dom a (by rw [e'];simp))
  show AZ M.K false n F ws H1 Q (Gs (M.W σ));have hlen:xs.length=n:=by
   by_cases e:xs.length=n
   ·exact e
   ·rw [hF (xs.map (·.1)) (by rw [A8];exact e)] at q;exact q.elim
  refine ⟨by rw [o1.length,hlen],xs.map (·.1),Zv M vs fps1,λ a z=>rep1.zdom z.zf,o1.cold λ a ha z=>t1.ndj a ha z.zf,?_⟩;cases eF:F (xs.map (·.1)) with
  | no=>rw [eF] at q;exact q
  | exc c=>rw [eF] at q;exact q
  | ok r=>
   obtain ⟨y,d,z0⟩:=r;rw [eF] at q;intro v H' fp kp dm oy hf;have kk:∀ a o,H1 a=some o->H' a=some o:=λ a o h=>kp a o h λ z=>z.elim;refine q v H' fps1 fp (k1.trans (KD.grow kk)) g1 (rep1.grow kk) oy ⟨λ a ha=>back a (hf a ha).1,λ a ha=>rep1.nz (hf a ha).1⟩
end
section
variable {prog:AA}{w:A4}{A:BD}{E:Ad->Ai->Prop}{s:Ai}
def Sf {p q:Addr}{n:Nat}{us:Array Ad}{u:Ad}{Q:Ad->Ai->Prop} (st:s.heap.IsTupleIter p q n) (ht:s.heap.IsTuple q us) (hu:us[n]?=some u) (hQ:∀ h',h'.IsTupleIter p q (n + 1)->Jp p s.heap h'->Q u { s with heap:=h' }):
  Ak (Av prog w) A (IC (.ref p)) Q E s:=by
 obtain ⟨ob,eb,cb,db⟩:=id st;obtain ⟨ot,et,_,nt,dt⟩:=ht;unfold IC;refine Ag (HE (name:=GL "__next__") st.typeIs NO (FW NO st.typeIs UU ?_ (UX _)));show Ak _ _ (field (.ref p) 0 >>= _) _ _ s;refine Ag (DR eb db (x:=.ref q) rfl ?_);show Ak _ _ (if (Value.ref q == Value.none)=true then _ else _) _ _ s;rw [if_neg (show ¬ ((Value.ref q == Value.none)=true) from Cy)];show Ak _ _ (field (.ref p) 1 >>= _) _ _ s;refine Ag (DR eb db (x:=.int n 0) rfl ?_);show Ak _ _ (seqItems? (.ref q) >>= _) _ _ s;refine Ag (HB et dt ?_);simp only [D3,hu];refine Ag (Ks eb db (by simp) (Ao ⟨u,rfl,Ao (hQ _ ?_ (Kx ..))⟩));exact ⟨_,Ky _ eb (Rb (Ku db _)),(QH ..).trans cb,by rw [Ku db];simp [DA]⟩
def Us {p q:Addr}{n:Nat}{us:Array Ad}{Q:Ad->Ai->Prop} (hh:A.handled=none) (st:s.heap.IsTupleIter p q n) (ht:s.heap.IsTuple q us) (hu:us[n]?=none)
  (hE:∀ h' e,Heap.ExtBut p s.heap h'->(∃ o,h'.get? e=some o/\o.cls=.type "StopIteration")->E (.ref e) { s with heap:=h' }):Ak (Av prog w) A (IC (.ref p)) Q E s:=by
 obtain ⟨ob,eb,cb,db⟩:=id st;obtain ⟨ot,et,_,nt,dt⟩:=ht;unfold IC;refine Ag (HE (name:=GL "__next__") st.typeIs NO (FW NO st.typeIs UU ?_ (UX _)));show Ak _ _ (field (.ref p) 0 >>= _) _ _ s;refine Ag (DR eb db (x:=.ref q) rfl ?_);show Ak _ _ (if (Value.ref q == Value.none)=true then _ else _) _ _ s;rw [if_neg (show ¬ ((Value.ref q == Value.none)=true) from Cy)];show Ak _ _ (field (.ref p) 1 >>= _) _ _ s;refine Ag (DR eb db (x:=.int n 0) rfl ?_);show Ak _ _ (seqItems? (.ref q) >>= _) _ _ s;refine Ag (HB et dt ?_);simp only [D3,hu];refine Ag (L0 (Ag (Ks eb db (by simp) ?_)));show Ak _ _ (newExc (.type "StopIteration") [] >>= _) _ _ _;refine Ag ?_;simp only [newExc,newTuple];refine Ag (DS ?_ (by size_fits));refine Ag (m:=Kq _ _) (wpAny_of_eq (a:=Value.none) (by first | rfl | (simp only [Kq];rfl)) ?_);refine DS ?_ (by size_fits);simp only [raiseNew];refine Ag (wpAny_handled ?_)
 first | rw [show A.in1.handled=none from hh] | rw [hh];skip
 refine Ag (Ao (wpAny_throw (hE _ _ (((Kx ..).extBut.push _).push _) ⟨_,BL _ rfl,rfl⟩)))
structure ZApart (zz ti to p1 p2 q1 q2:Addr):Prop where
 ne1:ti≠zz
 ne2:to≠zz
 ne3:p1≠zz
 ne4:p2≠zz
 ne5:ti≠to
 ne6:ti≠p1
 ne7:ti≠p2
 ne8:to≠p1
 ne9:to≠p2
 nea:p1≠p2
 neb:q1≠zz
 nec:q1≠to
 ned:q1≠p1
 nee:q1≠p2
 nef:q2≠zz
 neg:q2≠to
 neh:q2≠p1
 nei:q2≠p2
section
variable {zz ti to p1 p2 q1 q2:Addr}{n1 n2:Nat}{us vs:Array Ad}{u v a b:Ad}
def kD {Q:Ad->Ai->Prop} (D:ZApart zz ti to p1 p2 q1 q2) (hz:Du s.heap zz ti to .none) (hi:Cv s.heap ti (.ref p1) (.ref p2)) (ho:Cv s.heap to a b) (h1:s.heap.IsTupleIter p1 q1 n1) (h2:s.heap.IsTupleIter p2 q2 n2) (t1:s.heap.IsTuple q1 us) (t2:s.heap.IsTuple q2 vs) (hu:us[n1]?=some u) (hv:vs[n2]?=some v)
  (hQ:∀ h',Du h' zz ti to (DA s.heap.objs.size)->Cv h' to u v->h'.IsTupleIter p1 q1 (n1 + 1)->h'.IsTupleIter p2 q2 (n2 + 1)->Cv h' s.heap.objs.size u v->h'.objs.size=s.heap.objs.size + 1->(∀ c o,c≠zz->c≠to->c≠p1->c≠p2->s.heap.get? c=some o->h'.get? c=some o)->Q (.ref s.heap.objs.size) { s with heap:=h' }):
  Ak (Av prog w) A (vl9.«zip.__next__» ⟨[.ref zz],[]⟩) (λ fin s'=>∃ v,fin=.done (.ret v)/\Q v s') E s:=by
 show Ak _ _ (field (.ref zz) 2 >>= _) _ _ _;refine Ag (DR hz rfl (x:=.bool false) rfl ?_);show Ak _ _ (field (.ref zz) 3 >>= _) _ _ _;refine Ag (DR hz rfl (x:=.ref ti) rfl ?_);refine Ag (HB hi rfl ?_);show Ak _ _ (NU (.ref zz) >>= _) _ _ _;refine Ag ?_;unfold NU;refine Ag (DR hz rfl (x:=.none) rfl (Ao ?_));simp only [if_true];refine Ag (L0 ?_);refine Ag (DR hz rfl (x:=.ref to) rfl ?_);refine Ag (Kw hz (by simp) λ g1 y1 k1=>?_);replace y1:Du g1 zz ti to .ellipsis:=y1;refine Ag ?_;simp only [Pe,YK,YU,YM];refine Ag (Ag (N5 ?_));show Ak _ _ (IC (.ref p1) >>= _) _ _ _;refine Ag (Sf (h1.extBut k1.extBut D.ne3) (t1.extBut k1.extBut D.neb) hu λ g2 m2 k2=>Ao ?_);have o2:Cv g2 to a b:=k2.extBut _ _ D.ne8 (k1.extBut _ _ D.ne2 ho);refine Ag (HB o2 rfl ?_);refine Ag (Ra o2 λ g3 o3 k3=>?_);replace o3:Cv g3 to u b:=o3;refine Ag (N4 (Ao ?_));refine Ag (Ag (N5 ?_));show Ak _ _ (IC (.ref p2) >>= _) _ _ _;refine Ag (Sf (((h2.extBut k1.extBut D.ne4).extBut k2.extBut D.nea.symm).extBut k3.extBut D.ne9.symm) (((t2.extBut k1.extBut D.nef).extBut k2.extBut D.neh).extBut k3.extBut D.neg) hv λ g4 m4 k4=>Ao ?_);have o4:Cv g4 to u b:=k4.extBut _ _ D.ne9 o3;refine Ag (HB o4 rfl ?_);refine Ag (Ra o4 λ g5 o5 k5=>?_);replace o5:Cv g5 to u v:=o5;refine Ag (N4 (Ao (Ao ?_)));refine Ag (HB o5 rfl ?_);refine Ag (wpAny_newTuple ?_);have sz:g5.objs.size=s.heap.objs.size:=by rw [k5.1,k4.1,k3.1,k2.1,k1.1]
 have y5:Du g5 zz ti to .ellipsis:=k5.extBut _ _ D.ne2.symm (k4.extBut _ _ D.ne4.symm (k3.extBut _ _ D.ne2.symm (k2.extBut _ _ D.ne3.symm y1)));have kk:∀ c o,c≠zz->c≠to->c≠p1->c≠p2->s.heap.get? c=some o->g5.get? c=some o:=λ c o c1 c2 c3 c4 e=>k5.extBut _ _ c2 (k4.extBut _ _ c4 (k3.extBut _ _ c2 (k2.extBut _ _ c3 (k1.extBut _ _ c1 e))));have m1:g5.IsTupleIter p1 q1 (n1 + 1):=((m2.extBut k3.extBut D.ne8.symm).extBut k4.extBut D.nea).extBut k5.extBut D.ne8.symm;have m5:g5.IsTupleIter p2 q2 (n2 + 1):=m4.extBut k5.extBut D.ne9.symm;have zlt:zz < g5.objs.size:=AO y5;show Ak _ _ (Vd (.ref zz) (.ref g5.objs.size) >>= _) _ _ _;refine Ag ?_;unfold Vd;have y6:Du (g5.push { cls:=.type "tuple",data:=.seq #[u,v] }) zz ti to .ellipsis:=Bb _ y5;refine Ag (Kw y6 (by simp) λ g7 y7 k7=>?_);replace y7:Du g7 zz ti to (DA g5.objs.size):=y7;refine Kw y7 (by simp) λ g8 y8 k8=>?_;replace y8:Du g8 zz ti to (DA g5.objs.size):=y8;have up:∀ c o,c≠zz->g5.get? c=some o->g8.get? c=some o:=λ c o c1 e=>k8.extBut _ _ c1 (k7.extBut _ _ c1 (Bb _ e));have t8:Cv g8 g5.objs.size u v:=k8.extBut _ _ (E7 zlt) (k7.extBut _ _ (E7 zlt) (BL _ rfl));have z8:g8.objs.size=g5.objs.size + 1:=by rw [k8.1,k7.1,FU]
 rw [sz] at y8 t8 z8;refine Ao ⟨_,rfl,?_⟩;show Q (.ref g5.objs.size) _;rw [sz];exact hQ g8 y8 (up _ _ D.ne2 o5) (m1.at λ o e=>up _ o D.ne3 e) (m5.at λ o e=>up _ o D.ne4 e) t8 z8 λ c o c1 c2 c3 c4 e=>up c o c1 (kk c o c1 c2 c3 c4 e)
theorem jh {Q:Fin->Ai->Prop} (hh:A.handled=none) (D:ZApart zz ti to p1 p2 q1 q2) (hz:Du s.heap zz ti to .none) (hi:Cv s.heap ti (.ref p1) (.ref p2)) (ho:Cv s.heap to a b) (h1:s.heap.IsTupleIter p1 q1 n1) (h2:s.heap.IsTupleIter p2 q2 n2) (t1:s.heap.IsTuple q1 us) (t2:s.heap.IsTuple q2 vs) (hend:us[n1]?=none\/vs[n2]?=none)
  (hE:∀ h' e,(∀ c o,c≠zz->c≠to->c≠p1->c≠p2->s.heap.get? c=some o->h'.get? c=some o)->(∃ o,h'.get? e=some o/\o.cls=.type "StopIteration")->E (.ref e) { s with heap:=h' }):
  Ak (Av prog w) A (vl9.«zip.__next__» ⟨[.ref zz],[]⟩) Q E s:=by
 show Ak _ _ (field (.ref zz) 2 >>= _) _ _ _;refine Ag (DR hz rfl (x:=.bool false) rfl ?_);show Ak _ _ (field (.ref zz) 3 >>= _) _ _ _;refine Ag (DR hz rfl (x:=.ref ti) rfl ?_);refine Ag (HB hi rfl ?_);show Ak _ _ (NU (.ref zz) >>= _) _ _ _;refine Ag ?_;unfold NU;refine Ag (DR hz rfl (x:=.none) rfl (Ao ?_));simp only [if_true];refine Ag (L0 ?_);refine Ag (DR hz rfl (x:=.ref to) rfl ?_);refine Ag (Kw hz (by simp) λ g1 y1 k1=>?_);replace y1:Du g1 zz ti to .ellipsis:=y1;refine Ag ?_;simp only [Pe,YK,YU,YM];refine Ag (Ag (N5 ?_));show Ak _ _ (IC (.ref p1) >>= _) _ _ _;cases hu:us[n1]? with
 | none=>
  refine Ag (Us hh (h1.extBut k1.extBut D.ne3) (t1.extBut k1.extBut D.neb) hu λ g2 e k2 ⟨oe,xe,ce⟩=>?_);have y2:Du g2 zz ti to .ellipsis:=k2 _ _ D.ne3.symm y1;have ne:e≠zz:=λ x=>by subst x;rw [y2] at xe;cases xe;simp at ce
  refine Kw y2 (by simp) λ g3 _ k3=>hE g3 e (λ c o c1 _ c3 _ x=>k3.extBut _ _ c1 (k2 _ _ c3 (k1.extBut _ _ c1 x))) ⟨oe,k3.extBut _ _ ne xe,ce⟩
 | some u=>
  have hv:vs[n2]?=none:=by rcases hend with h | h;rw [hu] at h;cases h;exact h
  refine Ag (Sf (h1.extBut k1.extBut D.ne3) (t1.extBut k1.extBut D.neb) hu λ g2 m2 k2=>Ao ?_);have o2:Cv g2 to a b:=k2.extBut _ _ D.ne8 (k1.extBut _ _ D.ne2 ho);refine Ag (HB o2 rfl ?_);refine Ag (Ra o2 λ g3 o3 k3=>?_);refine Ag (N4 (Ao ?_));refine Ag (Ag (N5 ?_));show Ak _ _ (IC (.ref p2) >>= _) _ _ _;refine Ag (Us hh (((h2.extBut k1.extBut D.ne4).extBut k2.extBut D.nea.symm).extBut k3.extBut D.ne9.symm) (((t2.extBut k1.extBut D.nef).extBut k2.extBut D.neh).extBut k3.extBut D.neg) hv λ g4 e k4 ⟨oe,xe,ce⟩=>?_);have y4:Du g4 zz ti to .ellipsis:=k4 _ _ D.ne4.symm (k3.extBut _ _ D.ne2.symm (k2.extBut _ _ D.ne3.symm y1));have ne:e≠zz:=λ x=>by subst x;rw [y4] at xe;cases xe;simp at ce
  refine Kw y4 (by simp) λ g5 _ k5=>hE g5 e (λ c o c1 c2 c3 c4 x=>k5.extBut _ _ c1 (k4 _ _ c4 (k3.extBut _ _ c2 (k2.extBut _ _ c3 (k1.extBut _ _ c1 x))))) ⟨oe,k5.extBut _ _ ne xe,ce⟩
def jx {Q:Option Ad->Ai->Prop} (D:ZApart zz ti to p1 p2 q1 q2) (hz:Du s.heap zz ti to .none) (hi:Cv s.heap ti (.ref p1) (.ref p2)) (ho:Cv s.heap to a b) (h1:s.heap.IsTupleIter p1 q1 n1) (h2:s.heap.IsTupleIter p2 q2 n2) (t1:s.heap.IsTuple q1 us) (t2:s.heap.IsTuple q2 vs) (hu:us[n1]?=some u) (hv:vs[n2]?=some v)
  (hQ:∀ h',Du h' zz ti to (DA s.heap.objs.size)->Cv h' to u v->h'.IsTupleIter p1 q1 (n1 + 1)->h'.IsTupleIter p2 q2 (n2 + 1)->Cv h' s.heap.objs.size u v->h'.objs.size=s.heap.objs.size + 1->(∀ c o,c≠zz->c≠to->c≠p1->c≠p2->s.heap.get? c=some o->h'.get? c=some o)->Q (some (.ref s.heap.objs.size)) { s with heap:=h' }):
  Ak (Av prog w) A (Ee (.ref zz)) Q E s:=by
 have hT:s.TypeIs (.ref zz) "zip" := ⟨_,hz,rfl⟩
 unfold Ee;exact Ag (Ko (HE (name:=GL "__next__") hT N7 (FW N7 hT F.entry_zip_next (kD D hz hi ho h1 h2 t1 t2 hu hv λ h' a1 a2 a3 a4 a5 a6 a7=>Ao (hQ h' a1 a2 a3 a4 a5 a6 a7)) (F.args_zip_next_1 _))))
def yT {Q:Option Ad->Ai->Prop} (hh:A.handled=none) (D:ZApart zz ti to p1 p2 q1 q2) (hz:Du s.heap zz ti to .none) (hi:Cv s.heap ti (.ref p1) (.ref p2)) (ho:Cv s.heap to a b) (h1:s.heap.IsTupleIter p1 q1 n1) (h2:s.heap.IsTupleIter p2 q2 n2) (t1:s.heap.IsTuple q1 us) (t2:s.heap.IsTuple q2 vs) (hend:us[n1]?=none\/vs[n2]?=none)
  (hQ:∀ h',(∀ c o,c≠zz->c≠to->c≠p1->c≠p2->s.heap.get? c=some o->h'.get? c=some o)->Q none { s with heap:=h' }):Ak (Av prog w) A (Ee (.ref zz)) Q E s:=by
 have hT:s.TypeIs (.ref zz) "zip" := ⟨_,hz,rfl⟩
 unfold Ee;refine Ag (Ko (HE (name:=GL "__next__") hT N7 (FW N7 hT F.entry_zip_next (jh hh D hz hi ho h1 h2 t1 t2 hend λ h' e hk ⟨o,xo,xc⟩=>?_) (F.args_zip_next_1 _))));exact Ag (L7 (T := "StopIteration") (b:=true) ⟨o,xo,xc⟩ Q6 (Ao (hQ _ hk)))
end
abbrev Hj (h:Heap) (q:Addr):Heap:=h.push { cls:=.type "tuple_iterator",data:=.fields #[.ref q,.int 0 0] }
abbrev Hi (h:Heap) (q r:Addr):Heap:=(Hj h q).push { cls:=.type "tuple_iterator",data:=.fields #[.ref r,.int 0 0] }
abbrev Hh (h:Heap) (q r:Addr):Heap:=(Hi h q r).push { cls:=.type "tuple",data:=.seq #[.ref h.objs.size,.ref (Hj h q).objs.size] }
abbrev Hg (h:Heap) (q r:Addr):Heap:=(Hh h q r).push { cls:=.type "tuple",data:=.seq #[.none,.none] }
abbrev Ec (h:Heap) (q r:Addr):Heap:=(Hg h q r).push { cls:=.type "zip",data:=.fields #[.none,.bool false,.bool false,.ref (Hi h q r).objs.size,.ref (Hh h q r).objs.size] }
def vq (q r:Addr) (us vs:Array Ad):Meets (vl9.«zip.__new__» ⟨[.type "zip",.ref q,.ref r],[]⟩) (λ _ R s=>s.heap.IsTuple q us/\s.heap.IsTuple r vs/\R (.ok (.ret (.ref (Hg s.heap q r).objs.size))) { s with heap:=Ec s.heap q r }):=
 .of_wp λ prog w A R s h=>by
  obtain ⟨hp,g,d,tk,os⟩:=s;obtain ⟨t1,t2,h⟩:=h;have hsub:=sub_zip;have T1:Heap.IsTuple (Shared.heap ⟨hp,g,d,tk,os⟩) q us:=t1;have T2:Heap.IsTuple (Shared.heap ⟨hp.push { cls:=.type "tuple_iterator",data:=.fields #[.ref q,.int 0 0] },g,d,tk,os⟩) r vs:=Heap.IsTuple.push t2 _
  wp_walk using NG T1,NG T2
  exact ⟨_,rfl,h⟩
def zR {q r:Addr}{us vs:Array Ad}{Q:Ad->Ai->Prop} (t1:s.heap.IsTuple q us) (t2:s.heap.IsTuple r vs)
  (h:∀ h',Du h' (s.heap.objs.size + 4) (s.heap.objs.size + 2) (s.heap.objs.size + 3) .none->Cv h' (s.heap.objs.size + 2) (.ref s.heap.objs.size) (.ref (s.heap.objs.size + 1))->Cv h' (s.heap.objs.size + 3) .none .none->h'.IsTupleIter s.heap.objs.size q 0->h'.IsTupleIter (s.heap.objs.size + 1) r 0->h'.objs.size=s.heap.objs.size + 5->(∀ c o,s.heap.get? c=some o->h'.get? c=some o)->Q (.ref (s.heap.objs.size + 4)) { s with heap:=h' }):
  Ak (Av prog w) A (call (.type "zip") [.ref q,.ref r]) Q E s:=by
 refine callType_new F.called_zip (by decide) (F.typeCall_zip_2 _ _) (F.newCall_zip_2 _ _) (λ obj=>F.args_object_init_3 obj _ _) F.entry_zip_new (vq q r us vs) ⟨t1,t2,?_⟩;have z1:(Hj s.heap q).objs.size=s.heap.objs.size + 1:=FU ..;have z2:(Hi s.heap q r).objs.size=s.heap.objs.size + 2:=by rw [FU,z1]
 have z3:(Hh s.heap q r).objs.size=s.heap.objs.size + 3:=by rw [FU,z2]
 have z4:(Hg s.heap q r).objs.size=s.heap.objs.size + 4:=by rw [FU,z3]
 have z5:(Ec s.heap q r).objs.size=s.heap.objs.size + 5:=by rw [FU,z4]
 have g5:(Ec s.heap q r).get? (Hg s.heap q r).objs.size=some _:=BL _ rfl;have g4:(Ec s.heap q r).get? (Hh s.heap q r).objs.size=some _:=Bb _ (BL _ rfl);have g3:(Ec s.heap q r).get? (Hi s.heap q r).objs.size=some _:=Bb _ (Bb _ (BL _ rfl));have g2:(Ec s.heap q r).get? (Hj s.heap q).objs.size=some _:=Bb _ (Bb _ (Bb _ (BL _ rfl)));have g1:(Ec s.heap q r).get? s.heap.objs.size=some _:=Bb _ (Bb _ (Bb _ (Bb _ (BL _ rfl))));show _/\_;rw [z2,z3,z4] at g5;rw [z1,z2] at g3;rw [z3] at g4;rw [z1] at g2;rw [z4];exact ⟨⟨_,g5,rfl⟩,h _ g5 g3 g4 ⟨_,g1,rfl,rfl⟩ ⟨_,g2,rfl,rfl⟩ z5 λ c o x=>Bb _ (Bb _ (Bb _ (Bb _ (Bb _ x))))⟩
end
section
variable {X:Cx}{pins:List (Addr×Obj)}{σ:St}{H:Hp}{s:Ai}{h':Heap}
def Qc {fp:List Addr}{a:Addr}{o:HO}{t':Nat} (I:Inv X pins σ H s) (k:∀ b u,b∉fp->s.heap.get? b=some u->h'.get? b=some u) (hf:∀ b∈fp,Cr X pins H b) (ha:s.heap.objs.size<=a) (new:zxq X.prog X.w (Ap H a o) h' a o):
  Inv X pins σ (Ap H a o) { s with heap:=h',toks:=t' }:=by
 have hn:H a=none:=I.hok.fresh ha;have nfp:∀ b u,H b=some u->b∉fp:=λ b u e z=>by rw [(hf b z).1] at e;cases e
 have up:∀ b u,H b=some u->Ap H a o b=some u:=λ b u e=>by rw [AE (λ z=>by rw [z,hn] at e;cases e)];exact e
 refine I.step (g':=s.gens) (d':=s.drawn) (ch:=fp) (λ b hb=>?_) (λ b u _ _ hc e _=>k b u hc e) (λ b u _ _ hc e _=>⟨u.slots,k b u hc e⟩) (λ b u _ e n=>?_) (λ b u hc e=>⟨u,k b u hc e⟩) (λ b xs e=>up b _ e) (λ b _ _ e=>up b _ e) (λ b ps e=>⟨#[],by rw [up b _ e];simp⟩) (λ m hm=>?_) (λ b u e=>?_) I.bare
 ·obtain ⟨_,f1,_,f3,f4,f5⟩:=hf b hb;exact ⟨f3,f1,f4,f5⟩
 ·rw [AE (λ z=>by rw [z] at e;exact absurd (AO e) (Nat.not_lt.mpr ha))];exact n
 ·obtain ⟨u,es,ep,ho,r⟩:=hm;exact ⟨u,es,ep,k _ u (λ z=>(hf _ z).2.1 rfl) ho,r⟩
 ·by_cases eb:b=a
  ·subst eb;rw [Bp] at e;cases e;exact new
  ·rw [AE eb] at e;refine (I.hok b u e).stay (λ c v hc q=>k c v ?_ q) (λ c q=>up c _ q) λ c xs q=>up c _ q;rcases hc with z | z
   ·rw [z];exact nfp b u e
   ·exact nfp c _ z
def KU {fp:List Addr}{t':Nat} (I:Inv X pins σ H s) (k:∀ b u,b∉fp->s.heap.get? b=some u->h'.get? b=some u) (hf:∀ b∈fp,Cr X pins H b):Inv X pins σ H { s with heap:=h',toks:=t' }:=by
 have nfp:∀ b u,H b=some u->b∉fp:=λ b u e z=>by rw [(hf b z).1] at e;cases e
 refine I.step (g':=s.gens) (d':=s.drawn) (ch:=fp) (λ b hb=>?_) (λ b u _ _ hc e _=>k b u hc e) (λ b u _ _ hc e _=>⟨u.slots,k b u hc e⟩) (λ _ _ _ _ n=>n) (λ b u hc e=>⟨u,k b u hc e⟩) (λ _ _ e=>e) (λ _ _ _ e=>e) (λ b ps e=>⟨#[],by rw [e];simp⟩) (λ m hm=>?_) (λ b u e=>?_) I.bare
 ·obtain ⟨_,f1,_,f3,f4,f5⟩:=hf b hb;exact ⟨f3,f1,f4,f5⟩
 ·obtain ⟨u,es,ep,ho,r⟩:=hm;exact ⟨u,es,ep,k _ u (λ z=>(hf _ z).2.1 rfl) ho,r⟩
 ·refine (I.hok b u e).stay (λ c v hc q=>k c v ?_ q) (λ _ q=>q) λ _ _ q=>q;rcases hc with z | z
  ·rw [z];exact nfp b u e
  ·exact nfp c _ z
end
def Ig (K:Frag) (a:Addr) (n:Nat):It:=
 ⟨λ i H=>i < n/\∃ xs x,Bi K H a xs/\xs[n - 1 - i]?=some x,λ i H x H'=>H'=H/\∀ xs,Bi K H a xs->xs[n - 1 - i]?=some x,λ i _=>n<=i⟩
def wb {P:AA}{w:A4}{K:Frag}{tg:Expr} (a it:Addr) (n:Nat):Turn P w K tg (Ig K a n) [it] it (λ i h=>i<=n/\h.IsRevIter it a ((n:Int) - 1 - (i:Int))) where
 mem:=by simp
 obj:=λ i h st b hb=>by
  have e:b=it:=by simpa using hb
  subst e;obtain ⟨_,o,e,c,d⟩:=st;exact ⟨o,e,λ v z=>by rw [d] at z;cases z⟩
 keep:=λ i h h' st k=>⟨st.1,st.2.at λ o e=>k it (by simp) o e⟩
 item:=by
  intro X hP hw hK hc i pins s σ H E I hf st hg;subst hP hw hK;obtain ⟨hn,xs,x,hq,hx⟩:=hg;obtain ⟨its,rv,p,hz⟩:=I.list hq;obtain ⟨u,hu,ru⟩:=rv.get hx;have st2:=st.2;rw [show (n:Int) - 1 - (i:Int)=((n - 1 - i:Nat):Int) by omega] at st2;refine wpAny_pyNext_rev_item st2 p.isList (x:=u) (by simpa using hu) λ h' st' sb=>?_;have I1:Inv X pins σ H { s with heap:=h' }:=KU (t':=s.toks) I (λ b o hb e=>(sb.2 b (λ z=>hb (by simp [z]))).trans e) hf;obtain ⟨o,e,c,d⟩:=id st';refine ⟨u,rfl,IE (s:={ s with heap:=h' }) e c d (by decide) ⟨x,H,I1,ru,⟨rfl,λ ys hy=>by rw [I.list_inj hy hq];exact hx⟩,⟨by omega,?_⟩,λ b hb=>(hf b hb).1⟩⟩;rw [show (n:Int) - 1 - ((i + 1:Nat):Int)=((n - 1 - i:Nat):Int) - 1 by omega];exact st'
 done:=by
  intro X hP hw hK hc i pins s σ H E I hf st hg;subst hP hw hK;have hn:n<=i:=hg;have st2:=st.2;rw [show (n:Int) - 1 - (i:Int)=-1 by have:=st.1;omega] at st2;exact wpAny_pyNext_rev_end (I.ok.hd hc) st2 λ h' eb=>⟨rfl,KU (t':=s.toks) I (λ b o hb e=>eb b o (λ z=>hb (by simp [z])) e) hf⟩
 self:=λ _ _ _ _ _ st h=>QY st.2 h
def Ih (K:Frag) (a:Addr):It:=
 ⟨λ i H=>∃ xs x,Bi K H a xs/\xs[i]?=some x,λ i H v H'=>∃ T x,H T=none/\v=.ref T/\H'=Ap H T (.tup [.int (i:Int),x])/\∀ xs,Bi K H a xs->xs[i]?=some x,λ i H=>∃ xs,Bi K H a xs/\xs.length<=i⟩
def yu {P:AA}{w:A4}{K:Frag}{es:List Expr}{k:Nat}{pos:Pos} (a e it:Addr) (hne:e≠it):Turn P w K (.Tuple es k pos) (Ih K a) [e,it] e (λ i h=>(∃ old,IsEnum h e it (i:Int) old)/\h.IsListIter it a i) where
 mem:=by simp
 obj:=λ i h st b hb=>by
  obtain ⟨⟨old,he⟩,o,ho,c,d⟩:=st;rcases jb5.mp hb with z | z
  ·rw [z];exact ⟨_,he,λ v z=>by cases z⟩
  ·rw [jb6.mp z];exact ⟨o,ho,λ v z=>by rw [d] at z;cases z⟩
 keep:=λ i h h' st k=>by
  obtain ⟨⟨old,he⟩,hi⟩:=st;exact ⟨⟨old,k e (by simp) _ he⟩,hi.at λ o x=>k it (by simp) o x⟩
 item:=by
  intro X hP hw hK hc i pins s σ H E I hf st hg;subst hP hw hK;obtain ⟨xs,x,hq,hx⟩:=hg;obtain ⟨its,rv,p,hz⟩:=I.list hq;obtain ⟨u,hu,ru⟩:=rv.get hx;obtain ⟨⟨old,he⟩,hit⟩:=st;refine wpAny_pyNext_enum_item he hit p.isList (x:=u) (by simpa using hu) hne λ h' ho hit' hT hsz hk=>⟨_,rfl,?_⟩
  refine wpAny_letOwnedTupleGo_enum ho λ h2 he2 hs2=>?_;have hs0:s.heap.objs.size≠e:=E7 (AO he);have hn:H s.heap.objs.size=none:=I.hok.fresh (AB _);have hT2:h2.get? s.heap.objs.size=some { cls:=.type "tuple",data:=.seq #[.int (i:Int) s.toks,u] }:=(hs2.2 _ hs0).trans hT;have I1:Inv X pins σ (Ap H s.heap.objs.size (.tup [.int (i:Int),x])) { s with heap:=h2,toks:=s.toks + 1 }:=by
   refine Qc (fp:=[e,it]) I (λ b u hb q=>(hs2.2 b (λ z=>hb (by simp [z]))).trans (hk b u (λ z=>hb (by simp [z])) (λ z=>hb (by simp [z])) q)) hf (AB _) ?_;exact ⟨Cw (by decide:2<=1000) (by decide),_,.cons ⟨_,rfl⟩ (.cons ru .nil),⟨_,hT2,rfl,_,rfl⟩⟩
  refine ⟨.ref s.heap.objs.size,_,I1,rfl,⟨_,x,hn,rfl,rfl,λ ys hy=>by rw [I.list_inj hy hq];exact hx⟩,⟨⟨u,?_⟩,hit'.at λ o q=>(hs2.2 it (BE hne)).trans q⟩,λ b hb=>?_⟩
  ·rw [show ((i + 1:Nat):Int)=(i:Int) + 1 by omega];exact he2
  ·have hb':=(hf b hb).1;rw [AE (λ z=>?_)]
   ·exact hb'
   ·rcases jb5.mp hb with y | y
    ·rw [y] at z;exact hs0 z.symm
    ·rw [jb6.mp y] at z;obtain ⟨o,q,_⟩:=hit;exact absurd (AO q) (by rw [z];exact DK _)
 done:=by
  intro X hP hw hK hc i pins s σ H E I hf st hg;subst hP hw hK;obtain ⟨xs,hq,hx⟩:=hg;obtain ⟨its,rv,p,hz⟩:=I.list hq;obtain ⟨⟨old,he⟩,hit⟩:=st;have hl:=rv.length;exact wpAny_pyNext_enum_end (I.ok.hd hc) he hit p.isList (JE (by simp;omega)) λ h' eb=>⟨rfl,KU (t':=s.toks) I (λ b o hb q=>eb b o (λ z=>hb (by simp [z])) q) hf⟩
 self:=λ _ _ _ _ _ st h=>by
  obtain ⟨⟨old,he⟩,_⟩:=st;exact wpAny_pyIter_enum he h
def Ie (K:Frag) (a b:Addr):It:=
 ⟨λ i H=>∃ xs ys x y,Bi K H a xs/\Bi K H b ys/\xs[i]?=some x/\ys[i]?=some y,λ i H v H'=>∃ T x y,H T=none/\v=.ref T/\H'=Ap H T (.tup [x,y])/\∀ xs ys,Bi K H a xs->Bi K H b ys->xs[i]?=some x/\ys[i]?=some y,λ i H=>∃ xs ys,Bi K H a xs/\Bi K H b ys/\(xs.length<=i\/ys.length<=i)⟩
def UL {h:Heap}{z TI TO i1 i2 l1 l2:Addr}{f0:Ad}{a b c d:Ad}{k1 k2:Nat}{xs ys:Array Ad} (hTT:TI≠TO) (Gn:i1≠i2) (hz:Du h z TI TO f0) (hTI:Cv h TI a b) (hTO:Cv h TO c d) (h1:h.IsListIter i1 l1 k1) (h2:h.IsListIter i2 l2 k2) (hl1:h.IsList l1 xs) (hl2:h.IsList l2 ys):ZipApart z TI TO i1 i2 l1 l2:=by
 obtain ⟨o1,e1,c1,_⟩:=h1;obtain ⟨o2,e2,c2,_⟩:=h2;obtain ⟨p1,q1,r1,_⟩:=hl1;obtain ⟨p2,q2,r2,_⟩:=hl2;have ne:∀ {x y:Addr}{o o':Obj}{n m:String},h.get? x=some o->h.get? y=some o'->o.cls=.type n->o'.cls=.type m->n≠m->x≠y:=λ {x y o o' n m} ex ey cx cy nm z=>by
  subst z;rw [ex] at ey;cases ey;rw [cx] at cy;injection cy with cy
  exact nm cy
 exact ⟨ne hTI hz rfl rfl (by decide),ne hTO hz rfl rfl (by decide),ne e1 hz c1 rfl (by decide),ne e2 hz c2 rfl (by decide),hTT,ne hTI e1 rfl c1 (by decide),ne hTI e2 rfl c2 (by decide),ne hTO e1 rfl c1 (by decide),ne hTO e2 rfl c2 (by decide),Gn,
  ne q1 hz r1 rfl (by decide),ne q1 hTO r1 rfl (by decide),ne q1 e1 r1 c1 (by decide),ne q1 e2 r1 c2 (by decide),ne q2 hz r2 rfl (by decide),ne q2 hTO r2 rfl (by decide),ne q2 e1 r2 c1 (by decide),ne q2 e2 r2 c2 (by decide)⟩
def we {P:AA}{w:A4}{K:Frag}{es:List Expr}{k:Nat}{pos:Pos} (l1 l2 z TI TO i1 i2:Addr) (hTT:TI≠TO) (Gn:i1≠i2):
  Turn P w K (.Tuple es k pos) (Ie K l1 l2) [z,TI,TO,i1,i2] z (λ i h=>Du h z TI TO .none/\Cv h TI (.ref i1) (.ref i2)/\(∃ p q,Cv h TO p q)/\h.IsListIter i1 l1 i/\h.IsListIter i2 l2 i) where
 mem:=by simp
 obj:=λ i h st b hb=>by
  obtain ⟨hz,hTI,⟨p,q,hTO⟩,⟨o1,e1,_,d1⟩,⟨o2,e2,_,d2⟩⟩:=st;simp only [jb5,Gg,or_false] at hb;rcases hb with rfl | rfl | rfl | rfl | rfl
  ·exact ⟨_,hz,λ v z=>by cases z⟩
  ·exact ⟨_,hTI,λ v z=>by cases z⟩
  ·exact ⟨_,hTO,λ v z=>by cases z⟩
  ·exact ⟨o1,e1,λ v z=>by rw [d1] at z;cases z⟩
  ·exact ⟨o2,e2,λ v z=>by rw [d2] at z;cases z⟩
 keep:=λ i h h' st k=>by
  obtain ⟨hz,hTI,⟨p,q,hTO⟩,h1,h2⟩:=st;exact ⟨k z (by simp) _ hz,k TI (by simp) _ hTI,⟨p,q,k TO (by simp) _ hTO⟩,h1.at λ o x=>k i1 (by simp) o x,h2.at λ o x=>k i2 (by simp) o x⟩
 item:=by
  intro X hP hw hK hc i pins s σ H E I hf st hg;subst hP hw hK;obtain ⟨xs,ys,x,y,hq1,hq2,hx,hy⟩:=hg;obtain ⟨its1,rv1,p1,hz1⟩:=I.list hq1;obtain ⟨its2,rv2,p2,hz2⟩:=I.list hq2;obtain ⟨u1,hu1,ru1⟩:=rv1.get hx;obtain ⟨u2,hu2,ru2⟩:=rv2.get hy;obtain ⟨hz,hTI,⟨p,q,hTO⟩,h1,h2⟩:=st;have D:=UL hTT Gn hz hTI hTO h1 h2 p1.isList p2.isList;refine wpAny_pyNext_zip_item D hz hTI hTO h1 h2 p1.isList p2.isList (x:=u1) (y:=u2) (by simpa using hu1) (by simpa using hu2) λ h' a1 a2 a3 a4 a5 a6 hk=>⟨_,rfl,?_⟩
  refine UR a1 λ h2' hz' hs'=>?_;have hn:H s.heap.objs.size=none:=I.hok.fresh (AB _);have hs0:s.heap.objs.size≠z:=E7 (AO hz);have I1:Inv X pins σ (Ap H s.heap.objs.size (.tup [x,y])) { s with heap:=h2',toks:=s.toks }:=by
   refine Qc (fp:=[z,TI,TO,i1,i2]) I (λ b u hb e=>(hs'.2 b (λ z=>hb (by simp [z]))).trans (hk b u (λ z=>hb (by simp [z])) (λ z=>hb (by simp [z])) (λ z=>hb (by simp [z])) (λ z=>hb (by simp [z])) e)) hf (AB _) ?_;exact ⟨Cw (by decide:2<=1000) (by decide),_,.cons ru1 (.cons ru2 .nil),⟨_,(hs'.2 _ hs0).trans a5,rfl,_,rfl⟩⟩
  refine ⟨.ref s.heap.objs.size,_,I1,rfl,⟨_,x,y,hn,rfl,rfl,λ xs' ys' e1 e2=>⟨by rw [I.list_inj e1 hq1];exact hx,by rw [I.list_inj e2 hq2];exact hy⟩⟩,⟨hz',(hs'.2 _ D.TIz).trans (hk _ _ D.TIz D.TITO D.TIi1 D.TIi2 hTI),⟨_,_,(hs'.2 _ D.TOz).trans a2⟩,a3.at λ o e=>(hs'.2 _ D.i1z).trans e,a4.at λ o e=>(hs'.2 _ D.i2z).trans e⟩,λ b hb=>?_⟩;have hb':=(hf b hb).1;have lt:b < s.heap.objs.size:=by
   simp only [jb5,Gg,or_false] at hb;rcases hb with rfl | rfl | rfl | rfl | rfl
   ·exact AO hz
   ·exact AO hTI
   ·exact AO hTO
   ·obtain ⟨_,e,_⟩:=h1;exact AO e
   ·obtain ⟨_,e,_⟩:=h2;exact AO e
  rw [AE (Cf lt)];exact hb'
 done:=by
  intro X hP hw hK hc i pins s σ H E I hf st hg;subst hP hw hK;obtain ⟨xs,ys,hq1,hq2,hend⟩:=hg;obtain ⟨its1,rv1,p1,hz1⟩:=I.list hq1;obtain ⟨its2,rv2,p2,hz2⟩:=I.list hq2;obtain ⟨hz,hTI,⟨p,q,hTO⟩,h1,h2⟩:=st;have D:=UL hTT Gn hz hTI hTO h1 h2 p1.isList p2.isList;have r1:=rv1.length;have r2:=rv2.length;refine wpAny_pyNext_zip_end (I.ok.hd hc) D hz hTI hTO h1 h2 p1.isList p2.isList ?_ λ h' hk=>⟨rfl,KU (t':=s.toks) I (λ b o hb e=>hk b o (λ z=>hb (by simp [z])) (λ z=>hb (by simp [z])) (λ z=>hb (by simp [z])) (λ z=>hb (by simp [z])) e) hf⟩
  rcases hend with h | h
  ·exact .inl (JE (by simp;omega))
  ·exact .inr (JE (by simp;omega))
 self:=λ _ _ _ _ _ st h=>NB st.1 h
def Ic (a b:Addr):It:=
 ⟨λ i H=>∃ xs ys x y,H a=some (.tup xs)/\H b=some (.tup ys)/\xs[i]?=some x/\ys[i]?=some y,λ i H v H'=>∃ T x y,H T=none/\v=.ref T/\H'=Ap H T (.tup [x,y])/\∀ xs ys,H a=some (.tup xs)->H b=some (.tup ys)->xs[i]?=some x/\ys[i]?=some y,λ i H=>∃ xs ys,H a=some (.tup xs)/\H b=some (.tup ys)/\(xs.length<=i\/ys.length<=i)⟩
def Yo {h:Heap}{H:Hp}{z TI TO i1 i2 l1 l2:Addr}{f0:Ad}{a b c d:Ad}{k1 k2:Nat}{xs ys:Array Ad}{us vs:List V} (hTT:TI≠TO) (Gn:i1≠i2) (hz:Du h z TI TO f0) (hTI:Cv h TI a b) (hTO:Cv h TO c d) (h1:h.IsTupleIter i1 l1 k1) (h2:h.IsTupleIter i2 l2 k2) (hl1:h.IsTuple l1 xs) (hl2:h.IsTuple l2 ys) (n1:H TO=none) (q1:H l1=some (.tup us)) (q2:H l2=some (.tup vs)):ZApart z TI TO i1 i2 l1 l2:=by
 obtain ⟨o1,e1,c1,_⟩:=h1;obtain ⟨o2,e2,c2,_⟩:=h2;obtain ⟨p1,m1,r1,_⟩:=hl1;obtain ⟨p2,m2,r2,_⟩:=hl2;have ne:∀ {x y:Addr}{o o':Obj}{n m:String},h.get? x=some o->h.get? y=some o'->o.cls=.type n->o'.cls=.type m->n≠m->x≠y:=λ {x y o o' n m} ex ey cx cy nm z=>by
  subst z;rw [ex] at ey;cases ey;rw [cx] at cy;injection cy with cy
  exact nm cy
 exact ⟨ne hTI hz rfl rfl (by decide),ne hTO hz rfl rfl (by decide),ne e1 hz c1 rfl (by decide),ne e2 hz c2 rfl (by decide),hTT,ne hTI e1 rfl c1 (by decide),ne hTI e2 rfl c2 (by decide),ne hTO e1 rfl c1 (by decide),ne hTO e2 rfl c2 (by decide),Gn,
  ne m1 hz r1 rfl (by decide),(λ z=>by rw [z,n1] at q1;cases q1),ne m1 e1 r1 c1 (by decide),ne m1 e2 r1 c2 (by decide),ne m2 hz r2 rfl (by decide),(λ z=>by rw [z,n1] at q2;cases q2),ne m2 e1 r2 c1 (by decide),ne m2 e2 r2 c2 (by decide)⟩
def kA {P:AA}{w:A4}{K:Frag}{es:List Expr}{k:Nat}{pos:Pos} (l1 l2 z TI TO i1 i2:Addr) (hTT:TI≠TO) (Gn:i1≠i2):
  Turn P w K (.Tuple es k pos) (Ic l1 l2) [z,TI,TO,i1,i2] z (λ i h=>Du h z TI TO .none/\Cv h TI (.ref i1) (.ref i2)/\(∃ p q,Cv h TO p q)/\h.IsTupleIter i1 l1 i/\h.IsTupleIter i2 l2 i) where
 mem:=by simp
 obj:=λ i h st b hb=>by
  obtain ⟨hz,hTI,⟨p,q,hTO⟩,⟨o1,e1,_,d1⟩,⟨o2,e2,_,d2⟩⟩:=st;simp only [jb5,Gg,or_false] at hb;rcases hb with rfl | rfl | rfl | rfl | rfl
  ·exact ⟨_,hz,λ v z=>by cases z⟩
  ·exact ⟨_,hTI,λ v z=>by cases z⟩
  ·exact ⟨_,hTO,λ v z=>by cases z⟩
  ·exact ⟨o1,e1,λ v z=>by rw [d1] at z;cases z⟩
  ·exact ⟨o2,e2,λ v z=>by rw [d2] at z;cases z⟩
 keep:=λ i h h' st k=>by
  obtain ⟨hz,hTI,⟨p,q,hTO⟩,h1,h2⟩:=st;exact ⟨k z (by simp) _ hz,k TI (by simp) _ hTI,⟨p,q,k TO (by simp) _ hTO⟩,h1.at λ o x=>k i1 (by simp) o x,h2.at λ o x=>k i2 (by simp) o x⟩
 item:=by
  intro X hP hw hK hc i pins s σ H E I hf st hg;subst hP hw hK;obtain ⟨xs,ys,x,y,hq1,hq2,hx,hy⟩:=hg;obtain ⟨its1,rv1,p1,hz1⟩:=I.tuple (.of hq1);obtain ⟨its2,rv2,p2,hz2⟩:=I.tuple (.of hq2);obtain ⟨u1,hu1,ru1⟩:=rv1.get hx;obtain ⟨u2,hu2,ru2⟩:=rv2.get hy;obtain ⟨hz,hTI,⟨p,q,hTO⟩,h1,h2⟩:=st;have T1:s.heap.IsTuple l1 its1.toArray:=p1;have T2:s.heap.IsTuple l2 its2.toArray:=p2;have D:=Yo hTT Gn hz hTI hTO h1 h2 T1 T2 (hf TO (by simp)).1 hq1 hq2;refine jx D hz hTI hTO h1 h2 T1 T2 (u:=u1) (v:=u2) (by simpa using hu1) (by simpa using hu2) λ h' a1 a2 a3 a4 a5 a6 hk=>⟨_,rfl,?_⟩
  refine UR a1 λ h2' hz' hs'=>?_;have hn:H s.heap.objs.size=none:=I.hok.fresh (AB _);have hs0:s.heap.objs.size≠z:=E7 (AO hz);have I1:Inv X pins σ (Ap H s.heap.objs.size (.tup [x,y])) { s with heap:=h2',toks:=s.toks }:=by
   refine Qc (fp:=[z,TI,TO,i1,i2]) I (λ b u hb e=>(hs'.2 b (λ z=>hb (by simp [z]))).trans (hk b u (λ z=>hb (by simp [z])) (λ z=>hb (by simp [z])) (λ z=>hb (by simp [z])) (λ z=>hb (by simp [z])) e)) hf (AB _) ?_;exact ⟨Cw (by decide:2<=1000) (by decide),_,.cons ru1 (.cons ru2 .nil),⟨_,(hs'.2 _ hs0).trans a5,rfl,_,rfl⟩⟩
  refine ⟨.ref s.heap.objs.size,_,I1,rfl,⟨_,x,y,hn,rfl,rfl,λ xs' ys' e1 e2=>⟨by rw [hq1] at e1;cases e1;exact hx,by rw [hq2] at e2;cases e2;exact hy⟩⟩,⟨hz',(hs'.2 _ D.ne1).trans (hk _ _ D.ne1 D.ne5 D.ne6 D.ne7 hTI),⟨_,_,(hs'.2 _ D.ne2).trans a2⟩,a3.at λ o e=>(hs'.2 _ D.ne3).trans e,a4.at λ o e=>(hs'.2 _ D.ne4).trans e⟩,λ b hb=>?_⟩;have hb':=(hf b hb).1;have lt:b < s.heap.objs.size:=by
   simp only [jb5,Gg,or_false] at hb;rcases hb with rfl | rfl | rfl | rfl | rfl
   ·exact AO hz
   ·exact AO hTI
   ·exact AO hTO
   ·obtain ⟨_,e,_⟩:=h1;exact AO e
   ·obtain ⟨_,e,_⟩:=h2;exact AO e
  rw [AE (Cf lt)];exact hb'
 done:=by
  intro X hP hw hK hc i pins s σ H E I hf st hg;subst hP hw hK;obtain ⟨xs,ys,hq1,hq2,hend⟩:=hg;obtain ⟨its1,rv1,p1,hz1⟩:=I.tuple (.of hq1);obtain ⟨its2,rv2,p2,hz2⟩:=I.tuple (.of hq2);obtain ⟨hz,hTI,⟨p,q,hTO⟩,h1,h2⟩:=st;have T1:s.heap.IsTuple l1 its1.toArray:=p1;have T2:s.heap.IsTuple l2 its2.toArray:=p2;have D:=Yo hTT Gn hz hTI hTO h1 h2 T1 T2 (hf TO (by simp)).1 hq1 hq2;have r1:=rv1.length;have r2:=rv2.length;refine yT (I.ok.hd hc) D hz hTI hTO h1 h2 T1 T2 ?_ λ h' hk=>⟨rfl,KU (t':=s.toks) I (λ b o hb e=>hk b o (λ z=>hb (by simp [z])) (λ z=>hb (by simp [z])) (λ z=>hb (by simp [z])) (λ z=>hb (by simp [z])) e) hf⟩
  rcases hend with h | h
  ·exact .inl (JE (by simp;omega))
  ·exact .inr (JE (by simp;omega))
 self:=λ _ _ _ _ _ st h=>NB st.1 h
section
variable {X:Cx}{tg:Expr}
def TF (K:Frag) (ta:TA):TI:=λ σ H R=>ta σ H λ vs H1=>∃ a xs,vs=[.ref a]/\Bi K H1 a xs/\R (Ig K a xs.length) H1
def TH (K:Frag) (ta:TA):TI:=λ σ H R=>ta σ H λ vs H1=>∃ a xs,vs=[.ref a]/\Bi K H1 a xs/\R (Ih K a) H1
def TB (K:Frag) (ta:TA):TI:=λ σ H R=>ta σ H λ vs H1=>∃ a b xs ys,vs=[.ref a,.ref b]/\((Bi K H1 a xs/\Bi K H1 b ys/\R (Ie K a b) H1)\/(H1 a=some (.tup xs)/\H1 b=some (.tup ys)/\R (Ic a b) H1))
theorem zb {a:Expr}{ta:TA}{p pos:Pos} (hg:Gl X "reversed") (hm:X.mg "reversed" = none) (ha:PA X [a] ta) (hs:AK [a] X.env=[(false,eval a X.env)]):PI X tg (.Call (.Name "reversed" p) [a] [] pos) (TF X.K ta):=by
 intro pins s σ H R I h;refine Call_ (FK I hg hm boot_reversed (HF (Az (ha pos pins s σ H _ I h) λ us s1 ⟨vs,H1,I1,r1,q1⟩=>?_) hs rfl));obtain ⟨b,xs,e,hq,q⟩:=q1;subst e;cases r1 with
 | cons r rr=>
  cases rr;cases r;obtain ⟨its,rv,pl,hz⟩:=I1.list hq;have hl:=rv.length;refine call_reversed_list pl.isList ?_;have hT:(s1.heap.push (revObj b ((its.toArray.size:Int) - 1))).IsRevIter s1.heap.objs.size b ((its.toArray.size:Int) - 1):=⟨_,BL _ rfl,rfl,rfl⟩
  refine QY (s:={ s1 with heap:=s1.heap.push (revObj b ((its.toArray.size:Int) - 1)) }) hT ?_;refine ⟨s1.heap.objs.size,[s1.heap.objs.size],_,_,H1,rfl,I1.kept (t':=s1.toks) λ b o e=>Bb _ e,wb b _ xs.length,⟨Ft _,?_⟩,λ c hc=>?_,q⟩
  ·rw [show (xs.length:Int) - 1 - ((0:Nat):Int)=(its.toArray.size:Int) - 1 by simp;omega];exact hT
  ·have e:c=s1.heap.objs.size:=by simpa using hc
   subst e;exact I1.fpOk (AB _) (I1.hok.fresh (AB _))
theorem kj {a:Expr}{ta:TA}{es:List Expr}{k:Nat}{tp p pos:Pos} (hg:Gl X "enumerate") (hm:X.mg "enumerate" = none) (ha:PA X [a] ta) (hs:AK [a] X.env=[(false,eval a X.env)]):PI X (.Tuple es k tp) (.Call (.Name "enumerate" p) [a] [] pos) (TH X.K ta):=by
 intro pins s σ H R I h;refine Call_ (FK I hg hm boot_enumerate (HF (Az (ha pos pins s σ H _ I h) λ us s1 ⟨vs,H1,I1,r1,q1⟩=>?_) hs rfl));obtain ⟨b,xs,e,hq,q⟩:=q1;subst e;cases r1 with
 | cons r rr=>
  cases rr;cases r;obtain ⟨its,rv,pl,hz⟩:=I1.list hq;refine call_enumerate_list pl.isList λ h' he hit hsz hk=>?_;refine wpAny_pyIter_enum (s:={ s1 with heap:=h' }) he ?_;refine ⟨s1.heap.objs.size + 1,[s1.heap.objs.size + 1,s1.heap.objs.size],_,_,H1,rfl,I1.kept (t':=s1.toks) hk,yu b _ _ (Nat.succ_ne_self _),⟨⟨_,he⟩,hit⟩,λ c hc=>?_,q⟩;rcases jb5.mp hc with e | e
  ·rw [e];exact I1.fpOk (Te _) (I1.hok.fresh (Te _))
  ·rw [jb6.mp e];exact I1.fpOk (AB _) (I1.hok.fresh (AB _))
def ze {a b:Expr}{ta:TA}{es:List Expr}{k:Nat}{tp p pos:Pos} (hg:Gl X "zip") (hm:X.mg "zip" = none) (ha:PA X [a,b] ta) (hs:AK [a,b] X.env=[(false,eval a X.env),(false,eval b X.env)]) (hs2:AK [b] X.env=[(false,eval b X.env)]):
  PI X (.Tuple es k tp) (.Call (.Name "zip" p) [a,b] [] pos) (TB X.K ta):=by
 intro pins s σ H R I h;refine Call_ (FK I hg hm boot_zip (HF (Az (ha pos pins s σ H _ I h) λ us s1 ⟨vs,H1,I1,r1,q1⟩=>?_) (by rw [hs,hs2]) (by rw [hs2];rfl)));obtain ⟨c,d,xs,ys,e,⟨hq1,hq2,q⟩ | ⟨hq1,hq2,q⟩⟩:=q1
 ·subst e;cases r1 with
  | cons r rr=>
   cases rr with
   | cons r' rr=>
    cases rr;cases r;cases r';obtain ⟨its1,rv1,p1,hz1⟩:=I1.list hq1;obtain ⟨its2,rv2,p2,hz2⟩:=I1.list hq2;refine call_zip_2 p1.isList p2.isList λ h' hz hTI hTO h1 h2 hsz hk=>?_;refine NB (s:={ s1 with heap:=h' }) hz ?_;refine ⟨s1.heap.objs.size + 4,[s1.heap.objs.size + 4,s1.heap.objs.size + 2,s1.heap.objs.size + 3,s1.heap.objs.size,s1.heap.objs.size + 1],_,_,H1,rfl,I1.kept (t':=s1.toks) hk,we c d _ _ _ _ _ (Cf (GQ _)) (Cf (GQ _)),⟨hz,hTI,⟨_,_,hTO⟩,h1,h2⟩,λ x hx=>?_,q⟩
    have:s1.heap.objs.size<=x:=by
     simp only [jb5,Gg,or_false] at hx;rcases hx with rfl | rfl | rfl | rfl | rfl
     ·exact IJ _ _
     ·exact IJ _ _
     ·exact IJ _ _
     ·exact AB _
     ·exact IJ _ _
    exact I1.fpOk this (I1.hok.fresh this)
 ·subst e;cases r1 with
  | cons r rr=>
   cases rr with
   | cons r' rr=>
    cases rr;cases r;cases r';obtain ⟨its1,rv1,p1,hz1⟩:=I1.tuple (.of hq1);obtain ⟨its2,rv2,p2,hz2⟩:=I1.tuple (.of hq2);refine zR (us:=its1.toArray) (vs:=its2.toArray) p1 p2 λ h' hz hTI hTO h1 h2 hsz hk=>?_;refine NB (s:={ s1 with heap:=h' }) hz ?_;refine ⟨s1.heap.objs.size + 4,[s1.heap.objs.size + 4,s1.heap.objs.size + 2,s1.heap.objs.size + 3,s1.heap.objs.size,s1.heap.objs.size + 1],_,_,H1,rfl,I1.kept (t':=s1.toks) hk,kA c d _ _ _ _ _ (Cf (GQ _)) (Cf (GQ _)),⟨hz,hTI,⟨_,_,hTO⟩,h1,h2⟩,λ x hx=>?_,q⟩
    have:s1.heap.objs.size<=x:=by
     simp only [jb5,Gg,or_false] at hx;rcases hx with rfl | rfl | rfl | rfl | rfl
     ·exact IJ _ _
     ·exact IJ _ _
     ·exact IJ _ _
     ·exact AB _
     ·exact IJ _ _
    exact I1.fpOk this (I1.hok.fresh this)
end
inductive Vw where
 | rev | enm | zp
def Hu:Nat->List PV->List PV
 | _,[]=>[]
 | i,x::xs=>.tup [.int (i:Int),x]::Hu (i + 1) xs
def BY:List PV->List PV->List PV
 | x::xs,y::ys=>.tup [x,y]::BY xs ys
 | _,_=>[]
def FE:Vw->List PV->Option (List PV)
 | .rev,[.lst xs]=>some xs.reverse
 | .enm,[.lst xs]=>some (Hu 0 xs)
 | .zp,[.lst xs,.lst ys]=>some (BY xs ys)
 | .zp,[.tup xs,.tup ys]=>some (BY xs ys)
 | _,_=>none
def VD (v:Vw) (K:Frag) (ws:List V) (H:Hp) (R:It->Hp->Prop):Prop:=match v with
 | .rev=>∃ a xs,ws=[.ref a]/\Bi K H a xs/\R (Ig K a xs.length) H
 | .enm=>∃ a xs,ws=[.ref a]/\Bi K H a xs/\R (Ih K a) H
 | .zp=>∃ a b xs ys,ws=[.ref a,.ref b]/\((Bi K H a xs/\Bi K H b ys/\R (Ie K a b) H)\/(H a=some (.tup xs)/\H b=some (.tup ys)/\R (Ic a b) H))
def TC (v:Vw) (K:Frag) (ta:TA):TI:=λ σ H R=>ta σ H λ ws H1=>VD v K ws H1 R
theorem PH:∀ (xs:List PV) (k:Nat),(Hu k xs).length=xs.length
 | [],_=>rfl
 | x::xs,k=>by rw [Hu,Bh,PH xs,Bh]
theorem PF:∀ (xs:List PV) (k i:Nat),(Hu k xs)[i]?=(xs[i]?).map λ x=>PV.tup [.int ((k + i:Nat):Int),x]
 | [],_,_=>by simp [Hu]
 | x::xs,k,0=>by simp [Hu]
 | x::xs,k,i + 1=>by
  rw [Hu,IQ,PF xs (k + 1) i,IQ,show k + 1 + i=k + (i + 1) by omega]
theorem Q0:∀ (xs ys:List PV),(BY xs ys).length=min xs.length ys.length
 | [],ys=>by simp [BY]
 | x::xs,[]=>by simp [BY]
 | x::xs,y::ys=>by rw [BY,Bh,Q0 xs ys,Bh,Bh];omega
theorem Qz:∀ (xs ys:List PV) (i:Nat) (x y:PV),xs[i]?=some x->ys[i]?=some y->(BY xs ys)[i]?=some (.tup [x,y])
 | [],ys,i,x,y,h,_=>by simp at h
 | a::xs,[],i,x,y,_,h=>by simp at h
 | a::xs,b::ys,0,x,y,h,h'=>by simp at h h';subst h h';simp [BY]
 | a::xs,b::ys,i + 1,x,y,h,h'=>by
  rw [BY,IQ];exact Qz xs ys i x y (by simpa using h) (by simpa using h')
def Own.growH {K:Frag}{H H':Hp}{Z:Addr->Prop}{x:PV}{v:V} (k:∀ a o,H a=some o->H' a=some o) (h:Own K H Z x 0 v []):Own K H' Z x 0 v []:=
 Own.move (S:=λ _=>False) (λ a o h _=>k a o h) (λ _ z=>z.elim) (λ _ _ n=>n) x 0 v [] (λ _ z=>nomatch z) h
def Ir {K:Frag}{H:Hp}{Z:Addr->Prop}{xs:List PV}{v:V} (o:Own K H Z (.lst xs) 0 v []):∃ a ws,v=.ref a/\Bi K H a ws/\OwnL K H Z xs 0 ws []:=by
 rw [Own] at o;obtain ⟨b,ws,e,⟨_,hr,_,ol⟩ | ⟨h,_⟩⟩:=o
 ·exact ⟨b,ws,e,.inl (.inl hr.1),ol⟩
 ·exact absurd rfl h
def Nn {K:Frag}{H:Hp}{Z:Addr->Prop}{xs:List PV}{v:V} (o:Own K H Z (.tup xs) 0 v []):∃ a ws,v=.ref a/\H a=some (.tup ws)/\OwnL K H Z xs 0 ws []:=by
 rw [Own] at o;obtain ⟨a,ws,e,h,ol⟩:=o;rw [Nd] at ol;exact ⟨a,ws,e,h,ol⟩
def Qr {K:Frag}{H:Hp}{Z:Addr->Prop}{x y:PV}{u v:V}{T:Addr} (hT:H T=some (.tup [u,v])) (ox:Own K H Z x 0 u []) (oy:Own K H Z y 0 v []):Own K H Z (.tup [x,y]) 0 (.ref T) []:=by
 rw [Own];refine ⟨T,_,rfl,hT,?_⟩;rw [Nd,OwnL];refine ⟨u,[v],[],[],rfl,rfl,(λ _ z=>nomatch z),ox,?_⟩;rw [OwnL];exact ⟨v,[],[],[],rfl,rfl,(λ _ z=>nomatch z),oy,by rw [OwnL];exact ⟨rfl,rfl⟩⟩
def OwnL.one {K:Frag}{H:Hp}{Z:Addr->Prop}{x:PV}{ws:List V} (o:OwnL K H Z [x] 0 ws []):∃ v,ws=[v]/\Own K H Z x 0 v []:=by
 rw [OwnL] at o;obtain ⟨v,r,f1,f2,rfl,ef,_,o1,o2⟩:=o;obtain ⟨rfl,rfl⟩:f1=[]/\f2=[]:=by simpa using ef.symm
 rw [OwnL] at o2;exact ⟨v,by rw [o2.1],o1⟩
def OwnL.two {K:Frag}{H:Hp}{Z:Addr->Prop}{x y:PV}{ws:List V} (o:OwnL K H Z [x,y] 0 ws []):∃ u v,ws=[u,v]/\Own K H Z x 0 u []/\Own K H Z y 0 v []:=by
 rw [OwnL] at o;obtain ⟨u,r,f1,f2,rfl,ef,_,o1,o2⟩:=o;obtain ⟨rfl,rfl⟩:f1=[]/\f2=[]:=by simpa using ef.symm
 obtain ⟨v,rfl,o3⟩:=o2.one;exact ⟨u,v,rfl,o1,o3⟩
theorem OwnL.mono0 {K:Frag}{H H':Hp}{Z Z':Addr->Prop} (h:∀ x v,Own K H Z x 0 v []->Own K H' Z' x 0 v []):∀ {xs:List PV}{ws:List V},OwnL K H Z xs 0 ws []->OwnL K H' Z' xs 0 ws []
 | [],ws,o=>by rw [OwnL] at o ⊢;exact o
 | x::xs,ws,o=>by
  rw [OwnL] at o;obtain ⟨u,r,f1,f2,rfl,ef,_,o1,o2⟩:=o;obtain ⟨rfl,rfl⟩:f1=[]/\f2=[]:=by simpa using ef.symm
  rw [OwnL];exact ⟨u,r,[],[],rfl,rfl,(λ _ z=>nomatch z),h _ _ o1,OwnL.mono0 h o2⟩
def VE {v:Vw}{ps els:List PV}{ws:List V}{K:Frag}{H:Hp}{Z:Addr->Prop} (he:FE v ps=some els) (o:OwnL K H Z ps 0 ws []):∃ J,(∀ R:It->Hp->Prop,R J H->VD v K ws H R)/\∀ H Z,OwnL K H Z ps 0 ws []->∀ i,(i < els.length->J.go i H)/\(els.length<=i->J.stop i H) /\
  (i < els.length->∀ x H',J.yld i H x H'->(∀ a o,H a=some o->H' a=some o)/\∃ y,els[i]?=some y/\Own K H' Z y 0 x []):=by
 unfold FE at he;split at he
 ·rename_i xs;cases he;obtain ⟨v,rfl,o1⟩:=o.one;obtain ⟨a,us,rfl,sq,ol⟩:=Ir o1;refine ⟨Ig K a us.length,λ R r=>⟨a,us,rfl,sq,r⟩,λ H' Z' o' i=>?_⟩;obtain ⟨v',e,o1'⟩:=o'.one;cases e;obtain ⟨a',us',e,sq',ol'⟩:=Ir o1';cases e;have hl:=ol.length;have hl':=ol'.length;rw [GU];refine ⟨λ h=>⟨by omega,us',us'[us.length - 1 - i]'(by omega),sq',by simp⟩,λ h=>?_,λ h x H2 y=>?_⟩
  ·show us.length<=i;omega
  ·obtain ⟨rfl,e2⟩:=y;refine ⟨λ _ _ h=>h,?_⟩;obtain ⟨z,ez,oz⟩:=ol'.get (e2 us' sq');refine ⟨z,?_,oz⟩;rw [T4 (by omega),<- ez,hl]
 ·rename_i xs;cases he;obtain ⟨v,rfl,o1⟩:=o.one;obtain ⟨a,us,rfl,sq,ol⟩:=Ir o1;refine ⟨Ih K a,λ R r=>⟨a,us,rfl,sq,r⟩,λ H' Z' o' i=>?_⟩;obtain ⟨v',e,o1'⟩:=o'.one;cases e;obtain ⟨a',us',e,sq',ol'⟩:=Ir o1';cases e;have hl':=ol'.length;rw [PH];refine ⟨λ h=>⟨us',us'[i]'(by omega),sq',by simp⟩,λ h=>⟨us',sq',by omega⟩,λ h x H2 y=>?_⟩;obtain ⟨T,u,hT,rfl,rfl,e2⟩:=y;have kx:∀ a o,H' a=some o->Ap H' T (.tup [.int (i:Int),u]) a=some o:=λ a o h=>by rw [AE (λ z=>by rw [z,hT] at h;cases h)];exact h
  refine ⟨kx,?_⟩;obtain ⟨z,ez,oz⟩:=ol'.get (e2 us' sq');refine ⟨.tup [.int (i:Int),z],?_,Qr Bp (by rw [Own];exact ⟨rfl,rfl⟩) (oz.growH kx)⟩;rw [PF,ez];simp
 ·rename_i xs ys;cases he;obtain ⟨v1,v2,rfl,o1,o2⟩:=o.two;obtain ⟨a,us,rfl,sq,ol⟩:=Ir o1;obtain ⟨b,vs,rfl,sq2,ol2⟩:=Ir o2;refine ⟨Ie K a b,λ R r=>⟨a,b,us,vs,rfl,.inl ⟨sq,sq2,r⟩⟩,λ H' Z' o' i=>?_⟩;obtain ⟨v1',v2',e,o1',o2'⟩:=o'.two;cases e;obtain ⟨a',us',e,sq',ol'⟩:=Ir o1';cases e;obtain ⟨b',vs',e,sq2',ol2'⟩:=Ir o2';cases e;have hl1:=ol'.length;have hl2:=ol2'.length;rw [Q0];refine ⟨λ h=>⟨us',vs',us'[i]'(by omega),vs'[i]'(by omega),sq',sq2',by simp,by simp⟩,λ h=>⟨us',vs',sq',sq2',by omega⟩,λ h x H2 y=>?_⟩;obtain ⟨T,u,w,hT,rfl,rfl,e2⟩:=y;have kx:∀ a o,H' a=some o->Ap H' T (.tup [u,w]) a=some o:=λ a o h=>by rw [AE (λ z=>by rw [z,hT] at h;cases h)];exact h
  obtain ⟨e3,e4⟩:=e2 us' vs' sq' sq2';obtain ⟨z1,ez1,oz1⟩:=ol'.get e3;obtain ⟨z2,ez2,oz2⟩:=ol2'.get e4;exact ⟨kx,.tup [z1,z2],Qz _ _ _ _ _ ez1 ez2,Qr Bp (oz1.growH kx) (oz2.growH kx)⟩
 ·rename_i xs ys;cases he;obtain ⟨v1,v2,rfl,o1,o2⟩:=o.two;obtain ⟨a,us,rfl,sq,ol⟩:=Nn o1;obtain ⟨b,vs,rfl,sq2,ol2⟩:=Nn o2;refine ⟨Ic a b,λ R r=>⟨a,b,us,vs,rfl,.inr ⟨sq,sq2,r⟩⟩,λ H' Z' o' i=>?_⟩;obtain ⟨v1',v2',e,o1',o2'⟩:=o'.two;cases e;obtain ⟨a',us',e,sq',ol'⟩:=Nn o1';cases e;obtain ⟨b',vs',e,sq2',ol2'⟩:=Nn o2';cases e;have hl1:=ol'.length;have hl2:=ol2'.length;rw [Q0];refine ⟨λ h=>⟨us',vs',us'[i]'(by omega),vs'[i]'(by omega),sq',sq2',by simp,by simp⟩,λ h=>⟨us',vs',sq',sq2',by omega⟩,λ h x H2 y=>?_⟩;obtain ⟨T,u,w,hT,rfl,rfl,e2⟩:=y;have kx:∀ a o,H' a=some o->Ap H' T (.tup [u,w]) a=some o:=λ a o h=>by rw [AE (λ z=>by rw [z,hT] at h;cases h)];exact h
  obtain ⟨e3,e4⟩:=e2 us' vs' sq' sq2';obtain ⟨z1,ez1,oz1⟩:=ol'.get e3;obtain ⟨z2,ez2,oz2⟩:=ol2'.get e4;exact ⟨kx,.tup [z1,z2],Qz _ _ _ _ _ ez1 ez2,Qr Bp (oz1.growH kx) (oz2.growH kx)⟩
 ·cases he
section
variable {is:List Nat}{M:Fm}{ρ ρ':Ae}{σ σ':St}{H H' H'':Hp}{fps fps' fps'':AU}{vs vs':List Nat}
def GI (v:Vw) (fa:Fa) (vs:List Nat) (asg:PV->Ae->Option Ae) (body:Fs):Fs:=λ ρ=>match fa ρ with
 | .ok (xs,ρ1)=>(match FE v (xs.map (·.1)) with
  | some els=>BO asg body els (Bj (if D6 xs=true then om else 0) vs ρ1)
  | none=>.no)
 | .exc c=>.exc c
 | .no=>.no
def Dm (v:Vw) (fa:Fa) (k:Nat) (asg:PV->Ae->Option Ae) (test:Fb) (elt:Fx):Fx:=λ ρ=>match fa ρ with
 | .ok (xs,ρ1)=>(match FE v (xs.map (·.1)) with
  | some els=>(Cj k asg test elt els ρ1 []).bindN λ (acc,ρ2)=>CP acc ρ2
  | none=>.no)
 | .exc c=>.exc c
 | .no=>.no
theorem Rep.seens {xs:List (PV×Nat)}{ws:List V}{fp:List Addr} (rep:Rep M ρ σ H fps) (k:KD M H fps H' fps') (g:Agr M ρ ρ') (r':Rep M ρ' σ H' fps') (o:Tmps M.K H' (Zv M vs fps') xs ws fp) (t:Temp M vs H H' fps' fp)
  (hal:∀ i,M.al i=[]) (hv:∀ i∈vs,M.Ms i=false):∃ fps2,KS M H fps H' fps2/\Rep M (Bj (if D6 xs=true then om else 0) vs ρ') σ H' fps2/\OwnL M.K H' (Zf M fps2) (xs.map (·.1)) 0 ws []:=by
 unfold Bj;cases ho:D6 xs with
 | true=>
  rw [if_pos rfl,if_pos rfl];refine ⟨fps',k.ks,r',?_⟩;exact OwnL.freeze (λ _ z=>z) _ om ws fp (λ a ha=>t.ndj a ha) (OwnL.full _ ws fp (o.all (Lj ho)))
 | false=>
  rw [if_neg Cy,if_neg (by decide)];exact ⟨DW vs fps',k.ks.cool,r'.cool hal hv,(o.cold λ a ha z=>t.ndj a ha z.zf).weak λ a h=>Ip h⟩
theorem Xr {v:Vw}{g:TG}{asg:PV->Ae->Option Ae}{body:Fs}{fa:Fa}{D:Ends} (hal:∀ i,M.al i=[]) (hv:∀ i∈vs,M.Ms i=false) (hg:Dd M [] is g asg) (hq:tS M (GI v fa vs asg body) D σ H):Dx (TC v M.K (tL M fa vs)) g (tS M body) D σ H:=by
 obtain ⟨ρ,fps,rep,q⟩:=hq;refine ⟨ρ,fps,rep,?_⟩;unfold GI at q;cases ef:fa ρ with
 | no=>rw [ef] at q;exact q
 | exc c=>rw [ef] at q;exact λ H' fps' k=>q _ H' fps' k.ks
 | ok p=>
  obtain ⟨xs,ρ1⟩:=p;rw [ef] at q;intro ws H1 fps1 f1 k1 g1 rep1 o1 t1;dsimp only at q;cases ee:FE v (xs.map (·.1)) with
  | none=>rw [ee] at q;exact q.elim
  | some els=>
   rw [ee] at q;obtain ⟨fps2,k2,r2,o2⟩:=Rep.seens rep k1 g1 rep1 o1 t1 hal hv;obtain ⟨J,hpre,hJ⟩:=VE ee o2;refine hpre _ ?_;exact GD (Pq:=λ H fps=>OwnL M.K H (Zf M fps) (xs.map λ (p:PV×Nat)=>p.1) 0 ws []) (els:=els) hg (λ r k o=>o.mono0 λ x v h=>k.stay0 r h) (λ {H fps i} o h=>(hJ H _ o i).1 h) (λ {H fps i} o h=>(hJ H _ o i).2.1 h) (λ {ρ σ H fps i x H'} _ o h y=>(hJ H _ o i).2.2 h x H' y) r2 o2 (RsOk.from k2 q)
theorem vT {v:Vw}{g:TG}{is vI vE vo:List Nat}{asg:PV->Ae->Option Ae}{test:Fb}{elt:Fx}{fa:Fa}{k n:Nat}{Q:VK}{P:Fm->Prop}
  (hn:σ.length=n) (hP:∀ D,P (M.comp D n vI)) (hal:∀ i,∀ j∈M.al i,M.Ms j=false) (hvI:∀ i∈vI,M.Ms i=false) (hvE:∀ i∈vE,M.Ms i=false) (his:∀ i∈is,n<=i) (hg:∀ D,Dd (M.comp D n vI) vI is g asg)
  (hvo:∀ i,i∈vE->i < n->i∈vo) (hvo2:∀ i∈vo,M.Ms i=false) (hq:tE M (Dm v fa k asg test elt) vo σ H Q):
  J6 k (TC v M.K (tL M fa vI)) g (λ σ H Q=>∃ M',P M'/\tT M' test σ H Q) (λ σ H Q=>∃ M',P M'/\tE M' elt vE σ H Q) σ H Q:=by
 obtain ⟨ρ,fps,rep,q⟩:=hq;refine ⟨ρ,fps,rep,?_⟩;unfold Dm at q;cases ef:fa ρ with
 | no=>rw [ef] at q;exact q
 | exc c=>rw [ef] at q;exact q
 | ok p=>
  obtain ⟨xs,ρ1⟩:=p;rw [ef] at q;intro ws H1 fps1 f1 k1 g1 rep1 o1 t1;dsimp only at q;cases ee:FE v (xs.map (·.1)) with
  | none=>rw [ee] at q;exact q.elim
  | some els=>
   rw [ee] at q;have hl:n=ρ1.length:=by rw [rep1.len];exact hn.symm
   have o0:OwnL M.K H1 (Zv M vI fps1) (xs.map (·.1)) 0 ws []:=o1.cold λ a ha z=>t1.ndj a ha z.zf;obtain ⟨J,hpre,hJ⟩:=VE ee o0;refine hpre _ ?_;have stay:∀ {D H' fps'},H1 D=none->KD M H1 fps1 H' fps'->OwnL M.K H' (Zv (M.plus [D]) vI fps') (xs.map (·.1)) 0 ws []:=λ hD k'=>o0.mono0 λ x v h=>KD.seen rep1 k' hD hvI h;refine Lm (els:=els) hP hl hal hvI hvE his hg hvo hvo2 rep1 (λ {D H' fps' i} hD k' h=>(hJ H' _ (stay hD k') i).1 h) (λ {D H' fps' i} hD k' h=>(hJ H' _ (stay hD k') i).2.1 h) (λ {D H' fps' i x H''} hD k' h y=>(hJ H' _ (stay hD k') i).2.2 h x H'' y) ?_;dsimp only at q;cases ec:Cj k asg test elt els ρ1 [] with
   | no=>rw [ec] at q;exact q.elim
   | exc c=>rw [ec] at q;exact q.elim
   | ok p=>
    obtain ⟨acc,ρ2⟩:=p;rw [ec] at q;exact λ D ws H' fps' fpl k g r hD hD' tm hf=>Qo rep1 k1 g1 q k g r hD hD' tm hf
end
section
variable {X:Cx}{M:Fm}{f g:Fx}{fa:Fa}{vs vs':List Nat}{a b e:Expr}{es:List Expr}{pos p p2:Pos}{σ:St}{H:Hp}{Q:VK}
theorem Yb:∀ {xs:List V}{us:List Ad},Vals xs us->Vals xs.reverse us.reverse
 | _,_,.nil=>.nil
 | _,_,.cons r rr=>by rw [Ph,Ph];exact (Yb rr).append (.cons r .nil)
theorem OwnL.snoc0 {K:Frag}{H:Hp}{Z:Addr->Prop}{x:PV}{v:V}:∀ {xs:List PV}{ws:List V},OwnL K H Z xs 0 ws []->Own K H Z x 0 v []->OwnL K H Z (xs++[x]) 0 (ws++[v]) []
 | [],ws,h,o=>by
  rw [OwnL] at h;obtain ⟨rfl,_⟩:=h;rw [EU,EU,OwnL];exact ⟨v,[],[],[],rfl,rfl,(λ _ z=>nomatch z),o,by rw [OwnL];exact ⟨rfl,rfl⟩⟩
 | y::xs,ws,h,o=>by
  rw [OwnL] at h;obtain ⟨u,r,f1,f2,rfl,ef,_,o1,o2⟩:=h;obtain ⟨rfl,rfl⟩:f1=[]/\f2=[]:=by simpa using ef.symm
  rw [Fw,Fw,OwnL];exact ⟨u,r++[v],[],[],rfl,rfl,(λ _ z=>nomatch z),o1,OwnL.snoc0 o2 o⟩
theorem OwnL.append0 {K:Frag}{H:Hp}{Z:Addr->Prop}{ys:List PV}{us:List V} (h2:OwnL K H Z ys 0 us []):∀ {xs:List PV}{ws:List V},OwnL K H Z xs 0 ws []->OwnL K H Z (xs++ys) 0 (ws++us) []
 | [],ws,h=>by
  rw [OwnL] at h;obtain ⟨rfl,_⟩:=h;exact h2
 | y::xs,ws,h=>by
  rw [OwnL] at h;obtain ⟨u,r,f1,f2,rfl,ef,_,o1,o2⟩:=h;obtain ⟨rfl,rfl⟩:f1=[]/\f2=[]:=by simpa using ef.symm
  rw [Fw,Fw,OwnL];exact ⟨u,r++us,[],[],rfl,rfl,(λ _ z=>nomatch z),o1,OwnL.append0 h2 o2⟩
theorem OwnL.rev {K:Frag}{H:Hp}{Z:Addr->Prop}:∀ {xs:List PV}{ws:List V},OwnL K H Z xs 0 ws []->OwnL K H Z xs.reverse 0 ws.reverse []
 | [],ws,h=>by
  rw [OwnL] at h;obtain ⟨rfl,_⟩:=h;rw [List.reverse_nil,OwnL];exact ⟨rfl,rfl⟩
 | y::xs,ws,h=>by
  rw [OwnL] at h;obtain ⟨u,r,f1,f2,rfl,ef,_,o1,o2⟩:=h;obtain ⟨rfl,rfl⟩:f1=[]/\f2=[]:=by simpa using ef.symm
  rw [Ph,Ph];exact OwnL.snoc0 (OwnL.rev o2) o1
end
section
variable {M:Fm}{fa:Fa}{vs:List Nat}
def ZR (K:Frag) (F:Fn):Sp:=λ ws H Q _=>∃ x0 v0 fp0,ws=[v0]/\Own K H (λ _=>True) x0 om v0 fp0/\(match F [x0] with
 | .ok (y,_,_)=>OD y=true/\∀ v H',D5 (λ a=>a∈fp0) H H'->(∀ a,H a≠none->H' a≠none)->Own K H' (λ _=>True) y om v []->Q v H'
 | _=>False)
end
section
variable {X:Cx}{M:Fm}{f g:Fx}{vs vs':List Nat}{σ:St}{H:Hp}{Q:VK}
end
def yc:typeLookup (.type "list_reverseiterator") "__len__" = pure none:=by rw [typeLookup_type,builtinLookup_eq_fast];kernel_rfl
def ve:typeLookup (.type "list_reverseiterator") "__length_hint__" = pure (some (.builtin "list_reverseiterator.__length_hint__")):=by rw [typeLookup_type,builtinLookup_eq_fast];kernel_rfl
section
variable {pg:AA}{wd:A4}{Ar:BD}{Er:Ad->Ai->Prop}{st:Ai}
def jc {Rz':Result->Ai->Prop}{l it:Addr}{xs:Array Ad} (hd0:Ar.handled=none) (lne:l≠it) (hri:st.heap.IsRevIter it l ((xs.size:Int) - 1)) (hl:st.heap.IsList l xs) (hz:xs.size<=Aw) (N:Addr) (nI:N≠it) (nl:N≠l) (rv:Ad) (c0:Nat) (hN:st.heap.get? N=some { cls:=.type "list",data:=.seq #[] c0 })
  (good:∀ hp tk out c2,(∀ b o,b≠N->b≠it->st.heap.get? b=some o->hp.get? b=some o)->hp.get? N=some { cls:=.type "list",dict:=none,data:=.seq out c2,slots:=#[] }->ItemsOf (λ i v=>xs[xs.size - 1 - i]?=some v) out xs.size->Rz' (.ok (.ret rv)) { st with heap:=hp,toks:=tk }):
  Ak (Av pg wd) Ar.in1 (NP (.ref N) (.ref it) rv) (λ z t=>match z with | .done f=>Rz' (.ok f) t | .again k=>k.quiet=true/\I0 (Av pg wd) Ar k Rz' t) (λ e t=>Rz' (.error e) t) st:=by
 have walk:=(Walks.listRev (prog:=pg) (w:=wd) (A:=Ar.in1) hd0 it l lne xs).toS;have tI:st.TypeIs (.ref it) "list_reverseiterator" := hri.typeIs;have other:Builtin.List.listSameRef (.ref N) (.ref it)=false:=by simp [Builtin.List.listSameRef,nI]
 delta NP;refine Ag (wpAny_typeOf tI ?_);rw [if_neg (by rw [other];decide)];refine Ag (QY hri (Ag (Js ?_)));delta Builtin.List.listLengthHint;refine Ag (NA tI yc ?_);show Ak _ Ar.in1 (specialOf (Value.ref it) (GL "__length_hint__") >>= _) _ _ _;refine Ag (NA tI ve ?_);generalize en:("list_reverseiterator.__length_hint__" : String)=nm
 wp_delta
 rw [show splitId nm=some ("list_reverseiterator","__length_hint__") from by subst en;decide +kernel];subst en;refine Ag (L7 (b:=true) tI (by rw [isSubtype_type];kernel_rfl) (Ao ?_));rw [if_neg (by decide)];refine Ao ⟨plainId_quiet F.plain_extend_loop _,codeAny_extend_loopS walk hz _ (by simp [nI,nl]) _ xs.size 0 _ _ _ rfl (Ft _) ⟨Ft _,by simpa using hri,hl⟩ hN (ItemsOf.nil _) λ t out c2 mv hN' all=>?_⟩;rw [Moved.eq_with mv];exact good t.heap t.toks out c2 (λ b o hb hb2 e=>mv.heap b o (by simp [hb,hb2]) e) hN' all
def vm {Qv:Ad->Ai->Prop}{l it:Addr}{xs:Array Ad} (hd0:Ar.handled=none) (lne:l≠it) (hri:st.heap.IsRevIter it l ((xs.size:Int) - 1)) (hl:st.heap.IsList l xs) (hz:xs.size<=Aw)
  (good:∀ hp tk out c2,(∀ b o,b≠it->st.heap.get? b=some o->hp.get? b=some o)->hp.get? st.heap.objs.size=some { cls:=.type "list",dict:=none,data:=.seq out c2,slots:=#[] }->ItemsOf (λ i v=>xs[xs.size - 1 - i]?=some v) out xs.size->Qv (.ref st.heap.objs.size) { st with heap:=hp,toks:=tk }):Ak (Av pg wd) Ar (call (.type "list") [.ref it]) Qv Er st:=by
 let one:Obj:={ cls:=.type "list",data:=.seq #[] }
 refine callType_codes (Q₁:=λ v t=>v=.ref st.heap.objs.size/\t={ st with heap:=st.heap.push one }) F.called_list (F.typeCall_list_1 _) F.entry_list_init (code_list_new _ ⟨rfl,rfl⟩) λ v t made=>?_;obtain ⟨rfl,rfl⟩:=made;have hN:(st.heap.push one).get? st.heap.objs.size=some one:=BL _ rfl;refine ⟨⟨_,hN,rfl⟩,F.args_list_init_2 _ _,?_⟩;have nI:st.heap.objs.size≠it:=λ e=>by obtain ⟨o,ho,_⟩:=hri;exact DK _ (e ▸ AO ho)
 have nl:st.heap.objs.size≠l:=λ e=>by obtain ⟨o,ho,_⟩:=hl;exact DK _ (e ▸ AO ho)
 show Ak _ Ar.in1.in1 (do let old<-Builtin.List.listItems (.ref st.heap.objs.size);Builtin.List.listUpdate (.ref st.heap.objs.size) (λ _=>#[]);letGo old.toList.reverse;NP (.ref st.heap.objs.size) (.ref it) .none) _ _ _;refine Ag ?_;delta Builtin.List.listItems;refine Ag (HB hN rfl (Ao ?_));show Ak _ _ (updateSeq st.heap.objs.size (λ _=>#[]) >>= λ _=>letGo (#[]:Array Ad).toList.reverse >>= λ _=>NP (.ref st.heap.objs.size) (.ref it) .none) _ _ _;refine Ag (wpAny_updateSeq hN rfl (Ag (N4 ?_)));have hN2:=Ky (Jn (λ _=>(#[]:Array Ad))) hN rfl;have rest:∀ b o,b≠st.heap.objs.size->st.heap.get? b=some o->((st.heap.push one).update st.heap.objs.size (Jn (λ _=>(#[]:Array Ad)))).get? b=some o:=λ b o hb e=>(NH _ _ (BE hb)).trans (Bb _ e);refine jc (Ar:=Ar.in1) hd0 lne (hri.at λ o e=>rest it o (BE nI) e) (hl.at λ o e=>rest l o (BE nl) e) hz st.heap.objs.size nI nl .none _ hN2 λ hp tk out c2 hk hN' all=>?_;exact ⟨rfl,good hp tk out c2 (λ b o hb e=>by
  have hb':b≠st.heap.objs.size:=λ z=>DK _ (z ▸ AO e);exact hk b o hb' hb (rest b o hb' e)) hN' all⟩
end
def wV {its:List Ad}{acc:Array Ad} (h:ItemsOf (λ i v=>its.toArray[its.toArray.size - 1 - i]?=some v) acc its.toArray.size):acc.toList=its.reverse:=by
 obtain ⟨hs,hi⟩:=h;simp only [Ca] at hs hi;refine Zb λ j=>?_;by_cases hj:j < its.length
 ·have e:acc[j]?=some acc[j]:=Array.getElem?_eq_getElem (by omega)
  have:=hi j _ e
  rw [Po,e,T4 hj,<- this];simp
 ·rw [FA (by simp;omega),FA (by simp;omega)]
section
variable {X:Cx}{M:Fm}{f:Fx}{vs:List Nat}{a:Expr}{pos p p2 pos2:Pos}
def Rw (K:Frag):V->Hp->VK->Prop:=λ x H1 Q=>∃ l xs,x=.ref l/\Bi K H1 l xs/\∀ p,H1 p=none->Q (.ref p) (Ap H1 p (.lst xs.reverse))
def j7 {te:TE} (hc:X.calm=true) (hgL:Gl X "list") (hmL:X.mg "list" = none) (hgR:Gl X "reversed") (hmR:X.mg "reversed" = none) (ha:PE X a te) (hs:AK [a] X.env=[(false,eval a X.env)]):
  PE X (.Call (.Name "list" p) [.Call (.Name "reversed" p2) [a] [] pos2] [] pos) (Rn (Rw X.K) te):=by
 intro pins s σ H Q I h;refine NF (FK I hgL hmL boot_list ?_ (by decide) (by decide));refine HF ?_ rfl rfl;show Ak _ _ (spliced ((false,eval (.Call (.Name "reversed" p2) [a] [] pos2) X.env)::[])) _ _ s;refine QU ?_;refine Call_ (FK I hgR hmR boot_reversed (HF ?_ hs rfl));rw [hs];show Ak _ _ (spliced ((false,eval a X.env)::[])) _ _ s;refine QU (Az (ha pins s σ H _ I h) λ u s1 ⟨x,H1,I1,r1,q1⟩=>QD ?_);obtain ⟨l,xs,rfl,hq,q⟩:=q1;cases r1;obtain ⟨its,rv,pl,hz⟩:=I1.list hq;have hlen:=rv.length;refine call_reversed_list pl.isList ?_;refine QD ?_;have hT:(s1.heap.push (revObj l ((its.toArray.size:Int) - 1))).IsRevIter s1.heap.objs.size l ((its.toArray.size:Int) - 1):=⟨_,BL _ rfl,rfl,rfl⟩
 have hlt:s1.heap.objs.size < (s1.heap.push (revObj l ((its.toArray.size:Int) - 1))).objs.size:=AO (BL _ rfl);have hne:l≠s1.heap.objs.size:=λ e=>by obtain ⟨o,ho,_⟩:=pl.isList;exact DK _ (e ▸ AO ho)
 refine vm (st:={ s1 with heap:=s1.heap.push (revObj l ((its.toArray.size:Int) - 1)) }) (I1.ok.hd hc) hne hT (pl.isList.at λ o e=>Bb _ e) (by rw [Ca];omega) λ h' tk acc' c' hk hS' hacc=>?_;have ea:=wV hacc;refine ⟨.ref _,_,I1.laid (h':=h') (t':=tk) (o:=.lst xs.reverse) (λ b o e=>hk b o (λ z=>DK _ (z ▸ AO e)) (Bb _ e)) (Mn hlt) ?_,rfl,q _ (I1.hok.fresh (Mn hlt))⟩;refine ⟨by rw [GU];exact hz,its.reverse,c',Yb rv,?_⟩;rw [<- ea];exact hS'
def RK:PV->Nat->Option (PV×Nat)
 | .lst xs,_=>some (.lst xs.reverse,d1 xs.reverse)
 | _,_=>none
theorem jT (hK:M.K=X.K) (hc:X.calm=true) (hgL:Gl X "list") (hmL:X.mg "list" = none) (hgR:Gl X "reversed") (hmR:X.mg "reversed" = none) (hs:AK [a] X.env=[(false,eval a X.env)]) (ha:PE X a (tE M f vs)):
  PE X (.Call (.Name "list" p) [.Call (.Name "reversed" p2) [a] [] pos2] [] pos) (tE M (AN RK f) vs):=by
 refine BQ (j7 hc hgL hmL hgR hmR ha hs) λ σ H Q h=>O8 (λ x d z c v H fps f1 Q ho o1 nz zd lf=>?_) h;cases x with
 | lst xs=>
  cases ho;obtain ⟨q,us,rfl,hs,ol⟩:=(cold o1 λ a ha=>nz a ha).coldL;exact ⟨q,us,rfl,.inl (.inl hs),λ l hl=>JN lf (OwnL.rev ol) hl⟩
 | _=>cases ho
end
section
variable {prog:AA}{w:A4}{A:BD}{E:Ad->Ai->Prop}{s:Ai}{a₀:Array Keyed}
end
section
variable {prog:AA}{w:A4}{A:BD}{E:Ad->Ai->Prop}{s:Ai}
end
section
variable {X:Cx}{M:Fm}{fa:Fa}{vs:List Nat}{e:Expr}{es:List Expr}{pos p:Pos}
def qa (ns:List Int):Prop:=ns.length < 64\/(ns.Pairwise (·<=·)/\ns.length<=Aw)
instance (ns:List Int):Decidable (qa ns):=inferInstanceAs (Decidable (_\/_))
def DJ:Int->List Int->Int
 | n,[]=>n
 | n,m::r=>DJ (if m > n then m else n) r
theorem Yk:∀ (r:List Int) (n:Int),DJ n r∈n::r
 | [],n=>AH
 | m::r,n=>by
  have q:=Yk r (if m > n then m else n);show DJ (if m > n then m else n) r∈_;rcases jb5.mp q with z | z
  ·rw [z];split <;> simp
  ·simp [z]
theorem WJ:∀ (r:List Int) (n:Int),∀ a∈n::r,a<=DJ n r
 | [],n,a,h=>by
  have e:a=n:=by simpa using h
  rw [e];exact D1 _
 | m::r,n,a,h=>by
  show a<=DJ (if m > n then m else n) r;have q:=WJ r (if m > n then m else n);have q1:=q _ AH;have q2:n<=(if m > n then m else n)/\m<=(if m > n then m else n):=by split <;> omega
  simp only [jb5] at h;rcases h with z | z | z
  ·omega
  ·omega
  ·exact q a (AI _ z)
def wK (hc:X.calm=true):zkg X (.builtin "max") (λ xs H Q=>∃ (q:Addr) (n:Int) (r:List Int),xs=[.ref q]/\Bi X.K H q ((n::r).map V.int)/\Q (.int (DJ n r)) H):=by
 intro pins s σ H xs us Q I rv h;obtain ⟨q,n,r,rfl,hq,k0⟩:=h;obtain ⟨u,rfl,rx⟩:=GJ rv;cases rx;obtain ⟨its,rv2,pl,hz⟩:=I.list hq;obtain ⟨zs,rfl,ez⟩:=JM rv2;have e:(zs.map λ p=>Value.int p.1 p.2).toArray=DQ zs.toArray:=by simp [DQ]
 rw [e] at pl;have hsz:zs.toArray.size=zs.length:=by simp
 have h0:0 < zs.length:=by
  cases zs with
  | nil=>cases ez
  | cons _ _=>simp
 refine max_intList (I.ok.hd hc) pl.isList (by simpa using h0) λ v h' tk hv k=>?_;obtain ⟨l1,l2⟩:=argBest_gt (CA zs.toArray) (zs.toArray.size - 1);obtain ⟨t,rfl⟩:=N1 hv;generalize argBest (λ i j=>decide (CA zs.toArray i > CA zs.toArray j)) (zs.toArray.size - 1)=b at *;have num:∀ j,(hj:j < zs.length)->CA zs.toArray j=zs[j].1:=λ j hj=>by unfold CA;simp [hj]
 have hm:CA zs.toArray b∈n::r:=by
  rw [num b (by omega),<- ez];exact jd1.mpr ⟨_,IK _,rfl⟩
 have hg:∀ a∈n::r,a<=CA zs.toArray b:=λ a ha=>by
  rw [<- ez] at ha;obtain ⟨z,hz',rfl⟩:=jd1.mp ha;obtain ⟨j,hj,rfl⟩:=JD hz';rw [<- num j hj];exact l2 j (by omega)
 have eb:CA zs.toArray b=DJ n r:=Int.le_antisymm (WJ r n _ hm) (hg _ (Yk r n));exact ⟨.int _,H,I.kept (t':=tk) k,⟨t,rfl⟩,by rw [eb];exact k0⟩
def LX:List (PV×Nat)->Option (PV×Nat)
 | [(.lst xs,_)]=>match Fi xs with
  | some (n::r)=>some (.int (DJ n r),om)
  | _=>none
 | xs=>OQ (λ i j=>if j > i then j else i) xs
def jW (hc:X.calm=true) (hg:Gl X "max") (hm:X.mg "max" = none) (ha:PA X (e::es) (tL M fa vs)) (he:AK (e::es) X.env=(false,eval e X.env)::AK es X.env) (hpl:(Dh pos (AK es X.env)).any (·.1)=false):
  PE X (.Call (.Name "max" p) (e::es) [] pos) (tE M (An LX fa) vs):=by
 refine BQ (JX ((wJ hc).or (wK hc)) hg hm rfl ha (he:=he) (hpl:=hpl)) λ σ H Q h=>Jd (λ xs z c ws H fps fp Q ho tm nz zd lf=>?_) h;unfold LX at ho;split at ho
 ·rename_i xs d;split at ho
  ·rename_i n r eb;cases ho;obtain ⟨v,r',f1,f2,rfl,rfl,_,o1,h2⟩:=tm;obtain ⟨rfl,rfl⟩:=h2;obtain ⟨q,us,rfl,hs,ol⟩:=(cold (fp:=f1) o1 λ a ha=>nz a (BU _ ha)).coldL
   have:=JL eb ol
   subst this;exact .inr ⟨q,n,r,rfl,.inl (.inl hs),DY lf⟩
  ·cases ho
 ·exact .inl (X7 ho tm lf)
end
open PySem PySem.Spec PyProof.Rows L2 PySem.Builtin PySem.Builtin.ObjectAttr PySem.Builtin.Getset_descriptor
section
variable {prog:AA}{w:A4}{A:BD}{E:Ad->Ai->Prop}{K:Frag}{h:Heap}{g:Array GenState}{d:Drawn}{t:Nat}{os:OsState}{a C:Addr}{oe:Obj}
end
section
variable {K:Frag}{a C:Addr}{c d:Nat}{u:Ad}
end
section
variable {X:Cx}
end
section
variable {X:Cx}{M:Fm}{f g:Fx}{vs vs':List Nat}{e:Expr}{es:List Expr}{pos p:Pos}{σ:St}{H:Hp}{Q:VK}
end
section
variable {X:Cx}{M:Fm}{a b:Expr}{f g:Fx}{fa:Fa}{vs vs':List Nat}{pos p:Pos}{σ:St}{H:Hp}{Q:VK}{e:Expr}{es:List Expr}
def CD (neg:Bool) (x:PV) (_:Nat) (y:PV) (_:Nat):Option (PV×Nat):=match x,y with
 | .tup ks,.dct kvs=>(Cp ks).map λ k=>(.bl (neg^^(Cm kvs k).isSome),om)
 | .tup key,.dcl ks xs=>(Cp key).map λ k=>(.bl (neg^^(ES ks xs k).isSome),om)
 | x,.lst ys=>(match CT 20 x,Cz (CT 20) ys with
  | some a,some bs=>some (.bl (neg^^bs.any λ b=>FT b a),om)
  | _,_=>none)
 | x,.tup ys=>(match CT 20 x,Cz (CT 20) ys with
  | some a,some bs=>some (.bl (neg^^bs.any λ b=>FT b a),om)
  | _,_=>none)
 | _,_=>none
def J2 (neg:Bool):R2:=λ v w H Q=>∃ a o,w=.ref a/\Ff H a v o/\Q (.bl (neg^^o.isSome)) H
def qX (hu:X.A.units + 1 < D9):OpR X (CC .In) (J2 false):=by
 intro pins s σ H x y v u Q I rx ry h;obtain ⟨a,o,rfl,g,q⟩:=h;obtain rfl:u=Value.ref a:=ry;exact TJ hu I g rx λ s3 I3=>⟨.bl o.isSome,H,I3,rfl,by simpa using q⟩
def yo (hu:X.A.units + 1 < D9):OpR X (CC .NotIn) (J2 true):=by
 intro pins s σ H x y v u Q I rx ry h;obtain ⟨a,o,rfl,g,q⟩:=h;obtain rfl:u=Value.ref a:=ry;exact zW hu I g rx λ s3 I3=>⟨.bl (!o.isSome),H,I3,rfl,by simpa using q⟩
def Oy (tp:Bool) (ys:List PV):PV:=match tp with
 | true=>.tup ys
 | false=>.lst ys
def ZQ (tp:Bool) (ys:List FQ):FQ:=match tp with
 | true=>.tuple ys
 | false=>.list ys
def J0 (K:Frag) (neg:Bool):R2:=λ v w H Q=>∃ tp x ys d e Z Z' f1 f2 a bs,CT 20 x=some a/\Cz (CT 20) ys=some bs/\Own K H Z x d v f1/\Own K H Z' (Oy tp ys) e w f2/\Q (.bl (neg^^bs.any λ b=>FT b a)) H
theorem Wg {tp:Bool}{ys:List PV}{bs:List FQ} (h:Cz (CT 20) ys=some bs):CT 21 (Oy tp ys)=some (ZQ tp bs):=by
 cases tp with
 | true=>
  show (Cz (CT 20) ys).map PyData.tuple=_;rw [h];rfl
 | false=>
  show (Cz (CT 20) ys).map PyData.list=_;rw [h];rfl
theorem qZ (hu:X.A.units + 64 < D9):OpR X (CC .In) (J0 X.K false):=by
 intro pins s σ H v w u u' Q I rx ry h;obtain ⟨tp,x,ys,d,e,Z,Z',f1,f2,a,bs,h1,h2,o1,o2,q⟩:=h;obtain ⟨as,ra⟩:=GZ I 20 x d v f1 u a h1 o1 rx;obtain ⟨bs',rb⟩:=GZ I 21 (Oy tp ys) e w f2 u' _ (Wg h2) o2 ry;have l1:=GF 20 x a h1;have l2:=KZ (λ x D h=>GF 20 x D h) h2;have hm:X.A.units + 1 + min (Ju bs) a.depth < D9:=by have:=Tr (Ju bs) a.depth;omega
 cases tp with
 | false=>exact SeqAt.in_list_reads rb ra l2.1 l1.1 hm ⟨.bl _,H,I,rfl,by simpa using q⟩
 | true=>exact SeqAt.in_tuple_reads rb ra l2.1 l1.1 hm ⟨.bl _,H,I,rfl,by simpa using q⟩
theorem yp (hu:X.A.units + 64 < D9):OpR X (CC .NotIn) (J0 X.K true):=by
 intro pins s σ H v w u u' Q I rx ry h;obtain ⟨tp,x,ys,d,e,Z,Z',f1,f2,a,bs,h1,h2,o1,o2,q⟩:=h;obtain ⟨as,ra⟩:=GZ I 20 x d v f1 u a h1 o1 rx;obtain ⟨bs',rb⟩:=GZ I 21 (Oy tp ys) e w f2 u' _ (Wg h2) o2 ry;have l1:=GF 20 x a h1;have l2:=KZ (λ x D h=>GF 20 x D h) h2;have hm:X.A.units + 1 + min (Ju bs) a.depth < D9:=by have:=Tr (Ju bs) a.depth;omega
 cases tp with
 | false=>exact SeqAt.notIn_list_reads rb ra l2.1 l1.1 hm ⟨.bl _,H,I,rfl,by simpa using q⟩
 | true=>exact SeqAt.notIn_tuple_reads rb ra l2.1 l1.1 hm ⟨.bl _,H,I,rfl,by simpa using q⟩
def X5 {x y z:PV}{d e c:Nat}{v w:V}{fps:AU}{f1 f2 F:List Addr}{Z Z':Addr->Prop}{neg:Bool} (hK:M.K=X.K) (ho:CD neg x d y e=some (z,c)) (o1:Own M.K H Z x d v f1) (o2:Own M.K H Z' y e w f2) (lf:BB M H fps vs F z c Q):J2 neg v w H Q\/J0 X.K neg v w H Q:=by
 unfold CD at ho;split at ho
 ·rename_i ks kvs;obtain ⟨k,ek,e2⟩:=jb9.mp ho;cases e2;rw [Own] at o1;rw [Own] at o2;obtain ⟨b,ws,rfl,hb,ol⟩:=o1
  have:=JU ek ol
  subst this;have h2:∃ a,w=.ref a/\Rd H a (.dT kvs):=by
   obtain ⟨a,ea,⟨_,hr,_⟩ | ⟨_,ha,_⟩⟩:=o2
   ·exact ⟨a,ea,hr.1⟩
   ·exact ⟨a,ea,.inl ha⟩
  obtain ⟨a,rfl,ha⟩:=h2;exact .inl ⟨a,_,rfl,.inr ⟨_,k,b,ha,rfl,hb,rfl⟩,Hf lf⟩
 ·rename_i key ks xs;obtain ⟨k,ek,e2⟩:=jb9.mp ho;cases e2;rw [Own] at o1;obtain ⟨b,us,rfl,hb,okey⟩:=o1
  have:=JU ek okey
  subst this;obtain ⟨a,ws,rfl,en,hr,_,ol⟩:=(Own.freeze (Z':=λ _=>False) (λ _ z=>z.elim) _ _ _ _ (λ _ _ z=>z) o2).dcl0;have kv:=Sv (k:=k) ol en;have e3:(ES ks xs k).isSome=(Cm (ks.zip ws) k).isSome:=by
   cases ex:ES ks xs k with
   | none=>rw [kv.2 ex];rfl
   | some x=>obtain ⟨w',ew,_⟩:=kv.1 x ex;rw [ew];rfl
  rw [e3] at lf;exact .inl ⟨a,_,rfl,.inr ⟨_,k,b,hr,rfl,hb,rfl⟩,Hf lf⟩
 ·rename_i ys;split at ho
  ·rename_i a bs ea eb;cases ho;rw [hK] at o1;rw [hK] at o2;exact .inr ⟨false,_,ys,d,e,Z,Z',f1,f2,a,bs,ea,eb,o1,o2,Hf lf⟩
  ·cases ho
 ·rename_i ys;split at ho
  ·rename_i a bs ea eb;cases ho;rw [hK] at o1;rw [hK] at o2;exact .inr ⟨true,_,ys,d,e,Z,Z',f1,f2,a,bs,ea,eb,o1,o2,Hf lf⟩
  ·cases ho
 ·cases ho
def Fd:Fx:=λ ρ=>.ok (.dct [],om,ρ)
def xT:PE X (.Dict [] [] pos) (tE M Fd []):=by
 refine BQ vB λ σ H Q h p hp=>?_;obtain ⟨ρ,fps,rep,q⟩:=h;refine q (.ref p) _ fps [p] (KD.grow (Ea hp)) Agr.refl (rep.grow (Ea hp)) ?_ ⟨λ a ha=>by rw [jb6.mp ha];exact hp,λ a ha=>by rw [jb6.mp ha];exact rep.nz hp⟩;rw [Own];exact ⟨p,rfl,.inr ⟨by decide,Bp,rfl⟩⟩
end
structure Sx where
 N:List Str
 sc:Bv
 ms:List Nat
 al:List (List Nat)
 Γ:List (Str×(Bool×Nat×Fn))
 Γm:List (Str×Fn)
 rz:Bool
 xc:List Nat
 pn:List Nat
def Sx.alF (S:Sx) (i:Nat):List Nat:=S.al.getD i []
def Sx.msF (S:Sx) (i:Nat):Bool:=S.ms.contains i
def CJ (sc:Bv) (x:Str) (k:Dw):Bool:=sc.names.lookup x == some k
def Dv (sc:Bv) (x:Str):Bool:=CJ sc x .local || CJ sc x .cell || CJ sc x .free
def JF (N:List Str) (x:Str):Option Nat:=N.findIdx? (·== x)
def Sx.slot (S:Sx) (x:Str):Option Nat:=if Dv S.sc x && !(x == ("__debug__" : Str)) && !(x == ("__classdict__" : Str)) then JF S.N x else none
def Sx.glob (S:Sx) (x:Str):Bool:=CJ S.sc x .globalImplicit
structure XS (X:Cx) (P:AA) (w:A4) (K:Frag) (mg:Str->Option Ad) (base:Heap) (lvl:Nat) (S:Sx) (Wx:St->Nat->Hp->Prop):Prop where
 prog:X.prog=P
 w:X.w=w
 K:X.K=K
 mg:X.mg=mg
 base:X.base=base
 N:X.N=S.N
 sc:X.env.scope=S.sc
 calm:X.calm=true
 room:Room lvl X.A
 po:Lz (Av X.prog X.w) X.A X.env X.xe
 ps:SJ (AV X.prog X.w X.K) X Wx
 rs:S.rz=true->W2 X Wx
structure MS (M:Fm) (K:Frag) (S:Sx) (Wx:St->Nat->Hp->Prop):Prop where
 K:M.K=K
 ms:M.Ms=S.msF
 al:∀ i,i < S.N.length->M.al i=S.alF i
 als:∀ i,∀ j∈M.al i,M.Ms j=false
 W:M.W=Wx
 pn:∀ p∈M.pn,p.1 < S.N.length
def Ii (P:AA) (w:A4) (K:Frag) (mg:Str->Option Ad) (base:Heap) (lvl:Nat) (Γm:List (Str×Fn)):Prop:=
 ∀ x F,Γm.lookup x=some F->(x == ("__debug__" : Str))=false/\∃ fa fd ps,mg x=some (.ref fa)/\Jt K (.ref fa)=true/\qa5 K fd ps []/\FnOk P w K mg base (AV P w K) lvl fa fd ps (ZR K F)
def GX (_:Frag) (_:Str->Option Ad) (xc:List Nat):Prop:=xc=[]
def GS (P:AA) (w:A4) (K:Frag) (mg:Str->Option Ad) (base:Heap) (lvl:Nat) (Γ:List (Str×(Bool×Nat×Fn))):Prop:=
 (∀ x∈zyn,mg x=none)/\∀ x io n F,Γ.lookup x=some (io,n,F)->(x == ("__debug__" : Str))=false/\(∀ xs,xs.length≠n->F xs=.no) /\
  ∃ fa fd ps,mg x=some (.ref fa)/\Jt K (.ref fa)=true/\qa5 K fd ps []/\ps.length=n/\FnOk P w K mg base (AV P w K) lvl fa fd ps (AZ K io n F)
section
variable {X:Cx}{P:AA}{w:A4}{K:Frag}{mg:Str->Option Ad}{base:Heap}{lvl:Nat}{S:Sx}{Wx:St->Nat->Hp->Prop}{M:Fm}
def EC {sc:Bv}{x:Str}{k:Dw} (h:CJ sc x k=true):sc.names.lookup x=some k:=by
 unfold CJ at h;exact eq_of_beq h
def Wi {sc:Bv}{x:Str} (h:Dv sc x=true):IS sc x:=by
 unfold Dv at h;rw [Gf,Gf] at h;rcases h with (h | h) | h
 ·exact .inl (EC h)
 ·exact .inr (.inl (EC h))
 ·exact .inr (.inr (EC h))
def Nk {N:List Str}{x:Str}{i:Nat} (h:JF N x=some i):N[i]?=some x:=by
 unfold JF at h;rw [List.findIdx?_eq_some_iff_getElem] at h;obtain ⟨hi,e,_⟩:=h
 have:N[i]=x:=eq_of_beq e
 rw [BW hi,this]
def XS.var (xs:XS X P w K mg base lvl S Wx) {x:Str}{i:Nat}{pos:Pos} (h:S.slot x=some i):PE X (.Name x pos) (DF i):=by
 unfold Sx.slot at h;split at h
 ·rename_i hc;simp only [Ba,Pg] at hc;exact xY (by rw [xs.N];exact Nk h) (by rw [xs.sc];exact Wi hc.1.1) hc.1.2 hc.2
 ·cases h
def XS.gl (xs:XS X P w K mg base lvl S Wx) {x:Str} (h:S.glob x=true):Gl X x:=by
 show X.env.scope.names.lookup x=_;rw [xs.sc];exact EC h
theorem Dl {e:Expr}{es:List Expr}{env:Env} (h:∀ x p,e≠.Starred x p):AK (e::es) env=(false,eval e env)::AK es env:=by
 cases e with
 | Starred x p=>exact absurd rfl (h x p)
 | _=>rfl
def Fj:Expr->Bool
 | .Starred _ _=>false
 | _=>true
def Dr {e:Expr} (h:Fj e=true):∀ x p,e≠.Starred x p:=λ x p z=>by rw [z] at h;cases h
theorem Nu {env:Env}{pos:Pos}:∀ {es:List Expr},es.all Fj=true->(Dh pos (AK es env)).any (·.1)=false
 | [],_=>rfl
 | e::es,h=>by
  rw [GP,Ba] at h;rw [Dl (Dr h.1)];show (false || (Dh pos (AK es env)).any (·.1))=false;rw [Nu h.2];rfl
def Lf:Expr->Bool
 | .Slice _ _ _ _=>false
 | _=>true
theorem Qg {b:Expr} (h:Lf b=true):MP b:=by
 intro o i;cases b with
 | Slice _ _ _ _=>cases h
 | _=>rfl
def Vh (b:Expr):IB->Option (PV->Nat->PV->Nat->Option (PV×Nat))
 | .Add=>some Bo
 | .Sub=>some Df
 | .Mult=>some BX
 | .FloorDiv=>some GW
 | .Mod=>some CO
 | .Pow=>some Xe
 | _=>none
def qQ {a b:Expr}{op:IB}{o:PV->Nat->PV->Nat->Option (PV×Nat)}{f g:Fx}{vs vs':List Nat}{pos:Pos} (h:Vh b op=some o) (hv:∀ i∈vs,M.Ms i=false) (hK:M.K=X.K) (ha:PE X a (tE M f vs)) (hb:PE X b (tE M g vs')):PE X (.BinOp a op b pos) (tE M (Ab o f g) (vs++vs')):=by
 cases op <;> cases h
 ·exact xQ hv hK ha hb
 ·exact OO j0 (λ _ _ _=>trivial) hv ha hb
 ·exact zJ hv ha hb
 ·exact OO xa (λ _ _=>TM) hv ha hb
 ·exact OO xg (λ _ _=>TK) hv ha hb
 ·exact OO vz (λ _ _=>TN) hv ha hb
def Gj:Expr->Bool
 | .Set _ _ _=>false
 | _=>true
def RB (b:Expr):E3->Option (PV->Nat->PV->Nat->Option (PV×Nat))
 | .Lt=>some (Dg λ i j=>decide (i < j))
 | .LtE=>some (Dg λ i j=>decide (i<=j))
 | .Gt=>some (Dg λ i j=>decide (j < i))
 | .GtE=>some (Dg λ i j=>decide (j<=i))
 | .Eq=>some (Br false)
 | .NotEq=>some (Br true)
 | .In=>if Gj b=true then some (CD false) else none
 | .NotIn=>if Gj b=true then some (CD true) else none
 | _=>none
theorem WR {op:E3}{b:Expr} (h:Gj b=true):Kn op b=false:=by
 cases b with
 | Set _ _ _=>cases h
 | _=>rfl
def kT {op:E3}{o:PV->Nat->PV->Nat->Option (PV×Nat)}{f g:Fx}{vs vs':List Nat}{b:Expr} (h:RB b op=some o) (hu:X.A.units + 64 < D9) (hv:∀ i∈vs,M.Ms i=false) (hK:M.K=X.K):
  ∃ r,OpR X (CC op) r/\Kn op b=false/\∀ σ H Q,tE M (Ab o f g) (vs++vs') σ H Q->Kz r (tE M f vs) (tE M g vs') σ H Q:=by
 cases op
 ·cases h;exact ⟨_,qY hu,Io _ (by decide) (by decide),λ σ H Q h=>EF hv (λ x d y e z c v w H fps f1 f2 Q ho o1 o2 dj nz zd lf=>X6 hK ho o1 o2 lf) h⟩
 ·cases h;exact ⟨_,xf hu,Io _ (by decide) (by decide),λ σ H Q h=>EF hv (λ x d y e z c v w H fps f1 f2 Q ho o1 o2 dj nz zd lf=>X6 hK ho o1 o2 lf) h⟩
 ·cases h;exact ⟨_,Vt,Io _ (by decide) (by decide),λ σ H Q h=>EF hv (λ x d y e z c v w H fps f1 f2 Q ho o1 o2 dj nz zd lf=>Nm ho o1 o2 lf) h⟩
 ·cases h;exact ⟨_,Vs,Io _ (by decide) (by decide),λ σ H Q h=>EF hv (λ x d y e z c v w H fps f1 f2 Q ho o1 o2 dj nz zd lf=>Nm ho o1 o2 lf) h⟩
 ·cases h;exact ⟨_,Vr,Io _ (by decide) (by decide),λ σ H Q h=>EF hv (λ x d y e z c v w H fps f1 f2 Q ho o1 o2 dj nz zd lf=>Nm ho o1 o2 lf) h⟩
 ·cases h;exact ⟨_,Vq,Io _ (by decide) (by decide),λ σ H Q h=>EF hv (λ x d y e z c v w H fps f1 f2 Q ho o1 o2 dj nz zd lf=>Nm ho o1 o2 lf) h⟩
 ·cases h
 ·cases h
 ·replace h:(if Gj b=true then some (CD false) else none)=some o:=h;split at h
  ·rename_i hb;cases h;exact ⟨_,(qX (by omega)).or (qZ hu),WR hb,λ σ H Q h=>EF hv (λ x d y e z c v w H fps f1 f2 Q ho o1 o2 dj nz zd lf=>X5 hK ho o1 o2 lf) h⟩
  ·cases h
 ·replace h:(if Gj b=true then some (CD true) else none)=some o:=h;split at h
  ·rename_i hb;cases h;exact ⟨_,(yo (by omega)).or (yp hu),WR hb,λ σ H Q h=>EF hv (λ x d y e z c v w H fps f1 f2 Q ho o1 o2 dj nz zd lf=>X5 hK ho o1 o2 lf) h⟩
  ·cases h
def Gk:E3->Option (Int->Int->Bool)
 | .Lt=>some λ i j=>decide (i < j)
 | .LtE=>some λ i j=>decide (i<=j)
 | .Gt=>some λ i j=>decide (j < i)
 | .GtE=>some λ i j=>decide (j<=i)
 | .Eq=>some λ i j=>decide (i=j)
 | _=>none
def jz:OpR X (CC .Eq) (Fp λ i j=>.bl (decide (i=j))):=λ pins s σ H x y v u Q I rx ry h=>qp pins s σ H x y v u Q I rx ry (by
 obtain ⟨i,j,rfl,rfl,q⟩:=h;refine ⟨rfl,?_⟩;rw [W8];exact q)
def Yz {op:E3}{p:Int->Int->Bool} (h:Gk op=some p):OpR X (CC op) (Fp λ i j=>.bl (p i j))/\op≠.In/\op≠.NotIn:=by
 cases op <;> cases h
 ·exact ⟨jz,by decide,by decide⟩
 ·exact ⟨Vt,by decide,by decide⟩
 ·exact ⟨Vs,by decide,by decide⟩
 ·exact ⟨Vr,by decide,by decide⟩
 ·exact ⟨Vq,by decide,by decide⟩
def FF (p q:Int->Int->Bool) (f g h:Fx):Fx:=λ ρ=>(f ρ).bind λ (x,_,ρ1)=>(g ρ1).bind λ (y,_,ρ2)=>match x,y with
 | .int i,.int j=>if p i j=true then (h ρ2).bind λ (z,_,ρ3)=>(match z with
  | .int k=>.ok (.bl (q j k),om,ρ3)
  | _=>.no) else .ok (.bl false,om,ρ2)
 | _,_=>.no
theorem XX {p q:Int->Int->Bool}{f g h:Fx}{vs v1 v2 v3:List Nat}{σ:St}{H:Hp}{Q:VK} (hq:tE M (FF p q f g h) vs σ H Q):So (Fp λ i j=>.bl (p i j)) (Fp λ i j=>.bl (q i j)) (tE M f v1) (tE M g v2) (tE M h v3) σ H Q:=by
 obtain ⟨ρ,fps,rep,qq⟩:=hq;refine ⟨ρ,fps,rep,?_⟩;unfold FF at qq;cases ef:f ρ with
 | no=>rw [ef] at qq;exact qq
 | exc c=>rw [ef] at qq;exact qq
 | ok p0=>
  obtain ⟨x,d,ρ1⟩:=p0;rw [ef] at qq;intro v H1 fps1 f1 k1 g1 rep1 o1 t1;refine ⟨ρ1,fps1,rep1,?_⟩;dsimp only [Rz.bind] at qq;cases eg:g ρ1 with
  | no=>rw [eg] at qq;exact qq
  | exc c=>rw [eg] at qq;exact λ H' fps' k=>qq H' fps' (k1.trans k)
  | ok p2=>
   obtain ⟨y,e,ρ2⟩:=p2;rw [eg] at qq;intro w H2 fps2 f2 k2 g2 rep2 o2 t2;cases x with
   | int i=>
    cases y with
    | int j=>
     dsimp only at qq;rw [Own] at o1 o2;obtain ⟨rfl,rfl⟩:=o1;obtain ⟨rfl,rfl⟩:=o2;refine ⟨i,j,rfl,rfl,p i j,rfl,?_⟩;by_cases hp:p i j=true
     ·rw [if_pos hp] at qq ⊢;refine ⟨ρ2,fps2,rep2,?_⟩;cases eh:h ρ2 with
      | no=>rw [eh] at qq;exact qq
      | exc c=>rw [eh] at qq;exact λ H' fps' k=>qq H' fps' ((k1.trans k2).trans k)
      | ok p3=>
       obtain ⟨z,c,ρ3⟩:=p3;rw [eh] at qq;intro u H3 fps3 f3 k3 g3 rep3 o3 t3;cases z with
       | int k=>
        dsimp only at qq;rw [Own] at o3;obtain ⟨rfl,rfl⟩:=o3;exact ⟨j,k,rfl,rfl,qq _ H3 fps3 [] ((k1.trans k2).trans k3) ((g1.trans g2).trans g3) rep3 (by rw [Own];exact ⟨rfl,rfl⟩) ⟨λ _ z=>(nomatch z),λ _ z=>nomatch z⟩⟩
       | _=>exact qq.elim
     ·rw [if_neg hp] at qq ⊢;exact qq _ H2 fps2 [] (k1.trans k2) (g1.trans g2) rep2 (by rw [Own];exact ⟨rfl,rfl⟩) ⟨λ _ z=>(nomatch z),λ _ z=>nomatch z⟩
    | _=>exact qq.elim
   | _=>exact qq.elim
def Eb (f g:Fx):Fx:=λ ρ=>(f ρ).bind λ (x,_,ρ1)=>match x with
 | .bl true=>g ρ1
 | .bl false=>.ok (.bl false,om,ρ1)
 | _=>.no
def Cc (f g:Fx):Fx:=λ ρ=>(f ρ).bind λ (x,_,ρ1)=>match x with
 | .bl true=>.ok (.bl true,om,ρ1)
 | .bl false=>g ρ1
 | _=>.no
def C2:PV->Nat->Option (PV×Nat)
 | .bl b,_=>some (.bl (!b),om)
 | _,_=>none
variable {f g:Fx}{vs vs':List Nat}{σ:St}{H:Hp}{Q:VK}
theorem Ng {f:Fx}{ρ ρ1:Ae}{fps fps1:AU}{H H1:Hp} (k1:KD M H fps H1 fps1) (g1:Agr M ρ ρ1) (rep1:Rep M ρ1 σ H1 fps1) (hs:∀ i∈vs,i∈vs')
  (q:match f ρ1 with
   | .ok (x,d,ρ')=>∀ v H' fps' fp,KD M H fps H' fps'->Agr M ρ ρ'->Rep M ρ' σ H' fps'->Own M.K H' (Zt M vs' fps' fp) x d v fp->Temp M vs' H H' fps' fp->Q v H'
   | .exc c=>∀ H' fps',KD M H fps H' fps'->M.W σ c H'
   | .no=>False):tE M f vs σ H1 Q:=by
 refine ⟨ρ1,fps1,rep1,?_⟩;cases eg:f ρ1 with
 | no=>rw [eg] at q;exact q
 | exc c=>rw [eg] at q;exact λ H' fps' k=>q H' fps' (k1.trans k)
 | ok p2=>
  obtain ⟨x,d,ρ2⟩:=p2;rw [eg] at q;exact λ v H' fps' fp k g r o t=>q v H' fps' fp (k1.trans k) (g1.trans g) r (o.weak λ a h=>Zt.mono hs h) ⟨λ a ha=>(by
   have e:=t.new a ha;cases e':H a with
   | none=>rfl
   | some o=>exact absurd e (k1.dom a (by rw [e'];simp))),t.ndj⟩
theorem ke (hq:tE M (Eb f g) (vs++vs') σ H Q):VF (tE M f vs) (tE M g vs') σ H Q:=by
 obtain ⟨ρ,fps,rep,q⟩:=hq;refine ⟨ρ,fps,rep,?_⟩;unfold Eb at q;cases ef:f ρ with
 | no=>rw [ef] at q;exact q
 | exc c=>rw [ef] at q;exact q
 | ok p=>
  obtain ⟨x,d,ρ1⟩:=p;rw [ef] at q;intro v H1 fps1 f1 k1 g1 rep1 o1 t1;dsimp only [Rz.bind] at q;cases x with
  | bl b=>
   rw [Own] at o1;refine ⟨b,o1.1,?_⟩;cases b with
   | true=>exact Ng k1 g1 rep1 (λ i hi=>BV _ hi) q
   | false=>exact q (.bl false) H1 fps1 [] k1 g1 rep1 (by rw [Own];exact ⟨rfl,rfl⟩) ⟨λ _ z=>(nomatch z),λ _ z=>nomatch z⟩
  | _=>exact q.elim
theorem zj (hq:tE M (Cc f g) (vs++vs') σ H Q):LF (tE M f vs) (tE M g vs') σ H Q:=by
 obtain ⟨ρ,fps,rep,q⟩:=hq;refine ⟨ρ,fps,rep,?_⟩;unfold Cc at q;cases ef:f ρ with
 | no=>rw [ef] at q;exact q
 | exc c=>rw [ef] at q;exact q
 | ok p=>
  obtain ⟨x,d,ρ1⟩:=p;rw [ef] at q;intro v H1 fps1 f1 k1 g1 rep1 o1 t1;dsimp only [Rz.bind] at q;cases x with
  | bl b=>
   rw [Own] at o1;refine ⟨b,o1.1,?_⟩;cases b with
   | false=>exact Ng k1 g1 rep1 (λ i hi=>BV _ hi) q
   | true=>exact q (.bl true) H1 fps1 [] k1 g1 rep1 (by rw [Own];exact ⟨rfl,rfl⟩) ⟨λ _ z=>(nomatch z),λ _ z=>nomatch z⟩
  | _=>exact q.elim
theorem kg (hq:tE M (AN C2 f) vs σ H Q):V7 (tE M f vs) σ H Q:=by
 refine O8 (r:=λ x H1 Q=>∃ c,x=.bl c/\Q (.bl (!c)) H1) (λ x d z c v H fps f1 Q ho o1 nz zd lf=>?_) hq;cases x with
 | bl b=>cases ho;rw [Own] at o1;exact ⟨b,o1.1,Hf lf⟩
 | _=>cases ho
end
def Cd (c:Fb) (f g:Fx):Fx:=λ ρ=>(c ρ).bind λ (b,ρ1)=>if b=true then f ρ1 else g ρ1
section
variable {X:Cx}{M:Fm}{c:Fb}{f g:Fx}{vs vs':List Nat}{σ:St}{H:Hp}{Q:VK}
theorem zN (hq:tE M (Cd c f g) (vs++vs') σ H Q):Vf (tT M c) (tE M f vs) (tE M g vs') σ H Q:=by
 obtain ⟨ρ,fps,rep,q⟩:=hq;refine ⟨ρ,fps,rep,?_⟩;unfold Cd at q;cases ec:c ρ with
 | no=>rw [ec] at q;exact q
 | exc c=>rw [ec] at q;exact q
 | ok p=>
  obtain ⟨b,ρ1⟩:=p;rw [ec] at q;intro H1 fps1 k1 g1 rep1;dsimp only [Rz.bind] at q;cases b with
  | true=>exact Ng k1 g1 rep1 (λ i hi=>BU _ hi) q
  | false=>exact Ng k1 g1 rep1 (λ i hi=>BV _ hi) q
def xU {t a b:Expr}{pos:Pos} (ht:PT X t (tT M c)) (ha:PE X a (tE M f vs)) (hb:PE X b (tE M g vs')):PE X (.IfExp t a b pos) (tE M (Cd c f g) (vs++vs')):=BQ (vC ht ha hb) λ σ H Q q=>zN q
def LG (t u v:TT):TT:=λ σ H Q=>t σ H λ c H1=>if c=true then u σ H1 Q else v σ H1 Q
theorem xA {t a b:Expr}{pos:Pos}{tA tB tC:TT} (ht:PT X t tA) (ha:PT X a tB) (hb:PT X b tC):PT X (.IfExp t a b pos) (LG tA tB tC):=by
 intro pins s σ H Q I h;rw [arm_isTrue_IfExp];refine Ag (Az (ht pins s σ H _ I h) λ d s1 ⟨H1,I1,q1⟩=>?_);cases d with
 | true=>exact ha pins s1 σ H1 Q I1 q1
 | false=>exact hb pins s1 σ H1 Q I1 q1
theorem qx:bT (Cd c f g)=λ ρ=>(c ρ).bind λ (b,ρ1)=>if b=true then bT f ρ1 else bT g ρ1:=by
 funext ρ;unfold bT Cd;dsimp only;cases c ρ with
 | no=>rfl
 | exc c=>rfl
 | ok p=>
  obtain ⟨b,ρ1⟩:=p;cases b <;> rfl
theorem z9 {Q:Bool->Hp->Prop} (hq:tT M (bT (Cd c f g)) σ H Q):LG (tT M c) (tT M (bT f)) (tT M (bT g)) σ H Q:=by
 rw [qx] at hq;obtain ⟨ρ,fps,rep,q⟩:=hq;refine ⟨ρ,fps,rep,?_⟩;dsimp only at q;cases ef:c ρ with
 | no=>rw [ef] at q;exact q
 | exc c=>rw [ef] at q;exact q
 | ok p=>
  obtain ⟨b,ρ1⟩:=p;rw [ef] at q;intro H1 fps1 k1 g1 rep1;dsimp only [Rz.bind] at q;cases b with
  | false=>
   refine ⟨ρ1,fps1,rep1,?_⟩;rw [if_neg (by decide)] at q;cases eg:bT g ρ1 with
   | no=>rw [eg] at q;exact q
   | exc c=>rw [eg] at q;exact λ H' fps' k=>q H' fps' (k1.trans k)
   | ok p2=>rw [eg] at q;exact λ H' fps' k g r=>q H' fps' (k1.trans k) (g1.trans g) r
  | true=>
   refine ⟨ρ1,fps1,rep1,?_⟩;rw [if_pos rfl] at q;cases eg:bT f ρ1 with
   | no=>rw [eg] at q;exact q
   | exc c=>rw [eg] at q;exact λ H' fps' k=>q H' fps' (k1.trans k)
   | ok p2=>rw [eg] at q;exact λ H' fps' k g r=>q H' fps' (k1.trans k) (g1.trans g) r
end
def RawD (h:Heap) (d:Addr) (es:Array Ef) (ep:Nat):Prop:=∃ o,h.get? d=some o/\o.ExactDict/\o.data=.dict es ep
def RawD.to {h h':Heap}{d:Addr}{es:Array Ef}{ep:Nat} (x:RawD h d es ep) (k:∀ o,h.get? d=some o->h'.get? d=some o):RawD h' d es ep:=let ⟨o,e,r⟩:=x;⟨o,k o e,r⟩
section
variable {pg:AA}{wd:A4}{Ar:BD}{Er:Ad->Ai->Prop}{st:Ai}{d it:Addr}{es:Array Ef}{ep i:Nat}
def RawD.ty (x:RawD st.heap d es ep):st.TypeIs (.ref d) "dict" := let ⟨o,e,c,_⟩:=x;⟨o,e,c.1⟩
def XO {Qv:Ad->Ai->Prop} (nm:(d == EJ)=false) (x:RawD st.heap d es ep)
  (q:Qv (.ref st.heap.objs.size) { st with heap:=st.heap.push { cls:=.type "dict_keyiterator",data:=.fields #[.ref d,.int 0 0,.int es.size 0,.int ep 0] } }):
  Ak (Av pg wd) Ar (pyIter (.ref d)) Qv Er st:=by
 obtain ⟨o,e1,c1,e2⟩:=id x;have tD:st.TypeIs (.ref d) "dict" := x.ty;refine wpAny_pyIter_slot tD F.slot_dict_iter (FW F.slot_dict_iter tD F.entry_dict_iter ?_ (F.args_dict_iter_1 _));delta vl9.«dict.__iter__»;refine Ag ?_;delta Builtin.Dict.dictSlotNone;refine Ag (Rg tD (show Ak _ _ (pure (Value.ref d)) _ _ st from Ao ?_));show Ak _ _ (L9 d >>= _) _ _ st;delta L9;rw [if_neg (by rw [nm];exact Cy)];refine Ag (Ao (Ag (HC e1 e2 (Ag (Kt e1 e2 (Ag (DS (Ao ⟨_,rfl,"dict_keyiterator",_,⟨_,BL _ rfl,rfl⟩,F.slot_dict_keyiterator_next.lookup,?_⟩))))))));simpa [DA] using q
def wt {Qv:Option Ad->Ai->Prop}{e:Ef} (ki:st.heap.IsKeyIter it d i es.size ep) (x:RawD st.heap d es ep) (hx:es[i]?=some e)
  (q:∀ hp,hp.IsKeyIter it d (i + 1) es.size ep->Jp it st.heap hp->Qv (some e.key) { st with heap:=hp }):
  Ak (Av pg wd) Ar (Ee (.ref it)) Qv Er st:=by
 obtain ⟨u,i1,i2,i3⟩:=id ki;obtain ⟨o,e1,c1,e2⟩:=id x;delta Ee;refine Ag (Ko (HE (name:=GL "__next__") ki.typeIs NQ (FW NQ ki.typeIs UY ?_ (UZ _))));refine Ag (Ao (Ag (Ag ?_)))
 first | refine Ag (NR ki.typeIs (Ao (Ag (Kr i1 i3 ?_)))) | refine Ag (NK ki.typeIs (Ao (Ag (Kr i1 i3 ?_))))
 simp only [show LA "dict_keyiterator" = false from by decide,GR,if_false];show Ak _ _ (if (Value.ref d == Value.none)=true then _ else _) _ _ st;have nn:¬ ((Value.ref d == Value.none)=true):=Cy;rw [if_neg nn];refine Ag (Ao (Ag (HC e1 e2 ?_)));rw [if_neg (by simp)];refine Ag (Ao (Ag (Kt e1 e2 ?_)));rw [if_neg (by simp)];refine Ao ?_;have nl:¬ ((i:Int) < 0):=by omega
 simp only [nl,if_false,D3,hx];refine Ag ?_
 first | refine Ag (NR ki.typeIs (Ao (Ag (Rc ki.typeIs ?_)))) | refine Ag (NK ki.typeIs (Ao (Ag (Rc ki.typeIs ?_))))
 show Ak _ _ (setField (.ref it) 1 (DA ((i:Int) + 1)) >>= _) _ _ st;refine Ag (Ks i1 i3 (by simp) ?_);have k2:(st.heap.update it (L1 (·.setIfInBounds 1 (DA ((i:Int) + 1))))).IsKeyIter it d (i + 1) es.size ep:=
  ⟨_,Ky _ i1 (Rb (Ku i3 _)),(QH ..).trans i2,by rw [Ku i3];simp [DA]⟩
 refine Ag (Js (Ag (Rc (s:={ st with heap:=st.heap.update it (L1 (·.setIfInBounds 1 (DA ((i:Int) + 1)))) }) k2.typeIs ?_)));show Ak _ _ (pure e.key) _ _ _;exact Ao (Ao ⟨_,rfl,Ao (q _ k2 (Kx ..))⟩)
end
def kP:Ax->PV
 | .inl i=>.int i
 | .inr x=>.str x
def C6 (k:List Ax):PV:=.tup (k.map kP)
section
variable {X:Cx}
end
section
variable {K:Frag}{H:Hp}{Z:Addr->Prop}
theorem XH:∀ (k:List Ax),OwnL K H Z (k.map kP) 0 (k.map kV) []
 | []=>by rw [IH,IH,OwnL];exact ⟨rfl,rfl⟩
 | k::r=>by
  rw [BF,BF,OwnL];refine ⟨_,_,[],[],rfl,rfl,λ _ z=>(nomatch z),?_,XH r⟩;cases k <;> (show Own K H Z _ 0 _ []) <;> exact ⟨rfl,rfl⟩
end
section
variable {pg:AA}{wd:A4}{Ar:BD}{Er:Ad->Ai->Prop}{st:Ai}{d it:Addr}{es:Array Ef}{ep i:Nat}
def yi {Qv:Option Ad->Ai->Prop} (hd0:Ar.handled=none) (ki:st.heap.IsKeyIter it d i es.size ep) (x:RawD st.heap d es ep) (hge:es.size<=i)
  (q:∀ hp,Heap.ExtBut it st.heap hp->Qv none { st with heap:=hp }):Ak (Av pg wd) Ar (Ee (.ref it)) Qv Er st:=by
 obtain ⟨u,i1,i2,i3⟩:=id ki;obtain ⟨o,e1,c1,e2⟩:=id x;delta Ee;refine Ag (Ko (HE (name:=GL "__next__") ki.typeIs NQ (FW NQ ki.typeIs UY ?_ (UZ _))));refine Ag (Ao (Ag (Ag ?_)))
 first | refine Ag (NR ki.typeIs (Ao (Ag (Kr i1 i3 ?_)))) | refine Ag (NK ki.typeIs (Ao (Ag (Kr i1 i3 ?_))))
 simp only [show LA "dict_keyiterator" = false from by decide,GR,if_false];show Ak _ _ (if (Value.ref d == Value.none)=true then _ else _) _ _ st;have nn:¬ ((Value.ref d == Value.none)=true):=Cy;rw [if_neg nn];refine Ag (Ao (Ag (HC e1 e2 ?_)));rw [if_neg (by simp)];refine Ag (Ao (Ag (Kt e1 e2 ?_)));rw [if_neg (by simp)];refine Ao ?_;have nl:¬ ((i:Int) < 0):=by omega
 simp only [nl,if_false,D3,JE hge];refine Ag ?_
 first | refine Ag (NR ki.typeIs (Ao ?_)) | refine Ag (NK ki.typeIs (Ao ?_))
 show Ak _ _ (setField (.ref it) 0 .none >>= _) _ _ st;refine Ag (Ks i1 i3 (by simp) ?_);show Ak _ _ (newExc (.type "StopIteration") [] >>= _) _ _ _;refine Ag ?_;simp only [newExc,newTuple];refine Ag (DS (Ag (m:=Kq _ _) (wpAny_of_eq (a:=Value.none) (by first | rfl | (simp only [Kq];rfl)) (DS ?_ (by size_fits)))) (by size_fits));simp only [raiseNew];refine Ag (wpAny_handled ?_);rw [show Ar.in1.handled=none from hd0];refine Ag (Ao (wpAny_throw (E:=_) ?_));refine Ag (L7 (b:=true) (T := "StopIteration") ⟨_,BL _ rfl,rfl⟩ Q6 ?_);exact Ao (q _ (((Kx ..).extBut.push _).push _))
def U9 {v:Addr}{Qv:Ad->Ai->Prop} (hv:st.heap.IsValuesView v d) (x:RawD st.heap d es ep)
  (q:Qv (.ref st.heap.objs.size) { st with heap:=st.heap.push { cls:=.type "dict_valueiterator",data:=.fields #[.ref d,.int 0 0,.int es.size 0,.int ep 0] } }):
  Ak (Av pg wd) Ar (pyIter (.ref v)) Qv Er st:=by
 obtain ⟨ov,hov,hcv,hdv⟩:=id hv;obtain ⟨o,e1,c1,e2⟩:=id x;refine wpAny_pyIter_slot hv.typeIs F.slot_dict_values_iter (FW F.slot_dict_values_iter hv.typeIs F.entry_dict_values_iter ?_ (F.args_dict_values_iter_1 _));delta vl9.«dict_values.__iter__»;refine Ag (Ao ?_);refine Ag ?_;delta Builtin.Dict_items.dictOf;refine Ag (DR hov hdv (x:=.ref d) rfl (Ao ?_));refine Ag ?_;delta Builtin.Dict_items.newIterator;refine Ag (HC e1 e2 ?_);refine Ag (Kt e1 e2 ?_);have hown:LA "dict_valueiterator" = false:=by decide
 simp only [hown,GR,if_false];refine DS (Ao ⟨_,rfl,"dict_valueiterator",_,⟨_,BL _ rfl,rfl⟩,F.slot_dict_valueiterator_next.lookup,?_⟩);simpa [DA] using q
def yk {Qv:Option Ad->Ai->Prop}{e:Ef} (ki:st.heap.IsValIter it d i es.size ep) (x:RawD st.heap d es ep) (hx:es[i]?=some e)
  (q:∀ hp,hp.IsValIter it d (i + 1) es.size ep->Jp it st.heap hp->Qv (some e.val) { st with heap:=hp }):
  Ak (Av pg wd) Ar (Ee (.ref it)) Qv Er st:=by
 obtain ⟨u,i1,i2,i3⟩:=id ki;obtain ⟨o,e1,c1,e2⟩:=id x;delta Ee;refine Ag (Ko (HE (name:=GL "__next__") ki.typeIs NT (FW NT ki.typeIs Va ?_ (Vc _))));refine Ag (Ao ?_);refine Ag ?_;refine Ag ?_
 first | refine Ag (NS ki.typeIs (Ao ?_)) | refine Ag (NL ki.typeIs (Ao ?_))
 refine Ag (Kr i1 i3 ?_);simp only [show LA "dict_valueiterator" = false from by decide,GR,if_false];show Ak _ _ (if (Value.ref d == Value.none)=true then _ else _) _ _ st;rw [if_neg (show ¬ ((Value.ref d == Value.none)=true) from Cy)];refine Ag (Ao ?_);refine Ag (HC e1 e2 ?_);rw [if_neg (by simp)];refine Ag (Ao ?_);refine Ag (Kt e1 e2 ?_);rw [if_neg (by simp)];refine Ao ?_;simp only [show ¬ ((i:Int) < 0) from by omega,if_false,D3,hx];refine Ag ?_
 first | refine Ag (NS ki.typeIs (Ao ?_)) | refine Ag (NL ki.typeIs (Ao ?_))
 refine Ag (Rf ki.typeIs ?_);show Ak _ _ (setField (.ref it) 1 (DA ((i:Int) + 1)) >>= _) _ _ st;refine Ag (Ks i1 i3 (by simp) ?_);have k2:(st.heap.update it (L1 (·.setIfInBounds 1 (DA ((i:Int) + 1))))).IsValIter it d (i + 1) es.size ep:=
  ⟨_,Ky _ i1 (Rb (Ku i3 _)),(QH ..).trans i2,by rw [Ku i3];simp [DA]⟩
 refine Ag (Js ?_);refine Ag (Rf (s:={ st with heap:=st.heap.update it (L1 (·.setIfInBounds 1 (DA ((i:Int) + 1)))) }) k2.typeIs ?_);refine Ag (Rf (s:={ st with heap:=st.heap.update it (L1 (·.setIfInBounds 1 (DA ((i:Int) + 1)))) }) k2.typeIs ?_);show Ak _ _ (pure e.val) _ _ _;exact Ao (Ao ⟨_,rfl,Ao (q _ k2 (Kx ..))⟩)
def yj {Qv:Option Ad->Ai->Prop} (hd0:Ar.handled=none) (ki:st.heap.IsValIter it d i es.size ep) (x:RawD st.heap d es ep) (hge:es.size<=i)
  (q:∀ hp,Heap.ExtBut it st.heap hp->Qv none { st with heap:=hp }):Ak (Av pg wd) Ar (Ee (.ref it)) Qv Er st:=by
 obtain ⟨u,i1,i2,i3⟩:=id ki;obtain ⟨o,e1,c1,e2⟩:=id x;delta Ee;refine Ag (Ko (HE (name:=GL "__next__") ki.typeIs NT (FW NT ki.typeIs Va ?_ (Vc _))));refine Ag (Ao ?_);refine Ag ?_;refine Ag ?_
 first | refine Ag (NS ki.typeIs (Ao ?_)) | refine Ag (NL ki.typeIs (Ao ?_))
 refine Ag (Kr i1 i3 ?_);simp only [show LA "dict_valueiterator" = false from by decide,GR,if_false];show Ak _ _ (if (Value.ref d == Value.none)=true then _ else _) _ _ st;rw [if_neg (show ¬ ((Value.ref d == Value.none)=true) from Cy)];refine Ag (Ao ?_);refine Ag (HC e1 e2 ?_);rw [if_neg (by simp)];refine Ag (Ao ?_);refine Ag (Kt e1 e2 ?_);rw [if_neg (by simp)];refine Ao ?_;simp only [show ¬ ((i:Int) < 0) from by omega,if_false,D3,JE hge];refine Ag ?_
 first | refine Ag (NS ki.typeIs (Ao ?_)) | refine Ag (NL ki.typeIs (Ao ?_))
 show Ak _ _ (setField (.ref it) 0 .none >>= _) _ _ st;refine Ag (Ks i1 i3 (by simp) ?_);show Ak _ _ (newExc (.type "StopIteration") [] >>= _) _ _ _;refine Ag ?_;simp only [newExc,newTuple];refine Ag (DS ?_ (by size_fits));refine Ag (m:=Kq _ _) (wpAny_of_eq (a:=Value.none) (by first | rfl | (simp only [Kq];rfl)) ?_);refine DS ?_ (by size_fits);simp only [raiseNew];refine Ag (wpAny_handled ?_);rw [show Ar.in1.handled=none from hd0];refine Ag (Ao (wpAny_throw (E:=_) ?_));refine Ag (L7 (b:=true) (T := "StopIteration") ⟨_,BL _ rfl,rfl⟩ Q6 ?_);exact Ao (q _ (((Kx ..).extBut.push _).push _))
end
def Ud (a:Addr) (o:Obj) (kvs:List (List Ax×V)):It:=⟨λ i H=>H a=some (.frz o (.dT kvs))/\i < kvs.length,λ i H v H'=>H'=H/\∃ b p,v=.ref b/\kvs[i]?=some p/\H b=some (.tup (p.1.map kV)),λ i H=>H a=some (.frz o (.dT kvs))/\kvs.length<=i⟩
def Uc (a:Addr) (o:Obj) (kvs:List (List Ax×V)):It:=⟨λ i H=>H a=some (.frz o (.dT kvs))/\i < kvs.length,λ i H v H'=>H'=H/\∃ p,v=p.2/\kvs[i]?=some p,λ i H=>H a=some (.frz o (.dT kvs))/\kvs.length<=i⟩
theorem Qe {α β:Type}{R:α->β->Prop}:∀ {xs:List α}{ys:List β},FP R xs ys->∀ {i:Nat}{x:α},xs[i]?=some x->∃ y,ys[i]?=some y/\R x y
 | _,_,.nil,i,x,e=>by simp at e
 | _,_,.cons h t,0,x,e=>by simp at e;subst e;exact ⟨_,rfl,h⟩
 | _,_,.cons h t,i + 1,x,e=>by
  rw [IQ] at e ⊢;exact Qe t e
theorem Qf {α β:Type}{R:α->β->Prop}:∀ {xs:List α}{ys:List β},FP R xs ys->xs.length=ys.length
 | _,_,.nil=>rfl
 | _,_,.cons _ t=>by rw [Bh,Bh,Qf t]
def known {X:Cx}{pins:List (Addr×Obj)}{σ:St}{H:Hp}{s:Ai}{a:Addr}{o:Obj}{kvs:List (List Ax×V)}{es:Array Ef}{ep:Nat} (I:Inv X pins σ H s) (hd:o.data=.dict es ep) (h:H a=some (.frz o (.dT kvs))):
  s.heap.get? a=some o/\o.ExactDict/\es.size=kvs.length/\∀ (i:Nat) (p:List Ax×V),kvs[i]?=some p->∃ (e:Ef) (b:Addr),es[i]?=some e/\e.key=.ref b/\H b=some (.tup (p.1.map kV))/\RelV p.2 e.val:=by
 obtain ⟨e0,hz,nm,ys,pr,o',es',ep',e1,c1,d1,l1,nd⟩:=(show zxq X.prog X.w H s.heap a (.frz o (.dT kvs)) from I.hok a _ h)
 cases e0.symm.trans e1;cases hd.symm.trans d1;have hl:es.size=ys.length:=by rw [<- IP,l1,A8]
 refine ⟨e0,c1,by rw [hl,Qf pr],λ i p hp=>?_⟩;obtain ⟨q,hq,hk,hb,hv⟩:=Qe pr hp;refine ⟨Kl (FR (De X.prog X.w)) q,q.2.1,?_,rfl,hb,hv⟩;rw [<- Po,l1,C5,hq];rfl
def UI {P:AA}{w:A4}{K:Frag}{tg:Expr}{o:Obj}{kvs:List (List Ax×V)}{es:Array Ef}{ep:Nat} (hd:o.data=.dict es ep) (a it:Addr):Turn P w K tg (Ud a o kvs) [it] it (λ i h=>h.IsKeyIter it a i es.size ep) where
 mem:=by simp
 obj:=λ i h st b hb=>by
  have e:b=it:=by simpa using hb
  subst e;obtain ⟨o,e,c,d⟩:=st;exact ⟨o,e,λ v z=>by rw [d] at z;cases z⟩
 keep:=λ i h h' st k=>st.at λ o e=>k it (by simp) o e
 item:=by
  intro X hP hw hK hc i pins s σ H E I hf st hg;subst hP hw hK;obtain ⟨h1,hi⟩:=hg;obtain ⟨e0,c0,sz,at'⟩:=known I hd h1;obtain ⟨f0,f1,f2,f3,f4,f5⟩:=hf it (by simp);have hx:kvs[i]?=some kvs[i]:=BW hi;obtain ⟨en,b,he,ek,hb,_⟩:=at' i _ hx;refine wt st ⟨o,e0,c0,hd⟩ he λ hp k2 sb=>?_;have I1:Inv X pins σ H { s with heap:=hp }:=I.turned (t':=s.toks) (λ b o hb e=>(sb.2 b hb).trans e) f0 f1 f3 f4 f5;obtain ⟨o',e,c,d⟩:=id k2;refine ⟨en.key,rfl,IE (s:={ s with heap:=hp }) e c d (by decide) ⟨.ref b,H,I1,ek,⟨rfl,b,_,rfl,hx,hb⟩,k2,λ b hb=>(hf b hb).1⟩⟩
 done:=by
  intro X hP hw hK hc i pins s σ H E I hf st hg;subst hP hw hK;obtain ⟨h1,hi⟩:=hg;obtain ⟨e0,c0,sz,at'⟩:=known I hd h1;obtain ⟨f0,f1,f2,f3,f4,f5⟩:=hf it (by simp);exact yi (I.ok.hd hc) st ⟨o,e0,c0,hd⟩ (by omega) λ h' eb=>⟨rfl,I.turned (t':=s.toks) (λ b o hb e=>eb b o hb e) f0 f1 f3 f4 f5⟩
 self:=λ _ _ _ _ _ st h=>wpAny_pyIter_keyiter st h
def UJ {P:AA}{w:A4}{K:Frag}{tg:Expr}{o:Obj}{kvs:List (List Ax×V)}{es:Array Ef}{ep:Nat} (hd:o.data=.dict es ep) (a it:Addr):Turn P w K tg (Uc a o kvs) [it] it (λ i h=>h.IsValIter it a i es.size ep) where
 mem:=by simp
 obj:=λ i h st b hb=>by
  have e:b=it:=by simpa using hb
  subst e;obtain ⟨o,e,c,d⟩:=st;exact ⟨o,e,λ v z=>by rw [d] at z;cases z⟩
 keep:=λ i h h' st k=>st.at λ o e=>k it (by simp) o e
 item:=by
  intro X hP hw hK hc i pins s σ H E I hf st hg;subst hP hw hK;obtain ⟨h1,hi⟩:=hg;obtain ⟨e0,c0,sz,at'⟩:=known I hd h1;obtain ⟨f0,f1,f2,f3,f4,f5⟩:=hf it (by simp);have hx:kvs[i]?=some kvs[i]:=BW hi;obtain ⟨en,b,he,ek,hb,hv⟩:=at' i _ hx;refine yk st ⟨o,e0,c0,hd⟩ he λ hp k2 sb=>?_;have I1:Inv X pins σ H { s with heap:=hp }:=I.turned (t':=s.toks) (λ b o hb e=>(sb.2 b hb).trans e) f0 f1 f3 f4 f5;obtain ⟨o',e,c,d⟩:=id k2;refine ⟨en.val,rfl,IE (s:={ s with heap:=hp }) e c d (by decide) ⟨kvs[i].2,H,I1,hv,⟨rfl,_,rfl,hx⟩,k2,λ b hb=>(hf b hb).1⟩⟩
 done:=by
  intro X hP hw hK hc i pins s σ H E I hf st hg;subst hP hw hK;obtain ⟨h1,hi⟩:=hg;obtain ⟨e0,c0,sz,at'⟩:=known I hd h1;obtain ⟨f0,f1,f2,f3,f4,f5⟩:=hf it (by simp);exact yj (I.ok.hd hc) st ⟨o,e0,c0,hd⟩ (by omega) λ h' eb=>⟨rfl,I.turned (t':=s.toks) (λ b o hb e=>eb b o hb e) f0 f1 f3 f4 f5⟩
 self:=λ _ _ _ _ _ st h=>wpAny_pyIter_valiter st h
section
variable {X:Cx}{pins:List (Addr×Obj)}{σ:St}{H:Hp}{s:Ai}{a:Addr}{kvs:List (List Ax×V)}{o:Obj}
def Hn (X:Cx) (a:Addr):Prop:=∀ o u,X.H₀ a≠some (.frz o u)
def WM (I:Inv X pins σ H s) (h:H a=some (.dT kvs)):∃ o es ep,s.heap.get? a=some o/\o.ExactDict/\o.data=.dict es ep/\(a == EJ)=false/\Inv X pins σ (Ap H a (.frz o (.dT kvs))) s/\Hn X a:=by
 have hO:=(show zxq X.prog X.w H s.heap a (.dT kvs) from I.hok a _ h)
 obtain ⟨hz,nm,ys,pr,o,es,ep,e1,c1,d1,l1,nd⟩:=id hO;have na:∀ b u,H b=some u->u≠.dT kvs->b≠a:=λ b u q n z=>by subst z;rw [h] at q;cases q;exact n rfl
 have nn:∀ b,H b=none->b≠a:=λ b q z=>by subst z;rw [h] at q;cases q
 have tp:∀ b xs,H b=some (.tup xs)->Ap H a (.frz o (.dT kvs)) b=some (.tup xs):=λ b xs q=>by rw [AE (na b _ q (λ z=>nomatch z))];exact q
 refine ⟨o,es,ep,e1,c1,d1,nm,⟨I.ok,I.os,I.bare,⟨I.base.keep,I.base.slot,λ b ob q n hx=>?_,I.base.there,λ b xs q=>tp b xs (I.base.tups b xs q),λ b ob u q=>?_,λ b ps q=>?_⟩,I.loc,I.cell,?_,λ x c q=>?_,λ p hp=>?_,λ b u q=>?_,I.len⟩,λ ob u z=>?_⟩
 ·have:=I.base.free b ob q n hx
  rw [AE (nn b this)];exact this
 ·have:=I.base.frzs b ob u q
  rw [AE (na b _ this (λ z=>nomatch z))];exact this
 ·obtain ⟨m,z⟩:=I.base.tbls b ps q;exact ⟨m,by rw [AE (na b _ z (λ z=>nomatch z))];exact z⟩
 ·rw [AE (nn _ I.free)];exact I.free
 ·rw [AE (nn _ (I.freeC x c q))];exact I.freeC x c q
 ·obtain ⟨p1,p2,p3⟩:=I.pin p hp;exact ⟨p1,by rw [AE (nn _ p2)];exact p2,p3⟩
 ·have stay:∀ {b:Addr}{u:HO},zxq X.prog X.w H s.heap b u->zxq X.prog X.w (Ap H a (.frz o (.dT kvs))) s.heap b u:=λ x=>x.stay (λ _ _ _ e=>e) (λ c q=>by rw [AE (na c _ q (λ z=>nomatch z))];exact q) tp;by_cases hb:b=a
  ·subst hb;rw [Bp] at q;cases q;exact ⟨e1,stay hO⟩
  ·rw [AE hb] at q;exact stay (I.hok b u q)
 ·have:=I.base.frzs a ob u z
  rw [h] at this;cases this
def O9 (I:Inv X pins σ H s) (h:H a=some (.frz o (.dT kvs))) (hX:Hn X a):Inv X pins σ (Ap H a (.dT kvs)) s:=by
 have hO:=(show zxq X.prog X.w H s.heap a (.frz o (.dT kvs)) from I.hok a _ h)
 have na:∀ b u,H b=some u->u≠.frz o (.dT kvs)->b≠a:=λ b u q n z=>by subst z;rw [h] at q;cases q;exact n rfl
 have nn:∀ b,H b=none->b≠a:=λ b q z=>by subst z;rw [h] at q;cases q
 have tp:∀ b xs,H b=some (.tup xs)->Ap H a (.dT kvs) b=some (.tup xs):=λ b xs q=>by rw [AE (na b _ q (λ z=>nomatch z))];exact q
 refine ⟨I.ok,I.os,I.bare,⟨I.base.keep,I.base.slot,λ b ob q n hx=>?_,I.base.there,λ b xs q=>tp b xs (I.base.tups b xs q),λ b ob u q=>?_,λ b ps q=>?_⟩,I.loc,I.cell,?_,λ x c q=>?_,λ p hp=>?_,λ b u q=>?_,I.len⟩
 ·have:=I.base.free b ob q n hx
  rw [AE (nn b this)];exact this
 ·have:=I.base.frzs b ob u q
  rw [AE (λ z=>hX ob u (by rw [<- z];exact q))];exact this
 ·obtain ⟨m,z⟩:=I.base.tbls b ps q;exact ⟨m,by rw [AE (na b _ z (λ z=>nomatch z))];exact z⟩
 ·rw [AE (nn _ I.free)];exact I.free
 ·rw [AE (nn _ (I.freeC x c q))];exact I.freeC x c q
 ·obtain ⟨p1,p2,p3⟩:=I.pin p hp;exact ⟨p1,by rw [AE (nn _ p2)];exact p2,p3⟩
 ·have stay:∀ {b:Addr}{u:HO},zxq X.prog X.w H s.heap b u->zxq X.prog X.w (Ap H a (.dT kvs)) s.heap b u:=λ x=>x.stay (λ _ _ _ e=>e) (λ c q=>by rw [AE (na c _ q (λ z=>nomatch z))];exact q) tp;by_cases hb:b=a
  ·subst hb;rw [Bp] at q;cases q;exact stay hO.2
  ·rw [AE hb] at q;exact stay (I.hok b u q)
def EK (X:Cx) (D:Ends):Ends where
 nx:=λ σ H=>D.nx σ H\/∃ a o kvs,H a=some (.frz o (.dT kvs))/\Hn X a/\D.nx σ (Ap H a (.dT kvs))
 rt:=λ v H=>D.rt v H\/∃ a o kvs,H a=some (.frz o (.dT kvs))/\Hn X a/\D.rt v (Ap H a (.dT kvs))
 bk:=λ σ H=>D.bk σ H\/∃ a o kvs,H a=some (.frz o (.dT kvs))/\Hn X a/\D.bk σ (Ap H a (.dT kvs))
 ct:=λ σ H=>D.ct σ H\/∃ a o kvs,H a=some (.frz o (.dT kvs))/\Hn X a/\D.ct σ (Ap H a (.dT kvs))
theorem WU {st:Stmt}{t:TS} (h:PS X st t):PS X st (λ D σ H=>t (EK X D) σ H):=by
 intro pins s σ H D I q;refine Az (h pins s σ H (EK X D) I q) λ f s' z=>?_;cases f with
 | next=>
  obtain ⟨σ',H',I',q | ⟨a,o,kvs,ha,hX,q⟩⟩:=z
  ·exact ⟨σ',H',I',q⟩
  ·exact ⟨σ',_,O9 I' ha hX,q⟩
 | brk=>
  obtain ⟨σ',H',I',q | ⟨a,o,kvs,ha,hX,q⟩⟩:=z
  ·exact ⟨σ',H',I',q⟩
  ·exact ⟨σ',_,O9 I' ha hX,q⟩
 | cont=>
  obtain ⟨σ',H',I',q | ⟨a,o,kvs,ha,hX,q⟩⟩:=z
  ·exact ⟨σ',H',I',q⟩
  ·exact ⟨σ',_,O9 I' ha hX,q⟩
 | ret u=>
  obtain ⟨v,σ',H',I',r,q | ⟨a,o,kvs,ha,hX,q⟩⟩:=z
  ·exact ⟨v,σ',H',I',r,q⟩
  ·exact ⟨v,σ',_,O9 I' ha hX,r,q⟩
def qM {st:Stmt}{t u:TS} (h:PS X st t) (h':PS X st u):PS X st (λ D σ H=>t D σ H\/u D σ H):=λ pins s σ H D I q=>q.elim (h pins s σ H D I) (h' pins s σ H D I)
def Vm (X:Cx) (tl:TE):TI:=λ σ H R=>tl σ H λ x H1=>∃ a kvs,x=.ref a/\((H1 a=some (.dT kvs)/\∀ o,Hn X a->R (Ud a o kvs) (Ap H1 a (.frz o (.dT kvs))))\/∃ o,H1 a=some (.frz o (.dT kvs))/\R (Ud a o kvs) H1)
def kl {tg l:Expr}{tl:TE} (hl:PE X l tl):PI X tg l (Vm X tl):=by
 intro pins s σ H R I h;refine Az (hl pins s σ H _ I h) λ v s1 ⟨x,H1,I1,r1,q1⟩=>?_;obtain ⟨a,kvs,rfl,⟨ha,q⟩ | ⟨o,ha,q⟩⟩:=q1
 ·cases r1;obtain ⟨o,es,ep,e0,c0,d0,nm,I2,hX⟩:=WM I1 ha;refine XO nm ⟨o,e0,c0,d0⟩ ?_;refine ⟨s1.heap.objs.size,[s1.heap.objs.size],_,_,_,rfl,I2.kept (t':=s1.toks) λ b o e=>Bb _ e,UI d0 a _,⟨_,BL _ rfl,rfl,rfl⟩,λ b hb=>?_,q o hX⟩;have e:b=s1.heap.objs.size:=by simpa using hb
  subst e;exact I2.fpOk (AB _) (I2.hok.fresh (AB _))
 ·cases r1;obtain ⟨e0,hz,nm,ys,pr,o',es,ep,e1,c1,d1,l1,nd⟩:=(show zxq X.prog X.w H1 s1.heap a (.frz o (.dT kvs)) from I1.hok a _ ha)
  cases e0.symm.trans e1;refine XO nm ⟨o,e0,c1,d1⟩ ?_;refine ⟨s1.heap.objs.size,[s1.heap.objs.size],_,_,_,rfl,I1.kept (t':=s1.toks) λ b o e=>Bb _ e,UI d1 a _,⟨_,BL _ rfl,rfl,rfl⟩,λ b hb=>?_,q⟩;have e:b=s1.heap.objs.size:=by simpa using hb
  subst e;exact I1.fpOk (AB _) (I1.hok.fresh (AB _))
def yC {pg:AA}{wd:A4} (d:Addr) (hd:(d == EJ)=false):
  MeetsIn pg wd (vl9.«dict.values» ⟨[.ref d],[]⟩) (λ _ R s=>s.TypeIs (.ref d) "dict" /\
   R (.ok (.ret (.ref s.heap.objs.size))) { s with heap:=s.heap.push { cls:=.type "dict_values",data:=.fields #[.ref d] } }):=
 .of_wp λ A R s ⟨hm,h⟩=>by
  refine Ag ?_;delta Builtin.Dict.noArgs;refine Ag (Rg hm ?_);show Ak _ _ (pure d) _ _ s;refine Ao ?_;show Ak _ _ (L9 d >>= _) _ _ s;delta L9;rw [if_neg (by rw [hd];exact Cy)];refine Ag (Ao ?_);exact Ag (DS (Ao ⟨_,rfl,h⟩))
def VB (to:TE):TE:=λ σ H Q=>to σ H λ x H1=>∃ a kvs,x=.ref a/\Rd H1 a (.dT kvs)/\∀ v,H1 v=none->Q (.ref v) (Ap H1 v (.ext λ h=>h.IsValuesView v a))
def j8 {o:Expr}{to:TE}{apos cpos:Pos} (ho:PE X o to) (hbase:attributeBase o "values" X.env (eval o X.env)=eval o X.env:=by rfl) (hline:(apos.endLine == cpos.line)=true:=by rfl):PE X (.Call (.Attribute o "values" apos) [] [] cpos) (VB to):=by
 intro pins s σ H Q I h;refine wpAny_Call_method0_late hbase hline (Az (ho pins s σ H _ I h) λ v s1 ⟨x,H1,I1,r1,a,kvs,ex,rd,q⟩=>?_);subst ex;cases r1;obtain ⟨hz,nm,ys,pr,ob,es,ep,e1,c1,d1,l1,nd⟩:=(show zxq X.prog X.w H1 s1.heap a (.dT kvs) from Rd.ok rd I1.hok)
 have ty:s1.TypeIs (.ref a) "dict" := ⟨ob,e1,c1.1⟩
 refine ⟨"dict","dict.values",PySem.F.plainAttrs_dict,PySem.F.slot_dict_values,PySem.F.type_dict_values,ty,λ b e=>by cases e;exact ⟨ob,e1,c1.2.1⟩,Calls.callWith_builtin rfl (PySem.evalArgs_none ?_)⟩;refine call_meetsIn PySem.F.slot_dict_values ty PySem.F.entry_dict_values (PySem.F.args_dict_values_1 _) (yC a nm) ⟨ty,?_⟩;refine ⟨.ref s1.heap.objs.size,_,I1.laid (t':=s1.toks) (λ b o e=>Bb _ e) (AB _) ?_,rfl,q _ (I1.hok.fresh (AB _))⟩;exact ⟨⟨_,BL _ rfl,rfl,rfl⟩,⟨_,BL _ rfl⟩,λ h1 h2 x k=>by obtain ⟨o,e,r⟩:=x;exact ⟨o,k o e,r⟩⟩
def Vn (X:Cx) (tl:TE):TI:=λ σ H R=>tl σ H λ x H1=>∃ v a kvs,x=.ref v/\H1 v=some (.ext λ h=>h.IsValuesView v a)/\((H1 a=some (.dT kvs)/\∀ o,Hn X a->R (Uc a o kvs) (Ap H1 a (.frz o (.dT kvs))))\/∃ o,H1 a=some (.frz o (.dT kvs))/\R (Uc a o kvs) H1)
def km {tg l:Expr}{tl:TE} (hl:PE X l tl):PI X tg l (Vn X tl):=by
 intro pins s σ H R I h;refine Az (hl pins s σ H _ I h) λ v s1 ⟨x,H1,I1,r1,q1⟩=>?_;obtain ⟨vv,a,kvs,rfl,hv,q1⟩:=q1;cases r1;have view:s1.heap.IsValuesView vv a:=(show zxq X.prog X.w H1 s1.heap vv (.ext λ h=>h.IsValuesView vv a) from I1.hok vv _ hv).1;rcases q1 with ⟨ha,q⟩ | ⟨o,ha,q⟩
 ·obtain ⟨o,es,ep,e0,c0,d0,nm,I2,hX⟩:=WM I1 ha;refine U9 view ⟨o,e0,c0,d0⟩ ?_;refine ⟨s1.heap.objs.size,[s1.heap.objs.size],_,_,_,rfl,I2.kept (t':=s1.toks) λ b o e=>Bb _ e,UJ d0 a _,⟨_,BL _ rfl,rfl,rfl⟩,λ b hb=>?_,q o hX⟩;have e:b=s1.heap.objs.size:=by simpa using hb
  subst e;exact I2.fpOk (AB _) (I2.hok.fresh (AB _))
 ·obtain ⟨e0,hz,nm,ys,pr,o',es,ep,e1,c1,d1,l1,nd⟩:=(show zxq X.prog X.w H1 s1.heap a (.frz o (.dT kvs)) from I1.hok a _ ha)
  cases e0.symm.trans e1;refine U9 view ⟨o,e0,c1,d1⟩ ?_;refine ⟨s1.heap.objs.size,[s1.heap.objs.size],_,_,_,rfl,I1.kept (t':=s1.toks) λ b o e=>Bb _ e,UJ d1 a _,⟨_,BL _ rfl,rfl,rfl⟩,λ b hb=>?_,q⟩;have e:b=s1.heap.objs.size:=by simpa using hb
  subst e;exact I1.fpOk (AB _) (I1.hok.fresh (AB _))
end
section
variable {K:Frag}{H H':Hp}{Z:Addr->Prop}{a:Addr}{kvs:List (List Ax×V)}
def xF {kvs':List (List Ax×V)} (h:Rd H a (.dT kvs)) (h':Rd H a (.dT kvs')):kvs'=kvs:=by
 rcases h with h | ⟨o,h⟩ <;> rcases h' with h' | ⟨o',h'⟩ <;> rw [h] at h' <;> cases h' <;> rfl
def qP {u:HO} (h:Rd H a (.dT kvs)) (h':H a=some u) (n:u≠.dT kvs) (n2:∀ o,u≠.frz o (.dT kvs)):False:=by
 rcases h with h | ⟨o,h⟩
 ·rw [h] at h';cases h';exact n rfl
 ·rw [h] at h';cases h';exact n2 o rfl
variable (k:∀ b u,H b=some u->b≠a->H' b=some u) (ha:Rd H a (.dT kvs)) (ha':Rd H' a (.dT kvs))
include k ha ha'
def V2 {b:Addr}{kvs':List (List Ax×V)} (h:Rd H b (.dT kvs')):Rd H' b (.dT kvs'):=by
 by_cases e:b=a
 ·subst e;rw [xF ha h];exact ha'
 ·rcases h with h | ⟨o,h⟩
  ·exact .inl (k b _ h e)
  ·exact .inr ⟨o,k b _ h e⟩
def J5 {b:Addr}{u:HO} (h:H b=some u) (n:u≠.dT kvs) (n2:∀ o,u≠.frz o (.dT kvs)):H' b=some u:=k b u h λ e=>by subst e;exact qP ha h n n2
mutual
theorem Own.rdAt:∀ (x:PV) (d:Nat) (v:V) (fp:List Addr),a∉fp->Own K H Z x d v fp->Own K H' Z x d v fp
 | .non,_,_,_,_,h=>by rw [Own] at h ⊢;exact h
 | .bl _,_,_,_,_,h=>by rw [Own] at h ⊢;exact h
 | .int _,_,_,_,_,h=>by rw [Own] at h ⊢;exact h
 | .str _,_,_,_,_,h=>by rw [Own] at h ⊢;exact h
 | .emp,_,_,_,_,h=>by
  rw [Own] at h ⊢;obtain ⟨e,b,ev,hb⟩:=h;exact ⟨e,b,ev,J5 k ha ha' hb (λ z=>nomatch z) λ _ z=>nomatch z⟩
 | .dko,_,_,_,_,h=>by
  rw [Own] at h ⊢;obtain ⟨e,b,ev,kk,hb⟩:=h;exact ⟨e,b,ev,kk,J5 k ha ha' hb (λ z=>nomatch z) λ _ z=>nomatch z⟩
 | .scr _,_,_,_,_,h=>by
  rw [Own] at h ⊢;obtain ⟨e,b,ev,⟨o,hb⟩ | hb⟩:=h
  ·exact ⟨e,b,ev,.inl ⟨o,J5 k ha ha' hb (λ z=>nomatch z) λ _ z=>nomatch z⟩⟩
  ·exact ⟨e,b,ev,.inr hb⟩
 | .exn _,_,_,_,_,h=>by
  rw [Own] at h ⊢;obtain ⟨e,b,C,ev,hc,hb⟩:=h;exact ⟨e,b,C,ev,hc,J5 k ha ha' hb (λ z=>nomatch z) λ _ z=>nomatch z⟩
 | .dct kk,d,v,fp,hf,h=>by
  rw [Own] at h ⊢;obtain ⟨b,ev,⟨d0,hr,e⟩ | ⟨d0,hb,e⟩⟩:=h
  ·exact ⟨b,ev,.inl ⟨d0,⟨V2 k ha ha' hr.1,hr.2⟩,e⟩⟩
  ·exact ⟨b,ev,.inr ⟨d0,k b _ hb λ z=>hf (by rw [e,<- z];exact AH),e⟩⟩
 | .dcl ks xs,d,v,fp,hf,h=>by
  rw [Own] at h ⊢;obtain ⟨b,vs,ev,en,⟨d0,hr,e,hl⟩ | ⟨d0,f,hb,e,nb,hl⟩⟩:=h
  ·exact ⟨b,vs,ev,en,.inl ⟨d0,⟨V2 k ha ha' hr.1,hr.2⟩,e,OwnL.rdAt xs 0 vs [] (λ z=>nomatch z) hl⟩⟩
  ·exact ⟨b,vs,ev,en,.inr ⟨d0,f,k b _ hb (λ z=>hf (by rw [e,<- z];exact AH)),e,nb,OwnL.rdAt xs _ vs f (λ z=>hf (by rw [e];exact AI _ z)) hl⟩⟩
 | .lst xs,d,v,fp,hf,h=>by
  rw [Own] at h ⊢;obtain ⟨b,vs,ev,⟨d0,hr,e,hl⟩ | ⟨d0,f,hb,e,nb,hl⟩⟩:=h
  ·exact ⟨b,vs,ev,.inl ⟨d0,⟨J5 k ha ha' hr.1 (λ z=>nomatch z) (λ _ z=>nomatch z),hr.2⟩,e,OwnL.rdAt xs 0 vs [] (λ z=>nomatch z) hl⟩⟩
  ·exact ⟨b,vs,ev,.inr ⟨d0,f,J5 k ha ha' hb (λ z=>nomatch z) (λ _ z=>nomatch z),e,nb,OwnL.rdAt xs _ vs f (λ z=>hf (by rw [e];exact AI _ z)) hl⟩⟩
 | .tup xs,d,v,fp,hf,h=>by
  rw [Own] at h ⊢;obtain ⟨b,vs,ev,hr,hl⟩:=h;exact ⟨b,vs,ev,J5 k ha ha' hr (λ z=>nomatch z) (λ _ z=>nomatch z),OwnL.rdAt xs _ vs fp hf hl⟩
theorem OwnL.rdAt:∀ (xs:List PV) (d:Nat) (vs:List V) (fp:List Addr),a∉fp->OwnL K H Z xs d vs fp->OwnL K H' Z xs d vs fp
 | [],_,_,_,_,h=>by rw [OwnL] at h ⊢;exact h
 | x::xs,d,vs,fp,hf,h=>by
  rw [OwnL] at h ⊢;obtain ⟨v,r,f1,f2,e1,e,dj,h1,h2⟩:=h;exact ⟨v,r,f1,f2,e1,e,dj,Own.rdAt x d v f1 (λ z=>hf (by rw [e];exact BU _ z)) h1,OwnL.rdAt xs d r f2 (λ z=>hf (by rw [e];exact BV _ z)) h2⟩
end
end
section
variable {M:Fm}{ρ:Ae}{σ:St}{H H':Hp}{fps:AU}{a:Addr}{kvs:List (List Ax×V)}
def Rep.rdAt (k:∀ b u,H b=some u->b≠a->H' b=some u) (ha:Rd H a (.dT kvs)) (ha':Rd H' a (.dT kvs)) (hn:∀ i,a∉fps i) (r:Rep M ρ σ H fps):Rep M ρ σ H' fps where
 own:=λ i x d e=>let ⟨v,h1,h2⟩:=r.own i x d e;⟨v,h1,Own.rdAt k ha ha' x d v _ (hn i) h2⟩
 non:=r.non
 dj:=r.dj
 zo:=r.zo
 fr:=r.fr
 zd:=λ b z=>by
  by_cases e:b=a
  ·rw [e];exact Rd.ne ha'
  ·cases e2:H b with
   | none=>exact absurd e2 (r.zd b z)
   | some u=>rw [k b u e2 e];simp
 len:=r.len
 msf:=r.msf
 h0:=λ b z=>by
  by_cases e:b=a
  ·rw [e];exact Rd.ne ha'
  ·cases e2:H b with
   | none=>exact absurd e2 (r.h0 b z)
   | some u=>rw [k b u e2 e];simp
 iov:=r.iov
def OL:Rs->Bool
 | .exc _=>false
 | _=>true
theorem RsOk.known {X:Cx}{D:Ends}{o:Obj}{r:Rs} (h:H a=some (.dT kvs)) (hn:∀ i,a∉fps i) (hX:Hn X a) (ne:OL r=true) (q:RsOk M D H fps r):RsOk M (EK X D) (Ap H a (.frz o (.dT kvs))) fps r:=by
 have back:∀ {H':Hp}{fps':AU},KS M (Ap H a (.frz o (.dT kvs))) fps H' fps'->H' a=some (.frz o (.dT kvs))/\KS M H fps (Ap H' a (.dT kvs)) fps'/\∀ i,a∉fps' i:=λ {H' fps'} ks=>by
  have h1:H' a=some (.frz o (.dT kvs)):=ks.keep a _ Bp λ ⟨i,z⟩=>hn i z;refine ⟨h1,⟨λ b u hb n=>?_,λ b hb=>?_,λ i b hb=>?_⟩,λ i z=>?_⟩
  ·by_cases e:b=a
   ·rw [e] at hb ⊢;rw [Bp,<- hb,h]
   ·rw [AE e];exact ks.keep b u (by rw [AE e];exact hb) n
  ·by_cases e:b=a
   ·rw [e,Bp];simp
   ·rw [AE e];exact ks.dom b (by rw [AE e];exact hb)
  ·rcases ks.sub i b hb with z | z
   ·exact .inl z
   ·by_cases e:b=a
    ·rw [e,Bp] at z;cases z
    ·rw [AE e] at z;exact .inr z
  ·rcases ks.sub i a z with ⟨j,z⟩ | z
   ·exact hn j z
   ·rw [Bp] at z;cases z
 have un:∀ {H':Hp},H' a=some (.frz o (.dT kvs))->∀ b u,H' b=some u->b≠a->Ap H' a (.dT kvs) b=some u:=λ _ b u hb e=>by rw [AE e];exact hb
 cases r with
 | no=>exact q
 | exc c=>cases ne
 | nx ρ'=>exact λ σ' H' fps' ks rep=>let ⟨h1,k2,n2⟩:=back ks;.inr ⟨a,o,kvs,h1,hX,q σ' _ fps' k2 (rep.rdAt (un h1) (.inr ⟨o,h1⟩) (.inl Bp) n2)⟩
 | bk ρ'=>exact λ σ' H' fps' ks rep=>let ⟨h1,k2,n2⟩:=back ks;.inr ⟨a,o,kvs,h1,hX,q σ' _ fps' k2 (rep.rdAt (un h1) (.inr ⟨o,h1⟩) (.inl Bp) n2)⟩
 | ct ρ'=>exact λ σ' H' fps' ks rep=>let ⟨h1,k2,n2⟩:=back ks;.inr ⟨a,o,kvs,h1,hX,q σ' _ fps' k2 (rep.rdAt (un h1) (.inr ⟨o,h1⟩) (.inl Bp) n2)⟩
 | rt x d ρ'=>
  intro v σ' H' fps' fp ks rep own hfp;obtain ⟨h1,k2,n2⟩:=back ks;have nfp:a∉fp:=λ z=>by
   obtain ⟨m,hm⟩:=Own.lsts x d v fp own a z;rw [h1] at hm;cases m <;> cases hm
  exact .inr ⟨a,o,kvs,h1,hX,q v σ' _ fps' fp k2 (rep.rdAt (un h1) (.inr ⟨o,h1⟩) (.inl Bp) n2) (Own.rdAt (un h1) (.inr ⟨o,h1⟩) (.inl Bp) x d v fp nfp own) hfp⟩
theorem RsOk.thaw0 {X:Cx}{D:Ends}{r:Rs} (q:RsOk M D H fps r):RsOk M (EK X D) H fps r:=by
 cases r with
 | no=>exact q
 | exc c=>exact q
 | nx ρ'=>exact λ σ' H' fps' ks rep=>.inl (q σ' H' fps' ks rep)
 | bk ρ'=>exact λ σ' H' fps' ks rep=>.inl (q σ' H' fps' ks rep)
 | ct ρ'=>exact λ σ' H' fps' ks rep=>.inl (q σ' H' fps' ks rep)
 | rt x d ρ'=>exact λ v σ' H' fps' fp ks rep own hfp=>.inl (q v σ' H' fps' fp ks rep own hfp)
end
def EM (r:Rs):Rs:=if OL r=true then r else .no
def Iu (f:Fx) (vs:List Nat) (asg:PV->Ae->Option Ae) (body:Fs):Fs:=λ ρ=>match f ρ with
 | .ok (.dcl ks _,d,ρ1)=>EM (BO asg body (ks.map C6) (Bj d vs ρ1))
 | _=>FH f vs asg body ρ
section
variable {X:Cx}{M:Fm}{ρ ρ':Ae}{σ σ':St}{H H':Hp}{fps fps':AU}{vs is:List Nat}
def Xc {D:Ends}{r:Rs} (q:RsOk M D H fps (EM r)):OL r=true/\RsOk M D H fps r:=by
 unfold EM at q;by_cases h:OL r=true
 ·rw [if_pos h] at q;exact ⟨h,q⟩
 ·rw [if_neg h] at q;exact q.elim
def Xf {K:Frag}{Z:Addr->Prop}{b:Addr}{k:List Ax} (h:H b=some (.tup (k.map kV))):Own K H Z (C6 k) 0 (.ref b) []:=by
 unfold C6;rw [Own];exact ⟨b,_,rfl,h,by rw [Nd];exact XH _⟩
def Ni {ks:List (List Ax)}{ws:List V}{i:Nat}{p:List Ax×V} (h:(ks.zip ws)[i]?=some p):ks[i]?=some p.1/\ws[i]?=some p.2:=by
 rw [Zy] at h;exact h
def kH {g:TG}{asg:PV->Ae->Option Ae}{body:Fs}{f:Fx}{D:Ends} (hal:∀ i,M.al i=[]) (hv:∀ i∈vs,M.Ms i=false) (hg:Dd M [] is g asg) (hq:tS M (Iu f vs asg body) D σ H):
  Dx (EX M.K (tE M f vs)) g (tS M body) D σ H\/Dx (Vm X (tE M f vs)) g (tS M body) (EK X D) σ H:=by
 obtain ⟨ρ,fps,rep,q⟩:=id hq;unfold Iu at q;split at q
 ·rename_i ks xs d ρ1 ef
  right
  refine ⟨ρ,fps,rep,?_⟩;rw [ef];intro v H1 fps1 f1 k1 g1 rep1 o1 t1;obtain ⟨fps2,k2,r2,o2⟩:=Rep.seen rep k1 g1 rep1 o1 t1 hal hv;obtain ⟨ne,q⟩:=Xc q;have q2:=RsOk.from k2 q;obtain ⟨a,ws,rfl,en,hr,nz,ol⟩:=o2.dcl0;have hn:∀ i,a∉fps2 i:=λ i z=>nz (.inr ⟨i,z⟩);have lz:(ks.zip ws).length=(ks.map C6).length:=by rw [Mu,A8];have:=ol.length;omega
  refine ⟨a,ks.zip ws,rfl,?_⟩;rcases hr with hr | ⟨o,hr⟩
  ·refine .inl ⟨hr,λ o hX=>?_⟩;have up:∀ b u,H1 b=some u->b≠a->Ap H1 a (.frz o (.dT (ks.zip ws))) b=some u:=λ b u hb e=>by rw [AE e];exact hb
   refine GD (Pq:=λ H fps=>H a=some (.frz o (.dT (ks.zip ws)))/\∀ i,a∉fps i) (els:=ks.map C6) hg (λ _ ks p=>?_) (λ {H fps i} p h=>⟨p.1,by rw [lz];exact h⟩) (λ {H fps i} p h=>⟨p.1,by rw [lz];exact h⟩) (λ {ρ σ H fps i x H'} _ p h y=>?_) (r2.rdAt up (.inl hr) (.inr ⟨o,Bp⟩) hn) ⟨Bp,hn⟩ (RsOk.known hr hn hX ne q2)
   ·have e:=ks.keep a _ p.1 λ ⟨i,z⟩=>p.2 i z;refine ⟨e,λ i z=>?_⟩;rcases ks.sub i a z with ⟨j,z⟩ | z
    ·exact p.2 j z
    ·rw [p.1] at z;cases z
   ·obtain ⟨rfl,b,p',rfl,hp,hb⟩:=y;refine ⟨λ _ _ h=>h,C6 p'.1,?_,Xf hb⟩;rw [C5,(Ni hp).1];rfl
  ·refine .inr ⟨o,hr,?_⟩;refine GD (Pq:=λ H fps=>H a=some (.frz o (.dT (ks.zip ws)))/\∀ i,a∉fps i) (els:=ks.map C6) hg (λ _ ks p=>?_) (λ {H fps i} p h=>⟨p.1,by rw [lz];exact h⟩) (λ {H fps i} p h=>⟨p.1,by rw [lz];exact h⟩) (λ {ρ σ H fps i x H'} _ p h y=>?_) r2 ⟨hr,hn⟩ q2.thaw0
   ·have e:=ks.keep a _ p.1 λ ⟨i,z⟩=>p.2 i z;refine ⟨e,λ i z=>?_⟩;rcases ks.sub i a z with ⟨j,z⟩ | z
    ·exact p.2 j z
    ·rw [p.1] at z;cases z
   ·obtain ⟨rfl,b,p',rfl,hp,hb⟩:=y;refine ⟨λ _ _ h=>h,C6 p'.1,?_,Xf hb⟩;rw [C5,(Ni hp).1];rfl
 ·left
  exact SU hal hv hg ⟨ρ,fps,rep,q⟩
def K7 (f:Fx) (vs:List Nat) (asg:PV->Ae->Option Ae) (body:Fs):Fs:=λ ρ=>match f ρ with
 | .ok (.dcl _ xs,d,ρ1)=>EM (BO asg body xs (Bj d vs ρ1))
 | _=>.no
def kI {g:TG}{asg:PV->Ae->Option Ae}{body:Fs}{f:Fx}{D:Ends} (hal:∀ i,M.al i=[]) (hv:∀ i∈vs,M.Ms i=false) (hg:Dd M [] is g asg) (hq:tS M (K7 f vs asg body) D σ H):
  Dx (Vn X (VB (tE M f vs))) g (tS M body) (EK X D) σ H:=by
 obtain ⟨ρ,fps,rep,q⟩:=id hq;unfold K7 at q;split at q
 ·rename_i ks xs d ρ1 ef;refine ⟨ρ,fps,rep,?_⟩;rw [ef];intro v H1 fps1 f1 k1 g1 rep1 o1 t1;obtain ⟨fps2,k2,r2,o2⟩:=Rep.seen rep k1 g1 rep1 o1 t1 hal hv;obtain ⟨ne,q⟩:=Xc q;obtain ⟨a,ws,rfl,en,hr,nz,ol⟩:=o2.dcl0;refine ⟨a,ks.zip ws,rfl,hr,λ vw hvw=>?_⟩;have gr:=Ea (o:=.ext λ h=>h.IsValuesView vw a) hvw;have kv:KS M H1 fps2 (Ap H1 vw (.ext λ h=>h.IsValuesView vw a)) fps2:=(KD.grow gr).ks;have q2:=RsOk.from (k2.trans kv) q;have r3:=r2.grow gr;have o3:=kv.stay0 r2 o2;obtain ⟨a',ws',ea,en',hr',nz',ol'⟩:=o3.dcl0;cases ea;have hn:∀ i,a∉fps2 i:=λ i z=>nz (.inr ⟨i,z⟩);have lz:(ks.zip ws').length=xs.length:=by rw [Mu];have:=ol'.length;omega
  have va:vw≠a:=λ z=>by rw [z] at hvw;exact Rd.ne hr hvw
  refine ⟨vw,a,ks.zip ws',rfl,Bp,?_⟩;rcases hr' with hr' | ⟨o,hr'⟩
  ·refine .inl ⟨hr',λ o hX=>?_⟩;let H2:=Ap H1 vw (.ext λ h=>h.IsValuesView vw a);have up:∀ b u,H2 b=some u->b≠a->Ap H2 a (.frz o (.dT (ks.zip ws'))) b=some u:=λ b u hb e=>by rw [AE e];exact hb
   refine GD (Pq:=λ H fps=>H a=some (.frz o (.dT (ks.zip ws')))/\(∀ i,a∉fps i)/\OwnL M.K H (Zf M fps) xs 0 ws' []) (els:=xs) hg (λ {ρ σ H fps H' fps'} r ks p=>?_) (λ {H fps i} p h=>⟨p.1,by rw [lz];exact h⟩) (λ {H fps i} p h=>⟨p.1,by rw [lz];exact h⟩) (λ {ρ σ H fps i x H'} _ p h y=>?_) (r3.rdAt up (.inl hr') (.inr ⟨o,Bp⟩) hn) ⟨Bp,hn,OwnL.rdAt up (.inl hr') (.inr ⟨o,Bp⟩) xs 0 ws' [] Gg ol'⟩ (RsOk.known hr' hn hX ne q2)
   ·have e:=ks.keep a _ p.1 λ ⟨i,z⟩=>p.2.1 i z;refine ⟨e,λ i z=>?_,?_⟩
    ·rcases ks.sub i a z with ⟨j,z⟩ | z
     ·exact p.2.1 j z
     ·rw [p.1] at z;cases z
    ·exact OwnL.move ks.keep (λ b ⟨i,hb⟩=>⟨.inr ⟨i,hb⟩,r.lsts hb⟩) (λ b hb nzb z=>by
      rcases z with z | ⟨i,z⟩
      ·exact nzb (.inl z)
      ·rcases ks.sub i b z with z | z
       ·exact nzb (.inr z)
       ·exact hb z) xs 0 ws' [] (λ _ z=>nomatch z) p.2.2
   ·obtain ⟨rfl,p',rfl,hp⟩:=y;exact ⟨λ _ _ h=>h,p.2.2.get (Ni hp).2⟩
  ·refine .inr ⟨o,hr',?_⟩;refine GD (Pq:=λ H fps=>H a=some (.frz o (.dT (ks.zip ws')))/\(∀ i,a∉fps i)/\OwnL M.K H (Zf M fps) xs 0 ws' []) (els:=xs) hg (λ {ρ σ H fps H' fps'} r ks p=>?_) (λ {H fps i} p h=>⟨p.1,by rw [lz];exact h⟩) (λ {H fps i} p h=>⟨p.1,by rw [lz];exact h⟩) (λ {ρ σ H fps i x H'} _ p h y=>?_) r3 ⟨hr',hn,ol'⟩ q2.thaw0
   ·have e:=ks.keep a _ p.1 λ ⟨i,z⟩=>p.2.1 i z;refine ⟨e,λ i z=>?_,?_⟩
    ·rcases ks.sub i a z with ⟨j,z⟩ | z
     ·exact p.2.1 j z
     ·rw [p.1] at z;cases z
    ·exact OwnL.move ks.keep (λ b ⟨i,hb⟩=>⟨.inr ⟨i,hb⟩,r.lsts hb⟩) (λ b hb nzb z=>by
      rcases z with z | ⟨i,z⟩
      ·exact nzb (.inl z)
      ·rcases ks.sub i b z with z | z
       ·exact nzb (.inr z)
       ·exact hb z) xs 0 ws' [] (λ _ z=>nomatch z) p.2.2
   ·obtain ⟨rfl,p',rfl,hp⟩:=y;exact ⟨λ _ _ h=>h,p.2.2.get (Ni hp).2⟩
 ·exact q.elim
end
section
variable {pg:AA}{wd:A4}{Ar:BD}{Er:Ad->Ai->Prop}{st:Ai}{d:Addr}{es:Array Ef}{ep:Nat}
def yW {b:Addr}{Qv:Bool->Ai->Prop} (hT:st.TypeIs (.ref b) "tuple") (q:Qv false st):Ak (Av pg wd) Ar (Builtin.Dict.quietEq (.ref b)) Qv Er st:=by
 delta Builtin.Dict.quietEq;refine Ag (NA hT F.slot_tuple_eq.lookup ?_);exact Ao q
def kX {nm:String}{Qv:Array Ef->Ai->Prop} (x:RawD st.heap d es ep) (ht:∀ e∈es.toList,∃ b,e.key=.ref b/\st.TypeIs (.ref b) "tuple") (hh:∀ e∈es.toList,¬ (es.filter (·.hash == e.hash)).size > 1) (q:Qv es st):
  Ak (Av pg wd) Ar (UW nm d) Qv Er st:=by
 obtain ⟨o,e1,c1,e2⟩:=id x;delta UW;refine Ag (HC e1 e2 ?_);refine Ag ?_;rw [<- Array.forIn_toList];refine wpAny_forIn_list _ (λ rest _ s'=>s'=st/\∀ e∈rest,e∈es.toList) _ ?_ ?_ _ _ ⟨rfl,λ _ h=>h⟩
 ·rintro e rest b s' ⟨rfl,hr⟩;have he:=hr e AH;obtain ⟨b',ek,hT⟩:=ht e he;rw [ek];refine Ag (yW hT ?_);rw [if_pos (by decide),if_neg (hh e he)];exact Ao ⟨rfl,λ z hz=>hr z (AI _ hz)⟩
 ·rintro b s' ⟨rfl,_⟩;exact Ao q
end
def Z0:Ax->Bool
 | .inl _=>true
 | .inr _=>false
def Vk:Ax->Int
 | .inl i=>hashInt i
 | .inr _=>0
def GH (k:List Ax):Int:=reduceHash (Rl (k.map Vk))
def DN (ks:List (List Ax)):Bool:=(ks.all λ k=>k.all Z0) && (ks.all λ k=>decide ((ks.filter λ k'=>GH k' == GH k).length<=1))
theorem jD {P:AA}{w:A4}{k:List Ax} (h:k.all Z0=true):(FR (De P w)).hash k=GH k:=by
 show reduceHash (Rl (k.map (De P w).hash))=reduceHash (Rl (k.map Vk));congr 2;apply JC;intro x hx
 have:=jb8.mp h x hx
 cases x with
 | inl i=>rfl
 | inr x=>cases this
def ZG {pg:AA}{wd:A4}{Ar:BD}{Er:Ad->Ai->Prop}{st:Ai}{d:Addr}{es:Array Ef}{ep:Nat}{Qv:Ad->Ai->Prop} (nm:(d == EJ)=false) (x:RawD st.heap d es ep) (ne:es.size≠0) (hz:es.size<=Aw)
  (ht:∀ e∈es.toList,∃ b,e.key=.ref b/\∀ h':Heap,(∀ o,st.heap.get? b=some o->h'.get? b=some o)->Shared.TypeIs { st with heap:=h' } (.ref b) "tuple") (hh:∀ e∈es.toList,¬ (es.filter (·.hash == e.hash)).size > 1)
  (good:∀ h',(∀ b o,st.heap.get? b=some o->h'.get? b=some o)->(∃ o' ep',h'.get? st.heap.objs.size=some o'/\o'.ExactDict/\o'.data=.dict es ep')->Qv (.ref st.heap.objs.size) { st with heap:=h' }):
  Ak (Av pg wd) Ar (call (.type "dict") [.ref d]) Qv Er st:=by
 refine callType_codes (Q₁:=λ obj s₁=>obj=.ref st.heap.objs.size/\s₁={ st with heap:=st.heap.push { cls:=.type "dict",data:=.dict #[] } }) F.kt_called_dict (F.kt_typeCall_dict_1 _) F.entry_dict_init (kt_code_dict_new _ ⟨rfl,rfl⟩) ?_;rintro obj s₁ ⟨rfl,rfl⟩;obtain ⟨o,e1,c1,e2⟩:=id x;have hl:=AO e1;have hdo:st.heap.objs.size≠d:=λ e=>by rw [e] at hl;exact DK _ hl
 have kp:∀ b ob,st.heap.get? b=some ob->(st.heap.push { cls:=.type "dict",data:=.dict #[] }).get? b=some ob:=λ b ob e=>Bb _ e;have e1':=kp d o e1;have hN:(st.heap.push { cls:=.type "dict",data:=.dict #[] }).get? st.heap.objs.size=some { cls:=.type "dict",data:=.dict #[] }:=BL _ rfl;have tyN:Shared.TypeIs { st with heap:=st.heap.push { cls:=.type "dict",data:=.dict #[] } } (.ref st.heap.objs.size) "dict" := ⟨_,hN,rfl⟩
 have tyO:Shared.TypeIs { st with heap:=st.heap.push { cls:=.type "dict",data:=.dict #[] } } (.ref d) "dict" := ⟨o,e1',c1.1⟩
 refine ⟨tyN,F.args_dict_init_2 _ _,?_⟩;unfold vl9.«dict.__init__»;refine Ag ?_;unfold Builtin.Dict.selfAndRest;refine Ag (Rg tyN ?_);show Ak _ _ (pure (st.heap.objs.size,[Value.ref d])) _ _ _;refine Ao ?_;show Ak _ _ (Builtin.Dict.updateFrom "dict.__init__" st.heap.objs.size (.ref d) [] .none) _ _ _;unfold Builtin.Dict.updateFrom;refine Ag (wpAny_typeOf tyO ?_);rw [if_neg (by decide)];refine Ag ?_;unfold Builtin.Dict.merge;refine Ag ?_;unfold Builtin.Dict.readDirectly;refine Ag (L7 tyO isSubtype_dict_dict ?_);simp only [Bool.not_true,GR,if_false];refine Ag (NA tyO F.slot_dict_iter.lookup (Ao ?_));simp only [beq_self_eq_true,if_true];refine Ag (Ao ?_);show Ak _ _ (Builtin.Dict.mergeDict "dict.__init__" st.heap.objs.size d) _ _ _;unfold Builtin.Dict.mergeDict;rw [if_neg (by simpa using hdo)];unfold L9;rw [if_neg (by rw [nm];exact Cy)];refine Ag (Ao ?_);refine Ag (HC e1' e2 ?_);have few:(decide (es.size<=8) && es.all λ e=>(keyPart e.key).isSome)=false:=by
  have:(es.all λ e=>(keyPart e.key).isSome)=false:=by
   rw [YZ];intro h;have hm:es[0]'(by omega)∈es.toList:=by simp
   obtain ⟨b,ek,_⟩:=ht _ hm
   have:=(Array.all_eq_true.mp h) 0 (by omega)
   rw [ek] at this;cases this
  rw [this,Pb]
 dsimp only;rw [few];simp only [Bool.not_false,if_true];refine Ag (HC hN rfl ?_);simp only [Array.isEmpty_empty,if_true];refine Ag (kX (x.to λ o e=>kp d o e) (λ e he=>?_) hh ?_)
 ·obtain ⟨b,ek,hT⟩:=ht e he;exact ⟨b,ek,hT _ λ o e=>kp b o e⟩
 ·have nem:(!es.isEmpty)=true:=by
   cases he:es.isEmpty with
   | false=>rfl
   | true=>exact absurd (by rw [Array.isEmpty_iff.mp he];rfl) ne
  rw [if_pos nem];refine Ag (wpAny_updateDictKeysTo hN rfl (Ao ?_) (by omega));show Ak _ _ (Builtin.Dict.addKeywords st.heap.objs.size [] >>= _) _ _ _;refine Ag (Ao (Ao ⟨rfl,good _ (λ b ob e=>?_) ⟨_,_,Ky _ hN (Obj.isFreed_of_dict (Obj.data_mapDictKeys rfl _)),?_,Obj.data_mapDictKeys rfl _⟩⟩))
  ·have hb:=AO e;rw [NH _ _ (E7 hb)];exact kp b ob e
  ·exact Obj.ExactDict.mapDictKeys ⟨rfl,rfl,rfl⟩ _
theorem Uj {α β:Type}{R S:α->β->Prop}:∀ {xs:List α}{ys:List β},FP R xs ys->(∀ x y,R x y->S x y)->FP S xs ys
 | _,_,.nil,_=>.nil
 | _,_,.cons h t,f=>.cons (f _ _ h) (Uj t f)
variable {X:Cx}
def wI:zkg X (.type "dict") (λ xs H Q=>∃ a kvs,xs=[.ref a]/\Rd H a (.dT kvs)/\kvs≠[]/\DN (kvs.map (·.1))=true/\∀ l,H l=none->Q (.ref l) (Ap H l (.dT kvs))):=by
 intro pins s σ H xs us Q I r h;obtain ⟨a,kvs,rfl,rd,ne,dk,q⟩:=h;obtain ⟨u,rfl,rx⟩:=GJ r;cases rx;obtain ⟨hz,nm,ys,pr,o,es,ep,h1,h2,h3,h4,h5⟩:=(show zxq X.prog X.w H s.heap a (.dT kvs) from Rd.ok rd I.hok)
 have ln:kvs.length=ys.length:=Qf pr;have hl:es.size=ys.length:=by rw [<- IP,h4,A8]
 have kk:ys.map (·.1)=kvs.map (·.1):=by
  clear h4 h5 ln hl hz dk ne q rd h1 h2 h3;induction pr with
  | nil=>rfl
  | cons x _ ih=>rw [BF,BF,ih,x.1]
 unfold DN at dk;rw [Ba,jb8,jb8,<- kk] at dk;have hash:∀ y∈ys,(Kl (FR (De X.prog X.w)) y).hash=GH y.1:=λ y hy=>jD (dk.1 _ (jd1.mpr ⟨y,hy,rfl⟩));refine ZG nm ⟨o,h1,h2,h3⟩ (λ z=>ne (je9.mp (by omega))) (by omega) (λ e he=>?_) (λ e he=>?_) λ h' kp ⟨o',ep',e1,c1,d1⟩=>?_
 ·rw [h4] at he;obtain ⟨y,hy,rfl⟩:=jd1.mp he;obtain ⟨i,hi,ei⟩:=JD hy;have hk:kvs[i]?=some (kvs[i]'(by omega)):=BW _;obtain ⟨y',hy',hp⟩:=Qe pr hk;rw [BW hi,ei] at hy';cases hy';obtain ⟨_,its,_,ot,et,ct⟩:=(show zxq X.prog X.w H s.heap y.2.1 (.tup _) from I.hok _ _ hp.2.1)
  exact ⟨y.2.1,rfl,λ h' k=>⟨ot,k ot et,ct.1⟩⟩
 ·rw [h4] at he;obtain ⟨y,hy,rfl⟩:=jd1.mp he;have d2:=of_decide_eq_true (dk.2 _ (jd1.mpr ⟨y,hy,rfl⟩));rw [<- IP,Array.toList_filter,h4,Pd,A8];rw [Pd,A8] at d2;have ef:ys.filter ((λ e:Ef=>e.hash == (Kl (FR (De X.prog X.w)) y).hash) ∘ Kl (FR (De X.prog X.w)))=ys.filter ((λ k'=>GH k' == GH y.1) ∘ λ x=>x.1):=Pf λ z hz'=>by
   show ((Kl (FR (De X.prog X.w)) z).hash == _)=(GH z.1 == GH y.1);rw [hash z hz',hash y hy]
  rw [ef];omega
 ·have fr:H s.heap.objs.size=none:=I.hok.fresh (AB _);have pr':FP (λ (p:List Ax×V) (q:List Ax×Addr×Ad)=>p.1=q.1/\Ap H s.heap.objs.size (.dT kvs) q.2.1=some (.tup (p.1.map kV))/\RelV p.2 q.2.2) kvs ys:=by
   have up:∀ b xs,H b=some (.tup xs)->Ap H s.heap.objs.size (.dT kvs) b=some (.tup xs):=λ b xs e=>by rw [AE (JO e fr)];exact e
   exact Uj pr λ p q x=>⟨x.1,up _ _ x.2.1,x.2.2⟩
  refine ⟨.ref s.heap.objs.size,_,I.laid (t':=s.toks) kp (AB _) (show zxq X.prog X.w (Ap H s.heap.objs.size (.dT kvs)) h' s.heap.objs.size (.dT kvs) from ⟨hz,?_,ys,pr',o',es,ep',e1,c1,d1,h4,h5⟩),rfl,q _ fr⟩;have big:=Inv.big I;exact beq_false_of_ne (E7 big)
section
variable {X:Cx}{M:Fm}{ρ:Ae}{σ:St}{H H':Hp}{fps:AU}{vs:List Nat}{fa:Fa}{Q:VK}{F:List Addr}{e:Expr}{es:List Expr}{p pos:Pos}
def vh {ks:List (List Ax)}{xs:List PV}{ws:List V} (h:BB M H fps vs F (.dcl ks xs) 1 Q) (en:ks.length=xs.length) (o:OwnL M.K H (Zv M vs fps) xs 0 ws []) {p:Addr} (hp:H p=none):Q (.ref p) (Ap H p (.dT (ks.zip ws))):=by
 refine h (.ref p) _ [p] (Ea hp) ?_ λ a ha=>.inr (by rw [jb6.mp ha];exact hp);rw [Own];refine ⟨p,ws,rfl,en,.inr ⟨(by decide),[],Bp,rfl,Gg,?_⟩⟩;rw [Ls];exact OwnL.move (S:=λ _=>False) (λ a u ha _=>Ea hp a u ha) (λ _ z=>z.elim) (λ a hd nz z=>z.elim nz λ z=>hd (by rw [jb6.mp z];exact hp)) xs 0 ws [] (λ _ z=>nomatch z) o
def Lr:List (PV×Nat)->Option (PV×Nat)
 | [(.dcl ks xs,_)]=>if DN ks=true/\ks≠[] then some (.dcl ks xs,1) else none
 | _=>none
def Xm {ks:List (List Ax)}{ws:List V} (h:ks.length=ws.length):(ks.zip ws).map (·.1)=ks:=by
 rw [List.map_fst_zip (by omega)]
def jR (hK:M.K=X.K) (hg:Gl X "dict") (hm:X.mg "dict" = none) (ha:PA X (e::es) (tL M fa vs)) (he:AK (e::es) X.env=(false,eval e X.env)::AK es X.env) (hpl:(Dh pos (AK es X.env)).any (·.1)=false):
  PE X (.Call (.Name "dict" p) (e::es) [] pos) (tE M (An Lr fa) vs):=by
 refine BQ (U6 wI hg hm rfl ha (he:=he) (hpl:=hpl)) λ σ H Q h=>Jd (λ xs z c ws H fps fp Q ho tm nz zd lf=>?_) h;unfold Lr at ho;split at ho
 ·rename_i ks xs d;split at ho
  ·rename_i hk;cases ho;obtain ⟨v,r,f1,f2,rfl,rfl,_,o1,h2⟩:=tm;obtain ⟨rfl,rfl⟩:=h2;obtain ⟨a,us,rfl,en,hr,_,ol⟩:=(cold (fp:=f1) o1 λ a ha=>nz a (BU _ ha)).dcl0;have el:ks.length=us.length:=by rw [en,ol.length]
   refine ⟨a,_,rfl,hr,λ z=>hk.2 ?_,by rw [Xm el];exact hk.1,λ l hl=>vh lf en ol hl⟩
   have:=Xm el
   rw [z] at this;exact this.symm
  ·cases ho
 ·cases ho
end
def Ub (lo:Int) (n:Nat):It:=⟨λ i _=>i < n,λ i H v H'=>H'=H/\v=.int (lo - (i:Nat)),λ i _=>n<=i⟩
def yt {P:AA}{w:A4}{K:Frag}{tg:Expr} (it:Addr) (lo:Int) (n:Nat):Turn P w K tg (Ub lo n) [it] it (λ i h=>N0 h it (lo + (i:Nat) * (-1)) ((n:Int) - (i:Nat)) (-1)) where
 mem:=by simp
 obj:=λ i h st b hb=>by
  have e:b=it:=by simpa using hb
  subst e;exact ⟨_,st,λ v z=>by
   have z':Data.fields _=Data.cell v:=z;cases z'⟩
 keep:=λ i h h' st k=>k it (by simp) _ st
 item:=by
  intro X hP hw hK hc i pins s σ H E I hf st hg;subst hP hw hK;obtain ⟨f0,f1,f2,f3,f4,f5⟩:=hf it (by simp);have W:=Walks.range (prog:=X.prog) (w:=X.w) (I.ok.hd hc) it lo (-1) n;refine W.item i s _ _ hg st λ v h' tk hv st' kk=>?_;obtain ⟨t,rfl⟩:=hv;have I1:Inv X pins σ H { s with heap:=h',toks:=tk }:=I.turned (λ b o hb e=>kk b o (by simpa using hb) e) f0 f1 f3 f4 f5;refine ⟨_,rfl,IE (s:={ s with heap:=h',toks:=tk }) (n := "range_iterator") st' rfl rfl (by decide) ⟨.int (lo - i),H,I1,⟨t,?_⟩,⟨rfl,rfl⟩,st',λ b hb=>(hf b hb).1⟩⟩;rw [show lo + (i:Int) * -1=lo - i by omega]
 done:=by
  intro X hP hw hK hc i pins s σ H E I hf st hg;subst hP hw hK;obtain ⟨f0,f1,f2,f3,f4,f5⟩:=hf it (by simp);exact wpAny_pyNext_range_end (I.ok.hd hc) st (by have:n<=i:=hg;omega) λ h' eb=>⟨rfl,I.turned (t':=s.toks) (λ b o hb e=>eb b o hb e) f0 f1 f3 f4 f5⟩
 self:=λ _ _ _ _ _ st h=>wpAny_pyIter_rangeiter st h
section
variable {X:Cx}{tg:Expr}
def jb {pins:List (Addr×Obj)}{σ:St}{H:Hp}{s:Ai}{R:It->Hp->Prop}{E:Ad->Ai->Prop}{lo hi:Int}{t u v:Tok}{tk:Nat} (I:Inv X pins σ H s) (h1:-(2 ^ 62)<=lo) (h2:lo < 2 ^ 62) (h3:-(2 ^ 62)<=hi) (h4:hi < 2 ^ 62)
  (q:R (Ub lo (lo - hi).toNat) H):Ak (Av X.prog X.w) X.A (pyIter (.ref s.heap.objs.size)) (TZ X pins σ tg R) E { s with heap:=s.heap.push { cls:=.type "range",data:=.fields #[.int lo t,.int hi u,.int (-1) v] },toks:=tk }:=by
 refine wpAny_pyIter_range (IsRange.new ..) (PySem.W.small_down h1 h2 h3 h4) ?_;have I1:Inv X pins σ H { s with heap:=s.heap.push { cls:=.type "range",data:=.fields #[.int lo t,.int hi u,.int (-1) v] },toks:=tk }:=I.kept λ b o e=>Bb _ e;refine ⟨(s.heap.push { cls:=.type "range",data:=.fields #[.int lo t,.int hi u,.int (-1) v] }).objs.size,[(s.heap.push { cls:=.type "range",data:=.fields #[.int lo t,.int hi u,.int (-1) v] }).objs.size],_,_,H,rfl,
  I1.kept (t':=tk) λ b o e=>Bb _ e,yt _ lo (lo - hi).toNat,?_,λ b hb=>?_,q⟩
 ·have e1:lo + ((0:Nat):Int) * (-1)=lo:=by simp
  have e2:(((lo - hi).toNat:Nat):Int) - ((0:Nat):Int)=Builtin.Range.rangeSize lo hi (-1):=by rw [PySem.W.rangeSize_downNat];simp
  show N0 _ _ (lo + ((0:Nat):Int) * (-1)) ((((lo - hi).toNat:Nat):Int) - ((0:Nat):Int)) (-1);rw [e1,e2];exact BL _ rfl
 ·have e:b=(s.heap.push { cls:=.type "range",data:=.fields #[.int lo t,.int hi u,.int (-1) v] }).objs.size:=by simpa using hb
  subst e;exact I1.fpOk (AB _) (I1.hok.fresh (AB _))
def Vl (ta:TA):TI:=λ σ H R=>ta σ H λ vs H1=>∃ i j:Int,vs=[.int i,.int j,.int (-1)]/\(-(2 ^ 40)<=i/\i < 2 ^ 40/\-(2 ^ 40)<=j/\j < 2 ^ 40)/\R (Ub i (i - j).toNat) H1
theorem kh {e:Expr}{es:List Expr}{ta:TA}{p pos:Pos} (hg:Gl X "range") (hm:X.mg "range" = none) (ha:PA X (e::es) ta) (he:AK (e::es) X.env=(false,eval e X.env)::AK es X.env) (hpl:(Dh pos (AK es X.env)).any (·.1)=false):
  PI X tg (.Call (.Name "range" p) (e::es) [] pos) (Vl ta):=by
 intro pins s σ H R I h;refine Call_ (FK I hg hm boot_range (HF (Az (ha pos pins s σ H _ I h) λ us s1 ⟨vs,H1,I1,r1,q1⟩=>?_) he hpl));obtain ⟨i,j,e,⟨q1,q2,q3,q4⟩,q⟩:=q1;subst e;cases r1 with
 | cons r rr=>
  cases rr with
  | cons r' rr=>
   cases rr with
   | cons r'' rr=>
    cases rr;obtain ⟨t,rfl⟩:=r;obtain ⟨t',rfl⟩:=r';obtain ⟨t'',rfl⟩:=r'';exact call_range_3 (by decide) (jb I1 (by omega) (by omega) (by omega) (by omega) q) (.inl (PyProof.noPylong_small (by omega)))
end
section
variable {M:Fm}{ρ:Ae}{σ:St}{H:Hp}{fps:AU}{vs is:List Nat}
def GG (i:Int) (n:Nat):List PV:=(A6 n).map λ (k:Nat)=>PV.int (i - (k:Int))
def K2:List (PV×Nat)->Option (Int×Nat)
 | [(.int i,_),(.int j,_),(.int k,_)]=>if k=-1/\-(2 ^ 40)<=i/\i < 2 ^ 40/\-(2 ^ 40)<=j/\j < 2 ^ 40 then some (i,(i - j).toNat) else none
 | _=>none
def Jg (fa:Fa) (asg:PV->Ae->Option Ae) (body:Fs):Fs:=λ ρ=>match fa ρ with
 | .ok (xs,ρ1)=>(match K2 xs with
  | some (i,n)=>BO asg body (GG i n) ρ1
  | none=>.no)
 | .exc c=>.exc c
 | .no=>.no
theorem vU {g:TG}{asg:PV->Ae->Option Ae}{body:Fs}{fa:Fa}{D:Ends} (hg:Dd M [] is g asg) (hq:tS M (Jg fa asg body) D σ H):Dx (Vl (tL M fa vs)) g (tS M body) D σ H:=by
 obtain ⟨ρ,fps,rep,q⟩:=hq;refine ⟨ρ,fps,rep,?_⟩;unfold Jg at q;cases ef:fa ρ with
 | no=>rw [ef] at q;exact q
 | exc c=>rw [ef] at q;exact λ H' fps' k=>q _ H' fps' k.ks
 | ok p=>
  obtain ⟨xs,ρ1⟩:=p;rw [ef] at q;intro ws H1 fps1 f1 k1 g1 rep1 o1 t1;dsimp only at q;cases ee:K2 xs with
  | none=>rw [ee] at q;exact q.elim
  | some r=>
   obtain ⟨ii,n⟩:=r;rw [ee] at q;dsimp only at q;unfold K2 at ee;split at ee
   ·rename_i i0 d1 j d2 k d3;split at ee
    ·rename_i hc;cases ee;obtain ⟨rfl,hb⟩:=hc;obtain ⟨v1,r1,fa1,fb1,rfl,rfl,_,h1,h2⟩:=o1;obtain ⟨v2,r2,fa2,fb2,rfl,rfl,_,h3,h4⟩:=h2;obtain ⟨v3,r3,fa3,fb3,rfl,rfl,_,h5,h6⟩:=h4;obtain ⟨rfl,rfl⟩:=h6;rw [Own] at h1 h3 h5;obtain ⟨rfl,_⟩:=h1;obtain ⟨rfl,_⟩:=h3;obtain ⟨rfl,_⟩:=h5;refine ⟨ii,j,rfl,hb,?_⟩;have hl:(GG ii (ii - j).toNat).length=(ii - j).toNat:=by unfold GG;rw [A8,Ek]
     refine GD (Pq:=λ _ _=>True) (els:=GG ii (ii - j).toNat) hg (λ _ _ _=>trivial) (λ {H fps i} _ h=>by rw [hl] at h;exact h) (λ {H fps i} _ h=>by rw [hl] at h;exact h) (λ {ρ σ H fps i x H'} _ _ h y=>?_) rep1 trivial (RsOk.from k1.ks q);obtain ⟨rfl,rfl⟩:=y;refine ⟨λ _ _ h=>h,.int (ii - (i:Nat)),?_,by rw [Own];exact ⟨rfl,rfl⟩⟩;rw [hl] at h;unfold GG;rw [C5,Mx h];rfl
    ·cases ee
   ·cases ee
end
abbrev D2:=Fx×List Nat
def DO (d:Expr->Option D2):List Expr->Option (Fa×List Nat)
 | []=>some (Ac,[])
 | e::es=>match d e,DO d es with
  | some (f,v),some (fa,u)=>some (Af f fa,v++u)
  | _,_=>none
def OH (d:Expr->Option D2):List Expr->Option D2
 | []=>none
 | [e]=>d e
 | e::es=>match d e,OH d es with
  | some (f,v),some (g,u)=>some (Eb f g,v++u)
  | _,_=>none
def O2 (d:Expr->Option D2):List Expr->Option D2
 | []=>none
 | [e]=>d e
 | e::es=>match d e,O2 d es with
  | some (f,v),some (g,u)=>some (Cc f g,v++u)
  | _,_=>none
def M4:Const->Option D2
 | .int i=>some (bC (.int i),[])
 | .bool b=>some (bC (.bl b),[])
 | .none=>some (bC .non,[])
 | .str x=>some (bC (.str x),[])
 | _=>none
def Jw (x:Str):Option String:=if x = "int" then some "int" else if x = "bool" then some "bool" else if x = "str" then some "str" else if x = "list" then some "list" else if x = "tuple" then some "tuple" else if x = "dict" then some "dict" else none
def R8 (x:Str):Option (List (PV×Nat)->Option (PV×Nat)):=
 if x = "len" then some GA else if x = "all" then some EH else if x = "max" then some LX else if x = "min" then some Hc else if x = "sum" then some Hb else if x = "list" then some Ke else if x = "dict" then some Lr else none
def Fh (scope sc:Bv):Bv:={ scope with names:=scope.names.map λ (n,k)=>if (k == .free && sc.kind == .function && sc.names.lookup n == some .cell) then (n,.cell) else (n,k) }
def Tb (i:Nat):Str:=⟨#[2000000 + i]⟩
def IF (sc':Bv):Nat->List Str->List Str
 | _,[]=>[]
 | i,x::r=>(if CJ sc' x .cell || CJ sc' x .free then x else Tb i)::IF sc' (i + 1) r
def Nc:List Expr->Option (List Str)
 | []=>some []
 | .Name x _::r=>(Nc r).map (x::·)
 | _=>none
def NW (n:Nat):Expr->Option (List Str×(PV->Ae->Option Ae))
 | .Name x _=>some ([x],asgN n)
 | .Tuple es _ _=>(Nc es).map λ xs=>(xs,asgT (K9 n xs.length))
 | _=>none
def Mz:Expr->Bool
 | .Tuple _ _ _=>true
 | _=>false
def Bc (S:Sx) (scope:Bv) (xs:List Str) (vI:List Nat):Sx:=⟨IF (Fh scope S.sc) 0 S.N++xs,Fh scope S.sc,S.ms,(A6 S.N.length).map S.alF++AL xs.length vI,S.Γ,S.Γm,false,S.xc,S.pn⟩
def MT (S:Sx) (scope:Bv) (xs:List Str) (vI:List Nat):Bool:=
 let S':=Bc S scope xs vI;decide (scope.kind=.function) && scope.names.all (λ x=>x.2 != .free || !(scope.names.contains (x.1,.cell))) && scope.names.all (λ x=>x.2 != .local || scope.names.lookup x.1 == some .local)
 && scope.names.all (λ x=>x.2 != .free || (S.sc.names.lookup x.1 == some .cell || S.sc.names.lookup x.1 == some .free))
 && (A6 S.N.length).all (λ i=>match S'.N[i]? with
  | some x=>!Dv S'.sc x || (decide (S.N[i]?=some x) && Dv S.sc x && scope.names.contains (x,.free) && !CJ S'.sc x .local)
  | none=>true)
 && decide S'.N.Nodup && xs.all (λ x=>CJ S'.sc x .local || (CJ S'.sc x .cell && scope.names.contains (x,.cell))) && decide (S.N.length≠0) && (S.ms.all λ i=>decide (i < S.N.length))
inductive Iw where
 | rng (en:List (PV×Nat)->Option (Int×Int)) (fa:Fa) (vs:List Nat)
 | seq (f:Fx) (vs:List Nat)
 | vw (v:Vw) (fa:Fa) (vs:List Nat)
def Iw.vs:Iw->List Nat
 | .rng _ _ _=>[]
 | .seq _ vs=>vs
 | .vw _ _ vs=>vs
def FY (tg:Expr):Iw->Bool
 | .vw .enm _ _=>Mz tg
 | .vw .zp _ _=>Mz tg
 | _=>true
def Fc (d:Expr->Option D2) (S:Sx) (it:Expr):Option Iw:=match it with
 | .Call (.Name x _) [a] [] _=>if x = "range" /\ S.glob "range" = true then (match DO d [a] with
   | some (fa,vs)=>some (.rng Bn fa vs)
   | none=>none) else if x = "reversed" /\ S.glob "reversed" = true then (match DO d [a] with
   | some (fa,vs)=>some (.vw .rev fa vs)
   | none=>none) else if x = "enumerate" /\ S.glob "enumerate" = true then (match DO d [a] with
   | some (fa,vs)=>some (.vw .enm fa vs)
   | none=>none) else (match d it with
   | some (f,vs)=>some (.seq f vs)
   | none=>none)
 | .Call (.Name x _) [a,b] [] _=>if x = "range" /\ S.glob "range" = true then (match DO d [a,b] with
   | some (fa,vs)=>some (.rng FG fa vs)
   | none=>none) else if x = "zip" /\ S.glob "zip" = true then (match DO d [a,b] with
   | some (fa,vs)=>some (.vw .zp fa vs)
   | none=>none) else (match d it with
   | some (f,vs)=>some (.seq f vs)
   | none=>none)
 | _=>match d it with
   | some (f,vs)=>some (.seq f vs)
   | none=>none
def LV (iw:Iw) (k:Nat) (asg:PV->Ae->Option Ae) (test:Fb) (elt:Fx):Fx:=match iw with
 | .rng en fa _=>CL en fa k asg test elt
 | .seq f _=>Cu f k asg test elt
 | .vw v fa _=>Dm v fa k asg test elt
def Be:Fb:=λ ρ=>.ok (true,ρ)
def OI (d:Expr->Option D2):List Expr->Option Fb
 | []=>some Be
 | [c]=>(d c).map λ p=>bT p.1
 | _=>none
def VT:Expr->Bool
 | .UnaryOp .USub c _=>(match c with
  | .Constant k _ _=>(match k with
   | .int i=>i == 1
   | _=>false)
  | _=>false)
 | _=>false
def bj {e:Expr} (h:VT e=true):∃ k p3 p4,e=.UnaryOp .USub (.Constant (.int 1) k p3) p4:=by
 unfold VT at h;split at h
 ·split at h
  ·split at h
   ·rename_i i
    have:i=1:=eq_of_beq h
    subst this;exact ⟨_,_,_,rfl⟩
   ·cases h
  ·cases h
 ·cases h
def GO:Expr->Option Str
 | .Name x _=>some x
 | _=>none
def Hr {e:Expr}{x:Str} (h:GO e=some x):∃ p,e=.Name x p:=by
 cases e <;> first | (cases h;exact ⟨_,rfl⟩) | (cases h)
def T9:Expr->Option Int
 | .Constant c _ _=>(match c with
  | .int i=>some i
  | _=>none)
 | _=>none
def qJ {e:Expr}{i:Int} (h:T9 e=some i):∃ k p,e=.Constant (.int i) k p:=by
 unfold T9 at h;split at h
 ·split at h
  ·cases h;exact ⟨_,_,rfl⟩
  ·cases h
 ·cases h
def VP (d:Sx->Expr->Option D2) (S:Sx) (a:Expr):Option Expr->Option Expr->Option Expr->Option D2
 | none,some hi,none=>match d S a,d S hi with
  | some (f,v),some (g,_)=>some (Dc f none (some g),v)
  | _,_=>none
 | some lo,none,none=>match d S a,d S lo with
  | some (f,v),some (g,_)=>some (Dc f (some g) none,v)
  | _,_=>none
 | some lo,some hi,none=>match d S a,d S lo,d S hi with
  | some (f,v),some (g,_),some (h,_)=>some (Dc f (some g) (some h),v)
  | _,_,_=>none
 | _,_,_=>none
def VQ (d:Sx->Expr->Option D2) (S:Sx) (a b:Expr):Option D2:=match b with
 | .Slice lo hi st _=>VP d S a lo hi st
 | b=>match GO a,T9 b with
  | some x,some i=>(match S.slot x with
   | some j=>if S.msF j=true then none else some (Ab Ay (Aa j) (bC (.int i)),(j::S.alF j)++[])
   | none=>none)
  | _,_=>match d S a,d S b with
   | some (f,v),some (g,u)=>if Lf b=true then some (Ab Ay f g,v++u) else none
   | _,_=>none
def VN (d:Expr->Option D2) (S:Sx) (e c:Expr):Option D2:=match d e with
 | some (f,v)=>if S.glob "isinstance" = true then (match c with
  | .Name T _=>(match Jw T with
   | some t=>if S.glob T=true then some (AN (CN t) f,v) else none
   | none=>none)
  | _=>none) else none
 | none=>none
def Sd (x:Str) (args:List Expr):Option Expr:=match args with
 | [c]=>(match c with
  | .Call f as ks _=>(match f,as,ks with
   | .Name y _,[a],[]=>if x = "list" /\ y = "reversed" then some a else none
   | _,_,_=>none)
  | _=>none)
 | _=>none
def jt {x:Str}{args:List Expr}{a:Expr} (h:Sd x args=some a):x = "list" /\ ∃ p pos,args=[.Call (.Name "reversed" p) [a] [] pos]:=by
 unfold Sd at h;split at h
 ·split at h
  ·split at h
   ·split at h
    ·rename_i hc;cases h;obtain ⟨rfl,rfl⟩:=hc;exact ⟨rfl,_,_,rfl⟩
    ·cases h
   ·cases h
  ·cases h
 ·cases h
def EZ:List Comprehension->Option (Expr×Expr×List Expr)
 | []=>none
 | g::r=>(match r with
  | []=>(match g with
   | ⟨tg,it,ifs,n⟩=>if n=0 then some (tg,it,ifs) else none)
  | _::_=>none)
def jB {gs:List Comprehension}{tg it:Expr}{ifs:List Expr} (h:EZ gs=some (tg,it,ifs)):gs=[⟨tg,it,ifs,0⟩]:=by
 unfold EZ at h;split at h
 ·cases h
 ·split at h
  ·split at h;split at h
   ·rename_i hn;cases h;subst hn;rfl
   ·cases h
  ·cases h
def VM (d:Expr->Option D2) (a:Expr) (ops:List E3) (bs:List Expr):Option D2:=match ops with
 | [op]=>(match bs with
  | [b]=>(match d a,d b,RB b op with
   | some (f,v),some (g,u),some o=>some (Ab o f g,v++u)
   | _,_,_=>none)
  | _=>none)
 | [op,op']=>(match bs with
  | [b,c]=>(match d a,d b,d c,Gk op,Gk op' with
   | some (f,_),some (g,_),some (h,_),some p,some q=>some (FF p q f g h,[])
   | _,_,_,_,_=>none)
  | _=>none)
 | _=>none
def Hm (d:Sx->Expr->Option D2) (S:Sx):Expr->Option D2
 | .Constant c _ _=>M4 c
 | .Name x _=>match S.slot x with
  | some i=>if S.msF i=true then none else some (Aa i,i::S.alF i)
  | none=>none
 | .BinOp a op b _=>match d S a,d S b,Vh b op with
  | some (f,v),some (g,u),some o=>some (Ab o f g,v++u)
  | _,_,_=>none
 | .IfExp t a b _=>match d S t,d S a,d S b with
  | some (c,_),some (f,v),some (g,u)=>some (Cd (bT c) f g,v++u)
  | _,_,_=>none
 | .UnaryOp op a _=>(match op with
  | .USub=>(match d S a with
   | some (f,v)=>some (AN Il f,v)
   | none=>none)
  | .Not=>(match d S a with
   | some (f,v)=>some (AN C2 f,v)
   | none=>none)
  | _=>none)
 | .BoolOp op es _=>(match op with
  | .And=>OH (d S) es
  | .Or=>O2 (d S) es)
 | .Compare a ops bs _=>VM (d S) a ops bs
 | .List es _=>match DO (d S) es with
  | some (fa,v)=>some (An Bm fa,v)
  | none=>none
 | .Tuple es _ _=>match DO (d S) es with
  | some (fa,v)=>some (An BK fa,v)
  | none=>none
 | .Subscript a b _=>VQ d S a b
 | .Call fn args ks _=>(match ks with
  | []=>(match GO fn with
   | some x=>(
     if x = "isinstance" then (match args with
      | [e,c]=>VN (d S) S e c
      | _=>none)
     else match Sd x args with
     | some a=>(match d S a with
      | some (f,v)=>if S.glob "list" = true/\S.glob "reversed" = true then some (AN RK f,v) else none
      | none=>none)
     | none=>match R8 x with
     | some o=>(match args with
      | e::es=>(match DO (d S) (e::es) with
       | some (fa,v)=>if S.glob x=true then some (An o fa,v) else none
       | none=>none)
      | []=>none)
     | none=>match S.Γ.lookup x with
      | some (false,_,F)=>(match args with
       | e::es=>(match DO (d S) (e::es) with
        | some (fa,v)=>if S.glob x=true then some (A9 F fa,v) else none
        | none=>none)
       | []=>none)
      | some (true,_,F)=>none
      | none=>none)
   | none=>none)
  | _::_=>none)
 | .ListComp elt gs scope _=>(match EZ gs with
  | some (tg,it,ifs)=>(match NW S.N.length tg,Fc (d S) S it with
    | some (xs,asg),some iw=>if MT S scope xs iw.vs=true/\FY tg iw=true then (match OI (d (Bc S scope xs iw.vs)) ifs,d (Bc S scope xs iw.vs) elt with
     | some t,some (g,vE)=>some (LV iw xs.length asg t g,iw.vs++vE.filter (λ i=>decide (i < S.N.length)))
     | _,_=>none) else none
    | _,_=>none)
  | none=>none)
 | _=>none
def Bu:Nat->Sx->Expr->Option D2
 | 0,_,_=>none
 | n + 1,S,e=>Hm (Bu n) S e
section
variable {X:Cx}{P:AA}{w:A4}{K:Frag}{mg:Str->Option Ad}{base:Heap}{lvl:Nat}{S:Sx}{Wx:St->Nat->Hp->Prop}{M:Fm}{f g:Fx}{vs vs':List Nat}{σ:St}{H:Hp}{Q:VK}
def kL {Q:Bool->Hp->Prop} (hq:tT M (bT (Eb f g)) σ H Q):Jz (tT M (bT f)) (tT M (bT g)) σ H Q:=by
 refine z7 ?_;have e:bT (Eb f g)=HX (bT f) (bT g):=by
  funext ρ;unfold bT Eb HX;dsimp only;cases f ρ with
  | no=>rfl
  | exc c=>rfl
  | ok p=>
   obtain ⟨x,d,ρ1⟩:=p;cases x with
   | bl b=>cases b <;> rfl
   | _=>rfl
 rw [<- e];exact hq
def zB {Q:Bool->Hp->Prop} (hq:tT M (bT (Cc f g)) σ H Q):Rp (tT M (bT f)) (tT M (bT g)) σ H Q:=by
 refine qw ?_;have e:bT (Cc f g)=Pu (bT f) (bT g):=by
  funext ρ;unfold bT Cc Pu;dsimp only;cases f ρ with
  | no=>rfl
  | exc c=>rfl
  | ok p=>
   obtain ⟨x,d,ρ1⟩:=p;cases x with
   | bl b=>cases b <;> rfl
   | _=>rfl
 rw [<- e];exact hq
def k6 {Q:Bool->Hp->Prop} (hq:tT M (bT (AN C2 f)) σ H Q):Jy (tT M (bT f)) σ H Q:=by
 refine zA ?_;have e:bT (AN C2 f)=HW (bT f):=by
  funext ρ;unfold bT AN HW;dsimp only;cases f ρ with
  | no=>rfl
  | exc c=>rfl
  | ok p=>
   obtain ⟨x,d,ρ1⟩:=p;cases x with
   | bl b=>cases b <;> rfl
   | _=>rfl
 rw [<- e];exact hq
def AQ (P:AA) (w:A4) (K:Frag) (mg:Str->Option Ad) (base:Heap) (lvl:Nat) (S:Sx) (e:Expr) (f:Fx) (vs:List Nat):Prop:=
 (∀ i∈vs,S.msF i=false)/\Fj e=true/\∀ {Wx} X M,XS X P w K mg base lvl S Wx->MS M K S Wx->PE X e (tE M f vs)/\PT X e (tT M (bT f))
def MS.v (m:MS M K S Wx) (h:∀ i∈vs,S.msF i=false):∀ i∈vs,M.Ms i=false:=λ i hi=>by rw [m.ms];exact h i hi
def MS.k (m:MS M K S Wx) (xs:XS X P w K mg base lvl S Wx):M.K=X.K:=m.K.trans xs.K.symm
def CM {e:Expr} (h1:∀ i∈vs,S.msF i=false) (h2:Fj e=true) (h3:∀ env whole,isTrue e env whole=(do let v<-whole;standAt e.pos;holding [v] (truthy v)))
  (h:∀ {Wx} X M,XS X P w K mg base lvl S Wx->MS M K S Wx->PE X e (tE M f vs)):AQ P w K mg base lvl S e f vs:=
 ⟨h1,h2,λ X M xs m=>⟨h X M xs m,Kf (xC (h X M xs m) λ wh=>h3 _ wh) λ σ H Q q=>Sr q⟩⟩
def Gx {vs vs':List Nat} (h1:∀ i∈vs,S.msF i=false) (h2:∀ i∈vs',S.msF i=false):∀ i∈vs++vs',S.msF i=false:=λ i hi=>(jd4.mp hi).elim (h1 i) (h2 i)
def kY {a b:Expr}{op:E3}{o:PV->Nat->PV->Nat->Option (PV×Nat)}{pos:Pos} (ho:RB b op=some o) (ga:AQ P w K mg base lvl S a f vs) (gb:AQ P w K mg base lvl S b g vs'):AQ P w K mg base lvl S (.Compare a [op] [b] pos) (Ab o f g) (vs++vs'):=by
 refine ⟨Gx ga.1 gb.1,rfl,λ X M xs m=>?_⟩;obtain ⟨r,hr,hn,hi⟩:=kT (X:=X) (M:=M) (f:=f) (g:=g) (vs:=vs) (vs':=vs') ho xs.room.units (m.v ga.1) (m.k xs);have ha:=(ga.2.2 X M xs m).1;have hb:=(gb.2.2 X M xs m).1;exact ⟨BQ (j6 hr ha hb hn) hi,Kf (kr hr ha hb hn) λ σ H Q q=>hi σ H _ (Sr q)⟩
def y3 {a b c:Expr}{op op':E3}{p q:Int->Int->Bool}{h:Fx}{v3:List Nat}{pos:Pos} (h1:Gk op=some p) (h2:Gk op'=some q) (ga:AQ P w K mg base lvl S a f vs) (gb:AQ P w K mg base lvl S b g vs') (gc:AQ P w K mg base lvl S c h v3):AQ P w K mg base lvl S (.Compare a [op,op'] [b,c] pos) (FF p q f g h) []:=by
 refine ⟨λ _ z=>(nomatch z),rfl,λ X M xs m=>?_⟩;have r1:=Yz (X:=X) h1;have r2:=Yz (X:=X) h2;have ha:=(ga.2.2 X M xs m).1;have hb:=(gb.2.2 X M xs m).1;have hc:=(gc.2.2 X M xs m).1;exact ⟨BQ (vA r1.1 r2.1 ha hb hc (Io _ r2.2.1 r2.2.2)) λ σ H Q q=>XX q,Kf (wo r1.1 r2.1 ha hb hc (Io _ r2.2.1 r2.2.2)) λ σ H Q q=>XX (vs:=[]) (Sr q)⟩
def kZ {a:Expr}{pos:Pos} (ga:AQ P w K mg base lvl S a f vs):AQ P w K mg base lvl S (.UnaryOp .Not a pos) (AN C2 f) vs:=
 ⟨ga.1,rfl,λ X M xs m=>⟨BQ (xV (ga.2.2 X M xs m).1) λ σ H Q q=>kg q,Kf (xB (ga.2.2 X M xs m).2) λ σ H Q q=>k6 q⟩⟩
theorem Yv {d:Expr->Option D2} (hd:∀ e f vs,d e=some (f,vs)->AQ P w K mg base lvl S e f vs) {pos:Pos}:∀ (es:List Expr) (f:Fx) (vs:List Nat),OH d es=some (f,vs)->(∀ i∈vs,S.msF i=false)/\∀ {Wx} X M,XS X P w K mg base lvl S Wx->MS M K S Wx->PE X (.BoolOp .And es pos) (tE M f vs)/\PW X (.BoolOp .And es pos) (tT M (bT f))
 | [],f,vs,h=>by cases h
 | [e],f,vs,h=>by
  have g:=hd e f vs h;exact ⟨g.1,λ X M xs m=>⟨Ws (g.2.2 X M xs m).1,jJ (g.2.2 X M xs m).2⟩⟩
 | e::e'::es,f,vs,h=>by
  unfold OH at h;split at h
  ·rename_i f1 v1 f2 v2 h1 h2;cases h;have g1:=hd e f1 v1 h1;have g2:=Yv hd (pos:=pos) (e'::es) f2 v2 h2;exact ⟨Gx g1.1 g2.1,λ X M xs m=>⟨BQ (xk (g1.2.2 X M xs m).1 (g2.2 X M xs m).1) λ σ H Q q=>ke q,Wy (xD (g1.2.2 X M xs m).2 (g2.2 X M xs m).2) λ σ H Q q=>kL q⟩⟩
  ·cases h
theorem X0 {d:Expr->Option D2} (hd:∀ e f vs,d e=some (f,vs)->AQ P w K mg base lvl S e f vs) {pos:Pos}:∀ (es:List Expr) (f:Fx) (vs:List Nat),O2 d es=some (f,vs)->(∀ i∈vs,S.msF i=false)/\∀ {Wx} X M,XS X P w K mg base lvl S Wx->MS M K S Wx->PE X (.BoolOp .Or es pos) (tE M f vs)/\PW X (.BoolOp .Or es pos) (tT M (bT f))
 | [],f,vs,h=>by cases h
 | [e],f,vs,h=>by
  have g:=hd e f vs h;exact ⟨g.1,λ X M xs m=>⟨Ws (g.2.2 X M xs m).1,xE (g.2.2 X M xs m).2⟩⟩
 | e::e'::es,f,vs,h=>by
  unfold O2 at h;split at h
  ·rename_i f1 v1 f2 v2 h1 h2;cases h;have g1:=hd e f1 v1 h1;have g2:=X0 hd (pos:=pos) (e'::es) f2 v2 h2;exact ⟨Gx g1.1 g2.1,λ X M xs m=>⟨BQ (qv (g1.2.2 X M xs m).1 (g2.2 X M xs m).1) λ σ H Q q=>zj q,Wy (qN (g1.2.2 X M xs m).2 (g2.2 X M xs m).2) λ σ H Q q=>zB q⟩⟩
  ·cases h
theorem Ey {d:Expr->Option D2} (hd:∀ e f vs,d e=some (f,vs)->AQ P w K mg base lvl S e f vs):∀ (es:List Expr) (fa:Fa) (vs:List Nat),DO d es=some (fa,vs)->(∀ i∈vs,S.msF i=false)/\es.all Fj=true/\∀ {Wx} X M,XS X P w K mg base lvl S Wx->MS M K S Wx->PA X es (tL M fa vs)
 | [],fa,vs,h=>by cases h;exact ⟨λ _ z=>(nomatch z),rfl,λ X M _ _=>xP⟩
 | e::es,fa,vs,h=>by
  unfold DO at h;split at h
  ·rename_i f1 v1 f2 v2 h1 h2;cases h;have g1:=hd e f1 v1 h1;have g2:=Ey hd es f2 v2 h2;exact ⟨Gx g1.1 g2.1,by rw [GP,g1.2.1,g2.2.1];rfl,λ X M xs m=>jQ (m.v g1.1) (g1.2.2 X M xs m).1 (g2.2.2 X M xs m) (Dl (Dr g1.2.1))⟩
  ·cases h
def Qh (scope:Bv) (env:Env):IA scope env=Fh scope env.scope:=rfl
theorem PD {x:Str}{k:Dw}{sc:Bv}:∀ (l:List (Str×Dw)),(k=.cell\/k=.free)->(l.map λ (n,k)=>if (k == NameKind.free && sc.kind == .function && sc.names.lookup n == some .cell) then (n,NameKind.cell) else (n,k)).lookup x=some k->(x,NameKind.free)∈l\/(x,NameKind.cell)∈l
 | [],_,h=>by simp at h
 | (n,j)::r,hk,h=>by
  rw [BF] at h;have ih:=PD (x:=x) (k:=k) (sc:=sc) r hk;dsimp only at h;by_cases hj:(j == NameKind.free && sc.kind == .function && sc.names.lookup n == some .cell)=true
  ·rw [if_pos hj,EV] at h;split at h
   ·rename_i hx;rw [Ba,Ba] at hj;have e1:x=n:=eq_of_beq hx;have e2:j=.free:=eq_of_beq hj.1.1;rw [e1,e2];exact .inl AH
   ·exact (ih h).imp (AI _) (AI _)
  ·rw [if_neg hj,EV] at h;split at h
   ·rename_i hx;have e1:x=n:=eq_of_beq hx;have e2:j=k:=Option.some.inj h;rcases hk with z | z
    ·rw [e1,e2,z];exact .inr AH
    ·rw [e1,e2,z];exact .inl AH
   ·exact (ih h).imp (AI _) (AI _)
theorem Ka (sc':Bv):∀ (N:List Str) (i:Nat),(IF sc' i N).length=N.length
 | [],_=>rfl
 | x::r,i=>by rw [IF,Bh,Ka sc' r (i + 1),Bh]
structure ChkOk (S:Sx) (scope:Bv) (xs:List Str) (vI:List Nat):Prop where
 kind:scope.kind=.function
 dis:∀ x,(x,NameKind.free)∈scope.names->(x,NameKind.cell)∉scope.names
 names:∀ x∈scope.names,x.2=.local->scope.names.lookup x.1=some .local
 free:∀ x∈scope.names,x.2=.free->S.sc.names.lookup x.1=some .cell\/S.sc.names.lookup x.1=some .free
 capt:∀ (i:Nat) (x:Str),i < S.N.length->(Bc S scope xs vI).N[i]?=some x->IS (Fh scope S.sc) x->S.N[i]?=some x/\IS S.sc x/\(x,NameKind.free)∈scope.names/\(Fh scope S.sc).names.lookup x≠some .local
 nd:(Bc S scope xs vI).N.Nodup
 loc:∀ x∈xs,(Fh scope S.sc).names.lookup x=some .local\/((Fh scope S.sc).names.lookup x=some .cell/\(x,NameKind.cell)∈scope.names)
 pos:S.N.length≠0
 ms:∀ i∈S.ms,i < S.N.length
def kC {sc:Bv}{x:Str} (h:IS sc x):Dv sc x=true:=by
 unfold Dv CJ;rcases h with h | h | h <;> rw [h] <;> simp
def VI {scope:Bv}{xs:List Str}{vI:List Nat} (h:MT S scope xs vI=true):ChkOk S scope xs vI:=by
 unfold MT at h;simp only [Ba,decide_eq_true_eq,jb8,bne_iff_ne,ne_eq,Gf] at h;obtain ⟨⟨⟨⟨⟨⟨⟨⟨h1,h2⟩,h3⟩,h4⟩,h5⟩,h6⟩,h7⟩,h8⟩,h9⟩:=h;refine ⟨h1,λ x hx hz=>(h2 (x,.free) hx).elim (λ z=>z rfl) λ z=>?_,λ x hx he=>(h3 x hx).elim (λ z=>absurd he z) λ z=>eq_of_beq z,λ x hx he=>(h4 x hx).elim (λ z=>absurd he z) λ z=>z.elim (λ z=>.inl (eq_of_beq z)) λ z=>.inr (eq_of_beq z),λ i x hi e hv=>?_,h6,λ x hx=>(h7 x hx).imp EC λ z=>⟨EC z.1,by simpa using z.2⟩,h8,h9⟩
 ·have z':(!(scope.names.contains (x,NameKind.cell)))=true:=z
  have:scope.names.contains (x,NameKind.cell)=true:=by simpa using hz
  rw [this] at z';cases z'
 have q:=h5 i (jc5.mpr hi);rw [e] at q;dsimp only at q;rw [Gf] at q;rcases q with q | q
 ·have:Dv (Fh scope S.sc) x=true:=kC hv
  have q':(!Dv (Fh scope S.sc) x)=true:=q;rw [this] at q';cases q'
 ·simp only [Ba,decide_eq_true_eq,Pg] at q;obtain ⟨⟨⟨q1,q2⟩,q3⟩,q4⟩:=q;refine ⟨q1,Wi q2,by simpa using q3,λ z=>?_⟩
  have:CJ (Fh scope S.sc) x .local=true:=by unfold CJ;rw [z];simp
  have q4':CJ (Fh scope S.sc) x .local=false:=q4;rw [this] at q4';cases q4'
def ChkOk.comp {scope:Bv}{ys:List Str}{vI:List Nat} (c:ChkOk S scope ys vI) (xs:XS X P w K mg base lvl S Wx):CompOk X scope (Bc S scope ys vI).N ys.length where
 kind:=c.kind
 dis:=c.dis
 names:=c.names
 len:=by
  show (IF _ 0 S.N++ys).length=_;rw [BI,Ka,xs.N]
 free:=λ x hx he=>by
  show X.env.scope.names.lookup x.1=_\/X.env.scope.names.lookup x.1=_;rw [xs.sc];exact c.free x hx he
 kinds:=λ x h=>by
  rcases h with h | h
  ·exact PD (sc:=X.env.scope) scope.names (.inl rfl) h
  ·exact PD (sc:=X.env.scope) scope.names (.inr rfl) h
 capt:=λ i x hi e hv=>by
  rw [Qh,xs.sc] at hv ⊢;rw [xs.N] at hi ⊢;exact c.capt i x hi e hv
def ChkOk.xs {scope:Bv}{ys:List Str}{vI:List Nat} (c:ChkOk S scope ys vI) (xs:XS X P w K mg base lvl S Wx) (s2:Ai) (H2:Hp) (C:Addr) (fp:List Addr) (pins:List (Addr×Obj)):XS (BA X s2 H2 scope C (Bc S scope ys vI).N fp pins) P w K mg base lvl (Bc S scope ys vI) W0:=
 ⟨xs.prog,xs.w,xs.K,xs.mg,xs.base,rfl,by show IA scope X.env=_;rw [Qh,xs.sc];rfl,xs.calm,xs.room,PassesOwn.never,VZ,λ h=>nomatch h⟩
def Ql {scope:Bv}{ys:List Str}{vI:List Nat} (i:Nat):(Bc S scope ys vI).alF i=if i < S.N.length then S.alF i else if i < S.N.length + ys.length then vI else []:=by
 unfold Sx.alF Bc;dsimp only;rw [AM];by_cases h:i < S.N.length
 ·rw [C7 (by simpa using h),if_pos h];simp [h,Sx.alF,AM]
 ·rw [Gi (by simpa using h),if_neg h,EB];simp only [A8,Ek];by_cases h2:i < S.N.length + ys.length
  ·rw [if_pos h2,if_pos (by omega)];rfl
  ·rw [if_neg h2,if_neg (by omega)];rfl
def ChkOk.ms' {scope:Bv}{ys:List Str}{vI:List Nat} (c:ChkOk S scope ys vI) (m:MS M K S Wx) (hv:∀ i∈vI,S.msF i=false) (D:Addr):MS (M.comp D S.N.length vI) K (Bc S scope ys vI) W0 where
 W:=rfl
 K:=m.K
 ms:=m.ms
 al:=λ i hi=>by
  rw [Ql];show (if i < S.N.length then M.al i else vI)=_;have hl:(Bc S scope ys vI).N.length=S.N.length + ys.length:=by
   show (IF _ 0 S.N++ys).length=_;rw [BI,Ka]
  rw [hl] at hi;by_cases h:i < S.N.length
  ·rw [if_pos h,if_pos h];exact m.al i h
  ·rw [if_neg h,if_neg h,if_pos hi]
 pn:=λ p hp=>by
  have h:=m.pn p hp;show p.1 < (IF _ 0 S.N++ys).length;rw [BI,Ka];omega
 als:=λ i j hj=>by
  have hj':j∈(if i < S.N.length then M.al i else vI):=hj;show M.Ms j=false;by_cases h:i < S.N.length
  ·rw [if_pos h] at hj';exact m.als i j hj'
  ·rw [if_neg h] at hj';rw [m.ms];exact hv j hj'
theorem IX {n:Nat}{iter:Expr}{env:Env}{f:Fx}{vs:List Nat} (h:(∀ a b c,iter≠.Set a b c)):∀ x,NC iter env x=pure x:=by
 intro x;cases iter with
 | Set a b c=>exact absurd rfl (h a b c)
 | _=>rfl
end
section
variable {X:Cx}{P:AA}{w:A4}{K:Frag}{mg:Str->Option Ad}{base:Heap}{lvl:Nat}{S:Sx}{Wx:St->Nat->Hp->Prop}{M:Fm}{f g:Fx}{vs vs':List Nat}{σ:St}{H:Hp}{Q:VK}
def kB {T:Str}{t:String} (h:Jw T=some t):t∈HN/\T∈zyn/\Jq T=some (.type t)/\(T == ("__debug__" : Str))=false/\T ≠ "__name__" := by
 unfold Jw at h;split at h
 ·rename_i e;cases h;rw [e];exact ⟨by decide,by decide +kernel,rfl,by decide +kernel,by decide +kernel⟩
 ·split at h
  ·rename_i e;cases h;rw [e];exact ⟨by decide,by decide +kernel,rfl,by decide +kernel,by decide +kernel⟩
  ·split at h
   ·rename_i e;cases h;rw [e];exact ⟨by decide,by decide +kernel,rfl,by decide +kernel,by decide +kernel⟩
   ·split at h
    ·rename_i e;cases h;rw [e];exact ⟨by decide,by decide +kernel,rfl,by decide +kernel,by decide +kernel⟩
    ·split at h
     ·rename_i e;cases h;rw [e];exact ⟨by decide,by decide +kernel,rfl,by decide +kernel,by decide +kernel⟩
     ·split at h
      ·rename_i e;cases h;rw [e];exact ⟨by decide,by decide +kernel,rfl,by decide +kernel,by decide +kernel⟩
      ·cases h
def xS {x:Str}{o:List (PV×Nat)->Option (PV×Nat)}{e:Expr}{es:List Expr}{fa:Fa}{p pos:Pos} (h:R8 x=some o) (xs:XS X P w K mg base lvl S Wx) (m:MS M K S Wx) (hb:∀ x∈zyn,mg x=none) (hg:S.glob x=true) (hs:(e::es).all Fj=true) (ha:PA X (e::es) (tL M fa vs)):
  PE X (.Call (.Name x p) (e::es) [] pos) (tE M (An o fa) vs):=by
 rw [GP,Ba] at hs;have h1:AK (e::es) X.env=(false,eval e X.env)::AK es X.env:=Dl (Dr hs.1);have h2:(Dh pos (AK es X.env)).any (·.1)=false:=Nu hs.2;have hm:∀ x∈zyn,X.mg x=none:=λ x hx=>by rw [xs.mg];exact hb x hx
 unfold R8 at h;split at h
 ·rename_i ex;cases h;subst ex;exact zH (m.k xs) (xs.gl hg) (hm _ (by decide +kernel)) ha h1 h2
 ·split at h
  ·rename_i ex;cases h;subst ex;exact xR xs.calm (xs.gl hg) (hm _ (by decide +kernel)) ha h1 h2
  ·split at h
   ·rename_i ex;cases h;subst ex;exact jW xs.calm (xs.gl hg) (hm _ (by decide +kernel)) ha h1 h2
   ·split at h
    ·rename_i ex;cases h;subst ex;exact jX xs.calm (xs.gl hg) (hm _ (by decide +kernel)) ha h1 h2
    ·split at h
     ·rename_i ex;cases h;subst ex;exact jY xs.calm (xs.gl hg) (hm _ (by decide +kernel)) ha h1 h2
     ·split at h
      ·rename_i ex;cases h;subst ex;exact jU (m.k xs) (xs.gl hg) (hm _ (by decide +kernel)) ha h1 h2
      ·split at h
       ·rename_i ex;cases h;subst ex;exact jR (m.k xs) (xs.gl hg) (hm _ (by decide +kernel)) ha h1 h2
       ·cases h
def Ib (P:AA) (w:A4) (K:Frag) (mg:Str->Option Ad) (base:Heap) (lvl:Nat) (S:Sx) (it:Expr) (iw:Iw):Prop:=
 (∀ i∈iw.vs,S.msF i=false)/\(∀ a b c,it≠.Set a b c)/\∀ {Wx} X M,XS X P w K mg base lvl S Wx->MS M K S Wx->∀ tg,(match iw with
  | .rng en fa vs=>(en=Bn/\PI X tg it (O3 (tL M fa vs)))\/(en=FG/\PI X tg it (O4 (tL M fa vs)))
  | .seq f vs=>PI X tg it (EX M.K (tE M f vs))
  | .vw v fa vs=>FY tg (.vw v fa vs)=true->PI X tg it (TC v M.K (tL M fa vs)))
def vc {it:Expr} (g:AQ P w K mg base lvl S it f vs) (hs:∀ a b c,it≠.Set a b c):Ib P w K mg base lvl S it (.seq f vs):=
 ⟨g.1,hs,λ X M xs m tg=>by
  show PI X tg it (EX M.K (tE M f vs));rw [m.k xs];exact Wt (g.2.2 X M xs m).1⟩
def MW {d:Expr->Option D2} (hd:∀ e f vs,d e=some (f,vs)->AQ P w K mg base lvl S e f vs) (hset:∀ a b c,d (.Set a b c)=none) (hb:∀ x∈zyn,mg x=none) {it:Expr}{iw:Iw} (h:Fc d S it=some iw):Ib P w K mg base lvl S it iw:=by
 have seq:∀ {it:Expr}{iw:Iw},(match d it with
   | some (f,vs)=>some (Iw.seq f vs)
   | none=>none)=some iw->Ib P w K mg base lvl S it iw:=λ {it iw} h=>by
  cases e:d it with
  | none=>rw [e] at h;cases h
  | some p=>
   obtain ⟨f,vs⟩:=p;rw [e] at h;cases h;exact vc (hd _ _ _ e) λ a b c z=>by rw [z,hset] at e;cases e
 unfold Fc at h;split at h
 ·rename_i x p a pos;split at h
  ·rename_i hc;obtain ⟨rfl,hg⟩:=hc;split at h
   ·rename_i fa vs e;cases h;have g:=Ey hd _ _ _ e;refine ⟨λ _ z=>(nomatch z),λ _ _ _ z=>(nomatch z),λ X M xs m tg=>.inl ⟨rfl,?_⟩⟩;have hs:=g.2.1;simp only [GP,Mm,J9] at hs;exact yq (xs.gl hg) (by rw [xs.mg];exact hb _ (by decide +kernel)) (g.2.2 X M xs m) (Dl (Dr hs))
   ·cases h
  ·split at h
   ·rename_i hc;obtain ⟨rfl,hg⟩:=hc;split at h
    ·rename_i fa vs e;cases h;have g:=Ey hd _ _ _ e;refine ⟨g.1,λ _ _ _ z=>(nomatch z),λ X M xs m tg _=>?_⟩;have hs:=g.2.1;simp only [GP,Mm,J9] at hs;rw [m.k xs];exact zb (xs.gl hg) (by rw [xs.mg];exact hb _ (by decide +kernel)) (g.2.2 X M xs m) (Dl (Dr hs))
    ·cases h
   ·split at h
    ·rename_i hc;obtain ⟨rfl,hg⟩:=hc;split at h
     ·rename_i fa vs e;cases h;have g:=Ey hd _ _ _ e;refine ⟨g.1,λ _ _ _ z=>(nomatch z),λ X M xs m tg ht=>?_⟩;have hs:=g.2.1;simp only [GP,Mm,J9] at hs;rw [m.k xs];cases tg with
      | Tuple es k tp=>exact kj (xs.gl hg) (by rw [xs.mg];exact hb _ (by decide +kernel)) (g.2.2 X M xs m) (Dl (Dr hs))
      | _=>cases ht
     ·cases h
    ·exact seq h
 ·rename_i x p a b pos;split at h
  ·rename_i hc;obtain ⟨rfl,hg⟩:=hc;split at h
   ·rename_i fa vs e;cases h;have g:=Ey hd _ _ _ e;refine ⟨λ _ z=>(nomatch z),λ _ _ _ z=>(nomatch z),λ X M xs m tg=>.inr ⟨rfl,?_⟩⟩;have hs:=g.2.1;simp only [GP,Mm,J9,Ba] at hs;have s2:AK [b] X.env=[(false,eval b X.env)]:=Dl (Dr hs.2);exact yr (xs.gl hg) (by rw [xs.mg];exact hb _ (by decide +kernel)) (g.2.2 X M xs m) (by rw [Dl (Dr hs.1),s2]) s2
   ·cases h
  ·split at h
   ·rename_i hc;obtain ⟨rfl,hg⟩:=hc;split at h
    ·rename_i fa vs e;cases h;have g:=Ey hd _ _ _ e;refine ⟨g.1,λ _ _ _ z=>(nomatch z),λ X M xs m tg ht=>?_⟩;have hs:=g.2.1;simp only [GP,Mm,J9,Ba] at hs;have s2:AK [b] X.env=[(false,eval b X.env)]:=Dl (Dr hs.2);rw [m.k xs];cases tg with
     | Tuple es k tp=>exact ze (xs.gl hg) (by rw [xs.mg];exact hb _ (by decide +kernel)) (g.2.2 X M xs m) (by rw [Dl (Dr hs.1),s2]) s2
     | _=>cases ht
    ·cases h
   ·exact seq h
 ·exact seq h
def vW {σ:St}{H:Hp}{Q:Bool->Hp->Prop} (h:∃ M',MS M' K S Wx/\tT M' Be σ H Q):Q true H:=by
 obtain ⟨M',_,ρ,fps,rep,q⟩:=h;exact q H fps KD.refl Agr.refl rep
structure CompParts (P:AA) (w:A4) (K:Frag) (mg:Str->Option Ad) (base:Heap) (lvl:Nat) (S:Sx) (scope:Bv) (tg:Expr) (ys:List Str) (asg:PV->Ae->Option Ae) (it elt:Expr) (ifs:List Expr) (iw:Iw) (t:Fb) (g:Fx) (vE:List Nat):Prop where
 tga:NW S.N.length tg=some (ys,asg)
 two:FY tg iw=true
 chk:ChkOk S scope ys iw.vs
 iwo:Ib P w K mg base lvl S it iw
 elt:AQ P w K mg base lvl (Bc S scope ys iw.vs) elt g vE
 ifs:∀ {Wx} X M,XS X P w K mg base lvl (Bc S scope ys iw.vs) Wx->MS M K (Bc S scope ys iw.vs) Wx->HY X ifs (λ σ H Q=>∃ M',MS M' K (Bc S scope ys iw.vs) Wx/\tT M' t σ H Q)
def W5 {scope:Bv}{tg:Expr}{ys:List Str}{asg:PV->Ae->Option Ae}{it elt:Expr}{ifs:List Expr}{iw:Iw}{t:Fb}{vE:List Nat} (c:CompParts P w K mg base lvl S scope tg ys asg it elt ifs iw t g vE):∀ i∈iw.vs++vE.filter (λ i=>decide (i < S.N.length)),S.msF i=false:=
 Gx c.iwo.1 λ i hi=>c.elt.1 i (je1.mp hi).1
theorem U7 {X':Cx}:∀ {es:List Expr}{ys:List Str}{n:Nat},Nc es=some ys->X'.N.Nodup->(∀ j y,ys[j]?=some y->X'.N[n + j]?=some y)->(∀ y∈ys,FC X'.env.scope y/\(X'.fn y=true\/X'.env.scope.names.lookup y=some .local))->KP X' es (Kd (K9 n ys.length))/\(E4 es X'.env).length=ys.length/\(E4 es X'.env).findIdx? (·.1)=none
 | [],ys,n,h,_,_,_=>by cases h;exact ⟨Xh,rfl,rfl⟩
 | e::es,ys,n,h,hN,hi,hl=>by
  unfold Nc at h;split at h
  ·cases ‹_::_=[]›
  ·rename_i x px r heq;cases heq;obtain ⟨zs,h2,rfl⟩:=jb9.mp h;have hx:=hl x AH;obtain ⟨h1,h3,h4⟩:=U7 (n:=n + 1) h2 hN (λ j y e=>by rw [show n + 1 + j=n + (j + 1) by omega];exact hi (j + 1) y (by simpa using e)) λ y hy=>hl y (AI _ hy);rw [Bh,YT];refine ⟨XI (Lh hN (by have:=hi 0 x rfl;simpa using this) hx.1 hx.2) h1 rfl,by rw [E4,Bh,h3] <;> (intros;contradiction),?_⟩;rw [E4,Zd,h4] <;> first | rfl | (intros;contradiction)
  ·cases h
theorem UN {scope:Bv}{tg:Expr}{ys:List Str}{asg:PV->Ae->Option Ae}{pos:Pos}{it elt:Expr}{ifs:List Expr}{iw:Iw}{t:Fb}{vE:List Nat} (c:CompParts P w K mg base lvl S scope tg ys asg it elt ifs iw t g vE) (xs:XS X P w K mg base lvl S Wx) (m:MS M K S Wx):
  ∃ wi gg,PI X tg it wi/\CompOk X scope (Bc S scope ys iw.vs).N ys.length/\(∀ s2 H2 C fp pins,PG (BA X s2 H2 scope C (Bc S scope ys iw.vs).N fp pins) tg gg) /\
   (∀ s2 H2 C fp pins,HY (BA X s2 H2 scope C (Bc S scope ys iw.vs).N fp pins) ifs (λ σ H Q=>∃ M',MS M' K (Bc S scope ys iw.vs) W0/\tT M' t σ H Q)) /\
   (∀ s2 H2 C fp pins,PE (BA X s2 H2 scope C (Bc S scope ys iw.vs).N fp pins) elt (λ σ H Q=>∃ M',MS M' K (Bc S scope ys iw.vs) W0/\tE M' g vE σ H Q)) /\
   ∀ σ H Q,σ.length=S.N.length->tE M (LV iw ys.length asg t g) (iw.vs++vE.filter (λ i=>decide (i < S.N.length))) σ H Q ->
    J6 ys.length wi gg (λ σ H Q=>∃ M',MS M' K (Bc S scope ys iw.vs) W0/\tT M' t σ H Q) (λ σ H Q=>∃ M',MS M' K (Bc S scope ys iw.vs) W0/\tE M' g vE σ H Q) σ H Q:=by
 have hvI:=m.v c.iwo.1;have hP:∀ D,MS (M.comp D S.N.length iw.vs) K (Bc S scope ys iw.vs) W0:=λ D=>c.chk.ms' m c.iwo.1 D;have hvE:∀ i∈vE,M.Ms i=false:=λ i hi=>by rw [m.ms];exact c.elt.1 i hi
 have hvo:∀ i,i∈vE->i < S.N.length->i∈iw.vs++vE.filter (λ i=>decide (i < S.N.length)):=λ i h1 h2=>BV _ (je1.mpr ⟨h1,by simpa using h2⟩);have hvo2:=m.v (W5 c);have bd:∀ D i,S.N.length<=i->Bd (M.comp D S.N.length iw.vs) iw.vs i:=λ D i hi=>⟨by
   show M.Ms i=false;rw [m.ms];unfold Sx.msF;cases e:S.ms.contains i with
   | false=>rfl
   | true=>exact absurd (c.chk.ms _ (by simpa using e)) (by omega),⟨λ _=>by have:=c.chk.pos;omega,λ p hp=>by have:=m.pn p hp;omega⟩,if_neg (by omega),(hP D).als⟩
 have hix:∀ j y,ys[j]?=some y->(Bc S scope ys iw.vs).N[S.N.length + j]?=some y:=λ j y e=>by
  show (IF _ 0 S.N++ys)[S.N.length + j]?=some y;rw [Gi (by rw [Ka];omega),Ka];simpa using e
 have hloc:∀ s2 H2 C fp pins,∀ y∈ys,FC (BA X s2 H2 scope C (Bc S scope ys iw.vs).N fp pins).env.scope y/\((BA X s2 H2 scope C (Bc S scope ys iw.vs).N fp pins).fn y=true\/(BA X s2 H2 scope C (Bc S scope ys iw.vs).N fp pins).env.scope.names.lookup y=some .local):=λ s2 H2 C fp pins y hy=>by
  have e:(BA X s2 H2 scope C (Bc S scope ys iw.vs).N fp pins).env.scope=Fh scope S.sc:=by
   show IA scope X.env=_;rw [Qh,xs.sc]
  rw [e];rcases c.chk.loc y hy with z | z
  ·exact ⟨.inl z,.inr z⟩
  ·exact ⟨.inr z.1,.inl (by show scope.names.contains (y,NameKind.cell)=true;simpa using z.2)⟩
 have hpe:∀ s2 H2 C fp pins,PE (BA X s2 H2 scope C (Bc S scope ys iw.vs).N fp pins) elt (λ σ H Q=>∃ M',MS M' K (Bc S scope ys iw.vs) W0/\tE M' g vE σ H Q):=λ s2 H2 C fp pins pi s σ H Q I ⟨M',m',q⟩=>
  (c.elt.2.2 _ M' (c.chk.xs xs s2 H2 C fp pins) m').1 pi s σ H Q I q
 have hpt:∀ s2 H2 C fp pins,HY (BA X s2 H2 scope C (Bc S scope ys iw.vs).N fp pins) ifs (λ σ H Q=>∃ M',MS M' K (Bc S scope ys iw.vs) W0/\tT M' t σ H Q):=λ s2 H2 C fp pins=>c.ifs _ (M.comp 0 S.N.length iw.vs) (c.chk.xs xs s2 H2 C fp pins) (hP 0);have tgp:∃ is gg,(∀ i∈is,S.N.length<=i)/\(∀ D,Dd (M.comp D S.N.length iw.vs) iw.vs is gg asg)/\∀ s2 H2 C fp pins,PG (BA X s2 H2 scope C (Bc S scope ys iw.vs).N fp pins) tg gg:=by
  have ht:=c.tga;unfold NW at ht;split at ht
  ·rename_i y py;cases ht;refine ⟨[S.N.length],Fo S.N.length,λ i hi=>by rw [jb6.mp hi];exact AB _,λ D=>Si (bd D _ (AB _)),λ s2 H2 C fp pins=>?_⟩;exact Lh c.chk.nd (hix 0 y rfl) (hloc s2 H2 C fp pins y (by simp)).1 (hloc s2 H2 C fp pins y (by simp)).2
  ·rename_i es k tp;obtain ⟨zs,h2,e⟩:=jb9.mp ht;cases e;refine ⟨K9 S.N.length ys.length,JH M.K ys.length (Kd (K9 S.N.length ys.length)),λ i hi=>(jr1.mp hi).1,λ D=>?_,λ s2 H2 C fp pins=>?_⟩
   ·have:=RN (M:=M.comp D S.N.length iw.vs) (al:=iw.vs) (is:=K9 S.N.length ys.length) λ i hi=>bd D i (jr1.mp hi).1
    rw [List.length_range'] at this;exact this
   ·obtain ⟨h1,h3,h4⟩:=U7 (X':=BA X s2 H2 scope C (Bc S scope ys iw.vs).N fp pins) (n:=S.N.length) h2 c.chk.nd hix (hloc s2 H2 C fp pins)
    have:=Sn (X:=BA X s2 H2 scope C (Bc S scope ys iw.vs).N fp pins) (pos:=tp) (k:=k) xs.calm h1 h3 h4
    have e:(BA X s2 H2 scope C (Bc S scope ys iw.vs).N fp pins).K=M.K:=(m.k xs).symm;rw [e] at this;exact this
  ·cases ht
 obtain ⟨is,gg,his,hg,hpg⟩:=tgp;have hw:=c.iwo.2.2 X M xs m tg;have htw:=c.two;cases iw with
 | rng en fa vs=>
  rcases hw with ⟨rfl,hw⟩ | ⟨rfl,hw⟩
  ·exact ⟨_,gg,hw,c.chk.comp xs,hpg,hpt,hpe,λ σ H Q hl hq=>vQ hl hP m.als hvI hvE his hg hvo hvo2 hq⟩
  ·exact ⟨_,gg,hw,c.chk.comp xs,hpg,hpt,hpe,λ σ H Q hl hq=>vR hl hP m.als hvI hvE his hg hvo hvo2 hq⟩
 | seq f vs=>exact ⟨_,gg,hw,c.chk.comp xs,hpg,hpt,hpe,λ σ H Q hl hq=>vS hl hP m.als hvI hvE his hg hvo hvo2 hq⟩
 | vw v fa vs=>exact ⟨_,gg,hw htw,c.chk.comp xs,hpg,hpt,hpe,λ σ H Q hl hq=>vT hl hP m.als hvI hvE his hg hvo hvo2 hq⟩
def Wq {e:Expr}{t t':TE} (h:PE X e t) (i:∀ σ H Q,σ.length=X.N.length->t' σ H Q->t σ H Q):PE X e t':=λ pins s σ H Q I q=>h pins s σ H Q I (i σ H Q I.len q)
def zi {e:Stmt}{t t':TS} (h:PS X e t) (i:∀ D σ H,σ.length=X.N.length->t' D σ H->t D σ H):PS X e t':=λ pins s σ H D I q=>h pins s σ H D I (i D σ H I.len q)
def ye {scope:Bv}{tg:Expr}{ys:List Str}{asg:PV->Ae->Option Ae}{pos:Pos}{it elt:Expr}{ifs:List Expr}{iw:Iw}{t:Fb}{vE:List Nat} (c:CompParts P w K mg base lvl S scope tg ys asg it elt ifs iw t g vE):AQ P w K mg base lvl S (.ListComp elt [⟨tg,it,ifs,0⟩] scope pos) (LV iw ys.length asg t g) (iw.vs++vE.filter (λ i=>decide (i < S.N.length))):=by
 refine CM (W5 c) rfl (λ _ _=>rfl) λ X M xs m=>?_;obtain ⟨wi,gg,h1,h2,h3,h4,h5,h6⟩:=UN (pos:=pos) c xs m;exact Wq (Xg h2 xs.calm h1 h3 h4 h5 (IX (n:=0) (f:=g) (vs:=[]) c.iwo.2.1)) λ σ H Q hl q=>h6 σ H Q (by rw [hl,xs.N]) q
def Yw {d:Expr->Option D2} (hd:∀ e f vs,d e=some (f,vs)->AQ P w K mg base lvl S e f vs) {ifs:List Expr}{t:Fb} (h:OI d ifs=some t) (X:Cx) (M:Fm) (xs:XS X P w K mg base lvl S Wx) (m:MS M K S Wx):HY X ifs (λ σ H Q=>∃ M',MS M' K S Wx/\tT M' t σ H Q):=by
 unfold OI at h;split at h
 ·cases h;intro pins s σ H Q I q;exact ku pins s σ H Q I (vW q)
 ·obtain ⟨p,e,rfl⟩:=jb9.mp h;obtain ⟨f,vs⟩:=p;have g:=hd _ _ _ e;intro pins s σ H Q I ⟨M',m',q⟩;exact jH (g.2.2 X M' xs m').2 pins s σ H Q I q
 ·cases h
def MX (n:Nat) (S:Sx) (a:List Expr) (b:Nat) (c:Pos):Bu n S (.Set a b c)=none:=by
 cases n <;> rfl
def Ur {e:Expr} (h:Fj e=true) (env:Env) (cpos:Pos):((Dh cpos (AK [e] env)).all (λ x=>!x.1) && (backToKw cpos (keywordEach [] env)).all (λ x=>x.1.isSome)
   && decide (([e]:List Expr).length + ([]:List Keyword).length + (if ([]:List Keyword).isEmpty then 0 else 1) < 30))=true:=by
 have:AK [e] env=[(false,eval e env)]:=Dl (Dr h)
 rw [this];rfl
theorem Me (GX:GX K mg S.xc) (G:GS P w K mg base lvl S.Γ) (Gm:Ii P w K mg base lvl S.Γm):∀ (n:Nat) (S':Sx) (e:Expr) (f:Fx) (vs:List Nat),S'.Γ=S.Γ->S'.Γm=S.Γm->S'.xc=S.xc->(∀ i,∀ j∈S'.alF i,S'.msF j=false)->Bu n S' e=some (f,vs)->AQ P w K mg base lvl S' e f vs:=by
 intro n;induction n with
 | zero=>intro S' e f vs _ _ _ _ h;cases h
 | succ n ih=>
  intro S' e f vs hΓ hΓm hX hS h;have hd:∀ e f vs,Bu n S' e=some (f,vs)->AQ P w K mg base lvl S' e f vs:=λ e f vs h=>ih S' e f vs hΓ hΓm hX hS h;replace h:Hm (Bu n) S' e=some (f,vs):=h;unfold Hm at h;split at h
  ·unfold M4 at h;split at h
   ·cases h;exact CM (λ _ z=>(nomatch z)) rfl (λ _ _=>rfl) λ X M xs m=>BQ Wo λ σ H Q q=>Lx (λ K H Z=>by rw [Own];exact ⟨rfl,rfl⟩) q
   ·cases h;exact CM (λ _ z=>(nomatch z)) rfl (λ _ _=>rfl) λ X M xs m=>BQ qu λ σ H Q q=>Lx (λ K H Z=>by rw [Own];exact ⟨rfl,rfl⟩) q
   ·cases h;exact CM (λ _ z=>(nomatch z)) rfl (λ _ _=>rfl) λ X M xs m=>BQ xl λ σ H Q q=>Lx (λ K H Z=>by rw [Own];exact ⟨rfl,rfl⟩) q
   ·cases h;exact CM (λ _ z=>(nomatch z)) rfl (λ _ _=>rfl) λ X M xs m=>BQ xW λ σ H Q q=>Lx (λ K H Z=>by rw [Own];exact ⟨rfl,rfl⟩) q
   ·cases h
  ·split at h
   ·rename_i i hi;split at h
    ·cases h
    ·rename_i hm;cases h;refine CM (λ j hj=>?_) rfl (λ _ _=>rfl) λ X M xs m=>Wq (xs.var hi) λ σ H Q hl q=>?_
     ·rcases jb5.mp hj with z | z
      ·rw [z];simpa using hm
      ·exact hS i j z
     ·have hlt:i < S'.N.length:=by
       unfold Sx.slot at hi;split at hi
       ·exact (jb0.mp (Nk hi)).1
       ·cases hi
      rw [<- m.al i hlt] at q;exact Wd q
   ·cases h
  ·split at h
   ·rename_i f1 v1 f2 v2 o h1 h2 h3;cases h;have g1:=hd _ _ _ h1;have g2:=hd _ _ _ h2;exact CM (Gx g1.1 g2.1) rfl (λ _ _=>rfl) λ X M xs m=>qQ h3 (m.v g1.1) (m.k xs) (g1.2.2 X M xs m).1 (g2.2.2 X M xs m).1
   ·cases h
  ·split at h
   ·rename_i c v0 f1 v1 g1 v2 h0 h1 h2;cases h;have g0:=hd _ _ _ h0;have ga:=hd _ _ _ h1;have gb:=hd _ _ _ h2;exact ⟨Gx ga.1 gb.1,rfl,λ X M xs m=>⟨xU (g0.2.2 X M xs m).2 (ga.2.2 X M xs m).1 (gb.2.2 X M xs m).1,Kf (xA (g0.2.2 X M xs m).2 (ga.2.2 X M xs m).2 (gb.2.2 X M xs m).2) λ σ H Q q=>z9 q⟩⟩
   ·cases h
  ·split at h
   ·split at h
    ·rename_i f1 v1 h1;cases h;have g1:=hd _ _ _ h1;exact CM g1.1 rfl (λ _ _=>rfl) λ X M xs m=>zK (g1.2.2 X M xs m).1
    ·cases h
   ·split at h
    ·rename_i f1 v1 h1;cases h;exact kZ (hd _ _ _ h1)
    ·cases h
   ·cases h
  ·rename_i op es pos;split at h
   ·have g:=Yv hd (pos:=pos) _ _ _ h;exact ⟨g.1,rfl,λ X M xs m=>⟨(g.2 X M xs m).1,(g.2 X M xs m).2.pt⟩⟩
   ·have g:=X0 hd (pos:=pos) _ _ _ h;exact ⟨g.1,rfl,λ X M xs m=>⟨(g.2 X M xs m).1,(g.2 X M xs m).2.pt⟩⟩
  ·unfold VM at h;split at h
   ·split at h
    ·split at h
     ·rename_i f1 v1 f2 v2 o h1 h2 h3;cases h;exact kY h3 (hd _ _ _ h1) (hd _ _ _ h2)
     ·cases h
    ·cases h
   ·split at h
    ·split at h
     ·rename_i f1 v1 f2 v2 f3 v3 p q h1 h2 h3 h4 h5;cases h;exact y3 h4 h5 (hd _ _ _ h1) (hd _ _ _ h2) (hd _ _ _ h3)
     ·cases h
    ·cases h
   ·cases h
  ·split at h
   ·rename_i fa v h1;cases h;have g:=Ey hd _ _ _ h1;exact CM g.1 rfl (λ _ _=>rfl) λ X M xs m=>zI (g.2.2 X M xs m)
   ·cases h
  ·split at h
   ·rename_i fa v h1;cases h;have g:=Ey hd _ _ _ h1;exact CM g.1 rfl (λ _ _=>rfl) λ X M xs m=>zL (g.2.2 X M xs m)
   ·cases h
  ·rename_i a b pos;unfold VQ at h;split at h
   ·rename_i lo hi st p2;unfold VP at h;split at h
    ·split at h
     ·rename_i f1 v1 f2 v2 h1 h2;cases h;have g1:=hd _ _ _ h1;have g2:=hd _ _ _ h2;exact CM g1.1 rfl (λ _ _=>rfl) λ X M xs m=>BQ (Qs (qbd.or Sk) (g1.2.2 X M xs m).1 WT (Nf (g2.2.2 X M xs m).1)) λ σ H Q q=>RT (lo:=none) (hi:=some (f2,v2)) (m.v g1.1) (m.k xs) q
     ·cases h
    ·split at h
     ·rename_i f1 v1 f2 v2 h1 h2;cases h;have g1:=hd _ _ _ h1;have g2:=hd _ _ _ h2;exact CM g1.1 rfl (λ _ _=>rfl) λ X M xs m=>BQ (Qs (qbd.or Sk) (g1.2.2 X M xs m).1 (Nf (g2.2.2 X M xs m).1) WT) λ σ H Q q=>RT (lo:=some (f2,v2)) (hi:=none) (m.v g1.1) (m.k xs) q
     ·cases h
    ·split at h
     ·rename_i f1 v1 f2 v2 f3 v3 h1 h2 h3;cases h;have g1:=hd _ _ _ h1;have g2:=hd _ _ _ h2;have g3:=hd _ _ _ h3;exact CM g1.1 rfl (λ _ _=>rfl) λ X M xs m=>BQ (Qs (qbd.or Sk) (g1.2.2 X M xs m).1 (Nf (g2.2.2 X M xs m).1) (Nf (g3.2.2 X M xs m).1)) λ σ H Q q=>RT (lo:=some (f2,v2)) (hi:=some (f3,v3)) (m.v g1.1) (m.k xs) q
     ·cases h
    ·cases h
   ·split at h
    ·rename_i x i hx hi;obtain ⟨px,rfl⟩:=Hr hx;obtain ⟨k,pi,rfl⟩:=qJ hi;split at h
     ·rename_i j hj;split at h
      ·cases h
      ·rename_i hm;cases h;have hlt:j < S'.N.length:=by
        unfold Sx.slot at hj;split at hj
        ·exact (jb0.mp (Nk hj)).1
        ·cases hj
       have hv:∀ i∈j::S'.alF j,S'.msF i=false:=λ i hi=>by
        rcases jb5.mp hi with z | z
        ·rw [z];simpa using hm
        ·exact hS j i z
       refine CM (Gx hv λ _ z=>(nomatch z)) rfl (λ _ _=>rfl) λ X M xs m=>Wb (by have:=xs.room.units;omega) (m.v hv) (m.k xs) (Qg rfl) (BQ (xs.var hj) λ σ H Q q=>?_) (BQ Wo λ σ H Q q=>Lx (λ K H Z=>by rw [Own];exact ⟨rfl,rfl⟩) q);rw [<- m.al j hlt] at q;exact Wd q
     ·cases h
    ·split at h
     ·rename_i f1 v1 f2 v2 h1 h2;split at h
      ·rename_i hn;cases h;have g1:=hd _ _ _ h1;have g2:=hd _ _ _ h2;exact CM (Gx g1.1 g2.1) rfl (λ _ _=>rfl) λ X M xs m=>Wb (by have:=xs.room.units;omega) (m.v g1.1) (m.k xs) (Qg hn) (g1.2.2 X M xs m).1 (g2.2.2 X M xs m).1
      ·cases h
     ·cases h
  ·rename_i fn args ks pos;split at h
   ·split at h
    ·rename_i x hfn;obtain ⟨p,rfl⟩:=Hr hfn;split at h
     ·rename_i hx;subst hx;split at h
      ·rename_i e c;unfold VN at h;split at h
       ·rename_i f1 v1 h1;split at h
        ·rename_i hgi;have g1:=hd _ _ _ h1;split at h
         ·rename_i T pT;have s2:∀ {X:Cx},AK [Expr.Name T pT] X.env=[(false,eval (.Name T pT) X.env)]:=rfl;split at h
          ·rename_i t h2;split at h
           ·rename_i hg;cases h;obtain ⟨t1,t2,t3,t4,t5⟩:=kB h2;refine CM g1.1 rfl (λ _ _=>rfl) λ X M xs m=>?_;exact zG (x:=T) t1 (m.k xs) (g1.2.2 X M xs m).1 (xs.gl hgi) (by rw [xs.mg];exact G.1 _ (by decide +kernel)) (j5 (xs.gl hg) (by rw [xs.mg];exact G.1 _ t2) t3 rfl t5 t4) (by rw [Dl (Dr g1.2.1),s2]) s2
           ·cases h
          ·cases h
         ·cases h
        ·cases h
       ·cases h
      ·cases h
     ·split at h
      ·rename_i a ha;split at h
       ·rename_i f1 v1 h1;split at h
        ·rename_i hc;cases h;obtain ⟨rfl,p2,pos2,rfl⟩:=jt ha;have g1:=hd _ _ _ h1;exact CM g1.1 rfl (λ _ _=>rfl) λ X M xs m=>jT (m.k xs) xs.calm (xs.gl hc.1) (by rw [xs.mg];exact G.1 _ (by decide +kernel)) (xs.gl hc.2) (by rw [xs.mg];exact G.1 _ (by decide +kernel)) (by rw [Dl (Dr g1.2.1)];rfl) (g1.2.2 X M xs m).1
        ·cases h
       ·cases h
      split at h
      ·rename_i o ho;split at h
       ·rename_i e es;split at h
        ·rename_i fa v h1;split at h
         ·rename_i hg;cases h;have g:=Ey hd _ _ _ h1;exact CM g.1 rfl (λ _ _=>rfl) λ X M xs m=>xS ho xs m G.1 hg g.2.1 (g.2.2 X M xs m)
         ·cases h
        ·cases h
       ·cases h
      ·split at h
       ·rename_i _ _ _ _ nn F hF;split at h
        ·rename_i e es;split at h
         ·rename_i fa v h1;split at h
          ·rename_i hg;cases h;have g:=Ey hd _ _ _ h1;rw [hΓ] at hF;obtain ⟨d1,d2,fa',fd,ps,d3,d4,d5,d6,d7⟩:=G.2 _ _ _ _ hF;refine CM g.1 rfl (λ _ _=>rfl) λ X M xs m=>?_;have hs:=g.2.1;rw [GP,Ba] at hs;obtain ⟨xp,xw,xK,xm,xb,_,_,_,xr,_⟩:=id xs;subst xp xw xK xm xb;have mk:M.K=X.K:=m.K;have hps:=xs.ps;rw [<- m.W] at hps;refine BQ (v9 d7 xr (xs.gl hg) d3 d4 d5 hps (g.2.2 X M xs m) d1 (Dl (Dr hs.1)) (Nu hs.2)) λ σ H Q q=>?_
           have:=kf d2 q
           rw [mk] at this;exact this
          ·cases h
         ·cases h
        ·cases h
       ·cases h
       ·cases h
    ·cases h
   ·cases h
  ·rename_i elt gs scope pos;split at h
   ·rename_i tg it ifs hgs;have hgs:=jB hgs;subst hgs;split at h
    rotate_left
    ·cases h
    rename_i ys asg iw ht hi;split at h
    ·rename_i hc;split at h
     ·rename_i t g vE h1 h2;cases h;have ck:=VI hc.1;have giw:=MW hd (MX n S') G.1 hi;have hS2:∀ i,∀ j∈(Bc S' scope ys iw.vs).alF i,(Bc S' scope ys iw.vs).msF j=false:=λ i j hj=>by
       rw [Ql] at hj;show S'.msF j=false;split at hj
       ·exact hS i j hj
       ·split at hj
        ·exact giw.1 j hj
        ·cases hj
      have hd2:∀ e f vs,Bu n (Bc S' scope ys iw.vs) e=some (f,vs)->AQ P w K mg base lvl (Bc S' scope ys iw.vs) e f vs:=λ e f vs h=>ih _ e f vs hΓ hΓm hX hS2 h;exact ye ⟨ht,hc.2,ck,giw,hd2 _ _ _ h2,Yw hd2 h1⟩
     ·cases h
    ·cases h
   ·cases h
  ·cases h
end
section
variable {is:List Nat}{M:Fm}{ρ ρ':Ae}{σ σ':St}{H H' H'':Hp}{fps fps' fps'':AU}{vs vs':List Nat}
def GN:Fs:=λ _=>.no
def V9 {t:TS}{D:Ends} (hq:tS M GN D σ H):t D σ H:=by
 obtain ⟨ρ,fps,rep,q⟩:=hq;exact q.elim
def Cn (asg:PV->Ae->Option Ae) (f:Fx) (vs:List Nat):Fs:=λ ρ=>match f ρ with
 | .ok (x,d,ρ1)=>(match asg x (Bj d vs ρ1) with
  | some ρ2=>.nx ρ2
  | none=>.no)
 | .exc c=>.exc c
 | .no=>.no
theorem z6 {g:TG}{asg:PV->Ae->Option Ae}{f:Fx}{D:Ends} (hal:∀ i,M.al i=[]) (hv:∀ i∈vs,M.Ms i=false) (hg:Dd M [] is g asg) (hq:tS M (Cn asg f vs) D σ H):EL (tE M f vs) g D σ H:=by
 obtain ⟨ρ,fps,rep,q⟩:=hq;refine ⟨ρ,fps,rep,?_⟩;unfold Cn at q;cases ef:f ρ with
 | no=>rw [ef] at q;exact q
 | exc c=>rw [ef] at q;exact λ H' fps' k=>q _ H' fps' k.ks
 | ok p=>
  obtain ⟨x,d,ρ1⟩:=p;rw [ef] at q;intro v H1 fps1 f1 k1 g1 rep1 o1 t1;obtain ⟨fps2,k2,r2,o2⟩:=Rep.seen rep k1 g1 rep1 o1 t1 hal hv;dsimp only at q;cases ea:asg x (Bj d vs ρ1) with
  | none=>rw [ea] at q;exact q.elim
  | some ρ2=>
   rw [ea] at q;refine hg x v _ σ H1 fps2 ρ2 _ r2 (o2.weak λ a h=>h.zf) ea λ σ' fps' s1 _ _ r'=>q σ' H1 fps' (k2.trans ⟨λ _ _ h _=>h,λ _ h=>h,λ j a ha=>.inl ⟨j,s1 j a ha⟩⟩) r'
def Rep.change {i:Nat}{x x':PV}{d d':Nat}{v:V}{f':List Addr} (hal:∀ i,M.al i=[]) (r:Rep M ρ σ H fps) (hi:ρ[i]?=some (some (x,d))) (hσ:σ[i]?=some (some v)) (k:D5 (λ a=>a∈fps i) H H') (dm:∀ a,H a≠none->H' a≠none) (hs:∀ b∈f',b∈fps i)
  (hm:M.Ms i=true->d'=om) (o:Own M.K H' (Zf M (λ j=>if j=i then f' else fps j)) x' d' v f'):Rep M (ρ.set i (some (x',d'))) σ H' (λ j=>if j=i then f' else fps j):=by
 have hlen:i < ρ.length:=(jb0.mp hi).1;have inI:∀ j,∀ b∈(if j=i then f' else fps j),b∈fps j:=λ j b hb=>by
  by_cases e:j=i
  ·rw [if_pos e] at hb;rw [e];exact hs b hb
  ·rw [if_neg e] at hb;exact hb
 refine ⟨λ j y c hj=>?_,λ j hj=>?_,λ j k hjk b hb hc=>r.dj j k hjk b (inI j b hb) (inI k b hc),λ j b hb z=>r.zo j b (inI j b hb) z,λ j hj b hb=>r.fr j hj b (inI j b hb),λ b z=>dm b (r.zd b z),by rw [DB];exact r.len,λ j y c hj hc=>?_,λ b z=>dm b (r.h0 b z),r.iov⟩
 ·by_cases ej:j=i
  ·subst ej;rw [DT hlen] at hj;cases hj;refine ⟨v,hσ,?_⟩;rw [if_pos rfl];exact o.weak λ a h=>h.zf
  ·rw [CK (BE ej)] at hj;obtain ⟨u,hu,ou⟩:=r.own j y c hj;refine ⟨u,hu,?_⟩;rw [if_neg ej];refine Own.move (S:=λ a=>a∈fps i) k (λ a ha=>⟨.inr ⟨i,(by rw [hal j];intro z;cases z),ha⟩,r.lsts ha⟩) (λ a _ nz z=>nz ?_) y c u (fps j) (λ a ha z=>r.dj j i ej a ha z) ou;rcases z with z | ⟨l,nl,z⟩
   ·exact .inl z
   ·exact .inr ⟨l,nl,inI l a z⟩
 ·by_cases ej:j=i
  ·subst ej;exact absurd (DT hlen) (hj (x',d'))
  ·rw [if_neg ej];exact r.non j λ p hp=>hj p (by rw [CK (BE ej)];exact hp)
 ·by_cases ej:j=i
  ·subst ej;rw [DT hlen] at hc;cases hc;exact hm hj
  ·rw [CK (BE ej)] at hc;exact r.msf j y c hj hc
def Dz (i:Nat) (f:Fx) (vs:List Nat):Fs:=λ ρ=>match ρ[i]? with
 | some (some (.lst _,0))=>.no
 | some (some (.lst _,_ + 1))=>(match f ρ with
  | .ok (.lst ys,e,ρ1)=>(match (Bj e vs ρ1)[i]? with
   | some (some (.lst xs,d))=>if d≠0/\xs.length + ys.length<=Aw then .nx ((Bj e vs ρ1).set i (some (.lst (xs++ys),1))) else .no
   | _=>.no)
  | .ok _=>.no
  | .exc c=>.exc c
  | .no=>.no)
 | _=>.no
def zq {f:Fx}{i:Nat}{D:Ends} (hal:∀ i,M.al i=[]) (hv:∀ i∈vs,M.Ms i=false) (hm:M.Ms i=false) (hq:tS M (Dz i f vs) D σ H):O7 (Rt M.K "list" WX (DF i) (OA (tE M f vs) HH)) D σ H:=by
 obtain ⟨ρ,fps,rep,q⟩:=hq;unfold Dz at q;split at q
 ·exact q.elim
 ·rename_i xs0 d0 e0;obtain ⟨v,hσ,o⟩:=rep.own0 hal i _ _ e0;obtain ⟨a,ws0,fc0,rfl,ha0,hfp0,_,_⟩:=o.list (YX _);refine ⟨_,hσ,Xj (.inl (.inl ha0)),ρ,fps,rep,?_⟩;cases ef:f ρ with
  | no=>rw [ef] at q;exact q
  | exc c=>rw [ef] at q;exact λ H' fps' k=>q _ H' fps' k.ks
  | ok p=>
   obtain ⟨y,e,ρ1⟩:=p;rw [ef] at q;cases y with
   | lst ys=>
    intro w H1 fps1 fp k1 g1 rep1 o1 t1;dsimp only at q;split at q
    ·rename_i xs d es;split at q
     ·rename_i hc;obtain ⟨fps2,k2,r2,o2,n2,s2,h2⟩:=Rep.behind rep k1 g1 rep1 o1 t1 hal hv;obtain ⟨v',hσ',ol⟩:=r2.own0 hal i _ _ es;rw [hσ] at hσ';cases hσ';obtain ⟨a',ws,fc,ev,ha,hfp,nac,hol⟩:=ol.list hc.1;cases ev;have hai:a∈fps2 i:=by rw [hfp];exact AH
      have hafp:a∉fp:=λ z=>n2 a z (.inr ⟨i,hai⟩);have hst:∃ j,a∈fps j:=⟨i,by have:=s2 i a hai;rw [k1.same i hm] at this;exact this⟩
      have zsub:∀ b,Zf M (λ j=>if j=i then [a] else fps2 j) b->Zf (M.plus fp) fps2 b:=λ b h=>by
       rcases h with z | ⟨j,z⟩
       ·exact .inl (.inl z)
       ·by_cases ej:j=i
        ·simp only [if_pos ej] at z;rw [jb6.mp z];exact .inr ⟨i,hai⟩
        ·simp only [if_neg ej] at z;exact .inr ⟨j,z⟩
      have nf:∀ b∈fc,¬ Zf M (λ j=>if j=i then [a] else fps2 j) b:=λ b hb z=>by
       have hbi:b∈fps2 i:=by rw [hfp];exact AI _ hb
       rcases z with z | ⟨j,z⟩
       ·exact r2.zo i b hbi (.inl z)
       ·by_cases ej:j=i
        ·simp only [if_pos ej] at z;rw [jb6.mp z] at hb;exact nac hb
        ·simp only [if_neg ej] at z;exact r2.dj i j (BE ej) b hbi z
      have nfp:∀ b∈fp,¬ Zf M (λ j=>if j=i then [a] else fps2 j) b:=λ b hb z=>by
       rcases z with z | ⟨j,z⟩
       ·exact n2 b hb (.inl z)
       ·by_cases ej:j=i
        ·simp only [if_pos ej] at z;rw [jb6.mp z] at hb;exact hafp hb
        ·simp only [if_neg ej] at z;exact n2 b hb (.inr ⟨j,z⟩)
      have za:Zf M (λ j=>if j=i then [a] else fps2 j) a:=.inr ⟨i,by simp⟩;have u1:=(OwnL.freeze (Z':=Zf M (λ j=>if j=i then [a] else fps2 j)) zsub xs _ ws fc nf hol)
      have u2:=(Own.freeze (Z':=Zf M (λ j=>if j=i then [a] else fps2 j)) (λ b h=>by
       rcases h with z | ⟨j,z⟩
       ·exact .inl (.inl z)
       ·by_cases ej:j=i
        ·simp only [if_pos ej] at z;rw [jb6.mp z];exact .inl (.inr ⟨i,hai⟩)
        ·simp only [if_neg ej] at z;exact .inl (.inr ⟨j,z⟩)) (.lst ys) _ w fp nfp o2)
      obtain ⟨b,us,rfl,hb,u3⟩:=u2.coldL;refine ⟨a,b,ws,us,rfl,rfl,ha,hb,by rw [hol.length,u3.length];exact hc.2,?_⟩;refine q σ _ _ (k2.write (i:=i) (f':=[]) (fp:=fp) hst λ b hb=>?_) (r2.rewrite hal es hσ ha hfp (λ z=>nomatch z) (λ b hb=>nomatch hb) (by decide) (λ h=>by rw [hm] at h;cases h) h2 ?_)
      ·rcases jb5.mp hb with z | z
       ·exact .inl (by rw [z];exact hai)
       ·cases z
      ·rw [Ls];exact OwnL.append0 (u3.at za ⟨.l ws,ha⟩ (λ z=>nomatch z) λ _ _ n=>n) (u1.at za ⟨.l ws,ha⟩ (λ z=>nomatch z) λ _ _ n=>n)
     ·exact q.elim
    ·exact q.elim
   | _=>exact q.elim
 ·exact q.elim
def qe {P:AA}{w:A4}{K:Frag}{mg:Str->Option Ad}{base:Heap}{lvl:Nat}{fa:Addr}{fd:CQ}{ps:List Str}{io:Bool}{np:Nat} (h:ps.length=np):FnOk P w K mg base (AV P w K) lvl fa fd ps (AZ K io np (λ _=>.no)):=
 ⟨λ vs H Q E h1=>h1.1.trans h.symm,λ A outer s H args us vs Q E _ _ _ _ h1=>by
  obtain ⟨_,_,_,_,_,z⟩:=h1;exact z.elim⟩
end
def vO {X:Cx}:M6 X (HJ X.K):=by
 intro pins s σ H o i ov iv Q I rx ry h;obtain ⟨p,xs,k,z,rfl,rfl,hq,he,q⟩:=h;cases rx;obtain ⟨t,rfl⟩:=ry;obtain ⟨its,r,pl,hz⟩:=I.list hq;obtain ⟨j,h1,h2,h3,h4,h5⟩:=MQ he;obtain ⟨w,ew,rw'⟩:=r.get h2;have hl:=r.length;have hn:=Je;have fin:EP X pins σ Q w s:=⟨z,H,I,rw',q⟩
 by_cases h0:0<=k
 ·have hj:k.toNat=j:=by
   rw [N3 h0 h5] at h1;exact Option.some.inj h1
  exact wpAny_getItem_list pl.isList h0 (by omega) (by rw [hj];simpa using ew) fin
 ·have hj:(k + (its.toArray.size:Int)).toNat=j:=by
   rw [seqIndex_neg (by omega) h4] at h1;rw [Ca,<- hl];exact Option.some.inj h1
  exact wpAny_getItem_list_neg pl.isList (by omega) (by rw [Ca] <;> omega) (by omega) (by rw [hj];simpa using ew) fin
section
variable {M:Fm}{ρ ρ':Ae}{σ σ':St}{H H' H'':Hp}{fps fps' fps'':AU}{vs vs':List Nat}
end
section
variable {is:List Nat}{M:Fm}{ρ ρ':Ae}{σ σ':St}{H H' H'':Hp}{fps fps' fps'':AU}{vs vs':List Nat}{D:Ends}
end
section
variable {is:List Nat}{M:Fm}{ρ ρ':Ae}{σ σ':St}{H H' H'':Hp}{fps fps' fps'':AU}{vs vs':List Nat}{D:Ends}
end
def DG (i j:Nat) (fa:Fa):Fs:=λ ρ=>match fa ρ with
 | .ok (xs,ρ1)=>(match xs with
  | [(.int a,_),(.int b,_)]=>(match By [i,j] [.int a,.int b] ρ1 with
   | some ρ2=>.nx ρ2
   | none=>.no)
  | _=>.no)
 | .exc c=>.exc c
 | .no=>.no
section
variable {M:Fm}{fa:Fa}{vs:List Nat}{i j:Nat}{σ:St}{H:Hp}
theorem zv {D:Ends} (hb:∀ k∈[i,j],Bd M [] k) (hq:tS M (DG i j fa) D σ H):LD i j (tL M fa vs) D σ H:=by
 obtain ⟨ρ,fps,rep,q⟩:=hq;refine ⟨ρ,fps,rep,?_⟩;unfold DG at q;cases ef:fa ρ with
 | no=>rw [ef] at q;exact q
 | exc c=>rw [ef] at q;exact λ H' fps' k=>q _ H' fps' k.ks
 | ok p=>
  obtain ⟨xs,ρ1⟩:=p;rw [ef] at q;intro ws H1 fps1 f1 k1 g1 rep1 o1 t1;dsimp only at q;split at q
  ·rename_i a d b e;rw [Tmps] at o1;obtain ⟨v,r,h1,h2,rfl,rfl,_,oa,o1⟩:=o1;rw [Tmps] at o1;obtain ⟨w,r',h3,h4,rfl,rfl,_,ob,o1⟩:=o1;rw [Tmps] at o1;obtain ⟨rfl,rfl⟩:=o1;rw [Own] at oa ob;obtain ⟨rfl,rfl⟩:=oa;obtain ⟨rfl,rfl⟩:=ob;split at q
   ·rename_i ρ2 ea;have ow:OwnL M.K H1 (Zv M [] fps1) [.int a,.int b] 0 [.int a,.int b] []:=by
     rw [OwnL];refine ⟨.int a,[.int b],[],[],rfl,rfl,(λ _ z=>nomatch z),by rw [Own];exact ⟨rfl,rfl⟩,?_⟩;rw [OwnL];exact ⟨.int b,[],[],[],rfl,rfl,(λ _ z=>nomatch z),by rw [Own];exact ⟨rfl,rfl⟩,by rw [OwnL];exact ⟨rfl,rfl⟩⟩
    have:=(MY [i,j] [.int a,.int b] [.int a,.int b] ρ1 σ H1 fps1 ρ2 D.nx hb rep1 ow ea λ σ' fps' s1 _ _ r'=>q σ' H1 fps' (k1.ks.trans ⟨λ _ _ h _=>h,λ _ h=>h,λ j a ha=>.inl ⟨j,s1 j a ha⟩⟩) r').2
    obtain ⟨_,_,e1,z⟩:=this;cases e1;obtain ⟨_,_,e2,z⟩:=z;cases e2;exact ⟨_,_,rfl,z.2⟩
   ·exact q.elim
  ·exact q.elim
end
def RL (a b:Expr) (px py:Pos):Bool:=Fj a && Fj b && (px.line == py.line) && !([a,b].all (foldedForSure 8)) && !([a,b].all (constantsAlone 8))
def xj {X:Cx}{x y:Str}{a b:Expr}{px py pt pt2:Pos}{kt k2:Nat} (hk:X.env.scope.kind=.function) (hx:X.env.scope.names.lookup x=some .local) (hy:X.env.scope.names.lookup y=some .local) (hxy:x≠y) (h:RL a b px py=true):Jr [.Tuple [.Name x px,.Name y py] kt pt] (.Tuple [a,b] k2 pt2) X.env=pure (some [x,y]):=by
 unfold RL at h;simp only [Ba,Pg] at h;obtain ⟨⟨⟨⟨ha,hb⟩,hl⟩,h1⟩,h2⟩:=h;have bk:X.env.blockKind=.function:=by unfold Env.blockKind;rw [hk];rfl
 have kx:X.env.kindOf x=some .local:=hx;have ky:X.env.kindOf y=some .local:=hy;have el:py.line=px.line:=(eq_of_beq hl).symm;have er:[x,y].eraseDups=[x,y]:=by
  have:(y == x)=false:=beq_eq_false_iff_ne.mpr (BE hxy)
  simp [Zj,this]
 have hp:∀ (z:Str) (p:Pos),(Expr.Name z p).pos=p:=λ _ _=>rfl;unfold Jr;simp [bk,kx,ky,el,er,h1,h2,hp];intro hh;rcases hh with hh | hh
 ·cases a <;> first | (cases hh;done) | (cases ha;done)
 ·cases b <;> first | (cases hh;done) | (cases hb;done)
end QQ
namespace L2
open PySem PySem.Spec PyProof.Rows
variable {X:Cx}{pos:Pos}
def LC (i j k:Nat) (ta:TA):TS:=λ D σ H=>ta σ H λ vs H1=>∃ v w u,vs=[v,w,u]/\D.nx (((σ.set i (some v)).set j (some w)).set k (some u)) H1
def x9 {i j k:Nat}{x y z:Str}{a b c:Expr}{ta:TA}{px py pz pt:Pos}{kt k2 pt2} (hc:X.calm=true) (hN:X.N.Nodup) (hi:X.N[i]?=some x) (hj:X.N[j]?=some y) (hk:X.N[k]?=some z) (hij:i≠j) (hik:i≠k) (hjk:j≠k)
  (hx:X.env.scope.names.lookup x=some .local) (hy:X.env.scope.names.lookup y=some .local) (hz:X.env.scope.names.lookup z=some .local) (ha:PA X [a,b,c] ta)
  (hw:Jr [.Tuple [.Name x px,.Name y py,.Name z pz] kt pt] (.Tuple [a,b,c] k2 pt2) X.env=pure (some [x,y,z]))
  (hs:swapsWithSole [.Tuple [.Name x px,.Name y py,.Name z pz] kt pt] (.Tuple [a,b,c] k2 pt2) pos.line X.env=pure false:=by rfl):
  PS X (.Assign [.Tuple [.Name x px,.Name y py,.Name z pz] kt pt] (.Tuple [a,b,c] k2 pt2) pos) (LC i j k ta):=by
 intro pins s σ H D I h;rw [exec_Assign_arm];refine Ag (L4 ?_);rw [hs];refine Ag (Ao ?_);rw [if_neg (by decide)];refine Ag (Tuple_ (Az (ha _ pins s σ H _ I h) λ us s1 ⟨vs,H1,I1,r1,q1⟩=>?_));obtain ⟨v,w,u,e1,q1⟩:=q1;subst e1;obtain ⟨u1,u2,u3,rfl,rv,rw',ru⟩:∃ u1 u2 u3,us=[u1,u2,u3]/\RelV v u1/\RelV w u2/\RelV u u3:=by
  cases r1 with
  | cons p q=>
   cases q with
   | cons p' q'=>
    cases q' with
    | cons p'' q''=>
     cases q'';exact ⟨_,_,_,rfl,p,p',p''⟩
 refine DS ?_ (by show 3<=Aw;decide);have I2:Inv X pins σ H1 { s1 with heap:=s1.heap.push { cls:=.type "tuple",data:=.seq [u1,u2,u3].toArray } }:=I1.kept (t':=s1.toks) λ b o e=>Bb _ e;rw [hw];refine Ag (Ao ?_);show Ak (Av X.prog X.w) X.A (do rule "assign.swapped-stores";let items<-unpackItems (.ref s1.heap.objs.size) 3 none;L3 [λ v=>GK X.env z v,λ v=>GK X.env y v,λ v=>GK X.env x v] items.reverse;pure Flow.next) _ _ _;refine Ag (L0 (Ag (unpackItems_tuple (items:=#[u1,u2,u3]) (I.ok.hd hc) (IsTup.new s1.heap _) λ h' hx'=>?_)));have I3:=I2.kept (h':=h') (t':=s1.toks) λ b o e=>hx' b o (Cf (AO e)) e;show Ak _ _ (L3 [λ v=>GK X.env z v,λ v=>GK X.env y v,λ v=>GK X.env x v] [u3,u2,u1] >>= λ _=>pure Flow.next) _ _ _;refine Ag (Kv (L6 (Jc I3 hN hk (.inl hz) ru (λ s2 I4=>?_) (.inr hz))));refine Kv (L6 (Jc I4 hN hj (.inl hy) rw' (λ s3 I5=>?_) (.inr hy)));refine Kv (L6 (Jc I5 hN hi (.inl hx) rv (λ s4 I6=>QT (Ao ?_)) (.inr hx)));rw [OZ _ _ (BE hjk),OZ _ _ (BE hik),OZ _ _ (BE hij)] at I6;exact ⟨_,H1,I6,q1⟩
end L2
namespace QQ
open PySem PySem.Spec PyProof.Rows L2
def EN (i j k:Nat) (fa:Fa):Fs:=λ ρ=>match fa ρ with
 | .ok (xs,ρ1)=>(match xs with
  | [(.int a,_),(.int b,_),(.int c,_)]=>(match By [i,j,k] [.int a,.int b,.int c] ρ1 with
   | some ρ2=>.nx ρ2
   | none=>.no)
  | _=>.no)
 | .exc c=>.exc c
 | .no=>.no
section
variable {M:Fm}{fa:Fa}{vs:List Nat}{i j k:Nat}{σ:St}{H:Hp}
theorem zw {D:Ends} (hb:∀ m∈[i,j,k],Bd M [] m) (hq:tS M (EN i j k fa) D σ H):LC i j k (tL M fa vs) D σ H:=by
 obtain ⟨ρ,fps,rep,q⟩:=hq;refine ⟨ρ,fps,rep,?_⟩;unfold EN at q;cases ef:fa ρ with
 | no=>rw [ef] at q;exact q
 | exc c=>rw [ef] at q;exact λ H' fps' k=>q _ H' fps' k.ks
 | ok p=>
  obtain ⟨xs,ρ1⟩:=p;rw [ef] at q;intro ws H1 fps1 f1 k1 g1 rep1 o1 t1;dsimp only at q;split at q
  ·rename_i a d b e c e';rw [Tmps] at o1;obtain ⟨v,r,h1,h2,rfl,rfl,_,oa,o1⟩:=o1;rw [Tmps] at o1;obtain ⟨w,r',h3,h4,rfl,rfl,_,ob,o1⟩:=o1;rw [Tmps] at o1;obtain ⟨u,r'',h5,h6,rfl,rfl,_,oc,o1⟩:=o1;rw [Tmps] at o1;obtain ⟨rfl,rfl⟩:=o1;rw [Own] at oa ob oc;obtain ⟨rfl,rfl⟩:=oa;obtain ⟨rfl,rfl⟩:=ob;obtain ⟨rfl,rfl⟩:=oc;split at q
   ·rename_i ρ2 ea;have ow:OwnL M.K H1 (Zv M [] fps1) [.int a,.int b,.int c] 0 [.int a,.int b,.int c] []:=by
     rw [OwnL];refine ⟨.int a,[.int b,.int c],[],[],rfl,rfl,(λ _ z=>nomatch z),by rw [Own];exact ⟨rfl,rfl⟩,?_⟩;rw [OwnL];refine ⟨.int b,[.int c],[],[],rfl,rfl,(λ _ z=>nomatch z),by rw [Own];exact ⟨rfl,rfl⟩,?_⟩;rw [OwnL];exact ⟨.int c,[],[],[],rfl,rfl,(λ _ z=>nomatch z),by rw [Own];exact ⟨rfl,rfl⟩,by rw [OwnL];exact ⟨rfl,rfl⟩⟩
    have:=(MY [i,j,k] [.int a,.int b,.int c] [.int a,.int b,.int c] ρ1 σ H1 fps1 ρ2 D.nx hb rep1 ow ea λ σ' fps' s1 _ _ r'=>q σ' H1 fps' (k1.ks.trans ⟨λ _ _ h _=>h,λ _ h=>h,λ j a ha=>.inl ⟨j,s1 j a ha⟩⟩) r').2
    obtain ⟨_,_,e1,z⟩:=this;cases e1;obtain ⟨_,_,e2,z⟩:=z;cases e2;obtain ⟨_,_,e3,z⟩:=z;cases e3;exact ⟨_,_,_,rfl,z.2⟩
   ·exact q.elim
  ·exact q.elim
end
def RP (a b c:Expr) (px py pz:Pos):Bool:=Fj a && Fj b && Fj c && (px.line == py.line) && (px.line == pz.line) && !([a,b,c].all (foldedForSure 8)) && !([a,b,c].all (constantsAlone 8))
def zh {X:Cx}{x y z:Str}{a b c:Expr}{px py pz pt pt2:Pos}{kt k2:Nat} (hk:X.env.scope.kind=.function) (hx:X.env.scope.names.lookup x=some .local) (hy:X.env.scope.names.lookup y=some .local) (hz:X.env.scope.names.lookup z=some .local) (hxy:x≠y) (hxz:x≠z) (hyz:y≠z) (h:RP a b c px py pz=true):Jr [.Tuple [.Name x px,.Name y py,.Name z pz] kt pt] (.Tuple [a,b,c] k2 pt2) X.env=pure (some [x,y,z]):=by
 unfold RP at h;simp only [Ba,Pg] at h;obtain ⟨⟨⟨⟨⟨⟨ha,hb⟩,hc⟩,hl⟩,hm⟩,h1⟩,h2⟩:=h;have bk:X.env.blockKind=.function:=by unfold Env.blockKind;rw [hk];rfl
 have kx:X.env.kindOf x=some .local:=hx;have ky:X.env.kindOf y=some .local:=hy;have kz:X.env.kindOf z=some .local:=hz;have el:py.line=px.line:=(eq_of_beq hl).symm;have em:pz.line=px.line:=(eq_of_beq hm).symm;have er:[x,y,z].eraseDups=[x,y,z]:=by
  have e1:(y == x)=false:=beq_eq_false_iff_ne.mpr (BE hxy);have e2:(z == x)=false:=beq_eq_false_iff_ne.mpr (BE hxz);have e3:(z == y)=false:=beq_eq_false_iff_ne.mpr (BE hyz);simp [Zj,e1,e2,e3]
 have hp:∀ (z:Str) (p:Pos),(Expr.Name z p).pos=p:=λ _ _=>rfl;unfold Jr;simp [bk,kx,ky,kz,el,em,er,h1,h2,hp];intro hh;rcases hh with hh | hh | hh
 ·cases a <;> first | (cases hh;done) | (cases ha;done)
 ·cases b <;> first | (cases hh;done) | (cases hb;done)
 ·cases c <;> first | (cases hh;done) | (cases hc;done)
section
variable {is:List Nat}{X:Cx}{M:Fm}{ρ ρ':Ae}{σ σ':St}{H H' H'':Hp}{fps fps' fps'':AU}{vs vs':List Nat}{D:Ends}
def V0:Fe:=λ o i v H Q=>∃ a H',o=.ref a/\DPut H a i v H'/\Q H'
def qR (hu:X.A.units + 1 < D9):HZ X V0:=by
 intro pins s σ H o i v ov iv u Q I ro ri rv h;obtain ⟨a,H',rfl,g,q⟩:=h;obtain rfl:ov=Value.ref a:=ro;exact wD hu I g ri rv λ s' I'=>⟨H',I',q⟩
def Hv (k:List Ax) (y:PV):List (List Ax)->List PV->List PV
 | k'::ks,x::xs=>(if k'=k then y else x)::Hv k y ks xs
 | _,_=>[]
def EY (ks:List (List Ax)) (k:List Ax):Bool:=ks.any λ k'=>decide (k'=k)
def Ho (ks:List (List Ax)) (xs:List PV) (k:List Ax) (y:PV):PV:=if EY ks k=true then .dcl ks (Hv k y ks xs) else .dcl (ks++[k]) (xs++[y])
def Vz:PV->Option (List (List Ax)×List PV)
 | .dct []=>some ([],[])
 | .dcl ks xs=>some (ks,xs)
 | _=>none
theorem Y1 {K:Frag}{Z:Addr->Prop}{k:List Ax}{y:PV}{w:V} (hy:Own K H Z y 0 w []):∀ {ks:List (List Ax)}{xs:List PV}{ws:List V},OwnL K H Z xs 0 ws []->ks.length=xs.length->∃ ws',(ks.zip ws).map (λ kv=>if kv.1=k then (kv.1,w) else kv)=ks.zip ws'/\OwnL K H Z (Hv k y ks xs) 0 ws' []/\(Hv k y ks xs).length=ks.length
 | [],[],ws,h,_=>⟨[],rfl,by unfold Hv;rw [OwnL];exact ⟨rfl,rfl⟩,rfl⟩
 | [],_::_,ws,h,e=>by cases e
 | _::_,[],ws,h,e=>by cases e
 | k'::ks,x::xs,ws,h,e=>by
  rw [OwnL] at h;obtain ⟨v,s,f1,f2,rfl,ef,_,o1,o2⟩:=h;obtain ⟨rfl,rfl⟩:f1=[]/\f2=[]:=by simpa using ef.symm
  obtain ⟨ws',e1,o3,e3⟩:=Y1 hy (k:=k) o2 (by simpa using e);refine ⟨(if k'=k then w else v)::ws',?_,?_,by unfold Hv;rw [Bh,e3,Bh]⟩
  ·rw [Pl,BF,e1,Pl];congr 1;dsimp only;split <;> rfl
  ·unfold Hv;rw [OwnL];refine ⟨_,_,[],[],rfl,rfl,λ _ z=>(nomatch z),?_,o3⟩;split
   ·exact hy
   ·exact o1
theorem Xl {k:List Ax}:∀ {ks:List (List Ax)}{ws:List V},ks.length=ws.length->((ks.zip ws).any λ kv=>decide (kv.1=k))=EY ks k
 | [],[],_=>rfl
 | [],_::_,e=>by cases e
 | _::_,[],e=>by cases e
 | k'::ks,w::ws,e=>by
  have:=Xl (k:=k) (ks:=ks) (ws:=ws) (by simpa using e)
  unfold EY at this ⊢;rw [Pl,Mp,Mp,this]
def yz {K:Frag}{Z:Addr->Prop}{k:List Ax}{y:PV}{w:V}{ks:List (List Ax)}{xs:List PV}{ws:List V} (hy:Own K H Z y 0 w []) (h:OwnL K H Z xs 0 ws []) (e:ks.length=xs.length):∃ ks' xs' ws',Ho ks xs k y=.dcl ks' xs'/\Co (ks.zip ws) k w=ks'.zip ws'/\OwnL K H Z xs' 0 ws' []/\ks'.length=xs'.length:=by
 unfold Ho Co;rw [Xl (by rw [e,h.length])];by_cases hk:EY ks k=true
 ·rw [if_pos hk,if_pos hk];obtain ⟨ws',e1,o1,e2⟩:=Y1 hy (k:=k) h e;exact ⟨ks,_,ws',rfl,e1,o1,e2.symm⟩
 ·rw [if_neg hk,if_neg hk];refine ⟨_,_,ws++[w],rfl,?_,?_,by rw [BI,BI,e];rfl⟩
  ·rw [List.zip_append (by rw [e,h.length])];rfl
  ·have:=h.snoc hy (λ _ z=>nomatch z)
   exact this
def E1 (i:Nat) (fk f:Fx):Fs:=λ ρ=>match f ρ with
 | .ok (y,e,ρ1)=>(match ρ1[i]? with
  | some (some _)=>(match fk ρ1 with
   | .ok (k,_,ρ2)=>(match ρ2[i]? with
    | some (some (x,d))=>(match Vz x,k with
      | some (ks,xs),.tup key=>(match Cp key with
       | some kk=>if d≠0/\e=om/\ks.length < Aw then .nx (ρ2.set i (some (Ho ks xs kk y,1))) else .no
       | none=>.no)
      | _,_=>.no)
    | _=>.no)
   | _=>.no)
  | _=>.no)
 | .exc c=>.exc c
 | .no=>.no
theorem kJ {f fk:Fx}{vk:List Nat}{i:Nat} (hal:∀ i,M.al i=[]) (hm:M.Ms i=false) (hv:∀ i∈vs,M.Ms i=false) (hq:tS M (E1 i fk f) D σ H):EL (tE M f vs) (M0 (DF i) (tE M fk vk) V0) D σ H:=by
 obtain ⟨ρ,fps,rep,q⟩:=hq;refine ⟨ρ,fps,rep,?_⟩;unfold E1 at q;cases ef:f ρ with
 | no=>rw [ef] at q;exact q
 | exc c=>rw [ef] at q;exact λ H' fps' k=>q _ H' fps' k.ks
 | ok p=>
  obtain ⟨y,e,ρ1⟩:=p;rw [ef] at q;intro w H1 fps1 fp k1 g1 rep1 o1 t1;dsimp only at q;cases e1:ρ1[i]? with
  | none=>rw [e1] at q;exact q.elim
  | some s1=>
   rw [e1] at q;cases s1 with
   | none=>exact q.elim
   | some p1=>
   obtain ⟨x1,d1⟩:=p1;dsimp only at q;obtain ⟨v0,hσ,_⟩:=rep1.own i _ _ e1;refine ⟨v0,hσ,ρ1,fps1,rep1,?_⟩;cases ek:fk ρ1 with
   | no=>rw [ek] at q;exact q.elim
   | exc c=>rw [ek] at q;exact q.elim
   | ok p2=>
    obtain ⟨k,ek',ρ2⟩:=p2;rw [ek] at q;intro kv H2 fps2 f2 k2 g2 rep2 o2 t2;dsimp only at q;cases e2:ρ2[i]? with
    | none=>rw [e2] at q;exact q.elim
    | some s2=>
     rw [e2] at q;cases s2 with
     | none=>exact q.elim
     | some p3=>
      obtain ⟨x,d⟩:=p3;dsimp only at q;split at q
      ·rename_i ks xs key ekv;split at q
       ·rename_i kk ekk;split at q
        ·rename_i hc;obtain ⟨hd,rfl,hlk⟩:=hc;obtain ⟨v1,hσ1,ox⟩:=rep2.own0 hal i _ _ e2;rw [hσ] at hσ1;cases hσ1;have hx:∃ a ws fc,v0=.ref a/\H2 a=some (.dT (ks.zip ws))/\fps2 i=a::fc/\a∉fc/\ks.length=xs.length/\OwnL M.K H2 (Zf M fps2) xs (pd d) ws fc:=by
          unfold Vz at ekv;split at ekv
          ·cases ekv;rw [Own] at ox;obtain ⟨a,ea,⟨d0,_⟩ | ⟨_,ha,hf⟩⟩:=ox
           ·exact absurd d0 hd
           ·exact ⟨a,[],[],ea,ha,hf,Gg,rfl,by rw [OwnL];exact ⟨rfl,rfl⟩⟩
          ·cases ekv;rw [Own] at ox;obtain ⟨a,ws,ea,en,⟨d0,_⟩ | ⟨_,fc,ha,hf,na,ol⟩⟩:=ox
           ·exact absurd d0 hd
           ·exact ⟨a,ws,fc,ea,ha,hf,na,en,ol⟩
          ·cases ekv
         obtain ⟨a,ws,fc,rfl,ha,hfp,nac,en,hol⟩:=hx;rw [Own] at o2;obtain ⟨kb,us,rfl,hkb,okey⟩:=o2
         have:=JU ekk okey
         subst this;have hai:a∈fps2 i:=by rw [hfp];exact AH
         have oy:=k2.stay rep1 hv o1 t1.ndj;have n2:∀ b∈fp,¬ Zf M fps2 b:=λ b hb z=>by
          rcases z with z | ⟨j,z⟩
          ·exact t1.ndj b hb (.inl z)
          ·rcases k2.sub j b z with z | z
           ·exact t1.ndj b hb (.inr ⟨j,z⟩)
           ·obtain ⟨o,ho⟩:=Own.lsts y _ w fp o1 b hb;rw [ho] at z;cases z
         have hafp:a∉fp:=λ z=>n2 a z (.inr ⟨i,hai⟩);have hst:∃ j,a∈fps j:=⟨i,by have:=(k1.trans k2).same i hm;rw [<- this];exact hai⟩
         let Z:Addr->Prop:=Zf M (λ j=>if j=i then [a] else fps2 j);have zsub:∀ b,Z b->Zf M fps2 b:=λ b h=>by
          rcases h with z | ⟨j,z⟩
          ·exact .inl z
          ·by_cases ej:j=i
           ·simp only [if_pos ej] at z;rw [jb6.mp z];exact .inr ⟨i,hai⟩
           ·simp only [if_neg ej] at z;exact .inr ⟨j,z⟩
         have nf:∀ b∈fc,¬ Z b:=λ b hb z=>by
          have hbi:b∈fps2 i:=by rw [hfp];exact AI _ hb
          rcases z with z | ⟨j,z⟩
          ·exact rep2.zo i b hbi z
          ·by_cases ej:j=i
           ·simp only [if_pos ej] at z;rw [jb6.mp z] at hb;exact nac hb
           ·simp only [if_neg ej] at z;exact rep2.dj i j (BE ej) b hbi z
         have za:Z a:=.inr ⟨i,by simp⟩;have u1:=OwnL.freeze (Z':=Z) zsub xs _ ws fc nf hol;have u2:=Own.freeze (Z':=Z) (λ b _=>trivial) y _ w fp (λ b hb z=>n2 b hb (zsub b z)) (Own.full (Z':=λ _=>True) y w fp oy);obtain ⟨ks',xs',ws',ex',ew',ox',en'⟩:=yz (k:=kk) u2 u1 en;have u3:=ox'.at (o:=.dT (Co (ks.zip ws) kk w)) za ⟨.d (ks.zip ws),ha⟩ (λ z=>nomatch z) λ _ _ n=>n;rw [ex'] at q;have hzl:(ks.zip ws).length < Aw:=by rw [Mu];have:=Tp ks.length ws.length;omega
         refine ⟨a,_,rfl,DPut.t ha hkb hzl,?_⟩;refine q σ _ _ ((k1.ks.trans k2.ks).write (i:=i) (f':=[]) (fp:=fp) hst λ b hb=>?_) (rep2.change (x':=.dcl ks' xs') (d':=1) (f':=[a]) hal e2 hσ (λ b u hb n=>by rw [AE (λ z=>n (by rw [z];exact hai))];exact hb) (λ b hb=>?_) (λ b hb=>by rw [jb6.mp hb];exact hai) (λ h=>by rw [hm] at h;cases h) ?_)
         ·rcases jb5.mp hb with z | z
          ·exact .inl (by rw [z];exact hai)
          ·cases z
         ·by_cases eb:b=a
          ·rw [eb,Bp];simp
          ·rw [AE eb];exact hb
         ·rw [Own];exact ⟨a,ws',rfl,en',.inr ⟨by decide,[],by rw [Bp,ew'],rfl,Gg,u3⟩⟩
        ·exact q.elim
       ·exact q.elim
      ·exact q.elim
end
def EG (c:Fb) (b:Fs):Nat->Fs
 | 0,_=>.no
 | n + 1,ρ=>match c ρ with
  | .ok (true,ρ1)=>(match b ρ1 with
   | .nx ρ2=>EG c b n ρ2
   | .ct ρ2=>EG c b n ρ2
   | .bk ρ2=>.nx ρ2
   | .rt x d ρ2=>.rt x d ρ2
   | .exc e=>.exc e
   | .no=>.no)
  | .ok (false,ρ1)=>.nx ρ1
  | .exc e=>.exc e
  | .no=>.no
def Wa (c:Fb) (b:Fs):Fs:=EG c b 300
theorem vV {M:Fm}{c:Fb}{b:Fs}{n:Nat}{D:Ends}{σ:St}{H:Hp} (hq:tS M (EG c b n) D σ H):Wf (tT M c) (tS M b) D σ H:=by
 refine ⟨λ m σ H=>tS M (EG c b m) D σ H,⟨n,hq⟩,?_⟩;rintro m σ H ⟨ρ,fps,rep,q⟩;cases m with
 | zero=>exact q.elim
 | succ m=>
  unfold EG at q;refine ⟨ρ,fps,rep,?_⟩;cases ec:c ρ with
  | no=>rw [ec] at q;exact q
  | exc x=>rw [ec] at q;exact λ H' fps' k=>q _ H' fps' k.ks
  | ok p=>
   obtain ⟨bb,ρ1⟩:=p;rw [ec] at q;intro H1 fps1 k1 g1 rep1;cases bb with
   | false=>
    rw [if_neg Cy];exact q σ H1 fps1 k1.ks rep1
   | true=>
    rw [if_pos rfl];refine ⟨λ σ H=>tS M (EG c b m) D σ H,λ σ' H' w=>⟨m,GQ m,w⟩,ρ1,fps1,rep1,?_⟩;dsimp only at q;have q:=RsOk.from k1.ks q;cases eb:b ρ1 with
    | no=>rw [eb] at q;exact q
    | exc x=>rw [eb] at q;exact q
    | rt x d ρ2=>rw [eb] at q;exact q
    | bk ρ2=>rw [eb] at q;exact q
    | nx ρ2=>rw [eb] at q;exact λ σ' H' fps' k r'=>⟨ρ2,fps',r',RsOk.from k q⟩
    | ct ρ2=>rw [eb] at q;exact λ σ' H' fps' k r'=>⟨ρ2,fps',r',RsOk.from k q⟩
section
variable {M:Fm}{ρ ρ':Ae}{σ σ':St}{H H':Hp}{fps fps':AU}{F F':Addr->Prop}{P P':List (Nat×V)}
end
section
variable {X:Cx}{M:Fm}{ρ:Ae}{σ:St}{H:Hp}{fps:AU}
end
section
variable {X:Cx}{M:Fm}{ρ:Ae}{σ:St}{H H':Hp}{fps:AU}{vs:List Nat}{fa:Fa}{Q:VK}{F:List Addr}{e:Expr}{es:List Expr}{p pos:Pos}
def J4 (g:Int->Int->Int) (i:Nat) (fj f:Fx):Fs:=λ ρ=>match ρ[i]?,fj ρ with
 | some (some (.lst xs,d)),.ok (.int b,_,ρ1)=>(match f ρ1 with
  | .ok (.int w,_,ρ2)=>(match DM xs.length b with
   | some j=>(match xs[j]? with
    | some (.int v)=>if d≠0 then .nx (ρ2.set i (some (.lst (xs.set j (.int (g v w))),d))) else .no
    | _=>.no)
   | none=>.no)
  | _=>.no)
 | _,_=>.no
theorem OwnL.atInt {K:Frag}{Z:Addr->Prop}{d:Nat}{v:Int}:∀ {xs:List PV}{ws:List V}{f:List Addr}{j:Nat},OwnL K H Z xs d ws f->xs[j]?=some (.int v)->ws[j]?=some (.int v)
 | [],ws,f,j,h,e=>by simp at e
 | x::xs,ws,f,0,h,e=>by
  cases e;rw [OwnL] at h;obtain ⟨u,s,f1,f2,rfl,_,_,h1,_⟩:=h;rw [Own] at h1;rw [h1.1];rfl
 | x::xs,ws,f,j + 1,h,e=>by
  rw [OwnL] at h;obtain ⟨u,s,f1,f2,rfl,_,_,_,h2⟩:=h;rw [IQ] at e ⊢;exact h2.atInt e
def kF {g:Int->Int->Int}{f fj:Fx}{vj:List Nat}{i:Nat}{D:Ends} (hal:∀ i,M.al i=[]) (hm:M.Ms i=false) (hq:tS M (J4 g i fj f) D σ H):VG (DF i) (tE M fj vj) (tE M f vs) (HJ M.K) (Pp g) V1 D σ H:=by
 obtain ⟨ρ,fps,rep,q⟩:=hq;unfold J4 at q;split at q
 ·rename_i xs d b db ρ1 ei e1;split at q
  ·rename_i w dw ρ2 e2;split at q
   ·rename_i j ej;split at q
    ·rename_i v0 ev0;split at q
     ·rename_i hd;obtain ⟨v,hσ,ov⟩:=rep.own0 hal i _ _ ei;obtain ⟨a0,_,_,rfl,_⟩:=ov.list hd;refine ⟨.ref a0,hσ,ρ,fps,rep,?_⟩;rw [e1];intro vb H1 fps1 fpb k1 g1 rep1 ob tb;rw [Own] at ob;obtain ⟨rfl,rfl⟩:=ob;have ei1:ρ1[i]?=some (some (.lst xs,d)):=by rw [g1.1 i hm];exact ei
      obtain ⟨v1,hσ1,ov1⟩:=rep1.own0 hal i _ _ ei1;rw [hσ] at hσ1;cases hσ1;obtain ⟨a1,ws1,f1,ea1,ha1,hf1,na1,hol1⟩:=ov1.list hd;cases ea1;refine ⟨a0,ws1,b,.int v0,rfl,rfl,.inl (.inl ha1),(by unfold BJ;rw [hol1.length,ej];exact hol1.atInt ev0),ρ1,fps1,rep1,?_⟩;rw [e2];intro vw H2 fps2 fpw k2 g2 rep2 ow tw;rw [Own] at ow;obtain ⟨rfl,rfl⟩:=ow;refine ⟨v0,w,rfl,rfl,?_⟩;have ei2:ρ2[i]?=some (some (.lst xs,d)):=by rw [g2.1 i hm];exact ei1
      obtain ⟨v2,hσ2,ov2⟩:=rep2.own0 hal i _ _ ei2;rw [hσ] at hσ2;cases hσ2;obtain ⟨a2,ws2,f2,ea2,ha2,hf2,na2,hol2⟩:=ov2.list hd;cases ea2;refine ⟨a0,ws2,b,j,rfl,rfl,ha2,by rw [hol2.length];exact ej,?_⟩;have hai:a0∈fps2 i:=by rw [hf2];exact AH
      have oy:Own M.K H2 (Zf M fps2) (.int (g v0 w)) (pd d) (.int (g v0 w)) []:=by rw [Own];exact ⟨rfl,rfl⟩
      obtain ⟨fc',hs',hset⟩:=hol2.set oy j;have inI:∀ b,b∈a0::fc'->b∈fps2 i:=λ b hb=>(jb5.mp hb).elim (λ z=>by rw [z];exact hai) λ z=>by rw [hf2];exact AI _ (hs' b z)
      have dm:∀ b,H2 b≠none->(Ap H2 a0 (.lst (ws2.set j (.int (g v0 w))))) b≠none:=λ b h=>by
       by_cases eb:b=a0
       ·rw [eb,Bp];simp
       ·rw [AE eb];exact h
      have nz:∀ b,Zf M (λ j=>if j=i then a0::fc' else fps2 j) b->Zf M fps2 b:=λ b h=>by
       rcases h with z | ⟨j,z⟩
       ·exact .inl z
       ·by_cases ej:j=i
        ·simp only [if_pos ej] at z;exact .inr ⟨i,inI b z⟩
        ·simp only [if_neg ej] at z;exact .inr ⟨j,z⟩
      have kw:KS M H2 fps2 (Ap H2 a0 (.lst (ws2.set j (.int (g v0 w))))) (λ j=>if j=i then a0::fc' else fps2 j):=⟨λ b u hb n=>by rw [AE (λ e=>n ⟨i,by rw [e];exact hai⟩)];exact hb,dm,λ j b hb=>by
       by_cases ej:j=i
       ·simp only [if_pos ej] at hb;exact .inl ⟨i,inI b hb⟩
       ·simp only [if_neg ej] at hb;exact .inl ⟨j,hb⟩⟩
      refine q σ _ _ ((k1.ks.trans k2.ks).trans kw) (rep2.change hal ei2 hσ (λ b u hb n=>by rw [AE (λ e=>n (by rw [e];exact hai))];exact hb) dm inI (λ h=>by rw [hm] at h;cases h) ?_);rw [Own];exact ⟨a0,_,rfl,.inr ⟨hd,fc',Bp,rfl,λ z=>na2 (hs' a0 z),hset.at (.inr ⟨i,hai⟩) ⟨.l ws2,ha2⟩ (λ z=>na2 (hs' a0 z)) λ b _ n z=>n (nz b z)⟩⟩
     ·exact q.elim
    ·exact q.elim
   ·exact q.elim
  ·exact q.elim
 ·exact q.elim
end
def Sb:Expr->Bool
 | .ListComp _ _ _ _=>true
 | .SetComp _ _ _ _=>true
 | .DictComp _ _ _ _ _=>true
 | _=>false
def ql:Expr->Bool
 | .Tuple _ _ _=>true
 | .List _ _=>true
 | _=>false
def AW (d:Stmt->Option Fs):List Stmt->Option Fs
 | []=>some A5
 | [s]=>d s
 | s::r=>match d s,AW d r with
  | some f,some g=>some (Ah f g)
  | _,_=>none
def ER (S:Sx) (x:Str):Bool:=CJ S.sc x .local || CJ S.sc x .cell
def K5 (S:Sx) (i:Nat):Bool:=(decide (i≠0) || !S.msF 0) && !S.pn.contains i
def V4 (iw:Iw) (asg:PV->Ae->Option Ae) (body:Fs):Fs:=match iw with
 | .rng en fa _=>Dq en fa asg body
 | .seq f vs=>FH f vs asg body
 | .vw v fa vs=>GI v fa vs asg body
def Vg:IB->Option ((Int->Int->Int)×Bool)
 | .Add=>some (λ i j=>i + j,true)
 | .Sub=>some (λ i j=>i - j,false)
 | _=>none
def IY (S:Sx):List Expr->Option (List Nat)
 | []=>some []
 | .Name x _::r=>match S.slot x,IY S r with
  | some i,some is=>if ER S x=true/\K5 S i=true/\S.msF i=false then some (i::is) else none
  | _,_=>none
 | _=>none
def Sx.nr (S:Sx):Sx:={ S with rz:=false }
def Gq (S:Sx):Expr->Option D2
 | .Dict [] [] _=>some (Fd,[])
 | e=>Bu 60 S e
def Vi (S:Sx) (x at':Str) (apos:Pos) (e:Expr) (cpos:Pos):Option Fs:=if at' = "append" then (match S.slot x,Bu 60 S e with
   | some i,some (f,vs)=>if S.msF i=false/\(apos.endLine == cpos.line)=true then some (BZ i f vs) else none
   | _,_=>none) else if at' = "extend" then (match S.slot x,Bu 60 S e with
   | some i,some (f,vs)=>if S.msF i=false/\(apos.endLine == cpos.line)=true then some (Dz i f vs) else none
   | _,_=>none) else none
def qb (_:Sx) (_:Expr) (_:Str) (_:Pos) (_:Expr) (_:Pos):Option Fs:=none
def M3 (S:Sx):Expr->Option Fs
 | .Call fn es [] p1=>(match fn with
  | .Attribute o at' apos=>(match GO o,es with
   | some x,[e]=>Vi S x at' apos e p1
   | none,[e]=>qb S o at' apos e p1
   | _,_=>none)
  | .Name x p=>(match Bu 60 S (.Call (.Name x p) es [] p1) with
   | some (f,_)=>some (D7 f)
   | none=>none)
  | _=>none)
 | _=>none
def Sg:PV->Nat->PV->Nat->Option (PV×Nat)
 | .lst xs,d,.int i,_=>(BJ xs i).map λ z=>(z,if d=om then om else dv z)
 | _,_,_,_=>none
theorem OwnL.nthF {K:Frag}{H:Hp}{Z:Addr->Prop}{d:Nat}{x:PV}:∀ {xs:List PV}{ws:List V}{f:List Addr}{j:Nat},OwnL K H Z xs d ws f->xs[j]?=some x->∃ w fx,ws[j]?=some w/\Own K H Z x d w fx/\∀ a∈fx,a∈f
 | [],_,_,_,_,e=>by cases e
 | y::ys,ws,f,j,h,e=>by
  rw [OwnL] at h;obtain ⟨v,s,f1,f2,rfl,rfl,_,h1,h2⟩:=h;cases j with
  | zero=>cases e;exact ⟨v,f1,rfl,h1,λ a ha=>BU _ ha⟩
  | succ j=>
   obtain ⟨w,fx,e1,o,s'⟩:=h2.nthF (j:=j) (by simpa using e);exact ⟨w,fx,by simpa using e1,o,λ a ha=>BV _ (s' a ha)⟩
def Mj:List (PV×Nat)->Bool
 | []=>true
 | p::r=>((p.2 == om) || O5 p.1) && Mj r
def Sh (xs:List (PV×Nat)):Option (PV×Nat):=if xs.length<=Aw then some (.lst (xs.map (·.1)),if Mj xs then om else 1) else none
theorem Tmps.allF {K:Frag}{H:Hp}{Z:Addr->Prop}:∀ {xs:List (PV×Nat)}{ws:List V}{fp:List Addr},Tmps K H Z xs ws fp->Mj xs=true->OwnL K H Z (xs.map (·.1)) om ws fp
 | [],_,_,h,_=>by rw [IH,OwnL];exact h
 | (x,d)::xs,ws,fp,h,ha=>by
  obtain ⟨v,s,f1,f2,e1,e2,dj,h1,h2⟩:=h;unfold Mj at ha;rw [Ba,Gf] at ha;rw [BF,OwnL];rcases ha.1 with e | e
  ·have e:d=om:=eq_of_beq e;subst e;exact ⟨v,s,f1,f2,e1,e2,dj,Own.full x v f1 h1,h2.allF ha.2⟩
  ·obtain ⟨rfl,o⟩:=Own.flatA (Z':=Z) (d':=om) e h1;exact ⟨v,s,[],f2,e1,e2,dj,o,h2.allF ha.2⟩
section
variable {X:Cx}{M:Fm}{a b:Expr}{es:List Expr}{fa:Fa}{f g:Fx}{vs vs':List Nat}{pos:Pos}
def jV (h:PA X es (tL M fa vs)):PE X (.List es pos) (tE M (An Sh fa) vs):=by
 refine BQ (Wr h) λ σ H Q h=>Nh (r:=λ xs H1 Q=>xs.length<=Aw/\∀ p,H1 p=none->Q (.ref p) (Ap H1 p (.lst xs))) (λ xs z c ws H fps fp Q ho tm nz zd lf=>?_) h;unfold Sh at ho;split at ho
 ·rename_i hl;refine ⟨by rw [tm.length];exact hl,λ q hq=>?_⟩;cases eo:Mj xs with
  | true=>rw [eo] at ho;cases ho;exact Up lf (tm.allF eo) hq
  | false=>rw [eo] at ho;cases ho;exact PL lf (tm.cold λ a ha z=>nz a ha z.zf) hq
 ·cases ho
def jS (hv:∀ i∈vs,M.Ms i=false) (hs:MP b) (ha:PE X a (tE M f vs)) (hb:PE X b (tE M g vs')):PE X (.Subscript a b pos) (tE M (Ab Sg f g) (vs++vs')):=by
 refine BQ (Vy qlf ha hb hs) λ σ H Q h=>EF hv (λ x d y e z c v w H fps f1 f2 Q ho o1 o2 dj nz zd lf=>?_) h;unfold Sg at ho;split at ho
 ·rename_i xs i;obtain ⟨z',ez,e2⟩:=jb9.mp ho;rw [Own] at o2;by_cases hd:d=om
  ·subst hd;rw [if_pos rfl] at e2;cases e2;obtain ⟨p,ws,fc,rfl,hp,rfl,nac,ol⟩:=o1.list (by decide:om≠0);rw [qt] at ol;unfold BJ at ez;cases ej:DM xs.length i with
   | none=>rw [ej] at ez;cases ez
   | some j=>
    rw [ej] at ez;obtain ⟨w',fz,e1,ow,sb⟩:=ol.nthF ez;refine .inl ⟨p,ws,i,w',rfl,o2.1,.inl (.inl hp),?_,lf w' H fz (λ _ _ h=>h) (Own.full _ _ _ ow) λ a ha=>.inl (BU _ (AI _ (sb a ha)))⟩;unfold BJ;rw [ol.length,ej];exact e1
  ·rw [if_neg hd] at e2;cases e2;obtain ⟨p,ws,rfl,hp,ol⟩:=(cold o1 λ a ha=>nz a (BU _ ha)).coldL;obtain ⟨w',e1,ow⟩:=SO ol ez;exact .inl ⟨p,ws,i,w',rfl,o2.1,.inl (.inl hp),e1,Kb lf ow⟩
 ·cases ho
end
def HS (S:Sx) (e:Expr):Option D2:=match e with
 | .Subscript (.List es _) b _=>(match DO (Bu 60 S) es,Bu 60 S b with
  | some (fa,v),some (g,u)=>if Lf b=true then some (Ab Sg (An Sh fa) g,v++u) else none
  | _,_=>none)
 | e=>Bu 60 S e
def VO (S:Sx) (t k e:Expr):Option Fs:=match t with
 | .Name x _=>(match S.slot x,Bu 60 S k,HS S e with
  | some i,some (fk,_),some (f,_)=>if S.msF i=false/\Lf k=true then some (E1 i fk f) else none
  | _,_,_=>none)
 | _=>none
def HG (e:Expr):Option (List Expr):=match e with
 | .Tuple es _ _=>some es
 | _=>none
def Xi {e:Expr}{es:List Expr} (h:HG e=some es):∃ k p,e=.Tuple es k p:=by
 unfold HG at h;split at h
 ·cases h;exact ⟨_,_,rfl⟩
 ·cases h
def Vv (S:Sx) (es:List Expr) (e:Expr):Option (Nat×Nat×Fa):=match es,HG e with
 | [u,v],some [a,b]=>(match GO u,GO v,DO (Bu 60 S) [a,b] with
  | some x,some y,some (fa,_)=>(match S.slot x,S.slot y with
   | some i,some j=>if i≠j/\x≠y/\S.sc.kind=.function/\CJ S.sc x .local=true/\CJ S.sc y .local=true/\RL a b u.pos v.pos=true then some (i,j,fa) else none
   | _,_=>none)
  | _,_,_=>none)
 | _,_=>none
def V5 (S:Sx) (es:List Expr) (e:Expr):Option (Nat×Nat×Nat×Fa):=match es,HG e with
 | [u,v,w],some [a,b,c]=>(match GO u,GO v,GO w,DO (Bu 60 S) [a,b,c] with
  | some x,some y,some z,some (fa,_)=>(match S.slot x,S.slot y,S.slot z with
   | some i,some j,some k=>if (i≠j/\i≠k/\j≠k)/\(x≠y/\x≠z/\y≠z)/\S.sc.kind=.function/\CJ S.sc x .local=true/\CJ S.sc y .local=true/\CJ S.sc z .local=true/\RP a b c u.pos v.pos w.pos=true then some (i,j,k,fa) else none
   | _,_,_=>none)
  | _,_,_,_=>none)
 | _,_=>none
def RX (S:Sx) (t e:Expr):Option Fs:=match t with
 | .Tuple es k p=>(match Vv S es e with
  | some (i,j,fa)=>(match IY S es with
   | some is=>if is=[i,j] then some (DG i j fa) else none
   | none=>none)
  | none=>(match V5 S es e with
  | some (i,j,k,fa)=>(match IY S es with
   | some is=>if is=[i,j,k] then some (EN i j k fa) else none
   | none=>none)
  | none=>(match IY S es,Bu 60 S e with
   | some is,some (f,vs)=>if Sb e=false/\ql e=false then some (Cn (asgT is) f vs) else none
   | _,_=>none)))
 | .Name x _=>(match S.slot x,Gq S e with
   | some i,some (f,vs)=>if ER S x=true/\K5 S i=true then some (Aj (S.msF i) i f vs) else none
   | _,_=>none)
 | .Subscript t k _=>VO S t k e
 | _=>none
def MV (d:Stmt->Option Fs) (S:Sx) (body:List Stmt):Option Fs:=AW d body
def qsr:List Str:=["table","behind"]
def JI (d:Stmt->Option Fs) (S:Sx) (x:Str) (it:Expr) (body:List Stmt):Option Fs:=match S.slot x,MV d S body with
 | some i,some b=>if ER S x=true/\K5 S i=true/\S.msF i=false then (match it with
   | .Name y _=>if qsr.contains y=true then (match Bu 60 S it with
    | some (f,vs)=>some (Iu f vs (asgN i) b)
    | none=>none) else none
   | .Call fn args ks cpos=>(match ks with
    | []=>(match fn with
   | .Attribute ob at' apos=>(match ob,args with
   | .Subscript o k p,[]=>if at' = "values" /\ (apos.endLine == cpos.line)=true then (match Bu 60 S (.Subscript o k p) with
    | some (f,vs)=>some (K7 f vs (asgN i) b)
    | none=>none) else none
   | _,_=>none)
   | .Name r _=>(match args with
   | [e1,e2,e3]=>if r = "range" /\ S.glob "range" = true then (match DO (Bu 60 S) [e1,e2,e3] with
    | some (fa,_)=>some (Jg fa (asgN i) b)
    | none=>none) else none
   | _=>none)
   | _=>none)
    | _=>none)
   | _=>none) else none
 | _,_=>none
def RY (d:Stmt->Option Fs) (S:Sx) (t it:Expr) (body:List Stmt):Option Fs:=match t with
 | .Name x p=>(match JI d S x it body with
  | some f=>some f
  | none=>match S.slot x,Fc (Bu 60 S) S it,MV d S body with
    | some i,some iw,some b=>if ER S x=true/\K5 S i=true/\S.msF i=false/\FY (.Name x p) iw=true then some (V4 iw (asgN i) b) else none
    | _,_,_=>none)
 | .Tuple es k p=>(match IY S es,Fc (Bu 60 S) S it,MV d S body with
   | some is,some iw,some b=>some (V4 iw (asgT is) b)
   | _,_,_=>none)
 | _=>none
def RZ (S:Sx) (e:Expr):Option Fs:=match GO e with
 | some x=>(match S.slot x with
   | some i=>if S.msF i=true then none else some (D8 i)
   | none=>none)
 | none=>(match Bu 60 S e with
   | some (f,vs)=>some (A3 f)
   | none=>none)
def VL (S:Sx) (t:Expr) (op:IB) (e:Expr):Option Fs:=match t with
 | .Subscript o k _=>(match o with
  | .Name x _=>(match S.slot x,Bu 60 S k,Bu 60 S e,Vg op with
   | some s,some (fj,_),some (f,_),some (g,_)=>if S.msF s=false/\Lf k=true then some (J4 g s fj f) else none
   | _,_,_,_=>none)
  | _=>none)
 | _=>none
def Sx.bare (S:Sx):Sx:={ S with ms:=[] }
def HR (S:Sx) (c:Expr):Option D2:=(Bu 60 S c).or (Bu 60 S.bare c)
def Ln (d:Stmt->Option Fs) (S:Sx):Stmt->Option Fs
 | .Raise _ _ _=>some GN
 | .Expr v _=>M3 S v
 | .Assign ts e _=>(match ts with
  | [t]=>RX S t e
  | _=>none)
 | .If c a b _=>match HR S c,AW d a,AW d b with
  | some (f,_),some s,some t=>some (Bw (bT f) s t)
  | _,_,_=>none
 | .For t it body o _=>(match o with
  | []=>RY d S t it body
  | _=>none)
 | .While c body o _=>(match o,HR S c,AW d body with
  | [],some (f,_),some b=>some (Wa (bT f) b)
  | _,_,_=>none)
 | .AugAssign t op e _=>VL S t op e
 | .Return o _=>(match o with
  | some e=>RZ S e
  | none=>none)
 | _=>none
def LR:Nat->Sx->Stmt->Option Fs
 | 0,_,_=>none
 | n + 1,S,st=>some ((Ln (LR n S) S st).getD GN)
section
variable {X:Cx}{P:AA}{w:A4}{K:Frag}{mg:Str->Option Ad}{base:Heap}{lvl:Nat}{S:Sx}{Wx:St->Nat->Hp->Prop}{M:Fm}{f g:Fx}{vs vs':List Nat}{σ:St}{H:Hp}{Q:VK}
structure SM (X:Cx) (M:Fm) (K:Frag) (S:Sx) (Wx:St->Nat->Hp->Prop):Prop where
 ms:MS M K S Wx
 al:∀ i,M.al i=[]
 io:M.io≠none->S.msF 0=true
 pn:∀ p∈M.pn,p.1∈S.pn
 fn:∀ x,X.fn x=true
 nd:S.N.Nodup
 st:X.stack=X.env::X.outer
 fr:X.env.frame=some X.env.locals
def Hs (P:AA) (w:A4) (K:Frag) (mg:Str->Option Ad) (base:Heap) (lvl:Nat) (S:Sx) (st:Stmt) (f:Fs):Prop:=∀ {Wx} X M,XS X P w K mg base lvl S Wx->SM X M K S Wx->PS X st (tS M f)
theorem JZ {d:Stmt->Option Fs} (hd:∀ st f,d st=some f->Hs P w K mg base lvl S st f):∀ (sts:List Stmt) (f:Fs),AW d sts=some f->∀ {Wx} X M,XS X P w K mg base lvl S Wx->SM X M K S Wx->En X sts (tS M f)
 | [],f,h=>by cases h;exact λ X M xs sm=>WV ko λ D σ H q=>zu q
 | [s],f,h=>λ X M xs sm=>kq (hd s f h X M xs sm)
 | s::s'::r,f,h=>by
  unfold AW at h;split at h
  ·rename_i f1 f2 h1 h2;cases h;exact λ X M xs sm=>WV (vG (hd s f1 h1 X M xs sm) (JZ hd (s'::r) f2 h2 X M xs sm)) λ D σ H q=>zy q
  ·cases h
def Ha {x:Str}{i:Nat} (h:S.slot x=some i):S.N[i]?=some x:=by
 unfold Sx.slot at h;split at h
 ·exact Nk h
 ·cases h
def OP {x:Str} (h:ER S x=true):FC S.sc x:=by
 unfold ER at h;rw [Gf] at h;exact h.elim (λ h=>.inl (EC h)) λ h=>.inr (EC h)
def Lp {i:Nat} (h:K5 S i=true) (sm:SM X M K S Wx):M.Fre i:=by
 unfold K5 at h;rw [Ba,Gf] at h;refine ⟨λ hio=>?_,λ p hp e=>?_⟩
 ·rcases h.1 with h | h
  ·simpa using h
  ·rw [sm.io hio] at h;cases h
 ·have z:=sm.pn p hp;rw [e] at z;have h2:=h.2;rw [List.contains_iff_mem.mpr z] at h2;cases h2
theorem kc {e:Expr}{t:Option Expr}{l:Nat}{env:Env} (h:Sb e=false):swapsWith e t l env=pure false:=by
 cases e with
 | ListComp _ _ _ _=>cases h
 | SetComp _ _ _ _=>cases h
 | DictComp _ _ _ _ _=>cases h
 | _=>rfl
theorem vJ (GX:GX K mg S.xc) (G:GS P w K mg base lvl S.Γ) (Gm:Ii P w K mg base lvl S.Γm) (hS:∀ i,∀ j∈S.alF i,S.msF j=false) {n:Nat}{elt:Expr}{gs:List Comprehension}{scope:Bv}{pos:Pos} (h:Bu (n + 1) S (.ListComp elt gs scope pos)=some (f,vs)):
  ∃ tg ys asg it ifs iw t g vE,gs=[⟨tg,it,ifs,0⟩]/\CompParts P w K mg base lvl S scope tg ys asg it elt ifs iw t g vE/\f=LV iw ys.length asg t g/\vs=iw.vs++vE.filter (λ i=>decide (i < S.N.length)):=by
 have hd:∀ e f vs,Bu n S e=some (f,vs)->AQ P w K mg base lvl S e f vs:=λ e f vs h=>Me GX G Gm n S e f vs rfl rfl rfl hS h;replace h:Hm (Bu n) S (.ListComp elt gs scope pos)=some (f,vs):=h
 match gs,h with
 | [],h=>simp [Hm,EZ] at h
 | _::_::_,h=>simp [Hm,EZ] at h
 | [⟨tg,it,ifs,a⟩],h=>
  by_cases ha:a=0
  ·subst ha;replace h:(match NW S.N.length tg,Fc (Bu n S) S it with
    | some (xs,asg),some iw=>if MT S scope xs iw.vs=true/\FY tg iw=true then (match OI (Bu n (Bc S scope xs iw.vs)) ifs,Bu n (Bc S scope xs iw.vs) elt with
     | some t,some (g,vE)=>some (LV iw xs.length asg t g,iw.vs++vE.filter (λ i=>decide (i < S.N.length)))
     | _,_=>none) else none
    | _,_=>none)=some (f,vs):=h
   split at h
   ·rename_i ys asg iw ht hi;split at h
    ·rename_i hc;split at h
     ·rename_i t g vE h1 h2;cases h;have ck:=VI hc.1;have giw:=MW hd (MX n S) G.1 hi;have hS2:∀ i,∀ j∈(Bc S scope ys iw.vs).alF i,(Bc S scope ys iw.vs).msF j=false:=λ i j hj=>by
       rw [Ql] at hj;show S.msF j=false;split at hj
       ·exact hS i j hj
       ·split at hj
        ·exact giw.1 j hj
        ·cases hj
      have hd2:∀ e f vs,Bu n (Bc S scope ys iw.vs) e=some (f,vs)->AQ P w K mg base lvl (Bc S scope ys iw.vs) e f vs:=λ e f vs h=>Me GX G Gm n _ e f vs rfl rfl rfl hS2 h;exact ⟨tg,ys,asg,it,ifs,iw,t,g,vE,rfl,⟨ht,hc.2,ck,giw,hd2 _ _ _ h2,Yw hd2 h1⟩,rfl,rfl⟩
     ·cases h
    ·cases h
   ·cases h
  ·simp [Hm,EZ,ha] at h
def Fg (xs:XS X P w K mg base lvl S Wx):Lz (Av X.prog X.w) X.A X.env X.xe:=xs.po
theorem MH {es:List Expr}{is:List Nat} (h:IY S es=some is) (xs:XS X P w K mg base lvl S Wx) (sm:SM X M K S Wx):KP X es (Kd is)/\(E4 es X.env).length=is.length/\(E4 es X.env).findIdx? (·.1)=none/\∀ i∈is,Bd M [] i:=by
 induction es generalizing is with
 | nil=>cases h;exact ⟨Xh,rfl,rfl,λ _ z=>nomatch z⟩
 | cons e es ih=>
  unfold IY at h;split at h
  ·cases ‹_::_=[]›
  ·rename_i x px r heq;cases heq;split at h
   ·rename_i i js hi hr;split at h
    ·rename_i hc;cases h;obtain ⟨h1,h2,h3,h4⟩:=ih hr;have hN:X.N.Nodup:=by rw [xs.N];exact sm.nd
     have hi':X.N[i]?=some x:=by rw [xs.N];exact Ha hi
     have hx:FC X.env.scope x:=by rw [xs.sc];exact OP hc.1
     refine ⟨XI (Lh hN hi' hx (.inl (sm.fn x))) h1 rfl,by rw [E4,Bh,h2,Bh] <;> (intros;contradiction),?_,λ j hj=>?_⟩
     ·rw [E4,Zd,h3] <;> first | rfl | (intros;contradiction)
     ·rcases jb5.mp hj with z | z
      ·rw [z];exact ⟨by rw [sm.ms.ms];exact hc.2.2,Lp hc.2.1 sm,sm.al i,sm.ms.als⟩
      ·exact h4 j z
    ·cases h
   ·cases h
  ·cases h
def Fm.bare (M:Fm):Fm:={ M with Ms:=λ _=>false,H₀:=λ _=>none,io:=none,pn:=[] }
def Rep.bare {ρ:Ae}{fps:AU} (r:Rep M ρ σ H fps):Rep M.bare ρ σ H fps where
 own:=r.own
 non:=r.non
 dj:=r.dj
 zo:=r.zo
 fr:=λ _ _ _ _=>rfl
 zd:=r.zd
 len:=r.len
 msf:=λ _ _ _ h=>nomatch h
 h0:=λ _ h=>absurd rfl h
 iov:=And.intro (λ _ h=>nomatch h) (λ _ h=>nomatch h)
theorem kM {fb:Fb}{Q:Bool->Hp->Prop} (hq:tT M fb σ H Q):tT M.bare fb σ H Q:=by
 obtain ⟨ρ,fps,rep,q⟩:=hq;refine ⟨ρ,fps,rep.bare,?_⟩;have gr:∀ H' fps',KD M.bare H fps H' fps'->∀ a o,H a=some o->H' a=some o:=λ H' fps' k a o h=>k.keep a o h λ ⟨_,z,_⟩=>nomatch z
 cases e:fb ρ with
 | ok p=>
  obtain ⟨b,ρ'⟩:=p;rw [e] at q;intro H' fps' k ag _;have e1:ρ'=ρ:=Zb λ i=>ag.1 i rfl;subst e1;exact q H' fps (KD.grow (gr H' fps' k)) Agr.refl (rep.grow (gr H' fps' k))
 | exc c=>
  rw [e] at q;intro H' fps' k;exact q H' fps (KD.grow (gr H' fps' k))
 | no=>rw [e] at q;exact q
theorem W9 (GX:GX K mg S.xc) (G:GS P w K mg base lvl S.Γ) (Gm:Ii P w K mg base lvl S.Γm) (hS:∀ i,∀ j∈S.alF i,S.msF j=false) {c:Expr}{f:Fx}{vs:List Nat} (h:HR S c=some (f,vs)) (xs:XS X P w K mg base lvl S Wx) (m:MS M K S Wx):PT X c (tT M (bT f)):=by
 unfold HR at h;cases e:Bu 60 S c with
 | some p=>
  rw [e] at h;cases h;exact ((Me GX G Gm 60 S c f vs rfl rfl rfl hS e).2.2 X M xs m).2
 | none=>
  rw [e] at h;have h2:Bu 60 S.bare c=some (f,vs):=h;have gd:=(Me (S:=S) GX G Gm 60 S.bare c f vs rfl rfl rfl (λ _ _ _=>rfl) h2).2.2 X M.bare ⟨xs.prog,xs.w,xs.K,xs.mg,xs.base,xs.N,xs.sc,xs.calm,xs.room,xs.po,xs.ps,xs.rs⟩ ⟨m.K,rfl,m.al,λ _ _ _=>rfl,m.W,λ _ h=>nomatch h⟩;exact Kf gd.2 λ σ H Q q=>kM q
def Q3 {d:Stmt->Option Fs}{body:List Stmt}{f:Fs} (hd:∀ e f vs,Bu 60 S e=some (f,vs)->AQ P w K mg base lvl S e f vs) (ih:∀ st f,d st=some f->Hs P w K mg base lvl S st f) (h:MV d S body=some f):∀ {Wx} X M,XS X P w K mg base lvl S Wx->SM X M K S Wx->En X body (tS M f):=by
 exact JZ ih _ _ h
def jd {d:Stmt->Option Fs}{body:List Stmt}{f:Fs}{x:Str}{it:Expr}{px pos:Pos} (hb:∀ x∈zyn,mg x=none) (hd:∀ e f vs,Bu 60 S e=some (f,vs)->AQ P w K mg base lvl S e f vs) (ih:∀ st f,d st=some f->Hs P w K mg base lvl S st f) (h:JI d S x it body=some f):Hs P w K mg base lvl S (.For (.Name x px) it body [] pos) f:=by
 unfold JI at h;split at h
 ·rename_i i b hi hbody;split at h
  ·rename_i hc;have base:∀ {Wx} X M,XS X P w K mg base lvl S Wx->SM X M K S Wx->En X body (tS M b)/\Dd M [] [i] (Fo i) (asgN i)/\PG X (.Name x px) (Fo i):=λ X M xs sm=>by
    have hN:X.N.Nodup:=by rw [xs.N];exact sm.nd
    have hi':X.N[i]?=some x:=by rw [xs.N];exact Ha hi
    have hx:FC X.env.scope x:=by rw [xs.sc];exact OP hc.1
    exact ⟨Q3 hd ih hbody X M xs sm,Si ⟨by rw [sm.ms.ms];exact hc.2.2,Lp hc.2.1 sm,sm.al i,sm.ms.als⟩,Lh hN hi' hx (.inl (sm.fn x))⟩
   split at h
   ·rename_i y py;split at h
    ·split at h
     ·rename_i f1 v1 he;cases h;have g:=hd _ _ _ he;intro Wx X M xs sm;obtain ⟨hbd,hg,hpg⟩:=base X M xs sm;have hf:=IX (n:=0) (env:=X.env) (iter:=.Name y py) (f:=Aa 0) (vs:=[]) (λ _ _ _ z=>nomatch z);have pe:=(g.2.2 X M xs sm.ms).1;refine C9 (qM (Fl (pos:=pos) (Fg xs) xs.calm (Wt pe) hpg hbd hf) (WU (Fl (pos:=pos) (Fg xs) xs.calm (kl pe) hpg hbd hf))) λ D σ H q=>?_
      have:=kH (X:=X) sm.al (sm.ms.v g.1) hg q
      rw [sm.ms.k xs] at this;exact this
     ·cases h
    ·cases h
   ·rename_i fn args ks cpos;split at h
    rotate_left
    ·cases h
    split at h
    ·rename_i ob at' apos;split at h
     ·rename_i o k p;split at h
      ·rename_i hv;obtain ⟨rfl,hl⟩:=hv;split at h
       ·rename_i f1 v1 he;cases h;have g:=hd _ _ _ he;intro Wx X M xs sm;obtain ⟨hbd,hg,hpg⟩:=base X M xs sm;have hf:=IX (n:=0) (env:=X.env) (iter:=.Call (.Attribute (.Subscript o k p) "values" apos) [] [] cpos) (f:=Aa 0) (vs:=[]) (λ _ _ _ z=>nomatch z);have pe:=(g.2.2 X M xs sm.ms).1;exact C9 (WU (Fl (pos:=pos) (Fg xs) xs.calm (km (j8 (apos:=apos) (cpos:=cpos) pe rfl hl)) hpg hbd hf)) λ D σ H q=>kI (X:=X) sm.al (sm.ms.v g.1) hg q
       ·cases h
      ·cases h
     ·cases h
    ·rename_i r pr;split at h
     ·rename_i e1 e2 e3;split at h
      ·rename_i hr;obtain ⟨rfl,hgl⟩:=hr;split at h
       ·rename_i fa v1 he;cases h;have g:=Ey hd _ _ _ he;intro Wx X M xs sm;obtain ⟨hbd,hg,hpg⟩:=base X M xs sm;have hs:=g.2.1;rw [GP,Ba] at hs;have hf:=IX (n:=0) (env:=X.env) (iter:=.Call (.Name "range" pr) [e1,e2,e3] [] cpos) (f:=Aa 0) (vs:=[]) (λ _ _ _ z=>nomatch z);exact C9 (Fl (pos:=pos) (Fg xs) xs.calm (kh (xs.gl hgl) (by rw [xs.mg];exact hb _ (by decide +kernel)) (g.2.2 X M xs sm.ms) (Dl (Dr hs.1)) (Nu hs.2)) hpg hbd hf) λ D σ H q=>vU (vs:=v1) hg q
       ·cases h
      ·cases h
     ·cases h
    ·cases h
   ·cases h
  ·cases h
 ·cases h
def zZ {e:Expr}{f:Fx}{vs:List Nat} (hd:∀ e f vs,Bu 60 S e=some (f,vs)->AQ P w K mg base lvl S e f vs) (h:HS S e=some (f,vs)):AQ P w K mg base lvl S e f vs:=by
 unfold HS at h;split at h
 ·split at h
  ·rename_i f1 v1 f2 v2 h1 h2;split at h
   ·rename_i hn;cases h;have g1:=Ey hd _ _ _ h1;have g2:=hd _ _ _ h2;exact CM (Gx g1.1 g2.1) rfl (λ _ _=>rfl) λ X M xs m=>jS (m.v g1.1) (Qg hn) (jV (g1.2.2 X M xs m)) (g2.2.2 X M xs m).1
   ·cases h
  ·cases h
 ·exact hd _ _ _ h
def yN (GX:GX K mg S.xc) (G:GS P w K mg base lvl S.Γ) (Gm:Ii P w K mg base lvl S.Γm) (hS:∀ i,∀ j∈S.alF i,S.msF j=false) {d:Stmt->Option Fs} (ih:∀ (st:Stmt) (f:Fs),d st=some f->Hs P w K mg base lvl S st f):∀ (st:Stmt) (f:Fs),Ln d S st=some f->Hs P w K mg base lvl S st f:=by
 have hd:∀ e f vs,Bu 60 S e=some (f,vs)->AQ P w K mg base lvl S e f vs:=λ e f vs h=>Me GX G Gm 60 S e f vs rfl rfl rfl hS h;have hdO:∀ e f vs,HS S e=some (f,vs)->AQ P w K mg base lvl S e f vs:=λ e f vs h=>zZ hd h;have hdA:∀ e f vs,Gq S e=some (f,vs)->AQ P w K mg base lvl S e f vs:=λ e f vs h=>by
  unfold Gq at h;split at h
  ·cases h;exact CM (λ _ z=>nomatch z) rfl (λ _ _=>rfl) λ X M xs m=>xT
  ·exact hd _ _ _ h
 intro st f h;have core:True->Hs P w K mg base lvl S st f:=λ _=>by
  unfold Ln at h;split at h
  ·cases h;intro Wx X M xs sm pins s σ H D I q;exact (XJ pins s σ H D I (V9 (t:=Sq) q))
  ·rename_i v pos;unfold M3 at h;split at h
   ·rename_i fn es cpos;split at h
    ·rename_i o at' apos;split at h
     ·rename_i x e hx;obtain ⟨px,rfl⟩:=Hr hx;unfold Vi at h;split at h
      ·rename_i hat;subst hat;split at h
       ·rename_i i f1 v1 hi he;split at h
        ·rename_i hc;cases h;have g:=hd _ _ _ he;intro Wx X M xs sm;have hb:=Vx (X:=X) (cpos:=cpos) PySem.F.plainAttrs_list PySem.F.slot_list_append PySem.F.type_list_append U5 (xs.var (pos:=px) hi) (Lg (g.2.2 X M xs sm.ms).1 OM (Dl (Dr g.2.1))) rfl (Ur g.2.1 X.env cpos) hc.2 (Dl (Dr g.2.1)) rfl;refine C9 (SE hb rfl) λ D σ H q=>?_
         have:=zl (D:=D) sm.al (sm.ms.v g.1) (by rw [sm.ms.ms];exact hc.1) q
         rw [sm.ms.k xs] at this;exact this
        ·cases h
       ·cases h
      ·split at h
       ·rename_i hat;subst hat;split at h
        ·rename_i i f1 v1 hi he;split at h
         ·rename_i hc;cases h;have g:=hd _ _ _ he;intro Wx X M xs sm;have hb:=Vx (X:=X) (cpos:=cpos) PySem.F.plainAttrs_list PySem.F.slot_list_extend PySem.F.type_list_extend yb (xs.var (pos:=px) hi) (Lg (g.2.2 X M xs sm.ms).1 OM (Dl (Dr g.2.1))) rfl (Ur g.2.1 X.env cpos) hc.2 (Dl (Dr g.2.1)) rfl;refine C9 (SE hb rfl) λ D σ H q=>?_
          have:=zq (D:=D) sm.al (sm.ms.v g.1) (by rw [sm.ms.ms];exact hc.1) q
          rw [sm.ms.k xs] at this;exact this
         ·cases h
        ·cases h
       ·cases h
     ·rename_i e hx;cases h
     ·cases h
    ·rename_i x p;split at h
     ·rename_i f1 v1 he;cases h;intro Wx X M xs sm;exact C9 (SE ((hd _ _ _ he).2.2 X M xs sm.ms).1 rfl) λ D σ H q=>kG q
     ·cases h
    ·cases h
   ·cases h
  ·rename_i ts e pos;rcases ts with _ | ⟨t,_ | _⟩
   ·cases h
   rotate_left
   ·cases h
   replace h:RX S t e=some f:=h;unfold RX at h;split at h
   ·rename_i es k p;split at h
    ·rename_i i j fa hp;split at h
     ·rename_i is hs;split at h
      ·rename_i ei;cases h;subst ei;unfold Vv at hp;split at hp
       ·rename_i u v a b ht;obtain ⟨k2,pt2,rfl⟩:=Xi ht;split at hp
        ·rename_i x y fa' vs' hx hy hl;obtain ⟨px,rfl⟩:=Hr hx;obtain ⟨py,rfl⟩:=Hr hy;split at hp
         ·rename_i i' j' hi hj;split at hp
          ·rename_i hc;cases hp;obtain ⟨c1,c2,c3,c4,c5,c6⟩:=hc;have g:=Ey hd _ _ _ hl;intro Wx X M xs sm;obtain ⟨_,_,_,h4⟩:=MH hs xs sm;have hN:X.N.Nodup:=by rw [xs.N];exact sm.nd
           have l1:X.env.scope.names.lookup x=some .local:=by rw [xs.sc];exact EC c4
           have l2:X.env.scope.names.lookup y=some .local:=by rw [xs.sc];exact EC c5
           exact C9 (x8 xs.calm hN (by rw [xs.N];exact Ha hi) (by rw [xs.N];exact Ha hj) c1 l1 l2 (g.2.2 X M xs sm.ms) (xj (by rw [xs.sc];exact c3) l1 l2 c2 c6)) λ D σ H q=>zv h4 q
          ·cases hp
         ·cases hp
        ·cases hp
       ·cases hp
      ·cases h
     ·cases h
    ·split at h
     ·rename_i i j k fa hp;split at h
      ·rename_i is hs;split at h
       ·rename_i ei;cases h;subst ei;unfold V5 at hp;split at hp
        ·rename_i u v w a b c ht _;obtain ⟨k2,pt2,rfl⟩:=Xi ht;split at hp
         ·rename_i x y z fa' vs' hx hy hz hl;obtain ⟨px,rfl⟩:=Hr hx;obtain ⟨py,rfl⟩:=Hr hy;obtain ⟨pz,rfl⟩:=Hr hz;split at hp
          ·rename_i i' j' k' hi hj hk;split at hp
           ·rename_i hc;cases hp;obtain ⟨c1,c2,c3,c4,c5,c7,c6⟩:=hc;have g:=Ey hd _ _ _ hl;intro Wx X M xs sm;obtain ⟨_,_,_,h4⟩:=MH hs xs sm;have hN:X.N.Nodup:=by rw [xs.N];exact sm.nd
            have l1:X.env.scope.names.lookup x=some .local:=by rw [xs.sc];exact EC c4
            have l2:X.env.scope.names.lookup y=some .local:=by rw [xs.sc];exact EC c5
            have l3:X.env.scope.names.lookup z=some .local:=by rw [xs.sc];exact EC c7
            exact C9 (x9 xs.calm hN (by rw [xs.N];exact Ha hi) (by rw [xs.N];exact Ha hj) (by rw [xs.N];exact Ha hk) c1.1 c1.2.1 c1.2.2 l1 l2 l3 (g.2.2 X M xs sm.ms) (zh (by rw [xs.sc];exact c3) l1 l2 l3 c2.1 c2.2.1 c2.2.2 c6)) λ D σ H q=>zw h4 q
           ·cases hp
          ·cases hp
         ·cases hp
        ·cases hp
       ·cases h
      ·cases h
     ·split at h
      ·rename_i is f1 v1 hs he;split at h
       ·rename_i hc;cases h;have g:=hd _ _ _ he;intro Wx X M xs sm;obtain ⟨h1,h2,h3,h4⟩:=MH hs xs sm;have mk:M.K=X.K:=sm.ms.k xs;refine C9 (Wu (g.2.2 X M xs sm.ms).1 (Sn xs.calm h1 h2 h3) ?_ ?_ ?_) λ D σ H q=>?_
        ·cases e <;> first | rfl | (cases hc.1)
        ·cases e <;> first | rfl | (cases hc.2)
        ·rfl
        ·have:=z6 sm.al (sm.ms.v g.1) (RN h4) q
         rw [mk] at this;exact this
       ·cases h
      ·cases h
   ·rename_i x px;split at h
    ·rename_i i f1 v1 hi he;split at h
     ·rename_i hc;cases h;have g:=hdA _ _ _ he;intro Wx X M xs sm;have hN:X.N.Nodup:=by rw [xs.N];exact sm.nd
      have hi':X.N[i]?=some x:=by rw [xs.N];exact Ha hi
      have hx:FC X.env.scope x:=by rw [xs.sc];exact OP hc.1
      have mi:M.Ms i=S.msF i:=by rw [sm.ms.ms]
      cases hcp:Sb e with
      | false=>exact C9 (Ww hN hi' hx (g.2.2 X M xs sm.ms).1 (kc hcp) (.inl (sm.fn x))) λ D σ H q=>We sm.al (sm.ms.v g.1) mi (Lp hc.2 sm) q
      | true=>
       cases e with
       | ListComp elt gs scope cpos=>
        obtain ⟨tg,ys,asg,it,ifs,iw,t,g2,vE,rfl,cp,rfl,rfl⟩:=vJ GX G Gm hS (show Bu 60 S _=_ from he);obtain ⟨wi,gg,h1,h2,h3,h4,h5,h6⟩:=UN (pos:=cpos) cp xs sm.ms;refine zi (yI hN hi' hx (.inl (sm.fn x)) h2 xs.calm h1 h3 h4 h5 (IX (n:=0) (f:=g2) (vs:=[]) cp.iwo.2.1)) λ D σ H hl q=>?_;exact h6 σ H _ (by rw [hl,xs.N]) (We sm.al (sm.ms.v g.1) mi (Lp hc.2 sm) q)
       | SetComp _ _ _ _=>simp [Gq,Bu,Hm] at he
       | DictComp _ _ _ _ _=>simp [Gq,Bu,Hm] at he
       | _=>cases hcp
     ·cases h
    ·cases h
   ·rename_i t k ps;unfold VO at h;split at h
    ·rename_i x px;split at h
     ·rename_i i fk vk f1 v1 hi hk he;split at h
      ·rename_i hc;cases h;have g:=hdO _ _ _ he;intro Wx X M xs sm;refine C9 (Wu (g.2.2 X M xs sm.ms).1 (xZ (xs.var hi) ((hd _ _ _ hk).2.2 X M xs sm.ms).1 (qR (by have:=xs.room.units;omega)) ?_) ?_ ?_ rfl) λ D σ H q=>kJ sm.al (by rw [sm.ms.ms];exact hc.1) (sm.ms.v g.1) q
       ·intro v;cases k <;> first | rfl | (cases hc.2)
       ·cases e <;> rfl
       ·cases e <;> rfl
      ·cases h
     ·cases h
    ·cases h
   ·cases h
  ·split at h
   ·rename_i f1 v1 s t hc ha hb;cases h;intro Wx X M xs sm;exact C9 (qL (W9 GX G Gm hS hc xs sm.ms) (JZ ih _ _ ha X M xs sm) (JZ ih _ _ hb X M xs sm)) λ D σ H q=>qT q
   ·cases h
  ·rename_i t it body o pos;rcases o with _ | _
   rotate_left
   ·cases h
   replace h:RY d S t it body=some f:=h;unfold RY at h;split at h
   ·rename_i x px;split at h
    ·rename_i f' hf;cases h;exact λ {Wx}=>jd G.1 hd ih hf
    split at h
    ·rename_i i iw b hi hw hb;split at h
     ·rename_i hc;cases h;intro Wx X M xs sm;have hN:X.N.Nodup:=by rw [xs.N];exact sm.nd
      have hi':X.N[i]?=some x:=by rw [xs.N];exact Ha hi
      have hx:FC X.env.scope x:=by rw [xs.sc];exact OP hc.1
      have giw:=MW hd (MX 60 S) G.1 hw;have hbd:=Q3 hd ih hb X M xs sm;have hg:Dd M [] [i] (Fo i) (asgN i):=Si ⟨by rw [sm.ms.ms];exact hc.2.2.1,Lp hc.2.1 sm,sm.al i,sm.ms.als⟩;have hpg:PG X (.Name x px) (Fo i):=Lh hN hi' hx (.inl (sm.fn x));have hpi:=giw.2.2 X M xs sm.ms (.Name x px);have hf:=IX (n:=0) (env:=X.env) (f:=Aa 0) (vs:=[]) giw.2.1;cases iw with
      | rng en fa vs=>
       rcases hpi with ⟨rfl,hpi⟩ | ⟨rfl,hpi⟩
       ·exact C9 (Fl (Fg xs) xs.calm hpi hpg hbd hf) λ D σ H q=>Xp hg q
       ·exact C9 (Fl (Fg xs) xs.calm hpi hpg hbd hf) λ D σ H q=>Xq hg q
      | seq f vs=>exact C9 (Fl (Fg xs) xs.calm hpi hpg hbd hf) λ D σ H q=>SU sm.al (sm.ms.v giw.1) hg q
      | vw v fa vs=>exact C9 (Fl (Fg xs) xs.calm (hpi hc.2.2.2) hpg hbd hf) λ D σ H q=>Xr sm.al (sm.ms.v giw.1) hg q
     ·cases h
    ·cases h
   ·rename_i es k p;split at h
    ·rename_i is iw b hs hw hb;cases h;intro Wx X M xs sm;have giw:=MW hd (MX 60 S) G.1 hw;have hbd:=Q3 hd ih hb X M xs sm;obtain ⟨h1,h2,h3,h4⟩:=MH hs xs sm;have mk:M.K=X.K:=sm.ms.k xs;have hg:=RN (M:=M) (al:=[]) h4;have hpg:=Sn (pos:=p) (k:=k) xs.calm h1 h2 h3;rw [<- mk] at hpg;have hpi:=giw.2.2 X M xs sm.ms (.Tuple es k p);have hf:=IX (n:=0) (env:=X.env) (f:=Aa 0) (vs:=[]) giw.2.1;cases iw with
     | rng en fa vs=>
      rcases hpi with ⟨rfl,hpi⟩ | ⟨rfl,hpi⟩
      ·exact C9 (Fl (Fg xs) xs.calm hpi hpg hbd hf) λ D σ H q=>Xp hg q
      ·exact C9 (Fl (Fg xs) xs.calm hpi hpg hbd hf) λ D σ H q=>Xq hg q
     | seq f vs=>exact C9 (Fl (Fg xs) xs.calm hpi hpg hbd hf) λ D σ H q=>SU sm.al (sm.ms.v giw.1) hg q
     | vw v fa vs=>exact C9 (Fl (Fg xs) xs.calm (hpi (by cases v <;> rfl)) hpg hbd hf) λ D σ H q=>Xr sm.al (sm.ms.v giw.1) hg q
    ·cases h
   ·cases h
  ·split at h
   ·rename_i f1 v1 b hc hb;cases h;intro Wx X M xs sm;exact C9 (vF xs.po (W9 GX G Gm hS hc xs sm.ms) (JZ ih _ _ hb X M xs sm)) λ D σ H q=>vV q
   ·cases h
  ·rename_i t op e pos;unfold VL at h;split at h
   ·rename_i o k pk;split at h
    ·rename_i x px;split at h
     ·rename_i s fj vj f1 v1 g sd hs hj he hop;split at h
      ·rename_i hc;cases h;intro Wx X M xs sm;have mk:M.K=X.K:=sm.ms.k xs;have hp:P0 X op (Pp g):=by
        unfold Vg at hop;split at hop
        ·cases hop;exact qH
        ·cases hop;exact qI
        ·cases hop
       refine C9 (kn (xs.var hs) ((hd _ _ _ hj).2.2 X M xs sm.ms).1 vO ((hd _ _ _ he).2.2 X M xs sm.ms).1 hp wx ?_) λ D σ H q=>?_
       ·intro _ _ _;cases k <;> first | rfl | (cases hc.2)
       ·have:=kF (vs:=v1) (vj:=vj) sm.al (by rw [sm.ms.ms];exact hc.1) q
        rw [mk] at this;exact this
      ·cases h
     ·cases h
    ·cases h
   ·cases h
  ·rename_i o pos;rcases o with _ | e
   ·cases h
   replace h:RZ S e=some f:=h;unfold RZ at h;split at h
   ·rename_i x hx;obtain ⟨px,rfl⟩:=Hr hx;split at h
    ·rename_i i hi;split at h
     ·cases h
     ·rename_i hm;cases h;intro Wx X M xs sm;exact C9 (Wv (xs.var hi)) λ D σ H q=>kK sm.al (by rw [sm.ms.ms];simpa using hm) q
    ·cases h
   ·rename_i hx;split at h
    ·rename_i f1 v1 he;cases h;intro Wx X M xs sm;exact C9 (Wv ((hd _ _ _ he).2.2 X M xs sm.ms).1) λ D σ H q=>zx (sm.ms.v (hd _ _ _ he).1) q
    ·cases h
  ·cases h
 exact λ {Wx}=>core trivial
theorem vH (GX:GX K mg S.xc) (G:GS P w K mg base lvl S.Γ) (Gm:Ii P w K mg base lvl S.Γm) (hS:∀ i,∀ j∈S.alF i,S.msF j=false):∀ (n:Nat) (st:Stmt) (f:Fs),LR n S st=some f->Hs P w K mg base lvl S st f:=by
 intro n;induction n with
 | zero=>intro st f h;cases h
 | succ n ih=>
  intro st f h;replace h:some ((Ln (LR n S) S st).getD GN)=some f:=h;cases e0:Ln (LR n S) S st with
  | none=>
   rw [e0] at h;cases h;intro Wx X M xs sm pins s σ H D I q;exact (XJ pins s σ H D I (V9 (t:=Sq) q))
  | some f'=>
   rw [e0] at h;cases h;exact λ {Wx}=>yN GX G Gm hS ih _ _ e0
def A1:Nat->Sx->Stmt->Option Fs:=LR
def ja (GX:GX K mg S.xc) (G:GS P w K mg base lvl S.Γ) (Gm:Ii P w K mg base lvl S.Γm) (hS:∀ i,∀ j∈S.alF i,S.msF j=false):∀ (n:Nat) (st:Stmt) (f:Fs),A1 n S st=some f->Hs P w K mg base lvl S st f:=vH GX G Gm hS
def Au (io:Bool) (np k:Nat) (b:Fs):Fn:=λ xs=>if xs.length=np/\io=false then (match b (xs.map (λ x=>some (x,dv x))++AL k none) with
 | .rt y d _=>.ok (y,d,.non)
 | .nx _=>.ok (.non,om,.non)
 | _=>.no) else .no
def ED {io:Bool}{np k:Nat}{b:Fs}:∀ xs,xs.length≠np->Au io np k b xs=.no:=λ xs h=>by
 unfold Au;rw [if_neg λ z=>h z.1]
def jA {x qual:Str}{st:Stmt}{f:Addr}{fd:CQ}{N ps:List Str}{k:Nat}{sp:Sp} (F:Fun K x qual st f fd) (S:FnScope N ps (A2 st)) (len:∀ vs H Q E,sp vs H Q E->vs.length=ps.length)
  (hbody:∀ (cdv:Ad) (A:BD) (outer:List Env) (s:Ai) (H:Hp) (vs:List V) (Q:VK) (E:XK),Room k (A.deeper (Hx qual (A2 st) s.heap.objs.size f cdv))->sp vs H Q E ->
   ∃ t,En (CG (AV P w K) P w K mg base N qual (A2 st) f cdv A outer s H E) (AY st) t/\t { nx:=λ _ H'=>Q .non H',rt:=Q } (L2.start N vs) H):FnOk P w K mg base (AV P w K) (k + 1) f fd ps sp:=by
 obtain ⟨oc,od,kV,doc,pm,an,cdv,ct,osl,rfl,lk,hcd⟩:=F.ex;exact qf lk hcd S len λ A outer s H vs Q E hr hsp=>hbody cdv A outer s H vs Q E hr hsp
def qd {x qual:Str}{st:Stmt}{fa:Addr}{fd:CQ}{ps:List Str}{np k:Nat}{io:Bool}{b:Fs} (Fu:Fun K x qual st fa fd) (FS:FnScope S.N ps (A2 st)) (hsc:S.sc=A2 st) (hal:S.al=[]) (hnp:ps.length=np) (hk:S.N.length=np + k)
  (hms:∀ i∈S.ms,i < np->i=0/\io=true) (hio:io=true->S.msF 0=true/\0 < np) (GX:GX K mg S.xc) (G:GS P w K mg base lvl S.Γ) (Gm:Ii P w K mg base lvl S.Γm) (hb:AW (A1 60 S) (AY st)=some b):
  FnOk P w K mg base (AV P w K) (lvl + 1) fa fd ps (AZ K io np (Au io np k b)):=by
 have hS:∀ i,∀ j∈S.alF i,S.msF j=false:=λ i j hj=>by
  unfold Sx.alF at hj;rw [hal] at hj;simp at hj
 refine jA Fu FS (λ vs H Q E h=>h.1.trans hnp.symm) λ cdv A outer s H vs Q E hr h=>?_;obtain ⟨hl,xs,Zo,hZ,o,q⟩:=h;let M:Fm:={ K:=K,Ms:=S.msF,Zo:=Zo,H₀:=H,W:=W0,io:=none,al:=λ _=>[] }
 have hxs:XS (CG (AV P w K) P w K mg base S.N qual (A2 st) fa cdv A outer s H E) P w K mg base lvl S W0:=⟨rfl,rfl,rfl,rfl,rfl,rfl,hsc.symm,rfl,hr,j4,VZ,λ _=>jK⟩
 have hsm:SM (CG (AV P w K) P w K mg base S.N qual (A2 st) fa cdv A outer s H E) M K S W0:=by
  refine ⟨⟨rfl,rfl,λ i _=>?_,(λ i j hj=>nomatch hj),rfl,λ _ h=>nomatch h⟩,λ _=>rfl,λ h=>absurd rfl h,(λ _ h=>nomatch h),λ _=>rfl,FS.nd,rfl,rfl⟩;show []=S.al.getD i [];rw [hal];rfl
 unfold Au at q;have hlen:xs.length=np/\io=false:=by
  by_cases e:xs.length=np/\io=false
  ·exact e
  ·rw [if_neg e] at q;exact q.elim
 rw [if_pos hlen] at q;have get:∀ i y d,(xs.map (λ x=>(some (x,dv x):Slot))++AL k none)[i]?=some (some (y,d))->xs[i]?=some y/\d=dv y:=λ i y d e=>by
  by_cases hi:i < xs.length
  ·rw [C7 (by rw [A8];exact hi),C5,BW hi] at e;cases e;exact ⟨BW hi,rfl⟩
  ·rw [Gi (by rw [A8];omega),EB] at e;split at e <;> cases e
 refine ⟨tS M b,JZ (ja GX G Gm hS 60) _ _ hb _ M hxs hsm,xs.map (λ x=>some (x,dv x))++AL k none,λ _=>[],?_,?_⟩
 ·refine ⟨λ i y d e=>?_,λ i h=>rfl,λ i j hij a ha _=>(nomatch ha),λ i a ha=>(nomatch ha),λ i hi a ha=>(nomatch ha),hZ,?_,λ i y d hi e=>?_,λ a h=>h,⟨λ v hv=>(nomatch hv),λ _ h=>(nomatch h)⟩⟩
  ·obtain ⟨e1,rfl⟩:=get i y d e;obtain ⟨v,ev,ov⟩:=o.nth e1;refine ⟨v,?_,ov.dv.weak λ a h=>?_⟩
   ·unfold L2.start;rw [C7 (by rw [A8];exact (jb0.mp ev).1),C5,ev];rfl
   ·rcases h with h | ⟨j,_,h⟩
    ·exact h
    ·cases h
  ·unfold L2.start;rw [BI,A8,El,BI,A8,El,o.length,hlen.1,hk];omega
  ·have hm:i∈S.ms:=by
    have hi':S.msF i=true:=hi;unfold Sx.msF at hi';simpa using hi'
   have:=(jb0.mp (get i y d e).1).1
   have:=(hms i hm (by rw [<- hlen.1];exact this)).2
   rw [hlen.2] at this;cases this
 ·have fin:∀ {y:PV}{d:Nat}{v:V}{H':Hp}{fps':AU}{fp:List Addr},(∀ v H' fp,D5 (λ _=>False) H H'->(∀ a,H a≠none->H' a≠none)->Own K H' (λ a=>Zo a\/a∈fp) y d v fp->(∀ a∈fp,H a=none/\¬ Zo a)->Q v H')->KS M H (λ _=>[]) H' fps'->Own M.K H' (λ a=>Zr M fps' a\/a∈fp) y d v fp->(∀ a∈fp,M.H₀ a=none/\¬ Zr M fps' a)->Q v H':=λ q ks oy hf=>q _ _ _ (λ a o h _=>ks.keep a o h λ ⟨i,hi⟩=>(nomatch hi)) ks.dom (oy.weak λ a h=>h.elim (λ h=>.inl (.inl h)) .inr) λ a ha=>⟨(hf a ha).1,λ z=>(hf a ha).2 (.inl z)⟩
  cases eb:b (xs.map (λ x=>some (x,dv x))++AL k none) with
  | no=>rw [eb] at q;exact q
  | exc c=>rw [eb] at q;exact q.elim
  | bk ρ=>rw [eb] at q;exact q.elim
  | ct ρ=>rw [eb] at q;exact q.elim
  | rt y d ρ'=>
   rw [eb] at q;exact λ v σ' H' fps' fp ks rp oy hf=>fin q ks oy hf
  | nx ρ'=>
   rw [eb] at q;exact λ σ' H' fps' ks rp=>fin (fp:=[]) q ks (by rw [Own];exact ⟨rfl,rfl⟩) λ _ z=>(nomatch z)
end
open PySem PySem.Spec PySem.W PySem.Calls PyProof.Rows L2
theorem UH {tb:String->Option vl9}{p:AA}{w:A4}{n₀:Nat}{ann:Option Ad}:∀ {n:Nat}{s r:SharedT}{t:Thread},Kj tb p w n₀ ann n s t=some r->topRun tb p w n₀ ann n s.abs t=some r.abs
 | 0,_,_,_,h=>by cases h
 | n + 1,s,r,t,h=>by
  unfold Kj at h;unfold topRun;cases e1:through t with
  | true=>rw [e1] at h;cases h;rfl
  | false=>
   rw [e1] at h;cases e2:stepOk n₀ ann t with
   | false=>rw [e2] at h;cases h
   | true=>
    rw [e2] at h;cases e3:stepT (denote tb) p w s t with
    | none=>rw [e3] at h;cases h
    | some z=>obtain ⟨s₂,t₂⟩:=z;rw [e3] at h;rw [stepT_spec e3];exact UH h
def kQ (P:Params) (os:OsState):(bootS P os).abs=⟨Eg P,#[],boot_drawn,boot_toks,os⟩:=by kernel_rfl
def zP (P:Params):(Eg P).isNs E5=true:=by kernel_rfl
def jn {p q:AA}{loose:List Str}{Xt:Ai->Bool}{α:Type}{Yf:Ai->α}{Ya:A4->α}{N:Nat} (e:opening p=plainProg p.main.scope.names) (hN:Nat.ble 600 N=true) (f:∀ s,fenceModules? p s=some s)
  (run:∀ (w:A4) (os:OsState),(Kj treeTable p w (Eg w.params).objs.size ((Eg w.params).nsMap E5 "__annotations__") N (bootS w.params os) (topStub p)).map (λ s=>Ss p q loose Xt Yf (Eg w.params) s.abs)=some (true,openGood q loose,Ya w)):
  LeftO p q loose Xt Yf Ya N:=λ w=>by
 obtain ⟨⟨h,gs,d,k,os⟩,e1,e2⟩:=jb9.mp (boot_open e hN f w);obtain ⟨rfl,rfl,rfl,rfl⟩:h=Eg w.params/\gs=#[]/\d=boot_drawn/\k=boot_toks:=by simpa using e2
 obtain ⟨s,r1,r2⟩:=jb9.mp (run w os);have r:=UH r1;rw [kQ] at r;have r3:(_=_)/\(_ ,_)=(_,_):=Prod.mk.inj r2;obtain ⟨l1,l23⟩:=r3;obtain ⟨l2,l3⟩:=Prod.mk.inj l23;have t:topFrom treeTable p w N ⟨Eg w.params,#[],boot_drawn,boot_toks,os⟩=some s.abs:=by
  unfold topFrom;dsimp only;rw [zP,r];show (match staticsOk (Q9 p.main.body) (Eg w.params) s.abs.heap && namesBound p s.abs.heap && gensDone s.abs && laidKept (Eg w.params) s.abs.heap with | true=>_ | false=>_)=_;rw [l1]
 unfold openEnds;rw [e1];show (topFrom treeTable p w N _).map _=_;rw [t];exact congrArg some (Prod.ext l2 l3)
theorem xy (h:Heap):(Ml h).In h:=by
 intro a o;unfold Ml;generalize A6 h.objs.size=l;induction l with
 | nil=>intro e;cases e
 | cons b l ih=>
  intro e;rw [Pn] at e;cases g:h.get? b with
  | none=>rw [g] at e;exact ih e
  | some z=>
   rw [g] at e;dsimp only [Mv] at e;rw [EV] at e;split at e
   ·rename_i q;cases e;rw [beq_iff_eq.mp q];exact g
   ·exact ih e
def qC {K:Frag}{x:Str}{st:Stmt} (e:SS K x=some (RW x st)):∃ (g:Addr) (fd:CQ),nsIn K E5 x=some (some (.ref g))/\Fun K x x st g fd:=by
 unfold SS at e;split at e
 ·rename_i g hg;split at e
  ·rename_i oc od fd sl hl;cases fd;unfold RW at e;simp only [Option.some.injEq,DefSeen.mk.injEq] at e;obtain ⟨rfl,rfl,rfl,rfl,rfl,rfl,rfl,rfl,rfl,hc⟩:=e;refine ⟨g,_,hg,qE hl hc ?_⟩;unfold keepIn;dsimp only;rw [hl]
  ·cases e
 ·cases e
structure Given (ds:List (Str×Stmt)) (xc:List Nat) (K:Frag) (mg:Str->Option Ad):Prop where
 df:∀ (i:Nat) (x:Str) (st:Stmt),ds[i]?=some (x,st)->∃ (g:Addr) (fd:CQ),mg x=some (.ref g)/\Fun K x x st g fd
 bn:∀ x∈zyn,mg x=none
 gx:GX K mg xc
theorem Se {α β:Type}{f g:α->β}:∀ {l:List α},l.map f=l.map g->∀ {i:Nat}{a:α},l[i]?=some a->f a=g a
 | [],_,_,_,h=>by cases h
 | b::l,e,0,a,h=>by
  cases h;exact (List.cons.inj e).1
 | b::l,e,i + 1,a,h=>Se (List.cons.inj e).2 h
def vP {ds:List (Str×Stmt)}{xc:List Nat}{K:Frag}{mg:Str->Option Ad}{h:Heap} (X:K.In h) (G:h.Ns E5 mg) (e:Lc ds xc K=Mg ds):Given ds xc K mg:=by
 obtain ⟨e1,e2⟩:=Prod.mk.inj e;obtain ⟨e2,e3⟩:=Prod.mk.inj e2;refine ⟨λ i x st hi=>?_,λ x hx=>?_,?_⟩
 ·obtain ⟨g,fd,a,b⟩:=qC (Se e1 hi);exact ⟨g,fd,mg_of X G a,b⟩
 ·obtain ⟨i,hi⟩:=List.getElem?_of_mem hx;exact mg_none_of X G (Se e2 hi)
 ·cases xc with
  | nil=>rfl
  | cons _ _=>cases e3
def zV {P:AA}{w:A4}{K:Frag}{outer:List Env}{H:Hp}{s:Ai}{e:Ad}{s2:Ai} (z:AV P w K outer H s (λ _ _ _=>False) e s2):False:=z
def holds_by {l:OpenLaw}{q:AA}{loose:List Str}{d:DefRec}{N k n:Nat}{ds:List (Str×Stmt)}{xc:List Nat}{F:Fn}{x:Str} (said:l.wellSaid=true)
  (e:opening l.prog=plainProg l.prog.main.scope.names) (hN:Nat.ble 600 N=true) (f:∀ s,fenceModules? l.prog s=some s)
  (run:∀ (w:A4) (os:OsState),(Kj treeTable l.prog w (Eg w.params).objs.size ((Eg w.params).nsMap E5 "__annotations__") N (bootS w.params os) (topStub l.prog)).map
   (λ s=>Ss l.prog q loose (λ s=>xlAt q [] s && recOk (RowW.records l.row.toRowW) s) (λ s=>Lc ds xc (Ml s.heap)) (Eg w.params) s.abs)=some (true,openGood q loose,Mg ds))
  (hdef:defOf q l.row.name=some (d,[])) (hp:l.row.prog.theDef l.row.name=some (d.params,d.body,d.scope)) (hk:kwWritten? d.params.kwonlyargs d.params.kw_defaults=some []) (hwr:(!l.row.writes || l.row.records.isEmpty)=true)
  (ok:(chainsOk q && opensWell l.row.prog && (frees l.row.toRowW && l.row.within.isEmpty))=true) (hb:l.row.prog.bare) (hw:l.row.toRowW.promised)
  (hn:l.most=some n) (hn2:n<=Aw) (hdf:d.params.defaults=[]) (hr:Room k Jk)
  (law:∀ (K:Frag) (w:A4) (mg:Str->Option Ad) (fa:Addr),Given ds xc K mg->mg d.name=some (.ref fa)->∃ fd:CQ,(∀ (s:Ai) (u:Ad),BindsTo s fd ⟨[u],[]⟩ [(x,u)]) /\
   ∀ base:Heap,FnOk l.prog w K mg base (AV l.prog w K) k fa fd [x] (AZ K false 1 F))
  (yes:∀ (K:Frag) (H:Hp) (a:Addr) (ns:List Int),ns.length<=n->Ia H->Bi K H a (ns.map V.int)->AZ K false 1 F [.ref a] H (λ v _=>v=.bl true) λ _ _ _=>False):l.Holds:=by
 refine holds_law said λ ws=>?_;refine holds_open (q:=q) (loose:=loose) (Xt:=λ s=>xlAt q [] s && recOk (RowW.records l.row.toRowW) s) (XP:=XL q []) (Yf:=λ s=>Lc ds xc (Ml s.heap)) (Ya:=λ _=>Mg ds) (YP:=λ _ h=>∃ K:Frag,K.In h/\Lc ds xc K=Mg ds) (N:=N)
  (jn e hN f run) (λ _ s z=>⟨_,xy _,z⟩) (λ _ _ _ ⟨K,a,b⟩ kp=>⟨K,a.keeps kp,b⟩) (λ s e=>xl_of s (jp3.mp e).1) XL.keeps hdef hp hk (λ s e=>recFacts_of (jp3.mp e).2) hwr ws ok hb hw ?_
 refine Att.attach_call hn hdf λ w s₀ s₁ mg mb fa o pm cd doc a vs ns G Y ho hd hcd hmg hobj hints hlen hg=>?_;obtain ⟨K,KX,hf⟩:=Y;obtain ⟨fd,hbd,hF⟩:=law K w mg fa (vP KX G.T.g hf) hmg;exact vg KX G.T.g G.T.b G.T.builtins G.T.nolimit hg hobj hints (Cw hlen hn2) hr (λ base _ _=>hF base) hbd (λ H hO hS=>yes K H a ns hlen hO hS) λ H e s'=>zV
section
variable {P:AA}{w:A4}{K:Frag}{mg:Str->Option Ad}{base:Heap}
def Ej {us:List Ad} (h:us.length=1):∃ a,us=[a]:=jo2.mp h
theorem BH {us:List Ad} (h:us.length=2):∃ a b,us=[a,b]:=by
 cases us with
 | nil=>cases h
 | cons a r=>obtain ⟨b,rfl⟩:=Ej (Nat.succ.inj h);exact ⟨a,b,rfl⟩
theorem Ei {us:List Ad} (h:us.length=3):∃ a b c,us=[a,b,c]:=by
 cases us with
 | nil=>cases h
 | cons a r=>obtain ⟨b,c,rfl⟩:=BH (Nat.succ.inj h);exact ⟨a,b,c,rfl⟩
theorem Gd {us:List Ad} (h:us.length=4):∃ a b c d,us=[a,b,c,d]:=by
 cases us with
 | nil=>cases h
 | cons a r=>obtain ⟨b,c,d,rfl⟩:=Ei (Nat.succ.inj h);exact ⟨a,b,c,d,rfl⟩
def BC {lvl:Nat} (hb:∀ x∈zyn,mg x=none):GS P w K mg base lvl []:=⟨hb,λ x io n F h=>by cases h⟩
def Eu {lvl:Nat}{x qual:Str}{st:Stmt}{fa:Addr}{fd:CQ}{ps:List Str}{io:Bool}{n:Nat}{F:Fn}{Γ:List (Str×(Bool×Nat×Fn))} (g:GS P w K mg base lvl Γ) (hx:(x == ("__debug__" : Str))=false) (hF:∀ xs,xs.length≠n->F xs=.no)
  (hm:mg x=some (.ref fa)) (Fu:Fun K x qual st fa fd) (hbd:qa5 K fd ps []) (hn:ps.length=n) (ok:FnOk P w K mg base (AV P w K) lvl fa fd ps (AZ K io n F)):GS P w K mg base lvl ((x,(io,n,F))::Γ):=by
 refine ⟨g.1,λ y io' n' F' h=>?_⟩;rw [EV] at h;split at h
 ·rename_i e;cases h
  have:y=x:=eq_of_beq e
  subst this;exact ⟨hx,hF,fa,fd,ps,hm,Fu.kp,hbd,hn,ok⟩
 ·exact g.2 y io' n' F' h
def jC {lvl:Nat}:Ii P w K mg base lvl []:=λ x F h=>by cases h
def BN {lvl j:Nat}{x qual:Str}{st:Stmt}{fa:Addr}{fd:CQ}{ps:List Str}{io:Bool}{n:Nat}{F:Fn}{Γ:List (Str×(Bool×Nat×Fn))} (g:GS P w K mg base lvl Γ) (hm:mg x=some (.ref fa)) (Fu:Fun K x qual st fa fd) (hbd:qa5 K fd ps []) (ok:FnOk P w K mg base (AV P w K) j fa fd ps (AZ K io n F)) (hl:j<=lvl:=by decide) (hx:(x == ("__debug__" : Str))=false:=by decide +kernel) (hF:∀ xs,xs.length≠n->F xs=.no:=by exact ED) (hn:ps.length=n:=by rfl):GS P w K mg base lvl ((x,(io,n,F))::Γ):=Eu g hx hF hm Fu hbd hn (ok.mono hl)
def BG (S:Sx) {lvl:Nat}{x qual:Str}{st:Stmt}{fa:Addr}{fd:CQ}{ps:List Str}{np k:Nat}{io:Bool}{b:Fs} (Fu:Fun K x qual st fa fd) (FS:FnScope S.N ps (A2 st)) (gX:GX K mg S.xc) (G:GS P w K mg base lvl S.Γ) (hb:AW (A1 60 S) (AY st)=some b) (hsc:S.sc=A2 st:=by rfl) (hal:S.al=[]:=by rfl) (hnp:ps.length=np:=by rfl) (hk:S.N.length=np + k:=by rfl) (hms:∀ i∈S.ms,i < np->i=0/\io=true:=by decide) (hio:io=true->S.msF 0=true/\0 < np:=by first | exact λ h=>Bool.noConfusion h | exact λ _=>⟨rfl,by decide⟩) (Gm:Ii P w K mg base lvl S.Γm:=by exact jC):FnOk P w K mg base (AV P w K) (lvl + 1) fa fd ps (AZ K io np (Au io np k b)):=qd (S:=S) Fu FS hsc hal hnp hk hms hio gX G Gm hb
end
def sp_yes {K:Frag}{H:Hp}{a:Addr}{ns:List Int}{F:Fn} (hO:Ia H) (hS:Bi K H a (ns.map V.int)) (h:∃ d z,F [.scr ns]=.ok (.bl true,d,z)):AZ K false 1 F [.ref a] H (λ v _=>v=.bl true) λ _ _ _=>False:=by
 refine ⟨rfl,[.scr ns],λ _=>False,λ _ z=>z.elim,?_,?_⟩
 ·rw [OwnL];refine ⟨.ref a,[],[],[],rfl,rfl,λ _ z=>(nomatch z),?_,by rw [OwnL];exact ⟨rfl,rfl⟩⟩;rw [Own];refine ⟨rfl,a,rfl,?_⟩;rcases hS with (h | h) | h
  ·rcases hO a with z | ⟨ob,xs,z⟩
   ·rw [h] at z;cases z
   ·rw [h] at z;cases z
  ·exact .inl h
  ·exact .inr h
 ·obtain ⟨d,z,e⟩:=h;rw [e];intro v H' fp _ _ o _;rw [Own] at o;exact o.1
end QQ
namespace QV
open PySem PySem.Spec PyProof.Rows L2 QQ
def Cs {op:PV->Nat->PV->Nat->Option (PV×Nat)}{f g:Fx}{ρ ρ1 ρ2:Ae}{x y z:PV}{d e c:Nat} (h1:f ρ=.ok (x,d,ρ1)) (h2:g ρ1=.ok (y,e,ρ2)) (h3:op x d y e=some (z,c)):Ab op f g ρ=.ok (z,c,ρ2):=by
 unfold Ab;rw [h1];dsimp only [Rz.bind];rw [h2];dsimp only;rw [h3]
def VC {op:PV->Nat->Option (PV×Nat)}{f:Fx}{ρ ρ1:Ae}{x z:PV}{d c:Nat} (h1:f ρ=.ok (x,d,ρ1)) (h3:op x d=some (z,c)):AN op f ρ=.ok (z,c,ρ1):=by
 unfold AN;rw [h1];dsimp only [Rz.bind];rw [h3]
def A7 {f:Fx}{fa:Fa}{ρ ρ1 ρ2:Ae}{x:PV}{d:Nat}{xs:List (PV×Nat)} (h1:f ρ=.ok (x,d,ρ1)) (h2:fa ρ1=.ok (xs,ρ2)):Af f fa ρ=.ok ((x,d)::xs,ρ2):=by
 unfold Af;rw [h1];dsimp only [Rz.bind];rw [h2]
def AJ {f:Fx}{ρ ρ1:Ae}{x:PV}{d:Nat} (h1:f ρ=.ok (x,d,ρ1)):Af f Ac ρ=.ok ([(x,d)],ρ1):=A7 h1 rfl
def Ck {op:List (PV×Nat)->Option (PV×Nat)}{fa:Fa}{ρ ρ1:Ae}{xs:List (PV×Nat)}{z:PV}{c:Nat} (h1:fa ρ=.ok (xs,ρ1)) (h2:op xs=some (z,c)):An op fa ρ=.ok (z,c,ρ1):=by
 unfold An;rw [h1];dsimp only [Rz.bind];rw [h2]
def AS {F:Fn}{fa:Fa}{ρ ρ1:Ae}{xs:List (PV×Nat)}{y z:PV}{d:Nat} (h1:fa ρ=.ok (xs,ρ1)) (h2:F (xs.map (·.1))=.ok (y,d,z)):A9 F fa ρ=.ok (y,d,ρ1):=by
 unfold A9;rw [h1];dsimp only [Rz.bind];rw [h2]
def Dn {f:Fx}{ρ ρ1:Ae}{x:PV}{d:Nat} (h:f ρ=.ok (x,d,ρ1)):A3 f ρ=.rt x d ρ1:=by
 unfold A3;rw [h]
def Iq {f:Fx}{ρ ρ1:Ae}{x:PV}{d:Nat} (h:f ρ=.ok (x,d,ρ1)):D7 f ρ=.nx ρ1:=by
 unfold D7;rw [h]
def Bq {i:Nat}{f:Fx}{vs:List Nat}{ρ ρ1 ρ2:Ae}{x:PV}{d:Nat} (h:f ρ=.ok (x,d,ρ1)) (hc:i < ρ1.length) (e:(Bj d vs ρ1).set i (some (x,d))=ρ2):Aj false i f vs ρ=.nx ρ2:=by
 unfold Aj;rw [h];dsimp only;rw [if_pos ⟨hc,λ h=>nomatch h⟩,e]
def Wh {asg:PV->Ae->Option Ae}{f:Fx}{vs:List Nat}{ρ ρ1 ρ2:Ae}{x:PV}{d:Nat} (h:f ρ=.ok (x,d,ρ1)) (e:asg x (Bj d vs ρ1)=some ρ2):Cn asg f vs ρ=.nx ρ2:=by
 unfold Cn;rw [h];dsimp only;rw [e]
def Kk {i:Nat}{f:Fx}{vs:List Nat}{ρ ρ1 ρ2:Ae}{y:PV}{e:Nat}{xs:List PV}{d0 d:Nat}{xs0:List PV} (h0:ρ[i]?=some (some (.lst xs0,d0 + 1))) (h:f ρ=.ok (y,e,ρ1)) (h1:(Bj e vs ρ1)[i]?=some (some (.lst xs,d))) (hd:d≠0) (hl:xs.length < Aw)
  (e2:(Bj e vs ρ1).set i (some (.lst (xs++[y]),if d=om/\e=om then om else 1))=ρ2):BZ i f vs ρ=.nx ρ2:=by
 unfold BZ;rw [h0];dsimp only;rw [h];dsimp only;rw [h1];dsimp only;rw [if_pos ⟨hd,hl⟩,e2]
def AR {f g:Fs}{ρ ρ1:Ae} (h:f ρ=.nx ρ1):Ah f g ρ=g ρ1:=by
 unfold Ah;rw [h]
def Vo {c:Fb}{f g:Fs}{ρ ρ1:Ae}{b:Bool} (hc:c ρ=.ok (b,ρ1)):Bw c f g ρ=if b=true then f ρ1 else g ρ1:=by
 unfold Bw;rw [hc]
def CW {c:Fb}{f g:Fs}{ρ ρ1:Ae} (hc:c ρ=.ok (true,ρ1)):Bw c f g ρ=f ρ1:=by rw [Vo hc];rfl
def CY {c:Fb}{f g:Fs}{ρ ρ1:Ae} (hc:c ρ=.ok (false,ρ1)):Bw c f g ρ=g ρ1:=by rw [Vo hc];rfl
def FI {c:Fb}{f g:Fs}{ρ ρ1:Ae} (hc:c ρ=.ok (false,ρ1)):Ah (Bw c f A5) g ρ=g ρ1:=AR (by rw [CY hc];rfl)
def Lv {f g:Fs}{ρ ρ1:Ae}{x:PV}{d:Nat} (h:f ρ=.rt x d ρ1):Ah f g ρ=.rt x d ρ1:=by
 unfold Ah;rw [h]
def AX {f:Fx}{ρ ρ1:Ae}{b:Bool}{d:Nat} (h:f ρ=.ok (.bl b,d,ρ1)):bT f ρ=.ok (b,ρ1):=by
 unfold bT;rw [h];rfl
def Gw {f:Fx}{ρ ρ1:Ae}{b:Bool}{d:Nat} (h:f ρ=.ok (.bl b,d,ρ1)):AN C2 f ρ=.ok (.bl (!b),om,ρ1):=VC h rfl
theorem OB {f g:Fx}{ρ ρ1:Ae}{a b:Bool}{d:Nat} (h:f ρ=.ok (.bl a,d,ρ1)) (h2:a=true->g ρ1=.ok (.bl b,om,ρ1)) (hd:d=om):Eb f g ρ=.ok (.bl (a && b),om,ρ1):=by
 subst hd;unfold Eb;rw [h];cases a with
 | false=>rfl
 | true=>exact h2 rfl
theorem Vu {f g:Fx}{ρ ρ1:Ae}{a b:Bool}{d:Nat} (h:f ρ=.ok (.bl a,d,ρ1)) (h2:a=false->g ρ1=.ok (.bl b,om,ρ1)) (hd:d=om):Cc f g ρ=.ok (.bl (a || b),om,ρ1):=by
 subst hd;unfold Cc;rw [h];cases a with
 | true=>rfl
 | false=>exact h2 rfl
def Hq {f g:Fx}{ρ ρ1 ρ2:Ae}{i j:Int}{d e:Nat} (h1:f ρ=.ok (.int i,d,ρ1)) (h2:g ρ1=.ok (.int j,e,ρ2)) (h:(-(2 ^ 64) < i/\i < 2 ^ 64)\/(-(2 ^ 64) < j/\j < 2 ^ 64)):Ab BX f g ρ=.ok (.int (i * j),om,ρ2):=by
 refine Cs h1 h2 ?_;show (if Ga i j=true then _ else _)=_;rw [if_pos];unfold Ga;rcases h with h | h
 ·rw [decide_eq_true h.1,decide_eq_true h.2];rfl
 ·rw [decide_eq_true h.1,decide_eq_true h.2];simp
def DC {f g:Fx}{ρ ρ1 ρ2:Ae}{i j:Int}{d e:Nat} (h1:f ρ=.ok (.int i,d,ρ1)) (h2:g ρ1=.ok (.int j,e,ρ2)) (h:0 < j):Ab CO f g ρ=.ok (.int (i % j),om,ρ2):=by
 refine Cs h1 h2 ?_;show (if HK i j=true then _ else _)=_;rw [if_pos];exact decide_eq_true h
def Kc {f g:Fx}{ρ ρ1 ρ2:Ae}{i j:Int}{d e:Nat} (h1:f ρ=.ok (.int i,d,ρ1)) (h2:g ρ1=.ok (.int j,e,ρ2)) (h:0 < j) (h':j < 2 ^ 128):Ab GW f g ρ=.ok (.int (i / j),om,ρ2):=by
 refine Cs h1 h2 ?_;show (if Gb i j=true then _ else _)=_;rw [if_pos];have h3:j.natAbs < 2 ^ 128:=by omega
 have h4:j.natAbs≠0:=by omega
 have h5:j.natAbs.log2 < 9000:=by have:=(Nat.log2_lt h4).mpr h3;omega
 unfold Gb;rw [decide_eq_true h,decide_eq_true h5];rfl
def E2 {f g:Fx}{ρ ρ1 ρ2:Ae}{i j:Int}{d e:Nat} (h1:f ρ=.ok (.int i,d,ρ1)) (h2:g ρ1=.ok (.int j,e,ρ2)):Ab Bo f g ρ=.ok (.int (i + j),om,ρ2):=Cs h1 h2 rfl
def Jj {f g:Fx}{ρ ρ1 ρ2:Ae}{i j:Int}{d e:Nat} (h1:f ρ=.ok (.int i,d,ρ1)) (h2:g ρ1=.ok (.int j,e,ρ2)):Ab Df f g ρ=.ok (.int (i - j),om,ρ2):=Cs h1 h2 rfl
def Iv {p:Int->Int->Bool}{f g:Fx}{ρ ρ1 ρ2:Ae}{i j:Int}{d e:Nat} (h1:f ρ=.ok (.int i,d,ρ1)) (h2:g ρ1=.ok (.int j,e,ρ2)):Ab (Dg p) f g ρ=.ok (.bl (p i j),om,ρ2):=Cs h1 h2 rfl
def Qn {p q:Int->Int->Bool}{f g h:Fx}{ρ:Ae}{i j k:Int}{d e c:Nat} (h1:f ρ=.ok (.int i,d,ρ)) (h2:g ρ=.ok (.int j,e,ρ)) (h3:h ρ=.ok (.int k,c,ρ)):FF p q f g h ρ=.ok (.bl (p i j && q j k),om,ρ):=by
 unfold FF;rw [h1];dsimp only [Rz.bind];rw [h2];dsimp only;by_cases hp:p i j=true
 ·rw [if_pos hp,h3,hp];rfl
 ·rw [if_neg hp]
  have:p i j=false:=by simpa using hp
  rw [this];rfl
def uB {neg:Bool}{i j:Int}{d e:Nat}:Br neg (.int i) d (.int j) e=some (.bl (neg^^decide (i=j)),om):=by
 show some (PV.bl (neg^^FT (.int i) (.int j)),om)=_
 have:FT (.int i) (.int j)=decide (i=j):=by
  show (i == j)=_;rfl
 rw [this]
def K3 {neg:Bool}{f g:Fx}{ρ ρ1 ρ2:Ae}{i j:Int}{d e:Nat} (h1:f ρ=.ok (.int i,d,ρ1)) (h2:g ρ1=.ok (.int j,e,ρ2)):Ab (Br neg) f g ρ=.ok (.bl (neg^^decide (i=j)),om,ρ2):=Cs h1 h2 uB
def il (xs:List Int):PV:=.lst (xs.map .int)
def tb (t:List (List Int)):PV:=.lst (t.map il)
abbrev bx (a b c:Int):PV:=.tup [.int a,.int b,.int c]
def Dj {α:Type}{xs:List α}{k:Int}{x:α} (h0:0<=k) (h:xs[k.toNat]?=some x):BJ xs k=some x:=by
 have hl:=(jb0.mp h).1;unfold BJ DM;rw [if_pos h0,if_pos (by omega)];exact h
def FJ {f g:Fx}{ρ ρ1 ρ2:Ae}{xs:List Int}{k x:Int}{d e:Nat} (h1:f ρ=.ok (il xs,d,ρ1)) (h2:g ρ1=.ok (.int k,e,ρ2)) (h:BJ xs k=some x):Ab Ay f g ρ=.ok (.int x,om,ρ2):=by
 refine Cs h1 h2 ?_;show (BJ (xs.map PV.int) k).map _=_
 have:BJ (xs.map PV.int) k=some (.int x):=by
  unfold BJ at h ⊢;rw [A8];cases e:DM xs.length k with
  | none=>rw [e] at h;cases h
  | some j=>
   rw [e] at h;have h':xs[j]?=some x:=h;show (xs.map PV.int)[j]?=_;rw [C5,h'];rfl
 rw [this];rfl
def OJ {f g:Fx}{ρ ρ1 ρ2:Ae}{t:List (List Int)}{k:Int}{r:List Int}{d e:Nat} (h1:f ρ=.ok (tb t,d,ρ1)) (h2:g ρ1=.ok (.int k,e,ρ2)) (h:BJ t k=some r):Ab Ay f g ρ=.ok (il r,0,ρ2):=by
 refine Cs h1 h2 ?_;show (BJ (t.map il) k).map _=_
 have:BJ (t.map il) k=some (il r):=by
  unfold BJ at h ⊢;rw [A8];cases e:DM t.length k with
  | none=>rw [e] at h;cases h
  | some j=>
   rw [e] at h;have h':t[j]?=some r:=h;show (t.map il)[j]?=_;rw [C5,h'];rfl
 rw [this];rfl
def Lq {fa:Fa}{ρ ρ1:Ae}{xs:List Int}{d:Nat} (h:fa ρ=.ok ([(il xs,d)],ρ1)):An GA fa ρ=.ok (.int xs.length,om,ρ1):=by
 refine Ck h ?_;show some (PV.int ((xs.map PV.int).length:Nat),om)=_;rw [A8]
def x6 {fa:Fa}{ρ ρ1:Ae}{t:List (List Int)}{d:Nat} (h:fa ρ=.ok ([(tb t,d)],ρ1)):An GA fa ρ=.ok (.int t.length,om,ρ1):=by
 refine Ck h ?_;show some (PV.int ((t.map il).length:Nat),om)=_;rw [A8]
theorem IV {α:Type}{n:Nat}{test:Fb}{elt:Fx}{enc q:α->PV}{e:α->Nat}{p:α->Bool}:∀ (xs:List α) (ρ:Ae) (acc:List (PV×Nat)),ρ.length=n->(∀ x∈xs,test (ρ++[some (enc x,dv (enc x))])=.ok (p x,ρ++[some (enc x,dv (enc x))])) ->
  (∀ x∈xs,p x=true->elt (ρ++[some (enc x,dv (enc x))])=.ok (q x,e x,ρ++[some (enc x,dv (enc x))]))->acc.length + xs.length<=Aw->Cj 1 (asgN n) test elt (xs.map enc) ρ acc=.ok (acc++(xs.filter p).map (λ x=>(q x,e x)),ρ)
 | [],ρ,acc,_,_,_,_=>by simp [Cj]
 | x::xs,ρ,acc,hn,ht,he,hl=>by
  have ea:asgN n (enc x) (ρ++AL 1 none)=some (ρ++[some (enc x,dv (enc x))]):=by
   unfold asgN;rw [if_pos (by rw [BI,hn];simp),List.set_append_right _ _ (by omega),hn];simp
  have ih:=λ acc h=>IV (n:=n) (test:=test) (elt:=elt) (p:=p) (q:=q) (e:=e) (enc:=enc) xs ρ acc hn (λ y hy=>ht y (AI _ hy)) (λ y hy=>he y (AI _ hy)) h;have tk:(ρ++[some (enc x,dv (enc x))]).take ρ.length=ρ:=by simp
  rw [Bh] at hl;rw [BF];unfold Cj;rw [ea];dsimp only;rw [ht x AH];dsimp only [Rz.bindN];cases hp:p x with
  | false=>
   rw [if_neg Cy,tk,ih acc (by omega),T7 (by simp [hp])]
  | true=>
   rw [if_pos rfl,he x AH hp];dsimp only;rw [if_pos (by omega),tk,ih _ (by rw [BI,EA];omega),T6 hp];simp
theorem IU {α:Type} (q:α->PV):∀ xs:List α,D6 (xs.map λ x=>(q x,om))=true
 | []=>rfl
 | x::xs=>by rw [BF];unfold D6;rw [IU q xs];rfl
def Ji {α:Type}{n:Nat}{f elt:Fx}{enc q:α->PV}{ρ ρ1:Ae}{d:Nat} (xs:List α) (hf:f ρ=.ok (.lst (xs.map enc),d,ρ1)) (hn:ρ1.length=n) (he:∀ x∈xs,elt (ρ1++[some (enc x,dv (enc x))])=.ok (q x,om,ρ1++[some (enc x,dv (enc x))])) (hl:xs.length<=Aw):
  Cu f 1 (asgN n) Be elt ρ=.ok (.lst (xs.map q),om,ρ1):=by
 unfold Cu;rw [hf];dsimp only;rw [IV (p:=λ _=>true) (q:=q) (e:=λ _=>om) xs ρ1 [] hn (λ _ _=>rfl) (λ x hx _=>he x hx) (by simpa using hl),jf0.mpr (λ _ _=>rfl)];show CP (xs.map λ x=>(q x,om)) ρ1=_;unfold CP;rw [IU,CB];rfl
def kU {α:Type}{n:Nat}{f elt:Fx}{enc q:α->PV}{ρ ρ1:Ae}{d:Nat} (xs:List α) (hf:f ρ=.ok (.tup (xs.map enc),d,ρ1)) (hn:ρ1.length=n) (he:∀ x∈xs,elt (ρ1++[some (enc x,dv (enc x))])=.ok (q x,om,ρ1++[some (enc x,dv (enc x))])) (hl:xs.length<=Aw):
  Cu f 1 (asgN n) Be elt ρ=.ok (.lst (xs.map q),om,ρ1):=by
 unfold Cu;rw [hf];dsimp only;rw [IV (p:=λ _=>true) (q:=q) (e:=λ _=>om) xs ρ1 [] hn (λ _ _=>rfl) (λ x hx _=>he x hx) (by simpa using hl),jf0.mpr (λ _ _=>rfl)];show CP (xs.map λ x=>(q x,om)) ρ1=_;unfold CP;rw [IU,CB];rfl
def Xx {α:Type}{n:Nat}{f elt:Fx}{test:Fb}{enc q:α->PV}{p:α->Bool}{ρ ρ1:Ae}{d:Nat} (xs:List α) (hf:f ρ=.ok (.lst (xs.map enc),d,ρ1)) (hn:ρ1.length=n) (ht:∀ x∈xs,test (ρ1++[some (enc x,dv (enc x))])=.ok (p x,ρ1++[some (enc x,dv (enc x))])) (he:∀ x∈xs,p x=true->elt (ρ1++[some (enc x,dv (enc x))])=.ok (q x,om,ρ1++[some (enc x,dv (enc x))])) (hl:xs.length<=Aw):
  Cu f 1 (asgN n) test elt ρ=.ok (.lst ((xs.filter p).map q),om,ρ1):=by
 unfold Cu;rw [hf];dsimp only;rw [IV (p:=p) (q:=q) (e:=λ _=>om) xs ρ1 [] hn ht he (by simpa using hl)];show CP ((xs.filter p).map λ x=>(q x,om)) ρ1=_;unfold CP;rw [IU,CB];rfl
def ML (lo:Int) (n:Nat):FL lo n=(A6 n).map λ (k:Nat)=>PV.int (lo + (k:Int)):=rfl
def JR {n:Nat}{en:List (PV×Nat)->Option (Int×Int)}{fa:Fa}{elt:Fx}{q:Nat->PV}{ρ ρ1:Ae}{as:List (PV×Nat)}{lo hi:Int} (hf:fa ρ=.ok (as,ρ1)) (hen:en as=some (lo,hi)) (hn:ρ1.length=n) (he:∀ k,k < (hi - lo).toNat->elt (ρ1++[some (.int (lo + (k:Int)),om)])=.ok (q k,om,ρ1++[some (.int (lo + (k:Int)),om)])) (hl:(hi - lo).toNat<=Aw):
  CL en fa 1 (asgN n) Be elt ρ=.ok (.lst ((A6 (hi - lo).toNat).map q),om,ρ1):=by
 unfold CL;rw [hf];dsimp only;rw [hen];dsimp only;rw [ML,IV (enc:=λ (k:Nat)=>PV.int (lo + (k:Int))) (p:=λ _=>true) (q:=q) (e:=λ _=>om) (A6 (hi - lo).toNat) ρ1 [] hn (λ _ _=>rfl) (λ x hx _=>he x (jc5.mp hx)) (by simpa using hl),jf0.mpr (λ _ _=>rfl)];show CP ((A6 (hi - lo).toNat).map λ x=>(q x,om)) ρ1=_;unfold CP;rw [IU,CB];rfl
theorem kO {α:Type} (g:α->Bool) (xs:List α):QQ.allB (xs.map λ x=>.bl (g x))=some (xs.map g):=by
 induction xs with
 | nil=>rfl
 | cons x r ih=>rw [BF,BF,QQ.allB,ih];rfl
def all_ok {α:Type}{f:Fx}{ρ ρ1:Ae}{d:Nat}{g:α->Bool}{xs:List α} (h:f ρ=.ok (.lst (xs.map λ x=>.bl (g x)),d,ρ1)):An EH (Af f Ac) ρ=.ok (.bl (xs.all g),om,ρ1):=by
 refine Ck (AJ h) ?_;show (QQ.allB _).map _=_;rw [kO];simp
theorem Yg {i:Nat}{body:Fs}{lo:Int} (I:Nat->Ae->Prop):∀ (m k:Nat) (ρ:Ae),I k ρ->(∀ j ρ,k<=j->j < k + m->I j ρ->i < ρ.length/\∃ ρ2,body (ρ.set i (some (.int (lo + (j:Int)),om)))=.nx ρ2/\I (j + 1) ρ2) ->
  ∃ ρ',BO (asgN i) body ((K9 k m).map λ (k:Nat)=>PV.int (lo + (k:Int))) ρ=.nx ρ'/\I (k + m) ρ'
 | 0,k,ρ,hi,_=>⟨ρ,rfl,hi⟩
 | m + 1,k,ρ,hi,hb=>by
  obtain ⟨h1,ρ2,e2,h2⟩:=hb k ρ (AB _) (by omega) hi;obtain ⟨ρ',e',h'⟩:=Yg (i:=i) (body:=body) (lo:=lo) I m (k + 1) ρ2 h2 λ j ρ a b=>hb j ρ (by omega) (by omega);refine ⟨ρ',?_,by rw [show k + (m + 1)=k + 1 + m by omega];exact h'⟩;rw [YT,BF];unfold BO
  have:asgN i (PV.int (lo + (k:Int))) ρ=some (ρ.set i (some (.int (lo + (k:Int)),om))):=by
   unfold asgN;rw [if_pos h1];rfl
  rw [this];dsimp only;rw [e2];exact e'
def Ja {i:Nat}{body:Fs}{en:List (PV×Nat)->Option (Int×Int)}{fa:Fa}{ρ ρ1:Ae}{as:List (PV×Nat)}{lo hi:Int} (I:Nat->Ae->Prop) (hf:fa ρ=.ok (as,ρ1)) (hen:en as=some (lo,hi)) (h0:I 0 ρ1)
  (hb:∀ j ρ,j < (hi - lo).toNat->I j ρ->i < ρ.length/\∃ ρ2,body (ρ.set i (some (.int (lo + (j:Int)),om)))=.nx ρ2/\I (j + 1) ρ2):∃ ρ',Dq en fa (asgN i) body ρ=.nx ρ'/\I (hi - lo).toNat ρ':=by
 obtain ⟨ρ',e,h⟩:=Yg (i:=i) (body:=body) (lo:=lo) I (hi - lo).toNat 0 ρ1 h0 λ j ρ _ h hi=>hb j ρ (by omega) hi;refine ⟨ρ',?_,by rw [KA] at h;exact h⟩;unfold Dq;rw [hf];dsimp only;rw [hen];dsimp only;rw [ML,List.range_eq_range'];exact e
def Ez {j:Int}{d:Nat} (h1:-(2 ^ 62)<=j) (h2:j < 2 ^ 62):Bn [(.int j,d)]=some (0,j):=by
 show (if -(2 ^ 62)<=j/\j < 2 ^ 62 then some ((0:Int),j) else none)=_;rw [if_pos ⟨h1,h2⟩]
def vL {i j:Int}{d e:Nat} (h1:-(2 ^ 62)<=i) (h2:i < 2 ^ 62) (h3:-(2 ^ 62)<=j) (h4:j < 2 ^ 62):FG [(.int i,d),(.int j,e)]=some (i,j):=by
 show (if -(2 ^ 62)<=i/\i < 2 ^ 62/\-(2 ^ 62)<=j/\j < 2 ^ 62 then some (i,j) else none)=_;rw [if_pos ⟨h1,h2,h3,h4⟩]
def Ct {np k:Nat}{b:Fs}{xs:List PV}{ρ':Ae}{y:PV}{d:Nat} (hl:xs.length=np) (h:b (xs.map (λ x=>some (x,dv x))++AL k none)=.rt y d ρ'):Au false np k b xs=.ok (y,d,.non):=by
 unfold Au;rw [if_pos ⟨hl,rfl⟩,h]
def O6 {np k:Nat}{b:Fs}{xs:List PV}{ρ':Ae} (hl:xs.length=np) (h:b (xs.map (λ x=>some (x,dv x))++AL k none)=.nx ρ'):Au false np k b xs=.ok (.non,om,.non):=by
 unfold Au;rw [if_pos ⟨hl,rfl⟩,h]
def Xf_is_whole_number:Fs:=(A3 (Eb (AN (CN "int") (Aa 0)) (AN C2 (AN (CN "bool") (Aa 0)))))
def f_is_whole_number:Fn:=Au false 1 0 Xf_is_whole_number
abbrev _root_.pa8:=An GA (Af (Aa 0) (Ac))
abbrev _root_.pd2:=Eb (A9 f_is_whole_number (Af (Aa 1) (Ac))) (Ab (Dg λ i j=>decide (j<=i)) (Aa 1) (bC (.int 1)))
def Xf_is_box:Fs:=(Ah (Bw (bT (Cc (AN C2 (AN (CN "tuple") (Aa 0))) (Ab (Br true) pa8 (bC (.int 3))))) (A3 (bC (.bl false))) A5)
 (A3 (An EH (Af (Cu (Aa 0) 1 (asgN 1) Be pd2) (Ac)))))
def f_is_box:Fn:=Au false 1 0 Xf_is_box
def Xf_must_be_box:Fs:=(Bw (bT (AN C2 (A9 f_is_box (Af (Aa 0) (Ac))))) GN A5)
def f_must_be_box:Fn:=Au false 1 0 Xf_must_be_box
abbrev _root_.pc5:=Eb (A9 f_is_whole_number (Af (Aa 3) (Ac))) (FF (λ i j=>decide (i<=j)) (λ i j=>decide (i<=j)) (bC (.int 0)) (Aa 3) (Aa 2))
def Xf_is_row_of_heights:Fs:=(Ah (Bw (bT (Cc (AN C2 (AN (CN "list") (Aa 0))) (Ab (Br true) pa8 (Aa 1)))) (A3 (bC (.bl false))) A5)
 (A3 (An EH (Af (Cu (Aa 0) 1 (asgN 3) Be pc5) (Ac)))))
def f_is_row_of_heights:Fn:=Au false 3 0 Xf_is_row_of_heights
abbrev _root_.pd0:=Ab (Dg λ i j=>decide (i<=j)) (Ab Ay (Aa 0) (Aa 1)) (Ab Ay (Aa 0) (Ab Df (Aa 1) (bC (.int 1))))
def Xf_never_rises:Fs:=(A3 (An EH (Af (CL FG (Af (bC (.int 1)) (Af pa8 (Ac))) 1 (asgN 1) Be pd0) (Ac))))
def f_never_rises:Fn:=Au false 1 0 Xf_never_rises
def Xf_column_of:Fs:=(A3 (Cu (Aa 0) 1 (asgN 2) Be (Ab Ay (Aa 2) (Aa 1))))
def f_column_of:Fn:=Au false 2 0 Xf_column_of
abbrev _root_.pb3:=An GA (Af (Aa 1) (Ac))
abbrev _root_.pc7:=Af (Aa 1) (Af (Aa 5) (Ac))
abbrev _root_.pd5:=Af (Aa 3) (Af (Aa 4) (Ac))
abbrev _root_.pf8:=A9 f_never_rises (Af (Aa 5) (Ac))
abbrev _root_.pf7:=A9 f_must_be_box (Af (Aa 0) (Ac))
def Xf_is_pile:Fs:=(Ah (D7 pf7)
 (Ah (Cn (asgT [2,3,4]) (Aa 0) [0])
 (Ah (Bw (bT (Cc (AN C2 (AN (CN "list") (Aa 1))) (Ab (Br true) pb3 (Aa 2)))) (A3 (bC (.bl false))) A5)
 (Ah (Bw (bT (AN C2 (An EH (Af (Cu (Aa 1) 1 (asgN 5) Be (A9 f_is_row_of_heights (Af (Aa 5) pd5))) (Ac))))) (A3 (bC (.bl false))) A5)
 (Ah (Bw (bT (AN C2 (An EH (Af (Cu (Aa 1) 1 (asgN 5) Be pf8) (Ac))))) (A3 (bC (.bl false))) A5)
 (A3 (An EH (Af (CL Bn (Af (Aa 3) (Ac)) 1 (asgN 5) Be (A9 f_never_rises (Af (A9 f_column_of pc7) (Ac)))) (Ac)))))))))
def f_is_pile:Fn:=Au false 2 3 Xf_is_pile
abbrev _root_.pd6:=Af (Aa 0) (Af (Aa 1) (Ac))
def Xf_must_be_pile:Fs:=(Bw (bT (AN C2 (A9 f_is_pile pd6))) GN A5)
def f_must_be_pile:Fn:=Au false 2 0 Xf_must_be_pile
abbrev _root_.pf2:=Ab (Dg λ i j=>decide (j < i)) (Aa 2) (Aa 1)
def Xf_how_many_above:Fs:=(A3 (An GA (Af (Cu (Aa 0) 1 (asgN 2) (bT pf2) (Aa 2)) (Ac))))
def f_how_many_above:Fn:=Au false 2 0 Xf_how_many_above
def Xb_cell_at:Fs:=(Ah (Bw (bT (Ab (Dg λ i j=>decide (i < j)) (Aa 1) pa8)) (A3 (Ab Ay (Aa 0) (Aa 1))) A5)
 (A3 (bC (.int 0))))
def b_cell_at:Fn:=Au false 2 0 Xb_cell_at
def Xb_stir:Fs:=(Ah (Aj false 2 (Ab CO (Ab BX (Ab Bo (Ab Bo (Ab CO (Aa 0) (bC (.int 2147483629))) (Ab BX (bC (.int 9973)) (Aa 1))) (bC (.int 5))) (bC (.int 48271))) (bC (.int 2147483647))) [0,1])
 (Ah (Aj false 2 (Ab CO (Ab BX (Aa 2) (Aa 2)) (bC (.int 2147483587))) [2,2])
 (A3 (Ab GW (Ab CO (Ab BX (Ab Bo (Aa 2) (Ab BX (bC (.int 7919)) (Aa 1))) (bC (.int 16807))) (bC (.int 2147483563))) (bC (.int 8))))))
def b_stir:Fn:=Au false 2 1 Xb_stir
abbrev _root_.pc3:=Ab (Dg λ i j=>decide (j<=i)) (Aa 0) (Ab Xe (bC (.int 10)) (bC (.int 18)))
abbrev _root_.pf3:=A9 b_stir (Af (Aa 0) (Af (Aa 4) (Ac)))
abbrev _root_.pf0:=Aj false 5 (Ab CO (Aa 3) (bC (.int 720720))) [3]
abbrev _root_.pa6:=Ah (Aj false 5 pf3 [0,4]) (Ah (Bw (bT pc3) pf0 A5) (Ah (Aj false 3 (Ab GW (Aa 3) (bC (.int 720720))) [3]) (BZ 2 (Aa 5) [5])))
abbrev _root_.pe4:=Aj false 2 (An Bm (Ac)) []
def Xb_numbers:Fs:=(Ah pe4
 (Ah (Aj false 3 (Aa 0) [0])
 (Ah (Dq Bn (Af (Aa 1) (Ac)) (asgN 4) pa6)
 (D8 2))))
def b_numbers:Fn:=Au false 2 4 Xb_numbers
abbrev _root_.pa4:=Ab Ay (Aa 0) (bC (.int 1))
abbrev _root_.pb8:=Af (bC (.int 0)) (Af (bC (.int 0)) (Af (An Hc (Af (bC (.int 1)) (Af (Aa 10) (Ac)))) (Af (Ab CO (Ab GW (Aa 9) (bC (.int 4))) (Ab Bo (Aa 10) (bC (.int 1)))) (Ac))))
abbrev _root_.pb4:=Ab Ay (Aa 5) (AN Il (bC (.int 1)))
abbrev _root_.pa9:=Ab Ay (Aa 0) (bC (.int 2))
abbrev _root_.pc6:=some (AN Il (bC (.int 1)))
abbrev _root_.pa0:=Ah (Aj false 9 (Ab Ay (Aa 4) (Ab Bo (Ab BX (Aa 6) pa4) (Aa 8))) [4,6,0,8]) (Ah (Bw (bT (Ab (Dg λ i j=>decide (i < j)) (Ab Bo (Ab Bo (Aa 2) (Ab BX (Aa 6) pa4)) (Aa 8)) pb3)) (Aj false 9 (Ab Ay (Aa 1) (Ab Bo (Ab Bo (Aa 2) (Ab BX (Aa 6) pa4)) (Aa 8))) [1,2,6,0,8]) A5) (Ah (Aj false 10 (Ab Ay (Ab Bo (An Bm (Af pa9 (Ac))) (Cu (Dc (Aa 5) pc6 none) 1 (asgN 11) Be (Ab Ay pb4 (Aa 8)))) (AN Il (bC (.int 1)))) [0,5,5,8]) (Ah (Aj false 10 (An Hc (Af (Ab Bo (An Bm (Af (Aa 10) (Ac))) (Dc (Aa 7) pc6 none)) (Ac))) [10,7]) (BZ 7 (Ab Df (Aa 10) (Ab Ay (An Bm pb8) (Ab CO (Aa 9) (bC (.int 4))))) [10,10,9,10,9]))))
abbrev _root_.pc1:=Ab Ay (Aa 0) (bC (.int 0))
def Xb_pile:Fs:=(Ah (Aj false 4 (A9 b_numbers (Af (Aa 3) (Af (Ab BX pc1 pa4) (Ac)))) [3,0,0])
 (Ah (Aj false 5 (An Bm (Ac)) [])
 (Ah (Dq Bn (Af pc1 (Ac)) (asgN 6) (Ah (Aj false 7 (An Bm (Ac)) [])
 (Ah (Dq Bn (Af pa4 (Ac)) (asgN 8) pa0)
 (BZ 5 (Aa 7) [7]))))
 (D8 5))))
def b_pile:Fn:=Au false 4 7 Xb_pile
abbrev _root_.pa7:=A9 f_must_be_pile pd6
def Xf_must_be_two_piles:Fs:=(Ah (D7 pa7)
 (D7 (A9 f_must_be_pile (Af (Aa 0) (Af (Aa 2) (Ac))))))
def f_must_be_two_piles:Fn:=Au false 3 0 Xf_must_be_two_piles
abbrev _root_.pb5:=Af (Aa 2) (Af (Aa 3) (Ac))
def Xf_places_of:Fs:=(Ah (Aj false 1 (An Bm (Ac)) [])
 (Ah (Dq Bn (Af pc1 (Ac)) (asgN 2) (Dz 1 (CL Bn (Af pa4 (Ac)) 1 (asgN 3) Be (An BK pb5)) [2]))
 (D8 1)))
def f_places_of:Fn:=Au false 1 2 Xf_places_of
abbrev _root_.pb2:=Af (Aa 1) (Af (Aa 2) (Ac))
abbrev _root_.pf5:=Ab Ay (Ab Ay (Aa 2) (Aa 3)) (Aa 4)
abbrev _root_.pf4:=Ab Ay (Ab Ay (Aa 1) (Aa 3)) (Aa 4)
def Xf_lies_below:Fs:=(Ah (D7 (A9 f_must_be_two_piles (Af (Aa 0) pb2)))
 (A3 (An EH (Af (Cu (A9 f_places_of (Af (Aa 0) (Ac))) 2 (asgT [3,4]) Be (Ab (Dg λ i j=>decide (i<=j)) pf4 pf5)) (Ac)))))
def f_lies_below:Fn:=Au false 3 0 Xf_lies_below
def Xf_mirrored_pile:Fs:=(Ah (D7 pa7)
 (A3 (CL Bn (Af pa4 (Ac)) 1 (asgN 2) Be (A9 f_column_of pb2))))
def f_mirrored_pile:Fn:=Au false 2 0 Xf_mirrored_pile
abbrev _root_.pb6:=Af (Aa 4) (Af (Aa 5) (Ac))
abbrev _root_.pd4:=A9 f_column_of (Af (Aa 1) (Af (Aa 3) (Ac)))
def Xf_rolled_pile:Fs:=(Ah (D7 pa7)
 (Ah pe4
 (Ah (Dq Bn (Af pa4 (Ac)) (asgN 3) (Ah (Aj false 4 pd4 [1,3])
 (BZ 2 (CL Bn (Af pa9 (Ac)) 1 (asgN 5) Be (A9 f_how_many_above pb6)) [4])))
 (D8 2))))
def f_rolled_pile:Fn:=Au false 2 3 Xf_rolled_pile
def Xf_rest_of:Fs:=(Ah (D7 pa7)
 (Ah pe4
 (Ah (GI .rev (Af (Aa 1) (Ac)) [1] (asgN 3) (BZ 2 (Dm .rev (Af (Aa 3) (Ac)) 1 (asgN 4) Be (Ab Df pa9 (Aa 4))) [3,0,3]))
 (D8 2))))
def f_rest_of:Fn:=Au false 2 2 Xf_rest_of
def sz:(1000000:Nat)<=Aw:=by decide
def Yd (i:Int):f_is_whole_number [.int i]=.ok (.bl true,om,.non):=by kernel_rfl
def HU (a b c:Int):Bool:=decide (1<=a) && (decide (1<=b) && decide (1<=c))
def wR (a b c:Int):f_is_box [bx a b c]=.ok (.bl (HU a b c),om,.non):=by
 have e0:∀ x∈[a,b,c],pd2 ([some (bx a b c,0)]++[some (.int x,om)])=.ok (.bl (decide (1<=x)),om,[some (bx a b c,0)]++[some (.int x,om)]):=λ x _=>by kernel_rfl
 have e1:=kU (n:=1) (f:=Aa 0) (ρ:=[some (bx a b c,0)]) (enc:=PV.int) (q:=λ x=>.bl (decide (1<=x))) (d:=0) [a,b,c] rfl rfl e0 (by have:=sz;show 3<=Aw;omega);refine Ct rfl (ρ':=[some (bx a b c,0)]) ?_;show Xf_is_box [some (bx a b c,0)]=_;refine (FI (ρ1:=[some (bx a b c,0)]) (by kernel_rfl)).trans (Dn ?_);rw [all_ok e1];show Rz.ok (PV.bl (decide (1<=a) && (decide (1<=b) && (decide (1<=c) && true))),om,_)=_;rw [J9];rfl
def yS {a b c:Int} (h:HU a b c=true):f_must_be_box [bx a b c]=.ok (.non,om,.non):=by
 refine O6 rfl (ρ':=[some (bx a b c,0)]) ?_;have hb:=wR a b c;rw [h] at hb;exact CY (f:=GN) (g:=A5) (AX (Gw (AS (F:=f_is_box) (fa:=Af (Aa 0) Ac) (ρ:=[some (bx a b c,0)]) (xs:=[(bx a b c,0)]) rfl hb)))
def DH (xs:List Int) (c h:Int):Bool:=decide ((xs.length:Int)=c) && xs.all λ x=>decide (0<=x) && decide (x<=h)
def xM (xs:List Int) (c h:Int) (hl:xs.length<=1000):f_is_row_of_heights [il xs,.int c,.int h]=.ok (.bl (DH xs c h),om,.non):=by
 have e0:∀ x∈xs,pc5 ([some (il xs,0),some (.int c,om),some (.int h,om)]++[some (.int x,om)])=.ok (.bl (decide (0<=x) && decide (x<=h)),om,[some (il xs,0),some (.int c,om),some (.int h,om)]++[some (.int x,om)]):=λ x _=>
  OB (a:=true) (AS (xs:=[(.int x,om)]) rfl (Yd x)) (λ _=>Qn (i:=0) (j:=x) (k:=h) rfl rfl rfl) rfl
 have e1:=Ji (n:=3) (f:=Aa 0) (ρ:=[some (il xs,0),some (.int c,om),some (.int h,om)]) (enc:=PV.int) (q:=λ x=>.bl (decide (0<=x) && decide (x<=h))) (d:=0) xs rfl rfl e0 (by have:=sz;omega);have t:bT (Cc (AN C2 (AN (CN "list") (Aa 0))) (Ab (Br true) pa8 (Aa 1))) [some (il xs,0),some (.int c,om),some (.int h,om)]=.ok (!decide ((xs.length:Int)=c),[some (il xs,0),some (.int c,om),some (.int h,om)]):=by
  refine AX (d:=om) ((Vu (a:=false) rfl (λ _=>K3 (Lq (xs:=xs) (d:=0) rfl) (j:=c) rfl) rfl).trans ?_);rw [YI,Bool.true_xor]
 refine Ct rfl (ρ':=[some (il xs,0),some (.int c,om),some (.int h,om)]) ?_;show Xf_is_row_of_heights [some (il xs,0),some (.int c,om),some (.int h,om)]=_;unfold DH;by_cases hc:(xs.length:Int)=c
 ·rw [decide_eq_true hc] at t ⊢;refine (FI t).trans (Dn ?_);rw [all_ok e1];rfl
 ·rw [decide_eq_false hc] at t ⊢;exact Lv ((CW t).trans rfl)
def Fq (xs:List Int):Bool:=(A6 ((xs.length:Int) - 1).toNat).all λ k=>decide (xs.getD (k + 1) 0<=xs.getD k 0)
def XE (xs:List Int) (hl:xs.length<=1000):f_never_rises [il xs]=.ok (.bl (Fq xs),om,.non):=by
 have e0:∀ k,k < ((xs.length:Int) - 1).toNat->pd0 ([some (il xs,0)]++[some (.int (1 + (k:Int)),om)])=.ok (.bl (decide (xs.getD (k + 1) 0<=xs.getD k 0)),om,[some (il xs,0)]++[some (.int (1 + (k:Int)),om)]):=λ k hk=>by
  refine Iv (i:=xs.getD (k + 1) 0) (j:=xs.getD k 0) (FJ (xs:=xs) (k:=1 + (k:Int)) rfl rfl (Dj (by omega) ?_)) (FJ (xs:=xs) (k:=1 + (k:Int) - 1) rfl rfl (Dj (by omega) ?_))
  ·rw [show (1 + (k:Int)).toNat=k + 1 by omega,BW (show k + 1 < xs.length by omega),AM,BW (show k + 1 < xs.length by omega)];rfl
  ·rw [show (1 + (k:Int) - 1).toNat=k by omega,BW (show k < xs.length by omega),AM,BW (show k < xs.length by omega)];rfl
 have e1:=JR (n:=1) (en:=FG) (ρ:=[some (il xs,0)]) (q:=λ k=>.bl (decide (xs.getD (k + 1) 0<=xs.getD k 0))) (A7 (f:=bC (.int 1)) (d:=om) (x:=.int 1) rfl (AJ (Lq (fa:=Af (Aa 0) Ac) (xs:=xs) (d:=0) rfl))) (vL (by decide) (by decide) (by omega) (by omega)) rfl e0 (by have:=sz;omega);exact Ct rfl (ρ':=[some (il xs,0)]) (Dn (all_ok e1))
def Ci (t:List (List Int)) (j:Nat):List Int:=t.map λ r=>r.getD j 0
def DD {xs:List Int}{j:Nat} (h:j < xs.length):xs[j]?=some (xs.getD j 0):=by
 rw [AM,BW h];rfl
def IW {xs:List (List Int)}{j:Nat} (h:j < xs.length):xs[j]?=some (xs.getD j []):=by
 rw [AM,BW h];rfl
def PU (t:List (List Int)) (j:Nat) (hl:t.length<=1000) (hr:∀ r∈t,j < r.length):f_column_of [tb t,.int (j:Int)]=.ok (il (Ci t j),om,.non):=by
 have e0:∀ r∈t,(Ab Ay (Aa 2) (Aa 1)) ([some (tb t,0),some (.int (j:Int),om)]++[some (il r,0)])=.ok (.int (r.getD j 0),om,[some (tb t,0),some (.int (j:Int),om)]++[some (il r,0)]):=λ r hm=>
  FJ (xs:=r) (k:=(j:Int)) rfl rfl (Dj (by omega) (DD (hr r hm)))
 have e1:=Ji (n:=2) (f:=Aa 0) (ρ:=[some (tb t,0),some (.int (j:Int),om)]) (enc:=il) (q:=λ r=>.int (r.getD j 0)) (d:=0) t rfl rfl e0 (by have:=sz;omega);refine Ct rfl (ρ':=[some (tb t,0),some (.int (j:Int),om)]) ((Dn e1).trans ?_);unfold Ci il;rw [CB];rfl
def kN (xs:List Int) (k:Int) (hl:xs.length<=1000):f_how_many_above [il xs,.int k]=.ok (.int ((xs.filter λ x=>decide (k < x)).length:Nat),om,.non):=by
 have e1:=Xx (n:=2) (f:=Aa 0) (elt:=Aa 2) (test:=bT pf2) (ρ:=[some (il xs,0),some (.int k,om)]) (enc:=PV.int) (q:=PV.int) (p:=λ x=>decide (k < x)) (d:=0) xs rfl rfl (λ x _=>rfl) (λ x _ _=>rfl) (by have:=sz;omega);exact Ct rfl (ρ':=[some (il xs,0),some (.int k,om)]) (Dn (Lq (xs:=xs.filter λ x=>decide (k < x)) (AJ e1)))
def Tab (a b:Nat) (t:List (List Int)):Prop:=t.length=a/\∀ r∈t,r.length=b
def Mb (a b:Nat) (c:Int) (t:List (List Int)):Bool:=(t.all λ r=>DH r b c) && ((t.all Fq) && ((A6 b).all λ j=>Fq (Ci t j)))
theorem yA {a b:Nat}{c:Int}{t:List (List Int)} (ht:Tab a b t) (ha:1<=a/\a<=100) (hb:1<=b/\b<=100) (hc:1<=c):f_is_pile [bx a b c,tb t]=.ok (.bl (Mb a b c t),om,.non):=by
 let R0:Ae:=[some (bx a b c,0),some (tb t,0),none,none,none]
 let R1:Ae:=[some (bx a b c,0),some (tb t,0),some (.int a,om),some (.int b,om),some (.int c,om)]
 have hbx:HU a b c=true:=by unfold HU;rw [decide_eq_true (by omega),decide_eq_true (by omega),decide_eq_true hc];rfl
 have hs:=sz;have l1:=ht.1;have s1:D7 pf7 R0=.nx R0:=Iq (AS (xs:=[(bx a b c,0)]) rfl (yS hbx));have s2:Cn (asgT [2,3,4]) (Aa 0) [0] R0=.nx R1:=by kernel_rfl
 have t3:bT (Cc (AN C2 (AN (CN "list") (Aa 1))) (Ab (Br true) pb3 (Aa 2))) R1=.ok (false,R1):=by
  refine AX (d:=om) ((Vu (a:=false) rfl (λ _=>K3 (x6 (t:=t) (d:=0) rfl) (j:=(a:Int)) rfl) rfl).trans ?_);rw [l1];simp
 have e4:∀ r∈t,(A9 f_is_row_of_heights (Af (Aa 5) pd5)) (R1++[some (il r,0)])=.ok (.bl (DH r b c),om,R1++[some (il r,0)]):=λ r hr=>
  AS (xs:=[(il r,0),(.int b,om),(.int c,om)]) rfl (xM r b c (by rw [ht.2 r hr];omega))
 have t4:=AX (Gw (all_ok (Ji (n:=5) (f:=Aa 1) (ρ:=R1) (enc:=il) (q:=λ r=>.bl (DH r b c)) (d:=0) t rfl rfl e4 (by omega))));have e5:∀ r∈t,pf8 (R1++[some (il r,0)])=.ok (.bl (Fq r),om,R1++[some (il r,0)]):=λ r hr=>
  AS (xs:=[(il r,0)]) rfl (XE r (by rw [ht.2 r hr];omega))
 have t5:=AX (Gw (all_ok (Ji (n:=5) (f:=Aa 1) (ρ:=R1) (enc:=il) (q:=λ r=>.bl (Fq r)) (d:=0) t rfl rfl e5 (by omega))));have e6:∀ k,k < ((b:Int) - 0).toNat->(A9 f_never_rises (Af (A9 f_column_of pc7) (Ac))) (R1++[some (.int (0 + (k:Int)),om)])=.ok (.bl (Fq (Ci t k)),om,R1++[some (.int (0 + (k:Int)),om)]):=λ k hk=>by
  have e:=PU t k (by omega) λ r hr=>by rw [ht.2 r hr];omega
  rw [ET];exact AS (xs:=[(il (Ci t k),om)]) (AJ (AS (xs:=[(tb t,0),(.int (k:Int),om)]) rfl e)) (XE _ (by unfold Ci;rw [A8];omega))
 have e7:=JR (n:=5) (en:=Bn) (fa:=Af (Aa 3) Ac) (ρ:=R1) (q:=λ k=>.bl (Fq (Ci t k))) (as:=[(.int (b:Int),om)]) rfl (Ez (by omega) (by omega)) rfl e6 (by omega);rw [show ((b:Int) - 0).toNat=b by omega] at e7;refine Ct rfl (ρ':=R1) ?_;show Xf_is_pile R0=_;unfold Mb;refine (AR s1).trans ((AR s2).trans ((FI t3).trans ?_));cases h1:t.all λ r=>DH r b c with
 | false=>
  rw [h1] at t4;exact Lv ((CW t4).trans rfl)
 | true=>
  rw [h1] at t4;refine (FI t4).trans ?_;cases h2:t.all Fq with
  | false=>
   have h2':t.all (λ r=>Fq r)=false:=h2;rw [h2'] at t5;exact Lv ((CW t5).trans rfl)
  | true=>
   have h2':t.all (λ r=>Fq r)=true:=h2;rw [h2'] at t5;exact (FI t5).trans (Dn (all_ok e7))
def KY {a b:Nat}{c:Int}{t:List (List Int)} (ht:Tab a b t) (ha:1<=a/\a<=100) (hb:1<=b/\b<=100) (hc:1<=c) (h:Mb a b c t=true):f_must_be_pile [bx a b c,tb t]=.ok (.non,om,.non):=by
 refine O6 rfl (ρ':=[some (bx a b c,0),some (tb t,0)]) ?_;have hp:=yA ht ha hb hc;rw [h] at hp;exact CY (f:=GN) (g:=A5) (AX (Gw (AS (F:=f_is_pile) (fa:=Af (Aa 0) (Af (Aa 1) Ac)) (ρ:=[some (bx a b c,0),some (tb t,0)]) (xs:=[(bx a b c,0),(tb t,0)]) rfl hp)))
def CH (xs:List Int) (k:Int):Int:=((xs.filter λ x=>decide (k < x)).length:Nat)
def Sl (t:List (List Int)) (k:Int):List Int:=t.map λ r=>CH r k
def Dk (t:List (List Int)) (c:Nat):List (List Int):=(A6 c).map λ (k:Nat)=>Sl t (k:Int)
def SV (t:List (List Int)) (r:List Int):PV.lst ((t.map il)++[il r])=tb (t++[r]):=by
 unfold tb;rw [DL];rfl
def g (t:List (List Int)) (i j:Nat):Int:=(t.getD i []).getD j 0
structure Pile (a b:Nat) (c:Int) (t:List (List Int)):Prop where
 tab:Tab a b t
 lo:∀ i j,i < a->j < b->0<=g t i j
 hi:∀ i j,i < a->j < b->g t i j<=c
 dn:∀ i j,i + 1 < a->j < b->g t (i + 1) j<=g t i j
 rt:∀ i j,i < a->j + 1 < b->g t i (j + 1)<=g t i j
def SG {t:List (List Int)}{i:Nat} (h:i < t.length):t.getD i []∈t:=by
 rw [AM,BW h];exact IK h
def Tab.row {a b:Nat}{t:List (List Int)} (h:Tab a b t) {i:Nat} (hi:i < a):(t.getD i []).length=b:=h.2 _ (SG (by rw [h.1];exact hi))
def X3 {xs:List Int}{i:Nat} (h:i < xs.length):xs.getD i 0∈xs:=by
 rw [AM,BW h];exact IK h
def Ym {xs:List Int}{x:Int} (h:x∈xs):∃ i,i < xs.length/\xs.getD i 0=x:=by
 obtain ⟨i,hi,e⟩:=JD h;exact ⟨i,hi,by rw [AM,BW hi];exact e⟩
def U3 {t:List (List Int)}{r:List Int} (h:r∈t):∃ i,i < t.length/\t.getD i []=r:=by
 obtain ⟨i,hi,e⟩:=JD h;exact ⟨i,hi,by rw [AM,BW hi];exact e⟩
def Ye {xs ys:List Int} (hl:xs.length=ys.length) (h:∀ i,i < xs.length->xs.getD i 0=ys.getD i 0):xs=ys:=by
 refine Tq hl λ i h1 h2=>?_
 have:=h i h1
 rw [AM,BW h1,AM,BW h2] at this;exact this
def IZ {a b:Nat}{t u:List (List Int)} (ht:Tab a b t) (hu:Tab a b u) (h:∀ i j,i < a->j < b->g t i j=g u i j):t=u:=by
 refine Tq (by rw [ht.1,hu.1]) λ i h1 h2=>?_;have hi:i < a:=by rw [<- ht.1];exact h1
 have e1:t.getD i []=t[i]:=by rw [AM,BW h1];rfl
 have e2:u.getD i []=u[i]:=by rw [AM,BW h2];rfl
 rw [<- e1,<- e2];refine Ye (by rw [ht.row hi,hu.row hi]) λ j hj=>h i j hi (by rw [<- ht.row hi];exact hj)
def qcm {xs:List Int}{c h:Int}:DH xs c h=true↔(xs.length:Int)=c/\∀ x∈xs,0<=x/\x<=h:=by
 unfold DH;rw [Ba,decide_eq_true_iff,jb8];constructor
 ·rintro ⟨h1,h2⟩;refine ⟨h1,λ x hx=>?_⟩
  have:=h2 x hx
  rw [Ba,decide_eq_true_iff,decide_eq_true_iff] at this;exact this
 ·rintro ⟨h1,h2⟩;refine ⟨h1,λ x hx=>?_⟩;rw [Ba,decide_eq_true_iff,decide_eq_true_iff];exact h2 x hx
def zft {xs:List Int}:Fq xs=true↔∀ k,k + 1 < xs.length->xs.getD (k + 1) 0<=xs.getD k 0:=by
 unfold Fq;rw [jb8];constructor
 ·intro h k hk;exact of_decide_eq_true (h k (jc5.mpr (by omega)))
 ·intro h k hk
  have:=jc5.mp hk
  exact decide_eq_true (h k (by omega))
def GB {t:List (List Int)}{i j:Nat} (h:i < t.length):(Ci t j).getD i 0=g t i j:=by
 unfold Ci g;rw [AM,C5,BW h,AM (l:=t),BW h];rfl
def GC {t:List (List Int)}{j:Nat}:(Ci t j).length=t.length:=by unfold Ci;rw [A8]
def Lk {a b:Nat}{c:Int}{t:List (List Int)} (ht:Tab a b t):Mb a b c t=true↔Pile a b c t:=by
 unfold Mb;rw [Ba,Ba,jb8,jb8,jb8];constructor
 ·rintro ⟨h1,h2,h3⟩;have q:∀ i j,i < a->j < b->0<=g t i j/\g t i j<=c:=λ i j hi hj=>(qcm.mp (h1 _ (SG (by rw [ht.1];exact hi)))).2 _ (X3 (by rw [ht.row hi];exact hj));refine ⟨ht,λ i j hi hj=>(q i j hi hj).1,λ i j hi hj=>(q i j hi hj).2,λ i j hi hj=>?_,λ i j hi hj=>?_⟩
  ·have:=zft.mp (h3 j (jc5.mpr hj)) i (by rw [GC,ht.1];exact hi)
   rw [GB (by rw [ht.1];exact hi),GB (by rw [ht.1];omega)] at this;exact this
  ·exact zft.mp (h2 _ (SG (by rw [ht.1];exact hi))) j (by rw [ht.row hi];exact hj)
 ·intro p;refine ⟨λ r hr=>qcm.mpr ⟨by rw [ht.2 r hr],λ x hx=>?_⟩,λ r hr=>zft.mpr λ k hk=>?_,λ j hj=>zft.mpr λ k hk=>?_⟩
  ·obtain ⟨i,hi,rfl⟩:=U3 hr;obtain ⟨j,hj,rfl⟩:=Ym hx;have hi':i < a:=by rw [<- ht.1];exact hi
   rw [ht.row hi'] at hj;exact ⟨p.lo i j hi' hj,p.hi i j hi' hj⟩
  ·obtain ⟨i,hi,rfl⟩:=U3 hr;have hi':i < a:=by rw [<- ht.1];exact hi
   rw [ht.row hi'] at hk;exact p.rt i k hi' hk
  ·rw [GC,ht.1] at hk;rw [GB (by rw [ht.1];exact hk),GB (by rw [ht.1];omega)];exact p.dn k j hk (jc5.mp hj)
def EO (a b:Nat) (f:Nat->Nat->Int):List (List Int):=(A6 a).map λ i=>(A6 b).map λ j=>f i j
def Le {a b:Nat}{f:Nat->Nat->Int}:Tab a b (EO a b f):=by
 refine ⟨by unfold EO;rw [A8,Ek],λ r hr=>?_⟩;obtain ⟨i,_,rfl⟩:=jd1.mp hr;rw [A8,Ek]
def SA {b j:Nat}{f:Nat->Int} (hj:j < b):((A6 b).map f).getD j 0=f j:=by
 rw [AM,C5,Mx hj];rfl
def Nb {a i:Nat}{f:Nat->List Int} (hi:i < a):((A6 a).map f).getD i []=f i:=by
 rw [AM,C5,Mx hi];rfl
def Ew {a b i j:Nat}{f:Nat->Nat->Int} (hi:i < a) (hj:j < b):g (EO a b f) i j=f i j:=by
 unfold g EO;rw [Nb hi,SA hj]
def KW {a b c:Nat}{t:List (List Int)} (ht:Tab a b t):Tab c a (Dk t c):=by
 refine ⟨by unfold Dk;rw [A8,Ek],λ r hr=>?_⟩;obtain ⟨i,_,rfl⟩:=jd1.mp hr;unfold Sl;rw [A8,ht.1]
def Gy {a b c k i:Nat}{t:List (List Int)} (ht:Tab a b t) (hk:k < c) (hi:i < a):g (Dk t c) k i=CH (t.getD i []) k:=by
 unfold g Dk;rw [Nb hk];unfold Sl;rw [AM,C5,BW (by rw [ht.1];exact hi),AM,BW (by rw [ht.1];exact hi)];rfl
def Jh {x k:Int}{r:List Int}:CH (x::r) k=CH r k + if k < x then 1 else 0:=by
 unfold CH;by_cases h:k < x
 ·rw [T6 (p:=λ x=>decide (k < x)) (decide_eq_true h),Bh,if_pos h];omega
 ·rw [T7 (p:=λ x=>decide (k < x)) (by rw [decide_eq_true_iff];exact h),if_neg h];omega
def OG (r:List Int) (k:Int):0<=CH r k:=by unfold CH;omega
def RV (r:List Int) (k:Int):CH r k<=r.length:=by
 unfold CH
 have:=T3 (λ x=>decide (k < x)) r
 omega
def Nr (r:List Int):Prop:=∀ k,k + 1 < r.length->r.getD (k + 1) 0<=r.getD k 0
def Nr.tail {x:Int}{r:List Int} (h:Nr (x::r)):Nr r:=λ k hk=>h (k + 1) (by rw [Bh];omega)
theorem Nr.le {r:List Int} (h:Nr r):∀ {i j:Nat},i<=j->j < r.length->r.getD j 0<=r.getD i 0:=by
 intro i j hij hj;induction j with
 | zero=>
  have:i=0:=by omega
  rw [this];exact D1 _
 | succ j ih=>
  by_cases e:i=j + 1
  ·rw [e];exact D1 _
  ·exact HM (h j hj) (ih (by omega) (by omega))
theorem Xw {k:Int}:∀ {r:List Int},(∀ x∈r,x<=k)->CH r k=0
 | [],_=>rfl
 | x::r,h=>by
  rw [Jh,if_neg (by have:=h x AH;omega),Xw λ y hy=>h y (AI _ hy)];rfl
theorem OF {k:Int}:∀ {r:List Int},Nr r->∀ {j:Nat},j < r.length->((j:Int) < CH r k↔k < r.getD j 0)
 | [],_,j,h=>absurd h (by simp)
 | x::r,hn,j,hj=>by
  rw [Jh];by_cases hx:k < x
  ·rw [if_pos hx];cases j with
   | zero=>
    have:=OG r k
    constructor
    ·intro _;exact hx
    ·intro _;omega
   | succ j=>
    have:=OF (k:=k) hn.tail (j:=j) (by rw [Bh] at hj;omega)
    show ((j + 1:Nat):Int) < _↔k < r.getD j 0;rw [<- this];omega
  ·rw [if_neg hx,Xw]
   ·have:=hn.le (i:=0) (j:=j) (by omega) hj
    have e:(x::r).getD 0 0=x:=rfl;rw [e] at this;constructor <;> intro h <;> omega
   ·intro y hy;obtain ⟨i,hi,rfl⟩:=Ym hy
    have:=hn.le (i:=0) (j:=i + 1) (by omega) (by rw [Bh];omega)
    have e:(x::r).getD 0 0=x:=rfl;have e':(x::r).getD (i + 1) 0=r.getD i 0:=rfl;rw [e,e'] at this;omega
theorem Xv {x k:Int}:∀ {r:List Int},CH (r++[x]) k=CH r k + if k < x then 1 else 0
 | []=>by rw [EU,Jh]
 | y::r=>by rw [Fw,Jh,Jh,Xv];omega
theorem Yu {f:Nat->Int}{j H:Int}:∀ {c:Nat},(∀ k,k < c->(j < f k↔(k:Int) < H))->0<=H->CH ((A6 c).map f) j=min (c:Int) H
 | 0,_,h0=>by show (0:Int)=_;omega
 | c + 1,h,h0=>by
  rw [Fv,DL,List.map_singleton,Xv,Yu (λ k hk=>h k (by omega)) h0]
  have:=h c (by omega)
  by_cases e:(c:Int) < H
  ·rw [if_pos (this.mpr e)];omega
  ·rw [if_neg (λ z=>e (this.mp z))];omega
def Pile.nr {a b:Nat}{c:Int}{t:List (List Int)} (p:Pile a b c t) {i:Nat} (hi:i < a):Nr (t.getD i []):=λ k hk=>p.rt i k hi (by rw [p.tab.row hi] at hk;exact hk)
def Nt {a b c:Nat}{t:List (List Int)} (p:Pile a b c t) {i j k:Nat} (hi:i < a) (hj:j < b) (hk:k < c):(j:Int) < g (Dk t c) k i↔(k:Int) < g t i j:=by
 rw [Gy p.tab hk hi];exact OF (p.nr hi) (by rw [p.tab.row hi];exact hj)
def ua {a b c:Nat}{t:List (List Int)} (ht:Tab a b t) {i:Nat} (hi:i < a):Ci (Dk t c) i=(A6 c).map λ (k:Nat)=>CH (t.getD i []) (k:Int):=by
 refine Ye (by rw [GC,(KW (c:=c) ht).1,A8,Ek]) λ k hk=>?_;rw [GC,(KW (c:=c) ht).1] at hk;rw [GB (by rw [(KW (c:=c) ht).1];exact hk),Gy ht hk hi,SA hk]
def ZI {a b c:Nat}{t:List (List Int)} (p:Pile a b c t) {i j:Nat} (hi:i < a) (hj:j < b):CH (Ci (Dk t c) i) j=g t i j:=by
 rw [ua p.tab hi,Yu (H:=g t i j) (λ k hk=>OF (p.nr hi) (by rw [p.tab.row hi];exact hj)) (p.lo i j hi hj)]
 have:=p.hi i j hi hj
 omega
def yX {a b c:Nat}{t:List (List Int)} (p:Pile a b c t):Pile c a b (Dk t c):=by
 refine ⟨KW p.tab,λ k i hk hi=>?_,λ k i hk hi=>?_,λ k i hk hi=>?_,λ k i hk hi=>?_⟩
 ·rw [Gy p.tab hk hi];exact OG _ _
 ·rw [Gy p.tab hk hi]
  have:=RV (t.getD i []) k
  rw [p.tab.row hi] at this;exact this
 ·refine ju7.mp λ z=>?_;have h0:0<=g (Dk t c) k i:=by rw [Gy p.tab (by (clear z hi;omega)) hi];exact OG _ _
  have hb:g (Dk t c) (k + 1) i<=b:=by
   rw [Gy p.tab hk hi]
   have:=RV (t.getD i []) ((k + 1:Nat):Int)
   rw [p.tab.row hi] at this;exact this
  have h1:=(Nt p (j:=(g (Dk t c) k i).toNat) hi (by (clear hi hk;omega)) hk).mp (by (clear hb hi hk;omega));have h2:=(Nt p (j:=(g (Dk t c) k i).toNat) (k:=k) hi (by (clear h1 hi hk;omega)) (by (clear h1 hb h0 z hi;omega))).mpr (by (clear hb h0 z hi hk;omega))
  (clear h1 hb h0 z hi hk;omega)
 ·refine ju7.mp λ z=>?_;have h0:0<=g (Dk t c) k i:=by rw [Gy p.tab (by (clear z hi;omega)) (by (clear z hk;omega))];exact OG _ _
  have hb:g (Dk t c) k (i + 1)<=b:=by
   rw [Gy p.tab hk hi]
   have:=RV (t.getD (i + 1) []) k
   rw [p.tab.row hi] at this;exact this
  have h1:=(Nt p (j:=(g (Dk t c) k i).toNat) (k:=k) hi (by (clear hi hk;omega)) hk).mp (by (clear hb hi hk;omega));have h2:=(Nt p (j:=(g (Dk t c) k i).toNat) (k:=k) (i:=i) (by (clear h1 hb h0 z hk;omega)) (by (clear h1 hi hk;omega)) (by (clear h1 hb h0 z hi;omega))).mpr (by have:=p.dn i (g (Dk t c) k i).toNat hi (by (clear h1 hi hk;omega));(clear hb h0 z hi hk;omega))
  (clear h1 hb h0 z hi hk;omega)
def WO {f h:Fx}{ρ ρ1 ρ2:Ae}{xs:List Int}{k x:Int}{d e:Nat} (h1:f ρ=.ok (.scr xs,d,ρ1)) (h2:h ρ1=.ok (.int k,e,ρ2)) (hx:BJ xs k=some x):Ab Ay f h ρ=.ok (.int x,om,ρ2):=by
 refine Cs h1 h2 ?_;show (BJ xs k).map _=_;rw [hx];rfl
def SQ (ns:List Int) (k:Nat):b_cell_at [.scr ns,.int (k:Int)]=.ok (.int (ns.getD k 0),om,.non):=by
 let R:Ae:=[some (.scr ns,om),some (.int (k:Int),om)]
 have t1:bT (Ab (Dg λ i j=>decide (i < j)) (Aa 1) pa8) R=.ok (decide ((k:Int) < (ns.length:Int)),R):=rfl;refine Ct rfl (ρ':=R) ?_;by_cases h:(k:Int) < (ns.length:Int)
 ·rw [decide_eq_true h] at t1;exact Lv ((CW t1).trans (Dn (WO (xs:=ns) (k:=(k:Int)) (d:=om) rfl rfl (Dj (by omega) (DD (by omega))))))
 ·rw [decide_eq_false h] at t1;refine (FI t1).trans ((Dn (d:=om) rfl).trans ?_);rw [AM,FA (by omega)];rfl
def SH (c k:Int) (hk:0<=k/\k < 10000):∃ r,b_stir [.int c,.int k]=.ok (.int r,om,.non):=by
 have e1:=Pc (((c % 2147483629 + 9973 * k + 5) * 48271)) (show (2147483647:Int)≠0 by decide);have e2:=Pk (((c % 2147483629 + 9973 * k + 5) * 48271)) (show (0:Int) < 2147483647 by decide);exact ⟨_,Ct rfl ((AR (Bq (DC (Hq (E2 (E2 (DC (i:=c) rfl rfl (by decide)) (Hq (i:=9973) (j:=k) rfl rfl (.inl (by decide)))) (j:=5) rfl) (j:=48271) rfl (.inr (by decide))) (j:=2147483647) rfl (by decide)) (show 2 < 3 by decide) rfl)).trans ((AR (Bq (DC (Hq rfl rfl (.inl (by omega))) (j:=2147483587) rfl (by decide)) (show 2 < 3 by decide) rfl)).trans (Dn (Kc (DC (Hq (E2 rfl (Hq (i:=7919) (j:=k) rfl rfl (.inl (by decide)))) (j:=16807) rfl (.inr (by decide))) (j:=2147483563) rfl (by decide)) (j:=8) rfl (by decide) (by decide)))))⟩
def WQ (xs:List Int) (x:Int):PV.lst (xs.map PV.int++[.int x])=il (xs++[x]):=by unfold il;rw [DL];rfl
def Qd (c:Int) (m:Nat) (hm:m<=1000):∃ ns:List Int,ns.length=m/\b_numbers [.int c,.int (m:Int)]=.ok (il ns,om,.non):=by
 have z:=sz;let R (xs:List Int) (v:Int) (s4 s5:QQ.Slot):Ae:=[some (.int c,om),some (.int (m:Int),om),some (il xs,om),some (.int v,om),s4,s5]
 have s1:Aj false 2 (An Bm (Ac)) [] [some (.int c,om),some (.int (m:Int),om),none,none,none,none]=.nx [some (.int c,om),some (.int (m:Int),om),some (il [],om),none,none,none]:=by kernel_rfl
 have s2:Aj false 3 (Aa 0) [0] [some (.int c,om),some (.int (m:Int),om),some (il [],om),none,none,none]=.nx (R [] c none none):=by kernel_rfl
 obtain ⟨ρ',e6,xs,v,s4,s5,rfl,hl⟩:=Ja (i:=4) (body:=pa6) (en:=Bn) (fa:=Af (Aa 1) (Ac)) (ρ:=R [] c none none) (ρ1:=R [] c none none) (as:=[(.int (m:Int),om)]) (lo:=0) (hi:=(m:Int))
  (λ k ρ=>∃ xs v s4 s5,ρ=R xs v s4 s5/\xs.length=k) rfl (Ez (by omega) (by omega)) ⟨[],c,none,none,rfl,rfl⟩ (by
   rintro j ρ hj ⟨xs,v,s4,s5,rfl,hl⟩;obtain ⟨r,er⟩:=SH c (0 + (j:Int)) (by omega);have u1:Aj false 5 pf3 [0,4] (R xs v (some (.int (0 + (j:Int)),om)) s5)=.nx (R xs v (some (.int (0 + (j:Int)),om)) (some (.int r,om))):=Bq (AS (xs:=[(.int c,om),(.int (0 + (j:Int)),om)]) rfl er) (show 5 < 6 by decide) rfl;have u2:∃ r',Bw (bT pc3) pf0 A5 (R xs v (some (.int (0 + (j:Int)),om)) (some (.int r,om)))=.nx (R xs v (some (.int (0 + (j:Int)),om)) (some (.int r',om))):=by
    have tt:bT pc3 (R xs v (some (.int (0 + (j:Int)),om)) (some (.int r,om)))=.ok (decide ((10:Int) ^ 18<=c),R xs v (some (.int (0 + (j:Int)),om)) (some (.int r,om))):=by kernel_rfl
    cases hd:decide ((10:Int) ^ 18<=c) with
    | true=>rw [hd] at tt;exact ⟨v % 720720,(CW tt).trans (Bq (DC rfl rfl (by decide)) (show 5 < 6 by decide) rfl)⟩
    | false=>rw [hd] at tt;exact ⟨r,(CY tt).trans rfl⟩
   obtain ⟨r',u2⟩:=u2;have u3:Aj false 3 (Ab GW (Aa 3) (bC (.int 720720))) [3] (R xs v (some (.int (0 + (j:Int)),om)) (some (.int r',om)))=.nx (R xs (v / 720720) (some (.int (0 + (j:Int)),om)) (some (.int r',om))):=Bq (Kc (i:=v) rfl rfl (by decide) (by decide)) (show 3 < 6 by decide) rfl;refine ⟨show 4 < 6 by decide,_,(AR u1).trans ((AR u2).trans ((AR u3).trans (Kk (i:=2) (d0:=999) (d:=om) (y:=.int r') (e:=om) (xs:=xs.map PV.int) (xs0:=xs.map PV.int) rfl rfl rfl (by decide) (by rw [A8];omega) rfl))),xs++[r'],v / 720720,some (.int (0 + (j:Int)),om),some (.int r',om),?_,by rw [BI,hl];rfl⟩;rw [WQ]
   rfl)
 rw [show ((m:Int) - 0).toNat=m by omega] at hl;exact ⟨xs,hl,Ct rfl ((AR s1).trans ((AR s2).trans ((AR e6).trans rfl)))⟩
def wB (xs:List PV):Cb xs (some (-1)) none=xs.drop (xs.length - 1):=by
 unfold Cb;have e:HT.sIx xs.length 0 (some (-1))=xs.length - 1:=by
  show (if (-1:Int) < 0 then (-1 + (xs.length:Int)).toNat else min (-1:Int).toNat xs.length)=_;rw [if_pos (by decide)];omega
 rw [e,HT.sIx_none];exact KN (by rw [Fy];exact AB _)
def Xs {α:Type}{xs:List α}{x:α} (h:xs[xs.length - 1]?=some x):BJ xs (-1)=some x:=by
 have hl:=(jb0.mp h).1;unfold BJ DM;rw [if_neg (by decide),if_pos (by omega),show (-1 + (xs.length:Int)).toNat=xs.length - 1 by omega];exact h
def Xb {f:Fx}{ρ ρ1:Ae}{xs:List PV}{d:Nat} (h:f ρ=.ok (.lst xs,d,ρ1)):Dc f pc6 none ρ=.ok (.lst (xs.drop (xs.length - 1)),d1 (xs.drop (xs.length - 1)),ρ1):=by
 unfold Dc;rw [h];show Rz.ok (PV.lst (Cb xs (some (-1)) none),d1 (Cb xs (some (-1)) none),ρ1)=_;rw [wB]
def SK {f h:Fx}{ρ ρ1 ρ2:Ae}{xs ys:List PV}{d e:Nat} (h1:f ρ=.ok (.lst xs,d,ρ1)) (h2:h ρ1=.ok (.lst ys,e,ρ2)) (hl:xs.length + ys.length<=Aw):Ab Bo f h ρ=.ok (.lst (xs++ys),d1 (xs++ys),ρ2):=by
 refine Cs h1 h2 ?_;show (if _ then _ else _)=_;rw [if_pos hl]
theorem MF:∀ xs:List Int,Fi (xs.map PV.int)=some xs
 | []=>rfl
 | x::xs=>by rw [BF,Fi,MF xs];rfl
def qU {fa:Fa}{ρ ρ1:Ae}{x:Int}{xs:List Int}{d:Nat} (h:fa ρ=.ok ([(il (x::xs),d)],ρ1)):An Hc fa ρ=.ok (.int (CU x xs),om,ρ1):=by
 refine Ck h ?_;show (match Fi ((x::xs).map PV.int) with | some (n::r)=>some (PV.int (CU n r),om) | _=>none)=_;rw [MF]
def CS (c:Int) (t:List (List Int)) (j:Nat):Int:=if t.length=0 then c else g t (t.length - 1) j
def Bk (c:Int) (t:List (List Int)) (r:List Int) (j:Nat):Int:=if r.length=0 then CS c t j else min (CS c t j) (r.getD (r.length - 1) 0)
def wy {t:List (List Int)}{r:List Int}{i:Nat}:(t++[r]).getD i []=if i < t.length then t.getD i [] else if i=t.length then r else []:=by
 by_cases h:i < t.length
 ·rw [if_pos h,AM,C7 h,AM]
 ·rw [if_neg h];by_cases h2:i=t.length
  ·rw [if_pos h2,h2,AM,Zz];rfl
  ·rw [if_neg h2,AM,FA (by rw [BI,EA];omega)];rfl
def Nq {r:List Int}{x:Int}{i:Nat}:(r++[x]).getD i 0=if i < r.length then r.getD i 0 else if i=r.length then x else 0:=by
 by_cases h:i < r.length
 ·rw [if_pos h,AM,C7 h,AM]
 ·rw [if_neg h];by_cases h2:i=r.length
  ·rw [if_pos h2,h2,AM,Zz];rfl
  ·rw [if_neg h2,AM,FA (by rw [BI,EA];omega)];rfl
def Pile.snoc {k b:Nat}{c:Int}{t:List (List Int)}{r:List Int} (p:Pile k b c t) (hr:r.length=b) (h:∀ y,y < b->0<=r.getD y 0/\r.getD y 0<=CS c t y) (hn:Nr r):Pile (k + 1) b c (t++[r]):=by
 have l:=p.tab.1;have e:∀ i j,g (t++[r]) i j=if i < k then g t i j else if i=k then r.getD j 0 else 0:=λ i j=>by
  unfold g;rw [wy,l];split
  ·rfl
  ·split <;> rfl
 have u:∀ y,y < b->CS c t y<=c:=λ y hy=>by
  unfold CS;split
  ·exact D1 _
  ·exact p.hi _ _ (by omega) hy
 refine ⟨⟨by rw [BI,l];rfl,λ x hx=>?_⟩,λ i j hi hj=>?_,λ i j hi hj=>?_,λ i j hi hj=>?_,λ i j hi hj=>?_⟩
 ·rcases jd4.mp hx with z | z
  ·exact p.tab.2 x z
  ·rw [jb6.mp z,hr]
 ·rw [e];by_cases z:i < k
  ·rw [if_pos z];exact p.lo i j z hj
  ·rw [if_neg z,if_pos (by omega)];exact (h j hj).1
 ·rw [e];by_cases z:i < k
  ·rw [if_pos z];exact p.hi i j z hj
  ·rw [if_neg z,if_pos (by omega)];exact HM (h j hj).2 (u j hj)
 ·rw [e,e];by_cases z:i + 1 < k
  ·rw [if_pos z,if_pos (by omega)];exact p.dn i j z hj
  ·rw [if_neg z,if_pos (by omega),if_pos (by omega)]
   have:=(h j hj).2
   unfold CS at this;rw [if_neg (by omega),l,show k - 1=i by omega] at this;exact this
 ·rw [e,e];by_cases z:i < k
  ·rw [if_pos z,if_pos z];exact p.rt i j z hj
  ·rw [if_neg z,if_neg z,if_pos (by omega),if_pos (by omega)];exact hn j (by rw [hr];exact hj)
def WS {a b c:Nat} (ns:List Int) (st:Nat) (cell:Int) (hst:st<=1000) (ha:1<=a/\a<=30) (hb:1<=b/\b<=30) (hc:1<=c/\c<=1000) (hns:ns.length<=1000):∃ t d,Pile a b c t/\d≠0/\b_pile [bx a b c,.scr ns,.int (st:Int),.int cell]=.ok (tb t,d,.non):=by
 have z:=sz;have hab:a * b<=900:=Cw (Mq ha.2 hb.2) (by decide);obtain ⟨nm,hl,en⟩:=Qd cell (a * b) (by (clear z hns hc hb ha hst;omega));let R (t:List (List Int)) (d5:Nat) (s6 s7 s8 s9 s10:QQ.Slot):Ae:=[some (bx a b c,0),some (.scr ns,om),some (.int (st:Int),om),some (.int cell,om),some (il nm,om),some (tb t,d5),s6,s7,s8,s9,s10]
 let R0:Ae:=[some (bx a b c,0),some (.scr ns,om),some (.int (st:Int),om),some (.int cell,om),none,none,none,none,none,none,none]
 have s1:Aj false 4 (A9 b_numbers (Af (Aa 3) (Af (Ab BX pc1 pa4) (Ac)))) [3,0,0] R0=.nx [some (bx a b c,0),some (.scr ns,om),some (.int (st:Int),om),some (.int cell,om),some (il nm,om),none,none,none,none,none,none]:=by
  refine Bq (x:=il nm) (d:=om) (ρ1:=R0) (AS (z:=.non) (A7 (x:=.int cell) (d:=om) rfl (AJ (Hq (i:=(a:Int)) (j:=(b:Int)) rfl rfl (.inl (by (clear hl hab z hns hc hb hst;omega)))))) ?_) (show 4 < 11 by decide) rfl;show b_numbers [.int cell,.int ((a:Int) * (b:Int))]=_;rw [show (a:Int) * (b:Int)=((a * b:Nat):Int) by rw [JA]];exact en
 have s2:Aj false 5 (An Bm (Ac)) [] [some (bx a b c,0),some (.scr ns,om),some (.int (st:Int),om),some (.int cell,om),some (il nm,om),none,none,none,none,none,none]=.nx (R [] om none none none none none):=by kernel_rfl
 have step:∀ (t:List (List Int)) (d5 k j:Nat) (r:List Int) (s9 s10:QQ.Slot),k < a->j < b->Pile k b c t->r.length=j->(∀ y,y < j->0<=r.getD y 0)->(∀ y,y < j->r.getD y 0<=CS c t y)->∃ h s9' s10',(0<=h/\h<=Bk c t r j)/\pa0 (R t d5 (some (.int (k:Int),om)) (some (il r,om)) (some (.int (j:Int),om)) s9 s10)=.nx (R t d5 (some (.int (k:Int),om)) (some (il (r++[h]),om)) (some (.int (j:Int),om)) s9' s10'):=by
  intro t d5 k j r s9 s10 hk hj p hr hr0 hr1;let Q (s9 s10:QQ.Slot):Ae:=R t d5 (some (.int (k:Int),om)) (some (il r,om)) (some (.int (j:Int),om)) s9 s10;have hkb:k * b + j < a * b:=by
   have:(k + 1) * b<=a * b:=KJ b hk
   rw [Th] at this
   (clear hr hk hl hab z hns hc hb ha hst;omega)
  have ekb:(k:Int) * (b:Int)=((k * b:Nat):Int):=by rw [JA]
  have m1:∀ s9 s10,Ab BX (Aa 6) pa4 (Q s9 s10)=.ok (.int ((k * b:Nat):Int),om,Q s9 s10):=λ s9 s10=>by
   rw [<- ekb];exact Hq (i:=(k:Int)) (j:=(b:Int)) rfl rfl (.inl (by (clear ekb hkb hr hj hl hab z hns hc hb hst;omega)))
  have v1:Aj false 9 (Ab Ay (Aa 4) (Ab Bo (Ab BX (Aa 6) pa4) (Aa 8))) [4,6,0,8] (Q s9 s10)=.nx (Q (some (.int (nm.getD (k * b + j) 0),om)) s10):=
   Bq (FJ (xs:=nm) (d:=0) rfl (E2 (m1 s9 s10) (j:=(j:Int)) rfl) (Dj (by (clear ekb hkb hr hj hk hl hab z hns hc hb ha hst;omega)) (by rw [show (((k * b:Nat):Int) + (j:Int)).toNat=k * b + j by (clear ekb hkb hr hj hk hl hab z hns hc hb ha hst;omega)];exact DD (by (clear ekb hr hj hk hab z hns hc hb ha hst;omega))))) (show 9 < 11 by decide) rfl
  have v2:∃ n,Bw (bT (Ab (Dg λ i j=>decide (i < j)) (Ab Bo (Ab Bo (Aa 2) (Ab BX (Aa 6) pa4)) (Aa 8)) pb3)) (Aj false 9 (Ab Ay (Aa 1) (Ab Bo (Ab Bo (Aa 2) (Ab BX (Aa 6) pa4)) (Aa 8))) [1,2,6,0,8]) A5 (Q (some (.int (nm.getD (k * b + j) 0),om)) s10)=.nx (Q (some (.int n,om)) s10):=by
   have q:=λ s9 s10=>E2 (ρ:=Q s9 s10) (E2 (ρ:=Q s9 s10) (f:=Aa 2) (i:=(st:Int)) (d:=om) rfl (m1 s9 s10)) (g:=Aa 8) (j:=(j:Int)) (e:=om) rfl;have tt:=AX (Iv (p:=λ i j=>decide (i < j)) (q (some (.int (nm.getD (k * b + j) 0),om)) s10) (g:=An GA (Af (Aa 1) (Ac))) (j:=(ns.length:Int)) (e:=om) rfl);by_cases hd:((st:Int) + ((k * b:Nat):Int) + (j:Int)) < (ns.length:Int)
   ·rw [decide_eq_true hd] at tt;refine ⟨ns.getD (st + k * b + j) 0,(CW tt).trans (Bq (WO (xs:=ns) (d:=om) rfl (q _ _) (Dj (by (clear hd ekb hkb hr hj hk hl hab z hns hc hb ha hst;omega)) ?_)) (show 9 < 11 by decide) rfl)⟩;rw [show ((st:Int) + ((k * b:Nat):Int) + (j:Int)).toNat=st + k * b + j by (clear hd ekb hkb hr hj hk hl hab z hns hc hb ha hst;omega)];exact DD (by (clear ekb hkb hr hj hk hl hab z hns hc hb ha hst;omega))
   ·rw [decide_eq_false hd] at tt;exact ⟨_,(CY tt).trans rfl⟩
  obtain ⟨n,v2⟩:=v2;have l:=p.tab.1;have v3:Aj false 10 (Ab Ay (Ab Bo (An Bm (Af pa9 (Ac))) (Cu (Dc (Aa 5) pc6 none) 1 (asgN 11) Be (Ab Ay pb4 (Aa 8)))) (AN Il (bC (.int 1)))) [0,5,5,8] (Q (some (.int n,om)) s10)=.nx (Q (some (.int n,om)) (some (.int (CS c t j),om))):=by
   have f1:Dc (Aa 5) pc6 none (Q (some (.int n,om)) s10)=.ok (.lst ((t.drop (t.length - 1)).map il),d1 ((t.map il).drop ((t.map il).length - 1)),Q (some (.int n,om)) s10):=by
    rw [Xb (xs:=t.map il) (d:=0) (ρ1:=Q (some (.int n,om)) s10) rfl,A8,OW]
   have f2:=Ji (n:=11) (elt:=Ab Ay pb4 (Aa 8)) (enc:=il) (q:=λ _=>.int (g t (t.length - 1) j)) (t.drop (t.length - 1)) f1 rfl (λ x hx=>by
    have ht:0 < t.length:=by
     have:=Zs hx
     rw [Fy] at this
     (clear l ekb hkb hr hj hk hl hab z hns hc hb ha hst;omega)
    exact FJ (xs:=t.getD (t.length - 1) []) (k:=(j:Int)) (OJ (t:=t) (k:=-1) (d:=0) rfl rfl (Xs (IW (by (clear l ekb hkb hr hj hk hl hab z hns hc hb ha hst;omega))))) rfl (Dj (by (clear ht l ekb hkb hr hj hk hl hab z hns hc hb ha hst;omega)) (DD (by rw [p.tab.row (by (clear ekb hkb hr hj hk hl hab z hns hc hb ha hst;omega))];(clear ht l ekb hkb hr hk hl hab z hns hc hb ha hst;omega))))) (by rw [Fy];(clear l ekb hkb hr hj hk hl hab hns hc hb ha hst;omega))
   have f3:An Bm (Af pa9 (Ac)) (Q (some (.int n,om)) s10)=.ok (.lst [.int (c:Int)],om,Q (some (.int n,om)) s10):=by kernel_rfl
   have f4:=SK f3 f2 (by rw [A8,Fy,EA];(clear l ekb hkb hr hj hk hl hab hns hc hb ha hst;omega));have f5:PV.lst ([.int (c:Int)]++(t.drop (t.length - 1)).map λ _=>.int (g t (t.length - 1) j))=il ((c:Int)::(t.drop (t.length - 1)).map λ _=>g t (t.length - 1) j):=by
    unfold il;rw [BF,CB];rfl
   rw [f5] at f4;refine Bq (FJ f4 (k:=-1) rfl (Xs ?_)) (show 10 < 11 by decide) rfl;unfold CS;by_cases e:t.length=0
   ·rw [if_pos e,je9.mp e];rfl
   ·rw [if_neg e]
    have:(t.drop (t.length - 1)).map (λ _=>g t (t.length - 1) j)=[g t (t.length - 1) j]:=by
     have hl1:(t.drop (t.length - 1)).length=1:=by rw [Fy];(clear l ekb hkb hr hj hk hl hab z hns hc hb ha hst;omega)
     obtain ⟨x,hx⟩:=jo2.mp hl1;rw [hx];rfl
    rw [this];rfl
  have v4:Aj false 10 (An Hc (Af (Ab Bo (An Bm (Af (Aa 10) (Ac))) (Dc (Aa 7) pc6 none)) (Ac))) [10,7] (Q (some (.int n,om)) (some (.int (CS c t j),om)))=.nx (Q (some (.int n,om)) (some (.int (Bk c t r j),om))):=by
   have f1:=Xb (f:=Aa 7) (xs:=r.map PV.int) (d:=0) (ρ:=Q (some (.int n,om)) (some (.int (CS c t j),om))) (ρ1:=Q (some (.int n,om)) (some (.int (CS c t j),om))) rfl;rw [A8,<- OW] at f1;have f4:=SK (f:=An Bm (Af (Aa 10) (Ac))) (ρ:=Q (some (.int n,om)) (some (.int (CS c t j),om))) (xs:=[.int (CS c t j)]) (d:=om) (by kernel_rfl) f1 (by rw [A8,Fy,EA];(clear l ekb hkb hr hj hk hl hab hns hc hb ha hst;omega))
   have:CU (CS c t j) (r.drop (r.length - 1))=Bk c t r j:=by
    unfold Bk;by_cases e:r.length=0
    ·rw [if_pos e,je9.mp e];rfl
    ·rw [if_neg e]
     have:r.drop (r.length - 1)=[r.getD (r.length - 1) 0]:=by
      rw [T8 (show r.length - 1 < r.length by (clear l ekb hkb hr hj hk hl hab z hns hc hb ha hst;omega)),AM,BW (show r.length - 1 < r.length by (clear l ekb hkb hr hj hk hl hab z hns hc hb ha hst;omega)),My (by (clear e l ekb hkb hr hj hk hl hab z hns hc hb ha hst;omega))];rfl
     rw [this];show (if r.getD (r.length - 1) 0 < CS c t j then r.getD (r.length - 1) 0 else CS c t j)=_;split <;> (clear e l ekb hkb hr hj hk hl hab z hns hc hb ha hst;omega)
   rw [<- this];exact Bq (qU (x:=CS c t j) (xs:=r.drop (r.length - 1)) (AJ f4)) (show 10 < 11 by decide) rfl
  have u0:0<=CS c t j:=by
   unfold CS;split
   ·(clear l ekb hkb hr hj hk hl hab z hns hc hb ha hst;omega)
   ·exact p.lo _ _ (by (clear ekb hkb hr hj hk hl hab z hns hc hb ha hst;omega)) hj
  have t0:0<=Bk c t r j:=by
   unfold Bk;split
   ·exact u0
   ·have:=hr0 (r.length - 1) (by (clear u0 l ekb hkb hj hk hl hab z hns hc hb ha hst;omega))
    (clear l ekb hkb hr hj hk hl hab z hns hc hb ha hst;omega)
  have q0:=Pc n (show (4:Int)≠0 by decide);have q1:=Pk n (show (0:Int) < 4 by decide);have w0:=Pc (n / 4) (show Bk c t r j + 1≠0 by (clear q1 q0 u0 l ekb hkb hr hj hk hl hab z hns hc hb ha hst;omega));have w1:=Pk (n / 4) (show 0 < Bk c t r j + 1 by (clear w0 q1 q0 u0 l ekb hkb hr hj hk hl hab z hns hc hb ha hst;omega));let ch:List Int:=[0,0,if Bk c t r j < 1 then Bk c t r j else 1,n / 4 % (Bk c t r j + 1)]
  have hch:∀ x∈ch,0<=x/\x<=Bk c t r j:=by
   intro x hx;rcases jb5.mp hx with e | hx
   ·rw [e];(clear e w1 w0 q1 q0 u0 l ekb hkb hr hj hk hl hab z hns hc hb ha hst;omega)
   rcases jb5.mp hx with e | hx
   ·rw [e];(clear e w1 w0 q1 q0 u0 l ekb hkb hr hj hk hl hab z hns hc hb ha hst;omega)
   rcases jb5.mp hx with e | hx
   ·rw [e];split <;> (clear e w1 w0 q1 q0 u0 l ekb hkb hr hj hk hl hab z hns hc hb ha hst;omega)
   rcases jb5.mp hx with e | hx
   ·rw [e];(clear e q1 q0 t0 u0 l ekb hkb hr hj hk hl hab z hns hc hb ha hst;omega)
   ·cases hx
  have hx:=hch _ (X3 (xs:=ch) (i:=(n % 4).toNat) (by show (n % 4).toNat < 4;(clear w1 w0 q1 q0 t0 u0 l ekb hkb hr hj hk hl hab z hns hc hb ha hst;omega)));have f5:An Bm pb8 (Q (some (.int n,om)) (some (.int (Bk c t r j),om)))=.ok (il ch,om,Q (some (.int n,om)) (some (.int (Bk c t r j),om))):=
   Ck (A7 (x:=.int 0) (d:=om) rfl (A7 (x:=.int 0) (d:=om) rfl (A7 (x:=.int (if Bk c t r j < 1 then Bk c t r j else 1)) (d:=om) rfl (AJ (DC (Kc (i:=n) rfl rfl (by decide) (by decide)) (E2 (i:=Bk c t r j) rfl rfl) (by (clear hx w1 w0 q1 q0 u0 l ekb hkb hr hj hk hl hab z hns hc hb ha hst;omega))))))) (by kernel_rfl)
  refine ⟨Bk c t r j - ch.getD (n % 4).toNat 0,some (.int n,om),some (.int (Bk c t r j),om),⟨by (clear w1 w0 q1 q0 t0 u0 l ekb hkb hr hj hk hl hab z hns hc hb ha hst;omega),by (clear w1 w0 q1 q0 t0 u0 l ekb hkb hr hj hk hl hab z hns hc hb ha hst;omega)⟩,?_⟩;refine (AR v1).trans ((AR v2).trans ((AR v3).trans ((AR v4).trans ?_)));refine (Kk (i:=7) (d0:=999) (d:=om) (xs:=r.map PV.int) (xs0:=r.map PV.int) rfl (Jj (i:=Bk c t r j) rfl (FJ f5 (k:=n % 4) (DC (i:=n) rfl rfl (by decide)) (Dj q0 (DD (by show (n % 4).toNat < 4;(clear hx w1 w0 q1 q0 t0 u0 l ekb hkb hr hj hk hl hab z hns hc hb ha hst;omega)))))) rfl (by decide) (by rw [A8];(clear hx w1 w0 q1 q0 t0 u0 l ekb hkb hk hl hab hns hc ha hst;omega)) rfl).trans ?_;rw [WQ];rfl
 obtain ⟨ρ',e6,t,d5,s6,s7,s8,s9,s10,rfl,pt,hd5⟩:=Ja (i:=6) (body:=(Ah (Aj false 7 (An Bm (Ac)) [])
 (Ah (Dq Bn (Af pa4 (Ac)) (asgN 8) pa0)
 (BZ 5 (Aa 7) [7])))) (en:=Bn) (fa:=Af pc1 (Ac)) (ρ:=R [] om none none none none none) (ρ1:=R [] om none none none none none) (as:=[(.int (a:Int),om)]) (lo:=0) (hi:=(a:Int))
  (λ k ρ=>∃ t d5 s6 s7 s8 s9 s10,ρ=R t d5 s6 s7 s8 s9 s10/\Pile k b c t/\d5≠0) (by kernel_rfl) (Ez (by (clear hl hab z hns hc hb ha hst;omega)) (by (clear hl hab z hns hc hb hst;omega))) ⟨[],om,none,none,none,none,none,rfl,⟨⟨rfl,λ _ h=>nomatch h⟩,λ _ _ h=>absurd h (by (clear h hl hab z hns hc hb ha hst;omega)),λ _ _ h=>absurd h (by (clear h hl hab z hns hc hb ha hst;omega)),λ _ _ h=>absurd h (by (clear h hl hab z hns hc hb ha hst;omega)),λ _ _ h=>absurd h (by (clear h hl hab z hns hc hb ha hst;omega))⟩,by decide⟩ (by
   rintro k ρ hk ⟨t,d5,s6,s7,s8,s9,s10,rfl,pt,hd5⟩;have hk':k < a:=by (clear hd5 hl hab z hns hc hb ha hst;omega)
   have u1:Aj false 7 (An Bm (Ac)) [] (R t d5 (some (.int (0 + (k:Int)),om)) s7 s8 s9 s10)=.nx (R t d5 (some (.int (0 + (k:Int)),om)) (some (il [],om)) s8 s9 s10):=rfl;obtain ⟨ρ2,e2,r,t8,t9,HI,rfl,hr,hr0,hr1,hrn⟩:=Ja (i:=8) (body:=pa0) (en:=Bn) (fa:=Af pa4 (Ac)) (ρ:=R t d5 (some (.int (0 + (k:Int)),om)) (some (il [],om)) s8 s9 s10) (ρ1:=R t d5 (some (.int (0 + (k:Int)),om)) (some (il [],om)) s8 s9 s10) (as:=[(.int (b:Int),om)]) (lo:=0) (hi:=(b:Int))
    (λ j ρ=>∃ r s8 s9 s10,ρ=R t d5 (some (.int (0 + (k:Int)),om)) (some (il r,om)) s8 s9 s10/\r.length=j/\(∀ y,y < j->0<=r.getD y 0)/\(∀ y,y < j->r.getD y 0<=CS c t y)/\Nr r) (by kernel_rfl) (Ez (by (clear hk' hd5 hk hl hab z hns hc hb ha hst;omega)) (by (clear hk' hd5 hk hl hab z hns hc ha hst;omega))) ⟨[],s8,s9,s10,rfl,rfl,λ _ h=>absurd h (by (clear h hk' hd5 hk hl hab z hns hc hb ha hst;omega)),λ _ h=>absurd h (by (clear h hk' hd5 hk hl hab z hns hc hb ha hst;omega)),λ _ h=>absurd h (by simp)⟩ (by
     rintro j ρ hj ⟨r,s8,s9,s10,rfl,hr,hr0,hr1,hrn⟩;obtain ⟨h,t9,HI,hh,eh⟩:=step t d5 k j r s9 s10 hk' (by (clear hr hk' hd5 hk hl hab z hns hc hb ha hst;omega)) pt hr hr0 hr1;refine ⟨show 8 < 11 by decide,R t d5 (some (.int (0 + (k:Int)),om)) (some (il (r++[h]),om)) (some (.int (0 + (j:Int)),om)) t9 HI,?_,r++[h],some (.int (0 + (j:Int)),om),t9,HI,rfl,by rw [BI,hr];rfl,λ y hy=>?_,λ y hy=>?_,λ y hy=>?_⟩
     ·rw [ET,ET];exact eh
     ·rw [Nq];by_cases e:y < r.length
      ·rw [if_pos e];exact hr0 y (by (clear hy hh hj hk' hd5 hk hl hab z hns hc hb ha hst;omega))
      ·rw [if_neg e,if_pos (by (clear hh hj hk' hd5 hk hl hab z hns hc hb ha hst;omega))];exact hh.1
     ·rw [Nq];by_cases e:y < r.length
      ·rw [if_pos e];exact hr1 y (by (clear hy hh hj hk' hd5 hk hl hab z hns hc hb ha hst;omega))
      ·rw [if_neg e,if_pos (by (clear hh hj hk' hd5 hk hl hab z hns hc hb ha hst;omega)),show y=j by (clear hh hj hk' hd5 hk hl hab z hns hc hb ha hst;omega)]
       have:=hh.2
       unfold Bk at this;split at this <;> (clear e hy hh hr hj hk' hd5 hk hl hab z hns hc hb ha hst;omega)
     ·rw [BI,EA] at hy;rw [Nq,Nq];by_cases e:y + 1 < r.length
      ·rw [if_pos e,if_pos (by (clear e hh hr hj hk' hd5 hk hl hab z hns hc hb ha hst;omega))];exact hrn y e
      ·rw [if_neg e,if_pos (by (clear hh hr hj hk' hd5 hk hl hab z hns hc hb ha hst;omega)),if_pos (by (clear e hh hr hj hk' hd5 hk hl hab z hns hc hb ha hst;omega))]
       have:=hh.2
       unfold Bk at this;rw [if_neg (by (clear this e hh hr hj hk' hd5 hk hl hab z hns hc hb ha hst;omega)),show r.length - 1=y by (clear this hh hr hj hk' hd5 hk hl hab z hns hc hb ha hst;omega)] at this
       (clear e hy hh hr hj hk' hd5 hk hl hab z hns hc hb ha hst;omega))
   rw [show ((b:Int) - 0).toNat=b by (clear hr hk' hd5 hk hl hab z hns hc hb ha hst;omega)] at hr hr0 hr1;refine ⟨show 6 < 11 by decide,R (t++[r]) 1 (some (.int (0 + (k:Int)),om)) (some (il r,0)) t8 t9 HI,?_,t++[r],1,_,_,_,_,_,rfl,pt.snoc hr (λ y hy=>⟨hr0 y hy,hr1 y hy⟩) hrn,by decide⟩;refine (AR u1).trans ((AR e2).trans ?_);obtain ⟨d0,rfl⟩:∃ d0,d5=d0 + 1:=⟨d5 - 1,by (clear hr hk' hk hl hab z hns hc hb ha hst;omega)⟩
   refine (Kk (i:=5) (d0:=d0) (d:=d0 + 1) (y:=il r) (e:=0) (xs:=t.map il) (xs0:=t.map il) rfl rfl rfl hd5 (by rw [A8,pt.tab.1];(clear hd5 hr hk' hl hab hns hc hb hst;omega)) rfl).trans ?_;rw [SV,if_neg (λ h=>absurd h.2 (by decide))]
   rfl)
 rw [show ((a:Int) - 0).toNat=a by (clear hd5 hl hab z hns hc hb ha hst;omega)] at pt;exact ⟨t,d5,pt,hd5,Ct rfl ((AR s1).trans ((AR s2).trans ((AR e6).trans rfl)))⟩
theorem Y4:∀ xs:List Int,K0 (xs.map PV.int)=true
 | []=>rfl
 | x::xs=>by rw [BF,K0,Y4 xs];rfl
def Md (xs:List Int):d1 (xs.map PV.int)=om:=by unfold d1;rw [Y4];rfl
def ju {f:Fx}{ρ ρ1:Ae}{xs:List Int}{d:Nat} (h:f ρ=.ok (il xs,d,ρ1)):An Ke (Af f Ac) ρ=.ok (il xs,om,ρ1):=by
 refine Ck (AJ h) ?_;show some (PV.lst (xs.map PV.int),d1 (xs.map PV.int))=_;rw [Md];rfl
def WN {f h k:Fx}{ρ ρ1 ρ2 ρ3:Ae}{t:List (List Int)}{a b i j:Nat}{d e e':Nat} (ht:Tab a b t) (h1:f ρ=.ok (tb t,d,ρ1)) (h2:h ρ1=.ok (.int (i:Int),e,ρ2)) (h3:k ρ2=.ok (.int (j:Int),e',ρ3)) (hi:i < a) (hj:j < b):Ab Ay (Ab Ay f h) k ρ=.ok (.int (g t i j),om,ρ3):=
 FJ (xs:=t.getD i []) (k:=(j:Int)) (OJ (t:=t) (k:=(i:Int)) h1 h2 (Dj (by omega) (IW (by rw [D3,ht.1];exact hi)))) h3 (Dj (by omega) (DD (by rw [D3,ht.row hi];exact hj)))
theorem PM {asg:PV->Ae->Option Ae}{body:Fs}:∀ (els:List PV) (I:Nat->Ae->Prop) (ρ:Ae),I 0 ρ->(∀ j x ρ,els[j]?=some x->I j ρ->∃ ρ1 ρ2,asg x ρ=some ρ1/\body ρ1=.nx ρ2/\I (j + 1) ρ2)->∃ ρ',BO asg body els ρ=.nx ρ'/\I els.length ρ'
 | [],I,ρ,h,_=>⟨ρ,rfl,h⟩
 | x::xs,I,ρ,h,hb=>by
  obtain ⟨ρ1,ρ2,e1,e2,h2⟩:=hb 0 x ρ rfl h;obtain ⟨ρ',e',h'⟩:=PM xs (λ j=>I (j + 1)) ρ2 h2 λ j y ρ hy hi=>hb (j + 1) y ρ (by simpa using hy) hi;refine ⟨ρ',?_,h'⟩;unfold BO;rw [e1];dsimp only;rw [e2];exact e'
def X2 {v:Vw}{fa:Fa}{vs:List Nat}{asg:PV->Ae->Option Ae}{body:Fs}{ρ ρ1 ρ2:Ae}{xs:List (PV×Nat)}{els:List PV} (I:Nat->Ae->Prop) (hf:fa ρ=.ok (xs,ρ1)) (he:FE v (xs.map (·.1))=some els) (ec:Bj (if D6 xs=true then om else 0) vs ρ1=ρ2) (h0:I 0 ρ2)
  (hb:∀ j x ρ,els[j]?=some x->I j ρ->∃ ρ1 ρ2,asg x ρ=some ρ1/\body ρ1=.nx ρ2/\I (j + 1) ρ2):∃ ρ',GI v fa vs asg body ρ=.nx ρ'/\I els.length ρ':=by
 obtain ⟨ρ',e,h⟩:=PM els I ρ2 h0 hb;refine ⟨ρ',?_,h⟩;unfold GI;rw [hf];dsimp only;rw [he];dsimp only;rw [ec];exact e
def VR {i:Nat}{f:Fx}{vs:List Nat}{ρ ρ1 ρ2:Ae}{ys:List PV}{e:Nat}{xs:List PV}{d0 d:Nat}{xs0:List PV} (h0:ρ[i]?=some (some (.lst xs0,d0 + 1))) (h:f ρ=.ok (.lst ys,e,ρ1)) (h1:(Bj e vs ρ1)[i]?=some (some (.lst xs,d))) (hd:d≠0) (hl:xs.length + ys.length<=Aw)
  (e2:(Bj e vs ρ1).set i (some (.lst (xs++ys),1))=ρ2):Dz i f vs ρ=.nx ρ2:=by
 unfold Dz;rw [h0];dsimp only;rw [h];dsimp only;rw [h1];dsimp only;rw [if_pos ⟨hd,hl⟩,e2]
abbrev C3:=Nat×Nat×Nat
def c3 (x:C3):PV:=.tup [.int (x.1:Int),.int (x.2.1:Int),.int (x.2.2:Int)]
def w6 {xs:List Int} (h1:xs.length<=1000) (h2:∀ x∈xs,-1000000<=x/\x<=1000000):FO xs=true:=by
 unfold FO;rw [Ba,decide_eq_true_iff,jb8];refine ⟨by omega,λ x hx=>?_⟩
 have:=h2 x hx
 rw [Ba,decide_eq_true_iff,decide_eq_true_iff];omega
def Sm {fa:Fa}{ρ ρ1:Ae}{xs:List Int}{d:Nat} (h:fa ρ=.ok ([(il xs,d)],ρ1)) (hs:FO xs=true):An Hb fa ρ=.ok (.int xs.sum,om,ρ1):=by
 refine Ck h ?_;show (match Fi (xs.map PV.int) with | some ns=>if FO ns=true then some (PV.int ns.sum,om) else none | none=>none)=_;rw [MF];dsimp only;rw [if_pos hs]
abbrev _root_.pd1:=Eb (AN (CN "int") (Aa 0)) (Eb (AN C2 (AN (CN "bool") (Aa 0))) (Ab (Br false) (Aa 0) (Aa 1)))
abbrev _root_.pc4:=Cc (Ab (Br true) (AN (CN "tuple") (Aa 1)) (AN (CN "tuple") (Aa 0))) (Ab (Br true) (AN (CN "list") (Aa 1)) (AN (CN "list") (Aa 0)))
def Mh (F:Fn):Fs:=(Ah (Bw (bT (AN (CN "int") (Aa 1))) (A3 pd1) A5)
 (Ah (Bw (bT (AN (CN "str") (Aa 1))) (A3 (Eb (AN (CN "str") (Aa 0)) (Ab (Br false) (Aa 0) (Aa 1)))) A5)
 (Ah (Bw (bT pc4) (A3 (bC (.bl false))) A5)
 (Ah (Bw (bT (Ab (Br true) pa8 pb3)) (A3 (bC (.bl false))) A5)
 (Ah (GI .zp pd6 [0,1] (asgT [2,3]) (Bw (bT (AN C2 (A9 F pb5))) (A3 (bC (.bl false))) A5))
 (A3 (bC (.bl true))))))))
def Hk:Nat->Fn
 | 0=>λ _=>.no
 | n + 1=>Au false 2 2 (Mh (Hk n))
def wk (n:Nat) (i:Int):Hk (n + 1) [.int i,.int i]=.ok (.bl true,om,.non):=by
 let R:Ae:=[some (.int i,om),some (.int i,om),none,none]
 have e:pd1 R=.ok (.bl (true && (true && (false^^decide (i=i)))),om,R):=
  OB (a:=true) (d:=om) rfl (λ _=>OB (a:=true) (d:=om) rfl (λ _=>K3 (i:=i) (j:=i) rfl rfl) rfl) rfl
 rw [decide_eq_true rfl] at e;exact Ct rfl (ρ':=R) (Lv ((CW (ρ1:=R) rfl).trans (Dn e)))
def AD (t:List (List Int)) (b:Nat):List (List Int):=(A6 b).map λ j=>Ci t j
def As (t:List (List Int)) (b c:Nat):List (List Int):=(A6 b).map λ j=>(A6 c).map λ (k:Nat)=>CH (Ci t j) (k:Int)
def BP (t:List (List Int)) (c:Int):List (List Int):=t.reverse.map λ r=>r.reverse.map λ h=>c - h
def qW {a b c:Nat}{t:List (List Int)} (p:Pile a b c t) (ha:1<=a/\a<=100) (hb:1<=b/\b<=100) (hc:1<=c):f_mirrored_pile [bx a b c,tb t]=.ok (tb (AD t b),om,.non):=by
 have z:=sz;have ht:=p.tab;let R:Ae:=[some (bx a b c,0),some (tb t,0)]
 have s1:D7 pa7 R=.nx R:=Iq (AS (xs:=[(bx a b c,0),(tb t,0)]) rfl (KY ht ha hb (by omega) ((Lk ht).mpr p)));have e1:=JR (n:=2) (en:=Bn) (fa:=Af pa4 (Ac)) (elt:=A9 f_column_of pb2) (ρ:=R) (ρ1:=R) (as:=[(.int (b:Int),om)]) (lo:=0) (hi:=(b:Int)) (q:=λ j=>il (Ci t j)) rfl (Ez (by omega) (by omega)) rfl (λ k hk=>by
  rw [ET];exact AS (xs:=[(tb t,0),(.int (k:Int),om)]) rfl (PU t k (by rw [ht.1];omega) λ r hr=>by rw [ht.2 r hr];omega)) (by omega)
 rw [show ((b:Int) - 0).toNat=b by omega] at e1;have e2:PV.lst ((A6 b).map λ j=>il (Ci t j))=tb (AD t b):=by unfold tb AD;rw [CB];rfl
 rw [e2] at e1;exact Ct rfl ((AR s1).trans (Dn e1))
def xJ {a b c:Nat}{t:List (List Int)} (p:Pile a b c t) (ha:1<=a/\a<=100) (hb:1<=b/\b<=100) (hc:1<=c/\c<=100):f_rolled_pile [bx a b c,tb t]=.ok (tb (As t b c),om,.non):=by
 have z:=sz;have ht:=p.tab;have l1:=ht.1;let R (q:List (List Int)) (s3 s4:QQ.Slot):Ae:=[some (bx a b c,0),some (tb t,0),some (tb q,om),s3,s4]
 have s1:D7 pa7 [some (bx a b c,0),some (tb t,0),none,none,none]=.nx [some (bx a b c,0),some (tb t,0),none,none,none]:=Iq (AS (xs:=[(bx a b c,0),(tb t,0)]) rfl (KY ht ha hb (by (clear l1 z hb ha;omega)) ((Lk ht).mpr p)));have s2:Aj false 2 (An Bm (Ac)) [] [some (bx a b c,0),some (tb t,0),none,none,none]=.nx (R [] none none):=by kernel_rfl
 have e4:∀ (q:List (List Int)) (j:Nat) (s3:QQ.Slot),CL Bn (Af pa9 (Ac)) 1 (asgN 5) Be (A9 f_how_many_above pb6) (R q s3 (some (il (Ci t j),om)))=.ok (il ((A6 c).map λ (k:Nat)=>CH (Ci t j) (k:Int)),om,R q s3 (some (il (Ci t j),om))):=λ q j s3=>by
  rw [JR (n:=5) (en:=Bn) (fa:=Af pa9 (Ac)) (ρ:=R q s3 (some (il (Ci t j),om))) (ρ1:=R q s3 (some (il (Ci t j),om))) (q:=λ (k:Nat)=>.int (CH (Ci t j) (k:Int))) (as:=[(.int (c:Int),om)]) (by kernel_rfl) (Ez (by (clear l1 z hc hb ha;omega)) (by (clear l1 z hb ha;omega))) rfl (λ k hk=>by
   rw [ET];exact AS (xs:=[(il (Ci t j),0),(.int (k:Int),om)]) rfl (kN _ _ (by rw [GC];(clear hk z hc hb;omega)))) (by (clear l1 hb ha;omega)),show ((c:Int) - 0).toNat=c by (clear l1 z hc hb ha;omega)]
  unfold il;rw [CB];rfl
 obtain ⟨ρ',e6,s3,s4,rfl⟩:=Ja (i:=3) (body:=Ah (Aj false 4 pd4 [1,3]) (BZ 2 (CL Bn (Af pa9 (Ac)) 1 (asgN 5) Be (A9 f_how_many_above pb6)) [4])) (en:=Bn) (fa:=Af pa4 (Ac)) (ρ:=R [] none none) (ρ1:=R [] none none) (as:=[(.int (b:Int),om)]) (lo:=0) (hi:=(b:Int))
  (λ k ρ=>∃ s3 s4,ρ=R (As t k c) s3 s4) (by kernel_rfl) (Ez (by (clear l1 z hc hb ha;omega)) (by (clear l1 z hc ha;omega))) ⟨none,none,rfl⟩ (by
   rintro j ρ hj ⟨s3,s4,rfl⟩;have u1:Aj false 4 pd4 [1,3] (R (As t j c) (some (.int (0 + (j:Int)),om)) s4)=.nx (R (As t j c) (some (.int (0 + (j:Int)),om)) (some (il (Ci t j),om))):=by
    rw [ET];exact Bq (AS (xs:=[(tb t,0),(.int (j:Int),om)]) rfl (PU t j (by (clear hj z hc hb;omega)) λ r hr=>by rw [ht.2 r hr];(clear l1 z hc hb ha;omega))) (show 4 < 5 by decide) rfl
   refine ⟨show 3 < 5 by decide,_,(AR u1).trans (Kk (i:=2) (d0:=999) (d:=om) (xs:=(As t j c).map il) (xs0:=(As t j c).map il) rfl (e4 _ j _) rfl (by decide) (by unfold As;rw [A8,A8,Ek];(clear l1 hc ha;omega)) rfl),some (.int (0 + (j:Int)),om),some (il (Ci t j),om),?_⟩
   have:PV.lst ((As t j c).map il++[il ((A6 c).map λ (k:Nat)=>CH (Ci t j) (k:Int))])=tb (As t (j + 1) c):=by
    rw [SV];unfold As;rw [Fv,DL];rfl
   rw [this]
   rfl)
 rw [show ((b:Int) - 0).toNat=b by (clear l1 z hc hb ha;omega)] at e6;exact Ct rfl ((AR s1).trans ((AR s2).trans ((AR e6).trans rfl)))
def kW {α:Type}{n:Nat}{v:Vw}{fa:Fa}{elt:Fx}{enc q:α->PV}{ρ ρ1:Ae}{as:List (PV×Nat)} (xs:List α) (hf:fa ρ=.ok (as,ρ1)) (hv:FE v (as.map (·.1))=some (xs.map enc)) (hn:ρ1.length=n) (he:∀ x∈xs,elt (ρ1++[some (enc x,dv (enc x))])=.ok (q x,om,ρ1++[some (enc x,dv (enc x))])) (hl:xs.length<=Aw):
  Dm v fa 1 (asgN n) Be elt ρ=.ok (.lst (xs.map q),om,ρ1):=by
 unfold Dm;rw [hf];dsimp only;rw [hv];dsimp only;rw [IV (p:=λ _=>true) (q:=q) (e:=λ _=>om) xs ρ1 [] hn (λ _ _=>rfl) (λ x hx _=>he x hx) (by simpa using hl),jf0.mpr (λ _ _=>rfl)];show CP (xs.map λ x=>(q x,om)) ρ1=_;unfold CP;rw [IU,CB];rfl
def jM {a b c:Nat}{t:List (List Int)} (p:Pile a b c t) (ha:1<=a/\a<=100) (hb:1<=b/\b<=100) (hc:1<=c):f_rest_of [bx a b c,tb t]=.ok (tb (BP t c),om,.non):=by
 have z:=sz;have ht:=p.tab;have l1:=ht.1;let R (q:List (List Int)) (s3:QQ.Slot):Ae:=[some (bx a b c,0),some (tb t,0),some (tb q,om),s3]
 have s1:D7 pa7 [some (bx a b c,0),some (tb t,0),none,none]=.nx [some (bx a b c,0),some (tb t,0),none,none]:=Iq (AS (xs:=[(bx a b c,0),(tb t,0)]) rfl (KY ht ha hb (by omega) ((Lk ht).mpr p)));have s2:Aj false 2 (An Bm (Ac)) [] [some (bx a b c,0),some (tb t,0),none,none]=.nx (R [] none):=by kernel_rfl
 let rs (n:Nat):List (List Int):=(t.reverse.take n).map λ r=>r.reverse.map λ h=>(c:Int) - h;obtain ⟨ρ',e6,s3,rfl⟩:=X2 (v:=.rev) (fa:=Af (Aa 1) (Ac)) (vs:=[1]) (asg:=asgN 3) (body:=BZ 2 (Dm .rev (Af (Aa 3) (Ac)) 1 (asgN 4) Be (Ab Df pa9 (Aa 4))) [3,0,3]) (ρ:=R [] none) (xs:=[(tb t,0)]) (els:=t.reverse.map il)
  (λ n ρ=>∃ s3,ρ=R (rs n) s3) rfl (by show some (t.map il).reverse=_;rw [YS]) rfl ⟨none,by show R [] none=R ((t.reverse.take 0).map _) none;rw [Mr];rfl⟩ (by
   rintro n y ρ hy ⟨s3,rfl⟩;have hn:n < t.reverse.length:=by
    have:=(jb0.mp hy).1
    rw [A8] at this;exact this
   rw [C5,BW hn] at hy;cases hy;let r:=t.reverse[n];have hr:r∈t:=js2.mp (IK hn);have e1:=kW (n:=4) (v:=.rev) (fa:=Af (Aa 3) (Ac)) (elt:=Ab Df pa9 (Aa 4)) (enc:=PV.int) (q:=λ h=>.int ((c:Int) - h)) (ρ:=R (rs n) (some (il r,0))) (ρ1:=R (rs n) (some (il r,0))) (as:=[(il r,0)]) r.reverse rfl (by show some (r.map PV.int).reverse=_;rw [YS]) rfl (λ h _=>Jj (i:=(c:Int)) (j:=h) rfl rfl) (by rw [GU,ht.2 r hr];omega);have e2:PV.lst (r.reverse.map λ h=>.int ((c:Int) - h))=il (r.reverse.map λ h=>(c:Int) - h):=by unfold il;rw [CB];rfl
   rw [e2] at e1;refine ⟨R (rs n) (some (il r,0)),R (rs (n + 1)) (some (il r,0)),rfl,?_,_,rfl⟩;have hlen:((rs n).map il).length < Aw:=by
    have e:((rs n).map il).length=(t.reverse.take n).length:=by rw [A8,A8]
    rw [e,Fz,GU];omega
   refine (Kk (i:=2) (d0:=999) (d:=om) (xs:=(rs n).map il) (xs0:=(rs n).map il) rfl e1 rfl (by decide) hlen rfl).trans ?_
   have:PV.lst ((rs n).map il++[il (r.reverse.map λ h=>(c:Int) - h)])=tb (rs (n + 1)):=by
    rw [SV];show tb ((t.reverse.take n).map _++_)=tb ((t.reverse.take (n + 1)).map _);rw [List.take_succ,BW hn,DL];rfl
   rw [this]
   rfl)
 rw [A8,GU] at e6
 have:rs t.length=BP t c:=by
  show (t.reverse.take t.length).map _=_;rw [KN (by rw [GU];exact AB _)];rfl
 rw [this] at e6;exact Ct rfl ((AR s1).trans ((AR s2).trans ((AR e6).trans rfl)))
def Lo {a b:Nat}{t:List (List Int)} (ht:Tab a b t):Tab b a (AD t b):=by
 refine ⟨by unfold AD;rw [A8,Ek],λ r hr=>?_⟩;obtain ⟨j,_,rfl⟩:=jd1.mp hr;rw [GC,ht.1]
def DZ {a b:Nat}{t:List (List Int)} (ht:Tab a b t) {i j:Nat} (hi:i < a) (hj:j < b):g (AD t b) j i=g t i j:=by
 unfold g AD;rw [Nb hj,GB (by rw [ht.1];exact hi)];rfl
def Gu {a b:Nat}{c:Int}{t:List (List Int)} (p:Pile a b c t):Pile b a c (AD t b):=by
 refine ⟨Lo p.tab,λ j i hj hi=>?_,λ j i hj hi=>?_,λ j i hj hi=>?_,λ j i hj hi=>?_⟩
 ·rw [DZ p.tab hi hj];exact p.lo i j hi hj
 ·rw [DZ p.tab hi hj];exact p.hi i j hi hj
 ·rw [DZ p.tab hi hj,DZ p.tab hi (by omega)];exact p.rt i j hi hj
 ·rw [DZ p.tab hi hj,DZ p.tab (by omega) hj];exact p.dn i j hi hj
def Ki (t:List (List Int)) (b c:Nat):As t b c=EO b c λ j k=>CH (Ci t j) k:=rfl
def Pile.nrc {a b:Nat}{c:Int}{t:List (List Int)} (p:Pile a b c t) {j:Nat} (hj:j < b):Nr (Ci t j):=λ k hk=>by
 rw [GC,p.tab.1] at hk;rw [GB (by rw [p.tab.1];exact hk),GB (by rw [p.tab.1];omega)];exact p.dn k j hk hj
def ON {a b c:Nat}{t:List (List Int)} (p:Pile a b c t) {i j k:Nat} (hi:i < a) (hj:j < b) (hk:k < c):(i:Int) < g (As t b c) j k↔(k:Int) < g t i j:=by
 rw [Ki,Ew hj hk,<- GB (t:=t) (by rw [p.tab.1];exact hi)];exact OF (p.nrc hj) (by rw [GC,p.tab.1];exact hi)
def DP {a b c:Nat}{t:List (List Int)} (p:Pile a b c t):Pile b c a (As t b c):=by
 have e:=Gu p;have s:=yX e;have q:As t b c=AD (Dk (AD t b) c) b:=by
  refine IZ (by rw [Ki];exact Le) (Lo s.tab) λ j k hj hk=>?_;rw [Ki,Ew hj hk,DZ s.tab hk hj,Gy e.tab hk hj];unfold AD;rw [Nb hj]
 rw [q];exact Gu s
theorem Yt {j k:Int}:∀ {xs ys:List Int},xs.length=ys.length->(∀ i,i < xs.length->(j < xs.getD i 0↔k < ys.getD i 0))->CH xs j=CH ys k
 | [],[],_,_=>rfl
 | [],y::ys,h,_=>by simp at h
 | x::xs,[],h,_=>by simp at h
 | x::xs,y::ys,h,e=>by
  rw [Jh,Jh,Yt (by simpa using h) λ i hi=>e (i + 1) (by rw [Bh];omega)]
  have:=e 0 (by simp)
  have e1:(x::xs).getD 0 0=x:=rfl;have e2:(y::ys).getD 0 0=y:=rfl;rw [e1,e2] at this;by_cases hx:j < x
  ·rw [if_pos hx,if_pos (this.mp hx)]
  ·rw [if_neg hx,if_neg (λ z=>hx (this.mpr z))]
def jN {a b c:Nat}{t:List (List Int)} (p:Pile a b c t):As (As t b c) c a=Dk t c:=by
 have r:=DP p;refine IZ (by rw [Ki];exact Le) (KW p.tab) λ k i hk hi=>?_;rw [Ki (As t b c),Ew hk hi,Gy p.tab hk hi];refine Yt (by rw [GC,r.tab.1,p.tab.row hi]) λ j hj=>?_;rw [GC,r.tab.1] at hj;rw [GB (by rw [r.tab.1];exact hj),ON p hi hj hk];exact Iff.rfl
def Xa {α:Type}{xs:List α}{d:α}{i:Nat} (h:i < xs.length):xs.reverse.getD i d=xs.getD (xs.length - 1 - i) d:=by
 rw [AM,T4 h,AM]
def MM {a b:Nat}{c:Int}{t:List (List Int)} (ht:Tab a b t):Tab a b (BP t c):=by
 refine ⟨by unfold BP;rw [A8,GU,ht.1],λ r hr=>?_⟩;obtain ⟨q,hq,rfl⟩:=jd1.mp hr;rw [A8,GU,ht.2 q (js2.mp hq)]
def vp {f:Int->Int}{xs:List Int}{j:Nat} (h:j < xs.length):(xs.map f).getD j 0=f (xs.getD j 0):=by
 rw [AM,C5,DD h];rfl
def ya {f:List Int->List Int}{t:List (List Int)}{j:Nat} (h:j < t.length):(t.map f).getD j []=f (t.getD j []):=by
 rw [AM,C5,IW h];rfl
def Es {a b:Nat}{c:Int}{t:List (List Int)} (ht:Tab a b t) {i j:Nat} (hi:i < a) (hj:j < b):g (BP t c) i j=c - g t (a - 1 - i) (b - 1 - j):=by
 unfold g BP;have hi2:a - 1 - i < a:=by omega
 rw [ya (by rw [GU,ht.1];exact hi),Xa (by rw [ht.1];exact hi),ht.1,vp (by rw [GU,ht.row hi2];exact hj),Xa (by rw [ht.row hi2];exact hj),ht.row hi2]
def Ij {a b:Nat}{c:Int}{t:List (List Int)} (p:Pile a b c t):Pile a b c (BP t c):=by
 refine ⟨MM p.tab,λ i j hi hj=>?_,λ i j hi hj=>?_,λ i j hi hj=>?_,λ i j hi hj=>?_⟩
 ·rw [Es p.tab hi hj];have:=p.hi (a - 1 - i) (b - 1 - j) (by omega) (by omega);(clear hj hi;omega)
 ·rw [Es p.tab hi hj];have:=p.lo (a - 1 - i) (b - 1 - j) (by omega) (by omega);(clear hj hi;omega)
 ·rw [Es p.tab hi hj,Es p.tab (by omega) hj]
  have:=p.dn (a - 1 - (i + 1)) (b - 1 - j) (by omega) (by omega)
  rw [show a - 1 - (i + 1) + 1=a - 1 - i by (clear this hj;omega)] at this
  (clear hj hi;omega)
 ·rw [Es p.tab hi hj,Es p.tab hi (by omega)]
  have:=p.rt (a - 1 - i) (b - 1 - (j + 1)) (by omega) (by omega)
  rw [show b - 1 - (j + 1) + 1=b - 1 - j by (clear this hi;omega)] at this
  (clear hj hi;omega)
theorem PX {α:Type}{k:Nat}{asg:PV->Ae->Option Ae}{test:Fb}{elt:Fx}{enc q:α->PV}{E:α->Ae}{e:α->Nat}{p:α->Bool}:∀ (xs:List α) (ρ:Ae) (acc:List (PV×Nat)),(∀ x∈xs,asg (enc x) (ρ++AL k none)=some (ρ++E x)) ->
  (∀ x∈xs,test (ρ++E x)=.ok (p x,ρ++E x))->(∀ x∈xs,p x=true->elt (ρ++E x)=.ok (q x,e x,ρ++E x))->acc.length + xs.length<=Aw->Cj k asg test elt (xs.map enc) ρ acc=.ok (acc++(xs.filter p).map (λ x=>(q x,e x)),ρ)
 | [],ρ,acc,_,_,_,_=>by simp [Cj]
 | x::xs,ρ,acc,ha,ht,he,hl=>by
  have ih:=λ acc h=>PX (k:=k) (asg:=asg) (test:=test) (elt:=elt) (p:=p) (q:=q) (e:=e) (enc:=enc) (E:=E) xs ρ acc (λ y hy=>ha y (AI _ hy)) (λ y hy=>ht y (AI _ hy)) (λ y hy=>he y (AI _ hy)) h;have tk:(ρ++E x).take ρ.length=ρ:=by simp
  rw [Bh] at hl;rw [BF];unfold Cj;rw [ha x AH];dsimp only;rw [ht x AH];dsimp only [Rz.bindN];cases hp:p x with
  | false=>rw [if_neg Cy,tk,ih acc (by omega),T7 (by simp [hp])]
  | true=>
   rw [if_pos rfl,he x AH hp];dsimp only;rw [if_pos (by omega),tk,ih _ (by rw [BI,EA];omega),T6 hp];simp
def U2 {α:Type}{q:α->PV}{xs:List α}{ρ:Ae}:CP ([]++xs.map λ x=>(q x,om)) ρ=.ok (.lst (xs.map q),om,ρ):=by
 rw [EU];unfold CP;rw [IU,CB];rfl
def qA {α:Type}{k:Nat}{v:Vw}{fa:Fa}{asg:PV->Ae->Option Ae}{elt:Fx}{enc q:α->PV}{E:α->Ae}{ρ ρ1:Ae}{as:List (PV×Nat)} (xs:List α) (hf:fa ρ=.ok (as,ρ1)) (hv:FE v (as.map (·.1))=some (xs.map enc)) (ha:∀ x∈xs,asg (enc x) (ρ1++AL k none)=some (ρ1++E x))
  (he:∀ x∈xs,elt (ρ1++E x)=.ok (q x,om,ρ1++E x)) (hl:xs.length<=Aw):Dm v fa k asg Be elt ρ=.ok (.lst (xs.map q),om,ρ1):=by
 unfold Dm;rw [hf];dsimp only;rw [hv];dsimp only;rw [PX (p:=λ _=>true) (q:=q) (e:=λ _=>om) xs ρ1 [] ha (λ _ _=>rfl) (λ x hx _=>he x hx) (by simpa using hl),jf0.mpr (λ _ _=>rfl)];exact U2
def q9 {α:Type}{k:Nat}{f:Fx}{asg:PV->Ae->Option Ae}{test:Fb}{elt:Fx}{enc q:α->PV}{E:α->Ae}{p:α->Bool}{ρ ρ1:Ae}{d:Nat} (xs:List α) (hf:f ρ=.ok (.lst (xs.map enc),d,ρ1)) (ha:∀ x∈xs,asg (enc x) (ρ1++AL k none)=some (ρ1++E x))
  (ht:∀ x∈xs,test (ρ1++E x)=.ok (p x,ρ1++E x)) (he:∀ x∈xs,p x=true->elt (ρ1++E x)=.ok (q x,om,ρ1++E x)) (hl:xs.length<=Aw):Cu f k asg test elt ρ=.ok (.lst ((xs.filter p).map q),om,ρ1):=by
 unfold Cu;rw [hf];dsimp only;rw [PX (p:=p) (q:=q) (e:=λ _=>om) xs ρ1 [] ha ht he (by simpa using hl)];exact U2
def y0 {α:Type} (xs:List α):xs.filter (λ _=>true)=xs:=jf0.mpr λ _ _=>rfl
theorem JW {α:Type}{asg:PV->Ae->Option Ae}{body:Fs}{enc:α->PV} (P:List α->Ae->Prop):∀ (xs pre:List α) (ρ:Ae),P pre ρ->(∀ p x s ρ,pre++xs=p++x::s->P p ρ->∃ ρ1 ρ2,asg (enc x) ρ=some ρ1/\body ρ1=.nx ρ2/\P (p++[x]) ρ2) ->
  ∃ ρ',BO asg body (xs.map enc) ρ=.nx ρ'/\P (pre++xs) ρ'
 | [],pre,ρ,h,_=>⟨ρ,rfl,by simpa using h⟩
 | x::xs,pre,ρ,h,hb=>by
  obtain ⟨ρ1,ρ2,e1,e2,h2⟩:=hb pre x xs ρ rfl h;obtain ⟨ρ',e',h'⟩:=JW P xs (pre++[x]) ρ2 h2 λ p y s ρ e=>hb p y s ρ (by rw [<- e];simp);refine ⟨ρ',?_,by simpa using h'⟩;rw [BF];unfold BO;rw [e1];dsimp only;rw [e2];exact e'
def j9 {v:Vw}{fa:Fa}{vs:List Nat}{asg:PV->Ae->Option Ae}{body:Fs}{ρ ρ1 ρ2:Ae}{r:Rs}{xs:List (PV×Nat)}{els:List PV} (hf:fa ρ=.ok (xs,ρ1)) (he:FE v (xs.map (·.1))=some els) (ec:Bj (if D6 xs=true then om else 0) vs ρ1=ρ2) (h:BO asg body els ρ2=r):GI v fa vs asg body ρ=r:=by
 unfold GI;rw [hf];dsimp only;rw [he];dsimp only;rw [ec,h]
def WL {f:Fx}{vs:List Nat}{asg:PV->Ae->Option Ae}{body:Fs}{ρ ρ1 ρ2:Ae}{r:Rs}{els:List PV}{d:Nat} (hf:f ρ=.ok (.lst els,d,ρ1)) (ec:Bj d vs ρ1=ρ2) (h:BO asg body els ρ2=r):FH f vs asg body ρ=r:=by
 unfold FH;rw [hf];dsimp only;rw [ec,h]
def je {en:List (PV×Nat)->Option (Int×Int)}{fa:Fa}{asg:PV->Ae->Option Ae}{body:Fs}{ρ ρ1:Ae}{r:Rs}{as:List (PV×Nat)}{n:Nat} (hf:fa ρ=.ok (as,ρ1)) (hen:en as=some (0,(n:Int))) (h:BO asg body ((A6 n).map λ (k:Nat)=>.int (k:Int)) ρ1=r):Dq en fa asg body ρ=r:=by
 unfold Dq;rw [hf];dsimp only;rw [hen];dsimp only;rw [ML,show ((n:Int) - 0).toNat=n by omega,<- h];congr 2;funext k;rw [ET]
theorem Yn {α β:Type} (f:α->PV) (h:β->PV):∀ (xs:List α) (ys:List β),BY (xs.map f) (ys.map h)=(xs.zip ys).map λ z=>.tup [f z.1,h z.2]
 | [],_=>by simp [BY]
 | _::_,[]=>by simp [BY]
 | x::xs,y::ys=>by
  rw [BF,BF,BY,Yn f h xs ys];rfl
def zC {x y z:PV} (h1:f_must_be_pile [x,y]=.ok (.non,om,.non)) (h2:f_must_be_pile [x,z]=.ok (.non,om,.non)):f_must_be_two_piles [x,y,z]=.ok (.non,om,.non):=
 O6 rfl ((AR (Iq (AS (xs:=[(x,dv x),(y,dv y)]) rfl h1))).trans (Iq (AS (xs:=[(x,dv x),(z,dv z)]) rfl h2)))
def zT (h:Int->Int->Int) (t u:List (List Int)):List (List Int):=(t.zip u).map λ z=>Tf h z.1 z.2
def Ex (a b:Nat):List (Nat×Nat):=(A6 a).flatMap λ i=>(A6 b).map λ j=>(i,j)
def pr (z:Nat×Nat):PV:=.tup [.int (z.1:Int),.int (z.2:Int)]
def zwf {a b:Nat}{z:Nat×Nat}:z∈Ex a b↔z.1 < a/\z.2 < b:=by
 unfold Ex;simp only [KH,jd1,jc5];constructor
 ·rintro ⟨i,hi,j,hj,rfl⟩;exact ⟨hi,hj⟩
 ·intro h;exact ⟨z.1,h.1,z.2,h.2,rfl⟩
theorem X1 {α:Type}{q:Nat->List α}{b:Nat} (h:∀ i,(q i).length=b):∀ a,((A6 a).flatMap q).length=a * b
 | 0=>by simp
 | a + 1=>by rw [Fv,Pm,BI,X1 h a,Th];simp [h]
def Uk (a b:Nat):(Ex a b).length=a * b:=X1 (λ i=>by rw [A8,Ek]) a
def xN {R:Ae}{fn:Fx}{b i:Nat}{n:Nat} (hb:b<=100) (hn:R.length=n) (hf:fn R=.ok (.int (b:Int),om,R)) (he:∀ k,k < b->An BK (Af (Aa 2) (Af (Aa n) (Ac))) (R++[some (.int (k:Int),om)])=.ok (pr (i,k),om,R++[some (.int (k:Int),om)])):
  CL Bn (Af fn (Ac)) 1 (asgN n) Be (An BK (Af (Aa 2) (Af (Aa n) (Ac)))) R=.ok (.lst (((A6 b).map λ j=>(i,j)).map pr),om,R):=by
 have z:=sz;have w:=JR (n:=n) (en:=Bn) (fa:=Af fn Ac) (elt:=An BK (Af (Aa 2) (Af (Aa n) (Ac)))) (ρ:=R) (ρ1:=R) (as:=[(.int (b:Int),om)]) (lo:=0) (hi:=(b:Int)) (q:=λ m=>pr (i,m)) (AJ hf) (Ez (by omega) (by omega)) hn (λ m hm=>by rw [ET];exact he m (by omega)) (by omega);rw [w,show ((b:Int) - 0).toNat=b by omega,CB];rfl
def ZK (a b:Nat):Ex (a + 1) b=Ex a b++(A6 b).map λ j=>(a,j):=by
 unfold Ex;rw [Fv,Pm];simp
def yg {a b c:Nat} (ha:a<=100) (hb:b<=100):∃ d,d≠0/\f_places_of [bx a b c]=.ok (.lst ((Ex a b).map pr),d,.non):=by
 have z:=sz;let R (s1 s2:QQ.Slot):Ae:=[some (bx a b c,0),s1,s2]
 have s1:Aj false 1 (An Bm (Ac)) [] (R none none)=.nx (R (some (.lst [],om)) none):=by kernel_rfl
 obtain ⟨ρ',e',d,s2,hd,rfl⟩:=Ja (i:=2) (en:=Bn) (fa:=Af pc1 Ac) (body:=Dz 1 (CL Bn (Af pa4 (Ac)) 1 (asgN 3) Be (An BK pb5)) [2]) (ρ:=R (some (.lst [],om)) none) (lo:=0) (hi:=(a:Int)) (as:=[(.int (a:Int),om)])
  (λ k ρ=>∃ d s2,d≠0/\ρ=R (some (.lst ((Ex k b).map pr),d)) s2) rfl (Ez (by omega) (by omega)) ⟨om,none,by decide,rfl⟩ (by
   rintro i _ hi ⟨d,s2,hd,rfl⟩;obtain ⟨d0,rfl⟩:∃ d0,d=d0 + 1:=⟨d - 1,by omega⟩
   rw [ET];refine ⟨(show 2 < 3 by decide),_,VR (i:=1) (d0:=d0) (d:=d0 + 1) rfl (xN (R:=R (some (.lst ((Ex i b).map pr),d0 + 1)) (some (.int (i:Int),om))) (i:=i) hb rfl rfl λ k _=>rfl) rfl hd ?_ rfl,1,some (.int (i:Int),om),by decide,?_⟩
   ·rw [A8,A8,A8,Ek,Uk]
    have:i * b<=100 * 100:=Mq (by omega) hb
    omega
   ·show R (some (PV.lst ((Ex i b).map pr++((A6 b).map λ j=>(i,j)).map pr),1)) _=R (some (PV.lst ((Ex (i + 1) b).map pr),1)) _;rw [ZK,DL])
 rw [show ((a:Int) - 0).toNat=a by omega] at e';exact ⟨d,hd,Ct rfl ((AR s1).trans ((AR e').trans rfl))⟩
def K8 (a b:Nat) (t u:List (List Int)):Bool:=(Ex a b).all λ z=>decide (g t z.1 z.2<=g u z.1 z.2)
def jq {a b c:Nat}{t u:List (List Int)} (ht:Tab a b t) (hu:Tab a b u) (ha:a<=100) (hb:b<=100) (h2:f_must_be_two_piles [bx a b c,tb t,tb u]=.ok (.non,om,.non)):f_lies_below [bx a b c,tb t,tb u]=.ok (.bl (K8 a b t u),om,.non):=by
 have z:=sz;let R:Ae:=[some (bx a b c,0),some (tb t,0),some (tb u,0)]
 have s1:D7 (A9 f_must_be_two_piles (Af (Aa 0) pb2)) R=.nx R:=Iq (AS (xs:=[(bx a b c,0),(tb t,0),(tb u,0)]) rfl h2);obtain ⟨d,_,hp⟩:=yg (c:=c) ha hb;have e1:=q9 (k:=2) (f:=A9 f_places_of (Af (Aa 0) (Ac))) (asg:=asgT [3,4]) (test:=Be) (elt:=Ab (Dg λ i j=>decide (i<=j)) pf4 pf5) (enc:=pr) (q:=λ z=>.bl (decide (g t z.1 z.2<=g u z.1 z.2))) (E:=λ z=>[some (.int (z.1:Int),om),some (.int (z.2:Int),om)]) (p:=λ _=>true) (ρ:=R) (Ex a b) (AS (xs:=[(bx a b c,0)]) rfl hp) (λ _ _=>rfl) (λ _ _=>rfl)
  (λ z hz _=>Iv (WN (i:=z.1) (j:=z.2) ht (d:=0) rfl rfl rfl (zwf.mp hz).1 (zwf.mp hz).2) (WN (i:=z.1) (j:=z.2) hu (d:=0) rfl rfl rfl (zwf.mp hz).1 (zwf.mp hz).2)) (by rw [Uk];have:a * b<=100 * 100:=Mq ha hb;omega)
 rw [y0] at e1;exact Ct rfl ((AR s1).trans (Dn (all_ok e1)))
abbrev _root_.pd8:=Ab Bo (Aa 6) (bC (.int 1))
abbrev _root_.pe8:=An BK (Af (Aa 7) (Ac))
abbrev _root_.pc9:=CL Bn (Af pd8 (Ac)) 1 (asgN 7) Be (Ab Bo (Aa 5) pe8)
abbrev _root_.pc2:=Ab (Dg λ i j=>decide (j < i)) (Aa 3) (bC (.int 0))
abbrev _root_.pa1:=Ah (Aj false 6 (Cd (bT pc2) pb4 (Aa 1)) [5,1]) (Dz 4 pc9 [5])
abbrev _root_.pe5:=Aj false 4 (An Bm (Ac)) []
def Xf_rows_of_heights:Fs:=(Ah (Aj false 2 (An Bm (Af (An BK (Ac)) (Ac))) [])
 (Ah (Dq Bn (Af (Aa 0) (Ac)) (asgN 3) (Ah pe5
 (Ah (FH (Aa 2) [2] (asgN 5) pa1)
 (Aj false 2 (Aa 4) [4]))))
 (D8 2)))
def f_rows_of_heights:Fn:=Au false 2 5 Xf_rows_of_heights
abbrev _root_.pd7:=An Bm (Af (bC (.int 0)) (Ac))
def Xf_added:Fs:=(Ah (Aj false 2 (Ab Bo (An Ke (Af (Aa 0) (Ac))) (Ab BX pd7 (Ab Df pb3 pa8))) [0,1,0])
 (Ah (GI .enm (Af (Aa 1) (Ac)) [1] (asgT [3,4]) (J4 (λ i j=>i + j) 2 (Aa 3) (Aa 4)))
 (D8 2)))
def f_added:Fn:=Au false 2 3 Xf_added
abbrev _root_.pe3:=Af (Ab Df (Ab Ay (Aa 4) (Aa 3)) (bC (.int 1))) (Ac)
abbrev _root_.pb7:=Ab Bo (Ab Bo (Dc (Aa 4) none (some (Aa 3))) (An BK pe3)) (Dc (Aa 4) (some (Ab Bo (Aa 3) (bC (.int 1)))) none)
abbrev _root_.pd9:=A9 f_added (Af (Ab Ay (Aa 2) (Aa 4)) (Af (Ab Ay (Aa 2) (Aa 5)) (Ac)))
abbrev _root_.pa3:=Ah (Aj false 5 pb7 [4,4,3,4]) (Bw (bT (Ab (CD false) (Aa 5) (Aa 2))) (E1 2 (Aa 4) pd9) A5)
def Xf_sums_of_lower_rows:Fs:=(Ah (Aj false 2 (An Lr (Af (Aa 0) (Ac))) [0])
 (Ah (Dq Bn (Af (Aa 1) (Ac)) (asgN 3) (Iu (Aa 0) [0] (asgN 4) pa3))
 (D8 2)))
def f_sums_of_lower_rows:Fn:=Au false 2 4 Xf_sums_of_lower_rows
def Xf_lies_between:Fs:=(A3 (An EH (Af (CL Bn (Af pa8 (Ac)) 1 (asgN 3) Be (FF (λ i j=>decide (i<=j)) (λ i j=>decide (i<=j)) (Ab Ay (Aa 1) (Aa 3)) (Ab Ay (Aa 0) (Aa 3)) (Ab Ay (Aa 2) (Aa 3)))) (Ac))))
def f_lies_between:Fn:=Au false 3 0 Xf_lies_between
abbrev _root_.pa5:=Bw (bT (A9 f_lies_between (Af (Aa 5) pb2))) (E1 4 (Aa 5) (Ab Bo (Ab BX pd7 (An Hb (Af (Cu (Aa 3) 1 (asgN 6) Be (Ab Ay (Aa 5) (Aa 6))) (Ac)))) (Ab Ay (Aa 0) (Aa 5)))) (E1 4 (Aa 5) (An Bm (Ac)))
def Xf_table_of_row:Fs:=(Ah (Aj false 4 Fd [])
 (Ah (Iu (Aa 0) [0] (asgN 5) pa5)
 (D8 4)))
def f_table_of_row:Fn:=Au false 4 2 Xf_table_of_row
abbrev _root_.pc0:=Ab (Br false) (Ab Ay (Aa 12) (bC (.int 0))) (Aa 10)
abbrev _root_.pb9:=A9 f_table_of_row (Af (A9 f_sums_of_lower_rows (Af (Aa 7) (Af (Aa 5) (Ac)))) (Af (Ab Ay (Aa 1) (Aa 10)) (Af (Ab Ay (Aa 2) (Aa 10)) (Af (Aa 11) (Ac)))))
abbrev _root_.pe6:=Ab Ay (Aa 12) (bC (.int 1))
abbrev _root_.pa2:=Ah (Aj false 11 (Cu (Aa 3) 1 (asgN 12) (bT pc0) pe6) [3,3]) (Ah (Aj false 7 pb9 [7,5,1,10,2,10,11]) (BZ 9 (Aa 7) [7]))
abbrev _root_.pc8:=Ab (Br false) (An Hb (Af (Aa 8) (Ac))) (bC (.int 0))
abbrev _root_.pb1:=Cd (bT pc8) (An Bm (Af (bC (.int 1)) (Ac))) (An Bm (Ac))
abbrev _root_.pd3:=Af (Ab Df (Aa 4) (bC (.int 1))) (Af (AN Il (bC (.int 1))) (Af (AN Il (bC (.int 1))) (Ac)))
abbrev _root_.pe0:=Af (Aa 5) (Af (Aa 6) (Ac))
def Xf_tables_between:Fs:=(Ah (Cn (asgT [4,5,6]) (Aa 0) [0])
 (Ah (Aj false 7 Fd [])
 (Ah (FH (A9 f_rows_of_heights pe0) [5,6] (asgN 8) (E1 7 (Aa 8) pb1))
 (Ah (Aj false 9 (An Bm (Ac)) [])
 (Ah (Jg pd3 (asgN 10) pa2)
 (A3 (AN RK (Aa 9))))))))
def f_tables_between:Fn:=Au false 4 8 Xf_tables_between
def Xf_tally_between:Fs:=(Ah pe5
 (Ah (K7 (Ab Ay (A9 f_tables_between (Af (Aa 0) (Af (Aa 1) pb5))) (bC (.int 0))) [0,1,2,3] (asgN 5) (Aj false 4 (A9 f_added pb6) [4,5]))
 (D8 4)))
def f_tally_between:Fn:=Au false 4 2 Xf_tally_between
def Dp (a b:Int):List Int:=(A6 (b - a).toNat).map λ k=>a + (k:Nat)
def JT {a b:Int} (h:b<=a):Dp a b=[]:=by
 unfold Dp;rw [show (b - a).toNat=0 by omega];rfl
def MK {a b:Int} (h:a < b):Dp a b=a::Dp (a + 1) b:=by
 unfold Dp;rw [show (b - a).toNat=(b - (a + 1)).toNat + 1 by omega,List.range_succ_eq_map];simp only [BF,CB,Int.natCast_zero,Int.add_zero];congr 1;apply JC;intro k _;show a + ((k + 1:Nat):Int)=a + 1 + (k:Int);omega
def qc0 {a b x:Int}:x∈Dp a b↔a<=x/\x < b:=by
 unfold Dp;simp only [jd1,jc5];constructor
 ·rintro ⟨k,hk,rfl⟩;omega
 ·rintro ⟨h1,h2⟩;exact ⟨(x - a).toNat,by omega,by omega⟩
def EW (lo hi x:Int):Bool:=decide (lo<=x) && decide (x<=hi)
theorem y9 (lo hi:Int):∀ (n:Nat) (a b:Int),(b - a).toNat=n->lo<=a->(Dp a b).filter (EW lo hi)=Dp a (min (b - 1) hi + 1):=by
 intro n;induction n with
 | zero=>
  intro a b h ha;rw [JT (a:=a) (by omega),JT (by omega)];rfl
 | succ n ih=>
  intro a b h ha;rw [MK (by omega),E9];by_cases h2:a<=hi
  ·rw [if_pos (by unfold EW;simp [h2,ha]),MK (a:=a) (b:=min (b - 1) hi + 1) (by omega),ih (a + 1) b (by omega) (by omega)]
  ·rw [if_neg (by unfold EW;simp;omega),JT (a:=a) (b:=min (b - 1) hi + 1) (by omega),ih (a + 1) b (by omega) (by omega),JT (by omega)]
theorem yP (lo hi:Int):∀ (n:Nat) (a b:Int),(b - a).toNat=n->a<=lo->(Dp a b).filter (EW lo hi)=Dp lo (min (b - 1) hi + 1):=by
 intro n;induction n with
 | zero=>
  intro a b h ha;rw [JT (a:=a) (by omega),JT (by omega)];rfl
 | succ n ih=>
  intro a b h ha;by_cases e:a=lo
  ·subst e;exact y9 a hi _ a b rfl (D1 _)
  ·rw [MK (by omega),E9,if_neg (by unfold EW;simp;omega)];exact ih (a + 1) b (by omega) (by omega)
def Bf (hi ah:Int) (row:List Int):Int:=match row.getLast? with
 | none=>min hi ah
 | some m=>min (min hi ah) m
def Bz (lo hi ah:Nat->Int):Nat->List (List Int)
 | 0=>[[]]
 | n + 1=>(Bz lo hi ah n).flatMap λ row=>(Dp (lo n) (Bf (hi n) (ah n) row + 1)).map λ x=>row++[x]
def DX (lo hi:Nat->Int) (n:Nat) (r:List Int):Bool:=(A6 n).all λ i=>EW (lo i) (hi i) (r.getD i 0)
theorem MD (lo hi ah:Nat->Int):∀ (n:Nat) (r:List Int),r∈Bz lo hi ah n->r.length=n
 | 0,r,h=>by simp [Bz] at h;simp [h]
 | n + 1,r,h=>by
  rw [Bz,KH] at h;obtain ⟨q,h1,h2⟩:=h;obtain ⟨x,_,rfl⟩:=jd1.mp h2;simp [MD lo hi ah n q h1]
def yE (lo hi:Nat->Int) (r:List Int) (x:Int):DX lo hi (r.length + 1) (r++[x])=(DX lo hi r.length r && EW (lo r.length) (hi r.length) x):=by
 unfold DX;rw [Fv,YL];have e1:((A6 r.length).all λ i=>EW (lo i) (hi i) ((r++[x]).getD i 0))=(A6 r.length).all λ i=>EW (lo i) (hi i) (r.getD i 0):=by
  rw [E8,jb8,jb8];constructor
  ·intro h i hi'
   have:=h i hi'
   have hl:=jc5.mp hi';rwa [AM,C7 hl,<- AM] at this
  ·intro h i hi';have hl:=jc5.mp hi';rw [AM,C7 hl,<- AM];exact h i hi'
 rw [e1];simp [AM]
theorem PY {α β:Type} (p:α->Bool) (f g:α->List β):∀ (l:List α),(∀ a∈l,f a=if p a=true then g a else [])->l.flatMap f=(l.filter p).flatMap g
 | [],_=>rfl
 | a::l,h=>by
  rw [IL,PY p f g l λ b hb=>h b (AI _ hb),h a AH,E9];split
  ·rw [IL]
  ·rfl
theorem vY {hi hi' ah:Int} (h:hi<=hi') (row:List Int):min (Bf hi' ah row) hi=Bf hi ah row:=by
 unfold Bf;cases row.getLast? with
 | none=>simp only;omega
 | some m=>simp only;omega
theorem Qa {lo hi lo' hi' ah:Nat->Int} (hl:∀ i,lo' i<=lo i) (hh:∀ i,hi i<=hi' i):∀ (n:Nat),(Bz lo' hi' ah n).filter (DX lo hi n)=Bz lo hi ah n
 | 0=>rfl
 | n + 1=>by
  rw [Bz,Bz,<- Qa hl hh n,Zi];refine PY _ _ _ _ λ a ha=>?_;have la:=MD _ _ _ n a ha;subst la;rw [Pd];have e:(DX lo hi (a.length + 1) ∘ λ x=>a++[x])=λ x=>DX lo hi a.length a && EW (lo a.length) (hi a.length) x:=by
   funext x;exact yE lo hi a x
  rw [e];cases DX lo hi a.length a with
  | false=>simp
  | true=>
   simp only [YH,if_true]
   have:=yP (lo a.length) (hi a.length) _ (lo' a.length) (Bf (hi' a.length) (ah a.length) a + 1) rfl (hl _)
   rw [show (λ x=>EW (lo a.length) (hi a.length) x)=EW (lo a.length) (hi a.length) from rfl,this,Int.add_sub_cancel,vY (hh _)]
def EE (c:Int) (pile:List (List Int)):Nat->Int:=match pile.getLast? with
 | none=>λ _=>c
 | some r=>λ j=>r.getD j 0
def Ce (lo hi:Nat->Nat->Int) (c:Int) (b:Nat):Nat->List (List (List Int))
 | 0=>[[]]
 | n + 1=>(Ce lo hi c b n).flatMap λ pile=>(Bz (lo n) (hi n) (EE c pile) b).map λ r=>pile++[r]
def Jf (lo hi:Nat->Nat->Int) (b n:Nat) (p:List (List Int)):Bool:=(A6 n).all λ i=>DX (lo i) (hi i) b (p.getD i [])
theorem Ut (lo hi:Nat->Nat->Int) (c:Int) (b:Nat):∀ (n:Nat) (p:List (List Int)),p∈Ce lo hi c b n->p.length=n
 | 0,r,h=>by simp [Ce] at h;simp [h]
 | n + 1,r,h=>by
  rw [Ce,KH] at h;obtain ⟨q,h1,h2⟩:=h;obtain ⟨x,_,rfl⟩:=jd1.mp h2;simp [Ut lo hi c b n q h1]
def yU (lo hi:Nat->Nat->Int) (b:Nat) (p:List (List Int)) (r:List Int):Jf lo hi b (p.length + 1) (p++[r])=(Jf lo hi b p.length p && DX (lo p.length) (hi p.length) b r):=by
 unfold Jf;rw [Fv,YL];have e1:((A6 p.length).all λ i=>DX (lo i) (hi i) b ((p++[r]).getD i []))=(A6 p.length).all λ i=>DX (lo i) (hi i) b (p.getD i []):=by
  rw [E8,jb8,jb8];constructor
  ·intro h i hi'
   have:=h i hi'
   have hl:=jc5.mp hi';rwa [AM,C7 hl,<- AM] at this
  ·intro h i hi';have hl:=jc5.mp hi';rw [AM,C7 hl,<- AM];exact h i hi'
 rw [e1];simp [AM]
theorem U0 {lo hi lo' hi':Nat->Nat->Int}{c:Int}{b:Nat} (hl:∀ i j,lo' i j<=lo i j) (hh:∀ i j,hi i j<=hi' i j):∀ (n:Nat),(Ce lo' hi' c b n).filter (Jf lo hi b n)=Ce lo hi c b n
 | 0=>rfl
 | n + 1=>by
  rw [Ce,Ce,<- U0 hl hh n,Zi];refine PY _ _ _ _ λ a ha=>?_;have la:=Ut _ _ _ _ n a ha;subst la;rw [Pd];have e:(Jf lo hi b (a.length + 1) ∘ λ x=>a++[x])=λ x=>Jf lo hi b a.length a && DX (lo a.length) (hi a.length) b x:=by
   funext x;exact yU lo hi b a x
  rw [e];cases Jf lo hi b a.length a with
  | false=>simp
  | true=>
   simp only [YH,if_true];rw [show (λ x=>DX (lo a.length) (hi a.length) b x)=DX (lo a.length) (hi a.length) b from rfl,Qa (hl _) (hh _)]
def FX (f:Nat->Int) (n:Nat):List Int:=(A6 n).map f
def XY (f:Nat->Int) (n:Nat):FX f (n + 1)=FX f n++[f n]:=by unfold FX;rw [Fv,DL];rfl
theorem vZ {hi ah x:Int}{f:Nat->Int}{n:Nat} (h1:x<=hi) (h2:x<=ah) (h3:∀ m,m + 1=n->x<=f m):x<=Bf hi ah (FX f n):=by
 unfold Bf;cases n with
 | zero=>simp only [FX,List.range_zero,IH,Tu];omega
 | succ m=>
  rw [XY,Zp];simp only [Zu,YJ]
  have:=h3 m rfl
  omega
theorem Um {lo hi ah:Nat->Int}:∀ (n:Nat),(∀ i,i < n->lo i<=hi i)->(∀ i,i < n->lo i<=ah i)->(∀ i,i + 1 < n->lo (i + 1)<=lo i)->∃ t,Bz lo hi ah n=FX lo n::t
 | 0,_,_,_=>⟨[],rfl⟩
 | n + 1,h1,h2,h3=>by
  obtain ⟨t,e⟩:=Um n (λ i hi=>h1 i (by omega)) (λ i hi=>h2 i (by omega)) (λ i hi=>h3 i (by omega));have hx:lo n<=Bf (hi n) (ah n) (FX lo n):=vZ (h1 n (by omega)) (h2 n (by omega)) λ m hm=>by subst hm;exact h3 m (by omega)
  rw [Bz,e,IL,MK (by omega),BF,Fw,<- XY];exact ⟨_,rfl⟩
def PJ {r:List Int}{n:Nat} (h:r.length=n + 1):r.getLast?=some (r.getD n 0):=by
 rw [Zx,h,Tw,AM,BW (by omega)];rfl
def LZ {r:List Int}{x:Int}{n j:Nat} (h:r.length=n):(r++[x]).getD j 0=if j=n then x else r.getD j 0:=by
 rw [AM,AM,Zn];by_cases hj:j < n
 ·rw [if_pos (by omega),if_neg (by omega)]
 ·rw [if_neg (by omega)];by_cases e:j=n
  ·rw [if_pos e,e,h,OV];rfl
  ·rw [if_neg e,FA (by simp;omega),FA (by omega)]
theorem PN {lo hi ah:Nat->Int}:∀ {n:Nat}{r:List Int},r∈Bz lo hi ah n->r.length=n/\(∀ j,j < n->lo j<=r.getD j 0/\r.getD j 0<=hi j/\r.getD j 0<=ah j)/\∀ j,j + 1 < n->r.getD (j + 1) 0<=r.getD j 0
 | 0,r,h=>by
  have e:r=[]:=by simpa [Bz] using h
  subst e;exact ⟨rfl,λ j h=>by omega,λ j h=>by omega⟩
 | n + 1,r,h=>by
  rw [Bz,KH] at h;obtain ⟨q,h1,h2⟩:=h;obtain ⟨x,hx,rfl⟩:=jd1.mp h2;obtain ⟨l,b,m⟩:=PN h1;obtain ⟨x1,x2⟩:=qc0.mp hx;have t1:Bf (hi n) (ah n) q<=hi n/\Bf (hi n) (ah n) q<=ah n/\(0 < n->Bf (hi n) (ah n) q<=q.getD (n - 1) 0):=by
   unfold Bf;cases n with
   | zero=>
    have e:q=[]:=je9.mp l;subst e;exact ⟨by show min _ _<=_;(clear x2 l x1;omega),by show min _ _<=_;(clear x2 l x1;omega),λ h=>by (clear x2 l x1;omega)⟩
   | succ n=>
    rw [PJ l];exact ⟨by show min (min _ _) _<=_;(clear x2 x1 l;omega),by show min (min _ _) _<=_;(clear x2 x1 l;omega),λ _=>by show min (min _ _) _<=_;rw [Tw];(clear x2 x1 l;omega)⟩
  refine ⟨by rw [BI,l];rfl,λ j hj=>?_,λ j hj=>?_⟩
  ·rw [LZ l];by_cases e:j=n
   ·subst e;rw [if_pos rfl];(clear hj l;omega)
   ·rw [if_neg e];exact b j (by (clear t1 x2 x1 l;omega))
  ·rw [LZ l,LZ l,if_neg (show ¬ j=n by (clear t1 x2 x1 l;omega))];by_cases e:j + 1=n
   ·rw [if_pos e]
    have:=t1.2.2 (by (clear e t1 x2 x1 l;omega))
    rw [show n - 1=j by (clear this hj t1 x2 x1 l;omega)] at this
    (clear e hj t1 x1 l;omega)
   ·rw [if_neg e];exact m j (by (clear t1 x2 x1 l;omega))
def RH {p:List (List Int)}{n:Nat} (h:p.length=n + 1):p.getLast?=some (p.getD n []):=by
 rw [Zx,h,Tw,AM,BW (by omega)];rfl
def RO {p:List (List Int)}{r:List Int}{n i:Nat} (h:p.length=n):(p++[r]).getD i []=if i=n then r else p.getD i []:=by
 rw [AM,AM,Zn];by_cases hj:i < n
 ·rw [if_pos (by omega),if_neg (by omega)]
 ·rw [if_neg (by omega)];by_cases e:i=n
  ·rw [if_pos e,e,h,OV];rfl
  ·rw [if_neg e,FA (by simp;omega),FA (by omega)]
def Ma {p:List (List Int)}{r:List Int}{n i j:Nat} (h:p.length=n):g (p++[r]) i j=if i=n then r.getD j 0 else g p i j:=by
 unfold g;rw [RO h];split <;> rfl
theorem JP {lo hi:Nat->Nat->Int}{c:Int}{b:Nat}:∀ {n:Nat}{p:List (List Int)},p∈Ce lo hi c b n->Tab n b p/\(∀ i j,i < n->j < b->lo i j<=g p i j/\g p i j<=hi i j/\g p i j<=c)/\(∀ i j,i + 1 < n->j < b->g p (i + 1) j<=g p i j)/\∀ i j,i < n->j + 1 < b->g p i (j + 1)<=g p i j
 | 0,p,h=>by
  have e:p=[]:=by simpa [Ce] using h
  subst e;exact ⟨⟨rfl,λ _ z=>nomatch z⟩,λ i j h=>by omega,λ i j h=>by omega,λ i j h=>by omega⟩
 | n + 1,p,h=>by
  rw [Ce,KH] at h;obtain ⟨q,h1,h2⟩:=h;obtain ⟨r,hr,rfl⟩:=jd1.mp h2;obtain ⟨tq,b1,d1,r1⟩:=JP h1;obtain ⟨l,b2,m2⟩:=PN hr;have ah:∀ j,j < b->EE c q j<=c/\(0 < n->EE c q j<=g q (n - 1) j):=λ j hj=>by
   unfold EE;cases n with
   | zero=>
    have e:q=[]:=je9.mp tq.1;subst e;exact ⟨D1 _,λ h=>by (clear hj l;omega)⟩
   | succ n=>
    rw [RH tq.1];exact ⟨(b1 n j (by (clear hj l;omega)) hj).2.2,λ _=>D1 _⟩
  refine ⟨⟨by rw [BI,tq.1];rfl,λ s hs=>(jd4.mp hs).elim (λ z=>tq.2 s z) λ z=>by rw [jb6.mp z,l]⟩,λ i j hi' hj=>?_,λ i j hi' hj=>?_,λ i j hi' hj=>?_⟩
  ·rw [Ma tq.1];by_cases e:i=n
   ·subst e;rw [if_pos rfl];have h3:=b2 j hj;have h4:=ah j hj
    (clear hi' hj l;omega)
   ·rw [if_neg e];exact b1 i j (by (clear hj l;omega)) hj
  ·rw [Ma tq.1,Ma tq.1,if_neg (show ¬ i=n by (clear hj l;omega))];by_cases e:i + 1=n
   ·rw [if_pos e];have h3:=b2 j hj;have h4:=(ah j hj).2 (by (clear h3 e hj l;omega));rw [show n - 1=i by (clear h4 h3 hj hi' l;omega)] at h4
    (clear e hj hi' l;omega)
   ·rw [if_neg e];exact d1 i j (by (clear hj l;omega)) hj
  ·rw [Ma tq.1,Ma tq.1];by_cases e:i=n
   ·rw [if_pos e,if_pos e];exact m2 j hj
   ·rw [if_neg e,if_neg e];exact r1 i j (by (clear hj l;omega)) hj
def yV {hi:Nat->Nat->Int}{c:Int}{a b:Nat}{lo:Nat->Nat->Int}{p:List (List Int)} (h0:∀ i j,0<=lo i j) (h:p∈Ce lo hi c b a):Pile a b c p:=by
 obtain ⟨t,h1,h2,h3⟩:=JP h;exact ⟨t,λ i j hi hj=>HM (h0 i j) (h1 i j hi hj).1,λ i j hi hj=>(h1 i j hi hj).2.2,h2,h3⟩
theorem Ul {lo hi ah lo' hi' ah':Nat->Int}:∀ (n:Nat),(∀ j,j < n->lo j=lo' j/\hi j=hi' j/\ah j=ah' j)->Bz lo hi ah n=Bz lo' hi' ah' n
 | 0,_=>rfl
 | n + 1,h=>by
  rw [Bz,Bz,Ul n λ j hj=>h j (by omega)];obtain ⟨e1,e2,e3⟩:=h n (by omega);rw [e1,e2,e3]
theorem Uo {α β:Type}{f:α->List β}{m:Nat}:∀ (l:List α),(∀ a∈l,(f a).length<=m)->(l.flatMap f).length<=l.length * m
 | [],_=>by simp
 | a::l,h=>by
  rw [IL,BI,Bh,YA,Y9];have h1:=h a AH;have h2:=Uo l λ x hx=>h x (AI _ hx);omega
def vf (a b:Int):(Dp a b).length=(b - a).toNat:=by unfold Dp;rw [A8,Ek]
def k9 (hi ah:Int) (row:List Int):Bf hi ah row<=hi:=by
 unfold Bf;split <;> omega
theorem XR {lo hi ah:Nat->Int}{m:Nat}:∀ (n:Nat),(∀ j,j < n->hi j - lo j + 1<=m)->(Bz lo hi ah n).length<=m ^ n
 | 0,_=>by simp [Bz]
 | n + 1,h=>by
  rw [Bz];refine Cw (Uo (m:=m) _ λ r hr=>?_) ?_
  ·rw [A8,vf]
   have:=k9 (hi n) (ah n) r
   have:=h n (by omega)
   omega
  ·rw [OU];exact KJ m (XR n λ j hj=>h j (by omega))
def XB (a b:Nat) (f:Nat->Nat->Int):EO (a + 1) b f=EO a b f++[FX (f a) b]:=by
 unfold EO FX;rw [Fv,DL];rfl
theorem wj {c:Int}{b n j:Nat}{f:Nat->Nat->Int}{x:Int} (hj:j < b) (h0:x<=c) (h1:∀ m,m + 1=n->x<=f m j):x<=EE c (EO n b f) j:=by
 unfold EE;cases n with
 | zero=>exact h0
 | succ m=>
  rw [XB,Zp];simp only [Zu,YJ];show x<=(FX (f m) b).getD j 0;unfold FX;rw [SA hj];exact h1 m rfl
theorem PZ {lo hi:Nat->Nat->Int}{c:Int}{b:Nat}:∀ (n:Nat),(∀ i j,i < n->j < b->lo i j<=hi i j)->(∀ i j,i < n->j < b->lo i j<=c)->(∀ i j,i + 1 < n->j < b->lo (i + 1) j<=lo i j)->(∀ i j,i < n->j + 1 < b->lo i (j + 1)<=lo i j)->∃ t,Ce lo hi c b n=EO n b lo::t
 | 0,_,_,_,_=>⟨[],rfl⟩
 | n + 1,h1,h2,h3,h4=>by
  obtain ⟨t,e⟩:=PZ n (λ i j hi hj=>h1 i j (by omega) hj) (λ i j hi hj=>h2 i j (by omega) hj) (λ i j hi hj=>h3 i j (by omega) hj) (λ i j hi hj=>h4 i j (by omega) hj);obtain ⟨u,eu⟩:=Um (lo:=lo n) (hi:=hi n) (ah:=EE c (EO n b lo)) b (λ j hj=>h1 n j (by omega) hj) (λ j hj=>wj hj (h2 n j (by omega) hj) λ m hm=>by subst hm;exact h3 m j (by omega) hj) (λ j hj=>h4 n j (by omega) hj);rw [Ce,e,IL,eu,BF,Fw,<- XB];exact ⟨_,rfl⟩
def D0:List Int->List Int->Bool
 | [],[]=>false
 | [],_::_=>true
 | _::_,[]=>false
 | x::xs,y::ys=>decide (x < y) || (decide (x=y) && D0 xs ys)
theorem Na:∀ r:List Int,D0 r r=false
 | []=>rfl
 | x::r=>by simp [D0,Na r]
theorem Yh:∀ {r q:List Int},D0 r q=true->D0 q r=false
 | [],[],h=>by cases h
 | [],_::_,_=>rfl
 | _::_,[],h=>by cases h
 | x::r,y::q,h=>by
  simp only [D0,Gf,Ba,decide_eq_true_iff] at h;rcases h with h | ⟨h,h2⟩
  ·simp only [D0,Bool.or_eq_false_iff,Bool.and_eq_false_iff,decide_eq_false_iff_not];exact ⟨by omega,.inl (by omega)⟩
  ·subst h;simp [D0,Yh h2]
theorem Yj:∀ {r q:List Int} (x y:Int),r.length=q.length->D0 r q=true->D0 (r++[x]) (q++[y])=true
 | [],[],_,_,_,h=>by cases h
 | [],_::_,_,_,e,_=>by cases e
 | _::_,[],_,_,e,_=>by cases e
 | a::r,b::q,x,y,e,h=>by
  simp only [D0,Gf,Ba,decide_eq_true_iff,Fw] at h ⊢;rcases h with h | ⟨h,h2⟩
  ·exact .inl h
  ·exact .inr ⟨h,Yj x y (by simpa using e) h2⟩
theorem Yi:∀ (r:List Int) {x y:Int},x < y->D0 (r++[x]) (r++[y])=true
 | [],x,y,h=>by simp [D0,h]
 | a::r,x,y,h=>by simp [D0,Yi r h]
def jF (a:Int):∀ (n:Nat) (b:Int),(b - a).toNat=n->(Dp a b).Pairwise (·< ·):=by
 intro n b _;unfold Dp;rw [Tt];refine List.Pairwise.imp (λ {i j} h=>?_) List.pairwise_lt_range;show a + (i:Int) < a + (j:Int);omega
theorem Qx {lo hi ah:Nat->Int}:∀ (n:Nat),(Bz lo hi ah n).Pairwise λ r q=>D0 r q=true
 | 0=>by simp [Bz]
 | n + 1=>by
  rw [Bz,Zq];refine ⟨λ r hr=>?_,?_⟩
  ·rw [Tt];exact List.Pairwise.imp (λ {x y} h=>Yi r h) (jF _ _ _ rfl)
  ·refine List.Pairwise.imp_of_mem (λ {r q} hr hq h u hu v hv=>?_) (Qx n);obtain ⟨x,_,rfl⟩:=jd1.mp hu;obtain ⟨y,_,rfl⟩:=jd1.mp hv;exact Yj x y (by rw [MD _ _ _ n r hr,MD _ _ _ n q hq]) h
theorem UA {lo hi ah:Nat->Int}:∀ {n:Nat}{r:List Int},r.length=n->(∀ j,j < n->lo j<=r.getD j 0/\r.getD j 0<=hi j/\r.getD j 0<=ah j)->(∀ j,j + 1 < n->r.getD (j + 1) 0<=r.getD j 0)->r∈Bz lo hi ah n
 | 0,r,h,_,_=>by rw [je9.mp h];simp [Bz]
 | n + 1,r,h,h1,h2=>by
  have hn:r≠[]:=λ e=>by rw [e] at h;cases h
  obtain ⟨q,x,rfl⟩:∃ q x,r=q++[x]:=⟨r.dropLast,r.getLast hn,(List.dropLast_concat_getLast hn).symm⟩
  have hq:q.length=n:=by simpa using h
  have g1:∀ j,j < n->(q++[x]).getD j 0=q.getD j 0:=λ j hj=>by rw [LZ hq,if_neg (by (clear hq h;omega))]
  have g2:(q++[x]).getD n 0=x:=by rw [LZ hq,if_pos rfl]
  have mq:q∈Bz lo hi ah n:=UA hq (λ j hj=>by have:=h1 j (by (clear g2 hq h;omega));rwa [g1 j hj] at this) (λ j hj=>by have:=h2 j (by (clear g2 hq h;omega));rwa [g1 j (by (clear this g2 hq h;omega)),g1 (j + 1) (by (clear this g2 hq h;omega))] at this);rw [Bz,KH];refine ⟨q,mq,jd1.mpr ⟨x,qc0.mpr ⟨?_,?_⟩,rfl⟩⟩
  ·have:=(h1 n (by (clear g2 hq h;omega))).1;rwa [g2] at this
  ·have a1:=(h1 n (by (clear g2 hq h;omega))).2;rw [g2] at a1;unfold Bf;cases n with
   | zero=>rw [je9.mp hq];simp only [Tu];(clear g2 hq h;omega)
   | succ m=>
    have a2:=h2 m (by (clear a1 g2 hq h;omega));rw [g2,g1 m (by (clear a2 a1 g2 hq h;omega))] at a2;rw [PJ hq];simp only;(clear g2 hq h;omega)
def AF (b:Nat) (c:Int):List (List Int):=Bz (λ _=>0) (λ _=>c) (λ _=>c) b
structure RowB (b:Nat) (c:Int) (r:List Int):Prop where
 len:r.length=b
 lo:∀ j,j < b->0<=r.getD j 0
 hi:∀ j,j < b->r.getD j 0<=c
 nr:∀ j,j + 1 < b->r.getD (j + 1) 0<=r.getD j 0
def zqx {b:Nat}{c:Int}{r:List Int}:r∈AF b c↔RowB b c r:=by
 constructor
 ·intro h;obtain ⟨h1,h2,h3⟩:=PN h;exact ⟨h1,λ j hj=>(h2 j hj).1,λ j hj=>(h2 j hj).2.1,h3⟩
 ·intro h;exact UA h.len (λ j hj=>⟨h.lo j hj,h.hi j hj,h.hi j hj⟩) h.nr
def XQ (b:Nat) (c:Int):(AF b c).Pairwise λ r q=>D0 r q=true:=Qx b
def JY (b:Nat) (c:Int):(AF b c).Nodup:=List.Pairwise.imp (λ {r q} h e=>by rw [e,Na] at h;cases h) (XQ b c)
def Aq:List Int->List Int->List Int
 | [],ys=>ys
 | x::xs,[]=>x::xs
 | x::xs,y::ys=>(x + y)::Aq xs ys
theorem GY:∀ xs:List Int,Aq xs []=xs
 | []=>rfl
 | _::_=>rfl
theorem MJ:∀ xs ys:List Int,Aq xs ys=Aq ys xs
 | [],ys=>by rw [GY];rfl
 | x::xs,[]=>rfl
 | x::xs,y::ys=>by rw [Aq,Aq,MJ xs ys,Int.add_comm]
theorem La:∀ xs ys zs:List Int,Aq (Aq xs ys) zs=Aq xs (Aq ys zs)
 | [],ys,zs=>rfl
 | x::xs,[],zs=>rfl
 | x::xs,y::ys,[]=>rfl
 | x::xs,y::ys,z::zs=>by simp only [Aq];rw [La xs ys zs,Int.add_assoc]
theorem Qi:∀ xs ys:List Int,(Aq xs ys).length=max xs.length ys.length
 | [],ys=>by simp [Aq]
 | x::xs,[]=>by simp [Aq]
 | x::xs,y::ys=>by simp only [Aq,Bh,Qi xs ys];omega
theorem Qk:∀ xs ys:List Int,(Aq xs ys).sum=xs.sum + ys.sum
 | [],ys=>by simp [Aq]
 | x::xs,[]=>by simp [Aq]
 | x::xs,y::ys=>by simp only [Aq,II,Qk xs ys];omega
def sumT (f:List Int->List Int) (l:List (List Int)):List Int:=l.foldr (λ r s=>Aq (f r) s) []
def Ik {f:List Int->List Int}{r:List Int}{l:List (List Int)}:sumT f (r::l)=Aq (f r) (sumT f l):=rfl
theorem Uv {f:List Int->List Int}{p q s:List Int->Bool}:∀ (l:List (List Int)),(∀ r∈l,s r=(p r || q r))->(∀ r∈l,p r=true->q r=false)->sumT f (l.filter s)=Aq (sumT f (l.filter p)) (sumT f (l.filter q))
 | [],_,_=>rfl
 | r::l,h,d=>by
  have ih:=Uv (f:=f) l (λ a ha=>h a (AI _ ha)) (λ a ha=>d a (AI _ ha));have hs:=h r AH;have hd:=d r AH;rw [E9,E9,E9,hs];cases hp:p r with
  | true=>
   rw [hd hp];simp only [OY,if_true,GR,if_false,Ik,ih,La]
  | false=>
   cases hq:q r with
   | true=>
    simp only [Bool.or_true,if_true,GR,if_false,Ik,ih];rw [<- La,<- La,MJ (f r)]
   | false=>simp only [OY,GR,if_false,ih]
theorem XW {f:List Int->List Int}{p:List Int->Bool}{r:List Int}:∀ {l:List (List Int)},l.Nodup->r∈l->(∀ q∈l,p q=decide (q=r))->sumT f (l.filter p)=f r
 | [],_,h,_=>by cases h
 | a::l,nd,h,hp=>by
  rw [jh9] at nd;rw [E9,hp a AH];by_cases e:a=r
  ·subst e
   have:l.filter p=[]:=by
    rw [T5];intro q hq;rw [hp q (AI _ hq),decide_eq_true_iff];rintro rfl;exact nd.1 hq
   rw [decide_eq_true rfl,if_pos rfl,this,Ik];exact GY _
  ·rw [decide_eq_false e,if_neg (by simp)];rcases jb5.mp h with h | h
   ·exact absurd h.symm e
   ·exact XW nd.2 h λ q hq=>hp q (AI _ hq)
def J8 (b j:Nat) (r q:List Int):Bool:=(A6 b).all λ i=>if i < j then decide (q.getD i 0<=r.getD i 0) else decide (q.getD i 0=r.getD i 0)
def Im {b j:Nat}{r q:List Int}:J8 b j r q=true↔∀ i,i < b->(i < j->q.getD i 0<=r.getD i 0)/\(j<=i->q.getD i 0=r.getD i 0):=by
 unfold J8;rw [jb8];constructor
 ·intro h i hi
  have:=h i (jc5.mpr hi)
  by_cases e:i < j
  ·rw [if_pos e,decide_eq_true_iff] at this;exact ⟨λ _=>this,λ e'=>absurd e (by omega)⟩
  ·rw [if_neg e,decide_eq_true_iff] at this;exact ⟨λ e'=>absurd e' e,λ _=>this⟩
 ·intro h i hi
  have:=h i (jc5.mp hi)
  by_cases e:i < j
  ·rw [if_pos e,decide_eq_true_iff];exact this.1 e
  ·rw [if_neg e,decide_eq_true_iff];exact this.2 (by omega)
def Bg (b:Nat) (c:Int) (f:List Int->List Int) (j:Nat) (r:List Int):List Int:=sumT f ((AF b c).filter (J8 b j r))
def Bs (r:List Int) (j:Nat):List Int:=r.take j++[r.getD j 0 - 1]++r.drop (j + 1)
def vn {r:List Int}{j:Nat} (h:j < r.length):(Bs r j).length=r.length:=by
 unfold Bs;simp;omega
def Jb {r:List Int}{j i:Nat} (h:j < r.length):(Bs r j).getD i 0=if i=j then r.getD j 0 - 1 else r.getD i 0:=by
 unfold Bs;simp only [AM,Mw];by_cases h1:i < j
 ·rw [C7 (by simp;omega),if_neg (by omega),KO h1]
 ·rw [Gi (by simp;omega)];have hl:(r.take j).length=j:=by simp;omega
  rw [hl];by_cases h2:i=j
  ·subst h2;simp
  ·rw [if_neg h2,show i - j=(i - j - 1) + 1 by (clear hl h;omega),List.singleton_append,IQ,List.getElem?_drop];congr 2;(clear hl h;omega)
theorem Sy:∀ {r:List Int}{j:Nat},j < r.length->D0 (Bs r j) r=true
 | [],_,h=>by cases h
 | x::r,0,_=>by simp [Bs,D0];omega
 | x::r,j + 1,h=>by
  have ih:=Sy (r:=r) (j:=j) (by simpa using h);unfold Bs at ih ⊢;simp [D0] at ih ⊢;exact ih
def jr {r q:List Int}{b:Nat} (h1:r.length=b) (h2:q.length=b) (h:∀ i,i < b->q.getD i 0=r.getD i 0):q=r:=by
 apply Tq (by omega);intro i hi hi'
 have:=h i (by omega)
 rw [AM,AM,BW hi,BW hi'] at this;simpa using this
def ym {b:Nat}{c:Int}{f:List Int->List Int}{r:List Int} (h:r∈AF b c):Bg b c f 0 r=f r:=by
 unfold Bg;refine XW (JY b c) h λ q hq=>?_;rw [E8,Im,decide_eq_true_iff];have h1:=zqx.mp h;have h2:=zqx.mp hq;constructor
 ·intro e;exact jr h1.len h2.len λ i hi=>(e i hi).2 (by omega)
 ·rintro rfl i _;exact ⟨λ z=>absurd z (by omega),λ _=>rfl⟩
def UE {b:Nat}{c:Int}{f:List Int->List Int}{r:List Int}{j:Nat} (h:r∈AF b c) (hj:j < b):Bg b c f (j + 1) r=if Bs r j∈AF b c then Aq (Bg b c f j r) (Bg b c f (j + 1) (Bs r j)) else Bg b c f j r:=by
 have h1:=zqx.mp h;have hl:j < r.length:=by rw [h1.len];exact hj
 split
 ·rename_i hm;unfold Bg;refine Uv _ (λ q hq=>?_) (λ q hq=>?_)
  ·have h2:=zqx.mp hq;rw [E8,Gf,Im,Im,Im];constructor
   ·intro e;by_cases ej:q.getD j 0=r.getD j 0
    ·refine .inl λ i hi=>⟨λ z=>(e i hi).1 (by (clear hi ej hl hj;omega)),λ z=>?_⟩
     by_cases ei:i=j
     ·subst ei;exact ej
     ·exact (e i hi).2 (by (clear hi ej hl hj;omega))
    ·refine .inr λ i hi=>?_;rw [Jb hl];refine ⟨λ z=>?_,λ z=>?_⟩
     ·have:=(e i hi).1 z
      split
      ·rename_i e';subst e';(clear z hl hj hi;omega)
      ·exact this
     ·rw [if_neg (by (clear hi ej hl hj;omega))];exact (e i hi).2 z
   ·rintro (e | e) i hi
    ·refine ⟨λ z=>?_,λ z=>(e i hi).2 (by (clear hi hl hj;omega))⟩;by_cases ei:i < j
     ·exact (e i hi).1 ei
     ·exact YD ((e i hi).2 (by (clear z hi hl hj;omega)))
    ·have e':=e i hi;rw [Jb hl] at e';refine ⟨λ z=>?_,λ z=>?_⟩
     ·have:=e'.1 z
      split at this
      ·rename_i e2;subst e2;(clear this z hl hj hi;omega)
      ·exact this
     ·have:=e'.2 z
      rwa [if_neg (by (clear this hi hl hj;omega))] at this
  ·intro e;rw [YZ];intro e2;rw [Im] at e e2;have a1:=(e j hj).2 (AB _);have a2:=(e2 j hj).1 (by (clear a1 hl hj;omega));rw [Jb hl,if_pos rfl] at a2
   (clear hl hj;omega)
 ·rename_i hm;unfold Bg;congr 1;apply Pf;intro q hq;have h2:=zqx.mp hq;rw [E8,Im,Im];constructor
  ·intro e i hi;refine ⟨λ z=>(e i hi).1 (by (clear hi hl hj;omega)),λ z=>?_⟩;by_cases ei:i=j
   ·subst ei;have a1:=(e i hi).1 (by (clear z hl hj hi;omega));by_cases ej:q.getD i 0=r.getD i 0
    ·exact ej
    ·refine absurd (zqx.mpr ⟨by rw [vn hl,h1.len],λ k hk=>?_,λ k hk=>?_,λ k hk=>?_⟩) hm
     ·rw [Jb hl]
      have:=h2.lo i hi
      have:=h1.lo k hk
      split <;> (clear hk z hl hj hi;omega)
     ·rw [Jb hl]
      have:=h1.hi k hk
      split
      ·rename_i e';subst e';(clear ej a1 z hl hj hi hk;omega)
      ·exact this
     ·rw [Jb hl,Jb hl];have b1:=h1.nr k hk;by_cases c1:k + 1=i
      ·rw [if_pos c1,if_neg (by (clear b1 hk ej a1 z hl hj hi;omega))];subst c1;(clear ej a1 z hl hj hi hk;omega)
      ·rw [if_neg c1];by_cases c2:k=i
       ·rw [if_pos c2];subst c2;have b2:=h2.nr k hk;have b3:=(e (k + 1) hk).2 (by (clear b2 c1 ej a1 z hl hj hi b1 hk;omega))
        (clear c1 z hl hj hi b1 hk;omega)
       ·rw [if_neg c2];exact b1
   ·exact (e i hi).2 (by (clear hi hl hj;omega))
  ·intro e i hi;refine ⟨λ z=>?_,λ z=>(e i hi).2 (by (clear hi hl hj;omega))⟩;by_cases ei:i < j
   ·exact (e i hi).1 ei
   ·exact YD ((e i hi).2 (by (clear z hi hl hj;omega)))
def SY (b:Nat) (q r:List Int):Bool:=(A6 b).all λ i=>decide (q.getD i 0<=r.getD i 0)
def jm {b:Nat}{r q:List Int}:SY b q r=true↔∀ i,i < b->q.getD i 0<=r.getD i 0:=by
 unfold SY;rw [jb8];exact ⟨λ h i hi=>by simpa using h i (jc5.mpr hi),λ h i hi=>by simpa using h i (jc5.mp hi)⟩
def Dy (b:Nat) (c:Int) (f:List Int->List Int) (r:List Int):List Int:=sumT f ((AF b c).filter λ q=>SY b q r)
def wz {b:Nat}{c:Int}{f:List Int->List Int}{r:List Int}:Bg b c f b r=Dy b c f r:=by
 unfold Bg Dy;congr 1;apply Pf;intro q _;rw [E8,Im,jm];exact ⟨λ h i hi=>(h i hi).1 hi,λ h i hi=>⟨λ _=>h i hi,λ z=>absurd z (by omega)⟩⟩
theorem Qt (v:Int):∀ n:Nat,Eh n [.int v]=(AL n v).map PV.int
 | 0=>rfl
 | n + 1=>by
  show [PV.int v]++Eh n [.int v]=_;rw [Qt v n];rfl
def xH {f g:Fx}{ρ ρ1 ρ2:Ae}{v:Int}{n:Nat}{d e:Nat} (h1:f ρ=.ok (.lst [.int v],d,ρ1)) (h2:g ρ1=.ok (.int (n:Int),e,ρ2)) (hn:n<=1000):Ab BX f g ρ=.ok (il (AL n v),om,ρ2):=by
 refine Cs h1 h2 ?_;have z:=sz;unfold BX;dsimp only;rw [if_pos ⟨by omega,by omega,by rw [EA,D3];omega⟩,D3,Qt,Md];rfl
def VH {f g:Fx}{ρ ρ1 ρ2:Ae}{xs ys:List Int}{d e:Nat} (h1:f ρ=.ok (il xs,d,ρ1)) (h2:g ρ1=.ok (il ys,e,ρ2)) (hl:xs.length + ys.length<=1000000):Ab Bo f g ρ=.ok (il (xs++ys),om,ρ2):=by
 have:=SK h1 h2 (by rw [A8,A8];exact Cw hl sz)
 rw [this,<- DL,Md];rfl
def WK {f g:Fx}{ρ ρ1 ρ2:Ae}{k:Int}{d e:Nat} (h1:f ρ=.ok (.lst [.int 0],d,ρ1)) (h2:g ρ1=.ok (.int k,e,ρ2)) (hk:-1000000<=k/\k<=1000000):Ab BX f g ρ=.ok (il (AL k.toNat 0),om,ρ2):=by
 refine Cs h1 h2 ?_;have z:=sz;unfold BX;dsimp only;rw [if_pos ⟨by omega,by omega,by rw [EA];omega⟩,Qt,Md];rfl
def jk {i:Nat}{fj f:Fx}{ρ ρ2:Ae}{xs:List Int}{w:Int}{j d d1 d2:Nat} (hx:ρ[i]?=some (some (il xs,d))) (hd:d≠0) (hj:fj ρ=.ok (.int (j:Int),d1,ρ)) (hf:f ρ=.ok (.int w,d2,ρ)) (hl:j < xs.length) (e:ρ.set i (some (il (xs.set j (xs.getD j 0 + w)),d))=ρ2):J4 (λ i j=>i + j) i fj f ρ=.nx ρ2:=by
 unfold J4;rw [hx,hj];show (match f ρ with | .ok (.int w,_,ρ2)=>_ | _=>Rs.no)=_;rw [hf];dsimp only;have e1:DM (xs.map PV.int).length (j:Int)=some j:=by
  unfold DM;rw [if_pos (by omega),A8,if_pos (by omega),D3]
 rw [e1];dsimp only;have e2:(xs.map PV.int)[j]?=some (.int (xs.getD j 0)):=by
  rw [C5,AM,BW hl];rfl
 rw [e2];dsimp only;rw [if_pos hd,<- e,il,List.map_set]
theorem Y3:∀ (t p:List Int) (y:Int),p.length < t.length->Aq t (p++[y])=(Aq t p).set p.length ((Aq t p).getD p.length 0 + y)
 | [],p,y,h=>by simp at h
 | a::t,[],y,h=>by simp [Aq,GY]
 | a::t,b::p,y,h=>by
  have:=Y3 t p y (by simpa using h)
  simp only [Fw,Aq,Bh,Tx,List.getD_cons_succ];rw [this]
theorem Qj:∀ (xs ys:List Int),Aq (xs++AL (ys.length - xs.length) 0) ys=Aq xs ys
 | [],[]=>rfl
 | [],y::ys=>by
  have:=Qj [] ys
  simp only [EU,YN,OT,Bh,Gh,Aq,ET] at this ⊢;rw [this]
 | x::xs,[]=>by simp [Aq]
 | x::xs,y::ys=>by
  have:=Qj xs ys
  simp only [Fw,Bh,Nat.add_sub_add_right,Aq];rw [this]
def X9 {xs ys:List Int} (hx:xs.length<=1000) (hy:ys.length<=1000):f_added [il xs,il ys]=.ok (il (Aq xs ys),om,.non):=by
 let L (t:List Int) (s3 s4:QQ.Slot):Ae:=[some (il xs,0),some (il ys,0),some (il t,om),s3,s4]
 let base:=xs++AL (ys.length - xs.length) 0;have hbl:ys.length<=base.length:=by simp [base];omega
 have v1:Aj false 2 (Ab Bo (An Ke (Af (Aa 0) (Ac))) (Ab BX pd7 (Ab Df pb3 pa8))) [0,1,0] [some (il xs,0),some (il ys,0),none,none,none]=.nx (L base none none):=by
  have e1:=WK (f:=An Bm (Af (bC (.int 0)) (Ac))) (ρ:=[some (il xs,0),some (il ys,0),none,none,none]) (d:=om) rfl (Jj (Lq (xs:=ys) (fa:=Af (Aa 1) Ac) (d:=0) rfl) (Lq (xs:=xs) (fa:=Af (Aa 0) Ac) (d:=0) rfl)) (by omega);rw [show ((ys.length:Int) - (xs.length:Int)).toNat=ys.length - xs.length by omega] at e1;exact Bq (VH (ju (f:=Aa 0) (xs:=xs) (d:=0) rfl) e1 (by rw [El];omega)) (show 2 < 5 by decide) rfl
 obtain ⟨ρ',v2,s3,s4,rfl⟩:=X2 (v:=.enm) (fa:=Af (Aa 1) Ac) (vs:=[1]) (asg:=asgT [3,4]) (body:=J4 (λ i j=>i + j) 2 (Aa 3) (Aa 4)) (ρ:=L base none none) (ρ1:=L base none none) (ρ2:=L base none none) (xs:=[(il ys,0)]) (els:=Hu 0 (ys.map PV.int)) (λ j ρ=>∃ s3 s4,ρ=L (Aq base (ys.take j)) s3 s4) rfl rfl rfl ⟨none,none,by rw [Mr,GY]⟩ (by
  rintro j x _ hx ⟨s3,s4,rfl⟩;rw [PF,C5] at hx;cases ey:ys[j]? with
  | none=>rw [ey] at hx;cases hx
  | some y=>
   rw [ey] at hx;obtain rfl:PV.tup [.int ((0 + j:Nat):Int),.int y]=x:=Option.some.inj hx;have hj:j < ys.length:=(jb0.mp ey).1;have ht:ys.take (j + 1)=ys.take j++[y]:=by rw [List.take_add_one,ey];rfl
   have hl:(ys.take j).length=j:=by rw [Fz];omega
   refine ⟨L (Aq base (ys.take j)) (some (.int ((0 + j:Nat):Int),om)) (some (.int y,om)),L (Aq base (ys.take (j + 1))) (some (.int ((0 + j:Nat):Int),om)) (some (.int y,om)),rfl,?_,_,_,rfl⟩;refine jk (xs:=Aq base (ys.take j)) (w:=y) (j:=j) (d:=om) (d1:=om) (d2:=om) rfl (by decide) (by rw [KA];rfl) rfl (by rw [Qi];omega) ?_;rw [ht,Y3 base (ys.take j) y (by rw [hl];omega),hl]
   rfl)
 rw [PH,A8,List.take_length,show Aq base ys=Aq xs ys from Qj xs ys] at v2;exact Ct rfl ((AR v1).trans ((AR v2).trans rfl))
def AG (r:List Int):List Ax:=r.map Sum.inl
def Al (r:List Int):PV:=.tup (r.map PV.int)
def wa (r:List Int):C6 (AG r)=Al r:=by
 unfold C6 AG Al;rw [CB];rfl
theorem JV:∀ r:List Int,Cp (r.map PV.int)=some (AG r)
 | []=>rfl
 | x::r=>by rw [BF,Cp,JV r];rfl
theorem Nl:∀ {r q:List Int},AG r=AG q->r=q
 | [],[],_=>rfl
 | [],_::_,h=>by cases h
 | _::_,[],h=>by cases h
 | x::r,y::q,h=>by
  have h1:(Sum.inl x:Ax)::AG r=Sum.inl y::AG q:=h;injection h1 with h2 h3
  injection h2 with h2
  rw [h2,Nl h3]
def Am (R:List (List Int)) (f:List Int->List Int):PV:=.dcl (R.map AG) (R.map λ r=>il (f r))
theorem Sw {h:List Int->PV}{r:List Int}:∀ {R:List (List Int)},ES (R.map AG) (R.map h) (AG r)=if r∈R then some (h r) else none
 | []=>rfl
 | q::R=>by
  rw [BF,BF,ES];by_cases e:q=r
  ·subst e;rw [if_pos rfl,if_pos AH]
  ·rw [if_neg λ z=>e (Nl z),Sw]
   have:r∈q::R↔r∈R:=by rw [jb5];exact ⟨λ z=>z.resolve_left λ z=>e z.symm,.inr⟩
   simp only [this]
theorem Y2 {h:List Int->PV}{r:List Int}{y:PV}:∀ {R:List (List Int)},Hv (AG r) y (R.map AG) (R.map h)=R.map λ q=>if q=r then y else h q
 | []=>rfl
 | q::R=>by
  rw [BF,BF,Hv,Y2,BF];congr 1;by_cases e:q=r
  ·subst e;rw [if_pos rfl,if_pos rfl]
  ·rw [if_neg λ z=>e (Nl z),if_neg e]
def X4 {r:List Int}{R:List (List Int)}:EY (R.map AG) (AG r)=decide (r∈R):=by
 unfold EY;rw [List.any_map,E8,List.any_eq_true,decide_eq_true_iff];constructor
 ·rintro ⟨q,hq,e⟩
  have:AG q=AG r:=by simpa using e
  rw [<- Nl this];exact hq
 ·intro h;exact ⟨r,h,by simp⟩
def Su {f g:Fx}{ρ ρ1 ρ2:Ae}{R:List (List Int)}{h:List Int->List Int}{r:List Int}{d e:Nat} (h1:f ρ=.ok (Am R h,d,ρ1)) (h2:g ρ1=.ok (Al r,e,ρ2)) (hr:r∈R):Ab Ay f g ρ=.ok (il (h r),0,ρ2):=by
 refine Cs h1 h2 ?_;show (match Cp (r.map PV.int) with | some k=>(ES (R.map AG) (R.map λ r=>il (h r)) k).map λ z=>(z,dv z) | none=>none)=_;rw [JV];dsimp only;rw [Sw (h:=λ r=>il (h r)),if_pos hr];rfl
def qG {f g:Fx}{ρ ρ1 ρ2:Ae}{R:List (List Int)}{h:List Int->List Int}{r:List Int}{d e:Nat} (h1:f ρ=.ok (Al r,d,ρ1)) (h2:g ρ1=.ok (Am R h,e,ρ2)):Ab (CD false) f g ρ=.ok (.bl (decide (r∈R)),om,ρ2):=by
 refine Cs h1 h2 ?_;show (Cp (r.map PV.int)).map (λ k=>(PV.bl (false^^(ES (R.map AG) (R.map λ r=>il (h r)) k).isSome),om))=_;rw [JV];show some (PV.bl (false^^(ES (R.map AG) (R.map λ r=>il (h r)) (AG r)).isSome),om)=_;rw [Sw (h:=λ r=>il (h r)),Pa];by_cases e:r∈R
 ·rw [if_pos e,decide_eq_true e];rfl
 ·rw [if_neg e,decide_eq_false e];rfl
def Uw {R:List (List Int)}{f h:List Int->List Int} (e:∀ r∈R,f r=h r):Am R f=Am R h:=by
 unfold Am;congr 1;exact JC λ r hr=>by rw [e r hr]
def jI {i:Nat}{fk f:Fx}{ρ ρ1 ρ2:Ae}{R:List (List Int)}{h:List Int->List Int}{r:List Int}{y:List Int}{d e:Nat} (hf:f ρ=.ok (il y,om,ρ1)) (hx:ρ1[i]?=some (some (Am R h,d))) (hd:d≠0) (hk:fk ρ1=.ok (Al r,e,ρ1)) (hr:r∈R) (hl:R.length < 1000000) (e2:ρ1.set i (some (Am R (λ q=>if q=r then y else h q),1))=ρ2):E1 i fk f ρ=.nx ρ2:=by
 have z:=sz;unfold E1;rw [hf];dsimp only;rw [hx];dsimp only;rw [hk];dsimp only;rw [hx];show (match Cp (r.map PV.int) with | some kk=>if d≠0/\om=om/\(R.map AG).length < Aw then Rs.nx (ρ1.set i (some (Ho (R.map AG) (R.map λ r=>il (h r)) kk (il y),1))) else .no | none=>.no)=_;rw [JV];dsimp only;rw [if_pos ⟨hd,rfl,by rw [A8];omega⟩,<- e2];unfold Ho;rw [X4,decide_eq_true hr,if_pos rfl,Y2 (h:=λ r=>il (h r))];unfold Am;congr 5;refine JC λ q _=>?_;dsimp only;split <;> rfl
def SF {i:Nat}{fk f:Fx}{ρ ρ1 ρ2:Ae}{R:List (List Int)}{h:List Int->List Int}{r:List Int}{y:List Int}{d e:Nat}{x:PV} (hf:f ρ=.ok (il y,om,ρ1)) (hx:ρ1[i]?=some (some (x,d))) (hxe:x=Am R h\/(x=.dct []/\R=[])) (hd:d≠0) (hk:fk ρ1=.ok (Al r,e,ρ1)) (hr:r∉R) (hy:h r=y) (hl:R.length < 1000000) (e2:ρ1.set i (some (Am (R++[r]) h,1))=ρ2):E1 i fk f ρ=.nx ρ2:=by
 have z:=sz;have fin:Ho (R.map AG) (R.map λ r=>il (h r)) (AG r) (il y)=Am (R++[r]) h:=by
  unfold Ho;rw [X4,decide_eq_false hr,if_neg (by simp)];unfold Am;rw [DL,DL];simp [hy]
 unfold E1;rw [hf];dsimp only;rw [hx];dsimp only;rw [hk];dsimp only;rw [hx];rcases hxe with rfl | ⟨rfl,rfl⟩
 ·show (match Cp (r.map PV.int) with | some kk=>if d≠0/\om=om/\(R.map AG).length < Aw then Rs.nx (ρ1.set i (some (Ho (R.map AG) (R.map λ r=>il (h r)) kk (il y),1))) else .no | none=>.no)=_;rw [JV];dsimp only;rw [if_pos ⟨hd,rfl,by rw [A8];omega⟩,<- e2,fin]
 ·show (match Cp (r.map PV.int) with | some kk=>if d≠0/\om=om/\0 < Aw then Rs.nx (ρ1.set i (some (Ho [] [] kk (il y),1))) else .no | none=>.no)=_;rw [JV];dsimp only;rw [if_pos ⟨hd,rfl,by omega⟩,<- e2];exact congrArg (λ z=>Rs.nx (ρ1.set i (some (z,1)))) fin
def WC {f:Fx}{vs:List Nat}{asg:PV->Ae->Option Ae}{body:Fs}{ρ ρ1 ρ2 ρ3:Ae}{R:List (List Int)}{h:List Int->List Int}{d:Nat} (hf:f ρ=.ok (Am R h,d,ρ1)) (ec:Bj d vs ρ1=ρ2) (hl:BO asg body (R.map Al) ρ2=.nx ρ3):Iu f vs asg body ρ=.nx ρ3:=by
 unfold Iu;rw [hf];show EM (BO asg body ((R.map AG).map C6) (Bj d vs ρ1))=_;rw [CB,ec,show (C6 ∘ AG)=Al from funext wa,hl];rfl
def jf {f:Fx}{vs:List Nat}{asg:PV->Ae->Option Ae}{body:Fs}{ρ ρ1 ρ2 ρ3:Ae}{R:List (List Int)}{h:List Int->List Int}{d:Nat} (hf:f ρ=.ok (Am R h,d,ρ1)) (ec:Bj d vs ρ1=ρ2) (hl:BO asg body (R.map λ r=>il (h r)) ρ2=.nx ρ3):K7 f vs asg body ρ=.nx ρ3:=by
 unfold K7;rw [hf];show EM (BO asg body (R.map λ r=>il (h r)) (Bj d vs ρ1))=_;rw [ec,hl];rfl
def SN {f h:Fx}{ρ ρ1 ρ2:Ae}{xs ys:List Int}{d e:Nat} (h1:f ρ=.ok (Al xs,d,ρ1)) (h2:h ρ1=.ok (Al ys,e,ρ2)) (hl:xs.length + ys.length<=1000000):Ab Bo f h ρ=.ok (Al (xs++ys),0,ρ2):=by
 have z:=sz;refine Cs h1 h2 ?_;show (if _ then _ else _)=_;rw [if_pos (by rw [A8,A8];omega),<- DL];rfl
def MZ {f g:Fx}{ρ ρ1 ρ2:Ae}{xs:List Int}{k x:Int}{d e:Nat} (h1:f ρ=.ok (Al xs,d,ρ1)) (h2:g ρ1=.ok (.int k,e,ρ2)) (h:BJ xs k=some x):Ab Ay f g ρ=.ok (.int x,om,ρ2):=by
 refine Cs h1 h2 ?_;show (BJ (xs.map PV.int) k).map _=_
 have:BJ (xs.map PV.int) k=some (.int x):=by
  unfold BJ at h ⊢;rw [A8];cases e:DM xs.length k with
  | none=>rw [e] at h;cases h
  | some j=>
   rw [e] at h;have h':xs[j]?=some x:=h;show (xs.map PV.int)[j]?=_;rw [C5,h'];rfl
 rw [this];rfl
def qS {f g:Fx}{ρ:Ae}{xs:List Int}{j d e:Nat} (h1:f ρ=.ok (Al xs,d,ρ)) (h2:g ρ=.ok (.int (j:Int),e,ρ)) (hj:j < xs.length):Dc f none (some g) ρ=.ok (Al (xs.take j),0,ρ):=by
 unfold Dc;rw [h1];dsimp only [Rz.bind,HQ];rw [h2];dsimp only;have e1:DI (Al xs) none (some (j:Int))=some (Al (xs.take j),0):=by
  unfold DI Al;dsimp only;rw [HT.sIx_none,HT.sIx_nat,A8,if_neg (by rw [Mt (by omega)];omega)];unfold Cb;rw [HT.sIx_none,HT.sIx_nat,A8,Mt (by omega),Ti,OT,List.map_take]
 rw [e1]
def jZ {f g:Fx}{ρ:Ae}{xs:List Int}{j d e:Nat} (h1:f ρ=.ok (Al xs,d,ρ)) (h2:g ρ=.ok (.int (j:Int),e,ρ)) (h0:0 < j) (hj:j<=xs.length):Dc f (some g) none ρ=.ok (Al (xs.drop j),0,ρ):=by
 unfold Dc;rw [h1];dsimp only [Rz.bind,HQ];rw [h2];dsimp only;have e1:DI (Al xs) (some (j:Int)) none=some (Al (xs.drop j),0):=by
  unfold DI Al;dsimp only;rw [HT.sIx_none,HT.sIx_nat,A8,if_neg (by rw [Mt (by omega)];omega)];unfold Cb;rw [HT.sIx_none,HT.sIx_nat,A8,Mt (by omega),OW,KN (by rw [Fy,A8];omega)]
 rw [e1]
theorem Kh {f:List Int->List Int}{m:Nat}:∀ {l:List (List Int)},(∀ r∈l,(f r).length<=m)->(sumT f l).length<=m
 | [],_=>Ft _
 | r::l,h=>by
  rw [Ik,Qi]
  have:=h r AH
  have:=Kh (l:=l) λ q hq=>h q (AI _ hq)
  omega
def w5 {b:Nat}{c:Int}{f:List Int->List Int}{m j:Nat}{r:List Int} (h:∀ r∈AF b c,(f r).length<=m):(Bg b c f j r).length<=m:=Kh λ q hq=>h q (je1.mp hq).1
def Bl (b:Nat) (c:Int) (f:List Int->List Int) (j:Nat) (pre:List (List Int)) (r:List Int):List Int:=if r∈pre then Bg b c f (j + 1) r else Bg b c f j r
def SX (b:Nat) (c:Int) (f:List Int->List Int) (j:Nat):Bl b c f j []=Bg b c f j:=by
 funext r;unfold Bl;rw [if_neg (by simp)]
def ka {b:Nat}{c:Int}{f:List Int->List Int} (hb:1<=b/\b<=1000) (hd:DN ((AF b c).map AG)=true) (hn:AF b c≠[]) (hR:(AF b c).length < 1000000) (hf:∀ r∈AF b c,(f r).length<=1000):f_sums_of_lower_rows [Am (AF b c) f,.int (b:Int)]=.ok (Am (AF b c) (Dy b c f),1,.non):=by
 let R:=AF b c;let L (h:List Int->List Int) (s3 s4 s5:QQ.Slot):Ae:=[some (Am R f,0),some (.int (b:Int),om),some (Am R h,1),s3,s4,s5]
 have v1:Aj false 2 (An Lr (Af (Aa 0) (Ac))) [0] [some (Am R f,0),some (.int (b:Int),om),none,none,none,none]=.nx (L f none none none):=by
  refine Bq (x:=Am R f) (d:=1) (Ck (AJ (x:=Am R f) (d:=0) rfl) ?_) (show 2 < 6 by decide) rfl;show (if DN (R.map AG)=true/\R.map AG≠[] then some (Am R f,1) else none)=_;rw [if_pos ⟨hd,λ z=>hn (List.map_eq_nil_iff.mp z)⟩]
 have start:L f none none none=L (Bg b c f 0) none none none:=by
  have:Am R f=Am R (Bg b c f 0):=Uw λ r hr=>(ym hr).symm
  show [_,_,some (Am R f,1),_,_,_]=[_,_,some (Am R (Bg b c f 0),1),_,_,_];rw [this]
 obtain ⟨ρ',v2,s3,s4,s5,rfl⟩:=Ja (i:=3) (en:=Bn) (fa:=Af (Aa 1) Ac) (body:=(Iu (Aa 0) [0] (asgN 4) pa3)) (ρ:=L f none none none) (ρ1:=L f none none none) (as:=[(.int (b:Int),om)]) (lo:=0) (hi:=(b:Int))
  (λ j ρ=>∃ s3 s4 s5,ρ=L (Bg b c f j) s3 s4 s5) rfl (Ez (by (clear hR hb;omega)) (by omega)) ⟨none,none,none,start⟩ (by
  rintro j _ hj ⟨s3,s4,s5,rfl⟩;have hjb:j < b:=by (clear hR hb;omega)
  refine ⟨by show 3 < 6;decide,?_⟩;rw [ET];let M (h:List Int->List Int) (d3:Nat) (s4 s5:QQ.Slot):Ae:=L h (some (.int (j:Int),d3)) s4 s5;obtain ⟨ρ2,e2,d3',s4',s5',rfl⟩:=JW (asg:=asgN 4) (enc:=Al) (body:=pa3) (λ pre ρ=>∃ d3 s4 s5,ρ=M (Bl b c f j pre) d3 s4 s5) R [] (M (Bg b c f j) om s4 s5) ⟨om,s4,s5,by rw [SX b c f j]⟩ (by
   rintro pre r post _ ep ⟨d3,s4,s5,rfl⟩;rw [EU] at ep;have hr:r∈R:=by rw [ep];exact BV _ AH
   have h1:=zqx.mp hr;have hl:j < r.length:=by rw [h1.len];exact hjb
   have hrp:r∉pre:=λ z=>by
    have:=JY b c
    rw [show AF b c=pre++r::post from ep,Ts] at this;exact this.2.2 r z r AH rfl
   let N (d3 d4:Nat) (s5:QQ.Slot):Ae:=M (Bl b c f j pre) d3 (some (Al r,d4)) s5;have w1:Aj false 5 pb7 [4,4,3,4] (N d3 0 s5)=.nx (N 0 0 (some (Al (Bs r j),0))):=by
    have a1:=qS (f:=Aa 4) (g:=Aa 3) (ρ:=N d3 0 s5) (xs:=r) (j:=j) (d:=0) (e:=om) rfl rfl hl;have a2:An BK pe3 (N d3 0 s5)=.ok (Al [r.getD j 0 - 1],om,N d3 0 s5):=Ck (AJ (Jj (j:=1) (e:=om) (MZ (xs:=r) (k:=(j:Int)) (d:=0) (e:=om) rfl rfl (Dj (by (clear hl hjb hj hR hb;omega)) (by rw [D3];exact DD hl))) rfl)) rfl;have a3:=jZ (f:=Aa 4) (g:=Ab Bo (Aa 3) (bC (.int 1))) (ρ:=N d3 0 s5) (xs:=r) (j:=j + 1) (d:=0) (e:=om) rfl rfl (by (clear hl hjb hj hR hb;omega)) (by (clear hjb hj hR hb;omega));have a4:=SN (SN a1 a2 (by rw [Fz,EA];(clear hl hjb hR;omega))) a3 (by rw [BI,Fz,EA,Fy];have:=h1.len;(clear hl hjb hj hR;omega));exact Bq a4 (show 5 < 6 by decide) rfl
   have w2:=qG (f:=Aa 5) (g:=Aa 2) (ρ:=N 0 0 (some (Al (Bs r j),0))) (r:=Bs r j) (R:=R) (h:=Bl b c f j pre) (d:=0) (e:=0) rfl rfl;have fl:∀ q,(Bl b c f j pre q).length<=1000:=λ q=>by
    unfold Bl;split <;> exact w5 hf
   by_cases hm:Bs r j∈R
   ·have hp:Bs r j∈pre:=by
     have pw:=XQ b c;rw [show AF b c=pre++r::post from ep,List.pairwise_append,jm5] at pw;rw [ep,jd4,jb5] at hm;rcases hm with hm | hm | hm
     ·exact hm
     ·have:=Sy hl
      rw [hm,Na] at this;cases this
     ·have:=Yh (Sy hl)
      rw [pw.2.1.1 _ hm] at this;cases this
    rw [decide_eq_true hm] at w2;have w3:E1 2 (Aa 4) pd9 (N 0 0 (some (Al (Bs r j),0)))=.nx (M (Bl b c f j (pre++[r])) 0 (some (Al r,0)) (some (Al (Bs r j),0))):=by
     have c1:=Su (f:=Aa 2) (g:=Aa 4) (ρ:=N 0 0 (some (Al (Bs r j),0))) (R:=R) (h:=Bl b c f j pre) (r:=r) (d:=0) (e:=0) rfl rfl hr;have c2:=Su (f:=Aa 2) (g:=Aa 5) (ρ:=N 0 0 (some (Al (Bs r j),0))) (R:=R) (h:=Bl b c f j pre) (r:=Bs r j) (d:=0) (e:=0) rfl rfl hm;refine jI (R:=R) (h:=Bl b c f j pre) (r:=r) (d:=1) (e:=0) (AS (A7 c1 (AJ c2)) (X9 (fl _) (fl _))) rfl (by decide) rfl hr hR ?_;show M (λ q=>if q=r then Aq (Bl b c f j pre r) (Bl b c f j pre (Bs r j)) else Bl b c f j pre q) _ _ _=_;congr 1;funext q;by_cases e:q=r
     ·subst e;rw [if_pos rfl];unfold Bl;rw [if_neg hrp,if_pos hp,if_pos (by simp),UE hr hjb,if_pos hm]
     ·rw [if_neg e];unfold Bl
      have:q∈pre++[r]↔q∈pre:=by simp [e]
      simp only [this]
    exact ⟨N d3 0 s5,_,rfl,(AR w1).trans ((CW (AX w2)).trans w3),_,_,_,rfl⟩
   ·rw [decide_eq_false hm] at w2;refine ⟨N d3 0 s5,_,rfl,(AR w1).trans ((CY (AX w2)).trans rfl),0,some (Al r,0),some (Al (Bs r j),0),?_⟩;show M (Bl b c f j pre) _ _ _=_;congr 1;funext q;unfold Bl;by_cases e:q=r
    ·subst e;rw [if_neg hrp,if_pos (by simp),UE hr hjb,if_neg hm]
    ·have:q∈pre++[r]↔q∈pre:=by simp [e]
     simp only [this])
  refine ⟨_,WC (R:=R) (h:=f) (d:=0) (ρ2:=M (Bg b c f j) om s4 s5) rfl rfl e2,some (.int (j:Int),d3'),s4',s5',?_⟩;show L (Bl b c f j ([]++R)) _ _ _=_
  have:Am R (Bl b c f j ([]++R))=Am R (Bg b c f (j + 1)):=Uw λ r hr=>by
   unfold Bl;rw [EU,if_pos hr]
  show [_,_,some (Am R (Bl b c f j ([]++R)),1),_,_,_]=[_,_,some (Am R (Bg b c f (j + 1)),1),_,_,_];rw [this])
 rw [show ((b:Int) - 0).toNat=b by (clear hR hb;omega),show Bg b c f b=Dy b c f from funext λ r=>wz] at v2;exact Ct rfl ((AR v1).trans ((AR v2).trans rfl))
def Em (b:Nat) (lo r hi:List Int):Bool:=(A6 b).all λ j=>decide (lo.getD j 0<=r.getD j 0) && decide (r.getD j 0<=hi.getD j 0)
def zO {b:Nat}{lo r hi:List Int} (h1:lo.length=b) (h2:r.length=b) (h3:hi.length=b) (hb:b<=1000):f_lies_between [Al r,il lo,il hi]=.ok (.bl (Em b lo r hi),om,.non):=by
 have z:=sz;let R:Ae:=[some (Al r,0),some (il lo,0),some (il hi,0)]
 have e0:An GA (Af (Aa 0) (Ac)) R=.ok (.int (b:Int),om,R):=by
  refine Ck (xs:=[(Al r,0)]) rfl ?_;show some (PV.int ((r.map PV.int).length:Nat),om)=_;rw [A8,h2]
 have e1:=JR (n:=3) (en:=Bn) (fa:=Af pa8 Ac) (elt:=FF (λ i j=>decide (i<=j)) (λ i j=>decide (i<=j)) (Ab Ay (Aa 1) (Aa 3)) (Ab Ay (Aa 0) (Aa 3)) (Ab Ay (Aa 2) (Aa 3))) (q:=λ j=>.bl (decide (lo.getD j 0<=r.getD j 0) && decide (r.getD j 0<=hi.getD j 0))) (ρ:=R) (ρ1:=R) (as:=[(.int (b:Int),om)]) (lo:=0) (hi:=(b:Int)) (AJ e0) (Ez (by (clear z hb h3 h2 h1;omega)) (by (clear z h3 h2 h1;omega))) rfl (λ k hk=>by
  have hkb:k < b:=by (clear z hb h3 h2 h1;omega)
  rw [ET];exact Qn (FJ (xs:=lo) (k:=(k:Int)) (d:=0) (e:=om) rfl rfl (Dj (by (clear hkb hk z hb h3 h2 h1;omega)) (by rw [D3];exact DD (by (clear hkb z hb h3 h2;omega))))) (MZ (xs:=r) (k:=(k:Int)) (d:=0) (e:=om) rfl rfl (Dj (by (clear hkb hk z hb h3 h2 h1;omega)) (by rw [D3];exact DD (by (clear hkb z hb h3 h1;omega))))) (FJ (xs:=hi) (k:=(k:Int)) (d:=0) (e:=om) rfl rfl (Dj (by (clear hkb hk z hb h3 h2 h1;omega)) (by rw [D3];exact DD (by (clear hkb z hb h2 h1;omega)))))) (by (clear h3 h2 h1;omega))
 rw [show ((b:Int) - 0).toNat=b by (clear z hb h3 h2 h1;omega)] at e1;exact Ct rfl (Dn (all_ok (xs:=A6 b) (g:=λ j=>decide (lo.getD j 0<=r.getD j 0) && decide (r.getD j 0<=hi.getD j 0)) e1))
def C8 (ct:List Nat) (r:List Int):Int:=(ct.map λ j=>r.getD j 0).sum
def Ep (b:Nat) (lo hi:List Int) (ct:List Nat) (g:List Int->List Int) (r:List Int):List Int:=if Em b lo r hi=true then AL (C8 ct r).toNat 0++g r else []
theorem SR {b:Nat}{c:Nat}{r:List Int} (h:RowB b c r):∀ {ct:List Nat},(∀ j∈ct,j < b)->0<=C8 ct r/\C8 ct r<=ct.length * c
 | [],_=>by simp [C8]
 | j::ct,hc=>by
  have h1:=SR h (ct:=ct) λ k hk=>hc k (AI _ hk);have h2:=h.lo j (hc j AH);have h3:=h.hi j (hc j AH);have e:C8 (j::ct) r=r.getD j 0 + C8 ct r:=rfl;rw [e,Bh,To,Y8];omega
def ZL {b:Nat}{c:Nat}{lo hi:List Int}{ct:List Nat}{g:List Int->List Int} (h1:lo.length=b) (h3:hi.length=b) (hb:b<=1000) (hct:∀ j∈ct,j < b) (hcl:ct.length * c<=1000/\ct.length<=1000/\c<=1000) (hn:AF b c≠[]) (hR:(AF b c).length < 1000000) (hg:∀ r∈AF b c,(g r).length<=1000):
  f_table_of_row [Am (AF b c) g,il lo,il hi,.lst (ct.map λ (j:Nat)=>.int (j:Int))]=.ok (Am (AF b c) (Ep b lo hi ct g),1,.non):=by
 have z:=sz;let R:=AF b c;let L (s4 s5:QQ.Slot):Ae:=[some (Am R g,0),some (il lo,0),some (il hi,0),some (.lst (ct.map λ (j:Nat)=>.int (j:Int)),0),s4,s5]
 let T:=Ep b lo hi ct g;obtain ⟨ρ',v2,s5,s4,hs,rfl⟩:=JW (asg:=asgN 5) (enc:=Al) (body:=pa5) (λ pre ρ=>∃ s5 s4,((pre=[]/\s4=some (.dct [],om))\/(pre≠[]/\s4=some (Am pre T,1)))/\ρ=L s4 s5) R [] (L (some (.dct [],om)) none) ⟨none,some (.dct [],om),.inl ⟨rfl,rfl⟩,rfl⟩ (by
  rintro pre r post _ ep ⟨s5,s4,hs,rfl⟩;rw [EU] at ep;have hr:r∈R:=by rw [ep];exact BV _ AH
  have h2:=zqx.mp hr;have hrp:r∉pre:=λ z=>by
   have:=JY b c
   rw [show AF b c=pre++r::post from ep,Ts] at this;exact this.2.2 r z r AH rfl
  have hpl:pre.length < 1000000:=by
   have:R.length=pre.length + (post.length + 1):=by rw [ep];simp
   have:R.length < 1000000:=hR
   omega
  obtain ⟨x4,d4,rfl,hx,hd⟩:∃ x4 d4,s4=some (x4,d4)/\(x4=Am pre T\/(x4=.dct []/\pre=[]))/\d4≠0:=by
   rcases hs with ⟨e1,e2⟩ | ⟨e1,e2⟩
   ·exact ⟨_,_,e2,.inr ⟨rfl,e1⟩,by decide⟩
   ·exact ⟨_,_,e2,.inl rfl,by decide⟩
  let N:Ae:=L (some (x4,d4)) (some (Al r,0));have t:=AX (AS (F:=f_lies_between) (fa:=Af (Aa 5) pb2) (ρ:=N) (ρ1:=N) (xs:=[(Al r,0),(il lo,0),(il hi,0)]) rfl (zO h1 h2.len h3 hb));have fin:∃ ρ2,pa5 N=.nx ρ2/\ρ2=L (some (Am (pre++[r]) T,1)) (some (Al r,0)):=by
   refine ⟨_,?_,rfl⟩;cases hbt:Em b lo r hi with
   | true=>
    rw [hbt] at t;have cs:=Ji (n:=6) (f:=Aa 3) (elt:=Ab Ay (Aa 5) (Aa 6)) (enc:=λ (j:Nat)=>PV.int (j:Int)) (q:=λ j=>.int (r.getD j 0)) (ρ:=N) (ρ1:=N) (d:=0) ct rfl rfl (λ j hj=>MZ (xs:=r) (k:=(j:Int)) (d:=0) (e:=om) rfl rfl (Dj (by omega) (by rw [D3];exact DD (by rw [h2.len];exact hct j hj)))) (by omega);have cs':Cu (Aa 3) 1 (asgN 6) Be (Ab Ay (Aa 5) (Aa 6)) N=.ok (il (ct.map λ j=>r.getD j 0),om,N):=by
     rw [cs];unfold il;rw [CB];rfl
    have sok:FO (ct.map λ j=>r.getD j 0)=true:=w6 (by rw [A8];omega) (λ x hx=>by
     obtain ⟨j,hj,rfl⟩:=jd1.mp hx;have a1:=h2.lo j (hct j hj);have a2:=h2.hi j (hct j hj)
     omega)
    have sm:=Sm (AJ cs') sok;have cb:=SR h2 hct;have cc:((ct.length * c:Nat):Int)<=1000:=by omega
    rw [JA] at cc;have e1:=WK (f:=An Bm (Af (bC (.int 0)) (Ac))) (ρ:=N) (ρ1:=N) (d:=om) rfl sm (by show -1000000<=C8 ct r/\C8 ct r<=1000000;omega);have e2:=VH e1 (Su (f:=Aa 0) (g:=Aa 5) (R:=R) (h:=g) (r:=r) (d:=0) (e:=0) rfl rfl hr) (by
     have:=hg r hr
     rw [El];show (C8 ct r).toNat + _<=_
     omega)
    refine (CW t).trans (SF (R:=pre) (h:=T) (r:=r) (d:=d4) (e:=0) (x:=x4) e2 rfl hx hd rfl hrp ?_ hpl rfl);show Ep b lo hi ct g r=_;unfold Ep;rw [hbt,if_pos rfl];rfl
   | false=>
    rw [hbt] at t;refine (CY t).trans (SF (R:=pre) (h:=T) (r:=r) (y:=[]) (d:=d4) (e:=0) (x:=x4) (f:=An Bm Ac) (ρ1:=N) rfl rfl hx hd rfl hrp ?_ hpl rfl);show Ep b lo hi ct g r=_;unfold Ep;rw [hbt,if_neg (by simp)]
  obtain ⟨ρ2,f1,rfl⟩:=fin;exact ⟨N,_,rfl,f1,_,_,.inr ⟨by simp,rfl⟩,rfl⟩)
 rcases hs with ⟨e,_⟩ | ⟨_,rfl⟩
 ·exact absurd e hn
 ·have v1:Aj false 4 Fd [] (L none none)=.nx (L (some (.dct [],om)) none):=rfl;exact Ct rfl ((AR v1).trans ((AR (WC (R:=R) (h:=g) (d:=0) rfl rfl v2)).trans rfl))
def zU {n:Nat}{en:List (PV×Nat)->Option (Int×Int)}{fa:Fa}{elt:Fx}{q:Nat->PV}{ρ ρ1:Ae}{as:List (PV×Nat)}{lo hi:Int} (hf:fa ρ=.ok (as,ρ1)) (hen:en as=some (lo,hi)) (hn:ρ1.length=n) (he:∀ k,k < (hi - lo).toNat->elt (ρ1++[some (.int (lo + (k:Int)),om)])=.ok (q k,0,ρ1++[some (.int (lo + (k:Int)),om)])) (hl:(hi - lo).toNat<=Aw):
  ∃ e,CL en fa 1 (asgN n) Be elt ρ=.ok (.lst ((A6 (hi - lo).toNat).map q),e,ρ1):=by
 refine ⟨if D6 ((A6 (hi - lo).toNat).map λ (k:Nat)=>(q k,0)) then om else 1,?_⟩;unfold CL;rw [hf];dsimp only;rw [hen];dsimp only;rw [ML,IV (enc:=λ (k:Nat)=>PV.int (lo + (k:Int))) (p:=λ _=>true) (q:=q) (e:=λ _=>0) (A6 (hi - lo).toNat) ρ1 [] hn (λ _ _=>rfl) (λ x hx _=>he x (jc5.mp hx)) (by simpa using hl),jf0.mpr (λ _ _=>rfl)];show CP ((A6 (hi - lo).toNat).map λ x=>(q x,0)) ρ1=_;unfold CP;rw [CB];rfl
def jP {b c:Nat} (hb:1<=b/\b<=1000) (hc:c<=1000) (hR:∀ n,n<=b->(AF n c).length<=500000):f_rows_of_heights [.int (b:Int),.int (c:Int)]=.ok (.lst ((AF b c).map Al),0,.non):=by
 have z:=sz;let L (x2:PV) (d2:Nat) (s3 s4 s5 s6:QQ.Slot) (d1:Nat):Ae:=[some (.int (b:Int),om),some (.int (c:Int),d1),some (x2,d2),s3,s4,s5,s6]
 have v1:Aj false 2 (An Bm (Af (An BK (Ac)) (Ac))) [] [some (.int (b:Int),om),some (.int (c:Int),om),none,none,none,none,none]=.nx (L (.lst [Al []]) om none none none none om):=rfl;obtain ⟨ρ',v2,d1,d2,s3,s4,s5,s6,hd2,rfl⟩:=Ja (i:=3) (en:=Bn) (fa:=Af (Aa 0) Ac) (body:=(Ah pe5
 (Ah (FH (Aa 2) [2] (asgN 5) pa1)
 (Aj false 2 (Aa 4) [4])))) (ρ:=L (.lst [Al []]) om none none none none om) (ρ1:=L (.lst [Al []]) om none none none none om) (as:=[(.int (b:Int),om)]) (lo:=0) (hi:=(b:Int))
  (λ j ρ=>∃ d1 d2 s3 s4 s5 s6,(0 < j->d2=0)/\ρ=L (.lst ((AF j c).map Al)) d2 s3 s4 s5 s6 d1) rfl (Ez (by (clear z hc hb;omega)) (by (clear z hc;omega))) ⟨om,om,none,none,none,none,λ h=>absurd h (by (clear h z hc hb;omega)),rfl⟩ (by
  rintro j _ hj ⟨d1,d2,s3,s4,s5,s6,_,rfl⟩;have hjb:j < b:=by (clear z hc hb;omega)
  refine ⟨by show 3 < 7;decide,?_⟩;rw [ET];let R:=AF j c;let M (xs:List PV) (d4 d1 d2 d3:Nat) (s5 s6:QQ.Slot):Ae:=[some (.int (b:Int),om),some (.int (c:Int),d1),some (.lst (R.map Al),d2),some (.int (j:Int),d3),some (.lst xs,d4),s5,s6]
  let nx (r:List Int):List (List Int):=(Dp 0 (Bf c c r + 1)).map λ x=>r++[x];have hnx:AF (j + 1) c=R.flatMap nx:=rfl;obtain ⟨ρ2,e2,d1',d3',d4',s5',s6',hd4,rfl⟩:=JW (asg:=asgN 5) (enc:=Al) (body:=pa1) (λ pre ρ=>∃ d1 d3 d4 s5 s6,d4≠0/\ρ=M ((pre.flatMap nx).map Al) d4 d1 0 d3 s5 s6) R [] (M [] om d1 0 om s5 s6) ⟨d1,om,om,s5,s6,by decide,rfl⟩ (by
   rintro pre r post _ ep ⟨d1,d3,d4,s5,s6,hd4,rfl⟩;rw [EU] at ep;have hr:r∈R:=by rw [ep];exact BV _ AH
   have h2:=zqx.mp hr;let N (d1 d5:Nat) (s6:QQ.Slot):Ae:=M ((pre.flatMap nx).map Al) d4 d1 0 d3 (some (Al r,d5)) s6;have ht:∃ m:Nat,Bf c c r=(m:Int)/\m<=c/\Cd (bT pc2) pb4 (Aa 1) (N d1 0 s6)=.ok (.int (m:Int),om,N d1 0 s6):=by
    have tt:bT pc2 (N d1 0 s6)=.ok (decide (0 < (j:Int)),N d1 0 s6):=AX (Iv (p:=λ i j=>decide (j < i)) (i:=(j:Int)) (j:=0) (d:=om) (e:=om) rfl rfl);cases j with
    | zero=>
     refine ⟨c,?_,AB _,?_⟩
     ·unfold Bf;rw [je9.mp h2.len];simp only [Tu];(clear hjb hj hd4 z hc hb;omega)
     ·unfold Cd;rw [tt];rfl
    | succ i=>
     have g1:=PJ h2.len;have g2:=h2.lo i (by (clear hjb hj hd4 z hc hb;omega));have g3:=h2.hi i (by (clear g2 hjb hj hd4 z hc hb;omega));obtain ⟨m,hm⟩:∃ m:Nat,r.getD i 0=(m:Int):=⟨(r.getD i 0).toNat,by (clear g3 hjb hj hd4 z hc hb;omega)⟩
     refine ⟨m,?_,by (clear g2 hjb hj hd4 z hc hb;omega),?_⟩
     ·unfold Bf;rw [g1];simp only;(clear g2 hjb hj hd4 z hc hb;omega)
     ·unfold Cd;rw [tt];dsimp only [Rz.bind];rw [if_pos (by rw [decide_eq_true_iff];(clear hm g3 g2 hjb hj hd4 z hc hb;omega))];refine MZ (xs:=r) (k:=-1) (d:=0) (e:=om) rfl rfl ?_;unfold BJ DM;rw [if_neg (by decide),if_pos (by rw [h2.len];(clear hm g3 g2 hjb hj hd4 z hc hb;omega)),h2.len,<- hm];rw [show (-1 + ((i + 1:Nat):Int)).toNat=i by (clear hm g3 g2 hjb hj hd4 z hc hb;omega)];exact DD (by rw [h2.len];(clear hm g3 g2 hjb hj hd4 z hc hb;omega))
   obtain ⟨m,tm,hmc,ev⟩:=ht;have w1:Aj false 6 (Cd (bT pc2) pb4 (Aa 1)) [5,1] (N d1 0 s6)=.nx (N d1 0 (some (.int (m:Int),om))):=Bq ev (show 6 < 7 by decide) rfl;have ct:∃ e,CL Bn (Af pd8 (Ac)) 1 (asgN 7) Be (Ab Bo (Aa 5) pe8) (N d1 0 (some (.int (m:Int),om)))=.ok (.lst ((nx r).map Al),e,N d1 0 (some (.int (m:Int),om))):=by
    let W:Ae:=N d1 0 (some (.int (m:Int),om));have e1:(nx r).map Al=(A6 (m + 1)).map λ (k:Nat)=>Al (r++[(0:Int) + (k:Int)]):=by
     show ((Dp 0 (Bf c c r + 1)).map λ x=>r++[x]).map Al=_;unfold Dp;rw [tm,CB,CB,show ((m:Int) + 1 - 0).toNat=m + 1 by (clear hmc tm hd4 hjb hj z hc hb;omega)];rfl
    have hc:=zU (n:=7) (en:=Bn) (fa:=Af pd8 (Ac)) (elt:=Ab Bo (Aa 5) pe8) (q:=λ k=>Al (r++[(0:Int) + (k:Int)])) (ρ:=W) (ρ1:=W) (as:=[(.int ((m:Int) + 1),om)]) (lo:=0) (hi:=(m:Int) + 1) rfl (Ez (by (clear hmc tm hd4 hjb hj z hc hb;omega)) (by (clear tm hd4 hjb hj z hb;omega))) rfl (λ k hk=>by
     exact SN (f:=Aa 5) (h:=An BK (Af (Aa 7) (Ac))) (xs:=r) (ys:=[(0:Int) + (k:Int)]) (d:=0) (e:=om) rfl rfl (by rw [h2.len,EA];(clear hk hmc tm hd4 hjb z hc;omega))) (by (clear tm hd4 hjb hj hb;omega))
    rw [show ((m:Int) + 1 - 0).toNat=m + 1 by (clear hmc tm hd4 hjb hj z hb;omega),<- e1] at hc;exact hc
   obtain ⟨e,ct⟩:=ct;have hjl:(AF (j + 1) c).length<=500000:=hR (j + 1) (by (clear hmc tm hd4 hjb z hc hb;omega));have hln:((pre.flatMap nx).map Al).length + ((nx r).map Al).length<=Aw:=by
    have:(AF (j + 1) c).length=(pre.flatMap nx).length + ((nx r).length + (post.flatMap nx).length):=by
     rw [hnx,ep,Pm,IL,BI,BI]
    rw [A8,A8]
    (clear hmc tm hd4 hjb hj hc hb;omega)
   have w2:Dz 4 pc9 [5] (N d1 0 (some (.int (m:Int),om)))=.nx (M (((pre++[r]).flatMap nx).map Al) 1 d1 0 d3 (some (Al r,0)) (some (.int (m:Int),om))):=by
    obtain ⟨k,rfl⟩:∃ k,d4=k + 1:=⟨d4 - 1,by (clear hln hjl hmc tm hjb hj z hc hb;omega)⟩
    have hcool:Bj e [5] (N d1 0 (some (.int (m:Int),om)))=N d1 0 (some (.int (m:Int),om)):=by
     unfold Bj;split <;> rfl
    refine VR (xs:=(pre.flatMap nx).map Al) (xs0:=(pre.flatMap nx).map Al) (d0:=k) (d:=k + 1) rfl ct (by rw [hcool];rfl) (by (clear hd4 hln hjl hmc tm hjb hj z hc hb;omega)) hln ?_;rw [hcool,Pm,DL];simp only [IL,List.flatMap_nil,JB];rfl
   exact ⟨N d1 0 s6,_,rfl,(AR w1).trans w2,d1,d3,1,_,_,by decide,rfl⟩)
  have u1:Aj false 4 (An Bm (Ac)) [] (L (.lst (R.map Al)) d2 (some (.int (j:Int),om)) s4 s5 s6 d1)=.nx (M [] om d1 d2 om s5 s6):=rfl;have u2:FH (Aa 2) [2] (asgN 5) pa1 (M [] om d1 d2 om s5 s6)=_:=WL (els:=R.map Al) (d:=0) rfl rfl e2
  refine ⟨_,(AR u1).trans ((AR u2).trans (Bq (x:=.lst (((([]:List (List Int))++R).flatMap nx).map Al)) (d:=0) rfl (show 2 < 7 by decide) rfl)),d1',0,some (.int (j:Int),d3'),some (.lst (((([]:List (List Int))++R).flatMap nx).map Al),0),s5',s6',λ _=>rfl,?_⟩
  rfl)
 rw [show ((b:Int) - 0).toNat=b by (clear z hc hb;omega)] at v2;have hd:d2=0:=hd2 (by (clear z hc;omega));subst hd;exact Ct rfl ((AR v1).trans ((AR v2).trans rfl))
structure BoxT (a b c:Nat):Prop where
 ha:1<=a/\a<=100
 hb:1<=b/\b<=100
 hc:c<=100
 dk:DN ((AF b c).map AG)=true
 rl:∀ n,n<=b->(AF n c).length<=500000
def Qw {b c:Nat}:AF b c≠[]:=λ e=>by
 have:AL b (0:Int)∈AF b c:=zqx.mpr ⟨El,λ j hj=>by simp [AM,EB,hj],λ j hj=>by simp [AM,EB,hj],λ j hj=>by simp [AM,EB,hj,show j < b by omega]⟩
 rw [e] at this;cases this
def CI (r:List Int):List Int:=if r.sum=0 then [1] else []
def C0 (a b:Nat) (c:Int) (lo hi:Nat->List Int) (ct:Nat->List Nat):Nat->List Int->List Int
 | 0=>CI
 | k + 1=>Ep b (lo (a - 1 - k)) (hi (a - 1 - k)) (ct (a - 1 - k)) (Dy b c (C0 a b c lo hi ct k))
theorem Nw {a b c:Nat}{lo hi:Nat->List Int}{ct:Nat->List Nat}{m:Nat} (hct:∀ i,(ct i).length<=m) (hcb:∀ i,∀ j∈ct i,j < b):∀ (k:Nat),∀ r∈AF b c,(C0 a b c lo hi ct k r).length<=1 + k * (m * c)
 | 0,r,_=>by
  unfold C0 CI;split <;> simp
 | k + 1,r,hr=>by
  have ih:=Nw (a:=a) (b:=b) (c:=c) (lo:=lo) (hi:=hi) hct hcb k;unfold C0 Ep;split
  ·rw [BI,El];have h1:(Dy b c (C0 a b c lo hi ct k) r).length<=1 + k * (m * c):=Kh λ q hq=>ih q (je1.mp hq).1;have h2:=(SR (zqx.mp hr) (hcb (a - 1 - k))).2;have h3:(ct (a - 1 - k)).length * c<=m * c:=KJ _ (hct _);have h4:(C8 (ct (a - 1 - k)) r).toNat<=m * c:=by
    have:(((ct (a - 1 - k)).length * c:Nat):Int)=((ct (a - 1 - k)).length:Int) * (c:Int):=JA _ _
    omega
   have h5:(k + 1) * (m * c)=k * (m * c) + m * c:=by rw [YA,Y9]
   omega
  ·simp
def Cq (ps:List (Nat×Nat)) (i:Nat):List Nat:=(ps.filter λ z=>decide (z.1=i)).map (·.2)
def MU {ps:List (Nat×Nat)}{b i:Nat} (h:∀ z∈ps,z.2 < b):∀ j∈Cq ps i,j < b:=λ j hj=>by
 obtain ⟨z,hz,rfl⟩:=jd1.mp hj;exact h z (je1.mp hz).1
def vN {fa:Fa}{asg:PV->Ae->Option Ae}{body:Fs}{ρ ρ1:Ae}{r:Rs}{as:List (PV×Nat)}{i:Int}{n:Nat} (hf:fa ρ=.ok (as,ρ1)) (hen:K2 as=some (i,n)) (h:BO asg body (GG i n) ρ1=r):Jg fa asg body ρ=r:=by
 unfold Jg;rw [hf];dsimp only;rw [hen];exact h
def vM {i j:Int}{d1 d2 d3:Nat} (h1:-(2 ^ 40)<=i) (h2:i < 2 ^ 40) (h3:-(2 ^ 40)<=j) (h4:j < 2 ^ 40):K2 [(.int i,d1),(.int j,d2),(.int (-1),d3)]=some (i,(i - j).toNat):=by
 show (if (-1:Int)=-1/\-(2 ^ 40)<=i/\i < 2 ^ 40/\-(2 ^ 40)<=j/\j < 2 ^ 40 then some (i,(i - j).toNat) else none)=_;rw [if_pos ⟨rfl,h1,h2,h3,h4⟩]
def yF {a b c:Nat} (B:BoxT a b c) {low high:List (List Int)} (hl:Tab a b low) (hh:Tab a b high) {ps:List (Nat×Nat)} (hp:∀ z∈ps,z.2 < b) {m:Nat} (hm:∀ i,(Cq ps i).length<=m) (hmc:1 + a * (m * c)<=1000) (hpl:ps.length<=1000):
  ∃ d,f_tables_between [bx a b c,tb low,tb high,.lst (ps.map pr)]=.ok (.lst ((A6 a).map λ k=>Am (AF b c) (C0 a b c (λ i=>low.getD i []) (λ i=>high.getD i []) (Cq ps) (k + 1))).reverse,d,.non):=by
 have z:=sz;obtain ⟨ha,hb,hc,dk,rl⟩:=B;let R:=AF b c;let T:=C0 a b c (λ i=>low.getD i []) (λ i=>high.getD i []) (Cq ps);have hRl:R.length < 1000000:=by have:=rl b (AB _);show (AF b c).length < _;(clear hc hb ha z hpl hmc;omega)
 let L (d5 d6:Nat) (s7 s8 s9 s10 s11:QQ.Slot):Ae:=[some (bx a b c,0),some (tb low,0),some (tb high,0),some (.lst (ps.map pr),0),some (.int (a:Int),om),some (.int (b:Int),d5),some (.int (c:Int),d6),s7,s8,s9,s10,s11]
 have v1:Cn (asgT [4,5,6]) (Aa 0) [0] [some (bx a b c,0),some (tb low,0),some (tb high,0),some (.lst (ps.map pr),0),none,none,none,none,none,none,none,none]=.nx (L om om none none none none none):=rfl;have v2:Aj false 7 Fd [] (L om om none none none none none)=.nx (L om om (some (.dct [],om)) none none none none):=rfl;obtain ⟨ρ3,e3,s8,s7,hs,rfl⟩:=JW (asg:=asgN 8) (enc:=Al) (body:=E1 7 (Aa 8) pb1) (λ pre ρ=>∃ s8 s7,((pre=[]/\s7=some (.dct [],om))\/(pre≠[]/\s7=some (Am pre CI,1)))/\ρ=L 0 0 s7 s8 none none none) R [] (L 0 0 (some (.dct [],om)) none none none none) ⟨none,_,.inl ⟨rfl,rfl⟩,rfl⟩ (by
  rintro pre r post _ ep ⟨s8,s7,hs,rfl⟩;rw [EU] at ep;have hrp:r∉pre:=λ z=>by
   have:=JY b c
   rw [show AF b c=pre++r::post from ep,Ts] at this;exact this.2.2 r z r AH rfl
  have hpl:pre.length < 1000000:=by
   have:R.length=pre.length + (post.length + 1):=by rw [ep];simp
   (clear hc hb ha z hpl hmc;omega)
  obtain ⟨x4,d4,rfl,hx,hd⟩:∃ x4 d4,s7=some (x4,d4)/\(x4=Am pre CI\/(x4=.dct []/\pre=[]))/\d4≠0:=by
   rcases hs with ⟨e1,e2⟩ | ⟨e1,e2⟩
   ·exact ⟨_,_,e2,.inr ⟨rfl,e1⟩,by decide⟩
   ·exact ⟨_,_,e2,.inl rfl,by decide⟩
  let N:Ae:=L 0 0 (some (x4,d4)) (some (Al r,0)) none none none;have e1:An Hb (Af (Aa 8) (Ac)) N=.ok (.int r.sum,om,N):=by
   refine Ck (xs:=[(Al r,0)]) rfl ?_;show (match Fi (r.map PV.int) with | some ns=>some (PV.int ns.sum,om) | none=>none)=_;rw [MF]
  have e2:bT pc8 N=.ok (false^^decide (r.sum=0),N):=AX (K3 (neg:=false) (g:=bC (.int 0)) (j:=0) (e:=om) e1 rfl);have e3:Cd (bT pc8) (An Bm (Af (bC (.int 1)) (Ac))) (An Bm (Ac)) N=.ok (il (CI r),om,N):=by
   unfold Cd;rw [e2];dsimp only [Rz.bind];rw [Pa];unfold CI;by_cases h0:r.sum=0
   ·rw [decide_eq_true h0,if_pos rfl,if_pos h0];rfl
   ·rw [decide_eq_false h0,if_neg (by simp),if_neg h0];rfl
  exact ⟨N,_,rfl,SF (R:=pre) (h:=CI) (r:=r) (d:=d4) (e:=0) (x:=x4) e3 rfl hx hd rfl hrp rfl hpl rfl,some (Al r,0),_,.inr ⟨by simp,rfl⟩,rfl⟩)
 have hs:s7=some (Am R CI,1):=by
  rcases hs with ⟨e,_⟩ | ⟨_,e⟩
  ·exact absurd e Qw
  ·exact e
 subst hs;have v3:FH (A9 f_rows_of_heights pe0) [5,6] (asgN 8) (E1 7 (Aa 8) pb1) (L om om (some (.dct [],om)) none none none none)=.nx (L 0 0 (some (Am R CI,1)) s8 none none none):=WL (els:=R.map Al) (d:=0) (AS (xs:=[(.int (b:Int),om),(.int (c:Int),om)]) rfl (jP (by (clear hRl hc ha z hpl hmc;omega)) (by (clear hRl hb ha z hpl hmc;omega)) rl)) rfl e3;have v4:Aj false 9 (An Bm (Ac)) [] (L 0 0 (some (Am R CI,1)) s8 none none none)=.nx (L 0 0 (some (Am R CI,1)) s8 (some (.lst [],om)) none none):=rfl;obtain ⟨ρ5,e5,d7,d9,s10,s11,hd9,rfl⟩:=PM (asg:=asgN 10) (body:=pa2) (GG ((a:Int) - 1) a) (λ k ρ=>∃ d7 d9 s10 s11,d9≠0/\ρ=L 0 0 (some (Am R (T k),d7)) s8 (some (.lst ((A6 k).map λ t=>Am R (T (t + 1))),d9)) s10 s11) (L 0 0 (some (Am R CI,1)) s8 (some (.lst [],om)) none none) ⟨1,om,none,none,by decide,rfl⟩ (by
  rintro k x _ hx ⟨d7,d9,s10,s11,hd9,rfl⟩;unfold GG at hx;rw [C5] at hx;have hk:k < a:=by
   cases e:(A6 a)[k]? with
   | none=>rw [e] at hx;cases hx
   | some t=>have:=(jb0.mp e).1;simpa using this
  rw [Mx hk] at hx;obtain rfl:PV.int ((a:Int) - 1 - (k:Int))=x:=Option.some.inj hx;let i:=a - 1 - k;have hi:i < a:=by show a - 1 - k < a;(clear hk hd9 hRl hc hb z hpl hmc;omega)
  have ei:(a:Int) - 1 - (k:Int)=(i:Int):=by show _=((a - 1 - k:Nat):Int);(clear hi hd9 hRl hc hb ha z hpl hmc;omega)
  rw [ei];let N (d7 d10:Nat) (s11:QQ.Slot):Ae:=L 0 0 (some (Am R (T k),d7)) s8 (some (.lst ((A6 k).map λ t=>Am R (T (t + 1))),d9)) (some (.int (i:Int),d10)) s11;have w1:Aj false 11 (Cu (Aa 3) 1 (asgN 12) (bT pc0) pe6) [3,3] (N d7 om s11)=.nx (N d7 om (some (.lst ((Cq ps i).map λ (j:Nat)=>.int (j:Int)),om))):=by
   have cf:=Xx (n:=12) (f:=Aa 3) (enc:=pr) (q:=λ z=>.int (z.2:Int)) (p:=λ z=>decide (z.1=i)) (test:=bT pc0) (elt:=Ab Ay (Aa 12) (bC (.int 1))) (ρ:=N d7 om s11) (ρ1:=N d7 om s11) (d:=0) ps rfl rfl (λ z _=>by
    have e1:Ab Ay (Aa 12) (bC (.int 0)) (N d7 om s11++[some (pr z,dv (pr z))])=.ok (.int (z.1:Int),om,N d7 om s11++[some (pr z,dv (pr z))]):=rfl;have e2:=AX (K3 (neg:=false) (g:=Aa 10) (j:=(i:Int)) (e:=om) e1 rfl);have e4:decide ((z.1:Int)=(i:Int))=decide (z.1=i):=by
     rw [E8,decide_eq_true_iff,decide_eq_true_iff]
     (clear ei hi hk hd9 hRl hc hb ha hpl hmc;omega)
    rw [e2,Pa,e4]) (λ z _ _=>rfl) (by (clear ei hi hk hd9 hRl hc hb ha hmc;omega))
   have cf':Cu (Aa 3) 1 (asgN 12) (bT pc0) pe6 (N d7 om s11)=.ok (.lst ((Cq ps i).map λ (j:Nat)=>.int (j:Int)),om,N d7 om s11):=by
    rw [cf];unfold Cq;rw [CB];rfl
   exact Bq cf' (show 11 < 12 by decide) rfl
  let N2:Ae:=N d7 om (some (.lst ((Cq ps i).map λ (j:Nat)=>.int (j:Int)),om));have hkm:1 + k * (m * c)<=1000:=by
   have:k * (m * c)<=a * (m * c):=KJ _ (by (clear ei hi hd9 hRl hc hb ha z hpl hmc;omega))
   (clear ei hi hk hd9 hRl hc hb ha z hpl;omega)
  have tl:∀ r∈R,(T k r).length<=1000:=λ r hr=>Cw (Nw hm (λ i=>MU hp) k r hr) hkm;have c1:A9 f_sums_of_lower_rows (Af (Aa 7) (Af (Aa 5) (Ac))) N2=.ok (Am R (Dy b c (T k)),1,N2):=AS (xs:=[(Am R (T k),0),(.int (b:Int),om)]) rfl (ka (by (clear hkm ei hi hk hd9 hRl hc ha z hpl hmc;omega)) dk Qw hRl tl);have gl:low[i]?=some (low.getD i []):=IW (by rw [hl.1];exact hi);have gh:high[i]?=some (high.getD i []):=IW (by rw [hh.1];exact hi);have c2:Ab Ay (Aa 1) (Aa 10) N2=.ok (il (low.getD i []),0,N2):=OJ (t:=low) (k:=(i:Int)) (d:=0) (e:=om) rfl rfl (Dj (by (clear hkm ei hi hk hd9 hRl hc hb ha z hpl hmc;omega)) (by rw [D3];exact gl));have c3:Ab Ay (Aa 2) (Aa 10) N2=.ok (il (high.getD i []),0,N2):=OJ (t:=high) (k:=(i:Int)) (d:=0) (e:=om) rfl rfl (Dj (by (clear hkm ei hi hk hd9 hRl hc hb ha z hpl hmc;omega)) (by rw [D3];exact gh));have hcm:(Cq ps i).length * c<=1000:=by
   have e1:(Cq ps i).length * c<=m * c:=KJ _ (hm i);have e2:1 * (m * c)<=a * (m * c):=KJ _ (by (clear e1 hkm ei hi hk hd9 hRl hc hb z hpl hmc;omega))
   (clear hkm ei hi hk hd9 hRl hc hb ha z hpl;omega)
  have hcl:(Cq ps i).length<=1000:=by
   unfold Cq;rw [A8];exact Cw (T3 _ _) hpl
  have rt:=ZL (b:=b) (c:=c) (lo:=low.getD i []) (hi:=high.getD i []) (ct:=Cq ps i) (g:=Dy b c (T k)) (Tab.row hl hi) (Tab.row hh hi) (by (clear hcl hcm hkm ei hi hk hd9 hRl hc ha z hpl hmc;omega)) (MU hp) ⟨hcm,hcl,by (clear hcl hcm hkm ei hi hk hd9 hRl hb ha z hpl hmc;omega)⟩ Qw hRl (λ r hr=>Kh λ q hq=>tl q (je1.mp hq).1);have w2:Aj false 7 pb9 [7,5,1,10,2,10,11] N2=.nx (L 0 0 (some (Am R (T (k + 1)),1)) s8 (some (.lst ((A6 k).map λ t=>Am R (T (t + 1))),d9)) (some (.int (i:Int),0)) (some (.lst ((Cq ps i).map λ (j:Nat)=>.int (j:Int)),0))):=
   Bq (x:=Am R (T (k + 1))) (d:=1) (AS (xs:=[(Am R (Dy b c (T k)),1),(il (low.getD i []),0),(il (high.getD i []),0),(.lst ((Cq ps i).map λ (j:Nat)=>.int (j:Int)),0)]) (A7 c1 (A7 c2 (A7 c3 (AJ rfl)))) rt) (show 7 < 12 by decide) rfl
  have w3:BZ 9 (Aa 7) [7] (L 0 0 (some (Am R (T (k + 1)),1)) s8 (some (.lst ((A6 k).map λ t=>Am R (T (t + 1))),d9)) (some (.int (i:Int),0)) (some (.lst ((Cq ps i).map λ (j:Nat)=>.int (j:Int)),0)))=.nx (L 0 0 (some (Am R (T (k + 1)),0)) s8 (some (.lst ((A6 (k + 1)).map λ t=>Am R (T (t + 1))),1)) (some (.int (i:Int),0)) (some (.lst ((Cq ps i).map λ (j:Nat)=>.int (j:Int)),0))):=by
   obtain ⟨e,rfl⟩:∃ e,d9=e + 1:=⟨d9 - 1,by (clear hcl hcm hkm ei hi hk hRl hc hb ha z hpl hmc;omega)⟩
   refine Kk (xs0:=(A6 k).map λ t=>Am R (T (t + 1))) (xs:=(A6 k).map λ t=>Am R (T (t + 1))) (d0:=e) (d:=e + 1) (y:=Am R (T (k + 1))) (e:=0) rfl rfl rfl (by (clear hd9 hcl hcm hkm ei hi hk hRl hc hb ha z hpl hmc;omega)) (by rw [A8,Ek];(clear hd9 hcl hcm hkm ei hi hRl hc hb hpl hmc;omega)) ?_;rw [if_neg (λ h=>absurd h.2 (by decide)),Fv,DL];rfl
  exact ⟨N d7 om s11,_,rfl,(AR w1).trans ((AR w2).trans w3),0,1,some (.int (i:Int),0),some (.lst ((Cq ps i).map λ (j:Nat)=>.int (j:Int)),0),by decide,rfl⟩)
 have hdl:(GG ((a:Int) - 1) a).length=a:=by unfold GG;rw [A8,Ek]
 rw [hdl] at e5;have v5:Jg pd3 (asgN 10) pa2 (L 0 0 (some (Am R CI,1)) s8 (some (.lst [],om)) none none)=.nx (L 0 0 (some (Am R (T a),d7)) s8 (some (.lst ((A6 a).map λ t=>Am R (T (t + 1))),d9)) s10 s11):=by
  have en:K2 [(.int ((a:Int) - 1),om),(.int (-1),om),(.int (-1),om)]=some ((a:Int) - 1,a):=by
   rw [vM (by (clear hdl hd9 hRl hc hb ha z hpl hmc;omega)) (by (clear hdl hd9 hRl hc hb z hpl hmc;omega)) (by (clear hdl hd9 hRl hc hb ha z hpl hmc;omega)) (by (clear hdl hd9 hRl hc hb ha z hpl hmc;omega)),show ((a:Int) - 1 - -1).toNat=a by (clear hdl hd9 hRl hc hb ha z hpl hmc;omega)]
  exact vN (as:=[(.int ((a:Int) - 1),om),(.int (-1),om),(.int (-1),om)]) rfl en e5
 exact ⟨_,Ct rfl ((AR v1).trans ((AR v2).trans ((AR v3).trans ((AR v4).trans ((AR v5).trans (Dn (VC (x:=.lst ((A6 a).map λ t=>Am R (T (t + 1)))) (d:=0) rfl rfl)))))))⟩
theorem Qb {f:List Int->List Int}:∀ (l:List (List Int)) (acc:List Int),l.foldl (λ s r=>Aq s (f r)) acc=Aq acc (sumT f l)
 | [],acc=>(GY acc).symm
 | r::l,acc=>by rw [YO,Qb l,Ik,La]
def Eo (a b c:Nat) (low high:List (List Int)) (ps:List (Nat×Nat)):List Int:=sumT (C0 a b c (λ i=>low.getD i []) (λ i=>high.getD i []) (Cq ps) a) (AF b c)
def vX {a b c:Nat} (B:BoxT a b c) {low high:List (List Int)} (hl:Tab a b low) (hh:Tab a b high) {ps:List (Nat×Nat)} (hp:∀ z∈ps,z.2 < b) {m:Nat} (hm:∀ i,(Cq ps i).length<=m) (hmc:1 + a * (m * c)<=1000) (hpl:ps.length<=1000):
  f_tally_between [bx a b c,tb low,tb high,.lst (ps.map pr)]=.ok (il (Eo a b c low high ps),om,.non):=by
 have z:=sz;obtain ⟨dt,ht⟩:=yF B hl hh hp hm hmc hpl;let R:=AF b c;let T:=C0 a b c (λ i=>low.getD i []) (λ i=>high.getD i []) (Cq ps);let L (s4 s5:QQ.Slot):Ae:=[some (bx a b c,0),some (tb low,0),some (tb high,0),some (.lst (ps.map pr),0),s4,s5]
 have v1:Aj false 4 (An Bm (Ac)) [] (L none none)=.nx (L (some (il [],om)) none):=rfl;have tl:∀ r∈R,(T a r).length<=1000:=λ r hr=>Cw (Nw hm (λ i=>MU hp) a r hr) hmc;obtain ⟨ρ',e2,s5,rfl⟩:=JW (asg:=asgN 5) (enc:=λ r=>il (T a r)) (body:=Aj false 4 (A9 f_added pb6) [4,5]) (λ pre ρ=>∃ s5,ρ=L (some (il (pre.foldl (λ s r=>Aq s (T a r)) []),om)) s5) R [] (L (some (il [],om)) none) ⟨none,rfl⟩ (by
  rintro pre r post _ ep ⟨s5,rfl⟩;rw [EU] at ep;have hr:r∈R:=by rw [ep];exact BV _ AH
  have hpre:(pre.foldl (λ s r=>Aq s (T a r)) []).length<=1000:=by
   rw [Qb];exact Kh λ q hq=>tl q (by rw [ep];exact BU _ hq)
  refine ⟨L (some (il (pre.foldl (λ s r=>Aq s (T a r)) []),om)) (some (il (T a r),0)),_,rfl,Bq (x:=il (Aq (pre.foldl (λ s r=>Aq s (T a r)) []) (T a r))) (d:=om) (AS (xs:=[(il (pre.foldl (λ s r=>Aq s (T a r)) []),0),(il (T a r),0)]) rfl (X9 hpre (tl r hr))) (show 4 < 6 by decide) rfl,some (il (T a r),0),?_⟩;rw [List.foldl_append]
  rfl)
 have hidx:Ab Ay (A9 f_tables_between (Af (Aa 0) (Af (Aa 1) pb5))) (bC (.int 0)) (L (some (il [],om)) none)=.ok (Am R (T a),0,L (some (il [],om)) none):=by
  refine Cs (AS (xs:=[(bx a b c,0),(tb low,0),(tb high,0),(.lst (ps.map pr),0)]) rfl ht) (y:=.int 0) (e:=om) rfl ?_;show (BJ _ 0).map _=_;rw [Dj (x:=Am R (T a)) (by decide) ?_]
  ·rfl
  ·obtain ⟨k,rfl⟩:∃ k,a=k + 1:=⟨a - 1,by have:=B.ha;omega⟩
   show (List.reverse _)[0]?=_;rw [Fv,DL,List.reverse_append];rfl
 have v2:=jf (asg:=asgN 5) (body:=Aj false 4 (A9 f_added pb6) [4,5]) (vs:=[0,1,2,3]) (ρ2:=L (some (il [],om)) none) hidx rfl e2;have he:([]++R).foldl (λ s r=>Aq s (T a r)) []=Eo a b c low high ps:=by
  rw [EU,Qb];rfl
 rw [he] at v2;exact Ct rfl ((AR v1).trans ((AR v2).trans rfl))
def ID (a b:Nat) (x:Int):List (List Int):=AL a (AL b x)
def wF (a b:Nat) (x:Int):Tab a b (ID a b x):=⟨El,λ r hr=>by rw [(jq7.mp hr).2,El]⟩
def A0 {α:Type} (f:α->Int) (l:List α):Int:=(l.map f).sum
def DE {α:Type}{f:α->Int}{x:α}{l:List α}:A0 f (x::l)=f x + A0 f l:=rfl
theorem XT {α:Type}{f:α->Int}:∀ (l m:List α),A0 f (l++m)=A0 f l + A0 f m
 | [],m=>by simp [A0]
 | x::l,m=>by rw [Fw,DE,DE,XT l m];omega
theorem Et {α:Type}{f g:α->Int}:∀ {l:List α},(∀ x∈l,f x=g x)->A0 f l=A0 g l
 | [],_=>rfl
 | x::l,h=>by rw [DE,DE,h x AH,Et λ y hy=>h y (AI _ hy)]
theorem Q1 {α β:Type}{f:β->Int}{h:α->List β}:∀ (l:List α),A0 f (l.flatMap h)=A0 (λ x=>A0 f (h x)) l
 | []=>rfl
 | x::l=>by rw [IL,XT,Q1 l,DE]
def XU {α β:Type}{f:β->Int}{h:α->β}{l:List α}:A0 f (l.map h)=A0 (λ x=>f (h x)) l:=by
 unfold A0;rw [CB];rfl
theorem Qy {α:Type}:∀ (l:List α),A0 (λ _=>1) l=(l.length:Int)
 | []=>rfl
 | x::l=>by rw [DE,Qy l,Bh];omega
theorem MI {α:Type}{f:α->Int}{p q:α->Bool}:∀ (l:List α),A0 (λ x=>if q x=true then f x else 0) (l.filter p)=A0 f (l.filter λ x=>p x && q x)
 | []=>rfl
 | x::l=>by
  have ih:=MI (f:=f) (p:=p) (q:=q) l;rw [E9,E9];cases hp:p x with
  | false=>simpa using ih
  | true=>
   cases hq:q x with
   | false=>simp only [if_true,Pb,GR,if_false,DE,hq,ih];omega
   | true=>simp only [if_true,J9,DE,hq,ih]
theorem UP {α:Type}{f:α->Int}:∀ {l:List α},(∀ x∈l,0<=f x)->0<=A0 f l
 | [],_=>D1 _
 | x::l,h=>by
  have h1:=h x AH;have h2:=UP (f:=f) (l:=l) λ y hy=>h y (AI _ hy);rw [DE];omega
theorem Nv {f:List Int->List Int}:∀ (l:List (List Int)),(sumT f l).sum=A0 (λ r=>(f r).sum) l
 | []=>rfl
 | r::l=>by rw [Ik,Qk,Nv l,DE]
def Ed (a b:Nat) (c:Int) (lo hi:Nat->List Int) (k:Nat) (r:List Int):Int:=(C0 a b c lo hi (λ _=>[]) k r).sum
def Ht (a b:Nat) (c:Int) (lo hi:Nat->List Int) (k:Nat) (ah:Nat->Int):Int:=A0 (Ed a b c lo hi k) ((AF b c).filter λ q=>(A6 b).all λ i=>decide (q.getD i 0<=ah i))
theorem MC:∀ (n:Nat) (l:List Int),(AL n (0:Int)++l).sum=l.sum
 | 0,l=>rfl
 | n + 1,l=>by rw [Gh,Fw,II,MC n l];omega
def Yc {a b:Nat}{c:Int}{lo hi:Nat->List Int}{k:Nat}{r:List Int}:Ed a b c lo hi (k + 1) r=if Em b (lo (a - 1 - k)) r (hi (a - 1 - k))=true then Ht a b c lo hi k (λ i=>r.getD i 0) else 0:=by
 show (Ep b _ _ _ _ r).sum=_;unfold Ep;split
 ·rw [MC];exact Nv _
 ·rfl
theorem P9:∀ {r:List Int},(∀ j,j < r.length->0<=r.getD j 0)->r.sum=0->r=AL r.length 0
 | [],_,_=>rfl
 | x::r,h,e=>by
  have h0:=h 0 (by simp);have hr:∀ j,j < r.length->0<=r.getD j 0:=λ j hj=>by simpa using h (j + 1) (by simpa using hj)
  have hs:∀ (r:List Int),(∀ j,j < r.length->0<=r.getD j 0)->0<=r.sum:=by
   intro r;induction r with
   | nil=>intro _;simp
   | cons y r ih=>
    intro h
    have:=h 0 (by simp)
    have:=ih λ j hj=>by simpa using h (j + 1) (by simpa using hj)
    simp at *;omega
  have h1:=hs r hr;rw [II] at e;simp at h0;have ex:x=0:=by omega
  have er:r.sum=0:=by omega
  rw [Bh,Gh,<- P9 hr er,ex]
def wA {a b:Nat}{c:Int}{lo hi:Nat->List Int}{ah:Nat->Int} (hc:0<=c) (h:∀ i,i < b->0<=ah i):Ht a b c lo hi 0 ah=1:=by
 let z:=AL b (0:Int);have zg:∀ j,z.getD j 0=0:=λ j=>by
  show (AL b (0:Int)).getD j 0=0;rw [AM,EB];split <;> rfl
 have zm:z∈AF b c:=zqx.mpr ⟨El,λ j _=>by rw [zg];omega,λ j _=>by rw [zg];exact hc,λ j _=>by rw [zg,zg];omega⟩;unfold Ht;have e1:A0 (Ed a b c lo hi 0) ((AF b c).filter λ q=>(A6 b).all λ i=>decide (q.getD i 0<=ah i))=A0 (λ r=>if decide (r=z)=true then (1:Int) else 0) ((AF b c).filter λ q=>(A6 b).all λ i=>decide (q.getD i 0<=ah i)):=by
  refine Et λ r hr=>?_;have hr:=zqx.mp (je1.mp hr).1;show (CI r).sum=_;unfold CI;by_cases e:r=z
  ·have hz:r.sum=0:=by
    have:=MC b []
    rw [JB] at this;rw [e];exact this
   rw [if_pos hz,if_pos (decide_eq_true e)];rfl
  ·have hz:¬ r.sum=0:=λ h0=>e (by
    have:=P9 (λ j hj=>hr.lo j (by rw [<- hr.len];exact hj)) h0
    rw [this,hr.len])
   rw [if_neg hz,if_neg (by simpa using e)];rfl
 rw [e1,MI];have nd:=JY b c;have key:∀ {l:List (List Int)},l.Nodup->z∈l->A0 (λ _=>(1:Int)) (l.filter λ x=>((A6 b).all λ i=>decide (x.getD i 0<=ah i)) && decide (x=z))=1:=by
  intro l;induction l with
  | nil=>intro _ h;cases h
  | cons x l ih=>
   intro nd hm;rw [jh9] at nd;rw [E9];by_cases e:x=z
   ·have hz:((A6 b).all λ i=>decide (x.getD i 0<=ah i))=true:=by
     rw [jb8];intro i hi;rw [decide_eq_true_iff,e,zg];exact h i (jc5.mp hi)
    rw [hz,decide_eq_true e,if_pos (show (true && true)=true from rfl),DE]
    have:l.filter (λ y=>((A6 b).all λ i=>decide (y.getD i 0<=ah i)) && decide (y=z))=[]:=by
     rw [T5];intro y hy e';rw [Ba,decide_eq_true_iff] at e';exact nd.1 (by rw [e,<- e'.2];exact hy)
    rw [this];rfl
   ·rw [decide_eq_false e,Pb,if_neg (by simp)];exact ih nd.2 ((jb5.mp hm).resolve_left λ e'=>e e'.symm)
 exact key nd zm
theorem yG {hi ah c:Int} (h:min hi ah<=c) (row:List Int):Bf (min hi ah) c row=Bf hi ah row:=by
 unfold Bf;cases row.getLast? with
 | none=>simp only;omega
 | some m=>simp only;omega
theorem UB {lo hi ah:Nat->Int}{c:Int}:∀ (n:Nat),(∀ i,i < n->min (hi i) (ah i)<=c)->Bz lo (λ i=>min (hi i) (ah i)) (λ _=>c) n=Bz lo hi ah n
 | 0,_=>rfl
 | n + 1,h=>by
  rw [Bz,Bz,UB n λ i hi=>h i (by omega)];congr 1;funext row;rw [yG (h n (by omega))]
def UQ {b:Nat}{c:Int}{lo hi:List Int}{ah:Nat->Int} (h0:∀ i,i < b->0<=lo.getD i 0) (hc:∀ i,i < b->hi.getD i 0<=c):((AF b c).filter λ q=>((A6 b).all λ i=>decide (q.getD i 0<=ah i)) && Em b lo q hi)=Bz (λ i=>lo.getD i 0) (λ i=>hi.getD i 0) ah b:=by
 have e1:Bz (λ i=>lo.getD i 0) (λ i=>hi.getD i 0) ah b=Bz (λ i=>if i < b then lo.getD i 0 else 0) (λ i=>if i < b then min (hi.getD i 0) (ah i) else 0 - (0 - c) ) (λ _=>c) b:=by
  rw [<- UB (c:=c) b λ i hi=>by have:=hc i hi;omega];exact Ul b λ j hj=>⟨by rw [if_pos hj],by rw [if_pos hj],rfl⟩
 rw [e1];have e2:=Qa (lo':=λ _=>0) (hi':=λ _=>c) (ah:=λ _=>c) (lo:=λ i=>if i < b then lo.getD i 0 else 0) (hi:=λ i=>if i < b then min (hi.getD i 0) (ah i) else 0 - (0 - c)) (λ i=>by
  show 0<=if i < b then lo.getD i 0 else 0
  split
  ·rename_i h;exact h0 i h
  ·omega) (λ i=>by
  show (if i < b then min (hi.getD i 0) (ah i) else 0 - (0 - c))<=c;split
  ·rename_i h;have:=hc i h;omega
  ·omega) b
 rw [<- e2];unfold AF;apply Pf;intro q _;rw [E8,Ba];unfold Em DX EW;simp only [jb8,jc5,Ba,decide_eq_true_iff];constructor
 ·rintro ⟨h1,h2⟩ i hi;have a1:=h1 i hi;have a2:=h2 i hi;rw [if_pos hi,if_pos hi];omega
 ·intro h;refine ⟨λ i hi=>?_,λ i hi=>?_⟩
  ·have:=h i hi
   rw [if_pos hi,if_pos hi] at this;omega
  ·have:=h i hi
   rw [if_pos hi,if_pos hi] at this;omega
section
variable {a b:Nat}{c:Int}{low high:List (List Int)}
def w9 (h0:∀ i j,i < a->j < b->0<=g low i j) (hc:∀ i j,i < a->j < b->g high i j<=c) {k:Nat} (hk:k < a) {ah:Nat->Int}:Ht a b c (λ i=>low.getD i []) (λ i=>high.getD i []) (k + 1) ah=A0 (λ r=>Ht a b c (λ i=>low.getD i []) (λ i=>high.getD i []) k (λ i=>r.getD i 0)) (Bz (g low (a - 1 - k)) (g high (a - 1 - k)) ah b):=by
 have e:=UQ (b:=b) (c:=c) (lo:=low.getD (a - 1 - k) []) (hi:=high.getD (a - 1 - k) []) (ah:=ah) (λ i hi=>h0 _ i (by omega) hi) (λ i hi=>hc _ i (by omega) hi);show A0 _ _=A0 _ (Bz (λ i=>(low.getD (a - 1 - k) []).getD i 0) (λ i=>(high.getD (a - 1 - k) []).getD i 0) ah b);rw [<- e,<- MI];refine Et λ r _=>?_;exact Yc
theorem Xy (hcc:0<=c) (h0:∀ i j,i < a->j < b->0<=g low i j) (hc:∀ i j,i < a->j < b->g high i j<=c):∀ (k:Nat),k<=a->A0 (λ p=>Ht a b c (λ i=>low.getD i []) (λ i=>high.getD i []) k (EE c p)) (Ce (g low) (g high) c b (a - k))=((Ce (g low) (g high) c b a).length:Int)
 | 0,_=>by
  rw [OT,<- Qy];refine Et λ p hp=>wA hcc λ i hi=>?_;unfold EE;cases a with
  | zero=>
   simp only [Ce,jb6] at hp;subst hp;exact hcc
  | succ n=>
   have:=JP hp
   rw [RH this.1.1];exact HM (h0 n i (by omega) hi) (this.2.1 n i (by omega) hi).1
 | k + 1,hk=>by
  have ih:=Xy hcc h0 hc k (by omega);rw [<- ih,show a - k=(a - (k + 1)) + 1 by omega,Ce,Q1];refine Et λ p hp=>?_;rw [w9 h0 hc (by omega),XU,show a - 1 - k=a - (k + 1) by omega];refine Et λ r _=>?_;congr 1;unfold EE;rw [Zm]
def ub (hcc:0<=c) (h0:∀ i j,i < a->j < b->0<=g low i j) (hc:∀ i j,i < a->j < b->g high i j<=c):(sumT (C0 a b c (λ i=>low.getD i []) (λ i=>high.getD i []) (λ _=>[]) a) (AF b c)).sum=((Ce (g low) (g high) c b a).length:Int):=by
 rw [Nv,<- Xy hcc h0 hc a (AB _),OV];show _=A0 _ [[]];rw [DE];show A0 (Ed a b c _ _ a) (AF b c)=Ht a b c _ _ a (λ _=>c) + 0;unfold Ht;rw [jf0.mpr λ r hr=>?_]
 ·omega
 ·rw [jb8];intro i hi;rw [decide_eq_true_iff];exact (zqx.mp hr).hi i (jc5.mp hi)
end
def Wl {a b:Nat}{h:Int->Int->Int}{t u:List (List Int)} (ht:Tab a b t) (hu:Tab a b u):Tab a b (zT h t u):=by
 refine ⟨by unfold zT;rw [A8,Mu,ht.1,hu.1,YC],λ r hr=>?_⟩;obtain ⟨z,hz,rfl⟩:=jd1.mp hr;rw [List.length_zipWith,ht.2 _ (KG hz).1,hu.2 _ (KG hz).2,YC]
def Kg {a b:Nat}{h:Int->Int->Int}{t u:List (List Int)} (ht:Tab a b t) (hu:Tab a b u):zT h t u=EO a b λ i j=>h (g t i j) (g u i j):=by
 refine IZ (Wl ht hu) Le λ i j hi hj=>?_;rw [Ew hi hj];have e1:(zT h t u).getD i []=Tf h (t.getD i []) (u.getD i []):=by
  unfold zT;rw [AM,C5,(Zy (z:=(t.getD i [],u.getD i []))).mpr ⟨IW (by rw [ht.1];exact hi),IW (by rw [hu.1];exact hi)⟩];rfl
 show ((zT h t u).getD i []).getD j 0=_;rw [e1,AM,List.getElem?_zipWith,DD (by rw [ht.row hi];exact hj),DD (by rw [hu.row hi];exact hj)];rfl
section
variable {a b c:Nat}{t u l:List (List Int)}
def Xk (f:Int->Int->Int) (hf:∀ i j k m:Int,i<=k->j<=m->f i j<=f k m) (h0:∀ i j,f i j=i\/f i j=j) (p:Pile a b c t) (q:Pile a b c u):Pile a b c (zT f t u):=by
 refine ⟨Wl p.tab q.tab,λ x y hx hy=>?_,λ x y hx hy=>?_,λ x y hx hy=>?_,λ x y hx hy=>?_⟩
 ·rw [Kg p.tab q.tab,Ew hx hy]
  have:=p.lo x y hx hy
  have:=q.lo x y hx hy
  rcases h0 (g t x y) (g u x y) with e | e <;> omega
 ·rw [Kg p.tab q.tab,Ew hx hy]
  have:=p.hi x y hx hy
  have:=q.hi x y hx hy
  rcases h0 (g t x y) (g u x y) with e | e <;> omega
 ·rw [Kg p.tab q.tab,Ew hx hy,Ew (by omega) hy];exact hf _ _ _ _ (p.dn x y hx hy) (q.dn x y hx hy)
 ·rw [Kg p.tab q.tab,Ew hx hy,Ew hx (by omega)];exact hf _ _ _ _ (p.rt x y hx hy) (q.rt x y hx hy)
end
section
variable {a b c:Nat}{t u l:List (List Int)}
def yw (p:Pile a b c t) (q:Pile a b c u) (ha:1<=a/\a<=30) (hb:1<=b/\b<=30) (hc:1<=c/\c<=1000):f_must_be_two_piles [bx a b c,tb t,tb u]=.ok (.non,om,.non):=
 zC (KY p.tab (by omega) (by omega) (by omega) ((Lk p.tab).mpr p)) (KY q.tab (by omega) (by omega) (by omega) ((Lk q.tab).mpr q))
end
theorem SI {α:Type}{f:α->Int}{m:Int} (hm:0<=m):∀ {l:List α},(∀ x∈l,f x<=m)->A0 f l<=l.length * m
 | [],_=>by simp [A0]
 | x::l,h=>by
  have h1:=h x AH;have h2:=SI hm (l:=l) λ y hy=>h y (AI _ hy);rw [DE,Bh,To,Y8];omega
def ZH {α:Type}{p:α->Bool}{l:List α}{m:Int} (hm:0<=m):((l.filter p).length:Int) * m<=(l.length:Int) * m:=Int.mul_le_mul_of_nonneg_right (by have:=T3 p l;omega) hm
theorem Wj {a b:Nat}{c:Int}{lo hi:Nat->List Int}:∀ (k:Nat) (r:List Int),0<=Ed a b c lo hi k r/\Ed a b c lo hi k r<=(((AF b c).length ^ k:Nat):Int)
 | 0,r=>by
  show 0<=(CI r).sum/\(CI r).sum<=_;unfold CI;split <;> simp
 | k + 1,r=>by
  rw [Yc];have ih:=Wj (a:=a) (b:=b) (c:=c) (lo:=lo) (hi:=hi) k;split
  ·unfold Ht;refine ⟨UP λ q _=>(ih q).1,HM (SI (m:=(((AF b c).length ^ k:Nat):Int)) (by omega) λ q _=>(ih q).2) ?_⟩;rw [OU,Tg,JA];exact ZH (by omega)
  ·omega
structure BoxN (a b c:Nat):Prop where
 box:BoxT a b c
 hc:1<=c
 bd:(AF b c).length ^ (a + 1)<=2 ^ 40
 ab:a<=30/\b<=30
section
variable {a b c:Nat}{low high:List (List Int)}
def vx (N:BoxN a b c) (p:Pile a b c low) (q:Pile a b c high):f_must_be_two_piles [bx a b c,tb low,tb high]=.ok (.non,om,.non):=by
 have h1:=N.box.ha;have h2:=N.box.hb;have h3:=N.box.hc;have h4:=N.hc;have h5:=N.ab;exact yw p q (by omega) (by omega) (by omega)
def IG (b:Nat) (ah:Nat->Int) (q:List Int):Bool:=(A6 b).all λ i=>decide (q.getD i 0<=ah i)
end
structure HV (L:List (Option PV)) (O:List Nat) (ρ:Ae):Prop where
 len:ρ.length=L.length
 get:∀ (j:Nat) (x:PV),L[j]?=some (some x)->∃ d,ρ[j]?=some (some (x,d))
 own:∀ j∈O,∃ x d,ρ[j]?=some (some (x,d))/\d≠0
section
variable {L L':List (Option PV)}{O O':List Nat}{ρ:Ae}
theorem HV.of (ρ:Ae):HV (ρ.map λ s=>s.map (·.1)) [] ρ:=by
 refine ⟨by rw [A8],λ j x h=>?_,λ _ h=>nomatch h⟩;rw [C5] at h;cases e:ρ[j]? with
 | none=>rw [e] at h;cases h
 | some s=>
  rw [e] at h;cases s with
  | none=>cases h
  | some p=>obtain ⟨y,d⟩:=p;cases h;exact ⟨d,rfl⟩
def HV.var {j:Nat}{x:PV} (h:HV L O ρ) (e:L[j]?=some (some x)):Aa j ρ=.ok (x,dv x,ρ):=by
 obtain ⟨d,e⟩:=h.get j x e;unfold Aa;rw [e]
def HV.push {x:PV}{d:Nat} (h:HV L O ρ):HV (L++[some x]) O (ρ++[some (x,d)]):=by
 have hl:=h.len;refine ⟨by rw [BI,BI,hl];rfl,λ j y e=>?_,λ j hj=>?_⟩
 ·by_cases hj:j < L.length
  ·rw [C7 hj] at e;obtain ⟨d,e⟩:=h.get j y e;exact ⟨d,by rw [C7 (by omega)];exact e⟩
  ·rw [Gi (by omega)] at e;rw [Gi (by omega),hl];cases hk:j - L.length with
   | zero=>rw [hk] at e;cases e;exact ⟨d,rfl⟩
   | succ n=>rw [hk] at e;cases e
 ·obtain ⟨y,d,e,hd⟩:=h.own j hj;exact ⟨y,d,by rw [C7 (jb0.mp e).1];exact e,hd⟩
def Wk:List (Option PV)->List (Option PV)->Prop
 | [],[]=>True
 | none::a,_::b=>Wk a b
 | some x::a,some y::b=>x=y/\Wk a b
 | _,_=>False
theorem Wk.get:∀ {a b:List (Option PV)},Wk a b->a.length=b.length/\∀ (j:Nat) (x:PV),a[j]?=some (some x)->b[j]?=some (some x)
 | [],[],_=>⟨rfl,λ j x h=>by cases h⟩
 | none::a,y::b,h=>by
  obtain ⟨h1,h2⟩:=Wk.get (a:=a) (b:=b) (by cases y <;> exact h);refine ⟨by rw [Bh,Bh,h1],λ j x e=>?_⟩;cases j with
  | zero=>cases e
  | succ j=>exact h2 j x e
 | some x::a,some y::b,h=>by
  obtain ⟨h0,h⟩:x=y/\Wk a b:=h;obtain ⟨h1,h2⟩:=Wk.get h;refine ⟨by rw [Bh,Bh,h1],λ j z e=>?_⟩;cases j with
  | zero=>rw [<- h0];exact e
  | succ j=>exact h2 j z e
 | some x::a,none::b,h=>h.elim
 | [],_::_,h=>h.elim
 | some _::_,[],h=>h.elim
 | none::_,[],h=>h.elim
def HV.weak (h:HV L O ρ) (w:Wk L' L) (ho:∀ j∈O',j∈O):HV L' O' ρ:=⟨h.len.trans w.get.1.symm,λ j x e=>h.get j x (w.get.2 j x e),λ j hj=>h.own j (ho j hj)⟩
def Xz {d j e:Nat}{vs:List Nat}{x:PV} (h:ρ[j]?=some (some (x,e))):∃ e',(Bj d vs ρ)[j]?=some (some (x,e')):=by
 unfold Bj;split
 ·exact ⟨e,h⟩
 ·rw [JS,h];dsimp only [Y6];split
  ·exact ⟨0,rfl⟩
  ·exact ⟨e,rfl⟩
def W6 {d:Nat}{vs:List Nat}{ρ:Ae}:(Bj d vs ρ).length=ρ.length:=by
 unfold Bj;split
 ·rfl
 ·exact Nj vs ρ 0
def HV.cool {d:Nat}{vs:List Nat} (h:HV L O ρ):HV L [] (Bj d vs ρ):=⟨by rw [W6];exact h.len,λ j x e=>by
 obtain ⟨d',e⟩:=h.get j x e;exact Xz e,λ _ h=>nomatch h⟩
def HV.coolO {vs:List Nat} (h:HV L O ρ):HV L O (Bj om vs ρ):=by
 unfold Bj;rw [if_pos rfl];exact h
def HV.put {i d:Nat}{x:PV} (h:HV L O ρ) (hi:i < L.length) (ho:i∉O\/d≠0):HV (L.set i (some x)) O (ρ.set i (some (x,d))):=by
 have hl:=h.len;refine ⟨by rw [DB,DB,hl],λ j y e=>?_,λ j hj=>?_⟩
 ·by_cases hj:i=j
  ·subst hj;rw [DT hi] at e;cases e;exact ⟨d,DT (by omega)⟩
  ·rw [CK hj] at e;rw [CK hj];exact h.get j y e
 ·by_cases hij:i=j
  ·subst hij;rcases ho with ho | ho
   ·exact absurd hj ho
   ·exact ⟨x,d,DT (by omega),ho⟩
  ·rw [CK hij];exact h.own j hj
def HV.set {i d:Nat}{f:Fx}{vs:List Nat}{x:PV} (h:HV L O ρ) (hf:f ρ=.ok (x,d,ρ)) (hi:i < L.length):∃ ρ',Aj false i f vs ρ=.nx ρ'/\HV (L.set i (some x)) [] ρ':=⟨_,Bq hf (by rw [h.len];exact hi) rfl,(h.cool).put hi (.inl (λ h=>nomatch h))⟩
def HV.setO {i:Nat}{f:Fx}{vs:List Nat}{x:PV} (h:HV L O ρ) (hf:f ρ=.ok (x,om,ρ)) (hi:i < L.length):∃ ρ',Aj false i f vs ρ=.nx ρ'/\HV (L.set i (some x)) O ρ':=⟨_,Bq hf (by rw [h.len];exact hi) rfl,(h.coolO).put hi (.inr (by decide))⟩
def HV.asgN {i:Nat} (x:PV) (h:HV L O ρ) (hi:i < L.length) (ho:i∉O):∃ ρ',asgN i x ρ=some ρ'/\HV (L.set i (some x)) O ρ':=by
 refine ⟨_,?_,h.put (x:=x) (d:=dv x) hi (.inl ho)⟩;unfold QQ.asgN;rw [if_pos (by rw [h.len];exact hi)]
def HV.asg3 {i j k:Nat} (x y z:PV) (h:HV L O ρ) (hi:i < L.length) (hj:j < L.length) (hk:k < L.length) (ho:i∉O/\j∉O/\k∉O):∃ ρ',asgT [i,j,k] (.tup [x,y,z]) ρ=some ρ'/\HV (((L.set i (some x)).set j (some y)).set k (some z)) O ρ':=by
 have hl:=h.len;refine ⟨((ρ.set i (some (x,dv x))).set j (some (y,dv y))).set k (some (z,dv z)),?_,((h.put hi (.inl ho.1)).put (by rw [DB];exact hj) (.inl ho.2.1)).put (by rw [DB,DB];exact hk) (.inl ho.2.2)⟩;unfold QQ.asgT;dsimp only;rw [By,QQ.asgN,if_pos (by omega)];show By [j,k] [y,z] _=_;rw [By,QQ.asgN,if_pos (by rw [DB];omega)];show By [k] [z] _=_;rw [By,QQ.asgN,if_pos (by rw [DB,DB];omega)];rfl
def HV.asg2 {i j:Nat} (x y:PV) (h:HV L O ρ) (hi:i < L.length) (hj:j < L.length) (ho:i∉O/\j∉O):∃ ρ',asgT [i,j] (.tup [x,y]) ρ=some ρ'/\HV ((L.set i (some x)).set j (some y)) O ρ':=by
 have hl:=h.len;refine ⟨(ρ.set i (some (x,dv x))).set j (some (y,dv y)),?_,(h.put hi (.inl ho.1)).put (by rw [DB];exact hj) (.inl ho.2)⟩;unfold QQ.asgT;dsimp only;rw [By,QQ.asgN,if_pos (by omega)];show By [j] [y] _=_;rw [By,QQ.asgN,if_pos (by rw [DB];omega)];rfl
theorem WI {asg:PV->Ae->Option Ae}{body:Fs}:∀ (els:List PV) (I:Nat->Ae->Prop) (ρ:Ae),I 0 ρ->(∀ j x ρ,els[j]?=some x->I j ρ->∃ ρ1 ρ2,asg x ρ=some ρ1/\body ρ1=.nx ρ2/\I (j + 1) ρ2)->∃ ρ',BO asg body els ρ=.nx ρ'/\I els.length ρ'
 | [],I,ρ,h0,_=>⟨ρ,rfl,h0⟩
 | x::els,I,ρ,h0,hs=>by
  obtain ⟨ρ1,ρ2,e1,e2,h2⟩:=hs 0 x ρ rfl h0;obtain ⟨ρ',e,h⟩:=WI els (λ j=>I (j + 1)) ρ2 h2 λ j y ρ hj=>hs (j + 1) y ρ hj;exact ⟨ρ',by rw [BO,e1];dsimp only;rw [e2];exact e,h⟩
def HV.coolK {d:Nat}{vs:List Nat} (h:HV L O ρ) (hv:∀ j∈O,vs.contains j=false):HV L O (Bj d vs ρ):=⟨by rw [W6];exact h.len,λ j x e=>by
 obtain ⟨d',e⟩:=h.get j x e;exact Xz e,λ j hj=>by
 obtain ⟨x,d',e,hd⟩:=h.own j hj;refine ⟨x,d',?_,hd⟩;unfold Bj;split
 ·exact e
 ·rw [JS,KA,hv j hj,e];rfl⟩
def HV.unp2 {i j:Nat}{f:Fx}{vs:List Nat}{x y:PV}{d:Nat} (h:HV L O ρ) (hf:f ρ=.ok (.tup [x,y],d,ρ)) (hi:i < L.length) (hj:j < L.length) (hv:∀ j∈O,vs.contains j=false) (ho:i∉O/\j∉O):∃ ρ',Cn (QQ.asgT [i,j]) f vs ρ=.nx ρ'/\HV ((L.set i (some x)).set j (some y)) O ρ':=by
 obtain ⟨ρ',e,h'⟩:=(h.coolK (d:=d) hv).asg2 x y hi hj ho;exact ⟨ρ',Wh hf e,h'⟩
def Gv (s:Fs) (ρ:Ae) (y:PV):Prop:=∃ d ρ',s ρ=.rt y d ρ'
def Gv.nx {s r:Fs}{ρ1:Ae}{y:PV} (e:s ρ=.nx ρ1) (h:Gv r ρ1 y):Gv (Ah s r) ρ y:=by
 obtain ⟨d,ρ',h⟩:=h;exact ⟨d,ρ',(AR e).trans h⟩
def Gv.ex {s r:Fs}{P:Ae->Prop}{y:PV} (e:∃ ρ1,s ρ=.nx ρ1/\P ρ1) (h:∀ ρ1,P ρ1->Gv r ρ1 y):Gv (Ah s r) ρ y:=by
 obtain ⟨ρ1,e,p⟩:=e;exact Gv.nx e (h ρ1 p)
def Gv.ret {f:Fx}{ρ1:Ae}{d:Nat}{y:PV} (h:f ρ=.ok (y,d,ρ1)):Gv (A3 f) ρ y:=⟨_,_,Dn h⟩
def Gv.fn {np k:Nat}{b:Fs}{xs:List PV}{y:PV} (hl:xs.length=np) (h:Gv b (xs.map (λ x=>some (x,dv x))++AL k none) y):∃ d z,Au false np k b xs=.ok (y,d,z):=by
 obtain ⟨d,ρ',h⟩:=h;exact ⟨_,_,Ct hl h⟩
def HV.unp3 {i j k:Nat}{f:Fx}{vs:List Nat}{x y z:PV}{d:Nat} (h:HV L O ρ) (hf:f ρ=.ok (.tup [x,y,z],d,ρ)) (hi:i < L.length) (hj:j < L.length) (hk:k < L.length):∃ ρ',Cn (asgT [i,j,k]) f vs ρ=.nx ρ'/\HV (((L.set i (some x)).set j (some y)).set k (some z)) [] ρ':=by
 obtain ⟨ρ',e,h'⟩:=(h.cool (d:=d) (vs:=vs)).asg3 x y z hi hj hk ⟨λ h=>(nomatch h),λ h=>(nomatch h),λ h=>(nomatch h)⟩;exact ⟨ρ',Wh hf e,h'⟩
def Nx (s:Fs) (ρ:Ae) (P:Ae->Prop):Prop:=∃ ρ',s ρ=.nx ρ'/\P ρ'
section
variable {P Q:Ae->Prop}{s r:Fs}
def Nx.seq (h:Nx s ρ P) (k:∀ ρ',P ρ'->Nx r ρ' Q):Nx (Ah s r) ρ Q:=by
 obtain ⟨ρ1,e,p⟩:=h;obtain ⟨ρ2,e2,q⟩:=k ρ1 p;exact ⟨ρ2,(AR e).trans e2,q⟩
def Nx.mono (h:Nx s ρ P) (k:∀ ρ',P ρ'->Q ρ'):Nx s ρ Q:=by
 obtain ⟨ρ1,e,p⟩:=h;exact ⟨ρ1,e,k ρ1 p⟩
def Nx.yes {c:Fb} (hc:c ρ=.ok (true,ρ)) (h:Nx s ρ P):Nx (Bw c s r) ρ P:=by
 obtain ⟨ρ1,e,p⟩:=h;exact ⟨ρ1,(CW hc).trans e,p⟩
def Nx.no {c:Fb} (hc:c ρ=.ok (false,ρ)) (h:P ρ):Nx (Bw c s A5) ρ P:=⟨ρ,(CY hc).trans rfl,h⟩
def Nx.loop {asg:PV->Ae->Option Ae}{els:List PV} (I:Nat->Ae->Prop) (h0:I 0 ρ) (hs:∀ k x ρ,els[k]?=some x->I k ρ->∃ ρ1,asg x ρ=some ρ1/\Nx s ρ1 (I (k + 1))):∃ ρ',BO asg s els ρ=.nx ρ'/\I els.length ρ':=WI els I ρ h0 λ k x ρ e h=>by
 obtain ⟨ρ1,e1,ρ2,e2,h2⟩:=hs k x ρ e h;exact ⟨ρ1,ρ2,e1,e2,h2⟩
def wq {n k:Nat}{x:PV} (hx:((A6 n).map λ (k:Nat)=>PV.int (k:Int))[k]?=some x):k < n/\x=.int (k:Int):=by
 rw [C5] at hx;by_cases hk:k < n
 ·rw [Mx hk] at hx;cases hx;exact ⟨hk,rfl⟩
 ·rw [FA (by rw [Ek];omega)] at hx;cases hx
def Nx.forR {asg:PV->Ae->Option Ae}{f:Fx}{n d:Nat} (I:Nat->Ae->Prop) (hf:f ρ=.ok (.int (n:Int),d,ρ)) (hn:n<=1000) (h0:I 0 ρ) (hs:∀ k ρ,k < n->I k ρ->∃ ρ1,asg (.int (k:Int)) ρ=some ρ1/\Nx s ρ1 (I (k + 1))):Nx (Dq Bn (Af f Ac) asg s) ρ (I n):=by
 obtain ⟨ρ',e,h⟩:=Nx.loop (els:=(A6 n).map λ (k:Nat)=>.int (k:Int)) I h0 λ k x ρ hx h=>by
  obtain ⟨hk,rfl⟩:=wq hx;exact hs k ρ hk h
 rw [A8,Ek] at h;exact ⟨ρ',je (AJ hf) (Ez (by omega) (by omega)) e,h⟩
def Ge (s:Fs) (ρ:Ae) (P:PV->Prop):Prop:=∃ y d ρ',s ρ=.rt y d ρ'/\P y
def Ge.ex {R:PV->Prop} (h:Nx s ρ P) (k:∀ ρ',P ρ'->Ge r ρ' R):Ge (Ah s r) ρ R:=by
 obtain ⟨ρ1,e,p⟩:=h;obtain ⟨y,d,ρ',e',q⟩:=k ρ1 p;exact ⟨y,d,ρ',(AR e).trans e',q⟩
def Ge.retV {R:PV->Prop}{i:Nat}{x:PV} (h:HV L O ρ) (e:L[i]?=some (some x)) (p:R x):Ge (D8 i) ρ R:=by
 obtain ⟨d,e⟩:=h.get i x e;exact ⟨x,d,ρ,by unfold D8;rw [e],p⟩
def Ge.fn {R:PV->Prop}{np k:Nat}{b:Fs}{xs:List PV} (hl:xs.length=np) (h:Ge b (xs.map (λ x=>some (x,dv x))++AL k none) R):∃ y d,Au false np k b xs=.ok (y,d,.non)/\R y:=by
 obtain ⟨y,d,ρ',h,p⟩:=h;exact ⟨y,d,Ct hl h,p⟩
end
end
def OR:List Int->Bool
 | []=>true
 | x::l=>l.all (λ y=>!(x == y)) && OR l
theorem Vp:∀ {l:List Int},OR l=true->l.Pairwise (·≠·)
 | [],_=>List.Pairwise.nil
 | x::l,h=>by
  rw [OR,Ba] at h;refine List.Pairwise.cons (λ y hy=>?_) (Vp h.2)
  have:=jb8.mp h.1 y hy
  simpa using this
def Pr (b c:Nat):Bool:=OR ((AF b c).map λ r=>GH (AG r))
theorem WA {α:Type}{f:α->Int}:∀ {l:List α}{x:Int},(l.map f).Pairwise (·≠·)->(l.filter λ y=>f y == x).length<=1
 | [],_,_=>by simp
 | y::l,x,h=>by
  rw [BF,jm5] at h;rw [E9];split
  ·rename_i e
   have:l.filter (λ z=>f z == x)=[]:=by
    rw [T5];intro z hz e2;exact h.1 _ (List.mem_map_of_mem hz) ((eq_of_beq e).trans (eq_of_beq e2).symm)
   rw [this];simp
  ·exact WA h.2
def dk_of {b c:Nat} (h:Pr b c=true):DN ((AF b c).map AG)=true:=by
 unfold Pr at h;have hp:=Vp h;unfold DN;rw [Ba,jb8,jb8];refine ⟨λ k hk=>?_,λ k hk=>?_⟩
 ·obtain ⟨r,_,rfl⟩:=jd1.mp hk;rw [jb8];intro x hx;obtain ⟨n,_,rfl⟩:=jd1.mp hx;rfl
 ·rw [decide_eq_true_iff];refine WA (f:=GH) ?_;rw [CB];exact hp
def jO {n:Nat}{c:Nat}:(AF n c).length<=(c + 1) ^ n:=XR (m:=c + 1) n λ j _=>by omega
def qy {a b c:Nat} (ha:1<=a/\a<=6) (hb:1<=b/\b<=6) (hc:c<=6) (h:Pr b c=true):BoxT a b c:=by
 refine ⟨by omega,by omega,by omega,dk_of h,λ n hn=>?_⟩;have h1:(c + 1) ^ n<=7 ^ n:=Nat.pow_le_pow_left (by omega) n;have h2:7 ^ n<=7 ^ 6:=Nat.pow_le_pow_right (by omega) (by omega)
 have:=jO (n:=n) (c:=c)
 omega
section
variable {a b c:Nat}{hs:List C3}
end
section
variable {a b c:Nat}{low high t u:List (List Int)}
def qa0 {ah:Nat->Int}{q:List Int}:IG b ah q=true↔∀ j,j < b->q.getD j 0<=ah j:=by
 unfold IG;rw [jb8];exact ⟨λ h j hj=>of_decide_eq_true (h j (jc5.mpr hj)),λ h j hj=>decide_eq_true (h j (jc5.mp hj))⟩
end
section
variable {a b c:Nat}{low high t u:List (List Int)}
def LY (h:Tab a b t) {i j:Nat} (hn:¬ (i < a/\j < b)):g t i j=0:=by
 unfold g;by_cases hi:i < a
 ·rw [AM,FA (by rw [h.row hi];omega)];rfl
 ·rw [AM (l:=t),FA (by rw [h.1];omega)];rfl
def uA (p:Pile a b c t) (i j:Nat):0<=g t i j:=by
 by_cases h:i < a/\j < b
 ·exact p.lo i j h.1 h.2
 ·rw [LY p.tab h];exact D1 _
theorem U8 {lo hi:Nat->Nat->Int}{c:Int}{b:Nat}:∀ (n:Nat),(Ce lo hi c b n).Pairwise (·≠·)
 | 0=>by simp [Ce]
 | n + 1=>by
  rw [Ce,Zq];refine ⟨λ r hr=>?_,?_⟩
  ·rw [Tt];refine List.Pairwise.imp (λ {x y} h e=>?_) (Qx b);have e:=(YR e rfl).2;cases e;rw [Na] at h;cases h
  ·refine List.Pairwise.imp_of_mem (λ {r q} hr hq h u hu v hv e=>?_) (U8 n);obtain ⟨x,_,rfl⟩:=jd1.mp hu;obtain ⟨y,_,rfl⟩:=jd1.mp hv;exact h (YR e rfl).1
def CV (i j:Int):Int:=if j < i then j else i
def CF (i j:Int):Int:=if j > i then j else i
def vt (p:Pile a b c t) (q:Pile a b c u):Pile a b c (zT CV t u):=Xk _ (λ i j k m h1 h2=>by unfold CV;split <;> split <;> omega) (λ i j=>by unfold CV;split <;> simp) p q
def Yl (p:Pile a b c t) (q:Pile a b c u):Pile a b c (zT CF t u):=Xk _ (λ i j k m h1 h2=>by unfold CF;split <;> split <;> omega) (λ i j=>by unfold CF;split <;> simp) p q
def zS (p:Pile a b c low) (q:Pile a b c high) (h:K8 a b low high=true):1<=(Ce (g low) (g high) c b a).length:=by
 have h:∀ i j,i < a->j < b->g low i j<=g high i j:=λ i j hi hj=>by
  unfold K8 at h;exact of_decide_eq_true (jb8.mp h (i,j) (zwf.mpr ⟨hi,hj⟩))
 obtain ⟨t,e⟩:=PZ (lo:=g low) (hi:=g high) (c:=(c:Int)) (b:=b) a h (λ i j hi hj=>p.hi i j hi hj) (λ i j hi hj=>p.dn i j hi hj) (λ i j hi hj=>p.rt i j hi hj);rw [e];simp
end
theorem Xd {α:Type}:∀ (l:List α),A0 (λ _=>(0:Int)) l=0
 | []=>rfl
 | x::l=>by rw [DE,Xd l];rfl
structure Mom (φ:Nat->List Int->Int) (op:Nat->Nat->Nat) (ψ:Nat->Int):Prop where
 nil:∀ m,φ m []=0
 add:∀ m x y,φ m (Aq x y)=φ m x + φ m y
 sh:∀ m w x,φ m (AL w 0++x)=φ (op m w) x
 one:∀ m,φ m [1]=ψ m
 as:∀ m u v,op (op m u) v=op m (u + v)
 zr:∀ m,op m 0=m
section
variable {φ:Nat->List Int->Int}{op:Nat->Nat->Nat}{ψ:Nat->Int}
theorem Mom.sumT (h:Mom φ op ψ) (m:Nat) {f:List Int->List Int}:∀ l:List (List Int),φ m (sumT f l)=A0 (λ r=>φ m (f r)) l
 | []=>h.nil m
 | r::l=>by rw [Ik,h.add,Mom.sumT h m l];rfl
variable {a b c:Nat}{low high:List (List Int)}{ct:Nat->List Nat}
def Ly (ct:Nat->List Nat) (i:Nat) (r:List Int):Nat:=(C8 (ct i) r).toNat
def Iz (ct:Nat->List Nat) (p:List (List Int)):Nat:=((A6 p.length).map λ i=>Ly ct i (p.getD i [])).sum
def wg (p:List (List Int)) (r:List Int):Iz ct (p++[r])=Iz ct p + Ly ct p.length r:=by
 unfold Iz;rw [BI,EA,Fv,DL,Tn];congr 1
 ·congr 1;apply JC;intro i hi;rw [RO rfl,if_neg (by have:=jc5.mp hi;omega)]
 ·simp [RO rfl]
def tC (a b c:Nat) (low high:List (List Int)) (ct:Nat->List Nat) (k:Nat) (r:List Int):List Int:=C0 a b c (λ i=>low.getD i []) (λ i=>high.getD i []) ct k r
def mC (φ:Nat->List Int->Int) (a b c:Nat) (low high:List (List Int)) (ct:Nat->List Nat) (k m:Nat) (ah:Nat->Int):Int:=A0 (λ r=>φ m (tC a b c low high ct k r)) ((AF b c).filter (IG b ah))
def kd (h:Mom φ op ψ) {k m:Nat}{r:List Int}:φ m (tC a b c low high ct (k + 1) r)=if Em b (low.getD (a - 1 - k) []) r (high.getD (a - 1 - k) [])=true then mC φ a b c low high ct k (op m (Ly ct (a - 1 - k) r)) (λ i=>r.getD i 0) else 0:=by
 show φ m (Ep b _ _ _ _ r)=_;unfold Ep;split
 ·rw [h.sh];exact h.sumT _ _
 ·exact h.nil m
def jv (h:Mom φ op ψ) (h0:∀ i j,i < a->j < b->0<=g low i j) (hc:∀ i j,i < a->j < b->g high i j<=c) {k m:Nat} (hk:k < a) {ah:Nat->Int}:mC φ a b c low high ct (k + 1) m ah=A0 (λ r=>mC φ a b c low high ct k (op m (Ly ct (a - 1 - k) r)) (λ i=>r.getD i 0)) (Bz (g low (a - 1 - k)) (g high (a - 1 - k)) ah b):=by
 have e:=UQ (b:=b) (c:=(c:Int)) (lo:=low.getD (a - 1 - k) []) (hi:=high.getD (a - 1 - k) []) (ah:=ah) (λ i hi=>h0 _ i (by omega) hi) (λ i hi=>hc _ i (by omega) hi);show A0 _ _=A0 _ (Bz (λ i=>(low.getD (a - 1 - k) []).getD i 0) (λ i=>(high.getD (a - 1 - k) []).getD i 0) ah b);rw [<- e,<- MI];exact Et λ r _=>kd h
theorem jw (h:Mom φ op ψ) {m:Nat}{ah:Nat->Int} (h':∀ i,i < b->0<=ah i):mC φ a b c low high ct 0 m ah=ψ m:=by
 let z:=AL b (0:Int);have hz:z∈(AF b c).filter (IG b ah):=by
  have zg:∀ j,z.getD j 0=0:=λ j=>by
   show (AL b (0:Int)).getD j 0=0;rw [AM,EB];split <;> rfl
  refine je1.mpr ⟨zqx.mpr ⟨El,λ j _=>by rw [zg];exact D1 _,λ j _=>by rw [zg];omega,λ j _=>by rw [zg,zg];exact D1 _⟩,qa0.mpr λ j hj=>by rw [zg];exact h' j hj⟩
 have e:∀ r∈(AF b c).filter (IG b ah),φ m (tC a b c low high ct 0 r)=if r=z then ψ m else 0:=λ r hr=>by
  have hr:=zqx.mp (je1.mp hr).1;show φ m (CI r)=_;unfold CI;by_cases e:r=z
  ·rw [if_pos e,if_pos (by rw [e];show (AL b (0:Int)).sum=0;induction b with | zero=>rfl | succ n ih=>rw [Gh,II];simp)];exact h.one m
  ·rw [if_neg e,if_neg (λ h0=>e (by
    have:=P9 (r:=r) (λ j hj=>hr.lo j (by rw [<- hr.len];exact hj)) h0
    rw [hr.len] at this;exact this))]
   exact h.nil m
 show A0 _ _=_;rw [Et e];have nd:((AF b c).filter (IG b ah)).Nodup:=(JY b c).filter _;generalize (AF b c).filter (IG b ah)=l at hz nd;clear e;induction l with
 | nil=>cases hz
 | cons x l ih=>
  rw [jh9] at nd;rw [DE];by_cases ex:x=z
  ·rw [if_pos ex]
   have:A0 (λ r=>if r=z then ψ m else 0) l=0:=by
    rw [Et (g:=λ _=>0) λ r hr=>if_neg λ er=>nd.1 (by rw [ex,<- er];exact hr)];exact Xd l
   omega
  ·rw [if_neg ex,ih (by rcases jb5.mp hz with h | h;exact absurd h.symm ex;exact h) nd.2];omega
theorem VU (h:Mom φ op ψ) (h0:∀ i j,i < a->j < b->0<=g low i j) (hc:∀ i j,i < a->j < b->g high i j<=c) (m:Nat):∀ (k:Nat),k<=a->A0 (λ p=>mC φ a b c low high ct k (op m (Iz ct p)) (EE c p)) (Ce (g low) (g high) c b (a - k))=A0 (λ p=>ψ (op m (Iz ct p))) (Ce (g low) (g high) c b a)
 | 0,_=>by
  rw [OT];refine Et λ p hp=>jw h λ i hi=>?_;unfold EE;cases a with
  | zero=>
   simp only [Ce,jb6] at hp;subst hp;show (0:Int)<=c;omega
  | succ n=>
   have:=JP hp
   rw [RH this.1.1];exact HM (h0 n i (by omega) hi) (this.2.1 n i (by omega) hi).1
 | k + 1,hk=>by
  have ih:=VU h h0 hc m k (by omega);rw [<- ih,show a - k=(a - (k + 1)) + 1 by omega,Ce,Q1];refine Et λ p hp=>?_;rw [jv h h0 hc (by omega),XU,show a - 1 - k=a - (k + 1) by omega];refine Et λ r _=>?_;rw [wg,<- h.as,(JP hp).1.1];congr 1;unfold EE;rw [Zm]
def U4 (h:Mom φ op ψ) (p:Pile a b c low) (q:Pile a b c high) (m:Nat) {ps:List (Nat×Nat)}:φ m (Eo a b c low high ps)=A0 (λ r=>ψ (op m (Iz (Cq ps) r))) (Ce (g low) (g high) c b a):=by
 have:=VU (ct:=Cq ps) h (λ i j hi hj=>p.lo i j hi hj) (λ i j hi hj=>q.hi i j hi hj) m a (AB _)
 rw [<- this,OV];unfold Eo;rw [h.sumT];show _=A0 _ [[]];rw [DE];show A0 (λ r=>φ m (tC a b c low high (Cq ps) a r)) (AF b c)=mC φ a b c low high (Cq ps) a (op m 0) (λ _=>c) + 0;unfold mC;rw [h.zr,jf0.mpr λ r hr=>qa0.mpr λ j hj=>(zqx.mp hr).hi j hj];omega
end
def XD:Mom (λ m x=>(x.drop m).sum) (λ m w=>m - w) (λ m=>if m=0 then 1 else 0):=by
 refine ⟨λ m=>by rw [Mo];rfl,λ m x y=>?_,λ m w x=>?_,λ m=>?_,λ m u v=>by omega,λ m=>by omega⟩
 ·induction m generalizing x y with
  | zero=>exact Qk x y
  | succ m ih=>
   cases x with
   | nil=>show ((Aq [] y).drop (m + 1)).sum=_;rw [MJ,GY,Mo];show _=(0:Int) + _;omega
   | cons u x=>
    cases y with
    | nil=>rw [GY,Mo];show _=_ + (0:Int);omega
    | cons v y=>exact ih x y
 ·show ((AL w (0:Int)++x).drop m).sum=(x.drop (m - w)).sum;rw [List.drop_append,Tn,El,List.drop_replicate]
  have:=MC (w - m) []
  rw [JB] at this;rw [this];show (0:Int) + _=_;omega
 ·cases m with
  | zero=>rfl
  | succ m=>show (([1]:List Int).drop (m + 1)).sum=_;rw [if_neg (by omega)];simp
abbrev _root_.pb0:=Eb (A9 f_is_whole_number (Af (Aa 2) (Ac))) (FF (λ i j=>decide (i<=j)) (λ i j=>decide (i < j)) (bC (.int 0)) (Aa 2) (Aa 3))
abbrev _root_.pe1:=Af (Aa 1) (Af (Aa 0) (Ac))
def Xf_is_cube_in:Fs:=(Ah (Bw (bT (Cc (AN C2 (AN (CN "tuple") (Aa 1))) (Ab (Br true) pb3 (bC (.int 3))))) (A3 (bC (.bl false))) A5)
 (A3 (An EH (Af (Dm .zp pe1 2 (asgT [2,3]) Be pb0) (Ac)))))
def f_is_cube_in:Fn:=Au false 2 0 Xf_is_cube_in
end QV
namespace K47
open PySem PySem.Spec PyProof.Rows L2 QQ
theorem ME {α:Type}{x:Option α}{d:α} (h:x.isSome=true):x=some (x.getD d):=by
 cases x with
 | none=>cases h
 | some a=>rfl
abbrev GT:=List (Str×(Bool×Nat×Fn))
abbrev mS (N:List Str) (t:Stmt) (m:List Nat) (G:GT):Sx:=⟨N,A2 t,m,[],G,[],true,[0,1,2,3,4,5,6,7,8,9,10,11],[]⟩
def G0:GT:=[]
def S0:Sx:=⟨["thing"],A2 t0,[],[],G0,[],false,[],[]⟩
abbrev b0:Fs:=QV.Xf_is_whole_number
abbrev F0:Fn:=QV.f_is_whole_number
def h0:AW (A1 60 S0) (AY t0)=some b0:=by kernel_rfl
def G1:GT:=[("is_whole_number",(false,1,F0))]
def S1:Sx:=⟨["thing"],A2 t1,[],[],G1,[],false,[],[]⟩
abbrev b1:Fs:=QV.Xf_is_box
abbrev F1:Fn:=QV.f_is_box
def h1:AW (A1 60 S1) (AY t1)=some b1:=by kernel_rfl
def G2:GT:=[("is_box",(false,1,F1))]
def S2:Sx:=⟨["box"],A2 t2,[],[],G2,[],false,[],[]⟩
abbrev b2:Fs:=QV.Xf_must_be_box
abbrev F2:Fn:=QV.f_must_be_box
def h2:AW (A1 60 S2) (AY t2)=some b2:=by kernel_rfl
def G3:GT:=[("is_whole_number",(false,1,F0))]
def S3:Sx:=⟨["thing","columns","height"],A2 t3,[],[],G3,[],false,[],[]⟩
abbrev b3:Fs:=QV.Xf_is_row_of_heights
abbrev F3:Fn:=QV.f_is_row_of_heights
def h3:AW (A1 60 S3) (AY t3)=some b3:=by kernel_rfl
def G4:GT:=[]
def S4:Sx:=⟨["numbers"],A2 t4,[],[],G4,[],false,[],[]⟩
abbrev b4:Fs:=QV.Xf_never_rises
abbrev F4:Fn:=QV.f_never_rises
def h4:AW (A1 60 S4) (AY t4)=some b4:=by kernel_rfl
def G5:GT:=[]
def S5:Sx:=⟨["table","j"],A2 t5,[],[],G5,[],false,[],[]⟩
abbrev b5:Fs:=QV.Xf_column_of
abbrev F5:Fn:=QV.f_column_of
def h5:AW (A1 60 S5) (AY t5)=some b5:=by kernel_rfl
def G6:GT:=[("must_be_box",(false,1,F2)),("is_row_of_heights",(false,3,F3)),("never_rises",(false,1,F4)),("column_of",(false,2,F5))]
def S6:Sx:=⟨["box","thing","rows","columns","height"],A2 t6,[],[],G6,[],false,[],[]⟩
abbrev b6:Fs:=QV.Xf_is_pile
abbrev F6:Fn:=QV.f_is_pile
def h6:AW (A1 60 S6) (AY t6)=some b6:=by kernel_rfl
def G7:GT:=[("is_pile",(false,2,F6))]
def S7:Sx:=⟨["box","pile"],A2 t7,[],[],G7,[],false,[],[]⟩
abbrev b7:Fs:=QV.Xf_must_be_pile
abbrev F7:Fn:=QV.f_must_be_pile
def h7:AW (A1 60 S7) (AY t7)=some b7:=by kernel_rfl
def G8:GT:=[("is_whole_number",(false,1,F0))]
def S8:Sx:=⟨["box","thing"],A2 t8,[],[],G8,[],false,[],[]⟩
abbrev b8:Fs:=QV.Xf_is_cube_in
abbrev F8:Fn:=QV.f_is_cube_in
def h8:AW (A1 60 S8) (AY t8)=some b8:=by kernel_rfl
def G9:GT:=[("column_of",(false,2,F5)),("must_be_pile",(false,2,F7))]
def S9:Sx:=⟨["box","pile"],A2 t9,[],[],G9,[],false,[],[]⟩
abbrev b9:Fs:=QV.Xf_mirrored_pile
abbrev F9:Fn:=QV.f_mirrored_pile
def h9:AW (A1 60 S9) (AY t9)=some b9:=by kernel_rfl
def bh:GT:=[]
def S10:Sx:=⟨["numbers","level"],A2 HI,[],[],bh,[],false,[],[]⟩
abbrev gD:Fs:=QV.Xf_how_many_above
abbrev ZD:Fn:=QV.f_how_many_above
def u9:AW (A1 60 S10) (AY HI)=some gD:=by kernel_rfl
def bg:GT:=[("column_of",(false,2,F5)),("must_be_pile",(false,2,F7)),("how_many_above",(false,2,ZD))]
def S11:Sx:=⟨["box","pile","rolled","j","column"],A2 Ox,[],[],bg,[],false,[],[]⟩
abbrev gC:Fs:=QV.Xf_rolled_pile
abbrev P8:Fn:=QV.f_rolled_pile
def u7:AW (A1 60 S11) (AY Ox)=some gC:=by kernel_rfl
def bf:GT:=[("must_be_pile",(false,2,F7))]
def S12:Sx:=⟨["box","pile","rest","row"],A2 Ow,[],[],bf,[],false,[],[]⟩
abbrev gB:Fs:=QV.Xf_rest_of
abbrev P7:Fn:=QV.f_rest_of
def Gn:AW (A1 60 S12) (AY Ow)=some gB:=by kernel_rfl
def bc:GT:=[("must_be_pile",(false,2,F7))]
def S13:Sx:=⟨["box","pile","other"],A2 Ov,[],[],bc,[],false,[],[]⟩
abbrev gA:Fs:=QV.Xf_must_be_two_piles
abbrev ZC:Fn:=QV.f_must_be_two_piles
def u6:AW (A1 60 S13) (AY Ov)=some gA:=by kernel_rfl
def ba:GT:=[]
def S14:Sx:=⟨["box","places","i"],A2 Ou,[],[],ba,[],false,[],[]⟩
abbrev g9:Fs:=QV.Xf_places_of
abbrev ZA:Fn:=QV.f_places_of
def u5:AW (A1 60 S14) (AY Ou)=some g9:=by kernel_rfl
def gZ:GT:=[("must_be_two_piles",(false,3,ZC)),("places_of",(false,1,ZA))]
def S15:Sx:=⟨["box","pile","other"],A2 Ot,[],[],gZ,[],false,[],[]⟩
abbrev g6:Fs:=QV.Xf_lies_below
abbrev Uh:Fn:=QV.f_lies_below
def u4:AW (A1 60 S15) (AY Ot)=some g6:=by kernel_rfl
def gY:GT:=[]
def S16:Sx:=⟨["columns","height","rows","j","longer","row","most"],A2 Oq,[],[],gY,[],false,[],[]⟩
abbrev gz:Fs:=QV.Xf_rows_of_heights
abbrev Z9:Fn:=QV.f_rows_of_heights
def uz:AW (A1 60 S16) (AY Oq)=some gz:=by kernel_rfl
def gW:GT:=[]
def S17:Sx:=⟨["tally","other","total","n","many"],A2 Oo,[],[],gW,[],false,[],[]⟩
abbrev gy:Fs:=QV.Xf_added
abbrev Ug:Fn:=QV.f_added
def uy:AW (A1 60 S17) (AY Oo)=some gy:=by kernel_rfl
def gU:GT:=[("added",(false,2,Ug))]
def S18:Sx:=⟨["table","columns","sums","j","row","lower"],A2 Om,[],[],gU,[],false,[],[]⟩
abbrev gw:Fs:=QV.Xf_sums_of_lower_rows
abbrev Z8:Fn:=QV.f_sums_of_lower_rows
def ux:AW (A1 60 S18) (AY Om)=some gw:=by kernel_rfl
def gT:GT:=[]
def S19:Sx:=⟨["row","low","high"],A2 Ol,[],[],gT,[],false,[],[]⟩
abbrev gv:Fs:=QV.Xf_lies_between
abbrev Z7:Fn:=QV.f_lies_between
def uw:AW (A1 60 S19) (AY Ol)=some gv:=by kernel_rfl
def gS:GT:=[("lies_between",(false,3,Z7))]
def S20:Sx:=⟨["behind","low","high","counted","table","row"],A2 Oj,[],[],gS,[],false,[],[]⟩
abbrev gu:Fs:=QV.Xf_table_of_row
abbrev Z6:Fn:=QV.f_table_of_row
def uv:AW (A1 60 S20) (AY Oj)=some gu:=by kernel_rfl
def gR:GT:=[("rows_of_heights",(false,2,Z9)),("sums_of_lower_rows",(false,2,Z8)),("table_of_row",(false,4,Z6))]
def S21:Sx:=⟨["box","low","high","places","rows","columns","height","table","row","tables","i","counted"],A2 Oi,[],[],gR,[],false,[],[]⟩
abbrev gq:Fs:=QV.Xf_tables_between
abbrev Z5:Fn:=QV.f_tables_between
def uu:AW (A1 60 S21) (AY Oi)=some gq:=by kernel_rfl
def gQ:GT:=[("added",(false,2,Ug)),("tables_between",(false,4,Z5))]
def S22:Sx:=⟨["box","low","high","places","total","tally"],A2 Oh,[],[],gQ,[],false,[],[]⟩
abbrev gn:Fs:=QV.Xf_tally_between
abbrev Ue:Fn:=QV.f_tally_between
def ur:AW (A1 60 S22) (AY Oh)=some gn:=by kernel_rfl
def gP:GT:=[]
def S23:Sx:=⟨["number","other"],A2 Og,[],[],gP,[],false,[],[]⟩
abbrev _root_.pf1:=Af (Aa 1) (Af (Ab CO (Aa 0) (Aa 1)) (Ac))
abbrev _root_.pe9:=Ab (Dg λ i j=>decide (j < i)) (Aa 1) (bC (.int 0))
def TV:Fs:=(Ah (Wa (bT pe9) (DG 0 1 pf1))
 (D8 0))
def P6:Fn:=Au false 2 0 TV
def uq:AW (A1 60 S23) (AY Og)=some TV:=by kernel_rfl
def gO:GT:=[("greatest_divisor",(false,2,P6))]
def S24:Sx:=⟨["top","bottom","divisor"],A2 Of,[],[],gO,[],false,[],[]⟩
def Py:Fs:=(Ah (Aj false 2 (A9 P6 pd6) [0,1])
 (A3 (An BK (Af (Ab GW (Aa 0) (Aa 2)) (Af (Ab GW (Aa 1) (Aa 2)) (Ac))))))
def MA:Fn:=Au false 2 1 Py
def uo:AW (A1 60 S24) (AY Of)=some Py:=by kernel_rfl
def gN:GT:=[("lies_below",(false,3,Uh))]
def S25:Sx:=⟨["box","low","high"],A2 Oe,[],[],gN,[],false,[],[]⟩
def TU:Fs:=(Bw (bT (AN C2 (A9 Uh (Af (Aa 0) pb2)))) GN A5)
def P5:Fn:=Au false 3 0 TU
def um:AW (A1 60 S25) (AY Oe)=some TU:=by kernel_rfl
def gM:GT:=[("is_cube_in",(false,2,F8)),("tally_between",(false,4,Ue)),("in_least_numbers",(false,2,MA)),("must_be_piles_between",(false,3,P5))]
def S26:Sx:=⟨["box","low","high","cube","i","j","k","tally"],A2 Od,[],[],gM,[],false,[],[]⟩
def TR:Fs:=(Ah (D7 (A9 P5 (Af (Aa 0) pb2)))
 (Ah (Bw (bT (AN C2 (A9 F8 (Af (Aa 0) (Af (Aa 3) (Ac)))))) GN A5)
 (Ah (Cn (asgT [4,5,6]) (Aa 3) [3])
 (Ah (Aj false 7 (A9 Ue (Af (Aa 0) (Af (Aa 1) (Af (Aa 2) (Af (An Bm (Af (An BK pb6) (Ac))) (Ac)))))) [0,1,2,4,5])
 (A3 (A9 MA (Af (An Hb (Af (Dc (Aa 7) (some pd8) none) (Ac))) (Af (An Hb (Af (Aa 7) (Ac))) (Ac)))))))))
def JK:Fn:=Au false 4 4 TR
def uk:AW (A1 60 S26) (AY Od)=some TR:=by kernel_rfl
def gL:GT:=[]
def S27:Sx:=⟨["script","k"],A2 Oc,[],[],gL,[],false,[],[]⟩
abbrev gm:Fs:=QV.Xb_cell_at
abbrev M9:Fn:=QV.b_cell_at
def uj:AW (A1 60 S27) (AY Oc)=some gm:=by kernel_rfl
def gK:GT:=[]
def S28:Sx:=⟨["cell","k","one"],A2 Ob,[],[],gK,[],false,[],[]⟩
abbrev gk:Fs:=QV.Xb_stir
abbrev M8:Fn:=QV.b_stir
def ui:AW (A1 60 S28) (AY Ob)=some gk:=by kernel_rfl
def gJ:GT:=[("_law_stir",(false,2,M8))]
def S29:Sx:=⟨["cell","many","found","digits","k","number"],A2 Oa,[],[],gJ,[],false,[],[]⟩
abbrev gj:Fs:=QV.Xb_numbers
abbrev KR:Fn:=QV.b_numbers
def uh:AW (A1 60 S29) (AY Oa)=some gj:=by kernel_rfl
def RC:Fn:=λ _=>.no
def ZW:GT:=[("_law_alike",(false,2,RC))]
def RE:Sx:=⟨["found","due","one","other"],A2 E6,[],[],ZW,[],false,[],[]⟩
def R3:Fs:=(AW (A1 60 RE) (AY E6)).getD A5
def LN:Fn:=Au false 2 2 R3
def qg:AW (A1 60 RE) (AY E6)=some R3:=ME (by decide +kernel)
def ZX:GT:=[("_law_alike",(false,2,LN))]
def RF:Sx:=⟨["found","due","one","other"],A2 E6,[],[],ZX,[],false,[],[]⟩
def R4:Fs:=(AW (A1 60 RF) (AY E6)).getD A5
def LP:Fn:=Au false 2 2 R4
def qh:AW (A1 60 RF) (AY E6)=some R4:=ME (by decide +kernel)
def ZY:GT:=[("_law_alike",(false,2,LP))]
def RG:Sx:=⟨["found","due","one","other"],A2 E6,[],[],ZY,[],false,[],[]⟩
def R5:Fs:=(AW (A1 60 RG) (AY E6)).getD A5
def LQ:Fn:=Au false 2 2 R5
def qi:AW (A1 60 RG) (AY E6)=some R5:=ME (by decide +kernel)
def ZZ:GT:=[("_law_alike",(false,2,LQ))]
def O1:Sx:=⟨["found","due","one","other"],A2 E6,[],[],ZZ,[],false,[],[]⟩
def R6:Fs:=(AW (A1 60 O1) (AY E6)).getD A5
def Oz:Fn:=Au false 2 2 R6
def qj:AW (A1 60 O1) (AY E6)=some R6:=ME (by decide +kernel)
abbrev KQ:Fn:=Oz
abbrev S30:Sx:=O1
def gI:GT:=[("_law_numbers",(false,2,KR))]
def S31:Sx:=⟨["cell","numbers","box"],A2 NZ,[],[],gI,[],false,[],[]⟩
abbrev _root_.pf6:=Af (bC (.int 4)) (Af (bC (.int 13)) (Ac))
def Px:Fs:=(Ah (Aj false 1 (A9 KR (Af (Aa 0) (Af (bC (.int 4)) (Ac)))) [0])
 (Ah (Aj false 2 (An BK (Af (Ab Bo (bC (.int 1)) (Ab CO (Ab Ay (Aa 1) (bC (.int 0))) (bC (.int 2)))) (Af (Ab Bo (bC (.int 1)) (Ab CO (Ab Ay (Aa 1) (bC (.int 1))) (bC (.int 3)))) (Af (Ab Bo (bC (.int 1)) (Ab CO (Ab Ay (Aa 1) (bC (.int 2))) (bC (.int 3)))) (Ac))))) [1,1,1])
 (Ah (Bw (bT (Ab (Br false) (Ab CO (Ab Ay (Aa 1) (bC (.int 3))) (bC (.int 2))) (bC (.int 1)))) (Aj false 2 (An BK (Af (Ab Ay (Aa 2) (bC (.int 1))) (Af (Ab Ay (Aa 2) (bC (.int 2))) (Af (Ab Ay (Aa 2) (bC (.int 0))) (Ac))))) [2,2,2]) A5)
 (Ah (Bw (bT (Ab (CD false) (Ab CO (Ab Ay (Aa 1) (bC (.int 3))) (bC (.int 16))) (An BK pf6))) (Aj false 2 (Ab Ay (An Bm (Af (An BK (Af (bC (.int 2)) (Af (bC (.int 5)) (Af (bC (.int 2)) (Ac))))) (Af (An BK (Af (bC (.int 1)) (Af (bC (.int 6)) (Af (bC (.int 3)) (Ac))))) (Af (An BK (Af (bC (.int 2)) (Af (bC (.int 2)) (Af (bC (.int 6)) (Ac))))) (Af (An BK (Af (bC (.int 6)) (Af (bC (.int 1)) (Af (bC (.int 2)) (Ac))))) (Af (An BK (Af (bC (.int 2)) (Af (bC (.int 6)) (Af (bC (.int 1)) (Ac))))) (Af (An BK (Af (bC (.int 6)) (Af (bC (.int 2)) (Af (bC (.int 2)) (Ac))))) (Ac)))))))) (Ab CO (Ab GW (Ab Ay (Aa 1) (bC (.int 0))) (bC (.int 8))) (bC (.int 6)))) [1]) A5)
 (D8 2)))))
def P4:Fn:=Au false 1 2 Px
def ug:AW (A1 60 S31) (AY NZ)=some Px:=by kernel_rfl
def gH:GT:=[("_law_numbers",(false,2,KR))]
def S32:Sx:=⟨["box","script","start","cell","numbers","pile","i","row","j","number","top"],A2 NY,[],[],gH,[],false,[],[]⟩
abbrev gi:Fs:=QV.Xb_pile
abbrev P2:Fn:=QV.b_pile
def uf:AW (A1 60 S32) (AY NY)=some gi:=by kernel_rfl
def gG:GT:=[("_law_stir",(false,2,M8)),("_law_pile",(false,4,P2))]
def S33:Sx:=⟨["box","script","cell","one","other","low","high","way"],A2 NX,[],[],gG,[],false,[],[]⟩
def Pw:Fs:=(Ah (Aj false 3 (A9 P2 (Af (Aa 0) (Af (Aa 1) (Af (bC (.int 3)) (Af (Aa 2) (Ac)))))) [0,1,2])
 (Ah (Aj false 4 (A9 P2 (Af (Aa 0) (Af (Aa 1) (Af (Ab Bo (bC (.int 3)) (Ab BX pc1 pa4)) (Af (A9 M8 (Af (Aa 2) (Af (bC (.int 60)) (Ac)))) (Ac)))))) [0,1,0,0,2])
 (Ah (Aj false 5 (Dm .zp pd5 2 (asgT [8,9]) Be (Dm .zp (Af (Aa 8) (Af (Aa 9) (Ac))) 2 (asgT [10,11]) Be (An Hc (Af (Aa 10) (Af (Aa 11) (Ac)))))) [3,4,3,4,3,4,3,4,3,4,3,4,3,4])
 (Ah (Aj false 6 (Dm .zp pd5 2 (asgT [8,9]) Be (Dm .zp (Af (Aa 8) (Af (Aa 9) (Ac))) 2 (asgT [10,11]) Be (An LX (Af (Aa 10) (Af (Aa 11) (Ac)))))) [3,4,3,4,3,4,3,4,3,4,3,4,3,4])
 (Ah (Aj false 7 (Ab CO (A9 M8 (Af (Aa 2) (Af (bC (.int 61)) (Ac)))) (bC (.int 5))) [2])
 (Ah (Bw (bT (Ab (Dg λ i j=>decide (j < i)) (Aa 7) (bC (.int 1)))) (Aj false 5 (Cu (Aa 3) 1 (asgN 8) Be (Ab BX pd7 pa4)) [3,0]) A5)
 (Ah (Bw (bT (Ab (Dg λ i j=>decide (j < i)) (Aa 7) (bC (.int 2)))) (Aj false 6 (Cu (Aa 3) 1 (asgN 8) Be (Ab BX (An Bm (Af pa9 (Ac))) pa4)) [3,0,0]) A5)
 (A3 (An BK pe0)))))))))
def P1:Fn:=Au false 3 5 Pw
def ue:AW (A1 60 S33) (AY NX)=some Pw:=by kernel_rfl
def gF:GT:=[("mirrored_pile",(false,2,F9)),("rolled_pile",(false,2,P8)),("rest_of",(false,2,P7)),("cube_share",(false,4,JK)),("_law_cell_at",(false,2,M9)),("_law_numbers",(false,2,KR)),("_law_alike",(false,2,KQ)),("_law_box",(false,1,P4)),("_law_bounds",(false,3,P1))]
def S34:Sx:=⟨["script","box","a","b","c","low","high","mirrored","rolled","rests","numbers","at","i","j","k","share","across"],A2 LI,[],[],gF,[],false,[],[]⟩
abbrev _root_.pe7:=Ab BX (bC (.int 3)) (Aa 11)
abbrev _root_.pe2:=Af (Aa 1) (Af (Aa 6) (Ac))
def TQ:Fs:=(Ah (Aj false 1 (A9 P4 (Af (A9 M9 (Af (Aa 0) (Af (bC (.int 0)) (Ac)))) (Ac))) [0])
 (Ah (Cn (asgT [2,3,4]) (Aa 1) [1])
 (Ah (Cn (asgT [5,6]) (A9 P1 (Af (Aa 1) (Af (Aa 0) (Af (A9 M9 (Af (Aa 0) (Af (bC (.int 1)) (Ac)))) (Ac))))) [1,0,0])
 (Ah (Aj false 7 (An Bm (Af (A9 F9 pc7) (Af (A9 F9 pe2) (Ac)))) [1,5,1,6])
 (Ah (Aj false 8 (An Bm (Af (A9 P8 pc7) (Af (A9 P8 pe2) (Ac)))) [1,5,1,6])
 (Ah (Aj false 9 (An Bm (Af (A9 P7 pe2) (Af (A9 P7 pc7) (Ac)))) [1,6,1,5])
 (Ah (Aj false 10 (A9 KR (Af (A9 M9 (Af (Aa 0) (Af (bC (.int 2)) (Ac)))) (Af (bC (.int 9)) (Ac)))) [0])
 (Ah (Dq Bn (Af (bC (.int 3)) (Ac)) (asgN 11) (Ah (EN 12 13 14 (Af (Ab CO (Ab Ay (Aa 10) pe7) (Aa 2)) (Af (Ab CO (Ab Ay (Aa 10) (Ab Bo pe7 (bC (.int 1)))) (Aa 3)) (Af (Ab CO (Ab Ay (Aa 10) (Ab Bo pe7 (bC (.int 2)))) (Aa 4)) (Ac)))))
 (Ah (Aj false 15 (A9 JK (Af (Aa 1) (Af (Aa 5) (Af (Aa 6) (Af (An BK (Af (Aa 12) (Af (Aa 13) (Af (Aa 14) (Ac))))) (Ac)))))) [1,5,6,12,13,14])
 (Ah (Bw (bT (AN C2 (A9 KQ (Af (A9 JK (Af (An BK (Af (Aa 3) (Af (Aa 2) (Af (Aa 4) (Ac))))) (Af (Ab Ay (Aa 7) (bC (.int 0))) (Af (Ab Ay (Aa 7) (bC (.int 1))) (Af (An BK (Af (Aa 13) (Af (Aa 12) (Af (Aa 14) (Ac))))) (Ac)))))) (Af (Aa 15) (Ac)))))) (A3 (bC (.bl false))) A5)
 (Ah (Bw (bT (AN C2 (A9 KQ (Af (A9 JK (Af (An BK (Af (Aa 3) (Af (Aa 4) (Af (Aa 2) (Ac))))) (Af (Ab Ay (Aa 8) (bC (.int 0))) (Af (Ab Ay (Aa 8) (bC (.int 1))) (Af (An BK (Af (Aa 13) (Af (Aa 14) (Af (Aa 12) (Ac))))) (Ac)))))) (Af (Aa 15) (Ac)))))) (A3 (bC (.bl false))) A5)
 (Ah (Aj false 16 (A9 JK (Af (Aa 1) (Af (Ab Ay (Aa 9) (bC (.int 0))) (Af (Ab Ay (Aa 9) (bC (.int 1))) (Af (An BK (Af (Ab Df (Ab Df (Aa 2) (bC (.int 1))) (Aa 12)) (Af (Ab Df (Ab Df (Aa 3) (bC (.int 1))) (Aa 13)) (Af (Ab Df (Ab Df (Aa 4) (bC (.int 1))) (Aa 14)) (Ac))))) (Ac)))))) [1,9,9,2,12,3,13,4,14])
 (Bw (bT (AN C2 (A9 KQ (Af (Aa 16) (Af (An BK (Af (Ab Df (Ab Ay (Aa 15) (bC (.int 1))) (Ab Ay (Aa 15) (bC (.int 0)))) (Af (Ab Ay (Aa 15) (bC (.int 1))) (Ac)))) (Ac)))))) (A3 (bC (.bl false))) A5)))))))
 (A3 (bC (.bl true)))))))))))
def F34:Fn:=Au false 1 16 TQ
def ud:AW (A1 60 S34) (AY LI)=some TQ:=by kernel_rfl
open PySem PySem.Spec PyProof.Rows L2 QQ QV
def WH {c:Fb}{b:Fs}{n:Nat}{ρ ρ2:Ae} (hc:c ρ=.ok (true,ρ)) (hb:b ρ=.nx ρ2):EG c b (n + 1) ρ=EG c b n ρ2:=by
 rw [EG,hc];dsimp only;rw [hb]
def WG {c:Fb}{b:Fs}{n:Nat}{ρ:Ae} (hc:c ρ=.ok (false,ρ)):EG c b (n + 1) ρ=.nx ρ:=by
 rw [EG,hc]
theorem Sa {c:Fb}{b:Fs} (I:Nat->Nat->Ae->Prop) (h1:∀ x y ρ,0 < y->I x y ρ->c ρ=.ok (true,ρ)/\∃ ρ',b ρ=.nx ρ'/\I y (x % y) ρ') (h0:∀ x ρ,I x 0 ρ->c ρ=.ok (false,ρ)):∀ (k n x y:Nat) (ρ:Ae),y < 2 ^ k->2 * k + 1<=n->I x y ρ->∃ ρ',EG c b n ρ=.nx ρ'/\I (C4 x y) 0 ρ'
 | 0,n,x,y,ρ,hy,hn,i=>by
  obtain rfl:y=0:=by simpa using hy
  obtain ⟨m,rfl⟩:∃ m,n=m + 1:=⟨n - 1,by omega⟩
  exact ⟨ρ,WG (h0 x ρ i),by rw [Zc];exact i⟩
 | k + 1,n,x,y,ρ,hy,hn,i=>by
  obtain ⟨m,rfl⟩:∃ m,n=m + 1 + 1:=⟨n - 2,by omega⟩
  rcases Nat.eq_zero_or_pos y with rfl | hp
  ·exact ⟨ρ,WG (h0 x ρ i),by rw [Zc];exact i⟩
  ·obtain ⟨c1,ρ1,e1,i1⟩:=h1 x y ρ hp i;have g1:C4 x y=C4 y (x % y):=by rw [OS x y,Y7,OS]
   have hr:=Nat.mod_lt x hp;rw [OU] at hy;rw [WH c1 e1,g1];by_cases hs:x % y < 2 ^ k
   ·exact Sa I h1 h0 k (m + 1) y (x % y) ρ1 hs (by omega) i1
   ·have hq:0 < x % y:=by have:=Nat.two_pow_pos k;omega
    obtain ⟨c2,ρ2,e2,i2⟩:=h1 y (x % y) ρ1 hq i1;have g2:C4 y (x % y)=C4 (x % y) (y % (x % y)):=by rw [OS y,Y7,OS]
    have hm:y % (x % y)=y - x % y:=by rw [Nat.mod_eq_sub_mod (by omega),Nat.mod_eq_of_lt (by omega)]
    rw [WH c2 e2,g2];exact Sa I h1 h0 k m (x % y) (y % (x % y)) ρ2 (by rw [hm];omega) (by omega) i2
def xi {L:List (Option PV)}{O:List Nat}{ρ:Ae}{i j:Nat}{fa:Fa}{a b:Int}{d e:Nat} (h:HV L O ρ) (hf:fa ρ=.ok ([(.int a,d),(.int b,e)],ρ)) (hi:i < L.length) (hj:j < L.length) (ho:i∉O/\j∉O):Nx (DG i j fa) ρ (HV ((L.set i (some (.int a))).set j (some (.int b))) O):=by
 obtain ⟨ρ',e,h'⟩:=h.asg2 (.int a) (.int b) hi hj ho;refine ⟨ρ',?_,h'⟩;have e:By [i,j] [.int a,.int b] ρ=some ρ':=e;unfold DG;rw [hf];dsimp only;rw [e]
def qF {x y:Nat} (hy:y < 2 ^ 100):P6 [.int x,.int y]=.ok (.int (C4 x y:Nat),om,.non):=by
 have H0:HV [some (.int x),some (.int y)] [] [some (.int x,om),some (.int y,om)]:=HV.of [some (.int x,om),some (.int y,om)];obtain ⟨ρ',e,h⟩:=Sa (c:=bT pe9) (b:=DG 0 1 pf1) (λ x y ρ=>HV [some (.int x),some (.int y)] [] ρ/\ρ[0]?=some (some (.int x,om))) (λ x y ρ hp ⟨h,_⟩=>by
  have q:=AX (Iv (p:=λ i j=>decide (j < i)) (g:=bC (.int 0)) (j:=0) (e:=om) (h.var (j:=1) (x:=.int y) rfl) rfl);rw [decide_eq_true (by omega)] at q;obtain ⟨ρ',e,h'⟩:=xi (i:=0) (j:=1) h (A7 (h.var (j:=1) (x:=.int y) rfl) (AJ (DC (h.var (j:=0) (x:=.int x) rfl) (h.var (j:=1) (x:=.int y) rfl) (by omega)))) (show 0 < 2 by decide) (show 1 < 2 by decide) ⟨λ h=>(nomatch h),λ h=>(nomatch h)⟩;refine ⟨q,ρ',e,h',?_⟩;have hl:=h.len;unfold DG at e;rw [A7 (h.var (j:=1) (x:=.int y) rfl) (AJ (DC (h.var (j:=0) (x:=.int x) rfl) (h.var (j:=1) (x:=.int y) rfl) (by omega)))] at e;dsimp only at e;rw [By,asgN,if_pos (by rw [hl];exact YQ 1)] at e;replace e:(match By [1] [.int ((x:Int) % y)] (ρ.set 0 (some (.int y,dv (.int y)))) with | some ρ2=>Rs.nx ρ2 | none=>.no)=.nx ρ':=e;rw [By,asgN,if_pos (by rw [DB,hl];exact GQ 1)] at e;cases e;rw [CK (by decide),DT (by rw [hl];exact YQ 1)];rfl) (λ x ρ ⟨h,_⟩=>by
  have q:=AX (Iv (p:=λ i j=>decide (j < i)) (g:=bC (.int 0)) (j:=0) (e:=om) (h.var (j:=1) (x:=.int (0:Nat)) rfl) rfl);rw [decide_eq_false (by omega)] at q;exact q) 100 300 x y _ hy (by decide) ⟨H0,rfl⟩
 refine Ct (ρ':=ρ') (b:=TV) rfl ((AR e).trans ?_);unfold D8;rw [h.2]
def C1 (n d:Nat):PV:=.tup [.int ((n / C4 n d:Nat):Int),.int ((d / C4 n d:Nat):Int)]
def xG {n d:Nat} (hd:0 < d) (hb:d < 2 ^ 100):∃ e,MA [.int n,.int d]=.ok (C1 n d,e,.non):=by
 have H0:HV [some (.int n),some (.int d),none] [] [some (.int n,om),some (.int d,om),none]:=HV.of [some (.int n,om),some (.int d,om),none];have gp:0 < C4 n d:=Zw _ hd;have gl:C4 n d<=d:=Nat.gcd_le_right _ hd;refine (λ ⟨y,e,h1,h2⟩=>⟨e,by rw [h1,h2]⟩:(∃ y e,MA [.int n,.int d]=.ok (y,e,.non)/\y=C1 n d)->_) (Ge.fn (b:=Py) (R:=λ y=>y=C1 n d) rfl (show Ge Py [some (.int n,om),some (.int d,om),none] _ from ?_));refine Ge.ex (H0.setO (x:=.int (C4 n d:Nat)) (AS (xs:=[(.int n,om),(.int d,om)]) (A7 (H0.var rfl) (AJ (H0.var rfl))) (qF hb)) (show 2 < 3 by decide)) λ ρ1 H1=>?_;have e1:=Kc (H1.var (j:=0) (x:=.int n) rfl) (H1.var (j:=2) (x:=.int (C4 n d:Nat)) rfl) (by omega) (by omega);have e2:=Kc (H1.var (j:=1) (x:=.int d) rfl) (H1.var (j:=2) (x:=.int (C4 n d:Nat)) rfl) (by omega) (by omega);exact ⟨_,_,_,Dn (Ck (A7 e1 (AJ e2)) rfl),rfl⟩
end K47
namespace QV
open PySem PySem.Spec PyProof.Rows L2 QQ
def RS {elt:Fx}{p q:QQ.Slot}{u v:Int}{y:PV}{xs:List PV}{acc:List (PV×Nat)} (he:elt [p,q,some (.int u,om),some (.int v,om)]=.ok (y,om,[p,q,some (.int u,om),some (.int v,om)])) (ha:acc.length < Aw):
  Cj 2 (asgT [2,3]) Be elt (.tup [.int u,.int v]::xs) [p,q] acc=Cj 2 (asgT [2,3]) Be elt xs [p,q] (acc++[(y,om)]):=by
 conv=>lhs;unfold Cj
 have ea:asgT [2,3] (.tup [.int u,.int v]) ([p,q]++AL 2 none)=some [p,q,some (.int u,om),some (.int v,om)]:=rfl;rw [ea];dsimp only
 have:Be [p,q,some (.int u,om),some (.int v,om)]=.ok (true,[p,q,some (.int u,om),some (.int v,om)]):=rfl
 rw [this];dsimp only [Rz.bindN];rw [if_pos rfl,he];dsimp only;rw [if_pos ha];rfl
def yy {a b c:Nat}{x:C3} (h1:x.1 < a) (h2:x.2.1 < b) (h3:x.2.2 < c):f_is_cube_in [bx a b c,c3 x]=.ok (.bl true,om,.non):=by
 have z:=sz;let R:Ae:=[some (bx a b c,0),some (c3 x,0)]
 have e0:∀ u v:Int,0<=u->u < v->pb0 [some (bx a b c,0),some (c3 x,0),some (.int u,om),some (.int v,om)]=.ok (.bl true,om,[some (bx a b c,0),some (c3 x,0),some (.int u,om),some (.int v,om)]):=λ u v hu hv=>by
  have:=OB (a:=true) (f:=A9 f_is_whole_number (Af (Aa 2) (Ac))) (g:=FF (λ i j=>decide (i<=j)) (λ i j=>decide (i < j)) (bC (.int 0)) (Aa 2) (Aa 3)) (ρ:=[some (bx a b c,0),some (c3 x,0),some (.int u,om),some (.int v,om)]) (AS (xs:=[(.int u,om)]) rfl (Yd u)) (λ _=>Qn (i:=0) (j:=u) (k:=v) rfl rfl rfl) rfl
  rw [decide_eq_true hu,decide_eq_true hv] at this;exact this
 have e1:Dm .zp pe1 2 (asgT [2,3]) Be pb0 R=.ok (.lst ([(),(),()].map λ _=>.bl true),om,R):=by
  unfold Dm;have ef:pe1 R=.ok ([(c3 x,0),(bx a b c,0)],R):=rfl;rw [ef];dsimp only;have ev:FE .zp ([(c3 x,0),(bx a b c,0)].map (·.1))=some [.tup [.int (x.1:Int),.int (a:Int)],.tup [.int (x.2.1:Int),.int (b:Int)],.tup [.int (x.2.2:Int),.int (c:Int)]]:=rfl;rw [ev];dsimp only;rw [RS (e0 _ _ (by omega) (by omega)) (by show 0 < Aw;omega),RS (e0 _ _ (by omega) (by omega)) (by show 1 < Aw;omega),RS (e0 _ _ (by omega) (by omega)) (by show 2 < Aw;omega)];rfl
 refine Ct rfl (ρ':=R) ?_;show Xf_is_cube_in R=_;refine (FI (ρ1:=R) (by kernel_rfl)).trans (Dn ?_);rw [all_ok e1];rfl
end QV
namespace K47
open PySem PySem.Spec PyProof.Rows L2 QQ QV
section
variable {a b c:Nat}{low high:List (List Int)}
def NN (l:List Int):Prop:=∀ x∈l,0<=x
theorem NN.add:∀ {x y:List Int},NN x->NN y->NN (Aq x y)
 | [],y,_,h=>by rw [MJ,GY];exact h
 | u::x,[],h,_=>by rw [GY];exact h
 | u::x,v::y,h,h'=>λ z hz=>by
  rcases jb5.mp (show z∈(u + v)::Aq x y from hz) with rfl | hz
  ·have:=h u AH
   have:=h' v AH
   omega
  ·exact NN.add (λ w hw=>h w (AI _ hw)) (λ w hw=>h' w (AI _ hw)) z hz
theorem NN.sumT {f:List Int->List Int}:∀ {l:List (List Int)},(∀ r∈l,NN (f r))->NN (sumT f l)
 | [],_=>λ _ h=>(nomatch h)
 | r::l,h=>by rw [Ik];exact NN.add (h r AH) (NN.sumT λ q hq=>h q (AI _ hq))
theorem NN.tab {lo hi:Nat->List Int}{ct:Nat->List Nat}{c:Int}:∀ (k:Nat) (r:List Int),NN (C0 a b c lo hi ct k r)
 | 0,r=>by
  show NN (CI r);unfold CI;split
  ·intro x hx;rw [jb6.mp hx];decide
  ·exact λ _ h=>(nomatch h)
 | k + 1,r=>by
  show NN (Ep b _ _ _ _ r);unfold Ep;split
  ·intro x hx;rcases jd4.mp hx with hx | hx
   ·rw [(jq7.mp hx).2];exact D1 _
   ·exact NN.sumT (λ q _=>NN.tab k q) x hx
  ·exact λ _ h=>(nomatch h)
def NN.tally {ps:List (Nat×Nat)}:NN (Eo a b c low high ps):=NN.sumT λ q _=>NN.tab a q
theorem NN.le:∀ {l:List Int},NN l->∀ x∈l,x<=l.sum
 | [],_,_,h=>(nomatch h)
 | y::l,h,x,hx=>by
  have h1:NN l:=λ z hz=>h z (AI _ hz);have h2:0<=l.sum:=by
   clear hx h;induction l with
   | nil=>exact D1 _
   | cons z l ih=>rw [II];have:=h1 z AH;have:=ih λ w hw=>h1 w (AI _ hw);omega
  have h3:=h y AH;rw [II];rcases jb5.mp hx with rfl | hx
  ·omega
  ·have:=NN.le h1 x hx;omega
def NN.drop {l:List Int} (h:NN l) (m:Nat):NN (l.drop m):=λ x hx=>h x (Zl hx)
def NN.ok {l:List Int} (h:NN l) (h1:l.length<=1000) {m:Int} (h2:∀ x∈l,x<=m) (hm:m<=2 ^ 40):FO l=true:=by
 unfold FO;rw [Ba];refine ⟨decide_eq_true (by omega),jb8.mpr λ x hx=>?_⟩
 have:=h x hx
 have:=h2 x hx
 rw [decide_eq_true (by omega),decide_eq_true (by omega)];rfl
def PB (a b c:Nat) (low high:List (List Int)):List (List (List Int)):=Ce (g low) (g high) c b a
def MN (p:Pile a b c low) {t:List (List Int)} (h:t∈PB a b c low high):Pile a b c t:=yV (λ i j=>uA p i j) h
def nK (a b c:Nat) (low high:List (List Int)) (i j k:Nat):Nat:=((PB a b c low high).filter λ p=>decide ((k:Int) < g p i j)).length
theorem X8 {α:Type}{p:α->Bool}:∀ l:List α,A0 (λ x=>if p x=true then (1:Int) else 0) l=((l.filter p).length:Int)
 | []=>rfl
 | x::l=>by
  rw [DE,X8 l,E9];split
  ·rw [Bh];omega
  ·omega
def VJ {i j i':Nat}:Cq [(i,j)] i'=if i=i' then [j] else []:=by
 unfold Cq;by_cases h:i=i' <;> simp [h]
theorem yJ {n i:Nat} (hi:i < n) (v:Nat):((A6 n).map λ k=>if i=k then v else 0).sum=v:=by
 induction n with
 | zero=>omega
 | succ n ih=>
  rw [Fv,DL,Tn];by_cases h:i=n
  ·subst h
   have:((A6 i).map λ k=>if i=k then v else 0)=(A6 i).map λ _=>0:=JC λ k hk=>if_neg (by have:=jc5.mp hk;omega)
   have z:∀ l:List Nat,(l.map λ _=>0).sum=0:=λ l=>by
    induction l with
    | nil=>rfl
    | cons x l ih=>rw [BF,II,ih]
   rw [this,z];simp
  ·rw [ih (by omega)];simp [h]
def jg {t:List (List Int)} (p:Pile a b c t) {i j:Nat} (hi:i < a) (hj:j < b):Iz (Cq [(i,j)]) t=(g t i j).toNat:=by
 unfold Iz;rw [p.tab.1,<- yJ hi (g t i j).toNat];congr 1;apply JC;intro k _;unfold Ly;rw [VJ];split
 ·rename_i e;subst e;unfold C8;simp [g]
 ·rfl
def yK (p:Pile a b c low) (q:Pile a b c high) {i j:Nat} (hi:i < a) (hj:j < b) (k:Nat):((Eo a b c low high [(i,j)]).drop (k + 1)).sum=(nK a b c low high i j k:Int):=by
 have:=U4 XD p q (k + 1) (ps:=[(i,j)])
 rw [this];unfold nK;rw [<- X8];refine Et λ t ht=>?_;have pt:=MN p ht;have h0:=pt.lo i j hi hj;rw [jg pt hi hj];by_cases h:(k:Int) < g t i j
 ·rw [if_pos (by omega),if_pos (decide_eq_true h)]
 ·rw [if_neg (by omega),if_neg (by rw [decide_eq_false h];decide)]
def UG (p:Pile a b c low) (q:Pile a b c high) (ps:List (Nat×Nat)):(Eo a b c low high ps).sum=((PB a b c low high).length:Int):=by
 have:=U4 XD p q 0 (ps:=ps)
 rw [Ti] at this;rw [this,<- Qy];exact Et λ t _=>if_pos (by omega)
end
section
variable {a b c:Nat}{low high:List (List Int)}
structure Bt (a b c:Nat) (low high:List (List Int)):Prop where
 N:BoxN a b c
 bd:(AF b c).length ^ (a + 1)<=2 ^ 30
 ab:a<=6/\b<=6/\c<=6
 p:Pile a b c low
 q:Pile a b c high
 le:K8 a b low high=true
def Bt.many (B:Bt a b c low high):((PB a b c low high).length:Int)<=2 ^ 30:=by
 have t:=ub (a:=a) (b:=b) (c:=(c:Int)) (low:=low) (high:=high) (by omega) (λ i j hi hj=>B.p.lo i j hi hj) (λ i j hi hj=>B.q.hi i j hi hj);unfold PB;rw [<- t,Nv];have h1:=SI (f:=Ed a b c (λ i=>low.getD i []) (λ i=>high.getD i []) a) (m:=(((AF b c).length ^ a:Nat):Int)) (by omega) (l:=AF b c) λ r _=>(Wj a r).2;have h2:(((AF b c).length ^ (a + 1):Nat):Int)<=((2 ^ 30:Nat):Int):=by exact_mod_cast B.bd
 rw [OU,Tg,JA] at h2;exact HM h1 (HM h2 (by decide))
def Bt.pos (B:Bt a b c low high):0 < (PB a b c low high).length:=zS B.p B.q B.le
def Bt.must (B:Bt a b c low high):P5 [bx a b c,tb low,tb high]=.ok (.non,om,.non):=by
 have ha:=B.N.box.ha;have hb:=B.N.box.hb;let R:Ae:=[some (bx a b c,0),some (tb low,0),some (tb high,0)]
 have l:=jq B.p.tab B.q.tab (by omega) (by omega) (vx B.N B.p B.q);rw [B.le] at l;exact O6 (ρ':=R) (b:=TU) rfl ((CY (AX (Gw (b:=true) (d:=om) (AS (xs:=[(bx a b c,0),(tb low,0),(tb high,0)]) rfl l)))).trans rfl)
def Bt.tally (B:Bt a b c low high) {ps:List (Nat×Nat)} (hp:∀ z∈ps,z.2 < b) (hm:∀ i,(Cq ps i).length<=6) (hl:ps.length<=1000):f_tally_between [bx a b c,tb low,tb high,.lst (ps.map pr)]=.ok (il (Eo a b c low high ps),om,.non)/\(Eo a b c low high ps).length<=300:=by
 have h:=B.ab;have hx:1 + a * (6 * c)<=300:=by
  have:a * (6 * c)<=6 * (6 * 6):=Mq h.1 (Nat.mul_le_mul_left _ h.2.2)
  omega
 refine ⟨vX B.N.box B.p.tab B.q.tab hp hm (by omega) hl,?_⟩;unfold Eo;exact Kh λ r hr=>Cw (Nw hm (λ i=>MU hp) a r hr) hx
def Bt.sums (B:Bt a b c low high) {ps:List (Nat×Nat)} (hl:(Eo a b c low high ps).length<=300) (m:Nat):FO ((Eo a b c low high ps).drop m)=true:=by
 refine (NN.tally.drop m).ok (by rw [Fy];omega) (m:=2 ^ 30) (λ x hx=>?_) (by decide);have h1:=NN.tally.le x (Zl hx);rw [UG B.p B.q] at h1;exact HM h1 B.many
def Ru {f j:Fx}{ρ:Ae}{xs:List Int}{n d e:Nat} (h1:f ρ=.ok (il xs,d,ρ)) (h2:j ρ=.ok (.int (n:Int),e,ρ)):Dc f (some j) none ρ=.ok (il (xs.drop n),om,ρ):=by
 have ec:Cb (xs.map PV.int) (some (n:Int)) none=(xs.drop n).map PV.int:=by
  unfold Cb;rw [HT.sIx_nat,HT.sIx_none,OW];by_cases h:n<=(xs.map PV.int).length
  ·rw [Mt h];exact KN (by rw [Fy];exact AB _)
  ·rw [Nat.min_eq_right (by omega),My (AB _),My (by omega)];exact OX
 unfold Dc;rw [h1];dsimp only [Rz.bind,HQ];rw [h2];dsimp only [DI,il];rw [ec,Md]
def Np (B:Bt a b c low high) {i j k:Nat} (hi:i < a) (hj:j < b) (hk:k < c):∃ e,JK [bx a b c,tb low,tb high,c3 (i,j,k)]=.ok (C1 (nK a b c low high i j k) (PB a b c low high).length,e,.non):=by
 have hM:=B.many;have hP:=B.pos;let L (s4 s5 s6 s7:Option PV):List (Option PV):=[some (bx a b c),some (tb low),some (tb high),some (c3 (i,j,k)),s4,s5,s6,s7]
 let ρ0:Ae:=[some (bx a b c,0),some (tb low,0),some (tb high,0),some (c3 (i,j,k),0),none,none,none,none]
 have H0:HV (L none none none none) [] ρ0:=HV.of ρ0
 suffices h:Ge TR ρ0 λ y=>y=C1 (nK a b c low high i j k) (PB a b c low high).length by
  obtain ⟨y,e,h1,rfl⟩:=Ge.fn (np:=4) (k:=4) (xs:=[bx a b c,tb low,tb high,c3 (i,j,k)]) rfl h;exact ⟨e,h1⟩
 refine Ge.ex (P:=λ ρ=>ρ=ρ0) ⟨ρ0,Iq (AS (xs:=[(bx a b c,0),(tb low,0),(tb high,0)]) rfl B.must),rfl⟩ λ ρ e=>?_;subst e;refine Ge.ex (P:=λ ρ=>ρ=ρ0) (Nx.no (AX (Gw (b:=true) (d:=om) (AS (xs:=[(bx a b c,0),(c3 (i,j,k),0)]) rfl (yy hi hj hk)))) rfl) λ ρ e=>?_;subst e;refine Ge.ex (H0.unp3 (x:=.int (i:Int)) (y:=.int (j:Int)) (z:=.int (k:Int)) (d:=0) (H0.var (j:=3) rfl) (show 4 < 8 by decide) (show 5 < 8 by decide) (show 6 < 8 by decide)) λ ρ1 H1=>?_;obtain ⟨t1,t2⟩:=B.tally (ps:=[(i,j)]) (λ z hz=>by rw [jb6.mp hz];exact hj) (λ k=>by rw [VJ];split <;> simp) (by simp);refine Ge.ex (H1.setO (x:=il (Eo a b c low high [(i,j)])) (AS (xs:=[(bx a b c,0),(tb low,0),(tb high,0),(.lst [pr (i,j)],om)]) (A7 (H1.var rfl) (A7 (H1.var rfl) (A7 (H1.var rfl) (AJ (Ck (AJ (Ck (A7 (H1.var rfl) (AJ (H1.var rfl))) rfl)) rfl))))) t1) (show 7 < 8 by decide)) λ ρ2 H2=>?_;have v7:Aa 7 ρ2=.ok (il (Eo a b c low high [(i,j)]),0,ρ2):=H2.var rfl;have s1:=Sm (AJ (Ru (n:=k + 1) v7 (E2 (g:=bC (.int 1)) (j:=1) (e:=om) (H2.var (j:=6) (x:=.int (k:Int)) rfl) rfl))) (B.sums t2 (k + 1));have s2:=Sm (AJ v7) (by have:=B.sums t2 0;rwa [Ti] at this);rw [yK B.p B.q hi hj k] at s1;rw [UG B.p B.q] at s2;obtain ⟨e,r⟩:=xG (n:=nK a b c low high i j k) hP (by omega);exact ⟨_,_,_,Dn (AS (xs:=[(.int (nK a b c low high i j k:Int),om),(.int ((PB a b c low high).length:Int),om)]) (A7 s1 (AJ s2)) r),rfl⟩
end
def q1:LN=Hk 1:=by
 have:R3=Mh RC:=by kernel_rfl
 unfold LN;rw [this];rfl
def q2:LP=Hk 2:=by
 have:R4=Mh LN:=by kernel_rfl
 unfold LP;rw [this,q1];rfl
def q3:LQ=Hk 3:=by
 have:R5=Mh LP:=by kernel_rfl
 unfold LQ;rw [this,q2];rfl
def q4:KQ=Hk 4:=by
 have:R6=Mh LQ:=by kernel_rfl
 show Oz=_;unfold Oz;rw [this,q3];rfl
def U1 {asg:PV->Ae->Option Ae}{body:Fs}{x:PV}{l:List PV}{ρ ρ1 ρ2:Ae} (h1:asg x ρ=some ρ1) (h2:body ρ1=.nx ρ2):BO asg body (x::l) ρ=BO asg body l ρ2:=by
 rw [BO,h1];dsimp only;rw [h2]
def wm (n:Nat) (x y:Int):Hk (n + 2) [.tup [.int x,.int y],.tup [.int x,.int y]]=.ok (.bl true,om,.non):=by
 let T:PV:=.tup [.int x,.int y];let R (s2 s3:QQ.Slot):Ae:=[some (T,dv T),some (T,dv T),s2,s3]
 have t1:bT (AN (CN "int") (Aa 1)) (R none none)=.ok (false,R none none):=by kernel_rfl
 have t2:bT (AN (CN "str") (Aa 1)) (R none none)=.ok (false,R none none):=by kernel_rfl
 have t3:bT pc4 (R none none)=.ok (false,R none none):=by kernel_rfl
 have t4:bT (Ab (Br true) pa8 pb3) (R none none)=.ok (false,R none none):=by kernel_rfl
 have st:∀ (z:Int) (s2 s3:QQ.Slot),Bw (bT (AN C2 (A9 (Hk (n + 1)) pb5))) (A3 (bC (.bl false))) A5 (R (some (.int z,om)) (some (.int z,om)))=.nx (R (some (.int z,om)) (some (.int z,om))):=λ z _ _=>(CY (AX (Gw (AS (xs:=[(.int z,om),(.int z,om)]) rfl (wk n z))))).trans rfl;have lp:BO (asgT [2,3]) (Bw (bT (AN C2 (A9 (Hk (n + 1)) pb5))) (A3 (bC (.bl false))) A5) [.tup [.int x,.int x],.tup [.int y,.int y]] (R none none)=.nx (R (some (.int y,om)) (some (.int y,om))):=by
  refine (U1 (ρ1:=R (some (.int x,om)) (some (.int x,om))) (ρ2:=R (some (.int x,om)) (some (.int x,om))) rfl (st x none none)).trans ?_;exact (U1 (ρ1:=R (some (.int y,om)) (some (.int y,om))) (ρ2:=R (some (.int y,om)) (some (.int y,om))) rfl (st y none none)).trans rfl
 have t5:=j9 (v:=.zp) (fa:=Af (Aa 0) (Af (Aa 1) (Ac))) (vs:=[0,1]) (ρ:=R none none) (xs:=[(T,dv T),(T,dv T)]) (ρ1:=R none none) (ρ2:=R none none) rfl rfl rfl lp;exact Ct rfl ((FI t1).trans ((FI t2).trans ((FI t3).trans ((FI t4).trans ((AR t5).trans rfl)))))
def Qm (n d:Nat):KQ [C1 n d,C1 n d]=.ok (.bl true,om,.non):=by
 rw [q4];exact wm 2 _ _
section
variable {a b c:Nat}{low high:List (List Int)}
end
section
variable {a b c:Nat}{low high:List (List Int)}
def Li (x:Int) {n:Nat} (hn:1<=n):∃ m:Nat,m < n/\x % (n:Int)=(m:Int):=by
 have h1:=Pc x (b:=(n:Int)) (by omega);have h2:=Pk x (b:=(n:Int)) (by omega);exact ⟨(x % (n:Int)).toNat,by omega,by omega⟩
end
structure Bx (a b c:Nat):Prop where
 N:BoxN a b c
 bd:(AF b c).length ^ (a + 1)<=2 ^ 30
 ab:a<=6/\b<=6/\c<=6
 lo:1<=a/\1<=b/\1<=c
def M5 (a b c:Nat):Bool:=Pr b c && decide ((AF b c).length ^ (a + 1)<=2 ^ 30) && decide (a<=6/\b<=6/\c<=6) && decide (1<=a/\1<=b/\1<=c)
def R9 {a b c:Nat} (h:M5 a b c=true):Bx a b c:=by
 unfold M5 at h;rw [Ba,Ba,Ba,decide_eq_true_iff,decide_eq_true_iff,decide_eq_true_iff] at h;obtain ⟨⟨⟨h1,h2⟩,h3⟩,h4⟩:=h;exact ⟨⟨qy (by omega) (by omega) (by omega) h1,by omega,Cw h2 (by decide),by omega⟩,h2,h3,h4⟩
section
variable {a b c:Nat}{low high t u:List (List Int)}
def jj {n:Nat}{ρ:Ae} (hn:ρ.length=n) (x y:PV):asgT [n,n + 1] (.tup [x,y]) (ρ++[none,none])=some (ρ++[some (x,dv x),some (y,dv y)]):=by
 subst hn;simp [QQ.asgT,By,asgN,List.set_append]
def Wm {L:List (Option PV)}{O:List Nat}{ρ:Ae}{n x y:Nat}{α:Type}{f:α->PV}{q:α->α->PV}{elt:Fx}{xs ys:List α} (h:HV L O ρ) (hn:L.length=n) (hx:L[x]?=some (some (.lst (xs.map f)))) (hy:L[y]?=some (some (.lst (ys.map f)))) (hl:xs.length<=1000) (he:∀ v w,v∈xs->w∈ys->∀ ρ',HV (L++[some (f v)]++[some (f w)]) O ρ'->elt ρ'=.ok (q v w,om,ρ')):Dm .zp (Af (Aa x) (Af (Aa y) (Ac))) 2 (asgT [n,n + 1]) Be elt ρ=.ok (.lst ((xs.zip ys).map λ z=>q z.1 z.2),om,ρ):=by
 have z:=sz;have hl':ρ.length=n:=h.len.trans hn;refine qA (enc:=λ z:α×α=>.tup [f z.1,f z.2]) (q:=λ z=>q z.1 z.2) (E:=λ z=>[some (f z.1,dv (f z.1)),some (f z.2,dv (f z.2))]) (as:=[(.lst (xs.map f),0),(.lst (ys.map f),0)]) (xs.zip ys) (A7 (h.var hx) (AJ (h.var hy))) (by show some (BY (xs.map f) (ys.map f))=_;rw [Yn]) (λ z _=>jj hl' _ _) (λ z hz=>?_) (by rw [Mu];omega)
 have:=((h.push (x:=f z.1) (d:=dv (f z.1))).push (x:=f z.2) (d:=dv (f z.2)))
 rw [Mw (as:=ρ)] at this;have hm:=KG (show (z.1,z.2)∈xs.zip ys from hz);exact he z.1 z.2 hm.1 hm.2 _ this
def Wn {L:List (Option PV)}{O:List Nat}{ρ:Ae}{n x y:Nat}{op:List (PV×Nat)->Option (PV×Nat)}{F:Int->Int->Int} (hop:∀ i j,op [(.int i,om),(.int j,om)]=some (.int (F i j),om)) (h:HV L O ρ) (hn:L.length=n) (hx:L[x]?=some (some (tb t))) (hy:L[y]?=some (some (tb u))) (ht:Tab a b t) (ha:a<=1000) (hb:b<=1000):
  Dm .zp (Af (Aa x) (Af (Aa y) (Ac))) 2 (asgT [n,n + 1]) Be (Dm .zp (Af (Aa n) (Af (Aa (n + 1)) (Ac))) 2 (asgT [n + 2,n + 3]) Be (An op (Af (Aa (n + 2)) (Af (Aa (n + 3)) (Ac))))) ρ=.ok (tb (zT F t u),om,ρ):=by
 subst hn;have at1:∀ (L:List (Option PV)) (v w:PV),(L++[some v]++[some w])[L.length]?=some (some v):=λ L v w=>by simp
 have at2:∀ (L:List (Option PV)) (v w:PV),(L++[some v]++[some w])[L.length + 1]?=some (some w):=λ L v w=>by simp
 refine (Wm (f:=il) (q:=λ v w=>il (Tf F v w)) h rfl hx hy (by rw [ht.1];exact ha) λ v w hv hw ρ' H=>?_).trans ?_
 ·have hl:(L++[some (il v)]++[some (il w)]).length=L.length + 2:=by simp
  refine (Wm (f:=PV.int) (q:=λ i j=>.int (F i j)) H hl (at1 _ _ _) (at2 _ _ _) (by rw [ht.2 v hv];exact hb) λ i j _ _ ρ2 H2=>Ck (A7 (H2.var (x:=.int i) (by rw [<- hl];exact at1 _ _ _)) (AJ (H2.var (x:=.int j) (by rw [show L.length + 3=(L.length + 2) + 1 by omega,<- hl];exact at2 _ _ _)))) (hop i j)).trans ?_;unfold il;rw [<- List.map_uncurry_zip_eq_zipWith,CB];rfl
 ·unfold tb zT;rw [CB];rfl
def Iy {v:Int}{i j:Nat} (hi:i < a) (hj:j < b):g (ID a b v) i j=v:=by
 unfold g ID;rw [AM (l:=AL a _),EB,if_pos hi];show (AL b v).getD j 0=v;rw [AM,EB,if_pos hj];rfl
def Yx {v:Int} (h:0<=v/\v<=c):Pile a b c (ID a b v):=⟨wF a b v,λ i j hi hj=>by rw [Iy hi hj];exact h.1,λ i j hi hj=>by rw [Iy hi hj];exact h.2,λ i j hi hj=>by rw [Iy hi hj,Iy (by omega) hj];exact D1 _,λ i j hi hj=>by rw [Iy hi hj,Iy hi (by omega)];exact D1 _⟩
def WB {L:List (Option PV)}{ρ:Ae}{n x:Nat}{f:Fx}{v:Int}{d:Nat} (h:HV L [] ρ) (hn:L.length=n) (hx:L[x]?=some (some (tb t))) (h0:L[0]?=some (some (bx a b c))) (ht:Tab a b t) (ha:a<=1000) (hb:b<=1000) (hf:∀ ρ' y,HV (L++[some y]) [] ρ'->f ρ'=.ok (.lst [.int v],d,ρ')):Cu (Aa x) 1 (asgN n) Be (Ab BX f pa4) ρ=.ok (tb (ID a b v),om,ρ):=by
 have z:=sz;refine (Ji (enc:=il) (q:=λ _=>il (AL b v)) t (h.var hx) (h.len.trans hn) (λ r _=>?_) (by rw [ht.1];omega)).trans ?_
 ·have H:=h.push (x:=il r) (d:=dv (il r));refine xH (hf _ _ H) (Cs (x:=bx a b c) (d:=0) (e:=om) (H.var ?_) rfl rfl) hb;rw [C7 (jb0.mp h0).1];exact h0
 ·unfold tb ID;rw [List.map_replicate,List.map_const',ht.1]
def OK (h:∀ i j,i < a->j < b->g low i j<=g high i j):K8 a b low high=true:=by
 unfold K8;rw [jb8];intro z hz;rw [decide_eq_true_iff];exact h _ _ (zwf.mp hz).1 (zwf.mp hz).2
def wG {ns:List Int} (X:Bx a b c) (hns:ns.length<=1000) (cell:Int):∃ low high d,Bt a b c low high/\P1 [bx a b c,.scr ns,.int cell]=.ok (.tup [tb low,tb high],d,.non):=by
 have A:=X.ab;have B:=X.lo;have hab:a * b<=36:=Mq A.1 A.2.1;obtain ⟨t,d1,p,hd1,e1⟩:=WS (a:=a) (b:=b) (c:=c) ns 3 cell (by decide) (by (clear hab hns;omega)) (by (clear hab hns;omega)) (by (clear hab hns;omega)) hns;obtain ⟨s60,e60⟩:=SH cell 60 (by decide);obtain ⟨s61,e61⟩:=SH cell 61 (by decide);obtain ⟨u,d2,q,hd2,e2⟩:=WS (a:=a) (b:=b) (c:=c) ns (3 + a * b) s60 (by (clear hd1 B A hns;omega)) (by (clear hd1 hab hns;omega)) (by (clear hd1 hab hns;omega)) (by (clear hd1 hab hns;omega)) hns;let L (s3 s4 s5 s6 s7:Option PV):List (Option PV):=[some (bx a b c),some (.scr ns),some (.int cell),s3,s4,s5,s6,s7]
 obtain ⟨y,d,e,low,high,rfl,hB⟩:=Ge.fn (R:=λ y=>∃ low high,y=.tup [tb low,tb high]/\Bt a b c low high) (np:=3) (k:=5) (b:=Pw) (xs:=[bx a b c,.scr ns,.int cell]) rfl (by
  have H0:HV (L none none none none none) [] [some (bx a b c,0),some (.scr ns,om),some (.int cell,om),none,none,none,none,none]:=HV.of [some (bx a b c,0),some (.scr ns,om),some (.int cell,om),none,none,none,none,none];show Ge Pw [some (bx a b c,0),some (.scr ns,om),some (.int cell,om),none,none,none,none,none] _;have bi:∀ {ρ:Ae}{L:List (Option PV)} (n:Int) (m:Nat),HV L [] ρ->L[0]?=some (some (bx a b c))->Ay (bx a b c) 0 (.int n) om=some (.int (m:Int),om)->Ab Ay (Aa 0) (bC (.int n)) ρ=.ok (.int (m:Int),om,ρ):=λ n m H e h=>Cs (x:=bx a b c) (d:=0) (e:=om) (H.var e) rfl h;refine Ge.ex (H0.set (x:=tb t) (AS (xs:=[(bx a b c,0),(.scr ns,om),(.int 3,om),(.int cell,om)]) (A7 (H0.var rfl) (A7 (H0.var rfl) (A7 rfl (AJ (H0.var rfl))))) e1) (show 3 < 8 by decide)) λ ρ1 (H1:HV (L (some (tb t)) none none none none) [] ρ1)=>?_;have m1:=E2 (f:=bC (.int 3)) (i:=3) (d:=om) (ρ:=ρ1) rfl (Hq (bi 0 a H1 rfl rfl) (bi 1 b H1 rfl rfl) (.inl ⟨by (clear hd2 hd1 hab B A hns;omega),by (clear hd2 hd1 hab B hns;omega)⟩));rw [show (3:Int) + (a:Int) * (b:Int)=((3 + a * b:Nat):Int) by rw [To,JA];rfl] at m1;refine Ge.ex (H1.set (x:=tb u) (AS (xs:=[(bx a b c,0),(.scr ns,om),(.int ((3 + a * b:Nat):Int),om),(.int s60,om)]) (A7 (H1.var rfl) (A7 (H1.var rfl) (A7 m1 (AJ (AS (xs:=[(.int cell,om),(.int 60,om)]) (A7 (H1.var rfl) (AJ rfl)) e60))))) e2) (show 4 < 8 by decide)) λ ρ2 (H2:HV (L (some (tb t)) (some (tb u)) none none none) [] ρ2)=>?_;refine Ge.ex (H2.setO (x:=tb (zT CV t u)) (Wn (op:=Hc) (F:=CV) (λ _ _=>rfl) H2 rfl rfl rfl p.tab (by (clear hd2 hd1 hab B hns;omega)) (by (clear hd2 hd1 hab B hns;omega))) (show 5 < 8 by decide)) λ ρ3 (H3:HV (L (some (tb t)) (some (tb u)) (some (tb (zT CV t u))) none none) [] ρ3)=>?_;refine Ge.ex (H3.setO (x:=tb (zT CF t u)) (Wn (op:=LX) (F:=CF) (λ _ _=>rfl) H3 rfl rfl rfl p.tab (by (clear hd2 hd1 hab B hns;omega)) (by (clear hd2 hd1 hab B hns;omega))) (show 6 < 8 by decide)) λ ρ4 (H4:HV (L (some (tb t)) (some (tb u)) (some (tb (zT CV t u))) (some (tb (zT CF t u))) none) [] ρ4)=>?_;refine Ge.ex (H4.setO (x:=.int (s61 % 5)) (DC (j:=5) (e:=om) (AS (xs:=[(.int cell,om),(.int 61,om)]) (A7 (H4.var rfl) (AJ rfl)) e61) rfl (by decide)) (show 7 < 8 by decide)) λ ρ5 (H5:HV (L (some (tb t)) (some (tb u)) (some (tb (zT CV t u))) (some (tb (zT CF t u))) (some (.int (s61 % 5)))) [] ρ5)=>?_;have gmin:∀ i j,i < a->j < b->g (zT CV t u) i j<=g (zT CF t u) i j:=λ i j hi hj=>by
   rw [Kg p.tab q.tab,Kg p.tab q.tab,Ew hi hj,Ew hi hj];unfold CV CF;split <;> split <;> (clear hj hi hd2 hd1 hab B A hns;omega)
  refine Ge.ex (P:=λ ρ=>∃ low,Pile a b c low/\(∀ i j,i < a->j < b->g low i j<=g (zT CF t u) i j)/\HV (L (some (tb t)) (some (tb u)) (some (tb low)) (some (tb (zT CF t u))) (some (.int (s61 % 5)))) [] ρ) ?_ λ ρ6 ⟨low,pl,hl,H6⟩=>?_
  ·have tt:=AX (Iv (p:=λ i j=>decide (j < i)) (H5.var (j:=7) (x:=.int (s61 % 5)) rfl) (g:=bC (.int 1)) (j:=1) (e:=om) rfl);by_cases hw:1 < s61 % 5
   ·rw [decide_eq_true hw] at tt;refine Nx.yes tt ((show Nx _ _ _ from H5.setO (x:=tb (ID a b 0)) (WB H5 rfl rfl rfl p.tab (by (clear hw hd2 hd1 hab B hns;omega)) (by (clear hw hd2 hd1 hab B hns;omega)) λ _ _ _=>rfl) (show 5 < 8 by decide)).mono λ ρ6 H6=>⟨_,Yx ⟨by (clear hw hd2 hd1 hab B A hns;omega),by (clear hw hd2 hd1 hab B A hns;omega)⟩,λ i j hi hj=>?_,H6⟩);rw [Iy hi hj];exact (Yl p q).lo i j hi hj
   ·rw [decide_eq_false hw] at tt;exact Nx.no tt ⟨_,vt p q,gmin,H5⟩
  refine Ge.ex (P:=λ ρ=>∃ high,Pile a b c high/\(∀ i j,i < a->j < b->g low i j<=g high i j)/\HV (L (some (tb t)) (some (tb u)) (some (tb low)) (some (tb high)) (some (.int (s61 % 5)))) [] ρ) ?_ λ ρ7 ⟨high,ph,hh,H7⟩=>?_
  ·have tt:=AX (Iv (p:=λ i j=>decide (j < i)) (H6.var (j:=7) (x:=.int (s61 % 5)) rfl) (g:=bC (.int 2)) (j:=2) (e:=om) rfl);by_cases hw:2 < s61 % 5
   ·rw [decide_eq_true hw] at tt;refine Nx.yes tt ((show Nx _ _ _ from H6.setO (x:=tb (ID a b (c:Int))) (WB H6 rfl rfl rfl p.tab (by (clear hw hd2 hd1 hab B hns;omega)) (by (clear hw hd2 hd1 hab B hns;omega)) λ ρ' y H=>Ck (AJ (bi 2 c H rfl rfl)) rfl) (show 6 < 8 by decide)).mono λ ρ7 H7=>⟨_,Yx ⟨by (clear hw hd2 hd1 hab B A hns;omega),by (clear hw hd2 hd1 hab B A hns;omega)⟩,λ i j hi hj=>?_,H7⟩);rw [Iy hi hj];exact pl.hi i j hi hj
   ·rw [decide_eq_false hw] at tt;exact Nx.no tt ⟨_,Yl p q,hl,H6⟩
  exact ⟨_,_,_,Dn (Ck (op:=BK) (A7 (H7.var rfl) (AJ (H7.var rfl))) rfl),low,high,rfl,X.N,X.bd,X.ab,pl,ph,OK hh⟩)
 exact ⟨low,high,d,hB,e⟩
end
def Ld {a b:Nat}{t:List (List Int)} (ht:Tab a b t):AD (AD t b) a=t:=
 IZ (Lo (Lo ht)) ht λ i j hi hj=>by rw [DZ (Lo ht) hj hi,DZ ht hi hj]
def Ll {a b:Nat}{c:Int}{t:List (List Int)} (ht:Tab a b t):BP (BP t c) c=t:=
 IZ (MM (MM ht)) ht λ i j hi hj=>by
  rw [Es (MM ht) hi hj,Es ht (by omega) (by omega),show a - 1 - (a - 1 - i)=i by omega,show b - 1 - (b - 1 - j)=j by omega];omega
def FZ {a b c:Nat}{t:List (List Int)} (p:Pile a b c t):As (As (As t b c) c a) a b=t:=by
 rw [jN p,Ki];exact IZ Le p.tab λ i j hi hj=>by rw [Ew hi hj,ZI p hi hj]
section
variable {a b c:Nat}{low high t u:List (List Int)}
def RI (B:Bt a b c low high) {i j:Nat} (hi:i < a) (hj:j < b):g low i j<=g high i j:=of_decide_eq_true (jb8.mp (show (Ex a b).all (λ z=>decide (g low z.1 z.2<=g high z.1 z.2))=true from B.le) (i,j) (zwf.mpr ⟨hi,hj⟩))
theorem VS {α β:Type} [BEq β] [LawfulBEq β] {f:α->β}:∀ {l:List α}{m:List β},l.Pairwise (·≠·)->(∀ x∈l,f x∈m)->(∀ x∈l,∀ y∈l,f x=f y->x=y)->l.length<=m.length
 | [],_,_,_,_=>Ft _
 | x::l,m,hn,hm,hi=>by
  have h1:=hm x AH;have hn':=jm5.mp hn
  have:=VS (l:=l) (m:=m.erase (f x)) hn'.2 (λ y hy=>(List.mem_erase_of_ne λ e=>hn'.1 y hy (hi y (AI _ hy) x AH e).symm).mpr (hm y (AI _ hy))) λ y hy z hz=>hi y (AI _ hy) z (AI _ hz)
  have h2:=List.length_erase_of_mem h1;have h3:=Zs h1;rw [Bh];omega
def O0 (p:Pile a b c low) (h:t∈PB a b c low high) {i j:Nat} (hi:i < a) (hj:j < b):g low i j<=g t i j/\g t i j<=g high i j:=by
 have:=(JP h).2.1 i j hi hj
 exact ⟨this.1,this.2.1⟩
def RD (p:Pile a b c low) (q:Pile a b c high) (ht:Pile a b c t) (h:∀ i j,i < a->j < b->g low i j<=g t i j/\g t i j<=g high i j):t∈PB a b c low high:=by
 have e:=U0 (lo:=g t) (hi:=g t) (lo':=g low) (hi':=g high) (c:=(c:Int)) (b:=b) (λ i j=>by
  by_cases hh:i < a/\j < b
  ·exact (h i j hh.1 hh.2).1
  ·rw [LY p.tab hh,LY ht.tab hh];exact D1 _) (λ i j=>by
  by_cases hh:i < a/\j < b
  ·exact (h i j hh.1 hh.2).2
  ·rw [LY q.tab hh,LY ht.tab hh];exact D1 _) a
 obtain ⟨r,e2⟩:=PZ (lo:=g t) (hi:=g t) (c:=(c:Int)) (b:=b) a (λ _ _ _ _=>D1 _) ht.hi ht.dn ht.rt;have e3:EO a b (g t)=t:=IZ Le ht.tab λ i j hi hj=>Ew hi hj;have m:t∈Ce (g t) (g t) c b a:=by rw [e2,e3];exact AH
 rw [<- e] at m;exact (je1.mp m).1
def nP (a b c:Nat) (low high:List (List Int)) (P:List (List Int)->Bool):Nat:=((PB a b c low high).filter P).length
def RJ {T:List (List Int)->List (List Int)}{P Q:List (List Int)->Bool}{a' b' c':Nat}{low' high':List (List Int)} (p:Pile a b c low) (hT:∀ t∈PB a b c low high,Pile a b c t->P t=true->T t∈PB a' b' c' low' high'/\Q (T t)=true) (hi:∀ t u,Pile a b c t->Pile a b c u->T t=T u->t=u):nP a b c low high P<=nP a' b' c' low' high' Q:=by
 unfold nP;refine VS (f:=T) ((U8 a).filter _) (λ t ht=>?_) λ t ht u hu e=>?_
 ·have h:=je1.mp ht
  have:=hT t h.1 (MN p h.1) h.2
  exact je1.mpr this
 ·exact hi t u (MN p (je1.mp ht).1) (MN p (je1.mp hu).1) e
def VX (p:Pile a b c low) (q:Pile a b c high) {P Q:List (List Int)->Bool} (h:∀ t,Pile a b c t->P t=true->Q (AD t b)=true):nP a b c low high P<=nP b a c (AD low b) (AD high b) Q:=RJ (T:=λ t=>AD t b) p (λ t ht pt hP=>⟨RD (Gu p) (Gu q) (Gu pt) λ j i hj hi=>by
 rw [DZ p.tab hi hj,DZ q.tab hi hj,DZ pt.tab hi hj];exact O0 p ht hi hj,h t pt hP⟩) λ t u ht hu e=>by rw [<- Ld ht.tab,<- Ld hu.tab];exact congrArg (λ t=>AD t a) e
def VW (p:Pile a b c low) (q:Pile a b c high) {P Q:List (List Int)->Bool} (h:∀ t,Pile a b c t->Q (AD t b)=P t):nP b a c (AD low b) (AD high b) Q=nP a b c low high P:=by
 refine Tj ?_ (VX p q λ t pt hP=>by rw [h t pt];exact hP)
 have:=VX (Gu p) (Gu q) (P:=Q) (Q:=P) λ t pt hQ=>by
  have:=h (AD t a) (Gu pt)
  rw [Ld pt.tab] at this;rw [<- this];exact hQ
 rwa [Ld p.tab,Ld q.tab] at this
def Qu (p:Pile a b c t) (q:Pile a b c u) (h:∀ i j,i < a->j < b->g t i j<=g u i j) {j k:Nat} (hj:j < b) (hk:k < c):g (As t b c) j k<=g (As u b c) j k:=by
 have r1:=DP p;have r2:=DP q;have l1:=r1.lo j k hj hk;have l2:=r1.hi j k hj hk;have l3:=r2.lo j k hj hk;by_cases e:g (As t b c) j k=0
 ·(clear l2 l1 hk hj;omega)
 ·have hi:(g (As t b c) j k).toNat - 1 < a:=by (clear l3 hk hj;omega)
  have:=(ON p hi hj hk).mp (by (clear hi l3 l2 hk hj;omega))
  have h1:=h _ j hi hj
  have:=(ON q hi hj hk).mpr (by (clear hi e l3 l2 l1 hk hj;omega))
  (clear h1 hi e l3 l2 l1 hk hj;omega)
def Sj (p:Pile a b c low) (q:Pile a b c high) {P Q:List (List Int)->Bool} (h:∀ t,Pile a b c t->P t=true->Q (As t b c)=true):nP a b c low high P<=nP b c a (As low b c) (As high b c) Q:=RJ (T:=λ t=>As t b c) p (λ t ht pt hP=>⟨RD (DP p) (DP q) (DP pt) λ j k hj hk=>⟨Qu p pt (λ i j hi hj=>(O0 p ht hi hj).1) hj hk,Qu pt q (λ i j hi hj=>(O0 p ht hi hj).2) hj hk⟩,h t pt hP⟩) λ t u ht hu e=>by rw [<- FZ ht,<- FZ hu];exact congrArg (λ t=>As (As t c a) a b) e
def Wz (p:Pile a b c low) (q:Pile a b c high) {P Q:List (List Int)->Bool} (h:∀ t,Pile a b c t->Q (As t b c)=P t):nP b c a (As low b c) (As high b c) Q=nP a b c low high P:=by
 refine Tj ?_ (Sj p q λ t pt hP=>by rw [h t pt];exact hP);have s1:=Sj (DP p) (DP q) (P:=Q) (Q:=λ t=>P (As t a b)) λ t pt hQ=>by
  have:=h (As (As t c a) a b) (DP (DP pt))
  rw [FZ pt] at this;rw [<- this];exact hQ
 have s2:=Sj (DP (DP p)) (DP (DP q)) (P:=λ t=>P (As t a b)) (Q:=P) λ t _ h=>h;rw [FZ p,FZ q] at s2;exact Cw s1 s2
def WZ (p:Pile a b c low) (q:Pile a b c high) {P Q:List (List Int)->Bool} (h:∀ t,Pile a b c t->P t=true->Q (BP t c)=true):nP a b c low high P<=nP a b c (BP high c) (BP low c) Q:=RJ (T:=λ t=>BP t c) p (λ t ht pt hP=>⟨RD (Ij q) (Ij p) (Ij pt) λ i j hi hj=>by
 rw [Es p.tab hi hj,Es q.tab hi hj,Es pt.tab hi hj]
 have:=O0 p ht (i:=a - 1 - i) (j:=b - 1 - j) (by omega) (by omega)
 omega,h t pt hP⟩) λ t u ht hu e=>by rw [<- Ll (c:=(c:Int)) ht.tab,<- Ll (c:=(c:Int)) hu.tab];exact congrArg (λ t=>BP t (c:Int)) e
def WY (p:Pile a b c low) (q:Pile a b c high) {P Q:List (List Int)->Bool} (h:∀ t,Pile a b c t->Q (BP t c)=P t):nP a b c (BP high c) (BP low c) Q=nP a b c low high P:=by
 refine Tj ?_ (WZ p q λ t pt hP=>by rw [h t pt];exact hP)
 have:=WZ (Ij q) (Ij p) (P:=Q) (Q:=P) λ t pt hQ=>by
  have:=h (BP t c) (Ij pt)
  rw [Ll pt.tab] at this;rw [<- this];exact hQ
 rwa [Ll p.tab,Ll q.tab] at this
theorem UC {α:Type}{P:α->Bool}:∀ l:List α,(l.filter λ x=>!P x).length + (l.filter P).length=l.length
 | []=>rfl
 | x::l=>by
  have:=UC (P:=P) l
  rw [E9,E9,Bh];cases P x <;> simp <;> omega
def K1:nP a b c low high (λ _=>true)=(PB a b c low high).length:=congrArg YB (jf0.mpr λ _ _=>rfl)
def qV (p:Pile a b c low) (q:Pile a b c high) {i j k:Nat} (hi:i < a) (hj:j < b):nK b a c (AD low b) (AD high b) j i k=nK a b c low high i j k/\(PB b a c (AD low b) (AD high b)).length=(PB a b c low high).length:=
 ⟨VW p q λ t pt=>by rw [DZ pt.tab hi hj],by rw [<- K1,<- K1];exact VW p q λ _ _=>rfl⟩
def xI (p:Pile a b c low) (q:Pile a b c high) {i j k:Nat} (hi:i < a) (hj:j < b) (hk:k < c):nK b c a (As low b c) (As high b c) j k i=nK a b c low high i j k/\(PB b c a (As low b c) (As high b c)).length=(PB a b c low high).length:=
 ⟨Wz p q λ t pt=>decide_eq_decide.mpr (ON pt hi hj hk),by rw [<- K1,<- K1];exact Wz p q λ _ _=>rfl⟩
def jL (p:Pile a b c low) (q:Pile a b c high) {i j k:Nat} (hi:i < a) (hj:j < b) (hk:k < c):nK a b c (BP high c) (BP low c) (a - 1 - i) (b - 1 - j) (c - 1 - k) + nK a b c low high i j k=(PB a b c low high).length/\(PB a b c (BP high c) (BP low c)).length=(PB a b c low high).length:=by
 refine ⟨?_,by rw [<- K1,<- K1];exact WY p q λ _ _=>rfl⟩;have h1:nK a b c (BP high c) (BP low c) (a - 1 - i) (b - 1 - j) (c - 1 - k)=nP a b c low high λ t=>!decide ((k:Int) < g t i j):=WY p q λ t pt=>by
  rw [Es pt.tab (by (clear hk hj;omega)) (by (clear hk hi;omega)),show a - 1 - (a - 1 - i)=i by (clear hk hj;omega),show b - 1 - (b - 1 - j)=j by (clear hk hi;omega),<- decide_not];exact decide_eq_decide.mpr (by (clear hj hi;omega))
 rw [h1];exact UC (PB a b c low high)
def wu {n m d:Nat} (hd:0 < d) (h:m + n=d):∃ x y:Nat,C1 n d=.tup [.int (x:Int),.int (y:Int)]/\C1 m d=.tup [.int ((y:Int) - (x:Int)),.int (y:Int)]:=by
 have gp:0 < C4 n d:=Zw _ hd;have eg:C4 m d=C4 n d:=by
  rw [show m=d - n by omega];exact Nat.gcd_self_sub_left (by omega)
 refine ⟨n / C4 n d,d / C4 n d,rfl,?_⟩;unfold C1;rw [eg];have e1:=Zh (Nat.gcd_dvd_left n d);have e2:=Zh (Nat.gcd_dvd_right n d);have e3:m=C4 n d * (d / C4 n d - n / C4 n d):=by
  rw [Nat.mul_sub,e1,e2];omega
 have hl:n / C4 n d<=d / C4 n d:=Nat.div_le_div_right (by omega);have e4:m / C4 n d=d / C4 n d - n / C4 n d:=by
  rw [Nat.div_eq_of_eq_mul_right gp e3]
 rw [e4,Int.natCast_sub hl]
end
def Gr (a b c:Nat):Bool:=M5 a b c && M5 b a c && M5 b c a
structure B3 (a b c:Nat):Prop where
 x:Bx a b c
 m:Bx b a c
 r:Bx b c a
def R7 {a b c:Nat} (h:Gr a b c=true):B3 a b c:=by
 unfold Gr at h;rw [Ba,Ba] at h;exact ⟨R9 h.1.1,R9 h.1.2,R9 h.2⟩
def bxs:List (Nat×Nat×Nat):=[(2,5,2),(1,6,3),(2,2,6),(6,1,2),(2,6,1),(6,2,2)]
def allB:Bool:=((A6 2).all λ a=>(A6 3).all λ b=>(A6 3).all λ c=>Gr (a + 1) (b + 1) (c + 1) && Gr (b + 1) (c + 1) (a + 1)) && bxs.all λ z=>Gr z.1 z.2.1 z.2.2
def W3:allB=true:=by kernel_rfl
def wH {a b c:Nat} (ha:a < 2) (hb:b < 3) (hc:c < 3):B3 (a + 1) (b + 1) (c + 1)/\B3 (b + 1) (c + 1) (a + 1):=by
 have h:=W3;unfold allB at h;rw [Ba] at h;have h:=jb8.mp (jb8.mp (jb8.mp h.1 a (jc5.mpr ha)) b (jc5.mpr hb)) c (jc5.mpr hc);rw [Ba] at h;exact ⟨R7 h.1,R7 h.2⟩
def zQ {z:Nat×Nat×Nat} (h:z∈bxs):B3 z.1 z.2.1 z.2.2:=by
 have h':=W3;unfold allB at h';rw [Ba] at h';exact R7 (jb8.mp h'.2 z h)
def qk (x:Int) {d e:Nat}:CD false (.int x) d (.tup [.int 4,.int 13]) e=some (.bl (decide (x=4) || decide (x=13)),om):=by
 show some (PV.bl (false^^(FT (.int 4) (.int x) || (FT (.int 13) (.int x) || false))),om)=_
 have:∀ y:Int,((y:Int) == x)=decide (x=y):=λ y=>by by_cases h:x=y <;> simp [h] <;> omega
 rw [FT,FT,this,this,OY,Pa]
def qz (cell:Int):∃ a b c d,B3 a b c/\P4 [.int cell]=.ok (bx a b c,d,.non):=by
 obtain ⟨ns,hl,e1⟩:=Qd cell 4 (by decide);obtain ⟨n0,n1,n2,n3,rfl⟩:∃ n0 n1 n2 n3,ns=[n0,n1,n2,n3]:=by
  rcases ns with _ | ⟨n0,_ | ⟨n1,_ | ⟨n2,_ | ⟨n3,_ | _⟩⟩⟩⟩ <;> simp at hl
  exact ⟨_,_,_,_,rfl⟩
 let L (s1 s2:Option PV):List (Option PV):=[some (.int cell),s1,s2]
 obtain ⟨y,d,e,a,b,c,rfl,hB⟩:=Ge.fn (R:=λ y=>∃ a b c:Nat,y=bx a b c/\B3 a b c) (np:=1) (k:=2) (b:=Px) (xs:=[.int cell]) rfl (by
  have H0:HV (L none none) [] [some (.int cell,om),none,none]:=HV.of [some (.int cell,om),none,none];show Ge Px [some (.int cell,om),none,none] _;refine Ge.ex (H0.setO (x:=il [n0,n1,n2,n3]) (AS (xs:=[(.int cell,om),(.int 4,om)]) (A7 (H0.var rfl) (AJ rfl)) e1) (show 1 < 3 by decide)) λ ρ1 (H1:HV (L (some (il [n0,n1,n2,n3])) none) [] ρ1)=>?_;have ix:∀ {s2:Option PV}{ρ:Ae} (k v:Int),HV (L (some (il [n0,n1,n2,n3])) s2) [] ρ->Ay (il [n0,n1,n2,n3]) 0 (.int k) om=some (.int v,om)->Ab Ay (Aa 1) (bC (.int k)) ρ=.ok (.int v,om,ρ):=λ {s2 ρ} k v H h=>Cs (x:=il [n0,n1,n2,n3]) (d:=0) (e:=om) (H.var rfl) rfl h;obtain ⟨x,hx,ex⟩:=Li n0 (n:=2) (by decide);obtain ⟨y,hy,ey⟩:=Li n1 (n:=3) (by decide);obtain ⟨w,hw,ew⟩:=Li n2 (n:=3) (by decide);have i0:=E2 (f:=bC (.int 1)) (i:=1) (d:=om) rfl (DC (g:=bC (.int 2)) (e:=om) (j:=2) (ix 0 n0 H1 rfl) rfl (by decide));have i1:=E2 (f:=bC (.int 1)) (i:=1) (d:=om) rfl (DC (g:=bC (.int 3)) (e:=om) (j:=3) (ix 1 n1 H1 rfl) rfl (by decide));have i2:=E2 (f:=bC (.int 1)) (i:=1) (d:=om) rfl (DC (g:=bC (.int 3)) (e:=om) (j:=3) (ix 2 n2 H1 rfl) rfl (by decide));rw [show n0 % 2=(x:Int) from ex,show 1 + (x:Int)=((x + 1:Nat):Int) by omega] at i0;rw [show n1 % 3=(y:Int) from ey,show 1 + (y:Int)=((y + 1:Nat):Int) by omega] at i1;rw [show n2 % 3=(w:Int) from ew,show 1 + (w:Int)=((w + 1:Nat):Int) by omega] at i2;have hs:=wH hx hy hw;refine Ge.ex (H1.set (x:=bx ((x + 1:Nat):Int) ((y + 1:Nat):Int) ((w + 1:Nat):Int)) (Ck (A7 i0 (A7 i1 (AJ i2))) rfl) (show 2 < 3 by decide)) λ ρ2 (H2:HV (L (some (il [n0,n1,n2,n3])) (some (bx ((x + 1:Nat):Int) ((y + 1:Nat):Int) ((w + 1:Nat):Int)))) [] ρ2)=>?_;refine Ge.ex (P:=λ ρ=>∃ a b c:Nat,B3 a b c/\HV (L (some (il [n0,n1,n2,n3])) (some (bx a b c))) [] ρ) ?_ λ ρ3 ⟨a,b,c,hB,H3⟩=>?_
  ·have t:=AX (K3 (neg:=false) (DC (g:=bC (.int 2)) (j:=2) (e:=om) (ix 3 n3 H2 rfl) rfl (by decide)) (g:=bC (.int 1)) (j:=1) (e:=om) rfl);by_cases h:n3 % 2=1
   ·rw [decide_eq_true h] at t;have bi:∀ (n:Int) (m:Nat),Ay (bx ((x + 1:Nat):Int) ((y + 1:Nat):Int) ((w + 1:Nat):Int)) (dv (bx ((x + 1:Nat):Int) ((y + 1:Nat):Int) ((w + 1:Nat):Int))) (.int n) om=some (.int (m:Int),om)->Ab Ay (Aa 2) (bC (.int n)) ρ2=.ok (.int (m:Int),om,ρ2):=λ n m h=>Cs (H2.var (j:=2) rfl) rfl h;exact Nx.yes t (Nx.mono (H2.set (x:=bx ((y + 1:Nat):Int) ((w + 1:Nat):Int) ((x + 1:Nat):Int)) (Ck (A7 (bi 1 (y + 1) rfl) (A7 (bi 2 (w + 1) rfl) (AJ (bi 0 (x + 1) rfl)))) rfl) (show 2 < 3 by decide)) λ ρ h=>⟨_,_,_,hs.2,h⟩)
   ·rw [decide_eq_false h] at t;exact Nx.no t ⟨_,_,_,hs.1,H2⟩
  refine Ge.ex (P:=λ ρ=>∃ a b c:Nat,B3 a b c/\HV (L (some (il [n0,n1,n2,n3])) (some (bx a b c))) [] ρ) ?_ λ ρ4 ⟨a,b,c,hB,H4⟩=>Ge.retV H4 (x:=bx a b c) rfl ⟨a,b,c,rfl,hB⟩;have t:=AX (Cs (op:=CD false) (DC (g:=bC (.int 16)) (j:=16) (e:=om) (ix 3 n3 H3 rfl) rfl (by decide)) (g:=An BK pf6) (y:=.tup [.int 4,.int 13]) (e:=om) rfl (qk _));cases hd:decide (n3 % 16=4) || decide (n3 % 16=13) with
  | false=>
   rw [hd] at t;exact Nx.no t ⟨_,_,_,hB,H3⟩
  | true=>
   rw [hd] at t;obtain ⟨k,hk,ek⟩:=Li (n0 / 8) (n:=6) (by decide);have mk:∃ z∈bxs,∃ e,Ay (.lst (bxs.map λ z=>bx z.1 z.2.1 z.2.2)) om (.int (k:Int)) om=some (bx z.1 z.2.1 z.2.2,e):=by
    rcases k with _ | _ | _ | _ | _ | _ | k
    ·exact ⟨(2,5,2),by decide,_,rfl⟩
    ·exact ⟨(1,6,3),by decide,_,rfl⟩
    ·exact ⟨(2,2,6),by decide,_,rfl⟩
    ·exact ⟨(6,1,2),by decide,_,rfl⟩
    ·exact ⟨(2,6,1),by decide,_,rfl⟩
    ·exact ⟨(6,2,2),by decide,_,rfl⟩
    ·omega
   obtain ⟨z,hz,e,eo⟩:=mk;have j1:=DC (j:=6) (e:=om) (Kc (g:=bC (.int 8)) (j:=8) (e:=om) (ix 0 n0 H3 rfl) rfl (by decide) (by decide)) (g:=bC (.int 6)) rfl (by decide);rw [show n0 / 8 % 6=(k:Int) from ek] at j1;exact Nx.yes t (Nx.mono (H3.set (x:=bx z.1 z.2.1 z.2.2) (Cs (x:=.lst (bxs.map λ z=>bx z.1 z.2.1 z.2.2)) (d:=om) rfl j1 eo) (show 2 < 3 by decide)) λ ρ h=>⟨_,_,_,zQ hz,h⟩))
 exact ⟨a,b,c,d,hB,e⟩
def Fr (ns:List Int) (s1 s2 s3 s4 s5 s6 s7 s8 s9 s10 s11 s12 s13 s14 s15 s16:Option PV):List (Option PV):=[some (.scr ns),s1,s2,s3,s4,s5,s6,s7,s8,s9,s10,s11,s12,s13,s14,s15,s16]
def HV.pr3 {L:List (Option PV)}{O:List Nat}{ρ:Ae}{i j k:Nat}{fa:Fa}{a b c:Int}{d e f:Nat} (h:HV L O ρ) (hf:fa ρ=.ok ([(.int a,d),(.int b,e),(.int c,f)],ρ)) (hi:i < L.length) (hj:j < L.length) (hk:k < L.length) (ho:i∉O/\j∉O/\k∉O):Nx (EN i j k fa) ρ (HV (((L.set i (some (.int a))).set j (some (.int b))).set k (some (.int c))) O):=by
 obtain ⟨ρ',e,h'⟩:=h.asg3 (.int a) (.int b) (.int c) hi hj hk ho;refine ⟨ρ',?_,h'⟩;have e:By [i,j,k] [.int a,.int b,.int c] ρ=some ρ':=e;unfold EN;rw [hf];dsimp only;rw [e]
def law_true:∀ ns:List Int,ns.length<=63->∃ d z,F34 [.scr ns]=.ok (.bl true,d,z):=by
 intro ns hns;have z:=sz;refine Gv.fn rfl (show Gv TQ [some (.scr ns,om),none,none,none,none,none,none,none,none,none,none,none,none,none,none,none,none] _ from ?_);have h0:HV (Fr ns none none none none none none none none none none none none none none none none) [] [some (.scr ns,om),none,none,none,none,none,none,none,none,none,none,none,none,none,none,none,none]:=HV.of [some (.scr ns,om),none,none,none,none,none,none,none,none,none,none,none,none,none,none,none,none];obtain ⟨a,b,c,d1,B3,e1⟩:=qz (ns.getD 0 0);have X:=B3.x;refine Gv.ex (h0.set (x:=bx a b c) (AS (xs:=[(.int (ns.getD 0 0),om)]) (AJ (AS (xs:=[(.scr ns,om),(.int 0,om)]) (A7 (h0.var rfl) (AJ rfl)) (SQ ns 0))) e1) (show 1 < 17 by decide)) λ ρ1 h1=>?_;refine Gv.ex (h1.unp3 (x:=.int (a:Int)) (y:=.int (b:Int)) (z:=.int (c:Int)) (d:=0) (h1.var (j:=1) rfl) (show 2 < 17 by decide) (show 3 < 17 by decide) (show 4 < 17 by decide)) λ ρ2 h2=>?_;obtain ⟨low,high,d2,B,e2⟩:=wG X (show ns.length<=1000 by omega) (ns.getD 1 0);refine Gv.ex (h2.unp2 (x:=tb low) (y:=tb high) (AS (xs:=[(bx a b c,0),(.scr ns,om),(.int (ns.getD 1 0),om)]) (A7 (h2.var (j:=1) rfl) (A7 (h2.var (j:=0) rfl) (AJ (AS (xs:=[(.scr ns,om),(.int 1,om)]) (A7 (h2.var (j:=0) rfl) (AJ rfl)) (SQ ns 1))))) e2) (show 5 < 17 by decide) (show 6 < 17 by decide) (λ _ h=>(nomatch h)) ⟨λ h=>(nomatch h),λ h=>(nomatch h)⟩) λ ρ3 h3=>?_;have A:=X.ab;have LO:=X.lo;have p:=B.p;have q:=B.q;have ms:∀ t,Pile a b c t->f_mirrored_pile [bx a b c,tb t]=.ok (tb (AD t b),om,.non):=λ t p=>qW p (by (clear z hns;omega)) (by (clear z hns;omega)) (by (clear A z hns;omega));have rs:∀ t,Pile a b c t->f_rolled_pile [bx a b c,tb t]=.ok (tb (As t b c),om,.non):=λ t p=>xJ p (by (clear z hns;omega)) (by (clear z hns;omega)) (by (clear z hns;omega));have ss:∀ t,Pile a b c t->f_rest_of [bx a b c,tb t]=.ok (tb (BP t c),om,.non):=λ t p=>jM p (by (clear z hns;omega)) (by (clear z hns;omega)) (by (clear A z hns;omega));refine Gv.ex (h3.set (x:=.lst [tb (AD low b),tb (AD high b)]) (Ck (A7 (AS (xs:=[(bx a b c,0),(tb low,0)]) (A7 (h3.var (j:=1) rfl) (AJ (h3.var (j:=5) rfl))) (ms low p)) (AJ (AS (xs:=[(bx a b c,0),(tb high,0)]) (A7 (h3.var (j:=1) rfl) (AJ (h3.var (j:=6) rfl))) (ms high q)))) rfl) (show 7 < 17 by decide)) λ ρ4 h4=>?_;refine Gv.ex (h4.set (x:=.lst [tb (As low b c),tb (As high b c)]) (Ck (A7 (AS (xs:=[(bx a b c,0),(tb low,0)]) (A7 (h4.var (j:=1) rfl) (AJ (h4.var (j:=5) rfl))) (rs low p)) (AJ (AS (xs:=[(bx a b c,0),(tb high,0)]) (A7 (h4.var (j:=1) rfl) (AJ (h4.var (j:=6) rfl))) (rs high q)))) rfl) (show 8 < 17 by decide)) λ ρ5 h5=>?_;refine Gv.ex (h5.set (x:=.lst [tb (BP high c),tb (BP low c)]) (Ck (A7 (AS (xs:=[(bx a b c,0),(tb high,0)]) (A7 (h5.var (j:=1) rfl) (AJ (h5.var (j:=6) rfl))) (ss high q)) (AJ (AS (xs:=[(bx a b c,0),(tb low,0)]) (A7 (h5.var (j:=1) rfl) (AJ (h5.var (j:=5) rfl))) (ss low p)))) rfl) (show 9 < 17 by decide)) λ ρ6 h6=>?_;obtain ⟨ms,hl,e3⟩:=Qd (ns.getD 2 0) 9 (by decide);refine Gv.ex (h6.setO (x:=il ms) (AS (xs:=[(.int (ns.getD 2 0),om),(.int 9,om)]) (A7 (AS (xs:=[(.scr ns,om),(.int 2,om)]) (A7 (h6.var (j:=0) rfl) (AJ rfl)) (SQ ns 2)) (AJ rfl)) e3) (show 10 < 17 by decide)) λ ρ7 h7=>?_;let P (s11 s12 s13 s14 s15 s16:Option PV):List (Option PV):=Fr ns (some (bx a b c)) (some (.int (a:Int))) (some (.int (b:Int))) (some (.int (c:Int))) (some (tb low)) (some (tb high)) (some (.lst [tb (AD low b),tb (AD high b)])) (some (.lst [tb (As low b c),tb (As high b c)])) (some (.lst [tb (BP high c),tb (BP low c)])) (some (il ms)) s11 s12 s13 s14 s15 s16;have BM:Bt b a c (AD low b) (AD high b):=⟨B3.m.N,B3.m.bd,B3.m.ab,Gu p,Gu q,OK λ j i hj hi=>by
  rw [DZ p.tab hi hj,DZ q.tab hi hj];exact RI B hi hj⟩
 have BR:Bt b c a (As low b c) (As high b c):=⟨B3.r.N,B3.r.bd,B3.r.ab,DP p,DP q,OK λ j k hj hk=>Qu p q (λ i j hi hj=>RI B hi hj) hj hk⟩
 have BS:Bt a b c (BP high c) (BP low c):=⟨X.N,X.bd,X.ab,Ij q,Ij p,OK λ i j hi hj=>by
  rw [Es p.tab hi hj,Es q.tab hi hj]
  have:=RI B (i:=a - 1 - i) (j:=b - 1 - j) (by (clear hj hi hl A z hns;omega)) (by (clear hj hi hl A z hns;omega))
  (clear hj hi hl LO A z hns;omega)⟩
 have hP:=B.pos;have K:∀ {f:Fx}{ρ:Ae}{s11 s12 s13 s14 s15 s16:Option PV}{t n s:Nat}{e:Nat} ,HV (P s11 s12 s13 s14 s15 s16) [] ρ->f ρ=.ok (.int (t:Int),e,ρ)->t < 9->1<=n->(P s11 s12 s13 s14 s15 s16)[s]?=some (some (.int (n:Int)))->∃ m:Nat,m < n/\Ab CO (Ab Ay (Aa 10) f) (Aa s) ρ=.ok (.int (m:Int),om,ρ):=λ {f ρ s11 s12 s13 s14 s15 s16 t n s e} h hf ht hn hs=>by
  obtain ⟨m,hm,em⟩:=Li (ms.getD t 0) hn
  have:=DC (FJ (xs:=ms) (k:=(t:Int)) (x:=ms.getD t 0) (h.var (j:=10) rfl) hf (Dj (by (clear em hm hn ht hP hl LO A z hns;omega)) (DD (by rw [hl];(clear em hm hn hP hl LO A z hns;omega))))) (h.var (j:=s) hs) (by (clear em hm ht hP hl LO A z hns;omega))
  rw [em] at this;exact ⟨m,hm,this⟩
 refine Gv.ex (P:=HV (P none none none none none none) []) (Nx.forR (n:=3) (d:=om) (f:=bC (.int 3)) (λ _ ρ=>HV (P none none none none none none) [] ρ) rfl (by decide) h7 λ at' ρ hk h=>?_) λ ρ8 h8=>Gv.ret (f:=bC (.bl true)) rfl;obtain ⟨ρ',ea,h'⟩:=h.asgN (i:=11) (.int (at':Int)) (show 11 < 17 by decide) (λ h=>nomatch h);refine ⟨ρ',ea,?_⟩;have h':HV (P (some (.int (at':Int))) none none none none none) [] ρ':=h';have v8:=h'.var (j:=11) (x:=.int (at':Int)) rfl;have m3:=Hq (f:=bC (.int 3)) (i:=3) (d:=om) (ρ:=ρ') rfl v8 (.inl (by decide));have a1:=E2 m3 (g:=bC (.int 1)) (j:=1) (e:=om) rfl;have a2:=E2 m3 (g:=bC (.int 2)) (j:=2) (e:=om) rfl;rw [show (3:Int) * (at':Int)=((3 * at':Nat):Int) by (clear hk hP hl LO A z hns;omega)] at m3;rw [show (3:Int) * (at':Int) + 1=((3 * at' + 1:Nat):Int) by (clear hk hP hl LO A z hns;omega)] at a1;rw [show (3:Int) * (at':Int) + 2=((3 * at' + 2:Nat):Int) by (clear hk hP hl LO A z hns;omega)] at a2;obtain ⟨i,hi,ei⟩:=K (s:=2) h' m3 (by (clear hP hl LO A z hns;omega)) LO.1 rfl;obtain ⟨j,hj,ej⟩:=K (s:=3) h' a1 (by (clear hi hP hl LO A z hns;omega)) LO.2.1 rfl;obtain ⟨k,hk',ek⟩:=K (s:=4) h' a2 (by (clear hj hi hP hl LO A z hns;omega)) LO.2.2 rfl;refine Nx.seq (HV.pr3 (i:=12) (j:=13) (k:=14) h' (A7 ei (A7 ej (AJ ek))) (show 12 < 17 by decide) (show 13 < 17 by decide) (show 14 < 17 by decide) ⟨λ h=>(nomatch h),λ h=>(nomatch h),λ h=>(nomatch h)⟩) λ ρa (ha:HV (P (some (.int (at':Int))) (some (.int (i:Int))) (some (.int (j:Int))) (some (.int (k:Int))) none none) [] ρa)=>?_;obtain ⟨N,eN⟩:∃ N,N=(PB a b c low high).length:=⟨_,rfl⟩
 obtain ⟨n,en⟩:∃ n,n=nK a b c low high i j k:=⟨_,rfl⟩
 obtain ⟨ds,es⟩:=Np B hi hj hk';obtain ⟨dm,em⟩:=Np BM hj hi hk';obtain ⟨dr,er⟩:=Np BR hj hk' hi;obtain ⟨dt,et⟩:=Np BS (i:=a - 1 - i) (j:=b - 1 - j) (k:=c - 1 - k) (by (clear en eN hk' hj hi hk hP hl A z hns;omega)) (by (clear en eN hk' hj hi hk hP hl A z hns;omega)) (by (clear en eN hk' hj hi hk hP hl A z hns;omega));have qm:=qV p q (k:=k) hi hj;have qr:=xI p q hi hj hk';have qs:=jL p q hi hj hk';rw [<- eN,<- en] at es;rw [qm.1,qm.2,<- eN,<- en] at em;rw [qr.1,qr.2,<- eN,<- en] at er;obtain ⟨m,hm⟩:∃ m,m=nK a b c (BP high c) (BP low c) (a - 1 - i) (b - 1 - j) (c - 1 - k):=⟨_,rfl⟩
 rw [<- hm,qs.2,<- eN] at et;have hmn:m + n=N:=by rw [hm,en,eN];exact qs.1
 obtain ⟨x,y,ex,ey⟩:=wu (n:=n) (m:=m) (d:=N) (by (clear hmn hm qs qr qm en hk' hj hi hk hl LO A z hns;omega)) hmn;refine Nx.seq (ha.set (x:=C1 n N) (AS (xs:=[(bx a b c,0),(tb low,0),(tb high,0),(c3 (i,j,k),om)]) (A7 (ha.var (j:=1) rfl) (A7 (ha.var (j:=5) rfl) (A7 (ha.var (j:=6) rfl) (AJ (Ck (A7 (ha.var (j:=12) rfl) (A7 (ha.var (j:=13) rfl) (AJ (ha.var (j:=14) rfl)))) rfl))))) es) (show 15 < 17 by decide)) λ ρb (hb:HV (P (some (.int (at':Int))) (some (.int (i:Int))) (some (.int (j:Int))) (some (.int (k:Int))) (some (C1 n N)) none) [] ρb)=>?_;have ix:∀ {L:List (Option PV)}{ρ:Ae}{s:Nat}{t u:PV} (H:HV L [] ρ),L[s]?=some (some (.lst [t,u]))->(∃ d,Ab Ay (Aa s) (bC (.int 0)) ρ=.ok (t,d,ρ))/\∃ d,Ab Ay (Aa s) (bC (.int 1)) ρ=.ok (u,d,ρ):=λ {L ρ s t u} H h=>⟨⟨_,Cs (H.var h) (g:=bC (.int 0)) (y:=.int 0) (e:=om) rfl rfl⟩,⟨_,Cs (H.var h) (g:=bC (.int 1)) (y:=.int 1) (e:=om) rfl rfl⟩⟩
 obtain ⟨⟨d7,i7⟩,⟨d7',i7'⟩⟩:=ix (s:=7) hb rfl;refine Nx.seq (Nx.no (P:=HV (P (some (.int (at':Int))) (some (.int (i:Int))) (some (.int (j:Int))) (some (.int (k:Int))) (some (C1 n N)) none) []) (AX (Gw (b:=true) (d:=om) (AS (xs:=[(C1 n N,dm),(C1 n N,dv (C1 n N))]) (A7 (AS (xs:=[(bx b a c,om),(tb (AD low b),d7),(tb (AD high b),d7'),(c3 (j,i,k),om)]) (A7 (Ck (A7 (hb.var (j:=3) rfl) (A7 (hb.var (j:=2) rfl) (AJ (hb.var (j:=4) rfl)))) rfl) (A7 i7 (A7 i7' (AJ (Ck (A7 (hb.var (j:=13) rfl) (A7 (hb.var (j:=12) rfl) (AJ (hb.var (j:=14) rfl)))) rfl))))) em) (AJ (hb.var (j:=15) rfl))) (Qm _ _)))) hb) λ ρc hc=>?_;obtain ⟨⟨d8,i8⟩,⟨d8',i8'⟩⟩:=ix (s:=8) hc rfl;refine Nx.seq (Nx.no (P:=HV (P (some (.int (at':Int))) (some (.int (i:Int))) (some (.int (j:Int))) (some (.int (k:Int))) (some (C1 n N)) none) []) (AX (Gw (b:=true) (d:=om) (AS (xs:=[(C1 n N,dr),(C1 n N,dv (C1 n N))]) (A7 (AS (xs:=[(bx b c a,om),(tb (As low b c),d8),(tb (As high b c),d8'),(c3 (j,k,i),om)]) (A7 (Ck (A7 (hc.var (j:=3) rfl) (A7 (hc.var (j:=4) rfl) (AJ (hc.var (j:=2) rfl)))) rfl) (A7 i8 (A7 i8' (AJ (Ck (A7 (hc.var (j:=13) rfl) (A7 (hc.var (j:=14) rfl) (AJ (hc.var (j:=12) rfl)))) rfl))))) er) (AJ (hc.var (j:=15) rfl))) (Qm _ _)))) hc) λ ρd hd=>?_;obtain ⟨⟨d9,i9⟩,⟨d9',i9'⟩⟩:=ix (s:=9) hd rfl;have ac:∀ {s s':Nat}{u v:Nat},(P (some (.int (at':Int))) (some (.int (i:Int))) (some (.int (j:Int))) (some (.int (k:Int))) (some (C1 n N)) none)[s]?=some (some (.int (u:Int)))->(P (some (.int (at':Int))) (some (.int (i:Int))) (some (.int (j:Int))) (some (.int (k:Int))) (some (C1 n N)) none)[s']?=some (some (.int (v:Int)))->v < u->Ab Df (Ab Df (Aa s) (bC (.int 1))) (Aa s') ρd=.ok (.int ((u - 1 - v:Nat):Int),om,ρd):=λ {s s' u v} h1 h2 hv=>by
  have:=Jj (Jj (hd.var (j:=s) h1) (g:=bC (.int 1)) (j:=1) (e:=om) rfl) (hd.var (j:=s') h2)
  rwa [show (u:Int) - 1 - (v:Int)=((u - 1 - v:Nat):Int) by (clear hmn hm qs qr qm en eN hk' hj hi hk hP hl LO A z hns;omega)] at this
 refine Nx.seq (hd.set (x:=C1 m N) (AS (xs:=[(bx a b c,0),(tb (BP high c),d9),(tb (BP low c),d9'),(c3 (a - 1 - i,b - 1 - j,c - 1 - k),om)]) (A7 (hd.var (j:=1) rfl) (A7 i9 (A7 i9' (AJ (Ck (A7 (ac (s:=2) (s':=12) rfl rfl hi) (A7 (ac (s:=3) (s':=13) rfl rfl hj) (AJ (ac (s:=4) (s':=14) rfl rfl hk')))) rfl))))) et) (show 16 < 17 by decide)) λ ρe he=>?_;have v15:=he.var (j:=15) (x:=C1 n N) rfl;rw [ex] at v15;have w1:Ab Ay (Aa 15) (bC (.int 1)) ρe=.ok (.int (y:Int),om,ρe):=Cs v15 (g:=bC (.int 1)) (y:=.int 1) (e:=om) rfl rfl;have w0:Ab Ay (Aa 15) (bC (.int 0)) ρe=.ok (.int (x:Int),om,ρe):=Cs v15 (g:=bC (.int 0)) (y:=.int 0) (e:=om) rfl rfl;have w2:=Ck (op:=BK) (A7 (Jj w1 w0) (AJ w1)) (z:=.tup [.int ((y:Int) - (x:Int)),.int (y:Int)]) (c:=om) rfl;rw [<- ey] at w2;refine Nx.no (AX (Gw (b:=true) (d:=om) (AS (xs:=[(C1 m N,dv (C1 m N)),(C1 m N,om)]) (A7 (he.var (j:=16) rfl) (AJ w2)) (Qm _ _)))) (he.weak ?_ λ _ h=>h);exact ⟨rfl,rfl,rfl,rfl,rfl,rfl,rfl,rfl,rfl,rfl,rfl,trivial⟩
open PySem PySem.Spec PyProof.Rows L2 QQ
section
variable {P:AA}{w:A4}{K:Frag}{mg:Str->Option Ad}
def c0:FnScope S0.N ["thing"] (A2 t0):={}
def c1:FnScope S1.N ["thing"] (A2 t1):={}
def c2:FnScope S2.N ["box"] (A2 t2):={}
def c3:FnScope S3.N ["thing","columns","height"] (A2 t3):={}
def c4:FnScope S4.N ["numbers"] (A2 t4):={}
def c5:FnScope S5.N ["table","j"] (A2 t5):={}
def c6:FnScope S6.N ["box","thing"] (A2 t6):={}
def c7:FnScope S7.N ["box","pile"] (A2 t7):={}
def c8:FnScope S8.N ["box","thing"] (A2 t8):={}
def c9:FnScope S9.N ["box","pile"] (A2 t9):={}
def uZ:FnScope S10.N ["numbers","level"] (A2 HI):={}
def uY:FnScope S11.N ["box","pile"] (A2 Ox):={}
def uX:FnScope S12.N ["box","pile"] (A2 Ow):={}
def uW:FnScope S13.N ["box","pile","other"] (A2 Ov):={}
def uV:FnScope S14.N ["box"] (A2 Ou):={}
def uU:FnScope S15.N ["box","pile","other"] (A2 Ot):={}
def uT:FnScope S16.N ["columns","height"] (A2 Oq):={}
def uS:FnScope S17.N ["tally","other"] (A2 Oo):={}
def uR:FnScope S18.N ["table","columns"] (A2 Om):={}
def uQ:FnScope S19.N ["row","low","high"] (A2 Ol):={}
def uP:FnScope S20.N ["behind","low","high","counted"] (A2 Oj):={}
def uO:FnScope S21.N ["box","low","high","places"] (A2 Oi):={}
def uN:FnScope S22.N ["box","low","high","places"] (A2 Oh):={}
def uM:FnScope S23.N ["number","other"] (A2 Og):={}
def uL:FnScope S24.N ["top","bottom"] (A2 Of):={}
def uK:FnScope S25.N ["box","low","high"] (A2 Oe):={}
def uJ:FnScope S26.N ["box","low","high","cube"] (A2 Od):={}
def uI:FnScope S27.N ["script","k"] (A2 Oc):={}
def uH:FnScope S28.N ["cell","k"] (A2 Ob):={}
def uG:FnScope S29.N ["cell","many"] (A2 Oa):={}
def Pt:FnScope S30.N ["found","due"] (A2 E6):={}
def uF:FnScope S31.N ["cell"] (A2 NZ):={}
def uE:FnScope S32.N ["box","script","start","cell"] (A2 NY):={}
def uD:FnScope S33.N ["box","script","cell"] (A2 NX):={}
def uC:FnScope S34.N ["script"] (A2 LI):={}
def all_ok {fa:Addr} (G:Given dfs [] K mg) (hm:mg "law" = some (.ref fa)):
  ∃ fd:CQ,(∀ (s:Ai) (u:Ad),BindsTo s fd ⟨[u],[]⟩ [("script",u)])/\∀ base:Heap,FnOk P w K mg base (AV P w K) 10 fa fd ["script"] (AZ K false 1 F34):=by
 have hb:=G.bn;have gx:=G.gx;obtain ⟨a0,d0,m0,f0⟩:=G.df 0 _ _ rfl;obtain ⟨a1,d1,m1,f1⟩:=G.df 1 _ _ rfl;obtain ⟨a2,d2,m2,f2⟩:=G.df 2 _ _ rfl;obtain ⟨a3,d3,m3,f3⟩:=G.df 3 _ _ rfl;obtain ⟨a4,d4,m4,f4⟩:=G.df 4 _ _ rfl;obtain ⟨a5,d5,m5,f5⟩:=G.df 5 _ _ rfl;obtain ⟨a6,d6,m6,f6⟩:=G.df 6 _ _ rfl;obtain ⟨a7,d7,m7,f7⟩:=G.df 7 _ _ rfl;obtain ⟨a8,d8,m8,f8⟩:=G.df 8 _ _ rfl;obtain ⟨a9,d9,m9,f9⟩:=G.df 9 _ _ rfl;obtain ⟨a10,d10,m10,f10⟩:=G.df 10 _ _ rfl;obtain ⟨a11,d11,m11,f11⟩:=G.df 11 _ _ rfl;obtain ⟨a12,d12,m12,f12⟩:=G.df 12 _ _ rfl;obtain ⟨a13,d13,m13,f13⟩:=G.df 13 _ _ rfl;obtain ⟨a14,d14,m14,f14⟩:=G.df 14 _ _ rfl;obtain ⟨a15,d15,m15,f15⟩:=G.df 15 _ _ rfl;obtain ⟨a16,d16,m16,f16⟩:=G.df 16 _ _ rfl;obtain ⟨a17,d17,m17,f17⟩:=G.df 17 _ _ rfl;obtain ⟨a18,d18,m18,f18⟩:=G.df 18 _ _ rfl;obtain ⟨a19,d19,m19,f19⟩:=G.df 19 _ _ rfl;obtain ⟨a20,d20,m20,f20⟩:=G.df 20 _ _ rfl;obtain ⟨a21,d21,m21,f21⟩:=G.df 21 _ _ rfl;obtain ⟨a22,d22,m22,f22⟩:=G.df 22 _ _ rfl;obtain ⟨a23,d23,m23,f23⟩:=G.df 23 _ _ rfl;obtain ⟨a24,d24,m24,f24⟩:=G.df 24 _ _ rfl;obtain ⟨a25,d25,m25,f25⟩:=G.df 25 _ _ rfl;obtain ⟨a26,d26,m26,f26⟩:=G.df 26 _ _ rfl;obtain ⟨a27,d27,m27,f27⟩:=G.df 27 _ _ rfl;obtain ⟨a28,d28,m28,f28⟩:=G.df 28 _ _ rfl;obtain ⟨a29,d29,m29,f29⟩:=G.df 29 _ _ rfl;obtain ⟨a30,d30,m30,f30⟩:=G.df 30 _ _ rfl;obtain ⟨a31,d31,m31,f31⟩:=G.df 31 _ _ rfl;obtain ⟨a32,d32,m32,f32⟩:=G.df 32 _ _ rfl;obtain ⟨a33,d33,m33,f33⟩:=G.df 33 _ _ rfl;obtain ⟨a34,d34,m34,f34⟩:=G.df 34 _ _ rfl;cases hm.symm.trans m34;have B0:=f0.binds (ps:=["thing"]) λ _ _ _ _ _ _ us hl=>by obtain ⟨_,rfl⟩:=Ej hl;rfl
 have B1:=f1.binds (ps:=["thing"]) λ _ _ _ _ _ _ us hl=>by obtain ⟨_,rfl⟩:=Ej hl;rfl
 have B2:=f2.binds (ps:=["box"]) λ _ _ _ _ _ _ us hl=>by obtain ⟨_,rfl⟩:=Ej hl;rfl
 have B3:=f3.binds (ps:=["thing","columns","height"]) λ _ _ _ _ _ _ us hl=>by obtain ⟨_,_,_,rfl⟩:=Ei hl;rfl
 have B4:=f4.binds (ps:=["numbers"]) λ _ _ _ _ _ _ us hl=>by obtain ⟨_,rfl⟩:=Ej hl;rfl
 have B5:=f5.binds (ps:=["table","j"]) λ _ _ _ _ _ _ us hl=>by obtain ⟨_,_,rfl⟩:=BH hl;rfl
 have B6:=f6.binds (ps:=["box","thing"]) λ _ _ _ _ _ _ us hl=>by obtain ⟨_,_,rfl⟩:=BH hl;rfl
 have B7:=f7.binds (ps:=["box","pile"]) λ _ _ _ _ _ _ us hl=>by obtain ⟨_,_,rfl⟩:=BH hl;rfl
 have B8:=f8.binds (ps:=["box","thing"]) λ _ _ _ _ _ _ us hl=>by obtain ⟨_,_,rfl⟩:=BH hl;rfl
 have B9:=f9.binds (ps:=["box","pile"]) λ _ _ _ _ _ _ us hl=>by obtain ⟨_,_,rfl⟩:=BH hl;rfl
 have B10:=f10.binds (ps:=["numbers","level"]) λ _ _ _ _ _ _ us hl=>by obtain ⟨_,_,rfl⟩:=BH hl;rfl
 have B11:=f11.binds (ps:=["box","pile"]) λ _ _ _ _ _ _ us hl=>by obtain ⟨_,_,rfl⟩:=BH hl;rfl
 have B12:=f12.binds (ps:=["box","pile"]) λ _ _ _ _ _ _ us hl=>by obtain ⟨_,_,rfl⟩:=BH hl;rfl
 have B13:=f13.binds (ps:=["box","pile","other"]) λ _ _ _ _ _ _ us hl=>by obtain ⟨_,_,_,rfl⟩:=Ei hl;rfl
 have B14:=f14.binds (ps:=["box"]) λ _ _ _ _ _ _ us hl=>by obtain ⟨_,rfl⟩:=Ej hl;rfl
 have B15:=f15.binds (ps:=["box","pile","other"]) λ _ _ _ _ _ _ us hl=>by obtain ⟨_,_,_,rfl⟩:=Ei hl;rfl
 have B16:=f16.binds (ps:=["columns","height"]) λ _ _ _ _ _ _ us hl=>by obtain ⟨_,_,rfl⟩:=BH hl;rfl
 have B17:=f17.binds (ps:=["tally","other"]) λ _ _ _ _ _ _ us hl=>by obtain ⟨_,_,rfl⟩:=BH hl;rfl
 have B18:=f18.binds (ps:=["table","columns"]) λ _ _ _ _ _ _ us hl=>by obtain ⟨_,_,rfl⟩:=BH hl;rfl
 have B19:=f19.binds (ps:=["row","low","high"]) λ _ _ _ _ _ _ us hl=>by obtain ⟨_,_,_,rfl⟩:=Ei hl;rfl
 have B20:=f20.binds (ps:=["behind","low","high","counted"]) λ _ _ _ _ _ _ us hl=>by obtain ⟨_,_,_,_,rfl⟩:=Gd hl;rfl
 have B21:=f21.binds (ps:=["box","low","high","places"]) λ _ _ _ _ _ _ us hl=>by obtain ⟨_,_,_,_,rfl⟩:=Gd hl;rfl
 have B22:=f22.binds (ps:=["box","low","high","places"]) λ _ _ _ _ _ _ us hl=>by obtain ⟨_,_,_,_,rfl⟩:=Gd hl;rfl
 have B23:=f23.binds (ps:=["number","other"]) λ _ _ _ _ _ _ us hl=>by obtain ⟨_,_,rfl⟩:=BH hl;rfl
 have B24:=f24.binds (ps:=["top","bottom"]) λ _ _ _ _ _ _ us hl=>by obtain ⟨_,_,rfl⟩:=BH hl;rfl
 have B25:=f25.binds (ps:=["box","low","high"]) λ _ _ _ _ _ _ us hl=>by obtain ⟨_,_,_,rfl⟩:=Ei hl;rfl
 have B26:=f26.binds (ps:=["box","low","high","cube"]) λ _ _ _ _ _ _ us hl=>by obtain ⟨_,_,_,_,rfl⟩:=Gd hl;rfl
 have B27:=f27.binds (ps:=["script","k"]) λ _ _ _ _ _ _ us hl=>by obtain ⟨_,_,rfl⟩:=BH hl;rfl
 have B28:=f28.binds (ps:=["cell","k"]) λ _ _ _ _ _ _ us hl=>by obtain ⟨_,_,rfl⟩:=BH hl;rfl
 have B29:=f29.binds (ps:=["cell","many"]) λ _ _ _ _ _ _ us hl=>by obtain ⟨_,_,rfl⟩:=BH hl;rfl
 have B30:=f30.binds (ps:=["found","due"]) λ _ _ _ _ _ _ us hl=>by obtain ⟨_,_,rfl⟩:=BH hl;rfl
 have B31:=f31.binds (ps:=["cell"]) λ _ _ _ _ _ _ us hl=>by obtain ⟨_,rfl⟩:=Ej hl;rfl
 have B32:=f32.binds (ps:=["box","script","start","cell"]) λ _ _ _ _ _ _ us hl=>by obtain ⟨_,_,_,_,rfl⟩:=Gd hl;rfl
 have B33:=f33.binds (ps:=["box","script","cell"]) λ _ _ _ _ _ _ us hl=>by obtain ⟨_,_,_,rfl⟩:=Ei hl;rfl
 refine ⟨d34,?_,λ base=>?_⟩
 ·obtain ⟨_,_,_,_,_,_,_,_,_,rfl,_,_⟩:=f34.ex;exact λ s v=>.of_eq rfl
 have o0:FnOk P w K mg base (AV P w K) 1 a0 d0 ["thing"] (AZ K false 1 F0):=BG S0 f0 c0 gx (BC hb) h0;have o1:FnOk P w K mg base (AV P w K) 2 a1 d1 ["thing"] (AZ K false 1 F1):=BG S1 f1 c1 gx (BN (BC hb) m0 f0 B0 o0) h1;have o2:FnOk P w K mg base (AV P w K) 3 a2 d2 ["box"] (AZ K false 1 F2):=BG S2 f2 c2 gx (BN (BC hb) m1 f1 B1 o1) h2;have o3:FnOk P w K mg base (AV P w K) 2 a3 d3 ["thing","columns","height"] (AZ K false 3 F3):=BG S3 f3 c3 gx (BN (BC hb) m0 f0 B0 o0) h3;have o4:FnOk P w K mg base (AV P w K) 1 a4 d4 ["numbers"] (AZ K false 1 F4):=BG S4 f4 c4 gx (BC hb) h4;have o5:FnOk P w K mg base (AV P w K) 1 a5 d5 ["table","j"] (AZ K false 2 F5):=BG S5 f5 c5 gx (BC hb) h5;have o6:FnOk P w K mg base (AV P w K) 4 a6 d6 ["box","thing"] (AZ K false 2 F6):=BG S6 f6 c6 gx (BN (BN (BN (BN (BC hb) m5 f5 B5 o5) m4 f4 B4 o4) m3 f3 B3 o3) m2 f2 B2 o2) h6;have o7:FnOk P w K mg base (AV P w K) 5 a7 d7 ["box","pile"] (AZ K false 2 F7):=BG S7 f7 c7 gx (BN (BC hb) m6 f6 B6 o6) h7;have o8:FnOk P w K mg base (AV P w K) 2 a8 d8 ["box","thing"] (AZ K false 2 F8):=BG S8 f8 c8 gx (BN (BC hb) m0 f0 B0 o0) h8;have o9:FnOk P w K mg base (AV P w K) 6 a9 d9 ["box","pile"] (AZ K false 2 F9):=BG S9 f9 c9 gx (BN (BN (BC hb) m7 f7 B7 o7) m5 f5 B5 o5) h9;have o10:FnOk P w K mg base (AV P w K) 1 a10 d10 ["numbers","level"] (AZ K false 2 ZD):=BG S10 f10 uZ gx (BC hb) u9;have o11:FnOk P w K mg base (AV P w K) 6 a11 d11 ["box","pile"] (AZ K false 2 P8):=BG S11 f11 uY gx (BN (BN (BN (BC hb) m10 f10 B10 o10) m7 f7 B7 o7) m5 f5 B5 o5) u7;have o12:FnOk P w K mg base (AV P w K) 6 a12 d12 ["box","pile"] (AZ K false 2 P7):=BG S12 f12 uX gx (BN (BC hb) m7 f7 B7 o7) Gn;have o13:FnOk P w K mg base (AV P w K) 6 a13 d13 ["box","pile","other"] (AZ K false 3 ZC):=BG S13 f13 uW gx (BN (BC hb) m7 f7 B7 o7) u6;have o14:FnOk P w K mg base (AV P w K) 1 a14 d14 ["box"] (AZ K false 1 ZA):=BG S14 f14 uV gx (BC hb) u5;have o15:FnOk P w K mg base (AV P w K) 7 a15 d15 ["box","pile","other"] (AZ K false 3 Uh):=BG S15 f15 uU gx (BN (BN (BC hb) m14 f14 B14 o14) m13 f13 B13 o13) u4;have o16:FnOk P w K mg base (AV P w K) 1 a16 d16 ["columns","height"] (AZ K false 2 Z9):=BG S16 f16 uT gx (BC hb) uz;have o17:FnOk P w K mg base (AV P w K) 1 a17 d17 ["tally","other"] (AZ K false 2 Ug):=BG S17 f17 uS gx (BC hb) uy;have o18:FnOk P w K mg base (AV P w K) 2 a18 d18 ["table","columns"] (AZ K false 2 Z8):=BG S18 f18 uR gx (BN (BC hb) m17 f17 B17 o17) ux;have o19:FnOk P w K mg base (AV P w K) 1 a19 d19 ["row","low","high"] (AZ K false 3 Z7):=BG S19 f19 uQ gx (BC hb) uw;have o20:FnOk P w K mg base (AV P w K) 2 a20 d20 ["behind","low","high","counted"] (AZ K false 4 Z6):=BG S20 f20 uP gx (BN (BC hb) m19 f19 B19 o19) uv;have o21:FnOk P w K mg base (AV P w K) 3 a21 d21 ["box","low","high","places"] (AZ K false 4 Z5):=BG S21 f21 uO gx (BN (BN (BN (BC hb) m20 f20 B20 o20) m18 f18 B18 o18) m16 f16 B16 o16) uu;have o22:FnOk P w K mg base (AV P w K) 4 a22 d22 ["box","low","high","places"] (AZ K false 4 Ue):=BG S22 f22 uN gx (BN (BN (BC hb) m21 f21 B21 o21) m17 f17 B17 o17) ur;have o23:FnOk P w K mg base (AV P w K) 1 a23 d23 ["number","other"] (AZ K false 2 P6):=BG S23 f23 uM gx (BC hb) uq;have o24:FnOk P w K mg base (AV P w K) 2 a24 d24 ["top","bottom"] (AZ K false 2 MA):=BG S24 f24 uL gx (BN (BC hb) m23 f23 B23 o23) uo;have o25:FnOk P w K mg base (AV P w K) 8 a25 d25 ["box","low","high"] (AZ K false 3 P5):=BG S25 f25 uK gx (BN (BC hb) m15 f15 B15 o15) um;have o26:FnOk P w K mg base (AV P w K) 9 a26 d26 ["box","low","high","cube"] (AZ K false 4 JK):=BG S26 f26 uJ gx (BN (BN (BN (BN (BC hb) m25 f25 B25 o25) m24 f24 B24 o24) m22 f22 B22 o22) m8 f8 B8 o8) uk;have o27:FnOk P w K mg base (AV P w K) 1 a27 d27 ["script","k"] (AZ K false 2 M9):=BG S27 f27 uI gx (BC hb) uj;have o28:FnOk P w K mg base (AV P w K) 1 a28 d28 ["cell","k"] (AZ K false 2 M8):=BG S28 f28 uH gx (BC hb) ui;have o29:FnOk P w K mg base (AV P w K) 2 a29 d29 ["cell","many"] (AZ K false 2 KR):=BG S29 f29 uG gx (BN (BC hb) m28 f28 B28 o28) uh;have o30r0:FnOk P w K mg base (AV P w K) 0 a30 d30 ["found","due"] (AZ K false 2 RC):=qe rfl;have o30r1:FnOk P w K mg base (AV P w K) 1 a30 d30 ["found","due"] (AZ K false 2 LN):=BG RE f30 Pt gx (Eu (BC hb) (by decide +kernel) (λ _ _=>rfl) m30 f30 B30 rfl o30r0) qg;have o30r2:FnOk P w K mg base (AV P w K) 2 a30 d30 ["found","due"] (AZ K false 2 LP):=BG RF f30 Pt gx (Eu (BC hb) (by decide +kernel) ED m30 f30 B30 rfl o30r1) qh;have o30r3:FnOk P w K mg base (AV P w K) 3 a30 d30 ["found","due"] (AZ K false 2 LQ):=BG RG f30 Pt gx (Eu (BC hb) (by decide +kernel) ED m30 f30 B30 rfl o30r2) qi;have o30r4:FnOk P w K mg base (AV P w K) 4 a30 d30 ["found","due"] (AZ K false 2 Oz):=BG O1 f30 Pt gx (Eu (BC hb) (by decide +kernel) ED m30 f30 B30 rfl o30r3) qj;have o30:=o30r4;have o31:FnOk P w K mg base (AV P w K) 3 a31 d31 ["cell"] (AZ K false 1 P4):=BG S31 f31 uF gx (BN (BC hb) m29 f29 B29 o29) ug;have o32:FnOk P w K mg base (AV P w K) 3 a32 d32 ["box","script","start","cell"] (AZ K false 4 P2):=BG S32 f32 uE gx (BN (BC hb) m29 f29 B29 o29) uf;have o33:FnOk P w K mg base (AV P w K) 4 a33 d33 ["box","script","cell"] (AZ K false 3 P1):=BG S33 f33 uD gx (BN (BN (BC hb) m32 f32 B32 o32) m28 f28 B28 o28) ue;exact BG S34 f34 uC gx (Eu (Eu (Eu (Eu (Eu (Eu (Eu (Eu (Eu (BC hb) (by decide +kernel) ED m33 f33 B33 rfl (o33.mono (by decide))) (by decide +kernel) ED m31 f31 B31 rfl (o31.mono (by decide))) (by decide +kernel) ED m30 f30 B30 rfl (o30.mono (by decide))) (by decide +kernel) ED m29 f29 B29 rfl (o29.mono (by decide))) (by decide +kernel) ED m27 f27 B27 rfl (o27.mono (by decide))) (by decide +kernel) ED m26 f26 B26 rfl (o26.mono (by decide))) (by decide +kernel) ED m12 f12 B12 rfl (o12.mono (by decide))) (by decide +kernel) ED m11 f11 B11 rfl (o11.mono (by decide))) (by decide +kernel) ED m9 f9 B9 rfl (o9.mono (by decide))) ud
end
end K47
open PySem PySem.W PyProof.Rows
set_option maxRecDepth 100000 in
set_option maxHeartbeats 0 in
theorem PySem.Challenge.cw_cornerpiles_k47_whole_shares_turned_holds : PySem.Challenge.rw_cornerpiles_k47_whole_shares_turned.Holds := by
 refine QQ.holds_by (l:=PySem.Challenge.rw_cornerpiles_k47_whole_shares_turned) (q:=K47.view) (loose:=K47.loose) (N:=20000) (k:=10) (n:=63) (ds:=K47.dfs) (xc:=[]) (F:=K47.F34) (x := "script") ?said rfl rfl (λ _=>rfl) K47.run (by rfl) (by rfl) (by rfl) (by rfl) (by decide +kernel) ⟨rfl,rfl,rfl,rfl,rfl,by decide +kernel⟩ ?hw rfl (by decide) rfl ⟨rfl,by decide,by decide,rfl⟩ (λ _ _ _ _ G hm=>K47.all_ok G hm) (λ _ _ _ ns hl hO hS=>QQ.sp_yes hO hS (K47.law_true ns hl))
 case said=>decide +kernel
 case hw=>w_witness2
