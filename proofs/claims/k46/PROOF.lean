import PyProof.Rows.All
import Wide.All
import OpenK.AllK
import Wide.FinOn
import Lean
import PyProof.EqAt
import PyProof.EqKinds
import PyProof.TupleCall
import PySem.Challenge.RW_cornerpiles_k46_whole_shares_fall
open PySem renaming wpAny_bind->Ah,wpAny_pure->Aq,Value->Ad,Shared->Ai,sizeLine->Az,starEach->AE,Program->A8,wpAny->Ak,wpAny_newObj_type->El,model->Ax,wpAny_callSpecial?_slot->Hv,World->A7,wpAny_call_entry->FU,wpAny_field->DX,compareOp->CV,cellsFrom->Df,wpAny_truthy_bool->Hu,wpAny_dictEntries->Ht,Around->BK,mainGlobals->EA,FuncData->CU,assignEach->E9,NameKind->Dq,wpAny_seqItems->Hs,sysModules->EO,DictEntry->Ej,Scope->Bz,IsPair->Cu,wpAny_typeNameOfWhole_valiter->NC,wpAny_typeNameOfWhole_keyiter->NB,wpAny_setField_rec->Kp,intItems->DW,wpAny_passesOwn->Jf,mem_of_lookup->Ls,wpAny_typeNameOf_valiter->N6,wpAny_typeNameOf_keyiter->N5,backTo->CM,wpAny_holding->Jd,wpAny_dictEpoch->Kn,tupleKind->FQ,binaryOp->EN,wpAny_mono->Hr,wpAny_setField->Km,wpAny_fieldsOf->Kl,firstArgMember->Kk,bootBuiltins->Jc,wpAny_isInstance->Lr,rawInt->D8,wpAny_attempt->Ki,behindInMarks->Kh,sliceBounds->Ja,numAt->CA,wpAny_pyIter_tuple->N0,wpAny_Call_Name_kw->Nz,tupleKind_room_in1->Ny,pyNext->Ei,foldedSetIterable->Nw,wpAny_pyIter_zip->Nv,wpAny_specialOf->Nu,wpAny_notOrdered_dict->Rj,wpAny_isOneOf_valiter->Ri,wpAny_isOneOf_keyiter->Rh,wpAny_execs_nil->Nt,letOwnedTupleGo->Nq,IsZip->Dn,entryOfKey->Kf,Operator->Io,wpAny_updateSeq_pair->Rf,Builtin->vl0,wpAny_standAt->Nm,wpAny_onRaise->Nl,swappedStores->Nk,Paired->FP,relabel->Im,codeAny->Il,noFill_tuple_add->QO,cLine->E8,CmpOp->E7,wpAny_letGo->Nj,valueAt->IY,seqIndex_of->Ni,pushCells_keeps->QN,intItems_at->Nh,importedModules->QH,getItem->IX,callerA->IW,assign->Hm,PassesOwn->Lo,IsRangeIter->Ng,wpAny_letOwnedTupleGo_zip->UZ,newFunctionEnv->QA,isSubtype_stop->Q9
open PySem.Heap renaming get?_push_of_some->Bj,get?_push_size->BR,lt_size->AS,size_push->FR,get?_update_self->Kr,get?_update_other->N1,SameBut->Jb
open PyProof.Rows renaming callWith_type1->Ir,AllBare->Ho,assignInOrder_cons->Rc,slot_tuple_getitem->Vi,envOfC->Hn
open PySem.Builtin.SmallTypes renaming nextOf->Iq,ownedTupleIsFree->NF,ownedTupleHandOut->Vk
open Ne renaming symm->BY
open PySem.W renaming kia_one->FT,boot_heap->Ek,keepIn->Je,fnOf->Kg,findIn->Lq,kitOne->Nn,methodObj->Ra,boot_heap->QY,instObj->QD,lookIn->Q8,codeIn->Q7
open PySem.Builtin.Dict_items renaming ownsTuple->Lv
open PySem.Str renaming ofString->GH
open PySem.F renaming slot_dict_valueiterator_next->ND,slot_dict_keyiterator_next->NA,slot_tuple_iterator_next->N8,args_tuple_add_2->Rm,entry_tuple_add->Rl,slot_tuple_add->Rk,slot_zip_next->Np,args_dict_valueiterator_next_1->Vj,entry_dict_valueiterator_next->Vh,args_dict_keyiterator_next_1->Vg,entry_dict_keyiterator_next->Vf,args_tuple_iterator_next_1->Ve,entry_tuple_iterator_next->Vc
open PySem.Heap.SameBut renaming update->Kq
open PySem.Obj renaming data_mapFields->Ko,mapSeq->IZ,mapFields->Lp,isFreed_of_fields->Rg,cls_mapFields->QT
open PySem.Builtin.List renaming listExtendWith->N9,listTooLong->N3
open PySem.Builtin.Dict renaming showsAll->Lu,entriesForEmpty->Vd
open PySem.Builtin.Slice renaming slicePlaces->N7,sliceAdjust->Rn,sliceApplied->Va
open PySem.Builtin.Tuple renaming tupleExact->N4,tupleHashOf->Ro
open False renaming elim->Hq
open PySem.PyData renaming canLay0->Kj,eqv->Ip,canLayAll0->QU,depthAll->QB
open PySem.Calls renaming spliced_cons->Rb,spliced_nil->QR,Name_function_global->Vb
open List renaming getD_eq_getElem?_getD->AR,mem_cons_of_mem->AM,mem_cons_self->AL,length_map->AG,replicate->AK,getElem?_eq_getElem->Ci,range->A6,mem_append_right->BX,getElem?_eq_some_iff->jb0,mem_append_left->BW,length_cons->Bw,length_append->BM,mem_cons->jb4,getElem?_append_left->C6,mem_singleton->jb6,map_cons->Be,all_eq_true->jb8,size_toArray->Cd,getElem?_set_ne->CO,mem_range->jc4,getElem?_set_self->DN,getElem?_map->CI,getElem?_replicate->EG,length_replicate->Es,map_append->CN,getElem?_append_right->Gj,mem_append->jd4,length_singleton->EF,mem_map->jd6,map_congr_left->EE,length_set->DA,getElem?_eq_none->FD,map_map->CH,filter_cons->Ep,replicate_succ->FC,sum_cons->D9,length_eq_zero_iff->je6,lookup_cons->EX,range_succ->ED,getElem?_cons_succ->IE,length_drop->FA,nil_append->EW,cons_append->Fz,length_range->Gh,filter_eq_self->jf7,length_take->Gg,not_mem_nil->Gf,flatMap_cons->GL,mem_filter->jg2,getElem?_take_of_lt->K9,append_nil->GJ,append_assoc->IC,getElem_of_mem->Jv,getElem_mem->IA,getElem?_range->K8,flatMap_append->K7,drop_eq_nil_of_le->Mg,take_of_length_le->Mf,filter_eq_nil_iff->ji3,map_nil->GI,all_cons->HD,nodup_cons->ji6,flatten_cons->K6,filter_congr->K5,mem_flatMap->K4,of_mem_zip->K3,find?_cons->K2,drop_eq_getElem_cons->T5,getElem?_eq_none_iff->jj8,filterMap_cons->Pa,zip_cons_cons->OZ,length_zip->Md,filter_map->Mc,sum_append->Ma,reverse_cons->OW,length_filter_le->T3,any_cons->LY,drop_nil->LX,forIn_cons->OU,take_succ_cons->Tz,range'->K0,getElem?_concat_length->ZF,set_cons_succ->Tx,take_zero->OQ,getElem?_zip_eq_some->ZE,getLast?_eq_getElem?->ZD,getLast?_nil->Tt,nodup_append->Ts,take_nil->OP,filter_cons_of_neg->ZA,filter_cons_of_pos->Z9,map_drop->OO,getLast?_singleton->Z8,ext_getElem->Tq,flatMap_nil->Tp,length_eq_one_iff->jo6,getElem?_reverse->Z7,all_nil->OL,mem_of_getElem?->Z6,getLast?_append->Z5,getElem?_append->Z4,getLast?_concat->Z3,mem_of_mem_drop->Z2,drop_zero->Ti,replicate_zero->Z0,length_reverse->Zz,filter_flatMap->Zy,mem_filterMap->jq6,set_cons_zero->Zw,findIdx?_cons->Zs,pairwise_cons->Zq,mem_replicate->jr2,ext_getElem?->Zn,mem_range'_1->jr6,pairwise_map->Zl,zipWith->Tg,flatten_nil->Zg,zipIdx_cons->Ze,range'_succ->Zd,sum->LU,foldl_cons->Zb,length_nil->YZ,zipIdx_nil->YY,all_append->YX,set_append->YW,forIn_nil->YV,foldl->Tc,set_nil->YO,getD->Tb,sum_nil->YN
open Bool renaming and_eq_true->Bc,false_ne_true->Cs,eq_iff_iff->DY,false_eq_true->GN,or_eq_true->Gd,and_true->Ju,false_xor->LZ,and_false->OR,not_eq_true'->Tu,and_eq_true_iff->jp5,or_false->Th,eq_false_iff->Zm,false_or->YT,true_and->YS
open Nat renaming le_refl->AA,lt_of_lt_of_le->Cg,le_trans->BZ,ne_of_lt->Cr,mul_le_mul_right->Gi,lt_irrefl->DM,lt_succ_self->GK,ne_of_gt->EC,le_of_succ_le->IB,le_add_right->I0,gcd->C0,zero_le->Fw,mul_comm->HC,zero_add->HB,le_mul_of_pos_left->Pc,mul_le_mul->K1,gcd_pos_of_pos_right->T4,min_eq_left->Mb,lt_succ_of_lt->OX,mul_left_comm->OV,le_of_lt->LW,add_sub_cancel->Tw,pow_succ->LV,eq_of_mul_eq_mul_left->ZC,mul_assoc->ON,succ_le_succ->Tr,zero_lt_succ->To,gcd_le_right->Tn,succ_mul->OM,min_le_left->Tj,sub_self->OK,sub_zero->OJ,gcd_comm->OI,mul_div_mul_left->Z1,mul_div_cancel'->Zx,gcd_zero_right->Zp,gcd_dvd_right->Zk,gcd_zero_left->Zj,succ_ne_zero->Zh,gcd_mul_left->Zc,le_succ->Tf,add_mul->Te,mul_pos->Td,le_of_eq->YQ,min_self->YL,mul_zero->YK,zero_div->YJ,div_self->YI,one_mul->YH,gcd_rec->YF
open Option renaming map_eq_some_iff->jc0,map_some->Me,isSome_map->Tv,isSome_some->Zu,getD_none->Zi,some_or->YU,map->YE
open Int renaming toNat_natCast->Dy,le_refl->Dx,natCast_mul->Gb,le_trans->Fy,zero_add->Ga,emod_lt_of_pos->OY,emod_nonneg->OT,natCast_add->OS,le_of_eq->YM,add_mul->YG
open Array renaming getElem?_eq_none->Jw,length_toList->ID,getElem?_toList->Pb,toList->YR
set_option Elab.async false
set_option linter.all false
set_option maxRecDepth 100000
set_option autoImplicit false
set_option maxHeartbeats 2000000
namespace L2
open PySem PySem.Spec PyProof.Rows
def KR (s:Stmt):Arguments:=match s with
 | .FunctionDef _ a _ _ _ _ _ _ _ _=>a
 | _=>{ posonlyargs:=[],args:=[],vararg:=none,kwonlyargs:=[],kw_defaults:=[],kwarg:=none,defaults:=[] }
def AY (s:Stmt):List Stmt:=match s with
 | .FunctionDef _ _ b _ _ _ _ _ _ _=>b
 | _=>[]
def Aw (s:Stmt):Bz:=match s with
 | .FunctionDef _ _ _ _ _ _ sc _ _ _=>sc
 | _=>{ kind:=.function,names:=[],isGenerator:=false,isCoroutine:=false }
end L2
namespace QQ
open PySem PySem.Spec PySem.W PySem.Calls PyProof.Rows L2
abbrev Frag:=PySem.W.Frag
def zkx:List Str:=["len","isinstance","all","max","min","tuple","list","range","int","bool","str","dict","sum","enumerate","zip","reversed","set","ValueError","sorted","abs"]
def Kd (tb:String->Option vl0) (p:A8) (w:A7) (n₀:Nat) (ann:Option Ad):Nat->SharedT->Thread->Option SharedT
 | 0,_,_=>none
 | n + 1,s,t=>match through t with
  | true=>some s
  | false=>match stepOk n₀ ann t with
   | false=>none
   | true=>match stepT (denote tb) p w s t with
    | some (s',t')=>Kd tb p w n₀ ann n s' t'
    | none=>none
def YD:List Obj->Nat->BT->BT
 | [],_,t=>t
 | o::r,n,t=>YD r (n + 1) (t.ins n o)
noncomputable def bootT (P:Params):BT:=YD (Ek P).objs.toList 0 .nil
noncomputable def bootS (P:Params) (os:OsState):SharedT:=⟨bootT P,(Ek P).objs.size,(Ek P).life,#[],boot_drawn,boot_toks,os⟩
def Sw {α:Type} (p q:A8) (loose:List Str) (Xt:Ai->Bool) (Yf:Ai->α) (H:Heap) (s:Ai):=
 ((staticsOk (QH p.main.body) H s.heap && namesBound p s.heap && gensDone s && laidKept H s.heap),openSeen q loose (QH p.main.body) Xt true s,Yf s)
def LS (h:Heap):Frag:=(A6 h.objs.size).filterMap λ a=>(h.get? a).map λ o=>(a,o)
structure DefSeen where
 name:Str
 qual:Str
 params:Arguments
 body:FuncBody
 scope:Bz
 globals:Addr
 closure:List (Str×Addr)
 defaults:Ad
 builtins:Addr
 code:Bool
def Sv (K:Frag) (x:Str):Option DefSeen:=match nsIn K EA x with
 | some (some (.ref g))=>(match K.lookup g with
  | some ⟨_,_,.func fd,_⟩=>some ⟨fd.name,fd.qualname,fd.params,fd.body,fd.scope,fd.globals,fd.closure,fd.defaults,fd.builtins,codeIn K fd.code x⟩
  | _=>none)
 | _=>none
def RV (x:Str) (st:Stmt):DefSeen:=⟨x,x,KR st,.stmts (AY st),Aw st,mainNs,[],.none,0,true⟩
def KU (ds:List (Str×Stmt)) (xc:List Nat) (K:Frag):List (Option DefSeen)×List (Option (Option Ad))×Bool:=
 (ds.map λ d=>Sv K d.1,zkx.map λ x=>nsIn K EA x,xc.isEmpty)
def Li (ds:List (Str×Stmt)):List (Option DefSeen)×List (Option (Option Ad))×Bool:=(ds.map λ d=>some (RV d.1 d.2),zkx.map λ _=>some none,true)
end QQ
namespace K46
open PySem PySem.Spec PyProof.Rows L2 QQ
def top (i:Nat):Stmt:=PySem.Challenge.pw_cornerpiles_k46_whole_shares_fall.main.body.getD i (.Pass ⟨0,0,0,0⟩)
abbrev t0:Stmt:=top 7
abbrev t1:Stmt:=top 8
abbrev t2:Stmt:=top 9
abbrev t3:Stmt:=top 10
abbrev t4:Stmt:=top 11
abbrev t5:Stmt:=top 12
abbrev t6:Stmt:=top 13
abbrev t7:Stmt:=top 14
abbrev t8:Stmt:=top 15
abbrev t9:Stmt:=top 17
abbrev Hx:Stmt:=top 18
abbrev Ol:Stmt:=top 19
abbrev Oj:Stmt:=top 20
abbrev Oi:Stmt:=top 22
abbrev Oh:Stmt:=top 23
abbrev Og:Stmt:=top 24
abbrev Of:Stmt:=top 25
abbrev Oe:Stmt:=top 26
abbrev Od:Stmt:=top 27
abbrev Oc:Stmt:=top 28
abbrev Ob:Stmt:=top 30
abbrev Oa:Stmt:=top 31
abbrev NZ:Stmt:=top 32
abbrev NY:Stmt:=top 33
abbrev NX:Stmt:=top 34
abbrev NW:Stmt:=top 35
abbrev NV:Stmt:=top 36
abbrev NU:Stmt:=top 38
abbrev NT:Stmt:=top 40
abbrev NS:Stmt:=top 41
abbrev NR:Stmt:=top 42
abbrev EB:Stmt:=top 43
abbrev NQ:Stmt:=top 44
abbrev NP:Stmt:=top 45
abbrev NO:Stmt:=top 46
abbrev NM:Stmt:=top 47
abbrev NL:Stmt:=top 48
abbrev NK:Stmt:=top 49
abbrev NJ:Stmt:=top 50
abbrev NI:Stmt:=top 51
abbrev L1:Stmt:=top 52
def dfs:List (Str×Stmt):=[(("is_whole_number" : Str),t0),(("is_box" : Str),t1),(("must_be_box" : Str),t2),(("is_row_of_heights" : Str),t3),(("never_rises" : Str),t4),(("column_of" : Str),t5),(("is_pile" : Str),t6),(("must_be_pile" : Str),t7),(("is_cube_in" : Str),t8),(("must_be_two_piles" : Str),t9),(("places_of" : Str),Hx),(("is_place" : Str),Ol),(("lies_below" : Str),Oj),(("rows_of_heights" : Str),Oi),(("added" : Str),Oh),(("sums_of_lower_rows" : Str),Og),(("lies_between" : Str),Of),(("table_of_row" : Str),Oe),(("tables_between" : Str),Od),(("tally_between" : Str),Oc),(("greatest_divisor" : Str),Ob),(("in_least_numbers" : Str),Oa),(("must_be_piles_between" : Str),NZ),(("mean_of" : Str),NY),(("cube_share" : Str),NX),(("mean_height" : Str),NW),(("mean_cubes" : Str),NV),(("how_many_between" : Str),NU),(("_law_cell_at" : Str),NT),(("_law_stir" : Str),NS),(("_law_numbers" : Str),NR),(("_law_alike" : Str),EB),(("_law_pile" : Str),NQ),(("_law_bounds" : Str),NP),(("_law_low" : Str),NO),(("_law_box" : Str),NM),(("_law_put_to" : Str),NL),(("_law_below" : Str),NK),(("_law_plus" : Str),NJ),(("_law_cube_right" : Str),NI),(("law" : Str),L1)]
def view:A8:={ PySem.Challenge.pw_cornerpiles_k46_whole_shares_fall with main:={ PySem.Challenge.pw_cornerpiles_k46_whole_shares_fall.main with body:=[L1] } }
def loose:List Str:=(PySem.Challenge.pw_cornerpiles_k46_whole_shares_fall.main.scope.names.map λ x=>x.1).filter λ x=>!(x == ("law" : Str))
def run:∀ (w:PySem.World) (os:PySem.OsState),(Kd PySem.treeTable PySem.Challenge.rw_cornerpiles_k46_whole_shares_fall.prog w (QY w.params).objs.size ((QY w.params).nsMap EA "__annotations__") 20000 (bootS w.params os) (PySem.W.topStub PySem.Challenge.rw_cornerpiles_k46_whole_shares_fall.prog)).map (λ s=>Sw PySem.Challenge.rw_cornerpiles_k46_whole_shares_fall.prog view loose (λ s=>PySem.W.xlAt view [] s && PySem.W.recOk (PySem.W.RowW.records PySem.Challenge.rw_cornerpiles_k46_whole_shares_fall.row.toRowW) s) (λ s=>KU dfs [] (LS s.heap)) (QY w.params) s.abs)=some (true,PySem.W.openGood view loose,Li dfs):=λ w os=>by kernel_rfl
end K46
namespace L2
open PySem PySem.Spec PyProof.Rows
abbrev Ay:=Sum Int Str
def Kw:Ay->Ad->Bool
 | .inl k,v=>Value.isInt k v
 | .inr x,v=>Value.isStrOf x v
def SY (w:A7):Ay->Int
 | .inl k=>hashInt k
 | .inr x=>hashStr w x
theorem GU:∀ {k:Ay}{v:Ad},Kw k v=true->(∃ i t,k=Sum.inl i/\v=Value.int i t)\/(∃ x t,k=Sum.inr x/\v=Value.str x t)
 | .inl i,v,h=>by
  obtain ⟨t,e⟩:=Value.isInt_shape (k:=i) (v:=v) h;exact .inl ⟨i,t,rfl,e⟩
 | .inr x,v,h=>by
  obtain ⟨t,e⟩:=Value.isStrOf_shape (x:=x) (v:=v) h;exact .inr ⟨x,t,rfl,e⟩
def yu (i:Int) (t:Tok):Kw (.inl i) (.int i t)=true:=by simp [Kw,Value.isInt]
def yv (x:Str) (t:Tok):Kw (.inr x) (.str x t)=true:=by simp [Kw,Value.isStrOf]
def xD (a b:Int):decide ((Sum.inl a:Ay)=Sum.inl b)=(a == b):=by
 by_cases e:a=b
 ·subst e;simp
 ·have h:¬ (Sum.inl a:Ay)=Sum.inl b:=λ q=>e (Sum.inl.inj q);rw [decide_eq_false h];exact (beq_eq_false_iff_ne.mpr e).symm
def xg (a b:Str):decide ((Sum.inr a:Ay)=Sum.inr b)=decide (a=b):=by
 by_cases e:a=b
 ·subst e;simp
 ·have h:¬ (Sum.inr a:Ay)=Sum.inr b:=λ q=>e (Sum.inr.inj q);rw [decide_eq_false h,decide_eq_false e]
def xE (a:Int) (b:Str):decide ((Sum.inl a:Ay)=Sum.inr b)=false:=decide_eq_false (λ q=>nomatch q)
def xf (a:Str) (b:Int):decide ((Sum.inr a:Ay)=Sum.inl b)=false:=decide_eq_false (λ q=>nomatch q)
def De (prog:A8) (w:A7):PySem.KeyKind prog w Ay where
 is:=Kw
 hash:=SY w
 inj:=λ v a b ha hb=>by
  rcases GU ha with ⟨i,t,rfl,rfl⟩ | ⟨x,t,rfl,rfl⟩
  ·rcases GU hb with ⟨j,u,rfl,e⟩ | ⟨y,u,rfl,e⟩
   ·injection e with e1 _;rw [e1]
   ·exact nomatch e
  ·rcases GU hb with ⟨j,u,rfl,e⟩ | ⟨y,u,rfl,e⟩
   ·exact nomatch e
   ·injection e with e1 _;rw [e1]
 byValue:=λ k v h=>by
  rcases GU h with ⟨i,t,rfl,rfl⟩ | ⟨x,t,rfl,rfl⟩ <;> rfl
 pyHash:=λ hv h=>by
  rcases GU hv with ⟨i,t,rfl,rfl⟩ | ⟨x,t,rfl,rfl⟩
  ·exact wpAny_pyHash_int h
  ·exact wpAny_pyHash_str h
 eqBool:=λ hu hv h=>by
  rcases GU hu with ⟨i,t,rfl,rfl⟩ | ⟨x,t,rfl,rfl⟩
  ·rcases GU hv with ⟨j,u,rfl,rfl⟩ | ⟨y,u,rfl,rfl⟩
   ·rw [xD] at h;exact wpAny_eqBool_int h
   ·rw [xE] at h;exact SeqAt.EqAt.int_str i t y u _ _ _ _ h
  ·rcases GU hv with ⟨j,u,rfl,rfl⟩ | ⟨y,u,rfl,rfl⟩
   ·rw [xf] at h;exact SeqAt.EqAt.str_int x t j u _ _ _ _ h
   ·rw [xg] at h;exact wpAny_eqBool_str h
 «strs»:=λ k x t v h=>by
  rcases GU h with ⟨i,u,rfl,e⟩ | ⟨y,u,rfl,e⟩
  ·exact nomatch e
  ·injection e with e1 _
   subst e1;cases v <;> rfl
def uo (prog:A8) (w:A7) (i:Int) (t:Tok):(De prog w).is (.inl i) (.int i t)=true:=yu i t
def uq (prog:A8) (w:A7) (x:Str) (t:Tok):(De prog w).is (.inr x) (.str x t)=true:=yv x t
inductive V where
 | non | bl (b:Bool) | int (i:Int) | str (x:Str) | byt (b:Array UInt8) | flt (b:UInt64) | ref (a:Addr) | ty (n:String)
 deriving DecidableEq
def RelV:V->Ad->Prop
 | .non,u=>u=Value.none
 | .bl b,u=>u=Value.bool b
 | .int i,u=>∃ t,u=Value.int i t
 | .str x,u=>∃ t,u=Value.str x t
 | .byt b,u=>∃ t,u=Value.bytes b t
 | .flt b,u=>∃ t,u=Value.float b t
 | .ref a,u=>u=Value.ref a
 | .ty n,u=>u=Value.type n
abbrev Vals:List V->List Ad->Prop:=FP RelV
def Vals.length {xs:List V}{us:List Ad} (r:Vals xs us):xs.length=us.length:=Paired.length r
theorem Vals.get:∀ {xs:List V}{us:List Ad}{i:Nat}{x:V},Vals xs us->xs[i]?=some x->∃ u,us[i]?=some u/\RelV x u
 | _,_,_,_,.nil,e=>by simp at e
 | _,_,0,_,.cons r _,e=>by simp at e;subst e;exact ⟨_,rfl,r⟩
 | _,_,i + 1,x,.cons _ t,e=>by
  obtain ⟨u,h1,h2⟩:=Vals.get (i:=i) (x:=x) t (by simpa using e);exact ⟨u,by simpa using h1,h2⟩
theorem Vals.set {x:V}{u:Ad} (r:RelV x u):∀ {xs:List V}{us:List Ad} (i:Nat),Vals xs us->Vals (xs.set i x) (us.set i u)
 | _,_,_,.nil=>.nil
 | _,_,0,.cons _ t=>.cons r t
 | _,_,i + 1,.cons q t=>.cons q (Vals.set r i t)
theorem Vals.append:∀ {xs ys:List V}{us ws:List Ad},Vals xs us->Vals ys ws->Vals (xs++ys) (us++ws)
 | _,_,_,_,.nil,s=>s
 | _,_,_,_,.cons r t,s=>.cons r (Vals.append t s)
theorem Vals.take:∀ {xs:List V}{us:List Ad} (n:Nat),Vals xs us->Vals (xs.take n) (us.take n)
 | _,_,0,_=>.nil
 | _,_,_ + 1,.nil=>.nil
 | _,_,n + 1,.cons r t=>.cons r (Vals.take n t)
theorem Vals.drop:∀ {xs:List V}{us:List Ad} (n:Nat),Vals xs us->Vals (xs.drop n) (us.drop n)
 | _,_,0,r=>r
 | _,_,_ + 1,.nil=>.nil
 | _,_,n + 1,.cons _ t=>Vals.drop n t
def RelO:Option V->Option Ad->Prop
 | some v,some u=>RelV v u
 | none,none=>True
 | _,_=>False
def KV {κ:Type}:List (κ×V)->List (κ×Ad)->Prop:=FP λ (p:κ×V) (q:κ×Ad)=>p.1=q.1/\RelV p.2 q.2
def kV:Ay->V
 | .inl i=>.int i
 | .inr x=>.str x
inductive HO where
 | lst (xs:List V)
 | tup (xs:List V)
 | dK (kvs:List (Ay×V)) | dT (kvs:List (List Ay×V))
 | set (S:Int->Bool) (n:Nat)
 | ins (C dx:Addr) (fs:List (Str×V))
 | own (x:Addr)
 | xd (fs:List (Str×V))
 | met (f x:Addr)
 | rng (lo hi:Int)
 | frz (o:Obj) (u:HO)
 | tbl (ps:Array Ad)
 | ext (φ:Heap->Prop)
abbrev Hp:=Addr->Option HO
def Ao (H:Hp) (a:Addr) (o:HO):Hp:=λ b=>if b=a then some o else H b
def Bu {H:Hp}{a:Addr}{o:HO}:Ao H a o a=some o:=by unfold Ao;rw [if_pos rfl]
def AH {H:Hp}{a b:Addr}{o:HO} (h:b≠a):Ao H a o b=H b:=by unfold Ao;rw [if_neg h]
def qA {H:Hp}{a b:Addr}{o u:HO} (h:H a=some o) (h':H b=some u) (d:o≠u):a≠b:=by
 intro e;subst e;rw [h] at h';exact d (Option.some.inj h')
def JC {H:Hp}{a b:Addr}{o:HO} (h:H a=some o) (h':H b=none):a≠b:=by
 intro e;subst e;rw [h] at h';cases h'
section
variable (P:A8) (w:A7)
def zxr (H:Hp) (h:Heap) (a:Addr):HO->Prop
 | .lst xs=>xs.length<=Az/\∃ (its:List Ad) (n:Nat),Vals xs its/\h.get? a=some { cls:=.type "list",data:=.seq its.toArray n }
 | .tup xs=>xs.length<=Az/\∃ its:List Ad,Vals xs its/\IsTup h a its.toArray
 | .dK kvs=>kvs.length<=Az/\(a == EO)=false/\∃ vs,KV kvs vs/\h.DictOf (De P w) a vs
 | .dT kvs=>kvs.length<=Az/\(a == EO)=false/\∃ xs:List (List Ay×Addr×Ad),
   FP (λ (p:List Ay×V) (q:List Ay×Addr×Ad)=>p.1=q.1/\H q.2.1=some (.tup (p.1.map kV))/\RelV p.2 q.2.2) kvs xs /\
   ∃ o es ep,h.get? a=some o/\o.ExactDict/\o.data=.dict es ep/\es.toList=xs.map (Kf (FQ (De P w)))/\(xs.map (·.1)).Nodup
 | .set S n=>h.SetOf (intKind P w) a S n
 | .ins C dx fs=>H dx=some (.own a)/\fs.length<=1000/\dx≠a/\h.get? a=some (QD C dx) /\
   ∃ mA,h.Ns1 dx mA/\(∀ f,RelO (fs.lookup f) (mA f))/\PySem.Within mA (fs.map (·.1))
 | .own _=>∃ o,h.get? a=some o
 | .xd fs=>∃ mA,h.Ns1 a mA/\∀ f,RelO (fs.lookup f) (mA f)
 | .rng lo hi=>∃ t u v,h.get? a=some { cls:=.type "range",data:=.fields #[.int lo t,.int hi u,.int 1 v] }
 | .frz o u=>h.get? a=some o/\zxr H h a u
 | .tbl ps=>h.get? a=some { cls:=.none,data:=.fields ps }
 | .met f x=>h.get? a=some (Ra (.ref f) (.ref x))
 | .ext φ=>φ h/\(∃ o,h.get? a=some o)/\∀ h1 h2:Heap,φ h1->(∀ o,h1.get? a=some o->h2.get? a=some o)->φ h2
def HOk (H:Hp) (h:Heap):Prop:=∀ a o,H a=some o->zxr P w H h a o
end
section
variable {P:A8}{w:A7}{H H':Hp}{h h':Heap}{a:Addr}{o:HO}
theorem zxr.lt (x:zxr P w H h a o):a < h.objs.size:=by
 cases o with
 | lst xs=>obtain ⟨_,_,_,_,e⟩:=x;exact AS e
 | tup xs=>obtain ⟨_,_,_,p⟩:=x;exact p.lt
 | dK kvs=>obtain ⟨_,_,_,_,o,_,_,e,_⟩:=x;exact AS e
 | dT kvs=>obtain ⟨_,_,_,_,o,_,_,e,_⟩:=x;exact AS e
 | set S n=>obtain ⟨o,_,_,_,e,_⟩:=x;exact AS e
 | ins C dx fs=>obtain ⟨_,_,_,e,_⟩:=x;exact AS e
 | own y=>obtain ⟨_,e⟩:=x;exact AS e
 | xd fs=>obtain ⟨_,⟨_,_,_,e,_⟩,_⟩:=x;exact AS e
 | rng lo hi=>obtain ⟨_,_,_,e⟩:=x;exact AS e
 | frz ob u=>obtain ⟨e,_⟩:=x;exact AS e
 | tbl ps=>exact AS (show h.get? a=some _ from x)
 | met f y=>exact AS (show h.get? a=some _ from x)
 | ext φ=>obtain ⟨_,⟨_,e⟩,_⟩:=x;exact AS e
theorem Paired.mapP {α β:Type}{F G:α->β->Prop}:∀ {l₁:List α}{l₂:List β},FP F l₁ l₂->(∀ a b,F a b->G a b)->FP G l₁ l₂
 | _,_,.nil,_=>.nil
 | _,_,.cons r t,f=>.cons (f _ _ r) (Paired.mapP t f)
theorem zxr.stay (x:zxr P w H h a o) (k:∀ b u,(b=a\/H b=some (.own a))->h.get? b=some u->h'.get? b=some u)
  (ho:∀ b,H b=some (.own a)->H' b=some (.own a)) (ht:∀ b xs,H b=some (.tup xs)->H' b=some (.tup xs)):zxr P w H' h' a o:=by
 induction o with
 | lst xs=>obtain ⟨z,its,n,r,e⟩:=x;exact ⟨z,its,n,r,k _ _ (.inl rfl) e⟩
 | tup xs=>obtain ⟨z,its,r,ob,e,c⟩:=x;exact ⟨z,its,r,ob,k _ _ (.inl rfl) e,c⟩
 | dK kvs=>obtain ⟨z,y,vs,r,ob,es,ep,e,c⟩:=x;exact ⟨z,y,vs,r,ob,es,ep,k _ _ (.inl rfl) e,c⟩
 | dT kvs=>
  obtain ⟨z,y,xs,r,ob,es,ep,e,c⟩:=x;exact ⟨z,y,xs,Paired.mapP r λ p q z=>⟨z.1,ht _ _ z.2.1,z.2.2⟩,ob,es,ep,k _ _ (.inl rfl) e,c⟩
 | set S n=>obtain ⟨ob,es,ep,t,e,c⟩:=x;exact ⟨ob,es,ep,t,k _ _ (.inl rfl) e,c⟩
 | ins C dx fs=>
  obtain ⟨d,z,ne,e,mA,⟨od,es,ep,e2,c⟩,r⟩:=x;exact ⟨ho _ d,z,ne,k _ _ (.inl rfl) e,mA,⟨od,es,ep,k _ _ (.inr d) e2,c⟩,r⟩
 | own y=>obtain ⟨ob,e⟩:=x;exact ⟨ob,k _ _ (.inl rfl) e⟩
 | xd fs=>obtain ⟨mA,⟨od,es,ep,e,c⟩,r⟩:=x;exact ⟨mA,⟨od,es,ep,k _ _ (.inl rfl) e,c⟩,r⟩
 | rng lo hi=>obtain ⟨t,u,v,e⟩:=x;exact ⟨t,u,v,k _ _ (.inl rfl) e⟩
 | frz ob u ih=>obtain ⟨e,q⟩:=x;exact ⟨k _ _ (.inl rfl) e,ih q⟩
 | tbl ps=>
  have e:h.get? a=some { cls:=.none,data:=.fields ps }:=x;show h'.get? a=some { cls:=.none,data:=.fields ps };exact k a _ (.inl rfl) e
 | met f y=>
  have e:h.get? a=some (Ra (.ref f) (.ref y)):=x;show h'.get? a=some (Ra (.ref f) (.ref y));exact k a _ (.inl rfl) e
 | ext φ=>obtain ⟨p,⟨o,e⟩,st⟩:=x;exact ⟨st _ _ p λ o q=>k _ _ (.inl rfl) q,⟨o,k _ _ (.inl rfl) e⟩,st⟩
def HOk.lt (x:HOk P w H h) (e:H a=some o):a < h.objs.size:=(x a o e).lt
theorem HOk.fresh (x:HOk P w H h) (e:h.objs.size<=a):H a=none:=by
 cases q:H a with
 | none=>rfl
 | some u=>exact absurd (Cg (x.lt q) e) (DM _)
def HOk.kept (x:HOk P w H h) (k:∀ b u,h.get? b=some u->h'.get? b=some u):HOk P w H h':=λ a o e=>
 (x a o e).stay (λ b u _ q=>k b u q) (λ _ q=>q) λ _ _ q=>q
def HOk.laid (x:HOk P w H h) (k:∀ b u,h.get? b=some u->h'.get? b=some u) (hp:h.objs.size<=a) (new:zxr P w (Ao H a o) h' a o):HOk P w (Ao H a o) h':=λ b u e=>by
 have hn:=x.fresh hp;by_cases hb:b=a
 ·subst hb;rw [Bu] at e;cases e;exact new
 ·rw [AH hb] at e;exact (x b u e).stay (λ c v _ q=>k c v q) (λ c q=>by rw [AH (JC q hn)];exact q) λ c xs q=>by rw [AH (JC q hn)];exact q
end
def Rd (H:Hp) (a:Addr) (u:HO):Prop:=H a=some u\/∃ o,H a=some (.frz o u)
def Rd.ok {P:A8}{w:A7}{H:Hp}{h:Heap}{a:Addr}{u:HO} (r:Rd H a u) (x:HOk P w H h):zxr P w H h a u:=by
 rcases r with r | ⟨o,r⟩
 ·exact x a u r
 ·obtain ⟨_,q⟩:=x a _ r;exact q
def Mo:Option HO->Prop
 | some (.lst _)=>True
 | some (.dK _)=>True
 | some (.dT _)=>True
 | some (.set _ _)=>True
 | some (.ins _ _ _)=>True
 | some (.ext _)=>True
 | _=>False
section
variable {P:A8}{w:A7}{H:Hp}{h h':Heap}{x e:Addr}{o':HO}
def HOk.write (ok:HOk P w H h) (mu:Mo (H x)) (he:e=x\/H e=some (.own x)) (k:∀ b u,b≠e->h.get? b=some u->h'.get? b=some u) (heo:∃ u,h'.get? e=some u)
  (new:zxr P w (Ao H x o') h' x o'):HOk P w (Ao H x o') h':=λ b u q=>by
 have nown:∀ c y,H c=some (.own y)->c≠x:=λ c y r z=>by subst z;rw [r] at mu;exact mu
 have ntup:∀ c xs,H c=some (.tup xs)->c≠x:=λ c xs r z=>by subst z;rw [r] at mu;exact mu
 by_cases hb:b=x
 ·subst hb;rw [Bu] at q;cases q;exact new
 ·rw [AH hb] at q;by_cases hbe:b=e
  ·have q':H b=some (.own x):=by
    rcases he with z | z
    ·exact absurd (hbe.trans z) hb
    ·rw [hbe];exact z
   rw [q] at q';cases q';obtain ⟨v,hv⟩:=heo;exact ⟨v,by rw [hbe];exact hv⟩
  ·refine (ok b u q).stay (λ c v hc r=>k c v ?_ r) (λ c r=>by rw [AH (nown c b r)];exact r) λ c xs r=>by rw [AH (ntup c xs r)];exact r
   rcases hc with rfl | hc
   ·exact hbe
   ·rintro rfl;rcases he with z | z
    ·exact nown c b hc z
    ·rw [hc] at z;cases z;exact hb rfl
end
structure Un (fs ex:List Addr) (H H':Hp) (h h':Heap):Prop where
 keep:∀ b o,h.get? b=some o->H b=none->b∉fs->b∉ex->h'.get? b=some o
 slot:∀ b o,h.get? b=some o->H b=none->b∈fs->b∉ex->∃ sl,h'.get? b=some { o with slots:=sl }
 free:∀ b o,h.get? b=some o->H b=none->b∉ex->H' b=none
 there:∀ b o,h.get? b=some o->b∉ex->∃ o',h'.get? b=some o'
 tups:∀ b xs,H b=some (.tup xs)->H' b=some (.tup xs)
 frzs:∀ b o u,H b=some (.frz o u)->H' b=some (.frz o u)
 tbls:∀ b ps,H b=some (.tbl ps)->∃ more,H' b=some (.tbl (ps++more))
section
variable {fs fs' ex ex':List Addr}{H H1 H2:Hp}{h h1 h2 h':Heap}{a x e:Addr}{o:HO}
def Un.any (u:Un fs ex H H1 h h1) {b:Addr}{ob:Obj} (q:h.get? b=some ob) (n:H b=none) (hx:b∉ex):∃ sl,h1.get? b=some { ob with slots:=sl }:=by
 by_cases hb:b∈fs
 ·exact u.slot b ob q n hb hx
 ·exact ⟨ob.slots,u.keep b ob q n hb hx⟩
def Un.kept (k:∀ b u,h.get? b=some u->h'.get? b=some u):Un fs ex H H h h':=
 ⟨λ b ob q _ _ _=>k b ob q,λ b ob q _ _ _=>⟨ob.slots,k b ob q⟩,λ _ _ _ n _=>n,λ b ob q _=>⟨ob,k b ob q⟩,λ _ _ q=>q,λ _ _ _ q=>q,λ _ ps q=>⟨#[],by rw [q];simp⟩⟩
def Un.refl:Un fs ex H H h h:=Un.kept λ _ _ q=>q
def Un.laid (k:∀ b u,h.get? b=some u->h'.get? b=some u) (hp:h.objs.size<=a) (hn:H a=none):Un fs ex H (Ao H a o) h h' where
 keep:=λ b u q _ _ _=>k b u q
 slot:=λ b u q _ _ _=>⟨u.slots,k b u q⟩
 free:=λ b u q n _=>by rw [AH (Cr (Cg (AS q) hp))];exact n
 there:=λ b u q _=>⟨u,k b u q⟩
 tups:=λ b xs q=>by rw [AH (JC q hn)];exact q
 frzs:=λ b u xs q=>by rw [AH (JC q hn)];exact q
 tbls:=λ b ps q=>⟨#[],by rw [AH (JC q hn),q];simp⟩
def Un.write (mu:Mo (H x)) (he:e=x\/H e=some (.own x)) (k:∀ b u,b≠e->h.get? b=some u->h'.get? b=some u) (heo:∃ u,h'.get? e=some u):Un fs ex H (Ao H x o) h h':=by
 have hx:∀ b,H b=none->b≠x:=λ b n z=>by subst z;rw [n] at mu;exact mu
 have hb:∀ b,H b=none->b≠e:=λ b n z=>by
  subst z;rcases he with r | r
  ·exact hx b n r
  ·rw [n] at r;cases r
 have hm:∀ b u,H b=some u->¬ Mo (some u)->b≠x:=λ b u q nm z=>by subst z;rw [q] at mu;exact nm mu
 refine ⟨λ b u q n _ _=>k b u (hb b n) q,λ b u q n _ _=>⟨u.slots,k b u (hb b n) q⟩,λ b u q n _=>by rw [AH (hx b n)];exact n,λ b u q _=>?_,
  λ b xs q=>by rw [AH (hm b _ q λ z=>z)];exact q,λ b u xs q=>by rw [AH (hm b _ q λ z=>z)];exact q,λ b ps q=>⟨#[],by rw [AH (hm b _ q λ z=>z),q];simp⟩⟩
 by_cases hbe:b=e
 ·subst hbe;exact heo
 ·exact ⟨u,k b u hbe q⟩
end
def NG (h:Heap) (H:Hp):List Addr:=(A6 h.objs.size).filter λ a=>(H a).isSome
def Dz (h:Heap) (H:Hp):Heap:=PySem.W.hideAll h (NG h H)
def yn (h:Heap) (H:Hp):(Dz h H).objs.size=h.objs.size:=PySem.W.hideAll_size _ _
def vC {h:Heap}{H:Hp}{b:Addr}{o:Obj} (e:h.get? b=some o) (n:H b=none):(Dz h H).get? b=some o:=
 PySem.W.hideAll_get _ e λ hm=>by
  have q:(H b).isSome=true:=(jg2.mp hm).2;rw [n] at q;simp at q
theorem jD {h:Heap}{H:Hp}{b:Addr}{o:Obj} (e:(Dz h H).get? b=some o):h.get? b=some o/\H b=none:=by
 have e':h.get? b=some o:=PySem.W.of_hideAll (NG h H) e;refine ⟨e',?_⟩;cases q:H b with
 | none=>rfl
 | some x=>
  have hm:b∈NG h H:=jg2.mpr ⟨jc4.mpr (AS e'),by simp [q]⟩;have z:(Dz h H).get? b=none:=PySem.W.hideAll_none (NG h H) hm;rw [z] at e;cases e
def ju (g h:Heap) (L:Addr):List (Addr×Obj):=(A6 h.objs.size).filterMap λ a=>if a=L\/(g.get? a).isSome=true then none else (h.get? a).map λ o=>(a,o)
def BF (g h:Heap) (L d:Addr):List (Addr×Obj):=(ju g h L).filter λ p=>decide (p.1≠d)
structure Mod (K:PySem.W.Frag) (mg:Str->Option Ad) (base:Heap):Prop where
 kin:K.In base
 glob:base.Ns EA mg
 blt:∃ mb,base.Ns builtinsNs mb/\∀ x:Str,x ≠ "__name__" -> mb x=Jc x
 nolimit:base.NoLimit
structure Cx where
 prog:A8
 w:A7
 K:PySem.W.Frag
 mg:Str->Option Ad
 base:Heap
 A:BK
 N:List Str
 s₀:Ai
 H₀:Hp
 env:Env
 outer:List Env
 stack:List Env
 ex:List Addr
 fn:Str->Bool
 calm:Bool
 pn:List (Addr×Obj)
 xe:Ad->Ai->Prop
def Gq (l:List Env):List Addr:=l.filterMap (·.frame)
abbrev Cx.fs (X:Cx):List Addr:=Gq X.outer
def IF (sc:Bz) (x:Str):Prop:=sc.names.lookup x=some .local\/sc.names.lookup x=some .cell\/sc.names.lookup x=some .free
def FE (sc:Bz) (x:Str):Prop:=sc.names.lookup x=some .local\/sc.names.lookup x=some .cell
def Ud (env:Env) (h:Heap) (m:Str->Option Ad) (x:Str) (u:Ad):Prop:=
 (env.kindOf x=some .local/\m x=some u)\/((env.kindOf x=some .cell\/env.kindOf x=some .free)/\∃ c,env.cells.lookup x=some c/\h.IsCell c (some u))
structure Cx.Ok (X:Cx):Prop where
 mod:Mod X.K X.mg X.base
 kind:X.env.scope.kind=.function
 glob:X.env.globals=EA
 blt:X.env.builtins=builtinsNs
 above:X.s₀.heap.objs.size<=X.env.locals
 inj:∀ x y c,X.env.cells.lookup x=some c->X.env.cells.lookup y=some c->x=y
 has:∀ x,(X.env.kindOf x=some .cell\/X.env.kindOf x=some .free)->∃ c,X.env.cells.lookup x=some c
 cab:∀ x c,X.fn x=true->X.env.cells.lookup x=some c->X.s₀.heap.objs.size<=c
 hd:X.calm=true->X.A.handled=none
 frames:X.A.frames=some X.stack
 stk:X.stack=X.outer\/(X.stack=X.env::X.outer/\X.env.frame=some X.env.locals)
 exf:∀ b∈X.ex,b≠X.env.locals/\∀ x c,X.env.cells.lookup x=some c->c≠b
 bs:∀ b o,X.base.get? b=some o->X.s₀.heap.get? b=some o/\X.H₀ b=none
 bsz:X.base.objs.size<=X.s₀.heap.objs.size
 noex:∀ b o,X.base.get? b=some o->b∉X.ex
 exfs:∀ b∈X.ex,b∉X.fs
 funs:X.s₀.heap.FunFrames X.base X.outer
 frf:∀ b∈X.fs,X.H₀ b=none
structure Inv (X:Cx) (pins:List (Addr×Obj)) (σ:List (Option V)) (H:Hp) (s:Ai):Prop where
 ok:X.Ok
 os:s.os=X.s₀.os
 bare:Ho s.gens
 base:Un X.fs X.ex X.H₀ H X.s₀.heap s.heap
 loc:∃ m,s.heap.Ns X.env.locals m/\∀ (i:Nat) (x:Str) (v:V),X.N[i]?=some x->σ[i]?=some (some v)->IF X.env.scope x->∃ u,RelV v u/\Ud X.env s.heap m x u
 cell:∀ x c,X.env.cells.lookup x=some c->∃ v,s.heap.IsCell c v
 free:H X.env.locals=none
 freeC:∀ x c,X.env.cells.lookup x=some c->H c=none
 pin:∀ p∈X.pn++pins,s.heap.get? p.1=some p.2/\H p.1=none/\p.1≠X.env.locals/\p.1∉X.fs/\∀ v,p.2.data≠.cell v
 hok:HOk X.prog X.w H s.heap
 len:σ.length=X.N.length
section
variable {X:Cx}{pins:List (Addr×Obj)}{σ:List (Option V)}{H H':Hp}{s:Ai}{h':Heap}
def Cx.Ok.nofr (ok:X.Ok) {b:Addr}{o:Obj} (e:X.base.get? b=some o):b∉X.fs:=λ hb=>by
 have:=(ok.funs.mem hb).1
 rw [e] at this;cases this
def Inv.bs (I:Inv X pins σ H s):∀ b o,X.base.get? b=some o->s.heap.get? b=some o/\H b=none:=λ b o e=>
 ⟨I.base.keep b o (I.ok.bs b o e).1 (I.ok.bs b o e).2 (I.ok.nofr e) (I.ok.noex b o e),I.base.free b o (I.ok.bs b o e).1 (I.ok.bs b o e).2 (I.ok.noex b o e)⟩
def Inv.bk (I:Inv X pins σ H s):∀ b o,X.base.get? b=some o->s.heap.get? b=some o:=λ b o e=>(I.bs b o e).1
def Inv.mod (I:Inv X pins σ H s):Mod X.K X.mg X.base:=I.ok.mod
def Inv.kIn (I:Inv X pins σ H s):X.K.In s.heap:=I.ok.mod.kin.keeps I.bk
def Inv.lt (I:Inv X pins σ H s):X.env.locals < s.heap.objs.size:=let ⟨_,hn,_⟩:=I.loc;hn.lt
def Inv.sz (I:Inv X pins σ H s):X.s₀.heap.objs.size<=s.heap.objs.size:=BZ I.ok.above (LW I.lt)
def Inv.nofs (I:Inv X pins σ H s) {a:Addr} (h:s.heap.objs.size<=a):a∉X.fs:=λ hb=>by
 obtain ⟨_,o,ho,_⟩:=I.ok.funs.mem hb;exact absurd (Cg (AS ho) (BZ I.sz h)) (DM _)
def Inv.cne (I:Inv X pins σ H s):∀ x c,X.env.cells.lookup x=some c->c≠X.env.locals:=λ x c e z=>by
 obtain ⟨v,o,ho,hd⟩:=I.cell x c e;obtain ⟨m,⟨o',es,ep,ho',hd',_⟩,_⟩:=I.loc;rw [z,ho'] at ho;cases ho;rw [hd'] at hd;cases hd
def Inv.funs (I:Inv X pins σ H s):s.heap.FunFrames X.base X.outer:=by
 have all:∀ (l:List Env),(∀ b∈Gq l,b∈X.fs)->X.s₀.heap.FunFrames X.base l->s.heap.FunFrames X.base l:=by
  intro l;induction l with
  | nil=>intro _ _;trivial
  | cons env r ih=>
   intro hs hl;obtain ⟨hk,⟨L,o,hf,hn,ho,hd⟩,hr⟩:=hl;have hL:L∈X.fs:=hs L (by unfold Gq;rw [Pa,hf];exact AL);obtain ⟨sl,e⟩:=I.base.slot L o ho (I.ok.frf L hL) hL λ z=>I.ok.exfs L z hL;exact ⟨hk,⟨L,_,hf,hn,e,hd⟩,ih (λ b hb=>hs b (by unfold Gq;rw [Pa,hf];exact AM _ hb)) hr⟩
 exact all X.outer (λ _ hb=>hb) I.ok.funs
def Inv.stack (I:Inv X pins σ H s):s.heap.FunFrames X.base X.stack:=by
 rcases I.ok.stk with e | ⟨e,hf⟩
 ·rw [e];exact I.funs
 ·rw [e];obtain ⟨m,hn,_⟩:=I.loc;refine .cons (by rw [I.ok.kind];decide) hf hn ?_ I.funs;exact Heap.get?_none_of_le (BZ I.ok.bsz I.ok.above)
def Inv.stkSub (I:Inv X pins σ H s):∀ b∈Gq X.stack,b∈X.env.locals::X.fs:=λ b hb=>by
 rcases I.ok.stk with e | ⟨e,hf⟩
 ·rw [e] at hb;exact AM _ hb
 ·rw [e] at hb;unfold Gq at hb;rw [Pa,hf] at hb;exact hb
def Inv.stkFree (I:Inv X pins σ H s):∀ b∈Gq X.stack,H b=none:=λ b hb=>by
 rcases jb4.mp (I.stkSub b hb) with e | hb
 ·rw [e];exact I.free
 ·obtain ⟨_,o,ho,_⟩:=I.ok.funs.mem hb;exact I.base.free b o ho (I.ok.frf b hb) λ z=>I.ok.exfs b z hb
def Inv.step {g':Array GenState}{t':Nat}{d':Drawn}{ch:List Addr} (I:Inv X pins σ H s)
  (hch:∀ b∈ch,(b∈X.ex\/X.s₀.heap.objs.size<=b)/\b≠X.env.locals/\(∀ x c,X.env.cells.lookup x=some c->c≠b)/\∀ p∈X.pn++pins,p.1≠b)
  (keep:∀ b o,b≠X.env.locals->b∉X.fs->b∉ch->s.heap.get? b=some o->H b=none->h'.get? b=some o)
  (slot:∀ b o,b≠X.env.locals->b∈X.fs->b∉ch->s.heap.get? b=some o->H b=none->∃ sl,h'.get? b=some { o with slots:=sl }) (free:∀ b o,b∉ch->s.heap.get? b=some o->H b=none->H' b=none)
  (there:∀ b o,b∉ch->s.heap.get? b=some o->∃ o',h'.get? b=some o')
  (tups:∀ b xs,H b=some (.tup xs)->H' b=some (.tup xs)) (frzs:∀ b o u,H b=some (.frz o u)->H' b=some (.frz o u)) (tbls:∀ b ps,H b=some (.tbl ps)->∃ more,H' b=some (.tbl (ps++more)))
  (ns:∀ m,s.heap.Ns X.env.locals m->h'.Ns X.env.locals m) (hok:HOk X.prog X.w H' h') (hg:Ho g'):
  Inv X pins σ H' { s with heap:=h',gens:=g',drawn:=d',toks:=t' }:=by
 have neL:∀ b o,X.s₀.heap.get? b=some o->b≠X.env.locals:=λ b o e=>Cr (Cg (AS e) I.ok.above);have neC:∀ b o,X.s₀.heap.get? b=some o->b∉X.ex->b∉ch:=λ b o e hx hb=>by
  rcases (hch b hb).1 with z | z
  ·exact hx z
  ·exact absurd (Cg (AS e) z) (DM _)
 have cellK:∀ x c,X.env.cells.lookup x=some c->∀ v,s.heap.IsCell c v->h'.IsCell c v:=λ x c e v ⟨o,ho,hd⟩=>by
  have nch:c∉ch:=λ z=>(hch c z).2.2.1 x c e rfl;by_cases hc:c∈X.fs
  ·obtain ⟨sl,q⟩:=slot c o (I.cne x c e) hc nch ho (I.freeC x c e);exact ⟨_,q,hd⟩
  ·exact ⟨o,keep c o (I.cne x c e) hc nch ho (I.freeC x c e),hd⟩
 refine ⟨I.ok,I.os,hg,⟨λ b o e n hb hx=>?_,λ b o e n hb hx=>?_,λ b o e n hx=>?_,λ b o e hx=>?_,λ b xs e=>tups b xs (I.base.tups b xs e),λ b o xs e=>frzs b o xs (I.base.frzs b o xs e),λ b ps e=>?_⟩,?_,λ x c e=>?_,?_,λ x c e=>?_,λ p hp=>?_,hok,I.len⟩
 ·exact keep b o (neL b o e) hb (neC b o e hx) (I.base.keep b o e n hb hx) (I.base.free b o e n hx)
 ·obtain ⟨sl,e1⟩:=I.base.slot b o e n hb hx;obtain ⟨sl',e2⟩:=slot b _ (neL b o e) hb (neC b o e hx) e1 (I.base.free b o e n hx);exact ⟨sl',e2⟩
 ·obtain ⟨o',e1⟩:=I.base.there b o e hx;exact free b o' (neC b o e hx) e1 (I.base.free b o e n hx)
 ·obtain ⟨o',e1⟩:=I.base.there b o e hx;exact there b o' (neC b o e hx) e1
 ·obtain ⟨m1,e1⟩:=I.base.tbls b ps e;obtain ⟨m2,e2⟩:=tbls b _ e1;exact ⟨m1++m2,by rw [e2,Array.append_assoc]⟩
 ·obtain ⟨m,hn,hl⟩:=I.loc;refine ⟨m,ns m hn,λ i x v e1 e2 e3=>?_⟩;obtain ⟨u,r,l⟩:=hl i x v e1 e2 e3;refine ⟨u,r,?_⟩;rcases l with l | ⟨k,c,e,z⟩
  ·exact .inl l
  ·exact .inr ⟨k,c,e,cellK x c e _ z⟩
 ·obtain ⟨v,z⟩:=I.cell x c e;exact ⟨v,cellK x c e v z⟩
 ·obtain ⟨m,⟨o,_,_,ho,_⟩,_⟩:=I.loc;exact free _ o (λ z=>(hch _ z).2.1 rfl) ho I.free
 ·obtain ⟨v,o,ho,hd⟩:=I.cell x c e;exact free c o (λ z=>(hch c z).2.2.1 x c e rfl) ho (I.freeC x c e)
 ·obtain ⟨e,n,ne,nf,d⟩:=I.pin p hp;have nch:p.1∉ch:=λ z=>(hch p.1 z).2.2.2 p hp rfl;exact ⟨keep p.1 p.2 ne nf nch e n,free p.1 p.2 nch e n,ne,nf,d⟩
def Inv.un {t':Nat} (I:Inv X pins σ H s) (u:Un X.fs [] H H' s.heap h') (hok:HOk X.prog X.w H' h'):Inv X pins σ H' { s with heap:=h',toks:=t' }:=by
 obtain ⟨m,⟨o,es,ep,ho,r⟩,_⟩:=id I.loc;obtain ⟨sl,hL⟩:=u.any ho I.free (by simp);exact I.step (g':=s.gens) (d':=s.drawn) (ch:=[]) (λ _ z=>nomatch z) (λ b o _ hb _ e n=>u.keep b o e n hb (by simp)) (λ b o _ hb _ e n=>u.slot b o e n hb (by simp)) (λ b o _ e n=>u.free b o e n (by simp)) (λ b o _ e=>u.there b o e (by simp)) u.tups u.frzs u.tbls (λ m' hm=>by
  obtain ⟨o',es',ep',ho',r'⟩:=hm;rw [ho] at ho';cases ho';exact ⟨_,es',ep',hL,r'⟩) hok I.bare
def Inv.call {g':Array GenState}{t':Nat}{d':Drawn}{ch:List Addr} (I:Inv X pins σ H s) (u:Un (Gq X.stack) ch H H' s.heap h') (hok:HOk X.prog X.w H' h') (hg:Ho g')
  (hch:∀ b∈ch,(b∈X.ex\/X.s₀.heap.objs.size<=b)/\b≠X.env.locals/\(∀ x c,X.env.cells.lookup x=some c->c≠b)/\∀ p∈X.pn++pins,p.1≠b):
  Inv X pins σ H' { s with heap:=h',gens:=g',drawn:=d',toks:=t' }:=by
 obtain ⟨m,⟨o,es,ep,ho,r⟩,_⟩:=id I.loc;obtain ⟨sl,hL⟩:=u.any ho I.free λ z=>(hch _ z).2.1 rfl;exact I.step (ch:=ch) hch (λ b o hL hb hc e n=>u.keep b o e n (λ z=>(jb4.mp (I.stkSub b z)).elim hL hb) hc) (λ b o _ _ hc e n=>u.any e n hc) (λ b o hc e n=>u.free b o e n hc) (λ b o hc e=>u.there b o e hc) u.tups u.frzs u.tbls (λ m' hm=>by
  obtain ⟨o',es',ep',ho',r'⟩:=hm;rw [ho] at ho';cases ho';exact ⟨_,es',ep',hL,r'⟩) hok hg
def Inv.turned {t':Nat}{it:Addr} (I:Inv X pins σ H s) (k:∀ b o,b≠it->s.heap.get? b=some o->h'.get? b=some o) (hn:H it=none) (hL:it≠X.env.locals)
  (h1:it∈X.ex\/X.s₀.heap.objs.size<=it) (h2:∀ x c,X.env.cells.lookup x=some c->c≠it) (h3:∀ p∈X.pn++pins,p.1≠it):Inv X pins σ H { s with heap:=h',toks:=t' }:=by
 have nit:∀ b u,H b=some u->b≠it:=λ b u e z=>by rw [z,hn] at e;cases e
 refine I.step (g':=s.gens) (d':=s.drawn) (ch:=[it]) (λ b hb=>?_) (λ b o _ _ hc e _=>k b o (λ z=>hc (by simp [z])) e) (λ b o _ _ hc e _=>⟨o.slots,k b o (λ z=>hc (by simp [z])) e⟩) (λ _ _ _ _ n=>n)
  (λ b o hc e=>⟨o,k b o (λ z=>hc (by simp [z])) e⟩) (λ _ _ e=>e) (λ _ _ _ e=>e) (λ b ps e=>⟨#[],by rw [e];simp⟩) (λ m hm=>?_) (λ b u e=>?_) I.bare
 ·have e:b=it:=by simpa using hb
  subst e;exact ⟨h1,hL,h2,h3⟩
 ·obtain ⟨o,es,ep,ho,r⟩:=hm;exact ⟨o,es,ep,k _ o (BY hL) ho,r⟩
 ·refine (I.hok b u e).stay (λ c v hc q=>k c v ?_ q) (λ _ q=>q) λ _ _ q=>q;rcases hc with z | z
  ·rw [z];exact nit b u e
  ·exact nit c _ z
def Inv.tok (I:Inv X pins σ H s) (t:Nat):Inv X pins σ H { s with toks:=t }:=I.un (h':=s.heap) (t':=t) Un.refl I.hok
def Inv.kept {t':Nat} (I:Inv X pins σ H s) (k:∀ b u,s.heap.get? b=some u->h'.get? b=some u):Inv X pins σ H { s with heap:=h',toks:=t' }:=I.un (Un.kept k) (I.hok.kept k)
def Inv.laid {a:Addr}{o:HO}{t':Nat} (I:Inv X pins σ H s) (k:∀ b u,s.heap.get? b=some u->h'.get? b=some u) (hp:s.heap.objs.size<=a) (new:zxr X.prog X.w (Ao H a o) h' a o):
  Inv X pins σ (Ao H a o) { s with heap:=h',toks:=t' }:=I.un (Un.laid k hp (I.hok.fresh hp)) (I.hok.laid k hp new)
def Inv.write {x e:Addr}{o:HO}{t':Nat} (I:Inv X pins σ H s) (mu:Mo (H x)) (he:e=x\/H e=some (.own x)) (k:∀ b u,b≠e->s.heap.get? b=some u->h'.get? b=some u) (heo:∃ u,h'.get? e=some u)
  (new:zxr X.prog X.w (Ao H x o) h' x o):Inv X pins σ (Ao H x o) { s with heap:=h',toks:=t' }:=I.un (Un.write mu he k heo) (I.hok.write mu he k heo new)
def Inv.pins_of {pins':List (Addr×Obj)} (I:Inv X pins σ H s) (h:∀ p∈pins',s.heap.get? p.1=some p.2/\H p.1=none/\p.1≠X.env.locals/\p.1∉X.fs/\∀ v,p.2.data≠.cell v):Inv X pins' σ H s:=
 ⟨I.ok,I.os,I.bare,I.base,I.loc,I.cell,I.free,I.freeC,λ p hp=>(jd4.mp hp).elim (λ z=>I.pin p (BW _ z)) (h p),I.hok,I.len⟩
def XO {N:List Str} (hN:N.Nodup) {i j:Nat}{x:Str} (a:N[i]?=some x) (b:N[j]?=some x):i=j:=by
 obtain ⟨h1,e1⟩:=jb0.mp a;obtain ⟨h2,e2⟩:=jb0.mp b;exact (List.getElem_inj hN).mp (e1.trans e2.symm)
def UO {M:Model}{A:BK}{E:Ad->Ai->Prop}{i:Nat}{x:Str}{v:V}{u:Ad}{Q:Unit->Ai->Prop} (I:Inv X pins σ H s) (hN:X.N.Nodup) (hi:X.N[i]?=some x) (hx:FE X.env.scope x) (r:RelV v u)
  (h:∀ s',Inv X pins (σ.set i (some v)) H s'->(∃ a,Jb a s.heap s'.heap/\(a=X.env.locals\/X.env.cells.lookup x=some a))->Q () s') (hf:X.fn x=true\/X.env.scope.names.lookup x=some .local:=by first | exact .inl rfl | exact .inr rfl | assumption):Ak M A (storeName X.env x u) Q E s:=by
 obtain ⟨m,hn,hl⟩:=id I.loc;have hcls:(X.env.scope.kind == .class || (X.env.scope.kind == .module && X.env.locals != X.env.globals))=false:=by rw [I.ok.kind];rfl
 have hiσ:i < σ.length:=by rw [I.len];exact (jb0.mp hi).1
 have cne:=I.cne;have tracked:∀ {a:Addr}{h':Heap},(∃ o,s.heap.get? a=some o/\H a=none)->Jb a s.heap h'->HOk X.prog X.w H h':=λ {a h'} ha hs b ob e=>by
  obtain ⟨_,_,hfree⟩:=ha;refine (I.hok b ob e).stay (λ c w' hc q=>(hs.2 c ?_).trans q) (λ _ q=>q) λ _ _ q=>q;rintro rfl;rcases hc with rfl | hc
  ·rw [hfree] at e;cases e
  ·rw [hfree] at hc;cases hc
 rcases hx with hk | hk
 ·refine wpAny_storeName_local hk hn (λ h' hn' hs=>?_) hcls;obtain ⟨oL,_,_,hoL,_⟩:=id hn;refine h _ ⟨I.ok,I.os,I.bare,⟨λ b o e n hb hx=>?_,λ b o e n hb hx=>?_,I.base.free,λ b o e hx=>?_,I.base.tups,I.base.frzs,I.base.tbls⟩,⟨_,hn',λ j y v' e1 e2 e3=>?_⟩,λ y c e=>?_,I.free,I.freeC,λ p hp=>?_,tracked ⟨oL,hoL,I.free⟩ hs,by simpa using I.len⟩ ⟨_,hs,.inl rfl⟩
  ·exact (hs.2 b (Cr (Cg (AS e) I.ok.above))).trans (I.base.keep b o e n hb hx)
  ·obtain ⟨sl,e1⟩:=I.base.slot b o e n hb hx;exact ⟨sl,(hs.2 b (Cr (Cg (AS e) I.ok.above))).trans e1⟩
  ·obtain ⟨o',e1⟩:=I.base.there b o e hx;exact ⟨o',(hs.2 b (Cr (Cg (AS e) I.ok.above))).trans e1⟩
  ·by_cases hj:j=i
   ·subst hj;rw [hi] at e1;cases e1;rw [DN hiσ] at e2;cases e2;exact ⟨u,r,.inl ⟨hk,by simp⟩⟩
   ·rw [CO (BY hj)] at e2;obtain ⟨u',r',q⟩:=hl j y v' e1 e2 e3;refine ⟨u',r',?_⟩;rcases q with ⟨k,e⟩ | ⟨k,c,e,z⟩
    ·refine .inl ⟨k,?_⟩
     have:y≠x:=λ e=>hj (XO hN e1 (e ▸ hi))
     simp [this,e]
    ·exact .inr ⟨k,c,e,z.sameBut hs (cne y c e)⟩
  ·obtain ⟨w',z⟩:=I.cell y c e;exact ⟨w',z.sameBut hs (cne y c e)⟩
  ·obtain ⟨e,n,ne,nf,d⟩:=I.pin p hp;exact ⟨(hs.2 p.1 ne).trans e,n,ne,nf,d⟩
 ·have hfn:X.fn x=true:=by
   rcases hf with z | z
   ·exact z
   ·rw [z] at hk;cases hk
  obtain ⟨c,hc⟩:=I.ok.has x (.inl hk);obtain ⟨w',z⟩:=I.cell x c hc;refine wpAny_storeName_cell I.ok.kind hk hc z (λ h' hc' hs=>?_);obtain ⟨oc,hoc,hocd⟩:=id z;refine h { s with heap:=h' } ⟨I.ok,I.os,I.bare,⟨λ b o e n hb hx=>?_,λ b o e n hb hx=>?_,I.base.free,λ b o e hx=>?_,I.base.tups,I.base.frzs,I.base.tbls⟩,⟨m,hn.sameBut hs (BY (cne x c hc)),λ j y v' e1 e2 e3=>?_⟩,λ y c' e=>?_,I.free,I.freeC,λ p hp=>?_,tracked ⟨oc,hoc,I.freeC x c hc⟩ hs,by simpa using I.len⟩ ⟨c,hs,.inr hc⟩
  ·exact (hs.2 b (Cr (Cg (AS e) (I.ok.cab x c hfn hc)))).trans (I.base.keep b o e n hb hx)
  ·obtain ⟨sl,e1⟩:=I.base.slot b o e n hb hx;exact ⟨sl,(hs.2 b (Cr (Cg (AS e) (I.ok.cab x c hfn hc)))).trans e1⟩
  ·obtain ⟨o',e1⟩:=I.base.there b o e hx;exact ⟨o',(hs.2 b (Cr (Cg (AS e) (I.ok.cab x c hfn hc)))).trans e1⟩
  ·by_cases hj:j=i
   ·subst hj;rw [hi] at e1;cases e1;rw [DN hiσ] at e2;cases e2;exact ⟨u,r,.inr ⟨.inl hk,c,hc,hc'⟩⟩
   ·rw [CO (BY hj)] at e2;obtain ⟨u',r',q⟩:=hl j y v' e1 e2 e3;refine ⟨u',r',?_⟩;rcases q with q | ⟨k,c',e,z'⟩
    ·exact .inl q
    ·refine .inr ⟨k,c',e,z'.sameBut hs ?_⟩;rintro rfl;exact hj (XO hN e1 (I.ok.inj _ _ _ e hc ▸ hi))
  ·by_cases hcc:c'=c
   ·subst hcc;exact ⟨_,hc'⟩
   ·obtain ⟨w2,z2⟩:=I.cell y c' e;exact ⟨w2,z2.sameBut hs hcc⟩
  ·obtain ⟨e,n,ne,nf,d⟩:=I.pin p hp;refine ⟨(hs.2 p.1 ?_).trans e,n,ne,nf,d⟩;intro q;rw [q,hoc] at e;have q':oc=p.2:=Option.some.inj e;exact d w' (by rw [<- q'];exact hocd)
def Nb {M:Model}{A:BK}{E:Ad->Ai->Prop}{i:Nat}{x:Str}{v:V}{u:Ad}{Q:Unit->Ai->Prop} (I:Inv X pins σ H s) (hN:X.N.Nodup) (hi:X.N[i]?=some x) (hx:FE X.env.scope x) (r:RelV v u)
  (h:∀ s',Inv X pins (σ.set i (some v)) H s'->Q () s') (hf:X.fn x=true\/X.env.scope.names.lookup x=some .local:=by first | exact .inl rfl | exact .inr rfl | assumption):Ak M A (storeName X.env x u) Q E s:=
 UO I hN hi hx r (λ s' I' _=>h s' I') hf
def Inv.call' {s':Ai}{ch:List Addr} (I:Inv X pins σ H s) (ho:s'.os=s.os) (u:Un (Gq X.stack) ch H H' s.heap s'.heap) (hok:HOk X.prog X.w H' s'.heap) (hg:Ho s'.gens)
  (hch:∀ b∈ch,(b∈X.ex\/X.s₀.heap.objs.size<=b)/\b≠X.env.locals/\(∀ x c,X.env.cells.lookup x=some c->c≠b)/\∀ p∈X.pn++pins,p.1≠b):Inv X pins σ H' s':=by
 obtain ⟨h',g',d',t',o'⟩:=s';have e:o'=s.os:=ho;subst e;exact I.call (g':=g') (t':=t') (d':=d') u hok hg hch
end
abbrev XK:=Ad->Option Addr->Hp->Prop
abbrev St:=List (Option V)
abbrev VK:=V->Hp->Prop
abbrev TE:=St->Hp->VK->Prop
abbrev TT:=St->Hp->(Bool->Hp->Prop)->Prop
abbrev TA:=St->Hp->(List V->Hp->Prop)->Prop
structure Ends where
 nx:St->Hp->Prop
 rt:VK
 bk:St->Hp->Prop:=λ _ _=>False
 ct:St->Hp->Prop:=λ _ _=>False
abbrev TS:=Ends->St->Hp->Prop
def EP (X:Cx) (pins:List (Addr×Obj)) (σ:St) (Q:VK) (u:Ad) (s':Ai):Prop:=∃ v H',Inv X pins σ H' s'/\RelV v u/\Q v H'
def TP (X:Cx) (pins:List (Addr×Obj)) (σ:St) (Q:Bool->Hp->Prop) (b:Bool) (s':Ai):Prop:=∃ H',Inv X pins σ H' s'/\Q b H'
def AP (X:Cx) (pins:List (Addr×Obj)) (σ:St) (Q:List V->Hp->Prop) (us:List Ad) (s':Ai):Prop:=∃ vs H',Inv X pins σ H' s'/\Vals vs us/\Q vs H'
def SP (X:Cx) (pins:List (Addr×Obj)) (D:Ends) (f:Flow) (s':Ai):Prop:=
 match f with
 | .next=>∃ σ' H',Inv X pins σ' H' s'/\D.nx σ' H'
 | .brk=>∃ σ' H',Inv X pins σ' H' s'/\D.bk σ' H'
 | .cont=>∃ σ' H',Inv X pins σ' H' s'/\D.ct σ' H'
 | .ret u=>∃ v σ' H',Inv X pins σ' H' s'/\RelV v u/\D.rt v H'
def PE (X:Cx) (e:Expr) (t:TE):Prop:=
 ∀ (pins:List (Addr×Obj)) (s:Ai) (σ:St) (H:Hp) (Q:VK),Inv X pins σ H s->t σ H Q->Ak (Ax X.prog X.w) X.A (eval e X.env) (EP X pins σ Q) X.xe s
def PT (X:Cx) (e:Expr) (t:TT):Prop:=
 ∀ (pins:List (Addr×Obj)) (s:Ai) (σ:St) (H:Hp) (Q:Bool->Hp->Prop),Inv X pins σ H s->t σ H Q->Ak (Ax X.prog X.w) X.A (isTrue e X.env (eval e X.env)) (TP X pins σ Q) X.xe s
def PW (X:Cx) (e:Expr) (t:TT):Prop:=
 ∀ (whole:Sem Ad) (pins:List (Addr×Obj)) (s:Ai) (σ:St) (H:Hp) (Q:Bool->Hp->Prop),Inv X pins σ H s->t σ H Q->Ak (Ax X.prog X.w) X.A (isTrue e X.env whole) (TP X pins σ Q) X.xe s
def PW.pt {X:Cx}{e:Expr}{t:TT} (h:PW X e t):PT X e t:=h _
def PA (X:Cx) (es:List Expr) (t:TA):Prop:=
 ∀ (pos:Pos) (pins:List (Addr×Obj)) (s:Ai) (σ:St) (H:Hp) (Q:List V->Hp->Prop),Inv X pins σ H s->t σ H Q->Ak (Ax X.prog X.w) X.A (spliced (CM pos (AE es X.env))) (AP X pins σ Q) X.xe s
def PS (X:Cx) (st:Stmt) (t:TS):Prop:=
 ∀ (pins:List (Addr×Obj)) (s:Ai) (σ:St) (H:Hp) (D:Ends),Inv X pins σ H s->t D σ H->Ak (Ax X.prog X.w) X.A (exec st X.env) (SP X pins D) X.xe s
def Eu (X:Cx) (st:List Stmt) (t:TS):Prop:=
 ∀ (pins:List (Addr×Obj)) (s:Ai) (σ:St) (H:Hp) (D:Ends),Inv X pins σ H s->t D σ H->Ak (Ax X.prog X.w) X.A (execs st X.env) (SP X pins D) X.xe s
def A4 {α:Type}{t:Sem α}{Q Q':α->Ai->Prop}{M:Model}{A:BK}{E:Ad->Ai->Prop}{s:Ai} (h:Ak M A t Q E s) (hQ:∀ a s,Q a s->Q' a s):Ak M A t Q' E s:=Hr h hQ λ _ _ x=>x
section
variable {X:Cx}
def de {a b:Expr}{ta tb:TE} (ha:PE X a ta) (hb:PE X b tb) {pins:List (Addr×Obj)}{s:Ai}{σ:St}{H:Hp}{R:V->V->Hp->Prop} (I:Inv X pins σ H s) (h:ta σ H λ x H1=>tb σ H1 λ y H2=>R x y H2)
  {α:Type}{Q:α->Ai->Prop}{f:Ad->Ad->Sem α}
  (hf:∀ v u s2 x y H2,Inv X pins σ H2 s2->RelV x v->RelV y u->R x y H2->Ak (Ax X.prog X.w) X.A (f v u) Q X.xe s2):
  Ak (Ax X.prog X.w) X.A (eval a X.env) (λ v s₁=>Ak (Ax X.prog X.w) X.A (eval b X.env) (λ u s₂=>Ak (Ax X.prog X.w) X.A (f v u) Q X.xe s₂) X.xe s₁) X.xe s:=by
 refine A4 (ha pins s σ H _ I h) λ v s1 ⟨x,H1,I1,r1,q1⟩=>?_;refine A4 (hb pins s1 σ H1 _ I1 q1) λ u s2 ⟨y,H2,I2,r2,q2⟩=>?_;exact hf v u s2 x y H2 I2 r1 r2 q2
def DE (i:Nat):TE:=λ σ H Q=>∃ v,σ[i]?=some (some v)/\Q v H
def tC (v:V):TE:=λ _ H Q=>Q v H
def zv {i:Nat}{x:Str}{pos:Pos} (hN:X.N[i]?=some x) (hv:IF X.env.scope x) (hd:(x == ("__debug__" : Str))=false:=by decide) (hcd:(x == ("__classdict__" : Str))=false:=by decide):PE X (.Name x pos) (DE i):=by
 intro pins s σ H Q I h;obtain ⟨v,e,h⟩:=h;obtain ⟨m,hn,hl⟩:=I.loc;obtain ⟨u,r,l⟩:=hl i x v hN e hv;have fin:EP X pins σ Q u s:=⟨v,H,I,r,h⟩
 rcases l with ⟨hk,hm⟩ | ⟨hk,c,hc,hcell⟩
 ·exact wpAny_Name (wpAny_loadName_local I.ok.kind hk hn hm fin) hd
 ·rcases hk with hk | hk
  ·exact wpAny_Name (wpAny_loadName_cell I.ok.kind hk hc hcell fin) hd
  ·exact wpAny_Name (wpAny_loadName_free I.ok.kind hk hc hcell fin hcd) hd
def Wh {i j pos}:PE X (.Constant (.int i) j pos) (tC (.int i)):=λ _ _ _ H _ I h=>wpAny_Constant_int ⟨.int i,H,I.tok _,⟨_,rfl⟩,h⟩
def qS {b j pos}:PE X (.Constant (.bool b) j pos) (tC (.bl b)):=λ _ _ _ H _ I h=>Constant_bool ⟨.bl b,H,I,rfl,h⟩
def zk {j pos}:PE X (.Constant .none j pos) (tC .non):=λ _ _ _ H _ I h=>Constant_none ⟨.non,H,I,rfl,h⟩
def zq {x j pos}:PE X (.Constant (.str x) j pos) (tC (.str x)):=λ _ _ _ H _ I h=>Calls.Constant_str ⟨.str x,H,I.tok _,⟨_,rfl⟩,h⟩
def Gl (X:Cx) (x:Str):Prop:=X.env.kindOf x=some .globalImplicit
def jS {E:Ad->Ai->Prop}{pins:List (Addr×Obj)}{s:Ai}{σ:St}{H:Hp}{x:Str}{u:Ad}{pos:Pos}{Q:Ad->Ai->Prop} (I:Inv X pins σ H s) (hg:Gl X x) (hm:X.mg x=some u) (h:Q u s)
  (hd:(x == ("__debug__" : Str))=false:=by decide):Ak (Ax X.prog X.w) X.A (eval (.Name x pos) X.env) Q E s:=
 Vb I.ok.kind hg (Calls.loadGlobal_global (by rw [I.ok.glob];exact I.mod.glob.keeps I.bk) hm h) hd
def GF {E:Ad->Ai->Prop}{pins:List (Addr×Obj)}{s:Ai}{σ:St}{H:Hp}{x:Str}{u:Ad}{pos:Pos}{Q:Ad->Ai->Prop} (I:Inv X pins σ H s) (hg:Gl X x) (hm:X.mg x=none) (hv:Jc x=some u) (h:Q u s)
  (hn:x ≠ "__name__" := by decide) (hd:(x == ("__debug__" : Str))=false:=by decide):Ak (Ax X.prog X.w) X.A (eval (.Name x pos) X.env) Q E s:=by
 obtain ⟨mb,h1,h2⟩:=I.mod.blt;exact Vb I.ok.kind hg (Calls.loadGlobal_builtin (by rw [I.ok.glob];exact I.mod.glob.keeps I.bk) hm (by rw [I.ok.blt];exact h1.keeps I.bk) ((h2 x hn).trans hv) h) hd
def jH {x:Str}{v:V}{u:Ad}{pos:Pos} (hg:Gl X x) (hm:X.mg x=none) (hv:Jc x=some u) (r:RelV v u) (hn:x ≠ "__name__" := by decide) (hd:(x == ("__debug__" : Str))=false:=by decide):PE X (.Name x pos) (tC v):=
 λ _ _ _ H _ I h=>GF I hg hm hv ⟨v,H,I,r,h⟩ hn hd
variable {a b:Expr}{ta tb:TE}{pos:Pos}
def PC (X:Cx) (op:E7) (a b:Expr) (t:TE):Prop:=
 ∀ (pins:List (Addr×Obj)) (s:Ai) (σ:St) (H:Hp) (Q:VK),Inv X pins σ H s->t σ H Q ->
  Ak (Ax X.prog X.w) X.A (eval a X.env) (λ v s₁=>Ak (Ax X.prog X.w) X.A (eval b X.env) (λ u s₂=>Ak (Ax X.prog X.w) X.A (CV op v u) (EP X pins σ Q) X.xe s₂) X.xe s₁) X.xe s
def HZ (b:Expr) {op:E7} (h:op≠.In) (h2:op≠.NotIn):Kh op b=false:=by
 have e1:(op == CmpOp.In)=false:=by cases op <;> first | rfl | exact absurd rfl h
 have e2:(op == CmpOp.NotIn)=false:=by cases op <;> first | rfl | exact absurd rfl h2
 cases b <;> simp [Kh,e1,e2]
def tB (t:TE):TT:=λ σ H Q=>t σ H λ x H1=>∃ c,x=.bl c/\Q c H1
def xN {e:Expr}{t:TE} (h:PE X e t) (he:∀ whole,isTrue e X.env whole=(do let v<-whole;standAt e.pos;holding [v] (truthy v)):=by intro _;rfl):PT X e (tB t):=by
 intro pins s σ H Q I hw;refine isTrue_plain (A4 (h pins s σ H _ I hw) λ v s1 ⟨x,H1,I1,r1,q1⟩=>?_) (he _);obtain ⟨d,rfl,q⟩:=q1;cases r1;exact Hu ⟨H1,I1,q⟩
variable {tA tB':TT}{BF:List Expr}
def Jk (t u:TT):TT:=λ σ H Q=>t σ H λ c H1=>if c=true then u σ H1 Q else Q false H1
def Rt (t u:TT):TT:=λ σ H Q=>t σ H λ c H1=>if c=true then Q true H1 else u σ H1 Q
def Jj (t:TT):TT:=λ σ H Q=>t σ H λ c H1=>Q (!c) H1
theorem jV (ha:PT X a tA):PW X (.BoolOp .And [a] pos) tA:=by
 intro wh pins s σ H Q I h;refine isTrue_and (A4 (ha pins s σ H Q I h) λ c s1 e=>?_);cases c with
 | true=>exact isTrue_and_nil e
 | false=>exact e
theorem xQ (ha:PT X a tA):PW X (.BoolOp .Or [a] pos) tA:=by
 intro wh pins s σ H Q I h;refine isTrue_or (A4 (ha pins s σ H Q I h) λ c s1 e=>?_);cases c with
 | false=>exact isTrue_or_nil e
 | true=>exact e
theorem xP (ha:PT X a tA) (hb:PW X (.BoolOp .And (b::BF) pos) tB'):PW X (.BoolOp .And (a::b::BF) pos) (Jk tA tB'):=by
 intro wh pins s σ H Q I h;refine isTrue_and (A4 (ha pins s σ H _ I h) λ c s1 ⟨H1,I1,q1⟩=>?_);cases c with
 | true=>exact hb wh pins s1 σ H1 Q I1 q1
 | false=>exact ⟨H1,I1,q1⟩
theorem qX (ha:PT X a tA) (hb:PW X (.BoolOp .Or (b::BF) pos) tB'):PW X (.BoolOp .Or (a::b::BF) pos) (Rt tA tB'):=by
 intro wh pins s σ H Q I h;refine isTrue_or (A4 (ha pins s σ H _ I h) λ c s1 ⟨H1,I1,q1⟩=>?_);cases c with
 | true=>exact ⟨H1,I1,q1⟩
 | false=>exact hb wh pins s1 σ H1 Q I1 q1
def xM (ha:PT X a tA):PT X (.UnaryOp .Not a pos) (Jj tA):=by
 intro pins s σ H Q I h;exact isTrue_not (ha pins s σ H (λ c H1=>Q (!c) H1) I h)
def VP (ta tb:TE):TE:=λ σ H Q=>ta σ H λ x H1=>∃ c,x=.bl c/\if c=true then tb σ H1 Q else Q (.bl false) H1
def Ly (ta tb:TE):TE:=λ σ H Q=>ta σ H λ x H1=>∃ c,x=.bl c/\if c=true then Q (.bl true) H1 else tb σ H1 Q
def VG (ta:TE):TE:=λ σ H Q=>ta σ H λ x H1=>∃ c,x=.bl c/\Q (.bl (!c)) H1
def Wu {op}{t:TE} (h:PE X a t):PE X (.BoolOp op [a] pos) t:=λ pins s σ H Q I hw=>BoolOp_one (h pins s σ H Q I hw)
theorem zj (ha:PE X a ta) (hb:PE X (.BoolOp .And (b::BF) pos) tb):PE X (.BoolOp .And (a::b::BF) pos) (VP ta tb):=by
 intro pins s σ H Q I h;refine BoolOp_and (A4 (ha pins s σ H _ I h) λ v s1 ⟨x,H1,I1,r1,q1⟩=>?_);obtain ⟨c,rfl,q1⟩:=q1;cases r1;refine Hu ?_;cases c with
 | true=>exact hb pins s1 σ H1 Q I1 q1
 | false=>exact ⟨.bl false,H1,I1,rfl,q1⟩
theorem qT (ha:PE X a ta) (hb:PE X (.BoolOp .Or (b::BF) pos) tb):PE X (.BoolOp .Or (a::b::BF) pos) (Ly ta tb):=by
 intro pins s σ H Q I h;refine BoolOp_or (A4 (ha pins s σ H _ I h) λ v s1 ⟨x,H1,I1,r1,q1⟩=>?_);obtain ⟨c,rfl,q1⟩:=q1;cases r1;refine Hu ?_;cases c with
 | false=>exact hb pins s1 σ H1 Q I1 q1
 | true=>exact ⟨.bl true,H1,I1,rfl,q1⟩
def zl (ha:PE X a ta):PE X (.UnaryOp .Not a pos) (VG ta):=by
 intro pins s σ H Q I h;refine UnaryOp_ (A4 (ha pins s σ H _ I h) λ v s1 ⟨x,H1,I1,r1,q1⟩=>?_);obtain ⟨c,rfl,q1⟩:=q1;cases r1;exact not_of (Hu ⟨.bl (!c),H1,I1,rfl,q1⟩)
def Vm (t:TT) (ta tb:TE):TE:=λ σ H Q=>t σ H λ c H1=>if c=true then ta σ H1 Q else tb σ H1 Q
theorem vV {c:Expr} (hc:PT X c tA) (ha:PE X a ta) (hb:PE X b tb):PE X (.IfExp c a b pos) (Vm tA ta tb):=by
 intro pins s σ H Q I h;refine wpAny_IfExp (A4 (hc pins s σ H _ I h) λ d s1 ⟨H1,I1,q1⟩=>?_);cases d with
 | true=>exact ha pins s1 σ H1 Q I1 q1
 | false=>exact hb pins s1 σ H1 Q I1 q1
end
def Bo (K:PySem.W.Frag) (H:Hp) (a:Addr) (xs:List V):Prop:=
 Rd H a (.lst xs) \/
  ∃ (o:Obj) (its:Array Ad) (n:Nat),K.lookup a=some o/\o.cls=.type "list" /\ o.dict=none/\o.data=.seq its n/\its.size<=Az/\Vals xs its.toList
def SqT (K:PySem.W.Frag) (H:Hp) (a:Addr) (xs:List V):Prop:=
 Rd H a (.tup xs) \/
  ∃ (o:Obj) (its:Array Ad) (n:Nat),K.lookup a=some o/\o.cls=.type "tuple" /\ o.data=.seq its n/\its.size<=Az/\Vals xs its.toList
def Ua:Ad->Option V
 | .none=>some .non
 | .bool b=>some (.bl b)
 | .int i _=>some (.int i)
 | .str x _=>some (.str x)
 | .bytes b _=>some (.byt b)
 | .float b _=>some (.flt b)
 | .ref a=>some (.ref a)
 | .type n=>some (.ty n)
 | _=>none
theorem RelV.abs {x:V}{u:Ad} (r:RelV x u):Ua u=some x:=by
 cases x with
 | non=>cases r;rfl
 | bl _=>cases r;rfl
 | int _=>obtain ⟨t,rfl⟩:=r;rfl
 | str _=>obtain ⟨t,rfl⟩:=r;rfl
 | byt _=>obtain ⟨t,rfl⟩:=r;rfl
 | flt _=>obtain ⟨t,rfl⟩:=r;rfl
 | ref _=>cases r;rfl
 | ty _=>cases r;rfl
def RelV.inj {x y:V}{u:Ad} (r:RelV x u) (q:RelV y u):x=y:=Option.some.inj (r.abs.symm.trans q.abs)
theorem Vals.inj:∀ {xs ys:List V}{us:List Ad},Vals xs us->Vals ys us->xs=ys
 | _,_,_,.nil,.nil=>rfl
 | _,_,_,.cons r t,.cons r' t'=>by rw [r.inj r',Vals.inj t t']
section
variable {X:Cx}{pins:List (Addr×Obj)}{σ:St}{H:Hp}{s:Ai}{a:Addr}{xs ys:List V}
def SqT.of {K:PySem.W.Frag} (h:H a=some (.tup xs)):SqT K H a xs:=.inl (.inl h)
def Inv.list (I:Inv X pins σ H s) (h:Bo X.K H a xs):∃ its:List Ad,Vals xs its/\PlainL s.heap a its.toArray/\xs.length<=Az:=by
 rcases h with h | ⟨o,its,n,hk,hc,hd,hs,hz,r⟩
 ·obtain ⟨z,its,n,r,e⟩:=h.ok I.hok;exact ⟨its,r,⟨_,n,e,rfl,rfl,rfl⟩,z⟩
 ·refine ⟨its.toList,r,⟨o,n,I.kIn a o hk,hc,hd,by simpa using hs⟩,?_⟩;have e:=r.length;simp only [ID] at e;omega
def Inv.tuple (I:Inv X pins σ H s) (h:SqT X.K H a xs):∃ its:List Ad,Vals xs its/\IsTup s.heap a its.toArray/\xs.length<=Az:=by
 rcases h with h | ⟨o,its,n,hk,hc,hs,hz,r⟩
 ·obtain ⟨z,its,r,p⟩:=h.ok I.hok;exact ⟨its,r,p,z⟩
 ·refine ⟨its.toList,r,⟨o,I.kIn a o hk,hc,n,by simpa using hs⟩,?_⟩;have e:=r.length;simp only [ID] at e;omega
def Inv.list_inj (I:Inv X pins σ H s) (h:Bo X.K H a xs) (h':Bo X.K H a ys):xs=ys:=by
 obtain ⟨its,r,⟨o,n,e,_,_,d⟩,_⟩:=I.list h;obtain ⟨its',r',⟨o',n',e',_,_,d'⟩,_⟩:=I.list h';rw [e] at e';cases e';rw [d] at d';injection d' with d1 _
 have:its=its':=by simpa using congrArg YR d1
 subst this;exact r.inj r'
def Inv.tuple_inj (I:Inv X pins σ H s) (h:SqT X.K H a xs) (h':SqT X.K H a ys):xs=ys:=by
 obtain ⟨its,r,⟨o,e,_,n,d⟩,_⟩:=I.tuple h;obtain ⟨its',r',⟨o',e',_,n',d'⟩,_⟩:=I.tuple h';rw [e] at e';cases e';rw [d] at d';injection d' with d1 _
 have:its=its':=by simpa using congrArg YR d1
 subst this;exact r.inj r'
end
section
variable {X:Cx}{pins:List (Addr×Obj)}{σ:St}{H:Hp}{s:Ai}{E:Ad->Ai->Prop}
end
section
variable {X:Cx}{st:Stmt}{BF:List Stmt}{t u:TS}{e:Expr}{te:TE}{pos:Pos}
def VF:TS:=λ D σ H=>D.nx σ H
def Lw (t u:TS):TS:=λ D σ H=>t { D with nx:=u D } σ H
def kF:Eu X [] VF:=λ _ _ σ H _ I h=>Nt ⟨σ,H,I,h⟩
theorem wG (h1:PS X st t) (h2:Eu X BF u):Eu X (st::BF) (Lw t u):=by
 intro pins s σ H D I h;refine wpAny_execs_cons (A4 (h1 pins s σ H { D with nx:=u D } I h) λ f s1 q=>?_);cases f with
 | next=>
  obtain ⟨σ',H',I',q⟩:=q;exact h2 pins s1 σ' H' D I' q
 | ret v=>exact q
 | brk=>exact q
 | cont=>exact q
theorem kG (h1:PS X st t):Eu X [st] t:=by
 intro pins s σ H D I h;refine wpAny_execs_cons (A4 (h1 pins s σ H D I h) λ f s1 q=>?_);cases f with
 | next=>exact Nt q
 | ret v=>exact q
 | brk=>exact q
 | cont=>exact q
def Inv.quiet {pins:List (Addr×Obj)}{σ:St}{H:Hp}{s:Ai} (I:Inv X pins σ H s):interactive X.env=false:=by simp [interactive,I.ok.kind]
def O1 (te:TE):TS:=λ D σ H=>te σ H λ _ H1=>D.nx σ H1
def SI (he:PE X e te) (hs:swapsWith e none pos.line X.env=pure false:=by rfl):PS X (.Expr e pos) (O1 te):=by
 intro pins s σ H D I h;exact wpAny_Expr_any (A4 (he pins s σ H _ I h) λ v s1 ⟨x,H1,I1,r1,q1⟩=>⟨σ,H1,I1,q1⟩) I.quiet hs
def Ji (te:TE):TS:=λ D σ H=>te σ H D.rt
def Wy (he:PE X e te):PS X (.Return (some e) pos) (Ji te):=by
 intro pins s σ H D I h;exact wpAny_Return_some (A4 (he pins s σ H _ I h) λ v s1 ⟨x,H1,I1,r1,q1⟩=>⟨x,σ,H1,I1,r1,q1⟩)
def L0 (c:TT) (t u:TS):TS:=λ D σ H=>c σ H λ b H1=>if b=true then t D σ H1 else u D σ H1
theorem qV {c:Expr}{a b:List Stmt}{tc:TT} (hc:PT X c tc) (ha:Eu X a t) (hb:Eu X b u):PS X (.If c a b pos) (L0 tc t u):=by
 intro pins s σ H D I h;refine wpAny_If (A4 (hc pins s σ H _ I h) λ d s1 ⟨H1,I1,q1⟩=>?_);cases d with
 | true=>exact ha pins s1 σ H1 D I1 q1
 | false=>exact hb pins s1 σ H1 D I1 q1
def So:TS:=λ _ _ _=>False
def XU:PS X st So:=λ _ _ _ _ _ _ h=>h.elim
end
abbrev TG:=V->St->Hp->(St->Hp->Prop)->Prop
abbrev IG:=List V->St->Hp->(St->Hp->Prop)->Prop
def PG (X:Cx) (target:Expr) (t:TG):Prop:=
 ∀ (pins:List (Addr×Obj)) (s:Ai) (σ:St) (H:Hp) (v:V) (u:Ad) (Q:St->Hp->Prop),Inv X pins σ H s->RelV v u->t v σ H Q ->
  Ak (Ax X.prog X.w) X.A (Hm target X.env u) (λ _ s'=>∃ σ' H',Inv X pins σ' H' s'/\Q σ' H') X.xe s
def KA (X:Cx) (ts:List Expr) (t:IG):Prop:=
 ∀ (pins:List (Addr×Obj)) (s:Ai) (σ:St) (H:Hp) (vs:List V) (us:List Ad) (Q:St->Hp->Prop),Inv X pins σ H s->Vals vs us->t vs σ H Q ->
  Ak (Ax X.prog X.w) X.A (assignInOrder ((E9 ts X.env).map (·.2)) us) (λ _ s'=>∃ σ' H',Inv X pins σ' H' s'/\Q σ' H') X.xe s
abbrev Ff:=V->V->V->Hp->(Hp->Prop)->Prop
def HM (X:Cx) (t:Ff):Prop:=
 ∀ (pins:List (Addr×Obj)) (s:Ai) (σ:St) (H:Hp) (o i v:V) (ov iv u:Ad) (Q:Hp->Prop),Inv X pins σ H s->RelV o ov->RelV i iv->RelV v u->t o i v H Q ->
  Ak (Ax X.prog X.w) X.A (setItem ov iv u) (λ _ s'=>∃ H',Inv X pins σ H' s'/\Q H') X.xe s
abbrev Pp:=V->V->Hp->VK->Prop
def Pr (X:Cx) (op:Io) (t:Pp):Prop:=
 ∀ (pins:List (Addr×Obj)) (s:Ai) (σ:St) (H:Hp) (x y:V) (v u:Ad) (Q:VK),Inv X pins σ H s->RelV x v->RelV y u->t x y H Q ->
  Ak (Ax X.prog X.w) X.A (inplaceOp op v u) (EP X pins σ Q) X.xe s
section
variable {X:Cx}{pos:Pos}
def Fq (i:Nat):TG:=λ v σ H Q=>Q (σ.set i (some v)) H
def Lb {i:Nat}{x:Str} (hN:X.N.Nodup) (hi:X.N[i]?=some x) (hx:FE X.env.scope x) (hf:X.fn x=true\/X.env.scope.names.lookup x=some .local:=by first | exact .inl rfl | exact .inr rfl | assumption):PG X (.Name x pos) (Fq i):=by
 intro pins s σ H v u Q I r h;exact wpAny_assign_Name (Nb I hN hi hx r (λ s' I'=>⟨_,H,I',h⟩) hf)
def Mj:IG:=λ vs σ H Q=>vs=[]/\Q σ H
def Vr (t:TG) (u:IG):IG:=λ vs σ H Q=>∃ v r,vs=v::r/\t v σ H λ σ' H'=>u r σ' H' Q
def Xb:KA X [] Mj:=by
 intro pins s σ H vs us Q I r h;obtain ⟨e,h⟩:=h;subst e;cases r;exact assignInOrder_nil ⟨σ,H,I,h⟩
theorem XT {e:Expr}{es:List Expr}{t:TG}{u:IG} (h1:PG X e t) (h2:KA X es u)
  (hs:(E9 (e::es) X.env).map (·.2)=Hm e X.env::(E9 es X.env).map (·.2):=by rfl):KA X (e::es) (Vr t u):=by
 intro pins s σ H vs us Q I r h;obtain ⟨v,vr,e1,h⟩:=h;subst e1;cases r with
 | cons r rr=>
  rw [hs];refine Rc (A4 (h1 pins s σ H _ _ _ I r h) λ _ s1 ⟨σ1,H1,I1,q1⟩=>?_);exact h2 pins s1 σ1 H1 _ _ Q I1 rr q1
def Jz (K:PySem.W.Frag) (n:Nat) (t:IG):TG:=λ v σ H Q=>∃ a xs,v=.ref a/\SqT K H a xs/\xs.length=n/\t xs σ H Q
def Se {es:List Expr}{k:Nat}{t:IG}{n:Nat} (hc:X.calm=true) (h:KA X es t)
  (hn:(E9 es X.env).length=n:=by rfl) (hst:(E9 es X.env).findIdx? (·.1)=none:=by rfl):PG X (.Tuple es k pos) (Jz X.K n t):=by
 intro pins s σ H v u Q I r hw;obtain ⟨a,xs,e1,hq,hl,hw⟩:=hw;subst e1;cases r;obtain ⟨its,rv,ht,hz⟩:=I.tuple hq;refine assign_Tuple_tuple (I.ok.hd hc) ht (by simp [hn,<- hl,rv.length]) hst λ h' hx=>?_;have I1:Inv X pins σ H { s with heap:=h' }:=I.kept (t':=s.toks) λ b o e=>hx b o (Cr (AS e)) e;exact h pins _ σ H xs _ Q I1 (by simpa using rv) hw
def Mi (to ti:TE) (t:Ff):TG:=λ v σ H Q=>to σ H λ o H1=>ti σ H1 λ i H2=>t o i v H2 λ H3=>Q σ H3
def xF {o i:Expr}{to ti:TE}{t:Ff} (ho:PE X o to) (hi:PE X i ti) (hs:HM X t)
  (ha:∀ v,Hm (.Subscript o i pos) X.env v=(do
   let ov<-holding [v] (eval o X.env);let iv<-holding [v,ov] (eval i X.env)
   standAt pos
   holding [v,ov,iv] (setItem ov iv v)
   release [v,ov,iv] []):=by intro _;rfl):PG X (.Subscript o i pos) (Mi to ti t):=by
 intro pins s σ H v u Q I r h;rw [ha];refine Ah (Jd (A4 (ho pins s σ H _ I h) λ ov s1 ⟨x,H1,I1,r1,q1⟩=>?_));refine Ah (Jd (A4 (hi pins s1 σ H1 _ I1 q1) λ iv s2 ⟨y,H2,I2,r2,q2⟩=>?_));refine Ah (Nm (Ah (Jd (A4 (hs pins s2 σ H2 x y v ov iv u _ I2 r1 r2 r q2) λ _ s3 ⟨H3,I3,q3⟩=>?_))));exact wpAny_release ⟨σ,H3,I3,q3⟩
def ES (te:TE) (g:TG):TS:=λ D σ H=>te σ H λ x H1=>g x σ H1 D.nx
def Ww {tg e:Expr}{te:TE}{g:TG} (he:PE X e te) (hg:PG X tg g) (hs:swapsWithSole [tg] e pos.line X.env=pure false:=by rfl) (hw:Nk [tg] e X.env=pure none:=by rfl)
  (h1:(E9 [tg] X.env).map (·.2)=[Hm tg X.env]:=by rfl):PS X (.Assign [tg] e pos) (ES te g):=by
 intro pins s σ H D I h;refine wpAny_Assign_stores (A4 (he pins s σ H _ I h) λ v s1 ⟨x,H1,I1,r1,q1⟩=>?_) hs hw;rw [h1];exact A4 (hg pins s1 σ H1 x v _ I1 r1 q1) λ _ s2 q=>q
def Wz {i:Nat}{x:Str}{e:Expr}{te:TE}{pos':Pos} (hN:X.N.Nodup) (hi:X.N[i]?=some x) (hx:FE X.env.scope x) (he:PE X e te) (hs:swapsWith e (some (.Name x pos')) pos.line X.env=pure false:=by rfl) (hf:X.fn x=true\/X.env.scope.names.lookup x=some .local:=by first | exact .inl rfl | exact .inr rfl | assumption):
  PS X (.Assign [.Name x pos'] e pos) (ES te (Fq i)):=by
 intro pins s σ H D I h;refine wpAny_Assign_Name (A4 (he pins s σ H _ I h) λ v s1 ⟨y,H1,I1,r1,q1⟩=>?_) hs;exact Nb I1 hN hi hx r1 (λ s2 I2=>⟨_,H1,I2,q1⟩) hf
def Lx (i j:Nat) (ta:TA):TS:=λ D σ H=>ta σ H λ vs H1=>∃ v w,vs=[v,w]/\D.nx ((σ.set i (some v)).set j (some w)) H1
def xI {i j:Nat}{x y:Str}{a b:Expr}{ta:TA}{px py pt:Pos}{kt k2 pt2} (hc:X.calm=true) (hN:X.N.Nodup) (hi:X.N[i]?=some x) (hj:X.N[j]?=some y) (hij:i≠j)
  (hx:X.env.scope.names.lookup x=some .local) (hy:X.env.scope.names.lookup y=some .local) (ha:PA X [a,b] ta)
  (hw:Nk [.Tuple [.Name x px,.Name y py] kt pt] (.Tuple [a,b] k2 pt2) X.env=pure (some [x,y]))
  (hs:swapsWithSole [.Tuple [.Name x px,.Name y py] kt pt] (.Tuple [a,b] k2 pt2) pos.line X.env=pure false:=by rfl):
  PS X (.Assign [.Tuple [.Name x px,.Name y py] kt pt] (.Tuple [a,b] k2 pt2) pos) (Lx i j ta):=by
 intro pins s σ H D I h;rw [exec_Assign_arm];refine Ah (Nm ?_);rw [hs];refine Ah (Aq ?_);rw [if_neg (by decide)];refine Ah (Tuple_ (A4 (ha _ pins s σ H _ I h) λ us s1 ⟨vs,H1,I1,r1,q1⟩=>?_));obtain ⟨v,w,e1,q1⟩:=q1;subst e1;obtain ⟨u1,u2,rfl,rv,rw'⟩:∃ u1 u2,us=[u1,u2]/\RelV v u1/\RelV w u2:=by
  cases r1 with
  | cons p q=>
   cases q with
   | cons p' q'=>
    cases q';exact ⟨_,_,rfl,p,p'⟩
 refine El ?_ (by show 2<=Az;decide);have I2:Inv X pins σ H1 { s1 with heap:=s1.heap.push { cls:=.type "tuple",data:=.seq [u1,u2].toArray } }:=I1.kept (t':=s1.toks) λ b o e=>Bj _ e;rw [hw];refine Ah (Aq ?_);show Ak (Ax X.prog X.w) X.A (do rule "assign.swapped-stores";let items<-unpackItems (.ref s1.heap.objs.size) 2 none;assignInOrder [λ v=>bindName X.env y v,λ v=>bindName X.env x v] items.reverse;pure Flow.next) _ _ _;refine Ah (wpAny_rule (Ah (unpackItems_tuple (items:=#[u1,u2]) (I.ok.hd hc) (IsTup.new s1.heap _) λ h' hx'=>?_)));have I3:=I2.kept (h':=h') (t':=s1.toks) λ b o e=>hx' b o (Cr (AS e)) e;show Ak _ _ (assignInOrder [λ v=>bindName X.env y v,λ v=>bindName X.env x v] [u2,u1] >>= λ _=>pure Flow.next) _ _ _;refine Ah (Rc (wpAny_bindName (Nb I3 hN hj (.inl hy) rw' (λ s2 I4=>?_) (.inr hy))));refine Rc (wpAny_bindName (Nb I4 hN hi (.inl hx) rv (λ s3 I5=>assignInOrder_nil (Aq ?_)) (.inr hx)));rw [List.set_comm _ _ (BY hij)] at I5;exact ⟨_,H1,I5,q1⟩
def VQ (to ti te:TE) (tget:V->V->Hp->VK->Prop) (tip:Pp) (tset:Ff):TS:=λ D σ H=>to σ H λ o H1=>ti σ H1 λ i H2=>tget o i H2 λ x H3=>te σ H3 λ y H4=>tip x y H4 λ z H5=>tset o i z H5 λ H6=>D.nx σ H6
def Mn (X:Cx) (t:V->V->Hp->VK->Prop):Prop:=
 ∀ (pins:List (Addr×Obj)) (s:Ai) (σ:St) (H:Hp) (o i:V) (ov iv:Ad) (Q:VK),Inv X pins σ H s->RelV o ov->RelV i iv->t o i H Q ->
  Ak (Ax X.prog X.w) X.A (IX ov iv) (EP X pins σ Q) X.xe s
def kE {o i e:Expr}{to ti te:TE}{tget:V->V->Hp->VK->Prop}{tip:Pp}{tset:Ff}{op:Io}{tpos:Pos} (ho:PE X o to) (hi:PE X i ti) (hg:Mn X tget) (he:PE X e te) (hp:Pr X op tip) (hs:HM X tset)
  (ha:∀ ov iv new,augStore i ov iv new=(do holding [new,ov,iv] (setItem ov iv new);release [new,ov,iv] [];pure .next):=by intros;rfl):PS X (.AugAssign (.Subscript o i tpos) op e pos) (VQ to ti te tget tip tset):=by
 intro pins s σ H D I h;refine wpAny_AugAssign_SubscriptAny (A4 (ho pins s σ H _ I h) λ ov s1 ⟨x1,H1,I1,r1,q1⟩=>?_) ha;refine A4 (hi pins s1 σ H1 _ I1 q1) λ iv s2 ⟨x2,H2,I2,r2,q2⟩=>?_;refine A4 (hg pins s2 σ H2 x1 x2 ov iv _ I2 r1 r2 q2) λ old s3 ⟨x3,H3,I3,r3,q3⟩=>?_;refine A4 (he pins s3 σ H3 _ I3 q3) λ v s4 ⟨x4,H4,I4,r4,q4⟩=>?_;refine A4 (hp pins s4 σ H4 x3 x4 old v _ I4 r3 r4 q4) λ new s5 ⟨x5,H5,I5,r5,q5⟩=>?_;exact A4 (hs pins s5 σ H5 x1 x2 x5 ov iv new _ I5 r1 r2 r5 q5) λ _ s6 ⟨H6,I6,q6⟩=>⟨σ,H6,I6,q6⟩
def Pd (f:Int->Int->Int):Pp:=λ x y H Q=>∃ i j,x=.int i/\y=.int j/\Q (.int (f i j)) H
def x9:Pr X .Add (Pd λ i j=>i + j):=by
 intro pins s σ H x y v u Q I r1 r2 h;obtain ⟨i,j,e1,e2,q⟩:=h;subst e1;subst e2;obtain ⟨t,rfl⟩:=r1;obtain ⟨t',rfl⟩:=r2;exact iadd_int ⟨.int _,H,I.tok _,⟨_,rfl⟩,q⟩
def xA:Pr X .Sub (Pd λ i j=>i - j):=by
 intro pins s σ H x y v u Q I r1 r2 h;obtain ⟨i,j,e1,e2,q⟩:=h;subst e1;subst e2;obtain ⟨t,rfl⟩:=r1;obtain ⟨t',rfl⟩:=r2;exact isub_int ⟨.int _,H,I.tok _,⟨_,rfl⟩,q⟩
end
section
variable {X:Cx}{pos:Pos}
def Wm (c:TT) (tb:TS):TS:=λ D σ H=>∃ W:Nat->St->Hp->Prop,(∃ m,W m σ H)/\∀ m σ H,W m σ H ->
 c σ H λ b H1=>if b=true then ∃ N:St->Hp->Prop,(∀ σ' H',N σ' H'->∃ m',m' < m/\W m' σ' H')/\tb { D with nx:=N,ct:=N,bk:=D.nx } σ H1 else D.nx σ H1
theorem vY {c:Expr}{body:List Stmt}{tc:TT}{tb:TS} (hp:Lo (Ax X.prog X.w) X.A X.env X.xe) (hc:PT X c tc) (hb:Eu X body tb):PS X (.While c body [] pos) (Wm tc tb):=by
 intro pins s σ H D I h;obtain ⟨W,⟨m0,w0⟩,turn⟩:=h;refine wpAny_While (codeAny_whileLoop (λ n s'=>∃ σ' H',Inv X pins σ' H' s'/\W n σ' H') ?_ m0 ⟨σ,H,I,w0⟩);rintro n s1 ⟨σ1,H1,I1,w1⟩;refine Jf hp (A4 (hc pins s1 σ1 H1 _ I1 (turn n σ1 H1 w1)) λ b s2 ⟨H2,I2,q2⟩=>?_);cases b with
 | true=>
  obtain ⟨N,hN,q2⟩:=q2;rw [if_pos rfl];refine Jf hp (A4 (hb pins s2 σ1 H2 _ I2 q2) λ f s3 q3=>?_);cases f with
  | next=>
   obtain ⟨σ3,H3,I3,n3⟩:=q3;obtain ⟨m',hm,w3⟩:=hN σ3 H3 n3;exact ⟨m',hm,σ3,H3,I3,w3⟩
  | cont=>
   obtain ⟨σ3,H3,I3,n3⟩:=q3;obtain ⟨m',hm,w3⟩:=hN σ3 H3 n3;exact ⟨m',hm,σ3,H3,I3,w3⟩
  | brk=>exact q3
  | ret v=>exact q3
 | false=>
  rw [if_neg Cs];exact Nt ⟨σ1,H2,I2,q2⟩
end
structure It where
 go:Nat->Hp->Prop
 yld:Nat->Hp->V->Hp->Prop
 stop:Nat->Hp->Prop
def Ct (X:Cx) (pins:List (Addr×Obj)) (H:Hp) (b:Addr):Prop:=
 H b=none/\b≠X.env.locals/\b∉X.fs/\(b∈X.ex\/X.s₀.heap.objs.size<=b)/\(∀ x c,X.env.cells.lookup x=some c->c≠b)/\∀ p∈X.pn++pins,p.1≠b
def Inv.fpOk {X:Cx}{pins:List (Addr×Obj)}{σ:St}{H H':Hp}{s:Ai}{b:Addr} (I:Inv X pins σ H s) (hb:s.heap.objs.size<=b) (hn:H' b=none):Ct X pins H' b:=by
 refine ⟨hn,EC (Cg I.lt hb),I.nofs hb,.inr (BZ I.sz hb),λ x c e z=>?_,λ p hp z=>?_⟩
 ·obtain ⟨v,q⟩:=I.cell x c e;exact absurd (Cg q.lt (by rw [z];exact hb)) (DM _)
 ·exact absurd (Cg (AS (I.pin p hp).1) (by rw [z];exact hb)) (DM _)
structure Turn (P:A8) (w:A7) (K:PySem.W.Frag) (tg:Expr) (J:It) (fp:List Addr) (it:Addr) (tn:Nat->Heap->Prop):Prop where
 mem:it∈fp
 obj:∀ i h,tn i h->∀ b∈fp,∃ o,h.get? b=some o/\∀ v,o.data≠.cell v
 keep:∀ i h h',tn i h->(∀ b∈fp,∀ o,h.get? b=some o->h'.get? b=some o)->tn i h'
 item:∀ (X:Cx),X.prog=P->X.w=w->X.K=K->X.calm=true->∀ (i:Nat) (pins:List (Addr×Obj)) (s:Ai) (σ:St) (H:Hp) (E:Ad->Ai->Prop),Inv X pins σ H s->(∀ b∈fp,Ct X pins H b)->tn i s.heap->J.go i H ->
  Ak (Ax P w) X.A (Ei (.ref it)) (λ r s1=>∃ u,r=some u /\
   Ak (Ax P w) X.A (Nq tg (.ref it) u) (λ _ s2=>∃ x H',Inv X pins σ H' s2/\RelV x u/\J.yld i H x H'/\tn (i + 1) s2.heap/\∀ b∈fp,H' b=none) E s1) E s
 done:∀ (X:Cx),X.prog=P->X.w=w->X.K=K->X.calm=true->∀ (i:Nat) (pins:List (Addr×Obj)) (s:Ai) (σ:St) (H:Hp) (E:Ad->Ai->Prop),Inv X pins σ H s->(∀ b∈fp,Ct X pins H b)->tn i s.heap->J.stop i H ->
  Ak (Ax P w) X.A (Ei (.ref it)) (λ r s1=>r=none/\Inv X pins σ H s1) E s
 self:∀ (A:BK) (i:Nat) (s:Ai) (Q:Ad->Ai->Prop) (E:Ad->Ai->Prop),tn i s.heap->Q (.ref it) s->Ak (Ax P w) A (pyIter (.ref it)) Q E s
abbrev TI:=St->Hp->(It->Hp->Prop)->Prop
def Uc (X:Cx) (pins:List (Addr×Obj)) (σ:St) (tg:Expr) (R:It->Hp->Prop) (itv:Ad) (s2:Ai):Prop:=
 ∃ (it:Addr) (fp:List Addr) (tn:Nat->Heap->Prop) (J:It) (H':Hp),itv=.ref it/\Inv X pins σ H' s2/\Turn X.prog X.w X.K tg J fp it tn/\tn 0 s2.heap/\(∀ b∈fp,Ct X pins H' b)/\R J H'
def PI (X:Cx) (tg iter:Expr) (wi:TI):Prop:=
 ∀ (pins:List (Addr×Obj)) (s:Ai) (σ:St) (H:Hp) (R:It->Hp->Prop),Inv X pins σ H s->wi σ H R ->
  Ak (Ax X.prog X.w) X.A (eval iter X.env) (λ v s1=>Ak (Ax X.prog X.w) X.A (pyIter v) (Uc X pins σ tg R) X.xe s1) X.xe s
def Jo {M:Model}{A:BK}{E:Ad->Ai->Prop}{s:Ai}{tg:Expr}{it:Addr}{u:Ad}{o:Obj}{n:String}{vs:Array Ad}{Q:Unit->Ai->Prop} (ho:s.heap.get? it=some o) (hc:o.cls=.type n) (hd:o.data=.fields vs)
  (hn:["enumerate","zip","dict_itemiterator","dict_reverseitemiterator","odict_iterator","itertools.zip_longest","itertools.pairwise"].contains n=false) (hQ:Q () s):Ak M A (Nq tg (.ref it) u) Q E s:=by
 unfold Nq;cases tg <;> first
  | exact Aq hQ
  | (cases u <;> first
    | exact Aq hQ
    | (refine Ah (wpAny_load ho ?_);rw [hc,hd];show Ak M A (if (["enumerate","zip","dict_itemiterator","dict_reverseitemiterator","odict_iterator","itertools.zip_longest","itertools.pairwise"].contains n && vs[0]? == some (D8 _))=true then _ else _) Q E s;rw [if_neg (by intro h;rw [hn,Bool.false_and] at h;cases h)];exact Aq hQ))
def ZL (K:PySem.W.Frag) (a:Addr):It:=
 ⟨λ i H=>∃ xs x,Bo K H a xs/\xs[i]?=some x,λ i H x H'=>H'=H/\∀ xs,Bo K H a xs->xs[i]?=some x,λ i H=>∃ xs,Bo K H a xs/\xs.length<=i⟩
def ZK (K:PySem.W.Frag) (a:Addr):It:=
 ⟨λ i H=>∃ xs x,SqT K H a xs/\xs[i]?=some x,λ i H x H'=>H'=H/\∀ xs,SqT K H a xs->xs[i]?=some x,λ i H=>∃ xs,SqT K H a xs/\xs.length<=i⟩
def GO (lo:Int) (n:Nat):It:=⟨λ i _=>i < n,λ i H x H'=>H'=H/\x=.int (lo + i),λ i _=>n<=i⟩
def yL {P:A8}{w:A7}{K:PySem.W.Frag}{tg:Expr} (a it:Addr):Turn P w K tg (ZL K a) [it] it (λ i h=>h.IsListIter it a i) where
 mem:=by simp
 obj:=λ i h st b hb=>by
  have e:b=it:=by simpa using hb
  subst e;obtain ⟨o,e,c,d⟩:=st;exact ⟨o,e,λ v z=>by rw [d] at z;cases z⟩
 keep:=λ i h h' st k=>st.at λ o e=>k it (by simp) o e
 item:=by
  intro X hP hw hK hc i pins s σ H E I hf st hg;subst hP hw hK;obtain ⟨xs,x,hq,hx⟩:=hg;obtain ⟨its,rv,p,hz⟩:=I.list hq;obtain ⟨u,hu,ru⟩:=rv.get hx;obtain ⟨f0,f1,f2,f3,f4,f5⟩:=hf it (by simp);refine wpAny_pyNext_list_item st p.isList (x:=u) (by simpa using hu) λ h' st' sb=>?_;have I1:Inv X pins σ H { s with heap:=h' }:=I.turned (t':=s.toks) (λ b o hb e=>(sb.2 b hb).trans e) f0 f1 f3 f4 f5;obtain ⟨o,e,c,d⟩:=id st';exact ⟨u,rfl,Jo (s:={ s with heap:=h' }) e c d (by decide) ⟨x,H,I1,ru,⟨rfl,λ ys hy=>by rw [I.list_inj hy hq];exact hx⟩,st',λ b hb=>(hf b hb).1⟩⟩
 done:=by
  intro X hP hw hK hc i pins s σ H E I hf st hg;subst hP hw hK;obtain ⟨xs,hq,hx⟩:=hg;obtain ⟨its,rv,p,hz⟩:=I.list hq;obtain ⟨f0,f1,f2,f3,f4,f5⟩:=hf it (by simp);have hl:=rv.length;exact wpAny_pyNext_list_end (I.ok.hd hc) st p.isList (by simp;omega) λ h' eb=>⟨rfl,I.turned (t':=s.toks) (λ b o hb e=>eb b o hb e) f0 f1 f3 f4 f5⟩
 self:=λ _ _ _ _ _ st h=>wpAny_pyIter_listiter st h
def ub {P:A8}{w:A7}{K:PySem.W.Frag}{tg:Expr} (a it:Addr):Turn P w K tg (ZK K a) [it] it (λ i h=>h.IsTupleIter it a i) where
 mem:=by simp
 obj:=λ i h st b hb=>by
  have e:b=it:=by simpa using hb
  subst e;obtain ⟨o,e,c,d⟩:=st;exact ⟨o,e,λ v z=>by rw [d] at z;cases z⟩
 keep:=λ i h h' st k=>st.at λ o e=>k it (by simp) o e
 item:=by
  intro X hP hw hK hc i pins s σ H E I hf st hg;subst hP hw hK;obtain ⟨xs,x,hq,hx⟩:=hg;obtain ⟨its,rv,p,hz⟩:=I.tuple hq;obtain ⟨u,hu,ru⟩:=rv.get hx;obtain ⟨f0,f1,f2,f3,f4,f5⟩:=hf it (by simp);refine wpAny_pyNext_tuple_item st (show s.heap.IsTuple a its.toArray from p) (x:=u) (by simpa using hu) λ h' st' sb=>?_;have I1:Inv X pins σ H { s with heap:=h' }:=I.turned (t':=s.toks) (λ b o hb e=>(sb.2 b hb).trans e) f0 f1 f3 f4 f5;obtain ⟨o,e,c,d⟩:=id st';exact ⟨u,rfl,Jo (s:={ s with heap:=h' }) e c d (by decide) ⟨x,H,I1,ru,⟨rfl,λ ys hy=>by rw [I.tuple_inj hy hq];exact hx⟩,st',λ b hb=>(hf b hb).1⟩⟩
 done:=by
  intro X hP hw hK hc i pins s σ H E I hf st hg;subst hP hw hK;obtain ⟨xs,hq,hx⟩:=hg;obtain ⟨its,rv,p,hz⟩:=I.tuple hq;obtain ⟨f0,f1,f2,f3,f4,f5⟩:=hf it (by simp);have hl:=rv.length;exact wpAny_pyNext_tuple_end (I.ok.hd hc) st (show s.heap.IsTuple a its.toArray from p) (by simp;omega) λ h' eb=>⟨rfl,I.turned (t':=s.toks) (λ b o hb e=>eb b o hb e) f0 f1 f3 f4 f5⟩
 self:=λ _ _ _ _ _ st h=>wpAny_pyIter_tupleiter st h
def ua {P:A8}{w:A7}{K:PySem.W.Frag}{tg:Expr} (it:Addr) (lo:Int) (n:Nat):Turn P w K tg (GO lo n) [it] it (λ i h=>Ng h it (lo + (i:Nat) * 1) ((n:Int) - (i:Nat)) 1) where
 mem:=by simp
 obj:=λ i h st b hb=>by
  have e:b=it:=by simpa using hb
  subst e;exact ⟨_,st,λ v z=>by
   have z':Data.fields _=Data.cell v:=z;cases z'⟩
 keep:=λ i h h' st k=>k it (by simp) _ st
 item:=by
  intro X hP hw hK hc i pins s σ H E I hf st hg;subst hP hw hK;obtain ⟨f0,f1,f2,f3,f4,f5⟩:=hf it (by simp);have W:=Walks.range (prog:=X.prog) (w:=X.w) (I.ok.hd hc) it lo 1 n;refine W.item i s _ _ hg st λ v h' tk hv st' kk=>?_;obtain ⟨t,rfl⟩:=hv;have I1:Inv X pins σ H { s with heap:=h',toks:=tk }:=I.turned (λ b o hb e=>kk b o (by simpa using hb) e) f0 f1 f3 f4 f5;refine ⟨_,rfl,Jo (s:={ s with heap:=h',toks:=tk }) (n := "range_iterator") st' rfl rfl (by decide) ⟨.int (lo + i),H,I1,⟨t,?_⟩,⟨rfl,rfl⟩,st',λ b hb=>(hf b hb).1⟩⟩;rw [Int.mul_one]
 done:=by
  intro X hP hw hK hc i pins s σ H E I hf st hg;subst hP hw hK;obtain ⟨f0,f1,f2,f3,f4,f5⟩:=hf it (by simp);exact wpAny_pyNext_range_end (I.ok.hd hc) st (by have:n<=i:=hg;omega) λ h' eb=>⟨rfl,I.turned (t':=s.toks) (λ b o hb e=>eb b o hb e) f0 f1 f3 f4 f5⟩
 self:=λ _ _ _ _ _ st h=>wpAny_pyIter_rangeiter st h
section
variable {X:Cx}{tg:Expr}
def XW {pins:List (Addr×Obj)}{σ:St}{H:Hp}{s:Ai}{R:It->Hp->Prop}{E:Ad->Ai->Prop}{lo hi:Int}{t u v:Tok}{tk:Nat} (I:Inv X pins σ H s) (h1:-(2 ^ 62)<=lo) (h2:lo < 2 ^ 62) (h3:-(2 ^ 62)<=hi) (h4:hi < 2 ^ 62)
  (q:R (GO lo (hi - lo).toNat) H):Ak (Ax X.prog X.w) X.A (pyIter (.ref s.heap.objs.size)) (Uc X pins σ tg R) E { s with heap:=s.heap.push { cls:=.type "range",data:=.fields #[.int lo t,.int hi u,.int 1 v] },toks:=tk }:=by
 refine wpAny_pyIter_range (IsRange.new ..) (small_one h1 h2 h3 h4) ?_;have I1:Inv X pins σ H { s with heap:=s.heap.push { cls:=.type "range",data:=.fields #[.int lo t,.int hi u,.int 1 v] },toks:=tk }:=I.kept λ b o e=>Bj _ e;refine ⟨(s.heap.push { cls:=.type "range",data:=.fields #[.int lo t,.int hi u,.int 1 v] }).objs.size,[(s.heap.push { cls:=.type "range",data:=.fields #[.int lo t,.int hi u,.int 1 v] }).objs.size],_,_,H,rfl,
  I1.kept (t':=tk) λ b o e=>Bj _ e,ua _ lo (hi - lo).toNat,?_,λ b hb=>?_,q⟩
 ·have e1:lo + ((0:Nat):Int) * 1=lo:=by simp
  have e2:(((hi - lo).toNat:Nat):Int) - ((0:Nat):Int)=Builtin.Range.rangeSize lo hi 1:=by rw [rangeSize_one];split <;> omega
  show Ng _ _ (lo + ((0:Nat):Int) * 1) ((((hi - lo).toNat:Nat):Int) - ((0:Nat):Int)) 1;rw [e1,e2];exact BR _ rfl
 ·have e:b=(s.heap.push { cls:=.type "range",data:=.fields #[.int lo t,.int hi u,.int 1 v] }).objs.size:=by simpa using hb
  subst e;exact I1.fpOk (AA _) (I1.hok.fresh (AA _))
def Ou (ta:TA):TI:=λ σ H R=>ta σ H λ vs H1=>∃ j:Int,vs=[.int j]/\-(2 ^ 62)<=j/\j < 2 ^ 62/\R (GO 0 j.toNat) H1
def Ov (ta:TA):TI:=λ σ H R=>ta σ H λ vs H1=>∃ i j:Int,vs=[.int i,.int j]/\(-(2 ^ 62)<=i/\i < 2 ^ 62/\-(2 ^ 62)<=j/\j < 2 ^ 62)/\R (GO i (j - i).toNat) H1
theorem y0 {a:Expr}{ta:TA}{p pos:Pos} (hg:Gl X "range") (hm:X.mg "range" = none) (ha:PA X [a] ta) (hs:AE [a] X.env=[(false,eval a X.env)]:=by rfl):PI X tg (.Call (.Name "range" p) [a] [] pos) (Ou ta):=by
 intro pins s σ H R I h;refine Call_ (GF I hg hm boot_range (Ir (A4 (ha pos pins s σ H _ I h) λ us s1 ⟨vs,H1,I1,r1,q1⟩=>?_) hs rfl));obtain ⟨j,e,q1,q2,q⟩:=q1;subst e;cases r1 with
 | cons r rr=>
  cases rr;obtain ⟨t,rfl⟩:=r;exact call_range_1 (XW I1 (by omega) (by omega) q1 q2 (by simpa using q))
theorem y3 {a b:Expr}{ta:TA}{p pos:Pos} (hg:Gl X "range") (hm:X.mg "range" = none) (ha:PA X [a,b] ta) (hs:AE [a,b] X.env=[(false,eval a X.env),(false,eval b X.env)]:=by rfl) (hs2:AE [b] X.env=[(false,eval b X.env)]:=by rfl):
  PI X tg (.Call (.Name "range" p) [a,b] [] pos) (Ov ta):=by
 intro pins s σ H R I h;refine Call_ (GF I hg hm boot_range (Ir (A4 (ha pos pins s σ H _ I h) λ us s1 ⟨vs,H1,I1,r1,q1⟩=>?_) (by rw [hs,hs2]) (by rw [hs2];rfl)));obtain ⟨i,j,e,⟨q1,q2,q3,q4⟩,q⟩:=q1;subst e;cases r1 with
 | cons r rr=>
  cases rr with
  | cons r' rr=>
   cases rr;obtain ⟨t,rfl⟩:=r;obtain ⟨t',rfl⟩:=r';exact call_range_2 (XW I1 q1 q2 q3 q4 q)
def Dr (wi:TI) (g:TG) (tb:TS):TS:=λ D σ H=>wi σ H λ J H1=>∃ W:Nat->Nat->St->Hp->Prop,(∃ m,W 0 m σ H1)/\∀ i m σ H,W i m σ H ->
 (J.stop i H/\D.nx σ H)\/(J.go i H/\∃ N:St->Hp->Prop,(∀ σ' H',N σ' H'->∃ m',m' < m/\W (i + 1) m' σ' H')/\∀ x H',J.yld i H x H'->g x σ H' λ σ2 H2=>tb { D with nx:=N,ct:=N,bk:=D.nx } σ2 H2)
def Ll (fp:List Addr) (h:Heap):List (Addr×Obj):=fp.filterMap λ b=>(h.get? b).map λ o=>(b,o)
def M6 {fp:List Addr}{h:Heap}{b:Addr}{o:Obj} (hb:b∈fp) (e:h.get? b=some o):(b,o)∈Ll fp h:=jq6.mpr ⟨b,hb,by rw [e];rfl⟩
theorem yG {fp:List Addr}{h:Heap}{p:Addr×Obj} (hp:p∈Ll fp h):p.1∈fp/\h.get? p.1=some p.2:=by
 obtain ⟨b,hb,e⟩:=jq6.mp hp;cases q:h.get? b with
 | none=>rw [q] at e;cases e
 | some o=>
  rw [q] at e;have e':(b,o)=p:=Option.some.inj e;subst e';exact ⟨hb,q⟩
def Inv.pinned {pins:List (Addr×Obj)}{σ:St}{H:Hp}{s:Ai}{fp:List Addr} (I:Inv X pins σ H s) (hf:∀ b∈fp,Ct X pins H b) (ho:∀ b∈fp,∃ o,s.heap.get? b=some o/\∀ v,o.data≠.cell v):Inv X (pins++Ll fp s.heap) σ H s:=
 I.pins_of λ p hp=>(jd4.mp hp).elim (λ z=>I.pin p (BX _ z)) λ z=>by
  obtain ⟨hb,e⟩:=yG z;obtain ⟨f0,f1,f2,_⟩:=hf p.1 hb;obtain ⟨o,e',d⟩:=ho p.1 hb;rw [e] at e';cases e';exact ⟨e,f0,f1,f2,d⟩
def Inv.unpinned {pins pl:List (Addr×Obj)}{σ:St}{H:Hp}{s:Ai} (I:Inv X (pins++pl) σ H s):Inv X pins σ H s:=I.pins_of λ p hp=>I.pin p (BX _ (BW _ hp))
def Fp {iter:Expr}{body:List Stmt}{wi:TI}{g:TG}{tb:TS}{pos:Pos} (hp:Lo (Ax X.prog X.w) X.A X.env X.xe) (hc:X.calm=true) (hi:PI X tg iter wi) (hg:PG X tg g) (hb:Eu X body tb)
  (hs:∀ x,Nw iter X.env x=pure x:=by intro _;rfl):PS X (.For tg iter body [] pos) (Dr wi g tb):=by
 intro pins s σ H D I h;refine wpAny_For (A4 (hi pins s σ H _ I h) λ v s1 h1=>A4 h1 λ itv s2 h2=>?_) hs;obtain ⟨it,fp,tn,J,H2,e,I2,T,st2,f2,W,⟨m0,w0⟩,turn⟩:=h2;subst e;have stat:∀ {H':Hp},(∀ b∈fp,H' b=none)->∀ b∈fp,Ct X pins H' b:=λ hn b hb=>⟨hn b hb,(f2 b hb).2⟩
 refine codeAny_forLoop_any (λ n s'=>∃ i σ' H',Inv X pins σ' H' s'/\tn i s'.heap/\(∀ b∈fp,H' b=none)/\W i n σ' H') ?_ m0 ⟨0,σ,H2,I2,st2,λ b hb=>(f2 b hb).1,w0⟩;rintro n s3 ⟨i,σ3,H3,I3,st3,fr3,w3⟩;rcases turn i n σ3 H3 w3 with ⟨stop,qn⟩ | ⟨go,N,hN,step⟩
 ·refine Jf hp (A4 (T.done X rfl rfl rfl hc i pins s3 σ3 H3 X.xe I3 (stat fr3) st3 stop) λ r s4 ⟨hr,I4⟩=>?_);subst hr;exact Nt ⟨σ3,H3,I4,qn⟩
 ·refine Jf hp (A4 (T.item X rfl rfl rfl hc i pins s3 σ3 H3 X.xe I3 (stat fr3) st3 go) λ r s4 ⟨u,hr,h4⟩=>?_);subst hr;refine Jf hp (A4 h4 λ _ s5 ⟨x,H5,I5,r5,y5,st5,fr5⟩=>?_);have I5':=I5.pinned (stat fr5) (T.obj _ _ st5);refine Jf hp (A4 (hg _ s5 σ3 H5 x u _ I5' r5 (step x H5 y5)) λ _ s6 ⟨σ6,H6,I6,q6⟩=>?_);refine Jf hp (A4 (hb _ s6 σ6 H6 _ I6 q6) λ f s7 q7=>?_);have again:∀ {σ7:St}{H7:Hp},Inv X (pins++Ll fp s5.heap) σ7 H7 s7->N σ7 H7->∃ m,m < n/\∃ i σ' H',Inv X pins σ' H' s7/\tn i s7.heap/\(∀ b∈fp,H' b=none)/\W i m σ' H':=λ {σ7 H7} I7 n7=>by
   obtain ⟨m',hm,w7⟩:=hN σ7 H7 n7;refine ⟨m',hm,i + 1,σ7,H7,I7.unpinned,T.keep _ _ _ st5 λ b hb o e=>(I7.pin (b,o) (BX _ (BX _ (M6 hb e)))).1,λ b hb=>?_,w7⟩;obtain ⟨o,e,d⟩:=T.obj _ _ st5 b hb;exact (I7.pin (b,o) (BX _ (BX _ (M6 hb e)))).2.1
  cases f with
  | next=>obtain ⟨σ7,H7,I7,n7⟩:=q7;exact again I7 n7
  | cont=>obtain ⟨σ7,H7,I7,n7⟩:=q7;exact again I7 n7
  | brk=>obtain ⟨σ7,H7,I7,q7⟩:=q7;exact ⟨σ7,H7,I7.unpinned,q7⟩
  | ret v=>obtain ⟨x7,σ7,H7,I7,r7,q7⟩:=q7;exact ⟨x7,σ7,H7,I7.unpinned,r7,q7⟩
end
abbrev R2:=V->V->Hp->VK->Prop
def OpR (X:Cx) (f:Ad->Ad->Sem Ad) (r:R2):Prop:=
 ∀ (pins:List (Addr×Obj)) (s:Ai) (σ:St) (H:Hp) (x y:V) (v u:Ad) (Q:VK),Inv X pins σ H s->RelV x v->RelV y u->r x y H Q ->
  Ak (Ax X.prog X.w) X.A (f v u) (EP X pins σ Q) X.xe s
def Ub (X:Cx) (f:Ad->Sem Ad) (r:V->Hp->VK->Prop):Prop:=
 ∀ (pins:List (Addr×Obj)) (s:Ai) (σ:St) (H:Hp) (x:V) (v:Ad) (Q:VK),Inv X pins σ H s->RelV x v->r x H Q ->
  Ak (Ax X.prog X.w) X.A (f v) (EP X pins σ Q) X.xe s
def zzw (X:Cx) (f:Ad) (r:List V->Hp->VK->Prop):Prop:=
 ∀ (pins:List (Addr×Obj)) (s:Ai) (σ:St) (H:Hp) (xs:List V) (us:List Ad) (Q:VK),Inv X pins σ H s->Vals xs us->r xs H Q ->
  Ak (Ax X.prog X.w) X.A (call f us) (EP X pins σ Q) X.xe s
def Ks (r:R2) (ta tb:TE):TE:=λ σ H Q=>ta σ H λ x H1=>tb σ H1 λ y H2=>r x y H2 Q
def Rq (r:V->Hp->VK->Prop) (ta:TE):TE:=λ σ H Q=>ta σ H λ x H1=>r x H1 Q
def rI (C:Int->Int->Prop) (g:Int->Int->V):R2:=λ x y H Q=>∃ i j,x=.int i/\y=.int j/\C i j/\Q (g i j) H
def Ft (g:Int->Int->V):R2:=λ x y H Q=>∃ i j,x=.int i/\y=.int j/\Q (g i j) H
def rU (g:Int->V):V->Hp->VK->Prop:=λ x H Q=>∃ i,x=.int i/\Q (g i) H
section
variable {X:Cx}{a b c:Expr}{ta tb tc:TE}{pos:Pos}
def J4 (ha:PE X a ta) (hb:PE X b tb) {pins:List (Addr×Obj)}{s:Ai}{σ:St}{H:Hp}{R:V->V->Hp->Prop} (I:Inv X pins σ H s)
  (h:ta σ H λ x H1=>tb σ H1 λ y H2=>R x y H2) {Q:Ad->Ai->Prop}{f:Ad->Ad->Sem Ad}
  (hf:∀ v u s2 x y H2,Inv X pins σ H2 s2->RelV x v->RelV y u->R x y H2->Ak (Ax X.prog X.w) X.A (f v u) Q X.xe s2):
  Ak (Ax X.prog X.w) X.A (eval a X.env) (λ v s₁=>Ak (Ax X.prog X.w) X.A (eval b X.env) (λ u s₂=>Ak (Ax X.prog X.w) X.A (f v u) Q X.xe s₂) X.xe s₁) X.xe s:=by
 refine A4 (ha pins s σ H _ I h) λ v s1 ⟨x,H1,I1,r1,q1⟩=>?_;refine A4 (hb pins s1 σ H1 _ I1 q1) λ u s2 ⟨y,H2,I2,r2,q2⟩=>?_;exact hf v u s2 x y H2 I2 r1 r2 q2
def RK {op:Io}{r:R2} (ho:OpR X (EN op) r) (ha:PE X a ta) (hb:PE X b tb):PE X (.BinOp a op b pos) (Ks r ta tb):=by
 intro pins s σ H Q I h;exact wpAny_BinOp (J4 ha hb I h λ v u s2 x y H2 I2 rx ry q=>ho pins s2 σ H2 x y v u Q I2 rx ry q)
def qU {op:UnaryOp}{r:V->Hp->VK->Prop} (ho:Ub X (unaryOp op) r) (ha:PE X a ta):PE X (.UnaryOp op a pos) (Rq r ta):=by
 intro pins s σ H Q I h;exact UnaryOp_ (A4 (ha pins s σ H _ I h) λ v s1 ⟨x,H1,I1,r1,q1⟩=>ho pins s1 σ H1 x v Q I1 r1 q1)
def LQ {f:Ad->Ad->Sem Ad}{C:Int->Int->Prop}{g:Int->Int->Int}
  (rule:∀ (i j:Int) (t u:Tok) (s:Ai) (Q:Ad->Ai->Prop) (E:Ad->Ai->Prop),C i j->Q (.int (g i j) s.toks) { s with toks:=s.toks + 1 }->Ak (Ax X.prog X.w) X.A (f (.int i t) (.int j u)) Q E s):
  OpR X f (rI C λ i j=>.int (g i j)):=by
 intro pins s σ H x y v u Q I rx ry h;obtain ⟨i,j,rfl,rfl,hc,q⟩:=h;obtain ⟨t,rfl⟩:=rx;obtain ⟨t',rfl⟩:=ry;exact rule i j t t' s _ _ hc ⟨.int (g i j),H,I.tok _,⟨_,rfl⟩,q⟩
def SU {f:Ad->Ad->Sem Ad}{g:Int->Int->Int}
  (rule:∀ (i j:Int) (t u:Tok) (s:Ai) (Q:Ad->Ai->Prop) (E:Ad->Ai->Prop),Q (.int (g i j) s.toks) { s with toks:=s.toks + 1 }->Ak (Ax X.prog X.w) X.A (f (.int i t) (.int j u)) Q E s):
  OpR X f (Ft λ i j=>.int (g i j)):=by
 intro pins s σ H x y v u Q I rx ry h;obtain ⟨i,j,rfl,rfl,q⟩:=h;obtain ⟨t,rfl⟩:=rx;obtain ⟨t',rfl⟩:=ry;exact rule i j t t' s _ _ ⟨.int (g i j),H,I.tok _,⟨_,rfl⟩,q⟩
def HA {f:Ad->Ad->Sem Ad}{g:Int->Int->Bool}
  (rule:∀ (i j:Int) (t u:Tok) (s:Ai) (Q:Ad->Ai->Prop) (E:Ad->Ai->Prop),Q (.bool (g i j)) s->Ak (Ax X.prog X.w) X.A (f (.int i t) (.int j u)) Q E s):
  OpR X f (Ft λ i j=>.bl (g i j)):=by
 intro pins s σ H x y v u Q I rx ry h;obtain ⟨i,j,rfl,rfl,q⟩:=h;obtain ⟨t,rfl⟩:=rx;obtain ⟨t',rfl⟩:=ry;exact rule i j t t' s _ _ ⟨.bl (g i j),H,I,rfl,q⟩
def Mv (i j:Int):Prop:=0<=j/\j<=1000000/\i.natAbs < 2 ^ 64
def CMul (i j:Int):Prop:=(-(2 ^ 64) < i/\i < 2 ^ 64)\/(-(2 ^ 64) < j/\j < 2 ^ 64)
def CMul.ok {i j:Int} (h:CMul i j):IntMulOk i j:=by
 rcases h with ⟨h1,h2⟩ | ⟨h1,h2⟩
 ·exact .of_left (intBits_le_64 h1 h2)
 ·exact .of_right (intBits_le_64 h1 h2)
def qrn:OpR X (EN .Add) (Ft λ i j=>.int (i + j)):=SU λ _ _ _ _ _ _ _ q=>add_int q
def qre:OpR X (EN .Mult) (rI CMul λ i j=>.int (i * j)):=LQ λ _ _ _ _ _ _ _ hc q=>mul_int q hc.ok
def xu:OpR X (EN .Mod) (rI (λ _ j=>0 < j) λ i j=>.int (i % j)):=LQ λ i j _ _ _ _ _ hc q=>by
 have h1:(0:Int) < j:=hc;exact mod_int' (by omega) (by rw [Int.fmod_eq_emod_of_nonneg i (by omega)];exact q)
def xx:OpR X (EN .Pow) (rI Mv λ i j=>.int (i ^ j.toNat)):=LQ λ _ _ _ _ _ _ _ hc q=>pow_int_small hc.1 hc.2.1 hc.2.2 q
def qb {f:Ad->Sem Ad}{g:Int->Int}
  (rule:∀ (i:Int) (t:Tok) (s:Ai) (Q:Ad->Ai->Prop) (E:Ad->Ai->Prop),Q (.int (g i) s.toks) { s with toks:=s.toks + 1 }->Ak (Ax X.prog X.w) X.A (f (.int i t)) Q E s):
  Ub X f (rU λ i=>.int (g i)):=by
 intro pins s σ H x v Q I rx h;obtain ⟨i,rfl,q⟩:=h;obtain ⟨t,rfl⟩:=rx;exact rule i t s _ _ ⟨.int (g i),H,I.tok _,⟨_,rfl⟩,q⟩
def zM:Ub X (unaryOp .USub) (rU λ i=>.int (-i)):=qb λ _ _ _ _ _ q=>neg_int q
end
def Ry:V->V->Bool
 | .non,.non=>true | .non,.int _=>true | .int _,.non=>true | .non,.bl _=>true | .bl _,.non=>true | .non,.str _=>true | .str _,.non=>true
 | .int _,.int _=>true | .bl _,.bl _=>true | .str _,.str _=>true | .byt _,.byt _=>true
 | .int _,.str _=>true | .str _,.int _=>true | .bl _,.str _=>true | .str _,.bl _=>true
 | _,_=>false
def qe:R2:=λ x y H Q=>Ry x y=true/\Q (.bl (decide (x=y))) H
def WG {i j:Int}:decide (V.int i=V.int j)=(i == j):=by
 rw [DY];simp
def qM {i j:Bool}:decide (V.bl i=V.bl j)=(i == j):=by
 rw [DY];simp
def jh {i j:Str}:decide (V.str i=V.str j)=(i == j):=by
 rw [DY];simp
def jg {i j:Array UInt8}:decide (V.byt i=V.byt j)=(i.toList == j.toList):=by
 rw [DY];cases i;cases j;simp
section
variable {X:Cx}{a b c:Expr}{ta tb tc:TE}{pos:Pos}
def Ea {pins:List (Addr×Obj)}{σ:St}{H:Hp}{s:Ai}{Q:VK}{k k':Bool} (I:Inv X pins σ H s) (q:Q (.bl k) H) (e:k=k'):EP X pins σ Q (.bool k') s:=by
 subst e;exact ⟨.bl k,H,I,rfl,q⟩
theorem qB:OpR X (CV .Eq) qe:=by
 intro pins s σ H x y v u Q I rx ry h;obtain ⟨hs,q⟩:=h;cases x with
 | non=>
  cases rx;cases y with
  | non=>cases ry;exact PySem.EqNone.eq_none_none (Ea I q (by simp))
  | bl j=>cases ry;exact PySem.EqNone.eq_none_bool (Ea I q (by simp))
  | int j=>obtain ⟨t',rfl⟩:=ry;exact PySem.EqNone.eq_none_int (Ea I q (by simp))
  | str j=>obtain ⟨t',rfl⟩:=ry;exact PySem.EqNone.eq_none_str (Ea I q (by simp))
  | _=>exact absurd (show false=true from hs) Cs
 | bl i=>
  cases rx;cases y with
  | non=>cases ry;exact PySem.EqNone.eq_bool_none (Ea I q (by simp))
  | bl j=>cases ry;exact eq_bool (Ea I q qM)
  | str j=>obtain ⟨t',rfl⟩:=ry;exact PySem.EqMixed.eq_bool_str (Ea I q (by simp))
  | _=>exact absurd (show false=true from hs) Cs
 | int i=>
  obtain ⟨t,rfl⟩:=rx;cases y with
  | non=>cases ry;exact PySem.EqNone.eq_int_none (Ea I q (by simp))
  | int j=>obtain ⟨t',rfl⟩:=ry;exact eq_int (Ea I q WG)
  | str j=>obtain ⟨t',rfl⟩:=ry;exact PySem.EqMixed.eq_int_str (Ea I q (by simp))
  | _=>exact absurd (show false=true from hs) Cs
 | str i=>
  obtain ⟨t,rfl⟩:=rx;cases y with
  | non=>cases ry;exact PySem.EqNone.eq_str_none (Ea I q (by simp))
  | bl j=>cases ry;exact PySem.EqMixed.eq_str_bool (Ea I q (by simp))
  | int j=>obtain ⟨t',rfl⟩:=ry;exact PySem.EqMixed.eq_str_int (Ea I q (by simp))
  | str j=>obtain ⟨t',rfl⟩:=ry;exact eq_str (Ea I q jh)
  | _=>exact absurd (show false=true from hs) Cs
 | byt i=>
  obtain ⟨t,rfl⟩:=rx;cases y with
  | byt j=>obtain ⟨t',rfl⟩:=ry;exact PySem.W.eq_bytes (Ea I q jg)
  | _=>exact absurd (show false=true from hs) Cs
 | _=>cases y <;> exact absurd (show false=true from hs) Cs
def V5:OpR X (CV .Lt) (Ft λ i j=>.bl (decide (i < j))):=HA λ _ _ _ _ _ _ _ q=>lt_int q
def V4:OpR X (CV .LtE) (Ft λ i j=>.bl (decide (i<=j))):=HA λ _ _ _ _ _ _ _ q=>le_int q
def V3:OpR X (CV .Gt) (Ft λ i j=>.bl (decide (j < i))):=HA λ _ _ _ _ _ _ _ q=>gt_int q
def V2:OpR X (CV .GtE) (Ft λ i j=>.bl (decide (j<=i))):=HA λ _ _ _ _ _ _ _ q=>ge_int q
def OpR.or {f:Ad->Ad->Sem Ad}{r r':R2} (h:OpR X f r) (h':OpR X f r'):OpR X f (λ x y H Q=>r x y H Q\/r' x y H Q):=by
 intro pins s σ H x y v u Q I rx ry q;rcases q with q | q
 ·exact h pins s σ H x y v u Q I rx ry q
 ·exact h' pins s σ H x y v u Q I rx ry q
def jI {op:E7}{r:R2} (ho:OpR X (CV op) r) (ha:PE X a ta) (hb:PE X b tb) (hm:Kh op b=false):PE X (.Compare a [op] [b] pos) (Ks r ta tb):=by
 intro pins s σ H Q I h;exact wpAny_Compare1 (J4 ha hb I h λ v u s2 x y H2 I2 rx ry q=>ho pins s2 σ H2 x y v u Q I2 rx ry q) hm
def VJ (t:TE):TT:=λ σ H Q=>t σ H λ x H'=>∃ k,x=.bl k/\Q k H'
def kH {op:E7}{r:R2} (ho:OpR X (CV op) r) (ha:PE X a ta) (hb:PE X b tb) (hm:Kh op b=false):PT X (.Compare a [op] [b] pos) (VJ (Ks r ta tb)):=by
 intro pins s σ H Q I h;refine wpAny_isTrue_Compare1 (A4 (ha pins s σ H _ I h) λ v s1 ⟨x,H1,I1,r1,q1⟩=>A4 (hb pins s1 σ H1 _ I1 q1) λ u s2 ⟨y,H2,I2,r2,q2⟩=>
  A4 (ho pins s2 σ H2 x y v u _ I2 r1 r2 q2) λ c s3 ⟨z,H3,I3,r3,k,e,q3⟩=>?_) hm
 subst e;cases r3;exact Hu ⟨H3,I3,q3⟩
def Sn (r r':R2) (ta tb tc:TE):TE:=λ σ H Q=>ta σ H λ x H1=>tb σ H1 λ y H2=>r x y H2 λ z H3=>∃ k,z=.bl k /\
 (if k=true then tc σ H3 λ w' H4=>r' y w' H4 Q else Q (.bl false) H3)
theorem vT {op op':E7}{r r':R2} (ho:OpR X (CV op) r) (ho':OpR X (CV op') r') (ha:PE X a ta) (hb:PE X b tb) (hc:PE X c tc)
  (hm:lastMarks [op,op'] [b,c]=false:=by with_unfolding_all rfl):PE X (.Compare a [op,op'] [b,c] pos) (Sn r r' ta tb tc):=by
 intro pins s σ H Q I h;refine Compare_chain (A4 (ha pins s σ H _ I h) λ v s1 ⟨x,H1,I1,r1,q1⟩=>chain_link (A4 (hb pins s1 σ H1 _ I1 q1) λ u s2 ⟨y,H2,I2,r2,q2⟩=>
  A4 (ho pins s2 σ H2 x y v u _ I2 r1 r2 q2) λ d s3 ⟨z,H3,I3,r3,k,e,q3⟩=>?_)) hm
 subst e;cases r3;refine Hu ?_;cases k with
 | false=>exact ite_ff ⟨.bl false,H3,I3,rfl,q3⟩
 | true=>exact ite_tt (chain_last (A4 (hc pins s3 σ H3 _ I3 q3) λ w' s4 ⟨z',H4,I4,r4,q4⟩=>ho' pins s4 σ H4 y z' u w' Q I4 r2 r4 q4))
theorem wH {op op':E7}{r r':R2} (ho:OpR X (CV op) r) (ho':OpR X (CV op') r') (ha:PE X a ta) (hb:PE X b tb) (hc:PE X c tc)
  (hm:lastMarks [op,op'] [b,c]=false:=by with_unfolding_all rfl):PT X (.Compare a [op,op'] [b,c] pos) (VJ (Sn r r' ta tb tc)):=by
 intro pins s σ H Q I h;refine isTrue_chain (A4 (ha pins s σ H _ I h) λ v s1 ⟨x,H1,I1,r1,q1⟩=>test_link (A4 (hb pins s1 σ H1 _ I1 q1) λ u s2 ⟨y,H2,I2,r2,q2⟩=>
  A4 (ho pins s2 σ H2 x y v u _ I2 r1 r2 q2) λ d s3 ⟨z,H3,I3,r3,k,e,q3⟩=>?_)) hm
 subst e;cases r3;refine Hu ?_;cases k with
 | false=>
  obtain ⟨k',e',q'⟩:=q3;cases e';exact ite_ff ⟨H3,I3,q'⟩
 | true=>
  refine ite_tt (test_last (A4 (hc pins s3 σ H3 _ I3 q3) λ w' s4 ⟨z',H4,I4,r4,q4⟩=>A4 (ho' pins s4 σ H4 y z' u w' _ I4 r2 r4 q4) λ d' s5 ⟨z2,H5,I5,r5,k2,e2,q5⟩=>?_));subst e2;cases r5;exact Hu ⟨H5,I5,q5⟩
def IU:(Az:Nat) < 2 ^ 63:=by rw [sizeLine_eq];decide
theorem EM {x:V}{us:List Ad} (r:Vals [x] us):∃ u,us=[u]/\RelV x u:=by
 cases r with
 | cons r1 r2=>cases r2;exact ⟨_,rfl,r1⟩
theorem RO {x y:V}{us:List Ad} (r:Vals [x,y] us):∃ u w',us=[u,w']/\RelV x u/\RelV y w':=by
 cases r with
 | cons r1 r2=>
  cases r2 with
  | cons r3 r4=>cases r4;exact ⟨_,_,rfl,r1,r3⟩
def yj (hc:X.calm=true):zzw X (.builtin "max") (λ xs H Q=>∃ i j,xs=[.int i,.int j]/\Q (.int (if j > i then j else i)) H):=by
 intro pins s σ H xs us Q I r h;obtain ⟨i,j,rfl,q⟩:=h;obtain ⟨u,w',rfl,⟨t,rfl⟩,⟨t',rfl⟩⟩:=RO r;refine max_two_ints (I.ok.hd hc) λ h' tk k=>⟨_,H,I.kept k,?_,q⟩
 by_cases hj:j > i
 ·rw [if_pos hj,if_pos hj];exact ⟨_,rfl⟩
 ·rw [if_neg hj,if_neg hj];exact ⟨_,rfl⟩
def yl (hc:X.calm=true):zzw X (.builtin "min") (λ xs H Q=>∃ i j,xs=[.int i,.int j]/\Q (.int (if j < i then j else i)) H):=by
 intro pins s σ H xs us Q I r h;obtain ⟨i,j,rfl,q⟩:=h;obtain ⟨u,w',rfl,⟨t,rfl⟩,⟨t',rfl⟩⟩:=RO r;refine min_two_ints (I.ok.hd hc) λ h' tk k=>⟨_,H,I.kept k,?_,q⟩
 by_cases hj:j < i
 ·rw [if_pos hj,if_pos hj];exact ⟨_,rfl⟩
 ·rw [if_neg hj,if_neg hj];exact ⟨_,rfl⟩
def yi:zzw X (.type "int") (λ xs H Q=>(∃ i,xs=[.int i]/\Q (.int i) H)\/∃ k,xs=[.bl k]/\Q (.int (if k then 1 else 0)) H):=by
 intro pins s σ H xs us Q I r h;rcases h with ⟨i,rfl,q⟩ | ⟨k,rfl,q⟩
 ·obtain ⟨u,rfl,t,rfl⟩:=EM r;exact call_int_int ⟨.int i,H,I,⟨_,rfl⟩,q⟩
 ·obtain ⟨u,rfl,r1⟩:=EM r;cases r1;exact call_int_bool ⟨.int (if k then 1 else 0),H,I.tok _,⟨_,rfl⟩,q⟩
end
structure ObjM (h:Heap) (x dx C:Addr) (mA:Str->Option Ad):Prop where
 obj:h.get? x=some (QD C dx)
 ns:h.Ns1 dx mA
 ne:dx≠x
def yx {h:Heap}{dx:Addr}{mA:Str->Option Ad} (n:h.Ns1 dx mA):∃ od,h.get? dx=some od/\∀ name,Q8 name od=some (mA name):=by
 obtain ⟨o,es,ep,ho,hd,hk,_,hm⟩:=n;refine ⟨o,ho,λ name=>?_⟩;have e:=hm name;unfold nsFind findBy at e;rw [<- Array.find?_toList] at e;unfold Q8;rw [hd];dsimp only;split
 ·rename_i y q;rw [q] at e;exact congrArg some e
 ·rename_i q;rw [q] at e;have a:es.toList.any (·.refKey)=false:=by
   rw [List.any_eq_false];intro y hy;obtain ⟨z,t,hkey⟩:=hk y (Array.mem_toList_iff.mp hy);simp [DictEntry.refKey,hkey]
  have a':¬ es.toList.any (·.refKey)=true:=by rw [a];exact Cs
  rw [if_neg a'];exact congrArg some e
def ObjM.look {h:Heap}{x dx C:Addr}{mA:Str->Option Ad} (I:ObjM h x dx C mA):∃ od,PySem.W.InstAt h x (QD C dx) C (some od)/\∀ name,Q8 name od=some (mA name):=
 let ⟨od,ho,hl⟩:=yx I.ns
 ⟨od,⟨I.obj,rfl,rfl,ho⟩,hl⟩
section
variable {prog:A8}{w:A7}{A:BK}{E:Ad->Ai->Prop}{s:Ai}{K:PySem.W.Frag}{x dx C f:Addr}{mA:Str->Option Ad}{name:Str}{v:Ad}
end
theorem RelO.some_of {v:V}{o:Option Ad} (r:RelO (some v) o):∃ u,o=some u/\RelV v u:=by
 cases o with
 | none=>exact (show False from r).elim
 | some u=>exact ⟨u,rfl,r⟩
section
variable {P:A8}{w:A7}{H H':Hp}{h h':Heap}{a C dx:Addr}{fs fs':List (Str×V)}
def jP (hok:HOk P w H h) (e:H a=some (.ins C dx fs)):∃ mA,ObjM h a dx C mA/\(∀ f,RelO (fs.lookup f) (mA f))/\PySem.Within mA (fs.map (·.1))/\fs.length<=1000/\H dx=some (.own a):=by
 obtain ⟨d,z,ne,ob,mA,n,r,q⟩:=(show zxr P w H h a (.ins C dx fs) from hok a _ e)
 exact ⟨mA,⟨ob,n,ne⟩,r,q,z,d⟩
end
structure Cls (K:PySem.W.Frag) (C:Addr):Prop where
 pg:PySem.W.plainGet K C Str.empty=true
 hd:PySem.W.hasDictIn K C=true
 po:PySem.W.plainOver K C=true
 sa:Lq K (.ref C) "__setattr__" = some (some (.builtin "object.__setattr__"))
def Cls.get {K:PySem.W.Frag}{C:Addr} (c:Cls K C) (f:Str):PySem.W.plainGet K C f=true:=c.pg
structure Con (K:PySem.W.Frag) (C:Addr) (f:Str) (v:V) (u:Ad):Prop where
 at_:Lq K (.ref C) f=some (some u)
 rel:RelV v u
 get:PySem.W.specialIn K u "__get__" = some none
 cp:PySem.W.copiedNames.contains f=false
structure Meth (K:PySem.W.Frag) (C:Addr) (m:Str) (f:Addr):Prop where
 at_:Lq K (.ref C) m=some (some (.ref f))
 fn:PySem.W.isFn K (.ref f)=true
 kp:Je K (.ref f)=true
section
variable {X:Cx}{pins:List (Addr×Obj)}{σ:St}{H:Hp}{s:Ai}{a C dx:Addr}{fs:List (Str×V)}{f:Str}{v:V}{A:BK}{E:Ad->Ai->Prop}
end
section
variable {X:Cx}{o e value:Expr}{f:Str}{pos pos' tpos:Pos}{ta tv:TE}
end
section
variable {X:Cx}{pins:List (Addr×Obj)}{σ:St}{H:Hp}{s:Ai}{A:BK}{E:Ad->Ai->Prop}{Q:Ad->Ai->Prop}{c:Ad}{b:Bool}
inductive TyOf (K:PySem.W.Frag) (H:Hp):V->Ad->Prop where
 | non:TyOf K H .non (.type "NoneType")
 | bl (x:Bool):TyOf K H (.bl x) (.type "bool")
 | int (i:Int):TyOf K H (.int i) (.type "int")
 | str (x:Str):TyOf K H (.str x) (.type "str")
 | flt (x:UInt64):TyOf K H (.flt x) (.type "float")
 | lst {a:Addr}{xs:List V} (e:H a=some (.lst xs)):TyOf K H (.ref a) (.type "list")
 | frz {a:Addr}{o:Obj}{xs:List V} (e:H a=some (.frz o (.lst xs))):TyOf K H (.ref a) (.type "list")
 | tup {a:Addr}{xs:List V} (e:H a=some (.tup xs)):TyOf K H (.ref a) (.type "tuple")
 | dK {a:Addr}{kvs:List (Ay×V)} (e:H a=some (.dK kvs)):TyOf K H (.ref a) (.type "dict")
 | dT {a:Addr}{kvs:List (List Ay×V)} (e:H a=some (.dT kvs)):TyOf K H (.ref a) (.type "dict")
 | ins {a C dx:Addr}{fs:List (Str×V)} (e:H a=some (.ins C dx fs)) (cl:Cls K C) (ha:Lq K (.ref C) "__class__" = some (some (.builtin "object.__class__")))
   (hn:PySem.W.specialIn K (.builtin "object.__class__") "__get__" = some (some (.builtin "getset_descriptor.__get__"))) (htk:PySem.W.takesIn K (.builtin "object.__class__")=some true)
   (hm:PySem.W.mroIn K C (.type "object")=some true):TyOf K H (.ref a) (.ref C)
theorem yr {x:V}{u t:Ad} (I:Inv X pins σ H s) (rx:RelV x u) (ty:TyOf X.K H x t) (e:Nn X.K t c=some b) (h:∀ tk,Q (.bool b) { s with toks:=tk }):
  Ak (Ax X.prog X.w) A (call (.builtin "isinstance") [u,c]) Q E s:=by
 cases ty with
 | non=>cases (show u=Value.none from rx);exact FT PySem.W.kitx_none I.kIn True.intro e (λ z=>nomatch z) h
 | bl y=>cases (show u=Value.bool y from rx);exact FT PySem.W.kitx_bool I.kIn True.intro e (λ z=>nomatch z) h
 | int i=>obtain ⟨t,q⟩:=(show ∃ t,u=Value.int i t from rx);cases q;exact FT PySem.W.kitx_int I.kIn True.intro e (λ z=>nomatch z) h
 | str y=>obtain ⟨t,q⟩:=(show ∃ t,u=Value.str y t from rx);cases q;exact FT PySem.W.kitx_str I.kIn True.intro e (λ z=>nomatch z) h
 | flt y=>obtain ⟨t,q⟩:=(show ∃ t,u=Value.float y t from rx);cases q;exact FT PySem.W.kitx_float I.kIn True.intro e (λ z=>nomatch z) h
 | @lst a xs ea=>
  cases (show u=Value.ref a from rx);obtain ⟨_,_,n,_,h1⟩:=(show zxr X.prog X.w H s.heap a (.lst xs) from I.hok a _ ea)
  exact FT PySem.W.kitx_list I.kIn ⟨_,h1,rfl⟩ e (λ z=>nomatch z) h
 | @frz a ob xs ea=>
  cases (show u=Value.ref a from rx);obtain ⟨_,_,_,n,_,h1⟩:=(show zxr X.prog X.w H s.heap a (.frz ob (.lst xs)) from I.hok a _ ea)
  exact FT PySem.W.kitx_list I.kIn ⟨_,h1,rfl⟩ e (λ z=>nomatch z) h
 | @tup a xs ea=>
  cases (show u=Value.ref a from rx);obtain ⟨_,_,_,p⟩:=(show zxr X.prog X.w H s.heap a (.tup xs) from I.hok a _ ea)
  obtain ⟨o,h1,h2,_⟩:=p;exact FT PySem.W.kitx_tuple I.kIn ⟨o,h1,h2⟩ e (λ z=>nomatch z) h
 | @dK a kvs ea=>
  cases (show u=Value.ref a from rx);obtain ⟨_,_,vs,_,p⟩:=(show zxr X.prog X.w H s.heap a (.dK kvs) from I.hok a _ ea)
  obtain ⟨o,es,ep,h1,h2,_⟩:=p;exact FT PySem.W.kitx_dict I.kIn ⟨o,h1,h2.1⟩ e (λ z=>nomatch z) h
 | @dT a kvs ea=>
  cases (show u=Value.ref a from rx);obtain ⟨_,_,xs,_,o,es,ep,h1,h2,_⟩:=(show zxr X.prog X.w H s.heap a (.dT kvs) from I.hok a _ ea)
  exact FT PySem.W.kitx_dict I.kIn ⟨o,h1,h2.1⟩ e (λ z=>nomatch z) h
 | @ins a C dx fs ea cl ha hn htk hm=>
  cases (show u=Value.ref a from rx);obtain ⟨mA,O,_⟩:=jP I.hok ea;obtain ⟨od,J,_⟩:=O.look;exact FT (PySem.W.kitx_own (cl.get _) cl.hd ha hn htk hm) I.kIn J e (λ z=>nomatch z) h
end
structure Room (k:Nat) (A:BK):Prop where
 hd:A.handled=none
 dp:A.depth + 3 * k + 5 < recursionLimit
 un:A.units + 16 * k + 200 < E8
 gd:A.guards=some []
def Room.mono {j k:Nat}{A:BK} (r:Room k A) (h:j<=k):Room j A:=⟨r.hd,by have:=r.dp;omega,by have:=r.un;omega,r.gd⟩
def Room.deeper {k:Nat}{A:BK} (r:Room (k + 1) A) (env:Env):Room k (A.deeper env):=
 ⟨r.hd,by have:=r.dp;show A.depth + 1 + 3 * k + 5 < _;omega,by have:=r.un;show A.units + 3 + 16 * k + 200 < _;omega,r.gd⟩
def Room.depth {k:Nat}{A:BK} (r:Room k A):A.depth < recursionLimit:=by have:=r.dp;omega
def Room.units {k:Nat}{A:BK} (r:Room k A):A.units + 64 < E8:=by have:=r.un;omega
def Hw:TA:=λ _ H Q=>Q [] H
def O0 (ta:TE) (tr:TA):TA:=λ σ H Q=>ta σ H λ x H1=>tr σ H1 λ xs H2=>Q (x::xs) H2
section
variable {X:Cx}{e:Expr}{es:List Expr}{te:TE}{t:TA}{pos:Pos}
def OC:PA X [] Hw:=λ _ _ _ _ H Q I h=>QR ⟨[],H,I,.nil,h⟩
def La (ha:PE X e te) (hr:PA X es t) (hs:AE (e::es) X.env=(false,eval e X.env)::AE es X.env:=by rfl):PA X (e::es) (O0 te t):=by
 intro pos pins s σ H Q I h;rw [hs];show Ak _ _ (spliced ((false,eval e X.env)::CM pos (AE es X.env))) _ _ s;refine Rb (A4 (ha pins s σ H _ I h) λ u s1 ⟨x,H1,I1,r1,q1⟩=>?_);exact A4 (hr pos pins s1 σ H1 _ I1 q1) λ us s2 ⟨xs,H2,I2,r2,q2⟩=>⟨x::xs,H2,I2,.cons r1 r2,q2⟩
def Rr (t:TA):TE:=λ σ H Q=>t σ H λ xs H1=>xs.length<=Az/\∀ p,H1 p=none->Q (.ref p) (Ao H1 p (.tup xs))
def Ru (t:TA):TE:=λ σ H Q=>t σ H λ xs H1=>xs.length<=Az/\∀ p,H1 p=none->Q (.ref p) (Ao H1 p (.lst xs))
def zu {x1} (h:PA X es t):PE X (.Tuple es x1 pos) (Rr t):=by
 intro pins s σ H Q I hq;refine wpAny_Tuple_spliced (A4 (h pos pins s σ H _ I hq) λ us s1 ⟨xs,H1,I1,r,z,q⟩=>⟨by rw [<- r.length];exact z,?_⟩);have hf:H1 s1.heap.objs.size=none:=I1.hok.fresh (AA _);refine ⟨.ref s1.heap.objs.size,Ao H1 s1.heap.objs.size (.tup xs),I1.laid (t':=s1.toks) (λ b u e=>Bj _ e) (AA _) ?_,rfl,q _ hf⟩;exact ⟨z,us,r,⟨_,BR _ rfl,rfl,_,rfl⟩⟩
def Wt (h:PA X es t):PE X (.List es pos) (Ru t):=by
 intro pins s σ H Q I hq;refine wpAny_List_spliced (A4 (h pos pins s σ H _ I hq) λ us s1 ⟨xs,H1,I1,r,z,q⟩=>⟨by rw [<- r.length];exact z,?_⟩);have hf:H1 s1.heap.objs.size=none:=I1.hok.fresh (AA _);refine ⟨.ref s1.heap.objs.size,Ao H1 s1.heap.objs.size (.lst xs),I1.laid (t':=s1.toks) (λ b u e=>Bj _ e) (AA _) ?_,rfl,q _ hf⟩;exact ⟨z,us,0,r,BR _ rfl⟩
end
abbrev Sp:=List V->Hp->VK->XK->Prop
abbrev FF:=List Env->Hp->Ai->XK->Ad->Ai->Prop
structure Env0 (P:A8) (w:A7) (K:PySem.W.Frag) (mg:Str->Option Ad) (base:Heap) (A:BK) (outer:List Env) (s:Ai) (H:Hp):Prop where
 frames:A.frames=some outer
 mod:Mod K mg base
 bs:∀ b o,base.get? b=some o->s.heap.get? b=some o/\H b=none
 bsz:base.objs.size<=s.heap.objs.size
 funs:s.heap.FunFrames base outer
 frf:∀ b∈Gq outer,H b=none
 hok:HOk P w H s.heap
 bare:Ho s.gens
def CE (outer:List Env) (P:A8) (w:A7) (H:Hp) (s:Ai) (Q:VK) (u:Ad) (s':Ai):Prop:=
 ∃ v H',s'.os=s.os/\Ho s'.gens/\Un (Gq outer) [] H H' s.heap s'.heap/\HOk P w H' s'.heap/\RelV v u/\Q v H'
def CR (CX:FF) (outer:List Env) (P:A8) (w:A7) (H:Hp) (s:Ai) (Q:VK) (E:XK) (r:Result) (s':Ai):Prop:=
 match r with
 | .ok (.ret u)=>CE outer P w H s Q u s'
 | .ok _=>False
 | .error e=>CX outer H s E e s'
structure FnOk (P:A8) (w:A7) (K:PySem.W.Frag) (mg:Str->Option Ad) (base:Heap) (CX:FF) (k:Nat) (f:Addr) (fd:CU) (ps:List Str) (sp:Sp):Prop where
 len:∀ vs H Q E,sp vs H Q E->vs.length=ps.length
 run:∀ (A:BK) (outer:List Env) (s:Ai) (H:Hp) (args:Args) (us:List Ad) (vs:List V) (Q:VK) (E:XK),Room k A->Env0 P w K mg base A outer s H->BindsTo s fd args (ps.zip us)->Vals vs us->sp vs H Q E ->
  Il (Ax P w) A (.call (.ref f) args) (CR CX outer P w H s Q E) s
def FnOk.mono {P:A8}{w:A7}{K:PySem.W.Frag}{mg:Str->Option Ad}{base:Heap}{CX:FF}{j k:Nat}{f:Addr}{fd:CU}{ps:List Str}{sp:Sp} (F:FnOk P w K mg base CX j f fd ps sp) (h:j<=k):
  FnOk P w K mg base CX k f fd ps sp:=⟨F.len,λ A outer s H args us vs Q E hr=>F.run A outer s H args us vs Q E (hr.mono h)⟩
section
variable {X:Cx}{pins:List (Addr×Obj)}{σ:St}{H:Hp}{s s':Ai}
def Inv.env0 (I:Inv X pins σ H s):Env0 X.prog X.w X.K X.mg X.base X.A X.stack s H:=
 ⟨I.ok.frames,I.ok.mod,I.bs,BZ I.ok.bsz I.sz,I.stack,I.stkFree,I.hok,I.bare⟩
def Inv.after {Q:VK}{u:Ad} (I:Inv X pins σ H s) (h:CE X.stack X.prog X.w H s Q u s'):EP X pins σ Q u s':=by
 obtain ⟨v,H',os,bare,un,hok,r,q⟩:=h;obtain ⟨hh,g,d,t,os'⟩:=s';obtain rfl:os'=s.os:=os;exact ⟨v,H',I.call (h':=hh) (g':=g) (d':=d) (t':=t) (ch:=[]) un hok bare (λ b z=>absurd z (by simp)),r,q⟩
end
def qa1 (K:PySem.W.Frag) (fd:CU) (ps:List Str) (ds:List Ad):Prop:=
 ∀ (s:Ai) (us:List Ad),K.In s.heap->(us++ds).length=ps.length->BindsTo s fd ⟨us,[]⟩ (ps.zip (us++ds))
def qa1.all {K:PySem.W.Frag}{fd:CU}{ps:List Str} (h:∀ us:List Ad,us.length=ps.length->bindArgs fd ⟨us,[]⟩=pure (ps.zip us)):qa1 K fd ps []:=λ s us _ hl=>by
 rw [GJ] at hl ⊢;exact .of_eq (h us hl)
section
variable {X:Cx}{CX:FF}{k:Nat}{f C:Addr}{fd:CU}{ps:List Str}{sp:Sp}{dvs:List V}{ds:List Ad}{E:XK}{x m:Str}{p pos apos:Pos}{e o:Expr}{es:List Expr}{ta:TE}{t:TA}
structure Mk (K:PySem.W.Frag) (C f:Addr):Prop where
 makes:PySem.W.makesIn K C=true
 init:Lq K (.ref C) "__init__" = some (some (.ref f))
 fn:PySem.W.isFn K (.ref f)=true
 kp:Je K (.ref C)=true
end
section
variable {X:Cx}{CX:FF}{k:Nat}{f C:Addr}{fd:CU}{ps ks:List Str}{sp:Sp}{E:XK}{x m:Str}{p pos apos kpos:Pos}{e o:Expr}{es:List Expr}{kws:List Keyword}{te ta:TE}{t tk:TA}{nm:Option Str}
structure KBinds (K:PySem.W.Frag) (fd:CU) (ps ks:List Str) (g:List Ad->List Ad->List Ad) (gV:List V->List V->List V):Prop where
 to:∀ (s:Ai) (us ws:List Ad),K.In s.heap->(g us ws).length=ps.length->BindsTo s fd ⟨us,ks.zip ws⟩ (ps.zip (g us ws))
 rel:∀ {vs:List V}{us:List Ad}{zs:List V}{ws:List Ad},Vals vs us->Vals zs ws->Vals (gV vs zs) (g us ws)
variable {g:List Ad->List Ad->List Ad}{gV:List V->List V->List V}
end
structure FnScope (N P:List Str) (sc:Bz):Prop where
 kind:sc.kind=.function:=by rfl
 co:sc.isCoroutine=false:=by rfl
 gen:sc.isGenerator=false:=by rfl
 nd:N.Nodup:=by decide +kernel
 pre:N.take P.length=P:=by rfl
 par:∀ x∈P,sc.names.lookup x=some .local\/sc.names.lookup x=some .cell:=by decide +kernel
 nofree:∀ y∈sc.names,y.2≠.free:=by decide +kernel
theorem Y5 {kindOf:Str->Option Dq}{x:Str}:∀ {binds:List (Str×Ad)}{m:Str->Option Ad},(∀ v,(x,v)∉binds)->bindL kindOf binds m x=m x
 | [],_,_=>rfl
 | (n,v)::r,m,h=>by
  unfold bindL;rw [Y5 λ w hw=>h w (AM _ hw)];split
  ·have:x≠n:=by rintro rfl;exact h v AL
   simp [this]
  ·rfl
theorem Y3 {kindOf:Str->Option Dq}{x:Str}:∀ {binds:List (Str×Ad)}{m:Str->Option Ad},(∀ v,(x,v)∉binds)->bindC kindOf binds m x=m x
 | [],_,_=>rfl
 | (n,v)::r,m,h=>by
  unfold bindC;rw [Y3 λ w hw=>h w (AM _ hw)];split
  ·rfl
  ·have:x≠n:=by rintro rfl;exact h v AL
   simp [this]
theorem Y4 {kindOf:Str->Option Dq}{x:Str}{v:Ad}:∀ {P:List Str}{vs:List Ad}{i:Nat}{m:Str->Option Ad},P.Nodup->P[i]?=some x->vs[i]?=some v->kindOf x=some .local ->
  bindL kindOf (P.zip vs) m x=some v
 | [],_,_,_,_,h,_,_=>by simp at h
 | _::_,[],_,_,_,_,h,_=>by simp at h
 | p::P,w::vs,0,m,nd,h1,h2,hk=>by
  simp at h1 h2;subst h1;subst h2;show bindL kindOf ((p,w)::P.zip vs) m p=_;unfold bindL;rw [Y5 λ v hv=>(ji6.mp nd).1 (K3 hv).1,if_pos hk];simp
 | p::P,w::vs,i + 1,m,nd,h1,h2,hk=>by
  show bindL kindOf ((p,w)::P.zip vs) m x=_;unfold bindL;exact Y4 (i:=i) (ji6.mp nd).2 (by simpa using h1) (by simpa using h2) hk
theorem Y2 {kindOf:Str->Option Dq}{x:Str}{v:Ad}:∀ {P:List Str}{vs:List Ad}{i:Nat}{m:Str->Option Ad},P.Nodup->P[i]?=some x->vs[i]?=some v->kindOf x≠some .local ->
  bindC kindOf (P.zip vs) m x=some v
 | [],_,_,_,_,h,_,_=>by simp at h
 | _::_,[],_,_,_,_,h,_=>by simp at h
 | p::P,w::vs,0,m,nd,h1,h2,hk=>by
  simp at h1 h2;subst h1;subst h2;show bindC kindOf ((p,w)::P.zip vs) m p=_;unfold bindC;rw [Y3 λ v hv=>(ji6.mp nd).1 (K3 hv).1,if_neg hk];simp
 | p::P,w::vs,i + 1,m,nd,h1,h2,hk=>by
  show bindC kindOf ((p,w)::P.zip vs) m x=_;unfold bindC;exact Y2 (i:=i) (ji6.mp nd).2 (by simpa using h1) (by simpa using h2) hk
def start (N:List Str) (vs:List V):St:=vs.map some++AK (N.length - vs.length) none
def CJ (CX:FF) (P:A8) (w:A7) (K:PySem.W.Frag) (mg:Str->Option Ad) (base:Heap) (N:List Str) (qual:Str) (scope:Bz) (f:Addr) (cd:Ad) (A:BK) (outer:List Env) (s:Ai) (H:Hp) (E:XK):Cx where
 prog:=P
 w:=w
 K:=K
 mg:=mg
 base:=base
 A:=A.deeper (Hn qual scope s.heap.objs.size f cd)
 N:=N
 s₀:=s
 H₀:=H
 env:=Hn qual scope s.heap.objs.size f cd
 outer:=outer
 stack:=Hn qual scope s.heap.objs.size f cd::outer
 ex:=[]
 calm:=true
 fn:=λ _=>true
 pn:=[]
 xe:=λ e s'=>Ak (Ax P w) (A.deeper (Hn qual scope s.heap.objs.size f cd)) (leaving (Hn qual scope s.heap.objs.size f cd) e) (λ _ s''=>CX outer H s E e s'') (λ e' s''=>CX outer H s E e' s'') s'
def X5 {sc:Bz}{n:Nat}{x:Str} (h:sc.names.lookup x=some .cell):∃ c,(Df n sc.names []).lookup x=some c:=by
 have q:=PySem.W.cellsFrom_some sc.names n [] (.inl h);exact Option.isSome_iff_exists.mp q
def yp {CX:FF}{P:A8}{w:A7}{K:PySem.W.Frag}{mg:Str->Option Ad}{base:Heap}{N ps:List Str}{qual:Str}{scope:Bz}{f:Addr}{cd:Ad}{A:BK}{outer:List Env}{s s1:Ai}{H:Hp}{E:XK}{us:List Ad}{vs:List V}
  (S:FnScope N ps scope) (hd:A.handled=none) (e0:Env0 P w K mg base A outer s H) (hl:vs.length=ps.length) (r:Vals vs us)
  (x:InCallC s s.heap.objs.size (bindL (Hn qual scope s.heap.objs.size f cd).kindOf (ps.zip us) λ _=>none) (Df (s.heap.objs.size + 1) scope.names []) (bindC (Hn qual scope s.heap.objs.size f cd).kindOf (ps.zip us) λ _=>none) s1):
  Inv (CJ CX P w K mg base N qual scope f cd A outer s H E) [] (start N vs) H s1:=by
 have hpl:ps.length<=N.length:=by have:=congrArg List.length S.pre;rw [Gg] at this;omega
 obtain ⟨h1,tk,rfl,hk⟩:=x.done;have noA:∀ b:Addr,b∉(CJ CX P w K mg base N qual scope f cd A outer s H E).ex:=λ b z=>absurd (show b∈([]:List Addr) from z) (by simp);refine ⟨⟨e0.mod,S.kind,rfl,rfl,AA _,λ y z c h1 h2=>?_,λ y hy=>?_,λ y c _ h=>?_,λ _=>hd,Around.frames_deeper e0.frames,.inr ⟨rfl,rfl⟩,λ b z=>absurd z (noA b),e0.bs,e0.bsz,λ b _ _=>noA b,λ b z=>absurd z (noA b),e0.funs,e0.frf⟩,
  rfl,e0.bare,Un.kept hk,⟨_,x.toInCall.ns,λ i y v h1 h2 h3=>?_⟩,λ y c h=>⟨_,x.cell y c h⟩,e0.hok.fresh (AA _),λ y c h=>?_,λ p hp=>absurd (show p∈([]:List (Addr×Obj)) from hp) (by simp),e0.hok.kept hk,?_⟩
 ·exact name_of_addr x.apart (Ls h1) (Ls h2)
 ·have hy:scope.names.lookup y=some .cell\/scope.names.lookup y=some .free:=hy;rcases hy with hy | hy
  ·exact X5 hy
  ·exact absurd rfl (S.nofree _ (Ls hy))
 ·exact LW (x.above y c (Ls h))
 ·have hi:i < vs.length:=by
   unfold start at h2;by_cases hi:i < vs.length
   ·exact hi
   ·rw [Gj (by simpa using hi)] at h2;rw [EG] at h2;split at h2 <;> cases h2
  have ha:vs[i]?=some v:=by
   unfold start at h2;rw [C6 (by simpa using hi),CI] at h2;cases e:vs[i]? with
   | none=>rw [e] at h2;cases h2
   | some a=>rw [e] at h2;cases h2;rfl
  obtain ⟨u,hu,rv⟩:=r.get ha;have hp:ps[i]?=some y:=by
   rw [<- S.pre,K9 (by omega)];exact h1
  have ndP:ps.Nodup:=by rw [<- S.pre];exact S.nd.sublist (List.take_sublist _ _)
  refine ⟨u,rv,?_⟩;rcases S.par y (Z6 hp) with k | k
  ·exact .inl ⟨k,Y4 ndP hp hu k⟩
  ·obtain ⟨c,e⟩:=X5 (n:=s.heap.objs.size + 1) k;refine .inr ⟨.inl k,c,e,?_⟩;have q:=x.cell y c e;rw [Y2 ndP hp hu (by show scope.names.lookup y≠_;rw [k];decide)] at q;exact q
 ·exact e0.hok.fresh (LW (x.above y c (Ls h)))
 ·unfold start;show _=N.length;rw [BM,AG,Es];omega
theorem qt {CX:FF}{P:A8}{w:A7}{K:PySem.W.Frag}{mg:Str->Option Ad}{base:Heap}{k:Nat}{f:Addr}{name qual:Str}{params:Arguments}{body:List Stmt}{scope:Bz}{dV kV doc pm cdv ct oc:Ad}{an od:Option Addr}
  {osl:Array (Option Ad)}{N ps:List Str}{sp:Sp} (lk:K.lookup f=some ⟨oc,od,.func (Kg name qual params body scope dV kV doc pm an cdv ct),osl⟩) (hcd:Q7 K cdv qual=true) (S:FnScope N ps scope)
  (len:∀ vs H Q E,sp vs H Q E->vs.length=ps.length)
  (hbody:∀ (A:BK) (outer:List Env) (s:Ai) (H:Hp) (vs:List V) (Q:VK) (E:XK),Room k (A.deeper (Hn qual scope s.heap.objs.size f cdv))->sp vs H Q E ->
   ∃ t,Eu (CJ CX P w K mg base N qual scope f cdv A outer s H E) body t/\t { nx:=λ _ H'=>Q .non H',rt:=Q } (start N vs) H):
  FnOk P w K mg base CX (k + 1) f (Kg name qual params body scope dV kV doc pm an cdv ct) ps sp:=by
 refine ⟨len,λ A outer s H args us vs Q E hr e0 hb r hsp=>?_⟩;have hl:=len _ _ _ _ hsp;have KX:K.In s.heap:=e0.mod.kin.keeps λ b o e=>(e0.bs b o e).1;have lim:s.heap.NoLimit:=e0.mod.nolimit.keeps λ b o e=>(e0.bs b o e).1;have hkind:∀ y∈ps.zip us,scope.names.lookup y.1=some .local\/(scope.names.lookup y.1=some .cell/\((Df (s.heap.objs.size + 1) scope.names []).lookup y.1).isSome=true):=λ ⟨n,v⟩ hy=>by
  rcases S.par n (K3 hy).1 with q | q
  ·exact .inl q
  ·exact .inr ⟨q,PySem.W.cellsFrom_some _ _ _ (.inl q)⟩
 refine codeAny_call_function hr.depth (KX _ _ lk) rfl S.co S.gen rfl (PySem.W.codeRec_of KX hcd) (hb _ _ _ _ ?_);refine wpAny_newFunctionEnv_cells S.kind hkind λ env he s1 x=>?_;subst he;refine ⟨lim.keeps x.toInCall.keep,codeAny_func ?_⟩;obtain ⟨t,ht,hq⟩:=hbody A outer s H vs Q E (hr.deeper _) hsp;have I:Inv (CJ CX P w K mg base N qual scope f cdv A outer s H E) [] (start N vs) H s1:=yp S hr.hd e0 hl r x;refine Hr (ht [] s1 (start N vs) H _ I hq) (λ fl s' hs=>?_) λ e s' hs=>hs;have fin:∀ {σ':St}{H':Hp}{v:V}{u:Ad},Inv (CJ CX P w K mg base N qual scope f cdv A outer s H E) [] σ' H' s'->RelV v u->Q v H'->CE outer P w H s Q u s':=
  λ {σ' H' v u} J rv q=>⟨v,H',J.os,J.bare,J.base,J.hok,rv,q⟩
 cases fl with
 | ret u=>
  obtain ⟨v,σ',H',J,rv,q⟩:=hs;exact fin J rv q
 | next=>
  obtain ⟨σ',H',J,q⟩:=hs;exact fin (v:=V.non) (u:=Value.none) J rfl q
 | brk=>
  obtain ⟨_,_,_,q⟩:=hs;exact Hq q
 | cont=>
  obtain ⟨_,_,_,q⟩:=hs;exact Hq q
section
variable {X:Cx}{x:Str}{p pos:Pos}{e:Expr}{es:List Expr}{t:TA}{id T:String}{r:List V->Hp->VK->Prop}
def Rv (r:List V->Hp->VK->Prop) (t:TA):TE:=λ σ H Q=>t σ H λ vs H1=>r vs H1 Q
def IS (hc:zzw X (.builtin id) r) (hg:Gl X x) (hm:X.mg x=none) (hv:Jc x=some (.builtin id)) (ha:PA X (e::es) t) (hn:x ≠ "__name__" := by decide) (hdb:(x == ("__debug__" : Str))=false:=by decide)
  (he:AE (e::es) X.env=(false,eval e X.env)::AE es X.env:=by rfl) (hpl:(CM pos (AE es X.env)).any (·.1)=false:=by rfl):PE X (.Call (.Name x p) (e::es) [] pos) (Rv r t):=by
 intro pins s σ H Q I h;refine Nz (GF I hg hm hv ?_ hn hdb);exact PyProof.Rows.callWith_builtin1 (A4 (ha pos pins s σ H _ I h) λ us s1 ⟨vs,H1,I1,r1,q1⟩=>hc pins s1 σ H1 vs us Q I1 r1 q1) he hpl
def PR (hc:zzw X (.type T) r) (hg:Gl X x) (hm:X.mg x=none) (hv:Jc x=some (.type T)) (ha:PA X (e::es) t) (hn:x ≠ "__name__" := by decide) (hdb:(x == ("__debug__" : Str))=false:=by decide)
  (he:AE (e::es) X.env=(false,eval e X.env)::AE es X.env:=by rfl) (hpl:(CM pos (AE es X.env)).any (·.1)=false:=by rfl):PE X (.Call (.Name x p) (e::es) [] pos) (Rv r t):=by
 intro pins s σ H Q I h;refine Nz (GF I hg hm hv ?_ hn hdb);exact Ir (A4 (ha pos pins s σ H _ I h) λ us s1 ⟨vs,H1,I1,r1,q1⟩=>hc pins s1 σ H1 vs us Q I1 r1 q1) he hpl
end
end L2
namespace HT
open PySem PyProof.Rows
section
open PySem.SeqAt
open PySem.AutoSeq1 (wpAny_loadPart')
open PySem.MeetsSeq PySem.MeetsSeq2 PySem.MeetsSeq3
end
section
variable {prog:A8}{w:A7}{A:BK}{E:Ad->Ai->Prop}{s:Ai}
def cat_tup {t b:Addr}{vs ws:List Ad}{Q:Ad->Ai->Prop} (ht:IsTup s.heap t vs.toArray) (hb:IsTup s.heap b ws.toArray) (hv:vs≠[])
  (h1:ws=[]->Q (.ref t) s) (h2:ws≠[]->Q (.ref s.heap.objs.size) { s with heap:=s.heap.push { cls:=.type "tuple",data:=.seq (vs++ws).toArray } })
  (hsz:vs.length + ws.length<=Az):Ak (Ax prog w) A (EN .Add (.ref t) (.ref b)) Q E s:=by
 obtain ⟨⟨cls,dd,data,sl⟩,ho,hc,n,hd⟩:=id ht;obtain ⟨⟨cls2,dd2,data2,sl2⟩,ho2,hc2,n2,hd2⟩:=id hb;simp only at hc hd hc2 hd2;subst hc hd hc2 hd2;have e:vs.toArray++ws.toArray=(vs++ws).toArray:=by simp
 by_cases hw:ws=[]
 ·exact concat_meets ⟨_,ho,rfl⟩ ⟨_,ho2,rfl⟩ QO seq_tuple_add Rk Rl (Rm _ _)
   (tuple_addW1 t b vs.toArray ws.toArray n n2 dd dd2 sl sl2 (by simpa using hv) (by simp [hw])) ⟨ho,ho2,h1 hw⟩
 ·refine concat_meets ⟨_,ho,rfl⟩ ⟨_,ho2,rfl⟩ QO seq_tuple_add Rk Rl (Rm _ _)
   (tuple_addW2 t b vs.toArray ws.toArray n n2 dd dd2 sl sl2 (by simpa using hv) (by simpa using hw) (by rw [Cd,Cd];exact hsz)) ⟨ho,ho2,?_⟩
  rw [e];exact h2 hw
def sIx (n d:Nat):Option Int->Nat
 | none=>d
 | some v=>if v < 0 then (v + (n:Int)).toNat else min v.toNat n
def sIx_none (n d:Nat):sIx n d none=d:=rfl
def sIx_nat (n d k:Nat):sIx n d (some (k:Int))=min k n:=by
 show (if (k:Int) < 0 then ((k:Int) + (n:Int)).toNat else min (k:Int).toNat n)=min k n;rw [if_neg (by omega),Dy]
theorem xU (n d:Nat) (hd:d<=n) (o:Option Int):sIx n d o<=n:=by
 cases o with
 | none=>exact hd
 | some v=>
  show (if v < 0 then (v + (n:Int)).toNat else min v.toNat n)<=n;by_cases hv:v < 0
  ·rw [if_pos hv];omega
  ·rw [if_neg hv];exact Nat.min_le_right _ _
def W8 (v:Int) (n d:Nat):(if v < 0 then max (v + (n:Int)) 0 else min v (n:Int))=((sIx n d (some v):Nat):Int):=by
 show (if v < 0 then max (v + (n:Int)) 0 else min v (n:Int))=(((if v < 0 then (v + (n:Int)).toNat else min v.toNat n):Nat):Int);by_cases hv:v < 0
 ·simp only [if_pos hv];omega
 ·simp only [if_neg hv];omega
def yN (lo hi:Option Int) (n:Nat):Rn lo hi 1 (n:Int)=(((sIx n 0 lo:Nat):Int),((sIx n n hi:Nat):Int)):=by
 have h1:¬ ((1:Int) < 0):=by omega
 unfold Rn;simp only [h1,if_false];refine Prod.ext ?_ ?_
 ·cases lo with
  | none=>rfl
  | some v=>exact W8 v n 0
 ·cases hi with
  | none=>rfl
  | some v=>exact W8 v n n
def uh (i j:Nat):N7 (i:Int) (j:Int) 1=j - i:=by
 unfold N7;have h1:(1:Int) > 0:=by omega
 simp only [h1,if_true,Int.ediv_one];split <;> omega
theorem U2 {v:Ad}{o:Option Int}{Q:Option Int->Ai->Prop} (p:IsPart v o) (h:Q o s):Ak (Ax prog w) A (Builtin.Slice.slicePartIndex v) Q E s:=by
 cases p with
 | none=>exact slicePart_none h
 | int i t=>exact slicePart_int h
def qa {sl:Addr}{vl vu:Ad}{lo hi:Option Int}{n:Nat}{Q:Int×Int×Nat->Ai->Prop} (hs:s.heap.IsSliceOf sl vl vu .none) (pl:IsPart vl lo) (pu:IsPart vu hi)
  (h:Q (((sIx n 0 lo:Nat):Int),1,sIx n n hi - sIx n 0 lo) s):Ak (Ax prog w) A (Va (.ref sl) (pure (n:Int))) Q E s:=by
 obtain ⟨os,hos,hcs,hds⟩:=id hs;unfold Va Builtin.Slice.sliceFields;refine Ah (Ah (DX hos hds (x:=vl) rfl (Ah (DX hos hds (x:=vu) rfl (Ah (DX hos hds (x:=.none) rfl (Aq ?_)))))));refine Ah (slicePart_none ?_);show Ak _ _ (if ((1:Int) == 0)=true then _ else _) _ _ s;rw [if_neg (by decide)];refine Ah (U2 pl (Ah (U2 pu (Ah (Aq ?_)))));show Ak _ _ (match Rn lo hi 1 (n:Int) with | (lo,hi)=>pure (lo,(1:Int),N7 lo hi 1)) _ _ s;rw [yN lo hi n];show Ak _ _ (pure (((sIx n 0 lo:Nat):Int),(1:Int),N7 ((sIx n 0 lo:Nat):Int) ((sIx n n hi:Nat):Int) 1)) _ _ s;rw [uh];exact Aq h
def vW (xs:Array Ad) (i k:Nat):((A6 k).filterMap λ (m:Nat)=>xs[((i:Int) + (m:Int) * 1).toNat]?).toArray=((xs.toList.drop i).take k).toArray:=by
 have e:(λ (m:Nat)=>xs[((i:Int) + (m:Int) * 1).toNat]?)=λ m=>xs[i + m]?:=by
  funext m
  have:((i:Int) + (m:Int) * 1).toNat=i + m:=by omega
  rw [this]
 rw [e]
 have:=pick_run xs i k
 rw [List.filterMap_map] at this;have e2:((λ x=>xs[x]?) ∘ λ x=>i + x)=λ m=>xs[i + m]?:=rfl;rw [e2] at this;rw [this]
def getItem_tuple_cut {t sl:Addr}{items:Array Ad}{vl vu:Ad}{lo hi:Option Int}{Q:Ad->Ai->Prop} (ht:IsTup s.heap t items) (hs:s.heap.IsSliceOf sl vl vu .none) (pl:IsPart vl lo) (pu:IsPart vu hi)
  (hw:¬ (sIx items.size 0 lo=0/\sIx items.size items.size hi=items.size))
  (h:Q (.ref s.heap.objs.size) { s with heap:=s.heap.push { cls:=.type "tuple",data:=.seq ((items.toList.drop (sIx items.size 0 lo)).take (sIx items.size items.size hi - sIx items.size 0 lo)).toArray } })
  (hsz:items.size<=Az):Ak (Ax prog w) A (IX (.ref t) (.ref sl)) Q E s:=by
 have htake:sizeOk (.seq ((items.toList.drop (sIx items.size 0 lo)).take (sIx items.size items.size hi - sIx items.size 0 lo)).toArray):=by
  show ((items.toList.drop (sIx items.size 0 lo)).take (sIx items.size items.size hi - sIx items.size 0 lo)).toArray.size<=Az;rw [Cd,Gg,FA,ID];omega
 have hj:sIx items.size items.size hi<=items.size:=xU _ _ (AA _) hi;obtain ⟨os,hos,hcs,hds⟩:=id hs;have hTs:s.TypeIs (.ref sl) "slice" := ⟨os,hos,hcs⟩
 unfold IX
 try with_reducible refine Jd ?_
 first | refine Ah (Aq ?_) | skip
 refine Ah (wpAny_sequenceKey ht.typeIs (by decide) ?_);refine Ah (Hv (name:=GH "__getitem__") ht.typeIs Vi
  (FU Vi ht.typeIs entry_tuple_getitem ?_ (args_tuple_getitem _ _)))
 show Ak _ _ (Builtin.Tuple.tupleItemsOf (.ref t) >>= _) _ _ s;refine Ah (tupleItemsOf_ ht ?_);refine Ah (wpAny_typeOf hTs ?_);rw [if_pos (by decide)];refine Ah (qa hs pl pu ?_);have hno:¬ ((((sIx items.size 0 lo:Nat):Int) == 0 && (1:Int) == 1 && (sIx items.size items.size hi - sIx items.size 0 lo) == items.size)=true):=by
  intro q;rw [Bc,Bc] at q;have q1:((sIx items.size 0 lo:Nat):Int)=0:=eq_of_beq q.1.1;have q2:sIx items.size items.size hi - sIx items.size 0 lo=items.size:=eq_of_beq q.2;exact hw ⟨by omega,by omega⟩
 show Ak _ _ (if (((sIx items.size 0 lo:Nat):Int) == 0 && (1:Int) == 1 && (sIx items.size items.size hi - sIx items.size 0 lo) == items.size)=true then _ else _) _ _ s;rw [if_neg hno,vW]
 first
  | exact Ah (m:=N4 _) (El (Aq ⟨_,rfl,Aq h⟩) htake)
  | exact Ah (m:=N4 _) (El (Ah (Aq (Aq ⟨_,rfl,Aq h⟩))) htake)
  | exact Ah (Ah (m:=N4 _) (El (Aq (Aq ⟨_,rfl,Aq h⟩)) htake))
  | exact Ah (Ah (m:=N4 _) (El (Aq ⟨_,rfl,Aq h⟩) htake))
end
end HT
namespace L2
open PySem PySem.Spec PyProof.Rows
abbrev TO:=St->Hp->(Option Int->Hp->Prop)->Prop
def PO (X:Cx) (e:Option Expr) (t:TO):Prop:=
 ∀ (pins:List (Addr×Obj)) (s:Ai) (σ:St) (H:Hp) (Q:Option Int->Hp->Prop),Inv X pins σ H s->t σ H Q ->
  Ak (Ax X.prog X.w) X.A (evalPart e X.env) (λ u s'=>∃ o H',Inv X pins σ H' s'/\IsPart u o/\Q o H') X.xe s
def X0:TO:=λ _ H Q=>Q none H
def VH (t:TE):TO:=λ σ H Q=>t σ H λ x H1=>∃ i,x=.int i/\Q (some i) H1
section
variable {X:Cx}{e:Expr}{te:TE}{lo hi:Option Expr}{tl th:TO}{pos p2:Pos}
def Xd:PO X none X0:=by
 intro pins s σ H Q I h;rw [evalPart_none];exact Aq ⟨none,H,I,.none,h⟩
def MK (h:PE X e te):PO X (some e) (VH te):=by
 intro pins s σ H Q I hw;rw [evalPart_some];refine A4 (h pins s σ H _ I hw) λ u s1 ⟨x,H1,I1,r1,q1⟩=>?_;obtain ⟨i,rfl,q⟩:=q1;obtain ⟨t,rfl⟩:=r1;exact ⟨some i,H1,I1,.int i t,q⟩
def SlR (X:Cx) (r:V->Option Int->Option Int->Hp->VK->Prop):Prop:=
 ∀ (pins:List (Addr×Obj)) (s:Ai) (σ:St) (H:Hp) (x:V) (v vl vu:Ad) (lo hi:Option Int) (sl:Addr) (Q:VK),Inv X pins σ H s->RelV x v->s.heap.IsSliceOf sl vl vu .none->IsPart vl lo->IsPart vu hi->r x lo hi H Q ->
  ∃ T id,typeLookup (.type T) "__getitem__" = pure (some (.builtin id))/\s.TypeIs v T/\Ak (Ax X.prog X.w) X.A (IX v (.ref sl)) (EP X pins σ Q) X.xe s
def SlR.or {r r':V->Option Int->Option Int->Hp->VK->Prop} (h:SlR X r) (h':SlR X r'):SlR X (λ x lo hi H Q=>r x lo hi H Q\/r' x lo hi H Q):=by
 intro pins s σ H x v vl vu lo hi sl Q I rx hs pl pu q;rcases q with q | q
 ·exact h pins s σ H x v vl vu lo hi sl Q I rx hs pl pu q
 ·exact h' pins s σ H x v vl vu lo hi sl Q I rx hs pl pu q
def Vl (r:V->Option Int->Option Int->Hp->VK->Prop) (te:TE) (tl th:TO):TE:=λ σ H Q=>te σ H λ x H1=>tl σ H1 λ l H2=>th σ H2 λ u H3=>r x l u H3 Q
def Qu {r:V->Option Int->Option Int->Hp->VK->Prop} (hr:SlR X r) (he:PE X e te) (hl:PO X lo tl) (hu:PO X hi th):PE X (.Subscript e (.Slice lo hi none p2) pos) (Vl r te tl th):=by
 intro pins s σ H Q I h;refine Subscript_ (A4 (he pins s σ H _ I h) λ v s1 ⟨x,H1,I1,r1,q1⟩=>?_);refine wpAny_Slice (A4 (hl pins s1 σ H1 _ I1 q1) λ vl s2 ⟨l,H2,I2,pl,q2⟩=>A4 (hu pins s2 σ H2 _ I2 q2) λ vu s3 ⟨u,H3,I3,pu,q3⟩=>?_);rw [evalPart_none];refine Aq ?_;have I4:Inv X pins σ H3 { s3 with heap:=s3.heap.push { cls:=.type "slice",data:=.fields #[vl,vu,.none] } }:=I3.kept (t':=s3.toks) λ b ob q=>Bj _ q;obtain ⟨T,id,hT,ht,hg⟩:=hr pins { s3 with heap:=s3.heap.push { cls:=.type "slice",data:=.fields #[vl,vu,.none] } } σ H3 x v vl vu l u s3.heap.objs.size Q I4 r1 (Heap.IsSliceOf.new ..) pl pu q3;show Ak (Ax X.prog X.w) X.A (subscriptTail e (.Slice lo hi none p2) v (.ref s3.heap.objs.size)) (EP X pins σ Q) X.xe { s3 with heap:=s3.heap.push { cls:=.type "slice",data:=.fields #[vl,vu,.none] } };exact tail_any (ops:=[.ref s3.heap.objs.size,v]) ht hT hg (by with_unfolding_all rfl)
def Dc (xs:List V) (lo hi:Option Int):List V:=(xs.drop (HT.sIx xs.length 0 lo)).take (HT.sIx xs.length xs.length hi - HT.sIx xs.length 0 lo)
def Ul (xs:List V) (lo hi:Option Int):(Dc xs lo hi).length<=xs.length:=by
 unfold Dc;rw [Gg,FA];omega
def L3 (K:PySem.W.Frag):V->Option Int->Option Int->Hp->VK->Prop:=λ x lo hi H Q=>∃ a xs,x=.ref a/\SqT K H a xs /\
 ¬ (HT.sIx xs.length 0 lo=0/\HT.sIx xs.length xs.length hi=xs.length)/\∀ p,H p=none->Q (.ref p) (Ao H p (.tup (Dc xs lo hi)))
def Sg:SlR X (L3 X.K):=by
 intro pins s σ H x v vl vu lo hi sl Q I rx hs pl pu h;obtain ⟨a,xs,rfl,hx,hw,q⟩:=h;cases rx;obtain ⟨its,r,ht,hz⟩:=I.tuple hx;have hlen:its.toArray.size=xs.length:=by rw [Cd];exact r.length.symm
 refine ⟨"tuple",_,PyProof.Rows.slot_tuple_getitem.lookup,ht.typeIs,?_⟩;refine HT.getItem_tuple_cut ht hs pl pu (by rw [hlen];exact hw) ?_ (by rw [hlen];exact hz);rw [hlen];refine ⟨.ref s.heap.objs.size,_,I.laid (t':=s.toks) (o:=.tup (Dc xs lo hi)) (λ b ob q=>Bj _ q) (AA _) ?_,rfl,q _ (I.hok.fresh (AA _))⟩;exact ⟨BZ (Ul xs lo hi) hz,_,(r.drop (HT.sIx xs.length 0 lo)).take (HT.sIx xs.length xs.length hi - HT.sIx xs.length 0 lo),IsTup.new _ _⟩
def qY (K:PySem.W.Frag):R2:=λ x y H Q=>∃ a b xs ys,x=.ref a/\y=.ref b/\SqT K H a xs/\SqT K H b ys/\xs≠[]/\xs.length + ys.length<=Az /\
 (ys=[]->Q (.ref a) H)/\(ys≠[]->∀ p,H p=none->Q (.ref p) (Ao H p (.tup (xs++ys))))
theorem Vals.nil_iff {xs:List V}{us:List Ad} (r:Vals xs us):us=[]↔xs=[]:=by
 cases r with
 | nil=>simp
 | cons _ _=>simp
def qnl:OpR X (EN .Add) (qY X.K):=by
 intro pins s σ H x y v u Q I rx ry h;obtain ⟨a,b,xs,ys,rfl,rfl,ha,hb,hx,hz,q1,q2⟩:=h;cases rx;cases ry;obtain ⟨its,r1,p1,_⟩:=I.tuple ha;obtain ⟨its2,r2,p2,_⟩:=I.tuple hb;refine HT.cat_tup p1 p2 (λ z=>hx (r1.nil_iff.mp z)) (λ z=>⟨.ref a,H,I,rfl,q1 (r2.nil_iff.mp z)⟩) (λ z=>?_) (by rw [<- r1.length,<- r2.length];exact hz);refine ⟨.ref s.heap.objs.size,_,I.laid (t':=s.toks) (o:=.tup (xs++ys)) (λ b ob q=>Bj _ q) (AA _) ?_,rfl,q2 (λ w=>z (r2.nil_iff.mpr w)) _ (I.hok.fresh (AA _))⟩;exact ⟨by rw [BM];exact hz,_,r1.append r2,IsTup.new _ _⟩
end
def DO (n:Nat) (i:Int):Option Nat:=if 0<=i then (if i < n then some i.toNat else none) else if -(n:Int)<=i then some (i + n).toNat else none
def BO {α:Type} (xs:List α) (i:Int):Option α:=(DO xs.length i).bind λ j=>xs[j]?
def WO {n:Nat}{i:Int}{j:Nat} (h:DO n i=some j):seqIndex? i n=some j/\j < n/\-(n:Int)<=i/\i < n:=by
 unfold DO at h;by_cases h0:0<=i
 ·rw [if_pos h0] at h;by_cases h1:i < n
  ·rw [if_pos h1] at h;have e:i.toNat=j:=Option.some.inj h;exact ⟨by rw [Ni h0 h1,e],by omega,by omega,h1⟩
  ·rw [if_neg h1] at h;cases h
 ·rw [if_neg h0] at h;by_cases h1:-(n:Int)<=i
  ·rw [if_pos h1] at h;have e:(i + n).toNat=j:=Option.some.inj h;exact ⟨by rw [seqIndex_neg (by omega) h1,e],by omega,h1,by omega⟩
  ·rw [if_neg h1] at h;cases h
theorem M8 {α:Type}{xs:List α}{i:Int}{v:α} (h:BO xs i=some v):∃ j,seqIndex? i xs.length=some j/\xs[j]?=some v/\j < xs.length/\-(xs.length:Int)<=i/\i < xs.length:=by
 unfold BO at h;cases e:DO xs.length i with
 | none=>rw [e] at h;cases h
 | some j=>
  rw [e] at h;obtain ⟨h1,h2,h3,h4⟩:=WO e;exact ⟨j,h1,h,h2,h3,h4⟩
def M7 (b:Expr):Prop:=∀ o i,subscripted b false o i=operate [o,i] (IX o i)
def IxR (X:Cx) (r:R2):Prop:=
 ∀ (value slice:Expr) (pins:List (Addr×Obj)) (s:Ai) (σ:St) (H:Hp) (x y:V) (v u:Ad) (Q:VK),Inv X pins σ H s->RelV x v->RelV y u->r x y H Q ->
  subscripted slice false v u=operate [v,u] (IX v u)->Ak (Ax X.prog X.w) X.A (subscriptTail value slice v u) (EP X pins σ Q) X.xe s
def bo (X:Cx) (id:String) (r:V->List V->Hp->VK->Prop):Prop:=
 ∀ (pins:List (Addr×Obj)) (s:Ai) (σ:St) (H:Hp) (x:V) (xs:List V) (v:Ad) (us:List Ad) (Q:VK),Inv X pins σ H s->RelV x v->Vals xs us->r x xs H Q ->
  Ak (Ax X.prog X.w) X.A (call (.builtin id) (v::us)) (EP X pins σ Q) X.xe s
section
variable {X:Cx}{a b:Expr}{ta tb:TE}{pos:Pos}
def IxR.or {r r':R2} (h:IxR X r) (h':IxR X r'):IxR X (λ x y H Q=>r x y H Q\/r' x y H Q):=by
 intro value slice pins s σ H x y v u Q I rx ry q hs;rcases q with q | q
 ·exact h value slice pins s σ H x y v u Q I rx ry q hs
 ·exact h' value slice pins s σ H x y v u Q I rx ry q hs
def VE {r:R2} (hr:IxR X r) (ha:PE X a ta) (hb:PE X b tb) (hs:M7 b):PE X (.Subscript a b pos) (Ks r ta tb):=by
 intro pins s σ H Q I h;exact Subscript_ (J4 ha hb I h λ v u s2 x y H2 I2 rx ry q=>hr a b pins s2 σ H2 x y v u Q I2 rx ry q (hs _ _))
def Hy (K:PySem.W.Frag):R2:=λ x y H Q=>∃ p xs i v,x=.ref p/\y=.int i/\Bo K H p xs/\BO xs i=some v/\Q v H
def L5 (K:PySem.W.Frag):R2:=λ x y H Q=>∃ p xs i v,x=.ref p/\y=.int i/\SqT K H p xs/\BO xs i=some v/\Q v H
def L6:R2:=λ x y H Q=>∃ z i c,x=.str z/\y=.int i/\z.length<=Az/\BO z.cps.toList i=some c/\Q (.str ⟨#[c]⟩) H
def qn4:IxR X (Hy X.K):=by
 intro value slice pins s σ H x y v u Q I rx ry h hs;obtain ⟨p,xs,i,z,rfl,rfl,hq,he,q⟩:=h;cases rx;obtain ⟨t,rfl⟩:=ry;obtain ⟨its,r,pl,hz⟩:=I.list hq;obtain ⟨j,h1,h2,h3,h4,h5⟩:=M8 he;obtain ⟨w,ew,rw'⟩:=r.get h2;have hl:=r.length;have hn:=IU;have fin:EP X pins σ Q w s:=⟨z,H,I,rw',q⟩
 by_cases h0:0<=i
 ·have hj:i.toNat=j:=by
   rw [Ni h0 h5] at h1;exact Option.some.inj h1
  exact item_listR pl.isList h0 (by omega) (by rw [hj];simpa using ew) fin hs
 ·have hj:(i + (its.toArray.size:Int)).toNat=j:=by
   rw [seqIndex_neg (by omega) h4] at h1;rw [Cd,<- hl];exact Option.some.inj h1
  exact subscriptTail_builtinR (x:=w) pl.isList.typeIs slot_list_getitem.lookup
   (wpAny_getItem_list_neg (Q:=λ r s'=>r=w/\EP X pins σ Q r s') pl.isList (by omega) (by rw [Cd] <;> omega) (by omega) (by rw [hj];simpa using ew) ⟨rfl,fin⟩) hs
def qr2:IxR X (L5 X.K):=by
 intro value slice pins s σ H x y v u Q I rx ry h hs;obtain ⟨p,xs,i,z,rfl,rfl,hq,he,q⟩:=h;cases rx;obtain ⟨t,rfl⟩:=ry;obtain ⟨its,r,pl,hz⟩:=I.tuple hq;obtain ⟨j,h1,h2,h3,h4,h5⟩:=M8 he;obtain ⟨w,ew,rw'⟩:=r.get h2;have hl:=r.length;have hn:=IU;have fin:EP X pins σ Q w s:=⟨z,H,I,rw',q⟩
 exact subscriptTail_builtinR (x:=w) pl.typeIs slot_tuple_getitem.lookup
  (getItem_tuple (j:=j) (Q:=λ r s'=>r=w/\EP X pins σ Q r s') pl (by omega) (by omega) (by rw [Cd,<- hl];exact h1) (by simpa using ew) ⟨rfl,fin⟩) hs
def xC:IxR X L6:=by
 intro value slice pins s σ H x y v u Q I rx ry h hs;obtain ⟨z,i,c,rfl,rfl,hz,he,q⟩:=h;obtain ⟨t,rfl⟩:=rx;obtain ⟨t',rfl⟩:=ry;obtain ⟨j,h1,h2,h3,h4,h5⟩:=M8 he;have hl:z.cps.toList.length=z.length:=by simp [Str.length]
 rw [hl] at h1 h4 h5;have hn:=IU;exact tail_any (typeIs_str s z t) slot_str_getitem.lookup (getItem_str (c:=c) (by
  have e1:decide (i < -(2 ^ 63:Int))=false:=decide_eq_false (by omega);have e2:decide (i ≥ 2 ^ 63)=false:=decide_eq_false (by omega);rw [e1,e2,Th]) (by rw [h1];simpa using h2) ⟨.str ⟨#[c]⟩,H,I.tok _,⟨_,rfl⟩,q⟩) hs
def qd (K:PySem.W.Frag):R2:=λ x y H Q=>Hy K x y H Q\/L5 K x y H Q\/L6 x y H Q
def qlh:IxR X (qd X.K):=qn4.or (qr2.or xC)
def uc (its:List Ad) (n j:Nat) (u:Ad):IZ (·.setIfInBounds j u) { cls:=.type "list",data:=.seq its.toArray n }={ cls:=.type "list",data:=.seq (its.set j u).toArray n }:=by
 simp [IZ]
def Inv.lst {pins:List (Addr×Obj)}{σ:St}{H:Hp}{s:Ai}{p:Addr}{xs:List V} (I:Inv X pins σ H s) (h:H p=some (.lst xs)):
  ∃ (its:List Ad) (n:Nat),Vals xs its/\s.heap.get? p=some { cls:=.type "list",data:=.seq its.toArray n }/\xs.length<=Az:=by
 obtain ⟨z,its,n,r,e⟩:=I.hok p _ h;exact ⟨its,n,r,e,z⟩
def Inv.lstUpd {pins:List (Addr×Obj)}{σ:St}{H:Hp}{s:Ai}{p:Addr}{xs ys:List V}{its its':List Ad}{n n':Nat}{f:Obj->Obj} (I:Inv X pins σ H s) (h:H p=some (.lst xs))
  (ho:s.heap.get? p=some { cls:=.type "list",data:=.seq its.toArray n }) (hf:f { cls:=.type "list",data:=.seq its.toArray n }={ cls:=.type "list",data:=.seq its'.toArray n' }) (r:Vals ys its') (hz:ys.length<=Az) (t:Nat):
  Inv X pins σ (Ao H p (.lst ys)) { s with heap:=s.heap.update p f,toks:=t }:=by
 have e:(s.heap.update p f).get? p=some { cls:=.type "list",data:=.seq its'.toArray n' }:=by
  rw [Kr f ho (by rw [hf] <;> rfl),hf]
 refine I.write (x:=p) (e:=p) (by rw [h];trivial) (.inl rfl) (λ b u hb q=>(N1 _ _ (BY hb)).trans q) ⟨_,e⟩ ?_;exact ⟨hz,its',n',r,e⟩
def V9:V->V->V->Hp->(Hp->Prop)->Prop:=λ o i v H Q=>∃ p xs k j,o=.ref p/\i=.int k/\H p=some (.lst xs)/\DO xs.length k=some j/\Q (Ao H p (.lst (xs.set j v)))
def wN:HM X V9:=by
 intro pins s σ H o i v ov iv u Q I ro ri rv h;obtain ⟨p,xs,k,j,rfl,rfl,hp,hj,q⟩:=h;cases ro;obtain ⟨t,rfl⟩:=ri;obtain ⟨its,n,r,ho,hz⟩:=I.lst hp;obtain ⟨h1,h2,h3,h4⟩:=WO hj;have hl:=r.length;have hn:=IU;have I':Inv X pins σ (Ao H p (.lst (xs.set j v))) { s with heap:=s.heap.update p (IZ (·.setIfInBounds j u)) }:=
  I.lstUpd hp ho (uc its n j u) (r.set rv j) (by rw [DA];exact hz) s.toks
 by_cases h0:0<=k
 ·have hk:k.toNat=j:=by
   rw [Ni h0 h4] at h1;exact Option.some.inj h1
  exact PySem.W.ki_setAt ho h0 (by omega) (by rw [Cd,<- hl];exact h4) (by rw [hk];exact ⟨_,I',q⟩)
 ·have hk:(k + (its.toArray.size:Int)).toNat=j:=by
   rw [seqIndex_neg (by omega) h3] at h1;rw [Cd,<- hl];exact Option.some.inj h1
  exact PySem.W.ki_setBack ho (by omega) (by rw [Cd,<- hl];exact h3) (by omega) (by rw [hk];exact ⟨_,I',q⟩)
def ZY (lo hi:Option Int) (n:Nat):(Ja lo hi none n).1=((HT.sIx n 0 lo:Nat):Int)/\(Ja lo hi none n).2.1=((HT.sIx n n hi:Nat):Int)/\(Ja lo hi none n).2.2=1:=by
 refine ⟨?_,?_,rfl⟩
 ·cases lo with
  | none=>simp [Ja,HT.sIx]
  | some i=>
   simp only [Ja,HT.sIx,Zi,show (1:Int) > 0 by decide,if_true];by_cases h:i < 0
   ·simp only [h,if_true] <;> omega
   ·simp only [h,if_false] <;> omega
 ·cases hi with
  | none=>simp [Ja,HT.sIx]
  | some i=>
   simp only [Ja,HT.sIx,Zi,show (1:Int) > 0 by decide,if_true];by_cases h:i < 0
   ·simp only [h,if_true] <;> omega
   ·simp only [h,if_false] <;> omega
def ZZ (its:List Ad) (lo hi:Option Int):slicePick its.toArray lo hi none=((its.drop (HT.sIx its.length 0 lo)).take (HT.sIx its.length its.length hi - HT.sIx its.length 0 lo)).toArray:=by
 obtain ⟨h1,h2,h3⟩:=ZY lo hi its.toArray.size;unfold slicePick;rw [h1,h2,h3];simp only [sliceRange_one,pick_run,Cd] <;> rfl
def L4 (K:PySem.W.Frag):V->Option Int->Option Int->Hp->VK->Prop:=λ x lo hi H Q=>∃ a xs,x=.ref a/\Bo K H a xs/\∀ p,H p=none->Q (.ref p) (Ao H p (.lst (Dc xs lo hi)))
def qa5:SlR X (L4 X.K):=by
 intro pins s σ H x v vl vu lo hi sl Q I rx hs pl pu h;obtain ⟨a,xs,rfl,hx,q⟩:=h;cases rx;obtain ⟨its,r,ht,hz⟩:=I.list hx;have hlen:=r.length;refine ⟨"list",_,slot_list_getitem.lookup,ht.isList.typeIs,?_⟩;refine wpAny_getItem_list_slice ht.isList hs pl pu .none (by simp) ?_ (by rw [Cd] <;> omega);rw [ZZ,<- hlen];refine ⟨.ref s.heap.objs.size,_,I.laid (t':=s.toks) (o:=.lst (Dc xs lo hi)) (λ b ob q=>Bj _ q) (AA _) ?_,rfl,q _ (I.hok.fresh (AA _))⟩;exact ⟨BZ (Ul xs lo hi) hz,_,0,(r.drop (HT.sIx xs.length 0 lo)).take (HT.sIx xs.length xs.length hi - HT.sIx xs.length 0 lo),BR _ rfl⟩
def qap:zzw X (.builtin "len") (λ xs H Q=>∃ p ys,xs=[.ref p]/\(Bo X.K H p ys\/SqT X.K H p ys)/\Q (.int ys.length) H):=by
 intro pins s σ H xs us Q I r h;obtain ⟨p,ys,rfl,hq,q⟩:=h;obtain ⟨u,rfl,rx⟩:=EM r;cases rx;have hn:=IU;rcases hq with hq | hq
 ·obtain ⟨its,r',pl,hz⟩:=I.list hq;have hlen:=r'.length;exact Calls.call_len_list pl.isList (by simp only [Cd] <;> omega) ⟨.int ys.length,H,I.tok _,⟨s.toks + 1,by rw [Cd,hlen]⟩,q⟩
 ·obtain ⟨its,r',pl,hz⟩:=I.tuple hq;have hlen:=r'.length;exact len_tuple pl (by simp only [Cd] <;> omega) ⟨.int ys.length,H,I.tok _,⟨s.toks + 1,by rw [Cd,hlen]⟩,q⟩
def uw:zzw X (.builtin "len") (λ xs H Q=>∃ z,xs=[.str z]/\z.length<=Az/\Q (.int z.length) H):=by
 intro pins s σ H xs us Q I r h;obtain ⟨z,rfl,hz,q⟩:=h;obtain ⟨u,rfl,t,rfl⟩:=EM r;have hn:=IU;exact len_str (by omega) ⟨.int z.length,H,I.tok _,⟨_,rfl⟩,q⟩
def zzw.or {f:Ad}{r r':List V->Hp->VK->Prop} (h:zzw X f r) (h':zzw X f r'):zzw X f (λ xs H Q=>r xs H Q\/r' xs H Q):=by
 intro pins s σ H xs us Q I rs q;rcases q with q | q
 ·exact h pins s σ H xs us Q I rs q
 ·exact h' pins s σ H xs us Q I rs q
def ux:zzw X (.type "list") (λ xs H Q=>∃ p ys,xs=[.ref p]/\(Bo X.K H p ys\/SqT X.K H p ys)/\∀ l,H l=none->Q (.ref l) (Ao H l (.lst ys))):=by
 intro pins s σ H xs us Q I r h;obtain ⟨p,ys,rfl,hq,q⟩:=h;obtain ⟨u,rfl,rx⟩:=EM r;cases rx;have fin:∀ (its:List Ad),Vals ys its->ys.length<=Az->∀ (h':Heap) (c':Nat),(∀ b o',s.heap.get? b=some o'->h'.get? b=some o') ->
   h'.get? s.heap.objs.size=some { cls:=.type "list",dict:=none,data:=.seq its.toArray c',slots:=#[] }->EP X pins σ Q (.ref s.heap.objs.size) { s with heap:=h' }:=λ its r' hz h' c' kp e=>
  ⟨.ref s.heap.objs.size,_,I.laid (t':=s.toks) kp (AA _) (show zxr X.prog X.w _ h' _ (.lst ys) from ⟨hz,its,c',r',e⟩),rfl,q _ (I.hok.fresh (AA _))⟩
 rcases hq with hq | hq
 ·obtain ⟨its,r',pl,hz⟩:=I.list hq;have hlen:=r'.length;obtain ⟨o,ho,hc,n,hd⟩:=pl.isList;exact call_list_seq p (.inl rfl) ho hc hd (λ h' c' kp e=>fin its r' hz h' c' kp e) (by simp only [Cd] <;> omega)
 ·obtain ⟨its,r',pl,hz⟩:=I.tuple hq;have hlen:=r'.length;obtain ⟨o,ho,hc,n,hd⟩:=pl;exact call_list_seq p (.inr rfl) ho hc hd (λ h' c' kp e=>fin its r' hz h' c' kp e) (by simp only [Cd] <;> omega)
def Rp (K:PySem.W.Frag) (T:String) (x:V) (H:Hp):Prop:=match x with
 | .str _=>T = "str"
 | .int _=>T = "int"
 | .ref p=>(T = "list" /\ ∃ xs,Bo K H p xs)\/(T = "tuple" /\ ∃ o,K.lookup p=some o/\o.cls=.type "tuple" /\ o.dict=none) \/
   (T = "dict" /\ ((∃ kvs,H p=some (.dK kvs))\/∃ kvs,H p=some (.dT kvs)))\/(T = "set" /\ ∃ S n,H p=some (.set S n))
 | _=>False
theorem zL {pins:List (Addr×Obj)}{σ:St}{H:Hp}{s:Ai}{T:String}{x:V}{v:Ad} (I:Inv X pins σ H s) (r:RelV x v) (ty:Rp X.K T x H):
  s.TypeIs v T/\∀ a,v=.ref a->∃ ob,s.heap.get? a=some ob/\ob.dict=none:=by
 cases x with
 | str z=>
  obtain ⟨t,rfl⟩:=r;cases (show T = "str" from ty);exact ⟨typeIs_str s z t,λ _ e=>nomatch e⟩
 | int i=>
  obtain ⟨t,rfl⟩:=r;cases (show T = "int" from ty);exact ⟨typeIs_int s i t,λ _ e=>nomatch e⟩
 | ref p=>
  cases r;rcases ty with ⟨rfl,xs,hq⟩ | ⟨rfl,o,hk,hc,hd⟩ | ⟨rfl,hk⟩ | ⟨rfl,S,n,hk⟩
  ·obtain ⟨its,_,pl,_⟩:=I.list hq;refine ⟨pl.isList.typeIs,λ a e=>?_⟩;cases e;obtain ⟨o,n,e,c,hd,_⟩:=pl;exact ⟨o,e,hd⟩
  ·refine ⟨⟨o,I.kIn p o hk,hc⟩,λ a e=>?_⟩;cases e;exact ⟨o,I.kIn _ o hk,hd⟩
  ·have z:∃ o,s.heap.get? p=some o/\o.ExactDict:=by
    rcases hk with ⟨kvs,hk⟩ | ⟨kvs,hk⟩
    ·obtain ⟨_,_,_,_,o,_,_,e,ex,_⟩:=I.hok p _ hk;exact ⟨o,e,ex⟩
    ·obtain ⟨_,_,_,_,o,_,_,e,ex,_⟩:=I.hok p _ hk;exact ⟨o,e,ex⟩
   obtain ⟨o,e,ex⟩:=z;refine ⟨⟨o,e,ex.1⟩,λ a e2=>?_⟩;cases e2;exact ⟨o,e,ex.2.1⟩
  ·obtain ⟨o,_,_,_,e,ex,_⟩:=I.hok p _ hk;refine ⟨⟨o,e,ex.1⟩,λ a e2=>?_⟩;cases e2;exact ⟨o,e,ex.2.1⟩
 | _=>exact Hq ty
def Rw (K:PySem.W.Frag) (T:String) (r:V->List V->Hp->VK->Prop) (to:TE) (t:TA):TE:=λ σ H Q=>to σ H λ x H1=>Rp K T x H1/\t σ H1 λ xs H2=>r x xs H2 Q
variable {o e:Expr}{es:List Expr}{to:TE}{t:TA}{name:Str}{apos cpos:Pos}{T id:String}{r:V->List V->Hp->VK->Prop}
def VD (pa:PlainAttrs T) (slot:Slot T name id) (hty:typeOf (.builtin id)=pure (.type "method_descriptor")) (hm:bo X id r) (ho:PE X o to) (ha:PA X (e::es) t)
  (hbase:attributeBase o name X.env (eval o X.env)=eval o X.env:=by rfl)
  (hfew:((CM cpos (AE (e::es) X.env)).all (λ x=>!x.1) && (backToKw cpos (keywordEach [] X.env)).all (λ x=>x.1.isSome)
   && decide ((e::es).length + ([]:List Keyword).length + (if ([]:List Keyword).isEmpty then 0 else 1) < 30))=true:=by rfl)
  (hline:(apos.endLine == cpos.line)=true:=by rfl) (hs:AE (e::es) X.env=(false,eval e X.env)::AE es X.env:=by rfl) (hplain:(CM cpos (AE es X.env)).any (·.1)=false:=by rfl):
  PE X (.Call (.Attribute o name apos) (e::es) [] cpos) (Rw X.K T r to t):=by
 intro pins s σ H Q I h;refine wpAny_Call_method_late hbase hfew hline rfl (A4 (ho pins s σ H _ I h) λ v s1 ⟨x,H1,I1,r1,ty,q1⟩=>?_);obtain ⟨h1,h2⟩:=zL I1 r1 ty;refine ⟨T,id,pa,slot,hty,h1,h2,?_⟩;have hA:=ha cpos pins s1 σ H1 _ I1 q1;rw [hs] at hA ⊢;refine Calls.callWith_builtin (by show (false || (CM cpos (AE es X.env)).any (·.1))=false;rw [hplain] <;> rfl) (Calls.evalArgs_plain ?_);exact A4 hA λ us s2 ⟨vs,H2,I2,r2,q2⟩=>hm pins s2 σ H2 x vs v us Q I2 r1 r2 q2
end
def ZJ (X:Cx) (id:String) (r:V->List V->Hp->VK->Prop):Prop:=
 ∀ (pins:List (Addr×Obj)) (s:Ai) (σ:St) (H:Hp) (x:V) (xs:List V) (v:Ad) (us:List Ad) (Q:VK),Inv X pins σ H s->RelV x v->Vals xs us->r x xs H Q ->
  Ak (Ax X.prog X.w) X.A (call (.builtin id) (v::us)) (EP X pins σ Q) X.xe s
theorem Vals.one:∀ {x:V}{us:List Ad},Vals [x] us->∃ u,us=[u]/\RelV x u
 | _,_,.cons r .nil=>⟨_,rfl,r⟩
theorem Vals.rep {xs:List V}{us:List Ad} (h:Vals xs us):∀ k:Nat,Vals (AK k xs).flatten (AK k us).flatten
 | 0=>.nil
 | k + 1=>by
  rw [FC,FC,K6,K6];exact Vals.append h (Vals.rep h k)
theorem YA (its:List Ad):∀ (k:Nat) (acc:List Ad),
  Tc (λ x1 x2=>x1++x2) acc.toArray (AK k its.toArray)=(acc++(AK k its).flatten).toArray
 | 0,acc=>by simp
 | k + 1,acc=>by
  have e:acc.toArray++its.toArray=(acc++its).toArray:=by simp
  have e2:(acc++its)++(AK k its).flatten=acc++(AK (k + 1) its).flatten:=by
   rw [FC,K6,IC]
  rw [<- e2,<- YA its k (acc++its),<- e,FC,Zb]
section
variable {X:Cx}{pins:List (Addr×Obj)}{σ:St}{H:Hp}{s:Ai}{l b:Addr}{xs ys zs:List V}
def Inv.lset {its its':List Ad}{n:Nat}{f:Array Ad->Array Ad}{t':Nat} (I:Inv X pins σ H s) (hH:H l=some (.lst xs))
  (e:s.heap.get? l=some { cls:=.type "list",data:=.seq its.toArray n }) (hf:f its.toArray=its'.toArray) (hv:Vals ys its') (hz:ys.length<=Az):
  Inv X pins σ (Ao H l (.lst ys)) { s with heap:=s.heap.update l (IZ f),toks:=t' }:=by
 have q:=PySem.IsL.update e f;rw [hf] at q;refine I.write (x:=l) (e:=l) (by rw [hH];exact trivial) (.inl rfl) (λ b' u hb hu=>(N1 s.heap (IZ f) (BY hb)).trans hu) ⟨_,q⟩ ?_;exact ⟨hz,its',_,hv,q⟩
def Inv.lnew {its:List Ad}{t':Nat} (I:Inv X pins σ H s) (hv:Vals ys its) (hz:ys.length<=Az):
  Inv X pins σ (Ao H s.heap.objs.size (.lst ys)) { s with heap:=s.heap.push { cls:=.type "list",data:=.seq its.toArray },toks:=t' }:=
 I.laid (λ _ _ q=>Bj _ q) (AA _) ⟨hz,its,0,hv,BR _ rfl⟩
def Inv.fresh (I:Inv X pins σ H s):H s.heap.objs.size=none:=I.hok.fresh (AA _)
def Inv.lstM (I:Inv X pins σ H s) (hH:H l=some (.lst xs)):xs.length<=Az/\∃ (its:List Ad) (n:Nat),Vals xs its/\xs.length=its.length/\s.heap.get? l=some { cls:=.type "list",data:=.seq its.toArray n }:=by
 obtain ⟨z,its,n,r,e⟩:=I.hok l _ hH;exact ⟨z,its,n,r,r.length,e⟩
def XQ {n:Nat} (h:n<=Az):N3 n=false:=by
 unfold N3;exact decide_eq_false (by omega)
end
section
variable {X:Cx}
def Xg:V->List V->Hp->VK->Prop:=λ x vs H Q=>∃ l xs y,x=.ref l/\vs=[y]/\H l=some (.lst xs)/\xs.length < Az/\Q .non (Ao H l (.lst (xs++[y])))
def UG:ZJ X "list.append" Xg:=by
 intro pins s σ H x vs v us Q I rx rv h;obtain ⟨l,xs,y,rfl,rfl,hH,hz,q⟩:=h;cases rx;obtain ⟨u,rfl,ru⟩:=rv.one;obtain ⟨z,its,n,r,hl,e⟩:=I.lstM hH;refine call_meets F.slot_list_append ⟨_,e,rfl⟩ F.entry_list_append (F.args_list_append_2 _ _) (PySem.list_append l its.toArray n u (by rw [Cd];omega)) ⟨e,?_⟩;refine ⟨.non,_,I.lset (its':=its++[u]) hH e (by simp) (r.append (.cons ru .nil)) ?_,rfl,q⟩;rw [BM,EF];omega
def Xh:V->List V->Hp->VK->Prop:=λ x vs H Q=>∃ l b xs zs,x=.ref l/\vs=[.ref b]/\H l=some (.lst xs)/\H b=some (.lst zs)/\xs.length + zs.length<=Az/\Q .non (Ao H l (.lst (xs++zs)))
def yE:ZJ X "list.extend" Xh:=by
 intro pins s σ H x vs v us Q I rx rv h;obtain ⟨l,b,xs,zs,rfl,rfl,hH,hB,hz,q⟩:=h;cases rx;obtain ⟨u,rfl,ru⟩:=rv.one;cases ru;obtain ⟨z,its,n,r,hl,e⟩:=I.lstM hH;obtain ⟨z2,its2,n2,r2,hl2,e2⟩:=I.lstM hB;have hsz:its.toArray.size + its2.toArray.size<=Az:=by rw [Cd,Cd];omega
 have hlong:¬ (!its.toArray.isEmpty && N3 (its.toArray.size + its2.toArray.size))=true:=by
  rw [XQ hsz,OR];exact Cs
 refine call_meets F.slot_list_extend ⟨_,e,rfl⟩ F.entry_list_extend (F.args_list_extend_2 _ _)
  (AutoSeq1.list_extend_list_list_0 l its.toArray n b its2.toArray n2 hlong (by rw [Cd];omega) (by omega)) ⟨e,e2,?_⟩
 refine ⟨.non,_,I.lset (its':=its++its2) hH e (by simp) (r.append r2) ?_,rfl,q⟩;rw [BM];omega
def R5:R2:=λ x y H Q=>∃ l b xs zs,x=.ref l/\y=.ref b/\H l=some (.lst xs)/\H b=some (.lst zs)/\xs.length + zs.length<=Az/\∀ p,H p=none->Q (.ref p) (Ao H p (.lst (xs++zs)))
def qrm:OpR X (EN .Add) R5:=by
 intro pins s σ H x y v u Q I rx ry h;obtain ⟨l,b,xs,zs,rfl,rfl,hH,hB,hz,q⟩:=h;cases rx;cases ry;obtain ⟨z,its,n,r,hl,e⟩:=I.lstM hH;obtain ⟨z2,its2,n2,r2,hl2,e2⟩:=I.lstM hB;refine PySem.P.add_list e e2 ?_ (by rw [Cd,Cd];omega);have ea:its.toArray++its2.toArray=(its++its2).toArray:=by simp
 rw [ea];exact ⟨.ref _,_,I.lnew (t':=s.toks) (r.append r2) (by rw [BM];omega),rfl,q _ I.fresh⟩
def R4:R2:=λ x y H Q=>∃ l k xs,x=.ref l/\y=.int k/\H l=some (.lst xs)/\-(2 ^ 63)<=k/\k < 2 ^ 63/\xs.length * k.toNat<=Az /\
 ∀ p,H p=none->Q (.ref p) (Ao H p (.lst (AK k.toNat xs).flatten))
theorem jx {α:Type} (xs:List α) (k:Nat):(AK k xs).flatten.length=k * xs.length:=by
 induction k with
 | zero=>simp
 | succ k ih=>rw [FC,K6,BM,ih,OM,Nat.add_comm]
def xy:OpR X (EN .Mult) R4:=by
 intro pins s σ H x y v u Q I rx ry h;obtain ⟨l,k,xs,rfl,rfl,hH,h1,h2,hz,q⟩:=h;cases rx;obtain ⟨t,rfl⟩:=ry;obtain ⟨z,its,n,r,hl,e⟩:=I.lstM hH;have hlen:its.toArray.size * k.toNat<=Az:=by rw [Cd,<- hl];exact hz
 have hcap:¬ its.toArray.size * k.toNat > (2 ^ 63 - 1) / 8:=by
  have:(Az:Nat)<=(2 ^ 63 - 1) / 8:=by decide
  omega
 have hfit:¬ (!Builtin.List.listFitsIndex k)=true:=by
  rw [fitsIndex_both h1 h2];exact Cs
 have hlong:¬ N3 (its.toArray.size * k.toNat)=true:=by
  rw [XQ hlen];exact Cs
 have hnew:Tc (λ x1 x2=>x1++x2) #[] (AK (if its.toArray.isEmpty=true then 0 else k.toNat) its.toArray)=(AK k.toNat its).flatten.toArray:=by
  have f0:∀ m:Nat,Tc (λ x1 x2=>x1++x2) #[] (AK m its.toArray)=(AK m its).flatten.toArray:=λ m=>by
   have:=YA its m []
   rw [EW] at this;exact this
  rw [f0];cases its with
  | nil=>simp
  | cons a r'=>rw [if_neg (by simp)]
 refine wpAny_binaryOp_repeat_ref (T := "list") (U := "int") (by decide) ⟨_,e,rfl⟩ (λ s'=>typeIs_int s' k t) noFill_list_mul F.fills_int_mul F.slot_int_rmul repeat_list F.slot_int_index.lookup
  (call_meets F.slot_int_rmul (typeIs_int s k t) F.entry_int_rmul (F.args_int_rmul_2 _ _) (int___rmul___int_list k t l its.toArray n)
   ⟨e,rfl,⟨_,e,rfl⟩,call_meets F.slot_list_mul ⟨_,e,rfl⟩ F.entry_list_mul (F.args_list_mul_2 _ _) (AutoListH.list___mul___list_int_3 l its.toArray n k t hfit hcap hlong) ⟨e,?_⟩⟩)
 rw [hnew];exact ⟨.ref _,_,I.lnew (t':=s.toks) (r.rep k.toNat) (by rw [jx,HC];exact hz),rfl,q _ I.fresh⟩
end
section
variable {prog:A8}{w:A7}{A:BK}{E:Ad->Ai->Prop}{s:Ai}
end
section
variable {X:Cx}
end
end L2
namespace Att
open PySem PySem.W PySem.Calls PyProof.Rows
theorem ZT {P:Params}{h:Heap}:∀ (ns:List Int) (vs:List Ad),WellAll P h vs (ns.map WData.int)->IntsAre vs ns:=by
 intro ns;induction ns with
 | nil=>
  intro vs w;rw [GI] at w;cases w;exact .nil
 | cons n ns ih=>
  intro vs w;rw [Be] at w;cases w with
  | cons a b=>
   cases a;exact .cons _ _ (ih _ b)
theorem yD {l:OpenLaw}{n:Nat} (hn:l.most=some n) {P:Params}{h:Heap}{args:List WData}{vals:List Ad}
  (hpre:l.row.toRowW.claim.pre args=true) (hwl:WellAll P h vals args):
  ∃ a vs ns,vals=[Value.ref a]/\args=[WData.list (ns.map WData.int)]/\h.get? a=some { cls:=.type "list",data:=.seq vs.toArray }/\IntsAre vs ns/\ns.length<=n:=by
 have hsh:WShape.hasAll [] args [.list .int]=true:=(pre_splitW hpre).1;have hc:l.pre.holds [] { args:=args }=true:=(pre_splitW hpre).2;obtain ⟨d,r,rfl,h1,h2⟩:=hasAllW_cons hsh;obtain rfl:=hasAllW_nil h2;obtain ⟨xs,rfl,h3⟩:=hasW_list h1;obtain ⟨ns,rfl⟩:=items_int h3;have hlen:ns.length<=n:=by
  unfold OpenLaw.pre at hc;have h4:(WTm.not (.lt (.lit (.int (n:Int))) (.len (.arg 0)))).holds [] { args:=[.list (ns.map .int)] }=true:=by
   have h4:=(holds_andW hc).1;rw [hn] at h4;exact h4
  have h5:=condW_of h4 (w_not (w_lt w_lit (w_len_list (w_arg rfl))));rw [AG] at h5;refine Nat.le_of_not_lt λ q=>?_;have q':(n:Int) < ((ns.length:Nat):Int):=by omega
  first
   | (rw [decide_eq_true q'] at h5;exact absurd h5 (by decide))
   | (simp at h5;omega)
 cases hwl with
 | cons w1 w2=>
  cases w2;cases w1 with
  | list ho hall=>exact ⟨_,_,ns,rfl,rfl,ho,ZT ns _ hall,hlen⟩
def y9 (l:OpenLaw) (args:List WData):l.row.toRowW.claim.post args (.bool true) args=true:=
 postW_of (r:=l.row.toRowW) (X:=(true == true))
  (show WShape.has [] (.bool true) .bool=true by first | rfl | decide | simp [WShape.has,WShape.arms,WShape.armsAll])
  (show (WTm.eq .res (.lit (.bool true))).value [] { args:=args,res:=some (.bool true),after:=args }=some (.bool (true == true)) from w_eq_bool (w_res rfl) w_lit) rfl
def attach_call {l:OpenLaw}{n:Nat}{q:A8}{loose:List Str}{XP:(Str->Option Ad)->Heap->Prop}{YP:A7->Heap->Prop}{d:DefRec}
  (hn:l.most=some n) (hdf:d.params.defaults=[])
  (call:∀ (w:A7) (s₀ s₁:Ai) (mg mb:Str->Option Ad) (fa:Addr) (o:Obj) (pm cd doc:Ad) (a:Addr) (vs:List Ad) (ns:List Int),
   Ground q loose [] XP w s₀ mg mb s₁.heap->YP w s₁.heap ->
   s₁.heap.get? fa=some o->o.data=.func (docDef d.name d.params d.body d.scope pm cd doc)->s₁.heap.CodeRec cd d.name->mg d.name=some (.ref fa) ->
   s₁.heap.get? a=some { cls:=.type "list",data:=.seq vs.toArray }->IntsAre vs ns->ns.length<=n->s₁.gens=#[] ->
   Il (Ax l.prog w) IW (.call (.ref fa) ⟨[.ref a],[]⟩) (λ r s'=>r=.ok (.ret (.bool true))/\OldK s₁.heap s'.heap/\s'.os=s₁.os/\Ho s'.gens) s₁):
  WalkO q loose XP YP l.row.toRowW d [] (λ f vs=>PySem.call f vs):=by
 intro w s₀ s₁ mg mb G Y fa o pm cd doc dV kV ho hd hcd hD hmg hg args vals as hpre hlay hrd hwl hlo;obtain rfl:dV=.none:=Dflts.none hD hdf;obtain rfl:kV=.none:=Dflts.noKw hD;obtain ⟨a,vs,ns,rfl,rfl,hobj,hints,hlen⟩:=yD hn hpre hwl;refine enter_call (codeAny_mono (call w s₀ s₁ mg mb fa o pm cd doc a vs ns G Y ho (fd_plain hd) hcd hmg hobj hints hlen hg) λ r s' hq=>?_);obtain ⟨rfl,h2,h3,h4⟩:=hq;exact ⟨.inl ⟨.bool true,.bool true,[],rfl,λ _=>rfl,.bool true,y9 l _,λ _=>⟨List.Pairwise.nil,λ _ hm=>(nomatch hm)⟩⟩,h2,h3,h4⟩
section
variable {prog:A8}{w:A7}{A:BK}{E:Ad->Ai->Prop}{s:Ai}{K:Frag}
end
end Att
namespace L2
open PySem PySem.Spec PyProof.Rows
theorem UT:∀ {vs:List Ad}{ns:List Int},IntsAre vs ns->Vals (ns.map V.int) vs
 | _,_,.nil=>.nil
 | _,_,.cons n t h=>.cons ⟨t,rfl⟩ (UT h)
def HN (H:Hp):Prop:=∀ b,H b=none\/∃ o xs,H b=some (.frz o (.lst xs))
theorem vG {P:A8}{w:A7}{K:PySem.W.Frag}{mg mb:Str->Option Ad}{CX:FF}{k:Nat}{fa a:Addr}{fd:CU}{x:Str}{sp:Sp}{s₁:Ai}{vs:List Ad}{ns:List Int}
  (KX:K.In s₁.heap) (hns:s₁.heap.Ns EA mg) (hb:s₁.heap.Ns builtinsNs mb) (hbb:∀ x:Str,x ≠ "__name__" -> mb x=Jc x) (hlim:s₁.heap.NoLimit) (hg:s₁.gens=#[])
  (ha:s₁.heap.get? a=some { cls:=.type "list",data:=.seq vs.toArray }) (hi:IntsAre vs ns) (hl:ns.length<=Az) (hr:Room k IW)
  (F:∀ base:Heap,K.In base->base.Ns EA mg->FnOk P w K mg base CX k fa fd [x] sp) (hbind:∀ (s:Ai) (u:Ad),BindsTo s fd ⟨[u],[]⟩ [(x,u)])
  (hsp:∀ H:Hp,HN H->Bo K H a (ns.map V.int)->sp [.ref a] H (λ v _=>v=.bl true) λ _ _ _=>False)
  (hCX:∀ H e s',CX [] H s₁ (λ _ _ _=>False) e s'->False):
  Il (Ax P w) IW (.call (.ref fa) ⟨[.ref a],[]⟩) (λ r s'=>r=.ok (.ret (.bool true))/\OldK s₁.heap s'.heap/\s'.os=s₁.os/\Ho s'.gens) s₁:=by
 have rv:=UT hi;have lenV:=hi.length;have core:∀ H:Hp,HN H->Bo K H a (ns.map V.int)->HOk P w H s₁.heap->(∀ b,H b≠none->b=a)->(H a≠none->K.lookup a=none) ->
   Il (Ax P w) IW (.call (.ref fa) ⟨[.ref a],[]⟩) (λ r s'=>r=.ok (.ret (.bool true))/\OldK s₁.heap s'.heap/\s'.os=s₁.os/\Ho s'.gens) s₁:=by
  intro H hO hS hok hA hK;have base_of:∀ {b:Addr}{o:Obj},s₁.heap.get? b=some o->H b=none->(Dz s₁.heap H).get? b=some o:=λ e n=>vC e n;have noA:∀ {b:Addr}{o:Obj}{es:Array Ej}{ep:Nat},s₁.heap.get? b=some o->o.data=.dict es ep->H b=none:=λ {b o es ep} e d=>by
   cases q:H b with
   | none=>rfl
   | some u=>
    have e':b=a:=hA b (by rw [q];simp);subst e';rw [ha] at e;cases e;have d':Data.seq vs.toArray _=Data.dict es ep:=d;cases d'
  have nsK:∀ {b:Addr}{m:Str->Option Ad},s₁.heap.Ns b m->(Dz s₁.heap H).Ns b m:=λ {b m} ⟨o,es,ep,e,d,r⟩=>⟨o,es,ep,base_of e (noA e d),d,r⟩
  have hKb:K.In (Dz s₁.heap H):=λ b o e=>base_of (KX b o e) (by
   cases q:H b with
   | none=>rfl
   | some u=>
    have e':b=a:=hA b (by rw [q];simp);subst e';rw [hK (by rw [q];simp)] at e;cases e)
  have hM:Mod K mg (Dz s₁.heap H):=⟨hKb,nsK hns,⟨mb,nsK hb,hbb⟩,let ⟨mc,h1,h2⟩:=hlim;⟨mc,nsK h1,h2⟩⟩
  have e0:Env0 P w K mg (Dz s₁.heap H) IW [] s₁ H:=⟨rfl,hM,λ b o e=>jD e,YQ (yn _ _),trivial,λ b hb=>absurd (show b∈([]:List Addr) from hb) (by simp),hok,.of_eq hg⟩
  refine codeAny_mono ((F _ hKb (nsK hns)).run IW [] s₁ H ⟨[.ref a],[]⟩ [.ref a] [.ref a] _ _ hr e0 (hbind s₁ (.ref a)) (.cons rfl .nil) (hsp H hO hS)) λ r s' h=>?_;cases r with
  | error e=>exact (hCX H e s' h).elim
  | ok fl=>
   cases fl with
   | next=>exact Hq h
   | brk=>exact Hq h
   | cont=>exact Hq h
   | ret u=>
    obtain ⟨v,H',os,bare,un,hok',r',q⟩:=h;have q':v=.bl true:=q;subst q';obtain rfl:u=Value.bool true:=r';refine ⟨rfl,OldK.of_keep λ b o e=>?_,os,bare⟩;cases q:H b with
    | none=>exact un.keep b o e q (by intro z;exact absurd (show b∈([]:List Addr) from z) (by simp)) (by simp)
    | some u=>
     rcases hO b with z | ⟨ob,xs,z⟩
     ·rw [q] at z;cases z
     ·have z2:=un.frzs b ob _ z;obtain ⟨e1,_⟩:=hok b _ z;obtain ⟨e2,_⟩:=hok' b _ z2;rw [e] at e1;cases e1;exact e2
 cases hk:K.lookup a with
 | some o=>
  have e:=KX a o hk;rw [ha] at e;cases e;refine core (λ _=>none) (λ _=>.inl rfl) (.inr ⟨_,vs.toArray,_,hk,rfl,rfl,rfl,by rw [Cd,lenV];exact hl,by simpa using rv⟩) (λ b u z=>by have z':(none:Option HO)=some u:=z;cases z') (λ b z=>absurd rfl z) λ z=>absurd rfl z
 | none=>
  refine core (λ b=>if b=a then some (.frz { cls:=.type "list",data:=.seq vs.toArray } (.lst (ns.map V.int))) else none) (λ b=>?_) (.inl (.inr ⟨{ cls:=.type "list",data:=.seq vs.toArray },if_pos rfl⟩)) (λ b u z=>?_) (λ b z=>?_) λ _=>hk
  ·by_cases hb:b=a
   ·exact .inr ⟨_,_,if_pos hb⟩
   ·exact .inl (if_neg hb)
  ·by_cases hb:b=a
   ·have z':=(if_pos hb).symm.trans z;cases z';subst hb;exact ⟨ha,by rw [AG];exact hl,vs,_,rv,ha⟩
   ·have z':=(if_neg hb).symm.trans z;cases z'
  ·by_cases hb:b=a
   ·exact hb
   ·exact absurd (if_neg hb) z
structure Fun (K:PySem.W.Frag) (x qual:Str) (st:Stmt) (f:Addr) (fd:CU):Prop where
 ex:∃ (oc:Ad) (od:Option Addr) (kV doc pm:Ad) (an:Option Addr) (cdv ct:Ad) (osl:Array (Option Ad)),
  fd=Kg x qual (KR st) (AY st) (Aw st) .none kV doc pm an cdv ct/\K.lookup f=some ⟨oc,od,.func fd,osl⟩/\Q7 K cdv qual=true
 kp:Je K (.ref f)=true
section
variable {P:A8}{w:A7}{K:PySem.W.Frag}{mg:Str->Option Ad}{base:Heap}
def Fun.binds {x qual:Str}{st:Stmt}{f:Addr}{fd:CU}{ps:List Str} (F:Fun K x qual st f fd)
  (h:∀ (kV doc pm:Ad) (an:Option Addr) (cdv ct:Ad) (us:List Ad),us.length=ps.length->bindArgs (Kg x qual (KR st) (AY st) (Aw st) .none kV doc pm an cdv ct) ⟨us,[]⟩=pure (ps.zip us)):qa1 K fd ps []:=by
 obtain ⟨oc,od,kV,doc,pm,an,cdv,ct,osl,rfl,lk,hcd⟩:=F.ex;exact .all (h kV doc pm an cdv ct)
def qP {x qual:Str}{st:Stmt}{f:Addr}{oc:Ad}{od an:Option Addr}{osl:Array (Option Ad)}{kV doc pm cdv ct:Ad} (l:K.lookup f=some ⟨oc,od,.func (Kg x qual (KR st) (AY st) (Aw st) .none kV doc pm an cdv ct),osl⟩)
  (c:Q7 K cdv qual=true) (k:Je K (.ref f)=true):Fun K x qual st f (Kg x qual (KR st) (AY st) (Aw st) .none kV doc pm an cdv ct):=⟨⟨oc,od,kV,doc,pm,an,cdv,ct,osl,rfl,l,c⟩,k⟩
end
section
variable {X:Cx}
end
end L2
namespace QQ
open PySem PySem.Spec PyProof.Rows L2
abbrev St:=L2.St
def KL (K:Frag) (a:Addr) (xs:List V):Prop:=∃ (o:Obj) (its:Array Ad) (n:Nat),K.lookup a=some o/\o.cls=.type "list" /\ o.dict=none/\o.data=.seq its n/\its.size<=Az/\Vals xs its.toList
def Xs {K:Frag}{H:Hp}{a:Addr}{xs:List V} (h:Bo K H a xs):Rp K "list" (.ref a) H:=.inl ⟨rfl,xs,h⟩
def ZM (z:Str):It:=⟨λ i _=>i < z.cps.size,λ i H v H'=>H'=H/\∃ c,z.cps[i]?=some c/\v=.str ⟨#[c]⟩,λ i _=>z.cps.size<=i⟩
def O4 (z:Str):Bool:=z.cps.all (·< 128)
def EY (K:Frag) (tl:TE):TI:=λ σ H R=>tl σ H λ x H1=>(∃ a,x=.ref a/\(((∃ xs,Bo K H1 a xs)/\R (ZL K a) H1)\/((∃ xs,SqT K H1 a xs)/\R (ZK K a) H1)))\/∃ z,x=.str z/\O4 z=true/\R (ZM z) H1
def Jq (k:Nat) (wi:TI) (g:TG) (tc:TT) (te:TE):TE:=λ σ H Q=>wi σ H λ J H1=>∀ D,H1 D=none->∃ W:Nat->Nat->List V->Hp->Prop,(∃ m,W 0 m [] (Ao H1 D (.lst [])))/\∀ i m ys H,W i m ys H->H D=some (.lst ys) /\
 ((J.stop i H/\Q (.ref D) H)\/(J.go i H/\∀ x H',J.yld i H x H'->g x (σ++AK k none) H' λ σ2 H2=>tc σ2 H2 λ b H3=>if b=true then te σ2 H3 λ y H4=>H4 D=some (.lst ys)/\ys.length < Az/\∃ m',m' < m/\W (i + 1) m' (ys++[y]) (Ao H4 D (.lst (ys++[y]))) else ∃ m',m' < m/\W (i + 1) m' ys H3))
inductive PV where
 | non | bl (b:Bool) | int (i:Int) | str (x:Str) | lst (xs:List PV) | tup (xs:List PV) | emp | dko | scr (ns:List Int) | dct (kvs:List (List Ay×V)) | dcl (ks:List (List Ay)) (xs:List PV) | exn (c:Nat)
 deriving Inhabited
inductive MO where
 | l (xs:List V) | d (kvs:List (List Ay×V))
def MO.ho:MO->HO
 | .l xs=>.lst xs
 | .d kvs=>.dT kvs
def XN:List Str:=["PileError","NoBox","NoPile","NoStairs","NoWays","NoRoad","NoNumber","NoPlace","TooMany","NoText","NoName","NoRow"]
def R9 (K:Frag) (c:Nat):Option Addr:=match XN[c]? with
 | some x=>(match PySem.W.nsIn K EA x with
  | some (some (.ref C))=>some C
  | _=>none)
 | none=>none
def qg (a C:Addr) (h:Heap):Prop:=∃ o vs,h.get? a=some o/\o.cls=.ref C/\o.data=.fields vs
def om:Nat:=1000
def pd (d:Nat):Nat:=if d=om then om else d - 1
def qR:pd om=om:=rfl
def MJ:pd 0=0:=rfl
mutual
def Own (K:Frag) (H:Hp) (Z:Addr->Prop):PV->Nat->V->List Addr->Prop
 | .non,_,v,fp=>v=.non/\fp=[]
 | .bl b,_,v,fp=>v=.bl b/\fp=[]
 | .int i,_,v,fp=>v=.int i/\fp=[]
 | .str x,_,v,fp=>v=.str x/\fp=[]
 | .emp,_,v,fp=>fp=[]/\∃ a,v=.ref a/\H a=some (.dK [])
 | .dko,_,v,fp=>fp=[]/\∃ a,v=.ref a/\∃ kvs,H a=some (.dK kvs)
 | .scr ns,_,v,fp=>fp=[]/\∃ a,v=.ref a/\((∃ o,H a=some (.frz o (.lst (ns.map V.int))))\/KL K a (ns.map V.int))
 | .exn c,_,v,fp=>fp=[]/\∃ a C,v=.ref a/\R9 K c=some C/\H a=some (.ext (qg a C))
 | .dct kvs,d,v,fp=>∃ a,v=.ref a/\((d=0/\(Rd H a (.dT kvs)/\¬ Z a)/\fp=[])\/(d≠0/\H a=some (.dT kvs)/\fp=[a]))
 | .dcl ks xs,d,v,fp=>∃ a vs,v=.ref a/\ks.length=xs.length/\((d=0/\(Rd H a (.dT (ks.zip vs))/\¬ Z a)/\fp=[]/\OwnL K H Z xs 0 vs [])\/(d≠0/\∃ f,H a=some (.dT (ks.zip vs))/\fp=a::f/\a∉f/\OwnL K H Z xs (pd d) vs f))
 | .lst xs,d,v,fp=>∃ a vs,v=.ref a/\((d=0/\(H a=some (.lst vs)/\¬ Z a)/\fp=[]/\OwnL K H Z xs 0 vs [])\/(d≠0/\∃ f,H a=some (.lst vs)/\fp=a::f/\a∉f/\OwnL K H Z xs (pd d) vs f))
 | .tup xs,d,v,fp=>∃ a vs,v=.ref a/\H a=some (.tup vs)/\OwnL K H Z xs (pd d) vs fp
def OwnL (K:Frag) (H:Hp) (Z:Addr->Prop):List PV->Nat->List V->List Addr->Prop
 | [],_,vs,fp=>vs=[]/\fp=[]
 | x::xs,d,vs,fp=>∃ v r f1 f2,vs=v::r/\fp=f1++f2/\(∀ a∈f1,a∉f2)/\Own K H Z x d v f1/\OwnL K H Z xs d r f2
end
def D1 (S:Addr->Prop) (H H':Hp):Prop:=∀ a o,H a=some o->¬ S a->H' a=some o
def Rd.keepS {S:Addr->Prop}{H H':Hp}{a:Addr}{u:HO} (k:D1 S H H') (h:Rd H a u) (n:¬ S a):Rd H' a u:=h.elim (λ e=>.inl (k a _ e n)) λ ⟨o,e⟩=>.inr ⟨o,k a _ e n⟩
def Rd.ne {H:Hp}{a:Addr}{u:HO} (h:Rd H a u):H a≠none:=by
 rcases h with e | ⟨o,e⟩ <;> rw [e] <;> simp
section
variable {K:Frag}{H H':Hp}{Z Z' S:Addr->Prop}
mutual
theorem Own.lsts:∀ (x:PV) (d:Nat) (v:V) (fp:List Addr),Own K H Z x d v fp->∀ a∈fp,∃ o:MO,H a=some o.ho
 | .non,_,_,_,h,a,ha=>by rw [Own] at h;rw [h.2] at ha;cases ha
 | .bl _,_,_,_,h,a,ha=>by rw [Own] at h;rw [h.2] at ha;cases ha
 | .int _,_,_,_,h,a,ha=>by rw [Own] at h;rw [h.2] at ha;cases ha
 | .str _,_,_,_,h,a,ha=>by rw [Own] at h;rw [h.2] at ha;cases ha
 | .emp,_,_,_,h,a,ha=>by rw [Own] at h;rw [h.1] at ha;cases ha
 | .dko,_,_,_,h,a,ha=>by rw [Own] at h;rw [h.1] at ha;cases ha
 | .scr _,_,_,_,h,a,ha=>by rw [Own] at h;rw [h.1] at ha;cases ha
 | .exn _,_,_,_,h,a,ha=>by rw [Own] at h;rw [h.1] at ha;cases ha
 | .dct kvs,d,v,fp,h,a,ha=>by
  rw [Own] at h;obtain ⟨b,_,⟨_,_,e⟩ | ⟨_,hb,e⟩⟩:=h
  ·rw [e] at ha;cases ha
  ·rw [e] at ha;rw [jb6.mp ha];exact ⟨.d kvs,hb⟩
 | .dcl ks xs,d,v,fp,h,a,ha=>by
  rw [Own] at h;obtain ⟨b,vs,_,_,⟨_,_,e,_⟩ | ⟨_,f,hb,e,_,hl⟩⟩:=h
  ·rw [e] at ha;cases ha
  ·rw [e] at ha;rcases jb4.mp ha with z | z
   ·exact ⟨.d (ks.zip vs),by rw [z];exact hb⟩
   ·exact OwnL.lsts xs _ vs f hl a z
 | .lst xs,d,v,fp,h,a,ha=>by
  rw [Own] at h;obtain ⟨b,vs,_,⟨_,_,e,_⟩ | ⟨_,f,hb,e,_,hl⟩⟩:=h
  ·rw [e] at ha;cases ha
  ·rw [e] at ha;rcases jb4.mp ha with z | z
   ·exact ⟨.l vs,by rw [z];exact hb⟩
   ·exact OwnL.lsts xs _ vs f hl a z
 | .tup xs,d,v,fp,h,a,ha=>by
  rw [Own] at h;obtain ⟨b,vs,_,_,hl⟩:=h;exact OwnL.lsts xs _ vs fp hl a ha
theorem OwnL.lsts:∀ (xs:List PV) (d:Nat) (vs:List V) (fp:List Addr),OwnL K H Z xs d vs fp->∀ a∈fp,∃ o:MO,H a=some o.ho
 | [],_,_,_,h,a,ha=>by rw [OwnL] at h;rw [h.2] at ha;cases ha
 | x::xs,d,vs,fp,h,a,ha=>by
  rw [OwnL] at h;obtain ⟨v,r,f1,f2,_,e,_,h1,h2⟩:=h;rw [e] at ha;rcases jd4.mp ha with z | z
  ·exact Own.lsts x d v f1 h1 a z
  ·exact OwnL.lsts xs d r f2 h2 a z
end
mutual
theorem Own.move (k:D1 S H H') (hS:∀ a,S a->Z a/\∃ o:MO,H a=some o.ho) (hz:∀ a,H a≠none->¬ Z a->¬ Z' a):
  ∀ (x:PV) (d:Nat) (v:V) (fp:List Addr),(∀ a∈fp,¬ S a)->Own K H Z x d v fp->Own K H' Z' x d v fp
 | .non,_,_,_,_,h=>by rw [Own] at h ⊢;exact h
 | .bl _,_,_,_,_,h=>by rw [Own] at h ⊢;exact h
 | .int _,_,_,_,_,h=>by rw [Own] at h ⊢;exact h
 | .str _,_,_,_,_,h=>by rw [Own] at h ⊢;exact h
 | .emp,_,_,_,_,h=>by
  rw [Own] at h ⊢;obtain ⟨e,a,ev,ha⟩:=h;exact ⟨e,a,ev,k a _ ha λ s=>by obtain ⟨_,o,e⟩:=hS a s;rw [ha] at e;cases o <;> cases e⟩
 | .dko,_,_,_,_,h=>by
  rw [Own] at h ⊢;obtain ⟨e,a,ev,kvs,ha⟩:=h;exact ⟨e,a,ev,kvs,k a _ ha λ s=>by obtain ⟨_,o,e⟩:=hS a s;rw [ha] at e;cases o <;> cases e⟩
 | .scr ns,_,_,_,_,h=>by
  rw [Own] at h ⊢;obtain ⟨e,a,ev,⟨o,ha⟩ | ha⟩:=h
  ·exact ⟨e,a,ev,.inl ⟨o,k a _ ha λ s=>by obtain ⟨_,q,e⟩:=hS a s;rw [ha] at e;cases q <;> cases e⟩⟩
  ·exact ⟨e,a,ev,.inr ha⟩
 | .exn c,_,_,_,_,h=>by
  rw [Own] at h ⊢;obtain ⟨e,a,C,ev,hc,ha⟩:=h;exact ⟨e,a,C,ev,hc,k a _ ha λ s=>by obtain ⟨_,q,e⟩:=hS a s;rw [ha] at e;cases q <;> cases e⟩
 | .dct kvs,d,v,fp,hf,h=>by
  rw [Own] at h ⊢;obtain ⟨b,ev,⟨d0,hr,e⟩ | ⟨d0,hb,e⟩⟩:=h
  ·exact ⟨b,ev,.inl ⟨d0,⟨Rd.keepS k hr.1 λ s=>hr.2 (hS b s).1,hz b (Rd.ne hr.1) hr.2⟩,e⟩⟩
  ·exact ⟨b,ev,.inr ⟨d0,k b _ hb (hf b (by rw [e];exact AL)),e⟩⟩
 | .dcl ks xs,d,v,fp,hf,h=>by
  rw [Own] at h ⊢;obtain ⟨b,vs,ev,en,⟨d0,hr,e,hl⟩ | ⟨d0,f,hb,e,nb,hl⟩⟩:=h
  ·refine ⟨b,vs,ev,en,.inl ⟨d0,?_,e,OwnL.move k hS hz xs 0 vs [] (λ _ z=>nomatch z) hl⟩⟩;exact ⟨Rd.keepS k hr.1 λ s=>hr.2 (hS b s).1,hz b (Rd.ne hr.1) hr.2⟩
  ·refine ⟨b,vs,ev,en,.inr ⟨d0,f,k b _ hb (hf b (by rw [e];exact AL)),e,nb,?_⟩⟩;exact OwnL.move k hS hz xs _ vs f (λ a ha=>hf a (by rw [e];exact AM _ ha)) hl
 | .lst xs,d,v,fp,hf,h=>by
  rw [Own] at h ⊢;obtain ⟨b,vs,ev,⟨d0,hr,e,hl⟩ | ⟨d0,f,hb,e,nb,hl⟩⟩:=h
  ·refine ⟨b,vs,ev,.inl ⟨d0,?_,e,OwnL.move k hS hz xs 0 vs [] (λ _ z=>nomatch z) hl⟩⟩;exact ⟨k b _ hr.1 λ s=>hr.2 (hS b s).1,hz b (by rw [hr.1];simp) hr.2⟩
  ·refine ⟨b,vs,ev,.inr ⟨d0,f,k b _ hb (hf b (by rw [e];exact AL)),e,nb,?_⟩⟩;exact OwnL.move k hS hz xs _ vs f (λ a ha=>hf a (by rw [e];exact AM _ ha)) hl
 | .tup xs,d,v,fp,hf,h=>by
  rw [Own] at h ⊢;obtain ⟨b,vs,ev,hr,hl⟩:=h;exact ⟨b,vs,ev,k b _ hr (λ s=>by obtain ⟨_,o,e⟩:=hS b s;rw [hr] at e;cases o <;> cases e),OwnL.move k hS hz xs _ vs fp hf hl⟩
theorem OwnL.move (k:D1 S H H') (hS:∀ a,S a->Z a/\∃ o:MO,H a=some o.ho) (hz:∀ a,H a≠none->¬ Z a->¬ Z' a):
  ∀ (xs:List PV) (d:Nat) (vs:List V) (fp:List Addr),(∀ a∈fp,¬ S a)->OwnL K H Z xs d vs fp->OwnL K H' Z' xs d vs fp
 | [],_,_,_,_,h=>by rw [OwnL] at h ⊢;exact h
 | x::xs,d,vs,fp,hf,h=>by
  rw [OwnL] at h ⊢;obtain ⟨v,r,f1,f2,e1,e,dj,h1,h2⟩:=h;exact ⟨v,r,f1,f2,e1,e,dj,Own.move k hS hz x d v f1 (λ a ha=>hf a (by rw [e];exact BW _ ha)) h1,OwnL.move k hS hz xs d r f2 (λ a ha=>hf a (by rw [e];exact BX _ ha)) h2⟩
end
mutual
theorem Own.freeze (hz:∀ a,Z' a->Z a):∀ (x:PV) (d:Nat) (v:V) (fp:List Addr),(∀ a∈fp,¬ Z' a)->Own K H Z x d v fp->Own K H Z' x 0 v []
 | .non,_,_,_,_,h=>by rw [Own] at h ⊢;exact ⟨h.1,rfl⟩
 | .bl _,_,_,_,_,h=>by rw [Own] at h ⊢;exact ⟨h.1,rfl⟩
 | .int _,_,_,_,_,h=>by rw [Own] at h ⊢;exact ⟨h.1,rfl⟩
 | .str _,_,_,_,_,h=>by rw [Own] at h ⊢;exact ⟨h.1,rfl⟩
 | .emp,_,_,_,_,h=>by rw [Own] at h ⊢;exact ⟨rfl,h.2⟩
 | .dko,_,_,_,_,h=>by rw [Own] at h ⊢;exact ⟨rfl,h.2⟩
 | .scr _,_,_,_,_,h=>by rw [Own] at h ⊢;exact ⟨rfl,h.2⟩
 | .exn _,_,_,_,_,h=>by rw [Own] at h ⊢;exact ⟨rfl,h.2⟩
 | .dct kvs,d,v,fp,hf,h=>by
  rw [Own] at h ⊢;obtain ⟨b,ev,⟨d0,hr,e⟩ | ⟨d0,hb,e⟩⟩:=h
  ·exact ⟨b,ev,.inl ⟨rfl,⟨hr.1,λ z=>hr.2 (hz b z)⟩,rfl⟩⟩
  ·exact ⟨b,ev,.inl ⟨rfl,⟨.inl hb,hf b (by rw [e];exact AL)⟩,rfl⟩⟩
 | .dcl ks xs,d,v,fp,hf,h=>by
  rw [Own] at h ⊢;obtain ⟨b,vs,ev,en,⟨d0,hr,e,hl⟩ | ⟨d0,f,hb,e,nb,hl⟩⟩:=h
  ·refine ⟨b,vs,ev,en,.inl ⟨rfl,?_,rfl,OwnL.freeze hz xs 0 vs [] (λ _ z=>nomatch z) hl⟩⟩;exact ⟨hr.1,λ z=>hr.2 (hz b z)⟩
  ·exact ⟨b,vs,ev,en,.inl ⟨rfl,⟨.inl hb,hf b (by rw [e];exact AL)⟩,rfl,OwnL.freeze hz xs _ vs f (λ a ha=>hf a (by rw [e];exact AM _ ha)) hl⟩⟩
 | .lst xs,d,v,fp,hf,h=>by
  rw [Own] at h ⊢;obtain ⟨b,vs,ev,⟨d0,hr,e,hl⟩ | ⟨d0,f,hb,e,nb,hl⟩⟩:=h
  ·refine ⟨b,vs,ev,.inl ⟨rfl,?_,rfl,OwnL.freeze hz xs 0 vs [] (λ _ z=>nomatch z) hl⟩⟩;exact ⟨hr.1,λ z=>hr.2 (hz b z)⟩
  ·exact ⟨b,vs,ev,.inl ⟨rfl,⟨hb,hf b (by rw [e];exact AL)⟩,rfl,OwnL.freeze hz xs _ vs f (λ a ha=>hf a (by rw [e];exact AM _ ha)) hl⟩⟩
 | .tup xs,d,v,fp,hf,h=>by
  rw [Own] at h ⊢;obtain ⟨b,vs,ev,hr,hl⟩:=h;exact ⟨b,vs,ev,hr,OwnL.freeze hz xs _ vs fp hf hl⟩
theorem OwnL.freeze (hz:∀ a,Z' a->Z a):∀ (xs:List PV) (d:Nat) (vs:List V) (fp:List Addr),(∀ a∈fp,¬ Z' a)->OwnL K H Z xs d vs fp->OwnL K H Z' xs 0 vs []
 | [],_,_,_,_,h=>by rw [OwnL] at h ⊢;exact ⟨h.1,rfl⟩
 | x::xs,d,vs,fp,hf,h=>by
  rw [OwnL] at h ⊢;obtain ⟨v,r,f1,f2,e1,e,dj,h1,h2⟩:=h;exact ⟨v,r,[],[],e1,rfl,λ _ z=>(nomatch z),Own.freeze hz x d v f1 (λ a ha=>hf a (by rw [e];exact BW _ ha)) h1,OwnL.freeze hz xs d r f2 (λ a ha=>hf a (by rw [e];exact BX _ ha)) h2⟩
end
mutual
theorem Own.full:∀ (x:PV) (v:V) (fp:List Addr),Own K H Z x om v fp->Own K H Z' x om v fp
 | .non,_,_,h=>by rw [Own] at h ⊢;exact h
 | .bl _,_,_,h=>by rw [Own] at h ⊢;exact h
 | .int _,_,_,h=>by rw [Own] at h ⊢;exact h
 | .str _,_,_,h=>by rw [Own] at h ⊢;exact h
 | .emp,_,_,h=>by rw [Own] at h ⊢;exact h
 | .dko,_,_,h=>by rw [Own] at h ⊢;exact h
 | .scr _,_,_,h=>by rw [Own] at h ⊢;exact h
 | .exn _,_,_,h=>by rw [Own] at h ⊢;exact h
 | .dct kvs,v,fp,h=>by
  rw [Own] at h ⊢;obtain ⟨b,ev,⟨d0,_⟩ | ⟨d0,hb,e⟩⟩:=h
  ·exact absurd d0 (by decide)
  ·exact ⟨b,ev,.inr ⟨d0,hb,e⟩⟩
 | .dcl ks xs,v,fp,h=>by
  rw [Own] at h ⊢;obtain ⟨b,vs,ev,en,⟨d0,_⟩ | ⟨d0,f,hb,e,nb,hl⟩⟩:=h
  ·exact absurd d0 (by decide)
  ·exact ⟨b,vs,ev,en,.inr ⟨d0,f,hb,e,nb,OwnL.full xs vs f hl⟩⟩
 | .lst xs,v,fp,h=>by
  rw [Own] at h ⊢;obtain ⟨b,vs,ev,⟨d0,_⟩ | ⟨d0,f,hb,e,nb,hl⟩⟩:=h
  ·exact absurd d0 (by decide)
  ·exact ⟨b,vs,ev,.inr ⟨d0,f,hb,e,nb,OwnL.full xs vs f hl⟩⟩
 | .tup xs,v,fp,h=>by
  rw [Own] at h ⊢;obtain ⟨b,vs,ev,hr,hl⟩:=h;exact ⟨b,vs,ev,hr,OwnL.full xs vs fp hl⟩
theorem OwnL.full:∀ (xs:List PV) (vs:List V) (fp:List Addr),OwnL K H Z xs om vs fp->OwnL K H Z' xs om vs fp
 | [],_,_,h=>by rw [OwnL] at h ⊢;exact h
 | x::xs,vs,fp,h=>by
  rw [OwnL] at h ⊢;obtain ⟨v,r,f1,f2,e1,e,dj,h1,h2⟩:=h;exact ⟨v,r,f1,f2,e1,e,dj,Own.full x v f1 h1,OwnL.full xs r f2 h2⟩
end
def Own.weak (hz:∀ a,Z' a->Z a) {x:PV}{d:Nat}{v:V}{fp:List Addr} (h:Own K H Z x d v fp):Own K H Z' x d v fp:=
 Own.move (S:=λ _=>False) (λ _ _ h _=>h) (λ _ z=>z.elim) (λ a _ n z=>n (hz a z)) x d v fp (λ _ _ z=>z) h
def OwnL.weak (hz:∀ a,Z' a->Z a) {xs:List PV}{d:Nat}{vs:List V}{fp:List Addr} (h:OwnL K H Z xs d vs fp):OwnL K H Z' xs d vs fp:=
 OwnL.move (S:=λ _=>False) (λ _ _ h _=>h) (λ _ z=>z.elim) (λ a _ n z=>n (hz a z)) xs d vs fp (λ _ _ z=>z) h
end
abbrev Slot:=Option (PV×Nat)
abbrev Af:=List Slot
inductive Rz (α:Type) where
 | ok (a:α) | exc (c:Nat) | no
def Rz.bind {α β:Type} (r:Rz α) (f:α->Rz β):Rz β:=match r with
 | .ok a=>f a
 | .exc c=>.exc c
 | .no=>.no
abbrev Fx:=Af->Rz (PV×Nat×Af)
abbrev Fa:=Af->Rz (List (PV×Nat)×Af)
abbrev Fb:=Af->Rz (Bool×Af)
structure Fm where
 K:Frag
 Ms:Nat->Bool
 Zo:Addr->Prop
 H₀:Hp
 W:St->Nat->Hp->Prop
 io:Option V
 al:Nat->List Nat
 pn:List (Nat×V):=[]
abbrev AW:=Nat->List Addr
def Fm.Fre (M:Fm) (i:Nat):Prop:=(M.io≠none->i≠0)/\∀ p∈M.pn,p.1≠i
def Zf (M:Fm) (fps:AW):Addr->Prop:=λ a=>M.Zo a\/∃ i,a∈fps i
def Zv (M:Fm) (vs:List Nat) (fps:AW):Addr->Prop:=λ a=>M.Zo a\/∃ i,i∉vs/\a∈fps i
def Za (M:Fm) (fps:AW) (i:Nat):Addr->Prop:=λ a=>M.Zo a\/∃ j,j∉M.al i/\a∈fps j
def Zt (M:Fm) (vs:List Nat) (fps:AW) (fp:List Addr):Addr->Prop:=λ a=>Zv M vs fps a\/a∈fp
def Fm.plus (M:Fm) (fp:List Addr):Fm:={ M with Zo:=λ a=>M.Zo a\/a∈fp }
structure Rep (M:Fm) (ρ:Af) (σ:St) (H:Hp) (fps:AW):Prop where
 own:∀ i x d,ρ[i]?=some (some (x,d))->∃ v,σ[i]?=some (some v)/\Own M.K H (Za M fps i) x d v (fps i)
 non:∀ i,(∀ p,ρ[i]?≠some (some p))->fps i=[]
 dj:∀ i j,i≠j->∀ a∈fps i,a∉fps j
 zo:∀ i,∀ a∈fps i,¬ M.Zo a
 fr:∀ i,M.Ms i=false->∀ a∈fps i,M.H₀ a=none
 zd:∀ a,M.Zo a->H a≠none
 len:ρ.length=σ.length
 msf:∀ i x d,M.Ms i=true->ρ[i]?=some (some (x,d))->d=om
 h0:∀ a,M.H₀ a≠none->H a≠none
 iov:(∀ v,M.io=some v->σ[0]?=some (some v)/\M.Ms 0=true)/\∀ p∈M.pn,σ[p.1]?=some (some p.2)
def Agr (M:Fm) (ρ ρ':Af):Prop:=(∀ i,M.Ms i=false->ρ'[i]?=ρ[i]?)/\ρ'.length=ρ.length
structure KD (M:Fm) (H:Hp) (fps:AW) (H':Hp) (fps':AW):Prop where
 keep:D1 (λ a=>∃ i,M.Ms i=true/\a∈fps i) H H'
 dom:∀ a,H a≠none->H' a≠none
 sub:∀ i,∀ a∈fps' i,a∈fps i\/H a=none
 same:∀ i,M.Ms i=false->fps' i=fps i
def Tmps (K:Frag) (H:Hp) (Z:Addr->Prop):List (PV×Nat)->List V->List Addr->Prop
 | [],vs,fp=>vs=[]/\fp=[]
 | (x,d)::xs,vs,fp=>∃ v r f1 f2,vs=v::r/\fp=f1++f2/\(∀ a∈f1,a∉f2)/\Own K H (λ a=>Z a\/a∈f1) x d v f1/\Tmps K H Z xs r f2
structure Temp (M:Fm) (vs:List Nat) (H:Hp) (H':Hp) (fps':AW) (fp:List Addr):Prop where
 new:∀ a∈fp,H a=none
 ndj:∀ a∈fp,¬ Zf M fps' a
section
variable {M:Fm}{ρ ρ':Af}{σ:St}{H H' H'':Hp}{fps fps' fps'':AW}{vs vs':List Nat}
def Agr.refl:Agr M ρ ρ:=⟨λ _ _=>rfl,rfl⟩
def Agr.trans {ρ'':Af} (a:Agr M ρ ρ') (b:Agr M ρ' ρ''):Agr M ρ ρ'':=⟨λ i hi=>(b.1 i hi).trans (a.1 i hi),b.2.trans a.2⟩
def KD.refl:KD M H fps H fps:=⟨λ _ _ h _=>h,λ _ h=>h,λ _ _ h=>.inl h,λ _ _=>rfl⟩
def KD.trans (a:KD M H fps H' fps') (b:KD M H' fps' H'' fps''):KD M H fps H'' fps'' where
 keep:=λ x o h n=>b.keep x o (a.keep x o h n) λ ⟨i,hi,hx⟩=>(a.sub i x hx).elim (λ z=>n ⟨i,hi,z⟩) λ z=>by rw [z] at h;cases h
 dom:=λ x h=>b.dom x (a.dom x h)
 sub:=λ i x hx=>(b.sub i x hx).elim (λ z=>a.sub i x z) λ z=>.inr (by
  cases e:H x with
  | none=>rfl
  | some o=>exact absurd z (a.dom x (by rw [e];simp)))
 same:=λ i hi=>(b.same i hi).trans (a.same i hi)
def Za.zf {i:Nat}{a:Addr} (h:Za M fps i a):Zf M fps a:=h.elim .inl λ ⟨j,_,h⟩=>.inr ⟨j,h⟩
def Za.of {i:Nat} (hal:M.al i=[]) {a:Addr} (h:Zf M fps a):Za M fps i a:=h.elim .inl λ ⟨j,h⟩=>.inr ⟨j,(by rw [hal];simp),h⟩
def Rep.own0 (r:Rep M ρ σ H fps) (hal:∀ i,M.al i=[]) (i:Nat) (x:PV) (d:Nat) (e:ρ[i]?=some (some (x,d))):∃ v,σ[i]?=some (some v)/\Own M.K H (Zf M fps) x d v (fps i):=
 let ⟨v,h1,h2⟩:=r.own i x d e;⟨v,h1,h2.weak λ _ h=>Za.of (hal i) h⟩
def Rep.lsts (r:Rep M ρ σ H fps) {i:Nat}{a:Addr} (h:a∈fps i):∃ o:MO,H a=some o.ho:=by
 by_cases hp:∃ p,ρ[i]?=some (some p)
 ·obtain ⟨⟨x,d⟩,e⟩:=hp;obtain ⟨v,_,o⟩:=r.own i x d e;exact Own.lsts x d v _ o a h
 ·rw [r.non i λ p e=>hp ⟨p,e⟩] at h;cases h
def Rep.zdom (r:Rep M ρ σ H fps) {a:Addr} (h:Zf M fps a):H a≠none:=by
 rcases h with h | ⟨i,h⟩
 ·exact r.zd a h
 ·obtain ⟨xs,e⟩:=r.lsts h;rw [e];simp
def Rep.nz (r:Rep M ρ σ H fps) {a:Addr} (h:H a=none):¬ Zf M fps a:=λ z=>r.zdom z h
def Zv.zf {a:Addr} (h:Zv M vs fps a):Zf M fps a:=h.elim .inl λ ⟨i,_,h⟩=>.inr ⟨i,h⟩
def Zv.mono (hv:∀ i∈vs',i∈vs) {a:Addr} (h:Zv M vs fps a):Zv M vs' fps a:=h.elim .inl λ ⟨i,n,h⟩=>.inr ⟨i,λ z=>n (hv i z),h⟩
def Zt.mono (hv:∀ i∈vs',i∈vs) {a:Addr}{fp:List Addr} (h:Zt M vs fps fp a):Zt M vs' fps fp a:=h.elim (λ h=>.inl (h.mono hv)) .inr
def KD.stay (k:KD M H fps H' fps') (r:Rep M ρ σ H fps) (hv:∀ i∈vs,M.Ms i=false) {x:PV}{d:Nat}{v:V}{fp:List Addr} (h:Own M.K H (Zt M vs fps fp) x d v fp) (hf:∀ a∈fp,¬ Zf M fps a):Own M.K H' (Zt M vs fps' fp) x d v fp:=by
 have h1:∀ a,(∃ i,M.Ms i=true/\a∈fps i)->Zt M vs fps fp a/\∃ o:MO,H a=some o.ho:=by
  rintro a ⟨i,hi,ha⟩;exact ⟨.inl (.inr ⟨i,λ z=>(by rw [hv i z] at hi;cases hi),ha⟩),r.lsts ha⟩
 have h2:∀ a,H a≠none->¬ Zt M vs fps fp a->¬ Zt M vs fps' fp a:=by
  intro a hd nz z;rcases z with (z | ⟨i,ni,hx⟩) | z
  ·exact nz (.inl (.inl z))
  ·rcases k.sub i a hx with z | z
   ·exact nz (.inl (.inr ⟨i,ni,z⟩))
   ·exact hd z
  ·exact nz (.inr z)
 exact Own.move k.keep h1 h2 x d v fp (λ a ha ⟨i,_,hx⟩=>hf a ha (.inr ⟨i,hx⟩)) h
theorem KD.stays (k:KD M H fps H' fps') (r:Rep M ρ σ H fps) (hv:∀ i∈vs,M.Ms i=false):∀ {xs:List (PV×Nat)}{ws:List V}{fp:List Addr},Tmps M.K H (Zv M vs fps) xs ws fp->(∀ a∈fp,¬ Zf M fps a)->Tmps M.K H' (Zv M vs fps') xs ws fp
 | [],_,_,h,_=>h
 | (x,d)::xs,ws,fp,h,hf=>by
  obtain ⟨v,s,f1,f2,e1,e2,dj,h1,h2⟩:=h;exact ⟨v,s,f1,f2,e1,e2,dj,k.stay r hv h1 λ a ha=>hf a (by rw [e2];exact BW _ ha),k.stays r hv h2 λ a ha=>hf a (by rw [e2];exact BX _ ha)⟩
theorem Tmps.weak {K:Frag}{Z Z':Addr->Prop} (hz:∀ a,Z' a->Z a):∀ {xs:List (PV×Nat)}{ws:List V}{fp:List Addr},Tmps K H Z xs ws fp->Tmps K H Z' xs ws fp
 | [],_,_,h=>h
 | (x,d)::xs,ws,fp,h=>by
  obtain ⟨v,s,f1,f2,e1,e2,dj,h1,h2⟩:=h;exact ⟨v,s,f1,f2,e1,e2,dj,h1.weak λ a h=>h.elim (λ h=>.inl (hz a h)) .inr,h2.weak hz⟩
theorem KD.grow (k:∀ a o,H a=some o->H' a=some o):KD M H fps H' fps:=⟨λ a o h _=>k a o h,λ a h=>by
 cases e:H a with
 | none=>exact absurd e h
 | some o=>rw [k a o e];simp,λ _ _ h=>.inl h,λ _ _=>rfl⟩
def Rep.grow (r:Rep M ρ σ H fps) (k:∀ a o,H a=some o->H' a=some o):Rep M ρ σ H' fps where
 own:=λ i x d e=>by
  obtain ⟨v,hv,o⟩:=r.own i x d e;exact ⟨v,hv,Own.move (S:=λ _=>False) (λ a o h _=>k a o h) (λ _ z=>z.elim) (λ _ _ n=>n) x d v _ (λ _ _ z=>z) o⟩
 non:=r.non
 dj:=r.dj
 zo:=r.zo
 fr:=r.fr
 zd:=λ a h=>(KD.grow (M:=M) (fps:=fps) k).dom a (r.zd a h)
 len:=r.len
 msf:=r.msf
 h0:=λ a h=>(KD.grow (M:=M) (fps:=fps) k).dom a (r.h0 a h)
 iov:=r.iov
end
def tE (M:Fm) (f:Fx) (vs:List Nat):TE:=λ σ H Q=>∃ ρ fps,Rep M ρ σ H fps/\(match f ρ with
 | .ok (x,d,ρ')=>∀ v H' fps' fp,KD M H fps H' fps'->Agr M ρ ρ'->Rep M ρ' σ H' fps'->Own M.K H' (Zt M vs fps' fp) x d v fp->Temp M vs H H' fps' fp->Q v H'
 | .exc c=>∀ H' fps',KD M H fps H' fps'->M.W σ c H'
 | .no=>False)
def tL (M:Fm) (f:Fa) (vs:List Nat):TA:=λ σ H Q=>∃ ρ fps,Rep M ρ σ H fps/\(match f ρ with
 | .ok (xs,ρ')=>∀ ws H' fps' fp,KD M H fps H' fps'->Agr M ρ ρ'->Rep M ρ' σ H' fps'->Tmps M.K H' (Zv M vs fps') xs ws fp->Temp M vs H H' fps' fp->Q ws H'
 | .exc c=>∀ H' fps',KD M H fps H' fps'->M.W σ c H'
 | .no=>False)
def tT (M:Fm) (f:Fb):TT:=λ σ H Q=>∃ ρ fps,Rep M ρ σ H fps/\(match f ρ with
 | .ok (b,ρ')=>∀ H' fps',KD M H fps H' fps'->Agr M ρ ρ'->Rep M ρ' σ H' fps'->Q b H'
 | .exc c=>∀ H' fps',KD M H fps H' fps'->M.W σ c H'
 | .no=>False)
def BH (M:Fm) (H:Hp) (fps:AW) (vs:List Nat) (F:List Addr) (z:PV) (d:Nat) (Q:VK):Prop:=
 ∀ u H' fp,(∀ a o,H a=some o->H' a=some o)->Own M.K H' (Zt M vs fps fp) z d u fp->(∀ a∈fp,a∈F\/H a=none)->Q u H'
section
variable {M:Fm}{ρ ρ':Af}{σ:St}{H H' H'':Hp}{fps fps' fps'':AW}{vs vs':List Nat}{f g:Fx}{fa:Fa}{fb:Fb}{Q:VK}
def bC (x:PV):Fx:=λ ρ=>.ok (x,om,ρ)
def Ln {x:PV}{v:V} (h:∀ K H Z,Own K H Z x om v []) {σ:St}{H:Hp}{Q:VK} (hq:tE M (bC x) [] σ H Q):tC v σ H Q:=by
 obtain ⟨ρ,fps,rep,q⟩:=hq;exact q v H fps [] KD.refl Agr.refl rep (h _ _ _) ⟨λ _ z=>(nomatch z),λ _ z=>nomatch z⟩
def dv:PV->Nat
 | .lst _=>0
 | .tup _=>0
 | .dct _=>0
 | .dcl _ _=>0
 | _=>om
def Aa (i:Nat):Fx:=λ ρ=>match ρ[i]? with
 | some (some (x,_))=>.ok (x,dv x,ρ)
 | _=>.no
theorem Own.view {K:Frag}{Z Z':Addr->Prop}{x:PV}{d:Nat}{v:V}{fp:List Addr} (hz:∀ a,Z' a->Z a) (hf:∀ a∈fp,¬ Z' a) (h:Own K H Z x d v fp):Own K H Z' x (dv x) v []:=by
 have q:=Own.freeze hz x d v fp hf h;cases x with
 | lst xs=>exact q
 | tup xs=>exact q
 | dct kvs=>exact q
 | dcl ks xs=>exact q
 | exn _=>rw [Own] at q ⊢;exact q
 | non=>rw [Own] at q ⊢;exact q
 | bl _=>rw [Own] at q ⊢;exact q
 | int _=>rw [Own] at q ⊢;exact q
 | str _=>rw [Own] at q ⊢;exact q
 | emp=>rw [Own] at q ⊢;exact q
 | dko=>rw [Own] at q ⊢;exact q
 | scr _=>rw [Own] at q ⊢;exact q
theorem Wj {i:Nat}{σ:St}{H:Hp}{Q:VK} (hq:tE M (Aa i) (i::M.al i) σ H Q):DE i σ H Q:=by
 obtain ⟨ρ,fps,rep,q⟩:=hq;unfold Aa at q;cases e0:ρ[i]? with
 | none=>rw [e0] at q;exact q.elim
 | some sl=>
  cases sl with
  | none=>rw [e0] at q;exact q.elim
  | some p=>
   obtain ⟨x0,d0⟩:=p;rw [e0] at q;obtain ⟨v,hv,o⟩:=rep.own i x0 d0 e0;refine ⟨v,hv,q v H fps [] KD.refl Agr.refl rep ((o.view (Z':=Zv M (i::M.al i) fps) (λ a h=>h.elim .inl λ ⟨j,n,h⟩=>.inr ⟨j,λ z=>n (AM _ z),h⟩) λ a ha z=>?_).weak λ a h=>h.elim id λ z=>nomatch z) ⟨λ _ z=>(nomatch z),λ _ z=>nomatch z⟩⟩;rcases z with z | ⟨j,nj,hj⟩
   ·exact rep.zo i a ha z
   ·exact rep.dj i j (λ e=>nj (by simp [e])) a ha hj
def Ab (op:PV->Nat->PV->Nat->Option (PV×Nat)) (f g:Fx):Fx:=λ ρ=>(f ρ).bind λ (x,d,ρ1)=>(g ρ1).bind λ (y,e,ρ2)=>match op x d y e with
 | some (z,c)=>.ok (z,c,ρ2)
 | none=>.no
theorem EI {op:PV->Nat->PV->Nat->Option (PV×Nat)}{r:R2} (hv:∀ i∈vs,M.Ms i=false)
  (leaf:∀ x d y e z c v w H fps f1 f2 Q,op x d y e=some (z,c)->Own M.K H (Zt M (vs++vs') fps f1) x d v f1->Own M.K H (Zt M (vs++vs') fps f2) y e w f2->(∀ a∈f1,a∉f2)->(∀ a∈f1++f2,¬ Zf M fps a)->(∀ a,Zf M fps a->H a≠none)->BH M H fps (vs++vs') (f1++f2) z c Q->r v w H Q)
  {σ:St}{H:Hp}{Q:VK} (hq:tE M (Ab op f g) (vs++vs') σ H Q):Ks r (tE M f vs) (tE M g vs') σ H Q:=by
 obtain ⟨ρ,fps,rep,q⟩:=hq;refine ⟨ρ,fps,rep,?_⟩;unfold Ab at q;cases ef:f ρ with
 | no=>rw [ef] at q;exact q
 | exc c=>rw [ef] at q;exact q
 | ok p=>
  obtain ⟨x,d,ρ1⟩:=p;rw [ef] at q;intro v H1 fps1 f1 k1 g1 rep1 o1 t1;refine ⟨ρ1,fps1,rep1,?_⟩;dsimp only [Rz.bind] at q;cases eg:g ρ1 with
  | no=>rw [eg] at q;exact q
  | exc c=>rw [eg] at q;exact λ H' fps' k=>q H' fps' (k1.trans k)
  | ok p2=>
   obtain ⟨y,e,ρ2⟩:=p2;rw [eg] at q;intro w H2 fps2 f2 k2 g2 rep2 o2 t2;dsimp only at q;cases eo:op x d y e with
   | none=>rw [eo] at q;exact q.elim
   | some zc=>
    obtain ⟨z,c⟩:=zc;rw [eo] at q;have o1':=k2.stay rep1 hv o1 t1.ndj;have n1:∀ a∈f1,¬ Zf M fps2 a:=λ a ha z=>by
     rcases z with z | ⟨i,z⟩
     ·exact t1.ndj a ha (.inl z)
     ·rcases k2.sub i a z with z | z
      ·exact t1.ndj a ha (.inr ⟨i,z⟩)
      ·obtain ⟨xs,e⟩:=Own.lsts x d v f1 o1 a ha;rw [z] at e;cases e
    refine leaf x d y e z c v w H2 fps2 f1 f2 Q eo (o1'.weak λ a h=>Zt.mono (λ i hi=>BW _ hi) h) (o2.weak λ a h=>Zt.mono (λ i hi=>BX _ hi) h) (λ a h1 h2=>?_) (λ a ha=>?_) (λ a h=>rep2.zdom h) λ u H3 fp k3 o3 hfp=>?_
    ·obtain ⟨xs,e⟩:=Own.lsts x d v f1 o1 a h1;rw [t2.new a h2] at e;cases e
    ·rcases jd4.mp ha with z | z
     ·exact n1 a z
     ·exact t2.ndj a z
    ·have new:∀ a∈fp,H a=none:=λ a ha=>by
      have back:H1 a=none->H a=none:=λ e=>by
       cases e':H a with
       | none=>rfl
       | some o=>exact absurd e (k1.dom a (by rw [e'];simp))
      have back2:H2 a=none->H1 a=none:=λ e=>by
       cases e':H1 a with
       | none=>rfl
       | some o=>exact absurd e (k2.dom a (by rw [e'];simp))
      rcases hfp a ha with z | z
      ·rcases jd4.mp z with z | z
       ·exact t1.new a z
       ·exact back (t2.new a z)
      ·exact back (back2 z)
     refine q u H3 fps2 fp ((k1.trans k2).trans (KD.grow k3)) (g1.trans g2) (rep2.grow k3) o3 ⟨new,λ a ha=>?_⟩;rcases hfp a ha with z | z
     ·rcases jd4.mp z with z | z
      ·exact n1 a z
      ·exact t2.ndj a z
     ·exact rep2.nz z
end
section
variable {M:Fm}{vs vs':List Nat}{f g:Fx}{fa:Fa}{fb gb:Fb}
def AJ (op:PV->Nat->Option (PV×Nat)) (f:Fx):Fx:=λ ρ=>(f ρ).bind λ (x,d,ρ1)=>match op x d with
 | some (z,c)=>.ok (z,c,ρ1)
 | none=>.no
theorem O2 {op:PV->Nat->Option (PV×Nat)}{r:V->Hp->VK->Prop}
  (leaf:∀ x d z c v H fps f1 Q,op x d=some (z,c)->Own M.K H (Zt M vs fps f1) x d v f1->(∀ a∈f1,¬ Zf M fps a)->(∀ a,Zf M fps a->H a≠none)->BH M H fps vs f1 z c Q->r v H Q)
  {σ:St}{H:Hp}{Q:VK} (hq:tE M (AJ op f) vs σ H Q):Rq r (tE M f vs) σ H Q:=by
 obtain ⟨ρ,fps,rep,q⟩:=hq;refine ⟨ρ,fps,rep,?_⟩;unfold AJ at q;cases ef:f ρ with
 | no=>rw [ef] at q;exact q
 | exc c=>rw [ef] at q;exact q
 | ok p=>
  obtain ⟨x,d,ρ1⟩:=p;rw [ef] at q;intro v H1 fps1 f1 k1 g1 rep1 o1 t1;dsimp only [Rz.bind] at q;cases eo:op x d with
  | none=>rw [eo] at q;exact q.elim
  | some zc=>
   obtain ⟨z,c⟩:=zc;rw [eo] at q;refine leaf x d z c v H1 fps1 f1 Q eo o1 t1.ndj (λ a h=>rep1.zdom h) λ u H3 fp k3 o3 hfp=>?_;have back:∀ a,H1 a=none->H a=none:=λ a e=>by
    cases e':H a with
    | none=>rfl
    | some o=>exact absurd e (k1.dom a (by rw [e'];simp))
   refine q u H3 fps1 fp (k1.trans (KD.grow k3)) g1 (rep1.grow k3) o3 ⟨λ a ha=>(hfp a ha).elim (t1.new a) (back a),λ a ha=>(hfp a ha).elim (t1.ndj a) λ z=>rep1.nz z⟩
def Ac:Fa:=λ ρ=>.ok ([],ρ)
def Ae (f:Fx) (fa:Fa):Fa:=λ ρ=>(f ρ).bind λ (x,d,ρ1)=>(fa ρ1).bind λ (xs,ρ2)=>.ok ((x,d)::xs,ρ2)
def zx {σ:St}{H:Hp}{Q:List V->Hp->Prop} (hq:tL M Ac [] σ H Q):Hw σ H Q:=by
 obtain ⟨ρ,fps,rep,q⟩:=hq;exact q [] H fps [] KD.refl Agr.refl rep ⟨rfl,rfl⟩ ⟨λ _ z=>(nomatch z),λ _ z=>nomatch z⟩
theorem kA (hv:∀ i∈vs,M.Ms i=false) {σ:St}{H:Hp}{Q:List V->Hp->Prop} (hq:tL M (Ae f fa) (vs++vs') σ H Q):O0 (tE M f vs) (tL M fa vs') σ H Q:=by
 obtain ⟨ρ,fps,rep,q⟩:=hq;refine ⟨ρ,fps,rep,?_⟩;unfold Ae at q;cases ef:f ρ with
 | no=>rw [ef] at q;exact q
 | exc c=>rw [ef] at q;exact q
 | ok p=>
  obtain ⟨x,d,ρ1⟩:=p;rw [ef] at q;intro v H1 fps1 f1 k1 g1 rep1 o1 t1;refine ⟨ρ1,fps1,rep1,?_⟩;dsimp only [Rz.bind] at q;cases eg:fa ρ1 with
  | no=>rw [eg] at q;exact q
  | exc c=>rw [eg] at q;exact λ H' fps' k=>q H' fps' (k1.trans k)
  | ok p2=>
   obtain ⟨ys,ρ2⟩:=p2;rw [eg] at q;intro ws H2 fps2 f2 k2 g2 rep2 o2 t2;dsimp only at q;have o1':=k2.stay rep1 hv o1 t1.ndj;have n1:∀ a∈f1,¬ Zf M fps2 a:=λ a ha z=>by
    rcases z with z | ⟨i,z⟩
    ·exact t1.ndj a ha (.inl z)
    ·rcases k2.sub i a z with z | z
     ·exact t1.ndj a ha (.inr ⟨i,z⟩)
     ·obtain ⟨xs,e⟩:=Own.lsts x d v f1 o1 a ha;rw [z] at e;cases e
   have back:∀ a,H1 a=none->H a=none:=λ a e=>by
    cases e':H a with
    | none=>rfl
    | some o=>exact absurd e (k1.dom a (by rw [e'];simp))
   refine q (v::ws) H2 fps2 (f1++f2) (k1.trans k2) (g1.trans g2) rep2 ⟨v,ws,f1,f2,rfl,rfl,λ a h1 h2=>?_,o1'.weak λ a h=>Zt.mono (λ i hi=>BW _ hi) h,o2.weak λ a h=>h.mono λ i hi=>BX _ hi⟩ ⟨λ a ha=>?_,λ a ha=>?_⟩
   ·obtain ⟨xs,e⟩:=Own.lsts x d v f1 o1 a h1;rw [t2.new a h2] at e;cases e
   ·rcases jd4.mp ha with z | z
    ·exact t1.new a z
    ·exact back a (t2.new a z)
   ·rcases jd4.mp ha with z | z
    ·exact n1 a z
    ·exact t2.ndj a z
def Am (op:List (PV×Nat)->Option (PV×Nat)) (fa:Fa):Fx:=λ ρ=>(fa ρ).bind λ (xs,ρ1)=>match op xs with
 | some (z,c)=>.ok (z,c,ρ1)
 | none=>.no
theorem MP {op:List (PV×Nat)->Option (PV×Nat)}{r:List V->Hp->VK->Prop}
  (leaf:∀ xs z c ws H fps fp Q,op xs=some (z,c)->Tmps M.K H (Zv M vs fps) xs ws fp->(∀ a∈fp,¬ Zf M fps a)->(∀ a,Zf M fps a->H a≠none)->BH M H fps vs fp z c Q->r ws H Q)
  {σ:St}{H:Hp}{Q:VK} (hq:tE M (Am op fa) vs σ H Q):tL M fa vs σ H λ ws H1=>r ws H1 Q:=by
 obtain ⟨ρ,fps,rep,q⟩:=hq;refine ⟨ρ,fps,rep,?_⟩;unfold Am at q;cases ef:fa ρ with
 | no=>rw [ef] at q;exact q
 | exc c=>rw [ef] at q;exact q
 | ok p=>
  obtain ⟨xs,ρ1⟩:=p;rw [ef] at q;intro ws H1 fps1 f1 k1 g1 rep1 o1 t1;dsimp only [Rz.bind] at q;cases eo:op xs with
  | none=>rw [eo] at q;exact q.elim
  | some zc=>
   obtain ⟨z,c⟩:=zc;rw [eo] at q;refine leaf xs z c ws H1 fps1 f1 Q eo o1 t1.ndj (λ a h=>rep1.zdom h) λ u H3 fp k3 o3 hfp=>?_;have back:∀ a,H1 a=none->H a=none:=λ a e=>by
    cases e':H a with
    | none=>rfl
    | some o=>exact absurd e (k1.dom a (by rw [e'];simp))
   refine q u H3 fps1 fp (k1.trans (KD.grow k3)) g1 (rep1.grow k3) o3 ⟨λ a ha=>(hfp a ha).elim (t1.new a) (back a),λ a ha=>(hfp a ha).elim (t1.ndj a) λ z=>rep1.nz z⟩
def bT (f:Fx):Fb:=λ ρ=>(f ρ).bind λ (x,_,ρ1)=>match x with
 | .bl b=>.ok (b,ρ1)
 | _=>.no
theorem Sk {σ:St}{H:Hp}{Q:Bool->Hp->Prop} (hq:tT M (bT f) σ H Q):tB (tE M f vs) σ H Q:=by
 obtain ⟨ρ,fps,rep,q⟩:=hq;refine ⟨ρ,fps,rep,?_⟩;unfold bT at q;cases ef:f ρ with
 | no=>rw [ef] at q;exact q
 | exc c=>rw [ef] at q;exact q
 | ok p=>
  obtain ⟨x,d,ρ1⟩:=p;rw [ef] at q;intro v H1 fps1 f1 k1 g1 rep1 o1 t1;dsimp only [Rz.bind] at q;cases x with
  | bl b=>
   rw [Own] at o1;exact ⟨b,o1.1,q H1 fps1 k1 g1 rep1⟩
  | _=>exact q.elim
def HK (f g:Fb):Fb:=λ ρ=>(f ρ).bind λ (b,ρ1)=>if b=true then g ρ1 else .ok (false,ρ1)
def Ph (f g:Fb):Fb:=λ ρ=>(f ρ).bind λ (b,ρ1)=>if b=true then .ok (true,ρ1) else g ρ1
def HJ (f:Fb):Fb:=λ ρ=>(f ρ).bind λ (b,ρ1)=>.ok (!b,ρ1)
theorem zG {σ:St}{H:Hp}{Q:Bool->Hp->Prop} (hq:tT M (HK fb gb) σ H Q):Jk (tT M fb) (tT M gb) σ H Q:=by
 obtain ⟨ρ,fps,rep,q⟩:=hq;refine ⟨ρ,fps,rep,?_⟩;unfold HK at q;cases ef:fb ρ with
 | no=>rw [ef] at q;exact q
 | exc c=>rw [ef] at q;exact q
 | ok p=>
  obtain ⟨b,ρ1⟩:=p;rw [ef] at q;intro H1 fps1 k1 g1 rep1;dsimp only [Rz.bind] at q;cases b with
  | false=>exact (q H1 fps1 k1 g1 rep1)
  | true=>
   refine ⟨ρ1,fps1,rep1,?_⟩;rw [if_pos rfl] at q;cases eg:gb ρ1 with
   | no=>rw [eg] at q;exact q
   | exc c=>rw [eg] at q;exact λ H' fps' k=>q H' fps' (k1.trans k)
   | ok p2=>rw [eg] at q;exact λ H' fps' k g r=>q H' fps' (k1.trans k) (g1.trans g) r
theorem qF {σ:St}{H:Hp}{Q:Bool->Hp->Prop} (hq:tT M (Ph fb gb) σ H Q):Rt (tT M fb) (tT M gb) σ H Q:=by
 obtain ⟨ρ,fps,rep,q⟩:=hq;refine ⟨ρ,fps,rep,?_⟩;unfold Ph at q;cases ef:fb ρ with
 | no=>rw [ef] at q;exact q
 | exc c=>rw [ef] at q;exact q
 | ok p=>
  obtain ⟨b,ρ1⟩:=p;rw [ef] at q;intro H1 fps1 k1 g1 rep1;dsimp only [Rz.bind] at q;cases b with
  | true=>exact (q H1 fps1 k1 g1 rep1)
  | false=>
   refine ⟨ρ1,fps1,rep1,?_⟩;rw [if_neg Cs] at q;cases eg:gb ρ1 with
   | no=>rw [eg] at q;exact q
   | exc c=>rw [eg] at q;exact λ H' fps' k=>q H' fps' (k1.trans k)
   | ok p2=>rw [eg] at q;exact λ H' fps' k g r=>q H' fps' (k1.trans k) (g1.trans g) r
theorem zI {σ:St}{H:Hp}{Q:Bool->Hp->Prop} (hq:tT M (HJ fb) σ H Q):Jj (tT M fb) σ H Q:=by
 obtain ⟨ρ,fps,rep,q⟩:=hq;refine ⟨ρ,fps,rep,?_⟩;unfold HJ at q;cases ef:fb ρ with
 | no=>rw [ef] at q;exact q
 | exc c=>rw [ef] at q;exact q
 | ok p=>obtain ⟨b,ρ1⟩:=p;rw [ef] at q;exact q
theorem Tmps.all {K:Frag}{H:Hp}{Z:Addr->Prop}:∀ {xs:List (PV×Nat)}{ws:List V}{fp:List Addr},Tmps K H Z xs ws fp->(∀ p∈xs,p.2=om)->OwnL K H Z (xs.map (·.1)) om ws fp
 | [],_,_,h,_=>by rw [GI,OwnL];exact h
 | (x,d)::xs,ws,fp,h,ha=>by
  obtain ⟨v,s,f1,f2,e1,e2,dj,h1,h2⟩:=h;have e:d=om:=ha (x,d) AL;subst e;rw [Be,OwnL];exact ⟨v,s,f1,f2,e1,e2,dj,Own.full x v f1 h1,h2.all λ p hp=>ha p (AM _ hp)⟩
theorem Tmps.cold {K:Frag}{H:Hp}{Z:Addr->Prop}:∀ {xs:List (PV×Nat)}{ws:List V}{fp:List Addr},Tmps K H Z xs ws fp->(∀ a∈fp,¬ Z a)->OwnL K H Z (xs.map (·.1)) 0 ws []
 | [],_,_,h,_=>by rw [GI,OwnL];exact ⟨h.1,rfl⟩
 | (x,d)::xs,ws,fp,h,ha=>by
  obtain ⟨v,s,f1,f2,e1,e2,dj,h1,h2⟩:=h;rw [Be,OwnL];exact ⟨v,s,[],[],e1,rfl,λ _ z=>(nomatch z),Own.freeze (λ _ z=>.inl z) x d v f1 (λ a z=>ha a (by rw [e2];exact BW _ z)) h1,h2.cold λ a z=>ha a (by rw [e2];exact BX _ z)⟩
theorem Tmps.length {K:Frag}{H:Hp}{Z:Addr->Prop}:∀ {xs:List (PV×Nat)}{ws:List V}{fp:List Addr},Tmps K H Z xs ws fp->ws.length=xs.length
 | [],_,_,h=>by rw [h.1];rfl
 | (x,d)::xs,ws,fp,h=>by
  obtain ⟨v,s,f1,f2,e1,e2,dj,h1,h2⟩:=h;rw [e1,Bw,Bw,h2.length]
theorem OwnL.length {K:Frag}{H:Hp}{Z:Addr->Prop}:∀ {xs:List PV}{d:Nat}{ws:List V}{fp:List Addr},OwnL K H Z xs d ws fp->ws.length=xs.length
 | [],_,_,_,h=>by rw [OwnL] at h;rw [h.1];rfl
 | x::xs,d,ws,fp,h=>by
  rw [OwnL] at h;obtain ⟨v,s,f1,f2,e1,e2,dj,h1,h2⟩:=h;rw [e1,Bw,Bw,h2.length]
end
inductive Rs where
 | nx (ρ:Af) | rt (x:PV) (d:Nat) (ρ:Af) | bk (ρ:Af) | ct (ρ:Af) | exc (c:Nat) | no
abbrev Fs:=Af->Rs
structure KS (M:Fm) (H:Hp) (fps:AW) (H':Hp) (fps':AW):Prop where
 keep:D1 (λ a=>∃ i,a∈fps i) H H'
 dom:∀ a,H a≠none->H' a≠none
 sub:∀ i,∀ a∈fps' i,(∃ j,a∈fps j)\/H a=none
def Zr (M:Fm) (fps:AW):Addr->Prop:=λ a=>M.Zo a\/(M.io≠none/\a∈fps 0)
def RsOk (M:Fm) (D:Ends) (H:Hp) (fps:AW):Rs->Prop
 | .nx ρ'=>∀ σ' H' fps',KS M H fps H' fps'->Rep M ρ' σ' H' fps'->D.nx σ' H'
 | .bk ρ'=>∀ σ' H' fps',KS M H fps H' fps'->Rep M ρ' σ' H' fps'->D.bk σ' H'
 | .ct ρ'=>∀ σ' H' fps',KS M H fps H' fps'->Rep M ρ' σ' H' fps'->D.ct σ' H'
 | .rt x d ρ'=>∀ v σ' H' fps' fp,KS M H fps H' fps'->Rep M ρ' σ' H' fps'->Own M.K H' (λ a=>Zr M fps' a\/a∈fp) x d v fp->(∀ a∈fp,M.H₀ a=none/\¬ Zr M fps' a)->D.rt v H'
 | .exc c=>∀ σ' H' fps',KS M H fps H' fps'->M.W σ' c H'
 | .no=>False
def tS (M:Fm) (f:Fs):TS:=λ D σ H=>∃ ρ fps,Rep M ρ σ H fps/\RsOk M D H fps (f ρ)
section
variable {M:Fm}{ρ ρ':Af}{σ σ':St}{H H' H'':Hp}{fps fps' fps'':AW}{vs vs':List Nat}
def KS.refl:KS M H fps H fps:=⟨λ _ _ h _=>h,λ _ h=>h,λ i _ h=>.inl ⟨i,h⟩⟩
def KD.ks (k:KD M H fps H' fps'):KS M H fps H' fps':=⟨λ a o h n=>k.keep a o h λ ⟨i,_,z⟩=>n ⟨i,z⟩,k.dom,λ i a h=>(k.sub i a h).elim (λ z=>.inl ⟨i,z⟩) .inr⟩
def KS.trans (a:KS M H fps H' fps') (b:KS M H' fps' H'' fps''):KS M H fps H'' fps'' where
 keep:=λ x o h n=>b.keep x o (a.keep x o h n) λ ⟨i,hx⟩=>(a.sub i x hx).elim (λ z=>n z) λ z=>by rw [z] at h;cases h
 dom:=λ x h=>b.dom x (a.dom x h)
 sub:=λ i x hx=>(b.sub i x hx).elim (λ ⟨j,z⟩=>a.sub j x z) λ z=>.inr (by
  cases e:H x with
  | none=>rfl
  | some o=>exact absurd z (a.dom x (by rw [e];simp)))
def KS.stay0 (k:KS M H fps H' fps') (r:Rep M ρ σ H fps) {x:PV}{v:V} (h:Own M.K H (Zf M fps) x 0 v []):Own M.K H' (Zf M fps') x 0 v []:=by
 refine Own.move k.keep (λ a ⟨i,ha⟩=>⟨.inr ⟨i,ha⟩,r.lsts ha⟩) ?_ x 0 v [] (λ _ z=>nomatch z) h;intro a hd nz z;rcases z with z | ⟨i,hx⟩
 ·exact nz (.inl z)
 ·rcases k.sub i a hx with z | z
  ·exact nz (.inr z)
  ·exact hd z
def A1:Fs:=λ ρ=>.nx ρ
def Ag (f g:Fs):Fs:=λ ρ=>match f ρ with
 | .nx ρ1=>g ρ1
 | r=>r
def z7 {D:Ends} (hq:tS M A1 D σ H):VF D σ H:=by
 obtain ⟨ρ,fps,rep,q⟩:=hq;exact q σ H fps KS.refl rep
def Bi (c:Fb) (f g:Fs):Fs:=λ ρ=>match c ρ with
 | .ok (b,ρ1)=>if b=true then f ρ1 else g ρ1
 | .exc e=>.exc e
 | .no=>.no
theorem RsOk.from {D:Ends}{r:Rs} (k1:KS M H fps H' fps') (q:RsOk M D H fps r):RsOk M D H' fps' r:=by
 cases r with
 | no=>exact q
 | exc c=>exact λ σ' H' fps' k=>q σ' H' fps' (k1.trans k)
 | rt x d ρ2=>exact λ v σ' H' fps' fp k=>q v σ' H' fps' fp (k1.trans k)
 | bk ρ2=>exact λ σ' H' fps' k=>q σ' H' fps' (k1.trans k)
 | ct ρ2=>exact λ σ' H' fps' k=>q σ' H' fps' (k1.trans k)
 | nx ρ2=>exact λ σ' H' fps' k=>q σ' H' fps' (k1.trans k)
theorem zC {f g:Fs}{D:Ends} (hq:tS M (Ag f g) D σ H):Lw (tS M f) (tS M g) D σ H:=by
 obtain ⟨ρ,fps,rep,q⟩:=hq;refine ⟨ρ,fps,rep,?_⟩;unfold Ag at q;cases ef:f ρ with
 | no=>rw [ef] at q;exact q
 | exc c=>rw [ef] at q;exact q
 | rt x d ρ1=>rw [ef] at q;exact q
 | bk ρ1=>rw [ef] at q;exact q
 | ct ρ1=>rw [ef] at q;exact q
 | nx ρ1=>
  rw [ef] at q;exact λ σ1 H1 fps1 k1 rep1=>⟨ρ1,fps1,rep1,RsOk.from k1 q⟩
theorem qE {c:Fb}{f g:Fs}{D:Ends} (hq:tS M (Bi c f g) D σ H):L0 (tT M c) (tS M f) (tS M g) D σ H:=by
 obtain ⟨ρ,fps,rep,q⟩:=hq;refine ⟨ρ,fps,rep,?_⟩;unfold Bi at q;cases ef:c ρ with
 | no=>rw [ef] at q;exact q
 | exc c=>rw [ef] at q;exact λ H' fps' k=>q _ H' fps' k.ks
 | ok p=>
  obtain ⟨b,ρ1⟩:=p;rw [ef] at q;intro H1 fps1 k1 g1 rep1;dsimp only at q;cases b with
  | true=>
   rw [if_pos rfl] at q ⊢;exact ⟨ρ1,fps1,rep1,RsOk.from k1.ks q⟩
  | false=>
   rw [if_neg Cs] at q ⊢;exact ⟨ρ1,fps1,rep1,RsOk.from k1.ks q⟩
def cool (vs:List Nat):Nat->Af->Af
 | _,[]=>[]
 | k,s::r=>(if vs.contains k then s.map λ p=>(p.1,0) else s)::cool vs (k + 1) r
def Bh (d:Nat) (vs:List Nat) (ρ:Af):Af:=if d=om then ρ else cool vs 0 ρ
theorem JS (vs:List Nat):∀ (ρ:Af) (k i:Nat),(cool vs k ρ)[i]?=(ρ[i]?).map λ s=>if vs.contains (k + i) then s.map λ p=>(p.1,0) else s
 | [],k,i=>by simp [cool]
 | s::r,k,0=>by simp [cool]
 | s::r,k,i + 1=>by
  rw [cool,IE,JS vs r (k + 1) i,IE]
  have:k + 1 + i=k + (i + 1):=by omega
  rw [this]
theorem MT (vs:List Nat):∀ (ρ:Af) (k:Nat),(cool vs k ρ).length=ρ.length
 | [],_=>rfl
 | s::r,k=>by rw [cool,Bw,MT vs r (k + 1),Bw]
def Eb (vs:List Nat) (fps:AW):AW:=λ i=>if vs.contains i then [] else fps i
def Gz {a:Addr}{i:Nat} (h:a∈Eb vs fps i):a∈fps i/\i∉vs:=by
 unfold Eb at h;split at h
 ·cases h
 ·rename_i n;exact ⟨h,λ z=>n (by simpa using z)⟩
def Ib {a:Addr} (h:Zf M (Eb vs fps) a):Zv M vs fps a:=h.elim .inl λ ⟨i,z⟩=>.inr ⟨i,(Gz z).2,(Gz z).1⟩
def Rep.cool (r:Rep M ρ σ H fps) (hal:∀ i,M.al i=[]) (hv:∀ i∈vs,M.Ms i=false):Rep M (cool vs 0 ρ) σ H (Eb vs fps) where
 own:=λ i x d e=>by
  rw [JS] at e;cases e1:ρ[i]? with
  | none=>rw [e1] at e;cases e
  | some s=>
   rw [e1] at e;simp only [Me,HB] at e;by_cases hc:vs.contains i=true
   ·rw [if_pos hc] at e;cases s with
    | none=>cases e
    | some p=>
     obtain ⟨x0,d0⟩:=p;simp only [Me,Option.some.injEq,Prod.mk.injEq] at e;obtain ⟨rfl,rfl⟩:=e;obtain ⟨v,hσ,o⟩:=r.own0 hal i x0 d0 e1;refine ⟨v,hσ,Own.weak (Z:=Zf M (Eb vs fps)) (λ a h=>h.zf) ?_⟩
     have:Eb vs fps i=[]:=by unfold Eb;rw [if_pos hc]
     rw [this];exact Own.freeze (λ a h=>Zv.zf (Ib h)) x0 d0 v _ (λ a ha z=>by
      rcases z with z | ⟨j,z⟩
      ·exact r.zo i a ha z
      ·obtain ⟨z1,z2⟩:=Gz z;exact r.dj i j (λ e=>z2 (by rw [<- e];simpa using hc)) a ha z1) o
   ·rw [if_neg hc] at e;cases e;obtain ⟨v,hσ,o⟩:=r.own0 hal i x d e1;refine ⟨v,hσ,Own.weak (Z:=Zf M (Eb vs fps)) (λ a h=>h.zf) ?_⟩
    have:Eb vs fps i=fps i:=by unfold Eb;rw [if_neg hc]
    rw [this];exact o.weak λ a h=>Zv.zf (Ib h)
 non:=λ i h=>by
  unfold Eb;split
  ·rfl
  ·rename_i hc;refine r.non i λ p e=>h p ?_;rw [JS,e];simp only [Me,HB];rw [if_neg hc]
 dj:=λ i j hij a ha hb=>r.dj i j hij a (Gz ha).1 (Gz hb).1
 zo:=λ i a ha=>r.zo i a (Gz ha).1
 fr:=λ i hi a ha=>r.fr i hi a (Gz ha).1
 zd:=r.zd
 len:=by rw [MT];exact r.len
 msf:=λ i x d hi e=>by
  rw [JS] at e;cases e1:ρ[i]? with
  | none=>rw [e1] at e;cases e
  | some s=>
   rw [e1] at e;simp only [Me,HB] at e;have hc:¬ vs.contains i=true:=λ z=>by rw [hv i (by simpa using z)] at hi;cases hi
   rw [if_neg hc] at e;cases e;exact r.msf i x d hi e1
 h0:=r.h0
 iov:=r.iov
def KS.cool (k:KS M H fps H' fps'):KS M H fps H' (Eb vs fps'):=⟨k.keep,k.dom,λ i a h=>k.sub i a (Gz h).1⟩
def Rep.wide {fp:List Addr} (hal:∀ i,∀ j∈M.al i,M.Ms j=false) (r:Rep M ρ σ H fps) (k:KD M H fps H' fps') (g:Agr M ρ ρ') (r':Rep M ρ' σ H' fps') (hf:∀ a∈fp,H a=none/\H' a≠none/\¬ Zf M fps' a):Rep (M.plus fp) ρ' σ H' fps' where
 own:=λ i x d e=>by
  by_cases hm:M.Ms i=true
  ·obtain ⟨v,hv,o⟩:=r'.own i x d e;have hd:=r'.msf i x d hm e;subst hd;exact ⟨v,hv,Own.full x v _ o⟩
  ·have hm':M.Ms i=false:=by simpa using hm
   rw [g.1 i hm'] at e;obtain ⟨v,hv,o⟩:=r.own i x d e;refine ⟨v,hv,?_⟩;rw [k.same i hm'];refine Own.move k.keep (λ a ⟨j,hj,ha⟩=>⟨.inr ⟨j,λ z=>(by rw [hal i j z] at hj;cases hj),ha⟩,r.lsts ha⟩) ?_ x d v _ ?_ o
   ·intro a hd nz z;rcases z with (z | z) | ⟨j,nj,z⟩
    ·exact nz (.inl z)
    ·exact hd (hf a z).1
    ·rcases k.sub j a z with z | z
     ·exact nz (.inr ⟨j,nj,z⟩)
     ·exact hd z
   ·rintro a ha ⟨j,hj,hx⟩;exact r.dj i j (λ e=>by rw [e,hj] at hm';cases hm') a ha hx
 non:=r'.non
 dj:=r'.dj
 zo:=λ i a ha z=>z.elim (r'.zo i a ha) λ z=>(hf a z).2.2 (.inr ⟨i,ha⟩)
 fr:=r'.fr
 zd:=λ a z=>z.elim (r'.zd a) λ z=>(hf a z).2.1
 len:=r'.len
 msf:=r'.msf
 h0:=r'.h0
 iov:=r'.iov
def Rep.put {i:Nat}{x:PV}{d:Nat}{v:V}{fp:List Addr} (r:Rep (M.plus fp) ρ σ H fps) (h:Own M.K H (λ a=>Za M fps i a\/a∈fp) x d v fp) (hf:∀ a∈fp,M.H₀ a=none/\¬ M.Zo a) (hi:i < ρ.length) (hm:M.Ms i=true->d=om) (hio:M.Fre i):
  Rep M (ρ.set i (some (x,d))) (σ.set i (some v)) H (λ j=>if j=i then fp else fps j):=by
 have zz:∀ a,Zf M (λ j=>if j=i then fp else fps j) a->Zf M fps a\/a∈fp:=λ a h=>by
  rcases h with z | ⟨j,z⟩
  ·exact .inl (.inl z)
  ·by_cases e:j=i
   ·simp only [if_pos e] at z;exact .inr z
   ·simp only [if_neg e] at z;exact .inl (.inr ⟨j,z⟩)
 have zz2:∀ a,Zf M fps a\/a∈fp->Zf (M.plus fp) fps a:=λ a h=>h.elim (λ h=>h.elim (λ z=>.inl (.inl z)) λ z=>.inr z) λ z=>.inl (.inr z);refine ⟨λ j y e hj=>?_,λ j hj=>?_,λ j k hjk a ha hb=>?_,λ j a ha z=>?_,λ j hj a ha=>?_,λ a z=>r.zd a (.inl z),?_,λ j y e hj he=>?_,r.h0,?_⟩
 ·by_cases e:j=i
  ·subst e;rw [DN hi] at hj;cases hj;refine ⟨v,by rw [DN (by rw [<- r.len];exact hi)],?_⟩;rw [if_pos rfl];refine h.weak λ a h=>?_;rcases h with z | ⟨k,nk,z⟩
   ·exact .inl (.inl z)
   ·by_cases ek:k=j
    ·simp only [if_pos ek] at z;exact .inr z
    ·simp only [if_neg ek] at z;exact .inl (.inr ⟨k,nk,z⟩)
  ·rw [CO (BY e)] at hj;obtain ⟨w,hw,o⟩:=r.own j y _ hj;refine ⟨w,by rw [CO (BY e)];exact hw,?_⟩;rw [if_neg e];refine o.weak λ a h=>?_;rcases h with z | ⟨k,nk,z⟩
   ·exact .inl (.inl z)
   ·by_cases ek:k=i
    ·simp only [if_pos ek] at z;exact .inl (.inr z)
    ·simp only [if_neg ek] at z;exact .inr ⟨k,nk,z⟩
 ·by_cases e:j=i
  ·subst e;exact absurd (DN hi) (hj _)
  ·rw [if_neg e];exact r.non j λ p hp=>hj p (by rw [CO (BY e)];exact hp)
 ·by_cases e1:j=i
  ·by_cases e2:k=i
   ·exact hjk (e1.trans e2.symm)
   ·rw [if_pos e1] at ha;rw [if_neg e2] at hb;exact r.zo k a hb (.inr ha)
  ·rw [if_neg e1] at ha;by_cases e2:k=i
   ·rw [if_pos e2] at hb;exact r.zo j a ha (.inr hb)
   ·rw [if_neg e2] at hb;exact r.dj j k hjk a ha hb
 ·by_cases e:j=i
  ·rw [if_pos e] at ha;exact (hf a ha).2 z
  ·rw [if_neg e] at ha;exact r.zo j a ha (.inl z)
 ·by_cases e:j=i
  ·rw [if_pos e] at ha;exact (hf a ha).1
  ·rw [if_neg e] at ha;exact r.fr j hj a ha
 ·rw [DA,DA];exact r.len
 ·by_cases e:j=i
  ·subst e;rw [DN hi] at he;cases he;exact hm hj
  ·rw [CO (BY e)] at he;exact r.msf j y _ hj he
 ·refine ⟨λ w hw=>?_,λ p hp=>?_⟩
  ·have h0:i≠0:=hio.1 (by rw [hw];simp);rw [CO h0];exact r.iov.1 w hw
  ·rw [CO (hio.2 p hp).symm];exact r.iov.2 p hp
def Aj (ms:Bool) (i:Nat) (f:Fx) (vs:List Nat):Fs:=λ ρ=>match f ρ with
 | .ok (x,d,ρ1)=>if i < ρ1.length/\(ms=true->d=om) then .nx ((Bh d vs ρ1).set i (some (x,d))) else .no
 | .exc c=>.exc c
 | .no=>.no
def Rep.store {i:Nat}{x:PV}{d:Nat}{v:V}{fp:List Addr} (rep:Rep M ρ σ H fps) (k:KD M H fps H' fps') (g:Agr M ρ ρ') (r':Rep M ρ' σ H' fps') (o:Own M.K H' (Zt M vs fps' fp) x d v fp) (t:Temp M vs H H' fps' fp)
  (hal:∀ i,M.al i=[]) (hv:∀ i∈vs,M.Ms i=false) (hi:i < ρ'.length) (hm:M.Ms i=true->d=om) (hio:M.Fre i):
  ∃ fps2,KS M H fps H' fps2/\Rep M ((Bh d vs ρ').set i (some (x,d))) (σ.set i (some v)) H' fps2:=by
 have back:∀ a,H a=none->M.H₀ a=none:=λ a e=>by
  cases e':M.H₀ a with
  | none=>rfl
  | some o=>exact absurd e (rep.h0 a (by rw [e'];simp))
 have w:Rep (M.plus fp) ρ' σ H' fps':=rep.wide (λ i j hj=>by rw [hal i] at hj;cases hj) k g r' λ a ha=>⟨t.new a ha,by obtain ⟨xs,e⟩:=Own.lsts x d v fp o a ha;rw [e];simp,t.ndj a ha⟩
 have hf:∀ a∈fp,M.H₀ a=none/\¬ M.Zo a:=λ a ha=>⟨back a (t.new a ha),λ z=>t.ndj a ha (.inl z)⟩
 have ks2:∀ {fps2:AW},(∀ i a,a∈fps2 i->a∈fps' i)->KS M H fps H' (λ j=>if j=i then fp else fps2 j):=λ {fps2} h2=>⟨k.ks.keep,k.dom,λ j a ha=>by
  by_cases e:j=i
  ·simp only [if_pos e] at ha;exact .inr (t.new a ha)
  ·simp only [if_neg e] at ha;exact k.ks.sub j a (h2 j a ha)⟩
 unfold Bh;by_cases hd:d=om
 ·rw [if_pos hd];refine ⟨_,ks2 λ _ _ h=>h,w.put (i:=i) (x:=x) (d:=d) (v:=v) ?_ hf hi hm hio⟩;rw [hd] at o ⊢;exact Own.full x v fp o
 ·rw [if_neg hd];refine ⟨_,ks2 λ _ _ h=>(Gz h).1,(w.cool (vs:=vs) hal hv).put (i:=i) (x:=x) (d:=d) (v:=v) ?_ hf (by rw [MT];exact hi) hm hio⟩;exact o.weak λ a h=>h.elim (λ h=>.inl (Ib h.zf)) .inr
theorem Wl {f:Fx}{i:Nat}{ms:Bool}{D:Ends} (hal:∀ i,M.al i=[]) (hv:∀ i∈vs,M.Ms i=false) (hms:M.Ms i=ms) (hio:M.Fre i) (hq:tS M (Aj ms i f vs) D σ H):ES (tE M f vs) (Fq i) D σ H:=by
 obtain ⟨ρ,fps,rep,q⟩:=hq;refine ⟨ρ,fps,rep,?_⟩;unfold Aj at q;cases ef:f ρ with
 | no=>rw [ef] at q;exact q
 | exc c=>rw [ef] at q;exact λ H' fps' k=>q _ H' fps' k.ks
 | ok p=>
  obtain ⟨x,d,ρ1⟩:=p;rw [ef] at q;intro v H1 fps1 f1 k1 g1 rep1 o1 t1;dsimp only at q;by_cases hc:i < ρ1.length/\(ms=true->d=om)
  ·rw [if_pos hc] at q;obtain ⟨fps2,k2,r2⟩:=Rep.store rep k1 g1 rep1 o1 t1 hal hv hc.1 (λ h=>hc.2 (by rw [<- hms];exact h)) hio;exact q _ _ _ k2 r2
  ·rw [if_neg hc] at q;exact q.elim
end
section
variable {M:Fm}{ρ ρ':Af}{σ σ':St}{H H' H'':Hp}{fps fps' fps'':AW}{vs vs':List Nat}
def Zr.zf {a:Addr} (h:Zr M fps a):Zf M fps a:=h.elim .inl λ h=>.inr ⟨0,h.2⟩
def Rep.zr (r:Rep M ρ σ H fps) (hv:∀ i∈vs,M.Ms i=false) {a:Addr} (h:Zr M fps a):Zv M vs fps a:=by
 rcases h with h | ⟨h1,h2⟩
 ·exact .inl h
 ·refine .inr ⟨0,λ z=>?_,h2⟩;cases e:M.io with
  | none=>exact h1 e
  | some v=>have:=(r.iov.1 v e).2;rw [hv 0 z] at this;cases this
theorem Rep.h0' (r:Rep M ρ σ H fps) {a:Addr} (e:H a=none):M.H₀ a=none:=by
 cases e':M.H₀ a with
 | none=>rfl
 | some o=>exact absurd e (r.h0 a (by rw [e'];simp))
def Au (f:Fx):Fs:=λ ρ=>match f ρ with
 | .ok (x,d,ρ1)=>.rt x d ρ1
 | .exc c=>.exc c
 | .no=>.no
theorem zB {f:Fx}{D:Ends} (hv:∀ i∈vs,M.Ms i=false) (hq:tS M (Au f) D σ H):Ji (tE M f vs) D σ H:=by
 obtain ⟨ρ,fps,rep,q⟩:=hq;refine ⟨ρ,fps,rep,?_⟩;unfold Au at q;cases ef:f ρ with
 | no=>rw [ef] at q;exact q
 | exc c=>rw [ef] at q;exact λ H' fps' k=>q _ H' fps' k.ks
 | ok p=>
  obtain ⟨x,d,ρ1⟩:=p;rw [ef] at q;intro v H1 fps1 f1 k1 g1 rep1 o1 t1;exact q v σ H1 fps1 f1 k1.ks rep1 (o1.weak λ a h=>h.elim (λ h=>.inl (rep1.zr hv h)) .inr) λ a ha=>⟨rep.h0' (t1.new a ha),λ z=>t1.ndj a ha z.zf⟩
def DV (i:Nat):Fs:=λ ρ=>match ρ[i]? with
 | some (some (x,d))=>.rt x d ρ
 | _=>.no
theorem kY {i:Nat}{D:Ends} (hal:∀ i,M.al i=[]) (hm:M.Ms i=false) (hq:tS M (DV i) D σ H):Ji (DE i) D σ H:=by
 obtain ⟨ρ,fps,rep,q⟩:=hq;unfold DV at q;cases e0:ρ[i]? with
 | none=>rw [e0] at q;exact q.elim
 | some sl=>
  cases sl with
  | none=>rw [e0] at q;exact q.elim
  | some p=>
   obtain ⟨x,d⟩:=p;rw [e0] at q;obtain ⟨v,hv,o⟩:=rep.own0 hal i x d e0;refine ⟨v,hv,q v σ H fps (fps i) KS.refl rep (o.weak λ a h=>h.elim Zr.zf λ z=>.inr ⟨i,z⟩) λ a ha=>⟨rep.fr i hm a ha,λ z=>?_⟩⟩;rcases z with z | ⟨z1,z2⟩
   ·exact rep.zo i a ha z
   ·cases e:M.io with
    | none=>exact z1 e
    | some w=>exact rep.dj i 0 (λ e'=>by rw [e',(rep.iov.1 w e).2] at hm;cases hm) a ha z2
def D5 (f:Fx):Fs:=λ ρ=>match f ρ with
 | .ok (_,_,ρ1)=>.nx ρ1
 | .exc c=>.exc c
 | .no=>.no
theorem kT {f:Fx}{D:Ends} (hq:tS M (D5 f) D σ H):O1 (tE M f vs) D σ H:=by
 obtain ⟨ρ,fps,rep,q⟩:=hq;refine ⟨ρ,fps,rep,?_⟩;unfold D5 at q;cases ef:f ρ with
 | no=>rw [ef] at q;exact q
 | exc c=>rw [ef] at q;exact λ H' fps' k=>q _ H' fps' k.ks
 | ok p=>
  obtain ⟨x,d,ρ1⟩:=p;rw [ef] at q;intro v H1 fps1 f1 k1 g1 rep1 o1 t1;exact q σ H1 fps1 k1.ks rep1
theorem OwnL.snoc {K:Frag}{Z:Addr->Prop}{y:PV}{d:Nat}{w:V}{fy:List Addr}:∀ {xs:List PV}{ws:List V}{f:List Addr},OwnL K H Z xs d ws f->Own K H Z y d w fy->(∀ a∈f,a∉fy)->OwnL K H Z (xs++[y]) d (ws++[w]) (f++fy)
 | [],ws,f,h,hy,_=>by
  rw [OwnL] at h;obtain ⟨rfl,rfl⟩:=h;show OwnL K H Z [y] d [w] fy;rw [OwnL];refine ⟨w,[],fy,[],rfl,by simp,λ _ _ z=>(nomatch z),hy,?_⟩;rw [OwnL];exact ⟨rfl,rfl⟩
 | x::xs,ws,f,h,hy,hd=>by
  rw [OwnL] at h;obtain ⟨v,s,f1,f2,rfl,rfl,dj,h1,h2⟩:=h;show OwnL K H Z (x::(xs++[y])) d (v::(s++[w])) (f1++f2++fy);rw [OwnL];refine ⟨v,s++[w],f1,f2++fy,rfl,by rw [IC],λ a ha hb=>?_,h1,h2.snoc hy λ a ha=>hd a (BX _ ha)⟩;rcases jd4.mp hb with z | z
  ·exact dj a ha z
  ·exact hd a (BW _ ha) z
def Own.at {K:Frag}{Z Z':Addr->Prop}{a:Addr}{o:HO}{x:PV}{d:Nat}{v:V}{fp:List Addr} (h:Own K H Z x d v fp) (hZ:Z a) (hl:∃ o:MO,H a=some o.ho) (hf:a∉fp) (hz:∀ b,H b≠none->¬ Z b->¬ Z' b):Own K (Ao H a o) Z' x d v fp:=
 Own.move (S:=λ b=>b=a) (λ b u hb n=>by rw [AH n];exact hb) (λ b e=>by rw [e];exact ⟨hZ,hl⟩) hz x d v fp (λ b hb e=>hf (by rw [<- e];exact hb)) h
def OwnL.at {K:Frag}{Z Z':Addr->Prop}{a:Addr}{o:HO}{x:List PV}{d:Nat}{v:List V}{fp:List Addr} (h:OwnL K H Z x d v fp) (hZ:Z a) (hl:∃ o:MO,H a=some o.ho) (hf:a∉fp) (hz:∀ b,H b≠none->¬ Z b->¬ Z' b):OwnL K (Ao H a o) Z' x d v fp:=
 OwnL.move (S:=λ b=>b=a) (λ b u hb n=>by rw [AH n];exact hb) (λ b e=>by rw [e];exact ⟨hZ,hl⟩) hz x d v fp (λ b hb e=>hf (by rw [<- e];exact hb)) h
def Rep.rewrite {i:Nat}{xs:List PV}{d:Nat}{a:Addr}{ws:List V}{zs:List PV}{us:List V}{e:Nat}{f f' fp:List Addr} (hal:∀ i,M.al i=[]) (r:Rep (M.plus fp) ρ σ H fps) (hi:ρ[i]?=some (some (.lst xs,d))) (hσ:σ[i]?=some (some (.ref a)))
  (ha:H a=some (.lst ws)) (hfp:fps i=a::f) (hn:a∉f') (hsub:∀ b∈f',b∈f\/b∈fp) (he:e≠0) (hm:M.Ms i=true->e=om) (hH:∀ b∈fp,M.H₀ b=none/\¬ M.Zo b)
  (hnew:OwnL M.K (Ao H a (.lst us)) (Zf M (λ j=>if j=i then a::f' else fps j)) zs (pd e) us f'):
  Rep M (ρ.set i (some (.lst zs,e))) σ (Ao H a (.lst us)) (λ j=>if j=i then a::f' else fps j):=by
 have hlen:i < ρ.length:=(jb0.mp hi).1;have hai:a∈fps i:=by rw [hfp];exact AL
 have zz:∀ b,Zf M (λ j=>if j=i then a::f' else fps j) b->Zf (M.plus fp) fps b:=λ b h=>by
  rcases h with z | ⟨j,z⟩
  ·exact .inl (.inl z)
  ·by_cases ej:j=i
   ·simp only [if_pos ej] at z;rcases jb4.mp z with z | z
    ·exact .inr ⟨i,by rw [z];exact hai⟩
    ·rcases hsub b z with z | z
     ·exact .inr ⟨i,by rw [hfp];exact AM _ z⟩
     ·exact .inl (.inr z)
   ·simp only [if_neg ej] at z;exact .inr ⟨j,z⟩
 have dm:∀ b,H b≠none->(Ao H a (.lst us)) b≠none:=λ b h=>by
  by_cases eb:b=a
  ·rw [eb,Bu];simp
  ·rw [AH eb];exact h
 have inI:∀ b,b∈a::f'->b∈fps i\/b∈fp:=λ b hb=>by
  rcases jb4.mp hb with z | z
  ·exact .inl (by rw [z];exact hai)
  ·rcases hsub b z with z | z
   ·exact .inl (by rw [hfp];exact AM _ z)
   ·exact .inr z
 refine ⟨λ j y c hj=>?_,λ j hj=>?_,λ j k hjk b hb hc=>?_,λ j b hb z=>?_,λ j hj b hb=>?_,λ b z=>dm b (r.zd b (.inl z)),by rw [DA];exact r.len,λ j y c hj hc=>?_,λ b z=>dm b (r.h0 b z),r.iov⟩
 ·by_cases ej:j=i
  ·subst ej;rw [DN hlen] at hj;cases hj;refine ⟨_,hσ,?_⟩;rw [if_pos rfl,Own];exact ⟨a,us,rfl,.inr ⟨he,f',Bu,rfl,hn,hnew.weak λ _ h=>h.zf⟩⟩
  ·rw [CO (BY ej)] at hj;obtain ⟨w,hw,ow⟩:=r.own0 hal j y c hj;refine ⟨w,hw,?_⟩;rw [if_neg ej];exact ow.at (.inr ⟨i,hai⟩) ⟨.l ws,ha⟩ (λ z=>r.dj j i ej a z hai) λ b _ nz z=>nz (zz b z.zf)
 ·by_cases ej:j=i
  ·subst ej;exact absurd (DN hlen) (hj _)
  ·rw [if_neg ej];exact r.non j λ p hp=>hj p (by rw [CO (BY ej)];exact hp)
 ·have one:∀ k,k≠i->∀ b,b∈a::f'->b∈fps k->False:=λ k hk b h1 h2=>(inI b h1).elim (λ z=>r.dj i k (BY hk) b z h2) λ z=>r.zo k b h2 (.inr z);by_cases e1:j=i
  ·by_cases e2:k=i
   ·exact hjk (e1.trans e2.symm)
   ·rw [if_pos e1] at hb;rw [if_neg e2] at hc;exact one k e2 b hb hc
  ·rw [if_neg e1] at hb;by_cases e2:k=i
   ·rw [if_pos e2] at hc;exact one j e1 b hc hb
   ·rw [if_neg e2] at hc;exact r.dj j k hjk b hb hc
 ·by_cases ej:j=i
  ·rw [if_pos ej] at hb;rcases inI b hb with y | y
   ·exact r.zo i b y (.inl z)
   ·exact (hH b y).2 z
  ·rw [if_neg ej] at hb;exact r.zo j b hb (.inl z)
 ·by_cases ej:j=i
  ·rw [if_pos ej] at hb;rcases inI b hb with y | y
   ·exact r.fr i (by rw [<- ej];exact hj) b y
   ·exact (hH b y).1
  ·rw [if_neg ej] at hb;exact r.fr j hj b hb
 ·by_cases ej:j=i
  ·subst ej;rw [DN hlen] at hc;cases hc;exact hm hj
  ·rw [CO (BY ej)] at hc;exact r.msf j y c hj hc
end
section
variable {M:Fm}{ρ ρ':Af}{σ σ':St}{H H' H'':Hp}{fps fps' fps'':AW}{vs vs':List Nat}
def KS.write {a:Addr}{o:HO}{i:Nat}{f' fp:List Addr} (k:KS M H fps H' fps') (ha:∃ j,a∈fps j) (hs:∀ b∈a::f',b∈fps' i\/H b=none):
  KS M H fps (Ao H' a o) (λ j=>if j=i then a::f' else fps' j) where
 keep:=λ b u hb n=>by rw [AH (λ e=>n (by rw [e];exact ha))];exact k.keep b u hb n
 dom:=λ b hb=>by
  by_cases e:b=a
  ·rw [e,Bu];simp
  ·rw [AH e];exact k.dom b hb
 sub:=λ j b hb=>by
  by_cases e:j=i
  ·simp only [if_pos e] at hb;rcases hs b hb with z | z
   ·exact k.sub i b z
   ·exact .inr z
  ·simp only [if_neg e] at hb;exact k.sub j b hb
def Rep.behind {x:PV}{d:Nat}{v:V}{fp:List Addr} (rep:Rep M ρ σ H fps) (k:KD M H fps H' fps') (g:Agr M ρ ρ') (r':Rep M ρ' σ H' fps') (o:Own M.K H' (Zt M vs fps' fp) x d v fp) (t:Temp M vs H H' fps' fp)
  (hal:∀ i,M.al i=[]) (hv:∀ i∈vs,M.Ms i=false):∃ fps2,KS M H fps H' fps2/\Rep (M.plus fp) (Bh d vs ρ') σ H' fps2/\Own M.K H' (λ a=>Zf M fps2 a\/a∈fp) x d v fp/\(∀ a∈fp,¬ Zf M fps2 a)/\(∀ i a,a∈fps2 i->a∈fps' i)/\(∀ a∈fp,M.H₀ a=none/\¬ M.Zo a):=by
 have w:Rep (M.plus fp) ρ' σ H' fps':=rep.wide (λ i j hj=>by rw [hal i] at hj;cases hj) k g r' λ a ha=>⟨t.new a ha,by obtain ⟨xs,e⟩:=Own.lsts x d v fp o a ha;rw [e];simp,t.ndj a ha⟩
 have hf:∀ a∈fp,M.H₀ a=none/\¬ M.Zo a:=λ a ha=>⟨rep.h0' (t.new a ha),λ z=>t.ndj a ha (.inl z)⟩
 unfold Bh;by_cases hd:d=om
 ·rw [if_pos hd];refine ⟨fps',k.ks,w,?_,t.ndj,λ _ _ h=>h,hf⟩;rw [hd] at o ⊢;exact Own.full x v fp o
 ·rw [if_neg hd];exact ⟨Eb vs fps',k.ks.cool,w.cool hal hv,o.weak λ a h=>h.elim (λ h=>.inl (Ib h)) .inr,λ a ha z=>t.ndj a ha (Ib z).zf,λ _ _ h=>(Gz h).1,hf⟩
def Co (i:Nat) (f:Fx) (vs:List Nat):Fs:=λ ρ=>match ρ[i]? with
 | some (some (.lst _,0))=>.no
 | some (some (.lst _,_ + 1))=>(match f ρ with
  | .ok (y,e,ρ1)=>(match (Bh e vs ρ1)[i]? with
   | some (some (.lst xs,d))=>if d≠0/\xs.length < Az then .nx ((Bh e vs ρ1).set i (some (.lst (xs++[y]),if d=om/\e=om then om else 1))) else .no
   | _=>.no)
  | .exc c=>.exc c
  | .no=>.no)
 | _=>.no
def Lk:pd 1=0:=by decide
def Own.list {K:Frag}{Z:Addr->Prop}{xs:List PV}{d:Nat}{v:V}{fp:List Addr} (h:Own K H Z (.lst xs) d v fp) (hd:d≠0):∃ a ws f,v=.ref a/\H a=some (.lst ws)/\fp=a::f/\a∉f/\OwnL K H Z xs (pd d) ws f:=by
 rw [Own] at h;obtain ⟨a,ws,e,⟨d0,_⟩ | ⟨_,f,h1,h2,h3,h4⟩⟩:=h
 ·exact absurd d0 hd
 ·exact ⟨a,ws,f,e,h1,h2,h3,h4⟩
def zy {f:Fx}{i:Nat}{D:Ends} (hal:∀ i,M.al i=[]) (hv:∀ i∈vs,M.Ms i=false) (hm:M.Ms i=false) (hq:tS M (Co i f vs) D σ H):O1 (Rw M.K "list" Xg (DE i) (O0 (tE M f vs) Hw)) D σ H:=by
 obtain ⟨ρ,fps,rep,q⟩:=hq;unfold Co at q;split at q
 ·exact q.elim
 ·rename_i xs0 d0 e0;obtain ⟨v,hσ,o⟩:=rep.own0 hal i _ _ e0;obtain ⟨a,ws0,fc0,rfl,ha0,hfp0,_,_⟩:=o.list (Zh _);refine ⟨_,hσ,Xs (.inl (.inl ha0)),ρ,fps,rep,?_⟩;cases ef:f ρ with
  | no=>rw [ef] at q;exact q
  | exc c=>rw [ef] at q;exact λ H' fps' k=>q _ H' fps' k.ks
  | ok p=>
   obtain ⟨y,e,ρ1⟩:=p;rw [ef] at q;intro w H1 fps1 fp k1 g1 rep1 o1 t1;dsimp only at q;split at q
   ·rename_i xs d es;split at q
    ·rename_i hc;obtain ⟨fps2,k2,r2,o2,n2,s2,h2⟩:=Rep.behind rep k1 g1 rep1 o1 t1 hal hv;obtain ⟨v',hσ',ol⟩:=r2.own0 hal i _ _ es;rw [hσ] at hσ';cases hσ';obtain ⟨a',ws,fc,ev,ha,hfp,nac,hol⟩:=ol.list hc.1;cases ev;have hai:a∈fps2 i:=by rw [hfp];exact AL
     have hafp:a∉fp:=λ z=>n2 a z (.inr ⟨i,hai⟩);have hst:∃ j,a∈fps j:=⟨i,by have:=s2 i a hai;rw [k1.same i hm] at this;exact this⟩
     refine ⟨a,ws,w,rfl,rfl,ha,by rw [hol.length];exact hc.2,?_⟩;by_cases ho:d=om/\e=om
     ·rw [if_pos ho] at q;obtain ⟨rfl,rfl⟩:=ho;refine q σ _ _ (k2.write (i:=i) (f':=fc++fp) (fp:=fp) hst λ b hb=>?_) (r2.rewrite hal es hσ ha hfp (λ z=>(jd4.mp z).elim nac hafp) (λ b hb=>jd4.mp hb) (by decide) (λ _=>rfl) h2 ?_)
      ·rcases jb4.mp hb with z | z
       ·exact .inl (by rw [z];exact hai)
       ·rcases jd4.mp z with z | z
        ·exact .inl (by rw [hfp];exact AM _ z)
        ·exact .inr (t1.new b z)
      ·have u1:OwnL M.K (Ao H1 a (.lst (ws++[w]))) (λ _=>True) xs om ws fc:=(OwnL.full (Z':=λ _=>True) xs ws fc hol).at trivial ⟨.l ws,ha⟩ nac λ _ _ n=>absurd trivial n;have u2:Own M.K (Ao H1 a (.lst (ws++[w]))) (λ _=>True) y om w fp:=(Own.full (Z':=λ _=>True) y w fp o2).at trivial ⟨.l ws,ha⟩ hafp λ _ _ n=>absurd trivial n;exact OwnL.full _ _ _ (u1.snoc u2 λ b hb z=>n2 b z (.inr ⟨i,by rw [hfp];exact AM _ hb⟩))
     ·rw [if_neg ho] at q;refine q σ _ _ (k2.write (i:=i) (f':=[]) (fp:=fp) hst λ b hb=>?_) (r2.rewrite hal es hσ ha hfp (λ z=>nomatch z) (λ b hb=>nomatch hb) (by decide) (λ h=>by rw [hm] at h;cases h) h2 ?_)
      ·rcases jb4.mp hb with z | z
       ·exact .inl (by rw [z];exact hai)
       ·cases z
      ·rw [Lk];have zsub:∀ b,Zf M (λ j=>if j=i then [a] else fps2 j) b->Zf (M.plus fp) fps2 b:=λ b h=>by
        rcases h with z | ⟨j,z⟩
        ·exact .inl (.inl z)
        ·by_cases ej:j=i
         ·simp only [if_pos ej] at z;rw [jb6.mp z];exact .inr ⟨i,hai⟩
         ·simp only [if_neg ej] at z;exact .inr ⟨j,z⟩
       have nf:∀ b∈fc,¬ Zf M (λ j=>if j=i then [a] else fps2 j) b:=λ b hb z=>by
        have hbi:b∈fps2 i:=by rw [hfp];exact AM _ hb
        rcases z with z | ⟨j,z⟩
        ·exact r2.zo i b hbi (.inl z)
        ·by_cases ej:j=i
         ·simp only [if_pos ej] at z;rw [jb6.mp z] at hb;exact nac hb
         ·simp only [if_neg ej] at z;exact r2.dj i j (BY ej) b hbi z
       have nfp:∀ b∈fp,¬ Zf M (λ j=>if j=i then [a] else fps2 j) b:=λ b hb z=>by
        rcases z with z | ⟨j,z⟩
        ·exact n2 b hb (.inl z)
        ·by_cases ej:j=i
         ·simp only [if_pos ej] at z;rw [jb6.mp z] at hb;exact hafp hb
         ·simp only [if_neg ej] at z;exact n2 b hb (.inr ⟨j,z⟩)
       have za:Zf M (λ j=>if j=i then [a] else fps2 j) a:=.inr ⟨i,by simp⟩;have u1:=(OwnL.freeze (Z':=Zf M (λ j=>if j=i then [a] else fps2 j)) zsub xs _ ws fc nf hol)
       have u2:=(Own.freeze (Z':=Zf M (λ j=>if j=i then [a] else fps2 j)) (λ b h=>by
        rcases h with z | ⟨j,z⟩
        ·exact .inl (.inl z)
        ·by_cases ej:j=i
         ·simp only [if_pos ej] at z;rw [jb6.mp z];exact .inl (.inr ⟨i,hai⟩)
         ·simp only [if_neg ej] at z;exact .inl (.inr ⟨j,z⟩)) y _ w fp nfp o2)
       exact (u1.at za ⟨.l ws,ha⟩ (λ z=>nomatch z) λ _ _ n=>n).snoc (u2.at za ⟨.l ws,ha⟩ (λ z=>nomatch z) λ _ _ n=>n) λ _ z=>nomatch z
    ·exact q.elim
   ·exact q.elim
 ·exact q.elim
def O5:PV->Bool
 | .lst _=>false
 | .tup _=>false
 | .dct _=>false
 | .dcl _ _=>false
 | _=>true
theorem OwnL.set {K:Frag}{Z:Addr->Prop}{y:PV}{d:Nat}{w:V} (hy:Own K H Z y d w []):∀ {xs:List PV}{ws:List V}{f:List Addr} (k:Nat),OwnL K H Z xs d ws f->∃ f',(∀ b∈f',b∈f)/\OwnL K H Z (xs.set k y) d (ws.set k w) f'
 | [],ws,f,k,h=>by
  rw [OwnL] at h;obtain ⟨rfl,rfl⟩:=h;refine ⟨[],λ _ z=>z,?_⟩;rw [YO,YO,OwnL];exact ⟨rfl,rfl⟩
 | x::xs,ws,f,0,h=>by
  rw [OwnL] at h;obtain ⟨v,s,f1,f2,rfl,rfl,dj,h1,h2⟩:=h;refine ⟨f2,λ b hb=>BX _ hb,?_⟩;rw [Zw,Zw,OwnL];exact ⟨w,s,[],f2,rfl,rfl,λ _ z=>(nomatch z),hy,h2⟩
 | x::xs,ws,f,k + 1,h=>by
  rw [OwnL] at h;obtain ⟨v,s,f1,f2,rfl,rfl,dj,h1,h2⟩:=h;obtain ⟨f',hs,h'⟩:=h2.set hy k;refine ⟨f1++f',λ b hb=>(jd4.mp hb).elim (λ z=>BW _ z) λ z=>BX _ (hs b z),?_⟩;rw [Tx,Tx,OwnL];exact ⟨v,s.set k w,f1,f',rfl,rfl,λ b hb hc=>dj b hb (hs b hc),h1,h'⟩
theorem Own.atom {K:Frag}{Z Z':Addr->Prop}{y:PV}{d d':Nat}{w:V}{fp:List Addr} (hy:O5 y=true) (h:Own K H Z y d w fp):fp=[]/\Own K H Z' y d' w []:=by
 cases y with
 | lst _=>cases hy
 | tup _=>cases hy
 | dct _=>cases hy
 | dcl _ _=>cases hy
 | exn _=>rw [Own] at h ⊢;exact ⟨h.1,rfl,h.2⟩
 | emp=>rw [Own] at h ⊢;exact ⟨h.1,rfl,h.2⟩
 | dko=>rw [Own] at h ⊢;exact ⟨h.1,rfl,h.2⟩
 | scr _=>rw [Own] at h ⊢;exact ⟨h.1,rfl,h.2⟩
 | non=>rw [Own] at h ⊢;exact ⟨h.2,h.1,rfl⟩
 | bl _=>rw [Own] at h ⊢;exact ⟨h.2,h.1,rfl⟩
 | int _=>rw [Own] at h ⊢;exact ⟨h.2,h.1,rfl⟩
 | str _=>rw [Own] at h ⊢;exact ⟨h.2,h.1,rfl⟩
end
section
variable {is:List Nat}{M:Fm}{ρ ρ':Af}{σ σ':St}{H H' H'':Hp}{fps fps' fps'':AW}{vs vs':List Nat}
def Rep.plus0 (hal:∀ i,∀ j∈M.al i,M.Ms j=false) (r:Rep M ρ σ H fps):Rep (M.plus []) ρ σ H fps:=r.wide hal KD.refl Agr.refl r (λ _ z=>nomatch z)
def Dd (M:Fm) (al is:List Nat) (g:TG) (asg:PV->Af->Option Af):Prop:=∀ y v ρ σ H fps ρ' (Q:St->Hp->Prop),Rep M ρ σ H fps->Own M.K H (Zv M al fps) y 0 v []->asg y ρ=some ρ'->(∀ σ' fps',(∀ i,∀ a∈fps' i,a∈fps i)->(∀ i,i∉is->ρ'[i]?=ρ[i]?/\fps' i=fps i/\σ'[i]?=σ[i]?)->ρ'.length=ρ.length->Rep M ρ' σ' H fps'->Q σ' H)->g v σ H Q
def asgN (i:Nat):PV->Af->Option Af:=λ y ρ=>if i < ρ.length then some (ρ.set i (some (y,dv y))) else none
def Own.dv {K:Frag}{Z:Addr->Prop}{x:PV}{v:V} (h:Own K H Z x 0 v []):Own K H Z x (dv x) v []:=Own.view (fp:=[]) (λ _ z=>z) (λ _ z=>nomatch z) h
structure Bd (M:Fm) (al:List Nat) (i:Nat):Prop where
 ms:M.Ms i=false
 io:M.Fre i
 al:M.al i=al
 als:∀ i,∀ j∈M.al i,M.Ms j=false
def Rep.bind1 {al:List Nat}{i:Nat}{y:PV}{v:V} (r:Rep M ρ σ H fps) (o:Own M.K H (Zv M al fps) y 0 v []) (hi:i < ρ.length) (b:Bd M al i):
  Rep M (ρ.set i (some (y,dv y))) (σ.set i (some v)) H (λ j=>if j=i then [] else fps j):=by
 refine (r.plus0 b.als).put (o.dv.weak λ a h=>h.elim (λ h=>?_) λ z=>nomatch z) (λ _ z=>nomatch z) hi (λ h=>by rw [b.ms] at h;cases h) b.io;rcases h with h | ⟨j,nj,h⟩
 ·exact .inl h
 ·exact .inr ⟨j,by rw [b.al] at nj;exact nj,h⟩
def RZ {al:List Nat}{i:Nat} (b:Bd M al i):Dd M al [i] (Fq i) (asgN i):=by
 intro y v ρ σ H fps ρ' Q r o e q;unfold asgN at e;split at e
 ·rename_i hi;cases e;refine q _ _ (λ j a ha=>?_) (λ j nj=>?_) (by rw [DA]) (r.bind1 o hi b)
  ·by_cases e:j=i
   ·simp only [if_pos e] at ha;cases ha
   ·simp only [if_neg e] at ha;exact ha
  ·have e:j≠i:=λ e=>nj (by simp [e]);exact ⟨CO (BY e),if_neg e,CO (BY e)⟩
 ·cases e
def JK:List Nat->IG
 | []=>Mj
 | i::is=>Vr (Fq i) (JK is)
def BG:List Nat->List PV->Af->Option Af
 | [],[],ρ=>some ρ
 | i::is,y::ys,ρ=>(asgN i y ρ).bind (BG is ys)
 | _,_,_=>none
def asgT (is:List Nat):PV->Af->Option Af:=λ y ρ=>match y with
 | .tup ys=>BG is ys ρ
 | _=>none
theorem Sz {al:List Nat}:∀ (is:List Nat) (ys:List PV) (ws:List V) (ρ:Af) (σ:St) (H:Hp) (fps:AW) (ρ':Af) (Q:St->Hp->Prop),(∀ i∈is,Bd M al i)->Rep M ρ σ H fps->OwnL M.K H (Zv M al fps) ys 0 ws []->BG is ys ρ=some ρ' ->
  (∀ σ' fps',(∀ i,∀ a∈fps' i,a∈fps i)->(∀ i,i∉is->ρ'[i]?=ρ[i]?/\fps' i=fps i/\σ'[i]?=σ[i]?)->ρ'.length=ρ.length->Rep M ρ' σ' H fps'->Q σ' H)->ws.length=is.length/\JK is ws σ H Q
 | [],[],ws,ρ,σ,H,fps,ρ',Q,_,r,o,e,q=>by
  rw [OwnL] at o;obtain ⟨rfl,_⟩:=o;cases e;exact ⟨rfl,rfl,q σ fps (λ _ _ h=>h) (λ _ _=>⟨rfl,rfl,rfl⟩) rfl r⟩
 | [],_::_,_,_,_,_,_,_,_,_,_,_,e,_=>by cases e
 | _::_,[],_,_,_,_,_,_,_,_,_,_,e,_=>by cases e
 | i::is,y::ys,ws,ρ,σ,H,fps,ρ',Q,hs,r,o,e,q=>by
  rw [OwnL] at o;obtain ⟨v,s,f1,f2,rfl,ef,_,o1,o2⟩:=o;obtain ⟨rfl,rfl⟩:f1=[]/\f2=[]:=by simpa using ef.symm
  unfold BG at e;cases e1:asgN i y ρ with
  | none=>rw [e1] at e;cases e
  | some ρ1=>
   rw [e1] at e;unfold asgN at e1;split at e1
   ·rename_i hi;cases e1;have bi:=hs i AL;have r':=r.bind1 o1 hi bi;have sub:∀ j a,a∈(λ j=>if j=i then [] else fps j) j->a∈fps j:=λ j a z=>by
     by_cases ej:j=i
     ·simp only [if_pos ej] at z;cases z
     ·simp only [if_neg ej] at z;exact z
    have o2':OwnL M.K H (Zv M al (λ j=>if j=i then [] else fps j)) ys 0 s []:=o2.weak λ a h=>h.elim .inl λ ⟨j,nj,z⟩=>.inr ⟨j,nj,sub j a z⟩;obtain ⟨hl,hg⟩:=Sz is ys s _ _ H _ ρ' Q (λ j hj=>hs j (AM _ hj)) r' o2' e λ σ' fps' k' a' l' r''=>q σ' fps' (λ j a ha=>sub j a (k' j a ha)) (λ j hj=>by
     have ej:j≠i:=λ e=>hj (by rw [e];exact AL);obtain ⟨z1,z2,z3⟩:=a' j λ z=>hj (AM _ z);rw [if_neg ej] at z2;exact ⟨z1.trans (CO (BY ej)),z2,z3.trans (CO (BY ej))⟩) (l'.trans (by rw [DA])) r''
    exact ⟨by rw [Bw,Bw,hl],v,s,rfl,hg⟩
   ·cases e1
def RB {al:List Nat}{is:List Nat} (hs:∀ i∈is,Bd M al i):Dd M al is (Jz M.K is.length (JK is)) (asgT is):=by
 intro y v ρ σ H fps ρ' Q r o e q;unfold asgT at e;split at e
 ·rename_i ys;rw [Own] at o;obtain ⟨a,ws,rfl,hr,ol⟩:=o;obtain ⟨hl,hg⟩:=Sz is ys ws ρ σ H fps ρ' Q hs r ol e q;exact ⟨a,ws,rfl,.inl (.inl hr),hl,hg⟩
 ·cases e
def BQ (asg:PV->Af->Option Af) (body:Fs):List PV->Af->Rs
 | [],ρ=>.nx ρ
 | x::xs,ρ=>match asg x ρ with
  | none=>.no
  | some ρ1=>match body ρ1 with
   | .nx ρ2=>BQ asg body xs ρ2
   | .ct ρ2=>BQ asg body xs ρ2
   | .bk ρ2=>.nx ρ2
   | .rt x d ρ2=>.rt x d ρ2
   | .exc c=>.exc c
   | .no=>.no
def Gu {g:TG}{asg:PV->Af->Option Af}{body:Fs}{D:Ends}{J:It}{els:List PV}{Pq:Hp->AW->Prop} (hg:Dd M [] is g asg)
  (hP:∀ {ρ σ H fps H' fps'},Rep M ρ σ H fps->KS M H fps H' fps'->Pq H fps->Pq H' fps') (hgo:∀ {H fps i},Pq H fps->i < els.length->J.go i H) (hst:∀ {H fps i},Pq H fps->els.length<=i->J.stop i H)
  (hy:∀ {ρ σ H fps i x H'},Rep M ρ σ H fps->Pq H fps->i < els.length->J.yld i H x H'->(∀ a o,H a=some o->H' a=some o)/\∃ y,els[i]?=some y/\Own M.K H' (Zf M fps) y 0 x [])
  (rep:Rep M ρ σ H fps) (p:Pq H fps) (q:RsOk M D H fps (BQ asg body els ρ)):
  ∃ W:Nat->Nat->St->Hp->Prop,(∃ m,W 0 m σ H)/\∀ i m σ H,W i m σ H ->
   (J.stop i H/\D.nx σ H)\/(J.go i H/\∃ N:St->Hp->Prop,(∀ σ' H',N σ' H'->∃ m',m' < m/\W (i + 1) m' σ' H')/\∀ x H',J.yld i H x H'->g x σ H' λ σ2 H2=>(tS M body) { D with nx:=N,ct:=N,bk:=D.nx } σ2 H2):=by
 let W:Nat->Nat->St->Hp->Prop:=λ i m σ H=>m=els.length - i/\∃ ρ fps,Rep M ρ σ H fps/\Pq H fps/\RsOk M D H fps (BQ asg body (els.drop i) ρ);refine ⟨W,⟨els.length,by simp,ρ,fps,rep,p,by simpa using q⟩,?_⟩;rintro i m σ H ⟨rfl,ρ,fps,r,p,q⟩;by_cases hi:i < els.length
 ·right
  refine ⟨hgo p hi,W (i + 1) (els.length - (i + 1)),λ σ' H' w=>⟨_,by omega,w⟩,λ x H' y=>?_⟩;obtain ⟨kx,z,ez,oz⟩:=hy r p hi y;have k0:KS M H fps H' fps:=(KD.grow kx).ks;have p:=hP r k0 p;have r:=r.grow kx;have q:=RsOk.from k0 q;have ed:els.drop i=z::els.drop (i + 1):=by
   obtain ⟨h1,h2⟩:=jb0.mp ez;rw [<- h2];exact T5 h1
  rw [ed] at q;unfold BQ at q;cases ea:asg z ρ with
  | none=>rw [ea] at q;exact q.elim
  | some ρ1=>
   rw [ea] at q;dsimp only at q;refine hg z x ρ σ _ fps ρ1 _ r (oz.weak λ a h=>h.zf) ea λ σ1 fps1 s1 _ _ r1=>⟨ρ1,fps1,r1,?_⟩
   have k1:KS M H' fps H' fps1:=⟨λ _ _ h _=>h,λ _ h=>h,λ j a ha=>.inl ⟨j,s1 j a ha⟩⟩
   have p1:=hP r k1 p;cases eb:body ρ1 with
   | no=>rw [eb] at q;exact q
   | exc c=>rw [eb] at q;exact RsOk.from (r:=.exc c) k1 q
   | rt x d ρ2=>rw [eb] at q;exact RsOk.from (r:=.rt x d ρ2) k1 q
   | bk ρ2=>rw [eb] at q;exact λ σ' H' fps' k=>q σ' H' fps' (k1.trans k)
   | nx ρ2=>rw [eb] at q;exact λ σ' H' fps' k r'=>⟨rfl,ρ2,fps',r',hP r1 k p1,RsOk.from (k1.trans k) q⟩
   | ct ρ2=>rw [eb] at q;exact λ σ' H' fps' k r'=>⟨rfl,ρ2,fps',r',hP r1 k p1,RsOk.from (k1.trans k) q⟩
 ·left
  have ed:els.drop i=[]:=Mg (by omega);rw [ed] at q;exact ⟨hst p (by omega),q σ H fps KS.refl r⟩
def FJ (lo:Int) (n:Nat):List PV:=(A6 n).map λ (i:Nat)=>PV.int (lo + (i:Int))
def JD (lo:Int) (n:Nat):(FJ lo n).length=n:=by simp [FJ]
def BI:List (PV×Nat)->Option (Int×Int)
 | [(.int j,_)]=>if -(2 ^ 62)<=j/\j < 2 ^ 62 then some (0,j) else none
 | _=>none
def FL:List (PV×Nat)->Option (Int×Int)
 | [(.int i,_),(.int j,_)]=>if -(2 ^ 62)<=i/\i < 2 ^ 62/\-(2 ^ 62)<=j/\j < 2 ^ 62 then some (i,j) else none
 | _=>none
def CP (en:List (PV×Nat)->Option (Int×Int)) (fa:Fa) (asg:PV->Af->Option Af) (body:Fs):Fs:=λ ρ=>match fa ρ with
 | .ok (xs,ρ1)=>(match en xs with
  | some (i,j)=>BQ asg body (FJ i (j - i).toNat) ρ1
  | none=>.no)
 | .exc c=>.exc c
 | .no=>.no
def Uk {g:TG}{asg:PV->Af->Option Af}{body:Fs}{D:Ends}{lo:Int}{n:Nat} (hg:Dd M [] is g asg) (rep:Rep M ρ σ H fps) (q:RsOk M D H fps (BQ asg body (FJ lo n) ρ)):
  ∃ W:Nat->Nat->St->Hp->Prop,(∃ m,W 0 m σ H)/\∀ i m σ H,W i m σ H ->
   ((GO lo n).stop i H/\D.nx σ H)\/((GO lo n).go i H/\∃ N:St->Hp->Prop,(∀ σ' H',N σ' H'->∃ m',m' < m/\W (i + 1) m' σ' H')/\∀ x H',(GO lo n).yld i H x H'->g x σ H' λ σ2 H2=>(tS M body) { D with nx:=N,ct:=N,bk:=D.nx } σ2 H2):=by
 refine Gu (Pq:=λ _ _=>True) hg (λ _ _ _=>trivial) (λ {H fps i} _ h=>?_) (λ {H fps i} _ h=>?_) (λ {ρ σ H fps i x H'} _ _ h y=>?_) rep trivial q
 ·rw [JD] at h;exact h
 ·rw [JD] at h;exact h
 ·rw [JD] at h;obtain ⟨e1,e2⟩:=y;subst e1;exact ⟨λ _ _ h=>h,.int (lo + i),by simp [FJ,h],by rw [e2,Own];exact ⟨rfl,rfl⟩⟩
theorem Xo {g:TG}{asg:PV->Af->Option Af}{body:Fs}{fa:Fa}{D:Ends} (hg:Dd M [] is g asg) (hq:tS M (CP BI fa asg body) D σ H):Dr (Ou (tL M fa vs)) g (tS M body) D σ H:=by
 obtain ⟨ρ,fps,rep,q⟩:=hq;refine ⟨ρ,fps,rep,?_⟩;unfold CP at q;cases ef:fa ρ with
 | no=>rw [ef] at q;exact q
 | exc c=>rw [ef] at q;exact λ H' fps' k=>q _ H' fps' k.ks
 | ok p=>
  obtain ⟨xs,ρ1⟩:=p;rw [ef] at q;intro ws H1 fps1 f1 k1 g1 rep1 o1 t1;dsimp only at q;cases ee:BI xs with
  | none=>rw [ee] at q;exact q.elim
  | some ij=>
   obtain ⟨i,j⟩:=ij;rw [ee] at q;unfold BI at ee;split at ee
   ·rename_i j' d;split at ee
    ·rename_i hb;cases ee;obtain ⟨v,r,f1,f2,rfl,_,_,h1,h2⟩:=o1;obtain ⟨rfl,_⟩:=h2;rw [Own] at h1;obtain ⟨rfl,_⟩:=h1;refine ⟨j,rfl,hb.1,hb.2,?_⟩;have e:(j - 0).toNat=j.toNat:=by omega
     dsimp only at q;rw [e] at q;exact Uk hg rep1 (RsOk.from k1.ks q)
    ·cases ee
   ·cases ee
theorem Xp {g:TG}{asg:PV->Af->Option Af}{body:Fs}{fa:Fa}{D:Ends} (hg:Dd M [] is g asg) (hq:tS M (CP FL fa asg body) D σ H):Dr (Ov (tL M fa vs)) g (tS M body) D σ H:=by
 obtain ⟨ρ,fps,rep,q⟩:=hq;refine ⟨ρ,fps,rep,?_⟩;unfold CP at q;cases ef:fa ρ with
 | no=>rw [ef] at q;exact q
 | exc c=>rw [ef] at q;exact λ H' fps' k=>q _ H' fps' k.ks
 | ok p=>
  obtain ⟨xs,ρ1⟩:=p;rw [ef] at q;intro ws H1 fps1 f1 k1 g1 rep1 o1 t1;dsimp only at q;cases ee:FL xs with
  | none=>rw [ee] at q;exact q.elim
  | some ij=>
   obtain ⟨i,j⟩:=ij;rw [ee] at q;unfold FL at ee;split at ee
   ·rename_i i' d j' d';split at ee
    ·rename_i hb;cases ee;obtain ⟨v,r,f1,f2,rfl,_,_,h1,h2⟩:=o1;obtain ⟨v2,r2,f3,f4,rfl,_,_,h3,h4⟩:=h2;obtain ⟨rfl,_⟩:=h4;rw [Own] at h1 h3;obtain ⟨rfl,_⟩:=h1;obtain ⟨rfl,_⟩:=h3;exact ⟨i,j,rfl,hb,Uk hg rep1 (RsOk.from k1.ks q)⟩
    ·cases ee
   ·cases ee
def FO (z:Str):List PV:=z.cps.toList.map λ c=>.str ⟨#[c]⟩
def E3 (f:Fx) (vs:List Nat) (asg:PV->Af->Option Af) (body:Fs):Fs:=λ ρ=>match f ρ with
 | .ok (.str z,d,ρ1)=>if O4 z=true then BQ asg body (FO z) (Bh d vs ρ1) else .no
 | .ok (.lst xs,d,ρ1)=>BQ asg body xs (Bh d vs ρ1)
 | .ok (.tup xs,d,ρ1)=>BQ asg body xs (Bh d vs ρ1)
 | .ok _=>.no
 | .exc c=>.exc c
 | .no=>.no
theorem OwnL.get {K:Frag}{Z:Addr->Prop}:∀ {xs:List PV}{ws:List V}{i:Nat}{w:V},OwnL K H Z xs 0 ws []->ws[i]?=some w->∃ x,xs[i]?=some x/\Own K H Z x 0 w []
 | [],ws,i,w,h,e=>by
  rw [OwnL] at h;obtain ⟨rfl,_⟩:=h;simp at e
 | x::xs,ws,i,w,h,e=>by
  rw [OwnL] at h;obtain ⟨v,s,f1,f2,rfl,ef,_,o1,o2⟩:=h;obtain ⟨rfl,rfl⟩:f1=[]/\f2=[]:=by simpa using ef.symm
  cases i with
  | zero=>simp at e;subst e;exact ⟨x,by simp,o1⟩
  | succ i=>obtain ⟨y,e1,e2⟩:=o2.get (i:=i) (w:=w) (by simpa using e);exact ⟨y,by simpa using e1,e2⟩
def Rep.seen {x:PV}{d:Nat}{v:V}{fp:List Addr} (rep:Rep M ρ σ H fps) (k:KD M H fps H' fps') (g:Agr M ρ ρ') (r':Rep M ρ' σ H' fps') (o:Own M.K H' (Zt M vs fps' fp) x d v fp) (t:Temp M vs H H' fps' fp)
  (hal:∀ i,M.al i=[]) (hv:∀ i∈vs,M.Ms i=false):∃ fps2,KS M H fps H' fps2/\Rep M (Bh d vs ρ') σ H' fps2/\Own M.K H' (Zf M fps2) x 0 v []:=by
 unfold Bh;by_cases hd:d=om
 ·rw [if_pos hd];rw [hd] at o;exact ⟨fps',k.ks,r',Own.freeze (λ _ z=>z) x om v fp (λ a ha=>t.ndj a ha) (Own.full x v fp o)⟩
 ·rw [if_neg hd];exact ⟨Eb vs fps',k.ks.cool,r'.cool hal hv,Own.freeze (λ a h=>.inl (Ib h)) x d v fp (λ a ha z=>t.ndj a ha (Ib z).zf) o⟩
theorem SS {g:TG}{asg:PV->Af->Option Af}{body:Fs}{f:Fx}{D:Ends} (hal:∀ i,M.al i=[]) (hv:∀ i∈vs,M.Ms i=false) (hg:Dd M [] is g asg) (hq:tS M (E3 f vs asg body) D σ H):Dr (EY M.K (tE M f vs)) g (tS M body) D σ H:=by
 obtain ⟨ρ,fps,rep,q⟩:=hq;refine ⟨ρ,fps,rep,?_⟩;unfold E3 at q;cases ef:f ρ with
 | no=>rw [ef] at q;exact q
 | exc c=>rw [ef] at q;exact λ H' fps' k=>q _ H' fps' k.ks
 | ok p=>
  obtain ⟨x,d,ρ1⟩:=p;rw [ef] at q;intro v H1 fps1 f1 k1 g1 rep1 o1 t1;obtain ⟨fps2,k2,r2,o2⟩:=Rep.seen rep k1 g1 rep1 o1 t1 hal hv;cases x with
  | lst xs=>
   have o2':=o2;rw [Own] at o2';obtain ⟨a,ws,rfl,⟨_,hr,_,ol⟩ | ⟨h,_⟩⟩:=o2'
   ·have sq:Bo M.K H1 a ws:=.inl (.inl hr.1);refine .inl ⟨a,rfl,.inl ⟨⟨ws,sq⟩,?_⟩⟩;have one:∀ {H:Hp}{fps:AW},Own M.K H (Zf M fps) (.lst xs) 0 (.ref a) []->∃ ws,Bo M.K H a ws/\OwnL M.K H (Zf M fps) xs 0 ws []:=λ o=>by
     rw [Own] at o;obtain ⟨b,ws,e,⟨_,hr,_,ol⟩ | ⟨h,_⟩⟩:=o
     ·cases e;exact ⟨ws,.inl (.inl hr.1),ol⟩
     ·exact absurd rfl h
    refine Gu (Pq:=λ H fps=>Own M.K H (Zf M fps) (.lst xs) 0 (.ref a) []) (els:=xs) hg (λ r k o=>k.stay0 r o) (λ {H fps i} o h=>?_) (λ {H fps i} o h=>?_) (λ {ρ σ H fps i x H'} _ o h y=>?_) r2 o2 (RsOk.from k2 q)
    ·obtain ⟨ws,s,ol⟩:=one o;exact ⟨ws,ws[i]'(by rw [ol.length];exact h),s,by simp⟩
    ·obtain ⟨ws,s,ol⟩:=one o;exact ⟨ws,s,by rw [ol.length];exact h⟩
    ·obtain ⟨ws,s,ol⟩:=one o;obtain ⟨e1,e2⟩:=y;subst e1;exact ⟨λ _ _ h=>h,ol.get (e2 ws s)⟩
   ·exact absurd rfl h
  | tup xs=>
   have o2':=o2;rw [Own] at o2';obtain ⟨a,ws,rfl,hr,ol⟩:=o2';refine .inl ⟨a,rfl,.inr ⟨⟨ws,.inl (.inl hr)⟩,?_⟩⟩;have one:∀ {H:Hp}{fps:AW},Own M.K H (Zf M fps) (.tup xs) 0 (.ref a) []->∃ ws,SqT M.K H a ws/\OwnL M.K H (Zf M fps) xs 0 ws []:=λ o=>by
    rw [Own] at o;obtain ⟨b,ws,e,hr,ol⟩:=o;cases e;exact ⟨ws,.inl (.inl hr),ol⟩
   refine Gu (Pq:=λ H fps=>Own M.K H (Zf M fps) (.tup xs) 0 (.ref a) []) (els:=xs) hg (λ r k o=>k.stay0 r o) (λ {H fps i} o h=>?_) (λ {H fps i} o h=>?_) (λ {ρ σ H fps i x H'} _ o h y=>?_) r2 o2 (RsOk.from k2 q)
   ·obtain ⟨ws,s,ol⟩:=one o;exact ⟨ws,ws[i]'(by rw [ol.length];exact h),s,by simp⟩
   ·obtain ⟨ws,s,ol⟩:=one o;exact ⟨ws,s,by rw [ol.length];exact h⟩
   ·obtain ⟨ws,s,ol⟩:=one o;obtain ⟨e1,e2⟩:=y;subst e1;exact ⟨λ _ _ h=>h,ol.get (e2 ws s)⟩
  | str z=>
   have o2':=o2;rw [Own] at o2';obtain ⟨rfl,_⟩:=o2';dsimp only at q;split at q
   ·rename_i ha;refine .inr ⟨z,rfl,ha,?_⟩;have hl:(FO z).length=z.cps.size:=by unfold FO;rw [AG,ID]
    refine Gu (Pq:=λ _ _=>True) (els:=FO z) hg (λ _ _ _=>trivial) (λ {H fps i} _ h=>?_) (λ {H fps i} _ h=>?_) (λ {ρ σ H fps i x H'} _ _ h y=>?_) r2 trivial (RsOk.from k2 q)
    ·show i < z.cps.size;omega
    ·show z.cps.size<=i;omega
    ·obtain ⟨rfl,c,hc,rfl⟩:=y;refine ⟨λ _ _ h=>h,.str ⟨#[c]⟩,?_,by rw [Own];exact ⟨rfl,rfl⟩⟩;unfold FO;rw [CI,Pb,hc];rfl
   ·exact q.elim
  | _=>exact q.elim
end
section
variable {M:Fm}{ρ ρ':Af}{σ σ':St}{H H' H'':Hp}{fps fps' fps'':AW}{vs vs':List Nat}
def Fm.comp (M:Fm) (D:Addr) (n:Nat) (vI:List Nat):Fm:={ M.plus [D] with W:=λ _ _ _=>False,al:=λ j=>if j < n then M.al j else vI }
def Rep.minus {fp:List Addr} (r:Rep (M.plus fp) ρ σ H fps):Rep M ρ σ H fps where
 own:=λ i x d e=>let ⟨v,h1,h2⟩:=r.own i x d e;⟨v,h1,h2.weak λ a h=>h.elim (λ h=>.inl (.inl h)) .inr⟩
 non:=r.non
 dj:=r.dj
 zo:=λ i a ha z=>r.zo i a ha (.inl z)
 fr:=r.fr
 zd:=λ a z=>r.zd a (.inl z)
 len:=r.len
 msf:=r.msf
 h0:=r.h0
 iov:=r.iov
def Rep.far (r:Rep M ρ σ H fps) {j:Nat} (h:ρ.length<=j):fps j=[]:=r.non j λ p e=>by
 rw [jj8.mpr h] at e;cases e
def Rep.ext {D:Addr}{k:Nat}{vI:List Nat} (r:Rep (M.plus [D]) ρ σ H fps):Rep (M.comp D ρ.length vI) (ρ++AK k none) (σ++AK k none) H fps where
 own:=λ i x d e=>by
  by_cases hi:i < ρ.length
  ·rw [C6 hi] at e;obtain ⟨v,h1,h2⟩:=r.own i x d e;refine ⟨v,by rw [C6 (by rw [<- r.len];exact hi)];exact h1,h2.weak λ a h=>?_⟩;rcases h with h | ⟨j,nj,h⟩
   ·exact .inl h
   ·refine .inr ⟨j,?_,h⟩
    have:(M.comp D ρ.length vI).al i=M.al i:=if_pos hi
    rw [this] at nj;exact nj
  ·rw [Gj (by omega),EG] at e;split at e <;> cases e
 non:=λ i h=>by
  by_cases hi:i < ρ.length
  ·exact r.non i λ p e=>h p (by rw [C6 hi];exact e)
  ·exact r.far (by omega)
 dj:=r.dj
 zo:=r.zo
 fr:=r.fr
 zd:=r.zd
 len:=by simp [r.len]
 msf:=λ i x d hm e=>by
  by_cases hi:i < ρ.length
  ·rw [C6 hi] at e;exact r.msf i x d hm e
  ·rw [Gj (by omega),EG] at e;split at e <;> cases e
 h0:=r.h0
 iov:=⟨λ v hv=>by
  have h:=r.iov.1 v hv;refine ⟨?_,h.2⟩
  have:0 < σ.length:=(jb0.mp h.1).1
  rw [C6 this];exact h.1,λ p hp=>by
  have h:=r.iov.2 p hp;rw [C6 (jb0.mp h).1];exact h⟩
def DZ (n:Nat) (fps:AW):AW:=λ j=>if j < n then fps j else []
def Ha {n i:Nat}{a:Addr} (h:a∈DZ n fps i):a∈fps i/\i < n:=by
 unfold DZ at h;split at h
 ·rename_i hi;exact ⟨h,hi⟩
 ·cases h
def Rep.take {D:Addr}{n:Nat}{vI:List Nat} (r:Rep (M.comp D n vI) ρ σ H fps) (hσ:∀ i,i < n->σ[i]?=σ'[i]?) (hl:σ'.length=n) (hn:n<=ρ.length) (hio:(M.io≠none->0 < n)/\∀ p∈M.pn,p.1 < n):Rep (M.plus [D]) (ρ.take n) σ' H (DZ n fps) where
 own:=λ i x d e=>by
  have hi:i < n:=by
   have:=(jb0.mp e).1
   rw [Gg] at this;omega
  rw [K9 hi] at e;obtain ⟨v,h1,h2⟩:=r.own i x d e;refine ⟨v,by rw [<- hσ i hi];exact h1,?_⟩
  have:DZ n fps i=fps i:=if_pos hi
  rw [this];refine h2.weak λ a h=>?_;rcases h with h | ⟨j,nj,h⟩
  ·exact .inl h
  ·refine .inr ⟨j,?_,(Ha h).1⟩
   have:(M.comp D n vI).al i=M.al i:=if_pos hi
   rw [this];exact nj
 non:=λ i h=>by
  unfold DZ;split
  ·rename_i hi;exact r.non i λ p e=>h p (by rw [K9 hi];exact e)
  ·rfl
 dj:=λ i j hij a ha hb=>r.dj i j hij a (Ha ha).1 (Ha hb).1
 zo:=λ i a ha=>r.zo i a (Ha ha).1
 fr:=λ i hi a ha=>r.fr i hi a (Ha ha).1
 zd:=r.zd
 len:=by rw [Gg,hl];omega
 msf:=λ i x d hm e=>by
  have hi:i < n:=by
   have:=(jb0.mp e).1
   rw [Gg] at this;omega
  rw [K9 hi] at e;exact r.msf i x d hm e
 h0:=r.h0
 iov:=⟨λ v hv=>by
  have h:=r.iov.1 v hv;refine ⟨?_,h.2⟩;have h0:0 < n:=hio.1 (by
   have hv':M.io=some v:=hv;rw [hv'];simp)
  rw [<- hσ 0 h0];exact h.1,λ p hp=>by rw [<- hσ p.1 (hio.2 p hp)];exact r.iov.2 p hp⟩
def Rep.touch {D:Addr}{us ws:List V} (r:Rep (M.plus [D]) ρ σ H fps) (hD:H D=some (.lst ws)):Rep (M.plus [D]) ρ σ (Ao H D (.lst us)) fps:=by
 have zD:(M.plus [D]).Zo D:=.inr (by simp);have dm:∀ b,H b≠none->(Ao H D (.lst us)) b≠none:=λ b h=>by
  by_cases eb:b=D
  ·rw [eb,Bu];simp
  ·rw [AH eb];exact h
 exact ⟨λ i x d e=>let ⟨v,h1,h2⟩:=r.own i x d e;⟨v,h1,h2.at (.inl zD) ⟨.l ws,hD⟩ (λ z=>r.zo i D z zD) λ _ _ n=>n⟩,r.non,r.dj,r.zo,r.fr,λ a z=>dm a (r.zd a z),r.len,r.msf,λ a z=>dm a (r.h0 a z),r.iov⟩
theorem Tmps.snoc {K:Frag}{Z:Addr->Prop}{y:PV}{e:Nat}{w:V}{fe:List Addr} (hy:Own K H (λ a=>Z a\/a∈fe) y e w fe):∀ {xs:List (PV×Nat)}{ws:List V}{fp:List Addr},Tmps K H Z xs ws fp->(∀ a∈fp,a∉fe)->Tmps K H Z (xs++[(y,e)]) (ws++[w]) (fp++fe)
 | [],ws,fp,h,_=>by
  obtain ⟨rfl,rfl⟩:=h;exact ⟨w,[],fe,[],rfl,by simp,λ _ _ z=>(nomatch z),hy,rfl,rfl⟩
 | (x,d)::xs,ws,fp,h,hd=>by
  obtain ⟨v,s,f1,f2,rfl,rfl,dj,h1,h2⟩:=h;refine ⟨v,s++[w],f1,f2++fe,rfl,by rw [IC],λ a ha hb=>?_,h1,h2.snoc hy λ a ha=>hd a (BX _ ha)⟩;rcases jd4.mp hb with z | z
  ·exact dj a ha z
  ·exact hd a (BW _ ha) z
theorem Tmps.at {K:Frag}{Z:Addr->Prop}{a:Addr}{o:HO} (hZ:Z a) (hl:∃ o:MO,H a=some o.ho):∀ {xs:List (PV×Nat)}{ws:List V}{fp:List Addr},Tmps K H Z xs ws fp->a∉fp->Tmps K (Ao H a o) Z xs ws fp
 | [],_,_,h,_=>h
 | (x,d)::xs,ws,fp,h,hf=>by
  obtain ⟨v,s,f1,f2,e1,rfl,dj,h1,h2⟩:=h;exact ⟨v,s,f1,f2,e1,rfl,dj,h1.at (.inl hZ) hl (λ z=>hf (BW _ z)) λ _ _ n=>n,h2.at hZ hl λ z=>hf (BX _ z)⟩
theorem Tmps.lsts {K:Frag}{Z:Addr->Prop}:∀ {xs:List (PV×Nat)}{ws:List V}{fp:List Addr},Tmps K H Z xs ws fp->∀ a∈fp,∃ o:MO,H a=some o.ho
 | [],_,_,h,a,ha=>by rw [h.2] at ha;cases ha
 | (x,d)::xs,ws,fp,h,a,ha=>by
  obtain ⟨v,s,f1,f2,e1,rfl,dj,h1,h2⟩:=h;rcases jd4.mp ha with z | z
  ·exact Own.lsts x d v f1 h1 a z
  ·exact h2.lsts a z
def Rz.bindN {α β:Type} (r:Rz α) (f:α->Rz β):Rz β:=match r with
 | .ok a=>f a
 | _=>.no
def Cj (k:Nat) (asg:PV->Af->Option Af) (test:Fb) (elt:Fx):List PV->Af->List (PV×Nat)->Rz (List (PV×Nat)×Af)
 | [],ρ,acc=>.ok (acc,ρ)
 | x::xs,ρ,acc=>match asg x (ρ++AK k none) with
  | none=>.no
  | some ρ1=>(test ρ1).bindN λ (b,ρ2)=>if b=true then (elt ρ2).bindN λ (y,e,ρ3)=>(if acc.length < Az then Cj k asg test elt xs (ρ3.take ρ.length) (acc++[(y,e)]) else .no) else Cj k asg test elt xs (ρ2.take ρ.length) acc
def KD.seen {D:Addr}{x:PV}{v:V} (r:Rep M ρ σ H fps) (k:KD M H fps H' fps') (hD:H D=none) (hv:∀ i∈vs,M.Ms i=false) (o:Own M.K H (Zv M vs fps) x 0 v []):Own M.K H' (Zv (M.plus [D]) vs fps') x 0 v []:=by
 refine Own.move k.keep ?_ ?_ x 0 v [] (λ _ z=>nomatch z) o
 ·rintro a ⟨i,hi,ha⟩;exact ⟨.inr ⟨i,λ z=>(by rw [hv i z] at hi;cases hi),ha⟩,r.lsts ha⟩
 ·intro a hd nz z;rcases z with (z | z) | ⟨i,ni,hx⟩
  ·exact nz (.inl z)
  ·rw [jb6.mp z] at hd;exact hd hD
  ·rcases k.sub i a hx with z | z
   ·exact nz (.inr ⟨i,ni,z⟩)
   ·exact hd z
def Lg {g:TG}{is vI vE vo:List Nat}{asg:PV->Af->Option Af}{test:Fb}{elt:Fx}{k:Nat}{J:It}{els:List PV}{Q:VK}{n:Nat}{P:Fm->Prop}
  (hP:∀ D,P (M.comp D n vI)) (hn:n=ρ.length) (hal:∀ i,∀ j∈M.al i,M.Ms j=false) (hvI:∀ i∈vI,M.Ms i=false) (hvE:∀ i∈vE,M.Ms i=false) (his:∀ i∈is,n<=i) (hg:∀ D,Dd (M.comp D n vI) vI is g asg) (hvo:∀ i,i∈vE->i < n->i∈vo) (hvo2:∀ i∈vo,M.Ms i=false)
  (rep:Rep M ρ σ H fps)
  (hgo:∀ {D H' fps' i},H D=none->KD M H fps H' fps'->i < els.length->J.go i H') (hst:∀ {D H' fps' i},H D=none->KD M H fps H' fps'->els.length<=i->J.stop i H')
  (hy:∀ {D H' fps' i x H''},H D=none->KD M H fps H' fps'->i < els.length->J.yld i H' x H''->(∀ a o,H' a=some o->H'' a=some o)/\∃ z,els[i]?=some z/\Own M.K H'' (Zv (M.plus [D]) vI fps') z 0 x [])
  (q:match Cj k asg test elt els ρ [] with
   | .ok (acc,ρ')=>∀ D ws H' fps' fpl,KD M H fps H' fps'->Agr M ρ ρ'->Rep (M.plus [D]) ρ' σ H' fps'->H D=none->H' D=some (.lst ws)->Tmps M.K H' (Zv (M.plus [D]) vo fps') acc ws fpl->(∀ a∈fpl,H a=none/\¬ Zf (M.plus [D]) fps' a)->Q (.ref D) H'
   | _=>False):
  ∀ D,H D=none->∃ W:Nat->Nat->List V->Hp->Prop,(∃ m,W 0 m [] (Ao H D (.lst [])))/\∀ i m ys H1,W i m ys H1->H1 D=some (.lst ys) /\
   ((J.stop i H1/\Q (.ref D) H1)\/(J.go i H1/\∀ x H',J.yld i H1 x H'->g x (σ++AK k none) H' λ σ2 H2=>∃ M',P M'/\tT M' test σ2 H2 λ b H3=>if b=true then ∃ M',P M'/\tE M' elt vE σ2 H3 λ y H4=>H4 D=some (.lst ys)/\ys.length < Az/\∃ m',m' < m/\W (i + 1) m' (ys++[y]) (Ao H4 D (.lst (ys++[y]))) else ∃ m',m' < m/\W (i + 1) m' ys H3)):=by
 intro D hD;subst hn;let W:Nat->Nat->List V->Hp->Prop:=λ i m ys H1=>m=els.length - i/\∃ ρ1 fps1 acc fpl,Rep (M.plus [D]) ρ1 σ H1 fps1/\KD M H fps H1 fps1/\Agr M ρ ρ1/\Tmps M.K H1 (Zv (M.plus [D]) vo fps1) acc ys fpl/\(∀ a∈fpl,H a=none/\¬ Zf (M.plus [D]) fps1 a)/\H1 D=some (.lst ys)/\Cj k asg test elt (els.drop i) ρ1 acc=Cj k asg test elt els ρ [];have k0:KD M H fps (Ao H D (.lst [])) fps:=KD.grow λ a o h=>by rw [AH (λ e=>by rw [e,hD] at h;cases h)];exact h
 have r0:Rep (M.plus [D]) ρ σ (Ao H D (.lst [])) fps:=by
  refine rep.wide hal k0 Agr.refl (rep.grow λ a o h=>by rw [AH (λ e=>by rw [e,hD] at h;cases h)];exact h) λ a ha=>?_;rw [jb6.mp ha];exact ⟨hD,by rw [Bu];simp,rep.nz hD⟩
 refine ⟨W,⟨els.length,by simp,ρ,fps,[],[],r0,k0,Agr.refl,⟨rfl,rfl⟩,λ _ z=>(nomatch z),Bu,by simp⟩,?_⟩;rintro i m ys H1 ⟨rfl,ρ1,fps1,acc,fpl,r1,k1,g1,tm,hf,h1D,ec⟩;refine ⟨h1D,?_⟩;have hlen:ρ1.length=ρ.length:=g1.2;by_cases hi:i < els.length
 ·right
  refine ⟨hgo hD k1 hi,λ x H' hyl=>?_⟩;obtain ⟨kx,z,ez,oz⟩:=hy hD k1 hi hyl;have tm:=KD.stays (M:=M.plus [D]) (KD.grow kx) r1 hvo2 tm λ a ha=>(hf a ha).2;have r1:=r1.grow kx;have k1:=k1.trans (KD.grow (M:=M) (fps:=fps1) kx);have h1D:=kx D _ h1D;have ed:els.drop i=z::els.drop (i + 1):=by
   obtain ⟨h1,h2⟩:=jb0.mp ez;rw [<- h2];exact T5 h1
  rw [ed] at ec;have good:∃ a r,Cj k asg test elt els ρ []=.ok (a,r):=by
   cases e:Cj k asg test elt els ρ [] with
   | ok p=>exact ⟨p.1,p.2,rfl⟩
   | exc c=>rw [e] at q;exact q.elim
   | no=>rw [e] at q;exact q.elim
  obtain ⟨accF,ρF,eF⟩:=good;rw [eF] at ec;unfold Cj at ec;cases ea:asg z (ρ1++AK k none) with
  | none=>rw [ea] at ec;cases ec
  | some ρ2=>
   rw [ea] at ec;dsimp only at ec;have rx:Rep (M.comp D ρ.length vI) (ρ1++AK k none) (σ++AK k none) H' fps1:=by rw [<- hlen];exact r1.ext
   refine hg D z x _ _ H' fps1 ρ2 _ rx oz ea λ σ2 fps2 s2 a2 l2 r2=>⟨_,hP D,ρ2,fps2,r2,?_⟩
   have hl2:ρ2.length=ρ.length + k:=by rw [l2,BM,Es,hlen]
   have same2:∀ j,j < ρ.length->ρ2[j]?=ρ1[j]?/\fps2 j=fps1 j/\σ2[j]?=σ[j]?:=λ j hj=>by
    obtain ⟨z1,z2,z3⟩:=a2 j λ z=>absurd (his j z) (by omega);rw [C6 (by omega)] at z1;rw [C6 (by rw [<- rep.len];omega)] at z3;exact ⟨z1,z2,z3⟩
   have kd2:KD (M.comp D ρ.length vI) H' fps1 H' fps2->True:=λ _=>trivial;cases et:test ρ2 with
   | exc c=>rw [et] at ec;cases ec
   | no=>rw [et] at ec;cases ec
   | ok p=>
    obtain ⟨b,ρ3⟩:=p;rw [et] at ec;intro H3 fps3 k3 g3 r3;dsimp only [Rz.bindN] at ec;have far:∀ {ρ4:Af}{H4:Hp}{fps4:AW},KD (M.comp D ρ.length vI) H' fps2 H4 fps4->Agr (M.comp D ρ.length vI) ρ2 ρ4->Rep (M.comp D ρ.length vI) ρ4 σ2 H4 fps4 ->
      KD M H fps H4 (DZ ρ.length fps4)/\KD M H' fps1 H4 (DZ ρ.length fps4)/\Agr M ρ (ρ4.take ρ.length)/\Rep (M.plus [D]) (ρ4.take ρ.length) σ H4 (DZ ρ.length fps4)/\H4 D=some (.lst ys):=λ {ρ4 H4 fps4} k4 g4 r4=>by
     have kk:KD M H' fps1 H4 (DZ ρ.length fps4):=by
      refine ⟨λ a o ha hn=>k4.keep a o ha λ ⟨j,hj,hx⟩=>hn ⟨j,hj,s2 j a hx⟩,k4.dom,λ j a ha=>?_,λ j hj=>?_⟩
      ·rcases k4.sub j a (Ha ha).1 with z | z
       ·exact .inl (s2 j a z)
       ·exact .inr z
      ·unfold DZ;by_cases hjl:j < ρ.length
       ·rw [if_pos hjl,k4.same j hj];exact (same2 j hjl).2.1
       ·rw [if_neg hjl];exact (r1.far (by omega)).symm
     refine ⟨k1.trans kk,kk,?_,r4.take (σ':=σ) (λ j hj=>(same2 j hj).2.2) rep.len.symm (by rw [g4.2,hl2];omega) ⟨λ hio=>?_,λ p hp=>by rw [rep.len];exact (jb0.mp (rep.iov.2 p hp)).1⟩,?_⟩
     ·refine ⟨λ j hj=>?_,by rw [Gg,g4.2,hl2];omega⟩;by_cases hjl:j < ρ.length
      ·rw [K9 hjl,g4.1 j hj,(same2 j hjl).1];exact g1.1 j hj
      ·rw [jj8.mpr (by rw [Gg];omega),jj8.mpr (by omega)]
     ·cases e:M.io with
      | none=>exact absurd e hio
      | some v=>
       have:=(jb0.mp (rep.iov.1 v e).1).1
       rw [rep.len];exact this
     ·exact k4.keep D _ h1D λ ⟨j,_,hx⟩=>r2.zo j D hx (.inr (by simp))
    have notZ:∀ {H4:Hp}{fps4:AW},KD M H' fps1 H4 fps4->∀ {a},a∈fpl->¬ Zf (M.plus [D]) fps4 a:=λ {H4 fps4} k4 a ha z=>by
     rcases z with z | ⟨j,z⟩
     ·exact (hf a ha).2 (.inl z)
     ·rcases k4.sub j a z with z | z
      ·exact (hf a ha).2 (.inr ⟨j,z⟩)
      ·obtain ⟨xs,e⟩:=tm.lsts a ha;rw [z] at e;cases e
    cases b with
    | false=>
     rw [if_neg Cs] at ec ⊢;obtain ⟨f1,f2,f3,f4,f5⟩:=far k3 g3 r3;refine ⟨els.length - (i + 1),by omega,rfl,ρ3.take ρ.length,DZ ρ.length fps3,acc,fpl,f4,f1,f3,?_,λ a ha=>⟨(hf a ha).1,λ z=>?_⟩,f5,by rw [eF,<- hlen];exact ec⟩
     ·exact KD.stays (M:=M.plus [D]) (σ:=σ) (ρ:=ρ1) ⟨f2.keep,f2.dom,f2.sub,f2.same⟩ r1 hvo2 tm λ a ha=>(hf a ha).2
     ·exact notZ f2 ha z
    | true=>
     rw [if_pos rfl] at ec ⊢;refine ⟨_,hP D,ρ3,fps3,r3,?_⟩;cases ee:elt ρ3 with
     | exc c=>rw [ee] at ec;cases ec
     | no=>rw [ee] at ec;cases ec
     | ok p=>
      obtain ⟨y,e,ρ4⟩:=p;rw [ee] at ec;intro w H4 fps4 fe k4 g4 r4 o4 t4;dsimp only at ec;by_cases hz:acc.length < Az
      ·rw [if_pos hz] at ec;obtain ⟨f1,f2,f3,f4,f5⟩:=far (k3.trans k4) (g3.trans g4) r4;have tm4:Tmps M.K H4 (Zv (M.plus [D]) vo (DZ ρ.length fps4)) acc ys fpl:=KD.stays (M:=M.plus [D]) (σ:=σ) (ρ:=ρ1) ⟨f2.keep,f2.dom,f2.sub,f2.same⟩ r1 hvo2 tm λ a ha=>(hf a ha).2;have zD:Zv (M.plus [D]) vo (DZ ρ.length fps4) D:=.inl (.inr (by simp));have hDe:D∉fe:=λ z=>t4.ndj D z (.inl (.inr (by simp)));have hDl:D∉fpl:=λ z=>(hf D z).2 (.inl (.inr (by simp)));have oy:Own M.K H4 (λ a=>Zv (M.plus [D]) vo (DZ ρ.length fps4) a\/a∈fe) y e w fe:=o4.weak λ a h=>h.elim (λ h=>.inl (h.elim .inl λ ⟨j,nj,hx⟩=>.inr ⟨j,λ z=>nj (hvo j z (Ha hx).2),(Ha hx).1⟩)) .inr;have back3:∀ a,H3 a=none->H' a=none:=λ a e=>by
        cases e':H' a with
        | none=>rfl
        | some o=>exact absurd e (k3.dom a (by rw [e'];simp))
       have back1:∀ a,H' a=none->H a=none:=λ a e=>by
        cases e':H a with
        | none=>rfl
        | some o=>exact absurd e (k1.dom a (by rw [e'];simp))
       have kt:KD M H fps (Ao H4 D (.lst (ys++[w]))) (DZ ρ.length fps4):=⟨λ a o ha hn=>by rw [AH (λ e=>by rw [e,hD] at ha;cases ha)];exact f1.keep a o ha hn,λ a ha=>by
        by_cases eb:a=D
        ·rw [eb,Bu];simp
        ·rw [AH eb];exact f1.dom a ha,f1.sub,f1.same⟩
       refine ⟨f5,by rw [tm.length];exact hz,els.length - (i + 1),by omega,rfl,ρ4.take ρ.length,DZ ρ.length fps4,acc++[(y,e)],fpl++fe,f4.touch f5,kt,f3,?_,λ a ha=>?_,Bu,by rw [eF,<- hlen];exact ec⟩
       ·exact (tm4.at zD ⟨.l ys,f5⟩ hDl).snoc (oy.at (.inl zD) ⟨.l ys,f5⟩ hDe λ _ _ n=>n) λ a ha hb=>by
         obtain ⟨xs,e⟩:=tm.lsts a ha;rw [back3 a (t4.new a hb)] at e;cases e
       ·rcases jd4.mp ha with z | z
        ·exact ⟨(hf a z).1,notZ f2 z⟩
        ·refine ⟨back1 a (back3 a (t4.new a z)),λ hz=>t4.ndj a z ?_⟩;rcases hz with hz | ⟨j,hz⟩
         ·exact .inl hz
         ·exact .inr ⟨j,(Ha hz).1⟩
      ·rw [if_neg hz] at ec;cases ec
 ·left
  have ed:els.drop i=[]:=Mg (by omega);rw [ed] at ec;rw [<- ec] at q;unfold Cj at q;exact ⟨hst hD k1 (by omega),q D ys H1 fps1 fpl k1 g1 r1 hD h1D tm hf⟩
end
section
variable {M:Fm}{ρ ρ':Af}{σ σ':St}{H H' H'':Hp}{fps fps' fps'':AW}{vs vs':List Nat}
def Dk:List (PV×Nat)->Bool
 | []=>true
 | p::r=>(p.2 == om) && Dk r
theorem Le:∀ {xs:List (PV×Nat)},Dk xs=true->∀ p∈xs,p.2=om
 | [],_,_,h=>nomatch h
 | p::r,h,q,hq=>by
  unfold Dk at h;rw [Bc] at h;rcases jb4.mp hq with e | e
  ·rw [e];exact eq_of_beq h.1
  ·exact Le h.2 q e
def Dm (acc:List (PV×Nat)) (ρ:Af):Rz (PV×Nat×Af):=.ok (.lst (acc.map (·.1)),if Dk acc then om else 1,ρ)
def Cz (f:Fx) (k:Nat) (asg:PV->Af->Option Af) (test:Fb) (elt:Fx):Fx:=λ ρ=>match f ρ with
 | .ok (.lst xs,_,ρ1)=>(Cj k asg test elt xs ρ1 []).bindN λ (acc,ρ2)=>Dm acc ρ2
 | .ok (.tup xs,_,ρ1)=>(Cj k asg test elt xs ρ1 []).bindN λ (acc,ρ2)=>Dm acc ρ2
 | .ok (.str z,_,ρ1)=>if O4 z=true then (Cj k asg test elt (FO z) ρ1 []).bindN λ (acc,ρ2)=>Dm acc ρ2 else .no
 | .ok _=>.no
 | .exc c=>.exc c
 | .no=>.no
def DC (en:List (PV×Nat)->Option (Int×Int)) (fa:Fa) (k:Nat) (asg:PV->Af->Option Af) (test:Fb) (elt:Fx):Fx:=λ ρ=>match fa ρ with
 | .ok (xs,ρ1)=>(match en xs with
  | some (i,j)=>(Cj k asg test elt (FJ i (j - i).toNat) ρ1 []).bindN λ (acc,ρ2)=>Dm acc ρ2
  | none=>.no)
 | .exc c=>.exc c
 | .no=>.no
theorem Qn {D:Addr}{acc:List (PV×Nat)}{ws:List V}{fpl:List Addr}{vo:List Nat}{Q:VK}{H0:Hp}{fps0:AW}{ρ0:Af}
  (rep0:Rep M ρ σ H fps) (k0:KD M H0 fps0 H fps) (g0:Agr M ρ0 ρ) (q:∀ v H' fps' fp,KD M H0 fps0 H' fps'->Agr M ρ0 ρ'->Rep M ρ' σ H' fps'->Own M.K H' (Zt M vo fps' fp) (.lst (acc.map (·.1))) (if Dk acc then om else 1) v fp->Temp M vo H0 H' fps' fp->Q v H')
  (k:KD M H fps H' fps') (g:Agr M ρ ρ') (r:Rep (M.plus [D]) ρ' σ H' fps') (hD:H D=none) (hD':H' D=some (.lst ws)) (tm:Tmps M.K H' (Zv (M.plus [D]) vo fps') acc ws fpl) (hf:∀ a∈fpl,H a=none/\¬ Zf (M.plus [D]) fps' a):Q (.ref D) H':=by
 have back:∀ a,H a=none->H0 a=none:=λ a e=>by
  cases e':H0 a with
  | none=>rfl
  | some o=>exact absurd e (k0.dom a (by rw [e'];simp))
 have nD:¬ Zf M fps' D:=λ z=>by
  rcases z with z | ⟨j,z⟩
  ·exact rep0.zd D z hD
  ·exact r.zo j D z (.inr (by simp))
 have hDl:D∉fpl:=λ z=>(hf D z).2 (.inl (.inr (by simp)));have zt:∀ a,Zt M vo fps' [D] a->Zv (M.plus [D]) vo fps' a:=λ a h=>h.elim (λ h=>h.elim (λ h=>.inl (.inl h)) .inr) λ h=>.inl (.inr h);cases ho:Dk acc with
 | true=>
  rw [ho] at q;refine q (.ref D) H' fps' (D::fpl) (k0.trans k) (g0.trans g) r.minus ?_ ⟨λ a ha=>?_,λ a ha=>?_⟩
  ·rw [Own];exact ⟨D,ws,rfl,.inr ⟨(by decide),fpl,hD',rfl,hDl,OwnL.full _ ws fpl (tm.all (Le ho))⟩⟩
  ·rcases jb4.mp ha with z | z
   ·rw [z];exact back D hD
   ·exact back a (hf a z).1
  ·rcases jb4.mp ha with z | z
   ·rw [z];exact nD
   ·exact λ y=>(hf a z).2 (y.elim (λ y=>.inl (.inl y)) .inr)
 | false=>
  rw [ho] at q;refine q (.ref D) H' fps' [D] (k0.trans k) (g0.trans g) r.minus ?_ ⟨λ a ha=>?_,λ a ha=>?_⟩
  ·show Own M.K H' (Zt M vo fps' [D]) (.lst (acc.map (·.1))) 1 (.ref D) [D];rw [Own];refine ⟨D,ws,rfl,.inr ⟨(by decide),[],hD',rfl,(λ z=>nomatch z),?_⟩⟩;rw [Lk];exact (tm.cold λ a ha z=>(hf a ha).2 z.zf).weak zt
  ·rw [jb6.mp ha];exact back D hD
  ·rw [jb6.mp ha];exact nD
theorem wu {g:TG}{is vI vE vo:List Nat}{asg:PV->Af->Option Af}{test:Fb}{elt f:Fx}{k n:Nat}{Q:VK}{P:Fm->Prop}
  (hn:σ.length=n) (hP:∀ D,P (M.comp D n vI)) (hal:∀ i,∀ j∈M.al i,M.Ms j=false) (hvI:∀ i∈vI,M.Ms i=false) (hvE:∀ i∈vE,M.Ms i=false) (his:∀ i∈is,n<=i) (hg:∀ D,Dd (M.comp D n vI) vI is g asg)
  (hvo:∀ i,i∈vE->i < n->i∈vo) (hvo2:∀ i∈vo,M.Ms i=false) (hq:tE M (Cz f k asg test elt) vo σ H Q):
  Jq k (EY M.K (tE M f vI)) g (λ σ H Q=>∃ M',P M'/\tT M' test σ H Q) (λ σ H Q=>∃ M',P M'/\tE M' elt vE σ H Q) σ H Q:=by
 obtain ⟨ρ,fps,rep,q⟩:=hq;refine ⟨ρ,fps,rep,?_⟩;unfold Cz at q;cases ef:f ρ with
 | no=>rw [ef] at q;exact q
 | exc c=>rw [ef] at q;exact q
 | ok p=>
  obtain ⟨x,d,ρ1⟩:=p;rw [ef] at q;intro v H1 fps1 f1 k1 g1 rep1 o1 t1;have o0:Own M.K H1 (Zv M vI fps1) x 0 v []:=Own.freeze (λ _ z=>.inl z) x d v f1 (λ a ha z=>t1.ndj a ha z.zf) o1;have hl:n=ρ1.length:=by rw [rep1.len];exact hn.symm
  have fin:∀ (els:List PV),(match (Cj k asg test elt els ρ1 []).bindN λ (acc,ρ2)=>Dm acc ρ2 with
    | .ok (x,d,ρ')=>∀ v H' fps' fp,KD M H fps H' fps'->Agr M ρ ρ'->Rep M ρ' σ H' fps'->Own M.K H' (Zt M vo fps' fp) x d v fp->Temp M vo H H' fps' fp->Q v H'
    | .exc c=>∀ H' fps',KD M H fps H' fps'->M.W σ c H'
    | .no=>False)->(match Cj k asg test elt els ρ1 [] with
    | .ok (acc,ρ')=>∀ D ws H' fps' fpl,KD M H1 fps1 H' fps'->Agr M ρ1 ρ'->Rep (M.plus [D]) ρ' σ H' fps'->H1 D=none->H' D=some (.lst ws)->Tmps M.K H' (Zv (M.plus [D]) vo fps') acc ws fpl->(∀ a∈fpl,H1 a=none/\¬ Zf (M.plus [D]) fps' a)->Q (.ref D) H'
    | _=>False):=λ els q=>by
   cases ec:Cj k asg test elt els ρ1 [] with
   | no=>rw [ec] at q;exact q.elim
   | exc c=>rw [ec] at q;exact q.elim
   | ok p=>
    obtain ⟨acc,ρ2⟩:=p;rw [ec] at q;exact λ D ws H' fps' fpl k g r hD hD' tm hf=>Qn rep1 k1 g1 q k g r hD hD' tm hf
  cases x with
  | lst xs=>
   have one:∀ {Z:Addr->Prop}{H:Hp},Own M.K H Z (.lst xs) 0 v []->∃ a ws,v=.ref a/\Bo M.K H a ws/\OwnL M.K H Z xs 0 ws []:=λ o=>by
    rw [Own] at o;obtain ⟨b,ws,e,⟨_,hr,_,ol⟩ | ⟨h,_⟩⟩:=o
    ·exact ⟨b,ws,e,.inl (.inl hr.1),ol⟩
    ·exact absurd rfl h
   obtain ⟨a,ws,rfl,sq,ol⟩:=one o0;refine .inl ⟨a,rfl,.inl ⟨⟨ws,sq⟩,?_⟩⟩;refine Lg (els:=xs) hP hl hal hvI hvE his hg hvo hvo2 rep1 (λ {D H' fps' i} hD k' h=>?_) (λ {D H' fps' i} hD k' h=>?_) (λ {D H' fps' i x H''} hD k' h y=>?_) (fin xs q)
   ·obtain ⟨a',ws,e,s,ol⟩:=one (KD.seen rep1 k' hD hvI o0);cases e;exact ⟨ws,ws[i]'(by rw [ol.length];exact h),s,by simp⟩
   ·obtain ⟨a',ws,e,s,ol⟩:=one (KD.seen rep1 k' hD hvI o0);cases e;exact ⟨ws,s,by rw [ol.length];exact h⟩
   ·obtain ⟨a',ws,e,s,ol⟩:=one (KD.seen rep1 k' hD hvI o0);cases e;obtain ⟨e1,e2⟩:=y;subst e1;exact ⟨λ _ _ h=>h,ol.get (e2 ws s)⟩
  | tup xs=>
   have one:∀ {Z:Addr->Prop}{H:Hp},Own M.K H Z (.tup xs) 0 v []->∃ a ws,v=.ref a/\SqT M.K H a ws/\OwnL M.K H Z xs 0 ws []:=λ o=>by
    rw [Own] at o;obtain ⟨a,ws,e,hr,ol⟩:=o;exact ⟨a,ws,e,.inl (.inl hr),ol⟩
   obtain ⟨a,ws,rfl,sq,ol⟩:=one o0;refine .inl ⟨a,rfl,.inr ⟨⟨ws,sq⟩,?_⟩⟩;refine Lg (els:=xs) hP hl hal hvI hvE his hg hvo hvo2 rep1 (λ {D H' fps' i} hD k' h=>?_) (λ {D H' fps' i} hD k' h=>?_) (λ {D H' fps' i x H''} hD k' h y=>?_) (fin xs q)
   ·obtain ⟨a',ws,e,s,ol⟩:=one (KD.seen rep1 k' hD hvI o0);cases e;exact ⟨ws,ws[i]'(by rw [ol.length];exact h),s,by simp⟩
   ·obtain ⟨a',ws,e,s,ol⟩:=one (KD.seen rep1 k' hD hvI o0);cases e;exact ⟨ws,s,by rw [ol.length];exact h⟩
   ·obtain ⟨a',ws,e,s,ol⟩:=one (KD.seen rep1 k' hD hvI o0);cases e;obtain ⟨e1,e2⟩:=y;subst e1;exact ⟨λ _ _ h=>h,ol.get (e2 ws s)⟩
  | str z=>
   have o0':=o0;rw [Own] at o0';obtain ⟨rfl,_⟩:=o0';dsimp only at q;by_cases ha:O4 z=true
   ·rw [if_pos ha] at q;refine .inr ⟨z,rfl,ha,?_⟩;have hl':(FO z).length=z.cps.size:=by unfold FO;rw [AG,ID]
    refine Lg (els:=FO z) hP hl hal hvI hvE his hg hvo hvo2 rep1 (λ {D H' fps' i} hD k' h=>?_) (λ {D H' fps' i} hD k' h=>?_) (λ {D H' fps' i x H''} hD k' h y=>?_) (fin (FO z) q)
    ·show i < z.cps.size;omega
    ·show z.cps.size<=i;omega
    ·obtain ⟨rfl,c,hc,rfl⟩:=y;refine ⟨λ _ _ h=>h,.str ⟨#[c]⟩,?_,by rw [Own];exact ⟨rfl,rfl⟩⟩;unfold FO;rw [CI,Pb,hc];rfl
   ·rw [if_neg ha] at q;exact q.elim
  | _=>exact q.elim
def Uu {g:TG}{is vI vE vo:List Nat}{asg:PV->Af->Option Af}{test:Fb}{elt:Fx}{k n:Nat}{Q:VK}{P:Fm->Prop}{lo:Int}{m:Nat}{H0:Hp}{fps0:AW}{ρ0:Af}
  (hn:σ.length=n) (hP:∀ D,P (M.comp D n vI)) (hal:∀ i,∀ j∈M.al i,M.Ms j=false) (hvI:∀ i∈vI,M.Ms i=false) (hvE:∀ i∈vE,M.Ms i=false) (his:∀ i∈is,n<=i) (hg:∀ D,Dd (M.comp D n vI) vI is g asg)
  (hvo:∀ i,i∈vE->i < n->i∈vo) (hvo2:∀ i∈vo,M.Ms i=false) (k0:KD M H0 fps0 H fps) (g0:Agr M ρ0 ρ) (rep:Rep M ρ σ H fps)
  (q:match (Cj k asg test elt (FJ lo m) ρ []).bindN λ (acc,ρ2)=>Dm acc ρ2 with
    | .ok (x,d,ρ')=>∀ v H' fps' fp,KD M H0 fps0 H' fps'->Agr M ρ0 ρ'->Rep M ρ' σ H' fps'->Own M.K H' (Zt M vo fps' fp) x d v fp->Temp M vo H0 H' fps' fp->Q v H'
    | .exc c=>∀ H' fps',KD M H0 fps0 H' fps'->M.W σ c H'
    | .no=>False):
  ∀ D,H D=none->∃ W:Nat->Nat->List V->Hp->Prop,(∃ m,W 0 m [] (Ao H D (.lst [])))/\∀ i j ys H1,W i j ys H1->H1 D=some (.lst ys) /\
   (((GO lo m).stop i H1/\Q (.ref D) H1)\/((GO lo m).go i H1/\∀ x H',(GO lo m).yld i H1 x H'->g x (σ++AK k none) H' λ σ2 H2=>∃ M',P M'/\tT M' test σ2 H2 λ b H3=>if b=true then ∃ M',P M'/\tE M' elt vE σ2 H3 λ y H4=>H4 D=some (.lst ys)/\ys.length < Az/\∃ m',m' < j/\W (i + 1) m' (ys++[y]) (Ao H4 D (.lst (ys++[y]))) else ∃ m',m' < j/\W (i + 1) m' ys H3)):=by
 have hl:n=ρ.length:=by rw [rep.len];exact hn.symm
 refine Lg (els:=FJ lo m) hP hl hal hvI hvE his hg hvo hvo2 rep (λ {D H' fps' i} hD k' h=>?_) (λ {D H' fps' i} hD k' h=>?_) (λ {D H' fps' i x H''} hD k' h y=>?_) ?_
 ·rw [JD] at h;exact h
 ·rw [JD] at h;exact h
 ·rw [JD] at h;obtain ⟨e1,e2⟩:=y;subst e1;exact ⟨λ _ _ h=>h,.int (lo + i),by simp [FJ,h],by rw [e2,Own];exact ⟨rfl,rfl⟩⟩
 ·cases ec:Cj k asg test elt (FJ lo m) ρ [] with
  | no=>rw [ec] at q;exact q.elim
  | exc c=>rw [ec] at q;exact q.elim
  | ok p=>
   obtain ⟨acc,ρ2⟩:=p;rw [ec] at q;exact λ D ws H' fps' fpl k g r hD hD' tm hf=>Qn rep k0 g0 q k g r hD hD' tm hf
theorem wq {g:TG}{is vI vE vo:List Nat}{asg:PV->Af->Option Af}{test:Fb}{elt:Fx}{fa:Fa}{k n:Nat}{Q:VK}{P:Fm->Prop}
  (hn:σ.length=n) (hP:∀ D,P (M.comp D n vI)) (hal:∀ i,∀ j∈M.al i,M.Ms j=false) (hvI:∀ i∈vI,M.Ms i=false) (hvE:∀ i∈vE,M.Ms i=false) (his:∀ i∈is,n<=i) (hg:∀ D,Dd (M.comp D n vI) vI is g asg)
  (hvo:∀ i,i∈vE->i < n->i∈vo) (hvo2:∀ i∈vo,M.Ms i=false) (hq:tE M (DC BI fa k asg test elt) vo σ H Q):
  Jq k (Ou (tL M fa vs)) g (λ σ H Q=>∃ M',P M'/\tT M' test σ H Q) (λ σ H Q=>∃ M',P M'/\tE M' elt vE σ H Q) σ H Q:=by
 obtain ⟨ρ,fps,rep,q⟩:=hq;refine ⟨ρ,fps,rep,?_⟩;unfold DC at q;cases ef:fa ρ with
 | no=>rw [ef] at q;exact q
 | exc c=>rw [ef] at q;exact q
 | ok p=>
  obtain ⟨xs,ρ1⟩:=p;rw [ef] at q;intro ws H1 fps1 f1 k1 g1 rep1 o1 t1;dsimp only at q;cases ee:BI xs with
  | none=>rw [ee] at q;exact q.elim
  | some ij=>
   obtain ⟨i,j⟩:=ij;rw [ee] at q;unfold BI at ee;split at ee
   ·rename_i j' d;split at ee
    ·rename_i hb;cases ee;obtain ⟨v,r,f1,f2,rfl,_,_,h1,h2⟩:=o1;obtain ⟨rfl,_⟩:=h2;rw [Own] at h1;obtain ⟨rfl,_⟩:=h1;refine ⟨j,rfl,hb.1,hb.2,?_⟩;have e:(j - 0).toNat=j.toNat:=by omega
     dsimp only at q;rw [e] at q;exact Uu hn hP hal hvI hvE his hg hvo hvo2 k1 g1 rep1 q
    ·cases ee
   ·cases ee
theorem wt {g:TG}{is vI vE vo:List Nat}{asg:PV->Af->Option Af}{test:Fb}{elt:Fx}{fa:Fa}{k n:Nat}{Q:VK}{P:Fm->Prop}
  (hn:σ.length=n) (hP:∀ D,P (M.comp D n vI)) (hal:∀ i,∀ j∈M.al i,M.Ms j=false) (hvI:∀ i∈vI,M.Ms i=false) (hvE:∀ i∈vE,M.Ms i=false) (his:∀ i∈is,n<=i) (hg:∀ D,Dd (M.comp D n vI) vI is g asg)
  (hvo:∀ i,i∈vE->i < n->i∈vo) (hvo2:∀ i∈vo,M.Ms i=false) (hq:tE M (DC FL fa k asg test elt) vo σ H Q):
  Jq k (Ov (tL M fa vs)) g (λ σ H Q=>∃ M',P M'/\tT M' test σ H Q) (λ σ H Q=>∃ M',P M'/\tE M' elt vE σ H Q) σ H Q:=by
 obtain ⟨ρ,fps,rep,q⟩:=hq;refine ⟨ρ,fps,rep,?_⟩;unfold DC at q;cases ef:fa ρ with
 | no=>rw [ef] at q;exact q
 | exc c=>rw [ef] at q;exact q
 | ok p=>
  obtain ⟨xs,ρ1⟩:=p;rw [ef] at q;intro ws H1 fps1 f1 k1 g1 rep1 o1 t1;dsimp only at q;cases ee:FL xs with
  | none=>rw [ee] at q;exact q.elim
  | some ij=>
   obtain ⟨i,j⟩:=ij;rw [ee] at q;unfold FL at ee;split at ee
   ·rename_i i' d j' d';split at ee
    ·rename_i hb;cases ee;obtain ⟨v,r,f1,f2,rfl,_,_,h1,h2⟩:=o1;obtain ⟨v2,r2,f3,f4,rfl,_,_,h3,h4⟩:=h2;obtain ⟨rfl,_⟩:=h4;rw [Own] at h1 h3;obtain ⟨rfl,_⟩:=h1;obtain ⟨rfl,_⟩:=h3;exact ⟨i,j,rfl,hb,Uu hn hP hal hvI hvE his hg hvo hvo2 k1 g1 rep1 q⟩
    ·cases ee
   ·cases ee
end
def gO:List Ad:=[.type "ValueError",.type "Exception",.type "BaseException",.type "object"]
def uz (c d:Nat):Bool:=c == d || d == 0
structure XC (h:Heap) (K:Frag) (c:Nat) (C:Addr):Prop where
 obj:∃ bm N nm q bs hdct sn sub ab col dd k0 k1 k2 k3 k5 mN,h.get? C=some (excClassObj nm q C N bs bm hdct sn sub ab col dd k0 k1 k2 k3 k5 "ValueError.__new__")/\h.Ns N mN/\mN "__init__" = none/\OwnTail h gO bm/\∀ d D,R9 K d=some D->(Value.ref C::bm).contains (.ref D)=uz c d
def Gs (W:Nat->Hp->Prop):XK:=λ v _ H'=>match v with
 | .int c _=>W c.toNat H'
 | _=>False
def AQ (_:A8) (_:A7) (_:Frag):FF:=λ _ _ _ _ _ _=>False
section
variable {X:Cx}{pins:List (Addr×Obj)}{σ:St}{H H1:Hp}{s s2:Ai}{h1 B:Heap}{a C:Addr}{a0:Ad}{c:Nat}{E:XK}{P:A8}{w:A7}{K:Frag}
end
def SK (CX:FF) (X:Cx) (W:St->Nat->Hp->Prop):Prop:=∀ (pins:List (Addr×Obj)) (σ:St) (H:Hp) (s:Ai) (e:Ad) (s':Ai),L2.Inv X pins σ H s->CX X.stack H s (Gs (W σ)) e s'->X.xe e s'
def W6 (X:Cx) (W:St->Nat->Hp->Prop):Prop:=∀ (pins:List (Addr×Obj)) (σ:St) (H:Hp) (s:Ai) (c:Nat) (C a:Addr) (h':Heap) (args:List Ad),L2.Inv X pins σ H s->R9 X.K c=some C->Heap.MadeExcOf s.heap h' a (.ref C) args->W σ c H->X.xe (.ref a) { s with heap:=h' }
abbrev W0:St->Nat->Hp->Prop:=λ _ _ _=>False
def Wg {P:A8}{w:A7}{K:Frag}{X:Cx}:SK (AQ P w K) X W0:=λ _ _ _ _ _ _ _ h=>h.elim
def jW {X:Cx}:W6 X W0:=λ _ _ _ _ _ _ _ _ _ _ _ _ h=>h.elim
section
variable {P:A8}{w:A7}{K:Frag}{mg:Str->Option Ad}{base:Heap}{N:List Str}{qual:Str}{scope:Bz}{f:Addr}{cd:Ad}{A:BK}{outer:List Env}{s:Ai}{H:Hp}{E:XK}
def jG:Lo (Ax P w) (CJ (AQ P w K) P w K mg base N qual scope f cd A outer s H E).A (CJ (AQ P w K) P w K mg base N qual scope f cd A outer s H E).env (CJ (AQ P w K) P w K mg base N qual scope f cd A outer s H E).xe:=PassesOwn.leaving
end
section
variable {X:Cx}{CX:FF}{k:Nat}{f:Addr}{fd:CU}{ps:List Str}{sp:Sp}{x:Str}{p pos:Pos}{e:Expr}{es:List Expr}{t:TA}{W:St->Nat->Hp->Prop}
def W5 (sp:Sp) (W:St->Nat->Hp->Prop) (t:TA):TE:=λ σ H Q=>t σ H λ vs H1=>sp vs H1 Q (Gs (W σ))
theorem vS (F:FnOk X.prog X.w X.K X.mg X.base CX k f fd ps sp) (hr:Room k X.A) (hg:Gl X x) (hm:X.mg x=some (.ref f)) (hk:Je X.K (.ref f)=true) (hb:qa1 X.K fd ps []) (hx:SK CX X W) (ha:PA X (e::es) t) (hdb:(x == ("__debug__" : Str))=false)
  (he:AE (e::es) X.env=(false,eval e X.env)::AE es X.env) (hpl:(CM pos (AE es X.env)).any (·.1)=false):PE X (.Call (.Name x p) (e::es) [] pos) (W5 sp W t):=by
 intro pins s σ H Q I h;refine Nz (jS I hg hm ?_ hdb);refine PySem.W.callWith_K (h₀:=X.base) I.ok.mod.kin hk (A4 (ha pos pins s σ H _ I h) λ us s1 ⟨vs,H1,I1,r,q⟩=>⟨I1.kIn,?_⟩) he hpl;have q':sp vs H1 Q (Gs (W σ)):=q;have hl:(us++[]).length=ps.length:=by rw [GJ,<- r.length];exact F.len _ _ _ _ q'
 have hbd:=hb s1 us I1.kIn hl;rw [GJ] at hbd;refine wpAny_call (codeAny_mono (F.run X.A X.stack s1 H1 ⟨us,[]⟩ us vs Q (Gs (W σ)) hr I1.env0 hbd r q') λ r s' hq=>?_);cases r with
 | error e=>exact hx pins σ H1 s1 e s' I1 hq
 | ok fl=>
  cases fl with
  | ret u=>exact I1.after hq
  | next=>exact Hq hq
  | brk=>exact Hq hq
  | cont=>exact Hq hq
end
def Dl (cells:List (Str×Addr)):List (Str×Dq)->List (Str×Addr)->List (Str×Addr)
 | [],cs=>cs
 | (n,k)::r,cs=>if k == .free then Dl cells r ((n,(cells.lookup n).getD 0)::cs) else Dl cells r cs
def U8 {scope:Bz}{env:Env} (h:∀ x∈scope.names,x.2=.free->∃ c,env.cells.lookup x.1=some c):closureFor scope env=pure (Dl env.cells scope.names []):=by
 unfold closureFor;have all:∀ (l:List (Str×Dq)) (cs:List (Str×Addr)),(∀ x∈l,x.2=.free->∃ c,env.cells.lookup x.1=some c) ->
   (forIn l cs λ (x:Str×Dq) (cs:List (Str×Addr))=>if (x.2 == NameKind.free)=true then (do let a<-cellOf env x.1;pure (ForInStep.yield ((x.1,a)::cs))) else pure (ForInStep.yield cs):Sem (List (Str×Addr)))=pure (Dl env.cells l cs):=by
  intro l;induction l with
  | nil=>intro cs _;rfl
  | cons x r ih=>
   intro cs hl;obtain ⟨n,k⟩:=x;rw [OU];have ih':=λ cs=>ih cs λ y hy=>hl y (AM _ hy);by_cases hk:(k == NameKind.free)=true
   ·obtain ⟨c,hc⟩:=hl (n,k) AL (by simpa using hk);have e1:cellOf env n=pure c:=by unfold cellOf;rw [hc]
    rw [if_pos hk,e1];simp only [pure_bind];rw [ih',Dl,if_pos hk,hc];rfl
   ·rw [if_neg hk];simp only [pure_bind];rw [ih',Dl,if_neg hk]
 have:=all scope.names [] h
 simp only [bind_pure] at this ⊢;exact this
theorem GV (cells:List (Str×Addr)) (x:Str) (c:Addr):∀ (l:List (Str×Dq)) (cs:List (Str×Addr)),(∀ y∈l,y.2=.free->∃ c,cells.lookup y.1=some c)->(cs.lookup x=some c->cells.lookup x=some c)->(Dl cells l cs).lookup x=some c->cells.lookup x=some c
 | [],cs,_,h,e=>h e
 | (n,k)::r,cs,hl,h,e=>by
  unfold Dl at e;split at e
  ·rename_i hk;refine GV cells x c r _ (λ y hy=>hl y (AM _ hy)) (λ e'=>?_) e;rw [EX] at e';split at e'
   ·rename_i hx;obtain ⟨c',hc⟩:=hl (n,k) AL (by simpa using hk);rw [hc] at e';cases e';rw [eq_of_beq hx];exact hc
   ·exact h e'
  ·exact GV cells x c r cs (λ y hy=>hl y (AM _ hy)) h e
theorem PZ (cells:List (Str×Addr)) (x:Str):∀ (l:List (Str×Dq)) (cs:List (Str×Addr)),(∃ c,cs.lookup x=some c)->∃ c,(Dl cells l cs).lookup x=some c
 | [],cs,h=>h
 | (n,k)::r,cs,h=>by
  unfold Dl;split
  ·refine PZ cells x r _ ?_;rw [EX];split
   ·exact ⟨_,rfl⟩
   ·exact h
  ·exact PZ cells x r cs h
theorem PH (cells:List (Str×Addr)) (x:Str):∀ (l:List (Str×Dq)) (cs:List (Str×Addr)),(x,NameKind.free)∈l->∃ c,(Dl cells l cs).lookup x=some c
 | [],_,h=>nomatch h
 | (n,k)::r,cs,h=>by
  unfold Dl;rcases jb4.mp h with e | e
  ·cases e;rw [if_pos (show (NameKind.free == NameKind.free)=true by decide)];exact PZ cells x r _ ⟨_,by rw [EX,beq_self_eq_true]⟩
  ·split
   ·exact PH cells x r _ e
   ·exact PH cells x r cs e
theorem PF:∀ (names:List (Str×Dq)) (n:Nat) (acc:List (Str×Addr)) (x:Str) (c:Addr),(Df n names acc).lookup x=some c->acc.lookup x=some c\/(n<=c/\(x,NameKind.cell)∈names)
 | [],n,acc,x,c,h=>.inl h
 | (m,k)::r,n,acc,x,c,h=>by
  unfold Df at h;split at h
  ·rename_i hk;have hk':k=.cell:=by simpa using hk
   rcases PF r _ _ x c h with z | ⟨z,y⟩
   ·rw [EX] at z;split at z
    ·rename_i hx;cases z;exact .inr ⟨AA _,by rw [eq_of_beq hx,hk'];exact AL⟩
    ·exact .inl z
   ·exact .inr ⟨IB z,AM _ y⟩
  ·rcases PF r _ _ x c h with z | ⟨z,y⟩
   ·exact .inl z
   ·exact .inr ⟨z,AM _ y⟩
theorem M9:∀ (names:List (Str×Dq)) (n:Nat) (acc:List (Str×Addr)) (x:Str),(x,NameKind.cell)∉names->(Df n names acc).lookup x=acc.lookup x
 | [],n,acc,x,h=>rfl
 | (m,k)::r,n,acc,x,h=>by
  unfold Df;split
  ·rename_i hk;have hk':k=.cell:=by simpa using hk
   rw [M9 r _ _ x λ z=>h (AM _ z),EX];split
   ·rename_i hx;exact absurd (by rw [eq_of_beq hx,hk'];exact AL) h
   ·rfl
  ·exact M9 r _ _ x λ z=>h (AM _ z)
theorem O6:∀ (names:List (Str×Dq)) (n:Nat) (acc:List (Str×Addr)) (x:Str),(x,NameKind.cell)∈names->∃ c,(Df n names acc).lookup x=some c/\n<=c
 | [],n,acc,x,h=>nomatch h
 | (m,k)::r,n,acc,x,h=>by
  by_cases hr:(x,NameKind.cell)∈r
  ·unfold Df;split
   ·obtain ⟨c,e,l⟩:=O6 r (n + 1) ((m,n)::acc) x hr;exact ⟨c,e,IB l⟩
   ·exact O6 r n acc x hr
  ·rcases jb4.mp h with e | e
   ·cases e;unfold Df;rw [if_pos (by decide),M9 r _ _ _ hr,EX,beq_self_eq_true];exact ⟨n,rfl,AA _⟩
   ·exact absurd e hr
theorem RQ:∀ (names:List (Str×Dq)) (n:Nat) (acc:List (Str×Addr)),(∀ x y c,acc.lookup x=some c->acc.lookup y=some c->x=y)->(∀ x c,acc.lookup x=some c->c < n)->∀ x y c,(Df n names acc).lookup x=some c->(Df n names acc).lookup y=some c->x=y
 | [],n,acc,hi,_,x,y,c,h1,h2=>hi x y c h1 h2
 | (m,k)::r,n,acc,hi,hl,x,y,c,h1,h2=>by
  unfold Df at h1 h2;split at h1
  ·rename_i hk;rw [if_pos hk] at h2;refine RQ r (n + 1) ((m,n)::acc) (λ x y c h1 h2=>?_) (λ x c h=>?_) x y c h1 h2
   ·rw [EX] at h1 h2;split at h1
    ·rename_i e1;cases h1;split at h2
     ·rename_i e2;rw [eq_of_beq e1,eq_of_beq e2]
     ·exact absurd (hl y _ h2) (DM _)
    ·split at h2
     ·cases h2;exact absurd (hl x _ h1) (DM _)
     ·exact hi x y c h1 h2
   ·rw [EX] at h;split at h
    ·cases h;exact GK _
    ·exact OX (hl x c h)
  ·rename_i hk;rw [if_neg hk] at h2;exact RQ r n acc hi hl x y c h1 h2
theorem SH:∀ (names:List (Str×Dq)) (h:Heap) (acc:List (Str×Addr)) (x:Str) (c:Addr),(Df h.objs.size names acc).lookup x=some c->acc.lookup x=some c\/(pushCells h names).IsCell c none
 | [],h,acc,x,c,e=>.inl e
 | (m,k)::r,h,acc,x,c,e=>by
  unfold Df at e;unfold pushCells;split at e
  ·rename_i hk;rw [if_pos hk];have hs:(h.push { cls:=.type "cell",data:=.cell none }).objs.size=h.objs.size + 1:=FR ..;have e':(Df (h.push { cls:=.type "cell",data:=.cell none }).objs.size r ((m,h.objs.size)::acc)).lookup x=some c:=by rw [hs];exact e
   rcases SH r _ _ x c e' with z | z
   ·rw [EX] at z;split at z
    ·cases z;exact .inr ⟨_,QN _ _ _ _ (BR _ rfl),rfl⟩
    ·exact .inl z
   ·exact .inr z
  ·rename_i hk;rw [if_neg hk];exact SH r h acc x c e
def ZW {M:Model}{A:BK}{E:Ad->Ai->Prop}{s:Ai}{scope:Bz}{globals:Addr}{cl:List (Str×Addr)}{qual:Str}{func:Option Addr}{code:Ad}{around:Env}{builtins:Addr}{Q:Env->Ai->Prop}
  (hQ:Q (newEnv scope s.heap.objs.size globals (Df (s.heap.objs.size + 1) scope.names cl) qual func code (some around) builtins) { s with heap:=pushCells (s.heap.push { cls:=.type "dict",data:=.dict #[] }) scope.names }):
  Ak M A (QA scope globals cl [] qual func code (some around) builtins) Q E s:=by
 simp only [QA,Zu,if_true];refine Ah (wpAny_alloc ?_);refine Ah (wpAny_layCells _ (λ name kind cells=>by cases hkc:kind == NameKind.cell <;> simp [hkc]) _ _ _ _ ?_);rw [show ({ s with heap:=s.heap.push { cls:=.type "dict",data:=.dict #[] } }:Ai).heap.objs.size=s.heap.objs.size + 1 from FR ..];exact Ah (Aq (Aq hQ))
def LL (X:Cx) (scope:Bz) (C:Addr):List (Str×Addr):=Df (C + 1) scope.names (Dl X.env.cells scope.names [])
def BE (X:Cx) (s2:Ai) (H2:Hp) (scope:Bz) (C:Addr) (N':List Str) (fp:List Addr) (pins:List (Addr×Obj)):Cx:=
 { X with N:=N',s₀:=s2,H₀:=H2,env:=compEnvC scope (LL X scope C) C X.env,outer:=X.stack,stack:=X.stack,ex:=fp,fn:=λ x=>scope.names.contains (x,NameKind.cell),pn:=X.pn++pins,xe:=λ _ _=>False }
structure CompOk (X:Cx) (scope:Bz) (N':List Str) (k:Nat):Prop where
 kind:scope.kind=.function
 dis:∀ x,(x,NameKind.free)∈scope.names->(x,NameKind.cell)∉scope.names
 names:∀ x∈scope.names,x.2=.local->scope.names.lookup x.1=some .local
 len:N'.length=X.N.length + k
 free:∀ x∈scope.names,x.2=.free->X.env.kindOf x.1=some .cell\/X.env.kindOf x.1=some .free
 kinds:∀ x,(Im scope X.env).names.lookup x=some .cell\/(Im scope X.env).names.lookup x=some .free->(x,NameKind.free)∈scope.names\/(x,NameKind.cell)∈scope.names
 capt:∀ (i:Nat) (x:Str),i < X.N.length->N'[i]?=some x->IF (Im scope X.env) x->X.N[i]?=some x/\IF X.env.scope x/\(x,NameKind.free)∈scope.names/\(Im scope X.env).names.lookup x≠some .local
section
variable {X:Cx}{scope:Bz}{N':List Str}{k:Nat}{pins:List (Addr×Obj)}{σ:St}{H2:Hp}{s2:Ai}{fp:List Addr}{C:Addr}
def CompOk.cells (c:CompOk X scope N' k) (I:Inv X pins σ H2 s2):∀ x∈scope.names,x.2=.free->∃ a,X.env.cells.lookup x.1=some a:=λ x hx hf=>I.ok.has x.1 (c.free x hx hf)
def CompOk.cl (c:CompOk X scope N' k) (I:Inv X pins σ H2 s2) {x:Str}{a:Addr} (h:(LL X scope C).lookup x=some a):X.env.cells.lookup x=some a\/(C + 1<=a/\(x,NameKind.cell)∈scope.names):=
 (PF _ _ _ x a h).imp (λ z=>GV _ x a _ [] (c.cells I) (λ z=>nomatch z) z) id
def CompOk.old (c:CompOk X scope N' k) (I:Inv X pins σ H2 s2) {x:Str}{a:Addr} (h:X.env.cells.lookup x=some a):a < s2.heap.objs.size:=by
 obtain ⟨v,o,ho,_⟩:=I.cell x a h;exact AS ho
def CompOk.cap (c:CompOk X scope N' k) {x:Str} (h:(x,NameKind.free)∈scope.names):∃ a,(LL X scope C).lookup x=some a/\(Dl X.env.cells scope.names []).lookup x=some a:=by
 obtain ⟨a,ha⟩:=PH X.env.cells x scope.names [] h;exact ⟨a,(M9 _ _ _ x (c.dis x h)).trans ha,ha⟩
def CompOk.ok (c:CompOk X scope N' k) (I:Inv X pins σ H2 s2) (hf:∀ b∈fp,Ct X pins H2 b) (hC:s2.heap.objs.size<=C) (hfp:∀ b∈fp,b < s2.heap.objs.size):(BE X s2 H2 scope C N' fp pins).Ok where
 mod:=I.ok.mod
 kind:=c.kind
 glob:=I.ok.glob
 blt:=I.ok.blt
 above:=hC
 inj:=λ x y a h1 h2=>RQ scope.names (C + 1) _ (λ x y a h1 h2=>I.ok.inj x y a (GV _ x a _ [] (c.cells I) (λ z=>nomatch z) h1) (GV _ y a _ [] (c.cells I) (λ z=>nomatch z) h2))
  (λ x a h=>OX (Cg (c.old I (GV _ x a _ [] (c.cells I) (λ z=>nomatch z) h)) hC)) x y a h1 h2
 has:=λ x hx=>(c.kinds x hx).elim (λ z=>let ⟨a,h,_⟩:=c.cap (C:=C) z;⟨a,h⟩) λ z=>let ⟨a,h,_⟩:=O6 scope.names (C + 1) (Dl X.env.cells scope.names []) x z;⟨a,h⟩
 cab:=λ x a h e=>by
  have hx:(x,NameKind.cell)∈scope.names:=by
   have h':scope.names.contains (x,NameKind.cell)=true:=h;simpa using h'
  obtain ⟨a',e',l⟩:=O6 scope.names (C + 1) (Dl X.env.cells scope.names []) x hx;have e2:(Df (C + 1) scope.names (Dl X.env.cells scope.names [])).lookup x=some a:=e;rw [e'] at e2;cases e2;exact BZ hC (IB l)
 hd:=I.ok.hd
 frames:=I.ok.frames
 stk:=.inl rfl
 exf:=λ b hb=>⟨Cr (Cg (hfp b hb) hC),λ x a h=>(c.cl I h).elim (λ z=>(hf b hb).2.2.2.2.1 x a z) λ z=>EC (Cg (hfp b hb) (BZ hC (IB z.1)))⟩
 bs:=I.bs
 bsz:=BZ I.ok.bsz I.sz
 noex:=λ b o e hb=>by
  rcases (hf b hb).2.2.2.1 with z | z
  ·exact I.ok.noex b o e z
  ·exact absurd (Cg (AS e) (BZ I.ok.bsz z)) (DM _)
 exfs:=λ b hb hz=>by
  rcases jb4.mp (I.stkSub b hz) with z | z
  ·exact (hf b hb).2.1 z
  ·exact (hf b hb).2.2.1 z
 funs:=I.stack
 frf:=I.stkFree
def CompOk.inv (c:CompOk X scope N' k) (I:Inv X pins σ H2 s2) (hf:∀ b∈fp,Ct X pins H2 b) (hfp:∀ b∈fp,b < s2.heap.objs.size) {H3:Hp}{h':Heap}{t':Nat}{m:Str->Option Ad}{D:Addr} (hCD:D≠C) (hD:s2.heap.objs.size<=D) (hC:s2.heap.objs.size<=C)
  (keep:∀ b o,s2.heap.get? b=some o->h'.get? b=some o) (ns:h'.Ns C m) (hH:∀ b,b≠D->H3 b=H2 b) (hok:HOk X.prog X.w H3 h') (hC3:H3 C=none) (hDC:D < C) (hcN:∀ x a,(LL X scope C).lookup x=some a->C + 1<=a->h'.IsCell a none):
  Inv (BE X s2 H2 scope C N' fp pins) [] (σ++AK k none) H3 { s2 with heap:=h',toks:=t' } where
 ok:=c.ok I hf hC hfp
 os:=rfl
 bare:=I.bare
 base:=by
  have nD:∀ b o,s2.heap.get? b=some o->b≠D:=λ b o e=>Cr (Cg (AS e) hD);refine ⟨λ b o e _ _ _=>keep b o e,λ b o e _ _ _=>⟨o.slots,keep b o e⟩,λ b o e n _=>by rw [hH b (nD b o e)];exact n,λ b o e _=>⟨o,keep b o e⟩,λ b xs e=>?_,λ b o u e=>?_,λ b ps e=>⟨#[],?_⟩⟩
  ·have e:H2 b=some (.tup xs):=e;rw [hH b (λ z=>by rw [z,I.hok.fresh hD] at e;cases e)];exact e
  ·have e:H2 b=some (.frz o u):=e;rw [hH b (λ z=>by rw [z,I.hok.fresh hD] at e;cases e)];exact e
  ·have e:H2 b=some (.tbl ps):=e;rw [hH b (λ z=>by rw [z,I.hok.fresh hD] at e;cases e)];simpa using e
 loc:=by
  refine ⟨m,ns,λ i x v e1 e2 e3=>?_⟩;have hi:i < σ.length:=by
   by_cases hi:i < σ.length
   ·exact hi
   ·rw [Gj (by omega),EG] at e2;split at e2 <;> cases e2
  rw [C6 hi] at e2;obtain ⟨n1,n2,n3,n4⟩:=c.capt i x (by rw [<- I.len];exact hi) e1 e3;obtain ⟨m0,ns0,hl⟩:=I.loc;obtain ⟨u,r,lk⟩:=hl i x v n1 e2 n2;refine ⟨u,r,.inr ⟨?_,?_⟩⟩
  ·rcases e3 with z | z | z
   ·exact absurd z n4
   ·exact .inl z
   ·exact .inr z
  ·obtain ⟨a,ha,hb⟩:=c.cap (C:=C) n3;have ha':=GV _ x a _ [] (c.cells I) (λ z=>nomatch z) hb;refine ⟨a,ha,?_⟩;rcases lk with ⟨hk,_⟩ | ⟨hk,a2,ha2,hc⟩
   ·rcases c.free _ n3 rfl with z | z <;> rw [hk] at z <;> cases z
   ·rw [ha'] at ha2;cases ha2;obtain ⟨o,ho,hd⟩:=hc;exact ⟨o,keep _ _ ho,hd⟩
 cell:=λ x a h=>by
  rcases c.cl I h with z | z
  ·obtain ⟨v,o,ho,hd⟩:=I.cell x a z;exact ⟨v,o,keep _ _ ho,hd⟩
  ·exact ⟨none,hcN x a h z.1⟩
 free:=hC3
 freeC:=λ x a h=>by
  rcases c.cl I h with ha | z
  ·obtain ⟨v,o,ho,hd⟩:=I.cell x a ha;rw [hH a (Cr (Cg (AS ho) hD))];exact I.freeC x a ha
  ·rw [hH a (EC (Cg hDC (IB z.1)))];exact I.hok.fresh (BZ hC (IB z.1))
 pin:=λ p hp=>by
  have hp':p∈X.pn++pins:=by simpa [BE] using hp
  obtain ⟨e,n,ne,nf,d⟩:=I.pin p hp';have hlt:=AS e;exact ⟨keep _ _ e,by rw [hH p.1 (Cr (Cg hlt hD))];exact n,Cr (Cg hlt hC),λ z=>(jb4.mp (I.stkSub p.1 z)).elim ne nf,d⟩
 hok:=hok
 len:=by
  show (σ++AK k none).length=N'.length;rw [BM,Es,c.len,I.len]
def HL (X:Cx) (ifs:List Expr) (t:TT):Prop:=
 ∀ (pins:List (Addr×Obj)) (s:Ai) (σ:St) (H:Hp) (Q:Bool->Hp->Prop),Inv X pins σ H s->t σ H Q ->
  Ak (Ax X.prog X.w) X.A (forIn ifs true λ c r=>if r=true then do let ok<-isTrue c X.env (eval c X.env);pure (ForInStep.yield ok) else pure (ForInStep.yield r)) (TP X pins σ Q) X.xe s
def kI {X:Cx}:HL X [] (λ _ H Q=>Q true H):=λ _ _ _ H _ I h=>Aq ⟨H,I,h⟩
def kJ {X:Cx}{c:Expr}{t:TT} (hc:PT X c t):HL X [c] t:=by
 intro pins s σ H Q I h;rw [OU];refine Ah ?_;rw [if_pos rfl];refine Ah (A4 (hc pins s σ H Q I h) λ b s1 q=>Aq ?_);exact Aq q
def CompOk.again (c:CompOk X scope N' k) (I:Inv X pins σ H2 s2) {σ':St}{H':Hp}{s':Ai}{ps:List (Addr×Obj)} (hfp:∀ b∈fp,Ct X pins H2 b) (J:Inv (BE X s2 H2 scope C N' fp pins) ps σ' H' s'):Inv (BE X s2 H2 scope C N' fp pins) ps (σ++AK k none) H' s' where
 ok:=J.ok
 os:=J.os
 bare:=J.bare
 base:=J.base
 loc:=by
  obtain ⟨m,ns,_⟩:=J.loc;refine ⟨m,ns,λ i x v e1 e2 e3=>?_⟩;have hi:i < σ.length:=by
   by_cases hi:i < σ.length
   ·exact hi
   ·rw [Gj (by omega),EG] at e2;split at e2 <;> cases e2
  rw [C6 hi] at e2;obtain ⟨n1,n2,n3,n4⟩:=c.capt i x (by rw [<- I.len];exact hi) e1 e3;obtain ⟨m0,ns0,hl⟩:=I.loc;obtain ⟨u,r,lk⟩:=hl i x v n1 e2 n2;refine ⟨u,r,.inr ⟨?_,?_⟩⟩
  ·rcases e3 with z | z | z
   ·exact absurd z n4
   ·exact .inl z
   ·exact .inr z
  ·obtain ⟨a,ha,hb⟩:=c.cap (C:=C) n3;have ha':=GV _ x a _ [] (c.cells I) (λ z=>nomatch z) hb;refine ⟨a,ha,?_⟩;rcases lk with ⟨hk,_⟩ | ⟨hk,a2,ha2,hc⟩
   ·rcases c.free _ n3 rfl with z | z <;> rw [hk] at z <;> cases z
   ·rw [ha'] at ha2;cases ha2;obtain ⟨o,ho,hd⟩:=hc;obtain ⟨sl,ho'⟩:=J.base.any (b:=a) (ob:=o) ho (I.freeC x a ha') λ z=>(hfp a z).2.2.2.2.1 x a ha' rfl;exact ⟨_,ho',hd⟩
 cell:=J.cell
 free:=J.free
 freeC:=J.freeC
 pin:=J.pin
 hok:=J.hok
 len:=by
  show (σ++AK k none).length=N'.length;rw [BM,Es,c.len,I.len]
theorem ZS {prog:A8}{w:A7}{A:BK}{R:Result->Ai->Prop}{s:Ai}{elt target iter:Expr}{ifs:List Expr}{scope:Bz}{pos:Pos}{it acc:Ad}{env:Env} (I:Nat->Ai->Prop)
  (turn:∀ n s,I n s->Ak (Ax prog w) A (Ei it) (λ r s₁=>match r with
   | none=>R (.ok .next) s₁
   | some v=>Ak (Ax prog w) A (Nq target it v) (λ _ s₁'=>Ak (Ax prog w) A (Hm target env v) (λ _ s₂=>
     Ak (Ax prog w) A (forIn ifs true λ c r=>if r=true then do let ok<-isTrue c env (eval c env);pure (ForInStep.yield ok) else pure (ForInStep.yield r)) (λ ok s₃=>
      if ok=true then Ak (Ax prog w) A (eval elt env) (λ x s₄=>
       Ak (Ax prog w) A (call (.builtin "list.append") [acc,x]) (λ _ s₅=>∃ m,m < n/\I m s₅) (λ _ _=>False) s₄) (λ _ _=>False) s₃
      else ∃ m,m < n/\I m s₃) (λ _ _=>False) s₂) (λ _ _=>False) s₁') (λ _ _=>False) s₁) (λ _ _=>False) s)
  (n:Nat) (h:I n s):
  Il (Ax prog w) A (.compLoop (.ListComp elt [⟨target,iter,ifs,0⟩] scope pos) 0 it acc env) R s:=by
 refine codeAny_loop rfl I (λ n s hI=>?_) n h;show Ak _ A ((compTurn (.ListComp elt [⟨target,iter,ifs,0⟩] scope pos) 0 it acc env).onRaise (λ x=>do noteFrame x env;theTreesLotGoes x)) _ _ s;refine wpAny_noted ?_;rw [compTurn_list];refine Ah (Nm (Ah (Hr (turn n s hI) (λ r s₁ h₁=>?_) λ _ _ h'=>h'.elim)));cases r with
 | none=>exact Aq h₁
 | some v=>
  refine Ah (Hr h₁ (λ _ s₁' h₁'=>?_) λ _ _ h'=>h'.elim);refine Ah (Hr h₁' (λ _ s₂ h₂=>Ah (Hr h₂ (λ ok s₃ h₃=>?_) λ _ _ h'=>h'.elim)) λ _ _ h'=>h'.elim);cases ok with
  | false=>exact Aq ⟨rfl,h₃⟩
  | true=>
   exact Ah (Ah (Hr h₃ (λ x s₄ h₄=>Ah (Hr h₄ (λ _ s₅ h₅=>Aq (Aq ⟨rfl,h₅⟩)) λ _ _ h'=>h'.elim)) λ _ _ h'=>h'.elim))
def Us {elt iter tg:Expr}{ifs:List Expr}{pos:Pos}{J:It}{it:Addr}{tn:Nat->Heap->Prop}{g:TG}{tc:TT}{te:TE}{RR:Ad->Addr->Result->Ai->Prop}{Q:VK}{E:Ad->Ai->Prop}
  (c:CompOk X scope N' k) (hcalm:X.calm=true) (I:Inv X pins σ H2 s2) (T:Turn X.prog X.w X.K tg J fp it tn) (st:tn 0 s2.heap) (hf:∀ b∈fp,Ct X pins H2 b)
  (hg:∀ C fp,PG (BE X s2 H2 scope C N' fp pins) tg g) (hc:∀ C fp,HL (BE X s2 H2 scope C N' fp pins) ifs tc) (he:∀ C fp,PE (BE X s2 H2 scope C N' fp pins) elt te)
  (h:∀ D,H2 D=none->∃ W:Nat->Nat->List V->Hp->Prop,(∃ m,W 0 m [] (Ao H2 D (.lst [])))/\∀ i m ys H,W i m ys H->H D=some (.lst ys) /\
   ((J.stop i H/\Q (.ref D) H)\/(J.go i H/\∀ x H',J.yld i H x H'->g x (σ++AK k none) H' λ σ2 H2=>tc σ2 H2 λ b H3=>if b=true then te σ2 H3 λ y H4=>H4 D=some (.lst ys)/\ys.length < Az/\∃ m',m' < m/\W (i + 1) m' (ys++[y]) (Ao H4 D (.lst (ys++[y]))) else ∃ m',m' < m/\W (i + 1) m' ys H3)))
  (hRR:∀ D C σ' H' s',s2.heap.objs.size<=C->Inv (BE X s2 H2 scope C N' fp pins) [] σ' H' s'->Q (.ref D) H'->RR (.ref D) C (.ok .next) s')
  :
  Ak (Ax X.prog X.w) X.A (newList []) (λ acc s₃=>Ak (Ax X.prog X.w) X.A (QA scope X.env.globals (Dl X.env.cells scope.names []) [] X.env.qual none .none (some X.env)) (λ cenv s₄=>
   Il (Ax X.prog X.w) X.A (.compStart (.ListComp elt [⟨tg,iter,ifs,0⟩] scope pos) 0 (.ref it) acc { cenv with scope:=Im scope X.env }) (RR acc cenv.locals) s₄) E s₃) E s2:=by
 refine El (ZW ?_);dsimp only;generalize hH2:s2.heap.push { cls:=.type "list",dict:=none,data:=.seq ([]:List Ad).toArray }=HP;obtain ⟨h₁,hh₁⟩:∃ h₁,h₁=pushCells (HP.push { cls:=.type "dict",data:=.dict #[] }) scope.names:=⟨_,rfl⟩
 rw [<- hh₁];have kk:∀ b o,HP.get? b=some o->h₁.get? b=some o:=λ b o e=>by rw [hh₁];exact QN _ _ b o (Bj _ e)
 have hns₁:h₁.Ns HP.objs.size (λ _=>none):=by rw [hh₁];exact (Heap.Ns.new HP (.type "dict")).keeps (QN _ _)
 have hC:HP.objs.size=s2.heap.objs.size + 1:=by rw [<- hH2,FR]
 have hDC:s2.heap.objs.size≠HP.objs.size:=by rw [hC];exact Cr (GK _)
 have hCle:s2.heap.objs.size<=HP.objs.size:=by rw [hC];exact Tf _
 have hfp:∀ b∈fp,b < s2.heap.objs.size:=λ b hb=>by
  obtain ⟨o,e,_⟩:=T.obj 0 _ st b hb;exact AS e
 have Iu:∀ b,b < s2.heap.objs.size->b≠HP.objs.size:=λ b hb=>by rw [hC];exact Cr (OX hb)
 have old:∀ b o,s2.heap.get? b=some o->h₁.get? b=some o:=λ b o e=>kk b o (hH2 ▸ Bj _ e);have hacc:h₁.get? s2.heap.objs.size=some { cls:=.type "list",dict:=none,data:=.seq ([]:List Ad).toArray }:=kk _ _ (hH2 ▸ BR _ rfl);have fD:H2 s2.heap.objs.size=none:=I.hok.fresh (AA _);obtain ⟨W,⟨m0,w0⟩,hW⟩:=h _ fD;have hok3:HOk X.prog X.w (Ao H2 s2.heap.objs.size (.lst [])) h₁:=I.hok.laid old (AA _) ⟨Fw _,[],0,.nil,hacc⟩;have st1:tn 0 h₁:=T.keep _ _ _ st λ b hb o e=>old b o e;have I3:Inv (BE X s2 H2 scope HP.objs.size N' fp pins) [] (σ++AK k none) (Ao H2 s2.heap.objs.size (.lst [])) { s2 with heap:=h₁ }:=
  c.inv I hf hfp (t':=s2.toks) hDC (AA _) hCle old hns₁ (λ b hb=>AH hb) hok3 (by rw [AH (BY hDC)];exact I.hok.fresh hCle) (by rw [hC];exact GK _) (λ x a h l=>by
   have hs:(HP.push { cls:=.type "dict",data:=.dict #[] }).objs.size=HP.objs.size + 1:=FR ..;have h':(Df (HP.push { cls:=.type "dict",data:=.dict #[] }).objs.size scope.names (Dl X.env.cells scope.names [])).lookup x=some a:=by rw [hs];exact h
   rcases SH scope.names _ _ x a h' with z | z
   ·exact absurd (Cg (c.old I (GV _ x a _ [] (c.cells I) (λ z=>nomatch z) z)) (BZ hCle (IB l))) (DM _)
   ·rw [hh₁];exact z)
 have fx:∀ {H':Hp},(∀ b∈fp,H' b=none)->∀ b∈fp,Ct (BE X s2 H2 scope HP.objs.size N' fp pins) [] H' b:=λ hn b hb=>by
  obtain ⟨f0,f1,f2,f3,f4,f5⟩:=hf b hb;refine ⟨hn b hb,Cr (Cg (hfp b hb) hCle),λ hz=>?_,.inl hb,λ x a h=>(c.cl I h).elim (λ z=>f4 x a z) λ z=>EC (Cg (hfp b hb) (BZ hCle (IB z.1))),λ p hp=>f5 p (by simpa [BE] using hp)⟩;rcases jb4.mp (I.stkSub b hz) with z | z
  ·exact f1 z
  ·exact f2 z
 have f0:∀ b∈fp,(Ao H2 s2.heap.objs.size (.lst [])) b=none:=λ b hb=>by rw [AH (Cr (hfp b hb))];exact (hf b hb).1
 have loop:∀ s₃:Ai,s₃={ s2 with heap:=h₁ } ->
   Il (Ax X.prog X.w) X.A (.compLoop (.ListComp elt [⟨tg,iter,ifs,0⟩] scope pos) 0 (.ref it) (.ref s2.heap.objs.size) (compEnvC scope (LL X scope HP.objs.size) HP.objs.size X.env))
    (RR (.ref s2.heap.objs.size) HP.objs.size) s₃:=by
  rintro s₃ rfl;refine ZS (λ n s'=>∃ i H' ys,Inv (BE X s2 H2 scope HP.objs.size N' fp pins) [] (σ++AK k none) H' s'/\tn i s'.heap/\(∀ b∈fp,H' b=none)/\W i n ys H') ?_ m0 ⟨0,_,[],I3,st1,f0,w0⟩;rintro n s4 ⟨i,H4,ys,I4,st4,fr4,w4⟩;obtain ⟨hD4,hcase⟩:=hW i n ys H4 w4;rcases hcase with ⟨stop,qn⟩ | ⟨go,step⟩
  ·refine A4 (T.done (BE X s2 H2 scope HP.objs.size N' fp pins) rfl rfl rfl hcalm i [] s4 _ H4 (λ _ _=>False) I4 (fx fr4) st4 stop) λ r s5 ⟨hr,I5⟩=>?_;subst hr;exact hRR _ _ _ _ _ hCle I5 qn
  ·refine A4 (T.item (BE X s2 H2 scope HP.objs.size N' fp pins) rfl rfl rfl hcalm i [] s4 _ H4 (λ _ _=>False) I4 (fx fr4) st4 go) λ r s5 ⟨u,hr,h5⟩=>?_;subst hr;refine A4 h5 λ _ s6 ⟨x,H6,I6,r6,y6,st6,fr6⟩=>?_;have I6':=I6.pinned (fx fr6) (T.obj _ _ st6);have stays:∀ {σ':St}{H':Hp}{s':Ai},Inv (BE X s2 H2 scope HP.objs.size N' fp pins) ([]++Ll fp s6.heap) σ' H' s'->Inv (BE X s2 H2 scope HP.objs.size N' fp pins) [] (σ++AK k none) H' s'/\tn (i + 1) s'.heap/\∀ b∈fp,H' b=none:=λ {σ' H' s'} J=>by
    refine ⟨c.again I hf J.unpinned,T.keep _ _ _ st6 λ b hb o e=>(J.pin (b,o) (BX _ (BX _ (M6 hb e)))).1,λ b hb=>?_⟩;obtain ⟨o,e,d⟩:=T.obj _ _ st6 b hb;exact (J.pin (b,o) (BX _ (BX _ (M6 hb e)))).2.1
   refine A4 (hg _ _ _ s6 _ H6 x u _ I6' r6 (step x H6 y6)) λ _ s7 ⟨σ7,H7,I7,q7⟩=>?_;refine A4 (hc _ _ _ s7 σ7 H7 _ I7 q7) λ b s8 ⟨H8,I8,q8⟩=>?_;cases b with
   | false=>
    rw [if_neg Cs] at q8 ⊢;obtain ⟨m',hm,w'⟩:=q8;obtain ⟨j1,j2,j3⟩:=stays I8;exact ⟨m',hm,i + 1,H8,ys,j1,j2,j3,w'⟩
   | true=>
    rw [if_pos rfl] at q8 ⊢;refine A4 (he _ _ _ s8 σ7 H8 _ I8 q8) λ y s9 ⟨z,H9,I9,r9,hD9,hz9,m',hm,w'⟩=>?_;refine A4 (UG (X:=BE X s2 H2 scope HP.objs.size N' fp pins) _ s9 σ7 H9 (.ref s2.heap.objs.size) [z] (.ref s2.heap.objs.size) [y] (λ _ H'=>H'=Ao H9 s2.heap.objs.size (.lst (ys++[z]))) I9 rfl (.cons r9 .nil) ⟨_,ys,z,rfl,rfl,hD9,hz9,rfl⟩) λ _ s10 ⟨_,H10,I10,_,e10⟩=>?_;subst e10;obtain ⟨j1,j2,j3⟩:=stays I10;exact ⟨m',hm,i + 1,_,_,j1,j2,j3,w'⟩
 exact codeAny_compStart_list (loop _ rfl) (T.self _ 0 _ _ _ st1 (loop _ rfl))
def CompOk.out (I:Inv X pins σ H2 s2) (hf:∀ b∈fp,Ct X pins H2 b) {σ':St}{H':Hp}{s':Ai} (J:Inv (BE X s2 H2 scope C N' fp pins) [] σ' H' s'):Inv X pins σ H' s':=
 I.call' (ch:=fp) J.os J.base J.hok J.bare λ b hb=>⟨(hf b hb).2.2.2.1,(hf b hb).2.1,(hf b hb).2.2.2.2.1,(hf b hb).2.2.2.2.2⟩
def CompOk.away (I:Inv X pins σ H2 s2) (hC:s2.heap.objs.size<=C) {σ':St}{H':Hp}{s':Ai} (J:Inv X pins σ' H' s') (hC':H' C=none) {h':Heap} (sb:Jb C s'.heap h'):Inv X pins σ' H' { s' with heap:=h' }:=by
 have lt:∀ b o,s2.heap.get? b=some o->b≠C:=λ b o e=>Cr (Cg (AS e) hC);refine J.turned (t':=s'.toks) (it:=C) (λ b o hb e=>(sb.2 b hb).trans e) hC' (EC (Cg I.lt hC)) (.inr (BZ I.sz hC)) (λ x c h=>?_) λ p hp=>?_
 ·obtain ⟨v,o,ho,_⟩:=I.cell x c h;exact lt c o ho
 ·exact lt p.1 p.2 (I.pin p hp).1
variable {elt iter tg:Expr}{ifs:List Expr}{pos:Pos}{wi:TI}{g:TG}{tc:TT}{te:TE}
def Xa (c:CompOk X scope N' k) (hcalm:X.calm=true) (hi:PI X tg iter wi) (hg:∀ s2 H2 C fp pins,PG (BE X s2 H2 scope C N' fp pins) tg g) (hc:∀ s2 H2 C fp pins,HL (BE X s2 H2 scope C N' fp pins) ifs tc)
  (he:∀ s2 H2 C fp pins,PE (BE X s2 H2 scope C N' fp pins) elt te) (hs:∀ x,Nw iter X.env x=pure x):PE X (.ListComp elt [⟨tg,iter,ifs,0⟩] scope pos) (Jq k wi g tc te):=by
 intro pins s σ H Q I h;rw [eval_ListComp];refine wpAny_comprehension_free (use:=none) rfl hs (U8 (c.cells I)) c.kind c.names ?_;refine A4 (hi pins s σ H _ I h) λ v s1 h1=>A4 h1 λ itv s2 h2=>?_;obtain ⟨it,fp,tn,J,H',e,I2,T,st2,f2,W⟩:=h2;subst e;refine Us (RR:=λ acc C=>compPost (Ax X.prog X.w) X.A X.xe none (EP X pins σ Q) acc C) c hcalm I2 T st2 f2 (λ C fp=>hg s2 H' C fp pins) (λ C fp=>hc s2 H' C fp pins) (λ C fp=>he s2 H' C fp pins) W λ D C σ' H3 s' hC J3 q=>?_;obtain ⟨m,ns,_⟩:=J3.loc;exact ⟨m,ns,λ h' sb=>⟨.ref D,H3,CompOk.away I2 hC (CompOk.out I2 f2 J3) J3.free sb,rfl,q⟩⟩
theorem ui {i:Nat}{x:Str}{pos' spos:Pos} (hN:X.N.Nodup) (hi':X.N[i]?=some x) (hx:FE X.env.scope x) (hfn:X.fn x=true\/X.env.scope.names.lookup x=some .local) (c:CompOk X scope N' k) (hcalm:X.calm=true) (hi:PI X tg iter wi) (hg:∀ s2 H2 C fp pins,PG (BE X s2 H2 scope C N' fp pins) tg g) (hc:∀ s2 H2 C fp pins,HL (BE X s2 H2 scope C N' fp pins) ifs tc)
  (he:∀ s2 H2 C fp pins,PE (BE X s2 H2 scope C N' fp pins) elt te) (hs:∀ x,Nw iter X.env x=pure x):PS X (.Assign [.Name x pos'] (.ListComp elt [⟨tg,iter,ifs,0⟩] scope pos) spos) (ES (Jq k wi g tc te) (Fq i)):=by
 have hsw:∃ b,swapsWith (.ListComp elt [⟨tg,iter,ifs,0⟩] scope pos) (some (.Name x pos')) spos.line X.env=pure b:=⟨_,rfl⟩
 obtain ⟨b,hsw⟩:=hsw;cases b with
 | false=>exact Wz hN hi' hx (Xa c hcalm hi hg hc he hs) hsw hfn
 | true=>
  intro pins s σ H D I h;rw [exec_Assign_Name_used _ _ _ _ hsw];refine Ah (Nm (Ah ?_));show Ak _ X.A (do let _<-comprehension (.ListComp elt [⟨tg,iter,ifs,0⟩] scope pos) scope X.env _ (newList []) false (eval iter X.env) (some (Hm (.Name x pos') X.env))) _ _ s;refine Ah (Hr (wpAny_comprehension_free (use:=some (Hm (.Name x pos') X.env)) (Q:=λ _ s'=>SP X pins D .next s') rfl hs (U8 (c.cells I)) c.kind c.names ?_) (λ _ s' hq=>Aq (Aq hq)) λ _ _ e=>e);refine A4 (hi pins s σ H _ I h) λ v s1 h1=>A4 h1 λ itv s2 h2=>?_;obtain ⟨it,fp,tn,J,H',e,I2,T,st2,f2,W⟩:=h2;subst e;refine Us (Q:=λ x H1=>Fq i x σ H1 D.nx) (RR:=λ acc C=>compPost (Ax X.prog X.w) X.A X.xe (some (Hm (.Name x pos') X.env)) (λ _ s'=>SP X pins D .next s') acc C) c hcalm I2 T st2 f2 (λ C fp=>hg s2 H' C fp pins) (λ C fp=>hc s2 H' C fp pins) (λ C fp=>he s2 H' C fp pins) W λ E C σ' H3 s' hC J3 q=>?_;obtain ⟨m,ns,_⟩:=J3.loc;have I3:=CompOk.out I2 f2 J3;show Ak _ X.A (Hm (.Name x pos') X.env (.ref E)) _ _ _;refine wpAny_assign_Name (UO I3 hN hi' hx (v:=.ref E) rfl (λ s'' I4 hsb=>?_) hfn);obtain ⟨a,sb,ha⟩:=hsb;have hCa:C≠a:=by
   rcases ha with z | z
   ·rw [z];exact EC (Cg I2.lt hC)
   ·obtain ⟨v,o,ho,_⟩:=I2.cell x a z;exact EC (Cg (AS ho) hC)
  exact ⟨m,ns.sameBut sb hCa,λ h' sb'=>⟨_,H3,CompOk.away I2 hC I4 J3.free sb',q⟩⟩
def w9 {P:A8}{w:A7}{K:Frag}{tg:Expr} (z:Str) (tk:Tok) (it:Addr):Turn P w K tg (ZM z) [it] it (λ i h=>h.IsStrIter it "str_ascii_iterator" z tk i) where
 mem:=by simp
 obj:=λ i h st b hb=>by
  have e:b=it:=by simpa using hb
  subst e;obtain ⟨o,e,c,d⟩:=st;exact ⟨o,e,λ v z=>by rw [d] at z;cases z⟩
 keep:=λ i h h' st k=>by
  obtain ⟨o,e,r⟩:=st;exact ⟨o,k it (by simp) o e,r⟩
 item:=by
  intro X hP hw hK hc i pins s σ H E I hf st hg;subst hP hw hK;have hi:i < z.cps.size:=hg;obtain ⟨f0,f1,f2,f3,f4,f5⟩:=hf it (by simp);refine wpAny_pyNext_ascii_item st (c:=z.cps[i]) (by simp [hi]) λ h' st' sb=>?_;have I1:Inv X pins σ H { s with heap:=h',toks:=s.toks + 1 }:=I.turned (t':=s.toks + 1) (λ b o hb e=>(sb.2 b hb).trans e) f0 f1 f3 f4 f5;obtain ⟨o,e,c,d⟩:=id st';exact ⟨_,rfl,Jo (s:={ s with heap:=h',toks:=s.toks + 1 }) e c d (by decide) ⟨.str ⟨#[z.cps[i]]⟩,H,I1,⟨_,rfl⟩,⟨rfl,z.cps[i],by simp [hi],rfl⟩,st',λ b hb=>(hf b hb).1⟩⟩
 done:=by
  intro X hP hw hK hc i pins s σ H E I hf st hg;subst hP hw hK;have hi:z.cps.size<=i:=hg;obtain ⟨f0,f1,f2,f3,f4,f5⟩:=hf it (by simp);exact wpAny_pyNext_ascii_end (I.ok.hd hc) st (by simp;omega) λ h' eb=>⟨rfl,I.turned (t':=s.toks) (λ b o hb e=>eb b o hb e) f0 f1 f3 f4 f5⟩
 self:=λ _ _ _ _ _ st h=>wpAny_pyIter_striter_ascii st h
def Wv {l:Expr}{tl:TE} (hl:PE X l tl):PI X tg l (EY X.K tl):=by
 intro pins s σ H R I h;refine A4 (hl pins s σ H _ I h) λ v s1 ⟨x,H1,I1,r1,q1⟩=>?_;obtain ⟨a,e,⟨⟨xs,hq⟩,q⟩ | ⟨⟨xs,hq⟩,q⟩⟩ | ⟨z,e,ha,q⟩:=q1
 ·subst e;cases r1;obtain ⟨its,rv,p,hz⟩:=I1.list hq;refine wpAny_pyIter_list p.isList ?_;refine ⟨s1.heap.objs.size,[s1.heap.objs.size],_,_,H1,rfl,I1.kept (t':=s1.toks) λ b o e=>Bj _ e,yL a _,⟨_,BR _ rfl,rfl,rfl⟩,λ b hb=>?_,q⟩;have e:b=s1.heap.objs.size:=by simpa using hb
  subst e;exact I1.fpOk (AA _) (I1.hok.fresh (AA _))
 ·subst e;cases r1;obtain ⟨its,rv,p,hz⟩:=I1.tuple hq;refine N0 (show s1.heap.IsTuple a its.toArray from p) ?_;refine ⟨s1.heap.objs.size,[s1.heap.objs.size],_,_,H1,rfl,I1.kept (t':=s1.toks) λ b o e=>Bj _ e,ub a _,⟨_,BR _ rfl,rfl,rfl⟩,λ b hb=>?_,q⟩;have e:b=s1.heap.objs.size:=by simpa using hb
  subst e;exact I1.fpOk (AA _) (I1.hok.fresh (AA _))
 ·subst e;obtain ⟨tk,rfl⟩:=r1;refine wpAny_pyIter_ascii ha ?_;refine ⟨s1.heap.objs.size,[s1.heap.objs.size],_,_,H1,rfl,I1.kept (t':=s1.toks) λ b o e=>Bj _ e,w9 z tk _,⟨_,BR _ rfl,rfl,rfl⟩,λ b hb=>?_,q⟩;have e:b=s1.heap.objs.size:=by simpa using hb
  subst e;exact I1.fpOk (AA _) (I1.hok.fresh (AA _))
end
end QQ
namespace L2
open PySem PySem.Spec PyProof.Rows
section
variable {κ:Type} [DecidableEq κ]
def Cm (kvs:List (κ×V)) (k:κ):Option V:=(kvs.find? λ kv=>decide (kv.1=k)).map (·.2)
def Cp (kvs:List (κ×V)) (k:κ) (v:V):List (κ×V):=
 if (kvs.any λ kv=>decide (kv.1=k))=true then kvs.map (λ kv=>if kv.1=k then (kv.1,v) else kv) else kvs++[(k,v)]
def Nf {p:κ×V}{r:List (κ×V)}{k:κ} (e:p.1=k):Cm (p::r) k=some p.2:=by simp [Cm,K2,e]
def Nd {p:κ×V}{r:List (κ×V)}{k:κ} (e:¬ p.1=k):Cm (p::r) k=Cm r k:=by simp [Cm,K2,e]
theorem Yt (k:κ):∀ kvs:List (κ×V),(kvs.any λ kv=>decide (kv.1=k))=(Cm kvs k).isSome
 | []=>rfl
 | p::r=>by
  rw [LY];by_cases e:p.1=k
  ·simp only [Nf e,decide_eq_true e,Bool.true_or,Zu]
  ·rw [Nd e,decide_eq_false e,YT];exact Yt k r
def Um (kvs:List (κ×V)) (k:κ) (v:V):(Cp kvs k v).length<=kvs.length + 1:=by
 unfold Cp;split
 ·rw [AG];omega
 ·rw [BM,Bw,YZ];omega
theorem RelO.isSome_eq {o:Option V}{u:Option Ad} (r:RelO o u):o.isSome=u.isSome:=by
 cases o with
 | none=>cases u with
  | none=>rfl
  | some _=>exact (show False from r).elim
 | some _=>cases u with
  | none=>exact (show False from r).elim
  | some _=>rfl
theorem KV.val {kvs:List (κ×V)}{vs:List (κ×Ad)} (r:KV kvs vs) (k:κ):RelO (Cm kvs k) (IY vs k):=by
 unfold KV at r;induction r with
 | nil=>exact True.intro
 | @cons p q ps qs h t ih=>
  obtain ⟨h1,h2⟩:=h;by_cases e:p.1=k
  ·have e':q.1=k:=h1.symm.trans e;have b:IY (q::qs) k=some q.2:=by simp [IY,K2,e']
   rw [Nf e,b];exact h2
  ·have e':¬ q.1=k:=λ z=>e (h1.trans z);have b:IY (q::qs) k=IY qs k:=by simp [IY,K2,e']
   rw [Nd e,b];exact ih
theorem KV.any {kvs:List (κ×V)}{vs:List (κ×Ad)} (r:KV kvs vs) (k:κ):(kvs.any λ kv=>decide (kv.1=k))=vs.any λ kv=>decide (kv.1=k):=by
 unfold KV at r;induction r with
 | nil=>rfl
 | cons h t ih=>rw [LY,LY,ih,h.1]
theorem KV.repl {kvs:List (κ×V)}{vs:List (κ×Ad)} (r:KV kvs vs) (k:κ) {y:V}{u:Ad} (ry:RelV y u):
  KV (kvs.map λ kv=>if kv.1=k then (kv.1,y) else kv) (vs.map λ kv=>if kv.1=k then (kv.1,u) else kv):=by
 unfold KV at r ⊢;induction r with
 | nil=>exact .nil
 | @cons p q ps qs h t ih=>
  rw [Be,Be];refine .cons ?_ ih;obtain ⟨h1,h2⟩:=h;by_cases e:p.1=k
  ·rw [if_pos e,if_pos (h1.symm.trans e)];exact ⟨h1,ry⟩
  ·rw [if_neg e,if_neg (λ z=>e (h1.trans z))];exact ⟨h1,h2⟩
def KV.put {kvs:List (κ×V)}{vs:List (κ×Ad)} (r:KV kvs vs) (k:κ) {y:V}{u:Ad} (ry:RelV y u):KV (Cp kvs k y) (stored vs k u):=by
 unfold Cp stored;rw [r.any k];by_cases e:(vs.any λ kv=>decide (kv.1=k))=true
 ·rw [if_pos e,if_pos e];exact r.repl k ry
 ·rw [if_neg e,if_neg e];exact Paired.snoc r ⟨rfl,ry⟩
def KV.length {kvs:List (κ×V)}{vs:List (κ×Ad)} (r:KV kvs vs):kvs.length=vs.length:=Paired.length r
end
theorem LB {P:A8}{w:A7}{k:Ay}{u:Ad} (r:RelV (kV k) u):(De P w).is k u=true:=by
 cases k with
 | inl i=>obtain ⟨t,e⟩:=(show ∃ t,u=Value.int i t from r);subst e;exact uo P w i t
 | inr x=>obtain ⟨t,e⟩:=(show ∃ t,u=Value.str x t from r);subst e;exact uq P w x t
theorem U9 {P:A8}{w:A7}:∀ {ks:List Ay}{us:List Ad},Vals (ks.map kV) us->ItemsAre (De P w) ks us
 | [],_,r=>by rw [GI] at r;cases r;exact .nil
 | k::ks,_,r=>by
  rw [Be] at r;cases r with
  | cons h t=>exact .cons (LB h) (U9 t)
abbrev KT (H:Hp):List (List Ay×V)->List (List Ay×Addr×Ad)->Prop:=FP λ p q=>p.1=q.1/\H q.2.1=some (.tup (p.1.map kV))/\RelV p.2 q.2.2
theorem KT.val {H:Hp}{kvs:List (List Ay×V)}{xs:List (List Ay×Addr×Ad)} (r:KT H kvs xs) (k:List Ay):RelO (Cm kvs k) ((atKey xs k).map (·.2)):=by
 induction r with
 | nil=>exact True.intro
 | @cons p q ps qs h t ih=>
  obtain ⟨h1,_,h2⟩:=h;by_cases e:p.1=k
  ·have e':q.1=k:=h1.symm.trans e;have b:atKey (q::qs) k=some q.2:=by simp [atKey,K2,e']
   rw [Nf e,b];exact h2
  ·have e':¬ q.1=k:=λ z=>e (h1.trans z);have b:atKey (q::qs) k=atKey qs k:=by simp [atKey,K2,e']
   rw [Nd e,b];exact ih
theorem KT.repl {H:Hp}{kvs:List (List Ay×V)}{xs:List (List Ay×Addr×Ad)} (r:KT H kvs xs) (k:List Ay) {y:V}{u:Ad} (ry:RelV y u):
  KT H (kvs.map λ kv=>if kv.1=k then (kv.1,y) else kv) (xs.map (putAt k u)):=by
 induction r with
 | nil=>exact .nil
 | @cons p q ps qs h t ih=>
  rw [Be,Be];refine .cons ?_ ih;obtain ⟨h1,h2,h3⟩:=h;unfold putAt;by_cases e:p.1=k
  ·rw [if_pos e,if_pos (h1.symm.trans e)];exact ⟨h1,h2,ry⟩
  ·rw [if_neg e,if_neg (λ z=>e (h1.trans z))];exact ⟨h1,h2,h3⟩
def KT.put {H:Hp}{kvs:List (List Ay×V)}{xs:List (List Ay×Addr×Ad)} (r:KT H kvs xs) (k:List Ay) {b:Addr}{y:V}{u:Ad} (hb:H b=some (.tup (k.map kV))) (ry:RelV y u):
  KT H (Cp kvs k y) (storedH xs k b u):=by
 have e:(kvs.any λ kv=>decide (kv.1=k))=(atKey xs k).isSome:=by
  rw [Yt,(r.val k).isSome_eq,Tv]
 unfold Cp storedH;rw [e];by_cases q:(atKey xs k).isSome=true
 ·rw [if_pos q,if_pos q];exact r.repl k ry
 ·rw [if_neg q,if_neg q];exact Paired.snoc r ⟨rfl,hb,ry⟩
def KT.keeps {H H':Hp}{kvs:List (List Ay×V)}{xs:List (List Ay×Addr×Ad)} (r:KT H kvs xs) (ht:∀ b ys,H b=some (.tup ys)->H' b=some (.tup ys)):KT H' kvs xs:=
 Paired.mapP r λ _ _ z=>⟨z.1,ht _ _ z.2.1,z.2.2⟩
section
variable {P:A8}{w:A7}{H:Hp}{h:Heap}{a:Addr}
def VB {u:HO} (ok:HOk P w H h) (e:Rd H a u):zxr P w H h a u:=e.ok ok
def LD {kvs:List (Ay×V)} (ok:HOk P w H h) (e:Rd H a (.dK kvs)):kvs.length<=Az/\(a == EO)=false/\∃ vs,KV kvs vs/\h.DictOf (De P w) a vs:=
 show zxr P w H h a (.dK kvs) from VB ok e
def dk_of {kvs:List (Ay×V)} (ok:HOk P w H h) (e:H a=some (.dK kvs)):kvs.length<=Az/\(a == EO)=false/\∃ vs,KV kvs vs/\h.DictOf (De P w) a vs:=LD ok (.inl e)
def Lh {ks:List Ay} (ok:HOk P w H h) (e:H a=some (.tup (ks.map kV))):(FQ (De P w)).is h ks a:=by
 obtain ⟨_,its,r,o,h1,h2,n,h3⟩:=(show zxr P w H h a (.tup (ks.map kV)) from ok a _ e)
 exact ⟨o,its.toArray,n,h1,h2,h3,by simpa using U9 r⟩
def LF {kvs:List (List Ay×V)} (ok:HOk P w H h) (e:Rd H a (.dT kvs)):kvs.length<=Az/\(a == EO)=false /\
  ∃ xs,KT H kvs xs/\h.DictOfH (FQ (De P w)) a xs:=by
 obtain ⟨z,y,xs,r,o,es,ep,h1,h2,h3,h4,h5⟩:=(show zxr P w H h a (.dT kvs) from VB ok e)
 refine ⟨z,y,xs,r,o,es,ep,h1,h2,h3,h4,λ x hx=>?_,h5⟩;have all:∀ {l:List (List Ay×V)}{m:List (List Ay×Addr×Ad)},KT H l m->∀ x∈m,(FQ (De P w)).is h x.1 x.2.1:=by
  intro l m q;induction q with
  | nil=>intro x hx;exact nomatch hx
  | @cons p q ps qs hq t ih=>
   intro x hx;rcases jb4.mp hx with e | hx
   ·subst e;exact Lh ok (by rw [<- hq.1];exact hq.2.1)
   ·exact ih x hx
 exact all r x hx
def qo {kvs:List (List Ay×V)} (ok:HOk P w H h) (e:H a=some (.dT kvs)):kvs.length<=Az/\(a == EO)=false /\
  ∃ xs,KT H kvs xs/\h.DictOfH (FQ (De P w)) a xs:=LF ok (.inl e)
end
def Fg (H:Hp) (a:Addr) (y:V) (r:Option V):Prop:=
 (∃ kvs k,Rd H a (.dK kvs)/\y=kV k/\r=Cm kvs k)\/∃ kvs k b,Rd H a (.dT kvs)/\y=.ref b/\H b=some (.tup (k.map kV))/\r=Cm kvs k
def DPut (H:Hp) (a:Addr) (y v:V) (H':Hp):Prop:=
 (∃ kvs k,H a=some (.dK kvs)/\y=kV k/\kvs.length < Az/\H'=Ao H a (.dK (Cp kvs k v))) \/
 ∃ kvs k b,H a=some (.dT kvs)/\y=.ref b/\H b=some (.tup (k.map kV))/\kvs.length < Az/\H'=Ao H a (.dT (Cp kvs k v))
def DPut.t {H:Hp}{a b:Addr}{kvs:List (List Ay×V)}{k:List Ay}{v:V} (e:H a=some (.dT kvs)) (eb:H b=some (.tup (k.map kV))) (hl:kvs.length < Az):
  DPut H a (.ref b) v (Ao H a (.dT (Cp kvs k v))):=.inr ⟨kvs,k,b,e,rfl,eb,hl,rfl⟩
section
variable {X:Cx}{pins:List (Addr×Obj)}{σ:St}{H:Hp}{s:Ai}{a:Addr}{y v:V}{u r:Ad}{o:Option V}{A:BK}{E:Ad->Ai->Prop}
def Inv.big (I:Inv X pins σ H s):EO < s.heap.objs.size:=by
 have h:EA < s.heap.objs.size:=(I.mod.glob.keeps I.bk).lt;exact Nat.lt_trans (by decide) h
def yc {Q:Ad->Ai->Prop} (hu:A.units + 1 < E8) (I:Inv X pins σ H s) (g:Fg H a y (some v)) (ry:RelV y u) (h:∀ w' s',Inv X pins σ H s'->RelV v w'->Q w' s'):
  Ak (Ax X.prog X.w) A (IX (.ref a) u) Q E s:=by
 rcases g with ⟨kvs,k,e,ey,l⟩ | ⟨kvs,k,b,e,ey,eb,l⟩
 ·subst ey;obtain ⟨z,hd,vs,rel,dd⟩:=LD I.hok e;obtain ⟨w',hw,rw'⟩:=RelO.some_of (v:=v) (o:=IY vs k) (by rw [l];exact rel.val k);exact wpAny_getItem_of (LB ry) dd.mapOf hw (h w' _ (I.tok _) rw')
 ·subst ey;cases (show u=Value.ref b from ry);obtain ⟨z,hd,xs,rel,dd⟩:=LF I.hok e;obtain ⟨w',hw,rw'⟩:=RelO.some_of (v:=v) (o:=(atKey xs k).map (·.2)) (by rw [l];exact rel.val k);obtain ⟨p,hp,hp2⟩:=jc0.mp hw;refine wpAny_getItem_heap (Ny hu) (Lh I.hok eb) dd hp ?_;rw [hp2];exact h w' _ (I.tok _) rw'
def TC {Q:Ad->Ai->Prop} (hu:A.units + 1 < E8) (I:Inv X pins σ H s) (g:Fg H a y o) (ry:RelV y u) (h:∀ s',Inv X pins σ H s'->Q (.bool o.isSome) s'):
  Ak (Ax X.prog X.w) A (CV .In u (.ref a)) Q E s:=by
 rcases g with ⟨kvs,k,e,ey,l⟩ | ⟨kvs,k,b,e,ey,eb,l⟩
 ·subst ey;obtain ⟨z,hd,vs,rel,dd⟩:=LD I.hok e;refine wpAny_in_of (LB ry) hd dd.mapOf ?_;rw [<- (rel.val k).isSome_eq,<- l];exact h _ (I.tok _)
 ·subst ey;cases (show u=Value.ref b from ry);obtain ⟨z,hd,xs,rel,dd⟩:=LF I.hok e;refine wpAny_in_heap (Ny hu) (Lh I.hok eb) hd dd ?_;have q:=(rel.val k).isSome_eq;rw [Tv] at q;rw [<- q,<- l];exact h _ (I.tok _)
def jf {Q:Ad->Ai->Prop} (hu:A.units + 1 < E8) (I:Inv X pins σ H s) (g:Fg H a y o) (ry:RelV y u) (h:∀ s',Inv X pins σ H s'->Q (.bool (!o.isSome)) s'):
  Ak (Ax X.prog X.w) A (CV .NotIn u (.ref a)) Q E s:=by
 rcases g with ⟨kvs,k,e,ey,l⟩ | ⟨kvs,k,b,e,ey,eb,l⟩
 ·subst ey;obtain ⟨z,hd,vs,rel,dd⟩:=LD I.hok e;refine wpAny_notIn_of (LB ry) hd dd.mapOf ?_;rw [<- (rel.val k).isSome_eq,<- l];exact h _ (I.tok _)
 ·subst ey;cases (show u=Value.ref b from ry);obtain ⟨z,hd,xs,rel,dd⟩:=LF I.hok e;refine wpAny_notIn_heap (Ny hu) (Lh I.hok eb) hd dd ?_;have q:=(rel.val k).isSome_eq;rw [Tv] at q;rw [<- q,<- l];exact h _ (I.tok _)
def WD {h':Heap}{t':Nat}{ob:HO} (I:Inv X pins σ H s) (mu:Mo (H a)) (hs:Jb a s.heap h') (he:∃ q,h'.get? a=some q) (new:zxr X.prog X.w (Ao H a ob) h' a ob):
  Inv X pins σ (Ao H a ob) { s with heap:=h',toks:=t' }:=
 I.write (x:=a) (e:=a) mu (.inl rfl) (λ b q hb z=>(hs.2 b hb).trans z) he new
def qO {P:A8}{w:A7}{H':Hp}{h':Heap}{kvs:List (Ay×V)}{vs:List (Ay×Ad)} (z:kvs.length<=Az) (hd:(a == EO)=false) (rel:KV kvs vs) (dd:h'.DictOf (De P w) a vs):
  zxr P w H' h' a (.dK kvs):=⟨z,hd,vs,rel,dd⟩
def yd {H':Hp}{Q:Unit->Ai->Prop} (hu:A.units + 1 < E8) (I:Inv X pins σ H s) (g:DPut H a y v H') (ry:RelV y u) (rv:RelV v r) (h:∀ s',Inv X pins σ H' s'->Q () s'):
  Ak (Ax X.prog X.w) A (setItem (.ref a) u r) Q E s:=by
 rcases g with ⟨kvs,k,e,ey,l,eH⟩ | ⟨kvs,k,b,e,ey,eb,l,eH⟩
 ·subst ey eH;obtain ⟨z,hd,vs,rel,dd⟩:=dk_of I.hok e;have hz:vs.length<=Az:=by rw [<- rel.length];exact z
  have hl:(Cp kvs k v).length<=Az:=by have:=Um kvs k v;omega
  refine wpAny_setItem_pairs (hsz:=hz) (LB ry) dd λ h' dd' hs=>h _ ?_;have he:∃ q,h'.get? a=some q:=let ⟨q,_,_,hq,_⟩:=dd';⟨q,hq⟩;exact WD I (by rw [e];exact True.intro) hs he (qO hl hd (rel.put k rv) dd')
 ·subst ey eH;cases (show u=Value.ref b from ry);obtain ⟨z,hd,xs,rel,dd⟩:=qo I.hok e;have hz:xs.length<=Az:=by rw [<- Paired.length rel];exact z
  have hl:(Cp kvs k v).length<=Az:=by have:=Um kvs k v;omega
  refine wpAny_setItem_heap (hsz:=hz) (Ny hu) (Lh I.hok eb) dd λ h' dd' hs=>h _ ?_;obtain ⟨q,es,ep,hq,h2,h3,h4,_,h5⟩:=dd';refine WD I (by rw [e];exact True.intro) hs ⟨q,hq⟩ ⟨hl,hd,_,(rel.put k eb rv).keeps λ c ys ec=>?_,q,es,ep,hq,h2,h3,h4,h5⟩;rw [AH (qA ec e (λ z=>nomatch z))];exact ec
end
section
variable {X:Cx}{pins:List (Addr×Obj)}{σ:St}{H:Hp}{s:Ai}{a:Addr}{kvs:List (Ay×V)}{k:Ay}{u:Ad}{A:BK}{E:Ad->Ai->Prop}
end
def uk {X:Cx}{pins:List (Addr×Obj)}{σ:St}{H:Hp}{s:Ai}{a:Addr}{y:V}{o:Option V} (I:Inv X pins σ H s) (g:Fg H a y o):s.TypeIs (.ref a) "dict" := by
 rcases g with ⟨kvs,k,e,_,_⟩ | ⟨kvs,k,b,e,_,_,_⟩
 ·obtain ⟨_,_,vs,_,dd⟩:=LD I.hok e;exact dd.typeIs
 ·obtain ⟨_,_,xs,_,dd⟩:=LF I.hok e;exact dd.typeIs
section
variable {X:Cx}{o i e value:Expr}{pos pos' tpos:Pos}{td ty tv:TE}
end
def v9 {P:A8}{w:A7}{H:Hp} (h:Heap) (hb:EO < h.objs.size):zxr P w H (h.push { cls:=.type "dict",data:=.dict #[] }) h.objs.size (.dT []):=
 ⟨Fw _,beq_eq_false_iff_ne.mpr (BY (Cr hb)),[],.nil,_,#[],0,BR _ rfl,⟨rfl,rfl,rfl⟩,rfl,rfl,List.nodup_nil⟩
def zV:TE:=λ _ H Q=>∀ p,H p=none->Q (.ref p) (Ao H p (.dT []))
section
variable {X:Cx}{pos:Pos}
def vU:PE X (.Dict [] [] pos) zV:=λ pins s σ H Q I h=>
 wpAny_Dict_empty ⟨.ref s.heap.objs.size,_,I.laid (a:=s.heap.objs.size) (o:=.dT []) (t':=s.toks) (λ _ _ q=>Bj _ q) (AA _) (v9 s.heap I.big),rfl,h _ (I.hok.fresh (AA _))⟩
end
end L2
namespace QQ
open PySem PySem.Spec PyProof.Rows L2
section
variable {M:Fm}{vs:List Nat}{H:Hp}{fps:AW}{F:List Addr}{Q:VK}
def D3 {k:Int}{d:Nat} (h:BH M H fps vs F (.int k) d Q):Q (.int k) H:=h (.int k) H [] (λ _ _ h=>h) (by rw [Own];exact ⟨rfl,rfl⟩) (λ _ z=>nomatch z)
def IK {k:Bool}{d:Nat} (h:BH M H fps vs F (.bl k) d Q):Q (.bl k) H:=h (.bl k) H [] (λ _ _ h=>h) (by rw [Own];exact ⟨rfl,rfl⟩) (λ _ z=>nomatch z)
def vJ {k:Str}{d:Nat} (h:BH M H fps vs F (.str k) d Q):Q (.str k) H:=h (.str k) H [] (λ _ _ h=>h) (by rw [Own];exact ⟨rfl,rfl⟩) (λ _ z=>nomatch z)
def JJ {x:PV}{v:V} (h:BH M H fps vs F x (dv x) Q) (o:Own M.K H (Zv M vs fps) x 0 v []):Q v H:=h v H [] (λ _ _ h=>h) (o.dv.weak λ a z=>z.elim id λ z=>nomatch z) (λ _ z=>nomatch z)
def Ec {p:Addr}{o:HO} (hp:H p=none):∀ a u,H a=some u->Ao H p o a=some u:=λ a u h=>by rw [AH (λ e=>by rw [e,hp] at h;cases h)];exact h
def PN {xs:List PV}{ws:List V} (h:BH M H fps vs F (.lst xs) 1 Q) (o:OwnL M.K H (Zv M vs fps) xs 0 ws []) {p:Addr} (hp:H p=none):Q (.ref p) (Ao H p (.lst ws)):=by
 refine h (.ref p) _ [p] (Ec hp) ?_ λ a ha=>.inr (by rw [jb6.mp ha];exact hp);rw [Own];refine ⟨p,ws,rfl,.inr ⟨(by decide),[],Bu,rfl,(λ z=>nomatch z),?_⟩⟩;rw [Lk];exact OwnL.move (S:=λ _=>False) (λ a u ha _=>Ec hp a u ha) (λ _ z=>z.elim) (λ a hd nz z=>z.elim nz λ z=>hd (by rw [jb6.mp z];exact hp)) xs 0 ws [] (λ _ z=>nomatch z) o
def atoms:List PV->Bool
 | []=>true
 | x::xs=>O5 x && atoms xs
def Oy:PV->Bool
 | .tup xs=>atoms xs
 | x=>O5 x
def Kt:List PV->Bool
 | []=>true
 | x::xs=>Oy x && Kt xs
def d1 (xs:List PV):Nat:=if Kt xs=true then om else 1
theorem OwnL.ats {K:Frag}{H:Hp}{Z Z':Addr->Prop}:∀ {xs:List PV}{ws:List V}{d d':Nat},QQ.atoms xs=true->OwnL K H Z xs d' ws []->OwnL K H Z' xs d ws []
 | [],ws,d,_,_,h=>by rw [OwnL] at h ⊢;exact h
 | x::xs,ws,d,_,ha,h=>by
  unfold QQ.atoms at ha;rw [Bc] at ha;rw [OwnL] at h ⊢;obtain ⟨v,s,f1,f2,rfl,ef,dj,h1,h2⟩:=h;obtain ⟨rfl,rfl⟩:f1=[]/\f2=[]:=by simpa using ef.symm
  exact ⟨v,s,[],[],rfl,rfl,dj,(Own.atom ha.1 h1).2,h2.ats ha.2⟩
theorem Own.flat {K:Frag}{H:Hp}{Z Z':Addr->Prop}{x:PV}{v:V}{d d':Nat} (hx:Oy x=true) (h:Own K H Z x d' v []):Own K H Z' x d v []:=by
 cases x with
 | tup xs=>
  rw [Own] at h ⊢;obtain ⟨a,vs,e,ha,hl⟩:=h;exact ⟨a,vs,e,ha,hl.ats hx⟩
 | lst _=>cases hx
 | dct _=>cases hx
 | dcl _ _=>cases hx
 | exn _=>exact (Own.atom rfl h).2
 | emp=>exact (Own.atom rfl h).2
 | dko=>exact (Own.atom rfl h).2
 | scr _=>exact (Own.atom rfl h).2
 | non=>exact (Own.atom rfl h).2
 | bl _=>exact (Own.atom rfl h).2
 | int _=>exact (Own.atom rfl h).2
 | str _=>exact (Own.atom rfl h).2
theorem OwnL.ats0 {K:Frag}{H:Hp}{Z:Addr->Prop}:∀ {xs:List PV}{ws:List V}{d:Nat}{f:List Addr},QQ.atoms xs=true->OwnL K H Z xs d ws f->f=[]
 | [],ws,d,f,_,h=>by rw [OwnL] at h;exact h.2
 | x::xs,ws,d,f,ha,h=>by
  unfold QQ.atoms at ha;rw [Bc] at ha;rw [OwnL] at h;obtain ⟨v,s,f1,f2,rfl,rfl,dj,h1,h2⟩:=h;rw [(Own.atom (Z':=Z) (d':=d) ha.1 h1).1,h2.ats0 ha.2];rfl
def Own.flatA {K:Frag}{H:Hp}{Z Z':Addr->Prop}{x:PV}{v:V}{d d':Nat}{f:List Addr} (hx:Oy x=true) (h:Own K H Z x d v f):f=[]/\Own K H Z' x d' v []:=by
 have e:f=[]:=by
  cases x with
  | tup xs=>
   rw [Own] at h;obtain ⟨a,vs,e,ha,hl⟩:=h;exact hl.ats0 hx
  | lst _=>cases hx
  | dct _=>cases hx
  | dcl _ _=>cases hx
  | exn _=>exact (Own.atom (Z':=Z) (d':=d) rfl h).1
  | emp=>exact (Own.atom (Z':=Z) (d':=d) rfl h).1
  | dko=>exact (Own.atom (Z':=Z) (d':=d) rfl h).1
  | scr _=>exact (Own.atom (Z':=Z) (d':=d) rfl h).1
  | non=>exact (Own.atom (Z':=Z) (d':=d) rfl h).1
  | bl _=>exact (Own.atom (Z':=Z) (d':=d) rfl h).1
  | int _=>exact (Own.atom (Z':=Z) (d':=d) rfl h).1
  | str _=>exact (Own.atom (Z':=Z) (d':=d) rfl h).1
 subst e;exact ⟨rfl,h.flat hx⟩
theorem OwnL.atoms {K:Frag}{H:Hp}{Z Z':Addr->Prop}:∀ {xs:List PV}{ws:List V}{d:Nat},Kt xs=true->OwnL K H Z xs 0 ws []->OwnL K H Z' xs d ws []
 | [],ws,d,_,h=>by rw [OwnL] at h ⊢;exact h
 | x::xs,ws,d,ha,h=>by
  unfold Kt at ha;rw [Bc] at ha;rw [OwnL] at h ⊢;obtain ⟨v,s,f1,f2,rfl,ef,dj,h1,h2⟩:=h;obtain ⟨rfl,rfl⟩:f1=[]/\f2=[]:=by simpa using ef.symm
  exact ⟨v,s,[],[],rfl,rfl,dj,h1.flat ha.1,h2.atoms ha.2⟩
def JB {xs:List PV}{ws:List V} (h:BH M H fps vs F (.lst xs) (d1 xs) Q) (o:OwnL M.K H (Zv M vs fps) xs 0 ws []) {p:Addr} (hp:H p=none):Q (.ref p) (Ao H p (.lst ws)):=by
 unfold d1 at h;split at h
 ·rename_i ha;refine h (.ref p) _ [p] (Ec hp) ?_ λ a ha=>.inr (by rw [jb6.mp ha];exact hp);rw [Own];refine ⟨p,ws,rfl,.inr ⟨(by decide),[],Bu,rfl,(λ z=>nomatch z),?_⟩⟩;have o':OwnL M.K (Ao H p (.lst ws)) (Zv M vs fps) xs 0 ws []:=OwnL.move (S:=λ _=>False) (λ a u ha _=>Ec hp a u ha) (λ _ z=>z.elim) (λ _ _ n=>n) xs 0 ws [] (λ _ z=>nomatch z) o;exact o'.atoms ha
 ·exact PN h o hp
def Qq {xs:List PV}{ws:List V} (h:BH M H fps vs F (.tup xs) 0 Q) (o:OwnL M.K H (Zv M vs fps) xs 0 ws []) {p:Addr} (hp:H p=none):Q (.ref p) (Ao H p (.tup ws)):=by
 refine h (.ref p) _ [] (Ec hp) ?_ λ a ha=>nomatch ha
 rw [Own];refine ⟨p,ws,rfl,Bu,?_⟩;rw [MJ];exact OwnL.move (S:=λ _=>False) (λ a u ha _=>Ec hp a u ha) (λ _ z=>z.elim) (λ a hd nz z=>z.elim nz λ z=>nomatch z) xs 0 ws [] (λ _ z=>nomatch z) o
def Uw {xs:List PV}{ws:List V} (h:BH M H fps vs F (.lst xs) om Q) {Z:Addr->Prop} (o:OwnL M.K H Z xs om ws F) {p:Addr} (hp:H p=none):Q (.ref p) (Ao H p (.lst ws)):=by
 refine h (.ref p) _ (p::F) (Ec hp) ?_ λ a ha=>(jb4.mp ha).elim (λ e=>.inr (by rw [e];exact hp)) .inl;rw [Own];refine ⟨p,ws,rfl,.inr ⟨(by decide),F,Bu,rfl,λ z=>?_,?_⟩⟩
 ·obtain ⟨ys,e⟩:=OwnL.lsts xs om ws F o p z;rw [hp] at e;cases e
 ·exact OwnL.full xs ws F (OwnL.move (S:=λ _=>False) (Z':=Z) (λ a u ha _=>Ec hp a u ha) (λ _ z=>z.elim) (λ _ _ n=>n) xs om ws F (λ _ _ z=>z) o)
def yw {xs:List PV}{ws:List V} (h:BH M H fps vs F (.tup xs) om Q) {Z:Addr->Prop} (o:OwnL M.K H Z xs om ws F) {p:Addr} (hp:H p=none):Q (.ref p) (Ao H p (.tup ws)):=by
 refine h (.ref p) _ F (Ec hp) ?_ λ a ha=>.inl ha;rw [Own];exact ⟨p,ws,rfl,Bu,OwnL.full xs ws F (OwnL.move (S:=λ _=>False) (Z':=Z) (λ a u ha _=>Ec hp a u ha) (λ _ z=>z.elim) (λ _ _ n=>n) xs om ws F (λ _ _ z=>z) o)⟩
end
def Own.seqL {K:Frag}{H:Hp}{Z:Addr->Prop}{xs:List PV}{d:Nat}{v:V}{fp:List Addr} (h:Own K H Z (.lst xs) d v fp):∃ a ws,v=.ref a/\Bo K H a ws/\ws.length=xs.length:=by
 rw [Own] at h;obtain ⟨a,ws,e,⟨_,hr,_,ol⟩ | ⟨_,f,ha,_,_,ol⟩⟩:=h
 ·exact ⟨a,ws,e,.inl (.inl hr.1),ol.length⟩
 ·exact ⟨a,ws,e,.inl (.inl ha),ol.length⟩
def Own.seqT {K:Frag}{H:Hp}{Z:Addr->Prop}{xs:List PV}{d:Nat}{v:V}{fp:List Addr} (h:Own K H Z (.tup xs) d v fp):∃ a ws,v=.ref a/\SqT K H a ws/\ws.length=xs.length:=by
 rw [Own] at h;obtain ⟨a,ws,e,hr,ol⟩:=h;exact ⟨a,ws,e,.inl (.inl hr),ol.length⟩
def Own.coldL {K:Frag}{H:Hp}{Z:Addr->Prop}{xs:List PV}{v:V} (h:Own K H Z (.lst xs) 0 v []):∃ a ws,v=.ref a/\H a=some (.lst ws)/\OwnL K H Z xs 0 ws []:=by
 rw [Own] at h;obtain ⟨a,ws,e,⟨_,hr,_,ol⟩ | ⟨h,_⟩⟩:=h
 ·exact ⟨a,ws,e,hr.1,ol⟩
 ·exact absurd rfl h
def Own.coldT {K:Frag}{H:Hp}{Z:Addr->Prop}{xs:List PV}{v:V} (h:Own K H Z (.tup xs) 0 v []):∃ a ws,v=.ref a/\H a=some (.tup ws)/\OwnL K H Z xs 0 ws []:=by
 rw [Own] at h;exact h
theorem OwnL.app {K:Frag}{H:Hp}{Z:Addr->Prop}:∀ {xs ys:List PV}{ws us:List V},OwnL K H Z xs 0 ws []->OwnL K H Z ys 0 us []->OwnL K H Z (xs++ys) 0 (ws++us) []
 | [],ys,ws,us,h,h'=>by rw [OwnL] at h;obtain ⟨rfl,_⟩:=h;exact h'
 | x::xs,ys,ws,us,h,h'=>by
  rw [OwnL] at h;obtain ⟨v,s,f1,f2,rfl,ef,dj,h1,h2⟩:=h;obtain ⟨rfl,rfl⟩:f1=[]/\f2=[]:=by simpa using ef.symm
  show OwnL K H Z (x::(xs++ys)) 0 (v::(s++us)) [];rw [OwnL];exact ⟨v,s++us,[],[],rfl,rfl,λ _ z=>(nomatch z),h1,h2.app h'⟩
theorem OwnL.drop {K:Frag}{H:Hp}{Z:Addr->Prop}:∀ {xs:List PV}{ws:List V} (n:Nat),OwnL K H Z xs 0 ws []->OwnL K H Z (xs.drop n) 0 (ws.drop n) []
 | xs,ws,0,h=>h
 | [],ws,n + 1,h=>by rw [OwnL] at h;obtain ⟨rfl,_⟩:=h;rw [LX,LX,OwnL];exact ⟨rfl,rfl⟩
 | x::xs,ws,n + 1,h=>by
  rw [OwnL] at h;obtain ⟨v,s,f1,f2,rfl,ef,dj,h1,h2⟩:=h;obtain ⟨rfl,rfl⟩:f1=[]/\f2=[]:=by simpa using ef.symm
  exact h2.drop n
theorem OwnL.take {K:Frag}{H:Hp}{Z:Addr->Prop}:∀ {xs:List PV}{ws:List V} (n:Nat),OwnL K H Z xs 0 ws []->OwnL K H Z (xs.take n) 0 (ws.take n) []
 | xs,ws,0,h=>by rw [OQ,OQ,OwnL];exact ⟨rfl,rfl⟩
 | [],ws,n + 1,h=>by rw [OwnL] at h;obtain ⟨rfl,_⟩:=h;rw [OP,OP,OwnL];exact ⟨rfl,rfl⟩
 | x::xs,ws,n + 1,h=>by
  rw [OwnL] at h;obtain ⟨v,s,f1,f2,rfl,ef,dj,h1,h2⟩:=h;obtain ⟨rfl,rfl⟩:f1=[]/\f2=[]:=by simpa using ef.symm
  rw [Tz,Tz,OwnL];exact ⟨v,s.take n,[],[],rfl,rfl,λ _ z=>(nomatch z),h1,h2.take n⟩
def OwnL.nth {K:Frag}{H:Hp}{Z:Addr->Prop}{xs:List PV}{ws:List V}{j:Nat}{x:PV} (h:OwnL K H Z xs 0 ws []) (e:xs[j]?=some x):∃ w,ws[j]?=some w/\Own K H Z x 0 w []:=by
 have hj:j < ws.length:=by rw [h.length];exact (jb0.mp e).1
 obtain ⟨y,e1,e2⟩:=h.get (i:=j) (w:=ws[j]) (by simp [hj]);rw [e] at e1;cases e1;exact ⟨_,by simp [hj],e2⟩
def cold {M:Fm}{vs:List Nat}{H:Hp}{fps:AW}{x:PV}{d:Nat}{v:V}{fp:List Addr} (o:Own M.K H (Zt M vs fps fp) x d v fp) (hf:∀ a∈fp,¬ Zf M fps a):Own M.K H (Zv M vs fps) x 0 v []:=
 Own.freeze (λ _ z=>.inl z) x d v fp (λ a ha z=>hf a ha z.zf) o
def Bs:PV->Nat->PV->Nat->Option (PV×Nat)
 | .int i,_,.int j,_=>some (.int (i + j),om)
 | .lst xs,_,.lst ys,_=>if xs.length + ys.length<=Az then some (.lst (xs++ys),d1 (xs++ys)) else none
 | .tup xs,_,.tup ys,_=>if xs.length + ys.length<=Az then some (.tup (xs++ys),0) else none
 | _,_,_,_=>none
def Ky (p:Int->Int->Bool) (g:Int->Int->Int):PV->Nat->PV->Nat->Option (PV×Nat)
 | .int i,_,.int j,_=>if p i j then some (.int (g i j),om) else none
 | _,_,_,_=>none
def FY (i j:Int):Bool:=(decide (-(2 ^ 64) < i) && decide (i < 2 ^ 64)) || (decide (-(2 ^ 64) < j) && decide (j < 2 ^ 64))
def FZ (_ j:Int):Bool:=decide (0 < j) && decide (j.natAbs.log2 < 9000)
def Hz (_ j:Int):Bool:=decide (0 < j)
def Jr (i j:Int):Bool:=decide (0<=j) && decide (j<=1000) && decide (i.natAbs < 2 ^ 64)
def FG:=Ky (λ _ _=>true) (λ i j=>i - j)
def Eo (n:Nat) (xs:List PV):List PV:=(AK n xs).flatten
def BD:PV->Nat->PV->Nat->Option (PV×Nat)
 | .int i,_,.int j,_=>if FY i j then some (.int (i * j),om) else none
 | .lst xs,_,.int k,_=>if -(2 ^ 62)<=k/\k < 2 ^ 62/\xs.length * k.toNat<=Az then some (.lst (Eo k.toNat xs),d1 (Eo k.toNat xs)) else none
 | _,_,_,_=>none
def GW:=Ky FZ (λ i j=>i / j)
def CC:=Ky Hz (λ i j=>i % j)
def Xn:=Ky Jr (λ i j=>i ^ j.toNat)
section
variable {X:Cx}
def vR:OpR X (EN .FloorDiv) (rI (λ _ j=>0 < j/\j.natAbs.log2 < 9000) λ i j=>.int (i / j)):=LQ λ i j _ _ _ _ _ hc q=>by
 have h1:(0:Int) < j:=hc.1;exact floordiv_int (by omega) (by rw [Int.fdiv_eq_ediv_of_nonneg i (by omega)];exact q) (.inl (PyProof.noPylong_of_log2 hc.2))
end
def BL {X:Cx}{e:Expr}{t t':TE} (h:PE X e t) (i:∀ σ H Q,t' σ H Q->t σ H Q):PE X e t':=λ pins s σ H Q I q=>h pins s σ H Q I (i σ H Q q)
def JN {X:Cx}{e:Expr}{t t':TT} (h:PT X e t) (i:∀ σ H Q,t' σ H Q->t σ H Q):PT X e t':=λ pins s σ H Q I q=>h pins s σ H Q I (i σ H Q q)
def W2 {X:Cx}{e:Expr}{t t':TT} (h:PW X e t) (i:∀ σ H Q,t' σ H Q->t σ H Q):PW X e t':=λ wh pins s σ H Q I q=>h wh pins s σ H Q I (i σ H Q q)
def Wf {X:Cx}{e:List Expr}{t t':TA} (h:PA X e t) (i:∀ σ H Q,t' σ H Q->t σ H Q):PA X e t':=λ p pins s σ H Q I q=>h p pins s σ H Q I (i σ H Q q)
def CD {X:Cx}{e:Stmt}{t t':TS} (h:PS X e t) (i:∀ D σ H,t' D σ H->t D σ H):PS X e t':=λ pins s σ H D I q=>h pins s σ H D I (i D σ H q)
def Xf {X:Cx}{e:List Stmt}{t t':TS} (h:Eu X e t) (i:∀ D σ H,t' D σ H->t D σ H):Eu X e t':=λ pins s σ H D I q=>h pins s σ H D I (i D σ H q)
section
variable {X:Cx}{M:Fm}{a b:Expr}{f g:Fx}{vs vs':List Nat}{pos:Pos}{σ:St}{H:Hp}{Q:VK}
def vQ:OpR X (EN .Add) (λ x y H Q=>∃ a b ys,x=.ref a/\y=.ref b/\SqT X.K H a []/\SqT X.K H b ys/\Q (.ref b) H):=by
 intro pins s σ H x y v u Q I rx ry h;obtain ⟨a,b,ys,rfl,rfl,ha,hb,q⟩:=h;cases rx;cases ry;obtain ⟨its,r1,p1,_⟩:=I.tuple ha;obtain ⟨its2,r2,p2,_⟩:=I.tuple hb;cases r1;obtain ⟨⟨cls,dd,data,sl⟩,ho,hc,n,hd⟩:=id p1;obtain ⟨⟨cls2,dd2,data2,sl2⟩,ho2,hc2,n2,hd2⟩:=id p2;simp only at hc hd hc2 hd2;subst hc hd hc2 hd2;exact concat_meets ⟨_,ho,rfl⟩ ⟨_,ho2,rfl⟩ QO seq_tuple_add Rk Rl (Rm _ _)
  (tuple_addW0 a b _ its2.toArray n n2 dd dd2 sl sl2 rfl) ⟨ho,ho2,⟨.ref b,H,I,rfl,q⟩⟩
theorem xX (hv:∀ i∈vs,M.Ms i=false) (hK:M.K=X.K) (ha:PE X a (tE M f vs)) (hb:PE X b (tE M g vs')):PE X (.BinOp a .Add b pos) (tE M (Ab Bs f g) (vs++vs')):=by
 refine BL (RK (qrn.or (qrm.or (qnl.or vQ))) ha hb) λ σ H Q h=>EI hv (λ x d y e z c v w H fps f1 f2 Q ho o1 o2 dj nz zd lf=>?_) h;cases x with
 | int i=>
  cases y with
  | int j=>
   cases ho;rw [Own] at o1 o2;exact .inl ⟨i,j,o1.1,o2.1,D3 lf⟩
  | _=>cases ho
 | lst xs=>
  cases y with
  | lst ys=>
   dsimp only [Bs] at ho;split at ho
   ·rename_i hl;cases ho;obtain ⟨p,ws,rfl,hp,ol⟩:=(cold o1 λ a ha=>nz a (BW _ ha)).coldL;obtain ⟨p2,us,rfl,hp2,ol2⟩:=(cold o2 λ a ha=>nz a (BX _ ha)).coldL;exact .inr (.inl ⟨p,p2,ws,us,rfl,rfl,hp,hp2,by rw [ol.length,ol2.length];exact hl,λ q hq=>JB lf (ol.app ol2) hq⟩)
   ·cases ho
  | _=>cases ho
 | tup xs=>
  cases y with
  | tup ys=>
   dsimp only [Bs] at ho;split at ho
   ·rename_i hl;cases ho;obtain ⟨p,ws,rfl,hp,ol⟩:=(cold o1 λ a ha=>nz a (BW _ ha)).coldT;obtain ⟨p2,us,rfl,hp2,ol2⟩:=(cold o2 λ a ha=>nz a (BX _ ha)).coldT;by_cases hw:ws=[]
    ·subst hw;refine .inr (.inr (.inr ⟨p,p2,us,rfl,rfl,.inl (.inl hp),.inl (.inl hp2),?_⟩));have ex:xs=[]:=by
      have:=ol.length
      cases xs with
      | nil=>rfl
      | cons _ _=>simp at this
     subst ex;exact JJ (x:=.tup ys) lf (by rw [Own];exact ⟨p2,us,rfl,hp2,ol2⟩)
    ·refine .inr (.inr (.inl ⟨p,p2,ws,us,rfl,rfl,.inl (.inl hp),.inl (.inl hp2),hw,by rw [ol.length,ol2.length];exact hl,λ hu=>?_,λ hu q hq=>Qq lf (ol.app ol2) hq⟩));subst hu;have ey:ys=[]:=by
      have:=ol2.length
      cases ys with
      | nil=>rfl
      | cons _ _=>simp at this
     subst ey;rw [GJ] at lf;exact JJ (x:=.tup xs) lf (by rw [Own];exact ⟨p,ws,rfl,hp,ol⟩)
   ·cases ho
  | _=>cases ho
 | _=>cases ho
theorem OD {op:Io}{p:Int->Int->Bool}{k:Int->Int->Int}{C:Int->Int->Prop} (hop:OpR X (EN op) (rI C λ i j=>.int (k i j))) (hC:∀ i j,p i j=true->C i j) (hv:∀ i∈vs,M.Ms i=false) (ha:PE X a (tE M f vs)) (hb:PE X b (tE M g vs')):
  PE X (.BinOp a op b pos) (tE M (Ab (Ky p k) f g) (vs++vs')):=by
 refine BL (RK hop ha hb) λ σ H Q h=>EI hv (λ x d y e z c v w H fps f1 f2 Q ho o1 o2 dj nz zd lf=>?_) h;cases x with
 | int i=>
  cases y with
  | int j=>
   dsimp only [Ky] at ho;split at ho
   ·rename_i hp;cases ho;rw [Own] at o1 o2;exact ⟨i,j,o1.1,o2.1,hC i j hp,D3 lf⟩
   ·cases ho
  | _=>cases ho
 | _=>cases ho
theorem OwnL.rep {K:Frag}{H:Hp}{Z:Addr->Prop}{xs:List PV}{ws:List V} (h:OwnL K H Z xs 0 ws []):∀ n,OwnL K H Z (Eo n xs) 0 (AK n ws).flatten []
 | 0=>by
  unfold Eo;rw [Z0,Z0,Zg,Zg,OwnL];exact ⟨rfl,rfl⟩
 | n + 1=>by
  have:=h.rep n
  unfold Eo at this ⊢;rw [FC,FC,K6,K6];exact h.app this
def jF:OpR X (EN .Sub) (rI (λ _ _=>True) λ i j=>.int (i - j)):=LQ λ _ _ _ _ _ _ _ _ q=>sub_int q
def TH {i j:Int} (h:FY i j=true):CMul i j:=by
 unfold FY at h;simp only [Gd,Bc,decide_eq_true_eq] at h;exact h
theorem zR (hv:∀ i∈vs,M.Ms i=false) (ha:PE X a (tE M f vs)) (hb:PE X b (tE M g vs')):PE X (.BinOp a .Mult b pos) (tE M (Ab BD f g) (vs++vs')):=by
 refine BL (RK (qre.or xy) ha hb) λ σ H Q h=>EI hv (λ x d y e z c v w H fps f1 f2 Q ho o1 o2 dj nz zd lf=>?_) h;cases x with
 | int i=>
  cases y with
  | int j=>
   dsimp only [BD] at ho;split at ho
   ·rename_i hp;cases ho;rw [Own] at o1 o2;exact .inl ⟨i,j,o1.1,o2.1,TH hp,D3 lf⟩
   ·cases ho
  | _=>cases ho
 | lst xs=>
  cases y with
  | int k=>
   dsimp only [BD] at ho;split at ho
   ·rename_i hl;cases ho;obtain ⟨p,ws,rfl,hp,ol⟩:=(cold o1 λ a ha=>nz a (BW _ ha)).coldL;rw [Own] at o2;exact .inr ⟨p,k,ws,rfl,o2.1,hp,by omega,by omega,by rw [ol.length];exact hl.2.2,λ q hq=>JB lf (ol.rep k.toNat) hq⟩
   ·cases ho
  | _=>cases ho
 | _=>cases ho
def TK {i j:Int} (h:FZ i j=true):0 < j/\j.natAbs.log2 < 9000:=by
 unfold FZ at h;simp only [Bc,decide_eq_true_eq] at h;exact h
def TJ {i j:Int} (h:Hz i j=true):0 < j:=by
 unfold Hz at h;simpa using h
def TF {i j:Int} (h:Jr i j=true):Mv i j:=by
 unfold Jr at h;simp only [Bc,decide_eq_true_eq] at h;exact ⟨h.1.1,by omega,h.2⟩
def IM:PV->Nat->Option (PV×Nat)
 | .int i,_=>some (.int (-i),om)
 | _,_=>none
theorem zS (ha:PE X a (tE M f vs)):PE X (.UnaryOp .USub a pos) (tE M (AJ IM f) vs):=by
 refine BL (qU zM ha) λ σ H Q h=>O2 (λ x d z c v H fps f1 Q ho o1 nz zd lf=>?_) h;cases x with
 | int i=>cases ho;rw [Own] at o1;exact ⟨i,o1.1,D3 lf⟩
 | _=>cases ho
def C1 (p:Int->Int->Bool):PV->Nat->PV->Nat->Option (PV×Nat)
 | .int i,_,.int j,_=>some (.bl (p i j),om)
 | _,_,_,_=>none
theorem MW {p:Int->Int->Bool}{x y z:PV}{d e c:Nat}{v w:V}{fps:AW}{f1 f2 F:List Addr}{Z Z':Addr->Prop} (ho:C1 p x d y e=some (z,c)) (o1:Own M.K H Z x d v f1) (o2:Own M.K H Z' y e w f2) (lf:BH M H fps vs F z c Q):Ft (λ i j=>.bl (p i j)) v w H Q:=by
 cases x with
 | int i=>
  cases y with
  | int j=>
   cases ho;rw [Own] at o1 o2;exact ⟨i,j,o1.1,o2.1,IK lf⟩
  | _=>cases ho
 | _=>cases ho
def En (f:PV->Option PyData):List PV->Option (List PyData)
 | []=>some []
 | x::xs=>match f x,En f xs with
  | some a,some r=>some (a::r)
  | _,_=>none
def FW:Nat->PV->Option PyData
 | 0,_=>none
 | n + 1,x=>match x with
  | .non=>some .none
  | .bl b=>some (.bool b)
  | .int i=>some (.int i)
  | .str z=>if PyData.strOk z=true then some (.str z) else none
  | .lst xs=>(En (FW n) xs).map .list
  | .tup xs=>(En (FW n) xs).map .tuple
  | _=>none
def AD (neg:Bool) (x:PV) (_:Nat) (y:PV) (_:Nat):Option (PV×Nat):=match FW 20 x,FW 20 y with
 | some a,some b=>some (.bl (neg^^Ip a b),om)
 | _,_=>none
theorem Q0 {f:PV->Option PyData}{n:Nat} (hf:∀ x D,f x=some D->D.canLay0=true/\D.depth<=n):∀ {xs:List PV}{Ds:List PyData},En f xs=some Ds->QU Ds=true/\QB Ds<=n
 | [],Ds,h=>by cases h;rw [QU,QB];exact ⟨rfl,Fw _⟩
 | x::xs,Ds,h=>by
  unfold En at h;split at h
  ·rename_i a r h1 h2;cases h;have h3:=hf x a h1;have h4:=Q0 hf h2;rw [QU,QB,h3.1,h4.1];exact ⟨rfl,Nat.max_le.mpr ⟨h3.2,h4.2⟩⟩
  ·cases h
theorem Kc:∀ (n:Nat) (x:PV) (D:PyData),FW n x=some D->D.canLay0=true/\D.depth<=n
 | 0,_,_,h=>by cases h
 | n + 1,x,D,h=>by
  unfold FW at h;cases x with
  | non=>cases h;rw [Kj,PyData.depth] <;> first | exact ⟨rfl,Fw _⟩ | (intros;contradiction)
  | bl b=>cases h;rw [Kj,PyData.depth] <;> first | exact ⟨rfl,Fw _⟩ | (intros;contradiction)
  | int i=>cases h;rw [Kj,PyData.depth] <;> first | exact ⟨rfl,Fw _⟩ | (intros;contradiction)
  | str z=>
   dsimp only at h;split at h
   ·rename_i hz;cases h;rw [Kj,PyData.depth] <;> first | exact ⟨hz,Fw _⟩ | (intros;contradiction)
   ·cases h
  | lst xs=>
   obtain ⟨Ds,e,rfl⟩:=jc0.mp h
   have:=Q0 (Kc n) e
   rw [Kj,PyData.depth];exact ⟨this.1,Tr this.2⟩
  | tup xs=>
   obtain ⟨Ds,e,rfl⟩:=jc0.mp h
   have:=Q0 (Kc n) e
   rw [Kj,PyData.depth];exact ⟨this.1,Tr this.2⟩
  | emp=>cases h
  | dko=>cases h
  | scr ns=>cases h
  | dct _=>cases h
  | dcl _ _=>cases h
  | exn _=>cases h
theorem KN {pins:List (Addr×Obj)}{s:Ai}{Z:Addr->Prop} (I:L2.Inv X pins σ H s):∀ (n:Nat) (x:PV) (d:Nat) (v:V) (fp:List Addr) (u:Ad) (D:PyData),FW n x=some D->Own X.K H Z x d v fp->RelV v u->∃ as,Reads s.heap u D as
 | 0,_,_,_,_,_,_,h,_,_=>by cases h
 | n + 1,x,d,v,fp,u,D,h,o,r=>by
  have all:∀ (xs:List PV) (d:Nat) (ws:List V) (fp:List Addr) (us:List Ad) (Ds:List PyData),En (FW n) xs=some Ds->OwnL X.K H Z xs d ws fp->Vals ws us->∃ as,ReadsAll s.heap us Ds as:=λ xs=>by
   induction xs with
   | nil=>
    intro d ws fp us Ds h o r;cases h;rw [OwnL] at o;obtain ⟨rfl,_⟩:=o;cases r;exact ⟨_,.nil⟩
   | cons y ys ih=>
    intro d ws fp us Ds h o r;unfold En at h;split at h
    ·rename_i a rr h1 h2;cases h;rw [OwnL] at o;obtain ⟨v,s,f1,f2,rfl,_,_,o1,o2⟩:=o;cases r with
     | cons r1 r2=>
      obtain ⟨as,ra⟩:=KN I n y d v f1 _ a h1 o1 r1;obtain ⟨bs,rb⟩:=ih d s f2 _ rr h2 o2 r2;exact ⟨_,.cons ra rb⟩
    ·cases h
  unfold FW at h;cases x with
  | non=>cases h;rw [Own] at o;obtain ⟨rfl,_⟩:=o;cases r;exact ⟨_,.none⟩
  | bl b=>cases h;rw [Own] at o;obtain ⟨rfl,_⟩:=o;cases r;exact ⟨_,.bool b⟩
  | int i=>cases h;rw [Own] at o;obtain ⟨rfl,_⟩:=o;obtain ⟨t,rfl⟩:=r;exact ⟨_,.int i t⟩
  | str z=>
   dsimp only at h;split at h
   ·cases h;rw [Own] at o;obtain ⟨rfl,_⟩:=o;obtain ⟨t,rfl⟩:=r;exact ⟨_,.str z t⟩
   ·cases h
  | lst xs=>
   obtain ⟨Ds,e,rfl⟩:=jc0.mp h;have hh:∃ a ws d' f,v=.ref a/\H a=some (.lst ws)/\OwnL X.K H Z xs d' ws f:=by
    rw [Own] at o;obtain ⟨a,ws,ev,⟨_,hr,_,ol⟩ | ⟨_,f,ha,_,_,ol⟩⟩:=o
    ·exact ⟨a,ws,_,_,ev,hr.1,ol⟩
    ·exact ⟨a,ws,_,_,ev,ha,ol⟩
   obtain ⟨a,ws,d',f,rfl,ha,ol⟩:=hh;cases r;obtain ⟨its,rv,⟨ob,nn,e1,e2,e3,e4⟩,_⟩:=I.list (.inl (.inl ha));obtain ⟨as,ra⟩:=all xs d' ws f its Ds e ol rv;exact ⟨_,.list e1 e2 e4 ra⟩
  | tup xs=>
   obtain ⟨Ds,e,rfl⟩:=jc0.mp h;rw [Own] at o;obtain ⟨a,ws,rfl,ha,ol⟩:=o;cases r;obtain ⟨its,rv,⟨ob,e1,e2,nn,e4⟩,_⟩:=I.tuple (.inl (.inl ha));obtain ⟨as,ra⟩:=all xs _ ws fp its Ds e ol rv;exact ⟨_,.tuple e1 e2 e4 ra⟩
  | emp=>cases h
  | dko=>cases h
  | scr ns=>cases h
  | dct _=>cases h
  | dcl _ _=>cases h
  | exn _=>cases h
def Jl (K:Frag) (neg:Bool):R2:=λ v w H Q=>∃ x y d e Z Z' f1 f2 a b,Own K H Z x d v f1/\Own K H Z' y e w f2/\FW 20 x=some a/\FW 20 y=some b/\Q (.bl (neg^^Ip a b)) H
def xt (hu:X.A.units + 64 < E8):OpR X (CV .Eq) (Jl X.K false):=by
 intro pins s σ H v w u u' Q I rx ry h;obtain ⟨x,y,d,e,Z,Z',f1,f2,a,b,o1,o2,h1,h2,q⟩:=h;obtain ⟨as,ra⟩:=KN I 20 x d v f1 u a h1 o1 rx;obtain ⟨bs,rb⟩:=KN I 20 y e w f2 u' b h2 o2 ry;have l1:=Kc 20 x a h1;have l2:=Kc 20 y b h2;exact SeqAt.compareEq_reads ra rb l1.1 l2.1 (by have:=Tj a.depth b.depth;omega) ⟨.bl _,H,I,rfl,by simpa using q⟩
def xv (hu:X.A.units + 64 < E8):OpR X (CV .NotEq) (Jl X.K true):=by
 intro pins s σ H v w u u' Q I rx ry h;obtain ⟨x,y,d,e,Z,Z',f1,f2,a,b,o1,o2,h1,h2,q⟩:=h;obtain ⟨as,ra⟩:=KN I 20 x d v f1 u a h1 o1 rx;obtain ⟨bs,rb⟩:=KN I 20 y e w f2 u' b h2 o2 ry;have l1:=Kc 20 x a h1;have l2:=Kc 20 y b h2;exact SeqAt.compareNe_reads ra rb l1.1 l2.1 (by have:=Tj a.depth b.depth;omega) ⟨.bl _,H,I,rfl,by simpa using q⟩
def Yk {neg:Bool}{x y z:PV}{d e c:Nat}{v w:V}{fps:AW}{f1 f2 F:List Addr}{Z Z':Addr->Prop} (hK:M.K=X.K) (ho:AD neg x d y e=some (z,c)) (o1:Own M.K H Z x d v f1) (o2:Own M.K H Z' y e w f2) (lf:BH M H fps vs F z c Q):Jl X.K neg v w H Q:=by
 rw [hK] at o1 o2;unfold AD at ho;split at ho
 ·rename_i a b ea eb;cases ho;exact ⟨x,y,d,e,Z,Z',f1,f2,a,b,o1,o2,ea,eb,IK lf⟩
 ·cases ho
def Cq:List PV->Option (List Ay)
 | []=>some []
 | .int i::r=>(Cq r).map (.inl i::·)
 | .str x::r=>(Cq r).map (.inr x::·)
 | _=>none
theorem JV {K:Frag}{Z:Addr->Prop}:∀ {xs:List PV}{ws:List V}{d:Nat}{fp:List Addr}{k:List Ay},Cq xs=some k->OwnL K H Z xs d ws fp->ws=k.map kV
 | [],ws,d,fp,k,e,h=>by cases e;rw [OwnL] at h;exact h.1
 | .int i::r,ws,d,fp,k,e,h=>by
  obtain ⟨k',e1,rfl⟩:=jc0.mp e;rw [OwnL] at h;obtain ⟨v,s,f1,f2,rfl,ef,dj,h1,h2⟩:=h;rw [Own] at h1;rw [h1.1,JV e1 h2];rfl
 | .str i::r,ws,d,fp,k,e,h=>by
  obtain ⟨k',e1,rfl⟩:=jc0.mp e;rw [OwnL] at h;obtain ⟨v,s,f1,f2,rfl,ef,dj,h1,h2⟩:=h;rw [Own] at h1;rw [h1.1,JV e1 h2];rfl
 | .non::_,_,_,_,_,e,_=>by cases e
 | .bl _::_,_,_,_,_,e,_=>by cases e
 | .lst _::_,_,_,_,_,e,_=>by cases e
 | .tup _::_,_,_,_,_,e,_=>by cases e
 | .emp::_,_,_,_,_,e,_=>by cases e
 | .dko::_,_,_,_,_,e,_=>by cases e
 | .scr _::_,_,_,_,_,e,_=>by cases e
 | .dct _::_,_,_,_,_,e,_=>by cases e
 | .dcl _ _::_,_,_,_,_,e,_=>by cases e
 | .exn _::_,_,_,_,_,e,_=>by cases e
def EV:List (List Ay)->List PV->List Ay->Option PV
 | k'::ks,x::xs,k=>if k'=k then some x else EV ks xs k
 | _,_,_=>none
theorem SD {K:Frag}{Z:Addr->Prop}{k:List Ay}:∀ {ks:List (List Ay)}{xs:List PV}{ws:List V},OwnL K H Z xs 0 ws []->ks.length=xs.length->(∀ x,EV ks xs k=some x->∃ w,Cm (ks.zip ws) k=some w/\Own K H Z x 0 w [])/\(EV ks xs k=none->Cm (ks.zip ws) k=none)
 | [],[],ws,h,_=>⟨λ x e=>(nomatch e),λ _=>rfl⟩
 | [],_::_,ws,h,e=>by cases e
 | _::_,[],ws,h,e=>by cases e
 | k'::ks,x::xs,ws,h,e=>by
  rw [OwnL] at h;obtain ⟨v,s,f1,f2,rfl,ef,_,o1,o2⟩:=h;obtain ⟨rfl,rfl⟩:f1=[]/\f2=[]:=by simpa using ef.symm
  have ih:=SD (k:=k) o2 (by simpa using e);rw [OZ];unfold EV;by_cases hk:k'=k
  ·rw [if_pos hk,Nf (p:=(k',v)) hk];exact ⟨λ y ey=>by cases ey;exact ⟨v,rfl,o1⟩,λ z=>(nomatch z)⟩
  ·rw [if_neg hk,Nd (p:=(k',v)) hk];exact ih
def A5:PV->Nat->PV->Nat->Option (PV×Nat)
 | .lst xs,_,.int i,_=>(BO xs i).map λ z=>(z,dv z)
 | .tup xs,_,.int i,_=>(BO xs i).map λ z=>(z,dv z)
 | .scr ns,_,.int i,_=>(BO ns i).map λ z=>(.int z,om)
 | .str z,_,.int i,_=>if z.length<=Az then (BO z.cps.toList i).map λ c=>(.str ⟨#[c]⟩,om) else none
 | .dcl ks xs,_,.tup key,_=>(match Cq key with
  | some k=>(EV ks xs k).map λ z=>(z,dv z)
  | none=>none)
 | _,_,_,_=>none
def qf:R2:=λ x y H Q=>∃ a v,x=.ref a/\Fg H a y (some v)/\Q v H
def jR (hu:X.A.units + 1 < E8):IxR X qf:=by
 intro value slice pins s σ H x y v u Q I rx ry h hs;obtain ⟨a,w,rfl,g,q⟩:=h;obtain rfl:v=Value.ref a:=rx;exact tail_any (uk I g) PySem.F.slot_dict_getitem.lookup (yc hu I g ry λ w' s' I' rw'=>⟨w,H,I',rw',q⟩) hs
def Own.dcl0 {K:Frag}{Z:Addr->Prop}{ks:List (List Ay)}{xs:List PV}{v:V} (h:Own K H Z (.dcl ks xs) 0 v []):∃ a ws,v=.ref a/\ks.length=xs.length/\Rd H a (.dT (ks.zip ws))/\¬ Z a/\OwnL K H Z xs 0 ws []:=by
 rw [Own] at h;obtain ⟨a,ws,e,en,⟨_,hr,_,ol⟩ | ⟨h,_⟩⟩:=h
 ·exact ⟨a,ws,e,en,hr.1,hr.2,ol⟩
 ·exact absurd rfl h
theorem Sr {K:Frag}{Z:Addr->Prop}{xs:List PV}{ws:List V}{i:Int}{z:PV} (ol:OwnL K H Z xs 0 ws []) (e:BO xs i=some z):∃ w,BO ws i=some w/\Own K H Z z 0 w []:=by
 unfold BO at e ⊢;rw [ol.length];cases ej:DO xs.length i with
 | none=>rw [ej] at e;cases e
 | some j=>rw [ej] at e;exact ol.nth e
theorem W4 (hu:X.A.units + 1 < E8) (hv:∀ i∈vs,M.Ms i=false) (hK:M.K=X.K) (hs:M7 b) (ha:PE X a (tE M f vs)) (hb:PE X b (tE M g vs')):PE X (.Subscript a b pos) (tE M (Ab A5 f g) (vs++vs')):=by
 refine BL (VE (qlh.or (jR hu)) ha hb hs) λ σ H Q h=>EI hv (λ x d y e z c v w H fps f1 f2 Q ho o1 o2 dj nz zd lf=>?_) h;cases y with
 | int i=>
  rw [Own] at o2;cases x with
  | lst xs=>
   dsimp only [A5] at ho;obtain ⟨z',ez,e2⟩:=jc0.mp ho;cases e2;obtain ⟨p,ws,rfl,hp,ol⟩:=(cold o1 λ a ha=>nz a (BW _ ha)).coldL;obtain ⟨w',e1,ow⟩:=Sr ol ez;exact .inl (.inl ⟨p,ws,i,w',rfl,o2.1,.inl (.inl hp),e1,JJ lf ow⟩)
  | tup xs=>
   dsimp only [A5] at ho;obtain ⟨z',ez,e2⟩:=jc0.mp ho;cases e2;obtain ⟨p,ws,rfl,hp,ol⟩:=(cold o1 λ a ha=>nz a (BW _ ha)).coldT;obtain ⟨w',e1,ow⟩:=Sr ol ez;exact .inl (.inr (.inl ⟨p,ws,i,w',rfl,o2.1,.inl (.inl hp),e1,JJ lf ow⟩))
  | scr ns=>
   dsimp only [A5] at ho;obtain ⟨z',ez,e2⟩:=jc0.mp ho;cases e2;rw [Own] at o1;obtain ⟨_,p,rfl,hp⟩:=o1;refine .inl (.inl ⟨p,ns.map V.int,i,.int z',rfl,o2.1,?_,?_,D3 lf⟩)
   ·rw [<- hK];exact hp.elim (λ h=>.inl (.inr h)) .inr
   ·unfold BO at ez ⊢;rw [AG];cases ej:DO ns.length i with
    | none=>rw [ej] at ez;cases ez
    | some j=>
     rw [ej] at ez;show (ns.map V.int)[j]?=_;rw [CI]
     have:ns[j]?=some z':=ez
     rw [this];rfl
  | str z=>
   dsimp only [A5] at ho;split at ho
   ·rename_i hl;obtain ⟨c',ez,e2⟩:=jc0.mp ho;cases e2;rw [Own] at o1;exact .inl (.inr (.inr ⟨z,i,c',o1.1,o2.1,hl,ez,vJ lf⟩))
   ·cases ho
  | _=>cases ho
 | tup key=>
  cases x with
  | dcl ks xs=>
   dsimp only [A5] at ho;split at ho
   ·rename_i k ek;obtain ⟨z',ez,e2⟩:=jc0.mp ho;cases e2;obtain ⟨a,ws,rfl,en,hr,nz',ol⟩:=(cold o1 λ a ha=>nz a (BW _ ha)).dcl0;obtain ⟨w',ew,ow⟩:=(SD (k:=k) ol en).1 _ ez;rw [Own] at o2;obtain ⟨b,us,rfl,hb,okey⟩:=o2
    have:=JV ek okey
    subst this;exact .inr ⟨a,w',rfl,.inr ⟨_,k,b,hr,rfl,hb,ew.symm⟩,JJ lf ow⟩
   ·cases ho
  | _=>cases ho
 | _=>cases x <;> cases ho
def HF:Option Fx->Af->Rz (Option Int×Af)
 | none,ρ=>.ok (none,ρ)
 | some f,ρ=>(f ρ).bind λ (x,_,ρ1)=>match x with
  | .int i=>.ok (some i,ρ1)
  | _=>.no
def Ce (xs:List PV) (lo hi:Option Int):List PV:=(xs.drop (HT.sIx xs.length 0 lo)).take (HT.sIx xs.length xs.length hi - HT.sIx xs.length 0 lo)
def DH (x:PV) (lo hi:Option Int):Option (PV×Nat):=match x with
 | .lst xs=>some (.lst (Ce xs lo hi),d1 (Ce xs lo hi))
 | .tup xs=>if HT.sIx xs.length 0 lo=0/\HT.sIx xs.length xs.length hi=xs.length then none else some (.tup (Ce xs lo hi),0)
 | _=>none
def D0 (f:Fx) (lo hi:Option Fx):Fx:=λ ρ=>(f ρ).bind λ (x,_,ρ1)=>(HF lo ρ1).bind λ (l,ρ2)=>(HF hi ρ2).bind λ (u,ρ3)=>match DH x l u with
 | some (z,c)=>.ok (z,c,ρ3)
 | none=>.no
def tO (M:Fm):Option (Fx×List Nat)->TO
 | none=>X0
 | some (f,vs)=>VH (tE M f vs)
theorem X1 {o:Option (Fx×List Nat)}{ρ:Af}{fps:AW}{R:Option Int->Hp->Prop} (rep:Rep M ρ σ H fps)
  (q:match HF (o.map (·.1)) ρ with
   | .ok (l,ρ')=>∀ H' fps',KD M H fps H' fps'->Agr M ρ ρ'->Rep M ρ' σ H' fps'->R l H'
   | .exc c=>∀ H' fps',KD M H fps H' fps'->M.W σ c H'
   | .no=>False):tO M o σ H R:=by
 cases o with
 | none=>exact q H fps KD.refl Agr.refl rep
 | some p=>
  obtain ⟨f,vs⟩:=p;refine ⟨ρ,fps,rep,?_⟩;dsimp only [YE,HF] at q;cases ef:f ρ with
  | no=>rw [ef] at q;exact q
  | exc c=>rw [ef] at q;exact q
  | ok p=>
   obtain ⟨x,d,ρ1⟩:=p;rw [ef] at q;intro v H1 fps1 f1 k1 g1 rep1 o1 t1;dsimp only [Rz.bind] at q;cases x with
   | int i=>rw [Own] at o1;exact ⟨i,o1.1,q H1 fps1 k1 g1 rep1⟩
   | _=>exact q.elim
theorem RN {lo hi:Option (Fx×List Nat)} (hv:∀ i∈vs,M.Ms i=false) (hK:M.K=X.K) {σ:St}{H:Hp}{Q:VK} (hq:tE M (D0 f (lo.map (·.1)) (hi.map (·.1))) vs σ H Q):Vl (λ x lo hi H Q=>L4 X.K x lo hi H Q\/L3 X.K x lo hi H Q) (tE M f vs) (tO M lo) (tO M hi) σ H Q:=by
 obtain ⟨ρ,fps,rep,q⟩:=hq;refine ⟨ρ,fps,rep,?_⟩;unfold D0 at q;cases ef:f ρ with
 | no=>rw [ef] at q;exact q
 | exc c=>rw [ef] at q;exact q
 | ok p=>
  obtain ⟨x,d,ρ1⟩:=p;rw [ef] at q;intro v H1 fps1 f1 k1 g1 rep1 o1 t1;dsimp only [Rz.bind] at q;refine X1 rep1 ?_;cases el:HF (lo.map (·.1)) ρ1 with
  | no=>rw [el] at q;exact q
  | exc c=>rw [el] at q;exact λ H' fps' k=>q H' fps' (k1.trans k)
  | ok p2=>
   obtain ⟨l,ρ2⟩:=p2;rw [el] at q;intro H2 fps2 k2 g2 rep2;refine X1 rep2 ?_;dsimp only at q;cases eh:HF (hi.map (·.1)) ρ2 with
   | no=>rw [eh] at q;exact q
   | exc c=>rw [eh] at q;exact λ H' fps' k=>q H' fps' ((k1.trans k2).trans k)
   | ok p3=>
    obtain ⟨u,ρ3⟩:=p3;rw [eh] at q;intro H3 fps3 k3 g3 rep3;dsimp only at q;have kk:=k2.trans k3;have o3:=kk.stay rep1 hv o1 t1.ndj;have n3:∀ a∈f1,¬ Zf M fps3 a:=λ a ha z=>by
     rcases z with z | ⟨i,z⟩
     ·exact t1.ndj a ha (.inl z)
     ·rcases kk.sub i a z with z | z
      ·exact t1.ndj a ha (.inr ⟨i,z⟩)
      ·obtain ⟨xs,e⟩:=Own.lsts x d v f1 o1 a ha;rw [z] at e;cases e
    have back:∀ a,H3 a=none->H a=none:=λ a e=>by
     cases e':H a with
     | none=>rfl
     | some o=>exact absurd e ((k1.trans kk).dom a (by rw [e'];simp))
    cases eo:DH x l u with
    | none=>rw [eo] at q;exact q.elim
    | some zc=>
     obtain ⟨z,c⟩:=zc;rw [eo] at q;have lf:BH M H3 fps3 vs f1 z c Q:=λ w H4 fp k4 o4 hfp=>q w H4 fps3 fp ((k1.trans kk).trans (KD.grow k4)) (g1.trans (g2.trans g3)) (rep3.grow k4) o4 ⟨λ a ha=>(hfp a ha).elim (t1.new a) (back a),λ a ha=>(hfp a ha).elim (n3 a) λ z=>rep3.nz z⟩;have c0:=cold o3 n3;unfold DH at eo;cases x with
     | lst xs=>
      cases eo;obtain ⟨p,ws,rfl,hp,ol⟩:=c0.coldL;refine .inl ⟨p,ws,rfl,.inl (.inl hp),λ q hq=>?_⟩;have e:OwnL M.K H3 (Zv M vs fps3) (Ce xs l u) 0 (Dc ws l u) []:=by
       unfold Ce Dc;rw [ol.length];exact (ol.drop _).take _
      exact JB lf e hq
     | tup xs=>
      dsimp only at eo;split at eo
      ·cases eo
      ·rename_i hw;cases eo;obtain ⟨p,ws,rfl,hp,ol⟩:=c0.coldT;refine .inr ⟨p,ws,rfl,.inl (.inl hp),by rw [ol.length];exact hw,λ q hq=>?_⟩;have e:OwnL M.K H3 (Zv M vs fps3) (Ce xs l u) 0 (Dc ws l u) []:=by
        unfold Ce Dc;rw [ol.length];exact (ol.drop _).take _
       exact Qq lf e hq
     | _=>cases eo
def Lm:PV->String
 | .non => "NoneType"
 | .bl _ => "bool"
 | .int _ => "int"
 | .str _ => "str"
 | .lst _ => "list"
 | .tup _ => "tuple"
 | .emp => "dict"
 | .dko => "dict"
 | .dct _ => "dict"
 | .dcl _ _ => "dict"
 | _ => ""
def Jy (t T:String):Bool:=t == T || (t == "bool" && T == "int")
def HE:List String:=["int","bool","str","list","tuple","dict"]
def CT (T:String) (x:PV) (_:Nat):Option (PV×Nat):=match x with
 | .scr _=>none
 | .exn _=>none
 | .dct _=>none
 | .dcl _ _=>none
 | _=>some (.bl (Jy (Lm x) T),om)
theorem Own.ty {K:Frag}{Z:Addr->Prop}{x:PV}{d:Nat}{v:V}{fp:List Addr} (h:Own K H Z x d v fp) (hs:∀ ns,x≠.scr ns) (hx:∀ c,x≠.exn c) (hd1:∀ kvs,x≠.dct kvs) (hd2:∀ ks xs,x≠.dcl ks xs):TyOf K H v (.type (Lm x)):=by
 cases x with
 | non=>rw [Own] at h;rw [h.1];exact .non
 | bl b=>rw [Own] at h;rw [h.1];exact .bl b
 | int i=>rw [Own] at h;rw [h.1];exact .int i
 | str s=>rw [Own] at h;rw [h.1];exact .str s
 | emp=>rw [Own] at h;obtain ⟨_,a,e,ha⟩:=h;rw [e];exact .dK ha
 | dko=>rw [Own] at h;obtain ⟨_,a,e,_,ha⟩:=h;rw [e];exact .dK ha
 | scr ns=>exact absurd rfl (hs ns)
 | exn c=>exact absurd rfl (hx c)
 | dct kvs=>exact absurd rfl (hd1 kvs)
 | dcl ks xs=>exact absurd rfl (hd2 ks xs)
 | lst xs=>
  rw [Own] at h;obtain ⟨a,ws,e,⟨_,hr,_,_⟩ | ⟨_,f,ha,_⟩⟩:=h
  ·rw [e];exact .lst hr.1
  ·rw [e];exact .lst ha
 | tup xs=>
  rw [Own] at h;obtain ⟨a,ws,e,hr,_⟩:=h;rw [e];exact .tup hr
end
section
variable {X:Cx}{M:Fm}{a b:Expr}{f g:Fx}{fa:Fa}{vs vs':List Nat}{pos p:Pos}{σ:St}{H:Hp}{Q:VK}{e:Expr}{es:List Expr}
def xV:PA X [] (tL M Ac []):=Wf OC λ σ H Q h=>zx h
def kc (hv:∀ i∈vs,M.Ms i=false) (ha:PE X e (tE M f vs)) (hr:PA X es (tL M fa vs')) (hs:AE (e::es) X.env=(false,eval e X.env)::AE es X.env):PA X (e::es) (tL M (Ae f fa) (vs++vs')):=
 Wf (La ha hr hs) λ σ H Q h=>kA hv h
def GQ {op:List (PV×Nat)->Option (PV×Nat)}{r:List V->Hp->VK->Prop}
  (leaf:∀ xs z c ws H fps fp Q,op xs=some (z,c)->Tmps M.K H (Zv M vs fps) xs ws fp->(∀ a∈fp,¬ Zf M fps a)->(∀ a,Zf M fps a->H a≠none)->BH M H fps vs fp z c Q->r ws H Q)
  {σ:St}{H:Hp}{Q:VK} (hq:tE M (Am op fa) vs σ H Q):Rv r (tL M fa vs) σ H Q:=MP leaf hq
def BB (xs:List (PV×Nat)):Option (PV×Nat):=if xs.length<=Az then some (.lst (xs.map (·.1)),if Dk xs then om else 1) else none
def BJ (xs:List (PV×Nat)):Option (PV×Nat):=if xs.length<=Az then some (.tup (xs.map (·.1)),if Dk xs then om else 0) else none
def zQ (h:PA X es (tL M fa vs)):PE X (.List es pos) (tE M (Am BB fa) vs):=by
 refine BL (Wt h) λ σ H Q h=>MP (r:=λ xs H1 Q=>xs.length<=Az/\∀ p,H1 p=none->Q (.ref p) (Ao H1 p (.lst xs))) (λ xs z c ws H fps fp Q ho tm nz zd lf=>?_) h;unfold BB at ho;split at ho
 ·rename_i hl;refine ⟨by rw [tm.length];exact hl,λ q hq=>?_⟩;cases eo:Dk xs with
  | true=>rw [eo] at ho;cases ho;exact Uw lf (tm.all (Le eo)) hq
  | false=>rw [eo] at ho;cases ho;exact PN lf (tm.cold λ a ha z=>nz a ha z.zf) hq
 ·cases ho
def zU {x1:_} (h:PA X es (tL M fa vs)):PE X (.Tuple es x1 pos) (tE M (Am BJ fa) vs):=by
 refine BL (zu h) λ σ H Q h=>MP (r:=λ xs H1 Q=>xs.length<=Az/\∀ p,H1 p=none->Q (.ref p) (Ao H1 p (.tup xs))) (λ xs z c ws H fps fp Q ho tm nz zd lf=>?_) h;unfold BJ at ho;split at ho
 ·rename_i hl;refine ⟨by rw [tm.length];exact hl,λ q hq=>?_⟩;cases eo:Dk xs with
  | true=>rw [eo] at ho;cases ho;exact yw lf (tm.all (Le eo)) hq
  | false=>rw [eo] at ho;cases ho;exact Qq lf (tm.cold λ a ha z=>nz a ha z.zf) hq
 ·cases ho
def vm:zzw X (.builtin "isinstance") (λ xs H Q=>∃ x t T k,xs=[x,.ty T]/\TyOf X.K H x t/\Nn X.K t (.type T)=some k/\Q (.bl k) H):=by
 intro pins s σ H xs us Q I r h;obtain ⟨x,t,T,k,rfl,ty,hk,q⟩:=h;obtain ⟨u,w,rfl,r1,r2⟩:=RO r;cases r2;exact yr I r1 ty hk λ tk=>⟨.bl k,H,I.tok _,rfl,q⟩
theorem xh (K:Frag) {T:String} (hT:T∈HE) (x:PV) (hs:∀ ns,x≠.scr ns) (hx:∀ c,x≠.exn c):Nn K (.type (Lm x)) (.type T)=some (Jy (Lm x) T):=by
 simp only [HE,jb4,Gf,or_false] at hT;cases x with
 | scr ns=>exact absurd rfl (hs ns)
 | exn c=>exact absurd rfl (hx c)
 | _=>rcases hT with h | h | h | h | h | h <;> subst h <;> rfl
def zO {T:String}{x T':Str}{p1 p2:Pos} (hT:T∈HE) (hK:M.K=X.K) (ha:PE X e (tE M f vs)) (hg:Gl X "isinstance") (hm:X.mg "isinstance" = none) (hT':PE X (.Name T' p2) (tC (.ty T)))
  (hs1:AE [e,.Name T' p2] X.env=[(false,eval e X.env),(false,eval (.Name T' p2) X.env)]) (hs2:AE [Expr.Name T' p2] X.env=[(false,eval (.Name T' p2) X.env)]):
  PE X (.Call (.Name "isinstance" p1) [e,.Name T' p2] [] pos) (tE M (AJ (CT T) f) vs):=by
 refine BL (IS vm hg hm rfl (La ha (La hT' OC hs2) (by rw [hs1,hs2])) (he:=by rw [hs1,hs2]) (hpl:=by rw [hs2];rfl)) λ σ H Q h=>?_;refine O2 (r:=λ v H Q=>∃ x t T' k,[v,.ty T]=[x,.ty T']/\TyOf X.K H x t/\Nn X.K t (.type T')=some k/\Q (.bl k) H) (λ x d z c v H fps f1 Q ho o1 nz zd lf=>?_) h;have hs:∀ ns,x≠.scr ns:=λ ns e=>by subst e;cases ho
 have hx:∀ c,x≠.exn c:=λ c e=>by subst e;cases ho
 have hd1:∀ kvs,x≠.dct kvs:=λ c e=>by subst e;cases ho
 have hd2:∀ ks xs,x≠.dcl ks xs:=λ c d e=>by subst e;cases ho
 have e2:z=.bl (Jy (Lm x) T):=by
  cases x with
  | scr ns=>cases ho
  | exn c=>cases ho
  | dct _=>cases ho
  | dcl _ _=>cases ho
  | _=>cases ho;rfl
 subst e2;exact ⟨v,_,T,_,rfl,by rw [<- hK];exact o1.ty hs hx hd1 hd2,xh X.K hT x hs hx,IK lf⟩
def GY:List (PV×Nat)->Option (PV×Nat)
 | [(.lst xs,_)]=>some (.int xs.length,om)
 | [(.tup xs,_)]=>some (.int xs.length,om)
 | [(.scr ns,_)]=>some (.int ns.length,om)
 | [(.str z,_)]=>if z.length<=Az then some (.int z.length,om) else none
 | _=>none
def zP (hK:M.K=X.K) (hg:Gl X "len") (hm:X.mg "len" = none) (ha:PA X (e::es) (tL M fa vs)) (he:AE (e::es) X.env=(false,eval e X.env)::AE es X.env) (hpl:(CM pos (AE es X.env)).any (·.1)=false):
  PE X (.Call (.Name "len" p) (e::es) [] pos) (tE M (Am GY fa) vs):=by
 refine BL (IS (qap.or uw) hg hm PySem.boot_len ha (he:=he) (hpl:=hpl)) λ σ H Q h=>GQ (λ xs z c ws H fps fp Q ho tm nz zd lf=>?_) h;unfold GY at ho;split at ho
 ·rename_i xs d;cases ho;obtain ⟨v,r,f1,f2,rfl,_,_,o1,h2⟩:=tm;obtain ⟨rfl,_⟩:=h2;obtain ⟨q,us,rfl,hs,hl⟩:=o1.seqL;exact .inl ⟨q,us,rfl,.inl (by rw [<- hK];exact hs),by rw [hl];exact D3 lf⟩
 ·rename_i xs d;cases ho;obtain ⟨v,r,f1,f2,rfl,_,_,o1,h2⟩:=tm;obtain ⟨rfl,_⟩:=h2;obtain ⟨q,us,rfl,hs,hl⟩:=o1.seqT;exact .inl ⟨q,us,rfl,.inr (by rw [<- hK];exact hs),by rw [hl];exact D3 lf⟩
 ·rename_i ns d;cases ho;obtain ⟨v,r,f1,f2,rfl,_,_,o1,h2⟩:=tm;obtain ⟨rfl,_⟩:=h2;rw [Own] at o1;obtain ⟨_,q,rfl,hp⟩:=o1;refine .inl ⟨q,ns.map V.int,rfl,.inl ?_,by rw [AG];exact D3 lf⟩;rw [<- hK];exact hp.elim (λ h=>.inl (.inr h)) .inr
 ·rename_i z d;split at ho
  ·rename_i hl;cases ho;obtain ⟨v,r,f1,f2,rfl,_,_,o1,h2⟩:=tm;obtain ⟨rfl,_⟩:=h2;rw [Own] at o1;obtain ⟨rfl,_⟩:=o1;exact .inr ⟨_,rfl,hl,D3 lf⟩
  ·cases ho
 ·cases ho
def OG (k:Int->Int->Int):List (PV×Nat)->Option (PV×Nat)
 | [(.int i,_),(.int j,_)]=>some (.int (k i j),om)
 | _=>none
def Yl {k:Int->Int->Int}{xs:List (PV×Nat)}{z:PV}{c:Nat}{ws:List V}{fps:AW}{fp F:List Addr}{Z:Addr->Prop} (ho:OG k xs=some (z,c)) (tm:Tmps M.K H Z xs ws fp) (lf:BH M H fps vs F z c Q):∃ i j,ws=[.int i,.int j]/\Q (.int (k i j)) H:=by
 unfold OG at ho;split at ho
 ·rename_i i d j e;cases ho;obtain ⟨v,r,f1,f2,rfl,_,_,o1,h2⟩:=tm;obtain ⟨v2,r2,f3,f4,rfl,_,_,o2,h3⟩:=h2;obtain ⟨rfl,_⟩:=h3;rw [Own] at o1 o2;obtain ⟨rfl,_⟩:=o1;obtain ⟨rfl,_⟩:=o2;exact ⟨_,_,rfl,D3 lf⟩
 ·cases ho
def JM:List (PV×Nat)->Option (PV×Nat)
 | [(.lst xs,_)]=>some (.lst xs,d1 xs)
 | [(.tup xs,_)]=>some (.lst xs,d1 xs)
 | _=>none
def kh (hK:M.K=X.K) (hg:Gl X "list") (hm:X.mg "list" = none) (ha:PA X (e::es) (tL M fa vs)) (he:AE (e::es) X.env=(false,eval e X.env)::AE es X.env) (hpl:(CM pos (AE es X.env)).any (·.1)=false):
  PE X (.Call (.Name "list" p) (e::es) [] pos) (tE M (Am JM fa) vs):=by
 refine BL (PR ux hg hm rfl ha (he:=he) (hpl:=hpl)) λ σ H Q h=>GQ (λ xs z c ws H fps fp Q ho tm nz zd lf=>?_) h;unfold JM at ho;split at ho
 ·rename_i xs d;cases ho;obtain ⟨v,r,f1,f2,rfl,rfl,_,o1,h2⟩:=tm;obtain ⟨rfl,rfl⟩:=h2;obtain ⟨q,us,rfl,hs,ol⟩:=(cold (fp:=f1) o1 λ a ha=>nz a (BW _ ha)).coldL;exact ⟨q,us,rfl,.inl (.inl (.inl hs)),λ l hl=>JB lf ol hl⟩
 ·rename_i xs d;cases ho;obtain ⟨v,r,f1,f2,rfl,rfl,_,o1,h2⟩:=tm;obtain ⟨rfl,rfl⟩:=h2;obtain ⟨q,us,rfl,hs,ol⟩:=(cold (fp:=f1) o1 λ a ha=>nz a (BW _ ha)).coldT;exact ⟨q,us,rfl,.inr (.inl (.inl hs)),λ l hl=>JB lf ol hl⟩
 ·cases ho
end
section
variable {X:Cx}{M:Fm}{a b:Expr}{f g:Fx}{fa:Fa}{vs vs':List Nat}{pos p:Pos}{σ:St}{H:Hp}{Q:VK}{e:Expr}{es:List Expr}
def vi (hc:X.calm=true):zzw X (.builtin "all") (λ xs H Q=>∃ (p:Addr) (bs:List Bool),xs=[.ref p]/\Bo X.K H p (bs.map V.bl)/\Q (.bl (bs.all id)) H):=by
 intro pins s σ H xs us Q I r h;obtain ⟨p,bs,rfl,hq,q⟩:=h;obtain ⟨u,rfl,rx⟩:=EM r;cases rx;obtain ⟨its,rv,pl,hz⟩:=I.list hq;have hl:=rv.length;rw [AG] at hl;refine call_all_walk (wpAny_pyIter_list pl.isList ?_);have hlt:p < s.heap.objs.size:=by obtain ⟨o,n,e,_⟩:=pl;exact AS e
 have hne:p≠s.heap.objs.size:=Cr hlt;refine ⟨s.heap.objs.size,_,_,its.toArray.size,_,_,λ i=>bs.getD i true,rfl,Walks.list (A:=X.A.in1) (show X.A.in1.handled=none from I.ok.hd hc) s.heap.objs.size p hne its.toArray,⟨⟨_,BR _ rfl,rfl,rfl⟩,?_⟩,?_,λ h' tk k=>?_⟩
 ·exact pl.isList.at λ o e=>Bj _ e
 ·intro i v s' Q' E' hv hq';have hv':its[i]?=some v:=by simpa using hv
  have hi:i < bs.length:=by rw [hl];exact (jb0.mp hv').1
  obtain ⟨w,e1,e2⟩:=rv.get (i:=i) (x:=.bl bs[i]) (by simp [hi]);rw [hv'] at e1;cases e1;cases e2;refine Hu ?_
  have:bs.getD i true=bs[i]:=by simp [Tb,hi]
  dsimp only at hq';rw [this] at hq';exact hq'
 ·have I1:L2.Inv X pins σ H { s with heap:=s.heap.push { cls:=.type "list_iterator",data:=.fields #[.ref p,D8 0] } }:=I.kept (t':=s.toks) λ b o e=>Bj _ e;obtain ⟨f0,f1,f2,f3,f4,f5⟩:=I.fpOk (H':=H) (AA s.heap.objs.size) (I.hok.fresh (AA _));have I2:L2.Inv X pins σ H { s with heap:=h',toks:=tk }:=I1.turned (t':=tk) (λ b o hb e=>k b o (by simpa using hb) e) f0 f1 f3 f4 f5;refine ⟨.bl _,H,I2,rfl,?_⟩;have e:(A6 its.toArray.size).all (λ i=>bs.getD i true)=bs.all id:=by
   rw [Cd,<- hl];rw [DY];simp only [jb8,jc4,id];constructor
   ·intro h x hx;obtain ⟨i,hi,rfl⟩:=Jv hx
    have:=h i hi
    simpa [Tb,hi] using this
   ·intro h i hi;simp [Tb,hi];exact h _ (IA hi)
  rw [e];exact q
def allB:List PV->Option (List Bool)
 | []=>some []
 | .bl b::r=>(allB r).map (b::·)
 | _=>none
def EL:List (PV×Nat)->Option (PV×Nat)
 | [(.lst xs,_)]=>(allB xs).map λ bs=>(.bl (bs.all id),om)
 | _=>none
theorem X3 {K:Frag}{Z:Addr->Prop}:∀ {xs:List PV}{ws:List V}{bs:List Bool},allB xs=some bs->OwnL K H Z xs 0 ws []->ws=bs.map V.bl
 | [],ws,bs,e,h=>by cases e;rw [OwnL] at h;exact h.1
 | .bl b::r,ws,bs,e,h=>by
  obtain ⟨bs',e1,rfl⟩:=jc0.mp e;rw [OwnL] at h;obtain ⟨v,s,f1,f2,rfl,ef,dj,h1,h2⟩:=h;obtain ⟨rfl,rfl⟩:f1=[]/\f2=[]:=by simpa using ef.symm
  rw [Own] at h1;rw [h1.1,X3 e1 h2];rfl
 | .non::_,_,_,e,_=>by cases e
 | .int _::_,_,_,e,_=>by cases e
 | .str _::_,_,_,e,_=>by cases e
 | .lst _::_,_,_,e,_=>by cases e
 | .tup _::_,_,_,e,_=>by cases e
 | .emp::_,_,_,e,_=>by cases e
 | .dko::_,_,_,e,_=>by cases e
 | .scr _::_,_,_,e,_=>by cases e
 | .dct _::_,_,_,e,_=>by cases e
 | .dcl _ _::_,_,_,e,_=>by cases e
 | .exn _::_,_,_,e,_=>by cases e
def xY (hc:X.calm=true) (hg:Gl X "all") (hm:X.mg "all" = none) (ha:PA X (e::es) (tL M fa vs)) (he:AE (e::es) X.env=(false,eval e X.env)::AE es X.env) (hpl:(CM pos (AE es X.env)).any (·.1)=false):
  PE X (.Call (.Name "all" p) (e::es) [] pos) (tE M (Am EL fa) vs):=by
 refine BL (IS (vi hc) hg hm rfl ha (he:=he) (hpl:=hpl)) λ σ H Q h=>GQ (λ xs z c ws H fps fp Q ho tm nz zd lf=>?_) h;unfold EL at ho;split at ho
 ·rename_i xs d;obtain ⟨bs,eb,e2⟩:=jc0.mp ho;cases e2;obtain ⟨v,r,f1,f2,rfl,rfl,_,o1,h2⟩:=tm;obtain ⟨rfl,rfl⟩:=h2;obtain ⟨q,us,rfl,hs,ol⟩:=(cold (fp:=f1) o1 λ a ha=>nz a (BW _ ha)).coldL
  have:=X3 eb ol
  subst this;exact ⟨q,bs,rfl,.inl (.inl hs),IK lf⟩
 ·cases ho
def Fo:List PV->Option (List Int)
 | []=>some []
 | .int i::r=>(Fo r).map (i::·)
 | _=>none
theorem J9 {K:Frag}{Z:Addr->Prop}:∀ {xs:List PV}{ws:List V}{ns:List Int},Fo xs=some ns->OwnL K H Z xs 0 ws []->ws=ns.map V.int
 | [],ws,ns,e,h=>by cases e;rw [OwnL] at h;exact h.1
 | .int b::r,ws,ns,e,h=>by
  obtain ⟨ns',e1,rfl⟩:=jc0.mp e;rw [OwnL] at h;obtain ⟨v,s,f1,f2,rfl,ef,dj,h1,h2⟩:=h;obtain ⟨rfl,rfl⟩:f1=[]/\f2=[]:=by simpa using ef.symm
  rw [Own] at h1;rw [h1.1,J9 e1 h2];rfl
 | .non::_,_,_,e,_=>by cases e
 | .bl _::_,_,_,e,_=>by cases e
 | .str _::_,_,_,e,_=>by cases e
 | .lst _::_,_,_,e,_=>by cases e
 | .tup _::_,_,_,e,_=>by cases e
 | .emp::_,_,_,e,_=>by cases e
 | .dko::_,_,_,e,_=>by cases e
 | .scr _::_,_,_,e,_=>by cases e
 | .dct _::_,_,_,e,_=>by cases e
 | .dcl _ _::_,_,_,e,_=>by cases e
 | .exn _::_,_,_,e,_=>by cases e
theorem JA:∀ {ns:List Int}{its:List Ad},Vals (ns.map V.int) its->∃ xs:List (Int×Tok),its=xs.map (λ p=>Value.int p.1 p.2)/\xs.map (·.1)=ns
 | [],its,h=>by cases h;exact ⟨[],rfl,rfl⟩
 | n::ns,its,h=>by
  cases h with
  | cons r rr=>
   obtain ⟨t,rfl⟩:=r;obtain ⟨xs,rfl,rfl⟩:=JA rr;exact ⟨(n,t)::xs,rfl,rfl⟩
def wR (hc:X.calm=true):zzw X (.builtin "min") (λ xs H Q=>∃ (p:Addr) (ns:List Int),xs=[.ref p]/\Bo X.K H p (ns.map V.int)/\ns≠[]/\∀ m,m∈ns->(∀ a∈ns,m<=a)->Q (.int m) H):=by
 intro pins s σ H xs us Q I r h;obtain ⟨p,ns,rfl,hq,hn,q⟩:=h;obtain ⟨u,rfl,rx⟩:=EM r;cases rx;obtain ⟨its,rv,pl,hz⟩:=I.list hq;obtain ⟨zs,rfl,rfl⟩:=JA rv;have e:(zs.map λ p=>Value.int p.1 p.2).toArray=DW zs.toArray:=by simp [DW]
 rw [e] at pl;have h0:0 < zs.length:=by
  cases zs with
  | nil=>exact absurd rfl hn
  | cons _ _=>simp
 refine min_intList (I.ok.hd hc) pl.isList (by simpa using h0) λ v h' tk hv k=>?_;obtain ⟨l1,l2⟩:=argBest_lt (CA zs.toArray) (zs.toArray.size - 1);have hv':=hv;obtain ⟨t,rfl⟩:=Nh hv;have at':∀ j,j < zs.length->CA zs.toArray j∈zs.map (·.1):=λ j hj=>by
  unfold CA;simp [hj];exact ⟨_,IA hj⟩
 refine ⟨.int _,H,I.kept (t':=tk) k,⟨t,rfl⟩,q _ (at' _ ?_) λ a ha=>?_⟩
 ·have:zs.toArray.size=zs.length:=by simp
  omega
 ·obtain ⟨z,hz,rfl⟩:=jd6.mp ha;obtain ⟨j,hj,rfl⟩:=Jv hz;have hzs:zs.toArray.size=zs.length:=by simp
  have:=l2 j (by omega)
  have e:CA zs.toArray j=zs[j].1:=by unfold CA;simp [hj]
  rw [e] at this;exact this
def ue {prog:A8}{w:A7}{A:BK}{E:Ad->Ai->Prop}{s:Ai}{l:Addr}{xs:Array (Int×Tok)}{Q:Ad->Ai->Prop} (hh:A.handled=none) (hl:s.heap.IsTuple l (DW xs)) (hne:0 < xs.size)
  (h:∀ v h' tk,(DW xs)[argBest (λ i j=>decide (CA xs i < CA xs j)) (xs.size - 1)]?=some v->(∀ b o,s.heap.get? b=some o->h'.get? b=some o)->Q v { s with heap:=h',toks:=tk }):
  Ak (Ax prog w) A (call (.builtin "min") [.ref l]) Q E s:=by
 have hlt:l < s.heap.objs.size:=by obtain ⟨_,e,_⟩:=hl;exact AS e
 refine call_min_walk (N0 hl ?_);refine ⟨_,[_,l],[_],_,_,_,_,rfl,Walks.tuple (A:=A.in1) hh _ l (Cr hlt) (DW xs),⟨⟨_,BR _ rfl,rfl,rfl⟩,hl.push _⟩,λ c hc=>?_,by simpa [DW] using hne,CmpOf.ints_lt (CA xs) (λ _ _=>Nh),λ v h' tk hP hk=>?_⟩
 ·show c < (s.heap.push _).objs.size;rw [FR];rcases jb4.mp hc with rfl | hc
  ·exact GK _
  ·rcases jb4.mp hc with rfl | hc
   ·exact OX hlt
   ·cases hc
 ·exact h v h' tk (by simpa [DW] using hP) λ c o e=>by
   refine hk c o (λ hm=>?_) (Bj _ e);rcases jb4.mp hm with e1 | hm
   ·exact absurd (e1 ▸ AS e) (DM _)
   ·cases hm
def wU (hc:X.calm=true):zzw X (.builtin "min") (λ xs H Q=>∃ (p:Addr) (ns:List Int),xs=[.ref p]/\SqT X.K H p (ns.map V.int)/\ns≠[]/\∀ m,m∈ns->(∀ a∈ns,m<=a)->Q (.int m) H):=by
 intro pins s σ H xs us Q I r h;obtain ⟨p,ns,rfl,hq,hn,q⟩:=h;obtain ⟨u,rfl,rx⟩:=EM r;cases rx;obtain ⟨its,rv,pl,hz⟩:=I.tuple hq;obtain ⟨zs,rfl,rfl⟩:=JA rv;have e:(zs.map λ p=>Value.int p.1 p.2).toArray=DW zs.toArray:=by simp [DW]
 rw [e] at pl;have h0:0 < zs.length:=by
  cases zs with
  | nil=>exact absurd rfl hn
  | cons _ _=>simp
 refine ue (I.ok.hd hc) pl (by simpa using h0) λ v h' tk hv k=>?_;obtain ⟨l1,l2⟩:=argBest_lt (CA zs.toArray) (zs.toArray.size - 1);have hv':=hv;obtain ⟨t,rfl⟩:=Nh hv;have at':∀ j,j < zs.length->CA zs.toArray j∈zs.map (·.1):=λ j hj=>by
  unfold CA;simp [hj];exact ⟨_,IA hj⟩
 refine ⟨.int _,H,I.kept (t':=tk) k,⟨t,rfl⟩,q _ (at' _ ?_) λ a ha=>?_⟩
 ·have:zs.toArray.size=zs.length:=by simp
  omega
 ·obtain ⟨z,hz,rfl⟩:=jd6.mp ha;obtain ⟨j,hj,rfl⟩:=Jv hz;have hzs:zs.toArray.size=zs.length:=by simp
  have:=l2 j (by omega)
  have e:CA zs.toArray j=zs[j].1:=by unfold CA;simp [hj]
  rw [e] at this;exact this
def E4 (ns:List Int):Bool:=decide (ns.length<=2 ^ 20) && ns.all λ i=>decide (-(2 ^ 40)<=i) && decide (i<=2 ^ 40)
theorem yW {ns:List Int} (h:∀ i∈ns,-(2 ^ 40)<=i/\i<=2 ^ 40):∀ j:Nat,-(2 ^ 40) * (j:Int)<=(ns.take j).sum/\(ns.take j).sum<=2 ^ 40 * (j:Int):=by
 induction ns with
 | nil=>intro j;rw [OP,YN];omega
 | cons n ns ih=>
  intro j;cases j with
  | zero=>rw [OQ,YN];omega
  | succ j=>
   have:=ih (λ i hi=>h i (AM _ hi)) j
   have hn:=h n AL;rw [Tz,D9];omega
def wV (hc:X.calm=true):zzw X (.builtin "sum") (λ xs H Q=>∃ (p:Addr) (ns:List Int),xs=[.ref p]/\Bo X.K H p (ns.map V.int)/\E4 ns=true/\Q (.int ns.sum) H):=by
 intro pins s σ H xs us Q I r h;obtain ⟨p,ns,rfl,hq,hn,q⟩:=h;obtain ⟨u,rfl,rx⟩:=EM r;cases rx;obtain ⟨its,rv,pl,hz⟩:=I.list hq;obtain ⟨zs,rfl,rfl⟩:=JA rv;have e:(zs.map λ p=>Value.int p.1 p.2).toArray=DW zs.toArray:=by simp [DW]
 rw [e] at pl;unfold E4 at hn;rw [Bc] at hn;have hl:(zs.map (·.1)).length<=2 ^ 20:=by simpa using hn.1
 have hb:∀ i∈zs.map (·.1),-(2 ^ 40)<=i/\i<=2 ^ 40:=λ i hi=>by
  have:=jb8.mp hn.2 i hi
  rw [Bc] at this;exact ⟨of_decide_eq_true this.1,of_decide_eq_true this.2⟩
 have sz:zs.toArray.size=zs.length:=by simp
 rw [AG] at hl;have pre:∀ j,preSum (CA zs.toArray) j=((zs.map (·.1)).take j).sum:=λ j=>by
  rw [preSum_eq]
 refine sum_intList (I.ok.hd hc) pl.isList (λ j hj=>⟨?_,?_⟩) λ h' tk t' k=>⟨.int _,H,I.kept (t':=tk) k,⟨t',rfl⟩,?_⟩
 ·have e1:CA zs.toArray j=zs[j].1:=by unfold CA;simp [show j < zs.length by omega]
  have:=hb (zs[j]'(by omega)).1 (jd6.mpr ⟨_,IA _,rfl⟩)
  rw [e1];unfold InLong;omega
 ·have:=yW hb (j + 1)
  rw [pre];unfold InLong;omega
 ·rw [pre,sz]
  have:((zs.map (·.1)).take zs.length)=zs.map (·.1):=by
   rw [Mf];simp
  rw [this];exact q
def C5:Int->List Int->Int
 | n,[]=>n
 | n,m::r=>C5 (if m < n then m else n) r
theorem Qr:∀ (r:List Int) (n:Int),C5 n r∈n::r
 | [],n=>AL
 | m::r,n=>by
  unfold C5
  have:=Qr r (if m < n then m else n)
  rcases jb4.mp this with h | h
  ·rw [h];split
   ·exact AM _ AL
   ·exact AL
  ·exact AM _ (AM _ h)
theorem Ka:∀ (r:List Int) (n:Int),∀ a∈n::r,C5 n r<=a
 | [],n,a,h=>by
  have:a=n:=by simpa using h
  rw [this];exact Dx _
 | m::r,n,a,h=>by
  unfold C5;have ih:=Ka r (if m < n then m else n);have h1:=ih _ AL;have h2:(if m < n then m else n)<=n/\(if m < n then m else n)<=m:=by split <;> omega
  rcases jb4.mp h with e | h
  ·rw [e];omega
  ·rcases jb4.mp h with e | h
   ·rw [e];omega
   ·exact ih a (AM _ h)
def Ux {ns:List Int}{m m':Int} (h1:m∈ns) (h2:∀ a∈ns,m<=a) (h3:m'∈ns) (h4:∀ a∈ns,m'<=a):m=m':=by
 have:=h2 m' h3
 have:=h4 m h1
 omega
def GA:List (PV×Nat)->Option (PV×Nat)
 | [(.lst xs,_)]=>match Fo xs with
  | some (n::r)=>some (.int (C5 n r),om)
  | _=>none
 | [(.tup xs,_)]=>match Fo xs with
  | some (n::r)=>some (.int (C5 n r),om)
  | _=>none
 | xs=>OG (λ i j=>if j < i then j else i) xs
def Fl:List (PV×Nat)->Option (PV×Nat)
 | [(.lst xs,_)]=>match Fo xs with
  | some ns=>if E4 ns=true then some (.int ns.sum,om) else none
  | none=>none
 | [(.tup xs,_)]=>match Fo xs with
  | some ns=>some (.int ns.sum,om)
  | none=>none
 | _=>none
def wW (hc:X.calm=true):zzw X (.builtin "sum") (λ xs H Q=>∃ (p:Addr) (ns:List Int),xs=[.ref p]/\SqT X.K H p (ns.map V.int)/\Q (.int ns.sum) H):=by
 intro pins s σ H xs us Q I r h;obtain ⟨p,ns,rfl,hq,q⟩:=h;obtain ⟨u,rfl,rx⟩:=EM r;cases rx;obtain ⟨its,rv,pl,hz⟩:=I.tuple hq;obtain ⟨zs,rfl,rfl⟩:=JA rv;have e:(zs.map λ p=>Value.int p.1 p.2).toArray=DW zs.toArray:=by simp [DW]
 rw [e] at pl;refine PySem.W.ktm_sumG (I.ok.hd hc) (show s.heap.IsTuple p (DW zs.toArray) from pl) λ h' tk t' k=>⟨.int _,H,I.kept (t':=tk) k,⟨t',rfl⟩,?_⟩
 rw [preSum_eq,Mf (by simp)];exact q
def km (hc:X.calm=true) (hg:Gl X "min") (hm:X.mg "min" = none) (ha:PA X (e::es) (tL M fa vs)) (he:AE (e::es) X.env=(false,eval e X.env)::AE es X.env) (hpl:(CM pos (AE es X.env)).any (·.1)=false):
  PE X (.Call (.Name "min" p) (e::es) [] pos) (tE M (Am GA fa) vs):=by
 refine BL (IS (((yl hc).or (wR hc)).or (wU hc)) hg hm rfl ha (he:=he) (hpl:=hpl)) λ σ H Q h=>GQ (λ xs z c ws H fps fp Q ho tm nz zd lf=>?_) h;unfold GA at ho;split at ho
 ·rename_i xs d;split at ho
  ·rename_i n r eb;cases ho;obtain ⟨v,r',f1,f2,rfl,rfl,_,o1,h2⟩:=tm;obtain ⟨rfl,rfl⟩:=h2;obtain ⟨q,us,rfl,hs,ol⟩:=(cold (fp:=f1) o1 λ a ha=>nz a (BW _ ha)).coldL
   have:=J9 eb ol
   subst this;refine .inl (.inr ⟨q,n::r,rfl,.inl (.inl hs),by simp,λ m h1 h2=>?_⟩);rw [Ux h1 h2 (Qr r n) (Ka r n)];exact D3 lf
  ·cases ho
 ·rename_i xs d;split at ho
  ·rename_i n r eb;cases ho;obtain ⟨v,r',f1,f2,rfl,rfl,_,o1,h2⟩:=tm;obtain ⟨rfl,rfl⟩:=h2;obtain ⟨q,us,rfl,hs,ol⟩:=(cold (fp:=f1) o1 λ a ha=>nz a (BW _ ha)).coldT
   have:=J9 eb ol
   subst this;refine .inr ⟨q,n::r,rfl,.inl (.inl hs),by simp,λ m h1 h2=>?_⟩;rw [Ux h1 h2 (Qr r n) (Ka r n)];exact D3 lf
  ·cases ho
 ·exact .inl (.inl (Yl ho tm lf))
def kn (hc:X.calm=true) (hg:Gl X "sum") (hm:X.mg "sum" = none) (ha:PA X (e::es) (tL M fa vs)) (he:AE (e::es) X.env=(false,eval e X.env)::AE es X.env) (hpl:(CM pos (AE es X.env)).any (·.1)=false):
  PE X (.Call (.Name "sum" p) (e::es) [] pos) (tE M (Am Fl fa) vs):=by
 refine BL (IS ((wV hc).or (wW hc)) hg hm rfl ha (he:=he) (hpl:=hpl)) λ σ H Q h=>GQ (λ xs z c ws H fps fp Q ho tm nz zd lf=>?_) h;unfold Fl at ho;split at ho
 ·rename_i xs d;split at ho
  ·rename_i ns eb;split at ho
   ·rename_i hk;cases ho;obtain ⟨v,r',f1,f2,rfl,rfl,_,o1,h2⟩:=tm;obtain ⟨rfl,rfl⟩:=h2;obtain ⟨q,us,rfl,hs,ol⟩:=(cold (fp:=f1) o1 λ a ha=>nz a (BW _ ha)).coldL
    have:=J9 eb ol
    subst this;exact .inl ⟨q,ns,rfl,.inl (.inl hs),hk,D3 lf⟩
   ·cases ho
  ·cases ho
 ·rename_i xs d;split at ho
  ·rename_i ns eb;cases ho;obtain ⟨v,r',f1,f2,rfl,rfl,_,o1,h2⟩:=tm;obtain ⟨rfl,rfl⟩:=h2;obtain ⟨q,us,rfl,hs,ol⟩:=(cold (fp:=f1) o1 λ a ha=>nz a (BW _ ha)).coldT
   have:=J9 eb ol
   subst this;exact .inr ⟨q,ns,rfl,.inl (.inl hs),D3 lf⟩
  ·cases ho
 ·cases ho
abbrev Fn:=List PV->Rz (PV×Nat×PV)
def AZ (K:Frag) (_:Bool) (n:Nat) (F:Fn):Sp:=λ ws H Q _=>ws.length=n/\∃ (xs:List PV) (Zo:Addr->Prop),(∀ a,Zo a->H a≠none)/\OwnL K H Zo xs 0 ws [] /\
 (match F xs with
  | .ok (y,d,_)=>∀ v H' fp,D1 (λ _=>False) H H'->(∀ a,H a≠none->H' a≠none)->Own K H' (λ a=>Zo a\/a∈fp) y d v fp->(∀ a∈fp,H a=none/\¬ Zo a)->Q v H'
  | _=>False)
def A3 (F:Fn) (fa:Fa):Fx:=λ ρ=>(fa ρ).bind λ (xs,ρ1)=>match F (xs.map (·.1)) with
 | .ok (y,d,_)=>.ok (y,d,ρ1)
 | _=>.no
theorem k6 {F:Fn}{n:Nat} (hF:∀ xs,xs.length≠n->F xs=.no) {σ:St}{H:Hp}{Q:VK} (hq:tE M (A3 F fa) vs σ H Q):W5 (AZ M.K false n F) M.W (tL M fa vs) σ H Q:=by
 obtain ⟨ρ,fps,rep,q⟩:=hq;refine ⟨ρ,fps,rep,?_⟩;unfold A3 at q;cases ef:fa ρ with
 | no=>rw [ef] at q;exact q
 | exc c=>rw [ef] at q;exact q
 | ok p=>
  obtain ⟨xs,ρ1⟩:=p;rw [ef] at q;intro ws H1 fps1 f1 k1 g1 rep1 o1 t1;dsimp only [Rz.bind] at q;have back:∀ a,H1 a=none->H a=none:=λ a e=>by
   cases e':H a with
   | none=>rfl
   | some o=>exact absurd e (k1.dom a (by rw [e'];simp))
  show AZ M.K false n F ws H1 Q (Gs (M.W σ));have hlen:xs.length=n:=by
   by_cases e:xs.length=n
   ·exact e
   ·rw [hF (xs.map (·.1)) (by rw [AG];exact e)] at q;exact q.elim
  refine ⟨by rw [o1.length,hlen],xs.map (·.1),Zv M vs fps1,λ a z=>rep1.zdom z.zf,o1.cold λ a ha z=>t1.ndj a ha z.zf,?_⟩;cases eF:F (xs.map (·.1)) with
  | no=>rw [eF] at q;exact q
  | exc c=>rw [eF] at q;exact q
  | ok r=>
   obtain ⟨y,d,z0⟩:=r;rw [eF] at q;intro v H' fp kp dm oy hf;have kk:∀ a o,H1 a=some o->H' a=some o:=λ a o h=>kp a o h λ z=>z.elim;refine q v H' fps1 fp (k1.trans (KD.grow kk)) g1 (rep1.grow kk) oy ⟨λ a ha=>back a (hf a ha).1,λ a ha=>rep1.nz (hf a ha).1⟩
end
section
variable {prog:A8}{w:A7}{A:BK}{E:Ad->Ai->Prop}{s:Ai}
def Sh {p q:Addr}{n:Nat}{us:Array Ad}{u:Ad}{Q:Ad->Ai->Prop} (st:s.heap.IsTupleIter p q n) (ht:s.heap.IsTuple q us) (hu:us[n]?=some u) (hQ:∀ h',h'.IsTupleIter p q (n + 1)->Jb p s.heap h'->Q u { s with heap:=h' }):
  Ak (Ax prog w) A (Iq (.ref p)) Q E s:=by
 obtain ⟨ob,eb,cb,db⟩:=id st;obtain ⟨ot,et,_,nt,dt⟩:=ht;unfold Iq;refine Ah (Hv (name:=GH "__next__") st.typeIs N8 (FU N8 st.typeIs Vc ?_ (Ve _)));show Ak _ _ (field (.ref p) 0 >>= _) _ _ s;refine Ah (DX eb db (x:=.ref q) rfl ?_);show Ak _ _ (if (Value.ref q == Value.none)=true then _ else _) _ _ s;rw [if_neg (show ¬ ((Value.ref q == Value.none)=true) from Cs)];show Ak _ _ (field (.ref p) 1 >>= _) _ _ s;refine Ah (DX eb db (x:=.int n 0) rfl ?_);show Ak _ _ (seqItems? (.ref q) >>= _) _ _ s;refine Ah (Hs et dt ?_);simp only [Dy,hu];refine Ah (Km eb db (by simp) (Aq ⟨u,rfl,Aq (hQ _ ?_ (Kq ..))⟩));exact ⟨_,Kr _ eb (Rg (Ko db _)),(QT ..).trans cb,by rw [Ko db];simp [D8]⟩
def Uz {p q:Addr}{n:Nat}{us:Array Ad}{Q:Ad->Ai->Prop} (hh:A.handled=none) (st:s.heap.IsTupleIter p q n) (ht:s.heap.IsTuple q us) (hu:us[n]?=none)
  (hE:∀ h' e,Heap.ExtBut p s.heap h'->(∃ o,h'.get? e=some o/\o.cls=.type "StopIteration")->E (.ref e) { s with heap:=h' }):Ak (Ax prog w) A (Iq (.ref p)) Q E s:=by
 obtain ⟨ob,eb,cb,db⟩:=id st;obtain ⟨ot,et,_,nt,dt⟩:=ht;unfold Iq;refine Ah (Hv (name:=GH "__next__") st.typeIs N8 (FU N8 st.typeIs Vc ?_ (Ve _)));show Ak _ _ (field (.ref p) 0 >>= _) _ _ s;refine Ah (DX eb db (x:=.ref q) rfl ?_);show Ak _ _ (if (Value.ref q == Value.none)=true then _ else _) _ _ s;rw [if_neg (show ¬ ((Value.ref q == Value.none)=true) from Cs)];show Ak _ _ (field (.ref p) 1 >>= _) _ _ s;refine Ah (DX eb db (x:=.int n 0) rfl ?_);show Ak _ _ (seqItems? (.ref q) >>= _) _ _ s;refine Ah (Hs et dt ?_);simp only [Dy,hu];refine Ah (wpAny_rule (Ah (Km eb db (by simp) ?_)));show Ak _ _ (newExc (.type "StopIteration") [] >>= _) _ _ _;refine Ah ?_;simp only [newExc,newTuple];refine Ah (El ?_ (by size_fits));refine Ah (m:=Kk _ _) (wpAny_of_eq (a:=Value.none) (by first | rfl | (simp only [Kk];rfl)) ?_);refine El ?_ (by size_fits);simp only [raiseNew];refine Ah (wpAny_handled ?_)
 first | rw [show A.in1.handled=none from hh] | rw [hh];skip
 refine Ah (Aq (wpAny_throw (hE _ _ (((Kq ..).extBut.push _).push _) ⟨_,BR _ rfl,rfl⟩)))
structure ZApart (zz ti to p1 p2 q1 q2:Addr):Prop where
 ne1:ti≠zz
 ne2:to≠zz
 ne3:p1≠zz
 ne4:p2≠zz
 ne5:ti≠to
 ne6:ti≠p1
 ne7:ti≠p2
 ne8:to≠p1
 ne9:to≠p2
 nea:p1≠p2
 neb:q1≠zz
 nec:q1≠to
 ned:q1≠p1
 nee:q1≠p2
 nef:q2≠zz
 neg:q2≠to
 neh:q2≠p1
 nei:q2≠p2
section
variable {zz ti to p1 p2 q1 q2:Addr}{n1 n2:Nat}{us vs:Array Ad}{u v a b:Ad}
def kR {Q:Ad->Ai->Prop} (D:ZApart zz ti to p1 p2 q1 q2) (hz:Dn s.heap zz ti to .none) (hi:Cu s.heap ti (.ref p1) (.ref p2)) (ho:Cu s.heap to a b) (h1:s.heap.IsTupleIter p1 q1 n1) (h2:s.heap.IsTupleIter p2 q2 n2) (t1:s.heap.IsTuple q1 us) (t2:s.heap.IsTuple q2 vs) (hu:us[n1]?=some u) (hv:vs[n2]?=some v)
  (hQ:∀ h',Dn h' zz ti to (D8 s.heap.objs.size)->Cu h' to u v->h'.IsTupleIter p1 q1 (n1 + 1)->h'.IsTupleIter p2 q2 (n2 + 1)->Cu h' s.heap.objs.size u v->h'.objs.size=s.heap.objs.size + 1->(∀ c o,c≠zz->c≠to->c≠p1->c≠p2->s.heap.get? c=some o->h'.get? c=some o)->Q (.ref s.heap.objs.size) { s with heap:=h' }):
  Ak (Ax prog w) A (vl0.«zip.__next__» ⟨[.ref zz],[]⟩) (λ fin s'=>∃ v,fin=.done (.ret v)/\Q v s') E s:=by
 show Ak _ _ (field (.ref zz) 2 >>= _) _ _ _;refine Ah (DX hz rfl (x:=.bool false) rfl ?_);show Ak _ _ (field (.ref zz) 3 >>= _) _ _ _;refine Ah (DX hz rfl (x:=.ref ti) rfl ?_);refine Ah (Hs hi rfl ?_);show Ak _ _ (NF (.ref zz) >>= _) _ _ _;refine Ah ?_;unfold NF;refine Ah (DX hz rfl (x:=.none) rfl (Aq ?_));simp only [if_true];refine Ah (wpAny_rule ?_);refine Ah (DX hz rfl (x:=.ref to) rfl ?_);refine Ah (Kp hz (by simp) λ g1 y1 k1=>?_);replace y1:Dn g1 zz ti to .ellipsis:=y1;refine Ah ?_;simp only [OU,YV,Ze,YY];refine Ah (Ah (Nl ?_));show Ak _ _ (Iq (.ref p1) >>= _) _ _ _;refine Ah (Sh (h1.extBut k1.extBut D.ne3) (t1.extBut k1.extBut D.neb) hu λ g2 m2 k2=>Aq ?_);have o2:Cu g2 to a b:=k2.extBut _ _ D.ne8 (k1.extBut _ _ D.ne2 ho);refine Ah (Hs o2 rfl ?_);refine Ah (Rf o2 λ g3 o3 k3=>?_);replace o3:Cu g3 to u b:=o3;refine Ah (Nj (Aq ?_));refine Ah (Ah (Nl ?_));show Ak _ _ (Iq (.ref p2) >>= _) _ _ _;refine Ah (Sh (((h2.extBut k1.extBut D.ne4).extBut k2.extBut D.nea.symm).extBut k3.extBut D.ne9.symm) (((t2.extBut k1.extBut D.nef).extBut k2.extBut D.neh).extBut k3.extBut D.neg) hv λ g4 m4 k4=>Aq ?_);have o4:Cu g4 to u b:=k4.extBut _ _ D.ne9 o3;refine Ah (Hs o4 rfl ?_);refine Ah (Rf o4 λ g5 o5 k5=>?_);replace o5:Cu g5 to u v:=o5;refine Ah (Nj (Aq (Aq ?_)));refine Ah (Hs o5 rfl ?_);refine Ah (wpAny_newTuple ?_);have sz:g5.objs.size=s.heap.objs.size:=by rw [k5.1,k4.1,k3.1,k2.1,k1.1]
 have y5:Dn g5 zz ti to .ellipsis:=k5.extBut _ _ D.ne2.symm (k4.extBut _ _ D.ne4.symm (k3.extBut _ _ D.ne2.symm (k2.extBut _ _ D.ne3.symm y1)));have kk:∀ c o,c≠zz->c≠to->c≠p1->c≠p2->s.heap.get? c=some o->g5.get? c=some o:=λ c o c1 c2 c3 c4 e=>k5.extBut _ _ c2 (k4.extBut _ _ c4 (k3.extBut _ _ c2 (k2.extBut _ _ c3 (k1.extBut _ _ c1 e))));have m1:g5.IsTupleIter p1 q1 (n1 + 1):=((m2.extBut k3.extBut D.ne8.symm).extBut k4.extBut D.nea).extBut k5.extBut D.ne8.symm;have m5:g5.IsTupleIter p2 q2 (n2 + 1):=m4.extBut k5.extBut D.ne9.symm;have zlt:zz < g5.objs.size:=AS y5;show Ak _ _ (Vk (.ref zz) (.ref g5.objs.size) >>= _) _ _ _;refine Ah ?_;unfold Vk;have y6:Dn (g5.push { cls:=.type "tuple",data:=.seq #[u,v] }) zz ti to .ellipsis:=Bj _ y5;refine Ah (Kp y6 (by simp) λ g7 y7 k7=>?_);replace y7:Dn g7 zz ti to (D8 g5.objs.size):=y7;refine Kp y7 (by simp) λ g8 y8 k8=>?_;replace y8:Dn g8 zz ti to (D8 g5.objs.size):=y8;have up:∀ c o,c≠zz->g5.get? c=some o->g8.get? c=some o:=λ c o c1 e=>k8.extBut _ _ c1 (k7.extBut _ _ c1 (Bj _ e));have t8:Cu g8 g5.objs.size u v:=k8.extBut _ _ (EC zlt) (k7.extBut _ _ (EC zlt) (BR _ rfl));have z8:g8.objs.size=g5.objs.size + 1:=by rw [k8.1,k7.1,FR]
 rw [sz] at y8 t8 z8;refine Aq ⟨_,rfl,?_⟩;show Q (.ref g5.objs.size) _;rw [sz];exact hQ g8 y8 (up _ _ D.ne2 o5) (m1.at λ o e=>up _ o D.ne3 e) (m5.at λ o e=>up _ o D.ne4 e) t8 z8 λ c o c1 c2 c3 c4 e=>up c o c1 (kk c o c1 c2 c3 c4 e)
theorem jt {Q:Fin->Ai->Prop} (hh:A.handled=none) (D:ZApart zz ti to p1 p2 q1 q2) (hz:Dn s.heap zz ti to .none) (hi:Cu s.heap ti (.ref p1) (.ref p2)) (ho:Cu s.heap to a b) (h1:s.heap.IsTupleIter p1 q1 n1) (h2:s.heap.IsTupleIter p2 q2 n2) (t1:s.heap.IsTuple q1 us) (t2:s.heap.IsTuple q2 vs) (hend:us[n1]?=none\/vs[n2]?=none)
  (hE:∀ h' e,(∀ c o,c≠zz->c≠to->c≠p1->c≠p2->s.heap.get? c=some o->h'.get? c=some o)->(∃ o,h'.get? e=some o/\o.cls=.type "StopIteration")->E (.ref e) { s with heap:=h' }):
  Ak (Ax prog w) A (vl0.«zip.__next__» ⟨[.ref zz],[]⟩) Q E s:=by
 show Ak _ _ (field (.ref zz) 2 >>= _) _ _ _;refine Ah (DX hz rfl (x:=.bool false) rfl ?_);show Ak _ _ (field (.ref zz) 3 >>= _) _ _ _;refine Ah (DX hz rfl (x:=.ref ti) rfl ?_);refine Ah (Hs hi rfl ?_);show Ak _ _ (NF (.ref zz) >>= _) _ _ _;refine Ah ?_;unfold NF;refine Ah (DX hz rfl (x:=.none) rfl (Aq ?_));simp only [if_true];refine Ah (wpAny_rule ?_);refine Ah (DX hz rfl (x:=.ref to) rfl ?_);refine Ah (Kp hz (by simp) λ g1 y1 k1=>?_);replace y1:Dn g1 zz ti to .ellipsis:=y1;refine Ah ?_;simp only [OU,YV,Ze,YY];refine Ah (Ah (Nl ?_));show Ak _ _ (Iq (.ref p1) >>= _) _ _ _;cases hu:us[n1]? with
 | none=>
  refine Ah (Uz hh (h1.extBut k1.extBut D.ne3) (t1.extBut k1.extBut D.neb) hu λ g2 e k2 ⟨oe,xe,ce⟩=>?_);have y2:Dn g2 zz ti to .ellipsis:=k2 _ _ D.ne3.symm y1;have ne:e≠zz:=λ x=>by subst x;rw [y2] at xe;cases xe;simp at ce
  refine Kp y2 (by simp) λ g3 _ k3=>hE g3 e (λ c o c1 _ c3 _ x=>k3.extBut _ _ c1 (k2 _ _ c3 (k1.extBut _ _ c1 x))) ⟨oe,k3.extBut _ _ ne xe,ce⟩
 | some u=>
  have hv:vs[n2]?=none:=by rcases hend with h | h;rw [hu] at h;cases h;exact h
  refine Ah (Sh (h1.extBut k1.extBut D.ne3) (t1.extBut k1.extBut D.neb) hu λ g2 m2 k2=>Aq ?_);have o2:Cu g2 to a b:=k2.extBut _ _ D.ne8 (k1.extBut _ _ D.ne2 ho);refine Ah (Hs o2 rfl ?_);refine Ah (Rf o2 λ g3 o3 k3=>?_);refine Ah (Nj (Aq ?_));refine Ah (Ah (Nl ?_));show Ak _ _ (Iq (.ref p2) >>= _) _ _ _;refine Ah (Uz hh (((h2.extBut k1.extBut D.ne4).extBut k2.extBut D.nea.symm).extBut k3.extBut D.ne9.symm) (((t2.extBut k1.extBut D.nef).extBut k2.extBut D.neh).extBut k3.extBut D.neg) hv λ g4 e k4 ⟨oe,xe,ce⟩=>?_);have y4:Dn g4 zz ti to .ellipsis:=k4 _ _ D.ne4.symm (k3.extBut _ _ D.ne2.symm (k2.extBut _ _ D.ne3.symm y1));have ne:e≠zz:=λ x=>by subst x;rw [y4] at xe;cases xe;simp at ce
  refine Kp y4 (by simp) λ g5 _ k5=>hE g5 e (λ c o c1 c2 c3 c4 x=>k5.extBut _ _ c1 (k4 _ _ c4 (k3.extBut _ _ c2 (k2.extBut _ _ c3 (k1.extBut _ _ c1 x))))) ⟨oe,k5.extBut _ _ ne xe,ce⟩
def jC {Q:Option Ad->Ai->Prop} (D:ZApart zz ti to p1 p2 q1 q2) (hz:Dn s.heap zz ti to .none) (hi:Cu s.heap ti (.ref p1) (.ref p2)) (ho:Cu s.heap to a b) (h1:s.heap.IsTupleIter p1 q1 n1) (h2:s.heap.IsTupleIter p2 q2 n2) (t1:s.heap.IsTuple q1 us) (t2:s.heap.IsTuple q2 vs) (hu:us[n1]?=some u) (hv:vs[n2]?=some v)
  (hQ:∀ h',Dn h' zz ti to (D8 s.heap.objs.size)->Cu h' to u v->h'.IsTupleIter p1 q1 (n1 + 1)->h'.IsTupleIter p2 q2 (n2 + 1)->Cu h' s.heap.objs.size u v->h'.objs.size=s.heap.objs.size + 1->(∀ c o,c≠zz->c≠to->c≠p1->c≠p2->s.heap.get? c=some o->h'.get? c=some o)->Q (some (.ref s.heap.objs.size)) { s with heap:=h' }):
  Ak (Ax prog w) A (Ei (.ref zz)) Q E s:=by
 have hT:s.TypeIs (.ref zz) "zip" := ⟨_,hz,rfl⟩
 unfold Ei;exact Ah (Ki (Hv (name:=GH "__next__") hT Np (FU Np hT F.entry_zip_next (kR D hz hi ho h1 h2 t1 t2 hu hv λ h' a1 a2 a3 a4 a5 a6 a7=>Aq (hQ h' a1 a2 a3 a4 a5 a6 a7)) (F.args_zip_next_1 _))))
def uu {Q:Option Ad->Ai->Prop} (hh:A.handled=none) (D:ZApart zz ti to p1 p2 q1 q2) (hz:Dn s.heap zz ti to .none) (hi:Cu s.heap ti (.ref p1) (.ref p2)) (ho:Cu s.heap to a b) (h1:s.heap.IsTupleIter p1 q1 n1) (h2:s.heap.IsTupleIter p2 q2 n2) (t1:s.heap.IsTuple q1 us) (t2:s.heap.IsTuple q2 vs) (hend:us[n1]?=none\/vs[n2]?=none)
  (hQ:∀ h',(∀ c o,c≠zz->c≠to->c≠p1->c≠p2->s.heap.get? c=some o->h'.get? c=some o)->Q none { s with heap:=h' }):Ak (Ax prog w) A (Ei (.ref zz)) Q E s:=by
 have hT:s.TypeIs (.ref zz) "zip" := ⟨_,hz,rfl⟩
 unfold Ei;refine Ah (Ki (Hv (name:=GH "__next__") hT Np (FU Np hT F.entry_zip_next (jt hh D hz hi ho h1 h2 t1 t2 hend λ h' e hk ⟨o,xo,xc⟩=>?_) (F.args_zip_next_1 _))));exact Ah (Lr (T := "StopIteration") (b:=true) ⟨o,xo,xc⟩ Q9 (Aq (hQ _ hk)))
end
abbrev Hf (h:Heap) (q:Addr):Heap:=h.push { cls:=.type "tuple_iterator",data:=.fields #[.ref q,.int 0 0] }
abbrev He (h:Heap) (q r:Addr):Heap:=(Hf h q).push { cls:=.type "tuple_iterator",data:=.fields #[.ref r,.int 0 0] }
abbrev Hd (h:Heap) (q r:Addr):Heap:=(He h q r).push { cls:=.type "tuple",data:=.seq #[.ref h.objs.size,.ref (Hf h q).objs.size] }
abbrev Hc (h:Heap) (q r:Addr):Heap:=(Hd h q r).push { cls:=.type "tuple",data:=.seq #[.none,.none] }
abbrev Ee (h:Heap) (q r:Addr):Heap:=(Hc h q r).push { cls:=.type "zip",data:=.fields #[.none,.bool false,.bool false,.ref (He h q r).objs.size,.ref (Hd h q r).objs.size] }
def vN (q r:Addr) (us vs:Array Ad):Meets (vl0.«zip.__new__» ⟨[.type "zip",.ref q,.ref r],[]⟩) (λ _ R s=>s.heap.IsTuple q us/\s.heap.IsTuple r vs/\R (.ok (.ret (.ref (Hc s.heap q r).objs.size))) { s with heap:=Ee s.heap q r }):=
 .of_wp λ prog w A R s h=>by
  obtain ⟨hp,g,d,tk,os⟩:=s;obtain ⟨t1,t2,h⟩:=h;have hsub:=sub_zip;have T1:Heap.IsTuple (Shared.heap ⟨hp,g,d,tk,os⟩) q us:=t1;have T2:Heap.IsTuple (Shared.heap ⟨hp.push { cls:=.type "tuple_iterator",data:=.fields #[.ref q,.int 0 0] },g,d,tk,os⟩) r vs:=Heap.IsTuple.push t2 _
  wp_walk using N0 T1,N0 T2
  exact ⟨_,rfl,h⟩
def ja {q r:Addr}{us vs:Array Ad}{Q:Ad->Ai->Prop} (t1:s.heap.IsTuple q us) (t2:s.heap.IsTuple r vs)
  (h:∀ h',Dn h' (s.heap.objs.size + 4) (s.heap.objs.size + 2) (s.heap.objs.size + 3) .none->Cu h' (s.heap.objs.size + 2) (.ref s.heap.objs.size) (.ref (s.heap.objs.size + 1))->Cu h' (s.heap.objs.size + 3) .none .none->h'.IsTupleIter s.heap.objs.size q 0->h'.IsTupleIter (s.heap.objs.size + 1) r 0->h'.objs.size=s.heap.objs.size + 5->(∀ c o,s.heap.get? c=some o->h'.get? c=some o)->Q (.ref (s.heap.objs.size + 4)) { s with heap:=h' }):
  Ak (Ax prog w) A (call (.type "zip") [.ref q,.ref r]) Q E s:=by
 refine callType_new F.called_zip (by decide) (F.typeCall_zip_2 _ _) (F.newCall_zip_2 _ _) (λ obj=>F.args_object_init_3 obj _ _) F.entry_zip_new (vN q r us vs) ⟨t1,t2,?_⟩;have z1:(Hf s.heap q).objs.size=s.heap.objs.size + 1:=FR ..;have z2:(He s.heap q r).objs.size=s.heap.objs.size + 2:=by rw [FR,z1]
 have z3:(Hd s.heap q r).objs.size=s.heap.objs.size + 3:=by rw [FR,z2]
 have z4:(Hc s.heap q r).objs.size=s.heap.objs.size + 4:=by rw [FR,z3]
 have z5:(Ee s.heap q r).objs.size=s.heap.objs.size + 5:=by rw [FR,z4]
 have g5:(Ee s.heap q r).get? (Hc s.heap q r).objs.size=some _:=BR _ rfl;have g4:(Ee s.heap q r).get? (Hd s.heap q r).objs.size=some _:=Bj _ (BR _ rfl);have g3:(Ee s.heap q r).get? (He s.heap q r).objs.size=some _:=Bj _ (Bj _ (BR _ rfl));have g2:(Ee s.heap q r).get? (Hf s.heap q).objs.size=some _:=Bj _ (Bj _ (Bj _ (BR _ rfl)));have g1:(Ee s.heap q r).get? s.heap.objs.size=some _:=Bj _ (Bj _ (Bj _ (Bj _ (BR _ rfl))));show _/\_;rw [z2,z3,z4] at g5;rw [z1,z2] at g3;rw [z3] at g4;rw [z1] at g2;rw [z4];exact ⟨⟨_,g5,rfl⟩,h _ g5 g3 g4 ⟨_,g1,rfl,rfl⟩ ⟨_,g2,rfl,rfl⟩ z5 λ c o x=>Bj _ (Bj _ (Bj _ (Bj _ (Bj _ x))))⟩
end
section
variable {X:Cx}{pins:List (Addr×Obj)}{σ:St}{H:Hp}{s:Ai}{h':Heap}
def Qc {fp:List Addr}{a:Addr}{o:HO}{t':Nat} (I:Inv X pins σ H s) (k:∀ b u,b∉fp->s.heap.get? b=some u->h'.get? b=some u) (hf:∀ b∈fp,Ct X pins H b) (ha:s.heap.objs.size<=a) (new:zxr X.prog X.w (Ao H a o) h' a o):
  Inv X pins σ (Ao H a o) { s with heap:=h',toks:=t' }:=by
 have hn:H a=none:=I.hok.fresh ha;have nfp:∀ b u,H b=some u->b∉fp:=λ b u e z=>by rw [(hf b z).1] at e;cases e
 have up:∀ b u,H b=some u->Ao H a o b=some u:=λ b u e=>by rw [AH (λ z=>by rw [z,hn] at e;cases e)];exact e
 refine I.step (g':=s.gens) (d':=s.drawn) (ch:=fp) (λ b hb=>?_) (λ b u _ _ hc e _=>k b u hc e) (λ b u _ _ hc e _=>⟨u.slots,k b u hc e⟩) (λ b u _ e n=>?_) (λ b u hc e=>⟨u,k b u hc e⟩) (λ b xs e=>up b _ e) (λ b _ _ e=>up b _ e) (λ b ps e=>⟨#[],by rw [up b _ e];simp⟩) (λ m hm=>?_) (λ b u e=>?_) I.bare
 ·obtain ⟨_,f1,_,f3,f4,f5⟩:=hf b hb;exact ⟨f3,f1,f4,f5⟩
 ·rw [AH (λ z=>by rw [z] at e;exact absurd (AS e) (Nat.not_lt.mpr ha))];exact n
 ·obtain ⟨u,es,ep,ho,r⟩:=hm;exact ⟨u,es,ep,k _ u (λ z=>(hf _ z).2.1 rfl) ho,r⟩
 ·by_cases eb:b=a
  ·subst eb;rw [Bu] at e;cases e;exact new
  ·rw [AH eb] at e;refine (I.hok b u e).stay (λ c v hc q=>k c v ?_ q) (λ c q=>up c _ q) λ c xs q=>up c _ q;rcases hc with z | z
   ·rw [z];exact nfp b u e
   ·exact nfp c _ z
def P6 {fp:List Addr}{t':Nat} (I:Inv X pins σ H s) (k:∀ b u,b∉fp->s.heap.get? b=some u->h'.get? b=some u) (hf:∀ b∈fp,Ct X pins H b):Inv X pins σ H { s with heap:=h',toks:=t' }:=by
 have nfp:∀ b u,H b=some u->b∉fp:=λ b u e z=>by rw [(hf b z).1] at e;cases e
 refine I.step (g':=s.gens) (d':=s.drawn) (ch:=fp) (λ b hb=>?_) (λ b u _ _ hc e _=>k b u hc e) (λ b u _ _ hc e _=>⟨u.slots,k b u hc e⟩) (λ _ _ _ _ n=>n) (λ b u hc e=>⟨u,k b u hc e⟩) (λ _ _ e=>e) (λ _ _ _ e=>e) (λ b ps e=>⟨#[],by rw [e];simp⟩) (λ m hm=>?_) (λ b u e=>?_) I.bare
 ·obtain ⟨_,f1,_,f3,f4,f5⟩:=hf b hb;exact ⟨f3,f1,f4,f5⟩
 ·obtain ⟨u,es,ep,ho,r⟩:=hm;exact ⟨u,es,ep,k _ u (λ z=>(hf _ z).2.1 rfl) ho,r⟩
 ·refine (I.hok b u e).stay (λ c v hc q=>k c v ?_ q) (λ _ q=>q) λ _ _ q=>q;rcases hc with z | z
  ·rw [z];exact nfp b u e
  ·exact nfp c _ z
end
def Mp (K:Frag) (a:Addr) (n:Nat):It:=
 ⟨λ i H=>i < n/\∃ xs x,Bo K H a xs/\xs[n - 1 - i]?=some x,λ i H x H'=>H'=H/\∀ xs,Bo K H a xs->xs[n - 1 - i]?=some x,λ i _=>n<=i⟩
def HU (K:Frag) (a:Addr):It:=
 ⟨λ i H=>∃ xs x,Bo K H a xs/\xs[i]?=some x,λ i H v H'=>∃ T x,H T=none/\v=.ref T/\H'=Ao H T (.tup [.int (i:Int),x])/\∀ xs,Bo K H a xs->xs[i]?=some x,λ i H=>∃ xs,Bo K H a xs/\xs.length<=i⟩
def yK {P:A8}{w:A7}{K:Frag}{es:List Expr}{k:Nat}{pos:Pos} (a e it:Addr) (hne:e≠it):Turn P w K (.Tuple es k pos) (HU K a) [e,it] e (λ i h=>(∃ old,IsEnum h e it (i:Int) old)/\h.IsListIter it a i) where
 mem:=by simp
 obj:=λ i h st b hb=>by
  obtain ⟨⟨old,he⟩,o,ho,c,d⟩:=st;rcases jb4.mp hb with z | z
  ·rw [z];exact ⟨_,he,λ v z=>by cases z⟩
  ·rw [jb6.mp z];exact ⟨o,ho,λ v z=>by rw [d] at z;cases z⟩
 keep:=λ i h h' st k=>by
  obtain ⟨⟨old,he⟩,hi⟩:=st;exact ⟨⟨old,k e (by simp) _ he⟩,hi.at λ o x=>k it (by simp) o x⟩
 item:=by
  intro X hP hw hK hc i pins s σ H E I hf st hg;subst hP hw hK;obtain ⟨xs,x,hq,hx⟩:=hg;obtain ⟨its,rv,p,hz⟩:=I.list hq;obtain ⟨u,hu,ru⟩:=rv.get hx;obtain ⟨⟨old,he⟩,hit⟩:=st;refine wpAny_pyNext_enum_item he hit p.isList (x:=u) (by simpa using hu) hne λ h' ho hit' hT hsz hk=>⟨_,rfl,?_⟩
  refine wpAny_letOwnedTupleGo_enum ho λ h2 he2 hs2=>?_;have hs0:s.heap.objs.size≠e:=EC (AS he);have hn:H s.heap.objs.size=none:=I.hok.fresh (AA _);have hT2:h2.get? s.heap.objs.size=some { cls:=.type "tuple",data:=.seq #[.int (i:Int) s.toks,u] }:=(hs2.2 _ hs0).trans hT;have I1:Inv X pins σ (Ao H s.heap.objs.size (.tup [.int (i:Int),x])) { s with heap:=h2,toks:=s.toks + 1 }:=by
   refine Qc (fp:=[e,it]) I (λ b u hb q=>(hs2.2 b (λ z=>hb (by simp [z]))).trans (hk b u (λ z=>hb (by simp [z])) (λ z=>hb (by simp [z])) q)) hf (AA _) ?_;exact ⟨BZ (by decide:2<=1000) (by decide),_,.cons ⟨_,rfl⟩ (.cons ru .nil),⟨_,hT2,rfl,_,rfl⟩⟩
  refine ⟨.ref s.heap.objs.size,_,I1,rfl,⟨_,x,hn,rfl,rfl,λ ys hy=>by rw [I.list_inj hy hq];exact hx⟩,⟨⟨u,?_⟩,hit'.at λ o q=>(hs2.2 it (BY hne)).trans q⟩,λ b hb=>?_⟩
  ·rw [show ((i + 1:Nat):Int)=(i:Int) + 1 by omega];exact he2
  ·have hb':=(hf b hb).1;rw [AH (λ z=>?_)]
   ·exact hb'
   ·rcases jb4.mp hb with y | y
    ·rw [y] at z;exact hs0 z.symm
    ·rw [jb6.mp y] at z;obtain ⟨o,q,_⟩:=hit;exact absurd (AS q) (by rw [z];exact DM _)
 done:=by
  intro X hP hw hK hc i pins s σ H E I hf st hg;subst hP hw hK;obtain ⟨xs,hq,hx⟩:=hg;obtain ⟨its,rv,p,hz⟩:=I.list hq;obtain ⟨⟨old,he⟩,hit⟩:=st;have hl:=rv.length;exact wpAny_pyNext_enum_end (I.ok.hd hc) he hit p.isList (Jw (by simp;omega)) λ h' eb=>⟨rfl,P6 (t':=s.toks) I (λ b o hb q=>eb b o (λ z=>hb (by simp [z])) q) hf⟩
 self:=λ _ _ _ _ _ st h=>by
  obtain ⟨⟨old,he⟩,_⟩:=st;exact wpAny_pyIter_enum he h
def HS (K:Frag) (a b:Addr):It:=
 ⟨λ i H=>∃ xs ys x y,Bo K H a xs/\Bo K H b ys/\xs[i]?=some x/\ys[i]?=some y,λ i H v H'=>∃ T x y,H T=none/\v=.ref T/\H'=Ao H T (.tup [x,y])/\∀ xs ys,Bo K H a xs->Bo K H b ys->xs[i]?=some x/\ys[i]?=some y,λ i H=>∃ xs ys,Bo K H a xs/\Bo K H b ys/\(xs.length<=i\/ys.length<=i)⟩
def UU {h:Heap}{z TI TO i1 i2 l1 l2:Addr}{f0:Ad}{a b c d:Ad}{k1 k2:Nat}{xs ys:Array Ad} (hTT:TI≠TO) (Gp:i1≠i2) (hz:Dn h z TI TO f0) (hTI:Cu h TI a b) (hTO:Cu h TO c d) (h1:h.IsListIter i1 l1 k1) (h2:h.IsListIter i2 l2 k2) (hl1:h.IsList l1 xs) (hl2:h.IsList l2 ys):ZipApart z TI TO i1 i2 l1 l2:=by
 obtain ⟨o1,e1,c1,_⟩:=h1;obtain ⟨o2,e2,c2,_⟩:=h2;obtain ⟨p1,q1,r1,_⟩:=hl1;obtain ⟨p2,q2,r2,_⟩:=hl2;have ne:∀ {x y:Addr}{o o':Obj}{n m:String},h.get? x=some o->h.get? y=some o'->o.cls=.type n->o'.cls=.type m->n≠m->x≠y:=λ {x y o o' n m} ex ey cx cy nm z=>by
  subst z;rw [ex] at ey;cases ey;rw [cx] at cy;injection cy with cy
  exact nm cy
 exact ⟨ne hTI hz rfl rfl (by decide),ne hTO hz rfl rfl (by decide),ne e1 hz c1 rfl (by decide),ne e2 hz c2 rfl (by decide),hTT,ne hTI e1 rfl c1 (by decide),ne hTI e2 rfl c2 (by decide),ne hTO e1 rfl c1 (by decide),ne hTO e2 rfl c2 (by decide),Gp,
  ne q1 hz r1 rfl (by decide),ne q1 hTO r1 rfl (by decide),ne q1 e1 r1 c1 (by decide),ne q1 e2 r1 c2 (by decide),ne q2 hz r2 rfl (by decide),ne q2 hTO r2 rfl (by decide),ne q2 e1 r2 c1 (by decide),ne q2 e2 r2 c2 (by decide)⟩
def wA {P:A8}{w:A7}{K:Frag}{es:List Expr}{k:Nat}{pos:Pos} (l1 l2 z TI TO i1 i2:Addr) (hTT:TI≠TO) (Gp:i1≠i2):
  Turn P w K (.Tuple es k pos) (HS K l1 l2) [z,TI,TO,i1,i2] z (λ i h=>Dn h z TI TO .none/\Cu h TI (.ref i1) (.ref i2)/\(∃ p q,Cu h TO p q)/\h.IsListIter i1 l1 i/\h.IsListIter i2 l2 i) where
 mem:=by simp
 obj:=λ i h st b hb=>by
  obtain ⟨hz,hTI,⟨p,q,hTO⟩,⟨o1,e1,_,d1⟩,⟨o2,e2,_,d2⟩⟩:=st;simp only [jb4,Gf,or_false] at hb;rcases hb with rfl | rfl | rfl | rfl | rfl
  ·exact ⟨_,hz,λ v z=>by cases z⟩
  ·exact ⟨_,hTI,λ v z=>by cases z⟩
  ·exact ⟨_,hTO,λ v z=>by cases z⟩
  ·exact ⟨o1,e1,λ v z=>by rw [d1] at z;cases z⟩
  ·exact ⟨o2,e2,λ v z=>by rw [d2] at z;cases z⟩
 keep:=λ i h h' st k=>by
  obtain ⟨hz,hTI,⟨p,q,hTO⟩,h1,h2⟩:=st;exact ⟨k z (by simp) _ hz,k TI (by simp) _ hTI,⟨p,q,k TO (by simp) _ hTO⟩,h1.at λ o x=>k i1 (by simp) o x,h2.at λ o x=>k i2 (by simp) o x⟩
 item:=by
  intro X hP hw hK hc i pins s σ H E I hf st hg;subst hP hw hK;obtain ⟨xs,ys,x,y,hq1,hq2,hx,hy⟩:=hg;obtain ⟨its1,rv1,p1,hz1⟩:=I.list hq1;obtain ⟨its2,rv2,p2,hz2⟩:=I.list hq2;obtain ⟨u1,hu1,ru1⟩:=rv1.get hx;obtain ⟨u2,hu2,ru2⟩:=rv2.get hy;obtain ⟨hz,hTI,⟨p,q,hTO⟩,h1,h2⟩:=st;have D:=UU hTT Gp hz hTI hTO h1 h2 p1.isList p2.isList;refine wpAny_pyNext_zip_item D hz hTI hTO h1 h2 p1.isList p2.isList (x:=u1) (y:=u2) (by simpa using hu1) (by simpa using hu2) λ h' a1 a2 a3 a4 a5 a6 hk=>⟨_,rfl,?_⟩
  refine UZ a1 λ h2' hz' hs'=>?_;have hn:H s.heap.objs.size=none:=I.hok.fresh (AA _);have hs0:s.heap.objs.size≠z:=EC (AS hz);have I1:Inv X pins σ (Ao H s.heap.objs.size (.tup [x,y])) { s with heap:=h2',toks:=s.toks }:=by
   refine Qc (fp:=[z,TI,TO,i1,i2]) I (λ b u hb e=>(hs'.2 b (λ z=>hb (by simp [z]))).trans (hk b u (λ z=>hb (by simp [z])) (λ z=>hb (by simp [z])) (λ z=>hb (by simp [z])) (λ z=>hb (by simp [z])) e)) hf (AA _) ?_;exact ⟨BZ (by decide:2<=1000) (by decide),_,.cons ru1 (.cons ru2 .nil),⟨_,(hs'.2 _ hs0).trans a5,rfl,_,rfl⟩⟩
  refine ⟨.ref s.heap.objs.size,_,I1,rfl,⟨_,x,y,hn,rfl,rfl,λ xs' ys' e1 e2=>⟨by rw [I.list_inj e1 hq1];exact hx,by rw [I.list_inj e2 hq2];exact hy⟩⟩,⟨hz',(hs'.2 _ D.TIz).trans (hk _ _ D.TIz D.TITO D.TIi1 D.TIi2 hTI),⟨_,_,(hs'.2 _ D.TOz).trans a2⟩,a3.at λ o e=>(hs'.2 _ D.i1z).trans e,a4.at λ o e=>(hs'.2 _ D.i2z).trans e⟩,λ b hb=>?_⟩;have hb':=(hf b hb).1;have lt:b < s.heap.objs.size:=by
   simp only [jb4,Gf,or_false] at hb;rcases hb with rfl | rfl | rfl | rfl | rfl
   ·exact AS hz
   ·exact AS hTI
   ·exact AS hTO
   ·obtain ⟨_,e,_⟩:=h1;exact AS e
   ·obtain ⟨_,e,_⟩:=h2;exact AS e
  rw [AH (Cr lt)];exact hb'
 done:=by
  intro X hP hw hK hc i pins s σ H E I hf st hg;subst hP hw hK;obtain ⟨xs,ys,hq1,hq2,hend⟩:=hg;obtain ⟨its1,rv1,p1,hz1⟩:=I.list hq1;obtain ⟨its2,rv2,p2,hz2⟩:=I.list hq2;obtain ⟨hz,hTI,⟨p,q,hTO⟩,h1,h2⟩:=st;have D:=UU hTT Gp hz hTI hTO h1 h2 p1.isList p2.isList;have r1:=rv1.length;have r2:=rv2.length;refine wpAny_pyNext_zip_end (I.ok.hd hc) D hz hTI hTO h1 h2 p1.isList p2.isList ?_ λ h' hk=>⟨rfl,P6 (t':=s.toks) I (λ b o hb e=>hk b o (λ z=>hb (by simp [z])) (λ z=>hb (by simp [z])) (λ z=>hb (by simp [z])) (λ z=>hb (by simp [z])) e) hf⟩
  rcases hend with h | h
  ·exact .inl (Jw (by simp;omega))
  ·exact .inr (Jw (by simp;omega))
 self:=λ _ _ _ _ _ st h=>Nv st.1 h
def HR (a b:Addr):It:=
 ⟨λ i H=>∃ xs ys x y,H a=some (.tup xs)/\H b=some (.tup ys)/\xs[i]?=some x/\ys[i]?=some y,λ i H v H'=>∃ T x y,H T=none/\v=.ref T/\H'=Ao H T (.tup [x,y])/\∀ xs ys,H a=some (.tup xs)->H b=some (.tup ys)->xs[i]?=some x/\ys[i]?=some y,λ i H=>∃ xs ys,H a=some (.tup xs)/\H b=some (.tup ys)/\(xs.length<=i\/ys.length<=i)⟩
def Yy {h:Heap}{H:Hp}{z TI TO i1 i2 l1 l2:Addr}{f0:Ad}{a b c d:Ad}{k1 k2:Nat}{xs ys:Array Ad}{us vs:List V} (hTT:TI≠TO) (Gp:i1≠i2) (hz:Dn h z TI TO f0) (hTI:Cu h TI a b) (hTO:Cu h TO c d) (h1:h.IsTupleIter i1 l1 k1) (h2:h.IsTupleIter i2 l2 k2) (hl1:h.IsTuple l1 xs) (hl2:h.IsTuple l2 ys) (n1:H TO=none) (q1:H l1=some (.tup us)) (q2:H l2=some (.tup vs)):ZApart z TI TO i1 i2 l1 l2:=by
 obtain ⟨o1,e1,c1,_⟩:=h1;obtain ⟨o2,e2,c2,_⟩:=h2;obtain ⟨p1,m1,r1,_⟩:=hl1;obtain ⟨p2,m2,r2,_⟩:=hl2;have ne:∀ {x y:Addr}{o o':Obj}{n m:String},h.get? x=some o->h.get? y=some o'->o.cls=.type n->o'.cls=.type m->n≠m->x≠y:=λ {x y o o' n m} ex ey cx cy nm z=>by
  subst z;rw [ex] at ey;cases ey;rw [cx] at cy;injection cy with cy
  exact nm cy
 exact ⟨ne hTI hz rfl rfl (by decide),ne hTO hz rfl rfl (by decide),ne e1 hz c1 rfl (by decide),ne e2 hz c2 rfl (by decide),hTT,ne hTI e1 rfl c1 (by decide),ne hTI e2 rfl c2 (by decide),ne hTO e1 rfl c1 (by decide),ne hTO e2 rfl c2 (by decide),Gp,
  ne m1 hz r1 rfl (by decide),(λ z=>by rw [z,n1] at q1;cases q1),ne m1 e1 r1 c1 (by decide),ne m1 e2 r1 c2 (by decide),ne m2 hz r2 rfl (by decide),(λ z=>by rw [z,n1] at q2;cases q2),ne m2 e1 r2 c1 (by decide),ne m2 e2 r2 c2 (by decide)⟩
def kN {P:A8}{w:A7}{K:Frag}{es:List Expr}{k:Nat}{pos:Pos} (l1 l2 z TI TO i1 i2:Addr) (hTT:TI≠TO) (Gp:i1≠i2):
  Turn P w K (.Tuple es k pos) (HR l1 l2) [z,TI,TO,i1,i2] z (λ i h=>Dn h z TI TO .none/\Cu h TI (.ref i1) (.ref i2)/\(∃ p q,Cu h TO p q)/\h.IsTupleIter i1 l1 i/\h.IsTupleIter i2 l2 i) where
 mem:=by simp
 obj:=λ i h st b hb=>by
  obtain ⟨hz,hTI,⟨p,q,hTO⟩,⟨o1,e1,_,d1⟩,⟨o2,e2,_,d2⟩⟩:=st;simp only [jb4,Gf,or_false] at hb;rcases hb with rfl | rfl | rfl | rfl | rfl
  ·exact ⟨_,hz,λ v z=>by cases z⟩
  ·exact ⟨_,hTI,λ v z=>by cases z⟩
  ·exact ⟨_,hTO,λ v z=>by cases z⟩
  ·exact ⟨o1,e1,λ v z=>by rw [d1] at z;cases z⟩
  ·exact ⟨o2,e2,λ v z=>by rw [d2] at z;cases z⟩
 keep:=λ i h h' st k=>by
  obtain ⟨hz,hTI,⟨p,q,hTO⟩,h1,h2⟩:=st;exact ⟨k z (by simp) _ hz,k TI (by simp) _ hTI,⟨p,q,k TO (by simp) _ hTO⟩,h1.at λ o x=>k i1 (by simp) o x,h2.at λ o x=>k i2 (by simp) o x⟩
 item:=by
  intro X hP hw hK hc i pins s σ H E I hf st hg;subst hP hw hK;obtain ⟨xs,ys,x,y,hq1,hq2,hx,hy⟩:=hg;obtain ⟨its1,rv1,p1,hz1⟩:=I.tuple (.of hq1);obtain ⟨its2,rv2,p2,hz2⟩:=I.tuple (.of hq2);obtain ⟨u1,hu1,ru1⟩:=rv1.get hx;obtain ⟨u2,hu2,ru2⟩:=rv2.get hy;obtain ⟨hz,hTI,⟨p,q,hTO⟩,h1,h2⟩:=st;have T1:s.heap.IsTuple l1 its1.toArray:=p1;have T2:s.heap.IsTuple l2 its2.toArray:=p2;have D:=Yy hTT Gp hz hTI hTO h1 h2 T1 T2 (hf TO (by simp)).1 hq1 hq2;refine jC D hz hTI hTO h1 h2 T1 T2 (u:=u1) (v:=u2) (by simpa using hu1) (by simpa using hu2) λ h' a1 a2 a3 a4 a5 a6 hk=>⟨_,rfl,?_⟩
  refine UZ a1 λ h2' hz' hs'=>?_;have hn:H s.heap.objs.size=none:=I.hok.fresh (AA _);have hs0:s.heap.objs.size≠z:=EC (AS hz);have I1:Inv X pins σ (Ao H s.heap.objs.size (.tup [x,y])) { s with heap:=h2',toks:=s.toks }:=by
   refine Qc (fp:=[z,TI,TO,i1,i2]) I (λ b u hb e=>(hs'.2 b (λ z=>hb (by simp [z]))).trans (hk b u (λ z=>hb (by simp [z])) (λ z=>hb (by simp [z])) (λ z=>hb (by simp [z])) (λ z=>hb (by simp [z])) e)) hf (AA _) ?_;exact ⟨BZ (by decide:2<=1000) (by decide),_,.cons ru1 (.cons ru2 .nil),⟨_,(hs'.2 _ hs0).trans a5,rfl,_,rfl⟩⟩
  refine ⟨.ref s.heap.objs.size,_,I1,rfl,⟨_,x,y,hn,rfl,rfl,λ xs' ys' e1 e2=>⟨by rw [hq1] at e1;cases e1;exact hx,by rw [hq2] at e2;cases e2;exact hy⟩⟩,⟨hz',(hs'.2 _ D.ne1).trans (hk _ _ D.ne1 D.ne5 D.ne6 D.ne7 hTI),⟨_,_,(hs'.2 _ D.ne2).trans a2⟩,a3.at λ o e=>(hs'.2 _ D.ne3).trans e,a4.at λ o e=>(hs'.2 _ D.ne4).trans e⟩,λ b hb=>?_⟩;have hb':=(hf b hb).1;have lt:b < s.heap.objs.size:=by
   simp only [jb4,Gf,or_false] at hb;rcases hb with rfl | rfl | rfl | rfl | rfl
   ·exact AS hz
   ·exact AS hTI
   ·exact AS hTO
   ·obtain ⟨_,e,_⟩:=h1;exact AS e
   ·obtain ⟨_,e,_⟩:=h2;exact AS e
  rw [AH (Cr lt)];exact hb'
 done:=by
  intro X hP hw hK hc i pins s σ H E I hf st hg;subst hP hw hK;obtain ⟨xs,ys,hq1,hq2,hend⟩:=hg;obtain ⟨its1,rv1,p1,hz1⟩:=I.tuple (.of hq1);obtain ⟨its2,rv2,p2,hz2⟩:=I.tuple (.of hq2);obtain ⟨hz,hTI,⟨p,q,hTO⟩,h1,h2⟩:=st;have T1:s.heap.IsTuple l1 its1.toArray:=p1;have T2:s.heap.IsTuple l2 its2.toArray:=p2;have D:=Yy hTT Gp hz hTI hTO h1 h2 T1 T2 (hf TO (by simp)).1 hq1 hq2;have r1:=rv1.length;have r2:=rv2.length;refine uu (I.ok.hd hc) D hz hTI hTO h1 h2 T1 T2 ?_ λ h' hk=>⟨rfl,P6 (t':=s.toks) I (λ b o hb e=>hk b o (λ z=>hb (by simp [z])) (λ z=>hb (by simp [z])) (λ z=>hb (by simp [z])) (λ z=>hb (by simp [z])) e) hf⟩
  rcases hend with h | h
  ·exact .inl (Jw (by simp;omega))
  ·exact .inr (Jw (by simp;omega))
 self:=λ _ _ _ _ _ st h=>Nv st.1 h
section
variable {X:Cx}{tg:Expr}
def T9 (K:Frag) (ta:TA):TI:=λ σ H R=>ta σ H λ vs H1=>∃ a xs,vs=[.ref a]/\Bo K H1 a xs/\R (HU K a) H1
def T7 (K:Frag) (ta:TA):TI:=λ σ H R=>ta σ H λ vs H1=>∃ a b xs ys,vs=[.ref a,.ref b]/\((Bo K H1 a xs/\Bo K H1 b ys/\R (HS K a b) H1)\/(H1 a=some (.tup xs)/\H1 b=some (.tup ys)/\R (HR a b) H1))
theorem jM {a:Expr}{ta:TA}{es:List Expr}{k:Nat}{tp p pos:Pos} (hg:Gl X "enumerate") (hm:X.mg "enumerate" = none) (ha:PA X [a] ta) (hs:AE [a] X.env=[(false,eval a X.env)]):PI X (.Tuple es k tp) (.Call (.Name "enumerate" p) [a] [] pos) (T9 X.K ta):=by
 intro pins s σ H R I h;refine Call_ (GF I hg hm boot_enumerate (Ir (A4 (ha pos pins s σ H _ I h) λ us s1 ⟨vs,H1,I1,r1,q1⟩=>?_) hs rfl));obtain ⟨b,xs,e,hq,q⟩:=q1;subst e;cases r1 with
 | cons r rr=>
  cases rr;cases r;obtain ⟨its,rv,pl,hz⟩:=I1.list hq;refine call_enumerate_list pl.isList λ h' he hit hsz hk=>?_;refine wpAny_pyIter_enum (s:={ s1 with heap:=h' }) he ?_;refine ⟨s1.heap.objs.size + 1,[s1.heap.objs.size + 1,s1.heap.objs.size],_,_,H1,rfl,I1.kept (t':=s1.toks) hk,yK b _ _ (Nat.succ_ne_self _),⟨⟨_,he⟩,hit⟩,λ c hc=>?_,q⟩;rcases jb4.mp hc with e | e
  ·rw [e];exact I1.fpOk (Tf _) (I1.hok.fresh (Tf _))
  ·rw [jb6.mp e];exact I1.fpOk (AA _) (I1.hok.fresh (AA _))
def xG {a b:Expr}{ta:TA}{es:List Expr}{k:Nat}{tp p pos:Pos} (hg:Gl X "zip") (hm:X.mg "zip" = none) (ha:PA X [a,b] ta) (hs:AE [a,b] X.env=[(false,eval a X.env),(false,eval b X.env)]) (hs2:AE [b] X.env=[(false,eval b X.env)]):
  PI X (.Tuple es k tp) (.Call (.Name "zip" p) [a,b] [] pos) (T7 X.K ta):=by
 intro pins s σ H R I h;refine Call_ (GF I hg hm boot_zip (Ir (A4 (ha pos pins s σ H _ I h) λ us s1 ⟨vs,H1,I1,r1,q1⟩=>?_) (by rw [hs,hs2]) (by rw [hs2];rfl)));obtain ⟨c,d,xs,ys,e,⟨hq1,hq2,q⟩ | ⟨hq1,hq2,q⟩⟩:=q1
 ·subst e;cases r1 with
  | cons r rr=>
   cases rr with
   | cons r' rr=>
    cases rr;cases r;cases r';obtain ⟨its1,rv1,p1,hz1⟩:=I1.list hq1;obtain ⟨its2,rv2,p2,hz2⟩:=I1.list hq2;refine call_zip_2 p1.isList p2.isList λ h' hz hTI hTO h1 h2 hsz hk=>?_;refine Nv (s:={ s1 with heap:=h' }) hz ?_;refine ⟨s1.heap.objs.size + 4,[s1.heap.objs.size + 4,s1.heap.objs.size + 2,s1.heap.objs.size + 3,s1.heap.objs.size,s1.heap.objs.size + 1],_,_,H1,rfl,I1.kept (t':=s1.toks) hk,wA c d _ _ _ _ _ (Cr (GK _)) (Cr (GK _)),⟨hz,hTI,⟨_,_,hTO⟩,h1,h2⟩,λ x hx=>?_,q⟩
    have:s1.heap.objs.size<=x:=by
     simp only [jb4,Gf,or_false] at hx;rcases hx with rfl | rfl | rfl | rfl | rfl
     ·exact I0 _ _
     ·exact I0 _ _
     ·exact I0 _ _
     ·exact AA _
     ·exact I0 _ _
    exact I1.fpOk this (I1.hok.fresh this)
 ·subst e;cases r1 with
  | cons r rr=>
   cases rr with
   | cons r' rr=>
    cases rr;cases r;cases r';obtain ⟨its1,rv1,p1,hz1⟩:=I1.tuple (.of hq1);obtain ⟨its2,rv2,p2,hz2⟩:=I1.tuple (.of hq2);refine ja (us:=its1.toArray) (vs:=its2.toArray) p1 p2 λ h' hz hTI hTO h1 h2 hsz hk=>?_;refine Nv (s:={ s1 with heap:=h' }) hz ?_;refine ⟨s1.heap.objs.size + 4,[s1.heap.objs.size + 4,s1.heap.objs.size + 2,s1.heap.objs.size + 3,s1.heap.objs.size,s1.heap.objs.size + 1],_,_,H1,rfl,I1.kept (t':=s1.toks) hk,kN c d _ _ _ _ _ (Cr (GK _)) (Cr (GK _)),⟨hz,hTI,⟨_,_,hTO⟩,h1,h2⟩,λ x hx=>?_,q⟩
    have:s1.heap.objs.size<=x:=by
     simp only [jb4,Gf,or_false] at hx;rcases hx with rfl | rfl | rfl | rfl | rfl
     ·exact I0 _ _
     ·exact I0 _ _
     ·exact I0 _ _
     ·exact AA _
     ·exact I0 _ _
    exact I1.fpOk this (I1.hok.fresh this)
end
inductive Vw where
 | rev | enm | zp
def DT:Nat->List PV->List PV
 | _,[]=>[]
 | i,x::xs=>.tup [.int (i:Int),x]::DT (i + 1) xs
def Ca:List PV->List PV->List PV
 | x::xs,y::ys=>.tup [x,y]::Ca xs ys
 | _,_=>[]
def Gw:Vw->List PV->Option (List PV)
 | .rev,[.lst xs]=>some xs.reverse
 | .enm,[.lst xs]=>some (DT 0 xs)
 | .zp,[.lst xs,.lst ys]=>some (Ca xs ys)
 | .zp,[.tup xs,.tup ys]=>some (Ca xs ys)
 | _,_=>none
def VN (v:Vw) (K:Frag) (ws:List V) (H:Hp) (R:It->Hp->Prop):Prop:=match v with
 | .rev=>∃ a xs,ws=[.ref a]/\Bo K H a xs/\R (Mp K a xs.length) H
 | .enm=>∃ a xs,ws=[.ref a]/\Bo K H a xs/\R (HU K a) H
 | .zp=>∃ a b xs ys,ws=[.ref a,.ref b]/\((Bo K H a xs/\Bo K H b ys/\R (HS K a b) H)\/(H a=some (.tup xs)/\H b=some (.tup ys)/\R (HR a b) H))
def T8 (v:Vw) (K:Frag) (ta:TA):TI:=λ σ H R=>ta σ H λ ws H1=>VN v K ws H1 R
theorem enumL_len:∀ (xs:List PV) (k:Nat),(DT k xs).length=xs.length
 | [],_=>rfl
 | x::xs,k=>by rw [DT,Bw,enumL_len xs,Bw]
theorem PL:∀ (xs:List PV) (k i:Nat),(DT k xs)[i]?=(xs[i]?).map λ x=>PV.tup [.int ((k + i:Nat):Int),x]
 | [],_,_=>by simp [DT]
 | x::xs,k,0=>by simp [DT]
 | x::xs,k,i + 1=>by
  rw [DT,IE,PL xs (k + 1) i,IE,show k + 1 + i=k + (i + 1) by omega]
theorem Q4:∀ (xs ys:List PV),(Ca xs ys).length=min xs.length ys.length
 | [],ys=>by simp [Ca]
 | x::xs,[]=>by simp [Ca]
 | x::xs,y::ys=>by rw [Ca,Bw,Q4 xs ys,Bw,Bw];omega
theorem Q3:∀ (xs ys:List PV) (i:Nat) (x y:PV),xs[i]?=some x->ys[i]?=some y->(Ca xs ys)[i]?=some (.tup [x,y])
 | [],ys,i,x,y,h,_=>by simp at h
 | a::xs,[],i,x,y,_,h=>by simp at h
 | a::xs,b::ys,0,x,y,h,h'=>by simp at h h';subst h h';simp [Ca]
 | a::xs,b::ys,i + 1,x,y,h,h'=>by
  rw [Ca,IE];exact Q3 xs ys i x y (by simpa using h) (by simpa using h')
def Own.growH {K:Frag}{H H':Hp}{Z:Addr->Prop}{x:PV}{v:V} (k:∀ a o,H a=some o->H' a=some o) (h:Own K H Z x 0 v []):Own K H' Z x 0 v []:=
 Own.move (S:=λ _=>False) (λ a o h _=>k a o h) (λ _ z=>z.elim) (λ _ _ n=>n) x 0 v [] (λ _ z=>nomatch z) h
def Ie {K:Frag}{H:Hp}{Z:Addr->Prop}{xs:List PV}{v:V} (o:Own K H Z (.lst xs) 0 v []):∃ a ws,v=.ref a/\Bo K H a ws/\OwnL K H Z xs 0 ws []:=by
 rw [Own] at o;obtain ⟨b,ws,e,⟨_,hr,_,ol⟩ | ⟨h,_⟩⟩:=o
 ·exact ⟨b,ws,e,.inl (.inl hr.1),ol⟩
 ·exact absurd rfl h
def MY {K:Frag}{H:Hp}{Z:Addr->Prop}{xs:List PV}{v:V} (o:Own K H Z (.tup xs) 0 v []):∃ a ws,v=.ref a/\H a=some (.tup ws)/\OwnL K H Z xs 0 ws []:=by
 rw [Own] at o;obtain ⟨a,ws,e,h,ol⟩:=o;rw [MJ] at ol;exact ⟨a,ws,e,h,ol⟩
def Qt {K:Frag}{H:Hp}{Z:Addr->Prop}{x y:PV}{u v:V}{T:Addr} (hT:H T=some (.tup [u,v])) (ox:Own K H Z x 0 u []) (oy:Own K H Z y 0 v []):Own K H Z (.tup [x,y]) 0 (.ref T) []:=by
 rw [Own];refine ⟨T,_,rfl,hT,?_⟩;rw [MJ,OwnL];refine ⟨u,[v],[],[],rfl,rfl,(λ _ z=>nomatch z),ox,?_⟩;rw [OwnL];exact ⟨v,[],[],[],rfl,rfl,(λ _ z=>nomatch z),oy,by rw [OwnL];exact ⟨rfl,rfl⟩⟩
def OwnL.one {K:Frag}{H:Hp}{Z:Addr->Prop}{x:PV}{ws:List V} (o:OwnL K H Z [x] 0 ws []):∃ v,ws=[v]/\Own K H Z x 0 v []:=by
 rw [OwnL] at o;obtain ⟨v,r,f1,f2,rfl,ef,_,o1,o2⟩:=o;obtain ⟨rfl,rfl⟩:f1=[]/\f2=[]:=by simpa using ef.symm
 rw [OwnL] at o2;exact ⟨v,by rw [o2.1],o1⟩
def OwnL.two {K:Frag}{H:Hp}{Z:Addr->Prop}{x y:PV}{ws:List V} (o:OwnL K H Z [x,y] 0 ws []):∃ u v,ws=[u,v]/\Own K H Z x 0 u []/\Own K H Z y 0 v []:=by
 rw [OwnL] at o;obtain ⟨u,r,f1,f2,rfl,ef,_,o1,o2⟩:=o;obtain ⟨rfl,rfl⟩:f1=[]/\f2=[]:=by simpa using ef.symm
 obtain ⟨v,rfl,o3⟩:=o2.one;exact ⟨u,v,rfl,o1,o3⟩
theorem OwnL.mono0 {K:Frag}{H H':Hp}{Z Z':Addr->Prop} (h:∀ x v,Own K H Z x 0 v []->Own K H' Z' x 0 v []):∀ {xs:List PV}{ws:List V},OwnL K H Z xs 0 ws []->OwnL K H' Z' xs 0 ws []
 | [],ws,o=>by rw [OwnL] at o ⊢;exact o
 | x::xs,ws,o=>by
  rw [OwnL] at o;obtain ⟨u,r,f1,f2,rfl,ef,_,o1,o2⟩:=o;obtain ⟨rfl,rfl⟩:f1=[]/\f2=[]:=by simpa using ef.symm
  rw [OwnL];exact ⟨u,r,[],[],rfl,rfl,(λ _ z=>nomatch z),h _ _ o1,OwnL.mono0 h o2⟩
def VO {v:Vw}{ps els:List PV}{ws:List V}{K:Frag}{H:Hp}{Z:Addr->Prop} (he:Gw v ps=some els) (o:OwnL K H Z ps 0 ws []):∃ J,(∀ R:It->Hp->Prop,R J H->VN v K ws H R)/\∀ H Z,OwnL K H Z ps 0 ws []->∀ i,(i < els.length->J.go i H)/\(els.length<=i->J.stop i H) /\
  (i < els.length->∀ x H',J.yld i H x H'->(∀ a o,H a=some o->H' a=some o)/\∃ y,els[i]?=some y/\Own K H' Z y 0 x []):=by
 unfold Gw at he;split at he
 ·rename_i xs;cases he;obtain ⟨v,rfl,o1⟩:=o.one;obtain ⟨a,us,rfl,sq,ol⟩:=Ie o1;refine ⟨Mp K a us.length,λ R r=>⟨a,us,rfl,sq,r⟩,λ H' Z' o' i=>?_⟩;obtain ⟨v',e,o1'⟩:=o'.one;cases e;obtain ⟨a',us',e,sq',ol'⟩:=Ie o1';cases e;have hl:=ol.length;have hl':=ol'.length;rw [Zz];refine ⟨λ h=>⟨by omega,us',us'[us.length - 1 - i]'(by omega),sq',by simp⟩,λ h=>?_,λ h x H2 y=>?_⟩
  ·show us.length<=i;omega
  ·obtain ⟨rfl,e2⟩:=y;refine ⟨λ _ _ h=>h,?_⟩;obtain ⟨z,ez,oz⟩:=ol'.get (e2 us' sq');refine ⟨z,?_,oz⟩;rw [Z7 (by omega),<- ez,hl]
 ·rename_i xs;cases he;obtain ⟨v,rfl,o1⟩:=o.one;obtain ⟨a,us,rfl,sq,ol⟩:=Ie o1;refine ⟨HU K a,λ R r=>⟨a,us,rfl,sq,r⟩,λ H' Z' o' i=>?_⟩;obtain ⟨v',e,o1'⟩:=o'.one;cases e;obtain ⟨a',us',e,sq',ol'⟩:=Ie o1';cases e;have hl':=ol'.length;rw [enumL_len];refine ⟨λ h=>⟨us',us'[i]'(by omega),sq',by simp⟩,λ h=>⟨us',sq',by omega⟩,λ h x H2 y=>?_⟩;obtain ⟨T,u,hT,rfl,rfl,e2⟩:=y;have kx:∀ a o,H' a=some o->Ao H' T (.tup [.int (i:Int),u]) a=some o:=λ a o h=>by rw [AH (λ z=>by rw [z,hT] at h;cases h)];exact h
  refine ⟨kx,?_⟩;obtain ⟨z,ez,oz⟩:=ol'.get (e2 us' sq');refine ⟨.tup [.int (i:Int),z],?_,Qt Bu (by rw [Own];exact ⟨rfl,rfl⟩) (oz.growH kx)⟩;rw [PL,ez];simp
 ·rename_i xs ys;cases he;obtain ⟨v1,v2,rfl,o1,o2⟩:=o.two;obtain ⟨a,us,rfl,sq,ol⟩:=Ie o1;obtain ⟨b,vs,rfl,sq2,ol2⟩:=Ie o2;refine ⟨HS K a b,λ R r=>⟨a,b,us,vs,rfl,.inl ⟨sq,sq2,r⟩⟩,λ H' Z' o' i=>?_⟩;obtain ⟨v1',v2',e,o1',o2'⟩:=o'.two;cases e;obtain ⟨a',us',e,sq',ol'⟩:=Ie o1';cases e;obtain ⟨b',vs',e,sq2',ol2'⟩:=Ie o2';cases e;have hl1:=ol'.length;have hl2:=ol2'.length;rw [Q4];refine ⟨λ h=>⟨us',vs',us'[i]'(by omega),vs'[i]'(by omega),sq',sq2',by simp,by simp⟩,λ h=>⟨us',vs',sq',sq2',by omega⟩,λ h x H2 y=>?_⟩;obtain ⟨T,u,w,hT,rfl,rfl,e2⟩:=y;have kx:∀ a o,H' a=some o->Ao H' T (.tup [u,w]) a=some o:=λ a o h=>by rw [AH (λ z=>by rw [z,hT] at h;cases h)];exact h
  obtain ⟨e3,e4⟩:=e2 us' vs' sq' sq2';obtain ⟨z1,ez1,oz1⟩:=ol'.get e3;obtain ⟨z2,ez2,oz2⟩:=ol2'.get e4;exact ⟨kx,.tup [z1,z2],Q3 _ _ _ _ _ ez1 ez2,Qt Bu (oz1.growH kx) (oz2.growH kx)⟩
 ·rename_i xs ys;cases he;obtain ⟨v1,v2,rfl,o1,o2⟩:=o.two;obtain ⟨a,us,rfl,sq,ol⟩:=MY o1;obtain ⟨b,vs,rfl,sq2,ol2⟩:=MY o2;refine ⟨HR a b,λ R r=>⟨a,b,us,vs,rfl,.inr ⟨sq,sq2,r⟩⟩,λ H' Z' o' i=>?_⟩;obtain ⟨v1',v2',e,o1',o2'⟩:=o'.two;cases e;obtain ⟨a',us',e,sq',ol'⟩:=MY o1';cases e;obtain ⟨b',vs',e,sq2',ol2'⟩:=MY o2';cases e;have hl1:=ol'.length;have hl2:=ol2'.length;rw [Q4];refine ⟨λ h=>⟨us',vs',us'[i]'(by omega),vs'[i]'(by omega),sq',sq2',by simp,by simp⟩,λ h=>⟨us',vs',sq',sq2',by omega⟩,λ h x H2 y=>?_⟩;obtain ⟨T,u,w,hT,rfl,rfl,e2⟩:=y;have kx:∀ a o,H' a=some o->Ao H' T (.tup [u,w]) a=some o:=λ a o h=>by rw [AH (λ z=>by rw [z,hT] at h;cases h)];exact h
  obtain ⟨e3,e4⟩:=e2 us' vs' sq' sq2';obtain ⟨z1,ez1,oz1⟩:=ol'.get e3;obtain ⟨z2,ez2,oz2⟩:=ol2'.get e4;exact ⟨kx,.tup [z1,z2],Q3 _ _ _ _ _ ez1 ez2,Qt Bu (oz1.growH kx) (oz2.growH kx)⟩
 ·cases he
section
variable {is:List Nat}{M:Fm}{ρ ρ':Af}{σ σ':St}{H H' H'':Hp}{fps fps' fps'':AW}{vs vs':List Nat}
def GD (v:Vw) (fa:Fa) (vs:List Nat) (asg:PV->Af->Option Af) (body:Fs):Fs:=λ ρ=>match fa ρ with
 | .ok (xs,ρ1)=>(match Gw v (xs.map (·.1)) with
  | some els=>BQ asg body els (Bh (if Dk xs=true then om else 0) vs ρ1)
  | none=>.no)
 | .exc c=>.exc c
 | .no=>.no
def Di (v:Vw) (fa:Fa) (k:Nat) (asg:PV->Af->Option Af) (test:Fb) (elt:Fx):Fx:=λ ρ=>match fa ρ with
 | .ok (xs,ρ1)=>(match Gw v (xs.map (·.1)) with
  | some els=>(Cj k asg test elt els ρ1 []).bindN λ (acc,ρ2)=>Dm acc ρ2
  | none=>.no)
 | .exc c=>.exc c
 | .no=>.no
theorem Rep.seens {xs:List (PV×Nat)}{ws:List V}{fp:List Addr} (rep:Rep M ρ σ H fps) (k:KD M H fps H' fps') (g:Agr M ρ ρ') (r':Rep M ρ' σ H' fps') (o:Tmps M.K H' (Zv M vs fps') xs ws fp) (t:Temp M vs H H' fps' fp)
  (hal:∀ i,M.al i=[]) (hv:∀ i∈vs,M.Ms i=false):∃ fps2,KS M H fps H' fps2/\Rep M (Bh (if Dk xs=true then om else 0) vs ρ') σ H' fps2/\OwnL M.K H' (Zf M fps2) (xs.map (·.1)) 0 ws []:=by
 unfold Bh;cases ho:Dk xs with
 | true=>
  rw [if_pos rfl,if_pos rfl];refine ⟨fps',k.ks,r',?_⟩;exact OwnL.freeze (λ _ z=>z) _ om ws fp (λ a ha=>t.ndj a ha) (OwnL.full _ ws fp (o.all (Le ho)))
 | false=>
  rw [if_neg Cs,if_neg (by decide)];exact ⟨Eb vs fps',k.ks.cool,r'.cool hal hv,(o.cold λ a ha z=>t.ndj a ha z.zf).weak λ a h=>Ib h⟩
theorem Xq {v:Vw}{g:TG}{asg:PV->Af->Option Af}{body:Fs}{fa:Fa}{D:Ends} (hal:∀ i,M.al i=[]) (hv:∀ i∈vs,M.Ms i=false) (hg:Dd M [] is g asg) (hq:tS M (GD v fa vs asg body) D σ H):Dr (T8 v M.K (tL M fa vs)) g (tS M body) D σ H:=by
 obtain ⟨ρ,fps,rep,q⟩:=hq;refine ⟨ρ,fps,rep,?_⟩;unfold GD at q;cases ef:fa ρ with
 | no=>rw [ef] at q;exact q
 | exc c=>rw [ef] at q;exact λ H' fps' k=>q _ H' fps' k.ks
 | ok p=>
  obtain ⟨xs,ρ1⟩:=p;rw [ef] at q;intro ws H1 fps1 f1 k1 g1 rep1 o1 t1;dsimp only at q;cases ee:Gw v (xs.map (·.1)) with
  | none=>rw [ee] at q;exact q.elim
  | some els=>
   rw [ee] at q;obtain ⟨fps2,k2,r2,o2⟩:=Rep.seens rep k1 g1 rep1 o1 t1 hal hv;obtain ⟨J,hpre,hJ⟩:=VO ee o2;refine hpre _ ?_;exact Gu (Pq:=λ H fps=>OwnL M.K H (Zf M fps) (xs.map λ (p:PV×Nat)=>p.1) 0 ws []) (els:=els) hg (λ r k o=>o.mono0 λ x v h=>k.stay0 r h) (λ {H fps i} o h=>(hJ H _ o i).1 h) (λ {H fps i} o h=>(hJ H _ o i).2.1 h) (λ {ρ σ H fps i x H'} _ o h y=>(hJ H _ o i).2.2 h x H' y) r2 o2 (RsOk.from k2 q)
theorem wx {v:Vw}{g:TG}{is vI vE vo:List Nat}{asg:PV->Af->Option Af}{test:Fb}{elt:Fx}{fa:Fa}{k n:Nat}{Q:VK}{P:Fm->Prop}
  (hn:σ.length=n) (hP:∀ D,P (M.comp D n vI)) (hal:∀ i,∀ j∈M.al i,M.Ms j=false) (hvI:∀ i∈vI,M.Ms i=false) (hvE:∀ i∈vE,M.Ms i=false) (his:∀ i∈is,n<=i) (hg:∀ D,Dd (M.comp D n vI) vI is g asg)
  (hvo:∀ i,i∈vE->i < n->i∈vo) (hvo2:∀ i∈vo,M.Ms i=false) (hq:tE M (Di v fa k asg test elt) vo σ H Q):
  Jq k (T8 v M.K (tL M fa vI)) g (λ σ H Q=>∃ M',P M'/\tT M' test σ H Q) (λ σ H Q=>∃ M',P M'/\tE M' elt vE σ H Q) σ H Q:=by
 obtain ⟨ρ,fps,rep,q⟩:=hq;refine ⟨ρ,fps,rep,?_⟩;unfold Di at q;cases ef:fa ρ with
 | no=>rw [ef] at q;exact q
 | exc c=>rw [ef] at q;exact q
 | ok p=>
  obtain ⟨xs,ρ1⟩:=p;rw [ef] at q;intro ws H1 fps1 f1 k1 g1 rep1 o1 t1;dsimp only at q;cases ee:Gw v (xs.map (·.1)) with
  | none=>rw [ee] at q;exact q.elim
  | some els=>
   rw [ee] at q;have hl:n=ρ1.length:=by rw [rep1.len];exact hn.symm
   have o0:OwnL M.K H1 (Zv M vI fps1) (xs.map (·.1)) 0 ws []:=o1.cold λ a ha z=>t1.ndj a ha z.zf;obtain ⟨J,hpre,hJ⟩:=VO ee o0;refine hpre _ ?_;have stay:∀ {D H' fps'},H1 D=none->KD M H1 fps1 H' fps'->OwnL M.K H' (Zv (M.plus [D]) vI fps') (xs.map (·.1)) 0 ws []:=λ hD k'=>o0.mono0 λ x v h=>KD.seen rep1 k' hD hvI h;refine Lg (els:=els) hP hl hal hvI hvE his hg hvo hvo2 rep1 (λ {D H' fps' i} hD k' h=>(hJ H' _ (stay hD k') i).1 h) (λ {D H' fps' i} hD k' h=>(hJ H' _ (stay hD k') i).2.1 h) (λ {D H' fps' i x H''} hD k' h y=>(hJ H' _ (stay hD k') i).2.2 h x H'' y) ?_;dsimp only at q;cases ec:Cj k asg test elt els ρ1 [] with
   | no=>rw [ec] at q;exact q.elim
   | exc c=>rw [ec] at q;exact q.elim
   | ok p=>
    obtain ⟨acc,ρ2⟩:=p;rw [ec] at q;exact λ D ws H' fps' fpl k g r hD hD' tm hf=>Qn rep1 k1 g1 q k g r hD hD' tm hf
end
section
variable {X:Cx}{M:Fm}{f g:Fx}{fa:Fa}{vs vs':List Nat}{a b e:Expr}{es:List Expr}{pos p p2:Pos}{σ:St}{H:Hp}{Q:VK}
theorem Yu:∀ {xs:List V}{us:List Ad},Vals xs us->Vals xs.reverse us.reverse
 | _,_,.nil=>.nil
 | _,_,.cons r rr=>by rw [OW,OW];exact (Yu rr).append (.cons r .nil)
theorem OwnL.snoc0 {K:Frag}{H:Hp}{Z:Addr->Prop}{x:PV}{v:V}:∀ {xs:List PV}{ws:List V},OwnL K H Z xs 0 ws []->Own K H Z x 0 v []->OwnL K H Z (xs++[x]) 0 (ws++[v]) []
 | [],ws,h,o=>by
  rw [OwnL] at h;obtain ⟨rfl,_⟩:=h;rw [EW,EW,OwnL];exact ⟨v,[],[],[],rfl,rfl,(λ _ z=>nomatch z),o,by rw [OwnL];exact ⟨rfl,rfl⟩⟩
 | y::xs,ws,h,o=>by
  rw [OwnL] at h;obtain ⟨u,r,f1,f2,rfl,ef,_,o1,o2⟩:=h;obtain ⟨rfl,rfl⟩:f1=[]/\f2=[]:=by simpa using ef.symm
  rw [Fz,Fz,OwnL];exact ⟨u,r++[v],[],[],rfl,rfl,(λ _ z=>nomatch z),o1,OwnL.snoc0 o2 o⟩
theorem OwnL.append0 {K:Frag}{H:Hp}{Z:Addr->Prop}{ys:List PV}{us:List V} (h2:OwnL K H Z ys 0 us []):∀ {xs:List PV}{ws:List V},OwnL K H Z xs 0 ws []->OwnL K H Z (xs++ys) 0 (ws++us) []
 | [],ws,h=>by
  rw [OwnL] at h;obtain ⟨rfl,_⟩:=h;exact h2
 | y::xs,ws,h=>by
  rw [OwnL] at h;obtain ⟨u,r,f1,f2,rfl,ef,_,o1,o2⟩:=h;obtain ⟨rfl,rfl⟩:f1=[]/\f2=[]:=by simpa using ef.symm
  rw [Fz,Fz,OwnL];exact ⟨u,r++us,[],[],rfl,rfl,(λ _ z=>nomatch z),o1,OwnL.append0 h2 o2⟩
theorem OwnL.rev {K:Frag}{H:Hp}{Z:Addr->Prop}:∀ {xs:List PV}{ws:List V},OwnL K H Z xs 0 ws []->OwnL K H Z xs.reverse 0 ws.reverse []
 | [],ws,h=>by
  rw [OwnL] at h;obtain ⟨rfl,_⟩:=h;rw [List.reverse_nil,OwnL];exact ⟨rfl,rfl⟩
 | y::xs,ws,h=>by
  rw [OwnL] at h;obtain ⟨u,r,f1,f2,rfl,ef,_,o1,o2⟩:=h;obtain ⟨rfl,rfl⟩:f1=[]/\f2=[]:=by simpa using ef.symm
  rw [OW,OW];exact OwnL.snoc0 (OwnL.rev o2) o1
def KZ:List (PV×Nat)->Option (PV×Nat)
 | [(.bl b,_)]=>some (.int (if b then 1 else 0),om)
 | [(.int i,_)]=>some (.int i,om)
 | _=>none
def kf (hg:Gl X "int") (hm:X.mg "int" = none) (ha:PA X (e::es) (tL M fa vs)) (he:AE (e::es) X.env=(false,eval e X.env)::AE es X.env) (hpl:(CM pos (AE es X.env)).any (·.1)=false):
  PE X (.Call (.Name "int" p) (e::es) [] pos) (tE M (Am KZ fa) vs):=by
 refine BL (PR yi hg hm rfl ha (he:=he) (hpl:=hpl)) λ σ H Q h=>GQ (λ xs z c ws H fps fp Q ho tm nz zd lf=>?_) h;unfold KZ at ho;split at ho
 ·cases ho;obtain ⟨v,r,f1,f2,rfl,rfl,_,o1,h2⟩:=tm;obtain ⟨rfl,rfl⟩:=h2;rw [Own] at o1;exact .inr ⟨_,by rw [o1.1],D3 lf⟩
 ·cases ho;obtain ⟨v,r,f1,f2,rfl,rfl,_,o1,h2⟩:=tm;obtain ⟨rfl,rfl⟩:=h2;rw [Own] at o1;exact .inl ⟨_,by rw [o1.1],D3 lf⟩
 ·cases ho
end
section
variable {M:Fm}{fa:Fa}{vs:List Nat}
def qc (K:Frag) (F:Fn):Sp:=λ ws H Q _=>∃ x0 v0 fp0,ws=[v0]/\Own K H (λ _=>True) x0 om v0 fp0/\(match F [x0] with
 | .ok (y,_,_)=>O5 y=true/\∀ v H',D1 (λ a=>a∈fp0) H H'->(∀ a,H a≠none->H' a≠none)->Own K H' (λ _=>True) y om v []->Q v H'
 | _=>False)
end
section
variable {X:Cx}{M:Fm}{f g:Fx}{vs vs':List Nat}{σ:St}{H:Hp}{Q:VK}
end
def yF:typeLookup (.type "list_reverseiterator") "__len__" = pure none:=by rw [typeLookup_type,builtinLookup_eq_fast];kernel_rfl
def vD:typeLookup (.type "list_reverseiterator") "__length_hint__" = pure (some (.builtin "list_reverseiterator.__length_hint__")):=by rw [typeLookup_type,builtinLookup_eq_fast];kernel_rfl
section
variable {pg:A8}{wd:A7}{Ar:BK}{Er:Ad->Ai->Prop}{st:Ai}
def jl {Rz':Result->Ai->Prop}{l it:Addr}{xs:Array Ad} (hd0:Ar.handled=none) (lne:l≠it) (hri:st.heap.IsRevIter it l ((xs.size:Int) - 1)) (hl:st.heap.IsList l xs) (hz:xs.size<=Az) (N:Addr) (nI:N≠it) (nl:N≠l) (rv:Ad) (c0:Nat) (hN:st.heap.get? N=some { cls:=.type "list",data:=.seq #[] c0 })
  (good:∀ hp tk out c2,(∀ b o,b≠N->b≠it->st.heap.get? b=some o->hp.get? b=some o)->hp.get? N=some { cls:=.type "list",dict:=none,data:=.seq out c2,slots:=#[] }->ItemsOf (λ i v=>xs[xs.size - 1 - i]?=some v) out xs.size->Rz' (.ok (.ret rv)) { st with heap:=hp,toks:=tk }):
  Ak (Ax pg wd) Ar.in1 (N9 (.ref N) (.ref it) rv) (λ z t=>match z with | .done f=>Rz' (.ok f) t | .again k=>k.quiet=true/\Il (Ax pg wd) Ar k Rz' t) (λ e t=>Rz' (.error e) t) st:=by
 have walk:=(Walks.listRev (prog:=pg) (w:=wd) (A:=Ar.in1) hd0 it l lne xs).toS;have tI:st.TypeIs (.ref it) "list_reverseiterator" := hri.typeIs;have other:Builtin.List.listSameRef (.ref N) (.ref it)=false:=by simp [Builtin.List.listSameRef,nI]
 delta N9;refine Ah (wpAny_typeOf tI ?_);rw [if_neg (by rw [other];decide)];refine Ah (wpAny_pyIter_revIter hri (Ah (Jd ?_)));delta Builtin.List.listLengthHint;refine Ah (Nu tI yF ?_);show Ak _ Ar.in1 (specialOf (Value.ref it) (GH "__length_hint__") >>= _) _ _ _;refine Ah (Nu tI vD ?_);generalize en:("list_reverseiterator.__length_hint__" : String)=nm
 wp_delta
 rw [show splitId nm=some ("list_reverseiterator","__length_hint__") from by subst en;decide +kernel];subst en;refine Ah (Lr (b:=true) tI (by rw [isSubtype_type];kernel_rfl) (Aq ?_));rw [if_neg (by decide)];refine Aq ⟨plainId_quiet F.plain_extend_loop _,codeAny_extend_loopS walk hz _ (by simp [nI,nl]) _ xs.size 0 _ _ _ rfl (Fw _) ⟨Fw _,by simpa using hri,hl⟩ hN (ItemsOf.nil _) λ t out c2 mv hN' all=>?_⟩;rw [Moved.eq_with mv];exact good t.heap t.toks out c2 (λ b o hb hb2 e=>mv.heap b o (by simp [hb,hb2]) e) hN' all
def vL {Qv:Ad->Ai->Prop}{l it:Addr}{xs:Array Ad} (hd0:Ar.handled=none) (lne:l≠it) (hri:st.heap.IsRevIter it l ((xs.size:Int) - 1)) (hl:st.heap.IsList l xs) (hz:xs.size<=Az)
  (good:∀ hp tk out c2,(∀ b o,b≠it->st.heap.get? b=some o->hp.get? b=some o)->hp.get? st.heap.objs.size=some { cls:=.type "list",dict:=none,data:=.seq out c2,slots:=#[] }->ItemsOf (λ i v=>xs[xs.size - 1 - i]?=some v) out xs.size->Qv (.ref st.heap.objs.size) { st with heap:=hp,toks:=tk }):Ak (Ax pg wd) Ar (call (.type "list") [.ref it]) Qv Er st:=by
 let one:Obj:={ cls:=.type "list",data:=.seq #[] }
 refine callType_codes (Q₁:=λ v t=>v=.ref st.heap.objs.size/\t={ st with heap:=st.heap.push one }) F.called_list (F.typeCall_list_1 _) F.entry_list_init (code_list_new _ ⟨rfl,rfl⟩) λ v t made=>?_;obtain ⟨rfl,rfl⟩:=made;have hN:(st.heap.push one).get? st.heap.objs.size=some one:=BR _ rfl;refine ⟨⟨_,hN,rfl⟩,F.args_list_init_2 _ _,?_⟩;have nI:st.heap.objs.size≠it:=λ e=>by obtain ⟨o,ho,_⟩:=hri;exact DM _ (e ▸ AS ho)
 have nl:st.heap.objs.size≠l:=λ e=>by obtain ⟨o,ho,_⟩:=hl;exact DM _ (e ▸ AS ho)
 show Ak _ Ar.in1.in1 (do let old<-Builtin.List.listItems (.ref st.heap.objs.size);Builtin.List.listUpdate (.ref st.heap.objs.size) (λ _=>#[]);letGo old.toList.reverse;N9 (.ref st.heap.objs.size) (.ref it) .none) _ _ _;refine Ah ?_;delta Builtin.List.listItems;refine Ah (Hs hN rfl (Aq ?_));show Ak _ _ (updateSeq st.heap.objs.size (λ _=>#[]) >>= λ _=>letGo (#[]:Array Ad).toList.reverse >>= λ _=>N9 (.ref st.heap.objs.size) (.ref it) .none) _ _ _;refine Ah (wpAny_updateSeq hN rfl (Ah (Nj ?_)));have hN2:=Kr (IZ (λ _=>(#[]:Array Ad))) hN rfl;have BF:∀ b o,b≠st.heap.objs.size->st.heap.get? b=some o->((st.heap.push one).update st.heap.objs.size (IZ (λ _=>(#[]:Array Ad)))).get? b=some o:=λ b o hb e=>(N1 _ _ (BY hb)).trans (Bj _ e);refine jl (Ar:=Ar.in1) hd0 lne (hri.at λ o e=>BF it o (BY nI) e) (hl.at λ o e=>BF l o (BY nl) e) hz st.heap.objs.size nI nl .none _ hN2 λ hp tk out c2 hk hN' all=>?_;exact ⟨rfl,good hp tk out c2 (λ b o hb e=>by
  have hb':b≠st.heap.objs.size:=λ z=>DM _ (z ▸ AS e);exact hk b o hb' hb (BF b o hb' e)) hN' all⟩
end
def yt {its:List Ad}{acc:Array Ad} (h:ItemsOf (λ i v=>its.toArray[its.toArray.size - 1 - i]?=some v) acc its.toArray.size):acc.toList=its.reverse:=by
 obtain ⟨hs,hi⟩:=h;simp only [Cd] at hs hi;refine Zn λ j=>?_;by_cases hj:j < its.length
 ·have e:acc[j]?=some acc[j]:=Array.getElem?_eq_getElem (by omega)
  have:=hi j _ e
  rw [Pb,e,Z7 hj,<- this];simp
 ·rw [FD (by simp;omega),FD (by simp;omega)]
section
variable {X:Cx}{M:Fm}{f:Fx}{vs:List Nat}{a:Expr}{pos p p2 pos2:Pos}
def R3 (K:Frag):V->Hp->VK->Prop:=λ x H1 Q=>∃ l xs,x=.ref l/\Bo K H1 l xs/\∀ p,H1 p=none->Q (.ref p) (Ao H1 p (.lst xs.reverse))
def jJ {te:TE} (hc:X.calm=true) (hgL:Gl X "list") (hmL:X.mg "list" = none) (hgR:Gl X "reversed") (hmR:X.mg "reversed" = none) (ha:PE X a te) (hs:AE [a] X.env=[(false,eval a X.env)]):
  PE X (.Call (.Name "list" p) [.Call (.Name "reversed" p2) [a] [] pos2] [] pos) (Rq (R3 X.K) te):=by
 intro pins s σ H Q I h;refine Nz (GF I hgL hmL boot_list ?_ (by decide) (by decide));refine Ir ?_ rfl rfl;show Ak _ _ (spliced ((false,eval (.Call (.Name "reversed" p2) [a] [] pos2) X.env)::[])) _ _ s;refine Rb ?_;refine Call_ (GF I hgR hmR boot_reversed (Ir ?_ hs rfl));rw [hs];show Ak _ _ (spliced ((false,eval a X.env)::[])) _ _ s;refine Rb (A4 (ha pins s σ H _ I h) λ u s1 ⟨x,H1,I1,r1,q1⟩=>QR ?_);obtain ⟨l,xs,rfl,hq,q⟩:=q1;cases r1;obtain ⟨its,rv,pl,hz⟩:=I1.list hq;have hlen:=rv.length;refine call_reversed_list pl.isList ?_;refine QR ?_;have hT:(s1.heap.push (revObj l ((its.toArray.size:Int) - 1))).IsRevIter s1.heap.objs.size l ((its.toArray.size:Int) - 1):=⟨_,BR _ rfl,rfl,rfl⟩
 have hlt:s1.heap.objs.size < (s1.heap.push (revObj l ((its.toArray.size:Int) - 1))).objs.size:=AS (BR _ rfl);have hne:l≠s1.heap.objs.size:=λ e=>by obtain ⟨o,ho,_⟩:=pl.isList;exact DM _ (e ▸ AS ho)
 refine vL (st:={ s1 with heap:=s1.heap.push (revObj l ((its.toArray.size:Int) - 1)) }) (I1.ok.hd hc) hne hT (pl.isList.at λ o e=>Bj _ e) (by rw [Cd];omega) λ h' tk acc' c' hk hS' hacc=>?_;have ea:=yt hacc;refine ⟨.ref _,_,I1.laid (h':=h') (t':=tk) (o:=.lst xs.reverse) (λ b o e=>hk b o (λ z=>DM _ (z ▸ AS e)) (Bj _ e)) (LW hlt) ?_,rfl,q _ (I1.hok.fresh (LW hlt))⟩;refine ⟨by rw [Zz];exact hz,its.reverse,c',Yu rv,?_⟩;rw [<- ea];exact hS'
def RI:PV->Nat->Option (PV×Nat)
 | .lst xs,_=>some (.lst xs.reverse,d1 xs.reverse)
 | _,_=>none
theorem kg (hK:M.K=X.K) (hc:X.calm=true) (hgL:Gl X "list") (hmL:X.mg "list" = none) (hgR:Gl X "reversed") (hmR:X.mg "reversed" = none) (hs:AE [a] X.env=[(false,eval a X.env)]) (ha:PE X a (tE M f vs)):
  PE X (.Call (.Name "list" p) [.Call (.Name "reversed" p2) [a] [] pos2] [] pos) (tE M (AJ RI f) vs):=by
 refine BL (jJ hc hgL hmL hgR hmR ha hs) λ σ H Q h=>O2 (λ x d z c v H fps f1 Q ho o1 nz zd lf=>?_) h;cases x with
 | lst xs=>
  cases ho;obtain ⟨q,us,rfl,hs,ol⟩:=(cold o1 λ a ha=>nz a ha).coldL;exact ⟨q,us,rfl,.inl (.inl hs),λ l hl=>JB lf (OwnL.rev ol) hl⟩
 | _=>cases ho
end
section
variable {prog:A8}{w:A7}{A:BK}{E:Ad->Ai->Prop}{s:Ai}{a₀:Array Keyed}
end
section
variable {prog:A8}{w:A7}{A:BK}{E:Ad->Ai->Prop}{s:Ai}
end
section
variable {X:Cx}{M:Fm}{fa:Fa}{vs:List Nat}{e:Expr}{es:List Expr}{pos p:Pos}
def ql (ns:List Int):Prop:=ns.length < 64\/(ns.Pairwise (·<=·)/\ns.length<=Az)
instance (ns:List Int):Decidable (ql ns):=inferInstanceAs (Decidable (_\/_))
def yg:zzw X (.builtin "abs") (λ xs H Q=>∃ i:Int,xs=[.int i]/\Q (.int (if i < 0 then -i else i)) H):=by
 intro pins s σ H xs us Q I rv h;obtain ⟨i,rfl,k⟩:=h;obtain ⟨u,rfl,t,rfl⟩:=EM rv;exact call_abs_int λ u tk=>⟨.int _,H,I.tok _,⟨_,rfl⟩,k⟩
def Ow:List (PV×Nat)->Option (PV×Nat)
 | [(.int i,_)]=>some (.int (if i < 0 then -i else i),om)
 | _=>none
def xW (hg:Gl X "abs") (hm:X.mg "abs" = none) (ha:PA X (e::es) (tL M fa vs)) (he:AE (e::es) X.env=(false,eval e X.env)::AE es X.env) (hpl:(CM pos (AE es X.env)).any (·.1)=false):
  PE X (.Call (.Name "abs" p) (e::es) [] pos) (tE M (Am Ow fa) vs):=by
 refine BL (IS yg hg hm rfl ha (he:=he) (hpl:=hpl)) λ σ H Q h=>GQ (λ xs z c ws H fps fp Q ho tm nz zd lf=>?_) h;unfold Ow at ho;split at ho
 ·cases ho;obtain ⟨v,r,f1,f2,rfl,rfl,_,o1,h2⟩:=tm;obtain ⟨rfl,rfl⟩:=h2;rw [Own] at o1;exact ⟨_,by rw [o1.1],D3 lf⟩
 ·cases ho
def DJ:Int->List Int->Int
 | n,[]=>n
 | n,m::r=>DJ (if m > n then m else n) r
theorem XH:∀ (r:List Int) (n:Int),DJ n r∈n::r
 | [],n=>AL
 | m::r,n=>by
  have q:=XH r (if m > n then m else n);show DJ (if m > n then m else n) r∈_;rcases jb4.mp q with z | z
  ·rw [z];split <;> simp
  ·simp [z]
theorem Xk:∀ (r:List Int) (n:Int),∀ a∈n::r,a<=DJ n r
 | [],n,a,h=>by
  have e:a=n:=by simpa using h
  rw [e];exact Dx _
 | m::r,n,a,h=>by
  show a<=DJ (if m > n then m else n) r;have q:=Xk r (if m > n then m else n);have q1:=q _ AL;have q2:n<=(if m > n then m else n)/\m<=(if m > n then m else n):=by split <;> omega
  simp only [jb4] at h;rcases h with z | z | z
  ·omega
  ·omega
  ·exact q a (AM _ z)
def yk (hc:X.calm=true):zzw X (.builtin "max") (λ xs H Q=>∃ (q:Addr) (n:Int) (r:List Int),xs=[.ref q]/\Bo X.K H q ((n::r).map V.int)/\Q (.int (DJ n r)) H):=by
 intro pins s σ H xs us Q I rv h;obtain ⟨q,n,r,rfl,hq,k0⟩:=h;obtain ⟨u,rfl,rx⟩:=EM rv;cases rx;obtain ⟨its,rv2,pl,hz⟩:=I.list hq;obtain ⟨zs,rfl,ez⟩:=JA rv2;have e:(zs.map λ p=>Value.int p.1 p.2).toArray=DW zs.toArray:=by simp [DW]
 rw [e] at pl;have hsz:zs.toArray.size=zs.length:=by simp
 have h0:0 < zs.length:=by
  cases zs with
  | nil=>cases ez
  | cons _ _=>simp
 refine max_intList (I.ok.hd hc) pl.isList (by simpa using h0) λ v h' tk hv k=>?_;obtain ⟨l1,l2⟩:=argBest_gt (CA zs.toArray) (zs.toArray.size - 1);obtain ⟨t,rfl⟩:=Nh hv;generalize argBest (λ i j=>decide (CA zs.toArray i > CA zs.toArray j)) (zs.toArray.size - 1)=b at *;have num:∀ j,(hj:j < zs.length)->CA zs.toArray j=zs[j].1:=λ j hj=>by unfold CA;simp [hj]
 have hm:CA zs.toArray b∈n::r:=by
  rw [num b (by omega),<- ez];exact jd6.mpr ⟨_,IA _,rfl⟩
 have hg:∀ a∈n::r,a<=CA zs.toArray b:=λ a ha=>by
  rw [<- ez] at ha;obtain ⟨z,hz',rfl⟩:=jd6.mp ha;obtain ⟨j,hj,rfl⟩:=Jv hz';rw [<- num j hj];exact l2 j (by omega)
 have eb:CA zs.toArray b=DJ n r:=Int.le_antisymm (Xk r n _ hm) (hg _ (XH r n));exact ⟨.int _,H,I.kept (t':=tk) k,⟨t,rfl⟩,by rw [eb];exact k0⟩
def Hl:List (PV×Nat)->Option (PV×Nat)
 | [(.lst xs,_)]=>match Fo xs with
  | some (n::r)=>some (.int (DJ n r),om)
  | _=>none
 | xs=>OG (λ i j=>if j > i then j else i) xs
def kl (hc:X.calm=true) (hg:Gl X "max") (hm:X.mg "max" = none) (ha:PA X (e::es) (tL M fa vs)) (he:AE (e::es) X.env=(false,eval e X.env)::AE es X.env) (hpl:(CM pos (AE es X.env)).any (·.1)=false):
  PE X (.Call (.Name "max" p) (e::es) [] pos) (tE M (Am Hl fa) vs):=by
 refine BL (IS ((yj hc).or (yk hc)) hg hm rfl ha (he:=he) (hpl:=hpl)) λ σ H Q h=>GQ (λ xs z c ws H fps fp Q ho tm nz zd lf=>?_) h;unfold Hl at ho;split at ho
 ·rename_i xs d;split at ho
  ·rename_i n r eb;cases ho;obtain ⟨v,r',f1,f2,rfl,rfl,_,o1,h2⟩:=tm;obtain ⟨rfl,rfl⟩:=h2;obtain ⟨q,us,rfl,hs,ol⟩:=(cold (fp:=f1) o1 λ a ha=>nz a (BW _ ha)).coldL
   have:=J9 eb ol
   subst this;exact .inr ⟨q,n,r,rfl,.inl (.inl hs),D3 lf⟩
  ·cases ho
 ·exact .inl (Yl ho tm lf)
end
open PySem PySem.Spec PyProof.Rows L2 PySem.Builtin PySem.Builtin.ObjectAttr PySem.Builtin.Getset_descriptor
section
variable {prog:A8}{w:A7}{A:BK}{E:Ad->Ai->Prop}{K:Frag}{h:Heap}{g:Array GenState}{d:Drawn}{t:Nat}{os:OsState}{a C:Addr}{oe:Obj}
end
section
variable {K:Frag}{a C:Addr}{c d:Nat}{u:Ad}
end
section
variable {X:Cx}
end
section
variable {X:Cx}{M:Fm}{f g:Fx}{vs vs':List Nat}{e:Expr}{es:List Expr}{pos p:Pos}{σ:St}{H:Hp}{Q:VK}
end
section
variable {X:Cx}{M:Fm}{a b:Expr}{f g:Fx}{fa:Fa}{vs vs':List Nat}{pos p:Pos}{σ:St}{H:Hp}{Q:VK}{e:Expr}{es:List Expr}
def DI (neg:Bool) (x:PV) (_:Nat) (y:PV) (_:Nat):Option (PV×Nat):=match x,y with
 | .tup ks,.dct kvs=>(Cq ks).map λ k=>(.bl (neg^^(Cm kvs k).isSome),om)
 | .tup key,.dcl ks xs=>(Cq key).map λ k=>(.bl (neg^^(EV ks xs k).isSome),om)
 | _,_=>none
def Jm (neg:Bool):R2:=λ v w H Q=>∃ a o,w=.ref a/\Fg H a v o/\Q (.bl (neg^^o.isSome)) H
def xq (hu:X.A.units + 1 < E8):OpR X (CV .In) (Jm false):=by
 intro pins s σ H x y v u Q I rx ry h;obtain ⟨a,o,rfl,g,q⟩:=h;obtain rfl:u=Value.ref a:=ry;exact TC hu I g rx λ s3 I3=>⟨.bl o.isSome,H,I3,rfl,by simpa using q⟩
def yz (hu:X.A.units + 1 < E8):OpR X (CV .NotIn) (Jm true):=by
 intro pins s σ H x y v u Q I rx ry h;obtain ⟨a,o,rfl,g,q⟩:=h;obtain rfl:u=Value.ref a:=ry;exact jf hu I g rx λ s3 I3=>⟨.bl (!o.isSome),H,I3,rfl,by simpa using q⟩
def Yj {x y z:PV}{d e c:Nat}{v w:V}{fps:AW}{f1 f2 F:List Addr}{Z Z':Addr->Prop}{neg:Bool} (hK:M.K=X.K) (ho:DI neg x d y e=some (z,c)) (o1:Own M.K H Z x d v f1) (o2:Own M.K H Z' y e w f2) (lf:BH M H fps vs F z c Q):Jm neg v w H Q:=by
 unfold DI at ho;split at ho
 ·rename_i ks kvs;obtain ⟨k,ek,e2⟩:=jc0.mp ho;cases e2;rw [Own] at o1;rw [Own] at o2;obtain ⟨b,ws,rfl,hb,ol⟩:=o1
  have:=JV ek ol
  subst this;have h2:∃ a,w=.ref a/\Rd H a (.dT kvs):=by
   obtain ⟨a,ea,⟨_,hr,_⟩ | ⟨_,ha,_⟩⟩:=o2
   ·exact ⟨a,ea,hr.1⟩
   ·exact ⟨a,ea,.inl ha⟩
  obtain ⟨a,rfl,ha⟩:=h2;exact ⟨a,_,rfl,.inr ⟨_,k,b,ha,rfl,hb,rfl⟩,IK lf⟩
 ·rename_i key ks xs;obtain ⟨k,ek,e2⟩:=jc0.mp ho;cases e2;rw [Own] at o1;obtain ⟨b,us,rfl,hb,okey⟩:=o1
  have:=JV ek okey
  subst this;obtain ⟨a,ws,rfl,en,hr,_,ol⟩:=(Own.freeze (Z':=λ _=>False) (λ _ z=>z.elim) _ _ _ _ (λ _ _ z=>z) o2).dcl0;have kv:=SD (k:=k) ol en;have e3:(EV ks xs k).isSome=(Cm (ks.zip ws) k).isSome:=by
   cases ex:EV ks xs k with
   | none=>rw [kv.2 ex];rfl
   | some x=>obtain ⟨w',ew,_⟩:=kv.1 x ex;rw [ew];rfl
  rw [e3] at lf;exact ⟨a,_,rfl,.inr ⟨_,k,b,hr,rfl,hb,rfl⟩,IK lf⟩
 ·cases ho
def Fe:Fx:=λ ρ=>.ok (.dct [],om,ρ)
def zb:PE X (.Dict [] [] pos) (tE M Fe []):=by
 refine BL vU λ σ H Q h p hp=>?_;obtain ⟨ρ,fps,rep,q⟩:=h;refine q (.ref p) _ fps [p] (KD.grow (Ec hp)) Agr.refl (rep.grow (Ec hp)) ?_ ⟨λ a ha=>by rw [jb6.mp ha];exact hp,λ a ha=>by rw [jb6.mp ha];exact rep.nz hp⟩;rw [Own];exact ⟨p,rfl,.inr ⟨by decide,Bu,rfl⟩⟩
end
structure Sx where
 N:List Str
 sc:Bz
 ms:List Nat
 al:List (List Nat)
 Γ:List (Str×(Bool×Nat×Fn))
 Γm:List (Str×Fn)
 rz:Bool
 xc:List Nat
 pn:List Nat
def Sx.alF (S:Sx) (i:Nat):List Nat:=S.al.getD i []
def Sx.msF (S:Sx) (i:Nat):Bool:=S.ms.contains i
def Dj (sc:Bz) (x:Str) (k:Dq):Bool:=sc.names.lookup x == some k
def Dp (sc:Bz) (x:Str):Bool:=Dj sc x .local || Dj sc x .cell || Dj sc x .free
def Jx (N:List Str) (x:Str):Option Nat:=N.findIdx? (·== x)
def Sx.slot (S:Sx) (x:Str):Option Nat:=if Dp S.sc x && !(x == ("__debug__" : Str)) && !(x == ("__classdict__" : Str)) then Jx S.N x else none
def Sx.glob (S:Sx) (x:Str):Bool:=Dj S.sc x .globalImplicit
structure XS (X:Cx) (P:A8) (w:A7) (K:Frag) (mg:Str->Option Ad) (base:Heap) (lvl:Nat) (S:Sx) (Wx:St->Nat->Hp->Prop):Prop where
 prog:X.prog=P
 w:X.w=w
 K:X.K=K
 mg:X.mg=mg
 base:X.base=base
 N:X.N=S.N
 sc:X.env.scope=S.sc
 calm:X.calm=true
 room:Room lvl X.A
 po:Lo (Ax X.prog X.w) X.A X.env X.xe
 ps:SK (AQ X.prog X.w X.K) X Wx
 rs:S.rz=true->W6 X Wx
structure MS (M:Fm) (K:Frag) (S:Sx) (Wx:St->Nat->Hp->Prop):Prop where
 K:M.K=K
 ms:M.Ms=S.msF
 al:∀ i,i < S.N.length->M.al i=S.alF i
 als:∀ i,∀ j∈M.al i,M.Ms j=false
 W:M.W=Wx
 pn:∀ p∈M.pn,p.1 < S.N.length
def HW (P:A8) (w:A7) (K:Frag) (mg:Str->Option Ad) (base:Heap) (lvl:Nat) (Γm:List (Str×Fn)):Prop:=
 ∀ x F,Γm.lookup x=some F->(x == ("__debug__" : Str))=false/\∃ fa fd ps,mg x=some (.ref fa)/\Je K (.ref fa)=true/\qa1 K fd ps []/\FnOk P w K mg base (AQ P w K) lvl fa fd ps (qc K F)
def GX (_:Frag) (_:Str->Option Ad) (xc:List Nat):Prop:=xc=[]
def GS (P:A8) (w:A7) (K:Frag) (mg:Str->Option Ad) (base:Heap) (lvl:Nat) (Γ:List (Str×(Bool×Nat×Fn))):Prop:=
 (∀ x∈zkx,mg x=none)/\∀ x io n F,Γ.lookup x=some (io,n,F)->(x == ("__debug__" : Str))=false/\(∀ xs,xs.length≠n->F xs=.no) /\
  ∃ fa fd ps,mg x=some (.ref fa)/\Je K (.ref fa)=true/\qa1 K fd ps []/\ps.length=n/\FnOk P w K mg base (AQ P w K) lvl fa fd ps (AZ K io n F)
section
variable {X:Cx}{P:A8}{w:A7}{K:Frag}{mg:Str->Option Ad}{base:Heap}{lvl:Nat}{S:Sx}{Wx:St->Nat->Hp->Prop}{M:Fm}
def Gy {sc:Bz}{x:Str}{k:Dq} (h:Dj sc x k=true):sc.names.lookup x=some k:=by
 unfold Dj at h;exact eq_of_beq h
def Wo {sc:Bz}{x:Str} (h:Dp sc x=true):IF sc x:=by
 unfold Dp at h;rw [Gd,Gd] at h;rcases h with (h | h) | h
 ·exact .inl (Gy h)
 ·exact .inr (.inl (Gy h))
 ·exact .inr (.inr (Gy h))
def MU {N:List Str}{x:Str}{i:Nat} (h:Jx N x=some i):N[i]?=some x:=by
 unfold Jx at h;rw [List.findIdx?_eq_some_iff_getElem] at h;obtain ⟨hi,e,_⟩:=h
 have:N[i]=x:=eq_of_beq e
 rw [Ci hi,this]
def XS.var (xs:XS X P w K mg base lvl S Wx) {x:Str}{i:Nat}{pos:Pos} (h:S.slot x=some i):PE X (.Name x pos) (DE i):=by
 unfold Sx.slot at h;split at h
 ·rename_i hc;simp only [Bc,Tu] at hc;exact zv (by rw [xs.N];exact MU h) (by rw [xs.sc];exact Wo hc.1.1) hc.1.2 hc.2
 ·cases h
def XS.gl (xs:XS X P w K mg base lvl S Wx) {x:Str} (h:S.glob x=true):Gl X x:=by
 show X.env.scope.names.lookup x=_;rw [xs.sc];exact Gy h
theorem D4 {e:Expr}{es:List Expr}{env:Env} (h:∀ x p,e≠.Starred x p):AE (e::es) env=(false,eval e env)::AE es env:=by
 cases e with
 | Starred x p=>exact absurd rfl (h x p)
 | _=>rfl
def GR:Expr->Bool
 | .Starred _ _=>false
 | _=>true
def D7 {e:Expr} (h:GR e=true):∀ x p,e≠.Starred x p:=λ x p z=>by rw [z] at h;cases h
theorem Na {env:Env}{pos:Pos}:∀ {es:List Expr},es.all GR=true->(CM pos (AE es env)).any (·.1)=false
 | [],_=>rfl
 | e::es,h=>by
  rw [HD,Bc] at h;rw [D4 (D7 h.1)];show (false || (CM pos (AE es env)).any (·.1))=false;rw [Na h.2];rfl
def KY:Expr->Bool
 | .Slice _ _ _ _=>false
 | _=>true
theorem Qg {b:Expr} (h:KY b=true):M7 b:=by
 intro o i;cases b with
 | Slice _ _ _ _=>cases h
 | _=>rfl
def Vo (b:Expr):Io->Option (PV->Nat->PV->Nat->Option (PV×Nat))
 | .Add=>some Bs
 | .Sub=>some FG
 | .Mult=>some BD
 | .FloorDiv=>some GW
 | .Mod=>some CC
 | .Pow=>some Xn
 | _=>none
def xa {a b:Expr}{op:Io}{o:PV->Nat->PV->Nat->Option (PV×Nat)}{f g:Fx}{vs vs':List Nat}{pos:Pos} (h:Vo b op=some o) (hv:∀ i∈vs,M.Ms i=false) (hK:M.K=X.K) (ha:PE X a (tE M f vs)) (hb:PE X b (tE M g vs')):PE X (.BinOp a op b pos) (tE M (Ab o f g) (vs++vs')):=by
 cases op <;> cases h
 ·exact xX hv hK ha hb
 ·exact OD jF (λ _ _ _=>trivial) hv ha hb
 ·exact zR hv ha hb
 ·exact OD xu (λ _ _=>TJ) hv ha hb
 ·exact OD xx (λ _ _=>TF) hv ha hb
 ·exact OD vR (λ _ _=>TK) hv ha hb
def Gk:Expr->Bool
 | .Set _ _ _=>false
 | _=>true
def RA (b:Expr):E7->Option (PV->Nat->PV->Nat->Option (PV×Nat))
 | .Lt=>some (C1 λ i j=>decide (i < j))
 | .LtE=>some (C1 λ i j=>decide (i<=j))
 | .Gt=>some (C1 λ i j=>decide (j < i))
 | .GtE=>some (C1 λ i j=>decide (j<=i))
 | .Eq=>some (AD false)
 | .NotEq=>some (AD true)
 | .In=>if Gk b=true then some (DI false) else none
 | .NotIn=>if Gk b=true then some (DI true) else none
 | _=>none
theorem WN {op:E7}{b:Expr} (h:Gk b=true):Kh op b=false:=by
 cases b with
 | Set _ _ _=>cases h
 | _=>rfl
def vn {op:E7}{o:PV->Nat->PV->Nat->Option (PV×Nat)}{f g:Fx}{vs vs':List Nat}{b:Expr} (h:RA b op=some o) (hu:X.A.units + 64 < E8) (hv:∀ i∈vs,M.Ms i=false) (hK:M.K=X.K):
  ∃ r,OpR X (CV op) r/\Kh op b=false/\∀ σ H Q,tE M (Ab o f g) (vs++vs') σ H Q->Ks r (tE M f vs) (tE M g vs') σ H Q:=by
 cases op
 ·cases h;exact ⟨_,xt hu,HZ _ (by decide) (by decide),λ σ H Q h=>EI hv (λ x d y e z c v w H fps f1 f2 Q ho o1 o2 dj nz zd lf=>Yk hK ho o1 o2 lf) h⟩
 ·cases h;exact ⟨_,xv hu,HZ _ (by decide) (by decide),λ σ H Q h=>EI hv (λ x d y e z c v w H fps f1 f2 Q ho o1 o2 dj nz zd lf=>Yk hK ho o1 o2 lf) h⟩
 ·cases h;exact ⟨_,V5,HZ _ (by decide) (by decide),λ σ H Q h=>EI hv (λ x d y e z c v w H fps f1 f2 Q ho o1 o2 dj nz zd lf=>MW ho o1 o2 lf) h⟩
 ·cases h;exact ⟨_,V4,HZ _ (by decide) (by decide),λ σ H Q h=>EI hv (λ x d y e z c v w H fps f1 f2 Q ho o1 o2 dj nz zd lf=>MW ho o1 o2 lf) h⟩
 ·cases h;exact ⟨_,V3,HZ _ (by decide) (by decide),λ σ H Q h=>EI hv (λ x d y e z c v w H fps f1 f2 Q ho o1 o2 dj nz zd lf=>MW ho o1 o2 lf) h⟩
 ·cases h;exact ⟨_,V2,HZ _ (by decide) (by decide),λ σ H Q h=>EI hv (λ x d y e z c v w H fps f1 f2 Q ho o1 o2 dj nz zd lf=>MW ho o1 o2 lf) h⟩
 ·cases h
 ·cases h
 ·replace h:(if Gk b=true then some (DI false) else none)=some o:=h;split at h
  ·rename_i hb;cases h;exact ⟨_,xq (by omega),WN hb,λ σ H Q h=>EI hv (λ x d y e z c v w H fps f1 f2 Q ho o1 o2 dj nz zd lf=>Yj hK ho o1 o2 lf) h⟩
  ·cases h
 ·replace h:(if Gk b=true then some (DI true) else none)=some o:=h;split at h
  ·rename_i hb;cases h;exact ⟨_,yz (by omega),WN hb,λ σ H Q h=>EI hv (λ x d y e z c v w H fps f1 f2 Q ho o1 o2 dj nz zd lf=>Yj hK ho o1 o2 lf) h⟩
  ·cases h
def Gn:E7->Option (Int->Int->Bool)
 | .Lt=>some λ i j=>decide (i < j)
 | .LtE=>some λ i j=>decide (i<=j)
 | .Gt=>some λ i j=>decide (j < i)
 | .GtE=>some λ i j=>decide (j<=i)
 | .Eq=>some λ i j=>decide (i=j)
 | _=>none
def jE:OpR X (CV .Eq) (Ft λ i j=>.bl (decide (i=j))):=λ pins s σ H x y v u Q I rx ry h=>qB pins s σ H x y v u Q I rx ry (by
 obtain ⟨i,j,rfl,rfl,q⟩:=h;refine ⟨rfl,?_⟩;rw [WG];exact q)
def YC {op:E7}{p:Int->Int->Bool} (h:Gn op=some p):OpR X (CV op) (Ft λ i j=>.bl (p i j))/\op≠.In/\op≠.NotIn:=by
 cases op <;> cases h
 ·exact ⟨jE,by decide,by decide⟩
 ·exact ⟨V5,by decide,by decide⟩
 ·exact ⟨V4,by decide,by decide⟩
 ·exact ⟨V3,by decide,by decide⟩
 ·exact ⟨V2,by decide,by decide⟩
def EJ (p q:Int->Int->Bool) (f g h:Fx):Fx:=λ ρ=>(f ρ).bind λ (x,_,ρ1)=>(g ρ1).bind λ (y,_,ρ2)=>match x,y with
 | .int i,.int j=>if p i j=true then (h ρ2).bind λ (z,_,ρ3)=>(match z with
  | .int k=>.ok (.bl (q j k),om,ρ3)
  | _=>.no) else .ok (.bl false,om,ρ2)
 | _,_=>.no
theorem Yi {p q:Int->Int->Bool}{f g h:Fx}{vs v1 v2 v3:List Nat}{σ:St}{H:Hp}{Q:VK} (hq:tE M (EJ p q f g h) vs σ H Q):Sn (Ft λ i j=>.bl (p i j)) (Ft λ i j=>.bl (q i j)) (tE M f v1) (tE M g v2) (tE M h v3) σ H Q:=by
 obtain ⟨ρ,fps,rep,qq⟩:=hq;refine ⟨ρ,fps,rep,?_⟩;unfold EJ at qq;cases ef:f ρ with
 | no=>rw [ef] at qq;exact qq
 | exc c=>rw [ef] at qq;exact qq
 | ok p0=>
  obtain ⟨x,d,ρ1⟩:=p0;rw [ef] at qq;intro v H1 fps1 f1 k1 g1 rep1 o1 t1;refine ⟨ρ1,fps1,rep1,?_⟩;dsimp only [Rz.bind] at qq;cases eg:g ρ1 with
  | no=>rw [eg] at qq;exact qq
  | exc c=>rw [eg] at qq;exact λ H' fps' k=>qq H' fps' (k1.trans k)
  | ok p2=>
   obtain ⟨y,e,ρ2⟩:=p2;rw [eg] at qq;intro w H2 fps2 f2 k2 g2 rep2 o2 t2;cases x with
   | int i=>
    cases y with
    | int j=>
     dsimp only at qq;rw [Own] at o1 o2;obtain ⟨rfl,rfl⟩:=o1;obtain ⟨rfl,rfl⟩:=o2;refine ⟨i,j,rfl,rfl,p i j,rfl,?_⟩;by_cases hp:p i j=true
     ·rw [if_pos hp] at qq ⊢;refine ⟨ρ2,fps2,rep2,?_⟩;cases eh:h ρ2 with
      | no=>rw [eh] at qq;exact qq
      | exc c=>rw [eh] at qq;exact λ H' fps' k=>qq H' fps' ((k1.trans k2).trans k)
      | ok p3=>
       obtain ⟨z,c,ρ3⟩:=p3;rw [eh] at qq;intro u H3 fps3 f3 k3 g3 rep3 o3 t3;cases z with
       | int k=>
        dsimp only at qq;rw [Own] at o3;obtain ⟨rfl,rfl⟩:=o3;exact ⟨j,k,rfl,rfl,qq _ H3 fps3 [] ((k1.trans k2).trans k3) ((g1.trans g2).trans g3) rep3 (by rw [Own];exact ⟨rfl,rfl⟩) ⟨λ _ z=>(nomatch z),λ _ z=>nomatch z⟩⟩
       | _=>exact qq.elim
     ·rw [if_neg hp] at qq ⊢;exact qq _ H2 fps2 [] (k1.trans k2) (g1.trans g2) rep2 (by rw [Own];exact ⟨rfl,rfl⟩) ⟨λ _ z=>(nomatch z),λ _ z=>nomatch z⟩
    | _=>exact qq.elim
   | _=>exact qq.elim
def Dh (f g:Fx):Fx:=λ ρ=>(f ρ).bind λ (x,_,ρ1)=>match x with
 | .bl true=>g ρ1
 | .bl false=>.ok (.bl false,om,ρ1)
 | _=>.no
def BN (f g:Fx):Fx:=λ ρ=>(f ρ).bind λ (x,_,ρ1)=>match x with
 | .bl true=>.ok (.bl true,om,ρ1)
 | .bl false=>g ρ1
 | _=>.no
def BV:PV->Nat->Option (PV×Nat)
 | .bl b,_=>some (.bl (!b),om)
 | _,_=>none
variable {f g:Fx}{vs vs':List Nat}{σ:St}{H:Hp}{Q:VK}
theorem MN {f:Fx}{ρ ρ1:Af}{fps fps1:AW}{H H1:Hp} (k1:KD M H fps H1 fps1) (g1:Agr M ρ ρ1) (rep1:Rep M ρ1 σ H1 fps1) (hs:∀ i∈vs,i∈vs')
  (q:match f ρ1 with
   | .ok (x,d,ρ')=>∀ v H' fps' fp,KD M H fps H' fps'->Agr M ρ ρ'->Rep M ρ' σ H' fps'->Own M.K H' (Zt M vs' fps' fp) x d v fp->Temp M vs' H H' fps' fp->Q v H'
   | .exc c=>∀ H' fps',KD M H fps H' fps'->M.W σ c H'
   | .no=>False):tE M f vs σ H1 Q:=by
 refine ⟨ρ1,fps1,rep1,?_⟩;cases eg:f ρ1 with
 | no=>rw [eg] at q;exact q
 | exc c=>rw [eg] at q;exact λ H' fps' k=>q H' fps' (k1.trans k)
 | ok p2=>
  obtain ⟨x,d,ρ2⟩:=p2;rw [eg] at q;exact λ v H' fps' fp k g r o t=>q v H' fps' fp (k1.trans k) (g1.trans g) r (o.weak λ a h=>Zt.mono hs h) ⟨λ a ha=>(by
   have e:=t.new a ha;cases e':H a with
   | none=>rfl
   | some o=>exact absurd e (k1.dom a (by rw [e'];simp))),t.ndj⟩
theorem kz (hq:tE M (Dh f g) (vs++vs') σ H Q):VP (tE M f vs) (tE M g vs') σ H Q:=by
 obtain ⟨ρ,fps,rep,q⟩:=hq;refine ⟨ρ,fps,rep,?_⟩;unfold Dh at q;cases ef:f ρ with
 | no=>rw [ef] at q;exact q
 | exc c=>rw [ef] at q;exact q
 | ok p=>
  obtain ⟨x,d,ρ1⟩:=p;rw [ef] at q;intro v H1 fps1 f1 k1 g1 rep1 o1 t1;dsimp only [Rz.bind] at q;cases x with
  | bl b=>
   rw [Own] at o1;refine ⟨b,o1.1,?_⟩;cases b with
   | true=>exact MN k1 g1 rep1 (λ i hi=>BX _ hi) q
   | false=>exact q (.bl false) H1 fps1 [] k1 g1 rep1 (by rw [Own];exact ⟨rfl,rfl⟩) ⟨λ _ z=>(nomatch z),λ _ z=>nomatch z⟩
  | _=>exact q.elim
theorem zw (hq:tE M (BN f g) (vs++vs') σ H Q):Ly (tE M f vs) (tE M g vs') σ H Q:=by
 obtain ⟨ρ,fps,rep,q⟩:=hq;refine ⟨ρ,fps,rep,?_⟩;unfold BN at q;cases ef:f ρ with
 | no=>rw [ef] at q;exact q
 | exc c=>rw [ef] at q;exact q
 | ok p=>
  obtain ⟨x,d,ρ1⟩:=p;rw [ef] at q;intro v H1 fps1 f1 k1 g1 rep1 o1 t1;dsimp only [Rz.bind] at q;cases x with
  | bl b=>
   rw [Own] at o1;refine ⟨b,o1.1,?_⟩;cases b with
   | false=>exact MN k1 g1 rep1 (λ i hi=>BX _ hi) q
   | true=>exact q (.bl true) H1 fps1 [] k1 g1 rep1 (by rw [Own];exact ⟨rfl,rfl⟩) ⟨λ _ z=>(nomatch z),λ _ z=>nomatch z⟩
  | _=>exact q.elim
theorem k9 (hq:tE M (AJ BV f) vs σ H Q):VG (tE M f vs) σ H Q:=by
 refine O2 (r:=λ x H1 Q=>∃ c,x=.bl c/\Q (.bl (!c)) H1) (λ x d z c v H fps f1 Q ho o1 nz zd lf=>?_) hq;cases x with
 | bl b=>cases ho;rw [Own] at o1;exact ⟨b,o1.1,IK lf⟩
 | _=>cases ho
end
def Cf (c:Fb) (f g:Fx):Fx:=λ ρ=>(c ρ).bind λ (b,ρ1)=>if b=true then f ρ1 else g ρ1
section
variable {X:Cx}{M:Fm}{c:Fb}{f g:Fx}{vs vs':List Nat}{σ:St}{H:Hp}{Q:VK}
theorem zW (hq:tE M (Cf c f g) (vs++vs') σ H Q):Vm (tT M c) (tE M f vs) (tE M g vs') σ H Q:=by
 obtain ⟨ρ,fps,rep,q⟩:=hq;refine ⟨ρ,fps,rep,?_⟩;unfold Cf at q;cases ec:c ρ with
 | no=>rw [ec] at q;exact q
 | exc c=>rw [ec] at q;exact q
 | ok p=>
  obtain ⟨b,ρ1⟩:=p;rw [ec] at q;intro H1 fps1 k1 g1 rep1;dsimp only [Rz.bind] at q;cases b with
  | true=>exact MN k1 g1 rep1 (λ i hi=>BW _ hi) q
  | false=>exact MN k1 g1 rep1 (λ i hi=>BX _ hi) q
def ze {t a b:Expr}{pos:Pos} (ht:PT X t (tT M c)) (ha:PE X a (tE M f vs)) (hb:PE X b (tE M g vs')):PE X (.IfExp t a b pos) (tE M (Cf c f g) (vs++vs')):=BL (vV ht ha hb) λ σ H Q q=>zW q
def Lz (t u v:TT):TT:=λ σ H Q=>t σ H λ c H1=>if c=true then u σ H1 Q else v σ H1 Q
theorem xJ {t a b:Expr}{pos:Pos}{tA tB tC:TT} (ht:PT X t tA) (ha:PT X a tB) (hb:PT X b tC):PT X (.IfExp t a b pos) (Lz tA tB tC):=by
 intro pins s σ H Q I h;rw [arm_isTrue_IfExp];refine Ah (A4 (ht pins s σ H _ I h) λ d s1 ⟨H1,I1,q1⟩=>?_);cases d with
 | true=>exact ha pins s1 σ H1 Q I1 q1
 | false=>exact hb pins s1 σ H1 Q I1 q1
theorem qH:bT (Cf c f g)=λ ρ=>(c ρ).bind λ (b,ρ1)=>if b=true then bT f ρ1 else bT g ρ1:=by
 funext ρ;unfold bT Cf;dsimp only;cases c ρ with
 | no=>rfl
 | exc c=>rfl
 | ok p=>
  obtain ⟨b,ρ1⟩:=p;cases b <;> rfl
theorem zH {Q:Bool->Hp->Prop} (hq:tT M (bT (Cf c f g)) σ H Q):Lz (tT M c) (tT M (bT f)) (tT M (bT g)) σ H Q:=by
 rw [qH] at hq;obtain ⟨ρ,fps,rep,q⟩:=hq;refine ⟨ρ,fps,rep,?_⟩;dsimp only at q;cases ef:c ρ with
 | no=>rw [ef] at q;exact q
 | exc c=>rw [ef] at q;exact q
 | ok p=>
  obtain ⟨b,ρ1⟩:=p;rw [ef] at q;intro H1 fps1 k1 g1 rep1;dsimp only [Rz.bind] at q;cases b with
  | false=>
   refine ⟨ρ1,fps1,rep1,?_⟩;rw [if_neg (by decide)] at q;cases eg:bT g ρ1 with
   | no=>rw [eg] at q;exact q
   | exc c=>rw [eg] at q;exact λ H' fps' k=>q H' fps' (k1.trans k)
   | ok p2=>rw [eg] at q;exact λ H' fps' k g r=>q H' fps' (k1.trans k) (g1.trans g) r
  | true=>
   refine ⟨ρ1,fps1,rep1,?_⟩;rw [if_pos rfl] at q;cases eg:bT f ρ1 with
   | no=>rw [eg] at q;exact q
   | exc c=>rw [eg] at q;exact λ H' fps' k=>q H' fps' (k1.trans k)
   | ok p2=>rw [eg] at q;exact λ H' fps' k g r=>q H' fps' (k1.trans k) (g1.trans g) r
end
def RawD (h:Heap) (d:Addr) (es:Array Ej) (ep:Nat):Prop:=∃ o,h.get? d=some o/\o.ExactDict/\o.data=.dict es ep
def RawD.to {h h':Heap}{d:Addr}{es:Array Ej}{ep:Nat} (x:RawD h d es ep) (k:∀ o,h.get? d=some o->h'.get? d=some o):RawD h' d es ep:=let ⟨o,e,r⟩:=x;⟨o,k o e,r⟩
section
variable {pg:A8}{wd:A7}{Ar:BK}{Er:Ad->Ai->Prop}{st:Ai}{d it:Addr}{es:Array Ej}{ep i:Nat}
def RawD.ty (x:RawD st.heap d es ep):st.TypeIs (.ref d) "dict" := let ⟨o,e,c,_⟩:=x;⟨o,e,c.1⟩
def XX {Qv:Ad->Ai->Prop} (nm:(d == EO)=false) (x:RawD st.heap d es ep)
  (q:Qv (.ref st.heap.objs.size) { st with heap:=st.heap.push { cls:=.type "dict_keyiterator",data:=.fields #[.ref d,.int 0 0,.int es.size 0,.int ep 0] } }):
  Ak (Ax pg wd) Ar (pyIter (.ref d)) Qv Er st:=by
 obtain ⟨o,e1,c1,e2⟩:=id x;have tD:st.TypeIs (.ref d) "dict" := x.ty;refine wpAny_pyIter_slot tD F.slot_dict_iter (FU F.slot_dict_iter tD F.entry_dict_iter ?_ (F.args_dict_iter_1 _));delta vl0.«dict.__iter__»;refine Ah ?_;delta Builtin.Dict.dictSlotNone;refine Ah (Rj tD (show Ak _ _ (pure (Value.ref d)) _ _ st from Aq ?_));show Ak _ _ (Lu d >>= _) _ _ st;delta Lu;rw [if_neg (by rw [nm];exact Cs)];refine Ah (Aq (Ah (Ht e1 e2 (Ah (Kn e1 e2 (Ah (El (Aq ⟨_,rfl,"dict_keyiterator",_,⟨_,BR _ rfl,rfl⟩,F.slot_dict_keyiterator_next.lookup,?_⟩))))))));simpa [D8] using q
def wJ {Qv:Option Ad->Ai->Prop}{e:Ej} (ki:st.heap.IsKeyIter it d i es.size ep) (x:RawD st.heap d es ep) (hx:es[i]?=some e)
  (q:∀ hp,hp.IsKeyIter it d (i + 1) es.size ep->Jb it st.heap hp->Qv (some e.key) { st with heap:=hp }):
  Ak (Ax pg wd) Ar (Ei (.ref it)) Qv Er st:=by
 obtain ⟨u,i1,i2,i3⟩:=id ki;obtain ⟨o,e1,c1,e2⟩:=id x;delta Ei;refine Ah (Ki (Hv (name:=GH "__next__") ki.typeIs NA (FU NA ki.typeIs Vf ?_ (Vg _))));refine Ah (Aq (Ah (Ah ?_)))
 first | refine Ah (NB ki.typeIs (Aq (Ah (Kl i1 i3 ?_)))) | refine Ah (N5 ki.typeIs (Aq (Ah (Kl i1 i3 ?_))))
 simp only [show Lv "dict_keyiterator" = false from by decide,GN,if_false];show Ak _ _ (if (Value.ref d == Value.none)=true then _ else _) _ _ st;have nn:¬ ((Value.ref d == Value.none)=true):=Cs;rw [if_neg nn];refine Ah (Aq (Ah (Ht e1 e2 ?_)));rw [if_neg (by simp)];refine Ah (Aq (Ah (Kn e1 e2 ?_)));rw [if_neg (by simp)];refine Aq ?_;have nl:¬ ((i:Int) < 0):=by omega
 simp only [nl,if_false,Dy,hx];refine Ah ?_
 first | refine Ah (NB ki.typeIs (Aq (Ah (Rh ki.typeIs ?_)))) | refine Ah (N5 ki.typeIs (Aq (Ah (Rh ki.typeIs ?_))))
 show Ak _ _ (setField (.ref it) 1 (D8 ((i:Int) + 1)) >>= _) _ _ st;refine Ah (Km i1 i3 (by simp) ?_);have k2:(st.heap.update it (Lp (·.setIfInBounds 1 (D8 ((i:Int) + 1))))).IsKeyIter it d (i + 1) es.size ep:=
  ⟨_,Kr _ i1 (Rg (Ko i3 _)),(QT ..).trans i2,by rw [Ko i3];simp [D8]⟩
 refine Ah (Jd (Ah (Rh (s:={ st with heap:=st.heap.update it (Lp (·.setIfInBounds 1 (D8 ((i:Int) + 1)))) }) k2.typeIs ?_)));show Ak _ _ (pure e.key) _ _ _;exact Aq (Aq ⟨_,rfl,Aq (q _ k2 (Kq ..))⟩)
end
def kP:Ay->PV
 | .inl i=>.int i
 | .inr x=>.str x
def C4 (k:List Ay):PV:=.tup (k.map kP)
section
variable {X:Cx}
end
section
variable {K:Frag}{H:Hp}{Z:Addr->Prop}
theorem XR:∀ (k:List Ay),OwnL K H Z (k.map kP) 0 (k.map kV) []
 | []=>by rw [GI,GI,OwnL];exact ⟨rfl,rfl⟩
 | k::r=>by
  rw [Be,Be,OwnL];refine ⟨_,_,[],[],rfl,rfl,λ _ z=>(nomatch z),?_,XR r⟩;cases k <;> (show Own K H Z _ 0 _ []) <;> exact ⟨rfl,rfl⟩
end
section
variable {pg:A8}{wd:A7}{Ar:BK}{Er:Ad->Ai->Prop}{st:Ai}{d it:Addr}{es:Array Ej}{ep i:Nat}
def yA {Qv:Option Ad->Ai->Prop} (hd0:Ar.handled=none) (ki:st.heap.IsKeyIter it d i es.size ep) (x:RawD st.heap d es ep) (hge:es.size<=i)
  (q:∀ hp,Heap.ExtBut it st.heap hp->Qv none { st with heap:=hp }):Ak (Ax pg wd) Ar (Ei (.ref it)) Qv Er st:=by
 obtain ⟨u,i1,i2,i3⟩:=id ki;obtain ⟨o,e1,c1,e2⟩:=id x;delta Ei;refine Ah (Ki (Hv (name:=GH "__next__") ki.typeIs NA (FU NA ki.typeIs Vf ?_ (Vg _))));refine Ah (Aq (Ah (Ah ?_)))
 first | refine Ah (NB ki.typeIs (Aq (Ah (Kl i1 i3 ?_)))) | refine Ah (N5 ki.typeIs (Aq (Ah (Kl i1 i3 ?_))))
 simp only [show Lv "dict_keyiterator" = false from by decide,GN,if_false];show Ak _ _ (if (Value.ref d == Value.none)=true then _ else _) _ _ st;have nn:¬ ((Value.ref d == Value.none)=true):=Cs;rw [if_neg nn];refine Ah (Aq (Ah (Ht e1 e2 ?_)));rw [if_neg (by simp)];refine Ah (Aq (Ah (Kn e1 e2 ?_)));rw [if_neg (by simp)];refine Aq ?_;have nl:¬ ((i:Int) < 0):=by omega
 simp only [nl,if_false,Dy,Jw hge];refine Ah ?_
 first | refine Ah (NB ki.typeIs (Aq ?_)) | refine Ah (N5 ki.typeIs (Aq ?_))
 show Ak _ _ (setField (.ref it) 0 .none >>= _) _ _ st;refine Ah (Km i1 i3 (by simp) ?_);show Ak _ _ (newExc (.type "StopIteration") [] >>= _) _ _ _;refine Ah ?_;simp only [newExc,newTuple];refine Ah (El (Ah (m:=Kk _ _) (wpAny_of_eq (a:=Value.none) (by first | rfl | (simp only [Kk];rfl)) (El ?_ (by size_fits)))) (by size_fits));simp only [raiseNew];refine Ah (wpAny_handled ?_);rw [show Ar.in1.handled=none from hd0];refine Ah (Aq (wpAny_throw (E:=_) ?_));refine Ah (Lr (b:=true) (T := "StopIteration") ⟨_,BR _ rfl,rfl⟩ Q9 ?_);exact Aq (q _ (((Kq ..).extBut.push _).push _))
def UL {v:Addr}{Qv:Ad->Ai->Prop} (hv:st.heap.IsValuesView v d) (x:RawD st.heap d es ep)
  (q:Qv (.ref st.heap.objs.size) { st with heap:=st.heap.push { cls:=.type "dict_valueiterator",data:=.fields #[.ref d,.int 0 0,.int es.size 0,.int ep 0] } }):
  Ak (Ax pg wd) Ar (pyIter (.ref v)) Qv Er st:=by
 obtain ⟨ov,hov,hcv,hdv⟩:=id hv;obtain ⟨o,e1,c1,e2⟩:=id x;refine wpAny_pyIter_slot hv.typeIs F.slot_dict_values_iter (FU F.slot_dict_values_iter hv.typeIs F.entry_dict_values_iter ?_ (F.args_dict_values_iter_1 _));delta vl0.«dict_values.__iter__»;refine Ah (Aq ?_);refine Ah ?_;delta Builtin.Dict_items.dictOf;refine Ah (DX hov hdv (x:=.ref d) rfl (Aq ?_));refine Ah ?_;delta Builtin.Dict_items.newIterator;refine Ah (Ht e1 e2 ?_);refine Ah (Kn e1 e2 ?_);have hown:Lv "dict_valueiterator" = false:=by decide
 simp only [hown,GN,if_false];refine El (Aq ⟨_,rfl,"dict_valueiterator",_,⟨_,BR _ rfl,rfl⟩,F.slot_dict_valueiterator_next.lookup,?_⟩);simpa [D8] using q
def yC {Qv:Option Ad->Ai->Prop}{e:Ej} (ki:st.heap.IsValIter it d i es.size ep) (x:RawD st.heap d es ep) (hx:es[i]?=some e)
  (q:∀ hp,hp.IsValIter it d (i + 1) es.size ep->Jb it st.heap hp->Qv (some e.val) { st with heap:=hp }):
  Ak (Ax pg wd) Ar (Ei (.ref it)) Qv Er st:=by
 obtain ⟨u,i1,i2,i3⟩:=id ki;obtain ⟨o,e1,c1,e2⟩:=id x;delta Ei;refine Ah (Ki (Hv (name:=GH "__next__") ki.typeIs ND (FU ND ki.typeIs Vh ?_ (Vj _))));refine Ah (Aq ?_);refine Ah ?_;refine Ah ?_
 first | refine Ah (NC ki.typeIs (Aq ?_)) | refine Ah (N6 ki.typeIs (Aq ?_))
 refine Ah (Kl i1 i3 ?_);simp only [show Lv "dict_valueiterator" = false from by decide,GN,if_false];show Ak _ _ (if (Value.ref d == Value.none)=true then _ else _) _ _ st;rw [if_neg (show ¬ ((Value.ref d == Value.none)=true) from Cs)];refine Ah (Aq ?_);refine Ah (Ht e1 e2 ?_);rw [if_neg (by simp)];refine Ah (Aq ?_);refine Ah (Kn e1 e2 ?_);rw [if_neg (by simp)];refine Aq ?_;simp only [show ¬ ((i:Int) < 0) from by omega,if_false,Dy,hx];refine Ah ?_
 first | refine Ah (NC ki.typeIs (Aq ?_)) | refine Ah (N6 ki.typeIs (Aq ?_))
 refine Ah (Ri ki.typeIs ?_);show Ak _ _ (setField (.ref it) 1 (D8 ((i:Int) + 1)) >>= _) _ _ st;refine Ah (Km i1 i3 (by simp) ?_);have k2:(st.heap.update it (Lp (·.setIfInBounds 1 (D8 ((i:Int) + 1))))).IsValIter it d (i + 1) es.size ep:=
  ⟨_,Kr _ i1 (Rg (Ko i3 _)),(QT ..).trans i2,by rw [Ko i3];simp [D8]⟩
 refine Ah (Jd ?_);refine Ah (Ri (s:={ st with heap:=st.heap.update it (Lp (·.setIfInBounds 1 (D8 ((i:Int) + 1)))) }) k2.typeIs ?_);refine Ah (Ri (s:={ st with heap:=st.heap.update it (Lp (·.setIfInBounds 1 (D8 ((i:Int) + 1)))) }) k2.typeIs ?_);show Ak _ _ (pure e.val) _ _ _;exact Aq (Aq ⟨_,rfl,Aq (q _ k2 (Kq ..))⟩)
def yB {Qv:Option Ad->Ai->Prop} (hd0:Ar.handled=none) (ki:st.heap.IsValIter it d i es.size ep) (x:RawD st.heap d es ep) (hge:es.size<=i)
  (q:∀ hp,Heap.ExtBut it st.heap hp->Qv none { st with heap:=hp }):Ak (Ax pg wd) Ar (Ei (.ref it)) Qv Er st:=by
 obtain ⟨u,i1,i2,i3⟩:=id ki;obtain ⟨o,e1,c1,e2⟩:=id x;delta Ei;refine Ah (Ki (Hv (name:=GH "__next__") ki.typeIs ND (FU ND ki.typeIs Vh ?_ (Vj _))));refine Ah (Aq ?_);refine Ah ?_;refine Ah ?_
 first | refine Ah (NC ki.typeIs (Aq ?_)) | refine Ah (N6 ki.typeIs (Aq ?_))
 refine Ah (Kl i1 i3 ?_);simp only [show Lv "dict_valueiterator" = false from by decide,GN,if_false];show Ak _ _ (if (Value.ref d == Value.none)=true then _ else _) _ _ st;rw [if_neg (show ¬ ((Value.ref d == Value.none)=true) from Cs)];refine Ah (Aq ?_);refine Ah (Ht e1 e2 ?_);rw [if_neg (by simp)];refine Ah (Aq ?_);refine Ah (Kn e1 e2 ?_);rw [if_neg (by simp)];refine Aq ?_;simp only [show ¬ ((i:Int) < 0) from by omega,if_false,Dy,Jw hge];refine Ah ?_
 first | refine Ah (NC ki.typeIs (Aq ?_)) | refine Ah (N6 ki.typeIs (Aq ?_))
 show Ak _ _ (setField (.ref it) 0 .none >>= _) _ _ st;refine Ah (Km i1 i3 (by simp) ?_);show Ak _ _ (newExc (.type "StopIteration") [] >>= _) _ _ _;refine Ah ?_;simp only [newExc,newTuple];refine Ah (El ?_ (by size_fits));refine Ah (m:=Kk _ _) (wpAny_of_eq (a:=Value.none) (by first | rfl | (simp only [Kk];rfl)) ?_);refine El ?_ (by size_fits);simp only [raiseNew];refine Ah (wpAny_handled ?_);rw [show Ar.in1.handled=none from hd0];refine Ah (Aq (wpAny_throw (E:=_) ?_));refine Ah (Lr (b:=true) (T := "StopIteration") ⟨_,BR _ rfl,rfl⟩ Q9 ?_);exact Aq (q _ (((Kq ..).extBut.push _).push _))
end
def Uh (a:Addr) (o:Obj) (kvs:List (List Ay×V)):It:=⟨λ i H=>H a=some (.frz o (.dT kvs))/\i < kvs.length,λ i H v H'=>H'=H/\∃ b p,v=.ref b/\kvs[i]?=some p/\H b=some (.tup (p.1.map kV)),λ i H=>H a=some (.frz o (.dT kvs))/\kvs.length<=i⟩
def Ug (a:Addr) (o:Obj) (kvs:List (List Ay×V)):It:=⟨λ i H=>H a=some (.frz o (.dT kvs))/\i < kvs.length,λ i H v H'=>H'=H/\∃ p,v=p.2/\kvs[i]?=some p,λ i H=>H a=some (.frz o (.dT kvs))/\kvs.length<=i⟩
theorem Qe {α β:Type}{R:α->β->Prop}:∀ {xs:List α}{ys:List β},FP R xs ys->∀ {i:Nat}{x:α},xs[i]?=some x->∃ y,ys[i]?=some y/\R x y
 | _,_,.nil,i,x,e=>by simp at e
 | _,_,.cons h t,0,x,e=>by simp at e;subst e;exact ⟨_,rfl,h⟩
 | _,_,.cons h t,i + 1,x,e=>by
  rw [IE] at e ⊢;exact Qe t e
theorem Qf {α β:Type}{R:α->β->Prop}:∀ {xs:List α}{ys:List β},FP R xs ys->xs.length=ys.length
 | _,_,.nil=>rfl
 | _,_,.cons _ t=>by rw [Bw,Bw,Qf t]
def known {X:Cx}{pins:List (Addr×Obj)}{σ:St}{H:Hp}{s:Ai}{a:Addr}{o:Obj}{kvs:List (List Ay×V)}{es:Array Ej}{ep:Nat} (I:Inv X pins σ H s) (hd:o.data=.dict es ep) (h:H a=some (.frz o (.dT kvs))):
  s.heap.get? a=some o/\o.ExactDict/\es.size=kvs.length/\∀ (i:Nat) (p:List Ay×V),kvs[i]?=some p->∃ (e:Ej) (b:Addr),es[i]?=some e/\e.key=.ref b/\H b=some (.tup (p.1.map kV))/\RelV p.2 e.val:=by
 obtain ⟨e0,hz,nm,ys,pr,o',es',ep',e1,c1,d1,l1,nd⟩:=(show zxr X.prog X.w H s.heap a (.frz o (.dT kvs)) from I.hok a _ h)
 cases e0.symm.trans e1;cases hd.symm.trans d1;have hl:es.size=ys.length:=by rw [<- ID,l1,AG]
 refine ⟨e0,c1,by rw [hl,Qf pr],λ i p hp=>?_⟩;obtain ⟨q,hq,hk,hb,hv⟩:=Qe pr hp;refine ⟨Kf (FQ (De X.prog X.w)) q,q.2.1,?_,rfl,hb,hv⟩;rw [<- Pb,l1,CI,hq];rfl
def UR {P:A8}{w:A7}{K:Frag}{tg:Expr}{o:Obj}{kvs:List (List Ay×V)}{es:Array Ej}{ep:Nat} (hd:o.data=.dict es ep) (a it:Addr):Turn P w K tg (Uh a o kvs) [it] it (λ i h=>h.IsKeyIter it a i es.size ep) where
 mem:=by simp
 obj:=λ i h st b hb=>by
  have e:b=it:=by simpa using hb
  subst e;obtain ⟨o,e,c,d⟩:=st;exact ⟨o,e,λ v z=>by rw [d] at z;cases z⟩
 keep:=λ i h h' st k=>st.at λ o e=>k it (by simp) o e
 item:=by
  intro X hP hw hK hc i pins s σ H E I hf st hg;subst hP hw hK;obtain ⟨h1,hi⟩:=hg;obtain ⟨e0,c0,sz,at'⟩:=known I hd h1;obtain ⟨f0,f1,f2,f3,f4,f5⟩:=hf it (by simp);have hx:kvs[i]?=some kvs[i]:=Ci hi;obtain ⟨en,b,he,ek,hb,_⟩:=at' i _ hx;refine wJ st ⟨o,e0,c0,hd⟩ he λ hp k2 sb=>?_;have I1:Inv X pins σ H { s with heap:=hp }:=I.turned (t':=s.toks) (λ b o hb e=>(sb.2 b hb).trans e) f0 f1 f3 f4 f5;obtain ⟨o',e,c,d⟩:=id k2;refine ⟨en.key,rfl,Jo (s:={ s with heap:=hp }) e c d (by decide) ⟨.ref b,H,I1,ek,⟨rfl,b,_,rfl,hx,hb⟩,k2,λ b hb=>(hf b hb).1⟩⟩
 done:=by
  intro X hP hw hK hc i pins s σ H E I hf st hg;subst hP hw hK;obtain ⟨h1,hi⟩:=hg;obtain ⟨e0,c0,sz,at'⟩:=known I hd h1;obtain ⟨f0,f1,f2,f3,f4,f5⟩:=hf it (by simp);exact yA (I.ok.hd hc) st ⟨o,e0,c0,hd⟩ (by omega) λ h' eb=>⟨rfl,I.turned (t':=s.toks) (λ b o hb e=>eb b o hb e) f0 f1 f3 f4 f5⟩
 self:=λ _ _ _ _ _ st h=>wpAny_pyIter_keyiter st h
def US {P:A8}{w:A7}{K:Frag}{tg:Expr}{o:Obj}{kvs:List (List Ay×V)}{es:Array Ej}{ep:Nat} (hd:o.data=.dict es ep) (a it:Addr):Turn P w K tg (Ug a o kvs) [it] it (λ i h=>h.IsValIter it a i es.size ep) where
 mem:=by simp
 obj:=λ i h st b hb=>by
  have e:b=it:=by simpa using hb
  subst e;obtain ⟨o,e,c,d⟩:=st;exact ⟨o,e,λ v z=>by rw [d] at z;cases z⟩
 keep:=λ i h h' st k=>st.at λ o e=>k it (by simp) o e
 item:=by
  intro X hP hw hK hc i pins s σ H E I hf st hg;subst hP hw hK;obtain ⟨h1,hi⟩:=hg;obtain ⟨e0,c0,sz,at'⟩:=known I hd h1;obtain ⟨f0,f1,f2,f3,f4,f5⟩:=hf it (by simp);have hx:kvs[i]?=some kvs[i]:=Ci hi;obtain ⟨en,b,he,ek,hb,hv⟩:=at' i _ hx;refine yC st ⟨o,e0,c0,hd⟩ he λ hp k2 sb=>?_;have I1:Inv X pins σ H { s with heap:=hp }:=I.turned (t':=s.toks) (λ b o hb e=>(sb.2 b hb).trans e) f0 f1 f3 f4 f5;obtain ⟨o',e,c,d⟩:=id k2;refine ⟨en.val,rfl,Jo (s:={ s with heap:=hp }) e c d (by decide) ⟨kvs[i].2,H,I1,hv,⟨rfl,_,rfl,hx⟩,k2,λ b hb=>(hf b hb).1⟩⟩
 done:=by
  intro X hP hw hK hc i pins s σ H E I hf st hg;subst hP hw hK;obtain ⟨h1,hi⟩:=hg;obtain ⟨e0,c0,sz,at'⟩:=known I hd h1;obtain ⟨f0,f1,f2,f3,f4,f5⟩:=hf it (by simp);exact yB (I.ok.hd hc) st ⟨o,e0,c0,hd⟩ (by omega) λ h' eb=>⟨rfl,I.turned (t':=s.toks) (λ b o hb e=>eb b o hb e) f0 f1 f3 f4 f5⟩
 self:=λ _ _ _ _ _ st h=>wpAny_pyIter_valiter st h
section
variable {X:Cx}{pins:List (Addr×Obj)}{σ:St}{H:Hp}{s:Ai}{a:Addr}{kvs:List (List Ay×V)}{o:Obj}
def Hg (X:Cx) (a:Addr):Prop:=∀ o u,X.H₀ a≠some (.frz o u)
def WJ (I:Inv X pins σ H s) (h:H a=some (.dT kvs)):∃ o es ep,s.heap.get? a=some o/\o.ExactDict/\o.data=.dict es ep/\(a == EO)=false/\Inv X pins σ (Ao H a (.frz o (.dT kvs))) s/\Hg X a:=by
 have hO:=(show zxr X.prog X.w H s.heap a (.dT kvs) from I.hok a _ h)
 obtain ⟨hz,nm,ys,pr,o,es,ep,e1,c1,d1,l1,nd⟩:=id hO;have na:∀ b u,H b=some u->u≠.dT kvs->b≠a:=λ b u q n z=>by subst z;rw [h] at q;cases q;exact n rfl
 have nn:∀ b,H b=none->b≠a:=λ b q z=>by subst z;rw [h] at q;cases q
 have tp:∀ b xs,H b=some (.tup xs)->Ao H a (.frz o (.dT kvs)) b=some (.tup xs):=λ b xs q=>by rw [AH (na b _ q (λ z=>nomatch z))];exact q
 refine ⟨o,es,ep,e1,c1,d1,nm,⟨I.ok,I.os,I.bare,⟨I.base.keep,I.base.slot,λ b ob q n hx=>?_,I.base.there,λ b xs q=>tp b xs (I.base.tups b xs q),λ b ob u q=>?_,λ b ps q=>?_⟩,I.loc,I.cell,?_,λ x c q=>?_,λ p hp=>?_,λ b u q=>?_,I.len⟩,λ ob u z=>?_⟩
 ·have:=I.base.free b ob q n hx
  rw [AH (nn b this)];exact this
 ·have:=I.base.frzs b ob u q
  rw [AH (na b _ this (λ z=>nomatch z))];exact this
 ·obtain ⟨m,z⟩:=I.base.tbls b ps q;exact ⟨m,by rw [AH (na b _ z (λ z=>nomatch z))];exact z⟩
 ·rw [AH (nn _ I.free)];exact I.free
 ·rw [AH (nn _ (I.freeC x c q))];exact I.freeC x c q
 ·obtain ⟨p1,p2,p3⟩:=I.pin p hp;exact ⟨p1,by rw [AH (nn _ p2)];exact p2,p3⟩
 ·have stay:∀ {b:Addr}{u:HO},zxr X.prog X.w H s.heap b u->zxr X.prog X.w (Ao H a (.frz o (.dT kvs))) s.heap b u:=λ x=>x.stay (λ _ _ _ e=>e) (λ c q=>by rw [AH (na c _ q (λ z=>nomatch z))];exact q) tp;by_cases hb:b=a
  ·subst hb;rw [Bu] at q;cases q;exact ⟨e1,stay hO⟩
  ·rw [AH hb] at q;exact stay (I.hok b u q)
 ·have:=I.base.frzs a ob u z
  rw [h] at this;cases this
def O3 (I:Inv X pins σ H s) (h:H a=some (.frz o (.dT kvs))) (hX:Hg X a):Inv X pins σ (Ao H a (.dT kvs)) s:=by
 have hO:=(show zxr X.prog X.w H s.heap a (.frz o (.dT kvs)) from I.hok a _ h)
 have na:∀ b u,H b=some u->u≠.frz o (.dT kvs)->b≠a:=λ b u q n z=>by subst z;rw [h] at q;cases q;exact n rfl
 have nn:∀ b,H b=none->b≠a:=λ b q z=>by subst z;rw [h] at q;cases q
 have tp:∀ b xs,H b=some (.tup xs)->Ao H a (.dT kvs) b=some (.tup xs):=λ b xs q=>by rw [AH (na b _ q (λ z=>nomatch z))];exact q
 refine ⟨I.ok,I.os,I.bare,⟨I.base.keep,I.base.slot,λ b ob q n hx=>?_,I.base.there,λ b xs q=>tp b xs (I.base.tups b xs q),λ b ob u q=>?_,λ b ps q=>?_⟩,I.loc,I.cell,?_,λ x c q=>?_,λ p hp=>?_,λ b u q=>?_,I.len⟩
 ·have:=I.base.free b ob q n hx
  rw [AH (nn b this)];exact this
 ·have:=I.base.frzs b ob u q
  rw [AH (λ z=>hX ob u (by rw [<- z];exact q))];exact this
 ·obtain ⟨m,z⟩:=I.base.tbls b ps q;exact ⟨m,by rw [AH (na b _ z (λ z=>nomatch z))];exact z⟩
 ·rw [AH (nn _ I.free)];exact I.free
 ·rw [AH (nn _ (I.freeC x c q))];exact I.freeC x c q
 ·obtain ⟨p1,p2,p3⟩:=I.pin p hp;exact ⟨p1,by rw [AH (nn _ p2)];exact p2,p3⟩
 ·have stay:∀ {b:Addr}{u:HO},zxr X.prog X.w H s.heap b u->zxr X.prog X.w (Ao H a (.dT kvs)) s.heap b u:=λ x=>x.stay (λ _ _ _ e=>e) (λ c q=>by rw [AH (na c _ q (λ z=>nomatch z))];exact q) tp;by_cases hb:b=a
  ·subst hb;rw [Bu] at q;cases q;exact stay hO.2
  ·rw [AH hb] at q;exact stay (I.hok b u q)
def ER (X:Cx) (D:Ends):Ends where
 nx:=λ σ H=>D.nx σ H\/∃ a o kvs,H a=some (.frz o (.dT kvs))/\Hg X a/\D.nx σ (Ao H a (.dT kvs))
 rt:=λ v H=>D.rt v H\/∃ a o kvs,H a=some (.frz o (.dT kvs))/\Hg X a/\D.rt v (Ao H a (.dT kvs))
 bk:=λ σ H=>D.bk σ H\/∃ a o kvs,H a=some (.frz o (.dT kvs))/\Hg X a/\D.bk σ (Ao H a (.dT kvs))
 ct:=λ σ H=>D.ct σ H\/∃ a o kvs,H a=some (.frz o (.dT kvs))/\Hg X a/\D.ct σ (Ao H a (.dT kvs))
theorem Xe {st:Stmt}{t:TS} (h:PS X st t):PS X st (λ D σ H=>t (ER X D) σ H):=by
 intro pins s σ H D I q;refine A4 (h pins s σ H (ER X D) I q) λ f s' z=>?_;cases f with
 | next=>
  obtain ⟨σ',H',I',q | ⟨a,o,kvs,ha,hX,q⟩⟩:=z
  ·exact ⟨σ',H',I',q⟩
  ·exact ⟨σ',_,O3 I' ha hX,q⟩
 | brk=>
  obtain ⟨σ',H',I',q | ⟨a,o,kvs,ha,hX,q⟩⟩:=z
  ·exact ⟨σ',H',I',q⟩
  ·exact ⟨σ',_,O3 I' ha hX,q⟩
 | cont=>
  obtain ⟨σ',H',I',q | ⟨a,o,kvs,ha,hX,q⟩⟩:=z
  ·exact ⟨σ',H',I',q⟩
  ·exact ⟨σ',_,O3 I' ha hX,q⟩
 | ret u=>
  obtain ⟨v,σ',H',I',r,q | ⟨a,o,kvs,ha,hX,q⟩⟩:=z
  ·exact ⟨v,σ',H',I',r,q⟩
  ·exact ⟨v,σ',_,O3 I' ha hX,r,q⟩
def qW {st:Stmt}{t u:TS} (h:PS X st t) (h':PS X st u):PS X st (λ D σ H=>t D σ H\/u D σ H):=λ pins s σ H D I q=>q.elim (h pins s σ H D I) (h' pins s σ H D I)
def Vv (X:Cx) (tl:TE):TI:=λ σ H R=>tl σ H λ x H1=>∃ a kvs,x=.ref a/\((H1 a=some (.dT kvs)/\∀ o,Hg X a->R (Uh a o kvs) (Ao H1 a (.frz o (.dT kvs))))\/∃ o,H1 a=some (.frz o (.dT kvs))/\R (Uh a o kvs) H1)
def kB {tg l:Expr}{tl:TE} (hl:PE X l tl):PI X tg l (Vv X tl):=by
 intro pins s σ H R I h;refine A4 (hl pins s σ H _ I h) λ v s1 ⟨x,H1,I1,r1,q1⟩=>?_;obtain ⟨a,kvs,rfl,⟨ha,q⟩ | ⟨o,ha,q⟩⟩:=q1
 ·cases r1;obtain ⟨o,es,ep,e0,c0,d0,nm,I2,hX⟩:=WJ I1 ha;refine XX nm ⟨o,e0,c0,d0⟩ ?_;refine ⟨s1.heap.objs.size,[s1.heap.objs.size],_,_,_,rfl,I2.kept (t':=s1.toks) λ b o e=>Bj _ e,UR d0 a _,⟨_,BR _ rfl,rfl,rfl⟩,λ b hb=>?_,q o hX⟩;have e:b=s1.heap.objs.size:=by simpa using hb
  subst e;exact I2.fpOk (AA _) (I2.hok.fresh (AA _))
 ·cases r1;obtain ⟨e0,hz,nm,ys,pr,o',es,ep,e1,c1,d1,l1,nd⟩:=(show zxr X.prog X.w H1 s1.heap a (.frz o (.dT kvs)) from I1.hok a _ ha)
  cases e0.symm.trans e1;refine XX nm ⟨o,e0,c1,d1⟩ ?_;refine ⟨s1.heap.objs.size,[s1.heap.objs.size],_,_,_,rfl,I1.kept (t':=s1.toks) λ b o e=>Bj _ e,UR d1 a _,⟨_,BR _ rfl,rfl,rfl⟩,λ b hb=>?_,q⟩;have e:b=s1.heap.objs.size:=by simpa using hb
  subst e;exact I1.fpOk (AA _) (I1.hok.fresh (AA _))
def ud {pg:A8}{wd:A7} (d:Addr) (hd:(d == EO)=false):
  MeetsIn pg wd (vl0.«dict.values» ⟨[.ref d],[]⟩) (λ _ R s=>s.TypeIs (.ref d) "dict" /\
   R (.ok (.ret (.ref s.heap.objs.size))) { s with heap:=s.heap.push { cls:=.type "dict_values",data:=.fields #[.ref d] } }):=
 .of_wp λ A R s ⟨hm,h⟩=>by
  refine Ah ?_;delta Builtin.Dict.noArgs;refine Ah (Rj hm ?_);show Ak _ _ (pure d) _ _ s;refine Aq ?_;show Ak _ _ (Lu d >>= _) _ _ s;delta Lu;rw [if_neg (by rw [hd];exact Cs)];refine Ah (Aq ?_);exact Ah (El (Aq ⟨_,rfl,h⟩))
def VL (to:TE):TE:=λ σ H Q=>to σ H λ x H1=>∃ a kvs,x=.ref a/\Rd H1 a (.dT kvs)/\∀ v,H1 v=none->Q (.ref v) (Ao H1 v (.ext λ h=>h.IsValuesView v a))
def jK {o:Expr}{to:TE}{apos cpos:Pos} (ho:PE X o to) (hbase:attributeBase o "values" X.env (eval o X.env)=eval o X.env:=by rfl) (hline:(apos.endLine == cpos.line)=true:=by rfl):PE X (.Call (.Attribute o "values" apos) [] [] cpos) (VL to):=by
 intro pins s σ H Q I h;refine wpAny_Call_method0_late hbase hline (A4 (ho pins s σ H _ I h) λ v s1 ⟨x,H1,I1,r1,a,kvs,ex,rd,q⟩=>?_);subst ex;cases r1;obtain ⟨hz,nm,ys,pr,ob,es,ep,e1,c1,d1,l1,nd⟩:=(show zxr X.prog X.w H1 s1.heap a (.dT kvs) from Rd.ok rd I1.hok)
 have ty:s1.TypeIs (.ref a) "dict" := ⟨ob,e1,c1.1⟩
 refine ⟨"dict","dict.values",PySem.F.plainAttrs_dict,PySem.F.slot_dict_values,PySem.F.type_dict_values,ty,λ b e=>by cases e;exact ⟨ob,e1,c1.2.1⟩,Calls.callWith_builtin rfl (PySem.evalArgs_none ?_)⟩;refine call_meetsIn PySem.F.slot_dict_values ty PySem.F.entry_dict_values (PySem.F.args_dict_values_1 _) (ud a nm) ⟨ty,?_⟩;refine ⟨.ref s1.heap.objs.size,_,I1.laid (t':=s1.toks) (λ b o e=>Bj _ e) (AA _) ?_,rfl,q _ (I1.hok.fresh (AA _))⟩;exact ⟨⟨_,BR _ rfl,rfl,rfl⟩,⟨_,BR _ rfl⟩,λ h1 h2 x k=>by obtain ⟨o,e,r⟩:=x;exact ⟨o,k o e,r⟩⟩
def Vx (X:Cx) (tl:TE):TI:=λ σ H R=>tl σ H λ x H1=>∃ v a kvs,x=.ref v/\H1 v=some (.ext λ h=>h.IsValuesView v a)/\((H1 a=some (.dT kvs)/\∀ o,Hg X a->R (Ug a o kvs) (Ao H1 a (.frz o (.dT kvs))))\/∃ o,H1 a=some (.frz o (.dT kvs))/\R (Ug a o kvs) H1)
def kC {tg l:Expr}{tl:TE} (hl:PE X l tl):PI X tg l (Vx X tl):=by
 intro pins s σ H R I h;refine A4 (hl pins s σ H _ I h) λ v s1 ⟨x,H1,I1,r1,q1⟩=>?_;obtain ⟨vv,a,kvs,rfl,hv,q1⟩:=q1;cases r1;have view:s1.heap.IsValuesView vv a:=(show zxr X.prog X.w H1 s1.heap vv (.ext λ h=>h.IsValuesView vv a) from I1.hok vv _ hv).1;rcases q1 with ⟨ha,q⟩ | ⟨o,ha,q⟩
 ·obtain ⟨o,es,ep,e0,c0,d0,nm,I2,hX⟩:=WJ I1 ha;refine UL view ⟨o,e0,c0,d0⟩ ?_;refine ⟨s1.heap.objs.size,[s1.heap.objs.size],_,_,_,rfl,I2.kept (t':=s1.toks) λ b o e=>Bj _ e,US d0 a _,⟨_,BR _ rfl,rfl,rfl⟩,λ b hb=>?_,q o hX⟩;have e:b=s1.heap.objs.size:=by simpa using hb
  subst e;exact I2.fpOk (AA _) (I2.hok.fresh (AA _))
 ·obtain ⟨e0,hz,nm,ys,pr,o',es,ep,e1,c1,d1,l1,nd⟩:=(show zxr X.prog X.w H1 s1.heap a (.frz o (.dT kvs)) from I1.hok a _ ha)
  cases e0.symm.trans e1;refine UL view ⟨o,e0,c1,d1⟩ ?_;refine ⟨s1.heap.objs.size,[s1.heap.objs.size],_,_,_,rfl,I1.kept (t':=s1.toks) λ b o e=>Bj _ e,US d1 a _,⟨_,BR _ rfl,rfl,rfl⟩,λ b hb=>?_,q⟩;have e:b=s1.heap.objs.size:=by simpa using hb
  subst e;exact I1.fpOk (AA _) (I1.hok.fresh (AA _))
end
section
variable {K:Frag}{H H':Hp}{Z:Addr->Prop}{a:Addr}{kvs:List (List Ay×V)}
def xR {kvs':List (List Ay×V)} (h:Rd H a (.dT kvs)) (h':Rd H a (.dT kvs')):kvs'=kvs:=by
 rcases h with h | ⟨o,h⟩ <;> rcases h' with h' | ⟨o',h'⟩ <;> rw [h] at h' <;> cases h' <;> rfl
def qZ {u:HO} (h:Rd H a (.dT kvs)) (h':H a=some u) (n:u≠.dT kvs) (n2:∀ o,u≠.frz o (.dT kvs)):False:=by
 rcases h with h | ⟨o,h⟩
 ·rw [h] at h';cases h';exact n rfl
 ·rw [h] at h';cases h';exact n2 o rfl
variable (k:∀ b u,H b=some u->b≠a->H' b=some u) (ha:Rd H a (.dT kvs)) (ha':Rd H' a (.dT kvs))
include k ha ha'
def VA {b:Addr}{kvs':List (List Ay×V)} (h:Rd H b (.dT kvs')):Rd H' b (.dT kvs'):=by
 by_cases e:b=a
 ·subst e;rw [xR ha h];exact ha'
 ·rcases h with h | ⟨o,h⟩
  ·exact .inl (k b _ h e)
  ·exact .inr ⟨o,k b _ h e⟩
def Jn {b:Addr}{u:HO} (h:H b=some u) (n:u≠.dT kvs) (n2:∀ o,u≠.frz o (.dT kvs)):H' b=some u:=k b u h λ e=>by subst e;exact qZ ha h n n2
mutual
theorem Own.rdAt:∀ (x:PV) (d:Nat) (v:V) (fp:List Addr),a∉fp->Own K H Z x d v fp->Own K H' Z x d v fp
 | .non,_,_,_,_,h=>by rw [Own] at h ⊢;exact h
 | .bl _,_,_,_,_,h=>by rw [Own] at h ⊢;exact h
 | .int _,_,_,_,_,h=>by rw [Own] at h ⊢;exact h
 | .str _,_,_,_,_,h=>by rw [Own] at h ⊢;exact h
 | .emp,_,_,_,_,h=>by
  rw [Own] at h ⊢;obtain ⟨e,b,ev,hb⟩:=h;exact ⟨e,b,ev,Jn k ha ha' hb (λ z=>nomatch z) λ _ z=>nomatch z⟩
 | .dko,_,_,_,_,h=>by
  rw [Own] at h ⊢;obtain ⟨e,b,ev,kk,hb⟩:=h;exact ⟨e,b,ev,kk,Jn k ha ha' hb (λ z=>nomatch z) λ _ z=>nomatch z⟩
 | .scr _,_,_,_,_,h=>by
  rw [Own] at h ⊢;obtain ⟨e,b,ev,⟨o,hb⟩ | hb⟩:=h
  ·exact ⟨e,b,ev,.inl ⟨o,Jn k ha ha' hb (λ z=>nomatch z) λ _ z=>nomatch z⟩⟩
  ·exact ⟨e,b,ev,.inr hb⟩
 | .exn _,_,_,_,_,h=>by
  rw [Own] at h ⊢;obtain ⟨e,b,C,ev,hc,hb⟩:=h;exact ⟨e,b,C,ev,hc,Jn k ha ha' hb (λ z=>nomatch z) λ _ z=>nomatch z⟩
 | .dct kk,d,v,fp,hf,h=>by
  rw [Own] at h ⊢;obtain ⟨b,ev,⟨d0,hr,e⟩ | ⟨d0,hb,e⟩⟩:=h
  ·exact ⟨b,ev,.inl ⟨d0,⟨VA k ha ha' hr.1,hr.2⟩,e⟩⟩
  ·exact ⟨b,ev,.inr ⟨d0,k b _ hb λ z=>hf (by rw [e,<- z];exact AL),e⟩⟩
 | .dcl ks xs,d,v,fp,hf,h=>by
  rw [Own] at h ⊢;obtain ⟨b,vs,ev,en,⟨d0,hr,e,hl⟩ | ⟨d0,f,hb,e,nb,hl⟩⟩:=h
  ·exact ⟨b,vs,ev,en,.inl ⟨d0,⟨VA k ha ha' hr.1,hr.2⟩,e,OwnL.rdAt xs 0 vs [] (λ z=>nomatch z) hl⟩⟩
  ·exact ⟨b,vs,ev,en,.inr ⟨d0,f,k b _ hb (λ z=>hf (by rw [e,<- z];exact AL)),e,nb,OwnL.rdAt xs _ vs f (λ z=>hf (by rw [e];exact AM _ z)) hl⟩⟩
 | .lst xs,d,v,fp,hf,h=>by
  rw [Own] at h ⊢;obtain ⟨b,vs,ev,⟨d0,hr,e,hl⟩ | ⟨d0,f,hb,e,nb,hl⟩⟩:=h
  ·exact ⟨b,vs,ev,.inl ⟨d0,⟨Jn k ha ha' hr.1 (λ z=>nomatch z) (λ _ z=>nomatch z),hr.2⟩,e,OwnL.rdAt xs 0 vs [] (λ z=>nomatch z) hl⟩⟩
  ·exact ⟨b,vs,ev,.inr ⟨d0,f,Jn k ha ha' hb (λ z=>nomatch z) (λ _ z=>nomatch z),e,nb,OwnL.rdAt xs _ vs f (λ z=>hf (by rw [e];exact AM _ z)) hl⟩⟩
 | .tup xs,d,v,fp,hf,h=>by
  rw [Own] at h ⊢;obtain ⟨b,vs,ev,hr,hl⟩:=h;exact ⟨b,vs,ev,Jn k ha ha' hr (λ z=>nomatch z) (λ _ z=>nomatch z),OwnL.rdAt xs _ vs fp hf hl⟩
theorem OwnL.rdAt:∀ (xs:List PV) (d:Nat) (vs:List V) (fp:List Addr),a∉fp->OwnL K H Z xs d vs fp->OwnL K H' Z xs d vs fp
 | [],_,_,_,_,h=>by rw [OwnL] at h ⊢;exact h
 | x::xs,d,vs,fp,hf,h=>by
  rw [OwnL] at h ⊢;obtain ⟨v,r,f1,f2,e1,e,dj,h1,h2⟩:=h;exact ⟨v,r,f1,f2,e1,e,dj,Own.rdAt x d v f1 (λ z=>hf (by rw [e];exact BW _ z)) h1,OwnL.rdAt xs d r f2 (λ z=>hf (by rw [e];exact BX _ z)) h2⟩
end
end
section
variable {M:Fm}{ρ:Af}{σ:St}{H H':Hp}{fps:AW}{a:Addr}{kvs:List (List Ay×V)}
def Rep.rdAt (k:∀ b u,H b=some u->b≠a->H' b=some u) (ha:Rd H a (.dT kvs)) (ha':Rd H' a (.dT kvs)) (hn:∀ i,a∉fps i) (r:Rep M ρ σ H fps):Rep M ρ σ H' fps where
 own:=λ i x d e=>let ⟨v,h1,h2⟩:=r.own i x d e;⟨v,h1,Own.rdAt k ha ha' x d v _ (hn i) h2⟩
 non:=r.non
 dj:=r.dj
 zo:=r.zo
 fr:=r.fr
 zd:=λ b z=>by
  by_cases e:b=a
  ·rw [e];exact Rd.ne ha'
  ·cases e2:H b with
   | none=>exact absurd e2 (r.zd b z)
   | some u=>rw [k b u e2 e];simp
 len:=r.len
 msf:=r.msf
 h0:=λ b z=>by
  by_cases e:b=a
  ·rw [e];exact Rd.ne ha'
  ·cases e2:H b with
   | none=>exact absurd e2 (r.h0 b z)
   | some u=>rw [k b u e2 e];simp
 iov:=r.iov
def OB:Rs->Bool
 | .exc _=>false
 | _=>true
theorem RsOk.known {X:Cx}{D:Ends}{o:Obj}{r:Rs} (h:H a=some (.dT kvs)) (hn:∀ i,a∉fps i) (hX:Hg X a) (ne:OB r=true) (q:RsOk M D H fps r):RsOk M (ER X D) (Ao H a (.frz o (.dT kvs))) fps r:=by
 have back:∀ {H':Hp}{fps':AW},KS M (Ao H a (.frz o (.dT kvs))) fps H' fps'->H' a=some (.frz o (.dT kvs))/\KS M H fps (Ao H' a (.dT kvs)) fps'/\∀ i,a∉fps' i:=λ {H' fps'} ks=>by
  have h1:H' a=some (.frz o (.dT kvs)):=ks.keep a _ Bu λ ⟨i,z⟩=>hn i z;refine ⟨h1,⟨λ b u hb n=>?_,λ b hb=>?_,λ i b hb=>?_⟩,λ i z=>?_⟩
  ·by_cases e:b=a
   ·rw [e] at hb ⊢;rw [Bu,<- hb,h]
   ·rw [AH e];exact ks.keep b u (by rw [AH e];exact hb) n
  ·by_cases e:b=a
   ·rw [e,Bu];simp
   ·rw [AH e];exact ks.dom b (by rw [AH e];exact hb)
  ·rcases ks.sub i b hb with z | z
   ·exact .inl z
   ·by_cases e:b=a
    ·rw [e,Bu] at z;cases z
    ·rw [AH e] at z;exact .inr z
  ·rcases ks.sub i a z with ⟨j,z⟩ | z
   ·exact hn j z
   ·rw [Bu] at z;cases z
 have un:∀ {H':Hp},H' a=some (.frz o (.dT kvs))->∀ b u,H' b=some u->b≠a->Ao H' a (.dT kvs) b=some u:=λ _ b u hb e=>by rw [AH e];exact hb
 cases r with
 | no=>exact q
 | exc c=>cases ne
 | nx ρ'=>exact λ σ' H' fps' ks rep=>let ⟨h1,k2,n2⟩:=back ks;.inr ⟨a,o,kvs,h1,hX,q σ' _ fps' k2 (rep.rdAt (un h1) (.inr ⟨o,h1⟩) (.inl Bu) n2)⟩
 | bk ρ'=>exact λ σ' H' fps' ks rep=>let ⟨h1,k2,n2⟩:=back ks;.inr ⟨a,o,kvs,h1,hX,q σ' _ fps' k2 (rep.rdAt (un h1) (.inr ⟨o,h1⟩) (.inl Bu) n2)⟩
 | ct ρ'=>exact λ σ' H' fps' ks rep=>let ⟨h1,k2,n2⟩:=back ks;.inr ⟨a,o,kvs,h1,hX,q σ' _ fps' k2 (rep.rdAt (un h1) (.inr ⟨o,h1⟩) (.inl Bu) n2)⟩
 | rt x d ρ'=>
  intro v σ' H' fps' fp ks rep own hfp;obtain ⟨h1,k2,n2⟩:=back ks;have nfp:a∉fp:=λ z=>by
   obtain ⟨m,hm⟩:=Own.lsts x d v fp own a z;rw [h1] at hm;cases m <;> cases hm
  exact .inr ⟨a,o,kvs,h1,hX,q v σ' _ fps' fp k2 (rep.rdAt (un h1) (.inr ⟨o,h1⟩) (.inl Bu) n2) (Own.rdAt (un h1) (.inr ⟨o,h1⟩) (.inl Bu) x d v fp nfp own) hfp⟩
theorem RsOk.thaw0 {X:Cx}{D:Ends}{r:Rs} (q:RsOk M D H fps r):RsOk M (ER X D) H fps r:=by
 cases r with
 | no=>exact q
 | exc c=>exact q
 | nx ρ'=>exact λ σ' H' fps' ks rep=>.inl (q σ' H' fps' ks rep)
 | bk ρ'=>exact λ σ' H' fps' ks rep=>.inl (q σ' H' fps' ks rep)
 | ct ρ'=>exact λ σ' H' fps' ks rep=>.inl (q σ' H' fps' ks rep)
 | rt x d ρ'=>exact λ v σ' H' fps' fp ks rep own hfp=>.inl (q v σ' H' fps' fp ks rep own hfp)
end
def ET (r:Rs):Rs:=if OB r=true then r else .no
def Ih (f:Fx) (vs:List Nat) (asg:PV->Af->Option Af) (body:Fs):Fs:=λ ρ=>match f ρ with
 | .ok (.dcl ks _,d,ρ1)=>ET (BQ asg body (ks.map C4) (Bh d vs ρ1))
 | _=>E3 f vs asg body ρ
section
variable {X:Cx}{M:Fm}{ρ ρ':Af}{σ σ':St}{H H':Hp}{fps fps':AW}{vs is:List Nat}
def Xx {D:Ends}{r:Rs} (q:RsOk M D H fps (ET r)):OB r=true/\RsOk M D H fps r:=by
 unfold ET at q;by_cases h:OB r=true
 ·rw [if_pos h] at q;exact ⟨h,q⟩
 ·rw [if_neg h] at q;exact q.elim
def WZ {K:Frag}{Z:Addr->Prop}{b:Addr}{k:List Ay} (h:H b=some (.tup (k.map kV))):Own K H Z (C4 k) 0 (.ref b) []:=by
 unfold C4;rw [Own];exact ⟨b,_,rfl,h,by rw [MJ];exact XR _⟩
def MQ {ks:List (List Ay)}{ws:List V}{i:Nat}{p:List Ay×V} (h:(ks.zip ws)[i]?=some p):ks[i]?=some p.1/\ws[i]?=some p.2:=by
 rw [ZE] at h;exact h
def kU {g:TG}{asg:PV->Af->Option Af}{body:Fs}{f:Fx}{D:Ends} (hal:∀ i,M.al i=[]) (hv:∀ i∈vs,M.Ms i=false) (hg:Dd M [] is g asg) (hq:tS M (Ih f vs asg body) D σ H):
  Dr (EY M.K (tE M f vs)) g (tS M body) D σ H\/Dr (Vv X (tE M f vs)) g (tS M body) (ER X D) σ H:=by
 obtain ⟨ρ,fps,rep,q⟩:=id hq;unfold Ih at q;split at q
 ·rename_i ks xs d ρ1 ef
  right
  refine ⟨ρ,fps,rep,?_⟩;rw [ef];intro v H1 fps1 f1 k1 g1 rep1 o1 t1;obtain ⟨fps2,k2,r2,o2⟩:=Rep.seen rep k1 g1 rep1 o1 t1 hal hv;obtain ⟨ne,q⟩:=Xx q;have q2:=RsOk.from k2 q;obtain ⟨a,ws,rfl,en,hr,nz,ol⟩:=o2.dcl0;have hn:∀ i,a∉fps2 i:=λ i z=>nz (.inr ⟨i,z⟩);have lz:(ks.zip ws).length=(ks.map C4).length:=by rw [Md,AG];have:=ol.length;omega
  refine ⟨a,ks.zip ws,rfl,?_⟩;rcases hr with hr | ⟨o,hr⟩
  ·refine .inl ⟨hr,λ o hX=>?_⟩;have up:∀ b u,H1 b=some u->b≠a->Ao H1 a (.frz o (.dT (ks.zip ws))) b=some u:=λ b u hb e=>by rw [AH e];exact hb
   refine Gu (Pq:=λ H fps=>H a=some (.frz o (.dT (ks.zip ws)))/\∀ i,a∉fps i) (els:=ks.map C4) hg (λ _ ks p=>?_) (λ {H fps i} p h=>⟨p.1,by rw [lz];exact h⟩) (λ {H fps i} p h=>⟨p.1,by rw [lz];exact h⟩) (λ {ρ σ H fps i x H'} _ p h y=>?_) (r2.rdAt up (.inl hr) (.inr ⟨o,Bu⟩) hn) ⟨Bu,hn⟩ (RsOk.known hr hn hX ne q2)
   ·have e:=ks.keep a _ p.1 λ ⟨i,z⟩=>p.2 i z;refine ⟨e,λ i z=>?_⟩;rcases ks.sub i a z with ⟨j,z⟩ | z
    ·exact p.2 j z
    ·rw [p.1] at z;cases z
   ·obtain ⟨rfl,b,p',rfl,hp,hb⟩:=y;refine ⟨λ _ _ h=>h,C4 p'.1,?_,WZ hb⟩;rw [CI,(MQ hp).1];rfl
  ·refine .inr ⟨o,hr,?_⟩;refine Gu (Pq:=λ H fps=>H a=some (.frz o (.dT (ks.zip ws)))/\∀ i,a∉fps i) (els:=ks.map C4) hg (λ _ ks p=>?_) (λ {H fps i} p h=>⟨p.1,by rw [lz];exact h⟩) (λ {H fps i} p h=>⟨p.1,by rw [lz];exact h⟩) (λ {ρ σ H fps i x H'} _ p h y=>?_) r2 ⟨hr,hn⟩ q2.thaw0
   ·have e:=ks.keep a _ p.1 λ ⟨i,z⟩=>p.2 i z;refine ⟨e,λ i z=>?_⟩;rcases ks.sub i a z with ⟨j,z⟩ | z
    ·exact p.2 j z
    ·rw [p.1] at z;cases z
   ·obtain ⟨rfl,b,p',rfl,hp,hb⟩:=y;refine ⟨λ _ _ h=>h,C4 p'.1,?_,WZ hb⟩;rw [CI,(MQ hp).1];rfl
 ·left
  exact SS hal hv hg ⟨ρ,fps,rep,q⟩
def Kv (f:Fx) (vs:List Nat) (asg:PV->Af->Option Af) (body:Fs):Fs:=λ ρ=>match f ρ with
 | .ok (.dcl _ xs,d,ρ1)=>ET (BQ asg body xs (Bh d vs ρ1))
 | _=>.no
def kW {g:TG}{asg:PV->Af->Option Af}{body:Fs}{f:Fx}{D:Ends} (hal:∀ i,M.al i=[]) (hv:∀ i∈vs,M.Ms i=false) (hg:Dd M [] is g asg) (hq:tS M (Kv f vs asg body) D σ H):
  Dr (Vx X (VL (tE M f vs))) g (tS M body) (ER X D) σ H:=by
 obtain ⟨ρ,fps,rep,q⟩:=id hq;unfold Kv at q;split at q
 ·rename_i ks xs d ρ1 ef;refine ⟨ρ,fps,rep,?_⟩;rw [ef];intro v H1 fps1 f1 k1 g1 rep1 o1 t1;obtain ⟨fps2,k2,r2,o2⟩:=Rep.seen rep k1 g1 rep1 o1 t1 hal hv;obtain ⟨ne,q⟩:=Xx q;obtain ⟨a,ws,rfl,en,hr,nz,ol⟩:=o2.dcl0;refine ⟨a,ks.zip ws,rfl,hr,λ vw hvw=>?_⟩;have gr:=Ec (o:=.ext λ h=>h.IsValuesView vw a) hvw;have kv:KS M H1 fps2 (Ao H1 vw (.ext λ h=>h.IsValuesView vw a)) fps2:=(KD.grow gr).ks;have q2:=RsOk.from (k2.trans kv) q;have r3:=r2.grow gr;have o3:=kv.stay0 r2 o2;obtain ⟨a',ws',ea,en',hr',nz',ol'⟩:=o3.dcl0;cases ea;have hn:∀ i,a∉fps2 i:=λ i z=>nz (.inr ⟨i,z⟩);have lz:(ks.zip ws').length=xs.length:=by rw [Md];have:=ol'.length;omega
  have va:vw≠a:=λ z=>by rw [z] at hvw;exact Rd.ne hr hvw
  refine ⟨vw,a,ks.zip ws',rfl,Bu,?_⟩;rcases hr' with hr' | ⟨o,hr'⟩
  ·refine .inl ⟨hr',λ o hX=>?_⟩;let H2:=Ao H1 vw (.ext λ h=>h.IsValuesView vw a);have up:∀ b u,H2 b=some u->b≠a->Ao H2 a (.frz o (.dT (ks.zip ws'))) b=some u:=λ b u hb e=>by rw [AH e];exact hb
   refine Gu (Pq:=λ H fps=>H a=some (.frz o (.dT (ks.zip ws')))/\(∀ i,a∉fps i)/\OwnL M.K H (Zf M fps) xs 0 ws' []) (els:=xs) hg (λ {ρ σ H fps H' fps'} r ks p=>?_) (λ {H fps i} p h=>⟨p.1,by rw [lz];exact h⟩) (λ {H fps i} p h=>⟨p.1,by rw [lz];exact h⟩) (λ {ρ σ H fps i x H'} _ p h y=>?_) (r3.rdAt up (.inl hr') (.inr ⟨o,Bu⟩) hn) ⟨Bu,hn,OwnL.rdAt up (.inl hr') (.inr ⟨o,Bu⟩) xs 0 ws' [] Gf ol'⟩ (RsOk.known hr' hn hX ne q2)
   ·have e:=ks.keep a _ p.1 λ ⟨i,z⟩=>p.2.1 i z;refine ⟨e,λ i z=>?_,?_⟩
    ·rcases ks.sub i a z with ⟨j,z⟩ | z
     ·exact p.2.1 j z
     ·rw [p.1] at z;cases z
    ·exact OwnL.move ks.keep (λ b ⟨i,hb⟩=>⟨.inr ⟨i,hb⟩,r.lsts hb⟩) (λ b hb nzb z=>by
      rcases z with z | ⟨i,z⟩
      ·exact nzb (.inl z)
      ·rcases ks.sub i b z with z | z
       ·exact nzb (.inr z)
       ·exact hb z) xs 0 ws' [] (λ _ z=>nomatch z) p.2.2
   ·obtain ⟨rfl,p',rfl,hp⟩:=y;exact ⟨λ _ _ h=>h,p.2.2.get (MQ hp).2⟩
  ·refine .inr ⟨o,hr',?_⟩;refine Gu (Pq:=λ H fps=>H a=some (.frz o (.dT (ks.zip ws')))/\(∀ i,a∉fps i)/\OwnL M.K H (Zf M fps) xs 0 ws' []) (els:=xs) hg (λ {ρ σ H fps H' fps'} r ks p=>?_) (λ {H fps i} p h=>⟨p.1,by rw [lz];exact h⟩) (λ {H fps i} p h=>⟨p.1,by rw [lz];exact h⟩) (λ {ρ σ H fps i x H'} _ p h y=>?_) r3 ⟨hr',hn,ol'⟩ q2.thaw0
   ·have e:=ks.keep a _ p.1 λ ⟨i,z⟩=>p.2.1 i z;refine ⟨e,λ i z=>?_,?_⟩
    ·rcases ks.sub i a z with ⟨j,z⟩ | z
     ·exact p.2.1 j z
     ·rw [p.1] at z;cases z
    ·exact OwnL.move ks.keep (λ b ⟨i,hb⟩=>⟨.inr ⟨i,hb⟩,r.lsts hb⟩) (λ b hb nzb z=>by
      rcases z with z | ⟨i,z⟩
      ·exact nzb (.inl z)
      ·rcases ks.sub i b z with z | z
       ·exact nzb (.inr z)
       ·exact hb z) xs 0 ws' [] (λ _ z=>nomatch z) p.2.2
   ·obtain ⟨rfl,p',rfl,hp⟩:=y;exact ⟨λ _ _ h=>h,p.2.2.get (MQ hp).2⟩
 ·exact q.elim
end
section
variable {pg:A8}{wd:A7}{Ar:BK}{Er:Ad->Ai->Prop}{st:Ai}{d:Addr}{es:Array Ej}{ep:Nat}
def uy {b:Addr}{Qv:Bool->Ai->Prop} (hT:st.TypeIs (.ref b) "tuple") (q:Qv false st):Ak (Ax pg wd) Ar (Builtin.Dict.quietEq (.ref b)) Qv Er st:=by
 delta Builtin.Dict.quietEq;refine Ah (Nu hT F.slot_tuple_eq.lookup ?_);exact Aq q
def vt {nm:String}{Qv:Array Ej->Ai->Prop} (x:RawD st.heap d es ep) (ht:∀ e∈es.toList,∃ b,e.key=.ref b/\st.TypeIs (.ref b) "tuple") (hh:∀ e∈es.toList,¬ (es.filter (·.hash == e.hash)).size > 1) (q:Qv es st):
  Ak (Ax pg wd) Ar (Vd nm d) Qv Er st:=by
 obtain ⟨o,e1,c1,e2⟩:=id x;delta Vd;refine Ah (Ht e1 e2 ?_);refine Ah ?_;rw [<- Array.forIn_toList];refine wpAny_forIn_list _ (λ BF _ s'=>s'=st/\∀ e∈BF,e∈es.toList) _ ?_ ?_ _ _ ⟨rfl,λ _ h=>h⟩
 ·rintro e BF b s' ⟨rfl,hr⟩;have he:=hr e AL;obtain ⟨b',ek,hT⟩:=ht e he;rw [ek];refine Ah (uy hT ?_);rw [if_pos (by decide),if_neg (hh e he)];exact Aq ⟨rfl,λ z hz=>hr z (AM _ hz)⟩
 ·rintro b s' ⟨rfl,_⟩;exact Aq q
end
def ZG:Ay->Bool
 | .inl _=>true
 | .inr _=>false
def Vt:Ay->Int
 | .inl i=>hashInt i
 | .inr _=>0
def GC (k:List Ay):Int:=reduceHash (Ro (k.map Vt))
def DP (ks:List (List Ay)):Bool:=(ks.all λ k=>k.all ZG) && (ks.all λ k=>decide ((ks.filter λ k'=>GC k' == GC k).length<=1))
theorem jO {P:A8}{w:A7}{k:List Ay} (h:k.all ZG=true):(FQ (De P w)).hash k=GC k:=by
 show reduceHash (Ro (k.map (De P w).hash))=reduceHash (Ro (k.map Vt));congr 2;apply EE;intro x hx
 have:=jb8.mp h x hx
 cases x with
 | inl i=>rfl
 | inr x=>cases this
def ZU {pg:A8}{wd:A7}{Ar:BK}{Er:Ad->Ai->Prop}{st:Ai}{d:Addr}{es:Array Ej}{ep:Nat}{Qv:Ad->Ai->Prop} (nm:(d == EO)=false) (x:RawD st.heap d es ep) (ne:es.size≠0) (hz:es.size<=Az)
  (ht:∀ e∈es.toList,∃ b,e.key=.ref b/\∀ h':Heap,(∀ o,st.heap.get? b=some o->h'.get? b=some o)->Shared.TypeIs { st with heap:=h' } (.ref b) "tuple") (hh:∀ e∈es.toList,¬ (es.filter (·.hash == e.hash)).size > 1)
  (good:∀ h',(∀ b o,st.heap.get? b=some o->h'.get? b=some o)->(∃ o' ep',h'.get? st.heap.objs.size=some o'/\o'.ExactDict/\o'.data=.dict es ep')->Qv (.ref st.heap.objs.size) { st with heap:=h' }):
  Ak (Ax pg wd) Ar (call (.type "dict") [.ref d]) Qv Er st:=by
 refine callType_codes (Q₁:=λ obj s₁=>obj=.ref st.heap.objs.size/\s₁={ st with heap:=st.heap.push { cls:=.type "dict",data:=.dict #[] } }) F.kt_called_dict (F.kt_typeCall_dict_1 _) F.entry_dict_init (kt_code_dict_new _ ⟨rfl,rfl⟩) ?_;rintro obj s₁ ⟨rfl,rfl⟩;obtain ⟨o,e1,c1,e2⟩:=id x;have hl:=AS e1;have hdo:st.heap.objs.size≠d:=λ e=>by rw [e] at hl;exact DM _ hl
 have kp:∀ b ob,st.heap.get? b=some ob->(st.heap.push { cls:=.type "dict",data:=.dict #[] }).get? b=some ob:=λ b ob e=>Bj _ e;have e1':=kp d o e1;have hN:(st.heap.push { cls:=.type "dict",data:=.dict #[] }).get? st.heap.objs.size=some { cls:=.type "dict",data:=.dict #[] }:=BR _ rfl;have tyN:Shared.TypeIs { st with heap:=st.heap.push { cls:=.type "dict",data:=.dict #[] } } (.ref st.heap.objs.size) "dict" := ⟨_,hN,rfl⟩
 have tyO:Shared.TypeIs { st with heap:=st.heap.push { cls:=.type "dict",data:=.dict #[] } } (.ref d) "dict" := ⟨o,e1',c1.1⟩
 refine ⟨tyN,F.args_dict_init_2 _ _,?_⟩;unfold vl0.«dict.__init__»;refine Ah ?_;unfold Builtin.Dict.selfAndRest;refine Ah (Rj tyN ?_);show Ak _ _ (pure (st.heap.objs.size,[Value.ref d])) _ _ _;refine Aq ?_;show Ak _ _ (Builtin.Dict.updateFrom "dict.__init__" st.heap.objs.size (.ref d) [] .none) _ _ _;unfold Builtin.Dict.updateFrom;refine Ah (wpAny_typeOf tyO ?_);rw [if_neg (by decide)];refine Ah ?_;unfold Builtin.Dict.merge;refine Ah ?_;unfold Builtin.Dict.readDirectly;refine Ah (Lr tyO isSubtype_dict_dict ?_);simp only [Bool.not_true,GN,if_false];refine Ah (Nu tyO F.slot_dict_iter.lookup (Aq ?_));simp only [beq_self_eq_true,if_true];refine Ah (Aq ?_);show Ak _ _ (Builtin.Dict.mergeDict "dict.__init__" st.heap.objs.size d) _ _ _;unfold Builtin.Dict.mergeDict;rw [if_neg (by simpa using hdo)];unfold Lu;rw [if_neg (by rw [nm];exact Cs)];refine Ah (Aq ?_);refine Ah (Ht e1' e2 ?_);have few:(decide (es.size<=8) && es.all λ e=>(keyPart e.key).isSome)=false:=by
  have:(es.all λ e=>(keyPart e.key).isSome)=false:=by
   rw [Zm];intro h;have hm:es[0]'(by omega)∈es.toList:=by simp
   obtain ⟨b,ek,_⟩:=ht _ hm
   have:=(Array.all_eq_true.mp h) 0 (by omega)
   rw [ek] at this;cases this
  rw [this,OR]
 dsimp only;rw [few];simp only [Bool.not_false,if_true];refine Ah (Ht hN rfl ?_);simp only [Array.isEmpty_empty,if_true];refine Ah (vt (x.to λ o e=>kp d o e) (λ e he=>?_) hh ?_)
 ·obtain ⟨b,ek,hT⟩:=ht e he;exact ⟨b,ek,hT _ λ o e=>kp b o e⟩
 ·have nem:(!es.isEmpty)=true:=by
   cases he:es.isEmpty with
   | false=>rfl
   | true=>exact absurd (by rw [Array.isEmpty_iff.mp he];rfl) ne
  rw [if_pos nem];refine Ah (wpAny_updateDictKeysTo hN rfl (Aq ?_) (by omega));show Ak _ _ (Builtin.Dict.addKeywords st.heap.objs.size [] >>= _) _ _ _;refine Ah (Aq (Aq ⟨rfl,good _ (λ b ob e=>?_) ⟨_,_,Kr _ hN (Obj.isFreed_of_dict (Obj.data_mapDictKeys rfl _)),?_,Obj.data_mapDictKeys rfl _⟩⟩))
  ·have hb:=AS e;rw [N1 _ _ (EC hb)];exact kp b ob e
  ·exact Obj.ExactDict.mapDictKeys ⟨rfl,rfl,rfl⟩ _
theorem Uo {α β:Type}{R S:α->β->Prop}:∀ {xs:List α}{ys:List β},FP R xs ys->(∀ x y,R x y->S x y)->FP S xs ys
 | _,_,.nil,_=>.nil
 | _,_,.cons h t,f=>.cons (f _ _ h) (Uo t f)
variable {X:Cx}
def yh:zzw X (.type "dict") (λ xs H Q=>∃ a kvs,xs=[.ref a]/\Rd H a (.dT kvs)/\kvs≠[]/\DP (kvs.map (·.1))=true/\∀ l,H l=none->Q (.ref l) (Ao H l (.dT kvs))):=by
 intro pins s σ H xs us Q I r h;obtain ⟨a,kvs,rfl,rd,ne,dk,q⟩:=h;obtain ⟨u,rfl,rx⟩:=EM r;cases rx;obtain ⟨hz,nm,ys,pr,o,es,ep,h1,h2,h3,h4,h5⟩:=(show zxr X.prog X.w H s.heap a (.dT kvs) from Rd.ok rd I.hok)
 have ln:kvs.length=ys.length:=Qf pr;have hl:es.size=ys.length:=by rw [<- ID,h4,AG]
 have kk:ys.map (·.1)=kvs.map (·.1):=by
  clear h4 h5 ln hl hz dk ne q rd h1 h2 h3;induction pr with
  | nil=>rfl
  | cons x _ ih=>rw [Be,Be,ih,x.1]
 unfold DP at dk;rw [Bc,jb8,jb8,<- kk] at dk;have hash:∀ y∈ys,(Kf (FQ (De X.prog X.w)) y).hash=GC y.1:=λ y hy=>jO (dk.1 _ (jd6.mpr ⟨y,hy,rfl⟩));refine ZU nm ⟨o,h1,h2,h3⟩ (λ z=>ne (je6.mp (by omega))) (by omega) (λ e he=>?_) (λ e he=>?_) λ h' kp ⟨o',ep',e1,c1,d1⟩=>?_
 ·rw [h4] at he;obtain ⟨y,hy,rfl⟩:=jd6.mp he;obtain ⟨i,hi,ei⟩:=Jv hy;have hk:kvs[i]?=some (kvs[i]'(by omega)):=Ci _;obtain ⟨y',hy',hp⟩:=Qe pr hk;rw [Ci hi,ei] at hy';cases hy';obtain ⟨_,its,_,ot,et,ct⟩:=(show zxr X.prog X.w H s.heap y.2.1 (.tup _) from I.hok _ _ hp.2.1)
  exact ⟨y.2.1,rfl,λ h' k=>⟨ot,k ot et,ct.1⟩⟩
 ·rw [h4] at he;obtain ⟨y,hy,rfl⟩:=jd6.mp he;have d2:=of_decide_eq_true (dk.2 _ (jd6.mpr ⟨y,hy,rfl⟩));rw [<- ID,Array.toList_filter,h4,Mc,AG];rw [Mc,AG] at d2;have ef:ys.filter ((λ e:Ej=>e.hash == (Kf (FQ (De X.prog X.w)) y).hash) ∘ Kf (FQ (De X.prog X.w)))=ys.filter ((λ k'=>GC k' == GC y.1) ∘ λ x=>x.1):=K5 λ z hz'=>by
   show ((Kf (FQ (De X.prog X.w)) z).hash == _)=(GC z.1 == GC y.1);rw [hash z hz',hash y hy]
  rw [ef];omega
 ·have fr:H s.heap.objs.size=none:=I.hok.fresh (AA _);have pr':FP (λ (p:List Ay×V) (q:List Ay×Addr×Ad)=>p.1=q.1/\Ao H s.heap.objs.size (.dT kvs) q.2.1=some (.tup (p.1.map kV))/\RelV p.2 q.2.2) kvs ys:=by
   have up:∀ b xs,H b=some (.tup xs)->Ao H s.heap.objs.size (.dT kvs) b=some (.tup xs):=λ b xs e=>by rw [AH (JC e fr)];exact e
   exact Uo pr λ p q x=>⟨x.1,up _ _ x.2.1,x.2.2⟩
  refine ⟨.ref s.heap.objs.size,_,I.laid (t':=s.toks) kp (AA _) (show zxr X.prog X.w (Ao H s.heap.objs.size (.dT kvs)) h' s.heap.objs.size (.dT kvs) from ⟨hz,?_,ys,pr',o',es,ep',e1,c1,d1,h4,h5⟩),rfl,q _ fr⟩;have big:=Inv.big I;exact beq_false_of_ne (EC big)
section
variable {X:Cx}{M:Fm}{ρ:Af}{σ:St}{H H':Hp}{fps:AW}{vs:List Nat}{fa:Fa}{Q:VK}{F:List Addr}{e:Expr}{es:List Expr}{p pos:Pos}
def vH {ks:List (List Ay)}{xs:List PV}{ws:List V} (h:BH M H fps vs F (.dcl ks xs) 1 Q) (en:ks.length=xs.length) (o:OwnL M.K H (Zv M vs fps) xs 0 ws []) {p:Addr} (hp:H p=none):Q (.ref p) (Ao H p (.dT (ks.zip ws))):=by
 refine h (.ref p) _ [p] (Ec hp) ?_ λ a ha=>.inr (by rw [jb6.mp ha];exact hp);rw [Own];refine ⟨p,ws,rfl,en,.inr ⟨(by decide),[],Bu,rfl,Gf,?_⟩⟩;rw [Lk];exact OwnL.move (S:=λ _=>False) (λ a u ha _=>Ec hp a u ha) (λ _ z=>z.elim) (λ a hd nz z=>z.elim nz λ z=>hd (by rw [jb6.mp z];exact hp)) xs 0 ws [] (λ _ z=>nomatch z) o
def Lj:List (PV×Nat)->Option (PV×Nat)
 | [(.dcl ks xs,_)]=>if DP ks=true/\ks≠[] then some (.dcl ks xs,1) else none
 | _=>none
def Xw {ks:List (List Ay)}{ws:List V} (h:ks.length=ws.length):(ks.zip ws).map (·.1)=ks:=by
 rw [List.map_fst_zip (by omega)]
def kd (hK:M.K=X.K) (hg:Gl X "dict") (hm:X.mg "dict" = none) (ha:PA X (e::es) (tL M fa vs)) (he:AE (e::es) X.env=(false,eval e X.env)::AE es X.env) (hpl:(CM pos (AE es X.env)).any (·.1)=false):
  PE X (.Call (.Name "dict" p) (e::es) [] pos) (tE M (Am Lj fa) vs):=by
 refine BL (PR yh hg hm rfl ha (he:=he) (hpl:=hpl)) λ σ H Q h=>GQ (λ xs z c ws H fps fp Q ho tm nz zd lf=>?_) h;unfold Lj at ho;split at ho
 ·rename_i ks xs d;split at ho
  ·rename_i hk;cases ho;obtain ⟨v,r,f1,f2,rfl,rfl,_,o1,h2⟩:=tm;obtain ⟨rfl,rfl⟩:=h2;obtain ⟨a,us,rfl,en,hr,_,ol⟩:=(cold (fp:=f1) o1 λ a ha=>nz a (BW _ ha)).dcl0;have el:ks.length=us.length:=by rw [en,ol.length]
   refine ⟨a,_,rfl,hr,λ z=>hk.2 ?_,by rw [Xw el];exact hk.1,λ l hl=>vH lf en ol hl⟩
   have:=Xw el
   rw [z] at this;exact this.symm
  ·cases ho
 ·cases ho
end
def Ue (lo:Int) (n:Nat):It:=⟨λ i _=>i < n,λ i H v H'=>H'=H/\v=.int (lo - (i:Nat)),λ i _=>n<=i⟩
def yJ {P:A8}{w:A7}{K:Frag}{tg:Expr} (it:Addr) (lo:Int) (n:Nat):Turn P w K tg (Ue lo n) [it] it (λ i h=>Ng h it (lo + (i:Nat) * (-1)) ((n:Int) - (i:Nat)) (-1)) where
 mem:=by simp
 obj:=λ i h st b hb=>by
  have e:b=it:=by simpa using hb
  subst e;exact ⟨_,st,λ v z=>by
   have z':Data.fields _=Data.cell v:=z;cases z'⟩
 keep:=λ i h h' st k=>k it (by simp) _ st
 item:=by
  intro X hP hw hK hc i pins s σ H E I hf st hg;subst hP hw hK;obtain ⟨f0,f1,f2,f3,f4,f5⟩:=hf it (by simp);have W:=Walks.range (prog:=X.prog) (w:=X.w) (I.ok.hd hc) it lo (-1) n;refine W.item i s _ _ hg st λ v h' tk hv st' kk=>?_;obtain ⟨t,rfl⟩:=hv;have I1:Inv X pins σ H { s with heap:=h',toks:=tk }:=I.turned (λ b o hb e=>kk b o (by simpa using hb) e) f0 f1 f3 f4 f5;refine ⟨_,rfl,Jo (s:={ s with heap:=h',toks:=tk }) (n := "range_iterator") st' rfl rfl (by decide) ⟨.int (lo - i),H,I1,⟨t,?_⟩,⟨rfl,rfl⟩,st',λ b hb=>(hf b hb).1⟩⟩;rw [show lo + (i:Int) * -1=lo - i by omega]
 done:=by
  intro X hP hw hK hc i pins s σ H E I hf st hg;subst hP hw hK;obtain ⟨f0,f1,f2,f3,f4,f5⟩:=hf it (by simp);exact wpAny_pyNext_range_end (I.ok.hd hc) st (by have:n<=i:=hg;omega) λ h' eb=>⟨rfl,I.turned (t':=s.toks) (λ b o hb e=>eb b o hb e) f0 f1 f3 f4 f5⟩
 self:=λ _ _ _ _ _ st h=>wpAny_pyIter_rangeiter st h
section
variable {X:Cx}{tg:Expr}
def jk {pins:List (Addr×Obj)}{σ:St}{H:Hp}{s:Ai}{R:It->Hp->Prop}{E:Ad->Ai->Prop}{lo hi:Int}{t u v:Tok}{tk:Nat} (I:Inv X pins σ H s) (h1:-(2 ^ 62)<=lo) (h2:lo < 2 ^ 62) (h3:-(2 ^ 62)<=hi) (h4:hi < 2 ^ 62)
  (q:R (Ue lo (lo - hi).toNat) H):Ak (Ax X.prog X.w) X.A (pyIter (.ref s.heap.objs.size)) (Uc X pins σ tg R) E { s with heap:=s.heap.push { cls:=.type "range",data:=.fields #[.int lo t,.int hi u,.int (-1) v] },toks:=tk }:=by
 refine wpAny_pyIter_range (IsRange.new ..) (PySem.W.small_down h1 h2 h3 h4) ?_;have I1:Inv X pins σ H { s with heap:=s.heap.push { cls:=.type "range",data:=.fields #[.int lo t,.int hi u,.int (-1) v] },toks:=tk }:=I.kept λ b o e=>Bj _ e;refine ⟨(s.heap.push { cls:=.type "range",data:=.fields #[.int lo t,.int hi u,.int (-1) v] }).objs.size,[(s.heap.push { cls:=.type "range",data:=.fields #[.int lo t,.int hi u,.int (-1) v] }).objs.size],_,_,H,rfl,
  I1.kept (t':=tk) λ b o e=>Bj _ e,yJ _ lo (lo - hi).toNat,?_,λ b hb=>?_,q⟩
 ·have e1:lo + ((0:Nat):Int) * (-1)=lo:=by simp
  have e2:(((lo - hi).toNat:Nat):Int) - ((0:Nat):Int)=Builtin.Range.rangeSize lo hi (-1):=by rw [PySem.W.rangeSize_downNat];simp
  show Ng _ _ (lo + ((0:Nat):Int) * (-1)) ((((lo - hi).toNat:Nat):Int) - ((0:Nat):Int)) (-1);rw [e1,e2];exact BR _ rfl
 ·have e:b=(s.heap.push { cls:=.type "range",data:=.fields #[.int lo t,.int hi u,.int (-1) v] }).objs.size:=by simpa using hb
  subst e;exact I1.fpOk (AA _) (I1.hok.fresh (AA _))
def Vu (ta:TA):TI:=λ σ H R=>ta σ H λ vs H1=>∃ i j:Int,vs=[.int i,.int j,.int (-1)]/\(-(2 ^ 40)<=i/\i < 2 ^ 40/\-(2 ^ 40)<=j/\j < 2 ^ 40)/\R (Ue i (i - j).toNat) H1
theorem jL {e:Expr}{es:List Expr}{ta:TA}{p pos:Pos} (hg:Gl X "range") (hm:X.mg "range" = none) (ha:PA X (e::es) ta) (he:AE (e::es) X.env=(false,eval e X.env)::AE es X.env) (hpl:(CM pos (AE es X.env)).any (·.1)=false):
  PI X tg (.Call (.Name "range" p) (e::es) [] pos) (Vu ta):=by
 intro pins s σ H R I h;refine Call_ (GF I hg hm boot_range (Ir (A4 (ha pos pins s σ H _ I h) λ us s1 ⟨vs,H1,I1,r1,q1⟩=>?_) he hpl));obtain ⟨i,j,e,⟨q1,q2,q3,q4⟩,q⟩:=q1;subst e;cases r1 with
 | cons r rr=>
  cases rr with
  | cons r' rr=>
   cases rr with
   | cons r'' rr=>
    cases rr;obtain ⟨t,rfl⟩:=r;obtain ⟨t',rfl⟩:=r';obtain ⟨t'',rfl⟩:=r'';exact call_range_3 (by decide) (jk I1 (by omega) (by omega) (by omega) (by omega) q) (.inl (PyProof.noPylong_small (by omega)))
end
section
variable {M:Fm}{ρ:Af}{σ:St}{H:Hp}{fps:AW}{vs is:List Nat}
def GB (i:Int) (n:Nat):List PV:=(A6 n).map λ (k:Nat)=>PV.int (i - (k:Int))
def Ku:List (PV×Nat)->Option (Int×Nat)
 | [(.int i,_),(.int j,_),(.int k,_)]=>if k=-1/\-(2 ^ 40)<=i/\i < 2 ^ 40/\-(2 ^ 40)<=j/\j < 2 ^ 40 then some (i,(i - j).toNat) else none
 | _=>none
def IV (fa:Fa) (asg:PV->Af->Option Af) (body:Fs):Fs:=λ ρ=>match fa ρ with
 | .ok (xs,ρ1)=>(match Ku xs with
  | some (i,n)=>BQ asg body (GB i n) ρ1
  | none=>.no)
 | .exc c=>.exc c
 | .no=>.no
theorem wy {g:TG}{asg:PV->Af->Option Af}{body:Fs}{fa:Fa}{D:Ends} (hg:Dd M [] is g asg) (hq:tS M (IV fa asg body) D σ H):Dr (Vu (tL M fa vs)) g (tS M body) D σ H:=by
 obtain ⟨ρ,fps,rep,q⟩:=hq;refine ⟨ρ,fps,rep,?_⟩;unfold IV at q;cases ef:fa ρ with
 | no=>rw [ef] at q;exact q
 | exc c=>rw [ef] at q;exact λ H' fps' k=>q _ H' fps' k.ks
 | ok p=>
  obtain ⟨xs,ρ1⟩:=p;rw [ef] at q;intro ws H1 fps1 f1 k1 g1 rep1 o1 t1;dsimp only at q;cases ee:Ku xs with
  | none=>rw [ee] at q;exact q.elim
  | some r=>
   obtain ⟨ii,n⟩:=r;rw [ee] at q;dsimp only at q;unfold Ku at ee;split at ee
   ·rename_i i0 d1 j d2 k d3;split at ee
    ·rename_i hc;cases ee;obtain ⟨rfl,hb⟩:=hc;obtain ⟨v1,r1,fa1,fb1,rfl,rfl,_,h1,h2⟩:=o1;obtain ⟨v2,r2,fa2,fb2,rfl,rfl,_,h3,h4⟩:=h2;obtain ⟨v3,r3,fa3,fb3,rfl,rfl,_,h5,h6⟩:=h4;obtain ⟨rfl,rfl⟩:=h6;rw [Own] at h1 h3 h5;obtain ⟨rfl,_⟩:=h1;obtain ⟨rfl,_⟩:=h3;obtain ⟨rfl,_⟩:=h5;refine ⟨ii,j,rfl,hb,?_⟩;have hl:(GB ii (ii - j).toNat).length=(ii - j).toNat:=by unfold GB;rw [AG,Gh]
     refine Gu (Pq:=λ _ _=>True) (els:=GB ii (ii - j).toNat) hg (λ _ _ _=>trivial) (λ {H fps i} _ h=>by rw [hl] at h;exact h) (λ {H fps i} _ h=>by rw [hl] at h;exact h) (λ {ρ σ H fps i x H'} _ _ h y=>?_) rep1 trivial (RsOk.from k1.ks q);obtain ⟨rfl,rfl⟩:=y;refine ⟨λ _ _ h=>h,.int (ii - (i:Nat)),?_,by rw [Own];exact ⟨rfl,rfl⟩⟩;rw [hl] at h;unfold GB;rw [CI,K8 h];rfl
    ·cases ee
   ·cases ee
end
abbrev D2:=Fx×List Nat
def E6 (d:Expr->Option D2):List Expr->Option (Fa×List Nat)
 | []=>some (Ac,[])
 | e::es=>match d e,E6 d es with
  | some (f,v),some (fa,u)=>some (Ae f fa,v++u)
  | _,_=>none
def O7 (d:Expr->Option D2):List Expr->Option D2
 | []=>none
 | [e]=>d e
 | e::es=>match d e,O7 d es with
  | some (f,v),some (g,u)=>some (Dh f g,v++u)
  | _,_=>none
def Ot (d:Expr->Option D2):List Expr->Option D2
 | []=>none
 | [e]=>d e
 | e::es=>match d e,Ot d es with
  | some (f,v),some (g,u)=>some (BN f g,v++u)
  | _,_=>none
def Mm:Const->Option D2
 | .int i=>some (bC (.int i),[])
 | .bool b=>some (bC (.bl b),[])
 | .none=>some (bC .non,[])
 | .str x=>some (bC (.str x),[])
 | _=>none
def Jg (x:Str):Option String:=if x = "int" then some "int" else if x = "bool" then some "bool" else if x = "str" then some "str" else if x = "list" then some "list" else if x = "tuple" then some "tuple" else if x = "dict" then some "dict" else none
def R8 (x:Str):Option (List (PV×Nat)->Option (PV×Nat)):=
 if x = "len" then some GY else if x = "all" then some EL else if x = "max" then some Hl else if x = "min" then some GA else if x = "sum" then some Fl else if x = "list" then some JM else if x = "int" then some KZ else if x = "abs" then some Ow else if x = "dict" then some Lj else none
def Fj (scope sc:Bz):Bz:={ scope with names:=scope.names.map λ (n,k)=>if (k == .free && sc.kind == .function && sc.names.lookup n == some .cell) then (n,.cell) else (n,k) }
def Ta (i:Nat):Str:=⟨#[2000000 + i]⟩
def Iz (sc':Bz):Nat->List Str->List Str
 | _,[]=>[]
 | i,x::r=>(if Dj sc' x .cell || Dj sc' x .free then x else Ta i)::Iz sc' (i + 1) r
def MI:List Expr->Option (List Str)
 | []=>some []
 | .Name x _::r=>(MI r).map (x::·)
 | _=>none
def NH (n:Nat):Expr->Option (List Str×(PV->Af->Option Af))
 | .Name x _=>some ([x],asgN n)
 | .Tuple es _ _=>(MI es).map λ xs=>(xs,asgT (K0 n xs.length))
 | _=>none
def Mh:Expr->Bool
 | .Tuple _ _ _=>true
 | _=>false
def Bg (S:Sx) (scope:Bz) (xs:List Str) (vI:List Nat):Sx:=⟨Iz (Fj scope S.sc) 0 S.N++xs,Fj scope S.sc,S.ms,(A6 S.N.length).map S.alF++AK xs.length vI,S.Γ,S.Γm,false,S.xc,S.pn⟩
def MB (S:Sx) (scope:Bz) (xs:List Str) (vI:List Nat):Bool:=
 let S':=Bg S scope xs vI;decide (scope.kind=.function) && scope.names.all (λ x=>x.2 != .free || !(scope.names.contains (x.1,.cell))) && scope.names.all (λ x=>x.2 != .local || scope.names.lookup x.1 == some .local)
 && scope.names.all (λ x=>x.2 != .free || (S.sc.names.lookup x.1 == some .cell || S.sc.names.lookup x.1 == some .free))
 && (A6 S.N.length).all (λ i=>match S'.N[i]? with
  | some x=>!Dp S'.sc x || (decide (S.N[i]?=some x) && Dp S.sc x && scope.names.contains (x,.free) && !Dj S'.sc x .local)
  | none=>true)
 && decide S'.N.Nodup && xs.all (λ x=>Dj S'.sc x .local || (Dj S'.sc x .cell && scope.names.contains (x,.cell))) && decide (S.N.length≠0) && (S.ms.all λ i=>decide (i < S.N.length))
inductive Iw where
 | rng (en:List (PV×Nat)->Option (Int×Int)) (fa:Fa) (vs:List Nat)
 | seq (f:Fx) (vs:List Nat)
 | vw (v:Vw) (fa:Fa) (vs:List Nat)
def Iw.vs:Iw->List Nat
 | .rng _ _ _=>[]
 | .seq _ vs=>vs
 | .vw _ _ vs=>vs
def FV (tg:Expr):Iw->Bool
 | .vw .enm _ _=>Mh tg
 | .vw .zp _ _=>Mh tg
 | _=>true
def Fd (d:Expr->Option D2) (S:Sx) (it:Expr):Option Iw:=match it with
 | .Call (.Name x _) [a] [] _=>if x = "range" /\ S.glob "range" = true then (match E6 d [a] with
   | some (fa,vs)=>some (.rng BI fa vs)
   | none=>none) else if x = "enumerate" /\ S.glob "enumerate" = true then (match E6 d [a] with
   | some (fa,vs)=>some (.vw .enm fa vs)
   | none=>none) else (match d it with
   | some (f,vs)=>some (.seq f vs)
   | none=>none)
 | .Call (.Name x _) [a,b] [] _=>if x = "range" /\ S.glob "range" = true then (match E6 d [a,b] with
   | some (fa,vs)=>some (.rng FL fa vs)
   | none=>none) else if x = "zip" /\ S.glob "zip" = true then (match E6 d [a,b] with
   | some (fa,vs)=>some (.vw .zp fa vs)
   | none=>none) else (match d it with
   | some (f,vs)=>some (.seq f vs)
   | none=>none)
 | _=>match d it with
   | some (f,vs)=>some (.seq f vs)
   | none=>none
def LA (iw:Iw) (k:Nat) (asg:PV->Af->Option Af) (test:Fb) (elt:Fx):Fx:=match iw with
 | .rng en fa _=>DC en fa k asg test elt
 | .seq f _=>Cz f k asg test elt
 | .vw v fa _=>Di v fa k asg test elt
def Bp:Fb:=λ ρ=>.ok (true,ρ)
def O8 (d:Expr->Option D2):List Expr->Option Fb
 | []=>some Bp
 | [c]=>(d c).map λ p=>bT p.1
 | _=>none
def Wb:Expr->Bool
 | .UnaryOp .USub c _=>(match c with
  | .Constant k _ _=>(match k with
   | .int i=>i == 1
   | _=>false)
  | _=>false)
 | _=>false
def da {e:Expr} (h:Wb e=true):∃ k p3 p4,e=.UnaryOp .USub (.Constant (.int 1) k p3) p4:=by
 unfold Wb at h;split at h
 ·split at h
  ·split at h
   ·rename_i i
    have:i=1:=eq_of_beq h
    subst this;exact ⟨_,_,_,rfl⟩
   ·cases h
  ·cases h
 ·cases h
def Js:Expr->Option Str
 | .Name x _=>some x
 | _=>none
def JL {e:Expr}{x:Str} (h:Js e=some x):∃ p,e=.Name x p:=by
 cases e <;> first | (cases h;exact ⟨_,rfl⟩) | (cases h)
def T6:Expr->Option Int
 | .Constant c _ _=>(match c with
  | .int i=>some i
  | _=>none)
 | _=>none
def xB {e:Expr}{i:Int} (h:T6 e=some i):∃ k p,e=.Constant (.int i) k p:=by
 unfold T6 at h;split at h
 ·split at h
  ·cases h;exact ⟨_,_,rfl⟩
  ·cases h
 ·cases h
def VY (d:Sx->Expr->Option D2) (S:Sx) (a:Expr):Option Expr->Option Expr->Option Expr->Option D2
 | none,some hi,none=>match d S a,d S hi with
  | some (f,v),some (g,_)=>some (D0 f none (some g),v)
  | _,_=>none
 | some lo,none,none=>match d S a,d S lo with
  | some (f,v),some (g,_)=>some (D0 f (some g) none,v)
  | _,_=>none
 | some lo,some hi,none=>match d S a,d S lo,d S hi with
  | some (f,v),some (g,_),some (h,_)=>some (D0 f (some g) (some h),v)
  | _,_,_=>none
 | _,_,_=>none
def VZ (d:Sx->Expr->Option D2) (S:Sx) (a b:Expr):Option D2:=match b with
 | .Slice lo hi st _=>VY d S a lo hi st
 | b=>match Js a,T6 b with
  | some x,some i=>(match S.slot x with
   | some j=>if S.msF j=true then none else some (Ab A5 (Aa j) (bC (.int i)),(j::S.alF j)++[])
   | none=>none)
  | _,_=>match d S a,d S b with
   | some (f,v),some (g,u)=>if KY b=true then some (Ab A5 f g,v++u) else none
   | _,_=>none
def VW (d:Expr->Option D2) (S:Sx) (e c:Expr):Option D2:=match d e with
 | some (f,v)=>if S.glob "isinstance" = true then (match c with
  | .Name T _=>(match Jg T with
   | some t=>if S.glob T=true then some (AJ (CT t) f,v) else none
   | none=>none)
  | _=>none) else none
 | none=>none
def Sb (x:Str) (args:List Expr):Option Expr:=match args with
 | [c]=>(match c with
  | .Call f as ks _=>(match f,as,ks with
   | .Name y _,[a],[]=>if x = "list" /\ y = "reversed" then some a else none
   | _,_,_=>none)
  | _=>none)
 | _=>none
def j4 {x:Str}{args:List Expr}{a:Expr} (h:Sb x args=some a):x = "list" /\ ∃ p pos,args=[.Call (.Name "reversed" p) [a] [] pos]:=by
 unfold Sb at h;split at h
 ·split at h
  ·split at h
   ·split at h
    ·rename_i hc;cases h;obtain ⟨rfl,rfl⟩:=hc;exact ⟨rfl,_,_,rfl⟩
    ·cases h
   ·cases h
  ·cases h
 ·cases h
def Fc:List Comprehension->Option (Expr×Expr×List Expr)
 | []=>none
 | g::r=>(match r with
  | []=>(match g with
   | ⟨tg,it,ifs,n⟩=>if n=0 then some (tg,it,ifs) else none)
  | _::_=>none)
def jr {gs:List Comprehension}{tg it:Expr}{ifs:List Expr} (h:Fc gs=some (tg,it,ifs)):gs=[⟨tg,it,ifs,0⟩]:=by
 unfold Fc at h;split at h
 ·cases h
 ·split at h
  ·split at h;split at h
   ·rename_i hn;cases h;subst hn;rfl
   ·cases h
  ·cases h
def VU (d:Expr->Option D2) (a:Expr) (ops:List E7) (bs:List Expr):Option D2:=match ops with
 | [op]=>(match bs with
  | [b]=>(match d a,d b,RA b op with
   | some (f,v),some (g,u),some o=>some (Ab o f g,v++u)
   | _,_,_=>none)
  | _=>none)
 | [op,op']=>(match bs with
  | [b,c]=>(match d a,d b,d c,Gn op,Gn op' with
   | some (f,_),some (g,_),some (h,_),some p,some q=>some (EJ p q f g h,[])
   | _,_,_,_,_=>none)
  | _=>none)
 | _=>none
def Hb (d:Sx->Expr->Option D2) (S:Sx):Expr->Option D2
 | .Constant c _ _=>Mm c
 | .Name x _=>match S.slot x with
  | some i=>if S.msF i=true then none else some (Aa i,i::S.alF i)
  | none=>none
 | .BinOp a op b _=>match d S a,d S b,Vo b op with
  | some (f,v),some (g,u),some o=>some (Ab o f g,v++u)
  | _,_,_=>none
 | .IfExp t a b _=>match d S t,d S a,d S b with
  | some (c,_),some (f,v),some (g,u)=>some (Cf (bT c) f g,v++u)
  | _,_,_=>none
 | .UnaryOp op a _=>(match op with
  | .USub=>(match d S a with
   | some (f,v)=>some (AJ IM f,v)
   | none=>none)
  | .Not=>(match d S a with
   | some (f,v)=>some (AJ BV f,v)
   | none=>none)
  | _=>none)
 | .BoolOp op es _=>(match op with
  | .And=>O7 (d S) es
  | .Or=>Ot (d S) es)
 | .Compare a ops bs _=>VU (d S) a ops bs
 | .List es _=>match E6 (d S) es with
  | some (fa,v)=>some (Am BB fa,v)
  | none=>none
 | .Tuple es _ _=>match E6 (d S) es with
  | some (fa,v)=>some (Am BJ fa,v)
  | none=>none
 | .Subscript a b _=>VZ d S a b
 | .Call fn args ks _=>(match ks with
  | []=>(match Js fn with
   | some x=>(
     if x = "isinstance" then (match args with
      | [e,c]=>VW (d S) S e c
      | _=>none)
     else match Sb x args with
     | some a=>(match d S a with
      | some (f,v)=>if S.glob "list" = true/\S.glob "reversed" = true then some (AJ RI f,v) else none
      | none=>none)
     | none=>match R8 x with
     | some o=>(match args with
      | e::es=>(match E6 (d S) (e::es) with
       | some (fa,v)=>if S.glob x=true then some (Am o fa,v) else none
       | none=>none)
      | []=>none)
     | none=>match S.Γ.lookup x with
      | some (false,_,F)=>(match args with
       | e::es=>(match E6 (d S) (e::es) with
        | some (fa,v)=>if S.glob x=true then some (A3 F fa,v) else none
        | none=>none)
       | []=>none)
      | some (true,_,F)=>none
      | none=>none)
   | none=>none)
  | _::_=>none)
 | .ListComp elt gs scope _=>(match Fc gs with
  | some (tg,it,ifs)=>(match NH S.N.length tg,Fd (d S) S it with
    | some (xs,asg),some iw=>if MB S scope xs iw.vs=true/\FV tg iw=true then (match O8 (d (Bg S scope xs iw.vs)) ifs,d (Bg S scope xs iw.vs) elt with
     | some t,some (g,vE)=>some (LA iw xs.length asg t g,iw.vs++vE.filter (λ i=>decide (i < S.N.length)))
     | _,_=>none) else none
    | _,_=>none)
  | none=>none)
 | _=>none
def BA:Nat->Sx->Expr->Option D2
 | 0,_,_=>none
 | n + 1,S,e=>Hb (BA n) S e
section
variable {X:Cx}{P:A8}{w:A7}{K:Frag}{mg:Str->Option Ad}{base:Heap}{lvl:Nat}{S:Sx}{Wx:St->Nat->Hp->Prop}{M:Fm}{f g:Fx}{vs vs':List Nat}{σ:St}{H:Hp}{Q:VK}
def kZ {Q:Bool->Hp->Prop} (hq:tT M (bT (Dh f g)) σ H Q):Jk (tT M (bT f)) (tT M (bT g)) σ H Q:=by
 refine zG ?_;have e:bT (Dh f g)=HK (bT f) (bT g):=by
  funext ρ;unfold bT Dh HK;dsimp only;cases f ρ with
  | no=>rfl
  | exc c=>rfl
  | ok p=>
   obtain ⟨x,d,ρ1⟩:=p;cases x with
   | bl b=>cases b <;> rfl
   | _=>rfl
 rw [<- e];exact hq
def zJ {Q:Bool->Hp->Prop} (hq:tT M (bT (BN f g)) σ H Q):Rt (tT M (bT f)) (tT M (bT g)) σ H Q:=by
 refine qF ?_;have e:bT (BN f g)=Ph (bT f) (bT g):=by
  funext ρ;unfold bT BN Ph;dsimp only;cases f ρ with
  | no=>rfl
  | exc c=>rfl
  | ok p=>
   obtain ⟨x,d,ρ1⟩:=p;cases x with
   | bl b=>cases b <;> rfl
   | _=>rfl
 rw [<- e];exact hq
def vd {Q:Bool->Hp->Prop} (hq:tT M (bT (AJ BV f)) σ H Q):Jj (tT M (bT f)) σ H Q:=by
 refine zI ?_;have e:bT (AJ BV f)=HJ (bT f):=by
  funext ρ;unfold bT AJ HJ;dsimp only;cases f ρ with
  | no=>rfl
  | exc c=>rfl
  | ok p=>
   obtain ⟨x,d,ρ1⟩:=p;cases x with
   | bl b=>cases b <;> rfl
   | _=>rfl
 rw [<- e];exact hq
def AU (P:A8) (w:A7) (K:Frag) (mg:Str->Option Ad) (base:Heap) (lvl:Nat) (S:Sx) (e:Expr) (f:Fx) (vs:List Nat):Prop:=
 (∀ i∈vs,S.msF i=false)/\GR e=true/\∀ {Wx} X M,XS X P w K mg base lvl S Wx->MS M K S Wx->PE X e (tE M f vs)/\PT X e (tT M (bT f))
def MS.v (m:MS M K S Wx) (h:∀ i∈vs,S.msF i=false):∀ i∈vs,M.Ms i=false:=λ i hi=>by rw [m.ms];exact h i hi
def MS.k (m:MS M K S Wx) (xs:XS X P w K mg base lvl S Wx):M.K=X.K:=m.K.trans xs.K.symm
def CQ {e:Expr} (h1:∀ i∈vs,S.msF i=false) (h2:GR e=true) (h3:∀ env whole,isTrue e env whole=(do let v<-whole;standAt e.pos;holding [v] (truthy v)))
  (h:∀ {Wx} X M,XS X P w K mg base lvl S Wx->MS M K S Wx->PE X e (tE M f vs)):AU P w K mg base lvl S e f vs:=
 ⟨h1,h2,λ X M xs m=>⟨h X M xs m,JN (xN (h X M xs m) λ wh=>h3 _ wh) λ σ H Q q=>Sk q⟩⟩
def Gx {vs vs':List Nat} (h1:∀ i∈vs,S.msF i=false) (h2:∀ i∈vs',S.msF i=false):∀ i∈vs++vs',S.msF i=false:=λ i hi=>(jd4.mp hi).elim (h1 i) (h2 i)
def wj {a b:Expr}{op:E7}{o:PV->Nat->PV->Nat->Option (PV×Nat)}{pos:Pos} (ho:RA b op=some o) (ga:AU P w K mg base lvl S a f vs) (gb:AU P w K mg base lvl S b g vs'):AU P w K mg base lvl S (.Compare a [op] [b] pos) (Ab o f g) (vs++vs'):=by
 refine ⟨Gx ga.1 gb.1,rfl,λ X M xs m=>?_⟩;obtain ⟨r,hr,hn,hi⟩:=vn (X:=X) (M:=M) (f:=f) (g:=g) (vs:=vs) (vs':=vs') ho xs.room.units (m.v ga.1) (m.k xs);have ha:=(ga.2.2 X M xs m).1;have hb:=(gb.2.2 X M xs m).1;exact ⟨BL (jI hr ha hb hn) hi,JN (kH hr ha hb hn) λ σ H Q q=>hi σ H _ (Sk q)⟩
def yR {a b c:Expr}{op op':E7}{p q:Int->Int->Bool}{h:Fx}{v3:List Nat}{pos:Pos} (h1:Gn op=some p) (h2:Gn op'=some q) (ga:AU P w K mg base lvl S a f vs) (gb:AU P w K mg base lvl S b g vs') (gc:AU P w K mg base lvl S c h v3):AU P w K mg base lvl S (.Compare a [op,op'] [b,c] pos) (EJ p q f g h) []:=by
 refine ⟨λ _ z=>(nomatch z),rfl,λ X M xs m=>?_⟩;have r1:=YC (X:=X) h1;have r2:=YC (X:=X) h2;have ha:=(ga.2.2 X M xs m).1;have hb:=(gb.2.2 X M xs m).1;have hc:=(gc.2.2 X M xs m).1;exact ⟨BL (vT r1.1 r2.1 ha hb hc (HZ _ r2.2.1 r2.2.2)) λ σ H Q q=>Yi q,JN (wH r1.1 r2.1 ha hb hc (HZ _ r2.2.1 r2.2.2)) λ σ H Q q=>Yi (vs:=[]) (Sk q)⟩
def wk {a:Expr}{pos:Pos} (ga:AU P w K mg base lvl S a f vs):AU P w K mg base lvl S (.UnaryOp .Not a pos) (AJ BV f) vs:=
 ⟨ga.1,rfl,λ X M xs m=>⟨BL (zl (ga.2.2 X M xs m).1) λ σ H Q q=>k9 q,JN (xM (ga.2.2 X M xs m).2) λ σ H Q q=>vd q⟩⟩
theorem Y7 {d:Expr->Option D2} (hd:∀ e f vs,d e=some (f,vs)->AU P w K mg base lvl S e f vs) {pos:Pos}:∀ (es:List Expr) (f:Fx) (vs:List Nat),O7 d es=some (f,vs)->(∀ i∈vs,S.msF i=false)/\∀ {Wx} X M,XS X P w K mg base lvl S Wx->MS M K S Wx->PE X (.BoolOp .And es pos) (tE M f vs)/\PW X (.BoolOp .And es pos) (tT M (bT f))
 | [],f,vs,h=>by cases h
 | [e],f,vs,h=>by
  have g:=hd e f vs h;exact ⟨g.1,λ X M xs m=>⟨Wu (g.2.2 X M xs m).1,jV (g.2.2 X M xs m).2⟩⟩
 | e::e'::es,f,vs,h=>by
  unfold O7 at h;split at h
  ·rename_i f1 v1 f2 v2 h1 h2;cases h;have g1:=hd e f1 v1 h1;have g2:=Y7 hd (pos:=pos) (e'::es) f2 v2 h2;exact ⟨Gx g1.1 g2.1,λ X M xs m=>⟨BL (zj (g1.2.2 X M xs m).1 (g2.2 X M xs m).1) λ σ H Q q=>kz q,W2 (xP (g1.2.2 X M xs m).2 (g2.2 X M xs m).2) λ σ H Q q=>kZ q⟩⟩
  ·cases h
theorem X9 {d:Expr->Option D2} (hd:∀ e f vs,d e=some (f,vs)->AU P w K mg base lvl S e f vs) {pos:Pos}:∀ (es:List Expr) (f:Fx) (vs:List Nat),Ot d es=some (f,vs)->(∀ i∈vs,S.msF i=false)/\∀ {Wx} X M,XS X P w K mg base lvl S Wx->MS M K S Wx->PE X (.BoolOp .Or es pos) (tE M f vs)/\PW X (.BoolOp .Or es pos) (tT M (bT f))
 | [],f,vs,h=>by cases h
 | [e],f,vs,h=>by
  have g:=hd e f vs h;exact ⟨g.1,λ X M xs m=>⟨Wu (g.2.2 X M xs m).1,xQ (g.2.2 X M xs m).2⟩⟩
 | e::e'::es,f,vs,h=>by
  unfold Ot at h;split at h
  ·rename_i f1 v1 f2 v2 h1 h2;cases h;have g1:=hd e f1 v1 h1;have g2:=X9 hd (pos:=pos) (e'::es) f2 v2 h2;exact ⟨Gx g1.1 g2.1,λ X M xs m=>⟨BL (qT (g1.2.2 X M xs m).1 (g2.2 X M xs m).1) λ σ H Q q=>zw q,W2 (qX (g1.2.2 X M xs m).2 (g2.2 X M xs m).2) λ σ H Q q=>zJ q⟩⟩
  ·cases h
theorem Fh {d:Expr->Option D2} (hd:∀ e f vs,d e=some (f,vs)->AU P w K mg base lvl S e f vs):∀ (es:List Expr) (fa:Fa) (vs:List Nat),E6 d es=some (fa,vs)->(∀ i∈vs,S.msF i=false)/\es.all GR=true/\∀ {Wx} X M,XS X P w K mg base lvl S Wx->MS M K S Wx->PA X es (tL M fa vs)
 | [],fa,vs,h=>by cases h;exact ⟨λ _ z=>(nomatch z),rfl,λ X M _ _=>xV⟩
 | e::es,fa,vs,h=>by
  unfold E6 at h;split at h
  ·rename_i f1 v1 f2 v2 h1 h2;cases h;have g1:=hd e f1 v1 h1;have g2:=Fh hd es f2 v2 h2;exact ⟨Gx g1.1 g2.1,by rw [HD,g1.2.1,g2.2.1];rfl,λ X M xs m=>kc (m.v g1.1) (g1.2.2 X M xs m).1 (g2.2.2 X M xs m) (D4 (D7 g1.2.1))⟩
  ·cases h
def Qh (scope:Bz) (env:Env):Im scope env=Fj scope env.scope:=rfl
theorem P8 {x:Str}{k:Dq}{sc:Bz}:∀ (l:List (Str×Dq)),(k=.cell\/k=.free)->(l.map λ (n,k)=>if (k == NameKind.free && sc.kind == .function && sc.names.lookup n == some .cell) then (n,NameKind.cell) else (n,k)).lookup x=some k->(x,NameKind.free)∈l\/(x,NameKind.cell)∈l
 | [],_,h=>by simp at h
 | (n,j)::r,hk,h=>by
  rw [Be] at h;have ih:=P8 (x:=x) (k:=k) (sc:=sc) r hk;dsimp only at h;by_cases hj:(j == NameKind.free && sc.kind == .function && sc.names.lookup n == some .cell)=true
  ·rw [if_pos hj,EX] at h;split at h
   ·rename_i hx;rw [Bc,Bc] at hj;have e1:x=n:=eq_of_beq hx;have e2:j=.free:=eq_of_beq hj.1.1;rw [e1,e2];exact .inl AL
   ·exact (ih h).imp (AM _) (AM _)
  ·rw [if_neg hj,EX] at h;split at h
   ·rename_i hx;have e1:x=n:=eq_of_beq hx;have e2:j=k:=Option.some.inj h;rcases hk with z | z
    ·rw [e1,e2,z];exact .inr AL
    ·rw [e1,e2,z];exact .inl AL
   ·exact (ih h).imp (AM _) (AM _)
theorem JI (sc':Bz):∀ (N:List Str) (i:Nat),(Iz sc' i N).length=N.length
 | [],_=>rfl
 | x::r,i=>by rw [Iz,Bw,JI sc' r (i + 1),Bw]
structure ChkOk (S:Sx) (scope:Bz) (xs:List Str) (vI:List Nat):Prop where
 kind:scope.kind=.function
 dis:∀ x,(x,NameKind.free)∈scope.names->(x,NameKind.cell)∉scope.names
 names:∀ x∈scope.names,x.2=.local->scope.names.lookup x.1=some .local
 free:∀ x∈scope.names,x.2=.free->S.sc.names.lookup x.1=some .cell\/S.sc.names.lookup x.1=some .free
 capt:∀ (i:Nat) (x:Str),i < S.N.length->(Bg S scope xs vI).N[i]?=some x->IF (Fj scope S.sc) x->S.N[i]?=some x/\IF S.sc x/\(x,NameKind.free)∈scope.names/\(Fj scope S.sc).names.lookup x≠some .local
 nd:(Bg S scope xs vI).N.Nodup
 loc:∀ x∈xs,(Fj scope S.sc).names.lookup x=some .local\/((Fj scope S.sc).names.lookup x=some .cell/\(x,NameKind.cell)∈scope.names)
 pos:S.N.length≠0
 ms:∀ i∈S.ms,i < S.N.length
def kQ {sc:Bz}{x:Str} (h:IF sc x):Dp sc x=true:=by
 unfold Dp Dj;rcases h with h | h | h <;> rw [h] <;> simp
def VS {scope:Bz}{xs:List Str}{vI:List Nat} (h:MB S scope xs vI=true):ChkOk S scope xs vI:=by
 unfold MB at h;simp only [Bc,decide_eq_true_eq,jb8,bne_iff_ne,ne_eq,Gd] at h;obtain ⟨⟨⟨⟨⟨⟨⟨⟨h1,h2⟩,h3⟩,h4⟩,h5⟩,h6⟩,h7⟩,h8⟩,h9⟩:=h;refine ⟨h1,λ x hx hz=>(h2 (x,.free) hx).elim (λ z=>z rfl) λ z=>?_,λ x hx he=>(h3 x hx).elim (λ z=>absurd he z) λ z=>eq_of_beq z,λ x hx he=>(h4 x hx).elim (λ z=>absurd he z) λ z=>z.elim (λ z=>.inl (eq_of_beq z)) λ z=>.inr (eq_of_beq z),λ i x hi e hv=>?_,h6,λ x hx=>(h7 x hx).imp Gy λ z=>⟨Gy z.1,by simpa using z.2⟩,h8,h9⟩
 ·have z':(!(scope.names.contains (x,NameKind.cell)))=true:=z
  have:scope.names.contains (x,NameKind.cell)=true:=by simpa using hz
  rw [this] at z';cases z'
 have q:=h5 i (jc4.mpr hi);rw [e] at q;dsimp only at q;rw [Gd] at q;rcases q with q | q
 ·have:Dp (Fj scope S.sc) x=true:=kQ hv
  have q':(!Dp (Fj scope S.sc) x)=true:=q;rw [this] at q';cases q'
 ·simp only [Bc,decide_eq_true_eq,Tu] at q;obtain ⟨⟨⟨q1,q2⟩,q3⟩,q4⟩:=q;refine ⟨q1,Wo q2,by simpa using q3,λ z=>?_⟩
  have:Dj (Fj scope S.sc) x .local=true:=by unfold Dj;rw [z];simp
  have q4':Dj (Fj scope S.sc) x .local=false:=q4;rw [this] at q4';cases q4'
def ChkOk.comp {scope:Bz}{ys:List Str}{vI:List Nat} (c:ChkOk S scope ys vI) (xs:XS X P w K mg base lvl S Wx):CompOk X scope (Bg S scope ys vI).N ys.length where
 kind:=c.kind
 dis:=c.dis
 names:=c.names
 len:=by
  show (Iz _ 0 S.N++ys).length=_;rw [BM,JI,xs.N]
 free:=λ x hx he=>by
  show X.env.scope.names.lookup x.1=_\/X.env.scope.names.lookup x.1=_;rw [xs.sc];exact c.free x hx he
 kinds:=λ x h=>by
  rcases h with h | h
  ·exact P8 (sc:=X.env.scope) scope.names (.inl rfl) h
  ·exact P8 (sc:=X.env.scope) scope.names (.inr rfl) h
 capt:=λ i x hi e hv=>by
  rw [Qh,xs.sc] at hv ⊢;rw [xs.N] at hi ⊢;exact c.capt i x hi e hv
def ChkOk.xs {scope:Bz}{ys:List Str}{vI:List Nat} (c:ChkOk S scope ys vI) (xs:XS X P w K mg base lvl S Wx) (s2:Ai) (H2:Hp) (C:Addr) (fp:List Addr) (pins:List (Addr×Obj)):XS (BE X s2 H2 scope C (Bg S scope ys vI).N fp pins) P w K mg base lvl (Bg S scope ys vI) W0:=
 ⟨xs.prog,xs.w,xs.K,xs.mg,xs.base,rfl,by show Im scope X.env=_;rw [Qh,xs.sc];rfl,xs.calm,xs.room,PassesOwn.never,Wg,λ h=>nomatch h⟩
def Ql {scope:Bz}{ys:List Str}{vI:List Nat} (i:Nat):(Bg S scope ys vI).alF i=if i < S.N.length then S.alF i else if i < S.N.length + ys.length then vI else []:=by
 unfold Sx.alF Bg;dsimp only;rw [AR];by_cases h:i < S.N.length
 ·rw [C6 (by simpa using h),if_pos h];simp [h,Sx.alF,AR]
 ·rw [Gj (by simpa using h),if_neg h,EG];simp only [AG,Gh];by_cases h2:i < S.N.length + ys.length
  ·rw [if_pos h2,if_pos (by omega)];rfl
  ·rw [if_neg h2,if_neg (by omega)];rfl
def ChkOk.ms' {scope:Bz}{ys:List Str}{vI:List Nat} (c:ChkOk S scope ys vI) (m:MS M K S Wx) (hv:∀ i∈vI,S.msF i=false) (D:Addr):MS (M.comp D S.N.length vI) K (Bg S scope ys vI) W0 where
 W:=rfl
 K:=m.K
 ms:=m.ms
 al:=λ i hi=>by
  rw [Ql];show (if i < S.N.length then M.al i else vI)=_;have hl:(Bg S scope ys vI).N.length=S.N.length + ys.length:=by
   show (Iz _ 0 S.N++ys).length=_;rw [BM,JI]
  rw [hl] at hi;by_cases h:i < S.N.length
  ·rw [if_pos h,if_pos h];exact m.al i h
  ·rw [if_neg h,if_neg h,if_pos hi]
 pn:=λ p hp=>by
  have h:=m.pn p hp;show p.1 < (Iz _ 0 S.N++ys).length;rw [BM,JI];omega
 als:=λ i j hj=>by
  have hj':j∈(if i < S.N.length then M.al i else vI):=hj;show M.Ms j=false;by_cases h:i < S.N.length
  ·rw [if_pos h] at hj';exact m.als i j hj'
  ·rw [if_neg h] at hj';rw [m.ms];exact hv j hj'
theorem IJ {n:Nat}{iter:Expr}{env:Env}{f:Fx}{vs:List Nat} (h:(∀ a b c,iter≠.Set a b c)):∀ x,Nw iter env x=pure x:=by
 intro x;cases iter with
 | Set a b c=>exact absurd rfl (h a b c)
 | _=>rfl
end
section
variable {X:Cx}{P:A8}{w:A7}{K:Frag}{mg:Str->Option Ad}{base:Heap}{lvl:Nat}{S:Sx}{Wx:St->Nat->Hp->Prop}{M:Fm}{f g:Fx}{vs vs':List Nat}{σ:St}{H:Hp}{Q:VK}
def kO {T:Str}{t:String} (h:Jg T=some t):t∈HE/\T∈zkx/\Jc T=some (.type t)/\(T == ("__debug__" : Str))=false/\T ≠ "__name__" := by
 unfold Jg at h;split at h
 ·rename_i e;cases h;rw [e];exact ⟨by decide,by decide +kernel,rfl,by decide +kernel,by decide +kernel⟩
 ·split at h
  ·rename_i e;cases h;rw [e];exact ⟨by decide,by decide +kernel,rfl,by decide +kernel,by decide +kernel⟩
  ·split at h
   ·rename_i e;cases h;rw [e];exact ⟨by decide,by decide +kernel,rfl,by decide +kernel,by decide +kernel⟩
   ·split at h
    ·rename_i e;cases h;rw [e];exact ⟨by decide,by decide +kernel,rfl,by decide +kernel,by decide +kernel⟩
    ·split at h
     ·rename_i e;cases h;rw [e];exact ⟨by decide,by decide +kernel,rfl,by decide +kernel,by decide +kernel⟩
     ·split at h
      ·rename_i e;cases h;rw [e];exact ⟨by decide,by decide +kernel,rfl,by decide +kernel,by decide +kernel⟩
      ·cases h
def xZ {x:Str}{o:List (PV×Nat)->Option (PV×Nat)}{e:Expr}{es:List Expr}{fa:Fa}{p pos:Pos} (h:R8 x=some o) (xs:XS X P w K mg base lvl S Wx) (m:MS M K S Wx) (hb:∀ x∈zkx,mg x=none) (hg:S.glob x=true) (hs:(e::es).all GR=true) (ha:PA X (e::es) (tL M fa vs)):
  PE X (.Call (.Name x p) (e::es) [] pos) (tE M (Am o fa) vs):=by
 rw [HD,Bc] at hs;have h1:AE (e::es) X.env=(false,eval e X.env)::AE es X.env:=D4 (D7 hs.1);have h2:(CM pos (AE es X.env)).any (·.1)=false:=Na hs.2;have hm:∀ x∈zkx,X.mg x=none:=λ x hx=>by rw [xs.mg];exact hb x hx
 unfold R8 at h;split at h
 ·rename_i ex;cases h;subst ex;exact zP (m.k xs) (xs.gl hg) (hm _ (by decide +kernel)) ha h1 h2
 ·split at h
  ·rename_i ex;cases h;subst ex;exact xY xs.calm (xs.gl hg) (hm _ (by decide +kernel)) ha h1 h2
  ·split at h
   ·rename_i ex;cases h;subst ex;exact kl xs.calm (xs.gl hg) (hm _ (by decide +kernel)) ha h1 h2
   ·split at h
    ·rename_i ex;cases h;subst ex;exact km xs.calm (xs.gl hg) (hm _ (by decide +kernel)) ha h1 h2
    ·split at h
     ·rename_i ex;cases h;subst ex;exact kn xs.calm (xs.gl hg) (hm _ (by decide +kernel)) ha h1 h2
     ·split at h
      ·rename_i ex;cases h;subst ex;exact kh (m.k xs) (xs.gl hg) (hm _ (by decide +kernel)) ha h1 h2
      ·split at h
       ·rename_i ex;cases h;subst ex;exact kf (xs.gl hg) (hm _ (by decide +kernel)) ha h1 h2
       ·split at h
        ·rename_i ex;cases h;subst ex;exact xW (xs.gl hg) (hm _ (by decide +kernel)) ha h1 h2
        ·split at h
         ·rename_i ex;cases h;subst ex;exact kd (m.k xs) (xs.gl hg) (hm _ (by decide +kernel)) ha h1 h2
         ·cases h
def HQ (P:A8) (w:A7) (K:Frag) (mg:Str->Option Ad) (base:Heap) (lvl:Nat) (S:Sx) (it:Expr) (iw:Iw):Prop:=
 (∀ i∈iw.vs,S.msF i=false)/\(∀ a b c,it≠.Set a b c)/\∀ {Wx} X M,XS X P w K mg base lvl S Wx->MS M K S Wx->∀ tg,(match iw with
  | .rng en fa vs=>(en=BI/\PI X tg it (Ou (tL M fa vs)))\/(en=FL/\PI X tg it (Ov (tL M fa vs)))
  | .seq f vs=>PI X tg it (EY M.K (tE M f vs))
  | .vw v fa vs=>FV tg (.vw v fa vs)=true->PI X tg it (T8 v M.K (tL M fa vs)))
def vB {it:Expr} (g:AU P w K mg base lvl S it f vs) (hs:∀ a b c,it≠.Set a b c):HQ P w K mg base lvl S it (.seq f vs):=
 ⟨g.1,hs,λ X M xs m tg=>by
  show PI X tg it (EY M.K (tE M f vs));rw [m.k xs];exact Wv (g.2.2 X M xs m).1⟩
def ME {d:Expr->Option D2} (hd:∀ e f vs,d e=some (f,vs)->AU P w K mg base lvl S e f vs) (hset:∀ a b c,d (.Set a b c)=none) (hb:∀ x∈zkx,mg x=none) {it:Expr}{iw:Iw} (h:Fd d S it=some iw):HQ P w K mg base lvl S it iw:=by
 have seq:∀ {it:Expr}{iw:Iw},(match d it with
   | some (f,vs)=>some (Iw.seq f vs)
   | none=>none)=some iw->HQ P w K mg base lvl S it iw:=λ {it iw} h=>by
  cases e:d it with
  | none=>rw [e] at h;cases h
  | some p=>
   obtain ⟨f,vs⟩:=p;rw [e] at h;cases h;exact vB (hd _ _ _ e) λ a b c z=>by rw [z,hset] at e;cases e
 unfold Fd at h;split at h
 ·rename_i x p a pos;split at h
  ·rename_i hc;obtain ⟨rfl,hg⟩:=hc;split at h
   ·rename_i fa vs e;cases h;have g:=Fh hd _ _ _ e;refine ⟨λ _ z=>(nomatch z),λ _ _ _ z=>(nomatch z),λ X M xs m tg=>.inl ⟨rfl,?_⟩⟩;have hs:=g.2.1;simp only [HD,OL,Ju] at hs;exact y0 (xs.gl hg) (by rw [xs.mg];exact hb _ (by decide +kernel)) (g.2.2 X M xs m) (D4 (D7 hs))
   ·cases h
  ·split at h
   ·rename_i hc;obtain ⟨rfl,hg⟩:=hc;split at h
    ·rename_i fa vs e;cases h;have g:=Fh hd _ _ _ e;refine ⟨g.1,λ _ _ _ z=>(nomatch z),λ X M xs m tg ht=>?_⟩;have hs:=g.2.1;simp only [HD,OL,Ju] at hs;rw [m.k xs];cases tg with
     | Tuple es k tp=>exact jM (xs.gl hg) (by rw [xs.mg];exact hb _ (by decide +kernel)) (g.2.2 X M xs m) (D4 (D7 hs))
     | _=>cases ht
    ·cases h
   ·exact seq h
 ·rename_i x p a b pos;split at h
  ·rename_i hc;obtain ⟨rfl,hg⟩:=hc;split at h
   ·rename_i fa vs e;cases h;have g:=Fh hd _ _ _ e;refine ⟨λ _ z=>(nomatch z),λ _ _ _ z=>(nomatch z),λ X M xs m tg=>.inr ⟨rfl,?_⟩⟩;have hs:=g.2.1;simp only [HD,OL,Ju,Bc] at hs;have s2:AE [b] X.env=[(false,eval b X.env)]:=D4 (D7 hs.2);exact y3 (xs.gl hg) (by rw [xs.mg];exact hb _ (by decide +kernel)) (g.2.2 X M xs m) (by rw [D4 (D7 hs.1),s2]) s2
   ·cases h
  ·split at h
   ·rename_i hc;obtain ⟨rfl,hg⟩:=hc;split at h
    ·rename_i fa vs e;cases h;have g:=Fh hd _ _ _ e;refine ⟨g.1,λ _ _ _ z=>(nomatch z),λ X M xs m tg ht=>?_⟩;have hs:=g.2.1;simp only [HD,OL,Ju,Bc] at hs;have s2:AE [b] X.env=[(false,eval b X.env)]:=D4 (D7 hs.2);rw [m.k xs];cases tg with
     | Tuple es k tp=>exact xG (xs.gl hg) (by rw [xs.mg];exact hb _ (by decide +kernel)) (g.2.2 X M xs m) (by rw [D4 (D7 hs.1),s2]) s2
     | _=>cases ht
    ·cases h
   ·exact seq h
 ·exact seq h
def w5 {σ:St}{H:Hp}{Q:Bool->Hp->Prop} (h:∃ M',MS M' K S Wx/\tT M' Bp σ H Q):Q true H:=by
 obtain ⟨M',_,ρ,fps,rep,q⟩:=h;exact q H fps KD.refl Agr.refl rep
structure CompParts (P:A8) (w:A7) (K:Frag) (mg:Str->Option Ad) (base:Heap) (lvl:Nat) (S:Sx) (scope:Bz) (tg:Expr) (ys:List Str) (asg:PV->Af->Option Af) (it elt:Expr) (ifs:List Expr) (iw:Iw) (t:Fb) (g:Fx) (vE:List Nat):Prop where
 tga:NH S.N.length tg=some (ys,asg)
 two:FV tg iw=true
 chk:ChkOk S scope ys iw.vs
 iwo:HQ P w K mg base lvl S it iw
 elt:AU P w K mg base lvl (Bg S scope ys iw.vs) elt g vE
 ifs:∀ {Wx} X M,XS X P w K mg base lvl (Bg S scope ys iw.vs) Wx->MS M K (Bg S scope ys iw.vs) Wx->HL X ifs (λ σ H Q=>∃ M',MS M' K (Bg S scope ys iw.vs) Wx/\tT M' t σ H Q)
def WB {scope:Bz}{tg:Expr}{ys:List Str}{asg:PV->Af->Option Af}{it elt:Expr}{ifs:List Expr}{iw:Iw}{t:Fb}{vE:List Nat} (c:CompParts P w K mg base lvl S scope tg ys asg it elt ifs iw t g vE):∀ i∈iw.vs++vE.filter (λ i=>decide (i < S.N.length)),S.msF i=false:=
 Gx c.iwo.1 λ i hi=>c.elt.1 i (jg2.mp hi).1
theorem UH {X':Cx}:∀ {es:List Expr}{ys:List Str}{n:Nat},MI es=some ys->X'.N.Nodup->(∀ j y,ys[j]?=some y->X'.N[n + j]?=some y)->(∀ y∈ys,FE X'.env.scope y/\(X'.fn y=true\/X'.env.scope.names.lookup y=some .local))->KA X' es (JK (K0 n ys.length))/\(E9 es X'.env).length=ys.length/\(E9 es X'.env).findIdx? (·.1)=none
 | [],ys,n,h,_,_,_=>by cases h;exact ⟨Xb,rfl,rfl⟩
 | e::es,ys,n,h,hN,hi,hl=>by
  unfold MI at h;split at h
  ·cases ‹_::_=[]›
  ·rename_i x px r heq;cases heq;obtain ⟨zs,h2,rfl⟩:=jc0.mp h;have hx:=hl x AL;obtain ⟨h1,h3,h4⟩:=UH (n:=n + 1) h2 hN (λ j y e=>by rw [show n + 1 + j=n + (j + 1) by omega];exact hi (j + 1) y (by simpa using e)) λ y hy=>hl y (AM _ hy);rw [Bw,Zd];refine ⟨XT (Lb hN (by have:=hi 0 x rfl;simpa using this) hx.1 hx.2) h1 rfl,by rw [E9,Bw,h3] <;> (intros;contradiction),?_⟩;rw [E9,Zs,h4] <;> first | rfl | (intros;contradiction)
  ·cases h
theorem Ut {scope:Bz}{tg:Expr}{ys:List Str}{asg:PV->Af->Option Af}{pos:Pos}{it elt:Expr}{ifs:List Expr}{iw:Iw}{t:Fb}{vE:List Nat} (c:CompParts P w K mg base lvl S scope tg ys asg it elt ifs iw t g vE) (xs:XS X P w K mg base lvl S Wx) (m:MS M K S Wx):
  ∃ wi gg,PI X tg it wi/\CompOk X scope (Bg S scope ys iw.vs).N ys.length/\(∀ s2 H2 C fp pins,PG (BE X s2 H2 scope C (Bg S scope ys iw.vs).N fp pins) tg gg) /\
   (∀ s2 H2 C fp pins,HL (BE X s2 H2 scope C (Bg S scope ys iw.vs).N fp pins) ifs (λ σ H Q=>∃ M',MS M' K (Bg S scope ys iw.vs) W0/\tT M' t σ H Q)) /\
   (∀ s2 H2 C fp pins,PE (BE X s2 H2 scope C (Bg S scope ys iw.vs).N fp pins) elt (λ σ H Q=>∃ M',MS M' K (Bg S scope ys iw.vs) W0/\tE M' g vE σ H Q)) /\
   ∀ σ H Q,σ.length=S.N.length->tE M (LA iw ys.length asg t g) (iw.vs++vE.filter (λ i=>decide (i < S.N.length))) σ H Q ->
    Jq ys.length wi gg (λ σ H Q=>∃ M',MS M' K (Bg S scope ys iw.vs) W0/\tT M' t σ H Q) (λ σ H Q=>∃ M',MS M' K (Bg S scope ys iw.vs) W0/\tE M' g vE σ H Q) σ H Q:=by
 have hvI:=m.v c.iwo.1;have hP:∀ D,MS (M.comp D S.N.length iw.vs) K (Bg S scope ys iw.vs) W0:=λ D=>c.chk.ms' m c.iwo.1 D;have hvE:∀ i∈vE,M.Ms i=false:=λ i hi=>by rw [m.ms];exact c.elt.1 i hi
 have hvo:∀ i,i∈vE->i < S.N.length->i∈iw.vs++vE.filter (λ i=>decide (i < S.N.length)):=λ i h1 h2=>BX _ (jg2.mpr ⟨h1,by simpa using h2⟩);have hvo2:=m.v (WB c);have bd:∀ D i,S.N.length<=i->Bd (M.comp D S.N.length iw.vs) iw.vs i:=λ D i hi=>⟨by
   show M.Ms i=false;rw [m.ms];unfold Sx.msF;cases e:S.ms.contains i with
   | false=>rfl
   | true=>exact absurd (c.chk.ms _ (by simpa using e)) (by omega),⟨λ _=>by have:=c.chk.pos;omega,λ p hp=>by have:=m.pn p hp;omega⟩,if_neg (by omega),(hP D).als⟩
 have hix:∀ j y,ys[j]?=some y->(Bg S scope ys iw.vs).N[S.N.length + j]?=some y:=λ j y e=>by
  show (Iz _ 0 S.N++ys)[S.N.length + j]?=some y;rw [Gj (by rw [JI];omega),JI];simpa using e
 have hloc:∀ s2 H2 C fp pins,∀ y∈ys,FE (BE X s2 H2 scope C (Bg S scope ys iw.vs).N fp pins).env.scope y/\((BE X s2 H2 scope C (Bg S scope ys iw.vs).N fp pins).fn y=true\/(BE X s2 H2 scope C (Bg S scope ys iw.vs).N fp pins).env.scope.names.lookup y=some .local):=λ s2 H2 C fp pins y hy=>by
  have e:(BE X s2 H2 scope C (Bg S scope ys iw.vs).N fp pins).env.scope=Fj scope S.sc:=by
   show Im scope X.env=_;rw [Qh,xs.sc]
  rw [e];rcases c.chk.loc y hy with z | z
  ·exact ⟨.inl z,.inr z⟩
  ·exact ⟨.inr z.1,.inl (by show scope.names.contains (y,NameKind.cell)=true;simpa using z.2)⟩
 have hpe:∀ s2 H2 C fp pins,PE (BE X s2 H2 scope C (Bg S scope ys iw.vs).N fp pins) elt (λ σ H Q=>∃ M',MS M' K (Bg S scope ys iw.vs) W0/\tE M' g vE σ H Q):=λ s2 H2 C fp pins pi s σ H Q I ⟨M',m',q⟩=>
  (c.elt.2.2 _ M' (c.chk.xs xs s2 H2 C fp pins) m').1 pi s σ H Q I q
 have hpt:∀ s2 H2 C fp pins,HL (BE X s2 H2 scope C (Bg S scope ys iw.vs).N fp pins) ifs (λ σ H Q=>∃ M',MS M' K (Bg S scope ys iw.vs) W0/\tT M' t σ H Q):=λ s2 H2 C fp pins=>c.ifs _ (M.comp 0 S.N.length iw.vs) (c.chk.xs xs s2 H2 C fp pins) (hP 0);have tgp:∃ is gg,(∀ i∈is,S.N.length<=i)/\(∀ D,Dd (M.comp D S.N.length iw.vs) iw.vs is gg asg)/\∀ s2 H2 C fp pins,PG (BE X s2 H2 scope C (Bg S scope ys iw.vs).N fp pins) tg gg:=by
  have ht:=c.tga;unfold NH at ht;split at ht
  ·rename_i y py;cases ht;refine ⟨[S.N.length],Fq S.N.length,λ i hi=>by rw [jb6.mp hi];exact AA _,λ D=>RZ (bd D _ (AA _)),λ s2 H2 C fp pins=>?_⟩;exact Lb c.chk.nd (hix 0 y rfl) (hloc s2 H2 C fp pins y (by simp)).1 (hloc s2 H2 C fp pins y (by simp)).2
  ·rename_i es k tp;obtain ⟨zs,h2,e⟩:=jc0.mp ht;cases e;refine ⟨K0 S.N.length ys.length,Jz M.K ys.length (JK (K0 S.N.length ys.length)),λ i hi=>(jr6.mp hi).1,λ D=>?_,λ s2 H2 C fp pins=>?_⟩
   ·have:=RB (M:=M.comp D S.N.length iw.vs) (al:=iw.vs) (is:=K0 S.N.length ys.length) λ i hi=>bd D i (jr6.mp hi).1
    rw [List.length_range'] at this;exact this
   ·obtain ⟨h1,h3,h4⟩:=UH (X':=BE X s2 H2 scope C (Bg S scope ys iw.vs).N fp pins) (n:=S.N.length) h2 c.chk.nd hix (hloc s2 H2 C fp pins)
    have:=Se (X:=BE X s2 H2 scope C (Bg S scope ys iw.vs).N fp pins) (pos:=tp) (k:=k) xs.calm h1 h3 h4
    have e:(BE X s2 H2 scope C (Bg S scope ys iw.vs).N fp pins).K=M.K:=(m.k xs).symm;rw [e] at this;exact this
  ·cases ht
 obtain ⟨is,gg,his,hg,hpg⟩:=tgp;have hw:=c.iwo.2.2 X M xs m tg;have htw:=c.two;cases iw with
 | rng en fa vs=>
  rcases hw with ⟨rfl,hw⟩ | ⟨rfl,hw⟩
  ·exact ⟨_,gg,hw,c.chk.comp xs,hpg,hpt,hpe,λ σ H Q hl hq=>wq hl hP m.als hvI hvE his hg hvo hvo2 hq⟩
  ·exact ⟨_,gg,hw,c.chk.comp xs,hpg,hpt,hpe,λ σ H Q hl hq=>wt hl hP m.als hvI hvE his hg hvo hvo2 hq⟩
 | seq f vs=>exact ⟨_,gg,hw,c.chk.comp xs,hpg,hpt,hpe,λ σ H Q hl hq=>wu hl hP m.als hvI hvE his hg hvo hvo2 hq⟩
 | vw v fa vs=>exact ⟨_,gg,hw htw,c.chk.comp xs,hpg,hpt,hpe,λ σ H Q hl hq=>wx hl hP m.als hvI hvE his hg hvo hvo2 hq⟩
def Wi {e:Expr}{t t':TE} (h:PE X e t) (i:∀ σ H Q,σ.length=X.N.length->t' σ H Q->t σ H Q):PE X e t':=λ pins s σ H Q I q=>h pins s σ H Q I (i σ H Q I.len q)
def xH {e:Stmt}{t t':TS} (h:PS X e t) (i:∀ D σ H,σ.length=X.N.length->t' D σ H->t D σ H):PS X e t':=λ pins s σ H D I q=>h pins s σ H D I (i D σ H I.len q)
def ym {scope:Bz}{tg:Expr}{ys:List Str}{asg:PV->Af->Option Af}{pos:Pos}{it elt:Expr}{ifs:List Expr}{iw:Iw}{t:Fb}{vE:List Nat} (c:CompParts P w K mg base lvl S scope tg ys asg it elt ifs iw t g vE):AU P w K mg base lvl S (.ListComp elt [⟨tg,it,ifs,0⟩] scope pos) (LA iw ys.length asg t g) (iw.vs++vE.filter (λ i=>decide (i < S.N.length))):=by
 refine CQ (WB c) rfl (λ _ _=>rfl) λ X M xs m=>?_;obtain ⟨wi,gg,h1,h2,h3,h4,h5,h6⟩:=Ut (pos:=pos) c xs m;exact Wi (Xa h2 xs.calm h1 h3 h4 h5 (IJ (n:=0) (f:=g) (vs:=[]) c.iwo.2.1)) λ σ H Q hl q=>h6 σ H Q (by rw [hl,xs.N]) q
def Y8 {d:Expr->Option D2} (hd:∀ e f vs,d e=some (f,vs)->AU P w K mg base lvl S e f vs) {ifs:List Expr}{t:Fb} (h:O8 d ifs=some t) (X:Cx) (M:Fm) (xs:XS X P w K mg base lvl S Wx) (m:MS M K S Wx):HL X ifs (λ σ H Q=>∃ M',MS M' K S Wx/\tT M' t σ H Q):=by
 unfold O8 at h;split at h
 ·cases h;intro pins s σ H Q I q;exact kI pins s σ H Q I (w5 q)
 ·obtain ⟨p,e,rfl⟩:=jc0.mp h;obtain ⟨f,vs⟩:=p;have g:=hd _ _ _ e;intro pins s σ H Q I ⟨M',m',q⟩;exact kJ (g.2.2 X M' xs m').2 pins s σ H Q I q
 ·cases h
def MF (n:Nat) (S:Sx) (a:List Expr) (b:Nat) (c:Pos):BA n S (.Set a b c)=none:=by
 cases n <;> rfl
def Uy {e:Expr} (h:GR e=true) (env:Env) (cpos:Pos):((CM cpos (AE [e] env)).all (λ x=>!x.1) && (backToKw cpos (keywordEach [] env)).all (λ x=>x.1.isSome)
   && decide (([e]:List Expr).length + ([]:List Keyword).length + (if ([]:List Keyword).isEmpty then 0 else 1) < 30))=true:=by
 have:AE [e] env=[(false,eval e env)]:=D4 (D7 h)
 rw [this];rfl
theorem LN (GX:GX K mg S.xc) (G:GS P w K mg base lvl S.Γ) (Gm:HW P w K mg base lvl S.Γm):∀ (n:Nat) (S':Sx) (e:Expr) (f:Fx) (vs:List Nat),S'.Γ=S.Γ->S'.Γm=S.Γm->S'.xc=S.xc->(∀ i,∀ j∈S'.alF i,S'.msF j=false)->BA n S' e=some (f,vs)->AU P w K mg base lvl S' e f vs:=by
 intro n;induction n with
 | zero=>intro S' e f vs _ _ _ _ h;cases h
 | succ n ih=>
  intro S' e f vs hΓ hΓm hX hS h;have hd:∀ e f vs,BA n S' e=some (f,vs)->AU P w K mg base lvl S' e f vs:=λ e f vs h=>ih S' e f vs hΓ hΓm hX hS h;replace h:Hb (BA n) S' e=some (f,vs):=h;unfold Hb at h;split at h
  ·unfold Mm at h;split at h
   ·cases h;exact CQ (λ _ z=>(nomatch z)) rfl (λ _ _=>rfl) λ X M xs m=>BL Wh λ σ H Q q=>Ln (λ K H Z=>by rw [Own];exact ⟨rfl,rfl⟩) q
   ·cases h;exact CQ (λ _ z=>(nomatch z)) rfl (λ _ _=>rfl) λ X M xs m=>BL qS λ σ H Q q=>Ln (λ K H Z=>by rw [Own];exact ⟨rfl,rfl⟩) q
   ·cases h;exact CQ (λ _ z=>(nomatch z)) rfl (λ _ _=>rfl) λ X M xs m=>BL zk λ σ H Q q=>Ln (λ K H Z=>by rw [Own];exact ⟨rfl,rfl⟩) q
   ·cases h;exact CQ (λ _ z=>(nomatch z)) rfl (λ _ _=>rfl) λ X M xs m=>BL zq λ σ H Q q=>Ln (λ K H Z=>by rw [Own];exact ⟨rfl,rfl⟩) q
   ·cases h
  ·split at h
   ·rename_i i hi;split at h
    ·cases h
    ·rename_i hm;cases h;refine CQ (λ j hj=>?_) rfl (λ _ _=>rfl) λ X M xs m=>Wi (xs.var hi) λ σ H Q hl q=>?_
     ·rcases jb4.mp hj with z | z
      ·rw [z];simpa using hm
      ·exact hS i j z
     ·have hlt:i < S'.N.length:=by
       unfold Sx.slot at hi;split at hi
       ·exact (jb0.mp (MU hi)).1
       ·cases hi
      rw [<- m.al i hlt] at q;exact Wj q
   ·cases h
  ·split at h
   ·rename_i f1 v1 f2 v2 o h1 h2 h3;cases h;have g1:=hd _ _ _ h1;have g2:=hd _ _ _ h2;exact CQ (Gx g1.1 g2.1) rfl (λ _ _=>rfl) λ X M xs m=>xa h3 (m.v g1.1) (m.k xs) (g1.2.2 X M xs m).1 (g2.2.2 X M xs m).1
   ·cases h
  ·split at h
   ·rename_i c v0 f1 v1 g1 v2 h0 h1 h2;cases h;have g0:=hd _ _ _ h0;have ga:=hd _ _ _ h1;have gb:=hd _ _ _ h2;exact ⟨Gx ga.1 gb.1,rfl,λ X M xs m=>⟨ze (g0.2.2 X M xs m).2 (ga.2.2 X M xs m).1 (gb.2.2 X M xs m).1,JN (xJ (g0.2.2 X M xs m).2 (ga.2.2 X M xs m).2 (gb.2.2 X M xs m).2) λ σ H Q q=>zH q⟩⟩
   ·cases h
  ·split at h
   ·split at h
    ·rename_i f1 v1 h1;cases h;have g1:=hd _ _ _ h1;exact CQ g1.1 rfl (λ _ _=>rfl) λ X M xs m=>zS (g1.2.2 X M xs m).1
    ·cases h
   ·split at h
    ·rename_i f1 v1 h1;cases h;exact wk (hd _ _ _ h1)
    ·cases h
   ·cases h
  ·rename_i op es pos;split at h
   ·have g:=Y7 hd (pos:=pos) _ _ _ h;exact ⟨g.1,rfl,λ X M xs m=>⟨(g.2 X M xs m).1,(g.2 X M xs m).2.pt⟩⟩
   ·have g:=X9 hd (pos:=pos) _ _ _ h;exact ⟨g.1,rfl,λ X M xs m=>⟨(g.2 X M xs m).1,(g.2 X M xs m).2.pt⟩⟩
  ·unfold VU at h;split at h
   ·split at h
    ·split at h
     ·rename_i f1 v1 f2 v2 o h1 h2 h3;cases h;exact wj h3 (hd _ _ _ h1) (hd _ _ _ h2)
     ·cases h
    ·cases h
   ·split at h
    ·split at h
     ·rename_i f1 v1 f2 v2 f3 v3 p q h1 h2 h3 h4 h5;cases h;exact yR h4 h5 (hd _ _ _ h1) (hd _ _ _ h2) (hd _ _ _ h3)
     ·cases h
    ·cases h
   ·cases h
  ·split at h
   ·rename_i fa v h1;cases h;have g:=Fh hd _ _ _ h1;exact CQ g.1 rfl (λ _ _=>rfl) λ X M xs m=>zQ (g.2.2 X M xs m)
   ·cases h
  ·split at h
   ·rename_i fa v h1;cases h;have g:=Fh hd _ _ _ h1;exact CQ g.1 rfl (λ _ _=>rfl) λ X M xs m=>zU (g.2.2 X M xs m)
   ·cases h
  ·rename_i a b pos;unfold VZ at h;split at h
   ·rename_i lo hi st p2;unfold VY at h;split at h
    ·split at h
     ·rename_i f1 v1 f2 v2 h1 h2;cases h;have g1:=hd _ _ _ h1;have g2:=hd _ _ _ h2;exact CQ g1.1 rfl (λ _ _=>rfl) λ X M xs m=>BL (Qu (qa5.or Sg) (g1.2.2 X M xs m).1 Xd (MK (g2.2.2 X M xs m).1)) λ σ H Q q=>RN (lo:=none) (hi:=some (f2,v2)) (m.v g1.1) (m.k xs) q
     ·cases h
    ·split at h
     ·rename_i f1 v1 f2 v2 h1 h2;cases h;have g1:=hd _ _ _ h1;have g2:=hd _ _ _ h2;exact CQ g1.1 rfl (λ _ _=>rfl) λ X M xs m=>BL (Qu (qa5.or Sg) (g1.2.2 X M xs m).1 (MK (g2.2.2 X M xs m).1) Xd) λ σ H Q q=>RN (lo:=some (f2,v2)) (hi:=none) (m.v g1.1) (m.k xs) q
     ·cases h
    ·split at h
     ·rename_i f1 v1 f2 v2 f3 v3 h1 h2 h3;cases h;have g1:=hd _ _ _ h1;have g2:=hd _ _ _ h2;have g3:=hd _ _ _ h3;exact CQ g1.1 rfl (λ _ _=>rfl) λ X M xs m=>BL (Qu (qa5.or Sg) (g1.2.2 X M xs m).1 (MK (g2.2.2 X M xs m).1) (MK (g3.2.2 X M xs m).1)) λ σ H Q q=>RN (lo:=some (f2,v2)) (hi:=some (f3,v3)) (m.v g1.1) (m.k xs) q
     ·cases h
    ·cases h
   ·split at h
    ·rename_i x i hx hi;obtain ⟨px,rfl⟩:=JL hx;obtain ⟨k,pi,rfl⟩:=xB hi;split at h
     ·rename_i j hj;split at h
      ·cases h
      ·rename_i hm;cases h;have hlt:j < S'.N.length:=by
        unfold Sx.slot at hj;split at hj
        ·exact (jb0.mp (MU hj)).1
        ·cases hj
       have hv:∀ i∈j::S'.alF j,S'.msF i=false:=λ i hi=>by
        rcases jb4.mp hi with z | z
        ·rw [z];simpa using hm
        ·exact hS j i z
       refine CQ (Gx hv λ _ z=>(nomatch z)) rfl (λ _ _=>rfl) λ X M xs m=>W4 (by have:=xs.room.units;omega) (m.v hv) (m.k xs) (Qg rfl) (BL (xs.var hj) λ σ H Q q=>?_) (BL Wh λ σ H Q q=>Ln (λ K H Z=>by rw [Own];exact ⟨rfl,rfl⟩) q);rw [<- m.al j hlt] at q;exact Wj q
     ·cases h
    ·split at h
     ·rename_i f1 v1 f2 v2 h1 h2;split at h
      ·rename_i hn;cases h;have g1:=hd _ _ _ h1;have g2:=hd _ _ _ h2;exact CQ (Gx g1.1 g2.1) rfl (λ _ _=>rfl) λ X M xs m=>W4 (by have:=xs.room.units;omega) (m.v g1.1) (m.k xs) (Qg hn) (g1.2.2 X M xs m).1 (g2.2.2 X M xs m).1
      ·cases h
     ·cases h
  ·rename_i fn args ks pos;split at h
   ·split at h
    ·rename_i x hfn;obtain ⟨p,rfl⟩:=JL hfn;split at h
     ·rename_i hx;subst hx;split at h
      ·rename_i e c;unfold VW at h;split at h
       ·rename_i f1 v1 h1;split at h
        ·rename_i hgi;have g1:=hd _ _ _ h1;split at h
         ·rename_i T pT;have s2:∀ {X:Cx},AE [Expr.Name T pT] X.env=[(false,eval (.Name T pT) X.env)]:=rfl;split at h
          ·rename_i t h2;split at h
           ·rename_i hg;cases h;obtain ⟨t1,t2,t3,t4,t5⟩:=kO h2;refine CQ g1.1 rfl (λ _ _=>rfl) λ X M xs m=>?_;exact zO (x:=T) t1 (m.k xs) (g1.2.2 X M xs m).1 (xs.gl hgi) (by rw [xs.mg];exact G.1 _ (by decide +kernel)) (jH (xs.gl hg) (by rw [xs.mg];exact G.1 _ t2) t3 rfl t5 t4) (by rw [D4 (D7 g1.2.1),s2]) s2
           ·cases h
          ·cases h
         ·cases h
        ·cases h
       ·cases h
      ·cases h
     ·split at h
      ·rename_i a ha;split at h
       ·rename_i f1 v1 h1;split at h
        ·rename_i hc;cases h;obtain ⟨rfl,p2,pos2,rfl⟩:=j4 ha;have g1:=hd _ _ _ h1;exact CQ g1.1 rfl (λ _ _=>rfl) λ X M xs m=>kg (m.k xs) xs.calm (xs.gl hc.1) (by rw [xs.mg];exact G.1 _ (by decide +kernel)) (xs.gl hc.2) (by rw [xs.mg];exact G.1 _ (by decide +kernel)) (by rw [D4 (D7 g1.2.1)];rfl) (g1.2.2 X M xs m).1
        ·cases h
       ·cases h
      split at h
      ·rename_i o ho;split at h
       ·rename_i e es;split at h
        ·rename_i fa v h1;split at h
         ·rename_i hg;cases h;have g:=Fh hd _ _ _ h1;exact CQ g.1 rfl (λ _ _=>rfl) λ X M xs m=>xZ ho xs m G.1 hg g.2.1 (g.2.2 X M xs m)
         ·cases h
        ·cases h
       ·cases h
      ·split at h
       ·rename_i _ _ _ _ nn F hF;split at h
        ·rename_i e es;split at h
         ·rename_i fa v h1;split at h
          ·rename_i hg;cases h;have g:=Fh hd _ _ _ h1;rw [hΓ] at hF;obtain ⟨d1,d2,fa',fd,ps,d3,d4,d5,d6,d7⟩:=G.2 _ _ _ _ hF;refine CQ g.1 rfl (λ _ _=>rfl) λ X M xs m=>?_;have hs:=g.2.1;rw [HD,Bc] at hs;obtain ⟨xp,xw,xK,xm,xb,_,_,_,xr,_⟩:=id xs;subst xp xw xK xm xb;have mk:M.K=X.K:=m.K;have hps:=xs.ps;rw [<- m.W] at hps;refine BL (vS d7 xr (xs.gl hg) d3 d4 d5 hps (g.2.2 X M xs m) d1 (D4 (D7 hs.1)) (Na hs.2)) λ σ H Q q=>?_
           have:=k6 d2 q
           rw [mk] at this;exact this
          ·cases h
         ·cases h
        ·cases h
       ·cases h
       ·cases h
    ·cases h
   ·cases h
  ·rename_i elt gs scope pos;split at h
   ·rename_i tg it ifs hgs;have hgs:=jr hgs;subst hgs;split at h
    rotate_left
    ·cases h
    rename_i ys asg iw ht hi;split at h
    ·rename_i hc;split at h
     ·rename_i t g vE h1 h2;cases h;have ck:=VS hc.1;have giw:=ME hd (MF n S') G.1 hi;have hS2:∀ i,∀ j∈(Bg S' scope ys iw.vs).alF i,(Bg S' scope ys iw.vs).msF j=false:=λ i j hj=>by
       rw [Ql] at hj;show S'.msF j=false;split at hj
       ·exact hS i j hj
       ·split at hj
        ·exact giw.1 j hj
        ·cases hj
      have hd2:∀ e f vs,BA n (Bg S' scope ys iw.vs) e=some (f,vs)->AU P w K mg base lvl (Bg S' scope ys iw.vs) e f vs:=λ e f vs h=>ih _ e f vs hΓ hΓm hX hS2 h;exact ym ⟨ht,hc.2,ck,giw,hd2 _ _ _ h2,Y8 hd2 h1⟩
     ·cases h
    ·cases h
   ·cases h
  ·cases h
end
section
variable {is:List Nat}{M:Fm}{ρ ρ':Af}{σ σ':St}{H H' H'':Hp}{fps fps' fps'':AW}{vs vs':List Nat}
def FX:Fs:=λ _=>.no
def VI {t:TS}{D:Ends} (hq:tS M FX D σ H):t D σ H:=by
 obtain ⟨ρ,fps,rep,q⟩:=hq;exact q.elim
def Cb (asg:PV->Af->Option Af) (f:Fx) (vs:List Nat):Fs:=λ ρ=>match f ρ with
 | .ok (x,d,ρ1)=>(match asg x (Bh d vs ρ1) with
  | some ρ2=>.nx ρ2
  | none=>.no)
 | .exc c=>.exc c
 | .no=>.no
theorem zE {g:TG}{asg:PV->Af->Option Af}{f:Fx}{D:Ends} (hal:∀ i,M.al i=[]) (hv:∀ i∈vs,M.Ms i=false) (hg:Dd M [] is g asg) (hq:tS M (Cb asg f vs) D σ H):ES (tE M f vs) g D σ H:=by
 obtain ⟨ρ,fps,rep,q⟩:=hq;refine ⟨ρ,fps,rep,?_⟩;unfold Cb at q;cases ef:f ρ with
 | no=>rw [ef] at q;exact q
 | exc c=>rw [ef] at q;exact λ H' fps' k=>q _ H' fps' k.ks
 | ok p=>
  obtain ⟨x,d,ρ1⟩:=p;rw [ef] at q;intro v H1 fps1 f1 k1 g1 rep1 o1 t1;obtain ⟨fps2,k2,r2,o2⟩:=Rep.seen rep k1 g1 rep1 o1 t1 hal hv;dsimp only at q;cases ea:asg x (Bh d vs ρ1) with
  | none=>rw [ea] at q;exact q.elim
  | some ρ2=>
   rw [ea] at q;refine hg x v _ σ H1 fps2 ρ2 _ r2 (o2.weak λ a h=>h.zf) ea λ σ' fps' s1 _ _ r'=>q σ' H1 fps' (k2.trans ⟨λ _ _ h _=>h,λ _ h=>h,λ j a ha=>.inl ⟨j,s1 j a ha⟩⟩) r'
def Rep.change {i:Nat}{x x':PV}{d d':Nat}{v:V}{f':List Addr} (hal:∀ i,M.al i=[]) (r:Rep M ρ σ H fps) (hi:ρ[i]?=some (some (x,d))) (hσ:σ[i]?=some (some v)) (k:D1 (λ a=>a∈fps i) H H') (dm:∀ a,H a≠none->H' a≠none) (hs:∀ b∈f',b∈fps i)
  (hm:M.Ms i=true->d'=om) (o:Own M.K H' (Zf M (λ j=>if j=i then f' else fps j)) x' d' v f'):Rep M (ρ.set i (some (x',d'))) σ H' (λ j=>if j=i then f' else fps j):=by
 have hlen:i < ρ.length:=(jb0.mp hi).1;have inI:∀ j,∀ b∈(if j=i then f' else fps j),b∈fps j:=λ j b hb=>by
  by_cases e:j=i
  ·rw [if_pos e] at hb;rw [e];exact hs b hb
  ·rw [if_neg e] at hb;exact hb
 refine ⟨λ j y c hj=>?_,λ j hj=>?_,λ j k hjk b hb hc=>r.dj j k hjk b (inI j b hb) (inI k b hc),λ j b hb z=>r.zo j b (inI j b hb) z,λ j hj b hb=>r.fr j hj b (inI j b hb),λ b z=>dm b (r.zd b z),by rw [DA];exact r.len,λ j y c hj hc=>?_,λ b z=>dm b (r.h0 b z),r.iov⟩
 ·by_cases ej:j=i
  ·subst ej;rw [DN hlen] at hj;cases hj;refine ⟨v,hσ,?_⟩;rw [if_pos rfl];exact o.weak λ a h=>h.zf
  ·rw [CO (BY ej)] at hj;obtain ⟨u,hu,ou⟩:=r.own j y c hj;refine ⟨u,hu,?_⟩;rw [if_neg ej];refine Own.move (S:=λ a=>a∈fps i) k (λ a ha=>⟨.inr ⟨i,(by rw [hal j];intro z;cases z),ha⟩,r.lsts ha⟩) (λ a _ nz z=>nz ?_) y c u (fps j) (λ a ha z=>r.dj j i ej a ha z) ou;rcases z with z | ⟨l,nl,z⟩
   ·exact .inl z
   ·exact .inr ⟨l,nl,inI l a z⟩
 ·by_cases ej:j=i
  ·subst ej;exact absurd (DN hlen) (hj (x',d'))
  ·rw [if_neg ej];exact r.non j λ p hp=>hj p (by rw [CO (BY ej)];exact hp)
 ·by_cases ej:j=i
  ·subst ej;rw [DN hlen] at hc;cases hc;exact hm hj
  ·rw [CO (BY ej)] at hc;exact r.msf j y c hj hc
def Du (i:Nat) (f:Fx) (vs:List Nat):Fs:=λ ρ=>match ρ[i]? with
 | some (some (.lst _,0))=>.no
 | some (some (.lst _,_ + 1))=>(match f ρ with
  | .ok (.lst ys,e,ρ1)=>(match (Bh e vs ρ1)[i]? with
   | some (some (.lst xs,d))=>if d≠0/\xs.length + ys.length<=Az then .nx ((Bh e vs ρ1).set i (some (.lst (xs++ys),1))) else .no
   | _=>.no)
  | .ok _=>.no
  | .exc c=>.exc c
  | .no=>.no)
 | _=>.no
def z6 {f:Fx}{i:Nat}{D:Ends} (hal:∀ i,M.al i=[]) (hv:∀ i∈vs,M.Ms i=false) (hm:M.Ms i=false) (hq:tS M (Du i f vs) D σ H):O1 (Rw M.K "list" Xh (DE i) (O0 (tE M f vs) Hw)) D σ H:=by
 obtain ⟨ρ,fps,rep,q⟩:=hq;unfold Du at q;split at q
 ·exact q.elim
 ·rename_i xs0 d0 e0;obtain ⟨v,hσ,o⟩:=rep.own0 hal i _ _ e0;obtain ⟨a,ws0,fc0,rfl,ha0,hfp0,_,_⟩:=o.list (Zh _);refine ⟨_,hσ,Xs (.inl (.inl ha0)),ρ,fps,rep,?_⟩;cases ef:f ρ with
  | no=>rw [ef] at q;exact q
  | exc c=>rw [ef] at q;exact λ H' fps' k=>q _ H' fps' k.ks
  | ok p=>
   obtain ⟨y,e,ρ1⟩:=p;rw [ef] at q;cases y with
   | lst ys=>
    intro w H1 fps1 fp k1 g1 rep1 o1 t1;dsimp only at q;split at q
    ·rename_i xs d es;split at q
     ·rename_i hc;obtain ⟨fps2,k2,r2,o2,n2,s2,h2⟩:=Rep.behind rep k1 g1 rep1 o1 t1 hal hv;obtain ⟨v',hσ',ol⟩:=r2.own0 hal i _ _ es;rw [hσ] at hσ';cases hσ';obtain ⟨a',ws,fc,ev,ha,hfp,nac,hol⟩:=ol.list hc.1;cases ev;have hai:a∈fps2 i:=by rw [hfp];exact AL
      have hafp:a∉fp:=λ z=>n2 a z (.inr ⟨i,hai⟩);have hst:∃ j,a∈fps j:=⟨i,by have:=s2 i a hai;rw [k1.same i hm] at this;exact this⟩
      have zsub:∀ b,Zf M (λ j=>if j=i then [a] else fps2 j) b->Zf (M.plus fp) fps2 b:=λ b h=>by
       rcases h with z | ⟨j,z⟩
       ·exact .inl (.inl z)
       ·by_cases ej:j=i
        ·simp only [if_pos ej] at z;rw [jb6.mp z];exact .inr ⟨i,hai⟩
        ·simp only [if_neg ej] at z;exact .inr ⟨j,z⟩
      have nf:∀ b∈fc,¬ Zf M (λ j=>if j=i then [a] else fps2 j) b:=λ b hb z=>by
       have hbi:b∈fps2 i:=by rw [hfp];exact AM _ hb
       rcases z with z | ⟨j,z⟩
       ·exact r2.zo i b hbi (.inl z)
       ·by_cases ej:j=i
        ·simp only [if_pos ej] at z;rw [jb6.mp z] at hb;exact nac hb
        ·simp only [if_neg ej] at z;exact r2.dj i j (BY ej) b hbi z
      have nfp:∀ b∈fp,¬ Zf M (λ j=>if j=i then [a] else fps2 j) b:=λ b hb z=>by
       rcases z with z | ⟨j,z⟩
       ·exact n2 b hb (.inl z)
       ·by_cases ej:j=i
        ·simp only [if_pos ej] at z;rw [jb6.mp z] at hb;exact hafp hb
        ·simp only [if_neg ej] at z;exact n2 b hb (.inr ⟨j,z⟩)
      have za:Zf M (λ j=>if j=i then [a] else fps2 j) a:=.inr ⟨i,by simp⟩;have u1:=(OwnL.freeze (Z':=Zf M (λ j=>if j=i then [a] else fps2 j)) zsub xs _ ws fc nf hol)
      have u2:=(Own.freeze (Z':=Zf M (λ j=>if j=i then [a] else fps2 j)) (λ b h=>by
       rcases h with z | ⟨j,z⟩
       ·exact .inl (.inl z)
       ·by_cases ej:j=i
        ·simp only [if_pos ej] at z;rw [jb6.mp z];exact .inl (.inr ⟨i,hai⟩)
        ·simp only [if_neg ej] at z;exact .inl (.inr ⟨j,z⟩)) (.lst ys) _ w fp nfp o2)
      obtain ⟨b,us,rfl,hb,u3⟩:=u2.coldL;refine ⟨a,b,ws,us,rfl,rfl,ha,hb,by rw [hol.length,u3.length];exact hc.2,?_⟩;refine q σ _ _ (k2.write (i:=i) (f':=[]) (fp:=fp) hst λ b hb=>?_) (r2.rewrite hal es hσ ha hfp (λ z=>nomatch z) (λ b hb=>nomatch hb) (by decide) (λ h=>by rw [hm] at h;cases h) h2 ?_)
      ·rcases jb4.mp hb with z | z
       ·exact .inl (by rw [z];exact hai)
       ·cases z
      ·rw [Lk];exact OwnL.append0 (u3.at za ⟨.l ws,ha⟩ (λ z=>nomatch z) λ _ _ n=>n) (u1.at za ⟨.l ws,ha⟩ (λ z=>nomatch z) λ _ _ n=>n)
     ·exact q.elim
    ·exact q.elim
   | _=>exact q.elim
 ·exact q.elim
def qr {P:A8}{w:A7}{K:Frag}{mg:Str->Option Ad}{base:Heap}{lvl:Nat}{fa:Addr}{fd:CU}{ps:List Str}{io:Bool}{np:Nat} (h:ps.length=np):FnOk P w K mg base (AQ P w K) lvl fa fd ps (AZ K io np (λ _=>.no)):=
 ⟨λ vs H Q E h1=>h1.1.trans h.symm,λ A outer s H args us vs Q E _ _ _ _ h1=>by
  obtain ⟨_,_,_,_,_,z⟩:=h1;exact z.elim⟩
end
def we {X:Cx}:Mn X (Hy X.K):=by
 intro pins s σ H o i ov iv Q I rx ry h;obtain ⟨p,xs,k,z,rfl,rfl,hq,he,q⟩:=h;cases rx;obtain ⟨t,rfl⟩:=ry;obtain ⟨its,r,pl,hz⟩:=I.list hq;obtain ⟨j,h1,h2,h3,h4,h5⟩:=M8 he;obtain ⟨w,ew,rw'⟩:=r.get h2;have hl:=r.length;have hn:=IU;have fin:EP X pins σ Q w s:=⟨z,H,I,rw',q⟩
 by_cases h0:0<=k
 ·have hj:k.toNat=j:=by
   rw [Ni h0 h5] at h1;exact Option.some.inj h1
  exact wpAny_getItem_list pl.isList h0 (by omega) (by rw [hj];simpa using ew) fin
 ·have hj:(k + (its.toArray.size:Int)).toNat=j:=by
   rw [seqIndex_neg (by omega) h4] at h1;rw [Cd,<- hl];exact Option.some.inj h1
  exact wpAny_getItem_list_neg pl.isList (by omega) (by rw [Cd] <;> omega) (by omega) (by rw [hj];simpa using ew) fin
section
variable {M:Fm}{ρ ρ':Af}{σ σ':St}{H H' H'':Hp}{fps fps' fps'':AW}{vs vs':List Nat}
end
section
variable {is:List Nat}{M:Fm}{ρ ρ':Af}{σ σ':St}{H H' H'':Hp}{fps fps' fps'':AW}{vs vs':List Nat}{D:Ends}
end
section
variable {is:List Nat}{M:Fm}{ρ ρ':Af}{σ σ':St}{H H' H'':Hp}{fps fps' fps'':AW}{vs vs':List Nat}{D:Ends}
end
def DF (i j:Nat) (fa:Fa):Fs:=λ ρ=>match fa ρ with
 | .ok (xs,ρ1)=>(match xs with
  | [(.int a,_),(.int b,_)]=>(match BG [i,j] [.int a,.int b] ρ1 with
   | some ρ2=>.nx ρ2
   | none=>.no)
  | _=>.no)
 | .exc c=>.exc c
 | .no=>.no
section
variable {M:Fm}{fa:Fa}{vs:List Nat}{i j:Nat}{σ:St}{H:Hp}
theorem zA {D:Ends} (hb:∀ k∈[i,j],Bd M [] k) (hq:tS M (DF i j fa) D σ H):Lx i j (tL M fa vs) D σ H:=by
 obtain ⟨ρ,fps,rep,q⟩:=hq;refine ⟨ρ,fps,rep,?_⟩;unfold DF at q;cases ef:fa ρ with
 | no=>rw [ef] at q;exact q
 | exc c=>rw [ef] at q;exact λ H' fps' k=>q _ H' fps' k.ks
 | ok p=>
  obtain ⟨xs,ρ1⟩:=p;rw [ef] at q;intro ws H1 fps1 f1 k1 g1 rep1 o1 t1;dsimp only at q;split at q
  ·rename_i a d b e;rw [Tmps] at o1;obtain ⟨v,r,h1,h2,rfl,rfl,_,oa,o1⟩:=o1;rw [Tmps] at o1;obtain ⟨w,r',h3,h4,rfl,rfl,_,ob,o1⟩:=o1;rw [Tmps] at o1;obtain ⟨rfl,rfl⟩:=o1;rw [Own] at oa ob;obtain ⟨rfl,rfl⟩:=oa;obtain ⟨rfl,rfl⟩:=ob;split at q
   ·rename_i ρ2 ea;have ow:OwnL M.K H1 (Zv M [] fps1) [.int a,.int b] 0 [.int a,.int b] []:=by
     rw [OwnL];refine ⟨.int a,[.int b],[],[],rfl,rfl,(λ _ z=>nomatch z),by rw [Own];exact ⟨rfl,rfl⟩,?_⟩;rw [OwnL];exact ⟨.int b,[],[],[],rfl,rfl,(λ _ z=>nomatch z),by rw [Own];exact ⟨rfl,rfl⟩,by rw [OwnL];exact ⟨rfl,rfl⟩⟩
    have:=(Sz [i,j] [.int a,.int b] [.int a,.int b] ρ1 σ H1 fps1 ρ2 D.nx hb rep1 ow ea λ σ' fps' s1 _ _ r'=>q σ' H1 fps' (k1.ks.trans ⟨λ _ _ h _=>h,λ _ h=>h,λ j a ha=>.inl ⟨j,s1 j a ha⟩⟩) r').2
    obtain ⟨_,_,e1,z⟩:=this;cases e1;obtain ⟨_,_,e2,z⟩:=z;cases e2;exact ⟨_,_,rfl,z.2⟩
   ·exact q.elim
  ·exact q.elim
end
def RJ (a b:Expr) (px py:Pos):Bool:=GR a && GR b && (px.line == py.line) && !([a,b].all (foldedForSure 8)) && !([a,b].all (constantsAlone 8))
def zi {X:Cx}{x y:Str}{a b:Expr}{px py pt pt2:Pos}{kt k2:Nat} (hk:X.env.scope.kind=.function) (hx:X.env.scope.names.lookup x=some .local) (hy:X.env.scope.names.lookup y=some .local) (hxy:x≠y) (h:RJ a b px py=true):Nk [.Tuple [.Name x px,.Name y py] kt pt] (.Tuple [a,b] k2 pt2) X.env=pure (some [x,y]):=by
 unfold RJ at h;simp only [Bc,Tu] at h;obtain ⟨⟨⟨⟨ha,hb⟩,hl⟩,h1⟩,h2⟩:=h;have bk:X.env.blockKind=.function:=by unfold Env.blockKind;rw [hk];rfl
 have kx:X.env.kindOf x=some .local:=hx;have ky:X.env.kindOf y=some .local:=hy;have el:py.line=px.line:=(eq_of_beq hl).symm;have er:[x,y].eraseDups=[x,y]:=by
  have:(y == x)=false:=beq_eq_false_iff_ne.mpr (BY hxy)
  simp [List.eraseDups_cons,this]
 have hp:∀ (z:Str) (p:Pos),(Expr.Name z p).pos=p:=λ _ _=>rfl;unfold Nk;simp [bk,kx,ky,el,er,h1,h2,hp];intro hh;rcases hh with hh | hh
 ·cases a <;> first | (cases hh;done) | (cases ha;done)
 ·cases b <;> first | (cases hh;done) | (cases hb;done)
section
variable {is:List Nat}{X:Cx}{M:Fm}{ρ ρ':Af}{σ σ':St}{H H' H'':Hp}{fps fps' fps'':AW}{vs vs':List Nat}{D:Ends}
def V8:Ff:=λ o i v H Q=>∃ a H',o=.ref a/\DPut H a i v H'/\Q H'
def qC (hu:X.A.units + 1 < E8):HM X V8:=by
 intro pins s σ H o i v ov iv u Q I ro ri rv h;obtain ⟨a,H',rfl,g,q⟩:=h;obtain rfl:ov=Value.ref a:=ro;exact yd hu I g ri rv λ s' I'=>⟨H',I',q⟩
def Hk (k:List Ay) (y:PV):List (List Ay)->List PV->List PV
 | k'::ks,x::xs=>(if k'=k then y else x)::Hk k y ks xs
 | _,_=>[]
def EZ (ks:List (List Ay)) (k:List Ay):Bool:=ks.any λ k'=>decide (k'=k)
def Hh (ks:List (List Ay)) (xs:List PV) (k:List Ay) (y:PV):PV:=if EZ ks k=true then .dcl ks (Hk k y ks xs) else .dcl (ks++[k]) (xs++[y])
def Vy:PV->Option (List (List Ay)×List PV)
 | .dct []=>some ([],[])
 | .dcl ks xs=>some (ks,xs)
 | _=>none
theorem UA {K:Frag}{Z:Addr->Prop}{k:List Ay}{y:PV}{w:V} (hy:Own K H Z y 0 w []):∀ {ks:List (List Ay)}{xs:List PV}{ws:List V},OwnL K H Z xs 0 ws []->ks.length=xs.length->∃ ws',(ks.zip ws).map (λ kv=>if kv.1=k then (kv.1,w) else kv)=ks.zip ws'/\OwnL K H Z (Hk k y ks xs) 0 ws' []/\(Hk k y ks xs).length=ks.length
 | [],[],ws,h,_=>⟨[],rfl,by unfold Hk;rw [OwnL];exact ⟨rfl,rfl⟩,rfl⟩
 | [],_::_,ws,h,e=>by cases e
 | _::_,[],ws,h,e=>by cases e
 | k'::ks,x::xs,ws,h,e=>by
  rw [OwnL] at h;obtain ⟨v,s,f1,f2,rfl,ef,_,o1,o2⟩:=h;obtain ⟨rfl,rfl⟩:f1=[]/\f2=[]:=by simpa using ef.symm
  obtain ⟨ws',e1,o3,e3⟩:=UA hy (k:=k) o2 (by simpa using e);refine ⟨(if k'=k then w else v)::ws',?_,?_,by unfold Hk;rw [Bw,e3,Bw]⟩
  ·rw [OZ,Be,e1,OZ];congr 1;dsimp only;split <;> rfl
  ·unfold Hk;rw [OwnL];refine ⟨_,_,[],[],rfl,rfl,λ _ z=>(nomatch z),?_,o3⟩;split
   ·exact hy
   ·exact o1
theorem Xv {k:List Ay}:∀ {ks:List (List Ay)}{ws:List V},ks.length=ws.length->((ks.zip ws).any λ kv=>decide (kv.1=k))=EZ ks k
 | [],[],_=>rfl
 | [],_::_,e=>by cases e
 | _::_,[],e=>by cases e
 | k'::ks,w::ws,e=>by
  have:=Xv (k:=k) (ks:=ks) (ws:=ws) (by simpa using e)
  unfold EZ at this ⊢;rw [OZ,LY,LY,this]
def yP {K:Frag}{Z:Addr->Prop}{k:List Ay}{y:PV}{w:V}{ks:List (List Ay)}{xs:List PV}{ws:List V} (hy:Own K H Z y 0 w []) (h:OwnL K H Z xs 0 ws []) (e:ks.length=xs.length):∃ ks' xs' ws',Hh ks xs k y=.dcl ks' xs'/\Cp (ks.zip ws) k w=ks'.zip ws'/\OwnL K H Z xs' 0 ws' []/\ks'.length=xs'.length:=by
 unfold Hh Cp;rw [Xv (by rw [e,h.length])];by_cases hk:EZ ks k=true
 ·rw [if_pos hk,if_pos hk];obtain ⟨ws',e1,o1,e2⟩:=UA hy (k:=k) h e;exact ⟨ks,_,ws',rfl,e1,o1,e2.symm⟩
 ·rw [if_neg hk,if_neg hk];refine ⟨_,_,ws++[w],rfl,?_,?_,by rw [BM,BM,e];rfl⟩
  ·rw [List.zip_append (by rw [e,h.length])];rfl
  ·have:=h.snoc hy (λ _ z=>nomatch z)
   exact this
def Ew (i:Nat) (fk f:Fx):Fs:=λ ρ=>match f ρ with
 | .ok (y,e,ρ1)=>(match ρ1[i]? with
  | some (some _)=>(match fk ρ1 with
   | .ok (k,_,ρ2)=>(match ρ2[i]? with
    | some (some (x,d))=>(match Vy x,k with
      | some (ks,xs),.tup key=>(match Cq key with
       | some kk=>if d≠0/\e=om/\ks.length < Az then .nx (ρ2.set i (some (Hh ks xs kk y,1))) else .no
       | none=>.no)
      | _,_=>.no)
    | _=>.no)
   | _=>.no)
  | _=>.no)
 | .exc c=>.exc c
 | .no=>.no
theorem kX {f fk:Fx}{vk:List Nat}{i:Nat} (hal:∀ i,M.al i=[]) (hm:M.Ms i=false) (hv:∀ i∈vs,M.Ms i=false) (hq:tS M (Ew i fk f) D σ H):ES (tE M f vs) (Mi (DE i) (tE M fk vk) V8) D σ H:=by
 obtain ⟨ρ,fps,rep,q⟩:=hq;refine ⟨ρ,fps,rep,?_⟩;unfold Ew at q;cases ef:f ρ with
 | no=>rw [ef] at q;exact q
 | exc c=>rw [ef] at q;exact λ H' fps' k=>q _ H' fps' k.ks
 | ok p=>
  obtain ⟨y,e,ρ1⟩:=p;rw [ef] at q;intro w H1 fps1 fp k1 g1 rep1 o1 t1;dsimp only at q;cases e1:ρ1[i]? with
  | none=>rw [e1] at q;exact q.elim
  | some s1=>
   rw [e1] at q;cases s1 with
   | none=>exact q.elim
   | some p1=>
   obtain ⟨x1,d1⟩:=p1;dsimp only at q;obtain ⟨v0,hσ,_⟩:=rep1.own i _ _ e1;refine ⟨v0,hσ,ρ1,fps1,rep1,?_⟩;cases ek:fk ρ1 with
   | no=>rw [ek] at q;exact q.elim
   | exc c=>rw [ek] at q;exact q.elim
   | ok p2=>
    obtain ⟨k,ek',ρ2⟩:=p2;rw [ek] at q;intro kv H2 fps2 f2 k2 g2 rep2 o2 t2;dsimp only at q;cases e2:ρ2[i]? with
    | none=>rw [e2] at q;exact q.elim
    | some s2=>
     rw [e2] at q;cases s2 with
     | none=>exact q.elim
     | some p3=>
      obtain ⟨x,d⟩:=p3;dsimp only at q;split at q
      ·rename_i ks xs key ekv;split at q
       ·rename_i kk ekk;split at q
        ·rename_i hc;obtain ⟨hd,rfl,hlk⟩:=hc;obtain ⟨v1,hσ1,ox⟩:=rep2.own0 hal i _ _ e2;rw [hσ] at hσ1;cases hσ1;have hx:∃ a ws fc,v0=.ref a/\H2 a=some (.dT (ks.zip ws))/\fps2 i=a::fc/\a∉fc/\ks.length=xs.length/\OwnL M.K H2 (Zf M fps2) xs (pd d) ws fc:=by
          unfold Vy at ekv;split at ekv
          ·cases ekv;rw [Own] at ox;obtain ⟨a,ea,⟨d0,_⟩ | ⟨_,ha,hf⟩⟩:=ox
           ·exact absurd d0 hd
           ·exact ⟨a,[],[],ea,ha,hf,Gf,rfl,by rw [OwnL];exact ⟨rfl,rfl⟩⟩
          ·cases ekv;rw [Own] at ox;obtain ⟨a,ws,ea,en,⟨d0,_⟩ | ⟨_,fc,ha,hf,na,ol⟩⟩:=ox
           ·exact absurd d0 hd
           ·exact ⟨a,ws,fc,ea,ha,hf,na,en,ol⟩
          ·cases ekv
         obtain ⟨a,ws,fc,rfl,ha,hfp,nac,en,hol⟩:=hx;rw [Own] at o2;obtain ⟨kb,us,rfl,hkb,okey⟩:=o2
         have:=JV ekk okey
         subst this;have hai:a∈fps2 i:=by rw [hfp];exact AL
         have oy:=k2.stay rep1 hv o1 t1.ndj;have n2:∀ b∈fp,¬ Zf M fps2 b:=λ b hb z=>by
          rcases z with z | ⟨j,z⟩
          ·exact t1.ndj b hb (.inl z)
          ·rcases k2.sub j b z with z | z
           ·exact t1.ndj b hb (.inr ⟨j,z⟩)
           ·obtain ⟨o,ho⟩:=Own.lsts y _ w fp o1 b hb;rw [ho] at z;cases z
         have hafp:a∉fp:=λ z=>n2 a z (.inr ⟨i,hai⟩);have hst:∃ j,a∈fps j:=⟨i,by have:=(k1.trans k2).same i hm;rw [<- this];exact hai⟩
         let Z:Addr->Prop:=Zf M (λ j=>if j=i then [a] else fps2 j);have zsub:∀ b,Z b->Zf M fps2 b:=λ b h=>by
          rcases h with z | ⟨j,z⟩
          ·exact .inl z
          ·by_cases ej:j=i
           ·simp only [if_pos ej] at z;rw [jb6.mp z];exact .inr ⟨i,hai⟩
           ·simp only [if_neg ej] at z;exact .inr ⟨j,z⟩
         have nf:∀ b∈fc,¬ Z b:=λ b hb z=>by
          have hbi:b∈fps2 i:=by rw [hfp];exact AM _ hb
          rcases z with z | ⟨j,z⟩
          ·exact rep2.zo i b hbi z
          ·by_cases ej:j=i
           ·simp only [if_pos ej] at z;rw [jb6.mp z] at hb;exact nac hb
           ·simp only [if_neg ej] at z;exact rep2.dj i j (BY ej) b hbi z
         have za:Z a:=.inr ⟨i,by simp⟩;have u1:=OwnL.freeze (Z':=Z) zsub xs _ ws fc nf hol;have u2:=Own.freeze (Z':=Z) (λ b _=>trivial) y _ w fp (λ b hb z=>n2 b hb (zsub b z)) (Own.full (Z':=λ _=>True) y w fp oy);obtain ⟨ks',xs',ws',ex',ew',ox',en'⟩:=yP (k:=kk) u2 u1 en;have u3:=ox'.at (o:=.dT (Cp (ks.zip ws) kk w)) za ⟨.d (ks.zip ws),ha⟩ (λ z=>nomatch z) λ _ _ n=>n;rw [ex'] at q;have hzl:(ks.zip ws).length < Az:=by rw [Md];have:=Tj ks.length ws.length;omega
         refine ⟨a,_,rfl,DPut.t ha hkb hzl,?_⟩;refine q σ _ _ ((k1.ks.trans k2.ks).write (i:=i) (f':=[]) (fp:=fp) hst λ b hb=>?_) (rep2.change (x':=.dcl ks' xs') (d':=1) (f':=[a]) hal e2 hσ (λ b u hb n=>by rw [AH (λ z=>n (by rw [z];exact hai))];exact hb) (λ b hb=>?_) (λ b hb=>by rw [jb6.mp hb];exact hai) (λ h=>by rw [hm] at h;cases h) ?_)
         ·rcases jb4.mp hb with z | z
          ·exact .inl (by rw [z];exact hai)
          ·cases z
         ·by_cases eb:b=a
          ·rw [eb,Bu];simp
          ·rw [AH eb];exact hb
         ·rw [Own];exact ⟨a,ws',rfl,en',.inr ⟨by decide,[],by rw [Bu,ew'],rfl,Gf,u3⟩⟩
        ·exact q.elim
       ·exact q.elim
      ·exact q.elim
end
def EK (c:Fb) (b:Fs):Nat->Fs
 | 0,_=>.no
 | n + 1,ρ=>match c ρ with
  | .ok (true,ρ1)=>(match b ρ1 with
   | .nx ρ2=>EK c b n ρ2
   | .ct ρ2=>EK c b n ρ2
   | .bk ρ2=>.nx ρ2
   | .rt x d ρ2=>.rt x d ρ2
   | .exc e=>.exc e
   | .no=>.no)
  | .ok (false,ρ1)=>.nx ρ1
  | .exc e=>.exc e
  | .no=>.no
def Sf (c:Fb) (b:Fs):Fs:=EK c b 300
theorem wz {M:Fm}{c:Fb}{b:Fs}{n:Nat}{D:Ends}{σ:St}{H:Hp} (hq:tS M (EK c b n) D σ H):Wm (tT M c) (tS M b) D σ H:=by
 refine ⟨λ m σ H=>tS M (EK c b m) D σ H,⟨n,hq⟩,?_⟩;rintro m σ H ⟨ρ,fps,rep,q⟩;cases m with
 | zero=>exact q.elim
 | succ m=>
  unfold EK at q;refine ⟨ρ,fps,rep,?_⟩;cases ec:c ρ with
  | no=>rw [ec] at q;exact q
  | exc x=>rw [ec] at q;exact λ H' fps' k=>q _ H' fps' k.ks
  | ok p=>
   obtain ⟨bb,ρ1⟩:=p;rw [ec] at q;intro H1 fps1 k1 g1 rep1;cases bb with
   | false=>
    rw [if_neg Cs];exact q σ H1 fps1 k1.ks rep1
   | true=>
    rw [if_pos rfl];refine ⟨λ σ H=>tS M (EK c b m) D σ H,λ σ' H' w=>⟨m,GK m,w⟩,ρ1,fps1,rep1,?_⟩;dsimp only at q;have q:=RsOk.from k1.ks q;cases eb:b ρ1 with
    | no=>rw [eb] at q;exact q
    | exc x=>rw [eb] at q;exact q
    | rt x d ρ2=>rw [eb] at q;exact q
    | bk ρ2=>rw [eb] at q;exact q
    | nx ρ2=>rw [eb] at q;exact λ σ' H' fps' k r'=>⟨ρ2,fps',r',RsOk.from k q⟩
    | ct ρ2=>rw [eb] at q;exact λ σ' H' fps' k r'=>⟨ρ2,fps',r',RsOk.from k q⟩
section
variable {M:Fm}{ρ ρ':Af}{σ σ':St}{H H':Hp}{fps fps':AW}{F F':Addr->Prop}{P P':List (Nat×V)}
end
section
variable {X:Cx}{M:Fm}{ρ:Af}{σ:St}{H:Hp}{fps:AW}
end
section
variable {X:Cx}{M:Fm}{ρ:Af}{σ:St}{H H':Hp}{fps:AW}{vs:List Nat}{fa:Fa}{Q:VK}{F:List Addr}{e:Expr}{es:List Expr}{p pos:Pos}
def Jp (g:Int->Int->Int) (i:Nat) (fj f:Fx):Fs:=λ ρ=>match ρ[i]?,fj ρ with
 | some (some (.lst xs,d)),.ok (.int b,_,ρ1)=>(match f ρ1 with
  | .ok (.int w,_,ρ2)=>(match DO xs.length b with
   | some j=>(match xs[j]? with
    | some (.int v)=>if d≠0 then .nx (ρ2.set i (some (.lst (xs.set j (.int (g v w))),d))) else .no
    | _=>.no)
   | none=>.no)
  | _=>.no)
 | _,_=>.no
theorem OwnL.atInt {K:Frag}{Z:Addr->Prop}{d:Nat}{v:Int}:∀ {xs:List PV}{ws:List V}{f:List Addr}{j:Nat},OwnL K H Z xs d ws f->xs[j]?=some (.int v)->ws[j]?=some (.int v)
 | [],ws,f,j,h,e=>by simp at e
 | x::xs,ws,f,0,h,e=>by
  cases e;rw [OwnL] at h;obtain ⟨u,s,f1,f2,rfl,_,_,h1,_⟩:=h;rw [Own] at h1;rw [h1.1];rfl
 | x::xs,ws,f,j + 1,h,e=>by
  rw [OwnL] at h;obtain ⟨u,s,f1,f2,rfl,_,_,_,h2⟩:=h;rw [IE] at e ⊢;exact h2.atInt e
def kS {g:Int->Int->Int}{f fj:Fx}{vj:List Nat}{i:Nat}{D:Ends} (hal:∀ i,M.al i=[]) (hm:M.Ms i=false) (hq:tS M (Jp g i fj f) D σ H):VQ (DE i) (tE M fj vj) (tE M f vs) (Hy M.K) (Pd g) V9 D σ H:=by
 obtain ⟨ρ,fps,rep,q⟩:=hq;unfold Jp at q;split at q
 ·rename_i xs d b db ρ1 ei e1;split at q
  ·rename_i w dw ρ2 e2;split at q
   ·rename_i j ej;split at q
    ·rename_i v0 ev0;split at q
     ·rename_i hd;obtain ⟨v,hσ,ov⟩:=rep.own0 hal i _ _ ei;obtain ⟨a0,_,_,rfl,_⟩:=ov.list hd;refine ⟨.ref a0,hσ,ρ,fps,rep,?_⟩;rw [e1];intro vb H1 fps1 fpb k1 g1 rep1 ob tb;rw [Own] at ob;obtain ⟨rfl,rfl⟩:=ob;have ei1:ρ1[i]?=some (some (.lst xs,d)):=by rw [g1.1 i hm];exact ei
      obtain ⟨v1,hσ1,ov1⟩:=rep1.own0 hal i _ _ ei1;rw [hσ] at hσ1;cases hσ1;obtain ⟨a1,ws1,f1,ea1,ha1,hf1,na1,hol1⟩:=ov1.list hd;cases ea1;refine ⟨a0,ws1,b,.int v0,rfl,rfl,.inl (.inl ha1),(by unfold BO;rw [hol1.length,ej];exact hol1.atInt ev0),ρ1,fps1,rep1,?_⟩;rw [e2];intro vw H2 fps2 fpw k2 g2 rep2 ow tw;rw [Own] at ow;obtain ⟨rfl,rfl⟩:=ow;refine ⟨v0,w,rfl,rfl,?_⟩;have ei2:ρ2[i]?=some (some (.lst xs,d)):=by rw [g2.1 i hm];exact ei1
      obtain ⟨v2,hσ2,ov2⟩:=rep2.own0 hal i _ _ ei2;rw [hσ] at hσ2;cases hσ2;obtain ⟨a2,ws2,f2,ea2,ha2,hf2,na2,hol2⟩:=ov2.list hd;cases ea2;refine ⟨a0,ws2,b,j,rfl,rfl,ha2,by rw [hol2.length];exact ej,?_⟩;have hai:a0∈fps2 i:=by rw [hf2];exact AL
      have oy:Own M.K H2 (Zf M fps2) (.int (g v0 w)) (pd d) (.int (g v0 w)) []:=by rw [Own];exact ⟨rfl,rfl⟩
      obtain ⟨fc',hs',hset⟩:=hol2.set oy j;have inI:∀ b,b∈a0::fc'->b∈fps2 i:=λ b hb=>(jb4.mp hb).elim (λ z=>by rw [z];exact hai) λ z=>by rw [hf2];exact AM _ (hs' b z)
      have dm:∀ b,H2 b≠none->(Ao H2 a0 (.lst (ws2.set j (.int (g v0 w))))) b≠none:=λ b h=>by
       by_cases eb:b=a0
       ·rw [eb,Bu];simp
       ·rw [AH eb];exact h
      have nz:∀ b,Zf M (λ j=>if j=i then a0::fc' else fps2 j) b->Zf M fps2 b:=λ b h=>by
       rcases h with z | ⟨j,z⟩
       ·exact .inl z
       ·by_cases ej:j=i
        ·simp only [if_pos ej] at z;exact .inr ⟨i,inI b z⟩
        ·simp only [if_neg ej] at z;exact .inr ⟨j,z⟩
      have kw:KS M H2 fps2 (Ao H2 a0 (.lst (ws2.set j (.int (g v0 w))))) (λ j=>if j=i then a0::fc' else fps2 j):=⟨λ b u hb n=>by rw [AH (λ e=>n ⟨i,by rw [e];exact hai⟩)];exact hb,dm,λ j b hb=>by
       by_cases ej:j=i
       ·simp only [if_pos ej] at hb;exact .inl ⟨i,inI b hb⟩
       ·simp only [if_neg ej] at hb;exact .inl ⟨j,hb⟩⟩
      refine q σ _ _ ((k1.ks.trans k2.ks).trans kw) (rep2.change hal ei2 hσ (λ b u hb n=>by rw [AH (λ e=>n (by rw [e];exact hai))];exact hb) dm inI (λ h=>by rw [hm] at h;cases h) ?_);rw [Own];exact ⟨a0,_,rfl,.inr ⟨hd,fc',Bu,rfl,λ z=>na2 (hs' a0 z),hset.at (.inr ⟨i,hai⟩) ⟨.l ws2,ha2⟩ (λ z=>na2 (hs' a0 z)) λ b _ n z=>n (nz b z)⟩⟩
     ·exact q.elim
    ·exact q.elim
   ·exact q.elim
  ·exact q.elim
 ·exact q.elim
end
def Sa:Expr->Bool
 | .ListComp _ _ _ _=>true
 | .SetComp _ _ _ _=>true
 | .DictComp _ _ _ _ _=>true
 | _=>false
def qy:Expr->Bool
 | .Tuple _ _ _=>true
 | .List _ _=>true
 | _=>false
def AX (d:Stmt->Option Fs):List Stmt->Option Fs
 | []=>some A1
 | [s]=>d s
 | s::r=>match d s,AX d r with
  | some f,some g=>some (Ag f g)
  | _,_=>none
def EU (S:Sx) (x:Str):Bool:=Dj S.sc x .local || Dj S.sc x .cell
def Kx (S:Sx) (i:Nat):Bool:=(decide (i≠0) || !S.msF 0) && !S.pn.contains i
def VC (iw:Iw) (asg:PV->Af->Option Af) (body:Fs):Fs:=match iw with
 | .rng en fa _=>CP en fa asg body
 | .seq f vs=>E3 f vs asg body
 | .vw v fa vs=>GD v fa vs asg body
def Vn:Io->Option ((Int->Int->Int)×Bool)
 | .Add=>some (λ i j=>i + j,true)
 | .Sub=>some (λ i j=>i - j,false)
 | _=>none
def Kb (S:Sx):List Expr->Option (List Nat)
 | []=>some []
 | .Name x _::r=>match S.slot x,Kb S r with
  | some i,some is=>if EU S x=true/\Kx S i=true/\S.msF i=false then some (i::is) else none
  | _,_=>none
 | _=>none
def Sx.nr (S:Sx):Sx:={ S with rz:=false }
def Gr (S:Sx):Expr->Option D2
 | .Dict [] [] _=>some (Fe,[])
 | e=>BA 60 S e
def Vq (S:Sx) (x at':Str) (apos:Pos) (e:Expr) (cpos:Pos):Option Fs:=if at' = "append" then (match S.slot x,BA 60 S e with
   | some i,some (f,vs)=>if S.msF i=false/\(apos.endLine == cpos.line)=true then some (Co i f vs) else none
   | _,_=>none) else if at' = "extend" then (match S.slot x,BA 60 S e with
   | some i,some (f,vs)=>if S.msF i=false/\(apos.endLine == cpos.line)=true then some (Du i f vs) else none
   | _,_=>none) else none
def qm (_:Sx) (_:Expr) (_:Str) (_:Pos) (_:Expr) (_:Pos):Option Fs:=none
def Ml (S:Sx):Expr->Option Fs
 | .Call fn es [] p1=>(match fn with
  | .Attribute o at' apos=>(match Js o,es with
   | some x,[e]=>Vq S x at' apos e p1
   | none,[e]=>qm S o at' apos e p1
   | _,_=>none)
  | .Name x p=>(match BA 60 S (.Call (.Name x p) es [] p1) with
   | some (f,_)=>some (D5 f)
   | none=>none)
  | _=>none)
 | _=>none
def Si:PV->Nat->PV->Nat->Option (PV×Nat)
 | .lst xs,d,.int i,_=>(BO xs i).map λ z=>(z,if d=om then om else dv z)
 | _,_,_,_=>none
theorem OwnL.nthF {K:Frag}{H:Hp}{Z:Addr->Prop}{d:Nat}{x:PV}:∀ {xs:List PV}{ws:List V}{f:List Addr}{j:Nat},OwnL K H Z xs d ws f->xs[j]?=some x->∃ w fx,ws[j]?=some w/\Own K H Z x d w fx/\∀ a∈fx,a∈f
 | [],_,_,_,_,e=>by cases e
 | y::ys,ws,f,j,h,e=>by
  rw [OwnL] at h;obtain ⟨v,s,f1,f2,rfl,rfl,_,h1,h2⟩:=h;cases j with
  | zero=>cases e;exact ⟨v,f1,rfl,h1,λ a ha=>BW _ ha⟩
  | succ j=>
   obtain ⟨w,fx,e1,o,s'⟩:=h2.nthF (j:=j) (by simpa using e);exact ⟨w,fx,by simpa using e1,o,λ a ha=>BX _ (s' a ha)⟩
def LR:List (PV×Nat)->Bool
 | []=>true
 | p::r=>((p.2 == om) || Oy p.1) && LR r
def Sj (xs:List (PV×Nat)):Option (PV×Nat):=if xs.length<=Az then some (.lst (xs.map (·.1)),if LR xs then om else 1) else none
theorem Tmps.allF {K:Frag}{H:Hp}{Z:Addr->Prop}:∀ {xs:List (PV×Nat)}{ws:List V}{fp:List Addr},Tmps K H Z xs ws fp->LR xs=true->OwnL K H Z (xs.map (·.1)) om ws fp
 | [],_,_,h,_=>by rw [GI,OwnL];exact h
 | (x,d)::xs,ws,fp,h,ha=>by
  obtain ⟨v,s,f1,f2,e1,e2,dj,h1,h2⟩:=h;unfold LR at ha;rw [Bc,Gd] at ha;rw [Be,OwnL];rcases ha.1 with e | e
  ·have e:d=om:=eq_of_beq e;subst e;exact ⟨v,s,f1,f2,e1,e2,dj,Own.full x v f1 h1,h2.allF ha.2⟩
  ·obtain ⟨rfl,o⟩:=Own.flatA (Z':=Z) (d':=om) e h1;exact ⟨v,s,[],f2,e1,e2,dj,o,h2.allF ha.2⟩
section
variable {X:Cx}{M:Fm}{a b:Expr}{es:List Expr}{fa:Fa}{f g:Fx}{vs vs':List Nat}{pos:Pos}
def kj (h:PA X es (tL M fa vs)):PE X (.List es pos) (tE M (Am Sj fa) vs):=by
 refine BL (Wt h) λ σ H Q h=>MP (r:=λ xs H1 Q=>xs.length<=Az/\∀ p,H1 p=none->Q (.ref p) (Ao H1 p (.lst xs))) (λ xs z c ws H fps fp Q ho tm nz zd lf=>?_) h;unfold Sj at ho;split at ho
 ·rename_i hl;refine ⟨by rw [tm.length];exact hl,λ q hq=>?_⟩;cases eo:LR xs with
  | true=>rw [eo] at ho;cases ho;exact Uw lf (tm.allF eo) hq
  | false=>rw [eo] at ho;cases ho;exact PN lf (tm.cold λ a ha z=>nz a ha z.zf) hq
 ·cases ho
def ke (hv:∀ i∈vs,M.Ms i=false) (hs:M7 b) (ha:PE X a (tE M f vs)) (hb:PE X b (tE M g vs')):PE X (.Subscript a b pos) (tE M (Ab Si f g) (vs++vs')):=by
 refine BL (VE qlh ha hb hs) λ σ H Q h=>EI hv (λ x d y e z c v w H fps f1 f2 Q ho o1 o2 dj nz zd lf=>?_) h;unfold Si at ho;split at ho
 ·rename_i xs i;obtain ⟨z',ez,e2⟩:=jc0.mp ho;rw [Own] at o2;by_cases hd:d=om
  ·subst hd;rw [if_pos rfl] at e2;cases e2;obtain ⟨p,ws,fc,rfl,hp,rfl,nac,ol⟩:=o1.list (by decide:om≠0);rw [qR] at ol;unfold BO at ez;cases ej:DO xs.length i with
   | none=>rw [ej] at ez;cases ez
   | some j=>
    rw [ej] at ez;obtain ⟨w',fz,e1,ow,sb⟩:=ol.nthF ez;refine .inl ⟨p,ws,i,w',rfl,o2.1,.inl (.inl hp),?_,lf w' H fz (λ _ _ h=>h) (Own.full _ _ _ ow) λ a ha=>.inl (BW _ (AM _ (sb a ha)))⟩;unfold BO;rw [ol.length,ej];exact e1
  ·rw [if_neg hd] at e2;cases e2;obtain ⟨p,ws,rfl,hp,ol⟩:=(cold o1 λ a ha=>nz a (BW _ ha)).coldL;obtain ⟨w',e1,ow⟩:=Sr ol ez;exact .inl ⟨p,ws,i,w',rfl,o2.1,.inl (.inl hp),e1,JJ lf ow⟩
 ·cases ho
end
def HH (S:Sx) (e:Expr):Option D2:=match e with
 | .Subscript (.List es _) b _=>(match E6 (BA 60 S) es,BA 60 S b with
  | some (fa,v),some (g,u)=>if KY b=true then some (Ab Si (Am Sj fa) g,v++u) else none
  | _,_=>none)
 | e=>BA 60 S e
def VX (S:Sx) (t k e:Expr):Option Fs:=match t with
 | .Name x _=>(match S.slot x,BA 60 S k,HH S e with
  | some i,some (fk,_),some (f,_)=>if S.msF i=false/\KY k=true then some (Ew i fk f) else none
  | _,_,_=>none)
 | _=>none
def Jh (e:Expr):Option (List Expr):=match e with
 | .Tuple es _ _=>some es
 | _=>none
def kM {e:Expr}{es:List Expr} (h:Jh e=some es):∃ k p,e=.Tuple es k p:=by
 unfold Jh at h;split at h
 ·cases h;exact ⟨_,_,rfl⟩
 ·cases h
def V6 (S:Sx) (es:List Expr) (e:Expr):Option (Nat×Nat×Fa):=match es,Jh e with
 | [u,v],some [a,b]=>(match Js u,Js v,E6 (BA 60 S) [a,b] with
  | some x,some y,some (fa,_)=>(match S.slot x,S.slot y with
   | some i,some j=>if i≠j/\x≠y/\S.sc.kind=.function/\Dj S.sc x .local=true/\Dj S.sc y .local=true/\RJ a b u.pos v.pos=true then some (i,j,fa) else none
   | _,_=>none)
  | _,_,_=>none)
 | _,_=>none
def RW (S:Sx) (t e:Expr):Option Fs:=match t with
 | .Tuple es k p=>(match V6 S es e with
  | some (i,j,fa)=>(match Kb S es with
   | some is=>if is=[i,j] then some (DF i j fa) else none
   | none=>none)
  | none=>(match Kb S es,BA 60 S e with
   | some is,some (f,vs)=>if Sa e=false/\qy e=false then some (Cb (asgT is) f vs) else none
   | _,_=>none))
 | .Name x _=>(match S.slot x,Gr S e with
   | some i,some (f,vs)=>if EU S x=true/\Kx S i=true then some (Aj (S.msF i) i f vs) else none
   | _,_=>none)
 | .Subscript t k _=>VX S t k e
 | _=>none
def MD (d:Stmt->Option Fs) (S:Sx) (body:List Stmt):Option Fs:=AX d body
def qsm:List Str:=["table","behind"]
def J0 (d:Stmt->Option Fs) (S:Sx) (x:Str) (it:Expr) (body:List Stmt):Option Fs:=match S.slot x,MD d S body with
 | some i,some b=>if EU S x=true/\Kx S i=true/\S.msF i=false then (match it with
   | .Name y _=>if qsm.contains y=true then (match BA 60 S it with
    | some (f,vs)=>some (Ih f vs (asgN i) b)
    | none=>none) else none
   | .Call fn args ks cpos=>(match ks with
    | []=>(match fn with
   | .Attribute ob at' apos=>(match ob,args with
   | .Subscript o k p,[]=>if at' = "values" /\ (apos.endLine == cpos.line)=true then (match BA 60 S (.Subscript o k p) with
    | some (f,vs)=>some (Kv f vs (asgN i) b)
    | none=>none) else none
   | _,_=>none)
   | .Name r _=>(match args with
   | [e1,e2,e3]=>if r = "range" /\ S.glob "range" = true then (match E6 (BA 60 S) [e1,e2,e3] with
    | some (fa,_)=>some (IV fa (asgN i) b)
    | none=>none) else none
   | _=>none)
   | _=>none)
    | _=>none)
   | _=>none) else none
 | _,_=>none
def RX (d:Stmt->Option Fs) (S:Sx) (t it:Expr) (body:List Stmt):Option Fs:=match t with
 | .Name x p=>(match J0 d S x it body with
  | some f=>some f
  | none=>match S.slot x,Fd (BA 60 S) S it,MD d S body with
    | some i,some iw,some b=>if EU S x=true/\Kx S i=true/\S.msF i=false/\FV (.Name x p) iw=true then some (VC iw (asgN i) b) else none
    | _,_,_=>none)
 | .Tuple es k p=>(match Kb S es,Fd (BA 60 S) S it,MD d S body with
   | some is,some iw,some b=>some (VC iw (asgT is) b)
   | _,_,_=>none)
 | _=>none
def RY (S:Sx) (e:Expr):Option Fs:=match Js e with
 | some x=>(match S.slot x with
   | some i=>if S.msF i=true then none else some (DV i)
   | none=>none)
 | none=>(match BA 60 S e with
   | some (f,vs)=>some (Au f)
   | none=>none)
def VT (S:Sx) (t:Expr) (op:Io) (e:Expr):Option Fs:=match t with
 | .Subscript o k _=>(match o with
  | .Name x _=>(match S.slot x,BA 60 S k,BA 60 S e,Vn op with
   | some s,some (fj,_),some (f,_),some (g,_)=>if S.msF s=false/\KY k=true then some (Jp g s fj f) else none
   | _,_,_,_=>none)
  | _=>none)
 | _=>none
def Sx.bare (S:Sx):Sx:={ S with ms:=[] }
def HG (S:Sx) (c:Expr):Option D2:=(BA 60 S c).or (BA 60 S.bare c)
def KH (d:Stmt->Option Fs) (S:Sx):Stmt->Option Fs
 | .Raise _ _ _=>some FX
 | .Expr v _=>Ml S v
 | .Assign ts e _=>(match ts with
  | [t]=>RW S t e
  | _=>none)
 | .If c a b _=>match HG S c,AX d a,AX d b with
  | some (f,_),some s,some t=>some (Bi (bT f) s t)
  | _,_,_=>none
 | .For t it body o _=>(match o with
  | []=>RX d S t it body
  | _=>none)
 | .While c body o _=>(match o,HG S c,AX d body with
  | [],some (f,_),some b=>some (Sf (bT f) b)
  | _,_,_=>none)
 | .AugAssign t op e _=>VT S t op e
 | .Return o _=>(match o with
  | some e=>RY S e
  | none=>none)
 | _=>none
def LC:Nat->Sx->Stmt->Option Fs
 | 0,_,_=>none
 | n + 1,S,st=>some ((KH (LC n S) S st).getD FX)
section
variable {X:Cx}{P:A8}{w:A7}{K:Frag}{mg:Str->Option Ad}{base:Heap}{lvl:Nat}{S:Sx}{Wx:St->Nat->Hp->Prop}{M:Fm}{f g:Fx}{vs vs':List Nat}{σ:St}{H:Hp}{Q:VK}
structure SM (X:Cx) (M:Fm) (K:Frag) (S:Sx) (Wx:St->Nat->Hp->Prop):Prop where
 ms:MS M K S Wx
 al:∀ i,M.al i=[]
 io:M.io≠none->S.msF 0=true
 pn:∀ p∈M.pn,p.1∈S.pn
 fn:∀ x,X.fn x=true
 nd:S.N.Nodup
 st:X.stack=X.env::X.outer
 fr:X.env.frame=some X.env.locals
def Hi (P:A8) (w:A7) (K:Frag) (mg:Str->Option Ad) (base:Heap) (lvl:Nat) (S:Sx) (st:Stmt) (f:Fs):Prop:=∀ {Wx} X M,XS X P w K mg base lvl S Wx->SM X M K S Wx->PS X st (tS M f)
theorem JG {d:Stmt->Option Fs} (hd:∀ st f,d st=some f->Hi P w K mg base lvl S st f):∀ (sts:List Stmt) (f:Fs),AX d sts=some f->∀ {Wx} X M,XS X P w K mg base lvl S Wx->SM X M K S Wx->Eu X sts (tS M f)
 | [],f,h=>by cases h;exact λ X M xs sm=>Xf kF λ D σ H q=>z7 q
 | [s],f,h=>λ X M xs sm=>kG (hd s f h X M xs sm)
 | s::s'::r,f,h=>by
  unfold AX at h;split at h
  ·rename_i f1 f2 h1 h2;cases h;exact λ X M xs sm=>Xf (wG (hd s f1 h1 X M xs sm) (JG hd (s'::r) f2 h2 X M xs sm)) λ D σ H q=>zC q
  ·cases h
def JZ {x:Str}{i:Nat} (h:S.slot x=some i):S.N[i]?=some x:=by
 unfold Sx.slot at h;split at h
 ·exact MU h
 ·cases h
def OF {x:Str} (h:EU S x=true):FE S.sc x:=by
 unfold EU at h;rw [Gd] at h;exact h.elim (λ h=>.inl (Gy h)) λ h=>.inr (Gy h)
def KJ {i:Nat} (h:Kx S i=true) (sm:SM X M K S Wx):M.Fre i:=by
 unfold Kx at h;rw [Bc,Gd] at h;refine ⟨λ hio=>?_,λ p hp e=>?_⟩
 ·rcases h.1 with h | h
  ·simpa using h
  ·rw [sm.io hio] at h;cases h
 ·have z:=sm.pn p hp;rw [e] at z;have h2:=h.2;rw [List.contains_iff_mem.mpr z] at h2;cases h2
theorem kr {e:Expr}{t:Option Expr}{l:Nat}{env:Env} (h:Sa e=false):swapsWith e t l env=pure false:=by
 cases e with
 | ListComp _ _ _ _=>cases h
 | SetComp _ _ _ _=>cases h
 | DictComp _ _ _ _ _=>cases h
 | _=>rfl
theorem vz (GX:GX K mg S.xc) (G:GS P w K mg base lvl S.Γ) (Gm:HW P w K mg base lvl S.Γm) (hS:∀ i,∀ j∈S.alF i,S.msF j=false) {n:Nat}{elt:Expr}{gs:List Comprehension}{scope:Bz}{pos:Pos} (h:BA (n + 1) S (.ListComp elt gs scope pos)=some (f,vs)):
  ∃ tg ys asg it ifs iw t g vE,gs=[⟨tg,it,ifs,0⟩]/\CompParts P w K mg base lvl S scope tg ys asg it elt ifs iw t g vE/\f=LA iw ys.length asg t g/\vs=iw.vs++vE.filter (λ i=>decide (i < S.N.length)):=by
 have hd:∀ e f vs,BA n S e=some (f,vs)->AU P w K mg base lvl S e f vs:=λ e f vs h=>LN GX G Gm n S e f vs rfl rfl rfl hS h;replace h:Hb (BA n) S (.ListComp elt gs scope pos)=some (f,vs):=h
 match gs,h with
 | [],h=>simp [Hb,Fc] at h
 | _::_::_,h=>simp [Hb,Fc] at h
 | [⟨tg,it,ifs,a⟩],h=>
  by_cases ha:a=0
  ·subst ha;replace h:(match NH S.N.length tg,Fd (BA n S) S it with
    | some (xs,asg),some iw=>if MB S scope xs iw.vs=true/\FV tg iw=true then (match O8 (BA n (Bg S scope xs iw.vs)) ifs,BA n (Bg S scope xs iw.vs) elt with
     | some t,some (g,vE)=>some (LA iw xs.length asg t g,iw.vs++vE.filter (λ i=>decide (i < S.N.length)))
     | _,_=>none) else none
    | _,_=>none)=some (f,vs):=h
   split at h
   ·rename_i ys asg iw ht hi;split at h
    ·rename_i hc;split at h
     ·rename_i t g vE h1 h2;cases h;have ck:=VS hc.1;have giw:=ME hd (MF n S) G.1 hi;have hS2:∀ i,∀ j∈(Bg S scope ys iw.vs).alF i,(Bg S scope ys iw.vs).msF j=false:=λ i j hj=>by
       rw [Ql] at hj;show S.msF j=false;split at hj
       ·exact hS i j hj
       ·split at hj
        ·exact giw.1 j hj
        ·cases hj
      have hd2:∀ e f vs,BA n (Bg S scope ys iw.vs) e=some (f,vs)->AU P w K mg base lvl (Bg S scope ys iw.vs) e f vs:=λ e f vs h=>LN GX G Gm n _ e f vs rfl rfl rfl hS2 h;exact ⟨tg,ys,asg,it,ifs,iw,t,g,vE,rfl,⟨ht,hc.2,ck,giw,hd2 _ _ _ h2,Y8 hd2 h1⟩,rfl,rfl⟩
     ·cases h
    ·cases h
   ·cases h
  ·simp [Hb,Fc,ha] at h
def Fi (xs:XS X P w K mg base lvl S Wx):Lo (Ax X.prog X.w) X.A X.env X.xe:=xs.po
theorem PU {es:List Expr}{is:List Nat} (h:Kb S es=some is) (xs:XS X P w K mg base lvl S Wx) (sm:SM X M K S Wx):KA X es (JK is)/\(E9 es X.env).length=is.length/\(E9 es X.env).findIdx? (·.1)=none/\∀ i∈is,Bd M [] i:=by
 induction es generalizing is with
 | nil=>cases h;exact ⟨Xb,rfl,rfl,λ _ z=>nomatch z⟩
 | cons e es ih=>
  unfold Kb at h;split at h
  ·cases ‹_::_=[]›
  ·rename_i x px r heq;cases heq;split at h
   ·rename_i i js hi hr;split at h
    ·rename_i hc;cases h;obtain ⟨h1,h2,h3,h4⟩:=ih hr;have hN:X.N.Nodup:=by rw [xs.N];exact sm.nd
     have hi':X.N[i]?=some x:=by rw [xs.N];exact JZ hi
     have hx:FE X.env.scope x:=by rw [xs.sc];exact OF hc.1
     refine ⟨XT (Lb hN hi' hx (.inl (sm.fn x))) h1 rfl,by rw [E9,Bw,h2,Bw] <;> (intros;contradiction),?_,λ j hj=>?_⟩
     ·rw [E9,Zs,h3] <;> first | rfl | (intros;contradiction)
     ·rcases jb4.mp hj with z | z
      ·rw [z];exact ⟨by rw [sm.ms.ms];exact hc.2.2,KJ hc.2.1 sm,sm.al i,sm.ms.als⟩
      ·exact h4 j z
    ·cases h
   ·cases h
  ·cases h
def Fm.bare (M:Fm):Fm:={ M with Ms:=λ _=>false,H₀:=λ _=>none,io:=none,pn:=[] }
def Rep.bare {ρ:Af}{fps:AW} (r:Rep M ρ σ H fps):Rep M.bare ρ σ H fps where
 own:=r.own
 non:=r.non
 dj:=r.dj
 zo:=r.zo
 fr:=λ _ _ _ _=>rfl
 zd:=r.zd
 len:=r.len
 msf:=λ _ _ _ h=>nomatch h
 h0:=λ _ h=>absurd rfl h
 iov:=And.intro (λ _ h=>nomatch h) (λ _ h=>nomatch h)
theorem vc {fb:Fb}{Q:Bool->Hp->Prop} (hq:tT M fb σ H Q):tT M.bare fb σ H Q:=by
 obtain ⟨ρ,fps,rep,q⟩:=hq;refine ⟨ρ,fps,rep.bare,?_⟩;have gr:∀ H' fps',KD M.bare H fps H' fps'->∀ a o,H a=some o->H' a=some o:=λ H' fps' k a o h=>k.keep a o h λ ⟨_,z,_⟩=>nomatch z
 cases e:fb ρ with
 | ok p=>
  obtain ⟨b,ρ'⟩:=p;rw [e] at q;intro H' fps' k ag _;have e1:ρ'=ρ:=Zn λ i=>ag.1 i rfl;subst e1;exact q H' fps (KD.grow (gr H' fps' k)) Agr.refl (rep.grow (gr H' fps' k))
 | exc c=>
  rw [e] at q;intro H' fps' k;exact q H' fps (KD.grow (gr H' fps' k))
 | no=>rw [e] at q;exact q
theorem WT (GX:GX K mg S.xc) (G:GS P w K mg base lvl S.Γ) (Gm:HW P w K mg base lvl S.Γm) (hS:∀ i,∀ j∈S.alF i,S.msF j=false) {c:Expr}{f:Fx}{vs:List Nat} (h:HG S c=some (f,vs)) (xs:XS X P w K mg base lvl S Wx) (m:MS M K S Wx):PT X c (tT M (bT f)):=by
 unfold HG at h;cases e:BA 60 S c with
 | some p=>
  rw [e] at h;cases h;exact ((LN GX G Gm 60 S c f vs rfl rfl rfl hS e).2.2 X M xs m).2
 | none=>
  rw [e] at h;have h2:BA 60 S.bare c=some (f,vs):=h;have gd:=(LN (S:=S) GX G Gm 60 S.bare c f vs rfl rfl rfl (λ _ _ _=>rfl) h2).2.2 X M.bare ⟨xs.prog,xs.w,xs.K,xs.mg,xs.base,xs.N,xs.sc,xs.calm,xs.room,xs.po,xs.ps,xs.rs⟩ ⟨m.K,rfl,m.al,λ _ _ _=>rfl,m.W,λ _ h=>nomatch h⟩;exact JN gd.2 λ σ H Q q=>vc q
def Qa {d:Stmt->Option Fs}{body:List Stmt}{f:Fs} (hd:∀ e f vs,BA 60 S e=some (f,vs)->AU P w K mg base lvl S e f vs) (ih:∀ st f,d st=some f->Hi P w K mg base lvl S st f) (h:MD d S body=some f):∀ {Wx} X M,XS X P w K mg base lvl S Wx->SM X M K S Wx->Eu X body (tS M f):=by
 exact JG ih _ _ h
def jm {d:Stmt->Option Fs}{body:List Stmt}{f:Fs}{x:Str}{it:Expr}{px pos:Pos} (hb:∀ x∈zkx,mg x=none) (hd:∀ e f vs,BA 60 S e=some (f,vs)->AU P w K mg base lvl S e f vs) (ih:∀ st f,d st=some f->Hi P w K mg base lvl S st f) (h:J0 d S x it body=some f):Hi P w K mg base lvl S (.For (.Name x px) it body [] pos) f:=by
 unfold J0 at h;split at h
 ·rename_i i b hi hbody;split at h
  ·rename_i hc;have base:∀ {Wx} X M,XS X P w K mg base lvl S Wx->SM X M K S Wx->Eu X body (tS M b)/\Dd M [] [i] (Fq i) (asgN i)/\PG X (.Name x px) (Fq i):=λ X M xs sm=>by
    have hN:X.N.Nodup:=by rw [xs.N];exact sm.nd
    have hi':X.N[i]?=some x:=by rw [xs.N];exact JZ hi
    have hx:FE X.env.scope x:=by rw [xs.sc];exact OF hc.1
    exact ⟨Qa hd ih hbody X M xs sm,RZ ⟨by rw [sm.ms.ms];exact hc.2.2,KJ hc.2.1 sm,sm.al i,sm.ms.als⟩,Lb hN hi' hx (.inl (sm.fn x))⟩
   split at h
   ·rename_i y py;split at h
    ·split at h
     ·rename_i f1 v1 he;cases h;have g:=hd _ _ _ he;intro Wx X M xs sm;obtain ⟨hbd,hg,hpg⟩:=base X M xs sm;have hf:=IJ (n:=0) (env:=X.env) (iter:=.Name y py) (f:=Aa 0) (vs:=[]) (λ _ _ _ z=>nomatch z);have pe:=(g.2.2 X M xs sm.ms).1;refine CD (qW (Fp (pos:=pos) (Fi xs) xs.calm (Wv pe) hpg hbd hf) (Xe (Fp (pos:=pos) (Fi xs) xs.calm (kB pe) hpg hbd hf))) λ D σ H q=>?_
      have:=kU (X:=X) sm.al (sm.ms.v g.1) hg q
      rw [sm.ms.k xs] at this;exact this
     ·cases h
    ·cases h
   ·rename_i fn args ks cpos;split at h
    rotate_left
    ·cases h
    split at h
    ·rename_i ob at' apos;split at h
     ·rename_i o k p;split at h
      ·rename_i hv;obtain ⟨rfl,hl⟩:=hv;split at h
       ·rename_i f1 v1 he;cases h;have g:=hd _ _ _ he;intro Wx X M xs sm;obtain ⟨hbd,hg,hpg⟩:=base X M xs sm;have hf:=IJ (n:=0) (env:=X.env) (iter:=.Call (.Attribute (.Subscript o k p) "values" apos) [] [] cpos) (f:=Aa 0) (vs:=[]) (λ _ _ _ z=>nomatch z);have pe:=(g.2.2 X M xs sm.ms).1;exact CD (Xe (Fp (pos:=pos) (Fi xs) xs.calm (kC (jK (apos:=apos) (cpos:=cpos) pe rfl hl)) hpg hbd hf)) λ D σ H q=>kW (X:=X) sm.al (sm.ms.v g.1) hg q
       ·cases h
      ·cases h
     ·cases h
    ·rename_i r pr;split at h
     ·rename_i e1 e2 e3;split at h
      ·rename_i hr;obtain ⟨rfl,hgl⟩:=hr;split at h
       ·rename_i fa v1 he;cases h;have g:=Fh hd _ _ _ he;intro Wx X M xs sm;obtain ⟨hbd,hg,hpg⟩:=base X M xs sm;have hs:=g.2.1;rw [HD,Bc] at hs;have hf:=IJ (n:=0) (env:=X.env) (iter:=.Call (.Name "range" pr) [e1,e2,e3] [] cpos) (f:=Aa 0) (vs:=[]) (λ _ _ _ z=>nomatch z);exact CD (Fp (pos:=pos) (Fi xs) xs.calm (jL (xs.gl hgl) (by rw [xs.mg];exact hb _ (by decide +kernel)) (g.2.2 X M xs sm.ms) (D4 (D7 hs.1)) (Na hs.2)) hpg hbd hf) λ D σ H q=>wy (vs:=v1) hg q
       ·cases h
      ·cases h
     ·cases h
    ·cases h
   ·cases h
  ·cases h
 ·cases h
def ji {e:Expr}{f:Fx}{vs:List Nat} (hd:∀ e f vs,BA 60 S e=some (f,vs)->AU P w K mg base lvl S e f vs) (h:HH S e=some (f,vs)):AU P w K mg base lvl S e f vs:=by
 unfold HH at h;split at h
 ·split at h
  ·rename_i f1 v1 f2 v2 h1 h2;split at h
   ·rename_i hn;cases h;have g1:=Fh hd _ _ _ h1;have g2:=hd _ _ _ h2;exact CQ (Gx g1.1 g2.1) rfl (λ _ _=>rfl) λ X M xs m=>ke (m.v g1.1) (Qg hn) (kj (g1.2.2 X M xs m)) (g2.2.2 X M xs m).1
   ·cases h
  ·cases h
 ·exact hd _ _ _ h
def uj (GX:GX K mg S.xc) (G:GS P w K mg base lvl S.Γ) (Gm:HW P w K mg base lvl S.Γm) (hS:∀ i,∀ j∈S.alF i,S.msF j=false) {d:Stmt->Option Fs} (ih:∀ (st:Stmt) (f:Fs),d st=some f->Hi P w K mg base lvl S st f):∀ (st:Stmt) (f:Fs),KH d S st=some f->Hi P w K mg base lvl S st f:=by
 have hd:∀ e f vs,BA 60 S e=some (f,vs)->AU P w K mg base lvl S e f vs:=λ e f vs h=>LN GX G Gm 60 S e f vs rfl rfl rfl hS h;have hdO:∀ e f vs,HH S e=some (f,vs)->AU P w K mg base lvl S e f vs:=λ e f vs h=>ji hd h;have hdA:∀ e f vs,Gr S e=some (f,vs)->AU P w K mg base lvl S e f vs:=λ e f vs h=>by
  unfold Gr at h;split at h
  ·cases h;exact CQ (λ _ z=>nomatch z) rfl (λ _ _=>rfl) λ X M xs m=>zb
  ·exact hd _ _ _ h
 intro st f h;have core:True->Hi P w K mg base lvl S st f:=λ _=>by
  unfold KH at h;split at h
  ·cases h;intro Wx X M xs sm pins s σ H D I q;exact (XU pins s σ H D I (VI (t:=So) q))
  ·rename_i v pos;unfold Ml at h;split at h
   ·rename_i fn es cpos;split at h
    ·rename_i o at' apos;split at h
     ·rename_i x e hx;obtain ⟨px,rfl⟩:=JL hx;unfold Vq at h;split at h
      ·rename_i hat;subst hat;split at h
       ·rename_i i f1 v1 hi he;split at h
        ·rename_i hc;cases h;have g:=hd _ _ _ he;intro Wx X M xs sm;have hb:=VD (X:=X) (cpos:=cpos) PySem.F.plainAttrs_list PySem.F.slot_list_append PySem.F.type_list_append UG (xs.var (pos:=px) hi) (La (g.2.2 X M xs sm.ms).1 OC (D4 (D7 g.2.1))) rfl (Uy g.2.1 X.env cpos) hc.2 (D4 (D7 g.2.1)) rfl;refine CD (SI hb rfl) λ D σ H q=>?_
         have:=zy (D:=D) sm.al (sm.ms.v g.1) (by rw [sm.ms.ms];exact hc.1) q
         rw [sm.ms.k xs] at this;exact this
        ·cases h
       ·cases h
      ·split at h
       ·rename_i hat;subst hat;split at h
        ·rename_i i f1 v1 hi he;split at h
         ·rename_i hc;cases h;have g:=hd _ _ _ he;intro Wx X M xs sm;have hb:=VD (X:=X) (cpos:=cpos) PySem.F.plainAttrs_list PySem.F.slot_list_extend PySem.F.type_list_extend yE (xs.var (pos:=px) hi) (La (g.2.2 X M xs sm.ms).1 OC (D4 (D7 g.2.1))) rfl (Uy g.2.1 X.env cpos) hc.2 (D4 (D7 g.2.1)) rfl;refine CD (SI hb rfl) λ D σ H q=>?_
          have:=z6 (D:=D) sm.al (sm.ms.v g.1) (by rw [sm.ms.ms];exact hc.1) q
          rw [sm.ms.k xs] at this;exact this
         ·cases h
        ·cases h
       ·cases h
     ·rename_i e hx;cases h
     ·cases h
    ·rename_i x p;split at h
     ·rename_i f1 v1 he;cases h;intro Wx X M xs sm;exact CD (SI ((hd _ _ _ he).2.2 X M xs sm.ms).1 rfl) λ D σ H q=>kT q
     ·cases h
    ·cases h
   ·cases h
  ·rename_i ts e pos;rcases ts with _ | ⟨t,_ | _⟩
   ·cases h
   rotate_left
   ·cases h
   replace h:RW S t e=some f:=h;unfold RW at h;split at h
   ·rename_i es k p;split at h
    ·rename_i i j fa hp;split at h
     ·rename_i is hs;split at h
      ·rename_i ei;cases h;subst ei;unfold V6 at hp;split at hp
       ·rename_i u v a b ht;obtain ⟨k2,pt2,rfl⟩:=kM ht;split at hp
        ·rename_i x y fa' vs' hx hy hl;obtain ⟨px,rfl⟩:=JL hx;obtain ⟨py,rfl⟩:=JL hy;split at hp
         ·rename_i i' j' hi hj;split at hp
          ·rename_i hc;cases hp;obtain ⟨c1,c2,c3,c4,c5,c6⟩:=hc;have g:=Fh hd _ _ _ hl;intro Wx X M xs sm;obtain ⟨_,_,_,h4⟩:=PU hs xs sm;have hN:X.N.Nodup:=by rw [xs.N];exact sm.nd
           have l1:X.env.scope.names.lookup x=some .local:=by rw [xs.sc];exact Gy c4
           have l2:X.env.scope.names.lookup y=some .local:=by rw [xs.sc];exact Gy c5
           exact CD (xI xs.calm hN (by rw [xs.N];exact JZ hi) (by rw [xs.N];exact JZ hj) c1 l1 l2 (g.2.2 X M xs sm.ms) (zi (by rw [xs.sc];exact c3) l1 l2 c2 c6)) λ D σ H q=>zA h4 q
          ·cases hp
         ·cases hp
        ·cases hp
       ·cases hp
      ·cases h
     ·cases h
    ·split at h
     ·rename_i is f1 v1 hs he;split at h
      ·rename_i hc;cases h;have g:=hd _ _ _ he;intro Wx X M xs sm;obtain ⟨h1,h2,h3,h4⟩:=PU hs xs sm;have mk:M.K=X.K:=sm.ms.k xs;refine CD (Ww (g.2.2 X M xs sm.ms).1 (Se xs.calm h1 h2 h3) ?_ ?_ ?_) λ D σ H q=>?_
       ·cases e <;> first | rfl | (cases hc.1)
       ·cases e <;> first | rfl | (cases hc.2)
       ·rfl
       ·have:=zE sm.al (sm.ms.v g.1) (RB h4) q
        rw [mk] at this;exact this
      ·cases h
     ·cases h
   ·rename_i x px;split at h
    ·rename_i i f1 v1 hi he;split at h
     ·rename_i hc;cases h;have g:=hdA _ _ _ he;intro Wx X M xs sm;have hN:X.N.Nodup:=by rw [xs.N];exact sm.nd
      have hi':X.N[i]?=some x:=by rw [xs.N];exact JZ hi
      have hx:FE X.env.scope x:=by rw [xs.sc];exact OF hc.1
      have mi:M.Ms i=S.msF i:=by rw [sm.ms.ms]
      cases hcp:Sa e with
      | false=>exact CD (Wz hN hi' hx (g.2.2 X M xs sm.ms).1 (kr hcp) (.inl (sm.fn x))) λ D σ H q=>Wl sm.al (sm.ms.v g.1) mi (KJ hc.2 sm) q
      | true=>
       cases e with
       | ListComp elt gs scope cpos=>
        obtain ⟨tg,ys,asg,it,ifs,iw,t,g2,vE,rfl,cp,rfl,rfl⟩:=vz GX G Gm hS (show BA 60 S _=_ from he);obtain ⟨wi,gg,h1,h2,h3,h4,h5,h6⟩:=Ut (pos:=cpos) cp xs sm.ms;refine xH (ui hN hi' hx (.inl (sm.fn x)) h2 xs.calm h1 h3 h4 h5 (IJ (n:=0) (f:=g2) (vs:=[]) cp.iwo.2.1)) λ D σ H hl q=>?_;exact h6 σ H _ (by rw [hl,xs.N]) (Wl sm.al (sm.ms.v g.1) mi (KJ hc.2 sm) q)
       | SetComp _ _ _ _=>simp [Gr,BA,Hb] at he
       | DictComp _ _ _ _ _=>simp [Gr,BA,Hb] at he
       | _=>cases hcp
     ·cases h
    ·cases h
   ·rename_i t k ps;unfold VX at h;split at h
    ·rename_i x px;split at h
     ·rename_i i fk vk f1 v1 hi hk he;split at h
      ·rename_i hc;cases h;have g:=hdO _ _ _ he;intro Wx X M xs sm;refine CD (Ww (g.2.2 X M xs sm.ms).1 (xF (xs.var hi) ((hd _ _ _ hk).2.2 X M xs sm.ms).1 (qC (by have:=xs.room.units;omega)) ?_) ?_ ?_ rfl) λ D σ H q=>kX sm.al (by rw [sm.ms.ms];exact hc.1) (sm.ms.v g.1) q
       ·intro v;cases k <;> first | rfl | (cases hc.2)
       ·cases e <;> rfl
       ·cases e <;> rfl
      ·cases h
     ·cases h
    ·cases h
   ·cases h
  ·split at h
   ·rename_i f1 v1 s t hc ha hb;cases h;intro Wx X M xs sm;exact CD (qV (WT GX G Gm hS hc xs sm.ms) (JG ih _ _ ha X M xs sm) (JG ih _ _ hb X M xs sm)) λ D σ H q=>qE q
   ·cases h
  ·rename_i t it body o pos;rcases o with _ | _
   rotate_left
   ·cases h
   replace h:RX d S t it body=some f:=h;unfold RX at h;split at h
   ·rename_i x px;split at h
    ·rename_i f' hf;cases h;exact λ {Wx}=>jm G.1 hd ih hf
    split at h
    ·rename_i i iw b hi hw hb;split at h
     ·rename_i hc;cases h;intro Wx X M xs sm;have hN:X.N.Nodup:=by rw [xs.N];exact sm.nd
      have hi':X.N[i]?=some x:=by rw [xs.N];exact JZ hi
      have hx:FE X.env.scope x:=by rw [xs.sc];exact OF hc.1
      have giw:=ME hd (MF 60 S) G.1 hw;have hbd:=Qa hd ih hb X M xs sm;have hg:Dd M [] [i] (Fq i) (asgN i):=RZ ⟨by rw [sm.ms.ms];exact hc.2.2.1,KJ hc.2.1 sm,sm.al i,sm.ms.als⟩;have hpg:PG X (.Name x px) (Fq i):=Lb hN hi' hx (.inl (sm.fn x));have hpi:=giw.2.2 X M xs sm.ms (.Name x px);have hf:=IJ (n:=0) (env:=X.env) (f:=Aa 0) (vs:=[]) giw.2.1;cases iw with
      | rng en fa vs=>
       rcases hpi with ⟨rfl,hpi⟩ | ⟨rfl,hpi⟩
       ·exact CD (Fp (Fi xs) xs.calm hpi hpg hbd hf) λ D σ H q=>Xo hg q
       ·exact CD (Fp (Fi xs) xs.calm hpi hpg hbd hf) λ D σ H q=>Xp hg q
      | seq f vs=>exact CD (Fp (Fi xs) xs.calm hpi hpg hbd hf) λ D σ H q=>SS sm.al (sm.ms.v giw.1) hg q
      | vw v fa vs=>exact CD (Fp (Fi xs) xs.calm (hpi hc.2.2.2) hpg hbd hf) λ D σ H q=>Xq sm.al (sm.ms.v giw.1) hg q
     ·cases h
    ·cases h
   ·rename_i es k p;split at h
    ·rename_i is iw b hs hw hb;cases h;intro Wx X M xs sm;have giw:=ME hd (MF 60 S) G.1 hw;have hbd:=Qa hd ih hb X M xs sm;obtain ⟨h1,h2,h3,h4⟩:=PU hs xs sm;have mk:M.K=X.K:=sm.ms.k xs;have hg:=RB (M:=M) (al:=[]) h4;have hpg:=Se (pos:=p) (k:=k) xs.calm h1 h2 h3;rw [<- mk] at hpg;have hpi:=giw.2.2 X M xs sm.ms (.Tuple es k p);have hf:=IJ (n:=0) (env:=X.env) (f:=Aa 0) (vs:=[]) giw.2.1;cases iw with
     | rng en fa vs=>
      rcases hpi with ⟨rfl,hpi⟩ | ⟨rfl,hpi⟩
      ·exact CD (Fp (Fi xs) xs.calm hpi hpg hbd hf) λ D σ H q=>Xo hg q
      ·exact CD (Fp (Fi xs) xs.calm hpi hpg hbd hf) λ D σ H q=>Xp hg q
     | seq f vs=>exact CD (Fp (Fi xs) xs.calm hpi hpg hbd hf) λ D σ H q=>SS sm.al (sm.ms.v giw.1) hg q
     | vw v fa vs=>exact CD (Fp (Fi xs) xs.calm (hpi (by cases v <;> rfl)) hpg hbd hf) λ D σ H q=>Xq sm.al (sm.ms.v giw.1) hg q
    ·cases h
   ·cases h
  ·split at h
   ·rename_i f1 v1 b hc hb;cases h;intro Wx X M xs sm;exact CD (vY xs.po (WT GX G Gm hS hc xs sm.ms) (JG ih _ _ hb X M xs sm)) λ D σ H q=>wz q
   ·cases h
  ·rename_i t op e pos;unfold VT at h;split at h
   ·rename_i o k pk;split at h
    ·rename_i x px;split at h
     ·rename_i s fj vj f1 v1 g sd hs hj he hop;split at h
      ·rename_i hc;cases h;intro Wx X M xs sm;have mk:M.K=X.K:=sm.ms.k xs;have hp:Pr X op (Pd g):=by
        unfold Vn at hop;split at hop
        ·cases hop;exact x9
        ·cases hop;exact xA
        ·cases hop
       refine CD (kE (xs.var hs) ((hd _ _ _ hj).2.2 X M xs sm.ms).1 we ((hd _ _ _ he).2.2 X M xs sm.ms).1 hp wN ?_) λ D σ H q=>?_
       ·intro _ _ _;cases k <;> first | rfl | (cases hc.2)
       ·have:=kS (vs:=v1) (vj:=vj) sm.al (by rw [sm.ms.ms];exact hc.1) q
        rw [mk] at this;exact this
      ·cases h
     ·cases h
    ·cases h
   ·cases h
  ·rename_i o pos;rcases o with _ | e
   ·cases h
   replace h:RY S e=some f:=h;unfold RY at h;split at h
   ·rename_i x hx;obtain ⟨px,rfl⟩:=JL hx;split at h
    ·rename_i i hi;split at h
     ·cases h
     ·rename_i hm;cases h;intro Wx X M xs sm;exact CD (Wy (xs.var hi)) λ D σ H q=>kY sm.al (by rw [sm.ms.ms];simpa using hm) q
    ·cases h
   ·rename_i hx;split at h
    ·rename_i f1 v1 he;cases h;intro Wx X M xs sm;exact CD (Wy ((hd _ _ _ he).2.2 X M xs sm.ms).1) λ D σ H q=>zB (sm.ms.v (hd _ _ _ he).1) q
    ·cases h
  ·cases h
 exact λ {Wx}=>core trivial
theorem vy (GX:GX K mg S.xc) (G:GS P w K mg base lvl S.Γ) (Gm:HW P w K mg base lvl S.Γm) (hS:∀ i,∀ j∈S.alF i,S.msF j=false):∀ (n:Nat) (st:Stmt) (f:Fs),LC n S st=some f->Hi P w K mg base lvl S st f:=by
 intro n;induction n with
 | zero=>intro st f h;cases h
 | succ n ih=>
  intro st f h;replace h:some ((KH (LC n S) S st).getD FX)=some f:=h;cases e0:KH (LC n S) S st with
  | none=>
   rw [e0] at h;cases h;intro Wx X M xs sm pins s σ H D I q;exact (XU pins s σ H D I (VI (t:=So) q))
  | some f'=>
   rw [e0] at h;cases h;exact λ {Wx}=>uj GX G Gm hS ih _ _ e0
def Av:Nat->Sx->Stmt->Option Fs:=LC
def jj (GX:GX K mg S.xc) (G:GS P w K mg base lvl S.Γ) (Gm:HW P w K mg base lvl S.Γm) (hS:∀ i,∀ j∈S.alF i,S.msF j=false):∀ (n:Nat) (st:Stmt) (f:Fs),Av n S st=some f->Hi P w K mg base lvl S st f:=vy GX G Gm hS
def Ap (io:Bool) (np k:Nat) (b:Fs):Fn:=λ xs=>if xs.length=np/\io=false then (match b (xs.map (λ x=>some (x,dv x))++AK k none) with
 | .rt y d _=>.ok (y,d,.non)
 | .nx _=>.ok (.non,om,.non)
 | _=>.no) else .no
def E5 {io:Bool}{np k:Nat}{b:Fs}:∀ xs,xs.length≠np->Ap io np k b xs=.no:=λ xs h=>by
 unfold Ap;rw [if_neg λ z=>h z.1]
def jq {x qual:Str}{st:Stmt}{f:Addr}{fd:CU}{N ps:List Str}{k:Nat}{sp:Sp} (F:Fun K x qual st f fd) (S:FnScope N ps (Aw st)) (len:∀ vs H Q E,sp vs H Q E->vs.length=ps.length)
  (hbody:∀ (cdv:Ad) (A:BK) (outer:List Env) (s:Ai) (H:Hp) (vs:List V) (Q:VK) (E:XK),Room k (A.deeper (Hn qual (Aw st) s.heap.objs.size f cdv))->sp vs H Q E ->
   ∃ t,Eu (CJ (AQ P w K) P w K mg base N qual (Aw st) f cdv A outer s H E) (AY st) t/\t { nx:=λ _ H'=>Q .non H',rt:=Q } (L2.start N vs) H):FnOk P w K mg base (AQ P w K) (k + 1) f fd ps sp:=by
 obtain ⟨oc,od,kV,doc,pm,an,cdv,ct,osl,rfl,lk,hcd⟩:=F.ex;exact qt lk hcd S len λ A outer s H vs Q E hr hsp=>hbody cdv A outer s H vs Q E hr hsp
def qp {x qual:Str}{st:Stmt}{fa:Addr}{fd:CU}{ps:List Str}{np k:Nat}{io:Bool}{b:Fs} (Fu:Fun K x qual st fa fd) (FS:FnScope S.N ps (Aw st)) (hsc:S.sc=Aw st) (hal:S.al=[]) (hnp:ps.length=np) (hk:S.N.length=np + k)
  (hms:∀ i∈S.ms,i < np->i=0/\io=true) (hio:io=true->S.msF 0=true/\0 < np) (GX:GX K mg S.xc) (G:GS P w K mg base lvl S.Γ) (Gm:HW P w K mg base lvl S.Γm) (hb:AX (Av 60 S) (AY st)=some b):
  FnOk P w K mg base (AQ P w K) (lvl + 1) fa fd ps (AZ K io np (Ap io np k b)):=by
 have hS:∀ i,∀ j∈S.alF i,S.msF j=false:=λ i j hj=>by
  unfold Sx.alF at hj;rw [hal] at hj;simp at hj
 refine jq Fu FS (λ vs H Q E h=>h.1.trans hnp.symm) λ cdv A outer s H vs Q E hr h=>?_;obtain ⟨hl,xs,Zo,hZ,o,q⟩:=h;let M:Fm:={ K:=K,Ms:=S.msF,Zo:=Zo,H₀:=H,W:=W0,io:=none,al:=λ _=>[] }
 have hxs:XS (CJ (AQ P w K) P w K mg base S.N qual (Aw st) fa cdv A outer s H E) P w K mg base lvl S W0:=⟨rfl,rfl,rfl,rfl,rfl,rfl,hsc.symm,rfl,hr,jG,Wg,λ _=>jW⟩
 have hsm:SM (CJ (AQ P w K) P w K mg base S.N qual (Aw st) fa cdv A outer s H E) M K S W0:=by
  refine ⟨⟨rfl,rfl,λ i _=>?_,(λ i j hj=>nomatch hj),rfl,λ _ h=>nomatch h⟩,λ _=>rfl,λ h=>absurd rfl h,(λ _ h=>nomatch h),λ _=>rfl,FS.nd,rfl,rfl⟩;show []=S.al.getD i [];rw [hal];rfl
 unfold Ap at q;have hlen:xs.length=np/\io=false:=by
  by_cases e:xs.length=np/\io=false
  ·exact e
  ·rw [if_neg e] at q;exact q.elim
 rw [if_pos hlen] at q;have get:∀ i y d,(xs.map (λ x=>(some (x,dv x):Slot))++AK k none)[i]?=some (some (y,d))->xs[i]?=some y/\d=dv y:=λ i y d e=>by
  by_cases hi:i < xs.length
  ·rw [C6 (by rw [AG];exact hi),CI,Ci hi] at e;cases e;exact ⟨Ci hi,rfl⟩
  ·rw [Gj (by rw [AG];omega),EG] at e;split at e <;> cases e
 refine ⟨tS M b,JG (jj GX G Gm hS 60) _ _ hb _ M hxs hsm,xs.map (λ x=>some (x,dv x))++AK k none,λ _=>[],?_,?_⟩
 ·refine ⟨λ i y d e=>?_,λ i h=>rfl,λ i j hij a ha _=>(nomatch ha),λ i a ha=>(nomatch ha),λ i hi a ha=>(nomatch ha),hZ,?_,λ i y d hi e=>?_,λ a h=>h,⟨λ v hv=>(nomatch hv),λ _ h=>(nomatch h)⟩⟩
  ·obtain ⟨e1,rfl⟩:=get i y d e;obtain ⟨v,ev,ov⟩:=o.nth e1;refine ⟨v,?_,ov.dv.weak λ a h=>?_⟩
   ·unfold L2.start;rw [C6 (by rw [AG];exact (jb0.mp ev).1),CI,ev];rfl
   ·rcases h with h | ⟨j,_,h⟩
    ·exact h
    ·cases h
  ·unfold L2.start;rw [BM,AG,Es,BM,AG,Es,o.length,hlen.1,hk];omega
  ·have hm:i∈S.ms:=by
    have hi':S.msF i=true:=hi;unfold Sx.msF at hi';simpa using hi'
   have:=(jb0.mp (get i y d e).1).1
   have:=(hms i hm (by rw [<- hlen.1];exact this)).2
   rw [hlen.2] at this;cases this
 ·have fin:∀ {y:PV}{d:Nat}{v:V}{H':Hp}{fps':AW}{fp:List Addr},(∀ v H' fp,D1 (λ _=>False) H H'->(∀ a,H a≠none->H' a≠none)->Own K H' (λ a=>Zo a\/a∈fp) y d v fp->(∀ a∈fp,H a=none/\¬ Zo a)->Q v H')->KS M H (λ _=>[]) H' fps'->Own M.K H' (λ a=>Zr M fps' a\/a∈fp) y d v fp->(∀ a∈fp,M.H₀ a=none/\¬ Zr M fps' a)->Q v H':=λ q ks oy hf=>q _ _ _ (λ a o h _=>ks.keep a o h λ ⟨i,hi⟩=>(nomatch hi)) ks.dom (oy.weak λ a h=>h.elim (λ h=>.inl (.inl h)) .inr) λ a ha=>⟨(hf a ha).1,λ z=>(hf a ha).2 (.inl z)⟩
  cases eb:b (xs.map (λ x=>some (x,dv x))++AK k none) with
  | no=>rw [eb] at q;exact q
  | exc c=>rw [eb] at q;exact q.elim
  | bk ρ=>rw [eb] at q;exact q.elim
  | ct ρ=>rw [eb] at q;exact q.elim
  | rt y d ρ'=>
   rw [eb] at q;exact λ v σ' H' fps' fp ks rp oy hf=>fin q ks oy hf
  | nx ρ'=>
   rw [eb] at q;exact λ σ' H' fps' ks rp=>fin (fp:=[]) q ks (by rw [Own];exact ⟨rfl,rfl⟩) λ _ z=>(nomatch z)
end
open PySem PySem.Spec PySem.W PySem.Calls PyProof.Rows L2
theorem UQ {tb:String->Option vl0}{p:A8}{w:A7}{n₀:Nat}{ann:Option Ad}:∀ {n:Nat}{s r:SharedT}{t:Thread},Kd tb p w n₀ ann n s t=some r->topRun tb p w n₀ ann n s.abs t=some r.abs
 | 0,_,_,_,h=>by cases h
 | n + 1,s,r,t,h=>by
  unfold Kd at h;unfold topRun;cases e1:through t with
  | true=>rw [e1] at h;cases h;rfl
  | false=>
   rw [e1] at h;cases e2:stepOk n₀ ann t with
   | false=>rw [e2] at h;cases h
   | true=>
    rw [e2] at h;cases e3:stepT (denote tb) p w s t with
    | none=>rw [e3] at h;cases h
    | some z=>obtain ⟨s₂,t₂⟩:=z;rw [e3] at h;rw [stepT_spec e3];exact UQ h
def vh (P:Params) (os:OsState):(bootS P os).abs=⟨Ek P,#[],boot_drawn,boot_toks,os⟩:=by kernel_rfl
def zY (P:Params):(Ek P).isNs EA=true:=by kernel_rfl
def jU {p q:A8}{loose:List Str}{Xt:Ai->Bool}{α:Type}{Yf:Ai->α}{Ya:A7->α}{N:Nat} (e:opening p=plainProg p.main.scope.names) (hN:Nat.ble 600 N=true) (f:∀ s,fenceModules? p s=some s)
  (run:∀ (w:A7) (os:OsState),(Kd treeTable p w (Ek w.params).objs.size ((Ek w.params).nsMap EA "__annotations__") N (bootS w.params os) (topStub p)).map (λ s=>Sw p q loose Xt Yf (Ek w.params) s.abs)=some (true,openGood q loose,Ya w)):
  LeftO p q loose Xt Yf Ya N:=λ w=>by
 obtain ⟨⟨h,gs,d,k,os⟩,e1,e2⟩:=jc0.mp (boot_open e hN f w);obtain ⟨rfl,rfl,rfl,rfl⟩:h=Ek w.params/\gs=#[]/\d=boot_drawn/\k=boot_toks:=by simpa using e2
 obtain ⟨s,r1,r2⟩:=jc0.mp (run w os);have r:=UQ r1;rw [vh] at r;have r3:(_=_)/\(_ ,_)=(_,_):=Prod.mk.inj r2;obtain ⟨l1,l23⟩:=r3;obtain ⟨l2,l3⟩:=Prod.mk.inj l23;have t:topFrom treeTable p w N ⟨Ek w.params,#[],boot_drawn,boot_toks,os⟩=some s.abs:=by
  unfold topFrom;dsimp only;rw [zY,r];show (match staticsOk (QH p.main.body) (Ek w.params) s.abs.heap && namesBound p s.abs.heap && gensDone s.abs && laidKept (Ek w.params) s.abs.heap with | true=>_ | false=>_)=_;rw [l1]
 unfold openEnds;rw [e1];show (topFrom treeTable p w N _).map _=_;rw [t];exact congrArg some (Prod.ext l2 l3)
theorem xi (h:Heap):(LS h).In h:=by
 intro a o;unfold LS;generalize A6 h.objs.size=l;induction l with
 | nil=>intro e;cases e
 | cons b l ih=>
  intro e;rw [Pa] at e;cases g:h.get? b with
  | none=>rw [g] at e;exact ih e
  | some z=>
   rw [g] at e;dsimp only [Me] at e;rw [EX] at e;split at e
   ·rename_i q;cases e;rw [beq_iff_eq.mp q];exact g
   ·exact ih e
def qN {K:Frag}{x:Str}{st:Stmt} (e:Sv K x=some (RV x st)):∃ (g:Addr) (fd:CU),nsIn K EA x=some (some (.ref g))/\Fun K x x st g fd:=by
 unfold Sv at e;split at e
 ·rename_i g hg;split at e
  ·rename_i oc od fd sl hl;cases fd;unfold RV at e;simp only [Option.some.injEq,DefSeen.mk.injEq] at e;obtain ⟨rfl,rfl,rfl,rfl,rfl,rfl,rfl,rfl,rfl,hc⟩:=e;refine ⟨g,_,hg,qP hl hc ?_⟩;unfold keepIn;dsimp only;rw [hl]
  ·cases e
 ·cases e
structure Given (ds:List (Str×Stmt)) (xc:List Nat) (K:Frag) (mg:Str->Option Ad):Prop where
 df:∀ (i:Nat) (x:Str) (st:Stmt),ds[i]?=some (x,st)->∃ (g:Addr) (fd:CU),mg x=some (.ref g)/\Fun K x x st g fd
 bn:∀ x∈zkx,mg x=none
 gx:GX K mg xc
theorem Sd {α β:Type}{f g:α->β}:∀ {l:List α},l.map f=l.map g->∀ {i:Nat}{a:α},l[i]?=some a->f a=g a
 | [],_,_,_,h=>by cases h
 | b::l,e,0,a,h=>by
  cases h;exact (List.cons.inj e).1
 | b::l,e,i + 1,a,h=>Sd (List.cons.inj e).2 h
def wg {ds:List (Str×Stmt)}{xc:List Nat}{K:Frag}{mg:Str->Option Ad}{h:Heap} (X:K.In h) (G:h.Ns EA mg) (e:KU ds xc K=Li ds):Given ds xc K mg:=by
 obtain ⟨e1,e2⟩:=Prod.mk.inj e;obtain ⟨e2,e3⟩:=Prod.mk.inj e2;refine ⟨λ i x st hi=>?_,λ x hx=>?_,?_⟩
 ·obtain ⟨g,fd,a,b⟩:=qN (Sd e1 hi);exact ⟨g,fd,mg_of X G a,b⟩
 ·obtain ⟨i,hi⟩:=List.getElem?_of_mem hx;exact mg_none_of X G (Sd e2 hi)
 ·cases xc with
  | nil=>rfl
  | cons _ _=>cases e3
def je {P:A8}{w:A7}{K:Frag}{outer:List Env}{H:Hp}{s:Ai}{e:Ad}{s2:Ai} (z:AQ P w K outer H s (λ _ _ _=>False) e s2):False:=z
def holds_by {l:OpenLaw}{q:A8}{loose:List Str}{d:DefRec}{N k n:Nat}{ds:List (Str×Stmt)}{xc:List Nat}{F:Fn}{x:Str} (said:l.wellSaid=true)
  (e:opening l.prog=plainProg l.prog.main.scope.names) (hN:Nat.ble 600 N=true) (f:∀ s,fenceModules? l.prog s=some s)
  (run:∀ (w:A7) (os:OsState),(Kd treeTable l.prog w (Ek w.params).objs.size ((Ek w.params).nsMap EA "__annotations__") N (bootS w.params os) (topStub l.prog)).map
   (λ s=>Sw l.prog q loose (λ s=>xlAt q [] s && recOk (RowW.records l.row.toRowW) s) (λ s=>KU ds xc (LS s.heap)) (Ek w.params) s.abs)=some (true,openGood q loose,Li ds))
  (hdef:defOf q l.row.name=some (d,[])) (hp:l.row.prog.theDef l.row.name=some (d.params,d.body,d.scope)) (hk:kwWritten? d.params.kwonlyargs d.params.kw_defaults=some []) (hwr:(!l.row.writes || l.row.records.isEmpty)=true)
  (ok:(chainsOk q && opensWell l.row.prog && (frees l.row.toRowW && l.row.within.isEmpty))=true) (hb:l.row.prog.bare) (hw:l.row.toRowW.promised)
  (hn:l.most=some n) (hn2:n<=Az) (hdf:d.params.defaults=[]) (hr:Room k IW)
  (law:∀ (K:Frag) (w:A7) (mg:Str->Option Ad) (fa:Addr),Given ds xc K mg->mg d.name=some (.ref fa)->∃ fd:CU,(∀ (s:Ai) (u:Ad),BindsTo s fd ⟨[u],[]⟩ [(x,u)]) /\
   ∀ base:Heap,FnOk l.prog w K mg base (AQ l.prog w K) k fa fd [x] (AZ K false 1 F))
  (yes:∀ (K:Frag) (H:Hp) (a:Addr) (ns:List Int),ns.length<=n->HN H->Bo K H a (ns.map V.int)->AZ K false 1 F [.ref a] H (λ v _=>v=.bl true) λ _ _ _=>False):l.Holds:=by
 refine holds_law said λ ws=>?_;refine holds_open (q:=q) (loose:=loose) (Xt:=λ s=>xlAt q [] s && recOk (RowW.records l.row.toRowW) s) (XP:=XL q []) (Yf:=λ s=>KU ds xc (LS s.heap)) (Ya:=λ _=>Li ds) (YP:=λ _ h=>∃ K:Frag,K.In h/\KU ds xc K=Li ds) (N:=N)
  (jU e hN f run) (λ _ s z=>⟨_,xi _,z⟩) (λ _ _ _ ⟨K,a,b⟩ kp=>⟨K,a.keeps kp,b⟩) (λ s e=>xl_of s (jp5.mp e).1) XL.keeps hdef hp hk (λ s e=>recFacts_of (jp5.mp e).2) hwr ws ok hb hw ?_
 refine Att.attach_call hn hdf λ w s₀ s₁ mg mb fa o pm cd doc a vs ns G Y ho hd hcd hmg hobj hints hlen hg=>?_;obtain ⟨K,KX,hf⟩:=Y;obtain ⟨fd,hbd,hF⟩:=law K w mg fa (wg KX G.T.g hf) hmg;exact vG KX G.T.g G.T.b G.T.builtins G.T.nolimit hg hobj hints (BZ hlen hn2) hr (λ base _ _=>hF base) hbd (λ H hO hS=>yes K H a ns hlen hO hS) λ H e s'=>je
section
variable {P:A8}{w:A7}{K:Frag}{mg:Str->Option Ad}{base:Heap}
def DL {us:List Ad} (h:us.length=1):∃ a,us=[a]:=jo6.mp h
theorem BS {us:List Ad} (h:us.length=2):∃ a b,us=[a,b]:=by
 cases us with
 | nil=>cases h
 | cons a r=>obtain ⟨b,rfl⟩:=DL (Nat.succ.inj h);exact ⟨a,b,rfl⟩
theorem CZ {us:List Ad} (h:us.length=3):∃ a b c,us=[a,b,c]:=by
 cases us with
 | nil=>cases h
 | cons a r=>obtain ⟨b,c,rfl⟩:=BS (Nat.succ.inj h);exact ⟨a,b,c,rfl⟩
theorem DK {us:List Ad} (h:us.length=4):∃ a b c d,us=[a,b,c,d]:=by
 cases us with
 | nil=>cases h
 | cons a r=>obtain ⟨b,c,d,rfl⟩:=CZ (Nat.succ.inj h);exact ⟨a,b,c,d,rfl⟩
theorem SW {us:List Ad} (h:us.length=5):∃ a b c d e,us=[a,b,c,d,e]:=by
 cases us with
 | nil=>cases h
 | cons a r=>obtain ⟨b,c,d,e,rfl⟩:=DK (Nat.succ.inj h);exact ⟨a,b,c,d,e,rfl⟩
def Bq {lvl:Nat} (hb:∀ x∈zkx,mg x=none):GS P w K mg base lvl []:=⟨hb,λ x io n F h=>by cases h⟩
def Ed {lvl:Nat}{x qual:Str}{st:Stmt}{fa:Addr}{fd:CU}{ps:List Str}{io:Bool}{n:Nat}{F:Fn}{Γ:List (Str×(Bool×Nat×Fn))} (g:GS P w K mg base lvl Γ) (hx:(x == ("__debug__" : Str))=false) (hF:∀ xs,xs.length≠n->F xs=.no)
  (hm:mg x=some (.ref fa)) (Fu:Fun K x qual st fa fd) (hbd:qa1 K fd ps []) (hn:ps.length=n) (ok:FnOk P w K mg base (AQ P w K) lvl fa fd ps (AZ K io n F)):GS P w K mg base lvl ((x,(io,n,F))::Γ):=by
 refine ⟨g.1,λ y io' n' F' h=>?_⟩;rw [EX] at h;split at h
 ·rename_i e;cases h
  have:y=x:=eq_of_beq e
  subst this;exact ⟨hx,hF,fa,fd,ps,hm,Fu.kp,hbd,hn,ok⟩
 ·exact g.2 y io' n' F' h
def jN {lvl:Nat}:HW P w K mg base lvl []:=λ x F h=>by cases h
def Bf {lvl j:Nat}{x qual:Str}{st:Stmt}{fa:Addr}{fd:CU}{ps:List Str}{io:Bool}{n:Nat}{F:Fn}{Γ:List (Str×(Bool×Nat×Fn))} (g:GS P w K mg base lvl Γ) (hm:mg x=some (.ref fa)) (Fu:Fun K x qual st fa fd) (hbd:qa1 K fd ps []) (ok:FnOk P w K mg base (AQ P w K) j fa fd ps (AZ K io n F)) (hl:j<=lvl:=by decide) (hx:(x == ("__debug__" : Str))=false:=by decide +kernel) (hF:∀ xs,xs.length≠n->F xs=.no:=by exact E5) (hn:ps.length=n:=by rfl):GS P w K mg base lvl ((x,(io,n,F))::Γ):=Ed g hx hF hm Fu hbd hn (ok.mono hl)
def Br (S:Sx) {lvl:Nat}{x qual:Str}{st:Stmt}{fa:Addr}{fd:CU}{ps:List Str}{np k:Nat}{io:Bool}{b:Fs} (Fu:Fun K x qual st fa fd) (FS:FnScope S.N ps (Aw st)) (gX:GX K mg S.xc) (G:GS P w K mg base lvl S.Γ) (hb:AX (Av 60 S) (AY st)=some b) (hsc:S.sc=Aw st:=by rfl) (hal:S.al=[]:=by rfl) (hnp:ps.length=np:=by rfl) (hk:S.N.length=np + k:=by rfl) (hms:∀ i∈S.ms,i < np->i=0/\io=true:=by decide) (hio:io=true->S.msF 0=true/\0 < np:=by first | exact λ h=>Bool.noConfusion h | exact λ _=>⟨rfl,by decide⟩) (Gm:HW P w K mg base lvl S.Γm:=by exact jN):FnOk P w K mg base (AQ P w K) (lvl + 1) fa fd ps (AZ K io np (Ap io np k b)):=qp (S:=S) Fu FS hsc hal hnp hk hms hio gX G Gm hb
end
def sp_yes {K:Frag}{H:Hp}{a:Addr}{ns:List Int}{F:Fn} (hO:HN H) (hS:Bo K H a (ns.map V.int)) (h:∃ d z,F [.scr ns]=.ok (.bl true,d,z)):AZ K false 1 F [.ref a] H (λ v _=>v=.bl true) λ _ _ _=>False:=by
 refine ⟨rfl,[.scr ns],λ _=>False,λ _ z=>z.elim,?_,?_⟩
 ·rw [OwnL];refine ⟨.ref a,[],[],[],rfl,rfl,λ _ z=>(nomatch z),?_,by rw [OwnL];exact ⟨rfl,rfl⟩⟩;rw [Own];refine ⟨rfl,a,rfl,?_⟩;rcases hS with (h | h) | h
  ·rcases hO a with z | ⟨ob,xs,z⟩
   ·rw [h] at z;cases z
   ·rw [h] at z;cases z
  ·exact .inl h
  ·exact .inr h
 ·obtain ⟨d,z,e⟩:=h;rw [e];intro v H' fp _ _ o _;rw [Own] at o;exact o.1
end QQ
namespace QV
open PySem PySem.Spec PyProof.Rows L2 QQ
def Cy {op:PV->Nat->PV->Nat->Option (PV×Nat)}{f g:Fx}{ρ ρ1 ρ2:Af}{x y z:PV}{d e c:Nat} (h1:f ρ=.ok (x,d,ρ1)) (h2:g ρ1=.ok (y,e,ρ2)) (h3:op x d y e=some (z,c)):Ab op f g ρ=.ok (z,c,ρ2):=by
 unfold Ab;rw [h1];dsimp only [Rz.bind];rw [h2];dsimp only;rw [h3]
def VM {op:PV->Nat->Option (PV×Nat)}{f:Fx}{ρ ρ1:Af}{x z:PV}{d c:Nat} (h1:f ρ=.ok (x,d,ρ1)) (h3:op x d=some (z,c)):AJ op f ρ=.ok (z,c,ρ1):=by
 unfold AJ;rw [h1];dsimp only [Rz.bind];rw [h3]
def A2 {f:Fx}{fa:Fa}{ρ ρ1 ρ2:Af}{x:PV}{d:Nat}{xs:List (PV×Nat)} (h1:f ρ=.ok (x,d,ρ1)) (h2:fa ρ1=.ok (xs,ρ2)):Ae f fa ρ=.ok ((x,d)::xs,ρ2):=by
 unfold Ae;rw [h1];dsimp only [Rz.bind];rw [h2]
def A9 {f:Fx}{ρ ρ1:Af}{x:PV}{d:Nat} (h1:f ρ=.ok (x,d,ρ1)):Ae f Ac ρ=.ok ([(x,d)],ρ1):=A2 h1 rfl
def Ck {op:List (PV×Nat)->Option (PV×Nat)}{fa:Fa}{ρ ρ1:Af}{xs:List (PV×Nat)}{z:PV}{c:Nat} (h1:fa ρ=.ok (xs,ρ1)) (h2:op xs=some (z,c)):Am op fa ρ=.ok (z,c,ρ1):=by
 unfold Am;rw [h1];dsimp only [Rz.bind];rw [h2]
def AF {F:Fn}{fa:Fa}{ρ ρ1:Af}{xs:List (PV×Nat)}{y z:PV}{d:Nat} (h1:fa ρ=.ok (xs,ρ1)) (h2:F (xs.map (·.1))=.ok (y,d,z)):A3 F fa ρ=.ok (y,d,ρ1):=by
 unfold A3;rw [h1];dsimp only [Rz.bind];rw [h2]
def Cv {f:Fx}{ρ ρ1:Af}{x:PV}{d:Nat} (h:f ρ=.ok (x,d,ρ1)):Au f ρ=.rt x d ρ1:=by
 unfold Au;rw [h]
def Ic {f:Fx}{ρ ρ1:Af}{x:PV}{d:Nat} (h:f ρ=.ok (x,d,ρ1)):D5 f ρ=.nx ρ1:=by
 unfold D5;rw [h]
def Bm {i:Nat}{f:Fx}{vs:List Nat}{ρ ρ1 ρ2:Af}{x:PV}{d:Nat} (h:f ρ=.ok (x,d,ρ1)) (hc:i < ρ1.length) (e:(Bh d vs ρ1).set i (some (x,d))=ρ2):Aj false i f vs ρ=.nx ρ2:=by
 unfold Aj;rw [h];dsimp only;rw [if_pos ⟨hc,λ h=>nomatch h⟩,e]
def Wn {asg:PV->Af->Option Af}{f:Fx}{vs:List Nat}{ρ ρ1 ρ2:Af}{x:PV}{d:Nat} (h:f ρ=.ok (x,d,ρ1)) (e:asg x (Bh d vs ρ1)=some ρ2):Cb asg f vs ρ=.nx ρ2:=by
 unfold Cb;rw [h];dsimp only;rw [e]
def LK {i:Nat}{f:Fx}{vs:List Nat}{ρ ρ1 ρ2:Af}{y:PV}{e:Nat}{xs:List PV}{d0 d:Nat}{xs0:List PV} (h0:ρ[i]?=some (some (.lst xs0,d0 + 1))) (h:f ρ=.ok (y,e,ρ1)) (h1:(Bh e vs ρ1)[i]?=some (some (.lst xs,d))) (hd:d≠0) (hl:xs.length < Az)
  (e2:(Bh e vs ρ1).set i (some (.lst (xs++[y]),if d=om/\e=om then om else 1))=ρ2):Co i f vs ρ=.nx ρ2:=by
 unfold Co;rw [h0];dsimp only;rw [h];dsimp only;rw [h1];dsimp only;rw [if_pos ⟨hd,hl⟩,e2]
def AV {f g:Fs}{ρ ρ1:Af} (h:f ρ=.nx ρ1):Ag f g ρ=g ρ1:=by
 unfold Ag;rw [h]
def V7 {c:Fb}{f g:Fs}{ρ ρ1:Af}{b:Bool} (hc:c ρ=.ok (b,ρ1)):Bi c f g ρ=if b=true then f ρ1 else g ρ1:=by
 unfold Bi;rw [hc]
def C7 {c:Fb}{f g:Fs}{ρ ρ1:Af} (hc:c ρ=.ok (true,ρ1)):Bi c f g ρ=f ρ1:=by rw [V7 hc];rfl
def Cw {c:Fb}{f g:Fs}{ρ ρ1:Af} (hc:c ρ=.ok (false,ρ1)):Bi c f g ρ=g ρ1:=by rw [V7 hc];rfl
def Eg {c:Fb}{f g:Fs}{ρ ρ1:Af} (hc:c ρ=.ok (false,ρ1)):Ag (Bi c f A1) g ρ=g ρ1:=AV (by rw [Cw hc];rfl)
def JP {f g:Fs}{ρ ρ1:Af}{x:PV}{d:Nat} (h:f ρ=.rt x d ρ1):Ag f g ρ=.rt x d ρ1:=by
 unfold Ag;rw [h]
def AN {f:Fx}{ρ ρ1:Af}{b:Bool}{d:Nat} (h:f ρ=.ok (.bl b,d,ρ1)):bT f ρ=.ok (b,ρ1):=by
 unfold bT;rw [h];rfl
def Ez {f:Fx}{ρ ρ1:Af}{b:Bool}{d:Nat} (h:f ρ=.ok (.bl b,d,ρ1)):AJ BV f ρ=.ok (.bl (!b),om,ρ1):=VM h rfl
theorem Ii {f g:Fx}{ρ ρ1:Af}{a b:Bool}{d:Nat} (h:f ρ=.ok (.bl a,d,ρ1)) (h2:a=true->g ρ1=.ok (.bl b,om,ρ1)) (hd:d=om):Dh f g ρ=.ok (.bl (a && b),om,ρ1):=by
 subst hd;unfold Dh;rw [h];cases a with
 | false=>rfl
 | true=>exact h2 rfl
theorem Ox {f g:Fx}{ρ ρ1:Af}{a b:Bool}{d:Nat} (h:f ρ=.ok (.bl a,d,ρ1)) (h2:a=false->g ρ1=.ok (.bl b,om,ρ1)) (hd:d=om):BN f g ρ=.ok (.bl (a || b),om,ρ1):=by
 subst hd;unfold BN;rw [h];cases a with
 | true=>rfl
 | false=>exact h2 rfl
def DS {f g:Fx}{ρ ρ1 ρ2:Af}{i j:Int}{d e:Nat} (h1:f ρ=.ok (.int i,d,ρ1)) (h2:g ρ1=.ok (.int j,e,ρ2)) (h:(-(2 ^ 64) < i/\i < 2 ^ 64)\/(-(2 ^ 64) < j/\j < 2 ^ 64)):Ab BD f g ρ=.ok (.int (i * j),om,ρ2):=by
 refine Cy h1 h2 ?_;show (if FY i j=true then _ else _)=_;rw [if_pos];unfold FY;rcases h with h | h
 ·rw [decide_eq_true h.1,decide_eq_true h.2];rfl
 ·rw [decide_eq_true h.1,decide_eq_true h.2];simp
def DB {f g:Fx}{ρ ρ1 ρ2:Af}{i j:Int}{d e:Nat} (h1:f ρ=.ok (.int i,d,ρ1)) (h2:g ρ1=.ok (.int j,e,ρ2)) (h:0 < j):Ab CC f g ρ=.ok (.int (i % j),om,ρ2):=by
 refine Cy h1 h2 ?_;show (if Hz i j=true then _ else _)=_;rw [if_pos];exact decide_eq_true h
def Ij {f g:Fx}{ρ ρ1 ρ2:Af}{i j:Int}{d e:Nat} (h1:f ρ=.ok (.int i,d,ρ1)) (h2:g ρ1=.ok (.int j,e,ρ2)) (h:0 < j) (h':j < 2 ^ 128):Ab GW f g ρ=.ok (.int (i / j),om,ρ2):=by
 refine Cy h1 h2 ?_;show (if FZ i j=true then _ else _)=_;rw [if_pos];have h3:j.natAbs < 2 ^ 128:=by omega
 have h4:j.natAbs≠0:=by omega
 have h5:j.natAbs.log2 < 9000:=by have:=(Nat.log2_lt h4).mpr h3;omega
 unfold FZ;rw [decide_eq_true h,decide_eq_true h5];rfl
def DQ {f g:Fx}{ρ ρ1 ρ2:Af}{i j:Int}{d e:Nat} (h1:f ρ=.ok (.int i,d,ρ1)) (h2:g ρ1=.ok (.int j,e,ρ2)):Ab Bs f g ρ=.ok (.int (i + j),om,ρ2):=Cy h1 h2 rfl
def JQ {f g:Fx}{ρ ρ1 ρ2:Af}{i j:Int}{d e:Nat} (h1:f ρ=.ok (.int i,d,ρ1)) (h2:g ρ1=.ok (.int j,e,ρ2)):Ab FG f g ρ=.ok (.int (i - j),om,ρ2):=Cy h1 h2 rfl
def Ey {p:Int->Int->Bool}{f g:Fx}{ρ ρ1 ρ2:Af}{i j:Int}{d e:Nat} (h1:f ρ=.ok (.int i,d,ρ1)) (h2:g ρ1=.ok (.int j,e,ρ2)):Ab (C1 p) f g ρ=.ok (.bl (p i j),om,ρ2):=Cy h1 h2 rfl
def Lf {p q:Int->Int->Bool}{f g h:Fx}{ρ:Af}{i j k:Int}{d e c:Nat} (h1:f ρ=.ok (.int i,d,ρ)) (h2:g ρ=.ok (.int j,e,ρ)) (h3:h ρ=.ok (.int k,c,ρ)):EJ p q f g h ρ=.ok (.bl (p i j && q j k),om,ρ):=by
 unfold EJ;rw [h1];dsimp only [Rz.bind];rw [h2];dsimp only;by_cases hp:p i j=true
 ·rw [if_pos hp,h3,hp];rfl
 ·rw [if_neg hp]
  have:p i j=false:=by simpa using hp
  rw [this];rfl
def uW {neg:Bool}{i j:Int}{d e:Nat}:AD neg (.int i) d (.int j) e=some (.bl (neg^^decide (i=j)),om):=by
 show some (PV.bl (neg^^Ip (.int i) (.int j)),om)=_
 have:Ip (.int i) (.int j)=decide (i=j):=by
  show (i == j)=_;rfl
 rw [this]
def Iv {neg:Bool}{f g:Fx}{ρ ρ1 ρ2:Af}{i j:Int}{d e:Nat} (h1:f ρ=.ok (.int i,d,ρ1)) (h2:g ρ1=.ok (.int j,e,ρ2)):Ab (AD neg) f g ρ=.ok (.bl (neg^^decide (i=j)),om,ρ2):=Cy h1 h2 uW
def il (xs:List Int):PV:=.lst (xs.map .int)
def tb (t:List (List Int)):PV:=.lst (t.map il)
abbrev bx (a b c:Int):PV:=.tup [.int a,.int b,.int c]
def Dg {α:Type}{xs:List α}{k:Int}{x:α} (h0:0<=k) (h:xs[k.toNat]?=some x):BO xs k=some x:=by
 have hl:=(jb0.mp h).1;unfold BO DO;rw [if_pos h0,if_pos (by omega)];exact h
def FN {f g:Fx}{ρ ρ1 ρ2:Af}{xs:List Int}{k x:Int}{d e:Nat} (h1:f ρ=.ok (il xs,d,ρ1)) (h2:g ρ1=.ok (.int k,e,ρ2)) (h:BO xs k=some x):Ab A5 f g ρ=.ok (.int x,om,ρ2):=by
 refine Cy h1 h2 ?_;show (BO (xs.map PV.int) k).map _=_
 have:BO (xs.map PV.int) k=some (.int x):=by
  unfold BO at h ⊢;rw [AG];cases e:DO xs.length k with
  | none=>rw [e] at h;cases h
  | some j=>
   rw [e] at h;have h':xs[j]?=some x:=h;show (xs.map PV.int)[j]?=_;rw [CI,h'];rfl
 rw [this];rfl
def OA {f g:Fx}{ρ ρ1 ρ2:Af}{t:List (List Int)}{k:Int}{r:List Int}{d e:Nat} (h1:f ρ=.ok (tb t,d,ρ1)) (h2:g ρ1=.ok (.int k,e,ρ2)) (h:BO t k=some r):Ab A5 f g ρ=.ok (il r,0,ρ2):=by
 refine Cy h1 h2 ?_;show (BO (t.map il) k).map _=_
 have:BO (t.map il) k=some (il r):=by
  unfold BO at h ⊢;rw [AG];cases e:DO t.length k with
  | none=>rw [e] at h;cases h
  | some j=>
   rw [e] at h;have h':t[j]?=some r:=h;show (t.map il)[j]?=_;rw [CI,h'];rfl
 rw [this];rfl
def OE {fa:Fa}{ρ ρ1:Af}{xs:List Int}{d:Nat} (h:fa ρ=.ok ([(il xs,d)],ρ1)):Am GY fa ρ=.ok (.int xs.length,om,ρ1):=by
 refine Ck h ?_;show some (PV.int ((xs.map PV.int).length:Nat),om)=_;rw [AG]
def xk {fa:Fa}{ρ ρ1:Af}{t:List (List Int)}{d:Nat} (h:fa ρ=.ok ([(tb t,d)],ρ1)):Am GY fa ρ=.ok (.int t.length,om,ρ1):=by
 refine Ck h ?_;show some (PV.int ((t.map il).length:Nat),om)=_;rw [AG]
theorem JF {α:Type}{n:Nat}{test:Fb}{elt:Fx}{enc q:α->PV}{e:α->Nat}{p:α->Bool}:∀ (xs:List α) (ρ:Af) (acc:List (PV×Nat)),ρ.length=n->(∀ x∈xs,test (ρ++[some (enc x,dv (enc x))])=.ok (p x,ρ++[some (enc x,dv (enc x))])) ->
  (∀ x∈xs,p x=true->elt (ρ++[some (enc x,dv (enc x))])=.ok (q x,e x,ρ++[some (enc x,dv (enc x))]))->acc.length + xs.length<=Az->Cj 1 (asgN n) test elt (xs.map enc) ρ acc=.ok (acc++(xs.filter p).map (λ x=>(q x,e x)),ρ)
 | [],ρ,acc,_,_,_,_=>by simp [Cj]
 | x::xs,ρ,acc,hn,ht,he,hl=>by
  have ea:asgN n (enc x) (ρ++AK 1 none)=some (ρ++[some (enc x,dv (enc x))]):=by
   unfold asgN;rw [if_pos (by rw [BM,hn];simp),List.set_append_right _ _ (by omega),hn];simp
  have ih:=λ acc h=>JF (n:=n) (test:=test) (elt:=elt) (p:=p) (q:=q) (e:=e) (enc:=enc) xs ρ acc hn (λ y hy=>ht y (AM _ hy)) (λ y hy=>he y (AM _ hy)) h;have tk:(ρ++[some (enc x,dv (enc x))]).take ρ.length=ρ:=by simp
  rw [Bw] at hl;rw [Be];unfold Cj;rw [ea];dsimp only;rw [ht x AL];dsimp only [Rz.bindN];cases hp:p x with
  | false=>
   rw [if_neg Cs,tk,ih acc (by omega),ZA (by simp [hp])]
  | true=>
   rw [if_pos rfl,he x AL hp];dsimp only;rw [if_pos (by omega),tk,ih _ (by rw [BM,EF];omega),Z9 hp];simp
theorem JE {α:Type} (q:α->PV):∀ xs:List α,Dk (xs.map λ x=>(q x,om))=true
 | []=>rfl
 | x::xs=>by rw [Be];unfold Dk;rw [JE q xs];rfl
def IP {α:Type}{n:Nat}{f elt:Fx}{enc q:α->PV}{ρ ρ1:Af}{d:Nat} (xs:List α) (hf:f ρ=.ok (.lst (xs.map enc),d,ρ1)) (hn:ρ1.length=n) (he:∀ x∈xs,elt (ρ1++[some (enc x,dv (enc x))])=.ok (q x,om,ρ1++[some (enc x,dv (enc x))])) (hl:xs.length<=Az):
  Cz f 1 (asgN n) Bp elt ρ=.ok (.lst (xs.map q),om,ρ1):=by
 unfold Cz;rw [hf];dsimp only;rw [JF (p:=λ _=>true) (q:=q) (e:=λ _=>om) xs ρ1 [] hn (λ _ _=>rfl) (λ x hx _=>he x hx) (by simpa using hl),jf7.mpr (λ _ _=>rfl)];show Dm (xs.map λ x=>(q x,om)) ρ1=_;unfold Dm;rw [JE,CH];rfl
def vq {α:Type}{n:Nat}{f elt:Fx}{enc q:α->PV}{ρ ρ1:Af}{d:Nat} (xs:List α) (hf:f ρ=.ok (.tup (xs.map enc),d,ρ1)) (hn:ρ1.length=n) (he:∀ x∈xs,elt (ρ1++[some (enc x,dv (enc x))])=.ok (q x,om,ρ1++[some (enc x,dv (enc x))])) (hl:xs.length<=Az):
  Cz f 1 (asgN n) Bp elt ρ=.ok (.lst (xs.map q),om,ρ1):=by
 unfold Cz;rw [hf];dsimp only;rw [JF (p:=λ _=>true) (q:=q) (e:=λ _=>om) xs ρ1 [] hn (λ _ _=>rfl) (λ x hx _=>he x hx) (by simpa using hl),jf7.mpr (λ _ _=>rfl)];show Dm (xs.map λ x=>(q x,om)) ρ1=_;unfold Dm;rw [JE,CH];rfl
def vp {α:Type}{n:Nat}{f elt:Fx}{test:Fb}{enc q:α->PV}{p:α->Bool}{ρ ρ1:Af}{d:Nat} (xs:List α) (hf:f ρ=.ok (.lst (xs.map enc),d,ρ1)) (hn:ρ1.length=n) (ht:∀ x∈xs,test (ρ1++[some (enc x,dv (enc x))])=.ok (p x,ρ1++[some (enc x,dv (enc x))])) (he:∀ x∈xs,p x=true->elt (ρ1++[some (enc x,dv (enc x))])=.ok (q x,om,ρ1++[some (enc x,dv (enc x))])) (hl:xs.length<=Az):
  Cz f 1 (asgN n) test elt ρ=.ok (.lst ((xs.filter p).map q),om,ρ1):=by
 unfold Cz;rw [hf];dsimp only;rw [JF (p:=p) (q:=q) (e:=λ _=>om) xs ρ1 [] hn ht he (by simpa using hl)];show Dm ((xs.filter p).map λ x=>(q x,om)) ρ1=_;unfold Dm;rw [JE,CH];rfl
def Mz (lo:Int) (n:Nat):FJ lo n=(A6 n).map λ (k:Nat)=>PV.int (lo + (k:Int)):=rfl
def MR {n:Nat}{en:List (PV×Nat)->Option (Int×Int)}{fa:Fa}{elt:Fx}{q:Nat->PV}{ρ ρ1:Af}{as:List (PV×Nat)}{lo hi:Int} (hf:fa ρ=.ok (as,ρ1)) (hen:en as=some (lo,hi)) (hn:ρ1.length=n) (he:∀ k,k < (hi - lo).toNat->elt (ρ1++[some (.int (lo + (k:Int)),om)])=.ok (q k,om,ρ1++[some (.int (lo + (k:Int)),om)])) (hl:(hi - lo).toNat<=Az):
  DC en fa 1 (asgN n) Bp elt ρ=.ok (.lst ((A6 (hi - lo).toNat).map q),om,ρ1):=by
 unfold DC;rw [hf];dsimp only;rw [hen];dsimp only;rw [Mz,JF (enc:=λ (k:Nat)=>PV.int (lo + (k:Int))) (p:=λ _=>true) (q:=q) (e:=λ _=>om) (A6 (hi - lo).toNat) ρ1 [] hn (λ _ _=>rfl) (λ x hx _=>he x (jc4.mp hx)) (by simpa using hl),jf7.mpr (λ _ _=>rfl)];show Dm ((A6 (hi - lo).toNat).map λ x=>(q x,om)) ρ1=_;unfold Dm;rw [JE,CH];rfl
theorem vf {α:Type} (g:α->Bool) (xs:List α):QQ.allB (xs.map λ x=>.bl (g x))=some (xs.map g):=by
 induction xs with
 | nil=>rfl
 | cons x r ih=>rw [Be,Be,QQ.allB,ih];rfl
def all_ok {α:Type}{f:Fx}{ρ ρ1:Af}{d:Nat}{g:α->Bool}{xs:List α} (h:f ρ=.ok (.lst (xs.map λ x=>.bl (g x)),d,ρ1)):Am EL (Ae f Ac) ρ=.ok (.bl (xs.all g),om,ρ1):=by
 refine Ck (A9 h) ?_;show (QQ.allB _).map _=_;rw [vf];simp
theorem Yo {i:Nat}{body:Fs}{lo:Int} (I:Nat->Af->Prop):∀ (m k:Nat) (ρ:Af),I k ρ->(∀ j ρ,k<=j->j < k + m->I j ρ->i < ρ.length/\∃ ρ2,body (ρ.set i (some (.int (lo + (j:Int)),om)))=.nx ρ2/\I (j + 1) ρ2) ->
  ∃ ρ',BQ (asgN i) body ((K0 k m).map λ (k:Nat)=>PV.int (lo + (k:Int))) ρ=.nx ρ'/\I (k + m) ρ'
 | 0,k,ρ,hi,_=>⟨ρ,rfl,hi⟩
 | m + 1,k,ρ,hi,hb=>by
  obtain ⟨h1,ρ2,e2,h2⟩:=hb k ρ (AA _) (by omega) hi;obtain ⟨ρ',e',h'⟩:=Yo (i:=i) (body:=body) (lo:=lo) I m (k + 1) ρ2 h2 λ j ρ a b=>hb j ρ (by omega) (by omega);refine ⟨ρ',?_,by rw [show k + (m + 1)=k + 1 + m by omega];exact h'⟩;rw [Zd,Be];unfold BQ
  have:asgN i (PV.int (lo + (k:Int))) ρ=some (ρ.set i (some (.int (lo + (k:Int)),om))):=by
   unfold asgN;rw [if_pos h1];rfl
  rw [this];dsimp only;rw [e2];exact e'
def JT {i:Nat}{body:Fs}{en:List (PV×Nat)->Option (Int×Int)}{fa:Fa}{ρ ρ1:Af}{as:List (PV×Nat)}{lo hi:Int} (I:Nat->Af->Prop) (hf:fa ρ=.ok (as,ρ1)) (hen:en as=some (lo,hi)) (h0:I 0 ρ1)
  (hb:∀ j ρ,j < (hi - lo).toNat->I j ρ->i < ρ.length/\∃ ρ2,body (ρ.set i (some (.int (lo + (j:Int)),om)))=.nx ρ2/\I (j + 1) ρ2):∃ ρ',CP en fa (asgN i) body ρ=.nx ρ'/\I (hi - lo).toNat ρ':=by
 obtain ⟨ρ',e,h⟩:=Yo (i:=i) (body:=body) (lo:=lo) I (hi - lo).toNat 0 ρ1 h0 λ j ρ _ h hi=>hb j ρ (by omega) hi;refine ⟨ρ',?_,by rw [HB] at h;exact h⟩;unfold CP;rw [hf];dsimp only;rw [hen];dsimp only;rw [Mz,List.range_eq_range'];exact e
def FI {j:Int}{d:Nat} (h1:-(2 ^ 62)<=j) (h2:j < 2 ^ 62):BI [(.int j,d)]=some (0,j):=by
 show (if -(2 ^ 62)<=j/\j < 2 ^ 62 then some ((0:Int),j) else none)=_;rw [if_pos ⟨h1,h2⟩]
def vA {i j:Int}{d e:Nat} (h1:-(2 ^ 62)<=i) (h2:i < 2 ^ 62) (h3:-(2 ^ 62)<=j) (h4:j < 2 ^ 62):FL [(.int i,d),(.int j,e)]=some (i,j):=by
 show (if -(2 ^ 62)<=i/\i < 2 ^ 62/\-(2 ^ 62)<=j/\j < 2 ^ 62 then some (i,j) else none)=_;rw [if_pos ⟨h1,h2,h3,h4⟩]
def BU {np k:Nat}{b:Fs}{xs:List PV}{ρ':Af}{y:PV}{d:Nat} (hl:xs.length=np) (h:b (xs.map (λ x=>some (x,dv x))++AK k none)=.rt y d ρ'):Ap false np k b xs=.ok (y,d,.non):=by
 unfold Ap;rw [if_pos ⟨hl,rfl⟩,h]
def Oz {np k:Nat}{b:Fs}{xs:List PV}{ρ':Af} (hl:xs.length=np) (h:b (xs.map (λ x=>some (x,dv x))++AK k none)=.nx ρ'):Ap false np k b xs=.ok (.non,om,.non):=by
 unfold Ap;rw [if_pos ⟨hl,rfl⟩,h]
def Xf_is_whole_number:Fs:=(Au (Dh (AJ (CT "int") (Aa 0)) (AJ BV (AJ (CT "bool") (Aa 0)))))
def f_is_whole_number:Fn:=Ap false 1 0 Xf_is_whole_number
abbrev _root_.pb0:=Am GY (Ae (Aa 0) (Ac))
abbrev _root_.pd0:=A3 f_is_whole_number (Ae (Aa 1) (Ac))
abbrev _root_.pg0:=Ab (C1 λ i j=>decide (j<=i)) (Aa 1) (bC (.int 1))
def Xf_is_box:Fs:=(Ag (Bi (bT (BN (AJ BV (AJ (CT "tuple") (Aa 0))) (Ab (AD true) pb0 (bC (.int 3))))) (Au (bC (.bl false))) A1)
 (Au (Am EL (Ae (Cz (Aa 0) 1 (asgN 1) Bp (Dh pd0 pg0)) (Ac)))))
def f_is_box:Fn:=Ap false 1 0 Xf_is_box
def Xf_must_be_box:Fs:=(Bi (bT (AJ BV (A3 f_is_box (Ae (Aa 0) (Ac))))) FX A1)
def f_must_be_box:Fn:=Ap false 1 0 Xf_must_be_box
abbrev _root_.pc8:=Dh (A3 f_is_whole_number (Ae (Aa 3) (Ac))) (EJ (λ i j=>decide (i<=j)) (λ i j=>decide (i<=j)) (bC (.int 0)) (Aa 3) (Aa 2))
def Xf_is_row_of_heights:Fs:=(Ag (Bi (bT (BN (AJ BV (AJ (CT "list") (Aa 0))) (Ab (AD true) pb0 (Aa 1)))) (Au (bC (.bl false))) A1)
 (Au (Am EL (Ae (Cz (Aa 0) 1 (asgN 3) Bp pc8) (Ac)))))
def f_is_row_of_heights:Fn:=Ap false 3 0 Xf_is_row_of_heights
abbrev _root_.pd4:=Ab (C1 λ i j=>decide (i<=j)) (Ab A5 (Aa 0) (Aa 1)) (Ab A5 (Aa 0) (Ab FG (Aa 1) (bC (.int 1))))
def Xf_never_rises:Fs:=(Au (Am EL (Ae (DC FL (Ae (bC (.int 1)) (Ae pb0 (Ac))) 1 (asgN 1) Bp pd4) (Ac))))
def f_never_rises:Fn:=Ap false 1 0 Xf_never_rises
def Xf_column_of:Fs:=(Au (Cz (Aa 0) 1 (asgN 2) Bp (Ab A5 (Aa 2) (Aa 1))))
def f_column_of:Fn:=Ap false 2 0 Xf_column_of
abbrev _root_.pb6:=Am GY (Ae (Aa 1) (Ac))
abbrev _root_.pb8:=Ae (Aa 3) (Ae (Aa 4) (Ac))
abbrev _root_.pf0:=A3 f_never_rises (Ae (A3 f_column_of (Ae (Aa 1) (Ae (Aa 5) (Ac)))) (Ac))
abbrev _root_.pg9:=A3 f_never_rises (Ae (Aa 5) (Ac))
abbrev _root_.pg8:=A3 f_must_be_box (Ae (Aa 0) (Ac))
def Xf_is_pile:Fs:=(Ag (D5 pg8)
 (Ag (Cb (asgT [2,3,4]) (Aa 0) [0])
 (Ag (Bi (bT (BN (AJ BV (AJ (CT "list") (Aa 1))) (Ab (AD true) pb6 (Aa 2)))) (Au (bC (.bl false))) A1)
 (Ag (Bi (bT (AJ BV (Am EL (Ae (Cz (Aa 1) 1 (asgN 5) Bp (A3 f_is_row_of_heights (Ae (Aa 5) pb8))) (Ac))))) (Au (bC (.bl false))) A1)
 (Ag (Bi (bT (AJ BV (Am EL (Ae (Cz (Aa 1) 1 (asgN 5) Bp pg9) (Ac))))) (Au (bC (.bl false))) A1)
 (Au (Am EL (Ae (DC BI (Ae (Aa 3) (Ac)) 1 (asgN 5) Bp pf0) (Ac)))))))))
def f_is_pile:Fn:=Ap false 2 3 Xf_is_pile
abbrev _root_.pe0:=Ae (Aa 0) (Ae (Aa 1) (Ac))
def Xf_must_be_pile:Fs:=(Bi (bT (AJ BV (A3 f_is_pile pe0))) FX A1)
def f_must_be_pile:Fn:=Ap false 2 0 Xf_must_be_pile
def Xb_cell_at:Fs:=(Ag (Bi (bT (Ab (C1 λ i j=>decide (i < j)) (Aa 1) pb0)) (Au (Ab A5 (Aa 0) (Aa 1))) A1)
 (Au (bC (.int 0))))
def b_cell_at:Fn:=Ap false 2 0 Xb_cell_at
def Xb_stir:Fs:=(Ag (Aj false 2 (Ab CC (Ab BD (Ab Bs (Ab Bs (Ab CC (Aa 0) (bC (.int 2147483629))) (Ab BD (bC (.int 9973)) (Aa 1))) (bC (.int 5))) (bC (.int 48271))) (bC (.int 2147483647))) [0,1])
 (Ag (Aj false 2 (Ab CC (Ab BD (Aa 2) (Aa 2)) (bC (.int 2147483587))) [2,2])
 (Au (Ab GW (Ab CC (Ab BD (Ab Bs (Aa 2) (Ab BD (bC (.int 7919)) (Aa 1))) (bC (.int 16807))) (bC (.int 2147483563))) (bC (.int 8))))))
def b_stir:Fn:=Ap false 2 1 Xb_stir
abbrev _root_.pc4:=Ab (C1 λ i j=>decide (j<=i)) (Aa 0) (Ab Xn (bC (.int 10)) (bC (.int 18)))
abbrev _root_.pg1:=Aj false 5 (Ab CC (Aa 3) (bC (.int 720720))) [3]
abbrev _root_.pg4:=A3 b_stir (Ae (Aa 0) (Ae (Aa 4) (Ac)))
abbrev _root_.pa9:=Ag (Aj false 5 pg4 [0,4]) (Ag (Bi (bT pc4) pg1 A1) (Ag (Aj false 3 (Ab GW (Aa 3) (bC (.int 720720))) [3]) (Co 2 (Aa 5) [5])))
def Xb_numbers:Fs:=(Ag (Aj false 2 (Am BB (Ac)) [])
 (Ag (Aj false 3 (Aa 0) [0])
 (Ag (CP BI (Ae (Aa 1) (Ac)) (asgN 4) pa9)
 (DV 2))))
def b_numbers:Fn:=Ap false 2 4 Xb_numbers
abbrev _root_.pa4:=Ab A5 (Aa 0) (bC (.int 1))
abbrev _root_.pc6:=Ab A5 (Aa 5) (AJ IM (bC (.int 1)))
abbrev _root_.pe9:=Ae (Ab A5 (Aa 0) (bC (.int 2))) (Ac)
abbrev _root_.pf2:=some (AJ IM (bC (.int 1)))
abbrev _root_.pb4:=Ab A5 (Ab Bs (Am BB pe9) (Cz (D0 (Aa 5) pf2 none) 1 (asgN 11) Bp (Ab A5 pc6 (Aa 8)))) (AJ IM (bC (.int 1)))
abbrev _root_.pc0:=Ae (bC (.int 0)) (Ae (bC (.int 0)) (Ae (Am GA (Ae (bC (.int 1)) (Ae (Aa 10) (Ac)))) (Ae (Ab CC (Ab GW (Aa 9) (bC (.int 4))) (Ab Bs (Aa 10) (bC (.int 1)))) (Ac))))
abbrev _root_.pd5:=Am GA (Ae (Ab Bs (Am BB (Ae (Aa 10) (Ac))) (D0 (Aa 7) pf2 none)) (Ac))
abbrev _root_.pa0:=Ag (Aj false 9 (Ab A5 (Aa 4) (Ab Bs (Ab BD (Aa 6) pa4) (Aa 8))) [4,6,0,8]) (Ag (Bi (bT (Ab (C1 λ i j=>decide (i < j)) (Ab Bs (Ab Bs (Aa 2) (Ab BD (Aa 6) pa4)) (Aa 8)) pb6)) (Aj false 9 (Ab A5 (Aa 1) (Ab Bs (Ab Bs (Aa 2) (Ab BD (Aa 6) pa4)) (Aa 8))) [1,2,6,0,8]) A1) (Ag (Aj false 10 pb4 [0,5,5,8]) (Ag (Aj false 10 pd5 [10,7]) (Co 7 (Ab FG (Aa 10) (Ab A5 (Am BB pc0) (Ab CC (Aa 9) (bC (.int 4))))) [10,10,9,10,9]))))
abbrev _root_.pb2:=Ab A5 (Aa 0) (bC (.int 0))
def Xb_pile:Fs:=(Ag (Aj false 4 (A3 b_numbers (Ae (Aa 3) (Ae (Ab BD pb2 pa4) (Ac)))) [3,0,0])
 (Ag (Aj false 5 (Am BB (Ac)) [])
 (Ag (CP BI (Ae pb2 (Ac)) (asgN 6) (Ag (Aj false 7 (Am BB (Ac)) [])
 (Ag (CP BI (Ae pa4 (Ac)) (asgN 8) pa0)
 (Co 5 (Aa 7) [7]))))
 (DV 5))))
def b_pile:Fn:=Ap false 4 7 Xb_pile
def Xf_must_be_two_piles:Fs:=(Ag (D5 (A3 f_must_be_pile pe0))
 (D5 (A3 f_must_be_pile (Ae (Aa 0) (Ae (Aa 2) (Ac))))))
def f_must_be_two_piles:Fn:=Ap false 3 0 Xf_must_be_two_piles
abbrev _root_.pb5:=Ae (Aa 2) (Ae (Aa 3) (Ac))
def Xf_places_of:Fs:=(Ag (Aj false 1 (Am BB (Ac)) [])
 (Ag (CP BI (Ae pb2 (Ac)) (asgN 2) (Du 1 (DC BI (Ae pa4 (Ac)) 1 (asgN 3) Bp (Am BJ pb5)) [2]))
 (DV 1)))
def f_places_of:Fn:=Ap false 1 2 Xf_places_of
abbrev _root_.pf3:=Ae (Aa 1) (Ae (Aa 2) (Ac))
abbrev _root_.pa7:=Ae (Aa 0) pf3
abbrev _root_.pg6:=Ab A5 (Ab A5 (Aa 2) (Aa 3)) (Aa 4)
abbrev _root_.pg5:=Ab A5 (Ab A5 (Aa 1) (Aa 3)) (Aa 4)
def Xf_lies_below:Fs:=(Ag (D5 (A3 f_must_be_two_piles pa7))
 (Au (Am EL (Ae (Cz (A3 f_places_of (Ae (Aa 0) (Ac))) 2 (asgT [3,4]) Bp (Ab (C1 λ i j=>decide (i<=j)) pg5 pg6)) (Ac)))))
def f_lies_below:Fn:=Ap false 3 0 Xf_lies_below
def sz:(1000000:Nat)<=Az:=by decide
def Q2 (i:Int):f_is_whole_number [.int i]=.ok (.bl true,om,.non):=by kernel_rfl
def HI (a b c:Int):Bool:=decide (1<=a) && (decide (1<=b) && decide (1<=c))
def yq (a b c:Int):f_is_box [bx a b c]=.ok (.bl (HI a b c),om,.non):=by
 have e0:∀ x∈[a,b,c],(Dh pd0 pg0) ([some (bx a b c,0)]++[some (.int x,om)])=.ok (.bl (decide (1<=x)),om,[some (bx a b c,0)]++[some (.int x,om)]):=λ x _=>by kernel_rfl
 have e1:=vq (n:=1) (f:=Aa 0) (ρ:=[some (bx a b c,0)]) (enc:=PV.int) (q:=λ x=>.bl (decide (1<=x))) (d:=0) [a,b,c] rfl rfl e0 (by have:=sz;show 3<=Az;omega);refine BU rfl (ρ':=[some (bx a b c,0)]) ?_;show Xf_is_box [some (bx a b c,0)]=_;refine (Eg (ρ1:=[some (bx a b c,0)]) (by kernel_rfl)).trans (Cv ?_);rw [all_ok e1];show Rz.ok (PV.bl (decide (1<=a) && (decide (1<=b) && (decide (1<=c) && true))),om,_)=_;rw [Ju];rfl
def ur {a b c:Int} (h:HI a b c=true):f_must_be_box [bx a b c]=.ok (.non,om,.non):=by
 refine Oz rfl (ρ':=[some (bx a b c,0)]) ?_;have hb:=yq a b c;rw [h] at hb;exact Cw (f:=FX) (g:=A1) (AN (Ez (AF (F:=f_is_box) (fa:=Ae (Aa 0) Ac) (ρ:=[some (bx a b c,0)]) (xs:=[(bx a b c,0)]) rfl hb)))
def DG (xs:List Int) (c h:Int):Bool:=decide ((xs.length:Int)=c) && xs.all λ x=>decide (0<=x) && decide (x<=h)
def row_ok (xs:List Int) (c h:Int) (hl:xs.length<=1000):f_is_row_of_heights [il xs,.int c,.int h]=.ok (.bl (DG xs c h),om,.non):=by
 have e0:∀ x∈xs,pc8 ([some (il xs,0),some (.int c,om),some (.int h,om)]++[some (.int x,om)])=.ok (.bl (decide (0<=x) && decide (x<=h)),om,[some (il xs,0),some (.int c,om),some (.int h,om)]++[some (.int x,om)]):=λ x _=>
  Ii (a:=true) (AF (xs:=[(.int x,om)]) rfl (Q2 x)) (λ _=>Lf (i:=0) (j:=x) (k:=h) rfl rfl rfl) rfl
 have e1:=IP (n:=3) (f:=Aa 0) (ρ:=[some (il xs,0),some (.int c,om),some (.int h,om)]) (enc:=PV.int) (q:=λ x=>.bl (decide (0<=x) && decide (x<=h))) (d:=0) xs rfl rfl e0 (by have:=sz;omega);have t:bT (BN (AJ BV (AJ (CT "list") (Aa 0))) (Ab (AD true) pb0 (Aa 1))) [some (il xs,0),some (.int c,om),some (.int h,om)]=.ok (!decide ((xs.length:Int)=c),[some (il xs,0),some (.int c,om),some (.int h,om)]):=by
  refine AN (d:=om) ((Ox (a:=false) rfl (λ _=>Iv (OE (xs:=xs) (d:=0) rfl) (j:=c) rfl) rfl).trans ?_);rw [YT,Bool.true_xor]
 refine BU rfl (ρ':=[some (il xs,0),some (.int c,om),some (.int h,om)]) ?_;show Xf_is_row_of_heights [some (il xs,0),some (.int c,om),some (.int h,om)]=_;unfold DG;by_cases hc:(xs.length:Int)=c
 ·rw [decide_eq_true hc] at t ⊢;refine (Eg t).trans (Cv ?_);rw [all_ok e1];rfl
 ·rw [decide_eq_false hc] at t ⊢;exact JP ((C7 t).trans rfl)
def Fv (xs:List Int):Bool:=(A6 ((xs.length:Int) - 1).toNat).all λ k=>decide (xs.getD (k + 1) 0<=xs.getD k 0)
def XM (xs:List Int) (hl:xs.length<=1000):f_never_rises [il xs]=.ok (.bl (Fv xs),om,.non):=by
 have e0:∀ k,k < ((xs.length:Int) - 1).toNat->pd4 ([some (il xs,0)]++[some (.int (1 + (k:Int)),om)])=.ok (.bl (decide (xs.getD (k + 1) 0<=xs.getD k 0)),om,[some (il xs,0)]++[some (.int (1 + (k:Int)),om)]):=λ k hk=>by
  refine Ey (i:=xs.getD (k + 1) 0) (j:=xs.getD k 0) (FN (xs:=xs) (k:=1 + (k:Int)) rfl rfl (Dg (by omega) ?_)) (FN (xs:=xs) (k:=1 + (k:Int) - 1) rfl rfl (Dg (by omega) ?_))
  ·rw [show (1 + (k:Int)).toNat=k + 1 by omega,Ci (show k + 1 < xs.length by omega),AR,Ci (show k + 1 < xs.length by omega)];rfl
  ·rw [show (1 + (k:Int) - 1).toNat=k by omega,Ci (show k < xs.length by omega),AR,Ci (show k < xs.length by omega)];rfl
 have e1:=MR (n:=1) (en:=FL) (ρ:=[some (il xs,0)]) (q:=λ k=>.bl (decide (xs.getD (k + 1) 0<=xs.getD k 0))) (A2 (f:=bC (.int 1)) (d:=om) (x:=.int 1) rfl (A9 (OE (fa:=Ae (Aa 0) Ac) (xs:=xs) (d:=0) rfl))) (vA (by decide) (by decide) (by omega) (by omega)) rfl e0 (by have:=sz;omega);exact BU rfl (ρ':=[some (il xs,0)]) (Cv (all_ok e1))
def FK (t:List (List Int)) (j:Nat):List Int:=t.map λ r=>r.getD j 0
def DR {xs:List Int}{j:Nat} (h:j < xs.length):xs[j]?=some (xs.getD j 0):=by
 rw [AR,Ci h];rfl
def JH {xs:List (List Int)}{j:Nat} (h:j < xs.length):xs[j]?=some (xs.getD j []):=by
 rw [AR,Ci h];rfl
def wX (t:List (List Int)) (j:Nat) (hl:t.length<=1000) (hr:∀ r∈t,j < r.length):f_column_of [tb t,.int (j:Int)]=.ok (il (FK t j),om,.non):=by
 have e0:∀ r∈t,(Ab A5 (Aa 2) (Aa 1)) ([some (tb t,0),some (.int (j:Int),om)]++[some (il r,0)])=.ok (.int (r.getD j 0),om,[some (tb t,0),some (.int (j:Int),om)]++[some (il r,0)]):=λ r hm=>
  FN (xs:=r) (k:=(j:Int)) rfl rfl (Dg (by omega) (DR (hr r hm)))
 have e1:=IP (n:=2) (f:=Aa 0) (ρ:=[some (tb t,0),some (.int (j:Int),om)]) (enc:=il) (q:=λ r=>.int (r.getD j 0)) (d:=0) t rfl rfl e0 (by have:=sz;omega);refine BU rfl (ρ':=[some (tb t,0),some (.int (j:Int),om)]) ((Cv e1).trans ?_);unfold FK il;rw [CH];rfl
def Tab (a b:Nat) (t:List (List Int)):Prop:=t.length=a/\∀ r∈t,r.length=b
def LG (a b:Nat) (c:Int) (t:List (List Int)):Bool:=(t.all λ r=>DG r b c) && ((t.all Fv) && ((A6 b).all λ j=>Fv (FK t j)))
theorem yT {a b:Nat}{c:Int}{t:List (List Int)} (ht:Tab a b t) (ha:1<=a/\a<=100) (hb:1<=b/\b<=100) (hc:1<=c):f_is_pile [bx a b c,tb t]=.ok (.bl (LG a b c t),om,.non):=by
 let R0:Af:=[some (bx a b c,0),some (tb t,0),none,none,none]
 let R1:Af:=[some (bx a b c,0),some (tb t,0),some (.int a,om),some (.int b,om),some (.int c,om)]
 have hbx:HI a b c=true:=by unfold HI;rw [decide_eq_true (by omega),decide_eq_true (by omega),decide_eq_true hc];rfl
 have hs:=sz;have l1:=ht.1;have s1:D5 pg8 R0=.nx R0:=Ic (AF (xs:=[(bx a b c,0)]) rfl (ur hbx));have s2:Cb (asgT [2,3,4]) (Aa 0) [0] R0=.nx R1:=by kernel_rfl
 have t3:bT (BN (AJ BV (AJ (CT "list") (Aa 1))) (Ab (AD true) pb6 (Aa 2))) R1=.ok (false,R1):=by
  refine AN (d:=om) ((Ox (a:=false) rfl (λ _=>Iv (xk (t:=t) (d:=0) rfl) (j:=(a:Int)) rfl) rfl).trans ?_);rw [l1];simp
 have e4:∀ r∈t,(A3 f_is_row_of_heights (Ae (Aa 5) pb8)) (R1++[some (il r,0)])=.ok (.bl (DG r b c),om,R1++[some (il r,0)]):=λ r hr=>
  AF (xs:=[(il r,0),(.int b,om),(.int c,om)]) rfl (row_ok r b c (by rw [ht.2 r hr];omega))
 have t4:=AN (Ez (all_ok (IP (n:=5) (f:=Aa 1) (ρ:=R1) (enc:=il) (q:=λ r=>.bl (DG r b c)) (d:=0) t rfl rfl e4 (by omega))));have e5:∀ r∈t,pg9 (R1++[some (il r,0)])=.ok (.bl (Fv r),om,R1++[some (il r,0)]):=λ r hr=>
  AF (xs:=[(il r,0)]) rfl (XM r (by rw [ht.2 r hr];omega))
 have t5:=AN (Ez (all_ok (IP (n:=5) (f:=Aa 1) (ρ:=R1) (enc:=il) (q:=λ r=>.bl (Fv r)) (d:=0) t rfl rfl e5 (by omega))));have e6:∀ k,k < ((b:Int) - 0).toNat->pf0 (R1++[some (.int (0 + (k:Int)),om)])=.ok (.bl (Fv (FK t k)),om,R1++[some (.int (0 + (k:Int)),om)]):=λ k hk=>by
  have e:=wX t k (by omega) λ r hr=>by rw [ht.2 r hr];omega
  rw [Ga];exact AF (xs:=[(il (FK t k),om)]) (A9 (AF (xs:=[(tb t,0),(.int (k:Int),om)]) rfl e)) (XM _ (by unfold FK;rw [AG];omega))
 have e7:=MR (n:=5) (en:=BI) (fa:=Ae (Aa 3) Ac) (ρ:=R1) (q:=λ k=>.bl (Fv (FK t k))) (as:=[(.int (b:Int),om)]) rfl (FI (by omega) (by omega)) rfl e6 (by omega);rw [show ((b:Int) - 0).toNat=b by omega] at e7;refine BU rfl (ρ':=R1) ?_;show Xf_is_pile R0=_;unfold LG;refine (AV s1).trans ((AV s2).trans ((Eg t3).trans ?_));cases h1:t.all λ r=>DG r b c with
 | false=>
  rw [h1] at t4;exact JP ((C7 t4).trans rfl)
 | true=>
  rw [h1] at t4;refine (Eg t4).trans ?_;cases h2:t.all Fv with
  | false=>
   have h2':t.all (λ r=>Fv r)=false:=h2;rw [h2'] at t5;exact JP ((C7 t5).trans rfl)
  | true=>
   have h2':t.all (λ r=>Fv r)=true:=h2;rw [h2'] at t5;exact (Eg t5).trans (Cv (all_ok e7))
def U5 {a b:Nat}{c:Int}{t:List (List Int)} (ht:Tab a b t) (ha:1<=a/\a<=100) (hb:1<=b/\b<=100) (hc:1<=c) (h:LG a b c t=true):f_must_be_pile [bx a b c,tb t]=.ok (.non,om,.non):=by
 refine Oz rfl (ρ':=[some (bx a b c,0),some (tb t,0)]) ?_;have hp:=yT ht ha hb hc;rw [h] at hp;exact Cw (f:=FX) (g:=A1) (AN (Ez (AF (F:=f_is_pile) (fa:=Ae (Aa 0) (Ae (Aa 1) Ac)) (ρ:=[some (bx a b c,0),some (tb t,0)]) (xs:=[(bx a b c,0),(tb t,0)]) rfl hp)))
def ve (t:List (List Int)) (r:List Int):PV.lst ((t.map il)++[il r])=tb (t++[r]):=by
 unfold tb;rw [CN];rfl
def g (t:List (List Int)) (i j:Nat):Int:=(t.getD i []).getD j 0
structure Pile (a b:Nat) (c:Int) (t:List (List Int)):Prop where
 tab:Tab a b t
 lo:∀ i j,i < a->j < b->0<=g t i j
 hi:∀ i j,i < a->j < b->g t i j<=c
 dn:∀ i j,i + 1 < a->j < b->g t (i + 1) j<=g t i j
 rt:∀ i j,i < a->j + 1 < b->g t i (j + 1)<=g t i j
def SQ {t:List (List Int)}{i:Nat} (h:i < t.length):t.getD i []∈t:=by
 rw [AR,Ci h];exact IA h
def Tab.row {a b:Nat}{t:List (List Int)} (h:Tab a b t) {i:Nat} (hi:i < a):(t.getD i []).length=b:=h.2 _ (SQ (by rw [h.1];exact hi))
def XE {xs:List Int}{i:Nat} (h:i < xs.length):xs.getD i 0∈xs:=by
 rw [AR,Ci h];exact IA h
def vO {xs:List Int}{x:Int} (h:x∈xs):∃ i,i < xs.length/\xs.getD i 0=x:=by
 obtain ⟨i,hi,e⟩:=Jv h;exact ⟨i,hi,by rw [AR,Ci hi];exact e⟩
def UE {t:List (List Int)}{r:List Int} (h:r∈t):∃ i,i < t.length/\t.getD i []=r:=by
 obtain ⟨i,hi,e⟩:=Jv h;exact ⟨i,hi,by rw [AR,Ci hi];exact e⟩
def vK {xs ys:List Int} (hl:xs.length=ys.length) (h:∀ i,i < xs.length->xs.getD i 0=ys.getD i 0):xs=ys:=by
 refine Tq hl λ i h1 h2=>?_
 have:=h i h1
 rw [AR,Ci h1,AR,Ci h2] at this;exact this
def Xr {a b:Nat}{t u:List (List Int)} (ht:Tab a b t) (hu:Tab a b u) (h:∀ i j,i < a->j < b->g t i j=g u i j):t=u:=by
 refine Tq (by rw [ht.1,hu.1]) λ i h1 h2=>?_;have hi:i < a:=by rw [<- ht.1];exact h1
 have e1:t.getD i []=t[i]:=by rw [AR,Ci h1];rfl
 have e2:u.getD i []=u[i]:=by rw [AR,Ci h2];rfl
 rw [<- e1,<- e2];refine vK (by rw [ht.row hi,hu.row hi]) λ j hj=>h i j hi (by rw [<- ht.row hi];exact hj)
def qck {xs:List Int}{c h:Int}:DG xs c h=true↔(xs.length:Int)=c/\∀ x∈xs,0<=x/\x<=h:=by
 unfold DG;rw [Bc,decide_eq_true_iff,jb8];constructor
 ·rintro ⟨h1,h2⟩;refine ⟨h1,λ x hx=>?_⟩
  have:=h2 x hx
  rw [Bc,decide_eq_true_iff,decide_eq_true_iff] at this;exact this
 ·rintro ⟨h1,h2⟩;refine ⟨h1,λ x hx=>?_⟩;rw [Bc,decide_eq_true_iff,decide_eq_true_iff];exact h2 x hx
def zfu {xs:List Int}:Fv xs=true↔∀ k,k + 1 < xs.length->xs.getD (k + 1) 0<=xs.getD k 0:=by
 unfold Fv;rw [jb8];constructor
 ·intro h k hk;exact of_decide_eq_true (h k (jc4.mpr (by omega)))
 ·intro h k hk
  have:=jc4.mp hk
  exact decide_eq_true (h k (by omega))
def MA {t:List (List Int)}{i j:Nat} (h:i < t.length):(FK t j).getD i 0=g t i j:=by
 unfold FK g;rw [AR,CI,Ci h,AR (l:=t),Ci h];rfl
def WA {t:List (List Int)}{j:Nat}:(FK t j).length=t.length:=by unfold FK;rw [AG]
def UI {a b:Nat}{c:Int}{t:List (List Int)} (ht:Tab a b t):LG a b c t=true↔Pile a b c t:=by
 unfold LG;rw [Bc,Bc,jb8,jb8,jb8];constructor
 ·rintro ⟨h1,h2,h3⟩;have q:∀ i j,i < a->j < b->0<=g t i j/\g t i j<=c:=λ i j hi hj=>(qck.mp (h1 _ (SQ (by rw [ht.1];exact hi)))).2 _ (XE (by rw [ht.row hi];exact hj));refine ⟨ht,λ i j hi hj=>(q i j hi hj).1,λ i j hi hj=>(q i j hi hj).2,λ i j hi hj=>?_,λ i j hi hj=>?_⟩
  ·have:=zfu.mp (h3 j (jc4.mpr hj)) i (by rw [WA,ht.1];exact hi)
   rw [MA (by rw [ht.1];exact hi),MA (by rw [ht.1];omega)] at this;exact this
  ·exact zfu.mp (h2 _ (SQ (by rw [ht.1];exact hi))) j (by rw [ht.row hi];exact hj)
 ·intro p;refine ⟨λ r hr=>qck.mpr ⟨by rw [ht.2 r hr],λ x hx=>?_⟩,λ r hr=>zfu.mpr λ k hk=>?_,λ j hj=>zfu.mpr λ k hk=>?_⟩
  ·obtain ⟨i,hi,rfl⟩:=UE hr;obtain ⟨j,hj,rfl⟩:=vO hx;have hi':i < a:=by rw [<- ht.1];exact hi
   rw [ht.row hi'] at hj;exact ⟨p.lo i j hi' hj,p.hi i j hi' hj⟩
  ·obtain ⟨i,hi,rfl⟩:=UE hr;have hi':i < a:=by rw [<- ht.1];exact hi
   rw [ht.row hi'] at hk;exact p.rt i k hi' hk
  ·rw [WA,ht.1] at hk;rw [MA (by rw [ht.1];exact hk),MA (by rw [ht.1];omega)];exact p.dn k j hk (jc4.mp hj)
def CG (a b:Nat) (f:Nat->Nat->Int):List (List Int):=(A6 a).map λ i=>(A6 b).map λ j=>f i j
def KW {a b:Nat}{f:Nat->Nat->Int}:Tab a b (CG a b f):=by
 refine ⟨by unfold CG;rw [AG,Gh],λ r hr=>?_⟩;obtain ⟨i,_,rfl⟩:=jd6.mp hr;rw [AG,Gh]
def Xl {b j:Nat}{f:Nat->Int} (hj:j < b):((A6 b).map f).getD j 0=f j:=by
 rw [AR,CI,K8 hj];rfl
def j9 {a i:Nat}{f:Nat->List Int} (hi:i < a):((A6 a).map f).getD i []=f i:=by
 rw [AR,CI,K8 hi];rfl
def CS {a b i j:Nat}{f:Nat->Nat->Int} (hi:i < a) (hj:j < b):g (CG a b f) i j=f i j:=by
 unfold g CG;rw [j9 hi,Xl hj]
def Nr (r:List Int):Prop:=∀ k,k + 1 < r.length->r.getD (k + 1) 0<=r.getD k 0
def WL {f h:Fx}{ρ ρ1 ρ2:Af}{xs:List Int}{k x:Int}{d e:Nat} (h1:f ρ=.ok (.scr xs,d,ρ1)) (h2:h ρ1=.ok (.int k,e,ρ2)) (hx:BO xs k=some x):Ab A5 f h ρ=.ok (.int x,om,ρ2):=by
 refine Cy h1 h2 ?_;show (BO xs k).map _=_;rw [hx];rfl
def Ss (ns:List Int) (k:Nat):b_cell_at [.scr ns,.int (k:Int)]=.ok (.int (ns.getD k 0),om,.non):=by
 let R:Af:=[some (.scr ns,om),some (.int (k:Int),om)]
 have t1:bT (Ab (C1 λ i j=>decide (i < j)) (Aa 1) pb0) R=.ok (decide ((k:Int) < (ns.length:Int)),R):=rfl;refine BU rfl (ρ':=R) ?_;by_cases h:(k:Int) < (ns.length:Int)
 ·rw [decide_eq_true h] at t1;exact JP ((C7 t1).trans (Cv (WL (xs:=ns) (k:=(k:Int)) (d:=om) rfl rfl (Dg (by omega) (DR (by omega))))))
 ·rw [decide_eq_false h] at t1;refine (Eg t1).trans ((Cv (d:=om) rfl).trans ?_);rw [AR,FD (by omega)];rfl
def SR (c k:Int) (hk:0<=k/\k < 10000):∃ r,b_stir [.int c,.int k]=.ok (.int r,om,.non):=by
 have e1:=OT (((c % 2147483629 + 9973 * k + 5) * 48271)) (show (2147483647:Int)≠0 by decide);have e2:=OY (((c % 2147483629 + 9973 * k + 5) * 48271)) (show (0:Int) < 2147483647 by decide);exact ⟨_,BU rfl ((AV (Bm (DB (DS (DQ (DQ (DB (i:=c) rfl rfl (by decide)) (DS (i:=9973) (j:=k) rfl rfl (.inl (by decide)))) (j:=5) rfl) (j:=48271) rfl (.inr (by decide))) (j:=2147483647) rfl (by decide)) (show 2 < 3 by decide) rfl)).trans ((AV (Bm (DB (DS rfl rfl (.inl (by omega))) (j:=2147483587) rfl (by decide)) (show 2 < 3 by decide) rfl)).trans (Cv (Ij (DB (DS (DQ rfl (DS (i:=7919) (j:=k) rfl rfl (.inl (by decide)))) (j:=16807) rfl (.inr (by decide))) (j:=2147483563) rfl (by decide)) (j:=8) rfl (by decide) (by decide)))))⟩
def WM (xs:List Int) (x:Int):PV.lst (xs.map PV.int++[.int x])=il (xs++[x]):=by unfold il;rw [CN];rfl
def Qd (c:Int) (m:Nat) (hm:m<=1000):∃ ns:List Int,ns.length=m/\b_numbers [.int c,.int (m:Int)]=.ok (il ns,om,.non):=by
 have z:=sz;let R (xs:List Int) (v:Int) (s4 s5:QQ.Slot):Af:=[some (.int c,om),some (.int (m:Int),om),some (il xs,om),some (.int v,om),s4,s5]
 have s1:Aj false 2 (Am BB (Ac)) [] [some (.int c,om),some (.int (m:Int),om),none,none,none,none]=.nx [some (.int c,om),some (.int (m:Int),om),some (il [],om),none,none,none]:=by kernel_rfl
 have s2:Aj false 3 (Aa 0) [0] [some (.int c,om),some (.int (m:Int),om),some (il [],om),none,none,none]=.nx (R [] c none none):=by kernel_rfl
 obtain ⟨ρ',e6,xs,v,s4,s5,rfl,hl⟩:=JT (i:=4) (body:=pa9) (en:=BI) (fa:=Ae (Aa 1) (Ac)) (ρ:=R [] c none none) (ρ1:=R [] c none none) (as:=[(.int (m:Int),om)]) (lo:=0) (hi:=(m:Int))
  (λ k ρ=>∃ xs v s4 s5,ρ=R xs v s4 s5/\xs.length=k) rfl (FI (by omega) (by omega)) ⟨[],c,none,none,rfl,rfl⟩ (by
   rintro j ρ hj ⟨xs,v,s4,s5,rfl,hl⟩;obtain ⟨r,er⟩:=SR c (0 + (j:Int)) (by omega);have u1:Aj false 5 pg4 [0,4] (R xs v (some (.int (0 + (j:Int)),om)) s5)=.nx (R xs v (some (.int (0 + (j:Int)),om)) (some (.int r,om))):=Bm (AF (xs:=[(.int c,om),(.int (0 + (j:Int)),om)]) rfl er) (show 5 < 6 by decide) rfl;have u2:∃ r',Bi (bT pc4) pg1 A1 (R xs v (some (.int (0 + (j:Int)),om)) (some (.int r,om)))=.nx (R xs v (some (.int (0 + (j:Int)),om)) (some (.int r',om))):=by
    have tt:bT pc4 (R xs v (some (.int (0 + (j:Int)),om)) (some (.int r,om)))=.ok (decide ((10:Int) ^ 18<=c),R xs v (some (.int (0 + (j:Int)),om)) (some (.int r,om))):=by kernel_rfl
    cases hd:decide ((10:Int) ^ 18<=c) with
    | true=>rw [hd] at tt;exact ⟨v % 720720,(C7 tt).trans (Bm (DB rfl rfl (by decide)) (show 5 < 6 by decide) rfl)⟩
    | false=>rw [hd] at tt;exact ⟨r,(Cw tt).trans rfl⟩
   obtain ⟨r',u2⟩:=u2;have u3:Aj false 3 (Ab GW (Aa 3) (bC (.int 720720))) [3] (R xs v (some (.int (0 + (j:Int)),om)) (some (.int r',om)))=.nx (R xs (v / 720720) (some (.int (0 + (j:Int)),om)) (some (.int r',om))):=Bm (Ij (i:=v) rfl rfl (by decide) (by decide)) (show 3 < 6 by decide) rfl;refine ⟨show 4 < 6 by decide,_,(AV u1).trans ((AV u2).trans ((AV u3).trans (LK (i:=2) (d0:=999) (d:=om) (y:=.int r') (e:=om) (xs:=xs.map PV.int) (xs0:=xs.map PV.int) rfl rfl rfl (by decide) (by rw [AG];omega) rfl))),xs++[r'],v / 720720,some (.int (0 + (j:Int)),om),some (.int r',om),?_,by rw [BM,hl];rfl⟩;rw [WM]
   rfl)
 rw [show ((m:Int) - 0).toNat=m by omega] at hl;exact ⟨xs,hl,BU rfl ((AV s1).trans ((AV s2).trans ((AV e6).trans rfl)))⟩
def yb (xs:List PV):Ce xs (some (-1)) none=xs.drop (xs.length - 1):=by
 unfold Ce;have e:HT.sIx xs.length 0 (some (-1))=xs.length - 1:=by
  show (if (-1:Int) < 0 then (-1 + (xs.length:Int)).toNat else min (-1:Int).toNat xs.length)=_;rw [if_pos (by decide)];omega
 rw [e,HT.sIx_none];exact Mf (by rw [FA];exact AA _)
def X4 {α:Type}{xs:List α}{x:α} (h:xs[xs.length - 1]?=some x):BO xs (-1)=some x:=by
 have hl:=(jb0.mp h).1;unfold BO DO;rw [if_neg (by decide),if_pos (by omega),show (-1 + (xs.length:Int)).toNat=xs.length - 1 by omega];exact h
def Xj {f:Fx}{ρ ρ1:Af}{xs:List PV}{d:Nat} (h:f ρ=.ok (.lst xs,d,ρ1)):D0 f pf2 none ρ=.ok (.lst (xs.drop (xs.length - 1)),d1 (xs.drop (xs.length - 1)),ρ1):=by
 unfold D0;rw [h];show Rz.ok (PV.lst (Ce xs (some (-1)) none),d1 (Ce xs (some (-1)) none),ρ1)=_;rw [yb]
def SN {f h:Fx}{ρ ρ1 ρ2:Af}{xs ys:List PV}{d e:Nat} (h1:f ρ=.ok (.lst xs,d,ρ1)) (h2:h ρ1=.ok (.lst ys,e,ρ2)) (hl:xs.length + ys.length<=Az):Ab Bs f h ρ=.ok (.lst (xs++ys),d1 (xs++ys),ρ2):=by
 refine Cy h1 h2 ?_;show (if _ then _ else _)=_;rw [if_pos hl]
theorem M5:∀ xs:List Int,Fo (xs.map PV.int)=some xs
 | []=>rfl
 | x::xs=>by rw [Be,Fo,M5 xs];rfl
def xl {fa:Fa}{ρ ρ1:Af}{x:Int}{xs:List Int}{d:Nat} (h:fa ρ=.ok ([(il (x::xs),d)],ρ1)):Am GA fa ρ=.ok (.int (C5 x xs),om,ρ1):=by
 refine Ck h ?_;show (match Fo ((x::xs).map PV.int) with | some (n::r)=>some (PV.int (C5 n r),om) | _=>none)=_;rw [M5]
def CW (c:Int) (t:List (List Int)) (j:Nat):Int:=if t.length=0 then c else g t (t.length - 1) j
def Bl (c:Int) (t:List (List Int)) (r:List Int) (j:Nat):Int:=if r.length=0 then CW c t j else min (CW c t j) (r.getD (r.length - 1) 0)
def wO {t:List (List Int)}{r:List Int}{i:Nat}:(t++[r]).getD i []=if i < t.length then t.getD i [] else if i=t.length then r else []:=by
 by_cases h:i < t.length
 ·rw [if_pos h,AR,C6 h,AR]
 ·rw [if_neg h];by_cases h2:i=t.length
  ·rw [if_pos h2,h2,AR,ZF];rfl
  ·rw [if_neg h2,AR,FD (by rw [BM,EF];omega)];rfl
def MZ {r:List Int}{x:Int}{i:Nat}:(r++[x]).getD i 0=if i < r.length then r.getD i 0 else if i=r.length then x else 0:=by
 by_cases h:i < r.length
 ·rw [if_pos h,AR,C6 h,AR]
 ·rw [if_neg h];by_cases h2:i=r.length
  ·rw [if_pos h2,h2,AR,ZF];rfl
  ·rw [if_neg h2,AR,FD (by rw [BM,EF];omega)];rfl
def Pile.snoc {k b:Nat}{c:Int}{t:List (List Int)}{r:List Int} (p:Pile k b c t) (hr:r.length=b) (h:∀ y,y < b->0<=r.getD y 0/\r.getD y 0<=CW c t y) (hn:Nr r):Pile (k + 1) b c (t++[r]):=by
 have l:=p.tab.1;have e:∀ i j,g (t++[r]) i j=if i < k then g t i j else if i=k then r.getD j 0 else 0:=λ i j=>by
  unfold g;rw [wO,l];split
  ·rfl
  ·split <;> rfl
 have u:∀ y,y < b->CW c t y<=c:=λ y hy=>by
  unfold CW;split
  ·exact Dx _
  ·exact p.hi _ _ (by omega) hy
 refine ⟨⟨by rw [BM,l];rfl,λ x hx=>?_⟩,λ i j hi hj=>?_,λ i j hi hj=>?_,λ i j hi hj=>?_,λ i j hi hj=>?_⟩
 ·rcases jd4.mp hx with z | z
  ·exact p.tab.2 x z
  ·rw [jb6.mp z,hr]
 ·rw [e];by_cases z:i < k
  ·rw [if_pos z];exact p.lo i j z hj
  ·rw [if_neg z,if_pos (by omega)];exact (h j hj).1
 ·rw [e];by_cases z:i < k
  ·rw [if_pos z];exact p.hi i j z hj
  ·rw [if_neg z,if_pos (by omega)];exact Fy (h j hj).2 (u j hj)
 ·rw [e,e];by_cases z:i + 1 < k
  ·rw [if_pos z,if_pos (by omega)];exact p.dn i j z hj
  ·rw [if_neg z,if_pos (by omega),if_pos (by omega)]
   have:=(h j hj).2
   unfold CW at this;rw [if_neg (by omega),l,show k - 1=i by omega] at this;exact this
 ·rw [e,e];by_cases z:i < k
  ·rw [if_pos z,if_pos z];exact p.rt i j z hj
  ·rw [if_neg z,if_neg z,if_pos (by omega),if_pos (by omega)];exact hn j (by rw [hr];exact hj)
def Xc {a b c:Nat} (ns:List Int) (st:Nat) (cell:Int) (hst:st<=1000) (ha:1<=a/\a<=30) (hb:1<=b/\b<=30) (hc:1<=c/\c<=1000) (hns:ns.length<=1000):∃ t d,Pile a b c t/\d≠0/\b_pile [bx a b c,.scr ns,.int (st:Int),.int cell]=.ok (tb t,d,.non):=by
 have z:=sz;have hab:a * b<=900:=BZ (K1 ha.2 hb.2) (by decide);obtain ⟨nm,hl,en⟩:=Qd cell (a * b) (by (clear z hns hc hb ha hst;omega));let R (t:List (List Int)) (d5:Nat) (s6 s7 s8 s9 s10:QQ.Slot):Af:=[some (bx a b c,0),some (.scr ns,om),some (.int (st:Int),om),some (.int cell,om),some (il nm,om),some (tb t,d5),s6,s7,s8,s9,s10]
 let R0:Af:=[some (bx a b c,0),some (.scr ns,om),some (.int (st:Int),om),some (.int cell,om),none,none,none,none,none,none,none]
 have s1:Aj false 4 (A3 b_numbers (Ae (Aa 3) (Ae (Ab BD pb2 pa4) (Ac)))) [3,0,0] R0=.nx [some (bx a b c,0),some (.scr ns,om),some (.int (st:Int),om),some (.int cell,om),some (il nm,om),none,none,none,none,none,none]:=by
  refine Bm (x:=il nm) (d:=om) (ρ1:=R0) (AF (z:=.non) (A2 (x:=.int cell) (d:=om) rfl (A9 (DS (i:=(a:Int)) (j:=(b:Int)) rfl rfl (.inl (by (clear hl hab z hns hc hb hst;omega)))))) ?_) (show 4 < 11 by decide) rfl;show b_numbers [.int cell,.int ((a:Int) * (b:Int))]=_;rw [show (a:Int) * (b:Int)=((a * b:Nat):Int) by rw [Gb]];exact en
 have s2:Aj false 5 (Am BB (Ac)) [] [some (bx a b c,0),some (.scr ns,om),some (.int (st:Int),om),some (.int cell,om),some (il nm,om),none,none,none,none,none,none]=.nx (R [] om none none none none none):=by kernel_rfl
 have step:∀ (t:List (List Int)) (d5 k j:Nat) (r:List Int) (s9 s10:QQ.Slot),k < a->j < b->Pile k b c t->r.length=j->(∀ y,y < j->0<=r.getD y 0)->(∀ y,y < j->r.getD y 0<=CW c t y)->∃ h s9' s10',(0<=h/\h<=Bl c t r j)/\pa0 (R t d5 (some (.int (k:Int),om)) (some (il r,om)) (some (.int (j:Int),om)) s9 s10)=.nx (R t d5 (some (.int (k:Int),om)) (some (il (r++[h]),om)) (some (.int (j:Int),om)) s9' s10'):=by
  intro t d5 k j r s9 s10 hk hj p hr hr0 hr1;let Q (s9 s10:QQ.Slot):Af:=R t d5 (some (.int (k:Int),om)) (some (il r,om)) (some (.int (j:Int),om)) s9 s10;have hkb:k * b + j < a * b:=by
   have:(k + 1) * b<=a * b:=Gi b hk
   rw [OM] at this
   (clear hr hk hl hab z hns hc hb ha hst;omega)
  have ekb:(k:Int) * (b:Int)=((k * b:Nat):Int):=by rw [Gb]
  have m1:∀ s9 s10,Ab BD (Aa 6) pa4 (Q s9 s10)=.ok (.int ((k * b:Nat):Int),om,Q s9 s10):=λ s9 s10=>by
   rw [<- ekb];exact DS (i:=(k:Int)) (j:=(b:Int)) rfl rfl (.inl (by (clear ekb hkb hr hj hl hab z hns hc hb hst;omega)))
  have v1:Aj false 9 (Ab A5 (Aa 4) (Ab Bs (Ab BD (Aa 6) pa4) (Aa 8))) [4,6,0,8] (Q s9 s10)=.nx (Q (some (.int (nm.getD (k * b + j) 0),om)) s10):=
   Bm (FN (xs:=nm) (d:=0) rfl (DQ (m1 s9 s10) (j:=(j:Int)) rfl) (Dg (by (clear ekb hkb hr hj hk hl hab z hns hc hb ha hst;omega)) (by rw [show (((k * b:Nat):Int) + (j:Int)).toNat=k * b + j by (clear ekb hkb hr hj hk hl hab z hns hc hb ha hst;omega)];exact DR (by (clear ekb hr hj hk hab z hns hc hb ha hst;omega))))) (show 9 < 11 by decide) rfl
  have v2:∃ n,Bi (bT (Ab (C1 λ i j=>decide (i < j)) (Ab Bs (Ab Bs (Aa 2) (Ab BD (Aa 6) pa4)) (Aa 8)) pb6)) (Aj false 9 (Ab A5 (Aa 1) (Ab Bs (Ab Bs (Aa 2) (Ab BD (Aa 6) pa4)) (Aa 8))) [1,2,6,0,8]) A1 (Q (some (.int (nm.getD (k * b + j) 0),om)) s10)=.nx (Q (some (.int n,om)) s10):=by
   have q:=λ s9 s10=>DQ (ρ:=Q s9 s10) (DQ (ρ:=Q s9 s10) (f:=Aa 2) (i:=(st:Int)) (d:=om) rfl (m1 s9 s10)) (g:=Aa 8) (j:=(j:Int)) (e:=om) rfl;have tt:=AN (Ey (p:=λ i j=>decide (i < j)) (q (some (.int (nm.getD (k * b + j) 0),om)) s10) (g:=Am GY (Ae (Aa 1) (Ac))) (j:=(ns.length:Int)) (e:=om) rfl);by_cases hd:((st:Int) + ((k * b:Nat):Int) + (j:Int)) < (ns.length:Int)
   ·rw [decide_eq_true hd] at tt;refine ⟨ns.getD (st + k * b + j) 0,(C7 tt).trans (Bm (WL (xs:=ns) (d:=om) rfl (q _ _) (Dg (by (clear hd ekb hkb hr hj hk hl hab z hns hc hb ha hst;omega)) ?_)) (show 9 < 11 by decide) rfl)⟩;rw [show ((st:Int) + ((k * b:Nat):Int) + (j:Int)).toNat=st + k * b + j by (clear hd ekb hkb hr hj hk hl hab z hns hc hb ha hst;omega)];exact DR (by (clear ekb hkb hr hj hk hl hab z hns hc hb ha hst;omega))
   ·rw [decide_eq_false hd] at tt;exact ⟨_,(Cw tt).trans rfl⟩
  obtain ⟨n,v2⟩:=v2;have l:=p.tab.1;have v3:Aj false 10 pb4 [0,5,5,8] (Q (some (.int n,om)) s10)=.nx (Q (some (.int n,om)) (some (.int (CW c t j),om))):=by
   have f1:D0 (Aa 5) pf2 none (Q (some (.int n,om)) s10)=.ok (.lst ((t.drop (t.length - 1)).map il),d1 ((t.map il).drop ((t.map il).length - 1)),Q (some (.int n,om)) s10):=by
    rw [Xj (xs:=t.map il) (d:=0) (ρ1:=Q (some (.int n,om)) s10) rfl,AG,OO]
   have f2:=IP (n:=11) (elt:=Ab A5 pc6 (Aa 8)) (enc:=il) (q:=λ _=>.int (g t (t.length - 1) j)) (t.drop (t.length - 1)) f1 rfl (λ x hx=>by
    have ht:0 < t.length:=by
     have:=List.length_pos_of_mem hx
     rw [FA] at this
     (clear l ekb hkb hr hj hk hl hab z hns hc hb ha hst;omega)
    exact FN (xs:=t.getD (t.length - 1) []) (k:=(j:Int)) (OA (t:=t) (k:=-1) (d:=0) rfl rfl (X4 (JH (by (clear l ekb hkb hr hj hk hl hab z hns hc hb ha hst;omega))))) rfl (Dg (by (clear ht l ekb hkb hr hj hk hl hab z hns hc hb ha hst;omega)) (DR (by rw [p.tab.row (by (clear ekb hkb hr hj hk hl hab z hns hc hb ha hst;omega))];(clear ht l ekb hkb hr hk hl hab z hns hc hb ha hst;omega))))) (by rw [FA];(clear l ekb hkb hr hj hk hl hab hns hc hb ha hst;omega))
   have f3:Am BB pe9 (Q (some (.int n,om)) s10)=.ok (.lst [.int (c:Int)],om,Q (some (.int n,om)) s10):=by kernel_rfl
   have f4:=SN f3 f2 (by rw [AG,FA,EF];(clear l ekb hkb hr hj hk hl hab hns hc hb ha hst;omega));have f5:PV.lst ([.int (c:Int)]++(t.drop (t.length - 1)).map λ _=>.int (g t (t.length - 1) j))=il ((c:Int)::(t.drop (t.length - 1)).map λ _=>g t (t.length - 1) j):=by
    unfold il;rw [Be,CH];rfl
   rw [f5] at f4;refine Bm (FN f4 (k:=-1) rfl (X4 ?_)) (show 10 < 11 by decide) rfl;unfold CW;by_cases e:t.length=0
   ·rw [if_pos e,je6.mp e];rfl
   ·rw [if_neg e]
    have:(t.drop (t.length - 1)).map (λ _=>g t (t.length - 1) j)=[g t (t.length - 1) j]:=by
     have hl1:(t.drop (t.length - 1)).length=1:=by rw [FA];(clear l ekb hkb hr hj hk hl hab z hns hc hb ha hst;omega)
     obtain ⟨x,hx⟩:=jo6.mp hl1;rw [hx];rfl
    rw [this];rfl
  have v4:Aj false 10 pd5 [10,7] (Q (some (.int n,om)) (some (.int (CW c t j),om)))=.nx (Q (some (.int n,om)) (some (.int (Bl c t r j),om))):=by
   have f1:=Xj (f:=Aa 7) (xs:=r.map PV.int) (d:=0) (ρ:=Q (some (.int n,om)) (some (.int (CW c t j),om))) (ρ1:=Q (some (.int n,om)) (some (.int (CW c t j),om))) rfl;rw [AG,<- OO] at f1;have f4:=SN (f:=Am BB (Ae (Aa 10) (Ac))) (ρ:=Q (some (.int n,om)) (some (.int (CW c t j),om))) (xs:=[.int (CW c t j)]) (d:=om) (by kernel_rfl) f1 (by rw [AG,FA,EF];(clear l ekb hkb hr hj hk hl hab hns hc hb ha hst;omega))
   have:C5 (CW c t j) (r.drop (r.length - 1))=Bl c t r j:=by
    unfold Bl;by_cases e:r.length=0
    ·rw [if_pos e,je6.mp e];rfl
    ·rw [if_neg e]
     have:r.drop (r.length - 1)=[r.getD (r.length - 1) 0]:=by
      rw [T5 (show r.length - 1 < r.length by (clear l ekb hkb hr hj hk hl hab z hns hc hb ha hst;omega)),AR,Ci (show r.length - 1 < r.length by (clear l ekb hkb hr hj hk hl hab z hns hc hb ha hst;omega)),Mg (by (clear e l ekb hkb hr hj hk hl hab z hns hc hb ha hst;omega))];rfl
     rw [this];show (if r.getD (r.length - 1) 0 < CW c t j then r.getD (r.length - 1) 0 else CW c t j)=_;split <;> (clear e l ekb hkb hr hj hk hl hab z hns hc hb ha hst;omega)
   rw [<- this];exact Bm (xl (x:=CW c t j) (xs:=r.drop (r.length - 1)) (A9 f4)) (show 10 < 11 by decide) rfl
  have u0:0<=CW c t j:=by
   unfold CW;split
   ·(clear l ekb hkb hr hj hk hl hab z hns hc hb ha hst;omega)
   ·exact p.lo _ _ (by (clear ekb hkb hr hj hk hl hab z hns hc hb ha hst;omega)) hj
  have t0:0<=Bl c t r j:=by
   unfold Bl;split
   ·exact u0
   ·have:=hr0 (r.length - 1) (by (clear u0 l ekb hkb hj hk hl hab z hns hc hb ha hst;omega))
    (clear l ekb hkb hr hj hk hl hab z hns hc hb ha hst;omega)
  have q0:=OT n (show (4:Int)≠0 by decide);have q1:=OY n (show (0:Int) < 4 by decide);have w0:=OT (n / 4) (show Bl c t r j + 1≠0 by (clear q1 q0 u0 l ekb hkb hr hj hk hl hab z hns hc hb ha hst;omega));have w1:=OY (n / 4) (show 0 < Bl c t r j + 1 by (clear w0 q1 q0 u0 l ekb hkb hr hj hk hl hab z hns hc hb ha hst;omega));let ch:List Int:=[0,0,if Bl c t r j < 1 then Bl c t r j else 1,n / 4 % (Bl c t r j + 1)]
  have hch:∀ x∈ch,0<=x/\x<=Bl c t r j:=by
   intro x hx;rcases jb4.mp hx with e | hx
   ·rw [e];(clear e w1 w0 q1 q0 u0 l ekb hkb hr hj hk hl hab z hns hc hb ha hst;omega)
   rcases jb4.mp hx with e | hx
   ·rw [e];(clear e w1 w0 q1 q0 u0 l ekb hkb hr hj hk hl hab z hns hc hb ha hst;omega)
   rcases jb4.mp hx with e | hx
   ·rw [e];split <;> (clear e w1 w0 q1 q0 u0 l ekb hkb hr hj hk hl hab z hns hc hb ha hst;omega)
   rcases jb4.mp hx with e | hx
   ·rw [e];(clear e q1 q0 t0 u0 l ekb hkb hr hj hk hl hab z hns hc hb ha hst;omega)
   ·cases hx
  have hx:=hch _ (XE (xs:=ch) (i:=(n % 4).toNat) (by show (n % 4).toNat < 4;(clear w1 w0 q1 q0 t0 u0 l ekb hkb hr hj hk hl hab z hns hc hb ha hst;omega)));have f5:Am BB pc0 (Q (some (.int n,om)) (some (.int (Bl c t r j),om)))=.ok (il ch,om,Q (some (.int n,om)) (some (.int (Bl c t r j),om))):=
   Ck (A2 (x:=.int 0) (d:=om) rfl (A2 (x:=.int 0) (d:=om) rfl (A2 (x:=.int (if Bl c t r j < 1 then Bl c t r j else 1)) (d:=om) rfl (A9 (DB (Ij (i:=n) rfl rfl (by decide) (by decide)) (DQ (i:=Bl c t r j) rfl rfl) (by (clear hx w1 w0 q1 q0 u0 l ekb hkb hr hj hk hl hab z hns hc hb ha hst;omega))))))) (by kernel_rfl)
  refine ⟨Bl c t r j - ch.getD (n % 4).toNat 0,some (.int n,om),some (.int (Bl c t r j),om),⟨by (clear w1 w0 q1 q0 t0 u0 l ekb hkb hr hj hk hl hab z hns hc hb ha hst;omega),by (clear w1 w0 q1 q0 t0 u0 l ekb hkb hr hj hk hl hab z hns hc hb ha hst;omega)⟩,?_⟩;refine (AV v1).trans ((AV v2).trans ((AV v3).trans ((AV v4).trans ?_)));refine (LK (i:=7) (d0:=999) (d:=om) (xs:=r.map PV.int) (xs0:=r.map PV.int) rfl (JQ (i:=Bl c t r j) rfl (FN f5 (k:=n % 4) (DB (i:=n) rfl rfl (by decide)) (Dg q0 (DR (by show (n % 4).toNat < 4;(clear hx w1 w0 q1 q0 t0 u0 l ekb hkb hr hj hk hl hab z hns hc hb ha hst;omega)))))) rfl (by decide) (by rw [AG];(clear hx w1 w0 q1 q0 t0 u0 l ekb hkb hk hl hab hns hc ha hst;omega)) rfl).trans ?_;rw [WM];rfl
 obtain ⟨ρ',e6,t,d5,s6,s7,s8,s9,s10,rfl,pt,hd5⟩:=JT (i:=6) (body:=(Ag (Aj false 7 (Am BB (Ac)) [])
 (Ag (CP BI (Ae pa4 (Ac)) (asgN 8) pa0)
 (Co 5 (Aa 7) [7])))) (en:=BI) (fa:=Ae pb2 (Ac)) (ρ:=R [] om none none none none none) (ρ1:=R [] om none none none none none) (as:=[(.int (a:Int),om)]) (lo:=0) (hi:=(a:Int))
  (λ k ρ=>∃ t d5 s6 s7 s8 s9 s10,ρ=R t d5 s6 s7 s8 s9 s10/\Pile k b c t/\d5≠0) (by kernel_rfl) (FI (by (clear hl hab z hns hc hb ha hst;omega)) (by (clear hl hab z hns hc hb hst;omega))) ⟨[],om,none,none,none,none,none,rfl,⟨⟨rfl,λ _ h=>nomatch h⟩,λ _ _ h=>absurd h (by (clear h hl hab z hns hc hb ha hst;omega)),λ _ _ h=>absurd h (by (clear h hl hab z hns hc hb ha hst;omega)),λ _ _ h=>absurd h (by (clear h hl hab z hns hc hb ha hst;omega)),λ _ _ h=>absurd h (by (clear h hl hab z hns hc hb ha hst;omega))⟩,by decide⟩ (by
   rintro k ρ hk ⟨t,d5,s6,s7,s8,s9,s10,rfl,pt,hd5⟩;have hk':k < a:=by (clear hd5 hl hab z hns hc hb ha hst;omega)
   have u1:Aj false 7 (Am BB (Ac)) [] (R t d5 (some (.int (0 + (k:Int)),om)) s7 s8 s9 s10)=.nx (R t d5 (some (.int (0 + (k:Int)),om)) (some (il [],om)) s8 s9 s10):=rfl;obtain ⟨ρ2,e2,r,t8,t9,Hx,rfl,hr,hr0,hr1,hrn⟩:=JT (i:=8) (body:=pa0) (en:=BI) (fa:=Ae pa4 (Ac)) (ρ:=R t d5 (some (.int (0 + (k:Int)),om)) (some (il [],om)) s8 s9 s10) (ρ1:=R t d5 (some (.int (0 + (k:Int)),om)) (some (il [],om)) s8 s9 s10) (as:=[(.int (b:Int),om)]) (lo:=0) (hi:=(b:Int))
    (λ j ρ=>∃ r s8 s9 s10,ρ=R t d5 (some (.int (0 + (k:Int)),om)) (some (il r,om)) s8 s9 s10/\r.length=j/\(∀ y,y < j->0<=r.getD y 0)/\(∀ y,y < j->r.getD y 0<=CW c t y)/\Nr r) (by kernel_rfl) (FI (by (clear hk' hd5 hk hl hab z hns hc hb ha hst;omega)) (by (clear hk' hd5 hk hl hab z hns hc ha hst;omega))) ⟨[],s8,s9,s10,rfl,rfl,λ _ h=>absurd h (by (clear h hk' hd5 hk hl hab z hns hc hb ha hst;omega)),λ _ h=>absurd h (by (clear h hk' hd5 hk hl hab z hns hc hb ha hst;omega)),λ _ h=>absurd h (by simp)⟩ (by
     rintro j ρ hj ⟨r,s8,s9,s10,rfl,hr,hr0,hr1,hrn⟩;obtain ⟨h,t9,Hx,hh,eh⟩:=step t d5 k j r s9 s10 hk' (by (clear hr hk' hd5 hk hl hab z hns hc hb ha hst;omega)) pt hr hr0 hr1;refine ⟨show 8 < 11 by decide,R t d5 (some (.int (0 + (k:Int)),om)) (some (il (r++[h]),om)) (some (.int (0 + (j:Int)),om)) t9 Hx,?_,r++[h],some (.int (0 + (j:Int)),om),t9,Hx,rfl,by rw [BM,hr];rfl,λ y hy=>?_,λ y hy=>?_,λ y hy=>?_⟩
     ·rw [Ga,Ga];exact eh
     ·rw [MZ];by_cases e:y < r.length
      ·rw [if_pos e];exact hr0 y (by (clear hy hh hj hk' hd5 hk hl hab z hns hc hb ha hst;omega))
      ·rw [if_neg e,if_pos (by (clear hh hj hk' hd5 hk hl hab z hns hc hb ha hst;omega))];exact hh.1
     ·rw [MZ];by_cases e:y < r.length
      ·rw [if_pos e];exact hr1 y (by (clear hy hh hj hk' hd5 hk hl hab z hns hc hb ha hst;omega))
      ·rw [if_neg e,if_pos (by (clear hh hj hk' hd5 hk hl hab z hns hc hb ha hst;omega)),show y=j by (clear hh hj hk' hd5 hk hl hab z hns hc hb ha hst;omega)]
       have:=hh.2
       unfold Bl at this;split at this <;> (clear e hy hh hr hj hk' hd5 hk hl hab z hns hc hb ha hst;omega)
     ·rw [BM,EF] at hy;rw [MZ,MZ];by_cases e:y + 1 < r.length
      ·rw [if_pos e,if_pos (by (clear e hh hr hj hk' hd5 hk hl hab z hns hc hb ha hst;omega))];exact hrn y e
      ·rw [if_neg e,if_pos (by (clear hh hr hj hk' hd5 hk hl hab z hns hc hb ha hst;omega)),if_pos (by (clear e hh hr hj hk' hd5 hk hl hab z hns hc hb ha hst;omega))]
       have:=hh.2
       unfold Bl at this;rw [if_neg (by (clear this e hh hr hj hk' hd5 hk hl hab z hns hc hb ha hst;omega)),show r.length - 1=y by (clear this hh hr hj hk' hd5 hk hl hab z hns hc hb ha hst;omega)] at this
       (clear e hy hh hr hj hk' hd5 hk hl hab z hns hc hb ha hst;omega))
   rw [show ((b:Int) - 0).toNat=b by (clear hr hk' hd5 hk hl hab z hns hc hb ha hst;omega)] at hr hr0 hr1;refine ⟨show 6 < 11 by decide,R (t++[r]) 1 (some (.int (0 + (k:Int)),om)) (some (il r,0)) t8 t9 Hx,?_,t++[r],1,_,_,_,_,_,rfl,pt.snoc hr (λ y hy=>⟨hr0 y hy,hr1 y hy⟩) hrn,by decide⟩;refine (AV u1).trans ((AV e2).trans ?_);obtain ⟨d0,rfl⟩:∃ d0,d5=d0 + 1:=⟨d5 - 1,by (clear hr hk' hk hl hab z hns hc hb ha hst;omega)⟩
   refine (LK (i:=5) (d0:=d0) (d:=d0 + 1) (y:=il r) (e:=0) (xs:=t.map il) (xs0:=t.map il) rfl rfl rfl hd5 (by rw [AG,pt.tab.1];(clear hd5 hr hk' hl hab hns hc hb hst;omega)) rfl).trans ?_;rw [ve,if_neg (λ h=>absurd h.2 (by decide))]
   rfl)
 rw [show ((a:Int) - 0).toNat=a by (clear hd5 hl hab z hns hc hb ha hst;omega)] at pt;exact ⟨t,d5,pt,hd5,BU rfl ((AV s1).trans ((AV s2).trans ((AV e6).trans rfl)))⟩
theorem Y1:∀ xs:List Int,Kt (xs.map PV.int)=true
 | []=>rfl
 | x::xs=>by rw [Be,Kt,Y1 xs];rfl
def LM (xs:List Int):d1 (xs.map PV.int)=om:=by unfold d1;rw [Y1];rfl
def j5 {f:Fx}{ρ ρ1:Af}{xs:List Int}{d:Nat} (h:f ρ=.ok (il xs,d,ρ1)):Am JM (Ae f Ac) ρ=.ok (il xs,om,ρ1):=by
 refine Ck (A9 h) ?_;show some (PV.lst (xs.map PV.int),d1 (xs.map PV.int))=_;rw [LM];rfl
def MG {f h k:Fx}{ρ ρ1 ρ2 ρ3:Af}{t:List (List Int)}{a b i j:Nat}{d e e':Nat} (ht:Tab a b t) (h1:f ρ=.ok (tb t,d,ρ1)) (h2:h ρ1=.ok (.int (i:Int),e,ρ2)) (h3:k ρ2=.ok (.int (j:Int),e',ρ3)) (hi:i < a) (hj:j < b):Ab A5 (Ab A5 f h) k ρ=.ok (.int (g t i j),om,ρ3):=
 FN (xs:=t.getD i []) (k:=(j:Int)) (OA (t:=t) (k:=(i:Int)) h1 h2 (Dg (by omega) (JH (by rw [Dy,ht.1];exact hi)))) h3 (Dg (by omega) (DR (by rw [Dy,ht.row hi];exact hj)))
theorem My {asg:PV->Af->Option Af}{body:Fs}:∀ (els:List PV) (I:Nat->Af->Prop) (ρ:Af),I 0 ρ->(∀ j x ρ,els[j]?=some x->I j ρ->∃ ρ1 ρ2,asg x ρ=some ρ1/\body ρ1=.nx ρ2/\I (j + 1) ρ2)->∃ ρ',BQ asg body els ρ=.nx ρ'/\I els.length ρ'
 | [],I,ρ,h,_=>⟨ρ,rfl,h⟩
 | x::xs,I,ρ,h,hb=>by
  obtain ⟨ρ1,ρ2,e1,e2,h2⟩:=hb 0 x ρ rfl h;obtain ⟨ρ',e',h'⟩:=My xs (λ j=>I (j + 1)) ρ2 h2 λ j y ρ hy hi=>hb (j + 1) y ρ (by simpa using hy) hi;refine ⟨ρ',?_,h'⟩;unfold BQ;rw [e1];dsimp only;rw [e2];exact e'
def wc {v:Vw}{fa:Fa}{vs:List Nat}{asg:PV->Af->Option Af}{body:Fs}{ρ ρ1 ρ2:Af}{xs:List (PV×Nat)}{els:List PV} (I:Nat->Af->Prop) (hf:fa ρ=.ok (xs,ρ1)) (he:Gw v (xs.map (·.1))=some els) (ec:Bh (if Dk xs=true then om else 0) vs ρ1=ρ2) (h0:I 0 ρ2)
  (hb:∀ j x ρ,els[j]?=some x->I j ρ->∃ ρ1 ρ2,asg x ρ=some ρ1/\body ρ1=.nx ρ2/\I (j + 1) ρ2):∃ ρ',GD v fa vs asg body ρ=.nx ρ'/\I els.length ρ':=by
 obtain ⟨ρ',e,h⟩:=My els I ρ2 h0 hb;refine ⟨ρ',?_,h⟩;unfold GD;rw [hf];dsimp only;rw [he];dsimp only;rw [ec];exact e
def wb {f:Fx}{vs:List Nat}{asg:PV->Af->Option Af}{body:Fs}{ρ ρ1 ρ2:Af}{els:List PV}{d:Nat} (I:Nat->Af->Prop) (hf:f ρ=.ok (.lst els,d,ρ1)) (ec:Bh d vs ρ1=ρ2) (h0:I 0 ρ2)
  (hb:∀ j x ρ,els[j]?=some x->I j ρ->∃ ρ1 ρ2,asg x ρ=some ρ1/\body ρ1=.nx ρ2/\I (j + 1) ρ2):∃ ρ',E3 f vs asg body ρ=.nx ρ'/\I els.length ρ':=by
 obtain ⟨ρ',e,h⟩:=My els I ρ2 h0 hb;refine ⟨ρ',?_,h⟩;unfold E3;rw [hf];dsimp only;rw [ec];exact e
def Wa {i:Nat}{f:Fx}{vs:List Nat}{ρ ρ1 ρ2:Af}{ys:List PV}{e:Nat}{xs:List PV}{d0 d:Nat}{xs0:List PV} (h0:ρ[i]?=some (some (.lst xs0,d0 + 1))) (h:f ρ=.ok (.lst ys,e,ρ1)) (h1:(Bh e vs ρ1)[i]?=some (some (.lst xs,d))) (hd:d≠0) (hl:xs.length + ys.length<=Az)
  (e2:(Bh e vs ρ1).set i (some (.lst (xs++ys),1))=ρ2):Du i f vs ρ=.nx ρ2:=by
 unfold Du;rw [h0];dsimp only;rw [h];dsimp only;rw [h1];dsimp only;rw [if_pos ⟨hd,hl⟩,e2]
abbrev C3:=Nat×Nat×Nat
def c3 (x:C3):PV:=.tup [.int (x.1:Int),.int (x.2.1:Int),.int (x.2.2:Int)]
def wo {xs:List Int} (h1:xs.length<=1000) (h2:∀ x∈xs,-1000000<=x/\x<=1000000):E4 xs=true:=by
 unfold E4;rw [Bc,decide_eq_true_iff,jb8];refine ⟨by omega,λ x hx=>?_⟩
 have:=h2 x hx
 rw [Bc,decide_eq_true_iff,decide_eq_true_iff];omega
def JR {fa:Fa}{ρ ρ1:Af}{xs:List Int}{d:Nat} (h:fa ρ=.ok ([(il xs,d)],ρ1)) (hs:E4 xs=true):Am Fl fa ρ=.ok (.int xs.sum,om,ρ1):=by
 refine Ck h ?_;show (match Fo (xs.map PV.int) with | some ns=>if E4 ns=true then some (PV.int ns.sum,om) else none | none=>none)=_;rw [M5];dsimp only;rw [if_pos hs]
abbrev _root_.pc7:=BN (Ab (AD true) (AJ (CT "tuple") (Aa 1)) (AJ (CT "tuple") (Aa 0))) (Ab (AD true) (AJ (CT "list") (Aa 1)) (AJ (CT "list") (Aa 0)))
abbrev _root_.pd6:=Dh (AJ (CT "int") (Aa 0)) (Dh (AJ BV (AJ (CT "bool") (Aa 0))) (Ab (AD false) (Aa 0) (Aa 1)))
def LP (F:Fn):Fs:=(Ag (Bi (bT (AJ (CT "int") (Aa 1))) (Au pd6) A1)
 (Ag (Bi (bT (AJ (CT "str") (Aa 1))) (Au (Dh (AJ (CT "str") (Aa 0)) (Ab (AD false) (Aa 0) (Aa 1)))) A1)
 (Ag (Bi (bT pc7) (Au (bC (.bl false))) A1)
 (Ag (Bi (bT (Ab (AD true) pb0 pb6)) (Au (bC (.bl false))) A1)
 (Ag (GD .zp pe0 [0,1] (asgT [2,3]) (Bi (bT (AJ BV (A3 F pb5))) (Au (bC (.bl false))) A1))
 (Au (bC (.bl true))))))))
def GZ:Nat->Fn
 | 0=>λ _=>.no
 | n + 1=>Ap false 2 2 (LP (GZ n))
def wD (n:Nat) (i:Int):GZ (n + 1) [.int i,.int i]=.ok (.bl true,om,.non):=by
 let R:Af:=[some (.int i,om),some (.int i,om),none,none]
 have e:pd6 R=.ok (.bl (true && (true && (false^^decide (i=i)))),om,R):=
  Ii (a:=true) (d:=om) rfl (λ _=>Ii (a:=true) (d:=om) rfl (λ _=>Iv (i:=i) (j:=i) rfl rfl) rfl) rfl
 rw [decide_eq_true rfl] at e;exact BU rfl (ρ':=R) (JP ((C7 (ρ1:=R) rfl).trans (Cv e)))
theorem PJ {α:Type}{k:Nat}{asg:PV->Af->Option Af}{test:Fb}{elt:Fx}{enc q:α->PV}{E:α->Af}{e:α->Nat}{p:α->Bool}:∀ (xs:List α) (ρ:Af) (acc:List (PV×Nat)),(∀ x∈xs,asg (enc x) (ρ++AK k none)=some (ρ++E x)) ->
  (∀ x∈xs,test (ρ++E x)=.ok (p x,ρ++E x))->(∀ x∈xs,p x=true->elt (ρ++E x)=.ok (q x,e x,ρ++E x))->acc.length + xs.length<=Az->Cj k asg test elt (xs.map enc) ρ acc=.ok (acc++(xs.filter p).map (λ x=>(q x,e x)),ρ)
 | [],ρ,acc,_,_,_,_=>by simp [Cj]
 | x::xs,ρ,acc,ha,ht,he,hl=>by
  have ih:=λ acc h=>PJ (k:=k) (asg:=asg) (test:=test) (elt:=elt) (p:=p) (q:=q) (e:=e) (enc:=enc) (E:=E) xs ρ acc (λ y hy=>ha y (AM _ hy)) (λ y hy=>ht y (AM _ hy)) (λ y hy=>he y (AM _ hy)) h;have tk:(ρ++E x).take ρ.length=ρ:=by simp
  rw [Bw] at hl;rw [Be];unfold Cj;rw [ha x AL];dsimp only;rw [ht x AL];dsimp only [Rz.bindN];cases hp:p x with
  | false=>rw [if_neg Cs,tk,ih acc (by omega),ZA (by simp [hp])]
  | true=>
   rw [if_pos rfl,he x AL hp];dsimp only;rw [if_pos (by omega),tk,ih _ (by rw [BM,EF];omega),Z9 hp];simp
def UD {α:Type}{q:α->PV}{xs:List α}{ρ:Af}:Dm ([]++xs.map λ x=>(q x,om)) ρ=.ok (.lst (xs.map q),om,ρ):=by
 rw [EW];unfold Dm;rw [JE,CH];rfl
def RS {α:Type}{k:Nat}{v:Vw}{fa:Fa}{asg:PV->Af->Option Af}{elt:Fx}{enc q:α->PV}{E:α->Af}{ρ ρ1:Af}{as:List (PV×Nat)} (xs:List α) (hf:fa ρ=.ok (as,ρ1)) (hv:Gw v (as.map (·.1))=some (xs.map enc)) (ha:∀ x∈xs,asg (enc x) (ρ1++AK k none)=some (ρ1++E x))
  (he:∀ x∈xs,elt (ρ1++E x)=.ok (q x,om,ρ1++E x)) (hl:xs.length<=Az):Di v fa k asg Bp elt ρ=.ok (.lst (xs.map q),om,ρ1):=by
 unfold Di;rw [hf];dsimp only;rw [hv];dsimp only;rw [PJ (p:=λ _=>true) (q:=q) (e:=λ _=>om) xs ρ1 [] ha (λ _ _=>rfl) (λ x hx _=>he x hx) (by simpa using hl),jf7.mpr (λ _ _=>rfl)];exact UD
def qL {α:Type}{k:Nat}{f:Fx}{asg:PV->Af->Option Af}{test:Fb}{elt:Fx}{enc q:α->PV}{E:α->Af}{p:α->Bool}{ρ ρ1:Af}{d:Nat} (xs:List α) (hf:f ρ=.ok (.lst (xs.map enc),d,ρ1)) (ha:∀ x∈xs,asg (enc x) (ρ1++AK k none)=some (ρ1++E x))
  (ht:∀ x∈xs,test (ρ1++E x)=.ok (p x,ρ1++E x)) (he:∀ x∈xs,p x=true->elt (ρ1++E x)=.ok (q x,om,ρ1++E x)) (hl:xs.length<=Az):Cz f k asg test elt ρ=.ok (.lst ((xs.filter p).map q),om,ρ1):=by
 unfold Cz;rw [hf];dsimp only;rw [PJ (p:=p) (q:=q) (e:=λ _=>om) xs ρ1 [] ha ht he (by simpa using hl)];exact UD
def yQ {α:Type} (xs:List α):xs.filter (λ _=>true)=xs:=jf7.mpr λ _ _=>rfl
theorem JX {α:Type}{asg:PV->Af->Option Af}{body:Fs}{enc:α->PV} (P:List α->Af->Prop):∀ (xs pre:List α) (ρ:Af),P pre ρ->(∀ p x s ρ,pre++xs=p++x::s->P p ρ->∃ ρ1 ρ2,asg (enc x) ρ=some ρ1/\body ρ1=.nx ρ2/\P (p++[x]) ρ2) ->
  ∃ ρ',BQ asg body (xs.map enc) ρ=.nx ρ'/\P (pre++xs) ρ'
 | [],pre,ρ,h,_=>⟨ρ,rfl,by simpa using h⟩
 | x::xs,pre,ρ,h,hb=>by
  obtain ⟨ρ1,ρ2,e1,e2,h2⟩:=hb pre x xs ρ rfl h;obtain ⟨ρ',e',h'⟩:=JX P xs (pre++[x]) ρ2 h2 λ p y s ρ e=>hb p y s ρ (by rw [<- e];simp);refine ⟨ρ',?_,by simpa using h'⟩;rw [Be];unfold BQ;rw [e1];dsimp only;rw [e2];exact e'
def WI {v:Vw}{fa:Fa}{vs:List Nat}{asg:PV->Af->Option Af}{body:Fs}{ρ ρ1 ρ2:Af}{r:Rs}{xs:List (PV×Nat)}{els:List PV} (hf:fa ρ=.ok (xs,ρ1)) (he:Gw v (xs.map (·.1))=some els) (ec:Bh (if Dk xs=true then om else 0) vs ρ1=ρ2) (h:BQ asg body els ρ2=r):GD v fa vs asg body ρ=r:=by
 unfold GD;rw [hf];dsimp only;rw [he];dsimp only;rw [ec,h]
def WY {f:Fx}{vs:List Nat}{asg:PV->Af->Option Af}{body:Fs}{ρ ρ1 ρ2:Af}{r:Rs}{els:List PV}{d:Nat} (hf:f ρ=.ok (.lst els,d,ρ1)) (ec:Bh d vs ρ1=ρ2) (h:BQ asg body els ρ2=r):E3 f vs asg body ρ=r:=by
 unfold E3;rw [hf];dsimp only;rw [ec,h]
def jn {en:List (PV×Nat)->Option (Int×Int)}{fa:Fa}{asg:PV->Af->Option Af}{body:Fs}{ρ ρ1:Af}{r:Rs}{as:List (PV×Nat)}{n:Nat} (hf:fa ρ=.ok (as,ρ1)) (hen:en as=some (0,(n:Int))) (h:BQ asg body ((A6 n).map λ (k:Nat)=>.int (k:Int)) ρ1=r):CP en fa asg body ρ=r:=by
 unfold CP;rw [hf];dsimp only;rw [hen];dsimp only;rw [Mz,show ((n:Int) - 0).toNat=n by omega,<- h];congr 2;funext k;rw [Ga]
theorem Yx {α β:Type} (f:α->PV) (h:β->PV):∀ (xs:List α) (ys:List β),Ca (xs.map f) (ys.map h)=(xs.zip ys).map λ z=>.tup [f z.1,h z.2]
 | [],_=>by simp [Ca]
 | _::_,[]=>by simp [Ca]
 | x::xs,y::ys=>by
  rw [Be,Be,Ca,Yx f h xs ys];rfl
def zK {x y z:PV} (h1:f_must_be_pile [x,y]=.ok (.non,om,.non)) (h2:f_must_be_pile [x,z]=.ok (.non,om,.non)):f_must_be_two_piles [x,y,z]=.ok (.non,om,.non):=
 Oz rfl ((AV (Ic (AF (xs:=[(x,dv x),(y,dv y)]) rfl h1))).trans (Ic (AF (xs:=[(x,dv x),(z,dv z)]) rfl h2)))
def zT (h:Int->Int->Int) (t u:List (List Int)):List (List Int):=(t.zip u).map λ z=>Tg h z.1 z.2
def CB (a b:Nat):List (Nat×Nat):=(A6 a).flatMap λ i=>(A6 b).map λ j=>(i,j)
def pr (z:Nat×Nat):PV:=.tup [.int (z.1:Int),.int (z.2:Int)]
def zxu {a b:Nat}{z:Nat×Nat}:z∈CB a b↔z.1 < a/\z.2 < b:=by
 unfold CB;simp only [K4,jd6,jc4];constructor
 ·rintro ⟨i,hi,j,hj,rfl⟩;exact ⟨hi,hj⟩
 ·intro h;exact ⟨z.1,h.1,z.2,h.2,rfl⟩
theorem XD {α:Type}{q:Nat->List α}{b:Nat} (h:∀ i,(q i).length=b):∀ a,((A6 a).flatMap q).length=a * b
 | 0=>by simp
 | a + 1=>by rw [ED,K7,BM,XD h a,OM];simp [h]
def P7 (a b:Nat):(CB a b).length=a * b:=XD (λ i=>by rw [AG,Gh]) a
def xT {R:Af}{fn:Fx}{b i:Nat}{n:Nat} (hb:b<=100) (hn:R.length=n) (hf:fn R=.ok (.int (b:Int),om,R)) (he:∀ k,k < b->Am BJ (Ae (Aa 2) (Ae (Aa n) (Ac))) (R++[some (.int (k:Int),om)])=.ok (pr (i,k),om,R++[some (.int (k:Int),om)])):
  DC BI (Ae fn (Ac)) 1 (asgN n) Bp (Am BJ (Ae (Aa 2) (Ae (Aa n) (Ac)))) R=.ok (.lst (((A6 b).map λ j=>(i,j)).map pr),om,R):=by
 have z:=sz;have w:=MR (n:=n) (en:=BI) (fa:=Ae fn Ac) (elt:=Am BJ (Ae (Aa 2) (Ae (Aa n) (Ac)))) (ρ:=R) (ρ1:=R) (as:=[(.int (b:Int),om)]) (lo:=0) (hi:=(b:Int)) (q:=λ m=>pr (i,m)) (A9 hf) (FI (by omega) (by omega)) hn (λ m hm=>by rw [Ga];exact he m (by omega)) (by omega);rw [w,show ((b:Int) - 0).toNat=b by omega,CH];rfl
def U6 (a b:Nat):CB (a + 1) b=CB a b++(A6 b).map λ j=>(a,j):=by
 unfold CB;rw [ED,K7];simp
def UJ {a b c:Nat} (ha:a<=100) (hb:b<=100):∃ d,d≠0/\f_places_of [bx a b c]=.ok (.lst ((CB a b).map pr),d,.non):=by
 have z:=sz;let R (s1 s2:QQ.Slot):Af:=[some (bx a b c,0),s1,s2]
 have s1:Aj false 1 (Am BB (Ac)) [] (R none none)=.nx (R (some (.lst [],om)) none):=by kernel_rfl
 obtain ⟨ρ',e',d,s2,hd,rfl⟩:=JT (i:=2) (en:=BI) (fa:=Ae pb2 Ac) (body:=Du 1 (DC BI (Ae pa4 (Ac)) 1 (asgN 3) Bp (Am BJ pb5)) [2]) (ρ:=R (some (.lst [],om)) none) (lo:=0) (hi:=(a:Int)) (as:=[(.int (a:Int),om)])
  (λ k ρ=>∃ d s2,d≠0/\ρ=R (some (.lst ((CB k b).map pr),d)) s2) rfl (FI (by omega) (by omega)) ⟨om,none,by decide,rfl⟩ (by
   rintro i _ hi ⟨d,s2,hd,rfl⟩;obtain ⟨d0,rfl⟩:∃ d0,d=d0 + 1:=⟨d - 1,by omega⟩
   rw [Ga];refine ⟨(show 2 < 3 by decide),_,Wa (i:=1) (d0:=d0) (d:=d0 + 1) rfl (xT (R:=R (some (.lst ((CB i b).map pr),d0 + 1)) (some (.int (i:Int),om))) (i:=i) hb rfl rfl λ k _=>rfl) rfl hd ?_ rfl,1,some (.int (i:Int),om),by decide,?_⟩
   ·rw [AG,AG,AG,Gh,P7]
    have:i * b<=100 * 100:=K1 (by omega) hb
    omega
   ·show R (some (PV.lst ((CB i b).map pr++((A6 b).map λ j=>(i,j)).map pr),1)) _=R (some (PV.lst ((CB (i + 1) b).map pr),1)) _;rw [U6,CN])
 rw [show ((a:Int) - 0).toNat=a by omega] at e';exact ⟨d,hd,BU rfl ((AV s1).trans ((AV e').trans rfl))⟩
def Kz (a b:Nat) (t u:List (List Int)):Bool:=(CB a b).all λ z=>decide (g t z.1 z.2<=g u z.1 z.2)
def jy {a b c:Nat}{t u:List (List Int)} (ht:Tab a b t) (hu:Tab a b u) (ha:a<=100) (hb:b<=100) (h2:f_must_be_two_piles [bx a b c,tb t,tb u]=.ok (.non,om,.non)):f_lies_below [bx a b c,tb t,tb u]=.ok (.bl (Kz a b t u),om,.non):=by
 have z:=sz;let R:Af:=[some (bx a b c,0),some (tb t,0),some (tb u,0)]
 have s1:D5 (A3 f_must_be_two_piles pa7) R=.nx R:=Ic (AF (xs:=[(bx a b c,0),(tb t,0),(tb u,0)]) rfl h2);obtain ⟨d,_,hp⟩:=UJ (c:=c) ha hb;have e1:=qL (k:=2) (f:=A3 f_places_of (Ae (Aa 0) (Ac))) (asg:=asgT [3,4]) (test:=Bp) (elt:=Ab (C1 λ i j=>decide (i<=j)) pg5 pg6) (enc:=pr) (q:=λ z=>.bl (decide (g t z.1 z.2<=g u z.1 z.2))) (E:=λ z=>[some (.int (z.1:Int),om),some (.int (z.2:Int),om)]) (p:=λ _=>true) (ρ:=R) (CB a b) (AF (xs:=[(bx a b c,0)]) rfl hp) (λ _ _=>rfl) (λ _ _=>rfl)
  (λ z hz _=>Ey (MG (i:=z.1) (j:=z.2) ht (d:=0) rfl rfl rfl (zxu.mp hz).1 (zxu.mp hz).2) (MG (i:=z.1) (j:=z.2) hu (d:=0) rfl rfl rfl (zxu.mp hz).1 (zxu.mp hz).2)) (by rw [P7];have:a * b<=100 * 100:=K1 ha hb;omega)
 rw [yQ] at e1;exact BU rfl ((AV s1).trans (Cv (all_ok e1)))
abbrev _root_.pe5:=Ab Bs (Aa 6) (bC (.int 1))
abbrev _root_.pf8:=Am BJ (Ae (Aa 7) (Ac))
abbrev _root_.pd3:=DC BI (Ae pe5 (Ac)) 1 (asgN 7) Bp (Ab Bs (Aa 5) pf8)
abbrev _root_.pc3:=Ab (C1 λ i j=>decide (j < i)) (Aa 3) (bC (.int 0))
abbrev _root_.pa1:=Ag (Aj false 6 (Cf (bT pc3) pc6 (Aa 1)) [5,1]) (Du 4 pd3 [5])
abbrev _root_.pe3:=Aj false 4 (Am BB (Ac)) []
def Xf_rows_of_heights:Fs:=(Ag (Aj false 2 (Am BB (Ae (Am BJ (Ac)) (Ac))) [])
 (Ag (CP BI (Ae (Aa 0) (Ac)) (asgN 3) (Ag pe3
 (Ag (E3 (Aa 2) [2] (asgN 5) pa1)
 (Aj false 2 (Aa 4) [4]))))
 (DV 2)))
def f_rows_of_heights:Fn:=Ap false 2 5 Xf_rows_of_heights
abbrev _root_.pe1:=Am BB (Ae (bC (.int 0)) (Ac))
def Xf_added:Fs:=(Ag (Aj false 2 (Ab Bs (Am JM (Ae (Aa 0) (Ac))) (Ab BD pe1 (Ab FG pb6 pb0))) [0,1,0])
 (Ag (GD .enm (Ae (Aa 1) (Ac)) [1] (asgT [3,4]) (Jp (λ i j=>i + j) 2 (Aa 3) (Aa 4)))
 (DV 2)))
def f_added:Fn:=Ap false 2 3 Xf_added
abbrev _root_.pf5:=Ae (Ab FG (Ab A5 (Aa 4) (Aa 3)) (bC (.int 1))) (Ac)
abbrev _root_.pb9:=Ab Bs (Ab Bs (D0 (Aa 4) none (some (Aa 3))) (Am BJ pf5)) (D0 (Aa 4) (some (Ab Bs (Aa 3) (bC (.int 1)))) none)
abbrev _root_.pe8:=A3 f_added (Ae (Ab A5 (Aa 2) (Aa 4)) (Ae (Ab A5 (Aa 2) (Aa 5)) (Ac)))
abbrev _root_.pa3:=Ag (Aj false 5 pb9 [4,4,3,4]) (Bi (bT (Ab (DI false) (Aa 5) (Aa 2))) (Ew 2 (Aa 4) pe8) A1)
def Xf_sums_of_lower_rows:Fs:=(Ag (Aj false 2 (Am Lj (Ae (Aa 0) (Ac))) [0])
 (Ag (CP BI (Ae (Aa 1) (Ac)) (asgN 3) (Ih (Aa 0) [0] (asgN 4) pa3))
 (DV 2)))
def f_sums_of_lower_rows:Fn:=Ap false 2 4 Xf_sums_of_lower_rows
def Xf_lies_between:Fs:=(Au (Am EL (Ae (DC BI (Ae pb0 (Ac)) 1 (asgN 3) Bp (EJ (λ i j=>decide (i<=j)) (λ i j=>decide (i<=j)) (Ab A5 (Aa 1) (Aa 3)) (Ab A5 (Aa 0) (Aa 3)) (Ab A5 (Aa 2) (Aa 3)))) (Ac))))
def f_lies_between:Fn:=Ap false 3 0 Xf_lies_between
abbrev _root_.pa5:=Bi (bT (A3 f_lies_between (Ae (Aa 5) pf3))) (Ew 4 (Aa 5) (Ab Bs (Ab BD pe1 (Am Fl (Ae (Cz (Aa 3) 1 (asgN 6) Bp (Ab A5 (Aa 5) (Aa 6))) (Ac)))) (Ab A5 (Aa 0) (Aa 5)))) (Ew 4 (Aa 5) (Am BB (Ac)))
def Xf_table_of_row:Fs:=(Ag (Aj false 4 Fe [])
 (Ag (Ih (Aa 0) [0] (asgN 5) pa5)
 (DV 4)))
def f_table_of_row:Fn:=Ap false 4 2 Xf_table_of_row
abbrev _root_.pc2:=Ab (AD false) (Ab A5 (Aa 12) (bC (.int 0))) (Aa 10)
abbrev _root_.pc1:=A3 f_table_of_row (Ae (A3 f_sums_of_lower_rows (Ae (Aa 7) (Ae (Aa 5) (Ac)))) (Ae (Ab A5 (Aa 1) (Aa 10)) (Ae (Ab A5 (Aa 2) (Aa 10)) (Ae (Aa 11) (Ac)))))
abbrev _root_.pf6:=Ab A5 (Aa 12) (bC (.int 1))
abbrev _root_.pa2:=Ag (Aj false 11 (Cz (Aa 3) 1 (asgN 12) (bT pc2) pf6) [3,3]) (Ag (Aj false 7 pc1 [7,5,1,10,2,10,11]) (Co 9 (Aa 7) [7]))
abbrev _root_.pd1:=Ab (AD false) (Am Fl (Ae (Aa 8) (Ac))) (bC (.int 0))
abbrev _root_.pb3:=Cf (bT pd1) (Am BB (Ae (bC (.int 1)) (Ac))) (Am BB (Ac))
abbrev _root_.pc5:=Ae (Aa 5) (Ae (Aa 6) (Ac))
abbrev _root_.pd8:=Ae (Ab FG (Aa 4) (bC (.int 1))) (Ae (AJ IM (bC (.int 1))) (Ae (AJ IM (bC (.int 1))) (Ac)))
def Xf_tables_between:Fs:=(Ag (Cb (asgT [4,5,6]) (Aa 0) [0])
 (Ag (Aj false 7 Fe [])
 (Ag (E3 (A3 f_rows_of_heights pc5) [5,6] (asgN 8) (Ew 7 (Aa 8) pb3))
 (Ag (Aj false 9 (Am BB (Ac)) [])
 (Ag (IV pd8 (asgN 10) pa2)
 (Au (AJ RI (Aa 9))))))))
def f_tables_between:Fn:=Ap false 4 8 Xf_tables_between
abbrev _root_.pe2:=Ae (Aa 4) (Ae (Aa 5) (Ac))
def Xf_tally_between:Fs:=(Ag pe3
 (Ag (Kv (Ab A5 (A3 f_tables_between (Ae (Aa 0) (Ae (Aa 1) pb5))) (bC (.int 0))) [0,1,2,3] (asgN 5) (Aj false 4 (A3 f_added pe2) [4,5]))
 (DV 4)))
def f_tally_between:Fn:=Ap false 4 2 Xf_tally_between
def CK (a b:Int):List Int:=(A6 (b - a).toNat).map λ k=>a + (k:Nat)
def JU {a b:Int} (h:b<=a):CK a b=[]:=by
 unfold CK;rw [show (b - a).toNat=0 by omega];rfl
def Mx {a b:Int} (h:a < b):CK a b=a::CK (a + 1) b:=by
 unfold CK;rw [show (b - a).toNat=(b - (a + 1)).toNat + 1 by omega,List.range_succ_eq_map];simp only [Be,CH,Int.natCast_zero,Int.add_zero];congr 1;apply EE;intro k _;show a + ((k + 1:Nat):Int)=a + 1 + (k:Int);omega
def qcx {a b x:Int}:x∈CK a b↔a<=x/\x < b:=by
 unfold CK;simp only [jd6,jc4];constructor
 ·rintro ⟨k,hk,rfl⟩;omega
 ·rintro ⟨h1,h2⟩;exact ⟨(x - a).toNat,by omega,by omega⟩
def EH (lo hi x:Int):Bool:=decide (lo<=x) && decide (x<=hi)
theorem yS (lo hi:Int):∀ (n:Nat) (a b:Int),(b - a).toNat=n->lo<=a->(CK a b).filter (EH lo hi)=CK a (min (b - 1) hi + 1):=by
 intro n;induction n with
 | zero=>
  intro a b h ha;rw [JU (a:=a) (by omega),JU (by omega)];rfl
 | succ n ih=>
  intro a b h ha;rw [Mx (by omega),Ep];by_cases h2:a<=hi
  ·rw [if_pos (by unfold EH;simp [h2,ha]),Mx (a:=a) (b:=min (b - 1) hi + 1) (by omega),ih (a + 1) b (by omega) (by omega)]
  ·rw [if_neg (by unfold EH;simp;omega),JU (a:=a) (b:=min (b - 1) hi + 1) (by omega),ih (a + 1) b (by omega) (by omega),JU (by omega)]
theorem um (lo hi:Int):∀ (n:Nat) (a b:Int),(b - a).toNat=n->a<=lo->(CK a b).filter (EH lo hi)=CK lo (min (b - 1) hi + 1):=by
 intro n;induction n with
 | zero=>
  intro a b h ha;rw [JU (a:=a) (by omega),JU (by omega)];rfl
 | succ n ih=>
  intro a b h ha;by_cases e:a=lo
  ·subst e;exact yS a hi _ a b rfl (Dx _)
  ·rw [Mx (by omega),Ep,if_neg (by unfold EH;simp;omega)];exact ih (a + 1) b (by omega) (by omega)
def Ba (hi ah:Int) (row:List Int):Int:=match row.getLast? with
 | none=>min hi ah
 | some m=>min (min hi ah) m
def By (lo hi ah:Nat->Int):Nat->List (List Int)
 | 0=>[[]]
 | n + 1=>(By lo hi ah n).flatMap λ row=>(CK (lo n) (Ba (hi n) (ah n) row + 1)).map λ x=>row++[x]
def DU (lo hi:Nat->Int) (n:Nat) (r:List Int):Bool:=(A6 n).all λ i=>EH (lo i) (hi i) (r.getD i 0)
theorem M0 (lo hi ah:Nat->Int):∀ (n:Nat) (r:List Int),r∈By lo hi ah n->r.length=n
 | 0,r,h=>by simp [By] at h;simp [h]
 | n + 1,r,h=>by
  rw [By,K4] at h;obtain ⟨q,h1,h2⟩:=h;obtain ⟨x,_,rfl⟩:=jd6.mp h2;simp [M0 lo hi ah n q h1]
def ug (lo hi:Nat->Int) (r:List Int) (x:Int):DU lo hi (r.length + 1) (r++[x])=(DU lo hi r.length r && EH (lo r.length) (hi r.length) x):=by
 unfold DU;rw [ED,YX];have e1:((A6 r.length).all λ i=>EH (lo i) (hi i) ((r++[x]).getD i 0))=(A6 r.length).all λ i=>EH (lo i) (hi i) (r.getD i 0):=by
  rw [DY,jb8,jb8];constructor
  ·intro h i hi'
   have:=h i hi'
   have hl:=jc4.mp hi';rwa [AR,C6 hl,<- AR] at this
  ·intro h i hi';have hl:=jc4.mp hi';rw [AR,C6 hl,<- AR];exact h i hi'
 rw [e1];simp [AR]
theorem PX {α β:Type} (p:α->Bool) (f g:α->List β):∀ (l:List α),(∀ a∈l,f a=if p a=true then g a else [])->l.flatMap f=(l.filter p).flatMap g
 | [],_=>rfl
 | a::l,h=>by
  rw [GL,PX p f g l λ b hb=>h b (AM _ hb),h a AL,Ep];split
  ·rw [GL]
  ·rfl
theorem w6 {hi hi' ah:Int} (h:hi<=hi') (row:List Int):min (Ba hi' ah row) hi=Ba hi ah row:=by
 unfold Ba;cases row.getLast? with
 | none=>simp only;omega
 | some m=>simp only;omega
theorem P9 {lo hi lo' hi' ah:Nat->Int} (hl:∀ i,lo' i<=lo i) (hh:∀ i,hi i<=hi' i):∀ (n:Nat),(By lo' hi' ah n).filter (DU lo hi n)=By lo hi ah n
 | 0=>rfl
 | n + 1=>by
  rw [By,By,<- P9 hl hh n,Zy];refine PX _ _ _ _ λ a ha=>?_;have la:=M0 _ _ _ n a ha;subst la;rw [Mc];have e:(DU lo hi (a.length + 1) ∘ λ x=>a++[x])=λ x=>DU lo hi a.length a && EH (lo a.length) (hi a.length) x:=by
   funext x;exact ug lo hi a x
  rw [e];cases DU lo hi a.length a with
  | false=>simp
  | true=>
   simp only [YS,if_true]
   have:=um (lo a.length) (hi a.length) _ (lo' a.length) (Ba (hi' a.length) (ah a.length) a + 1) rfl (hl _)
   rw [show (λ x=>EH (lo a.length) (hi a.length) x)=EH (lo a.length) (hi a.length) from rfl,this,Int.add_sub_cancel,w6 (hh _)]
def Ex (c:Int) (pile:List (List Int)):Nat->Int:=match pile.getLast? with
 | none=>λ _=>c
 | some r=>λ j=>r.getD j 0
def BP (lo hi:Nat->Nat->Int) (c:Int) (b:Nat):Nat->List (List (List Int))
 | 0=>[[]]
 | n + 1=>(BP lo hi c b n).flatMap λ pile=>(By (lo n) (hi n) (Ex c pile) b).map λ r=>pile++[r]
def GG (lo hi:Nat->Nat->Int) (b n:Nat) (p:List (List Int)):Bool:=(A6 n).all λ i=>DU (lo i) (hi i) b (p.getD i [])
theorem U0 (lo hi:Nat->Nat->Int) (c:Int) (b:Nat):∀ (n:Nat) (p:List (List Int)),p∈BP lo hi c b n->p.length=n
 | 0,r,h=>by simp [BP] at h;simp [h]
 | n + 1,r,h=>by
  rw [BP,K4] at h;obtain ⟨q,h1,h2⟩:=h;obtain ⟨x,_,rfl⟩:=jd6.mp h2;simp [U0 lo hi c b n q h1]
def uv (lo hi:Nat->Nat->Int) (b:Nat) (p:List (List Int)) (r:List Int):GG lo hi b (p.length + 1) (p++[r])=(GG lo hi b p.length p && DU (lo p.length) (hi p.length) b r):=by
 unfold GG;rw [ED,YX];have e1:((A6 p.length).all λ i=>DU (lo i) (hi i) b ((p++[r]).getD i []))=(A6 p.length).all λ i=>DU (lo i) (hi i) b (p.getD i []):=by
  rw [DY,jb8,jb8];constructor
  ·intro h i hi'
   have:=h i hi'
   have hl:=jc4.mp hi';rwa [AR,C6 hl,<- AR] at this
  ·intro h i hi';have hl:=jc4.mp hi';rw [AR,C6 hl,<- AR];exact h i hi'
 rw [e1];simp [AR]
theorem PD {lo hi lo' hi':Nat->Nat->Int}{c:Int}{b:Nat} (hl:∀ i j,lo' i j<=lo i j) (hh:∀ i j,hi i j<=hi' i j):∀ (n:Nat),(BP lo' hi' c b n).filter (GG lo hi b n)=BP lo hi c b n
 | 0=>rfl
 | n + 1=>by
  rw [BP,BP,<- PD hl hh n,Zy];refine PX _ _ _ _ λ a ha=>?_;have la:=U0 _ _ _ _ n a ha;subst la;rw [Mc];have e:(GG lo hi b (a.length + 1) ∘ λ x=>a++[x])=λ x=>GG lo hi b a.length a && DU (lo a.length) (hi a.length) b x:=by
   funext x;exact uv lo hi b a x
  rw [e];cases GG lo hi b a.length a with
  | false=>simp
  | true=>
   simp only [YS,if_true];rw [show (λ x=>DU (lo a.length) (hi a.length) b x)=DU (lo a.length) (hi a.length) b from rfl,P9 (hl _) (hh _)]
def Em (f:Nat->Int) (n:Nat):List Int:=(A6 n).map f
def Q1 (f:Nat->Int) (n:Nat):Em f (n + 1)=Em f n++[f n]:=by unfold Em;rw [ED,CN];rfl
theorem Ys {hi ah x:Int}{f:Nat->Int}{n:Nat} (h1:x<=hi) (h2:x<=ah) (h3:∀ m,m + 1=n->x<=f m):x<=Ba hi ah (Em f n):=by
 unfold Ba;cases n with
 | zero=>simp only [Em,List.range_zero,GI,Tt];omega
 | succ m=>
  rw [Q1,Z5];simp only [Z8,YU]
  have:=h3 m rfl
  omega
def yo {a b:Int} (h:a < b):∃ t,CK a b=t++[b - 1]:=by
 refine ⟨CK a (b - 1),?_⟩;unfold CK;rw [show (b - a).toNat=(b - 1 - a).toNat + 1 by omega,ED,CN];congr 1;simp only [Be,GI];congr 1;omega
theorem UW {lo hi ah:Nat->Int}:∀ (n:Nat),(∀ i,i < n->lo i<=hi i)->(∀ i,i < n->lo i<=ah i)->(∀ i,i + 1 < n->lo (i + 1)<=lo i)->∃ t,By lo hi ah n=Em lo n::t
 | 0,_,_,_=>⟨[],rfl⟩
 | n + 1,h1,h2,h3=>by
  obtain ⟨t,e⟩:=UW n (λ i hi=>h1 i (by omega)) (λ i hi=>h2 i (by omega)) (λ i hi=>h3 i (by omega));have hx:lo n<=Ba (hi n) (ah n) (Em lo n):=Ys (h1 n (by omega)) (h2 n (by omega)) λ m hm=>by subst hm;exact h3 m (by omega)
  rw [By,e,GL,Mx (by omega),Be,Fz,<- Q1];exact ⟨_,rfl⟩
theorem U1 {lo hi ah:Nat->Int}:∀ (n:Nat),(∀ i,i < n->lo i<=hi i)->(∀ i,i < n->hi i<=ah i)->(∀ i,i + 1 < n->hi (i + 1)<=hi i)->∃ t,By lo hi ah n=t++[Em hi n]
 | 0,_,_,_=>⟨[],rfl⟩
 | n + 1,h1,h2,h3=>by
  obtain ⟨t,e⟩:=U1 n (λ i hi=>h1 i (by omega)) (λ i hi=>h2 i (by omega)) (λ i hi=>h3 i (by omega));have hx:hi n<=Ba (hi n) (ah n) (Em hi n):=Ys (Dx _) (h2 n (by omega)) λ m hm=>by subst hm;exact h3 m (by omega)
  have hy:Ba (hi n) (ah n) (Em hi n)<=hi n:=by
   unfold Ba;split <;> omega
  have hz:Ba (hi n) (ah n) (Em hi n)=hi n:=by omega
  obtain ⟨u,eu⟩:=yo (a:=lo n) (b:=hi n + 1) (by have:=h1 n (by omega);omega);rw [By,e,K7,GL,Tp,GJ,hz,eu,CN,<- IC];rw [Q1,show hi n + 1 - 1=hi n by omega];exact ⟨_,rfl⟩
def PM {r:List Int}{n:Nat} (h:r.length=n + 1):r.getLast?=some (r.getD n 0):=by
 rw [ZD,h,Tw,AR,Ci (by omega)];rfl
def LI {r:List Int}{x:Int}{n j:Nat} (h:r.length=n):(r++[x]).getD j 0=if j=n then x else r.getD j 0:=by
 rw [AR,AR,Z4];by_cases hj:j < n
 ·rw [if_pos (by omega),if_neg (by omega)]
 ·rw [if_neg (by omega)];by_cases e:j=n
  ·rw [if_pos e,e,h,OK];rfl
  ·rw [if_neg e,FD (by simp;omega),FD (by omega)]
theorem Q5 {lo hi ah:Nat->Int}:∀ {n:Nat}{r:List Int},r∈By lo hi ah n->r.length=n/\(∀ j,j < n->lo j<=r.getD j 0/\r.getD j 0<=hi j/\r.getD j 0<=ah j)/\∀ j,j + 1 < n->r.getD (j + 1) 0<=r.getD j 0
 | 0,r,h=>by
  have e:r=[]:=by simpa [By] using h
  subst e;exact ⟨rfl,λ j h=>by omega,λ j h=>by omega⟩
 | n + 1,r,h=>by
  rw [By,K4] at h;obtain ⟨q,h1,h2⟩:=h;obtain ⟨x,hx,rfl⟩:=jd6.mp h2;obtain ⟨l,b,m⟩:=Q5 h1;obtain ⟨x1,x2⟩:=qcx.mp hx;have t1:Ba (hi n) (ah n) q<=hi n/\Ba (hi n) (ah n) q<=ah n/\(0 < n->Ba (hi n) (ah n) q<=q.getD (n - 1) 0):=by
   unfold Ba;cases n with
   | zero=>
    have e:q=[]:=je6.mp l;subst e;exact ⟨by show min _ _<=_;omega,by show min _ _<=_;omega,λ h=>by omega⟩
   | succ n=>
    rw [PM l];exact ⟨by show min (min _ _) _<=_;omega,by show min (min _ _) _<=_;omega,λ _=>by show min (min _ _) _<=_;rw [Tw];omega⟩
  refine ⟨by rw [BM,l];rfl,λ j hj=>?_,λ j hj=>?_⟩
  ·rw [LI l];by_cases e:j=n
   ·subst e;rw [if_pos rfl];omega
   ·rw [if_neg e];exact b j (by omega)
  ·rw [LI l,LI l,if_neg (show ¬ j=n by omega)];by_cases e:j + 1=n
   ·rw [if_pos e]
    have:=t1.2.2 (by omega)
    rw [show n - 1=j by omega] at this;omega
   ·rw [if_neg e];exact m j (by omega)
def RL {p:List (List Int)}{n:Nat} (h:p.length=n + 1):p.getLast?=some (p.getD n []):=by
 rw [ZD,h,Tw,AR,Ci (by omega)];rfl
def RM {p:List (List Int)}{r:List Int}{n i:Nat} (h:p.length=n):(p++[r]).getD i []=if i=n then r else p.getD i []:=by
 rw [AR,AR,Z4];by_cases hj:i < n
 ·rw [if_pos (by omega),if_neg (by omega)]
 ·rw [if_neg (by omega)];by_cases e:i=n
  ·rw [if_pos e,e,h,OK];rfl
  ·rw [if_neg e,FD (by simp;omega),FD (by omega)]
def LJ {p:List (List Int)}{r:List Int}{n i j:Nat} (h:p.length=n):g (p++[r]) i j=if i=n then r.getD j 0 else g p i j:=by
 unfold g;rw [RM h];split <;> rfl
theorem IL {lo hi:Nat->Nat->Int}{c:Int}{b:Nat}:∀ {n:Nat}{p:List (List Int)},p∈BP lo hi c b n->Tab n b p/\(∀ i j,i < n->j < b->lo i j<=g p i j/\g p i j<=hi i j/\g p i j<=c)/\(∀ i j,i + 1 < n->j < b->g p (i + 1) j<=g p i j)/\∀ i j,i < n->j + 1 < b->g p i (j + 1)<=g p i j
 | 0,p,h=>by
  have e:p=[]:=by simpa [BP] using h
  subst e;exact ⟨⟨rfl,λ _ z=>nomatch z⟩,λ i j h=>by omega,λ i j h=>by omega,λ i j h=>by omega⟩
 | n + 1,p,h=>by
  rw [BP,K4] at h;obtain ⟨q,h1,h2⟩:=h;obtain ⟨r,hr,rfl⟩:=jd6.mp h2;obtain ⟨tq,b1,d1,r1⟩:=IL h1;obtain ⟨l,b2,m2⟩:=Q5 hr;have ah:∀ j,j < b->Ex c q j<=c/\(0 < n->Ex c q j<=g q (n - 1) j):=λ j hj=>by
   unfold Ex;cases n with
   | zero=>
    have e:q=[]:=je6.mp tq.1;subst e;exact ⟨Dx _,λ h=>by omega⟩
   | succ n=>
    rw [RL tq.1];exact ⟨(b1 n j (by omega) hj).2.2,λ _=>Dx _⟩
  refine ⟨⟨by rw [BM,tq.1];rfl,λ s hs=>(jd4.mp hs).elim (λ z=>tq.2 s z) λ z=>by rw [jb6.mp z,l]⟩,λ i j hi' hj=>?_,λ i j hi' hj=>?_,λ i j hi' hj=>?_⟩
  ·rw [LJ tq.1];by_cases e:i=n
   ·subst e;rw [if_pos rfl];have h3:=b2 j hj;have h4:=ah j hj;omega
   ·rw [if_neg e];exact b1 i j (by omega) hj
  ·rw [LJ tq.1,LJ tq.1,if_neg (show ¬ i=n by omega)];by_cases e:i + 1=n
   ·rw [if_pos e];have h3:=b2 j hj;have h4:=(ah j hj).2 (by omega);rw [show n - 1=i by omega] at h4;omega
   ·rw [if_neg e];exact d1 i j (by omega) hj
  ·rw [LJ tq.1,LJ tq.1];by_cases e:i=n
   ·rw [if_pos e,if_pos e];exact m2 j hj
   ·rw [if_neg e,if_neg e];exact r1 i j (by omega) hj
def Uq {hi:Nat->Nat->Int}{c:Int}{a b:Nat}{lo:Nat->Nat->Int}{p:List (List Int)} (h0:∀ i j,0<=lo i j) (h:p∈BP lo hi c b a):Pile a b c p:=by
 obtain ⟨t,h1,h2,h3⟩:=IL h;exact ⟨t,λ i j hi hj=>Fy (h0 i j) (h1 i j hi hj).1,λ i j hi hj=>(h1 i j hi hj).2.2,h2,h3⟩
theorem Ur {lo hi ah lo' hi' ah':Nat->Int}:∀ (n:Nat),(∀ j,j < n->lo j=lo' j/\hi j=hi' j/\ah j=ah' j)->By lo hi ah n=By lo' hi' ah' n
 | 0,_=>rfl
 | n + 1,h=>by
  rw [By,By,Ur n λ j hj=>h j (by omega)];obtain ⟨e1,e2,e3⟩:=h n (by omega);rw [e1,e2,e3]
theorem Uv {α β:Type}{f:α->List β}{m:Nat}:∀ (l:List α),(∀ a∈l,(f a).length<=m)->(l.flatMap f).length<=l.length * m
 | [],_=>by simp
 | a::l,h=>by
  rw [GL,BM,Bw,Te,YH];have h1:=h a AL;have h2:=Uv l λ x hx=>h x (AM _ hx);omega
def vF (a b:Int):(CK a b).length=(b - a).toNat:=by unfold CK;rw [AG,Gh]
def kL (hi ah:Int) (row:List Int):Ba hi ah row<=hi:=by
 unfold Ba;split <;> omega
theorem Yb {lo hi ah:Nat->Int}{m:Nat}:∀ (n:Nat),(∀ j,j < n->hi j - lo j + 1<=m)->(By lo hi ah n).length<=m ^ n
 | 0,_=>by simp [By]
 | n + 1,h=>by
  rw [By];refine BZ (Uv (m:=m) _ λ r hr=>?_) ?_
  ·rw [AG,vF]
   have:=kL (hi n) (ah n) r
   have:=h n (by omega)
   omega
  ·rw [LV];exact Gi m (Yb n λ j hj=>h j (by omega))
def Qs (a b:Nat) (f:Nat->Nat->Int):CG (a + 1) b f=CG a b f++[Em (f a) b]:=by
 unfold CG Em;rw [ED,CN];rfl
theorem Y0 {c:Int}{b n j:Nat}{f:Nat->Nat->Int}{x:Int} (hj:j < b) (h0:x<=c) (h1:∀ m,m + 1=n->x<=f m j):x<=Ex c (CG n b f) j:=by
 unfold Ex;cases n with
 | zero=>exact h0
 | succ m=>
  rw [Qs,Z5];simp only [Z8,YU];show x<=(Em (f m) b).getD j 0;unfold Em;rw [Xl hj];exact h1 m rfl
theorem PY {lo hi:Nat->Nat->Int}{c:Int}{b:Nat}:∀ (n:Nat),(∀ i j,i < n->j < b->lo i j<=hi i j)->(∀ i j,i < n->j < b->lo i j<=c)->(∀ i j,i + 1 < n->j < b->lo (i + 1) j<=lo i j)->(∀ i j,i < n->j + 1 < b->lo i (j + 1)<=lo i j)->∃ t,BP lo hi c b n=CG n b lo::t
 | 0,_,_,_,_=>⟨[],rfl⟩
 | n + 1,h1,h2,h3,h4=>by
  obtain ⟨t,e⟩:=PY n (λ i j hi hj=>h1 i j (by omega) hj) (λ i j hi hj=>h2 i j (by omega) hj) (λ i j hi hj=>h3 i j (by omega) hj) (λ i j hi hj=>h4 i j (by omega) hj);obtain ⟨u,eu⟩:=UW (lo:=lo n) (hi:=hi n) (ah:=Ex c (CG n b lo)) b (λ j hj=>h1 n j (by omega) hj) (λ j hj=>Y0 hj (h2 n j (by omega) hj) λ m hm=>by subst hm;exact h3 m j (by omega) hj) (λ j hj=>h4 n j (by omega) hj);rw [BP,e,GL,eu,Be,Fz,<- Qs];exact ⟨_,rfl⟩
theorem Up {lo hi:Nat->Nat->Int}{c:Int}{b:Nat}:∀ (n:Nat),(∀ i j,i < n->j < b->lo i j<=hi i j)->(∀ i j,i < n->j < b->hi i j<=c)->(∀ i j,i + 1 < n->j < b->hi (i + 1) j<=hi i j)->(∀ i j,i < n->j + 1 < b->hi i (j + 1)<=hi i j)->∃ t,BP lo hi c b n=t++[CG n b hi]
 | 0,_,_,_,_=>⟨[],rfl⟩
 | n + 1,h1,h2,h3,h4=>by
  obtain ⟨t,e⟩:=Up n (λ i j hi hj=>h1 i j (by omega) hj) (λ i j hi hj=>h2 i j (by omega) hj) (λ i j hi hj=>h3 i j (by omega) hj) (λ i j hi hj=>h4 i j (by omega) hj);obtain ⟨u,eu⟩:=U1 (lo:=lo n) (hi:=hi n) (ah:=Ex c (CG n b hi)) b (λ j hj=>h1 n j (by omega) hj) (λ j hj=>Y0 hj (h2 n j (by omega) hj) λ m hm=>by subst hm;exact h3 m j (by omega) hj) (λ j hj=>h4 n j (by omega) hj);rw [BP,e,K7,GL,Tp,GJ,eu,CN,<- IC,Qs];exact ⟨_,rfl⟩
def Dw:List Int->List Int->Bool
 | [],[]=>false
 | [],_::_=>true
 | _::_,[]=>false
 | x::xs,y::ys=>decide (x < y) || (decide (x=y) && Dw xs ys)
theorem SG:∀ r:List Int,Dw r r=false
 | []=>rfl
 | x::r=>by simp [Dw,SG r]
theorem Yp:∀ {r q:List Int},Dw r q=true->Dw q r=false
 | [],[],h=>by cases h
 | [],_::_,_=>rfl
 | _::_,[],h=>by cases h
 | x::r,y::q,h=>by
  simp only [Dw,Gd,Bc,decide_eq_true_iff] at h;rcases h with h | ⟨h,h2⟩
  ·simp only [Dw,Bool.or_eq_false_iff,Bool.and_eq_false_iff,decide_eq_false_iff_not];exact ⟨by omega,.inl (by omega)⟩
  ·subst h;simp [Dw,Yp h2]
theorem XG:∀ {r q:List Int} (x y:Int),r.length=q.length->Dw r q=true->Dw (r++[x]) (q++[y])=true
 | [],[],_,_,_,h=>by cases h
 | [],_::_,_,_,e,_=>by cases e
 | _::_,[],_,_,e,_=>by cases e
 | a::r,b::q,x,y,e,h=>by
  simp only [Dw,Gd,Bc,decide_eq_true_iff,Fz] at h ⊢;rcases h with h | ⟨h,h2⟩
  ·exact .inl h
  ·exact .inr ⟨h,XG x y (by simpa using e) h2⟩
theorem Yq:∀ (r:List Int) {x y:Int},x < y->Dw (r++[x]) (r++[y])=true
 | [],x,y,h=>by simp [Dw,h]
 | a::r,x,y,h=>by simp [Dw,Yq r h]
def jQ (a:Int):∀ (n:Nat) (b:Int),(b - a).toNat=n->(CK a b).Pairwise (·< ·):=by
 intro n b _;unfold CK;rw [Zl];refine List.Pairwise.imp (λ {i j} h=>?_) List.pairwise_lt_range;show a + (i:Int) < a + (j:Int);omega
theorem Yc {lo hi ah:Nat->Int}:∀ (n:Nat),(By lo hi ah n).Pairwise λ r q=>Dw r q=true
 | 0=>by simp [By]
 | n + 1=>by
  rw [By,List.pairwise_flatMap];refine ⟨λ r hr=>?_,?_⟩
  ·rw [Zl];exact List.Pairwise.imp (λ {x y} h=>Yq r h) (jQ _ _ _ rfl)
  ·refine List.Pairwise.imp_of_mem (λ {r q} hr hq h u hu v hv=>?_) (Yc n);obtain ⟨x,_,rfl⟩:=jd6.mp hu;obtain ⟨y,_,rfl⟩:=jd6.mp hv;exact XG x y (by rw [M0 _ _ _ n r hr,M0 _ _ _ n q hq]) h
theorem UM {lo hi ah:Nat->Int}:∀ {n:Nat}{r:List Int},r.length=n->(∀ j,j < n->lo j<=r.getD j 0/\r.getD j 0<=hi j/\r.getD j 0<=ah j)->(∀ j,j + 1 < n->r.getD (j + 1) 0<=r.getD j 0)->r∈By lo hi ah n
 | 0,r,h,_,_=>by rw [je6.mp h];simp [By]
 | n + 1,r,h,h1,h2=>by
  have hn:r≠[]:=λ e=>by rw [e] at h;cases h
  obtain ⟨q,x,rfl⟩:∃ q x,r=q++[x]:=⟨r.dropLast,r.getLast hn,(List.dropLast_concat_getLast hn).symm⟩
  have hq:q.length=n:=by simpa using h
  have g1:∀ j,j < n->(q++[x]).getD j 0=q.getD j 0:=λ j hj=>by rw [LI hq,if_neg (by omega)]
  have g2:(q++[x]).getD n 0=x:=by rw [LI hq,if_pos rfl]
  have mq:q∈By lo hi ah n:=UM hq (λ j hj=>by have:=h1 j (by omega);rwa [g1 j hj] at this) (λ j hj=>by have:=h2 j (by omega);rwa [g1 j (by omega),g1 (j + 1) (by omega)] at this);rw [By,K4];refine ⟨q,mq,jd6.mpr ⟨x,qcx.mpr ⟨?_,?_⟩,rfl⟩⟩
  ·have:=(h1 n (by omega)).1;rwa [g2] at this
  ·have a1:=(h1 n (by omega)).2;rw [g2] at a1;unfold Ba;cases n with
   | zero=>rw [je6.mp hq];simp only [Tt];omega
   | succ m=>
    have a2:=h2 m (by omega);rw [g2,g1 m (by omega)] at a2;rw [PM hq];simp only;omega
def AB (b:Nat) (c:Int):List (List Int):=By (λ _=>0) (λ _=>c) (λ _=>c) b
structure RowB (b:Nat) (c:Int) (r:List Int):Prop where
 len:r.length=b
 lo:∀ j,j < b->0<=r.getD j 0
 hi:∀ j,j < b->r.getD j 0<=c
 nr:∀ j,j + 1 < b->r.getD (j + 1) 0<=r.getD j 0
def zxb {b:Nat}{c:Int}{r:List Int}:r∈AB b c↔RowB b c r:=by
 constructor
 ·intro h;obtain ⟨h1,h2,h3⟩:=Q5 h;exact ⟨h1,λ j hj=>(h2 j hj).1,λ j hj=>(h2 j hj).2.1,h3⟩
 ·intro h;exact UM h.len (λ j hj=>⟨h.lo j hj,h.hi j hj,h.hi j hj⟩) h.nr
def XZ (b:Nat) (c:Int):(AB b c).Pairwise λ r q=>Dw r q=true:=Yc b
def JY (b:Nat) (c:Int):(AB b c).Nodup:=List.Pairwise.imp (λ {r q} h e=>by rw [e,SG] at h;cases h) (XZ b c)
def As:List Int->List Int->List Int
 | [],ys=>ys
 | x::xs,[]=>x::xs
 | x::xs,y::ys=>(x + y)::As xs ys
theorem FH:∀ xs:List Int,As xs []=xs
 | []=>rfl
 | _::_=>rfl
theorem Ld:∀ xs ys:List Int,As xs ys=As ys xs
 | [],ys=>by rw [FH];rfl
 | x::xs,[]=>rfl
 | x::xs,y::ys=>by rw [As,As,Ld xs ys,Int.add_comm]
theorem KQ:∀ xs ys zs:List Int,As (As xs ys) zs=As xs (As ys zs)
 | [],ys,zs=>rfl
 | x::xs,[],zs=>rfl
 | x::xs,y::ys,[]=>rfl
 | x::xs,y::ys,z::zs=>by simp only [As];rw [KQ xs ys zs,Int.add_assoc]
theorem Qi:∀ xs ys:List Int,(As xs ys).length=max xs.length ys.length
 | [],ys=>by simp [As]
 | x::xs,[]=>by simp [As]
 | x::xs,y::ys=>by simp only [As,Bw,Qi xs ys];omega
theorem Qk:∀ xs ys:List Int,(As xs ys).sum=xs.sum + ys.sum
 | [],ys=>by simp [As]
 | x::xs,[]=>by simp [As]
 | x::xs,y::ys=>by simp only [As,D9,Qk xs ys];omega
def sumT (f:List Int->List Int) (l:List (List Int)):List Int:=l.foldr (λ r s=>As (f r) s) []
def Ia {f:List Int->List Int}{r:List Int}{l:List (List Int)}:sumT f (r::l)=As (f r) (sumT f l):=rfl
theorem U3 {f:List Int->List Int}{p q s:List Int->Bool}:∀ (l:List (List Int)),(∀ r∈l,s r=(p r || q r))->(∀ r∈l,p r=true->q r=false)->sumT f (l.filter s)=As (sumT f (l.filter p)) (sumT f (l.filter q))
 | [],_,_=>rfl
 | r::l,h,d=>by
  have ih:=U3 (f:=f) l (λ a ha=>h a (AM _ ha)) (λ a ha=>d a (AM _ ha));have hs:=h r AL;have hd:=d r AL;rw [Ep,Ep,Ep,hs];cases hp:p r with
  | true=>
   rw [hd hp];simp only [Th,if_true,GN,if_false,Ia,ih,KQ]
  | false=>
   cases hq:q r with
   | true=>
    simp only [Bool.or_true,if_true,GN,if_false,Ia,ih];rw [<- KQ,<- KQ,Ld (f r)]
   | false=>simp only [Th,GN,if_false,ih]
theorem Yh {f:List Int->List Int}{p:List Int->Bool}{r:List Int}:∀ {l:List (List Int)},l.Nodup->r∈l->(∀ q∈l,p q=decide (q=r))->sumT f (l.filter p)=f r
 | [],_,h,_=>by cases h
 | a::l,nd,h,hp=>by
  rw [ji6] at nd;rw [Ep,hp a AL];by_cases e:a=r
  ·subst e
   have:l.filter p=[]:=by
    rw [ji3];intro q hq;rw [hp q (AM _ hq),decide_eq_true_iff];rintro rfl;exact nd.1 hq
   rw [decide_eq_true rfl,if_pos rfl,this,Ia];exact FH _
  ·rw [decide_eq_false e,if_neg (by simp)];rcases jb4.mp h with h | h
   ·exact absurd h.symm e
   ·exact Yh nd.2 h λ q hq=>hp q (AM _ hq)
def Jt (b j:Nat) (r q:List Int):Bool:=(A6 b).all λ i=>if i < j then decide (q.getD i 0<=r.getD i 0) else decide (q.getD i 0=r.getD i 0)
def HY {b j:Nat}{r q:List Int}:Jt b j r q=true↔∀ i,i < b->(i < j->q.getD i 0<=r.getD i 0)/\(j<=i->q.getD i 0=r.getD i 0):=by
 unfold Jt;rw [jb8];constructor
 ·intro h i hi
  have:=h i (jc4.mpr hi)
  by_cases e:i < j
  ·rw [if_pos e,decide_eq_true_iff] at this;exact ⟨λ _=>this,λ e'=>absurd e (by omega)⟩
  ·rw [if_neg e,decide_eq_true_iff] at this;exact ⟨λ e'=>absurd e' e,λ _=>this⟩
 ·intro h i hi
  have:=h i (jc4.mp hi)
  by_cases e:i < j
  ·rw [if_pos e,decide_eq_true_iff];exact this.1 e
  ·rw [if_neg e,decide_eq_true_iff];exact this.2 (by omega)
def Bk (b:Nat) (c:Int) (f:List Int->List Int) (j:Nat) (r:List Int):List Int:=sumT f ((AB b c).filter (Jt b j r))
def Bv (r:List Int) (j:Nat):List Int:=r.take j++[r.getD j 0 - 1]++r.drop (j + 1)
def vM {r:List Int}{j:Nat} (h:j < r.length):(Bv r j).length=r.length:=by
 unfold Bv;simp;omega
def IQ {r:List Int}{j i:Nat} (h:j < r.length):(Bv r j).getD i 0=if i=j then r.getD j 0 - 1 else r.getD i 0:=by
 unfold Bv;simp only [AR,IC];by_cases h1:i < j
 ·rw [C6 (by simp;omega),if_neg (by omega),K9 h1]
 ·rw [Gj (by simp;omega)];have hl:(r.take j).length=j:=by simp;omega
  rw [hl];by_cases h2:i=j
  ·subst h2;simp
  ·rw [if_neg h2,show i - j=(i - j - 1) + 1 by omega,List.singleton_append,IE,List.getElem?_drop];congr 2;omega
theorem SF:∀ {r:List Int}{j:Nat},j < r.length->Dw (Bv r j) r=true
 | [],_,h=>by cases h
 | x::r,0,_=>by simp [Bv,Dw];omega
 | x::r,j + 1,h=>by
  have ih:=SF (r:=r) (j:=j) (by simpa using h);unfold Bv at ih ⊢;simp [Dw] at ih ⊢;exact ih
def jz {r q:List Int}{b:Nat} (h1:r.length=b) (h2:q.length=b) (h:∀ i,i < b->q.getD i 0=r.getD i 0):q=r:=by
 apply Tq (by omega);intro i hi hi'
 have:=h i (by omega)
 rw [AR,AR,Ci hi,Ci hi'] at this;simpa using this
def yU {b:Nat}{c:Int}{f:List Int->List Int}{r:List Int} (h:r∈AB b c):Bk b c f 0 r=f r:=by
 unfold Bk;refine Yh (JY b c) h λ q hq=>?_;rw [DY,HY,decide_eq_true_iff];have h1:=zxb.mp h;have h2:=zxb.mp hq;constructor
 ·intro e;exact jz h1.len h2.len λ i hi=>(e i hi).2 (by omega)
 ·rintro rfl i _;exact ⟨λ z=>absurd z (by omega),λ _=>rfl⟩
def UP {b:Nat}{c:Int}{f:List Int->List Int}{r:List Int}{j:Nat} (h:r∈AB b c) (hj:j < b):Bk b c f (j + 1) r=if Bv r j∈AB b c then As (Bk b c f j r) (Bk b c f (j + 1) (Bv r j)) else Bk b c f j r:=by
 have h1:=zxb.mp h;have hl:j < r.length:=by rw [h1.len];exact hj
 split
 ·rename_i hm;unfold Bk;refine U3 _ (λ q hq=>?_) (λ q hq=>?_)
  ·have h2:=zxb.mp hq;rw [DY,Gd,HY,HY,HY];constructor
   ·intro e;by_cases ej:q.getD j 0=r.getD j 0
    ·refine .inl λ i hi=>⟨λ z=>(e i hi).1 (by omega),λ z=>?_⟩
     by_cases ei:i=j
     ·subst ei;exact ej
     ·exact (e i hi).2 (by omega)
    ·refine .inr λ i hi=>?_;rw [IQ hl];refine ⟨λ z=>?_,λ z=>?_⟩
     ·have:=(e i hi).1 z
      split
      ·rename_i e';subst e';omega
      ·exact this
     ·rw [if_neg (by omega)];exact (e i hi).2 z
   ·rintro (e | e) i hi
    ·refine ⟨λ z=>?_,λ z=>(e i hi).2 (by omega)⟩;by_cases ei:i < j
     ·exact (e i hi).1 ei
     ·exact YM ((e i hi).2 (by omega))
    ·have e':=e i hi;rw [IQ hl] at e';refine ⟨λ z=>?_,λ z=>?_⟩
     ·have:=e'.1 z
      split at this
      ·rename_i e2;subst e2;omega
      ·exact this
     ·have:=e'.2 z
      rwa [if_neg (by omega)] at this
  ·intro e;rw [Zm];intro e2;rw [HY] at e e2;have a1:=(e j hj).2 (AA _);have a2:=(e2 j hj).1 (by omega);rw [IQ hl,if_pos rfl] at a2;omega
 ·rename_i hm;unfold Bk;congr 1;apply K5;intro q hq;have h2:=zxb.mp hq;rw [DY,HY,HY];constructor
  ·intro e i hi;refine ⟨λ z=>(e i hi).1 (by omega),λ z=>?_⟩;by_cases ei:i=j
   ·subst ei;have a1:=(e i hi).1 (by omega);by_cases ej:q.getD i 0=r.getD i 0
    ·exact ej
    ·refine absurd (zxb.mpr ⟨by rw [vM hl,h1.len],λ k hk=>?_,λ k hk=>?_,λ k hk=>?_⟩) hm
     ·rw [IQ hl]
      have:=h2.lo i hi
      have:=h1.lo k hk
      split <;> omega
     ·rw [IQ hl]
      have:=h1.hi k hk
      split
      ·rename_i e';subst e';omega
      ·exact this
     ·rw [IQ hl,IQ hl];have b1:=h1.nr k hk;by_cases c1:k + 1=i
      ·rw [if_pos c1,if_neg (by omega)];subst c1;omega
      ·rw [if_neg c1];by_cases c2:k=i
       ·rw [if_pos c2];subst c2;have b2:=h2.nr k hk;have b3:=(e (k + 1) hk).2 (by omega);omega
       ·rw [if_neg c2];exact b1
   ·exact (e i hi).2 (by omega)
  ·intro e i hi;refine ⟨λ z=>?_,λ z=>(e i hi).2 (by omega)⟩;by_cases ei:i < j
   ·exact (e i hi).1 ei
   ·exact YM ((e i hi).2 (by omega))
def SX (b:Nat) (q r:List Int):Bool:=(A6 b).all λ i=>decide (q.getD i 0<=r.getD i 0)
def jT {b:Nat}{r q:List Int}:SX b q r=true↔∀ i,i < b->q.getD i 0<=r.getD i 0:=by
 unfold SX;rw [jb8];exact ⟨λ h i hi=>by simpa using h i (jc4.mpr hi),λ h i hi=>by simpa using h i (jc4.mp hi)⟩
def Dt (b:Nat) (c:Int) (f:List Int->List Int) (r:List Int):List Int:=sumT f ((AB b c).filter λ q=>SX b q r)
def wQ {b:Nat}{c:Int}{f:List Int->List Int}{r:List Int}:Bk b c f b r=Dt b c f r:=by
 unfold Bk Dt;congr 1;apply K5;intro q _;rw [DY,HY,jT];exact ⟨λ h i hi=>(h i hi).1 hi,λ h i hi=>⟨λ _=>h i hi,λ z=>absurd z (by omega)⟩⟩
theorem Qw (v:Int):∀ n:Nat,Eo n [.int v]=(AK n v).map PV.int
 | 0=>rfl
 | n + 1=>by
  show [PV.int v]++Eo n [.int v]=_;rw [Qw v n];rfl
def xS {f g:Fx}{ρ ρ1 ρ2:Af}{v:Int}{n:Nat}{d e:Nat} (h1:f ρ=.ok (.lst [.int v],d,ρ1)) (h2:g ρ1=.ok (.int (n:Int),e,ρ2)) (hn:n<=1000):Ab BD f g ρ=.ok (il (AK n v),om,ρ2):=by
 refine Cy h1 h2 ?_;have z:=sz;unfold BD;dsimp only;rw [if_pos ⟨by omega,by omega,by rw [EF,Dy];omega⟩,Dy,Qw,LM];rfl
def VR {f g:Fx}{ρ ρ1 ρ2:Af}{xs ys:List Int}{d e:Nat} (h1:f ρ=.ok (il xs,d,ρ1)) (h2:g ρ1=.ok (il ys,e,ρ2)) (hl:xs.length + ys.length<=1000000):Ab Bs f g ρ=.ok (il (xs++ys),om,ρ2):=by
 have:=SN h1 h2 (by rw [AG,AG];exact BZ hl sz)
 rw [this,<- CN,LM];rfl
def Xm {f g:Fx}{ρ ρ1 ρ2:Af}{k:Int}{d e:Nat} (h1:f ρ=.ok (.lst [.int 0],d,ρ1)) (h2:g ρ1=.ok (.int k,e,ρ2)) (hk:-1000000<=k/\k<=1000000):Ab BD f g ρ=.ok (il (AK k.toNat 0),om,ρ2):=by
 refine Cy h1 h2 ?_;have z:=sz;unfold BD;dsimp only;rw [if_pos ⟨by omega,by omega,by rw [EF];omega⟩,Qw,LM];rfl
def jw {i:Nat}{fj f:Fx}{ρ ρ2:Af}{xs:List Int}{w:Int}{j d d1 d2:Nat} (hx:ρ[i]?=some (some (il xs,d))) (hd:d≠0) (hj:fj ρ=.ok (.int (j:Int),d1,ρ)) (hf:f ρ=.ok (.int w,d2,ρ)) (hl:j < xs.length) (e:ρ.set i (some (il (xs.set j (xs.getD j 0 + w)),d))=ρ2):Jp (λ i j=>i + j) i fj f ρ=.nx ρ2:=by
 unfold Jp;rw [hx,hj];show (match f ρ with | .ok (.int w,_,ρ2)=>_ | _=>Rs.no)=_;rw [hf];dsimp only;have e1:DO (xs.map PV.int).length (j:Int)=some j:=by
  unfold DO;rw [if_pos (by omega),AG,if_pos (by omega),Dy]
 rw [e1];dsimp only;have e2:(xs.map PV.int)[j]?=some (.int (xs.getD j 0)):=by
  rw [CI,AR,Ci hl];rfl
 rw [e2];dsimp only;rw [if_pos hd,<- e,il,List.map_set]
theorem Yz:∀ (t p:List Int) (y:Int),p.length < t.length->As t (p++[y])=(As t p).set p.length ((As t p).getD p.length 0 + y)
 | [],p,y,h=>by simp at h
 | a::t,[],y,h=>by simp [As,FH]
 | a::t,b::p,y,h=>by
  have:=Yz t p y (by simpa using h)
  simp only [Fz,As,Bw,Tx,List.getD_cons_succ];rw [this]
theorem Qj:∀ (xs ys:List Int),As (xs++AK (ys.length - xs.length) 0) ys=As xs ys
 | [],[]=>rfl
 | [],y::ys=>by
  have:=Qj [] ys
  simp only [EW,YZ,OJ,Bw,FC,As,Ga] at this ⊢;rw [this]
 | x::xs,[]=>by simp [As]
 | x::xs,y::ys=>by
  have:=Qj xs ys
  simp only [Fz,Bw,Nat.add_sub_add_right,As];rw [this]
def X2 {xs ys:List Int} (hx:xs.length<=1000) (hy:ys.length<=1000):f_added [il xs,il ys]=.ok (il (As xs ys),om,.non):=by
 let L (t:List Int) (s3 s4:QQ.Slot):Af:=[some (il xs,0),some (il ys,0),some (il t,om),s3,s4]
 let base:=xs++AK (ys.length - xs.length) 0;have hbl:ys.length<=base.length:=by simp [base];omega
 have v1:Aj false 2 (Ab Bs (Am JM (Ae (Aa 0) (Ac))) (Ab BD pe1 (Ab FG pb6 pb0))) [0,1,0] [some (il xs,0),some (il ys,0),none,none,none]=.nx (L base none none):=by
  have e1:=Xm (f:=Am BB (Ae (bC (.int 0)) (Ac))) (ρ:=[some (il xs,0),some (il ys,0),none,none,none]) (d:=om) rfl (JQ (OE (xs:=ys) (fa:=Ae (Aa 1) Ac) (d:=0) rfl) (OE (xs:=xs) (fa:=Ae (Aa 0) Ac) (d:=0) rfl)) (by omega);rw [show ((ys.length:Int) - (xs.length:Int)).toNat=ys.length - xs.length by omega] at e1;exact Bm (VR (j5 (f:=Aa 0) (xs:=xs) (d:=0) rfl) e1 (by rw [Es];omega)) (show 2 < 5 by decide) rfl
 obtain ⟨ρ',v2,s3,s4,rfl⟩:=wc (v:=.enm) (fa:=Ae (Aa 1) Ac) (vs:=[1]) (asg:=asgT [3,4]) (body:=Jp (λ i j=>i + j) 2 (Aa 3) (Aa 4)) (ρ:=L base none none) (ρ1:=L base none none) (ρ2:=L base none none) (xs:=[(il ys,0)]) (els:=DT 0 (ys.map PV.int)) (λ j ρ=>∃ s3 s4,ρ=L (As base (ys.take j)) s3 s4) rfl rfl rfl ⟨none,none,by rw [OQ,FH]⟩ (by
  rintro j x _ hx ⟨s3,s4,rfl⟩;rw [PL,CI] at hx;cases ey:ys[j]? with
  | none=>rw [ey] at hx;cases hx
  | some y=>
   rw [ey] at hx;obtain rfl:PV.tup [.int ((0 + j:Nat):Int),.int y]=x:=Option.some.inj hx;have hj:j < ys.length:=(jb0.mp ey).1;have ht:ys.take (j + 1)=ys.take j++[y]:=by rw [List.take_add_one,ey];rfl
   have hl:(ys.take j).length=j:=by rw [Gg];omega
   refine ⟨L (As base (ys.take j)) (some (.int ((0 + j:Nat):Int),om)) (some (.int y,om)),L (As base (ys.take (j + 1))) (some (.int ((0 + j:Nat):Int),om)) (some (.int y,om)),rfl,?_,_,_,rfl⟩;refine jw (xs:=As base (ys.take j)) (w:=y) (j:=j) (d:=om) (d1:=om) (d2:=om) rfl (by decide) (by rw [HB];rfl) rfl (by rw [Qi];omega) ?_;rw [ht,Yz base (ys.take j) y (by rw [hl];omega),hl]
   rfl)
 rw [enumL_len,AG,List.take_length,show As base ys=As xs ys from Qj xs ys] at v2;exact BU rfl ((AV v1).trans ((AV v2).trans rfl))
def AI (r:List Int):List Ay:=r.map Sum.inl
def Al (r:List Int):PV:=.tup (r.map PV.int)
def w8 (r:List Int):C4 (AI r)=Al r:=by
 unfold C4 AI Al;rw [CH];rfl
theorem JW:∀ r:List Int,Cq (r.map PV.int)=some (AI r)
 | []=>rfl
 | x::r=>by rw [Be,Cq,JW r];rfl
theorem MV:∀ {r q:List Int},AI r=AI q->r=q
 | [],[],_=>rfl
 | [],_::_,h=>by cases h
 | _::_,[],h=>by cases h
 | x::r,y::q,h=>by
  have h1:(Sum.inl x:Ay)::AI r=Sum.inl y::AI q:=h;injection h1 with h2 h3
  injection h2 with h2
  rw [h2,MV h3]
def An (R:List (List Int)) (f:List Int->List Int):PV:=.dcl (R.map AI) (R.map λ r=>il (f r))
theorem SE {h:List Int->PV}{r:List Int}:∀ {R:List (List Int)},EV (R.map AI) (R.map h) (AI r)=if r∈R then some (h r) else none
 | []=>rfl
 | q::R=>by
  rw [Be,Be,EV];by_cases e:q=r
  ·subst e;rw [if_pos rfl,if_pos AL]
  ·rw [if_neg λ z=>e (MV z),SE]
   have:r∈q::R↔r∈R:=by rw [jb4];exact ⟨λ z=>z.resolve_left λ z=>e z.symm,.inr⟩
   simp only [this]
theorem UB {h:List Int->PV}{r:List Int}{y:PV}:∀ {R:List (List Int)},Hk (AI r) y (R.map AI) (R.map h)=R.map λ q=>if q=r then y else h q
 | []=>rfl
 | q::R=>by
  rw [Be,Be,Hk,UB,Be];congr 1;by_cases e:q=r
  ·subst e;rw [if_pos rfl,if_pos rfl]
  ·rw [if_neg λ z=>e (MV z),if_neg e]
def XF {r:List Int}{R:List (List Int)}:EZ (R.map AI) (AI r)=decide (r∈R):=by
 unfold EZ;rw [List.any_map,DY,List.any_eq_true,decide_eq_true_iff];constructor
 ·rintro ⟨q,hq,e⟩
  have:AI q=AI r:=by simpa using e
  rw [<- MV this];exact hq
 ·intro h;exact ⟨r,h,by simp⟩
def SA {f g:Fx}{ρ ρ1 ρ2:Af}{R:List (List Int)}{h:List Int->List Int}{r:List Int}{d e:Nat} (h1:f ρ=.ok (An R h,d,ρ1)) (h2:g ρ1=.ok (Al r,e,ρ2)) (hr:r∈R):Ab A5 f g ρ=.ok (il (h r),0,ρ2):=by
 refine Cy h1 h2 ?_;show (match Cq (r.map PV.int) with | some k=>(EV (R.map AI) (R.map λ r=>il (h r)) k).map λ z=>(z,dv z) | none=>none)=_;rw [JW];dsimp only;rw [SE (h:=λ r=>il (h r)),if_pos hr];rfl
def x8 {f g:Fx}{ρ ρ1 ρ2:Af}{R:List (List Int)}{h:List Int->List Int}{r:List Int}{d e:Nat} (h1:f ρ=.ok (Al r,d,ρ1)) (h2:g ρ1=.ok (An R h,e,ρ2)):Ab (DI false) f g ρ=.ok (.bl (decide (r∈R)),om,ρ2):=by
 refine Cy h1 h2 ?_;show (Cq (r.map PV.int)).map (λ k=>(PV.bl (false^^(EV (R.map AI) (R.map λ r=>il (h r)) k).isSome),om))=_;rw [JW];show some (PV.bl (false^^(EV (R.map AI) (R.map λ r=>il (h r)) (AI r)).isSome),om)=_;rw [SE (h:=λ r=>il (h r)),LZ];by_cases e:r∈R
 ·rw [if_pos e,decide_eq_true e];rfl
 ·rw [if_neg e,decide_eq_false e];rfl
def U4 {R:List (List Int)}{f h:List Int->List Int} (e:∀ r∈R,f r=h r):An R f=An R h:=by
 unfold An;congr 1;exact EE λ r hr=>by rw [e r hr]
def kK {i:Nat}{fk f:Fx}{ρ ρ1 ρ2:Af}{R:List (List Int)}{h:List Int->List Int}{r:List Int}{y:List Int}{d e:Nat} (hf:f ρ=.ok (il y,om,ρ1)) (hx:ρ1[i]?=some (some (An R h,d))) (hd:d≠0) (hk:fk ρ1=.ok (Al r,e,ρ1)) (hr:r∈R) (hl:R.length < 1000000) (e2:ρ1.set i (some (An R (λ q=>if q=r then y else h q),1))=ρ2):Ew i fk f ρ=.nx ρ2:=by
 have z:=sz;unfold Ew;rw [hf];dsimp only;rw [hx];dsimp only;rw [hk];dsimp only;rw [hx];show (match Cq (r.map PV.int) with | some kk=>if d≠0/\om=om/\(R.map AI).length < Az then Rs.nx (ρ1.set i (some (Hh (R.map AI) (R.map λ r=>il (h r)) kk (il y),1))) else .no | none=>.no)=_;rw [JW];dsimp only;rw [if_pos ⟨hd,rfl,by rw [AG];omega⟩,<- e2];unfold Hh;rw [XF,decide_eq_true hr,if_pos rfl,UB (h:=λ r=>il (h r))];unfold An;congr 5;refine EE λ q _=>?_;dsimp only;split <;> rfl
def SJ {i:Nat}{fk f:Fx}{ρ ρ1 ρ2:Af}{R:List (List Int)}{h:List Int->List Int}{r:List Int}{y:List Int}{d e:Nat}{x:PV} (hf:f ρ=.ok (il y,om,ρ1)) (hx:ρ1[i]?=some (some (x,d))) (hxe:x=An R h\/(x=.dct []/\R=[])) (hd:d≠0) (hk:fk ρ1=.ok (Al r,e,ρ1)) (hr:r∉R) (hy:h r=y) (hl:R.length < 1000000) (e2:ρ1.set i (some (An (R++[r]) h,1))=ρ2):Ew i fk f ρ=.nx ρ2:=by
 have z:=sz;have fin:Hh (R.map AI) (R.map λ r=>il (h r)) (AI r) (il y)=An (R++[r]) h:=by
  unfold Hh;rw [XF,decide_eq_false hr,if_neg (by simp)];unfold An;rw [CN,CN];simp [hy]
 unfold Ew;rw [hf];dsimp only;rw [hx];dsimp only;rw [hk];dsimp only;rw [hx];rcases hxe with rfl | ⟨rfl,rfl⟩
 ·show (match Cq (r.map PV.int) with | some kk=>if d≠0/\om=om/\(R.map AI).length < Az then Rs.nx (ρ1.set i (some (Hh (R.map AI) (R.map λ r=>il (h r)) kk (il y),1))) else .no | none=>.no)=_;rw [JW];dsimp only;rw [if_pos ⟨hd,rfl,by rw [AG];omega⟩,<- e2,fin]
 ·show (match Cq (r.map PV.int) with | some kk=>if d≠0/\om=om/\0 < Az then Rs.nx (ρ1.set i (some (Hh [] [] kk (il y),1))) else .no | none=>.no)=_;rw [JW];dsimp only;rw [if_pos ⟨hd,rfl,by omega⟩,<- e2];exact congrArg (λ z=>Rs.nx (ρ1.set i (some (z,1)))) fin
def WX {f:Fx}{vs:List Nat}{asg:PV->Af->Option Af}{body:Fs}{ρ ρ1 ρ2 ρ3:Af}{R:List (List Int)}{h:List Int->List Int}{d:Nat} (hf:f ρ=.ok (An R h,d,ρ1)) (ec:Bh d vs ρ1=ρ2) (hl:BQ asg body (R.map Al) ρ2=.nx ρ3):Ih f vs asg body ρ=.nx ρ3:=by
 unfold Ih;rw [hf];show ET (BQ asg body ((R.map AI).map C4) (Bh d vs ρ1))=_;rw [CH,ec,show (C4 ∘ AI)=Al from funext w8,hl];rfl
def jo {f:Fx}{vs:List Nat}{asg:PV->Af->Option Af}{body:Fs}{ρ ρ1 ρ2 ρ3:Af}{R:List (List Int)}{h:List Int->List Int}{d:Nat} (hf:f ρ=.ok (An R h,d,ρ1)) (ec:Bh d vs ρ1=ρ2) (hl:BQ asg body (R.map λ r=>il (h r)) ρ2=.nx ρ3):Kv f vs asg body ρ=.nx ρ3:=by
 unfold Kv;rw [hf];show ET (BQ asg body (R.map λ r=>il (h r)) (Bh d vs ρ1))=_;rw [ec,hl];rfl
def Sq {f h:Fx}{ρ ρ1 ρ2:Af}{xs ys:List Int}{d e:Nat} (h1:f ρ=.ok (Al xs,d,ρ1)) (h2:h ρ1=.ok (Al ys,e,ρ2)) (hl:xs.length + ys.length<=1000000):Ab Bs f h ρ=.ok (Al (xs++ys),0,ρ2):=by
 have z:=sz;refine Cy h1 h2 ?_;show (if _ then _ else _)=_;rw [if_pos (by rw [AG,AG];omega),<- CN];rfl
def MH {f g:Fx}{ρ ρ1 ρ2:Af}{xs:List Int}{k x:Int}{d e:Nat} (h1:f ρ=.ok (Al xs,d,ρ1)) (h2:g ρ1=.ok (.int k,e,ρ2)) (h:BO xs k=some x):Ab A5 f g ρ=.ok (.int x,om,ρ2):=by
 refine Cy h1 h2 ?_;show (BO (xs.map PV.int) k).map _=_
 have:BO (xs.map PV.int) k=some (.int x):=by
  unfold BO at h ⊢;rw [AG];cases e:DO xs.length k with
  | none=>rw [e] at h;cases h
  | some j=>
   rw [e] at h;have h':xs[j]?=some x:=h;show (xs.map PV.int)[j]?=_;rw [CI,h'];rfl
 rw [this];rfl
def qD {f g:Fx}{ρ:Af}{xs:List Int}{j d e:Nat} (h1:f ρ=.ok (Al xs,d,ρ)) (h2:g ρ=.ok (.int (j:Int),e,ρ)) (hj:j < xs.length):D0 f none (some g) ρ=.ok (Al (xs.take j),0,ρ):=by
 unfold D0;rw [h1];dsimp only [Rz.bind,HF];rw [h2];dsimp only;have e1:DH (Al xs) none (some (j:Int))=some (Al (xs.take j),0):=by
  unfold DH Al;dsimp only;rw [HT.sIx_none,HT.sIx_nat,AG,if_neg (by rw [Mb (by omega)];omega)];unfold Ce;rw [HT.sIx_none,HT.sIx_nat,AG,Mb (by omega),Ti,OJ,List.map_take]
 rw [e1]
def ko {f g:Fx}{ρ:Af}{xs:List Int}{j d e:Nat} (h1:f ρ=.ok (Al xs,d,ρ)) (h2:g ρ=.ok (.int (j:Int),e,ρ)) (h0:0 < j) (hj:j<=xs.length):D0 f (some g) none ρ=.ok (Al (xs.drop j),0,ρ):=by
 unfold D0;rw [h1];dsimp only [Rz.bind,HF];rw [h2];dsimp only;have e1:DH (Al xs) (some (j:Int)) none=some (Al (xs.drop j),0):=by
  unfold DH Al;dsimp only;rw [HT.sIx_none,HT.sIx_nat,AG,if_neg (by rw [Mb (by omega)];omega)];unfold Ce;rw [HT.sIx_none,HT.sIx_nat,AG,Mb (by omega),OO,Mf (by rw [FA,AG];omega)]
 rw [e1]
theorem IT {f:List Int->List Int}{m:Nat}:∀ {l:List (List Int)},(∀ r∈l,(f r).length<=m)->(sumT f l).length<=m
 | [],_=>Fw _
 | r::l,h=>by
  rw [Ia,Qi]
  have:=h r AL
  have:=IT (l:=l) λ q hq=>h q (AM _ hq)
  omega
def wm {b:Nat}{c:Int}{f:List Int->List Int}{m j:Nat}{r:List Int} (h:∀ r∈AB b c,(f r).length<=m):(Bk b c f j r).length<=m:=IT λ q hq=>h q (jg2.mp hq).1
def Bn (b:Nat) (c:Int) (f:List Int->List Int) (j:Nat) (pre:List (List Int)) (r:List Int):List Int:=if r∈pre then Bk b c f (j + 1) r else Bk b c f j r
def SV (b:Nat) (c:Int) (f:List Int->List Int) (j:Nat):Bn b c f j []=Bk b c f j:=by
 funext r;unfold Bn;rw [if_neg (by simp)]
def kq {b:Nat}{c:Int}{f:List Int->List Int} (hb:1<=b/\b<=1000) (hd:DP ((AB b c).map AI)=true) (hn:AB b c≠[]) (hR:(AB b c).length < 1000000) (hf:∀ r∈AB b c,(f r).length<=1000):f_sums_of_lower_rows [An (AB b c) f,.int (b:Int)]=.ok (An (AB b c) (Dt b c f),1,.non):=by
 let R:=AB b c;let L (h:List Int->List Int) (s3 s4 s5:QQ.Slot):Af:=[some (An R f,0),some (.int (b:Int),om),some (An R h,1),s3,s4,s5]
 have v1:Aj false 2 (Am Lj (Ae (Aa 0) (Ac))) [0] [some (An R f,0),some (.int (b:Int),om),none,none,none,none]=.nx (L f none none none):=by
  refine Bm (x:=An R f) (d:=1) (Ck (A9 (x:=An R f) (d:=0) rfl) ?_) (show 2 < 6 by decide) rfl;show (if DP (R.map AI)=true/\R.map AI≠[] then some (An R f,1) else none)=_;rw [if_pos ⟨hd,λ z=>hn (List.map_eq_nil_iff.mp z)⟩]
 have start:L f none none none=L (Bk b c f 0) none none none:=by
  have:An R f=An R (Bk b c f 0):=U4 λ r hr=>(yU hr).symm
  show [_,_,some (An R f,1),_,_,_]=[_,_,some (An R (Bk b c f 0),1),_,_,_];rw [this]
 obtain ⟨ρ',v2,s3,s4,s5,rfl⟩:=JT (i:=3) (en:=BI) (fa:=Ae (Aa 1) Ac) (body:=(Ih (Aa 0) [0] (asgN 4) pa3)) (ρ:=L f none none none) (ρ1:=L f none none none) (as:=[(.int (b:Int),om)]) (lo:=0) (hi:=(b:Int))
  (λ j ρ=>∃ s3 s4 s5,ρ=L (Bk b c f j) s3 s4 s5) rfl (FI (by omega) (by omega)) ⟨none,none,none,start⟩ (by
  rintro j _ hj ⟨s3,s4,s5,rfl⟩;have hjb:j < b:=by omega
  refine ⟨by show 3 < 6;decide,?_⟩;rw [Ga];let M (h:List Int->List Int) (d3:Nat) (s4 s5:QQ.Slot):Af:=L h (some (.int (j:Int),d3)) s4 s5;obtain ⟨ρ2,e2,d3',s4',s5',rfl⟩:=JX (asg:=asgN 4) (enc:=Al) (body:=pa3) (λ pre ρ=>∃ d3 s4 s5,ρ=M (Bn b c f j pre) d3 s4 s5) R [] (M (Bk b c f j) om s4 s5) ⟨om,s4,s5,by rw [SV b c f j]⟩ (by
   rintro pre r post _ ep ⟨d3,s4,s5,rfl⟩;rw [EW] at ep;have hr:r∈R:=by rw [ep];exact BX _ AL
   have h1:=zxb.mp hr;have hl:j < r.length:=by rw [h1.len];exact hjb
   have hrp:r∉pre:=λ z=>by
    have:=JY b c
    rw [show AB b c=pre++r::post from ep,Ts] at this;exact this.2.2 r z r AL rfl
   let N (d3 d4:Nat) (s5:QQ.Slot):Af:=M (Bn b c f j pre) d3 (some (Al r,d4)) s5;have w1:Aj false 5 pb9 [4,4,3,4] (N d3 0 s5)=.nx (N 0 0 (some (Al (Bv r j),0))):=by
    have a1:=qD (f:=Aa 4) (g:=Aa 3) (ρ:=N d3 0 s5) (xs:=r) (j:=j) (d:=0) (e:=om) rfl rfl hl;have a2:Am BJ pf5 (N d3 0 s5)=.ok (Al [r.getD j 0 - 1],om,N d3 0 s5):=Ck (A9 (JQ (j:=1) (e:=om) (MH (xs:=r) (k:=(j:Int)) (d:=0) (e:=om) rfl rfl (Dg (by omega) (by rw [Dy];exact DR hl))) rfl)) rfl;have a3:=ko (f:=Aa 4) (g:=Ab Bs (Aa 3) (bC (.int 1))) (ρ:=N d3 0 s5) (xs:=r) (j:=j + 1) (d:=0) (e:=om) rfl rfl (by omega) (by omega);have a4:=Sq (Sq a1 a2 (by rw [Gg,EF];omega)) a3 (by rw [BM,Gg,EF,FA];have:=h1.len;omega);exact Bm a4 (show 5 < 6 by decide) rfl
   have w2:=x8 (f:=Aa 5) (g:=Aa 2) (ρ:=N 0 0 (some (Al (Bv r j),0))) (r:=Bv r j) (R:=R) (h:=Bn b c f j pre) (d:=0) (e:=0) rfl rfl;have fl:∀ q,(Bn b c f j pre q).length<=1000:=λ q=>by
    unfold Bn;split <;> exact wm hf
   by_cases hm:Bv r j∈R
   ·have hp:Bv r j∈pre:=by
     have pw:=XZ b c;rw [show AB b c=pre++r::post from ep,List.pairwise_append,Zq] at pw;rw [ep,jd4,jb4] at hm;rcases hm with hm | hm | hm
     ·exact hm
     ·have:=SF hl
      rw [hm,SG] at this;cases this
     ·have:=Yp (SF hl)
      rw [pw.2.1.1 _ hm] at this;cases this
    rw [decide_eq_true hm] at w2;have w3:Ew 2 (Aa 4) pe8 (N 0 0 (some (Al (Bv r j),0)))=.nx (M (Bn b c f j (pre++[r])) 0 (some (Al r,0)) (some (Al (Bv r j),0))):=by
     have c1:=SA (f:=Aa 2) (g:=Aa 4) (ρ:=N 0 0 (some (Al (Bv r j),0))) (R:=R) (h:=Bn b c f j pre) (r:=r) (d:=0) (e:=0) rfl rfl hr;have c2:=SA (f:=Aa 2) (g:=Aa 5) (ρ:=N 0 0 (some (Al (Bv r j),0))) (R:=R) (h:=Bn b c f j pre) (r:=Bv r j) (d:=0) (e:=0) rfl rfl hm;refine kK (R:=R) (h:=Bn b c f j pre) (r:=r) (d:=1) (e:=0) (AF (A2 c1 (A9 c2)) (X2 (fl _) (fl _))) rfl (by decide) rfl hr hR ?_;show M (λ q=>if q=r then As (Bn b c f j pre r) (Bn b c f j pre (Bv r j)) else Bn b c f j pre q) _ _ _=_;congr 1;funext q;by_cases e:q=r
     ·subst e;rw [if_pos rfl];unfold Bn;rw [if_neg hrp,if_pos hp,if_pos (by simp),UP hr hjb,if_pos hm]
     ·rw [if_neg e];unfold Bn
      have:q∈pre++[r]↔q∈pre:=by simp [e]
      simp only [this]
    exact ⟨N d3 0 s5,_,rfl,(AV w1).trans ((C7 (AN w2)).trans w3),_,_,_,rfl⟩
   ·rw [decide_eq_false hm] at w2;refine ⟨N d3 0 s5,_,rfl,(AV w1).trans ((Cw (AN w2)).trans rfl),0,some (Al r,0),some (Al (Bv r j),0),?_⟩;show M (Bn b c f j pre) _ _ _=_;congr 1;funext q;unfold Bn;by_cases e:q=r
    ·subst e;rw [if_neg hrp,if_pos (by simp),UP hr hjb,if_neg hm]
    ·have:q∈pre++[r]↔q∈pre:=by simp [e]
     simp only [this])
  refine ⟨_,WX (R:=R) (h:=f) (d:=0) (ρ2:=M (Bk b c f j) om s4 s5) rfl rfl e2,some (.int (j:Int),d3'),s4',s5',?_⟩;show L (Bn b c f j ([]++R)) _ _ _=_
  have:An R (Bn b c f j ([]++R))=An R (Bk b c f (j + 1)):=U4 λ r hr=>by
   unfold Bn;rw [EW,if_pos hr]
  show [_,_,some (An R (Bn b c f j ([]++R)),1),_,_,_]=[_,_,some (An R (Bk b c f (j + 1)),1),_,_,_];rw [this])
 rw [show ((b:Int) - 0).toNat=b by omega,show Bk b c f b=Dt b c f from funext λ r=>wQ] at v2;exact BU rfl ((AV v1).trans ((AV v2).trans rfl))
def Et (b:Nat) (lo r hi:List Int):Bool:=(A6 b).all λ j=>decide (lo.getD j 0<=r.getD j 0) && decide (r.getD j 0<=hi.getD j 0)
def zX {b:Nat}{lo r hi:List Int} (h1:lo.length=b) (h2:r.length=b) (h3:hi.length=b) (hb:b<=1000):f_lies_between [Al r,il lo,il hi]=.ok (.bl (Et b lo r hi),om,.non):=by
 have z:=sz;let R:Af:=[some (Al r,0),some (il lo,0),some (il hi,0)]
 have e0:Am GY (Ae (Aa 0) (Ac)) R=.ok (.int (b:Int),om,R):=by
  refine Ck (xs:=[(Al r,0)]) rfl ?_;show some (PV.int ((r.map PV.int).length:Nat),om)=_;rw [AG,h2]
 have e1:=MR (n:=3) (en:=BI) (fa:=Ae pb0 Ac) (elt:=EJ (λ i j=>decide (i<=j)) (λ i j=>decide (i<=j)) (Ab A5 (Aa 1) (Aa 3)) (Ab A5 (Aa 0) (Aa 3)) (Ab A5 (Aa 2) (Aa 3))) (q:=λ j=>.bl (decide (lo.getD j 0<=r.getD j 0) && decide (r.getD j 0<=hi.getD j 0))) (ρ:=R) (ρ1:=R) (as:=[(.int (b:Int),om)]) (lo:=0) (hi:=(b:Int)) (A9 e0) (FI (by omega) (by omega)) rfl (λ k hk=>by
  have hkb:k < b:=by omega
  rw [Ga];exact Lf (FN (xs:=lo) (k:=(k:Int)) (d:=0) (e:=om) rfl rfl (Dg (by omega) (by rw [Dy];exact DR (by omega)))) (MH (xs:=r) (k:=(k:Int)) (d:=0) (e:=om) rfl rfl (Dg (by omega) (by rw [Dy];exact DR (by omega)))) (FN (xs:=hi) (k:=(k:Int)) (d:=0) (e:=om) rfl rfl (Dg (by omega) (by rw [Dy];exact DR (by omega))))) (by omega)
 rw [show ((b:Int) - 0).toNat=b by omega] at e1;exact BU rfl (Cv (all_ok (xs:=A6 b) (g:=λ j=>decide (lo.getD j 0<=r.getD j 0) && decide (r.getD j 0<=hi.getD j 0)) e1))
def C8 (ct:List Nat) (r:List Int):Int:=(ct.map λ j=>r.getD j 0).sum
def E2 (b:Nat) (lo hi:List Int) (ct:List Nat) (g:List Int->List Int) (r:List Int):List Int:=if Et b lo r hi=true then AK (C8 ct r).toNat 0++g r else []
theorem Su {b:Nat}{c:Nat}{r:List Int} (h:RowB b c r):∀ {ct:List Nat},(∀ j∈ct,j < b)->0<=C8 ct r/\C8 ct r<=ct.length * c
 | [],_=>by simp [C8]
 | j::ct,hc=>by
  have h1:=Su h (ct:=ct) λ k hk=>hc k (AM _ hk);have h2:=h.lo j (hc j AL);have h3:=h.hi j (hc j AL);have e:C8 (j::ct) r=r.getD j 0 + C8 ct r:=rfl;rw [e,Bw,OS,YG];omega
def ZX {b:Nat}{c:Nat}{lo hi:List Int}{ct:List Nat}{g:List Int->List Int} (h1:lo.length=b) (h3:hi.length=b) (hb:b<=1000) (hct:∀ j∈ct,j < b) (hcl:ct.length * c<=1000/\ct.length<=1000/\c<=1000) (hn:AB b c≠[]) (hR:(AB b c).length < 1000000) (hg:∀ r∈AB b c,(g r).length<=1000):
  f_table_of_row [An (AB b c) g,il lo,il hi,.lst (ct.map λ (j:Nat)=>.int (j:Int))]=.ok (An (AB b c) (E2 b lo hi ct g),1,.non):=by
 have z:=sz;let R:=AB b c;let L (s4 s5:QQ.Slot):Af:=[some (An R g,0),some (il lo,0),some (il hi,0),some (.lst (ct.map λ (j:Nat)=>.int (j:Int)),0),s4,s5]
 let T:=E2 b lo hi ct g;obtain ⟨ρ',v2,s5,s4,hs,rfl⟩:=JX (asg:=asgN 5) (enc:=Al) (body:=pa5) (λ pre ρ=>∃ s5 s4,((pre=[]/\s4=some (.dct [],om))\/(pre≠[]/\s4=some (An pre T,1)))/\ρ=L s4 s5) R [] (L (some (.dct [],om)) none) ⟨none,some (.dct [],om),.inl ⟨rfl,rfl⟩,rfl⟩ (by
  rintro pre r post _ ep ⟨s5,s4,hs,rfl⟩;rw [EW] at ep;have hr:r∈R:=by rw [ep];exact BX _ AL
  have h2:=zxb.mp hr;have hrp:r∉pre:=λ z=>by
   have:=JY b c
   rw [show AB b c=pre++r::post from ep,Ts] at this;exact this.2.2 r z r AL rfl
  have hpl:pre.length < 1000000:=by
   have:R.length=pre.length + (post.length + 1):=by rw [ep];simp
   have:R.length < 1000000:=hR
   omega
  obtain ⟨x4,d4,rfl,hx,hd⟩:∃ x4 d4,s4=some (x4,d4)/\(x4=An pre T\/(x4=.dct []/\pre=[]))/\d4≠0:=by
   rcases hs with ⟨e1,e2⟩ | ⟨e1,e2⟩
   ·exact ⟨_,_,e2,.inr ⟨rfl,e1⟩,by decide⟩
   ·exact ⟨_,_,e2,.inl rfl,by decide⟩
  let N:Af:=L (some (x4,d4)) (some (Al r,0));have t:=AN (AF (F:=f_lies_between) (fa:=Ae (Aa 5) pf3) (ρ:=N) (ρ1:=N) (xs:=[(Al r,0),(il lo,0),(il hi,0)]) rfl (zX h1 h2.len h3 hb));have fin:∃ ρ2,pa5 N=.nx ρ2/\ρ2=L (some (An (pre++[r]) T,1)) (some (Al r,0)):=by
   refine ⟨_,?_,rfl⟩;cases hbt:Et b lo r hi with
   | true=>
    rw [hbt] at t;have cs:=IP (n:=6) (f:=Aa 3) (elt:=Ab A5 (Aa 5) (Aa 6)) (enc:=λ (j:Nat)=>PV.int (j:Int)) (q:=λ j=>.int (r.getD j 0)) (ρ:=N) (ρ1:=N) (d:=0) ct rfl rfl (λ j hj=>MH (xs:=r) (k:=(j:Int)) (d:=0) (e:=om) rfl rfl (Dg (by omega) (by rw [Dy];exact DR (by rw [h2.len];exact hct j hj)))) (by omega);have cs':Cz (Aa 3) 1 (asgN 6) Bp (Ab A5 (Aa 5) (Aa 6)) N=.ok (il (ct.map λ j=>r.getD j 0),om,N):=by
     rw [cs];unfold il;rw [CH];rfl
    have sok:E4 (ct.map λ j=>r.getD j 0)=true:=wo (by rw [AG];omega) (λ x hx=>by
     obtain ⟨j,hj,rfl⟩:=jd6.mp hx;have a1:=h2.lo j (hct j hj);have a2:=h2.hi j (hct j hj)
     omega)
    have sm:=JR (A9 cs') sok;have cb:=Su h2 hct;have cc:((ct.length * c:Nat):Int)<=1000:=by omega
    rw [Gb] at cc;have e1:=Xm (f:=Am BB (Ae (bC (.int 0)) (Ac))) (ρ:=N) (ρ1:=N) (d:=om) rfl sm (by show -1000000<=C8 ct r/\C8 ct r<=1000000;omega);have e2:=VR e1 (SA (f:=Aa 0) (g:=Aa 5) (R:=R) (h:=g) (r:=r) (d:=0) (e:=0) rfl rfl hr) (by
     have:=hg r hr
     rw [Es];show (C8 ct r).toNat + _<=_
     omega)
    refine (C7 t).trans (SJ (R:=pre) (h:=T) (r:=r) (d:=d4) (e:=0) (x:=x4) e2 rfl hx hd rfl hrp ?_ hpl rfl);show E2 b lo hi ct g r=_;unfold E2;rw [hbt,if_pos rfl];rfl
   | false=>
    rw [hbt] at t;refine (Cw t).trans (SJ (R:=pre) (h:=T) (r:=r) (y:=[]) (d:=d4) (e:=0) (x:=x4) (f:=Am BB Ac) (ρ1:=N) rfl rfl hx hd rfl hrp ?_ hpl rfl);show E2 b lo hi ct g r=_;unfold E2;rw [hbt,if_neg (by simp)]
  obtain ⟨ρ2,f1,rfl⟩:=fin;exact ⟨N,_,rfl,f1,_,_,.inr ⟨by simp,rfl⟩,rfl⟩)
 rcases hs with ⟨e,_⟩ | ⟨_,rfl⟩
 ·exact absurd e hn
 ·have v1:Aj false 4 Fe [] (L none none)=.nx (L (some (.dct [],om)) none):=rfl;exact BU rfl ((AV v1).trans ((AV (WX (R:=R) (h:=g) (d:=0) rfl rfl v2)).trans rfl))
def jc {n:Nat}{en:List (PV×Nat)->Option (Int×Int)}{fa:Fa}{elt:Fx}{q:Nat->PV}{ρ ρ1:Af}{as:List (PV×Nat)}{lo hi:Int} (hf:fa ρ=.ok (as,ρ1)) (hen:en as=some (lo,hi)) (hn:ρ1.length=n) (he:∀ k,k < (hi - lo).toNat->elt (ρ1++[some (.int (lo + (k:Int)),om)])=.ok (q k,0,ρ1++[some (.int (lo + (k:Int)),om)])) (hl:(hi - lo).toNat<=Az):
  ∃ e,DC en fa 1 (asgN n) Bp elt ρ=.ok (.lst ((A6 (hi - lo).toNat).map q),e,ρ1):=by
 refine ⟨if Dk ((A6 (hi - lo).toNat).map λ (k:Nat)=>(q k,0)) then om else 1,?_⟩;unfold DC;rw [hf];dsimp only;rw [hen];dsimp only;rw [Mz,JF (enc:=λ (k:Nat)=>PV.int (lo + (k:Int))) (p:=λ _=>true) (q:=q) (e:=λ _=>0) (A6 (hi - lo).toNat) ρ1 [] hn (λ _ _=>rfl) (λ x hx _=>he x (jc4.mp hx)) (by simpa using hl),jf7.mpr (λ _ _=>rfl)];show Dm ((A6 (hi - lo).toNat).map λ x=>(q x,0)) ρ1=_;unfold Dm;rw [CH];rfl
def ka {b c:Nat} (hb:1<=b/\b<=1000) (hc:c<=1000) (hR:∀ n,n<=b->(AB n c).length<=500000):f_rows_of_heights [.int (b:Int),.int (c:Int)]=.ok (.lst ((AB b c).map Al),0,.non):=by
 have z:=sz;let L (x2:PV) (d2:Nat) (s3 s4 s5 s6:QQ.Slot) (d1:Nat):Af:=[some (.int (b:Int),om),some (.int (c:Int),d1),some (x2,d2),s3,s4,s5,s6]
 have v1:Aj false 2 (Am BB (Ae (Am BJ (Ac)) (Ac))) [] [some (.int (b:Int),om),some (.int (c:Int),om),none,none,none,none,none]=.nx (L (.lst [Al []]) om none none none none om):=rfl;obtain ⟨ρ',v2,d1,d2,s3,s4,s5,s6,hd2,rfl⟩:=JT (i:=3) (en:=BI) (fa:=Ae (Aa 0) Ac) (body:=(Ag pe3
 (Ag (E3 (Aa 2) [2] (asgN 5) pa1)
 (Aj false 2 (Aa 4) [4])))) (ρ:=L (.lst [Al []]) om none none none none om) (ρ1:=L (.lst [Al []]) om none none none none om) (as:=[(.int (b:Int),om)]) (lo:=0) (hi:=(b:Int))
  (λ j ρ=>∃ d1 d2 s3 s4 s5 s6,(0 < j->d2=0)/\ρ=L (.lst ((AB j c).map Al)) d2 s3 s4 s5 s6 d1) rfl (FI (by omega) (by omega)) ⟨om,om,none,none,none,none,λ h=>absurd h (by omega),rfl⟩ (by
  rintro j _ hj ⟨d1,d2,s3,s4,s5,s6,_,rfl⟩;have hjb:j < b:=by omega
  refine ⟨by show 3 < 7;decide,?_⟩;rw [Ga];let R:=AB j c;let M (xs:List PV) (d4 d1 d2 d3:Nat) (s5 s6:QQ.Slot):Af:=[some (.int (b:Int),om),some (.int (c:Int),d1),some (.lst (R.map Al),d2),some (.int (j:Int),d3),some (.lst xs,d4),s5,s6]
  let nx (r:List Int):List (List Int):=(CK 0 (Ba c c r + 1)).map λ x=>r++[x];have hnx:AB (j + 1) c=R.flatMap nx:=rfl;obtain ⟨ρ2,e2,d1',d3',d4',s5',s6',hd4,rfl⟩:=JX (asg:=asgN 5) (enc:=Al) (body:=pa1) (λ pre ρ=>∃ d1 d3 d4 s5 s6,d4≠0/\ρ=M ((pre.flatMap nx).map Al) d4 d1 0 d3 s5 s6) R [] (M [] om d1 0 om s5 s6) ⟨d1,om,om,s5,s6,by decide,rfl⟩ (by
   rintro pre r post _ ep ⟨d1,d3,d4,s5,s6,hd4,rfl⟩;rw [EW] at ep;have hr:r∈R:=by rw [ep];exact BX _ AL
   have h2:=zxb.mp hr;let N (d1 d5:Nat) (s6:QQ.Slot):Af:=M ((pre.flatMap nx).map Al) d4 d1 0 d3 (some (Al r,d5)) s6;have ht:∃ m:Nat,Ba c c r=(m:Int)/\m<=c/\Cf (bT pc3) pc6 (Aa 1) (N d1 0 s6)=.ok (.int (m:Int),om,N d1 0 s6):=by
    have tt:bT pc3 (N d1 0 s6)=.ok (decide (0 < (j:Int)),N d1 0 s6):=AN (Ey (p:=λ i j=>decide (j < i)) (i:=(j:Int)) (j:=0) (d:=om) (e:=om) rfl rfl);cases j with
    | zero=>
     refine ⟨c,?_,AA _,?_⟩
     ·unfold Ba;rw [je6.mp h2.len];simp only [Tt];omega
     ·unfold Cf;rw [tt];rfl
    | succ i=>
     have g1:=PM h2.len;have g2:=h2.lo i (by omega);have g3:=h2.hi i (by omega);obtain ⟨m,hm⟩:∃ m:Nat,r.getD i 0=(m:Int):=⟨(r.getD i 0).toNat,by omega⟩
     refine ⟨m,?_,by omega,?_⟩
     ·unfold Ba;rw [g1];simp only;omega
     ·unfold Cf;rw [tt];dsimp only [Rz.bind];rw [if_pos (by rw [decide_eq_true_iff];omega)];refine MH (xs:=r) (k:=-1) (d:=0) (e:=om) rfl rfl ?_;unfold BO DO;rw [if_neg (by decide),if_pos (by rw [h2.len];omega),h2.len,<- hm];rw [show (-1 + ((i + 1:Nat):Int)).toNat=i by omega];exact DR (by rw [h2.len];omega)
   obtain ⟨m,tm,hmc,ev⟩:=ht;have w1:Aj false 6 (Cf (bT pc3) pc6 (Aa 1)) [5,1] (N d1 0 s6)=.nx (N d1 0 (some (.int (m:Int),om))):=Bm ev (show 6 < 7 by decide) rfl;have ct:∃ e,DC BI (Ae pe5 (Ac)) 1 (asgN 7) Bp (Ab Bs (Aa 5) pf8) (N d1 0 (some (.int (m:Int),om)))=.ok (.lst ((nx r).map Al),e,N d1 0 (some (.int (m:Int),om))):=by
    let W:Af:=N d1 0 (some (.int (m:Int),om));have e1:(nx r).map Al=(A6 (m + 1)).map λ (k:Nat)=>Al (r++[(0:Int) + (k:Int)]):=by
     show ((CK 0 (Ba c c r + 1)).map λ x=>r++[x]).map Al=_;unfold CK;rw [tm,CH,CH,show ((m:Int) + 1 - 0).toNat=m + 1 by omega];rfl
    have hc:=jc (n:=7) (en:=BI) (fa:=Ae pe5 (Ac)) (elt:=Ab Bs (Aa 5) pf8) (q:=λ k=>Al (r++[(0:Int) + (k:Int)])) (ρ:=W) (ρ1:=W) (as:=[(.int ((m:Int) + 1),om)]) (lo:=0) (hi:=(m:Int) + 1) rfl (FI (by omega) (by omega)) rfl (λ k hk=>by
     exact Sq (f:=Aa 5) (h:=Am BJ (Ae (Aa 7) (Ac))) (xs:=r) (ys:=[(0:Int) + (k:Int)]) (d:=0) (e:=om) rfl rfl (by rw [h2.len,EF];omega)) (by omega)
    rw [show ((m:Int) + 1 - 0).toNat=m + 1 by omega,<- e1] at hc;exact hc
   obtain ⟨e,ct⟩:=ct;have hjl:(AB (j + 1) c).length<=500000:=hR (j + 1) (by omega);have hln:((pre.flatMap nx).map Al).length + ((nx r).map Al).length<=Az:=by
    have:(AB (j + 1) c).length=(pre.flatMap nx).length + ((nx r).length + (post.flatMap nx).length):=by
     rw [hnx,ep,K7,GL,BM,BM]
    rw [AG,AG];omega
   have w2:Du 4 pd3 [5] (N d1 0 (some (.int (m:Int),om)))=.nx (M (((pre++[r]).flatMap nx).map Al) 1 d1 0 d3 (some (Al r,0)) (some (.int (m:Int),om))):=by
    obtain ⟨k,rfl⟩:∃ k,d4=k + 1:=⟨d4 - 1,by omega⟩
    have hcool:Bh e [5] (N d1 0 (some (.int (m:Int),om)))=N d1 0 (some (.int (m:Int),om)):=by
     unfold Bh;split <;> rfl
    refine Wa (xs:=(pre.flatMap nx).map Al) (xs0:=(pre.flatMap nx).map Al) (d0:=k) (d:=k + 1) rfl ct (by rw [hcool];rfl) (by omega) hln ?_;rw [hcool,K7,CN];simp only [GL,Tp,GJ];rfl
   exact ⟨N d1 0 s6,_,rfl,(AV w1).trans w2,d1,d3,1,_,_,by decide,rfl⟩)
  have u1:Aj false 4 (Am BB (Ac)) [] (L (.lst (R.map Al)) d2 (some (.int (j:Int),om)) s4 s5 s6 d1)=.nx (M [] om d1 d2 om s5 s6):=rfl;have u2:E3 (Aa 2) [2] (asgN 5) pa1 (M [] om d1 d2 om s5 s6)=_:=WY (els:=R.map Al) (d:=0) rfl rfl e2
  refine ⟨_,(AV u1).trans ((AV u2).trans (Bm (x:=.lst (((([]:List (List Int))++R).flatMap nx).map Al)) (d:=0) rfl (show 2 < 7 by decide) rfl)),d1',0,some (.int (j:Int),d3'),some (.lst (((([]:List (List Int))++R).flatMap nx).map Al),0),s5',s6',λ _=>rfl,?_⟩
  rfl)
 rw [show ((b:Int) - 0).toNat=b by omega] at v2;have hd:d2=0:=hd2 (by omega);subst hd;exact BU rfl ((AV v1).trans ((AV v2).trans rfl))
structure BoxT (a b c:Nat):Prop where
 ha:1<=a/\a<=100
 hb:1<=b/\b<=100
 hc:c<=100
 dk:DP ((AB b c).map AI)=true
 rl:∀ n,n<=b->(AB n c).length<=500000
def Qx {b c:Nat}:AB b c≠[]:=λ e=>by
 have:AK b (0:Int)∈AB b c:=zxb.mpr ⟨Es,λ j hj=>by simp [AR,EG,hj],λ j hj=>by simp [AR,EG,hj],λ j hj=>by simp [AR,EG,hj,show j < b by omega]⟩
 rw [e] at this;cases this
def CL (r:List Int):List Int:=if r.sum=0 then [1] else []
def Cn (a b:Nat) (c:Int) (lo hi:Nat->List Int) (ct:Nat->List Nat):Nat->List Int->List Int
 | 0=>CL
 | k + 1=>E2 b (lo (a - 1 - k)) (hi (a - 1 - k)) (ct (a - 1 - k)) (Dt b c (Cn a b c lo hi ct k))
theorem KP {a b c:Nat}{lo hi:Nat->List Int}{ct:Nat->List Nat}{m:Nat} (hct:∀ i,(ct i).length<=m) (hcb:∀ i,∀ j∈ct i,j < b):∀ (k:Nat),∀ r∈AB b c,(Cn a b c lo hi ct k r).length<=1 + k * (m * c)
 | 0,r,_=>by
  unfold Cn CL;split <;> simp
 | k + 1,r,hr=>by
  have ih:=KP (a:=a) (b:=b) (c:=c) (lo:=lo) (hi:=hi) hct hcb k;unfold Cn E2;split
  ·rw [BM,Es];have h1:(Dt b c (Cn a b c lo hi ct k) r).length<=1 + k * (m * c):=IT λ q hq=>ih q (jg2.mp hq).1;have h2:=(Su (zxb.mp hr) (hcb (a - 1 - k))).2;have h3:(ct (a - 1 - k)).length * c<=m * c:=Gi _ (hct _);have h4:(C8 (ct (a - 1 - k)) r).toNat<=m * c:=by
    have:(((ct (a - 1 - k)).length * c:Nat):Int)=((ct (a - 1 - k)).length:Int) * (c:Int):=Gb _ _
    omega
   have h5:(k + 1) * (m * c)=k * (m * c) + m * c:=by rw [Te,YH]
   omega
  ·simp
def BC (ps:List (Nat×Nat)) (i:Nat):List Nat:=(ps.filter λ z=>decide (z.1=i)).map (·.2)
def MC {ps:List (Nat×Nat)}{b i:Nat} (h:∀ z∈ps,z.2 < b):∀ j∈BC ps i,j < b:=λ j hj=>by
 obtain ⟨z,hz,rfl⟩:=jd6.mp hj;exact h z (jg2.mp hz).1
def wa {fa:Fa}{asg:PV->Af->Option Af}{body:Fs}{ρ ρ1:Af}{r:Rs}{as:List (PV×Nat)}{i:Int}{n:Nat} (hf:fa ρ=.ok (as,ρ1)) (hen:Ku as=some (i,n)) (h:BQ asg body (GB i n) ρ1=r):IV fa asg body ρ=r:=by
 unfold IV;rw [hf];dsimp only;rw [hen];exact h
def vZ {i j:Int}{d1 d2 d3:Nat} (h1:-(2 ^ 40)<=i) (h2:i < 2 ^ 40) (h3:-(2 ^ 40)<=j) (h4:j < 2 ^ 40):Ku [(.int i,d1),(.int j,d2),(.int (-1),d3)]=some (i,(i - j).toNat):=by
 show (if (-1:Int)=-1/\-(2 ^ 40)<=i/\i < 2 ^ 40/\-(2 ^ 40)<=j/\j < 2 ^ 40 then some (i,(i - j).toNat) else none)=_;rw [if_pos ⟨rfl,h1,h2,h3,h4⟩]
def yH {a b c:Nat} (B:BoxT a b c) {low high:List (List Int)} (hl:Tab a b low) (hh:Tab a b high) {ps:List (Nat×Nat)} (hp:∀ z∈ps,z.2 < b) {m:Nat} (hm:∀ i,(BC ps i).length<=m) (hmc:1 + a * (m * c)<=1000) (hpl:ps.length<=1000):
  ∃ d,f_tables_between [bx a b c,tb low,tb high,.lst (ps.map pr)]=.ok (.lst ((A6 a).map λ k=>An (AB b c) (Cn a b c (λ i=>low.getD i []) (λ i=>high.getD i []) (BC ps) (k + 1))).reverse,d,.non):=by
 have z:=sz;obtain ⟨ha,hb,hc,dk,rl⟩:=B;let R:=AB b c;let T:=Cn a b c (λ i=>low.getD i []) (λ i=>high.getD i []) (BC ps);have hRl:R.length < 1000000:=by have:=rl b (AA _);show (AB b c).length < _;omega
 let L (d5 d6:Nat) (s7 s8 s9 s10 s11:QQ.Slot):Af:=[some (bx a b c,0),some (tb low,0),some (tb high,0),some (.lst (ps.map pr),0),some (.int (a:Int),om),some (.int (b:Int),d5),some (.int (c:Int),d6),s7,s8,s9,s10,s11]
 have v1:Cb (asgT [4,5,6]) (Aa 0) [0] [some (bx a b c,0),some (tb low,0),some (tb high,0),some (.lst (ps.map pr),0),none,none,none,none,none,none,none,none]=.nx (L om om none none none none none):=rfl;have v2:Aj false 7 Fe [] (L om om none none none none none)=.nx (L om om (some (.dct [],om)) none none none none):=rfl;obtain ⟨ρ3,e3,s8,s7,hs,rfl⟩:=JX (asg:=asgN 8) (enc:=Al) (body:=Ew 7 (Aa 8) pb3) (λ pre ρ=>∃ s8 s7,((pre=[]/\s7=some (.dct [],om))\/(pre≠[]/\s7=some (An pre CL,1)))/\ρ=L 0 0 s7 s8 none none none) R [] (L 0 0 (some (.dct [],om)) none none none none) ⟨none,_,.inl ⟨rfl,rfl⟩,rfl⟩ (by
  rintro pre r post _ ep ⟨s8,s7,hs,rfl⟩;rw [EW] at ep;have hrp:r∉pre:=λ z=>by
   have:=JY b c
   rw [show AB b c=pre++r::post from ep,Ts] at this;exact this.2.2 r z r AL rfl
  have hpl:pre.length < 1000000:=by
   have:R.length=pre.length + (post.length + 1):=by rw [ep];simp
   omega
  obtain ⟨x4,d4,rfl,hx,hd⟩:∃ x4 d4,s7=some (x4,d4)/\(x4=An pre CL\/(x4=.dct []/\pre=[]))/\d4≠0:=by
   rcases hs with ⟨e1,e2⟩ | ⟨e1,e2⟩
   ·exact ⟨_,_,e2,.inr ⟨rfl,e1⟩,by decide⟩
   ·exact ⟨_,_,e2,.inl rfl,by decide⟩
  let N:Af:=L 0 0 (some (x4,d4)) (some (Al r,0)) none none none;have e1:Am Fl (Ae (Aa 8) (Ac)) N=.ok (.int r.sum,om,N):=by
   refine Ck (xs:=[(Al r,0)]) rfl ?_;show (match Fo (r.map PV.int) with | some ns=>some (PV.int ns.sum,om) | none=>none)=_;rw [M5]
  have e2:bT pd1 N=.ok (false^^decide (r.sum=0),N):=AN (Iv (neg:=false) (g:=bC (.int 0)) (j:=0) (e:=om) e1 rfl);have e3:Cf (bT pd1) (Am BB (Ae (bC (.int 1)) (Ac))) (Am BB (Ac)) N=.ok (il (CL r),om,N):=by
   unfold Cf;rw [e2];dsimp only [Rz.bind];rw [LZ];unfold CL;by_cases h0:r.sum=0
   ·rw [decide_eq_true h0,if_pos rfl,if_pos h0];rfl
   ·rw [decide_eq_false h0,if_neg (by simp),if_neg h0];rfl
  exact ⟨N,_,rfl,SJ (R:=pre) (h:=CL) (r:=r) (d:=d4) (e:=0) (x:=x4) e3 rfl hx hd rfl hrp rfl hpl rfl,some (Al r,0),_,.inr ⟨by simp,rfl⟩,rfl⟩)
 have hs:s7=some (An R CL,1):=by
  rcases hs with ⟨e,_⟩ | ⟨_,e⟩
  ·exact absurd e Qx
  ·exact e
 subst hs;have v3:E3 (A3 f_rows_of_heights pc5) [5,6] (asgN 8) (Ew 7 (Aa 8) pb3) (L om om (some (.dct [],om)) none none none none)=.nx (L 0 0 (some (An R CL,1)) s8 none none none):=WY (els:=R.map Al) (d:=0) (AF (xs:=[(.int (b:Int),om),(.int (c:Int),om)]) rfl (ka (by omega) (by omega) rl)) rfl e3;have v4:Aj false 9 (Am BB (Ac)) [] (L 0 0 (some (An R CL,1)) s8 none none none)=.nx (L 0 0 (some (An R CL,1)) s8 (some (.lst [],om)) none none):=rfl;obtain ⟨ρ5,e5,d7,d9,s10,s11,hd9,rfl⟩:=My (asg:=asgN 10) (body:=pa2) (GB ((a:Int) - 1) a) (λ k ρ=>∃ d7 d9 s10 s11,d9≠0/\ρ=L 0 0 (some (An R (T k),d7)) s8 (some (.lst ((A6 k).map λ t=>An R (T (t + 1))),d9)) s10 s11) (L 0 0 (some (An R CL,1)) s8 (some (.lst [],om)) none none) ⟨1,om,none,none,by decide,rfl⟩ (by
  rintro k x _ hx ⟨d7,d9,s10,s11,hd9,rfl⟩;unfold GB at hx;rw [CI] at hx;have hk:k < a:=by
   cases e:(A6 a)[k]? with
   | none=>rw [e] at hx;cases hx
   | some t=>have:=(jb0.mp e).1;simpa using this
  rw [K8 hk] at hx;obtain rfl:PV.int ((a:Int) - 1 - (k:Int))=x:=Option.some.inj hx;let i:=a - 1 - k;have hi:i < a:=by show a - 1 - k < a;omega
  have ei:(a:Int) - 1 - (k:Int)=(i:Int):=by show _=((a - 1 - k:Nat):Int);omega
  rw [ei];let N (d7 d10:Nat) (s11:QQ.Slot):Af:=L 0 0 (some (An R (T k),d7)) s8 (some (.lst ((A6 k).map λ t=>An R (T (t + 1))),d9)) (some (.int (i:Int),d10)) s11;have w1:Aj false 11 (Cz (Aa 3) 1 (asgN 12) (bT pc2) pf6) [3,3] (N d7 om s11)=.nx (N d7 om (some (.lst ((BC ps i).map λ (j:Nat)=>.int (j:Int)),om))):=by
   have cf:=vp (n:=12) (f:=Aa 3) (enc:=pr) (q:=λ z=>.int (z.2:Int)) (p:=λ z=>decide (z.1=i)) (test:=bT pc2) (elt:=Ab A5 (Aa 12) (bC (.int 1))) (ρ:=N d7 om s11) (ρ1:=N d7 om s11) (d:=0) ps rfl rfl (λ z _=>by
    have e1:Ab A5 (Aa 12) (bC (.int 0)) (N d7 om s11++[some (pr z,dv (pr z))])=.ok (.int (z.1:Int),om,N d7 om s11++[some (pr z,dv (pr z))]):=rfl;have e2:=AN (Iv (neg:=false) (g:=Aa 10) (j:=(i:Int)) (e:=om) e1 rfl);have e4:decide ((z.1:Int)=(i:Int))=decide (z.1=i):=by
     rw [DY,decide_eq_true_iff,decide_eq_true_iff];omega
    rw [e2,LZ,e4]) (λ z _ _=>rfl) (by omega)
   have cf':Cz (Aa 3) 1 (asgN 12) (bT pc2) pf6 (N d7 om s11)=.ok (.lst ((BC ps i).map λ (j:Nat)=>.int (j:Int)),om,N d7 om s11):=by
    rw [cf];unfold BC;rw [CH];rfl
   exact Bm cf' (show 11 < 12 by decide) rfl
  let N2:Af:=N d7 om (some (.lst ((BC ps i).map λ (j:Nat)=>.int (j:Int)),om));have hkm:1 + k * (m * c)<=1000:=by
   have:k * (m * c)<=a * (m * c):=Gi _ (by omega)
   omega
  have tl:∀ r∈R,(T k r).length<=1000:=λ r hr=>BZ (KP hm (λ i=>MC hp) k r hr) hkm;have c1:A3 f_sums_of_lower_rows (Ae (Aa 7) (Ae (Aa 5) (Ac))) N2=.ok (An R (Dt b c (T k)),1,N2):=AF (xs:=[(An R (T k),0),(.int (b:Int),om)]) rfl (kq (by omega) dk Qx hRl tl);have gl:low[i]?=some (low.getD i []):=JH (by rw [hl.1];exact hi);have gh:high[i]?=some (high.getD i []):=JH (by rw [hh.1];exact hi);have c2:Ab A5 (Aa 1) (Aa 10) N2=.ok (il (low.getD i []),0,N2):=OA (t:=low) (k:=(i:Int)) (d:=0) (e:=om) rfl rfl (Dg (by omega) (by rw [Dy];exact gl));have c3:Ab A5 (Aa 2) (Aa 10) N2=.ok (il (high.getD i []),0,N2):=OA (t:=high) (k:=(i:Int)) (d:=0) (e:=om) rfl rfl (Dg (by omega) (by rw [Dy];exact gh));have hcm:(BC ps i).length * c<=1000:=by
   have e1:(BC ps i).length * c<=m * c:=Gi _ (hm i);have e2:1 * (m * c)<=a * (m * c):=Gi _ (by omega);omega
  have hcl:(BC ps i).length<=1000:=by
   unfold BC;rw [AG];exact BZ (T3 _ _) hpl
  have rt:=ZX (b:=b) (c:=c) (lo:=low.getD i []) (hi:=high.getD i []) (ct:=BC ps i) (g:=Dt b c (T k)) (Tab.row hl hi) (Tab.row hh hi) (by omega) (MC hp) ⟨hcm,hcl,by omega⟩ Qx hRl (λ r hr=>IT λ q hq=>tl q (jg2.mp hq).1);have w2:Aj false 7 pc1 [7,5,1,10,2,10,11] N2=.nx (L 0 0 (some (An R (T (k + 1)),1)) s8 (some (.lst ((A6 k).map λ t=>An R (T (t + 1))),d9)) (some (.int (i:Int),0)) (some (.lst ((BC ps i).map λ (j:Nat)=>.int (j:Int)),0))):=
   Bm (x:=An R (T (k + 1))) (d:=1) (AF (xs:=[(An R (Dt b c (T k)),1),(il (low.getD i []),0),(il (high.getD i []),0),(.lst ((BC ps i).map λ (j:Nat)=>.int (j:Int)),0)]) (A2 c1 (A2 c2 (A2 c3 (A9 rfl)))) rt) (show 7 < 12 by decide) rfl
  have w3:Co 9 (Aa 7) [7] (L 0 0 (some (An R (T (k + 1)),1)) s8 (some (.lst ((A6 k).map λ t=>An R (T (t + 1))),d9)) (some (.int (i:Int),0)) (some (.lst ((BC ps i).map λ (j:Nat)=>.int (j:Int)),0)))=.nx (L 0 0 (some (An R (T (k + 1)),0)) s8 (some (.lst ((A6 (k + 1)).map λ t=>An R (T (t + 1))),1)) (some (.int (i:Int),0)) (some (.lst ((BC ps i).map λ (j:Nat)=>.int (j:Int)),0))):=by
   obtain ⟨e,rfl⟩:∃ e,d9=e + 1:=⟨d9 - 1,by omega⟩
   refine LK (xs0:=(A6 k).map λ t=>An R (T (t + 1))) (xs:=(A6 k).map λ t=>An R (T (t + 1))) (d0:=e) (d:=e + 1) (y:=An R (T (k + 1))) (e:=0) rfl rfl rfl (by omega) (by rw [AG,Gh];omega) ?_;rw [if_neg (λ h=>absurd h.2 (by decide)),ED,CN];rfl
  exact ⟨N d7 om s11,_,rfl,(AV w1).trans ((AV w2).trans w3),0,1,some (.int (i:Int),0),some (.lst ((BC ps i).map λ (j:Nat)=>.int (j:Int)),0),by decide,rfl⟩)
 have hdl:(GB ((a:Int) - 1) a).length=a:=by unfold GB;rw [AG,Gh]
 rw [hdl] at e5;have v5:IV pd8 (asgN 10) pa2 (L 0 0 (some (An R CL,1)) s8 (some (.lst [],om)) none none)=.nx (L 0 0 (some (An R (T a),d7)) s8 (some (.lst ((A6 a).map λ t=>An R (T (t + 1))),d9)) s10 s11):=by
  have en:Ku [(.int ((a:Int) - 1),om),(.int (-1),om),(.int (-1),om)]=some ((a:Int) - 1,a):=by
   rw [vZ (by omega) (by omega) (by omega) (by omega),show ((a:Int) - 1 - -1).toNat=a by omega]
  exact wa (as:=[(.int ((a:Int) - 1),om),(.int (-1),om),(.int (-1),om)]) rfl en e5
 exact ⟨_,BU rfl ((AV v1).trans ((AV v2).trans ((AV v3).trans ((AV v4).trans ((AV v5).trans (Cv (VM (x:=.lst ((A6 a).map λ t=>An R (T (t + 1)))) (d:=0) rfl rfl)))))))⟩
theorem Qb {f:List Int->List Int}:∀ (l:List (List Int)) (acc:List Int),l.foldl (λ s r=>As s (f r)) acc=As acc (sumT f l)
 | [],acc=>(FH acc).symm
 | r::l,acc=>by rw [Zb,Qb l,Ia,KQ]
def CF (a b c:Nat) (low high:List (List Int)) (ps:List (Nat×Nat)):List Int:=sumT (Cn a b c (λ i=>low.getD i []) (λ i=>high.getD i []) (BC ps) a) (AB b c)
def Yr {a b c:Nat} (B:BoxT a b c) {low high:List (List Int)} (hl:Tab a b low) (hh:Tab a b high) {ps:List (Nat×Nat)} (hp:∀ z∈ps,z.2 < b) {m:Nat} (hm:∀ i,(BC ps i).length<=m) (hmc:1 + a * (m * c)<=1000) (hpl:ps.length<=1000):
  f_tally_between [bx a b c,tb low,tb high,.lst (ps.map pr)]=.ok (il (CF a b c low high ps),om,.non):=by
 have z:=sz;obtain ⟨dt,ht⟩:=yH B hl hh hp hm hmc hpl;let R:=AB b c;let T:=Cn a b c (λ i=>low.getD i []) (λ i=>high.getD i []) (BC ps);let L (s4 s5:QQ.Slot):Af:=[some (bx a b c,0),some (tb low,0),some (tb high,0),some (.lst (ps.map pr),0),s4,s5]
 have v1:Aj false 4 (Am BB (Ac)) [] (L none none)=.nx (L (some (il [],om)) none):=rfl;have tl:∀ r∈R,(T a r).length<=1000:=λ r hr=>BZ (KP hm (λ i=>MC hp) a r hr) hmc;obtain ⟨ρ',e2,s5,rfl⟩:=JX (asg:=asgN 5) (enc:=λ r=>il (T a r)) (body:=Aj false 4 (A3 f_added pe2) [4,5]) (λ pre ρ=>∃ s5,ρ=L (some (il (pre.foldl (λ s r=>As s (T a r)) []),om)) s5) R [] (L (some (il [],om)) none) ⟨none,rfl⟩ (by
  rintro pre r post _ ep ⟨s5,rfl⟩;rw [EW] at ep;have hr:r∈R:=by rw [ep];exact BX _ AL
  have hpre:(pre.foldl (λ s r=>As s (T a r)) []).length<=1000:=by
   rw [Qb];exact IT λ q hq=>tl q (by rw [ep];exact BW _ hq)
  refine ⟨L (some (il (pre.foldl (λ s r=>As s (T a r)) []),om)) (some (il (T a r),0)),_,rfl,Bm (x:=il (As (pre.foldl (λ s r=>As s (T a r)) []) (T a r))) (d:=om) (AF (xs:=[(il (pre.foldl (λ s r=>As s (T a r)) []),0),(il (T a r),0)]) rfl (X2 hpre (tl r hr))) (show 4 < 6 by decide) rfl,some (il (T a r),0),?_⟩;rw [List.foldl_append]
  rfl)
 have hidx:Ab A5 (A3 f_tables_between (Ae (Aa 0) (Ae (Aa 1) pb5))) (bC (.int 0)) (L (some (il [],om)) none)=.ok (An R (T a),0,L (some (il [],om)) none):=by
  refine Cy (AF (xs:=[(bx a b c,0),(tb low,0),(tb high,0),(.lst (ps.map pr),0)]) rfl ht) (y:=.int 0) (e:=om) rfl ?_;show (BO _ 0).map _=_;rw [Dg (x:=An R (T a)) (by decide) ?_]
  ·rfl
  ·obtain ⟨k,rfl⟩:∃ k,a=k + 1:=⟨a - 1,by have:=B.ha;omega⟩
   show (List.reverse _)[0]?=_;rw [ED,CN,List.reverse_append];rfl
 have v2:=jo (asg:=asgN 5) (body:=Aj false 4 (A3 f_added pe2) [4,5]) (vs:=[0,1,2,3]) (ρ2:=L (some (il [],om)) none) hidx rfl e2;have he:([]++R).foldl (λ s r=>As s (T a r)) []=CF a b c low high ps:=by
  rw [EW,Qb];rfl
 rw [he] at v2;exact BU rfl ((AV v1).trans ((AV v2).trans rfl))
def Iy (a b:Nat) (x:Int):List (List Int):=AK a (AK b x)
def yy (a b:Nat) (x:Int):Tab a b (Iy a b x):=⟨Es,λ r hr=>by rw [(jr2.mp hr).2,Es]⟩
def A0 {α:Type} (f:α->Int) (l:List α):Int:=(l.map f).sum
def D6 {α:Type}{f:α->Int}{x:α}{l:List α}:A0 f (x::l)=f x + A0 f l:=rfl
theorem Yd {α:Type}{f:α->Int}:∀ (l m:List α),A0 f (l++m)=A0 f l + A0 f m
 | [],m=>by simp [A0]
 | x::l,m=>by rw [Fz,D6,D6,Yd l m];omega
theorem Ef {α:Type}{f g:α->Int}:∀ {l:List α},(∀ x∈l,f x=g x)->A0 f l=A0 g l
 | [],_=>rfl
 | x::l,h=>by rw [D6,D6,h x AL,Ef λ y hy=>h y (AM _ hy)]
theorem Q6 {α β:Type}{f:β->Int}{h:α->List β}:∀ (l:List α),A0 f (l.flatMap h)=A0 (λ x=>A0 f (h x)) l
 | []=>rfl
 | x::l=>by rw [GL,Yd,Q6 l,D6]
def Ye {α β:Type}{f:β->Int}{h:α->β}{l:List α}:A0 f (l.map h)=A0 (λ x=>f (h x)) l:=by
 unfold A0;rw [CH];rfl
theorem Qz {α:Type}:∀ (l:List α),A0 (λ _=>1) l=(l.length:Int)
 | []=>rfl
 | x::l=>by rw [D6,Qz l,Bw];omega
theorem M4 {α:Type}{f:α->Int}{p q:α->Bool}:∀ (l:List α),A0 (λ x=>if q x=true then f x else 0) (l.filter p)=A0 f (l.filter λ x=>p x && q x)
 | []=>rfl
 | x::l=>by
  have ih:=M4 (f:=f) (p:=p) (q:=q) l;rw [Ep,Ep];cases hp:p x with
  | false=>simpa using ih
  | true=>
   cases hq:q x with
   | false=>simp only [if_true,OR,GN,if_false,D6,hq,ih];omega
   | true=>simp only [if_true,Ju,D6,hq,ih]
theorem UX {α:Type}{f:α->Int}:∀ {l:List α},(∀ x∈l,0<=f x)->0<=A0 f l
 | [],_=>Dx _
 | x::l,h=>by
  have h1:=h x AL;have h2:=UX (f:=f) (l:=l) λ y hy=>h y (AM _ hy);rw [D6];omega
theorem KO {f:List Int->List Int}:∀ (l:List (List Int)),(sumT f l).sum=A0 (λ r=>(f r).sum) l
 | []=>rfl
 | r::l=>by rw [Ia,Qk,KO l,D6]
def DD (a b:Nat) (c:Int) (lo hi:Nat->List Int) (k:Nat) (r:List Int):Int:=(Cn a b c lo hi (λ _=>[]) k r).sum
def Hj (a b:Nat) (c:Int) (lo hi:Nat->List Int) (k:Nat) (ah:Nat->Int):Int:=A0 (DD a b c lo hi k) ((AB b c).filter λ q=>(A6 b).all λ i=>decide (q.getD i 0<=ah i))
theorem Mw:∀ (n:Nat) (l:List Int),(AK n (0:Int)++l).sum=l.sum
 | 0,l=>rfl
 | n + 1,l=>by rw [FC,Fz,D9,Mw n l];omega
def Yw {a b:Nat}{c:Int}{lo hi:Nat->List Int}{k:Nat}{r:List Int}:DD a b c lo hi (k + 1) r=if Et b (lo (a - 1 - k)) r (hi (a - 1 - k))=true then Hj a b c lo hi k (λ i=>r.getD i 0) else 0:=by
 show (E2 b _ _ _ _ r).sum=_;unfold E2;split
 ·rw [Mw];exact KO _
 ·rfl
theorem P5:∀ {r:List Int},(∀ j,j < r.length->0<=r.getD j 0)->r.sum=0->r=AK r.length 0
 | [],_,_=>rfl
 | x::r,h,e=>by
  have h0:=h 0 (by simp);have hr:∀ j,j < r.length->0<=r.getD j 0:=λ j hj=>by simpa using h (j + 1) (by simpa using hj)
  have hs:∀ (r:List Int),(∀ j,j < r.length->0<=r.getD j 0)->0<=r.sum:=by
   intro r;induction r with
   | nil=>intro _;simp
   | cons y r ih=>
    intro h
    have:=h 0 (by simp)
    have:=ih λ j hj=>by simpa using h (j + 1) (by simpa using hj)
    simp at *;omega
  have h1:=hs r hr;rw [D9] at e;simp at h0;have ex:x=0:=by omega
  have er:r.sum=0:=by omega
  rw [Bw,FC,<- P5 hr er,ex]
def wZ {a b:Nat}{c:Int}{lo hi:Nat->List Int}{ah:Nat->Int} (hc:0<=c) (h:∀ i,i < b->0<=ah i):Hj a b c lo hi 0 ah=1:=by
 let z:=AK b (0:Int);have zg:∀ j,z.getD j 0=0:=λ j=>by
  show (AK b (0:Int)).getD j 0=0;rw [AR,EG];split <;> rfl
 have zm:z∈AB b c:=zxb.mpr ⟨Es,λ j _=>by rw [zg];omega,λ j _=>by rw [zg];exact hc,λ j _=>by rw [zg,zg];omega⟩;unfold Hj;have e1:A0 (DD a b c lo hi 0) ((AB b c).filter λ q=>(A6 b).all λ i=>decide (q.getD i 0<=ah i))=A0 (λ r=>if decide (r=z)=true then (1:Int) else 0) ((AB b c).filter λ q=>(A6 b).all λ i=>decide (q.getD i 0<=ah i)):=by
  refine Ef λ r hr=>?_;have hr:=zxb.mp (jg2.mp hr).1;show (CL r).sum=_;unfold CL;by_cases e:r=z
  ·have hz:r.sum=0:=by
    have:=Mw b []
    rw [GJ] at this;rw [e];exact this
   rw [if_pos hz,if_pos (decide_eq_true e)];rfl
  ·have hz:¬ r.sum=0:=λ h0=>e (by
    have:=P5 (λ j hj=>hr.lo j (by rw [<- hr.len];exact hj)) h0
    rw [this,hr.len])
   rw [if_neg hz,if_neg (by simpa using e)];rfl
 rw [e1,M4];have nd:=JY b c;have key:∀ {l:List (List Int)},l.Nodup->z∈l->A0 (λ _=>(1:Int)) (l.filter λ x=>((A6 b).all λ i=>decide (x.getD i 0<=ah i)) && decide (x=z))=1:=by
  intro l;induction l with
  | nil=>intro _ h;cases h
  | cons x l ih=>
   intro nd hm;rw [ji6] at nd;rw [Ep];by_cases e:x=z
   ·have hz:((A6 b).all λ i=>decide (x.getD i 0<=ah i))=true:=by
     rw [jb8];intro i hi;rw [decide_eq_true_iff,e,zg];exact h i (jc4.mp hi)
    rw [hz,decide_eq_true e,if_pos (show (true && true)=true from rfl),D6]
    have:l.filter (λ y=>((A6 b).all λ i=>decide (y.getD i 0<=ah i)) && decide (y=z))=[]:=by
     rw [ji3];intro y hy e';rw [Bc,decide_eq_true_iff] at e';exact nd.1 (by rw [e,<- e'.2];exact hy)
    rw [this];rfl
   ·rw [decide_eq_false e,OR,if_neg (by simp)];exact ih nd.2 ((jb4.mp hm).resolve_left λ e'=>e e'.symm)
 exact key nd zm
theorem yI {hi ah c:Int} (h:min hi ah<=c) (row:List Int):Ba (min hi ah) c row=Ba hi ah row:=by
 unfold Ba;cases row.getLast? with
 | none=>simp only;omega
 | some m=>simp only;omega
theorem UN {lo hi ah:Nat->Int}{c:Int}:∀ (n:Nat),(∀ i,i < n->min (hi i) (ah i)<=c)->By lo (λ i=>min (hi i) (ah i)) (λ _=>c) n=By lo hi ah n
 | 0,_=>rfl
 | n + 1,h=>by
  rw [By,By,UN n λ i hi=>h i (by omega)];congr 1;funext row;rw [yI (h n (by omega))]
def U7 {b:Nat}{c:Int}{lo hi:List Int}{ah:Nat->Int} (h0:∀ i,i < b->0<=lo.getD i 0) (hc:∀ i,i < b->hi.getD i 0<=c):((AB b c).filter λ q=>((A6 b).all λ i=>decide (q.getD i 0<=ah i)) && Et b lo q hi)=By (λ i=>lo.getD i 0) (λ i=>hi.getD i 0) ah b:=by
 have e1:By (λ i=>lo.getD i 0) (λ i=>hi.getD i 0) ah b=By (λ i=>if i < b then lo.getD i 0 else 0) (λ i=>if i < b then min (hi.getD i 0) (ah i) else 0 - (0 - c) ) (λ _=>c) b:=by
  rw [<- UN (c:=c) b λ i hi=>by have:=hc i hi;omega];exact Ur b λ j hj=>⟨by rw [if_pos hj],by rw [if_pos hj],rfl⟩
 rw [e1];have e2:=P9 (lo':=λ _=>0) (hi':=λ _=>c) (ah:=λ _=>c) (lo:=λ i=>if i < b then lo.getD i 0 else 0) (hi:=λ i=>if i < b then min (hi.getD i 0) (ah i) else 0 - (0 - c)) (λ i=>by
  show 0<=if i < b then lo.getD i 0 else 0
  split
  ·rename_i h;exact h0 i h
  ·omega) (λ i=>by
  show (if i < b then min (hi.getD i 0) (ah i) else 0 - (0 - c))<=c;split
  ·rename_i h;have:=hc i h;omega
  ·omega) b
 rw [<- e2];unfold AB;apply K5;intro q _;rw [DY,Bc];unfold Et DU EH;simp only [jb8,jc4,Bc,decide_eq_true_iff];constructor
 ·rintro ⟨h1,h2⟩ i hi;have a1:=h1 i hi;have a2:=h2 i hi;rw [if_pos hi,if_pos hi];omega
 ·intro h;refine ⟨λ i hi=>?_,λ i hi=>?_⟩
  ·have:=h i hi
   rw [if_pos hi,if_pos hi] at this;omega
  ·have:=h i hi
   rw [if_pos hi,if_pos hi] at this;omega
section
variable {a b:Nat}{c:Int}{low high:List (List Int)}
def wY (h0:∀ i j,i < a->j < b->0<=g low i j) (hc:∀ i j,i < a->j < b->g high i j<=c) {k:Nat} (hk:k < a) {ah:Nat->Int}:Hj a b c (λ i=>low.getD i []) (λ i=>high.getD i []) (k + 1) ah=A0 (λ r=>Hj a b c (λ i=>low.getD i []) (λ i=>high.getD i []) k (λ i=>r.getD i 0)) (By (g low (a - 1 - k)) (g high (a - 1 - k)) ah b):=by
 have e:=U7 (b:=b) (c:=c) (lo:=low.getD (a - 1 - k) []) (hi:=high.getD (a - 1 - k) []) (ah:=ah) (λ i hi=>h0 _ i (by omega) hi) (λ i hi=>hc _ i (by omega) hi);show A0 _ _=A0 _ (By (λ i=>(low.getD (a - 1 - k) []).getD i 0) (λ i=>(high.getD (a - 1 - k) []).getD i 0) ah b);rw [<- e,<- M4];refine Ef λ r _=>?_;exact Yw
theorem X6 (hcc:0<=c) (h0:∀ i j,i < a->j < b->0<=g low i j) (hc:∀ i j,i < a->j < b->g high i j<=c):∀ (k:Nat),k<=a->A0 (λ p=>Hj a b c (λ i=>low.getD i []) (λ i=>high.getD i []) k (Ex c p)) (BP (g low) (g high) c b (a - k))=((BP (g low) (g high) c b a).length:Int)
 | 0,_=>by
  rw [OJ,<- Qz];refine Ef λ p hp=>wZ hcc λ i hi=>?_;unfold Ex;cases a with
  | zero=>
   simp only [BP,jb6] at hp;subst hp;exact hcc
  | succ n=>
   have:=IL hp
   rw [RL this.1.1];exact Fy (h0 n i (by omega) hi) (this.2.1 n i (by omega) hi).1
 | k + 1,hk=>by
  have ih:=X6 hcc h0 hc k (by omega);rw [<- ih,show a - k=(a - (k + 1)) + 1 by omega,BP,Q6];refine Ef λ p hp=>?_;rw [wY h0 hc (by omega),Ye,show a - 1 - k=a - (k + 1) by omega];refine Ef λ r _=>?_;congr 1;unfold Ex;rw [Z3]
def UY (hcc:0<=c) (h0:∀ i j,i < a->j < b->0<=g low i j) (hc:∀ i j,i < a->j < b->g high i j<=c):(sumT (Cn a b c (λ i=>low.getD i []) (λ i=>high.getD i []) (λ _=>[]) a) (AB b c)).sum=((BP (g low) (g high) c b a).length:Int):=by
 rw [KO,<- X6 hcc h0 hc a (AA _),OK];show _=A0 _ [[]];rw [D6];show A0 (DD a b c _ _ a) (AB b c)=Hj a b c _ _ a (λ _=>c) + 0;unfold Hj;rw [jf7.mpr λ r hr=>?_]
 ·omega
 ·rw [jb8];intro i hi;rw [decide_eq_true_iff];exact (zxb.mp hr).hi i (jc4.mp hi)
end
def Xf_how_many_between:Fs:=(Ag (D5 (A3 f_must_be_two_piles pa7))
 (Au (Am Fl (Ae (A3 f_tally_between (Ae (Aa 0) (Ae (Aa 1) (Ae (Aa 2) (Ae (Am BB (Ac)) (Ac)))))) (Ac)))))
def f_how_many_between:Fn:=Ap false 3 0 Xf_how_many_between
def Sm {a b:Nat}{h:Int->Int->Int}{t u:List (List Int)} (ht:Tab a b t) (hu:Tab a b u):Tab a b (zT h t u):=by
 refine ⟨by unfold zT;rw [AG,Md,ht.1,hu.1,YL],λ r hr=>?_⟩;obtain ⟨z,hz,rfl⟩:=jd6.mp hr;rw [List.length_zipWith,ht.2 _ (K3 hz).1,hu.2 _ (K3 hz).2,YL]
def Ig {a b:Nat}{h:Int->Int->Int}{t u:List (List Int)} (ht:Tab a b t) (hu:Tab a b u):zT h t u=CG a b λ i j=>h (g t i j) (g u i j):=by
 refine Xr (Sm ht hu) KW λ i j hi hj=>?_;rw [CS hi hj];have e1:(zT h t u).getD i []=Tg h (t.getD i []) (u.getD i []):=by
  unfold zT;rw [AR,CI,(ZE (z:=(t.getD i [],u.getD i []))).mpr ⟨JH (by rw [ht.1];exact hi),JH (by rw [hu.1];exact hi)⟩];rfl
 show ((zT h t u).getD i []).getD j 0=_;rw [e1,AR,List.getElem?_zipWith,DR (by rw [ht.row hi];exact hj),DR (by rw [hu.row hi];exact hj)];rfl
section
variable {a b c:Nat}{t u l:List (List Int)}
def Xu (f:Int->Int->Int) (hf:∀ i j k m:Int,i<=k->j<=m->f i j<=f k m) (h0:∀ i j,f i j=i\/f i j=j) (p:Pile a b c t) (q:Pile a b c u):Pile a b c (zT f t u):=by
 refine ⟨Sm p.tab q.tab,λ x y hx hy=>?_,λ x y hx hy=>?_,λ x y hx hy=>?_,λ x y hx hy=>?_⟩
 ·rw [Ig p.tab q.tab,CS hx hy]
  have:=p.lo x y hx hy
  have:=q.lo x y hx hy
  rcases h0 (g t x y) (g u x y) with e | e <;> omega
 ·rw [Ig p.tab q.tab,CS hx hy]
  have:=p.hi x y hx hy
  have:=q.hi x y hx hy
  rcases h0 (g t x y) (g u x y) with e | e <;> omega
 ·rw [Ig p.tab q.tab,CS hx hy,CS (by omega) hy];exact hf _ _ _ _ (p.dn x y hx hy) (q.dn x y hx hy)
 ·rw [Ig p.tab q.tab,CS hx hy,CS hx (by omega)];exact hf _ _ _ _ (p.rt x y hx hy) (q.rt x y hx hy)
end
section
variable {a b c:Nat}{t u l:List (List Int)}
def yM (p:Pile a b c t) (q:Pile a b c u) (ha:1<=a/\a<=30) (hb:1<=b/\b<=30) (hc:1<=c/\c<=1000):f_must_be_two_piles [bx a b c,tb t,tb u]=.ok (.non,om,.non):=
 zK (U5 p.tab (by omega) (by omega) (by omega) ((UI p.tab).mpr p)) (U5 q.tab (by omega) (by omega) (by omega) ((UI q.tab).mpr q))
end
theorem MM {α:Type}{f:α->Int}{m:Int} (hm:0<=m):∀ {l:List α},(∀ x∈l,f x<=m)->A0 f l<=l.length * m
 | [],_=>by simp [A0]
 | x::l,h=>by
  have h1:=h x AL;have h2:=MM hm (l:=l) λ y hy=>h y (AM _ hy);rw [D6,Bw,OS,YG];omega
def ZV {α:Type}{p:α->Bool}{l:List α}{m:Int} (hm:0<=m):((l.filter p).length:Int) * m<=(l.length:Int) * m:=Int.mul_le_mul_of_nonneg_right (by have:=T3 p l;omega) hm
theorem Sl {a b:Nat}{c:Int}{lo hi:Nat->List Int}:∀ (k:Nat) (r:List Int),0<=DD a b c lo hi k r/\DD a b c lo hi k r<=(((AB b c).length ^ k:Nat):Int)
 | 0,r=>by
  show 0<=(CL r).sum/\(CL r).sum<=_;unfold CL;split <;> simp
 | k + 1,r=>by
  rw [Yw];have ih:=Sl (a:=a) (b:=b) (c:=c) (lo:=lo) (hi:=hi) k;split
  ·unfold Hj;refine ⟨UX λ q _=>(ih q).1,Fy (MM (m:=(((AB b c).length ^ k:Nat):Int)) (by omega) λ q _=>(ih q).2) ?_⟩;rw [LV,HC,Gb];exact ZV (by omega)
  ·omega
theorem yV {l:List Int} (h1:l.length<=1) (h2:0<=l.sum/\l.sum<=2 ^ 40):E4 l=true:=by
 unfold E4;rw [Bc,decide_eq_true_iff,jb8];refine ⟨by omega,λ x hx=>?_⟩
 match l,h1,h2,hx with
 | [y],_,h2,hx=>
  rw [jb6.mp hx];simp at h2;rw [Bc,decide_eq_true_iff,decide_eq_true_iff];omega
structure BoxN (a b c:Nat):Prop where
 box:BoxT a b c
 hc:1<=c
 bd:(AB b c).length ^ (a + 1)<=2 ^ 40
 ab:a<=30/\b<=30
section
variable {a b c:Nat}{low high:List (List Int)}
def TN (a b c:Nat) (low high:List (List Int)) (k:Nat) (r:List Int):List Int:=Cn a b c (λ i=>low.getD i []) (λ i=>high.getD i []) (λ _=>[]) k r
def qG (k:Nat) {r:List Int} (hr:r∈AB b c):(TN a b c low high k r).length<=1:=by
 have:=KP (a:=a) (b:=b) (c:=c) (lo:=λ i=>low.getD i []) (hi:=λ i=>high.getD i []) (ct:=λ _=>[]) (m:=0) (λ _=>AA _) (λ _ j hj=>by cases hj) k r hr
 rw [Nat.zero_mul,YK] at this;exact this
def XJ (N:BoxN a b c) (p:Pile a b c low) (q:Pile a b c high):f_must_be_two_piles [bx a b c,tb low,tb high]=.ok (.non,om,.non):=by
 have h1:=N.box.ha;have h2:=N.box.hb;have h3:=N.box.hc;have h4:=N.hc;have h5:=N.ab;exact yM p q (by omega) (by omega) (by omega)
def X8 (N:BoxN a b c) (p:Pile a b c low) (q:Pile a b c high):f_how_many_between [bx a b c,tb low,tb high]=.ok (.int ((BP (g low) (g high) c b a).length:Int),om,.non):=by
 have t:=Yr N.box p.tab q.tab (ps:=[]) (λ z hz=>by cases hz) (m:=0) (λ i=>AA _) (by omega) (by simp);have e:(CF a b c low high []).sum=((BP (g low) (g high) c b a).length:Int):=UY (by omega) p.lo q.hi;have hl:(CF a b c low high []).length<=1:=IT λ r hr=>qG a hr;have hs:(CF a b c low high []).sum<=2 ^ 40:=by
  unfold CF;rw [KO];have h1:=MM (f:=DD a b c (λ i=>low.getD i []) (λ i=>high.getD i []) a) (m:=(((AB b c).length ^ a:Nat):Int)) (by omega) (l:=AB b c) λ r _=>(Sl a r).2;have h2:(((AB b c).length ^ (a + 1):Nat):Int)<=((2 ^ 40:Nat):Int):=by exact_mod_cast N.bd
  rw [LV,HC,Gb] at h2;exact Fy h1 (Fy h2 (by decide))
 have so:E4 (CF a b c low high [])=true:=yV hl ⟨by rw [e];omega,hs⟩;rw [<- e];have v1:D5 (A3 f_must_be_two_piles pa7) [some (bx a b c,0),some (tb low,0),some (tb high,0)]=.nx [some (bx a b c,0),some (tb low,0),some (tb high,0)]:=Ic (AF (xs:=[(bx a b c,0),(tb low,0),(tb high,0)]) rfl (XJ N p q));exact BU rfl ((AV v1).trans (Cv (JR (A9 (AF (xs:=[(bx a b c,0),(tb low,0),(tb high,0),(.lst [],om)]) rfl t)) so)))
def Iu (b:Nat) (ah:Nat->Int) (q:List Int):Bool:=(A6 b).all λ i=>decide (q.getD i 0<=ah i)
end
abbrev _root_.pf1:=A3 f_is_whole_number (Ae (Aa 2) (Ac))
def Xf_is_place:Fs:=(Ag (Bi (bT (BN (AJ BV pd0) (AJ BV pf1))) (Au (bC (.bl false))) A1)
 (Au (Dh (EJ (λ i j=>decide (i<=j)) (λ i j=>decide (i < j)) (bC (.int 0)) (Aa 1) pb2) (EJ (λ i j=>decide (i<=j)) (λ i j=>decide (i < j)) (bC (.int 0)) (Aa 2) pa4))))
def f_is_place:Fn:=Ap false 3 0 Xf_is_place
open QQ
section
variable {hs:List C3}{a b c:Nat}
def Pile.anti {c:Int}{p:List (List Int)} (h:Pile a b c p):∀ {i j i' j':Nat},i<=i'->j<=j'->i' < a->j' < b->g p i' j'<=g p i j:=by
 intro i j i' j' h1 h2 h3 h4;have e1:∀ k,i + k < a->∀ j,j < b->g p (i + k) j<=g p i j:=by
  intro k;induction k with
  | zero=>intro _ j _;exact Dx _
  | succ k ih=>intro hk j hj;exact Fy (h.dn (i + k) j hk hj) (ih (by omega) j hj)
 have e2:∀ k,j + k < b->g p i (j + k)<=g p i j:=by
  intro k;induction k with
  | zero=>intro _;exact Dx _
  | succ k ih=>intro hk;exact Fy (h.rt i (j + k) (by omega) hk) (ih (by omega))
 have k1:=e1 (i' - i) (by omega) j' h4;have k2:=e2 (j' - j) (by omega);rw [show i + (i' - i)=i' by omega] at k1;rw [show j + (j' - j)=j' by omega] at k2;omega
def uf {lo hi:Nat->Nat->Int}{p:List (List Int)}:GG lo hi b a p=true↔∀ i j,i < a->j < b->lo i j<=g p i j/\g p i j<=hi i j:=by
 unfold GG DU EH;simp only [jb8,jc4,Bc,decide_eq_true_iff];exact ⟨λ h i j hi hj=>h i hi j hj,λ h i hi j hj=>h i j hi hj⟩
def zF:Nat->Nat->Int:=λ _ _=>0
def cF (c:Nat):Nat->Nat->Int:=λ _ _=>(c:Int)
end
section
variable {a b c:Nat}{hs:List C3}
def vX {i j:Nat} (hi:i < a) (hj:j < b):f_is_place [bx a b c,.int (i:Int),.int (j:Int)]=.ok (.bl true,om,.non):=by
 let R:Af:=[some (bx a b c,0),some (.int (i:Int),om),some (.int (j:Int),om)]
 have w:∀ n:Int,f_is_whole_number [.int n]=.ok (.bl true,om,.non):=Q2;have t1:bT (BN (AJ BV pd0) (AJ BV pf1)) R=.ok (false,R):=AN (Ox (a:=false) (b:=false) (Ez (b:=true) (AF (xs:=[(.int (i:Int),om)]) rfl (w _))) (λ _=>Ez (b:=true) (AF (xs:=[(.int (j:Int),om)]) rfl (w _))) rfl);have k1:=Lf (p:=λ i j=>decide (i<=j)) (q:=λ i j=>decide (i < j)) (f:=bC (.int 0)) (g:=Aa 1) (h:=Ab A5 (Aa 0) (bC (.int 0))) (ρ:=R) (i:=0) (j:=(i:Int)) (k:=(a:Int)) (d:=om) (e:=om) (c:=om) rfl rfl rfl;have k2:=Lf (p:=λ i j=>decide (i<=j)) (q:=λ i j=>decide (i < j)) (f:=bC (.int 0)) (g:=Aa 2) (h:=Ab A5 (Aa 0) (bC (.int 1))) (ρ:=R) (i:=0) (j:=(j:Int)) (k:=(b:Int)) (d:=om) (e:=om) (c:=om) rfl rfl rfl;rw [decide_eq_true (show (0:Int)<=i by omega),decide_eq_true (show (i:Int) < a by omega)] at k1;rw [decide_eq_true (show (0:Int)<=j by omega),decide_eq_true (show (j:Int) < b by omega)] at k2;exact BU rfl ((Eg t1).trans (Cv (Ii (a:=true) (b:=true) k1 (λ _=>k2) rfl)))
end
structure HV (L:List (Option PV)) (O:List Nat) (ρ:Af):Prop where
 len:ρ.length=L.length
 get:∀ (j:Nat) (x:PV),L[j]?=some (some x)->∃ d,ρ[j]?=some (some (x,d))
 own:∀ j∈O,∃ x d,ρ[j]?=some (some (x,d))/\d≠0
section
variable {L L':List (Option PV)}{O O':List Nat}{ρ:Af}
theorem HV.of (ρ:Af):HV (ρ.map λ s=>s.map (·.1)) [] ρ:=by
 refine ⟨by rw [AG],λ j x h=>?_,λ _ h=>nomatch h⟩;rw [CI] at h;cases e:ρ[j]? with
 | none=>rw [e] at h;cases h
 | some s=>
  rw [e] at h;cases s with
  | none=>cases h
  | some p=>obtain ⟨y,d⟩:=p;cases h;exact ⟨d,rfl⟩
def HV.var {j:Nat}{x:PV} (h:HV L O ρ) (e:L[j]?=some (some x)):Aa j ρ=.ok (x,dv x,ρ):=by
 obtain ⟨d,e⟩:=h.get j x e;unfold Aa;rw [e]
def HV.push {x:PV}{d:Nat} (h:HV L O ρ):HV (L++[some x]) O (ρ++[some (x,d)]):=by
 have hl:=h.len;refine ⟨by rw [BM,BM,hl];rfl,λ j y e=>?_,λ j hj=>?_⟩
 ·by_cases hj:j < L.length
  ·rw [C6 hj] at e;obtain ⟨d,e⟩:=h.get j y e;exact ⟨d,by rw [C6 (by omega)];exact e⟩
  ·rw [Gj (by omega)] at e;rw [Gj (by omega),hl];cases hk:j - L.length with
   | zero=>rw [hk] at e;cases e;exact ⟨d,rfl⟩
   | succ n=>rw [hk] at e;cases e
 ·obtain ⟨y,d,e,hd⟩:=h.own j hj;exact ⟨y,d,by rw [C6 (jb0.mp e).1];exact e,hd⟩
def Wk:List (Option PV)->List (Option PV)->Prop
 | [],[]=>True
 | none::a,_::b=>Wk a b
 | some x::a,some y::b=>x=y/\Wk a b
 | _,_=>False
theorem Wk.get:∀ {a b:List (Option PV)},Wk a b->a.length=b.length/\∀ (j:Nat) (x:PV),a[j]?=some (some x)->b[j]?=some (some x)
 | [],[],_=>⟨rfl,λ j x h=>by cases h⟩
 | none::a,y::b,h=>by
  obtain ⟨h1,h2⟩:=Wk.get (a:=a) (b:=b) (by cases y <;> exact h);refine ⟨by rw [Bw,Bw,h1],λ j x e=>?_⟩;cases j with
  | zero=>cases e
  | succ j=>exact h2 j x e
 | some x::a,some y::b,h=>by
  obtain ⟨h0,h⟩:x=y/\Wk a b:=h;obtain ⟨h1,h2⟩:=Wk.get h;refine ⟨by rw [Bw,Bw,h1],λ j z e=>?_⟩;cases j with
  | zero=>rw [<- h0];exact e
  | succ j=>exact h2 j z e
 | some x::a,none::b,h=>h.elim
 | [],_::_,h=>h.elim
 | some _::_,[],h=>h.elim
 | none::_,[],h=>h.elim
def HV.weak (h:HV L O ρ) (w:Wk L' L) (ho:∀ j∈O',j∈O):HV L' O' ρ:=⟨h.len.trans w.get.1.symm,λ j x e=>h.get j x (w.get.2 j x e),λ j hj=>h.own j (ho j hj)⟩
def X7 {d j e:Nat}{vs:List Nat}{x:PV} (h:ρ[j]?=some (some (x,e))):∃ e',(Bh d vs ρ)[j]?=some (some (x,e')):=by
 unfold Bh;split
 ·exact ⟨e,h⟩
 ·rw [JS,h];dsimp only [YE];split
  ·exact ⟨0,rfl⟩
  ·exact ⟨e,rfl⟩
def WC {d:Nat}{vs:List Nat}{ρ:Af}:(Bh d vs ρ).length=ρ.length:=by
 unfold Bh;split
 ·rfl
 ·exact MT vs ρ 0
def HV.cool {d:Nat}{vs:List Nat} (h:HV L O ρ):HV L [] (Bh d vs ρ):=⟨by rw [WC];exact h.len,λ j x e=>by
 obtain ⟨d',e⟩:=h.get j x e;exact X7 e,λ _ h=>nomatch h⟩
def HV.coolO {vs:List Nat} (h:HV L O ρ):HV L O (Bh om vs ρ):=by
 unfold Bh;rw [if_pos rfl];exact h
def HV.put {i d:Nat}{x:PV} (h:HV L O ρ) (hi:i < L.length) (ho:i∉O\/d≠0):HV (L.set i (some x)) O (ρ.set i (some (x,d))):=by
 have hl:=h.len;refine ⟨by rw [DA,DA,hl],λ j y e=>?_,λ j hj=>?_⟩
 ·by_cases hj:i=j
  ·subst hj;rw [DN hi] at e;cases e;exact ⟨d,DN (by omega)⟩
  ·rw [CO hj] at e;rw [CO hj];exact h.get j y e
 ·by_cases hij:i=j
  ·subst hij;rcases ho with ho | ho
   ·exact absurd hj ho
   ·exact ⟨x,d,DN (by omega),ho⟩
  ·rw [CO hij];exact h.own j hj
def HV.putO {i d:Nat}{x:PV} (h:HV L O ρ) (hi:i < L.length) (hd:d≠0):HV (L.set i (some x)) (i::O) (ρ.set i (some (x,d))):=by
 have h1:=h.put (x:=x) (d:=d) hi (.inr hd);refine ⟨h1.len,h1.get,λ j hj=>?_⟩;rcases jb4.mp hj with rfl | hj
 ·exact ⟨x,d,DN (by rw [h.len];exact hi),hd⟩
 ·exact h1.own j hj
def HV.set {i d:Nat}{f:Fx}{vs:List Nat}{x:PV} (h:HV L O ρ) (hf:f ρ=.ok (x,d,ρ)) (hi:i < L.length):∃ ρ',Aj false i f vs ρ=.nx ρ'/\HV (L.set i (some x)) [] ρ':=⟨_,Bm hf (by rw [h.len];exact hi) rfl,(h.cool).put hi (.inl (λ h=>nomatch h))⟩
def HV.setO {i:Nat}{f:Fx}{vs:List Nat}{x:PV} (h:HV L O ρ) (hf:f ρ=.ok (x,om,ρ)) (hi:i < L.length):∃ ρ',Aj false i f vs ρ=.nx ρ'/\HV (L.set i (some x)) O ρ':=⟨_,Bm hf (by rw [h.len];exact hi) rfl,(h.coolO).put hi (.inr (by decide))⟩
def HV.setN {i:Nat}{f:Fx}{vs:List Nat}{x:PV} (h:HV L O ρ) (hf:f ρ=.ok (x,om,ρ)) (hi:i < L.length):∃ ρ',Aj false i f vs ρ=.nx ρ'/\HV (L.set i (some x)) (i::O) ρ':=⟨_,Bm hf (by rw [h.len];exact hi) rfl,(h.coolO).putO hi (by decide)⟩
def HV.app {i:Nat}{f:Fx}{vs:List Nat}{xs:List PV}{y:PV} (h:HV L O ρ) (hx:L[i]?=some (some (.lst xs))) (ho:i∈O) (hf:f ρ=.ok (y,om,ρ)) (hl:xs.length < Az):∃ ρ',Co i f vs ρ=.nx ρ'/\HV (L.set i (some (.lst (xs++[y])))) O ρ':=by
 obtain ⟨x,d,e,hd⟩:=h.own i ho;obtain ⟨d',e'⟩:=h.get i _ hx;rw [e] at e';cases e';obtain ⟨d0,rfl⟩:∃ d0,d=d0 + 1:=⟨d - 1,by omega⟩
 have hi:i < L.length:=(jb0.mp hx).1;have c:Bh om vs ρ=ρ:=by unfold Bh;rw [if_pos rfl]
 exact ⟨_,LK (d:=d0 + 1) e hf (by rw [c];exact e) hd hl rfl,by rw [c];exact h.put hi (.inr (by split <;> decide))⟩
def HV.asgN {i:Nat} (x:PV) (h:HV L O ρ) (hi:i < L.length) (ho:i∉O):∃ ρ',asgN i x ρ=some ρ'/\HV (L.set i (some x)) O ρ':=by
 refine ⟨_,?_,h.put (x:=x) (d:=dv x) hi (.inl ho)⟩;unfold QQ.asgN;rw [if_pos (by rw [h.len];exact hi)]
def HV.asg3 {i j k:Nat} (x y z:PV) (h:HV L O ρ) (hi:i < L.length) (hj:j < L.length) (hk:k < L.length) (ho:i∉O/\j∉O/\k∉O):∃ ρ',asgT [i,j,k] (.tup [x,y,z]) ρ=some ρ'/\HV (((L.set i (some x)).set j (some y)).set k (some z)) O ρ':=by
 have hl:=h.len;refine ⟨((ρ.set i (some (x,dv x))).set j (some (y,dv y))).set k (some (z,dv z)),?_,((h.put hi (.inl ho.1)).put (by rw [DA];exact hj) (.inl ho.2.1)).put (by rw [DA,DA];exact hk) (.inl ho.2.2)⟩;unfold QQ.asgT;dsimp only;rw [BG,QQ.asgN,if_pos (by omega)];show BG [j,k] [y,z] _=_;rw [BG,QQ.asgN,if_pos (by rw [DA];omega)];show BG [k] [z] _=_;rw [BG,QQ.asgN,if_pos (by rw [DA,DA];omega)];rfl
def HV.asg2 {i j:Nat} (x y:PV) (h:HV L O ρ) (hi:i < L.length) (hj:j < L.length) (ho:i∉O/\j∉O):∃ ρ',asgT [i,j] (.tup [x,y]) ρ=some ρ'/\HV ((L.set i (some x)).set j (some y)) O ρ':=by
 have hl:=h.len;refine ⟨(ρ.set i (some (x,dv x))).set j (some (y,dv y)),?_,(h.put hi (.inl ho.1)).put (by rw [DA];exact hj) (.inl ho.2)⟩;unfold QQ.asgT;dsimp only;rw [BG,QQ.asgN,if_pos (by omega)];show BG [j] [y] _=_;rw [BG,QQ.asgN,if_pos (by rw [DA];omega)];rfl
theorem WS {asg:PV->Af->Option Af}{body:Fs}:∀ (els:List PV) (I:Nat->Af->Prop) (ρ:Af),I 0 ρ->(∀ j x ρ,els[j]?=some x->I j ρ->∃ ρ1 ρ2,asg x ρ=some ρ1/\body ρ1=.nx ρ2/\I (j + 1) ρ2)->∃ ρ',BQ asg body els ρ=.nx ρ'/\I els.length ρ'
 | [],I,ρ,h0,_=>⟨ρ,rfl,h0⟩
 | x::els,I,ρ,h0,hs=>by
  obtain ⟨ρ1,ρ2,e1,e2,h2⟩:=hs 0 x ρ rfl h0;obtain ⟨ρ',e,h⟩:=WS els (λ j=>I (j + 1)) ρ2 h2 λ j y ρ hj=>hs (j + 1) y ρ hj;exact ⟨ρ',by rw [BQ,e1];dsimp only;rw [e2];exact e,h⟩
def HV.coolK {d:Nat}{vs:List Nat} (h:HV L O ρ) (hv:∀ j∈O,vs.contains j=false):HV L O (Bh d vs ρ):=⟨by rw [WC];exact h.len,λ j x e=>by
 obtain ⟨d',e⟩:=h.get j x e;exact X7 e,λ j hj=>by
 obtain ⟨x,d',e,hd⟩:=h.own j hj;refine ⟨x,d',?_,hd⟩;unfold Bh;split
 ·exact e
 ·rw [JS,HB,hv j hj,e];rfl⟩
def HV.unp2 {i j:Nat}{f:Fx}{vs:List Nat}{x y:PV}{d:Nat} (h:HV L O ρ) (hf:f ρ=.ok (.tup [x,y],d,ρ)) (hi:i < L.length) (hj:j < L.length) (hv:∀ j∈O,vs.contains j=false) (ho:i∉O/\j∉O):∃ ρ',Cb (QQ.asgT [i,j]) f vs ρ=.nx ρ'/\HV ((L.set i (some x)).set j (some y)) O ρ':=by
 obtain ⟨ρ',e,h'⟩:=(h.coolK (d:=d) hv).asg2 x y hi hj ho;exact ⟨ρ',Wn hf e,h'⟩
def Gv (s:Fs) (ρ:Af) (y:PV):Prop:=∃ d ρ',s ρ=.rt y d ρ'
def Gv.nx {s r:Fs}{ρ1:Af}{y:PV} (e:s ρ=.nx ρ1) (h:Gv r ρ1 y):Gv (Ag s r) ρ y:=by
 obtain ⟨d,ρ',h⟩:=h;exact ⟨d,ρ',(AV e).trans h⟩
def Gv.ex {s r:Fs}{P:Af->Prop}{y:PV} (e:∃ ρ1,s ρ=.nx ρ1/\P ρ1) (h:∀ ρ1,P ρ1->Gv r ρ1 y):Gv (Ag s r) ρ y:=by
 obtain ⟨ρ1,e,p⟩:=e;exact Gv.nx e (h ρ1 p)
def Gv.no {c:Fb}{f r:Fs}{y:PV} (hc:c ρ=.ok (false,ρ)) (h:Gv r ρ y):Gv (Ag (Bi c f A1) r) ρ y:=by
 obtain ⟨d,ρ',h⟩:=h;exact ⟨d,ρ',(Eg hc).trans h⟩
def Gv.ret {f:Fx}{ρ1:Af}{d:Nat}{y:PV} (h:f ρ=.ok (y,d,ρ1)):Gv (Au f) ρ y:=⟨_,_,Cv h⟩
def Gv.fn {np k:Nat}{b:Fs}{xs:List PV}{y:PV} (hl:xs.length=np) (h:Gv b (xs.map (λ x=>some (x,dv x))++AK k none) y):∃ d z,Ap false np k b xs=.ok (y,d,z):=by
 obtain ⟨d,ρ',h⟩:=h;exact ⟨_,_,BU hl h⟩
def HV.unp3 {i j k:Nat}{f:Fx}{vs:List Nat}{x y z:PV}{d:Nat} (h:HV L O ρ) (hf:f ρ=.ok (.tup [x,y,z],d,ρ)) (hi:i < L.length) (hj:j < L.length) (hk:k < L.length):∃ ρ',Cb (asgT [i,j,k]) f vs ρ=.nx ρ'/\HV (((L.set i (some x)).set j (some y)).set k (some z)) [] ρ':=by
 obtain ⟨ρ',e,h'⟩:=(h.cool (d:=d) (vs:=vs)).asg3 x y z hi hj hk ⟨λ h=>(nomatch h),λ h=>(nomatch h),λ h=>(nomatch h)⟩;exact ⟨ρ',Wn hf e,h'⟩
def Nx (s:Fs) (ρ:Af) (P:Af->Prop):Prop:=∃ ρ',s ρ=.nx ρ'/\P ρ'
section
variable {P Q:Af->Prop}{s r:Fs}
def Nx.seq (h:Nx s ρ P) (k:∀ ρ',P ρ'->Nx r ρ' Q):Nx (Ag s r) ρ Q:=by
 obtain ⟨ρ1,e,p⟩:=h;obtain ⟨ρ2,e2,q⟩:=k ρ1 p;exact ⟨ρ2,(AV e).trans e2,q⟩
def Nx.mono (h:Nx s ρ P) (k:∀ ρ',P ρ'->Q ρ'):Nx s ρ Q:=by
 obtain ⟨ρ1,e,p⟩:=h;exact ⟨ρ1,e,k ρ1 p⟩
def Nx.yes {c:Fb} (hc:c ρ=.ok (true,ρ)) (h:Nx s ρ P):Nx (Bi c s r) ρ P:=by
 obtain ⟨ρ1,e,p⟩:=h;exact ⟨ρ1,(C7 hc).trans e,p⟩
def Nx.no {c:Fb} (hc:c ρ=.ok (false,ρ)) (h:P ρ):Nx (Bi c s A1) ρ P:=⟨ρ,(Cw hc).trans rfl,h⟩
def Nx.loop {asg:PV->Af->Option Af}{els:List PV} (I:Nat->Af->Prop) (h0:I 0 ρ) (hs:∀ k x ρ,els[k]?=some x->I k ρ->∃ ρ1,asg x ρ=some ρ1/\Nx s ρ1 (I (k + 1))):∃ ρ',BQ asg s els ρ=.nx ρ'/\I els.length ρ':=WS els I ρ h0 λ k x ρ e h=>by
 obtain ⟨ρ1,e1,ρ2,e2,h2⟩:=hs k x ρ e h;exact ⟨ρ1,ρ2,e1,e2,h2⟩
def wI {n k:Nat}{x:PV} (hx:((A6 n).map λ (k:Nat)=>PV.int (k:Int))[k]?=some x):k < n/\x=.int (k:Int):=by
 rw [CI] at hx;by_cases hk:k < n
 ·rw [K8 hk] at hx;cases hx;exact ⟨hk,rfl⟩
 ·rw [FD (by rw [Gh];omega)] at hx;cases hx
def Nx.forR {asg:PV->Af->Option Af}{f:Fx}{n d:Nat} (I:Nat->Af->Prop) (hf:f ρ=.ok (.int (n:Int),d,ρ)) (hn:n<=1000) (h0:I 0 ρ) (hs:∀ k ρ,k < n->I k ρ->∃ ρ1,asg (.int (k:Int)) ρ=some ρ1/\Nx s ρ1 (I (k + 1))):Nx (CP BI (Ae f Ac) asg s) ρ (I n):=by
 obtain ⟨ρ',e,h⟩:=Nx.loop (els:=(A6 n).map λ (k:Nat)=>.int (k:Int)) I h0 λ k x ρ hx h=>by
  obtain ⟨hk,rfl⟩:=wI hx;exact hs k ρ hk h
 rw [AG,Gh] at h;exact ⟨ρ',jn (A9 hf) (FI (by omega) (by omega)) e,h⟩
def Ge (s:Fs) (ρ:Af) (P:PV->Prop):Prop:=∃ y d ρ',s ρ=.rt y d ρ'/\P y
def Ge.ex {R:PV->Prop} (h:Nx s ρ P) (k:∀ ρ',P ρ'->Ge r ρ' R):Ge (Ag s r) ρ R:=by
 obtain ⟨ρ1,e,p⟩:=h;obtain ⟨y,d,ρ',e',q⟩:=k ρ1 p;exact ⟨y,d,ρ',(AV e).trans e',q⟩
def Ge.retV {R:PV->Prop}{i:Nat}{x:PV} (h:HV L O ρ) (e:L[i]?=some (some x)) (p:R x):Ge (DV i) ρ R:=by
 obtain ⟨d,e⟩:=h.get i x e;exact ⟨x,d,ρ,by unfold DV;rw [e],p⟩
def Ge.fn {R:PV->Prop}{np k:Nat}{b:Fs}{xs:List PV} (hl:xs.length=np) (h:Ge b (xs.map (λ x=>some (x,dv x))++AK k none) R):∃ y d,Ap false np k b xs=.ok (y,d,.non)/\R y:=by
 obtain ⟨y,d,ρ',h,p⟩:=h;exact ⟨y,d,BU hl h,p⟩
end
end
def OH:List Int->Bool
 | []=>true
 | x::l=>l.all (λ y=>!(x == y)) && OH l
theorem V1:∀ {l:List Int},OH l=true->l.Pairwise (·≠·)
 | [],_=>List.Pairwise.nil
 | x::l,h=>by
  rw [OH,Bc] at h;refine List.Pairwise.cons (λ y hy=>?_) (V1 h.2)
  have:=jb8.mp h.1 y hy
  simpa using this
def Pe (b c:Nat):Bool:=OH ((AB b c).map λ r=>GC (AI r))
theorem WV {α:Type}{f:α->Int}:∀ {l:List α}{x:Int},(l.map f).Pairwise (·≠·)->(l.filter λ y=>f y == x).length<=1
 | [],_,_=>by simp
 | y::l,x,h=>by
  rw [Be,Zq] at h;rw [Ep];split
  ·rename_i e
   have:l.filter (λ z=>f z == x)=[]:=by
    rw [ji3];intro z hz e2;exact h.1 _ (List.mem_map_of_mem hz) ((eq_of_beq e).trans (eq_of_beq e2).symm)
   rw [this];simp
  ·exact WV h.2
def dk_of {b c:Nat} (h:Pe b c=true):DP ((AB b c).map AI)=true:=by
 unfold Pe at h;have hp:=V1 h;unfold DP;rw [Bc,jb8,jb8];refine ⟨λ k hk=>?_,λ k hk=>?_⟩
 ·obtain ⟨r,_,rfl⟩:=jd6.mp hk;rw [jb8];intro x hx;obtain ⟨n,_,rfl⟩:=jd6.mp hx;rfl
 ·rw [decide_eq_true_iff];refine WV (f:=GC) ?_;rw [CH];exact hp
def jZ {n:Nat}{c:Nat}:(AB n c).length<=(c + 1) ^ n:=Yb (m:=c + 1) n λ j _=>by omega
def qI {a b c:Nat} (ha:1<=a/\a<=6) (hb:1<=b/\b<=6) (hc:c<=6) (h:Pe b c=true):BoxT a b c:=by
 refine ⟨by omega,by omega,by omega,dk_of h,λ n hn=>?_⟩;have h1:(c + 1) ^ n<=7 ^ n:=Nat.pow_le_pow_left (by omega) n;have h2:7 ^ n<=7 ^ 6:=Nat.pow_le_pow_right (by omega) (by omega)
 have:=jZ (n:=n) (c:=c)
 omega
section
variable {a b c:Nat}{hs:List C3}
end
abbrev _root_.pb1:=Dh pf1 (EJ (λ i j=>decide (i<=j)) (λ i j=>decide (i < j)) (bC (.int 0)) (Aa 2) (Aa 3))
abbrev _root_.pf4:=Ae (Aa 1) (Ae (Aa 0) (Ac))
def Xf_is_cube_in:Fs:=(Ag (Bi (bT (BN (AJ BV (AJ (CT "tuple") (Aa 1))) (Ab (AD true) pb6 (bC (.int 3))))) (Au (bC (.bl false))) A1)
 (Au (Am EL (Ae (Di .zp pf4 2 (asgT [2,3]) Bp pb1) (Ac)))))
def f_is_cube_in:Fn:=Ap false 2 0 Xf_is_cube_in
end QV
namespace K46
open PySem PySem.Spec PyProof.Rows L2 QQ
theorem M1 {α:Type}{x:Option α}{d:α} (h:x.isSome=true):x=some (x.getD d):=by
 cases x with
 | none=>cases h
 | some a=>rfl
abbrev GT:=List (Str×(Bool×Nat×Fn))
abbrev mS (N:List Str) (t:Stmt) (m:List Nat) (G:GT):Sx:=⟨N,Aw t,m,[],G,[],true,[0,1,2,3,4,5,6,7,8,9,10,11],[]⟩
def G0:GT:=[]
def S0:Sx:=⟨["thing"],Aw t0,[],[],G0,[],false,[],[]⟩
abbrev b0:Fs:=QV.Xf_is_whole_number
abbrev F0:Fn:=QV.f_is_whole_number
def h0:AX (Av 60 S0) (AY t0)=some b0:=by kernel_rfl
def G1:GT:=[("is_whole_number",(false,1,F0))]
def S1:Sx:=⟨["thing"],Aw t1,[],[],G1,[],false,[],[]⟩
abbrev b1:Fs:=QV.Xf_is_box
abbrev F1:Fn:=QV.f_is_box
def h1:AX (Av 60 S1) (AY t1)=some b1:=by kernel_rfl
def G2:GT:=[("is_box",(false,1,F1))]
def S2:Sx:=⟨["box"],Aw t2,[],[],G2,[],false,[],[]⟩
abbrev b2:Fs:=QV.Xf_must_be_box
abbrev F2:Fn:=QV.f_must_be_box
def h2:AX (Av 60 S2) (AY t2)=some b2:=by kernel_rfl
def G3:GT:=[("is_whole_number",(false,1,F0))]
def S3:Sx:=⟨["thing","columns","height"],Aw t3,[],[],G3,[],false,[],[]⟩
abbrev b3:Fs:=QV.Xf_is_row_of_heights
abbrev F3:Fn:=QV.f_is_row_of_heights
def h3:AX (Av 60 S3) (AY t3)=some b3:=by kernel_rfl
def G4:GT:=[]
def S4:Sx:=⟨["numbers"],Aw t4,[],[],G4,[],false,[],[]⟩
abbrev b4:Fs:=QV.Xf_never_rises
abbrev F4:Fn:=QV.f_never_rises
def h4:AX (Av 60 S4) (AY t4)=some b4:=by kernel_rfl
def G5:GT:=[]
def S5:Sx:=⟨["table","j"],Aw t5,[],[],G5,[],false,[],[]⟩
abbrev b5:Fs:=QV.Xf_column_of
abbrev F5:Fn:=QV.f_column_of
def h5:AX (Av 60 S5) (AY t5)=some b5:=by kernel_rfl
def G6:GT:=[("must_be_box",(false,1,F2)),("is_row_of_heights",(false,3,F3)),("never_rises",(false,1,F4)),("column_of",(false,2,F5))]
def S6:Sx:=⟨["box","thing","rows","columns","height"],Aw t6,[],[],G6,[],false,[],[]⟩
abbrev b6:Fs:=QV.Xf_is_pile
abbrev F6:Fn:=QV.f_is_pile
def h6:AX (Av 60 S6) (AY t6)=some b6:=by kernel_rfl
def G7:GT:=[("is_pile",(false,2,F6))]
def S7:Sx:=⟨["box","pile"],Aw t7,[],[],G7,[],false,[],[]⟩
abbrev b7:Fs:=QV.Xf_must_be_pile
abbrev F7:Fn:=QV.f_must_be_pile
def h7:AX (Av 60 S7) (AY t7)=some b7:=by kernel_rfl
def G8:GT:=[("is_whole_number",(false,1,F0))]
def S8:Sx:=⟨["box","thing"],Aw t8,[],[],G8,[],false,[],[]⟩
abbrev b8:Fs:=QV.Xf_is_cube_in
abbrev F8:Fn:=QV.f_is_cube_in
def h8:AX (Av 60 S8) (AY t8)=some b8:=by kernel_rfl
def G9:GT:=[("must_be_pile",(false,2,F7))]
def S9:Sx:=⟨["box","pile","other"],Aw t9,[],[],G9,[],false,[],[]⟩
abbrev b9:Fs:=QV.Xf_must_be_two_piles
abbrev F9:Fn:=QV.f_must_be_two_piles
def h9:AX (Av 60 S9) (AY t9)=some b9:=by kernel_rfl
def bZ:GT:=[]
def S10:Sx:=⟨["box","places","i"],Aw Hx,[],[],bZ,[],false,[],[]⟩
abbrev bj:Fs:=QV.Xf_places_of
abbrev P4:Fn:=QV.f_places_of
def h10:AX (Av 60 S10) (AY Hx)=some bj:=by kernel_rfl
def bY:GT:=[("is_whole_number",(false,1,F0))]
def S11:Sx:=⟨["box","i","j"],Aw Ol,[],[],bY,[],false,[],[]⟩
abbrev bh:Fs:=QV.Xf_is_place
abbrev P2:Fn:=QV.f_is_place
def h11:AX (Av 60 S11) (AY Ol)=some bh:=by kernel_rfl
def bX:GT:=[("must_be_two_piles",(false,3,F9)),("places_of",(false,1,P4))]
def S12:Sx:=⟨["box","pile","other"],Aw Oj,[],[],bX,[],false,[],[]⟩
abbrev bg:Fs:=QV.Xf_lies_below
abbrev Uj:Fn:=QV.f_lies_below
def Gp:AX (Av 60 S12) (AY Oj)=some bg:=by kernel_rfl
def bW:GT:=[]
def S13:Sx:=⟨["columns","height","rows","j","longer","row","most"],Aw Oi,[],[],bW,[],false,[],[]⟩
abbrev bf:Fs:=QV.Xf_rows_of_heights
abbrev ZR:Fn:=QV.f_rows_of_heights
def uV:AX (Av 60 S13) (AY Oi)=some bf:=by kernel_rfl
def bU:GT:=[]
def S14:Sx:=⟨["tally","other","total","n","many"],Aw Oh,[],[],bU,[],false,[],[]⟩
abbrev bc:Fs:=QV.Xf_added
abbrev Ui:Fn:=QV.f_added
def uU:AX (Av 60 S14) (AY Oh)=some bc:=by kernel_rfl
def bS:GT:=[("added",(false,2,Ui))]
def S15:Sx:=⟨["table","columns","sums","j","row","lower"],Aw Og,[],[],bS,[],false,[],[]⟩
abbrev ba:Fs:=QV.Xf_sums_of_lower_rows
abbrev ZQ:Fn:=QV.f_sums_of_lower_rows
def uT:AX (Av 60 S15) (AY Og)=some ba:=by kernel_rfl
def bR:GT:=[]
def S16:Sx:=⟨["row","low","high"],Aw Of,[],[],bR,[],false,[],[]⟩
abbrev gZ:Fs:=QV.Xf_lies_between
abbrev ZP:Fn:=QV.f_lies_between
def uS:AX (Av 60 S16) (AY Of)=some gZ:=by kernel_rfl
def bQ:GT:=[("lies_between",(false,3,ZP))]
def S17:Sx:=⟨["behind","low","high","counted","table","row"],Aw Oe,[],[],bQ,[],false,[],[]⟩
abbrev gY:Fs:=QV.Xf_table_of_row
abbrev ZO:Fn:=QV.f_table_of_row
def uR:AX (Av 60 S17) (AY Oe)=some gY:=by kernel_rfl
def bP:GT:=[("rows_of_heights",(false,2,ZR)),("sums_of_lower_rows",(false,2,ZQ)),("table_of_row",(false,4,ZO))]
def S18:Sx:=⟨["box","low","high","places","rows","columns","height","table","row","tables","i","counted"],Aw Od,[],[],bP,[],false,[],[]⟩
abbrev gW:Fs:=QV.Xf_tables_between
abbrev ZN:Fn:=QV.f_tables_between
def uQ:AX (Av 60 S18) (AY Od)=some gW:=by kernel_rfl
def bO:GT:=[("added",(false,2,Ui)),("tables_between",(false,4,ZN))]
def S19:Sx:=⟨["box","low","high","places","total","tally"],Aw Oc,[],[],bO,[],false,[],[]⟩
abbrev gU:Fs:=QV.Xf_tally_between
abbrev IH:Fn:=QV.f_tally_between
def uP:AX (Av 60 S19) (AY Oc)=some gU:=by kernel_rfl
def bN:GT:=[]
def S20:Sx:=⟨["number","other"],Aw Ob,[],[],bN,[],false,[],[]⟩
abbrev _root_.pg2:=Ae (Aa 1) (Ae (Ab CC (Aa 0) (Aa 1)) (Ac))
abbrev _root_.pf9:=Ab (C1 λ i j=>decide (j < i)) (Aa 1) (bC (.int 0))
def TZ:Fs:=(Ag (Sf (bT pf9) (DF 0 1 pg2))
 (DV 0))
def P1:Fn:=Ap false 2 0 TZ
def uO:AX (Av 60 S20) (AY Ob)=some TZ:=by kernel_rfl
def bM:GT:=[("greatest_divisor",(false,2,P1))]
def S21:Sx:=⟨["top","bottom","divisor"],Aw Oa,[],[],bM,[],false,[],[]⟩
abbrev _root_.pe4:=Au (Am BJ (Ae (Ab GW (Aa 0) (Aa 2)) (Ae (Ab GW (Aa 1) (Aa 2)) (Ac))))
def Po:Fs:=(Ag (Aj false 2 (A3 P1 pe0) [0,1])
 pe4)
def J8:Fn:=Ap false 2 1 Po
def uN:AX (Av 60 S21) (AY Oa)=some Po:=by kernel_rfl
def bL:GT:=[("lies_below",(false,3,Uj))]
def S22:Sx:=⟨["box","low","high"],Aw NZ,[],[],bL,[],false,[],[]⟩
def TY:Fs:=(Bi (bT (AJ BV (A3 Uj pa7))) FX A1)
def GP:Fn:=Ap false 3 0 TY
def uM:AX (Av 60 S22) (AY NZ)=some TY:=by kernel_rfl
def bK:GT:=[("in_least_numbers",(false,2,J8))]
def S23:Sx:=⟨["tally"],Aw NY,[],[],bK,[],false,[],[]⟩
def TX:Fs:=(Au (A3 J8 (Ae (Am Fl (Ae (Di .enm (Ae (Aa 0) (Ac)) 2 (asgT [1,2]) Bp (Ab BD (Aa 1) (Aa 2))) (Ac))) (Ae (Am Fl (Ae (Aa 0) (Ac))) (Ac)))))
def J7:Fn:=Ap false 1 0 TX
def uL:AX (Av 60 S23) (AY NY)=some TX:=by kernel_rfl
def bJ:GT:=[("is_cube_in",(false,2,F8)),("tally_between",(false,4,IH)),("in_least_numbers",(false,2,J8)),("must_be_piles_between",(false,3,GP))]
def S24:Sx:=⟨["box","low","high","cube","i","j","k","tally"],Aw NX,[],[],bJ,[],false,[],[]⟩
def TV:Fs:=(Ag (D5 (A3 GP pa7))
 (Ag (Bi (bT (AJ BV (A3 F8 (Ae (Aa 0) (Ae (Aa 3) (Ac)))))) FX A1)
 (Ag (Cb (asgT [4,5,6]) (Aa 3) [3])
 (Ag (Aj false 7 (A3 IH (Ae (Aa 0) (Ae (Aa 1) (Ae (Aa 2) (Ae (Am BB (Ae (Am BJ pe2) (Ac))) (Ac)))))) [0,1,2,4,5])
 (Au (A3 J8 (Ae (Am Fl (Ae (D0 (Aa 7) (some pe5) none) (Ac))) (Ae (Am Fl (Ae (Aa 7) (Ac))) (Ac)))))))))
def HX:Fn:=Ap false 4 4 TV
def uK:AX (Av 60 S24) (AY NX)=some TV:=by kernel_rfl
def bI:GT:=[("is_place",(false,3,P2)),("tally_between",(false,4,IH)),("must_be_piles_between",(false,3,GP)),("mean_of",(false,1,J7))]
def S25:Sx:=⟨["box","low","high","i","j"],Aw NW,[],[],bI,[],false,[],[]⟩
def TU:Fs:=(Ag (D5 (A3 GP pa7))
 (Ag (Bi (bT (AJ BV (A3 P2 (Ae (Aa 0) pb8)))) FX A1)
 (Au (A3 J7 (Ae (A3 IH (Ae (Aa 0) (Ae (Aa 1) (Ae (Aa 2) (Ae (Am BB (Ae (Am BJ pb8) (Ac))) (Ac)))))) (Ac))))))
def Mu:Fn:=Ap false 5 0 TU
def uJ:AX (Av 60 S25) (AY NW)=some TU:=by kernel_rfl
def bH:GT:=[("places_of",(false,1,P4)),("tally_between",(false,4,IH)),("must_be_piles_between",(false,3,GP)),("mean_of",(false,1,J7))]
def S26:Sx:=⟨["box","low","high"],Aw NV,[],[],bH,[],false,[],[]⟩
def TR:Fs:=(Ag (D5 (A3 GP pa7))
 (Au (A3 J7 (Ae (A3 IH (Ae (Aa 0) (Ae (Aa 1) (Ae (Aa 2) (Ae (A3 P4 (Ae (Aa 0) (Ac))) (Ac)))))) (Ac)))))
def P0:Fn:=Ap false 3 0 TR
def uI:AX (Av 60 S26) (AY NV)=some TR:=by kernel_rfl
def bG:GT:=[("must_be_two_piles",(false,3,F9)),("tally_between",(false,4,IH))]
def S27:Sx:=⟨["box","low","high"],Aw NU,[],[],bG,[],false,[],[]⟩
abbrev gT:Fs:=QV.Xf_how_many_between
abbrev Pz:Fn:=QV.f_how_many_between
def uH:AX (Av 60 S27) (AY NU)=some gT:=by kernel_rfl
def bF:GT:=[]
def S28:Sx:=⟨["script","k"],Aw NT,[],[],bF,[],false,[],[]⟩
abbrev gS:Fs:=QV.Xb_cell_at
abbrev Mt:Fn:=QV.b_cell_at
def uG:AX (Av 60 S28) (AY NT)=some gS:=by kernel_rfl
def bE:GT:=[]
def S29:Sx:=⟨["cell","k","one"],Aw NS,[],[],bE,[],false,[],[]⟩
abbrev gR:Fs:=QV.Xb_stir
abbrev Mr:Fn:=QV.b_stir
def uF:AX (Av 60 S29) (AY NS)=some gR:=by kernel_rfl
def bD:GT:=[("_law_stir",(false,2,Mr))]
def S30:Sx:=⟨["cell","many","found","digits","k","number"],Aw NR,[],[],bD,[],false,[],[]⟩
abbrev gQ:Fs:=QV.Xb_numbers
abbrev KG:Fn:=QV.b_numbers
def uE:AX (Av 60 S30) (AY NR)=some gQ:=by kernel_rfl
def RC:Fn:=λ _=>.no
def qh:GT:=[("_law_alike",(false,2,RC))]
def RD:Sx:=⟨["found","due","one","other"],Aw EB,[],[],qh,[],false,[],[]⟩
def RG:Fs:=(AX (Av 60 RD) (AY EB)).getD A1
def L7:Fn:=Ap false 2 2 RG
def qu:AX (Av 60 RD) (AY EB)=some RG:=M1 (by decide +kernel)
def qi:GT:=[("_law_alike",(false,2,L7))]
def RE:Sx:=⟨["found","due","one","other"],Aw EB,[],[],qi,[],false,[],[]⟩
def RH:Fs:=(AX (Av 60 RE) (AY EB)).getD A1
def L8:Fn:=Ap false 2 2 RH
def qv:AX (Av 60 RE) (AY EB)=some RH:=M1 (by decide +kernel)
def qj:GT:=[("_law_alike",(false,2,L8))]
def RF:Sx:=⟨["found","due","one","other"],Aw EB,[],[],qj,[],false,[],[]⟩
def R6:Fs:=(AX (Av 60 RF) (AY EB)).getD A1
def L9:Fn:=Ap false 2 2 R6
def qw:AX (Av 60 RF) (AY EB)=some R6:=M1 (by decide +kernel)
def qk:GT:=[("_law_alike",(false,2,L9))]
def Oo:Sx:=⟨["found","due","one","other"],Aw EB,[],[],qk,[],false,[],[]⟩
def R7:Fs:=(AX (Av 60 Oo) (AY EB)).getD A1
def Om:Fn:=Ap false 2 2 R7
def qx:AX (Av 60 Oo) (AY EB)=some R7:=M1 (by decide +kernel)
abbrev J6:Fn:=Om
abbrev S31:Sx:=Oo
def bB:GT:=[("_law_numbers",(false,2,KG))]
def S32:Sx:=⟨["box","script","start","cell","numbers","pile","i","row","j","number","top"],Aw NQ,[],[],bB,[],false,[],[]⟩
abbrev gP:Fs:=QV.Xb_pile
abbrev Py:Fn:=QV.b_pile
def uD:AX (Av 60 S32) (AY NQ)=some gP:=by kernel_rfl
def bA:GT:=[("_law_stir",(false,2,Mr)),("_law_pile",(false,4,Py))]
def S33:Sx:=⟨["box","script","cell","one","other","low","high","way"],Aw NP,[],[],bA,[],false,[],[]⟩
abbrev _root_.pd9:=Ae (Aa 10) (Ae (Aa 11) (Ac))
def Pn:Fs:=(Ag (Aj false 3 (A3 Py (Ae (Aa 0) (Ae (Aa 1) (Ae (bC (.int 3)) (Ae (Aa 2) (Ac)))))) [0,1,2])
 (Ag (Aj false 4 (A3 Py (Ae (Aa 0) (Ae (Aa 1) (Ae (Ab Bs (bC (.int 3)) (Ab BD pb2 pa4)) (Ae (A3 Mr (Ae (Aa 2) (Ae (bC (.int 60)) (Ac)))) (Ac)))))) [0,1,0,0,2])
 (Ag (Aj false 5 (Di .zp pb8 2 (asgT [8,9]) Bp (Di .zp (Ae (Aa 8) (Ae (Aa 9) (Ac))) 2 (asgT [10,11]) Bp (Am GA pd9))) [3,4,3,4,3,4,3,4,3,4,3,4,3,4])
 (Ag (Aj false 6 (Di .zp pb8 2 (asgT [8,9]) Bp (Di .zp (Ae (Aa 8) (Ae (Aa 9) (Ac))) 2 (asgT [10,11]) Bp (Am Hl pd9))) [3,4,3,4,3,4,3,4,3,4,3,4,3,4])
 (Ag (Aj false 7 (Ab CC (A3 Mr (Ae (Aa 2) (Ae (bC (.int 61)) (Ac)))) (bC (.int 5))) [2])
 (Ag (Bi (bT (Ab (C1 λ i j=>decide (j < i)) (Aa 7) (bC (.int 1)))) (Aj false 5 (Cz (Aa 3) 1 (asgN 8) Bp (Ab BD pe1 pa4)) [3,0]) A1)
 (Ag (Bi (bT (Ab (C1 λ i j=>decide (j < i)) (Aa 7) (bC (.int 2)))) (Aj false 6 (Cz (Aa 3) 1 (asgN 8) Bp (Ab BD (Am BB pe9) pa4)) [3,0,0]) A1)
 (Au (Am BJ pc5)))))))))
def Px:Fn:=Ap false 3 5 Pn
def uC:AX (Av 60 S33) (AY NP)=some Pn:=by kernel_rfl
def bz:GT:=[]
def S34:Sx:=⟨["top","bottom","one","other","left"],Aw NO,[],[],bz,[],false,[],[]⟩
def Pm:Fs:=(Ag (Aj false 2 (Am Ow (Ae (Aa 0) (Ac))) [0])
 (Ag (Aj false 3 (Aa 1) [1])
 (Ag (Sf (bT (Ab (AD true) (Aa 3) (bC (.int 0)))) (Ag (Aj false 4 (Ab CC (Aa 2) (Aa 3)) [2,3])
 (Ag (Aj false 2 (Aa 3) [3])
 (Aj false 3 (Aa 4) [4]))))
 pe4)))
def J5:Fn:=Ap false 2 3 Pm
def uB:AX (Av 60 S34) (AY NO)=some Pm:=by kernel_rfl
def bw:GT:=[("_law_numbers",(false,2,KG))]
def S35:Sx:=⟨["cell","numbers","most"],Aw NM,[],[],bw,[],false,[],[]⟩
abbrev _root_.pa6:=Ae (Am BJ (Ae (bC (.int 2)) (Ae (bC (.int 5)) (Ae (bC (.int 2)) (Ac))))) (Ae (Am BJ (Ae (bC (.int 3)) (Ae (bC (.int 4)) (Ae (bC (.int 2)) (Ac))))) (Ae (Am BJ (Ae (bC (.int 2)) (Ae (bC (.int 2)) (Ae (bC (.int 6)) (Ac))))) (Ae (Am BJ (Ae (bC (.int 6)) (Ae (bC (.int 1)) (Ae (bC (.int 2)) (Ac))))) (Ae (Am BJ (Ae (bC (.int 2)) (Ae (bC (.int 6)) (Ae (bC (.int 1)) (Ac))))) (Ae (Am BJ (Ae (bC (.int 1)) (Ae (bC (.int 6)) (Ae (bC (.int 3)) (Ac))))) (Ac))))))
abbrev _root_.pe7:=Ab A5 (Aa 1) (bC (.int 1))
abbrev _root_.pe6:=Ab A5 (Aa 1) (bC (.int 0))
abbrev _root_.pd7:=Ab CC (Ab A5 (Aa 1) (bC (.int 3))) (bC (.int 8))
abbrev _root_.pg3:=A3 KG (Ae (Aa 0) (Ae (bC (.int 4)) (Ac)))
def Pl:Fs:=(Ag (Aj false 1 pg3 [0])
 (Ag (Aj false 2 (bC (.int 3)) [])
 (Ag (Bi (bT (Ab (AD false) pd7 (bC (.int 3)))) (Aj false 2 (bC (.int 4)) []) A1)
 (Ag (Bi (bT (Ab (AD false) pd7 (bC (.int 5)))) (Au (Ab A5 (Am BB pa6) (Ab CC (Ab GW pe6 (bC (.int 8))) (bC (.int 6))))) A1)
 (Au (Am BJ (Ae (Ab Bs (bC (.int 1)) (Ab CC pe6 (Aa 2))) (Ae (Ab Bs (bC (.int 1)) (Ab CC pe7 (bC (.int 2)))) (Ae (Ab Bs (bC (.int 1)) (Ab CC (Ab A5 (Aa 1) (bC (.int 2))) (Aa 2))) (Ac))))))))))
def Mq:Fn:=Ap false 1 2 Pl
def uA:AX (Av 60 S35) (AY NM)=some Pl:=by kernel_rfl
def bu:GT:=[]
def S36:Sx:=⟨["low","i","j","k","found","x","row"],Aw NL,[],[],bu,[],false,[],[]⟩
abbrev _root_.pd2:=Ae (Dh (Ab (C1 λ i j=>decide (i<=j)) (Aa 5) (Aa 1)) (Ab (C1 λ i j=>decide (i<=j)) (Aa 7) (Aa 2))) (Ac)
abbrev _root_.pa8:=Ae (Aa 8) (Ae (Ab BD (Ab Bs (Aa 3) (bC (.int 1))) (Am KZ pd2)) (Ac))
def Pk:Fs:=(Ag pe3
 (Ag (GD .enm (Ae (Aa 0) (Ac)) [0] (asgT [5,6]) (Co 4 (Di .enm (Ae (Aa 6) (Ac)) 2 (asgT [7,8]) Bp (Am Hl pa8)) [6,6,3,5,1,6,2]))
 (DV 4)))
def Pw:Fn:=Ap false 4 3 Pk
def u9:AX (Av 60 S36) (AY NL)=some Pk:=by kernel_rfl
def bt:GT:=[]
def S37:Sx:=⟨["one","other"],Aw NK,[],[],bt,[],false,[],[]⟩
def TQ:Fs:=(Au (Ab (C1 λ i j=>decide (i<=j)) (Ab BD pb2 pe7) (Ab BD pe6 pa4)))
def Pu:Fn:=Ap false 2 0 TQ
def u7:AX (Av 60 S37) (AY NK)=some TQ:=by kernel_rfl
def br:GT:=[("_law_low",(false,2,J5))]
def S38:Sx:=⟨["one","other"],Aw NJ,[],[],br,[],false,[],[]⟩
def TM:Fs:=(Au (A3 J5 (Ae (Ab Bs (Ab BD pb2 pe7) (Ab BD pe6 pa4)) (Ae (Ab BD pa4 pe7) (Ac)))))
def KC:Fn:=Ap false 2 0 TM
def u6:AX (Av 60 S38) (AY NJ)=some TM:=by kernel_rfl
def bq:GT:=[("cube_share",(false,4,HX)),("how_many_between",(false,3,Pz)),("_law_alike",(false,2,J6)),("_law_low",(false,2,J5)),("_law_put_to",(false,4,Pw)),("_law_below",(false,2,Pu))]
def S39:Sx:=⟨["box","low","high","cube","i","j","k","share","many","due","ahead"],Aw NI,[],[],bq,[],false,[],[]⟩
abbrev _root_.pc9:=Ae (bC (.int 0)) (Ae (bC (.int 1)) (Ac))
abbrev _root_.pb7:=bT (Dh (Ab (C1 λ i j=>decide (j<=i)) (Am GA (Ae (Aa 10) (Ac))) (bC (.int 0))) (AJ BV (A3 Pu (Ae (Aa 7) (Ae (A3 HX (Ae (Aa 0) (Ae (Aa 1) (Ae (Aa 2) (Ae (Aa 10) (Ac)))))) (Ac))))))
abbrev _root_.pg7:=Ae (bC (.int 1)) (Ae (bC (.int 1)) (Ac))
def Pj:Fs:=(Ag (Cb (asgT [4,5,6]) (Aa 3) [3])
 (Ag (Aj false 7 (A3 HX (Ae (Aa 0) (Ae (Aa 1) pb5))) [0,1,2,3])
 (Ag (Aj false 8 (A3 Pz pa7) [0,1,2])
 (Ag (Aj false 9 (A3 J5 (Ae (A3 Pz (Ae (Aa 0) (Ae (A3 Pw (Ae (Aa 1) (Ae (Aa 4) pc5))) (Ae (Aa 2) (Ac))))) (Ae (Aa 8) (Ac)))) [0,1,4,5,6,2,8])
 (Ag (Bi (bT (AJ BV (A3 J6 (Ae (Aa 7) (Ae (Aa 9) (Ac)))))) (Au (bC (.bl false))) A1)
 (Ag (Bi (bT (BN (Ab (AD true) (Ab (C1 λ i j=>decide (j < i)) (Ab A5 (Ab A5 (Aa 1) (Aa 4)) (Aa 5)) (Aa 6)) (Ab (AD false) (Aa 7) (Am BJ pg7))) (Ab (AD true) (Ab (C1 λ i j=>decide (i<=j)) (Ab A5 (Ab A5 (Aa 2) (Aa 4)) (Aa 5)) (Aa 6)) (Ab (AD false) (Aa 7) (Am BJ pc9))))) (Au (bC (.bl false))) A1)
 (Ag (E3 (Am BB (Ae (Am BJ (Ae (Ab FG (Aa 4) (bC (.int 1))) pc5)) (Ae (Am BJ (Ae (Aa 4) (Ae (Ab FG (Aa 5) (bC (.int 1))) (Ae (Aa 6) (Ac))))) (Ae (Am BJ (Ae (Aa 4) (Ae (Aa 5) (Ae (Ab FG (Aa 6) (bC (.int 1))) (Ac))))) (Ac))))) [4,5,6,4,5,6,4,5,6] (asgN 10) (Bi pb7 (Au (bC (.bl false))) A1))
 (Au (bC (.bl true))))))))))
def Pt:Fn:=Ap false 4 7 Pj
def u5:AX (Av 60 S39) (AY NI)=some Pj:=by kernel_rfl
def bp:GT:=[("cube_share",(false,4,HX)),("mean_height",(false,5,Mu)),("mean_cubes",(false,3,P0)),("_law_cell_at",(false,2,Mt)),("_law_numbers",(false,2,KG)),("_law_alike",(false,2,J6)),("_law_bounds",(false,3,Px)),("_law_box",(false,1,Mq)),("_law_plus",(false,2,KC)),("_law_cube_right",(false,4,Pt))]
def S40:Sx:=⟨["script","box","a","b","c","low","high","numbers","k","cube","i","j","height","together"],Aw L1,[],[],bp,[],false,[],[]⟩
abbrev _root_.pf7:=Ab BD (bC (.int 3)) (Aa 8)
def TL:Fs:=(Ag (Aj false 1 (A3 Mq (Ae (A3 Mt (Ae (Aa 0) (Ae (bC (.int 0)) (Ac)))) (Ac))) [0])
 (Ag (Cb (asgT [2,3,4]) (Aa 1) [1])
 (Ag (Cb (asgT [5,6]) (A3 Px (Ae (Aa 1) (Ae (Aa 0) (Ae (A3 Mt (Ae (Aa 0) (Ae (bC (.int 1)) (Ac)))) (Ac))))) [1,0,0])
 (Ag (Aj false 7 (A3 KG (Ae (A3 Mt (Ae (Aa 0) (Ae (bC (.int 2)) (Ac)))) (Ae (bC (.int 8)) (Ac)))) [0])
 (Ag (CP BI (Ae (bC (.int 2)) (Ac)) (asgN 8) (Ag (Aj false 9 (Am BJ (Ae (Ab CC (Ab A5 (Aa 7) pf7) (Aa 2)) (Ae (Ab CC (Ab A5 (Aa 7) (Ab Bs pf7 (bC (.int 1)))) (Aa 3)) (Ae (Ab CC (Ab A5 (Aa 7) (Ab Bs pf7 (bC (.int 2)))) (Aa 4)) (Ac))))) [7,8,2,7,8,3,7,8,4])
 (Bi (bT (AJ BV (A3 Pt (Ae (Aa 1) (Ae (Aa 5) (Ae (Aa 6) (Ae (Aa 9) (Ac)))))))) (Au (bC (.bl false))) A1)))
 (Ag (Aj false 10 (Ab CC (Ab A5 (Aa 7) (bC (.int 6))) (Aa 2)) [7,2])
 (Ag (Aj false 11 (Ab CC (Ab A5 (Aa 7) (bC (.int 7))) (Aa 3)) [7,3])
 (Ag (Aj false 12 (Am BJ pc9) [])
 (Ag (CP BI (Ae (Aa 4) (Ac)) (asgN 8) (Aj false 12 (A3 KC (Ae (Aa 12) (Ae (A3 HX (Ae (Aa 1) (Ae (Aa 5) (Ae (Aa 6) (Ae (Am BJ (Ae (Aa 10) (Ae (Aa 11) (Ae (Aa 8) (Ac))))) (Ac)))))) (Ac)))) [12,1,5,6,10,11,8]))
 (Ag (Bi (bT (AJ BV (A3 J6 (Ae (A3 Mu (Ae (Aa 1) (Ae (Aa 5) (Ae (Aa 6) pd9)))) (Ae (Aa 12) (Ac)))))) (Au (bC (.bl false))) A1)
 (Ag (Aj false 13 (Am BJ pc9) [])
 (Ag (CP BI (Ae (Aa 2) (Ac)) (asgN 10) (CP BI (Ae (Aa 3) (Ac)) (asgN 11) (Aj false 13 (A3 KC (Ae (Aa 13) (Ae (A3 Mu (Ae (Aa 1) (Ae (Aa 5) (Ae (Aa 6) pd9)))) (Ac)))) [13,1,5,6,10,11])))
 (Au (A3 J6 (Ae (A3 P0 (Ae (Aa 1) pc5)) (Ae (Aa 13) (Ac)))))))))))))))))
def F40:Fn:=Ap false 1 13 TL
def u4:AX (Av 60 S40) (AY L1)=some TL:=by kernel_rfl
end K46
namespace QV
open PySem PySem.Spec PyProof.Rows L2 QQ
section
variable {a b c:Nat}{low high t u:List (List Int)}
def qau {ah:Nat->Int}{q:List Int}:Iu b ah q=true↔∀ j,j < b->q.getD j 0<=ah j:=by
 unfold Iu;rw [jb8];exact ⟨λ h j hj=>of_decide_eq_true (h j (jc4.mpr hj)),λ h j hj=>decide_eq_true (h j (jc4.mp hj))⟩
end
section
variable {a b c:Nat}{low high t u:List (List Int)}
def Vs (h:Tab a b t) {i j:Nat} (hn:¬ (i < a/\j < b)):g t i j=0:=by
 unfold g;by_cases hi:i < a
 ·rw [AR,FD (by rw [h.row hi];omega)];rfl
 ·rw [AR (l:=t),FD (by rw [h.1];omega)];rfl
def TB (p:Pile a b c t) (i j:Nat):0<=g t i j:=by
 by_cases h:i < a/\j < b
 ·exact p.lo i j h.1 h.2
 ·rw [Vs p.tab h];exact Dx _
def ZH (p:Pile a b c t) (i j:Nat):g t i j<=c:=by
 by_cases h:i < a/\j < b
 ·exact p.hi i j h.1 h.2
 ·rw [Vs p.tab h];omega
def AllP (a b c:Nat):List (List (List Int)):=BP zF (cF c) c b a
def wC {p:List (List Int)} (h:p∈AllP a b c):Pile a b c p:=Uq (λ _ _=>Dx _) h
def J2 (a b:Nat) (low high p:List (List Int)):Bool:=GG (g low) (g high) b a p
def WH {p:List (List Int)}:J2 a b low high p=true↔∀ i j,i < a->j < b->g low i j<=g p i j/\g p i j<=g high i j:=uf
def qK (p:Pile a b c low) (q:Pile a b c high):(BP (g low) (g high) c b a).length=((AllP a b c).filter (J2 a b low high)).length:=by
 unfold AllP J2;rw [PD (lo':=zF) (hi':=cF c) (λ i j=>TB p i j) (λ i j=>ZH q i j) a]
def CY (i j:Int):Int:=if j < i then j else i
def Bb (i j:Int):Int:=if j > i then j else i
def vP (p:Pile a b c t) (q:Pile a b c u):Pile a b c (zT CY t u):=Xu _ (λ i j k m h1 h2=>by unfold CY;split <;> split <;> omega) (λ i j=>by unfold CY;split <;> simp) p q
def MX (p:Pile a b c t) (q:Pile a b c u):Pile a b c (zT Bb t u):=Xu _ (λ i j k m h1 h2=>by unfold Bb;split <;> split <;> omega) (λ i j=>by unfold Bb;split <;> simp) p q
def C9 (i j k:Nat) (x y:Nat):Int:=if x<=i/\y<=j then (k:Int) + 1 else 0
def Y6 {i j k:Nat} (hk:k < c):Pile a b c (CG a b (C9 i j k)):=by
 refine ⟨KW,λ x y hx hy=>?_,λ x y hx hy=>?_,λ x y hx hy=>?_,λ x y hx hy=>?_⟩
 ·rw [CS hx hy];unfold C9;split <;> omega
 ·rw [CS hx hy];unfold C9;split <;> omega
 ·rw [CS hx hy,CS (by omega) hy];unfold C9;split <;> split <;> omega
 ·rw [CS hx hy,CS hx (by omega)];unfold C9;split <;> split <;> omega
def jd (p:Pile a b c low) {i j k:Nat} (hi:i < a) (hj:j < b):∀ r∈AllP a b c,J2 a b (zT Bb low (CG a b (C9 i j k))) high r=(J2 a b low high r && decide ((k:Int) + 1<=g r i j)):=by
 have gm:∀ x y,x < a->y < b->g (zT Bb low (CG a b (C9 i j k))) x y=Bb (g low x y) (C9 i j k x y):=λ x y hx hy=>by rw [Ig p.tab KW,CS hx hy,CS hx hy]
 have c0:C9 i j k i j=(k:Int) + 1:=by unfold C9;rw [if_pos ⟨AA _,AA _⟩]
 intro r hr;have pr:=wC hr;rw [DY,Bc,decide_eq_true_iff,WH,WH];constructor
 ·intro h;refine ⟨λ x y hx hy=>?_,?_⟩
  ·have:=h x y hx hy
   rw [gm x y hx hy] at this;unfold Bb at this;split at this <;> omega
  ·have:=h i j hi hj
   rw [gm i j hi hj,c0] at this;unfold Bb at this;split at this <;> omega
 ·intro ⟨h,h2⟩ x y hx hy
  have:=h x y hx hy
  rw [gm x y hx hy];have h0:=pr.lo x y hx hy;by_cases hh:x<=i/\y<=j
  ·have:=Pile.anti pr hh.1 hh.2 hi hj
   unfold Bb C9;rw [if_pos hh];split <;> omega
  ·unfold Bb C9;rw [if_neg hh];split <;> omega
def jb (p:Pile a b c low) (q:Pile a b c high) (h:Kz a b low high=true):1<=(BP (g low) (g high) c b a).length:=by
 have h:∀ i j,i < a->j < b->g low i j<=g high i j:=λ i j hi hj=>by
  unfold Kz at h;exact of_decide_eq_true (jb8.mp h (i,j) (zxu.mpr ⟨hi,hj⟩))
 obtain ⟨t,e⟩:=PY (lo:=g low) (hi:=g high) (c:=(c:Int)) (b:=b) a h (λ i j hi hj=>p.hi i j hi hj) (λ i j hi hj=>p.dn i j hi hj) (λ i j hi hj=>p.rt i j hi hj);rw [e];simp
end
theorem Xy {α:Type}:∀ (l:List α),A0 (λ _=>(0:Int)) l=0
 | []=>rfl
 | x::l=>by rw [D6,Xy l];rfl
structure Mom (φ:Nat->List Int->Int) (op:Nat->Nat->Nat) (ψ:Nat->Int):Prop where
 nil:∀ m,φ m []=0
 add:∀ m x y,φ m (As x y)=φ m x + φ m y
 sh:∀ m w x,φ m (AK w 0++x)=φ (op m w) x
 one:∀ m,φ m [1]=ψ m
 as:∀ m u v,op (op m u) v=op m (u + v)
 zr:∀ m,op m 0=m
section
variable {φ:Nat->List Int->Int}{op:Nat->Nat->Nat}{ψ:Nat->Int}
theorem Mom.sumT (h:Mom φ op ψ) (m:Nat) {f:List Int->List Int}:∀ l:List (List Int),φ m (sumT f l)=A0 (λ r=>φ m (f r)) l
 | []=>h.nil m
 | r::l=>by rw [Ia,h.add,Mom.sumT h m l];rfl
variable {a b c:Nat}{low high:List (List Int)}{ct:Nat->List Nat}
def Ke (ct:Nat->List Nat) (i:Nat) (r:List Int):Nat:=(C8 (ct i) r).toNat
def Eh (ct:Nat->List Nat) (p:List (List Int)):Nat:=((A6 p.length).map λ i=>Ke ct i (p.getD i [])).sum
def wB (p:List (List Int)) (r:List Int):Eh ct (p++[r])=Eh ct p + Ke ct p.length r:=by
 unfold Eh;rw [BM,EF,ED,CN,Ma];congr 1
 ·congr 1;apply EE;intro i hi;rw [RM rfl,if_neg (by have:=jc4.mp hi;omega)]
 ·simp [RM rfl]
def tC (a b c:Nat) (low high:List (List Int)) (ct:Nat->List Nat) (k:Nat) (r:List Int):List Int:=Cn a b c (λ i=>low.getD i []) (λ i=>high.getD i []) ct k r
def mC (φ:Nat->List Int->Int) (a b c:Nat) (low high:List (List Int)) (ct:Nat->List Nat) (k m:Nat) (ah:Nat->Int):Int:=A0 (λ r=>φ m (tC a b c low high ct k r)) ((AB b c).filter (Iu b ah))
def ku (h:Mom φ op ψ) {k m:Nat}{r:List Int}:φ m (tC a b c low high ct (k + 1) r)=if Et b (low.getD (a - 1 - k) []) r (high.getD (a - 1 - k) [])=true then mC φ a b c low high ct k (op m (Ke ct (a - 1 - k) r)) (λ i=>r.getD i 0) else 0:=by
 show φ m (E2 b _ _ _ _ r)=_;unfold E2;split
 ·rw [h.sh];exact h.sumT _ _
 ·exact h.nil m
def j6 (h:Mom φ op ψ) (h0:∀ i j,i < a->j < b->0<=g low i j) (hc:∀ i j,i < a->j < b->g high i j<=c) {k m:Nat} (hk:k < a) {ah:Nat->Int}:mC φ a b c low high ct (k + 1) m ah=A0 (λ r=>mC φ a b c low high ct k (op m (Ke ct (a - 1 - k) r)) (λ i=>r.getD i 0)) (By (g low (a - 1 - k)) (g high (a - 1 - k)) ah b):=by
 have e:=U7 (b:=b) (c:=(c:Int)) (lo:=low.getD (a - 1 - k) []) (hi:=high.getD (a - 1 - k) []) (ah:=ah) (λ i hi=>h0 _ i (by omega) hi) (λ i hi=>hc _ i (by omega) hi);show A0 _ _=A0 _ (By (λ i=>(low.getD (a - 1 - k) []).getD i 0) (λ i=>(high.getD (a - 1 - k) []).getD i 0) ah b);rw [<- e,<- M4];exact Ef λ r _=>ku h
theorem j7 (h:Mom φ op ψ) {m:Nat}{ah:Nat->Int} (h':∀ i,i < b->0<=ah i):mC φ a b c low high ct 0 m ah=ψ m:=by
 let z:=AK b (0:Int);have hz:z∈(AB b c).filter (Iu b ah):=by
  have zg:∀ j,z.getD j 0=0:=λ j=>by
   show (AK b (0:Int)).getD j 0=0;rw [AR,EG];split <;> rfl
  refine jg2.mpr ⟨zxb.mpr ⟨Es,λ j _=>by rw [zg];exact Dx _,λ j _=>by rw [zg];omega,λ j _=>by rw [zg,zg];exact Dx _⟩,qau.mpr λ j hj=>by rw [zg];exact h' j hj⟩
 have e:∀ r∈(AB b c).filter (Iu b ah),φ m (tC a b c low high ct 0 r)=if r=z then ψ m else 0:=λ r hr=>by
  have hr:=zxb.mp (jg2.mp hr).1;show φ m (CL r)=_;unfold CL;by_cases e:r=z
  ·rw [if_pos e,if_pos (by rw [e];show (AK b (0:Int)).sum=0;induction b with | zero=>rfl | succ n ih=>rw [FC,D9];simp)];exact h.one m
  ·rw [if_neg e,if_neg (λ h0=>e (by
    have:=P5 (r:=r) (λ j hj=>hr.lo j (by rw [<- hr.len];exact hj)) h0
    rw [hr.len] at this;exact this))]
   exact h.nil m
 show A0 _ _=_;rw [Ef e];have nd:((AB b c).filter (Iu b ah)).Nodup:=(JY b c).filter _;generalize (AB b c).filter (Iu b ah)=l at hz nd;clear e;induction l with
 | nil=>cases hz
 | cons x l ih=>
  rw [ji6] at nd;rw [D6];by_cases ex:x=z
  ·rw [if_pos ex]
   have:A0 (λ r=>if r=z then ψ m else 0) l=0:=by
    rw [Ef (g:=λ _=>0) λ r hr=>if_neg λ er=>nd.1 (by rw [ex,<- er];exact hr)];exact Xy l
   omega
  ·rw [if_neg ex,ih (by rcases jb4.mp hz with h | h;exact absurd h.symm ex;exact h) nd.2];omega
theorem We (h:Mom φ op ψ) (h0:∀ i j,i < a->j < b->0<=g low i j) (hc:∀ i j,i < a->j < b->g high i j<=c) (m:Nat):∀ (k:Nat),k<=a->A0 (λ p=>mC φ a b c low high ct k (op m (Eh ct p)) (Ex c p)) (BP (g low) (g high) c b (a - k))=A0 (λ p=>ψ (op m (Eh ct p))) (BP (g low) (g high) c b a)
 | 0,_=>by
  rw [OJ];refine Ef λ p hp=>j7 h λ i hi=>?_;unfold Ex;cases a with
  | zero=>
   simp only [BP,jb6] at hp;subst hp;show (0:Int)<=c;omega
  | succ n=>
   have:=IL hp
   rw [RL this.1.1];exact Fy (h0 n i (by omega) hi) (this.2.1 n i (by omega) hi).1
 | k + 1,hk=>by
  have ih:=We h h0 hc m k (by omega);rw [<- ih,show a - k=(a - (k + 1)) + 1 by omega,BP,Q6];refine Ef λ p hp=>?_;rw [j6 h h0 hc (by omega),Ye,show a - 1 - k=a - (k + 1) by omega];refine Ef λ r _=>?_;rw [wB,<- h.as,(IL hp).1.1];congr 1;unfold Ex;rw [Z3]
def PQ (h:Mom φ op ψ) (p:Pile a b c low) (q:Pile a b c high) (m:Nat) {ps:List (Nat×Nat)}:φ m (CF a b c low high ps)=A0 (λ r=>ψ (op m (Eh (BC ps) r))) (BP (g low) (g high) c b a):=by
 have:=We (ct:=BC ps) h (λ i j hi hj=>p.lo i j hi hj) (λ i j hi hj=>q.hi i j hi hj) m a (AA _)
 rw [<- this,OK];unfold CF;rw [h.sumT];show _=A0 _ [[]];rw [D6];show A0 (λ r=>φ m (tC a b c low high (BC ps) a r)) (AB b c)=mC φ a b c low high (BC ps) a (op m 0) (λ _=>c) + 0;unfold mC;rw [h.zr,jf7.mpr λ r hr=>qau.mpr λ j hj=>(zxb.mp hr).hi j hj];omega
end
def XI:Mom (λ m x=>(x.drop m).sum) (λ m w=>m - w) (λ m=>if m=0 then 1 else 0):=by
 refine ⟨λ m=>by rw [LX];rfl,λ m x y=>?_,λ m w x=>?_,λ m=>?_,λ m u v=>by omega,λ m=>by omega⟩
 ·induction m generalizing x y with
  | zero=>exact Qk x y
  | succ m ih=>
   cases x with
   | nil=>show ((As [] y).drop (m + 1)).sum=_;rw [Ld,FH,LX];show _=(0:Int) + _;omega
   | cons u x=>
    cases y with
    | nil=>rw [FH,LX];show _=_ + (0:Int);omega
    | cons v y=>exact ih x y
 ·show ((AK w (0:Int)++x).drop m).sum=(x.drop (m - w)).sum;rw [List.drop_append,Ma,Es,List.drop_replicate]
  have:=Mw (w - m) []
  rw [GJ] at this;rw [this];show (0:Int) + _=_;omega
 ·cases m with
  | zero=>rfl
  | succ m=>show (([1]:List Int).drop (m + 1)).sum=_;rw [if_neg (by omega)];simp
def C2:Nat->List Int->Int
 | _,[]=>0
 | m,x::xs=>(m:Int) * x + C2 (m + 1) xs
theorem Yv:∀ (w m:Nat) (x:List Int),C2 m (AK w 0++x)=C2 (m + w) x
 | 0,m,x=>rfl
 | w + 1,m,x=>by
  rw [FC,Fz,C2,Yv w (m + 1) x,show m + 1 + w=m + (w + 1) by omega,Int.mul_zero,Ga]
def jA:Mom C2 (λ m w=>m + w) (λ m=>(m:Int)):=by
 refine ⟨λ m=>rfl,λ m x y=>?_,λ m w x=>Yv w m x,λ m=>?_,λ m u v=>by omega,λ m=>by omega⟩
 ·induction x generalizing m y with
  | nil=>rw [Ld,FH];show _=(0:Int) + _;omega
  | cons u x ih=>
   cases y with
   | nil=>rw [FH];show _=_ + (0:Int);omega
   | cons v y=>
    show C2 m ((u + v)::As x y)=_;rw [C2,C2,C2,ih,Int.mul_add];omega
 ·show (m:Int) * 1 + 0=m;omega
end QV
namespace K46
open PySem PySem.Spec PyProof.Rows L2 QQ QV
def WR {c:Fb}{b:Fs}{n:Nat}{ρ ρ2:Af} (hc:c ρ=.ok (true,ρ)) (hb:b ρ=.nx ρ2):EK c b (n + 1) ρ=EK c b n ρ2:=by
 rw [EK,hc];dsimp only;rw [hb]
def WQ {c:Fb}{b:Fs}{n:Nat}{ρ:Af} (hc:c ρ=.ok (false,ρ)):EK c b (n + 1) ρ=.nx ρ:=by
 rw [EK,hc]
theorem O9 {c:Fb}{b:Fs} (I:Nat->Nat->Af->Prop) (h1:∀ x y ρ,0 < y->I x y ρ->c ρ=.ok (true,ρ)/\∃ ρ',b ρ=.nx ρ'/\I y (x % y) ρ') (h0:∀ x ρ,I x 0 ρ->c ρ=.ok (false,ρ)):∀ (k n x y:Nat) (ρ:Af),y < 2 ^ k->2 * k + 1<=n->I x y ρ->∃ ρ',EK c b n ρ=.nx ρ'/\I (C0 x y) 0 ρ'
 | 0,n,x,y,ρ,hy,hn,i=>by
  obtain rfl:y=0:=by simpa using hy
  obtain ⟨m,rfl⟩:∃ m,n=m + 1:=⟨n - 1,by omega⟩
  exact ⟨ρ,WQ (h0 x ρ i),by rw [Zp];exact i⟩
 | k + 1,n,x,y,ρ,hy,hn,i=>by
  obtain ⟨m,rfl⟩:∃ m,n=m + 1 + 1:=⟨n - 2,by omega⟩
  rcases Nat.eq_zero_or_pos y with rfl | hp
  ·exact ⟨ρ,WQ (h0 x ρ i),by rw [Zp];exact i⟩
  ·obtain ⟨c1,ρ1,e1,i1⟩:=h1 x y ρ hp i;have g1:C0 x y=C0 y (x % y):=by rw [OI x y,YF,OI]
   have hr:=Nat.mod_lt x hp;rw [LV] at hy;rw [WR c1 e1,g1];by_cases hs:x % y < 2 ^ k
   ·exact O9 I h1 h0 k (m + 1) y (x % y) ρ1 hs (by omega) i1
   ·have hq:0 < x % y:=by have:=Nat.two_pow_pos k;omega
    obtain ⟨c2,ρ2,e2,i2⟩:=h1 y (x % y) ρ1 hq i1;have g2:C0 y (x % y)=C0 (x % y) (y % (x % y)):=by rw [OI y,YF,OI]
    have hm:y % (x % y)=y - x % y:=by rw [Nat.mod_eq_sub_mod (by omega),Nat.mod_eq_of_lt (by omega)]
    rw [WR c2 e2,g2];exact O9 I h1 h0 k m (x % y) (y % (x % y)) ρ2 (by rw [hm];omega) (by omega) i2
def zh {L:List (Option PV)}{O:List Nat}{ρ:Af}{i j:Nat}{fa:Fa}{a b:Int}{d e:Nat} (h:HV L O ρ) (hf:fa ρ=.ok ([(.int a,d),(.int b,e)],ρ)) (hi:i < L.length) (hj:j < L.length) (ho:i∉O/\j∉O):Nx (DF i j fa) ρ (HV ((L.set i (some (.int a))).set j (some (.int b))) O):=by
 obtain ⟨ρ',e,h'⟩:=h.asg2 (.int a) (.int b) hi hj ho;refine ⟨ρ',?_,h'⟩;have e:BG [i,j] [.int a,.int b] ρ=some ρ':=e;unfold DF;rw [hf];dsimp only;rw [e]
def qQ {x y:Nat} (hy:y < 2 ^ 100):P1 [.int x,.int y]=.ok (.int (C0 x y:Nat),om,.non):=by
 have H0:HV [some (.int x),some (.int y)] [] [some (.int x,om),some (.int y,om)]:=HV.of [some (.int x,om),some (.int y,om)];obtain ⟨ρ',e,h⟩:=O9 (c:=bT pf9) (b:=DF 0 1 pg2) (λ x y ρ=>HV [some (.int x),some (.int y)] [] ρ/\ρ[0]?=some (some (.int x,om))) (λ x y ρ hp ⟨h,_⟩=>by
  have q:=AN (Ey (p:=λ i j=>decide (j < i)) (g:=bC (.int 0)) (j:=0) (e:=om) (h.var (j:=1) (x:=.int y) rfl) rfl);rw [decide_eq_true (by omega)] at q;obtain ⟨ρ',e,h'⟩:=zh (i:=0) (j:=1) h (A2 (h.var (j:=1) (x:=.int y) rfl) (A9 (DB (h.var (j:=0) (x:=.int x) rfl) (h.var (j:=1) (x:=.int y) rfl) (by omega)))) (show 0 < 2 by decide) (show 1 < 2 by decide) ⟨λ h=>(nomatch h),λ h=>(nomatch h)⟩;refine ⟨q,ρ',e,h',?_⟩;have hl:=h.len;unfold DF at e;rw [A2 (h.var (j:=1) (x:=.int y) rfl) (A9 (DB (h.var (j:=0) (x:=.int x) rfl) (h.var (j:=1) (x:=.int y) rfl) (by omega)))] at e;dsimp only at e;rw [BG,asgN,if_pos (by rw [hl];exact To 1)] at e;replace e:(match BG [1] [.int ((x:Int) % y)] (ρ.set 0 (some (.int y,dv (.int y)))) with | some ρ2=>Rs.nx ρ2 | none=>.no)=.nx ρ':=e;rw [BG,asgN,if_pos (by rw [DA,hl];exact GK 1)] at e;cases e;rw [CO (by decide),DN (by rw [hl];exact To 1)];rfl) (λ x ρ ⟨h,_⟩=>by
  have q:=AN (Ey (p:=λ i j=>decide (j < i)) (g:=bC (.int 0)) (j:=0) (e:=om) (h.var (j:=1) (x:=.int (0:Nat)) rfl) rfl);rw [decide_eq_false (by omega)] at q;exact q) 100 300 x y _ hy (by decide) ⟨H0,rfl⟩
 refine BU (ρ':=ρ') (b:=TZ) rfl ((AV e).trans ?_);unfold DV;rw [h.2]
def AO (n d:Nat):PV:=.tup [.int ((n / C0 n d:Nat):Int),.int ((d / C0 n d:Nat):Int)]
def W3 {n d:Nat} (hd:0 < d) (hb:d < 2 ^ 100):∃ e,J8 [.int n,.int d]=.ok (AO n d,e,.non):=by
 have H0:HV [some (.int n),some (.int d),none] [] [some (.int n,om),some (.int d,om),none]:=HV.of [some (.int n,om),some (.int d,om),none];have gp:0 < C0 n d:=T4 _ hd;have gl:C0 n d<=d:=Tn _ hd;refine (λ ⟨y,e,h1,h2⟩=>⟨e,by rw [h1,h2]⟩:(∃ y e,J8 [.int n,.int d]=.ok (y,e,.non)/\y=AO n d)->_) (Ge.fn (b:=Po) (R:=λ y=>y=AO n d) rfl (show Ge Po [some (.int n,om),some (.int d,om),none] _ from ?_));refine Ge.ex (H0.setO (x:=.int (C0 n d:Nat)) (AF (xs:=[(.int n,om),(.int d,om)]) (A2 (H0.var rfl) (A9 (H0.var rfl))) (qQ hb)) (show 2 < 3 by decide)) λ ρ1 H1=>?_;have e1:=Ij (H1.var (j:=0) (x:=.int n) rfl) (H1.var (j:=2) (x:=.int (C0 n d:Nat)) rfl) (by omega) (by omega);have e2:=Ij (H1.var (j:=1) (x:=.int d) rfl) (H1.var (j:=2) (x:=.int (C0 n d:Nat)) rfl) (by omega) (by omega);exact ⟨_,_,_,Cv (Ck (A2 e1 (A9 e2)) rfl),rfl⟩
def Wd {n d:Nat} (hd:0 < d) (hb:d < 2 ^ 100):∃ e,J5 [.int n,.int d]=.ok (AO n d,e,.non):=by
 let L (s2 s3 s4:Option PV):List (Option PV):=[some (.int n),some (.int d),s2,s3,s4]
 have H0:HV (L none none none) [] [some (.int n,om),some (.int d,om),none,none,none]:=HV.of [some (.int n,om),some (.int d,om),none,none,none];have gp:0 < C0 n d:=T4 _ hd;have gl:C0 n d<=d:=Tn _ hd;refine (λ ⟨y,e,h1,h2⟩=>⟨e,by rw [h1,h2]⟩:(∃ y e,J5 [.int n,.int d]=.ok (y,e,.non)/\y=AO n d)->_) (Ge.fn (b:=Pm) (R:=λ y=>y=AO n d) rfl (show Ge Pm [some (.int n,om),some (.int d,om),none,none,none] _ from ?_));refine Ge.ex (H0.setO (x:=.int n) (Ck (A9 (H0.var rfl)) (by
  show some (PV.int (if (n:Int) < 0 then -(n:Int) else n),om)=_;rw [if_neg (by omega)])) (show 2 < 5 by decide)) λ ρ1 H1=>?_
 refine Ge.ex (H1.setO (x:=.int d) (H1.var rfl) (show 3 < 5 by decide)) λ ρ2 H2=>?_;refine Ge.ex (P:=λ ρ=>HV (L (some (.int (C0 n d:Nat))) (some (.int (0:Nat))) none) [] ρ) (O9 (λ x y ρ=>HV (L (some (.int x)) (some (.int y)) none) [] ρ) (λ x y ρ hp h=>by
  have q:=AN (Iv (neg:=true) (g:=bC (.int 0)) (j:=0) (e:=om) (h.var (j:=3) (x:=.int y) rfl) rfl);rw [decide_eq_false (by omega)] at q;refine ⟨q,Nx.seq (h.setO (x:=.int ((x % y:Nat):Int)) (by
   have:=DB (h.var (j:=2) (x:=.int x) rfl) (h.var (j:=3) (x:=.int y) rfl) (by omega)
   rw [this];rfl) (show 4 < 5 by decide)) λ ρ1 h1=>Nx.seq (h1.setO (x:=.int y) (h1.var rfl) (show 2 < 5 by decide)) λ ρ2 h2=>Nx.mono (h2.setO (h2.var (j:=4) rfl) (show 3 < 5 by decide)) λ ρ h=>h.weak ⟨rfl,rfl,rfl,rfl,trivial⟩ λ _ h=>h⟩) (λ x ρ h=>by
  have q:=AN (Iv (neg:=true) (g:=bC (.int 0)) (j:=0) (e:=om) (h.var (j:=3) (x:=.int (0:Nat)) rfl) rfl);exact q) 100 300 n d ρ2 hb (by decide) (H2.weak ⟨rfl,rfl,rfl,rfl,trivial⟩ λ _ h=>h)) λ ρ3 H3=>?_
 have e1:=Ij (H3.var (j:=0) (x:=.int n) rfl) (H3.var (j:=2) (x:=.int (C0 n d:Nat)) rfl) (by omega) (by omega);have e2:=Ij (H3.var (j:=1) (x:=.int d) rfl) (H3.var (j:=2) (x:=.int (C0 n d:Nat)) rfl) (by omega) (by omega);exact ⟨_,_,_,Cv (Ck (A2 e1 (A9 e2)) rfl),rfl⟩
end K46
namespace QV
open PySem PySem.Spec PyProof.Rows L2 QQ
def RP {elt:Fx}{p q:QQ.Slot}{u v:Int}{y:PV}{xs:List PV}{acc:List (PV×Nat)} (he:elt [p,q,some (.int u,om),some (.int v,om)]=.ok (y,om,[p,q,some (.int u,om),some (.int v,om)])) (ha:acc.length < Az):
  Cj 2 (asgT [2,3]) Bp elt (.tup [.int u,.int v]::xs) [p,q] acc=Cj 2 (asgT [2,3]) Bp elt xs [p,q] (acc++[(y,om)]):=by
 conv=>lhs;unfold Cj
 have ea:asgT [2,3] (.tup [.int u,.int v]) ([p,q]++AK 2 none)=some [p,q,some (.int u,om),some (.int v,om)]:=rfl;rw [ea];dsimp only
 have:Bp [p,q,some (.int u,om),some (.int v,om)]=.ok (true,[p,q,some (.int u,om),some (.int v,om)]):=rfl
 rw [this];dsimp only [Rz.bindN];rw [if_pos rfl,he];dsimp only;rw [if_pos ha];rfl
def yO {a b c:Nat}{x:C3} (h1:x.1 < a) (h2:x.2.1 < b) (h3:x.2.2 < c):f_is_cube_in [bx a b c,c3 x]=.ok (.bl true,om,.non):=by
 have z:=sz;let R:Af:=[some (bx a b c,0),some (c3 x,0)]
 have e0:∀ u v:Int,0<=u->u < v->pb1 [some (bx a b c,0),some (c3 x,0),some (.int u,om),some (.int v,om)]=.ok (.bl true,om,[some (bx a b c,0),some (c3 x,0),some (.int u,om),some (.int v,om)]):=λ u v hu hv=>by
  have:=Ii (a:=true) (f:=A3 f_is_whole_number (Ae (Aa 2) (Ac))) (g:=EJ (λ i j=>decide (i<=j)) (λ i j=>decide (i < j)) (bC (.int 0)) (Aa 2) (Aa 3)) (ρ:=[some (bx a b c,0),some (c3 x,0),some (.int u,om),some (.int v,om)]) (AF (xs:=[(.int u,om)]) rfl (Q2 u)) (λ _=>Lf (i:=0) (j:=u) (k:=v) rfl rfl rfl) rfl
  rw [decide_eq_true hu,decide_eq_true hv] at this;exact this
 have e1:Di .zp pf4 2 (asgT [2,3]) Bp pb1 R=.ok (.lst ([(),(),()].map λ _=>.bl true),om,R):=by
  unfold Di;have ef:pf4 R=.ok ([(c3 x,0),(bx a b c,0)],R):=rfl;rw [ef];dsimp only;have ev:Gw .zp ([(c3 x,0),(bx a b c,0)].map (·.1))=some [.tup [.int (x.1:Int),.int (a:Int)],.tup [.int (x.2.1:Int),.int (b:Int)],.tup [.int (x.2.2:Int),.int (c:Int)]]:=rfl;rw [ev];dsimp only;rw [RP (e0 _ _ (by omega) (by omega)) (by show 0 < Az;omega),RP (e0 _ _ (by omega) (by omega)) (by show 1 < Az;omega),RP (e0 _ _ (by omega) (by omega)) (by show 2 < Az;omega)];rfl
 refine BU rfl (ρ':=R) ?_;show Xf_is_cube_in R=_;refine (Eg (ρ1:=R) (by kernel_rfl)).trans (Cv ?_);rw [all_ok e1];rfl
end QV
namespace K46
open PySem PySem.Spec PyProof.Rows L2 QQ QV
section
variable {a b c:Nat}{low high:List (List Int)}
def NN (l:List Int):Prop:=∀ x∈l,0<=x
theorem NN.add:∀ {x y:List Int},NN x->NN y->NN (As x y)
 | [],y,_,h=>by rw [Ld,FH];exact h
 | u::x,[],h,_=>by rw [FH];exact h
 | u::x,v::y,h,h'=>λ z hz=>by
  rcases jb4.mp (show z∈(u + v)::As x y from hz) with rfl | hz
  ·have:=h u AL
   have:=h' v AL
   omega
  ·exact NN.add (λ w hw=>h w (AM _ hw)) (λ w hw=>h' w (AM _ hw)) z hz
theorem NN.sumT {f:List Int->List Int}:∀ {l:List (List Int)},(∀ r∈l,NN (f r))->NN (sumT f l)
 | [],_=>λ _ h=>(nomatch h)
 | r::l,h=>by rw [Ia];exact NN.add (h r AL) (NN.sumT λ q hq=>h q (AM _ hq))
theorem NN.tab {lo hi:Nat->List Int}{ct:Nat->List Nat}{c:Int}:∀ (k:Nat) (r:List Int),NN (Cn a b c lo hi ct k r)
 | 0,r=>by
  show NN (CL r);unfold CL;split
  ·intro x hx;rw [jb6.mp hx];decide
  ·exact λ _ h=>(nomatch h)
 | k + 1,r=>by
  show NN (E2 b _ _ _ _ r);unfold E2;split
  ·intro x hx;rcases jd4.mp hx with hx | hx
   ·rw [(jr2.mp hx).2];exact Dx _
   ·exact NN.sumT (λ q _=>NN.tab k q) x hx
  ·exact λ _ h=>(nomatch h)
def NN.tally {ps:List (Nat×Nat)}:NN (CF a b c low high ps):=NN.sumT λ q _=>NN.tab a q
theorem NN.le:∀ {l:List Int},NN l->∀ x∈l,x<=l.sum
 | [],_,_,h=>(nomatch h)
 | y::l,h,x,hx=>by
  have h1:NN l:=λ z hz=>h z (AM _ hz);have h2:0<=l.sum:=by
   clear hx h;induction l with
   | nil=>exact Dx _
   | cons z l ih=>rw [D9];have:=h1 z AL;have:=ih λ w hw=>h1 w (AM _ hw);omega
  have h3:=h y AL;rw [D9];rcases jb4.mp hx with rfl | hx
  ·omega
  ·have:=NN.le h1 x hx;omega
def NN.drop {l:List Int} (h:NN l) (m:Nat):NN (l.drop m):=λ x hx=>h x (Z2 hx)
def NN.ok {l:List Int} (h:NN l) (h1:l.length<=1000) {m:Int} (h2:∀ x∈l,x<=m) (hm:m<=2 ^ 40):E4 l=true:=by
 unfold E4;rw [Bc];refine ⟨decide_eq_true (by omega),jb8.mpr λ x hx=>?_⟩
 have:=h x hx
 have:=h2 x hx
 rw [decide_eq_true (by omega),decide_eq_true (by omega)];rfl
def PB (a b c:Nat) (low high:List (List Int)):List (List (List Int)):=BP (g low) (g high) c b a
def II (p:Pile a b c low) {t:List (List Int)} (h:t∈PB a b c low high):Pile a b c t:=Uq (λ i j=>TB p i j) h
def nK (a b c:Nat) (low high:List (List Int)) (i j k:Nat):Nat:=((PB a b c low high).filter λ p=>decide ((k:Int) < g p i j)).length
theorem Ym {α:Type}{p:α->Bool}:∀ l:List α,A0 (λ x=>if p x=true then (1:Int) else 0) l=((l.filter p).length:Int)
 | []=>rfl
 | x::l=>by
  rw [D6,Ym l,Ep];split
  ·rw [Bw];omega
  ·omega
def RU {i j i':Nat}:BC [(i,j)] i'=if i=i' then [j] else []:=by
 unfold BC;by_cases h:i=i' <;> simp [h]
theorem yX {n i:Nat} (hi:i < n) (v:Nat):((A6 n).map λ k=>if i=k then v else 0).sum=v:=by
 induction n with
 | zero=>omega
 | succ n ih=>
  rw [ED,CN,Ma];by_cases h:i=n
  ·subst h
   have:((A6 i).map λ k=>if i=k then v else 0)=(A6 i).map λ _=>0:=EE λ k hk=>if_neg (by have:=jc4.mp hk;omega)
   have z:∀ l:List Nat,(l.map λ _=>0).sum=0:=λ l=>by
    induction l with
    | nil=>rfl
    | cons x l ih=>rw [Be,D9,ih]
   rw [this,z];simp
  ·rw [ih (by omega)];simp [h]
def Wq {t:List (List Int)} (p:Pile a b c t) {i j:Nat} (hi:i < a) (hj:j < b):Eh (BC [(i,j)]) t=(g t i j).toNat:=by
 unfold Eh;rw [p.tab.1,<- yX hi (g t i j).toNat];congr 1;apply EE;intro k _;unfold Ke;rw [RU];split
 ·rename_i e;subst e;unfold C8;simp [g]
 ·rfl
def yY (p:Pile a b c low) (q:Pile a b c high) {i j:Nat} (hi:i < a) (hj:j < b) (k:Nat):((CF a b c low high [(i,j)]).drop (k + 1)).sum=(nK a b c low high i j k:Int):=by
 have:=PQ XI p q (k + 1) (ps:=[(i,j)])
 rw [this];unfold nK;rw [<- Ym];refine Ef λ t ht=>?_;have pt:=II p ht;have h0:=pt.lo i j hi hj;rw [Wq pt hi hj];by_cases h:(k:Int) < g t i j
 ·rw [if_pos (by omega),if_pos (decide_eq_true h)]
 ·rw [if_neg (by omega),if_neg (by rw [decide_eq_false h];decide)]
def M3 (p:Pile a b c low) (q:Pile a b c high) (ps:List (Nat×Nat)):(CF a b c low high ps).sum=((PB a b c low high).length:Int):=by
 have:=PQ XI p q 0 (ps:=ps)
 rw [Ti] at this;rw [this,<- Qz];exact Ef λ t _=>if_pos (by omega)
def yZ (p:Pile a b c low) (q:Pile a b c high) (ps:List (Nat×Nat)):C2 0 (CF a b c low high ps)=A0 (λ t=>((Eh (BC ps) t:Nat):Int)) (PB a b c low high):=by
 rw [PQ jA p q 0];exact Ef λ t _=>by rw [HB]
end
section
variable {a b c:Nat}{low high:List (List Int)}
structure Bt (a b c:Nat) (low high:List (List Int)):Prop where
 N:BoxN a b c
 bd:(AB b c).length ^ (a + 1)<=2 ^ 30
 ab:a<=6/\b<=6/\c<=6
 p:Pile a b c low
 q:Pile a b c high
 le:Kz a b low high=true
def Bt.many (B:Bt a b c low high):((PB a b c low high).length:Int)<=2 ^ 30:=by
 have t:=UY (a:=a) (b:=b) (c:=(c:Int)) (low:=low) (high:=high) (by omega) (λ i j hi hj=>B.p.lo i j hi hj) (λ i j hi hj=>B.q.hi i j hi hj);unfold PB;rw [<- t,KO];have h1:=MM (f:=DD a b c (λ i=>low.getD i []) (λ i=>high.getD i []) a) (m:=(((AB b c).length ^ a:Nat):Int)) (by omega) (l:=AB b c) λ r _=>(Sl a r).2;have h2:(((AB b c).length ^ (a + 1):Nat):Int)<=((2 ^ 30:Nat):Int):=by exact_mod_cast B.bd
 rw [LV,HC,Gb] at h2;exact Fy h1 (Fy h2 (by decide))
def Bt.pos (B:Bt a b c low high):0 < (PB a b c low high).length:=jb B.p B.q B.le
def Bt.must (B:Bt a b c low high):GP [bx a b c,tb low,tb high]=.ok (.non,om,.non):=by
 have ha:=B.N.box.ha;have hb:=B.N.box.hb;let R:Af:=[some (bx a b c,0),some (tb low,0),some (tb high,0)]
 have l:=jy B.p.tab B.q.tab (by omega) (by omega) (XJ B.N B.p B.q);rw [B.le] at l;exact Oz (ρ':=R) (b:=TY) rfl ((Cw (AN (Ez (b:=true) (d:=om) (AF (xs:=[(bx a b c,0),(tb low,0),(tb high,0)]) rfl l)))).trans rfl)
def Bt.tally (B:Bt a b c low high) {ps:List (Nat×Nat)} (hp:∀ z∈ps,z.2 < b) (hm:∀ i,(BC ps i).length<=6) (hl:ps.length<=1000):f_tally_between [bx a b c,tb low,tb high,.lst (ps.map pr)]=.ok (il (CF a b c low high ps),om,.non)/\(CF a b c low high ps).length<=300:=by
 have h:=B.ab;have hx:1 + a * (6 * c)<=300:=by
  have:a * (6 * c)<=6 * (6 * 6):=K1 h.1 (Nat.mul_le_mul_left _ h.2.2)
  omega
 refine ⟨Yr B.N.box B.p.tab B.q.tab hp hm (by omega) hl,?_⟩;unfold CF;exact IT λ r hr=>BZ (KP hm (λ i=>MC hp) a r hr) hx
def Bt.sums (B:Bt a b c low high) {ps:List (Nat×Nat)} (hl:(CF a b c low high ps).length<=300) (m:Nat):E4 ((CF a b c low high ps).drop m)=true:=by
 refine (NN.tally.drop m).ok (by rw [FA];omega) (m:=2 ^ 30) (λ x hx=>?_) (by decide);have h1:=NN.tally.le x (Z2 hx);rw [M3 B.p B.q] at h1;exact Fy h1 B.many
def Rx {f j:Fx}{ρ:Af}{xs:List Int}{n d e:Nat} (h1:f ρ=.ok (il xs,d,ρ)) (h2:j ρ=.ok (.int (n:Int),e,ρ)):D0 f (some j) none ρ=.ok (il (xs.drop n),om,ρ):=by
 have ec:Ce (xs.map PV.int) (some (n:Int)) none=(xs.drop n).map PV.int:=by
  unfold Ce;rw [HT.sIx_nat,HT.sIx_none,OO];by_cases h:n<=(xs.map PV.int).length
  ·rw [Mb h];exact Mf (by rw [FA];exact AA _)
  ·rw [Nat.min_eq_right (by omega),Mg (AA _),Mg (by omega)];exact OP
 unfold D0;rw [h1];dsimp only [Rz.bind,HF];rw [h2];dsimp only [DH,il];rw [ec,LM]
def Qy (B:Bt a b c low high) {i j k:Nat} (hi:i < a) (hj:j < b) (hk:k < c):∃ e,HX [bx a b c,tb low,tb high,c3 (i,j,k)]=.ok (AO (nK a b c low high i j k) (PB a b c low high).length,e,.non):=by
 have hM:=B.many;have hP:=B.pos;let L (s4 s5 s6 s7:Option PV):List (Option PV):=[some (bx a b c),some (tb low),some (tb high),some (c3 (i,j,k)),s4,s5,s6,s7]
 let ρ0:Af:=[some (bx a b c,0),some (tb low,0),some (tb high,0),some (c3 (i,j,k),0),none,none,none,none]
 have H0:HV (L none none none none) [] ρ0:=HV.of ρ0
 suffices h:Ge TV ρ0 λ y=>y=AO (nK a b c low high i j k) (PB a b c low high).length by
  obtain ⟨y,e,h1,rfl⟩:=Ge.fn (np:=4) (k:=4) (xs:=[bx a b c,tb low,tb high,c3 (i,j,k)]) rfl h;exact ⟨e,h1⟩
 refine Ge.ex (P:=λ ρ=>ρ=ρ0) ⟨ρ0,Ic (AF (xs:=[(bx a b c,0),(tb low,0),(tb high,0)]) rfl B.must),rfl⟩ λ ρ e=>?_;subst e;refine Ge.ex (P:=λ ρ=>ρ=ρ0) (Nx.no (AN (Ez (b:=true) (d:=om) (AF (xs:=[(bx a b c,0),(c3 (i,j,k),0)]) rfl (yO hi hj hk)))) rfl) λ ρ e=>?_;subst e;refine Ge.ex (H0.unp3 (x:=.int (i:Int)) (y:=.int (j:Int)) (z:=.int (k:Int)) (d:=0) (H0.var (j:=3) rfl) (show 4 < 8 by decide) (show 5 < 8 by decide) (show 6 < 8 by decide)) λ ρ1 H1=>?_;obtain ⟨t1,t2⟩:=B.tally (ps:=[(i,j)]) (λ z hz=>by rw [jb6.mp hz];exact hj) (λ k=>by rw [RU];split <;> simp) (by simp);refine Ge.ex (H1.setO (x:=il (CF a b c low high [(i,j)])) (AF (xs:=[(bx a b c,0),(tb low,0),(tb high,0),(.lst [pr (i,j)],om)]) (A2 (H1.var rfl) (A2 (H1.var rfl) (A2 (H1.var rfl) (A9 (Ck (A9 (Ck (A2 (H1.var rfl) (A9 (H1.var rfl))) rfl)) rfl))))) t1) (show 7 < 8 by decide)) λ ρ2 H2=>?_;have v7:Aa 7 ρ2=.ok (il (CF a b c low high [(i,j)]),0,ρ2):=H2.var rfl;have s1:=JR (A9 (Rx (n:=k + 1) v7 (DQ (g:=bC (.int 1)) (j:=1) (e:=om) (H2.var (j:=6) (x:=.int (k:Int)) rfl) rfl))) (B.sums t2 (k + 1));have s2:=JR (A9 v7) (by have:=B.sums t2 0;rwa [Ti] at this);rw [yY B.p B.q hi hj k] at s1;rw [M3 B.p B.q] at s2;obtain ⟨e,r⟩:=W3 (n:=nK a b c low high i j k) hP (by omega);exact ⟨_,_,_,Cv (AF (xs:=[(.int (nK a b c low high i j k:Int),om),(.int ((PB a b c low high).length:Int),om)]) (A2 s1 (A9 s2)) r),rfl⟩
def E1:Nat->List Int->List (Nat×Int)
 | _,[]=>[]
 | k,x::xs=>(k,x)::E1 (k + 1) xs
def J1 (z:Nat×Int):PV:=.tup [.int (z.1:Int),.int z.2]
theorem Qo:∀ (xs:List Int) (k:Nat),DT k (xs.map PV.int)=(E1 k xs).map J1
 | [],_=>rfl
 | x::xs,k=>by rw [Be,DT,Qo xs (k + 1)];rfl
theorem XA:∀ (xs:List Int) (k:Nat),((E1 k xs).map λ z=>(z.1:Int) * z.2).sum=C2 k xs
 | [],_=>rfl
 | x::xs,k=>by rw [E1,Be,D9,XA xs (k + 1)];rfl
theorem KI:∀ (xs:List Int) (k:Nat),(E1 k xs).length=xs.length
 | [],_=>rfl
 | x::xs,k=>by rw [E1,Bw,KI xs (k + 1)];rfl
theorem Qp:∀ {xs:List Int}{k:Nat}{z:Nat×Int},z∈E1 k xs->z.1 < k + xs.length/\z.2∈xs
 | [],_,_,h=>(nomatch h)
 | x::xs,k,z,h=>by
  rcases jb4.mp (show z∈(k,x)::E1 (k + 1) xs from h) with rfl | h
  ·exact ⟨by simp,AL⟩
  ·have:=Qp h
   exact ⟨by rw [Bw];omega,AM _ this.2⟩
def j8 {xs:List Int}{n d:Nat} (h:NN xs) (hl:xs.length<=300) (hx:∀ x∈xs,x<=2 ^ 30) (h1:C2 0 xs=(n:Int)) (h2:xs.sum=(d:Int)) (hd:0 < d) (hb:d < 2 ^ 100):∃ e,J7 [il xs]=.ok (AO n d,e,.non):=by
 have z:=sz;let R:Af:=[some (il xs,0)]
 have c1:=RS (k:=2) (v:=.enm) (fa:=Ae (Aa 0) (Ac)) (asg:=asgT [1,2]) (elt:=Ab BD (Aa 1) (Aa 2)) (enc:=J1) (q:=λ z=>.int ((z.1:Int) * z.2)) (E:=λ z=>[some (.int (z.1:Int),om),some (.int z.2,om)]) (ρ:=R) (ρ1:=R) (as:=[(il xs,0)]) (E1 0 xs) rfl (by show some (DT 0 (xs.map PV.int))=_;rw [Qo]) (λ _ _=>rfl) (λ z hz=>DS (i:=(z.1:Int)) (j:=z.2) (d:=om) (e:=om) rfl rfl (.inl (by have:=(Qp hz).1;omega))) (by rw [KI];omega);have e1:((E1 0 xs).map λ z=>PV.int ((z.1:Int) * z.2))=((E1 0 xs).map λ z=>(z.1:Int) * z.2).map PV.int:=by rw [CH];rfl
 rw [e1] at c1;have bnd:∀ y∈(E1 0 xs).map (λ z=>(z.1:Int) * z.2),0<=y/\y<=300 * 2 ^ 30:=λ y hy=>by
  obtain ⟨w,hw,rfl⟩:=jd6.mp hy;have m:=Qp hw;have m1:=h _ m.2;have m2:=hx _ m.2;refine ⟨Int.mul_nonneg (by omega) m1,?_⟩;exact Int.mul_le_mul (by omega) m2 m1 (by decide)
 have s1:=JR (A9 c1) (NN.ok (m:=300 * 2 ^ 30) (λ y hy=>(bnd y hy).1) (by rw [AG,KI];omega) (λ y hy=>(bnd y hy).2) (by decide));have s2:=JR (fa:=Ae (Aa 0) Ac) (ρ:=R) (ρ1:=R) (xs:=xs) (d:=0) rfl (h.ok (by omega) hx (by decide));rw [XA,h1] at s1;rw [h2] at s2;obtain ⟨e,r⟩:=W3 (n:=n) hd hb;exact ⟨e,BU (ρ':=R) (b:=TX) rfl (Cv (AF (xs:=[(.int (n:Int),om),(.int (d:Int),om)]) (A2 s1 (A9 s2)) r))⟩
def hK (a b c:Nat) (low high:List (List Int)) (i j:Nat):Nat:=((PB a b c low high).map λ p=>(g p i j).toNat).sum
theorem Yg {α:Type}{f:α->Nat}:∀ l:List α,A0 (λ x=>(f x:Int)) l=(((l.map f).sum:Nat):Int)
 | []=>rfl
 | x::l=>by rw [D6,Yg l,Be,D9];omega
def Bt.mean (B:Bt a b c low high) {ps:List (Nat×Nat)} (hp:∀ z∈ps,z.2 < b) (hm:∀ i,(BC ps i).length<=6) (hl:ps.length<=1000):∃ e,J7 [il (CF a b c low high ps)]=.ok (AO ((PB a b c low high).map (Eh (BC ps))).sum (PB a b c low high).length,e,.non):=by
 obtain ⟨t1,t2⟩:=B.tally hp hm hl;have hM:=B.many;refine j8 NN.tally t2 (λ x hx=>?_) (by rw [yZ B.p B.q,Yg]) (M3 B.p B.q ps) B.pos (by omega)
 have:=NN.tally.le x hx
 rw [M3 B.p B.q] at this;omega
def YB (B:Bt a b c low high) {i j:Nat} (hi:i < a) (hj:j < b):∃ e,Mu [bx a b c,tb low,tb high,.int (i:Int),.int (j:Int)]=.ok (AO (hK a b c low high i j) (PB a b c low high).length,e,.non):=by
 let ρ0:Af:=[some (bx a b c,0),some (tb low,0),some (tb high,0),some (.int (i:Int),om),some (.int (j:Int),om)]
 have hp:∀ z∈[(i,j)],z.2 < b:=λ z hz=>by rw [jb6.mp hz];exact hj
 have hm:∀ k,(BC [(i,j)] k).length<=6:=λ k=>by rw [RU];split <;> simp
 obtain ⟨t1,_⟩:=B.tally hp hm (by simp);obtain ⟨e,r⟩:=B.mean hp hm (by simp);have eh:((PB a b c low high).map (Eh (BC [(i,j)]))).sum=hK a b c low high i j:=congrArg LU (EE λ t ht=>Wq (II B.p ht) hi hj);rw [eh] at r;have v1:D5 (A3 GP pa7) ρ0=.nx ρ0:=Ic (AF (xs:=[(bx a b c,0),(tb low,0),(tb high,0)]) rfl B.must);have v2:bT (AJ BV (A3 P2 (Ae (Aa 0) pb8))) ρ0=.ok (false,ρ0):=AN (Ez (b:=true) (d:=om) (AF (xs:=[(bx a b c,0),(.int (i:Int),om),(.int (j:Int),om)]) rfl (vX hi hj)));exact ⟨e,BU (ρ':=ρ0) (b:=TU) rfl ((AV v1).trans ((Eg v2).trans (Cv (AF (xs:=[(il (CF a b c low high [(i,j)]),om)]) (A9 (AF (xs:=[(bx a b c,0),(tb low,0),(tb high,0),(.lst [pr (i,j)],om)]) rfl t1)) r))))⟩
end
def SO {k n d:Nat} (hk:0 < k):AO (k * n) (k * d)=AO n d:=by
 unfold AO;rw [Zc,Z1 _ _ hk,Z1 _ _ hk]
def JO (n d:Nat) (hd:0 < d):∃ k n' d':Nat,0 < k/\0 < d'/\n=k * n'/\d=k * d'/\AO n d=.tup [.int (n':Int),.int (d':Int)]:=by
 have gp:0 < C0 n d:=T4 _ hd;have e1:=Zx (Nat.gcd_dvd_left n d);have e2:=Zx (Zk n d);exact ⟨C0 n d,n / C0 n d,d / C0 n d,gp,Nat.div_pos (Tn _ hd) gp,e1.symm,e2.symm,rfl⟩
def kD {n1 d1 n2 d2:Nat} (h1:0 < d1) (h2:0 < d2) (b1:d1 < 2 ^ 40) (b2:d2 < 2 ^ 40) (c1:n1 < 2 ^ 60) (c2:n2 < 2 ^ 60):∃ e,KC [AO n1 d1,AO n2 d2]=.ok (AO (n1 * d2 + n2 * d1) (d1 * d2),e,.non):=by
 obtain ⟨k,x,y,hk,hy,rfl,rfl,e1⟩:=JO n1 d1 h1;obtain ⟨l,u,v,hl,hv,rfl,rfl,e2⟩:=JO n2 d2 h2;have lk:∀ {w:Nat},w<=k * w:=λ {w}=>Pc w hk;have ll:∀ {w:Nat},w<=l * w:=λ {w}=>Pc w hl;have l1:=lk (w:=x);have l2:=lk (w:=y);have l3:=ll (w:=u);have l4:=ll (w:=v);rw [e1,e2];let R:Af:=[some (.tup [.int (x:Int),.int (y:Int)],0),some (.tup [.int (u:Int),.int (v:Int)],0)]
 have i00:Ab A5 (Aa 0) (bC (.int 0)) R=.ok (.int (x:Int),om,R):=rfl;have i01:Ab A5 (Aa 0) (bC (.int 1)) R=.ok (.int (y:Int),om,R):=rfl;have i10:Ab A5 (Aa 1) (bC (.int 0)) R=.ok (.int (u:Int),om,R):=rfl;have i11:Ab A5 (Aa 1) (bC (.int 1)) R=.ok (.int (v:Int),om,R):=rfl;have a1:=DQ (DS i00 i11 (.inl (by omega))) (DS i10 i01 (.inl (by omega)));have a2:=DS i01 i11 (.inl (by omega));have hyv:y * v < 2 ^ 100:=by
  have:y * v < 2 ^ 40 * 2 ^ 40:=Nat.mul_lt_mul'' (by omega) (by omega)
  omega
 obtain ⟨e,r⟩:=Wd (n:=x * v + u * y) (d:=y * v) (Td hy hv) hyv;have em:AO (k * x * (l * v) + l * u * (k * y)) (k * y * (l * v))=AO (x * v + u * y) (y * v):=by
  have en:k * x * (l * v) + l * u * (k * y)=k * l * (x * v + u * y):=by rw [Nat.mul_add];simp [HC,OV,ON]
  have ed:k * y * (l * v)=k * l * (y * v):=by simp [HC,OV,ON]
  rw [en,ed,SO (Td hk hl)]
 rw [em];exact ⟨e,BU (ρ':=R) (b:=TM) rfl (Cv (AF (xs:=[(.int ((x * v + u * y:Nat):Int),om),(.int ((y * v:Nat):Int),om)]) (A2 (a1.trans (by rw [OS,Gb,Gb])) (A9 (a2.trans (by rw [Gb])))) r))⟩
def vg {n1 n2 d:Nat} (hd:0 < d) (b1:d < 2 ^ 40) (hn:n1<=n2) (c1:n1 < 2 ^ 60) (c2:n2 < 2 ^ 60):∃ z,Pu [AO n1 d,AO n2 d]=.ok (.bl true,om,z):=by
 obtain ⟨k,x,y,hk,hy,e0,e0',e1⟩:=JO n1 d hd;obtain ⟨l,u,v,hl,hv,f0,f0',e2⟩:=JO n2 d hd;rw [e1,e2];have lx:x<=k * x:=Pc x hk;have lu:u<=l * u:=Pc u hl;let R:Af:=[some (.tup [.int (x:Int),.int (y:Int)],0),some (.tup [.int (u:Int),.int (v:Int)],0)]
 have i00:Ab A5 (Aa 0) (bC (.int 0)) R=.ok (.int (x:Int),om,R):=rfl;have i01:Ab A5 (Aa 0) (bC (.int 1)) R=.ok (.int (y:Int),om,R):=rfl;have i10:Ab A5 (Aa 1) (bC (.int 0)) R=.ok (.int (u:Int),om,R):=rfl;have i11:Ab A5 (Aa 1) (bC (.int 1)) R=.ok (.int (v:Int),om,R):=rfl;have c:=Ey (p:=λ i j=>decide (i<=j)) (DS i00 i11 (.inl (by omega))) (DS i10 i01 (.inl (by omega)));have key:x * v<=u * y:=by
  have h:(k * l) * (x * v)<=(k * l) * (u * y):=by
   have e3:(k * l) * (x * v)=(k * x) * (l * v):=by simp [HC,OV,ON]
   have e4:(k * l) * (u * y)=(l * u) * (k * y):=by simp [HC,OV,ON]
   rw [e3,e4,<- e0,<- f0,<- e0',<- f0'];exact Gi _ hn
  exact Nat.le_of_mul_le_mul_left h (Td hk hl)
 rw [decide_eq_true (by exact_mod_cast key)] at c;exact ⟨_,BU (ρ':=R) (b:=TQ) rfl (Cv c)⟩
def Sy {neg:Bool}{a b c e:Int}{d d':Nat}:AD neg (.tup [.int a,.int b]) d (.tup [.int c,.int e]) d'=some (.bl (neg^^(decide (a=c) && decide (b=e))),om):=by
 show some (PV.bl (neg^^Ip (.tuple [.int a,.int b]) (.tuple [.int c,.int e])),om)=_;rw [Ip,PyData.eqvAll,PyData.eqvAll,PyData.eqvAll,Ip,Ip,Ju]
 have:∀ x y:Int,(x == y)=decide (x=y):=λ x y=>by by_cases h:x=y <;> simp [h]
 rw [this,this]
def jX {n d:Nat} (hd:0 < d) {neg:Bool}{x y:Nat}:AD neg (AO n d) x (.tup [.int 1,.int 1]) y=some (.bl (neg^^decide (n=d)),om):=by
 obtain ⟨k,u,v,hk,hv,rfl,rfl,e⟩:=JO n d hd;have gd:C0 (k * u) (k * v)=k * C0 u v:=Zc k u v;rw [e,Sy];have e2:AO (k * u) (k * v)=AO u v:=SO hk;rw [e] at e2;unfold AO at e2;injection e2 with e2
 injection e2 with h1 h2
 injection h2 with h2
 injection h1 with h1
 injection h2 with h2
 have g1:C0 u v=1:=by
  have h2:v=v / C0 u v:=by exact_mod_cast h2
  have:=Nat.div_mul_cancel (Zk u v)
  rw [<- h2] at this;exact ZC hv (by rw [this,Nat.mul_one])
 have hb:(decide ((u:Int)=1) && decide ((v:Int)=1))=decide (k * u=k * v):=by
  rw [DY,Bc,decide_eq_true_iff,decide_eq_true_iff,decide_eq_true_iff];constructor
  ·rintro ⟨h1,h2⟩;have h1:u=1:=by omega
   have h2:v=1:=by omega
   rw [h1,h2]
  ·intro h
   have:u=v:=ZC hk h
   subst this;rw [Nat.gcd_self] at g1;omega
 rw [hb]
def wK {n d:Nat} (hd:0 < d) {neg:Bool}{x y:Nat}:AD neg (AO n d) x (.tup [.int 0,.int 1]) y=some (.bl (neg^^decide (n=0)),om):=by
 by_cases h:n=0
 ·subst h
  have:AO 0 d=.tup [.int 0,.int 1]:=by
   unfold AO;rw [Zj,YJ,YI hd];rfl
  rw [this,Sy];rfl
 ·obtain ⟨k,u,v,hk,hv,rfl,rfl,e⟩:=JO n d hd;have hu:u≠0:=λ z=>h (by rw [z,YK]);rw [e,Sy,decide_eq_false (show ¬ (u:Int)=0 by omega),decide_eq_false h];rfl
section
variable {a b c:Nat}{low high:List (List Int)}
theorem RT:∀ (a:Nat) {b i:Nat},BC (CB a b) i=if i < a then A6 b else []
 | 0,b,i=>by rw [if_neg (by omega)];rfl
 | a + 1,b,i=>by
  have ih:=RT a (b:=b) (i:=i);unfold BC at ih ⊢;rw [U6,List.filter_append,CN,ih,Mc,CH];have e:((λ z:Nat×Nat=>decide (z.1=i)) ∘ λ j=>(a,j))=λ _=>decide (a=i):=rfl;rw [e];by_cases h:a=i
  ·subst h;rw [if_neg (by omega),if_pos (by omega),decide_eq_true rfl,jf7.mpr (λ _ _=>rfl),EW];exact List.map_id' _
  ·rw [decide_eq_false h,show (A6 b).filter (λ _=>false)=[] from ji3.mpr λ _ _=>Cs,GI,GJ];by_cases h2:i < a
   ·rw [if_pos h2,if_pos (by omega)]
   ·rw [if_neg h2,if_neg (by omega)]
def Oq (p:List (List Int)) (i j:Nat):Nat:=(g p i j).toNat
theorem W9 {f:Nat->Int}{h:Nat->Nat}:∀ l:List Nat,(∀ j∈l,f j=(h j:Int))->((l.map f).sum).toNat=(l.map h).sum/\0<=(l.map f).sum
 | [],_=>⟨rfl,Dx _⟩
 | x::l,e=>by
  obtain ⟨i1,i2⟩:=W9 l λ j hj=>e j (AM _ hj)
  have:=e x AL
  rw [Be,D9,Be,D9,this,<- i1];omega
def zN {t:List (List Int)} (p:Pile a b c t):Eh (BC (CB a b)) t=((A6 a).map λ i=>((A6 b).map λ j=>Oq t i j).sum).sum:=by
 unfold Eh;rw [p.tab.1];refine congrArg LU (EE λ i hi=>?_);have hi:=jc4.mp hi;unfold Ke;rw [RT,if_pos hi];refine (W9 (h:=λ j=>Oq t i j) _ λ j hj=>?_).1
 have:=p.lo i j hi (jc4.mp hj)
 show g t i j=(((g t i j).toNat:Nat):Int);omega
theorem Xz {α:Type}{f h:α->Nat}:∀ l:List α,(l.map λ x=>f x + h x).sum=(l.map f).sum + (l.map h).sum
 | []=>rfl
 | x::l=>by rw [Be,D9,Be,D9,Be,D9,Xz l];omega
theorem Nc {α β:Type}{f:α->β->Nat} (m:List β):∀ l:List α,(l.map λ x=>(m.map λ y=>f x y).sum).sum=(m.map λ y=>(l.map λ x=>f x y).sum).sum
 | []=>by
  induction m with
  | nil=>rfl
  | cons y m ih=>rw [Be,D9,<- ih];rfl
 | x::l=>by
  rw [Be,D9,Nc m l,<- Xz];rfl
def cK (a b c:Nat) (low high:List (List Int)):Nat:=((A6 a).map λ i=>((A6 b).map λ j=>hK a b c low high i j).sum).sum
def ya (p:Pile a b c low):((PB a b c low high).map (Eh (BC (CB a b)))).sum=cK a b c low high:=by
 rw [show (PB a b c low high).map (Eh (BC (CB a b)))=(PB a b c low high).map λ t=>((A6 a).map λ i=>((A6 b).map λ j=>Oq t i j).sum).sum from EE λ t ht=>zN (II p ht),Nc];refine congrArg LU (EE λ i _=>?_);rw [Nc];rfl
def vx (B:Bt a b c low high):∃ e,P0 [bx a b c,tb low,tb high]=.ok (AO (cK a b c low high) (PB a b c low high).length,e,.non):=by
 have h:=B.ab;let ρ0:Af:=[some (bx a b c,0),some (tb low,0),some (tb high,0)]
 have hp:∀ z∈CB a b,z.2 < b:=λ z hz=>(zxu.mp hz).2;have hm:∀ k,(BC (CB a b) k).length<=6:=λ k=>by rw [RT];split <;> simp <;> omega
 have hl:(CB a b).length<=1000:=by
  rw [P7]
  have:a * b<=6 * 6:=K1 h.1 h.2.1
  omega
 obtain ⟨t1,_⟩:=B.tally hp hm hl;obtain ⟨e,r⟩:=B.mean hp hm hl;rw [ya B.p] at r;obtain ⟨d,_,ep⟩:=UJ (a:=a) (b:=b) (c:=c) (by omega) (by omega);have v1:D5 (A3 GP pa7) ρ0=.nx ρ0:=Ic (AF (xs:=[(bx a b c,0),(tb low,0),(tb high,0)]) rfl B.must);exact ⟨e,BU (ρ':=ρ0) (b:=TR) rfl ((AV v1).trans (Cv (AF (xs:=[(il (CF a b c low high (CB a b)),om)]) (A9 (AF (xs:=[(bx a b c,0),(tb low,0),(tb high,0),(.lst ((CB a b).map pr),d)]) (A2 rfl (A2 rfl (A2 rfl (A9 (AF (xs:=[(bx a b c,0)]) rfl ep))))) t1)) r)))⟩
theorem Wc (v:Nat):∀ n:Nat,((A6 n).map λ k=>if k < v then 1 else 0).sum=min n v
 | 0=>by simp
 | n + 1=>by
  rw [ED,CN,Ma,Wc v n];by_cases h:n < v <;> simp [h] <;> omega
theorem XB {α:Type}{p:α->Bool}:∀ l:List α,(l.filter p).length=(l.map λ x=>if p x=true then 1 else 0).sum
 | []=>rfl
 | x::l=>by
  rw [Be,D9,<- XB l,Ep];split
  ·rw [Bw];omega
  ·omega
def WK (p:Pile a b c low) {i j:Nat} (hi:i < a) (hj:j < b):((A6 c).map λ k=>nK a b c low high i j k).sum=hK a b c low high i j:=by
 have e:((A6 c).map λ k=>nK a b c low high i j k)=(A6 c).map λ k=>((PB a b c low high).map λ t=>if k < Oq t i j then 1 else 0).sum:=EE λ k _=>by
  unfold nK;rw [XB];refine congrArg LU (EE λ t ht=>?_);have h0:=(II p ht).lo i j hi hj;by_cases h:(k:Int) < g t i j
  ·rw [if_pos (decide_eq_true h),if_pos (by show k < (g t i j).toNat;omega)]
  ·rw [if_neg (by rw [decide_eq_false h];decide),if_neg (by show ¬ k < (g t i j).toNat;omega)]
 rw [e,Nc];refine congrArg LU (EE λ t ht=>?_);rw [Wc];have h1:=(II p ht).hi i j hi hj;have h0:=(II p ht).lo i j hi hj;show min c (g t i j).toNat=(g t i j).toNat;omega
end
def q1:L7=GZ 1:=by
 have:RG=LP RC:=by kernel_rfl
 unfold L7;rw [this];rfl
def q2:L8=GZ 2:=by
 have:RH=LP L7:=by kernel_rfl
 unfold L8;rw [this,q1];rfl
def q3:L9=GZ 3:=by
 have:R6=LP L8:=by kernel_rfl
 unfold L9;rw [this,q2];rfl
def q4:J6=GZ 4:=by
 have:R7=LP L9:=by kernel_rfl
 show Om=_;unfold Om;rw [this,q3];rfl
def UC {asg:PV->Af->Option Af}{body:Fs}{x:PV}{l:List PV}{ρ ρ1 ρ2:Af} (h1:asg x ρ=some ρ1) (h2:body ρ1=.nx ρ2):BQ asg body (x::l) ρ=BQ asg body l ρ2:=by
 rw [BQ,h1];dsimp only;rw [h2]
def wF (n:Nat) (x y:Int):GZ (n + 2) [.tup [.int x,.int y],.tup [.int x,.int y]]=.ok (.bl true,om,.non):=by
 let T:PV:=.tup [.int x,.int y];let R (s2 s3:QQ.Slot):Af:=[some (T,dv T),some (T,dv T),s2,s3]
 have t1:bT (AJ (CT "int") (Aa 1)) (R none none)=.ok (false,R none none):=by kernel_rfl
 have t2:bT (AJ (CT "str") (Aa 1)) (R none none)=.ok (false,R none none):=by kernel_rfl
 have t3:bT pc7 (R none none)=.ok (false,R none none):=by kernel_rfl
 have t4:bT (Ab (AD true) pb0 pb6) (R none none)=.ok (false,R none none):=by kernel_rfl
 have st:∀ (z:Int) (s2 s3:QQ.Slot),Bi (bT (AJ BV (A3 (GZ (n + 1)) pb5))) (Au (bC (.bl false))) A1 (R (some (.int z,om)) (some (.int z,om)))=.nx (R (some (.int z,om)) (some (.int z,om))):=λ z _ _=>(Cw (AN (Ez (AF (xs:=[(.int z,om),(.int z,om)]) rfl (wD n z))))).trans rfl;have lp:BQ (asgT [2,3]) (Bi (bT (AJ BV (A3 (GZ (n + 1)) pb5))) (Au (bC (.bl false))) A1) [.tup [.int x,.int x],.tup [.int y,.int y]] (R none none)=.nx (R (some (.int y,om)) (some (.int y,om))):=by
  refine (UC (ρ1:=R (some (.int x,om)) (some (.int x,om))) (ρ2:=R (some (.int x,om)) (some (.int x,om))) rfl (st x none none)).trans ?_;exact (UC (ρ1:=R (some (.int y,om)) (some (.int y,om))) (ρ2:=R (some (.int y,om)) (some (.int y,om))) rfl (st y none none)).trans rfl
 have t5:=WI (v:=.zp) (fa:=Ae (Aa 0) (Ae (Aa 1) (Ac))) (vs:=[0,1]) (ρ:=R none none) (xs:=[(T,dv T),(T,dv T)]) (ρ1:=R none none) (ρ2:=R none none) rfl rfl rfl lp;exact BU rfl ((Eg t1).trans ((Eg t2).trans ((Eg t3).trans ((Eg t4).trans ((AV t5).trans rfl)))))
def Qm (n d:Nat):J6 [AO n d,AO n d]=.ok (.bl true,om,.non):=by
 rw [q4];exact wF 2 _ _
section
variable {a b c:Nat}{low high:List (List Int)}
def Dv (k:Nat) (F:Nat->Int) (r:List Int):List Int:=(E1 k r).map λ z=>Bb z.2 (F z.1)
theorem XY {F:Nat->Int}:∀ (r:List Int) (k j:Nat),j < r.length->(Dv k F r).getD j 0=Bb (r.getD j 0) (F (k + j))
 | x::r,k,0,_=>rfl
 | x::r,k,j + 1,h=>by
  have:=XY (F:=F) r (k + 1) j (by simpa using h)
  rw [Nat.add_right_comm] at this;exact this
def wM {F:Nat->Int}{k:Nat}{r:List Int}:(Dv k F r).length=r.length:=by
 unfold Dv;rw [AG,KI]
def row_ok {F:Nat->Int}{L:List (Option PV)}{O:List Nat}{ρ:Af}{n x6:Nat}{elt:Fx}{r:List Int} (h:HV L O ρ) (hn:L.length=n) (hx:L[x6]?=some (some (il r))) (hr:r.length<=1000) (he:∀ (y:Nat) (v:Int) ρ',HV (L++[some (.int (y:Int))]++[some (.int v)]) O ρ'->elt ρ'=.ok (.int (Bb v (F y)),om,ρ')):Di .enm (Ae (Aa x6) (Ac)) 2 (asgT [n,n + 1]) Bp elt ρ=.ok (il (Dv 0 F r),om,ρ):=by
 have z:=sz;have hl:ρ.length=n:=h.len.trans hn;refine (RS (enc:=J1) (q:=λ z=>.int (Bb z.2 (F z.1))) (E:=λ z=>[some (.int (z.1:Int),om),some (.int z.2,om)]) (as:=[(il r,0)]) (E1 0 r) (A9 (h.var hx)) (by show some (DT 0 (r.map PV.int))=_;rw [Qo]) (λ z _=>?_) (λ z _=>?_) (by rw [KI];omega)).trans ?_
 ·subst hl;show (QQ.asgT [ρ.length,ρ.length + 1] (.tup [.int (z.1:Int),.int z.2]) (ρ++[none,none]))=_;simp [QQ.asgT,BG,asgN,YW];exact ⟨rfl,rfl⟩
 ·have:=((h.push (x:=.int (z.1:Int)) (d:=om)).push (x:=.int z.2) (d:=om))
  rw [IC (as:=ρ)] at this;exact he z.1 z.2 _ this
 ·unfold Dv;rw [il,CH];rfl
def Cc (low:List (List Int)) (i j k n:Nat):List (List Int):=(A6 n).map λ x=>Dv 0 (C9 i j k x) (low.getD x [])
def jY (h:Tab a b low) (i j k:Nat):Cc low i j k a=zT Bb low (CG a b (C9 i j k)):=by
 have hr:∀ x,x < a->(low.getD x []).length=b:=λ x hx=>by
  rw [AR,Ci (by rw [h.1];exact hx)];exact h.2 _ (IA _)
 refine Xr (a:=a) (b:=b) ⟨by unfold Cc;simp,λ r hr'=>?_⟩ (Sm h KW) λ x y hx hy=>?_
 ·obtain ⟨x,hx,rfl⟩:=jd6.mp hr';rw [wM];exact hr x (jc4.mp hx)
 ·rw [Ig h KW,CS hx hy,CS hx hy];unfold g Cc;rw [AR (l:=(A6 a).map _),CI,K8 hx];show (Dv 0 (C9 i j k x) (low.getD x [])).getD y 0=_;rw [XY _ _ _ (by rw [hr x hx];exact hy),HB]
theorem WU:∀ (t:List (List Int)) (n m:Nat) (x:PV),(DT n (t.map il))[m]?=some x->m < t.length/\x=.tup [.int ((n + m:Nat):Int),il (t.getD m [])]
 | [],n,m,x,h=>by cases h
 | r::t,n,0,x,h=>by cases h;exact ⟨To _,rfl⟩
 | r::t,n,m + 1,x,h=>by
  obtain ⟨h1,h2⟩:=WU t (n + 1) m x h;refine ⟨Nat.succ_lt_succ h1,?_⟩;rw [h2,show n + 1 + m=n + (m + 1) by omega];rfl
theorem enumL_len:∀ (t:List PV) (n:Nat),(DT n t).length=t.length
 | [],n=>rfl
 | r::t,n=>congrArg Nat.succ (enumL_len t (n + 1))
def xO (h:Tab a b low) (ha:a<=1000) (hb:b<=1000) (i j k:Nat) (hk:k<=1000):∃ d,Pw [tb low,.int (i:Int),.int (j:Int),.int (k:Int)]=.ok (tb (zT Bb low (CG a b (C9 i j k))),d,.non):=by
 have z:=sz;let L (s4 s5 s6:Option PV):List (Option PV):=[some (tb low),some (.int (i:Int)),some (.int (j:Int)),some (.int (k:Int)),s4,s5,s6]
 have hr:∀ x,(low.getD x []).length<=b:=λ x=>by
  rw [AR];cases e:low[x]? with
  | none=>exact Fw _
  | some r=>exact YQ (h.2 _ (Z6 e))
 obtain ⟨y,d,e,rfl⟩:=Ge.fn (R:=λ y=>y=tb (zT Bb low (CG a b (C9 i j k)))) (np:=4) (k:=3) (b:=Pk) (xs:=[tb low,.int (i:Int),.int (j:Int),.int (k:Int)]) rfl (by
  have H0:HV (L none none none) [] [some (tb low,0),some (.int (i:Int),om),some (.int (j:Int),om),some (.int (k:Int),om),none,none,none]:=HV.of [some (tb low,0),some (.int (i:Int),om),some (.int (j:Int),om),some (.int (k:Int),om),none,none,none];show Ge Pk [some (tb low,0),some (.int (i:Int),om),some (.int (j:Int),om),some (.int (k:Int),om),none,none,none] _;refine Ge.ex (H0.setN (x:=tb []) rfl (show 4 < 7 by decide)) λ ρ1 (H1:HV (L (some (tb [])) none none) [4] ρ1)=>?_;refine Ge.ex (P:=HV (L (some (tb (Cc low i j k a))) none none) [4]) ?_ λ ρ2 H2=>Ge.retV H2 (x:=tb (Cc low i j k a)) rfl (by rw [jY h]);obtain ⟨ρ2,e2,H2⟩:=Nx.loop (asg:=asgT [5,6]) (els:=DT 0 (low.map il)) (λ m ρ=>HV (L (some (tb (Cc low i j k m))) none none) [4] ρ) (s:=Co 4 (Di .enm (Ae (Aa 6) (Ac)) 2 (asgT [7,8]) Bp (Am Hl pa8)) [6,6,3,5,1,6,2])
   (H1.coolK (d:=if Dk [(tb low,0)]=true then om else 0) (vs:=[0]) (by decide)) (λ m x ρ hx H=>by
    obtain ⟨hm,rfl⟩:=WU low 0 m x hx;rw [HB];obtain ⟨ρ3,e3,H3⟩:=H.asg2 (i:=5) (j:=6) (.int (m:Int)) (il (low.getD m [])) (show 5 < 7 by decide) (show 6 < 7 by decide) ⟨by decide,by decide⟩;refine ⟨ρ3,e3,?_⟩;have H3':HV (L (some (tb (Cc low i j k m))) (some (.int (m:Int))) (some (il (low.getD m [])))) [4] ρ3:=H3;have row:=row_ok (F:=C9 i j k m) (n:=7) (x6:=6) (r:=low.getD m []) (elt:=Am Hl pa8) H3' rfl rfl (BZ (hr m) hb) (λ y v ρ' Hp=>by
     have c1:=Ey (p:=λ i j=>decide (i<=j)) (Hp.var (j:=5) (x:=.int (m:Int)) rfl) (Hp.var (j:=1) (x:=.int (i:Int)) rfl);have c2:=Ey (p:=λ i j=>decide (i<=j)) (Hp.var (j:=7) (x:=.int (y:Int)) rfl) (Hp.var (j:=2) (x:=.int (j:Int)) rfl);have c3:=Ii c1 (λ _=>c2) rfl;have c4:Am KZ pd2 ρ'=.ok (.int (if (decide ((m:Int)<=i) && decide ((y:Int)<=j))=true then 1 else 0),om,ρ'):=Ck (A9 c3) (by cases (decide ((m:Int)<=i) && decide ((y:Int)<=j)) <;> rfl);have c5:=DS (DQ (g:=bC (.int 1)) (j:=1) (e:=om) (Hp.var (j:=3) (x:=.int (k:Int)) rfl) rfl) c4 (.inl ⟨by omega,by omega⟩);refine (Ck (op:=Hl) (A2 (Hp.var (j:=8) (x:=.int v) rfl) (A9 c5)) rfl).trans ?_;have e:(k + 1:Int) * (if (decide ((m:Int)<=i) && decide ((y:Int)<=j))=true then 1 else 0)=C9 i j k m y:=by
      unfold C9;by_cases hh:m<=i/\y<=j
      ·rw [if_pos hh,if_pos (by simp;omega)];omega
      ·rw [if_neg hh,if_neg (by simp;omega)];omega
     rw [e];rfl)
    have hl:((Cc low i j k m).map il).length < Az:=by unfold Cc;simp;rw [h.1] at hm;omega
    obtain ⟨ρ4,e4,H4⟩:=H3'.app (i:=4) (xs:=(Cc low i j k m).map il) rfl (by decide) row hl;refine ⟨ρ4,e4,H4.weak ?_ λ _ h=>h⟩;show Wk (L (some (tb (Cc low i j k (m + 1)))) none none) (L (some (.lst ((Cc low i j k m).map il++[il (Dv 0 (C9 i j k m) (low.getD m []))]))) (some (.int (m:Int))) (some (il (low.getD m []))))
    have:tb (Cc low i j k (m + 1))=.lst ((Cc low i j k m).map il++[il (Dv 0 (C9 i j k m) (low.getD m []))]):=by
     unfold tb Cc;rw [ED,CN,CN];rfl
    rw [this];simp [Wk,L])
  rw [enumL_len,AG,h.1] at H2;exact ⟨ρ2,WI (v:=.enm) (xs:=[(tb low,0)]) (A9 (H1.var rfl)) rfl rfl e2,H2⟩)
 exact ⟨d,e⟩
end
section
variable {a b c:Nat}{low high:List (List Int)}
def qz (p:Pile a b c low) (q:Pile a b c high) {i j k:Nat} (hi:i < a) (hj:j < b) (hk:k < c):(BP (g (zT Bb low (CG a b (C9 i j k)))) (g high) c b a).length=nK a b c low high i j k:=by
 rw [qK (MX p (Y6 hk)) q,K5 (jd p hi hj)];unfold nK PB;have e:BP (g low) (g high) c b a=(QV.AllP a b c).filter (J2 a b low high):=by
  unfold QV.AllP J2;rw [PD (lo':=zF) (hi':=cF c) (λ i j=>TB p i j) (λ i j=>ZH q i j) a]
 rw [e,List.filter_filter];congr 1;refine K5 λ r _=>?_;rw [Bool.and_comm];rfl
theorem Yn {α:Type}{P Q:α->Bool}:∀ {l:List α},(∀ x∈l,P x=true->Q x=true)->(l.filter P).length<=(l.filter Q).length
 | [],_=>AA _
 | x::l,h=>by
  have ih:=Yn (l:=l) λ y hy=>h y (AM _ hy);have hx:=h x AL;rw [Ep,Ep];cases e:P x with
  | true=>rw [hx e];exact Tr ih
  | false=>
   cases Q x with
   | true=>exact Nat.le_succ_of_le ih
   | false=>exact ih
def jB (p:Pile a b c low) {i j k i' j' k':Nat} (hi:i < a) (hj:j < b) (h1:i'<=i) (h2:j'<=j) (h3:k'<=k):nK a b c low high i j k<=nK a b c low high i' j' k':=by
 unfold nK;refine Yn λ r hr h=>?_
 have:=Pile.anti (II p hr) h1 h2 hi hj
 rw [decide_eq_true_iff] at h ⊢;omega
def Lc (x:Int) {n:Nat} (hn:1<=n):∃ m:Nat,m < n/\x % (n:Int)=(m:Int):=by
 have h1:=OT x (b:=(n:Int)) (by omega);have h2:=OY x (b:=(n:Int)) (by omega);exact ⟨(x % (n:Int)).toNat,by omega,by omega⟩
end
structure Bx (a b c:Nat):Prop where
 N:BoxN a b c
 bd:(AB b c).length ^ (a + 1)<=2 ^ 30
 ab:a<=6/\b<=6/\c<=6
 lo:1<=a/\1<=b/\1<=c
def Pg (a b c:Nat):Bool:=Pe b c && decide ((AB b c).length ^ (a + 1)<=2 ^ 30) && decide (a<=6/\b<=6/\c<=6) && decide (1<=a/\1<=b/\1<=c)
def Vp {a b c:Nat} (h:Pg a b c=true):Bx a b c:=by
 unfold Pg at h;rw [Bc,Bc,Bc,decide_eq_true_iff,decide_eq_true_iff,decide_eq_true_iff] at h;obtain ⟨⟨⟨h1,h2⟩,h3⟩,h4⟩:=h;exact ⟨⟨qI (by omega) (by omega) (by omega) h1,by omega,BZ h2 (by decide),by omega⟩,h2,h3,h4⟩
def allB:Bool:=((A6 4).all λ a=>(A6 2).all λ b=>(A6 4).all λ c=>Pg (a + 1) (b + 1) (c + 1)) && [(2,5,2),(3,4,2),(2,2,6),(6,1,2),(2,6,1),(1,6,3)].all λ z=>Pg z.1 z.2.1 z.2.2
def W7:allB=true:=by kernel_rfl
def yf {a b c:Nat} (ha:a < 4) (hb:b < 2) (hc:c < 4):Bx (a + 1) (b + 1) (c + 1):=by
 have h:=W7;unfold allB at h;rw [Bc] at h;exact Vp (jb8.mp (jb8.mp (jb8.mp h.1 a (jc4.mpr ha)) b (jc4.mpr hb)) c (jc4.mpr hc))
def bxs:List (Nat×Nat×Nat):=[(2,5,2),(3,4,2),(2,2,6),(6,1,2),(2,6,1),(1,6,3)]
def zZ {z:Nat×Nat×Nat} (h:z∈bxs):Bx z.1 z.2.1 z.2.2:=by
 have h':=W7;unfold allB at h';rw [Bc] at h';exact Vp (jb8.mp h'.2 z h)
def qJ (cell:Int):∃ a b c d,Bx a b c/\Mq [.int cell]=.ok (bx a b c,d,.non):=by
 obtain ⟨ns,hl,e1⟩:=Qd cell 4 (by decide);obtain ⟨n0,n1,n2,n3,rfl⟩:∃ n0 n1 n2 n3,ns=[n0,n1,n2,n3]:=by
  rcases ns with _ | ⟨n0,_ | ⟨n1,_ | ⟨n2,_ | ⟨n3,_ | _⟩⟩⟩⟩ <;> simp at hl
  exact ⟨_,_,_,_,rfl⟩
 let R (s2:QQ.Slot):Af:=[some (.int cell,om),some (il [n0,n1,n2,n3],om),s2]
 have v1:Aj false 1 pg3 [0] [some (.int cell,om),none,none]=.nx (R none):=Bm (AF (xs:=[(.int cell,om),(.int 4,om)]) rfl e1) (show 1 < 3 by decide) rfl;have v2:Aj false 2 (bC (.int 3)) [] (R none)=.nx (R (some (.int 3,om))):=rfl;have ix:∀ (s2:QQ.Slot) (k:Int) (v:Int),A5 (il [n0,n1,n2,n3]) 0 (.int k) om=some (.int v,om)->Ab A5 (Aa 1) (bC (.int k)) (R s2)=.ok (.int v,om,R s2):=λ s2 k v h=>Cy (x:=il [n0,n1,n2,n3]) (d:=0) (e:=om) rfl rfl h;have t (s2:QQ.Slot) (k:Int):=AN (Iv (neg:=false) (DB (g:=bC (.int 8)) (j:=8) (e:=om) (ix s2 3 n3 rfl) rfl (by decide)) (g:=bC (.int k)) (j:=k) (e:=om) rfl);obtain ⟨m,hm,v3⟩:∃ m:Nat,(m=3\/m=4)/\Bi (bT (Ab (AD false) pd7 (bC (.int 3)))) (Aj false 2 (bC (.int 4)) []) A1 (R (some (.int 3,om)))=.nx (R (some (.int (m:Int),om))):=by
  have:=t (some (.int 3,om)) 3
  by_cases h:n3 % 8=3
  ·rw [decide_eq_true h] at this;exact ⟨4,.inr rfl,(C7 this).trans rfl⟩
  ·rw [decide_eq_false h] at this;exact ⟨3,.inl rfl,(Cw this).trans rfl⟩
 have t2:=t (some (.int (m:Int),om)) 5;by_cases h:n3 % 8=5
 ·rw [decide_eq_true h] at t2;obtain ⟨k,hk,ek⟩:=Lc (n0 / 8) (n:=6) (by decide);have mk:∃ z∈bxs,∃ e,A5 (.lst (bxs.map λ z=>bx z.1 z.2.1 z.2.2)) om (.int (k:Int)) om=some (bx z.1 z.2.1 z.2.2,e):=by
   rcases k with _ | _ | _ | _ | _ | _ | k
   ·exact ⟨(2,5,2),by decide,_,rfl⟩
   ·exact ⟨(3,4,2),by decide,_,rfl⟩
   ·exact ⟨(2,2,6),by decide,_,rfl⟩
   ·exact ⟨(6,1,2),by decide,_,rfl⟩
   ·exact ⟨(2,6,1),by decide,_,rfl⟩
   ·exact ⟨(1,6,3),by decide,_,rfl⟩
   ·omega
  obtain ⟨z,hz,e,eo⟩:=mk;have i1:=DB (j:=6) (e:=om) (Ij (g:=bC (.int 8)) (j:=8) (e:=om) (ix (some (.int (m:Int),om)) 0 n0 rfl) rfl (by decide) (by decide)) (g:=bC (.int 6)) rfl (by decide);rw [show n0 / 8 % 6=(k:Int) from ek] at i1;have r:=Cv (Cy (f:=Am BB pa6) (x:=.lst (bxs.map λ z=>bx z.1 z.2.1 z.2.2)) (d:=om) (ρ:=R (some (.int (m:Int),om))) rfl i1 eo);exact ⟨_,_,_,_,zZ hz,BU (b:=Pl) rfl ((AV v1).trans ((AV v2).trans ((AV v3).trans (JP ((C7 t2).trans r)))))⟩
 ·rw [decide_eq_false h] at t2;obtain ⟨x,hx,ex⟩:=Lc n0 (n:=m) (by omega);obtain ⟨y,hy,ey⟩:=Lc n1 (n:=2) (by decide);obtain ⟨w,hw,ew⟩:=Lc n2 (n:=m) (by omega);have i0:=DQ (f:=bC (.int 1)) (i:=1) (d:=om) rfl (DB (g:=Aa 2) (e:=om) (j:=(m:Int)) (ix (some (.int (m:Int),om)) 0 n0 rfl) rfl (by omega));have i1:=DQ (f:=bC (.int 1)) (i:=1) (d:=om) rfl (DB (g:=bC (.int 2)) (e:=om) (j:=2) (ix (some (.int (m:Int),om)) 1 n1 rfl) rfl (by omega));have i2:=DQ (f:=bC (.int 1)) (i:=1) (d:=om) rfl (DB (g:=Aa 2) (e:=om) (j:=(m:Int)) (ix (some (.int (m:Int),om)) 2 n2 rfl) rfl (by omega));rw [ex] at i0;rw [show n1 % 2=(y:Int) from ey] at i1;rw [ew] at i2;have r:=Cv (Ck (op:=BJ) (A2 i0 (A2 i1 (A9 i2))) rfl);have f:Mq [.int cell]=.ok (.tup [.int (1 + (x:Int)),.int (1 + (y:Int)),.int (1 + (w:Int))],om,.non):=BU (b:=Pl) rfl ((AV v1).trans ((AV v2).trans ((AV v3).trans ((Eg t2).trans r))));refine ⟨x + 1,y + 1,w + 1,om,yf (by omega) hy (by omega),f.trans ?_⟩;rw [show (1 + (x:Int))=((x + 1:Nat):Int) by omega,show (1 + (y:Int))=((y + 1:Nat):Int) by omega,show (1 + (w:Int))=((w + 1:Nat):Int) by omega]
section
variable {a b c:Nat}{low high t u:List (List Int)}
def jv {n:Nat}{ρ:Af} (hn:ρ.length=n) (x y:PV):asgT [n,n + 1] (.tup [x,y]) (ρ++[none,none])=some (ρ++[some (x,dv x),some (y,dv y)]):=by
 subst hn;simp [QQ.asgT,BG,asgN,YW]
def Wr {L:List (Option PV)}{O:List Nat}{ρ:Af}{n x y:Nat}{α:Type}{f:α->PV}{q:α->α->PV}{elt:Fx}{xs ys:List α} (h:HV L O ρ) (hn:L.length=n) (hx:L[x]?=some (some (.lst (xs.map f)))) (hy:L[y]?=some (some (.lst (ys.map f)))) (hl:xs.length<=1000) (he:∀ v w,v∈xs->w∈ys->∀ ρ',HV (L++[some (f v)]++[some (f w)]) O ρ'->elt ρ'=.ok (q v w,om,ρ')):Di .zp (Ae (Aa x) (Ae (Aa y) (Ac))) 2 (asgT [n,n + 1]) Bp elt ρ=.ok (.lst ((xs.zip ys).map λ z=>q z.1 z.2),om,ρ):=by
 have z:=sz;have hl':ρ.length=n:=h.len.trans hn;refine RS (enc:=λ z:α×α=>.tup [f z.1,f z.2]) (q:=λ z=>q z.1 z.2) (E:=λ z=>[some (f z.1,dv (f z.1)),some (f z.2,dv (f z.2))]) (as:=[(.lst (xs.map f),0),(.lst (ys.map f),0)]) (xs.zip ys) (A2 (h.var hx) (A9 (h.var hy))) (by show some (Ca (xs.map f) (ys.map f))=_;rw [Yx]) (λ z _=>jv hl' _ _) (λ z hz=>?_) (by rw [Md];omega)
 have:=((h.push (x:=f z.1) (d:=dv (f z.1))).push (x:=f z.2) (d:=dv (f z.2)))
 rw [IC (as:=ρ)] at this;have hm:=K3 (show (z.1,z.2)∈xs.zip ys from hz);exact he z.1 z.2 hm.1 hm.2 _ this
def Ws {L:List (Option PV)}{O:List Nat}{ρ:Af}{n x y:Nat}{op:List (PV×Nat)->Option (PV×Nat)}{F:Int->Int->Int} (hop:∀ i j,op [(.int i,om),(.int j,om)]=some (.int (F i j),om)) (h:HV L O ρ) (hn:L.length=n) (hx:L[x]?=some (some (tb t))) (hy:L[y]?=some (some (tb u))) (ht:Tab a b t) (ha:a<=1000) (hb:b<=1000):
  Di .zp (Ae (Aa x) (Ae (Aa y) (Ac))) 2 (asgT [n,n + 1]) Bp (Di .zp (Ae (Aa n) (Ae (Aa (n + 1)) (Ac))) 2 (asgT [n + 2,n + 3]) Bp (Am op (Ae (Aa (n + 2)) (Ae (Aa (n + 3)) (Ac))))) ρ=.ok (tb (zT F t u),om,ρ):=by
 subst hn;have at1:∀ (L:List (Option PV)) (v w:PV),(L++[some v]++[some w])[L.length]?=some (some v):=λ L v w=>by simp
 have at2:∀ (L:List (Option PV)) (v w:PV),(L++[some v]++[some w])[L.length + 1]?=some (some w):=λ L v w=>by simp
 refine (Wr (f:=il) (q:=λ v w=>il (Tg F v w)) h rfl hx hy (by rw [ht.1];exact ha) λ v w hv hw ρ' H=>?_).trans ?_
 ·have hl:(L++[some (il v)]++[some (il w)]).length=L.length + 2:=by simp
  refine (Wr (f:=PV.int) (q:=λ i j=>.int (F i j)) H hl (at1 _ _ _) (at2 _ _ _) (by rw [ht.2 v hv];exact hb) λ i j _ _ ρ2 H2=>Ck (A2 (H2.var (x:=.int i) (by rw [<- hl];exact at1 _ _ _)) (A9 (H2.var (x:=.int j) (by rw [show L.length + 3=(L.length + 2) + 1 by omega,<- hl];exact at2 _ _ _)))) (hop i j)).trans ?_;unfold il;rw [<- List.map_uncurry_zip_eq_zipWith,CH];rfl
 ·unfold tb zT;rw [CH];rfl
def Ik {v:Int}{i j:Nat} (hi:i < a) (hj:j < b):g (Iy a b v) i j=v:=by
 unfold g Iy;rw [AR (l:=AK a _),EG,if_pos hi];show (AK b v).getD j 0=v;rw [AR,EG,if_pos hj];rfl
def Y9 {v:Int} (h:0<=v/\v<=c):Pile a b c (Iy a b v):=⟨yy a b v,λ i j hi hj=>by rw [Ik hi hj];exact h.1,λ i j hi hj=>by rw [Ik hi hj];exact h.2,λ i j hi hj=>by rw [Ik hi hj,Ik (by omega) hj];exact Dx _,λ i j hi hj=>by rw [Ik hi hj,Ik hi (by omega)];exact Dx _⟩
def WW {L:List (Option PV)}{ρ:Af}{n x:Nat}{f:Fx}{v:Int}{d:Nat} (h:HV L [] ρ) (hn:L.length=n) (hx:L[x]?=some (some (tb t))) (h0:L[0]?=some (some (bx a b c))) (ht:Tab a b t) (ha:a<=1000) (hb:b<=1000) (hf:∀ ρ' y,HV (L++[some y]) [] ρ'->f ρ'=.ok (.lst [.int v],d,ρ')):Cz (Aa x) 1 (asgN n) Bp (Ab BD f pa4) ρ=.ok (tb (Iy a b v),om,ρ):=by
 have z:=sz;refine (IP (enc:=il) (q:=λ _=>il (AK b v)) t (h.var hx) (h.len.trans hn) (λ r _=>?_) (by rw [ht.1];omega)).trans ?_
 ·have H:=h.push (x:=il r) (d:=dv (il r));refine xS (hf _ _ H) (Cy (x:=bx a b c) (d:=0) (e:=om) (H.var ?_) rfl rfl) hb;rw [C6 (jb0.mp h0).1];exact h0
 ·unfold tb Iy;rw [List.map_replicate,List.map_const',ht.1]
def xj (h:∀ i j,i < a->j < b->g low i j<=g high i j):Kz a b low high=true:=by
 unfold Kz;rw [jb8];intro z hz;rw [decide_eq_true_iff];exact h _ _ (zxu.mp hz).1 (zxu.mp hz).2
def ye {ns:List Int} (X:Bx a b c) (hns:ns.length<=1000) (cell:Int):∃ low high d,Bt a b c low high/\Px [bx a b c,.scr ns,.int cell]=.ok (.tup [tb low,tb high],d,.non):=by
 have A:=X.ab;have B:=X.lo;have hab:a * b<=36:=K1 A.1 A.2.1;obtain ⟨t,d1,p,hd1,e1⟩:=Xc (a:=a) (b:=b) (c:=c) ns 3 cell (by decide) (by omega) (by omega) (by omega) hns;obtain ⟨s60,e60⟩:=SR cell 60 (by decide);obtain ⟨s61,e61⟩:=SR cell 61 (by decide);obtain ⟨u,d2,q,hd2,e2⟩:=Xc (a:=a) (b:=b) (c:=c) ns (3 + a * b) s60 (by omega) (by omega) (by omega) (by omega) hns;let L (s3 s4 s5 s6 s7:Option PV):List (Option PV):=[some (bx a b c),some (.scr ns),some (.int cell),s3,s4,s5,s6,s7]
 obtain ⟨y,d,e,low,high,rfl,hB⟩:=Ge.fn (R:=λ y=>∃ low high,y=.tup [tb low,tb high]/\Bt a b c low high) (np:=3) (k:=5) (b:=Pn) (xs:=[bx a b c,.scr ns,.int cell]) rfl (by
  have H0:HV (L none none none none none) [] [some (bx a b c,0),some (.scr ns,om),some (.int cell,om),none,none,none,none,none]:=HV.of [some (bx a b c,0),some (.scr ns,om),some (.int cell,om),none,none,none,none,none];show Ge Pn [some (bx a b c,0),some (.scr ns,om),some (.int cell,om),none,none,none,none,none] _;have bi:∀ {ρ:Af}{L:List (Option PV)} (n:Int) (m:Nat),HV L [] ρ->L[0]?=some (some (bx a b c))->A5 (bx a b c) 0 (.int n) om=some (.int (m:Int),om)->Ab A5 (Aa 0) (bC (.int n)) ρ=.ok (.int (m:Int),om,ρ):=λ n m H e h=>Cy (x:=bx a b c) (d:=0) (e:=om) (H.var e) rfl h;refine Ge.ex (H0.set (x:=tb t) (AF (xs:=[(bx a b c,0),(.scr ns,om),(.int 3,om),(.int cell,om)]) (A2 (H0.var rfl) (A2 (H0.var rfl) (A2 rfl (A9 (H0.var rfl))))) e1) (show 3 < 8 by decide)) λ ρ1 (H1:HV (L (some (tb t)) none none none none) [] ρ1)=>?_;have m1:=DQ (f:=bC (.int 3)) (i:=3) (d:=om) (ρ:=ρ1) rfl (DS (bi 0 a H1 rfl rfl) (bi 1 b H1 rfl rfl) (.inl ⟨by omega,by omega⟩));rw [show (3:Int) + (a:Int) * (b:Int)=((3 + a * b:Nat):Int) by rw [OS,Gb];rfl] at m1;refine Ge.ex (H1.set (x:=tb u) (AF (xs:=[(bx a b c,0),(.scr ns,om),(.int ((3 + a * b:Nat):Int),om),(.int s60,om)]) (A2 (H1.var rfl) (A2 (H1.var rfl) (A2 m1 (A9 (AF (xs:=[(.int cell,om),(.int 60,om)]) (A2 (H1.var rfl) (A9 rfl)) e60))))) e2) (show 4 < 8 by decide)) λ ρ2 (H2:HV (L (some (tb t)) (some (tb u)) none none none) [] ρ2)=>?_;refine Ge.ex (H2.setO (x:=tb (zT CY t u)) (Ws (op:=GA) (F:=CY) (λ _ _=>rfl) H2 rfl rfl rfl p.tab (by omega) (by omega)) (show 5 < 8 by decide)) λ ρ3 (H3:HV (L (some (tb t)) (some (tb u)) (some (tb (zT CY t u))) none none) [] ρ3)=>?_;refine Ge.ex (H3.setO (x:=tb (zT Bb t u)) (Ws (op:=Hl) (F:=Bb) (λ _ _=>rfl) H3 rfl rfl rfl p.tab (by omega) (by omega)) (show 6 < 8 by decide)) λ ρ4 (H4:HV (L (some (tb t)) (some (tb u)) (some (tb (zT CY t u))) (some (tb (zT Bb t u))) none) [] ρ4)=>?_;refine Ge.ex (H4.setO (x:=.int (s61 % 5)) (DB (j:=5) (e:=om) (AF (xs:=[(.int cell,om),(.int 61,om)]) (A2 (H4.var rfl) (A9 rfl)) e61) rfl (by decide)) (show 7 < 8 by decide)) λ ρ5 (H5:HV (L (some (tb t)) (some (tb u)) (some (tb (zT CY t u))) (some (tb (zT Bb t u))) (some (.int (s61 % 5)))) [] ρ5)=>?_;have gmin:∀ i j,i < a->j < b->g (zT CY t u) i j<=g (zT Bb t u) i j:=λ i j hi hj=>by
   rw [Ig p.tab q.tab,Ig p.tab q.tab,CS hi hj,CS hi hj];unfold CY Bb;split <;> split <;> omega
  refine Ge.ex (P:=λ ρ=>∃ low,Pile a b c low/\(∀ i j,i < a->j < b->g low i j<=g (zT Bb t u) i j)/\HV (L (some (tb t)) (some (tb u)) (some (tb low)) (some (tb (zT Bb t u))) (some (.int (s61 % 5)))) [] ρ) ?_ λ ρ6 ⟨low,pl,hl,H6⟩=>?_
  ·have tt:=AN (Ey (p:=λ i j=>decide (j < i)) (H5.var (j:=7) (x:=.int (s61 % 5)) rfl) (g:=bC (.int 1)) (j:=1) (e:=om) rfl);by_cases hw:1 < s61 % 5
   ·rw [decide_eq_true hw] at tt;refine Nx.yes tt ((show Nx _ _ _ from H5.setO (x:=tb (Iy a b 0)) (WW H5 rfl rfl rfl p.tab (by omega) (by omega) λ _ _ _=>rfl) (show 5 < 8 by decide)).mono λ ρ6 H6=>⟨_,Y9 ⟨by omega,by omega⟩,λ i j hi hj=>?_,H6⟩);rw [Ik hi hj];exact (MX p q).lo i j hi hj
   ·rw [decide_eq_false hw] at tt;exact Nx.no tt ⟨_,vP p q,gmin,H5⟩
  refine Ge.ex (P:=λ ρ=>∃ high,Pile a b c high/\(∀ i j,i < a->j < b->g low i j<=g high i j)/\HV (L (some (tb t)) (some (tb u)) (some (tb low)) (some (tb high)) (some (.int (s61 % 5)))) [] ρ) ?_ λ ρ7 ⟨high,ph,hh,H7⟩=>?_
  ·have tt:=AN (Ey (p:=λ i j=>decide (j < i)) (H6.var (j:=7) (x:=.int (s61 % 5)) rfl) (g:=bC (.int 2)) (j:=2) (e:=om) rfl);by_cases hw:2 < s61 % 5
   ·rw [decide_eq_true hw] at tt;refine Nx.yes tt ((show Nx _ _ _ from H6.setO (x:=tb (Iy a b (c:Int))) (WW H6 rfl rfl rfl p.tab (by omega) (by omega) λ ρ' y H=>Ck (A9 (bi 2 c H rfl rfl)) rfl) (show 6 < 8 by decide)).mono λ ρ7 H7=>⟨_,Y9 ⟨by omega,by omega⟩,λ i j hi hj=>?_,H7⟩);rw [Ik hi hj];exact pl.hi i j hi hj
   ·rw [decide_eq_false hw] at tt;exact Nx.no tt ⟨_,MX p q,hl,H6⟩
  exact ⟨_,_,_,Cv (Ck (op:=BJ) (A2 (H7.var rfl) (A9 (H7.var rfl))) rfl),low,high,rfl,X.N,X.bd,X.ab,pl,ph,xj hh⟩)
 exact ⟨low,high,d,hB,e⟩
end
section
variable {a b c:Nat}{low high:List (List Int)}
def ZI {neg x y:Bool}{d e:Nat}:AD neg (.bl x) d (.bl y) e=some (.bl (neg^^(x == y)),om):=by
 cases neg <;> cases x <;> cases y <;> rfl
def Vz (B:Bt a b c low high) {i j:Nat} (hi:i < a) (hj:j < b):g low i j<=g high i j:=of_decide_eq_true (jb8.mp (show (CB a b).all (λ z=>decide (g low z.1 z.2<=g high z.1 z.2))=true from B.le) (i,j) (zxu.mpr ⟨hi,hj⟩))
def xn (B:Bt a b c low high) {i j k:Nat} (hi:i < a) (hj:j < b):decide ((k:Int) < g low i j)=decide (nK a b c low high i j k=(PB a b c low high).length):=by
 obtain ⟨t,e⟩:=PY (lo:=g low) (hi:=g high) (c:=(c:Int)) (b:=b) a (λ i j hi hj=>Vz B hi hj) B.p.hi B.p.dn B.p.rt;unfold nK;rw [decide_eq_decide,List.length_filter_eq_length_iff];constructor
 ·intro h r hr
  have:=((IL hr).2.1 i j hi hj).1
  exact decide_eq_true (by (clear hj hi;omega))
 ·intro h
  have:=of_decide_eq_true (h (CG a b (g low)) (by unfold PB;rw [e];exact AL))
  rwa [CS hi hj] at this
def q9 (B:Bt a b c low high) {i j k:Nat} (hi:i < a) (hj:j < b):decide (g high i j<=(k:Int))=decide (nK a b c low high i j k=0):=by
 obtain ⟨t,e⟩:=Up (lo:=g low) (hi:=g high) (c:=(c:Int)) (b:=b) a (λ i j hi hj=>Vz B hi hj) B.q.hi B.q.dn B.q.rt;unfold nK;rw [decide_eq_decide,je6,ji3];constructor
 ·intro h r hr
  have:=((IL hr).2.1 i j hi hj).2.1
  rw [decide_eq_true_iff];(clear hj hi;omega)
 ·intro h
  have:=h (CG a b (g high)) (by unfold PB;rw [e];simp)
  rw [decide_eq_true_iff,CS hi hj] at this
  (clear hj hi;omega)
def V0 {i j k:Nat}:nK a b c low high i j k<=(PB a b c low high).length:=T3 _ _
def wL (B:Bt a b c low high) {i j k:Nat} (hi:i < a) (hj:j < b) (hk:k < c):∃ d z,Pt [bx a b c,tb low,tb high,c3 (i,j,k)]=.ok (.bl true,d,z):=by
 have hM:=B.many;have hP:=B.pos;have A:=B.ab;obtain ⟨N,eN⟩:∃ N,N=(PB a b c low high).length:=⟨_,rfl⟩
 obtain ⟨S,eS⟩:∃ S,S=AO (nK a b c low high i j k) N:=⟨_,rfl⟩
 let L (s4 s5 s6 s7 s8 s9 s10:Option PV):List (Option PV):=[some (bx a b c),some (tb low),some (tb high),some (c3 (i,j,k)),s4,s5,s6,s7,s8,s9,s10]
 let ρ0:Af:=[some (bx a b c,0),some (tb low,0),some (tb high,0),some (c3 (i,j,k),0),none,none,none,none,none,none,none]
 have H0:HV (L none none none none none none none) [] ρ0:=HV.of ρ0;refine Gv.fn (np:=4) (k:=7) (b:=Pj) (xs:=[bx a b c,tb low,tb high,c3 (i,j,k)]) rfl (show Gv Pj ρ0 _ from ?_);refine Gv.ex (H0.unp3 (x:=.int (i:Int)) (y:=.int (j:Int)) (z:=.int (k:Int)) (d:=0) (H0.var (j:=3) rfl) (show 4 < 11 by decide) (show 5 < 11 by decide) (show 6 < 11 by decide)) λ ρ1 H1=>?_;obtain ⟨d7,e7⟩:=Qy B hi hj hk;rw [<- eN,<- eS] at e7;refine Gv.ex (H1.set (x:=S) (AF (xs:=[(bx a b c,0),(tb low,0),(tb high,0),(c3 (i,j,k),0)]) (A2 (H1.var rfl) (A2 (H1.var rfl) (A2 (H1.var rfl) (A9 (H1.var rfl))))) e7) (show 7 < 11 by decide)) λ ρ2 H2=>?_;have e8:=X8 B.N B.p B.q;rw [show (BP (g low) (g high) c b a).length=N from eN.symm] at e8;refine Gv.ex (H2.setO (x:=.int (N:Int)) (AF (xs:=[(bx a b c,0),(tb low,0),(tb high,0)]) (A2 (H2.var rfl) (A2 (H2.var rfl) (A9 (H2.var rfl)))) e8) (show 8 < 11 by decide)) λ ρ3 H3=>?_;obtain ⟨dp,ep⟩:=xO B.p.tab (by (clear eN hP hM hk hj hi;omega)) (by (clear eN hP hM hk hj hi;omega)) i j k (by (clear eN hP hM hj hi;omega));have ec:=X8 B.N (MX B.p (Y6 (i:=i) (j:=j) hk)) B.q;rw [qz B.p B.q hi hj hk] at ec;obtain ⟨d9,e9⟩:=Wd (n:=nK a b c low high i j k) hP (by (clear eN A hP hk hj hi;omega));rw [<- eN,<- eS] at e9;refine Gv.ex (H3.set (x:=S) (AF (xs:=[(.int (nK a b c low high i j k:Int),om),(.int (N:Int),om)]) (A2 (AF (xs:=[(bx a b c,0),(tb (zT Bb low (CG a b (C9 i j k))),dp),(tb high,0)]) (A2 (H3.var rfl) (A2 (AF (xs:=[(tb low,0),(.int (i:Int),om),(.int (j:Int),om),(.int (k:Int),om)]) (A2 (H3.var rfl) (A2 (H3.var rfl) (A2 (H3.var rfl) (A9 (H3.var rfl))))) ep) (A9 (H3.var rfl)))) ec) (A9 (H3.var rfl))) e9) (show 9 < 11 by decide)) λ ρ4 H4=>?_;have al:=Qm (nK a b c low high i j k) N;rw [<- eS] at al;refine Gv.no (AN (Ez (b:=true) (d:=om) (AF (xs:=[(S,dv S),(S,dv S)]) (A2 (H4.var rfl) (A9 (H4.var rfl))) al))) ?_;have x1:=Cy (op:=AD true) (Ey (p:=λ i j=>decide (j < i)) (MG B.p.tab (H4.var (j:=1) (x:=tb low) rfl) (H4.var (j:=4) (x:=.int (i:Int)) rfl) (H4.var (j:=5) (x:=.int (j:Int)) rfl) hi hj) (H4.var (j:=6) (x:=.int (k:Int)) rfl)) (Cy (op:=AD false) (H4.var (j:=7) (x:=S) rfl) (g:=Am BJ pg7) (y:=.tup [.int 1,.int 1]) (e:=om) rfl (by rw [eS,eN];exact jX hP)) ZI;rw [LZ,xn B hi hj,beq_self_eq_true] at x1;have x2:=Cy (op:=AD true) (Ey (p:=λ i j=>decide (i<=j)) (MG B.q.tab (H4.var (j:=2) (x:=tb high) rfl) (H4.var (j:=4) (x:=.int (i:Int)) rfl) (H4.var (j:=5) (x:=.int (j:Int)) rfl) hi hj) (H4.var (j:=6) (x:=.int (k:Int)) rfl)) (Cy (op:=AD false) (H4.var (j:=7) (x:=S) rfl) (g:=Am BJ pc9) (y:=.tup [.int 0,.int 1]) (e:=om) rfl (by rw [eS,eN];exact wK hP)) ZI;rw [LZ,q9 B hi hj,beq_self_eq_true] at x2;refine Gv.no (AN (Ox x1 (λ _=>x2) rfl)) ?_;have st:∀ (x y z:Int) (ρ:Af),(0<=x->0<=y->0<=z->∃ e n',nK a b c low high i j k<=n'/\n'<=N/\HX [bx a b c,tb low,tb high,.tup [.int x,.int y,.int z]]=.ok (AO n' N,e,.non))->HV (L (some (.int (i:Int))) (some (.int (j:Int))) (some (.int (k:Int))) (some S) (some (.int (N:Int))) (some S) none) [] ρ->∃ ρ1 ρ2,asgN 10 (.tup [.int x,.int y,.int z]) ρ=some ρ1/\Bi pb7 (Au (bC (.bl false))) A1 ρ1=.nx ρ2/\HV (L (some (.int (i:Int))) (some (.int (j:Int))) (some (.int (k:Int))) (some S) (some (.int (N:Int))) (some S) none) [] ρ2:=λ x y z ρ hs h=>by
  obtain ⟨ρ1,ea,h1⟩:=h.asgN (i:=10) (.tup [.int x,.int y,.int z]) (show 10 < 11 by decide) (λ h=>nomatch h);have hm:Am GA (Ae (Aa 10) (Ac)) ρ1=.ok (.int (C5 x [y,z]),om,ρ1):=Ck (A9 (h1.var (j:=10) (x:=.tup [.int x,.int y,.int z]) rfl)) rfl;have c1:=Ey (p:=λ i j=>decide (j<=i)) hm (g:=bC (.int 0)) (j:=0) (e:=om) rfl;refine ⟨ρ1,ρ1,ea,?_,h1.weak ⟨rfl,rfl,rfl,rfl,rfl,rfl,rfl,rfl,rfl,rfl,trivial⟩ λ _ h=>h⟩;by_cases hm:0<=C5 x [y,z]
  ·rw [decide_eq_true hm] at c1;have m1:=Ka [y,z] x x (by simp);have m2:=Ka [y,z] x y (by simp);have m3:=Ka [y,z] x z (by simp);obtain ⟨e,n',h1',h2',ef⟩:=hs (by (clear m3 m2 eN A hP hM hk hj hi;omega)) (by (clear m3 m1 eN A hP hM hk hj hi;omega)) (by (clear m2 m1 eN A hP hM hk hj hi;omega));obtain ⟨w,eb⟩:=vg (n1:=nK a b c low high i j k) (n2:=n') (d:=N) (by (clear h2' h1' m3 m2 m1 hm A hM hk hj hi;omega)) (by (clear h2' h1' m3 m2 m1 hm A hP hk hj hi;omega)) h1' (by (clear h2' h1' A hP hk hj hi;omega)) (by (clear h1' m3 m2 m1 hm A hP hk hj hi;omega));rw [<- eS] at eb;have c2:=Ez (AF (xs:=[(S,dv S),(AO n' N,e)]) (A2 (h1.var (j:=7) rfl) (A9 (AF (xs:=[(bx a b c,0),(tb low,0),(tb high,0),(.tup [.int x,.int y,.int z],dv (.tup [.int x,.int y,.int z]))]) (A2 (h1.var (j:=0) rfl) (A2 (h1.var (j:=1) rfl) (A2 (h1.var (j:=2) rfl) (A9 (h1.var (j:=10) rfl))))) ef))) eb);exact (Cw (AN (Ii c1 (λ _=>c2) rfl))).trans rfl
  ·rw [decide_eq_false hm] at c1;exact (Cw (AN (Ii (b:=false) c1 (λ h=>nomatch h) rfl))).trans rfl
 have sh:∀ {x y z:Nat},x<=i->y<=j->z<=k->∃ e n',nK a b c low high i j k<=n'/\n'<=N/\HX [bx a b c,tb low,tb high,.tup [.int (x:Int),.int (y:Int),.int (z:Int)]]=.ok (AO n' N,e,.non):=λ {x y z} hx hy hz=>by
  obtain ⟨e,r⟩:=Qy B (i:=x) (j:=y) (k:=z) (by (clear hz hy eN A hP hM hk hj;omega)) (by (clear hz hx eN A hP hM hk hi;omega)) (by (clear hy hx eN A hP hM hj hi;omega));rw [<- eN] at r;exact ⟨e,nK a b c low high x y z,jB B.p hi hj hx hy hz,by rw [eN];exact V0,r⟩
 have i1:=JQ (H4.var (j:=4) (x:=.int (i:Int)) rfl) (g:=bC (.int 1)) (j:=1) (e:=om) rfl;have j1:=JQ (H4.var (j:=5) (x:=.int (j:Int)) rfl) (g:=bC (.int 1)) (j:=1) (e:=om) rfl;have k1:=JQ (H4.var (j:=6) (x:=.int (k:Int)) rfl) (g:=bC (.int 1)) (j:=1) (e:=om) rfl;have i0:=H4.var (j:=4) (x:=.int (i:Int)) rfl;have j0:=H4.var (j:=5) (x:=.int (j:Int)) rfl;have k0:=H4.var (j:=6) (x:=.int (k:Int)) rfl;refine Gv.ex (wb (els:=[.tup [.int ((i:Int) - 1),.int (j:Int),.int (k:Int)],.tup [.int (i:Int),.int ((j:Int) - 1),.int (k:Int)],.tup [.int (i:Int),.int (j:Int),.int ((k:Int) - 1)]]) (λ _ ρ=>HV (L (some (.int (i:Int))) (some (.int (j:Int))) (some (.int (k:Int))) (some S) (some (.int (N:Int))) (some S) none) [] ρ) (Ck (A2 (Ck (A2 i1 (A2 j0 (A9 k0))) rfl) (A2 (Ck (A2 i0 (A2 j1 (A9 k0))) rfl) (A9 (Ck (A2 i0 (A2 j0 (A9 k1))) rfl)))) rfl) rfl H4.cool λ m x ρ hx h=>?_) λ ρ5 _=>Gv.ret (f:=bC (.bl true)) rfl;rcases m with _ | _ | _ | m
 ·cases hx;refine st _ _ _ ρ (λ h0 _ _=>?_) h
  have:=sh (x:=i - 1) (y:=j) (z:=k) (by (clear h0 eN A hP hM hk hj hi;omega)) (by (clear h0 eN A hP hM hk hj hi;omega)) (by (clear h0 eN A hP hM hk hj hi;omega))
  rwa [show ((i - 1:Nat):Int)=(i:Int) - 1 by (clear eN A hP hM hk hj hi;omega)] at this
 ·cases hx;refine st _ _ _ ρ (λ _ h0 _=>?_) h
  have:=sh (x:=i) (y:=j - 1) (z:=k) (by (clear h0 eN A hP hM hk hj hi;omega)) (by (clear h0 eN A hP hM hk hj hi;omega)) (by (clear h0 eN A hP hM hk hj hi;omega))
  rwa [show ((j - 1:Nat):Int)=(j:Int) - 1 by (clear eN A hP hM hk hj hi;omega)] at this
 ·cases hx;refine st _ _ _ ρ (λ _ _ h0=>?_) h
  have:=sh (x:=i) (y:=j) (z:=k - 1) (by (clear h0 eN A hP hM hk hj hi;omega)) (by (clear h0 eN A hP hM hk hj hi;omega)) (by (clear h0 eN A hP hM hk hj hi;omega))
  rwa [show ((k - 1:Nat):Int)=(k:Int) - 1 by (clear eN A hP hM hk hj hi;omega)] at this
 ·cases hx
def rs (f:Nat->Nat) (n:Nat):Nat:=((A6 n).map f).sum
def ML (f:Nat->Nat) (n:Nat):rs f (n + 1)=rs f n + f n:=by
 unfold rs;rw [ED,CN,Ma,List.map_singleton,List.sum_singleton]
theorem LH {f:Nat->Nat}{m:Nat}:∀ n:Nat,(∀ k,k < n->f k<=m)->rs f n<=n * m
 | 0,_=>Fw _
 | n + 1,h=>by
  have:=LH n λ k hk=>h k (by omega)
  have:=h n (by omega)
  rw [ML,OM];omega
def Xi {d:Nat} (hd:0 < d):AO 0 d=.tup [.int 0,.int 1]:=by
 unfold AO;rw [Zj,YJ,YI hd];rfl
def UK {s n d:Nat} (hd:0 < d) (hb:d < 2 ^ 40) (h1:s < 2 ^ 60) (h2:n < 2 ^ 60):∃ e,KC [AO s d,AO n d]=.ok (AO (s + n) d,e,.non):=by
 obtain ⟨e,h⟩:=kD hd hd hb hb h1 h2;rw [<- Te,HC (s + n),SO hd] at h;exact ⟨e,h⟩
end
def Fr (ns:List Int) (s1 s2 s3 s4 s5 s6 s7 s8 s9 s10 s11 s12 s13:Option PV):List (Option PV):=[some (.scr ns),s1,s2,s3,s4,s5,s6,s7,s8,s9,s10,s11,s12,s13]
def law_true:∀ ns:List Int,ns.length<=63->∃ d z,F40 [.scr ns]=.ok (.bl true,d,z):=by
 intro ns hns;have z:=sz;refine Gv.fn rfl (show Gv TL [some (.scr ns,om),none,none,none,none,none,none,none,none,none,none,none,none,none] _ from ?_);have h0:HV (Fr ns none none none none none none none none none none none none none) [] [some (.scr ns,om),none,none,none,none,none,none,none,none,none,none,none,none,none]:=HV.of [some (.scr ns,om),none,none,none,none,none,none,none,none,none,none,none,none,none];obtain ⟨a,b,c,d1,X,e1⟩:=qJ (ns.getD 0 0);refine Gv.ex (h0.set (x:=bx a b c) (AF (xs:=[(.int (ns.getD 0 0),om)]) (A9 (AF (xs:=[(.scr ns,om),(.int 0,om)]) (A2 (h0.var rfl) (A9 rfl)) (Ss ns 0))) e1) (show 1 < 14 by decide)) λ ρ1 h1=>?_;refine Gv.ex (h1.unp3 (x:=.int (a:Int)) (y:=.int (b:Int)) (z:=.int (c:Int)) (d:=0) (h1.var (j:=1) rfl) (show 2 < 14 by decide) (show 3 < 14 by decide) (show 4 < 14 by decide)) λ ρ2 h2=>?_;obtain ⟨low,high,d2,B,e2⟩:=ye X (show ns.length<=1000 by omega) (ns.getD 1 0);refine Gv.ex (h2.unp2 (x:=tb low) (y:=tb high) (AF (xs:=[(bx a b c,0),(.scr ns,om),(.int (ns.getD 1 0),om)]) (A2 (h2.var (j:=1) rfl) (A2 (h2.var (j:=0) rfl) (A9 (AF (xs:=[(.scr ns,om),(.int 1,om)]) (A2 (h2.var (j:=0) rfl) (A9 rfl)) (Ss ns 1))))) e2) (show 5 < 14 by decide) (show 6 < 14 by decide) (λ _ h=>(nomatch h)) ⟨λ h=>(nomatch h),λ h=>(nomatch h)⟩) λ ρ3 h3=>?_;obtain ⟨ms,hl,e3⟩:=Qd (ns.getD 2 0) 8 (by decide);refine Gv.ex (h3.setO (x:=il ms) (AF (xs:=[(.int (ns.getD 2 0),om),(.int 8,om)]) (A2 (AF (xs:=[(.scr ns,om),(.int 2,om)]) (A2 (h3.var (j:=0) rfl) (A9 rfl)) (Ss ns 2)) (A9 rfl)) e3) (show 7 < 14 by decide)) λ ρ4 h4=>?_;have A:=X.ab;have LO:=X.lo;have hM:=B.many;have hP:=B.pos;let P (s8 s9 s10 s11 s12 s13:Option PV):List (Option PV):=Fr ns (some (bx a b c)) (some (.int (a:Int))) (some (.int (b:Int))) (some (.int (c:Int))) (some (tb low)) (some (tb high)) (some (il ms)) s8 s9 s10 s11 s12 s13;have K:∀ {f:Fx}{ρ:Af}{s8 s9 s10 s11 s12 s13:Option PV}{t n s:Nat}{e:Nat} ,HV (P s8 s9 s10 s11 s12 s13) [] ρ->f ρ=.ok (.int (t:Int),e,ρ)->t < 8->1<=n->(P s8 s9 s10 s11 s12 s13)[s]?=some (some (.int (n:Int)))->∃ m:Nat,m < n/\Ab CC (Ab A5 (Aa 7) f) (Aa s) ρ=.ok (.int (m:Int),om,ρ):=λ {f ρ s8 s9 s10 s11 s12 s13 t n s e} h hf ht hn hs=>by
  obtain ⟨m,hm,em⟩:=Lc (ms.getD t 0) hn
  have:=DB (FN (xs:=ms) (k:=(t:Int)) (x:=ms.getD t 0) (h.var (j:=7) rfl) hf (Dg (by (clear em hm hn ht hP hM LO A hl z hns;omega)) (DR (by rw [hl];(clear em hm hn hP hM LO A hl z hns;omega))))) (h.var (j:=s) hs) (by (clear em hm ht hP hM LO A hl z hns;omega))
  rw [em] at this;exact ⟨m,hm,this⟩
 refine Gv.ex (P:=HV (P none none none none none none) []) (Nx.forR (n:=2) (d:=om) (f:=bC (.int 2)) (λ _ ρ=>HV (P none none none none none none) [] ρ) rfl (by decide) h4 λ k ρ hk h=>?_) λ ρ5 h5=>?_
 ·obtain ⟨ρ',ea,h'⟩:=h.asgN (i:=8) (.int (k:Int)) (show 8 < 14 by decide) (λ h=>nomatch h);refine ⟨ρ',ea,?_⟩;have h':HV (P (some (.int (k:Int))) none none none none none) [] ρ':=h';have v8:=h'.var (j:=8) (x:=.int (k:Int)) rfl;have m3:=DS (f:=bC (.int 3)) (i:=3) (d:=om) (ρ:=ρ') rfl v8 (.inl (by decide));have a1:=DQ m3 (g:=bC (.int 1)) (j:=1) (e:=om) rfl;have a2:=DQ m3 (g:=bC (.int 2)) (j:=2) (e:=om) rfl;rw [show (3:Int) * (k:Int)=((3 * k:Nat):Int) by (clear hk hP hM LO A hl z hns;omega)] at m3;rw [show (3:Int) * (k:Int) + 1=((3 * k + 1:Nat):Int) by (clear hk hP hM LO A hl z hns;omega)] at a1;rw [show (3:Int) * (k:Int) + 2=((3 * k + 2:Nat):Int) by (clear hk hP hM LO A hl z hns;omega)] at a2;obtain ⟨x,hx,ex⟩:=K (s:=2) h' m3 (by (clear hP hM LO A hl z hns;omega)) LO.1 rfl;obtain ⟨y,hy,ey⟩:=K (s:=3) h' a1 (by (clear hx hP hM LO A hl z hns;omega)) LO.2.1 rfl;obtain ⟨w,hw,ew⟩:=K (s:=4) h' a2 (by (clear hy hx hP hM LO A hl z hns;omega)) LO.2.2 rfl;obtain ⟨d9,z9,e9⟩:=wL B hx hy hw;refine Nx.seq (h'.set (x:=c3 (x,y,w)) (Ck (A2 ex (A2 ey (A9 ew))) rfl) (show 9 < 14 by decide)) λ ρ6 h6=>?_;refine Nx.no (AN (Ez (b:=true) (AF (xs:=[(bx a b c,0),(tb low,0),(tb high,0),(c3 (x,y,w),0)]) (A2 (h6.var (j:=1) rfl) (A2 (h6.var (j:=5) rfl) (A2 (h6.var (j:=6) rfl) (A9 (h6.var (j:=9) rfl))))) e9))) (h6.weak ?_ λ _ h=>h);exact ⟨rfl,rfl,rfl,rfl,rfl,rfl,rfl,rfl,trivial⟩
 obtain ⟨i,hi,ei⟩:=K (f:=bC (.int 6)) (t:=6) (s:=2) (e:=om) h5 rfl (by decide) LO.1 rfl;refine Gv.ex (h5.setO (x:=.int (i:Int)) ei (show 10 < 14 by decide)) λ ρ6 h6=>?_;have h6:HV (P none none (some (.int (i:Int))) none none none) [] ρ6:=h6;obtain ⟨j,hj,ej⟩:=K (f:=bC (.int 7)) (t:=7) (s:=3) (e:=om) h6 rfl (by decide) LO.2.1 rfl;refine Gv.ex (h6.setO (x:=.int (j:Int)) ej (show 11 < 14 by decide)) λ ρ7 h7=>?_;obtain ⟨N,eN⟩:∃ N,N=(PB a b c low high).length:=⟨_,rfl⟩
 have hN:0 < N/\N<=2 ^ 30:=by (clear hj hi LO A hl z hns;omega)
 refine Gv.ex (h7.set (x:=AO 0 N) (by rw [Xi hN.1];rfl) (show 12 < 14 by decide)) λ ρ8 h8=>?_;have nl:∀ i j k,nK a b c low high i j k<=2 ^ 30:=λ i j k=>BZ V0 (by (clear hN eN hj hi hP LO A hl z hns;omega));have hl6:∀ i j,i < a->j < b->hK a b c low high i j<=6 * 2 ^ 30:=λ i j hi hj=>by
  rw [<- WK B.p hi hj]
  have:=LH (f:=λ k=>nK a b c low high i j k) (m:=2 ^ 30) c λ k _=>nl i j k
  have h2:c * 2 ^ 30<=6 * 2 ^ 30:=Gi _ A.2.2;exact BZ this h2
 refine Gv.ex (P:=HV (P none none (some (.int (i:Int))) (some (.int (j:Int))) (some (AO (rs (λ k=>nK a b c low high i j k) c) N)) none) []) (Nx.forR (n:=c) (f:=Aa 4) (λ m ρ=>HV (P none none (some (.int (i:Int))) (some (.int (j:Int))) (some (AO (rs (λ k=>nK a b c low high i j k) m) N)) none) [] ρ) (h8.var (j:=4) rfl) (by (clear hN eN hj hi hP hM LO hl z hns;omega)) h8 λ k ρ hk h=>?_) λ ρ9 h9=>?_
 ·obtain ⟨ρ',ea,h'⟩:=h.asgN (i:=8) (.int (k:Int)) (show 8 < 14 by decide) (λ h=>nomatch h);refine ⟨ρ',ea,?_⟩;obtain ⟨ds,es⟩:=Qy B hi hj hk;rw [<- eN] at es;have hr:=LH (f:=λ k=>nK a b c low high i j k) (m:=2 ^ 30) k λ k _=>nl i j k;have hr2:k * 2 ^ 30<=6 * 2 ^ 30:=Gi _ (by (clear hr hN eN hj hi hP hM LO hl z hns;omega));have hn:=nl i j k;obtain ⟨dp,ep⟩:=UK (s:=rs (λ k=>nK a b c low high i j k) k) (n:=nK a b c low high i j k) (d:=N) hN.1 (by (clear hn hr2 hr hk hN hj hi hP LO A hl z hns;omega)) (by (clear hn hr2 hN eN hj hi hP hM LO hl z hns;omega)) (by (clear hr2 hr hk hN eN hj hi hP hM LO A hl z hns;omega));refine Nx.mono (h'.set (x:=AO (rs (λ k=>nK a b c low high i j k) k + nK a b c low high i j k) N) (AF (xs:=[(AO (rs (λ k=>nK a b c low high i j k) k) N,dv (AO (rs (λ k=>nK a b c low high i j k) k) N)),(AO (nK a b c low high i j k) N,ds)]) (A2 (h'.var (j:=12) rfl) (A9 (AF (xs:=[(bx a b c,0),(tb low,0),(tb high,0),(c3 (i,j,k),om)]) (A2 (h'.var (j:=1) rfl) (A2 (h'.var (j:=5) rfl) (A2 (h'.var (j:=6) rfl) (A9 (Ck (A2 (h'.var (j:=10) rfl) (A2 (h'.var (j:=11) rfl) (A9 (h'.var (j:=8) rfl)))) rfl))))) es))) ep) (show 12 < 14 by decide)) λ ρ h=>h.weak ?_ λ _ h=>h;rw [<- ML (λ k=>nK a b c low high i j k)];exact ⟨rfl,rfl,rfl,rfl,rfl,rfl,rfl,rfl,rfl,rfl,rfl,trivial⟩
 obtain ⟨dh,eh⟩:=YB B hi hj;rw [<- eN] at eh;rw [show rs (λ k=>nK a b c low high i j k) c=hK a b c low high i j from WK B.p hi hj] at h9;refine Gv.no (AN (Ez (b:=true) (d:=om) (AF (xs:=[(AO (hK a b c low high i j) N,dh),(AO (hK a b c low high i j) N,dv (AO (hK a b c low high i j) N))]) (A2 (AF (xs:=[(bx a b c,0),(tb low,0),(tb high,0),(.int (i:Int),om),(.int (j:Int),om)]) (A2 (h9.var (j:=1) rfl) (A2 (h9.var (j:=5) rfl) (A2 (h9.var (j:=6) rfl) (A2 (h9.var (j:=10) rfl) (A9 (h9.var (j:=11) rfl)))))) eh) (A9 (h9.var (j:=12) rfl))) (Qm _ _)))) ?_;refine Gv.ex (h9.set (x:=AO 0 N) (by rw [Xi hN.1];rfl) (show 13 < 14 by decide)) λ ρ10 h10=>?_;let T (m:Nat):Nat:=rs (λ i=>rs (λ j=>hK a b c low high i j) b) m;have rl:∀ i j,i < a->j<=b->rs (λ j=>hK a b c low high i j) j<=6 * (6 * 2 ^ 30):=λ i j hi hj=>by
  have:=LH (f:=λ j=>hK a b c low high i j) (m:=6 * 2 ^ 30) j λ k hk=>hl6 i k hi (by (clear hi hN eN hP hM LO A hl z hns;omega))
  exact BZ this (Gi _ (by (clear this hi hN eN hP hM LO hl z hns;omega)))
 have tl:∀ m,m<=a->T m<=6 * (6 * (6 * 2 ^ 30)):=λ m hm=>by
  have:=LH (f:=λ i=>rs (λ j=>hK a b c low high i j) b) (m:=6 * (6 * 2 ^ 30)) m λ k hk=>rl k b (by (clear hN eN hj hi hP hM LO A hl z hns;omega)) (AA _)
  exact BZ this (Gi _ (by (clear this hN eN hj hi hP hM LO hl z hns;omega)))
 refine Gv.ex (P:=HV (P none none none none none (some (AO (T a) N))) []) (Nx.forR (n:=a) (f:=Aa 2) (λ m ρ=>HV (P none none none none none (some (AO (T m) N))) [] ρ) (h10.var (j:=2) rfl) (by (clear hN eN hj hi hP hM LO hl z hns;omega)) (h10.weak ⟨rfl,rfl,rfl,rfl,rfl,rfl,rfl,rfl,rfl,trivial⟩ λ _ h=>h) λ x ρ hx h=>?_) λ ρ11 h11=>?_
 ·obtain ⟨ρ',ea,h'⟩:=h.asgN (i:=10) (.int (x:Int)) (show 10 < 14 by decide) (λ h=>nomatch h);refine ⟨ρ',ea,?_⟩;refine Nx.mono (Nx.forR (n:=b) (f:=Aa 3) (λ m ρ=>HV (P none none (some (.int (x:Int))) none none (some (AO (T x + rs (λ j=>hK a b c low high x j) m) N))) [] ρ) (h'.var (j:=3) rfl) (by (clear hx hN eN hj hi hP hM LO hl z hns;omega)) h' λ y ρ hy h=>?_) λ ρ h=>h.weak ?_ λ _ h=>h
  ·obtain ⟨ρ2,ea2,h2⟩:=h.asgN (i:=11) (.int (y:Int)) (show 11 < 14 by decide) (λ h=>nomatch h);refine ⟨ρ2,ea2,?_⟩;obtain ⟨ds,es⟩:=YB B hx hy;rw [<- eN] at es;have b1:=tl x (by (clear hy hN eN hj hi hP hM LO A hl z hns;omega));have b2:=rl x y hx (by (clear b1 hx hN eN hj hi hP hM LO A hl z hns;omega));have b3:=hl6 x y hx hy;obtain ⟨dp,ep⟩:=UK (s:=T x + rs (λ j=>hK a b c low high x j) y) (n:=hK a b c low high x y) (d:=N) hN.1 (by (clear b3 b2 b1 hy hx hN hj hi hP LO A hl z hns;omega)) (by (clear b3 hy hx hN eN hj hi hP hM LO A hl z hns;omega)) (by (clear b2 b1 hy hx hN eN hj hi hP hM LO A hl z hns;omega));refine Nx.mono (h2.set (x:=AO (T x + rs (λ j=>hK a b c low high x j) y + hK a b c low high x y) N) (AF (xs:=[(AO (T x + rs (λ j=>hK a b c low high x j) y) N,dv (AO (T x + rs (λ j=>hK a b c low high x j) y) N)),(AO (hK a b c low high x y) N,ds)]) (A2 (h2.var (j:=13) rfl) (A9 (AF (xs:=[(bx a b c,0),(tb low,0),(tb high,0),(.int (x:Int),om),(.int (y:Int),om)]) (A2 (h2.var (j:=1) rfl) (A2 (h2.var (j:=5) rfl) (A2 (h2.var (j:=6) rfl) (A2 (h2.var (j:=10) rfl) (A9 (h2.var (j:=11) rfl)))))) es))) ep) (show 13 < 14 by decide)) λ ρ h=>h.weak ?_ λ _ h=>h;rw [Nat.add_assoc,<- ML (λ j=>hK a b c low high x j)];exact ⟨rfl,rfl,rfl,rfl,rfl,rfl,rfl,rfl,rfl,rfl,trivial⟩
  ·show Wk (P none none none none none (some (AO (rs (λ i=>rs (λ j=>hK a b c low high i j) b) (x + 1)) N))) _;rw [ML];exact ⟨rfl,rfl,rfl,rfl,rfl,rfl,rfl,rfl,rfl,trivial⟩
 obtain ⟨dc,ec⟩:=vx B;rw [<- eN] at ec;exact Gv.ret (AF (xs:=[(AO (cK a b c low high) N,dc),(AO (T a) N,dv (AO (T a) N))]) (A2 (AF (xs:=[(bx a b c,0),(tb low,0),(tb high,0)]) (A2 (h11.var (j:=1) rfl) (A2 (h11.var (j:=5) rfl) (A9 (h11.var (j:=6) rfl)))) ec) (A9 (h11.var (j:=13) rfl))) (Qm _ _))
open PySem PySem.Spec PyProof.Rows L2 QQ
section
variable {P:A8}{w:A7}{K:Frag}{mg:Str->Option Ad}
def c0:FnScope S0.N ["thing"] (Aw t0):={}
def c1:FnScope S1.N ["thing"] (Aw t1):={}
def c2:FnScope S2.N ["box"] (Aw t2):={}
def c3:FnScope S3.N ["thing","columns","height"] (Aw t3):={}
def c4:FnScope S4.N ["numbers"] (Aw t4):={}
def c5:FnScope S5.N ["table","j"] (Aw t5):={}
def c6:FnScope S6.N ["box","thing"] (Aw t6):={}
def c7:FnScope S7.N ["box","pile"] (Aw t7):={}
def c8:FnScope S8.N ["box","thing"] (Aw t8):={}
def c9:FnScope S9.N ["box","pile","other"] (Aw t9):={}
def gN:FnScope S10.N ["box"] (Aw Hx):={}
def gM:FnScope S11.N ["box","i","j"] (Aw Ol):={}
def gL:FnScope S12.N ["box","pile","other"] (Aw Oj):={}
def gK:FnScope S13.N ["columns","height"] (Aw Oi):={}
def gJ:FnScope S14.N ["tally","other"] (Aw Oh):={}
def gI:FnScope S15.N ["table","columns"] (Aw Og):={}
def gH:FnScope S16.N ["row","low","high"] (Aw Of):={}
def gG:FnScope S17.N ["behind","low","high","counted"] (Aw Oe):={}
def gF:FnScope S18.N ["box","low","high","places"] (Aw Od):={}
def gE:FnScope S19.N ["box","low","high","places"] (Aw Oc):={}
def gD:FnScope S20.N ["number","other"] (Aw Ob):={}
def gC:FnScope S21.N ["top","bottom"] (Aw Oa):={}
def gB:FnScope S22.N ["box","low","high"] (Aw NZ):={}
def gA:FnScope S23.N ["tally"] (Aw NY):={}
def g9:FnScope S24.N ["box","low","high","cube"] (Aw NX):={}
def g6:FnScope S25.N ["box","low","high","i","j"] (Aw NW):={}
def gz:FnScope S26.N ["box","low","high"] (Aw NV):={}
def gy:FnScope S27.N ["box","low","high"] (Aw NU):={}
def gw:FnScope S28.N ["script","k"] (Aw NT):={}
def gv:FnScope S29.N ["cell","k"] (Aw NS):={}
def gu:FnScope S30.N ["cell","many"] (Aw NR):={}
def Pf:FnScope S31.N ["found","due"] (Aw EB):={}
def gq:FnScope S32.N ["box","script","start","cell"] (Aw NQ):={}
def gn:FnScope S33.N ["box","script","cell"] (Aw NP):={}
def gk:FnScope S34.N ["top","bottom"] (Aw NO):={}
def gj:FnScope S35.N ["cell"] (Aw NM):={}
def gi:FnScope S36.N ["low","i","j","k"] (Aw NL):={}
def gf:FnScope S37.N ["one","other"] (Aw NK):={}
def uZ:FnScope S38.N ["one","other"] (Aw NJ):={}
def uY:FnScope S39.N ["box","low","high","cube"] (Aw NI):={}
def uX:FnScope S40.N ["script"] (Aw L1):={}
def all_ok {fa:Addr} (G:Given dfs [] K mg) (hm:mg "law" = some (.ref fa)):
  ∃ fd:CU,(∀ (s:Ai) (u:Ad),BindsTo s fd ⟨[u],[]⟩ [("script",u)])/\∀ base:Heap,FnOk P w K mg base (AQ P w K) 11 fa fd ["script"] (AZ K false 1 F40):=by
 have hb:=G.bn;have gx:=G.gx;obtain ⟨a0,d0,m0,f0⟩:=G.df 0 _ _ rfl;obtain ⟨a1,d1,m1,f1⟩:=G.df 1 _ _ rfl;obtain ⟨a2,d2,m2,f2⟩:=G.df 2 _ _ rfl;obtain ⟨a3,d3,m3,f3⟩:=G.df 3 _ _ rfl;obtain ⟨a4,d4,m4,f4⟩:=G.df 4 _ _ rfl;obtain ⟨a5,d5,m5,f5⟩:=G.df 5 _ _ rfl;obtain ⟨a6,d6,m6,f6⟩:=G.df 6 _ _ rfl;obtain ⟨a7,d7,m7,f7⟩:=G.df 7 _ _ rfl;obtain ⟨a8,d8,m8,f8⟩:=G.df 8 _ _ rfl;obtain ⟨a9,d9,m9,f9⟩:=G.df 9 _ _ rfl;obtain ⟨a10,d10,m10,f10⟩:=G.df 10 _ _ rfl;obtain ⟨a11,d11,m11,f11⟩:=G.df 11 _ _ rfl;obtain ⟨a12,d12,m12,f12⟩:=G.df 12 _ _ rfl;obtain ⟨a13,d13,m13,f13⟩:=G.df 13 _ _ rfl;obtain ⟨a14,d14,m14,f14⟩:=G.df 14 _ _ rfl;obtain ⟨a15,d15,m15,f15⟩:=G.df 15 _ _ rfl;obtain ⟨a16,d16,m16,f16⟩:=G.df 16 _ _ rfl;obtain ⟨a17,d17,m17,f17⟩:=G.df 17 _ _ rfl;obtain ⟨a18,d18,m18,f18⟩:=G.df 18 _ _ rfl;obtain ⟨a19,d19,m19,f19⟩:=G.df 19 _ _ rfl;obtain ⟨a20,d20,m20,f20⟩:=G.df 20 _ _ rfl;obtain ⟨a21,d21,m21,f21⟩:=G.df 21 _ _ rfl;obtain ⟨a22,d22,m22,f22⟩:=G.df 22 _ _ rfl;obtain ⟨a23,d23,m23,f23⟩:=G.df 23 _ _ rfl;obtain ⟨a24,d24,m24,f24⟩:=G.df 24 _ _ rfl;obtain ⟨a25,d25,m25,f25⟩:=G.df 25 _ _ rfl;obtain ⟨a26,d26,m26,f26⟩:=G.df 26 _ _ rfl;obtain ⟨a27,d27,m27,f27⟩:=G.df 27 _ _ rfl;obtain ⟨a28,d28,m28,f28⟩:=G.df 28 _ _ rfl;obtain ⟨a29,d29,m29,f29⟩:=G.df 29 _ _ rfl;obtain ⟨a30,d30,m30,f30⟩:=G.df 30 _ _ rfl;obtain ⟨a31,d31,m31,f31⟩:=G.df 31 _ _ rfl;obtain ⟨a32,d32,m32,f32⟩:=G.df 32 _ _ rfl;obtain ⟨a33,d33,m33,f33⟩:=G.df 33 _ _ rfl;obtain ⟨a34,d34,m34,f34⟩:=G.df 34 _ _ rfl;obtain ⟨a35,d35,m35,f35⟩:=G.df 35 _ _ rfl;obtain ⟨a36,d36,m36,f36⟩:=G.df 36 _ _ rfl;obtain ⟨a37,d37,m37,f37⟩:=G.df 37 _ _ rfl;obtain ⟨a38,d38,m38,f38⟩:=G.df 38 _ _ rfl;obtain ⟨a39,d39,m39,f39⟩:=G.df 39 _ _ rfl;obtain ⟨a40,d40,m40,f40⟩:=G.df 40 _ _ rfl;cases hm.symm.trans m40;have B0:=f0.binds (ps:=["thing"]) λ _ _ _ _ _ _ us hl=>by obtain ⟨_,rfl⟩:=DL hl;rfl
 have B1:=f1.binds (ps:=["thing"]) λ _ _ _ _ _ _ us hl=>by obtain ⟨_,rfl⟩:=DL hl;rfl
 have B2:=f2.binds (ps:=["box"]) λ _ _ _ _ _ _ us hl=>by obtain ⟨_,rfl⟩:=DL hl;rfl
 have B3:=f3.binds (ps:=["thing","columns","height"]) λ _ _ _ _ _ _ us hl=>by obtain ⟨_,_,_,rfl⟩:=CZ hl;rfl
 have B4:=f4.binds (ps:=["numbers"]) λ _ _ _ _ _ _ us hl=>by obtain ⟨_,rfl⟩:=DL hl;rfl
 have B5:=f5.binds (ps:=["table","j"]) λ _ _ _ _ _ _ us hl=>by obtain ⟨_,_,rfl⟩:=BS hl;rfl
 have B6:=f6.binds (ps:=["box","thing"]) λ _ _ _ _ _ _ us hl=>by obtain ⟨_,_,rfl⟩:=BS hl;rfl
 have B7:=f7.binds (ps:=["box","pile"]) λ _ _ _ _ _ _ us hl=>by obtain ⟨_,_,rfl⟩:=BS hl;rfl
 have B8:=f8.binds (ps:=["box","thing"]) λ _ _ _ _ _ _ us hl=>by obtain ⟨_,_,rfl⟩:=BS hl;rfl
 have B9:=f9.binds (ps:=["box","pile","other"]) λ _ _ _ _ _ _ us hl=>by obtain ⟨_,_,_,rfl⟩:=CZ hl;rfl
 have B10:=f10.binds (ps:=["box"]) λ _ _ _ _ _ _ us hl=>by obtain ⟨_,rfl⟩:=DL hl;rfl
 have B11:=f11.binds (ps:=["box","i","j"]) λ _ _ _ _ _ _ us hl=>by obtain ⟨_,_,_,rfl⟩:=CZ hl;rfl
 have B12:=f12.binds (ps:=["box","pile","other"]) λ _ _ _ _ _ _ us hl=>by obtain ⟨_,_,_,rfl⟩:=CZ hl;rfl
 have B13:=f13.binds (ps:=["columns","height"]) λ _ _ _ _ _ _ us hl=>by obtain ⟨_,_,rfl⟩:=BS hl;rfl
 have B14:=f14.binds (ps:=["tally","other"]) λ _ _ _ _ _ _ us hl=>by obtain ⟨_,_,rfl⟩:=BS hl;rfl
 have B15:=f15.binds (ps:=["table","columns"]) λ _ _ _ _ _ _ us hl=>by obtain ⟨_,_,rfl⟩:=BS hl;rfl
 have B16:=f16.binds (ps:=["row","low","high"]) λ _ _ _ _ _ _ us hl=>by obtain ⟨_,_,_,rfl⟩:=CZ hl;rfl
 have B17:=f17.binds (ps:=["behind","low","high","counted"]) λ _ _ _ _ _ _ us hl=>by obtain ⟨_,_,_,_,rfl⟩:=DK hl;rfl
 have B18:=f18.binds (ps:=["box","low","high","places"]) λ _ _ _ _ _ _ us hl=>by obtain ⟨_,_,_,_,rfl⟩:=DK hl;rfl
 have B19:=f19.binds (ps:=["box","low","high","places"]) λ _ _ _ _ _ _ us hl=>by obtain ⟨_,_,_,_,rfl⟩:=DK hl;rfl
 have B20:=f20.binds (ps:=["number","other"]) λ _ _ _ _ _ _ us hl=>by obtain ⟨_,_,rfl⟩:=BS hl;rfl
 have B21:=f21.binds (ps:=["top","bottom"]) λ _ _ _ _ _ _ us hl=>by obtain ⟨_,_,rfl⟩:=BS hl;rfl
 have B22:=f22.binds (ps:=["box","low","high"]) λ _ _ _ _ _ _ us hl=>by obtain ⟨_,_,_,rfl⟩:=CZ hl;rfl
 have B23:=f23.binds (ps:=["tally"]) λ _ _ _ _ _ _ us hl=>by obtain ⟨_,rfl⟩:=DL hl;rfl
 have B24:=f24.binds (ps:=["box","low","high","cube"]) λ _ _ _ _ _ _ us hl=>by obtain ⟨_,_,_,_,rfl⟩:=DK hl;rfl
 have B25:=f25.binds (ps:=["box","low","high","i","j"]) λ _ _ _ _ _ _ us hl=>by obtain ⟨_,_,_,_,_,rfl⟩:=SW hl;rfl
 have B26:=f26.binds (ps:=["box","low","high"]) λ _ _ _ _ _ _ us hl=>by obtain ⟨_,_,_,rfl⟩:=CZ hl;rfl
 have B27:=f27.binds (ps:=["box","low","high"]) λ _ _ _ _ _ _ us hl=>by obtain ⟨_,_,_,rfl⟩:=CZ hl;rfl
 have B28:=f28.binds (ps:=["script","k"]) λ _ _ _ _ _ _ us hl=>by obtain ⟨_,_,rfl⟩:=BS hl;rfl
 have B29:=f29.binds (ps:=["cell","k"]) λ _ _ _ _ _ _ us hl=>by obtain ⟨_,_,rfl⟩:=BS hl;rfl
 have B30:=f30.binds (ps:=["cell","many"]) λ _ _ _ _ _ _ us hl=>by obtain ⟨_,_,rfl⟩:=BS hl;rfl
 have B31:=f31.binds (ps:=["found","due"]) λ _ _ _ _ _ _ us hl=>by obtain ⟨_,_,rfl⟩:=BS hl;rfl
 have B32:=f32.binds (ps:=["box","script","start","cell"]) λ _ _ _ _ _ _ us hl=>by obtain ⟨_,_,_,_,rfl⟩:=DK hl;rfl
 have B33:=f33.binds (ps:=["box","script","cell"]) λ _ _ _ _ _ _ us hl=>by obtain ⟨_,_,_,rfl⟩:=CZ hl;rfl
 have B34:=f34.binds (ps:=["top","bottom"]) λ _ _ _ _ _ _ us hl=>by obtain ⟨_,_,rfl⟩:=BS hl;rfl
 have B35:=f35.binds (ps:=["cell"]) λ _ _ _ _ _ _ us hl=>by obtain ⟨_,rfl⟩:=DL hl;rfl
 have B36:=f36.binds (ps:=["low","i","j","k"]) λ _ _ _ _ _ _ us hl=>by obtain ⟨_,_,_,_,rfl⟩:=DK hl;rfl
 have B37:=f37.binds (ps:=["one","other"]) λ _ _ _ _ _ _ us hl=>by obtain ⟨_,_,rfl⟩:=BS hl;rfl
 have B38:=f38.binds (ps:=["one","other"]) λ _ _ _ _ _ _ us hl=>by obtain ⟨_,_,rfl⟩:=BS hl;rfl
 have B39:=f39.binds (ps:=["box","low","high","cube"]) λ _ _ _ _ _ _ us hl=>by obtain ⟨_,_,_,_,rfl⟩:=DK hl;rfl
 refine ⟨d40,?_,λ base=>?_⟩
 ·obtain ⟨_,_,_,_,_,_,_,_,_,rfl,_,_⟩:=f40.ex;exact λ s v=>.of_eq rfl
 have o0:FnOk P w K mg base (AQ P w K) 1 a0 d0 ["thing"] (AZ K false 1 F0):=Br S0 f0 c0 gx (Bq hb) h0;have o1:FnOk P w K mg base (AQ P w K) 2 a1 d1 ["thing"] (AZ K false 1 F1):=Br S1 f1 c1 gx (Bf (Bq hb) m0 f0 B0 o0) h1;have o2:FnOk P w K mg base (AQ P w K) 3 a2 d2 ["box"] (AZ K false 1 F2):=Br S2 f2 c2 gx (Bf (Bq hb) m1 f1 B1 o1) h2;have o3:FnOk P w K mg base (AQ P w K) 2 a3 d3 ["thing","columns","height"] (AZ K false 3 F3):=Br S3 f3 c3 gx (Bf (Bq hb) m0 f0 B0 o0) h3;have o4:FnOk P w K mg base (AQ P w K) 1 a4 d4 ["numbers"] (AZ K false 1 F4):=Br S4 f4 c4 gx (Bq hb) h4;have o5:FnOk P w K mg base (AQ P w K) 1 a5 d5 ["table","j"] (AZ K false 2 F5):=Br S5 f5 c5 gx (Bq hb) h5;have o6:FnOk P w K mg base (AQ P w K) 4 a6 d6 ["box","thing"] (AZ K false 2 F6):=Br S6 f6 c6 gx (Bf (Bf (Bf (Bf (Bq hb) m5 f5 B5 o5) m4 f4 B4 o4) m3 f3 B3 o3) m2 f2 B2 o2) h6;have o7:FnOk P w K mg base (AQ P w K) 5 a7 d7 ["box","pile"] (AZ K false 2 F7):=Br S7 f7 c7 gx (Bf (Bq hb) m6 f6 B6 o6) h7;have o8:FnOk P w K mg base (AQ P w K) 2 a8 d8 ["box","thing"] (AZ K false 2 F8):=Br S8 f8 c8 gx (Bf (Bq hb) m0 f0 B0 o0) h8;have o9:FnOk P w K mg base (AQ P w K) 6 a9 d9 ["box","pile","other"] (AZ K false 3 F9):=Br S9 f9 c9 gx (Bf (Bq hb) m7 f7 B7 o7) h9;have o10:FnOk P w K mg base (AQ P w K) 1 a10 d10 ["box"] (AZ K false 1 P4):=Br S10 f10 gN gx (Bq hb) h10;have o11:FnOk P w K mg base (AQ P w K) 2 a11 d11 ["box","i","j"] (AZ K false 3 P2):=Br S11 f11 gM gx (Bf (Bq hb) m0 f0 B0 o0) h11;have o12:FnOk P w K mg base (AQ P w K) 7 a12 d12 ["box","pile","other"] (AZ K false 3 Uj):=Br S12 f12 gL gx (Bf (Bf (Bq hb) m10 f10 B10 o10) m9 f9 B9 o9) Gp;have o13:FnOk P w K mg base (AQ P w K) 1 a13 d13 ["columns","height"] (AZ K false 2 ZR):=Br S13 f13 gK gx (Bq hb) uV;have o14:FnOk P w K mg base (AQ P w K) 1 a14 d14 ["tally","other"] (AZ K false 2 Ui):=Br S14 f14 gJ gx (Bq hb) uU;have o15:FnOk P w K mg base (AQ P w K) 2 a15 d15 ["table","columns"] (AZ K false 2 ZQ):=Br S15 f15 gI gx (Bf (Bq hb) m14 f14 B14 o14) uT;have o16:FnOk P w K mg base (AQ P w K) 1 a16 d16 ["row","low","high"] (AZ K false 3 ZP):=Br S16 f16 gH gx (Bq hb) uS;have o17:FnOk P w K mg base (AQ P w K) 2 a17 d17 ["behind","low","high","counted"] (AZ K false 4 ZO):=Br S17 f17 gG gx (Bf (Bq hb) m16 f16 B16 o16) uR;have o18:FnOk P w K mg base (AQ P w K) 3 a18 d18 ["box","low","high","places"] (AZ K false 4 ZN):=Br S18 f18 gF gx (Bf (Bf (Bf (Bq hb) m17 f17 B17 o17) m15 f15 B15 o15) m13 f13 B13 o13) uQ;have o19:FnOk P w K mg base (AQ P w K) 4 a19 d19 ["box","low","high","places"] (AZ K false 4 IH):=Br S19 f19 gE gx (Bf (Bf (Bq hb) m18 f18 B18 o18) m14 f14 B14 o14) uP;have o20:FnOk P w K mg base (AQ P w K) 1 a20 d20 ["number","other"] (AZ K false 2 P1):=Br S20 f20 gD gx (Bq hb) uO;have o21:FnOk P w K mg base (AQ P w K) 2 a21 d21 ["top","bottom"] (AZ K false 2 J8):=Br S21 f21 gC gx (Bf (Bq hb) m20 f20 B20 o20) uN;have o22:FnOk P w K mg base (AQ P w K) 8 a22 d22 ["box","low","high"] (AZ K false 3 GP):=Br S22 f22 gB gx (Bf (Bq hb) m12 f12 B12 o12) uM;have o23:FnOk P w K mg base (AQ P w K) 3 a23 d23 ["tally"] (AZ K false 1 J7):=Br S23 f23 gA gx (Bf (Bq hb) m21 f21 B21 o21) uL;have o24:FnOk P w K mg base (AQ P w K) 9 a24 d24 ["box","low","high","cube"] (AZ K false 4 HX):=Br S24 f24 g9 gx (Bf (Bf (Bf (Bf (Bq hb) m22 f22 B22 o22) m21 f21 B21 o21) m19 f19 B19 o19) m8 f8 B8 o8) uK;have o25:FnOk P w K mg base (AQ P w K) 9 a25 d25 ["box","low","high","i","j"] (AZ K false 5 Mu):=Br S25 f25 g6 gx (Bf (Bf (Bf (Bf (Bq hb) m23 f23 B23 o23) m22 f22 B22 o22) m19 f19 B19 o19) m11 f11 B11 o11) uJ;have o26:FnOk P w K mg base (AQ P w K) 9 a26 d26 ["box","low","high"] (AZ K false 3 P0):=Br S26 f26 gz gx (Bf (Bf (Bf (Bf (Bq hb) m23 f23 B23 o23) m22 f22 B22 o22) m19 f19 B19 o19) m10 f10 B10 o10) uI;have o27:FnOk P w K mg base (AQ P w K) 7 a27 d27 ["box","low","high"] (AZ K false 3 Pz):=Br S27 f27 gy gx (Bf (Bf (Bq hb) m19 f19 B19 o19) m9 f9 B9 o9) uH;have o28:FnOk P w K mg base (AQ P w K) 1 a28 d28 ["script","k"] (AZ K false 2 Mt):=Br S28 f28 gw gx (Bq hb) uG;have o29:FnOk P w K mg base (AQ P w K) 1 a29 d29 ["cell","k"] (AZ K false 2 Mr):=Br S29 f29 gv gx (Bq hb) uF;have o30:FnOk P w K mg base (AQ P w K) 2 a30 d30 ["cell","many"] (AZ K false 2 KG):=Br S30 f30 gu gx (Bf (Bq hb) m29 f29 B29 o29) uE;have o31r0:FnOk P w K mg base (AQ P w K) 0 a31 d31 ["found","due"] (AZ K false 2 RC):=qr rfl;have o31r1:FnOk P w K mg base (AQ P w K) 1 a31 d31 ["found","due"] (AZ K false 2 L7):=Br RD f31 Pf gx (Ed (Bq hb) (by decide +kernel) (λ _ _=>rfl) m31 f31 B31 rfl o31r0) qu;have o31r2:FnOk P w K mg base (AQ P w K) 2 a31 d31 ["found","due"] (AZ K false 2 L8):=Br RE f31 Pf gx (Ed (Bq hb) (by decide +kernel) E5 m31 f31 B31 rfl o31r1) qv;have o31r3:FnOk P w K mg base (AQ P w K) 3 a31 d31 ["found","due"] (AZ K false 2 L9):=Br RF f31 Pf gx (Ed (Bq hb) (by decide +kernel) E5 m31 f31 B31 rfl o31r2) qw;have o31r4:FnOk P w K mg base (AQ P w K) 4 a31 d31 ["found","due"] (AZ K false 2 Om):=Br Oo f31 Pf gx (Ed (Bq hb) (by decide +kernel) E5 m31 f31 B31 rfl o31r3) qx;have o31:=o31r4;have o32:FnOk P w K mg base (AQ P w K) 3 a32 d32 ["box","script","start","cell"] (AZ K false 4 Py):=Br S32 f32 gq gx (Bf (Bq hb) m30 f30 B30 o30) uD;have o33:FnOk P w K mg base (AQ P w K) 4 a33 d33 ["box","script","cell"] (AZ K false 3 Px):=Br S33 f33 gn gx (Bf (Bf (Bq hb) m32 f32 B32 o32) m29 f29 B29 o29) uC;have o34:FnOk P w K mg base (AQ P w K) 1 a34 d34 ["top","bottom"] (AZ K false 2 J5):=Br S34 f34 gk gx (Bq hb) uB;have o35:FnOk P w K mg base (AQ P w K) 3 a35 d35 ["cell"] (AZ K false 1 Mq):=Br S35 f35 gj gx (Bf (Bq hb) m30 f30 B30 o30) uA;have o36:FnOk P w K mg base (AQ P w K) 1 a36 d36 ["low","i","j","k"] (AZ K false 4 Pw):=Br S36 f36 gi gx (Bq hb) u9;have o37:FnOk P w K mg base (AQ P w K) 1 a37 d37 ["one","other"] (AZ K false 2 Pu):=Br S37 f37 gf gx (Bq hb) u7;have o38:FnOk P w K mg base (AQ P w K) 2 a38 d38 ["one","other"] (AZ K false 2 KC):=Br S38 f38 uZ gx (Bf (Bq hb) m34 f34 B34 o34) u6;have o39:FnOk P w K mg base (AQ P w K) 10 a39 d39 ["box","low","high","cube"] (AZ K false 4 Pt):=Br S39 f39 uY gx (Bf (Bf (Bf (Bf (Bf (Bf (Bq hb) m37 f37 B37 o37) m36 f36 B36 o36) m34 f34 B34 o34) m31 f31 B31 o31) m27 f27 B27 o27) m24 f24 B24 o24) u5;exact Br S40 f40 uX gx (Ed (Ed (Ed (Ed (Ed (Ed (Ed (Ed (Ed (Ed (Bq hb) (by decide +kernel) E5 m39 f39 B39 rfl (o39.mono (by decide))) (by decide +kernel) E5 m38 f38 B38 rfl (o38.mono (by decide))) (by decide +kernel) E5 m35 f35 B35 rfl (o35.mono (by decide))) (by decide +kernel) E5 m33 f33 B33 rfl (o33.mono (by decide))) (by decide +kernel) E5 m31 f31 B31 rfl (o31.mono (by decide))) (by decide +kernel) E5 m30 f30 B30 rfl (o30.mono (by decide))) (by decide +kernel) E5 m28 f28 B28 rfl (o28.mono (by decide))) (by decide +kernel) E5 m26 f26 B26 rfl (o26.mono (by decide))) (by decide +kernel) E5 m25 f25 B25 rfl (o25.mono (by decide))) (by decide +kernel) E5 m24 f24 B24 rfl (o24.mono (by decide))) u4
end
end K46
open PySem PySem.W PyProof.Rows
set_option maxRecDepth 100000 in
set_option maxHeartbeats 0 in
theorem PySem.Challenge.cw_cornerpiles_k46_whole_shares_fall_holds : PySem.Challenge.rw_cornerpiles_k46_whole_shares_fall.Holds := by
 refine QQ.holds_by (l:=PySem.Challenge.rw_cornerpiles_k46_whole_shares_fall) (q:=K46.view) (loose:=K46.loose) (N:=20000) (k:=11) (n:=63) (ds:=K46.dfs) (xc:=[]) (F:=K46.F40) (x := "script") ?said rfl rfl (λ _=>rfl) K46.run (by rfl) (by rfl) (by rfl) (by rfl) (by decide +kernel) ⟨rfl,rfl,rfl,rfl,rfl,by decide +kernel⟩ ?hw rfl (by decide) rfl ⟨rfl,by decide,by decide,rfl⟩ (λ _ _ _ _ G hm=>K46.all_ok G hm) (λ _ _ _ ns hl hO hS=>QQ.sp_yes hO hS (K46.law_true ns hl))
 case said=>decide +kernel
 case hw=>w_witness2
