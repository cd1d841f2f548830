import PyProof.Rows.All
import Wide.All
import OpenK.AllK
import Wide.FinOn
import Lean
import PyProof.EqAt
import PyProof.EqKinds
import PyProof.TupleCall
import PySem.Challenge.RW_cornerpiles_k49_how_many_are
open PySem renaming wpAny_bind->Ak,Value->Ac,Shared->Af,sizeLine->Ap,starEach->As,wpAny_pure->A8,Program->A0,wpAny->Al,model->An,World->Ay,compareOp->Cb,Around->AJ,cellsFrom->C7,wpAny_truthy_bool->FJ,wpAny_field->Dw,mainGlobals->Dv,FuncData->Cr,assignEach->D9,NameKind->CJ,wpAny_newObj_type->HC,Scope->AW,IsPair->BM,wpAny_callSpecial?_slot->JV,backTo->BP,wpAny_seqItems->GZ,wpAny_setField_rec->IT,wpAny_passesOwn->HB,wpAny_mono->Et,binaryOp->Dt,wpAny_call_entry->IS,mem_of_lookup->JU,sysModules->EW,wpAny_holding->Hz,wpAny_Call_Name_kw->JT,intItems->DG,cLine->Bx,bootBuiltins->Hy,behindInMarks->IP,sliceBounds->Hx,keywordEach->Hw,numAt->Cj,wpAny_pyIter_tuple->LM,Keyword->Ea,foldedSetIterable->LL,call_meets->Hv,sizeLine_eq->IL,attributeBase->JQ,wpAny_pyIter_zip->LK,PyData->D8,wpAny_execs_nil->LJ,letOwnedTupleGo->LI,codeAny_mono->JP,IsZip->CH,Builtin->vj3,typeIs_str->IK,wpAny_updateSeq_pair->O4,wpAny_standAt->LF,wpAny_onRaise->LD,wpAny_newList->LC,tupleKind_room_in1->O0,backToKw->Ht,wpAny_loadPart_at->Ox,relabel->GW,codeAny->GV,noFill_tuple_add->Oo,wpAny_letGo->L8,tupleKind->JN,pushCells_keeps->Ol,intItems_at->L7,importedModules->Oj,codeAny_builtin->Oh,callerA->Hs,assign->FF,PassesOwn->JM,CmpOp->DF,wpAny_letOwnedTupleGo_zip->RF,newFunctionEnv->Of
open PySem.Heap renaming get?_push_of_some->AX,lt_size->A9,get?_push_size->BV,size_push->Eu,SameBut->JO,get?_update_ne->O1
open PySem.W renaming findIn->Dx,kia_one->DI,kitOne->DH,mroIn->EX,boot_heap->Du,keepIn->GY,fnOf->IM,kas_sort->FH,looks_findIn->O3,kitAny->LG,hideAll_get->O2,methodObj->Ow,kitx_none->Ov,boot_heap->Ou,instObj->Og,lookIn->Oe,codeIn->Od
open PySem.Builtin.SmallTypes renaming nextOf->Ha,ownedTupleIsFree->LS,ownedTupleHandOut->RM
open PySem.Obj renaming mapSeq->Cy
open Ne renaming symm->Br
open PyProof.Rows renaming callWith_type1->IU,seqObj->BD,listUpdate_at->JR,AllBare->Es,IntsAre->FG,envOfC->Ep,slot_tuple_getitem->RL,listItems_at->LA,get?_update_seq->Oi
open False renaming elim->CW
open PySem.Str renaming ofString->FI
open PySem.PyData renaming depthAll->HA,eqv->EV,canLay0->IQ,eqvAll->LB,canLayAll0->Ot
open PySem.F renaming slot_tuple_iterator_next->LR,args_tuple_add_2->O9,plainAttrs_list->O7,entry_tuple_add->O6,slot_tuple_add->O5,slot_zip_next->LH,args_str_split_2->Oy,entry_str_split->Oq,slot_str_split->Om,args_tuple_iterator_next_1->RK,entry_tuple_iterator_next->RJ
open PySem.Builtin.Slice renaming slicePlaces->LQ,sliceAdjust->OA,sliceApplied->RG
open PySem.Builtin.Tuple renaming tupleExact->LP
open PySem.Builtin.List renaming listTooLong->LO,listExtendWith->RI
open PySem.Builtin.Str renaming occurrences->LN,partsBetween->O8
open PySem.SeqAt.EqAt renaming same->JS,of_refs->Oz
open PySem.Txt renaming split->Hu
open PySem.SeqAt renaming RcNeAt->L9
open PySem.Calls renaming Name_function_global->RH
open List renaming mem_cons_of_mem->AB,mem_append_right->AL,mem_cons_self->AI,mem_append_left->AZ,length_map->AF,getD_eq_getElem?_getD->BS,replicate->AH,mem_cons->ja8,getElem?_eq_some_iff->jb0,size_toArray->Bl,mem_singleton->jb2,getElem?_eq_getElem->C9,getElem?_set_ne->Ck,length_append->BR,all_eq_true->jb8,getElem?_append_left->Di,length_cons->Cf,getElem?_set_self->Dh,mem_append->jc2,range->AY,map_cons->BH,mem_range->jc6,getElem?_map->DA,getElem?_append_right->Hf,lookup_cons->DM,getElem?_replicate->He,map_map->De,length_set->Ee,replicate_succ->FZ,length_take->Fc,length_replicate->Ib,findIdx?_eq_some_iff_getElem->je1,map_append->EZ,getElem_mem->FX,length_singleton->Jl,nil_append->FV,getElem?_eq_none->Jk,getElem?_take_of_lt->K8,not_mem_nil->Hc,getElem?_cons_succ->K7,length_eq_zero_iff->jf5,flatten_cons->HZ,getElem_of_mem->Jj,filter_eq_self->jg0,set_cons_zero->Ji,set_cons_succ->Jh,mem_map->jg4,all_cons->FU,append_nil->HX,flatMap_cons->Jg,map_nil->FT,length_reverse->K5,pairwise_cons->jh1,find?_cons->Jf,getElem?_eq_none_iff->jh5,getLast?_eq_getElem?->PN,filterMap_cons->MR,flatMap_append->MQ,length_nil->K2,reverse_cons->MP,eq_nil_iff_forall_not_mem->ji5,cons_append->MN,mem_flatMap->MM,mem_filter->ji9,nodup_cons->jj0,forIn_cons->ML,take_succ_cons->PM,range'->Jb,mem_filterMap->jj4,all_nil->K1,drop_eq_getElem_cons->Vg,take_zero->MK,append_assoc->PJ,any_cons->MI,filter_cons->PB,drop_eq_nil_of_le->Vf,take_of_length_le->Ve,of_mem_zip->P9,set_nil->MH,getElem?_append->Vc,replicate_zero->Vb,take_nil->P7,findIdx?_cons->UX,length_range->UT,mem_range'_1->jm6,getLast?_nil->US,length_drop->UR,flatten_nil->UP,zipIdx_cons->UN,range'_succ->UM,map_reverse->UL,flatMap_nil->UK,foldl_cons->UI,zipIdx_nil->UG,range_succ->UD,forIn_nil->UB,take_succ->UA,foldl->P5,drop_nil->U9,getD->P4,sum_nil->U5
open Bool renaming and_eq_true->A4,false_ne_true->C8,or_eq_true->E4,eq_iff_iff->Hb,and_true->Je,false_xor->MJ,and_eq_true_iff->jl3,false_or->P8,not_eq_true'->UU
open Option renaming map_eq_some_iff->ja9,map_some->K3,isSome_iff_exists->jk0,isSome_map->PH,isSome_some->UZ,getD_none->UQ,map->U1
open Nat renaming lt_of_lt_of_le->BA,le_refl->AE,ne_of_lt->BG,le_trans->Co,lt_irrefl->Ed,zero_le->D4,ne_of_gt->DL,lt_succ_self->FY,le_add_right->FW,le_of_succ_le->Hd,lt_of_succ_lt_succ->MT,le_succ->FR,lt_succ_of_lt->K4,zero_add->Jd,add_sub_cancel->PL,min_le_right->PF,succ_ne_zero->PD,not_lt->jm3,le_of_lt->P6,succ_le_succ->UO,zero_lt_succ->UJ,min_le_left->UH,mul_comm->U7,lt_trans->U6,sub_self->U3
open Array renaming length_toList->Ia,getElem?_eq_none->K6,toList_eq_nil_iff->jk4,getElem?_toList->Vd,append_assoc->Va,forIn_toList->UY,toList->U8
open Int renaming toNat_natCast->HY,le_refl->HW,zero_add->Jc,emod_lt_of_pos->UW,le_antisymm->UE,emod_nonneg->UC,le_trans->U4,mul_one->U2
set_option Elab.async false
set_option linter.all false
set_option maxRecDepth 100000
set_option autoImplicit false
set_option maxHeartbeats 2000000
namespace L2
open PySem PySem.Spec PyProof.Rows
abbrev AG:=Sum Int Str
inductive V where
 | non | bl (b:Bool) | int (i:Int) | str (x:Str) | byt (b:Array UInt8) | flt (b:UInt64) | ref (a:Addr) | ty (n:String)
 deriving DecidableEq
def JD (s:Stmt):Arguments:=match s with
 | .FunctionDef _ a _ _ _ _ _ _ _ _=>a
 | _=>{ posonlyargs:=[],args:=[],vararg:=none,kwonlyargs:=[],kw_defaults:=[],kwarg:=none,defaults:=[] }
def Ba (s:Stmt):List Stmt:=match s with
 | .FunctionDef _ _ b _ _ _ _ _ _ _=>b
 | _=>[]
def Ax (s:Stmt):AW:=match s with
 | .FunctionDef _ _ _ _ _ _ sc _ _ _=>sc
 | _=>{ kind:=.function,names:=[],isGenerator:=false,isCoroutine:=false }
end L2
namespace QQ
open PySem PySem.Spec PySem.W PySem.Calls PyProof.Rows L2
abbrev Frag:=PySem.W.Frag
inductive PV where
 | non | bl (b:Bool) | int (i:Int) | str (x:Str) | lst (xs:List PV) | tup (xs:List PV) | emp | dko | scr (ns:List Int) | dct (kvs:List (List AG×V)) | exn (c:Nat)
 deriving Inhabited
def XN:List Str:=["PileError","NoBox","NoPile","NoStairs","NoWays","NoRoad","NoNumber","NoPlace","TooMany","NoText","NoName","NoRow"]
def C6 (K:Frag) (c:Nat):Option Addr:=match XN[c]? with
 | some x=>(match PySem.W.nsIn K Dv x with
  | some (some (.ref C))=>some C
  | _=>none)
 | none=>none
def Vh:List Ac:=[.type "ValueError",.type "Exception",.type "BaseException",.type "object"]
def P0 (K:Frag) (C:Addr):List Ac:=match K.lookup C with
 | some ⟨_,_,.cls cd,_⟩=>cd.mro
 | _=>[]
def Ef (c d:Nat):Bool:=c == d || d == 0
def JL (K:Frag):Bool:=(AY 12).all λ c=>match C6 K c with
 | some C=>PySem.W.excIn K C Vh "ValueError.__new__" && (AY 12).all λ d=>(match C6 K d with
  | some D=>(P0 K C).contains (.ref D) == Ef c d
  | none=>true)
 | none=>true
def CN:List (Str×PV):=[("FIGURES",.str "0123456789"),("MOST_FIGURES",.int 2),("SIGNS_OF_HEIGHTS",.str ".123456789abcdefghijklmnopqrstuvwxyz"),("MOST_PILES",.int 3000)]
def MW:PV->Ac->Bool
 | .str z,.str z' _=>z == z'
 | .int i,.int j _=>i == j
 | _,_=>false
def Iy (K:Frag) (C:Addr):Bool:=(PySem.W.clsIn K C).isSome && EX K C (.type "object") == some true && EX K C (.type "BaseException") == some true && Dx K (.ref C) "__class__" == some (some (.builtin "object.__class__")) &&
 Dx K (.ref C) "__getattribute__" == some (some (.builtin "BaseException.__getattribute__")) && Dx K (.ref C) "__getattr__" == some none
def Bw (K:Frag):Bool:=DH K (.type "NoneType") (.type "ValueError") == some false && (AY 12).all λ c=>match C6 K c with
 | some C=>Iy K C && DH K (.type "NoneType") (.ref C) == some false && DH K (.ref C) (.type "ValueError") == some true && (AY 12).all λ d=>(match C6 K d with
  | some D=>DH K (.ref C) (.ref D) == some (Ef c d)
  | none=>true)
 | none=>true
def zzy:List Str:=["len","isinstance","all","max","min","tuple","list","range","int","bool","str","dict","sum","enumerate","zip","reversed","set","ValueError","sorted","abs"]
def IA (tb:String->Option vj3) (p:A0) (w:Ay) (n₀:Nat) (ann:Option Ac):Nat->SharedT->Thread->Option SharedT
 | 0,_,_=>none
 | n + 1,s,t=>match through t with
  | true=>some s
  | false=>match stepOk n₀ ann t with
   | false=>none
   | true=>match stepT (denote tb) p w s t with
    | some (s',t')=>IA tb p w n₀ ann n s' t'
    | none=>none
def U0:List Obj->Nat->BT->BT
 | [],_,t=>t
 | o::r,n,t=>U0 r (n + 1) (t.ins n o)
noncomputable def bootT (P:Params):BT:=U0 (Du P).objs.toList 0 .nil
noncomputable def bootS (P:Params) (os:OsState):SharedT:=⟨bootT P,(Du P).objs.size,(Du P).life,#[],boot_drawn,boot_toks,os⟩
def NJ {α:Type} (p q:A0) (loose:List Str) (Xt:Af->Bool) (Yf:Af->α) (H:Heap) (s:Af):=
 ((staticsOk (Oj p.main.body) H s.heap && namesBound p s.heap && gensDone s && laidKept H s.heap),openSeen q loose (Oj p.main.body) Xt true s,Yf s)
def K0 (h:Heap):Frag:=(AY h.objs.size).filterMap λ a=>(h.get? a).map λ o=>(a,o)
structure DefSeen where
 name:Str
 qual:Str
 params:Arguments
 body:FuncBody
 scope:AW
 globals:Addr
 closure:List (Str×Addr)
 defaults:Ac
 builtins:Addr
 code:Bool
def NH (K:Frag) (x:Str):Option DefSeen:=match nsIn K Dv x with
 | some (some (.ref g))=>(match K.lookup g with
  | some ⟨_,_,.func fd,_⟩=>some ⟨fd.name,fd.qualname,fd.params,fd.body,fd.scope,fd.globals,fd.closure,fd.defaults,fd.builtins,codeIn K fd.code x⟩
  | _=>none)
 | _=>none
def Pc (x:Str) (st:Stmt):DefSeen:=⟨x,x,JD st,.stmts (Ba st),Ax st,mainNs,[],.none,0,true⟩
def Jr (ds:List (Str×Stmt)) (xc:List Nat) (K:Frag):List (Option DefSeen)×List (Option (Option Ac))×Bool:=
 (ds.map λ d=>NH K d.1,zzy.map λ x=>nsIn K Dv x,xc.isEmpty || (JL K && Bw K && xc.all λ c=>if c < 50 then ((C6 K c).isSome && match XN[c]? with
  | some x=>!(x == ("__debug__" : Str))
  | none=>false) else (match CN[c - 50]? with
  | some (x,v)=>!(x == ("__debug__" : Str)) && (match nsIn K Dv x with
   | some (some u)=>MW v u
   | _=>false)
  | none=>false)))
def JJ (ds:List (Str×Stmt)):List (Option DefSeen)×List (Option (Option Ac))×Bool:=(ds.map λ d=>some (Pc d.1 d.2),zzy.map λ _=>some none,true)
end QQ
namespace K49
open PySem PySem.Spec PyProof.Rows L2 QQ
def top (i:Nat):Stmt:=PySem.Challenge.pw_cornerpiles_k49_how_many_are.main.body.getD i (.Pass ⟨0,0,0,0⟩)
abbrev t0:Stmt:=top 6
abbrev t1:Stmt:=top 7
abbrev t2:Stmt:=top 8
abbrev t3:Stmt:=top 9
abbrev t4:Stmt:=top 10
abbrev t5:Stmt:=top 11
abbrev t6:Stmt:=top 12
abbrev t7:Stmt:=top 13
abbrev t8:Stmt:=top 14
abbrev t9:Stmt:=top 15
abbrev Mt:Stmt:=top 16
abbrev Mr:Stmt:=top 17
abbrev Mq:Stmt:=top 19
abbrev Mp:Stmt:=top 21
abbrev Mo:Stmt:=top 23
abbrev Mn:Stmt:=top 24
abbrev Mm:Stmt:=top 27
abbrev Ml:Stmt:=top 28
abbrev Mj:Stmt:=top 29
abbrev Mi:Stmt:=top 30
abbrev Mh:Stmt:=top 31
abbrev Mg:Stmt:=top 32
abbrev Mf:Stmt:=top 33
abbrev Me:Stmt:=top 34
abbrev Md:Stmt:=top 35
abbrev Mc:Stmt:=top 37
abbrev Mb:Stmt:=top 38
abbrev Ma:Stmt:=top 39
abbrev LZ:Stmt:=top 40
abbrev LX:Stmt:=top 42
abbrev LY:Stmt:=top 41
abbrev LW:Stmt:=top 43
abbrev Kb:Stmt:=top 44
def dfs:List (Str×Stmt):=[(("is_whole_number" : Str),t0),(("is_box" : Str),t1),(("must_be_box" : Str),t2),(("is_row_of_heights" : Str),t3),(("never_rises" : Str),t4),(("column_of" : Str),t5),(("is_pile" : Str),t6),(("must_be_pile" : Str),t7),(("mirrored_pile" : Str),t8),(("how_many_above" : Str),t9),(("rolled_pile" : Str),Mt),(("rest_of" : Str),Mr),(("rows_of_heights" : Str),Mq),(("rows_behind" : Str),Mp),(("numbers_above" : Str),Mo),(("count_by_product" : Str),Mn),(("is_even" : Str),Mm),(("is_whole" : Str),Ml),(("is_round" : Str),Mj),(("must_have_few_piles" : Str),Mi),(("longer_by_a_row" : Str),Mh),(("all_piles_of" : Str),Mg),(("how_many_even" : Str),Mf),(("how_many_whole" : Str),Me),(("how_many_round" : Str),Md),(("_law_cell_at" : Str),Mc),(("_law_numbers" : Str),Mb),(("_law_count" : Str),Ma),(("_law_even" : Str),LZ),(("_law_whole" : Str),LY),(("_law_odd_first" : Str),LX),(("_law_small_box" : Str),LW),(("law" : Str),Kb)]
def view:A0:={ PySem.Challenge.pw_cornerpiles_k49_how_many_are with main:={ PySem.Challenge.pw_cornerpiles_k49_how_many_are.main with body:=[Kb] } }
def loose:List Str:=(PySem.Challenge.pw_cornerpiles_k49_how_many_are.main.scope.names.map λ x=>x.1).filter λ x=>!(x == ("law" : Str))
def run:∀ (w:PySem.World) (os:PySem.OsState),(IA PySem.treeTable PySem.Challenge.rw_cornerpiles_k49_how_many_are.prog w (Ou w.params).objs.size ((Ou w.params).nsMap Dv "__annotations__") 20000 (bootS w.params os) (PySem.W.topStub PySem.Challenge.rw_cornerpiles_k49_how_many_are.prog)).map (λ s=>NJ PySem.Challenge.rw_cornerpiles_k49_how_many_are.prog view loose (λ s=>PySem.W.xlAt view [] s && PySem.W.recOk (PySem.W.RowW.records PySem.Challenge.rw_cornerpiles_k49_how_many_are.row.toRowW) s) (λ s=>Jr dfs [53] (K0 s.heap)) (Ou w.params) s.abs)=some (true,PySem.W.openGood view loose,JJ dfs):=λ w os=>by kernel_rfl
end K49
namespace L2
open PySem PySem.Spec PyProof.Rows
def IX:AG->Ac->Bool
 | .inl k,v=>Value.isInt k v
 | .inr x,v=>Value.isStrOf x v
def P1 (w:Ay):AG->Int
 | .inl k=>hashInt k
 | .inr x=>hashStr w x
theorem Fj:∀ {k:AG}{v:Ac},IX k v=true->(∃ i t,k=Sum.inl i/\v=Value.int i t)\/(∃ x t,k=Sum.inr x/\v=Value.str x t)
 | .inl i,v,h=>by
  obtain ⟨t,e⟩:=Value.isInt_shape (k:=i) (v:=v) h;exact .inl ⟨i,t,rfl,e⟩
 | .inr x,v,h=>by
  obtain ⟨t,e⟩:=Value.isStrOf_shape (x:=x) (v:=v) h;exact .inr ⟨x,t,rfl,e⟩
def qV (i:Int) (t:Tok):IX (.inl i) (.int i t)=true:=by simp [IX,Value.isInt]
def qW (x:Str) (t:Tok):IX (.inr x) (.str x t)=true:=by simp [IX,Value.isStrOf]
def W6 (a b:Int):decide ((Sum.inl a:AG)=Sum.inl b)=(a == b):=by
 by_cases e:a=b
 ·subst e;simp
 ·have h:¬ (Sum.inl a:AG)=Sum.inl b:=λ q=>e (Sum.inl.inj q);rw [decide_eq_false h];exact (beq_eq_false_iff_ne.mpr e).symm
def W9 (a b:Str):decide ((Sum.inr a:AG)=Sum.inr b)=decide (a=b):=by
 by_cases e:a=b
 ·subst e;simp
 ·have h:¬ (Sum.inr a:AG)=Sum.inr b:=λ q=>e (Sum.inr.inj q);rw [decide_eq_false h,decide_eq_false e]
def W7 (a:Int) (b:Str):decide ((Sum.inl a:AG)=Sum.inr b)=false:=decide_eq_false (λ q=>nomatch q)
def W8 (a:Str) (b:Int):decide ((Sum.inr a:AG)=Sum.inl b)=false:=decide_eq_false (λ q=>nomatch q)
def CU (prog:A0) (w:Ay):PySem.KeyKind prog w AG where
 is:=IX
 hash:=P1 w
 inj:=λ v a b ha hb=>by
  rcases Fj ha with ⟨i,t,rfl,rfl⟩ | ⟨x,t,rfl,rfl⟩
  ·rcases Fj hb with ⟨j,u,rfl,e⟩ | ⟨y,u,rfl,e⟩
   ·injection e with e1 _;rw [e1]
   ·exact nomatch e
  ·rcases Fj hb with ⟨j,u,rfl,e⟩ | ⟨y,u,rfl,e⟩
   ·exact nomatch e
   ·injection e with e1 _;rw [e1]
 byValue:=λ k v h=>by
  rcases Fj h with ⟨i,t,rfl,rfl⟩ | ⟨x,t,rfl,rfl⟩ <;> rfl
 pyHash:=λ hv h=>by
  rcases Fj hv with ⟨i,t,rfl,rfl⟩ | ⟨x,t,rfl,rfl⟩
  ·exact wpAny_pyHash_int h
  ·exact wpAny_pyHash_str h
 eqBool:=λ hu hv h=>by
  rcases Fj hu with ⟨i,t,rfl,rfl⟩ | ⟨x,t,rfl,rfl⟩
  ·rcases Fj hv with ⟨j,u,rfl,rfl⟩ | ⟨y,u,rfl,rfl⟩
   ·rw [W6] at h;exact wpAny_eqBool_int h
   ·rw [W7] at h;exact SeqAt.EqAt.int_str i t y u _ _ _ _ h
  ·rcases Fj hv with ⟨j,u,rfl,rfl⟩ | ⟨y,u,rfl,rfl⟩
   ·rw [W8] at h;exact SeqAt.EqAt.str_int x t j u _ _ _ _ h
   ·rw [W9] at h;exact wpAny_eqBool_str h
 «strs»:=λ k x t v h=>by
  rcases Fj h with ⟨i,u,rfl,e⟩ | ⟨y,u,rfl,e⟩
  ·exact nomatch e
  ·injection e with e1 _
   subst e1;cases v <;> rfl
def VC (prog:A0) (w:Ay) (i:Int) (t:Tok):(CU prog w).is (.inl i) (.int i t)=true:=qV i t
def VD (prog:A0) (w:Ay) (x:Str) (t:Tok):(CU prog w).is (.inr x) (.str x t)=true:=qW x t
def RelV:V->Ac->Prop
 | .non,u=>u=Value.none
 | .bl b,u=>u=Value.bool b
 | .int i,u=>∃ t,u=Value.int i t
 | .str x,u=>∃ t,u=Value.str x t
 | .byt b,u=>∃ t,u=Value.bytes b t
 | .flt b,u=>∃ t,u=Value.float b t
 | .ref a,u=>u=Value.ref a
 | .ty n,u=>u=Value.type n
abbrev Vals:List V->List Ac->Prop:=Paired RelV
def Vals.length {xs:List V}{us:List Ac} (r:Vals xs us):xs.length=us.length:=Paired.length r
theorem Vals.get:∀ {xs:List V}{us:List Ac}{i:Nat}{x:V},Vals xs us->xs[i]?=some x->∃ u,us[i]?=some u/\RelV x u
 | _,_,_,_,.nil,e=>by simp at e
 | _,_,0,_,.cons r _,e=>by simp at e;subst e;exact ⟨_,rfl,r⟩
 | _,_,i + 1,x,.cons _ t,e=>by
  obtain ⟨u,h1,h2⟩:=Vals.get (i:=i) (x:=x) t (by simpa using e);exact ⟨u,by simpa using h1,h2⟩
theorem Vals.set {x:V}{u:Ac} (r:RelV x u):∀ {xs:List V}{us:List Ac} (i:Nat),Vals xs us->Vals (xs.set i x) (us.set i u)
 | _,_,_,.nil=>.nil
 | _,_,0,.cons _ t=>.cons r t
 | _,_,i + 1,.cons q t=>.cons q (Vals.set r i t)
theorem Vals.append:∀ {xs ys:List V}{us ws:List Ac},Vals xs us->Vals ys ws->Vals (xs++ys) (us++ws)
 | _,_,_,_,.nil,s=>s
 | _,_,_,_,.cons r t,s=>.cons r (Vals.append t s)
theorem Vals.take:∀ {xs:List V}{us:List Ac} (n:Nat),Vals xs us->Vals (xs.take n) (us.take n)
 | _,_,0,_=>.nil
 | _,_,_ + 1,.nil=>.nil
 | _,_,n + 1,.cons r t=>.cons r (Vals.take n t)
theorem Vals.drop:∀ {xs:List V}{us:List Ac} (n:Nat),Vals xs us->Vals (xs.drop n) (us.drop n)
 | _,_,0,r=>r
 | _,_,_ + 1,.nil=>.nil
 | _,_,n + 1,.cons _ t=>Vals.drop n t
def RelO:Option V->Option Ac->Prop
 | some v,some u=>RelV v u
 | none,none=>True
 | _,_=>False
def KV {κ:Type}:List (κ×V)->List (κ×Ac)->Prop:=Paired λ (p:κ×V) (q:κ×Ac)=>p.1=q.1/\RelV p.2 q.2
def kV:AG->V
 | .inl i=>.int i
 | .inr x=>.str x
inductive HO where
 | lst (xs:List V)
 | tup (xs:List V)
 | dK (kvs:List (AG×V)) | dT (kvs:List (List AG×V))
 | set (S:Int->Bool) (n:Nat)
 | ins (C dx:Addr) (fs:List (Str×V))
 | own (x:Addr)
 | xd (fs:List (Str×V))
 | met (f x:Addr)
 | rng (lo hi:Int)
 | frz (o:Obj) (u:HO)
 | tbl (ps:Array Ac)
 | ext (φ:Heap->Prop)
abbrev Hp:=Addr->Option HO
def Am (H:Hp) (a:Addr) (o:HO):Hp:=λ b=>if b=a then some o else H b
def Bq {H:Hp}{a:Addr}{o:HO}:Am H a o a=some o:=by unfold Am;rw [if_pos rfl]
def A3 {H:Hp}{a b:Addr}{o:HO} (h:b≠a):Am H a o b=H b:=by unfold Am;rw [if_neg h]
def We {H:Hp}{a b:Addr}{o u:HO} (h:H a=some o) (h':H b=some u) (d:o≠u):a≠b:=by
 intro e;subst e;rw [h] at h';exact d (Option.some.inj h')
def Ju {H:Hp}{a b:Addr}{o:HO} (h:H a=some o) (h':H b=none):a≠b:=by
 intro e;subst e;rw [h] at h';cases h'
section
variable (P:A0) (w:Ay)
def zxv (H:Hp) (h:Heap) (a:Addr):HO->Prop
 | .lst xs=>xs.length<=Ap/\∃ (its:List Ac) (n:Nat),Vals xs its/\h.get? a=some { cls:=.type "list",data:=.seq its.toArray n }
 | .tup xs=>xs.length<=Ap/\∃ its:List Ac,Vals xs its/\IsTup h a its.toArray
 | .dK kvs=>kvs.length<=Ap/\(a == EW)=false/\∃ vs,KV kvs vs/\h.DictOf (CU P w) a vs
 | .dT kvs=>kvs.length<=Ap/\(a == EW)=false/\∃ xs:List (List AG×Addr×Ac),
   Paired (λ (p:List AG×V) (q:List AG×Addr×Ac)=>p.1=q.1/\H q.2.1=some (.tup (p.1.map kV))/\RelV p.2 q.2.2) kvs xs /\
   ∃ o es ep,h.get? a=some o/\o.ExactDict/\o.data=.dict es ep/\es.toList=xs.map (entryOfKey (JN (CU P w)))/\(xs.map (·.1)).Nodup
 | .set S n=>h.SetOf (intKind P w) a S n
 | .ins C dx fs=>H dx=some (.own a)/\fs.length<=1000/\dx≠a/\h.get? a=some (Og C dx) /\
   ∃ mA,h.Ns1 dx mA/\(∀ f,RelO (fs.lookup f) (mA f))/\PySem.Within mA (fs.map (·.1))
 | .own _=>∃ o,h.get? a=some o
 | .xd fs=>∃ mA,h.Ns1 a mA/\∀ f,RelO (fs.lookup f) (mA f)
 | .rng lo hi=>∃ t u v,h.get? a=some { cls:=.type "range",data:=.fields #[.int lo t,.int hi u,.int 1 v] }
 | .frz o u=>h.get? a=some o/\zxv H h a u
 | .tbl ps=>h.get? a=some { cls:=.none,data:=.fields ps }
 | .met f x=>h.get? a=some (Ow (.ref f) (.ref x))
 | .ext φ=>φ h/\(∃ o,h.get? a=some o)/\∀ h1 h2:Heap,φ h1->(∀ o,h1.get? a=some o->h2.get? a=some o)->φ h2
def HOk (H:Hp) (h:Heap):Prop:=∀ a o,H a=some o->zxv P w H h a o
end
section
variable {P:A0}{w:Ay}{H H':Hp}{h h':Heap}{a:Addr}{o:HO}
theorem zxv.lt (x:zxv P w H h a o):a < h.objs.size:=by
 cases o with
 | lst xs=>obtain ⟨_,_,_,_,e⟩:=x;exact A9 e
 | tup xs=>obtain ⟨_,_,_,p⟩:=x;exact p.lt
 | dK kvs=>obtain ⟨_,_,_,_,o,_,_,e,_⟩:=x;exact A9 e
 | dT kvs=>obtain ⟨_,_,_,_,o,_,_,e,_⟩:=x;exact A9 e
 | set S n=>obtain ⟨o,_,_,_,e,_⟩:=x;exact A9 e
 | ins C dx fs=>obtain ⟨_,_,_,e,_⟩:=x;exact A9 e
 | own y=>obtain ⟨_,e⟩:=x;exact A9 e
 | xd fs=>obtain ⟨_,⟨_,_,_,e,_⟩,_⟩:=x;exact A9 e
 | rng lo hi=>obtain ⟨_,_,_,e⟩:=x;exact A9 e
 | frz ob u=>obtain ⟨e,_⟩:=x;exact A9 e
 | tbl ps=>exact A9 (show h.get? a=some _ from x)
 | met f y=>exact A9 (show h.get? a=some _ from x)
 | ext φ=>obtain ⟨_,⟨_,e⟩,_⟩:=x;exact A9 e
theorem Paired.mapP {α β:Type}{F G:α->β->Prop}:∀ {l₁:List α}{l₂:List β},Paired F l₁ l₂->(∀ a b,F a b->G a b)->Paired G l₁ l₂
 | _,_,.nil,_=>.nil
 | _,_,.cons r t,f=>.cons (f _ _ r) (Paired.mapP t f)
theorem zxv.stay (x:zxv P w H h a o) (k:∀ b u,(b=a\/H b=some (.own a))->h.get? b=some u->h'.get? b=some u)
  (ho:∀ b,H b=some (.own a)->H' b=some (.own a)) (ht:∀ b xs,H b=some (.tup xs)->H' b=some (.tup xs)):zxv P w H' h' a o:=by
 induction o with
 | lst xs=>obtain ⟨z,its,n,r,e⟩:=x;exact ⟨z,its,n,r,k _ _ (.inl rfl) e⟩
 | tup xs=>obtain ⟨z,its,r,ob,e,c⟩:=x;exact ⟨z,its,r,ob,k _ _ (.inl rfl) e,c⟩
 | dK kvs=>obtain ⟨z,y,vs,r,ob,es,ep,e,c⟩:=x;exact ⟨z,y,vs,r,ob,es,ep,k _ _ (.inl rfl) e,c⟩
 | dT kvs=>
  obtain ⟨z,y,xs,r,ob,es,ep,e,c⟩:=x;exact ⟨z,y,xs,Paired.mapP r λ p q z=>⟨z.1,ht _ _ z.2.1,z.2.2⟩,ob,es,ep,k _ _ (.inl rfl) e,c⟩
 | set S n=>obtain ⟨ob,es,ep,t,e,c⟩:=x;exact ⟨ob,es,ep,t,k _ _ (.inl rfl) e,c⟩
 | ins C dx fs=>
  obtain ⟨d,z,ne,e,mA,⟨od,es,ep,e2,c⟩,r⟩:=x;exact ⟨ho _ d,z,ne,k _ _ (.inl rfl) e,mA,⟨od,es,ep,k _ _ (.inr d) e2,c⟩,r⟩
 | own y=>obtain ⟨ob,e⟩:=x;exact ⟨ob,k _ _ (.inl rfl) e⟩
 | xd fs=>obtain ⟨mA,⟨od,es,ep,e,c⟩,r⟩:=x;exact ⟨mA,⟨od,es,ep,k _ _ (.inl rfl) e,c⟩,r⟩
 | rng lo hi=>obtain ⟨t,u,v,e⟩:=x;exact ⟨t,u,v,k _ _ (.inl rfl) e⟩
 | frz ob u ih=>obtain ⟨e,q⟩:=x;exact ⟨k _ _ (.inl rfl) e,ih q⟩
 | tbl ps=>
  have e:h.get? a=some { cls:=.none,data:=.fields ps }:=x;show h'.get? a=some { cls:=.none,data:=.fields ps };exact k a _ (.inl rfl) e
 | met f y=>
  have e:h.get? a=some (Ow (.ref f) (.ref y)):=x;show h'.get? a=some (Ow (.ref f) (.ref y));exact k a _ (.inl rfl) e
 | ext φ=>obtain ⟨p,⟨o,e⟩,st⟩:=x;exact ⟨st _ _ p λ o q=>k _ _ (.inl rfl) q,⟨o,k _ _ (.inl rfl) e⟩,st⟩
def HOk.lt (x:HOk P w H h) (e:H a=some o):a < h.objs.size:=(x a o e).lt
theorem HOk.fresh (x:HOk P w H h) (e:h.objs.size<=a):H a=none:=by
 cases q:H a with
 | none=>rfl
 | some u=>exact absurd (BA (x.lt q) e) (Ed _)
def HOk.kept (x:HOk P w H h) (k:∀ b u,h.get? b=some u->h'.get? b=some u):HOk P w H h':=λ a o e=>
 (x a o e).stay (λ b u _ q=>k b u q) (λ _ q=>q) λ _ _ q=>q
def HOk.laid (x:HOk P w H h) (k:∀ b u,h.get? b=some u->h'.get? b=some u) (hp:h.objs.size<=a) (new:zxv P w (Am H a o) h' a o):HOk P w (Am H a o) h':=λ b u e=>by
 have hn:=x.fresh hp;by_cases hb:b=a
 ·subst hb;rw [Bq] at e;cases e;exact new
 ·rw [A3 hb] at e;exact (x b u e).stay (λ c v _ q=>k c v q) (λ c q=>by rw [A3 (Ju q hn)];exact q) λ c xs q=>by rw [A3 (Ju q hn)];exact q
end
def Rd (H:Hp) (a:Addr) (u:HO):Prop:=H a=some u\/∃ o,H a=some (.frz o u)
def Rd.ok {P:A0}{w:Ay}{H:Hp}{h:Heap}{a:Addr}{u:HO} (r:Rd H a u) (x:HOk P w H h):zxv P w H h a u:=by
 rcases r with r | ⟨o,r⟩
 ·exact x a u r
 ·obtain ⟨_,q⟩:=x a _ r;exact q
def KO:Option HO->Prop
 | some (.lst _)=>True
 | some (.dK _)=>True
 | some (.dT _)=>True
 | some (.set _ _)=>True
 | some (.ins _ _ _)=>True
 | some (.ext _)=>True
 | _=>False
section
variable {P:A0}{w:Ay}{H:Hp}{h h':Heap}{x e:Addr}{o':HO}
def HOk.write (ok:HOk P w H h) (mu:KO (H x)) (he:e=x\/H e=some (.own x)) (k:∀ b u,b≠e->h.get? b=some u->h'.get? b=some u) (heo:∃ u,h'.get? e=some u)
  (new:zxv P w (Am H x o') h' x o'):HOk P w (Am H x o') h':=λ b u q=>by
 have nown:∀ c y,H c=some (.own y)->c≠x:=λ c y r z=>by subst z;rw [r] at mu;exact mu
 have ntup:∀ c xs,H c=some (.tup xs)->c≠x:=λ c xs r z=>by subst z;rw [r] at mu;exact mu
 by_cases hb:b=x
 ·subst hb;rw [Bq] at q;cases q;exact new
 ·rw [A3 hb] at q;by_cases hbe:b=e
  ·have q':H b=some (.own x):=by
    rcases he with z | z
    ·exact absurd (hbe.trans z) hb
    ·rw [hbe];exact z
   rw [q] at q';cases q';obtain ⟨v,hv⟩:=heo;exact ⟨v,by rw [hbe];exact hv⟩
  ·refine (ok b u q).stay (λ c v hc r=>k c v ?_ r) (λ c r=>by rw [A3 (nown c b r)];exact r) λ c xs r=>by rw [A3 (ntup c xs r)];exact r
   rcases hc with rfl | hc
   ·exact hbe
   ·rintro rfl;rcases he with z | z
    ·exact nown c b hc z
    ·rw [hc] at z;cases z;exact hb rfl
end
structure Un (fs ex:List Addr) (H H':Hp) (h h':Heap):Prop where
 keep:∀ b o,h.get? b=some o->H b=none->b∉fs->b∉ex->h'.get? b=some o
 slot:∀ b o,h.get? b=some o->H b=none->b∈fs->b∉ex->∃ sl,h'.get? b=some { o with slots:=sl }
 free:∀ b o,h.get? b=some o->H b=none->b∉ex->H' b=none
 there:∀ b o,h.get? b=some o->b∉ex->∃ o',h'.get? b=some o'
 tups:∀ b xs,H b=some (.tup xs)->H' b=some (.tup xs)
 frzs:∀ b o u,H b=some (.frz o u)->H' b=some (.frz o u)
 tbls:∀ b ps,H b=some (.tbl ps)->∃ more,H' b=some (.tbl (ps++more))
section
variable {fs fs' ex ex':List Addr}{H H1 H2:Hp}{h h1 h2 h':Heap}{a x e:Addr}{o:HO}
def Un.any (u:Un fs ex H H1 h h1) {b:Addr}{ob:Obj} (q:h.get? b=some ob) (n:H b=none) (hx:b∉ex):∃ sl,h1.get? b=some { ob with slots:=sl }:=by
 by_cases hb:b∈fs
 ·exact u.slot b ob q n hb hx
 ·exact ⟨ob.slots,u.keep b ob q n hb hx⟩
def Un.kept (k:∀ b u,h.get? b=some u->h'.get? b=some u):Un fs ex H H h h':=
 ⟨λ b ob q _ _ _=>k b ob q,λ b ob q _ _ _=>⟨ob.slots,k b ob q⟩,λ _ _ _ n _=>n,λ b ob q _=>⟨ob,k b ob q⟩,λ _ _ q=>q,λ _ _ _ q=>q,λ _ ps q=>⟨#[],by rw [q];simp⟩⟩
def Un.refl:Un fs ex H H h h:=Un.kept λ _ _ q=>q
def Un.laid (k:∀ b u,h.get? b=some u->h'.get? b=some u) (hp:h.objs.size<=a) (hn:H a=none):Un fs ex H (Am H a o) h h' where
 keep:=λ b u q _ _ _=>k b u q
 slot:=λ b u q _ _ _=>⟨u.slots,k b u q⟩
 free:=λ b u q n _=>by rw [A3 (BG (BA (A9 q) hp))];exact n
 there:=λ b u q _=>⟨u,k b u q⟩
 tups:=λ b xs q=>by rw [A3 (Ju q hn)];exact q
 frzs:=λ b u xs q=>by rw [A3 (Ju q hn)];exact q
 tbls:=λ b ps q=>⟨#[],by rw [A3 (Ju q hn),q];simp⟩
def Un.write (mu:KO (H x)) (he:e=x\/H e=some (.own x)) (k:∀ b u,b≠e->h.get? b=some u->h'.get? b=some u) (heo:∃ u,h'.get? e=some u):Un fs ex H (Am H x o) h h':=by
 have hx:∀ b,H b=none->b≠x:=λ b n z=>by subst z;rw [n] at mu;exact mu
 have hb:∀ b,H b=none->b≠e:=λ b n z=>by
  subst z;rcases he with r | r
  ·exact hx b n r
  ·rw [n] at r;cases r
 have hm:∀ b u,H b=some u->¬ KO (some u)->b≠x:=λ b u q nm z=>by subst z;rw [q] at mu;exact nm mu
 refine ⟨λ b u q n _ _=>k b u (hb b n) q,λ b u q n _ _=>⟨u.slots,k b u (hb b n) q⟩,λ b u q n _=>by rw [A3 (hx b n)];exact n,λ b u q _=>?_,
  λ b xs q=>by rw [A3 (hm b _ q λ z=>z)];exact q,λ b u xs q=>by rw [A3 (hm b _ q λ z=>z)];exact q,λ b ps q=>⟨#[],by rw [A3 (hm b _ q λ z=>z),q];simp⟩⟩
 by_cases hbe:b=e
 ·subst hbe;exact heo
 ·exact ⟨u,k b u hbe q⟩
end
def EY (h:Heap) (H:Hp):List Addr:=(AY h.objs.size).filter λ a=>(H a).isSome
def CL (h:Heap) (H:Hp):Heap:=PySem.W.hideAll h (EY h H)
def xh (h:Heap) (H:Hp):(CL h H).objs.size=h.objs.size:=PySem.W.hideAll_size _ _
def ZJ {h:Heap}{H:Hp}{b:Addr}{o:Obj} (e:h.get? b=some o) (n:H b=none):(CL h H).get? b=some o:=
 O2 _ e λ hm=>by
  have q:(H b).isSome=true:=(ji9.mp hm).2;rw [n] at q;simp at q
theorem Y2 {h:Heap}{H:Hp}{b:Addr}{o:Obj} (e:(CL h H).get? b=some o):h.get? b=some o/\H b=none:=by
 have e':h.get? b=some o:=PySem.W.of_hideAll (EY h H) e;refine ⟨e',?_⟩;cases q:H b with
 | none=>rfl
 | some x=>
  have hm:b∈EY h H:=ji9.mpr ⟨jc6.mpr (A9 e'),by simp [q]⟩;have z:(CL h H).get? b=none:=PySem.W.hideAll_none (EY h H) hm;rw [z] at e;cases e
def XW (g h:Heap) (L:Addr):List (Addr×Obj):=(AY h.objs.size).filterMap λ a=>if a=L\/(g.get? a).isSome=true then none else (h.get? a).map λ o=>(a,o)
def rest (g h:Heap) (L d:Addr):List (Addr×Obj):=(XW g h L).filter λ p=>decide (p.1≠d)
structure Mod (K:PySem.W.Frag) (mg:Str->Option Ac) (base:Heap):Prop where
 kin:K.In base
 glob:base.Ns Dv mg
 blt:∃ mb,base.Ns builtinsNs mb/\∀ x:Str,x ≠ "__name__" -> mb x=Hy x
 nolimit:base.NoLimit
structure Cx where
 prog:A0
 w:Ay
 K:PySem.W.Frag
 mg:Str->Option Ac
 base:Heap
 A:AJ
 N:List Str
 s₀:Af
 H₀:Hp
 env:Env
 outer:List Env
 stack:List Env
 ex:List Addr
 fn:Str->Bool
 calm:Bool
 pn:List (Addr×Obj)
 xe:Ac->Af->Prop
def Cs (l:List Env):List Addr:=l.filterMap (·.frame)
abbrev Cx.fs (X:Cx):List Addr:=Cs X.outer
def Hg (sc:AW) (x:Str):Prop:=sc.names.lookup x=some .local\/sc.names.lookup x=some .cell\/sc.names.lookup x=some .free
def EF (sc:AW) (x:Str):Prop:=sc.names.lookup x=some .local\/sc.names.lookup x=some .cell
def Qj (env:Env) (h:Heap) (m:Str->Option Ac) (x:Str) (u:Ac):Prop:=
 (env.kindOf x=some .local/\m x=some u)\/((env.kindOf x=some .cell\/env.kindOf x=some .free)/\∃ c,env.cells.lookup x=some c/\h.IsCell c (some u))
structure Cx.Ok (X:Cx):Prop where
 mod:Mod X.K X.mg X.base
 kind:X.env.scope.kind=.function
 glob:X.env.globals=Dv
 blt:X.env.builtins=builtinsNs
 above:X.s₀.heap.objs.size<=X.env.locals
 inj:∀ x y c,X.env.cells.lookup x=some c->X.env.cells.lookup y=some c->x=y
 has:∀ x,(X.env.kindOf x=some .cell\/X.env.kindOf x=some .free)->∃ c,X.env.cells.lookup x=some c
 cab:∀ x c,X.fn x=true->X.env.cells.lookup x=some c->X.s₀.heap.objs.size<=c
 hd:X.calm=true->X.A.handled=none
 frames:X.A.frames=some X.stack
 stk:X.stack=X.outer\/(X.stack=X.env::X.outer/\X.env.frame=some X.env.locals)
 exf:∀ b∈X.ex,b≠X.env.locals/\∀ x c,X.env.cells.lookup x=some c->c≠b
 bs:∀ b o,X.base.get? b=some o->X.s₀.heap.get? b=some o/\X.H₀ b=none
 bsz:X.base.objs.size<=X.s₀.heap.objs.size
 noex:∀ b o,X.base.get? b=some o->b∉X.ex
 exfs:∀ b∈X.ex,b∉X.fs
 funs:X.s₀.heap.FunFrames X.base X.outer
 frf:∀ b∈X.fs,X.H₀ b=none
structure Inv (X:Cx) (pins:List (Addr×Obj)) (σ:List (Option V)) (H:Hp) (s:Af):Prop where
 ok:X.Ok
 os:s.os=X.s₀.os
 bare:Es s.gens
 base:Un X.fs X.ex X.H₀ H X.s₀.heap s.heap
 loc:∃ m,s.heap.Ns X.env.locals m/\∀ (i:Nat) (x:Str) (v:V),X.N[i]?=some x->σ[i]?=some (some v)->Hg X.env.scope x->∃ u,RelV v u/\Qj X.env s.heap m x u
 cell:∀ x c,X.env.cells.lookup x=some c->∃ v,s.heap.IsCell c v
 free:H X.env.locals=none
 freeC:∀ x c,X.env.cells.lookup x=some c->H c=none
 pin:∀ p∈X.pn++pins,s.heap.get? p.1=some p.2/\H p.1=none/\p.1≠X.env.locals/\p.1∉X.fs/\∀ v,p.2.data≠.cell v
 hok:HOk X.prog X.w H s.heap
 len:σ.length=X.N.length
section
variable {X:Cx}{pins:List (Addr×Obj)}{σ:List (Option V)}{H H':Hp}{s:Af}{h':Heap}
def Cx.Ok.nofr (ok:X.Ok) {b:Addr}{o:Obj} (e:X.base.get? b=some o):b∉X.fs:=λ hb=>by
 have:=(ok.funs.mem hb).1
 rw [e] at this;cases this
def Inv.bs (I:Inv X pins σ H s):∀ b o,X.base.get? b=some o->s.heap.get? b=some o/\H b=none:=λ b o e=>
 ⟨I.base.keep b o (I.ok.bs b o e).1 (I.ok.bs b o e).2 (I.ok.nofr e) (I.ok.noex b o e),I.base.free b o (I.ok.bs b o e).1 (I.ok.bs b o e).2 (I.ok.noex b o e)⟩
def Inv.bk (I:Inv X pins σ H s):∀ b o,X.base.get? b=some o->s.heap.get? b=some o:=λ b o e=>(I.bs b o e).1
def Inv.mod (I:Inv X pins σ H s):Mod X.K X.mg X.base:=I.ok.mod
def Inv.kIn (I:Inv X pins σ H s):X.K.In s.heap:=I.ok.mod.kin.keeps I.bk
def Inv.lt (I:Inv X pins σ H s):X.env.locals < s.heap.objs.size:=let ⟨_,hn,_⟩:=I.loc;hn.lt
def Inv.sz (I:Inv X pins σ H s):X.s₀.heap.objs.size<=s.heap.objs.size:=Co I.ok.above (P6 I.lt)
def Inv.nofs (I:Inv X pins σ H s) {a:Addr} (h:s.heap.objs.size<=a):a∉X.fs:=λ hb=>by
 obtain ⟨_,o,ho,_⟩:=I.ok.funs.mem hb;exact absurd (BA (A9 ho) (Co I.sz h)) (Ed _)
def Inv.cne (I:Inv X pins σ H s):∀ x c,X.env.cells.lookup x=some c->c≠X.env.locals:=λ x c e z=>by
 obtain ⟨v,o,ho,hd⟩:=I.cell x c e;obtain ⟨m,⟨o',es,ep,ho',hd',_⟩,_⟩:=I.loc;rw [z,ho'] at ho;cases ho;rw [hd'] at hd;cases hd
def Inv.funs (I:Inv X pins σ H s):s.heap.FunFrames X.base X.outer:=by
 have all:∀ (l:List Env),(∀ b∈Cs l,b∈X.fs)->X.s₀.heap.FunFrames X.base l->s.heap.FunFrames X.base l:=by
  intro l;induction l with
  | nil=>intro _ _;trivial
  | cons env r ih=>
   intro hs hl;obtain ⟨hk,⟨L,o,hf,hn,ho,hd⟩,hr⟩:=hl;have hL:L∈X.fs:=hs L (by unfold Cs;rw [MR,hf];exact AI);obtain ⟨sl,e⟩:=I.base.slot L o ho (I.ok.frf L hL) hL λ z=>I.ok.exfs L z hL;exact ⟨hk,⟨L,_,hf,hn,e,hd⟩,ih (λ b hb=>hs b (by unfold Cs;rw [MR,hf];exact AB _ hb)) hr⟩
 exact all X.outer (λ _ hb=>hb) I.ok.funs
def Inv.stack (I:Inv X pins σ H s):s.heap.FunFrames X.base X.stack:=by
 rcases I.ok.stk with e | ⟨e,hf⟩
 ·rw [e];exact I.funs
 ·rw [e];obtain ⟨m,hn,_⟩:=I.loc;refine .cons (by rw [I.ok.kind];decide) hf hn ?_ I.funs;exact Heap.get?_none_of_le (Co I.ok.bsz I.ok.above)
def Inv.stkSub (I:Inv X pins σ H s):∀ b∈Cs X.stack,b∈X.env.locals::X.fs:=λ b hb=>by
 rcases I.ok.stk with e | ⟨e,hf⟩
 ·rw [e] at hb;exact AB _ hb
 ·rw [e] at hb;unfold Cs at hb;rw [MR,hf] at hb;exact hb
def Inv.stkFree (I:Inv X pins σ H s):∀ b∈Cs X.stack,H b=none:=λ b hb=>by
 rcases ja8.mp (I.stkSub b hb) with e | hb
 ·rw [e];exact I.free
 ·obtain ⟨_,o,ho,_⟩:=I.ok.funs.mem hb;exact I.base.free b o ho (I.ok.frf b hb) λ z=>I.ok.exfs b z hb
def Inv.step {g':Array GenState}{t':Nat}{d':Drawn}{ch:List Addr} (I:Inv X pins σ H s)
  (hch:∀ b∈ch,(b∈X.ex\/X.s₀.heap.objs.size<=b)/\b≠X.env.locals/\(∀ x c,X.env.cells.lookup x=some c->c≠b)/\∀ p∈X.pn++pins,p.1≠b)
  (keep:∀ b o,b≠X.env.locals->b∉X.fs->b∉ch->s.heap.get? b=some o->H b=none->h'.get? b=some o)
  (slot:∀ b o,b≠X.env.locals->b∈X.fs->b∉ch->s.heap.get? b=some o->H b=none->∃ sl,h'.get? b=some { o with slots:=sl }) (free:∀ b o,b∉ch->s.heap.get? b=some o->H b=none->H' b=none)
  (there:∀ b o,b∉ch->s.heap.get? b=some o->∃ o',h'.get? b=some o')
  (tups:∀ b xs,H b=some (.tup xs)->H' b=some (.tup xs)) (frzs:∀ b o u,H b=some (.frz o u)->H' b=some (.frz o u)) (tbls:∀ b ps,H b=some (.tbl ps)->∃ more,H' b=some (.tbl (ps++more)))
  (ns:∀ m,s.heap.Ns X.env.locals m->h'.Ns X.env.locals m) (hok:HOk X.prog X.w H' h') (hg:Es g'):
  Inv X pins σ H' { s with heap:=h',gens:=g',drawn:=d',toks:=t' }:=by
 have neL:∀ b o,X.s₀.heap.get? b=some o->b≠X.env.locals:=λ b o e=>BG (BA (A9 e) I.ok.above);have neC:∀ b o,X.s₀.heap.get? b=some o->b∉X.ex->b∉ch:=λ b o e hx hb=>by
  rcases (hch b hb).1 with z | z
  ·exact hx z
  ·exact absurd (BA (A9 e) z) (Ed _)
 have cellK:∀ x c,X.env.cells.lookup x=some c->∀ v,s.heap.IsCell c v->h'.IsCell c v:=λ x c e v ⟨o,ho,hd⟩=>by
  have nch:c∉ch:=λ z=>(hch c z).2.2.1 x c e rfl;by_cases hc:c∈X.fs
  ·obtain ⟨sl,q⟩:=slot c o (I.cne x c e) hc nch ho (I.freeC x c e);exact ⟨_,q,hd⟩
  ·exact ⟨o,keep c o (I.cne x c e) hc nch ho (I.freeC x c e),hd⟩
 refine ⟨I.ok,I.os,hg,⟨λ b o e n hb hx=>?_,λ b o e n hb hx=>?_,λ b o e n hx=>?_,λ b o e hx=>?_,λ b xs e=>tups b xs (I.base.tups b xs e),λ b o xs e=>frzs b o xs (I.base.frzs b o xs e),λ b ps e=>?_⟩,?_,λ x c e=>?_,?_,λ x c e=>?_,λ p hp=>?_,hok,I.len⟩
 ·exact keep b o (neL b o e) hb (neC b o e hx) (I.base.keep b o e n hb hx) (I.base.free b o e n hx)
 ·obtain ⟨sl,e1⟩:=I.base.slot b o e n hb hx;obtain ⟨sl',e2⟩:=slot b _ (neL b o e) hb (neC b o e hx) e1 (I.base.free b o e n hx);exact ⟨sl',e2⟩
 ·obtain ⟨o',e1⟩:=I.base.there b o e hx;exact free b o' (neC b o e hx) e1 (I.base.free b o e n hx)
 ·obtain ⟨o',e1⟩:=I.base.there b o e hx;exact there b o' (neC b o e hx) e1
 ·obtain ⟨m1,e1⟩:=I.base.tbls b ps e;obtain ⟨m2,e2⟩:=tbls b _ e1;exact ⟨m1++m2,by rw [e2,Va]⟩
 ·obtain ⟨m,hn,hl⟩:=I.loc;refine ⟨m,ns m hn,λ i x v e1 e2 e3=>?_⟩;obtain ⟨u,r,l⟩:=hl i x v e1 e2 e3;refine ⟨u,r,?_⟩;rcases l with l | ⟨k,c,e,z⟩
  ·exact .inl l
  ·exact .inr ⟨k,c,e,cellK x c e _ z⟩
 ·obtain ⟨v,z⟩:=I.cell x c e;exact ⟨v,cellK x c e v z⟩
 ·obtain ⟨m,⟨o,_,_,ho,_⟩,_⟩:=I.loc;exact free _ o (λ z=>(hch _ z).2.1 rfl) ho I.free
 ·obtain ⟨v,o,ho,hd⟩:=I.cell x c e;exact free c o (λ z=>(hch c z).2.2.1 x c e rfl) ho (I.freeC x c e)
 ·obtain ⟨e,n,ne,nf,d⟩:=I.pin p hp;have nch:p.1∉ch:=λ z=>(hch p.1 z).2.2.2 p hp rfl;exact ⟨keep p.1 p.2 ne nf nch e n,free p.1 p.2 nch e n,ne,nf,d⟩
def Inv.un {t':Nat} (I:Inv X pins σ H s) (u:Un X.fs [] H H' s.heap h') (hok:HOk X.prog X.w H' h'):Inv X pins σ H' { s with heap:=h',toks:=t' }:=by
 obtain ⟨m,⟨o,es,ep,ho,r⟩,_⟩:=id I.loc;obtain ⟨sl,hL⟩:=u.any ho I.free (by simp);exact I.step (g':=s.gens) (d':=s.drawn) (ch:=[]) (λ _ z=>nomatch z) (λ b o _ hb _ e n=>u.keep b o e n hb (by simp)) (λ b o _ hb _ e n=>u.slot b o e n hb (by simp)) (λ b o _ e n=>u.free b o e n (by simp)) (λ b o _ e=>u.there b o e (by simp)) u.tups u.frzs u.tbls (λ m' hm=>by
  obtain ⟨o',es',ep',ho',r'⟩:=hm;rw [ho] at ho';cases ho';exact ⟨_,es',ep',hL,r'⟩) hok I.bare
def Inv.call {g':Array GenState}{t':Nat}{d':Drawn}{ch:List Addr} (I:Inv X pins σ H s) (u:Un (Cs X.stack) ch H H' s.heap h') (hok:HOk X.prog X.w H' h') (hg:Es g')
  (hch:∀ b∈ch,(b∈X.ex\/X.s₀.heap.objs.size<=b)/\b≠X.env.locals/\(∀ x c,X.env.cells.lookup x=some c->c≠b)/\∀ p∈X.pn++pins,p.1≠b):
  Inv X pins σ H' { s with heap:=h',gens:=g',drawn:=d',toks:=t' }:=by
 obtain ⟨m,⟨o,es,ep,ho,r⟩,_⟩:=id I.loc;obtain ⟨sl,hL⟩:=u.any ho I.free λ z=>(hch _ z).2.1 rfl;exact I.step (ch:=ch) hch (λ b o hL hb hc e n=>u.keep b o e n (λ z=>(ja8.mp (I.stkSub b z)).elim hL hb) hc) (λ b o _ _ hc e n=>u.any e n hc) (λ b o hc e n=>u.free b o e n hc) (λ b o hc e=>u.there b o e hc) u.tups u.frzs u.tbls (λ m' hm=>by
  obtain ⟨o',es',ep',ho',r'⟩:=hm;rw [ho] at ho';cases ho';exact ⟨_,es',ep',hL,r'⟩) hok hg
def Inv.turned {t':Nat}{it:Addr} (I:Inv X pins σ H s) (k:∀ b o,b≠it->s.heap.get? b=some o->h'.get? b=some o) (hn:H it=none) (hL:it≠X.env.locals)
  (h1:it∈X.ex\/X.s₀.heap.objs.size<=it) (h2:∀ x c,X.env.cells.lookup x=some c->c≠it) (h3:∀ p∈X.pn++pins,p.1≠it):Inv X pins σ H { s with heap:=h',toks:=t' }:=by
 have nit:∀ b u,H b=some u->b≠it:=λ b u e z=>by rw [z,hn] at e;cases e
 refine I.step (g':=s.gens) (d':=s.drawn) (ch:=[it]) (λ b hb=>?_) (λ b o _ _ hc e _=>k b o (λ z=>hc (by simp [z])) e) (λ b o _ _ hc e _=>⟨o.slots,k b o (λ z=>hc (by simp [z])) e⟩) (λ _ _ _ _ n=>n)
  (λ b o hc e=>⟨o,k b o (λ z=>hc (by simp [z])) e⟩) (λ _ _ e=>e) (λ _ _ _ e=>e) (λ b ps e=>⟨#[],by rw [e];simp⟩) (λ m hm=>?_) (λ b u e=>?_) I.bare
 ·have e:b=it:=by simpa using hb
  subst e;exact ⟨h1,hL,h2,h3⟩
 ·obtain ⟨o,es,ep,ho,r⟩:=hm;exact ⟨o,es,ep,k _ o (Br hL) ho,r⟩
 ·refine (I.hok b u e).stay (λ c v hc q=>k c v ?_ q) (λ _ q=>q) λ _ _ q=>q;rcases hc with z | z
  ·rw [z];exact nit b u e
  ·exact nit c _ z
def Inv.tok (I:Inv X pins σ H s) (t:Nat):Inv X pins σ H { s with toks:=t }:=I.un (h':=s.heap) (t':=t) Un.refl I.hok
def Inv.kept {t':Nat} (I:Inv X pins σ H s) (k:∀ b u,s.heap.get? b=some u->h'.get? b=some u):Inv X pins σ H { s with heap:=h',toks:=t' }:=I.un (Un.kept k) (I.hok.kept k)
def Inv.laid {a:Addr}{o:HO}{t':Nat} (I:Inv X pins σ H s) (k:∀ b u,s.heap.get? b=some u->h'.get? b=some u) (hp:s.heap.objs.size<=a) (new:zxv X.prog X.w (Am H a o) h' a o):
  Inv X pins σ (Am H a o) { s with heap:=h',toks:=t' }:=I.un (Un.laid k hp (I.hok.fresh hp)) (I.hok.laid k hp new)
def Inv.write {x e:Addr}{o:HO}{t':Nat} (I:Inv X pins σ H s) (mu:KO (H x)) (he:e=x\/H e=some (.own x)) (k:∀ b u,b≠e->s.heap.get? b=some u->h'.get? b=some u) (heo:∃ u,h'.get? e=some u)
  (new:zxv X.prog X.w (Am H x o) h' x o):Inv X pins σ (Am H x o) { s with heap:=h',toks:=t' }:=I.un (Un.write mu he k heo) (I.hok.write mu he k heo new)
def Inv.pins_of {pins':List (Addr×Obj)} (I:Inv X pins σ H s) (h:∀ p∈pins',s.heap.get? p.1=some p.2/\H p.1=none/\p.1≠X.env.locals/\p.1∉X.fs/\∀ v,p.2.data≠.cell v):Inv X pins' σ H s:=
 ⟨I.ok,I.os,I.bare,I.base,I.loc,I.cell,I.free,I.freeC,λ p hp=>(jc2.mp hp).elim (λ z=>I.pin p (AZ _ z)) (h p),I.hok,I.len⟩
def QR {N:List Str} (hN:N.Nodup) {i j:Nat}{x:Str} (a:N[i]?=some x) (b:N[j]?=some x):i=j:=by
 obtain ⟨h1,e1⟩:=jb0.mp a;obtain ⟨h2,e2⟩:=jb0.mp b;exact (List.getElem_inj hN).mp (e1.trans e2.symm)
def Qz {M:Model}{A:AJ}{E:Ac->Af->Prop}{i:Nat}{x:Str}{v:V}{u:Ac}{Q:Unit->Af->Prop} (I:Inv X pins σ H s) (hN:X.N.Nodup) (hi:X.N[i]?=some x) (hx:EF X.env.scope x) (r:RelV v u)
  (h:∀ s',Inv X pins (σ.set i (some v)) H s'->(∃ a,JO a s.heap s'.heap/\(a=X.env.locals\/X.env.cells.lookup x=some a))->Q () s') (hf:X.fn x=true\/X.env.scope.names.lookup x=some .local:=by first | exact .inl rfl | exact .inr rfl | assumption):Al M A (storeName X.env x u) Q E s:=by
 obtain ⟨m,hn,hl⟩:=id I.loc;have hcls:(X.env.scope.kind == .class || (X.env.scope.kind == .module && X.env.locals != X.env.globals))=false:=by rw [I.ok.kind];rfl
 have hiσ:i < σ.length:=by rw [I.len];exact (jb0.mp hi).1
 have cne:=I.cne;have tracked:∀ {a:Addr}{h':Heap},(∃ o,s.heap.get? a=some o/\H a=none)->JO a s.heap h'->HOk X.prog X.w H h':=λ {a h'} ha hs b ob e=>by
  obtain ⟨_,_,hfree⟩:=ha;refine (I.hok b ob e).stay (λ c w' hc q=>(hs.2 c ?_).trans q) (λ _ q=>q) λ _ _ q=>q;rintro rfl;rcases hc with rfl | hc
  ·rw [hfree] at e;cases e
  ·rw [hfree] at hc;cases hc
 rcases hx with hk | hk
 ·refine wpAny_storeName_local hk hn (λ h' hn' hs=>?_) hcls;obtain ⟨oL,_,_,hoL,_⟩:=id hn;refine h _ ⟨I.ok,I.os,I.bare,⟨λ b o e n hb hx=>?_,λ b o e n hb hx=>?_,I.base.free,λ b o e hx=>?_,I.base.tups,I.base.frzs,I.base.tbls⟩,⟨_,hn',λ j y v' e1 e2 e3=>?_⟩,λ y c e=>?_,I.free,I.freeC,λ p hp=>?_,tracked ⟨oL,hoL,I.free⟩ hs,by simpa using I.len⟩ ⟨_,hs,.inl rfl⟩
  ·exact (hs.2 b (BG (BA (A9 e) I.ok.above))).trans (I.base.keep b o e n hb hx)
  ·obtain ⟨sl,e1⟩:=I.base.slot b o e n hb hx;exact ⟨sl,(hs.2 b (BG (BA (A9 e) I.ok.above))).trans e1⟩
  ·obtain ⟨o',e1⟩:=I.base.there b o e hx;exact ⟨o',(hs.2 b (BG (BA (A9 e) I.ok.above))).trans e1⟩
  ·by_cases hj:j=i
   ·subst hj;rw [hi] at e1;cases e1;rw [Dh hiσ] at e2;cases e2;exact ⟨u,r,.inl ⟨hk,by simp⟩⟩
   ·rw [Ck (Br hj)] at e2;obtain ⟨u',r',q⟩:=hl j y v' e1 e2 e3;refine ⟨u',r',?_⟩;rcases q with ⟨k,e⟩ | ⟨k,c,e,z⟩
    ·refine .inl ⟨k,?_⟩
     have:y≠x:=λ e=>hj (QR hN e1 (e ▸ hi))
     simp [this,e]
    ·exact .inr ⟨k,c,e,z.sameBut hs (cne y c e)⟩
  ·obtain ⟨w',z⟩:=I.cell y c e;exact ⟨w',z.sameBut hs (cne y c e)⟩
  ·obtain ⟨e,n,ne,nf,d⟩:=I.pin p hp;exact ⟨(hs.2 p.1 ne).trans e,n,ne,nf,d⟩
 ·have hfn:X.fn x=true:=by
   rcases hf with z | z
   ·exact z
   ·rw [z] at hk;cases hk
  obtain ⟨c,hc⟩:=I.ok.has x (.inl hk);obtain ⟨w',z⟩:=I.cell x c hc;refine wpAny_storeName_cell I.ok.kind hk hc z (λ h' hc' hs=>?_);obtain ⟨oc,hoc,hocd⟩:=id z;refine h { s with heap:=h' } ⟨I.ok,I.os,I.bare,⟨λ b o e n hb hx=>?_,λ b o e n hb hx=>?_,I.base.free,λ b o e hx=>?_,I.base.tups,I.base.frzs,I.base.tbls⟩,⟨m,hn.sameBut hs (Br (cne x c hc)),λ j y v' e1 e2 e3=>?_⟩,λ y c' e=>?_,I.free,I.freeC,λ p hp=>?_,tracked ⟨oc,hoc,I.freeC x c hc⟩ hs,by simpa using I.len⟩ ⟨c,hs,.inr hc⟩
  ·exact (hs.2 b (BG (BA (A9 e) (I.ok.cab x c hfn hc)))).trans (I.base.keep b o e n hb hx)
  ·obtain ⟨sl,e1⟩:=I.base.slot b o e n hb hx;exact ⟨sl,(hs.2 b (BG (BA (A9 e) (I.ok.cab x c hfn hc)))).trans e1⟩
  ·obtain ⟨o',e1⟩:=I.base.there b o e hx;exact ⟨o',(hs.2 b (BG (BA (A9 e) (I.ok.cab x c hfn hc)))).trans e1⟩
  ·by_cases hj:j=i
   ·subst hj;rw [hi] at e1;cases e1;rw [Dh hiσ] at e2;cases e2;exact ⟨u,r,.inr ⟨.inl hk,c,hc,hc'⟩⟩
   ·rw [Ck (Br hj)] at e2;obtain ⟨u',r',q⟩:=hl j y v' e1 e2 e3;refine ⟨u',r',?_⟩;rcases q with q | ⟨k,c',e,z'⟩
    ·exact .inl q
    ·refine .inr ⟨k,c',e,z'.sameBut hs ?_⟩;rintro rfl;exact hj (QR hN e1 (I.ok.inj _ _ _ e hc ▸ hi))
  ·by_cases hcc:c'=c
   ·subst hcc;exact ⟨_,hc'⟩
   ·obtain ⟨w2,z2⟩:=I.cell y c' e;exact ⟨w2,z2.sameBut hs hcc⟩
  ·obtain ⟨e,n,ne,nf,d⟩:=I.pin p hp;refine ⟨(hs.2 p.1 ?_).trans e,n,ne,nf,d⟩;intro q;rw [q,hoc] at e;have q':oc=p.2:=Option.some.inj e;exact d w' (by rw [<- q'];exact hocd)
def Rh {M:Model}{A:AJ}{E:Ac->Af->Prop}{i:Nat}{x:Str}{v:V}{u:Ac}{Q:Unit->Af->Prop} (I:Inv X pins σ H s) (hN:X.N.Nodup) (hi:X.N[i]?=some x) (hx:EF X.env.scope x) (r:RelV v u)
  (h:∀ s',Inv X pins (σ.set i (some v)) H s'->Q () s') (hf:X.fn x=true\/X.env.scope.names.lookup x=some .local:=by first | exact .inl rfl | exact .inr rfl | assumption):Al M A (storeName X.env x u) Q E s:=
 Qz I hN hi hx r (λ s' I' _=>h s' I') hf
def Inv.call' {s':Af}{ch:List Addr} (I:Inv X pins σ H s) (ho:s'.os=s.os) (u:Un (Cs X.stack) ch H H' s.heap s'.heap) (hok:HOk X.prog X.w H' s'.heap) (hg:Es s'.gens)
  (hch:∀ b∈ch,(b∈X.ex\/X.s₀.heap.objs.size<=b)/\b≠X.env.locals/\(∀ x c,X.env.cells.lookup x=some c->c≠b)/\∀ p∈X.pn++pins,p.1≠b):Inv X pins σ H' s':=by
 obtain ⟨h',g',d',t',o'⟩:=s';have e:o'=s.os:=ho;subst e;exact I.call (g':=g') (t':=t') (d':=d') u hok hg hch
end
abbrev XK:=Ac->Option Addr->Hp->Prop
abbrev St:=List (Option V)
abbrev VK:=V->Hp->Prop
abbrev TE:=St->Hp->VK->Prop
abbrev TT:=St->Hp->(Bool->Hp->Prop)->Prop
abbrev TA:=St->Hp->(List V->Hp->Prop)->Prop
structure Ends where
 nx:St->Hp->Prop
 rt:VK
 bk:St->Hp->Prop:=λ _ _=>False
 ct:St->Hp->Prop:=λ _ _=>False
abbrev TS:=Ends->St->Hp->Prop
def EP (X:Cx) (pins:List (Addr×Obj)) (σ:St) (Q:VK) (u:Ac) (s':Af):Prop:=∃ v H',Inv X pins σ H' s'/\RelV v u/\Q v H'
def TP (X:Cx) (pins:List (Addr×Obj)) (σ:St) (Q:Bool->Hp->Prop) (b:Bool) (s':Af):Prop:=∃ H',Inv X pins σ H' s'/\Q b H'
def AP (X:Cx) (pins:List (Addr×Obj)) (σ:St) (Q:List V->Hp->Prop) (us:List Ac) (s':Af):Prop:=∃ vs H',Inv X pins σ H' s'/\Vals vs us/\Q vs H'
def SP (X:Cx) (pins:List (Addr×Obj)) (D:Ends) (f:Flow) (s':Af):Prop:=
 match f with
 | .next=>∃ σ' H',Inv X pins σ' H' s'/\D.nx σ' H'
 | .brk=>∃ σ' H',Inv X pins σ' H' s'/\D.bk σ' H'
 | .cont=>∃ σ' H',Inv X pins σ' H' s'/\D.ct σ' H'
 | .ret u=>∃ v σ' H',Inv X pins σ' H' s'/\RelV v u/\D.rt v H'
def PE (X:Cx) (e:Expr) (t:TE):Prop:=
 ∀ (pins:List (Addr×Obj)) (s:Af) (σ:St) (H:Hp) (Q:VK),Inv X pins σ H s->t σ H Q->Al (An X.prog X.w) X.A (eval e X.env) (EP X pins σ Q) X.xe s
def PT (X:Cx) (e:Expr) (t:TT):Prop:=
 ∀ (pins:List (Addr×Obj)) (s:Af) (σ:St) (H:Hp) (Q:Bool->Hp->Prop),Inv X pins σ H s->t σ H Q->Al (An X.prog X.w) X.A (isTrue e X.env (eval e X.env)) (TP X pins σ Q) X.xe s
def PW (X:Cx) (e:Expr) (t:TT):Prop:=
 ∀ (whole:Sem Ac) (pins:List (Addr×Obj)) (s:Af) (σ:St) (H:Hp) (Q:Bool->Hp->Prop),Inv X pins σ H s->t σ H Q->Al (An X.prog X.w) X.A (isTrue e X.env whole) (TP X pins σ Q) X.xe s
def PW.pt {X:Cx}{e:Expr}{t:TT} (h:PW X e t):PT X e t:=h _
def PA (X:Cx) (es:List Expr) (t:TA):Prop:=
 ∀ (pos:Pos) (pins:List (Addr×Obj)) (s:Af) (σ:St) (H:Hp) (Q:List V->Hp->Prop),Inv X pins σ H s->t σ H Q->Al (An X.prog X.w) X.A (spliced (BP pos (As es X.env))) (AP X pins σ Q) X.xe s
def PS (X:Cx) (st:Stmt) (t:TS):Prop:=
 ∀ (pins:List (Addr×Obj)) (s:Af) (σ:St) (H:Hp) (D:Ends),Inv X pins σ H s->t D σ H->Al (An X.prog X.w) X.A (exec st X.env) (SP X pins D) X.xe s
def DB (X:Cx) (st:List Stmt) (t:TS):Prop:=
 ∀ (pins:List (Addr×Obj)) (s:Af) (σ:St) (H:Hp) (D:Ends),Inv X pins σ H s->t D σ H->Al (An X.prog X.w) X.A (execs st X.env) (SP X pins D) X.xe s
def Aw {α:Type}{t:Sem α}{Q Q':α->Af->Prop}{M:Model}{A:AJ}{E:Ac->Af->Prop}{s:Af} (h:Al M A t Q E s) (hQ:∀ a s,Q a s->Q' a s):Al M A t Q' E s:=Et h hQ λ _ _ x=>x
section
variable {X:Cx}
def jB {a b:Expr}{ta tb:TE} (ha:PE X a ta) (hb:PE X b tb) {pins:List (Addr×Obj)}{s:Af}{σ:St}{H:Hp}{R:V->V->Hp->Prop} (I:Inv X pins σ H s) (h:ta σ H λ x H1=>tb σ H1 λ y H2=>R x y H2)
  {α:Type}{Q:α->Af->Prop}{f:Ac->Ac->Sem α}
  (hf:∀ v u s2 x y H2,Inv X pins σ H2 s2->RelV x v->RelV y u->R x y H2->Al (An X.prog X.w) X.A (f v u) Q X.xe s2):
  Al (An X.prog X.w) X.A (eval a X.env) (λ v s₁=>Al (An X.prog X.w) X.A (eval b X.env) (λ u s₂=>Al (An X.prog X.w) X.A (f v u) Q X.xe s₂) X.xe s₁) X.xe s:=by
 refine Aw (ha pins s σ H _ I h) λ v s1 ⟨x,H1,I1,r1,q1⟩=>?_;refine Aw (hb pins s1 σ H1 _ I1 q1) λ u s2 ⟨y,H2,I2,r2,q2⟩=>?_;exact hf v u s2 x y H2 I2 r1 r2 q2
def BE (i:Nat):TE:=λ σ H Q=>∃ v,σ[i]?=some (some v)/\Q v H
def tC (v:V):TE:=λ _ H Q=>Q v H
def WX {i:Nat}{x:Str}{pos:Pos} (hN:X.N[i]?=some x) (hv:Hg X.env.scope x) (hd:(x == ("__debug__" : Str))=false:=by decide) (hcd:(x == ("__classdict__" : Str))=false:=by decide):PE X (.Name x pos) (BE i):=by
 intro pins s σ H Q I h;obtain ⟨v,e,h⟩:=h;obtain ⟨m,hn,hl⟩:=I.loc;obtain ⟨u,r,l⟩:=hl i x v hN e hv;have fin:EP X pins σ Q u s:=⟨v,H,I,r,h⟩
 rcases l with ⟨hk,hm⟩ | ⟨hk,c,hc,hcell⟩
 ·exact wpAny_Name (wpAny_loadName_local I.ok.kind hk hn hm fin) hd
 ·rcases hk with hk | hk
  ·exact wpAny_Name (wpAny_loadName_cell I.ok.kind hk hc hcell fin) hd
  ·exact wpAny_Name (wpAny_loadName_free I.ok.kind hk hc hcell fin hcd) hd
def Pt {i j pos}:PE X (.Constant (.int i) j pos) (tC (.int i)):=λ _ _ _ H _ I h=>wpAny_Constant_int ⟨.int i,H,I.tok _,⟨_,rfl⟩,h⟩
def Wi {b j pos}:PE X (.Constant (.bool b) j pos) (tC (.bl b)):=λ _ _ _ H _ I h=>Constant_bool ⟨.bl b,H,I,rfl,h⟩
def WU {j pos}:PE X (.Constant .none j pos) (tC .non):=λ _ _ _ H _ I h=>Constant_none ⟨.non,H,I,rfl,h⟩
def WW {x j pos}:PE X (.Constant (.str x) j pos) (tC (.str x)):=λ _ _ _ H _ I h=>Calls.Constant_str ⟨.str x,H,I.tok _,⟨_,rfl⟩,h⟩
def Gl (X:Cx) (x:Str):Prop:=X.env.kindOf x=some .globalImplicit
def NM {E:Ac->Af->Prop}{pins:List (Addr×Obj)}{s:Af}{σ:St}{H:Hp}{x:Str}{u:Ac}{pos:Pos}{Q:Ac->Af->Prop} (I:Inv X pins σ H s) (hg:Gl X x) (hm:X.mg x=some u) (h:Q u s)
  (hd:(x == ("__debug__" : Str))=false:=by decide):Al (An X.prog X.w) X.A (eval (.Name x pos) X.env) Q E s:=
 RH I.ok.kind hg (Calls.loadGlobal_global (by rw [I.ok.glob];exact I.mod.glob.keeps I.bk) hm h) hd
def Fq {E:Ac->Af->Prop}{pins:List (Addr×Obj)}{s:Af}{σ:St}{H:Hp}{x:Str}{u:Ac}{pos:Pos}{Q:Ac->Af->Prop} (I:Inv X pins σ H s) (hg:Gl X x) (hm:X.mg x=none) (hv:Hy x=some u) (h:Q u s)
  (hn:x ≠ "__name__" := by decide) (hd:(x == ("__debug__" : Str))=false:=by decide):Al (An X.prog X.w) X.A (eval (.Name x pos) X.env) Q E s:=by
 obtain ⟨mb,h1,h2⟩:=I.mod.blt;exact RH I.ok.kind hg (Calls.loadGlobal_builtin (by rw [I.ok.glob];exact I.mod.glob.keeps I.bk) hm (by rw [I.ok.blt];exact h1.keeps I.bk) ((h2 x hn).trans hv) h) hd
def NR {x:Str}{v:V}{u:Ac}{pos:Pos} (hg:Gl X x) (hm:X.mg x=some u) (r:RelV v u) (hd:(x == ("__debug__" : Str))=false:=by decide):PE X (.Name x pos) (tC v):=
 λ _ _ _ H _ I h=>NM I hg hm ⟨v,H,I,r,h⟩ hd
def TR {x:Str}{v:V}{u:Ac}{pos:Pos} (hg:Gl X x) (hm:X.mg x=none) (hv:Hy x=some u) (r:RelV v u) (hn:x ≠ "__name__" := by decide) (hd:(x == ("__debug__" : Str))=false:=by decide):PE X (.Name x pos) (tC v):=
 λ _ _ _ H _ I h=>Fq I hg hm hv ⟨v,H,I,r,h⟩ hn hd
variable {a b:Expr}{ta tb:TE}{pos:Pos}
def PC (X:Cx) (op:DF) (a b:Expr) (t:TE):Prop:=
 ∀ (pins:List (Addr×Obj)) (s:Af) (σ:St) (H:Hp) (Q:VK),Inv X pins σ H s->t σ H Q ->
  Al (An X.prog X.w) X.A (eval a X.env) (λ v s₁=>Al (An X.prog X.w) X.A (eval b X.env) (λ u s₂=>Al (An X.prog X.w) X.A (Cb op v u) (EP X pins σ Q) X.xe s₂) X.xe s₁) X.xe s
def GC (b:Expr) {op:DF} (h:op≠.In) (h2:op≠.NotIn):IP op b=false:=by
 have e1:(op == CmpOp.In)=false:=by cases op <;> first | rfl | exact absurd rfl h
 have e2:(op == CmpOp.NotIn)=false:=by cases op <;> first | rfl | exact absurd rfl h2
 cases b <;> simp [IP,e1,e2]
def tB (t:TE):TT:=λ σ H Q=>t σ H λ x H1=>∃ c,x=.bl c/\Q c H1
def Xf {e:Expr}{t:TE} (h:PE X e t) (he:∀ whole,isTrue e X.env whole=(do let v<-whole;standAt e.pos;holding [v] (truthy v)):=by intro _;rfl):PT X e (tB t):=by
 intro pins s σ H Q I hw;refine isTrue_plain (Aw (h pins s σ H _ I hw) λ v s1 ⟨x,H1,I1,r1,q1⟩=>?_) (he _);obtain ⟨d,rfl,q⟩:=q1;cases r1;exact FJ ⟨H1,I1,q⟩
variable {tA tB':TT}{rest:List Expr}
def HH (t u:TT):TT:=λ σ H Q=>t σ H λ c H1=>if c=true then u σ H1 Q else Q false H1
def OD (t u:TT):TT:=λ σ H Q=>t σ H λ c H1=>if c=true then Q true H1 else u σ H1 Q
def HG (t:TT):TT:=λ σ H Q=>t σ H λ c H1=>Q (!c) H1
theorem YF (ha:PT X a tA):PW X (.BoolOp .And [a] pos) tA:=by
 intro wh pins s σ H Q I h;refine isTrue_and (Aw (ha pins s σ H Q I h) λ c s1 e=>?_);cases c with
 | true=>exact isTrue_and_nil e
 | false=>exact e
theorem Xh (ha:PT X a tA):PW X (.BoolOp .Or [a] pos) tA:=by
 intro wh pins s σ H Q I h;refine isTrue_or (Aw (ha pins s σ H Q I h) λ c s1 e=>?_);cases c with
 | false=>exact isTrue_or_nil e
 | true=>exact e
theorem Xg (ha:PT X a tA) (hb:PW X (.BoolOp .And (b::rest) pos) tB'):PW X (.BoolOp .And (a::b::rest) pos) (HH tA tB'):=by
 intro wh pins s σ H Q I h;refine isTrue_and (Aw (ha pins s σ H _ I h) λ c s1 ⟨H1,I1,q1⟩=>?_);cases c with
 | true=>exact hb wh pins s1 σ H1 Q I1 q1
 | false=>exact ⟨H1,I1,q1⟩
theorem Wm (ha:PT X a tA) (hb:PW X (.BoolOp .Or (b::rest) pos) tB'):PW X (.BoolOp .Or (a::b::rest) pos) (OD tA tB'):=by
 intro wh pins s σ H Q I h;refine isTrue_or (Aw (ha pins s σ H _ I h) λ c s1 ⟨H1,I1,q1⟩=>?_);cases c with
 | true=>exact ⟨H1,I1,q1⟩
 | false=>exact hb wh pins s1 σ H1 Q I1 q1
def Xe (ha:PT X a tA):PT X (.UnaryOp .Not a pos) (HG tA):=by
 intro pins s σ H Q I h;exact isTrue_not (ha pins s σ H (λ c H1=>Q (!c) H1) I h)
def Sg (ta tb:TE):TE:=λ σ H Q=>ta σ H λ x H1=>∃ c,x=.bl c/\if c=true then tb σ H1 Q else Q (.bl false) H1
def JX (ta tb:TE):TE:=λ σ H Q=>ta σ H λ x H1=>∃ c,x=.bl c/\if c=true then Q (.bl true) H1 else tb σ H1 Q
def Sj (ta:TE):TE:=λ σ H Q=>ta σ H λ x H1=>∃ c,x=.bl c/\Q (.bl (!c)) H1
def SI {op}{t:TE} (h:PE X a t):PE X (.BoolOp op [a] pos) t:=λ pins s σ H Q I hw=>BoolOp_one (h pins s σ H Q I hw)
theorem WS (ha:PE X a ta) (hb:PE X (.BoolOp .And (b::rest) pos) tb):PE X (.BoolOp .And (a::b::rest) pos) (Sg ta tb):=by
 intro pins s σ H Q I h;refine BoolOp_and (Aw (ha pins s σ H _ I h) λ v s1 ⟨x,H1,I1,r1,q1⟩=>?_);obtain ⟨c,rfl,q1⟩:=q1;cases r1;refine FJ ?_;cases c with
 | true=>exact hb pins s1 σ H1 Q I1 q1
 | false=>exact ⟨.bl false,H1,I1,rfl,q1⟩
theorem Wj (ha:PE X a ta) (hb:PE X (.BoolOp .Or (b::rest) pos) tb):PE X (.BoolOp .Or (a::b::rest) pos) (JX ta tb):=by
 intro pins s σ H Q I h;refine BoolOp_or (Aw (ha pins s σ H _ I h) λ v s1 ⟨x,H1,I1,r1,q1⟩=>?_);obtain ⟨c,rfl,q1⟩:=q1;cases r1;refine FJ ?_;cases c with
 | false=>exact hb pins s1 σ H1 Q I1 q1
 | true=>exact ⟨.bl true,H1,I1,rfl,q1⟩
def WV (ha:PE X a ta):PE X (.UnaryOp .Not a pos) (Sj ta):=by
 intro pins s σ H Q I h;refine UnaryOp_ (Aw (ha pins s σ H _ I h) λ v s1 ⟨x,H1,I1,r1,q1⟩=>?_);obtain ⟨c,rfl,q1⟩:=q1;cases r1;exact not_of (FJ ⟨.bl (!c),H1,I1,rfl,q1⟩)
def RQ (t:TT) (ta tb:TE):TE:=λ σ H Q=>t σ H λ c H1=>if c=true then ta σ H1 Q else tb σ H1 Q
theorem ZU {c:Expr} (hc:PT X c tA) (ha:PE X a ta) (hb:PE X b tb):PE X (.IfExp c a b pos) (RQ tA ta tb):=by
 intro pins s σ H Q I h;refine wpAny_IfExp (Aw (hc pins s σ H _ I h) λ d s1 ⟨H1,I1,q1⟩=>?_);cases d with
 | true=>exact ha pins s1 σ H1 Q I1 q1
 | false=>exact hb pins s1 σ H1 Q I1 q1
end
def AN (K:PySem.W.Frag) (H:Hp) (a:Addr) (xs:List V):Prop:=
 Rd H a (.lst xs) \/
  ∃ (o:Obj) (its:Array Ac) (n:Nat),K.lookup a=some o/\o.cls=.type "list" /\ o.dict=none/\o.data=.seq its n/\its.size<=Ap/\Vals xs its.toList
def SqT (K:PySem.W.Frag) (H:Hp) (a:Addr) (xs:List V):Prop:=
 Rd H a (.tup xs) \/
  ∃ (o:Obj) (its:Array Ac) (n:Nat),K.lookup a=some o/\o.cls=.type "tuple" /\ o.data=.seq its n/\its.size<=Ap/\Vals xs its.toList
def Qh:Ac->Option V
 | .none=>some .non
 | .bool b=>some (.bl b)
 | .int i _=>some (.int i)
 | .str x _=>some (.str x)
 | .bytes b _=>some (.byt b)
 | .float b _=>some (.flt b)
 | .ref a=>some (.ref a)
 | .type n=>some (.ty n)
 | _=>none
theorem RelV.abs {x:V}{u:Ac} (r:RelV x u):Qh u=some x:=by
 cases x with
 | non=>cases r;rfl
 | bl _=>cases r;rfl
 | int _=>obtain ⟨t,rfl⟩:=r;rfl
 | str _=>obtain ⟨t,rfl⟩:=r;rfl
 | byt _=>obtain ⟨t,rfl⟩:=r;rfl
 | flt _=>obtain ⟨t,rfl⟩:=r;rfl
 | ref _=>cases r;rfl
 | ty _=>cases r;rfl
def RelV.inj {x y:V}{u:Ac} (r:RelV x u) (q:RelV y u):x=y:=Option.some.inj (r.abs.symm.trans q.abs)
theorem Vals.inj:∀ {xs ys:List V}{us:List Ac},Vals xs us->Vals ys us->xs=ys
 | _,_,_,.nil,.nil=>rfl
 | _,_,_,.cons r t,.cons r' t'=>by rw [r.inj r',Vals.inj t t']
section
variable {X:Cx}{pins:List (Addr×Obj)}{σ:St}{H:Hp}{s:Af}{a:Addr}{xs ys:List V}
def SqT.of {K:PySem.W.Frag} (h:H a=some (.tup xs)):SqT K H a xs:=.inl (.inl h)
def Inv.list (I:Inv X pins σ H s) (h:AN X.K H a xs):∃ its:List Ac,Vals xs its/\PlainL s.heap a its.toArray/\xs.length<=Ap:=by
 rcases h with h | ⟨o,its,n,hk,hc,hd,hs,hz,r⟩
 ·obtain ⟨z,its,n,r,e⟩:=h.ok I.hok;exact ⟨its,r,⟨_,n,e,rfl,rfl,rfl⟩,z⟩
 ·refine ⟨its.toList,r,⟨o,n,I.kIn a o hk,hc,hd,by simpa using hs⟩,?_⟩;have e:=r.length;simp only [Ia] at e;omega
def Inv.tuple (I:Inv X pins σ H s) (h:SqT X.K H a xs):∃ its:List Ac,Vals xs its/\IsTup s.heap a its.toArray/\xs.length<=Ap:=by
 rcases h with h | ⟨o,its,n,hk,hc,hs,hz,r⟩
 ·obtain ⟨z,its,r,p⟩:=h.ok I.hok;exact ⟨its,r,p,z⟩
 ·refine ⟨its.toList,r,⟨o,I.kIn a o hk,hc,n,by simpa using hs⟩,?_⟩;have e:=r.length;simp only [Ia] at e;omega
def Inv.list_inj (I:Inv X pins σ H s) (h:AN X.K H a xs) (h':AN X.K H a ys):xs=ys:=by
 obtain ⟨its,r,⟨o,n,e,_,_,d⟩,_⟩:=I.list h;obtain ⟨its',r',⟨o',n',e',_,_,d'⟩,_⟩:=I.list h';rw [e] at e';cases e';rw [d] at d';injection d' with d1 _
 have:its=its':=by simpa using congrArg U8 d1
 subst this;exact r.inj r'
def Inv.tuple_inj (I:Inv X pins σ H s) (h:SqT X.K H a xs) (h':SqT X.K H a ys):xs=ys:=by
 obtain ⟨its,r,⟨o,e,_,n,d⟩,_⟩:=I.tuple h;obtain ⟨its',r',⟨o',e',_,n',d'⟩,_⟩:=I.tuple h';rw [e] at e';cases e';rw [d] at d';injection d' with d1 _
 have:its=its':=by simpa using congrArg U8 d1
 subst this;exact r.inj r'
end
section
variable {X:Cx}{pins:List (Addr×Obj)}{σ:St}{H:Hp}{s:Af}{E:Ac->Af->Prop}
end
section
variable {X:Cx}{st:Stmt}{rest:List Stmt}{t u:TS}{e:Expr}{te:TE}{pos:Pos}
def Si:TS:=λ D σ H=>D.nx σ H
def JW (t u:TS):TS:=λ D σ H=>t { D with nx:=u D } σ H
def YA:DB X [] Si:=λ _ _ σ H _ I h=>LJ ⟨σ,H,I,h⟩
theorem ZY (h1:PS X st t) (h2:DB X rest u):DB X (st::rest) (JW t u):=by
 intro pins s σ H D I h;refine wpAny_execs_cons (Aw (h1 pins s σ H { D with nx:=u D } I h) λ f s1 q=>?_);cases f with
 | next=>
  obtain ⟨σ',H',I',q⟩:=q;exact h2 pins s1 σ' H' D I' q
 | ret v=>exact q
 | brk=>exact q
 | cont=>exact q
theorem YB (h1:PS X st t):DB X [st] t:=by
 intro pins s σ H D I h;refine wpAny_execs_cons (Aw (h1 pins s σ H D I h) λ f s1 q=>?_);cases f with
 | next=>exact LJ q
 | ret v=>exact q
 | brk=>exact q
 | cont=>exact q
def Inv.quiet {pins:List (Addr×Obj)}{σ:St}{H:Hp}{s:Af} (I:Inv X pins σ H s):interactive X.env=false:=by simp [interactive,I.ok.kind]
def M4 (te:TE):TS:=λ D σ H=>te σ H λ _ H1=>D.nx σ H1
def NT (he:PE X e te) (hs:swapsWith e none pos.line X.env=pure false:=by rfl):PS X (.Expr e pos) (M4 te):=by
 intro pins s σ H D I h;exact wpAny_Expr_any (Aw (he pins s σ H _ I h) λ v s1 ⟨x,H1,I1,r1,q1⟩=>⟨σ,H1,I1,q1⟩) I.quiet hs
def HE (te:TE):TS:=λ D σ H=>te σ H D.rt
def SK (he:PE X e te):PS X (.Return (some e) pos) (HE te):=by
 intro pins s σ H D I h;exact wpAny_Return_some (Aw (he pins s σ H _ I h) λ v s1 ⟨x,H1,I1,r1,q1⟩=>⟨x,σ,H1,I1,r1,q1⟩)
def JZ (c:TT) (t u:TS):TS:=λ D σ H=>c σ H λ b H1=>if b=true then t D σ H1 else u D σ H1
theorem Wl {c:Expr}{a b:List Stmt}{tc:TT} (hc:PT X c tc) (ha:DB X a t) (hb:DB X b u):PS X (.If c a b pos) (JZ tc t u):=by
 intro pins s σ H D I h;refine wpAny_If (Aw (hc pins s σ H _ I h) λ d s1 ⟨H1,I1,q1⟩=>?_);cases d with
 | true=>exact ha pins s1 σ H1 D I1 q1
 | false=>exact hb pins s1 σ H1 D I1 q1
def Py:TS:=λ _ _ _=>False
def Ra:PS X st Py:=λ _ _ _ _ _ _ h=>h.elim
end
abbrev TG:=V->St->Hp->(St->Hp->Prop)->Prop
abbrev Hh:=List V->St->Hp->(St->Hp->Prop)->Prop
def PG (X:Cx) (target:Expr) (t:TG):Prop:=
 ∀ (pins:List (Addr×Obj)) (s:Af) (σ:St) (H:Hp) (v:V) (u:Ac) (Q:St->Hp->Prop),Inv X pins σ H s->RelV v u->t v σ H Q ->
  Al (An X.prog X.w) X.A (FF target X.env u) (λ _ s'=>∃ σ' H',Inv X pins σ' H' s'/\Q σ' H') X.xe s
def Jn (X:Cx) (ts:List Expr) (t:Hh):Prop:=
 ∀ (pins:List (Addr×Obj)) (s:Af) (σ:St) (H:Hp) (vs:List V) (us:List Ac) (Q:St->Hp->Prop),Inv X pins σ H s->Vals vs us->t vs σ H Q ->
  Al (An X.prog X.w) X.A (assignInOrder ((D9 ts X.env).map (·.2)) us) (λ _ s'=>∃ σ' H',Inv X pins σ' H' s'/\Q σ' H') X.xe s
abbrev DR:=V->V->V->Hp->(Hp->Prop)->Prop
def PSet (X:Cx) (t:DR):Prop:=
 ∀ (pins:List (Addr×Obj)) (s:Af) (σ:St) (H:Hp) (o i v:V) (ov iv u:Ac) (Q:Hp->Prop),Inv X pins σ H s->RelV o ov->RelV i iv->RelV v u->t o i v H Q ->
  Al (An X.prog X.w) X.A (setItem ov iv u) (λ _ s'=>∃ H',Inv X pins σ H' s'/\Q H') X.xe s
section
variable {X:Cx}{pos:Pos}
def ET (i:Nat):TG:=λ v σ H Q=>Q (σ.set i (some v)) H
def Lr {i:Nat}{x:Str} (hN:X.N.Nodup) (hi:X.N[i]?=some x) (hx:EF X.env.scope x) (hf:X.fn x=true\/X.env.scope.names.lookup x=some .local:=by first | exact .inl rfl | exact .inr rfl | assumption):PG X (.Name x pos) (ET i):=by
 intro pins s σ H v u Q I r h;exact wpAny_assign_Name (Rh I hN hi hx r (λ s' I'=>⟨_,H,I',h⟩) hf)
def KA:Hh:=λ vs σ H Q=>vs=[]/\Q σ H
def RV (t:TG) (u:Hh):Hh:=λ vs σ H Q=>∃ v r,vs=v::r/\t v σ H λ σ' H'=>u r σ' H' Q
def TH:Jn X [] KA:=by
 intro pins s σ H vs us Q I r h;obtain ⟨e,h⟩:=h;subst e;cases r;exact assignInOrder_nil ⟨σ,H,I,h⟩
theorem QY {e:Expr}{es:List Expr}{t:TG}{u:Hh} (h1:PG X e t) (h2:Jn X es u)
  (hs:(D9 (e::es) X.env).map (·.2)=FF e X.env::(D9 es X.env).map (·.2):=by rfl):Jn X (e::es) (RV t u):=by
 intro pins s σ H vs us Q I r h;obtain ⟨v,vr,e1,h⟩:=h;subst e1;cases r with
 | cons r rr=>
  rw [hs];refine assignInOrder_cons (Aw (h1 pins s σ H _ _ _ I r h) λ _ s1 ⟨σ1,H1,I1,q1⟩=>?_);exact h2 pins s1 σ1 H1 _ _ Q I1 rr q1
def Ig (K:PySem.W.Frag) (n:Nat) (t:Hh):TG:=λ v σ H Q=>∃ a xs,v=.ref a/\SqT K H a xs/\xs.length=n/\t xs σ H Q
def Pl {es:List Expr}{k:Nat}{t:Hh}{n:Nat} (hc:X.calm=true) (h:Jn X es t)
  (hn:(D9 es X.env).length=n:=by rfl) (hst:(D9 es X.env).findIdx? (·.1)=none:=by rfl):PG X (.Tuple es k pos) (Ig X.K n t):=by
 intro pins s σ H v u Q I r hw;obtain ⟨a,xs,e1,hq,hl,hw⟩:=hw;subst e1;cases r;obtain ⟨its,rv,ht,hz⟩:=I.tuple hq;refine assign_Tuple_tuple (I.ok.hd hc) ht (by simp [hn,<- hl,rv.length]) hst λ h' hx=>?_;have I1:Inv X pins σ H { s with heap:=h' }:=I.kept (t':=s.toks) λ b o e=>hx b o (BG (A9 e)) e;exact h pins _ σ H xs _ Q I1 (by simpa using rv) hw
def E9 (to ti:TE) (t:DR):TG:=λ v σ H Q=>to σ H λ o H1=>ti σ H1 λ i H2=>t o i v H2 λ H3=>Q σ H3
def Lz {o i:Expr}{to ti:TE}{t:DR} (ho:PE X o to) (hi:PE X i ti) (hs:PSet X t)
  (ha:∀ v,FF (.Subscript o i pos) X.env v=(do
   let ov<-holding [v] (eval o X.env);let iv<-holding [v,ov] (eval i X.env)
   standAt pos
   holding [v,ov,iv] (setItem ov iv v)
   release [v,ov,iv] []):=by intro _;rfl):PG X (.Subscript o i pos) (E9 to ti t):=by
 intro pins s σ H v u Q I r h;rw [ha];refine Ak (Hz (Aw (ho pins s σ H _ I h) λ ov s1 ⟨x,H1,I1,r1,q1⟩=>?_));refine Ak (Hz (Aw (hi pins s1 σ H1 _ I1 q1) λ iv s2 ⟨y,H2,I2,r2,q2⟩=>?_));refine Ak (LF (Ak (Hz (Aw (hs pins s2 σ H2 x y v ov iv u _ I2 r1 r2 r q2) λ _ s3 ⟨H3,I3,q3⟩=>?_))));exact wpAny_release ⟨σ,H3,I3,q3⟩
def CK (te:TE) (g:TG):TS:=λ D σ H=>te σ H λ x H1=>g x σ H1 D.nx
def JA {tg e:Expr}{te:TE}{g:TG} (he:PE X e te) (hg:PG X tg g) (hs:swapsWithSole [tg] e pos.line X.env=pure false:=by rfl) (hw:swappedStores [tg] e X.env=pure none:=by rfl)
  (h1:(D9 [tg] X.env).map (·.2)=[FF tg X.env]:=by rfl):PS X (.Assign [tg] e pos) (CK te g):=by
 intro pins s σ H D I h;refine wpAny_Assign_stores (Aw (he pins s σ H _ I h) λ v s1 ⟨x,H1,I1,r1,q1⟩=>?_) hs hw;rw [h1];exact Aw (hg pins s1 σ H1 x v _ I1 r1 q1) λ _ s2 q=>q
def SN {i:Nat}{x:Str}{e:Expr}{te:TE}{pos':Pos} (hN:X.N.Nodup) (hi:X.N[i]?=some x) (hx:EF X.env.scope x) (he:PE X e te) (hs:swapsWith e (some (.Name x pos')) pos.line X.env=pure false:=by rfl) (hf:X.fn x=true\/X.env.scope.names.lookup x=some .local:=by first | exact .inl rfl | exact .inr rfl | assumption):
  PS X (.Assign [.Name x pos'] e pos) (CK te (ET i)):=by
 intro pins s σ H D I h;refine wpAny_Assign_Name (Aw (he pins s σ H _ I h) λ v s1 ⟨y,H1,I1,r1,q1⟩=>?_) hs;exact Rh I1 hN hi hx r1 (λ s2 I2=>⟨_,H1,I2,q1⟩) hf
end
section
variable {X:Cx}{pos:Pos}
def SX (c:TT) (tb:TS):TS:=λ D σ H=>∃ W:Nat->St->Hp->Prop,(∃ m,W m σ H)/\∀ m σ H,W m σ H ->
 c σ H λ b H1=>if b=true then ∃ N:St->Hp->Prop,(∀ σ' H',N σ' H'->∃ m',m' < m/\W m' σ' H')/\tb { D with nx:=N,ct:=N,bk:=D.nx } σ H1 else D.nx σ H1
theorem ZX {c:Expr}{body:List Stmt}{tc:TT}{tb:TS} (hp:JM (An X.prog X.w) X.A X.env X.xe) (hc:PT X c tc) (hb:DB X body tb):PS X (.While c body [] pos) (SX tc tb):=by
 intro pins s σ H D I h;obtain ⟨W,⟨m0,w0⟩,turn⟩:=h;refine wpAny_While (codeAny_whileLoop (λ n s'=>∃ σ' H',Inv X pins σ' H' s'/\W n σ' H') ?_ m0 ⟨σ,H,I,w0⟩);rintro n s1 ⟨σ1,H1,I1,w1⟩;refine HB hp (Aw (hc pins s1 σ1 H1 _ I1 (turn n σ1 H1 w1)) λ b s2 ⟨H2,I2,q2⟩=>?_);cases b with
 | true=>
  obtain ⟨N,hN,q2⟩:=q2;rw [if_pos rfl];refine HB hp (Aw (hb pins s2 σ1 H2 _ I2 q2) λ f s3 q3=>?_);cases f with
  | next=>
   obtain ⟨σ3,H3,I3,n3⟩:=q3;obtain ⟨m',hm,w3⟩:=hN σ3 H3 n3;exact ⟨m',hm,σ3,H3,I3,w3⟩
  | cont=>
   obtain ⟨σ3,H3,I3,n3⟩:=q3;obtain ⟨m',hm,w3⟩:=hN σ3 H3 n3;exact ⟨m',hm,σ3,H3,I3,w3⟩
  | brk=>exact q3
  | ret v=>exact q3
 | false=>
  rw [if_neg C8];exact LJ ⟨σ1,H2,I2,q2⟩
end
structure It where
 go:Nat->Hp->Prop
 yld:Nat->Hp->V->Hp->Prop
 stop:Nat->Hp->Prop
def BI (X:Cx) (pins:List (Addr×Obj)) (H:Hp) (b:Addr):Prop:=
 H b=none/\b≠X.env.locals/\b∉X.fs/\(b∈X.ex\/X.s₀.heap.objs.size<=b)/\(∀ x c,X.env.cells.lookup x=some c->c≠b)/\∀ p∈X.pn++pins,p.1≠b
def Inv.fpOk {X:Cx}{pins:List (Addr×Obj)}{σ:St}{H H':Hp}{s:Af}{b:Addr} (I:Inv X pins σ H s) (hb:s.heap.objs.size<=b) (hn:H' b=none):BI X pins H' b:=by
 refine ⟨hn,DL (BA I.lt hb),I.nofs hb,.inr (Co I.sz hb),λ x c e z=>?_,λ p hp z=>?_⟩
 ·obtain ⟨v,q⟩:=I.cell x c e;exact absurd (BA q.lt (by rw [z];exact hb)) (Ed _)
 ·exact absurd (BA (A9 (I.pin p hp).1) (by rw [z];exact hb)) (Ed _)
structure Turn (P:A0) (w:Ay) (K:PySem.W.Frag) (tg:Expr) (J:It) (fp:List Addr) (it:Addr) (tn:Nat->Heap->Prop):Prop where
 mem:it∈fp
 obj:∀ i h,tn i h->∀ b∈fp,∃ o,h.get? b=some o/\∀ v,o.data≠.cell v
 keep:∀ i h h',tn i h->(∀ b∈fp,∀ o,h.get? b=some o->h'.get? b=some o)->tn i h'
 item:∀ (X:Cx),X.prog=P->X.w=w->X.K=K->X.calm=true->∀ (i:Nat) (pins:List (Addr×Obj)) (s:Af) (σ:St) (H:Hp) (E:Ac->Af->Prop),Inv X pins σ H s->(∀ b∈fp,BI X pins H b)->tn i s.heap->J.go i H ->
  Al (An P w) X.A (pyNext (.ref it)) (λ r s1=>∃ u,r=some u /\
   Al (An P w) X.A (LI tg (.ref it) u) (λ _ s2=>∃ x H',Inv X pins σ H' s2/\RelV x u/\J.yld i H x H'/\tn (i + 1) s2.heap/\∀ b∈fp,H' b=none) E s1) E s
 done:∀ (X:Cx),X.prog=P->X.w=w->X.K=K->X.calm=true->∀ (i:Nat) (pins:List (Addr×Obj)) (s:Af) (σ:St) (H:Hp) (E:Ac->Af->Prop),Inv X pins σ H s->(∀ b∈fp,BI X pins H b)->tn i s.heap->J.stop i H ->
  Al (An P w) X.A (pyNext (.ref it)) (λ r s1=>r=none/\Inv X pins σ H s1) E s
 self:∀ (A:AJ) (i:Nat) (s:Af) (Q:Ac->Af->Prop) (E:Ac->Af->Prop),tn i s.heap->Q (.ref it) s->Al (An P w) A (pyIter (.ref it)) Q E s
abbrev TI:=St->Hp->(It->Hp->Prop)->Prop
def Vt (X:Cx) (pins:List (Addr×Obj)) (σ:St) (tg:Expr) (R:It->Hp->Prop) (itv:Ac) (s2:Af):Prop:=
 ∃ (it:Addr) (fp:List Addr) (tn:Nat->Heap->Prop) (J:It) (H':Hp),itv=.ref it/\Inv X pins σ H' s2/\Turn X.prog X.w X.K tg J fp it tn/\tn 0 s2.heap/\(∀ b∈fp,BI X pins H' b)/\R J H'
def PI (X:Cx) (tg iter:Expr) (wi:TI):Prop:=
 ∀ (pins:List (Addr×Obj)) (s:Af) (σ:St) (H:Hp) (R:It->Hp->Prop),Inv X pins σ H s->wi σ H R ->
  Al (An X.prog X.w) X.A (eval iter X.env) (λ v s1=>Al (An X.prog X.w) X.A (pyIter v) (Vt X pins σ tg R) X.xe s1) X.xe s
def Km {M:Model}{A:AJ}{E:Ac->Af->Prop}{s:Af}{tg:Expr}{it:Addr}{u:Ac}{o:Obj}{n:String}{vs:Array Ac}{Q:Unit->Af->Prop} (ho:s.heap.get? it=some o) (hc:o.cls=.type n) (hd:o.data=.fields vs)
  (hn:["enumerate","zip","dict_itemiterator","dict_reverseitemiterator","odict_iterator","itertools.zip_longest","itertools.pairwise"].contains n=false) (hQ:Q () s):Al M A (LI tg (.ref it) u) Q E s:=by
 unfold LI;cases tg <;> first
  | exact A8 hQ
  | (cases u <;> first
    | exact A8 hQ
    | (refine Ak (wpAny_load ho ?_);rw [hc,hd];show Al M A (if (["enumerate","zip","dict_itemiterator","dict_reverseitemiterator","odict_iterator","itertools.zip_longest","itertools.pairwise"].contains n && vs[0]? == some (rawInt _))=true then _ else _) Q E s;rw [if_neg (by intro h;rw [hn,Bool.false_and] at h;cases h)];exact A8 hQ))
def Vx (K:PySem.W.Frag) (a:Addr):It:=
 ⟨λ i H=>∃ xs x,AN K H a xs/\xs[i]?=some x,λ i H x H'=>H'=H/\∀ xs,AN K H a xs->xs[i]?=some x,λ i H=>∃ xs,AN K H a xs/\xs.length<=i⟩
def Vv (K:PySem.W.Frag) (a:Addr):It:=
 ⟨λ i H=>∃ xs x,SqT K H a xs/\xs[i]?=some x,λ i H x H'=>H'=H/\∀ xs,SqT K H a xs->xs[i]?=some x,λ i H=>∃ xs,SqT K H a xs/\xs.length<=i⟩
def Fd (lo:Int) (n:Nat):It:=⟨λ i _=>i < n,λ i H x H'=>H'=H/\x=.int (lo + i),λ i _=>n<=i⟩
def x6 {P:A0}{w:Ay}{K:PySem.W.Frag}{tg:Expr} (a it:Addr):Turn P w K tg (Vx K a) [it] it (λ i h=>h.IsListIter it a i) where
 mem:=by simp
 obj:=λ i h st b hb=>by
  have e:b=it:=by simpa using hb
  subst e;obtain ⟨o,e,c,d⟩:=st;exact ⟨o,e,λ v z=>by rw [d] at z;cases z⟩
 keep:=λ i h h' st k=>st.at λ o e=>k it (by simp) o e
 item:=by
  intro X hP hw hK hc i pins s σ H E I hf st hg;subst hP hw hK;obtain ⟨xs,x,hq,hx⟩:=hg;obtain ⟨its,rv,p,hz⟩:=I.list hq;obtain ⟨u,hu,ru⟩:=rv.get hx;obtain ⟨f0,f1,f2,f3,f4,f5⟩:=hf it (by simp);refine wpAny_pyNext_list_item st p.isList (x:=u) (by simpa using hu) λ h' st' sb=>?_;have I1:Inv X pins σ H { s with heap:=h' }:=I.turned (t':=s.toks) (λ b o hb e=>(sb.2 b hb).trans e) f0 f1 f3 f4 f5;obtain ⟨o,e,c,d⟩:=id st';exact ⟨u,rfl,Km (s:={ s with heap:=h' }) e c d (by decide) ⟨x,H,I1,ru,⟨rfl,λ ys hy=>by rw [I.list_inj hy hq];exact hx⟩,st',λ b hb=>(hf b hb).1⟩⟩
 done:=by
  intro X hP hw hK hc i pins s σ H E I hf st hg;subst hP hw hK;obtain ⟨xs,hq,hx⟩:=hg;obtain ⟨its,rv,p,hz⟩:=I.list hq;obtain ⟨f0,f1,f2,f3,f4,f5⟩:=hf it (by simp);have hl:=rv.length;exact wpAny_pyNext_list_end (I.ok.hd hc) st p.isList (by simp;omega) λ h' eb=>⟨rfl,I.turned (t':=s.toks) (λ b o hb e=>eb b o hb e) f0 f1 f3 f4 f5⟩
 self:=λ _ _ _ _ _ st h=>wpAny_pyIter_listiter st h
def xO {P:A0}{w:Ay}{K:PySem.W.Frag}{tg:Expr} (a it:Addr):Turn P w K tg (Vv K a) [it] it (λ i h=>h.IsTupleIter it a i) where
 mem:=by simp
 obj:=λ i h st b hb=>by
  have e:b=it:=by simpa using hb
  subst e;obtain ⟨o,e,c,d⟩:=st;exact ⟨o,e,λ v z=>by rw [d] at z;cases z⟩
 keep:=λ i h h' st k=>st.at λ o e=>k it (by simp) o e
 item:=by
  intro X hP hw hK hc i pins s σ H E I hf st hg;subst hP hw hK;obtain ⟨xs,x,hq,hx⟩:=hg;obtain ⟨its,rv,p,hz⟩:=I.tuple hq;obtain ⟨u,hu,ru⟩:=rv.get hx;obtain ⟨f0,f1,f2,f3,f4,f5⟩:=hf it (by simp);refine wpAny_pyNext_tuple_item st (show s.heap.IsTuple a its.toArray from p) (x:=u) (by simpa using hu) λ h' st' sb=>?_;have I1:Inv X pins σ H { s with heap:=h' }:=I.turned (t':=s.toks) (λ b o hb e=>(sb.2 b hb).trans e) f0 f1 f3 f4 f5;obtain ⟨o,e,c,d⟩:=id st';exact ⟨u,rfl,Km (s:={ s with heap:=h' }) e c d (by decide) ⟨x,H,I1,ru,⟨rfl,λ ys hy=>by rw [I.tuple_inj hy hq];exact hx⟩,st',λ b hb=>(hf b hb).1⟩⟩
 done:=by
  intro X hP hw hK hc i pins s σ H E I hf st hg;subst hP hw hK;obtain ⟨xs,hq,hx⟩:=hg;obtain ⟨its,rv,p,hz⟩:=I.tuple hq;obtain ⟨f0,f1,f2,f3,f4,f5⟩:=hf it (by simp);have hl:=rv.length;exact wpAny_pyNext_tuple_end (I.ok.hd hc) st (show s.heap.IsTuple a its.toArray from p) (by simp;omega) λ h' eb=>⟨rfl,I.turned (t':=s.toks) (λ b o hb e=>eb b o hb e) f0 f1 f3 f4 f5⟩
 self:=λ _ _ _ _ _ st h=>wpAny_pyIter_tupleiter st h
def xN {P:A0}{w:Ay}{K:PySem.W.Frag}{tg:Expr} (it:Addr) (lo:Int) (n:Nat):Turn P w K tg (Fd lo n) [it] it (λ i h=>IsRangeIter h it (lo + (i:Nat) * 1) ((n:Int) - (i:Nat)) 1) where
 mem:=by simp
 obj:=λ i h st b hb=>by
  have e:b=it:=by simpa using hb
  subst e;exact ⟨_,st,λ v z=>by
   have z':Data.fields _=Data.cell v:=z;cases z'⟩
 keep:=λ i h h' st k=>k it (by simp) _ st
 item:=by
  intro X hP hw hK hc i pins s σ H E I hf st hg;subst hP hw hK;obtain ⟨f0,f1,f2,f3,f4,f5⟩:=hf it (by simp);have W:=Walks.range (prog:=X.prog) (w:=X.w) (I.ok.hd hc) it lo 1 n;refine W.item i s _ _ hg st λ v h' tk hv st' kk=>?_;obtain ⟨t,rfl⟩:=hv;have I1:Inv X pins σ H { s with heap:=h',toks:=tk }:=I.turned (λ b o hb e=>kk b o (by simpa using hb) e) f0 f1 f3 f4 f5;refine ⟨_,rfl,Km (s:={ s with heap:=h',toks:=tk }) (n := "range_iterator") st' rfl rfl (by decide) ⟨.int (lo + i),H,I1,⟨t,?_⟩,⟨rfl,rfl⟩,st',λ b hb=>(hf b hb).1⟩⟩;rw [U2]
 done:=by
  intro X hP hw hK hc i pins s σ H E I hf st hg;subst hP hw hK;obtain ⟨f0,f1,f2,f3,f4,f5⟩:=hf it (by simp);exact wpAny_pyNext_range_end (I.ok.hd hc) st (by have:n<=i:=hg;omega) λ h' eb=>⟨rfl,I.turned (t':=s.toks) (λ b o hb e=>eb b o hb e) f0 f1 f3 f4 f5⟩
 self:=λ _ _ _ _ _ st h=>wpAny_pyIter_rangeiter st h
section
variable {X:Cx}{tg:Expr}
def Rb {pins:List (Addr×Obj)}{σ:St}{H:Hp}{s:Af}{R:It->Hp->Prop}{E:Ac->Af->Prop}{lo hi:Int}{t u v:Tok}{tk:Nat} (I:Inv X pins σ H s) (h1:-(2 ^ 62)<=lo) (h2:lo < 2 ^ 62) (h3:-(2 ^ 62)<=hi) (h4:hi < 2 ^ 62)
  (q:R (Fd lo (hi - lo).toNat) H):Al (An X.prog X.w) X.A (pyIter (.ref s.heap.objs.size)) (Vt X pins σ tg R) E { s with heap:=s.heap.push { cls:=.type "range",data:=.fields #[.int lo t,.int hi u,.int 1 v] },toks:=tk }:=by
 refine wpAny_pyIter_range (IsRange.new ..) (small_one h1 h2 h3 h4) ?_;have I1:Inv X pins σ H { s with heap:=s.heap.push { cls:=.type "range",data:=.fields #[.int lo t,.int hi u,.int 1 v] },toks:=tk }:=I.kept λ b o e=>AX _ e;refine ⟨(s.heap.push { cls:=.type "range",data:=.fields #[.int lo t,.int hi u,.int 1 v] }).objs.size,[(s.heap.push { cls:=.type "range",data:=.fields #[.int lo t,.int hi u,.int 1 v] }).objs.size],_,_,H,rfl,
  I1.kept (t':=tk) λ b o e=>AX _ e,xN _ lo (hi - lo).toNat,?_,λ b hb=>?_,q⟩
 ·have e1:lo + ((0:Nat):Int) * 1=lo:=by simp
  have e2:(((hi - lo).toNat:Nat):Int) - ((0:Nat):Int)=Builtin.Range.rangeSize lo hi 1:=by rw [rangeSize_one];split <;> omega
  show IsRangeIter _ _ (lo + ((0:Nat):Int) * 1) ((((hi - lo).toNat:Nat):Int) - ((0:Nat):Int)) 1;rw [e1,e2];exact BV _ rfl
 ·have e:b=(s.heap.push { cls:=.type "range",data:=.fields #[.int lo t,.int hi u,.int 1 v] }).objs.size:=by simpa using hb
  subst e;exact I1.fpOk (AE _) (I1.hok.fresh (AE _))
def Mx (ta:TA):TI:=λ σ H R=>ta σ H λ vs H1=>∃ j:Int,vs=[.int j]/\-(2 ^ 62)<=j/\j < 2 ^ 62/\R (Fd 0 j.toNat) H1
def My (ta:TA):TI:=λ σ H R=>ta σ H λ vs H1=>∃ i j:Int,vs=[.int i,.int j]/\(-(2 ^ 62)<=i/\i < 2 ^ 62/\-(2 ^ 62)<=j/\j < 2 ^ 62)/\R (Fd i (j - i).toNat) H1
theorem xi {a:Expr}{ta:TA}{p pos:Pos} (hg:Gl X "range") (hm:X.mg "range" = none) (ha:PA X [a] ta) (hs:As [a] X.env=[(false,eval a X.env)]:=by rfl):PI X tg (.Call (.Name "range" p) [a] [] pos) (Mx ta):=by
 intro pins s σ H R I h;refine Call_ (Fq I hg hm boot_range (IU (Aw (ha pos pins s σ H _ I h) λ us s1 ⟨vs,H1,I1,r1,q1⟩=>?_) hs rfl));obtain ⟨j,e,q1,q2,q⟩:=q1;subst e;cases r1 with
 | cons r rr=>
  cases rr;obtain ⟨t,rfl⟩:=r;exact call_range_1 (Rb I1 (by omega) (by omega) q1 q2 (by simpa using q))
theorem xj {a b:Expr}{ta:TA}{p pos:Pos} (hg:Gl X "range") (hm:X.mg "range" = none) (ha:PA X [a,b] ta) (hs:As [a,b] X.env=[(false,eval a X.env),(false,eval b X.env)]:=by rfl) (hs2:As [b] X.env=[(false,eval b X.env)]:=by rfl):
  PI X tg (.Call (.Name "range" p) [a,b] [] pos) (My ta):=by
 intro pins s σ H R I h;refine Call_ (Fq I hg hm boot_range (IU (Aw (ha pos pins s σ H _ I h) λ us s1 ⟨vs,H1,I1,r1,q1⟩=>?_) (by rw [hs,hs2]) (by rw [hs2];rfl)));obtain ⟨i,j,e,⟨q1,q2,q3,q4⟩,q⟩:=q1;subst e;cases r1 with
 | cons r rr=>
  cases rr with
  | cons r' rr=>
   cases rr;obtain ⟨t,rfl⟩:=r;obtain ⟨t',rfl⟩:=r';exact call_range_2 (Rb I1 q1 q2 q3 q4 q)
def Ex (wi:TI) (g:TG) (tb:TS):TS:=λ D σ H=>wi σ H λ J H1=>∃ W:Nat->Nat->St->Hp->Prop,(∃ m,W 0 m σ H1)/\∀ i m σ H,W i m σ H ->
 (J.stop i H/\D.nx σ H)\/(J.go i H/\∃ N:St->Hp->Prop,(∀ σ' H',N σ' H'->∃ m',m' < m/\W (i + 1) m' σ' H')/\∀ x H',J.yld i H x H'->g x σ H' λ σ2 H2=>tb { D with nx:=N,ct:=N,bk:=D.nx } σ2 H2)
def J9 (fp:List Addr) (h:Heap):List (Addr×Obj):=fp.filterMap λ b=>(h.get? b).map λ o=>(b,o)
def Li {fp:List Addr}{h:Heap}{b:Addr}{o:Obj} (hb:b∈fp) (e:h.get? b=some o):(b,o)∈J9 fp h:=jj4.mpr ⟨b,hb,by rw [e];rfl⟩
theorem xf {fp:List Addr}{h:Heap}{p:Addr×Obj} (hp:p∈J9 fp h):p.1∈fp/\h.get? p.1=some p.2:=by
 obtain ⟨b,hb,e⟩:=jj4.mp hp;cases q:h.get? b with
 | none=>rw [q] at e;cases e
 | some o=>
  rw [q] at e;have e':(b,o)=p:=Option.some.inj e;subst e';exact ⟨hb,q⟩
def Inv.pinned {pins:List (Addr×Obj)}{σ:St}{H:Hp}{s:Af}{fp:List Addr} (I:Inv X pins σ H s) (hf:∀ b∈fp,BI X pins H b) (ho:∀ b∈fp,∃ o,s.heap.get? b=some o/\∀ v,o.data≠.cell v):Inv X (pins++J9 fp s.heap) σ H s:=
 I.pins_of λ p hp=>(jc2.mp hp).elim (λ z=>I.pin p (AL _ z)) λ z=>by
  obtain ⟨hb,e⟩:=xf z;obtain ⟨f0,f1,f2,_⟩:=hf p.1 hb;obtain ⟨o,e',d⟩:=ho p.1 hb;rw [e] at e';cases e';exact ⟨e,f0,f1,f2,d⟩
def Inv.unpinned {pins pl:List (Addr×Obj)}{σ:St}{H:Hp}{s:Af} (I:Inv X (pins++pl) σ H s):Inv X pins σ H s:=I.pins_of λ p hp=>I.pin p (AL _ (AZ _ hp))
def GP {iter:Expr}{body:List Stmt}{wi:TI}{g:TG}{tb:TS}{pos:Pos} (hp:JM (An X.prog X.w) X.A X.env X.xe) (hc:X.calm=true) (hi:PI X tg iter wi) (hg:PG X tg g) (hb:DB X body tb)
  (hs:∀ x,LL iter X.env x=pure x:=by intro _;rfl):PS X (.For tg iter body [] pos) (Ex wi g tb):=by
 intro pins s σ H D I h;refine wpAny_For (Aw (hi pins s σ H _ I h) λ v s1 h1=>Aw h1 λ itv s2 h2=>?_) hs;obtain ⟨it,fp,tn,J,H2,e,I2,T,st2,f2,W,⟨m0,w0⟩,turn⟩:=h2;subst e;have stat:∀ {H':Hp},(∀ b∈fp,H' b=none)->∀ b∈fp,BI X pins H' b:=λ hn b hb=>⟨hn b hb,(f2 b hb).2⟩
 refine codeAny_forLoop_any (λ n s'=>∃ i σ' H',Inv X pins σ' H' s'/\tn i s'.heap/\(∀ b∈fp,H' b=none)/\W i n σ' H') ?_ m0 ⟨0,σ,H2,I2,st2,λ b hb=>(f2 b hb).1,w0⟩;rintro n s3 ⟨i,σ3,H3,I3,st3,fr3,w3⟩;rcases turn i n σ3 H3 w3 with ⟨stop,qn⟩ | ⟨go,N,hN,step⟩
 ·refine HB hp (Aw (T.done X rfl rfl rfl hc i pins s3 σ3 H3 X.xe I3 (stat fr3) st3 stop) λ r s4 ⟨hr,I4⟩=>?_);subst hr;exact LJ ⟨σ3,H3,I4,qn⟩
 ·refine HB hp (Aw (T.item X rfl rfl rfl hc i pins s3 σ3 H3 X.xe I3 (stat fr3) st3 go) λ r s4 ⟨u,hr,h4⟩=>?_);subst hr;refine HB hp (Aw h4 λ _ s5 ⟨x,H5,I5,r5,y5,st5,fr5⟩=>?_);have I5':=I5.pinned (stat fr5) (T.obj _ _ st5);refine HB hp (Aw (hg _ s5 σ3 H5 x u _ I5' r5 (step x H5 y5)) λ _ s6 ⟨σ6,H6,I6,q6⟩=>?_);refine HB hp (Aw (hb _ s6 σ6 H6 _ I6 q6) λ f s7 q7=>?_);have again:∀ {σ7:St}{H7:Hp},Inv X (pins++J9 fp s5.heap) σ7 H7 s7->N σ7 H7->∃ m,m < n/\∃ i σ' H',Inv X pins σ' H' s7/\tn i s7.heap/\(∀ b∈fp,H' b=none)/\W i m σ' H':=λ {σ7 H7} I7 n7=>by
   obtain ⟨m',hm,w7⟩:=hN σ7 H7 n7;refine ⟨m',hm,i + 1,σ7,H7,I7.unpinned,T.keep _ _ _ st5 λ b hb o e=>(I7.pin (b,o) (AL _ (AL _ (Li hb e)))).1,λ b hb=>?_,w7⟩;obtain ⟨o,e,d⟩:=T.obj _ _ st5 b hb;exact (I7.pin (b,o) (AL _ (AL _ (Li hb e)))).2.1
  cases f with
  | next=>obtain ⟨σ7,H7,I7,n7⟩:=q7;exact again I7 n7
  | cont=>obtain ⟨σ7,H7,I7,n7⟩:=q7;exact again I7 n7
  | brk=>obtain ⟨σ7,H7,I7,q7⟩:=q7;exact ⟨σ7,H7,I7.unpinned,q7⟩
  | ret v=>obtain ⟨x7,σ7,H7,I7,r7,q7⟩:=q7;exact ⟨x7,σ7,H7,I7.unpinned,r7,q7⟩
end
abbrev R2:=V->V->Hp->VK->Prop
def OpR (X:Cx) (f:Ac->Ac->Sem Ac) (r:R2):Prop:=
 ∀ (pins:List (Addr×Obj)) (s:Af) (σ:St) (H:Hp) (x y:V) (v u:Ac) (Q:VK),Inv X pins σ H s->RelV x v->RelV y u->r x y H Q ->
  Al (An X.prog X.w) X.A (f v u) (EP X pins σ Q) X.xe s
def Qi (X:Cx) (f:Ac->Sem Ac) (r:V->Hp->VK->Prop):Prop:=
 ∀ (pins:List (Addr×Obj)) (s:Af) (σ:St) (H:Hp) (x:V) (v:Ac) (Q:VK),Inv X pins σ H s->RelV x v->r x H Q ->
  Al (An X.prog X.w) X.A (f v) (EP X pins σ Q) X.xe s
def zwj (X:Cx) (f:Ac) (r:List V->Hp->VK->Prop):Prop:=
 ∀ (pins:List (Addr×Obj)) (s:Af) (σ:St) (H:Hp) (xs:List V) (us:List Ac) (Q:VK),Inv X pins σ H s->Vals xs us->r xs H Q ->
  Al (An X.prog X.w) X.A (call f us) (EP X pins σ Q) X.xe s
def HF (r:R2) (ta tb:TE):TE:=λ σ H Q=>ta σ H λ x H1=>tb σ H1 λ y H2=>r x y H2 Q
def RO (r:V->Hp->VK->Prop) (ta:TE):TE:=λ σ H Q=>ta σ H λ x H1=>r x H1 Q
def rI (C:Int->Int->Prop) (g:Int->Int->V):R2:=λ x y H Q=>∃ i j,x=.int i/\y=.int j/\C i j/\Q (g i j) H
def Eb (g:Int->Int->V):R2:=λ x y H Q=>∃ i j,x=.int i/\y=.int j/\Q (g i j) H
def rU (g:Int->V):V->Hp->VK->Prop:=λ x H Q=>∃ i,x=.int i/\Q (g i) H
section
variable {X:Cx}{a b c:Expr}{ta tb tc:TE}{pos:Pos}
def Ii (ha:PE X a ta) (hb:PE X b tb) {pins:List (Addr×Obj)}{s:Af}{σ:St}{H:Hp}{R:V->V->Hp->Prop} (I:Inv X pins σ H s)
  (h:ta σ H λ x H1=>tb σ H1 λ y H2=>R x y H2) {Q:Ac->Af->Prop}{f:Ac->Ac->Sem Ac}
  (hf:∀ v u s2 x y H2,Inv X pins σ H2 s2->RelV x v->RelV y u->R x y H2->Al (An X.prog X.w) X.A (f v u) Q X.xe s2):
  Al (An X.prog X.w) X.A (eval a X.env) (λ v s₁=>Al (An X.prog X.w) X.A (eval b X.env) (λ u s₂=>Al (An X.prog X.w) X.A (f v u) Q X.xe s₂) X.xe s₁) X.xe s:=by
 refine Aw (ha pins s σ H _ I h) λ v s1 ⟨x,H1,I1,r1,q1⟩=>?_;refine Aw (hb pins s1 σ H1 _ I1 q1) λ u s2 ⟨y,H2,I2,r2,q2⟩=>?_;exact hf v u s2 x y H2 I2 r1 r2 q2
def M1 {op:Operator}{r:R2} (ho:OpR X (Dt op) r) (ha:PE X a ta) (hb:PE X b tb):PE X (.BinOp a op b pos) (HF r ta tb):=by
 intro pins s σ H Q I h;exact wpAny_BinOp (Ii ha hb I h λ v u s2 x y H2 I2 rx ry q=>ho pins s2 σ H2 x y v u Q I2 rx ry q)
def Wk {op:UnaryOp}{r:V->Hp->VK->Prop} (ho:Qi X (unaryOp op) r) (ha:PE X a ta):PE X (.UnaryOp op a pos) (RO r ta):=by
 intro pins s σ H Q I h;exact UnaryOp_ (Aw (ha pins s σ H _ I h) λ v s1 ⟨x,H1,I1,r1,q1⟩=>ho pins s1 σ H1 x v Q I1 r1 q1)
def Kx {f:Ac->Ac->Sem Ac}{C:Int->Int->Prop}{g:Int->Int->Int}
  (rule:∀ (i j:Int) (t u:Tok) (s:Af) (Q:Ac->Af->Prop) (E:Ac->Af->Prop),C i j->Q (.int (g i j) s.toks) { s with toks:=s.toks + 1 }->Al (An X.prog X.w) X.A (f (.int i t) (.int j u)) Q E s):
  OpR X f (rI C λ i j=>.int (g i j)):=by
 intro pins s σ H x y v u Q I rx ry h;obtain ⟨i,j,rfl,rfl,hc,q⟩:=h;obtain ⟨t,rfl⟩:=rx;obtain ⟨t',rfl⟩:=ry;exact rule i j t t' s _ _ hc ⟨.int (g i j),H,I.tok _,⟨_,rfl⟩,q⟩
def Pz {f:Ac->Ac->Sem Ac}{g:Int->Int->Int}
  (rule:∀ (i j:Int) (t u:Tok) (s:Af) (Q:Ac->Af->Prop) (E:Ac->Af->Prop),Q (.int (g i j) s.toks) { s with toks:=s.toks + 1 }->Al (An X.prog X.w) X.A (f (.int i t) (.int j u)) Q E s):
  OpR X f (Eb λ i j=>.int (g i j)):=by
 intro pins s σ H x y v u Q I rx ry h;obtain ⟨i,j,rfl,rfl,q⟩:=h;obtain ⟨t,rfl⟩:=rx;obtain ⟨t',rfl⟩:=ry;exact rule i j t t' s _ _ ⟨.int (g i j),H,I.tok _,⟨_,rfl⟩,q⟩
def FP {f:Ac->Ac->Sem Ac}{g:Int->Int->Bool}
  (rule:∀ (i j:Int) (t u:Tok) (s:Af) (Q:Ac->Af->Prop) (E:Ac->Af->Prop),Q (.bool (g i j)) s->Al (An X.prog X.w) X.A (f (.int i t) (.int j u)) Q E s):
  OpR X f (Eb λ i j=>.bl (g i j)):=by
 intro pins s σ H x y v u Q I rx ry h;obtain ⟨i,j,rfl,rfl,q⟩:=h;obtain ⟨t,rfl⟩:=rx;obtain ⟨t',rfl⟩:=ry;exact rule i j t t' s _ _ ⟨.bl (g i j),H,I,rfl,q⟩
def KR (i j:Int):Prop:=0<=j/\j<=1000000/\i.natAbs < 2 ^ 64
def CMul (i j:Int):Prop:=(-(2 ^ 64) < i/\i < 2 ^ 64)\/(-(2 ^ 64) < j/\j < 2 ^ 64)
def CMul.ok {i j:Int} (h:CMul i j):IntMulOk i j:=by
 rcases h with ⟨h1,h2⟩ | ⟨h1,h2⟩
 ·exact .of_left (intBits_le_64 h1 h2)
 ·exact .of_right (intBits_le_64 h1 h2)
def qm6:OpR X (Dt .Add) (Eb λ i j=>.int (i + j)):=Pz λ _ _ _ _ _ _ _ q=>add_int q
def qmx:OpR X (Dt .Mult) (rI CMul λ i j=>.int (i * j)):=Kx λ _ _ _ _ _ _ _ hc q=>mul_int q hc.ok
def WM:OpR X (Dt .Mod) (rI (λ _ j=>0 < j) λ i j=>.int (i % j)):=Kx λ i j _ _ _ _ _ hc q=>by
 have h1:(0:Int) < j:=hc;exact mod_int' (by omega) (by rw [Int.fmod_eq_emod_of_nonneg i (by omega)];exact q)
def WO:OpR X (Dt .Pow) (rI KR λ i j=>.int (i ^ j.toNat)):=Kx λ _ _ _ _ _ _ _ hc q=>pow_int_small hc.1 hc.2.1 hc.2.2 q
def VN {f:Ac->Sem Ac}{g:Int->Int}
  (rule:∀ (i:Int) (t:Tok) (s:Af) (Q:Ac->Af->Prop) (E:Ac->Af->Prop),Q (.int (g i) s.toks) { s with toks:=s.toks + 1 }->Al (An X.prog X.w) X.A (f (.int i t)) Q E s):
  Qi X f (rU λ i=>.int (g i)):=by
 intro pins s σ H x v Q I rx h;obtain ⟨i,rfl,q⟩:=h;obtain ⟨t,rfl⟩:=rx;exact rule i t s _ _ ⟨.int (g i),H,I.tok _,⟨_,rfl⟩,q⟩
def XQ:Qi X (unaryOp .USub) (rU λ i=>.int (-i)):=VN λ _ _ _ _ _ q=>neg_int q
end
def OG:V->V->Bool
 | .non,.non=>true | .non,.int _=>true | .int _,.non=>true | .non,.bl _=>true | .bl _,.non=>true | .non,.str _=>true | .str _,.non=>true
 | .int _,.int _=>true | .bl _,.bl _=>true | .str _,.str _=>true | .byt _,.byt _=>true
 | .int _,.str _=>true | .str _,.int _=>true | .bl _,.str _=>true | .str _,.bl _=>true
 | _,_=>false
def VP:R2:=λ x y H Q=>OG x y=true/\Q (.bl (decide (x=y))) H
def Tw {i j:Int}:decide (V.int i=V.int j)=(i == j):=by
 rw [Hb];simp
def Wr {i j:Bool}:decide (V.bl i=V.bl j)=(i == j):=by
 rw [Hb];simp
def Yl {i j:Str}:decide (V.str i=V.str j)=(i == j):=by
 rw [Hb];simp
def Yk {i j:Array UInt8}:decide (V.byt i=V.byt j)=(i.toList == j.toList):=by
 rw [Hb];cases i;cases j;simp
section
variable {X:Cx}{a b c:Expr}{ta tb tc:TE}{pos:Pos}
def Dl {pins:List (Addr×Obj)}{σ:St}{H:Hp}{s:Af}{Q:VK}{k k':Bool} (I:Inv X pins σ H s) (q:Q (.bl k) H) (e:k=k'):EP X pins σ Q (.bool k') s:=by
 subst e;exact ⟨.bl k,H,I,rfl,q⟩
theorem Wg:OpR X (Cb .Eq) VP:=by
 intro pins s σ H x y v u Q I rx ry h;obtain ⟨hs,q⟩:=h;cases x with
 | non=>
  cases rx;cases y with
  | non=>cases ry;exact PySem.EqNone.eq_none_none (Dl I q (by simp))
  | bl j=>cases ry;exact PySem.EqNone.eq_none_bool (Dl I q (by simp))
  | int j=>obtain ⟨t',rfl⟩:=ry;exact PySem.EqNone.eq_none_int (Dl I q (by simp))
  | str j=>obtain ⟨t',rfl⟩:=ry;exact PySem.EqNone.eq_none_str (Dl I q (by simp))
  | _=>exact absurd (show false=true from hs) C8
 | bl i=>
  cases rx;cases y with
  | non=>cases ry;exact PySem.EqNone.eq_bool_none (Dl I q (by simp))
  | bl j=>cases ry;exact eq_bool (Dl I q Wr)
  | str j=>obtain ⟨t',rfl⟩:=ry;exact PySem.EqMixed.eq_bool_str (Dl I q (by simp))
  | _=>exact absurd (show false=true from hs) C8
 | int i=>
  obtain ⟨t,rfl⟩:=rx;cases y with
  | non=>cases ry;exact PySem.EqNone.eq_int_none (Dl I q (by simp))
  | int j=>obtain ⟨t',rfl⟩:=ry;exact eq_int (Dl I q Tw)
  | str j=>obtain ⟨t',rfl⟩:=ry;exact PySem.EqMixed.eq_int_str (Dl I q (by simp))
  | _=>exact absurd (show false=true from hs) C8
 | str i=>
  obtain ⟨t,rfl⟩:=rx;cases y with
  | non=>cases ry;exact PySem.EqNone.eq_str_none (Dl I q (by simp))
  | bl j=>cases ry;exact PySem.EqMixed.eq_str_bool (Dl I q (by simp))
  | int j=>obtain ⟨t',rfl⟩:=ry;exact PySem.EqMixed.eq_str_int (Dl I q (by simp))
  | str j=>obtain ⟨t',rfl⟩:=ry;exact eq_str (Dl I q Yl)
  | _=>exact absurd (show false=true from hs) C8
 | byt i=>
  obtain ⟨t,rfl⟩:=rx;cases y with
  | byt j=>obtain ⟨t',rfl⟩:=ry;exact PySem.W.eq_bytes (Dl I q Yk)
  | _=>exact absurd (show false=true from hs) C8
 | _=>cases y <;> exact absurd (show false=true from hs) C8
def RZ:OpR X (Cb .Lt) (Eb λ i j=>.bl (decide (i < j))):=FP λ _ _ _ _ _ _ _ q=>lt_int q
def Sf:OpR X (Cb .LtE) (Eb λ i j=>.bl (decide (i<=j))):=FP λ _ _ _ _ _ _ _ q=>le_int q
def Se:OpR X (Cb .Gt) (Eb λ i j=>.bl (decide (j < i))):=FP λ _ _ _ _ _ _ _ q=>gt_int q
def Sd:OpR X (Cb .GtE) (Eb λ i j=>.bl (decide (j<=i))):=FP λ _ _ _ _ _ _ _ q=>ge_int q
def OpR.or {f:Ac->Ac->Sem Ac}{r r':R2} (h:OpR X f r) (h':OpR X f r'):OpR X f (λ x y H Q=>r x y H Q\/r' x y H Q):=by
 intro pins s σ H x y v u Q I rx ry q;rcases q with q | q
 ·exact h pins s σ H x y v u Q I rx ry q
 ·exact h' pins s σ H x y v u Q I rx ry q
def Y7 {op:DF}{r:R2} (ho:OpR X (Cb op) r) (ha:PE X a ta) (hb:PE X b tb) (hm:IP op b=false):PE X (.Compare a [op] [b] pos) (HF r ta tb):=by
 intro pins s σ H Q I h;exact wpAny_Compare1 (Ii ha hb I h λ v u s2 x y H2 I2 rx ry q=>ho pins s2 σ H2 x y v u Q I2 rx ry q) hm
def Sn (t:TE):TT:=λ σ H Q=>t σ H λ x H'=>∃ k,x=.bl k/\Q k H'
def YC {op:DF}{r:R2} (ho:OpR X (Cb op) r) (ha:PE X a ta) (hb:PE X b tb) (hm:IP op b=false):PT X (.Compare a [op] [b] pos) (Sn (HF r ta tb)):=by
 intro pins s σ H Q I h;refine wpAny_isTrue_Compare1 (Aw (ha pins s σ H _ I h) λ v s1 ⟨x,H1,I1,r1,q1⟩=>Aw (hb pins s1 σ H1 _ I1 q1) λ u s2 ⟨y,H2,I2,r2,q2⟩=>
  Aw (ho pins s2 σ H2 x y v u _ I2 r1 r2 q2) λ c s3 ⟨z,H3,I3,r3,k,e,q3⟩=>?_) hm
 subst e;cases r3;exact FJ ⟨H3,I3,q3⟩
def Px (r r':R2) (ta tb tc:TE):TE:=λ σ H Q=>ta σ H λ x H1=>tb σ H1 λ y H2=>r x y H2 λ z H3=>∃ k,z=.bl k /\
 (if k=true then tc σ H3 λ w' H4=>r' y w' H4 Q else Q (.bl false) H3)
theorem ZS {op op':DF}{r r':R2} (ho:OpR X (Cb op) r) (ho':OpR X (Cb op') r') (ha:PE X a ta) (hb:PE X b tb) (hc:PE X c tc)
  (hm:lastMarks [op,op'] [b,c]=false:=by with_unfolding_all rfl):PE X (.Compare a [op,op'] [b,c] pos) (Px r r' ta tb tc):=by
 intro pins s σ H Q I h;refine Compare_chain (Aw (ha pins s σ H _ I h) λ v s1 ⟨x,H1,I1,r1,q1⟩=>chain_link (Aw (hb pins s1 σ H1 _ I1 q1) λ u s2 ⟨y,H2,I2,r2,q2⟩=>
  Aw (ho pins s2 σ H2 x y v u _ I2 r1 r2 q2) λ d s3 ⟨z,H3,I3,r3,k,e,q3⟩=>?_)) hm
 subst e;cases r3;refine FJ ?_;cases k with
 | false=>exact ite_ff ⟨.bl false,H3,I3,rfl,q3⟩
 | true=>exact ite_tt (chain_last (Aw (hc pins s3 σ H3 _ I3 q3) λ w' s4 ⟨z',H4,I4,r4,q4⟩=>ho' pins s4 σ H4 y z' u w' Q I4 r2 r4 q4))
theorem ZZ {op op':DF}{r r':R2} (ho:OpR X (Cb op) r) (ho':OpR X (Cb op') r') (ha:PE X a ta) (hb:PE X b tb) (hc:PE X c tc)
  (hm:lastMarks [op,op'] [b,c]=false:=by with_unfolding_all rfl):PT X (.Compare a [op,op'] [b,c] pos) (Sn (Px r r' ta tb tc)):=by
 intro pins s σ H Q I h;refine isTrue_chain (Aw (ha pins s σ H _ I h) λ v s1 ⟨x,H1,I1,r1,q1⟩=>test_link (Aw (hb pins s1 σ H1 _ I1 q1) λ u s2 ⟨y,H2,I2,r2,q2⟩=>
  Aw (ho pins s2 σ H2 x y v u _ I2 r1 r2 q2) λ d s3 ⟨z,H3,I3,r3,k,e,q3⟩=>?_)) hm
 subst e;cases r3;refine FJ ?_;cases k with
 | false=>
  obtain ⟨k',e',q'⟩:=q3;cases e';exact ite_ff ⟨H3,I3,q'⟩
 | true=>
  refine ite_tt (test_last (Aw (hc pins s3 σ H3 _ I3 q3) λ w' s4 ⟨z',H4,I4,r4,q4⟩=>Aw (ho' pins s4 σ H4 y z' u w' _ I4 r2 r4 q4) λ d' s5 ⟨z2,H5,I5,r5,k2,e2,q5⟩=>?_));subst e2;cases r5;exact FJ ⟨H5,I5,q5⟩
def IH:(Ap:Nat) < 2 ^ 63:=by rw [IL];decide
def xQ:OpR X (Dt .Add) (λ x y H Q=>∃ i j,x=.str i/\y=.str j/\i.length + j.length<=Ap/\Q (.str (i++j)) H):=by
 intro pins s σ H x y v u Q I rx ry h;obtain ⟨i,j,rfl,rfl,hz,q⟩:=h;obtain ⟨t,rfl⟩:=rx;obtain ⟨t',rfl⟩:=ry;exact add_str (λ t' tk=>⟨.str (i++j),H,I.tok _,⟨_,rfl⟩,q⟩) hz
theorem CC {x:V}{us:List Ac} (r:Vals [x] us):∃ u,us=[u]/\RelV x u:=by
 cases r with
 | cons r1 r2=>cases r2;exact ⟨_,rfl,r1⟩
theorem Ku {x y:V}{us:List Ac} (r:Vals [x,y] us):∃ u w',us=[u,w']/\RelV x u/\RelV y w':=by
 cases r with
 | cons r1 r2=>
  cases r2 with
  | cons r3 r4=>cases r4;exact ⟨_,_,rfl,r1,r3⟩
def qB (hc:X.calm=true):zwj X (.builtin "max") (λ xs H Q=>∃ i j,xs=[.int i,.int j]/\Q (.int (if j > i then j else i)) H):=by
 intro pins s σ H xs us Q I r h;obtain ⟨i,j,rfl,q⟩:=h;obtain ⟨u,w',rfl,⟨t,rfl⟩,⟨t',rfl⟩⟩:=Ku r;refine max_two_ints (I.ok.hd hc) λ h' tk k=>⟨_,H,I.kept k,?_,q⟩
 by_cases hj:j > i
 ·rw [if_pos hj,if_pos hj];exact ⟨_,rfl⟩
 ·rw [if_neg hj,if_neg hj];exact ⟨_,rfl⟩
def qD (hc:X.calm=true):zwj X (.builtin "min") (λ xs H Q=>∃ i j,xs=[.int i,.int j]/\Q (.int (if j < i then j else i)) H):=by
 intro pins s σ H xs us Q I r h;obtain ⟨i,j,rfl,q⟩:=h;obtain ⟨u,w',rfl,⟨t,rfl⟩,⟨t',rfl⟩⟩:=Ku r;refine min_two_ints (I.ok.hd hc) λ h' tk k=>⟨_,H,I.kept k,?_,q⟩
 by_cases hj:j < i
 ·rw [if_pos hj,if_pos hj];exact ⟨_,rfl⟩
 ·rw [if_neg hj,if_neg hj];exact ⟨_,rfl⟩
def qer:zwj X (.type "int") (λ xs H Q=>(∃ i,xs=[.int i]/\Q (.int i) H)\/∃ k,xs=[.bl k]/\Q (.int (if k then 1 else 0)) H):=by
 intro pins s σ H xs us Q I r h;rcases h with ⟨i,rfl,q⟩ | ⟨k,rfl,q⟩
 ·obtain ⟨u,rfl,t,rfl⟩:=CC r;exact call_int_int ⟨.int i,H,I,⟨_,rfl⟩,q⟩
 ·obtain ⟨u,rfl,r1⟩:=CC r;cases r1;exact call_int_bool ⟨.int (if k then 1 else 0),H,I.tok _,⟨_,rfl⟩,q⟩
end
structure ObjM (h:Heap) (x dx C:Addr) (mA:Str->Option Ac):Prop where
 obj:h.get? x=some (Og C dx)
 ns:h.Ns1 dx mA
 ne:dx≠x
def qZ {h:Heap}{dx:Addr}{mA:Str->Option Ac} (n:h.Ns1 dx mA):∃ od,h.get? dx=some od/\∀ name,Oe name od=some (mA name):=by
 obtain ⟨o,es,ep,ho,hd,hk,_,hm⟩:=n;refine ⟨o,ho,λ name=>?_⟩;have e:=hm name;unfold nsFind findBy at e;rw [<- Array.find?_toList] at e;unfold Oe;rw [hd];dsimp only;split
 ·rename_i y q;rw [q] at e;exact congrArg some e
 ·rename_i q;rw [q] at e;have a:es.toList.any (·.refKey)=false:=by
   rw [List.any_eq_false];intro y hy;obtain ⟨z,t,hkey⟩:=hk y (Array.mem_toList_iff.mp hy);simp [DictEntry.refKey,hkey]
  have a':¬ es.toList.any (·.refKey)=true:=by rw [a];exact C8
  rw [if_neg a'];exact congrArg some e
def ObjM.look {h:Heap}{x dx C:Addr}{mA:Str->Option Ac} (I:ObjM h x dx C mA):∃ od,PySem.W.InstAt h x (Og C dx) C (some od)/\∀ name,Oe name od=some (mA name):=
 let ⟨od,ho,hl⟩:=qZ I.ns
 ⟨od,⟨I.obj,rfl,rfl,ho⟩,hl⟩
section
variable {prog:A0}{w:Ay}{A:AJ}{E:Ac->Af->Prop}{s:Af}{K:PySem.W.Frag}{x dx C f:Addr}{mA:Str->Option Ac}{name:Str}{v:Ac}
end
section
variable {P:A0}{w:Ay}{H H':Hp}{h h':Heap}{a C dx:Addr}{fs fs':List (Str×V)}
def Yw (hok:HOk P w H h) (e:H a=some (.ins C dx fs)):∃ mA,ObjM h a dx C mA/\(∀ f,RelO (fs.lookup f) (mA f))/\PySem.Within mA (fs.map (·.1))/\fs.length<=1000/\H dx=some (.own a):=by
 obtain ⟨d,z,ne,ob,mA,n,r,q⟩:=(show zxv P w H h a (.ins C dx fs) from hok a _ e)
 exact ⟨mA,⟨ob,n,ne⟩,r,q,z,d⟩
end
structure Cls (K:PySem.W.Frag) (C:Addr):Prop where
 pg:PySem.W.plainGet K C Str.empty=true
 hd:PySem.W.hasDictIn K C=true
 po:PySem.W.plainOver K C=true
 sa:Dx K (.ref C) "__setattr__" = some (some (.builtin "object.__setattr__"))
def Cls.get {K:PySem.W.Frag}{C:Addr} (c:Cls K C) (f:Str):PySem.W.plainGet K C f=true:=c.pg
structure Con (K:PySem.W.Frag) (C:Addr) (f:Str) (v:V) (u:Ac):Prop where
 at_:Dx K (.ref C) f=some (some u)
 rel:RelV v u
 get:PySem.W.specialIn K u "__get__" = some none
 cp:PySem.W.copiedNames.contains f=false
structure Meth (K:PySem.W.Frag) (C:Addr) (m:Str) (f:Addr):Prop where
 at_:Dx K (.ref C) m=some (some (.ref f))
 fn:PySem.W.isFn K (.ref f)=true
 kp:GY K (.ref f)=true
section
variable {X:Cx}{pins:List (Addr×Obj)}{σ:St}{H:Hp}{s:Af}{a C dx:Addr}{fs:List (Str×V)}{f:Str}{v:V}{A:AJ}{E:Ac->Af->Prop}
end
section
variable {X:Cx}{o e value:Expr}{f:Str}{pos pos' tpos:Pos}{ta tv:TE}
end
section
variable {X:Cx}{pins:List (Addr×Obj)}{σ:St}{H:Hp}{s:Af}{A:AJ}{E:Ac->Af->Prop}{Q:Ac->Af->Prop}{c:Ac}{b:Bool}
inductive TyOf (K:PySem.W.Frag) (H:Hp):V->Ac->Prop where
 | non:TyOf K H .non (.type "NoneType")
 | bl (x:Bool):TyOf K H (.bl x) (.type "bool")
 | int (i:Int):TyOf K H (.int i) (.type "int")
 | str (x:Str):TyOf K H (.str x) (.type "str")
 | flt (x:UInt64):TyOf K H (.flt x) (.type "float")
 | lst {a:Addr}{xs:List V} (e:H a=some (.lst xs)):TyOf K H (.ref a) (.type "list")
 | frz {a:Addr}{o:Obj}{xs:List V} (e:H a=some (.frz o (.lst xs))):TyOf K H (.ref a) (.type "list")
 | tup {a:Addr}{xs:List V} (e:H a=some (.tup xs)):TyOf K H (.ref a) (.type "tuple")
 | dK {a:Addr}{kvs:List (AG×V)} (e:H a=some (.dK kvs)):TyOf K H (.ref a) (.type "dict")
 | dT {a:Addr}{kvs:List (List AG×V)} (e:H a=some (.dT kvs)):TyOf K H (.ref a) (.type "dict")
 | ins {a C dx:Addr}{fs:List (Str×V)} (e:H a=some (.ins C dx fs)) (cl:Cls K C) (ha:Dx K (.ref C) "__class__" = some (some (.builtin "object.__class__")))
   (hn:PySem.W.specialIn K (.builtin "object.__class__") "__get__" = some (some (.builtin "getset_descriptor.__get__"))) (htk:PySem.W.takesIn K (.builtin "object.__class__")=some true)
   (hm:EX K C (.type "object")=some true):TyOf K H (.ref a) (.ref C)
theorem qU {x:V}{u t:Ac} (I:Inv X pins σ H s) (rx:RelV x u) (ty:TyOf X.K H x t) (e:DH X.K t c=some b) (h:∀ tk,Q (.bool b) { s with toks:=tk }):
  Al (An X.prog X.w) A (call (.builtin "isinstance") [u,c]) Q E s:=by
 cases ty with
 | non=>cases (show u=Value.none from rx);exact DI Ov I.kIn True.intro e (λ z=>nomatch z) h
 | bl y=>cases (show u=Value.bool y from rx);exact DI PySem.W.kitx_bool I.kIn True.intro e (λ z=>nomatch z) h
 | int i=>obtain ⟨t,q⟩:=(show ∃ t,u=Value.int i t from rx);cases q;exact DI PySem.W.kitx_int I.kIn True.intro e (λ z=>nomatch z) h
 | str y=>obtain ⟨t,q⟩:=(show ∃ t,u=Value.str y t from rx);cases q;exact DI PySem.W.kitx_str I.kIn True.intro e (λ z=>nomatch z) h
 | flt y=>obtain ⟨t,q⟩:=(show ∃ t,u=Value.float y t from rx);cases q;exact DI PySem.W.kitx_float I.kIn True.intro e (λ z=>nomatch z) h
 | @lst a xs ea=>
  cases (show u=Value.ref a from rx);obtain ⟨_,_,n,_,h1⟩:=(show zxv X.prog X.w H s.heap a (.lst xs) from I.hok a _ ea)
  exact DI PySem.W.kitx_list I.kIn ⟨_,h1,rfl⟩ e (λ z=>nomatch z) h
 | @frz a ob xs ea=>
  cases (show u=Value.ref a from rx);obtain ⟨_,_,_,n,_,h1⟩:=(show zxv X.prog X.w H s.heap a (.frz ob (.lst xs)) from I.hok a _ ea)
  exact DI PySem.W.kitx_list I.kIn ⟨_,h1,rfl⟩ e (λ z=>nomatch z) h
 | @tup a xs ea=>
  cases (show u=Value.ref a from rx);obtain ⟨_,_,_,p⟩:=(show zxv X.prog X.w H s.heap a (.tup xs) from I.hok a _ ea)
  obtain ⟨o,h1,h2,_⟩:=p;exact DI PySem.W.kitx_tuple I.kIn ⟨o,h1,h2⟩ e (λ z=>nomatch z) h
 | @dK a kvs ea=>
  cases (show u=Value.ref a from rx);obtain ⟨_,_,vs,_,p⟩:=(show zxv X.prog X.w H s.heap a (.dK kvs) from I.hok a _ ea)
  obtain ⟨o,es,ep,h1,h2,_⟩:=p;exact DI PySem.W.kitx_dict I.kIn ⟨o,h1,h2.1⟩ e (λ z=>nomatch z) h
 | @dT a kvs ea=>
  cases (show u=Value.ref a from rx);obtain ⟨_,_,xs,_,o,es,ep,h1,h2,_⟩:=(show zxv X.prog X.w H s.heap a (.dT kvs) from I.hok a _ ea)
  exact DI PySem.W.kitx_dict I.kIn ⟨o,h1,h2.1⟩ e (λ z=>nomatch z) h
 | @ins a C dx fs ea cl ha hn htk hm=>
  cases (show u=Value.ref a from rx);obtain ⟨mA,O,_⟩:=Yw I.hok ea;obtain ⟨od,J,_⟩:=O.look;exact DI (PySem.W.kitx_own (cl.get _) cl.hd ha hn htk hm) I.kIn J e (λ z=>nomatch z) h
end
structure Room (k:Nat) (A:AJ):Prop where
 hd:A.handled=none
 dp:A.depth + 3 * k + 5 < recursionLimit
 un:A.units + 16 * k + 200 < Bx
 gd:A.guards=some []
def Room.mono {j k:Nat}{A:AJ} (r:Room k A) (h:j<=k):Room j A:=⟨r.hd,by have:=r.dp;omega,by have:=r.un;omega,r.gd⟩
def Room.deeper {k:Nat}{A:AJ} (r:Room (k + 1) A) (env:Env):Room k (A.deeper env):=
 ⟨r.hd,by have:=r.dp;show A.depth + 1 + 3 * k + 5 < _;omega,by have:=r.un;show A.units + 3 + 16 * k + 200 < _;omega,r.gd⟩
def Room.depth {k:Nat}{A:AJ} (r:Room k A):A.depth < recursionLimit:=by have:=r.dp;omega
def Room.units {k:Nat}{A:AJ} (r:Room k A):A.units + 64 < Bx:=by have:=r.un;omega
def CY:TA:=λ _ H Q=>Q [] H
def GK (ta:TE) (tr:TA):TA:=λ σ H Q=>ta σ H λ x H1=>tr σ H1 λ xs H2=>Q (x::xs) H2
section
variable {X:Cx}{e:Expr}{es:List Expr}{te:TE}{t:TA}{pos:Pos}
def DU:PA X [] CY:=λ _ _ _ _ H Q I h=>Calls.spliced_nil ⟨[],H,I,.nil,h⟩
def Dg (ha:PE X e te) (hr:PA X es t) (hs:As (e::es) X.env=(false,eval e X.env)::As es X.env:=by rfl):PA X (e::es) (GK te t):=by
 intro pos pins s σ H Q I h;rw [hs];show Al _ _ (spliced ((false,eval e X.env)::BP pos (As es X.env))) _ _ s;refine Calls.spliced_cons (Aw (ha pins s σ H _ I h) λ u s1 ⟨x,H1,I1,r1,q1⟩=>?_);exact Aw (hr pos pins s1 σ H1 _ I1 q1) λ us s2 ⟨xs,H2,I2,r2,q2⟩=>⟨x::xs,H2,I2,.cons r1 r2,q2⟩
def OC (t:TA):TE:=λ σ H Q=>t σ H λ xs H1=>xs.length<=Ap/\∀ p,H1 p=none->Q (.ref p) (Am H1 p (.tup xs))
def OE (t:TA):TE:=λ σ H Q=>t σ H λ xs H1=>xs.length<=Ap/\∀ p,H1 p=none->Q (.ref p) (Am H1 p (.lst xs))
def SJ {x1} (h:PA X es t):PE X (.Tuple es x1 pos) (OC t):=by
 intro pins s σ H Q I hq;refine wpAny_Tuple_spliced (Aw (h pos pins s σ H _ I hq) λ us s1 ⟨xs,H1,I1,r,z,q⟩=>⟨by rw [<- r.length];exact z,?_⟩);have hf:H1 s1.heap.objs.size=none:=I1.hok.fresh (AE _);refine ⟨.ref s1.heap.objs.size,Am H1 s1.heap.objs.size (.tup xs),I1.laid (t':=s1.toks) (λ b u e=>AX _ e) (AE _) ?_,rfl,q _ hf⟩;exact ⟨z,us,r,⟨_,BV _ rfl,rfl,_,rfl⟩⟩
def SH (h:PA X es t):PE X (.List es pos) (OE t):=by
 intro pins s σ H Q I hq;refine wpAny_List_spliced (Aw (h pos pins s σ H _ I hq) λ us s1 ⟨xs,H1,I1,r,z,q⟩=>⟨by rw [<- r.length];exact z,?_⟩);have hf:H1 s1.heap.objs.size=none:=I1.hok.fresh (AE _);refine ⟨.ref s1.heap.objs.size,Am H1 s1.heap.objs.size (.lst xs),I1.laid (t':=s1.toks) (λ b u e=>AX _ e) (AE _) ?_,rfl,q _ hf⟩;exact ⟨z,us,0,r,BV _ rfl⟩
end
abbrev Sp:=List V->Hp->VK->XK->Prop
abbrev DS:=List Env->Hp->Af->XK->Ac->Af->Prop
structure Env0 (P:A0) (w:Ay) (K:PySem.W.Frag) (mg:Str->Option Ac) (base:Heap) (A:AJ) (outer:List Env) (s:Af) (H:Hp):Prop where
 frames:A.frames=some outer
 mod:Mod K mg base
 bs:∀ b o,base.get? b=some o->s.heap.get? b=some o/\H b=none
 bsz:base.objs.size<=s.heap.objs.size
 funs:s.heap.FunFrames base outer
 frf:∀ b∈Cs outer,H b=none
 hok:HOk P w H s.heap
 bare:Es s.gens
def CE (outer:List Env) (P:A0) (w:Ay) (H:Hp) (s:Af) (Q:VK) (u:Ac) (s':Af):Prop:=
 ∃ v H',s'.os=s.os/\Es s'.gens/\Un (Cs outer) [] H H' s.heap s'.heap/\HOk P w H' s'.heap/\RelV v u/\Q v H'
def CR (CX:DS) (outer:List Env) (P:A0) (w:Ay) (H:Hp) (s:Af) (Q:VK) (E:XK) (r:Result) (s':Af):Prop:=
 match r with
 | .ok (.ret u)=>CE outer P w H s Q u s'
 | .ok _=>False
 | .error e=>CX outer H s E e s'
structure FnOk (P:A0) (w:Ay) (K:PySem.W.Frag) (mg:Str->Option Ac) (base:Heap) (CX:DS) (k:Nat) (f:Addr) (fd:Cr) (ps:List Str) (sp:Sp):Prop where
 len:∀ vs H Q E,sp vs H Q E->vs.length=ps.length
 run:∀ (A:AJ) (outer:List Env) (s:Af) (H:Hp) (args:Args) (us:List Ac) (vs:List V) (Q:VK) (E:XK),Room k A->Env0 P w K mg base A outer s H->BindsTo s fd args (ps.zip us)->Vals vs us->sp vs H Q E ->
  GV (An P w) A (.call (.ref f) args) (CR CX outer P w H s Q E) s
def FnOk.mono {P:A0}{w:Ay}{K:PySem.W.Frag}{mg:Str->Option Ac}{base:Heap}{CX:DS}{j k:Nat}{f:Addr}{fd:Cr}{ps:List Str}{sp:Sp} (F:FnOk P w K mg base CX j f fd ps sp) (h:j<=k):
  FnOk P w K mg base CX k f fd ps sp:=⟨F.len,λ A outer s H args us vs Q E hr=>F.run A outer s H args us vs Q E (hr.mono h)⟩
def Env0.in1 {P:A0}{w:Ay}{K:PySem.W.Frag}{mg:Str->Option Ac}{base:Heap}{A:AJ}{outer:List Env}{s:Af}{H:Hp} (e:Env0 P w K mg base A outer s H):
  Env0 P w K mg base A.in1 outer s H:=⟨e.frames,e.mod,e.bs,e.bsz,e.funs,e.frf,e.hok,e.bare⟩
section
variable {X:Cx}{pins:List (Addr×Obj)}{σ:St}{H:Hp}{s s':Af}
def Inv.env0 (I:Inv X pins σ H s):Env0 X.prog X.w X.K X.mg X.base X.A X.stack s H:=
 ⟨I.ok.frames,I.ok.mod,I.bs,Co I.ok.bsz I.sz,I.stack,I.stkFree,I.hok,I.bare⟩
def Inv.after {Q:VK}{u:Ac} (I:Inv X pins σ H s) (h:CE X.stack X.prog X.w H s Q u s'):EP X pins σ Q u s':=by
 obtain ⟨v,H',os,bare,un,hok,r,q⟩:=h;obtain ⟨hh,g,d,t,os'⟩:=s';obtain rfl:os'=s.os:=os;exact ⟨v,H',I.call (h':=hh) (g':=g) (d':=d) (t':=t) (ch:=[]) un hok bare (λ b z=>absurd z (by simp)),r,q⟩
end
def Sh (sp:Sp) (dvs:List V) (E:XK) (t:TA):TE:=λ σ H Q=>t σ H λ vs H1=>sp (vs++dvs) H1 Q E
def zky (K:PySem.W.Frag) (fd:Cr) (ps:List Str) (ds:List Ac):Prop:=
 ∀ (s:Af) (us:List Ac),K.In s.heap->(us++ds).length=ps.length->BindsTo s fd ⟨us,[]⟩ (ps.zip (us++ds))
def zky.all {K:PySem.W.Frag}{fd:Cr}{ps:List Str} (h:∀ us:List Ac,us.length=ps.length->bindArgs fd ⟨us,[]⟩=pure (ps.zip us)):zky K fd ps []:=λ s us _ hl=>by
 rw [HX] at hl ⊢;exact .of_eq (h us hl)
def OZ (CX:DS) (X:Cx) (E:XK):Prop:=∀ (pins:List (Addr×Obj)) (σ:St) (H:Hp) (s:Af) (e:Ac) (s':Af),Inv X pins σ H s->CX X.stack H s E e s'->X.xe e s'
section
variable {X:Cx}{CX:DS}{k:Nat}{f C:Addr}{fd:Cr}{ps:List Str}{sp:Sp}{dvs:List V}{ds:List Ac}{E:XK}{x m:Str}{p pos apos:Pos}{e o:Expr}{es:List Expr}{ta:TE}{t:TA}
theorem XF {pins:List (Addr×Obj)}{σ:St}{H:Hp}{s:Af}{Q:VK}{us:List Ac}{vs:List V} (F:FnOk X.prog X.w X.K X.mg X.base CX k f fd ps sp) (hr:Room k X.A) (hb:zky X.K fd ps ds) (hd:Vals dvs ds) (hx:OZ CX X E)
  (I:Inv X pins σ H s) (r:Vals vs us) (h:sp (vs++dvs) H Q E):Al (An X.prog X.w) X.A (call (.ref f) us) (EP X pins σ Q) X.xe s:=by
 have r2:Vals (vs++dvs) (us++ds):=r.append hd;have hl:(us++ds).length=ps.length:=by rw [<- r2.length];exact F.len _ _ _ _ h
 refine wpAny_call (JP (F.run X.A X.stack s H ⟨us,[]⟩ (us++ds) (vs++dvs) Q E hr I.env0 (hb s us I.kIn hl) r2 h) λ r s' hq=>?_);cases r with
 | error e=>exact hx pins σ H s e s' I hq
 | ok fl=>
  cases fl with
  | ret u=>exact I.after hq
  | next=>exact CW hq
  | brk=>exact CW hq
  | cont=>exact CW hq
def Y6 (F:FnOk X.prog X.w X.K X.mg X.base CX k f fd ps sp) (hr:Room k X.A) (hg:Gl X x) (hm:X.mg x=some (.ref f)) (hk:GY X.K (.ref f)=true) (hb:zky X.K fd ps ds) (hd:Vals dvs ds) (hx:OZ CX X E)
  (ha:PA X (e::es) t) (hdb:(x == ("__debug__" : Str))=false:=by decide) (he:As (e::es) X.env=(false,eval e X.env)::As es X.env:=by rfl) (hpl:(BP pos (As es X.env)).any (·.1)=false:=by rfl):
  PE X (.Call (.Name x p) (e::es) [] pos) (Sh sp dvs E t):=by
 intro pins s σ H Q I h;refine JT (NM I hg hm ?_ hdb);refine PySem.W.callWith_K (h₀:=X.base) I.ok.mod.kin hk (Aw (ha pos pins s σ H _ I h) λ us s1 ⟨vs,H1,I1,r,q⟩=>⟨I1.kIn,?_⟩) he hpl;exact XF F hr hb hd hx I1 r q
structure Mk (K:PySem.W.Frag) (C f:Addr):Prop where
 makes:PySem.W.makesIn K C=true
 init:Dx K (.ref C) "__init__" = some (some (.ref f))
 fn:PySem.W.isFn K (.ref f)=true
 kp:GY K (.ref C)=true
end
def PK (X:Cx) (kws:List Ea) (t:TA):Prop:=
 ∀ (pos:Pos) (pins:List (Addr×Obj)) (s:Af) (σ:St) (H:Hp) (Q:List V->Hp->Prop),Inv X pins σ H s->t σ H Q->Al (An X.prog X.w) X.A (evalAll ((Ht pos (Hw kws X.env)).map (·.2))) (AP X pins σ Q) X.xe s
section
variable {X:Cx}{CX:DS}{k:Nat}{f C:Addr}{fd:Cr}{ps ks:List Str}{sp:Sp}{E:XK}{x m:Str}{p pos apos kpos:Pos}{e o:Expr}{es:List Expr}{kws:List Ea}{te ta:TE}{t tk:TA}{nm:Option Str}
def Xb:PK X [] CY:=λ _ _ _ _ H Q I h=>wpAny_evalAll_nil ⟨[],H,I,.nil,h⟩
def Y9 (ha:PE X e te) (hr:PK X kws t):PK X (⟨nm,e,kpos⟩::kws) (GK te t):=by
 intro pos pins s σ H Q I h;show Al _ _ (evalAll ((do let v<-eval e X.env;standAt pos;pure v)::(Ht pos (Hw kws X.env)).map (·.2))) _ _ s;refine wpAny_evalAll_cons (Ak (Aw (ha pins s σ H _ I h) λ u s1 ⟨x,H1,I1,r1,q1⟩=>Ak (LF (A8 ?_))));exact Aw (hr pos pins s1 σ H1 _ I1 q1) λ us s2 ⟨xs,H2,I2,r2,q2⟩=>⟨x::xs,H2,I2,.cons r1 r2,q2⟩
structure KBinds (K:PySem.W.Frag) (fd:Cr) (ps ks:List Str) (g:List Ac->List Ac->List Ac) (gV:List V->List V->List V):Prop where
 to:∀ (s:Af) (us ws:List Ac),K.In s.heap->(g us ws).length=ps.length->BindsTo s fd ⟨us,ks.zip ws⟩ (ps.zip (g us ws))
 rel:∀ {vs:List V}{us:List Ac}{zs:List V}{ws:List Ac},Vals vs us->Vals zs ws->Vals (gV vs zs) (g us ws)
variable {g:List Ac->List Ac->List Ac}{gV:List V->List V->List V}
end
structure FnScope (N P:List Str) (sc:AW):Prop where
 kind:sc.kind=.function:=by rfl
 co:sc.isCoroutine=false:=by rfl
 gen:sc.isGenerator=false:=by rfl
 nd:N.Nodup:=by decide +kernel
 pre:N.take P.length=P:=by rfl
 par:∀ x∈P,sc.names.lookup x=some .local\/sc.names.lookup x=some .cell:=by decide +kernel
 nofree:∀ y∈sc.names,y.2≠.free:=by decide +kernel
theorem Rp {kindOf:Str->Option CJ}{x:Str}:∀ {binds:List (Str×Ac)}{m:Str->Option Ac},(∀ v,(x,v)∉binds)->bindL kindOf binds m x=m x
 | [],_,_=>rfl
 | (n,v)::r,m,h=>by
  unfold bindL;rw [Rp λ w hw=>h w (AB _ hw)];split
  ·have:x≠n:=by rintro rfl;exact h v AI
   simp [this]
  ·rfl
theorem Rn {kindOf:Str->Option CJ}{x:Str}:∀ {binds:List (Str×Ac)}{m:Str->Option Ac},(∀ v,(x,v)∉binds)->bindC kindOf binds m x=m x
 | [],_,_=>rfl
 | (n,v)::r,m,h=>by
  unfold bindC;rw [Rn λ w hw=>h w (AB _ hw)];split
  ·rfl
  ·have:x≠n:=by rintro rfl;exact h v AI
   simp [this]
theorem Ro {kindOf:Str->Option CJ}{x:Str}{v:Ac}:∀ {P:List Str}{vs:List Ac}{i:Nat}{m:Str->Option Ac},P.Nodup->P[i]?=some x->vs[i]?=some v->kindOf x=some .local ->
  bindL kindOf (P.zip vs) m x=some v
 | [],_,_,_,_,h,_,_=>by simp at h
 | _::_,[],_,_,_,_,h,_=>by simp at h
 | p::P,w::vs,0,m,nd,h1,h2,hk=>by
  simp at h1 h2;subst h1;subst h2;show bindL kindOf ((p,w)::P.zip vs) m p=_;unfold bindL;rw [Rp λ v hv=>(jj0.mp nd).1 (P9 hv).1,if_pos hk];simp
 | p::P,w::vs,i + 1,m,nd,h1,h2,hk=>by
  show bindL kindOf ((p,w)::P.zip vs) m x=_;unfold bindL;exact Ro (i:=i) (jj0.mp nd).2 (by simpa using h1) (by simpa using h2) hk
theorem Rm {kindOf:Str->Option CJ}{x:Str}{v:Ac}:∀ {P:List Str}{vs:List Ac}{i:Nat}{m:Str->Option Ac},P.Nodup->P[i]?=some x->vs[i]?=some v->kindOf x≠some .local ->
  bindC kindOf (P.zip vs) m x=some v
 | [],_,_,_,_,h,_,_=>by simp at h
 | _::_,[],_,_,_,_,h,_=>by simp at h
 | p::P,w::vs,0,m,nd,h1,h2,hk=>by
  simp at h1 h2;subst h1;subst h2;show bindC kindOf ((p,w)::P.zip vs) m p=_;unfold bindC;rw [Rn λ v hv=>(jj0.mp nd).1 (P9 hv).1,if_neg hk];simp
 | p::P,w::vs,i + 1,m,nd,h1,h2,hk=>by
  show bindC kindOf ((p,w)::P.zip vs) m x=_;unfold bindC;exact Rm (i:=i) (jj0.mp nd).2 (by simpa using h1) (by simpa using h2) hk
def start (N:List Str) (vs:List V):St:=vs.map some++AH (N.length - vs.length) none
def Bm (CX:DS) (P:A0) (w:Ay) (K:PySem.W.Frag) (mg:Str->Option Ac) (base:Heap) (N:List Str) (qual:Str) (scope:AW) (f:Addr) (cd:Ac) (A:AJ) (outer:List Env) (s:Af) (H:Hp) (E:XK):Cx where
 prog:=P
 w:=w
 K:=K
 mg:=mg
 base:=base
 A:=A.deeper (Ep qual scope s.heap.objs.size f cd)
 N:=N
 s₀:=s
 H₀:=H
 env:=Ep qual scope s.heap.objs.size f cd
 outer:=outer
 stack:=Ep qual scope s.heap.objs.size f cd::outer
 ex:=[]
 calm:=true
 fn:=λ _=>true
 pn:=[]
 xe:=λ e s'=>Al (An P w) (A.deeper (Ep qual scope s.heap.objs.size f cd)) (leaving (Ep qual scope s.heap.objs.size f cd) e) (λ _ s''=>CX outer H s E e s'') (λ e' s''=>CX outer H s E e' s'') s'
def Uk {sc:AW}{n:Nat}{x:Str} (h:sc.names.lookup x=some .cell):∃ c,(C7 n sc.names []).lookup x=some c:=by
 have q:=PySem.W.cellsFrom_some sc.names n [] (.inl h);exact jk0.mp q
def qS {CX:DS}{P:A0}{w:Ay}{K:PySem.W.Frag}{mg:Str->Option Ac}{base:Heap}{N ps:List Str}{qual:Str}{scope:AW}{f:Addr}{cd:Ac}{A:AJ}{outer:List Env}{s s1:Af}{H:Hp}{E:XK}{us:List Ac}{vs:List V}
  (S:FnScope N ps scope) (hd:A.handled=none) (e0:Env0 P w K mg base A outer s H) (hl:vs.length=ps.length) (r:Vals vs us)
  (x:InCallC s s.heap.objs.size (bindL (Ep qual scope s.heap.objs.size f cd).kindOf (ps.zip us) λ _=>none) (C7 (s.heap.objs.size + 1) scope.names []) (bindC (Ep qual scope s.heap.objs.size f cd).kindOf (ps.zip us) λ _=>none) s1):
  Inv (Bm CX P w K mg base N qual scope f cd A outer s H E) [] (start N vs) H s1:=by
 have hpl:ps.length<=N.length:=by have:=congrArg List.length S.pre;rw [Fc] at this;omega
 obtain ⟨h1,tk,rfl,hk⟩:=x.done;have noA:∀ b:Addr,b∉(Bm CX P w K mg base N qual scope f cd A outer s H E).ex:=λ b z=>absurd (show b∈([]:List Addr) from z) (by simp);refine ⟨⟨e0.mod,S.kind,rfl,rfl,AE _,λ y z c h1 h2=>?_,λ y hy=>?_,λ y c _ h=>?_,λ _=>hd,Around.frames_deeper e0.frames,.inr ⟨rfl,rfl⟩,λ b z=>absurd z (noA b),e0.bs,e0.bsz,λ b _ _=>noA b,λ b z=>absurd z (noA b),e0.funs,e0.frf⟩,
  rfl,e0.bare,Un.kept hk,⟨_,x.toInCall.ns,λ i y v h1 h2 h3=>?_⟩,λ y c h=>⟨_,x.cell y c h⟩,e0.hok.fresh (AE _),λ y c h=>?_,λ p hp=>absurd (show p∈([]:List (Addr×Obj)) from hp) (by simp),e0.hok.kept hk,?_⟩
 ·exact name_of_addr x.apart (JU h1) (JU h2)
 ·have hy:scope.names.lookup y=some .cell\/scope.names.lookup y=some .free:=hy;rcases hy with hy | hy
  ·exact Uk hy
  ·exact absurd rfl (S.nofree _ (JU hy))
 ·exact P6 (x.above y c (JU h))
 ·have hi:i < vs.length:=by
   unfold start at h2;by_cases hi:i < vs.length
   ·exact hi
   ·rw [Hf (by simpa using hi)] at h2;rw [He] at h2;split at h2 <;> cases h2
  have ha:vs[i]?=some v:=by
   unfold start at h2;rw [Di (by simpa using hi),DA] at h2;cases e:vs[i]? with
   | none=>rw [e] at h2;cases h2
   | some a=>rw [e] at h2;cases h2;rfl
  obtain ⟨u,hu,rv⟩:=r.get ha;have hp:ps[i]?=some y:=by
   rw [<- S.pre,K8 (by omega)];exact h1
  have ndP:ps.Nodup:=by rw [<- S.pre];exact S.nd.sublist (List.take_sublist _ _)
  refine ⟨u,rv,?_⟩;rcases S.par y (List.mem_of_getElem? hp) with k | k
  ·exact .inl ⟨k,Ro ndP hp hu k⟩
  ·obtain ⟨c,e⟩:=Uk (n:=s.heap.objs.size + 1) k;refine .inr ⟨.inl k,c,e,?_⟩;have q:=x.cell y c e;rw [Rm ndP hp hu (by show scope.names.lookup y≠_;rw [k];decide)] at q;exact q
 ·exact e0.hok.fresh (P6 (x.above y c (JU h)))
 ·unfold start;show _=N.length;rw [BR,AF,Ib];omega
theorem VW {CX:DS}{P:A0}{w:Ay}{K:PySem.W.Frag}{mg:Str->Option Ac}{base:Heap}{k:Nat}{f:Addr}{name qual:Str}{params:Arguments}{body:List Stmt}{scope:AW}{dV kV doc pm cdv ct oc:Ac}{an od:Option Addr}
  {osl:Array (Option Ac)}{N ps:List Str}{sp:Sp} (lk:K.lookup f=some ⟨oc,od,.func (IM name qual params body scope dV kV doc pm an cdv ct),osl⟩) (hcd:Od K cdv qual=true) (S:FnScope N ps scope)
  (len:∀ vs H Q E,sp vs H Q E->vs.length=ps.length)
  (hbody:∀ (A:AJ) (outer:List Env) (s:Af) (H:Hp) (vs:List V) (Q:VK) (E:XK),Room k (A.deeper (Ep qual scope s.heap.objs.size f cdv))->(A.deeper (Ep qual scope s.heap.objs.size f cdv)).units + 16 * k + 204 < Bx->sp vs H Q E ->
   ∃ t,DB (Bm CX P w K mg base N qual scope f cdv A outer s H E) body t/\t { nx:=λ _ H'=>Q .non H',rt:=Q } (start N vs) H):
  FnOk P w K mg base CX (k + 1) f (IM name qual params body scope dV kV doc pm an cdv ct) ps sp:=by
 refine ⟨len,λ A outer s H args us vs Q E hr e0 hb r hsp=>?_⟩;have hl:=len _ _ _ _ hsp;have KX:K.In s.heap:=e0.mod.kin.keeps λ b o e=>(e0.bs b o e).1;have lim:s.heap.NoLimit:=e0.mod.nolimit.keeps λ b o e=>(e0.bs b o e).1;have hkind:∀ y∈ps.zip us,scope.names.lookup y.1=some .local\/(scope.names.lookup y.1=some .cell/\((C7 (s.heap.objs.size + 1) scope.names []).lookup y.1).isSome=true):=λ ⟨n,v⟩ hy=>by
  rcases S.par n (P9 hy).1 with q | q
  ·exact .inl q
  ·exact .inr ⟨q,PySem.W.cellsFrom_some _ _ _ (.inl q)⟩
 refine codeAny_call_function hr.depth (KX _ _ lk) rfl S.co S.gen rfl (PySem.W.codeRec_of KX hcd) (hb _ _ _ _ ?_);refine wpAny_newFunctionEnv_cells S.kind hkind λ env he s1 x=>?_;subst he;refine ⟨lim.keeps x.toInCall.keep,codeAny_func ?_⟩;obtain ⟨t,ht,hq⟩:=hbody A outer s H vs Q E (hr.deeper _) (by have:=hr.un;show A.units + 3 + 16 * k + 204 < _;omega) hsp;have I:Inv (Bm CX P w K mg base N qual scope f cdv A outer s H E) [] (start N vs) H s1:=qS S hr.hd e0 hl r x;refine Et (ht [] s1 (start N vs) H _ I hq) (λ fl s' hs=>?_) λ e s' hs=>hs;have fin:∀ {σ':St}{H':Hp}{v:V}{u:Ac},Inv (Bm CX P w K mg base N qual scope f cdv A outer s H E) [] σ' H' s'->RelV v u->Q v H'->CE outer P w H s Q u s':=
  λ {σ' H' v u} J rv q=>⟨v,H',J.os,J.bare,J.base,J.hok,rv,q⟩
 cases fl with
 | ret u=>
  obtain ⟨v,σ',H',J,rv,q⟩:=hs;exact fin J rv q
 | next=>
  obtain ⟨σ',H',J,q⟩:=hs;exact fin (v:=V.non) (u:=Value.none) J rfl q
 | brk=>
  obtain ⟨_,_,_,q⟩:=hs;exact CW q
 | cont=>
  obtain ⟨_,_,_,q⟩:=hs;exact CW q
section
variable {X:Cx}{x:Str}{p pos:Pos}{e:Expr}{es:List Expr}{t:TA}{id T:String}{r:List V->Hp->VK->Prop}
def LV (r:List V->Hp->VK->Prop) (t:TA):TE:=λ σ H Q=>t σ H λ vs H1=>r vs H1 Q
def EN (hc:zwj X (.builtin id) r) (hg:Gl X x) (hm:X.mg x=none) (hv:Hy x=some (.builtin id)) (ha:PA X (e::es) t) (hn:x ≠ "__name__" := by decide) (hdb:(x == ("__debug__" : Str))=false:=by decide)
  (he:As (e::es) X.env=(false,eval e X.env)::As es X.env:=by rfl) (hpl:(BP pos (As es X.env)).any (·.1)=false:=by rfl):PE X (.Call (.Name x p) (e::es) [] pos) (LV r t):=by
 intro pins s σ H Q I h;refine JT (Fq I hg hm hv ?_ hn hdb);exact PyProof.Rows.callWith_builtin1 (Aw (ha pos pins s σ H _ I h) λ us s1 ⟨vs,H1,I1,r1,q1⟩=>hc pins s1 σ H1 vs us Q I1 r1 q1) he hpl
def Lh (hc:zwj X (.type T) r) (hg:Gl X x) (hm:X.mg x=none) (hv:Hy x=some (.type T)) (ha:PA X (e::es) t) (hn:x ≠ "__name__" := by decide) (hdb:(x == ("__debug__" : Str))=false:=by decide)
  (he:As (e::es) X.env=(false,eval e X.env)::As es X.env:=by rfl) (hpl:(BP pos (As es X.env)).any (·.1)=false:=by rfl):PE X (.Call (.Name x p) (e::es) [] pos) (LV r t):=by
 intro pins s σ H Q I h;refine JT (Fq I hg hm hv ?_ hn hdb);exact IU (Aw (ha pos pins s σ H _ I h) λ us s1 ⟨vs,H1,I1,r1,q1⟩=>hc pins s1 σ H1 vs us Q I1 r1 q1) he hpl
end
end L2
namespace HT
open PySem PyProof.Rows
section
open PySem.SeqAt
open PySem.AutoSeq1 (wpAny_loadPart')
open PySem.MeetsSeq PySem.MeetsSeq2 PySem.MeetsSeq3
end
section
variable {prog:A0}{w:Ay}{A:AJ}{E:Ac->Af->Prop}{s:Af}
def cat_tup {t b:Addr}{vs ws:List Ac}{Q:Ac->Af->Prop} (ht:IsTup s.heap t vs.toArray) (hb:IsTup s.heap b ws.toArray) (hv:vs≠[])
  (h1:ws=[]->Q (.ref t) s) (h2:ws≠[]->Q (.ref s.heap.objs.size) { s with heap:=s.heap.push { cls:=.type "tuple",data:=.seq (vs++ws).toArray } })
  (hsz:vs.length + ws.length<=Ap):Al (An prog w) A (Dt .Add (.ref t) (.ref b)) Q E s:=by
 obtain ⟨⟨cls,dd,data,sl⟩,ho,hc,n,hd⟩:=id ht;obtain ⟨⟨cls2,dd2,data2,sl2⟩,ho2,hc2,n2,hd2⟩:=id hb;simp only at hc hd hc2 hd2;subst hc hd hc2 hd2;have e:vs.toArray++ws.toArray=(vs++ws).toArray:=by simp
 by_cases hw:ws=[]
 ·exact concat_meets ⟨_,ho,rfl⟩ ⟨_,ho2,rfl⟩ Oo seq_tuple_add O5 O6 (O9 _ _)
   (tuple_addW1 t b vs.toArray ws.toArray n n2 dd dd2 sl sl2 (by simpa using hv) (by simp [hw])) ⟨ho,ho2,h1 hw⟩
 ·refine concat_meets ⟨_,ho,rfl⟩ ⟨_,ho2,rfl⟩ Oo seq_tuple_add O5 O6 (O9 _ _)
   (tuple_addW2 t b vs.toArray ws.toArray n n2 dd dd2 sl sl2 (by simpa using hv) (by simpa using hw) (by rw [Bl,Bl];exact hsz)) ⟨ho,ho2,?_⟩
  rw [e];exact h2 hw
def sIx (n d:Nat):Option Int->Nat
 | none=>d
 | some v=>if v < 0 then (v + (n:Int)).toNat else min v.toNat n
theorem XG (n d:Nat) (hd:d<=n) (o:Option Int):sIx n d o<=n:=by
 cases o with
 | none=>exact hd
 | some v=>
  show (if v < 0 then (v + (n:Int)).toNat else min v.toNat n)<=n;by_cases hv:v < 0
  ·rw [if_pos hv];omega
  ·rw [if_neg hv];exact PF _ _
def Tt (v:Int) (n d:Nat):(if v < 0 then max (v + (n:Int)) 0 else min v (n:Int))=((sIx n d (some v):Nat):Int):=by
 show (if v < 0 then max (v + (n:Int)) 0 else min v (n:Int))=(((if v < 0 then (v + (n:Int)).toNat else min v.toNat n):Nat):Int);by_cases hv:v < 0
 ·simp only [if_pos hv];omega
 ·simp only [if_neg hv];omega
def xA (lo hi:Option Int) (n:Nat):OA lo hi 1 (n:Int)=(((sIx n 0 lo:Nat):Int),((sIx n n hi:Nat):Int)):=by
 have h1:¬ ((1:Int) < 0):=by omega
 unfold OA;simp only [h1,if_false];refine Prod.ext ?_ ?_
 ·cases lo with
  | none=>rfl
  | some v=>exact Tt v n 0
 ·cases hi with
  | none=>rfl
  | some v=>exact Tt v n n
def xS (i j:Nat):LQ (i:Int) (j:Int) 1=j - i:=by
 unfold LQ;have h1:(1:Int) > 0:=by omega
 simp only [h1,if_true,Int.ediv_one];split <;> omega
theorem Q9 {v:Ac}{o:Option Int}{Q:Option Int->Af->Prop} (p:IsPart v o) (h:Q o s):Al (An prog w) A (Builtin.Slice.slicePartIndex v) Q E s:=by
 cases p with
 | none=>exact slicePart_none h
 | int i t=>exact slicePart_int h
def V7 {sl:Addr}{vl vu:Ac}{lo hi:Option Int}{n:Nat}{Q:Int×Int×Nat->Af->Prop} (hs:s.heap.IsSliceOf sl vl vu .none) (pl:IsPart vl lo) (pu:IsPart vu hi)
  (h:Q (((sIx n 0 lo:Nat):Int),1,sIx n n hi - sIx n 0 lo) s):Al (An prog w) A (RG (.ref sl) (pure (n:Int))) Q E s:=by
 obtain ⟨os,hos,hcs,hds⟩:=id hs;unfold RG Builtin.Slice.sliceFields;refine Ak (Ak (Dw hos hds (x:=vl) rfl (Ak (Dw hos hds (x:=vu) rfl (Ak (Dw hos hds (x:=.none) rfl (A8 ?_)))))));refine Ak (slicePart_none ?_);show Al _ _ (if ((1:Int) == 0)=true then _ else _) _ _ s;rw [if_neg (by decide)];refine Ak (Q9 pl (Ak (Q9 pu (Ak (A8 ?_)))));show Al _ _ (match OA lo hi 1 (n:Int) with | (lo,hi)=>pure (lo,(1:Int),LQ lo hi 1)) _ _ s;rw [xA lo hi n];show Al _ _ (pure (((sIx n 0 lo:Nat):Int),(1:Int),LQ ((sIx n 0 lo:Nat):Int) ((sIx n n hi:Nat):Int) 1)) _ _ s;rw [xS];exact A8 h
def ZV (xs:Array Ac) (i k:Nat):((AY k).filterMap λ (m:Nat)=>xs[((i:Int) + (m:Int) * 1).toNat]?).toArray=((xs.toList.drop i).take k).toArray:=by
 have e:(λ (m:Nat)=>xs[((i:Int) + (m:Int) * 1).toNat]?)=λ m=>xs[i + m]?:=by
  funext m
  have:((i:Int) + (m:Int) * 1).toNat=i + m:=by omega
  rw [this]
 rw [e]
 have:=pick_run xs i k
 rw [List.filterMap_map] at this;have e2:((λ x=>xs[x]?) ∘ λ x=>i + x)=λ m=>xs[i + m]?:=rfl;rw [e2] at this;rw [this]
def getItem_tuple_cut {t sl:Addr}{items:Array Ac}{vl vu:Ac}{lo hi:Option Int}{Q:Ac->Af->Prop} (ht:IsTup s.heap t items) (hs:s.heap.IsSliceOf sl vl vu .none) (pl:IsPart vl lo) (pu:IsPart vu hi)
  (hw:¬ (sIx items.size 0 lo=0/\sIx items.size items.size hi=items.size))
  (h:Q (.ref s.heap.objs.size) { s with heap:=s.heap.push { cls:=.type "tuple",data:=.seq ((items.toList.drop (sIx items.size 0 lo)).take (sIx items.size items.size hi - sIx items.size 0 lo)).toArray } })
  (hsz:items.size<=Ap):Al (An prog w) A (getItem (.ref t) (.ref sl)) Q E s:=by
 have htake:sizeOk (.seq ((items.toList.drop (sIx items.size 0 lo)).take (sIx items.size items.size hi - sIx items.size 0 lo)).toArray):=by
  show ((items.toList.drop (sIx items.size 0 lo)).take (sIx items.size items.size hi - sIx items.size 0 lo)).toArray.size<=Ap;rw [Bl,Fc,UR,Ia];omega
 have hj:sIx items.size items.size hi<=items.size:=XG _ _ (AE _) hi;obtain ⟨os,hos,hcs,hds⟩:=id hs;have hTs:s.TypeIs (.ref sl) "slice" := ⟨os,hos,hcs⟩
 unfold getItem
 try with_reducible refine Hz ?_
 first | refine Ak (A8 ?_) | skip
 refine Ak (wpAny_sequenceKey ht.typeIs (by decide) ?_);refine Ak (JV (name:=FI "__getitem__") ht.typeIs RL
  (IS RL ht.typeIs entry_tuple_getitem ?_ (args_tuple_getitem _ _)))
 show Al _ _ (Builtin.Tuple.tupleItemsOf (.ref t) >>= _) _ _ s;refine Ak (tupleItemsOf_ ht ?_);refine Ak (wpAny_typeOf hTs ?_);rw [if_pos (by decide)];refine Ak (V7 hs pl pu ?_);have hno:¬ ((((sIx items.size 0 lo:Nat):Int) == 0 && (1:Int) == 1 && (sIx items.size items.size hi - sIx items.size 0 lo) == items.size)=true):=by
  intro q;rw [A4,A4] at q;have q1:((sIx items.size 0 lo:Nat):Int)=0:=eq_of_beq q.1.1;have q2:sIx items.size items.size hi - sIx items.size 0 lo=items.size:=eq_of_beq q.2;exact hw ⟨by omega,by omega⟩
 show Al _ _ (if (((sIx items.size 0 lo:Nat):Int) == 0 && (1:Int) == 1 && (sIx items.size items.size hi - sIx items.size 0 lo) == items.size)=true then _ else _) _ _ s;rw [if_neg hno,ZV]
 first
  | exact Ak (m:=LP _) (HC (A8 ⟨_,rfl,A8 h⟩) htake)
  | exact Ak (m:=LP _) (HC (Ak (A8 (A8 ⟨_,rfl,A8 h⟩))) htake)
  | exact Ak (Ak (m:=LP _) (HC (A8 (A8 ⟨_,rfl,A8 h⟩)) htake))
  | exact Ak (Ak (m:=LP _) (HC (A8 ⟨_,rfl,A8 h⟩) htake))
end
end HT
namespace L2
open PySem PySem.Spec PyProof.Rows
abbrev TO:=St->Hp->(Option Int->Hp->Prop)->Prop
def PO (X:Cx) (e:Option Expr) (t:TO):Prop:=
 ∀ (pins:List (Addr×Obj)) (s:Af) (σ:St) (H:Hp) (Q:Option Int->Hp->Prop),Inv X pins σ H s->t σ H Q ->
  Al (An X.prog X.w) X.A (evalPart e X.env) (λ u s'=>∃ o H',Inv X pins σ H' s'/\IsPart u o/\Q o H') X.xe s
def Uh:TO:=λ _ H Q=>Q none H
def Sk (t:TE):TO:=λ σ H Q=>t σ H λ x H1=>∃ i,x=.int i/\Q (some i) H1
section
variable {X:Cx}{e:Expr}{te:TE}{lo hi:Option Expr}{tl th:TO}{pos p2:Pos}
def TJ:PO X none Uh:=by
 intro pins s σ H Q I h;rw [evalPart_none];exact A8 ⟨none,H,I,.none,h⟩
def Ls (h:PE X e te):PO X (some e) (Sk te):=by
 intro pins s σ H Q I hw;rw [evalPart_some];refine Aw (h pins s σ H _ I hw) λ u s1 ⟨x,H1,I1,r1,q1⟩=>?_;obtain ⟨i,rfl,q⟩:=q1;obtain ⟨t,rfl⟩:=r1;exact ⟨some i,H1,I1,.int i t,q⟩
def SlR (X:Cx) (r:V->Option Int->Option Int->Hp->VK->Prop):Prop:=
 ∀ (pins:List (Addr×Obj)) (s:Af) (σ:St) (H:Hp) (x:V) (v vl vu:Ac) (lo hi:Option Int) (sl:Addr) (Q:VK),Inv X pins σ H s->RelV x v->s.heap.IsSliceOf sl vl vu .none->IsPart vl lo->IsPart vu hi->r x lo hi H Q ->
  ∃ T id,typeLookup (.type T) "__getitem__" = pure (some (.builtin id))/\s.TypeIs v T/\Al (An X.prog X.w) X.A (getItem v (.ref sl)) (EP X pins σ Q) X.xe s
def SlR.or {r r':V->Option Int->Option Int->Hp->VK->Prop} (h:SlR X r) (h':SlR X r'):SlR X (λ x lo hi H Q=>r x lo hi H Q\/r' x lo hi H Q):=by
 intro pins s σ H x v vl vu lo hi sl Q I rx hs pl pu q;rcases q with q | q
 ·exact h pins s σ H x v vl vu lo hi sl Q I rx hs pl pu q
 ·exact h' pins s σ H x v vl vu lo hi sl Q I rx hs pl pu q
def RP (r:V->Option Int->Option Int->Hp->VK->Prop) (te:TE) (tl th:TO):TE:=λ σ H Q=>te σ H λ x H1=>tl σ H1 λ l H2=>th σ H2 λ u H3=>r x l u H3 Q
def N1 {r:V->Option Int->Option Int->Hp->VK->Prop} (hr:SlR X r) (he:PE X e te) (hl:PO X lo tl) (hu:PO X hi th):PE X (.Subscript e (.Slice lo hi none p2) pos) (RP r te tl th):=by
 intro pins s σ H Q I h;refine Subscript_ (Aw (he pins s σ H _ I h) λ v s1 ⟨x,H1,I1,r1,q1⟩=>?_);refine wpAny_Slice (Aw (hl pins s1 σ H1 _ I1 q1) λ vl s2 ⟨l,H2,I2,pl,q2⟩=>Aw (hu pins s2 σ H2 _ I2 q2) λ vu s3 ⟨u,H3,I3,pu,q3⟩=>?_);rw [evalPart_none];refine A8 ?_;have I4:Inv X pins σ H3 { s3 with heap:=s3.heap.push { cls:=.type "slice",data:=.fields #[vl,vu,.none] } }:=I3.kept (t':=s3.toks) λ b ob q=>AX _ q;obtain ⟨T,id,hT,ht,hg⟩:=hr pins { s3 with heap:=s3.heap.push { cls:=.type "slice",data:=.fields #[vl,vu,.none] } } σ H3 x v vl vu l u s3.heap.objs.size Q I4 r1 (Heap.IsSliceOf.new ..) pl pu q3;show Al (An X.prog X.w) X.A (subscriptTail e (.Slice lo hi none p2) v (.ref s3.heap.objs.size)) (EP X pins σ Q) X.xe { s3 with heap:=s3.heap.push { cls:=.type "slice",data:=.fields #[vl,vu,.none] } };exact tail_any (ops:=[.ref s3.heap.objs.size,v]) ht hT hg (by with_unfolding_all rfl)
def C3 (xs:List V) (lo hi:Option Int):List V:=(xs.drop (HT.sIx xs.length 0 lo)).take (HT.sIx xs.length xs.length hi - HT.sIx xs.length 0 lo)
def QN (xs:List V) (lo hi:Option Int):(C3 xs lo hi).length<=xs.length:=by
 unfold C3;rw [Fc,UR];omega
def Kc (K:PySem.W.Frag):V->Option Int->Option Int->Hp->VK->Prop:=λ x lo hi H Q=>∃ a xs,x=.ref a/\SqT K H a xs /\
 ¬ (HT.sIx xs.length 0 lo=0/\HT.sIx xs.length xs.length hi=xs.length)/\∀ p,H p=none->Q (.ref p) (Am H p (.tup (C3 xs lo hi)))
def qcd:SlR X (Kc X.K):=by
 intro pins s σ H x v vl vu lo hi sl Q I rx hs pl pu h;obtain ⟨a,xs,rfl,hx,hw,q⟩:=h;cases rx;obtain ⟨its,r,ht,hz⟩:=I.tuple hx;have hlen:its.toArray.size=xs.length:=by rw [Bl];exact r.length.symm
 refine ⟨"tuple",_,PyProof.Rows.slot_tuple_getitem.lookup,ht.typeIs,?_⟩;refine HT.getItem_tuple_cut ht hs pl pu (by rw [hlen];exact hw) ?_ (by rw [hlen];exact hz);rw [hlen];refine ⟨.ref s.heap.objs.size,_,I.laid (t':=s.toks) (o:=.tup (C3 xs lo hi)) (λ b ob q=>AX _ q) (AE _) ?_,rfl,q _ (I.hok.fresh (AE _))⟩;exact ⟨Co (QN xs lo hi) hz,_,(r.drop (HT.sIx xs.length 0 lo)).take (HT.sIx xs.length xs.length hi - HT.sIx xs.length 0 lo),IsTup.new _ _⟩
def Wn (K:PySem.W.Frag):R2:=λ x y H Q=>∃ a b xs ys,x=.ref a/\y=.ref b/\SqT K H a xs/\SqT K H b ys/\xs≠[]/\xs.length + ys.length<=Ap /\
 (ys=[]->Q (.ref a) H)/\(ys≠[]->∀ p,H p=none->Q (.ref p) (Am H p (.tup (xs++ys))))
theorem Vals.nil_iff {xs:List V}{us:List Ac} (r:Vals xs us):us=[]↔xs=[]:=by
 cases r with
 | nil=>simp
 | cons _ _=>simp
def qjo:OpR X (Dt .Add) (Wn X.K):=by
 intro pins s σ H x y v u Q I rx ry h;obtain ⟨a,b,xs,ys,rfl,rfl,ha,hb,hx,hz,q1,q2⟩:=h;cases rx;cases ry;obtain ⟨its,r1,p1,_⟩:=I.tuple ha;obtain ⟨its2,r2,p2,_⟩:=I.tuple hb;refine HT.cat_tup p1 p2 (λ z=>hx (r1.nil_iff.mp z)) (λ z=>⟨.ref a,H,I,rfl,q1 (r2.nil_iff.mp z)⟩) (λ z=>?_) (by rw [<- r1.length,<- r2.length];exact hz);refine ⟨.ref s.heap.objs.size,_,I.laid (t':=s.toks) (o:=.tup (xs++ys)) (λ b ob q=>AX _ q) (AE _) ?_,rfl,q2 (λ w=>z (r2.nil_iff.mpr w)) _ (I.hok.fresh (AE _))⟩;exact ⟨by rw [BR];exact hz,_,r1.append r2,IsTup.new _ _⟩
end
def C1 (n:Nat) (i:Int):Option Nat:=if 0<=i then (if i < n then some i.toNat else none) else if -(n:Int)<=i then some (i + n).toNat else none
def Bg {α:Type} (xs:List α) (i:Int):Option α:=(C1 xs.length i).bind λ j=>xs[j]?
def T3 {n:Nat}{i:Int}{j:Nat} (h:C1 n i=some j):seqIndex? i n=some j/\j < n/\-(n:Int)<=i/\i < n:=by
 unfold C1 at h;by_cases h0:0<=i
 ·rw [if_pos h0] at h;by_cases h1:i < n
  ·rw [if_pos h1] at h;have e:i.toNat=j:=Option.some.inj h;exact ⟨by rw [seqIndex_of h0 h1,e],by omega,by omega,h1⟩
  ·rw [if_neg h1] at h;cases h
 ·rw [if_neg h0] at h;by_cases h1:-(n:Int)<=i
  ·rw [if_pos h1] at h;have e:(i + n).toNat=j:=Option.some.inj h;exact ⟨by rw [seqIndex_neg (by omega) h1,e],by omega,h1,by omega⟩
  ·rw [if_neg h1] at h;cases h
theorem NC {α:Type}{xs:List α}{i:Int}{v:α} (h:Bg xs i=some v):∃ j,seqIndex? i xs.length=some j/\xs[j]?=some v/\j < xs.length/\-(xs.length:Int)<=i/\i < xs.length:=by
 unfold Bg at h;cases e:C1 xs.length i with
 | none=>rw [e] at h;cases h
 | some j=>
  rw [e] at h;obtain ⟨h1,h2,h3,h4⟩:=T3 e;exact ⟨j,h1,h,h2,h3,h4⟩
def Lv (b:Expr):Prop:=∀ o i,subscripted b false o i=operate [o,i] (getItem o i)
def IxR (X:Cx) (r:R2):Prop:=
 ∀ (value slice:Expr) (pins:List (Addr×Obj)) (s:Af) (σ:St) (H:Hp) (x y:V) (v u:Ac) (Q:VK),Inv X pins σ H s->RelV x v->RelV y u->r x y H Q ->
  subscripted slice false v u=operate [v,u] (getItem v u)->Al (An X.prog X.w) X.A (subscriptTail value slice v u) (EP X pins σ Q) X.xe s
def Na (X:Cx) (id:String) (r:V->List V->Hp->VK->Prop):Prop:=
 ∀ (pins:List (Addr×Obj)) (s:Af) (σ:St) (H:Hp) (x:V) (xs:List V) (v:Ac) (us:List Ac) (Q:VK),Inv X pins σ H s->RelV x v->Vals xs us->r x xs H Q ->
  Al (An X.prog X.w) X.A (call (.builtin id) (v::us)) (EP X pins σ Q) X.xe s
section
variable {X:Cx}{a b:Expr}{ta tb:TE}{pos:Pos}
def IxR.or {r r':R2} (h:IxR X r) (h':IxR X r'):IxR X (λ x y H Q=>r x y H Q\/r' x y H Q):=by
 intro value slice pins s σ H x y v u Q I rx ry q hs;rcases q with q | q
 ·exact h value slice pins s σ H x y v u Q I rx ry q hs
 ·exact h' value slice pins s σ H x y v u Q I rx ry q hs
def OQ {r:R2} (hr:IxR X r) (ha:PE X a ta) (hb:PE X b tb) (hs:Lv b):PE X (.Subscript a b pos) (HF r ta tb):=by
 intro pins s σ H Q I h;exact Subscript_ (Ii ha hb I h λ v u s2 x y H2 I2 rx ry q=>hr a b pins s2 σ H2 x y v u Q I2 rx ry q (hs _ _))
def HJ (K:PySem.W.Frag):R2:=λ x y H Q=>∃ p xs i v,x=.ref p/\y=.int i/\AN K H p xs/\Bg xs i=some v/\Q v H
def Kf (K:PySem.W.Frag):R2:=λ x y H Q=>∃ p xs i v,x=.ref p/\y=.int i/\SqT K H p xs/\Bg xs i=some v/\Q v H
def Kg:R2:=λ x y H Q=>∃ z i c,x=.str z/\y=.int i/\z.length<=Ap/\Bg z.cps.toList i=some c/\Q (.str ⟨#[c]⟩) H
def qds:IxR X (HJ X.K):=by
 intro value slice pins s σ H x y v u Q I rx ry h hs;obtain ⟨p,xs,i,z,rfl,rfl,hq,he,q⟩:=h;cases rx;obtain ⟨t,rfl⟩:=ry;obtain ⟨its,r,pl,hz⟩:=I.list hq;obtain ⟨j,h1,h2,h3,h4,h5⟩:=NC he;obtain ⟨w,ew,rw'⟩:=r.get h2;have hl:=r.length;have hn:=IH;have fin:EP X pins σ Q w s:=⟨z,H,I,rw',q⟩
 by_cases h0:0<=i
 ·have hj:i.toNat=j:=by
   rw [seqIndex_of h0 h5] at h1;exact Option.some.inj h1
  exact item_listR pl.isList h0 (by omega) (by rw [hj];simpa using ew) fin hs
 ·have hj:(i + (its.toArray.size:Int)).toNat=j:=by
   rw [seqIndex_neg (by omega) h4] at h1;rw [Bl,<- hl];exact Option.some.inj h1
  exact subscriptTail_builtinR (x:=w) pl.isList.typeIs slot_list_getitem.lookup
   (wpAny_getItem_list_neg (Q:=λ r s'=>r=w/\EP X pins σ Q r s') pl.isList (by omega) (by rw [Bl] <;> omega) (by omega) (by rw [hj];simpa using ew) ⟨rfl,fin⟩) hs
def qnh:IxR X (Kf X.K):=by
 intro value slice pins s σ H x y v u Q I rx ry h hs;obtain ⟨p,xs,i,z,rfl,rfl,hq,he,q⟩:=h;cases rx;obtain ⟨t,rfl⟩:=ry;obtain ⟨its,r,pl,hz⟩:=I.tuple hq;obtain ⟨j,h1,h2,h3,h4,h5⟩:=NC he;obtain ⟨w,ew,rw'⟩:=r.get h2;have hl:=r.length;have hn:=IH;have fin:EP X pins σ Q w s:=⟨z,H,I,rw',q⟩
 exact subscriptTail_builtinR (x:=w) pl.typeIs slot_tuple_getitem.lookup
  (getItem_tuple (j:=j) (Q:=λ r s'=>r=w/\EP X pins σ Q r s') pl (by omega) (by omega) (by rw [Bl,<- hl];exact h1) (by simpa using ew) ⟨rfl,fin⟩) hs
def W3:IxR X Kg:=by
 intro value slice pins s σ H x y v u Q I rx ry h hs;obtain ⟨z,i,c,rfl,rfl,hz,he,q⟩:=h;obtain ⟨t,rfl⟩:=rx;obtain ⟨t',rfl⟩:=ry;obtain ⟨j,h1,h2,h3,h4,h5⟩:=NC he;have hl:z.cps.toList.length=z.length:=by simp [Str.length]
 rw [hl] at h1 h4 h5;have hn:=IH;exact tail_any (IK s z t) slot_str_getitem.lookup (getItem_str (c:=c) (by
  have e1:decide (i < -(2 ^ 63:Int))=false:=decide_eq_false (by omega);have e2:decide (i ≥ 2 ^ 63)=false:=decide_eq_false (by omega);rw [e1,e2,Bool.or_false]) (by rw [h1];simpa using h2) ⟨.str ⟨#[c]⟩,H,I.tok _,⟨_,rfl⟩,q⟩) hs
def rIx (K:PySem.W.Frag):R2:=λ x y H Q=>HJ K x y H Q\/Kf K x y H Q\/Kg x y H Q
def SD:IxR X (rIx X.K):=qds.or (qnh.or W3)
def xG (its:List Ac) (n j:Nat) (u:Ac):Cy (·.setIfInBounds j u) { cls:=.type "list",data:=.seq its.toArray n }={ cls:=.type "list",data:=.seq (its.set j u).toArray n }:=by
 simp [Cy]
def Inv.lst {pins:List (Addr×Obj)}{σ:St}{H:Hp}{s:Af}{p:Addr}{xs:List V} (I:Inv X pins σ H s) (h:H p=some (.lst xs)):
  ∃ (its:List Ac) (n:Nat),Vals xs its/\s.heap.get? p=some { cls:=.type "list",data:=.seq its.toArray n }/\xs.length<=Ap:=by
 obtain ⟨z,its,n,r,e⟩:=I.hok p _ h;exact ⟨its,n,r,e,z⟩
def Inv.lstUpd {pins:List (Addr×Obj)}{σ:St}{H:Hp}{s:Af}{p:Addr}{xs ys:List V}{its its':List Ac}{n n':Nat}{f:Obj->Obj} (I:Inv X pins σ H s) (h:H p=some (.lst xs))
  (ho:s.heap.get? p=some { cls:=.type "list",data:=.seq its.toArray n }) (hf:f { cls:=.type "list",data:=.seq its.toArray n }={ cls:=.type "list",data:=.seq its'.toArray n' }) (r:Vals ys its') (hz:ys.length<=Ap) (t:Nat):
  Inv X pins σ (Am H p (.lst ys)) { s with heap:=s.heap.update p f,toks:=t }:=by
 have e:(s.heap.update p f).get? p=some { cls:=.type "list",data:=.seq its'.toArray n' }:=by
  rw [Heap.get?_update_self f ho (by rw [hf] <;> rfl),hf]
 refine I.write (x:=p) (e:=p) (by rw [h];trivial) (.inl rfl) (λ b u hb q=>(Heap.get?_update_other _ _ (Br hb)).trans q) ⟨_,e⟩ ?_;exact ⟨hz,its',n',r,e⟩
def Ko:V->V->V->Hp->(Hp->Prop)->Prop:=λ o i v H Q=>∃ p xs k j,o=.ref p/\i=.int k/\H p=some (.lst xs)/\C1 xs.length k=some j/\Q (Am H p (.lst (xs.set j v)))
def Lw:PSet X Ko:=by
 intro pins s σ H o i v ov iv u Q I ro ri rv h;obtain ⟨p,xs,k,j,rfl,rfl,hp,hj,q⟩:=h;cases ro;obtain ⟨t,rfl⟩:=ri;obtain ⟨its,n,r,ho,hz⟩:=I.lst hp;obtain ⟨h1,h2,h3,h4⟩:=T3 hj;have hl:=r.length;have hn:=IH;have I':Inv X pins σ (Am H p (.lst (xs.set j v))) { s with heap:=s.heap.update p (Cy (·.setIfInBounds j u)) }:=
  I.lstUpd hp ho (xG its n j u) (r.set rv j) (by rw [Ee];exact hz) s.toks
 by_cases h0:0<=k
 ·have hk:k.toNat=j:=by
   rw [seqIndex_of h0 h4] at h1;exact Option.some.inj h1
  exact PySem.W.ki_setAt ho h0 (by omega) (by rw [Bl,<- hl];exact h4) (by rw [hk];exact ⟨_,I',q⟩)
 ·have hk:(k + (its.toArray.size:Int)).toNat=j:=by
   rw [seqIndex_neg (by omega) h3] at h1;rw [Bl,<- hl];exact Option.some.inj h1
  exact PySem.W.ki_setBack ho (by omega) (by rw [Bl,<- hl];exact h3) (by omega) (by rw [hk];exact ⟨_,I',q⟩)
def V6 (lo hi:Option Int) (n:Nat):(Hx lo hi none n).1=((HT.sIx n 0 lo:Nat):Int)/\(Hx lo hi none n).2.1=((HT.sIx n n hi:Nat):Int)/\(Hx lo hi none n).2.2=1:=by
 refine ⟨?_,?_,rfl⟩
 ·cases lo with
  | none=>simp [Hx,HT.sIx]
  | some i=>
   simp only [Hx,HT.sIx,UQ,show (1:Int) > 0 by decide,if_true];by_cases h:i < 0
   ·simp only [h,if_true] <;> omega
   ·simp only [h,if_false] <;> omega
 ·cases hi with
  | none=>simp [Hx,HT.sIx]
  | some i=>
   simp only [Hx,HT.sIx,UQ,show (1:Int) > 0 by decide,if_true];by_cases h:i < 0
   ·simp only [h,if_true] <;> omega
   ·simp only [h,if_false] <;> omega
def V5 (its:List Ac) (lo hi:Option Int):slicePick its.toArray lo hi none=((its.drop (HT.sIx its.length 0 lo)).take (HT.sIx its.length its.length hi - HT.sIx its.length 0 lo)).toArray:=by
 obtain ⟨h1,h2,h3⟩:=V6 lo hi its.toArray.size;unfold slicePick;rw [h1,h2,h3];simp only [sliceRange_one,pick_run,Bl] <;> rfl
def Ke (K:PySem.W.Frag):V->Option Int->Option Int->Hp->VK->Prop:=λ x lo hi H Q=>∃ a xs,x=.ref a/\AN K H a xs/\∀ p,H p=none->Q (.ref p) (Am H p (.lst (C3 xs lo hi)))
def zge:SlR X (Ke X.K):=by
 intro pins s σ H x v vl vu lo hi sl Q I rx hs pl pu h;obtain ⟨a,xs,rfl,hx,q⟩:=h;cases rx;obtain ⟨its,r,ht,hz⟩:=I.list hx;have hlen:=r.length;refine ⟨"list",_,slot_list_getitem.lookup,ht.isList.typeIs,?_⟩;refine wpAny_getItem_list_slice ht.isList hs pl pu .none (by simp) ?_ (by rw [Bl] <;> omega);rw [V5,<- hlen];refine ⟨.ref s.heap.objs.size,_,I.laid (t':=s.toks) (o:=.lst (C3 xs lo hi)) (λ b ob q=>AX _ q) (AE _) ?_,rfl,q _ (I.hok.fresh (AE _))⟩;exact ⟨Co (QN xs lo hi) hz,_,0,(r.drop (HT.sIx xs.length 0 lo)).take (HT.sIx xs.length xs.length hi - HT.sIx xs.length 0 lo),BV _ rfl⟩
def zfv:zwj X (.builtin "len") (λ xs H Q=>∃ p ys,xs=[.ref p]/\(AN X.K H p ys\/SqT X.K H p ys)/\Q (.int ys.length) H):=by
 intro pins s σ H xs us Q I r h;obtain ⟨p,ys,rfl,hq,q⟩:=h;obtain ⟨u,rfl,rx⟩:=CC r;cases rx;have hn:=IH;rcases hq with hq | hq
 ·obtain ⟨its,r',pl,hz⟩:=I.list hq;have hlen:=r'.length;exact Calls.call_len_list pl.isList (by simp only [Bl] <;> omega) ⟨.int ys.length,H,I.tok _,⟨s.toks + 1,by rw [Bl,hlen]⟩,q⟩
 ·obtain ⟨its,r',pl,hz⟩:=I.tuple hq;have hlen:=r'.length;exact len_tuple pl (by simp only [Bl] <;> omega) ⟨.int ys.length,H,I.tok _,⟨s.toks + 1,by rw [Bl,hlen]⟩,q⟩
def VI:zwj X (.builtin "len") (λ xs H Q=>∃ z,xs=[.str z]/\z.length<=Ap/\Q (.int z.length) H):=by
 intro pins s σ H xs us Q I r h;obtain ⟨z,rfl,hz,q⟩:=h;obtain ⟨u,rfl,t,rfl⟩:=CC r;have hn:=IH;exact len_str (by omega) ⟨.int z.length,H,I.tok _,⟨_,rfl⟩,q⟩
def zwj.or {f:Ac}{r r':List V->Hp->VK->Prop} (h:zwj X f r) (h':zwj X f r'):zwj X f (λ xs H Q=>r xs H Q\/r' xs H Q):=by
 intro pins s σ H xs us Q I rs q;rcases q with q | q
 ·exact h pins s σ H xs us Q I rs q
 ·exact h' pins s σ H xs us Q I rs q
def VJ:zwj X (.type "list") (λ xs H Q=>∃ p ys,xs=[.ref p]/\(AN X.K H p ys\/SqT X.K H p ys)/\∀ l,H l=none->Q (.ref l) (Am H l (.lst ys))):=by
 intro pins s σ H xs us Q I r h;obtain ⟨p,ys,rfl,hq,q⟩:=h;obtain ⟨u,rfl,rx⟩:=CC r;cases rx;have fin:∀ (its:List Ac),Vals ys its->ys.length<=Ap->∀ (h':Heap) (c':Nat),(∀ b o',s.heap.get? b=some o'->h'.get? b=some o') ->
   h'.get? s.heap.objs.size=some { cls:=.type "list",dict:=none,data:=.seq its.toArray c',slots:=#[] }->EP X pins σ Q (.ref s.heap.objs.size) { s with heap:=h' }:=λ its r' hz h' c' kp e=>
  ⟨.ref s.heap.objs.size,_,I.laid (t':=s.toks) kp (AE _) (show zxv X.prog X.w _ h' _ (.lst ys) from ⟨hz,its,c',r',e⟩),rfl,q _ (I.hok.fresh (AE _))⟩
 rcases hq with hq | hq
 ·obtain ⟨its,r',pl,hz⟩:=I.list hq;have hlen:=r'.length;obtain ⟨o,ho,hc,n,hd⟩:=pl.isList;exact call_list_seq p (.inl rfl) ho hc hd (λ h' c' kp e=>fin its r' hz h' c' kp e) (by simp only [Bl] <;> omega)
 ·obtain ⟨its,r',pl,hz⟩:=I.tuple hq;have hlen:=r'.length;obtain ⟨o,ho,hc,n,hd⟩:=pl;exact call_list_seq p (.inr rfl) ho hc hd (λ h' c' kp e=>fin its r' hz h' c' kp e) (by simp only [Bl] <;> omega)
def V4:zwj X (.type "tuple") (λ xs H Q=>∃ p ys,xs=[.ref p]/\((AN X.K H p ys/\∀ l,H l=none->Q (.ref l) (Am H l (.tup ys)))\/(SqT X.K H p ys/\Q (.ref p) H))):=by
 intro pins s σ H xs us Q I r h;obtain ⟨p,ys,rfl,h⟩:=h;obtain ⟨u,rfl,rx⟩:=CC r;cases rx;rcases h with ⟨hq,q⟩ | ⟨hq,q⟩
 ·obtain ⟨its,r',pl,hz⟩:=I.list hq;have hlen:=r'.length;refine call_tuple_list pl.isList (λ h' kp=>?_) (by simp only [Bl] <;> omega);have I1:Inv X pins σ H { s with heap:=h' }:=I.kept (t':=s.toks) kp;have I2:Inv X pins σ (Am H h'.objs.size (.tup ys)) { s with heap:=h'.push { cls:=.type "tuple",data:=.seq its.toArray } }:=
   I1.laid (t':=s.toks) (λ b o e=>AX _ e) (AE _) (show zxv X.prog X.w _ _ _ (.tup ys) from ⟨hz,its,r',IsTup.new _ _⟩)
  exact ⟨.ref h'.objs.size,_,I2,rfl,q _ (I1.hok.fresh (AE _))⟩
 ·obtain ⟨its,r',pl,hz⟩:=I.tuple hq;exact call_tuple_same pl ⟨.ref p,H,I,rfl,q⟩
def OB (K:PySem.W.Frag) (T:String) (x:V) (H:Hp):Prop:=match x with
 | .str _=>T = "str"
 | .int _=>T = "int"
 | .ref p=>(T = "list" /\ ∃ xs,AN K H p xs)\/(T = "tuple" /\ ∃ o,K.lookup p=some o/\o.cls=.type "tuple" /\ o.dict=none) \/
   (T = "dict" /\ ((∃ kvs,H p=some (.dK kvs))\/∃ kvs,H p=some (.dT kvs)))\/(T = "set" /\ ∃ S n,H p=some (.set S n))
 | _=>False
theorem XO {pins:List (Addr×Obj)}{σ:St}{H:Hp}{s:Af}{T:String}{x:V}{v:Ac} (I:Inv X pins σ H s) (r:RelV x v) (ty:OB X.K T x H):
  s.TypeIs v T/\∀ a,v=.ref a->∃ ob,s.heap.get? a=some ob/\ob.dict=none:=by
 cases x with
 | str z=>
  obtain ⟨t,rfl⟩:=r;cases (show T = "str" from ty);exact ⟨IK s z t,λ _ e=>nomatch e⟩
 | int i=>
  obtain ⟨t,rfl⟩:=r;cases (show T = "int" from ty);exact ⟨typeIs_int s i t,λ _ e=>nomatch e⟩
 | ref p=>
  cases r;rcases ty with ⟨rfl,xs,hq⟩ | ⟨rfl,o,hk,hc,hd⟩ | ⟨rfl,hk⟩ | ⟨rfl,S,n,hk⟩
  ·obtain ⟨its,_,pl,_⟩:=I.list hq;refine ⟨pl.isList.typeIs,λ a e=>?_⟩;cases e;obtain ⟨o,n,e,c,hd,_⟩:=pl;exact ⟨o,e,hd⟩
  ·refine ⟨⟨o,I.kIn p o hk,hc⟩,λ a e=>?_⟩;cases e;exact ⟨o,I.kIn _ o hk,hd⟩
  ·have z:∃ o,s.heap.get? p=some o/\o.ExactDict:=by
    rcases hk with ⟨kvs,hk⟩ | ⟨kvs,hk⟩
    ·obtain ⟨_,_,_,_,o,_,_,e,ex,_⟩:=I.hok p _ hk;exact ⟨o,e,ex⟩
    ·obtain ⟨_,_,_,_,o,_,_,e,ex,_⟩:=I.hok p _ hk;exact ⟨o,e,ex⟩
   obtain ⟨o,e,ex⟩:=z;refine ⟨⟨o,e,ex.1⟩,λ a e2=>?_⟩;cases e2;exact ⟨o,e,ex.2.1⟩
  ·obtain ⟨o,_,_,_,e,ex,_⟩:=I.hok p _ hk;refine ⟨⟨o,e,ex.1⟩,λ a e2=>?_⟩;cases e2;exact ⟨o,e,ex.2.1⟩
 | _=>exact CW ty
def Ka (K:PySem.W.Frag) (T:String) (r:V->List V->Hp->VK->Prop) (to:TE) (t:TA):TE:=λ σ H Q=>to σ H λ x H1=>OB K T x H1/\t σ H1 λ xs H2=>r x xs H2 Q
variable {o e:Expr}{es:List Expr}{to:TE}{t:TA}{name:Str}{apos cpos:Pos}{T id:String}{r:V->List V->Hp->VK->Prop}
def Kt (pa:PlainAttrs T) (slot:Slot T name id) (hty:typeOf (.builtin id)=pure (.type "method_descriptor")) (hm:Na X id r) (ho:PE X o to) (ha:PA X (e::es) t)
  (hbase:JQ o name X.env (eval o X.env)=eval o X.env:=by rfl)
  (hfew:((BP cpos (As (e::es) X.env)).all (λ x=>!x.1) && (Ht cpos (Hw [] X.env)).all (λ x=>x.1.isSome)
   && decide ((e::es).length + ([]:List Ea).length + (if ([]:List Ea).isEmpty then 0 else 1) < 30))=true:=by rfl)
  (hline:(apos.endLine == cpos.line)=true:=by rfl) (hs:As (e::es) X.env=(false,eval e X.env)::As es X.env:=by rfl) (hplain:(BP cpos (As es X.env)).any (·.1)=false:=by rfl):
  PE X (.Call (.Attribute o name apos) (e::es) [] cpos) (Ka X.K T r to t):=by
 intro pins s σ H Q I h;refine wpAny_Call_method_late hbase hfew hline rfl (Aw (ho pins s σ H _ I h) λ v s1 ⟨x,H1,I1,r1,ty,q1⟩=>?_);obtain ⟨h1,h2⟩:=XO I1 r1 ty;refine ⟨T,id,pa,slot,hty,h1,h2,?_⟩;have hA:=ha cpos pins s1 σ H1 _ I1 q1;rw [hs] at hA ⊢;refine Calls.callWith_builtin (by show (false || (BP cpos (As es X.env)).any (·.1))=false;rw [hplain] <;> rfl) (Calls.evalArgs_plain ?_);exact Aw hA λ us s2 ⟨vs,H2,I2,r2,q2⟩=>hm pins s2 σ H2 x vs v us Q I2 r1 r2 q2
end
def Vu (X:Cx) (id:String) (r:V->List V->Hp->VK->Prop):Prop:=
 ∀ (pins:List (Addr×Obj)) (s:Af) (σ:St) (H:Hp) (x:V) (xs:List V) (v:Ac) (us:List Ac) (Q:VK),Inv X pins σ H s->RelV x v->Vals xs us->r x xs H Q ->
  Al (An X.prog X.w) X.A (call (.builtin id) (v::us)) (EP X pins σ Q) X.xe s
theorem Vals.one:∀ {x:V}{us:List Ac},Vals [x] us->∃ u,us=[u]/\RelV x u
 | _,_,.cons r .nil=>⟨_,rfl,r⟩
theorem Vals.rep {xs:List V}{us:List Ac} (h:Vals xs us):∀ k:Nat,Vals (AH k xs).flatten (AH k us).flatten
 | 0=>.nil
 | k + 1=>by
  rw [FZ,FZ,HZ,HZ];exact Vals.append h (Vals.rep h k)
theorem Rw (its:List Ac):∀ (k:Nat) (acc:List Ac),
  P5 (λ x1 x2=>x1++x2) acc.toArray (AH k its.toArray)=(acc++(AH k its).flatten).toArray
 | 0,acc=>by simp
 | k + 1,acc=>by
  have e:acc.toArray++its.toArray=(acc++its).toArray:=by simp
  have e2:(acc++its)++(AH k its).flatten=acc++(AH (k + 1) its).flatten:=by
   rw [FZ,HZ,PJ]
  rw [<- e2,<- Rw its k (acc++its),<- e,FZ,UI]
section
variable {X:Cx}{pins:List (Addr×Obj)}{σ:St}{H:Hp}{s:Af}{l b:Addr}{xs ys zs:List V}
def Inv.lset {its its':List Ac}{n:Nat}{f:Array Ac->Array Ac}{t':Nat} (I:Inv X pins σ H s) (hH:H l=some (.lst xs))
  (e:s.heap.get? l=some { cls:=.type "list",data:=.seq its.toArray n }) (hf:f its.toArray=its'.toArray) (hv:Vals ys its') (hz:ys.length<=Ap):
  Inv X pins σ (Am H l (.lst ys)) { s with heap:=s.heap.update l (Cy f),toks:=t' }:=by
 have q:=PySem.IsL.update e f;rw [hf] at q;refine I.write (x:=l) (e:=l) (by rw [hH];exact trivial) (.inl rfl) (λ b' u hb hu=>(Heap.get?_update_other s.heap (Cy f) (Br hb)).trans hu) ⟨_,q⟩ ?_;exact ⟨hz,its',_,hv,q⟩
def Inv.lnew {its:List Ac}{t':Nat} (I:Inv X pins σ H s) (hv:Vals ys its) (hz:ys.length<=Ap):
  Inv X pins σ (Am H s.heap.objs.size (.lst ys)) { s with heap:=s.heap.push { cls:=.type "list",data:=.seq its.toArray },toks:=t' }:=
 I.laid (λ _ _ q=>AX _ q) (AE _) ⟨hz,its,0,hv,BV _ rfl⟩
def Inv.fresh (I:Inv X pins σ H s):H s.heap.objs.size=none:=I.hok.fresh (AE _)
def Inv.lstM (I:Inv X pins σ H s) (hH:H l=some (.lst xs)):xs.length<=Ap/\∃ (its:List Ac) (n:Nat),Vals xs its/\xs.length=its.length/\s.heap.get? l=some { cls:=.type "list",data:=.seq its.toArray n }:=by
 obtain ⟨z,its,n,r,e⟩:=I.hok l _ hH;exact ⟨z,its,n,r,r.length,e⟩
def QT {n:Nat} (h:n<=Ap):LO n=false:=by
 unfold LO;exact decide_eq_false (by omega)
end
section
variable {X:Cx}
def TL:V->List V->Hp->VK->Prop:=λ x vs H Q=>∃ l xs y,x=.ref l/\vs=[y]/\H l=some (.lst xs)/\xs.length < Ap/\Q .non (Am H l (.lst (xs++[y])))
def R5:Vu X "list.append" TL:=by
 intro pins s σ H x vs v us Q I rx rv h;obtain ⟨l,xs,y,rfl,rfl,hH,hz,q⟩:=h;cases rx;obtain ⟨u,rfl,ru⟩:=rv.one;obtain ⟨z,its,n,r,hl,e⟩:=I.lstM hH;refine Hv F.slot_list_append ⟨_,e,rfl⟩ F.entry_list_append (F.args_list_append_2 _ _) (PySem.list_append l its.toArray n u (by rw [Bl];omega)) ⟨e,?_⟩;refine ⟨.non,_,I.lset (its':=its++[u]) hH e (by simp) (r.append (.cons ru .nil)) ?_,rfl,q⟩;rw [BR,Jl];omega
def TM:V->List V->Hp->VK->Prop:=λ x vs H Q=>∃ l b xs zs,x=.ref l/\vs=[.ref b]/\H l=some (.lst xs)/\H b=some (.lst zs)/\xs.length + zs.length<=Ap/\Q .non (Am H l (.lst (xs++zs)))
def xa:Vu X "list.extend" TM:=by
 intro pins s σ H x vs v us Q I rx rv h;obtain ⟨l,b,xs,zs,rfl,rfl,hH,hB,hz,q⟩:=h;cases rx;obtain ⟨u,rfl,ru⟩:=rv.one;cases ru;obtain ⟨z,its,n,r,hl,e⟩:=I.lstM hH;obtain ⟨z2,its2,n2,r2,hl2,e2⟩:=I.lstM hB;have hsz:its.toArray.size + its2.toArray.size<=Ap:=by rw [Bl,Bl];omega
 have hlong:¬ (!its.toArray.isEmpty && LO (its.toArray.size + its2.toArray.size))=true:=by
  rw [QT hsz,Bool.and_false];exact C8
 refine Hv F.slot_list_extend ⟨_,e,rfl⟩ F.entry_list_extend (F.args_list_extend_2 _ _)
  (AutoSeq1.list_extend_list_list_0 l its.toArray n b its2.toArray n2 hlong (by rw [Bl];omega) (by omega)) ⟨e,e2,?_⟩
 refine ⟨.non,_,I.lset (its':=its++its2) hH e (by simp) (r.append r2) ?_,rfl,q⟩;rw [BR];omega
def OJ:R2:=λ x y H Q=>∃ l b xs zs,x=.ref l/\y=.ref b/\H l=some (.lst xs)/\H b=some (.lst zs)/\xs.length + zs.length<=Ap/\∀ p,H p=none->Q (.ref p) (Am H p (.lst (xs++zs)))
def qhq:OpR X (Dt .Add) OJ:=by
 intro pins s σ H x y v u Q I rx ry h;obtain ⟨l,b,xs,zs,rfl,rfl,hH,hB,hz,q⟩:=h;cases rx;cases ry;obtain ⟨z,its,n,r,hl,e⟩:=I.lstM hH;obtain ⟨z2,its2,n2,r2,hl2,e2⟩:=I.lstM hB;refine PySem.P.add_list e e2 ?_ (by rw [Bl,Bl];omega);have ea:its.toArray++its2.toArray=(its++its2).toArray:=by simp
 rw [ea];exact ⟨.ref _,_,I.lnew (t':=s.toks) (r.append r2) (by rw [BR];omega),rfl,q _ I.fresh⟩
def OI:R2:=λ x y H Q=>∃ l k xs,x=.ref l/\y=.int k/\H l=some (.lst xs)/\-(2 ^ 63)<=k/\k < 2 ^ 63/\xs.length * k.toNat<=Ap /\
 ∀ p,H p=none->Q (.ref p) (Am H p (.lst (AH k.toNat xs).flatten))
theorem Yz {α:Type} (xs:List α) (k:Nat):(AH k xs).flatten.length=k * xs.length:=by
 induction k with
 | zero=>simp
 | succ k ih=>rw [FZ,HZ,BR,ih,Nat.succ_mul,Nat.add_comm]
def qmu:OpR X (Dt .Mult) OI:=by
 intro pins s σ H x y v u Q I rx ry h;obtain ⟨l,k,xs,rfl,rfl,hH,h1,h2,hz,q⟩:=h;cases rx;obtain ⟨t,rfl⟩:=ry;obtain ⟨z,its,n,r,hl,e⟩:=I.lstM hH;have hlen:its.toArray.size * k.toNat<=Ap:=by rw [Bl,<- hl];exact hz
 have hcap:¬ its.toArray.size * k.toNat > (2 ^ 63 - 1) / 8:=by
  have:(Ap:Nat)<=(2 ^ 63 - 1) / 8:=by decide
  omega
 have hfit:¬ (!Builtin.List.listFitsIndex k)=true:=by
  rw [fitsIndex_both h1 h2];exact C8
 have hlong:¬ LO (its.toArray.size * k.toNat)=true:=by
  rw [QT hlen];exact C8
 have hnew:P5 (λ x1 x2=>x1++x2) #[] (AH (if its.toArray.isEmpty=true then 0 else k.toNat) its.toArray)=(AH k.toNat its).flatten.toArray:=by
  have f0:∀ m:Nat,P5 (λ x1 x2=>x1++x2) #[] (AH m its.toArray)=(AH m its).flatten.toArray:=λ m=>by
   have:=Rw its m []
   rw [FV] at this;exact this
  rw [f0];cases its with
  | nil=>simp
  | cons a r'=>rw [if_neg (by simp)]
 refine wpAny_binaryOp_repeat_ref (T := "list") (U := "int") (by decide) ⟨_,e,rfl⟩ (λ s'=>typeIs_int s' k t) noFill_list_mul F.fills_int_mul F.slot_int_rmul repeat_list F.slot_int_index.lookup
  (Hv F.slot_int_rmul (typeIs_int s k t) F.entry_int_rmul (F.args_int_rmul_2 _ _) (int___rmul___int_list k t l its.toArray n)
   ⟨e,rfl,⟨_,e,rfl⟩,Hv F.slot_list_mul ⟨_,e,rfl⟩ F.entry_list_mul (F.args_list_mul_2 _ _) (AutoListH.list___mul___list_int_3 l its.toArray n k t hfit hcap hlong) ⟨e,?_⟩⟩)
 rw [hnew];exact ⟨.ref _,_,I.lnew (t':=s.toks) (r.rep k.toNat) (by rw [Yz,U7];exact hz),rfl,q _ I.fresh⟩
end
section
variable {prog:A0}{w:Ay}{A:AJ}{E:Ac->Af->Prop}{s:Af}
end
section
variable {X:Cx}
end
end L2
namespace Att
open PySem PySem.W PySem.Calls PyProof.Rows
theorem V1 {P:Params}{h:Heap}:∀ (ns:List Int) (vs:List Ac),WellAll P h vs (ns.map WData.int)->FG vs ns:=by
 intro ns;induction ns with
 | nil=>
  intro vs w;rw [FT] at w;cases w;exact .nil
 | cons n ns ih=>
  intro vs w;rw [BH] at w;cases w with
  | cons a b=>
   cases a;exact .cons _ _ (ih _ b)
theorem xu {l:OpenLaw}{n:Nat} (hn:l.most=some n) {P:Params}{h:Heap}{args:List WData}{vals:List Ac}
  (hpre:l.row.toRowW.claim.pre args=true) (hwl:WellAll P h vals args):
  ∃ a vs ns,vals=[Value.ref a]/\args=[WData.list (ns.map WData.int)]/\h.get? a=some { cls:=.type "list",data:=.seq vs.toArray }/\FG vs ns/\ns.length<=n:=by
 have hsh:WShape.hasAll [] args [.list .int]=true:=(pre_splitW hpre).1;have hc:l.pre.holds [] { args:=args }=true:=(pre_splitW hpre).2;obtain ⟨d,r,rfl,h1,h2⟩:=hasAllW_cons hsh;obtain rfl:=hasAllW_nil h2;obtain ⟨xs,rfl,h3⟩:=hasW_list h1;obtain ⟨ns,rfl⟩:=items_int h3;have hlen:ns.length<=n:=by
  unfold OpenLaw.pre at hc;have h4:(WTm.not (.lt (.lit (.int (n:Int))) (.len (.arg 0)))).holds [] { args:=[.list (ns.map .int)] }=true:=by
   have h4:=(holds_andW hc).1;rw [hn] at h4;exact h4
  have h5:=condW_of h4 (w_not (w_lt w_lit (w_len_list (w_arg rfl))));rw [AF] at h5;refine Nat.le_of_not_lt λ q=>?_;have q':(n:Int) < ((ns.length:Nat):Int):=by omega
  first
   | (rw [decide_eq_true q'] at h5;exact absurd h5 (by decide))
   | (simp at h5;omega)
 cases hwl with
 | cons w1 w2=>
  cases w2;cases w1 with
  | list ho hall=>exact ⟨_,_,ns,rfl,rfl,ho,V1 ns _ hall,hlen⟩
def xk (l:OpenLaw) (args:List WData):l.row.toRowW.claim.post args (.bool true) args=true:=
 postW_of (r:=l.row.toRowW) (X:=(true == true))
  (show WShape.has [] (.bool true) .bool=true by first | rfl | decide | simp [WShape.has,WShape.arms,WShape.armsAll])
  (show (WTm.eq .res (.lit (.bool true))).value [] { args:=args,res:=some (.bool true),after:=args }=some (.bool (true == true)) from w_eq_bool (w_res rfl) w_lit) rfl
def attach_call {l:OpenLaw}{n:Nat}{q:A0}{loose:List Str}{XP:(Str->Option Ac)->Heap->Prop}{YP:Ay->Heap->Prop}{d:DefRec}
  (hn:l.most=some n) (hdf:d.params.defaults=[])
  (call:∀ (w:Ay) (s₀ s₁:Af) (mg mb:Str->Option Ac) (fa:Addr) (o:Obj) (pm cd doc:Ac) (a:Addr) (vs:List Ac) (ns:List Int),
   Ground q loose [] XP w s₀ mg mb s₁.heap->YP w s₁.heap ->
   s₁.heap.get? fa=some o->o.data=.func (docDef d.name d.params d.body d.scope pm cd doc)->s₁.heap.CodeRec cd d.name->mg d.name=some (.ref fa) ->
   s₁.heap.get? a=some { cls:=.type "list",data:=.seq vs.toArray }->FG vs ns->ns.length<=n->s₁.gens=#[] ->
   GV (An l.prog w) Hs (.call (.ref fa) ⟨[.ref a],[]⟩) (λ r s'=>r=.ok (.ret (.bool true))/\OldK s₁.heap s'.heap/\s'.os=s₁.os/\Es s'.gens) s₁):
  WalkO q loose XP YP l.row.toRowW d [] (λ f vs=>PySem.call f vs):=by
 intro w s₀ s₁ mg mb G Y fa o pm cd doc dV kV ho hd hcd hD hmg hg args vals as hpre hlay hrd hwl hlo;obtain rfl:dV=.none:=Dflts.none hD hdf;obtain rfl:kV=.none:=Dflts.noKw hD;obtain ⟨a,vs,ns,rfl,rfl,hobj,hints,hlen⟩:=xu hn hpre hwl;refine enter_call (JP (call w s₀ s₁ mg mb fa o pm cd doc a vs ns G Y ho (fd_plain hd) hcd hmg hobj hints hlen hg) λ r s' hq=>?_);obtain ⟨rfl,h2,h3,h4⟩:=hq;exact ⟨.inl ⟨.bool true,.bool true,[],rfl,λ _=>rfl,.bool true,xk l _,λ _=>⟨List.Pairwise.nil,λ _ hm=>(nomatch hm)⟩⟩,h2,h3,h4⟩
section
variable {prog:A0}{w:Ay}{A:AJ}{E:Ac->Af->Prop}{s:Af}{K:Frag}
end
end Att
namespace L2
open PySem PySem.Spec PyProof.Rows
theorem Q1:∀ {vs:List Ac}{ns:List Int},FG vs ns->Vals (ns.map V.int) vs
 | _,_,.nil=>.nil
 | _,_,.cons n t h=>.cons ⟨t,rfl⟩ (Q1 h)
def Gk (H:Hp):Prop:=∀ b,H b=none\/∃ o xs,H b=some (.frz o (.lst xs))
theorem qp {P:A0}{w:Ay}{K:PySem.W.Frag}{mg mb:Str->Option Ac}{CX:DS}{k:Nat}{fa a:Addr}{fd:Cr}{x:Str}{sp:Sp}{s₁:Af}{vs:List Ac}{ns:List Int}
  (KX:K.In s₁.heap) (hns:s₁.heap.Ns Dv mg) (hb:s₁.heap.Ns builtinsNs mb) (hbb:∀ x:Str,x ≠ "__name__" -> mb x=Hy x) (hlim:s₁.heap.NoLimit) (hg:s₁.gens=#[])
  (ha:s₁.heap.get? a=some { cls:=.type "list",data:=.seq vs.toArray }) (hi:FG vs ns) (hl:ns.length<=Ap) (hr:Room k Hs)
  (F:∀ base:Heap,K.In base->base.Ns Dv mg->FnOk P w K mg base CX k fa fd [x] sp) (hbind:∀ (s:Af) (u:Ac),BindsTo s fd ⟨[u],[]⟩ [(x,u)])
  (hsp:∀ H:Hp,Gk H->AN K H a (ns.map V.int)->sp [.ref a] H (λ v _=>v=.bl true) λ _ _ _=>False)
  (hCX:∀ H e s',CX [] H s₁ (λ _ _ _=>False) e s'->False):
  GV (An P w) Hs (.call (.ref fa) ⟨[.ref a],[]⟩) (λ r s'=>r=.ok (.ret (.bool true))/\OldK s₁.heap s'.heap/\s'.os=s₁.os/\Es s'.gens) s₁:=by
 have rv:=Q1 hi;have lenV:=hi.length;have core:∀ H:Hp,Gk H->AN K H a (ns.map V.int)->HOk P w H s₁.heap->(∀ b,H b≠none->b=a)->(H a≠none->K.lookup a=none) ->
   GV (An P w) Hs (.call (.ref fa) ⟨[.ref a],[]⟩) (λ r s'=>r=.ok (.ret (.bool true))/\OldK s₁.heap s'.heap/\s'.os=s₁.os/\Es s'.gens) s₁:=by
  intro H hO hS hok hA hK;have base_of:∀ {b:Addr}{o:Obj},s₁.heap.get? b=some o->H b=none->(CL s₁.heap H).get? b=some o:=λ e n=>ZJ e n;have noA:∀ {b:Addr}{o:Obj}{es:Array DictEntry}{ep:Nat},s₁.heap.get? b=some o->o.data=.dict es ep->H b=none:=λ {b o es ep} e d=>by
   cases q:H b with
   | none=>rfl
   | some u=>
    have e':b=a:=hA b (by rw [q];simp);subst e';rw [ha] at e;cases e;have d':Data.seq vs.toArray _=Data.dict es ep:=d;cases d'
  have nsK:∀ {b:Addr}{m:Str->Option Ac},s₁.heap.Ns b m->(CL s₁.heap H).Ns b m:=λ {b m} ⟨o,es,ep,e,d,r⟩=>⟨o,es,ep,base_of e (noA e d),d,r⟩
  have hKb:K.In (CL s₁.heap H):=λ b o e=>base_of (KX b o e) (by
   cases q:H b with
   | none=>rfl
   | some u=>
    have e':b=a:=hA b (by rw [q];simp);subst e';rw [hK (by rw [q];simp)] at e;cases e)
  have hM:Mod K mg (CL s₁.heap H):=⟨hKb,nsK hns,⟨mb,nsK hb,hbb⟩,let ⟨mc,h1,h2⟩:=hlim;⟨mc,nsK h1,h2⟩⟩
  have e0:Env0 P w K mg (CL s₁.heap H) Hs [] s₁ H:=⟨rfl,hM,λ b o e=>Y2 e,Nat.le_of_eq (xh _ _),trivial,λ b hb=>absurd (show b∈([]:List Addr) from hb) (by simp),hok,.of_eq hg⟩
  refine JP ((F _ hKb (nsK hns)).run Hs [] s₁ H ⟨[.ref a],[]⟩ [.ref a] [.ref a] _ _ hr e0 (hbind s₁ (.ref a)) (.cons rfl .nil) (hsp H hO hS)) λ r s' h=>?_;cases r with
  | error e=>exact (hCX H e s' h).elim
  | ok fl=>
   cases fl with
   | next=>exact CW h
   | brk=>exact CW h
   | cont=>exact CW h
   | ret u=>
    obtain ⟨v,H',os,bare,un,hok',r',q⟩:=h;have q':v=.bl true:=q;subst q';obtain rfl:u=Value.bool true:=r';refine ⟨rfl,OldK.of_keep λ b o e=>?_,os,bare⟩;cases q:H b with
    | none=>exact un.keep b o e q (by intro z;exact absurd (show b∈([]:List Addr) from z) (by simp)) (by simp)
    | some u=>
     rcases hO b with z | ⟨ob,xs,z⟩
     ·rw [q] at z;cases z
     ·have z2:=un.frzs b ob _ z;obtain ⟨e1,_⟩:=hok b _ z;obtain ⟨e2,_⟩:=hok' b _ z2;rw [e] at e1;cases e1;exact e2
 cases hk:K.lookup a with
 | some o=>
  have e:=KX a o hk;rw [ha] at e;cases e;refine core (λ _=>none) (λ _=>.inl rfl) (.inr ⟨_,vs.toArray,_,hk,rfl,rfl,rfl,by rw [Bl,lenV];exact hl,by simpa using rv⟩) (λ b u z=>by have z':(none:Option HO)=some u:=z;cases z') (λ b z=>absurd rfl z) λ z=>absurd rfl z
 | none=>
  refine core (λ b=>if b=a then some (.frz { cls:=.type "list",data:=.seq vs.toArray } (.lst (ns.map V.int))) else none) (λ b=>?_) (.inl (.inr ⟨{ cls:=.type "list",data:=.seq vs.toArray },if_pos rfl⟩)) (λ b u z=>?_) (λ b z=>?_) λ _=>hk
  ·by_cases hb:b=a
   ·exact .inr ⟨_,_,if_pos hb⟩
   ·exact .inl (if_neg hb)
  ·by_cases hb:b=a
   ·have z':=(if_pos hb).symm.trans z;cases z';subst hb;exact ⟨ha,by rw [AF];exact hl,vs,_,rv,ha⟩
   ·have z':=(if_neg hb).symm.trans z;cases z'
  ·by_cases hb:b=a
   ·exact hb
   ·exact absurd (if_neg hb) z
abbrev E0:XK:=λ _ _ _=>False
structure Fun (K:PySem.W.Frag) (x qual:Str) (st:Stmt) (f:Addr) (fd:Cr):Prop where
 ex:∃ (oc:Ac) (od:Option Addr) (kV doc pm:Ac) (an:Option Addr) (cdv ct:Ac) (osl:Array (Option Ac)),
  fd=IM x qual (JD st) (Ba st) (Ax st) .none kV doc pm an cdv ct/\K.lookup f=some ⟨oc,od,.func fd,osl⟩/\Od K cdv qual=true
 kp:GY K (.ref f)=true
section
variable {P:A0}{w:Ay}{K:PySem.W.Frag}{mg:Str->Option Ac}{base:Heap}
def Fun.binds {x qual:Str}{st:Stmt}{f:Addr}{fd:Cr}{ps:List Str} (F:Fun K x qual st f fd)
  (h:∀ (kV doc pm:Ac) (an:Option Addr) (cdv ct:Ac) (us:List Ac),us.length=ps.length->bindArgs (IM x qual (JD st) (Ba st) (Ax st) .none kV doc pm an cdv ct) ⟨us,[]⟩=pure (ps.zip us)):zky K fd ps []:=by
 obtain ⟨oc,od,kV,doc,pm,an,cdv,ct,osl,rfl,lk,hcd⟩:=F.ex;exact .all (h kV doc pm an cdv ct)
def Wy {x qual:Str}{st:Stmt}{f:Addr}{oc:Ac}{od an:Option Addr}{osl:Array (Option Ac)}{kV doc pm cdv ct:Ac} (l:K.lookup f=some ⟨oc,od,.func (IM x qual (JD st) (Ba st) (Ax st) .none kV doc pm an cdv ct),osl⟩)
  (c:Od K cdv qual=true) (k:GY K (.ref f)=true):Fun K x qual st f (IM x qual (JD st) (Ba st) (Ax st) .none kV doc pm an cdv ct):=⟨⟨oc,od,kV,doc,pm,an,cdv,ct,osl,rfl,l,c⟩,k⟩
end
section
variable {X:Cx}
end
end L2
namespace QQ
open PySem PySem.Spec PyProof.Rows L2
abbrev St:=L2.St
def KL (K:Frag) (a:Addr) (xs:List V):Prop:=∃ (o:Obj) (its:Array Ac) (n:Nat),K.lookup a=some o/\o.cls=.type "list" /\ o.dict=none/\o.data=.seq its n/\its.size<=Ap/\Vals xs its.toList
def Uc {K:Frag}{H:Hp}{a:Addr}{xs:List V} (h:AN K H a xs):OB K "list" (.ref a) H:=.inl ⟨rfl,xs,h⟩
def Vy (z:Str):It:=⟨λ i _=>i < z.cps.size,λ i H v H'=>H'=H/\∃ c,z.cps[i]?=some c/\v=.str ⟨#[c]⟩,λ i _=>z.cps.size<=i⟩
def M8 (z:Str):Bool:=z.cps.all (·< 128)
def E7 (K:Frag) (tl:TE):TI:=λ σ H R=>tl σ H λ x H1=>(∃ a,x=.ref a/\(((∃ xs,AN K H1 a xs)/\R (Vx K a) H1)\/((∃ xs,SqT K H1 a xs)/\R (Vv K a) H1)))\/∃ z,x=.str z/\M8 z=true/\R (Vy z) H1
def Hr (k:Nat) (wi:TI) (g:TG) (tc:TT) (te:TE):TE:=λ σ H Q=>wi σ H λ J H1=>∀ D,H1 D=none->∃ W:Nat->Nat->List V->Hp->Prop,(∃ m,W 0 m [] (Am H1 D (.lst [])))/\∀ i m ys H,W i m ys H->H D=some (.lst ys) /\
 ((J.stop i H/\Q (.ref D) H)\/(J.go i H/\∀ x H',J.yld i H x H'->g x (σ++AH k none) H' λ σ2 H2=>tc σ2 H2 λ b H3=>if b=true then te σ2 H3 λ y H4=>H4 D=some (.lst ys)/\ys.length < Ap/\∃ m',m' < m/\W (i + 1) m' (ys++[y]) (Am H4 D (.lst (ys++[y]))) else ∃ m',m' < m/\W (i + 1) m' ys H3))
inductive MO where
 | l (xs:List V) | d (kvs:List (List AG×V))
def MO.ho:MO->HO
 | .l xs=>.lst xs
 | .d kvs=>.dT kvs
def Ki (a C:Addr) (h:Heap):Prop:=∃ o vs,h.get? a=some o/\o.cls=.ref C/\o.data=.fields vs
def om:Nat:=1000
def pd (d:Nat):Nat:=if d=om then om else d - 1
def EU:pd om=om:=rfl
def NQ:pd 0=0:=rfl
mutual
def Own (K:Frag) (H:Hp) (Z:Addr->Prop):PV->Nat->V->List Addr->Prop
 | .non,_,v,fp=>v=.non/\fp=[]
 | .bl b,_,v,fp=>v=.bl b/\fp=[]
 | .int i,_,v,fp=>v=.int i/\fp=[]
 | .str x,_,v,fp=>v=.str x/\fp=[]
 | .emp,_,v,fp=>fp=[]/\∃ a,v=.ref a/\H a=some (.dK [])
 | .dko,_,v,fp=>fp=[]/\∃ a,v=.ref a/\∃ kvs,H a=some (.dK kvs)
 | .scr ns,_,v,fp=>fp=[]/\∃ a,v=.ref a/\((∃ o,H a=some (.frz o (.lst (ns.map V.int))))\/KL K a (ns.map V.int))
 | .exn c,_,v,fp=>fp=[]/\∃ a C,v=.ref a/\C6 K c=some C/\H a=some (.ext (Ki a C))
 | .dct kvs,d,v,fp=>∃ a,v=.ref a/\((d=0/\(H a=some (.dT kvs)/\¬ Z a)/\fp=[])\/(d≠0/\H a=some (.dT kvs)/\fp=[a]))
 | .lst xs,d,v,fp=>∃ a vs,v=.ref a/\((d=0/\(H a=some (.lst vs)/\¬ Z a)/\fp=[]/\OwnL K H Z xs 0 vs [])\/(d≠0/\∃ f,H a=some (.lst vs)/\fp=a::f/\a∉f/\OwnL K H Z xs (pd d) vs f))
 | .tup xs,d,v,fp=>∃ a vs,v=.ref a/\H a=some (.tup vs)/\OwnL K H Z xs (pd d) vs fp
def OwnL (K:Frag) (H:Hp) (Z:Addr->Prop):List PV->Nat->List V->List Addr->Prop
 | [],_,vs,fp=>vs=[]/\fp=[]
 | x::xs,d,vs,fp=>∃ v r f1 f2,vs=v::r/\fp=f1++f2/\(∀ a∈f1,a∉f2)/\Own K H Z x d v f1/\OwnL K H Z xs d r f2
end
def Cg (S:Addr->Prop) (H H':Hp):Prop:=∀ a o,H a=some o->¬ S a->H' a=some o
section
variable {K:Frag}{H H':Hp}{Z Z' S:Addr->Prop}
mutual
theorem Own.lsts:∀ (x:PV) (d:Nat) (v:V) (fp:List Addr),Own K H Z x d v fp->∀ a∈fp,∃ o:MO,H a=some o.ho
 | .non,_,_,_,h,a,ha=>by rw [Own] at h;rw [h.2] at ha;cases ha
 | .bl _,_,_,_,h,a,ha=>by rw [Own] at h;rw [h.2] at ha;cases ha
 | .int _,_,_,_,h,a,ha=>by rw [Own] at h;rw [h.2] at ha;cases ha
 | .str _,_,_,_,h,a,ha=>by rw [Own] at h;rw [h.2] at ha;cases ha
 | .emp,_,_,_,h,a,ha=>by rw [Own] at h;rw [h.1] at ha;cases ha
 | .dko,_,_,_,h,a,ha=>by rw [Own] at h;rw [h.1] at ha;cases ha
 | .scr _,_,_,_,h,a,ha=>by rw [Own] at h;rw [h.1] at ha;cases ha
 | .exn _,_,_,_,h,a,ha=>by rw [Own] at h;rw [h.1] at ha;cases ha
 | .dct kvs,d,v,fp,h,a,ha=>by
  rw [Own] at h;obtain ⟨b,_,⟨_,_,e⟩ | ⟨_,hb,e⟩⟩:=h
  ·rw [e] at ha;cases ha
  ·rw [e] at ha;rw [jb2.mp ha];exact ⟨.d kvs,hb⟩
 | .lst xs,d,v,fp,h,a,ha=>by
  rw [Own] at h;obtain ⟨b,vs,_,⟨_,_,e,_⟩ | ⟨_,f,hb,e,_,hl⟩⟩:=h
  ·rw [e] at ha;cases ha
  ·rw [e] at ha;rcases ja8.mp ha with z | z
   ·exact ⟨.l vs,by rw [z];exact hb⟩
   ·exact OwnL.lsts xs _ vs f hl a z
 | .tup xs,d,v,fp,h,a,ha=>by
  rw [Own] at h;obtain ⟨b,vs,_,_,hl⟩:=h;exact OwnL.lsts xs _ vs fp hl a ha
theorem OwnL.lsts:∀ (xs:List PV) (d:Nat) (vs:List V) (fp:List Addr),OwnL K H Z xs d vs fp->∀ a∈fp,∃ o:MO,H a=some o.ho
 | [],_,_,_,h,a,ha=>by rw [OwnL] at h;rw [h.2] at ha;cases ha
 | x::xs,d,vs,fp,h,a,ha=>by
  rw [OwnL] at h;obtain ⟨v,r,f1,f2,_,e,_,h1,h2⟩:=h;rw [e] at ha;rcases jc2.mp ha with z | z
  ·exact Own.lsts x d v f1 h1 a z
  ·exact OwnL.lsts xs d r f2 h2 a z
end
mutual
theorem Own.move (k:Cg S H H') (hS:∀ a,S a->Z a/\∃ o:MO,H a=some o.ho) (hz:∀ a,H a≠none->¬ Z a->¬ Z' a):
  ∀ (x:PV) (d:Nat) (v:V) (fp:List Addr),(∀ a∈fp,¬ S a)->Own K H Z x d v fp->Own K H' Z' x d v fp
 | .non,_,_,_,_,h=>by rw [Own] at h ⊢;exact h
 | .bl _,_,_,_,_,h=>by rw [Own] at h ⊢;exact h
 | .int _,_,_,_,_,h=>by rw [Own] at h ⊢;exact h
 | .str _,_,_,_,_,h=>by rw [Own] at h ⊢;exact h
 | .emp,_,_,_,_,h=>by
  rw [Own] at h ⊢;obtain ⟨e,a,ev,ha⟩:=h;exact ⟨e,a,ev,k a _ ha λ s=>by obtain ⟨_,o,e⟩:=hS a s;rw [ha] at e;cases o <;> cases e⟩
 | .dko,_,_,_,_,h=>by
  rw [Own] at h ⊢;obtain ⟨e,a,ev,kvs,ha⟩:=h;exact ⟨e,a,ev,kvs,k a _ ha λ s=>by obtain ⟨_,o,e⟩:=hS a s;rw [ha] at e;cases o <;> cases e⟩
 | .scr ns,_,_,_,_,h=>by
  rw [Own] at h ⊢;obtain ⟨e,a,ev,⟨o,ha⟩ | ha⟩:=h
  ·exact ⟨e,a,ev,.inl ⟨o,k a _ ha λ s=>by obtain ⟨_,q,e⟩:=hS a s;rw [ha] at e;cases q <;> cases e⟩⟩
  ·exact ⟨e,a,ev,.inr ha⟩
 | .exn c,_,_,_,_,h=>by
  rw [Own] at h ⊢;obtain ⟨e,a,C,ev,hc,ha⟩:=h;exact ⟨e,a,C,ev,hc,k a _ ha λ s=>by obtain ⟨_,q,e⟩:=hS a s;rw [ha] at e;cases q <;> cases e⟩
 | .dct kvs,d,v,fp,hf,h=>by
  rw [Own] at h ⊢;obtain ⟨b,ev,⟨d0,hr,e⟩ | ⟨d0,hb,e⟩⟩:=h
  ·exact ⟨b,ev,.inl ⟨d0,⟨k b _ hr.1 λ s=>hr.2 (hS b s).1,hz b (by rw [hr.1];simp) hr.2⟩,e⟩⟩
  ·exact ⟨b,ev,.inr ⟨d0,k b _ hb (hf b (by rw [e];exact AI)),e⟩⟩
 | .lst xs,d,v,fp,hf,h=>by
  rw [Own] at h ⊢;obtain ⟨b,vs,ev,⟨d0,hr,e,hl⟩ | ⟨d0,f,hb,e,nb,hl⟩⟩:=h
  ·refine ⟨b,vs,ev,.inl ⟨d0,?_,e,OwnL.move k hS hz xs 0 vs [] (λ _ z=>nomatch z) hl⟩⟩;exact ⟨k b _ hr.1 λ s=>hr.2 (hS b s).1,hz b (by rw [hr.1];simp) hr.2⟩
  ·refine ⟨b,vs,ev,.inr ⟨d0,f,k b _ hb (hf b (by rw [e];exact AI)),e,nb,?_⟩⟩;exact OwnL.move k hS hz xs _ vs f (λ a ha=>hf a (by rw [e];exact AB _ ha)) hl
 | .tup xs,d,v,fp,hf,h=>by
  rw [Own] at h ⊢;obtain ⟨b,vs,ev,hr,hl⟩:=h;exact ⟨b,vs,ev,k b _ hr (λ s=>by obtain ⟨_,o,e⟩:=hS b s;rw [hr] at e;cases o <;> cases e),OwnL.move k hS hz xs _ vs fp hf hl⟩
theorem OwnL.move (k:Cg S H H') (hS:∀ a,S a->Z a/\∃ o:MO,H a=some o.ho) (hz:∀ a,H a≠none->¬ Z a->¬ Z' a):
  ∀ (xs:List PV) (d:Nat) (vs:List V) (fp:List Addr),(∀ a∈fp,¬ S a)->OwnL K H Z xs d vs fp->OwnL K H' Z' xs d vs fp
 | [],_,_,_,_,h=>by rw [OwnL] at h ⊢;exact h
 | x::xs,d,vs,fp,hf,h=>by
  rw [OwnL] at h ⊢;obtain ⟨v,r,f1,f2,e1,e,dj,h1,h2⟩:=h;exact ⟨v,r,f1,f2,e1,e,dj,Own.move k hS hz x d v f1 (λ a ha=>hf a (by rw [e];exact AZ _ ha)) h1,OwnL.move k hS hz xs d r f2 (λ a ha=>hf a (by rw [e];exact AL _ ha)) h2⟩
end
mutual
theorem Own.freeze (hz:∀ a,Z' a->Z a):∀ (x:PV) (d:Nat) (v:V) (fp:List Addr),(∀ a∈fp,¬ Z' a)->Own K H Z x d v fp->Own K H Z' x 0 v []
 | .non,_,_,_,_,h=>by rw [Own] at h ⊢;exact ⟨h.1,rfl⟩
 | .bl _,_,_,_,_,h=>by rw [Own] at h ⊢;exact ⟨h.1,rfl⟩
 | .int _,_,_,_,_,h=>by rw [Own] at h ⊢;exact ⟨h.1,rfl⟩
 | .str _,_,_,_,_,h=>by rw [Own] at h ⊢;exact ⟨h.1,rfl⟩
 | .emp,_,_,_,_,h=>by rw [Own] at h ⊢;exact ⟨rfl,h.2⟩
 | .dko,_,_,_,_,h=>by rw [Own] at h ⊢;exact ⟨rfl,h.2⟩
 | .scr _,_,_,_,_,h=>by rw [Own] at h ⊢;exact ⟨rfl,h.2⟩
 | .exn _,_,_,_,_,h=>by rw [Own] at h ⊢;exact ⟨rfl,h.2⟩
 | .dct kvs,d,v,fp,hf,h=>by
  rw [Own] at h ⊢;obtain ⟨b,ev,⟨d0,hr,e⟩ | ⟨d0,hb,e⟩⟩:=h
  ·exact ⟨b,ev,.inl ⟨rfl,⟨hr.1,λ z=>hr.2 (hz b z)⟩,rfl⟩⟩
  ·exact ⟨b,ev,.inl ⟨rfl,⟨hb,hf b (by rw [e];exact AI)⟩,rfl⟩⟩
 | .lst xs,d,v,fp,hf,h=>by
  rw [Own] at h ⊢;obtain ⟨b,vs,ev,⟨d0,hr,e,hl⟩ | ⟨d0,f,hb,e,nb,hl⟩⟩:=h
  ·refine ⟨b,vs,ev,.inl ⟨rfl,?_,rfl,OwnL.freeze hz xs 0 vs [] (λ _ z=>nomatch z) hl⟩⟩;exact ⟨hr.1,λ z=>hr.2 (hz b z)⟩
  ·exact ⟨b,vs,ev,.inl ⟨rfl,⟨hb,hf b (by rw [e];exact AI)⟩,rfl,OwnL.freeze hz xs _ vs f (λ a ha=>hf a (by rw [e];exact AB _ ha)) hl⟩⟩
 | .tup xs,d,v,fp,hf,h=>by
  rw [Own] at h ⊢;obtain ⟨b,vs,ev,hr,hl⟩:=h;exact ⟨b,vs,ev,hr,OwnL.freeze hz xs _ vs fp hf hl⟩
theorem OwnL.freeze (hz:∀ a,Z' a->Z a):∀ (xs:List PV) (d:Nat) (vs:List V) (fp:List Addr),(∀ a∈fp,¬ Z' a)->OwnL K H Z xs d vs fp->OwnL K H Z' xs 0 vs []
 | [],_,_,_,_,h=>by rw [OwnL] at h ⊢;exact ⟨h.1,rfl⟩
 | x::xs,d,vs,fp,hf,h=>by
  rw [OwnL] at h ⊢;obtain ⟨v,r,f1,f2,e1,e,dj,h1,h2⟩:=h;exact ⟨v,r,[],[],e1,rfl,λ _ z=>(nomatch z),Own.freeze hz x d v f1 (λ a ha=>hf a (by rw [e];exact AZ _ ha)) h1,OwnL.freeze hz xs d r f2 (λ a ha=>hf a (by rw [e];exact AL _ ha)) h2⟩
end
mutual
theorem Own.full:∀ (x:PV) (v:V) (fp:List Addr),Own K H Z x om v fp->Own K H Z' x om v fp
 | .non,_,_,h=>by rw [Own] at h ⊢;exact h
 | .bl _,_,_,h=>by rw [Own] at h ⊢;exact h
 | .int _,_,_,h=>by rw [Own] at h ⊢;exact h
 | .str _,_,_,h=>by rw [Own] at h ⊢;exact h
 | .emp,_,_,h=>by rw [Own] at h ⊢;exact h
 | .dko,_,_,h=>by rw [Own] at h ⊢;exact h
 | .scr _,_,_,h=>by rw [Own] at h ⊢;exact h
 | .exn _,_,_,h=>by rw [Own] at h ⊢;exact h
 | .dct kvs,v,fp,h=>by
  rw [Own] at h ⊢;obtain ⟨b,ev,⟨d0,_⟩ | ⟨d0,hb,e⟩⟩:=h
  ·exact absurd d0 (by decide)
  ·exact ⟨b,ev,.inr ⟨d0,hb,e⟩⟩
 | .lst xs,v,fp,h=>by
  rw [Own] at h ⊢;obtain ⟨b,vs,ev,⟨d0,_⟩ | ⟨d0,f,hb,e,nb,hl⟩⟩:=h
  ·exact absurd d0 (by decide)
  ·exact ⟨b,vs,ev,.inr ⟨d0,f,hb,e,nb,OwnL.full xs vs f hl⟩⟩
 | .tup xs,v,fp,h=>by
  rw [Own] at h ⊢;obtain ⟨b,vs,ev,hr,hl⟩:=h;exact ⟨b,vs,ev,hr,OwnL.full xs vs fp hl⟩
theorem OwnL.full:∀ (xs:List PV) (vs:List V) (fp:List Addr),OwnL K H Z xs om vs fp->OwnL K H Z' xs om vs fp
 | [],_,_,h=>by rw [OwnL] at h ⊢;exact h
 | x::xs,vs,fp,h=>by
  rw [OwnL] at h ⊢;obtain ⟨v,r,f1,f2,e1,e,dj,h1,h2⟩:=h;exact ⟨v,r,f1,f2,e1,e,dj,Own.full x v f1 h1,OwnL.full xs r f2 h2⟩
end
def Own.weak (hz:∀ a,Z' a->Z a) {x:PV}{d:Nat}{v:V}{fp:List Addr} (h:Own K H Z x d v fp):Own K H Z' x d v fp:=
 Own.move (S:=λ _=>False) (λ _ _ h _=>h) (λ _ z=>z.elim) (λ a _ n z=>n (hz a z)) x d v fp (λ _ _ z=>z) h
def OwnL.weak (hz:∀ a,Z' a->Z a) {xs:List PV}{d:Nat}{vs:List V}{fp:List Addr} (h:OwnL K H Z xs d vs fp):OwnL K H Z' xs d vs fp:=
 OwnL.move (S:=λ _=>False) (λ _ _ h _=>h) (λ _ z=>z.elim) (λ a _ n z=>n (hz a z)) xs d vs fp (λ _ _ z=>z) h
end
abbrev Slot:=Option (PV×Nat)
abbrev Ae:=List Slot
inductive Rz (α:Type) where
 | ok (a:α) | exc (c:Nat) | no
def Rz.bind {α β:Type} (r:Rz α) (f:α->Rz β):Rz β:=match r with
 | .ok a=>f a
 | .exc c=>.exc c
 | .no=>.no
abbrev Fx:=Ae->Rz (PV×Nat×Ae)
abbrev Fa:=Ae->Rz (List (PV×Nat)×Ae)
abbrev Fb:=Ae->Rz (Bool×Ae)
structure Fm where
 K:Frag
 Ms:Nat->Bool
 Zo:Addr->Prop
 H₀:Hp
 W:St->Nat->Hp->Prop
 io:Option V
 al:Nat->List Nat
 pn:List (Nat×V):=[]
abbrev AA:=Nat->List Addr
def Fm.Fre (M:Fm) (i:Nat):Prop:=(M.io≠none->i≠0)/\∀ p∈M.pn,p.1≠i
def Zf (M:Fm) (fps:AA):Addr->Prop:=λ a=>M.Zo a\/∃ i,a∈fps i
def Zv (M:Fm) (vs:List Nat) (fps:AA):Addr->Prop:=λ a=>M.Zo a\/∃ i,i∉vs/\a∈fps i
def Za (M:Fm) (fps:AA) (i:Nat):Addr->Prop:=λ a=>M.Zo a\/∃ j,j∉M.al i/\a∈fps j
def Zt (M:Fm) (vs:List Nat) (fps:AA) (fp:List Addr):Addr->Prop:=λ a=>Zv M vs fps a\/a∈fp
def Fm.plus (M:Fm) (fp:List Addr):Fm:={ M with Zo:=λ a=>M.Zo a\/a∈fp }
structure Rep (M:Fm) (ρ:Ae) (σ:St) (H:Hp) (fps:AA):Prop where
 own:∀ i x d,ρ[i]?=some (some (x,d))->∃ v,σ[i]?=some (some v)/\Own M.K H (Za M fps i) x d v (fps i)
 non:∀ i,(∀ p,ρ[i]?≠some (some p))->fps i=[]
 dj:∀ i j,i≠j->∀ a∈fps i,a∉fps j
 zo:∀ i,∀ a∈fps i,¬ M.Zo a
 fr:∀ i,M.Ms i=false->∀ a∈fps i,M.H₀ a=none
 zd:∀ a,M.Zo a->H a≠none
 len:ρ.length=σ.length
 msf:∀ i x d,M.Ms i=true->ρ[i]?=some (some (x,d))->d=om
 h0:∀ a,M.H₀ a≠none->H a≠none
 iov:(∀ v,M.io=some v->σ[0]?=some (some v)/\M.Ms 0=true)/\∀ p∈M.pn,σ[p.1]?=some (some p.2)
def Agr (M:Fm) (ρ ρ':Ae):Prop:=(∀ i,M.Ms i=false->ρ'[i]?=ρ[i]?)/\ρ'.length=ρ.length
structure KD (M:Fm) (H:Hp) (fps:AA) (H':Hp) (fps':AA):Prop where
 keep:Cg (λ a=>∃ i,M.Ms i=true/\a∈fps i) H H'
 dom:∀ a,H a≠none->H' a≠none
 sub:∀ i,∀ a∈fps' i,a∈fps i\/H a=none
 same:∀ i,M.Ms i=false->fps' i=fps i
def Tmps (K:Frag) (H:Hp) (Z:Addr->Prop):List (PV×Nat)->List V->List Addr->Prop
 | [],vs,fp=>vs=[]/\fp=[]
 | (x,d)::xs,vs,fp=>∃ v r f1 f2,vs=v::r/\fp=f1++f2/\(∀ a∈f1,a∉f2)/\Own K H (λ a=>Z a\/a∈f1) x d v f1/\Tmps K H Z xs r f2
structure Temp (M:Fm) (vs:List Nat) (H:Hp) (H':Hp) (fps':AA) (fp:List Addr):Prop where
 new:∀ a∈fp,H a=none
 ndj:∀ a∈fp,¬ Zf M fps' a
section
variable {M:Fm}{ρ ρ':Ae}{σ:St}{H H' H'':Hp}{fps fps' fps'':AA}{vs vs':List Nat}
def Agr.refl:Agr M ρ ρ:=⟨λ _ _=>rfl,rfl⟩
def Agr.trans {ρ'':Ae} (a:Agr M ρ ρ') (b:Agr M ρ' ρ''):Agr M ρ ρ'':=⟨λ i hi=>(b.1 i hi).trans (a.1 i hi),b.2.trans a.2⟩
def KD.refl:KD M H fps H fps:=⟨λ _ _ h _=>h,λ _ h=>h,λ _ _ h=>.inl h,λ _ _=>rfl⟩
def KD.trans (a:KD M H fps H' fps') (b:KD M H' fps' H'' fps''):KD M H fps H'' fps'' where
 keep:=λ x o h n=>b.keep x o (a.keep x o h n) λ ⟨i,hi,hx⟩=>(a.sub i x hx).elim (λ z=>n ⟨i,hi,z⟩) λ z=>by rw [z] at h;cases h
 dom:=λ x h=>b.dom x (a.dom x h)
 sub:=λ i x hx=>(b.sub i x hx).elim (λ z=>a.sub i x z) λ z=>.inr (by
  cases e:H x with
  | none=>rfl
  | some o=>exact absurd z (a.dom x (by rw [e];simp)))
 same:=λ i hi=>(b.same i hi).trans (a.same i hi)
def Za.zf {i:Nat}{a:Addr} (h:Za M fps i a):Zf M fps a:=h.elim .inl λ ⟨j,_,h⟩=>.inr ⟨j,h⟩
def Za.of {i:Nat} (hal:M.al i=[]) {a:Addr} (h:Zf M fps a):Za M fps i a:=h.elim .inl λ ⟨j,h⟩=>.inr ⟨j,(by rw [hal];simp),h⟩
def Rep.own0 (r:Rep M ρ σ H fps) (hal:∀ i,M.al i=[]) (i:Nat) (x:PV) (d:Nat) (e:ρ[i]?=some (some (x,d))):∃ v,σ[i]?=some (some v)/\Own M.K H (Zf M fps) x d v (fps i):=
 let ⟨v,h1,h2⟩:=r.own i x d e;⟨v,h1,h2.weak λ _ h=>Za.of (hal i) h⟩
def Rep.lsts (r:Rep M ρ σ H fps) {i:Nat}{a:Addr} (h:a∈fps i):∃ o:MO,H a=some o.ho:=by
 by_cases hp:∃ p,ρ[i]?=some (some p)
 ·obtain ⟨⟨x,d⟩,e⟩:=hp;obtain ⟨v,_,o⟩:=r.own i x d e;exact Own.lsts x d v _ o a h
 ·rw [r.non i λ p e=>hp ⟨p,e⟩] at h;cases h
def Rep.zdom (r:Rep M ρ σ H fps) {a:Addr} (h:Zf M fps a):H a≠none:=by
 rcases h with h | ⟨i,h⟩
 ·exact r.zd a h
 ·obtain ⟨xs,e⟩:=r.lsts h;rw [e];simp
def Rep.nz (r:Rep M ρ σ H fps) {a:Addr} (h:H a=none):¬ Zf M fps a:=λ z=>r.zdom z h
def Zv.zf {a:Addr} (h:Zv M vs fps a):Zf M fps a:=h.elim .inl λ ⟨i,_,h⟩=>.inr ⟨i,h⟩
def Zv.mono (hv:∀ i∈vs',i∈vs) {a:Addr} (h:Zv M vs fps a):Zv M vs' fps a:=h.elim .inl λ ⟨i,n,h⟩=>.inr ⟨i,λ z=>n (hv i z),h⟩
def Zt.mono (hv:∀ i∈vs',i∈vs) {a:Addr}{fp:List Addr} (h:Zt M vs fps fp a):Zt M vs' fps fp a:=h.elim (λ h=>.inl (h.mono hv)) .inr
def KD.stay (k:KD M H fps H' fps') (r:Rep M ρ σ H fps) (hv:∀ i∈vs,M.Ms i=false) {x:PV}{d:Nat}{v:V}{fp:List Addr} (h:Own M.K H (Zt M vs fps fp) x d v fp) (hf:∀ a∈fp,¬ Zf M fps a):Own M.K H' (Zt M vs fps' fp) x d v fp:=by
 have h1:∀ a,(∃ i,M.Ms i=true/\a∈fps i)->Zt M vs fps fp a/\∃ o:MO,H a=some o.ho:=by
  rintro a ⟨i,hi,ha⟩;exact ⟨.inl (.inr ⟨i,λ z=>(by rw [hv i z] at hi;cases hi),ha⟩),r.lsts ha⟩
 have h2:∀ a,H a≠none->¬ Zt M vs fps fp a->¬ Zt M vs fps' fp a:=by
  intro a hd nz z;rcases z with (z | ⟨i,ni,hx⟩) | z
  ·exact nz (.inl (.inl z))
  ·rcases k.sub i a hx with z | z
   ·exact nz (.inl (.inr ⟨i,ni,z⟩))
   ·exact hd z
  ·exact nz (.inr z)
 exact Own.move k.keep h1 h2 x d v fp (λ a ha ⟨i,_,hx⟩=>hf a ha (.inr ⟨i,hx⟩)) h
theorem KD.stays (k:KD M H fps H' fps') (r:Rep M ρ σ H fps) (hv:∀ i∈vs,M.Ms i=false):∀ {xs:List (PV×Nat)}{ws:List V}{fp:List Addr},Tmps M.K H (Zv M vs fps) xs ws fp->(∀ a∈fp,¬ Zf M fps a)->Tmps M.K H' (Zv M vs fps') xs ws fp
 | [],_,_,h,_=>h
 | (x,d)::xs,ws,fp,h,hf=>by
  obtain ⟨v,s,f1,f2,e1,e2,dj,h1,h2⟩:=h;exact ⟨v,s,f1,f2,e1,e2,dj,k.stay r hv h1 λ a ha=>hf a (by rw [e2];exact AZ _ ha),k.stays r hv h2 λ a ha=>hf a (by rw [e2];exact AL _ ha)⟩
theorem Tmps.weak {K:Frag}{Z Z':Addr->Prop} (hz:∀ a,Z' a->Z a):∀ {xs:List (PV×Nat)}{ws:List V}{fp:List Addr},Tmps K H Z xs ws fp->Tmps K H Z' xs ws fp
 | [],_,_,h=>h
 | (x,d)::xs,ws,fp,h=>by
  obtain ⟨v,s,f1,f2,e1,e2,dj,h1,h2⟩:=h;exact ⟨v,s,f1,f2,e1,e2,dj,h1.weak λ a h=>h.elim (λ h=>.inl (hz a h)) .inr,h2.weak hz⟩
theorem KD.grow (k:∀ a o,H a=some o->H' a=some o):KD M H fps H' fps:=⟨λ a o h _=>k a o h,λ a h=>by
 cases e:H a with
 | none=>exact absurd e h
 | some o=>rw [k a o e];simp,λ _ _ h=>.inl h,λ _ _=>rfl⟩
def Rep.grow (r:Rep M ρ σ H fps) (k:∀ a o,H a=some o->H' a=some o):Rep M ρ σ H' fps where
 own:=λ i x d e=>by
  obtain ⟨v,hv,o⟩:=r.own i x d e;exact ⟨v,hv,Own.move (S:=λ _=>False) (λ a o h _=>k a o h) (λ _ z=>z.elim) (λ _ _ n=>n) x d v _ (λ _ _ z=>z) o⟩
 non:=r.non
 dj:=r.dj
 zo:=r.zo
 fr:=r.fr
 zd:=λ a h=>(KD.grow (M:=M) (fps:=fps) k).dom a (r.zd a h)
 len:=r.len
 msf:=r.msf
 h0:=λ a h=>(KD.grow (M:=M) (fps:=fps) k).dom a (r.h0 a h)
 iov:=r.iov
end
def tE (M:Fm) (f:Fx) (vs:List Nat):TE:=λ σ H Q=>∃ ρ fps,Rep M ρ σ H fps/\(match f ρ with
 | .ok (x,d,ρ')=>∀ v H' fps' fp,KD M H fps H' fps'->Agr M ρ ρ'->Rep M ρ' σ H' fps'->Own M.K H' (Zt M vs fps' fp) x d v fp->Temp M vs H H' fps' fp->Q v H'
 | .exc c=>∀ H' fps',KD M H fps H' fps'->M.W σ c H'
 | .no=>False)
def tL (M:Fm) (f:Fa) (vs:List Nat):TA:=λ σ H Q=>∃ ρ fps,Rep M ρ σ H fps/\(match f ρ with
 | .ok (xs,ρ')=>∀ ws H' fps' fp,KD M H fps H' fps'->Agr M ρ ρ'->Rep M ρ' σ H' fps'->Tmps M.K H' (Zv M vs fps') xs ws fp->Temp M vs H H' fps' fp->Q ws H'
 | .exc c=>∀ H' fps',KD M H fps H' fps'->M.W σ c H'
 | .no=>False)
def tT (M:Fm) (f:Fb):TT:=λ σ H Q=>∃ ρ fps,Rep M ρ σ H fps/\(match f ρ with
 | .ok (b,ρ')=>∀ H' fps',KD M H fps H' fps'->Agr M ρ ρ'->Rep M ρ' σ H' fps'->Q b H'
 | .exc c=>∀ H' fps',KD M H fps H' fps'->M.W σ c H'
 | .no=>False)
def AU (M:Fm) (H:Hp) (fps:AA) (vs:List Nat) (F:List Addr) (z:PV) (d:Nat) (Q:VK):Prop:=
 ∀ u H' fp,(∀ a o,H a=some o->H' a=some o)->Own M.K H' (Zt M vs fps fp) z d u fp->(∀ a∈fp,a∈F\/H a=none)->Q u H'
section
variable {M:Fm}{ρ ρ':Ae}{σ:St}{H H' H'':Hp}{fps fps' fps'':AA}{vs vs':List Nat}{f g:Fx}{fa:Fa}{fb:Fb}{Q:VK}
def bC (x:PV):Fx:=λ ρ=>.ok (x,om,ρ)
def I0 {x:PV}{v:V} (h:∀ K H Z,Own K H Z x om v []) {σ:St}{H:Hp}{Q:VK} (hq:tE M (bC x) [] σ H Q):tC v σ H Q:=by
 obtain ⟨ρ,fps,rep,q⟩:=hq;exact q v H fps [] KD.refl Agr.refl rep (h _ _ _) ⟨λ _ z=>(nomatch z),λ _ z=>nomatch z⟩
def dv:PV->Nat
 | .lst _=>0
 | .tup _=>0
 | .dct _=>0
 | _=>om
def Aa (i:Nat):Fx:=λ ρ=>match ρ[i]? with
 | some (some (x,_))=>.ok (x,dv x,ρ)
 | _=>.no
theorem Own.view {K:Frag}{Z Z':Addr->Prop}{x:PV}{d:Nat}{v:V}{fp:List Addr} (hz:∀ a,Z' a->Z a) (hf:∀ a∈fp,¬ Z' a) (h:Own K H Z x d v fp):Own K H Z' x (dv x) v []:=by
 have q:=Own.freeze hz x d v fp hf h;cases x with
 | lst xs=>exact q
 | tup xs=>exact q
 | dct kvs=>exact q
 | exn _=>rw [Own] at q ⊢;exact q
 | non=>rw [Own] at q ⊢;exact q
 | bl _=>rw [Own] at q ⊢;exact q
 | int _=>rw [Own] at q ⊢;exact q
 | str _=>rw [Own] at q ⊢;exact q
 | emp=>rw [Own] at q ⊢;exact q
 | dko=>rw [Own] at q ⊢;exact q
 | scr _=>rw [Own] at q ⊢;exact q
theorem SV {i:Nat}{σ:St}{H:Hp}{Q:VK} (hq:tE M (Aa i) (i::M.al i) σ H Q):BE i σ H Q:=by
 obtain ⟨ρ,fps,rep,q⟩:=hq;unfold Aa at q;cases e0:ρ[i]? with
 | none=>rw [e0] at q;exact q.elim
 | some sl=>
  cases sl with
  | none=>rw [e0] at q;exact q.elim
  | some p=>
   obtain ⟨x0,d0⟩:=p;rw [e0] at q;obtain ⟨v,hv,o⟩:=rep.own i x0 d0 e0;refine ⟨v,hv,q v H fps [] KD.refl Agr.refl rep ((o.view (Z':=Zv M (i::M.al i) fps) (λ a h=>h.elim .inl λ ⟨j,n,h⟩=>.inr ⟨j,λ z=>n (AB _ z),h⟩) λ a ha z=>?_).weak λ a h=>h.elim id λ z=>nomatch z) ⟨λ _ z=>(nomatch z),λ _ z=>nomatch z⟩⟩;rcases z with z | ⟨j,nj,hj⟩
   ·exact rep.zo i a ha z
   ·exact rep.dj i j (λ e=>nj (by simp [e])) a ha hj
def Ab (op:PV->Nat->PV->Nat->Option (PV×Nat)) (f g:Fx):Fx:=λ ρ=>(f ρ).bind λ (x,d,ρ1)=>(g ρ1).bind λ (y,e,ρ2)=>match op x d y e with
 | some (z,c)=>.ok (z,c,ρ2)
 | none=>.no
theorem D7 {op:PV->Nat->PV->Nat->Option (PV×Nat)}{r:R2} (hv:∀ i∈vs,M.Ms i=false)
  (leaf:∀ x d y e z c v w H fps f1 f2 Q,op x d y e=some (z,c)->Own M.K H (Zt M (vs++vs') fps f1) x d v f1->Own M.K H (Zt M (vs++vs') fps f2) y e w f2->(∀ a∈f1,a∉f2)->(∀ a∈f1++f2,¬ Zf M fps a)->(∀ a,Zf M fps a->H a≠none)->AU M H fps (vs++vs') (f1++f2) z c Q->r v w H Q)
  {σ:St}{H:Hp}{Q:VK} (hq:tE M (Ab op f g) (vs++vs') σ H Q):HF r (tE M f vs) (tE M g vs') σ H Q:=by
 obtain ⟨ρ,fps,rep,q⟩:=hq;refine ⟨ρ,fps,rep,?_⟩;unfold Ab at q;cases ef:f ρ with
 | no=>rw [ef] at q;exact q
 | exc c=>rw [ef] at q;exact q
 | ok p=>
  obtain ⟨x,d,ρ1⟩:=p;rw [ef] at q;intro v H1 fps1 f1 k1 g1 rep1 o1 t1;refine ⟨ρ1,fps1,rep1,?_⟩;dsimp only [Rz.bind] at q;cases eg:g ρ1 with
  | no=>rw [eg] at q;exact q
  | exc c=>rw [eg] at q;exact λ H' fps' k=>q H' fps' (k1.trans k)
  | ok p2=>
   obtain ⟨y,e,ρ2⟩:=p2;rw [eg] at q;intro w H2 fps2 f2 k2 g2 rep2 o2 t2;dsimp only at q;cases eo:op x d y e with
   | none=>rw [eo] at q;exact q.elim
   | some zc=>
    obtain ⟨z,c⟩:=zc;rw [eo] at q;have o1':=k2.stay rep1 hv o1 t1.ndj;have n1:∀ a∈f1,¬ Zf M fps2 a:=λ a ha z=>by
     rcases z with z | ⟨i,z⟩
     ·exact t1.ndj a ha (.inl z)
     ·rcases k2.sub i a z with z | z
      ·exact t1.ndj a ha (.inr ⟨i,z⟩)
      ·obtain ⟨xs,e⟩:=Own.lsts x d v f1 o1 a ha;rw [z] at e;cases e
    refine leaf x d y e z c v w H2 fps2 f1 f2 Q eo (o1'.weak λ a h=>Zt.mono (λ i hi=>AZ _ hi) h) (o2.weak λ a h=>Zt.mono (λ i hi=>AL _ hi) h) (λ a h1 h2=>?_) (λ a ha=>?_) (λ a h=>rep2.zdom h) λ u H3 fp k3 o3 hfp=>?_
    ·obtain ⟨xs,e⟩:=Own.lsts x d v f1 o1 a h1;rw [t2.new a h2] at e;cases e
    ·rcases jc2.mp ha with z | z
     ·exact n1 a z
     ·exact t2.ndj a z
    ·have new:∀ a∈fp,H a=none:=λ a ha=>by
      have back:H1 a=none->H a=none:=λ e=>by
       cases e':H a with
       | none=>rfl
       | some o=>exact absurd e (k1.dom a (by rw [e'];simp))
      have back2:H2 a=none->H1 a=none:=λ e=>by
       cases e':H1 a with
       | none=>rfl
       | some o=>exact absurd e (k2.dom a (by rw [e'];simp))
      rcases hfp a ha with z | z
      ·rcases jc2.mp z with z | z
       ·exact t1.new a z
       ·exact back (t2.new a z)
      ·exact back (back2 z)
     refine q u H3 fps2 fp ((k1.trans k2).trans (KD.grow k3)) (g1.trans g2) (rep2.grow k3) o3 ⟨new,λ a ha=>?_⟩;rcases hfp a ha with z | z
     ·rcases jc2.mp z with z | z
      ·exact n1 a z
      ·exact t2.ndj a z
     ·exact rep2.nz z
end
section
variable {M:Fm}{vs vs':List Nat}{f g:Fx}{fa:Fa}{fb gb:Fb}
def AS (op:PV->Nat->Option (PV×Nat)) (f:Fx):Fx:=λ ρ=>(f ρ).bind λ (x,d,ρ1)=>match op x d with
 | some (z,c)=>.ok (z,c,ρ1)
 | none=>.no
theorem Ja {op:PV->Nat->Option (PV×Nat)}{r:V->Hp->VK->Prop}
  (leaf:∀ x d z c v H fps f1 Q,op x d=some (z,c)->Own M.K H (Zt M vs fps f1) x d v f1->(∀ a∈f1,¬ Zf M fps a)->(∀ a,Zf M fps a->H a≠none)->AU M H fps vs f1 z c Q->r v H Q)
  {σ:St}{H:Hp}{Q:VK} (hq:tE M (AS op f) vs σ H Q):RO r (tE M f vs) σ H Q:=by
 obtain ⟨ρ,fps,rep,q⟩:=hq;refine ⟨ρ,fps,rep,?_⟩;unfold AS at q;cases ef:f ρ with
 | no=>rw [ef] at q;exact q
 | exc c=>rw [ef] at q;exact q
 | ok p=>
  obtain ⟨x,d,ρ1⟩:=p;rw [ef] at q;intro v H1 fps1 f1 k1 g1 rep1 o1 t1;dsimp only [Rz.bind] at q;cases eo:op x d with
  | none=>rw [eo] at q;exact q.elim
  | some zc=>
   obtain ⟨z,c⟩:=zc;rw [eo] at q;refine leaf x d z c v H1 fps1 f1 Q eo o1 t1.ndj (λ a h=>rep1.zdom h) λ u H3 fp k3 o3 hfp=>?_;have back:∀ a,H1 a=none->H a=none:=λ a e=>by
    cases e':H a with
    | none=>rfl
    | some o=>exact absurd e (k1.dom a (by rw [e'];simp))
   refine q u H3 fps1 fp (k1.trans (KD.grow k3)) g1 (rep1.grow k3) o3 ⟨λ a ha=>(hfp a ha).elim (t1.new a) (back a),λ a ha=>(hfp a ha).elim (t1.ndj a) λ z=>rep1.nz z⟩
def Ad:Fa:=λ ρ=>.ok ([],ρ)
def Ah (f:Fx) (fa:Fa):Fa:=λ ρ=>(f ρ).bind λ (x,d,ρ1)=>(fa ρ1).bind λ (xs,ρ2)=>.ok ((x,d)::xs,ρ2)
def X8 {σ:St}{H:Hp}{Q:List V->Hp->Prop} (hq:tL M Ad [] σ H Q):CY σ H Q:=by
 obtain ⟨ρ,fps,rep,q⟩:=hq;exact q [] H fps [] KD.refl Agr.refl rep ⟨rfl,rfl⟩ ⟨λ _ z=>(nomatch z),λ _ z=>nomatch z⟩
theorem Ug (hv:∀ i∈vs,M.Ms i=false) {σ:St}{H:Hp}{Q:List V->Hp->Prop} (hq:tL M (Ah f fa) (vs++vs') σ H Q):GK (tE M f vs) (tL M fa vs') σ H Q:=by
 obtain ⟨ρ,fps,rep,q⟩:=hq;refine ⟨ρ,fps,rep,?_⟩;unfold Ah at q;cases ef:f ρ with
 | no=>rw [ef] at q;exact q
 | exc c=>rw [ef] at q;exact q
 | ok p=>
  obtain ⟨x,d,ρ1⟩:=p;rw [ef] at q;intro v H1 fps1 f1 k1 g1 rep1 o1 t1;refine ⟨ρ1,fps1,rep1,?_⟩;dsimp only [Rz.bind] at q;cases eg:fa ρ1 with
  | no=>rw [eg] at q;exact q
  | exc c=>rw [eg] at q;exact λ H' fps' k=>q H' fps' (k1.trans k)
  | ok p2=>
   obtain ⟨ys,ρ2⟩:=p2;rw [eg] at q;intro ws H2 fps2 f2 k2 g2 rep2 o2 t2;dsimp only at q;have o1':=k2.stay rep1 hv o1 t1.ndj;have n1:∀ a∈f1,¬ Zf M fps2 a:=λ a ha z=>by
    rcases z with z | ⟨i,z⟩
    ·exact t1.ndj a ha (.inl z)
    ·rcases k2.sub i a z with z | z
     ·exact t1.ndj a ha (.inr ⟨i,z⟩)
     ·obtain ⟨xs,e⟩:=Own.lsts x d v f1 o1 a ha;rw [z] at e;cases e
   have back:∀ a,H1 a=none->H a=none:=λ a e=>by
    cases e':H a with
    | none=>rfl
    | some o=>exact absurd e (k1.dom a (by rw [e'];simp))
   refine q (v::ws) H2 fps2 (f1++f2) (k1.trans k2) (g1.trans g2) rep2 ⟨v,ws,f1,f2,rfl,rfl,λ a h1 h2=>?_,o1'.weak λ a h=>Zt.mono (λ i hi=>AZ _ hi) h,o2.weak λ a h=>h.mono λ i hi=>AL _ hi⟩ ⟨λ a ha=>?_,λ a ha=>?_⟩
   ·obtain ⟨xs,e⟩:=Own.lsts x d v f1 o1 a h1;rw [t2.new a h2] at e;cases e
   ·rcases jc2.mp ha with z | z
    ·exact t1.new a z
    ·exact back a (t2.new a z)
   ·rcases jc2.mp ha with z | z
    ·exact n1 a z
    ·exact t2.ndj a z
def Aq (op:List (PV×Nat)->Option (PV×Nat)) (fa:Fa):Fx:=λ ρ=>(fa ρ).bind λ (xs,ρ1)=>match op xs with
 | some (z,c)=>.ok (z,c,ρ1)
 | none=>.no
theorem L4 {op:List (PV×Nat)->Option (PV×Nat)}{r:List V->Hp->VK->Prop}
  (leaf:∀ xs z c ws H fps fp Q,op xs=some (z,c)->Tmps M.K H (Zv M vs fps) xs ws fp->(∀ a∈fp,¬ Zf M fps a)->(∀ a,Zf M fps a->H a≠none)->AU M H fps vs fp z c Q->r ws H Q)
  {σ:St}{H:Hp}{Q:VK} (hq:tE M (Aq op fa) vs σ H Q):tL M fa vs σ H λ ws H1=>r ws H1 Q:=by
 obtain ⟨ρ,fps,rep,q⟩:=hq;refine ⟨ρ,fps,rep,?_⟩;unfold Aq at q;cases ef:fa ρ with
 | no=>rw [ef] at q;exact q
 | exc c=>rw [ef] at q;exact q
 | ok p=>
  obtain ⟨xs,ρ1⟩:=p;rw [ef] at q;intro ws H1 fps1 f1 k1 g1 rep1 o1 t1;dsimp only [Rz.bind] at q;cases eo:op xs with
  | none=>rw [eo] at q;exact q.elim
  | some zc=>
   obtain ⟨z,c⟩:=zc;rw [eo] at q;refine leaf xs z c ws H1 fps1 f1 Q eo o1 t1.ndj (λ a h=>rep1.zdom h) λ u H3 fp k3 o3 hfp=>?_;have back:∀ a,H1 a=none->H a=none:=λ a e=>by
    cases e':H a with
    | none=>rfl
    | some o=>exact absurd e (k1.dom a (by rw [e'];simp))
   refine q u H3 fps1 fp (k1.trans (KD.grow k3)) g1 (rep1.grow k3) o3 ⟨λ a ha=>(hfp a ha).elim (t1.new a) (back a),λ a ha=>(hfp a ha).elim (t1.ndj a) λ z=>rep1.nz z⟩
def bT (f:Fx):Fb:=λ ρ=>(f ρ).bind λ (x,_,ρ1)=>match x with
 | .bl b=>.ok (b,ρ1)
 | _=>.no
theorem Pu {σ:St}{H:Hp}{Q:Bool->Hp->Prop} (hq:tT M (bT f) σ H Q):tB (tE M f vs) σ H Q:=by
 obtain ⟨ρ,fps,rep,q⟩:=hq;refine ⟨ρ,fps,rep,?_⟩;unfold bT at q;cases ef:f ρ with
 | no=>rw [ef] at q;exact q
 | exc c=>rw [ef] at q;exact q
 | ok p=>
  obtain ⟨x,d,ρ1⟩:=p;rw [ef] at q;intro v H1 fps1 f1 k1 g1 rep1 o1 t1;dsimp only [Rz.bind] at q;cases x with
  | bl b=>
   rw [Own] at o1;exact ⟨b,o1.1,q H1 fps1 k1 g1 rep1⟩
  | _=>exact q.elim
def Gh (f g:Fb):Fb:=λ ρ=>(f ρ).bind λ (b,ρ1)=>if b=true then g ρ1 else .ok (false,ρ1)
def MX (f g:Fb):Fb:=λ ρ=>(f ρ).bind λ (b,ρ1)=>if b=true then .ok (true,ρ1) else g ρ1
def Gg (f:Fb):Fb:=λ ρ=>(f ρ).bind λ (b,ρ1)=>.ok (!b,ρ1)
theorem Ys {σ:St}{H:Hp}{Q:Bool->Hp->Prop} (hq:tT M (Gh fb gb) σ H Q):HH (tT M fb) (tT M gb) σ H Q:=by
 obtain ⟨ρ,fps,rep,q⟩:=hq;refine ⟨ρ,fps,rep,?_⟩;unfold Gh at q;cases ef:fb ρ with
 | no=>rw [ef] at q;exact q
 | exc c=>rw [ef] at q;exact q
 | ok p=>
  obtain ⟨b,ρ1⟩:=p;rw [ef] at q;intro H1 fps1 k1 g1 rep1;dsimp only [Rz.bind] at q;cases b with
  | false=>exact (q H1 fps1 k1 g1 rep1)
  | true=>
   refine ⟨ρ1,fps1,rep1,?_⟩;rw [if_pos rfl] at q;cases eg:gb ρ1 with
   | no=>rw [eg] at q;exact q
   | exc c=>rw [eg] at q;exact λ H' fps' k=>q H' fps' (k1.trans k)
   | ok p2=>rw [eg] at q;exact λ H' fps' k g r=>q H' fps' (k1.trans k) (g1.trans g) r
theorem WI {σ:St}{H:Hp}{Q:Bool->Hp->Prop} (hq:tT M (MX fb gb) σ H Q):OD (tT M fb) (tT M gb) σ H Q:=by
 obtain ⟨ρ,fps,rep,q⟩:=hq;refine ⟨ρ,fps,rep,?_⟩;unfold MX at q;cases ef:fb ρ with
 | no=>rw [ef] at q;exact q
 | exc c=>rw [ef] at q;exact q
 | ok p=>
  obtain ⟨b,ρ1⟩:=p;rw [ef] at q;intro H1 fps1 k1 g1 rep1;dsimp only [Rz.bind] at q;cases b with
  | true=>exact (q H1 fps1 k1 g1 rep1)
  | false=>
   refine ⟨ρ1,fps1,rep1,?_⟩;rw [if_neg C8] at q;cases eg:gb ρ1 with
   | no=>rw [eg] at q;exact q
   | exc c=>rw [eg] at q;exact λ H' fps' k=>q H' fps' (k1.trans k)
   | ok p2=>rw [eg] at q;exact λ H' fps' k g r=>q H' fps' (k1.trans k) (g1.trans g) r
theorem Yu {σ:St}{H:Hp}{Q:Bool->Hp->Prop} (hq:tT M (Gg fb) σ H Q):HG (tT M fb) σ H Q:=by
 obtain ⟨ρ,fps,rep,q⟩:=hq;refine ⟨ρ,fps,rep,?_⟩;unfold Gg at q;cases ef:fb ρ with
 | no=>rw [ef] at q;exact q
 | exc c=>rw [ef] at q;exact q
 | ok p=>obtain ⟨b,ρ1⟩:=p;rw [ef] at q;exact q
theorem Tmps.all {K:Frag}{H:Hp}{Z:Addr->Prop}:∀ {xs:List (PV×Nat)}{ws:List V}{fp:List Addr},Tmps K H Z xs ws fp->(∀ p∈xs,p.2=om)->OwnL K H Z (xs.map (·.1)) om ws fp
 | [],_,_,h,_=>by rw [FT,OwnL];exact h
 | (x,d)::xs,ws,fp,h,ha=>by
  obtain ⟨v,s,f1,f2,e1,e2,dj,h1,h2⟩:=h;have e:d=om:=ha (x,d) AI;subst e;rw [BH,OwnL];exact ⟨v,s,f1,f2,e1,e2,dj,Own.full x v f1 h1,h2.all λ p hp=>ha p (AB _ hp)⟩
theorem Tmps.cold {K:Frag}{H:Hp}{Z:Addr->Prop}:∀ {xs:List (PV×Nat)}{ws:List V}{fp:List Addr},Tmps K H Z xs ws fp->(∀ a∈fp,¬ Z a)->OwnL K H Z (xs.map (·.1)) 0 ws []
 | [],_,_,h,_=>by rw [FT,OwnL];exact ⟨h.1,rfl⟩
 | (x,d)::xs,ws,fp,h,ha=>by
  obtain ⟨v,s,f1,f2,e1,e2,dj,h1,h2⟩:=h;rw [BH,OwnL];exact ⟨v,s,[],[],e1,rfl,λ _ z=>(nomatch z),Own.freeze (λ _ z=>.inl z) x d v f1 (λ a z=>ha a (by rw [e2];exact AZ _ z)) h1,h2.cold λ a z=>ha a (by rw [e2];exact AL _ z)⟩
theorem Tmps.length {K:Frag}{H:Hp}{Z:Addr->Prop}:∀ {xs:List (PV×Nat)}{ws:List V}{fp:List Addr},Tmps K H Z xs ws fp->ws.length=xs.length
 | [],_,_,h=>by rw [h.1];rfl
 | (x,d)::xs,ws,fp,h=>by
  obtain ⟨v,s,f1,f2,e1,e2,dj,h1,h2⟩:=h;rw [e1,Cf,Cf,h2.length]
theorem OwnL.length {K:Frag}{H:Hp}{Z:Addr->Prop}:∀ {xs:List PV}{d:Nat}{ws:List V}{fp:List Addr},OwnL K H Z xs d ws fp->ws.length=xs.length
 | [],_,_,_,h=>by rw [OwnL] at h;rw [h.1];rfl
 | x::xs,d,ws,fp,h=>by
  rw [OwnL] at h;obtain ⟨v,s,f1,f2,e1,e2,dj,h1,h2⟩:=h;rw [e1,Cf,Cf,h2.length]
end
inductive Rs where
 | nx (ρ:Ae) | rt (x:PV) (d:Nat) (ρ:Ae) | bk (ρ:Ae) | ct (ρ:Ae) | exc (c:Nat) | no
abbrev Fs:=Ae->Rs
structure KS (M:Fm) (H:Hp) (fps:AA) (H':Hp) (fps':AA):Prop where
 keep:Cg (λ a=>∃ i,a∈fps i) H H'
 dom:∀ a,H a≠none->H' a≠none
 sub:∀ i,∀ a∈fps' i,(∃ j,a∈fps j)\/H a=none
def Zr (M:Fm) (fps:AA):Addr->Prop:=λ a=>M.Zo a\/(M.io≠none/\a∈fps 0)
def RsOk (M:Fm) (D:Ends) (H:Hp) (fps:AA):Rs->Prop
 | .nx ρ'=>∀ σ' H' fps',KS M H fps H' fps'->Rep M ρ' σ' H' fps'->D.nx σ' H'
 | .bk ρ'=>∀ σ' H' fps',KS M H fps H' fps'->Rep M ρ' σ' H' fps'->D.bk σ' H'
 | .ct ρ'=>∀ σ' H' fps',KS M H fps H' fps'->Rep M ρ' σ' H' fps'->D.ct σ' H'
 | .rt x d ρ'=>∀ v σ' H' fps' fp,KS M H fps H' fps'->Rep M ρ' σ' H' fps'->Own M.K H' (λ a=>Zr M fps' a\/a∈fp) x d v fp->(∀ a∈fp,M.H₀ a=none/\¬ Zr M fps' a)->D.rt v H'
 | .exc c=>∀ σ' H' fps',KS M H fps H' fps'->M.W σ' c H'
 | .no=>False
def tS (M:Fm) (f:Fs):TS:=λ D σ H=>∃ ρ fps,Rep M ρ σ H fps/\RsOk M D H fps (f ρ)
section
variable {M:Fm}{ρ ρ':Ae}{σ σ':St}{H H' H'':Hp}{fps fps' fps'':AA}{vs vs':List Nat}
def KS.refl:KS M H fps H fps:=⟨λ _ _ h _=>h,λ _ h=>h,λ i _ h=>.inl ⟨i,h⟩⟩
def KD.ks (k:KD M H fps H' fps'):KS M H fps H' fps':=⟨λ a o h n=>k.keep a o h λ ⟨i,_,z⟩=>n ⟨i,z⟩,k.dom,λ i a h=>(k.sub i a h).elim (λ z=>.inl ⟨i,z⟩) .inr⟩
def KS.trans (a:KS M H fps H' fps') (b:KS M H' fps' H'' fps''):KS M H fps H'' fps'' where
 keep:=λ x o h n=>b.keep x o (a.keep x o h n) λ ⟨i,hx⟩=>(a.sub i x hx).elim (λ z=>n z) λ z=>by rw [z] at h;cases h
 dom:=λ x h=>b.dom x (a.dom x h)
 sub:=λ i x hx=>(b.sub i x hx).elim (λ ⟨j,z⟩=>a.sub j x z) λ z=>.inr (by
  cases e:H x with
  | none=>rfl
  | some o=>exact absurd z (a.dom x (by rw [e];simp)))
def KS.stay0 (k:KS M H fps H' fps') (r:Rep M ρ σ H fps) {x:PV}{v:V} (h:Own M.K H (Zf M fps) x 0 v []):Own M.K H' (Zf M fps') x 0 v []:=by
 refine Own.move k.keep (λ a ⟨i,ha⟩=>⟨.inr ⟨i,ha⟩,r.lsts ha⟩) ?_ x 0 v [] (λ _ z=>nomatch z) h;intro a hd nz z;rcases z with z | ⟨i,hx⟩
 ·exact nz (.inl z)
 ·rcases k.sub i a hx with z | z
  ·exact nz (.inr z)
  ·exact hd z
def AK:Fs:=λ ρ=>.nx ρ
def Ag (f g:Fs):Fs:=λ ρ=>match f ρ with
 | .nx ρ1=>g ρ1
 | r=>r
def Yn {D:Ends} (hq:tS M AK D σ H):Si D σ H:=by
 obtain ⟨ρ,fps,rep,q⟩:=hq;exact q σ H fps KS.refl rep
def Bs (c:Fb) (f g:Fs):Fs:=λ ρ=>match c ρ with
 | .ok (b,ρ1)=>if b=true then f ρ1 else g ρ1
 | .exc e=>.exc e
 | .no=>.no
theorem RsOk.from {D:Ends}{r:Rs} (k1:KS M H fps H' fps') (q:RsOk M D H fps r):RsOk M D H' fps' r:=by
 cases r with
 | no=>exact q
 | exc c=>exact λ σ' H' fps' k=>q σ' H' fps' (k1.trans k)
 | rt x d ρ2=>exact λ v σ' H' fps' fp k=>q v σ' H' fps' fp (k1.trans k)
 | bk ρ2=>exact λ σ' H' fps' k=>q σ' H' fps' (k1.trans k)
 | ct ρ2=>exact λ σ' H' fps' k=>q σ' H' fps' (k1.trans k)
 | nx ρ2=>exact λ σ' H' fps' k=>q σ' H' fps' (k1.trans k)
theorem Yq {f g:Fs}{D:Ends} (hq:tS M (Ag f g) D σ H):JW (tS M f) (tS M g) D σ H:=by
 obtain ⟨ρ,fps,rep,q⟩:=hq;refine ⟨ρ,fps,rep,?_⟩;unfold Ag at q;cases ef:f ρ with
 | no=>rw [ef] at q;exact q
 | exc c=>rw [ef] at q;exact q
 | rt x d ρ1=>rw [ef] at q;exact q
 | bk ρ1=>rw [ef] at q;exact q
 | ct ρ1=>rw [ef] at q;exact q
 | nx ρ1=>
  rw [ef] at q;exact λ σ1 H1 fps1 k1 rep1=>⟨ρ1,fps1,rep1,RsOk.from k1 q⟩
theorem WH {c:Fb}{f g:Fs}{D:Ends} (hq:tS M (Bs c f g) D σ H):JZ (tT M c) (tS M f) (tS M g) D σ H:=by
 obtain ⟨ρ,fps,rep,q⟩:=hq;refine ⟨ρ,fps,rep,?_⟩;unfold Bs at q;cases ef:c ρ with
 | no=>rw [ef] at q;exact q
 | exc c=>rw [ef] at q;exact λ H' fps' k=>q _ H' fps' k.ks
 | ok p=>
  obtain ⟨b,ρ1⟩:=p;rw [ef] at q;intro H1 fps1 k1 g1 rep1;dsimp only at q;cases b with
  | true=>
   rw [if_pos rfl] at q ⊢;exact ⟨ρ1,fps1,rep1,RsOk.from k1.ks q⟩
  | false=>
   rw [if_neg C8] at q ⊢;exact ⟨ρ1,fps1,rep1,RsOk.from k1.ks q⟩
def cool (vs:List Nat):Nat->Ae->Ae
 | _,[]=>[]
 | k,s::r=>(if vs.contains k then s.map λ p=>(p.1,0) else s)::cool vs (k + 1) r
def Bb (d:Nat) (vs:List Nat) (ρ:Ae):Ae:=if d=om then ρ else cool vs 0 ρ
theorem J0 (vs:List Nat):∀ (ρ:Ae) (k i:Nat),(cool vs k ρ)[i]?=(ρ[i]?).map λ s=>if vs.contains (k + i) then s.map λ p=>(p.1,0) else s
 | [],k,i=>by simp [cool]
 | s::r,k,0=>by simp [cool]
 | s::r,k,i + 1=>by
  rw [cool,K7,J0 vs r (k + 1) i,K7]
  have:k + 1 + i=k + (i + 1):=by omega
  rw [this]
theorem KW (vs:List Nat):∀ (ρ:Ae) (k:Nat),(cool vs k ρ).length=ρ.length
 | [],_=>rfl
 | s::r,k=>by rw [cool,Cf,KW vs r (k + 1),Cf]
def Dp (vs:List Nat) (fps:AA):AA:=λ i=>if vs.contains i then [] else fps i
def EM {a:Addr}{i:Nat} (h:a∈Dp vs fps i):a∈fps i/\i∉vs:=by
 unfold Dp at h;split at h
 ·cases h
 ·rename_i n;exact ⟨h,λ z=>n (by simpa using z)⟩
def GH {a:Addr} (h:Zf M (Dp vs fps) a):Zv M vs fps a:=h.elim .inl λ ⟨i,z⟩=>.inr ⟨i,(EM z).2,(EM z).1⟩
def Rep.cool (r:Rep M ρ σ H fps) (hal:∀ i,M.al i=[]) (hv:∀ i∈vs,M.Ms i=false):Rep M (cool vs 0 ρ) σ H (Dp vs fps) where
 own:=λ i x d e=>by
  rw [J0] at e;cases e1:ρ[i]? with
  | none=>rw [e1] at e;cases e
  | some s=>
   rw [e1] at e;simp only [K3,Jd] at e;by_cases hc:vs.contains i=true
   ·rw [if_pos hc] at e;cases s with
    | none=>cases e
    | some p=>
     obtain ⟨x0,d0⟩:=p;simp only [K3,Option.some.injEq,Prod.mk.injEq] at e;obtain ⟨rfl,rfl⟩:=e;obtain ⟨v,hσ,o⟩:=r.own0 hal i x0 d0 e1;refine ⟨v,hσ,Own.weak (Z:=Zf M (Dp vs fps)) (λ a h=>h.zf) ?_⟩
     have:Dp vs fps i=[]:=by unfold Dp;rw [if_pos hc]
     rw [this];exact Own.freeze (λ a h=>Zv.zf (GH h)) x0 d0 v _ (λ a ha z=>by
      rcases z with z | ⟨j,z⟩
      ·exact r.zo i a ha z
      ·obtain ⟨z1,z2⟩:=EM z;exact r.dj i j (λ e=>z2 (by rw [<- e];simpa using hc)) a ha z1) o
   ·rw [if_neg hc] at e;cases e;obtain ⟨v,hσ,o⟩:=r.own0 hal i x d e1;refine ⟨v,hσ,Own.weak (Z:=Zf M (Dp vs fps)) (λ a h=>h.zf) ?_⟩
    have:Dp vs fps i=fps i:=by unfold Dp;rw [if_neg hc]
    rw [this];exact o.weak λ a h=>Zv.zf (GH h)
 non:=λ i h=>by
  unfold Dp;split
  ·rfl
  ·rename_i hc;refine r.non i λ p e=>h p ?_;rw [J0,e];simp only [K3,Jd];rw [if_neg hc]
 dj:=λ i j hij a ha hb=>r.dj i j hij a (EM ha).1 (EM hb).1
 zo:=λ i a ha=>r.zo i a (EM ha).1
 fr:=λ i hi a ha=>r.fr i hi a (EM ha).1
 zd:=r.zd
 len:=by rw [KW];exact r.len
 msf:=λ i x d hi e=>by
  rw [J0] at e;cases e1:ρ[i]? with
  | none=>rw [e1] at e;cases e
  | some s=>
   rw [e1] at e;simp only [K3,Jd] at e;have hc:¬ vs.contains i=true:=λ z=>by rw [hv i (by simpa using z)] at hi;cases hi
   rw [if_neg hc] at e;cases e;exact r.msf i x d hi e1
 h0:=r.h0
 iov:=r.iov
def KS.cool (k:KS M H fps H' fps'):KS M H fps H' (Dp vs fps'):=⟨k.keep,k.dom,λ i a h=>k.sub i a (EM h).1⟩
def Rep.wide {fp:List Addr} (hal:∀ i,∀ j∈M.al i,M.Ms j=false) (r:Rep M ρ σ H fps) (k:KD M H fps H' fps') (g:Agr M ρ ρ') (r':Rep M ρ' σ H' fps') (hf:∀ a∈fp,H a=none/\H' a≠none/\¬ Zf M fps' a):Rep (M.plus fp) ρ' σ H' fps' where
 own:=λ i x d e=>by
  by_cases hm:M.Ms i=true
  ·obtain ⟨v,hv,o⟩:=r'.own i x d e;have hd:=r'.msf i x d hm e;subst hd;exact ⟨v,hv,Own.full x v _ o⟩
  ·have hm':M.Ms i=false:=by simpa using hm
   rw [g.1 i hm'] at e;obtain ⟨v,hv,o⟩:=r.own i x d e;refine ⟨v,hv,?_⟩;rw [k.same i hm'];refine Own.move k.keep (λ a ⟨j,hj,ha⟩=>⟨.inr ⟨j,λ z=>(by rw [hal i j z] at hj;cases hj),ha⟩,r.lsts ha⟩) ?_ x d v _ ?_ o
   ·intro a hd nz z;rcases z with (z | z) | ⟨j,nj,z⟩
    ·exact nz (.inl z)
    ·exact hd (hf a z).1
    ·rcases k.sub j a z with z | z
     ·exact nz (.inr ⟨j,nj,z⟩)
     ·exact hd z
   ·rintro a ha ⟨j,hj,hx⟩;exact r.dj i j (λ e=>by rw [e,hj] at hm';cases hm') a ha hx
 non:=r'.non
 dj:=r'.dj
 zo:=λ i a ha z=>z.elim (r'.zo i a ha) λ z=>(hf a z).2.2 (.inr ⟨i,ha⟩)
 fr:=r'.fr
 zd:=λ a z=>z.elim (r'.zd a) λ z=>(hf a z).2.1
 len:=r'.len
 msf:=r'.msf
 h0:=r'.h0
 iov:=r'.iov
def Rep.put {i:Nat}{x:PV}{d:Nat}{v:V}{fp:List Addr} (r:Rep (M.plus fp) ρ σ H fps) (h:Own M.K H (λ a=>Za M fps i a\/a∈fp) x d v fp) (hf:∀ a∈fp,M.H₀ a=none/\¬ M.Zo a) (hi:i < ρ.length) (hm:M.Ms i=true->d=om) (hio:M.Fre i):
  Rep M (ρ.set i (some (x,d))) (σ.set i (some v)) H (λ j=>if j=i then fp else fps j):=by
 have zz:∀ a,Zf M (λ j=>if j=i then fp else fps j) a->Zf M fps a\/a∈fp:=λ a h=>by
  rcases h with z | ⟨j,z⟩
  ·exact .inl (.inl z)
  ·by_cases e:j=i
   ·simp only [if_pos e] at z;exact .inr z
   ·simp only [if_neg e] at z;exact .inl (.inr ⟨j,z⟩)
 have zz2:∀ a,Zf M fps a\/a∈fp->Zf (M.plus fp) fps a:=λ a h=>h.elim (λ h=>h.elim (λ z=>.inl (.inl z)) λ z=>.inr z) λ z=>.inl (.inr z);refine ⟨λ j y e hj=>?_,λ j hj=>?_,λ j k hjk a ha hb=>?_,λ j a ha z=>?_,λ j hj a ha=>?_,λ a z=>r.zd a (.inl z),?_,λ j y e hj he=>?_,r.h0,?_⟩
 ·by_cases e:j=i
  ·subst e;rw [Dh hi] at hj;cases hj;refine ⟨v,by rw [Dh (by rw [<- r.len];exact hi)],?_⟩;rw [if_pos rfl];refine h.weak λ a h=>?_;rcases h with z | ⟨k,nk,z⟩
   ·exact .inl (.inl z)
   ·by_cases ek:k=j
    ·simp only [if_pos ek] at z;exact .inr z
    ·simp only [if_neg ek] at z;exact .inl (.inr ⟨k,nk,z⟩)
  ·rw [Ck (Br e)] at hj;obtain ⟨w,hw,o⟩:=r.own j y _ hj;refine ⟨w,by rw [Ck (Br e)];exact hw,?_⟩;rw [if_neg e];refine o.weak λ a h=>?_;rcases h with z | ⟨k,nk,z⟩
   ·exact .inl (.inl z)
   ·by_cases ek:k=i
    ·simp only [if_pos ek] at z;exact .inl (.inr z)
    ·simp only [if_neg ek] at z;exact .inr ⟨k,nk,z⟩
 ·by_cases e:j=i
  ·subst e;exact absurd (Dh hi) (hj _)
  ·rw [if_neg e];exact r.non j λ p hp=>hj p (by rw [Ck (Br e)];exact hp)
 ·by_cases e1:j=i
  ·by_cases e2:k=i
   ·exact hjk (e1.trans e2.symm)
   ·rw [if_pos e1] at ha;rw [if_neg e2] at hb;exact r.zo k a hb (.inr ha)
  ·rw [if_neg e1] at ha;by_cases e2:k=i
   ·rw [if_pos e2] at hb;exact r.zo j a ha (.inr hb)
   ·rw [if_neg e2] at hb;exact r.dj j k hjk a ha hb
 ·by_cases e:j=i
  ·rw [if_pos e] at ha;exact (hf a ha).2 z
  ·rw [if_neg e] at ha;exact r.zo j a ha (.inl z)
 ·by_cases e:j=i
  ·rw [if_pos e] at ha;exact (hf a ha).1
  ·rw [if_neg e] at ha;exact r.fr j hj a ha
 ·rw [Ee,Ee];exact r.len
 ·by_cases e:j=i
  ·subst e;rw [Dh hi] at he;cases he;exact hm hj
  ·rw [Ck (Br e)] at he;exact r.msf j y _ hj he
 ·refine ⟨λ w hw=>?_,λ p hp=>?_⟩
  ·have h0:i≠0:=hio.1 (by rw [hw];simp);rw [Ck h0];exact r.iov.1 w hw
  ·rw [Ck (hio.2 p hp).symm];exact r.iov.2 p hp
def Ai (ms:Bool) (i:Nat) (f:Fx) (vs:List Nat):Fs:=λ ρ=>match f ρ with
 | .ok (x,d,ρ1)=>if i < ρ1.length/\(ms=true->d=om) then .nx ((Bb d vs ρ1).set i (some (x,d))) else .no
 | .exc c=>.exc c
 | .no=>.no
def Rep.store {i:Nat}{x:PV}{d:Nat}{v:V}{fp:List Addr} (rep:Rep M ρ σ H fps) (k:KD M H fps H' fps') (g:Agr M ρ ρ') (r':Rep M ρ' σ H' fps') (o:Own M.K H' (Zt M vs fps' fp) x d v fp) (t:Temp M vs H H' fps' fp)
  (hal:∀ i,M.al i=[]) (hv:∀ i∈vs,M.Ms i=false) (hi:i < ρ'.length) (hm:M.Ms i=true->d=om) (hio:M.Fre i):
  ∃ fps2,KS M H fps H' fps2/\Rep M ((Bb d vs ρ').set i (some (x,d))) (σ.set i (some v)) H' fps2:=by
 have back:∀ a,H a=none->M.H₀ a=none:=λ a e=>by
  cases e':M.H₀ a with
  | none=>rfl
  | some o=>exact absurd e (rep.h0 a (by rw [e'];simp))
 have w:Rep (M.plus fp) ρ' σ H' fps':=rep.wide (λ i j hj=>by rw [hal i] at hj;cases hj) k g r' λ a ha=>⟨t.new a ha,by obtain ⟨xs,e⟩:=Own.lsts x d v fp o a ha;rw [e];simp,t.ndj a ha⟩
 have hf:∀ a∈fp,M.H₀ a=none/\¬ M.Zo a:=λ a ha=>⟨back a (t.new a ha),λ z=>t.ndj a ha (.inl z)⟩
 have ks2:∀ {fps2:AA},(∀ i a,a∈fps2 i->a∈fps' i)->KS M H fps H' (λ j=>if j=i then fp else fps2 j):=λ {fps2} h2=>⟨k.ks.keep,k.dom,λ j a ha=>by
  by_cases e:j=i
  ·simp only [if_pos e] at ha;exact .inr (t.new a ha)
  ·simp only [if_neg e] at ha;exact k.ks.sub j a (h2 j a ha)⟩
 unfold Bb;by_cases hd:d=om
 ·rw [if_pos hd];refine ⟨_,ks2 λ _ _ h=>h,w.put (i:=i) (x:=x) (d:=d) (v:=v) ?_ hf hi hm hio⟩;rw [hd] at o ⊢;exact Own.full x v fp o
 ·rw [if_neg hd];refine ⟨_,ks2 λ _ _ h=>(EM h).1,(w.cool (vs:=vs) hal hv).put (i:=i) (x:=x) (d:=d) (v:=v) ?_ hf (by rw [KW];exact hi) hm hio⟩;exact o.weak λ a h=>h.elim (λ h=>.inl (GH h.zf)) .inr
theorem SW {f:Fx}{i:Nat}{ms:Bool}{D:Ends} (hal:∀ i,M.al i=[]) (hv:∀ i∈vs,M.Ms i=false) (hms:M.Ms i=ms) (hio:M.Fre i) (hq:tS M (Ai ms i f vs) D σ H):CK (tE M f vs) (ET i) D σ H:=by
 obtain ⟨ρ,fps,rep,q⟩:=hq;refine ⟨ρ,fps,rep,?_⟩;unfold Ai at q;cases ef:f ρ with
 | no=>rw [ef] at q;exact q
 | exc c=>rw [ef] at q;exact λ H' fps' k=>q _ H' fps' k.ks
 | ok p=>
  obtain ⟨x,d,ρ1⟩:=p;rw [ef] at q;intro v H1 fps1 f1 k1 g1 rep1 o1 t1;dsimp only at q;by_cases hc:i < ρ1.length/\(ms=true->d=om)
  ·rw [if_pos hc] at q;obtain ⟨fps2,k2,r2⟩:=Rep.store rep k1 g1 rep1 o1 t1 hal hv hc.1 (λ h=>hc.2 (by rw [<- hms];exact h)) hio;exact q _ _ _ k2 r2
  ·rw [if_neg hc] at q;exact q.elim
end
section
variable {M:Fm}{ρ ρ':Ae}{σ σ':St}{H H' H'':Hp}{fps fps' fps'':AA}{vs vs':List Nat}
def Zr.zf {a:Addr} (h:Zr M fps a):Zf M fps a:=h.elim .inl λ h=>.inr ⟨0,h.2⟩
def Rep.zr (r:Rep M ρ σ H fps) (hv:∀ i∈vs,M.Ms i=false) {a:Addr} (h:Zr M fps a):Zv M vs fps a:=by
 rcases h with h | ⟨h1,h2⟩
 ·exact .inl h
 ·refine .inr ⟨0,λ z=>?_,h2⟩;cases e:M.io with
  | none=>exact h1 e
  | some v=>have:=(r.iov.1 v e).2;rw [hv 0 z] at this;cases this
theorem Rep.h0' (r:Rep M ρ σ H fps) {a:Addr} (e:H a=none):M.H₀ a=none:=by
 cases e':M.H₀ a with
 | none=>rfl
 | some o=>exact absurd e (r.h0 a (by rw [e'];simp))
def Au (f:Fx):Fs:=λ ρ=>match f ρ with
 | .ok (x,d,ρ1)=>.rt x d ρ1
 | .exc c=>.exc c
 | .no=>.no
theorem Yp {f:Fx}{D:Ends} (hv:∀ i∈vs,M.Ms i=false) (hq:tS M (Au f) D σ H):HE (tE M f vs) D σ H:=by
 obtain ⟨ρ,fps,rep,q⟩:=hq;refine ⟨ρ,fps,rep,?_⟩;unfold Au at q;cases ef:f ρ with
 | no=>rw [ef] at q;exact q
 | exc c=>rw [ef] at q;exact λ H' fps' k=>q _ H' fps' k.ks
 | ok p=>
  obtain ⟨x,d,ρ1⟩:=p;rw [ef] at q;intro v H1 fps1 f1 k1 g1 rep1 o1 t1;exact q v σ H1 fps1 f1 k1.ks rep1 (o1.weak λ a h=>h.elim (λ h=>.inl (rep1.zr hv h)) .inr) λ a ha=>⟨rep.h0' (t1.new a ha),λ z=>t1.ndj a ha z.zf⟩
def FE (i:Nat):Fs:=λ ρ=>match ρ[i]? with
 | some (some (x,d))=>.rt x d ρ
 | _=>.no
theorem Ze {i:Nat}{D:Ends} (hal:∀ i,M.al i=[]) (hm:M.Ms i=false) (hq:tS M (FE i) D σ H):HE (BE i) D σ H:=by
 obtain ⟨ρ,fps,rep,q⟩:=hq;unfold FE at q;cases e0:ρ[i]? with
 | none=>rw [e0] at q;exact q.elim
 | some sl=>
  cases sl with
  | none=>rw [e0] at q;exact q.elim
  | some p=>
   obtain ⟨x,d⟩:=p;rw [e0] at q;obtain ⟨v,hv,o⟩:=rep.own0 hal i x d e0;refine ⟨v,hv,q v σ H fps (fps i) KS.refl rep (o.weak λ a h=>h.elim Zr.zf λ z=>.inr ⟨i,z⟩) λ a ha=>⟨rep.fr i hm a ha,λ z=>?_⟩⟩;rcases z with z | ⟨z1,z2⟩
   ·exact rep.zo i a ha z
   ·cases e:M.io with
    | none=>exact z1 e
    | some w=>exact rep.dj i 0 (λ e'=>by rw [e',(rep.iov.1 w e).2] at hm;cases hm) a ha z2
def Ca (f:Fx):Fs:=λ ρ=>match f ρ with
 | .ok (_,_,ρ1)=>.nx ρ1
 | .exc c=>.exc c
 | .no=>.no
theorem YZ {f:Fx}{D:Ends} (hq:tS M (Ca f) D σ H):M4 (tE M f vs) D σ H:=by
 obtain ⟨ρ,fps,rep,q⟩:=hq;refine ⟨ρ,fps,rep,?_⟩;unfold Ca at q;cases ef:f ρ with
 | no=>rw [ef] at q;exact q
 | exc c=>rw [ef] at q;exact λ H' fps' k=>q _ H' fps' k.ks
 | ok p=>
  obtain ⟨x,d,ρ1⟩:=p;rw [ef] at q;intro v H1 fps1 f1 k1 g1 rep1 o1 t1;exact q σ H1 fps1 k1.ks rep1
theorem OwnL.snoc {K:Frag}{Z:Addr->Prop}{y:PV}{d:Nat}{w:V}{fy:List Addr}:∀ {xs:List PV}{ws:List V}{f:List Addr},OwnL K H Z xs d ws f->Own K H Z y d w fy->(∀ a∈f,a∉fy)->OwnL K H Z (xs++[y]) d (ws++[w]) (f++fy)
 | [],ws,f,h,hy,_=>by
  rw [OwnL] at h;obtain ⟨rfl,rfl⟩:=h;show OwnL K H Z [y] d [w] fy;rw [OwnL];refine ⟨w,[],fy,[],rfl,by simp,λ _ _ z=>(nomatch z),hy,?_⟩;rw [OwnL];exact ⟨rfl,rfl⟩
 | x::xs,ws,f,h,hy,hd=>by
  rw [OwnL] at h;obtain ⟨v,s,f1,f2,rfl,rfl,dj,h1,h2⟩:=h;show OwnL K H Z (x::(xs++[y])) d (v::(s++[w])) (f1++f2++fy);rw [OwnL];refine ⟨v,s++[w],f1,f2++fy,rfl,by rw [PJ],λ a ha hb=>?_,h1,h2.snoc hy λ a ha=>hd a (AL _ ha)⟩;rcases jc2.mp hb with z | z
  ·exact dj a ha z
  ·exact hd a (AZ _ ha) z
def Own.at {K:Frag}{Z Z':Addr->Prop}{a:Addr}{o:HO}{x:PV}{d:Nat}{v:V}{fp:List Addr} (h:Own K H Z x d v fp) (hZ:Z a) (hl:∃ o:MO,H a=some o.ho) (hf:a∉fp) (hz:∀ b,H b≠none->¬ Z b->¬ Z' b):Own K (Am H a o) Z' x d v fp:=
 Own.move (S:=λ b=>b=a) (λ b u hb n=>by rw [A3 n];exact hb) (λ b e=>by rw [e];exact ⟨hZ,hl⟩) hz x d v fp (λ b hb e=>hf (by rw [<- e];exact hb)) h
def OwnL.at {K:Frag}{Z Z':Addr->Prop}{a:Addr}{o:HO}{x:List PV}{d:Nat}{v:List V}{fp:List Addr} (h:OwnL K H Z x d v fp) (hZ:Z a) (hl:∃ o:MO,H a=some o.ho) (hf:a∉fp) (hz:∀ b,H b≠none->¬ Z b->¬ Z' b):OwnL K (Am H a o) Z' x d v fp:=
 OwnL.move (S:=λ b=>b=a) (λ b u hb n=>by rw [A3 n];exact hb) (λ b e=>by rw [e];exact ⟨hZ,hl⟩) hz x d v fp (λ b hb e=>hf (by rw [<- e];exact hb)) h
def Rep.rewrite {i:Nat}{xs:List PV}{d:Nat}{a:Addr}{ws:List V}{zs:List PV}{us:List V}{e:Nat}{f f' fp:List Addr} (hal:∀ i,M.al i=[]) (r:Rep (M.plus fp) ρ σ H fps) (hi:ρ[i]?=some (some (.lst xs,d))) (hσ:σ[i]?=some (some (.ref a)))
  (ha:H a=some (.lst ws)) (hfp:fps i=a::f) (hn:a∉f') (hsub:∀ b∈f',b∈f\/b∈fp) (he:e≠0) (hm:M.Ms i=true->e=om) (hH:∀ b∈fp,M.H₀ b=none/\¬ M.Zo b)
  (hnew:OwnL M.K (Am H a (.lst us)) (Zf M (λ j=>if j=i then a::f' else fps j)) zs (pd e) us f'):
  Rep M (ρ.set i (some (.lst zs,e))) σ (Am H a (.lst us)) (λ j=>if j=i then a::f' else fps j):=by
 have hlen:i < ρ.length:=(jb0.mp hi).1;have hai:a∈fps i:=by rw [hfp];exact AI
 have zz:∀ b,Zf M (λ j=>if j=i then a::f' else fps j) b->Zf (M.plus fp) fps b:=λ b h=>by
  rcases h with z | ⟨j,z⟩
  ·exact .inl (.inl z)
  ·by_cases ej:j=i
   ·simp only [if_pos ej] at z;rcases ja8.mp z with z | z
    ·exact .inr ⟨i,by rw [z];exact hai⟩
    ·rcases hsub b z with z | z
     ·exact .inr ⟨i,by rw [hfp];exact AB _ z⟩
     ·exact .inl (.inr z)
   ·simp only [if_neg ej] at z;exact .inr ⟨j,z⟩
 have dm:∀ b,H b≠none->(Am H a (.lst us)) b≠none:=λ b h=>by
  by_cases eb:b=a
  ·rw [eb,Bq];simp
  ·rw [A3 eb];exact h
 have inI:∀ b,b∈a::f'->b∈fps i\/b∈fp:=λ b hb=>by
  rcases ja8.mp hb with z | z
  ·exact .inl (by rw [z];exact hai)
  ·rcases hsub b z with z | z
   ·exact .inl (by rw [hfp];exact AB _ z)
   ·exact .inr z
 refine ⟨λ j y c hj=>?_,λ j hj=>?_,λ j k hjk b hb hc=>?_,λ j b hb z=>?_,λ j hj b hb=>?_,λ b z=>dm b (r.zd b (.inl z)),by rw [Ee];exact r.len,λ j y c hj hc=>?_,λ b z=>dm b (r.h0 b z),r.iov⟩
 ·by_cases ej:j=i
  ·subst ej;rw [Dh hlen] at hj;cases hj;refine ⟨_,hσ,?_⟩;rw [if_pos rfl,Own];exact ⟨a,us,rfl,.inr ⟨he,f',Bq,rfl,hn,hnew.weak λ _ h=>h.zf⟩⟩
  ·rw [Ck (Br ej)] at hj;obtain ⟨w,hw,ow⟩:=r.own0 hal j y c hj;refine ⟨w,hw,?_⟩;rw [if_neg ej];exact ow.at (.inr ⟨i,hai⟩) ⟨.l ws,ha⟩ (λ z=>r.dj j i ej a z hai) λ b _ nz z=>nz (zz b z.zf)
 ·by_cases ej:j=i
  ·subst ej;exact absurd (Dh hlen) (hj _)
  ·rw [if_neg ej];exact r.non j λ p hp=>hj p (by rw [Ck (Br ej)];exact hp)
 ·have one:∀ k,k≠i->∀ b,b∈a::f'->b∈fps k->False:=λ k hk b h1 h2=>(inI b h1).elim (λ z=>r.dj i k (Br hk) b z h2) λ z=>r.zo k b h2 (.inr z);by_cases e1:j=i
  ·by_cases e2:k=i
   ·exact hjk (e1.trans e2.symm)
   ·rw [if_pos e1] at hb;rw [if_neg e2] at hc;exact one k e2 b hb hc
  ·rw [if_neg e1] at hb;by_cases e2:k=i
   ·rw [if_pos e2] at hc;exact one j e1 b hc hb
   ·rw [if_neg e2] at hc;exact r.dj j k hjk b hb hc
 ·by_cases ej:j=i
  ·rw [if_pos ej] at hb;rcases inI b hb with y | y
   ·exact r.zo i b y (.inl z)
   ·exact (hH b y).2 z
  ·rw [if_neg ej] at hb;exact r.zo j b hb (.inl z)
 ·by_cases ej:j=i
  ·rw [if_pos ej] at hb;rcases inI b hb with y | y
   ·exact r.fr i (by rw [<- ej];exact hj) b y
   ·exact (hH b y).1
  ·rw [if_neg ej] at hb;exact r.fr j hj b hb
 ·by_cases ej:j=i
  ·subst ej;rw [Dh hlen] at hc;cases hc;exact hm hj
  ·rw [Ck (Br ej)] at hc;exact r.msf j y c hj hc
end
section
variable {M:Fm}{ρ ρ':Ae}{σ σ':St}{H H' H'':Hp}{fps fps' fps'':AA}{vs vs':List Nat}
def KS.write {a:Addr}{o:HO}{i:Nat}{f' fp:List Addr} (k:KS M H fps H' fps') (ha:∃ j,a∈fps j) (hs:∀ b∈a::f',b∈fps' i\/H b=none):
  KS M H fps (Am H' a o) (λ j=>if j=i then a::f' else fps' j) where
 keep:=λ b u hb n=>by rw [A3 (λ e=>n (by rw [e];exact ha))];exact k.keep b u hb n
 dom:=λ b hb=>by
  by_cases e:b=a
  ·rw [e,Bq];simp
  ·rw [A3 e];exact k.dom b hb
 sub:=λ j b hb=>by
  by_cases e:j=i
  ·simp only [if_pos e] at hb;rcases hs b hb with z | z
   ·exact k.sub i b z
   ·exact .inr z
  ·simp only [if_neg e] at hb;exact k.sub j b hb
def Rep.behind {x:PV}{d:Nat}{v:V}{fp:List Addr} (rep:Rep M ρ σ H fps) (k:KD M H fps H' fps') (g:Agr M ρ ρ') (r':Rep M ρ' σ H' fps') (o:Own M.K H' (Zt M vs fps' fp) x d v fp) (t:Temp M vs H H' fps' fp)
  (hal:∀ i,M.al i=[]) (hv:∀ i∈vs,M.Ms i=false):∃ fps2,KS M H fps H' fps2/\Rep (M.plus fp) (Bb d vs ρ') σ H' fps2/\Own M.K H' (λ a=>Zf M fps2 a\/a∈fp) x d v fp/\(∀ a∈fp,¬ Zf M fps2 a)/\(∀ i a,a∈fps2 i->a∈fps' i)/\(∀ a∈fp,M.H₀ a=none/\¬ M.Zo a):=by
 have w:Rep (M.plus fp) ρ' σ H' fps':=rep.wide (λ i j hj=>by rw [hal i] at hj;cases hj) k g r' λ a ha=>⟨t.new a ha,by obtain ⟨xs,e⟩:=Own.lsts x d v fp o a ha;rw [e];simp,t.ndj a ha⟩
 have hf:∀ a∈fp,M.H₀ a=none/\¬ M.Zo a:=λ a ha=>⟨rep.h0' (t.new a ha),λ z=>t.ndj a ha (.inl z)⟩
 unfold Bb;by_cases hd:d=om
 ·rw [if_pos hd];refine ⟨fps',k.ks,w,?_,t.ndj,λ _ _ h=>h,hf⟩;rw [hd] at o ⊢;exact Own.full x v fp o
 ·rw [if_neg hd];exact ⟨Dp vs fps',k.ks.cool,w.cool hal hv,o.weak λ a h=>h.elim (λ h=>.inl (GH h)) .inr,λ a ha z=>t.ndj a ha (GH z).zf,λ _ _ h=>(EM h).1,hf⟩
def Ce (i:Nat) (f:Fx) (vs:List Nat):Fs:=λ ρ=>match ρ[i]? with
 | some (some (.lst _,0))=>.no
 | some (some (.lst _,_ + 1))=>(match f ρ with
  | .ok (y,e,ρ1)=>(match (Bb e vs ρ1)[i]? with
   | some (some (.lst xs,d))=>if d≠0/\xs.length < Ap then .nx ((Bb e vs ρ1).set i (some (.lst (xs++[y]),if d=om/\e=om then om else 1))) else .no
   | _=>.no)
  | .exc c=>.exc c
  | .no=>.no)
 | _=>.no
def IB:pd 1=0:=by decide
def Own.list {K:Frag}{Z:Addr->Prop}{xs:List PV}{d:Nat}{v:V}{fp:List Addr} (h:Own K H Z (.lst xs) d v fp) (hd:d≠0):∃ a ws f,v=.ref a/\H a=some (.lst ws)/\fp=a::f/\a∉f/\OwnL K H Z xs (pd d) ws f:=by
 rw [Own] at h;obtain ⟨a,ws,e,⟨d0,_⟩ | ⟨_,f,h1,h2,h3,h4⟩⟩:=h
 ·exact absurd d0 hd
 ·exact ⟨a,ws,f,e,h1,h2,h3,h4⟩
def X9 {f:Fx}{i:Nat}{D:Ends} (hal:∀ i,M.al i=[]) (hv:∀ i∈vs,M.Ms i=false) (hm:M.Ms i=false) (hq:tS M (Ce i f vs) D σ H):M4 (Ka M.K "list" TL (BE i) (GK (tE M f vs) CY)) D σ H:=by
 obtain ⟨ρ,fps,rep,q⟩:=hq;unfold Ce at q;split at q
 ·exact q.elim
 ·rename_i xs0 d0 e0;obtain ⟨v,hσ,o⟩:=rep.own0 hal i _ _ e0;obtain ⟨a,ws0,fc0,rfl,ha0,hfp0,_,_⟩:=o.list (PD _);refine ⟨_,hσ,Uc (.inl (.inl ha0)),ρ,fps,rep,?_⟩;cases ef:f ρ with
  | no=>rw [ef] at q;exact q
  | exc c=>rw [ef] at q;exact λ H' fps' k=>q _ H' fps' k.ks
  | ok p=>
   obtain ⟨y,e,ρ1⟩:=p;rw [ef] at q;intro w H1 fps1 fp k1 g1 rep1 o1 t1;dsimp only at q;split at q
   ·rename_i xs d es;split at q
    ·rename_i hc;obtain ⟨fps2,k2,r2,o2,n2,s2,h2⟩:=Rep.behind rep k1 g1 rep1 o1 t1 hal hv;obtain ⟨v',hσ',ol⟩:=r2.own0 hal i _ _ es;rw [hσ] at hσ';cases hσ';obtain ⟨a',ws,fc,ev,ha,hfp,nac,hol⟩:=ol.list hc.1;cases ev;have hai:a∈fps2 i:=by rw [hfp];exact AI
     have hafp:a∉fp:=λ z=>n2 a z (.inr ⟨i,hai⟩);have hst:∃ j,a∈fps j:=⟨i,by have:=s2 i a hai;rw [k1.same i hm] at this;exact this⟩
     refine ⟨a,ws,w,rfl,rfl,ha,by rw [hol.length];exact hc.2,?_⟩;by_cases ho:d=om/\e=om
     ·rw [if_pos ho] at q;obtain ⟨rfl,rfl⟩:=ho;refine q σ _ _ (k2.write (i:=i) (f':=fc++fp) (fp:=fp) hst λ b hb=>?_) (r2.rewrite hal es hσ ha hfp (λ z=>(jc2.mp z).elim nac hafp) (λ b hb=>jc2.mp hb) (by decide) (λ _=>rfl) h2 ?_)
      ·rcases ja8.mp hb with z | z
       ·exact .inl (by rw [z];exact hai)
       ·rcases jc2.mp z with z | z
        ·exact .inl (by rw [hfp];exact AB _ z)
        ·exact .inr (t1.new b z)
      ·have u1:OwnL M.K (Am H1 a (.lst (ws++[w]))) (λ _=>True) xs om ws fc:=(OwnL.full (Z':=λ _=>True) xs ws fc hol).at trivial ⟨.l ws,ha⟩ nac λ _ _ n=>absurd trivial n;have u2:Own M.K (Am H1 a (.lst (ws++[w]))) (λ _=>True) y om w fp:=(Own.full (Z':=λ _=>True) y w fp o2).at trivial ⟨.l ws,ha⟩ hafp λ _ _ n=>absurd trivial n;exact OwnL.full _ _ _ (u1.snoc u2 λ b hb z=>n2 b z (.inr ⟨i,by rw [hfp];exact AB _ hb⟩))
     ·rw [if_neg ho] at q;refine q σ _ _ (k2.write (i:=i) (f':=[]) (fp:=fp) hst λ b hb=>?_) (r2.rewrite hal es hσ ha hfp (λ z=>nomatch z) (λ b hb=>nomatch hb) (by decide) (λ h=>by rw [hm] at h;cases h) h2 ?_)
      ·rcases ja8.mp hb with z | z
       ·exact .inl (by rw [z];exact hai)
       ·cases z
      ·rw [IB];have zsub:∀ b,Zf M (λ j=>if j=i then [a] else fps2 j) b->Zf (M.plus fp) fps2 b:=λ b h=>by
        rcases h with z | ⟨j,z⟩
        ·exact .inl (.inl z)
        ·by_cases ej:j=i
         ·simp only [if_pos ej] at z;rw [jb2.mp z];exact .inr ⟨i,hai⟩
         ·simp only [if_neg ej] at z;exact .inr ⟨j,z⟩
       have nf:∀ b∈fc,¬ Zf M (λ j=>if j=i then [a] else fps2 j) b:=λ b hb z=>by
        have hbi:b∈fps2 i:=by rw [hfp];exact AB _ hb
        rcases z with z | ⟨j,z⟩
        ·exact r2.zo i b hbi (.inl z)
        ·by_cases ej:j=i
         ·simp only [if_pos ej] at z;rw [jb2.mp z] at hb;exact nac hb
         ·simp only [if_neg ej] at z;exact r2.dj i j (Br ej) b hbi z
       have nfp:∀ b∈fp,¬ Zf M (λ j=>if j=i then [a] else fps2 j) b:=λ b hb z=>by
        rcases z with z | ⟨j,z⟩
        ·exact n2 b hb (.inl z)
        ·by_cases ej:j=i
         ·simp only [if_pos ej] at z;rw [jb2.mp z] at hb;exact hafp hb
         ·simp only [if_neg ej] at z;exact n2 b hb (.inr ⟨j,z⟩)
       have za:Zf M (λ j=>if j=i then [a] else fps2 j) a:=.inr ⟨i,by simp⟩;have u1:=(OwnL.freeze (Z':=Zf M (λ j=>if j=i then [a] else fps2 j)) zsub xs _ ws fc nf hol)
       have u2:=(Own.freeze (Z':=Zf M (λ j=>if j=i then [a] else fps2 j)) (λ b h=>by
        rcases h with z | ⟨j,z⟩
        ·exact .inl (.inl z)
        ·by_cases ej:j=i
         ·simp only [if_pos ej] at z;rw [jb2.mp z];exact .inl (.inr ⟨i,hai⟩)
         ·simp only [if_neg ej] at z;exact .inl (.inr ⟨j,z⟩)) y _ w fp nfp o2)
       exact (u1.at za ⟨.l ws,ha⟩ (λ z=>nomatch z) λ _ _ n=>n).snoc (u2.at za ⟨.l ws,ha⟩ (λ z=>nomatch z) λ _ _ n=>n) λ _ z=>nomatch z
    ·exact q.elim
   ·exact q.elim
 ·exact q.elim
def GN:PV->Bool
 | .lst _=>false
 | .tup _=>false
 | .dct _=>false
 | _=>true
theorem OwnL.set {K:Frag}{Z:Addr->Prop}{y:PV}{d:Nat}{w:V} (hy:Own K H Z y d w []):∀ {xs:List PV}{ws:List V}{f:List Addr} (k:Nat),OwnL K H Z xs d ws f->∃ f',(∀ b∈f',b∈f)/\OwnL K H Z (xs.set k y) d (ws.set k w) f'
 | [],ws,f,k,h=>by
  rw [OwnL] at h;obtain ⟨rfl,rfl⟩:=h;refine ⟨[],λ _ z=>z,?_⟩;rw [MH,MH,OwnL];exact ⟨rfl,rfl⟩
 | x::xs,ws,f,0,h=>by
  rw [OwnL] at h;obtain ⟨v,s,f1,f2,rfl,rfl,dj,h1,h2⟩:=h;refine ⟨f2,λ b hb=>AL _ hb,?_⟩;rw [Ji,Ji,OwnL];exact ⟨w,s,[],f2,rfl,rfl,λ _ z=>(nomatch z),hy,h2⟩
 | x::xs,ws,f,k + 1,h=>by
  rw [OwnL] at h;obtain ⟨v,s,f1,f2,rfl,rfl,dj,h1,h2⟩:=h;obtain ⟨f',hs,h'⟩:=h2.set hy k;refine ⟨f1++f',λ b hb=>(jc2.mp hb).elim (λ z=>AZ _ z) λ z=>AL _ (hs b z),?_⟩;rw [Jh,Jh,OwnL];exact ⟨v,s.set k w,f1,f',rfl,rfl,λ b hb hc=>dj b hb (hs b hc),h1,h'⟩
theorem Own.atom {K:Frag}{Z Z':Addr->Prop}{y:PV}{d d':Nat}{w:V}{fp:List Addr} (hy:GN y=true) (h:Own K H Z y d w fp):fp=[]/\Own K H Z' y d' w []:=by
 cases y with
 | lst _=>cases hy
 | tup _=>cases hy
 | dct _=>cases hy
 | exn _=>rw [Own] at h ⊢;exact ⟨h.1,rfl,h.2⟩
 | emp=>rw [Own] at h ⊢;exact ⟨h.1,rfl,h.2⟩
 | dko=>rw [Own] at h ⊢;exact ⟨h.1,rfl,h.2⟩
 | scr _=>rw [Own] at h ⊢;exact ⟨h.1,rfl,h.2⟩
 | non=>rw [Own] at h ⊢;exact ⟨h.2,h.1,rfl⟩
 | bl _=>rw [Own] at h ⊢;exact ⟨h.2,h.1,rfl⟩
 | int _=>rw [Own] at h ⊢;exact ⟨h.2,h.1,rfl⟩
 | str _=>rw [Own] at h ⊢;exact ⟨h.2,h.1,rfl⟩
def FK (i:Nat) (k:Int) (f:Fx):Fs:=λ ρ=>match f ρ with
 | .ok (y,_,ρ1)=>(match ρ1[i]? with
  | some (some (.lst xs,d))=>(match C1 xs.length k with
   | some j=>if d≠0/\GN y=true then .nx (ρ1.set i (some (.lst (xs.set j y),d))) else .no
   | none=>.no)
  | _=>.no)
 | .exc c=>.exc c
 | .no=>.no
theorem Yo {f:Fx}{i:Nat}{k:Int}{D:Ends} (hal:∀ i,M.al i=[]) (hv:∀ i∈vs,M.Ms i=false) (hq:tS M (FK i k f) D σ H):CK (tE M f vs) (E9 (BE i) (tC (.int k)) Ko) D σ H:=by
 obtain ⟨ρ,fps,rep,q⟩:=hq;refine ⟨ρ,fps,rep,?_⟩;unfold FK at q;cases ef:f ρ with
 | no=>rw [ef] at q;exact q
 | exc c=>rw [ef] at q;exact λ H' fps' k=>q _ H' fps' k.ks
 | ok p=>
  obtain ⟨y,e,ρ1⟩:=p;rw [ef] at q;intro w H1 fps1 fp k1 g1 rep1 o1 t1;dsimp only at q;split at q
  ·rename_i xs d es;split at q
   ·rename_i j ej;split at q
    ·rename_i hc;obtain ⟨rfl,_⟩:=Own.atom (Z':=λ _=>True) (d':=0) hc.2 o1;obtain ⟨v',hσ',ol⟩:=rep1.own0 hal i _ _ es;obtain ⟨a,ws,fc,rfl,ha,hfp,nac,hol⟩:=ol.list hc.1;have hai:a∈fps1 i:=by rw [hfp];exact AI
     refine ⟨_,hσ',a,ws,k,j,rfl,rfl,ha,by rw [hol.length];exact ej,?_⟩;have rp:Rep (M.plus []) ρ1 σ H1 fps1:=rep.wide (λ i j hj=>by rw [hal i] at hj;cases hj) k1 g1 rep1 λ b hb=>nomatch hb
     obtain ⟨fc',hs',hset⟩:=hol.set (Own.atom (d':=pd d) hc.2 o1).2 j;have inI:∀ b,b∈a::fc'->b∈fps1 i:=λ b hb=>(ja8.mp hb).elim (λ z=>by rw [z];exact hai) λ z=>by rw [hfp];exact AB _ (hs' b z)
     have hst:KS M H fps (Am H1 a (.lst (ws.set j w))) (λ j=>if j=i then a::fc' else fps1 j):=by
      refine ⟨λ b u hb n=>?_,λ b hb=>?_,λ j b hb=>?_⟩
      ·have hb1:=k1.ks.keep b u hb n;rw [A3]
       ·exact hb1
       ·rintro rfl;rcases k1.ks.sub i b hai with z | z
        ·exact n z
        ·rw [z] at hb;cases hb
      ·by_cases eb:b=a
       ·rw [eb,Bq];simp
       ·rw [A3 eb];exact k1.dom b hb
      ·by_cases ej:j=i
       ·simp only [if_pos ej] at hb;exact k1.ks.sub i b (inI b hb)
       ·simp only [if_neg ej] at hb;exact k1.ks.sub j b hb
     refine q σ _ _ hst (rp.rewrite hal es hσ' ha hfp (λ z=>nac (hs' a z)) (λ b hb=>.inl (hs' b hb)) hc.1 (λ h=>rep1.msf i _ _ h es) (λ b hb=>nomatch hb) ?_);have nz:∀ b,Zf M (λ j=>if j=i then a::fc' else fps1 j) b->Zf M fps1 b:=λ b h=>by
      rcases h with z | ⟨j,z⟩
      ·exact .inl z
      ·by_cases ej:j=i
       ·simp only [if_pos ej] at z;exact .inr ⟨i,inI b z⟩
       ·simp only [if_neg ej] at z;exact .inr ⟨j,z⟩
     exact hset.at (.inr ⟨i,hai⟩) ⟨.l ws,ha⟩ (λ z=>nac (hs' a z)) λ b _ n z=>n (nz b z)
    ·exact q.elim
   ·exact q.elim
  ·exact q.elim
end
section
variable {is:List Nat}{M:Fm}{ρ ρ':Ae}{σ σ':St}{H H' H'':Hp}{fps fps' fps'':AA}{vs vs':List Nat}
def Rep.plus0 (hal:∀ i,∀ j∈M.al i,M.Ms j=false) (r:Rep M ρ σ H fps):Rep (M.plus []) ρ σ H fps:=r.wide hal KD.refl Agr.refl r (λ _ z=>nomatch z)
def Df (M:Fm) (al is:List Nat) (g:TG) (asg:PV->Ae->Option Ae):Prop:=∀ y v ρ σ H fps ρ' (Q:St->Hp->Prop),Rep M ρ σ H fps->Own M.K H (Zv M al fps) y 0 v []->asg y ρ=some ρ'->(∀ σ' fps',(∀ i,∀ a∈fps' i,a∈fps i)->(∀ i,i∉is->ρ'[i]?=ρ[i]?/\fps' i=fps i/\σ'[i]?=σ[i]?)->ρ'.length=ρ.length->Rep M ρ' σ' H fps'->Q σ' H)->g v σ H Q
def Aj (i:Nat):PV->Ae->Option Ae:=λ y ρ=>if i < ρ.length then some (ρ.set i (some (y,dv y))) else none
def Own.dv {K:Frag}{Z:Addr->Prop}{x:PV}{v:V} (h:Own K H Z x 0 v []):Own K H Z x (dv x) v []:=Own.view (fp:=[]) (λ _ z=>z) (λ _ z=>nomatch z) h
structure Bd (M:Fm) (al:List Nat) (i:Nat):Prop where
 ms:M.Ms i=false
 io:M.Fre i
 al:M.al i=al
 als:∀ i,∀ j∈M.al i,M.Ms j=false
def Rep.bind1 {al:List Nat}{i:Nat}{y:PV}{v:V} (r:Rep M ρ σ H fps) (o:Own M.K H (Zv M al fps) y 0 v []) (hi:i < ρ.length) (b:Bd M al i):
  Rep M (ρ.set i (some (y,dv y))) (σ.set i (some v)) H (λ j=>if j=i then [] else fps j):=by
 refine (r.plus0 b.als).put (o.dv.weak λ a h=>h.elim (λ h=>?_) λ z=>nomatch z) (λ _ z=>nomatch z) hi (λ h=>by rw [b.ms] at h;cases h) b.io;rcases h with h | ⟨j,nj,h⟩
 ·exact .inl h
 ·exact .inr ⟨j,by rw [b.al] at nj;exact nj,h⟩
def Sv {al:List Nat}{i:Nat} (b:Bd M al i):Df M al [i] (ET i) (Aj i):=by
 intro y v ρ σ H fps ρ' Q r o e q;unfold Aj at e;split at e
 ·rename_i hi;cases e;refine q _ _ (λ j a ha=>?_) (λ j nj=>?_) (by rw [Ee]) (r.bind1 o hi b)
  ·by_cases e:j=i
   ·simp only [if_pos e] at ha;cases ha
   ·simp only [if_neg e] at ha;exact ha
  ·have e:j≠i:=λ e=>nj (by simp [e]);exact ⟨Ck (Br e),if_neg e,Ck (Br e)⟩
 ·cases e
def IG:List Nat->Hh
 | []=>KA
 | i::is=>RV (ET i) (IG is)
def Gi:List Nat->List PV->Ae->Option Ae
 | [],[],ρ=>some ρ
 | i::is,y::ys,ρ=>(Aj i y ρ).bind (Gi is ys)
 | _,_,_=>none
def CM (is:List Nat):PV->Ae->Option Ae:=λ y ρ=>match y with
 | .tup ys=>Gi is ys ρ
 | _=>none
theorem TC {al:List Nat}:∀ (is:List Nat) (ys:List PV) (ws:List V) (ρ:Ae) (σ:St) (H:Hp) (fps:AA) (ρ':Ae) (Q:St->Hp->Prop),(∀ i∈is,Bd M al i)->Rep M ρ σ H fps->OwnL M.K H (Zv M al fps) ys 0 ws []->Gi is ys ρ=some ρ' ->
  (∀ σ' fps',(∀ i,∀ a∈fps' i,a∈fps i)->(∀ i,i∉is->ρ'[i]?=ρ[i]?/\fps' i=fps i/\σ'[i]?=σ[i]?)->ρ'.length=ρ.length->Rep M ρ' σ' H fps'->Q σ' H)->ws.length=is.length/\IG is ws σ H Q
 | [],[],ws,ρ,σ,H,fps,ρ',Q,_,r,o,e,q=>by
  rw [OwnL] at o;obtain ⟨rfl,_⟩:=o;cases e;exact ⟨rfl,rfl,q σ fps (λ _ _ h=>h) (λ _ _=>⟨rfl,rfl,rfl⟩) rfl r⟩
 | [],_::_,_,_,_,_,_,_,_,_,_,_,e,_=>by cases e
 | _::_,[],_,_,_,_,_,_,_,_,_,_,e,_=>by cases e
 | i::is,y::ys,ws,ρ,σ,H,fps,ρ',Q,hs,r,o,e,q=>by
  rw [OwnL] at o;obtain ⟨v,s,f1,f2,rfl,ef,_,o1,o2⟩:=o;obtain ⟨rfl,rfl⟩:f1=[]/\f2=[]:=by simpa using ef.symm
  unfold Gi at e;cases e1:Aj i y ρ with
  | none=>rw [e1] at e;cases e
  | some ρ1=>
   rw [e1] at e;unfold Aj at e1;split at e1
   ·rename_i hi;cases e1;have bi:=hs i AI;have r':=r.bind1 o1 hi bi;have sub:∀ j a,a∈(λ j=>if j=i then [] else fps j) j->a∈fps j:=λ j a z=>by
     by_cases ej:j=i
     ·simp only [if_pos ej] at z;cases z
     ·simp only [if_neg ej] at z;exact z
    have o2':OwnL M.K H (Zv M al (λ j=>if j=i then [] else fps j)) ys 0 s []:=o2.weak λ a h=>h.elim .inl λ ⟨j,nj,z⟩=>.inr ⟨j,nj,sub j a z⟩;obtain ⟨hl,hg⟩:=TC is ys s _ _ H _ ρ' Q (λ j hj=>hs j (AB _ hj)) r' o2' e λ σ' fps' k' a' l' r''=>q σ' fps' (λ j a ha=>sub j a (k' j a ha)) (λ j hj=>by
     have ej:j≠i:=λ e=>hj (by rw [e];exact AI);obtain ⟨z1,z2,z3⟩:=a' j λ z=>hj (AB _ z);rw [if_neg ej] at z2;exact ⟨z1.trans (Ck (Br ej)),z2,z3.trans (Ck (Br ej))⟩) (l'.trans (by rw [Ee])) r''
    exact ⟨by rw [Cf,Cf,hl],v,s,rfl,hg⟩
   ·cases e1
def OU {al:List Nat}{is:List Nat} (hs:∀ i∈is,Bd M al i):Df M al is (Ig M.K is.length (IG is)) (CM is):=by
 intro y v ρ σ H fps ρ' Q r o e q;unfold CM at e;split at e
 ·rename_i ys;rw [Own] at o;obtain ⟨a,ws,rfl,hr,ol⟩:=o;obtain ⟨hl,hg⟩:=TC is ys ws ρ σ H fps ρ' Q hs r ol e q;exact ⟨a,ws,rfl,.inl (.inl hr),hl,hg⟩
 ·cases e
def CP (asg:PV->Ae->Option Ae) (body:Fs):List PV->Ae->Rs
 | [],ρ=>.nx ρ
 | x::xs,ρ=>match asg x ρ with
  | none=>.no
  | some ρ1=>match body ρ1 with
   | .nx ρ2=>CP asg body xs ρ2
   | .ct ρ2=>CP asg body xs ρ2
   | .bk ρ2=>.nx ρ2
   | .rt x d ρ2=>.rt x d ρ2
   | .exc c=>.exc c
   | .no=>.no
def JE {g:TG}{asg:PV->Ae->Option Ae}{body:Fs}{D:Ends}{J:It}{els:List PV}{Pq:Hp->AA->Prop} (hg:Df M [] is g asg)
  (hP:∀ {ρ σ H fps H' fps'},Rep M ρ σ H fps->KS M H fps H' fps'->Pq H fps->Pq H' fps') (hgo:∀ {H fps i},Pq H fps->i < els.length->J.go i H) (hst:∀ {H fps i},Pq H fps->els.length<=i->J.stop i H)
  (hy:∀ {ρ σ H fps i x H'},Rep M ρ σ H fps->Pq H fps->i < els.length->J.yld i H x H'->(∀ a o,H a=some o->H' a=some o)/\∃ y,els[i]?=some y/\Own M.K H' (Zf M fps) y 0 x [])
  (rep:Rep M ρ σ H fps) (p:Pq H fps) (q:RsOk M D H fps (CP asg body els ρ)):
  ∃ W:Nat->Nat->St->Hp->Prop,(∃ m,W 0 m σ H)/\∀ i m σ H,W i m σ H ->
   (J.stop i H/\D.nx σ H)\/(J.go i H/\∃ N:St->Hp->Prop,(∀ σ' H',N σ' H'->∃ m',m' < m/\W (i + 1) m' σ' H')/\∀ x H',J.yld i H x H'->g x σ H' λ σ2 H2=>(tS M body) { D with nx:=N,ct:=N,bk:=D.nx } σ2 H2):=by
 let W:Nat->Nat->St->Hp->Prop:=λ i m σ H=>m=els.length - i/\∃ ρ fps,Rep M ρ σ H fps/\Pq H fps/\RsOk M D H fps (CP asg body (els.drop i) ρ);refine ⟨W,⟨els.length,by simp,ρ,fps,rep,p,by simpa using q⟩,?_⟩;rintro i m σ H ⟨rfl,ρ,fps,r,p,q⟩;by_cases hi:i < els.length
 ·right
  refine ⟨hgo p hi,W (i + 1) (els.length - (i + 1)),λ σ' H' w=>⟨_,by omega,w⟩,λ x H' y=>?_⟩;obtain ⟨kx,z,ez,oz⟩:=hy r p hi y;have k0:KS M H fps H' fps:=(KD.grow kx).ks;have p:=hP r k0 p;have r:=r.grow kx;have q:=RsOk.from k0 q;have ed:els.drop i=z::els.drop (i + 1):=by
   obtain ⟨h1,h2⟩:=jb0.mp ez;rw [<- h2];exact Vg h1
  rw [ed] at q;unfold CP at q;cases ea:asg z ρ with
  | none=>rw [ea] at q;exact q.elim
  | some ρ1=>
   rw [ea] at q;dsimp only at q;refine hg z x ρ σ _ fps ρ1 _ r (oz.weak λ a h=>h.zf) ea λ σ1 fps1 s1 _ _ r1=>⟨ρ1,fps1,r1,?_⟩
   have k1:KS M H' fps H' fps1:=⟨λ _ _ h _=>h,λ _ h=>h,λ j a ha=>.inl ⟨j,s1 j a ha⟩⟩
   have p1:=hP r k1 p;cases eb:body ρ1 with
   | no=>rw [eb] at q;exact q
   | exc c=>rw [eb] at q;exact RsOk.from (r:=.exc c) k1 q
   | rt x d ρ2=>rw [eb] at q;exact RsOk.from (r:=.rt x d ρ2) k1 q
   | bk ρ2=>rw [eb] at q;exact λ σ' H' fps' k=>q σ' H' fps' (k1.trans k)
   | nx ρ2=>rw [eb] at q;exact λ σ' H' fps' k r'=>⟨rfl,ρ2,fps',r',hP r1 k p1,RsOk.from (k1.trans k) q⟩
   | ct ρ2=>rw [eb] at q;exact λ σ' H' fps' k r'=>⟨rfl,ρ2,fps',r',hP r1 k p1,RsOk.from (k1.trans k) q⟩
 ·left
  have ed:els.drop i=[]:=Vf (by omega);rw [ed] at q;exact ⟨hst p (by omega),q σ H fps KS.refl r⟩
def Eh (lo:Int) (n:Nat):List PV:=(AY n).map λ (i:Nat)=>PV.int (lo + (i:Int))
def Iq (lo:Int) (n:Nat):(Eh lo n).length=n:=by simp [Eh]
def BB:List (PV×Nat)->Option (Int×Int)
 | [(.int j,_)]=>if -(2 ^ 62)<=j/\j < 2 ^ 62 then some (0,j) else none
 | _=>none
def CO:List (PV×Nat)->Option (Int×Int)
 | [(.int i,_),(.int j,_)]=>if -(2 ^ 62)<=i/\i < 2 ^ 62/\-(2 ^ 62)<=j/\j < 2 ^ 62 then some (i,j) else none
 | _=>none
def CT (en:List (PV×Nat)->Option (Int×Int)) (fa:Fa) (asg:PV->Ae->Option Ae) (body:Fs):Fs:=λ ρ=>match fa ρ with
 | .ok (xs,ρ1)=>(match en xs with
  | some (i,j)=>CP asg body (Eh i (j - i).toNat) ρ1
  | none=>.no)
 | .exc c=>.exc c
 | .no=>.no
def Qs {g:TG}{asg:PV->Ae->Option Ae}{body:Fs}{D:Ends}{lo:Int}{n:Nat} (hg:Df M [] is g asg) (rep:Rep M ρ σ H fps) (q:RsOk M D H fps (CP asg body (Eh lo n) ρ)):
  ∃ W:Nat->Nat->St->Hp->Prop,(∃ m,W 0 m σ H)/\∀ i m σ H,W i m σ H ->
   ((Fd lo n).stop i H/\D.nx σ H)\/((Fd lo n).go i H/\∃ N:St->Hp->Prop,(∀ σ' H',N σ' H'->∃ m',m' < m/\W (i + 1) m' σ' H')/\∀ x H',(Fd lo n).yld i H x H'->g x σ H' λ σ2 H2=>(tS M body) { D with nx:=N,ct:=N,bk:=D.nx } σ2 H2):=by
 refine JE (Pq:=λ _ _=>True) hg (λ _ _ _=>trivial) (λ {H fps i} _ h=>?_) (λ {H fps i} _ h=>?_) (λ {ρ σ H fps i x H'} _ _ h y=>?_) rep trivial q
 ·rw [Iq] at h;exact h
 ·rw [Iq] at h;exact h
 ·rw [Iq] at h;obtain ⟨e1,e2⟩:=y;subst e1;exact ⟨λ _ _ h=>h,.int (lo + i),by simp [Eh,h],by rw [e2,Own];exact ⟨rfl,rfl⟩⟩
theorem TX {g:TG}{asg:PV->Ae->Option Ae}{body:Fs}{fa:Fa}{D:Ends} (hg:Df M [] is g asg) (hq:tS M (CT BB fa asg body) D σ H):Ex (Mx (tL M fa vs)) g (tS M body) D σ H:=by
 obtain ⟨ρ,fps,rep,q⟩:=hq;refine ⟨ρ,fps,rep,?_⟩;unfold CT at q;cases ef:fa ρ with
 | no=>rw [ef] at q;exact q
 | exc c=>rw [ef] at q;exact λ H' fps' k=>q _ H' fps' k.ks
 | ok p=>
  obtain ⟨xs,ρ1⟩:=p;rw [ef] at q;intro ws H1 fps1 f1 k1 g1 rep1 o1 t1;dsimp only at q;cases ee:BB xs with
  | none=>rw [ee] at q;exact q.elim
  | some ij=>
   obtain ⟨i,j⟩:=ij;rw [ee] at q;unfold BB at ee;split at ee
   ·rename_i j' d;split at ee
    ·rename_i hb;cases ee;obtain ⟨v,r,f1,f2,rfl,_,_,h1,h2⟩:=o1;obtain ⟨rfl,_⟩:=h2;rw [Own] at h1;obtain ⟨rfl,_⟩:=h1;refine ⟨j,rfl,hb.1,hb.2,?_⟩;have e:(j - 0).toNat=j.toNat:=by omega
     dsimp only at q;rw [e] at q;exact Qs hg rep1 (RsOk.from k1.ks q)
    ·cases ee
   ·cases ee
theorem TY {g:TG}{asg:PV->Ae->Option Ae}{body:Fs}{fa:Fa}{D:Ends} (hg:Df M [] is g asg) (hq:tS M (CT CO fa asg body) D σ H):Ex (My (tL M fa vs)) g (tS M body) D σ H:=by
 obtain ⟨ρ,fps,rep,q⟩:=hq;refine ⟨ρ,fps,rep,?_⟩;unfold CT at q;cases ef:fa ρ with
 | no=>rw [ef] at q;exact q
 | exc c=>rw [ef] at q;exact λ H' fps' k=>q _ H' fps' k.ks
 | ok p=>
  obtain ⟨xs,ρ1⟩:=p;rw [ef] at q;intro ws H1 fps1 f1 k1 g1 rep1 o1 t1;dsimp only at q;cases ee:CO xs with
  | none=>rw [ee] at q;exact q.elim
  | some ij=>
   obtain ⟨i,j⟩:=ij;rw [ee] at q;unfold CO at ee;split at ee
   ·rename_i i' d j' d';split at ee
    ·rename_i hb;cases ee;obtain ⟨v,r,f1,f2,rfl,_,_,h1,h2⟩:=o1;obtain ⟨v2,r2,f3,f4,rfl,_,_,h3,h4⟩:=h2;obtain ⟨rfl,_⟩:=h4;rw [Own] at h1 h3;obtain ⟨rfl,_⟩:=h1;obtain ⟨rfl,_⟩:=h3;exact ⟨i,j,rfl,hb,Qs hg rep1 (RsOk.from k1.ks q)⟩
    ·cases ee
   ·cases ee
def Ej (z:Str):List PV:=z.cps.toList.map λ c=>.str ⟨#[c]⟩
def DZ (f:Fx) (vs:List Nat) (asg:PV->Ae->Option Ae) (body:Fs):Fs:=λ ρ=>match f ρ with
 | .ok (.str z,d,ρ1)=>if M8 z=true then CP asg body (Ej z) (Bb d vs ρ1) else .no
 | .ok (.lst xs,d,ρ1)=>CP asg body xs (Bb d vs ρ1)
 | .ok (.tup xs,d,ρ1)=>CP asg body xs (Bb d vs ρ1)
 | .ok _=>.no
 | .exc c=>.exc c
 | .no=>.no
theorem OwnL.get {K:Frag}{Z:Addr->Prop}:∀ {xs:List PV}{ws:List V}{i:Nat}{w:V},OwnL K H Z xs 0 ws []->ws[i]?=some w->∃ x,xs[i]?=some x/\Own K H Z x 0 w []
 | [],ws,i,w,h,e=>by
  rw [OwnL] at h;obtain ⟨rfl,_⟩:=h;simp at e
 | x::xs,ws,i,w,h,e=>by
  rw [OwnL] at h;obtain ⟨v,s,f1,f2,rfl,ef,_,o1,o2⟩:=h;obtain ⟨rfl,rfl⟩:f1=[]/\f2=[]:=by simpa using ef.symm
  cases i with
  | zero=>simp at e;subst e;exact ⟨x,by simp,o1⟩
  | succ i=>obtain ⟨y,e1,e2⟩:=o2.get (i:=i) (w:=w) (by simpa using e);exact ⟨y,by simpa using e1,e2⟩
def Rep.seen {x:PV}{d:Nat}{v:V}{fp:List Addr} (rep:Rep M ρ σ H fps) (k:KD M H fps H' fps') (g:Agr M ρ ρ') (r':Rep M ρ' σ H' fps') (o:Own M.K H' (Zt M vs fps' fp) x d v fp) (t:Temp M vs H H' fps' fp)
  (hal:∀ i,M.al i=[]) (hv:∀ i∈vs,M.Ms i=false):∃ fps2,KS M H fps H' fps2/\Rep M (Bb d vs ρ') σ H' fps2/\Own M.K H' (Zf M fps2) x 0 v []:=by
 unfold Bb;by_cases hd:d=om
 ·rw [if_pos hd];rw [hd] at o;exact ⟨fps',k.ks,r',Own.freeze (λ _ z=>z) x om v fp (λ a ha=>t.ndj a ha) (Own.full x v fp o)⟩
 ·rw [if_neg hd];exact ⟨Dp vs fps',k.ks.cool,r'.cool hal hv,Own.freeze (λ a h=>.inl (GH h)) x d v fp (λ a ha z=>t.ndj a ha (GH z).zf) o⟩
theorem TZ {g:TG}{asg:PV->Ae->Option Ae}{body:Fs}{f:Fx}{D:Ends} (hal:∀ i,M.al i=[]) (hv:∀ i∈vs,M.Ms i=false) (hg:Df M [] is g asg) (hq:tS M (DZ f vs asg body) D σ H):Ex (E7 M.K (tE M f vs)) g (tS M body) D σ H:=by
 obtain ⟨ρ,fps,rep,q⟩:=hq;refine ⟨ρ,fps,rep,?_⟩;unfold DZ at q;cases ef:f ρ with
 | no=>rw [ef] at q;exact q
 | exc c=>rw [ef] at q;exact λ H' fps' k=>q _ H' fps' k.ks
 | ok p=>
  obtain ⟨x,d,ρ1⟩:=p;rw [ef] at q;intro v H1 fps1 f1 k1 g1 rep1 o1 t1;obtain ⟨fps2,k2,r2,o2⟩:=Rep.seen rep k1 g1 rep1 o1 t1 hal hv;cases x with
  | lst xs=>
   have o2':=o2;rw [Own] at o2';obtain ⟨a,ws,rfl,⟨_,hr,_,ol⟩ | ⟨h,_⟩⟩:=o2'
   ·have sq:AN M.K H1 a ws:=.inl (.inl hr.1);refine .inl ⟨a,rfl,.inl ⟨⟨ws,sq⟩,?_⟩⟩;have one:∀ {H:Hp}{fps:AA},Own M.K H (Zf M fps) (.lst xs) 0 (.ref a) []->∃ ws,AN M.K H a ws/\OwnL M.K H (Zf M fps) xs 0 ws []:=λ o=>by
     rw [Own] at o;obtain ⟨b,ws,e,⟨_,hr,_,ol⟩ | ⟨h,_⟩⟩:=o
     ·cases e;exact ⟨ws,.inl (.inl hr.1),ol⟩
     ·exact absurd rfl h
    refine JE (Pq:=λ H fps=>Own M.K H (Zf M fps) (.lst xs) 0 (.ref a) []) (els:=xs) hg (λ r k o=>k.stay0 r o) (λ {H fps i} o h=>?_) (λ {H fps i} o h=>?_) (λ {ρ σ H fps i x H'} _ o h y=>?_) r2 o2 (RsOk.from k2 q)
    ·obtain ⟨ws,s,ol⟩:=one o;exact ⟨ws,ws[i]'(by rw [ol.length];exact h),s,by simp⟩
    ·obtain ⟨ws,s,ol⟩:=one o;exact ⟨ws,s,by rw [ol.length];exact h⟩
    ·obtain ⟨ws,s,ol⟩:=one o;obtain ⟨e1,e2⟩:=y;subst e1;exact ⟨λ _ _ h=>h,ol.get (e2 ws s)⟩
   ·exact absurd rfl h
  | tup xs=>
   have o2':=o2;rw [Own] at o2';obtain ⟨a,ws,rfl,hr,ol⟩:=o2';refine .inl ⟨a,rfl,.inr ⟨⟨ws,.inl (.inl hr)⟩,?_⟩⟩;have one:∀ {H:Hp}{fps:AA},Own M.K H (Zf M fps) (.tup xs) 0 (.ref a) []->∃ ws,SqT M.K H a ws/\OwnL M.K H (Zf M fps) xs 0 ws []:=λ o=>by
    rw [Own] at o;obtain ⟨b,ws,e,hr,ol⟩:=o;cases e;exact ⟨ws,.inl (.inl hr),ol⟩
   refine JE (Pq:=λ H fps=>Own M.K H (Zf M fps) (.tup xs) 0 (.ref a) []) (els:=xs) hg (λ r k o=>k.stay0 r o) (λ {H fps i} o h=>?_) (λ {H fps i} o h=>?_) (λ {ρ σ H fps i x H'} _ o h y=>?_) r2 o2 (RsOk.from k2 q)
   ·obtain ⟨ws,s,ol⟩:=one o;exact ⟨ws,ws[i]'(by rw [ol.length];exact h),s,by simp⟩
   ·obtain ⟨ws,s,ol⟩:=one o;exact ⟨ws,s,by rw [ol.length];exact h⟩
   ·obtain ⟨ws,s,ol⟩:=one o;obtain ⟨e1,e2⟩:=y;subst e1;exact ⟨λ _ _ h=>h,ol.get (e2 ws s)⟩
  | str z=>
   have o2':=o2;rw [Own] at o2';obtain ⟨rfl,_⟩:=o2';dsimp only at q;split at q
   ·rename_i ha;refine .inr ⟨z,rfl,ha,?_⟩;have hl:(Ej z).length=z.cps.size:=by unfold Ej;rw [AF,Ia]
    refine JE (Pq:=λ _ _=>True) (els:=Ej z) hg (λ _ _ _=>trivial) (λ {H fps i} _ h=>?_) (λ {H fps i} _ h=>?_) (λ {ρ σ H fps i x H'} _ _ h y=>?_) r2 trivial (RsOk.from k2 q)
    ·show i < z.cps.size;omega
    ·show z.cps.size<=i;omega
    ·obtain ⟨rfl,c,hc,rfl⟩:=y;refine ⟨λ _ _ h=>h,.str ⟨#[c]⟩,?_,by rw [Own];exact ⟨rfl,rfl⟩⟩;unfold Ej;rw [DA,Vd,hc];rfl
   ·exact q.elim
  | _=>exact q.elim
end
section
variable {M:Fm}{ρ ρ':Ae}{σ σ':St}{H H' H'':Hp}{fps fps' fps'':AA}{vs vs':List Nat}
def Fm.comp (M:Fm) (D:Addr) (n:Nat) (vI:List Nat):Fm:={ M.plus [D] with W:=λ _ _ _=>False,al:=λ j=>if j < n then M.al j else vI }
def Rep.minus {fp:List Addr} (r:Rep (M.plus fp) ρ σ H fps):Rep M ρ σ H fps where
 own:=λ i x d e=>let ⟨v,h1,h2⟩:=r.own i x d e;⟨v,h1,h2.weak λ a h=>h.elim (λ h=>.inl (.inl h)) .inr⟩
 non:=r.non
 dj:=r.dj
 zo:=λ i a ha z=>r.zo i a ha (.inl z)
 fr:=r.fr
 zd:=λ a z=>r.zd a (.inl z)
 len:=r.len
 msf:=r.msf
 h0:=r.h0
 iov:=r.iov
def Rep.far (r:Rep M ρ σ H fps) {j:Nat} (h:ρ.length<=j):fps j=[]:=r.non j λ p e=>by
 rw [jh5.mpr h] at e;cases e
def Rep.ext {D:Addr}{k:Nat}{vI:List Nat} (r:Rep (M.plus [D]) ρ σ H fps):Rep (M.comp D ρ.length vI) (ρ++AH k none) (σ++AH k none) H fps where
 own:=λ i x d e=>by
  by_cases hi:i < ρ.length
  ·rw [Di hi] at e;obtain ⟨v,h1,h2⟩:=r.own i x d e;refine ⟨v,by rw [Di (by rw [<- r.len];exact hi)];exact h1,h2.weak λ a h=>?_⟩;rcases h with h | ⟨j,nj,h⟩
   ·exact .inl h
   ·refine .inr ⟨j,?_,h⟩
    have:(M.comp D ρ.length vI).al i=M.al i:=if_pos hi
    rw [this] at nj;exact nj
  ·rw [Hf (by omega),He] at e;split at e <;> cases e
 non:=λ i h=>by
  by_cases hi:i < ρ.length
  ·exact r.non i λ p e=>h p (by rw [Di hi];exact e)
  ·exact r.far (by omega)
 dj:=r.dj
 zo:=r.zo
 fr:=r.fr
 zd:=r.zd
 len:=by simp [r.len]
 msf:=λ i x d hm e=>by
  by_cases hi:i < ρ.length
  ·rw [Di hi] at e;exact r.msf i x d hm e
  ·rw [Hf (by omega),He] at e;split at e <;> cases e
 h0:=r.h0
 iov:=⟨λ v hv=>by
  have h:=r.iov.1 v hv;refine ⟨?_,h.2⟩
  have:0 < σ.length:=(jb0.mp h.1).1
  rw [Di this];exact h.1,λ p hp=>by
  have h:=r.iov.2 p hp;rw [Di (jb0.mp h).1];exact h⟩
def Dj (n:Nat) (fps:AA):AA:=λ j=>if j < n then fps j else []
def Fe {n i:Nat}{a:Addr} (h:a∈Dj n fps i):a∈fps i/\i < n:=by
 unfold Dj at h;split at h
 ·rename_i hi;exact ⟨h,hi⟩
 ·cases h
def Rep.take {D:Addr}{n:Nat}{vI:List Nat} (r:Rep (M.comp D n vI) ρ σ H fps) (hσ:∀ i,i < n->σ[i]?=σ'[i]?) (hl:σ'.length=n) (hn:n<=ρ.length) (hio:(M.io≠none->0 < n)/\∀ p∈M.pn,p.1 < n):Rep (M.plus [D]) (ρ.take n) σ' H (Dj n fps) where
 own:=λ i x d e=>by
  have hi:i < n:=by
   have:=(jb0.mp e).1
   rw [Fc] at this;omega
  rw [K8 hi] at e;obtain ⟨v,h1,h2⟩:=r.own i x d e;refine ⟨v,by rw [<- hσ i hi];exact h1,?_⟩
  have:Dj n fps i=fps i:=if_pos hi
  rw [this];refine h2.weak λ a h=>?_;rcases h with h | ⟨j,nj,h⟩
  ·exact .inl h
  ·refine .inr ⟨j,?_,(Fe h).1⟩
   have:(M.comp D n vI).al i=M.al i:=if_pos hi
   rw [this];exact nj
 non:=λ i h=>by
  unfold Dj;split
  ·rename_i hi;exact r.non i λ p e=>h p (by rw [K8 hi];exact e)
  ·rfl
 dj:=λ i j hij a ha hb=>r.dj i j hij a (Fe ha).1 (Fe hb).1
 zo:=λ i a ha=>r.zo i a (Fe ha).1
 fr:=λ i hi a ha=>r.fr i hi a (Fe ha).1
 zd:=r.zd
 len:=by rw [Fc,hl];omega
 msf:=λ i x d hm e=>by
  have hi:i < n:=by
   have:=(jb0.mp e).1
   rw [Fc] at this;omega
  rw [K8 hi] at e;exact r.msf i x d hm e
 h0:=r.h0
 iov:=⟨λ v hv=>by
  have h:=r.iov.1 v hv;refine ⟨?_,h.2⟩;have h0:0 < n:=hio.1 (by
   have hv':M.io=some v:=hv;rw [hv'];simp)
  rw [<- hσ 0 h0];exact h.1,λ p hp=>by rw [<- hσ p.1 (hio.2 p hp)];exact r.iov.2 p hp⟩
def Rep.touch {D:Addr}{us ws:List V} (r:Rep (M.plus [D]) ρ σ H fps) (hD:H D=some (.lst ws)):Rep (M.plus [D]) ρ σ (Am H D (.lst us)) fps:=by
 have zD:(M.plus [D]).Zo D:=.inr (by simp);have dm:∀ b,H b≠none->(Am H D (.lst us)) b≠none:=λ b h=>by
  by_cases eb:b=D
  ·rw [eb,Bq];simp
  ·rw [A3 eb];exact h
 exact ⟨λ i x d e=>let ⟨v,h1,h2⟩:=r.own i x d e;⟨v,h1,h2.at (.inl zD) ⟨.l ws,hD⟩ (λ z=>r.zo i D z zD) λ _ _ n=>n⟩,r.non,r.dj,r.zo,r.fr,λ a z=>dm a (r.zd a z),r.len,r.msf,λ a z=>dm a (r.h0 a z),r.iov⟩
theorem Tmps.snoc {K:Frag}{Z:Addr->Prop}{y:PV}{e:Nat}{w:V}{fe:List Addr} (hy:Own K H (λ a=>Z a\/a∈fe) y e w fe):∀ {xs:List (PV×Nat)}{ws:List V}{fp:List Addr},Tmps K H Z xs ws fp->(∀ a∈fp,a∉fe)->Tmps K H Z (xs++[(y,e)]) (ws++[w]) (fp++fe)
 | [],ws,fp,h,_=>by
  obtain ⟨rfl,rfl⟩:=h;exact ⟨w,[],fe,[],rfl,by simp,λ _ _ z=>(nomatch z),hy,rfl,rfl⟩
 | (x,d)::xs,ws,fp,h,hd=>by
  obtain ⟨v,s,f1,f2,rfl,rfl,dj,h1,h2⟩:=h;refine ⟨v,s++[w],f1,f2++fe,rfl,by rw [PJ],λ a ha hb=>?_,h1,h2.snoc hy λ a ha=>hd a (AL _ ha)⟩;rcases jc2.mp hb with z | z
  ·exact dj a ha z
  ·exact hd a (AZ _ ha) z
theorem Tmps.at {K:Frag}{Z:Addr->Prop}{a:Addr}{o:HO} (hZ:Z a) (hl:∃ o:MO,H a=some o.ho):∀ {xs:List (PV×Nat)}{ws:List V}{fp:List Addr},Tmps K H Z xs ws fp->a∉fp->Tmps K (Am H a o) Z xs ws fp
 | [],_,_,h,_=>h
 | (x,d)::xs,ws,fp,h,hf=>by
  obtain ⟨v,s,f1,f2,e1,rfl,dj,h1,h2⟩:=h;exact ⟨v,s,f1,f2,e1,rfl,dj,h1.at (.inl hZ) hl (λ z=>hf (AZ _ z)) λ _ _ n=>n,h2.at hZ hl λ z=>hf (AL _ z)⟩
theorem Tmps.lsts {K:Frag}{Z:Addr->Prop}:∀ {xs:List (PV×Nat)}{ws:List V}{fp:List Addr},Tmps K H Z xs ws fp->∀ a∈fp,∃ o:MO,H a=some o.ho
 | [],_,_,h,a,ha=>by rw [h.2] at ha;cases ha
 | (x,d)::xs,ws,fp,h,a,ha=>by
  obtain ⟨v,s,f1,f2,e1,rfl,dj,h1,h2⟩:=h;rcases jc2.mp ha with z | z
  ·exact Own.lsts x d v f1 h1 a z
  ·exact h2.lsts a z
def Rz.bindN {α β:Type} (r:Rz α) (f:α->Rz β):Rz β:=match r with
 | .ok a=>f a
 | _=>.no
def BY (k:Nat) (asg:PV->Ae->Option Ae) (test:Fb) (elt:Fx):List PV->Ae->List (PV×Nat)->Rz (List (PV×Nat)×Ae)
 | [],ρ,acc=>.ok (acc,ρ)
 | x::xs,ρ,acc=>match asg x (ρ++AH k none) with
  | none=>.no
  | some ρ1=>(test ρ1).bindN λ (b,ρ2)=>if b=true then (elt ρ2).bindN λ (y,e,ρ3)=>(if acc.length < Ap then BY k asg test elt xs (ρ3.take ρ.length) (acc++[(y,e)]) else .no) else BY k asg test elt xs (ρ2.take ρ.length) acc
def KD.seen {D:Addr}{x:PV}{v:V} (r:Rep M ρ σ H fps) (k:KD M H fps H' fps') (hD:H D=none) (hv:∀ i∈vs,M.Ms i=false) (o:Own M.K H (Zv M vs fps) x 0 v []):Own M.K H' (Zv (M.plus [D]) vs fps') x 0 v []:=by
 refine Own.move k.keep ?_ ?_ x 0 v [] (λ _ z=>nomatch z) o
 ·rintro a ⟨i,hi,ha⟩;exact ⟨.inr ⟨i,λ z=>(by rw [hv i z] at hi;cases hi),ha⟩,r.lsts ha⟩
 ·intro a hd nz z;rcases z with (z | z) | ⟨i,ni,hx⟩
  ·exact nz (.inl z)
  ·rw [jb2.mp z] at hd;exact hd hD
  ·rcases k.sub i a hx with z | z
   ·exact nz (.inr ⟨i,ni,z⟩)
   ·exact hd z
def Jz {g:TG}{is vI vE vo:List Nat}{asg:PV->Ae->Option Ae}{test:Fb}{elt:Fx}{k:Nat}{J:It}{els:List PV}{Q:VK}{n:Nat}{P:Fm->Prop}
  (hP:∀ D,P (M.comp D n vI)) (hn:n=ρ.length) (hal:∀ i,∀ j∈M.al i,M.Ms j=false) (hvI:∀ i∈vI,M.Ms i=false) (hvE:∀ i∈vE,M.Ms i=false) (his:∀ i∈is,n<=i) (hg:∀ D,Df (M.comp D n vI) vI is g asg) (hvo:∀ i,i∈vE->i < n->i∈vo) (hvo2:∀ i∈vo,M.Ms i=false)
  (rep:Rep M ρ σ H fps)
  (hgo:∀ {D H' fps' i},H D=none->KD M H fps H' fps'->i < els.length->J.go i H') (hst:∀ {D H' fps' i},H D=none->KD M H fps H' fps'->els.length<=i->J.stop i H')
  (hy:∀ {D H' fps' i x H''},H D=none->KD M H fps H' fps'->i < els.length->J.yld i H' x H''->(∀ a o,H' a=some o->H'' a=some o)/\∃ z,els[i]?=some z/\Own M.K H'' (Zv (M.plus [D]) vI fps') z 0 x [])
  (q:match BY k asg test elt els ρ [] with
   | .ok (acc,ρ')=>∀ D ws H' fps' fpl,KD M H fps H' fps'->Agr M ρ ρ'->Rep (M.plus [D]) ρ' σ H' fps'->H D=none->H' D=some (.lst ws)->Tmps M.K H' (Zv (M.plus [D]) vo fps') acc ws fpl->(∀ a∈fpl,H a=none/\¬ Zf (M.plus [D]) fps' a)->Q (.ref D) H'
   | _=>False):
  ∀ D,H D=none->∃ W:Nat->Nat->List V->Hp->Prop,(∃ m,W 0 m [] (Am H D (.lst [])))/\∀ i m ys H1,W i m ys H1->H1 D=some (.lst ys) /\
   ((J.stop i H1/\Q (.ref D) H1)\/(J.go i H1/\∀ x H',J.yld i H1 x H'->g x (σ++AH k none) H' λ σ2 H2=>∃ M',P M'/\tT M' test σ2 H2 λ b H3=>if b=true then ∃ M',P M'/\tE M' elt vE σ2 H3 λ y H4=>H4 D=some (.lst ys)/\ys.length < Ap/\∃ m',m' < m/\W (i + 1) m' (ys++[y]) (Am H4 D (.lst (ys++[y]))) else ∃ m',m' < m/\W (i + 1) m' ys H3)):=by
 intro D hD;subst hn;let W:Nat->Nat->List V->Hp->Prop:=λ i m ys H1=>m=els.length - i/\∃ ρ1 fps1 acc fpl,Rep (M.plus [D]) ρ1 σ H1 fps1/\KD M H fps H1 fps1/\Agr M ρ ρ1/\Tmps M.K H1 (Zv (M.plus [D]) vo fps1) acc ys fpl/\(∀ a∈fpl,H a=none/\¬ Zf (M.plus [D]) fps1 a)/\H1 D=some (.lst ys)/\BY k asg test elt (els.drop i) ρ1 acc=BY k asg test elt els ρ [];have k0:KD M H fps (Am H D (.lst [])) fps:=KD.grow λ a o h=>by rw [A3 (λ e=>by rw [e,hD] at h;cases h)];exact h
 have r0:Rep (M.plus [D]) ρ σ (Am H D (.lst [])) fps:=by
  refine rep.wide hal k0 Agr.refl (rep.grow λ a o h=>by rw [A3 (λ e=>by rw [e,hD] at h;cases h)];exact h) λ a ha=>?_;rw [jb2.mp ha];exact ⟨hD,by rw [Bq];simp,rep.nz hD⟩
 refine ⟨W,⟨els.length,by simp,ρ,fps,[],[],r0,k0,Agr.refl,⟨rfl,rfl⟩,λ _ z=>(nomatch z),Bq,by simp⟩,?_⟩;rintro i m ys H1 ⟨rfl,ρ1,fps1,acc,fpl,r1,k1,g1,tm,hf,h1D,ec⟩;refine ⟨h1D,?_⟩;have hlen:ρ1.length=ρ.length:=g1.2;by_cases hi:i < els.length
 ·right
  refine ⟨hgo hD k1 hi,λ x H' hyl=>?_⟩;obtain ⟨kx,z,ez,oz⟩:=hy hD k1 hi hyl;have tm:=KD.stays (M:=M.plus [D]) (KD.grow kx) r1 hvo2 tm λ a ha=>(hf a ha).2;have r1:=r1.grow kx;have k1:=k1.trans (KD.grow (M:=M) (fps:=fps1) kx);have h1D:=kx D _ h1D;have ed:els.drop i=z::els.drop (i + 1):=by
   obtain ⟨h1,h2⟩:=jb0.mp ez;rw [<- h2];exact Vg h1
  rw [ed] at ec;have good:∃ a r,BY k asg test elt els ρ []=.ok (a,r):=by
   cases e:BY k asg test elt els ρ [] with
   | ok p=>exact ⟨p.1,p.2,rfl⟩
   | exc c=>rw [e] at q;exact q.elim
   | no=>rw [e] at q;exact q.elim
  obtain ⟨accF,ρF,eF⟩:=good;rw [eF] at ec;unfold BY at ec;cases ea:asg z (ρ1++AH k none) with
  | none=>rw [ea] at ec;cases ec
  | some ρ2=>
   rw [ea] at ec;dsimp only at ec;have rx:Rep (M.comp D ρ.length vI) (ρ1++AH k none) (σ++AH k none) H' fps1:=by rw [<- hlen];exact r1.ext
   refine hg D z x _ _ H' fps1 ρ2 _ rx oz ea λ σ2 fps2 s2 a2 l2 r2=>⟨_,hP D,ρ2,fps2,r2,?_⟩
   have hl2:ρ2.length=ρ.length + k:=by rw [l2,BR,Ib,hlen]
   have same2:∀ j,j < ρ.length->ρ2[j]?=ρ1[j]?/\fps2 j=fps1 j/\σ2[j]?=σ[j]?:=λ j hj=>by
    obtain ⟨z1,z2,z3⟩:=a2 j λ z=>absurd (his j z) (by omega);rw [Di (by omega)] at z1;rw [Di (by rw [<- rep.len];omega)] at z3;exact ⟨z1,z2,z3⟩
   have kd2:KD (M.comp D ρ.length vI) H' fps1 H' fps2->True:=λ _=>trivial;cases et:test ρ2 with
   | exc c=>rw [et] at ec;cases ec
   | no=>rw [et] at ec;cases ec
   | ok p=>
    obtain ⟨b,ρ3⟩:=p;rw [et] at ec;intro H3 fps3 k3 g3 r3;dsimp only [Rz.bindN] at ec;have far:∀ {ρ4:Ae}{H4:Hp}{fps4:AA},KD (M.comp D ρ.length vI) H' fps2 H4 fps4->Agr (M.comp D ρ.length vI) ρ2 ρ4->Rep (M.comp D ρ.length vI) ρ4 σ2 H4 fps4 ->
      KD M H fps H4 (Dj ρ.length fps4)/\KD M H' fps1 H4 (Dj ρ.length fps4)/\Agr M ρ (ρ4.take ρ.length)/\Rep (M.plus [D]) (ρ4.take ρ.length) σ H4 (Dj ρ.length fps4)/\H4 D=some (.lst ys):=λ {ρ4 H4 fps4} k4 g4 r4=>by
     have kk:KD M H' fps1 H4 (Dj ρ.length fps4):=by
      refine ⟨λ a o ha hn=>k4.keep a o ha λ ⟨j,hj,hx⟩=>hn ⟨j,hj,s2 j a hx⟩,k4.dom,λ j a ha=>?_,λ j hj=>?_⟩
      ·rcases k4.sub j a (Fe ha).1 with z | z
       ·exact .inl (s2 j a z)
       ·exact .inr z
      ·unfold Dj;by_cases hjl:j < ρ.length
       ·rw [if_pos hjl,k4.same j hj];exact (same2 j hjl).2.1
       ·rw [if_neg hjl];exact (r1.far (by omega)).symm
     refine ⟨k1.trans kk,kk,?_,r4.take (σ':=σ) (λ j hj=>(same2 j hj).2.2) rep.len.symm (by rw [g4.2,hl2];omega) ⟨λ hio=>?_,λ p hp=>by rw [rep.len];exact (jb0.mp (rep.iov.2 p hp)).1⟩,?_⟩
     ·refine ⟨λ j hj=>?_,by rw [Fc,g4.2,hl2];omega⟩;by_cases hjl:j < ρ.length
      ·rw [K8 hjl,g4.1 j hj,(same2 j hjl).1];exact g1.1 j hj
      ·rw [jh5.mpr (by rw [Fc];omega),jh5.mpr (by omega)]
     ·cases e:M.io with
      | none=>exact absurd e hio
      | some v=>
       have:=(jb0.mp (rep.iov.1 v e).1).1
       rw [rep.len];exact this
     ·exact k4.keep D _ h1D λ ⟨j,_,hx⟩=>r2.zo j D hx (.inr (by simp))
    have notZ:∀ {H4:Hp}{fps4:AA},KD M H' fps1 H4 fps4->∀ {a},a∈fpl->¬ Zf (M.plus [D]) fps4 a:=λ {H4 fps4} k4 a ha z=>by
     rcases z with z | ⟨j,z⟩
     ·exact (hf a ha).2 (.inl z)
     ·rcases k4.sub j a z with z | z
      ·exact (hf a ha).2 (.inr ⟨j,z⟩)
      ·obtain ⟨xs,e⟩:=tm.lsts a ha;rw [z] at e;cases e
    cases b with
    | false=>
     rw [if_neg C8] at ec ⊢;obtain ⟨f1,f2,f3,f4,f5⟩:=far k3 g3 r3;refine ⟨els.length - (i + 1),by omega,rfl,ρ3.take ρ.length,Dj ρ.length fps3,acc,fpl,f4,f1,f3,?_,λ a ha=>⟨(hf a ha).1,λ z=>?_⟩,f5,by rw [eF,<- hlen];exact ec⟩
     ·exact KD.stays (M:=M.plus [D]) (σ:=σ) (ρ:=ρ1) ⟨f2.keep,f2.dom,f2.sub,f2.same⟩ r1 hvo2 tm λ a ha=>(hf a ha).2
     ·exact notZ f2 ha z
    | true=>
     rw [if_pos rfl] at ec ⊢;refine ⟨_,hP D,ρ3,fps3,r3,?_⟩;cases ee:elt ρ3 with
     | exc c=>rw [ee] at ec;cases ec
     | no=>rw [ee] at ec;cases ec
     | ok p=>
      obtain ⟨y,e,ρ4⟩:=p;rw [ee] at ec;intro w H4 fps4 fe k4 g4 r4 o4 t4;dsimp only at ec;by_cases hz:acc.length < Ap
      ·rw [if_pos hz] at ec;obtain ⟨f1,f2,f3,f4,f5⟩:=far (k3.trans k4) (g3.trans g4) r4;have tm4:Tmps M.K H4 (Zv (M.plus [D]) vo (Dj ρ.length fps4)) acc ys fpl:=KD.stays (M:=M.plus [D]) (σ:=σ) (ρ:=ρ1) ⟨f2.keep,f2.dom,f2.sub,f2.same⟩ r1 hvo2 tm λ a ha=>(hf a ha).2;have zD:Zv (M.plus [D]) vo (Dj ρ.length fps4) D:=.inl (.inr (by simp));have hDe:D∉fe:=λ z=>t4.ndj D z (.inl (.inr (by simp)));have hDl:D∉fpl:=λ z=>(hf D z).2 (.inl (.inr (by simp)));have oy:Own M.K H4 (λ a=>Zv (M.plus [D]) vo (Dj ρ.length fps4) a\/a∈fe) y e w fe:=o4.weak λ a h=>h.elim (λ h=>.inl (h.elim .inl λ ⟨j,nj,hx⟩=>.inr ⟨j,λ z=>nj (hvo j z (Fe hx).2),(Fe hx).1⟩)) .inr;have back3:∀ a,H3 a=none->H' a=none:=λ a e=>by
        cases e':H' a with
        | none=>rfl
        | some o=>exact absurd e (k3.dom a (by rw [e'];simp))
       have back1:∀ a,H' a=none->H a=none:=λ a e=>by
        cases e':H a with
        | none=>rfl
        | some o=>exact absurd e (k1.dom a (by rw [e'];simp))
       have kt:KD M H fps (Am H4 D (.lst (ys++[w]))) (Dj ρ.length fps4):=⟨λ a o ha hn=>by rw [A3 (λ e=>by rw [e,hD] at ha;cases ha)];exact f1.keep a o ha hn,λ a ha=>by
        by_cases eb:a=D
        ·rw [eb,Bq];simp
        ·rw [A3 eb];exact f1.dom a ha,f1.sub,f1.same⟩
       refine ⟨f5,by rw [tm.length];exact hz,els.length - (i + 1),by omega,rfl,ρ4.take ρ.length,Dj ρ.length fps4,acc++[(y,e)],fpl++fe,f4.touch f5,kt,f3,?_,λ a ha=>?_,Bq,by rw [eF,<- hlen];exact ec⟩
       ·exact (tm4.at zD ⟨.l ys,f5⟩ hDl).snoc (oy.at (.inl zD) ⟨.l ys,f5⟩ hDe λ _ _ n=>n) λ a ha hb=>by
         obtain ⟨xs,e⟩:=tm.lsts a ha;rw [back3 a (t4.new a hb)] at e;cases e
       ·rcases jc2.mp ha with z | z
        ·exact ⟨(hf a z).1,notZ f2 z⟩
        ·refine ⟨back1 a (back3 a (t4.new a z)),λ hz=>t4.ndj a z ?_⟩;rcases hz with hz | ⟨j,hz⟩
         ·exact .inl hz
         ·exact .inr ⟨j,(Fe hz).1⟩
      ·rw [if_neg hz] at ec;cases ec
 ·left
  have ed:els.drop i=[]:=Vf (by omega);rw [ed] at ec;rw [<- ec] at q;unfold BY at q;exact ⟨hst hD k1 (by omega),q D ys H1 fps1 fpl k1 g1 r1 hD h1D tm hf⟩
end
section
variable {M:Fm}{ρ ρ':Ae}{σ σ':St}{H H' H'':Hp}{fps fps' fps'':AA}{vs vs':List Nat}
def C5:List (PV×Nat)->Bool
 | []=>true
 | p::r=>(p.2 == om) && C5 r
theorem J6:∀ {xs:List (PV×Nat)},C5 xs=true->∀ p∈xs,p.2=om
 | [],_,_,h=>nomatch h
 | p::r,h,q,hq=>by
  unfold C5 at h;rw [A4] at h;rcases ja8.mp hq with e | e
  ·rw [e];exact eq_of_beq h.1
  ·exact J6 h.2 q e
def BO (acc:List (PV×Nat)) (ρ:Ae):Rz (PV×Nat×Ae):=.ok (.lst (acc.map (·.1)),if C5 acc then om else 1,ρ)
def BK (f:Fx) (k:Nat) (asg:PV->Ae->Option Ae) (test:Fb) (elt:Fx):Fx:=λ ρ=>match f ρ with
 | .ok (.lst xs,_,ρ1)=>(BY k asg test elt xs ρ1 []).bindN λ (acc,ρ2)=>BO acc ρ2
 | .ok (.tup xs,_,ρ1)=>(BY k asg test elt xs ρ1 []).bindN λ (acc,ρ2)=>BO acc ρ2
 | .ok (.str z,_,ρ1)=>if M8 z=true then (BY k asg test elt (Ej z) ρ1 []).bindN λ (acc,ρ2)=>BO acc ρ2 else .no
 | .ok _=>.no
 | .exc c=>.exc c
 | .no=>.no
def CF (en:List (PV×Nat)->Option (Int×Int)) (fa:Fa) (k:Nat) (asg:PV->Ae->Option Ae) (test:Fb) (elt:Fx):Fx:=λ ρ=>match fa ρ with
 | .ok (xs,ρ1)=>(match en xs with
  | some (i,j)=>(BY k asg test elt (Eh i (j - i).toNat) ρ1 []).bindN λ (acc,ρ2)=>BO acc ρ2
  | none=>.no)
 | .exc c=>.exc c
 | .no=>.no
theorem Nr {D:Addr}{acc:List (PV×Nat)}{ws:List V}{fpl:List Addr}{vo:List Nat}{Q:VK}{H0:Hp}{fps0:AA}{ρ0:Ae}
  (rep0:Rep M ρ σ H fps) (k0:KD M H0 fps0 H fps) (g0:Agr M ρ0 ρ) (q:∀ v H' fps' fp,KD M H0 fps0 H' fps'->Agr M ρ0 ρ'->Rep M ρ' σ H' fps'->Own M.K H' (Zt M vo fps' fp) (.lst (acc.map (·.1))) (if C5 acc then om else 1) v fp->Temp M vo H0 H' fps' fp->Q v H')
  (k:KD M H fps H' fps') (g:Agr M ρ ρ') (r:Rep (M.plus [D]) ρ' σ H' fps') (hD:H D=none) (hD':H' D=some (.lst ws)) (tm:Tmps M.K H' (Zv (M.plus [D]) vo fps') acc ws fpl) (hf:∀ a∈fpl,H a=none/\¬ Zf (M.plus [D]) fps' a):Q (.ref D) H':=by
 have back:∀ a,H a=none->H0 a=none:=λ a e=>by
  cases e':H0 a with
  | none=>rfl
  | some o=>exact absurd e (k0.dom a (by rw [e'];simp))
 have nD:¬ Zf M fps' D:=λ z=>by
  rcases z with z | ⟨j,z⟩
  ·exact rep0.zd D z hD
  ·exact r.zo j D z (.inr (by simp))
 have hDl:D∉fpl:=λ z=>(hf D z).2 (.inl (.inr (by simp)));have zt:∀ a,Zt M vo fps' [D] a->Zv (M.plus [D]) vo fps' a:=λ a h=>h.elim (λ h=>h.elim (λ h=>.inl (.inl h)) .inr) λ h=>.inl (.inr h);cases ho:C5 acc with
 | true=>
  rw [ho] at q;refine q (.ref D) H' fps' (D::fpl) (k0.trans k) (g0.trans g) r.minus ?_ ⟨λ a ha=>?_,λ a ha=>?_⟩
  ·rw [Own];exact ⟨D,ws,rfl,.inr ⟨(by decide),fpl,hD',rfl,hDl,OwnL.full _ ws fpl (tm.all (J6 ho))⟩⟩
  ·rcases ja8.mp ha with z | z
   ·rw [z];exact back D hD
   ·exact back a (hf a z).1
  ·rcases ja8.mp ha with z | z
   ·rw [z];exact nD
   ·exact λ y=>(hf a z).2 (y.elim (λ y=>.inl (.inl y)) .inr)
 | false=>
  rw [ho] at q;refine q (.ref D) H' fps' [D] (k0.trans k) (g0.trans g) r.minus ?_ ⟨λ a ha=>?_,λ a ha=>?_⟩
  ·show Own M.K H' (Zt M vo fps' [D]) (.lst (acc.map (·.1))) 1 (.ref D) [D];rw [Own];refine ⟨D,ws,rfl,.inr ⟨(by decide),[],hD',rfl,(λ z=>nomatch z),?_⟩⟩;rw [IB];exact (tm.cold λ a ha z=>(hf a ha).2 z.zf).weak zt
  ·rw [jb2.mp ha];exact back D hD
  ·rw [jb2.mp ha];exact nD
theorem qk {g:TG}{is vI vE vo:List Nat}{asg:PV->Ae->Option Ae}{test:Fb}{elt f:Fx}{k n:Nat}{Q:VK}{P:Fm->Prop}
  (hn:σ.length=n) (hP:∀ D,P (M.comp D n vI)) (hal:∀ i,∀ j∈M.al i,M.Ms j=false) (hvI:∀ i∈vI,M.Ms i=false) (hvE:∀ i∈vE,M.Ms i=false) (his:∀ i∈is,n<=i) (hg:∀ D,Df (M.comp D n vI) vI is g asg)
  (hvo:∀ i,i∈vE->i < n->i∈vo) (hvo2:∀ i∈vo,M.Ms i=false) (hq:tE M (BK f k asg test elt) vo σ H Q):
  Hr k (E7 M.K (tE M f vI)) g (λ σ H Q=>∃ M',P M'/\tT M' test σ H Q) (λ σ H Q=>∃ M',P M'/\tE M' elt vE σ H Q) σ H Q:=by
 obtain ⟨ρ,fps,rep,q⟩:=hq;refine ⟨ρ,fps,rep,?_⟩;unfold BK at q;cases ef:f ρ with
 | no=>rw [ef] at q;exact q
 | exc c=>rw [ef] at q;exact q
 | ok p=>
  obtain ⟨x,d,ρ1⟩:=p;rw [ef] at q;intro v H1 fps1 f1 k1 g1 rep1 o1 t1;have o0:Own M.K H1 (Zv M vI fps1) x 0 v []:=Own.freeze (λ _ z=>.inl z) x d v f1 (λ a ha z=>t1.ndj a ha z.zf) o1;have hl:n=ρ1.length:=by rw [rep1.len];exact hn.symm
  have fin:∀ (els:List PV),(match (BY k asg test elt els ρ1 []).bindN λ (acc,ρ2)=>BO acc ρ2 with
    | .ok (x,d,ρ')=>∀ v H' fps' fp,KD M H fps H' fps'->Agr M ρ ρ'->Rep M ρ' σ H' fps'->Own M.K H' (Zt M vo fps' fp) x d v fp->Temp M vo H H' fps' fp->Q v H'
    | .exc c=>∀ H' fps',KD M H fps H' fps'->M.W σ c H'
    | .no=>False)->(match BY k asg test elt els ρ1 [] with
    | .ok (acc,ρ')=>∀ D ws H' fps' fpl,KD M H1 fps1 H' fps'->Agr M ρ1 ρ'->Rep (M.plus [D]) ρ' σ H' fps'->H1 D=none->H' D=some (.lst ws)->Tmps M.K H' (Zv (M.plus [D]) vo fps') acc ws fpl->(∀ a∈fpl,H1 a=none/\¬ Zf (M.plus [D]) fps' a)->Q (.ref D) H'
    | _=>False):=λ els q=>by
   cases ec:BY k asg test elt els ρ1 [] with
   | no=>rw [ec] at q;exact q.elim
   | exc c=>rw [ec] at q;exact q.elim
   | ok p=>
    obtain ⟨acc,ρ2⟩:=p;rw [ec] at q;exact λ D ws H' fps' fpl k g r hD hD' tm hf=>Nr rep1 k1 g1 q k g r hD hD' tm hf
  cases x with
  | lst xs=>
   have one:∀ {Z:Addr->Prop}{H:Hp},Own M.K H Z (.lst xs) 0 v []->∃ a ws,v=.ref a/\AN M.K H a ws/\OwnL M.K H Z xs 0 ws []:=λ o=>by
    rw [Own] at o;obtain ⟨b,ws,e,⟨_,hr,_,ol⟩ | ⟨h,_⟩⟩:=o
    ·exact ⟨b,ws,e,.inl (.inl hr.1),ol⟩
    ·exact absurd rfl h
   obtain ⟨a,ws,rfl,sq,ol⟩:=one o0;refine .inl ⟨a,rfl,.inl ⟨⟨ws,sq⟩,?_⟩⟩;refine Jz (els:=xs) hP hl hal hvI hvE his hg hvo hvo2 rep1 (λ {D H' fps' i} hD k' h=>?_) (λ {D H' fps' i} hD k' h=>?_) (λ {D H' fps' i x H''} hD k' h y=>?_) (fin xs q)
   ·obtain ⟨a',ws,e,s,ol⟩:=one (KD.seen rep1 k' hD hvI o0);cases e;exact ⟨ws,ws[i]'(by rw [ol.length];exact h),s,by simp⟩
   ·obtain ⟨a',ws,e,s,ol⟩:=one (KD.seen rep1 k' hD hvI o0);cases e;exact ⟨ws,s,by rw [ol.length];exact h⟩
   ·obtain ⟨a',ws,e,s,ol⟩:=one (KD.seen rep1 k' hD hvI o0);cases e;obtain ⟨e1,e2⟩:=y;subst e1;exact ⟨λ _ _ h=>h,ol.get (e2 ws s)⟩
  | tup xs=>
   have one:∀ {Z:Addr->Prop}{H:Hp},Own M.K H Z (.tup xs) 0 v []->∃ a ws,v=.ref a/\SqT M.K H a ws/\OwnL M.K H Z xs 0 ws []:=λ o=>by
    rw [Own] at o;obtain ⟨a,ws,e,hr,ol⟩:=o;exact ⟨a,ws,e,.inl (.inl hr),ol⟩
   obtain ⟨a,ws,rfl,sq,ol⟩:=one o0;refine .inl ⟨a,rfl,.inr ⟨⟨ws,sq⟩,?_⟩⟩;refine Jz (els:=xs) hP hl hal hvI hvE his hg hvo hvo2 rep1 (λ {D H' fps' i} hD k' h=>?_) (λ {D H' fps' i} hD k' h=>?_) (λ {D H' fps' i x H''} hD k' h y=>?_) (fin xs q)
   ·obtain ⟨a',ws,e,s,ol⟩:=one (KD.seen rep1 k' hD hvI o0);cases e;exact ⟨ws,ws[i]'(by rw [ol.length];exact h),s,by simp⟩
   ·obtain ⟨a',ws,e,s,ol⟩:=one (KD.seen rep1 k' hD hvI o0);cases e;exact ⟨ws,s,by rw [ol.length];exact h⟩
   ·obtain ⟨a',ws,e,s,ol⟩:=one (KD.seen rep1 k' hD hvI o0);cases e;obtain ⟨e1,e2⟩:=y;subst e1;exact ⟨λ _ _ h=>h,ol.get (e2 ws s)⟩
  | str z=>
   have o0':=o0;rw [Own] at o0';obtain ⟨rfl,_⟩:=o0';dsimp only at q;by_cases ha:M8 z=true
   ·rw [if_pos ha] at q;refine .inr ⟨z,rfl,ha,?_⟩;have hl':(Ej z).length=z.cps.size:=by unfold Ej;rw [AF,Ia]
    refine Jz (els:=Ej z) hP hl hal hvI hvE his hg hvo hvo2 rep1 (λ {D H' fps' i} hD k' h=>?_) (λ {D H' fps' i} hD k' h=>?_) (λ {D H' fps' i x H''} hD k' h y=>?_) (fin (Ej z) q)
    ·show i < z.cps.size;omega
    ·show z.cps.size<=i;omega
    ·obtain ⟨rfl,c,hc,rfl⟩:=y;refine ⟨λ _ _ h=>h,.str ⟨#[c]⟩,?_,by rw [Own];exact ⟨rfl,rfl⟩⟩;unfold Ej;rw [DA,Vd,hc];rfl
   ·rw [if_neg ha] at q;exact q.elim
  | _=>exact q.elim
def R9 {g:TG}{is vI vE vo:List Nat}{asg:PV->Ae->Option Ae}{test:Fb}{elt:Fx}{k n:Nat}{Q:VK}{P:Fm->Prop}{lo:Int}{m:Nat}{H0:Hp}{fps0:AA}{ρ0:Ae}
  (hn:σ.length=n) (hP:∀ D,P (M.comp D n vI)) (hal:∀ i,∀ j∈M.al i,M.Ms j=false) (hvI:∀ i∈vI,M.Ms i=false) (hvE:∀ i∈vE,M.Ms i=false) (his:∀ i∈is,n<=i) (hg:∀ D,Df (M.comp D n vI) vI is g asg)
  (hvo:∀ i,i∈vE->i < n->i∈vo) (hvo2:∀ i∈vo,M.Ms i=false) (k0:KD M H0 fps0 H fps) (g0:Agr M ρ0 ρ) (rep:Rep M ρ σ H fps)
  (q:match (BY k asg test elt (Eh lo m) ρ []).bindN λ (acc,ρ2)=>BO acc ρ2 with
    | .ok (x,d,ρ')=>∀ v H' fps' fp,KD M H0 fps0 H' fps'->Agr M ρ0 ρ'->Rep M ρ' σ H' fps'->Own M.K H' (Zt M vo fps' fp) x d v fp->Temp M vo H0 H' fps' fp->Q v H'
    | .exc c=>∀ H' fps',KD M H0 fps0 H' fps'->M.W σ c H'
    | .no=>False):
  ∀ D,H D=none->∃ W:Nat->Nat->List V->Hp->Prop,(∃ m,W 0 m [] (Am H D (.lst [])))/\∀ i j ys H1,W i j ys H1->H1 D=some (.lst ys) /\
   (((Fd lo m).stop i H1/\Q (.ref D) H1)\/((Fd lo m).go i H1/\∀ x H',(Fd lo m).yld i H1 x H'->g x (σ++AH k none) H' λ σ2 H2=>∃ M',P M'/\tT M' test σ2 H2 λ b H3=>if b=true then ∃ M',P M'/\tE M' elt vE σ2 H3 λ y H4=>H4 D=some (.lst ys)/\ys.length < Ap/\∃ m',m' < j/\W (i + 1) m' (ys++[y]) (Am H4 D (.lst (ys++[y]))) else ∃ m',m' < j/\W (i + 1) m' ys H3)):=by
 have hl:n=ρ.length:=by rw [rep.len];exact hn.symm
 refine Jz (els:=Eh lo m) hP hl hal hvI hvE his hg hvo hvo2 rep (λ {D H' fps' i} hD k' h=>?_) (λ {D H' fps' i} hD k' h=>?_) (λ {D H' fps' i x H''} hD k' h y=>?_) ?_
 ·rw [Iq] at h;exact h
 ·rw [Iq] at h;exact h
 ·rw [Iq] at h;obtain ⟨e1,e2⟩:=y;subst e1;exact ⟨λ _ _ h=>h,.int (lo + i),by simp [Eh,h],by rw [e2,Own];exact ⟨rfl,rfl⟩⟩
 ·cases ec:BY k asg test elt (Eh lo m) ρ [] with
  | no=>rw [ec] at q;exact q.elim
  | exc c=>rw [ec] at q;exact q.elim
  | ok p=>
   obtain ⟨acc,ρ2⟩:=p;rw [ec] at q;exact λ D ws H' fps' fpl k g r hD hD' tm hf=>Nr rep k0 g0 q k g r hD hD' tm hf
theorem qi {g:TG}{is vI vE vo:List Nat}{asg:PV->Ae->Option Ae}{test:Fb}{elt:Fx}{fa:Fa}{k n:Nat}{Q:VK}{P:Fm->Prop}
  (hn:σ.length=n) (hP:∀ D,P (M.comp D n vI)) (hal:∀ i,∀ j∈M.al i,M.Ms j=false) (hvI:∀ i∈vI,M.Ms i=false) (hvE:∀ i∈vE,M.Ms i=false) (his:∀ i∈is,n<=i) (hg:∀ D,Df (M.comp D n vI) vI is g asg)
  (hvo:∀ i,i∈vE->i < n->i∈vo) (hvo2:∀ i∈vo,M.Ms i=false) (hq:tE M (CF BB fa k asg test elt) vo σ H Q):
  Hr k (Mx (tL M fa vs)) g (λ σ H Q=>∃ M',P M'/\tT M' test σ H Q) (λ σ H Q=>∃ M',P M'/\tE M' elt vE σ H Q) σ H Q:=by
 obtain ⟨ρ,fps,rep,q⟩:=hq;refine ⟨ρ,fps,rep,?_⟩;unfold CF at q;cases ef:fa ρ with
 | no=>rw [ef] at q;exact q
 | exc c=>rw [ef] at q;exact q
 | ok p=>
  obtain ⟨xs,ρ1⟩:=p;rw [ef] at q;intro ws H1 fps1 f1 k1 g1 rep1 o1 t1;dsimp only at q;cases ee:BB xs with
  | none=>rw [ee] at q;exact q.elim
  | some ij=>
   obtain ⟨i,j⟩:=ij;rw [ee] at q;unfold BB at ee;split at ee
   ·rename_i j' d;split at ee
    ·rename_i hb;cases ee;obtain ⟨v,r,f1,f2,rfl,_,_,h1,h2⟩:=o1;obtain ⟨rfl,_⟩:=h2;rw [Own] at h1;obtain ⟨rfl,_⟩:=h1;refine ⟨j,rfl,hb.1,hb.2,?_⟩;have e:(j - 0).toNat=j.toNat:=by omega
     dsimp only at q;rw [e] at q;exact R9 hn hP hal hvI hvE his hg hvo hvo2 k1 g1 rep1 q
    ·cases ee
   ·cases ee
theorem qj {g:TG}{is vI vE vo:List Nat}{asg:PV->Ae->Option Ae}{test:Fb}{elt:Fx}{fa:Fa}{k n:Nat}{Q:VK}{P:Fm->Prop}
  (hn:σ.length=n) (hP:∀ D,P (M.comp D n vI)) (hal:∀ i,∀ j∈M.al i,M.Ms j=false) (hvI:∀ i∈vI,M.Ms i=false) (hvE:∀ i∈vE,M.Ms i=false) (his:∀ i∈is,n<=i) (hg:∀ D,Df (M.comp D n vI) vI is g asg)
  (hvo:∀ i,i∈vE->i < n->i∈vo) (hvo2:∀ i∈vo,M.Ms i=false) (hq:tE M (CF CO fa k asg test elt) vo σ H Q):
  Hr k (My (tL M fa vs)) g (λ σ H Q=>∃ M',P M'/\tT M' test σ H Q) (λ σ H Q=>∃ M',P M'/\tE M' elt vE σ H Q) σ H Q:=by
 obtain ⟨ρ,fps,rep,q⟩:=hq;refine ⟨ρ,fps,rep,?_⟩;unfold CF at q;cases ef:fa ρ with
 | no=>rw [ef] at q;exact q
 | exc c=>rw [ef] at q;exact q
 | ok p=>
  obtain ⟨xs,ρ1⟩:=p;rw [ef] at q;intro ws H1 fps1 f1 k1 g1 rep1 o1 t1;dsimp only at q;cases ee:CO xs with
  | none=>rw [ee] at q;exact q.elim
  | some ij=>
   obtain ⟨i,j⟩:=ij;rw [ee] at q;unfold CO at ee;split at ee
   ·rename_i i' d j' d';split at ee
    ·rename_i hb;cases ee;obtain ⟨v,r,f1,f2,rfl,_,_,h1,h2⟩:=o1;obtain ⟨v2,r2,f3,f4,rfl,_,_,h3,h4⟩:=h2;obtain ⟨rfl,_⟩:=h4;rw [Own] at h1 h3;obtain ⟨rfl,_⟩:=h1;obtain ⟨rfl,_⟩:=h3;exact ⟨i,j,rfl,hb,R9 hn hP hal hvI hvE his hg hvo hvo2 k1 g1 rep1 q⟩
    ·cases ee
   ·cases ee
end
def Ul {K:Frag}{c:Nat}{C:Addr} (e:C6 K c=some C):c < 12:=by
 unfold C6 at e;split at e
 ·rename_i x h;exact (jb0.mp h).1
 ·cases e
structure XC (h:Heap) (K:Frag) (c:Nat) (C:Addr):Prop where
 obj:∃ bm N nm q bs hdct sn sub ab col dd k0 k1 k2 k3 k5 mN,h.get? C=some (excClassObj nm q C N bs bm hdct sn sub ab col dd k0 k1 k2 k3 k5 "ValueError.__new__")/\h.Ns N mN/\mN "__init__" = none/\OwnTail h Vh bm/\∀ d D,C6 K d=some D->(Value.ref C::bm).contains (.ref D)=Ef c d
def ED (W:Nat->Hp->Prop):XK:=λ v _ H'=>match v with
 | .int c _=>W c.toNat H'
 | _=>False
def A5 (P:A0) (w:Ay) (K:Frag):DS:=λ outer H s E e s'=>∃ (a C:Addr) (c:Nat) (H':Hp) (B:Heap) (a0:Ac),e=.ref a/\C6 K c=some C/\s'.os=s.os/\Es s'.gens/\Un (Cs outer) [] H H' s.heap s'.heap/\HOk P w H' s'.heap/\H' a=none/\s.heap.get? a=none /\
 Heap.FlyingW B outer a (.ref C) a0 s'.heap/\(∀ b o,s'.heap.get? b=some o->H' b≠none->B.get? b=some o)/\(∀ b o,s.heap.get? b=some o->H b=none->b∉Cs outer->B.get? b=some o)/\(∀ b,H b≠none->H' b≠none)/\E (.int (c:Int) 0) none H'
theorem Nz {P:A0}{w:Ay}{H:Hp}{h:Heap}{a:Addr}{o:HO} (x:zxv P w H h a o):∃ u,h.get? a=some u:=by
 cases o with
 | lst xs=>obtain ⟨_,_,_,_,e⟩:=x;exact ⟨_,e⟩
 | tup xs=>obtain ⟨_,_,_,o,e,_⟩:=x;exact ⟨_,e⟩
 | dK kvs=>obtain ⟨_,_,_,_,o,_,_,e,_⟩:=x;exact ⟨_,e⟩
 | dT kvs=>obtain ⟨_,_,_,_,o,_,_,e,_⟩:=x;exact ⟨_,e⟩
 | set S n=>obtain ⟨o,_,_,_,e,_⟩:=x;exact ⟨_,e⟩
 | ins C dx fs=>obtain ⟨_,_,_,e,_⟩:=x;exact ⟨_,e⟩
 | own y=>exact x
 | xd fs=>obtain ⟨_,⟨_,_,_,e,_⟩,_⟩:=x;exact ⟨_,e⟩
 | rng lo hi=>obtain ⟨_,_,_,e⟩:=x;exact ⟨_,e⟩
 | frz ob u=>obtain ⟨e,_⟩:=x;exact ⟨_,e⟩
 | tbl ps=>exact ⟨_,(show h.get? a=some _ from x)⟩
 | met f y=>exact ⟨_,(show h.get? a=some _ from x)⟩
 | ext φ=>exact x.2.1
section
variable {X:Cx}{pins:List (Addr×Obj)}{σ:St}{H H1:Hp}{s s2:Af}{h1 B:Heap}{a C:Addr}{a0:Ac}{c:Nat}{E:XK}{P:A0}{w:Ay}{K:Frag}
def Ur (I:L2.Inv X pins σ H s) (hex:X.ex=[]) (u:Un (Cs X.stack) [] H H1 s.heap h1) (hok:HOk X.prog X.w H1 h1) (fl:Heap.FlyingW B X.outer a (.ref C) a0 s2.heap) (up:h1.UpToSlots s2.heap)
  (i1:∀ b o,h1.get? b=some o->H1 b≠none->B.get? b=some o) (i2:∀ b o,s.heap.get? b=some o->H b=none->b∉Cs X.stack->B.get? b=some o) (ha:H1 a=none) (hn:s.heap.get? a=none)
  (hE:E (.int (c:Int) 0) none H1) (hd:∀ b,X.H₀ b≠none->H1 b≠none) (hc:C6 X.K c=some C) (ho:s2.os=s.os) (hg:Es s2.gens):A5 X.prog X.w X.K X.outer X.H₀ X.s₀ E (.ref a) s2:=by
 have nx:∀ b:Addr,b∉X.ex:=λ b z=>by rw [hex] at z;cases z
 have key:∀ b o,X.s₀.heap.get? b=some o->X.H₀ b=none->b∉Cs X.outer->B.get? b=some o:=λ b o e n hb=>by
  refine i2 b o (I.base.keep b o e n hb (nx b)) (I.base.free b o e n (nx b)) λ z=>?_;rcases ja8.mp (I.stkSub b z) with z | z
  ·exact absurd (BA (A9 e) I.ok.above) (by rw [z];exact Ed _)
  ·exact hb z
 have fr:∀ b o,X.s₀.heap.get? b=some o->X.H₀ b=none->b∈Cs X.outer->∃ sl,s2.heap.get? b=some { o with slots:=sl }:=λ b o e n hb=>by
  obtain ⟨sl,e1⟩:=I.base.slot b o e n hb (nx b);obtain ⟨sl',e2⟩:=u.any e1 (I.base.free b o e n (nx b)) (by simp);obtain ⟨_,o',ho',hnf⟩:=I.ok.funs.mem hb;rw [e] at ho';cases ho';obtain ⟨sl2,e3⟩:=up b _ e2 hnf;exact ⟨sl2,e3⟩
 have EY:∀ b v,H1 b≠none->h1.get? b=some v->s2.heap.get? b=some v:=λ b v hb e=>fl.1 b v (i1 b v e hb);have un:Un (Cs X.outer) [] X.H₀ H1 X.s₀.heap s2.heap:=by
  refine ⟨λ b o e n hb _=>fl.1 b o (key b o e n hb),λ b o e n hb _=>fr b o e n hb,λ b o e n _=>?_,λ b o e _=>?_,λ b xs e=>u.tups b xs (I.base.tups b xs e),λ b o xs e=>u.frzs b o xs (I.base.frzs b o xs e),λ b ps e=>?_⟩
  ·obtain ⟨o',e'⟩:=I.base.there b o e (nx b);exact u.free b o' e' (I.base.free b o e n (nx b)) (by simp)
  ·by_cases h0:X.H₀ b=none
   ·by_cases hb:b∈Cs X.outer
    ·obtain ⟨sl,e2⟩:=fr b o e h0 hb;exact ⟨_,e2⟩
    ·exact ⟨o,fl.1 b o (key b o e h0 hb)⟩
   ·obtain ⟨o',e'⟩:=I.base.there b o e (nx b);obtain ⟨o2,e2⟩:=u.there b o' e' (by simp);exact ⟨o2,EY b o2 (hd b h0) e2⟩
  ·obtain ⟨m1,e1⟩:=I.base.tbls b ps e;obtain ⟨m2,e2⟩:=u.tbls b _ e1;exact ⟨m1++m2,by rw [e2,Va]⟩
 refine ⟨a,C,c,H1,B,a0,rfl,hc,ho.trans I.os,hg,un,λ b o e=>?_,ha,?_,fl,λ b o e hb=>?_,key,hd,hE⟩
 ·refine (hok b o e).stay (λ d v hd q=>EY d v ?_ q) (λ _ q=>q) λ _ _ q=>q;rcases hd with rfl | hd
  ·rw [e];simp
  ·rw [hd];simp
 ·cases q:X.s₀.heap.get? a with
  | none=>rfl
  | some o=>
   obtain ⟨o',e'⟩:=I.base.there a o q (nx a);rw [hn] at e';cases e'
 ·cases q:H1 b with
  | none=>exact absurd q hb
  | some o1=>
   obtain ⟨v,hv⟩:=Nz (hok b o1 q);have e2:=EY b v hb hv;rw [e] at e2;cases e2;exact i1 b o hv hb
end
def Lu (CX:DS) (X:Cx) (W:St->Nat->Hp->Prop):Prop:=∀ (pins:List (Addr×Obj)) (σ:St) (H:Hp) (s:Af) (e:Ac) (s':Af),L2.Inv X pins σ H s->CX X.stack H s (ED (W σ)) e s'->X.xe e s'
def Ts (X:Cx) (W:St->Nat->Hp->Prop):Prop:=∀ (pins:List (Addr×Obj)) (σ:St) (H:Hp) (s:Af) (c:Nat) (C a:Addr) (h':Heap) (args:List Ac),L2.Inv X pins σ H s->C6 X.K c=some C->Heap.MadeExcOf s.heap h' a (.ref C) args->W σ c H->X.xe (.ref a) { s with heap:=h' }
abbrev W0:St->Nat->Hp->Prop:=λ _ _ _=>False
def WR {P:A0}{w:Ay}{K:Frag}{X:Cx}:Lu (A5 P w K) X W0:=λ _ _ _ _ _ _ _ h=>by
 obtain ⟨a,C,c,H',B,a0,_,_,_,_,_,_,_,_,_,_,_,_,hE⟩:=h;exact CW hE
def WE (E:XK) (H:Hp):St->Nat->Hp->Prop:=λ _ c H'=>E (.int (c:Int) 0) none H'/\∀ b,H b≠none->H' b≠none
section
variable {P:A0}{w:Ay}{K:Frag}{mg:Str->Option Ac}{base:Heap}{N:List Str}{qual:Str}{scope:AW}{f:Addr}{cd:Ac}{A:AJ}{outer:List Env}{s:Af}{H:Hp}{E:XK}
def ZQ:Lu (A5 P w K) (Bm (A5 P w K) P w K mg base N qual scope f cd A outer s H E) (WE E H):=by
 intro pins σ H1 s1 e s' I h;obtain ⟨a,C,c,H',B,a0,rfl,hc,ho,hg,un,hok,ha,hn,fl,i1,i2,hd,hE⟩:=h;have hE':WE E H σ c H':=hE;refine wpAny_leaves_onW (by exact I.ok.frames) rfl fl λ h2 f2 up=>?_;exact Ur (s2:={ s' with heap:=h2 }) I rfl un hok f2 up i1 i2 ha hn hE'.1 hE'.2 hc ho hg
def xq:Ts (Bm (A5 P w K) P w K mg base N qual scope f cd A outer s H E) (WE E H):=by
 intro pins σ H1 s1 c C a h' args I hc hx hW;have hin:∀ env∈(Bm (A5 P w K) P w K mg base N qual scope f cd A outer s H E).stack,∀ b,env.frame=some b->b∈Cs (Bm (A5 P w K) P w K mg base N qual scope f cd A outer s H E).stack:=λ env he b hb=>jj4.mpr ⟨env,he,hb⟩;have EY:∀ b,H1 b≠none->∃ o,s1.heap.get? b=some o:=λ b hb=>by
  cases q:H1 b with
  | none=>exact absurd q hb
  | some u=>exact Nz (I.hok b u q)
 have nfr:∀ b,H1 b≠none->b∉Cs (Bm (A5 P w K) P w K mg base N qual scope f cd A outer s H E).stack:=λ b hb z=>hb (I.stkFree b z);refine wpAny_leaves_madeW (base:=PySem.W.hideAll s1.heap (Cs (Bm (A5 P w K) P w K mg base N qual scope f cd A outer s H E).stack)) (h:=s1.heap) (by exact I.ok.frames) rfl (λ b o q=>PySem.W.of_hideAll _ q) (PySem.W.funFrames_hide I.stack hin) hx λ h2 t f2 _ _ up=>?_;refine Ur (s2:={ s1 with heap:=h2 }) I rfl (Un.kept hx.keeps) (I.hok.kept hx.keeps) f2 up (λ b o e hb=>?_) (λ b o e _ hb=>O2 _ e hb) ?_ hx.new hW.1 hW.2 hc rfl I.bare
 ·obtain ⟨o1,e1⟩:=EY b hb;have e2:=hx.keeps b o1 e1;rw [e] at e2;cases e2;exact O2 _ e1 (nfr b hb)
 ·cases q:H1 a with
  | none=>rfl
  | some u=>
   obtain ⟨o,e⟩:=Nz (I.hok a u q);rw [hx.new] at e;cases e
def Y5:JM (An P w) (Bm (A5 P w K) P w K mg base N qual scope f cd A outer s H E).A (Bm (A5 P w K) P w K mg base N qual scope f cd A outer s H E).env (Bm (A5 P w K) P w K mg base N qual scope f cd A outer s H E).xe:=PassesOwn.leaving
end
section
variable {X:Cx}{CX:DS}{k:Nat}{f:Addr}{fd:Cr}{ps:List Str}{sp:Sp}{x:Str}{p pos:Pos}{e:Expr}{es:List Expr}{t:TA}{W:St->Nat->Hp->Prop}
def SS (sp:Sp) (W:St->Nat->Hp->Prop) (t:TA):TE:=λ σ H Q=>t σ H λ vs H1=>sp vs H1 Q (ED (W σ))
theorem ZR (F:FnOk X.prog X.w X.K X.mg X.base CX k f fd ps sp) (hr:Room k X.A) (hg:Gl X x) (hm:X.mg x=some (.ref f)) (hk:GY X.K (.ref f)=true) (hb:zky X.K fd ps []) (hx:Lu CX X W) (ha:PA X (e::es) t) (hdb:(x == ("__debug__" : Str))=false)
  (he:As (e::es) X.env=(false,eval e X.env)::As es X.env) (hpl:(BP pos (As es X.env)).any (·.1)=false):PE X (.Call (.Name x p) (e::es) [] pos) (SS sp W t):=by
 intro pins s σ H Q I h;refine JT (NM I hg hm ?_ hdb);refine PySem.W.callWith_K (h₀:=X.base) I.ok.mod.kin hk (Aw (ha pos pins s σ H _ I h) λ us s1 ⟨vs,H1,I1,r,q⟩=>⟨I1.kIn,?_⟩) he hpl;have q':sp vs H1 Q (ED (W σ)):=q;have hl:(us++[]).length=ps.length:=by rw [HX,<- r.length];exact F.len _ _ _ _ q'
 have hbd:=hb s1 us I1.kIn hl;rw [HX] at hbd;refine wpAny_call (JP (F.run X.A X.stack s1 H1 ⟨us,[]⟩ us vs Q (ED (W σ)) hr I1.env0 hbd r q') λ r s' hq=>?_);cases r with
 | error e=>exact hx pins σ H1 s1 e s' I1 hq
 | ok fl=>
  cases fl with
  | ret u=>exact I1.after hq
  | next=>exact CW hq
  | brk=>exact CW hq
  | cont=>exact CW hq
def Wh {P:A0}{w:Ay}{K:Frag}:OZ (A5 P w K) X E0:=λ _ _ _ _ _ _ _ h=>by
 obtain ⟨a,C,c,H',B,a0,_,_,_,_,_,_,_,_,_,_,_,_,hE⟩:=h;exact CW hE
end
def CA (cells:List (Str×Addr)):List (Str×CJ)->List (Str×Addr)->List (Str×Addr)
 | [],cs=>cs
 | (n,k)::r,cs=>if k == .free then CA cells r ((n,(cells.lookup n).getD 0)::cs) else CA cells r cs
def Qr {scope:AW}{env:Env} (h:∀ x∈scope.names,x.2=.free->∃ c,env.cells.lookup x.1=some c):closureFor scope env=pure (CA env.cells scope.names []):=by
 unfold closureFor;have all:∀ (l:List (Str×CJ)) (cs:List (Str×Addr)),(∀ x∈l,x.2=.free->∃ c,env.cells.lookup x.1=some c) ->
   (forIn l cs λ (x:Str×CJ) (cs:List (Str×Addr))=>if (x.2 == NameKind.free)=true then (do let a<-cellOf env x.1;pure (ForInStep.yield ((x.1,a)::cs))) else pure (ForInStep.yield cs):Sem (List (Str×Addr)))=pure (CA env.cells l cs):=by
  intro l;induction l with
  | nil=>intro cs _;rfl
  | cons x r ih=>
   intro cs hl;obtain ⟨n,k⟩:=x;rw [ML];have ih':=λ cs=>ih cs λ y hy=>hl y (AB _ hy);by_cases hk:(k == NameKind.free)=true
   ·obtain ⟨c,hc⟩:=hl (n,k) AI (by simpa using hk);have e1:cellOf env n=pure c:=by unfold cellOf;rw [hc]
    rw [if_pos hk,e1];simp only [pure_bind];rw [ih',CA,if_pos hk,hc];rfl
   ·rw [if_neg hk];simp only [pure_bind];rw [ih',CA,if_neg hk]
 have:=all scope.names [] h
 simp only [bind_pure] at this ⊢;exact this
theorem FA (cells:List (Str×Addr)) (x:Str) (c:Addr):∀ (l:List (Str×CJ)) (cs:List (Str×Addr)),(∀ y∈l,y.2=.free->∃ c,cells.lookup y.1=some c)->(cs.lookup x=some c->cells.lookup x=some c)->(CA cells l cs).lookup x=some c->cells.lookup x=some c
 | [],cs,_,h,e=>h e
 | (n,k)::r,cs,hl,h,e=>by
  unfold CA at e;split at e
  ·rename_i hk;refine FA cells x c r _ (λ y hy=>hl y (AB _ hy)) (λ e'=>?_) e;rw [DM] at e';split at e'
   ·rename_i hx;obtain ⟨c',hc⟩:=hl (n,k) AI (by simpa using hk);rw [hc] at e';cases e';rw [eq_of_beq hx];exact hc
   ·exact h e'
  ·exact FA cells x c r cs (λ y hy=>hl y (AB _ hy)) h e
theorem N3 (cells:List (Str×Addr)) (x:Str):∀ (l:List (Str×CJ)) (cs:List (Str×Addr)),(∃ c,cs.lookup x=some c)->∃ c,(CA cells l cs).lookup x=some c
 | [],cs,h=>h
 | (n,k)::r,cs,h=>by
  unfold CA;split
  ·refine N3 cells x r _ ?_;rw [DM];split
   ·exact ⟨_,rfl⟩
   ·exact h
  ·exact N3 cells x r cs h
theorem N9 (cells:List (Str×Addr)) (x:Str):∀ (l:List (Str×CJ)) (cs:List (Str×Addr)),(x,NameKind.free)∈l->∃ c,(CA cells l cs).lookup x=some c
 | [],_,h=>nomatch h
 | (n,k)::r,cs,h=>by
  unfold CA;rcases ja8.mp h with e | e
  ·cases e;rw [if_pos (show (NameKind.free == NameKind.free)=true by decide)];exact N3 cells x r _ ⟨_,by rw [DM,beq_self_eq_true]⟩
  ·split
   ·exact N9 cells x r _ e
   ·exact N9 cells x r cs e
theorem N8:∀ (names:List (Str×CJ)) (n:Nat) (acc:List (Str×Addr)) (x:Str) (c:Addr),(C7 n names acc).lookup x=some c->acc.lookup x=some c\/(n<=c/\(x,NameKind.cell)∈names)
 | [],n,acc,x,c,h=>.inl h
 | (m,k)::r,n,acc,x,c,h=>by
  unfold C7 at h;split at h
  ·rename_i hk;have hk':k=.cell:=by simpa using hk
   rcases N8 r _ _ x c h with z | ⟨z,y⟩
   ·rw [DM] at z;split at z
    ·rename_i hx;cases z;exact .inr ⟨AE _,by rw [eq_of_beq hx,hk'];exact AI⟩
    ·exact .inl z
   ·exact .inr ⟨Hd z,AB _ y⟩
  ·rcases N8 r _ _ x c h with z | ⟨z,y⟩
   ·exact .inl z
   ·exact .inr ⟨z,AB _ y⟩
theorem Lk:∀ (names:List (Str×CJ)) (n:Nat) (acc:List (Str×Addr)) (x:Str),(x,NameKind.cell)∉names->(C7 n names acc).lookup x=acc.lookup x
 | [],n,acc,x,h=>rfl
 | (m,k)::r,n,acc,x,h=>by
  unfold C7;split
  ·rename_i hk;have hk':k=.cell:=by simpa using hk
   rw [Lk r _ _ x λ z=>h (AB _ z),DM];split
   ·rename_i hx;exact absurd (by rw [eq_of_beq hx,hk'];exact AI) h
   ·rfl
  ·exact Lk r _ _ x λ z=>h (AB _ z)
theorem M9:∀ (names:List (Str×CJ)) (n:Nat) (acc:List (Str×Addr)) (x:Str),(x,NameKind.cell)∈names->∃ c,(C7 n names acc).lookup x=some c/\n<=c
 | [],n,acc,x,h=>nomatch h
 | (m,k)::r,n,acc,x,h=>by
  by_cases hr:(x,NameKind.cell)∈r
  ·unfold C7;split
   ·obtain ⟨c,e,l⟩:=M9 r (n + 1) ((m,n)::acc) x hr;exact ⟨c,e,Hd l⟩
   ·exact M9 r n acc x hr
  ·rcases ja8.mp h with e | e
   ·cases e;unfold C7;rw [if_pos (by decide),Lk r _ _ _ hr,DM,beq_self_eq_true];exact ⟨n,rfl,AE _⟩
   ·exact absurd e hr
theorem Pb:∀ (names:List (Str×CJ)) (n:Nat) (acc:List (Str×Addr)),(∀ x y c,acc.lookup x=some c->acc.lookup y=some c->x=y)->(∀ x c,acc.lookup x=some c->c < n)->∀ x y c,(C7 n names acc).lookup x=some c->(C7 n names acc).lookup y=some c->x=y
 | [],n,acc,hi,_,x,y,c,h1,h2=>hi x y c h1 h2
 | (m,k)::r,n,acc,hi,hl,x,y,c,h1,h2=>by
  unfold C7 at h1 h2;split at h1
  ·rename_i hk;rw [if_pos hk] at h2;refine Pb r (n + 1) ((m,n)::acc) (λ x y c h1 h2=>?_) (λ x c h=>?_) x y c h1 h2
   ·rw [DM] at h1 h2;split at h1
    ·rename_i e1;cases h1;split at h2
     ·rename_i e2;rw [eq_of_beq e1,eq_of_beq e2]
     ·exact absurd (hl y _ h2) (Ed _)
    ·split at h2
     ·cases h2;exact absurd (hl x _ h1) (Ed _)
     ·exact hi x y c h1 h2
   ·rw [DM] at h;split at h
    ·cases h;exact FY _
    ·exact K4 (hl x c h)
  ·rename_i hk;rw [if_neg hk] at h2;exact Pb r n acc hi hl x y c h1 h2
theorem NP:∀ (names:List (Str×CJ)) (h:Heap) (acc:List (Str×Addr)) (x:Str) (c:Addr),(C7 h.objs.size names acc).lookup x=some c->acc.lookup x=some c\/(pushCells h names).IsCell c none
 | [],h,acc,x,c,e=>.inl e
 | (m,k)::r,h,acc,x,c,e=>by
  unfold C7 at e;unfold pushCells;split at e
  ·rename_i hk;rw [if_pos hk];have hs:(h.push { cls:=.type "cell",data:=.cell none }).objs.size=h.objs.size + 1:=Eu ..;have e':(C7 (h.push { cls:=.type "cell",data:=.cell none }).objs.size r ((m,h.objs.size)::acc)).lookup x=some c:=by rw [hs];exact e
   rcases NP r _ _ x c e' with z | z
   ·rw [DM] at z;split at z
    ·cases z;exact .inr ⟨_,Ol _ _ _ _ (BV _ rfl),rfl⟩
    ·exact .inl z
   ·exact .inr z
  ·rename_i hk;rw [if_neg hk];exact NP r h acc x c e
def VM {M:Model}{A:AJ}{E:Ac->Af->Prop}{s:Af}{scope:AW}{globals:Addr}{cl:List (Str×Addr)}{qual:Str}{func:Option Addr}{code:Ac}{around:Env}{builtins:Addr}{Q:Env->Af->Prop}
  (hQ:Q (newEnv scope s.heap.objs.size globals (C7 (s.heap.objs.size + 1) scope.names cl) qual func code (some around) builtins) { s with heap:=pushCells (s.heap.push { cls:=.type "dict",data:=.dict #[] }) scope.names }):
  Al M A (Of scope globals cl [] qual func code (some around) builtins) Q E s:=by
 simp only [Of,UZ,if_true];refine Ak (wpAny_alloc ?_);refine Ak (wpAny_layCells _ (λ name kind cells=>by cases hkc:kind == NameKind.cell <;> simp [hkc]) _ _ _ _ ?_);rw [show ({ s with heap:=s.heap.push { cls:=.type "dict",data:=.dict #[] } }:Af).heap.objs.size=s.heap.objs.size + 1 from Eu ..];exact Ak (A8 (A8 hQ))
def JH (X:Cx) (scope:AW) (C:Addr):List (Str×Addr):=C7 (C + 1) scope.names (CA X.env.cells scope.names [])
def Bc (X:Cx) (s2:Af) (H2:Hp) (scope:AW) (C:Addr) (N':List Str) (fp:List Addr) (pins:List (Addr×Obj)):Cx:=
 { X with N:=N',s₀:=s2,H₀:=H2,env:=compEnvC scope (JH X scope C) C X.env,outer:=X.stack,stack:=X.stack,ex:=fp,fn:=λ x=>scope.names.contains (x,NameKind.cell),pn:=X.pn++pins,xe:=λ _ _=>False }
structure CompOk (X:Cx) (scope:AW) (N':List Str) (k:Nat):Prop where
 kind:scope.kind=.function
 dis:∀ x,(x,NameKind.free)∈scope.names->(x,NameKind.cell)∉scope.names
 names:∀ x∈scope.names,x.2=.local->scope.names.lookup x.1=some .local
 len:N'.length=X.N.length + k
 free:∀ x∈scope.names,x.2=.free->X.env.kindOf x.1=some .cell\/X.env.kindOf x.1=some .free
 kinds:∀ x,(GW scope X.env).names.lookup x=some .cell\/(GW scope X.env).names.lookup x=some .free->(x,NameKind.free)∈scope.names\/(x,NameKind.cell)∈scope.names
 capt:∀ (i:Nat) (x:Str),i < X.N.length->N'[i]?=some x->Hg (GW scope X.env) x->X.N[i]?=some x/\Hg X.env.scope x/\(x,NameKind.free)∈scope.names/\(GW scope X.env).names.lookup x≠some .local
section
variable {X:Cx}{scope:AW}{N':List Str}{k:Nat}{pins:List (Addr×Obj)}{σ:St}{H2:Hp}{s2:Af}{fp:List Addr}{C:Addr}
def CompOk.cells (c:CompOk X scope N' k) (I:Inv X pins σ H2 s2):∀ x∈scope.names,x.2=.free->∃ a,X.env.cells.lookup x.1=some a:=λ x hx hf=>I.ok.has x.1 (c.free x hx hf)
def CompOk.cl (c:CompOk X scope N' k) (I:Inv X pins σ H2 s2) {x:Str}{a:Addr} (h:(JH X scope C).lookup x=some a):X.env.cells.lookup x=some a\/(C + 1<=a/\(x,NameKind.cell)∈scope.names):=
 (N8 _ _ _ x a h).imp (λ z=>FA _ x a _ [] (c.cells I) (λ z=>nomatch z) z) id
def CompOk.old (c:CompOk X scope N' k) (I:Inv X pins σ H2 s2) {x:Str}{a:Addr} (h:X.env.cells.lookup x=some a):a < s2.heap.objs.size:=by
 obtain ⟨v,o,ho,_⟩:=I.cell x a h;exact A9 ho
def CompOk.cap (c:CompOk X scope N' k) {x:Str} (h:(x,NameKind.free)∈scope.names):∃ a,(JH X scope C).lookup x=some a/\(CA X.env.cells scope.names []).lookup x=some a:=by
 obtain ⟨a,ha⟩:=N9 X.env.cells x scope.names [] h;exact ⟨a,(Lk _ _ _ x (c.dis x h)).trans ha,ha⟩
def CompOk.ok (c:CompOk X scope N' k) (I:Inv X pins σ H2 s2) (hf:∀ b∈fp,BI X pins H2 b) (hC:s2.heap.objs.size<=C) (hfp:∀ b∈fp,b < s2.heap.objs.size):(Bc X s2 H2 scope C N' fp pins).Ok where
 mod:=I.ok.mod
 kind:=c.kind
 glob:=I.ok.glob
 blt:=I.ok.blt
 above:=hC
 inj:=λ x y a h1 h2=>Pb scope.names (C + 1) _ (λ x y a h1 h2=>I.ok.inj x y a (FA _ x a _ [] (c.cells I) (λ z=>nomatch z) h1) (FA _ y a _ [] (c.cells I) (λ z=>nomatch z) h2))
  (λ x a h=>K4 (BA (c.old I (FA _ x a _ [] (c.cells I) (λ z=>nomatch z) h)) hC)) x y a h1 h2
 has:=λ x hx=>(c.kinds x hx).elim (λ z=>let ⟨a,h,_⟩:=c.cap (C:=C) z;⟨a,h⟩) λ z=>let ⟨a,h,_⟩:=M9 scope.names (C + 1) (CA X.env.cells scope.names []) x z;⟨a,h⟩
 cab:=λ x a h e=>by
  have hx:(x,NameKind.cell)∈scope.names:=by
   have h':scope.names.contains (x,NameKind.cell)=true:=h;simpa using h'
  obtain ⟨a',e',l⟩:=M9 scope.names (C + 1) (CA X.env.cells scope.names []) x hx;have e2:(C7 (C + 1) scope.names (CA X.env.cells scope.names [])).lookup x=some a:=e;rw [e'] at e2;cases e2;exact Co hC (Hd l)
 hd:=I.ok.hd
 frames:=I.ok.frames
 stk:=.inl rfl
 exf:=λ b hb=>⟨BG (BA (hfp b hb) hC),λ x a h=>(c.cl I h).elim (λ z=>(hf b hb).2.2.2.2.1 x a z) λ z=>DL (BA (hfp b hb) (Co hC (Hd z.1)))⟩
 bs:=I.bs
 bsz:=Co I.ok.bsz I.sz
 noex:=λ b o e hb=>by
  rcases (hf b hb).2.2.2.1 with z | z
  ·exact I.ok.noex b o e z
  ·exact absurd (BA (A9 e) (Co I.ok.bsz z)) (Ed _)
 exfs:=λ b hb hz=>by
  rcases ja8.mp (I.stkSub b hz) with z | z
  ·exact (hf b hb).2.1 z
  ·exact (hf b hb).2.2.1 z
 funs:=I.stack
 frf:=I.stkFree
def CompOk.inv (c:CompOk X scope N' k) (I:Inv X pins σ H2 s2) (hf:∀ b∈fp,BI X pins H2 b) (hfp:∀ b∈fp,b < s2.heap.objs.size) {H3:Hp}{h':Heap}{t':Nat}{m:Str->Option Ac}{D:Addr} (hCD:D≠C) (hD:s2.heap.objs.size<=D) (hC:s2.heap.objs.size<=C)
  (keep:∀ b o,s2.heap.get? b=some o->h'.get? b=some o) (ns:h'.Ns C m) (hH:∀ b,b≠D->H3 b=H2 b) (hok:HOk X.prog X.w H3 h') (hC3:H3 C=none) (hDC:D < C) (hcN:∀ x a,(JH X scope C).lookup x=some a->C + 1<=a->h'.IsCell a none):
  Inv (Bc X s2 H2 scope C N' fp pins) [] (σ++AH k none) H3 { s2 with heap:=h',toks:=t' } where
 ok:=c.ok I hf hC hfp
 os:=rfl
 bare:=I.bare
 base:=by
  have nD:∀ b o,s2.heap.get? b=some o->b≠D:=λ b o e=>BG (BA (A9 e) hD);refine ⟨λ b o e _ _ _=>keep b o e,λ b o e _ _ _=>⟨o.slots,keep b o e⟩,λ b o e n _=>by rw [hH b (nD b o e)];exact n,λ b o e _=>⟨o,keep b o e⟩,λ b xs e=>?_,λ b o u e=>?_,λ b ps e=>⟨#[],?_⟩⟩
  ·have e:H2 b=some (.tup xs):=e;rw [hH b (λ z=>by rw [z,I.hok.fresh hD] at e;cases e)];exact e
  ·have e:H2 b=some (.frz o u):=e;rw [hH b (λ z=>by rw [z,I.hok.fresh hD] at e;cases e)];exact e
  ·have e:H2 b=some (.tbl ps):=e;rw [hH b (λ z=>by rw [z,I.hok.fresh hD] at e;cases e)];simpa using e
 loc:=by
  refine ⟨m,ns,λ i x v e1 e2 e3=>?_⟩;have hi:i < σ.length:=by
   by_cases hi:i < σ.length
   ·exact hi
   ·rw [Hf (by omega),He] at e2;split at e2 <;> cases e2
  rw [Di hi] at e2;obtain ⟨n1,n2,n3,n4⟩:=c.capt i x (by rw [<- I.len];exact hi) e1 e3;obtain ⟨m0,ns0,hl⟩:=I.loc;obtain ⟨u,r,lk⟩:=hl i x v n1 e2 n2;refine ⟨u,r,.inr ⟨?_,?_⟩⟩
  ·rcases e3 with z | z | z
   ·exact absurd z n4
   ·exact .inl z
   ·exact .inr z
  ·obtain ⟨a,ha,hb⟩:=c.cap (C:=C) n3;have ha':=FA _ x a _ [] (c.cells I) (λ z=>nomatch z) hb;refine ⟨a,ha,?_⟩;rcases lk with ⟨hk,_⟩ | ⟨hk,a2,ha2,hc⟩
   ·rcases c.free _ n3 rfl with z | z <;> rw [hk] at z <;> cases z
   ·rw [ha'] at ha2;cases ha2;obtain ⟨o,ho,hd⟩:=hc;exact ⟨o,keep _ _ ho,hd⟩
 cell:=λ x a h=>by
  rcases c.cl I h with z | z
  ·obtain ⟨v,o,ho,hd⟩:=I.cell x a z;exact ⟨v,o,keep _ _ ho,hd⟩
  ·exact ⟨none,hcN x a h z.1⟩
 free:=hC3
 freeC:=λ x a h=>by
  rcases c.cl I h with ha | z
  ·obtain ⟨v,o,ho,hd⟩:=I.cell x a ha;rw [hH a (BG (BA (A9 ho) hD))];exact I.freeC x a ha
  ·rw [hH a (DL (BA hDC (Hd z.1)))];exact I.hok.fresh (Co hC (Hd z.1))
 pin:=λ p hp=>by
  have hp':p∈X.pn++pins:=by simpa [Bc] using hp
  obtain ⟨e,n,ne,nf,d⟩:=I.pin p hp';have hlt:=A9 e;exact ⟨keep _ _ e,by rw [hH p.1 (BG (BA hlt hD))];exact n,BG (BA hlt hC),λ z=>(ja8.mp (I.stkSub p.1 z)).elim ne nf,d⟩
 hok:=hok
 len:=by
  show (σ++AH k none).length=N'.length;rw [BR,Ib,c.len,I.len]
def Gj (X:Cx) (ifs:List Expr) (t:TT):Prop:=
 ∀ (pins:List (Addr×Obj)) (s:Af) (σ:St) (H:Hp) (Q:Bool->Hp->Prop),Inv X pins σ H s->t σ H Q ->
  Al (An X.prog X.w) X.A (forIn ifs true λ c r=>if r=true then do let ok<-isTrue c X.env (eval c X.env);pure (ForInStep.yield ok) else pure (ForInStep.yield r)) (TP X pins σ Q) X.xe s
def YD {X:Cx}:Gj X [] (λ _ H Q=>Q true H):=λ _ _ _ H _ I h=>A8 ⟨H,I,h⟩
def YE {X:Cx}{c:Expr}{t:TT} (hc:PT X c t):Gj X [c] t:=by
 intro pins s σ H Q I h;rw [ML];refine Ak ?_;rw [if_pos rfl];refine Ak (Aw (hc pins s σ H Q I h) λ b s1 q=>A8 ?_);exact A8 q
def CompOk.again (c:CompOk X scope N' k) (I:Inv X pins σ H2 s2) {σ':St}{H':Hp}{s':Af}{ps:List (Addr×Obj)} (hfp:∀ b∈fp,BI X pins H2 b) (J:Inv (Bc X s2 H2 scope C N' fp pins) ps σ' H' s'):Inv (Bc X s2 H2 scope C N' fp pins) ps (σ++AH k none) H' s' where
 ok:=J.ok
 os:=J.os
 bare:=J.bare
 base:=J.base
 loc:=by
  obtain ⟨m,ns,_⟩:=J.loc;refine ⟨m,ns,λ i x v e1 e2 e3=>?_⟩;have hi:i < σ.length:=by
   by_cases hi:i < σ.length
   ·exact hi
   ·rw [Hf (by omega),He] at e2;split at e2 <;> cases e2
  rw [Di hi] at e2;obtain ⟨n1,n2,n3,n4⟩:=c.capt i x (by rw [<- I.len];exact hi) e1 e3;obtain ⟨m0,ns0,hl⟩:=I.loc;obtain ⟨u,r,lk⟩:=hl i x v n1 e2 n2;refine ⟨u,r,.inr ⟨?_,?_⟩⟩
  ·rcases e3 with z | z | z
   ·exact absurd z n4
   ·exact .inl z
   ·exact .inr z
  ·obtain ⟨a,ha,hb⟩:=c.cap (C:=C) n3;have ha':=FA _ x a _ [] (c.cells I) (λ z=>nomatch z) hb;refine ⟨a,ha,?_⟩;rcases lk with ⟨hk,_⟩ | ⟨hk,a2,ha2,hc⟩
   ·rcases c.free _ n3 rfl with z | z <;> rw [hk] at z <;> cases z
   ·rw [ha'] at ha2;cases ha2;obtain ⟨o,ho,hd⟩:=hc;obtain ⟨sl,ho'⟩:=J.base.any (b:=a) (ob:=o) ho (I.freeC x a ha') λ z=>(hfp a z).2.2.2.2.1 x a ha' rfl;exact ⟨_,ho',hd⟩
 cell:=J.cell
 free:=J.free
 freeC:=J.freeC
 pin:=J.pin
 hok:=J.hok
 len:=by
  show (σ++AH k none).length=N'.length;rw [BR,Ib,c.len,I.len]
theorem V2 {prog:A0}{w:Ay}{A:AJ}{R:Result->Af->Prop}{s:Af}{elt target iter:Expr}{ifs:List Expr}{scope:AW}{pos:Pos}{it acc:Ac}{env:Env} (I:Nat->Af->Prop)
  (turn:∀ n s,I n s->Al (An prog w) A (pyNext it) (λ r s₁=>match r with
   | none=>R (.ok .next) s₁
   | some v=>Al (An prog w) A (LI target it v) (λ _ s₁'=>Al (An prog w) A (FF target env v) (λ _ s₂=>
     Al (An prog w) A (forIn ifs true λ c r=>if r=true then do let ok<-isTrue c env (eval c env);pure (ForInStep.yield ok) else pure (ForInStep.yield r)) (λ ok s₃=>
      if ok=true then Al (An prog w) A (eval elt env) (λ x s₄=>
       Al (An prog w) A (call (.builtin "list.append") [acc,x]) (λ _ s₅=>∃ m,m < n/\I m s₅) (λ _ _=>False) s₄) (λ _ _=>False) s₃
      else ∃ m,m < n/\I m s₃) (λ _ _=>False) s₂) (λ _ _=>False) s₁') (λ _ _=>False) s₁) (λ _ _=>False) s)
  (n:Nat) (h:I n s):
  GV (An prog w) A (.compLoop (.ListComp elt [⟨target,iter,ifs,0⟩] scope pos) 0 it acc env) R s:=by
 refine codeAny_loop rfl I (λ n s hI=>?_) n h;show Al _ A ((compTurn (.ListComp elt [⟨target,iter,ifs,0⟩] scope pos) 0 it acc env).onRaise (λ x=>do noteFrame x env;theTreesLotGoes x)) _ _ s;refine wpAny_noted ?_;rw [compTurn_list];refine Ak (LF (Ak (Et (turn n s hI) (λ r s₁ h₁=>?_) λ _ _ h'=>h'.elim)));cases r with
 | none=>exact A8 h₁
 | some v=>
  refine Ak (Et h₁ (λ _ s₁' h₁'=>?_) λ _ _ h'=>h'.elim);refine Ak (Et h₁' (λ _ s₂ h₂=>Ak (Et h₂ (λ ok s₃ h₃=>?_) λ _ _ h'=>h'.elim)) λ _ _ h'=>h'.elim);cases ok with
  | false=>exact A8 ⟨rfl,h₃⟩
  | true=>
   exact Ak (Ak (Et h₃ (λ x s₄ h₄=>Ak (Et h₄ (λ _ s₅ h₅=>A8 (A8 ⟨rfl,h₅⟩)) λ _ _ h'=>h'.elim)) λ _ _ h'=>h'.elim))
def R7 {elt iter tg:Expr}{ifs:List Expr}{pos:Pos}{J:It}{it:Addr}{tn:Nat->Heap->Prop}{g:TG}{tc:TT}{te:TE}{RR:Ac->Addr->Result->Af->Prop}{Q:VK}{E:Ac->Af->Prop}
  (c:CompOk X scope N' k) (hcalm:X.calm=true) (I:Inv X pins σ H2 s2) (T:Turn X.prog X.w X.K tg J fp it tn) (st:tn 0 s2.heap) (hf:∀ b∈fp,BI X pins H2 b)
  (hg:∀ C fp,PG (Bc X s2 H2 scope C N' fp pins) tg g) (hc:∀ C fp,Gj (Bc X s2 H2 scope C N' fp pins) ifs tc) (he:∀ C fp,PE (Bc X s2 H2 scope C N' fp pins) elt te)
  (h:∀ D,H2 D=none->∃ W:Nat->Nat->List V->Hp->Prop,(∃ m,W 0 m [] (Am H2 D (.lst [])))/\∀ i m ys H,W i m ys H->H D=some (.lst ys) /\
   ((J.stop i H/\Q (.ref D) H)\/(J.go i H/\∀ x H',J.yld i H x H'->g x (σ++AH k none) H' λ σ2 H2=>tc σ2 H2 λ b H3=>if b=true then te σ2 H3 λ y H4=>H4 D=some (.lst ys)/\ys.length < Ap/\∃ m',m' < m/\W (i + 1) m' (ys++[y]) (Am H4 D (.lst (ys++[y]))) else ∃ m',m' < m/\W (i + 1) m' ys H3)))
  (hRR:∀ D C σ' H' s',s2.heap.objs.size<=C->Inv (Bc X s2 H2 scope C N' fp pins) [] σ' H' s'->Q (.ref D) H'->RR (.ref D) C (.ok .next) s')
  :
  Al (An X.prog X.w) X.A (newList []) (λ acc s₃=>Al (An X.prog X.w) X.A (Of scope X.env.globals (CA X.env.cells scope.names []) [] X.env.qual none .none (some X.env)) (λ cenv s₄=>
   GV (An X.prog X.w) X.A (.compStart (.ListComp elt [⟨tg,iter,ifs,0⟩] scope pos) 0 (.ref it) acc { cenv with scope:=GW scope X.env }) (RR acc cenv.locals) s₄) E s₃) E s2:=by
 refine HC (VM ?_);dsimp only;generalize hH2:s2.heap.push { cls:=.type "list",dict:=none,data:=.seq ([]:List Ac).toArray }=HP;obtain ⟨h₁,hh₁⟩:∃ h₁,h₁=pushCells (HP.push { cls:=.type "dict",data:=.dict #[] }) scope.names:=⟨_,rfl⟩
 rw [<- hh₁];have kk:∀ b o,HP.get? b=some o->h₁.get? b=some o:=λ b o e=>by rw [hh₁];exact Ol _ _ b o (AX _ e)
 have hns₁:h₁.Ns HP.objs.size (λ _=>none):=by rw [hh₁];exact (Heap.Ns.new HP (.type "dict")).keeps (Ol _ _)
 have hC:HP.objs.size=s2.heap.objs.size + 1:=by rw [<- hH2,Eu]
 have hDC:s2.heap.objs.size≠HP.objs.size:=by rw [hC];exact BG (FY _)
 have hCle:s2.heap.objs.size<=HP.objs.size:=by rw [hC];exact FR _
 have hfp:∀ b∈fp,b < s2.heap.objs.size:=λ b hb=>by
  obtain ⟨o,e,_⟩:=T.obj 0 _ st b hb;exact A9 e
 have En:∀ b,b < s2.heap.objs.size->b≠HP.objs.size:=λ b hb=>by rw [hC];exact BG (K4 hb)
 have old:∀ b o,s2.heap.get? b=some o->h₁.get? b=some o:=λ b o e=>kk b o (hH2 ▸ AX _ e);have hacc:h₁.get? s2.heap.objs.size=some { cls:=.type "list",dict:=none,data:=.seq ([]:List Ac).toArray }:=kk _ _ (hH2 ▸ BV _ rfl);have fD:H2 s2.heap.objs.size=none:=I.hok.fresh (AE _);obtain ⟨W,⟨m0,w0⟩,hW⟩:=h _ fD;have hok3:HOk X.prog X.w (Am H2 s2.heap.objs.size (.lst [])) h₁:=I.hok.laid old (AE _) ⟨D4 _,[],0,.nil,hacc⟩;have st1:tn 0 h₁:=T.keep _ _ _ st λ b hb o e=>old b o e;have I3:Inv (Bc X s2 H2 scope HP.objs.size N' fp pins) [] (σ++AH k none) (Am H2 s2.heap.objs.size (.lst [])) { s2 with heap:=h₁ }:=
  c.inv I hf hfp (t':=s2.toks) hDC (AE _) hCle old hns₁ (λ b hb=>A3 hb) hok3 (by rw [A3 (Br hDC)];exact I.hok.fresh hCle) (by rw [hC];exact FY _) (λ x a h l=>by
   have hs:(HP.push { cls:=.type "dict",data:=.dict #[] }).objs.size=HP.objs.size + 1:=Eu ..;have h':(C7 (HP.push { cls:=.type "dict",data:=.dict #[] }).objs.size scope.names (CA X.env.cells scope.names [])).lookup x=some a:=by rw [hs];exact h
   rcases NP scope.names _ _ x a h' with z | z
   ·exact absurd (BA (c.old I (FA _ x a _ [] (c.cells I) (λ z=>nomatch z) z)) (Co hCle (Hd l))) (Ed _)
   ·rw [hh₁];exact z)
 have fx:∀ {H':Hp},(∀ b∈fp,H' b=none)->∀ b∈fp,BI (Bc X s2 H2 scope HP.objs.size N' fp pins) [] H' b:=λ hn b hb=>by
  obtain ⟨f0,f1,f2,f3,f4,f5⟩:=hf b hb;refine ⟨hn b hb,BG (BA (hfp b hb) hCle),λ hz=>?_,.inl hb,λ x a h=>(c.cl I h).elim (λ z=>f4 x a z) λ z=>DL (BA (hfp b hb) (Co hCle (Hd z.1))),λ p hp=>f5 p (by simpa [Bc] using hp)⟩;rcases ja8.mp (I.stkSub b hz) with z | z
  ·exact f1 z
  ·exact f2 z
 have f0:∀ b∈fp,(Am H2 s2.heap.objs.size (.lst [])) b=none:=λ b hb=>by rw [A3 (BG (hfp b hb))];exact (hf b hb).1
 have loop:∀ s₃:Af,s₃={ s2 with heap:=h₁ } ->
   GV (An X.prog X.w) X.A (.compLoop (.ListComp elt [⟨tg,iter,ifs,0⟩] scope pos) 0 (.ref it) (.ref s2.heap.objs.size) (compEnvC scope (JH X scope HP.objs.size) HP.objs.size X.env))
    (RR (.ref s2.heap.objs.size) HP.objs.size) s₃:=by
  rintro s₃ rfl;refine V2 (λ n s'=>∃ i H' ys,Inv (Bc X s2 H2 scope HP.objs.size N' fp pins) [] (σ++AH k none) H' s'/\tn i s'.heap/\(∀ b∈fp,H' b=none)/\W i n ys H') ?_ m0 ⟨0,_,[],I3,st1,f0,w0⟩;rintro n s4 ⟨i,H4,ys,I4,st4,fr4,w4⟩;obtain ⟨hD4,hcase⟩:=hW i n ys H4 w4;rcases hcase with ⟨stop,qn⟩ | ⟨go,step⟩
  ·refine Aw (T.done (Bc X s2 H2 scope HP.objs.size N' fp pins) rfl rfl rfl hcalm i [] s4 _ H4 (λ _ _=>False) I4 (fx fr4) st4 stop) λ r s5 ⟨hr,I5⟩=>?_;subst hr;exact hRR _ _ _ _ _ hCle I5 qn
  ·refine Aw (T.item (Bc X s2 H2 scope HP.objs.size N' fp pins) rfl rfl rfl hcalm i [] s4 _ H4 (λ _ _=>False) I4 (fx fr4) st4 go) λ r s5 ⟨u,hr,h5⟩=>?_;subst hr;refine Aw h5 λ _ s6 ⟨x,H6,I6,r6,y6,st6,fr6⟩=>?_;have I6':=I6.pinned (fx fr6) (T.obj _ _ st6);have stays:∀ {σ':St}{H':Hp}{s':Af},Inv (Bc X s2 H2 scope HP.objs.size N' fp pins) ([]++J9 fp s6.heap) σ' H' s'->Inv (Bc X s2 H2 scope HP.objs.size N' fp pins) [] (σ++AH k none) H' s'/\tn (i + 1) s'.heap/\∀ b∈fp,H' b=none:=λ {σ' H' s'} J=>by
    refine ⟨c.again I hf J.unpinned,T.keep _ _ _ st6 λ b hb o e=>(J.pin (b,o) (AL _ (AL _ (Li hb e)))).1,λ b hb=>?_⟩;obtain ⟨o,e,d⟩:=T.obj _ _ st6 b hb;exact (J.pin (b,o) (AL _ (AL _ (Li hb e)))).2.1
   refine Aw (hg _ _ _ s6 _ H6 x u _ I6' r6 (step x H6 y6)) λ _ s7 ⟨σ7,H7,I7,q7⟩=>?_;refine Aw (hc _ _ _ s7 σ7 H7 _ I7 q7) λ b s8 ⟨H8,I8,q8⟩=>?_;cases b with
   | false=>
    rw [if_neg C8] at q8 ⊢;obtain ⟨m',hm,w'⟩:=q8;obtain ⟨j1,j2,j3⟩:=stays I8;exact ⟨m',hm,i + 1,H8,ys,j1,j2,j3,w'⟩
   | true=>
    rw [if_pos rfl] at q8 ⊢;refine Aw (he _ _ _ s8 σ7 H8 _ I8 q8) λ y s9 ⟨z,H9,I9,r9,hD9,hz9,m',hm,w'⟩=>?_;refine Aw (R5 (X:=Bc X s2 H2 scope HP.objs.size N' fp pins) _ s9 σ7 H9 (.ref s2.heap.objs.size) [z] (.ref s2.heap.objs.size) [y] (λ _ H'=>H'=Am H9 s2.heap.objs.size (.lst (ys++[z]))) I9 rfl (.cons r9 .nil) ⟨_,ys,z,rfl,rfl,hD9,hz9,rfl⟩) λ _ s10 ⟨_,H10,I10,_,e10⟩=>?_;subst e10;obtain ⟨j1,j2,j3⟩:=stays I10;exact ⟨m',hm,i + 1,_,_,j1,j2,j3,w'⟩
 exact codeAny_compStart_list (loop _ rfl) (T.self _ 0 _ _ _ st1 (loop _ rfl))
def CompOk.out (I:Inv X pins σ H2 s2) (hf:∀ b∈fp,BI X pins H2 b) {σ':St}{H':Hp}{s':Af} (J:Inv (Bc X s2 H2 scope C N' fp pins) [] σ' H' s'):Inv X pins σ H' s':=
 I.call' (ch:=fp) J.os J.base J.hok J.bare λ b hb=>⟨(hf b hb).2.2.2.1,(hf b hb).2.1,(hf b hb).2.2.2.2.1,(hf b hb).2.2.2.2.2⟩
def CompOk.away (I:Inv X pins σ H2 s2) (hC:s2.heap.objs.size<=C) {σ':St}{H':Hp}{s':Af} (J:Inv X pins σ' H' s') (hC':H' C=none) {h':Heap} (sb:JO C s'.heap h'):Inv X pins σ' H' { s' with heap:=h' }:=by
 have lt:∀ b o,s2.heap.get? b=some o->b≠C:=λ b o e=>BG (BA (A9 e) hC);refine J.turned (t':=s'.toks) (it:=C) (λ b o hb e=>(sb.2 b hb).trans e) hC' (DL (BA I.lt hC)) (.inr (Co I.sz hC)) (λ x c h=>?_) λ p hp=>?_
 ·obtain ⟨v,o,ho,_⟩:=I.cell x c h;exact lt c o ho
 ·exact lt p.1 p.2 (I.pin p hp).1
variable {elt iter tg:Expr}{ifs:List Expr}{pos:Pos}{wi:TI}{g:TG}{tc:TT}{te:TE}
def TU (c:CompOk X scope N' k) (hcalm:X.calm=true) (hi:PI X tg iter wi) (hg:∀ s2 H2 C fp pins,PG (Bc X s2 H2 scope C N' fp pins) tg g) (hc:∀ s2 H2 C fp pins,Gj (Bc X s2 H2 scope C N' fp pins) ifs tc)
  (he:∀ s2 H2 C fp pins,PE (Bc X s2 H2 scope C N' fp pins) elt te) (hs:∀ x,LL iter X.env x=pure x):PE X (.ListComp elt [⟨tg,iter,ifs,0⟩] scope pos) (Hr k wi g tc te):=by
 intro pins s σ H Q I h;rw [eval_ListComp];refine wpAny_comprehension_free (use:=none) rfl hs (Qr (c.cells I)) c.kind c.names ?_;refine Aw (hi pins s σ H _ I h) λ v s1 h1=>Aw h1 λ itv s2 h2=>?_;obtain ⟨it,fp,tn,J,H',e,I2,T,st2,f2,W⟩:=h2;subst e;refine R7 (RR:=λ acc C=>compPost (An X.prog X.w) X.A X.xe none (EP X pins σ Q) acc C) c hcalm I2 T st2 f2 (λ C fp=>hg s2 H' C fp pins) (λ C fp=>hc s2 H' C fp pins) (λ C fp=>he s2 H' C fp pins) W λ D C σ' H3 s' hC J3 q=>?_;obtain ⟨m,ns,_⟩:=J3.loc;exact ⟨m,ns,λ h' sb=>⟨.ref D,H3,CompOk.away I2 hC (CompOk.out I2 f2 J3) J3.free sb,rfl,q⟩⟩
theorem xT {i:Nat}{x:Str}{pos' spos:Pos} (hN:X.N.Nodup) (hi':X.N[i]?=some x) (hx:EF X.env.scope x) (hfn:X.fn x=true\/X.env.scope.names.lookup x=some .local) (c:CompOk X scope N' k) (hcalm:X.calm=true) (hi:PI X tg iter wi) (hg:∀ s2 H2 C fp pins,PG (Bc X s2 H2 scope C N' fp pins) tg g) (hc:∀ s2 H2 C fp pins,Gj (Bc X s2 H2 scope C N' fp pins) ifs tc)
  (he:∀ s2 H2 C fp pins,PE (Bc X s2 H2 scope C N' fp pins) elt te) (hs:∀ x,LL iter X.env x=pure x):PS X (.Assign [.Name x pos'] (.ListComp elt [⟨tg,iter,ifs,0⟩] scope pos) spos) (CK (Hr k wi g tc te) (ET i)):=by
 have hsw:∃ b,swapsWith (.ListComp elt [⟨tg,iter,ifs,0⟩] scope pos) (some (.Name x pos')) spos.line X.env=pure b:=⟨_,rfl⟩
 obtain ⟨b,hsw⟩:=hsw;cases b with
 | false=>exact SN hN hi' hx (TU c hcalm hi hg hc he hs) hsw hfn
 | true=>
  intro pins s σ H D I h;rw [exec_Assign_Name_used _ _ _ _ hsw];refine Ak (LF (Ak ?_));show Al _ X.A (do let _<-comprehension (.ListComp elt [⟨tg,iter,ifs,0⟩] scope pos) scope X.env _ (newList []) false (eval iter X.env) (some (FF (.Name x pos') X.env))) _ _ s;refine Ak (Et (wpAny_comprehension_free (use:=some (FF (.Name x pos') X.env)) (Q:=λ _ s'=>SP X pins D .next s') rfl hs (Qr (c.cells I)) c.kind c.names ?_) (λ _ s' hq=>A8 (A8 hq)) λ _ _ e=>e);refine Aw (hi pins s σ H _ I h) λ v s1 h1=>Aw h1 λ itv s2 h2=>?_;obtain ⟨it,fp,tn,J,H',e,I2,T,st2,f2,W⟩:=h2;subst e;refine R7 (Q:=λ x H1=>ET i x σ H1 D.nx) (RR:=λ acc C=>compPost (An X.prog X.w) X.A X.xe (some (FF (.Name x pos') X.env)) (λ _ s'=>SP X pins D .next s') acc C) c hcalm I2 T st2 f2 (λ C fp=>hg s2 H' C fp pins) (λ C fp=>hc s2 H' C fp pins) (λ C fp=>he s2 H' C fp pins) W λ E C σ' H3 s' hC J3 q=>?_;obtain ⟨m,ns,_⟩:=J3.loc;have I3:=CompOk.out I2 f2 J3;show Al _ X.A (FF (.Name x pos') X.env (.ref E)) _ _ _;refine wpAny_assign_Name (Qz I3 hN hi' hx (v:=.ref E) rfl (λ s'' I4 hsb=>?_) hfn);obtain ⟨a,sb,ha⟩:=hsb;have hCa:C≠a:=by
   rcases ha with z | z
   ·rw [z];exact DL (BA I2.lt hC)
   ·obtain ⟨v,o,ho,_⟩:=I2.cell x a z;exact DL (BA (A9 ho) hC)
  exact ⟨m,ns.sameBut sb hCa,λ h' sb'=>⟨_,H3,CompOk.away I2 hC I4 J3.free sb',q⟩⟩
def qN {P:A0}{w:Ay}{K:Frag}{tg:Expr} (z:Str) (tk:Tok) (it:Addr):Turn P w K tg (Vy z) [it] it (λ i h=>h.IsStrIter it "str_ascii_iterator" z tk i) where
 mem:=by simp
 obj:=λ i h st b hb=>by
  have e:b=it:=by simpa using hb
  subst e;obtain ⟨o,e,c,d⟩:=st;exact ⟨o,e,λ v z=>by rw [d] at z;cases z⟩
 keep:=λ i h h' st k=>by
  obtain ⟨o,e,r⟩:=st;exact ⟨o,k it (by simp) o e,r⟩
 item:=by
  intro X hP hw hK hc i pins s σ H E I hf st hg;subst hP hw hK;have hi:i < z.cps.size:=hg;obtain ⟨f0,f1,f2,f3,f4,f5⟩:=hf it (by simp);refine wpAny_pyNext_ascii_item st (c:=z.cps[i]) (by simp [hi]) λ h' st' sb=>?_;have I1:Inv X pins σ H { s with heap:=h',toks:=s.toks + 1 }:=I.turned (t':=s.toks + 1) (λ b o hb e=>(sb.2 b hb).trans e) f0 f1 f3 f4 f5;obtain ⟨o,e,c,d⟩:=id st';exact ⟨_,rfl,Km (s:={ s with heap:=h',toks:=s.toks + 1 }) e c d (by decide) ⟨.str ⟨#[z.cps[i]]⟩,H,I1,⟨_,rfl⟩,⟨rfl,z.cps[i],by simp [hi],rfl⟩,st',λ b hb=>(hf b hb).1⟩⟩
 done:=by
  intro X hP hw hK hc i pins s σ H E I hf st hg;subst hP hw hK;have hi:z.cps.size<=i:=hg;obtain ⟨f0,f1,f2,f3,f4,f5⟩:=hf it (by simp);exact wpAny_pyNext_ascii_end (I.ok.hd hc) st (by simp;omega) λ h' eb=>⟨rfl,I.turned (t':=s.toks) (λ b o hb e=>eb b o hb e) f0 f1 f3 f4 f5⟩
 self:=λ _ _ _ _ _ st h=>wpAny_pyIter_striter_ascii st h
def WZ {l:Expr}{tl:TE} (hl:PE X l tl):PI X tg l (E7 X.K tl):=by
 intro pins s σ H R I h;refine Aw (hl pins s σ H _ I h) λ v s1 ⟨x,H1,I1,r1,q1⟩=>?_;obtain ⟨a,e,⟨⟨xs,hq⟩,q⟩ | ⟨⟨xs,hq⟩,q⟩⟩ | ⟨z,e,ha,q⟩:=q1
 ·subst e;cases r1;obtain ⟨its,rv,p,hz⟩:=I1.list hq;refine wpAny_pyIter_list p.isList ?_;refine ⟨s1.heap.objs.size,[s1.heap.objs.size],_,_,H1,rfl,I1.kept (t':=s1.toks) λ b o e=>AX _ e,x6 a _,⟨_,BV _ rfl,rfl,rfl⟩,λ b hb=>?_,q⟩;have e:b=s1.heap.objs.size:=by simpa using hb
  subst e;exact I1.fpOk (AE _) (I1.hok.fresh (AE _))
 ·subst e;cases r1;obtain ⟨its,rv,p,hz⟩:=I1.tuple hq;refine LM (show s1.heap.IsTuple a its.toArray from p) ?_;refine ⟨s1.heap.objs.size,[s1.heap.objs.size],_,_,H1,rfl,I1.kept (t':=s1.toks) λ b o e=>AX _ e,xO a _,⟨_,BV _ rfl,rfl,rfl⟩,λ b hb=>?_,q⟩;have e:b=s1.heap.objs.size:=by simpa using hb
  subst e;exact I1.fpOk (AE _) (I1.hok.fresh (AE _))
 ·subst e;obtain ⟨tk,rfl⟩:=r1;refine wpAny_pyIter_ascii ha ?_;refine ⟨s1.heap.objs.size,[s1.heap.objs.size],_,_,H1,rfl,I1.kept (t':=s1.toks) λ b o e=>AX _ e,qN z tk _,⟨_,BV _ rfl,rfl,rfl⟩,λ b hb=>?_,q⟩;have e:b=s1.heap.objs.size:=by simpa using hb
  subst e;exact I1.fpOk (AE _) (I1.hok.fresh (AE _))
end
end QQ
namespace L2
open PySem PySem.Spec PyProof.Rows
section
variable {κ:Type} [DecidableEq κ]
def Cc (kvs:List (κ×V)) (k:κ):Option V:=(kvs.find? λ kv=>decide (kv.1=k)).map (·.2)
def BF (kvs:List (κ×V)) (k:κ) (v:V):List (κ×V):=
 if (kvs.any λ kv=>decide (kv.1=k))=true then kvs.map (λ kv=>if kv.1=k then (kv.1,v) else kv) else kvs++[(k,v)]
def Oa {p:κ×V}{r:List (κ×V)}{k:κ} (e:p.1=k):Cc (p::r) k=some p.2:=by simp [Cc,Jf,e]
def NZ {p:κ×V}{r:List (κ×V)}{k:κ} (e:¬ p.1=k):Cc (p::r) k=Cc r k:=by simp [Cc,Jf,e]
theorem Rj (k:κ):∀ kvs:List (κ×V),(kvs.any λ kv=>decide (kv.1=k))=(Cc kvs k).isSome
 | []=>rfl
 | p::r=>by
  rw [MI];by_cases e:p.1=k
  ·simp only [Oa e,decide_eq_true e,Bool.true_or,UZ]
  ·rw [NZ e,decide_eq_false e,P8];exact Rj k r
def Qp (kvs:List (κ×V)) (k:κ) (v:V):(BF kvs k v).length<=kvs.length + 1:=by
 unfold BF;split
 ·rw [AF];omega
 ·rw [BR,Cf,K2];omega
theorem RelO.isSome_eq {o:Option V}{u:Option Ac} (r:RelO o u):o.isSome=u.isSome:=by
 cases o with
 | none=>cases u with
  | none=>rfl
  | some _=>exact (show False from r).elim
 | some _=>cases u with
  | none=>exact (show False from r).elim
  | some _=>rfl
theorem KV.val {kvs:List (κ×V)}{vs:List (κ×Ac)} (r:KV kvs vs) (k:κ):RelO (Cc kvs k) (valueAt vs k):=by
 unfold KV at r;induction r with
 | nil=>exact True.intro
 | @cons p q ps qs h t ih=>
  obtain ⟨h1,h2⟩:=h;by_cases e:p.1=k
  ·have e':q.1=k:=h1.symm.trans e;have b:valueAt (q::qs) k=some q.2:=by simp [valueAt,Jf,e']
   rw [Oa e,b];exact h2
  ·have e':¬ q.1=k:=λ z=>e (h1.trans z);have b:valueAt (q::qs) k=valueAt qs k:=by simp [valueAt,Jf,e']
   rw [NZ e,b];exact ih
theorem KV.any {kvs:List (κ×V)}{vs:List (κ×Ac)} (r:KV kvs vs) (k:κ):(kvs.any λ kv=>decide (kv.1=k))=vs.any λ kv=>decide (kv.1=k):=by
 unfold KV at r;induction r with
 | nil=>rfl
 | cons h t ih=>rw [MI,MI,ih,h.1]
theorem KV.repl {kvs:List (κ×V)}{vs:List (κ×Ac)} (r:KV kvs vs) (k:κ) {y:V}{u:Ac} (ry:RelV y u):
  KV (kvs.map λ kv=>if kv.1=k then (kv.1,y) else kv) (vs.map λ kv=>if kv.1=k then (kv.1,u) else kv):=by
 unfold KV at r ⊢;induction r with
 | nil=>exact .nil
 | @cons p q ps qs h t ih=>
  rw [BH,BH];refine .cons ?_ ih;obtain ⟨h1,h2⟩:=h;by_cases e:p.1=k
  ·rw [if_pos e,if_pos (h1.symm.trans e)];exact ⟨h1,ry⟩
  ·rw [if_neg e,if_neg (λ z=>e (h1.trans z))];exact ⟨h1,h2⟩
def KV.put {kvs:List (κ×V)}{vs:List (κ×Ac)} (r:KV kvs vs) (k:κ) {y:V}{u:Ac} (ry:RelV y u):KV (BF kvs k y) (stored vs k u):=by
 unfold BF stored;rw [r.any k];by_cases e:(vs.any λ kv=>decide (kv.1=k))=true
 ·rw [if_pos e,if_pos e];exact r.repl k ry
 ·rw [if_neg e,if_neg e];exact Paired.snoc r ⟨rfl,ry⟩
def KV.length {kvs:List (κ×V)}{vs:List (κ×Ac)} (r:KV kvs vs):kvs.length=vs.length:=Paired.length r
end
theorem Mz {P:A0}{w:Ay}{k:AG}{u:Ac} (r:RelV (kV k) u):(CU P w).is k u=true:=by
 cases k with
 | inl i=>obtain ⟨t,e⟩:=(show ∃ t,u=Value.int i t from r);subst e;exact VC P w i t
 | inr x=>obtain ⟨t,e⟩:=(show ∃ t,u=Value.str x t from r);subst e;exact VD P w x t
theorem Ry {P:A0}{w:Ay}:∀ {ks:List AG}{us:List Ac},Vals (ks.map kV) us->ItemsAre (CU P w) ks us
 | [],_,r=>by rw [FT] at r;cases r;exact .nil
 | k::ks,_,r=>by
  rw [BH] at r;cases r with
  | cons h t=>exact .cons (Mz h) (Ry t)
abbrev KT (H:Hp):List (List AG×V)->List (List AG×Addr×Ac)->Prop:=Paired λ p q=>p.1=q.1/\H q.2.1=some (.tup (p.1.map kV))/\RelV p.2 q.2.2
theorem KT.val {H:Hp}{kvs:List (List AG×V)}{xs:List (List AG×Addr×Ac)} (r:KT H kvs xs) (k:List AG):RelO (Cc kvs k) ((atKey xs k).map (·.2)):=by
 induction r with
 | nil=>exact True.intro
 | @cons p q ps qs h t ih=>
  obtain ⟨h1,_,h2⟩:=h;by_cases e:p.1=k
  ·have e':q.1=k:=h1.symm.trans e;have b:atKey (q::qs) k=some q.2:=by simp [atKey,Jf,e']
   rw [Oa e,b];exact h2
  ·have e':¬ q.1=k:=λ z=>e (h1.trans z);have b:atKey (q::qs) k=atKey qs k:=by simp [atKey,Jf,e']
   rw [NZ e,b];exact ih
theorem KT.repl {H:Hp}{kvs:List (List AG×V)}{xs:List (List AG×Addr×Ac)} (r:KT H kvs xs) (k:List AG) {y:V}{u:Ac} (ry:RelV y u):
  KT H (kvs.map λ kv=>if kv.1=k then (kv.1,y) else kv) (xs.map (putAt k u)):=by
 induction r with
 | nil=>exact .nil
 | @cons p q ps qs h t ih=>
  rw [BH,BH];refine .cons ?_ ih;obtain ⟨h1,h2,h3⟩:=h;unfold putAt;by_cases e:p.1=k
  ·rw [if_pos e,if_pos (h1.symm.trans e)];exact ⟨h1,h2,ry⟩
  ·rw [if_neg e,if_neg (λ z=>e (h1.trans z))];exact ⟨h1,h2,h3⟩
def KT.put {H:Hp}{kvs:List (List AG×V)}{xs:List (List AG×Addr×Ac)} (r:KT H kvs xs) (k:List AG) {b:Addr}{y:V}{u:Ac} (hb:H b=some (.tup (k.map kV))) (ry:RelV y u):
  KT H (BF kvs k y) (storedH xs k b u):=by
 have e:(kvs.any λ kv=>decide (kv.1=k))=(atKey xs k).isSome:=by
  rw [Rj,(r.val k).isSome_eq,PH]
 unfold BF storedH;rw [e];by_cases q:(atKey xs k).isSome=true
 ·rw [if_pos q,if_pos q];exact r.repl k ry
 ·rw [if_neg q,if_neg q];exact Paired.snoc r ⟨rfl,hb,ry⟩
def KT.keeps {H H':Hp}{kvs:List (List AG×V)}{xs:List (List AG×Addr×Ac)} (r:KT H kvs xs) (ht:∀ b ys,H b=some (.tup ys)->H' b=some (.tup ys)):KT H' kvs xs:=
 Paired.mapP r λ _ _ z=>⟨z.1,ht _ _ z.2.1,z.2.2⟩
section
variable {P:A0}{w:Ay}{H:Hp}{h:Heap}{a:Addr}
def Sl {u:HO} (ok:HOk P w H h) (e:Rd H a u):zxv P w H h a u:=e.ok ok
def OR {kvs:List (AG×V)} (ok:HOk P w H h) (e:Rd H a (.dK kvs)):kvs.length<=Ap/\(a == EW)=false/\∃ vs,KV kvs vs/\h.DictOf (CU P w) a vs:=
 show zxv P w H h a (.dK kvs) from Sl ok e
def IV {kvs:List (AG×V)} (ok:HOk P w H h) (e:H a=some (.dK kvs)):kvs.length<=Ap/\(a == EW)=false/\∃ vs,KV kvs vs/\h.DictOf (CU P w) a vs:=OR ok (.inl e)
def ME {ks:List AG} (ok:HOk P w H h) (e:H a=some (.tup (ks.map kV))):(JN (CU P w)).is h ks a:=by
 obtain ⟨_,its,r,o,h1,h2,n,h3⟩:=(show zxv P w H h a (.tup (ks.map kV)) from ok a _ e)
 exact ⟨o,its.toArray,n,h1,h2,h3,by simpa using Ry r⟩
def OS {kvs:List (List AG×V)} (ok:HOk P w H h) (e:Rd H a (.dT kvs)):kvs.length<=Ap/\(a == EW)=false /\
  ∃ xs,KT H kvs xs/\h.DictOfH (JN (CU P w)) a xs:=by
 obtain ⟨z,y,xs,r,o,es,ep,h1,h2,h3,h4,h5⟩:=(show zxv P w H h a (.dT kvs) from Sl ok e)
 refine ⟨z,y,xs,r,o,es,ep,h1,h2,h3,h4,λ x hx=>?_,h5⟩;have all:∀ {l:List (List AG×V)}{m:List (List AG×Addr×Ac)},KT H l m->∀ x∈m,(JN (CU P w)).is h x.1 x.2.1:=by
  intro l m q;induction q with
  | nil=>intro x hx;exact nomatch hx
  | @cons p q ps qs hq t ih=>
   intro x hx;rcases ja8.mp hx with e | hx
   ·subst e;exact ME ok (by rw [<- hq.1];exact hq.2.1)
   ·exact ih x hx
 exact all r x hx
def VT {kvs:List (List AG×V)} (ok:HOk P w H h) (e:H a=some (.dT kvs)):kvs.length<=Ap/\(a == EW)=false /\
  ∃ xs,KT H kvs xs/\h.DictOfH (JN (CU P w)) a xs:=OS ok (.inl e)
end
def DGet (H:Hp) (a:Addr) (y:V) (r:Option V):Prop:=
 (∃ kvs k,Rd H a (.dK kvs)/\y=kV k/\r=Cc kvs k)\/∃ kvs k b,Rd H a (.dT kvs)/\y=.ref b/\H b=some (.tup (k.map kV))/\r=Cc kvs k
def DPut (H:Hp) (a:Addr) (y v:V) (H':Hp):Prop:=
 (∃ kvs k,H a=some (.dK kvs)/\y=kV k/\kvs.length < Ap/\H'=Am H a (.dK (BF kvs k v))) \/
 ∃ kvs k b,H a=some (.dT kvs)/\y=.ref b/\H b=some (.tup (k.map kV))/\kvs.length < Ap/\H'=Am H a (.dT (BF kvs k v))
def DGet.t {H:Hp}{a b:Addr}{kvs:List (List AG×V)}{k:List AG} (e:H a=some (.dT kvs)) (eb:H b=some (.tup (k.map kV))):DGet H a (.ref b) (Cc kvs k):=.inr ⟨kvs,k,b,.inl e,rfl,eb,rfl⟩
def DPut.t {H:Hp}{a b:Addr}{kvs:List (List AG×V)}{k:List AG}{v:V} (e:H a=some (.dT kvs)) (eb:H b=some (.tup (k.map kV))) (hl:kvs.length < Ap):
  DPut H a (.ref b) v (Am H a (.dT (BF kvs k v))):=.inr ⟨kvs,k,b,e,rfl,eb,hl,rfl⟩
section
variable {X:Cx}{pins:List (Addr×Obj)}{σ:St}{H:Hp}{s:Af}{a:Addr}{y v:V}{u r:Ac}{o:Option V}{A:AJ}{E:Ac->Af->Prop}
def Inv.big (I:Inv X pins σ H s):EW < s.heap.objs.size:=by
 have h:Dv < s.heap.objs.size:=(I.mod.glob.keeps I.bk).lt;exact U6 (by decide) h
def PY {Q:Ac->Af->Prop} (hu:A.units + 1 < Bx) (I:Inv X pins σ H s) (g:DGet H a y o) (ry:RelV y u) (h:∀ s',Inv X pins σ H s'->Q (.bool o.isSome) s'):
  Al (An X.prog X.w) A (Cb .In u (.ref a)) Q E s:=by
 rcases g with ⟨kvs,k,e,ey,l⟩ | ⟨kvs,k,b,e,ey,eb,l⟩
 ·subst ey;obtain ⟨z,hd,vs,rel,dd⟩:=OR I.hok e;refine wpAny_in_of (Mz ry) hd dd.mapOf ?_;rw [<- (rel.val k).isSome_eq,<- l];exact h _ (I.tok _)
 ·subst ey;cases (show u=Value.ref b from ry);obtain ⟨z,hd,xs,rel,dd⟩:=OS I.hok e;refine wpAny_in_heap (O0 hu) (ME I.hok eb) hd dd ?_;have q:=(rel.val k).isSome_eq;rw [PH] at q;rw [<- q,<- l];exact h _ (I.tok _)
def Yj {Q:Ac->Af->Prop} (hu:A.units + 1 < Bx) (I:Inv X pins σ H s) (g:DGet H a y o) (ry:RelV y u) (h:∀ s',Inv X pins σ H s'->Q (.bool (!o.isSome)) s'):
  Al (An X.prog X.w) A (Cb .NotIn u (.ref a)) Q E s:=by
 rcases g with ⟨kvs,k,e,ey,l⟩ | ⟨kvs,k,b,e,ey,eb,l⟩
 ·subst ey;obtain ⟨z,hd,vs,rel,dd⟩:=OR I.hok e;refine wpAny_notIn_of (Mz ry) hd dd.mapOf ?_;rw [<- (rel.val k).isSome_eq,<- l];exact h _ (I.tok _)
 ·subst ey;cases (show u=Value.ref b from ry);obtain ⟨z,hd,xs,rel,dd⟩:=OS I.hok e;refine wpAny_notIn_heap (O0 hu) (ME I.hok eb) hd dd ?_;have q:=(rel.val k).isSome_eq;rw [PH] at q;rw [<- q,<- l];exact h _ (I.tok _)
def Tv {h':Heap}{t':Nat}{ob:HO} (I:Inv X pins σ H s) (mu:KO (H a)) (hs:JO a s.heap h') (he:∃ q,h'.get? a=some q) (new:zxv X.prog X.w (Am H a ob) h' a ob):
  Inv X pins σ (Am H a ob) { s with heap:=h',toks:=t' }:=
 I.write (x:=a) (e:=a) mu (.inl rfl) (λ b q hb z=>(hs.2 b hb).trans z) he new
def Wu {P:A0}{w:Ay}{H':Hp}{h':Heap}{kvs:List (AG×V)}{vs:List (AG×Ac)} (z:kvs.length<=Ap) (hd:(a == EW)=false) (rel:KV kvs vs) (dd:h'.DictOf (CU P w) a vs):
  zxv P w H' h' a (.dK kvs):=⟨z,hd,vs,rel,dd⟩
def qJ {H':Hp}{Q:Unit->Af->Prop} (hu:A.units + 1 < Bx) (I:Inv X pins σ H s) (g:DPut H a y v H') (ry:RelV y u) (rv:RelV v r) (h:∀ s',Inv X pins σ H' s'->Q () s'):
  Al (An X.prog X.w) A (setItem (.ref a) u r) Q E s:=by
 rcases g with ⟨kvs,k,e,ey,l,eH⟩ | ⟨kvs,k,b,e,ey,eb,l,eH⟩
 ·subst ey eH;obtain ⟨z,hd,vs,rel,dd⟩:=IV I.hok e;have hz:vs.length<=Ap:=by rw [<- rel.length];exact z
  have hl:(BF kvs k v).length<=Ap:=by have:=Qp kvs k v;omega
  refine wpAny_setItem_pairs (hsz:=hz) (Mz ry) dd λ h' dd' hs=>h _ ?_;have he:∃ q,h'.get? a=some q:=let ⟨q,_,_,hq,_⟩:=dd';⟨q,hq⟩;exact Tv I (by rw [e];exact True.intro) hs he (Wu hl hd (rel.put k rv) dd')
 ·subst ey eH;cases (show u=Value.ref b from ry);obtain ⟨z,hd,xs,rel,dd⟩:=VT I.hok e;have hz:xs.length<=Ap:=by rw [<- Paired.length rel];exact z
  have hl:(BF kvs k v).length<=Ap:=by have:=Qp kvs k v;omega
  refine wpAny_setItem_heap (hsz:=hz) (O0 hu) (ME I.hok eb) dd λ h' dd' hs=>h _ ?_;obtain ⟨q,es,ep,hq,h2,h3,h4,_,h5⟩:=dd';refine Tv I (by rw [e];exact True.intro) hs ⟨q,hq⟩ ⟨hl,hd,_,(rel.put k eb rv).keeps λ c ys ec=>?_,q,es,ep,hq,h2,h3,h4,h5⟩;rw [A3 (We ec e (λ z=>nomatch z))];exact ec
end
section
variable {X:Cx}{pins:List (Addr×Obj)}{σ:St}{H:Hp}{s:Af}{a:Addr}{kvs:List (AG×V)}{k:AG}{u:Ac}{A:AJ}{E:Ac->Af->Prop}
end
section
variable {X:Cx}{o i e value:Expr}{pos pos' tpos:Pos}{td ty tv:TE}
end
def Z9 {P:A0}{w:Ay}{H:Hp} (h:Heap) (hb:EW < h.objs.size):zxv P w H (h.push { cls:=.type "dict",data:=.dict #[] }) h.objs.size (.dT []):=
 ⟨D4 _,beq_eq_false_iff_ne.mpr (Br (BG hb)),[],.nil,_,#[],0,BV _ rfl,⟨rfl,rfl,rfl⟩,rfl,rfl,List.nodup_nil⟩
def X4:TE:=λ _ H Q=>∀ p,H p=none->Q (.ref p) (Am H p (.dT []))
section
variable {X:Cx}{pos:Pos}
def ZT:PE X (.Dict [] [] pos) X4:=λ pins s σ H Q I h=>
 wpAny_Dict_empty ⟨.ref s.heap.objs.size,_,I.laid (a:=s.heap.objs.size) (o:=.dT []) (t':=s.toks) (λ _ _ q=>AX _ q) (AE _) (Z9 s.heap I.big),rfl,h _ (I.hok.fresh (AE _))⟩
end
end L2
namespace QQ
open PySem PySem.Spec PyProof.Rows L2
section
variable {M:Fm}{vs:List Nat}{H:Hp}{fps:AA}{F:List Addr}{Q:VK}
def CS {k:Int}{d:Nat} (h:AU M H fps vs F (.int k) d Q):Q (.int k) H:=h (.int k) H [] (λ _ _ h=>h) (by rw [Own];exact ⟨rfl,rfl⟩) (λ _ z=>nomatch z)
def Dk {k:Bool}{d:Nat} (h:AU M H fps vs F (.bl k) d Q):Q (.bl k) H:=h (.bl k) H [] (λ _ _ h=>h) (by rw [Own];exact ⟨rfl,rfl⟩) (λ _ z=>nomatch z)
def Iu {k:Str}{d:Nat} (h:AU M H fps vs F (.str k) d Q):Q (.str k) H:=h (.str k) H [] (λ _ _ h=>h) (by rw [Own];exact ⟨rfl,rfl⟩) (λ _ z=>nomatch z)
def Ip {x:PV}{v:V} (h:AU M H fps vs F x (dv x) Q) (o:Own M.K H (Zv M vs fps) x 0 v []):Q v H:=h v H [] (λ _ _ h=>h) (o.dv.weak λ a z=>z.elim id λ z=>nomatch z) (λ _ z=>nomatch z)
def DX {p:Addr}{o:HO} (hp:H p=none):∀ a u,H a=some u->Am H p o a=some u:=λ a u h=>by rw [A3 (λ e=>by rw [e,hp] at h;cases h)];exact h
def Nk {xs:List PV}{ws:List V} (h:AU M H fps vs F (.lst xs) 1 Q) (o:OwnL M.K H (Zv M vs fps) xs 0 ws []) {p:Addr} (hp:H p=none):Q (.ref p) (Am H p (.lst ws)):=by
 refine h (.ref p) _ [p] (DX hp) ?_ λ a ha=>.inr (by rw [jb2.mp ha];exact hp);rw [Own];refine ⟨p,ws,rfl,.inr ⟨(by decide),[],Bq,rfl,(λ z=>nomatch z),?_⟩⟩;rw [IB];exact OwnL.move (S:=λ _=>False) (λ a u ha _=>DX hp a u ha) (λ _ z=>z.elim) (λ a hd nz z=>z.elim nz λ z=>hd (by rw [jb2.mp z];exact hp)) xs 0 ws [] (λ _ z=>nomatch z) o
def atoms:List PV->Bool
 | []=>true
 | x::xs=>GN x && atoms xs
def IW:PV->Bool
 | .tup xs=>atoms xs
 | x=>GN x
def ES:List PV->Bool
 | []=>true
 | x::xs=>IW x && ES xs
def d1 (xs:List PV):Nat:=if ES xs=true then om else 1
theorem OwnL.ats {K:Frag}{H:Hp}{Z Z':Addr->Prop}:∀ {xs:List PV}{ws:List V}{d d':Nat},QQ.atoms xs=true->OwnL K H Z xs d' ws []->OwnL K H Z' xs d ws []
 | [],ws,d,_,_,h=>by rw [OwnL] at h ⊢;exact h
 | x::xs,ws,d,_,ha,h=>by
  unfold QQ.atoms at ha;rw [A4] at ha;rw [OwnL] at h ⊢;obtain ⟨v,s,f1,f2,rfl,ef,dj,h1,h2⟩:=h;obtain ⟨rfl,rfl⟩:f1=[]/\f2=[]:=by simpa using ef.symm
  exact ⟨v,s,[],[],rfl,rfl,dj,(Own.atom ha.1 h1).2,h2.ats ha.2⟩
theorem Own.flat {K:Frag}{H:Hp}{Z Z':Addr->Prop}{x:PV}{v:V}{d d':Nat} (hx:IW x=true) (h:Own K H Z x d' v []):Own K H Z' x d v []:=by
 cases x with
 | tup xs=>
  rw [Own] at h ⊢;obtain ⟨a,vs,e,ha,hl⟩:=h;exact ⟨a,vs,e,ha,hl.ats hx⟩
 | lst _=>cases hx
 | dct _=>cases hx
 | exn _=>exact (Own.atom rfl h).2
 | emp=>exact (Own.atom rfl h).2
 | dko=>exact (Own.atom rfl h).2
 | scr _=>exact (Own.atom rfl h).2
 | non=>exact (Own.atom rfl h).2
 | bl _=>exact (Own.atom rfl h).2
 | int _=>exact (Own.atom rfl h).2
 | str _=>exact (Own.atom rfl h).2
theorem OwnL.ats0 {K:Frag}{H:Hp}{Z:Addr->Prop}:∀ {xs:List PV}{ws:List V}{d:Nat}{f:List Addr},QQ.atoms xs=true->OwnL K H Z xs d ws f->f=[]
 | [],ws,d,f,_,h=>by rw [OwnL] at h;exact h.2
 | x::xs,ws,d,f,ha,h=>by
  unfold QQ.atoms at ha;rw [A4] at ha;rw [OwnL] at h;obtain ⟨v,s,f1,f2,rfl,rfl,dj,h1,h2⟩:=h;rw [(Own.atom (Z':=Z) (d':=d) ha.1 h1).1,h2.ats0 ha.2];rfl
def Own.flatA {K:Frag}{H:Hp}{Z Z':Addr->Prop}{x:PV}{v:V}{d d':Nat}{f:List Addr} (hx:IW x=true) (h:Own K H Z x d v f):f=[]/\Own K H Z' x d' v []:=by
 have e:f=[]:=by
  cases x with
  | tup xs=>
   rw [Own] at h;obtain ⟨a,vs,e,ha,hl⟩:=h;exact hl.ats0 hx
  | lst _=>cases hx
  | dct _=>cases hx
  | exn _=>exact (Own.atom (Z':=Z) (d':=d) rfl h).1
  | emp=>exact (Own.atom (Z':=Z) (d':=d) rfl h).1
  | dko=>exact (Own.atom (Z':=Z) (d':=d) rfl h).1
  | scr _=>exact (Own.atom (Z':=Z) (d':=d) rfl h).1
  | non=>exact (Own.atom (Z':=Z) (d':=d) rfl h).1
  | bl _=>exact (Own.atom (Z':=Z) (d':=d) rfl h).1
  | int _=>exact (Own.atom (Z':=Z) (d':=d) rfl h).1
  | str _=>exact (Own.atom (Z':=Z) (d':=d) rfl h).1
 subst e;exact ⟨rfl,h.flat hx⟩
theorem OwnL.atoms {K:Frag}{H:Hp}{Z Z':Addr->Prop}:∀ {xs:List PV}{ws:List V}{d:Nat},ES xs=true->OwnL K H Z xs 0 ws []->OwnL K H Z' xs d ws []
 | [],ws,d,_,h=>by rw [OwnL] at h ⊢;exact h
 | x::xs,ws,d,ha,h=>by
  unfold ES at ha;rw [A4] at ha;rw [OwnL] at h ⊢;obtain ⟨v,s,f1,f2,rfl,ef,dj,h1,h2⟩:=h;obtain ⟨rfl,rfl⟩:f1=[]/\f2=[]:=by simpa using ef.symm
  exact ⟨v,s,[],[],rfl,rfl,dj,h1.flat ha.1,h2.atoms ha.2⟩
def GA {xs:List PV}{ws:List V} (h:AU M H fps vs F (.lst xs) (d1 xs) Q) (o:OwnL M.K H (Zv M vs fps) xs 0 ws []) {p:Addr} (hp:H p=none):Q (.ref p) (Am H p (.lst ws)):=by
 unfold d1 at h;split at h
 ·rename_i ha;refine h (.ref p) _ [p] (DX hp) ?_ λ a ha=>.inr (by rw [jb2.mp ha];exact hp);rw [Own];refine ⟨p,ws,rfl,.inr ⟨(by decide),[],Bq,rfl,(λ z=>nomatch z),?_⟩⟩;have o':OwnL M.K (Am H p (.lst ws)) (Zv M vs fps) xs 0 ws []:=OwnL.move (S:=λ _=>False) (λ a u ha _=>DX hp a u ha) (λ _ z=>z.elim) (λ _ _ n=>n) xs 0 ws [] (λ _ z=>nomatch z) o;exact o'.atoms ha
 ·exact Nk h o hp
def Le {xs:List PV}{ws:List V} (h:AU M H fps vs F (.tup xs) 0 Q) (o:OwnL M.K H (Zv M vs fps) xs 0 ws []) {p:Addr} (hp:H p=none):Q (.ref p) (Am H p (.tup ws)):=by
 refine h (.ref p) _ [] (DX hp) ?_ λ a ha=>nomatch ha
 rw [Own];refine ⟨p,ws,rfl,Bq,?_⟩;rw [NQ];exact OwnL.move (S:=λ _=>False) (λ a u ha _=>DX hp a u ha) (λ _ z=>z.elim) (λ a hd nz z=>z.elim nz λ z=>nomatch z) xs 0 ws [] (λ _ z=>nomatch z) o
def N6 {xs:List PV}{ws:List V} (h:AU M H fps vs F (.lst xs) om Q) {Z:Addr->Prop} (o:OwnL M.K H Z xs om ws F) {p:Addr} (hp:H p=none):Q (.ref p) (Am H p (.lst ws)):=by
 refine h (.ref p) _ (p::F) (DX hp) ?_ λ a ha=>(ja8.mp ha).elim (λ e=>.inr (by rw [e];exact hp)) .inl;rw [Own];refine ⟨p,ws,rfl,.inr ⟨(by decide),F,Bq,rfl,λ z=>?_,?_⟩⟩
 ·obtain ⟨ys,e⟩:=OwnL.lsts xs om ws F o p z;rw [hp] at e;cases e
 ·exact OwnL.full xs ws F (OwnL.move (S:=λ _=>False) (Z':=Z) (λ a u ha _=>DX hp a u ha) (λ _ z=>z.elim) (λ _ _ n=>n) xs om ws F (λ _ _ z=>z) o)
def qX {xs:List PV}{ws:List V} (h:AU M H fps vs F (.tup xs) om Q) {Z:Addr->Prop} (o:OwnL M.K H Z xs om ws F) {p:Addr} (hp:H p=none):Q (.ref p) (Am H p (.tup ws)):=by
 refine h (.ref p) _ F (DX hp) ?_ λ a ha=>.inl ha;rw [Own];exact ⟨p,ws,rfl,Bq,OwnL.full xs ws F (OwnL.move (S:=λ _=>False) (Z':=Z) (λ a u ha _=>DX hp a u ha) (λ _ z=>z.elim) (λ _ _ n=>n) xs om ws F (λ _ _ z=>z) o)⟩
end
def Own.seqL {K:Frag}{H:Hp}{Z:Addr->Prop}{xs:List PV}{d:Nat}{v:V}{fp:List Addr} (h:Own K H Z (.lst xs) d v fp):∃ a ws,v=.ref a/\AN K H a ws/\ws.length=xs.length:=by
 rw [Own] at h;obtain ⟨a,ws,e,⟨_,hr,_,ol⟩ | ⟨_,f,ha,_,_,ol⟩⟩:=h
 ·exact ⟨a,ws,e,.inl (.inl hr.1),ol.length⟩
 ·exact ⟨a,ws,e,.inl (.inl ha),ol.length⟩
def Own.seqT {K:Frag}{H:Hp}{Z:Addr->Prop}{xs:List PV}{d:Nat}{v:V}{fp:List Addr} (h:Own K H Z (.tup xs) d v fp):∃ a ws,v=.ref a/\SqT K H a ws/\ws.length=xs.length:=by
 rw [Own] at h;obtain ⟨a,ws,e,hr,ol⟩:=h;exact ⟨a,ws,e,.inl (.inl hr),ol.length⟩
def Own.coldL {K:Frag}{H:Hp}{Z:Addr->Prop}{xs:List PV}{v:V} (h:Own K H Z (.lst xs) 0 v []):∃ a ws,v=.ref a/\H a=some (.lst ws)/\OwnL K H Z xs 0 ws []:=by
 rw [Own] at h;obtain ⟨a,ws,e,⟨_,hr,_,ol⟩ | ⟨h,_⟩⟩:=h
 ·exact ⟨a,ws,e,hr.1,ol⟩
 ·exact absurd rfl h
def Own.coldT {K:Frag}{H:Hp}{Z:Addr->Prop}{xs:List PV}{v:V} (h:Own K H Z (.tup xs) 0 v []):∃ a ws,v=.ref a/\H a=some (.tup ws)/\OwnL K H Z xs 0 ws []:=by
 rw [Own] at h;exact h
theorem OwnL.app {K:Frag}{H:Hp}{Z:Addr->Prop}:∀ {xs ys:List PV}{ws us:List V},OwnL K H Z xs 0 ws []->OwnL K H Z ys 0 us []->OwnL K H Z (xs++ys) 0 (ws++us) []
 | [],ys,ws,us,h,h'=>by rw [OwnL] at h;obtain ⟨rfl,_⟩:=h;exact h'
 | x::xs,ys,ws,us,h,h'=>by
  rw [OwnL] at h;obtain ⟨v,s,f1,f2,rfl,ef,dj,h1,h2⟩:=h;obtain ⟨rfl,rfl⟩:f1=[]/\f2=[]:=by simpa using ef.symm
  show OwnL K H Z (x::(xs++ys)) 0 (v::(s++us)) [];rw [OwnL];exact ⟨v,s++us,[],[],rfl,rfl,λ _ z=>(nomatch z),h1,h2.app h'⟩
theorem OwnL.drop {K:Frag}{H:Hp}{Z:Addr->Prop}:∀ {xs:List PV}{ws:List V} (n:Nat),OwnL K H Z xs 0 ws []->OwnL K H Z (xs.drop n) 0 (ws.drop n) []
 | xs,ws,0,h=>h
 | [],ws,n + 1,h=>by rw [OwnL] at h;obtain ⟨rfl,_⟩:=h;rw [U9,U9,OwnL];exact ⟨rfl,rfl⟩
 | x::xs,ws,n + 1,h=>by
  rw [OwnL] at h;obtain ⟨v,s,f1,f2,rfl,ef,dj,h1,h2⟩:=h;obtain ⟨rfl,rfl⟩:f1=[]/\f2=[]:=by simpa using ef.symm
  exact h2.drop n
theorem OwnL.take {K:Frag}{H:Hp}{Z:Addr->Prop}:∀ {xs:List PV}{ws:List V} (n:Nat),OwnL K H Z xs 0 ws []->OwnL K H Z (xs.take n) 0 (ws.take n) []
 | xs,ws,0,h=>by rw [MK,MK,OwnL];exact ⟨rfl,rfl⟩
 | [],ws,n + 1,h=>by rw [OwnL] at h;obtain ⟨rfl,_⟩:=h;rw [P7,P7,OwnL];exact ⟨rfl,rfl⟩
 | x::xs,ws,n + 1,h=>by
  rw [OwnL] at h;obtain ⟨v,s,f1,f2,rfl,ef,dj,h1,h2⟩:=h;obtain ⟨rfl,rfl⟩:f1=[]/\f2=[]:=by simpa using ef.symm
  rw [PM,PM,OwnL];exact ⟨v,s.take n,[],[],rfl,rfl,λ _ z=>(nomatch z),h1,h2.take n⟩
def OwnL.nth {K:Frag}{H:Hp}{Z:Addr->Prop}{xs:List PV}{ws:List V}{j:Nat}{x:PV} (h:OwnL K H Z xs 0 ws []) (e:xs[j]?=some x):∃ w,ws[j]?=some w/\Own K H Z x 0 w []:=by
 have hj:j < ws.length:=by rw [h.length];exact (jb0.mp e).1
 obtain ⟨y,e1,e2⟩:=h.get (i:=j) (w:=ws[j]) (by simp [hj]);rw [e] at e1;cases e1;exact ⟨_,by simp [hj],e2⟩
def cold {M:Fm}{vs:List Nat}{H:Hp}{fps:AA}{x:PV}{d:Nat}{v:V}{fp:List Addr} (o:Own M.K H (Zt M vs fps fp) x d v fp) (hf:∀ a∈fp,¬ Zf M fps a):Own M.K H (Zv M vs fps) x 0 v []:=
 Own.freeze (λ _ z=>.inl z) x d v fp (λ a ha z=>hf a ha z.zf) o
def AD:PV->Nat->PV->Nat->Option (PV×Nat)
 | .int i,_,.int j,_=>some (.int (i + j),om)
 | .lst xs,_,.lst ys,_=>if xs.length + ys.length<=Ap then some (.lst (xs++ys),d1 (xs++ys)) else none
 | .tup xs,_,.tup ys,_=>if xs.length + ys.length<=Ap then some (.tup (xs++ys),0) else none
 | .str x,_,.str y,_=>if x.length + y.length<=Ap then some (.str (x++y),om) else none
 | _,_,_,_=>none
def IY (p:Int->Int->Bool) (g:Int->Int->Int):PV->Nat->PV->Nat->Option (PV×Nat)
 | .int i,_,.int j,_=>if p i j then some (.int (g i j),om) else none
 | _,_,_,_=>none
def Ez (i j:Int):Bool:=(decide (-(2 ^ 64) < i) && decide (i < 2 ^ 64)) || (decide (-(2 ^ 64) < j) && decide (j < 2 ^ 64))
def E1 (_ j:Int):Bool:=decide (0 < j) && decide (j < 2 ^ 128)
def FO (_ j:Int):Bool:=decide (0 < j)
def HQ (i j:Int):Bool:=decide (0<=j) && decide (j<=1000) && decide (i.natAbs < 2 ^ 64)
def CG:=IY (λ _ _=>true) (λ i j=>i - j)
def Dz (n:Nat) (xs:List PV):List PV:=(AH n xs).flatten
def CZ (x:Str) (n:Nat):Str:=⟨(AH n x.cps.toList).flatten.toArray⟩
def BC:PV->Nat->PV->Nat->Option (PV×Nat)
 | .str x,_,.int n,_=>if -(2 ^ 62)<=n/\n < 2 ^ 62/\x.length * n.toNat<=Ap then some (.str (CZ x n.toNat),om) else none
 | .int i,_,.int j,_=>if Ez i j then some (.int (i * j),om) else none
 | .lst xs,_,.int k,_=>if 0<=k/\k < 2 ^ 62/\xs.length * k.toNat<=Ap then some (.lst (Dz k.toNat xs),d1 (Dz k.toNat xs)) else none
 | _,_,_,_=>none
def GF:=IY E1 (λ i j=>i / j)
def Bv:=IY FO (λ i j=>i % j)
def Tr:=IY HQ (λ i j=>i ^ j.toNat)
section
variable {X:Cx}
def qw:OpR X (Dt .FloorDiv) (rI (λ _ j=>0 < j/\j < 2 ^ 128) λ i j=>.int (i / j)):=Kx λ i j _ _ _ _ _ hc q=>by
 have h1:(0:Int) < j:=hc.1;have h2:j < 2 ^ 128:=hc.2;refine floordiv_int (by omega) (by rw [Int.fdiv_eq_ediv_of_nonneg i (by omega)];exact q) (.inl (PyProof.noPylong_of_log2 ?_));have h3:j.natAbs < 2 ^ 128:=by omega
 have h4:j.natAbs≠0:=by omega
 have:=(Nat.log2_lt h4).mpr h3
 omega
end
def AO {X:Cx}{e:Expr}{t t':TE} (h:PE X e t) (i:∀ σ H Q,t' σ H Q->t σ H Q):PE X e t':=λ pins s σ H Q I q=>h pins s σ H Q I (i σ H Q q)
def ID {X:Cx}{e:Expr}{t t':TT} (h:PT X e t) (i:∀ σ H Q,t' σ H Q->t σ H Q):PT X e t':=λ pins s σ H Q I q=>h pins s σ H Q I (i σ H Q q)
def SO {X:Cx}{e:Expr}{t t':TT} (h:PW X e t) (i:∀ σ H Q,t' σ H Q->t σ H Q):PW X e t':=λ wh pins s σ H Q I q=>h wh pins s σ H Q I (i σ H Q q)
def SF {X:Cx}{e:List Expr}{t t':TA} (h:PA X e t) (i:∀ σ H Q,t' σ H Q->t σ H Q):PA X e t':=λ p pins s σ H Q I q=>h p pins s σ H Q I (i σ H Q q)
def Cu {X:Cx}{e:Stmt}{t t':TS} (h:PS X e t) (i:∀ D σ H,t' D σ H->t D σ H):PS X e t':=λ pins s σ H D I q=>h pins s σ H D I (i D σ H q)
def TK {X:Cx}{e:List Stmt}{t t':TS} (h:DB X e t) (i:∀ D σ H,t' D σ H->t D σ H):DB X e t':=λ pins s σ H D I q=>h pins s σ H D I (i D σ H q)
section
variable {X:Cx}{M:Fm}{a b:Expr}{f g:Fx}{vs vs':List Nat}{pos:Pos}{σ:St}{H:Hp}{Q:VK}
def qf1:OpR X (Dt .Add) (λ x y H Q=>∃ a b ys,x=.ref a/\y=.ref b/\SqT X.K H a []/\SqT X.K H b ys/\Q (.ref b) H):=by
 intro pins s σ H x y v u Q I rx ry h;obtain ⟨a,b,ys,rfl,rfl,ha,hb,q⟩:=h;cases rx;cases ry;obtain ⟨its,r1,p1,_⟩:=I.tuple ha;obtain ⟨its2,r2,p2,_⟩:=I.tuple hb;cases r1;obtain ⟨⟨cls,dd,data,sl⟩,ho,hc,n,hd⟩:=id p1;obtain ⟨⟨cls2,dd2,data2,sl2⟩,ho2,hc2,n2,hd2⟩:=id p2;simp only at hc hd hc2 hd2;subst hc hd hc2 hd2;exact concat_meets ⟨_,ho,rfl⟩ ⟨_,ho2,rfl⟩ Oo seq_tuple_add O5 O6 (O9 _ _)
  (tuple_addW0 a b _ its2.toArray n n2 dd dd2 sl sl2 rfl) ⟨ho,ho2,⟨.ref b,H,I,rfl,q⟩⟩
theorem Xp (hv:∀ i∈vs,M.Ms i=false) (hK:M.K=X.K) (ha:PE X a (tE M f vs)) (hb:PE X b (tE M g vs')):PE X (.BinOp a .Add b pos) (tE M (Ab AD f g) (vs++vs')):=by
 refine AO (M1 (qm6.or (qhq.or (qjo.or (qf1.or xQ)))) ha hb) λ σ H Q h=>D7 hv (λ x d y e z c v w H fps f1 f2 Q ho o1 o2 dj nz zd lf=>?_) h;cases x with
 | int i=>
  cases y with
  | int j=>
   cases ho;rw [Own] at o1 o2;exact .inl ⟨i,j,o1.1,o2.1,CS lf⟩
  | _=>cases ho
 | lst xs=>
  cases y with
  | lst ys=>
   dsimp only [AD] at ho;split at ho
   ·rename_i hl;cases ho;obtain ⟨p,ws,rfl,hp,ol⟩:=(cold o1 λ a ha=>nz a (AZ _ ha)).coldL;obtain ⟨p2,us,rfl,hp2,ol2⟩:=(cold o2 λ a ha=>nz a (AL _ ha)).coldL;exact .inr (.inl ⟨p,p2,ws,us,rfl,rfl,hp,hp2,by rw [ol.length,ol2.length];exact hl,λ q hq=>GA lf (ol.app ol2) hq⟩)
   ·cases ho
  | _=>cases ho
 | tup xs=>
  cases y with
  | tup ys=>
   dsimp only [AD] at ho;split at ho
   ·rename_i hl;cases ho;obtain ⟨p,ws,rfl,hp,ol⟩:=(cold o1 λ a ha=>nz a (AZ _ ha)).coldT;obtain ⟨p2,us,rfl,hp2,ol2⟩:=(cold o2 λ a ha=>nz a (AL _ ha)).coldT;by_cases hw:ws=[]
    ·subst hw;refine .inr (.inr (.inr (.inl ⟨p,p2,us,rfl,rfl,.inl (.inl hp),.inl (.inl hp2),?_⟩)));have ex:xs=[]:=by
      have:=ol.length
      cases xs with
      | nil=>rfl
      | cons _ _=>simp at this
     subst ex;exact Ip (x:=.tup ys) lf (by rw [Own];exact ⟨p2,us,rfl,hp2,ol2⟩)
    ·refine .inr (.inr (.inl ⟨p,p2,ws,us,rfl,rfl,.inl (.inl hp),.inl (.inl hp2),hw,by rw [ol.length,ol2.length];exact hl,λ hu=>?_,λ hu q hq=>Le lf (ol.app ol2) hq⟩));subst hu;have ey:ys=[]:=by
      have:=ol2.length
      cases ys with
      | nil=>rfl
      | cons _ _=>simp at this
     subst ey;rw [HX] at lf;exact Ip (x:=.tup xs) lf (by rw [Own];exact ⟨p,ws,rfl,hp,ol⟩)
   ·cases ho
  | _=>cases ho
 | str i=>
  cases y with
  | str j=>
   dsimp only [AD] at ho;split at ho
   ·rename_i hl;cases ho;rw [Own] at o1 o2;exact .inr (.inr (.inr (.inr ⟨i,j,o1.1,o2.1,hl,Iu lf⟩)))
   ·cases ho
  | _=>cases ho
 | _=>cases ho
def Pj:PV->Nat->PV->Nat->Option (PV×Nat)
 | .lst xs,_,.lst ys,e=>if xs.length + ys.length<=Ap then some (.lst (xs++ys),if ES xs=true/\e=om then om else d1 (xs++ys)) else none
 | _,_,_,_=>none
theorem OwnL.appF {K:Frag}{H:Hp}{Z:Addr->Prop}{ys:List PV}{us:List V}{fc:List Addr} (h':OwnL K H Z ys om us fc):∀ {xs:List PV}{ws:List V},OwnL K H Z xs om ws []->OwnL K H Z (xs++ys) om (ws++us) fc
 | [],ws,h=>by rw [OwnL] at h;obtain ⟨rfl,_⟩:=h;exact h'
 | x::xs,ws,h=>by
  rw [OwnL] at h;obtain ⟨v,s,f1,f2,rfl,ef,dj,h1,h2⟩:=h;obtain ⟨rfl,rfl⟩:f1=[]/\f2=[]:=by simpa using ef.symm
  show OwnL K H Z (x::(xs++ys)) om (v::(s++us)) fc;rw [OwnL];exact ⟨v,s++us,[],fc,rfl,rfl,λ _ z=>(nomatch z),h1,OwnL.appF h' h2⟩
theorem Zs (hv:∀ i∈vs,M.Ms i=false) (hK:M.K=X.K) (ha:PE X a (tE M f vs)) (hb:PE X b (tE M g vs')):PE X (.BinOp a .Add b pos) (tE M (Ab Pj f g) (vs++vs')):=by
 refine AO (M1 qhq ha hb) λ σ H Q h=>D7 hv (λ x d y e z c v w H fps f1 f2 Q ho o1 o2 dj nz zd lf=>?_) h;cases x with
 | lst xs=>
  cases y with
  | lst ys=>
   dsimp only [Pj] at ho;split at ho
   ·rename_i hl;cases ho;obtain ⟨p,ws,rfl,hp,ol⟩:=(cold o1 λ a ha=>nz a (AZ _ ha)).coldL;split at lf
    ·rename_i hc;obtain ⟨ht,rfl⟩:=hc;obtain ⟨p2,us,fc,rfl,hp2,ef,na,ol2⟩:=o2.list (by decide);refine ⟨p,p2,ws,us,rfl,rfl,hp,hp2,by rw [ol.length,ol2.length];exact hl,λ q hq=>?_⟩;have lf':AU M H fps (vs++vs') fc (.lst (xs++ys)) om Q:=λ u H' fp h1 h2 h3=>lf u H' fp h1 h2 λ a ha=>(h3 a ha).elim (λ z=>.inl (AL _ (by rw [ef];exact AB _ z))) .inr;exact N6 lf' (OwnL.appF ol2 (ol.atoms ht)) hq
    ·obtain ⟨p2,us,rfl,hp2,ol2⟩:=(cold o2 λ a ha=>nz a (AL _ ha)).coldL;exact ⟨p,p2,ws,us,rfl,rfl,hp,hp2,by rw [ol.length,ol2.length];exact hl,λ q hq=>GA lf (ol.app ol2) hq⟩
   ·cases ho
  | _=>cases ho
 | _=>cases ho
theorem L0 {op:Operator}{p:Int->Int->Bool}{k:Int->Int->Int}{C:Int->Int->Prop} (hop:OpR X (Dt op) (rI C λ i j=>.int (k i j))) (hC:∀ i j,p i j=true->C i j) (hv:∀ i∈vs,M.Ms i=false) (ha:PE X a (tE M f vs)) (hb:PE X b (tE M g vs')):
  PE X (.BinOp a op b pos) (tE M (Ab (IY p k) f g) (vs++vs')):=by
 refine AO (M1 hop ha hb) λ σ H Q h=>D7 hv (λ x d y e z c v w H fps f1 f2 Q ho o1 o2 dj nz zd lf=>?_) h;cases x with
 | int i=>
  cases y with
  | int j=>
   dsimp only [IY] at ho;split at ho
   ·rename_i hp;cases ho;rw [Own] at o1 o2;exact ⟨i,j,o1.1,o2.1,hC i j hp,CS lf⟩
   ·cases ho
  | _=>cases ho
 | _=>cases ho
theorem OwnL.rep {K:Frag}{H:Hp}{Z:Addr->Prop}{xs:List PV}{ws:List V} (h:OwnL K H Z xs 0 ws []):∀ n,OwnL K H Z (Dz n xs) 0 (AH n ws).flatten []
 | 0=>by
  unfold Dz;rw [Vb,Vb,UP,UP,OwnL];exact ⟨rfl,rfl⟩
 | n + 1=>by
  have:=h.rep n
  unfold Dz at this ⊢;rw [FZ,FZ,HZ,HZ];exact h.app this
def Y4:OpR X (Dt .Sub) (rI (λ _ _=>True) λ i j=>.int (i - j)):=Kx λ _ _ _ _ _ _ _ _ q=>sub_int q
def Qa {i j:Int} (h:Ez i j=true):CMul i j:=by
 unfold Ez at h;simp only [E4,A4,decide_eq_true_eq] at h;exact h
theorem Nn (a:Array Nat):∀ (n:Nat) (b:Array Nat),(AH n a).foldl (·++·) b=⟨b.toList++(AH n a.toList).flatten⟩
 | 0,b=>by simp
 | n + 1,b=>by
  rw [FZ,UI,Nn a n,FZ,HZ];simp
def xR:OpR X (Dt .Mult) (λ x y H Q=>∃ z n,x=.str z/\y=.int n/\-(2 ^ 62)<=n/\n < 2 ^ 62/\z.length * n.toNat<=Ap/\Q (.str (CZ z n.toNat)) H):=by
 intro pins s σ H x y v u Q I rx ry h;obtain ⟨z,n,rfl,rfl,h1,h2,h3,q⟩:=h;obtain ⟨t1,rfl⟩:=rx;obtain ⟨t2,rfl⟩:=ry;have hz:Builtin.Str.tooLong (z.length * n.toNat)=false:=by
  unfold Builtin.Str.tooLong;have h40:Ap<=2 ^ 40:=by decide
  exact decide_eq_false (by omega)
 refine PySem.P.mul_str (by rw [decide_eq_false (by omega),decide_eq_false (by omega)];rfl) (λ _ _ hc=>?_) (λ _ _=>hz) ?_
 ·have hn:(1:Int)<=n:=by omega
  have hl:z.length * n.toNat<=2 ^ 62:=Co h3 (by decide);have h4:(z.length:Int) * n<=2 ^ 62:=by
   have:((z.length * n.toNat:Nat):Int)<=((2 ^ 62:Nat):Int):=Int.ofNat_le.mpr hl
   rw [Int.natCast_mul,show ((n.toNat:Nat):Int)=n by omega] at this;exact this
  have h5:(2 ^ 63 - 1) / n < (z.length:Int):=hc;have h6:=Int.lt_mul_of_ediv_lt (by omega:(0:Int) < n) h5;omega
 ·by_cases c1:n < 1
  ·rw [if_pos c1];refine ⟨by decide,.str (CZ z n.toNat),H,I.tok _,⟨s.toks,?_⟩,q⟩;rw [show n.toNat=0 by omega];rfl
  ·rw [if_neg c1];split
   ·rename_i c2;refine ⟨.str (CZ z n.toNat),H,I,⟨t1,?_⟩,q⟩;have e:CZ z n.toNat=z:=by
     unfold CZ;rcases E4 _ _ ▸ c2 with c | c
     ·have:n=1:=by simpa using c
      subst this;show (⟨([z.cps.toList].flatten).toArray⟩:Str)=z;simp
     ·have e0:z.cps.toList=[]:=by
       have:z.cps.size=0:=eq_of_beq c
       exact jk4.mpr (Array.eq_empty_of_size_eq_zero this)
      rw [e0]
      have:(AH n.toNat ([]:List Nat)).flatten=[]:=by simp
      rw [this];cases z with
      | mk a=>simp at e0;subst e0;rfl
    rw [e]
   ·refine ⟨?_,.str (CZ z n.toNat),H,I.tok _,⟨s.toks,?_⟩,q⟩
    ·rw [Nn];show (#[].toList++(AH n.toNat z.cps.toList).flatten).length<=Ap;simp only [FV,BR,List.length_flatten,List.map_replicate,List.sum_replicate_nat];have h4:n.toNat * z.cps.size<=Ap:=by rw [U7];exact h3
     simpa using h4
    ·unfold CZ;rw [Nn];simp
theorem Xz (hv:∀ i∈vs,M.Ms i=false) (ha:PE X a (tE M f vs)) (hb:PE X b (tE M g vs')):PE X (.BinOp a .Mult b pos) (tE M (Ab BC f g) (vs++vs')):=by
 refine AO (M1 (qmx.or (qmu.or xR)) ha hb) λ σ H Q h=>D7 hv (λ x d y e z c v w H fps f1 f2 Q ho o1 o2 dj nz zd lf=>?_) h;cases x with
 | int i=>
  cases y with
  | int j=>
   dsimp only [BC] at ho;split at ho
   ·rename_i hp;cases ho;rw [Own] at o1 o2;exact .inl ⟨i,j,o1.1,o2.1,Qa hp,CS lf⟩
   ·cases ho
  | _=>cases ho
 | lst xs=>
  cases y with
  | int k=>
   dsimp only [BC] at ho;split at ho
   ·rename_i hl;cases ho;obtain ⟨p,ws,rfl,hp,ol⟩:=(cold o1 λ a ha=>nz a (AZ _ ha)).coldL;rw [Own] at o2;exact .inr (.inl ⟨p,k,ws,rfl,o2.1,hp,by omega,by omega,by rw [ol.length];exact hl.2.2,λ q hq=>GA lf (ol.rep k.toNat) hq⟩)
   ·cases ho
  | _=>cases ho
 | str z=>
  cases y with
  | int k=>
   dsimp only [BC] at ho;split at ho
   ·rename_i hl;cases ho;rw [Own] at o1;rw [Own] at o2;exact .inr (.inr ⟨z,k,o1.1,o2.1,hl.1,hl.2.1,hl.2.2,Iu lf⟩)
   ·cases ho
  | _=>cases ho
 | _=>cases ho
def Qc {i j:Int} (h:E1 i j=true):0 < j/\j < 2 ^ 128:=by
 unfold E1 at h;simp only [A4,decide_eq_true_eq] at h;exact h
def Qb {i j:Int} (h:FO i j=true):0 < j:=by
 unfold FO at h;simpa using h
def PZ {i j:Int} (h:HQ i j=true):KR i j:=by
 unfold HQ at h;simp only [A4,decide_eq_true_eq] at h;exact ⟨h.1.1,by omega,h.2⟩
def Ly:PV->Nat->Option (PV×Nat)
 | .int i,_=>some (.int (-i),om)
 | _,_=>none
theorem X0 (ha:PE X a (tE M f vs)):PE X (.UnaryOp .USub a pos) (tE M (AS Ly f) vs):=by
 refine AO (Wk XQ ha) λ σ H Q h=>Ja (λ x d z c v H fps f1 Q ho o1 nz zd lf=>?_) h;cases x with
 | int i=>cases ho;rw [Own] at o1;exact ⟨i,o1.1,CS lf⟩
 | _=>cases ho
def Cq (p:Int->Int->Bool):PV->Nat->PV->Nat->Option (PV×Nat)
 | .int i,_,.int j,_=>some (.bl (p i j),om)
 | _,_,_,_=>none
theorem Ld {p:Int->Int->Bool}{x y z:PV}{d e c:Nat}{v w:V}{fps:AA}{f1 f2 F:List Addr}{Z Z':Addr->Prop} (ho:Cq p x d y e=some (z,c)) (o1:Own M.K H Z x d v f1) (o2:Own M.K H Z' y e w f2) (lf:AU M H fps vs F z c Q):Eb (λ i j=>.bl (p i j)) v w H Q:=by
 cases x with
 | int i=>
  cases y with
  | int j=>
   cases ho;rw [Own] at o1 o2;exact ⟨i,j,o1.1,o2.1,Dk lf⟩
  | _=>cases ho
 | _=>cases ho
def sV:PV->Option V
 | .non=>some .non
 | .bl b=>some (.bl b)
 | .int i=>some (.int i)
 | .str x=>some (.str x)
 | _=>none
def Bk (f:PV->Option D8):List PV->Option (List D8)
 | []=>some []
 | x::xs=>match f x,Bk f xs with
  | some a,some r=>some (a::r)
  | _,_=>none
def BN:Nat->PV->Option D8
 | 0,_=>none
 | n + 1,x=>match x with
  | .non=>some .none
  | .bl b=>some (.bool b)
  | .int i=>some (.int i)
  | .str z=>if PyData.strOk z=true then some (.str z) else none
  | .lst xs=>(Bk (BN n) xs).map .list
  | .tup xs=>(Bk (BN n) xs).map .tuple
  | _=>none
def DE (f:PV->PV->Bool):List PV->List PV->Bool
 | [],[]=>true
 | x::xs,y::ys=>f x y && DE f xs ys
 | _,_=>false
def Ei:Nat->PV->PV->Bool
 | 0,_,_=>false
 | n + 1,x,y=>match x,y with
  | .non,.non=>true
  | .bl a,.bl b=>a == b
  | .int a,.int b=>a == b
  | .str a,.str b=>a == b
  | .emp,.emp=>true
  | .lst xs,.lst ys=>DE (Ei n) xs ys
  | .tup xs,.tup ys=>DE (Ei n) xs ys
  | _,_=>false
def A2 (neg:Bool) (x:PV) (_:Nat) (y:PV) (_:Nat):Option (PV×Nat):=match BN 20 x,BN 20 y with
 | some a,some b=>some (.bl (neg^^EV a b),om)
 | _,_=>match x,y with
  | .lst xs,.lst ys=>if DE (Ei 20) xs ys=true then some (.bl (neg^^true),om) else if xs.length≠ys.length then some (.bl (neg^^false),om) else none
  | .str a,.str b=>some (.bl (neg^^(a == b)),om)
  | .emp,.emp=>some (.bl (neg^^true),om)
  | .tup xs,.tup ys=>if DE (Ei 20) xs ys=true then some (.bl (neg^^true),om) else none
  | _,_=>none
theorem J5 {f:PV->Option D8}{n:Nat} (hf:∀ x D,f x=some D->D.canLay0=true/\D.depth<=n):∀ {xs:List PV}{Ds:List D8},Bk f xs=some Ds->Ot Ds=true/\HA Ds<=n
 | [],Ds,h=>by cases h;rw [Ot,HA];exact ⟨rfl,D4 _⟩
 | x::xs,Ds,h=>by
  unfold Bk at h;split at h
  ·rename_i a r h1 h2;cases h;have h3:=hf x a h1;have h4:=J5 hf h2;rw [Ot,HA,h3.1,h4.1];exact ⟨rfl,Nat.max_le.mpr ⟨h3.2,h4.2⟩⟩
  ·cases h
theorem El:∀ (n:Nat) (x:PV) (D:D8),BN n x=some D->D.canLay0=true/\D.depth<=n
 | 0,_,_,h=>by cases h
 | n + 1,x,D,h=>by
  unfold BN at h;cases x with
  | non=>cases h;rw [IQ,PyData.depth] <;> first | exact ⟨rfl,D4 _⟩ | (intros;contradiction)
  | bl b=>cases h;rw [IQ,PyData.depth] <;> first | exact ⟨rfl,D4 _⟩ | (intros;contradiction)
  | int i=>cases h;rw [IQ,PyData.depth] <;> first | exact ⟨rfl,D4 _⟩ | (intros;contradiction)
  | str z=>
   dsimp only at h;split at h
   ·rename_i hz;cases h;rw [IQ,PyData.depth] <;> first | exact ⟨hz,D4 _⟩ | (intros;contradiction)
   ·cases h
  | lst xs=>
   obtain ⟨Ds,e,rfl⟩:=ja9.mp h
   have:=J5 (El n) e
   rw [IQ,PyData.depth];exact ⟨this.1,UO this.2⟩
  | tup xs=>
   obtain ⟨Ds,e,rfl⟩:=ja9.mp h
   have:=J5 (El n) e
   rw [IQ,PyData.depth];exact ⟨this.1,UO this.2⟩
  | emp=>cases h
  | dko=>cases h
  | scr ns=>cases h
  | dct _=>cases h
  | exn _=>cases h
theorem EK {pins:List (Addr×Obj)}{s:Af}{Z:Addr->Prop} (I:L2.Inv X pins σ H s):∀ (n:Nat) (x:PV) (d:Nat) (v:V) (fp:List Addr) (u:Ac) (D:D8),BN n x=some D->Own X.K H Z x d v fp->RelV v u->∃ as,Reads s.heap u D as
 | 0,_,_,_,_,_,_,h,_,_=>by cases h
 | n + 1,x,d,v,fp,u,D,h,o,r=>by
  have all:∀ (xs:List PV) (d:Nat) (ws:List V) (fp:List Addr) (us:List Ac) (Ds:List D8),Bk (BN n) xs=some Ds->OwnL X.K H Z xs d ws fp->Vals ws us->∃ as,ReadsAll s.heap us Ds as:=λ xs=>by
   induction xs with
   | nil=>
    intro d ws fp us Ds h o r;cases h;rw [OwnL] at o;obtain ⟨rfl,_⟩:=o;cases r;exact ⟨_,.nil⟩
   | cons y ys ih=>
    intro d ws fp us Ds h o r;unfold Bk at h;split at h
    ·rename_i a rr h1 h2;cases h;rw [OwnL] at o;obtain ⟨v,s,f1,f2,rfl,_,_,o1,o2⟩:=o;cases r with
     | cons r1 r2=>
      obtain ⟨as,ra⟩:=EK I n y d v f1 _ a h1 o1 r1;obtain ⟨bs,rb⟩:=ih d s f2 _ rr h2 o2 r2;exact ⟨_,.cons ra rb⟩
    ·cases h
  unfold BN at h;cases x with
  | non=>cases h;rw [Own] at o;obtain ⟨rfl,_⟩:=o;cases r;exact ⟨_,.none⟩
  | bl b=>cases h;rw [Own] at o;obtain ⟨rfl,_⟩:=o;cases r;exact ⟨_,.bool b⟩
  | int i=>cases h;rw [Own] at o;obtain ⟨rfl,_⟩:=o;obtain ⟨t,rfl⟩:=r;exact ⟨_,.int i t⟩
  | str z=>
   dsimp only at h;split at h
   ·cases h;rw [Own] at o;obtain ⟨rfl,_⟩:=o;obtain ⟨t,rfl⟩:=r;exact ⟨_,.str z t⟩
   ·cases h
  | lst xs=>
   obtain ⟨Ds,e,rfl⟩:=ja9.mp h;have hh:∃ a ws d' f,v=.ref a/\H a=some (.lst ws)/\OwnL X.K H Z xs d' ws f:=by
    rw [Own] at o;obtain ⟨a,ws,ev,⟨_,hr,_,ol⟩ | ⟨_,f,ha,_,_,ol⟩⟩:=o
    ·exact ⟨a,ws,_,_,ev,hr.1,ol⟩
    ·exact ⟨a,ws,_,_,ev,ha,ol⟩
   obtain ⟨a,ws,d',f,rfl,ha,ol⟩:=hh;cases r;obtain ⟨its,rv,⟨ob,nn,e1,e2,e3,e4⟩,_⟩:=I.list (.inl (.inl ha));obtain ⟨as,ra⟩:=all xs d' ws f its Ds e ol rv;exact ⟨_,.list e1 e2 e4 ra⟩
  | tup xs=>
   obtain ⟨Ds,e,rfl⟩:=ja9.mp h;rw [Own] at o;obtain ⟨a,ws,rfl,ha,ol⟩:=o;cases r;obtain ⟨its,rv,⟨ob,e1,e2,nn,e4⟩,_⟩:=I.tuple (.inl (.inl ha));obtain ⟨as,ra⟩:=all xs _ ws fp its Ds e ol rv;exact ⟨_,.tuple e1 e2 e4 ra⟩
  | emp=>cases h
  | dko=>cases h
  | scr ns=>cases h
  | dct _=>cases h
  | exn _=>cases h
def IF {K':Type} [DecidableEq K'] {prog:A0}{w:Ay}{knd:KeyKind prog w K'}{P:A0}{w0:Ay}{h:Heap}{a:Addr} (x:h.DictOf (CU P w0) a []):h.DictOf knd a []:=by
 obtain ⟨o,es,ep,h1,h2,h3,h4,h5,h6⟩:=x;generalize hes:es.toList=l at h5;cases h5;have e:es=#[]:=jk4.mp hes;subst e;exact ⟨o,#[],ep,h1,h2,h3,by intro z hz;simp at hz,.nil,.nil⟩
def Ww {pins:List (Addr×Obj)}{s:Af} (I:L2.Inv X pins σ H s) {a b:Addr}{A:AJ} (ha:H a=some (.dK [])) (hb:H b=some (.dK [])) (hu:A.units < Bx):SeqAt.EqAt A s (.ref a) (.ref b) true:=by
 by_cases e:a=b
 ·subst e;exact JS _
 ·refine Oz e λ prog w E Q hq=>?_;obtain ⟨_,z1,vs,k1,d1⟩:=IV I.hok ha;obtain ⟨_,z2,ws,k2,d2⟩:=IV I.hok hb;cases k1;cases k2;exact PySem.W.keq_eq (knd:=CU prog w) (r:=true) z1 z2 (IF d1) (IF d2) hu (λ _=>.nil) (by simpa using hq)
def Hj {Z:Addr->Prop}{xs:List PV}{d:Nat}{v:V}{fp:List Addr}{K:Frag} (o:Own K H Z (.lst xs) d v fp):∃ a ws d' f,v=.ref a/\H a=some (.lst ws)/\OwnL K H Z xs d' ws f:=by
 rw [Own] at o;obtain ⟨a,ws,ev,⟨_,hr,_,ol⟩ | ⟨_,f,ha,_,_,ol⟩⟩:=o
 ·exact ⟨a,ws,_,_,ev,hr.1,ol⟩
 ·exact ⟨a,ws,_,_,ev,ha,ol⟩
def Lx {n:Nat}{e:Nat->Bool} (h:∀ j,j < n->e j=true):(AY n).all e=true:=jb8.mpr λ j hj=>h j (jc6.mp hj)
theorem TQ {pins:List (Addr×Obj)}{s:Af}{Z Z':Addr->Prop} (I:L2.Inv X pins σ H s):∀ (n:Nat) (x y:PV) (d e:Nat) (v w:V) (f1 f2:List Addr) (u u':Ac) (A:AJ),A.units + n < Bx->Ei n x y=true->Own X.K H Z x d v f1->Own X.K H Z' y e w f2->RelV v u->RelV w u'->SeqAt.EqAt A s u u' true
 | 0,_,_,_,_,_,_,_,_,_,_,_,_,h,_,_,_,_=>by cases h
 | n + 1,x,y,d,e,v,w,f1,f2,u,u',A,hu,h,o1,o2,r1,r2=>by
  have all:∀ (xs ys:List PV) (d e:Nat) (vs ws:List V) (f1 f2:List Addr) (us us':List Ac),DE (Ei n) xs ys=true->OwnL X.K H Z xs d vs f1->OwnL X.K H Z' ys e ws f2->Vals vs us->Vals ws us'->us.length=us'.length/\∀ j (h1:j < us.length) (h2:j < us'.length),SeqAt.EqAt A.in1 s us[j] us'[j] true:=λ xs=>by
   induction xs with
   | nil=>
    intro ys d e vs ws f1 f2 us us' h o1 o2 r1 r2;cases ys with
    | cons _ _=>cases h
    | nil=>
     rw [OwnL] at o1 o2;obtain ⟨rfl,_⟩:=o1;obtain ⟨rfl,_⟩:=o2;cases r1;cases r2;exact ⟨rfl,λ j h1 _=>nomatch h1⟩
   | cons x xs ih=>
    intro ys d e vs ws f1 f2 us us' h o1 o2 r1 r2;cases ys with
    | nil=>cases h
    | cons y ys=>
     unfold DE at h;rw [A4] at h;rw [OwnL] at o1 o2;obtain ⟨_,_,g1,g2,rfl,_,_,p1,p2⟩:=o1;obtain ⟨_,_,k1,k2,rfl,_,_,q1,q2⟩:=o2;cases r1 with
     | cons a1 a2=>
      cases r2 with
      | cons b1 b2=>
       have t:=ih ys d e _ _ g2 k2 _ _ h.2 p2 q2 a2 b2;refine ⟨congrArg (·+ 1) t.1,λ j h1 h2=>?_⟩;cases j with
       | zero=>exact TQ I n x y d e _ _ g1 k1 _ _ A.in1 (by have e:A.in1.units=A.units + 1:=rfl;omega) h.1 p1 q1 a1 b1
       | succ j=>exact t.2 j (MT h1) (MT h2)
  cases x with
  | non=>cases y <;> first | (cases h;done) | (rw [Own] at o1 o2;obtain ⟨rfl,_⟩:=o1;obtain ⟨rfl,_⟩:=o2;cases r1;cases r2;exact JS _)
  | bl b=>cases y <;> first | (cases h;done) | (rw [Own] at o1 o2;obtain ⟨rfl,_⟩:=o1;obtain ⟨rfl,_⟩:=o2;cases r1;cases r2;have e:=eq_of_beq (show (b == _)=true from h);subst e;exact JS _)
  | int i=>cases y <;> first | (cases h;done) | (rw [Own] at o1 o2;obtain ⟨rfl,_⟩:=o1;obtain ⟨rfl,_⟩:=o2;obtain ⟨t,rfl⟩:=r1;obtain ⟨t',rfl⟩:=r2;have e:=eq_of_beq (show (i == _)=true from h);subst e;have z:=SeqAt.EqAt.int_int (A:=A) (s:=s) i t i t';rwa [beq_self_eq_true] at z)
  | str i=>cases y <;> first | (cases h;done) | (rw [Own] at o1 o2;obtain ⟨rfl,_⟩:=o1;obtain ⟨rfl,_⟩:=o2;obtain ⟨t,rfl⟩:=r1;obtain ⟨t',rfl⟩:=r2;have e:=eq_of_beq (show (i == _)=true from h);subst e;have z:=SeqAt.EqAt.str_str (A:=A) (s:=s) i t i t';rwa [beq_self_eq_true] at z)
  | emp=>cases y <;> first | (cases h;done) | (rw [Own] at o1 o2;obtain ⟨_,a,rfl,ha⟩:=o1;obtain ⟨_,b,rfl,hb⟩:=o2;cases r1;cases r2;exact Ww I ha hb (by omega))
  | dko=>cases h
  | lst xs=>
   cases y with
   | lst ys=>
    obtain ⟨a,ws,d',f,rfl,ha,ol⟩:=Hj o1;obtain ⟨b,ws',e',f',rfl,hb,ol'⟩:=Hj o2;cases r1;cases r2;obtain ⟨its,rv,p,_⟩:=I.list (.inl (.inl ha));obtain ⟨its',rv',p',_⟩:=I.list (.inl (.inl hb));have t:=all xs ys d' e' ws ws' f f' its its' h ol ol' rv rv';obtain ⟨ob,nn,e1,e2,e3,e4⟩:=p;obtain ⟨ob',nn',e1',e2',e3',e4'⟩:=p';by_cases e:a=b
    ·subst e;exact JS _
    ·refine Oz e ?_;have z:=SeqAt.RcAt.lists (A:=A) (s:=s) (l:=a) (b:=b) (items:=its.toArray) (items2:=its'.toArray) (e:=λ _=>true) ⟨ob,e1,e2,nn,e4⟩ ⟨ob',e1',e2',nn',e4'⟩ (by simpa using t.1) (by omega) (λ j h1 h2=>by simpa using t.2 j (by simpa using h1) (by simpa using h2));rwa [Lx λ _ _=>rfl] at z
   | _=>cases h
  | tup xs=>
   cases y with
   | tup ys=>
    rw [Own] at o1 o2;obtain ⟨a,ws,rfl,ha,ol⟩:=o1;obtain ⟨b,ws',rfl,hb,ol'⟩:=o2;cases r1;cases r2;obtain ⟨its,rv,⟨ob,e1,e2,nn,e4⟩,_⟩:=I.tuple (.inl (.inl ha));obtain ⟨its',rv',⟨ob',e1',e2',nn',e4'⟩,_⟩:=I.tuple (.inl (.inl hb));have t:=all xs ys _ _ ws ws' _ _ its its' h ol ol' rv rv';by_cases e:a=b
    ·subst e;exact JS _
    ·refine Oz e ?_;have z:=SeqAt.RcAt.tuples (A:=A) (s:=s) (l:=a) (b:=b) (items:=its.toArray) (items2:=its'.toArray) (e:=λ _=>true) ⟨ob,e1,e2,nn,e4⟩ ⟨ob',e1',e2',nn',e4'⟩ (by omega) (λ j h1 h2=>by simpa using t.2 j (by simpa using h1) (by simpa using h2));have z2:((its.toArray.size == its'.toArray.size):Bool)=true:=by simpa using t.1
     rwa [Lx λ _ _=>rfl,z2] at z
   | _=>cases h
  | scr ns=>cases y <;> cases h
  | dct _=>cases y <;> cases h
  | exn _=>cases y <;> cases h
theorem Rf {pins:List (Addr×Obj)}{s:Af}{Z Z':Addr->Prop} (I:L2.Inv X pins σ H s) {A:AJ} (hu:A.units + 64 < Bx):∀ (xs ys:List PV) (d e:Nat) (vs ws:List V) (f1 f2:List Addr) (us us':List Ac),DE (Ei 20) xs ys=true->OwnL X.K H Z xs d vs f1->OwnL X.K H Z' ys e ws f2->Vals vs us->Vals ws us'->us.length=us'.length/\∀ j (h1:j < us.length) (h2:j < us'.length),SeqAt.EqAt A.in1 s us[j] us'[j] true:=λ xs=>by
 induction xs with
 | nil=>
  intro ys d e vs ws f1 f2 us us' h o1 o2 r1 r2;cases ys with
  | cons _ _=>cases h
  | nil=>
   rw [OwnL] at o1 o2;obtain ⟨rfl,_⟩:=o1;obtain ⟨rfl,_⟩:=o2;cases r1;cases r2;exact ⟨rfl,λ j h1 _=>nomatch h1⟩
 | cons x xs ih=>
  intro ys d e vs ws f1 f2 us us' h o1 o2 r1 r2;cases ys with
  | nil=>cases h
  | cons y ys=>
   unfold DE at h;rw [A4] at h;rw [OwnL] at o1 o2;obtain ⟨_,_,g1,g2,rfl,_,_,p1,p2⟩:=o1;obtain ⟨_,_,k1,k2,rfl,_,_,q1,q2⟩:=o2;cases r1 with
   | cons a1 a2=>
    cases r2 with
    | cons b1 b2=>
     have t:=ih ys d e _ _ g2 k2 _ _ h.2 p2 q2 a2 b2;refine ⟨congrArg (·+ 1) t.1,λ j h1 h2=>?_⟩;cases j with
     | zero=>exact TQ I 20 x y d e _ _ g1 k1 _ _ A.in1 (by have e:A.in1.units=A.units + 1:=rfl;omega) h.1 p1 q1 a1 b1
     | succ j=>exact t.2 j (MT h1) (MT h2)
def Rg {pins:List (Addr×Obj)}{s:Af}{Z Z':Addr->Prop} (I:L2.Inv X pins σ H s) {xs ys:List PV}{d e:Nat}{v w:V}{f1 f2:List Addr}{u u':Ac}{A:AJ} (hu:A.units + 64 < Bx) (h:DE (Ei 20) xs ys=true) (o1:Own X.K H Z (.lst xs) d v f1) (o2:Own X.K H Z' (.lst ys) e w f2) (r1:RelV v u) (r2:RelV w u'):SeqAt.RcAt A s u u' true/\L9 A s u u' false:=by
 obtain ⟨a,ws,d',f,rfl,ha,ol⟩:=Hj o1;obtain ⟨b,ws',e',f',rfl,hb,ol'⟩:=Hj o2;cases r1;cases r2;obtain ⟨its,rv,⟨ob,nn,e1,e2,e3,e4⟩,_⟩:=I.list (.inl (.inl ha));obtain ⟨its',rv',⟨ob',nn',e1',e2',e3',e4'⟩,_⟩:=I.list (.inl (.inl hb));have t:=Rf I hu xs ys d' e' ws ws' f f' its its' h ol ol' rv rv';have z:=SeqAt.RcAt.lists (A:=A) (s:=s) (l:=a) (b:=b) (items:=its.toArray) (items2:=its'.toArray) (e:=λ _=>true) ⟨ob,e1,e2,nn,e4⟩ ⟨ob',e1',e2',nn',e4'⟩ (by simpa using t.1) (by omega) (λ j h1 h2=>by simpa using t.2 j (by simpa using h1) (by simpa using h2));have z':=SeqAt.RcNeAt.lists (A:=A) (s:=s) (l:=a) (b:=b) (items:=its.toArray) (items2:=its'.toArray) (e:=λ _=>true) ⟨ob,e1,e2,nn,e4⟩ ⟨ob',e1',e2',nn',e4'⟩ (by simpa using t.1) (by omega) (λ j h1 h2=>by simpa using t.2 j (by simpa using h1) (by simpa using h2));rw [Lx λ _ _=>rfl] at z z';exact ⟨z,z'⟩
def Qy {pins:List (Addr×Obj)}{s:Af}{Z Z':Addr->Prop} (I:L2.Inv X pins σ H s) {xs ys:List PV}{d e:Nat}{v w:V}{f1 f2:List Addr}{u u':Ac}{A:AJ} (hu:A.units + 64 < Bx) (h:DE (Ei 20) xs ys=true) (o1:Own X.K H Z (.tup xs) d v f1) (o2:Own X.K H Z' (.tup ys) e w f2) (r1:RelV v u) (r2:RelV w u'):SeqAt.RcAt A s u u' true/\L9 A s u u' false:=by
 rw [Own] at o1;rw [Own] at o2;obtain ⟨a,ws,rfl,ha,ol⟩:=o1;obtain ⟨b,ws',rfl,hb,ol'⟩:=o2;cases r1;cases r2;obtain ⟨its,rv,⟨ob,e1,e2,nn,e4⟩,_⟩:=I.tuple (.inl (.inl ha));obtain ⟨its',rv',⟨ob',e1',e2',nn',e4'⟩,_⟩:=I.tuple (.inl (.inl hb));have t:=Rf I hu xs ys _ _ ws ws' _ _ its its' h ol ol' rv rv';have z:=SeqAt.RcAt.tuples (A:=A) (s:=s) (l:=a) (b:=b) (items:=its.toArray) (items2:=its'.toArray) (e:=λ _=>true) ⟨ob,e1,e2,nn,e4⟩ ⟨ob',e1',e2',nn',e4'⟩ (by omega) (λ j h1 h2=>by simpa using t.2 j (by simpa using h1) (by simpa using h2));have z':=SeqAt.RcNeAt.tuples (A:=A) (s:=s) (l:=a) (b:=b) (items:=its.toArray) (items2:=its'.toArray) (e:=λ _=>true) ⟨ob,e1,e2,nn,e4⟩ ⟨ob',e1',e2',nn',e4'⟩ (by omega) (λ j h1 h2=>by simpa using t.2 j (by simpa using h1) (by simpa using h2));have z2:((its.toArray.size == its'.toArray.size):Bool)=true:=by simpa using t.1
 rw [Lx λ _ _=>rfl,z2] at z z';exact ⟨z,z'⟩
def T6 {pins:List (Addr×Obj)}{s:Af}{Z Z':Addr->Prop} (I:L2.Inv X pins σ H s) {xs ys:List PV}{d e:Nat}{v w:V}{f1 f2:List Addr}{u u':Ac}{A:AJ} (hu:A.units + 64 < Bx) (h:xs.length≠ys.length) (o1:Own X.K H Z (.lst xs) d v f1) (o2:Own X.K H Z' (.lst ys) e w f2) (r1:RelV v u) (r2:RelV w u'):SeqAt.RcAt A s u u' false/\L9 A s u u' true:=by
 obtain ⟨a,ws,d',f,rfl,ha,ol⟩:=Hj o1;obtain ⟨b,ws',e',f',rfl,hb,ol'⟩:=Hj o2;cases r1;cases r2;obtain ⟨its,rv,⟨ob,nn,e1,e2,e3,e4⟩,_⟩:=I.list (.inl (.inl ha));obtain ⟨its',rv',⟨ob',nn',e1',e2',e3',e4'⟩,_⟩:=I.list (.inl (.inl hb));have hl:(its.toArray.size != its'.toArray.size)=true:=by
  have h1:=rv.length;have h2:=rv'.length;rw [ol.length] at h1;rw [ol'.length] at h2;simp only [Bl,bne_iff_ne];omega
 exact ⟨SeqAt.RcAt.lists_lengths ⟨ob,e1,e2,nn,e4⟩ ⟨ob',e1',e2',nn',e4'⟩ hl (by omega),SeqAt.RcNeAt.lists_lengths ⟨ob,e1,e2,nn,e4⟩ ⟨ob',e1',e2',nn',e4'⟩ hl (by omega)⟩
def T9 {pins:List (Addr×Obj)}{s:Af}{Z Z':Addr->Prop} (I:L2.Inv X pins σ H s) {d e:Nat}{v w:V}{f1 f2:List Addr}{u u':Ac}{A:AJ} (hu:A.units < Bx) (o1:Own X.K H Z .emp d v f1) (o2:Own X.K H Z' .emp e w f2) (r1:RelV v u) (r2:RelV w u'):SeqAt.RcAt A s u u' true/\L9 A s u u' false:=by
 rw [Own] at o1;rw [Own] at o2;obtain ⟨_,a,rfl,ha⟩:=o1;obtain ⟨_,b,rfl,hb⟩:=o2;cases r1;cases r2;obtain ⟨_,z1,vs,k1,d1⟩:=IV I.hok ha;obtain ⟨_,z2,ws,k2,d2⟩:=IV I.hok hb;cases k1;cases k2;exact ⟨λ prog w E Q hq=>PySem.W.keq_eq (knd:=CU prog w) (r:=true) z1 z2 (IF d1) (IF d2) hu (λ _=>.nil) (by simpa using hq),λ prog w E Q hq=>PySem.W.keq_ne (knd:=CU prog w) (r:=true) z1 z2 (IF d1) (IF d2) hu (λ _=>.nil) (by simpa using hq)⟩
def HL (K:Frag) (neg:Bool):R2:=λ v w H Q=>∃ x y d e Z Z' f1 f2,Own K H Z x d v f1/\Own K H Z' y e w f2/\((∃ a b,BN 20 x=some a/\BN 20 y=some b/\Q (.bl (neg^^EV a b)) H)\/(∃ xs ys,x=.lst xs/\y=.lst ys/\DE (Ei 20) xs ys=true/\Q (.bl (neg^^true)) H)\/(∃ xs ys,x=.lst xs/\y=.lst ys/\xs.length≠ys.length/\Q (.bl (neg^^false)) H)\/(∃ a b,x=.str a/\y=.str b/\Q (.bl (neg^^(a == b))) H)\/(x=.emp/\y=.emp/\Q (.bl (neg^^true)) H)\/∃ xs ys,x=.tup xs/\y=.tup ys/\DE (Ei 20) xs ys=true/\Q (.bl (neg^^true)) H)
def Xn (hu:X.A.units + 64 < Bx):OpR X (Cb .Eq) (HL X.K false):=by
 intro pins s σ H v w u u' Q I rx ry h;obtain ⟨x,y,d,e,Z,Z',f1,f2,o1,o2,⟨a,b,h1,h2,q⟩ | ⟨xs,ys,rfl,rfl,h,q⟩ | ⟨xs,ys,rfl,rfl,h,q⟩ | ⟨a,b,rfl,rfl,q⟩ | ⟨rfl,rfl,q⟩ | ⟨xs,ys,rfl,rfl,h,q⟩⟩:=h
 ·obtain ⟨as,ra⟩:=EK I 20 x d v f1 u a h1 o1 rx;obtain ⟨bs,rb⟩:=EK I 20 y e w f2 u' b h2 o2 ry;have l1:=El 20 x a h1;have l2:=El 20 y b h2;exact SeqAt.compareEq_reads ra rb l1.1 l2.1 (by have:=UH a.depth b.depth;omega) ⟨.bl _,H,I,rfl,by simpa using q⟩
 ·exact (Rg I hu h o1 o2 rx ry).1 _ _ _ _ ⟨.bl _,H,I,rfl,q⟩
 ·exact (T6 I hu h o1 o2 rx ry).1 _ _ _ _ ⟨.bl _,H,I,rfl,q⟩
 ·rw [Own] at o1 o2;obtain ⟨rfl,_⟩:=o1;obtain ⟨rfl,_⟩:=o2;obtain ⟨t,rfl⟩:=rx;obtain ⟨t',rfl⟩:=ry;exact SeqAt.RcAt.str_str a t b t' _ _ _ _ ⟨.bl _,H,I,rfl,by simpa using q⟩
 ·exact (T9 I (by omega) o1 o2 rx ry).1 _ _ _ _ ⟨.bl _,H,I,rfl,q⟩
 ·exact (Qy I hu h o1 o2 rx ry).1 _ _ _ _ ⟨.bl _,H,I,rfl,q⟩
def WN (hu:X.A.units + 64 < Bx):OpR X (Cb .NotEq) (HL X.K true):=by
 intro pins s σ H v w u u' Q I rx ry h;obtain ⟨x,y,d,e,Z,Z',f1,f2,o1,o2,⟨a,b,h1,h2,q⟩ | ⟨xs,ys,rfl,rfl,h,q⟩ | ⟨xs,ys,rfl,rfl,h,q⟩ | ⟨a,b,rfl,rfl,q⟩ | ⟨rfl,rfl,q⟩ | ⟨xs,ys,rfl,rfl,h,q⟩⟩:=h
 ·obtain ⟨as,ra⟩:=EK I 20 x d v f1 u a h1 o1 rx;obtain ⟨bs,rb⟩:=EK I 20 y e w f2 u' b h2 o2 ry;have l1:=El 20 x a h1;have l2:=El 20 y b h2;exact SeqAt.compareNe_reads ra rb l1.1 l2.1 (by have:=UH a.depth b.depth;omega) ⟨.bl _,H,I,rfl,by simpa using q⟩
 ·exact (Rg I hu h o1 o2 rx ry).2 _ _ _ _ ⟨.bl _,H,I,rfl,q⟩
 ·exact (T6 I hu h o1 o2 rx ry).2 _ _ _ _ ⟨.bl _,H,I,rfl,q⟩
 ·rw [Own] at o1 o2;obtain ⟨rfl,_⟩:=o1;obtain ⟨rfl,_⟩:=o2;obtain ⟨t,rfl⟩:=rx;obtain ⟨t',rfl⟩:=ry;exact SeqAt.RcNeAt.str_str a t b t' _ _ _ _ ⟨.bl _,H,I,rfl,by simpa using q⟩
 ·exact (T9 I (by omega) o1 o2 rx ry).2 _ _ _ _ ⟨.bl _,H,I,rfl,q⟩
 ·exact (Qy I hu h o1 o2 rx ry).2 _ _ _ _ ⟨.bl _,H,I,rfl,q⟩
def Uw {neg:Bool}{x y z:PV}{d e c:Nat}{v w:V}{fps:AA}{f1 f2 F:List Addr}{Z Z':Addr->Prop} (hK:M.K=X.K) (ho:A2 neg x d y e=some (z,c)) (o1:Own M.K H Z x d v f1) (o2:Own M.K H Z' y e w f2) (lf:AU M H fps vs F z c Q):HL X.K neg v w H Q:=by
 rw [hK] at o1 o2;refine ⟨x,y,d,e,Z,Z',f1,f2,o1,o2,?_⟩;unfold A2 at ho;split at ho
 ·rename_i a b ea eb;cases ho;exact .inl ⟨a,b,ea,eb,Dk lf⟩
 ·split at ho
  ·rename_i xs ys _;split at ho
   ·rename_i hc;cases ho;exact .inr (.inl ⟨xs,ys,rfl,rfl,hc,Dk lf⟩)
   ·split at ho
    ·rename_i hc;cases ho;exact .inr (.inr (.inl ⟨xs,ys,rfl,rfl,hc,Dk lf⟩))
    ·cases ho
  ·rename_i a b _;cases ho;exact .inr (.inr (.inr (.inl ⟨a,b,rfl,rfl,Dk lf⟩)))
  ·cases ho;exact .inr (.inr (.inr (.inr (.inl ⟨rfl,rfl,Dk lf⟩))))
  ·rename_i xs ys _;split at ho
   ·rename_i hc;cases ho;exact .inr (.inr (.inr (.inr (.inr ⟨xs,ys,rfl,rfl,hc,Dk lf⟩))))
   ·cases ho
  ·cases ho
def A7:PV->Nat->PV->Nat->Option (PV×Nat)
 | .lst xs,_,.int i,_=>(Bg xs i).map λ z=>(z,dv z)
 | .tup xs,_,.int i,_=>(Bg xs i).map λ z=>(z,dv z)
 | .scr ns,_,.int i,_=>(Bg ns i).map λ z=>(.int z,om)
 | .str z,_,.int i,_=>if z.length<=Ap then (Bg z.cps.toList i).map λ c=>(.str ⟨#[c]⟩,om) else none
 | _,_,_,_=>none
theorem ND {K:Frag}{Z:Addr->Prop}{xs:List PV}{ws:List V}{i:Int}{z:PV} (ol:OwnL K H Z xs 0 ws []) (e:Bg xs i=some z):∃ w,Bg ws i=some w/\Own K H Z z 0 w []:=by
 unfold Bg at e ⊢;rw [ol.length];cases ej:C1 xs.length i with
 | none=>rw [ej] at e;cases e
 | some j=>rw [ej] at e;exact ol.nth e
theorem SQ (hv:∀ i∈vs,M.Ms i=false) (hK:M.K=X.K) (hs:Lv b) (ha:PE X a (tE M f vs)) (hb:PE X b (tE M g vs')):PE X (.Subscript a b pos) (tE M (Ab A7 f g) (vs++vs')):=by
 refine AO (OQ SD ha hb hs) λ σ H Q h=>D7 hv (λ x d y e z c v w H fps f1 f2 Q ho o1 o2 dj nz zd lf=>?_) h;cases y with
 | int i=>
  rw [Own] at o2;cases x with
  | lst xs=>
   dsimp only [A7] at ho;obtain ⟨z',ez,e2⟩:=ja9.mp ho;cases e2;obtain ⟨p,ws,rfl,hp,ol⟩:=(cold o1 λ a ha=>nz a (AZ _ ha)).coldL;obtain ⟨w',e1,ow⟩:=ND ol ez;exact .inl ⟨p,ws,i,w',rfl,o2.1,.inl (.inl hp),e1,Ip lf ow⟩
  | tup xs=>
   dsimp only [A7] at ho;obtain ⟨z',ez,e2⟩:=ja9.mp ho;cases e2;obtain ⟨p,ws,rfl,hp,ol⟩:=(cold o1 λ a ha=>nz a (AZ _ ha)).coldT;obtain ⟨w',e1,ow⟩:=ND ol ez;exact .inr (.inl ⟨p,ws,i,w',rfl,o2.1,.inl (.inl hp),e1,Ip lf ow⟩)
  | scr ns=>
   dsimp only [A7] at ho;obtain ⟨z',ez,e2⟩:=ja9.mp ho;cases e2;rw [Own] at o1;obtain ⟨_,p,rfl,hp⟩:=o1;refine .inl ⟨p,ns.map V.int,i,.int z',rfl,o2.1,?_,?_,CS lf⟩
   ·rw [<- hK];exact hp.elim (λ h=>.inl (.inr h)) .inr
   ·unfold Bg at ez ⊢;rw [AF];cases ej:C1 ns.length i with
    | none=>rw [ej] at ez;cases ez
    | some j=>
     rw [ej] at ez;show (ns.map V.int)[j]?=_;rw [DA]
     have:ns[j]?=some z':=ez
     rw [this];rfl
  | str z=>
   dsimp only [A7] at ho;split at ho
   ·rename_i hl;obtain ⟨c',ez,e2⟩:=ja9.mp ho;cases e2;rw [Own] at o1;exact .inr (.inr ⟨z,i,c',o1.1,o2.1,hl,ez,Iu lf⟩)
   ·cases ho
  | _=>cases ho
 | _=>cases x <;> cases ho
def Jm:Option Fx->Ae->Rz (Option Int×Ae)
 | none,ρ=>.ok (none,ρ)
 | some f,ρ=>(f ρ).bind λ (x,_,ρ1)=>match x with
  | .int i=>.ok (some i,ρ1)
  | _=>.no
def D6 (xs:List PV) (lo hi:Option Int):List PV:=(xs.drop (HT.sIx xs.length 0 lo)).take (HT.sIx xs.length xs.length hi - HT.sIx xs.length 0 lo)
def HR (x:PV) (lo hi:Option Int):Option (PV×Nat):=match x with
 | .lst xs=>some (.lst (D6 xs lo hi),d1 (D6 xs lo hi))
 | .tup xs=>if HT.sIx xs.length 0 lo=0/\HT.sIx xs.length xs.length hi=xs.length then none else some (.tup (D6 xs lo hi),0)
 | .str z=>if z.length<=Ap then some (.str (Txt.slice z lo hi),om) else none
 | _=>none
def KJ (f:Fx) (lo hi:Option Fx):Fx:=λ ρ=>(f ρ).bind λ (x,_,ρ1)=>(Jm lo ρ1).bind λ (l,ρ2)=>(Jm hi ρ2).bind λ (u,ρ3)=>match HR x l u with
 | some (z,c)=>.ok (z,c,ρ3)
 | none=>.no
def tO (M:Fm):Option (Fx×List Nat)->TO
 | none=>Uh
 | some (f,vs)=>Sk (tE M f vs)
theorem TV {o:Option (Fx×List Nat)}{ρ:Ae}{fps:AA}{R:Option Int->Hp->Prop} (rep:Rep M ρ σ H fps)
  (q:match Jm (o.map (·.1)) ρ with
   | .ok (l,ρ')=>∀ H' fps',KD M H fps H' fps'->Agr M ρ ρ'->Rep M ρ' σ H' fps'->R l H'
   | .exc c=>∀ H' fps',KD M H fps H' fps'->M.W σ c H'
   | .no=>False):tO M o σ H R:=by
 cases o with
 | none=>exact q H fps KD.refl Agr.refl rep
 | some p=>
  obtain ⟨f,vs⟩:=p;refine ⟨ρ,fps,rep,?_⟩;dsimp only [U1,Jm] at q;cases ef:f ρ with
  | no=>rw [ef] at q;exact q
  | exc c=>rw [ef] at q;exact q
  | ok p=>
   obtain ⟨x,d,ρ1⟩:=p;rw [ef] at q;intro v H1 fps1 f1 k1 g1 rep1 o1 t1;dsimp only [Rz.bind] at q;cases x with
   | int i=>rw [Own] at o1;exact ⟨i,o1.1,q H1 fps1 k1 g1 rep1⟩
   | _=>exact q.elim
def Kd:V->Option Int->Option Int->Hp->VK->Prop:=λ x lo hi H Q=>∃ z,x=.str z/\z.length<=Ap/\Q (.str (Txt.slice z lo hi)) H
theorem Pn:SlR X Kd:=by
 intro pins s σ H x v vl vu lo hi sl Q I rx hs pl pu h;obtain ⟨z,rfl,hz,q⟩:=h;obtain ⟨t,rfl⟩:=rx;have go:∀ (l u:Option (Int×Tok)),vl=partValue l->vu=partValue u->l.map (·.1)=lo->u.map (·.1)=hi->∃ T id,typeLookup (.type T) "__getitem__" = pure (some (.builtin id))/\s.TypeIs (.str z t) T/\Al (An X.prog X.w) X.A (getItem (.str z t) (.ref sl)) (EP X pins σ Q) X.xe s:=by
  rintro l u rfl rfl rfl rfl;refine ⟨"str",_,F.slot_str_getitem.lookup,IK _ _ _,wpAny_getItem_str_slice (l:=l) (u:=u) (st:=none) hs rfl (post_val_or_str ⟨Co (Txt.slice_le z _ _) hz,λ t' k=>⟨.str _,H,I.tok _,⟨_,rfl⟩,q⟩⟩)⟩
 cases pl with
 | none=>
  cases pu with
  | none=>exact go none none rfl rfl rfl rfl
  | int j uj=>exact go none (some (j,uj)) rfl rfl rfl rfl
 | int i ui=>
  cases pu with
  | none=>exact go (some (i,ui)) none rfl rfl rfl rfl
  | int j uj=>exact go (some (i,ui)) (some (j,uj)) rfl rfl rfl rfl
theorem OW {lo hi:Option (Fx×List Nat)} (hv:∀ i∈vs,M.Ms i=false) (hK:M.K=X.K) {σ:St}{H:Hp}{Q:VK} (hq:tE M (KJ f (lo.map (·.1)) (hi.map (·.1))) vs σ H Q):RP (λ x lo hi H Q=>Ke X.K x lo hi H Q\/(Kc X.K x lo hi H Q\/Kd x lo hi H Q)) (tE M f vs) (tO M lo) (tO M hi) σ H Q:=by
 obtain ⟨ρ,fps,rep,q⟩:=hq;refine ⟨ρ,fps,rep,?_⟩;unfold KJ at q;cases ef:f ρ with
 | no=>rw [ef] at q;exact q
 | exc c=>rw [ef] at q;exact q
 | ok p=>
  obtain ⟨x,d,ρ1⟩:=p;rw [ef] at q;intro v H1 fps1 f1 k1 g1 rep1 o1 t1;dsimp only [Rz.bind] at q;refine TV rep1 ?_;cases el:Jm (lo.map (·.1)) ρ1 with
  | no=>rw [el] at q;exact q
  | exc c=>rw [el] at q;exact λ H' fps' k=>q H' fps' (k1.trans k)
  | ok p2=>
   obtain ⟨l,ρ2⟩:=p2;rw [el] at q;intro H2 fps2 k2 g2 rep2;refine TV rep2 ?_;dsimp only at q;cases eh:Jm (hi.map (·.1)) ρ2 with
   | no=>rw [eh] at q;exact q
   | exc c=>rw [eh] at q;exact λ H' fps' k=>q H' fps' ((k1.trans k2).trans k)
   | ok p3=>
    obtain ⟨u,ρ3⟩:=p3;rw [eh] at q;intro H3 fps3 k3 g3 rep3;dsimp only at q;have kk:=k2.trans k3;have o3:=kk.stay rep1 hv o1 t1.ndj;have n3:∀ a∈f1,¬ Zf M fps3 a:=λ a ha z=>by
     rcases z with z | ⟨i,z⟩
     ·exact t1.ndj a ha (.inl z)
     ·rcases kk.sub i a z with z | z
      ·exact t1.ndj a ha (.inr ⟨i,z⟩)
      ·obtain ⟨xs,e⟩:=Own.lsts x d v f1 o1 a ha;rw [z] at e;cases e
    have back:∀ a,H3 a=none->H a=none:=λ a e=>by
     cases e':H a with
     | none=>rfl
     | some o=>exact absurd e ((k1.trans kk).dom a (by rw [e'];simp))
    cases eo:HR x l u with
    | none=>rw [eo] at q;exact q.elim
    | some zc=>
     obtain ⟨z,c⟩:=zc;rw [eo] at q;have lf:AU M H3 fps3 vs f1 z c Q:=λ w H4 fp k4 o4 hfp=>q w H4 fps3 fp ((k1.trans kk).trans (KD.grow k4)) (g1.trans (g2.trans g3)) (rep3.grow k4) o4 ⟨λ a ha=>(hfp a ha).elim (t1.new a) (back a),λ a ha=>(hfp a ha).elim (n3 a) λ z=>rep3.nz z⟩;have c0:=cold o3 n3;unfold HR at eo;cases x with
     | lst xs=>
      cases eo;obtain ⟨p,ws,rfl,hp,ol⟩:=c0.coldL;refine .inl ⟨p,ws,rfl,.inl (.inl hp),λ q hq=>?_⟩;have e:OwnL M.K H3 (Zv M vs fps3) (D6 xs l u) 0 (C3 ws l u) []:=by
       unfold D6 C3;rw [ol.length];exact (ol.drop _).take _
      exact GA lf e hq
     | tup xs=>
      dsimp only at eo;split at eo
      ·cases eo
      ·rename_i hw;cases eo;obtain ⟨p,ws,rfl,hp,ol⟩:=c0.coldT;refine .inr (.inl ⟨p,ws,rfl,.inl (.inl hp),by rw [ol.length];exact hw,λ q hq=>?_⟩);have e:OwnL M.K H3 (Zv M vs fps3) (D6 xs l u) 0 (C3 ws l u) []:=by
        unfold D6 C3;rw [ol.length];exact (ol.drop _).take _
       exact Le lf e hq
     | str z=>
      dsimp only at eo;split at eo
      ·rename_i hz;cases eo;rw [Own] at o3;exact .inr (.inr ⟨z,o3.1,hz,Iu lf⟩)
      ·cases eo
     | _=>cases eo
def JC:PV->String
 | .non => "NoneType"
 | .bl _ => "bool"
 | .int _ => "int"
 | .str _ => "str"
 | .lst _ => "list"
 | .tup _ => "tuple"
 | .emp => "dict"
 | .dko => "dict"
 | .dct _ => "dict"
 | _ => ""
def Ie (t T:String):Bool:=t == T || (t == "bool" && T == "int")
def Gb:List String:=["int","bool","str","list","tuple","dict"]
def ER (T:String) (x:PV) (_:Nat):Option (PV×Nat):=match x with
 | .scr _=>none
 | .exn _=>none
 | _=>some (.bl (Ie (JC x) T),om)
theorem Own.ty {K:Frag}{Z:Addr->Prop}{x:PV}{d:Nat}{v:V}{fp:List Addr} (h:Own K H Z x d v fp) (hs:∀ ns,x≠.scr ns) (hx:∀ c,x≠.exn c):TyOf K H v (.type (JC x)):=by
 cases x with
 | non=>rw [Own] at h;rw [h.1];exact .non
 | bl b=>rw [Own] at h;rw [h.1];exact .bl b
 | int i=>rw [Own] at h;rw [h.1];exact .int i
 | str s=>rw [Own] at h;rw [h.1];exact .str s
 | emp=>rw [Own] at h;obtain ⟨_,a,e,ha⟩:=h;rw [e];exact .dK ha
 | dko=>rw [Own] at h;obtain ⟨_,a,e,_,ha⟩:=h;rw [e];exact .dK ha
 | scr ns=>exact absurd rfl (hs ns)
 | exn c=>exact absurd rfl (hx c)
 | dct kvs=>
  rw [Own] at h;obtain ⟨a,e,⟨_,hr,_⟩ | ⟨_,ha,_⟩⟩:=h
  ·rw [e];exact .dT hr.1
  ·rw [e];exact .dT ha
 | lst xs=>
  rw [Own] at h;obtain ⟨a,ws,e,⟨_,hr,_,_⟩ | ⟨_,f,ha,_⟩⟩:=h
  ·rw [e];exact .lst hr.1
  ·rw [e];exact .lst ha
 | tup xs=>
  rw [Own] at h;obtain ⟨a,ws,e,hr,_⟩:=h;rw [e];exact .tup hr
end
section
variable {X:Cx}{M:Fm}{a b:Expr}{f g:Fx}{fa:Fa}{vs vs':List Nat}{pos p:Pos}{σ:St}{H:Hp}{Q:VK}{e:Expr}{es:List Expr}
def XI:PA X [] (tL M Ad []):=SF DU λ σ H Q h=>X8 h
def Zq (hv:∀ i∈vs,M.Ms i=false) (ha:PE X e (tE M f vs)) (hr:PA X es (tL M fa vs')) (hs:As (e::es) X.env=(false,eval e X.env)::As es X.env):PA X (e::es) (tL M (Ah f fa) (vs++vs')):=
 SF (Dg ha hr hs) λ σ H Q h=>Ug hv h
def DW {op:List (PV×Nat)->Option (PV×Nat)}{r:List V->Hp->VK->Prop}
  (leaf:∀ xs z c ws H fps fp Q,op xs=some (z,c)->Tmps M.K H (Zv M vs fps) xs ws fp->(∀ a∈fp,¬ Zf M fps a)->(∀ a,Zf M fps a->H a≠none)->AU M H fps vs fp z c Q->r ws H Q)
  {σ:St}{H:Hp}{Q:VK} (hq:tE M (Aq op fa) vs σ H Q):LV r (tL M fa vs) σ H Q:=L4 leaf hq
def Bo (xs:List (PV×Nat)):Option (PV×Nat):=if xs.length<=Ap then some (.lst (xs.map (·.1)),if C5 xs then om else 1) else none
def GD (xs:List (PV×Nat)):Option (PV×Nat):=if xs.length<=Ap then some (.tup (xs.map (·.1)),if C5 xs then om else 0) else none
def Xy (h:PA X es (tL M fa vs)):PE X (.List es pos) (tE M (Aq Bo fa) vs):=by
 refine AO (SH h) λ σ H Q h=>L4 (r:=λ xs H1 Q=>xs.length<=Ap/\∀ p,H1 p=none->Q (.ref p) (Am H1 p (.lst xs))) (λ xs z c ws H fps fp Q ho tm nz zd lf=>?_) h;unfold Bo at ho;split at ho
 ·rename_i hl;refine ⟨by rw [tm.length];exact hl,λ q hq=>?_⟩;cases eo:C5 xs with
  | true=>rw [eo] at ho;cases ho;exact N6 lf (tm.all (J6 eo)) hq
  | false=>rw [eo] at ho;cases ho;exact Nk lf (tm.cold λ a ha z=>nz a ha z.zf) hq
 ·cases ho
def X2 {x1:_} (h:PA X es (tL M fa vs)):PE X (.Tuple es x1 pos) (tE M (Aq GD fa) vs):=by
 refine AO (SJ h) λ σ H Q h=>L4 (r:=λ xs H1 Q=>xs.length<=Ap/\∀ p,H1 p=none->Q (.ref p) (Am H1 p (.tup xs))) (λ xs z c ws H fps fp Q ho tm nz zd lf=>?_) h;unfold GD at ho;split at ho
 ·rename_i hl;refine ⟨by rw [tm.length];exact hl,λ q hq=>?_⟩;cases eo:C5 xs with
  | true=>rw [eo] at ho;cases ho;exact qX lf (tm.all (J6 eo)) hq
  | false=>rw [eo] at ho;cases ho;exact Le lf (tm.cold λ a ha z=>nz a ha z.zf) hq
 ·cases ho
def ZO:zwj X (.builtin "isinstance") (λ xs H Q=>∃ x t T k,xs=[x,.ty T]/\TyOf X.K H x t/\DH X.K t (.type T)=some k/\Q (.bl k) H):=by
 intro pins s σ H xs us Q I r h;obtain ⟨x,t,T,k,rfl,ty,hk,q⟩:=h;obtain ⟨u,w,rfl,r1,r2⟩:=Ku r;cases r2;exact qU I r1 ty hk λ tk=>⟨.bl k,H,I.tok _,rfl,q⟩
theorem WA (K:Frag) {T:String} (hT:T∈Gb) (x:PV) (hs:∀ ns,x≠.scr ns) (hx:∀ c,x≠.exn c):DH K (.type (JC x)) (.type T)=some (Ie (JC x) T):=by
 simp only [Gb,ja8,Hc,or_false] at hT;cases x with
 | scr ns=>exact absurd rfl (hs ns)
 | exn c=>exact absurd rfl (hx c)
 | _=>rcases hT with h | h | h | h | h | h <;> subst h <;> rfl
def Xv {T:String}{x T':Str}{p1 p2:Pos} (hT:T∈Gb) (hK:M.K=X.K) (ha:PE X e (tE M f vs)) (hg:Gl X "isinstance") (hm:X.mg "isinstance" = none) (hT':PE X (.Name T' p2) (tC (.ty T)))
  (hs1:As [e,.Name T' p2] X.env=[(false,eval e X.env),(false,eval (.Name T' p2) X.env)]) (hs2:As [Expr.Name T' p2] X.env=[(false,eval (.Name T' p2) X.env)]):
  PE X (.Call (.Name "isinstance" p1) [e,.Name T' p2] [] pos) (tE M (AS (ER T) f) vs):=by
 refine AO (EN ZO hg hm rfl (Dg ha (Dg hT' DU hs2) (by rw [hs1,hs2])) (he:=by rw [hs1,hs2]) (hpl:=by rw [hs2];rfl)) λ σ H Q h=>?_;refine Ja (r:=λ v H Q=>∃ x t T' k,[v,.ty T]=[x,.ty T']/\TyOf X.K H x t/\DH X.K t (.type T')=some k/\Q (.bl k) H) (λ x d z c v H fps f1 Q ho o1 nz zd lf=>?_) h;have hs:∀ ns,x≠.scr ns:=λ ns e=>by subst e;cases ho
 have hx:∀ c,x≠.exn c:=λ c e=>by subst e;cases ho
 have e2:z=.bl (Ie (JC x) T):=by
  cases x with
  | scr ns=>cases ho
  | exn c=>cases ho
  | _=>cases ho;rfl
 subst e2;exact ⟨v,_,T,_,rfl,by rw [<- hK];exact o1.ty hs hx,WA X.K hT x hs hx,Dk lf⟩
def Dn:List (PV×Nat)->Option (PV×Nat)
 | [(.lst xs,_)]=>some (.int xs.length,om)
 | [(.tup xs,_)]=>some (.int xs.length,om)
 | [(.scr ns,_)]=>some (.int ns.length,om)
 | [(.str z,_)]=>if z.length<=Ap then some (.int z.length,om) else none
 | _=>none
def Xx (hK:M.K=X.K) (hg:Gl X "len") (hm:X.mg "len" = none) (ha:PA X (e::es) (tL M fa vs)) (he:As (e::es) X.env=(false,eval e X.env)::As es X.env) (hpl:(BP pos (As es X.env)).any (·.1)=false):
  PE X (.Call (.Name "len" p) (e::es) [] pos) (tE M (Aq Dn fa) vs):=by
 refine AO (EN (zfv.or VI) hg hm PySem.boot_len ha (he:=he) (hpl:=hpl)) λ σ H Q h=>DW (λ xs z c ws H fps fp Q ho tm nz zd lf=>?_) h;unfold Dn at ho;split at ho
 ·rename_i xs d;cases ho;obtain ⟨v,r,f1,f2,rfl,_,_,o1,h2⟩:=tm;obtain ⟨rfl,_⟩:=h2;obtain ⟨q,us,rfl,hs,hl⟩:=o1.seqL;exact .inl ⟨q,us,rfl,.inl (by rw [<- hK];exact hs),by rw [hl];exact CS lf⟩
 ·rename_i xs d;cases ho;obtain ⟨v,r,f1,f2,rfl,_,_,o1,h2⟩:=tm;obtain ⟨rfl,_⟩:=h2;obtain ⟨q,us,rfl,hs,hl⟩:=o1.seqT;exact .inl ⟨q,us,rfl,.inr (by rw [<- hK];exact hs),by rw [hl];exact CS lf⟩
 ·rename_i ns d;cases ho;obtain ⟨v,r,f1,f2,rfl,_,_,o1,h2⟩:=tm;obtain ⟨rfl,_⟩:=h2;rw [Own] at o1;obtain ⟨_,q,rfl,hp⟩:=o1;refine .inl ⟨q,ns.map V.int,rfl,.inl ?_,by rw [AF];exact CS lf⟩;rw [<- hK];exact hp.elim (λ h=>.inl (.inr h)) .inr
 ·rename_i z d;split at ho
  ·rename_i hl;cases ho;obtain ⟨v,r,f1,f2,rfl,_,_,o1,h2⟩:=tm;obtain ⟨rfl,_⟩:=h2;rw [Own] at o1;obtain ⟨rfl,_⟩:=o1;exact .inr ⟨_,rfl,hl,CS lf⟩
  ·cases ho
 ·cases ho
def MF (k:Int->Int->Int):List (PV×Nat)->Option (PV×Nat)
 | [(.int i,_),(.int j,_)]=>some (.int (k i j),om)
 | _=>none
def Ux {k:Int->Int->Int}{xs:List (PV×Nat)}{z:PV}{c:Nat}{ws:List V}{fps:AA}{fp F:List Addr}{Z:Addr->Prop} (ho:MF k xs=some (z,c)) (tm:Tmps M.K H Z xs ws fp) (lf:AU M H fps vs F z c Q):∃ i j,ws=[.int i,.int j]/\Q (.int (k i j)) H:=by
 unfold MF at ho;split at ho
 ·rename_i i d j e;cases ho;obtain ⟨v,r,f1,f2,rfl,_,_,o1,h2⟩:=tm;obtain ⟨v2,r2,f3,f4,rfl,_,_,o2,h3⟩:=h2;obtain ⟨rfl,_⟩:=h3;rw [Own] at o1 o2;obtain ⟨rfl,_⟩:=o1;obtain ⟨rfl,_⟩:=o2;exact ⟨_,_,rfl,CS lf⟩
 ·cases ho
def IJ:List (PV×Nat)->Option (PV×Nat)
 | [(.lst xs,_)]=>some (.tup xs,0)
 | [(.tup xs,_)]=>some (.tup xs,0)
 | _=>none
def J4:List (PV×Nat)->Option (PV×Nat)
 | [(.lst xs,_)]=>some (.lst xs,d1 xs)
 | [(.tup xs,_)]=>some (.lst xs,d1 xs)
 | _=>none
def YU (hK:M.K=X.K) (hg:Gl X "tuple") (hm:X.mg "tuple" = none) (ha:PA X (e::es) (tL M fa vs)) (he:As (e::es) X.env=(false,eval e X.env)::As es X.env) (hpl:(BP pos (As es X.env)).any (·.1)=false):
  PE X (.Call (.Name "tuple" p) (e::es) [] pos) (tE M (Aq IJ fa) vs):=by
 refine AO (Lh V4 hg hm rfl ha (he:=he) (hpl:=hpl)) λ σ H Q h=>DW (λ xs z c ws H fps fp Q ho tm nz zd lf=>?_) h;unfold IJ at ho;split at ho
 ·rename_i xs d;cases ho;obtain ⟨v,r,f1,f2,rfl,rfl,_,o1,h2⟩:=tm;obtain ⟨rfl,rfl⟩:=h2;obtain ⟨q,us,rfl,hs,ol⟩:=(cold (fp:=f1) o1 λ a ha=>nz a (AZ _ ha)).coldL;exact ⟨q,us,rfl,.inl ⟨.inl (.inl hs),λ l hl=>Le lf ol hl⟩⟩
 ·rename_i xs d;cases ho;obtain ⟨v,r,f1,f2,rfl,rfl,_,o1,h2⟩:=tm;obtain ⟨rfl,rfl⟩:=h2;have c0:=cold (fp:=f1) o1 λ a ha=>nz a (AZ _ ha);obtain ⟨q,us,rfl,hs,ol⟩:=c0.coldT;exact ⟨q,us,rfl,.inr ⟨.inl (.inl hs),Ip (x:=.tup xs) lf c0⟩⟩
 ·cases ho
def YM (hK:M.K=X.K) (hg:Gl X "list") (hm:X.mg "list" = none) (ha:PA X (e::es) (tL M fa vs)) (he:As (e::es) X.env=(false,eval e X.env)::As es X.env) (hpl:(BP pos (As es X.env)).any (·.1)=false):
  PE X (.Call (.Name "list" p) (e::es) [] pos) (tE M (Aq J4 fa) vs):=by
 refine AO (Lh VJ hg hm rfl ha (he:=he) (hpl:=hpl)) λ σ H Q h=>DW (λ xs z c ws H fps fp Q ho tm nz zd lf=>?_) h;unfold J4 at ho;split at ho
 ·rename_i xs d;cases ho;obtain ⟨v,r,f1,f2,rfl,rfl,_,o1,h2⟩:=tm;obtain ⟨rfl,rfl⟩:=h2;obtain ⟨q,us,rfl,hs,ol⟩:=(cold (fp:=f1) o1 λ a ha=>nz a (AZ _ ha)).coldL;exact ⟨q,us,rfl,.inl (.inl (.inl hs)),λ l hl=>GA lf ol hl⟩
 ·rename_i xs d;cases ho;obtain ⟨v,r,f1,f2,rfl,rfl,_,o1,h2⟩:=tm;obtain ⟨rfl,rfl⟩:=h2;obtain ⟨q,us,rfl,hs,ol⟩:=(cold (fp:=f1) o1 λ a ha=>nz a (AZ _ ha)).coldT;exact ⟨q,us,rfl,.inr (.inl (.inl hs)),λ l hl=>GA lf ol hl⟩
 ·cases ho
end
section
variable {X:Cx}{M:Fm}{a b:Expr}{f g:Fx}{fa:Fa}{vs vs':List Nat}{pos p:Pos}{σ:St}{H:Hp}{Q:VK}{e:Expr}{es:List Expr}
def ZN (hc:X.calm=true):zwj X (.builtin "all") (λ xs H Q=>∃ (p:Addr) (bs:List Bool),xs=[.ref p]/\AN X.K H p (bs.map V.bl)/\Q (.bl (bs.all id)) H):=by
 intro pins s σ H xs us Q I r h;obtain ⟨p,bs,rfl,hq,q⟩:=h;obtain ⟨u,rfl,rx⟩:=CC r;cases rx;obtain ⟨its,rv,pl,hz⟩:=I.list hq;have hl:=rv.length;rw [AF] at hl;refine call_all_walk (wpAny_pyIter_list pl.isList ?_);have hlt:p < s.heap.objs.size:=by obtain ⟨o,n,e,_⟩:=pl;exact A9 e
 have hne:p≠s.heap.objs.size:=BG hlt;refine ⟨s.heap.objs.size,_,_,its.toArray.size,_,_,λ i=>bs.getD i true,rfl,Walks.list (A:=X.A.in1) (show X.A.in1.handled=none from I.ok.hd hc) s.heap.objs.size p hne its.toArray,⟨⟨_,BV _ rfl,rfl,rfl⟩,?_⟩,?_,λ h' tk k=>?_⟩
 ·exact pl.isList.at λ o e=>AX _ e
 ·intro i v s' Q' E' hv hq';have hv':its[i]?=some v:=by simpa using hv
  have hi:i < bs.length:=by rw [hl];exact (jb0.mp hv').1
  obtain ⟨w,e1,e2⟩:=rv.get (i:=i) (x:=.bl bs[i]) (by simp [hi]);rw [hv'] at e1;cases e1;cases e2;refine FJ ?_
  have:bs.getD i true=bs[i]:=by simp [P4,hi]
  dsimp only at hq';rw [this] at hq';exact hq'
 ·have I1:L2.Inv X pins σ H { s with heap:=s.heap.push { cls:=.type "list_iterator",data:=.fields #[.ref p,rawInt 0] } }:=I.kept (t':=s.toks) λ b o e=>AX _ e;obtain ⟨f0,f1,f2,f3,f4,f5⟩:=I.fpOk (H':=H) (AE s.heap.objs.size) (I.hok.fresh (AE _));have I2:L2.Inv X pins σ H { s with heap:=h',toks:=tk }:=I1.turned (t':=tk) (λ b o hb e=>k b o (by simpa using hb) e) f0 f1 f3 f4 f5;refine ⟨.bl _,H,I2,rfl,?_⟩;have e:(AY its.toArray.size).all (λ i=>bs.getD i true)=bs.all id:=by
   rw [Bl,<- hl];rw [Hb];simp only [jb8,jc6,id];constructor
   ·intro h x hx;obtain ⟨i,hi,rfl⟩:=Jj hx
    have:=h i hi
    simpa [P4,hi] using this
   ·intro h i hi;simp [P4,hi];exact h _ (FX hi)
  rw [e];exact q
def allB:List PV->Option (List Bool)
 | []=>some []
 | .bl b::r=>(allB r).map (b::·)
 | _=>none
def Em:List (PV×Nat)->Option (PV×Nat)
 | [(.lst xs,_)]=>(allB xs).map λ bs=>(.bl (bs.all id),om)
 | _=>none
theorem Ui {K:Frag}{Z:Addr->Prop}:∀ {xs:List PV}{ws:List V}{bs:List Bool},allB xs=some bs->OwnL K H Z xs 0 ws []->ws=bs.map V.bl
 | [],ws,bs,e,h=>by cases e;rw [OwnL] at h;exact h.1
 | .bl b::r,ws,bs,e,h=>by
  obtain ⟨bs',e1,rfl⟩:=ja9.mp e;rw [OwnL] at h;obtain ⟨v,s,f1,f2,rfl,ef,dj,h1,h2⟩:=h;obtain ⟨rfl,rfl⟩:f1=[]/\f2=[]:=by simpa using ef.symm
  rw [Own] at h1;rw [h1.1,Ui e1 h2];rfl
 | .non::_,_,_,e,_=>by cases e
 | .int _::_,_,_,e,_=>by cases e
 | .str _::_,_,_,e,_=>by cases e
 | .lst _::_,_,_,e,_=>by cases e
 | .tup _::_,_,_,e,_=>by cases e
 | .emp::_,_,_,e,_=>by cases e
 | .dko::_,_,_,e,_=>by cases e
 | .scr _::_,_,_,e,_=>by cases e
 | .dct _::_,_,_,e,_=>by cases e
 | .exn _::_,_,_,e,_=>by cases e
def Xq (hc:X.calm=true) (hg:Gl X "all") (hm:X.mg "all" = none) (ha:PA X (e::es) (tL M fa vs)) (he:As (e::es) X.env=(false,eval e X.env)::As es X.env) (hpl:(BP pos (As es X.env)).any (·.1)=false):
  PE X (.Call (.Name "all" p) (e::es) [] pos) (tE M (Aq Em fa) vs):=by
 refine AO (EN (ZN hc) hg hm rfl ha (he:=he) (hpl:=hpl)) λ σ H Q h=>DW (λ xs z c ws H fps fp Q ho tm nz zd lf=>?_) h;unfold Em at ho;split at ho
 ·rename_i xs d;obtain ⟨bs,eb,e2⟩:=ja9.mp ho;cases e2;obtain ⟨v,r,f1,f2,rfl,rfl,_,o1,h2⟩:=tm;obtain ⟨rfl,rfl⟩:=h2;obtain ⟨q,us,rfl,hs,ol⟩:=(cold (fp:=f1) o1 λ a ha=>nz a (AZ _ ha)).coldL
  have:=Ui eb ol
  subst this;exact ⟨q,bs,rfl,.inl (.inl hs),Dk lf⟩
 ·cases ho
def EO:List PV->Option (List Int)
 | []=>some []
 | .int i::r=>(EO r).map (i::·)
 | _=>none
theorem Fi {K:Frag}{Z:Addr->Prop}:∀ {xs:List PV}{ws:List V}{ns:List Int},EO xs=some ns->OwnL K H Z xs 0 ws []->ws=ns.map V.int
 | [],ws,ns,e,h=>by cases e;rw [OwnL] at h;exact h.1
 | .int b::r,ws,ns,e,h=>by
  obtain ⟨ns',e1,rfl⟩:=ja9.mp e;rw [OwnL] at h;obtain ⟨v,s,f1,f2,rfl,ef,dj,h1,h2⟩:=h;obtain ⟨rfl,rfl⟩:f1=[]/\f2=[]:=by simpa using ef.symm
  rw [Own] at h1;rw [h1.1,Fi e1 h2];rfl
 | .non::_,_,_,e,_=>by cases e
 | .bl _::_,_,_,e,_=>by cases e
 | .str _::_,_,_,e,_=>by cases e
 | .lst _::_,_,_,e,_=>by cases e
 | .tup _::_,_,_,e,_=>by cases e
 | .emp::_,_,_,e,_=>by cases e
 | .dko::_,_,_,e,_=>by cases e
 | .scr _::_,_,_,e,_=>by cases e
 | .dct _::_,_,_,e,_=>by cases e
 | .exn _::_,_,_,e,_=>by cases e
theorem Jq:∀ {ns:List Int}{its:List Ac},Vals (ns.map V.int) its->∃ xs:List (Int×Tok),its=xs.map (λ p=>Value.int p.1 p.2)/\xs.map (·.1)=ns
 | [],its,h=>by cases h;exact ⟨[],rfl,rfl⟩
 | n::ns,its,h=>by
  cases h with
  | cons r rr=>
   obtain ⟨t,rfl⟩:=r;obtain ⟨xs,rfl,rfl⟩:=Jq rr;exact ⟨(n,t)::xs,rfl,rfl⟩
def qE (hc:X.calm=true):zwj X (.builtin "min") (λ xs H Q=>∃ (p:Addr) (ns:List Int),xs=[.ref p]/\AN X.K H p (ns.map V.int)/\ns≠[]/\∀ m,m∈ns->(∀ a∈ns,m<=a)->Q (.int m) H):=by
 intro pins s σ H xs us Q I r h;obtain ⟨p,ns,rfl,hq,hn,q⟩:=h;obtain ⟨u,rfl,rx⟩:=CC r;cases rx;obtain ⟨its,rv,pl,hz⟩:=I.list hq;obtain ⟨zs,rfl,rfl⟩:=Jq rv;have e:(zs.map λ p=>Value.int p.1 p.2).toArray=DG zs.toArray:=by simp [DG]
 rw [e] at pl;have h0:0 < zs.length:=by
  cases zs with
  | nil=>exact absurd rfl hn
  | cons _ _=>simp
 refine min_intList (I.ok.hd hc) pl.isList (by simpa using h0) λ v h' tk hv k=>?_;obtain ⟨l1,l2⟩:=argBest_lt (Cj zs.toArray) (zs.toArray.size - 1);have hv':=hv;obtain ⟨t,rfl⟩:=L7 hv;have at':∀ j,j < zs.length->Cj zs.toArray j∈zs.map (·.1):=λ j hj=>by
  unfold Cj;simp [hj];exact ⟨_,FX hj⟩
 refine ⟨.int _,H,I.kept (t':=tk) k,⟨t,rfl⟩,q _ (at' _ ?_) λ a ha=>?_⟩
 ·have:zs.toArray.size=zs.length:=by simp
  omega
 ·obtain ⟨z,hz,rfl⟩:=jg4.mp ha;obtain ⟨j,hj,rfl⟩:=Jj hz;have hzs:zs.toArray.size=zs.length:=by simp
  have:=l2 j (by omega)
  have e:Cj zs.toArray j=zs[j].1:=by unfold Cj;simp [hj]
  rw [e] at this;exact this
def xH {prog:A0}{w:Ay}{A:AJ}{E:Ac->Af->Prop}{s:Af}{l:Addr}{xs:Array (Int×Tok)}{Q:Ac->Af->Prop} (hh:A.handled=none) (hl:s.heap.IsTuple l (DG xs)) (hne:0 < xs.size)
  (h:∀ v h' tk,(DG xs)[argBest (λ i j=>decide (Cj xs i < Cj xs j)) (xs.size - 1)]?=some v->(∀ b o,s.heap.get? b=some o->h'.get? b=some o)->Q v { s with heap:=h',toks:=tk }):
  Al (An prog w) A (call (.builtin "min") [.ref l]) Q E s:=by
 have hlt:l < s.heap.objs.size:=by obtain ⟨_,e,_⟩:=hl;exact A9 e
 refine call_min_walk (LM hl ?_);refine ⟨_,[_,l],[_],_,_,_,_,rfl,Walks.tuple (A:=A.in1) hh _ l (BG hlt) (DG xs),⟨⟨_,BV _ rfl,rfl,rfl⟩,hl.push _⟩,λ c hc=>?_,by simpa [DG] using hne,CmpOf.ints_lt (Cj xs) (λ _ _=>L7),λ v h' tk hP hk=>?_⟩
 ·show c < (s.heap.push _).objs.size;rw [Eu];rcases ja8.mp hc with rfl | hc
  ·exact FY _
  ·rcases ja8.mp hc with rfl | hc
   ·exact K4 hlt
   ·cases hc
 ·exact h v h' tk (by simpa [DG] using hP) λ c o e=>by
   refine hk c o (λ hm=>?_) (AX _ e);rcases ja8.mp hm with e1 | hm
   ·exact absurd (e1 ▸ A9 e) (Ed _)
   ·cases hm
def qF (hc:X.calm=true):zwj X (.builtin "min") (λ xs H Q=>∃ (p:Addr) (ns:List Int),xs=[.ref p]/\SqT X.K H p (ns.map V.int)/\ns≠[]/\∀ m,m∈ns->(∀ a∈ns,m<=a)->Q (.int m) H):=by
 intro pins s σ H xs us Q I r h;obtain ⟨p,ns,rfl,hq,hn,q⟩:=h;obtain ⟨u,rfl,rx⟩:=CC r;cases rx;obtain ⟨its,rv,pl,hz⟩:=I.tuple hq;obtain ⟨zs,rfl,rfl⟩:=Jq rv;have e:(zs.map λ p=>Value.int p.1 p.2).toArray=DG zs.toArray:=by simp [DG]
 rw [e] at pl;have h0:0 < zs.length:=by
  cases zs with
  | nil=>exact absurd rfl hn
  | cons _ _=>simp
 refine xH (I.ok.hd hc) pl (by simpa using h0) λ v h' tk hv k=>?_;obtain ⟨l1,l2⟩:=argBest_lt (Cj zs.toArray) (zs.toArray.size - 1);have hv':=hv;obtain ⟨t,rfl⟩:=L7 hv;have at':∀ j,j < zs.length->Cj zs.toArray j∈zs.map (·.1):=λ j hj=>by
  unfold Cj;simp [hj];exact ⟨_,FX hj⟩
 refine ⟨.int _,H,I.kept (t':=tk) k,⟨t,rfl⟩,q _ (at' _ ?_) λ a ha=>?_⟩
 ·have:zs.toArray.size=zs.length:=by simp
  omega
 ·obtain ⟨z,hz,rfl⟩:=jg4.mp ha;obtain ⟨j,hj,rfl⟩:=Jj hz;have hzs:zs.toArray.size=zs.length:=by simp
  have:=l2 j (by omega)
  have e:Cj zs.toArray j=zs[j].1:=by unfold Cj;simp [hj]
  rw [e] at this;exact this
def OV (ns:List Int):Bool:=decide (ns.length<=2 ^ 20) && ns.all λ i=>decide (-(2 ^ 40)<=i) && decide (i<=2 ^ 40)
theorem xJ {ns:List Int} (h:∀ i∈ns,-(2 ^ 40)<=i/\i<=2 ^ 40):∀ j:Nat,-(2 ^ 40) * (j:Int)<=(ns.take j).sum/\(ns.take j).sum<=2 ^ 40 * (j:Int):=by
 induction ns with
 | nil=>intro j;rw [P7,U5];omega
 | cons n ns ih=>
  intro j;cases j with
  | zero=>rw [MK,U5];omega
  | succ j=>
   have:=ih (λ i hi=>h i (AB _ hi)) j
   have hn:=h n AI;rw [PM,List.sum_cons];omega
def qH (hc:X.calm=true):zwj X (.builtin "sum") (λ xs H Q=>∃ (p:Addr) (ns:List Int),xs=[.ref p]/\AN X.K H p (ns.map V.int)/\OV ns=true/\Q (.int ns.sum) H):=by
 intro pins s σ H xs us Q I r h;obtain ⟨p,ns,rfl,hq,hn,q⟩:=h;obtain ⟨u,rfl,rx⟩:=CC r;cases rx;obtain ⟨its,rv,pl,hz⟩:=I.list hq;obtain ⟨zs,rfl,rfl⟩:=Jq rv;have e:(zs.map λ p=>Value.int p.1 p.2).toArray=DG zs.toArray:=by simp [DG]
 rw [e] at pl;unfold OV at hn;rw [A4] at hn;have hl:(zs.map (·.1)).length<=2 ^ 20:=by simpa using hn.1
 have hb:∀ i∈zs.map (·.1),-(2 ^ 40)<=i/\i<=2 ^ 40:=λ i hi=>by
  have:=jb8.mp hn.2 i hi
  rw [A4] at this;exact ⟨of_decide_eq_true this.1,of_decide_eq_true this.2⟩
 have sz:zs.toArray.size=zs.length:=by simp
 rw [AF] at hl;have pre:∀ j,preSum (Cj zs.toArray) j=((zs.map (·.1)).take j).sum:=λ j=>by
  rw [preSum_eq]
 refine sum_intList (I.ok.hd hc) pl.isList (λ j hj=>⟨?_,?_⟩) λ h' tk t' k=>⟨.int _,H,I.kept (t':=tk) k,⟨t',rfl⟩,?_⟩
 ·have e1:Cj zs.toArray j=zs[j].1:=by unfold Cj;simp [show j < zs.length by omega]
  have:=hb (zs[j]'(by omega)).1 (jg4.mpr ⟨_,FX _,rfl⟩)
  rw [e1];unfold InLong;omega
 ·have:=xJ hb (j + 1)
  rw [pre];unfold InLong;omega
 ·rw [pre,sz]
  have:((zs.map (·.1)).take zs.length)=zs.map (·.1):=by
   rw [Ve];simp
  rw [this];exact q
def D1:Int->List Int->Int
 | n,[]=>n
 | n,m::r=>D1 (if m < n then m else n) r
theorem Nw:∀ (r:List Int) (n:Int),D1 n r∈n::r
 | [],n=>AI
 | m::r,n=>by
  unfold D1
  have:=Nw r (if m < n then m else n)
  rcases ja8.mp this with h | h
  ·rw [h];split
   ·exact AB _ AI
   ·exact AI
  ·exact AB _ (AB _ h)
theorem NN:∀ (r:List Int) (n:Int),∀ a∈n::r,D1 n r<=a
 | [],n,a,h=>by
  have:a=n:=by simpa using h
  rw [this];exact HW _
 | m::r,n,a,h=>by
  unfold D1;have ih:=NN r (if m < n then m else n);have h1:=ih _ AI;have h2:(if m < n then m else n)<=n/\(if m < n then m else n)<=m:=by split <;> omega
  rcases ja8.mp h with e | h
  ·rw [e];omega
  ·rcases ja8.mp h with e | h
   ·rw [e];omega
   ·exact ih a (AB _ h)
def RD {ns:List Int}{m m':Int} (h1:m∈ns) (h2:∀ a∈ns,m<=a) (h3:m'∈ns) (h4:∀ a∈ns,m'<=a):m=m':=by
 have:=h2 m' h3
 have:=h4 m h1
 omega
def ON:List (PV×Nat)->Option (PV×Nat)
 | [(.lst xs,_)]=>match EO xs with
  | some (n::r)=>some (.int (D1 n r),om)
  | _=>none
 | [(.tup xs,_)]=>match EO xs with
  | some (n::r)=>some (.int (D1 n r),om)
  | _=>none
 | xs=>MF (λ i j=>if j < i then j else i) xs
def OP:List (PV×Nat)->Option (PV×Nat)
 | [(.lst xs,_)]=>match EO xs with
  | some ns=>if OV ns=true then some (.int ns.sum,om) else none
  | none=>none
 | _=>none
def YQ (hc:X.calm=true) (hg:Gl X "min") (hm:X.mg "min" = none) (ha:PA X (e::es) (tL M fa vs)) (he:As (e::es) X.env=(false,eval e X.env)::As es X.env) (hpl:(BP pos (As es X.env)).any (·.1)=false):
  PE X (.Call (.Name "min" p) (e::es) [] pos) (tE M (Aq ON fa) vs):=by
 refine AO (EN (((qD hc).or (qE hc)).or (qF hc)) hg hm rfl ha (he:=he) (hpl:=hpl)) λ σ H Q h=>DW (λ xs z c ws H fps fp Q ho tm nz zd lf=>?_) h;unfold ON at ho;split at ho
 ·rename_i xs d;split at ho
  ·rename_i n r eb;cases ho;obtain ⟨v,r',f1,f2,rfl,rfl,_,o1,h2⟩:=tm;obtain ⟨rfl,rfl⟩:=h2;obtain ⟨q,us,rfl,hs,ol⟩:=(cold (fp:=f1) o1 λ a ha=>nz a (AZ _ ha)).coldL
   have:=Fi eb ol
   subst this;refine .inl (.inr ⟨q,n::r,rfl,.inl (.inl hs),by simp,λ m h1 h2=>?_⟩);rw [RD h1 h2 (Nw r n) (NN r n)];exact CS lf
  ·cases ho
 ·rename_i xs d;split at ho
  ·rename_i n r eb;cases ho;obtain ⟨v,r',f1,f2,rfl,rfl,_,o1,h2⟩:=tm;obtain ⟨rfl,rfl⟩:=h2;obtain ⟨q,us,rfl,hs,ol⟩:=(cold (fp:=f1) o1 λ a ha=>nz a (AZ _ ha)).coldT
   have:=Fi eb ol
   subst this;refine .inr ⟨q,n::r,rfl,.inl (.inl hs),by simp,λ m h1 h2=>?_⟩;rw [RD h1 h2 (Nw r n) (NN r n)];exact CS lf
  ·cases ho
 ·exact .inl (.inl (Ux ho tm lf))
def YT (hc:X.calm=true) (hg:Gl X "sum") (hm:X.mg "sum" = none) (ha:PA X (e::es) (tL M fa vs)) (he:As (e::es) X.env=(false,eval e X.env)::As es X.env) (hpl:(BP pos (As es X.env)).any (·.1)=false):
  PE X (.Call (.Name "sum" p) (e::es) [] pos) (tE M (Aq OP fa) vs):=by
 refine AO (EN (qH hc) hg hm rfl ha (he:=he) (hpl:=hpl)) λ σ H Q h=>DW (λ xs z c ws H fps fp Q ho tm nz zd lf=>?_) h;unfold OP at ho;split at ho
 ·rename_i xs d;split at ho
  ·rename_i ns eb;split at ho
   ·rename_i hk;cases ho;obtain ⟨v,r',f1,f2,rfl,rfl,_,o1,h2⟩:=tm;obtain ⟨rfl,rfl⟩:=h2;obtain ⟨q,us,rfl,hs,ol⟩:=(cold (fp:=f1) o1 λ a ha=>nz a (AZ _ ha)).coldL
    have:=Fi eb ol
    subst this;exact ⟨q,ns,rfl,.inl (.inl hs),hk,CS lf⟩
   ·cases ho
  ·cases ho
 ·cases ho
abbrev Fn:=List PV->Rz (PV×Nat×PV)
def AQ (K:Frag) (io:Bool) (n:Nat) (F:Fn):Sp:=λ ws H Q E=>ws.length=n/\∃ (xs:List PV) (Zo:Addr->Prop) (x0:PV) (v0:V) (fp0:List Addr),
 (∀ a,Zo a->H a≠none)/\(∀ a∈fp0,¬ Zo a)/\(io=false->fp0=[]/\OwnL K H Zo xs 0 ws []) /\
 (io=true->∃ xr wr,xs=x0::xr/\ws=v0::wr/\Own K H (λ _=>True) x0 om v0 fp0/\OwnL K H (λ a=>Zo a\/a∈fp0) xr 0 wr []) /\
 (match F xs with
  | .ok (y,d,z0)=>∀ v H' fp fp0',Cg (λ a=>a∈fp0) H H'->(∀ a,H a≠none->H' a≠none)->(∀ a∈fp0',a∈fp0\/H a=none)->(∀ a∈fp0',¬ Zo a)->(io=false->fp0'=[])->(io=true->Own K H' (λ _=>True) z0 om v0 fp0') ->
    Own K H' (λ a=>(Zo a\/a∈fp0')\/a∈fp) y d v fp->(∀ a∈fp,H a=none/\¬ (Zo a\/a∈fp0'))->Q v H'
  | .exc c=>∀ H',Cg (λ a=>a∈fp0) H H'->(∀ a,H a≠none->H' a≠none)->E (.int (c:Int) 0) none H'
  | .no=>False)
def Az (F:Fn) (fa:Fa):Fx:=λ ρ=>(fa ρ).bind λ (xs,ρ1)=>match F (xs.map (·.1)) with
 | .ok (y,d,_)=>.ok (y,d,ρ1)
 | .exc c=>.exc c
 | .no=>.no
theorem YX {F:Fn}{n:Nat} (hF:∀ xs,xs.length≠n->F xs=.no) {σ:St}{H:Hp}{Q:VK} (hq:tE M (Az F fa) vs σ H Q):SS (AQ M.K false n F) M.W (tL M fa vs) σ H Q:=by
 obtain ⟨ρ,fps,rep,q⟩:=hq;refine ⟨ρ,fps,rep,?_⟩;unfold Az at q;cases ef:fa ρ with
 | no=>rw [ef] at q;exact q
 | exc c=>rw [ef] at q;exact q
 | ok p=>
  obtain ⟨xs,ρ1⟩:=p;rw [ef] at q;intro ws H1 fps1 f1 k1 g1 rep1 o1 t1;dsimp only [Rz.bind] at q;have back:∀ a,H1 a=none->H a=none:=λ a e=>by
   cases e':H a with
   | none=>rfl
   | some o=>exact absurd e (k1.dom a (by rw [e'];simp))
  show AQ M.K false n F ws H1 Q (ED (M.W σ));have hlen:xs.length=n:=by
   by_cases e:xs.length=n
   ·exact e
   ·rw [hF (xs.map (·.1)) (by rw [AF];exact e)] at q;exact q.elim
  refine ⟨by rw [o1.length,hlen],xs.map (·.1),Zv M vs fps1,.non,.non,[],λ a z=>rep1.zdom z.zf,λ _ z=>(nomatch z),λ _=>⟨rfl,o1.cold λ a ha z=>t1.ndj a ha z.zf⟩,(λ h=>nomatch h),?_⟩;cases eF:F (xs.map (·.1)) with
  | no=>rw [eF] at q;exact q
  | exc c=>
   rw [eF] at q;exact λ H' kp _=>q H' fps1 (k1.trans (KD.grow λ a o h=>kp a o h λ z=>nomatch z))
  | ok r=>
   obtain ⟨y,d,z0⟩:=r;rw [eF] at q;intro v H' fp fp0' kp dm _ _ h0 _ oy hf;have e0:=h0 rfl;subst e0;have kk:∀ a o,H1 a=some o->H' a=some o:=λ a o h=>kp a o h λ z=>nomatch z
   refine q v H' fps1 fp (k1.trans (KD.grow kk)) g1 (rep1.grow kk) (oy.weak λ a h=>h.elim (λ h=>.inl (.inl h)) .inr) ⟨λ a ha=>back a (hf a ha).1,λ a ha=>rep1.nz (hf a ha).1⟩
end
def q9 {X:Cx}:zwj X (.type "int") (λ xs H Q=>∃ z n,xs=[.str z]/\PySem.intText? z=some n/\z.length<=640/\Q (.int n) H):=by
 intro pins s σ H xs us Q I r h;obtain ⟨z,n,rfl,hn,hl,q⟩:=h;obtain ⟨u,rfl,t,rfl⟩:=CC r;exact PySem.W.KIN.call_text hn hl ⟨.int n,H,I.tok _,⟨_,rfl⟩,q⟩
def HI (neg:Bool):R2:=λ v w H Q=>∃ y x,v=.str y/\w=.str x/\Q (.bl (neg^^Txt.contains x y)) H
def WQ {X:Cx}:OpR X (Cb .In) (HI false):=by
 intro pins s σ H x y v u Q I rx ry h;obtain ⟨b,a,rfl,rfl,q⟩:=h;obtain ⟨t,rfl⟩:=rx;obtain ⟨t',rfl⟩:=ry;exact SB.contains ⟨.bl _,H,I,rfl,by simpa using q⟩
def x3 {X:Cx}:OpR X (Cb .NotIn) (HI true):=by
 intro pins s σ H x y v u Q I rx ry h;obtain ⟨b,a,rfl,rfl,q⟩:=h;obtain ⟨t,rfl⟩:=rx;obtain ⟨t',rfl⟩:=ry;exact SB.notContains ⟨.bl _,H,I,rfl,by simpa using q⟩
def XY {v:PV}{u:Ac} (h:MW v u=true):∃ w:V,RelV w u/\∀ K H Z,Own K H Z v om w []:=by
 unfold MW at h;split at h
 ·rename_i z z' t
  have:=eq_of_beq h
  subst this;exact ⟨.str z,⟨t,rfl⟩,λ K H Z=>by rw [Own];exact ⟨rfl,rfl⟩⟩
 ·rename_i z z' t
  have:=eq_of_beq h
  subst this;exact ⟨.int z,⟨t,rfl⟩,λ K H Z=>by rw [Own];exact ⟨rfl,rfl⟩⟩
 ·cases h
def Wz {p:Str->Bool}{n:Nat} (h:XN.findIdx? p=some n):n < 50:=by
 have:=(je1.mp h).1
 exact U6 this (by decide)
section
variable {prog:A0}{w:Ay}{A:AJ}{E:Ac->Af->Prop}{s:Af}
def Ph {p q:Addr}{n:Nat}{us:Array Ac}{u:Ac}{Q:Ac->Af->Prop} (st:s.heap.IsTupleIter p q n) (ht:s.heap.IsTuple q us) (hu:us[n]?=some u) (hQ:∀ h',h'.IsTupleIter p q (n + 1)->JO p s.heap h'->Q u { s with heap:=h' }):
  Al (An prog w) A (Ha (.ref p)) Q E s:=by
 obtain ⟨ob,eb,cb,db⟩:=id st;obtain ⟨ot,et,_,nt,dt⟩:=ht;unfold Ha;refine Ak (JV (name:=FI "__next__") st.typeIs LR (IS LR st.typeIs RJ ?_ (RK _)));show Al _ _ (field (.ref p) 0 >>= _) _ _ s;refine Ak (Dw eb db (x:=.ref q) rfl ?_);show Al _ _ (if (Value.ref q == Value.none)=true then _ else _) _ _ s;rw [if_neg (show ¬ ((Value.ref q == Value.none)=true) from C8)];show Al _ _ (field (.ref p) 1 >>= _) _ _ s;refine Ak (Dw eb db (x:=.int n 0) rfl ?_);show Al _ _ (seqItems? (.ref q) >>= _) _ _ s;refine Ak (GZ et dt ?_);simp only [HY,hu];refine Ak (wpAny_setField eb db (by simp) (A8 ⟨u,rfl,A8 (hQ _ ?_ (Heap.SameBut.update ..))⟩));exact ⟨_,Heap.get?_update_self _ eb (Obj.isFreed_of_fields (Obj.data_mapFields db _)),(Obj.cls_mapFields ..).trans cb,by rw [Obj.data_mapFields db];simp [rawInt]⟩
def RE {p q:Addr}{n:Nat}{us:Array Ac}{Q:Ac->Af->Prop} (hh:A.handled=none) (st:s.heap.IsTupleIter p q n) (ht:s.heap.IsTuple q us) (hu:us[n]?=none)
  (hE:∀ h' e,Heap.ExtBut p s.heap h'->(∃ o,h'.get? e=some o/\o.cls=.type "StopIteration")->E (.ref e) { s with heap:=h' }):Al (An prog w) A (Ha (.ref p)) Q E s:=by
 obtain ⟨ob,eb,cb,db⟩:=id st;obtain ⟨ot,et,_,nt,dt⟩:=ht;unfold Ha;refine Ak (JV (name:=FI "__next__") st.typeIs LR (IS LR st.typeIs RJ ?_ (RK _)));show Al _ _ (field (.ref p) 0 >>= _) _ _ s;refine Ak (Dw eb db (x:=.ref q) rfl ?_);show Al _ _ (if (Value.ref q == Value.none)=true then _ else _) _ _ s;rw [if_neg (show ¬ ((Value.ref q == Value.none)=true) from C8)];show Al _ _ (field (.ref p) 1 >>= _) _ _ s;refine Ak (Dw eb db (x:=.int n 0) rfl ?_);show Al _ _ (seqItems? (.ref q) >>= _) _ _ s;refine Ak (GZ et dt ?_);simp only [HY,hu];refine Ak (wpAny_rule (Ak (wpAny_setField eb db (by simp) ?_)));show Al _ _ (newExc (.type "StopIteration") [] >>= _) _ _ _;refine Ak ?_;simp only [newExc,newTuple];refine Ak (HC ?_ (by size_fits));refine Ak (m:=firstArgMember _ _) (wpAny_of_eq (a:=Value.none) (by first | rfl | (simp only [firstArgMember];rfl)) ?_);refine HC ?_ (by size_fits);simp only [raiseNew];refine Ak (wpAny_handled ?_)
 first | rw [show A.in1.handled=none from hh] | rw [hh];skip
 refine Ak (A8 (wpAny_throw (hE _ _ (((Heap.SameBut.update ..).extBut.push _).push _) ⟨_,BV _ rfl,rfl⟩)))
structure ZApart (zz ti to p1 p2 q1 q2:Addr):Prop where
 ne1:ti≠zz
 ne2:to≠zz
 ne3:p1≠zz
 ne4:p2≠zz
 ne5:ti≠to
 ne6:ti≠p1
 ne7:ti≠p2
 ne8:to≠p1
 ne9:to≠p2
 nea:p1≠p2
 neb:q1≠zz
 nec:q1≠to
 ned:q1≠p1
 nee:q1≠p2
 nef:q2≠zz
 neg:q2≠to
 neh:q2≠p1
 nei:q2≠p2
section
variable {zz ti to p1 p2 q1 q2:Addr}{n1 n2:Nat}{us vs:Array Ac}{u v a b:Ac}
def Zm {Q:Ac->Af->Prop} (D:ZApart zz ti to p1 p2 q1 q2) (hz:CH s.heap zz ti to .none) (hi:BM s.heap ti (.ref p1) (.ref p2)) (ho:BM s.heap to a b) (h1:s.heap.IsTupleIter p1 q1 n1) (h2:s.heap.IsTupleIter p2 q2 n2) (t1:s.heap.IsTuple q1 us) (t2:s.heap.IsTuple q2 vs) (hu:us[n1]?=some u) (hv:vs[n2]?=some v)
  (hQ:∀ h',CH h' zz ti to (rawInt s.heap.objs.size)->BM h' to u v->h'.IsTupleIter p1 q1 (n1 + 1)->h'.IsTupleIter p2 q2 (n2 + 1)->BM h' s.heap.objs.size u v->h'.objs.size=s.heap.objs.size + 1->(∀ c o,c≠zz->c≠to->c≠p1->c≠p2->s.heap.get? c=some o->h'.get? c=some o)->Q (.ref s.heap.objs.size) { s with heap:=h' }):
  Al (An prog w) A (vj3.«zip.__next__» ⟨[.ref zz],[]⟩) (λ fin s'=>∃ v,fin=.done (.ret v)/\Q v s') E s:=by
 show Al _ _ (field (.ref zz) 2 >>= _) _ _ _;refine Ak (Dw hz rfl (x:=.bool false) rfl ?_);show Al _ _ (field (.ref zz) 3 >>= _) _ _ _;refine Ak (Dw hz rfl (x:=.ref ti) rfl ?_);refine Ak (GZ hi rfl ?_);show Al _ _ (LS (.ref zz) >>= _) _ _ _;refine Ak ?_;unfold LS;refine Ak (Dw hz rfl (x:=.none) rfl (A8 ?_));simp only [if_true];refine Ak (wpAny_rule ?_);refine Ak (Dw hz rfl (x:=.ref to) rfl ?_);refine Ak (IT hz (by simp) λ g1 y1 k1=>?_);replace y1:CH g1 zz ti to .ellipsis:=y1;refine Ak ?_;simp only [ML,UB,UN,UG];refine Ak (Ak (LD ?_));show Al _ _ (Ha (.ref p1) >>= _) _ _ _;refine Ak (Ph (h1.extBut k1.extBut D.ne3) (t1.extBut k1.extBut D.neb) hu λ g2 m2 k2=>A8 ?_);have o2:BM g2 to a b:=k2.extBut _ _ D.ne8 (k1.extBut _ _ D.ne2 ho);refine Ak (GZ o2 rfl ?_);refine Ak (O4 o2 λ g3 o3 k3=>?_);replace o3:BM g3 to u b:=o3;refine Ak (L8 (A8 ?_));refine Ak (Ak (LD ?_));show Al _ _ (Ha (.ref p2) >>= _) _ _ _;refine Ak (Ph (((h2.extBut k1.extBut D.ne4).extBut k2.extBut D.nea.symm).extBut k3.extBut D.ne9.symm) (((t2.extBut k1.extBut D.nef).extBut k2.extBut D.neh).extBut k3.extBut D.neg) hv λ g4 m4 k4=>A8 ?_);have o4:BM g4 to u b:=k4.extBut _ _ D.ne9 o3;refine Ak (GZ o4 rfl ?_);refine Ak (O4 o4 λ g5 o5 k5=>?_);replace o5:BM g5 to u v:=o5;refine Ak (L8 (A8 (A8 ?_)));refine Ak (GZ o5 rfl ?_);refine Ak (wpAny_newTuple ?_);have sz:g5.objs.size=s.heap.objs.size:=by rw [k5.1,k4.1,k3.1,k2.1,k1.1]
 have y5:CH g5 zz ti to .ellipsis:=k5.extBut _ _ D.ne2.symm (k4.extBut _ _ D.ne4.symm (k3.extBut _ _ D.ne2.symm (k2.extBut _ _ D.ne3.symm y1)));have kk:∀ c o,c≠zz->c≠to->c≠p1->c≠p2->s.heap.get? c=some o->g5.get? c=some o:=λ c o c1 c2 c3 c4 e=>k5.extBut _ _ c2 (k4.extBut _ _ c4 (k3.extBut _ _ c2 (k2.extBut _ _ c3 (k1.extBut _ _ c1 e))));have m1:g5.IsTupleIter p1 q1 (n1 + 1):=((m2.extBut k3.extBut D.ne8.symm).extBut k4.extBut D.nea).extBut k5.extBut D.ne8.symm;have m5:g5.IsTupleIter p2 q2 (n2 + 1):=m4.extBut k5.extBut D.ne9.symm;have zlt:zz < g5.objs.size:=A9 y5;show Al _ _ (RM (.ref zz) (.ref g5.objs.size) >>= _) _ _ _;refine Ak ?_;unfold RM;have y6:CH (g5.push { cls:=.type "tuple",data:=.seq #[u,v] }) zz ti to .ellipsis:=AX _ y5;refine Ak (IT y6 (by simp) λ g7 y7 k7=>?_);replace y7:CH g7 zz ti to (rawInt g5.objs.size):=y7;refine IT y7 (by simp) λ g8 y8 k8=>?_;replace y8:CH g8 zz ti to (rawInt g5.objs.size):=y8;have up:∀ c o,c≠zz->g5.get? c=some o->g8.get? c=some o:=λ c o c1 e=>k8.extBut _ _ c1 (k7.extBut _ _ c1 (AX _ e));have t8:BM g8 g5.objs.size u v:=k8.extBut _ _ (DL zlt) (k7.extBut _ _ (DL zlt) (BV _ rfl));have z8:g8.objs.size=g5.objs.size + 1:=by rw [k8.1,k7.1,Eu]
 rw [sz] at y8 t8 z8;refine A8 ⟨_,rfl,?_⟩;show Q (.ref g5.objs.size) _;rw [sz];exact hQ g8 y8 (up _ _ D.ne2 o5) (m1.at λ o e=>up _ o D.ne3 e) (m5.at λ o e=>up _ o D.ne4 e) t8 z8 λ c o c1 c2 c3 c4 e=>up c o c1 (kk c o c1 c2 c3 c4 e)
theorem XR {Q:Fin->Af->Prop} (hh:A.handled=none) (D:ZApart zz ti to p1 p2 q1 q2) (hz:CH s.heap zz ti to .none) (hi:BM s.heap ti (.ref p1) (.ref p2)) (ho:BM s.heap to a b) (h1:s.heap.IsTupleIter p1 q1 n1) (h2:s.heap.IsTupleIter p2 q2 n2) (t1:s.heap.IsTuple q1 us) (t2:s.heap.IsTuple q2 vs) (hend:us[n1]?=none\/vs[n2]?=none)
  (hE:∀ h' e,(∀ c o,c≠zz->c≠to->c≠p1->c≠p2->s.heap.get? c=some o->h'.get? c=some o)->(∃ o,h'.get? e=some o/\o.cls=.type "StopIteration")->E (.ref e) { s with heap:=h' }):
  Al (An prog w) A (vj3.«zip.__next__» ⟨[.ref zz],[]⟩) Q E s:=by
 show Al _ _ (field (.ref zz) 2 >>= _) _ _ _;refine Ak (Dw hz rfl (x:=.bool false) rfl ?_);show Al _ _ (field (.ref zz) 3 >>= _) _ _ _;refine Ak (Dw hz rfl (x:=.ref ti) rfl ?_);refine Ak (GZ hi rfl ?_);show Al _ _ (LS (.ref zz) >>= _) _ _ _;refine Ak ?_;unfold LS;refine Ak (Dw hz rfl (x:=.none) rfl (A8 ?_));simp only [if_true];refine Ak (wpAny_rule ?_);refine Ak (Dw hz rfl (x:=.ref to) rfl ?_);refine Ak (IT hz (by simp) λ g1 y1 k1=>?_);replace y1:CH g1 zz ti to .ellipsis:=y1;refine Ak ?_;simp only [ML,UB,UN,UG];refine Ak (Ak (LD ?_));show Al _ _ (Ha (.ref p1) >>= _) _ _ _;cases hu:us[n1]? with
 | none=>
  refine Ak (RE hh (h1.extBut k1.extBut D.ne3) (t1.extBut k1.extBut D.neb) hu λ g2 e k2 ⟨oe,xe,ce⟩=>?_);have y2:CH g2 zz ti to .ellipsis:=k2 _ _ D.ne3.symm y1;have ne:e≠zz:=λ x=>by subst x;rw [y2] at xe;cases xe;simp at ce
  refine IT y2 (by simp) λ g3 _ k3=>hE g3 e (λ c o c1 _ c3 _ x=>k3.extBut _ _ c1 (k2 _ _ c3 (k1.extBut _ _ c1 x))) ⟨oe,k3.extBut _ _ ne xe,ce⟩
 | some u=>
  have hv:vs[n2]?=none:=by rcases hend with h | h;rw [hu] at h;cases h;exact h
  refine Ak (Ph (h1.extBut k1.extBut D.ne3) (t1.extBut k1.extBut D.neb) hu λ g2 m2 k2=>A8 ?_);have o2:BM g2 to a b:=k2.extBut _ _ D.ne8 (k1.extBut _ _ D.ne2 ho);refine Ak (GZ o2 rfl ?_);refine Ak (O4 o2 λ g3 o3 k3=>?_);refine Ak (L8 (A8 ?_));refine Ak (Ak (LD ?_));show Al _ _ (Ha (.ref p2) >>= _) _ _ _;refine Ak (RE hh (((h2.extBut k1.extBut D.ne4).extBut k2.extBut D.nea.symm).extBut k3.extBut D.ne9.symm) (((t2.extBut k1.extBut D.nef).extBut k2.extBut D.neh).extBut k3.extBut D.neg) hv λ g4 e k4 ⟨oe,xe,ce⟩=>?_);have y4:CH g4 zz ti to .ellipsis:=k4 _ _ D.ne4.symm (k3.extBut _ _ D.ne2.symm (k2.extBut _ _ D.ne3.symm y1));have ne:e≠zz:=λ x=>by subst x;rw [y4] at xe;cases xe;simp at ce
  refine IT y4 (by simp) λ g5 _ k5=>hE g5 e (λ c o c1 c2 c3 c4 x=>k5.extBut _ _ c1 (k4 _ _ c4 (k3.extBut _ _ c2 (k2.extBut _ _ c3 (k1.extBut _ _ c1 x))))) ⟨oe,k5.extBut _ _ ne xe,ce⟩
def Y1 {Q:Option Ac->Af->Prop} (D:ZApart zz ti to p1 p2 q1 q2) (hz:CH s.heap zz ti to .none) (hi:BM s.heap ti (.ref p1) (.ref p2)) (ho:BM s.heap to a b) (h1:s.heap.IsTupleIter p1 q1 n1) (h2:s.heap.IsTupleIter p2 q2 n2) (t1:s.heap.IsTuple q1 us) (t2:s.heap.IsTuple q2 vs) (hu:us[n1]?=some u) (hv:vs[n2]?=some v)
  (hQ:∀ h',CH h' zz ti to (rawInt s.heap.objs.size)->BM h' to u v->h'.IsTupleIter p1 q1 (n1 + 1)->h'.IsTupleIter p2 q2 (n2 + 1)->BM h' s.heap.objs.size u v->h'.objs.size=s.heap.objs.size + 1->(∀ c o,c≠zz->c≠to->c≠p1->c≠p2->s.heap.get? c=some o->h'.get? c=some o)->Q (some (.ref s.heap.objs.size)) { s with heap:=h' }):
  Al (An prog w) A (pyNext (.ref zz)) Q E s:=by
 have hT:s.TypeIs (.ref zz) "zip" := ⟨_,hz,rfl⟩
 unfold pyNext;exact Ak (wpAny_attempt (JV (name:=FI "__next__") hT LH (IS LH hT F.entry_zip_next (Zm D hz hi ho h1 h2 t1 t2 hu hv λ h' a1 a2 a3 a4 a5 a6 a7=>A8 (hQ h' a1 a2 a3 a4 a5 a6 a7)) (F.args_zip_next_1 _))))
def VF {Q:Option Ac->Af->Prop} (hh:A.handled=none) (D:ZApart zz ti to p1 p2 q1 q2) (hz:CH s.heap zz ti to .none) (hi:BM s.heap ti (.ref p1) (.ref p2)) (ho:BM s.heap to a b) (h1:s.heap.IsTupleIter p1 q1 n1) (h2:s.heap.IsTupleIter p2 q2 n2) (t1:s.heap.IsTuple q1 us) (t2:s.heap.IsTuple q2 vs) (hend:us[n1]?=none\/vs[n2]?=none)
  (hQ:∀ h',(∀ c o,c≠zz->c≠to->c≠p1->c≠p2->s.heap.get? c=some o->h'.get? c=some o)->Q none { s with heap:=h' }):Al (An prog w) A (pyNext (.ref zz)) Q E s:=by
 have hT:s.TypeIs (.ref zz) "zip" := ⟨_,hz,rfl⟩
 unfold pyNext;refine Ak (wpAny_attempt (JV (name:=FI "__next__") hT LH (IS LH hT F.entry_zip_next (XR hh D hz hi ho h1 h2 t1 t2 hend λ h' e hk ⟨o,xo,xc⟩=>?_) (F.args_zip_next_1 _))));exact Ak (wpAny_isInstance (T := "StopIteration") (b:=true) ⟨o,xo,xc⟩ isSubtype_stop (A8 (hQ _ hk)))
end
abbrev Fy (h:Heap) (q:Addr):Heap:=h.push { cls:=.type "tuple_iterator",data:=.fields #[.ref q,.int 0 0] }
abbrev Fw (h:Heap) (q r:Addr):Heap:=(Fy h q).push { cls:=.type "tuple_iterator",data:=.fields #[.ref r,.int 0 0] }
abbrev Fv (h:Heap) (q r:Addr):Heap:=(Fw h q r).push { cls:=.type "tuple",data:=.seq #[.ref h.objs.size,.ref (Fy h q).objs.size] }
abbrev Ft (h:Heap) (q r:Addr):Heap:=(Fv h q r).push { cls:=.type "tuple",data:=.seq #[.none,.none] }
abbrev Dr (h:Heap) (q r:Addr):Heap:=(Ft h q r).push { cls:=.type "zip",data:=.fields #[.none,.bool false,.bool false,.ref (Fw h q r).objs.size,.ref (Fv h q r).objs.size] }
def qr (q r:Addr) (us vs:Array Ac):Meets (vj3.«zip.__new__» ⟨[.type "zip",.ref q,.ref r],[]⟩) (λ _ R s=>s.heap.IsTuple q us/\s.heap.IsTuple r vs/\R (.ok (.ret (.ref (Ft s.heap q r).objs.size))) { s with heap:=Dr s.heap q r }):=
 .of_wp λ prog w A R s h=>by
  obtain ⟨hp,g,d,tk,os⟩:=s;obtain ⟨t1,t2,h⟩:=h;have hsub:=sub_zip;have T1:Heap.IsTuple (Shared.heap ⟨hp,g,d,tk,os⟩) q us:=t1;have T2:Heap.IsTuple (Shared.heap ⟨hp.push { cls:=.type "tuple_iterator",data:=.fields #[.ref q,.int 0 0] },g,d,tk,os⟩) r vs:=Heap.IsTuple.push t2 _
  wp_walk using LM T1,LM T2
  exact ⟨_,rfl,h⟩
def XZ {q r:Addr}{us vs:Array Ac}{Q:Ac->Af->Prop} (t1:s.heap.IsTuple q us) (t2:s.heap.IsTuple r vs)
  (h:∀ h',CH h' (s.heap.objs.size + 4) (s.heap.objs.size + 2) (s.heap.objs.size + 3) .none->BM h' (s.heap.objs.size + 2) (.ref s.heap.objs.size) (.ref (s.heap.objs.size + 1))->BM h' (s.heap.objs.size + 3) .none .none->h'.IsTupleIter s.heap.objs.size q 0->h'.IsTupleIter (s.heap.objs.size + 1) r 0->h'.objs.size=s.heap.objs.size + 5->(∀ c o,s.heap.get? c=some o->h'.get? c=some o)->Q (.ref (s.heap.objs.size + 4)) { s with heap:=h' }):
  Al (An prog w) A (call (.type "zip") [.ref q,.ref r]) Q E s:=by
 refine callType_new F.called_zip (by decide) (F.typeCall_zip_2 _ _) (F.newCall_zip_2 _ _) (λ obj=>F.args_object_init_3 obj _ _) F.entry_zip_new (qr q r us vs) ⟨t1,t2,?_⟩;have z1:(Fy s.heap q).objs.size=s.heap.objs.size + 1:=Eu ..;have z2:(Fw s.heap q r).objs.size=s.heap.objs.size + 2:=by rw [Eu,z1]
 have z3:(Fv s.heap q r).objs.size=s.heap.objs.size + 3:=by rw [Eu,z2]
 have z4:(Ft s.heap q r).objs.size=s.heap.objs.size + 4:=by rw [Eu,z3]
 have z5:(Dr s.heap q r).objs.size=s.heap.objs.size + 5:=by rw [Eu,z4]
 have g5:(Dr s.heap q r).get? (Ft s.heap q r).objs.size=some _:=BV _ rfl;have g4:(Dr s.heap q r).get? (Fv s.heap q r).objs.size=some _:=AX _ (BV _ rfl);have g3:(Dr s.heap q r).get? (Fw s.heap q r).objs.size=some _:=AX _ (AX _ (BV _ rfl));have g2:(Dr s.heap q r).get? (Fy s.heap q).objs.size=some _:=AX _ (AX _ (AX _ (BV _ rfl)));have g1:(Dr s.heap q r).get? s.heap.objs.size=some _:=AX _ (AX _ (AX _ (AX _ (BV _ rfl))));show _/\_;rw [z2,z3,z4] at g5;rw [z1,z2] at g3;rw [z3] at g4;rw [z1] at g2;rw [z4];exact ⟨⟨_,g5,rfl⟩,h _ g5 g3 g4 ⟨_,g1,rfl,rfl⟩ ⟨_,g2,rfl,rfl⟩ z5 λ c o x=>AX _ (AX _ (AX _ (AX _ (AX _ x))))⟩
end
section
variable {X:Cx}{pins:List (Addr×Obj)}{σ:St}{H:Hp}{s:Af}{h':Heap}
def N5 {fp:List Addr}{a:Addr}{o:HO}{t':Nat} (I:Inv X pins σ H s) (k:∀ b u,b∉fp->s.heap.get? b=some u->h'.get? b=some u) (hf:∀ b∈fp,BI X pins H b) (ha:s.heap.objs.size<=a) (new:zxv X.prog X.w (Am H a o) h' a o):
  Inv X pins σ (Am H a o) { s with heap:=h',toks:=t' }:=by
 have hn:H a=none:=I.hok.fresh ha;have nfp:∀ b u,H b=some u->b∉fp:=λ b u e z=>by rw [(hf b z).1] at e;cases e
 have up:∀ b u,H b=some u->Am H a o b=some u:=λ b u e=>by rw [A3 (λ z=>by rw [z,hn] at e;cases e)];exact e
 refine I.step (g':=s.gens) (d':=s.drawn) (ch:=fp) (λ b hb=>?_) (λ b u _ _ hc e _=>k b u hc e) (λ b u _ _ hc e _=>⟨u.slots,k b u hc e⟩) (λ b u _ e n=>?_) (λ b u hc e=>⟨u,k b u hc e⟩) (λ b xs e=>up b _ e) (λ b _ _ e=>up b _ e) (λ b ps e=>⟨#[],by rw [up b _ e];simp⟩) (λ m hm=>?_) (λ b u e=>?_) I.bare
 ·obtain ⟨_,f1,_,f3,f4,f5⟩:=hf b hb;exact ⟨f3,f1,f4,f5⟩
 ·rw [A3 (λ z=>by rw [z] at e;exact absurd (A9 e) (jm3.mpr ha))];exact n
 ·obtain ⟨u,es,ep,ho,r⟩:=hm;exact ⟨u,es,ep,k _ u (λ z=>(hf _ z).2.1 rfl) ho,r⟩
 ·by_cases eb:b=a
  ·subst eb;rw [Bq] at e;cases e;exact new
  ·rw [A3 eb] at e;refine (I.hok b u e).stay (λ c v hc q=>k c v ?_ q) (λ c q=>up c _ q) λ c xs q=>up c _ q;rcases hc with z | z
   ·rw [z];exact nfp b u e
   ·exact nfp c _ z
def Jw {fp:List Addr}{t':Nat} (I:Inv X pins σ H s) (k:∀ b u,b∉fp->s.heap.get? b=some u->h'.get? b=some u) (hf:∀ b∈fp,BI X pins H b):Inv X pins σ H { s with heap:=h',toks:=t' }:=by
 have nfp:∀ b u,H b=some u->b∉fp:=λ b u e z=>by rw [(hf b z).1] at e;cases e
 refine I.step (g':=s.gens) (d':=s.drawn) (ch:=fp) (λ b hb=>?_) (λ b u _ _ hc e _=>k b u hc e) (λ b u _ _ hc e _=>⟨u.slots,k b u hc e⟩) (λ _ _ _ _ n=>n) (λ b u hc e=>⟨u,k b u hc e⟩) (λ _ _ e=>e) (λ _ _ _ e=>e) (λ b ps e=>⟨#[],by rw [e];simp⟩) (λ m hm=>?_) (λ b u e=>?_) I.bare
 ·obtain ⟨_,f1,_,f3,f4,f5⟩:=hf b hb;exact ⟨f3,f1,f4,f5⟩
 ·obtain ⟨u,es,ep,ho,r⟩:=hm;exact ⟨u,es,ep,k _ u (λ z=>(hf _ z).2.1 rfl) ho,r⟩
 ·refine (I.hok b u e).stay (λ c v hc q=>k c v ?_ q) (λ _ q=>q) λ _ _ q=>q;rcases hc with z | z
  ·rw [z];exact nfp b u e
  ·exact nfp c _ z
end
def Gr (K:Frag) (a:Addr) (n:Nat):It:=
 ⟨λ i H=>i < n/\∃ xs x,AN K H a xs/\xs[n - 1 - i]?=some x,λ i H x H'=>H'=H/\∀ xs,AN K H a xs->xs[n - 1 - i]?=some x,λ i _=>n<=i⟩
def qM {P:A0}{w:Ay}{K:Frag}{tg:Expr} (a it:Addr) (n:Nat):Turn P w K tg (Gr K a n) [it] it (λ i h=>i<=n/\h.IsRevIter it a ((n:Int) - 1 - (i:Int))) where
 mem:=by simp
 obj:=λ i h st b hb=>by
  have e:b=it:=by simpa using hb
  subst e;obtain ⟨_,o,e,c,d⟩:=st;exact ⟨o,e,λ v z=>by rw [d] at z;cases z⟩
 keep:=λ i h h' st k=>⟨st.1,st.2.at λ o e=>k it (by simp) o e⟩
 item:=by
  intro X hP hw hK hc i pins s σ H E I hf st hg;subst hP hw hK;obtain ⟨hn,xs,x,hq,hx⟩:=hg;obtain ⟨its,rv,p,hz⟩:=I.list hq;obtain ⟨u,hu,ru⟩:=rv.get hx;have st2:=st.2;rw [show (n:Int) - 1 - (i:Int)=((n - 1 - i:Nat):Int) by omega] at st2;refine wpAny_pyNext_rev_item st2 p.isList (x:=u) (by simpa using hu) λ h' st' sb=>?_;have I1:Inv X pins σ H { s with heap:=h' }:=Jw (t':=s.toks) I (λ b o hb e=>(sb.2 b (λ z=>hb (by simp [z]))).trans e) hf;obtain ⟨o,e,c,d⟩:=id st';refine ⟨u,rfl,Km (s:={ s with heap:=h' }) e c d (by decide) ⟨x,H,I1,ru,⟨rfl,λ ys hy=>by rw [I.list_inj hy hq];exact hx⟩,⟨by omega,?_⟩,λ b hb=>(hf b hb).1⟩⟩;rw [show (n:Int) - 1 - ((i + 1:Nat):Int)=((n - 1 - i:Nat):Int) - 1 by omega];exact st'
 done:=by
  intro X hP hw hK hc i pins s σ H E I hf st hg;subst hP hw hK;have hn:n<=i:=hg;have st2:=st.2;rw [show (n:Int) - 1 - (i:Int)=-1 by have:=st.1;omega] at st2;exact wpAny_pyNext_rev_end (I.ok.hd hc) st2 λ h' eb=>⟨rfl,Jw (t':=s.toks) I (λ b o hb e=>eb b o (λ z=>hb (by simp [z])) e) hf⟩
 self:=λ _ _ _ _ _ st h=>wpAny_pyIter_revIter st.2 h
def Gs (K:Frag) (a:Addr):It:=
 ⟨λ i H=>∃ xs x,AN K H a xs/\xs[i]?=some x,λ i H v H'=>∃ T x,H T=none/\v=.ref T/\H'=Am H T (.tup [.int (i:Int),x])/\∀ xs,AN K H a xs->xs[i]?=some x,λ i H=>∃ xs,AN K H a xs/\xs.length<=i⟩
def x5 {P:A0}{w:Ay}{K:Frag}{es:List Expr}{k:Nat}{pos:Pos} (a e it:Addr) (hne:e≠it):Turn P w K (.Tuple es k pos) (Gs K a) [e,it] e (λ i h=>(∃ old,IsEnum h e it (i:Int) old)/\h.IsListIter it a i) where
 mem:=by simp
 obj:=λ i h st b hb=>by
  obtain ⟨⟨old,he⟩,o,ho,c,d⟩:=st;rcases ja8.mp hb with z | z
  ·rw [z];exact ⟨_,he,λ v z=>by cases z⟩
  ·rw [jb2.mp z];exact ⟨o,ho,λ v z=>by rw [d] at z;cases z⟩
 keep:=λ i h h' st k=>by
  obtain ⟨⟨old,he⟩,hi⟩:=st;exact ⟨⟨old,k e (by simp) _ he⟩,hi.at λ o x=>k it (by simp) o x⟩
 item:=by
  intro X hP hw hK hc i pins s σ H E I hf st hg;subst hP hw hK;obtain ⟨xs,x,hq,hx⟩:=hg;obtain ⟨its,rv,p,hz⟩:=I.list hq;obtain ⟨u,hu,ru⟩:=rv.get hx;obtain ⟨⟨old,he⟩,hit⟩:=st;refine wpAny_pyNext_enum_item he hit p.isList (x:=u) (by simpa using hu) hne λ h' ho hit' hT hsz hk=>⟨_,rfl,?_⟩
  refine wpAny_letOwnedTupleGo_enum ho λ h2 he2 hs2=>?_;have hs0:s.heap.objs.size≠e:=DL (A9 he);have hn:H s.heap.objs.size=none:=I.hok.fresh (AE _);have hT2:h2.get? s.heap.objs.size=some { cls:=.type "tuple",data:=.seq #[.int (i:Int) s.toks,u] }:=(hs2.2 _ hs0).trans hT;have I1:Inv X pins σ (Am H s.heap.objs.size (.tup [.int (i:Int),x])) { s with heap:=h2,toks:=s.toks + 1 }:=by
   refine N5 (fp:=[e,it]) I (λ b u hb q=>(hs2.2 b (λ z=>hb (by simp [z]))).trans (hk b u (λ z=>hb (by simp [z])) (λ z=>hb (by simp [z])) q)) hf (AE _) ?_;exact ⟨Co (by decide:2<=1000) (by decide),_,.cons ⟨_,rfl⟩ (.cons ru .nil),⟨_,hT2,rfl,_,rfl⟩⟩
  refine ⟨.ref s.heap.objs.size,_,I1,rfl,⟨_,x,hn,rfl,rfl,λ ys hy=>by rw [I.list_inj hy hq];exact hx⟩,⟨⟨u,?_⟩,hit'.at λ o q=>(hs2.2 it (Br hne)).trans q⟩,λ b hb=>?_⟩
  ·rw [show ((i + 1:Nat):Int)=(i:Int) + 1 by omega];exact he2
  ·have hb':=(hf b hb).1;rw [A3 (λ z=>?_)]
   ·exact hb'
   ·rcases ja8.mp hb with y | y
    ·rw [y] at z;exact hs0 z.symm
    ·rw [jb2.mp y] at z;obtain ⟨o,q,_⟩:=hit;exact absurd (A9 q) (by rw [z];exact Ed _)
 done:=by
  intro X hP hw hK hc i pins s σ H E I hf st hg;subst hP hw hK;obtain ⟨xs,hq,hx⟩:=hg;obtain ⟨its,rv,p,hz⟩:=I.list hq;obtain ⟨⟨old,he⟩,hit⟩:=st;have hl:=rv.length;exact wpAny_pyNext_enum_end (I.ok.hd hc) he hit p.isList (K6 (by simp;omega)) λ h' eb=>⟨rfl,Jw (t':=s.toks) I (λ b o hb q=>eb b o (λ z=>hb (by simp [z])) q) hf⟩
 self:=λ _ _ _ _ _ st h=>by
  obtain ⟨⟨old,he⟩,_⟩:=st;exact wpAny_pyIter_enum he h
def Gq (K:Frag) (a b:Addr):It:=
 ⟨λ i H=>∃ xs ys x y,AN K H a xs/\AN K H b ys/\xs[i]?=some x/\ys[i]?=some y,λ i H v H'=>∃ T x y,H T=none/\v=.ref T/\H'=Am H T (.tup [x,y])/\∀ xs ys,AN K H a xs->AN K H b ys->xs[i]?=some x/\ys[i]?=some y,λ i H=>∃ xs ys,AN K H a xs/\AN K H b ys/\(xs.length<=i\/ys.length<=i)⟩
def Q5 {h:Heap}{z TI TO i1 i2 l1 l2:Addr}{f0:Ac}{a b c d:Ac}{k1 k2:Nat}{xs ys:Array Ac} (hTT:TI≠TO) (E8:i1≠i2) (hz:CH h z TI TO f0) (hTI:BM h TI a b) (hTO:BM h TO c d) (h1:h.IsListIter i1 l1 k1) (h2:h.IsListIter i2 l2 k2) (hl1:h.IsList l1 xs) (hl2:h.IsList l2 ys):ZipApart z TI TO i1 i2 l1 l2:=by
 obtain ⟨o1,e1,c1,_⟩:=h1;obtain ⟨o2,e2,c2,_⟩:=h2;obtain ⟨p1,q1,r1,_⟩:=hl1;obtain ⟨p2,q2,r2,_⟩:=hl2;have ne:∀ {x y:Addr}{o o':Obj}{n m:String},h.get? x=some o->h.get? y=some o'->o.cls=.type n->o'.cls=.type m->n≠m->x≠y:=λ {x y o o' n m} ex ey cx cy nm z=>by
  subst z;rw [ex] at ey;cases ey;rw [cx] at cy;injection cy with cy
  exact nm cy
 exact ⟨ne hTI hz rfl rfl (by decide),ne hTO hz rfl rfl (by decide),ne e1 hz c1 rfl (by decide),ne e2 hz c2 rfl (by decide),hTT,ne hTI e1 rfl c1 (by decide),ne hTI e2 rfl c2 (by decide),ne hTO e1 rfl c1 (by decide),ne hTO e2 rfl c2 (by decide),E8,
  ne q1 hz r1 rfl (by decide),ne q1 hTO r1 rfl (by decide),ne q1 e1 r1 c1 (by decide),ne q1 e2 r1 c2 (by decide),ne q2 hz r2 rfl (by decide),ne q2 hTO r2 rfl (by decide),ne q2 e1 r2 c1 (by decide),ne q2 e2 r2 c2 (by decide)⟩
def qO {P:A0}{w:Ay}{K:Frag}{es:List Expr}{k:Nat}{pos:Pos} (l1 l2 z TI TO i1 i2:Addr) (hTT:TI≠TO) (E8:i1≠i2):
  Turn P w K (.Tuple es k pos) (Gq K l1 l2) [z,TI,TO,i1,i2] z (λ i h=>CH h z TI TO .none/\BM h TI (.ref i1) (.ref i2)/\(∃ p q,BM h TO p q)/\h.IsListIter i1 l1 i/\h.IsListIter i2 l2 i) where
 mem:=by simp
 obj:=λ i h st b hb=>by
  obtain ⟨hz,hTI,⟨p,q,hTO⟩,⟨o1,e1,_,d1⟩,⟨o2,e2,_,d2⟩⟩:=st;simp only [ja8,Hc,or_false] at hb;rcases hb with rfl | rfl | rfl | rfl | rfl
  ·exact ⟨_,hz,λ v z=>by cases z⟩
  ·exact ⟨_,hTI,λ v z=>by cases z⟩
  ·exact ⟨_,hTO,λ v z=>by cases z⟩
  ·exact ⟨o1,e1,λ v z=>by rw [d1] at z;cases z⟩
  ·exact ⟨o2,e2,λ v z=>by rw [d2] at z;cases z⟩
 keep:=λ i h h' st k=>by
  obtain ⟨hz,hTI,⟨p,q,hTO⟩,h1,h2⟩:=st;exact ⟨k z (by simp) _ hz,k TI (by simp) _ hTI,⟨p,q,k TO (by simp) _ hTO⟩,h1.at λ o x=>k i1 (by simp) o x,h2.at λ o x=>k i2 (by simp) o x⟩
 item:=by
  intro X hP hw hK hc i pins s σ H E I hf st hg;subst hP hw hK;obtain ⟨xs,ys,x,y,hq1,hq2,hx,hy⟩:=hg;obtain ⟨its1,rv1,p1,hz1⟩:=I.list hq1;obtain ⟨its2,rv2,p2,hz2⟩:=I.list hq2;obtain ⟨u1,hu1,ru1⟩:=rv1.get hx;obtain ⟨u2,hu2,ru2⟩:=rv2.get hy;obtain ⟨hz,hTI,⟨p,q,hTO⟩,h1,h2⟩:=st;have D:=Q5 hTT E8 hz hTI hTO h1 h2 p1.isList p2.isList;refine wpAny_pyNext_zip_item D hz hTI hTO h1 h2 p1.isList p2.isList (x:=u1) (y:=u2) (by simpa using hu1) (by simpa using hu2) λ h' a1 a2 a3 a4 a5 a6 hk=>⟨_,rfl,?_⟩
  refine RF a1 λ h2' hz' hs'=>?_;have hn:H s.heap.objs.size=none:=I.hok.fresh (AE _);have hs0:s.heap.objs.size≠z:=DL (A9 hz);have I1:Inv X pins σ (Am H s.heap.objs.size (.tup [x,y])) { s with heap:=h2',toks:=s.toks }:=by
   refine N5 (fp:=[z,TI,TO,i1,i2]) I (λ b u hb e=>(hs'.2 b (λ z=>hb (by simp [z]))).trans (hk b u (λ z=>hb (by simp [z])) (λ z=>hb (by simp [z])) (λ z=>hb (by simp [z])) (λ z=>hb (by simp [z])) e)) hf (AE _) ?_;exact ⟨Co (by decide:2<=1000) (by decide),_,.cons ru1 (.cons ru2 .nil),⟨_,(hs'.2 _ hs0).trans a5,rfl,_,rfl⟩⟩
  refine ⟨.ref s.heap.objs.size,_,I1,rfl,⟨_,x,y,hn,rfl,rfl,λ xs' ys' e1 e2=>⟨by rw [I.list_inj e1 hq1];exact hx,by rw [I.list_inj e2 hq2];exact hy⟩⟩,⟨hz',(hs'.2 _ D.TIz).trans (hk _ _ D.TIz D.TITO D.TIi1 D.TIi2 hTI),⟨_,_,(hs'.2 _ D.TOz).trans a2⟩,a3.at λ o e=>(hs'.2 _ D.i1z).trans e,a4.at λ o e=>(hs'.2 _ D.i2z).trans e⟩,λ b hb=>?_⟩;have hb':=(hf b hb).1;have lt:b < s.heap.objs.size:=by
   simp only [ja8,Hc,or_false] at hb;rcases hb with rfl | rfl | rfl | rfl | rfl
   ·exact A9 hz
   ·exact A9 hTI
   ·exact A9 hTO
   ·obtain ⟨_,e,_⟩:=h1;exact A9 e
   ·obtain ⟨_,e,_⟩:=h2;exact A9 e
  rw [A3 (BG lt)];exact hb'
 done:=by
  intro X hP hw hK hc i pins s σ H E I hf st hg;subst hP hw hK;obtain ⟨xs,ys,hq1,hq2,hend⟩:=hg;obtain ⟨its1,rv1,p1,hz1⟩:=I.list hq1;obtain ⟨its2,rv2,p2,hz2⟩:=I.list hq2;obtain ⟨hz,hTI,⟨p,q,hTO⟩,h1,h2⟩:=st;have D:=Q5 hTT E8 hz hTI hTO h1 h2 p1.isList p2.isList;have r1:=rv1.length;have r2:=rv2.length;refine wpAny_pyNext_zip_end (I.ok.hd hc) D hz hTI hTO h1 h2 p1.isList p2.isList ?_ λ h' hk=>⟨rfl,Jw (t':=s.toks) I (λ b o hb e=>hk b o (λ z=>hb (by simp [z])) (λ z=>hb (by simp [z])) (λ z=>hb (by simp [z])) (λ z=>hb (by simp [z])) e) hf⟩
  rcases hend with h | h
  ·exact .inl (K6 (by simp;omega))
  ·exact .inr (K6 (by simp;omega))
 self:=λ _ _ _ _ _ st h=>LK st.1 h
def Gp (a b:Addr):It:=
 ⟨λ i H=>∃ xs ys x y,H a=some (.tup xs)/\H b=some (.tup ys)/\xs[i]?=some x/\ys[i]?=some y,λ i H v H'=>∃ T x y,H T=none/\v=.ref T/\H'=Am H T (.tup [x,y])/\∀ xs ys,H a=some (.tup xs)->H b=some (.tup ys)->xs[i]?=some x/\ys[i]?=some y,λ i H=>∃ xs ys,H a=some (.tup xs)/\H b=some (.tup ys)/\(xs.length<=i\/ys.length<=i)⟩
def Rk {h:Heap}{H:Hp}{z TI TO i1 i2 l1 l2:Addr}{f0:Ac}{a b c d:Ac}{k1 k2:Nat}{xs ys:Array Ac}{us vs:List V} (hTT:TI≠TO) (E8:i1≠i2) (hz:CH h z TI TO f0) (hTI:BM h TI a b) (hTO:BM h TO c d) (h1:h.IsTupleIter i1 l1 k1) (h2:h.IsTupleIter i2 l2 k2) (hl1:h.IsTuple l1 xs) (hl2:h.IsTuple l2 ys) (n1:H TO=none) (q1:H l1=some (.tup us)) (q2:H l2=some (.tup vs)):ZApart z TI TO i1 i2 l1 l2:=by
 obtain ⟨o1,e1,c1,_⟩:=h1;obtain ⟨o2,e2,c2,_⟩:=h2;obtain ⟨p1,m1,r1,_⟩:=hl1;obtain ⟨p2,m2,r2,_⟩:=hl2;have ne:∀ {x y:Addr}{o o':Obj}{n m:String},h.get? x=some o->h.get? y=some o'->o.cls=.type n->o'.cls=.type m->n≠m->x≠y:=λ {x y o o' n m} ex ey cx cy nm z=>by
  subst z;rw [ex] at ey;cases ey;rw [cx] at cy;injection cy with cy
  exact nm cy
 exact ⟨ne hTI hz rfl rfl (by decide),ne hTO hz rfl rfl (by decide),ne e1 hz c1 rfl (by decide),ne e2 hz c2 rfl (by decide),hTT,ne hTI e1 rfl c1 (by decide),ne hTI e2 rfl c2 (by decide),ne hTO e1 rfl c1 (by decide),ne hTO e2 rfl c2 (by decide),E8,
  ne m1 hz r1 rfl (by decide),(λ z=>by rw [z,n1] at q1;cases q1),ne m1 e1 r1 c1 (by decide),ne m1 e2 r1 c2 (by decide),ne m2 hz r2 rfl (by decide),(λ z=>by rw [z,n1] at q2;cases q2),ne m2 e1 r2 c1 (by decide),ne m2 e2 r2 c2 (by decide)⟩
def Zj {P:A0}{w:Ay}{K:Frag}{es:List Expr}{k:Nat}{pos:Pos} (l1 l2 z TI TO i1 i2:Addr) (hTT:TI≠TO) (E8:i1≠i2):
  Turn P w K (.Tuple es k pos) (Gp l1 l2) [z,TI,TO,i1,i2] z (λ i h=>CH h z TI TO .none/\BM h TI (.ref i1) (.ref i2)/\(∃ p q,BM h TO p q)/\h.IsTupleIter i1 l1 i/\h.IsTupleIter i2 l2 i) where
 mem:=by simp
 obj:=λ i h st b hb=>by
  obtain ⟨hz,hTI,⟨p,q,hTO⟩,⟨o1,e1,_,d1⟩,⟨o2,e2,_,d2⟩⟩:=st;simp only [ja8,Hc,or_false] at hb;rcases hb with rfl | rfl | rfl | rfl | rfl
  ·exact ⟨_,hz,λ v z=>by cases z⟩
  ·exact ⟨_,hTI,λ v z=>by cases z⟩
  ·exact ⟨_,hTO,λ v z=>by cases z⟩
  ·exact ⟨o1,e1,λ v z=>by rw [d1] at z;cases z⟩
  ·exact ⟨o2,e2,λ v z=>by rw [d2] at z;cases z⟩
 keep:=λ i h h' st k=>by
  obtain ⟨hz,hTI,⟨p,q,hTO⟩,h1,h2⟩:=st;exact ⟨k z (by simp) _ hz,k TI (by simp) _ hTI,⟨p,q,k TO (by simp) _ hTO⟩,h1.at λ o x=>k i1 (by simp) o x,h2.at λ o x=>k i2 (by simp) o x⟩
 item:=by
  intro X hP hw hK hc i pins s σ H E I hf st hg;subst hP hw hK;obtain ⟨xs,ys,x,y,hq1,hq2,hx,hy⟩:=hg;obtain ⟨its1,rv1,p1,hz1⟩:=I.tuple (.of hq1);obtain ⟨its2,rv2,p2,hz2⟩:=I.tuple (.of hq2);obtain ⟨u1,hu1,ru1⟩:=rv1.get hx;obtain ⟨u2,hu2,ru2⟩:=rv2.get hy;obtain ⟨hz,hTI,⟨p,q,hTO⟩,h1,h2⟩:=st;have T1:s.heap.IsTuple l1 its1.toArray:=p1;have T2:s.heap.IsTuple l2 its2.toArray:=p2;have D:=Rk hTT E8 hz hTI hTO h1 h2 T1 T2 (hf TO (by simp)).1 hq1 hq2;refine Y1 D hz hTI hTO h1 h2 T1 T2 (u:=u1) (v:=u2) (by simpa using hu1) (by simpa using hu2) λ h' a1 a2 a3 a4 a5 a6 hk=>⟨_,rfl,?_⟩
  refine RF a1 λ h2' hz' hs'=>?_;have hn:H s.heap.objs.size=none:=I.hok.fresh (AE _);have hs0:s.heap.objs.size≠z:=DL (A9 hz);have I1:Inv X pins σ (Am H s.heap.objs.size (.tup [x,y])) { s with heap:=h2',toks:=s.toks }:=by
   refine N5 (fp:=[z,TI,TO,i1,i2]) I (λ b u hb e=>(hs'.2 b (λ z=>hb (by simp [z]))).trans (hk b u (λ z=>hb (by simp [z])) (λ z=>hb (by simp [z])) (λ z=>hb (by simp [z])) (λ z=>hb (by simp [z])) e)) hf (AE _) ?_;exact ⟨Co (by decide:2<=1000) (by decide),_,.cons ru1 (.cons ru2 .nil),⟨_,(hs'.2 _ hs0).trans a5,rfl,_,rfl⟩⟩
  refine ⟨.ref s.heap.objs.size,_,I1,rfl,⟨_,x,y,hn,rfl,rfl,λ xs' ys' e1 e2=>⟨by rw [hq1] at e1;cases e1;exact hx,by rw [hq2] at e2;cases e2;exact hy⟩⟩,⟨hz',(hs'.2 _ D.ne1).trans (hk _ _ D.ne1 D.ne5 D.ne6 D.ne7 hTI),⟨_,_,(hs'.2 _ D.ne2).trans a2⟩,a3.at λ o e=>(hs'.2 _ D.ne3).trans e,a4.at λ o e=>(hs'.2 _ D.ne4).trans e⟩,λ b hb=>?_⟩;have hb':=(hf b hb).1;have lt:b < s.heap.objs.size:=by
   simp only [ja8,Hc,or_false] at hb;rcases hb with rfl | rfl | rfl | rfl | rfl
   ·exact A9 hz
   ·exact A9 hTI
   ·exact A9 hTO
   ·obtain ⟨_,e,_⟩:=h1;exact A9 e
   ·obtain ⟨_,e,_⟩:=h2;exact A9 e
  rw [A3 (BG lt)];exact hb'
 done:=by
  intro X hP hw hK hc i pins s σ H E I hf st hg;subst hP hw hK;obtain ⟨xs,ys,hq1,hq2,hend⟩:=hg;obtain ⟨its1,rv1,p1,hz1⟩:=I.tuple (.of hq1);obtain ⟨its2,rv2,p2,hz2⟩:=I.tuple (.of hq2);obtain ⟨hz,hTI,⟨p,q,hTO⟩,h1,h2⟩:=st;have T1:s.heap.IsTuple l1 its1.toArray:=p1;have T2:s.heap.IsTuple l2 its2.toArray:=p2;have D:=Rk hTT E8 hz hTI hTO h1 h2 T1 T2 (hf TO (by simp)).1 hq1 hq2;have r1:=rv1.length;have r2:=rv2.length;refine VF (I.ok.hd hc) D hz hTI hTO h1 h2 T1 T2 ?_ λ h' hk=>⟨rfl,Jw (t':=s.toks) I (λ b o hb e=>hk b o (λ z=>hb (by simp [z])) (λ z=>hb (by simp [z])) (λ z=>hb (by simp [z])) (λ z=>hb (by simp [z])) e) hf⟩
  rcases hend with h | h
  ·exact .inl (K6 (by simp;omega))
  ·exact .inr (K6 (by simp;omega))
 self:=λ _ _ _ _ _ st h=>LK st.1 h
section
variable {X:Cx}{tg:Expr}
def PU (K:Frag) (ta:TA):TI:=λ σ H R=>ta σ H λ vs H1=>∃ a xs,vs=[.ref a]/\AN K H1 a xs/\R (Gr K a xs.length) H1
def PX (K:Frag) (ta:TA):TI:=λ σ H R=>ta σ H λ vs H1=>∃ a xs,vs=[.ref a]/\AN K H1 a xs/\R (Gs K a) H1
def PQ (K:Frag) (ta:TA):TI:=λ σ H R=>ta σ H λ vs H1=>∃ a b xs ys,vs=[.ref a,.ref b]/\((AN K H1 a xs/\AN K H1 b ys/\R (Gq K a b) H1)\/(H1 a=some (.tup xs)/\H1 b=some (.tup ys)/\R (Gp a b) H1))
theorem WY {a:Expr}{ta:TA}{p pos:Pos} (hg:Gl X "reversed") (hm:X.mg "reversed" = none) (ha:PA X [a] ta) (hs:As [a] X.env=[(false,eval a X.env)]):PI X tg (.Call (.Name "reversed" p) [a] [] pos) (PU X.K ta):=by
 intro pins s σ H R I h;refine Call_ (Fq I hg hm boot_reversed (IU (Aw (ha pos pins s σ H _ I h) λ us s1 ⟨vs,H1,I1,r1,q1⟩=>?_) hs rfl));obtain ⟨b,xs,e,hq,q⟩:=q1;subst e;cases r1 with
 | cons r rr=>
  cases rr;cases r;obtain ⟨its,rv,pl,hz⟩:=I1.list hq;have hl:=rv.length;refine call_reversed_list pl.isList ?_;have hT:(s1.heap.push (revObj b ((its.toArray.size:Int) - 1))).IsRevIter s1.heap.objs.size b ((its.toArray.size:Int) - 1):=⟨_,BV _ rfl,rfl,rfl⟩
  refine wpAny_pyIter_revIter (s:={ s1 with heap:=s1.heap.push (revObj b ((its.toArray.size:Int) - 1)) }) hT ?_;refine ⟨s1.heap.objs.size,[s1.heap.objs.size],_,_,H1,rfl,I1.kept (t':=s1.toks) λ b o e=>AX _ e,qM b _ xs.length,⟨D4 _,?_⟩,λ c hc=>?_,q⟩
  ·rw [show (xs.length:Int) - 1 - ((0:Nat):Int)=(its.toArray.size:Int) - 1 by simp;omega];exact hT
  ·have e:c=s1.heap.objs.size:=by simpa using hc
   subst e;exact I1.fpOk (AE _) (I1.hok.fresh (AE _))
theorem Y8 {a:Expr}{ta:TA}{es:List Expr}{k:Nat}{tp p pos:Pos} (hg:Gl X "enumerate") (hm:X.mg "enumerate" = none) (ha:PA X [a] ta) (hs:As [a] X.env=[(false,eval a X.env)]):PI X (.Tuple es k tp) (.Call (.Name "enumerate" p) [a] [] pos) (PX X.K ta):=by
 intro pins s σ H R I h;refine Call_ (Fq I hg hm boot_enumerate (IU (Aw (ha pos pins s σ H _ I h) λ us s1 ⟨vs,H1,I1,r1,q1⟩=>?_) hs rfl));obtain ⟨b,xs,e,hq,q⟩:=q1;subst e;cases r1 with
 | cons r rr=>
  cases rr;cases r;obtain ⟨its,rv,pl,hz⟩:=I1.list hq;refine call_enumerate_list pl.isList λ h' he hit hsz hk=>?_;refine wpAny_pyIter_enum (s:={ s1 with heap:=h' }) he ?_;refine ⟨s1.heap.objs.size + 1,[s1.heap.objs.size + 1,s1.heap.objs.size],_,_,H1,rfl,I1.kept (t':=s1.toks) hk,x5 b _ _ (Nat.succ_ne_self _),⟨⟨_,he⟩,hit⟩,λ c hc=>?_,q⟩;rcases ja8.mp hc with e | e
  ·rw [e];exact I1.fpOk (FR _) (I1.hok.fresh (FR _))
  ·rw [jb2.mp e];exact I1.fpOk (AE _) (I1.hok.fresh (AE _))
def Xa {a b:Expr}{ta:TA}{es:List Expr}{k:Nat}{tp p pos:Pos} (hg:Gl X "zip") (hm:X.mg "zip" = none) (ha:PA X [a,b] ta) (hs:As [a,b] X.env=[(false,eval a X.env),(false,eval b X.env)]) (hs2:As [b] X.env=[(false,eval b X.env)]):
  PI X (.Tuple es k tp) (.Call (.Name "zip" p) [a,b] [] pos) (PQ X.K ta):=by
 intro pins s σ H R I h;refine Call_ (Fq I hg hm boot_zip (IU (Aw (ha pos pins s σ H _ I h) λ us s1 ⟨vs,H1,I1,r1,q1⟩=>?_) (by rw [hs,hs2]) (by rw [hs2];rfl)));obtain ⟨c,d,xs,ys,e,⟨hq1,hq2,q⟩ | ⟨hq1,hq2,q⟩⟩:=q1
 ·subst e;cases r1 with
  | cons r rr=>
   cases rr with
   | cons r' rr=>
    cases rr;cases r;cases r';obtain ⟨its1,rv1,p1,hz1⟩:=I1.list hq1;obtain ⟨its2,rv2,p2,hz2⟩:=I1.list hq2;refine call_zip_2 p1.isList p2.isList λ h' hz hTI hTO h1 h2 hsz hk=>?_;refine LK (s:={ s1 with heap:=h' }) hz ?_;refine ⟨s1.heap.objs.size + 4,[s1.heap.objs.size + 4,s1.heap.objs.size + 2,s1.heap.objs.size + 3,s1.heap.objs.size,s1.heap.objs.size + 1],_,_,H1,rfl,I1.kept (t':=s1.toks) hk,qO c d _ _ _ _ _ (BG (FY _)) (BG (FY _)),⟨hz,hTI,⟨_,_,hTO⟩,h1,h2⟩,λ x hx=>?_,q⟩
    have:s1.heap.objs.size<=x:=by
     simp only [ja8,Hc,or_false] at hx;rcases hx with rfl | rfl | rfl | rfl | rfl
     ·exact FW _ _
     ·exact FW _ _
     ·exact FW _ _
     ·exact AE _
     ·exact FW _ _
    exact I1.fpOk this (I1.hok.fresh this)
 ·subst e;cases r1 with
  | cons r rr=>
   cases rr with
   | cons r' rr=>
    cases rr;cases r;cases r';obtain ⟨its1,rv1,p1,hz1⟩:=I1.tuple (.of hq1);obtain ⟨its2,rv2,p2,hz2⟩:=I1.tuple (.of hq2);refine XZ (us:=its1.toArray) (vs:=its2.toArray) p1 p2 λ h' hz hTI hTO h1 h2 hsz hk=>?_;refine LK (s:={ s1 with heap:=h' }) hz ?_;refine ⟨s1.heap.objs.size + 4,[s1.heap.objs.size + 4,s1.heap.objs.size + 2,s1.heap.objs.size + 3,s1.heap.objs.size,s1.heap.objs.size + 1],_,_,H1,rfl,I1.kept (t':=s1.toks) hk,Zj c d _ _ _ _ _ (BG (FY _)) (BG (FY _)),⟨hz,hTI,⟨_,_,hTO⟩,h1,h2⟩,λ x hx=>?_,q⟩
    have:s1.heap.objs.size<=x:=by
     simp only [ja8,Hc,or_false] at hx;rcases hx with rfl | rfl | rfl | rfl | rfl
     ·exact FW _ _
     ·exact FW _ _
     ·exact FW _ _
     ·exact AE _
     ·exact FW _ _
    exact I1.fpOk this (I1.hok.fresh this)
end
inductive Vw where
 | rev | enm | zp
def GR:Nat->List PV->List PV
 | _,[]=>[]
 | i,x::xs=>.tup [.int (i:Int),x]::GR (i + 1) xs
def Cw:List PV->List PV->List PV
 | x::xs,y::ys=>.tup [x,y]::Cw xs ys
 | _,_=>[]
def Gy:Vw->List PV->Option (List PV)
 | .rev,[.lst xs]=>some xs.reverse
 | .enm,[.lst xs]=>some (GR 0 xs)
 | .zp,[.lst xs,.lst ys]=>some (Cw xs ys)
 | .zp,[.tup xs,.tup ys]=>some (Cw xs ys)
 | _,_=>none
def So (v:Vw) (K:Frag) (ws:List V) (H:Hp) (R:It->Hp->Prop):Prop:=match v with
 | .rev=>∃ a xs,ws=[.ref a]/\AN K H a xs/\R (Gr K a xs.length) H
 | .enm=>∃ a xs,ws=[.ref a]/\AN K H a xs/\R (Gs K a) H
 | .zp=>∃ a b xs ys,ws=[.ref a,.ref b]/\((AN K H a xs/\AN K H b ys/\R (Gq K a b) H)\/(H a=some (.tup xs)/\H b=some (.tup ys)/\R (Gp a b) H))
def PR (v:Vw) (K:Frag) (ta:TA):TI:=λ σ H R=>ta σ H λ ws H1=>So v K ws H1 R
theorem Rv:∀ (xs:List PV) (k:Nat),(GR k xs).length=xs.length
 | [],_=>rfl
 | x::xs,k=>by rw [GR,Cf,Rv xs,Cf]
theorem Ru:∀ (xs:List PV) (k i:Nat),(GR k xs)[i]?=(xs[i]?).map λ x=>PV.tup [.int ((k + i:Nat):Int),x]
 | [],_,_=>by simp [GR]
 | x::xs,k,0=>by simp [GR]
 | x::xs,k,i + 1=>by
  rw [GR,K7,Ru xs (k + 1) i,K7,show k + 1 + i=k + (i + 1) by omega]
theorem Oc:∀ (xs ys:List PV),(Cw xs ys).length=min xs.length ys.length
 | [],ys=>by simp [Cw]
 | x::xs,[]=>by simp [Cw]
 | x::xs,y::ys=>by rw [Cw,Cf,Oc xs ys,Cf,Cf];omega
theorem Ob:∀ (xs ys:List PV) (i:Nat) (x y:PV),xs[i]?=some x->ys[i]?=some y->(Cw xs ys)[i]?=some (.tup [x,y])
 | [],ys,i,x,y,h,_=>by simp at h
 | a::xs,[],i,x,y,_,h=>by simp at h
 | a::xs,b::ys,0,x,y,h,h'=>by simp at h h';subst h h';simp [Cw]
 | a::xs,b::ys,i + 1,x,y,h,h'=>by
  rw [Cw,K7];exact Ob xs ys i x y (by simpa using h) (by simpa using h')
def Own.growH {K:Frag}{H H':Hp}{Z:Addr->Prop}{x:PV}{v:V} (k:∀ a o,H a=some o->H' a=some o) (h:Own K H Z x 0 v []):Own K H' Z x 0 v []:=
 Own.move (S:=λ _=>False) (λ a o h _=>k a o h) (λ _ z=>z.elim) (λ _ _ n=>n) x 0 v [] (λ _ z=>nomatch z) h
def Gx {K:Frag}{H:Hp}{Z:Addr->Prop}{xs:List PV}{v:V} (o:Own K H Z (.lst xs) 0 v []):∃ a ws,v=.ref a/\AN K H a ws/\OwnL K H Z xs 0 ws []:=by
 rw [Own] at o;obtain ⟨b,ws,e,⟨_,hr,_,ol⟩ | ⟨h,_⟩⟩:=o
 ·exact ⟨b,ws,e,.inl (.inl hr.1),ol⟩
 ·exact absurd rfl h
def Lg {K:Frag}{H:Hp}{Z:Addr->Prop}{xs:List PV}{v:V} (o:Own K H Z (.tup xs) 0 v []):∃ a ws,v=.ref a/\H a=some (.tup ws)/\OwnL K H Z xs 0 ws []:=by
 rw [Own] at o;obtain ⟨a,ws,e,h,ol⟩:=o;rw [NQ] at ol;exact ⟨a,ws,e,h,ol⟩
def N0 {K:Frag}{H:Hp}{Z:Addr->Prop}{x y:PV}{u v:V}{T:Addr} (hT:H T=some (.tup [u,v])) (ox:Own K H Z x 0 u []) (oy:Own K H Z y 0 v []):Own K H Z (.tup [x,y]) 0 (.ref T) []:=by
 rw [Own];refine ⟨T,_,rfl,hT,?_⟩;rw [NQ,OwnL];refine ⟨u,[v],[],[],rfl,rfl,(λ _ z=>nomatch z),ox,?_⟩;rw [OwnL];exact ⟨v,[],[],[],rfl,rfl,(λ _ z=>nomatch z),oy,by rw [OwnL];exact ⟨rfl,rfl⟩⟩
def OwnL.one {K:Frag}{H:Hp}{Z:Addr->Prop}{x:PV}{ws:List V} (o:OwnL K H Z [x] 0 ws []):∃ v,ws=[v]/\Own K H Z x 0 v []:=by
 rw [OwnL] at o;obtain ⟨v,r,f1,f2,rfl,ef,_,o1,o2⟩:=o;obtain ⟨rfl,rfl⟩:f1=[]/\f2=[]:=by simpa using ef.symm
 rw [OwnL] at o2;exact ⟨v,by rw [o2.1],o1⟩
def OwnL.two {K:Frag}{H:Hp}{Z:Addr->Prop}{x y:PV}{ws:List V} (o:OwnL K H Z [x,y] 0 ws []):∃ u v,ws=[u,v]/\Own K H Z x 0 u []/\Own K H Z y 0 v []:=by
 rw [OwnL] at o;obtain ⟨u,r,f1,f2,rfl,ef,_,o1,o2⟩:=o;obtain ⟨rfl,rfl⟩:f1=[]/\f2=[]:=by simpa using ef.symm
 obtain ⟨v,rfl,o3⟩:=o2.one;exact ⟨u,v,rfl,o1,o3⟩
theorem OwnL.mono0 {K:Frag}{H H':Hp}{Z Z':Addr->Prop} (h:∀ x v,Own K H Z x 0 v []->Own K H' Z' x 0 v []):∀ {xs:List PV}{ws:List V},OwnL K H Z xs 0 ws []->OwnL K H' Z' xs 0 ws []
 | [],ws,o=>by rw [OwnL] at o ⊢;exact o
 | x::xs,ws,o=>by
  rw [OwnL] at o;obtain ⟨u,r,f1,f2,rfl,ef,_,o1,o2⟩:=o;obtain ⟨rfl,rfl⟩:f1=[]/\f2=[]:=by simpa using ef.symm
  rw [OwnL];exact ⟨u,r,[],[],rfl,rfl,(λ _ z=>nomatch z),h _ _ o1,OwnL.mono0 h o2⟩
def Sq {v:Vw}{ps els:List PV}{ws:List V}{K:Frag}{H:Hp}{Z:Addr->Prop} (he:Gy v ps=some els) (o:OwnL K H Z ps 0 ws []):∃ J,(∀ R:It->Hp->Prop,R J H->So v K ws H R)/\∀ H Z,OwnL K H Z ps 0 ws []->∀ i,(i < els.length->J.go i H)/\(els.length<=i->J.stop i H) /\
  (i < els.length->∀ x H',J.yld i H x H'->(∀ a o,H a=some o->H' a=some o)/\∃ y,els[i]?=some y/\Own K H' Z y 0 x []):=by
 unfold Gy at he;split at he
 ·rename_i xs;cases he;obtain ⟨v,rfl,o1⟩:=o.one;obtain ⟨a,us,rfl,sq,ol⟩:=Gx o1;refine ⟨Gr K a us.length,λ R r=>⟨a,us,rfl,sq,r⟩,λ H' Z' o' i=>?_⟩;obtain ⟨v',e,o1'⟩:=o'.one;cases e;obtain ⟨a',us',e,sq',ol'⟩:=Gx o1';cases e;have hl:=ol.length;have hl':=ol'.length;rw [K5];refine ⟨λ h=>⟨by omega,us',us'[us.length - 1 - i]'(by omega),sq',by simp⟩,λ h=>?_,λ h x H2 y=>?_⟩
  ·show us.length<=i;omega
  ·obtain ⟨rfl,e2⟩:=y;refine ⟨λ _ _ h=>h,?_⟩;obtain ⟨z,ez,oz⟩:=ol'.get (e2 us' sq');refine ⟨z,?_,oz⟩;rw [List.getElem?_reverse (by omega),<- ez,hl]
 ·rename_i xs;cases he;obtain ⟨v,rfl,o1⟩:=o.one;obtain ⟨a,us,rfl,sq,ol⟩:=Gx o1;refine ⟨Gs K a,λ R r=>⟨a,us,rfl,sq,r⟩,λ H' Z' o' i=>?_⟩;obtain ⟨v',e,o1'⟩:=o'.one;cases e;obtain ⟨a',us',e,sq',ol'⟩:=Gx o1';cases e;have hl':=ol'.length;rw [Rv];refine ⟨λ h=>⟨us',us'[i]'(by omega),sq',by simp⟩,λ h=>⟨us',sq',by omega⟩,λ h x H2 y=>?_⟩;obtain ⟨T,u,hT,rfl,rfl,e2⟩:=y;have kx:∀ a o,H' a=some o->Am H' T (.tup [.int (i:Int),u]) a=some o:=λ a o h=>by rw [A3 (λ z=>by rw [z,hT] at h;cases h)];exact h
  refine ⟨kx,?_⟩;obtain ⟨z,ez,oz⟩:=ol'.get (e2 us' sq');refine ⟨.tup [.int (i:Int),z],?_,N0 Bq (by rw [Own];exact ⟨rfl,rfl⟩) (oz.growH kx)⟩;rw [Ru,ez];simp
 ·rename_i xs ys;cases he;obtain ⟨v1,v2,rfl,o1,o2⟩:=o.two;obtain ⟨a,us,rfl,sq,ol⟩:=Gx o1;obtain ⟨b,vs,rfl,sq2,ol2⟩:=Gx o2;refine ⟨Gq K a b,λ R r=>⟨a,b,us,vs,rfl,.inl ⟨sq,sq2,r⟩⟩,λ H' Z' o' i=>?_⟩;obtain ⟨v1',v2',e,o1',o2'⟩:=o'.two;cases e;obtain ⟨a',us',e,sq',ol'⟩:=Gx o1';cases e;obtain ⟨b',vs',e,sq2',ol2'⟩:=Gx o2';cases e;have hl1:=ol'.length;have hl2:=ol2'.length;rw [Oc];refine ⟨λ h=>⟨us',vs',us'[i]'(by omega),vs'[i]'(by omega),sq',sq2',by simp,by simp⟩,λ h=>⟨us',vs',sq',sq2',by omega⟩,λ h x H2 y=>?_⟩;obtain ⟨T,u,w,hT,rfl,rfl,e2⟩:=y;have kx:∀ a o,H' a=some o->Am H' T (.tup [u,w]) a=some o:=λ a o h=>by rw [A3 (λ z=>by rw [z,hT] at h;cases h)];exact h
  obtain ⟨e3,e4⟩:=e2 us' vs' sq' sq2';obtain ⟨z1,ez1,oz1⟩:=ol'.get e3;obtain ⟨z2,ez2,oz2⟩:=ol2'.get e4;exact ⟨kx,.tup [z1,z2],Ob _ _ _ _ _ ez1 ez2,N0 Bq (oz1.growH kx) (oz2.growH kx)⟩
 ·rename_i xs ys;cases he;obtain ⟨v1,v2,rfl,o1,o2⟩:=o.two;obtain ⟨a,us,rfl,sq,ol⟩:=Lg o1;obtain ⟨b,vs,rfl,sq2,ol2⟩:=Lg o2;refine ⟨Gp a b,λ R r=>⟨a,b,us,vs,rfl,.inr ⟨sq,sq2,r⟩⟩,λ H' Z' o' i=>?_⟩;obtain ⟨v1',v2',e,o1',o2'⟩:=o'.two;cases e;obtain ⟨a',us',e,sq',ol'⟩:=Lg o1';cases e;obtain ⟨b',vs',e,sq2',ol2'⟩:=Lg o2';cases e;have hl1:=ol'.length;have hl2:=ol2'.length;rw [Oc];refine ⟨λ h=>⟨us',vs',us'[i]'(by omega),vs'[i]'(by omega),sq',sq2',by simp,by simp⟩,λ h=>⟨us',vs',sq',sq2',by omega⟩,λ h x H2 y=>?_⟩;obtain ⟨T,u,w,hT,rfl,rfl,e2⟩:=y;have kx:∀ a o,H' a=some o->Am H' T (.tup [u,w]) a=some o:=λ a o h=>by rw [A3 (λ z=>by rw [z,hT] at h;cases h)];exact h
  obtain ⟨e3,e4⟩:=e2 us' vs' sq' sq2';obtain ⟨z1,ez1,oz1⟩:=ol'.get e3;obtain ⟨z2,ez2,oz2⟩:=ol2'.get e4;exact ⟨kx,.tup [z1,z2],Ob _ _ _ _ _ ez1 ez2,N0 Bq (oz1.growH kx) (oz2.growH kx)⟩
 ·cases he
section
variable {is:List Nat}{M:Fm}{ρ ρ':Ae}{σ σ':St}{H H' H'':Hp}{fps fps' fps'':AA}{vs vs':List Nat}
def IZ (v:Vw) (fa:Fa) (vs:List Nat) (asg:PV->Ae->Option Ae) (body:Fs):Fs:=λ ρ=>match fa ρ with
 | .ok (xs,ρ1)=>(match Gy v (xs.map (·.1)) with
  | some els=>CP asg body els (Bb (if C5 xs=true then om else 0) vs ρ1)
  | none=>.no)
 | .exc c=>.exc c
 | .no=>.no
def Hn (v:Vw) (fa:Fa) (k:Nat) (asg:PV->Ae->Option Ae) (test:Fb) (elt:Fx):Fx:=λ ρ=>match fa ρ with
 | .ok (xs,ρ1)=>(match Gy v (xs.map (·.1)) with
  | some els=>(BY k asg test elt els ρ1 []).bindN λ (acc,ρ2)=>BO acc ρ2
  | none=>.no)
 | .exc c=>.exc c
 | .no=>.no
theorem Rep.seens {xs:List (PV×Nat)}{ws:List V}{fp:List Addr} (rep:Rep M ρ σ H fps) (k:KD M H fps H' fps') (g:Agr M ρ ρ') (r':Rep M ρ' σ H' fps') (o:Tmps M.K H' (Zv M vs fps') xs ws fp) (t:Temp M vs H H' fps' fp)
  (hal:∀ i,M.al i=[]) (hv:∀ i∈vs,M.Ms i=false):∃ fps2,KS M H fps H' fps2/\Rep M (Bb (if C5 xs=true then om else 0) vs ρ') σ H' fps2/\OwnL M.K H' (Zf M fps2) (xs.map (·.1)) 0 ws []:=by
 unfold Bb;cases ho:C5 xs with
 | true=>
  rw [if_pos rfl,if_pos rfl];refine ⟨fps',k.ks,r',?_⟩;exact OwnL.freeze (λ _ z=>z) _ om ws fp (λ a ha=>t.ndj a ha) (OwnL.full _ ws fp (o.all (J6 ho)))
 | false=>
  rw [if_neg C8,if_neg (by decide)];exact ⟨Dp vs fps',k.ks.cool,r'.cool hal hv,(o.cold λ a ha z=>t.ndj a ha z.zf).weak λ a h=>GH h⟩
theorem Ua {v:Vw}{g:TG}{asg:PV->Ae->Option Ae}{body:Fs}{fa:Fa}{D:Ends} (hal:∀ i,M.al i=[]) (hv:∀ i∈vs,M.Ms i=false) (hg:Df M [] is g asg) (hq:tS M (IZ v fa vs asg body) D σ H):Ex (PR v M.K (tL M fa vs)) g (tS M body) D σ H:=by
 obtain ⟨ρ,fps,rep,q⟩:=hq;refine ⟨ρ,fps,rep,?_⟩;unfold IZ at q;cases ef:fa ρ with
 | no=>rw [ef] at q;exact q
 | exc c=>rw [ef] at q;exact λ H' fps' k=>q _ H' fps' k.ks
 | ok p=>
  obtain ⟨xs,ρ1⟩:=p;rw [ef] at q;intro ws H1 fps1 f1 k1 g1 rep1 o1 t1;dsimp only at q;cases ee:Gy v (xs.map (·.1)) with
  | none=>rw [ee] at q;exact q.elim
  | some els=>
   rw [ee] at q;obtain ⟨fps2,k2,r2,o2⟩:=Rep.seens rep k1 g1 rep1 o1 t1 hal hv;obtain ⟨J,hpre,hJ⟩:=Sq ee o2;refine hpre _ ?_;exact JE (Pq:=λ H fps=>OwnL M.K H (Zf M fps) (xs.map λ (p:PV×Nat)=>p.1) 0 ws []) (els:=els) hg (λ r k o=>o.mono0 λ x v h=>k.stay0 r h) (λ {H fps i} o h=>(hJ H _ o i).1 h) (λ {H fps i} o h=>(hJ H _ o i).2.1 h) (λ {ρ σ H fps i x H'} _ o h y=>(hJ H _ o i).2.2 h x H' y) r2 o2 (RsOk.from k2 q)
theorem ql {v:Vw}{g:TG}{is vI vE vo:List Nat}{asg:PV->Ae->Option Ae}{test:Fb}{elt:Fx}{fa:Fa}{k n:Nat}{Q:VK}{P:Fm->Prop}
  (hn:σ.length=n) (hP:∀ D,P (M.comp D n vI)) (hal:∀ i,∀ j∈M.al i,M.Ms j=false) (hvI:∀ i∈vI,M.Ms i=false) (hvE:∀ i∈vE,M.Ms i=false) (his:∀ i∈is,n<=i) (hg:∀ D,Df (M.comp D n vI) vI is g asg)
  (hvo:∀ i,i∈vE->i < n->i∈vo) (hvo2:∀ i∈vo,M.Ms i=false) (hq:tE M (Hn v fa k asg test elt) vo σ H Q):
  Hr k (PR v M.K (tL M fa vI)) g (λ σ H Q=>∃ M',P M'/\tT M' test σ H Q) (λ σ H Q=>∃ M',P M'/\tE M' elt vE σ H Q) σ H Q:=by
 obtain ⟨ρ,fps,rep,q⟩:=hq;refine ⟨ρ,fps,rep,?_⟩;unfold Hn at q;cases ef:fa ρ with
 | no=>rw [ef] at q;exact q
 | exc c=>rw [ef] at q;exact q
 | ok p=>
  obtain ⟨xs,ρ1⟩:=p;rw [ef] at q;intro ws H1 fps1 f1 k1 g1 rep1 o1 t1;dsimp only at q;cases ee:Gy v (xs.map (·.1)) with
  | none=>rw [ee] at q;exact q.elim
  | some els=>
   rw [ee] at q;have hl:n=ρ1.length:=by rw [rep1.len];exact hn.symm
   have o0:OwnL M.K H1 (Zv M vI fps1) (xs.map (·.1)) 0 ws []:=o1.cold λ a ha z=>t1.ndj a ha z.zf;obtain ⟨J,hpre,hJ⟩:=Sq ee o0;refine hpre _ ?_;have stay:∀ {D H' fps'},H1 D=none->KD M H1 fps1 H' fps'->OwnL M.K H' (Zv (M.plus [D]) vI fps') (xs.map (·.1)) 0 ws []:=λ hD k'=>o0.mono0 λ x v h=>KD.seen rep1 k' hD hvI h;refine Jz (els:=els) hP hl hal hvI hvE his hg hvo hvo2 rep1 (λ {D H' fps' i} hD k' h=>(hJ H' _ (stay hD k') i).1 h) (λ {D H' fps' i} hD k' h=>(hJ H' _ (stay hD k') i).2.1 h) (λ {D H' fps' i x H''} hD k' h y=>(hJ H' _ (stay hD k') i).2.2 h x H'' y) ?_;dsimp only at q;cases ec:BY k asg test elt els ρ1 [] with
   | no=>rw [ec] at q;exact q.elim
   | exc c=>rw [ec] at q;exact q.elim
   | ok p=>
    obtain ⟨acc,ρ2⟩:=p;rw [ec] at q;exact λ D ws H' fps' fpl k g r hD hD' tm hf=>Nr rep1 k1 g1 q k g r hD hD' tm hf
end
section
variable {X:Cx}{M:Fm}{f g:Fx}{fa:Fa}{vs vs':List Nat}{a b e:Expr}{es:List Expr}{pos p p2:Pos}{σ:St}{H:Hp}{Q:VK}
theorem qP:∀ {xs:List V}{us:List Ac},Vals xs us->Vals xs.reverse us.reverse
 | _,_,.nil=>.nil
 | _,_,.cons r rr=>by rw [MP,MP];exact (qP rr).append (.cons r .nil)
theorem OwnL.snoc0 {K:Frag}{H:Hp}{Z:Addr->Prop}{x:PV}{v:V}:∀ {xs:List PV}{ws:List V},OwnL K H Z xs 0 ws []->Own K H Z x 0 v []->OwnL K H Z (xs++[x]) 0 (ws++[v]) []
 | [],ws,h,o=>by
  rw [OwnL] at h;obtain ⟨rfl,_⟩:=h;rw [FV,FV,OwnL];exact ⟨v,[],[],[],rfl,rfl,(λ _ z=>nomatch z),o,by rw [OwnL];exact ⟨rfl,rfl⟩⟩
 | y::xs,ws,h,o=>by
  rw [OwnL] at h;obtain ⟨u,r,f1,f2,rfl,ef,_,o1,o2⟩:=h;obtain ⟨rfl,rfl⟩:f1=[]/\f2=[]:=by simpa using ef.symm
  rw [MN,MN,OwnL];exact ⟨u,r++[v],[],[],rfl,rfl,(λ _ z=>nomatch z),o1,OwnL.snoc0 o2 o⟩
theorem OwnL.append0 {K:Frag}{H:Hp}{Z:Addr->Prop}{ys:List PV}{us:List V} (h2:OwnL K H Z ys 0 us []):∀ {xs:List PV}{ws:List V},OwnL K H Z xs 0 ws []->OwnL K H Z (xs++ys) 0 (ws++us) []
 | [],ws,h=>by
  rw [OwnL] at h;obtain ⟨rfl,_⟩:=h;exact h2
 | y::xs,ws,h=>by
  rw [OwnL] at h;obtain ⟨u,r,f1,f2,rfl,ef,_,o1,o2⟩:=h;obtain ⟨rfl,rfl⟩:f1=[]/\f2=[]:=by simpa using ef.symm
  rw [MN,MN,OwnL];exact ⟨u,r++us,[],[],rfl,rfl,(λ _ z=>nomatch z),o1,OwnL.append0 h2 o2⟩
theorem OwnL.rev {K:Frag}{H:Hp}{Z:Addr->Prop}:∀ {xs:List PV}{ws:List V},OwnL K H Z xs 0 ws []->OwnL K H Z xs.reverse 0 ws.reverse []
 | [],ws,h=>by
  rw [OwnL] at h;obtain ⟨rfl,_⟩:=h;rw [List.reverse_nil,OwnL];exact ⟨rfl,rfl⟩
 | y::xs,ws,h=>by
  rw [OwnL] at h;obtain ⟨u,r,f1,f2,rfl,ef,_,o1,o2⟩:=h;obtain ⟨rfl,rfl⟩:f1=[]/\f2=[]:=by simpa using ef.symm
  rw [MP,MP];exact OwnL.snoc0 (OwnL.rev o2) o1
def GG:List (PV×Nat)->Option (PV×Nat)
 | [(.bl b,_)]=>some (.int (if b then 1 else 0),om)
 | [(.int i,_)]=>some (.int i,om)
 | [(.str z,_)]=>if z.length<=640 then (PySem.intText? z).map λ n=>(.int n,om) else none
 | _=>none
def Zw (hg:Gl X "int") (hm:X.mg "int" = none) (ha:PA X (e::es) (tL M fa vs)) (he:As (e::es) X.env=(false,eval e X.env)::As es X.env) (hpl:(BP pos (As es X.env)).any (·.1)=false):
  PE X (.Call (.Name "int" p) (e::es) [] pos) (tE M (Aq GG fa) vs):=by
 refine AO (Lh (qer.or q9) hg hm rfl ha (he:=he) (hpl:=hpl)) λ σ H Q h=>DW (λ xs z c ws H fps fp Q ho tm nz zd lf=>?_) h;unfold GG at ho;split at ho
 ·cases ho;obtain ⟨v,r,f1,f2,rfl,rfl,_,o1,h2⟩:=tm;obtain ⟨rfl,rfl⟩:=h2;rw [Own] at o1;exact .inl (.inr ⟨_,by rw [o1.1],CS lf⟩)
 ·cases ho;obtain ⟨v,r,f1,f2,rfl,rfl,_,o1,h2⟩:=tm;obtain ⟨rfl,rfl⟩:=h2;rw [Own] at o1;exact .inl (.inl ⟨_,by rw [o1.1],CS lf⟩)
 ·rename_i z0 d0;split at ho
  ·rename_i hl;obtain ⟨n,hn,e2⟩:=ja9.mp ho;cases e2;obtain ⟨v,r,f1,f2,rfl,rfl,_,o1,h2⟩:=tm;obtain ⟨rfl,rfl⟩:=h2;rw [Own] at o1;exact .inr ⟨z0,n,by rw [o1.1],hn,hl,CS lf⟩
  ·cases ho
 ·cases ho
end
section
variable {M:Fm}{fa:Fa}{vs:List Nat}
def OF (K:Frag) (F:Fn):Sp:=λ ws H Q _=>∃ x0 v0 fp0,ws=[v0]/\Own K H (λ _=>True) x0 om v0 fp0/\(match F [x0] with
 | .ok (y,_,_)=>GN y=true/\∀ v H',Cg (λ a=>a∈fp0) H H'->(∀ a,H a≠none->H' a≠none)->Own K H' (λ _=>True) y om v []->Q v H'
 | _=>False)
def NF (F:Fn) (i:Nat):Fx:=λ ρ=>match ρ[i]? with
 | some (some (x0,_))=>(match F [x0] with
  | .ok (y,_,_)=>if GN y=true then .ok (y,om,ρ.set i none) else .no
  | _=>.no)
 | _=>.no
def Rep.drop {ρ:Ae}{σ:St}{H H':Hp}{fps:AA}{i:Nat} (hal:∀ i,∀ j∈M.al i,M.Ms j=false) (hm:M.Ms i=true) (r:Rep M ρ σ H fps) (k:Cg (λ a=>a∈fps i) H H') (dm:∀ a,H a≠none->H' a≠none):Rep M (ρ.set i none) σ H' (λ j=>if j=i then [] else fps j):=by
 have sub:∀ j a,a∈(if j=i then [] else fps j)->j≠i/\a∈fps j:=λ j a h=>by
  by_cases ej:j=i
  ·rw [if_pos ej] at h;cases h
  ·rw [if_neg ej] at h;exact ⟨ej,h⟩
 have get:∀ j p,(ρ.set i none)[j]?=some (some p)->j≠i/\ρ[j]?=some (some p):=λ j p h=>by
  by_cases ej:j=i
  ·rw [ej] at h;by_cases hi:i < ρ.length
   ·rw [Dh hi] at h;cases h
   ·rw [Jk (by rw [Ee];omega)] at h;cases h
  ·rw [Ck (Br ej)] at h;exact ⟨ej,h⟩
 refine ⟨λ j x c hj=>?_,λ j hj=>?_,λ j k hjk a ha hb=>r.dj j k hjk a (sub j a ha).2 (sub k a hb).2,λ j a ha=>r.zo j a (sub j a ha).2,λ j hj a ha=>r.fr j hj a (sub j a ha).2,λ a z=>dm a (r.zd a z),by rw [Ee];exact r.len,λ j x c hj hc=>r.msf j x c hj (get j _ hc).2,λ a z=>dm a (r.h0 a z),r.iov⟩
 ·obtain ⟨ej,hj'⟩:=get j _ hj;obtain ⟨w,hw,ow⟩:=r.own j x c hj';refine ⟨w,hw,?_⟩;rw [if_neg ej];by_cases hmj:M.Ms j=true
  ·have hd:=r.msf j x c hmj hj';subst hd;exact Own.full _ _ _ (Own.move (S:=λ a=>a∈fps i) (Z:=λ _=>True) (Z':=λ _=>True) k (λ a ha=>⟨trivial,r.lsts ha⟩) (λ _ _ n=>n) x om w _ (λ a ha hb=>r.dj j i ej a ha hb) (Own.full _ _ _ ow))
  ·refine Own.move (S:=λ a=>a∈fps i) k (λ a ha=>⟨.inr ⟨i,λ z=>(by rw [hal j i z] at hm;cases hm),ha⟩,r.lsts ha⟩) (λ a hd nz z=>nz ?_) x c w _ (λ a ha hb=>r.dj j i ej a ha hb) ow;rcases z with z | ⟨l,nl,z⟩
   ·exact .inl z
   ·exact .inr ⟨l,nl,(sub l a z).2⟩
 ·by_cases ej:j=i
  ·rw [if_pos ej]
  ·rw [if_neg ej];exact r.non j λ p hp=>hj p (by rw [Ck (Br ej)];exact hp)
theorem xM {F:Fn}{i:Nat}{E:XK} (hal:∀ i,∀ j∈M.al i,M.Ms j=false) (hm:M.Ms i=true) {σ:St}{H:Hp}{Q:VK} (hq:tE M (NF F i) [] σ H Q):Sh (OF M.K F) [] E (GK (BE i) CY) σ H Q:=by
 obtain ⟨ρ,fps,rep,q⟩:=hq;unfold NF at q;cases e0:ρ[i]? with
 | none=>rw [e0] at q;exact q.elim
 | some s0=>
  rw [e0] at q;cases s0 with
  | none=>exact q.elim
  | some p0=>
  obtain ⟨x0,d0⟩:=p0;have hd:=rep.msf i x0 d0 hm e0;subst hd;obtain ⟨v0,hσ,o0⟩:=rep.own i _ _ e0;dsimp only at q;refine ⟨v0,hσ,?_⟩;show OF M.K F ([v0]++[]) H Q E;refine ⟨x0,v0,fps i,rfl,Own.full x0 v0 _ o0,?_⟩;cases eF:F [x0] with
  | no=>rw [eF] at q;exact q
  | exc c=>rw [eF] at q;exact q.elim
  | ok r=>
   obtain ⟨y,d,z0⟩:=r;rw [eF] at q;dsimp only at q;by_cases hy:GN y=true
   ·rw [if_pos hy] at q;refine ⟨hy,λ v H' k dm oy=>?_⟩;have kd:KD M H fps H' (λ j=>if j=i then [] else fps j):=⟨λ a o h n=>k a o h λ z=>n ⟨i,hm,z⟩,dm,λ j a ha=>by
     by_cases ej:j=i
     ·simp only [if_pos ej] at ha;cases ha
     ·simp only [if_neg ej] at ha;exact .inl ha,λ j hj=>by
     have ej:j≠i:=λ e=>by rw [e,hm] at hj;cases hj
     exact if_neg ej⟩
    have ag:Agr M ρ (ρ.set i none):=⟨λ j hj=>by
     have ej:j≠i:=λ e=>by rw [e,hm] at hj;cases hj
     exact Ck (Br ej),by rw [Ee]⟩
    exact q v H' _ [] kd ag (rep.drop hal hm k dm) (Own.atom hy oy).2 ⟨λ _ z=>(nomatch z),λ _ z=>nomatch z⟩
   ·rw [if_neg hy] at q;exact q.elim
end
section
variable {X:Cx}{M:Fm}{f g:Fx}{vs vs':List Nat}{σ:St}{H:Hp}{Q:VK}
end
section
variable {pg:A0}{wd:Ay}{Ar:AJ}{Er:Ac->Af->Prop}{st:Af}
end
section
variable {X:Cx}{M:Fm}{f:Fx}{vs:List Nat}{a:Expr}{pos p p2 pos2:Pos}
end
section
variable {prog:A0}{w:Ay}{A:AJ}{E:Ac->Af->Prop}{s:Af}{a₀:Array Keyed}
end
section
variable {prog:A0}{w:Ay}{A:AJ}{E:Ac->Af->Prop}{s:Af}
end
def ins (a:Int):List Int->List Int
 | []=>[a]
 | b::r=>if a<=b then a::b::r else b::ins a r
def Ey:List Int->List Int
 | []=>[]
 | a::r=>ins a (Ey r)
theorem Nt (a:Int):∀ l,(ins a l).Perm (a::l)
 | []=>.refl _
 | b::r=>by
  unfold ins;split
  ·exact .refl _
  ·exact ((Nt a r).cons b).trans (.swap a b r)
theorem NW:∀ l,(Ey l).Perm l
 | []=>.refl _
 | a::r=>(Nt a _).trans ((NW r).cons a)
theorem Sw (a:Int):∀ l:List Int,l.Pairwise (·<=·)->(ins a l).Pairwise (·<=·)
 | [],_=>by simp [ins]
 | b::r,h=>by
  rw [jh1] at h;unfold ins;split
  ·rename_i hab;refine jh1.mpr ⟨λ c hc=>?_,jh1.mpr h⟩;rcases ja8.mp hc with rfl | hc
   ·exact hab
   ·exact U4 hab (h.1 c hc)
  ·rename_i hab;refine jh1.mpr ⟨λ c hc=>?_,Sw a r h.2⟩;rcases ja8.mp ((Nt a r).mem_iff.mp hc) with rfl | hc
   ·omega
   ·exact h.1 c hc
theorem SR:∀ l:List Int,(Ey l).Pairwise (·<=·)
 | []=>.nil
 | a::r=>Sw a _ (SR r)
theorem To:∀ {l l':List Int},l.Perm l'->l.Pairwise (·<=·)->l'.Pairwise (·<=·)->l=l'
 | [],l',p,_,_=>(List.nil_perm.mp p).symm
 | a::r,[],p,_,_=>by simpa using p.length_eq
 | a::r,b::r',p,h,h'=>by
  rw [jh1] at h h';have e:a=b:=by
   have h1:=p.mem_iff.mp (AI (a:=a) (l:=r));have h2:=p.mem_iff.mpr (AI (a:=b) (l:=r'));rcases ja8.mp h1 with z | z
   ·exact z
   ·rcases ja8.mp h2 with y | y
    ·exact y.symm
    ·exact UE (h.1 b y) (h'.1 a z)
  subst e;rw [To (List.perm_cons a |>.mp p) h.2 h'.2]
theorem La:∀ {ns:List Int}{us:List Ac},Vals (ns.map V.int) us->FG us ns
 | [],_,.nil=>.nil
 | n::r,_,.cons h t=>by
  obtain ⟨k,rfl⟩:=h;exact .cons _ _ (La t)
theorem Uj:∀ {us:List Ac}{ns:List Int},FG us ns->Vals (ns.map V.int) us
 | _,_,.nil=>.nil
 | _,_,.cons _ _ t=>.cons ⟨_,rfl⟩ (Uj t)
section
variable {X:Cx}{M:Fm}{fa:Fa}{vs:List Nat}{e:Expr}{es:List Expr}{pos p:Pos}
def VQ (ns:List Int):Prop:=ns.length < 64\/(ns.Pairwise (·<=·)/\ns.length<=Ap)
instance (ns:List Int):Decidable (VQ ns):=inferInstanceAs (Decidable (_\/_))
theorem Nu {K:Frag}{H:Hp}{Z:Addr->Prop}:∀ ns:List Int,OwnL K H Z (ns.map PV.int) 0 (ns.map V.int) []
 | []=>by rw [FT,FT,OwnL];exact ⟨rfl,rfl⟩
 | n::r=>by
  rw [BH,BH,OwnL];exact ⟨_,_,[],[],rfl,rfl,(λ _ z=>nomatch z),by rw [Own];exact ⟨rfl,rfl⟩,Nu r⟩
theorem NK:∀ ns:List Int,ES (ns.map PV.int)=true
 | []=>rfl
 | n::r=>by
  rw [BH];exact NK r
def q0:zwj X (.builtin "abs") (λ xs H Q=>∃ i:Int,xs=[.int i]/\Q (.int (if i < 0 then -i else i)) H):=by
 intro pins s σ H xs us Q I rv h;obtain ⟨i,rfl,k⟩:=h;obtain ⟨u,rfl,t,rfl⟩:=CC rv;exact call_abs_int λ u tk=>⟨.int _,H,I.tok _,⟨_,rfl⟩,k⟩
def OM:List (PV×Nat)->Option (PV×Nat)
 | [(.int i,_)]=>some (.int (if i < 0 then -i else i),om)
 | _=>none
def XJ (hg:Gl X "abs") (hm:X.mg "abs" = none) (ha:PA X (e::es) (tL M fa vs)) (he:As (e::es) X.env=(false,eval e X.env)::As es X.env) (hpl:(BP pos (As es X.env)).any (·.1)=false):
  PE X (.Call (.Name "abs" p) (e::es) [] pos) (tE M (Aq OM fa) vs):=by
 refine AO (EN q0 hg hm rfl ha (he:=he) (hpl:=hpl)) λ σ H Q h=>DW (λ xs z c ws H fps fp Q ho tm nz zd lf=>?_) h;unfold OM at ho;split at ho
 ·cases ho;obtain ⟨v,r,f1,f2,rfl,rfl,_,o1,h2⟩:=tm;obtain ⟨rfl,rfl⟩:=h2;rw [Own] at o1;exact ⟨_,by rw [o1.1],CS lf⟩
 ·cases ho
def Dd:Int->List Int->Int
 | n,[]=>n
 | n,m::r=>Dd (if m > n then m else n) r
theorem Uz:∀ (r:List Int) (n:Int),Dd n r∈n::r
 | [],n=>AI
 | m::r,n=>by
  have q:=Uz r (if m > n then m else n);show Dd (if m > n then m else n) r∈_;rcases ja8.mp q with z | z
  ·rw [z];split <;> simp
  ·simp [z]
theorem T7:∀ (r:List Int) (n:Int),∀ a∈n::r,a<=Dd n r
 | [],n,a,h=>by
  have e:a=n:=by simpa using h
  rw [e];exact HW _
 | m::r,n,a,h=>by
  show a<=Dd (if m > n then m else n) r;have q:=T7 r (if m > n then m else n);have q1:=q _ AI;have q2:n<=(if m > n then m else n)/\m<=(if m > n then m else n):=by split <;> omega
  simp only [ja8] at h;rcases h with z | z | z
  ·omega
  ·omega
  ·exact q a (AB _ z)
def qC (hc:X.calm=true):zwj X (.builtin "max") (λ xs H Q=>∃ (q:Addr) (n:Int) (r:List Int),xs=[.ref q]/\AN X.K H q ((n::r).map V.int)/\Q (.int (Dd n r)) H):=by
 intro pins s σ H xs us Q I rv h;obtain ⟨q,n,r,rfl,hq,k0⟩:=h;obtain ⟨u,rfl,rx⟩:=CC rv;cases rx;obtain ⟨its,rv2,pl,hz⟩:=I.list hq;obtain ⟨zs,rfl,ez⟩:=Jq rv2;have e:(zs.map λ p=>Value.int p.1 p.2).toArray=DG zs.toArray:=by simp [DG]
 rw [e] at pl;have hsz:zs.toArray.size=zs.length:=by simp
 have h0:0 < zs.length:=by
  cases zs with
  | nil=>cases ez
  | cons _ _=>simp
 refine max_intList (I.ok.hd hc) pl.isList (by simpa using h0) λ v h' tk hv k=>?_;obtain ⟨l1,l2⟩:=argBest_gt (Cj zs.toArray) (zs.toArray.size - 1);obtain ⟨t,rfl⟩:=L7 hv;generalize argBest (λ i j=>decide (Cj zs.toArray i > Cj zs.toArray j)) (zs.toArray.size - 1)=b at *;have num:∀ j,(hj:j < zs.length)->Cj zs.toArray j=zs[j].1:=λ j hj=>by unfold Cj;simp [hj]
 have hm:Cj zs.toArray b∈n::r:=by
  rw [num b (by omega),<- ez];exact jg4.mpr ⟨_,FX _,rfl⟩
 have hg:∀ a∈n::r,a<=Cj zs.toArray b:=λ a ha=>by
  rw [<- ez] at ha;obtain ⟨z,hz',rfl⟩:=jg4.mp ha;obtain ⟨j,hj,rfl⟩:=Jj hz';rw [<- num j hj];exact l2 j (by omega)
 have eb:Cj zs.toArray b=Dd n r:=UE (T7 r n _ hm) (hg _ (Uz r n));exact ⟨.int _,H,I.kept (t':=tk) k,⟨t,rfl⟩,by rw [eb];exact k0⟩
def JF:List (PV×Nat)->Option (PV×Nat)
 | [(.lst xs,_)]=>match EO xs with
  | some (n::r)=>some (.int (Dd n r),om)
  | _=>none
 | xs=>MF (λ i j=>if j > i then j else i) xs
def YO (hc:X.calm=true) (hg:Gl X "max") (hm:X.mg "max" = none) (ha:PA X (e::es) (tL M fa vs)) (he:As (e::es) X.env=(false,eval e X.env)::As es X.env) (hpl:(BP pos (As es X.env)).any (·.1)=false):
  PE X (.Call (.Name "max" p) (e::es) [] pos) (tE M (Aq JF fa) vs):=by
 refine AO (EN ((qB hc).or (qC hc)) hg hm rfl ha (he:=he) (hpl:=hpl)) λ σ H Q h=>DW (λ xs z c ws H fps fp Q ho tm nz zd lf=>?_) h;unfold JF at ho;split at ho
 ·rename_i xs d;split at ho
  ·rename_i n r eb;cases ho;obtain ⟨v,r',f1,f2,rfl,rfl,_,o1,h2⟩:=tm;obtain ⟨rfl,rfl⟩:=h2;obtain ⟨q,us,rfl,hs,ol⟩:=(cold (fp:=f1) o1 λ a ha=>nz a (AZ _ ha)).coldL
   have:=Fi eb ol
   subst this;exact .inr ⟨q,n,r,rfl,.inl (.inl hs),CS lf⟩
  ·cases ho
 ·exact .inl (Ux ho tm lf)
end
def JB (x:PV):Option Str:=match x with
 | .non=>some "None"
 | .bl b=>some (if b then "True" else "False")
 | .int i=>if i.natAbs.log2 < 1920 then some (toString i) else none
 | .str s=>some s
 | .emp=>some (PyData.shown (.dict []))
 | .lst xs=>match BN 20 (.lst xs) with
  | some D=>if D.showable=true/\D.shown.length<=Ap then some D.shown else none
  | none=>none
 | .tup xs=>match BN 20 (.tup xs) with
  | some D=>if D.showable=true/\D.shown.length<=Ap then some D.shown else none
  | none=>none
 | _=>none
def OO:List (PV×Nat)->Option (PV×Nat)
 | [(x,_)]=>(JB x).map λ s=>(.str s,om)
 | _=>none
section
variable {X:Cx}{M:Fm}{H:Hp}{σ:St}
def OH (K:Frag):List V->Hp->VK->Prop:=λ ws H Q=>∃ x d v Z f T,ws=[v]/\Own K H Z x d v f/\JB x=some T/\Q (.str T) H
def Uo {pins:List (Addr×Obj)}{s:Af}{Z:Addr->Prop}{x:PV}{d:Nat}{v:V}{f:List Addr}{D:D8}{a:Addr}{Q:VK} (hu:X.A.units + 64 < Bx) (hg:X.A.guards=some []) (I:L2.Inv X pins σ H s) (o:Own X.K H Z x d v f) (hD:BN 20 x=some D) (hs:D.showable=true) (hz:D.shown.length<=Ap) (r:RelV v (.ref a)) (q:Q (.str D.shown) H):Al (An X.prog X.w) X.A (call (.type "str") [.ref a]) (EP X pins σ Q) X.xe s:=by
 obtain ⟨as,ra⟩:=EK I 20 x d v f (.ref a) D hD o r;have l:=El 20 x D hD;exact PySem.str_of_reads ra hs (PyData.noDict_hsm (PyData.hasDict_of_canLay D l.1)) hg (by omega) (λ _ _ e=>e) (λ h' u tk hk=>⟨.str D.shown,H,I.kept (t':=tk) hk,⟨u,rfl⟩,q⟩) hz
theorem Zz (hu:X.A.units + 64 < Bx) (hg:X.A.guards=some []):zwj X (.type "str") (OH X.K):=by
 intro pins s σ H ws us Q I rv h;obtain ⟨x,d,v,Z,f,T,rfl,o,hT,q⟩:=h;cases rv with
 | cons r rr=>
  cases rr;cases x with
  | non=>
   rw [Own] at o;obtain ⟨rfl,_⟩:=o;cases r;cases hT;exact P.str_of_none ⟨.str "None",H,I.tok _,⟨_,rfl⟩,q⟩
  | bl b=>
   rw [Own] at o;obtain ⟨rfl,_⟩:=o;cases r;cases hT;exact P.str_of_bool ⟨.str _,H,I.tok _,⟨_,rfl⟩,q⟩
  | int i=>
   rw [Own] at o;obtain ⟨rfl,_⟩:=o;obtain ⟨t,rfl⟩:=r;dsimp only [JB] at hT;split at hT
   ·rename_i hi;cases hT;exact P.str_of_int hi ⟨.str _,H,I.tok _,⟨_,rfl⟩,q⟩
   ·cases hT
  | str z=>
   rw [Own] at o;obtain ⟨rfl,_⟩:=o;obtain ⟨t,rfl⟩:=r;cases hT;exact P.str_of_str ⟨.str _,H,I,⟨_,rfl⟩,q⟩
  | dko=>cases hT
  | emp=>
   rw [Own] at o;obtain ⟨_,a,rfl,ha⟩:=o;cases r;cases hT;obtain ⟨_,z1,vs,k1,⟨o,es,ep,h1,h2,h3,h4,h5,h6⟩⟩:=IV I.hok ha;cases k1;generalize hes:es.toList=l at h5;cases h5;have rd:Reads s.heap (.ref a) (.dict []) (a::[]++[]):=Reads.dict (es:=es) (kvs:=[]) h1 h2.1 h3 (by rw [hes];exact .nil) (by rw [hes];exact .nil);have h9:PyData.depth (.dict []) + 3<=64:=by decide
   have hroom:X.A.units + (PyData.depth (.dict []) + 3) < Bx:=Nat.lt_of_le_of_lt (Nat.add_le_add_left h9 _) hu;refine PySem.str_of_reads rd rfl (λ _ hm=>?_) hg hroom (λ _ _ e=>e) (λ h' u tk hk=>⟨.str _,H,I.kept (t':=tk) hk,⟨u,rfl⟩,q⟩) (by decide +kernel);have e9:EW=a:=by simpa using hm
   rw [<- e9] at z1;simp at z1
  | lst xs=>
   dsimp only [JB] at hT;split at hT
   ·rename_i D hD;split at hT
    ·rename_i hc;cases hT;obtain ⟨a,ws,d',f',rfl,ha,ol⟩:=Hj o;cases r;exact Uo hu hg I o hD hc.1 hc.2 rfl q
    ·cases hT
   ·cases hT
  | tup xs=>
   dsimp only [JB] at hT;split at hT
   ·rename_i D hD;split at hT
    ·rename_i hc;cases hT;have o':=o;rw [Own] at o';obtain ⟨a,ws,rfl,ha,ol⟩:=o';cases r;exact Uo hu hg I o hD hc.1 hc.2 rfl q
    ·cases hT
   ·cases hT
  | scr ns=>cases hT
  | dct _=>cases hT
  | exn _=>cases hT
variable {e:Expr}{es:List Expr}{fa:Fa}{vs:List Nat}{p pos:Pos}
def X1 (hu:X.A.units + 64 < Bx) (hgd:X.A.guards=some []) (hK:M.K=X.K) (hg:Gl X "str") (hm:X.mg "str" = none) (ha:PA X (e::es) (tL M fa vs)) (he:As (e::es) X.env=(false,eval e X.env)::As es X.env) (hpl:(BP pos (As es X.env)).any (·.1)=false):
  PE X (.Call (.Name "str" p) (e::es) [] pos) (tE M (Aq OO fa) vs):=by
 refine AO (Lh (Zz hu hgd) hg hm rfl ha (he:=he) (hpl:=hpl)) λ σ H Q h=>DW (λ xs z c ws H fps fp Q ho tm nz zd lf=>?_) h;unfold OO at ho;split at ho
 ·rename_i x d;obtain ⟨T,hT,eT⟩:=ja9.mp ho;cases eT;obtain ⟨v,r,f1,f2,rfl,rfl,_,o1,h2⟩:=tm;obtain ⟨rfl,rfl⟩:=h2;rw [hK] at o1;exact ⟨x,_,v,_,f1,T,rfl,o1,hT,Iu lf⟩
 ·cases ho
end
open PySem PySem.Spec PyProof.Rows L2 PySem.Builtin PySem.Builtin.ObjectAttr PySem.Builtin.Getset_descriptor
section
variable {prog:A0}{w:Ay}{A:AJ}{E:Ac->Af->Prop}{K:Frag}{h:Heap}{g:Array GenState}{d:Drawn}{t:Nat}{os:OsState}{a C:Addr}{oe:Obj}
def Wq {R:Result->Af->Prop} (X:K.In h) (he:h.get? a=some oe) (hc:oe.cls=.ref C) (hm:EX K C (.type "object")=some true) (hq:R (.ok (.ret (.ref C))) ⟨h,g,d,t,os⟩):
  GV (An prog w) A (.call (.builtin "getset_descriptor.__get__") ⟨[.builtin "object.__class__",.ref a,.ref C],[]⟩) R ⟨h,g,d,t,os⟩:=by
 have ty:PySem.W.Looks (An prog w) h (typeOf (.ref a)) (.ref C):=hc ▸ (PySem.W.Looks.ld he).andThen .now;have mr:=PySem.W.looks_mroIn (M:=An prog w) X hm;have pl:=PySem.W.KF.slot_gs.plain;have en:=PySem.W.KF.entry_gs;refine codeAny_call_builtin pl en (PySem.W.KF.slot_gs.check _ _ _ _ _ _ _ _
  PySem.W.KF.type_class (PySem.W.KF.args_gs _ _ _) ?_)
 unfold vj3.«getset_descriptor.__get__»;unfold descrGet;rw [PySem.W.dga_obj];refine Ak (A8 ?_);unfold descrGetter descrCheckInstance;unfold descrNameAndClass isInstance;simp only [PySem.W.KF.owner_class]
 repeat lk
 refine ⟨Code.quiet_builtin _ (by decide +kernel),Oh PySem.W.KF.entry_class ?_⟩;unfold vj3.«object.__class__»;unfold shownTypeOf
 repeat lk
 exact hq
def Z1 {tk:Tok}{Q:Fin->Af->Prop} (X:K.In h) (he:h.get? a=some oe) (hc:oe.cls=.ref C) (hm:EX K C (.type "object")=some true) (hl:Dx K (.ref C) "__class__" = some (some (.builtin "object.__class__")))
  (hq:Q (.done (.ret (.ref C))) ⟨h,g,d,t,os⟩):Al (An prog w) A (vj3.«object.__getattribute__» ⟨[.ref a,.str "__class__" tk],[]⟩) Q E ⟨h,g,d,t,os⟩:=by
 have hT5:(⟨h,g,d,t,os⟩:Af).TypeIs (.builtin "object.__class__") "getset_descriptor" := F.typeOf_object_class;have f5:=F.typeOf_object_class;have f6:=F.slot_gs_get.lookup;have f7:=F.slot_gs_set.lookup;have L1:=O3 (M:=An prog w) X hl
 repeat (any_goals (first | assumption | (with_reducible refine Ox he ?_;rw [hc]) | with_reducible refine L1.at ?_ | wp_step))
 refine Wq X he hc hm ?_
 repeat (any_goals (first | assumption | wp_step))
def Z0 {nameV:Ac}{Q:Unit->Af->Prop}{M:Model} (X:K.In h) (he:h.get? a=some oe) (hc:oe.cls=.ref C) (hb:EX K C (.type "BaseException")=some true) (hq:Q () ⟨h,g,d,t,os⟩):
  Al M A (checkBuiltinCall "BaseException.__getattribute__" ⟨[.ref a,nameV],[]⟩) Q E ⟨h,g,d,t,os⟩:=by
 have hk:builtinKind "BaseException.__getattribute__" = some .slot:=by decide +kernel
 have hsp:splitId "BaseException.__getattribute__" = some ("BaseException","__getattribute__"):=by decide +kernel
 have ha:=F.args_bexc_ga (.ref a) nameV;have L1:=PySem.W.looks_mroIn (M:=M) X hb;simp only [checkBuiltinCall,hk,hsp];refine Ak ?_;unfold isInstance
 repeat (first | (with_reducible refine Ox he ?_;rw [hc]) | with_reducible refine L1.at ?_ | wp_step)
 exact hq
def VR {tk:Tok}{Q:Ac->Af->Prop} (X:K.In h) (he:h.get? a=some oe) (hc:oe.cls=.ref C) (hm:EX K C (.type "object")=some true) (hb:EX K C (.type "BaseException")=some true)
  (hl:Dx K (.ref C) "__class__" = some (some (.builtin "object.__class__"))) (hga:Dx K (.ref C) "__getattribute__" = some (some (.builtin "BaseException.__getattribute__"))) (hgh:Dx K (.ref C) "__getattr__" = some none)
  (hq:Q (.ref C) ⟨h,g,d,t,os⟩):Al (An prog w) A (getAttrBy (.ref a) (.str "__class__" tk) false) Q E ⟨h,g,d,t,os⟩:=by
 have f3:=PySem.F.attrBase_ValueError.ga.bind (.ref a);have L1:=O3 (M:=An prog w) X hga;have L2':=O3 (M:=An prog w) X hgh;have hx2:(Value.builtin "BaseException.__getattribute__" == Value.builtin "object.__getattribute__")=false:=by decide +kernel
 have hx1:(onTheHeap (Value.ref C) && Value.builtin "BaseException.__getattribute__" == Value.builtin "object.__getattribute__")=false:=by rw [hx2];rfl
 repeat (any_goals (first | assumption | (with_reducible refine Ox he ?_;rw [hc]) | with_reducible refine L1.at ?_ | with_reducible refine L2'.at ?_ | wp_step))
 refine codeAny_call_builtin PySem.F.attrBase_ValueError.ga.plain F.entry_bexc_ga (Z0 X he hc hb (Z1 X he hc hm hl ?_))
 repeat (any_goals (first | assumption | wp_step))
def Yc {Q:Option Ac->Af->Prop} (X:K.In h) (he:h.get? a=some oe) (hc:oe.cls=.ref C) (hm:EX K C (.type "object")=some true) (hb:EX K C (.type "BaseException")=some true)
  (hl:Dx K (.ref C) "__class__" = some (some (.builtin "object.__class__"))) (hga:Dx K (.ref C) "__getattribute__" = some (some (.builtin "BaseException.__getattribute__"))) (hgh:Dx K (.ref C) "__getattr__" = some none)
  (hq:Q (some (.ref C)) ⟨h,g,d,t + 1,os⟩):Al (An prog w) A (getAttr? (.ref a) "__class__") Q E ⟨h,g,d,t,os⟩:=by
 unfold getAttr?;unfold getAttrBy?
 repeat (any_goals (first | assumption | with_reducible apply VR X he hc hm hb hl hga hgh | wp_step))
end
def Cp (K:Frag) (d:Nat) (u:Ac):Bool:=(u == .type "ValueError" && d == 0) || (match C6 K d with
 | some D=>u == .ref D
 | none=>false)
section
variable {K:Frag}{a C:Addr}{c d:Nat}{u:Ac}
def L5 (t:Bw K=true) (e:C6 K c=some C):Iy K C=true/\DH K (.type "NoneType") (.ref C)=some false/\DH K (.ref C) (.type "ValueError")=some true/\∀ d D,C6 K d=some D->DH K (.ref C) (.ref D)=some (Ef c d):=by
 unfold Bw at t;rw [A4] at t;have h:=jb8.mp t.2 c (jc6.mpr (Ul e));rw [e] at h;dsimp only at h;simp only [A4] at h;refine ⟨h.1.1.1,eq_of_beq h.1.1.2,eq_of_beq h.1.2,λ d D ed=>?_⟩;have h2:=jb8.mp h.2 d (jc6.mpr (Ul ed));rw [ed] at h2;exact eq_of_beq h2
def T4 (t:Bw K=true) (e:C6 K c=some C) (hu:Cp K d u=true):DH K (.ref C) u=some (Ef c d):=by
 obtain ⟨_,_,h3,h4⟩:=L5 t e;unfold Cp at hu;rw [E4] at hu;rcases hu with hu | hu
 ·rw [A4] at hu;rw [eq_of_beq hu.1,h3,eq_of_beq hu.2];simp [Ef]
 ·split at hu
  ·rename_i D hD;rw [eq_of_beq hu];exact h4 d D hD
  ·cases hu
def T5 (t:Bw K=true) (hu:Cp K d u=true):DH K (.type "NoneType") u=some false:=by
 unfold Cp at hu;rw [E4] at hu;rcases hu with hu | hu
 ·rw [A4] at hu;rw [eq_of_beq hu.1];unfold Bw at t;rw [A4] at t;exact eq_of_beq t.1
 ·split at hu
  ·rename_i D hD;rw [eq_of_beq hu];exact (L5 t hD).2.1
  ·cases hu
def Eo (K:Frag):List Nat->List Ac->Bool
 | [],[]=>true
 | d::ds,u::us=>Cp K d u && Eo K ds us
 | _,_=>false
theorem Ut (t:Bw K=true) (e:C6 K c=some C):∀ {ds:List Nat}{us:List Ac},Eo K ds us=true->LG K (.ref C) us=some (ds.any (Ef c))
 | [],[],_=>rfl
 | [],_::_,h=>by cases h
 | _::_,[],h=>by cases h
 | d::ds,u::us,h=>by
  unfold Eo at h;rw [A4] at h;unfold LG;rw [T4 t e h.1,MI];cases Ef c d with
  | true=>rfl
  | false=>exact Ut t e h.2
theorem Uu (t:Bw K=true):∀ {ds:List Nat}{us:List Ac},Eo K ds us=true->LG K (.type "NoneType") us=some false
 | [],[],_=>rfl
 | [],_::_,h=>by cases h
 | _::_,[],h=>by cases h
 | d::ds,u::us,h=>by
  unfold Eo at h;rw [A4] at h;unfold LG;rw [T5 t h.1];exact Uu t h.2
def qI (g:Iy K C=true):∃ c0 dd cd sl,K.lookup C=some ⟨c0,dd,.cls cd,sl⟩:=by
 unfold Iy at g;simp only [A4] at g;have h:=g.1.1.1.1.1;unfold PySem.W.clsIn at h;split at h
 ·rename_i q;exact ⟨_,_,_,_,q⟩
 ·cases h
def Us (g:Iy K C=true):PySem.W.KitX K (.ref a) (.ref C) (Ki a C):=by
 obtain ⟨c0,dd,cd,sl,hl⟩:=qI g;unfold Iy at g;simp only [A4] at g;obtain ⟨⟨⟨⟨⟨_,g1⟩,g2⟩,g3⟩,g4⟩,g5⟩:=g;refine ⟨λ M h _ p=>?_,λ M h X _=>?_,λ h tp dd' its n sl' X htp=>?_,λ {prog w A E Q s} X p k=>?_⟩
 ·obtain ⟨o,vs,h1,h2,_⟩:=p;exact h2 ▸ (PySem.W.Looks.ld h1).andThen .now
 ·intro A' Q' E' s' kp q;unfold isType;unfold loadHead;exact Ak (wpAny_loadPart (kp _ _ (X _ _ hl)) (A8 q))
 ·cases hb:(Value.ref C == Value.ref tp) with
  | false=>rfl
  | true=>
   have ec:C=tp:=Value.ref.inj (eq_of_beq hb);have z:=X _ _ hl;rw [ec,htp] at z;cases z
 ·obtain ⟨o,vs,h1,h2,_⟩:=p;obtain ⟨hp,gg,dr,tt,oo⟩:=s;exact Yc X h1 h2 (eq_of_beq g1) (eq_of_beq g2) (eq_of_beq g3) (eq_of_beq g4) (eq_of_beq g5) k
end
section
variable {X:Cx}
def KP (K:Frag) (v:V) (H:Hp) (Q:VK) (ds:List Nat):Prop:=(v=.non/\Q (.bl false) H)\/∃ a C c,v=.ref a/\C6 K c=some C/\H a=some (.ext (Ki a C))/\Q (.bl (ds.any (Ef c))) H
def Uq {pins:List (Addr×Obj)}{σ:St}{H:Hp}{s:Af}{a C:Addr} (I:L2.Inv X pins σ H s) (h:H a=some (.ext (Ki a C))):Ki a C s.heap:=(I.hok a _ h).1
def qA (t:Bw X.K=true):zwj X (.builtin "isinstance") (λ xs H Q=>∃ v cv d,xs=[v,cv]/\(∀ u,RelV cv u->Cp X.K d u=true)/\KP X.K v H Q [d]):=by
 intro pins s σ H xs us Q I r h;obtain ⟨v,cv,d,rfl,hcv,h⟩:=h;obtain ⟨u,w,rfl,r1,r2⟩:=Ku r;have hw:=hcv w r2;rcases h with ⟨rfl,q⟩ | ⟨a,C,c,rfl,hC,ha,q⟩
 ·cases r1;exact DI Ov I.kIn True.intro (T5 t hw) (λ z=>nomatch z) λ tk=>⟨.bl false,H,I.tok _,rfl,q⟩
 ·obtain rfl:u=Value.ref a:=r1;exact DI (Us (L5 t hC).1) I.kIn (Uq I ha) (T4 t hC hw) (λ z=>nomatch z) λ tk=>⟨.bl (Ef c d),H,I.tok _,rfl,by simpa using q⟩
def xC (t:Bw X.K=true):zwj X (.builtin "isinstance") (λ xs H Q=>∃ v p cvs ds,xs=[v,.ref p]/\H p=some (.tup cvs)/\(∀ us,Vals cvs us->Eo X.K ds us=true)/\KP X.K v H Q ds):=by
 intro pins s σ H xs us Q I r h;obtain ⟨v,p,cvs,ds,rfl,hp,hcv,h⟩:=h;obtain ⟨u,w,rfl,r1,r2⟩:=Ku r;obtain rfl:w=Value.ref p:=r2;obtain ⟨_,its,rv,o,ho,hc,n,hd⟩:=I.hok p _ hp;have hi:=hcv its rv;have ho':s.heap.get? p=some ⟨.type "tuple",o.dict,.seq its.toArray n,o.slots⟩:=by
  rw [ho];obtain ⟨oc,od,oda,os⟩:=o;dsimp only at hc hd;rw [hc,hd]
 rcases h with ⟨rfl,q⟩ | ⟨a,C,c,rfl,hC,ha,q⟩
 ·cases r1;exact PySem.W.kia_tup Ov I.kIn True.intro ho' (Uu t hi) (λ z=>nomatch z) λ tk=>⟨.bl false,H,I.tok _,rfl,q⟩
 ·obtain rfl:u=Value.ref a:=r1;exact PySem.W.kia_tup (Us (L5 t hC).1) I.kIn (Uq I ha) ho' (Ut t hC hi) (λ z=>nomatch z) λ tk=>⟨.bl (ds.any (Ef c)),H,I.tok _,rfl,q⟩
end
section
variable {X:Cx}{M:Fm}{f g:Fx}{vs vs':List Nat}{e:Expr}{es:List Expr}{pos p:Pos}{σ:St}{H:Hp}{Q:VK}
def II (ds:List Nat) (x:PV) (_:Nat):Option (PV×Nat):=match x with
 | .exn c=>some (.bl (ds.any (Ef c)),om)
 | .non=>some (.bl false,om)
 | _=>none
theorem Sz {K:Frag}{x z:PV}{ds:List Nat}{d c:Nat}{v:V}{Z:Addr->Prop}{H H':Hp}{f1:List Addr} (ho:II ds x d=some (z,c)) (o1:Own K H Z x d v f1) (k:∀ a o,H a=some o->H' a=some o) (q:∀ b,z=.bl b->Q (.bl b) H'):KP K v H' Q ds:=by
 cases x with
 | exn n=>
  cases ho;rw [Own] at o1;obtain ⟨_,a,C,rfl,hC,ha⟩:=o1;exact .inr ⟨a,C,n,rfl,hC,k _ _ ha,q _ rfl⟩
 | non=>
  cases ho;rw [Own] at o1;obtain ⟨rfl,_⟩:=o1;exact .inl ⟨rfl,q _ rfl⟩
 | _=>cases ho
theorem Qt {ds:List Nat}{x z:PV}{d c:Nat} (ho:II ds x d=some (z,c)):∃ b,z=.bl b/\c=om:=by
 cases x with
 | exn n=>cases ho;exact ⟨_,rfl,rfl⟩
 | non=>cases ho;exact ⟨_,rfl,rfl⟩
 | _=>cases ho
def Zx {cv:V}{d:Nat}{T':Str}{p1 p2:Pos} (t:Bw X.K=true) (hK:M.K=X.K) (ha:PE X e (tE M f vs)) (hg:Gl X "isinstance") (hm:X.mg "isinstance" = none) (hc:PE X (.Name T' p2) (tC cv)) (hcv:∀ u,RelV cv u->Cp X.K d u=true)
  (hs1:As [e,.Name T' p2] X.env=[(false,eval e X.env),(false,eval (.Name T' p2) X.env)]) (hs2:As [Expr.Name T' p2] X.env=[(false,eval (.Name T' p2) X.env)]):
  PE X (.Call (.Name "isinstance" p1) [e,.Name T' p2] [] pos) (tE M (AS (II [d]) f) vs):=by
 refine AO (EN (qA t) hg hm rfl (Dg ha (Dg hc DU hs2) (by rw [hs1,hs2])) (he:=by rw [hs1,hs2]) (hpl:=by rw [hs2];rfl)) λ σ H Q h=>?_;refine Ja (r:=λ v H Q=>∃ x c n,[v,cv]=[x,c]/\(∀ u,RelV c u->Cp X.K n u=true)/\KP X.K x H Q [n]) (λ x d' z c v H fps f1 Q ho o1 nz zd lf=>?_) h;obtain ⟨b,rfl,rfl⟩:=Qt ho;exact ⟨v,cv,d,rfl,hcv,by rw [<- hK];exact Sz ho o1 (λ _ _ h=>h) λ b' e=>by cases e;exact Dk lf⟩
def RN (cvs:List V):TA:=λ _ H Q=>Q cvs H
def qe {cvs:List V}{ds:List Nat}{p1 p2:Pos}{k:Nat} (t:Bw X.K=true) (hK:M.K=X.K) (ha:PE X e (tE M f vs)) (hg:Gl X "isinstance") (hm:X.mg "isinstance" = none) (hc:PA X es (RN cvs)) (hl:cvs.length<=Ap) (hcv:∀ us,Vals cvs us->Eo X.K ds us=true)
  (hs1:As [e,.Tuple es k p2] X.env=[(false,eval e X.env),(false,eval (.Tuple es k p2) X.env)]) (hs2:As [Expr.Tuple es k p2] X.env=[(false,eval (.Tuple es k p2) X.env)]):
  PE X (.Call (.Name "isinstance" p1) [e,.Tuple es k p2] [] pos) (tE M (AS (II ds) f) vs):=by
 refine AO (EN (xC t) hg hm rfl (Dg ha (Dg (SJ hc) DU hs2) (by rw [hs1,hs2])) (he:=by rw [hs1,hs2]) (hpl:=by rw [hs2];rfl)) λ σ H Q h=>?_;refine Ja (r:=λ v H Q=>cvs.length<=Ap/\∀ q,H q=none->∃ x p' cvs' ds',[v,V.ref q]=[x,.ref p']/\Am H q (.tup cvs) p'=some (.tup cvs')/\(∀ us,Vals cvs' us->Eo X.K ds' us=true)/\KP X.K x (Am H q (.tup cvs)) Q ds') (λ x d' z c v H fps f1 Q ho o1 nz zd lf=>?_) h;obtain ⟨b,rfl,rfl⟩:=Qt ho;refine ⟨hl,λ q hq=>⟨v,q,cvs,ds,rfl,Bq,hcv,?_⟩⟩;have kk:∀ a o,H a=some o->Am H q (.tup cvs) a=some o:=λ a o h=>by rw [A3 (λ z=>by rw [z,hq] at h;cases h)];exact h
 rw [<- hK];exact Sz ho o1 kk λ b' e=>by cases e;exact lf (.bl b) _ [] kk (by rw [Own];exact ⟨rfl,rfl⟩) (λ _ z=>nomatch z)
end
section
variable {X:Cx}{M:Fm}{a b:Expr}{f g:Fx}{fa:Fa}{vs vs':List Nat}{pos p:Pos}{σ:St}{H:Hp}{Q:VK}{e:Expr}{es:List Expr}
def E3:List PV->Option (List AG)
 | []=>some []
 | .int i::r=>(E3 r).map (.inl i::·)
 | .str x::r=>(E3 r).map (.inr x::·)
 | _=>none
theorem Lc {K:Frag}{Z:Addr->Prop}:∀ {xs:List PV}{ws:List V}{d:Nat}{fp:List Addr}{k:List AG},E3 xs=some k->OwnL K H Z xs d ws fp->ws=k.map kV
 | [],ws,d,fp,k,e,h=>by cases e;rw [OwnL] at h;exact h.1
 | .int i::r,ws,d,fp,k,e,h=>by
  obtain ⟨k',e1,rfl⟩:=ja9.mp e;rw [OwnL] at h;obtain ⟨v,s,f1,f2,rfl,ef,dj,h1,h2⟩:=h;rw [Own] at h1;rw [h1.1,Lc e1 h2];rfl
 | .str i::r,ws,d,fp,k,e,h=>by
  obtain ⟨k',e1,rfl⟩:=ja9.mp e;rw [OwnL] at h;obtain ⟨v,s,f1,f2,rfl,ef,dj,h1,h2⟩:=h;rw [Own] at h1;rw [h1.1,Lc e1 h2];rfl
 | .non::_,_,_,_,_,e,_=>by cases e
 | .bl _::_,_,_,_,_,e,_=>by cases e
 | .lst _::_,_,_,_,_,e,_=>by cases e
 | .tup _::_,_,_,_,_,e,_=>by cases e
 | .emp::_,_,_,_,_,e,_=>by cases e
 | .dko::_,_,_,_,_,e,_=>by cases e
 | .scr _::_,_,_,_,_,e,_=>by cases e
 | .dct _::_,_,_,_,_,e,_=>by cases e
 | .exn _::_,_,_,_,_,e,_=>by cases e
def DJ (neg:Bool) (x:PV) (_:Nat) (y:PV) (_:Nat):Option (PV×Nat):=match x,y with
 | .tup ks,.dct kvs=>(E3 ks).map λ k=>(.bl (neg^^(Cc kvs k).isSome),om)
 | .str y,.str x=>some (.bl (neg^^Txt.contains x y),om)
 | x,.lst ys=>(match BN 20 x,Bk (BN 20) ys with
  | some a,some bs=>some (.bl (neg^^bs.any λ b=>EV b a),om)
  | _,_=>none)
 | x,.tup ys=>(match BN 20 x,Bk (BN 20) ys with
  | some a,some bs=>some (.bl (neg^^bs.any λ b=>EV b a),om)
  | _,_=>none)
 | _,_=>none
def HM (neg:Bool):R2:=λ v w H Q=>∃ a o,w=.ref a/\DGet H a v o/\Q (.bl (neg^^o.isSome)) H
def Xm (hu:X.A.units + 1 < Bx):OpR X (Cb .In) (HM false):=by
 intro pins s σ H x y v u Q I rx ry h;obtain ⟨a,o,rfl,g,q⟩:=h;obtain rfl:u=Value.ref a:=ry;exact PY hu I g rx λ s3 I3=>⟨.bl o.isSome,H,I3,rfl,by simpa using q⟩
def xx (hu:X.A.units + 1 < Bx):OpR X (Cb .NotIn) (HM true):=by
 intro pins s σ H x y v u Q I rx ry h;obtain ⟨a,o,rfl,g,q⟩:=h;obtain rfl:u=Value.ref a:=ry;exact Yj hu I g rx λ s3 I3=>⟨.bl (!o.isSome),H,I3,rfl,by simpa using q⟩
def Mu (tp:Bool) (ys:List PV):PV:=match tp with
 | true=>.tup ys
 | false=>.lst ys
def VO (tp:Bool) (ys:List D8):D8:=match tp with
 | true=>.tuple ys
 | false=>.list ys
def HK (K:Frag) (neg:Bool):R2:=λ v w H Q=>∃ tp x ys d e Z Z' f1 f2 a bs,BN 20 x=some a/\Bk (BN 20) ys=some bs/\Own K H Z x d v f1/\Own K H Z' (Mu tp ys) e w f2/\Q (.bl (neg^^bs.any λ b=>EV b a)) H
theorem SY {tp:Bool}{ys:List PV}{bs:List D8} (h:Bk (BN 20) ys=some bs):BN 21 (Mu tp ys)=some (VO tp bs):=by
 cases tp with
 | true=>
  show (Bk (BN 20) ys).map PyData.tuple=_;rw [h];rfl
 | false=>
  show (Bk (BN 20) ys).map PyData.list=_;rw [h];rfl
theorem Xo (hu:X.A.units + 64 < Bx):OpR X (Cb .In) (HK X.K false):=by
 intro pins s σ H v w u u' Q I rx ry h;obtain ⟨tp,x,ys,d,e,Z,Z',f1,f2,a,bs,h1,h2,o1,o2,q⟩:=h;obtain ⟨as,ra⟩:=EK I 20 x d v f1 u a h1 o1 rx;obtain ⟨bs',rb⟩:=EK I 21 (Mu tp ys) e w f2 u' _ (SY h2) o2 ry;have l1:=El 20 x a h1;have l2:=J5 (λ x D h=>El 20 x D h) h2;have hm:X.A.units + 1 + min (HA bs) a.depth < Bx:=by have:=PF (HA bs) a.depth;omega
 cases tp with
 | false=>exact SeqAt.in_list_reads rb ra l2.1 l1.1 hm ⟨.bl _,H,I,rfl,by simpa using q⟩
 | true=>exact SeqAt.in_tuple_reads rb ra l2.1 l1.1 hm ⟨.bl _,H,I,rfl,by simpa using q⟩
theorem xy (hu:X.A.units + 64 < Bx):OpR X (Cb .NotIn) (HK X.K true):=by
 intro pins s σ H v w u u' Q I rx ry h;obtain ⟨tp,x,ys,d,e,Z,Z',f1,f2,a,bs,h1,h2,o1,o2,q⟩:=h;obtain ⟨as,ra⟩:=EK I 20 x d v f1 u a h1 o1 rx;obtain ⟨bs',rb⟩:=EK I 21 (Mu tp ys) e w f2 u' _ (SY h2) o2 ry;have l1:=El 20 x a h1;have l2:=J5 (λ x D h=>El 20 x D h) h2;have hm:X.A.units + 1 + min (HA bs) a.depth < Bx:=by have:=PF (HA bs) a.depth;omega
 cases tp with
 | false=>exact SeqAt.notIn_list_reads rb ra l2.1 l1.1 hm ⟨.bl _,H,I,rfl,by simpa using q⟩
 | true=>exact SeqAt.notIn_tuple_reads rb ra l2.1 l1.1 hm ⟨.bl _,H,I,rfl,by simpa using q⟩
def Uv {x y z:PV}{d e c:Nat}{v w:V}{fps:AA}{f1 f2 F:List Addr}{Z Z':Addr->Prop}{neg:Bool} (hK:M.K=X.K) (ho:DJ neg x d y e=some (z,c)) (o1:Own M.K H Z x d v f1) (o2:Own M.K H Z' y e w f2) (lf:AU M H fps vs F z c Q):(HM neg v w H Q\/HI neg v w H Q)\/HK X.K neg v w H Q:=by
 unfold DJ at ho;split at ho
 ·rename_i ks kvs;obtain ⟨k,ek,e2⟩:=ja9.mp ho;cases e2;rw [Own] at o1;rw [Own] at o2;obtain ⟨b,ws,rfl,hb,ol⟩:=o1
  have:=Lc ek ol
  subst this;have h2:∃ a,w=.ref a/\H a=some (.dT kvs):=by
   obtain ⟨a,ea,⟨_,hr,_⟩ | ⟨_,ha,_⟩⟩:=o2
   ·exact ⟨a,ea,hr.1⟩
   ·exact ⟨a,ea,ha⟩
  obtain ⟨a,rfl,ha⟩:=h2;exact .inl (.inl ⟨a,_,rfl,DGet.t ha hb,Dk lf⟩)
 ·rename_i y0 x0;cases ho;rw [Own] at o1;rw [Own] at o2;exact .inl (.inr ⟨y0,x0,o1.1,o2.1,Dk lf⟩)
 ·rename_i ys;split at ho
  ·rename_i a bs ea eb;cases ho;rw [hK] at o1;rw [hK] at o2;exact .inr ⟨false,_,ys,d,e,Z,Z',f1,f2,a,bs,ea,eb,o1,o2,Dk lf⟩
  ·cases ho
 ·rename_i ys;split at ho
  ·rename_i a bs ea eb;cases ho;rw [hK] at o1;rw [hK] at o2;exact .inr ⟨true,_,ys,d,e,Z,Z',f1,f2,a,bs,ea,eb,o1,o2,Dk lf⟩
  ·cases ho
 ·cases ho
def KN:Fx:=λ ρ=>.ok (.dct [],om,ρ)
def Xs:PE X (.Dict [] [] pos) (tE M KN []):=by
 refine AO ZT λ σ H Q h p hp=>?_;obtain ⟨ρ,fps,rep,q⟩:=h;refine q (.ref p) _ fps [p] (KD.grow (DX hp)) Agr.refl (rep.grow (DX hp)) ?_ ⟨λ a ha=>by rw [jb2.mp ha];exact hp,λ a ha=>by rw [jb2.mp ha];exact rep.nz hp⟩;rw [Own];exact ⟨p,rfl,.inr ⟨by decide,Bq,rfl⟩⟩
end
structure Sx where
 N:List Str
 sc:AW
 ms:List Nat
 al:List (List Nat)
 Γ:List (Str×(Bool×Nat×Fn))
 Γm:List (Str×Fn)
 rz:Bool
 xc:List Nat
 pn:List Nat
def Sx.alF (S:Sx) (i:Nat):List Nat:=S.al.getD i []
def Sx.msF (S:Sx) (i:Nat):Bool:=S.ms.contains i
def CV (sc:AW) (x:Str) (k:CJ):Bool:=sc.names.lookup x == some k
def CI (sc:AW) (x:Str):Bool:=CV sc x .local || CV sc x .cell || CV sc x .free
def Ic (N:List Str) (x:Str):Option Nat:=N.findIdx? (·== x)
def Sx.slot (S:Sx) (x:Str):Option Nat:=if CI S.sc x && !(x == ("__debug__" : Str)) && !(x == ("__classdict__" : Str)) then Ic S.N x else none
def Sx.glob (S:Sx) (x:Str):Bool:=CV S.sc x .globalImplicit
structure XS (X:Cx) (P:A0) (w:Ay) (K:Frag) (mg:Str->Option Ac) (base:Heap) (lvl:Nat) (S:Sx) (Wx:St->Nat->Hp->Prop):Prop where
 prog:X.prog=P
 w:X.w=w
 K:X.K=K
 mg:X.mg=mg
 base:X.base=base
 N:X.N=S.N
 sc:X.env.scope=S.sc
 calm:X.calm=true
 room:Room lvl X.A
 sl:X.A.units + 16 * lvl + 204 < Bx
 po:JM (An X.prog X.w) X.A X.env X.xe
 ps:Lu (A5 X.prog X.w X.K) X Wx
 rs:S.rz=true->Ts X Wx
structure MS (M:Fm) (K:Frag) (S:Sx) (Wx:St->Nat->Hp->Prop):Prop where
 K:M.K=K
 ms:M.Ms=S.msF
 al:∀ i,i < S.N.length->M.al i=S.alF i
 als:∀ i,∀ j∈M.al i,M.Ms j=false
 W:M.W=Wx
 pn:∀ p∈M.pn,p.1 < S.N.length
def Gu (P:A0) (w:Ay) (K:Frag) (mg:Str->Option Ac) (base:Heap) (lvl:Nat) (Γm:List (Str×Fn)):Prop:=
 ∀ x F,Γm.lookup x=some F->(x == ("__debug__" : Str))=false/\∃ fa fd ps,mg x=some (.ref fa)/\GY K (.ref fa)=true/\zky K fd ps []/\FnOk P w K mg base (A5 P w K) lvl fa fd ps (OF K F)
def GX (K:Frag) (mg:Str->Option Ac) (xc:List Nat):Prop:=xc≠[]->JL K=true/\Bw K=true/\∀ c∈xc,(c < 50->∃ x C,XN[c]?=some x/\C6 K c=some C/\mg x=some (.ref C)/\(x == ("__debug__" : Str))=false)/\(50<=c->∃ x v u,CN[c - 50]?=some (x,v)/\MW v u=true/\mg x=some u/\(x == ("__debug__" : Str))=false)
def GS (P:A0) (w:Ay) (K:Frag) (mg:Str->Option Ac) (base:Heap) (lvl:Nat) (Γ:List (Str×(Bool×Nat×Fn))):Prop:=
 (∀ x∈zzy,mg x=none)/\∀ x io n F,Γ.lookup x=some (io,n,F)->(x == ("__debug__" : Str))=false/\(∀ xs,xs.length≠n->F xs=.no) /\
  ∃ fa fd ps,mg x=some (.ref fa)/\GY K (.ref fa)=true/\zky K fd ps []/\ps.length=n/\FnOk P w K mg base (A5 P w K) lvl fa fd ps (AQ K io n F)
section
variable {X:Cx}{P:A0}{w:Ay}{K:Frag}{mg:Str->Option Ac}{base:Heap}{lvl:Nat}{S:Sx}{Wx:St->Nat->Hp->Prop}{M:Fm}
def Gz {sc:AW}{x:Str}{k:CJ} (h:CV sc x k=true):sc.names.lookup x=some k:=by
 unfold CV at h;exact eq_of_beq h
def Tp {sc:AW}{x:Str} (h:CI sc x=true):Hg sc x:=by
 unfold CI at h;rw [E4,E4] at h;rcases h with (h | h) | h
 ·exact .inl (Gz h)
 ·exact .inr (.inl (Gz h))
 ·exact .inr (.inr (Gz h))
def Lb {N:List Str}{x:Str}{i:Nat} (h:Ic N x=some i):N[i]?=some x:=by
 unfold Ic at h;rw [je1] at h;obtain ⟨hi,e,_⟩:=h
 have:N[i]=x:=eq_of_beq e
 rw [C9 hi,this]
def XS.var (xs:XS X P w K mg base lvl S Wx) {x:Str}{i:Nat}{pos:Pos} (h:S.slot x=some i):PE X (.Name x pos) (BE i):=by
 unfold Sx.slot at h;split at h
 ·rename_i hc;simp only [A4,UU] at hc;exact WX (by rw [xs.N];exact Lb h) (by rw [xs.sc];exact Tp hc.1.1) hc.1.2 hc.2
 ·cases h
def XS.gl (xs:XS X P w K mg base lvl S Wx) {x:Str} (h:S.glob x=true):Gl X x:=by
 show X.env.scope.names.lookup x=_;rw [xs.sc];exact Gz h
theorem Cm {e:Expr}{es:List Expr}{env:Env} (h:∀ x p,e≠.Starred x p):As (e::es) env=(false,eval e env)::As es env:=by
 cases e with
 | Starred x p=>exact absurd rfl (h x p)
 | _=>rfl
def Hk:Expr->Bool
 | .Starred _ _=>false
 | _=>true
def Cn {e:Expr} (h:Hk e=true):∀ x p,e≠.Starred x p:=λ x p z=>by rw [z] at h;cases h
theorem NX {env:Env}{pos:Pos}:∀ {es:List Expr},es.all Hk=true->(BP pos (As es env)).any (·.1)=false
 | [],_=>rfl
 | e::es,h=>by
  rw [FU,A4] at h;rw [Cm (Cn h.1)];show (false || (BP pos (As es env)).any (·.1))=false;rw [NX h.2];rfl
def Iz:Expr->Bool
 | .Slice _ _ _ _=>false
 | _=>true
theorem Lj {b:Expr} (h:Iz b=true):Lv b:=by
 intro o i;cases b with
 | Slice _ _ _ _=>cases h
 | _=>rfl
def VZ:Expr->Bool
 | .List _ _=>true
 | _=>false
def Wf:Expr->Bool
 | .List es _=>es.any VZ
 | _=>false
def RY (b:Expr):Operator->Option (PV->Nat->PV->Nat->Option (PV×Nat))
 | .Add=>some (if Wf b=true then Pj else AD)
 | .Sub=>some CG
 | .Mult=>some BC
 | .FloorDiv=>some GF
 | .Mod=>some Bv
 | .Pow=>some Tr
 | _=>none
def WC {a b:Expr}{op:Operator}{o:PV->Nat->PV->Nat->Option (PV×Nat)}{f g:Fx}{vs vs':List Nat}{pos:Pos} (h:RY b op=some o) (hv:∀ i∈vs,M.Ms i=false) (hK:M.K=X.K) (ha:PE X a (tE M f vs)) (hb:PE X b (tE M g vs')):PE X (.BinOp a op b pos) (tE M (Ab o f g) (vs++vs')):=by
 cases op <;> cases h
 ·split
  ·exact Zs hv hK ha hb
  ·exact Xp hv hK ha hb
 ·exact L0 Y4 (λ _ _ _=>trivial) hv ha hb
 ·exact Xz hv ha hb
 ·exact L0 WM (λ _ _=>Qb) hv ha hb
 ·exact L0 WO (λ _ _=>PZ) hv ha hb
 ·exact L0 qw (λ _ _=>Qc) hv ha hb
def E5:Expr->Bool
 | .Set _ _ _=>false
 | _=>true
def OL (b:Expr):DF->Option (PV->Nat->PV->Nat->Option (PV×Nat))
 | .Lt=>some (Cq λ i j=>decide (i < j))
 | .LtE=>some (Cq λ i j=>decide (i<=j))
 | .Gt=>some (Cq λ i j=>decide (j < i))
 | .GtE=>some (Cq λ i j=>decide (j<=i))
 | .Eq=>some (A2 false)
 | .NotEq=>some (A2 true)
 | .In=>if E5 b=true then some (DJ false) else none
 | .NotIn=>if E5 b=true then some (DJ true) else none
 | _=>none
theorem Tz {op:DF}{b:Expr} (h:E5 b=true):IP op b=false:=by
 cases b with
 | Set _ _ _=>cases h
 | _=>rfl
def Z2 {op:DF}{o:PV->Nat->PV->Nat->Option (PV×Nat)}{f g:Fx}{vs vs':List Nat}{b:Expr} (h:OL b op=some o) (hu:X.A.units + 64 < Bx) (hv:∀ i∈vs,M.Ms i=false) (hK:M.K=X.K):
  ∃ r,OpR X (Cb op) r/\IP op b=false/\∀ σ H Q,tE M (Ab o f g) (vs++vs') σ H Q->HF r (tE M f vs) (tE M g vs') σ H Q:=by
 cases op
 ·cases h;exact ⟨_,Xn hu,GC _ (by decide) (by decide),λ σ H Q h=>D7 hv (λ x d y e z c v w H fps f1 f2 Q ho o1 o2 dj nz zd lf=>Uw hK ho o1 o2 lf) h⟩
 ·cases h;exact ⟨_,WN hu,GC _ (by decide) (by decide),λ σ H Q h=>D7 hv (λ x d y e z c v w H fps f1 f2 Q ho o1 o2 dj nz zd lf=>Uw hK ho o1 o2 lf) h⟩
 ·cases h;exact ⟨_,RZ,GC _ (by decide) (by decide),λ σ H Q h=>D7 hv (λ x d y e z c v w H fps f1 f2 Q ho o1 o2 dj nz zd lf=>Ld ho o1 o2 lf) h⟩
 ·cases h;exact ⟨_,Sf,GC _ (by decide) (by decide),λ σ H Q h=>D7 hv (λ x d y e z c v w H fps f1 f2 Q ho o1 o2 dj nz zd lf=>Ld ho o1 o2 lf) h⟩
 ·cases h;exact ⟨_,Se,GC _ (by decide) (by decide),λ σ H Q h=>D7 hv (λ x d y e z c v w H fps f1 f2 Q ho o1 o2 dj nz zd lf=>Ld ho o1 o2 lf) h⟩
 ·cases h;exact ⟨_,Sd,GC _ (by decide) (by decide),λ σ H Q h=>D7 hv (λ x d y e z c v w H fps f1 f2 Q ho o1 o2 dj nz zd lf=>Ld ho o1 o2 lf) h⟩
 ·cases h
 ·cases h
 ·replace h:(if E5 b=true then some (DJ false) else none)=some o:=h;split at h
  ·rename_i hb;cases h;exact ⟨_,((Xm (by omega)).or WQ).or (Xo hu),Tz hb,λ σ H Q h=>D7 hv (λ x d y e z c v w H fps f1 f2 Q ho o1 o2 dj nz zd lf=>Uv hK ho o1 o2 lf) h⟩
  ·cases h
 ·replace h:(if E5 b=true then some (DJ true) else none)=some o:=h;split at h
  ·rename_i hb;cases h;exact ⟨_,((xx (by omega)).or x3).or (xy hu),Tz hb,λ σ H Q h=>D7 hv (λ x d y e z c v w H fps f1 f2 Q ho o1 o2 dj nz zd lf=>Uv hK ho o1 o2 lf) h⟩
  ·cases h
def E6:DF->Option (Int->Int->Bool)
 | .Lt=>some λ i j=>decide (i < j)
 | .LtE=>some λ i j=>decide (i<=j)
 | .Gt=>some λ i j=>decide (j < i)
 | .GtE=>some λ i j=>decide (j<=i)
 | .Eq=>some λ i j=>decide (i=j)
 | _=>none
def Y3:OpR X (Cb .Eq) (Eb λ i j=>.bl (decide (i=j))):=λ pins s σ H x y v u Q I rx ry h=>Wg pins s σ H x y v u Q I rx ry (by
 obtain ⟨i,j,rfl,rfl,q⟩:=h;refine ⟨rfl,?_⟩;rw [Tw];exact q)
def Rx {op:DF}{p:Int->Int->Bool} (h:E6 op=some p):OpR X (Cb op) (Eb λ i j=>.bl (p i j))/\op≠.In/\op≠.NotIn:=by
 cases op <;> cases h
 ·exact ⟨Y3,by decide,by decide⟩
 ·exact ⟨RZ,by decide,by decide⟩
 ·exact ⟨Sf,by decide,by decide⟩
 ·exact ⟨Se,by decide,by decide⟩
 ·exact ⟨Sd,by decide,by decide⟩
def EJ (p q:Int->Int->Bool) (f g h:Fx):Fx:=λ ρ=>(f ρ).bind λ (x,_,ρ1)=>(g ρ1).bind λ (y,_,ρ2)=>match x,y with
 | .int i,.int j=>if p i j=true then (h ρ2).bind λ (z,_,ρ3)=>(match z with
  | .int k=>.ok (.bl (q j k),om,ρ3)
  | _=>.no) else .ok (.bl false,om,ρ2)
 | _,_=>.no
theorem Ri {p q:Int->Int->Bool}{f g h:Fx}{vs v1 v2 v3:List Nat}{σ:St}{H:Hp}{Q:VK} (hq:tE M (EJ p q f g h) vs σ H Q):Px (Eb λ i j=>.bl (p i j)) (Eb λ i j=>.bl (q i j)) (tE M f v1) (tE M g v2) (tE M h v3) σ H Q:=by
 obtain ⟨ρ,fps,rep,qq⟩:=hq;refine ⟨ρ,fps,rep,?_⟩;unfold EJ at qq;cases ef:f ρ with
 | no=>rw [ef] at qq;exact qq
 | exc c=>rw [ef] at qq;exact qq
 | ok p0=>
  obtain ⟨x,d,ρ1⟩:=p0;rw [ef] at qq;intro v H1 fps1 f1 k1 g1 rep1 o1 t1;refine ⟨ρ1,fps1,rep1,?_⟩;dsimp only [Rz.bind] at qq;cases eg:g ρ1 with
  | no=>rw [eg] at qq;exact qq
  | exc c=>rw [eg] at qq;exact λ H' fps' k=>qq H' fps' (k1.trans k)
  | ok p2=>
   obtain ⟨y,e,ρ2⟩:=p2;rw [eg] at qq;intro w H2 fps2 f2 k2 g2 rep2 o2 t2;cases x with
   | int i=>
    cases y with
    | int j=>
     dsimp only at qq;rw [Own] at o1 o2;obtain ⟨rfl,rfl⟩:=o1;obtain ⟨rfl,rfl⟩:=o2;refine ⟨i,j,rfl,rfl,p i j,rfl,?_⟩;by_cases hp:p i j=true
     ·rw [if_pos hp] at qq ⊢;refine ⟨ρ2,fps2,rep2,?_⟩;cases eh:h ρ2 with
      | no=>rw [eh] at qq;exact qq
      | exc c=>rw [eh] at qq;exact λ H' fps' k=>qq H' fps' ((k1.trans k2).trans k)
      | ok p3=>
       obtain ⟨z,c,ρ3⟩:=p3;rw [eh] at qq;intro u H3 fps3 f3 k3 g3 rep3 o3 t3;cases z with
       | int k=>
        dsimp only at qq;rw [Own] at o3;obtain ⟨rfl,rfl⟩:=o3;exact ⟨j,k,rfl,rfl,qq _ H3 fps3 [] ((k1.trans k2).trans k3) ((g1.trans g2).trans g3) rep3 (by rw [Own];exact ⟨rfl,rfl⟩) ⟨λ _ z=>(nomatch z),λ _ z=>nomatch z⟩⟩
       | _=>exact qq.elim
     ·rw [if_neg hp] at qq ⊢;exact qq _ H2 fps2 [] (k1.trans k2) (g1.trans g2) rep2 (by rw [Own];exact ⟨rfl,rfl⟩) ⟨λ _ z=>(nomatch z),λ _ z=>nomatch z⟩
    | _=>exact qq.elim
   | _=>exact qq.elim
def CD (f g:Fx):Fx:=λ ρ=>(f ρ).bind λ (x,_,ρ1)=>match x with
 | .bl true=>g ρ1
 | .bl false=>.ok (.bl false,om,ρ1)
 | _=>.no
def BU (f g:Fx):Fx:=λ ρ=>(f ρ).bind λ (x,_,ρ1)=>match x with
 | .bl true=>.ok (.bl true,om,ρ1)
 | .bl false=>g ρ1
 | _=>.no
def CQ:PV->Nat->Option (PV×Nat)
 | .bl b,_=>some (.bl (!b),om)
 | _,_=>none
variable {f g:Fx}{vs vs':List Nat}{σ:St}{H:Hp}{Q:VK}
theorem L3 {f:Fx}{ρ ρ1:Ae}{fps fps1:AA}{H H1:Hp} (k1:KD M H fps H1 fps1) (g1:Agr M ρ ρ1) (rep1:Rep M ρ1 σ H1 fps1) (hs:∀ i∈vs,i∈vs')
  (q:match f ρ1 with
   | .ok (x,d,ρ')=>∀ v H' fps' fp,KD M H fps H' fps'->Agr M ρ ρ'->Rep M ρ' σ H' fps'->Own M.K H' (Zt M vs' fps' fp) x d v fp->Temp M vs' H H' fps' fp->Q v H'
   | .exc c=>∀ H' fps',KD M H fps H' fps'->M.W σ c H'
   | .no=>False):tE M f vs σ H1 Q:=by
 refine ⟨ρ1,fps1,rep1,?_⟩;cases eg:f ρ1 with
 | no=>rw [eg] at q;exact q
 | exc c=>rw [eg] at q;exact λ H' fps' k=>q H' fps' (k1.trans k)
 | ok p2=>
  obtain ⟨x,d,ρ2⟩:=p2;rw [eg] at q;exact λ v H' fps' fp k g r o t=>q v H' fps' fp (k1.trans k) (g1.trans g) r (o.weak λ a h=>Zt.mono hs h) ⟨λ a ha=>(by
   have e:=t.new a ha;cases e':H a with
   | none=>rfl
   | some o=>exact absurd e (k1.dom a (by rw [e'];simp))),t.ndj⟩
theorem YW (hq:tE M (CD f g) (vs++vs') σ H Q):Sg (tE M f vs) (tE M g vs') σ H Q:=by
 obtain ⟨ρ,fps,rep,q⟩:=hq;refine ⟨ρ,fps,rep,?_⟩;unfold CD at q;cases ef:f ρ with
 | no=>rw [ef] at q;exact q
 | exc c=>rw [ef] at q;exact q
 | ok p=>
  obtain ⟨x,d,ρ1⟩:=p;rw [ef] at q;intro v H1 fps1 f1 k1 g1 rep1 o1 t1;dsimp only [Rz.bind] at q;cases x with
  | bl b=>
   rw [Own] at o1;refine ⟨b,o1.1,?_⟩;cases b with
   | true=>exact L3 k1 g1 rep1 (λ i hi=>AL _ hi) q
   | false=>exact q (.bl false) H1 fps1 [] k1 g1 rep1 (by rw [Own];exact ⟨rfl,rfl⟩) ⟨λ _ z=>(nomatch z),λ _ z=>nomatch z⟩
  | _=>exact q.elim
theorem X7 (hq:tE M (BU f g) (vs++vs') σ H Q):JX (tE M f vs) (tE M g vs') σ H Q:=by
 obtain ⟨ρ,fps,rep,q⟩:=hq;refine ⟨ρ,fps,rep,?_⟩;unfold BU at q;cases ef:f ρ with
 | no=>rw [ef] at q;exact q
 | exc c=>rw [ef] at q;exact q
 | ok p=>
  obtain ⟨x,d,ρ1⟩:=p;rw [ef] at q;intro v H1 fps1 f1 k1 g1 rep1 o1 t1;dsimp only [Rz.bind] at q;cases x with
  | bl b=>
   rw [Own] at o1;refine ⟨b,o1.1,?_⟩;cases b with
   | false=>exact L3 k1 g1 rep1 (λ i hi=>AL _ hi) q
   | true=>exact q (.bl true) H1 fps1 [] k1 g1 rep1 (by rw [Own];exact ⟨rfl,rfl⟩) ⟨λ _ z=>(nomatch z),λ _ z=>nomatch z⟩
  | _=>exact q.elim
theorem YY (hq:tE M (AS CQ f) vs σ H Q):Sj (tE M f vs) σ H Q:=by
 refine Ja (r:=λ x H1 Q=>∃ c,x=.bl c/\Q (.bl (!c)) H1) (λ x d z c v H fps f1 Q ho o1 nz zd lf=>?_) hq;cases x with
 | bl b=>cases ho;rw [Own] at o1;exact ⟨b,o1.1,Dk lf⟩
 | _=>cases ho
end
def DQ (op:Str->PV->Nat->Option (PV×Nat)) (f g:Fx):Fx:=λ ρ=>(f ρ).bind λ (x,_,ρ1)=>match x with
 | .str z=>(g ρ1).bind λ (y,e,ρ2)=>match op z y e with
  | some (r,c)=>.ok (r,c,ρ2)
  | none=>.no
 | _=>.no
section
variable {X:Cx}{M:Fm}{f g:Fx}{vs vs':List Nat}{σ:St}{H:Hp}{Q:VK}
theorem SU {op:Str->PV->Nat->Option (PV×Nat)}{r:V->List V->Hp->VK->Prop}
  (leaf:∀ z y d u c w H fps f1 Q,op z y d=some (u,c)->Own M.K H (Zt M vs' fps f1) y d w f1->(∀ a∈f1,¬ Zf M fps a)->(∀ a,Zf M fps a->H a≠none)->AU M H fps vs' f1 u c Q->r (.str z) [w] H Q)
  (hq:tE M (DQ op f g) (vs++vs') σ H Q):Ka M.K "str" r (tE M f vs) (GK (tE M g vs') CY) σ H Q:=by
 obtain ⟨ρ,fps,rep,q⟩:=hq;refine ⟨ρ,fps,rep,?_⟩;unfold DQ at q;cases ef:f ρ with
 | no=>rw [ef] at q;exact q
 | exc c=>rw [ef] at q;exact q
 | ok p=>
  obtain ⟨x,d,ρ1⟩:=p;rw [ef] at q;intro v H1 fps1 f1 k1 g1 rep1 o1 t1;dsimp only [Rz.bind] at q;cases x with
  | str z=>
   rw [Own] at o1;obtain ⟨rfl,_⟩:=o1;refine ⟨rfl,?_⟩;have un:tE M (AS (op z) g) vs' σ H1 Q:=by
    refine ⟨ρ1,fps1,rep1,?_⟩;unfold AS;cases eg:g ρ1 with
    | no=>rw [eg] at q;exact q
    | exc c=>rw [eg] at q;exact λ H' fps' k=>q H' fps' (k1.trans k)
    | ok p2=>
     obtain ⟨y,e,ρ2⟩:=p2;rw [eg] at q;dsimp only [Rz.bind] at q ⊢;cases eo:op z y e with
     | none=>rw [eo] at q;exact q
     | some uc=>
      obtain ⟨u,c⟩:=uc;rw [eo] at q;dsimp only at q ⊢;exact λ w H2 fps2 fp k2 g2 rep2 o2 t2=>q w H2 fps2 fp (k1.trans k2) (g1.trans g2) rep2 (o2.weak λ a h=>Zt.mono (λ i hi=>AL _ hi) h) ⟨λ a ha=>by
       cases e':H a with
       | none=>rfl
       | some o=>exact absurd (t2.new a ha) (k1.dom a (by rw [e'];simp)),t2.ndj⟩
   exact Ja (r:=λ w H2 Q=>r (.str z) [w] H2 Q) (λ y d u c w H fps f1 Q ho o nz zd lf=>leaf z y d u c w H fps f1 Q ho o nz zd lf) un
  | _=>exact q.elim
end
def Pw:List PV->Option (List Str)
 | []=>some []
 | .str x::r=>(Pw r).map (x::·)
 | _=>none
theorem QB {K:Frag}{H:Hp}{Z:Addr->Prop}:∀ {xs:List PV}{ws:List V}{d:Nat}{fp:List Addr}{zs:List Str},Pw xs=some zs->OwnL K H Z xs d ws fp->ws=zs.map V.str
 | [],ws,d,fp,zs,e,h=>by cases e;rw [OwnL] at h;exact h.1
 | x::r,ws,d,fp,zs,e,h=>by
  cases x with
  | str z=>
   obtain ⟨k',e1,rfl⟩:=ja9.mp e;rw [OwnL] at h;obtain ⟨v,s,f1,f2,rfl,ef,dj,h1,h2⟩:=h;rw [Own] at h1;rw [h1.1,QB e1 h2];rfl
  | _=>cases e
theorem QD:∀ {zs:List Str}{its:List Ac},Vals (zs.map V.str) its->∃ l:List (Str×Tok),its=strValues l/\l.map (·.1)=zs
 | [],its,h=>by cases h;exact ⟨[],rfl,rfl⟩
 | z::zs,its,h=>by
  cases h with
  | cons r rr=>
   obtain ⟨t,rfl⟩:=r;obtain ⟨l,rfl,rfl⟩:=QD rr;exact ⟨(z,t)::l,rfl,rfl⟩
theorem Q4:∀ (l:List (Str×Tok)),Vals ((l.map (·.1)).map V.str) (strValues l)
 | []=>.nil
 | (_,t)::l=>.cons ⟨t,rfl⟩ (Q4 l)
def Wo (K:Frag):V->List V->Hp->VK->Prop:=λ x vs H Q=>∃ z q zs,x=.str z/\vs=[.ref q]/\AN K H q (zs.map V.str)/\JoinOk z zs=true/\Q (.str (Txt.join z zs)) H
def Y0 {X:Cx}:Na X "str.join" (Wo X.K):=by
 intro pins s σ H x vs v us Q I rx rv h;obtain ⟨z,a,zs,rfl,rfl,hs,hj,q⟩:=h;obtain ⟨t,rfl⟩:=rx;obtain ⟨u,rfl,ru⟩:=CC rv;cases ru;obtain ⟨its,rv2,pl,hz⟩:=I.list hs;obtain ⟨l,rfl,hl⟩:=QD rv2;exact SC.join pl.isList hl hj λ t' k=>⟨.str _,H,I.tok _,⟨t',rfl⟩,q⟩
def Pp (z:Str) (y:PV) (_:Nat):Option (PV×Nat):=match y with
 | .lst xs=>(match Pw xs with
  | some zs=>if JoinOk z zs=true then some (.str (Txt.join z zs),om) else none
  | none=>none)
 | _=>none
def Xi:V->List V->Hp->VK->Prop:=λ x vs H Q=>∃ z y,x=.str z/\vs=[.str y]/\(y.length == 0)=false/\z.length<=Ap/\(O8 z (LN z y 0 z.length (z.length + 1)) y.length).length<=Ap/\(Hu z y).length<=Ap/\∀ l,H l=none->Q (.ref l) (Am H l (.lst ((Hu z y).map V.str)))
theorem qv {X:Cx}:Na X "str.split" Xi:=by
 intro pins s σ H x vs v us Q I rx rv h;obtain ⟨z,y,rfl,rfl,hy,hz,hz2,hz3,q⟩:=h;obtain ⟨t,rfl⟩:=rx;obtain ⟨w,rfl,rw'⟩:=CC rv;obtain ⟨u,rfl⟩:=rw';have fin:∀ (l:List (Str×Tok)) (tk:Nat),l.map (·.1)=Hu z y->EP X pins σ Q (.ref s.heap.objs.size) { s with heap:=s.heap.push { cls:=.type "list",data:=.seq (strValues l).toArray },toks:=tk }:=λ l tk e=>by
  have hv:=Q4 l;rw [e] at hv;exact ⟨.ref _,_,I.lnew (t':=tk) hv (by rw [AF];exact hz3),rfl,q _ I.fresh⟩
 cases h1:(decide (z.length < y.length) || decide (Builtin.Str.strKind z < Builtin.Str.strKind y)) with
 | true=>exact Hv Om (IK s z t) Oq (Oy _ _) (meets_str_split_cannot_occur z y t u h1) (fin [(z,t)] s.toks (if_pos h1).symm)
 | false=>
  cases hf:(LN z y 0 z.length (z.length + 1)).isEmpty with
  | true=>exact Hv Om (IK s z t) Oq (Oy _ _) (meets_str_split_not_found z y t u h1 hy hf) (fin [(z,t)] s.toks ((if_neg (ne_true_of_eq_false h1)).trans (if_pos hf)).symm)
  | false=>
   refine Hv Om (IK s z t) Oq (Oy _ _) (meets_str_split_sep z y t u h1 hy hf hz hz2) ?_;have f2:=fin (numbered s.toks (O8 z (LN z y 0 z.length (z.length + 1)) y.length));rw [<- strsFrom_eq] at f2;exact f2 _ ((numbered_texts _ _).trans ((if_neg (ne_true_of_eq_false h1)).trans (if_neg (ne_true_of_eq_false hf))).symm)
def NO (z:Str) (y:PV) (_:Nat):Option (PV×Nat):=match y with
 | .str y=>if (y.length == 0)=false/\z.length<=Ap/\(O8 z (LN z y 0 z.length (z.length + 1)) y.length).length<=Ap/\(Hu z y).length<=Ap then some (.lst ((Hu z y).map PV.str),om) else none
 | _=>none
theorem Ue:∀ zs:List Str,ES (zs.map PV.str)=true
 | []=>rfl
 | z::r=>by rw [BH];unfold ES;rw [Ue r];rfl
def Yi (zs:List Str):d1 (zs.map PV.str)=om:=by unfold d1;rw [if_pos (Ue zs)]
theorem QU {K:Frag}{H:Hp}{Z:Addr->Prop}:∀ (zs:List Str),OwnL K H Z (zs.map PV.str) 0 (zs.map V.str) []
 | []=>by rw [FT,FT,OwnL];exact ⟨rfl,rfl⟩
 | z::r=>by
  rw [BH,BH,OwnL];exact ⟨_,_,[],[],rfl,rfl,λ _ z=>(nomatch z),by rw [Own];exact ⟨rfl,rfl⟩,QU r⟩
section
variable {X:Cx}{M:Fm}{f g:Fx}{vs vs':List Nat}{o e:Expr}{apos cpos:Pos}
def Zy (hK:M.K=X.K) (ho:PE X o (tE M f vs)) (he:PE X e (tE M g vs')) (hb:JQ o "join" X.env (eval o X.env)=eval o X.env) (hs:As [e] X.env=[(false,eval e X.env)]) (hf:((BP cpos (As [e] X.env)).all (λ x=>!x.1) && (Ht cpos (Hw [] X.env)).all (λ x=>x.1.isSome) && decide (([e]:List Expr).length + ([]:List Ea).length + (if ([]:List Ea).isEmpty then 0 else 1) < 30))=true) (hl:(apos.endLine == cpos.line)=true):
  PE X (.Call (.Attribute o "join" apos) [e] [] cpos) (tE M (DQ Pp f g) (vs++vs')):=by
 refine AO (Kt PySem.F.plainAttrs_str PySem.F.slot_str_join PySem.F.type_str_join Y0 ho (Dg he DU hs) hb hf hl hs rfl) λ σ H Q h=>?_;rw [<- hK];refine SU (λ z y d u c w H fps f1 Q hop o1 nz zd lf=>?_) h;unfold Pp at hop;split at hop
 ·rename_i xs;split at hop
  ·rename_i zs hz;split at hop
   ·rename_i hj;cases hop;obtain ⟨p,ws,rfl,hp,ol⟩:=(cold o1 nz).coldL
    have:=QB hz ol
    subst this;exact ⟨z,p,zs,rfl,rfl,.inl (.inl hp),hj,Iu lf⟩
   ·cases hop
  ·cases hop
 ·cases hop
def qf (hK:M.K=X.K) (ho:PE X o (tE M f vs)) (he:PE X e (tE M g vs')) (hb:JQ o "split" X.env (eval o X.env)=eval o X.env) (hs:As [e] X.env=[(false,eval e X.env)]) (hf:((BP cpos (As [e] X.env)).all (λ x=>!x.1) && (Ht cpos (Hw [] X.env)).all (λ x=>x.1.isSome) && decide (([e]:List Expr).length + ([]:List Ea).length + (if ([]:List Ea).isEmpty then 0 else 1) < 30))=true) (hl:(apos.endLine == cpos.line)=true):
  PE X (.Call (.Attribute o "split" apos) [e] [] cpos) (tE M (DQ NO f g) (vs++vs')):=by
 refine AO (Kt PySem.F.plainAttrs_str PySem.F.slot_str_split PySem.F.type_str_split qv ho (Dg he DU hs) hb hf hl hs rfl) λ σ H Q h=>?_;rw [<- hK];refine SU (λ z y d u c w H fps f1 Q hop o1 nz zd lf=>?_) h;unfold NO at hop;split at hop
 ·rename_i y0;split at hop
  ·rename_i hc;cases hop;rw [Own] at o1;obtain ⟨rfl,_⟩:=o1;refine ⟨z,y0,rfl,rfl,hc.1,hc.2.1,hc.2.2.1,hc.2.2.2,λ l hl=>?_⟩;have lf':AU M H fps vs' f1 (.lst ((Hu z y0).map PV.str)) (d1 ((Hu z y0).map PV.str)) Q:=by rw [Yi];exact lf
   exact GA lf' (QU _) hl
  ·cases hop
 ·cases hop
end
def Bn (c:Fb) (f g:Fx):Fx:=λ ρ=>(c ρ).bind λ (b,ρ1)=>if b=true then f ρ1 else g ρ1
section
variable {X:Cx}{M:Fm}{c:Fb}{f g:Fx}{vs vs':List Nat}{σ:St}{H:Hp}{Q:VK}
theorem X5 (hq:tE M (Bn c f g) (vs++vs') σ H Q):RQ (tT M c) (tE M f vs) (tE M g vs') σ H Q:=by
 obtain ⟨ρ,fps,rep,q⟩:=hq;refine ⟨ρ,fps,rep,?_⟩;unfold Bn at q;cases ec:c ρ with
 | no=>rw [ec] at q;exact q
 | exc c=>rw [ec] at q;exact q
 | ok p=>
  obtain ⟨b,ρ1⟩:=p;rw [ec] at q;intro H1 fps1 k1 g1 rep1;dsimp only [Rz.bind] at q;cases b with
  | true=>exact L3 k1 g1 rep1 (λ i hi=>AZ _ hi) q
  | false=>exact L3 k1 g1 rep1 (λ i hi=>AL _ hi) q
def Xu {t a b:Expr}{pos:Pos} (ht:PT X t (tT M c)) (ha:PE X a (tE M f vs)) (hb:PE X b (tE M g vs')):PE X (.IfExp t a b pos) (tE M (Bn c f g) (vs++vs')):=AO (ZU ht ha hb) λ σ H Q q=>X5 q
def JY (t u v:TT):TT:=λ σ H Q=>t σ H λ c H1=>if c=true then u σ H1 Q else v σ H1 Q
theorem Xd {t a b:Expr}{pos:Pos}{tA tB tC:TT} (ht:PT X t tA) (ha:PT X a tB) (hb:PT X b tC):PT X (.IfExp t a b pos) (JY tA tB tC):=by
 intro pins s σ H Q I h;rw [arm_isTrue_IfExp];refine Ak (Aw (ht pins s σ H _ I h) λ d s1 ⟨H1,I1,q1⟩=>?_);cases d with
 | true=>exact ha pins s1 σ H1 Q I1 q1
 | false=>exact hb pins s1 σ H1 Q I1 q1
theorem WK:bT (Bn c f g)=λ ρ=>(c ρ).bind λ (b,ρ1)=>if b=true then bT f ρ1 else bT g ρ1:=by
 funext ρ;unfold bT Bn;dsimp only;cases c ρ with
 | no=>rfl
 | exc c=>rfl
 | ok p=>
  obtain ⟨b,ρ1⟩:=p;cases b <;> rfl
theorem Yt {Q:Bool->Hp->Prop} (hq:tT M (bT (Bn c f g)) σ H Q):JY (tT M c) (tT M (bT f)) (tT M (bT g)) σ H Q:=by
 rw [WK] at hq;obtain ⟨ρ,fps,rep,q⟩:=hq;refine ⟨ρ,fps,rep,?_⟩;dsimp only at q;cases ef:c ρ with
 | no=>rw [ef] at q;exact q
 | exc c=>rw [ef] at q;exact q
 | ok p=>
  obtain ⟨b,ρ1⟩:=p;rw [ef] at q;intro H1 fps1 k1 g1 rep1;dsimp only [Rz.bind] at q;cases b with
  | false=>
   refine ⟨ρ1,fps1,rep1,?_⟩;rw [if_neg (by decide)] at q;cases eg:bT g ρ1 with
   | no=>rw [eg] at q;exact q
   | exc c=>rw [eg] at q;exact λ H' fps' k=>q H' fps' (k1.trans k)
   | ok p2=>rw [eg] at q;exact λ H' fps' k g r=>q H' fps' (k1.trans k) (g1.trans g) r
  | true=>
   refine ⟨ρ1,fps1,rep1,?_⟩;rw [if_pos rfl] at q;cases eg:bT f ρ1 with
   | no=>rw [eg] at q;exact q
   | exc c=>rw [eg] at q;exact λ H' fps' k=>q H' fps' (k1.trans k)
   | ok p2=>rw [eg] at q;exact λ H' fps' k g r=>q H' fps' (k1.trans k) (g1.trans g) r
end
open PySem PySem.Spec PyProof.Rows L2 PySem.W
def C0 {α:Type} (lt:Nat->Nat->Bool):KasT α->α
 | .ret a=>a
 | .ask i j k=>C0 lt (k (lt i j))
def MG {α:Type} (n:Nat) (lt:Nat->Nat->Bool):KasT α->Bool
 | .ret _=>true
 | .ask i j k=>decide (i < n) && decide (j < n) && MG n lt (k (lt i j))
theorem Ud {α:Type}{cmp:Nat->Nat->(Bool->Af->Prop)->Af->Prop}{n:Nat}{lt:Nat->Nat->Bool}{s:Af} (hc:∀ i j,i < n->j < n->∀ C:Bool->Af->Prop,C (lt i j) s->cmp i j C s):∀ (t:KasT α) (Q:α->Af->Prop),MG n lt t=true->Q (C0 lt t) s->t.kasWp cmp Q s
 | .ret _,_,_,h=>h
 | .ask i j k,Q,ok,h=>by
  unfold MG at ok;rw [A4,A4] at ok;exact hc i j (of_decide_eq_true ok.1.1) (of_decide_eq_true ok.1.2) _ (Ud hc _ Q ok.2 h)
def C4 (H H':Hp):Prop:=∀ a o,H a=some o->H' a=some o
section
variable {X:Cx}{pins:List (Addr×Obj)}{σ:St}{H:Hp}{s:Af}
def qR {a:Addr}{o:HO}{h':Heap}{t':Nat} (I:Inv X pins σ H s) (k:∀ b u,b≠a->s.heap.get? b=some u->h'.get? b=some u) (hn:H a=none) (hL:a≠X.env.locals) (h1:X.s₀.heap.objs.size<=a) (h2:∀ x c,X.env.cells.lookup x=some c->c≠a) (h3:∀ p∈X.pn++pins,p.1≠a) (new:zxv X.prog X.w (Am H a o) h' a o):Inv X pins σ (Am H a o) { s with heap:=h',toks:=t' }:=by
 have ne:∀ b u,H b=some u->b≠a:=λ b u e z=>by rw [z,hn] at e;cases e
 refine I.step (g':=s.gens) (d':=s.drawn) (ch:=[a]) (λ b hb=>?_) (λ b o _ _ hc e _=>k b o (λ z=>hc (by simp [z])) e) (λ b o _ _ hc e _=>⟨o.slots,k b o (λ z=>hc (by simp [z])) e⟩) (λ b _ hc _ n=>by rw [A3 (λ z=>hc (by simp [z]))];exact n)
  (λ b o hc e=>⟨o,k b o (λ z=>hc (by simp [z])) e⟩) (λ b _ e=>by rw [A3 (ne b _ e)];exact e) (λ b _ _ e=>by rw [A3 (ne b _ e)];exact e) (λ b ps e=>⟨#[],by rw [A3 (ne b _ e),e];simp⟩) (λ m hm=>?_) (λ b u e=>?_) I.bare
 ·have e:b=a:=by simpa using hb
  subst e;exact ⟨.inr h1,hL,h2,h3⟩
 ·obtain ⟨o,es,ep,ho,r⟩:=hm;exact ⟨o,es,ep,k _ o (Br hL) ho,r⟩
 ·by_cases hb:b=a
  ·subst hb;rw [Bq] at e;cases e;exact new
  ·rw [A3 hb] at e;refine (I.hok b u e).stay (λ c v hc q=>k c v ?_ q) (λ c q=>by rw [A3 (ne c _ q)];exact q) λ c xs q=>by rw [A3 (ne c _ q)];exact q
   rcases hc with z | z
   ·rw [z];exact hb
   ·exact ne c _ z
def QH {A:AJ}{E:Ac->Af->Prop}{prog:A0}{w:Ay}{l:Addr}{vs:List Ac}{Q:List Ac->Af->Prop} (hl:IsTup s.heap l vs.toArray)
  (h:Q vs { s with heap:=(s.heap.push (BD "list" #[] 0)).update s.heap.objs.size (Cy (·++vs.toArray)) }) (hsz:vs.length<=Ap):
  Al (An prog w) A (collect (.ref l)) Q E s:=by
 obtain ⟨o,ho,hc,n,hd⟩:=id hl;unfold collect;refine Ak (wpAny_runValue (Oh entry_proto_collect' ?_));show Al _ _ (do again (.builtin "list.__iadd__" ⟨[<- newList [],.ref l],[]⟩)) _ _ s;refine Ak (LC (A8 ⟨Code.quiet_builtin _ (by decide +kernel),Oh entry_list_iadd' ?_⟩));show Al _ _ (RI (.ref s.heap.objs.size) (.ref l) (.ref s.heap.objs.size)) _ _ { s with heap:=s.heap.push (BD "list" #[] 0) };unfold RI;have ho':(s.heap.push (BD "list" #[] 0)).get? l=some o:=AX _ ho;refine Ak (wpAny_typeOf (T := "tuple") ⟨o,ho',hc⟩ ?_);have ht:(Value.type "tuple" == Value.type "tuple")=true:=by rfl
 rw [if_pos (by rw [ht];simp)];refine Ak (LA ho' hd ?_);refine Ak (LA (xs:=#[]) (n:=0) (BV _ rfl) rfl ?_);rw [if_neg (by simp)];refine Ak (JR (xs:=#[]) (n:=0) (BV _ rfl) rfl ?_ (D4 _) (by show (#[]++vs.toArray).size<=Ap + 1;simp only [Array.size_append,Bl,K2];omega));refine A8 ?_;show Al (An prog w) A (do
   let o<-load s.heap.objs.size
   match o.data with
   | .seq xs _=>pure xs.toList
   | _=>unsupported "internal:collect") Q E { s with heap:=(s.heap.push (BD "list" #[] 0)).update s.heap.objs.size (Cy (·++vs.toArray)) }
 refine Ak (wpAny_load (Oi (BV _ rfl) _) ?_);show Al _ _ (pure ((#[]:Array Ac)++vs.toArray).toList) Q E _;rw [show ((#[]:Array Ac)++vs.toArray).toList=vs by simp];exact A8 h
def Cz (ks:List Int):List Nat:=(C0 (λ i j=>decide (ks.getD i 0 < ks.getD j 0)) (FH ks.length)).toList
def GQ (ks:List Int):Bool:=decide (2<=ks.length) && decide (ks.length < 64) && MG ks.length (λ i j=>decide (ks.getD i 0 < ks.getD j 0)) (FH ks.length) && (Cz ks).all λ i=>decide (i < ks.length)
theorem Jt:∀ {ns:List Int}{us:List Ac},Vals (ns.map V.int) us->∀ i,i < ns.length->RelV (.int (ns.getD i 0)) (us.getD i Value.none)
 | n::r,u::us,.cons h t,0,_=>h
 | n::r,u::us,.cons h t,i + 1,hi=>Jt t i (by simpa using hi)
theorem Q2 {ns:List Int}{us:List Ac} (h:Vals (ns.map V.int) us):∀ {p:List Nat},(∀ i∈p,i < ns.length)->Vals ((p.map λ i=>ns.getD i 0).map V.int) (p.map λ i=>us.getD i Value.none)
 | [],_=>.nil
 | i::p,hp=>.cons (Jt h i (hp i AI)) (Q2 h λ j hj=>hp j (AB _ hj))
theorem Q3 {v:V}{u:Ac} (r:RelV v u):∀ {vs:List V}{us:List Ac},Vals vs us->Vals (vs++[v]) (us++[u])
 | _,_,.nil=>.cons r .nil
 | _,_,.cons h t=>.cons h (Q3 r t)
def V3 (a f:Ac):argsOk "list.sort" ⟨[a],[(FI "key",f)]⟩:=by unfold argsOk;kernel_rfl
def V8 (a f:Ac):argsOk "sorted" ⟨[a],[(FI "key",f)]⟩:=by unfold argsOk;kernel_rfl
variable {f q:Addr}{ns:List Int}{κ:Int->Int}
def xv {A:AJ}{E:Ac->Af->Prop}{P:PySem.Fin->Af->Prop}{a kS:Addr}{e1:Nat}{us:List Ac} (I:Inv X (pins++[(a,BD "list" #[] e1)]) σ H s) (hus:Vals (ns.map V.int) us) (hk:H kS=some (.lst ((ns.map κ).map V.int))) (ok:GQ (ns.map κ)=true) (hL:a≠X.env.locals) (h1:X.s₀.heap.objs.size<=a) (h2:∀ x c,X.env.cells.lookup x=some c->c≠a) (h3:∀ p∈X.pn++pins,p.1≠a)
  (h:∀ s',Inv X pins σ (Am (Am H kS (.lst [])) a (.lst (((Cz (ns.map κ)).map λ i=>ns.getD i 0).map V.int))) s'->P (.done (.ret .none)) s'):
  ∀ its:List Ac,(∃ n,s.heap.get? kS=some { cls:=.type "list",data:=.seq its.toArray n })->Vals ((ns.map κ).map V.int) its->Al (An X.prog X.w) A (ksk_end a false us.toArray e1 (.ref kS) its.toArray) P E s:=by
 intro its ⟨nk,ek⟩ hv;unfold GQ at ok;simp only [A4,decide_eq_true_eq,AF] at ok;obtain ⟨⟨⟨o1,o2⟩,o3⟩,o4⟩:=ok;have z:=IL;have l1:us.length=ns.length:=by have:=hus.length;simpa using this.symm
 have l2:its.length=ns.length:=by have:=hv.length;simpa using this.symm
 have np:=I.pin (a,BD "list" #[] e1) (by simp);have hak:a≠kS:=λ z=>by have:=np.2.1;rw [show (a,BD "list" #[] e1).1=a from rfl,z,hk] at this;cases this
 unfold ksk_end;dsimp only;rw [if_neg (by decide),if_neg (by simp;omega),if_neg (by simp;omega)];obtain ⟨k1,k2,kr,rfl⟩:∃ k1 k2 kr,its=k1::k2::kr:=by
  rcases its with _ | ⟨k1,_ | ⟨k2,kr⟩⟩
  ·simp at l2;omega
  ·simp at l2;omega
  ·exact ⟨_,_,_,rfl⟩
 rw [keyKind_ints (La hv)];refine Ak (A8 ?_);have lt2:(ns.map κ).length=us.length:=by rw [AF,l1]
 refine Ak (Et (kat_run (ks:=k1::k2::kr) (vs:=us) (Q:=λ st' s'=>s'=s/\(C0 (λ i j=>decide ((ns.map κ).getD i 0 < (ns.map κ).getD j 0)) (FH us.length)).size=us.length/\arrOf st'=(C0 (λ i j=>decide ((ns.map κ).getD i 0 < (ns.map κ).getD j 0)) (FH us.length)).map (kas_item ((k1::k2::kr).toArray.zip us.toArray))/\failedOf st'=none) (G:=λ p' s'=>p'=C0 (λ i j=>decide ((ns.map κ).getD i 0 < (ns.map κ).getD j 0)) (FH us.length)/\s'=s) (by rw [l2,l1]) (by omega) (by omega) (λ p' st' s' a1 a2 a3 a4=>by obtain ⟨rfl,rfl⟩:=a4;exact ⟨rfl,a1,a2,a3⟩) (Ud (n:=us.length) (lt:=λ i j=>decide ((ns.map κ).getD i 0 < (ns.map κ).getD j 0)) (λ i j hi hj C hC=>?_) _ _ ?_ ⟨rfl,rfl⟩)) ?_ λ _ _ e=>e)
 ·obtain ⟨t,et⟩:=Jt (ns:=ns.map κ) hv i (by rw [lt2];exact hi);obtain ⟨t',et'⟩:=Jt (ns:=ns.map κ) hv j (by rw [lt2];exact hj);show Al (An X.prog X.w) A (keyLt' oneType' ((k1::k2::kr).getD i Value.none) ((k1::k2::kr).getD j Value.none)) C (λ _ _=>False) s;rw [et,et'];exact kat_lt_int hC
 ·rw [<- lt2,AF];exact o3
 rintro ⟨⟨⟩,st'⟩ s' ⟨rfl,hp,har,hf⟩;dsimp only;have hout:=kat_snds (by rw [l2,l1]) har;unfold ksk_tail;dsimp only;rw [hout];refine Ak (JR ek rfl ?_ (by rw [Bl,l2];omega) (D4 _));have I2:=I.lset (ys:=[]) (its':=[]) (f:=λ _=>#[]) (t':=s'.toks) hk ek rfl .nil (D4 _);refine Ak (L8 ?_);have np2:=I2.pin (a,BD "list" #[] e1) (by simp);refine Ak (seqEpoch_at np2.1 rfl ?_);have hpl:((C0 (λ i j=>decide ((ns.map κ).getD i 0 < (ns.map κ).getD j 0)) (FH us.length)).toList.map λ i=>us.getD i Value.none).length=us.length:=by rw [AF,Ia,hp]
 refine Ak (JR np2.1 rfl ?_ (D4 _) (by simp only [if_neg (show ¬ (false=true) by decide)];rw [Bl,hpl];omega));rw [hf];simp only [bne_self_eq_false,Bool.false_eq_true,if_false];refine A8 (h _ ?_);have I3:=I2.pins_of (pins':=pins) λ p hp=>I2.pin p (AL _ (AZ _ hp));have ep:Cz (ns.map κ)=(C0 (λ i j=>decide ((ns.map κ).getD i 0 < (ns.map κ).getD j 0)) (FH us.length)).toList:=by unfold Cz;rw [lt2]
 have hin:∀ i∈Cz (ns.map κ),i < ns.length:=λ i hi=>by have:=jb8.mp o4 i hi;simpa using this
 have J:=qR (o:=.lst (((Cz (ns.map κ)).map λ i=>ns.getD i 0).map V.int)) (t':=s'.toks) (h':=(s'.heap.update kS (Cy λ _=>#[])).update a (Cy λ _=>(List.map (λ i=>us.getD i Value.none) (C0 (λ i j=>decide ((ns.map κ).getD i 0 < (ns.map κ).getD j 0)) (FH us.length)).toList).toArray)) I3 (λ b u hb e=>(O1 _ _ _ _ hb).trans e) np2.2.1 hL h1 h2 h3 (by
  have g:=Oi np2.1 (λ _=>(List.map (λ i=>us.getD i Value.none) (C0 (λ i j=>decide ((ns.map κ).getD i 0 < (ns.map κ).getD j 0)) (FH us.length)).toList).toArray);rw [<- ep] at g ⊢;exact ⟨by rw [AF,AF,ep,Ia,hp];omega,_,_,Q2 hus hin,g⟩)
 exact J
def xI {A:AJ}{E:Ac->Af->Prop}{P:PySem.Fin->Af->Prop}{a:Addr}{us:List Ac}{n:Nat} (I:Inv X pins σ H s) (ho:s.heap.get? a=some (BD "list" us.toArray n)) (hn:∀ b o,H b=some o->b≠a) (hus:Vals (ns.map V.int) us) (ok:GQ (ns.map κ)=true) (hL:a≠X.env.locals) (h1:X.s₀.heap.objs.size<=a) (h2:∀ x c,X.env.cells.lookup x=some c->c≠a) (h3:∀ p∈X.pn++pins,p.1≠a) (h4:a∉X.fs)
  (hcall:∀ {pins':List (Addr×Obj)}{H1:Hp}{s1:Af} (m:Int) (u:Ac),Inv X pins' σ H1 s1->C4 H H1->RelV (.int m) u->m∈ns->Al (An X.prog X.w) A (call (.ref f) [u]) (λ k s'=>∃ H2,Inv X pins' σ H2 s'/\C4 H1 H2/\RelV (.int (κ m)) k) (λ _ _=>False) s1)
  (h:∀ H' s',Inv X pins σ H' s'->C4 H H'->H' a=some (.lst (((Cz (ns.map κ)).map λ i=>ns.getD i 0).map V.int))->P (.done (.ret .none)) s'):Al (An X.prog X.w) A (ksk_tree a (.ref f) false) P E s:=by
 have ha:=A9 ho;have z:=IL;have l1:us.length=ns.length:=by have:=hus.length;simpa using this.symm
 have ok':=ok;unfold GQ at ok';simp only [A4,decide_eq_true_eq,AF] at ok';have hna:H a=none:=by
  cases e:H a with
  | none=>rfl
  | some o=>exact absurd rfl (hn a o e)
 unfold ksk_tree;refine Ak (LA ho rfl ?_);refine Ak (JR ho rfl ?_ (by rw [Bl];omega) (D4 _));obtain ⟨e1,ho1⟩:∃ e1,(s.heap.update a (Cy λ _=>(#[]:Array Ac))).get? a=some (BD "list" #[] e1):=⟨_,Oi ho λ _=>#[]⟩
 refine Ak (seqEpoch_at ho1 rfl ?_);refine Ak (wpAny_newTuple ?_ (by show us.length<=_;omega));refine Ak (LC ?_ (D4 _));refine Hz ?_;have I1:=I.turned (t':=s.toks) (h':=s.heap.update a (Cy λ _=>(#[]:Array Ac))) (it:=a) (λ b o hb e=>(O1 _ _ _ _ hb).trans e) hna hL (.inr h1) h2 h3;have I2:=I1.kept (t':=s.toks) (h':=(s.heap.update a (Cy λ _=>(#[]:Array Ac))).push (BD "tuple" us.toArray 0)) λ b u e=>AX _ e;have I3:=I2.pins_of (pins':=pins++[(a,BD "list" #[] e1)]) λ p hp=>by
  rcases jc2.mp hp with hp | hp
  ·exact I2.pin p (AL _ hp)
  ·obtain rfl:=jb2.mp hp;exact ⟨AX _ ho1,hna,hL,h4,λ v e=>by cases e⟩
 obtain ⟨kS,eS⟩:∃ kS,kS=((s.heap.update a (Cy λ _=>(#[]:Array Ac))).push (BD "tuple" us.toArray 0)).objs.size:=⟨_,rfl⟩
 have fr:H kS=none:=by rw [eS];exact I3.fresh
 have I4:=I3.lnew (ys:=[]) (its:=[]) (t':=s.toks) .nil (D4 _);rw [show ({ s with heap:=(s.heap.update a (Cy λ _=>(#[]:Array Ac))).push (BD "tuple" us.toArray 0),toks:=s.toks }:Af).heap.objs.size=kS from eS.symm] at I4;rw [<- eS];unfold ksk_rest;refine Ak (wpAny_rule ?_)
 first
  | rw [List.forIn_toArray]
  | (rw [<- UY];simp only [List.toList_toArray])
  | rw [<- UY]
 refine Ak (ksk_fold (λ j s'=>∃ H',Inv X (pins++[(a,BD "list" #[] e1)]) σ H' s'/\C4 H H'/\H' kS=some (.lst (((ns.take j).map κ).map V.int))) us 0 _ ⟨_,I4,λ b o e=>by rw [A3 (λ z=>by rw [z,fr] at e;cases e)];exact e,Bq⟩ (λ j x s' hx hI=>?_) λ s' hd=>?_)
 ·obtain ⟨H',I',g',hk'⟩:=hI;rw [Jd] at hk' ⊢;have hj:j < ns.length:=by rw [<- l1];exact (jb0.mp hx).1
  have rx:=Jt hus j hj;rw [BS (l:=us),hx] at rx;refine Ak (wpAny_attempt (Et (hcall (ns.getD j 0) x I' g' rx (by
   rw [BS,C9 hj];exact FX hj)) (λ k s'' hk=>?_) λ _ _ hF=>hF.elim))
  obtain ⟨H2,I2',g2,rk⟩:=hk;dsimp only;have hk2:=g2 _ _ hk';obtain ⟨hz,its,n',hv,hl,ek⟩:=I2'.lstM hk2;have hln:its.length<=63:=by
   rw [<- hl,AF,AF,Fc];omega
  refine Ak (JR ek rfl ?_ (by rw [Bl];omega) (by rw [Array.size_push,Bl];omega));refine A8 ⟨rfl,Am H2 kS (.lst (((ns.take (j + 1)).map κ).map V.int)),?_,λ b o e=>by rw [A3 (λ z=>by rw [z,fr] at e;cases e)];exact g2 _ _ (g' _ _ e),by rw [Bq]⟩;have et:((ns.take (j + 1)).map κ).map V.int=((ns.take j).map κ).map V.int++[V.int (κ (ns.getD j 0))]:=by
   rw [UA,BS,C9 hj,EZ,EZ];rfl
  rw [et];exact I2'.lset (t':=s''.toks) (its':=its++[k]) (f:=(·.push k)) hk2 ek (by simp) (Q3 rk hv) (by rw [BR,hl,Jl];omega)
 ·obtain ⟨H',I',g',hk'⟩:=hd;rw [Jd,l1,List.take_length] at hk';obtain ⟨hz,its,n',hv,hl,ek⟩:=I'.lstM hk';refine Ak (LA ek rfl ?_);refine xv I' hus hk' ok hL h1 h2 h3 (λ s4 I4=>h _ s4 I4 (λ b o e=>?_) (by rw [Bq])) its ⟨n',ek⟩ hv;rw [A3 (hn b o e),A3 (λ z=>by rw [z,fr] at e;cases e)];exact g' _ _ e
def VH {Q:VK} (I:Inv X pins σ H s) (hq:SqT X.K H q (ns.map V.int)) (ok:GQ (ns.map κ)=true)
  (hcall:∀ {pins':List (Addr×Obj)}{H1:Hp}{s1:Af} (m:Int) (u:Ac),Inv X pins' σ H1 s1->C4 H H1->RelV (.int m) u->m∈ns->Al (An X.prog X.w) X.A.in1.in1 (call (.ref f) [u]) (λ k s'=>∃ H2,Inv X pins' σ H2 s'/\C4 H1 H2/\RelV (.int (κ m)) k) (λ _ _=>False) s1)
  (h:∀ a H',C4 H H'->H a=none->H' a=some (.lst (((Cz (ns.map κ)).map λ i=>ns.getD i 0).map V.int))->Q (.ref a) H'):Al (An X.prog X.w) X.A (call (.builtin "sorted") [.ref q] [(FI "key",.ref f)]) (EP X pins σ Q) X.xe s:=by
 obtain ⟨us,hus,pl,hz⟩:=I.tuple hq;have z:=IL;have l1:us.length=ns.length:=by have:=hus.length;simpa using this.symm
 have ok':=ok;unfold GQ at ok';simp only [A4,decide_eq_true_eq,AF] at ok';refine call_function_entry_kw kind_sorted plain_sorted entry_sorted (V8 _ _) ?_;unfold vj3.«sorted»;refine Ak (m:=checkCount "sorted" 1 1 _) (A8 ?_);refine Ak (QH pl ?_ (by omega));refine Ak (LC ?_ (by omega));have lz:((s.heap.push (BD "list" #[] 0)).update s.heap.objs.size (Cy (·++us.toArray))).objs.size=s.heap.objs.size + 1:=by
  rw [Heap.size_update,size_push']
 have oL:(((s.heap.push (BD "list" #[] 0)).update s.heap.objs.size (Cy (·++us.toArray))).push (BD "list" us.toArray 0)).get? (s.heap.objs.size + 1)=some (BD "list" us.toArray 0):=by
  rw [<- lz];exact BV _ rfl
 show Al _ _ _ _ _ { s with heap:=((s.heap.push (BD "list" #[] 0)).update s.heap.objs.size (Cy (·++us.toArray))).push (BD "list" us.toArray 0) };rw [lz];have I1:=I.kept (t':=s.toks) (h':=((s.heap.push (BD "list" #[] 0)).update s.heap.objs.size (Cy (·++us.toArray))).push (BD "list" us.toArray 0)) λ b u e=>AX _ (by
  rw [O1 _ _ _ _ (BG (A9 e))];exact AX _ e)
 have hlt:=I.lt;have hsz:=I.sz;refine Ak (Hz (wpAny_call_entry_kw slot_list_sort ⟨_,oL,rfl⟩ entry_list_sort ?_ (V3 _ _)));rw [ksk_t1];have hfr:H (s.heap.objs.size + 1)=none:=I.hok.fresh (FR _);refine xI (ns:=ns) (κ:=κ) I1 oL (λ b o e hb=>by rw [hb,hfr] at e;cases e) hus ok (DL (K4 hlt)) (by omega) (λ x c e hc=>?_) (λ p hp hb=>?_) (I.nofs (FR _)) hcall λ H' s' I' g' ha=>⟨_,rfl,A8 ⟨_,rfl,.ref _,H',I',rfl,h _ H' g' hfr ha⟩⟩
 ·obtain ⟨v,o,ho,_⟩:=I.cell x c e
  have:=A9 ho
  rw [hc] at this;exact absurd this (jm3.mpr (FR _))
 ·have:=A9 (I.pin p hp).1
  rw [hb] at this;exact absurd this (jm3.mpr (FR _))
end
def Kj (F:Fn) (n:Int):Option Int:=match F [.int n] with
 | .ok (.int k,_,_)=>some k
 | _=>none
def D3 (F:Fn) (n:Int):Int:=(Kj F n).getD 0
def J8 (F:Fn):List (PV×Nat)->Option (PV×Nat)
 | [(.tup xs,_)]=>match EO xs with
  | some ns=>if (ns.all λ n=>(Kj F n).isSome)=true/\GQ (ns.map (D3 F))=true then some (.lst (((Cz (ns.map (D3 F))).map λ i=>ns.getD i 0).map PV.int),om) else none
  | none=>none
 | _=>none
section
variable {X:Cx}{M:Fm}{f:Fx}{fa:Fa}{vs:List Nat}{e:Expr}{p kp pos pg:Pos}{F:Fn}
def Kp (K:Frag) (F:Fn):List V->Hp->VK->Prop:=λ ws H Q=>∃ (q:Addr) (ns:List Int),ws=[.ref q]/\SqT K H q (ns.map V.int)/\(∀ n∈ns,(Kj F n).isSome=true)/\GQ (ns.map (D3 F))=true /\
 ∀ a H',C4 H H'->H a=none->H' a=some (.lst (((Cz (ns.map (D3 F))).map λ i=>ns.getD i 0).map V.int))->Q (.ref a) H'
def qh {σ:St}{H:Hp}{Q:VK} (hK:M.K=X.K) (h:tE M (Aq (J8 F) fa) vs σ H Q):LV (Kp X.K F) (tL M fa vs) σ H Q:=DW (λ xs z c ws H fps fp Q ho tm nz zd lf=>by
 unfold J8 at ho;split at ho
 ·rename_i xs d1;split at ho
  ·rename_i ns eb;split at ho
   ·rename_i hc;cases ho;obtain ⟨v,r',f1,f2,rfl,rfl,_,o1,h2⟩:=tm;obtain ⟨rfl,rfl⟩:=h2;obtain ⟨q,us,rfl,hs,ol⟩:=(cold (fp:=f1) o1 λ a ha=>nz a (AZ _ ha)).coldT
    have:=Fi eb ol
    subst this;rw [<- hK];refine ⟨q,ns,rfl,.inl (.inl hs),λ n hn=>jb8.mp hc.1 n hn,hc.2,λ a H' g ha hh=>?_⟩;refine lf (.ref a) H' [a] g ?_ λ b hb=>.inr (by rw [jb2.mp hb];exact ha);rw [Own];exact ⟨a,_,rfl,.inr ⟨(by decide),[],hh,rfl,(λ z=>nomatch z),(Nu (Z:=λ _=>False) _).atoms (NK _)⟩⟩
   ·cases ho
  ·cases ho
 ·cases ho) h
theorem ZP {k:Nat}{fa:Addr}{fd:Cr}{ps:List Str}{A:AJ}{pins:List (Addr×Obj)}{σ:St}{H1:Hp}{s1:Af}{m:Int}{u:Ac} (Fo:FnOk X.prog X.w X.K X.mg X.base (A5 X.prog X.w X.K) k fa fd ps (AQ X.K false 1 F)) (hr:Room k A) (hE:Env0 X.prog X.w X.K X.mg X.base A X.stack s1 H1) (hb:zky X.K fd ps []) (hps:ps.length=1) (I:Inv X pins σ H1 s1) (ru:RelV (.int m) u) (hk:(Kj F m).isSome=true):
  Al (An X.prog X.w) A (call (.ref fa) [u]) (λ k s'=>∃ H2,Inv X pins σ H2 s'/\C4 H1 H2/\RelV (.int (D3 F m)) k) (λ _ _=>False) s1:=by
 have rv:Vals [V.int m] [u]:=.cons ru .nil;have hbd:=hb s1 [u] I.kIn (by rw [hps];rfl);rw [HX] at hbd;have hsp:AQ X.K false 1 F [V.int m] H1 (λ v H'=>C4 H1 H'/\v=.int (D3 F m)) (λ _ _ _=>False):=by
  refine ⟨rfl,[.int m],λ _=>False,.non,.non,[],λ _ z=>z.elim,λ _ z=>(nomatch z),λ _=>⟨rfl,?_⟩,(λ h=>nomatch h),?_⟩
  ·rw [OwnL];exact ⟨.int m,[],[],[],rfl,rfl,(λ _ z=>nomatch z),by rw [Own];exact ⟨rfl,rfl⟩,by rw [OwnL];exact ⟨rfl,rfl⟩⟩
  ·unfold Kj at hk;have ek:D3 F m=(match F [.int m] with | .ok (.int k,_,_)=>some k | _=>none:Option Int).getD 0:=rfl;rw [ek];cases eF:F [PV.int m] with
   | no=>rw [eF] at hk;cases hk
   | exc c=>rw [eF] at hk;cases hk
   | ok r=>
    obtain ⟨y,d,z0⟩:=r;rw [eF] at hk;cases y <;> first | (cases hk;done) | skip
    rename_i kk;intro v H' fp fp0' kp dm _ _ h0 _ oy hf;rw [Own] at oy;obtain ⟨rfl,_⟩:=oy;exact ⟨λ a o h=>kp a o h (λ z=>nomatch z),rfl⟩
 refine wpAny_call (JP (Fo.run A X.stack s1 H1 ⟨[u],[]⟩ [u] [V.int m] _ _ hr hE hbd rv hsp) λ r s' hq=>?_);cases r with
 | error e=>
  obtain ⟨_,_,_,_,_,_,_,_,_,_,_,_,_,_,_,_,_,_,hh⟩:=hq;exact hh
 | ok fl=>
  cases fl with
  | ret w=>
   obtain ⟨v,H',I',rw',g,rfl⟩:=I.after hq;exact ⟨H',I',g,rw'⟩
  | next=>exact CW hq
  | brk=>exact CW hq
  | cont=>exact CW hq
def qa {k:Nat}{A:AJ} (r:Room k A) (h:A.units + 16 * k + 204 < Bx):Room k A.in1.in1:=⟨r.hd,r.dp,by show A.units + 1 + 1 + 16 * k + 200 < _;omega,r.gd⟩
def YR {k:Nat}{fa:Addr}{fd:Cr}{ps:List Str}{g:Str} (Fo:FnOk X.prog X.w X.K X.mg X.base (A5 X.prog X.w X.K) k fa fd ps (AQ X.K false 1 F)) (hr:Room k X.A) (hu:X.A.units + 16 * k + 204 < Bx) (hb:zky X.K fd ps []) (hps:ps.length=1) (hK:M.K=X.K) (hg:Gl X "sorted") (hm:X.mg "sorted" = none) (hgg:Gl X g) (hmg:X.mg g=some (.ref fa)) (hdb:(g == ("__debug__" : Str))=false) (hms:∀ i∈vs,M.Ms i=false)
  (ha:PE X e (tE M f vs)) (hs:As [e] X.env=[(false,eval e X.env)]):
  PE X (.Call (.Name "sorted" p) [e] [⟨some (FI "key"),.Name g pg,kp⟩] pos) (tE M (Aq (J8 F) (Ah f Ad)) (vs++[])):=by
 intro pins s σ H Q I h;have h2:=Ug hms (qh hK h);refine JT (Fq I hg hm (u:=.builtin "sorted") rfl ?_ (by decide +kernel) (by decide +kernel));have hs':As [e] X.env=(false,eval e X.env)::As [] X.env:=hs;refine callWith_kw (Aw ((Dg ha DU hs') pos pins s σ H (λ ws H1=>Kp X.K F ws H1 Q) I ?_) λ us s1 ⟨vs1,H1,I1,r1,q1⟩=>?_) ?_ ?_ ?_ ?_
 ·show tE M f vs σ H λ x H1=>Kp X.K F [x] H1 Q;obtain ⟨ρ,fps,rep,q⟩:=(show tE M f vs σ H λ x H1=>tL M Ad [] σ H1 λ xs H2=>Kp X.K F (x::xs) H2 Q from h2)
  refine ⟨ρ,fps,rep,?_⟩;cases ef:f ρ with
  | no=>rw [ef] at q;exact q
  | exc c=>rw [ef] at q;exact q
  | ok p=>
   rw [ef] at q;intro v H' fps' fp k g r o t;obtain ⟨ρ2,fps2,rep2,q2⟩:=q v H' fps' fp k g r o t;exact q2 [] H' fps2 [] KD.refl Agr.refl rep2 ⟨rfl,rfl⟩ ⟨λ _ z=>(nomatch z),λ _ z=>nomatch z⟩
 ·refine Aw ((Y9 (NR (v:=.ref fa) hgg hmg rfl hdb) Xb) pos pins s1 σ H1 (λ ws H2=>ws=[.ref fa]/\Kp X.K F vs1 H2 Q) I1 ⟨rfl,q1⟩) λ ws s2 ⟨zs,H2,I2,rz,ez,q2⟩=>?_;subst ez;obtain ⟨u2,rfl,rx2⟩:=CC rz;obtain rfl:u2=Value.ref fa:=rx2;obtain ⟨q,ns,rfl,hq,hk,ok,hQ⟩:=q2;obtain ⟨u,rfl,rx⟩:=CC r1;obtain rfl:u=Value.ref q:=rx;exact VH I2 hq ok (λ {pins' H3 s3} m u I3 g3 ru hm=>ZP Fo (qa hr hu) I3.env0.in1.in1 hb hps I3 ru (hk m hm)) hQ
 ·rw [hs];rfl
 ·rw [hs];rfl
 ·rfl
 ·rfl
def xV {A:AJ}{E:Ac->Af->Prop}{s:Af}{prog:A0}{w:Ay}{l:Addr}{us:List Ac}{ns:List Int}{Q:Ac->Af->Prop} (hl:IsTup s.heap l us.toArray) (hI:FG us ns) (h64:us.length < 64)
  (h:∀ (out:Array Ac) (ms:List Int),FG out.toList ms->ms.Perm ns->ms.Pairwise (·<=·)->Q (.ref (s.heap.objs.size + 1)) { s with heap:=sortedAll s.heap us out }):Al (An prog w) A (call (.builtin "sorted") [.ref l]) Q E s:=by
 have z:=IL;refine Calls.call_function_entry kind_sorted plain_sorted entry_sorted (args_sorted1 _) ?_;unfold vj3.«sorted»;refine Ak (m:=checkCount "sorted" 1 1 _) (A8 ?_);refine Ak (QH hl ?_ (by omega));refine Ak (LC ?_ (by omega));have lz:((s.heap.push (BD "list" #[] 0)).update s.heap.objs.size (Cy (·++us.toArray))).objs.size=s.heap.objs.size + 1:=by
  rw [Heap.size_update,size_push']
 have oL:(((s.heap.push (BD "list" #[] 0)).update s.heap.objs.size (Cy (·++us.toArray))).push (BD "list" us.toArray 0)).get? (s.heap.objs.size + 1)=some (BD "list" us.toArray 0):=by
  rw [<- lz];exact BV _ rfl
 show Al _ _ _ _ _ { s with heap:=((s.heap.push (BD "list" #[] 0)).update s.heap.objs.size (Cy (·++us.toArray))).push (BD "list" us.toArray 0) };rw [lz];refine Ak (Hz (IS slot_list_sort ⟨_,oL,rfl⟩ entry_list_sort (list_sort_tree oL hI h64 λ out ms a1 a2 a3=>⟨_,rfl,?_⟩) (args_list_sort _)));exact A8 ⟨_,rfl,h out ms a1 a2 a3⟩
def qG:zwj X (.builtin "sorted") (λ xs H Q=>∃ q ns,xs=[.ref q]/\SqT X.K H q (ns.map V.int)/\ns.length < 64/\∀ l,H l=none->Q (.ref l) (Am H l (.lst ((Ey ns).map V.int)))):=by
 intro pins s σ H xs us Q I rv h;obtain ⟨q,ns,rfl,hq,hl,k⟩:=h;obtain ⟨u,rfl,rx⟩:=CC rv;obtain rfl:u=Value.ref q:=rx;obtain ⟨its,r,pl,hz⟩:=I.tuple hq;have hlen:=r.length;rw [AF] at hlen;refine xV pl (La r) (by omega) λ out ms a1 a2 a3=>?_;obtain ⟨c,hc⟩:=sortedAll_at s.heap its out;have e1:ms=Ey ns:=To (a2.trans (NW ns).symm) a3 (SR ns);subst e1;refine ⟨.ref _,_,I.laid (h':=sortedAll s.heap its out) (t':=s.toks) (o:=.lst ((Ey ns).map V.int)) (λ b o e=>sortedAll_old e) (FR _) ?_,rfl,k _ (I.hok.fresh (FR _))⟩;exact ⟨by rw [AF,(NW ns).length_eq];have:=IL;omega,out.toList,c,Uj a1,hc⟩
def L6:List (PV×Nat)->Option (PV×Nat)
 | [(.tup xs,_)]=>match EO xs with
  | some ns=>if ns.length < 64 then some (.lst ((Ey ns).map PV.int),om) else none
  | none=>none
 | _=>none
def YS {es:List Expr} (hg:Gl X "sorted") (hm:X.mg "sorted" = none) (ha:PA X (e::es) (tL M fa vs)) (he:As (e::es) X.env=(false,eval e X.env)::As es X.env) (hpl:(BP pos (As es X.env)).any (·.1)=false) (hK:M.K=X.K):
  PE X (.Call (.Name "sorted" p) (e::es) [] pos) (tE M (Aq L6 fa) vs):=by
 refine AO (EN qG hg hm rfl ha (he:=he) (hpl:=hpl)) λ σ H Q h=>DW (λ xs z c ws H fps fp Q ho tm nz zd lf=>?_) h;unfold L6 at ho;split at ho
 ·rename_i xs d;split at ho
  ·rename_i ns eb;split at ho
   ·rename_i hk;cases ho;obtain ⟨v,r',f1,f2,rfl,rfl,_,o1,h2⟩:=tm;obtain ⟨rfl,rfl⟩:=h2;obtain ⟨q,us,rfl,hs,ol⟩:=(cold (fp:=f1) o1 λ a ha=>nz a (AZ _ ha)).coldT
    have:=Fi eb ol
    subst this;refine ⟨q,ns,rfl,.inl (.inl hs),hk,λ l hl=>?_⟩;have ed:om=d1 ((Ey ns).map PV.int):=by unfold d1;rw [NK];rfl
    rw [ed] at lf;exact GA lf (Nu _) hl
   ·cases ho
  ·cases ho
 ·cases ho
def Ga (ns:List Int) (k:Int):Bool:=PyData.layable0 (.list (ns.map .int)) && ns.contains k
def rIx (K:Frag):V->List V->Hp->VK->Prop:=λ x xs H Q=>∃ (q:Addr) (ns:List Int) (k:Int),x=.ref q/\xs=[.int k]/\AN K H q (ns.map V.int)/\Ga ns k=true/\Q (.int (ns.idxOf k:Nat)) H
def qu:Na X "list.index" (rIx X.K):=by
 intro pins s σ H x xs v us Q I rx rv h;obtain ⟨q,ns,k,rfl,rfl,hq,hk,hQ⟩:=h;obtain rfl:v=Value.ref q:=rx;obtain ⟨u,rfl,ru⟩:=CC rv;obtain ⟨t,rfl⟩:=ru;obtain ⟨its,r,pl,hz⟩:=I.list hq;unfold Ga at hk;rw [A4] at hk;exact index_list_ints pl.isList (La r) hk.1 (by simpa using hk.2) ⟨.int (ns.idxOf k:Nat),H,I.tok _,⟨_,rfl⟩,hQ⟩
def EC (i:Nat) (g:Fx):Fx:=λ ρ=>match ρ[i]? with
 | some (some (.lst xs,_))=>(match EO xs with
  | some ns=>(g ρ).bind λ (y,_,ρ1)=>(match y with
   | .int k=>if Ga ns k=true then .ok (.int (ns.idxOf k:Nat),om,ρ1) else .no
   | _=>.no)
  | none=>.no)
 | _=>.no
theorem X6 {i:Nat}{g:Fx}{σ:St}{H:Hp}{Q:VK} (hmi:M.Ms i=false) (hq:tE M (EC i g) (i::vs) σ H Q):Ka M.K "list" (rIx M.K) (BE i) (GK (tE M g vs) CY) σ H Q:=by
 obtain ⟨ρ,fps,rep,q⟩:=hq;unfold EC at q;obtain ⟨xs,d,e⟩:∃ xs d,ρ[i]?=some (some (.lst xs,d)):=by
  cases e:ρ[i]? with
  | none=>rw [e] at q;exact q.elim
  | some sl=>
   cases sl with
   | none=>rw [e] at q;exact q.elim
   | some p=>
    obtain ⟨x,d⟩:=p;cases x with
    | lst xs=>exact ⟨xs,d,rfl⟩
    | _=>rw [e] at q;exact q.elim
 rw [e] at q;dsimp only at q;cases en:EO xs with
 | none=>rw [en] at q;exact q.elim
 | some ns=>
  rw [en] at q;dsimp only at q;obtain ⟨v,ev,o⟩:=rep.own i _ d e;obtain ⟨a,ws,rfl,ha,ol⟩:=(Own.freeze (Z':=λ _=>False) (λ _ z=>z.elim) _ d v _ (λ _ _ z=>z) o).coldL
  have:=Fi en ol
  subst this;refine ⟨.ref a,ev,.inl ⟨rfl,_,.inl (.inl ha)⟩,?_⟩;show tE M g vs σ H λ y H2=>rIx M.K (.ref a) [y] H2 Q;refine ⟨ρ,fps,rep,?_⟩;cases eg:g ρ with
  | no=>rw [eg] at q;exact q
  | exc c=>rw [eg] at q;exact q
  | ok p=>
   obtain ⟨y,e',ρ1⟩:=p;rw [eg] at q;dsimp only [Rz.bind] at q ⊢;intro w H2 fps2 fp k2 g2 rep2 o2 t2;cases y with
   | int k=>
    dsimp only at q;by_cases hk:Ga ns k=true
    ·rw [if_pos hk] at q;rw [Own] at o2;obtain ⟨rfl,rfl⟩:=o2;obtain ⟨v2,ev2,o3⟩:=rep2.own i _ d (by rw [g2.1 i hmi];exact e);rw [ev] at ev2;cases ev2;obtain ⟨a2,ws2,e5,ha2,ol2⟩:=(Own.freeze (Z':=λ _=>False) (λ _ z=>z.elim) _ d _ _ (λ _ _ z=>z) o3).coldL;cases e5
     have:=Fi en ol2
     subst this;refine ⟨a,ns,k,rfl,rfl,.inl (.inl ha2),hk,q _ H2 fps2 [] k2 g2 rep2 (by rw [Own];exact ⟨rfl,rfl⟩) ⟨λ _ z=>(nomatch z),λ _ z=>nomatch z⟩⟩
    ·rw [if_neg hk] at q;exact q.elim
   | _=>exact q.elim
def Xw {i:Nat}{g:Fx}{o:Expr}{apos cpos:Pos} (hK:M.K=X.K) (hmi:M.Ms i=false) (ho:PE X o (BE i)) (he:PE X e (tE M g vs)) (hb:JQ o "index" X.env (eval o X.env)=eval o X.env) (hs:As [e] X.env=[(false,eval e X.env)])
  (hf:((BP cpos (As [e] X.env)).all (λ x=>!x.1) && (Ht cpos (Hw [] X.env)).all (λ x=>x.1.isSome) && decide (([e]:List Expr).length + ([]:List Ea).length + (if ([]:List Ea).isEmpty then 0 else 1) < 30))=true) (hl:(apos.endLine == cpos.line)=true):
  PE X (.Call (.Attribute o "index" apos) [e] [] cpos) (tE M (EC i g) (i::vs)):=by
 refine AO (Kt O7 PySem.F.slot_list_index PySem.F.type_list_index qu ho (Dg he DU hs) hb hf hl hs rfl) λ σ H Q h=>?_;rw [<- hK];exact X6 hmi h
end
abbrev D2:=Fx×List Nat
def DD (d:Expr->Option D2):List Expr->Option (Fa×List Nat)
 | []=>some (Ad,[])
 | e::es=>match d e,DD d es with
  | some (f,v),some (fa,u)=>some (Ah f fa,v++u)
  | _,_=>none
def MC (d:Expr->Option D2):List Expr->Option D2
 | []=>none
 | [e]=>d e
 | e::es=>match d e,MC d es with
  | some (f,v),some (g,u)=>some (CD f g,v++u)
  | _,_=>none
def Mw (d:Expr->Option D2):List Expr->Option D2
 | []=>none
 | [e]=>d e
 | e::es=>match d e,Mw d es with
  | some (f,v),some (g,u)=>some (BU f g,v++u)
  | _,_=>none
def KH:Const->Option D2
 | .int i=>some (bC (.int i),[])
 | .bool b=>some (bC (.bl b),[])
 | .none=>some (bC .non,[])
 | .str x=>some (bC (.str x),[])
 | _=>none
def HD (x:Str):Option String:=if x = "int" then some "int" else if x = "bool" then some "bool" else if x = "str" then some "str" else if x = "list" then some "list" else if x = "tuple" then some "tuple" else if x = "dict" then some "dict" else none
def OK (x:Str):Option (List (PV×Nat)->Option (PV×Nat)):=
 if x = "len" then some Dn else if x = "all" then some Em else if x = "max" then some JF else if x = "min" then some ON else if x = "sum" then some OP
 else if x = "tuple" then some IJ else if x = "list" then some J4 else if x = "int" then some GG else if x = "sorted" then some L6 else if x = "abs" then some OM else if x = "str" then some OO else none
def DV (scope sc:AW):AW:={ scope with names:=scope.names.map λ (n,k)=>if (k == .free && sc.kind == .function && sc.names.lookup n == some .cell) then (n,.cell) else (n,k) }
def P2 (i:Nat):Str:=⟨#[2000000 + i]⟩
def GU (sc':AW):Nat->List Str->List Str
 | _,[]=>[]
 | i,x::r=>(if CV sc' x .cell || CV sc' x .free then x else P2 i)::GU sc' (i + 1) r
def Lq:List Expr->Option (List Str)
 | []=>some []
 | .Name x _::r=>(Lq r).map (x::·)
 | _=>none
def LU (n:Nat):Expr->Option (List Str×(PV->Ae->Option Ae))
 | .Name x _=>some ([x],Aj n)
 | .Tuple es _ _=>(Lq es).map λ xs=>(xs,CM (Jb n xs.length))
 | _=>none
def K9:Expr->Bool
 | .Tuple _ _ _=>true
 | _=>false
def AM (S:Sx) (scope:AW) (xs:List Str) (vI:List Nat):Sx:=⟨GU (DV scope S.sc) 0 S.N++xs,DV scope S.sc,S.ms,(AY S.N.length).map S.alF++AH xs.length vI,S.Γ,S.Γm,false,S.xc,S.pn⟩
def Lm (S:Sx) (scope:AW) (xs:List Str) (vI:List Nat):Bool:=
 let S':=AM S scope xs vI;decide (scope.kind=.function) && scope.names.all (λ x=>x.2 != .free || !(scope.names.contains (x.1,.cell))) && scope.names.all (λ x=>x.2 != .local || scope.names.lookup x.1 == some .local)
 && scope.names.all (λ x=>x.2 != .free || (S.sc.names.lookup x.1 == some .cell || S.sc.names.lookup x.1 == some .free))
 && (AY S.N.length).all (λ i=>match S'.N[i]? with
  | some x=>!CI S'.sc x || (decide (S.N[i]?=some x) && CI S.sc x && scope.names.contains (x,.free) && !CV S'.sc x .local)
  | none=>true)
 && decide S'.N.Nodup && xs.all (λ x=>CV S'.sc x .local || (CV S'.sc x .cell && scope.names.contains (x,.cell))) && decide (S.N.length≠0) && (S.ms.all λ i=>decide (i < S.N.length))
inductive Iw where
 | rng (en:List (PV×Nat)->Option (Int×Int)) (fa:Fa) (vs:List Nat)
 | seq (f:Fx) (vs:List Nat)
 | vw (v:Vw) (fa:Fa) (vs:List Nat)
def Iw.vs:Iw->List Nat
 | .rng _ _ _=>[]
 | .seq _ vs=>vs
 | .vw _ _ vs=>vs
def Ew (tg:Expr):Iw->Bool
 | .vw .enm _ _=>K9 tg
 | .vw .zp _ _=>K9 tg
 | _=>true
def DP (d:Expr->Option D2) (S:Sx) (it:Expr):Option Iw:=match it with
 | .Call (.Name x _) [a] [] _=>if x = "range" /\ S.glob "range" = true then (match DD d [a] with
   | some (fa,vs)=>some (.rng BB fa vs)
   | none=>none) else if x = "reversed" /\ S.glob "reversed" = true then (match DD d [a] with
   | some (fa,vs)=>some (.vw .rev fa vs)
   | none=>none) else if x = "enumerate" /\ S.glob "enumerate" = true then (match DD d [a] with
   | some (fa,vs)=>some (.vw .enm fa vs)
   | none=>none) else (match d it with
   | some (f,vs)=>some (.seq f vs)
   | none=>none)
 | .Call (.Name x _) [a,b] [] _=>if x = "range" /\ S.glob "range" = true then (match DD d [a,b] with
   | some (fa,vs)=>some (.rng CO fa vs)
   | none=>none) else if x = "zip" /\ S.glob "zip" = true then (match DD d [a,b] with
   | some (fa,vs)=>some (.vw .zp fa vs)
   | none=>none) else (match d it with
   | some (f,vs)=>some (.seq f vs)
   | none=>none)
 | _=>match d it with
   | some (f,vs)=>some (.seq f vs)
   | none=>none
def Kh (iw:Iw) (k:Nat) (asg:PV->Ae->Option Ae) (test:Fb) (elt:Fx):Fx:=match iw with
 | .rng en fa _=>CF en fa k asg test elt
 | .seq f _=>BK f k asg test elt
 | .vw v fa _=>Hn v fa k asg test elt
def BJ:Fb:=λ ρ=>.ok (true,ρ)
def MD (d:Expr->Option D2):List Expr->Option Fb
 | []=>some BJ
 | [c]=>(d c).map λ p=>bT p.1
 | _=>none
def Sy:Expr->Bool
 | .UnaryOp .USub c _=>(match c with
  | .Constant k _ _=>(match k with
   | .int i=>i == 1
   | _=>false)
  | _=>false)
 | _=>false
def jA {e:Expr} (h:Sy e=true):∃ k p3 p4,e=.UnaryOp .USub (.Constant (.int 1) k p3) p4:=by
 unfold Sy at h;split at h
 ·split at h
  ·split at h
   ·rename_i i
    have:i=1:=eq_of_beq h
    subst this;exact ⟨_,_,_,rfl⟩
   ·cases h
  ·cases h
 ·cases h
def FQ:Expr->Option Str
 | .Name x _=>some x
 | _=>none
def GO {e:Expr}{x:Str} (h:FQ e=some x):∃ p,e=.Name x p:=by
 cases e <;> first | (cases h;exact ⟨_,rfl⟩) | (cases h)
def MU:Expr->Option Int
 | .Constant c _ _=>(match c with
  | .int i=>some i
  | _=>none)
 | _=>none
def SA {e:Expr}{i:Int} (h:MU e=some i):∃ k p,e=.Constant (.int i) k p:=by
 unfold MU at h;split at h
 ·split at h
  ·cases h;exact ⟨_,_,rfl⟩
  ·cases h
 ·cases h
def Ti (d:Sx->Expr->Option D2) (S:Sx) (a:Expr):Option Expr->Option Expr->Option Expr->Option D2
 | none,some hi,none=>match d S a,d S hi with
  | some (f,v),some (g,_)=>some (KJ f none (some g),v)
  | _,_=>none
 | some lo,none,none=>match d S a,d S lo with
  | some (f,v),some (g,_)=>some (KJ f (some g) none,v)
  | _,_=>none
 | some lo,some hi,none=>match d S a,d S lo,d S hi with
  | some (f,v),some (g,_),some (h,_)=>some (KJ f (some g) (some h),v)
  | _,_,_=>none
 | _,_,_=>none
def Tj (d:Sx->Expr->Option D2) (S:Sx) (a b:Expr):Option D2:=match b with
 | .Slice lo hi st _=>Ti d S a lo hi st
 | b=>match FQ a,MU b with
  | some x,some i=>(match S.slot x with
   | some j=>if S.msF j=true then none else some (Ab A7 (Aa j) (bC (.int i)),(j::S.alF j)++[])
   | none=>none)
  | _,_=>match d S a,d S b with
   | some (f,v),some (g,u)=>if Iz b=true then some (Ab A7 f g,v++u) else none
   | _,_=>none
def Mv (S:Sx) (T:Str):Option Nat:=if S.glob T=true/\S.xc≠[] then (if T = "ValueError" then some 0 else match XN.findIdx? (·== T) with
 | some c=>if S.xc.contains c=true then some c else none
 | none=>none) else none
def MA (S:Sx):List Expr->Option (List Nat)
 | []=>some []
 | e::r=>match FQ e,MA S r with
  | some T,some ds=>(Mv S T).map (·::ds)
  | _,_=>none
def Te (d:Expr->Option D2) (S:Sx) (e c:Expr):Option D2:=match d e with
 | some (f,v)=>if S.glob "isinstance" = true then (match c with
  | .Name T _=>(match HD T with
   | some t=>if S.glob T=true then some (AS (ER t) f,v) else none
   | none=>(Mv S T).map λ n=>(AS (II [n]) f,v))
  | .Tuple es _ _=>if es.length<=100/\es≠[] then (MA S es).map λ ns=>(AS (II ns) f,v) else none
  | _=>none) else none
 | none=>none
def KG (S:Sx) (x:Str):Option D2:=match CN.findIdx? (λ p=>p.1 == x) with
 | some k=>if S.xc.contains (50 + k)=true/\S.glob x=true then (CN[k]?).map λ p=>(bC p.2,[]) else none
 | none=>none
def WL:Expr->Bool
 | .Name _ _=>true
 | .Constant _ _ _=>true
 | _=>false
def Tf (d:Expr->Option D2) (o e:Expr) (at':Str) (ok:Bool):Option D2:=match d o,d e with
 | some (f,v),some (g,u)=>if WL o=true/\ok=true then (if at' = "join" then some (DQ Pp f g,v++u) else if at' = "split" then some (DQ NO f g,v++u) else none) else none
 | _,_=>none
def RX (S:Sx) (o:Expr) (at':Str):Option Nat:=if at' = "index" then (match FQ o with
 | some x=>(match S.slot x with
  | some i=>if S.msF i=false then some i else none
  | none=>none)
 | none=>none) else none
def Ff (d:Sx->Expr->Option D2) (S:Sx):Expr->Option D2
 | .Constant c _ _=>KH c
 | .Name x _=>match S.slot x with
  | some i=>if S.msF i=true then none else some (Aa i,i::S.alF i)
  | none=>KG S x
 | .BinOp a op b _=>match d S a,d S b,RY b op with
  | some (f,v),some (g,u),some o=>some (Ab o f g,v++u)
  | _,_,_=>none
 | .UnaryOp .USub a _=>match d S a with
  | some (f,v)=>some (AS Ly f,v)
  | none=>none
 | .UnaryOp .Not a _=>match d S a with
  | some (f,v)=>some (AS CQ f,v)
  | none=>none
 | .BoolOp .And es _=>MC (d S) es
 | .BoolOp .Or es _=>Mw (d S) es
 | .IfExp t a b _=>match d S t,d S a,d S b with
  | some (c,_),some (f,v),some (g,u)=>some (Bn (bT c) f g,v++u)
  | _,_,_=>none
 | .Compare a [op] [b] _=>match d S a,d S b,OL b op with
  | some (f,v),some (g,u),some o=>some (Ab o f g,v++u)
  | _,_,_=>none
 | .Compare a [op,op'] [b,c] _=>match d S a,d S b,d S c,E6 op,E6 op' with
  | some (f,_),some (g,_),some (h,_),some p,some q=>some (EJ p q f g h,[])
  | _,_,_,_,_=>none
 | .List es _=>match DD (d S) es with
  | some (fa,v)=>some (Aq Bo fa,v)
  | none=>none
 | .Tuple es _ _=>match DD (d S) es with
  | some (fa,v)=>some (Aq GD fa,v)
  | none=>none
 | .Subscript a b _=>Tj d S a b
 | .Call (.Name x _) [e] [⟨some k,e2,_⟩] _=>(match d S e,FQ e2 with
  | some (f,v),some g=>(match S.Γ.lookup g with
   | some (false,n,F)=>if x = "sorted" /\ k = "key" /\ n=1/\S.glob "sorted" = true/\S.glob g=true then some (Aq (J8 F) (Ah f Ad),v++[]) else none
   | _=>none)
  | _,_=>none)
 | .Call (.Name x _) args [] _=>
  if x = "isinstance" then (match args with
   | [e,c]=>Te (d S) S e c
   | _=>none)
  else match OK x with
  | some o=>(match args with
   | e::es=>(match DD (d S) (e::es) with
    | some (fa,v)=>if S.glob x=true then some (Aq o fa,v) else none
    | none=>none)
   | []=>none)
  | none=>match S.Γ.lookup x with
   | some (false,_,F)=>(match args with
    | e::es=>(match DD (d S) (e::es) with
     | some (fa,v)=>if S.glob x=true then some (Az F fa,v) else none
     | none=>none)
    | []=>none)
   | some (true,_,F)=>none
   | none=>(match S.Γm.lookup x with
    | some F=>(match args with
     | [.Name y _]=>(match S.slot y with
      | some i=>if S.glob x=true/\S.msF i=true then some (NF F i,[]) else none
      | none=>none)
     | _=>none)
    | none=>none)
 | .Call (.Attribute o at' apos) [e] [] cpos=>(match RX S o at',d S e with
  | some i,some (g,u)=>if (apos.endLine == cpos.line)=true then some (EC i g,i::u) else none
  | _,_=>Tf (d S) o e at' (apos.endLine == cpos.line))
 | .ListComp elt [⟨tg,it,ifs,0⟩] scope _=>match LU S.N.length tg,DP (d S) S it with
  | some (xs,asg),some iw=>if Lm S scope xs iw.vs=true/\Ew tg iw=true then (match MD (d (AM S scope xs iw.vs)) ifs,d (AM S scope xs iw.vs) elt with
   | some t,some (g,vE)=>some (Kh iw xs.length asg t g,iw.vs++vE.filter (λ i=>decide (i < S.N.length)))
   | _,_=>none) else none
  | _,_=>none
 | _=>none
def Be:Nat->Sx->Expr->Option D2
 | 0,_,_=>none
 | n + 1,S,e=>Ff (Be n) S e
section
variable {X:Cx}{P:A0}{w:Ay}{K:Frag}{mg:Str->Option Ac}{base:Heap}{lvl:Nat}{S:Sx}{Wx:St->Nat->Hp->Prop}{M:Fm}{f g:Fx}{vs vs':List Nat}{σ:St}{H:Hp}{Q:VK}
def Zg {Q:Bool->Hp->Prop} (hq:tT M (bT (CD f g)) σ H Q):HH (tT M (bT f)) (tT M (bT g)) σ H Q:=by
 refine Ys ?_;have e:bT (CD f g)=Gh (bT f) (bT g):=by
  funext ρ;unfold bT CD Gh;dsimp only;cases f ρ with
  | no=>rfl
  | exc c=>rfl
  | ok p=>
   obtain ⟨x,d,ρ1⟩:=p;cases x with
   | bl b=>cases b <;> rfl
   | _=>rfl
 rw [<- e];exact hq
def Yv {Q:Bool->Hp->Prop} (hq:tT M (bT (BU f g)) σ H Q):OD (tT M (bT f)) (tT M (bT g)) σ H Q:=by
 refine WI ?_;have e:bT (BU f g)=MX (bT f) (bT g):=by
  funext ρ;unfold bT BU MX;dsimp only;cases f ρ with
  | no=>rfl
  | exc c=>rfl
  | ok p=>
   obtain ⟨x,d,ρ1⟩:=p;cases x with
   | bl b=>cases b <;> rfl
   | _=>rfl
 rw [<- e];exact hq
def Zi {Q:Bool->Hp->Prop} (hq:tT M (bT (AS CQ f)) σ H Q):HG (tT M (bT f)) σ H Q:=by
 refine Yu ?_;have e:bT (AS CQ f)=Gg (bT f):=by
  funext ρ;unfold bT AS Gg;dsimp only;cases f ρ with
  | no=>rfl
  | exc c=>rfl
  | ok p=>
   obtain ⟨x,d,ρ1⟩:=p;cases x with
   | bl b=>cases b <;> rfl
   | _=>rfl
 rw [<- e];exact hq
def A6 (P:A0) (w:Ay) (K:Frag) (mg:Str->Option Ac) (base:Heap) (lvl:Nat) (S:Sx) (e:Expr) (f:Fx) (vs:List Nat):Prop:=
 (∀ i∈vs,S.msF i=false)/\Hk e=true/\∀ {Wx} X M,XS X P w K mg base lvl S Wx->MS M K S Wx->PE X e (tE M f vs)/\PT X e (tT M (bT f))
def MS.v (m:MS M K S Wx) (h:∀ i∈vs,S.msF i=false):∀ i∈vs,M.Ms i=false:=λ i hi=>by rw [m.ms];exact h i hi
def MS.k (m:MS M K S Wx) (xs:XS X P w K mg base lvl S Wx):M.K=X.K:=m.K.trans xs.K.symm
def BL {e:Expr} (h1:∀ i∈vs,S.msF i=false) (h2:Hk e=true) (h3:∀ env whole,isTrue e env whole=(do let v<-whole;standAt e.pos;holding [v] (truthy v)))
  (h:∀ {Wx} X M,XS X P w K mg base lvl S Wx->MS M K S Wx->PE X e (tE M f vs)):A6 P w K mg base lvl S e f vs:=
 ⟨h1,h2,λ X M xs m=>⟨h X M xs m,ID (Xf (h X M xs m) λ wh=>h3 _ wh) λ σ H Q q=>Pu q⟩⟩
def DC {vs vs':List Nat} (h1:∀ i∈vs,S.msF i=false) (h2:∀ i∈vs',S.msF i=false):∀ i∈vs++vs',S.msF i=false:=λ i hi=>(jc2.mp hi).elim (h1 i) (h2 i)
def ZG {a b:Expr}{op:DF}{o:PV->Nat->PV->Nat->Option (PV×Nat)}{pos:Pos} (ho:OL b op=some o) (ga:A6 P w K mg base lvl S a f vs) (gb:A6 P w K mg base lvl S b g vs'):A6 P w K mg base lvl S (.Compare a [op] [b] pos) (Ab o f g) (vs++vs'):=by
 refine ⟨DC ga.1 gb.1,rfl,λ X M xs m=>?_⟩;obtain ⟨r,hr,hn,hi⟩:=Z2 (X:=X) (M:=M) (f:=f) (g:=g) (vs:=vs) (vs':=vs') ho xs.room.units (m.v ga.1) (m.k xs);have ha:=(ga.2.2 X M xs m).1;have hb:=(gb.2.2 X M xs m).1;exact ⟨AO (Y7 hr ha hb hn) hi,ID (YC hr ha hb hn) λ σ H Q q=>hi σ H _ (Pu q)⟩
def xD {a b c:Expr}{op op':DF}{p q:Int->Int->Bool}{h:Fx}{v3:List Nat}{pos:Pos} (h1:E6 op=some p) (h2:E6 op'=some q) (ga:A6 P w K mg base lvl S a f vs) (gb:A6 P w K mg base lvl S b g vs') (gc:A6 P w K mg base lvl S c h v3):A6 P w K mg base lvl S (.Compare a [op,op'] [b,c] pos) (EJ p q f g h) []:=by
 refine ⟨λ _ z=>(nomatch z),rfl,λ X M xs m=>?_⟩;have r1:=Rx (X:=X) h1;have r2:=Rx (X:=X) h2;have ha:=(ga.2.2 X M xs m).1;have hb:=(gb.2.2 X M xs m).1;have hc:=(gc.2.2 X M xs m).1;exact ⟨AO (ZS r1.1 r2.1 ha hb hc (GC _ r2.2.1 r2.2.2)) λ σ H Q q=>Ri q,ID (ZZ r1.1 r2.1 ha hb hc (GC _ r2.2.1 r2.2.2)) λ σ H Q q=>Ri (vs:=[]) (Pu q)⟩
def ZH {a:Expr}{pos:Pos} (ga:A6 P w K mg base lvl S a f vs):A6 P w K mg base lvl S (.UnaryOp .Not a pos) (AS CQ f) vs:=
 ⟨ga.1,rfl,λ X M xs m=>⟨AO (WV (ga.2.2 X M xs m).1) λ σ H Q q=>YY q,ID (Xe (ga.2.2 X M xs m).2) λ σ H Q q=>Zi q⟩⟩
theorem Rr {d:Expr->Option D2} (hd:∀ e f vs,d e=some (f,vs)->A6 P w K mg base lvl S e f vs) {pos:Pos}:∀ (es:List Expr) (f:Fx) (vs:List Nat),MC d es=some (f,vs)->(∀ i∈vs,S.msF i=false)/\∀ {Wx} X M,XS X P w K mg base lvl S Wx->MS M K S Wx->PE X (.BoolOp .And es pos) (tE M f vs)/\PW X (.BoolOp .And es pos) (tT M (bT f))
 | [],f,vs,h=>by cases h
 | [e],f,vs,h=>by
  have g:=hd e f vs h;exact ⟨g.1,λ X M xs m=>⟨SI (g.2.2 X M xs m).1,YF (g.2.2 X M xs m).2⟩⟩
 | e::e'::es,f,vs,h=>by
  unfold MC at h;split at h
  ·rename_i f1 v1 f2 v2 h1 h2;cases h;have g1:=hd e f1 v1 h1;have g2:=Rr hd (pos:=pos) (e'::es) f2 v2 h2;exact ⟨DC g1.1 g2.1,λ X M xs m=>⟨AO (WS (g1.2.2 X M xs m).1 (g2.2 X M xs m).1) λ σ H Q q=>YW q,SO (Xg (g1.2.2 X M xs m).2 (g2.2 X M xs m).2) λ σ H Q q=>Zg q⟩⟩
  ·cases h
theorem Up {d:Expr->Option D2} (hd:∀ e f vs,d e=some (f,vs)->A6 P w K mg base lvl S e f vs) {pos:Pos}:∀ (es:List Expr) (f:Fx) (vs:List Nat),Mw d es=some (f,vs)->(∀ i∈vs,S.msF i=false)/\∀ {Wx} X M,XS X P w K mg base lvl S Wx->MS M K S Wx->PE X (.BoolOp .Or es pos) (tE M f vs)/\PW X (.BoolOp .Or es pos) (tT M (bT f))
 | [],f,vs,h=>by cases h
 | [e],f,vs,h=>by
  have g:=hd e f vs h;exact ⟨g.1,λ X M xs m=>⟨SI (g.2.2 X M xs m).1,Xh (g.2.2 X M xs m).2⟩⟩
 | e::e'::es,f,vs,h=>by
  unfold Mw at h;split at h
  ·rename_i f1 v1 f2 v2 h1 h2;cases h;have g1:=hd e f1 v1 h1;have g2:=Up hd (pos:=pos) (e'::es) f2 v2 h2;exact ⟨DC g1.1 g2.1,λ X M xs m=>⟨AO (Wj (g1.2.2 X M xs m).1 (g2.2 X M xs m).1) λ σ H Q q=>X7 q,SO (Wm (g1.2.2 X M xs m).2 (g2.2 X M xs m).2) λ σ H Q q=>Yv q⟩⟩
  ·cases h
theorem Ek {d:Expr->Option D2} (hd:∀ e f vs,d e=some (f,vs)->A6 P w K mg base lvl S e f vs):∀ (es:List Expr) (fa:Fa) (vs:List Nat),DD d es=some (fa,vs)->(∀ i∈vs,S.msF i=false)/\es.all Hk=true/\∀ {Wx} X M,XS X P w K mg base lvl S Wx->MS M K S Wx->PA X es (tL M fa vs)
 | [],fa,vs,h=>by cases h;exact ⟨λ _ z=>(nomatch z),rfl,λ X M _ _=>XI⟩
 | e::es,fa,vs,h=>by
  unfold DD at h;split at h
  ·rename_i f1 v1 f2 v2 h1 h2;cases h;have g1:=hd e f1 v1 h1;have g2:=Ek hd es f2 v2 h2;exact ⟨DC g1.1 g2.1,by rw [FU,g1.2.1,g2.2.1];rfl,λ X M xs m=>Zq (m.v g1.1) (g1.2.2 X M xs m).1 (g2.2.2 X M xs m) (Cm (Cn g1.2.1))⟩
  ·cases h
def N7 (scope:AW) (env:Env):GW scope env=DV scope env.scope:=rfl
theorem Np {x:Str}{k:CJ}{sc:AW}:∀ (l:List (Str×CJ)),(k=.cell\/k=.free)->(l.map λ (n,k)=>if (k == NameKind.free && sc.kind == .function && sc.names.lookup n == some .cell) then (n,NameKind.cell) else (n,k)).lookup x=some k->(x,NameKind.free)∈l\/(x,NameKind.cell)∈l
 | [],_,h=>by simp at h
 | (n,j)::r,hk,h=>by
  rw [BH] at h;have ih:=Np (x:=x) (k:=k) (sc:=sc) r hk;dsimp only at h;by_cases hj:(j == NameKind.free && sc.kind == .function && sc.names.lookup n == some .cell)=true
  ·rw [if_pos hj,DM] at h;split at h
   ·rename_i hx;rw [A4,A4] at hj;have e1:x=n:=eq_of_beq hx;have e2:j=.free:=eq_of_beq hj.1.1;rw [e1,e2];exact .inl AI
   ·exact (ih h).imp (AB _) (AB _)
  ·rw [if_neg hj,DM] at h;split at h
   ·rename_i hx;have e1:x=n:=eq_of_beq hx;have e2:j=k:=Option.some.inj h;rcases hk with z | z
    ·rw [e1,e2,z];exact .inr AI
    ·rw [e1,e2,z];exact .inl AI
   ·exact (ih h).imp (AB _) (AB _)
theorem Io (sc':AW):∀ (N:List Str) (i:Nat),(GU sc' i N).length=N.length
 | [],_=>rfl
 | x::r,i=>by rw [GU,Cf,Io sc' r (i + 1),Cf]
structure ChkOk (S:Sx) (scope:AW) (xs:List Str) (vI:List Nat):Prop where
 kind:scope.kind=.function
 dis:∀ x,(x,NameKind.free)∈scope.names->(x,NameKind.cell)∉scope.names
 names:∀ x∈scope.names,x.2=.local->scope.names.lookup x.1=some .local
 free:∀ x∈scope.names,x.2=.free->S.sc.names.lookup x.1=some .cell\/S.sc.names.lookup x.1=some .free
 capt:∀ (i:Nat) (x:Str),i < S.N.length->(AM S scope xs vI).N[i]?=some x->Hg (DV scope S.sc) x->S.N[i]?=some x/\Hg S.sc x/\(x,NameKind.free)∈scope.names/\(DV scope S.sc).names.lookup x≠some .local
 nd:(AM S scope xs vI).N.Nodup
 loc:∀ x∈xs,(DV scope S.sc).names.lookup x=some .local\/((DV scope S.sc).names.lookup x=some .cell/\(x,NameKind.cell)∈scope.names)
 pos:S.N.length≠0
 ms:∀ i∈S.ms,i < S.N.length
def Zl {sc:AW}{x:Str} (h:Hg sc x):CI sc x=true:=by
 unfold CI CV;rcases h with h | h | h <;> rw [h] <;> simp
def Ta {scope:AW}{xs:List Str}{vI:List Nat} (h:Lm S scope xs vI=true):ChkOk S scope xs vI:=by
 unfold Lm at h;simp only [A4,decide_eq_true_eq,jb8,bne_iff_ne,ne_eq,E4] at h;obtain ⟨⟨⟨⟨⟨⟨⟨⟨h1,h2⟩,h3⟩,h4⟩,h5⟩,h6⟩,h7⟩,h8⟩,h9⟩:=h;refine ⟨h1,λ x hx hz=>(h2 (x,.free) hx).elim (λ z=>z rfl) λ z=>?_,λ x hx he=>(h3 x hx).elim (λ z=>absurd he z) λ z=>eq_of_beq z,λ x hx he=>(h4 x hx).elim (λ z=>absurd he z) λ z=>z.elim (λ z=>.inl (eq_of_beq z)) λ z=>.inr (eq_of_beq z),λ i x hi e hv=>?_,h6,λ x hx=>(h7 x hx).imp Gz λ z=>⟨Gz z.1,by simpa using z.2⟩,h8,h9⟩
 ·have z':(!(scope.names.contains (x,NameKind.cell)))=true:=z
  have:scope.names.contains (x,NameKind.cell)=true:=by simpa using hz
  rw [this] at z';cases z'
 have q:=h5 i (jc6.mpr hi);rw [e] at q;dsimp only at q;rw [E4] at q;rcases q with q | q
 ·have:CI (DV scope S.sc) x=true:=Zl hv
  have q':(!CI (DV scope S.sc) x)=true:=q;rw [this] at q';cases q'
 ·simp only [A4,decide_eq_true_eq,UU] at q;obtain ⟨⟨⟨q1,q2⟩,q3⟩,q4⟩:=q;refine ⟨q1,Tp q2,by simpa using q3,λ z=>?_⟩
  have:CV (DV scope S.sc) x .local=true:=by unfold CV;rw [z];simp
  have q4':CV (DV scope S.sc) x .local=false:=q4;rw [this] at q4';cases q4'
def ChkOk.comp {scope:AW}{ys:List Str}{vI:List Nat} (c:ChkOk S scope ys vI) (xs:XS X P w K mg base lvl S Wx):CompOk X scope (AM S scope ys vI).N ys.length where
 kind:=c.kind
 dis:=c.dis
 names:=c.names
 len:=by
  show (GU _ 0 S.N++ys).length=_;rw [BR,Io,xs.N]
 free:=λ x hx he=>by
  show X.env.scope.names.lookup x.1=_\/X.env.scope.names.lookup x.1=_;rw [xs.sc];exact c.free x hx he
 kinds:=λ x h=>by
  rcases h with h | h
  ·exact Np (sc:=X.env.scope) scope.names (.inl rfl) h
  ·exact Np (sc:=X.env.scope) scope.names (.inr rfl) h
 capt:=λ i x hi e hv=>by
  rw [N7,xs.sc] at hv ⊢;rw [xs.N] at hi ⊢;exact c.capt i x hi e hv
def ChkOk.xs {scope:AW}{ys:List Str}{vI:List Nat} (c:ChkOk S scope ys vI) (xs:XS X P w K mg base lvl S Wx) (s2:Af) (H2:Hp) (C:Addr) (fp:List Addr) (pins:List (Addr×Obj)):XS (Bc X s2 H2 scope C (AM S scope ys vI).N fp pins) P w K mg base lvl (AM S scope ys vI) W0:=
 ⟨xs.prog,xs.w,xs.K,xs.mg,xs.base,rfl,by show GW scope X.env=_;rw [N7,xs.sc];rfl,xs.calm,xs.room,xs.sl,PassesOwn.never,WR,λ h=>nomatch h⟩
def N2 {scope:AW}{ys:List Str}{vI:List Nat} (i:Nat):(AM S scope ys vI).alF i=if i < S.N.length then S.alF i else if i < S.N.length + ys.length then vI else []:=by
 unfold Sx.alF AM;dsimp only;rw [BS];by_cases h:i < S.N.length
 ·rw [Di (by simpa using h),if_pos h];simp [h,Sx.alF,BS]
 ·rw [Hf (by simpa using h),if_neg h,He];simp only [AF,UT];by_cases h2:i < S.N.length + ys.length
  ·rw [if_pos h2,if_pos (by omega)];rfl
  ·rw [if_neg h2,if_neg (by omega)];rfl
def ChkOk.ms' {scope:AW}{ys:List Str}{vI:List Nat} (c:ChkOk S scope ys vI) (m:MS M K S Wx) (hv:∀ i∈vI,S.msF i=false) (D:Addr):MS (M.comp D S.N.length vI) K (AM S scope ys vI) W0 where
 W:=rfl
 K:=m.K
 ms:=m.ms
 al:=λ i hi=>by
  rw [N2];show (if i < S.N.length then M.al i else vI)=_;have hl:(AM S scope ys vI).N.length=S.N.length + ys.length:=by
   show (GU _ 0 S.N++ys).length=_;rw [BR,Io]
  rw [hl] at hi;by_cases h:i < S.N.length
  ·rw [if_pos h,if_pos h];exact m.al i h
  ·rw [if_neg h,if_neg h,if_pos hi]
 pn:=λ p hp=>by
  have h:=m.pn p hp;show p.1 < (GU _ 0 S.N++ys).length;rw [BR,Io];omega
 als:=λ i j hj=>by
  have hj':j∈(if i < S.N.length then M.al i else vI):=hj;show M.Ms j=false;by_cases h:i < S.N.length
  ·rw [if_pos h] at hj';exact m.als i j hj'
  ·rw [if_neg h] at hj';rw [m.ms];exact hv j hj'
theorem Lp {n:Nat}{iter:Expr}{env:Env}{f:Fx}{vs:List Nat} (h:(∀ a b c,iter≠.Set a b c)):∀ x,LL iter env x=pure x:=by
 intro x;cases iter with
 | Set a b c=>exact absurd rfl (h a b c)
 | _=>rfl
end
section
variable {X:Cx}{P:A0}{w:Ay}{K:Frag}{mg:Str->Option Ac}{base:Heap}{lvl:Nat}{S:Sx}{Wx:St->Nat->Hp->Prop}{M:Fm}{f g:Fx}{vs vs':List Nat}{σ:St}{H:Hp}{Q:VK}
def Zk {T:Str}{t:String} (h:HD T=some t):t∈Gb/\T∈zzy/\Hy T=some (.type t)/\(T == ("__debug__" : Str))=false/\T ≠ "__name__" := by
 unfold HD at h;split at h
 ·rename_i e;cases h;rw [e];exact ⟨by decide,by decide +kernel,rfl,by decide +kernel,by decide +kernel⟩
 ·split at h
  ·rename_i e;cases h;rw [e];exact ⟨by decide,by decide +kernel,rfl,by decide +kernel,by decide +kernel⟩
  ·split at h
   ·rename_i e;cases h;rw [e];exact ⟨by decide,by decide +kernel,rfl,by decide +kernel,by decide +kernel⟩
   ·split at h
    ·rename_i e;cases h;rw [e];exact ⟨by decide,by decide +kernel,rfl,by decide +kernel,by decide +kernel⟩
    ·split at h
     ·rename_i e;cases h;rw [e];exact ⟨by decide,by decide +kernel,rfl,by decide +kernel,by decide +kernel⟩
     ·split at h
      ·rename_i e;cases h;rw [e];exact ⟨by decide,by decide +kernel,rfl,by decide +kernel,by decide +kernel⟩
      ·cases h
def Xr {x:Str}{o:List (PV×Nat)->Option (PV×Nat)}{e:Expr}{es:List Expr}{fa:Fa}{p pos:Pos} (h:OK x=some o) (xs:XS X P w K mg base lvl S Wx) (m:MS M K S Wx) (hb:∀ x∈zzy,mg x=none) (hg:S.glob x=true) (hs:(e::es).all Hk=true) (ha:PA X (e::es) (tL M fa vs)):
  PE X (.Call (.Name x p) (e::es) [] pos) (tE M (Aq o fa) vs):=by
 rw [FU,A4] at hs;have h1:As (e::es) X.env=(false,eval e X.env)::As es X.env:=Cm (Cn hs.1);have h2:(BP pos (As es X.env)).any (·.1)=false:=NX hs.2;have hm:∀ x∈zzy,X.mg x=none:=λ x hx=>by rw [xs.mg];exact hb x hx
 unfold OK at h;split at h
 ·rename_i ex;cases h;subst ex;exact Xx (m.k xs) (xs.gl hg) (hm _ (by decide +kernel)) ha h1 h2
 ·split at h
  ·rename_i ex;cases h;subst ex;exact Xq xs.calm (xs.gl hg) (hm _ (by decide +kernel)) ha h1 h2
  ·split at h
   ·rename_i ex;cases h;subst ex;exact YO xs.calm (xs.gl hg) (hm _ (by decide +kernel)) ha h1 h2
   ·split at h
    ·rename_i ex;cases h;subst ex;exact YQ xs.calm (xs.gl hg) (hm _ (by decide +kernel)) ha h1 h2
    ·split at h
     ·rename_i ex;cases h;subst ex;exact YT xs.calm (xs.gl hg) (hm _ (by decide +kernel)) ha h1 h2
     ·split at h
      ·rename_i ex;cases h;subst ex;exact YU (m.k xs) (xs.gl hg) (hm _ (by decide +kernel)) ha h1 h2
      ·split at h
       ·rename_i ex;cases h;subst ex;exact YM (m.k xs) (xs.gl hg) (hm _ (by decide +kernel)) ha h1 h2
       ·split at h
        ·rename_i ex;cases h;subst ex;exact Zw (xs.gl hg) (hm _ (by decide +kernel)) ha h1 h2
        ·split at h
         ·rename_i ex;cases h;subst ex;exact YS (xs.gl hg) (hm _ (by decide +kernel)) ha h1 h2 (m.k xs)
         ·split at h
          ·rename_i ex;cases h;subst ex;exact XJ (xs.gl hg) (hm _ (by decide +kernel)) ha h1 h2
          ·split at h
           ·rename_i ex;cases h;subst ex;exact X1 xs.room.units xs.room.gd (m.k xs) (xs.gl hg) (hm _ (by decide +kernel)) ha h1 h2
           ·cases h
def Gn (P:A0) (w:Ay) (K:Frag) (mg:Str->Option Ac) (base:Heap) (lvl:Nat) (S:Sx) (it:Expr) (iw:Iw):Prop:=
 (∀ i∈iw.vs,S.msF i=false)/\(∀ a b c,it≠.Set a b c)/\∀ {Wx} X M,XS X P w K mg base lvl S Wx->MS M K S Wx->∀ tg,(match iw with
  | .rng en fa vs=>(en=BB/\PI X tg it (Mx (tL M fa vs)))\/(en=CO/\PI X tg it (My (tL M fa vs)))
  | .seq f vs=>PI X tg it (E7 M.K (tE M f vs))
  | .vw v fa vs=>Ew tg (.vw v fa vs)=true->PI X tg it (PR v M.K (tL M fa vs)))
def ZI {it:Expr} (g:A6 P w K mg base lvl S it f vs) (hs:∀ a b c,it≠.Set a b c):Gn P w K mg base lvl S it (.seq f vs):=
 ⟨g.1,hs,λ X M xs m tg=>by
  show PI X tg it (E7 M.K (tE M f vs));rw [m.k xs];exact WZ (g.2.2 X M xs m).1⟩
def Ln {d:Expr->Option D2} (hd:∀ e f vs,d e=some (f,vs)->A6 P w K mg base lvl S e f vs) (hset:∀ a b c,d (.Set a b c)=none) (hb:∀ x∈zzy,mg x=none) {it:Expr}{iw:Iw} (h:DP d S it=some iw):Gn P w K mg base lvl S it iw:=by
 have seq:∀ {it:Expr}{iw:Iw},(match d it with
   | some (f,vs)=>some (Iw.seq f vs)
   | none=>none)=some iw->Gn P w K mg base lvl S it iw:=λ {it iw} h=>by
  cases e:d it with
  | none=>rw [e] at h;cases h
  | some p=>
   obtain ⟨f,vs⟩:=p;rw [e] at h;cases h;exact ZI (hd _ _ _ e) λ a b c z=>by rw [z,hset] at e;cases e
 unfold DP at h;split at h
 ·rename_i x p a pos;split at h
  ·rename_i hc;obtain ⟨rfl,hg⟩:=hc;split at h
   ·rename_i fa vs e;cases h;have g:=Ek hd _ _ _ e;refine ⟨λ _ z=>(nomatch z),λ _ _ _ z=>(nomatch z),λ X M xs m tg=>.inl ⟨rfl,?_⟩⟩;have hs:=g.2.1;simp only [FU,K1,Je] at hs;exact xi (xs.gl hg) (by rw [xs.mg];exact hb _ (by decide +kernel)) (g.2.2 X M xs m) (Cm (Cn hs))
   ·cases h
  ·split at h
   ·rename_i hc;obtain ⟨rfl,hg⟩:=hc;split at h
    ·rename_i fa vs e;cases h;have g:=Ek hd _ _ _ e;refine ⟨g.1,λ _ _ _ z=>(nomatch z),λ X M xs m tg _=>?_⟩;have hs:=g.2.1;simp only [FU,K1,Je] at hs;rw [m.k xs];exact WY (xs.gl hg) (by rw [xs.mg];exact hb _ (by decide +kernel)) (g.2.2 X M xs m) (Cm (Cn hs))
    ·cases h
   ·split at h
    ·rename_i hc;obtain ⟨rfl,hg⟩:=hc;split at h
     ·rename_i fa vs e;cases h;have g:=Ek hd _ _ _ e;refine ⟨g.1,λ _ _ _ z=>(nomatch z),λ X M xs m tg ht=>?_⟩;have hs:=g.2.1;simp only [FU,K1,Je] at hs;rw [m.k xs];cases tg with
      | Tuple es k tp=>exact Y8 (xs.gl hg) (by rw [xs.mg];exact hb _ (by decide +kernel)) (g.2.2 X M xs m) (Cm (Cn hs))
      | _=>cases ht
     ·cases h
    ·exact seq h
 ·rename_i x p a b pos;split at h
  ·rename_i hc;obtain ⟨rfl,hg⟩:=hc;split at h
   ·rename_i fa vs e;cases h;have g:=Ek hd _ _ _ e;refine ⟨λ _ z=>(nomatch z),λ _ _ _ z=>(nomatch z),λ X M xs m tg=>.inr ⟨rfl,?_⟩⟩;have hs:=g.2.1;simp only [FU,K1,Je,A4] at hs;have s2:As [b] X.env=[(false,eval b X.env)]:=Cm (Cn hs.2);exact xj (xs.gl hg) (by rw [xs.mg];exact hb _ (by decide +kernel)) (g.2.2 X M xs m) (by rw [Cm (Cn hs.1),s2]) s2
   ·cases h
  ·split at h
   ·rename_i hc;obtain ⟨rfl,hg⟩:=hc;split at h
    ·rename_i fa vs e;cases h;have g:=Ek hd _ _ _ e;refine ⟨g.1,λ _ _ _ z=>(nomatch z),λ X M xs m tg ht=>?_⟩;have hs:=g.2.1;simp only [FU,K1,Je,A4] at hs;have s2:As [b] X.env=[(false,eval b X.env)]:=Cm (Cn hs.2);rw [m.k xs];cases tg with
     | Tuple es k tp=>exact Xa (xs.gl hg) (by rw [xs.mg];exact hb _ (by decide +kernel)) (g.2.2 X M xs m) (by rw [Cm (Cn hs.1),s2]) s2
     | _=>cases ht
    ·cases h
   ·exact seq h
 ·exact seq h
def qK {σ:St}{H:Hp}{Q:Bool->Hp->Prop} (h:∃ M',MS M' K S Wx/\tT M' BJ σ H Q):Q true H:=by
 obtain ⟨M',_,ρ,fps,rep,q⟩:=h;exact q H fps KD.refl Agr.refl rep
structure CompParts (P:A0) (w:Ay) (K:Frag) (mg:Str->Option Ac) (base:Heap) (lvl:Nat) (S:Sx) (scope:AW) (tg:Expr) (ys:List Str) (asg:PV->Ae->Option Ae) (it elt:Expr) (ifs:List Expr) (iw:Iw) (t:Fb) (g:Fx) (vE:List Nat):Prop where
 tga:LU S.N.length tg=some (ys,asg)
 two:Ew tg iw=true
 chk:ChkOk S scope ys iw.vs
 iwo:Gn P w K mg base lvl S it iw
 elt:A6 P w K mg base lvl (AM S scope ys iw.vs) elt g vE
 ifs:∀ {Wx} X M,XS X P w K mg base lvl (AM S scope ys iw.vs) Wx->MS M K (AM S scope ys iw.vs) Wx->Gj X ifs (λ σ H Q=>∃ M',MS M' K (AM S scope ys iw.vs) Wx/\tT M' t σ H Q)
def Tu {scope:AW}{tg:Expr}{ys:List Str}{asg:PV->Ae->Option Ae}{it elt:Expr}{ifs:List Expr}{iw:Iw}{t:Fb}{vE:List Nat} (c:CompParts P w K mg base lvl S scope tg ys asg it elt ifs iw t g vE):∀ i∈iw.vs++vE.filter (λ i=>decide (i < S.N.length)),S.msF i=false:=
 DC c.iwo.1 λ i hi=>c.elt.1 i (ji9.mp hi).1
theorem Qu {X':Cx}:∀ {es:List Expr}{ys:List Str}{n:Nat},Lq es=some ys->X'.N.Nodup->(∀ j y,ys[j]?=some y->X'.N[n + j]?=some y)->(∀ y∈ys,EF X'.env.scope y/\(X'.fn y=true\/X'.env.scope.names.lookup y=some .local))->Jn X' es (IG (Jb n ys.length))/\(D9 es X'.env).length=ys.length/\(D9 es X'.env).findIdx? (·.1)=none
 | [],ys,n,h,_,_,_=>by cases h;exact ⟨TH,rfl,rfl⟩
 | e::es,ys,n,h,hN,hi,hl=>by
  unfold Lq at h;split at h
  ·cases ‹_::_=[]›
  ·rename_i x px r heq;cases heq;obtain ⟨zs,h2,rfl⟩:=ja9.mp h;have hx:=hl x AI;obtain ⟨h1,h3,h4⟩:=Qu (n:=n + 1) h2 hN (λ j y e=>by rw [show n + 1 + j=n + (j + 1) by omega];exact hi (j + 1) y (by simpa using e)) λ y hy=>hl y (AB _ hy);rw [Cf,UM];refine ⟨QY (Lr hN (by have:=hi 0 x rfl;simpa using this) hx.1 hx.2) h1 rfl,by rw [D9,Cf,h3] <;> (intros;contradiction),?_⟩;rw [D9,UX,h4] <;> first | rfl | (intros;contradiction)
  ·cases h
theorem R8 {scope:AW}{tg:Expr}{ys:List Str}{asg:PV->Ae->Option Ae}{pos:Pos}{it elt:Expr}{ifs:List Expr}{iw:Iw}{t:Fb}{vE:List Nat} (c:CompParts P w K mg base lvl S scope tg ys asg it elt ifs iw t g vE) (xs:XS X P w K mg base lvl S Wx) (m:MS M K S Wx):
  ∃ wi gg,PI X tg it wi/\CompOk X scope (AM S scope ys iw.vs).N ys.length/\(∀ s2 H2 C fp pins,PG (Bc X s2 H2 scope C (AM S scope ys iw.vs).N fp pins) tg gg) /\
   (∀ s2 H2 C fp pins,Gj (Bc X s2 H2 scope C (AM S scope ys iw.vs).N fp pins) ifs (λ σ H Q=>∃ M',MS M' K (AM S scope ys iw.vs) W0/\tT M' t σ H Q)) /\
   (∀ s2 H2 C fp pins,PE (Bc X s2 H2 scope C (AM S scope ys iw.vs).N fp pins) elt (λ σ H Q=>∃ M',MS M' K (AM S scope ys iw.vs) W0/\tE M' g vE σ H Q)) /\
   ∀ σ H Q,σ.length=S.N.length->tE M (Kh iw ys.length asg t g) (iw.vs++vE.filter (λ i=>decide (i < S.N.length))) σ H Q ->
    Hr ys.length wi gg (λ σ H Q=>∃ M',MS M' K (AM S scope ys iw.vs) W0/\tT M' t σ H Q) (λ σ H Q=>∃ M',MS M' K (AM S scope ys iw.vs) W0/\tE M' g vE σ H Q) σ H Q:=by
 have hvI:=m.v c.iwo.1;have hP:∀ D,MS (M.comp D S.N.length iw.vs) K (AM S scope ys iw.vs) W0:=λ D=>c.chk.ms' m c.iwo.1 D;have hvE:∀ i∈vE,M.Ms i=false:=λ i hi=>by rw [m.ms];exact c.elt.1 i hi
 have hvo:∀ i,i∈vE->i < S.N.length->i∈iw.vs++vE.filter (λ i=>decide (i < S.N.length)):=λ i h1 h2=>AL _ (ji9.mpr ⟨h1,by simpa using h2⟩);have hvo2:=m.v (Tu c);have bd:∀ D i,S.N.length<=i->Bd (M.comp D S.N.length iw.vs) iw.vs i:=λ D i hi=>⟨by
   show M.Ms i=false;rw [m.ms];unfold Sx.msF;cases e:S.ms.contains i with
   | false=>rfl
   | true=>exact absurd (c.chk.ms _ (by simpa using e)) (by omega),⟨λ _=>by have:=c.chk.pos;omega,λ p hp=>by have:=m.pn p hp;omega⟩,if_neg (by omega),(hP D).als⟩
 have hix:∀ j y,ys[j]?=some y->(AM S scope ys iw.vs).N[S.N.length + j]?=some y:=λ j y e=>by
  show (GU _ 0 S.N++ys)[S.N.length + j]?=some y;rw [Hf (by rw [Io];omega),Io];simpa using e
 have hloc:∀ s2 H2 C fp pins,∀ y∈ys,EF (Bc X s2 H2 scope C (AM S scope ys iw.vs).N fp pins).env.scope y/\((Bc X s2 H2 scope C (AM S scope ys iw.vs).N fp pins).fn y=true\/(Bc X s2 H2 scope C (AM S scope ys iw.vs).N fp pins).env.scope.names.lookup y=some .local):=λ s2 H2 C fp pins y hy=>by
  have e:(Bc X s2 H2 scope C (AM S scope ys iw.vs).N fp pins).env.scope=DV scope S.sc:=by
   show GW scope X.env=_;rw [N7,xs.sc]
  rw [e];rcases c.chk.loc y hy with z | z
  ·exact ⟨.inl z,.inr z⟩
  ·exact ⟨.inr z.1,.inl (by show scope.names.contains (y,NameKind.cell)=true;simpa using z.2)⟩
 have hpe:∀ s2 H2 C fp pins,PE (Bc X s2 H2 scope C (AM S scope ys iw.vs).N fp pins) elt (λ σ H Q=>∃ M',MS M' K (AM S scope ys iw.vs) W0/\tE M' g vE σ H Q):=λ s2 H2 C fp pins pi s σ H Q I ⟨M',m',q⟩=>
  (c.elt.2.2 _ M' (c.chk.xs xs s2 H2 C fp pins) m').1 pi s σ H Q I q
 have hpt:∀ s2 H2 C fp pins,Gj (Bc X s2 H2 scope C (AM S scope ys iw.vs).N fp pins) ifs (λ σ H Q=>∃ M',MS M' K (AM S scope ys iw.vs) W0/\tT M' t σ H Q):=λ s2 H2 C fp pins=>c.ifs _ (M.comp 0 S.N.length iw.vs) (c.chk.xs xs s2 H2 C fp pins) (hP 0);have tgp:∃ is gg,(∀ i∈is,S.N.length<=i)/\(∀ D,Df (M.comp D S.N.length iw.vs) iw.vs is gg asg)/\∀ s2 H2 C fp pins,PG (Bc X s2 H2 scope C (AM S scope ys iw.vs).N fp pins) tg gg:=by
  have ht:=c.tga;unfold LU at ht;split at ht
  ·rename_i y py;cases ht;refine ⟨[S.N.length],ET S.N.length,λ i hi=>by rw [jb2.mp hi];exact AE _,λ D=>Sv (bd D _ (AE _)),λ s2 H2 C fp pins=>?_⟩;exact Lr c.chk.nd (hix 0 y rfl) (hloc s2 H2 C fp pins y (by simp)).1 (hloc s2 H2 C fp pins y (by simp)).2
  ·rename_i es k tp;obtain ⟨zs,h2,e⟩:=ja9.mp ht;cases e;refine ⟨Jb S.N.length ys.length,Ig M.K ys.length (IG (Jb S.N.length ys.length)),λ i hi=>(jm6.mp hi).1,λ D=>?_,λ s2 H2 C fp pins=>?_⟩
   ·have:=OU (M:=M.comp D S.N.length iw.vs) (al:=iw.vs) (is:=Jb S.N.length ys.length) λ i hi=>bd D i (jm6.mp hi).1
    rw [List.length_range'] at this;exact this
   ·obtain ⟨h1,h3,h4⟩:=Qu (X':=Bc X s2 H2 scope C (AM S scope ys iw.vs).N fp pins) (n:=S.N.length) h2 c.chk.nd hix (hloc s2 H2 C fp pins)
    have:=Pl (X:=Bc X s2 H2 scope C (AM S scope ys iw.vs).N fp pins) (pos:=tp) (k:=k) xs.calm h1 h3 h4
    have e:(Bc X s2 H2 scope C (AM S scope ys iw.vs).N fp pins).K=M.K:=(m.k xs).symm;rw [e] at this;exact this
  ·cases ht
 obtain ⟨is,gg,his,hg,hpg⟩:=tgp;have hw:=c.iwo.2.2 X M xs m tg;have htw:=c.two;cases iw with
 | rng en fa vs=>
  rcases hw with ⟨rfl,hw⟩ | ⟨rfl,hw⟩
  ·exact ⟨_,gg,hw,c.chk.comp xs,hpg,hpt,hpe,λ σ H Q hl hq=>qi hl hP m.als hvI hvE his hg hvo hvo2 hq⟩
  ·exact ⟨_,gg,hw,c.chk.comp xs,hpg,hpt,hpe,λ σ H Q hl hq=>qj hl hP m.als hvI hvE his hg hvo hvo2 hq⟩
 | seq f vs=>exact ⟨_,gg,hw,c.chk.comp xs,hpg,hpt,hpe,λ σ H Q hl hq=>qk hl hP m.als hvI hvE his hg hvo hvo2 hq⟩
 | vw v fa vs=>exact ⟨_,gg,hw htw,c.chk.comp xs,hpg,hpt,hpe,λ σ H Q hl hq=>ql hl hP m.als hvI hvE his hg hvo hvo2 hq⟩
def SG {e:Expr}{t t':TE} (h:PE X e t) (i:∀ σ H Q,σ.length=X.N.length->t' σ H Q->t σ H Q):PE X e t':=λ pins s σ H Q I q=>h pins s σ H Q I (i σ H Q I.len q)
def Xc {e:Stmt}{t t':TS} (h:PS X e t) (i:∀ D σ H,σ.length=X.N.length->t' D σ H->t D σ H):PS X e t':=λ pins s σ H D I q=>h pins s σ H D I (i D σ H I.len q)
def xg {scope:AW}{tg:Expr}{ys:List Str}{asg:PV->Ae->Option Ae}{pos:Pos}{it elt:Expr}{ifs:List Expr}{iw:Iw}{t:Fb}{vE:List Nat} (c:CompParts P w K mg base lvl S scope tg ys asg it elt ifs iw t g vE):A6 P w K mg base lvl S (.ListComp elt [⟨tg,it,ifs,0⟩] scope pos) (Kh iw ys.length asg t g) (iw.vs++vE.filter (λ i=>decide (i < S.N.length))):=by
 refine BL (Tu c) rfl (λ _ _=>rfl) λ X M xs m=>?_;obtain ⟨wi,gg,h1,h2,h3,h4,h5,h6⟩:=R8 (pos:=pos) c xs m;exact SG (TU h2 xs.calm h1 h3 h4 h5 (Lp (n:=0) (f:=g) (vs:=[]) c.iwo.2.1)) λ σ H Q hl q=>h6 σ H Q (by rw [hl,xs.N]) q
def Rt {d:Expr->Option D2} (hd:∀ e f vs,d e=some (f,vs)->A6 P w K mg base lvl S e f vs) {ifs:List Expr}{t:Fb} (h:MD d ifs=some t) (X:Cx) (M:Fm) (xs:XS X P w K mg base lvl S Wx) (m:MS M K S Wx):Gj X ifs (λ σ H Q=>∃ M',MS M' K S Wx/\tT M' t σ H Q):=by
 unfold MD at h;split at h
 ·cases h;intro pins s σ H Q I q;exact YD pins s σ H Q I (qK q)
 ·obtain ⟨p,e,rfl⟩:=ja9.mp h;obtain ⟨f,vs⟩:=p;have g:=hd _ _ _ e;intro pins s σ H Q I ⟨M',m',q⟩;exact YE (g.2.2 X M' xs m').2 pins s σ H Q I q
 ·cases h
def Lo (n:Nat) (S:Sx) (a:List Expr) (b:Nat) (c:Pos):Be n S (.Set a b c)=none:=by
 cases n <;> rfl
def Jv {e:Expr} (h:Hk e=true) (env:Env) (cpos:Pos):((BP cpos (As [e] env)).all (λ x=>!x.1) && (Ht cpos (Hw [] env)).all (λ x=>x.1.isSome)
   && decide (([e]:List Expr).length + ([]:List Ea).length + (if ([]:List Ea).isEmpty then 0 else 1) < 30))=true:=by
 have:As [e] env=[(false,eval e env)]:=Cm (Cn h)
 rw [this];rfl
def VL {T:Str}{c:Nat} (h:XN.findIdx? (·== T)=some c):XN[c]?=some T:=by
 obtain ⟨hlt,h1,_⟩:=je1.mp h;rw [C9 hlt];exact congrArg some (eq_of_beq h1)
def Um {T:Str}{n:Nat} (GX:GX K mg S.xc) (hb:∀ x∈zzy,mg x=none) (h:Mv S T=some n) (xs:XS X P w K mg base lvl S Wx):Bw X.K=true/\∃ cv,(∀ p2,PE X (.Name T p2) (tC cv))/\∀ u,RelV cv u->Cp X.K n u=true:=by
 unfold Mv at h;split at h
 ·rename_i hc;obtain ⟨hg,hx⟩:=hc;obtain ⟨_,hk,hcs⟩:=GX hx;refine ⟨by rw [xs.K];exact hk,?_⟩;split at h
  ·rename_i eT;subst eT;cases h;refine ⟨.ty "ValueError",λ p2=>TR (xs.gl hg) (by rw [xs.mg];exact hb _ (by decide +kernel)) (u:=.type "ValueError") rfl rfl (by decide) (by decide),λ u r=>?_⟩;cases r;unfold Cp;rfl
  ·split at h
   ·rename_i hc;split at h
    ·rename_i hm;cases h;obtain ⟨x',C,h1,h2,h3,h4⟩:=(hcs n (by simpa using hm)).1 (Wz hc);have ex:x'=T:=by
      have:=VL hc
      rw [h1] at this;exact Option.some.inj this
     subst ex;refine ⟨.ref C,λ p2=>NR (xs.gl hg) (by rw [xs.mg];exact h3) rfl h4,λ u r=>?_⟩;cases r;unfold Cp;rw [xs.K,h2];simp
    ·cases h
   ·cases h
 ·cases h
theorem Rq (GX:GX K mg S.xc) (hb:∀ x∈zzy,mg x=none) (xs:XS X P w K mg base lvl S Wx):∀ {es:List Expr}{ns:List Nat},MA S es=some ns->es≠[]->Bw X.K=true/\∃ cvs,cvs.length=es.length/\PA X es (RN cvs)/\∀ us,Vals cvs us->Eo X.K ns us=true
 | [],_,_,hn=>absurd rfl hn
 | e::r,ns,h,_=>by
  unfold MA at h;split at h
  ·rename_i T ds h1 h2;obtain ⟨n,h3,rfl⟩:=ja9.mp h;obtain ⟨p2,rfl⟩:=GO h1;obtain ⟨hk,cv,c1,c2⟩:=Um GX hb h3 xs;refine ⟨hk,?_⟩;have st:As (Expr.Name T p2::r) X.env=(false,eval (.Name T p2) X.env)::As r X.env:=rfl;by_cases hr:r=[]
   ·subst hr;cases h2;refine ⟨[cv],rfl,λ a b c d e f g h=>(Dg (c1 p2) DU st) a b c d e f g h,λ us v=>?_⟩;cases v with
    | cons r rr=>
     cases rr;unfold Eo;rw [c2 _ r];rfl
   ·obtain ⟨_,cvs,l1,pa,l2⟩:=Rq GX hb xs h2 hr;refine ⟨cv::cvs,by rw [Cf,Cf,l1],λ a b c d e f g h=>(Dg (c1 p2) pa st) a b c d e f g h,λ us v=>?_⟩;cases v with
    | cons r rr=>
     unfold Eo;rw [c2 _ r,l2 _ rr];rfl
  ·cases h
theorem JI (GX:GX K mg S.xc) (G:GS P w K mg base lvl S.Γ) (Gm:Gu P w K mg base lvl S.Γm):∀ (n:Nat) (S':Sx) (e:Expr) (f:Fx) (vs:List Nat),S'.Γ=S.Γ->S'.Γm=S.Γm->S'.xc=S.xc->(∀ i,∀ j∈S'.alF i,S'.msF j=false)->Be n S' e=some (f,vs)->A6 P w K mg base lvl S' e f vs:=by
 intro n;induction n with
 | zero=>intro S' e f vs _ _ _ _ h;cases h
 | succ n ih=>
  intro S' e f vs hΓ hΓm hX hS h;have hd:∀ e f vs,Be n S' e=some (f,vs)->A6 P w K mg base lvl S' e f vs:=λ e f vs h=>ih S' e f vs hΓ hΓm hX hS h;replace h:Ff (Be n) S' e=some (f,vs):=h;unfold Ff at h;split at h
  ·unfold KH at h;split at h
   ·cases h;exact BL (λ _ z=>(nomatch z)) rfl (λ _ _=>rfl) λ X M xs m=>AO Pt λ σ H Q q=>I0 (λ K H Z=>by rw [Own];exact ⟨rfl,rfl⟩) q
   ·cases h;exact BL (λ _ z=>(nomatch z)) rfl (λ _ _=>rfl) λ X M xs m=>AO Wi λ σ H Q q=>I0 (λ K H Z=>by rw [Own];exact ⟨rfl,rfl⟩) q
   ·cases h;exact BL (λ _ z=>(nomatch z)) rfl (λ _ _=>rfl) λ X M xs m=>AO WU λ σ H Q q=>I0 (λ K H Z=>by rw [Own];exact ⟨rfl,rfl⟩) q
   ·cases h;exact BL (λ _ z=>(nomatch z)) rfl (λ _ _=>rfl) λ X M xs m=>AO WW λ σ H Q q=>I0 (λ K H Z=>by rw [Own];exact ⟨rfl,rfl⟩) q
   ·cases h
  ·split at h
   ·rename_i i hi;split at h
    ·cases h
    ·rename_i hm;cases h;refine BL (λ j hj=>?_) rfl (λ _ _=>rfl) λ X M xs m=>SG (xs.var hi) λ σ H Q hl q=>?_
     ·rcases ja8.mp hj with z | z
      ·rw [z];simpa using hm
      ·exact hS i j z
     ·have hlt:i < S'.N.length:=by
       unfold Sx.slot at hi;split at hi
       ·exact (jb0.mp (Lb hi)).1
       ·cases hi
      rw [<- m.al i hlt] at q;exact SV q
   ·unfold KG at h;split at h
    ·rename_i kk hkk;split at h
     ·rename_i hc;obtain ⟨pv,hp,e2⟩:=ja9.mp h;cases e2;have hm:(50 + kk)∈S'.xc:=by simpa using hc.1
      have hne:S.xc≠[]:=λ z=>by rw [hX,z] at hm;cases hm
      obtain ⟨_,_,hcs⟩:=GX hne;obtain ⟨x',v,u,c1,c2,c3,c4⟩:=(hcs (50 + kk) (by rw [<- hX];exact hm)).2 (FW _ _);rw [Nat.add_sub_cancel_left,hp] at c1;cases c1;obtain ⟨hlt,h1,_⟩:=je1.mp hkk;rw [C9 hlt] at hp;have ex:CN[kk]=(x',v):=Option.some.inj hp;rw [ex] at h1;have ex2:x'=_:=eq_of_beq h1;subst ex2;obtain ⟨w',r',ow⟩:=XY c2;exact BL (λ _ z=>(nomatch z)) rfl (λ _ _=>rfl) λ X M xs m=>AO (NR (xs.gl hc.2) (by rw [xs.mg];exact c3) r' c4) λ σ H Q q=>I0 ow q
     ·cases h
    ·cases h
  ·split at h
   ·rename_i f1 v1 f2 v2 o h1 h2 h3;cases h;have g1:=hd _ _ _ h1;have g2:=hd _ _ _ h2;exact BL (DC g1.1 g2.1) rfl (λ _ _=>rfl) λ X M xs m=>WC h3 (m.v g1.1) (m.k xs) (g1.2.2 X M xs m).1 (g2.2.2 X M xs m).1
   ·cases h
  ·split at h
   ·rename_i f1 v1 h1;cases h;have g1:=hd _ _ _ h1;exact BL g1.1 rfl (λ _ _=>rfl) λ X M xs m=>X0 (g1.2.2 X M xs m).1
   ·cases h
  ·split at h
   ·rename_i f1 v1 h1;cases h;exact ZH (hd _ _ _ h1)
   ·cases h
  ·rename_i es pos;have g:=Rr hd (pos:=pos) _ _ _ h;exact ⟨g.1,rfl,λ X M xs m=>⟨(g.2 X M xs m).1,(g.2 X M xs m).2.pt⟩⟩
  ·rename_i es pos;have g:=Up hd (pos:=pos) _ _ _ h;exact ⟨g.1,rfl,λ X M xs m=>⟨(g.2 X M xs m).1,(g.2 X M xs m).2.pt⟩⟩
  ·split at h
   ·rename_i c v0 f1 v1 g1 v2 h0 h1 h2;cases h;have g0:=hd _ _ _ h0;have ga:=hd _ _ _ h1;have gb:=hd _ _ _ h2;exact ⟨DC ga.1 gb.1,rfl,λ X M xs m=>⟨Xu (g0.2.2 X M xs m).2 (ga.2.2 X M xs m).1 (gb.2.2 X M xs m).1,ID (Xd (g0.2.2 X M xs m).2 (ga.2.2 X M xs m).2 (gb.2.2 X M xs m).2) λ σ H Q q=>Yt q⟩⟩
   ·cases h
  ·split at h
   ·rename_i f1 v1 f2 v2 o h1 h2 h3;cases h;exact ZG h3 (hd _ _ _ h1) (hd _ _ _ h2)
   ·cases h
  ·split at h
   ·rename_i f1 v1 f2 v2 f3 v3 p q h1 h2 h3 h4 h5;cases h;exact xD h4 h5 (hd _ _ _ h1) (hd _ _ _ h2) (hd _ _ _ h3)
   ·cases h
  ·split at h
   ·rename_i fa v h1;cases h;have g:=Ek hd _ _ _ h1;exact BL g.1 rfl (λ _ _=>rfl) λ X M xs m=>Xy (g.2.2 X M xs m)
   ·cases h
  ·split at h
   ·rename_i fa v h1;cases h;have g:=Ek hd _ _ _ h1;exact BL g.1 rfl (λ _ _=>rfl) λ X M xs m=>X2 (g.2.2 X M xs m)
   ·cases h
  ·rename_i a b pos;unfold Tj at h;split at h
   ·rename_i lo hi st p2;unfold Ti at h;split at h
    ·split at h
     ·rename_i f1 v1 f2 v2 h1 h2;cases h;have g1:=hd _ _ _ h1;have g2:=hd _ _ _ h2;exact BL g1.1 rfl (λ _ _=>rfl) λ X M xs m=>AO (N1 (zge.or (qcd.or Pn)) (g1.2.2 X M xs m).1 TJ (Ls (g2.2.2 X M xs m).1)) λ σ H Q q=>OW (lo:=none) (hi:=some (f2,v2)) (m.v g1.1) (m.k xs) q
     ·cases h
    ·split at h
     ·rename_i f1 v1 f2 v2 h1 h2;cases h;have g1:=hd _ _ _ h1;have g2:=hd _ _ _ h2;exact BL g1.1 rfl (λ _ _=>rfl) λ X M xs m=>AO (N1 (zge.or (qcd.or Pn)) (g1.2.2 X M xs m).1 (Ls (g2.2.2 X M xs m).1) TJ) λ σ H Q q=>OW (lo:=some (f2,v2)) (hi:=none) (m.v g1.1) (m.k xs) q
     ·cases h
    ·split at h
     ·rename_i f1 v1 f2 v2 f3 v3 h1 h2 h3;cases h;have g1:=hd _ _ _ h1;have g2:=hd _ _ _ h2;have g3:=hd _ _ _ h3;exact BL g1.1 rfl (λ _ _=>rfl) λ X M xs m=>AO (N1 (zge.or (qcd.or Pn)) (g1.2.2 X M xs m).1 (Ls (g2.2.2 X M xs m).1) (Ls (g3.2.2 X M xs m).1)) λ σ H Q q=>OW (lo:=some (f2,v2)) (hi:=some (f3,v3)) (m.v g1.1) (m.k xs) q
     ·cases h
    ·cases h
   ·split at h
    ·rename_i x i hx hi;obtain ⟨px,rfl⟩:=GO hx;obtain ⟨k,pi,rfl⟩:=SA hi;split at h
     ·rename_i j hj;split at h
      ·cases h
      ·rename_i hm;cases h;have hlt:j < S'.N.length:=by
        unfold Sx.slot at hj;split at hj
        ·exact (jb0.mp (Lb hj)).1
        ·cases hj
       have hv:∀ i∈j::S'.alF j,S'.msF i=false:=λ i hi=>by
        rcases ja8.mp hi with z | z
        ·rw [z];simpa using hm
        ·exact hS j i z
       refine BL (DC hv λ _ z=>(nomatch z)) rfl (λ _ _=>rfl) λ X M xs m=>SQ (m.v hv) (m.k xs) (Lj rfl) (AO (xs.var hj) λ σ H Q q=>?_) (AO Pt λ σ H Q q=>I0 (λ K H Z=>by rw [Own];exact ⟨rfl,rfl⟩) q);rw [<- m.al j hlt] at q;exact SV q
     ·cases h
    ·split at h
     ·rename_i f1 v1 f2 v2 h1 h2;split at h
      ·rename_i hn;cases h;have g1:=hd _ _ _ h1;have g2:=hd _ _ _ h2;exact BL (DC g1.1 g2.1) rfl (λ _ _=>rfl) λ X M xs m=>SQ (m.v g1.1) (m.k xs) (Lj hn) (g1.2.2 X M xs m).1 (g2.2.2 X M xs m).1
      ·cases h
     ·cases h
  ·split at h
   ·rename_i f1 v1 gn h1 hgn;split at h
    ·rename_i nn F hF;split at h
     ·rename_i hc;obtain ⟨rfl,rfl,rfl,hg,hgg⟩:=hc;cases h;obtain ⟨pg,rfl⟩:=GO hgn;have ga:=hd _ _ _ h1;rw [hΓ] at hF;obtain ⟨d1,d2,fa',fd,ps,d3,d4,d5,d6,d7⟩:=G.2 _ _ _ _ hF;refine BL (DC ga.1 λ _ z=>nomatch z) rfl (λ _ _=>rfl) λ X M xs m=>?_;obtain ⟨xp,xw,xK,xm,xb,_,_,_,xr,xl,_⟩:=id xs;subst xp xw xK xm xb;exact YR d7 xr xl d5 d6 m.K (xs.gl hg) (G.1 _ (by decide +kernel)) (xs.gl hgg) d3 d1 (m.v ga.1) (ga.2.2 X M xs m).1 (Cm (Cn ga.2.1))
     ·cases h
    ·cases h
   ·cases h
  ·split at h
   ·rename_i x p args pos _ hx;subst hx;split at h
    ·rename_i e c;unfold Te at h;split at h
     ·rename_i f1 v1 h1;split at h
      ·rename_i hgi;have g1:=hd _ _ _ h1;split at h
       ·rename_i T pT;have s2:∀ {X:Cx},As [Expr.Name T pT] X.env=[(false,eval (.Name T pT) X.env)]:=rfl;split at h
        ·rename_i t h2;split at h
         ·rename_i hg;cases h;obtain ⟨t1,t2,t3,t4,t5⟩:=Zk h2;refine BL g1.1 rfl (λ _ _=>rfl) λ X M xs m=>?_;exact Xv (x:=T) t1 (m.k xs) (g1.2.2 X M xs m).1 (xs.gl hgi) (by rw [xs.mg];exact G.1 _ (by decide +kernel)) (TR (xs.gl hg) (by rw [xs.mg];exact G.1 _ t2) t3 rfl t5 t4) (by rw [Cm (Cn g1.2.1),s2]) s2
         ·cases h
        ·obtain ⟨n,h3,e2⟩:=ja9.mp h;cases e2;refine BL g1.1 rfl (λ _ _=>rfl) λ X M xs m=>?_;obtain ⟨hk,cv,c1,c2⟩:=Um (by rw [hX];exact GX) G.1 h3 xs;exact Zx hk (m.k xs) (g1.2.2 X M xs m).1 (xs.gl hgi) (by rw [xs.mg];exact G.1 _ (by decide +kernel)) (c1 pT) c2 (by rw [Cm (Cn g1.2.1),s2]) s2
       ·rename_i es k p2;split at h
        ·rename_i hl;obtain ⟨ns,h3,e2⟩:=ja9.mp h;cases e2;obtain ⟨hl,hne⟩:=hl;refine BL g1.1 rfl (λ _ _=>rfl) λ X M xs m=>?_;have s2:As [Expr.Tuple es k p2] X.env=[(false,eval (.Tuple es k p2) X.env)]:=rfl;obtain ⟨hk,cvs,l1,pa,l2⟩:=Rq (by rw [hX];exact GX) G.1 xs h3 hne;exact qe hk (m.k xs) (g1.2.2 X M xs m).1 (xs.gl hgi) (by rw [xs.mg];exact G.1 _ (by decide +kernel)) pa (by rw [l1];exact Co hl (by decide)) l2 (by rw [Cm (Cn g1.2.1),s2]) s2
        ·cases h
       ·cases h
      ·cases h
     ·cases h
    ·cases h
   ·split at h
    ·rename_i o ho;split at h
     ·rename_i e es;split at h
      ·rename_i fa v h1;split at h
       ·rename_i hg;cases h;have g:=Ek hd _ _ _ h1;exact BL g.1 rfl (λ _ _=>rfl) λ X M xs m=>Xr ho xs m G.1 hg g.2.1 (g.2.2 X M xs m)
       ·cases h
      ·cases h
     ·cases h
    ·split at h
     ·rename_i x p args pos _ _ _ _ nn F hF;split at h
      ·rename_i e es;split at h
       ·rename_i fa v h1;split at h
        ·rename_i hg;cases h;have g:=Ek hd _ _ _ h1;rw [hΓ] at hF;obtain ⟨d1,d2,fa',fd,ps,d3,d4,d5,d6,d7⟩:=G.2 _ _ _ _ hF;refine BL g.1 rfl (λ _ _=>rfl) λ X M xs m=>?_;have hs:=g.2.1;rw [FU,A4] at hs;obtain ⟨xp,xw,xK,xm,xb,_,_,_,xr,_⟩:=id xs;subst xp xw xK xm xb;have mk:M.K=X.K:=m.K;have hps:=xs.ps;rw [<- m.W] at hps;refine AO (ZR d7 xr (xs.gl hg) d3 d4 d5 hps (g.2.2 X M xs m) d1 (Cm (Cn hs.1)) (NX hs.2)) λ σ H Q q=>?_
         have:=YX d2 q
         rw [mk] at this;exact this
        ·cases h
       ·cases h
      ·cases h
     ·cases h
     ·split at h
      ·rename_i F hF;split at h
       ·rename_i y py;split at h
        ·rename_i i h0;split at h
         ·rename_i hg;cases h;rw [hΓm] at hF;obtain ⟨d1,fa',fd,ps,d3,d4,d5,d7⟩:=Gm _ _ hF;refine BL (λ _ z=>(nomatch z)) rfl (λ _ _=>rfl) λ X M xs m=>?_;obtain ⟨xp,xw,xK,xm,xb,_,_,_,xr,_⟩:=id xs;subst xp xw xK xm xb;have mk:M.K=X.K:=m.K;refine AO (Y6 (E:=E0) (dvs:=[]) d7 xr (xs.gl hg.1) d3 d4 d5 .nil Wh (Dg (xs.var h0) DU rfl) d1 rfl rfl) λ σ H Q q=>?_
          have:=xM (E:=E0) m.als (by rw [m.ms];exact hg.2) q
          rw [mk] at this;exact this
         ·cases h
        ·cases h
       ·cases h
      ·cases h
  ·rename_i o at' apos e cpos;split at h
   ·rename_i ii g1 u1 hix h2;split at h
    ·rename_i hl;cases h;unfold RX at hix;split at hix
     ·rename_i ea;subst ea;split at hix
      ·rename_i y hy;split at hix
       ·rename_i i0 hsl;split at hix
        ·rename_i hms;cases hix;obtain ⟨py,rfl⟩:=GO hy;have g2:=hd _ _ _ h2;refine BL (λ j hj=>(ja8.mp hj).elim (λ z=>by rw [z];exact hms) (g2.1 j)) rfl (λ _ _=>rfl) λ X M xs m=>?_;exact Xw (m.k xs) (by rw [m.ms];exact hms) (xs.var hsl) (g2.2.2 X M xs m).1 rfl (Cm (Cn g2.2.1)) (Jv g2.2.1 X.env cpos) hl
        ·cases hix
       ·cases hix
      ·cases hix
     ·cases hix
    ·cases h
   unfold Tf at h;split at h
   ·rename_i f1 v1 f2 v2 h1 h2;split at h
    ·rename_i hc;have g1:=hd _ _ _ h1;have g2:=hd _ _ _ h2;have hb:∀ (nm:Str) (X:Cx),JQ o nm X.env (eval o X.env)=eval o X.env:=λ nm X=>by
      have:=hc.1
      cases o <;> first | rfl | (cases this)
     split at h
     ·rename_i ea;subst ea;cases h;exact BL (DC g1.1 g2.1) rfl (λ _ _=>rfl) λ X M xs m=>Zy (m.k xs) (g1.2.2 X M xs m).1 (g2.2.2 X M xs m).1 (hb _ X) (Cm (Cn g2.2.1)) (Jv g2.2.1 X.env cpos) hc.2
     ·split at h
      ·rename_i ea;subst ea;cases h;exact BL (DC g1.1 g2.1) rfl (λ _ _=>rfl) λ X M xs m=>qf (m.k xs) (g1.2.2 X M xs m).1 (g2.2.2 X M xs m).1 (hb _ X) (Cm (Cn g2.2.1)) (Jv g2.2.1 X.env cpos) hc.2
      ·cases h
    ·cases h
   ·cases h
  ·split at h
   ·rename_i elt tg it ifs scope pos _ _ ys asg iw ht hi;split at h
    ·rename_i hc;split at h
     ·rename_i t g vE h1 h2;cases h;have ck:=Ta hc.1;have giw:=Ln hd (Lo n S') G.1 hi;have hS2:∀ i,∀ j∈(AM S' scope ys iw.vs).alF i,(AM S' scope ys iw.vs).msF j=false:=λ i j hj=>by
       rw [N2] at hj;show S'.msF j=false;split at hj
       ·exact hS i j hj
       ·split at hj
        ·exact giw.1 j hj
        ·cases hj
      have hd2:∀ e f vs,Be n (AM S' scope ys iw.vs) e=some (f,vs)->A6 P w K mg base lvl (AM S' scope ys iw.vs) e f vs:=λ e f vs h=>ih _ e f vs hΓ hΓm hX hS2 h;exact xg ⟨ht,hc.2,ck,giw,hd2 _ _ _ h2,Rt hd2 h1⟩
     ·cases h
    ·cases h
   ·cases h
  ·cases h
end
section
variable {is:List Nat}{M:Fm}{ρ ρ':Ae}{σ σ':St}{H H' H'':Hp}{fps fps' fps'':AA}{vs vs':List Nat}
def FL:Fs:=λ _=>.no
def Sr {t:TS}{D:Ends} (hq:tS M FL D σ H):t D σ H:=by
 obtain ⟨ρ,fps,rep,q⟩:=hq;exact q.elim
def Dy (asg:PV->Ae->Option Ae) (f:Fx) (vs:List Nat):Fs:=λ ρ=>match f ρ with
 | .ok (x,d,ρ1)=>(match asg x (Bb d vs ρ1) with
  | some ρ2=>.nx ρ2
  | none=>.no)
 | .exc c=>.exc c
 | .no=>.no
theorem Yr {g:TG}{asg:PV->Ae->Option Ae}{f:Fx}{D:Ends} (hal:∀ i,M.al i=[]) (hv:∀ i∈vs,M.Ms i=false) (hg:Df M [] is g asg) (hq:tS M (Dy asg f vs) D σ H):CK (tE M f vs) g D σ H:=by
 obtain ⟨ρ,fps,rep,q⟩:=hq;refine ⟨ρ,fps,rep,?_⟩;unfold Dy at q;cases ef:f ρ with
 | no=>rw [ef] at q;exact q
 | exc c=>rw [ef] at q;exact λ H' fps' k=>q _ H' fps' k.ks
 | ok p=>
  obtain ⟨x,d,ρ1⟩:=p;rw [ef] at q;intro v H1 fps1 f1 k1 g1 rep1 o1 t1;obtain ⟨fps2,k2,r2,o2⟩:=Rep.seen rep k1 g1 rep1 o1 t1 hal hv;dsimp only at q;cases ea:asg x (Bb d vs ρ1) with
  | none=>rw [ea] at q;exact q.elim
  | some ρ2=>
   rw [ea] at q;refine hg x v _ σ H1 fps2 ρ2 _ r2 (o2.weak λ a h=>h.zf) ea λ σ' fps' s1 _ _ r'=>q σ' H1 fps' (k2.trans ⟨λ _ _ h _=>h,λ _ h=>h,λ j a ha=>.inl ⟨j,s1 j a ha⟩⟩) r'
def Rep.change {i:Nat}{x x':PV}{d d':Nat}{v:V}{f':List Addr} (hal:∀ i,M.al i=[]) (r:Rep M ρ σ H fps) (hi:ρ[i]?=some (some (x,d))) (hσ:σ[i]?=some (some v)) (k:Cg (λ a=>a∈fps i) H H') (dm:∀ a,H a≠none->H' a≠none) (hs:∀ b∈f',b∈fps i)
  (hm:M.Ms i=true->d'=om) (o:Own M.K H' (Zf M (λ j=>if j=i then f' else fps j)) x' d' v f'):Rep M (ρ.set i (some (x',d'))) σ H' (λ j=>if j=i then f' else fps j):=by
 have hlen:i < ρ.length:=(jb0.mp hi).1;have inI:∀ j,∀ b∈(if j=i then f' else fps j),b∈fps j:=λ j b hb=>by
  by_cases e:j=i
  ·rw [if_pos e] at hb;rw [e];exact hs b hb
  ·rw [if_neg e] at hb;exact hb
 refine ⟨λ j y c hj=>?_,λ j hj=>?_,λ j k hjk b hb hc=>r.dj j k hjk b (inI j b hb) (inI k b hc),λ j b hb z=>r.zo j b (inI j b hb) z,λ j hj b hb=>r.fr j hj b (inI j b hb),λ b z=>dm b (r.zd b z),by rw [Ee];exact r.len,λ j y c hj hc=>?_,λ b z=>dm b (r.h0 b z),r.iov⟩
 ·by_cases ej:j=i
  ·subst ej;rw [Dh hlen] at hj;cases hj;refine ⟨v,hσ,?_⟩;rw [if_pos rfl];exact o.weak λ a h=>h.zf
  ·rw [Ck (Br ej)] at hj;obtain ⟨u,hu,ou⟩:=r.own j y c hj;refine ⟨u,hu,?_⟩;rw [if_neg ej];refine Own.move (S:=λ a=>a∈fps i) k (λ a ha=>⟨.inr ⟨i,(by rw [hal j];intro z;cases z),ha⟩,r.lsts ha⟩) (λ a _ nz z=>nz ?_) y c u (fps j) (λ a ha z=>r.dj j i ej a ha z) ou;rcases z with z | ⟨l,nl,z⟩
   ·exact .inl z
   ·exact .inr ⟨l,nl,inI l a z⟩
 ·by_cases ej:j=i
  ·subst ej;exact absurd (Dh hlen) (hj (x',d'))
  ·rw [if_neg ej];exact r.non j λ p hp=>hj p (by rw [Ck (Br ej)];exact hp)
 ·by_cases ej:j=i
  ·subst ej;rw [Dh hlen] at hc;cases hc;exact hm hj
  ·rw [Ck (Br ej)] at hc;exact r.msf j y c hj hc
def OwnL.full' {K:Frag}{Z Z':Addr->Prop}{xs:List PV}{ws:List V}{f:List Addr} (h:OwnL K H Z xs om ws f):OwnL K H Z' xs om ws f:=OwnL.full xs ws f h
theorem OwnL.row {K:Frag}{Z:Addr->Prop}:∀ {xs:List PV}{ws:List V}{f:List Addr}{p:Nat}{cells:List PV},OwnL K H Z xs om ws f->xs[p]?=some (.lst cells)->∃ a us fc,ws[p]?=some (.ref a)/\H a=some (.lst us)/\a∈f/\OwnL K H Z cells om us fc/\(∀ b∈fc,b∈f)/\a∉fc /\
  ∀ (cells':List PV) (us':List V) (fc':List Addr),OwnL K (Am H a (.lst us')) (λ _=>True) cells' om us' fc'->(∀ b∈fc',b∈fc)->∃ f',(∀ b∈f',b∈f)/\OwnL K (Am H a (.lst us')) (λ _=>True) (xs.set p (.lst cells')) om ws f'
 | [],ws,f,p,cells,h,e=>by cases e
 | x::xs,ws,f,0,cells,h,e=>by
  cases e;rw [OwnL] at h;obtain ⟨v,s,f1,f2,rfl,rfl,dj,h1,h2⟩:=h;obtain ⟨a,us,fc,rfl,ha,rfl,na,ol⟩:=h1.list (by decide:om≠0);rw [EU] at ol;refine ⟨a,us,fc,rfl,ha,by simp,ol,λ b hb=>by simp [hb],na,λ cells' us' fc' o hs=>⟨(a::fc')++f2,λ b hb=>?_,?_⟩⟩
  ·rcases jc2.mp hb with z | z
   ·rcases ja8.mp z with z | z
    ·simp [z]
    ·exact AZ _ (AB _ (hs b z))
   ·exact AL _ z
  ·have n2:a∉f2:=dj a AI;rw [Ji,OwnL];refine ⟨.ref a,s,a::fc',f2,rfl,rfl,λ b hb=>?_,?_,?_⟩
   ·rcases ja8.mp hb with z | z
    ·rw [z];exact n2
    ·exact dj b (AB _ (hs b z))
   ·rw [Own];exact ⟨a,us',rfl,.inr ⟨by decide,fc',Bq,rfl,λ z=>na (hs a z),by rw [EU];exact o⟩⟩
   ·exact (h2.full' (Z':=λ _=>True)).at trivial ⟨.l us,ha⟩ n2 λ _ _ n=>absurd trivial n
 | x::xs,ws,f,p + 1,cells,h,e=>by
  rw [OwnL] at h;obtain ⟨v,s,f1,f2,rfl,rfl,dj,h1,h2⟩:=h;obtain ⟨a,us,fc,e1,ha,hf,ol,hs,na,nx⟩:=h2.row (by simpa using e);refine ⟨a,us,fc,by simpa using e1,ha,AL _ hf,ol,λ b hb=>AL _ (hs b hb),na,λ cells' us' fc' o hs'=>?_⟩;obtain ⟨f',s',o'⟩:=nx cells' us' fc' o hs';refine ⟨f1++f',λ b hb=>(jc2.mp hb).elim (λ z=>AZ _ z) λ z=>AL _ (s' b z),?_⟩;rw [Jh,OwnL];refine ⟨v,s,f1,f',rfl,rfl,λ b hb z=>dj b hb (s' b z),?_,o'⟩;exact (Own.full (Z':=λ _=>True) x v f1 h1).at trivial ⟨.l us,ha⟩ (λ z=>dj a z hf) λ _ _ n=>absurd trivial n
theorem OwnL.setF {K:Frag}{Z:Addr->Prop}{y:PV}{d:Nat}{w:V}{fy:List Addr} (hy:Own K H Z y d w fy):∀ {xs:List PV}{ws:List V}{f:List Addr} (k:Nat),OwnL K H Z xs d ws f->(∀ b∈fy,b∉f)->∃ f',(∀ b∈f',b∈f\/b∈fy)/\OwnL K H Z (xs.set k y) d (ws.set k w) f'
 | [],ws,f,k,h,_=>by
  rw [OwnL] at h;obtain ⟨rfl,rfl⟩:=h;refine ⟨[],λ _ z=>(nomatch z),?_⟩;rw [MH,MH,OwnL];exact ⟨rfl,rfl⟩
 | x::xs,ws,f,0,h,hd=>by
  rw [OwnL] at h;obtain ⟨v,s,f1,f2,rfl,rfl,dj,h1,h2⟩:=h;refine ⟨fy++f2,λ b hb=>(jc2.mp hb).elim .inr λ z=>.inl (AL _ z),?_⟩;rw [Ji,Ji,OwnL];exact ⟨w,s,fy,f2,rfl,rfl,λ b hb z=>hd b hb (AL _ z),hy,h2⟩
 | x::xs,ws,f,k + 1,h,hd=>by
  rw [OwnL] at h;obtain ⟨v,s,f1,f2,rfl,rfl,dj,h1,h2⟩:=h;obtain ⟨f',hs,h'⟩:=h2.setF hy k λ b hb z=>hd b hb (AL _ z);refine ⟨f1++f',λ b hb=>(jc2.mp hb).elim (λ z=>.inl (AZ _ z)) λ z=>(hs b z).elim (λ z=>.inl (AL _ z)) .inr,?_⟩;rw [Jh,Jh,OwnL];exact ⟨v,s.set k w,f1,f',rfl,rfl,λ b hb hc=>(hs b hc).elim (dj b hb) λ z=>hd b z (AZ _ hb),h1,h'⟩
theorem OwnL.rowP {K:Frag}{Z:Addr->Prop}:∀ {xs:List PV}{ws:List V}{f:List Addr}{p:Nat}{cells:List PV},OwnL K H Z xs om ws f->xs[p]?=some (.lst cells)->∃ a us fc,ws[p]?=some (.ref a)/\H a=some (.lst us)/\a∈f/\OwnL K H Z cells om us fc/\(∀ b∈fc,b∈f)/\a∉fc /\
  ∀ (cells':List PV) (us':List V) (fc' fy:List Addr),OwnL K (Am H a (.lst us')) (λ _=>True) cells' om us' fc'->(∀ b∈fc',b∈fc\/b∈fy)->(∀ b∈fy,b∉f)->∃ f',(∀ b∈f',b∈f\/b∈fy)/\OwnL K (Am H a (.lst us')) (λ _=>True) (xs.set p (.lst cells')) om ws f'
 | [],ws,f,p,cells,h,e=>by cases e
 | x::xs,ws,f,0,cells,h,e=>by
  cases e;rw [OwnL] at h;obtain ⟨v,s,f1,f2,rfl,rfl,dj,h1,h2⟩:=h;obtain ⟨a,us,fc,rfl,ha,rfl,na,ol⟩:=h1.list (by decide:om≠0);rw [EU] at ol;refine ⟨a,us,fc,rfl,ha,by simp,ol,λ b hb=>by simp [hb],na,λ cells' us' fc' fy o hs hy=>⟨(a::fc')++f2,λ b hb=>?_,?_⟩⟩
  ·rcases jc2.mp hb with z | z
   ·rcases ja8.mp z with z | z
    ·simp [z]
    ·exact (hs b z).elim (λ z=>.inl (AZ _ (AB _ z))) .inr
   ·exact .inl (AL _ z)
  ·have n2:a∉f2:=dj a AI;rw [Ji,OwnL];refine ⟨.ref a,s,a::fc',f2,rfl,rfl,λ b hb=>?_,?_,?_⟩
   ·rcases ja8.mp hb with z | z
    ·rw [z];exact n2
    ·exact (hs b z).elim (λ z=>dj b (AB _ z)) λ z w=>hy b z (AL _ w)
   ·rw [Own];exact ⟨a,us',rfl,.inr ⟨by decide,fc',Bq,rfl,λ z=>(hs a z).elim na λ z=>hy a z (AZ _ AI),by rw [EU];exact o⟩⟩
   ·exact (h2.full' (Z':=λ _=>True)).at trivial ⟨.l us,ha⟩ n2 λ _ _ n=>absurd trivial n
 | x::xs,ws,f,p + 1,cells,h,e=>by
  rw [OwnL] at h;obtain ⟨v,s,f1,f2,rfl,rfl,dj,h1,h2⟩:=h;obtain ⟨a,us,fc,e1,ha,hf,ol,hs,na,nx⟩:=h2.rowP (by simpa using e);refine ⟨a,us,fc,by simpa using e1,ha,AL _ hf,ol,λ b hb=>AL _ (hs b hb),na,λ cells' us' fc' fy o hs' hy=>?_⟩;obtain ⟨f',s',o'⟩:=nx cells' us' fc' fy o hs' λ b hb z=>hy b hb (AL _ z);refine ⟨f1++f',λ b hb=>(jc2.mp hb).elim (λ z=>.inl (AZ _ z)) λ z=>(s' b z).elim (λ z=>.inl (AL _ z)) .inr,?_⟩;rw [Jh,OwnL];refine ⟨v,s,f1,f',rfl,rfl,λ b hb z=>(s' b z).elim (dj b hb) λ z=>hy b z (AZ _ hb),?_,o'⟩;exact (Own.full (Z':=λ _=>True) x v f1 h1).at trivial ⟨.l us,ha⟩ (λ z=>dj a z hf) λ _ _ n=>absurd trivial n
def HN (x:PV) (a b:Int) (y:PV):Option PV:=match x with
 | .lst rows=>(match C1 rows.length a with
  | some p=>(match rows[p]? with
   | some (.lst cells)=>(match C1 cells.length b with
    | some q=>some (.lst (rows.set p (.lst (cells.set q y))))
    | none=>none)
   | _=>none)
  | none=>none)
 | _=>none
def OX (i:Nat) (fi fj f:Fx):Fs:=λ ρ=>match f ρ with
 | .ok (y,e,ρ1)=>(match ρ1[i]? with
  | some (some (x,d))=>(match fi ρ1 with
   | .ok (.int a,_,ρ2)=>(match fj ρ2 with
    | .ok (.int b,_,ρ3)=>(match HN x a b y with
     | some x'=>if d=om/\IW y=true then .nx (ρ3.set i (some (x',om))) else if d=om/\e=om then .nx (ρ3.set i (some (x',0))) else .no
     | none=>.no)
    | _=>.no)
   | _=>.no)
  | _=>.no)
 | _=>.no
def xn {x x' y:PV}{a b:Int} (h:HN x a b y=some x'):∃ rows p cells q,x=.lst rows/\C1 rows.length a=some p/\rows[p]?=some (.lst cells)/\C1 cells.length b=some q/\x'=.lst (rows.set p (.lst (cells.set q y))):=by
 unfold HN at h;split at h
 ·rename_i rows;split at h
  ·rename_i p ep;split at h
   ·rename_i cells er;split at h
    ·rename_i q eq;cases h;exact ⟨rows,p,cells,q,rfl,ep,er,eq,rfl⟩
    ·cases h
   ·cases h
  ·cases h
 ·cases h
def KD.top (k:KD M H fps H' fps') (r:Rep M ρ σ H fps) {i:Nat}{a:Addr}{o:HO} (hm:M.Ms i=false) (ha:a∈fps i) (h:H a=some o):H' a=some o:=
 k.keep a o h λ ⟨j,hj,hb⟩=>r.dj i j (λ e=>by rw [e,hj] at hm;cases hm) a ha hb
theorem Zb {f fi fj:Fx}{vi vj:List Nat}{i:Nat}{D:Ends} (hal:∀ i,M.al i=[]) (hm:M.Ms i=false) (hq:tS M (OX i fi fj f) D σ H):CK (tE M f vs) (E9 (HF (HJ M.K) (BE i) (tE M fi vi)) (tE M fj vj) Ko) D σ H:=by
 obtain ⟨ρ,fps,rep,q⟩:=hq;refine ⟨ρ,fps,rep,?_⟩;unfold OX at q;cases ef:f ρ with
 | no=>rw [ef] at q;exact q
 | exc c=>rw [ef] at q;exact q.elim
 | ok p0=>
  obtain ⟨y,e,ρ1⟩:=p0;rw [ef] at q;intro w H1 fps1 fp k1 g1 rep1 o1 t1;dsimp only at q;cases ei:ρ1[i]? with
  | none=>rw [ei] at q;exact q.elim
  | some s1=>
   rw [ei] at q;cases s1 with
   | none=>exact q.elim
   | some s1=>
    obtain ⟨x1,dx1⟩:=s1;obtain ⟨v,hσ,_⟩:=rep1.own0 hal i _ _ ei;dsimp only at q;refine ⟨v,hσ,ρ1,fps1,rep1,?_⟩;split at q
    ·rename_i a da ρ2 e1;rw [e1];intro va H2 fps2 fpa k2 g2 rep2 oa ta;rw [Own] at oa;obtain ⟨rfl,rfl⟩:=oa;split at q
     ·rename_i b db ρ3 e2;split at q
      ·rename_i x' ex;obtain ⟨rows,p,cells,jq,rfl,ep,er,eq,rfl⟩:=xn ex;split at q
       ·rename_i hc;obtain ⟨rfl,hy⟩:=hc;obtain ⟨rfl,oy⟩:=Own.flatA (Z':=λ _=>True) (d':=om) hy o1;have e2i:ρ2[i]?=some (some (.lst rows,om)):=by rw [g2.1 i hm];exact ei
        obtain ⟨v2,hσ2,ol2⟩:=rep2.own0 hal i _ _ e2i;rw [hσ] at hσ2;cases hσ2;obtain ⟨a0,ws,f2,rfl,ha2,hf2,na2,hol2⟩:=ol2.list (by decide:om≠0);rw [EU] at hol2;obtain ⟨r,us,fc,ew,hr,hrf,oc,sc,nrc,_⟩:=hol2.row er;have hai:a0∈fps2 i:=by rw [hf2];exact AI
        have hri2:r∈fps2 i:=by rw [hf2];exact AB _ hrf
        refine ⟨a0,ws,a,.ref r,rfl,rfl,.inl (.inl ha2),?_,ρ2,fps2,rep2,?_⟩
        ·unfold Bg;rw [hol2.length,ep];exact ew
        rw [e2];intro vb H3 fps3 fpb k3 g3 rep3 ob tb;rw [Own] at ob;obtain ⟨rfl,rfl⟩:=ob;have e3:ρ3[i]?=some (some (.lst rows,om)):=by rw [g3.1 i hm];exact e2i
        obtain ⟨v3,hσ3,ol3⟩:=rep3.own0 hal i _ _ e3;rw [hσ] at hσ3;cases hσ3;obtain ⟨a',ws3,f3,ev,ha3,hf3,na3,hol3⟩:=ol3.list (by decide:om≠0);cases ev;have hai3:a0∈fps3 i:=by rw [hf3];exact AI
        have ht:=k3.top rep2 hm hai ha2;rw [ha3] at ht;cases ht;rw [EU] at hol3;obtain ⟨r',us3,fc3,ew3,hr3,hrf3,oc3,sc3,nrc3,nx⟩:=hol3.row er;rw [ew] at ew3;cases ew3;have hri:r∈fps3 i:=by rw [hf3];exact AB _ hrf3
        refine ⟨r,us3,b,jq,rfl,rfl,hr3,by rw [oc3.length];exact eq,?_⟩;have oy2:Own M.K H2 (λ _=>True) y om w []:=Own.move k2.keep (λ a ⟨_,_,h⟩=>⟨trivial,rep1.lsts h⟩) (λ _ _ n=>absurd trivial n) y om w [] (λ _ z=>nomatch z) oy;have oy3:Own M.K H3 (λ _=>True) y om w []:=Own.move k3.keep (λ a ⟨_,_,h⟩=>⟨trivial,rep2.lsts h⟩) (λ _ _ n=>absurd trivial n) y om w [] (λ _ z=>nomatch z) oy2;obtain ⟨fc',sc',oc'⟩:=(oc3.full' (Z':=λ _=>True)).set oy3 jq;have oc2:OwnL M.K (Am H3 r (.lst (us3.set jq w))) (λ _=>True) (cells.set jq y) om (us3.set jq w) fc':=oc'.at trivial ⟨.l us3,hr3⟩ (λ z=>nrc3 (sc' r z)) λ _ _ n=>absurd trivial n;obtain ⟨f',s',o'⟩:=nx _ _ fc' oc2 sc';have nea:a0≠r:=λ e=>na3 (by rw [e];exact hrf3);have dm:∀ b,H3 b≠none->(Am H3 r (.lst (us3.set jq w))) b≠none:=λ b h=>by
         by_cases eb:b=r
         ·rw [eb,Bq];simp
         ·rw [A3 eb];exact h
        have hsub:∀ b∈a0::f',b∈fps3 i:=λ b hb=>by
         rw [hf3];exact (ja8.mp hb).elim (λ z=>by rw [z];exact AI) λ z=>AB _ (s' b z)
        have kw:KS M H3 fps3 (Am H3 r (.lst (us3.set jq w))) (λ j=>if j=i then a0::f' else fps3 j):=⟨λ b u hb n=>by rw [A3 (λ e=>n ⟨i,by rw [e];exact hri⟩)];exact hb,dm,λ j b hb=>by
         by_cases ej:j=i
         ·simp only [if_pos ej] at hb;exact .inl ⟨i,hsub b hb⟩
         ·simp only [if_neg ej] at hb;exact .inl ⟨j,hb⟩⟩
        refine q σ _ _ (((k1.ks.trans k2.ks).trans k3.ks).trans kw) (rep3.change hal e3 hσ (λ b u hb n=>by rw [A3 (λ e=>n (by rw [e];exact hri))];exact hb) dm hsub (λ _=>rfl) ?_);rw [Own];exact ⟨a0,ws,rfl,.inr ⟨by decide,f',by rw [A3 nea];exact ha3,rfl,λ z=>na3 (s' a0 z),o'.full'⟩⟩
       ·split at q
        ·rename_i hc;obtain ⟨rfl,rfl⟩:=hc;have oy:Own M.K H1 (λ _=>True) y om w fp:=Own.full _ _ _ o1;have e2i:ρ2[i]?=some (some (.lst rows,om)):=by rw [g2.1 i hm];exact ei
         obtain ⟨v2,hσ2,ol2⟩:=rep2.own0 hal i _ _ e2i;rw [hσ] at hσ2;cases hσ2;obtain ⟨a0,ws,f2,rfl,ha2,hf2,na2,hol2⟩:=ol2.list (by decide:om≠0);rw [EU] at hol2;obtain ⟨r,us,fc,ew,hr,hrf,oc,sc,nrc,_⟩:=hol2.row er;have hai:a0∈fps2 i:=by rw [hf2];exact AI
         refine ⟨a0,ws,a,.ref r,rfl,rfl,.inl (.inl ha2),?_,ρ2,fps2,rep2,?_⟩
         ·unfold Bg;rw [hol2.length,ep];exact ew
         rw [e2];intro vb H3 fps3 fpb k3 g3 rep3 ob tb;rw [Own] at ob;obtain ⟨rfl,rfl⟩:=ob;have e3:ρ3[i]?=some (some (.lst rows,om)):=by rw [g3.1 i hm];exact e2i
         obtain ⟨v3,hσ3,ol3⟩:=rep3.own0 hal i _ _ e3;rw [hσ] at hσ3;cases hσ3;obtain ⟨a',ws3,f3,ev,ha3,hf3,na3,hol3⟩:=ol3.list (by decide:om≠0);cases ev;have hai3:a0∈fps3 i:=by rw [hf3];exact AI
         have ht:=k3.top rep2 hm hai ha2;rw [ha3] at ht;cases ht;rw [EU] at hol3;obtain ⟨r',us3,fc3,ew3,hr3,hrf3,oc3,sc3,nrc3,nx⟩:=hol3.rowP er;rw [ew] at ew3;cases ew3;have hri:r∈fps3 i:=by rw [hf3];exact AB _ hrf3
         refine ⟨r,us3,b,jq,rfl,rfl,hr3,by rw [oc3.length];exact eq,?_⟩;have n2:∀ b∈fp,¬ Zf M fps2 b:=λ b hb z=>by
          rcases z with z | ⟨j,z⟩
          ·exact t1.ndj b hb (.inl z)
          ·rcases k2.sub j b z with z | z
           ·exact t1.ndj b hb (.inr ⟨j,z⟩)
           ·obtain ⟨o,ho⟩:=Own.lsts y _ w fp oy b hb;rw [ho] at z;cases z
         have oy2:Own M.K H2 (λ _=>True) y om w fp:=Own.move k2.keep (λ a ⟨_,_,h⟩=>⟨trivial,rep1.lsts h⟩) (λ _ _ n=>absurd trivial n) y om w fp (λ a ha ⟨j,_,hj⟩=>t1.ndj a ha (.inr ⟨j,hj⟩)) oy;have n3:∀ b∈fp,¬ Zf M fps3 b:=λ b hb z=>by
          rcases z with z | ⟨j,z⟩
          ·exact n2 b hb (.inl z)
          ·rcases k3.sub j b z with z | z
           ·exact n2 b hb (.inr ⟨j,z⟩)
           ·obtain ⟨o,ho⟩:=Own.lsts y _ w fp oy2 b hb;rw [ho] at z;cases z
         have oy3:Own M.K H3 (λ _=>True) y om w fp:=Own.move k3.keep (λ a ⟨_,_,h⟩=>⟨trivial,rep2.lsts h⟩) (λ _ _ n=>absurd trivial n) y om w fp (λ a ha ⟨j,_,hj⟩=>n2 a ha (.inr ⟨j,hj⟩)) oy2;have nfp:∀ b∈fp,b∉f3:=λ b hb z=>n3 b hb (.inr ⟨i,by rw [hf3];exact AB _ z⟩);obtain ⟨fc',sc',oc'⟩:=(oc3.full' (Z':=λ _=>True)).setF oy3 jq λ b hb z=>nfp b hb (sc3 b z);have oc2:OwnL M.K (Am H3 r (.lst (us3.set jq w))) (λ _=>True) (cells.set jq y) om (us3.set jq w) fc':=oc'.at trivial ⟨.l us3,hr3⟩ (λ z=>(sc' r z).elim nrc3 λ z=>nfp r z hrf3) λ _ _ n=>absurd trivial n;obtain ⟨f',s',o'⟩:=nx _ _ fc' fp oc2 sc' nfp;have nea:a0≠r:=λ e=>na3 (by rw [e];exact hrf3);have dm:∀ b,H3 b≠none->(Am H3 r (.lst (us3.set jq w))) b≠none:=λ b h=>by
          by_cases eb:b=r
          ·rw [eb,Bq];simp
          ·rw [A3 eb];exact h
         have oF:Own M.K (Am H3 r (.lst (us3.set jq w))) (λ _=>True) (.lst (rows.set p (.lst (cells.set jq y)))) om (.ref a0) (a0::f'):=by
          rw [Own];exact ⟨a0,ws,rfl,.inr ⟨by decide,f',by rw [A3 nea];exact ha3,rfl,λ z=>(s' a0 z).elim na3 λ z=>n3 a0 z (.inr ⟨i,hai3⟩),by rw [EU];exact o'⟩⟩
         have nz:∀ b∈a0::f',¬ Zf M (λ j=>if j=i then [] else fps3 j) b:=λ b hb z=>by
          have hz:Zf M fps3 b:=by
           rcases z with z | ⟨j,z⟩
           ·exact .inl z
           ·by_cases ej:j=i
            ·simp only [if_pos ej] at z;cases z
            ·simp only [if_neg ej] at z;exact .inr ⟨j,z⟩
          have hin:b∈fps3 i:=by
           rw [hf3];rcases ja8.mp hb with e | hb
           ·rw [e];exact AI
           ·exact (s' b hb).elim (λ z=>AB _ z) λ z=>absurd hz (n3 b z)
          rcases z with z | ⟨j,z⟩
          ·exact rep3.zo i b hin z
          ·by_cases ej:j=i
           ·simp only [if_pos ej] at z;cases z
           ·simp only [if_neg ej] at z;exact rep3.dj i j (Br ej) b hin z
         have kw:KS M H3 fps3 (Am H3 r (.lst (us3.set jq w))) (λ j=>if j=i then [] else fps3 j):=⟨λ b u hb n=>by rw [A3 (λ e=>n ⟨i,by rw [e];exact hri⟩)];exact hb,dm,λ j b hb=>by
          by_cases ej:j=i
          ·simp only [if_pos ej] at hb;cases hb
          ·simp only [if_neg ej] at hb;exact .inl ⟨j,hb⟩⟩
         refine q σ _ _ (((k1.ks.trans k2.ks).trans k3.ks).trans kw) (rep3.change (f':=[]) hal e3 hσ (λ b u hb n=>by rw [A3 (λ e=>n (by rw [e];exact hri))];exact hb) dm (λ _ z=>nomatch z) (λ h=>by rw [hm] at h;cases h) ?_);exact Own.freeze (λ _ _=>trivial) _ _ _ _ nz oF
        ·exact q.elim
      ·exact q.elim
     ·exact q.elim
    ·exact q.elim
def Cd (i:Nat) (f:Fx) (vs:List Nat):Fs:=λ ρ=>match ρ[i]? with
 | some (some (.lst _,0))=>.no
 | some (some (.lst _,_ + 1))=>(match f ρ with
  | .ok (.lst ys,e,ρ1)=>(match (Bb e vs ρ1)[i]? with
   | some (some (.lst xs,d))=>if d≠0/\xs.length + ys.length<=Ap then .nx ((Bb e vs ρ1).set i (some (.lst (xs++ys),1))) else .no
   | _=>.no)
  | .ok _=>.no
  | .exc c=>.exc c
  | .no=>.no)
 | _=>.no
def XA {f:Fx}{i:Nat}{D:Ends} (hal:∀ i,M.al i=[]) (hv:∀ i∈vs,M.Ms i=false) (hm:M.Ms i=false) (hq:tS M (Cd i f vs) D σ H):M4 (Ka M.K "list" TM (BE i) (GK (tE M f vs) CY)) D σ H:=by
 obtain ⟨ρ,fps,rep,q⟩:=hq;unfold Cd at q;split at q
 ·exact q.elim
 ·rename_i xs0 d0 e0;obtain ⟨v,hσ,o⟩:=rep.own0 hal i _ _ e0;obtain ⟨a,ws0,fc0,rfl,ha0,hfp0,_,_⟩:=o.list (PD _);refine ⟨_,hσ,Uc (.inl (.inl ha0)),ρ,fps,rep,?_⟩;cases ef:f ρ with
  | no=>rw [ef] at q;exact q
  | exc c=>rw [ef] at q;exact λ H' fps' k=>q _ H' fps' k.ks
  | ok p=>
   obtain ⟨y,e,ρ1⟩:=p;rw [ef] at q;cases y with
   | lst ys=>
    intro w H1 fps1 fp k1 g1 rep1 o1 t1;dsimp only at q;split at q
    ·rename_i xs d es;split at q
     ·rename_i hc;obtain ⟨fps2,k2,r2,o2,n2,s2,h2⟩:=Rep.behind rep k1 g1 rep1 o1 t1 hal hv;obtain ⟨v',hσ',ol⟩:=r2.own0 hal i _ _ es;rw [hσ] at hσ';cases hσ';obtain ⟨a',ws,fc,ev,ha,hfp,nac,hol⟩:=ol.list hc.1;cases ev;have hai:a∈fps2 i:=by rw [hfp];exact AI
      have hafp:a∉fp:=λ z=>n2 a z (.inr ⟨i,hai⟩);have hst:∃ j,a∈fps j:=⟨i,by have:=s2 i a hai;rw [k1.same i hm] at this;exact this⟩
      have zsub:∀ b,Zf M (λ j=>if j=i then [a] else fps2 j) b->Zf (M.plus fp) fps2 b:=λ b h=>by
       rcases h with z | ⟨j,z⟩
       ·exact .inl (.inl z)
       ·by_cases ej:j=i
        ·simp only [if_pos ej] at z;rw [jb2.mp z];exact .inr ⟨i,hai⟩
        ·simp only [if_neg ej] at z;exact .inr ⟨j,z⟩
      have nf:∀ b∈fc,¬ Zf M (λ j=>if j=i then [a] else fps2 j) b:=λ b hb z=>by
       have hbi:b∈fps2 i:=by rw [hfp];exact AB _ hb
       rcases z with z | ⟨j,z⟩
       ·exact r2.zo i b hbi (.inl z)
       ·by_cases ej:j=i
        ·simp only [if_pos ej] at z;rw [jb2.mp z] at hb;exact nac hb
        ·simp only [if_neg ej] at z;exact r2.dj i j (Br ej) b hbi z
      have nfp:∀ b∈fp,¬ Zf M (λ j=>if j=i then [a] else fps2 j) b:=λ b hb z=>by
       rcases z with z | ⟨j,z⟩
       ·exact n2 b hb (.inl z)
       ·by_cases ej:j=i
        ·simp only [if_pos ej] at z;rw [jb2.mp z] at hb;exact hafp hb
        ·simp only [if_neg ej] at z;exact n2 b hb (.inr ⟨j,z⟩)
      have za:Zf M (λ j=>if j=i then [a] else fps2 j) a:=.inr ⟨i,by simp⟩;have u1:=(OwnL.freeze (Z':=Zf M (λ j=>if j=i then [a] else fps2 j)) zsub xs _ ws fc nf hol)
      have u2:=(Own.freeze (Z':=Zf M (λ j=>if j=i then [a] else fps2 j)) (λ b h=>by
       rcases h with z | ⟨j,z⟩
       ·exact .inl (.inl z)
       ·by_cases ej:j=i
        ·simp only [if_pos ej] at z;rw [jb2.mp z];exact .inl (.inr ⟨i,hai⟩)
        ·simp only [if_neg ej] at z;exact .inl (.inr ⟨j,z⟩)) (.lst ys) _ w fp nfp o2)
      obtain ⟨b,us,rfl,hb,u3⟩:=u2.coldL;refine ⟨a,b,ws,us,rfl,rfl,ha,hb,by rw [hol.length,u3.length];exact hc.2,?_⟩;refine q σ _ _ (k2.write (i:=i) (f':=[]) (fp:=fp) hst λ b hb=>?_) (r2.rewrite hal es hσ ha hfp (λ z=>nomatch z) (λ b hb=>nomatch hb) (by decide) (λ h=>by rw [hm] at h;cases h) h2 ?_)
      ·rcases ja8.mp hb with z | z
       ·exact .inl (by rw [z];exact hai)
       ·cases z
      ·rw [IB];exact OwnL.append0 (u3.at za ⟨.l ws,ha⟩ (λ z=>nomatch z) λ _ _ n=>n) (u1.at za ⟨.l ws,ha⟩ (λ z=>nomatch z) λ _ _ n=>n)
     ·exact q.elim
    ·exact q.elim
   | _=>exact q.elim
 ·exact q.elim
end
section
variable {M:Fm}{ρ ρ':Ae}{σ σ':St}{H H' H'':Hp}{fps fps' fps'':AA}{vs vs':List Nat}
end
section
variable {is:List Nat}{M:Fm}{ρ ρ':Ae}{σ σ':St}{H H' H'':Hp}{fps fps' fps'':AA}{vs vs':List Nat}{D:Ends}
end
section
variable {is:List Nat}{M:Fm}{ρ ρ':Ae}{σ σ':St}{H H' H'':Hp}{fps fps' fps'':AA}{vs vs':List Nat}{D:Ends}
end
section
variable {is:List Nat}{X:Cx}{M:Fm}{ρ ρ':Ae}{σ σ':St}{H H' H'':Hp}{fps fps' fps'':AA}{vs vs':List Nat}{D:Ends}
def Sb:DR:=λ o i v H Q=>∃ a H',o=.ref a/\DPut H a i v H'/\Q H'
def WB:DR:=λ o i v H Q=>Ko o i v H Q\/Sb o i v H Q
def WD (hu:X.A.units + 1 < Bx):PSet X Sb:=by
 intro pins s σ H o i v ov iv u Q I ro ri rv h;obtain ⟨a,H',rfl,g,q⟩:=h;obtain rfl:ov=Value.ref a:=ro;exact qJ hu I g ri rv λ s' I'=>⟨H',I',q⟩
def PSet.or {t t':DR} (h:PSet X t) (h':PSet X t'):PSet X (λ o i v H Q=>t o i v H Q\/t' o i v H Q):=by
 intro pins s σ H o i v ov iv u Q I ro ri rv q;rcases q with q | q
 ·exact h pins s σ H o i v ov iv u Q I ro ri rv q
 ·exact h' pins s σ H o i v ov iv u Q I ro ri rv q
def XH {K:Frag}{Z:Addr->Prop}{y:PV}{u:V}{d:Nat}{w:V}{fp:List Addr} (h:sV y=some u) (o:Own K H Z y d w fp):w=u/\GN y=true:=by
 cases y <;> cases h <;> (rw [Own] at o;exact ⟨o.1,rfl⟩)
def FN (x:PV) (k y:PV):Option PV:=match x,k with
 | .lst xs,.int i=>(match C1 xs.length i with
  | some j=>some (.lst (xs.set j y))
  | none=>none)
 | .dct kvs,.tup ks=>(match E3 ks,sV y with
  | some k,some u=>if kvs.length < Ap then some (.dct (BF kvs k u)) else none
  | _,_=>none)
 | _,_=>none
def xW:PV->Bool
 | .lst _=>true
 | _=>false
def M7 (i:Nat) (fk f:Fx):Fs:=λ ρ=>match f ρ with
 | .ok (y,e,ρ1)=>(match ρ1[i]? with
  | some (some _)=>(match fk ρ1 with
   | .ok (k,_,ρ2)=>(match ρ2[i]? with
    | some (some (x,d))=>(match FN x k y with
     | some x'=>if d≠0/\IW y=true then .nx (ρ2.set i (some (x',d))) else if d≠0/\e=om/\xW x=true then .nx (ρ2.set i (some (x',1))) else .no
     | none=>.no)
    | _=>.no)
   | _=>.no)
  | _=>.no)
 | .exc c=>.exc c
 | .no=>.no
def Rep.poke {i:Nat}{x x':PV}{d:Nat}{a:Addr}{o':HO}{f':List Addr}{H0:Hp}{fps0:AA} (hal:∀ i,M.al i=[]) (k0:KS M H0 fps0 H fps) (r:Rep M ρ σ H fps) (hi:ρ[i]?=some (some (x,d))) (hσ:σ[i]?=some (some (.ref a))) (ha:a∈fps i) (hs:∀ b∈f',b∈fps i)
  (o:Own M.K (Am H a o') (Zf M (λ j=>if j=i then f' else fps j)) x' d (.ref a) f'):KS M H0 fps0 (Am H a o') (λ j=>if j=i then f' else fps j)/\Rep M (ρ.set i (some (x',d))) σ (Am H a o') (λ j=>if j=i then f' else fps j):=by
 have dm:∀ b,H b≠none->Am H a o' b≠none:=λ b hb=>by
  by_cases eb:b=a
  ·rw [eb,Bq];simp
  ·rw [A3 eb];exact hb
 refine ⟨⟨λ b u hb n=>?_,λ b hb=>dm b (k0.dom b hb),λ j b hb=>?_⟩,r.change hal hi hσ (λ b u hb n=>?_) dm hs (λ h=>r.msf i _ _ h hi) o⟩
 ·have hb1:=k0.keep b u hb n;rw [A3]
  ·exact hb1
  ·rintro rfl;rcases k0.sub i b ha with z | z
   ·exact n z
   ·rw [z] at hb;cases hb
 ·by_cases ej:j=i
  ·simp only [if_pos ej] at hb;exact k0.sub i b (hs b hb)
  ·simp only [if_neg ej] at hb;exact k0.sub j b hb
 ·rw [A3]
  ·exact hb
  ·rintro rfl;exact n ha
theorem Zd {f fk:Fx}{vk:List Nat}{i:Nat} (hal:∀ i,M.al i=[]) (hm:M.Ms i=false) (hv:∀ i∈vs,M.Ms i=false) (hq:tS M (M7 i fk f) D σ H):CK (tE M f vs) (E9 (BE i) (tE M fk vk) WB) D σ H:=by
 obtain ⟨ρ,fps,rep,q⟩:=hq;refine ⟨ρ,fps,rep,?_⟩;unfold M7 at q;cases ef:f ρ with
 | no=>rw [ef] at q;exact q
 | exc c=>rw [ef] at q;exact λ H' fps' k=>q _ H' fps' k.ks
 | ok p=>
  obtain ⟨y,e,ρ1⟩:=p;rw [ef] at q;intro w H1 fps1 fp k1 g1 rep1 o1 t1;dsimp only at q;cases e1:ρ1[i]? with
  | none=>rw [e1] at q;exact q.elim
  | some s1=>
   rw [e1] at q;cases s1 with
   | none=>exact q.elim
   | some p1=>
   obtain ⟨x1,d1⟩:=p1;dsimp only at q;obtain ⟨v0,hσ,_⟩:=rep1.own i _ _ e1;refine ⟨v0,hσ,ρ1,fps1,rep1,?_⟩;cases ek:fk ρ1 with
   | no=>rw [ek] at q;exact q.elim
   | exc c=>rw [ek] at q;exact q.elim
   | ok p2=>
    obtain ⟨k,ek',ρ2⟩:=p2;rw [ek] at q;intro kv H2 fps2 f2 k2 g2 rep2 o2 t2;dsimp only at q;cases e2:ρ2[i]? with
    | none=>rw [e2] at q;exact q.elim
    | some s2=>
     rw [e2] at q;cases s2 with
     | none=>exact q.elim
     | some p3=>
      obtain ⟨x,d⟩:=p3;dsimp only at q;cases ep:FN x k y with
      | none=>rw [ep] at q;exact q.elim
      | some x'=>
       rw [ep] at q;dsimp only at q;split at q
       ·rename_i hc;obtain ⟨hd,hy⟩:=hc;obtain ⟨v1,hσ1,ox⟩:=rep2.own0 hal i _ _ e2;rw [hσ] at hσ1;cases hσ1;have k12:KS M H fps H2 fps2:=k1.ks.trans k2.ks;unfold FN at ep;split at ep
        ·rename_i xs n;split at ep
         ·rename_i j ej;cases ep;rw [Own] at o2;obtain ⟨rfl,_⟩:=o2;obtain ⟨a,ws,fc,rfl,ha,hfp,nac,hol⟩:=ox.list hd;have hai:a∈fps2 i:=by rw [hfp];exact AI
          have ow:Own M.K H2 (Zf M fps2) y (pd d) w []:=(Own.flatA (d':=pd d) hy (k2.stay rep1 hv o1 t1.ndj)).2;obtain ⟨fc',hs',hset⟩:=hol.set ow j;have inI:∀ b,b∈a::fc'->b∈fps2 i:=λ b hb=>(ja8.mp hb).elim (λ z=>by rw [z];exact hai) λ z=>by rw [hfp];exact AB _ (hs' b z)
          have nz:∀ b,Zf M (λ j=>if j=i then a::fc' else fps2 j) b->Zf M fps2 b:=λ b h=>by
           rcases h with z | ⟨j,z⟩
           ·exact .inl z
           ·by_cases ej:j=i
            ·simp only [if_pos ej] at z;exact .inr ⟨i,inI b z⟩
            ·simp only [if_neg ej] at z;exact .inr ⟨j,z⟩
          refine .inl ⟨a,ws,n,j,rfl,rfl,ha,by rw [hol.length];exact ej,?_⟩;have pk:=rep2.poke (o':=.lst (ws.set j w)) (x':=.lst (xs.set j y)) (f':=a::fc') hal k12 e2 hσ hai inI (by
           rw [Own];exact ⟨a,_,rfl,.inr ⟨hd,fc',Bq,rfl,λ z=>nac (hs' a z),hset.at (.inr ⟨i,hai⟩) ⟨.l ws,ha⟩ (λ z=>nac (hs' a z)) λ b _ n z=>n (nz b z)⟩⟩)
          exact q σ _ _ pk.1 pk.2
         ·cases ep
        ·rename_i kvs ks;split at ep
         ·rename_i kk u ekk eu;split at ep
          ·rename_i hl;cases ep;obtain ⟨rfl,_⟩:=XH eu o1;rw [Own] at o2;obtain ⟨b,ws,rfl,hb,ol⟩:=o2
           have:=Lc ekk ol
           subst this;have hx:∃ a,v0=.ref a/\H2 a=some (.dT kvs)/\fps2 i=[a]:=by
            rw [Own] at ox;obtain ⟨a,ea,⟨d0,_⟩ | ⟨_,ha,hf⟩⟩:=ox
            ·exact absurd d0 hd
            ·exact ⟨a,ea,ha,hf⟩
           obtain ⟨a,rfl,ha,hf⟩:=hx;have hai:a∈fps2 i:=by rw [hf];exact AI
           refine .inr ⟨a,_,rfl,DPut.t ha hb hl,?_⟩;have pk:=rep2.poke (o':=.dT (BF kvs kk w)) (x':=.dct (BF kvs kk w)) (f':=[a]) hal k12 e2 hσ hai (λ b hb=>by rw [jb2.mp hb];exact hai) (by
            rw [Own];exact ⟨a,rfl,.inr ⟨hd,Bq,rfl⟩⟩)
           exact q σ _ _ pk.1 pk.2
          ·cases ep
         ·cases ep
        ·cases ep
       ·split at q
        ·rename_i hc;obtain ⟨hd,rfl,hx⟩:=hc;obtain ⟨v1,hσ1,ox⟩:=rep2.own0 hal i _ _ e2;rw [hσ] at hσ1;cases hσ1;cases x with
         | lst xs=>
          unfold FN at ep;cases k with
          | int n=>
           dsimp only at ep;split at ep
           ·rename_i j ej;cases ep;rw [Own] at o2;obtain ⟨rfl,_⟩:=o2;obtain ⟨a,ws,fc,rfl,ha,hfp,nac,hol⟩:=ox.list hd;have hai:a∈fps2 i:=by rw [hfp];exact AI
            have oy:=k2.stay rep1 hv o1 t1.ndj;have n2:∀ b∈fp,¬ Zf M fps2 b:=λ b hb z=>by
             rcases z with z | ⟨j,z⟩
             ·exact t1.ndj b hb (.inl z)
             ·rcases k2.sub j b z with z | z
              ·exact t1.ndj b hb (.inr ⟨j,z⟩)
              ·obtain ⟨o,ho⟩:=Own.lsts y _ w fp o1 b hb;rw [ho] at z;cases z
            have hafp:a∉fp:=λ z=>n2 a z (.inr ⟨i,hai⟩);have hst:∃ j,a∈fps j:=⟨i,by have:=(k1.trans k2).same i hm;rw [<- this];exact hai⟩
            have rw2:Rep (M.plus fp) ρ2 σ H2 fps2:=rep.wide (λ i j hj=>by rw [hal i] at hj;cases hj) (k1.trans k2) (g1.trans g2) rep2 λ b hb=>⟨t1.new b hb,by obtain ⟨o,ho⟩:=Own.lsts y _ w fp oy b hb;rw [ho];simp,n2 b hb⟩
            have h2:∀ b∈fp,M.H₀ b=none/\¬ M.Zo b:=λ b hb=>⟨rep.h0' (t1.new b hb),λ z=>n2 b hb (.inl z)⟩
            let Z:Addr->Prop:=Zf M (λ j=>if j=i then [a] else fps2 j);have zsub:∀ b,Z b->Zf M fps2 b:=λ b h=>by
             rcases h with z | ⟨j,z⟩
             ·exact .inl z
             ·by_cases ej:j=i
              ·simp only [if_pos ej] at z;rw [jb2.mp z];exact .inr ⟨i,hai⟩
              ·simp only [if_neg ej] at z;exact .inr ⟨j,z⟩
            have nf:∀ b∈fc,¬ Z b:=λ b hb z=>by
             have hbi:b∈fps2 i:=by rw [hfp];exact AB _ hb
             rcases z with z | ⟨j,z⟩
             ·exact rep2.zo i b hbi z
             ·by_cases ej:j=i
              ·simp only [if_pos ej] at z;rw [jb2.mp z] at hb;exact nac hb
              ·simp only [if_neg ej] at z;exact rep2.dj i j (Br ej) b hbi z
            have za:Z a:=.inr ⟨i,by simp⟩;have u1:=OwnL.freeze (Z':=Z) zsub xs _ ws fc nf hol;have u2:=Own.freeze (Z':=Z) (λ b _=>trivial) y _ w fp (λ b hb z=>n2 b hb (zsub b z)) (Own.full (Z':=λ _=>True) y w fp oy);obtain ⟨f',hs',u3⟩:=(u1.at za ⟨.l ws,ha⟩ (λ z=>nomatch z) λ _ _ n=>n).set (u2.at (o:=.lst (ws.set j w)) za ⟨.l ws,ha⟩ (λ z=>nomatch z) λ _ _ n=>n) j;obtain rfl:f'=[]:=ji5.mpr λ b hb=>nomatch hs' b hb
            refine .inl ⟨a,ws,n,j,rfl,rfl,ha,by rw [hol.length];exact ej,?_⟩;refine q σ _ _ ((k1.ks.trans k2.ks).write (i:=i) (f':=[]) (fp:=fp) hst λ b hb=>?_) (rw2.rewrite hal e2 hσ ha hfp (λ z=>nomatch z) (λ b hb=>nomatch hb) (by decide) (λ h=>by rw [hm] at h;cases h) h2 ?_)
            ·rcases ja8.mp hb with z | z
             ·exact .inl (by rw [z];exact hai)
             ·cases z
            ·rw [IB];exact u3
           ·cases ep
          | _=>cases ep
         | _=>cases hx
        ·exact q.elim
def OY (i j:Nat) (f:Fx) (vs:List Nat):Fs:=λ ρ=>match f ρ with
 | .ok (y,e,ρ1)=>(match (Bb e vs ρ1)[i]? with
  | some (some (.lst xs,d))=>(match (Bb e vs ρ1)[j]? with
   | some (some (.int k,_))=>(match C1 xs.length k with
    | some n=>if d≠0 then .nx ((Bb e vs ρ1).set i (some (.lst (xs.set n y),1))) else .no
    | none=>.no)
   | _=>.no)
  | _=>.no)
 | .exc c=>.exc c
 | .no=>.no
theorem Zc {f:Fx}{i j:Nat} (hal:∀ i,M.al i=[]) (hv:∀ i∈vs,M.Ms i=false) (hm:M.Ms i=false) (hq:tS M (OY i j f vs) D σ H):CK (tE M f vs) (E9 (BE i) (BE j) Ko) D σ H:=by
 obtain ⟨ρ,fps,rep,q⟩:=hq;refine ⟨ρ,fps,rep,?_⟩;unfold OY at q;cases ef:f ρ with
 | no=>rw [ef] at q;exact q
 | exc c=>rw [ef] at q;exact λ H' fps' k=>q _ H' fps' k.ks
 | ok p=>
  obtain ⟨y,e,ρ1⟩:=p;rw [ef] at q;intro w H1 fps1 fp k1 g1 rep1 o1 t1;dsimp only at q;split at q
  ·rename_i xs d es;split at q
   ·rename_i k dk ek;split at q
    ·rename_i n en;split at q
     ·rename_i hd;obtain ⟨fps2,k2,r2,o2,n2,s2,h2⟩:=Rep.behind rep k1 g1 rep1 o1 t1 hal hv;obtain ⟨v',hσ,ol⟩:=r2.own0 hal i _ _ es;obtain ⟨a,ws,fc,rfl,ha,hfp,nac,hol⟩:=ol.list hd;obtain ⟨vk,hσk,ok⟩:=r2.own0 hal j _ _ ek;rw [Own] at ok;obtain ⟨rfl,_⟩:=ok;have hai:a∈fps2 i:=by rw [hfp];exact AI
      have hafp:a∉fp:=λ z=>n2 a z (.inr ⟨i,hai⟩);have hst:∃ j,a∈fps j:=⟨i,by have:=s2 i a hai;rw [k1.same i hm] at this;exact this⟩
      refine ⟨_,hσ,_,hσk,a,ws,k,n,rfl,rfl,ha,by rw [hol.length];exact en,?_⟩;refine q σ _ _ (k2.write (i:=i) (f':=[]) (fp:=fp) hst λ b hb=>?_) (r2.rewrite hal es hσ ha hfp (λ z=>nomatch z) (λ b hb=>nomatch hb) (by decide) (λ h=>by rw [hm] at h;cases h) h2 ?_)
      ·rcases ja8.mp hb with z | z
       ·exact .inl (by rw [z];exact hai)
       ·cases z
      ·rw [IB];have zsub:∀ b,Zf M (λ j=>if j=i then [a] else fps2 j) b->Zf (M.plus fp) fps2 b:=λ b h=>by
        rcases h with z | ⟨j,z⟩
        ·exact .inl (.inl z)
        ·by_cases ej:j=i
         ·simp only [if_pos ej] at z;rw [jb2.mp z];exact .inr ⟨i,hai⟩
         ·simp only [if_neg ej] at z;exact .inr ⟨j,z⟩
       have nf:∀ b∈fc,¬ Zf M (λ j=>if j=i then [a] else fps2 j) b:=λ b hb z=>by
        have hbi:b∈fps2 i:=by rw [hfp];exact AB _ hb
        rcases z with z | ⟨j,z⟩
        ·exact r2.zo i b hbi (.inl z)
        ·by_cases ej:j=i
         ·simp only [if_pos ej] at z;rw [jb2.mp z] at hb;exact nac hb
         ·simp only [if_neg ej] at z;exact r2.dj i j (Br ej) b hbi z
       have nfp:∀ b∈fp,¬ Zf M (λ j=>if j=i then [a] else fps2 j) b:=λ b hb z=>by
        rcases z with z | ⟨j,z⟩
        ·exact n2 b hb (.inl z)
        ·by_cases ej:j=i
         ·simp only [if_pos ej] at z;rw [jb2.mp z] at hb;exact hafp hb
         ·simp only [if_neg ej] at z;exact n2 b hb (.inr ⟨j,z⟩)
       have za:Zf M (λ j=>if j=i then [a] else fps2 j) a:=.inr ⟨i,by simp⟩;have u1:=(OwnL.freeze (Z':=Zf M (λ j=>if j=i then [a] else fps2 j)) zsub xs _ ws fc nf hol)
       have u2:=(Own.freeze (Z':=Zf M (λ j=>if j=i then [a] else fps2 j)) (λ b h=>by
        rcases h with z | ⟨j,z⟩
        ·exact .inl (.inl z)
        ·by_cases ej:j=i
         ·simp only [if_pos ej] at z;rw [jb2.mp z];exact .inl (.inr ⟨i,hai⟩)
         ·simp only [if_neg ej] at z;exact .inl (.inr ⟨j,z⟩)) y _ w fp nfp o2)
       obtain ⟨f',hs',u3⟩:=(u1.at za ⟨.l ws,ha⟩ (λ z=>nomatch z) λ _ _ n=>n).set (u2.at (o:=.lst (ws.set n w)) za ⟨.l ws,ha⟩ (λ z=>nomatch z) λ _ _ n=>n) n;obtain rfl:f'=[]:=ji5.mpr λ b hb=>nomatch hs' b hb
       exact u3
     ·exact q.elim
    ·exact q.elim
   ·exact q.elim
  ·exact q.elim
end
section
variable {X:Cx}{W:St->Nat->Hp->Prop}
end
section
variable {X:Cx}{pins pins1:List (Addr×Obj)}{σ:St}{H:Hp}{s:Af}{e:Ac->Af->Prop}
end
section
variable {M:Model}{A:AJ}{E:Ac->Af->Prop}{K:Frag}
end
section
variable {X:Cx}{pins:List (Addr×Obj)}{σ:St}{H H1:Hp}{s:Af}{B:Heap}{a C:Addr}{a0:Ac}{c:Nat}
end
section
variable {is:List Nat}{X:Cx}{M:Fm}{ρ ρ':Ae}{σ σ':St}{H H' H'':Hp}{fps fps' fps'':AA}{vs vs':List Nat}{D:Ends}
end
def Hq (c:Fb) (b:Fs):Nat->Fs
 | 0,_=>.no
 | n + 1,ρ=>match c ρ with
  | .ok (true,ρ1)=>(match b ρ1 with
   | .nx ρ2=>Hq c b n ρ2
   | .ct ρ2=>Hq c b n ρ2
   | .bk ρ2=>.nx ρ2
   | .rt x d ρ2=>.rt x d ρ2
   | .exc e=>.exc e
   | .no=>.no)
  | .ok (false,ρ1)=>.nx ρ1
  | .exc e=>.exc e
  | .no=>.no
def TN (c:Fb) (b:Fs):Fs:=Hq c b 300
theorem qm {M:Fm}{c:Fb}{b:Fs}{n:Nat}{D:Ends}{σ:St}{H:Hp} (hq:tS M (Hq c b n) D σ H):SX (tT M c) (tS M b) D σ H:=by
 refine ⟨λ m σ H=>tS M (Hq c b m) D σ H,⟨n,hq⟩,?_⟩;rintro m σ H ⟨ρ,fps,rep,q⟩;cases m with
 | zero=>exact q.elim
 | succ m=>
  unfold Hq at q;refine ⟨ρ,fps,rep,?_⟩;cases ec:c ρ with
  | no=>rw [ec] at q;exact q
  | exc x=>rw [ec] at q;exact λ H' fps' k=>q _ H' fps' k.ks
  | ok p=>
   obtain ⟨bb,ρ1⟩:=p;rw [ec] at q;intro H1 fps1 k1 g1 rep1;cases bb with
   | false=>
    rw [if_neg C8];exact q σ H1 fps1 k1.ks rep1
   | true=>
    rw [if_pos rfl];refine ⟨λ σ H=>tS M (Hq c b m) D σ H,λ σ' H' w=>⟨m,FY m,w⟩,ρ1,fps1,rep1,?_⟩;dsimp only at q;have q:=RsOk.from k1.ks q;cases eb:b ρ1 with
    | no=>rw [eb] at q;exact q
    | exc x=>rw [eb] at q;exact q
    | rt x d ρ2=>rw [eb] at q;exact q
    | bk ρ2=>rw [eb] at q;exact q
    | nx ρ2=>rw [eb] at q;exact λ σ' H' fps' k r'=>⟨ρ2,fps',r',RsOk.from k q⟩
    | ct ρ2=>rw [eb] at q;exact λ σ' H' fps' k r'=>⟨ρ2,fps',r',RsOk.from k q⟩
section
variable {M:Fm}{ρ ρ':Ae}{σ σ':St}{H H':Hp}{fps fps':AA}{F F':Addr->Prop}{P P':List (Nat×V)}
end
section
variable {X:Cx}{M:Fm}{ρ:Ae}{σ:St}{H:Hp}{fps:AA}
end
def Pd:Expr->Bool
 | .ListComp _ _ _ _=>true
 | .SetComp _ _ _ _=>true
 | .DictComp _ _ _ _ _=>true
 | _=>false
def Wa:Expr->Bool
 | .Tuple _ _ _=>true
 | .List _ _=>true
 | _=>false
def AV (d:Stmt->Option Fs):List Stmt->Option Fs
 | []=>some AK
 | [s]=>d s
 | s::r=>match d s,AV d r with
  | some f,some g=>some (Ag f g)
  | _,_=>none
def E2 (S:Sx) (x:Str):Bool:=CV S.sc x .local || CV S.sc x .cell
def Kk (S:Sx) (i:Nat):Bool:=(decide (i≠0) || !S.msF 0) && !S.pn.contains i
def Sm (iw:Iw) (asg:PV->Ae->Option Ae) (body:Fs):Fs:=match iw with
 | .rng en fa _=>CT en fa asg body
 | .seq f vs=>DZ f vs asg body
 | .vw v fa vs=>IZ v fa vs asg body
def Js (S:Sx):List Expr->Option (List Nat)
 | []=>some []
 | .Name x _::r=>match S.slot x,Js S r with
  | some i,some is=>if E2 S x=true/\Kk S i=true/\S.msF i=false then some (i::is) else none
  | _,_=>none
 | _=>none
def Sx.nr (S:Sx):Sx:={ S with rz:=false }
def EB (S:Sx):Expr->Option D2
 | .Dict [] [] _=>some (KN,[])
 | e=>Be 60 S e
def RS (S:Sx) (x at':Str) (apos:Pos) (e:Expr) (cpos:Pos):Option Fs:=if at' = "append" then (match S.slot x,Be 60 S e with
   | some i,some (f,vs)=>if S.msF i=false/\(apos.endLine == cpos.line)=true then some (Ce i f vs) else none
   | _,_=>none) else if at' = "extend" then (match S.slot x,Be 60 S e with
   | some i,some (f,vs)=>if S.msF i=false/\(apos.endLine == cpos.line)=true then some (Cd i f vs) else none
   | _,_=>none) else none
def VS (_:Sx) (_:Expr) (_:Str) (_:Pos) (_:Expr) (_:Pos):Option Fs:=none
def KC (S:Sx):Expr->Option Fs
 | .Call fn es [] p1=>(match fn with
  | .Attribute o at' apos=>(match FQ o,es with
   | some x,[e]=>RS S x at' apos e p1
   | none,[e]=>VS S o at' apos e p1
   | _,_=>none)
  | .Name x p=>(match Be 60 S (.Call (.Name x p) es [] p1) with
   | some (f,_)=>some (Ca f)
   | none=>none)
  | _=>none)
 | _=>none
def Po:PV->Nat->PV->Nat->Option (PV×Nat)
 | .lst xs,d,.int i,_=>(Bg xs i).map λ z=>(z,if d=om then om else dv z)
 | _,_,_,_=>none
theorem OwnL.nthF {K:Frag}{H:Hp}{Z:Addr->Prop}{d:Nat}{x:PV}:∀ {xs:List PV}{ws:List V}{f:List Addr}{j:Nat},OwnL K H Z xs d ws f->xs[j]?=some x->∃ w fx,ws[j]?=some w/\Own K H Z x d w fx/\∀ a∈fx,a∈f
 | [],_,_,_,_,e=>by cases e
 | y::ys,ws,f,j,h,e=>by
  rw [OwnL] at h;obtain ⟨v,s,f1,f2,rfl,rfl,_,h1,h2⟩:=h;cases j with
  | zero=>cases e;exact ⟨v,f1,rfl,h1,λ a ha=>AZ _ ha⟩
  | succ j=>
   obtain ⟨w,fx,e1,o,s'⟩:=h2.nthF (j:=j) (by simpa using e);exact ⟨w,fx,by simpa using e1,o,λ a ha=>AL _ (s' a ha)⟩
def Ky:List (PV×Nat)->Bool
 | []=>true
 | p::r=>((p.2 == om) || IW p.1) && Ky r
def Pr (xs:List (PV×Nat)):Option (PV×Nat):=if xs.length<=Ap then some (.lst (xs.map (·.1)),if Ky xs then om else 1) else none
theorem Tmps.allF {K:Frag}{H:Hp}{Z:Addr->Prop}:∀ {xs:List (PV×Nat)}{ws:List V}{fp:List Addr},Tmps K H Z xs ws fp->Ky xs=true->OwnL K H Z (xs.map (·.1)) om ws fp
 | [],_,_,h,_=>by rw [FT,OwnL];exact h
 | (x,d)::xs,ws,fp,h,ha=>by
  obtain ⟨v,s,f1,f2,e1,e2,dj,h1,h2⟩:=h;unfold Ky at ha;rw [A4,E4] at ha;rw [BH,OwnL];rcases ha.1 with e | e
  ·have e:d=om:=eq_of_beq e;subst e;exact ⟨v,s,f1,f2,e1,e2,dj,Own.full x v f1 h1,h2.allF ha.2⟩
  ·obtain ⟨rfl,o⟩:=Own.flatA (Z':=Z) (d':=om) e h1;exact ⟨v,s,[],f2,e1,e2,dj,o,h2.allF ha.2⟩
section
variable {X:Cx}{M:Fm}{a b:Expr}{es:List Expr}{fa:Fa}{f g:Fx}{vs vs':List Nat}{pos:Pos}
def YN (h:PA X es (tL M fa vs)):PE X (.List es pos) (tE M (Aq Pr fa) vs):=by
 refine AO (SH h) λ σ H Q h=>L4 (r:=λ xs H1 Q=>xs.length<=Ap/\∀ p,H1 p=none->Q (.ref p) (Am H1 p (.lst xs))) (λ xs z c ws H fps fp Q ho tm nz zd lf=>?_) h;unfold Pr at ho;split at ho
 ·rename_i hl;refine ⟨by rw [tm.length];exact hl,λ q hq=>?_⟩;cases eo:Ky xs with
  | true=>rw [eo] at ho;cases ho;exact N6 lf (tm.allF eo) hq
  | false=>rw [eo] at ho;cases ho;exact Nk lf (tm.cold λ a ha z=>nz a ha z.zf) hq
 ·cases ho
def Zu (hv:∀ i∈vs,M.Ms i=false) (hs:Lv b) (ha:PE X a (tE M f vs)) (hb:PE X b (tE M g vs')):PE X (.Subscript a b pos) (tE M (Ab Po f g) (vs++vs')):=by
 refine AO (OQ SD ha hb hs) λ σ H Q h=>D7 hv (λ x d y e z c v w H fps f1 f2 Q ho o1 o2 dj nz zd lf=>?_) h;unfold Po at ho;split at ho
 ·rename_i xs i;obtain ⟨z',ez,e2⟩:=ja9.mp ho;rw [Own] at o2;by_cases hd:d=om
  ·subst hd;rw [if_pos rfl] at e2;cases e2;obtain ⟨p,ws,fc,rfl,hp,rfl,nac,ol⟩:=o1.list (by decide:om≠0);rw [EU] at ol;unfold Bg at ez;cases ej:C1 xs.length i with
   | none=>rw [ej] at ez;cases ez
   | some j=>
    rw [ej] at ez;obtain ⟨w',fz,e1,ow,sb⟩:=ol.nthF ez;refine .inl ⟨p,ws,i,w',rfl,o2.1,.inl (.inl hp),?_,lf w' H fz (λ _ _ h=>h) (Own.full _ _ _ ow) λ a ha=>.inl (AZ _ (AB _ (sb a ha)))⟩;unfold Bg;rw [ol.length,ej];exact e1
  ·rw [if_neg hd] at e2;cases e2;obtain ⟨p,ws,rfl,hp,ol⟩:=(cold o1 λ a ha=>nz a (AZ _ ha)).coldL;obtain ⟨w',e1,ow⟩:=ND ol ez;exact .inl ⟨p,ws,i,w',rfl,o2.1,.inl (.inl hp),e1,Ip lf ow⟩
 ·cases ho
end
def EA (S:Sx) (e:Expr):Option D2:=match e with
 | .Subscript (.List es _) b _=>(match DD (Be 60 S) es,Be 60 S b with
  | some (fa,v),some (g,u)=>if Iz b=true then some (Ab Po (Aq Pr fa) g,v++u) else none
  | _,_=>none)
 | e=>Be 60 S e
def Kw (S:Sx) (x:Str) (k e:Expr):Option Fs:=match FQ k,e with
 | some z,.Subscript (.Name _ _) _ _=>(match S.slot x,S.slot z,Be 60 S e with
  | some i,some j,some (f,vs)=>if S.msF i=false then some (OY i j f vs) else none
  | _,_,_=>none)
 | _,_=>none
def Tg (S:Sx) (t k e:Expr):Option Fs:=match t with
 | .Name x _=>(match MU k with
  | some k=>(match S.slot x,Be 60 S e with
    | some i,some (f,vs)=>some (FK i k f)
    | _,_=>none)
  | none=>(match Kw S x k e with
   | some f=>some f
   | none=>(match S.slot x,Be 60 S k,EA S e with
    | some i,some (fk,_),some (f,_)=>if S.msF i=false/\Iz k=true then some (M7 i fk f) else none
    | _,_,_=>none)))
 | .Subscript b i _=>(match FQ b with
  | some x=>(match S.slot x,Be 60 S i,Be 60 S k,EA S e with
    | some s,some (fi,_),some (fj,_),some (f,_)=>if S.msF s=false/\Iz i=true/\Iz k=true then some (OX s fi fj f) else none
    | _,_,_,_=>none)
  | none=>none)
 | _=>none
def Tc (S:Sx) (t e:Expr):Option Fs:=match t with
 | .Tuple es k p=>(match Js S es,Be 60 S e with
   | some is,some (f,vs)=>if Pd e=false/\Wa e=false then some (Dy (CM is) f vs) else none
   | _,_=>none)
 | .Name x _=>(match S.slot x,EB S e with
   | some i,some (f,vs)=>if E2 S x=true/\Kk S i=true then some (Ai (S.msF i) i f vs) else none
   | _,_=>none)
 | .Subscript t k _=>Tg S t k e
 | _=>none
def NI (d:Stmt->Option Fs) (S:Sx) (body:List Stmt):Option Fs:=AV d body
def Td (d:Stmt->Option Fs) (S:Sx) (t it:Expr) (body:List Stmt):Option Fs:=match t with
 | .Name x p=>(match S.slot x,DP (Be 60 S) S it,NI d S body with
    | some i,some iw,some b=>if E2 S x=true/\Kk S i=true/\S.msF i=false/\Ew (.Name x p) iw=true then some (Sm iw (Aj i) b) else none
    | _,_,_=>none)
 | .Tuple es k p=>(match Js S es,DP (Be 60 S) S it,NI d S body with
   | some is,some iw,some b=>some (Sm iw (CM is) b)
   | _,_,_=>none)
 | _=>none
def Th (S:Sx) (e:Expr):Option Fs:=match FQ e with
 | some x=>(match S.slot x with
   | some i=>if S.msF i=true then none else some (FE i)
   | none=>none)
 | none=>(match Be 60 S e with
   | some (f,vs)=>some (Au f)
   | none=>none)
def Wt (_:Sx) (_:Expr) (_:Operator) (_:Expr):Option Fs:=none
def Sx.bare (S:Sx):Sx:={ S with ms:=[] }
def Ge (S:Sx) (c:Expr):Option D2:=(Be 60 S c).or (Be 60 S.bare c)
def J1 (d:Stmt->Option Fs) (S:Sx):Stmt->Option Fs
 | .Raise _ _ _=>some FL
 | .Expr v _=>KC S v
 | .Assign [t] e _=>Tc S t e
 | .If c a b _=>match Ge S c,AV d a,AV d b with
  | some (f,_),some s,some t=>some (Bs (bT f) s t)
  | _,_,_=>none
 | .For t it body [] _=>Td d S t it body
 | .While c body [] _=>match Ge S c,AV d body with
  | some (f,_),some b=>some (TN (bT f) b)
  | _,_=>none
 | .AugAssign t op e _=>Wt S t op e
 | .Return (some e) _=>Th S e
 | _=>none
def Kl:Nat->Sx->Stmt->Option Fs
 | 0,_,_=>none
 | n + 1,S,st=>some ((J1 (Kl n S) S st).getD FL)
section
variable {X:Cx}{P:A0}{w:Ay}{K:Frag}{mg:Str->Option Ac}{base:Heap}{lvl:Nat}{S:Sx}{Wx:St->Nat->Hp->Prop}{M:Fm}{f g:Fx}{vs vs':List Nat}{σ:St}{H:Hp}{Q:VK}
structure SM (X:Cx) (M:Fm) (K:Frag) (S:Sx) (Wx:St->Nat->Hp->Prop):Prop where
 ms:MS M K S Wx
 al:∀ i,M.al i=[]
 io:M.io≠none->S.msF 0=true
 pn:∀ p∈M.pn,p.1∈S.pn
 fn:∀ x,X.fn x=true
 nd:S.N.Nodup
 st:X.stack=X.env::X.outer
 fr:X.env.frame=some X.env.locals
def Ho (P:A0) (w:Ay) (K:Frag) (mg:Str->Option Ac) (base:Heap) (lvl:Nat) (S:Sx) (st:Stmt) (f:Fs):Prop:=∀ {Wx} X M,XS X P w K mg base lvl S Wx->SM X M K S Wx->PS X st (tS M f)
theorem Im {d:Stmt->Option Fs} (hd:∀ st f,d st=some f->Ho P w K mg base lvl S st f):∀ (sts:List Stmt) (f:Fs),AV d sts=some f->∀ {Wx} X M,XS X P w K mg base lvl S Wx->SM X M K S Wx->DB X sts (tS M f)
 | [],f,h=>by cases h;exact λ X M xs sm=>TK YA λ D σ H q=>Yn q
 | [s],f,h=>λ X M xs sm=>YB (hd s f h X M xs sm)
 | s::s'::r,f,h=>by
  unfold AV at h;split at h
  ·rename_i f1 f2 h1 h2;cases h;exact λ X M xs sm=>TK (ZY (hd s f1 h1 X M xs sm) (Im hd (s'::r) f2 h2 X M xs sm)) λ D σ H q=>Yq q
  ·cases h
def NV {x:Str}{i:Nat} (h:S.slot x=some i):S.N[i]?=some x:=by
 unfold Sx.slot at h;split at h
 ·exact Lb h
 ·cases h
def Pf {x:Str} (h:E2 S x=true):EF S.sc x:=by
 unfold E2 at h;rw [E4] at h;exact h.elim (λ h=>.inl (Gz h)) λ h=>.inr (Gz h)
def Lf {i:Nat} (h:Kk S i=true) (sm:SM X M K S Wx):M.Fre i:=by
 unfold Kk at h;rw [A4,E4] at h;refine ⟨λ hio=>?_,λ p hp e=>?_⟩
 ·rcases h.1 with h | h
  ·simpa using h
  ·rw [sm.io hio] at h;cases h
 ·have z:=sm.pn p hp;rw [e] at z;have h2:=h.2;rw [List.contains_iff_mem.mpr z] at h2;cases h2
theorem YV {e:Expr}{t:Option Expr}{l:Nat}{env:Env} (h:Pd e=false):swapsWith e t l env=pure false:=by
 cases e with
 | ListComp _ _ _ _=>cases h
 | SetComp _ _ _ _=>cases h
 | DictComp _ _ _ _ _=>cases h
 | _=>rfl
theorem Z8 (GX:GX K mg S.xc) (G:GS P w K mg base lvl S.Γ) (Gm:Gu P w K mg base lvl S.Γm) (hS:∀ i,∀ j∈S.alF i,S.msF j=false) {n:Nat}{elt:Expr}{gs:List Comprehension}{scope:AW}{pos:Pos} (h:Be (n + 1) S (.ListComp elt gs scope pos)=some (f,vs)):
  ∃ tg ys asg it ifs iw t g vE,gs=[⟨tg,it,ifs,0⟩]/\CompParts P w K mg base lvl S scope tg ys asg it elt ifs iw t g vE/\f=Kh iw ys.length asg t g/\vs=iw.vs++vE.filter (λ i=>decide (i < S.N.length)):=by
 have hd:∀ e f vs,Be n S e=some (f,vs)->A6 P w K mg base lvl S e f vs:=λ e f vs h=>JI GX G Gm n S e f vs rfl rfl rfl hS h;replace h:Ff (Be n) S (.ListComp elt gs scope pos)=some (f,vs):=h
 match gs,h with
 | [],h=>simp [Ff] at h
 | _::_::_,h=>simp [Ff] at h
 | [⟨tg,it,ifs,a⟩],h=>
  by_cases ha:a=0
  ·subst ha;replace h:(match LU S.N.length tg,DP (Be n S) S it with
    | some (xs,asg),some iw=>if Lm S scope xs iw.vs=true/\Ew tg iw=true then (match MD (Be n (AM S scope xs iw.vs)) ifs,Be n (AM S scope xs iw.vs) elt with
     | some t,some (g,vE)=>some (Kh iw xs.length asg t g,iw.vs++vE.filter (λ i=>decide (i < S.N.length)))
     | _,_=>none) else none
    | _,_=>none)=some (f,vs):=h
   split at h
   ·rename_i ys asg iw ht hi;split at h
    ·rename_i hc;split at h
     ·rename_i t g vE h1 h2;cases h;have ck:=Ta hc.1;have giw:=Ln hd (Lo n S) G.1 hi;have hS2:∀ i,∀ j∈(AM S scope ys iw.vs).alF i,(AM S scope ys iw.vs).msF j=false:=λ i j hj=>by
       rw [N2] at hj;show S.msF j=false;split at hj
       ·exact hS i j hj
       ·split at hj
        ·exact giw.1 j hj
        ·cases hj
      have hd2:∀ e f vs,Be n (AM S scope ys iw.vs) e=some (f,vs)->A6 P w K mg base lvl (AM S scope ys iw.vs) e f vs:=λ e f vs h=>JI GX G Gm n _ e f vs rfl rfl rfl hS2 h;exact ⟨tg,ys,asg,it,ifs,iw,t,g,vE,rfl,⟨ht,hc.2,ck,giw,hd2 _ _ _ h2,Rt hd2 h1⟩,rfl,rfl⟩
     ·cases h
    ·cases h
   ·cases h
  ·simp [Ff,ha] at h
def GB (xs:XS X P w K mg base lvl S Wx):JM (An X.prog X.w) X.A X.env X.xe:=xs.po
theorem Qq {es:List Expr}{is:List Nat} (h:Js S es=some is) (xs:XS X P w K mg base lvl S Wx) (sm:SM X M K S Wx):Jn X es (IG is)/\(D9 es X.env).length=is.length/\(D9 es X.env).findIdx? (·.1)=none/\∀ i∈is,Bd M [] i:=by
 induction es generalizing is with
 | nil=>cases h;exact ⟨TH,rfl,rfl,λ _ z=>nomatch z⟩
 | cons e es ih=>
  unfold Js at h;split at h
  ·cases ‹_::_=[]›
  ·rename_i x px r heq;cases heq;split at h
   ·rename_i i js hi hr;split at h
    ·rename_i hc;cases h;obtain ⟨h1,h2,h3,h4⟩:=ih hr;have hN:X.N.Nodup:=by rw [xs.N];exact sm.nd
     have hi':X.N[i]?=some x:=by rw [xs.N];exact NV hi
     have hx:EF X.env.scope x:=by rw [xs.sc];exact Pf hc.1
     refine ⟨QY (Lr hN hi' hx (.inl (sm.fn x))) h1 rfl,by rw [D9,Cf,h2,Cf] <;> (intros;contradiction),?_,λ j hj=>?_⟩
     ·rw [D9,UX,h3] <;> first | rfl | (intros;contradiction)
     ·rcases ja8.mp hj with z | z
      ·rw [z];exact ⟨by rw [sm.ms.ms];exact hc.2.2,Lf hc.2.1 sm,sm.al i,sm.ms.als⟩
      ·exact h4 j z
    ·cases h
   ·cases h
  ·cases h
def Fm.bare (M:Fm):Fm:={ M with Ms:=λ _=>false,H₀:=λ _=>none,io:=none,pn:=[] }
def Rep.bare {ρ:Ae}{fps:AA} (r:Rep M ρ σ H fps):Rep M.bare ρ σ H fps where
 own:=r.own
 non:=r.non
 dj:=r.dj
 zo:=r.zo
 fr:=λ _ _ _ _=>rfl
 zd:=r.zd
 len:=r.len
 msf:=λ _ _ _ h=>nomatch h
 h0:=λ _ h=>absurd rfl h
 iov:=And.intro (λ _ h=>nomatch h) (λ _ h=>nomatch h)
theorem Zh {fb:Fb}{Q:Bool->Hp->Prop} (hq:tT M fb σ H Q):tT M.bare fb σ H Q:=by
 obtain ⟨ρ,fps,rep,q⟩:=hq;refine ⟨ρ,fps,rep.bare,?_⟩;have gr:∀ H' fps',KD M.bare H fps H' fps'->∀ a o,H a=some o->H' a=some o:=λ H' fps' k a o h=>k.keep a o h λ ⟨_,z,_⟩=>nomatch z
 cases e:fb ρ with
 | ok p=>
  obtain ⟨b,ρ'⟩:=p;rw [e] at q;intro H' fps' k ag _;have e1:ρ'=ρ:=List.ext_getElem? λ i=>ag.1 i rfl;subst e1;exact q H' fps (KD.grow (gr H' fps' k)) Agr.refl (rep.grow (gr H' fps' k))
 | exc c=>
  rw [e] at q;intro H' fps' k;exact q H' fps (KD.grow (gr H' fps' k))
 | no=>rw [e] at q;exact q
theorem T8 (GX:GX K mg S.xc) (G:GS P w K mg base lvl S.Γ) (Gm:Gu P w K mg base lvl S.Γm) (hS:∀ i,∀ j∈S.alF i,S.msF j=false) {c:Expr}{f:Fx}{vs:List Nat} (h:Ge S c=some (f,vs)) (xs:XS X P w K mg base lvl S Wx) (m:MS M K S Wx):PT X c (tT M (bT f)):=by
 unfold Ge at h;cases e:Be 60 S c with
 | some p=>
  rw [e] at h;cases h;exact ((JI GX G Gm 60 S c f vs rfl rfl rfl hS e).2.2 X M xs m).2
 | none=>
  rw [e] at h;have h2:Be 60 S.bare c=some (f,vs):=h;have gd:=(JI (S:=S) GX G Gm 60 S.bare c f vs rfl rfl rfl (λ _ _ _=>rfl) h2).2.2 X M.bare ⟨xs.prog,xs.w,xs.K,xs.mg,xs.base,xs.N,xs.sc,xs.calm,xs.room,xs.sl,xs.po,xs.ps,xs.rs⟩ ⟨m.K,rfl,m.al,λ _ _ _=>rfl,m.W,λ _ h=>nomatch h⟩;exact ID gd.2 λ σ H Q q=>Zh q
def RA {d:Stmt->Option Fs}{body:List Stmt}{f:Fs} (hd:∀ e f vs,Be 60 S e=some (f,vs)->A6 P w K mg base lvl S e f vs) (ih:∀ st f,d st=some f->Ho P w K mg base lvl S st f) (h:NI d S body=some f):∀ {Wx} X M,XS X P w K mg base lvl S Wx->SM X M K S Wx->DB X body (tS M f):=by
 exact Im ih _ _ h
def Ym {e:Expr}{f:Fx}{vs:List Nat} (hd:∀ e f vs,Be 60 S e=some (f,vs)->A6 P w K mg base lvl S e f vs) (h:EA S e=some (f,vs)):A6 P w K mg base lvl S e f vs:=by
 unfold EA at h;split at h
 ·split at h
  ·rename_i f1 v1 f2 v2 h1 h2;split at h
   ·rename_i hn;cases h;have g1:=Ek hd _ _ _ h1;have g2:=hd _ _ _ h2;exact BL (DC g1.1 g2.1) rfl (λ _ _=>rfl) λ X M xs m=>Zu (m.v g1.1) (Lj hn) (YN (g1.2.2 X M xs m)) (g2.2.2 X M xs m).1
   ·cases h
  ·cases h
 ·exact hd _ _ _ h
def VA (GX:GX K mg S.xc) (G:GS P w K mg base lvl S.Γ) (Gm:Gu P w K mg base lvl S.Γm) (hS:∀ i,∀ j∈S.alF i,S.msF j=false) {d:Stmt->Option Fs} (ih:∀ (st:Stmt) (f:Fs),d st=some f->Ho P w K mg base lvl S st f):∀ (st:Stmt) (f:Fs),J1 d S st=some f->Ho P w K mg base lvl S st f:=by
 have hd:∀ e f vs,Be 60 S e=some (f,vs)->A6 P w K mg base lvl S e f vs:=λ e f vs h=>JI GX G Gm 60 S e f vs rfl rfl rfl hS h;have hdO:∀ e f vs,EA S e=some (f,vs)->A6 P w K mg base lvl S e f vs:=λ e f vs h=>Ym hd h;have hdA:∀ e f vs,EB S e=some (f,vs)->A6 P w K mg base lvl S e f vs:=λ e f vs h=>by
  unfold EB at h;split at h
  ·cases h;exact BL (λ _ z=>nomatch z) rfl (λ _ _=>rfl) λ X M xs m=>Xs
  ·exact hd _ _ _ h
 intro st f h;have core:True->Ho P w K mg base lvl S st f:=λ _=>by
  unfold J1 at h;split at h
  ·cases h;intro Wx X M xs sm pins s σ H D I q;exact (Ra pins s σ H D I (Sr (t:=Py) q))
  ·rename_i v pos;unfold KC at h;split at h
   ·rename_i fn es cpos;split at h
    ·rename_i o at' apos;split at h
     ·rename_i x e hx;obtain ⟨px,rfl⟩:=GO hx;unfold RS at h;split at h
      ·rename_i hat;subst hat;split at h
       ·rename_i i f1 v1 hi he;split at h
        ·rename_i hc;cases h;have g:=hd _ _ _ he;intro Wx X M xs sm;have hb:=Kt (X:=X) (cpos:=cpos) O7 PySem.F.slot_list_append PySem.F.type_list_append R5 (xs.var (pos:=px) hi) (Dg (g.2.2 X M xs sm.ms).1 DU (Cm (Cn g.2.1))) rfl (Jv g.2.1 X.env cpos) hc.2 (Cm (Cn g.2.1)) rfl;refine Cu (NT hb rfl) λ D σ H q=>?_
         have:=X9 (D:=D) sm.al (sm.ms.v g.1) (by rw [sm.ms.ms];exact hc.1) q
         rw [sm.ms.k xs] at this;exact this
        ·cases h
       ·cases h
      ·split at h
       ·rename_i hat;subst hat;split at h
        ·rename_i i f1 v1 hi he;split at h
         ·rename_i hc;cases h;have g:=hd _ _ _ he;intro Wx X M xs sm;have hb:=Kt (X:=X) (cpos:=cpos) O7 PySem.F.slot_list_extend PySem.F.type_list_extend xa (xs.var (pos:=px) hi) (Dg (g.2.2 X M xs sm.ms).1 DU (Cm (Cn g.2.1))) rfl (Jv g.2.1 X.env cpos) hc.2 (Cm (Cn g.2.1)) rfl;refine Cu (NT hb rfl) λ D σ H q=>?_
          have:=XA (D:=D) sm.al (sm.ms.v g.1) (by rw [sm.ms.ms];exact hc.1) q
          rw [sm.ms.k xs] at this;exact this
         ·cases h
        ·cases h
       ·cases h
     ·rename_i e hx;cases h
     ·cases h
    ·rename_i x p;split at h
     ·rename_i f1 v1 he;cases h;intro Wx X M xs sm;exact Cu (NT ((hd _ _ _ he).2.2 X M xs sm.ms).1 rfl) λ D σ H q=>YZ q
     ·cases h
    ·cases h
   ·cases h
  ·rename_i t e pos;unfold Tc at h;split at h
   ·rename_i es k p;split at h
    ·rename_i is f1 v1 hs he;split at h
     ·rename_i hc;cases h;have g:=hd _ _ _ he;intro Wx X M xs sm;obtain ⟨h1,h2,h3,h4⟩:=Qq hs xs sm;have mk:M.K=X.K:=sm.ms.k xs;refine Cu (JA (g.2.2 X M xs sm.ms).1 (Pl xs.calm h1 h2 h3) ?_ ?_ ?_) λ D σ H q=>?_
      ·cases e <;> first | rfl | (cases hc.1)
      ·cases e <;> first | rfl | (cases hc.2)
      ·rfl
      ·have:=Yr sm.al (sm.ms.v g.1) (OU h4) q
       rw [mk] at this;exact this
     ·cases h
    ·cases h
   ·rename_i x px;split at h
    ·rename_i i f1 v1 hi he;split at h
     ·rename_i hc;cases h;have g:=hdA _ _ _ he;intro Wx X M xs sm;have hN:X.N.Nodup:=by rw [xs.N];exact sm.nd
      have hi':X.N[i]?=some x:=by rw [xs.N];exact NV hi
      have hx:EF X.env.scope x:=by rw [xs.sc];exact Pf hc.1
      have mi:M.Ms i=S.msF i:=by rw [sm.ms.ms]
      cases hcp:Pd e with
      | false=>exact Cu (SN hN hi' hx (g.2.2 X M xs sm.ms).1 (YV hcp) (.inl (sm.fn x))) λ D σ H q=>SW sm.al (sm.ms.v g.1) mi (Lf hc.2 sm) q
      | true=>
       cases e with
       | ListComp elt gs scope cpos=>
        obtain ⟨tg,ys,asg,it,ifs,iw,t,g2,vE,rfl,cp,rfl,rfl⟩:=Z8 GX G Gm hS (show Be 60 S _=_ from he);obtain ⟨wi,gg,h1,h2,h3,h4,h5,h6⟩:=R8 (pos:=cpos) cp xs sm.ms;refine Xc (xT hN hi' hx (.inl (sm.fn x)) h2 xs.calm h1 h3 h4 h5 (Lp (n:=0) (f:=g2) (vs:=[]) cp.iwo.2.1)) λ D σ H hl q=>?_;exact h6 σ H _ (by rw [hl,xs.N]) (SW sm.al (sm.ms.v g.1) mi (Lf hc.2 sm) q)
       | SetComp _ _ _ _=>simp [EB,Be,Ff] at he
       | DictComp _ _ _ _ _=>simp [EB,Be,Ff] at he
       | _=>cases hcp
     ·cases h
    ·cases h
   ·rename_i t k ps;unfold Tg at h;split at h
    ·rename_i x px;split at h
     ·rename_i k hk;obtain ⟨k',pk,rfl⟩:=SA hk;split at h
      ·rename_i i f1 v1 hi he;cases h;have g:=hd _ _ _ he;intro Wx X M xs sm;refine Cu (JA (g.2.2 X M xs sm.ms).1 (Lz (xs.var hi) Pt Lw) ?_ ?_ rfl) λ D σ H q=>Yo sm.al (sm.ms.v g.1) q
       ·cases e <;> rfl
       ·cases e <;> rfl
      ·cases h
     ·rename_i hk;split at h
      ·rename_i f' hp;cases h;unfold Kw at hp;split at hp
       ·rename_i z y1 py1 b1 q1 hz;obtain ⟨pz,rfl⟩:=GO hz;split at hp
        ·rename_i i j f1 v1 hi hj he;split at hp
         ·rename_i hc;cases hp;have g:=hd _ _ _ he;intro Wx X M xs sm;exact Cu (JA (g.2.2 X M xs sm.ms).1 (Lz (xs.var hi) (xs.var hj) Lw (λ _=>rfl)) rfl rfl rfl) λ D σ H q=>Zc sm.al (sm.ms.v g.1) (by rw [sm.ms.ms];exact hc) q
         ·cases hp
        ·cases hp
       ·cases hp
      split at h
      ·rename_i i fk vk f1 v1 hi hk he;split at h
       ·rename_i hc;cases h;have g:=hdO _ _ _ he;intro Wx X M xs sm;refine Cu (JA (g.2.2 X M xs sm.ms).1 (Lz (xs.var hi) ((hd _ _ _ hk).2.2 X M xs sm.ms).1 (PSet.or Lw (WD (by have:=xs.room.units;omega))) ?_) ?_ ?_ rfl) λ D σ H q=>Zd sm.al (by rw [sm.ms.ms];exact hc.1) (sm.ms.v g.1) q
        ·intro v;cases k <;> first | rfl | (cases hc.2)
        ·cases e <;> rfl
        ·cases e <;> rfl
       ·cases h
      ·cases h
    ·rename_i b i pi;split at h
     ·rename_i x hx;obtain ⟨px,rfl⟩:=GO hx;split at h
      ·rename_i s fi vi fj vj f1 v1 hs hi hj he;split at h
       ·rename_i hc;cases h;intro Wx X M xs sm;have mk:M.K=X.K:=sm.ms.k xs;refine Cu (JA ((hdO _ _ _ he).2.2 X M xs sm.ms).1 (Lz (OQ qds (xs.var hs) ((hd _ _ _ hi).2.2 X M xs sm.ms).1 (Lj hc.2.1)) ((hd _ _ _ hj).2.2 X M xs sm.ms).1 Lw ?_) ?_ ?_ rfl) λ D σ H q=>?_
        ·intro v;cases k <;> first | rfl | (cases hc.2.2)
        ·cases e <;> rfl
        ·cases e <;> rfl
        ·have:=Zb (vs:=v1) (vi:=vi) (vj:=vj) sm.al (by rw [sm.ms.ms];exact hc.1) q
         rw [mk] at this;exact this
       ·cases h
      ·cases h
     ·cases h
    ·cases h
   ·cases h
  ·split at h
   ·rename_i f1 v1 s t hc ha hb;cases h;intro Wx X M xs sm;exact Cu (Wl (T8 GX G Gm hS hc xs sm.ms) (Im ih _ _ ha X M xs sm) (Im ih _ _ hb X M xs sm)) λ D σ H q=>WH q
   ·cases h
  ·rename_i t it body pos;unfold Td at h;split at h
   ·rename_i x px;split at h
    ·rename_i i iw b hi hw hb;split at h
     ·rename_i hc;cases h;intro Wx X M xs sm;have hN:X.N.Nodup:=by rw [xs.N];exact sm.nd
      have hi':X.N[i]?=some x:=by rw [xs.N];exact NV hi
      have hx:EF X.env.scope x:=by rw [xs.sc];exact Pf hc.1
      have giw:=Ln hd (Lo 60 S) G.1 hw;have hbd:=RA hd ih hb X M xs sm;have hg:Df M [] [i] (ET i) (Aj i):=Sv ⟨by rw [sm.ms.ms];exact hc.2.2.1,Lf hc.2.1 sm,sm.al i,sm.ms.als⟩;have hpg:PG X (.Name x px) (ET i):=Lr hN hi' hx (.inl (sm.fn x));have hpi:=giw.2.2 X M xs sm.ms (.Name x px);have hf:=Lp (n:=0) (env:=X.env) (f:=Aa 0) (vs:=[]) giw.2.1;cases iw with
      | rng en fa vs=>
       rcases hpi with ⟨rfl,hpi⟩ | ⟨rfl,hpi⟩
       ·exact Cu (GP (GB xs) xs.calm hpi hpg hbd hf) λ D σ H q=>TX hg q
       ·exact Cu (GP (GB xs) xs.calm hpi hpg hbd hf) λ D σ H q=>TY hg q
      | seq f vs=>exact Cu (GP (GB xs) xs.calm hpi hpg hbd hf) λ D σ H q=>TZ sm.al (sm.ms.v giw.1) hg q
      | vw v fa vs=>exact Cu (GP (GB xs) xs.calm (hpi hc.2.2.2) hpg hbd hf) λ D σ H q=>Ua sm.al (sm.ms.v giw.1) hg q
     ·cases h
    ·cases h
   ·rename_i es k p;split at h
    ·rename_i is iw b hs hw hb;cases h;intro Wx X M xs sm;have giw:=Ln hd (Lo 60 S) G.1 hw;have hbd:=RA hd ih hb X M xs sm;obtain ⟨h1,h2,h3,h4⟩:=Qq hs xs sm;have mk:M.K=X.K:=sm.ms.k xs;have hg:=OU (M:=M) (al:=[]) h4;have hpg:=Pl (pos:=p) (k:=k) xs.calm h1 h2 h3;rw [<- mk] at hpg;have hpi:=giw.2.2 X M xs sm.ms (.Tuple es k p);have hf:=Lp (n:=0) (env:=X.env) (f:=Aa 0) (vs:=[]) giw.2.1;cases iw with
     | rng en fa vs=>
      rcases hpi with ⟨rfl,hpi⟩ | ⟨rfl,hpi⟩
      ·exact Cu (GP (GB xs) xs.calm hpi hpg hbd hf) λ D σ H q=>TX hg q
      ·exact Cu (GP (GB xs) xs.calm hpi hpg hbd hf) λ D σ H q=>TY hg q
     | seq f vs=>exact Cu (GP (GB xs) xs.calm hpi hpg hbd hf) λ D σ H q=>TZ sm.al (sm.ms.v giw.1) hg q
     | vw v fa vs=>exact Cu (GP (GB xs) xs.calm (hpi (by cases v <;> rfl)) hpg hbd hf) λ D σ H q=>Ua sm.al (sm.ms.v giw.1) hg q
    ·cases h
   ·cases h
  ·split at h
   ·rename_i f1 v1 b hc hb;cases h;intro Wx X M xs sm;exact Cu (ZX xs.po (T8 GX G Gm hS hc xs sm.ms) (Im ih _ _ hb X M xs sm)) λ D σ H q=>qm q
   ·cases h
  ·rename_i t op e pos;cases h
  ·rename_i e pos;unfold Th at h;split at h
   ·rename_i x hx;obtain ⟨px,rfl⟩:=GO hx;split at h
    ·rename_i i hi;split at h
     ·cases h
     ·rename_i hm;cases h;intro Wx X M xs sm;exact Cu (SK (xs.var hi)) λ D σ H q=>Ze sm.al (by rw [sm.ms.ms];simpa using hm) q
    ·cases h
   ·rename_i hx;split at h
    ·rename_i f1 v1 he;cases h;intro Wx X M xs sm;exact Cu (SK ((hd _ _ _ he).2.2 X M xs sm.ms).1) λ D σ H q=>Yp (sm.ms.v (hd _ _ _ he).1) q
    ·cases h
  ·cases h
 exact λ {Wx}=>core trivial
theorem Z7 (GX:GX K mg S.xc) (G:GS P w K mg base lvl S.Γ) (Gm:Gu P w K mg base lvl S.Γm) (hS:∀ i,∀ j∈S.alF i,S.msF j=false):∀ (n:Nat) (st:Stmt) (f:Fs),Kl n S st=some f->Ho P w K mg base lvl S st f:=by
 intro n;induction n with
 | zero=>intro st f h;cases h
 | succ n ih=>
  intro st f h;replace h:some ((J1 (Kl n S) S st).getD FL)=some f:=h;cases e0:J1 (Kl n S) S st with
  | none=>
   rw [e0] at h;cases h;intro Wx X M xs sm pins s σ H D I q;exact (Ra pins s σ H D I (Sr (t:=Py) q))
  | some f'=>
   rw [e0] at h;cases h;exact λ {Wx}=>VA GX G Gm hS ih _ _ e0
def A1:Nat->Sx->Stmt->Option Fs:=Kl
def YG (GX:GX K mg S.xc) (G:GS P w K mg base lvl S.Γ) (Gm:Gu P w K mg base lvl S.Γm) (hS:∀ i,∀ j∈S.alF i,S.msF j=false):∀ (n:Nat) (st:Stmt) (f:Fs),A1 n S st=some f->Ho P w K mg base lvl S st f:=Z7 GX G Gm hS
def Dm:Bool->List PV->Ae
 | true,x::xr=>some (x,om)::xr.map λ x=>some (x,dv x)
 | _,xs=>xs.map λ x=>some (x,dv x)
def Gd (io:Bool) (y:PV) (d:Nat) (ρ:Ae):Rz (PV×Nat×PV):=match io with
 | false=>.ok (y,d,.non)
 | true=>match ρ[0]? with
  | some (some (z,_))=>.ok (y,d,z)
  | _=>.no
def Av (io:Bool) (np k:Nat) (b:Fs):Fn:=λ xs=>if xs.length=np then (match b (Dm io xs++AH k none) with
 | .rt y d ρ=>Gd io y d ρ
 | .nx ρ=>Gd io .non om ρ
 | .exc c=>.exc c
 | _=>.no) else .no
def Fp {io:Bool}{np k:Nat}{b:Fs}:∀ xs,xs.length≠np->Av io np k b xs=.no:=λ xs h=>by
 unfold Av;rw [if_neg h]
theorem QA {io:Bool}{xs:List PV}{i:Nat}{x:PV}{d:Nat} (h:(Dm io xs)[i]?=some (some (x,d))):xs[i]?=some x/\(d=dv x\/(io=true/\i=0/\d=om)):=by
 cases io with
 | false=>
  have h':(xs.map λ x=>(some (x,dv x):Slot))[i]?=some (some (x,d)):=h;rw [DA] at h';cases e:xs[i]? with
  | none=>rw [e] at h';cases h'
  | some y=>rw [e] at h';cases h';exact ⟨rfl,.inl rfl⟩
 | true=>
  cases xs with
  | nil=>simp [Dm] at h
  | cons y r=>
   cases i with
   | zero=>
    have h':some (some (y,om):Slot)=some (some (x,d)):=h;cases h';exact ⟨rfl,.inr ⟨rfl,rfl,rfl⟩⟩
   | succ i=>
    have h':(r.map λ x=>(some (x,dv x):Slot))[i]?=some (some (x,d)):=h;rw [DA] at h';cases e:r[i]? with
    | none=>rw [e] at h';cases h'
    | some y'=>rw [e] at h';cases h';exact ⟨by simpa using e,.inl rfl⟩
def xU (io:Bool) (xs:List PV):(Dm io xs).length=xs.length:=by
 cases io <;> cases xs <;> simp [Dm]
def YI {x qual:Str}{st:Stmt}{f:Addr}{fd:Cr}{N ps:List Str}{k:Nat}{sp:Sp} (F:Fun K x qual st f fd) (S:FnScope N ps (Ax st)) (len:∀ vs H Q E,sp vs H Q E->vs.length=ps.length)
  (hbody:∀ (cdv:Ac) (A:AJ) (outer:List Env) (s:Af) (H:Hp) (vs:List V) (Q:VK) (E:XK),Room k (A.deeper (Ep qual (Ax st) s.heap.objs.size f cdv))->(A.deeper (Ep qual (Ax st) s.heap.objs.size f cdv)).units + 16 * k + 204 < Bx->sp vs H Q E ->
   ∃ t,DB (Bm (A5 P w K) P w K mg base N qual (Ax st) f cdv A outer s H E) (Ba st) t/\t { nx:=λ _ H'=>Q .non H',rt:=Q } (L2.start N vs) H):FnOk P w K mg base (A5 P w K) (k + 1) f fd ps sp:=by
 obtain ⟨oc,od,kV,doc,pm,an,cdv,ct,osl,rfl,lk,hcd⟩:=F.ex;exact VW lk hcd S len λ A outer s H vs Q E hr hu hsp=>hbody cdv A outer s H vs Q E hr hu hsp
def VU {x qual:Str}{st:Stmt}{fa:Addr}{fd:Cr}{ps:List Str}{np k:Nat}{io:Bool}{b:Fs} (Fu:Fun K x qual st fa fd) (FS:FnScope S.N ps (Ax st)) (hsc:S.sc=Ax st) (hal:S.al=[]) (hnp:ps.length=np) (hk:S.N.length=np + k)
  (hms:∀ i∈S.ms,i < np->i=0/\io=true) (hio:io=true->S.msF 0=true/\0 < np) (GX:GX K mg S.xc) (G:GS P w K mg base lvl S.Γ) (Gm:Gu P w K mg base lvl S.Γm) (hb:AV (A1 60 S) (Ba st)=some b):
  FnOk P w K mg base (A5 P w K) (lvl + 1) fa fd ps (AQ K io np (Av io np k b)):=by
 have hS:∀ i,∀ j∈S.alF i,S.msF j=false:=λ i j hj=>by
  unfold Sx.alF at hj;rw [hal] at hj;simp at hj
 refine YI Fu FS (λ vs H Q E h=>h.1.trans hnp.symm) λ cdv A outer s H vs Q E hr hu h=>?_;obtain ⟨hl,xs,Zo,x0,v0,fp0,hZ,hz0,h1,h2,q⟩:=h;let M:Fm:={ K:=K,Ms:=S.msF,Zo:=Zo,H₀:=H,W:=WE E H,io:=if io=true then some v0 else none,al:=λ _=>[] }
 have hxs:XS (Bm (A5 P w K) P w K mg base S.N qual (Ax st) fa cdv A outer s H E) P w K mg base lvl S (WE E H):=⟨rfl,rfl,rfl,rfl,rfl,rfl,hsc.symm,rfl,hr,hu,Y5,ZQ,λ _=>xq⟩
 have hsm:SM (Bm (A5 P w K) P w K mg base S.N qual (Ax st) fa cdv A outer s H E) M K S (WE E H):=by
  refine ⟨⟨rfl,rfl,λ i _=>?_,(λ i j hj=>nomatch hj),rfl,λ _ h=>nomatch h⟩,λ _=>rfl,λ h=>?_,(λ _ h=>nomatch h),λ _=>rfl,FS.nd,rfl,rfl⟩
  ·show []=S.al.getD i [];rw [hal];rfl
  ·have h':(if io=true then some v0 else none)≠none:=h;cases io with
   | true=>exact (hio rfl).1
   | false=>exact absurd rfl h'
 refine ⟨tS M b,Im (YG GX G Gm hS 60) _ _ hb _ M hxs hsm,Dm io xs++AH k none,λ i=>if i=0 then fp0 else [],?_,?_⟩
 ·have hlen:xs.length=vs.length:=by
   cases io with
   | false=>exact (h1 rfl).2.length.symm
   | true=>obtain ⟨xr,wr,rfl,rfl,_,o⟩:=h2 rfl;rw [Cf,Cf,o.length]
  have each:∀ i y d,(Dm io xs)[i]?=some (some (y,d))->∃ v,vs[i]?=some v/\Own K H (λ a=>Zo a\/a∈fp0) y d v (if i=0 then fp0 else []):=λ i y d e=>by
   obtain ⟨e1,e2⟩:=QA e;cases io with
   | false=>
    obtain ⟨rfl,o⟩:=h1 rfl;obtain ⟨v,ev,ov⟩:=o.nth e1;rcases e2 with rfl | ⟨z,_⟩
    ·refine ⟨v,ev,?_⟩;rw [ite_self];exact ov.dv.weak λ a h=>h.elim id λ z=>nomatch z
    ·cases z
   | true=>
    obtain ⟨xr,wr,rfl,rfl,o0,o⟩:=h2 rfl;cases i with
    | zero=>
     simp [Dm] at e;obtain ⟨rfl,rfl⟩:=e;exact ⟨v0,rfl,Own.full _ _ _ o0⟩
    | succ i=>
     obtain ⟨v,ev,ov⟩:=o.nth (j:=i) (by simpa using e1);rcases e2 with rfl | ⟨_,z,_⟩
     ·refine ⟨v,by simpa using ev,?_⟩;rw [if_neg (PD i)];exact ov.dv
     ·cases z
  have inl:∀ i p,(Dm io xs++AH k none)[i]?=some (some p)->(Dm io xs)[i]?=some (some p):=λ i p e=>by
   by_cases hi:i < (Dm io xs).length
   ·rw [Di hi] at e;exact e
   ·rw [Hf (by omega),He] at e;split at e <;> cases e
  have domF:∀ a∈fp0,H a≠none:=λ a ha=>by
   cases io with
   | false=>rw [(h1 rfl).1] at ha;cases ha
   | true=>
    obtain ⟨xr,wr,rfl,rfl,o0,o⟩:=h2 rfl;obtain ⟨ys,e⟩:=Own.lsts _ _ _ _ o0 a ha;rw [e];simp
  refine ⟨λ i y d e=>?_,λ i h=>?_,λ i j hij a ha hb'=>?_,λ i a ha=>?_,λ i hi a ha=>?_,hZ,?_,λ i y d hi e=>?_,λ a h=>h,⟨λ v hv=>?_,λ _ h=>(nomatch h)⟩⟩
  ·obtain ⟨v,ev,ov⟩:=each i y d (inl i _ e);refine ⟨v,?_,ov.weak λ a h=>?_⟩
   ·unfold L2.start;rw [Di (by rw [AF];exact (jb0.mp ev).1),DA,ev];rfl
   ·rcases h with h | ⟨j,_,h⟩
    ·exact .inl h
    ·by_cases ej:j=0
     ·simp only [if_pos ej] at h;exact .inr h
     ·simp only [if_neg ej] at h;cases h
  ·by_cases hi:i=0
   ·subst hi;rw [if_pos rfl];cases io with
    | false=>exact (h1 rfl).1
    | true=>
     obtain ⟨xr,wr,rfl,rfl,_,_⟩:=h2 rfl;exact absurd rfl (h (x0,om))
   ·rw [if_neg hi]
  ·by_cases e1:i=0
   ·by_cases e2:j=0
    ·exact hij (e1.trans e2.symm)
    ·rw [if_neg e2] at hb';cases hb'
   ·simp only [if_neg e1] at ha;cases ha
  ·by_cases e1:i=0
   ·simp only [if_pos e1] at ha;exact hz0 a ha
   ·simp only [if_neg e1] at ha;cases ha
  ·by_cases e1:i=0
   ·simp only [if_pos e1] at ha;cases io with
    | false=>rw [(h1 rfl).1] at ha;cases ha
    | true=>
     have:=(hio rfl).1
     have hi':S.msF i=false:=hi;rw [e1,this] at hi';cases hi'
   ·simp only [if_neg e1] at ha;cases ha
  ·unfold L2.start;rw [BR,xU,Ib,BR,AF,Ib,hlen,hl,hk];omega
  ·have hm:i∈S.ms:=by
    have hi':S.msF i=true:=hi;unfold Sx.msF at hi';simpa using hi'
   obtain ⟨e1,e2⟩:=QA (inl i _ e);have hlt:i < np:=by
    have:=(jb0.mp e1).1
    rw [hlen,hl] at this;exact this
   obtain ⟨rfl,rfl⟩:=hms i hm hlt;obtain ⟨xr,wr,rfl,rfl,_,_⟩:=h2 rfl;have e':=inl 0 _ e;simp [Dm] at e';exact e'.2.symm
  ·have hv':(if io=true then some v0 else none)=some v:=hv;cases io with
   | false=>cases hv'
   | true=>
    cases hv';obtain ⟨xr,wr,rfl,rfl,_,_⟩:=h2 rfl;exact ⟨rfl,(hio rfl).1⟩
 ·unfold Av at q;have hlen:xs.length=np:=by
   by_cases e:xs.length=np
   ·exact e
   ·rw [if_neg e] at q;exact q.elim
  rw [if_pos hlen] at q;have fin:∀ {y:PV}{d:Nat}{ρ':Ae}{v:V}{σ':St}{H':Hp}{fps':AA}{fp:List Addr},(match Gd io y d ρ' with
    | .ok (y,d,z0)=>∀ v H' fp fp0',Cg (λ a=>a∈fp0) H H'->(∀ a,H a≠none->H' a≠none)->(∀ a∈fp0',a∈fp0\/H a=none)->(∀ a∈fp0',¬ Zo a)->(io=false->fp0'=[])->(io=true->Own K H' (λ _=>True) z0 om v0 fp0') ->
      Own K H' (λ a=>(Zo a\/a∈fp0')\/a∈fp) y d v fp->(∀ a∈fp,H a=none/\¬ (Zo a\/a∈fp0'))->Q v H'
    | .exc c=>∀ H',Cg (λ a=>a∈fp0) H H'->(∀ a,H a≠none->H' a≠none)->E (.int (c:Int) 0) none H'
    | .no=>False)->KS M H (λ i=>if i=0 then fp0 else []) H' fps'->Rep M ρ' σ' H' fps'->Own M.K H' (λ a=>Zr M fps' a\/a∈fp) y d v fp->(∀ a∈fp,M.H₀ a=none/\¬ Zr M fps' a)->Q v H':=λ {y d ρ' v σ' H' fps' fp} q ks rp oy hf=>by
   have kp:Cg (λ a=>a∈fp0) H H':=λ a o h n=>ks.keep a o h λ ⟨i,hi⟩=>by
    by_cases e:i=0
    ·simp only [if_pos e] at hi;exact n hi
    ·simp only [if_neg e] at hi;cases hi
   cases io with
   | false=>
    refine q v H' fp [] kp ks.dom (λ _ z=>(nomatch z)) (λ _ z=>(nomatch z)) (λ _=>rfl) (λ h=>(nomatch h)) (oy.weak λ a h=>?_) λ a ha=>⟨(hf a ha).1,λ z=>(hf a ha).2 ?_⟩
    ·rcases h with (h | h) | h
     ·exact .inl (.inl h)
     ·cases h
     ·exact .inr h
    ·rcases z with z | z
     ·exact .inl z
     ·cases z
   | true=>
    unfold Gd at q;cases e0:ρ'[0]? with
    | none=>dsimp only at q;rw [e0] at q;exact q.elim
    | some s0=>
     dsimp only at q;rw [e0] at q;cases s0 with
     | none=>exact q.elim
     | some p0=>
      obtain ⟨z,dz⟩:=p0;have hdz:=rp.msf 0 z dz (hio rfl).1 e0;subst hdz;obtain ⟨u,hu,ou⟩:=rp.own 0 z om e0;have hu0:=(rp.iov.1 v0 rfl).1;rw [hu] at hu0;cases hu0;refine q v H' fp (fps' 0) kp ks.dom (λ a ha=>?_) (λ a ha=>rp.zo 0 a ha) (λ h=>(nomatch h)) (λ _=>Own.full _ _ _ ou) (oy.weak λ a h=>?_) λ a ha=>⟨(hf a ha).1,λ z=>(hf a ha).2 ?_⟩
      ·rcases ks.sub 0 a ha with ⟨j,hj⟩ | z
       ·by_cases e:j=0
        ·simp only [if_pos e] at hj;exact .inl hj
        ·simp only [if_neg e] at hj;cases hj
       ·exact .inr z
      ·rcases h with (h | h) | h
       ·exact .inl (.inl h)
       ·exact .inl (.inr ⟨(λ z=>nomatch z),h⟩)
       ·exact .inr h
      ·rcases z with z | z
       ·exact .inl z
       ·exact .inr ⟨(λ z=>nomatch z),z⟩
  cases eb:b (Dm io xs++AH k none) with
  | no=>rw [eb] at q;exact q
  | exc c=>
   rw [eb] at q;refine λ σ' H' fps' ks=>⟨q H' (λ a o h n=>ks.keep a o h λ ⟨i,hi⟩=>?_) ks.dom,ks.dom⟩
   by_cases e:i=0
   ·simp only [if_pos e] at hi;exact n hi
   ·simp only [if_neg e] at hi;cases hi
  | bk ρ=>rw [eb] at q;exact q.elim
  | ct ρ=>rw [eb] at q;exact q.elim
  | rt y d ρ'=>
   rw [eb] at q;exact λ v σ' H' fps' fp ks rp oy hf=>fin q ks rp oy hf
  | nx ρ'=>
   rw [eb] at q;exact λ σ' H' fps' ks rp=>fin (fp:=[]) q ks rp (by rw [Own];exact ⟨rfl,rfl⟩) λ _ z=>nomatch z
end
open PySem PySem.Spec PySem.W PySem.Calls PyProof.Rows L2
theorem Q0 {tb:String->Option vj3}{p:A0}{w:Ay}{n₀:Nat}{ann:Option Ac}:∀ {n:Nat}{s r:SharedT}{t:Thread},IA tb p w n₀ ann n s t=some r->topRun tb p w n₀ ann n s.abs t=some r.abs
 | 0,_,_,_,h=>by cases h
 | n + 1,s,r,t,h=>by
  unfold IA at h;unfold topRun;cases e1:through t with
  | true=>rw [e1] at h;cases h;rfl
  | false=>
   rw [e1] at h;cases e2:stepOk n₀ ann t with
   | false=>rw [e2] at h;cases h
   | true=>
    rw [e2] at h;cases e3:stepT (denote tb) p w s t with
    | none=>rw [e3] at h;cases h
    | some z=>obtain ⟨s₂,t₂⟩:=z;rw [e3] at h;rw [stepT_spec e3];exact Q0 h
def ZM (P:Params) (os:OsState):(bootS P os).abs=⟨Du P,#[],boot_drawn,boot_toks,os⟩:=by kernel_rfl
def XX (P:Params):(Du P).isNs Dv=true:=by kernel_rfl
def Yy {p q:A0}{loose:List Str}{Xt:Af->Bool}{α:Type}{Yf:Af->α}{Ya:Ay->α}{N:Nat} (e:opening p=plainProg p.main.scope.names) (hN:Nat.ble 600 N=true) (f:∀ s,fenceModules? p s=some s)
  (run:∀ (w:Ay) (os:OsState),(IA treeTable p w (Du w.params).objs.size ((Du w.params).nsMap Dv "__annotations__") N (bootS w.params os) (topStub p)).map (λ s=>NJ p q loose Xt Yf (Du w.params) s.abs)=some (true,openGood q loose,Ya w)):
  LeftO p q loose Xt Yf Ya N:=λ w=>by
 obtain ⟨⟨h,gs,d,k,os⟩,e1,e2⟩:=ja9.mp (boot_open e hN f w);obtain ⟨rfl,rfl,rfl,rfl⟩:h=Du w.params/\gs=#[]/\d=boot_drawn/\k=boot_toks:=by simpa using e2
 obtain ⟨s,r1,r2⟩:=ja9.mp (run w os);have r:=Q0 r1;rw [ZM] at r;have r3:(_=_)/\(_ ,_)=(_,_):=Prod.mk.inj r2;obtain ⟨l1,l23⟩:=r3;obtain ⟨l2,l3⟩:=Prod.mk.inj l23;have t:topFrom treeTable p w N ⟨Du w.params,#[],boot_drawn,boot_toks,os⟩=some s.abs:=by
  unfold topFrom;dsimp only;rw [XX,r];show (match staticsOk (Oj p.main.body) (Du w.params) s.abs.heap && namesBound p s.abs.heap && gensDone s.abs && laidKept (Du w.params) s.abs.heap with | true=>_ | false=>_)=_;rw [l1]
 unfold openEnds;rw [e1];show (topFrom treeTable p w N _).map _=_;rw [t];exact congrArg some (Prod.ext l2 l3)
theorem Xj (h:Heap):(K0 h).In h:=by
 intro a o;unfold K0;generalize AY h.objs.size=l;induction l with
 | nil=>intro e;cases e
 | cons b l ih=>
  intro e;rw [MR] at e;cases g:h.get? b with
  | none=>rw [g] at e;exact ih e
  | some z=>
   rw [g] at e;dsimp only [K3] at e;rw [DM] at e;split at e
   ·rename_i q;cases e;rw [beq_iff_eq.mp q];exact g
   ·exact ih e
def Ws {K:Frag}{x:Str}{st:Stmt} (e:NH K x=some (Pc x st)):∃ (g:Addr) (fd:Cr),nsIn K Dv x=some (some (.ref g))/\Fun K x x st g fd:=by
 unfold NH at e;split at e
 ·rename_i g hg;split at e
  ·rename_i oc od fd sl hl;cases fd;unfold Pc at e;simp only [Option.some.injEq,DefSeen.mk.injEq] at e;obtain ⟨rfl,rfl,rfl,rfl,rfl,rfl,rfl,rfl,rfl,hc⟩:=e;refine ⟨g,_,hg,Wy hl hc ?_⟩;unfold keepIn;dsimp only;rw [hl]
  ·cases e
 ·cases e
structure Given (ds:List (Str×Stmt)) (xc:List Nat) (K:Frag) (mg:Str->Option Ac):Prop where
 df:∀ (i:Nat) (x:Str) (st:Stmt),ds[i]?=some (x,st)->∃ (g:Addr) (fd:Cr),mg x=some (.ref g)/\Fun K x x st g fd
 bn:∀ x∈zzy,mg x=none
 gx:GX K mg xc
theorem Pg {α β:Type}{f g:α->β}:∀ {l:List α},l.map f=l.map g->∀ {i:Nat}{a:α},l[i]?=some a->f a=g a
 | [],_,_,_,h=>by cases h
 | b::l,e,0,a,h=>by
  cases h;exact (List.cons.inj e).1
 | b::l,e,i + 1,a,h=>Pg (List.cons.inj e).2 h
def ZF {ds:List (Str×Stmt)}{xc:List Nat}{K:Frag}{mg:Str->Option Ac}{h:Heap} (X:K.In h) (G:h.Ns Dv mg) (e:Jr ds xc K=JJ ds):Given ds xc K mg:=by
 obtain ⟨e1,e2⟩:=Prod.mk.inj e;obtain ⟨e2,e3⟩:=Prod.mk.inj e2;refine ⟨λ i x st hi=>?_,λ x hx=>?_,λ hne=>?_⟩
 ·obtain ⟨g,fd,a,b⟩:=Ws (Pg e1 hi);exact ⟨g,fd,mg_of X G a,b⟩
 ·obtain ⟨i,hi⟩:=List.getElem?_of_mem hx;exact mg_none_of X G (Pg e2 hi)
 ·have hm:xc.isEmpty=false:=by
   cases xc with
   | nil=>exact absurd rfl hne
   | cons _ _=>rfl
  rw [hm,P8,A4,A4] at e3;refine ⟨e3.1.1,e3.1.2,λ c hc=>?_⟩;have h0:=jb8.mp e3.2 c hc;refine ⟨λ hlt=>?_,λ hge=>?_⟩
  rotate_left
  ·rw [if_neg (jm3.mpr hge)] at h0;split at h0
   ·rename_i x v hx;rw [A4] at h0;have h2:=h0.2;split at h2
    ·rename_i u hu;exact ⟨x,v,u,hx,h2,mg_of X G hu,by simpa using h0.1⟩
    ·cases h2
   ·cases h0
  rw [if_pos hlt] at h0;have h1:=h0;rw [A4] at h1;obtain ⟨C,hC⟩:=jk0.mp h1.1;have hC':=hC;unfold C6 at hC';cases hx:XN[c]? with
  | none=>rw [hx] at hC';cases hC'
  | some x=>
   rw [hx] at hC';dsimp only at hC';have h2:=h1.2;rw [hx] at h2;dsimp only at h2;refine ⟨x,C,rfl,hC,?_,by simpa using h2⟩;split at hC'
   ·rename_i D hD;cases hC';exact mg_of X G hD
   ·cases hC'
def Yh {P:A0}{w:Ay}{K:Frag}{outer:List Env}{H:Hp}{s:Af}{e:Ac}{s2:Af} (z:A5 P w K outer H s (λ _ _ _=>False) e s2):False:=by
 obtain ⟨_,_,_,_,_,_,_,_,_,_,_,_,_,_,_,_,_,_,z⟩:=z;exact z
def holds_by {l:OpenLaw}{q:A0}{loose:List Str}{d:DefRec}{N k n:Nat}{ds:List (Str×Stmt)}{xc:List Nat}{F:Fn}{x:Str} (said:l.wellSaid=true)
  (e:opening l.prog=plainProg l.prog.main.scope.names) (hN:Nat.ble 600 N=true) (f:∀ s,fenceModules? l.prog s=some s)
  (run:∀ (w:Ay) (os:OsState),(IA treeTable l.prog w (Du w.params).objs.size ((Du w.params).nsMap Dv "__annotations__") N (bootS w.params os) (topStub l.prog)).map
   (λ s=>NJ l.prog q loose (λ s=>xlAt q [] s && recOk (RowW.records l.row.toRowW) s) (λ s=>Jr ds xc (K0 s.heap)) (Du w.params) s.abs)=some (true,openGood q loose,JJ ds))
  (hdef:defOf q l.row.name=some (d,[])) (hp:l.row.prog.theDef l.row.name=some (d.params,d.body,d.scope)) (hk:kwWritten? d.params.kwonlyargs d.params.kw_defaults=some []) (hwr:(!l.row.writes || l.row.records.isEmpty)=true)
  (ok:(chainsOk q && opensWell l.row.prog && (frees l.row.toRowW && l.row.within.isEmpty))=true) (hb:l.row.prog.bare) (hw:l.row.toRowW.promised)
  (hn:l.most=some n) (hn2:n<=Ap) (hdf:d.params.defaults=[]) (hr:Room k Hs)
  (law:∀ (K:Frag) (w:Ay) (mg:Str->Option Ac) (fa:Addr),Given ds xc K mg->mg d.name=some (.ref fa)->∃ fd:Cr,(∀ (s:Af) (u:Ac),BindsTo s fd ⟨[u],[]⟩ [(x,u)]) /\
   ∀ base:Heap,FnOk l.prog w K mg base (A5 l.prog w K) k fa fd [x] (AQ K false 1 F))
  (yes:∀ (K:Frag) (H:Hp) (a:Addr) (ns:List Int),ns.length<=n->Gk H->AN K H a (ns.map V.int)->AQ K false 1 F [.ref a] H (λ v _=>v=.bl true) λ _ _ _=>False):l.Holds:=by
 refine holds_law said λ ws=>?_;refine holds_open (q:=q) (loose:=loose) (Xt:=λ s=>xlAt q [] s && recOk (RowW.records l.row.toRowW) s) (XP:=XL q []) (Yf:=λ s=>Jr ds xc (K0 s.heap)) (Ya:=λ _=>JJ ds) (YP:=λ _ h=>∃ K:Frag,K.In h/\Jr ds xc K=JJ ds) (N:=N)
  (Yy e hN f run) (λ _ s z=>⟨_,Xj _,z⟩) (λ _ _ _ ⟨K,a,b⟩ kp=>⟨K,a.keeps kp,b⟩) (λ s e=>xl_of s (jl3.mp e).1) XL.keeps hdef hp hk (λ s e=>recFacts_of (jl3.mp e).2) hwr ws ok hb hw ?_
 refine Att.attach_call hn hdf λ w s₀ s₁ mg mb fa o pm cd doc a vs ns G Y ho hd hcd hmg hobj hints hlen hg=>?_;obtain ⟨K,KX,hf⟩:=Y;obtain ⟨fd,hbd,hF⟩:=law K w mg fa (ZF KX G.T.g hf) hmg;exact qp KX G.T.g G.T.b G.T.builtins G.T.nolimit hg hobj hints (Co hlen hn2) hr (λ base _ _=>hF base) hbd (λ H hO hS=>yes K H a ns hlen hO hS) λ H e s'=>Yh
section
variable {P:A0}{w:Ay}{K:Frag}{mg:Str->Option Ac}{base:Heap}
def Bt {us:List Ac} (h:us.length=1):∃ a,us=[a]:=List.length_eq_one_iff.mp h
theorem Bz {us:List Ac} (h:us.length=2):∃ a b,us=[a,b]:=by
 cases us with
 | nil=>cases h
 | cons a r=>obtain ⟨b,rfl⟩:=Bt (Nat.succ.inj h);exact ⟨a,b,rfl⟩
theorem HU {us:List Ac} (h:us.length=3):∃ a b c,us=[a,b,c]:=by
 cases us with
 | nil=>cases h
 | cons a r=>obtain ⟨b,c,rfl⟩:=Bz (Nat.succ.inj h);exact ⟨a,b,c,rfl⟩
def Bp {lvl:Nat} (hb:∀ x∈zzy,mg x=none):GS P w K mg base lvl []:=⟨hb,λ x io n F h=>by cases h⟩
def Fh {lvl:Nat}{x qual:Str}{st:Stmt}{fa:Addr}{fd:Cr}{ps:List Str}{io:Bool}{n:Nat}{F:Fn}{Γ:List (Str×(Bool×Nat×Fn))} (g:GS P w K mg base lvl Γ) (hx:(x == ("__debug__" : Str))=false) (hF:∀ xs,xs.length≠n->F xs=.no)
  (hm:mg x=some (.ref fa)) (Fu:Fun K x qual st fa fd) (hbd:zky K fd ps []) (hn:ps.length=n) (ok:FnOk P w K mg base (A5 P w K) lvl fa fd ps (AQ K io n F)):GS P w K mg base lvl ((x,(io,n,F))::Γ):=by
 refine ⟨g.1,λ y io' n' F' h=>?_⟩;rw [DM] at h;split at h
 ·rename_i e;cases h
  have:y=x:=eq_of_beq e
  subst this;exact ⟨hx,hF,fa,fd,ps,hm,Fu.kp,hbd,hn,ok⟩
 ·exact g.2 y io' n' F' h
def YJ {lvl:Nat}:Gu P w K mg base lvl []:=λ x F h=>by cases h
def Bf {lvl j:Nat}{x qual:Str}{st:Stmt}{fa:Addr}{fd:Cr}{ps:List Str}{io:Bool}{n:Nat}{F:Fn}{Γ:List (Str×(Bool×Nat×Fn))} (g:GS P w K mg base lvl Γ) (hm:mg x=some (.ref fa)) (Fu:Fun K x qual st fa fd) (hbd:zky K fd ps []) (ok:FnOk P w K mg base (A5 P w K) j fa fd ps (AQ K io n F)) (hl:j<=lvl:=by decide) (hx:(x == ("__debug__" : Str))=false:=by decide +kernel) (hF:∀ xs,xs.length≠n->F xs=.no:=by exact Fp) (hn:ps.length=n:=by rfl):GS P w K mg base lvl ((x,(io,n,F))::Γ):=Fh g hx hF hm Fu hbd hn (ok.mono hl)
def Bu (S:Sx) {lvl:Nat}{x qual:Str}{st:Stmt}{fa:Addr}{fd:Cr}{ps:List Str}{np k:Nat}{io:Bool}{b:Fs} (Fu:Fun K x qual st fa fd) (FS:FnScope S.N ps (Ax st)) (gX:GX K mg S.xc) (G:GS P w K mg base lvl S.Γ) (hb:AV (A1 60 S) (Ba st)=some b) (hsc:S.sc=Ax st:=by rfl) (hal:S.al=[]:=by rfl) (hnp:ps.length=np:=by rfl) (hk:S.N.length=np + k:=by rfl) (hms:∀ i∈S.ms,i < np->i=0/\io=true:=by decide) (hio:io=true->S.msF 0=true/\0 < np:=by first | exact λ h=>Bool.noConfusion h | exact λ _=>⟨rfl,by decide⟩) (Gm:Gu P w K mg base lvl S.Γm:=by exact YJ):FnOk P w K mg base (A5 P w K) (lvl + 1) fa fd ps (AQ K io np (Av io np k b)):=VU (S:=S) Fu FS hsc hal hnp hk hms hio gX G Gm hb
end
def sp_yes {K:Frag}{H:Hp}{a:Addr}{ns:List Int}{F:Fn} (hO:Gk H) (hS:AN K H a (ns.map V.int)) (h:∃ d z,F [.scr ns]=.ok (.bl true,d,z)):AQ K false 1 F [.ref a] H (λ v _=>v=.bl true) λ _ _ _=>False:=by
 refine ⟨rfl,[.scr ns],λ _=>False,.non,.non,[],λ _ z=>z.elim,λ _ z=>(nomatch z),λ _=>⟨rfl,?_⟩,(λ h=>nomatch h),?_⟩
 ·rw [OwnL];refine ⟨.ref a,[],[],[],rfl,rfl,λ _ z=>(nomatch z),?_,by rw [OwnL];exact ⟨rfl,rfl⟩⟩;rw [Own];refine ⟨rfl,a,rfl,?_⟩;rcases hS with (h | h) | h
  ·rcases hO a with z | ⟨ob,xs,z⟩
   ·rw [h] at z;cases z
   ·rw [h] at z;cases z
  ·exact .inl h
  ·exact .inr h
 ·obtain ⟨d,z,e⟩:=h;rw [e];intro v H' fp fp0' _ _ _ _ _ _ o _;rw [Own] at o;exact o.1
end QQ
namespace QV
open PySem PySem.Spec PyProof.Rows L2 QQ
def BW {op:PV->Nat->PV->Nat->Option (PV×Nat)}{f g:Fx}{ρ ρ1 ρ2:Ae}{x y z:PV}{d e c:Nat} (h1:f ρ=.ok (x,d,ρ1)) (h2:g ρ1=.ok (y,e,ρ2)) (h3:op x d y e=some (z,c)):Ab op f g ρ=.ok (z,c,ρ2):=by
 unfold Ab;rw [h1];dsimp only [Rz.bind];rw [h2];dsimp only;rw [h3]
def M6 {op:PV->Nat->Option (PV×Nat)}{f:Fx}{ρ ρ1:Ae}{x z:PV}{d c:Nat} (h1:f ρ=.ok (x,d,ρ1)) (h3:op x d=some (z,c)):AS op f ρ=.ok (z,c,ρ1):=by
 unfold AS;rw [h1];dsimp only [Rz.bind];rw [h3]
def Hl {f:Fx}{fa:Fa}{ρ ρ1 ρ2:Ae}{x:PV}{d:Nat}{xs:List (PV×Nat)} (h1:f ρ=.ok (x,d,ρ1)) (h2:fa ρ1=.ok (xs,ρ2)):Ah f fa ρ=.ok ((x,d)::xs,ρ2):=by
 unfold Ah;rw [h1];dsimp only [Rz.bind];rw [h2]
def Ct {f:Fx}{ρ ρ1:Ae}{x:PV}{d:Nat} (h1:f ρ=.ok (x,d,ρ1)):Ah f Ad ρ=.ok ([(x,d)],ρ1):=Hl h1 rfl
def DY {op:List (PV×Nat)->Option (PV×Nat)}{fa:Fa}{ρ ρ1:Ae}{xs:List (PV×Nat)}{z:PV}{c:Nat} (h1:fa ρ=.ok (xs,ρ1)) (h2:op xs=some (z,c)):Aq op fa ρ=.ok (z,c,ρ1):=by
 unfold Aq;rw [h1];dsimp only [Rz.bind];rw [h2]
def Bj {F:Fn}{fa:Fa}{ρ ρ1:Ae}{xs:List (PV×Nat)}{y z:PV}{d:Nat} (h1:fa ρ=.ok (xs,ρ1)) (h2:F (xs.map (·.1))=.ok (y,d,z)):Az F fa ρ=.ok (y,d,ρ1):=by
 unfold Az;rw [h1];dsimp only [Rz.bind];rw [h2]
def Cv {f:Fx}{ρ ρ1:Ae}{x:PV}{d:Nat} (h:f ρ=.ok (x,d,ρ1)):Au f ρ=.rt x d ρ1:=by
 unfold Au;rw [h]
def Fg {f:Fx}{ρ ρ1:Ae}{x:PV}{d:Nat} (h:f ρ=.ok (x,d,ρ1)):Ca f ρ=.nx ρ1:=by
 unfold Ca;rw [h]
def setF {i:Nat}{f:Fx}{vs:List Nat}{ρ ρ1 ρ2:Ae}{x:PV}{d:Nat} (h:f ρ=.ok (x,d,ρ1)) (hc:i < ρ1.length) (e:(Bb d vs ρ1).set i (some (x,d))=ρ2):Ai false i f vs ρ=.nx ρ2:=by
 unfold Ai;rw [h];dsimp only;rw [if_pos ⟨hc,λ h=>nomatch h⟩,e]
def Pa {i:Nat}{f:Fx}{vs:List Nat}{ρ ρ1 ρ2:Ae}{y:PV}{e:Nat}{xs:List PV}{d0 d:Nat}{xs0:List PV} (h0:ρ[i]?=some (some (.lst xs0,d0 + 1))) (h:f ρ=.ok (y,e,ρ1)) (h1:(Bb e vs ρ1)[i]?=some (some (.lst xs,d))) (hd:d≠0) (hl:xs.length < Ap)
  (e2:(Bb e vs ρ1).set i (some (.lst (xs++[y]),if d=om/\e=om then om else 1))=ρ2):Ce i f vs ρ=.nx ρ2:=by
 unfold Ce;rw [h0];dsimp only;rw [h];dsimp only;rw [h1];dsimp only;rw [if_pos ⟨hd,hl⟩,e2]
def AR {f g:Fs}{ρ ρ1:Ae} (h:f ρ=.nx ρ1):Ag f g ρ=g ρ1:=by
 unfold Ag;rw [h]
def RW {c:Fb}{f g:Fs}{ρ ρ1:Ae}{b:Bool} (hc:c ρ=.ok (b,ρ1)):Bs c f g ρ=if b=true then f ρ1 else g ρ1:=by
 unfold Bs;rw [hc]
def C2 {c:Fb}{f g:Fs}{ρ ρ1:Ae} (hc:c ρ=.ok (true,ρ1)):Bs c f g ρ=f ρ1:=by rw [RW hc];rfl
def D5 {c:Fb}{f g:Fs}{ρ ρ1:Ae} (hc:c ρ=.ok (false,ρ1)):Bs c f g ρ=g ρ1:=by rw [RW hc];rfl
def GJ {c:Fb}{f g:Fs}{ρ ρ1:Ae} (hc:c ρ=.ok (false,ρ1)):Ag (Bs c f AK) g ρ=g ρ1:=AR (by rw [D5 hc];rfl)
def IE {f g:Fs}{ρ ρ1:Ae}{x:PV}{d:Nat} (h:f ρ=.rt x d ρ1):Ag f g ρ=.rt x d ρ1:=by
 unfold Ag;rw [h]
def By {f:Fx}{ρ ρ1:Ae}{b:Bool}{d:Nat} (h:f ρ=.ok (.bl b,d,ρ1)):bT f ρ=.ok (b,ρ1):=by
 unfold bT;rw [h];rfl
def J7 {f:Fx}{ρ ρ1:Ae}{b:Bool}{d:Nat} (h:f ρ=.ok (.bl b,d,ρ1)):AS CQ f ρ=.ok (.bl (!b),om,ρ1):=M6 h rfl
theorem Hm {f g:Fx}{ρ ρ1:Ae}{a b:Bool}{d:Nat} (h:f ρ=.ok (.bl a,d,ρ1)) (h2:a=true->g ρ1=.ok (.bl b,om,ρ1)) (hd:d=om):CD f g ρ=.ok (.bl (a && b),om,ρ1):=by
 subst hd;unfold CD;rw [h];cases a with
 | false=>rfl
 | true=>exact h2 rfl
theorem Sa {f g:Fx}{ρ ρ1:Ae}{a b:Bool}{d:Nat} (h:f ρ=.ok (.bl a,d,ρ1)) (h2:a=false->g ρ1=.ok (.bl b,om,ρ1)) (hd:d=om):BU f g ρ=.ok (.bl (a || b),om,ρ1):=by
 subst hd;unfold BU;rw [h];cases a with
 | true=>rfl
 | false=>exact h2 rfl
def JK {f g:Fx}{ρ ρ1 ρ2:Ae}{i j:Int}{d e:Nat} (h1:f ρ=.ok (.int i,d,ρ1)) (h2:g ρ1=.ok (.int j,e,ρ2)) (h:(-(2 ^ 64) < i/\i < 2 ^ 64)\/(-(2 ^ 64) < j/\j < 2 ^ 64)):Ab BC f g ρ=.ok (.int (i * j),om,ρ2):=by
 refine BW h1 h2 ?_;show (if Ez i j=true then _ else _)=_;rw [if_pos];unfold Ez;rcases h with h | h
 ·rw [decide_eq_true h.1,decide_eq_true h.2];rfl
 ·rw [decide_eq_true h.1,decide_eq_true h.2];simp
def Eg {f g:Fx}{ρ ρ1 ρ2:Ae}{i j:Int}{d e:Nat} (h1:f ρ=.ok (.int i,d,ρ1)) (h2:g ρ1=.ok (.int j,e,ρ2)) (h:0 < j):Ab Bv f g ρ=.ok (.int (i % j),om,ρ2):=by
 refine BW h1 h2 ?_;show (if FO i j=true then _ else _)=_;rw [if_pos];exact decide_eq_true h
def Ss {f g:Fx}{ρ ρ1 ρ2:Ae}{i j:Int}{d e:Nat} (h1:f ρ=.ok (.int i,d,ρ1)) (h2:g ρ1=.ok (.int j,e,ρ2)) (h:0 < j) (h':j < 2 ^ 128):Ab GF f g ρ=.ok (.int (i / j),om,ρ2):=by
 refine BW h1 h2 ?_;show (if E1 i j=true then _ else _)=_;rw [if_pos];unfold E1;rw [decide_eq_true h,decide_eq_true h'];rfl
def JG {f g:Fx}{ρ ρ1 ρ2:Ae}{i j:Int}{d e:Nat} (h1:f ρ=.ok (.int i,d,ρ1)) (h2:g ρ1=.ok (.int j,e,ρ2)):Ab AD f g ρ=.ok (.int (i + j),om,ρ2):=BW h1 h2 rfl
def X3 {f g:Fx}{ρ ρ1 ρ2:Ae}{i j:Int}{d e:Nat} (h1:f ρ=.ok (.int i,d,ρ1)) (h2:g ρ1=.ok (.int j,e,ρ2)):Ab CG f g ρ=.ok (.int (i - j),om,ρ2):=BW h1 h2 rfl
def MB {p:Int->Int->Bool}{f g:Fx}{ρ ρ1 ρ2:Ae}{i j:Int}{d e:Nat} (h1:f ρ=.ok (.int i,d,ρ1)) (h2:g ρ1=.ok (.int j,e,ρ2)):Ab (Cq p) f g ρ=.ok (.bl (p i j),om,ρ2):=BW h1 h2 rfl
def Nq {p q:Int->Int->Bool}{f g h:Fx}{ρ:Ae}{i j k:Int}{d e c:Nat} (h1:f ρ=.ok (.int i,d,ρ)) (h2:g ρ=.ok (.int j,e,ρ)) (h3:h ρ=.ok (.int k,c,ρ)):EJ p q f g h ρ=.ok (.bl (p i j && q j k),om,ρ):=by
 unfold EJ;rw [h1];dsimp only [Rz.bind];rw [h2];dsimp only;by_cases hp:p i j=true
 ·rw [if_pos hp,h3,hp];rfl
 ·rw [if_neg hp]
  have:p i j=false:=by simpa using hp
  rw [this];rfl
def zB {neg:Bool}{i j:Int}{d e:Nat}:A2 neg (.int i) d (.int j) e=some (.bl (neg^^decide (i=j)),om):=by
 show some (PV.bl (neg^^EV (.int i) (.int j)),om)=_
 have:EV (.int i) (.int j)=decide (i=j):=by
  show (i == j)=_;rfl
 rw [this]
def FC {neg:Bool}{f g:Fx}{ρ ρ1 ρ2:Ae}{i j:Int}{d e:Nat} (h1:f ρ=.ok (.int i,d,ρ1)) (h2:g ρ1=.ok (.int j,e,ρ2)):Ab (A2 neg) f g ρ=.ok (.bl (neg^^decide (i=j)),om,ρ2):=BW h1 h2 zB
def il (xs:List Int):PV:=.lst (xs.map .int)
def tb (t:List (List Int)):PV:=.lst (t.map il)
abbrev bx (a b c:Int):PV:=.tup [.int a,.int b,.int c]
def Iv {α:Type}{xs:List α}{k:Int}{x:α} (h0:0<=k) (h:xs[k.toNat]?=some x):Bg xs k=some x:=by
 have hl:=(jb0.mp h).1;unfold Bg C1;rw [if_pos h0,if_pos (by omega)];exact h
def Pk {f g:Fx}{ρ ρ1 ρ2:Ae}{xs:List Int}{k x:Int}{d e:Nat} (h1:f ρ=.ok (il xs,d,ρ1)) (h2:g ρ1=.ok (.int k,e,ρ2)) (h:Bg xs k=some x):Ab A7 f g ρ=.ok (.int x,om,ρ2):=by
 refine BW h1 h2 ?_;show (Bg (xs.map PV.int) k).map _=_
 have:Bg (xs.map PV.int) k=some (.int x):=by
  unfold Bg at h ⊢;rw [AF];cases e:C1 xs.length k with
  | none=>rw [e] at h;cases h
  | some j=>
   rw [e] at h;have h':xs[j]?=some x:=h;show (xs.map PV.int)[j]?=_;rw [DA,h'];rfl
 rw [this];rfl
def W2 {f g:Fx}{ρ ρ1 ρ2:Ae}{t:List (List Int)}{k:Int}{r:List Int}{d e:Nat} (h1:f ρ=.ok (tb t,d,ρ1)) (h2:g ρ1=.ok (.int k,e,ρ2)) (h:Bg t k=some r):Ab A7 f g ρ=.ok (il r,0,ρ2):=by
 refine BW h1 h2 ?_;show (Bg (t.map il) k).map _=_
 have:Bg (t.map il) k=some (il r):=by
  unfold Bg at h ⊢;rw [AF];cases e:C1 t.length k with
  | none=>rw [e] at h;cases h
  | some j=>
   rw [e] at h;have h':t[j]?=some r:=h;show (t.map il)[j]?=_;rw [DA,h'];rfl
 rw [this];rfl
def Pe {fa:Fa}{ρ ρ1:Ae}{xs:List Int}{d:Nat} (h:fa ρ=.ok ([(il xs,d)],ρ1)):Aq Dn fa ρ=.ok (.int xs.length,om,ρ1):=by
 refine DY h ?_;show some (PV.int ((xs.map PV.int).length:Nat),om)=_;rw [AF]
def Xk {fa:Fa}{ρ ρ1:Ae}{t:List (List Int)}{d:Nat} (h:fa ρ=.ok ([(tb t,d)],ρ1)):Aq Dn fa ρ=.ok (.int t.length,om,ρ1):=by
 refine DY h ?_;show some (PV.int ((t.map il).length:Nat),om)=_;rw [AF]
theorem EL {α:Type}{n:Nat}{test:Fb}{elt:Fx}{enc q:α->PV}{e:α->Nat}{p:α->Bool}:∀ (xs:List α) (ρ:Ae) (acc:List (PV×Nat)),ρ.length=n->(∀ x∈xs,test (ρ++[some (enc x,dv (enc x))])=.ok (p x,ρ++[some (enc x,dv (enc x))])) ->
  (∀ x∈xs,p x=true->elt (ρ++[some (enc x,dv (enc x))])=.ok (q x,e x,ρ++[some (enc x,dv (enc x))]))->acc.length + xs.length<=Ap->BY 1 (Aj n) test elt (xs.map enc) ρ acc=.ok (acc++(xs.filter p).map (λ x=>(q x,e x)),ρ)
 | [],ρ,acc,_,_,_,_=>by simp [BY]
 | x::xs,ρ,acc,hn,ht,he,hl=>by
  have ea:Aj n (enc x) (ρ++AH 1 none)=some (ρ++[some (enc x,dv (enc x))]):=by
   unfold Aj;rw [if_pos (by rw [BR,hn];simp),List.set_append_right _ _ (by omega),hn];simp
  have ih:=λ acc h=>EL (n:=n) (test:=test) (elt:=elt) (p:=p) (q:=q) (e:=e) (enc:=enc) xs ρ acc hn (λ y hy=>ht y (AB _ hy)) (λ y hy=>he y (AB _ hy)) h;have tk:(ρ++[some (enc x,dv (enc x))]).take ρ.length=ρ:=by simp
  rw [Cf] at hl;rw [BH];unfold BY;rw [ea];dsimp only;rw [ht x AI];dsimp only [Rz.bindN];cases hp:p x with
  | false=>
   rw [if_neg C8,tk,ih acc (by omega),List.filter_cons_of_neg (by simp [hp])]
  | true=>
   rw [if_pos rfl,he x AI hp];dsimp only;rw [if_pos (by omega),tk,ih _ (by rw [BR,Jl];omega),List.filter_cons_of_pos hp];simp
theorem Il {α:Type} (q:α->PV):∀ xs:List α,C5 (xs.map λ x=>(q x,om))=true
 | []=>rfl
 | x::xs=>by rw [BH];unfold C5;rw [Il q xs];rfl
def KU {α:Type}{n:Nat}{f elt:Fx}{enc q:α->PV}{ρ ρ1:Ae}{d:Nat} (xs:List α) (hf:f ρ=.ok (.lst (xs.map enc),d,ρ1)) (hn:ρ1.length=n) (he:∀ x∈xs,elt (ρ1++[some (enc x,dv (enc x))])=.ok (q x,om,ρ1++[some (enc x,dv (enc x))])) (hl:xs.length<=Ap):
  BK f 1 (Aj n) BJ elt ρ=.ok (.lst (xs.map q),om,ρ1):=by
 unfold BK;rw [hf];dsimp only;rw [EL (p:=λ _=>true) (q:=q) (e:=λ _=>om) xs ρ1 [] hn (λ _ _=>rfl) (λ x hx _=>he x hx) (by simpa using hl),jg0.mpr (λ _ _=>rfl)];show BO (xs.map λ x=>(q x,om)) ρ1=_;unfold BO;rw [Il,De];rfl
def Z4 {α:Type}{n:Nat}{f elt:Fx}{enc q:α->PV}{ρ ρ1:Ae}{d:Nat} (xs:List α) (hf:f ρ=.ok (.tup (xs.map enc),d,ρ1)) (hn:ρ1.length=n) (he:∀ x∈xs,elt (ρ1++[some (enc x,dv (enc x))])=.ok (q x,om,ρ1++[some (enc x,dv (enc x))])) (hl:xs.length<=Ap):
  BK f 1 (Aj n) BJ elt ρ=.ok (.lst (xs.map q),om,ρ1):=by
 unfold BK;rw [hf];dsimp only;rw [EL (p:=λ _=>true) (q:=q) (e:=λ _=>om) xs ρ1 [] hn (λ _ _=>rfl) (λ x hx _=>he x hx) (by simpa using hl),jg0.mpr (λ _ _=>rfl)];show BO (xs.map λ x=>(q x,om)) ρ1=_;unfold BO;rw [Il,De];rfl
def Z3 {α:Type}{n:Nat}{f elt:Fx}{test:Fb}{enc q:α->PV}{p:α->Bool}{ρ ρ1:Ae}{d:Nat} (xs:List α) (hf:f ρ=.ok (.lst (xs.map enc),d,ρ1)) (hn:ρ1.length=n) (ht:∀ x∈xs,test (ρ1++[some (enc x,dv (enc x))])=.ok (p x,ρ1++[some (enc x,dv (enc x))])) (he:∀ x∈xs,p x=true->elt (ρ1++[some (enc x,dv (enc x))])=.ok (q x,om,ρ1++[some (enc x,dv (enc x))])) (hl:xs.length<=Ap):
  BK f 1 (Aj n) test elt ρ=.ok (.lst ((xs.filter p).map q),om,ρ1):=by
 unfold BK;rw [hf];dsimp only;rw [EL (p:=p) (q:=q) (e:=λ _=>om) xs ρ1 [] hn ht he (by simpa using hl)];show BO ((xs.filter p).map λ x=>(q x,om)) ρ1=_;unfold BO;rw [Il,De];rfl
def Nl (lo:Int) (n:Nat):Eh lo n=(AY n).map λ (k:Nat)=>PV.int (lo + (k:Int)):=rfl
def Jy {n:Nat}{en:List (PV×Nat)->Option (Int×Int)}{fa:Fa}{elt:Fx}{q:Nat->PV}{ρ ρ1:Ae}{as:List (PV×Nat)}{lo hi:Int} (hf:fa ρ=.ok (as,ρ1)) (hen:en as=some (lo,hi)) (hn:ρ1.length=n) (he:∀ k,k < (hi - lo).toNat->elt (ρ1++[some (.int (lo + (k:Int)),om)])=.ok (q k,om,ρ1++[some (.int (lo + (k:Int)),om)])) (hl:(hi - lo).toNat<=Ap):
  CF en fa 1 (Aj n) BJ elt ρ=.ok (.lst ((AY (hi - lo).toNat).map q),om,ρ1):=by
 unfold CF;rw [hf];dsimp only;rw [hen];dsimp only;rw [Nl,EL (enc:=λ (k:Nat)=>PV.int (lo + (k:Int))) (p:=λ _=>true) (q:=q) (e:=λ _=>om) (AY (hi - lo).toNat) ρ1 [] hn (λ _ _=>rfl) (λ x hx _=>he x (jc6.mp hx)) (by simpa using hl),jg0.mpr (λ _ _=>rfl)];show BO ((AY (hi - lo).toNat).map λ x=>(q x,om)) ρ1=_;unfold BO;rw [Il,De];rfl
theorem ZL {α:Type} (g:α->Bool) (xs:List α):QQ.allB (xs.map λ x=>.bl (g x))=some (xs.map g):=by
 induction xs with
 | nil=>rfl
 | cons x r ih=>rw [BH,BH,QQ.allB,ih];rfl
def all_ok {α:Type}{f:Fx}{ρ ρ1:Ae}{d:Nat}{g:α->Bool}{xs:List α} (h:f ρ=.ok (.lst (xs.map λ x=>.bl (g x)),d,ρ1)):Aq Em (Ah f Ad) ρ=.ok (.bl (xs.all g),om,ρ1):=by
 refine DY (Ct h) ?_;show (QQ.allB _).map _=_;rw [ZL];simp
theorem Uy {i:Nat}{body:Fs}{lo:Int} (I:Nat->Ae->Prop):∀ (m k:Nat) (ρ:Ae),I k ρ->(∀ j ρ,k<=j->j < k + m->I j ρ->i < ρ.length/\∃ ρ2,body (ρ.set i (some (.int (lo + (j:Int)),om)))=.nx ρ2/\I (j + 1) ρ2) ->
  ∃ ρ',CP (Aj i) body ((Jb k m).map λ (k:Nat)=>PV.int (lo + (k:Int))) ρ=.nx ρ'/\I (k + m) ρ'
 | 0,k,ρ,hi,_=>⟨ρ,rfl,hi⟩
 | m + 1,k,ρ,hi,hb=>by
  obtain ⟨h1,ρ2,e2,h2⟩:=hb k ρ (AE _) (by omega) hi;obtain ⟨ρ',e',h'⟩:=Uy (i:=i) (body:=body) (lo:=lo) I m (k + 1) ρ2 h2 λ j ρ a b=>hb j ρ (by omega) (by omega);refine ⟨ρ',?_,by rw [show k + (m + 1)=k + 1 + m by omega];exact h'⟩;rw [UM,BH];unfold CP
  have:Aj i (PV.int (lo + (k:Int))) ρ=some (ρ.set i (some (.int (lo + (k:Int)),om))):=by
   unfold Aj;rw [if_pos h1];rfl
  rw [this];dsimp only;rw [e2];exact e'
def KY {i:Nat}{body:Fs}{en:List (PV×Nat)->Option (Int×Int)}{fa:Fa}{ρ ρ1:Ae}{as:List (PV×Nat)}{lo hi:Int} (I:Nat->Ae->Prop) (hf:fa ρ=.ok (as,ρ1)) (hen:en as=some (lo,hi)) (h0:I 0 ρ1)
  (hb:∀ j ρ,j < (hi - lo).toNat->I j ρ->i < ρ.length/\∃ ρ2,body (ρ.set i (some (.int (lo + (j:Int)),om)))=.nx ρ2/\I (j + 1) ρ2):∃ ρ',CT en fa (Aj i) body ρ=.nx ρ'/\I (hi - lo).toNat ρ':=by
 obtain ⟨ρ',e,h⟩:=Uy (i:=i) (body:=body) (lo:=lo) I (hi - lo).toNat 0 ρ1 h0 λ j ρ _ h hi=>hb j ρ (by omega) hi;refine ⟨ρ',?_,by rw [Jd] at h;exact h⟩;unfold CT;rw [hf];dsimp only;rw [hen];dsimp only;rw [Nl,List.range_eq_range'];exact e
def Fl {j:Int}{d:Nat} (h1:-(2 ^ 62)<=j) (h2:j < 2 ^ 62):BB [(.int j,d)]=some (0,j):=by
 show (if -(2 ^ 62)<=j/\j < 2 ^ 62 then some ((0:Int),j) else none)=_;rw [if_pos ⟨h1,h2⟩]
def ZA {i j:Int}{d e:Nat} (h1:-(2 ^ 62)<=i) (h2:i < 2 ^ 62) (h3:-(2 ^ 62)<=j) (h4:j < 2 ^ 62):CO [(.int i,d),(.int j,e)]=some (i,j):=by
 show (if -(2 ^ 62)<=i/\i < 2 ^ 62/\-(2 ^ 62)<=j/\j < 2 ^ 62 then some (i,j) else none)=_;rw [if_pos ⟨h1,h2,h3,h4⟩]
def BZ {np k:Nat}{b:Fs}{xs:List PV}{ρ':Ae}{y:PV}{d:Nat} (hl:xs.length=np) (h:b (xs.map (λ x=>some (x,dv x))++AH k none)=.rt y d ρ'):Av false np k b xs=.ok (y,d,.non):=by
 unfold Av;rw [if_pos hl]
 have:Dm false xs=xs.map λ x=>some (x,dv x):=rfl
 rw [this,h];rfl
def RU {np k:Nat}{b:Fs}{xs:List PV}{ρ':Ae} (hl:xs.length=np) (h:b (xs.map (λ x=>some (x,dv x))++AH k none)=.nx ρ'):Av false np k b xs=.ok (.non,om,.non):=by
 unfold Av;rw [if_pos hl]
 have:Dm false xs=xs.map λ x=>some (x,dv x):=rfl
 rw [this,h];rfl
def Xf_is_whole_number:Fs:=(Au (CD (AS (ER "int") (Aa 0)) (AS CQ (AS (ER "bool") (Aa 0)))))
def f_is_whole_number:Fn:=Av false 1 0 Xf_is_whole_number
abbrev _root_.pb9:=Aq Dn (Ah (Aa 0) (Ad))
abbrev _root_.pd2:=CD (Az f_is_whole_number (Ah (Aa 1) (Ad))) (Ab (Cq λ i j=>decide (j<=i)) (Aa 1) (bC (.int 1)))
def Xf_is_box:Fs:=(Ag (Bs (bT (BU (AS CQ (AS (ER "tuple") (Aa 0))) (Ab (A2 true) pb9 (bC (.int 3))))) (Au (bC (.bl false))) AK)
 (Au (Aq Em (Ah (BK (Aa 0) 1 (Aj 1) BJ pd2) (Ad)))))
def f_is_box:Fn:=Av false 1 0 Xf_is_box
def Xf_must_be_box:Fs:=(Bs (bT (AS CQ (Az f_is_box (Ah (Aa 0) (Ad))))) FL AK)
def f_must_be_box:Fn:=Av false 1 0 Xf_must_be_box
abbrev _root_.pc4:=CD (Az f_is_whole_number (Ah (Aa 3) (Ad))) (EJ (λ i j=>decide (i<=j)) (λ i j=>decide (i<=j)) (bC (.int 0)) (Aa 3) (Aa 2))
def Xf_is_row_of_heights:Fs:=(Ag (Bs (bT (BU (AS CQ (AS (ER "list") (Aa 0))) (Ab (A2 true) pb9 (Aa 1)))) (Au (bC (.bl false))) AK)
 (Au (Aq Em (Ah (BK (Aa 0) 1 (Aj 3) BJ pc4) (Ad)))))
def f_is_row_of_heights:Fn:=Av false 3 0 Xf_is_row_of_heights
abbrev _root_.pc9:=Ab (Cq λ i j=>decide (i<=j)) (Ab A7 (Aa 0) (Aa 1)) (Ab A7 (Aa 0) (Ab CG (Aa 1) (bC (.int 1))))
def Xf_never_rises:Fs:=(Au (Aq Em (Ah (CF CO (Ah (bC (.int 1)) (Ah pb9 (Ad))) 1 (Aj 1) BJ pc9) (Ad))))
def f_never_rises:Fn:=Av false 1 0 Xf_never_rises
def Xf_column_of:Fs:=(Au (BK (Aa 0) 1 (Aj 2) BJ (Ab A7 (Aa 2) (Aa 1))))
def f_column_of:Fn:=Av false 2 0 Xf_column_of
abbrev _root_.pd9:=Az f_is_row_of_heights (Ah (Aa 5) (Ah (Aa 3) (Ah (Aa 4) (Ad))))
abbrev _root_.pd5:=Az f_never_rises (Ah (Az f_column_of (Ah (Aa 1) (Ah (Aa 5) (Ad)))) (Ad))
abbrev _root_.pd3:=BU (AS CQ (AS (ER "list") (Aa 1))) (Ab (A2 true) (Aq Dn (Ah (Aa 1) (Ad))) (Aa 2))
abbrev _root_.pe9:=Az f_never_rises (Ah (Aa 5) (Ad))
abbrev _root_.pe8:=Az f_must_be_box (Ah (Aa 0) (Ad))
def Xf_is_pile:Fs:=(Ag (Ca pe8)
 (Ag (Dy (CM [2,3,4]) (Aa 0) [0])
 (Ag (Bs (bT pd3) (Au (bC (.bl false))) AK)
 (Ag (Bs (bT (AS CQ (Aq Em (Ah (BK (Aa 1) 1 (Aj 5) BJ pd9) (Ad))))) (Au (bC (.bl false))) AK)
 (Ag (Bs (bT (AS CQ (Aq Em (Ah (BK (Aa 1) 1 (Aj 5) BJ pe9) (Ad))))) (Au (bC (.bl false))) AK)
 (Au (Aq Em (Ah (CF BB (Ah (Aa 3) (Ad)) 1 (Aj 5) BJ pd5) (Ad)))))))))
def f_is_pile:Fn:=Av false 2 3 Xf_is_pile
abbrev _root_.pa4:=Ah (Aa 0) (Ah (Aa 1) (Ad))
def Xf_must_be_pile:Fs:=(Bs (bT (AS CQ (Az f_is_pile pa4))) FL AK)
def f_must_be_pile:Fn:=Av false 2 0 Xf_must_be_pile
abbrev _root_.pe6:=Ab (Cq λ i j=>decide (j < i)) (Aa 2) (Aa 1)
def Xf_how_many_above:Fs:=(Au (Aq Dn (Ah (BK (Aa 0) 1 (Aj 2) (bT pe6) (Aa 2)) (Ad))))
def f_how_many_above:Fn:=Av false 2 0 Xf_how_many_above
def Xb_cell_at:Fs:=(Ag (Bs (bT (Ab (Cq λ i j=>decide (i < j)) (Aa 1) pb9)) (Au (Ab A7 (Aa 0) (Aa 1))) AK)
 (Au (bC (.int 0))))
def b_cell_at:Fn:=Av false 2 0 Xb_cell_at
abbrev _root_.pa6:=Ab A7 (Aa 0) (bC (.int 1))
abbrev _root_.pe0:=Ah (Aa 1) (Ah (Aa 2) (Ad))
def Xf_mirrored_pile:Fs:=(Ag (Ca (Az f_must_be_pile pa4))
 (Au (CF BB (Ah pa6 (Ad)) 1 (Aj 2) BJ (Az f_column_of pe0))))
def f_mirrored_pile:Fn:=Av false 2 0 Xf_mirrored_pile
abbrev _root_.pa3:=Ab A7 (Aa 0) (bC (.int 2))
abbrev _root_.pb7:=Ah (Aa 1) (Ah (Aa 3) (Ad))
abbrev _root_.pd0:=Az f_how_many_above (Ah (Aa 4) (Ah (Aa 5) (Ad)))
abbrev _root_.pe2:=Ai false 2 (Aq Bo (Ad)) []
def Xf_rolled_pile:Fs:=(Ag (Ca (Az f_must_be_pile pa4))
 (Ag pe2
 (Ag (CT BB (Ah pa6 (Ad)) (Aj 3) (Ag (Ai false 4 (Az f_column_of pb7) [1,3])
 (Ce 2 (CF BB (Ah pa3 (Ad)) 1 (Aj 5) BJ pd0) [4])))
 (FE 2))))
def f_rolled_pile:Fn:=Av false 2 3 Xf_rolled_pile
def Xf_rest_of:Fs:=(Ag (Ca (Az f_must_be_pile pa4))
 (Ag pe2
 (Ag (IZ .rev (Ah (Aa 1) (Ad)) [1] (Aj 3) (Ce 2 (Hn .rev (Ah (Aa 3) (Ad)) 1 (Aj 4) BJ (Ab CG pa3 (Aa 4))) [3,0,3]))
 (FE 2))))
def f_rest_of:Fn:=Av false 2 2 Xf_rest_of
def sz:(1000000:Nat)<=Ap:=by decide
def qQ (i:Int):f_is_whole_number [.int i]=.ok (.bl true,om,.non):=by kernel_rfl
def Gf (a b c:Int):Bool:=decide (1<=a) && (decide (1<=b) && decide (1<=c))
def qT (a b c:Int):f_is_box [bx a b c]=.ok (.bl (Gf a b c),om,.non):=by
 have e0:∀ x∈[a,b,c],pd2 ([some (bx a b c,0)]++[some (.int x,om)])=.ok (.bl (decide (1<=x)),om,[some (bx a b c,0)]++[some (.int x,om)]):=λ x _=>by kernel_rfl
 have e1:=Z4 (n:=1) (f:=Aa 0) (ρ:=[some (bx a b c,0)]) (enc:=PV.int) (q:=λ x=>.bl (decide (1<=x))) (d:=0) [a,b,c] rfl rfl e0 (by have:=sz;show 3<=Ap;omega);refine BZ rfl (ρ':=[some (bx a b c,0)]) ?_;show Xf_is_box [some (bx a b c,0)]=_;refine (GJ (ρ1:=[some (bx a b c,0)]) (by kernel_rfl)).trans (Cv ?_);rw [all_ok e1];show Rz.ok (PV.bl (decide (1<=a) && (decide (1<=b) && (decide (1<=c) && true))),om,_)=_;rw [Je];rfl
def VE {a b c:Int} (h:Gf a b c=true):f_must_be_box [bx a b c]=.ok (.non,om,.non):=by
 refine RU rfl (ρ':=[some (bx a b c,0)]) ?_;have hb:=qT a b c;rw [h] at hb;exact D5 (f:=FL) (g:=AK) (By (J7 (Bj (F:=f_is_box) (fa:=Ah (Aa 0) Ad) (ρ:=[some (bx a b c,0)]) (xs:=[(bx a b c,0)]) rfl hb)))
def Dc (xs:List Int) (c h:Int):Bool:=decide ((xs.length:Int)=c) && xs.all λ x=>decide (0<=x) && decide (x<=h)
def XE (xs:List Int) (c h:Int) (hl:xs.length<=1000):f_is_row_of_heights [il xs,.int c,.int h]=.ok (.bl (Dc xs c h),om,.non):=by
 have e0:∀ x∈xs,pc4 ([some (il xs,0),some (.int c,om),some (.int h,om)]++[some (.int x,om)])=.ok (.bl (decide (0<=x) && decide (x<=h)),om,[some (il xs,0),some (.int c,om),some (.int h,om)]++[some (.int x,om)]):=λ x _=>
  Hm (a:=true) (Bj (xs:=[(.int x,om)]) rfl (qQ x)) (λ _=>Nq (i:=0) (j:=x) (k:=h) rfl rfl rfl) rfl
 have e1:=KU (n:=3) (f:=Aa 0) (ρ:=[some (il xs,0),some (.int c,om),some (.int h,om)]) (enc:=PV.int) (q:=λ x=>.bl (decide (0<=x) && decide (x<=h))) (d:=0) xs rfl rfl e0 (by have:=sz;omega);have t:bT (BU (AS CQ (AS (ER "list") (Aa 0))) (Ab (A2 true) pb9 (Aa 1))) [some (il xs,0),some (.int c,om),some (.int h,om)]=.ok (!decide ((xs.length:Int)=c),[some (il xs,0),some (.int c,om),some (.int h,om)]):=by
  refine By (d:=om) ((Sa (a:=false) rfl (λ _=>FC (Pe (xs:=xs) (d:=0) rfl) (j:=c) rfl) rfl).trans ?_);rw [P8,Bool.true_xor]
 refine BZ rfl (ρ':=[some (il xs,0),some (.int c,om),some (.int h,om)]) ?_;show Xf_is_row_of_heights [some (il xs,0),some (.int c,om),some (.int h,om)]=_;unfold Dc;by_cases hc:(xs.length:Int)=c
 ·rw [decide_eq_true hc] at t ⊢;refine (GJ t).trans (Cv ?_);rw [all_ok e1];rfl
 ·rw [decide_eq_false hc] at t ⊢;exact IE ((C2 t).trans rfl)
def Ec (xs:List Int):Bool:=(AY ((xs.length:Int) - 1).toNat).all λ k=>decide (xs.getD (k + 1) 0<=xs.getD k 0)
def QO (xs:List Int) (hl:xs.length<=1000):f_never_rises [il xs]=.ok (.bl (Ec xs),om,.non):=by
 have e0:∀ k,k < ((xs.length:Int) - 1).toNat->pc9 ([some (il xs,0)]++[some (.int (1 + (k:Int)),om)])=.ok (.bl (decide (xs.getD (k + 1) 0<=xs.getD k 0)),om,[some (il xs,0)]++[some (.int (1 + (k:Int)),om)]):=λ k hk=>by
  refine MB (i:=xs.getD (k + 1) 0) (j:=xs.getD k 0) (Pk (xs:=xs) (k:=1 + (k:Int)) rfl rfl (Iv (by omega) ?_)) (Pk (xs:=xs) (k:=1 + (k:Int) - 1) rfl rfl (Iv (by omega) ?_))
  ·rw [show (1 + (k:Int)).toNat=k + 1 by omega,C9 (show k + 1 < xs.length by omega),BS,C9 (show k + 1 < xs.length by omega)];rfl
  ·rw [show (1 + (k:Int) - 1).toNat=k by omega,C9 (show k < xs.length by omega),BS,C9 (show k < xs.length by omega)];rfl
 have e1:=Jy (n:=1) (en:=CO) (ρ:=[some (il xs,0)]) (q:=λ k=>.bl (decide (xs.getD (k + 1) 0<=xs.getD k 0))) (Hl (f:=bC (.int 1)) (d:=om) (x:=.int 1) rfl (Ct (Pe (fa:=Ah (Aa 0) Ad) (xs:=xs) (d:=0) rfl))) (ZA (by decide) (by decide) (by omega) (by omega)) rfl e0 (by have:=sz;omega);exact BZ rfl (ρ':=[some (il xs,0)]) (Cv (all_ok e1))
def BX (t:List (List Int)) (j:Nat):List Int:=t.map λ r=>r.getD j 0
def J2 {xs:List Int}{j:Nat} (h:j < xs.length):xs[j]?=some (xs.getD j 0):=by
 rw [BS,C9 h];rfl
def NA (t:List (List Int)) (j:Nat) (hl:t.length<=1000) (hr:∀ r∈t,j < r.length):f_column_of [tb t,.int (j:Int)]=.ok (il (BX t j),om,.non):=by
 have e0:∀ r∈t,(Ab A7 (Aa 2) (Aa 1)) ([some (tb t,0),some (.int (j:Int),om)]++[some (il r,0)])=.ok (.int (r.getD j 0),om,[some (tb t,0),some (.int (j:Int),om)]++[some (il r,0)]):=λ r hm=>
  Pk (xs:=r) (k:=(j:Int)) rfl rfl (Iv (by omega) (J2 (hr r hm)))
 have e1:=KU (n:=2) (f:=Aa 0) (ρ:=[some (tb t,0),some (.int (j:Int),om)]) (enc:=il) (q:=λ r=>.int (r.getD j 0)) (d:=0) t rfl rfl e0 (by have:=sz;omega);refine BZ rfl (ρ':=[some (tb t,0),some (.int (j:Int),om)]) ((Cv e1).trans ?_);unfold BX il;rw [De];rfl
def ZK (xs:List Int) (k:Int) (hl:xs.length<=1000):f_how_many_above [il xs,.int k]=.ok (.int ((xs.filter λ x=>decide (k < x)).length:Nat),om,.non):=by
 have e1:=Z3 (n:=2) (f:=Aa 0) (elt:=Aa 2) (test:=bT pe6) (ρ:=[some (il xs,0),some (.int k,om)]) (enc:=PV.int) (q:=PV.int) (p:=λ x=>decide (k < x)) (d:=0) xs rfl rfl (λ x _=>rfl) (λ x _ _=>rfl) (by have:=sz;omega);exact BZ rfl (ρ':=[some (il xs,0),some (.int k,om)]) (Cv (Pe (xs:=xs.filter λ x=>decide (k < x)) (Ct e1)))
def Tab (a b:Nat) (t:List (List Int)):Prop:=t.length=a/\∀ r∈t,r.length=b
def Kn (a b:Nat) (c:Int) (t:List (List Int)):Bool:=(t.all λ r=>Dc r b c) && ((t.all Ec) && ((AY b).all λ j=>Ec (BX t j)))
theorem xF {a b:Nat}{c:Int}{t:List (List Int)} (ht:Tab a b t) (ha:1<=a/\a<=100) (hb:1<=b/\b<=100) (hc:1<=c):f_is_pile [bx a b c,tb t]=.ok (.bl (Kn a b c t),om,.non):=by
 let R0:Ae:=[some (bx a b c,0),some (tb t,0),none,none,none]
 let R1:Ae:=[some (bx a b c,0),some (tb t,0),some (.int a,om),some (.int b,om),some (.int c,om)]
 have hbx:Gf a b c=true:=by unfold Gf;rw [decide_eq_true (by omega),decide_eq_true (by omega),decide_eq_true hc];rfl
 have hs:=sz;have l1:=ht.1;have s1:Ca pe8 R0=.nx R0:=Fg (Bj (xs:=[(bx a b c,0)]) rfl (VE hbx));have s2:Dy (CM [2,3,4]) (Aa 0) [0] R0=.nx R1:=by kernel_rfl
 have t3:bT pd3 R1=.ok (false,R1):=by
  refine By (d:=om) ((Sa (a:=false) rfl (λ _=>FC (Xk (t:=t) (d:=0) rfl) (j:=(a:Int)) rfl) rfl).trans ?_);rw [l1];simp
 have e4:∀ r∈t,pd9 (R1++[some (il r,0)])=.ok (.bl (Dc r b c),om,R1++[some (il r,0)]):=λ r hr=>
  Bj (xs:=[(il r,0),(.int b,om),(.int c,om)]) rfl (XE r b c (by rw [ht.2 r hr];omega))
 have t4:=By (J7 (all_ok (KU (n:=5) (f:=Aa 1) (ρ:=R1) (enc:=il) (q:=λ r=>.bl (Dc r b c)) (d:=0) t rfl rfl e4 (by omega))));have e5:∀ r∈t,pe9 (R1++[some (il r,0)])=.ok (.bl (Ec r),om,R1++[some (il r,0)]):=λ r hr=>
  Bj (xs:=[(il r,0)]) rfl (QO r (by rw [ht.2 r hr];omega))
 have t5:=By (J7 (all_ok (KU (n:=5) (f:=Aa 1) (ρ:=R1) (enc:=il) (q:=λ r=>.bl (Ec r)) (d:=0) t rfl rfl e5 (by omega))));have e6:∀ k,k < ((b:Int) - 0).toNat->pd5 (R1++[some (.int (0 + (k:Int)),om)])=.ok (.bl (Ec (BX t k)),om,R1++[some (.int (0 + (k:Int)),om)]):=λ k hk=>by
  have e:=NA t k (by omega) λ r hr=>by rw [ht.2 r hr];omega
  rw [Jc];exact Bj (xs:=[(il (BX t k),om)]) (Ct (Bj (xs:=[(tb t,0),(.int (k:Int),om)]) rfl e)) (QO _ (by unfold BX;rw [AF];omega))
 have e7:=Jy (n:=5) (en:=BB) (fa:=Ah (Aa 3) Ad) (ρ:=R1) (q:=λ k=>.bl (Ec (BX t k))) (as:=[(.int (b:Int),om)]) rfl (Fl (by omega) (by omega)) rfl e6 (by omega);rw [show ((b:Int) - 0).toNat=b by omega] at e7;refine BZ rfl (ρ':=R1) ?_;show Xf_is_pile R0=_;unfold Kn;refine (AR s1).trans ((AR s2).trans ((GJ t3).trans ?_));cases h1:t.all λ r=>Dc r b c with
 | false=>
  rw [h1] at t4;exact IE ((C2 t4).trans rfl)
 | true=>
  rw [h1] at t4;refine (GJ t4).trans ?_;cases h2:t.all Ec with
  | false=>
   have h2':t.all (λ r=>Ec r)=false:=h2;rw [h2'] at t5;exact IE ((C2 t5).trans rfl)
  | true=>
   have h2':t.all (λ r=>Ec r)=true:=h2;rw [h2'] at t5;exact (GJ t5).trans (Cv (all_ok e7))
def Jx {a b:Nat}{c:Int}{t:List (List Int)} (ht:Tab a b t) (ha:1<=a/\a<=100) (hb:1<=b/\b<=100) (hc:1<=c) (h:Kn a b c t=true):f_must_be_pile [bx a b c,tb t]=.ok (.non,om,.non):=by
 refine RU rfl (ρ':=[some (bx a b c,0),some (tb t,0)]) ?_;have hp:=xF ht ha hb hc;rw [h] at hp;exact D5 (f:=FL) (g:=AK) (By (J7 (Bj (F:=f_is_pile) (fa:=Ah (Aa 0) (Ah (Aa 1) Ad)) (ρ:=[some (bx a b c,0),some (tb t,0)]) (xs:=[(bx a b c,0),(tb t,0)]) rfl hp)))
def MV (xs:List Int) (k:Int):Int:=((xs.filter λ x=>decide (k < x)).length:Nat)
def Ub (t:List (List Int)) (r:List Int):PV.lst ((t.map il)++[il r])=tb (t++[r]):=by
 unfold tb;rw [EZ];rfl
def g (t:List (List Int)) (i j:Nat):Int:=(t.getD i []).getD j 0
structure Pile (a b:Nat) (c:Int) (t:List (List Int)):Prop where
 tab:Tab a b t
 lo:∀ i j,i < a->j < b->0<=g t i j
 hi:∀ i j,i < a->j < b->g t i j<=c
 dn:∀ i j,i + 1 < a->j < b->g t (i + 1) j<=g t i j
 rt:∀ i j,i < a->j + 1 < b->g t i (j + 1)<=g t i j
def NU {t:List (List Int)}{i:Nat} (h:i < t.length):t.getD i []∈t:=by
 rw [BS,C9 h];exact FX h
def Tab.row {a b:Nat}{t:List (List Int)} (h:Tab a b t) {i:Nat} (hi:i < a):(t.getD i []).length=b:=h.2 _ (NU (by rw [h.1];exact hi))
def ZE {xs:List Int}{i:Nat} (h:i < xs.length):xs.getD i 0∈xs:=by
 rw [BS,C9 h];exact FX h
def qt {xs:List Int}{x:Int} (h:x∈xs):∃ i,i < xs.length/\xs.getD i 0=x:=by
 obtain ⟨i,hi,e⟩:=Jj h;exact ⟨i,hi,by rw [BS,C9 hi];exact e⟩
def R4 {t:List (List Int)}{r:List Int} (h:r∈t):∃ i,i < t.length/\t.getD i []=r:=by
 obtain ⟨i,hi,e⟩:=Jj h;exact ⟨i,hi,by rw [BS,C9 hi];exact e⟩
def zhp {xs:List Int}{c h:Int}:Dc xs c h=true↔(xs.length:Int)=c/\∀ x∈xs,0<=x/\x<=h:=by
 unfold Dc;rw [A4,decide_eq_true_iff,jb8];constructor
 ·rintro ⟨h1,h2⟩;refine ⟨h1,λ x hx=>?_⟩
  have:=h2 x hx
  rw [A4,decide_eq_true_iff,decide_eq_true_iff] at this;exact this
 ·rintro ⟨h1,h2⟩;refine ⟨h1,λ x hx=>?_⟩;rw [A4,decide_eq_true_iff,decide_eq_true_iff];exact h2 x hx
def zph {xs:List Int}:Ec xs=true↔∀ k,k + 1 < xs.length->xs.getD (k + 1) 0<=xs.getD k 0:=by
 unfold Ec;rw [jb8];constructor
 ·intro h k hk;exact of_decide_eq_true (h k (jc6.mpr (by omega)))
 ·intro h k hk
  have:=jc6.mp hk
  exact decide_eq_true (h k (by omega))
def Ll {t:List (List Int)}{i j:Nat} (h:i < t.length):(BX t j).getD i 0=g t i j:=by
 unfold BX g;rw [BS,DA,C9 h,BS (l:=t),C9 h];rfl
def NG {t:List (List Int)}{j:Nat}:(BX t j).length=t.length:=by unfold BX;rw [AF]
def Jp {a b:Nat}{c:Int}{t:List (List Int)} (ht:Tab a b t):Kn a b c t=true↔Pile a b c t:=by
 unfold Kn;rw [A4,A4,jb8,jb8,jb8];constructor
 ·rintro ⟨h1,h2,h3⟩;have q:∀ i j,i < a->j < b->0<=g t i j/\g t i j<=c:=λ i j hi hj=>(zhp.mp (h1 _ (NU (by rw [ht.1];exact hi)))).2 _ (ZE (by rw [ht.row hi];exact hj));refine ⟨ht,λ i j hi hj=>(q i j hi hj).1,λ i j hi hj=>(q i j hi hj).2,λ i j hi hj=>?_,λ i j hi hj=>?_⟩
  ·have:=zph.mp (h3 j (jc6.mpr hj)) i (by rw [NG,ht.1];exact hi)
   rw [Ll (by rw [ht.1];exact hi),Ll (by rw [ht.1];omega)] at this;exact this
  ·exact zph.mp (h2 _ (NU (by rw [ht.1];exact hi))) j (by rw [ht.row hi];exact hj)
 ·intro p;refine ⟨λ r hr=>zhp.mpr ⟨by rw [ht.2 r hr],λ x hx=>?_⟩,λ r hr=>zph.mpr λ k hk=>?_,λ j hj=>zph.mpr λ k hk=>?_⟩
  ·obtain ⟨i,hi,rfl⟩:=R4 hr;obtain ⟨j,hj,rfl⟩:=qt hx;have hi':i < a:=by rw [<- ht.1];exact hi
   rw [ht.row hi'] at hj;exact ⟨p.lo i j hi' hj,p.hi i j hi' hj⟩
  ·obtain ⟨i,hi,rfl⟩:=R4 hr;have hi':i < a:=by rw [<- ht.1];exact hi
   rw [ht.row hi'] at hk;exact p.rt i k hi' hk
  ·rw [NG,ht.1] at hk;rw [Ll (by rw [ht.1];exact hk),Ll (by rw [ht.1];omega)];exact p.dn k j hk (jc6.mp hj)
theorem NY {α:Type}{f:PV->Option D8}{e:α->PV}{q:α->D8} (h:∀ x,f (e x)=some (q x)):∀ xs:List α,Bk f (xs.map e)=some (xs.map q)
 | []=>rfl
 | x::xs=>by rw [BH,Bk,h,NY h xs];rfl
def XM (n:Nat) (xs:List Int):BN (n + 2) (il xs)=some (.list (xs.map .int)):=by
 show (Bk (BN (n + 1)) (xs.map PV.int)).map PyData.list=_;rw [NY (q:=PyData.int) (λ x=>rfl)];rfl
def Tn (n:Nat) (t:List (List Int)):BN (n + 3) (tb t)=some (.list (t.map λ r=>.list (r.map .int))):=by
 show (Bk (BN (n + 2)) (t.map il)).map PyData.list=_;rw [NY (λ x=>XM n x)];rfl
theorem RB:∀ xs ys:List Int,LB (xs.map .int) (ys.map .int)=decide (xs=ys)
 | [],[]=>rfl
 | [],y::ys=>rfl
 | x::xs,[]=>rfl
 | x::xs,y::ys=>by
  rw [BH,BH,LB,RB xs ys];show ((x == y) && _)=_;by_cases h:x=y
  ·subst h;by_cases h2:xs=ys
   ·subst h2;simp
   ·simp [h2]
  ·simp [h]
theorem RC:∀ t u:List (List Int),LB (t.map λ r=>.list (r.map .int)) (u.map λ r=>.list (r.map .int))=decide (t=u)
 | [],[]=>rfl
 | [],y::ys=>rfl
 | x::xs,[]=>rfl
 | x::xs,y::ys=>by
  rw [BH,BH,LB,RC xs ys,EV,RB];by_cases h:x=y
  ·subst h;by_cases h2:xs=ys
   ·subst h2;simp
   ·simp [h2]
  ·simp [h]
def OT {neg:Bool}{f h:Fx}{ρ ρ1 ρ2:Ae}{t u:List (List Int)}{d e:Nat} (h1:f ρ=.ok (tb t,d,ρ1)) (h2:h ρ1=.ok (tb u,e,ρ2)):Ab (A2 neg) f h ρ=.ok (.bl (neg^^decide (t=u)),om,ρ2):=by
 refine BW h1 h2 ?_;unfold A2;rw [Tn 17,Tn 17];show some (PV.bl (neg^^EV _ _),om)=_;rw [EV,RC]
def YK {f h:Fx}{ρ ρ1 ρ2:Ae}{xs:List Int}{k x:Int}{d e:Nat} (h1:f ρ=.ok (.scr xs,d,ρ1)) (h2:h ρ1=.ok (.int k,e,ρ2)) (hx:Bg xs k=some x):Ab A7 f h ρ=.ok (.int x,om,ρ2):=by
 refine BW h1 h2 ?_;show (Bg xs k).map _=_;rw [hx];rfl
def Yb (ns:List Int) (k:Nat):b_cell_at [.scr ns,.int (k:Int)]=.ok (.int (ns.getD k 0),om,.non):=by
 let R:Ae:=[some (.scr ns,om),some (.int (k:Int),om)]
 have t1:bT (Ab (Cq λ i j=>decide (i < j)) (Aa 1) pb9) R=.ok (decide ((k:Int) < (ns.length:Int)),R):=rfl;refine BZ rfl (ρ':=R) ?_;by_cases h:(k:Int) < (ns.length:Int)
 ·rw [decide_eq_true h] at t1;exact IE ((C2 t1).trans (Cv (YK (xs:=ns) (k:=(k:Int)) (d:=om) rfl rfl (Iv (by omega) (J2 (by omega))))))
 ·rw [decide_eq_false h] at t1;refine (GJ t1).trans ((Cv (d:=om) rfl).trans ?_);rw [BS,Jk (by omega)];rfl
def YL (xs:List Int) (x:Int):PV.lst (xs.map PV.int++[.int x])=il (xs++[x]):=by unfold il;rw [EZ];rfl
def XT {f h:Fx}{ρ ρ1 ρ2:Ae}{xs ys:List PV}{d e:Nat} (h1:f ρ=.ok (.lst xs,d,ρ1)) (h2:h ρ1=.ok (.lst ys,e,ρ2)) (hl:xs.length + ys.length<=Ap):Ab AD f h ρ=.ok (.lst (xs++ys),d1 (xs++ys),ρ2):=by
 refine BW h1 h2 ?_;show (if _ then _ else _)=_;rw [if_pos hl]
theorem Rl:∀ xs:List Int,ES (xs.map PV.int)=true
 | []=>rfl
 | x::xs=>by rw [BH,ES,Rl xs];rfl
def Tb (xs:List Int):d1 (xs.map PV.int)=om:=by unfold d1;rw [Rl];rfl
theorem R3 {asg:PV->Ae->Option Ae}{body:Fs}:∀ (els:List PV) (I:Nat->Ae->Prop) (ρ:Ae),I 0 ρ->(∀ j x ρ,els[j]?=some x->I j ρ->∃ ρ1 ρ2,asg x ρ=some ρ1/\body ρ1=.nx ρ2/\I (j + 1) ρ2)->∃ ρ',CP asg body els ρ=.nx ρ'/\I els.length ρ'
 | [],I,ρ,h,_=>⟨ρ,rfl,h⟩
 | x::xs,I,ρ,h,hb=>by
  obtain ⟨ρ1,ρ2,e1,e2,h2⟩:=hb 0 x ρ rfl h;obtain ⟨ρ',e',h'⟩:=R3 xs (λ j=>I (j + 1)) ρ2 h2 λ j y ρ hy hi=>hb (j + 1) y ρ (by simpa using hy) hi;refine ⟨ρ',?_,h'⟩;unfold CP;rw [e1];dsimp only;rw [e2];exact e'
def ZD {v:Vw}{fa:Fa}{vs:List Nat}{asg:PV->Ae->Option Ae}{body:Fs}{ρ ρ1 ρ2:Ae}{xs:List (PV×Nat)}{els:List PV} (I:Nat->Ae->Prop) (hf:fa ρ=.ok (xs,ρ1)) (he:Gy v (xs.map (·.1))=some els) (ec:Bb (if C5 xs=true then om else 0) vs ρ1=ρ2) (h0:I 0 ρ2)
  (hb:∀ j x ρ,els[j]?=some x->I j ρ->∃ ρ1 ρ2,asg x ρ=some ρ1/\body ρ1=.nx ρ2/\I (j + 1) ρ2):∃ ρ',IZ v fa vs asg body ρ=.nx ρ'/\I els.length ρ':=by
 obtain ⟨ρ',e,h⟩:=R3 els I ρ2 h0 hb;refine ⟨ρ',?_,h⟩;unfold IZ;rw [hf];dsimp only;rw [he];dsimp only;rw [ec];exact e
def Su {i:Nat}{f:Fx}{vs:List Nat}{ρ ρ1 ρ2:Ae}{ys:List PV}{e:Nat}{xs:List PV}{d0 d:Nat}{xs0:List PV} (h0:ρ[i]?=some (some (.lst xs0,d0 + 1))) (h:f ρ=.ok (.lst ys,e,ρ1)) (h1:(Bb e vs ρ1)[i]?=some (some (.lst xs,d))) (hd:d≠0) (hl:xs.length + ys.length<=Ap)
  (e2:(Bb e vs ρ1).set i (some (.lst (xs++ys),1))=ρ2):Cd i f vs ρ=.nx ρ2:=by
 unfold Cd;rw [h0];dsimp only;rw [h];dsimp only;rw [h1];dsimp only;rw [if_pos ⟨hd,hl⟩,e2]
def DK (t:List (List Int)) (b:Nat):List (List Int):=(AY b).map λ j=>BX t j
def BQ (t:List (List Int)) (b c:Nat):List (List Int):=(AY b).map λ j=>(AY c).map λ (k:Nat)=>MV (BX t j) (k:Int)
def Kq (t:List (List Int)) (c:Int):List (List Int):=t.reverse.map λ r=>r.reverse.map λ h=>c - h
def Xl {a b c:Nat}{t:List (List Int)} (p:Pile a b c t) (ha:1<=a/\a<=100) (hb:1<=b/\b<=100) (hc:1<=c):f_mirrored_pile [bx a b c,tb t]=.ok (tb (DK t b),om,.non):=by
 have z:=sz;have ht:=p.tab;let R:Ae:=[some (bx a b c,0),some (tb t,0)]
 have s1:Ca (Az f_must_be_pile pa4) R=.nx R:=Fg (Bj (xs:=[(bx a b c,0),(tb t,0)]) rfl (Jx ht ha hb (by omega) ((Jp ht).mpr p)));have e1:=Jy (n:=2) (en:=BB) (fa:=Ah pa6 (Ad)) (elt:=Az f_column_of pe0) (ρ:=R) (ρ1:=R) (as:=[(.int (b:Int),om)]) (lo:=0) (hi:=(b:Int)) (q:=λ j=>il (BX t j)) rfl (Fl (by omega) (by omega)) rfl (λ k hk=>by
  rw [Jc];exact Bj (xs:=[(tb t,0),(.int (k:Int),om)]) rfl (NA t k (by rw [ht.1];omega) λ r hr=>by rw [ht.2 r hr];omega)) (by omega)
 rw [show ((b:Int) - 0).toNat=b by omega] at e1;have e2:PV.lst ((AY b).map λ j=>il (BX t j))=tb (DK t b):=by unfold tb DK;rw [De];rfl
 rw [e2] at e1;exact BZ rfl ((AR s1).trans (Cv e1))
def XD {a b c:Nat}{t:List (List Int)} (p:Pile a b c t) (ha:1<=a/\a<=100) (hb:1<=b/\b<=100) (hc:1<=c/\c<=100):f_rolled_pile [bx a b c,tb t]=.ok (tb (BQ t b c),om,.non):=by
 have z:=sz;have ht:=p.tab;have l1:=ht.1;let R (q:List (List Int)) (s3 s4:QQ.Slot):Ae:=[some (bx a b c,0),some (tb t,0),some (tb q,om),s3,s4]
 have s1:Ca (Az f_must_be_pile pa4) [some (bx a b c,0),some (tb t,0),none,none,none]=.nx [some (bx a b c,0),some (tb t,0),none,none,none]:=Fg (Bj (xs:=[(bx a b c,0),(tb t,0)]) rfl (Jx ht ha hb (by omega) ((Jp ht).mpr p)));have s2:Ai false 2 (Aq Bo (Ad)) [] [some (bx a b c,0),some (tb t,0),none,none,none]=.nx (R [] none none):=by kernel_rfl
 have e4:∀ (q:List (List Int)) (j:Nat) (s3:QQ.Slot),CF BB (Ah pa3 (Ad)) 1 (Aj 5) BJ pd0 (R q s3 (some (il (BX t j),om)))=.ok (il ((AY c).map λ (k:Nat)=>MV (BX t j) (k:Int)),om,R q s3 (some (il (BX t j),om))):=λ q j s3=>by
  rw [Jy (n:=5) (en:=BB) (fa:=Ah pa3 (Ad)) (ρ:=R q s3 (some (il (BX t j),om))) (ρ1:=R q s3 (some (il (BX t j),om))) (q:=λ (k:Nat)=>.int (MV (BX t j) (k:Int))) (as:=[(.int (c:Int),om)]) (by kernel_rfl) (Fl (by omega) (by omega)) rfl (λ k hk=>by
   rw [Jc];exact Bj (xs:=[(il (BX t j),0),(.int (k:Int),om)]) rfl (ZK _ _ (by rw [NG];omega))) (by omega),show ((c:Int) - 0).toNat=c by omega]
  unfold il;rw [De];rfl
 obtain ⟨ρ',e6,s3,s4,rfl⟩:=KY (i:=3) (body:=Ag (Ai false 4 (Az f_column_of pb7) [1,3]) (Ce 2 (CF BB (Ah pa3 (Ad)) 1 (Aj 5) BJ pd0) [4])) (en:=BB) (fa:=Ah pa6 (Ad)) (ρ:=R [] none none) (ρ1:=R [] none none) (as:=[(.int (b:Int),om)]) (lo:=0) (hi:=(b:Int))
  (λ k ρ=>∃ s3 s4,ρ=R (BQ t k c) s3 s4) (by kernel_rfl) (Fl (by omega) (by omega)) ⟨none,none,rfl⟩ (by
   rintro j ρ hj ⟨s3,s4,rfl⟩;have u1:Ai false 4 (Az f_column_of pb7) [1,3] (R (BQ t j c) (some (.int (0 + (j:Int)),om)) s4)=.nx (R (BQ t j c) (some (.int (0 + (j:Int)),om)) (some (il (BX t j),om))):=by
    rw [Jc];exact setF (Bj (xs:=[(tb t,0),(.int (j:Int),om)]) rfl (NA t j (by omega) λ r hr=>by rw [ht.2 r hr];omega)) (show 4 < 5 by decide) rfl
   refine ⟨show 3 < 5 by decide,_,(AR u1).trans (Pa (i:=2) (d0:=999) (d:=om) (xs:=(BQ t j c).map il) (xs0:=(BQ t j c).map il) rfl (e4 _ j _) rfl (by decide) (by unfold BQ;rw [AF,AF,UT];omega) rfl),some (.int (0 + (j:Int)),om),some (il (BX t j),om),?_⟩
   have:PV.lst ((BQ t j c).map il++[il ((AY c).map λ (k:Nat)=>MV (BX t j) (k:Int))])=tb (BQ t (j + 1) c):=by
    rw [Ub];unfold BQ;rw [UD,EZ];rfl
   rw [this]
   rfl)
 rw [show ((b:Int) - 0).toNat=b by omega] at e6;exact BZ rfl ((AR s1).trans ((AR s2).trans ((AR e6).trans rfl)))
def Z5 {α:Type}{n:Nat}{v:Vw}{fa:Fa}{elt:Fx}{enc q:α->PV}{ρ ρ1:Ae}{as:List (PV×Nat)} (xs:List α) (hf:fa ρ=.ok (as,ρ1)) (hv:Gy v (as.map (·.1))=some (xs.map enc)) (hn:ρ1.length=n) (he:∀ x∈xs,elt (ρ1++[some (enc x,dv (enc x))])=.ok (q x,om,ρ1++[some (enc x,dv (enc x))])) (hl:xs.length<=Ap):
  Hn v fa 1 (Aj n) BJ elt ρ=.ok (.lst (xs.map q),om,ρ1):=by
 unfold Hn;rw [hf];dsimp only;rw [hv];dsimp only;rw [EL (p:=λ _=>true) (q:=q) (e:=λ _=>om) xs ρ1 [] hn (λ _ _=>rfl) (λ x hx _=>he x hx) (by simpa using hl),jg0.mpr (λ _ _=>rfl)];show BO (xs.map λ x=>(q x,om)) ρ1=_;unfold BO;rw [Il,De];rfl
def Zn {a b c:Nat}{t:List (List Int)} (p:Pile a b c t) (ha:1<=a/\a<=100) (hb:1<=b/\b<=100) (hc:1<=c):f_rest_of [bx a b c,tb t]=.ok (tb (Kq t c),om,.non):=by
 have z:=sz;have ht:=p.tab;have l1:=ht.1;let R (q:List (List Int)) (s3:QQ.Slot):Ae:=[some (bx a b c,0),some (tb t,0),some (tb q,om),s3]
 have s1:Ca (Az f_must_be_pile pa4) [some (bx a b c,0),some (tb t,0),none,none]=.nx [some (bx a b c,0),some (tb t,0),none,none]:=Fg (Bj (xs:=[(bx a b c,0),(tb t,0)]) rfl (Jx ht ha hb (by omega) ((Jp ht).mpr p)));have s2:Ai false 2 (Aq Bo (Ad)) [] [some (bx a b c,0),some (tb t,0),none,none]=.nx (R [] none):=by kernel_rfl
 let rs (n:Nat):List (List Int):=(t.reverse.take n).map λ r=>r.reverse.map λ h=>(c:Int) - h;obtain ⟨ρ',e6,s3,rfl⟩:=ZD (v:=.rev) (fa:=Ah (Aa 1) (Ad)) (vs:=[1]) (asg:=Aj 3) (body:=Ce 2 (Hn .rev (Ah (Aa 3) (Ad)) 1 (Aj 4) BJ (Ab CG pa3 (Aa 4))) [3,0,3]) (ρ:=R [] none) (xs:=[(tb t,0)]) (els:=t.reverse.map il)
  (λ n ρ=>∃ s3,ρ=R (rs n) s3) rfl (by show some (t.map il).reverse=_;rw [UL]) rfl ⟨none,by show R [] none=R ((t.reverse.take 0).map _) none;rw [MK];rfl⟩ (by
   rintro n y ρ hy ⟨s3,rfl⟩;have hn:n < t.reverse.length:=by
    have:=(jb0.mp hy).1
    rw [AF] at this;exact this
   rw [DA,C9 hn] at hy;cases hy;let r:=t.reverse[n];have hr:r∈t:=List.mem_reverse.mp (FX hn);have e1:=Z5 (n:=4) (v:=.rev) (fa:=Ah (Aa 3) (Ad)) (elt:=Ab CG pa3 (Aa 4)) (enc:=PV.int) (q:=λ h=>.int ((c:Int) - h)) (ρ:=R (rs n) (some (il r,0))) (ρ1:=R (rs n) (some (il r,0))) (as:=[(il r,0)]) r.reverse rfl (by show some (r.map PV.int).reverse=_;rw [UL]) rfl (λ h _=>X3 (i:=(c:Int)) (j:=h) rfl rfl) (by rw [K5,ht.2 r hr];omega);have e2:PV.lst (r.reverse.map λ h=>.int ((c:Int) - h))=il (r.reverse.map λ h=>(c:Int) - h):=by unfold il;rw [De];rfl
   rw [e2] at e1;refine ⟨R (rs n) (some (il r,0)),R (rs (n + 1)) (some (il r,0)),rfl,?_,_,rfl⟩;have hlen:((rs n).map il).length < Ap:=by
    have e:((rs n).map il).length=(t.reverse.take n).length:=by rw [AF,AF]
    rw [e,Fc,K5];omega
   refine (Pa (i:=2) (d0:=999) (d:=om) (xs:=(rs n).map il) (xs0:=(rs n).map il) rfl e1 rfl (by decide) hlen rfl).trans ?_
   have:PV.lst ((rs n).map il++[il (r.reverse.map λ h=>(c:Int) - h)])=tb (rs (n + 1)):=by
    rw [Ub];show tb ((t.reverse.take n).map _++_)=tb ((t.reverse.take (n + 1)).map _);rw [UA,C9 hn,EZ];rfl
   rw [this]
   rfl)
 rw [AF,K5] at e6
 have:rs t.length=Kq t c:=by
  show (t.reverse.take t.length).map _=_;rw [Ve (by rw [K5];exact AE _)];rfl
 rw [this] at e6;exact BZ rfl ((AR s1).trans ((AR s2).trans ((AR e6).trans rfl)))
theorem Nv {α:Type}{asg:PV->Ae->Option Ae}{body:Fs}{enc:α->PV} (P:List α->Ae->Prop):∀ (xs pre:List α) (ρ:Ae),P pre ρ->(∀ p x s ρ,pre++xs=p++x::s->P p ρ->∃ ρ1 ρ2,asg (enc x) ρ=some ρ1/\body ρ1=.nx ρ2/\P (p++[x]) ρ2) ->
  ∃ ρ',CP asg body (xs.map enc) ρ=.nx ρ'/\P (pre++xs) ρ'
 | [],pre,ρ,h,_=>⟨ρ,rfl,by simpa using h⟩
 | x::xs,pre,ρ,h,hb=>by
  obtain ⟨ρ1,ρ2,e1,e2,h2⟩:=hb pre x xs ρ rfl h;obtain ⟨ρ',e',h'⟩:=Nv P xs (pre++[x]) ρ2 h2 λ p y s ρ e=>hb p y s ρ (by rw [<- e];simp);refine ⟨ρ',?_,by simpa using h'⟩;rw [BH];unfold CP;rw [e1];dsimp only;rw [e2];exact e'
def TB {f:Fx}{vs:List Nat}{asg:PV->Ae->Option Ae}{body:Fs}{ρ ρ1 ρ2:Ae}{r:Rs}{els:List PV}{d:Nat} (hf:f ρ=.ok (.lst els,d,ρ1)) (ec:Bb d vs ρ1=ρ2) (h:CP asg body els ρ2=r):DZ f vs asg body ρ=r:=by
 unfold DZ;rw [hf];dsimp only;rw [ec,h]
abbrev _root_.pa5:=Ab A7 (Aa 0) (bC (.int 0))
def Xf_is_even:Fs:=(Ag (Ca (Az f_must_be_pile pa4))
 (Au (CD (Ab (A2 false) pa5 pa6) (Ab (A2 false) (Az f_mirrored_pile pa4) (Aa 1)))))
def f_is_even:Fn:=Av false 2 0 Xf_is_even
def Xf_is_whole:Fs:=(Au (Ab (A2 false) (Az f_rest_of pa4) (Aa 1)))
def f_is_whole:Fn:=Av false 2 0 Xf_is_whole
def Xf_is_round:Fs:=(Ag (Ca (Az f_must_be_pile pa4))
 (Au (CD (EJ (λ i j=>decide (i=j)) (λ i j=>decide (i=j)) pa5 pa6 pa3) (Ab (A2 false) (Az f_rolled_pile pa4) (Aa 1)))))
def f_is_round:Fn:=Av false 2 0 Xf_is_round
abbrev _root_.pb0:=Ab (Cq λ i j=>decide (j < i)) (Aa 3) (bC (.int 0))
abbrev _root_.pc5:=Ab Bv (Ab BC (Ab Bv (Ab BC (Aa 4) (Aa 4)) (bC (.int 2147483629))) (bC (.int 69621))) (bC (.int 2147483587))
abbrev _root_.pc2:=Ab Bv (Ab BC (Ab AD (Ab AD (Aa 4) (Ab BC (bC (.int 7)) (Aa 5))) (bC (.int 3))) (bC (.int 48271))) (bC (.int 2147483647))
abbrev _root_.pd6:=Ab (Cq λ i j=>decide (j<=i)) (Aa 0) (Ab Tr (bC (.int 10)) (bC (.int 18)))
abbrev _root_.pa2:=Bs (bT (CD pd6 pb0)) (Ag (Ce 2 (Ab Bv (Aa 3) (bC (.int 64))) [3]) (Ai false 3 (Ab GF (Aa 3) (bC (.int 64))) [3])) (Ag (Ai false 4 pc2 [4,5]) (Ag (Ai false 6 pc5 [4,4]) (Ce 2 (Ab Bv (Ab GF (Aa 6) (bC (.int 8))) (bC (.int 720720))) [6])))
abbrev _root_.pe7:=Ab Bv (Aa 0) (bC (.int 2147483647))
def Xc_numbers:Fs:=(Ag pe2
 (Ag (Ai false 3 (Aa 0) [0])
 (Ag (Ai false 4 pe7 [0])
 (Ag (CT BB (Ah (Aa 1) (Ad)) (Aj 5) pa2)
 (FE 2)))))
def c_numbers:Fn:=Av false 2 5 Xc_numbers
end QV
namespace K49
open PySem PySem.Spec PyProof.Rows L2 QQ
abbrev GT:=List (Str×(Bool×Nat×Fn))
abbrev mS (N:List Str) (t:Stmt) (m:List Nat) (G:GT):Sx:=⟨N,Ax t,m,[],G,[],true,[0,1,2,3,4,5,6,7,8,9,10,11],[]⟩
def G0:GT:=[]
def S0:Sx:=⟨["thing"],Ax t0,[],[],G0,[],false,[53],[]⟩
abbrev b0:Fs:=QV.Xf_is_whole_number
abbrev F0:Fn:=QV.f_is_whole_number
def h0:AV (A1 60 S0) (Ba t0)=some b0:=by kernel_rfl
def G1:GT:=[("is_whole_number",(false,1,F0))]
def S1:Sx:=⟨["thing"],Ax t1,[],[],G1,[],false,[53],[]⟩
abbrev b1:Fs:=QV.Xf_is_box
abbrev F1:Fn:=QV.f_is_box
def h1:AV (A1 60 S1) (Ba t1)=some b1:=by kernel_rfl
def G2:GT:=[("is_box",(false,1,F1))]
def S2:Sx:=⟨["box"],Ax t2,[],[],G2,[],false,[53],[]⟩
abbrev b2:Fs:=QV.Xf_must_be_box
abbrev F2:Fn:=QV.f_must_be_box
def h2:AV (A1 60 S2) (Ba t2)=some b2:=by kernel_rfl
def G3:GT:=[("is_whole_number",(false,1,F0))]
def S3:Sx:=⟨["thing","columns","height"],Ax t3,[],[],G3,[],false,[53],[]⟩
abbrev b3:Fs:=QV.Xf_is_row_of_heights
abbrev F3:Fn:=QV.f_is_row_of_heights
def h3:AV (A1 60 S3) (Ba t3)=some b3:=by kernel_rfl
def G4:GT:=[]
def S4:Sx:=⟨["numbers"],Ax t4,[],[],G4,[],false,[53],[]⟩
abbrev b4:Fs:=QV.Xf_never_rises
abbrev F4:Fn:=QV.f_never_rises
def h4:AV (A1 60 S4) (Ba t4)=some b4:=by kernel_rfl
def G5:GT:=[]
def S5:Sx:=⟨["table","j"],Ax t5,[],[],G5,[],false,[53],[]⟩
abbrev b5:Fs:=QV.Xf_column_of
abbrev F5:Fn:=QV.f_column_of
def h5:AV (A1 60 S5) (Ba t5)=some b5:=by kernel_rfl
def G6:GT:=[("must_be_box",(false,1,F2)),("is_row_of_heights",(false,3,F3)),("never_rises",(false,1,F4)),("column_of",(false,2,F5))]
def S6:Sx:=⟨["box","thing","rows","columns","height"],Ax t6,[],[],G6,[],false,[53],[]⟩
abbrev b6:Fs:=QV.Xf_is_pile
abbrev F6:Fn:=QV.f_is_pile
def h6:AV (A1 60 S6) (Ba t6)=some b6:=by kernel_rfl
def G7:GT:=[("is_pile",(false,2,F6))]
def S7:Sx:=⟨["box","pile"],Ax t7,[],[],G7,[],false,[53],[]⟩
abbrev b7:Fs:=QV.Xf_must_be_pile
abbrev F7:Fn:=QV.f_must_be_pile
def h7:AV (A1 60 S7) (Ba t7)=some b7:=by kernel_rfl
def G8:GT:=[("column_of",(false,2,F5)),("must_be_pile",(false,2,F7))]
def S8:Sx:=⟨["box","pile"],Ax t8,[],[],G8,[],false,[53],[]⟩
abbrev b8:Fs:=QV.Xf_mirrored_pile
abbrev F8:Fn:=QV.f_mirrored_pile
def h8:AV (A1 60 S8) (Ba t8)=some b8:=by kernel_rfl
def G9:GT:=[]
def S9:Sx:=⟨["numbers","level"],Ax t9,[],[],G9,[],false,[53],[]⟩
abbrev b9:Fs:=QV.Xf_how_many_above
abbrev F9:Fn:=QV.f_how_many_above
def h9:AV (A1 60 S9) (Ba t9)=some b9:=by kernel_rfl
def j9:GT:=[("column_of",(false,2,F5)),("must_be_pile",(false,2,F7)),("how_many_above",(false,2,F9))]
def S10:Sx:=⟨["box","pile","rolled","j","column"],Ax Mt,[],[],j9,[],false,[53],[]⟩
abbrev jg:Fs:=QV.Xf_rolled_pile
abbrev V0:Fn:=QV.f_rolled_pile
def zA:AV (A1 60 S10) (Ba Mt)=some jg:=by kernel_rfl
def j8:GT:=[("must_be_pile",(false,2,F7))]
def S11:Sx:=⟨["box","pile","rest","row"],Ax Mr,[],[],j8,[],false,[53],[]⟩
abbrev jf:Fs:=QV.Xf_rest_of
abbrev Vz:Fn:=QV.f_rest_of
def z9:AV (A1 60 S11) (Ba Mr)=some jf:=by kernel_rfl
def j7:GT:=[]
def S12:Sx:=⟨["columns","height","rows","j","longer","row","most"],Ax Mq,[],[],j7,[],false,[53],[]⟩
abbrev _root_.pe4:=Aq GD (Ah (Aa 7) (Ad))
abbrev _root_.pe3:=Ab AD (Aa 6) (bC (.int 1))
abbrev _root_.pc7:=CF BB (Ah pe3 (Ad)) 1 (Aj 7) BJ (Ab AD (Aa 5) pe4)
abbrev _root_.pd8:=Ab A7 (Aa 5) (AS Ly (bC (.int 1)))
abbrev _root_.pa1:=Ag (Ai false 6 (Bn (bT pb0) pd8 (Aa 1)) [5,1]) (Cd 4 pc7 [5])
abbrev _root_.pc6:=Ai false 4 (Aq Bo (Ad)) []
def Vr:Fs:=(Ag (Ai false 2 (Aq Bo (Ah (Aq GD (Ad)) (Ad))) [])
 (Ag (CT BB (Ah (Aa 0) (Ad)) (Aj 3) (Ag pc6
 (Ag (DZ (Aa 2) [2] (Aj 5) pa1)
 (Ai false 2 (Aa 4) [4]))))
 (FE 2)))
def KQ:Fn:=Av false 2 5 Vr
def E8:AV (A1 60 S12) (Ba Mq)=some Vr:=by kernel_rfl
def j6:GT:=[]
def S13:Sx:=⟨["table","ahead"],Ax Mp,[],[],j6,[],false,[53],[]⟩
abbrev _root_.pa8:=Aq Em (Ah (CF BB (Ah (Aq Dn (Ah (Aa 2) (Ad))) (Ad)) 1 (Aj 3) BJ (Ab (Cq λ i j=>decide (i<=j)) (Ab A7 (Aa 2) (Aa 3)) (Ab A7 (Aa 1) (Aa 3)))) (Ad))
def Vq:Fs:=(Au (BK (Aa 0) 1 (Aj 2) (bT pa8) (Aa 2)))
def Jo:Fn:=Av false 2 0 Vq
def z7:AV (A1 60 S13) (Ba Mp)=some Vq:=by kernel_rfl
def j5:GT:=[]
def S14:Sx:=⟨["box","rows","columns","height","numbers","i","j"],Ax Mo,[],[],j5,[],false,[53],[]⟩
abbrev _root_.pe1:=Ah (bC (.int 1)) (Ah (Ab AD (Aa 1) (bC (.int 1))) (Ad))
def Vp:Fs:=(Ag (Dy (CM [1,2,3]) (Aa 0) [0])
 (Ag pc6
 (Ag (CT CO pe1 (Aj 5) (CT CO (Ah (bC (.int 1)) (Ah (Ab AD (Aa 2) (bC (.int 1))) (Ad))) (Aj 6) (Cd 4 (CF CO (Ah (bC (.int 1)) (Ah (Ab AD (Aa 3) (bC (.int 1))) (Ad))) 1 (Aj 7) BJ (Ab CG (Ab AD (Ab AD (Aa 5) (Aa 6)) (Aa 7)) (bC (.int 1)))) [5,6])))
 (FE 4))))
def Qo:Fn:=Av false 1 6 Vp
def z6:AV (A1 60 S14) (Ba Mo)=some Vp:=by kernel_rfl
def j4:GT:=[("must_be_box",(false,1,F2)),("numbers_above",(false,1,Qo))]
def S15:Sx:=⟨["box","top","bottom","number"],Ax Mn,[],[],j4,[],false,[53],[]⟩
def Vo:Fs:=(Ag (Ca (Az F2 (Ah (Aa 0) (Ad))))
 (Ag (Ai false 1 (bC (.int 1)) [])
 (Ag (Ai false 2 (bC (.int 1)) [])
 (Ag (DZ (Az Qo (Ah (Aa 0) (Ad))) [0] (Aj 3) (Ag (Ai false 1 (Ab BC (Aa 1) (Aa 3)) [1,3])
 (Ai false 2 (Ab BC (Aa 2) (Ab CG (Aa 3) (bC (.int 1)))) [2,3])))
 (Au (Ab GF (Aa 1) (Aa 2)))))))
def Qn:Fn:=Av false 1 3 Vo
def zy:AV (A1 60 S15) (Ba Mn)=some Vo:=by kernel_rfl
def j0:GT:=[("must_be_pile",(false,2,F7)),("mirrored_pile",(false,2,F8))]
def S16:Sx:=⟨["box","pile"],Ax Mm,[],[],j0,[],false,[53],[]⟩
abbrev je:Fs:=QV.Xf_is_even
abbrev Ni:Fn:=QV.f_is_even
def zx:AV (A1 60 S16) (Ba Mm)=some je:=by kernel_rfl
def jz:GT:=[("rest_of",(false,2,Vz))]
def S17:Sx:=⟨["box","pile"],Ax Ml,[],[],jz,[],false,[53],[]⟩
abbrev jd:Fs:=QV.Xf_is_whole
abbrev Nh:Fn:=QV.f_is_whole
def zw:AV (A1 60 S17) (Ba Ml)=some jd:=by kernel_rfl
def jy:GT:=[("must_be_pile",(false,2,F7)),("rolled_pile",(false,2,V0))]
def S18:Sx:=⟨["box","pile"],Ax Mj,[],[],jy,[],false,[53],[]⟩
abbrev jc:Fs:=QV.Xf_is_round
abbrev Ng:Fn:=QV.f_is_round
def zv:AV (A1 60 S18) (Ba Mj)=some jc:=by kernel_rfl
def jx:GT:=[("must_be_box",(false,1,F2)),("count_by_product",(false,1,Qn))]
def S19:Sx:=⟨["box","rows","columns","height"],Ax Mi,[],[],jx,[],false,[53],[]⟩
def Vn:Fs:=(Ag (Ca (Az F2 (Ah (Aa 0) (Ad))))
 (Ag (Dy (CM [1,2,3]) (Aa 0) [0])
 (Bs (bT (BU (Ab (Cq λ i j=>decide (j<=i)) (Ab BC (Ab BC (Aa 1) (Aa 2)) (Aa 3)) (bC (.int 3000))) (Ab (Cq λ i j=>decide (j < i)) (Az Qn (Ah (Aa 0) (Ad))) (bC (.int 3000))))) FL AK)))
def Ik:Fn:=Av false 1 3 Vn
def zu:AV (A1 60 S19) (Ba Mi)=some Vn:=by kernel_rfl
def jw:GT:=[("rows_behind",(false,2,Jo))]
def S20:Sx:=⟨["pile","lines","box","ahead"],Ax Mh,[],[],jw,[],false,[53],[]⟩
abbrev _root_.pb8:=Ah (Aq J4 (Ah (Aa 4) (Ad))) (Ad)
abbrev _root_.pc8:=Ab A7 (Aa 2) (bC (.int 1))
abbrev _root_.pd4:=Ab A7 (Aa 2) (bC (.int 2))
abbrev _root_.pb1:=Bn (bT (Ab (Cq λ i j=>decide (j < i)) pb9 (bC (.int 0)))) (Ab A7 (Aa 0) (AS Ly (bC (.int 1)))) (Ab BC (Aq Bo (Ah pd4 (Ad))) pc8)
def Qg:Fs:=(Ag (Ai false 3 pb1 [0,2,2])
 (Au (BK (Az Jo pb7) 1 (Aj 4) BJ (Ab AD (Aa 0) (Aq Bo pb8)))))
def Hi:Fn:=Av false 3 1 Qg
def zq:AV (A1 60 S20) (Ba Mh)=some Qg:=by kernel_rfl
def jv:GT:=[("rows_of_heights",(false,2,KQ)),("longer_by_a_row",(false,3,Hi))]
def S21:Sx:=⟨["box","lines","piles","i","longer","pile"],Ax Mg,[],[],jv,[],false,[53],[]⟩
abbrev _root_.pb4:=Ah (Aa 5) (Ah (Aa 1) (Ah (Aa 0) (Ad)))
def Vm:Fs:=(Ag (Ai false 1 (Az KQ (Ah pa6 (Ah pa3 (Ad)))) [0,0])
 (Ag (Ai false 2 (Aq Bo (Ah (Aq Bo (Ad)) (Ad))) [])
 (Ag (CT BB (Ah pa5 (Ad)) (Aj 3) (Ag pc6
 (Ag (DZ (Aa 2) [2] (Aj 5) (Cd 4 (Az Hi pb4) [5,1,0]))
 (Ai false 2 (Aa 4) [4]))))
 (FE 2))))
def EI:Fn:=Av false 1 5 Vm
def zm:AV (A1 60 S21) (Ba Mg)=some Vm:=by kernel_rfl
def ju:GT:=[("is_even",(false,2,Ni)),("must_have_few_piles",(false,1,Ik)),("all_piles_of",(false,1,EI))]
def S22:Sx:=⟨["box"],Ax Mf,[],[],ju,[],false,[53],[]⟩
abbrev _root_.pc3:=Az Ik (Ah (Aa 0) (Ad))
def MZ:Fs:=(Ag (Ca pc3)
 (Ag (Bs (bT (Ab (A2 true) pa5 pa6)) (Au (bC (.int 0))) AK)
 (Au (Aq Dn (Ah (BK (Az EI (Ah (Aa 0) (Ad))) 1 (Aj 1) (bT (Az Ni pa4)) (Aa 1)) (Ad))))))
def Nf:Fn:=Av false 1 0 MZ
def zl:AV (A1 60 S22) (Ba Mf)=some MZ:=by kernel_rfl
def jt:GT:=[("is_whole",(false,2,Nh)),("must_have_few_piles",(false,1,Ik)),("all_piles_of",(false,1,EI))]
def S23:Sx:=⟨["box","turned"],Ax Me,[],[],jt,[],false,[53],[]⟩
abbrev _root_.pd7:=Ah (Aq L6 (Ah (Aa 0) (Ad))) (Ad)
def Qf:Fs:=(Ag (Ca pc3)
 (Ag (Ai false 1 (Aq IJ pd7) [0])
 (Au (Aq Dn (Ah (BK (Az EI (Ah (Aa 1) (Ad))) 1 (Aj 2) (bT (Az Nh pe0)) (Aa 2)) (Ad))))))
def Nd:Fn:=Av false 1 1 Qf
def zk:AV (A1 60 S23) (Ba Me)=some Qf:=by kernel_rfl
def jr:GT:=[("is_round",(false,2,Ng)),("must_have_few_piles",(false,1,Ik)),("all_piles_of",(false,1,EI))]
def S24:Sx:=⟨["box"],Ax Md,[],[],jr,[],false,[53],[]⟩
def MY:Fs:=(Ag (Ca pc3)
 (Ag (Bs (bT (AS CQ (EJ (λ i j=>decide (i=j)) (λ i j=>decide (i=j)) pa5 pa6 pa3))) (Au (bC (.int 0))) AK)
 (Au (Aq Dn (Ah (BK (Az EI (Ah (Aa 0) (Ad))) 1 (Aj 1) (bT (Az Ng pa4)) (Aa 1)) (Ad))))))
def Nc:Fn:=Av false 1 0 MY
def zj:AV (A1 60 S24) (Ba Md)=some MY:=by kernel_rfl
def jo:GT:=[]
def S25:Sx:=⟨["script","k"],Ax Mc,[],[],jo,[],false,[53],[]⟩
abbrev jb:Fs:=QV.Xb_cell_at
abbrev Qm:Fn:=QV.b_cell_at
def zi:AV (A1 60 S25) (Ba Mc)=some jb:=by kernel_rfl
def jn:GT:=[]
def S26:Sx:=⟨["cell","many","found","rest","stir","k","again"],Ax Mb,[],[],jn,[],false,[53],[]⟩
abbrev ja:Fs:=QV.Xc_numbers
abbrev Ql:Fn:=QV.c_numbers
def zh:AV (A1 60 S26) (Ba Mb)=some ja:=by kernel_rfl
def jm:GT:=[]
def S27:Sx:=⟨["a","b","c","top","bottom","i","j"],Ax Ma,[],[],jm,[],false,[53],[]⟩
def Vl:Fs:=(Ag (Ai false 3 (bC (.int 1)) [])
 (Ag (Ai false 4 (bC (.int 1)) [])
 (Ag (CT CO (Ah (bC (.int 1)) (Ah (Ab AD (Aa 0) (bC (.int 1))) (Ad))) (Aj 5) (CT CO pe1 (Aj 6) (Ag (Ai false 3 (Ab BC (Aa 3) (Ab CG (Ab AD (Ab AD (Aa 5) (Aa 6)) (Aa 2)) (bC (.int 1)))) [3,5,6,2])
 (Ai false 4 (Ab BC (Aa 4) (Ab CG (Ab AD (Aa 5) (Aa 6)) (bC (.int 1)))) [4,5,6]))))
 (Au (Ab GF (Aa 3) (Aa 4))))))
def EH:Fn:=Av false 3 4 Vl
def zg:AV (A1 60 S27) (Ba Ma)=some Vl:=by kernel_rfl
def jl:GT:=[]
def S28:Sx:=⟨["box","top","bottom","i","j"],Ax LZ,[],[],jl,[],false,[53],[]⟩
def Vk:Fs:=(Ag (Bs (bT (Ab (A2 true) pa5 pa6)) (Au (bC (.int 0))) AK)
 (Ag (Ai false 1 (bC (.int 1)) [])
 (Ag (Ai false 2 (bC (.int 1)) [])
 (Ag (CT CO (Ah (bC (.int 1)) (Ah (Ab AD pa5 (bC (.int 1))) (Ad))) (Aj 3) (Ag (Ai false 1 (Ab BC (Aa 1) (Ab CG (Ab AD (Ab BC (bC (.int 2)) (Aa 3)) pa3) (bC (.int 1)))) [1,3,0])
 (Ag (Ai false 2 (Ab BC (Aa 2) (Ab CG (Ab BC (bC (.int 2)) (Aa 3)) (bC (.int 1)))) [2,3])
 (CT CO (Ah (bC (.int 1)) (Ah (Aa 3) (Ad))) (Aj 4) (Ag (Ai false 1 (Ab BC (Aa 1) (Ab CG (Ab AD (Ab AD (Aa 3) (Aa 4)) pa3) (bC (.int 1)))) [1,3,4,0])
 (Ai false 2 (Ab BC (Aa 2) (Ab CG (Ab AD (Aa 3) (Aa 4)) (bC (.int 1)))) [2,3,4]))))))
 (Au (Ab GF (Aa 1) (Aa 2)))))))
def Ij:Fn:=Av false 1 4 Vk
def ze:AV (A1 60 S28) (Ba LZ)=some Vk:=by kernel_rfl
def jj:GT:=[]
def S30:Sx:=⟨["number"],Ax LX,[],[],jj,[],false,[53],[]⟩
def Vi:Fs:=(Au (Ab CG (bC (.int 1)) (Ab Bv (Aa 0) (bC (.int 2)))))
def Qk:Fn:=Av false 1 0 Vi
def xZ:AV (A1 60 S30) (Ba LX)=some Vi:=by kernel_rfl
def jk:GT:=[("_law_count",(false,3,EH)),("_law_odd_first",(false,1,Qk))]
def S29:Sx:=⟨["box","numbers","half"],Ax LY,[],[],jk,[],false,[53],[]⟩
abbrev _root_.pa9:=Ah pc8 (Ah pd4 (Ad))
abbrev _root_.pb5:=Ab A7 (Aa 1) (bC (.int 2))
abbrev _root_.pb2:=Ab A7 (Aa 2) (bC (.int 0))
abbrev _root_.pc1:=Ab A7 (Aa 1) (bC (.int 0))
abbrev _root_.pc0:=Ab A7 (Aa 1) (bC (.int 1))
def Vj:Fs:=(Ag (Ai false 1 (Aq (J8 Qk) (Ah (Aa 0) Ad)) [0])
 (Ag (Ai false 2 (BK (Aa 1) 1 (Aj 3) BJ (Ab GF (Aa 3) (bC (.int 2)))) [1,1])
 (Ag (Bs (bT (Ab (A2 false) (Ab Bv pb5 (bC (.int 2))) (bC (.int 1)))) (Au (bC (.int 0))) AK)
 (Ag (Bs (bT (Ab (A2 false) (Ab Bv pc0 (bC (.int 2))) (bC (.int 1)))) (Au (Ab BC (Az EH (Ah (Ab AD pb2 (bC (.int 1))) pa9)) (Az EH (Ah pb2 (Ah (Ab AD pc8 (bC (.int 1))) (Ah pd4 (Ad))))))) AK)
 (Ag (Bs (bT (Ab (A2 false) (Ab Bv pc1 (bC (.int 2))) (bC (.int 1)))) (Au (Ab BC (Az EH (Ah (Ab AD pb2 (bC (.int 1))) pa9)) (Az EH (Ah pb2 pa9)))) AK)
 (Au (Ab BC (Az EH (Ah pb2 pa9)) (Az EH (Ah pb2 pa9)))))))))
def Gw:Fn:=Av false 1 2 Vj
def zb:AV (A1 60 S29) (Ba LY)=some Vj:=by kernel_rfl
def ji:GT:=[("_law_count",(false,3,EH))]
def S31:Sx:=⟨["xs","box","less"],Ax LW,[],[],ji,[],false,[53],[]⟩
abbrev _root_.pa0:=TN (bT (Ab (Cq λ i j=>decide (j < i)) (Az EH (Ah pc1 (Ah pc0 (Ah pb5 (Ad))))) (bC (.int 3000)))) (Bs (bT (Ab (A2 false) pc1 pc0)) (Ag (FK 1 2 (Ab CG pb5 (Aq GG (Ah (Ab (Cq λ i j=>decide (j < i)) pb5 (bC (.int 1))) (Ad))))) (Ag (Ai false 2 (Aq GG (Ah (CD (Ab (A2 false) pb5 (bC (.int 1))) (Ab (Cq λ i j=>decide (j < i)) (Az EH (Ah pc1 (Ah pc0 (Ah (bC (.int 1)) (Ad))))) (bC (.int 3000)))) (Ad))) [1,1,1]) (Ai false 1 (Aq Bo (Ah (Ab CG pc1 (Aa 2)) (Ah (Ab CG pc0 (Aa 2)) (Ah pb5 (Ad))))) [1,2,1,2,1]))) (M7 1 (EC 1 (Aq JF (Ah (Aa 1) (Ad)))) (Ab CG (Aq JF (Ah (Aa 1) (Ad))) (bC (.int 1)))))
abbrev _root_.pb3:=Ab Bv (Ab A7 (Aa 0) (bC (.int 3))) (bC (.int 4))
def Qe:Fs:=(Ag (Ai false 1 (Aq Bo (Ah (Ab AD (bC (.int 1)) (Ab Bv pa5 (bC (.int 3)))) (Ah (Ab AD (bC (.int 1)) (Ab Bv pa6 (bC (.int 3)))) (Ah (Ab AD (bC (.int 1)) (Ab Bv pa3 (bC (.int 3)))) (Ad))))) [0,0,0])
 (Ag (Bs (bT (Ab (A2 false) pb3 (bC (.int 1)))) (Ai false 1 (Aq Bo (Ah (Ab AD (bC (.int 1)) (Ab Bv pa5 (bC (.int 6)))) (Ah (Ab AD (bC (.int 1)) (Ab Bv pa5 (bC (.int 6)))) (Ah (Ab AD (bC (.int 1)) (Ab Bv pa3 (bC (.int 6)))) (Ad))))) [0,0,0]) AK)
 (Ag (Bs (bT (Ab (A2 false) pb3 (bC (.int 2)))) (Ai false 1 (Aq Bo (Ah (Ab AD (bC (.int 1)) (Ab Bv pa5 (bC (.int 6)))) (Ah (Ab AD (bC (.int 1)) (Ab Bv pa6 (bC (.int 6)))) (Ah (Ab AD (bC (.int 1)) (Ab Bv pa3 (bC (.int 6)))) (Ad))))) [0,0,0]) AK)
 (Ag pa0
 (Au (Aq GD (Ah pc1 (Ah pc0 (Ah pb5 (Ad))))))))))
def Nb:Fn:=Av false 1 2 Qe
def xY:AV (A1 60 S31) (Ba LW)=some Qe:=by kernel_rfl
def jh:GT:=[("how_many_even",(false,1,Nf)),("how_many_whole",(false,1,Nd)),("how_many_round",(false,1,Nc)),("_law_cell_at",(false,2,Qm)),("_law_numbers",(false,2,Ql)),("_law_even",(false,1,Ij)),("_law_whole",(false,1,Gw)),("_law_small_box",(false,1,Nb))]
def S32:Sx:=⟨["script","xs","box","found","due"],Ax Kb,[],[],jh,[],false,[53],[]⟩
abbrev _root_.pa7:=Ah (CD (Ab (A2 false) pb2 pc8) (Ab (A2 false) pc8 pd4)) (Ad)
abbrev _root_.pb6:=Ah (bC (.int 0)) (Ah (bC (.int 2)) (Ah (bC (.int 5)) (Ah (bC (.int 20)) (Ad))))
abbrev _root_.pd1:=CD (AS (ER "int") (Aa 3)) (CD (AS CQ (AS (ER "bool") (Aa 3))) (Ab (A2 false) (Aa 3) (Aa 4)))
abbrev _root_.pe5:=Ab Bv (Ab A7 (Aa 1) (bC (.int 4))) (bC (.int 3))
def Qd:Fs:=(Ag (Ai false 1 (Az Ql (Ah (Az Qm (Ah (Aa 0) (Ah (bC (.int 0)) (Ad)))) (Ah (bC (.int 6)) (Ad)))) [0])
 (Ag (Ai false 2 (Az Nb (Ah (Aa 1) (Ad))) [1])
 (Ag (Bs (bT (Ab (A2 false) pe5 (bC (.int 0)))) (Ag (Ai false 3 (Az Nf (Ah (Aa 2) (Ad))) [2])
 (Ai false 4 (Az Ij (Ah (Aa 2) (Ad))) [2])) (Bs (bT (Ab (A2 false) pe5 (bC (.int 1)))) (Ag (Ai false 3 (Az Nd (Ah (Aa 2) (Ad))) [2])
 (Ai false 4 (Az Gw (Ah (Aa 2) (Ad))) [2])) (Ag (Ai false 3 (Az Nc (Ah (Aa 2) (Ad))) [2])
 (Ai false 4 (Ab A7 (Aq Bo pb6) (Ab BC pb2 (Aq GG pa7))) [2,2,2,2,2]))))
 (Au pd1))))
def F32:Fn:=Av false 1 4 Qd
def xX:AV (A1 60 S32) (Ba Kb)=some Qd:=by kernel_rfl
end K49
namespace QV
open PySem PySem.Spec PyProof.Rows L2 QQ
structure HV (L:List (Option PV)) (O:List Nat) (ρ:Ae):Prop where
 len:ρ.length=L.length
 get:∀ (j:Nat) (x:PV),L[j]?=some (some x)->∃ d,ρ[j]?=some (some (x,d))
 own:∀ j∈O,∃ x d,ρ[j]?=some (some (x,d))/\d≠0
section
variable {L L':List (Option PV)}{O O':List Nat}{ρ:Ae}
theorem HV.of (ρ:Ae):HV (ρ.map λ s=>s.map (·.1)) [] ρ:=by
 refine ⟨by rw [AF],λ j x h=>?_,λ _ h=>nomatch h⟩;rw [DA] at h;cases e:ρ[j]? with
 | none=>rw [e] at h;cases h
 | some s=>
  rw [e] at h;cases s with
  | none=>cases h
  | some p=>obtain ⟨y,d⟩:=p;cases h;exact ⟨d,rfl⟩
def HV.var {j:Nat}{x:PV} (h:HV L O ρ) (e:L[j]?=some (some x)):Aa j ρ=.ok (x,dv x,ρ):=by
 obtain ⟨d,e⟩:=h.get j x e;unfold Aa;rw [e]
def Z6 {d j e:Nat}{vs:List Nat}{x:PV} (h:ρ[j]?=some (some (x,e))):∃ e',(Bb d vs ρ)[j]?=some (some (x,e')):=by
 unfold Bb;split
 ·exact ⟨e,h⟩
 ·rw [J0,h];dsimp only [U1];split
  ·exact ⟨0,rfl⟩
  ·exact ⟨e,rfl⟩
def Yg {d:Nat}{vs:List Nat}{ρ:Ae}:(Bb d vs ρ).length=ρ.length:=by
 unfold Bb;split
 ·rfl
 ·exact KW vs ρ 0
def HV.cool {d:Nat}{vs:List Nat} (h:HV L O ρ):HV L [] (Bb d vs ρ):=⟨by rw [Yg];exact h.len,λ j x e=>by
 obtain ⟨d',e⟩:=h.get j x e;exact Z6 e,λ _ h=>nomatch h⟩
def HV.coolO {vs:List Nat} (h:HV L O ρ):HV L O (Bb om vs ρ):=by
 unfold Bb;rw [if_pos rfl];exact h
def HV.put {i d:Nat}{x:PV} (h:HV L O ρ) (hi:i < L.length) (ho:i∉O\/d≠0):HV (L.set i (some x)) O (ρ.set i (some (x,d))):=by
 have hl:=h.len;refine ⟨by rw [Ee,Ee,hl],λ j y e=>?_,λ j hj=>?_⟩
 ·by_cases hj:i=j
  ·subst hj;rw [Dh hi] at e;cases e;exact ⟨d,Dh (by omega)⟩
  ·rw [Ck hj] at e;rw [Ck hj];exact h.get j y e
 ·by_cases hij:i=j
  ·subst hij;rcases ho with ho | ho
   ·exact absurd hj ho
   ·exact ⟨x,d,Dh (by omega),ho⟩
  ·rw [Ck hij];exact h.own j hj
def HV.set {i d:Nat}{f:Fx}{vs:List Nat}{x:PV} (h:HV L O ρ) (hf:f ρ=.ok (x,d,ρ)) (hi:i < L.length):∃ ρ',Ai false i f vs ρ=.nx ρ'/\HV (L.set i (some x)) [] ρ':=⟨_,setF hf (by rw [h.len];exact hi) rfl,(h.cool).put hi (.inl (λ h=>nomatch h))⟩
def HV.setO {i:Nat}{f:Fx}{vs:List Nat}{x:PV} (h:HV L O ρ) (hf:f ρ=.ok (x,om,ρ)) (hi:i < L.length):∃ ρ',Ai false i f vs ρ=.nx ρ'/\HV (L.set i (some x)) O ρ':=⟨_,setF hf (by rw [h.len];exact hi) rfl,(h.coolO).put hi (.inr (by decide))⟩
def Gv (s:Fs) (ρ:Ae) (y:PV):Prop:=∃ d ρ',s ρ=.rt y d ρ'
def Gv.nx {s r:Fs}{ρ1:Ae}{y:PV} (e:s ρ=.nx ρ1) (h:Gv r ρ1 y):Gv (Ag s r) ρ y:=by
 obtain ⟨d,ρ',h⟩:=h;exact ⟨d,ρ',(AR e).trans h⟩
def Gv.ex {s r:Fs}{P:Ae->Prop}{y:PV} (e:∃ ρ1,s ρ=.nx ρ1/\P ρ1) (h:∀ ρ1,P ρ1->Gv r ρ1 y):Gv (Ag s r) ρ y:=by
 obtain ⟨ρ1,e,p⟩:=e;exact Gv.nx e (h ρ1 p)
def Gv.ret {f:Fx}{ρ1:Ae}{d:Nat}{y:PV} (h:f ρ=.ok (y,d,ρ1)):Gv (Au f) ρ y:=⟨_,_,Cv h⟩
def Gv.fn {np k:Nat}{b:Fs}{xs:List PV}{y:PV} (hl:xs.length=np) (h:Gv b (xs.map (λ x=>some (x,dv x))++AH k none) y):∃ d z,Av false np k b xs=.ok (y,d,z):=by
 obtain ⟨d,ρ',h⟩:=h;exact ⟨_,_,BZ hl h⟩
def Nx (s:Fs) (ρ:Ae) (P:Ae->Prop):Prop:=∃ ρ',s ρ=.nx ρ'/\P ρ'
section
variable {P Q:Ae->Prop}{s r:Fs}
def Nx.seq (h:Nx s ρ P) (k:∀ ρ',P ρ'->Nx r ρ' Q):Nx (Ag s r) ρ Q:=by
 obtain ⟨ρ1,e,p⟩:=h;obtain ⟨ρ2,e2,q⟩:=k ρ1 p;exact ⟨ρ2,(AR e).trans e2,q⟩
def Nx.mono (h:Nx s ρ P) (k:∀ ρ',P ρ'->Q ρ'):Nx s ρ Q:=by
 obtain ⟨ρ1,e,p⟩:=h;exact ⟨ρ1,e,k ρ1 p⟩
def Nx.yes {c:Fb} (hc:c ρ=.ok (true,ρ)) (h:Nx s ρ P):Nx (Bs c s r) ρ P:=by
 obtain ⟨ρ1,e,p⟩:=h;exact ⟨ρ1,(C2 hc).trans e,p⟩
end
end
def Dq (a b:Int):List Int:=(AY (b - a).toNat).map λ k=>a + (k:Nat)
def Ir {a b:Int} (h:b<=a):Dq a b=[]:=by
 unfold Dq;rw [show (b - a).toNat=0 by omega];rfl
def NB {a b:Int} (h:a < b):Dq a b=a::Dq (a + 1) b:=by
 unfold Dq;rw [show (b - a).toNat=(b - (a + 1)).toNat + 1 by omega,List.range_succ_eq_map];simp only [BH,De,Int.natCast_zero,Int.add_zero];congr 1;apply List.map_congr_left;intro k _;show a + ((k + 1:Nat):Int)=a + 1 + (k:Int);omega
def zhz {a b x:Int}:x∈Dq a b↔a<=x/\x < b:=by
 unfold Dq;simp only [jg4,jc6];constructor
 ·rintro ⟨k,hk,rfl⟩;omega
 ·rintro ⟨h1,h2⟩;exact ⟨(x - a).toNat,by omega,by omega⟩
def DN (lo hi x:Int):Bool:=decide (lo<=x) && decide (x<=hi)
theorem xE (lo hi:Int):∀ (n:Nat) (a b:Int),(b - a).toNat=n->lo<=a->(Dq a b).filter (DN lo hi)=Dq a (min (b - 1) hi + 1):=by
 intro n;induction n with
 | zero=>
  intro a b h ha;rw [Ir (a:=a) (by omega),Ir (by omega)];rfl
 | succ n ih=>
  intro a b h ha;rw [NB (by omega),PB];by_cases h2:a<=hi
  ·rw [if_pos (by unfold DN;simp [h2,ha]),NB (a:=a) (b:=min (b - 1) hi + 1) (by omega),ih (a + 1) b (by omega) (by omega)]
  ·rw [if_neg (by unfold DN;simp;omega),Ir (a:=a) (b:=min (b - 1) hi + 1) (by omega),ih (a + 1) b (by omega) (by omega),Ir (by omega)]
theorem VB (lo hi:Int):∀ (n:Nat) (a b:Int),(b - a).toNat=n->a<=lo->(Dq a b).filter (DN lo hi)=Dq lo (min (b - 1) hi + 1):=by
 intro n;induction n with
 | zero=>
  intro a b h ha;rw [Ir (a:=a) (by omega),Ir (by omega)];rfl
 | succ n ih=>
  intro a b h ha;by_cases e:a=lo
  ·subst e;exact xE a hi _ a b rfl (HW _)
  ·rw [NB (by omega),PB,if_neg (by unfold DN;simp;omega)];exact ih (a + 1) b (by omega) (by omega)
def Bh (hi ah:Int) (row:List Int):Int:=match row.getLast? with
 | none=>min hi ah
 | some m=>min (min hi ah) m
def Ci (lo hi ah:Nat->Int):Nat->List (List Int)
 | 0=>[[]]
 | n + 1=>(Ci lo hi ah n).flatMap λ row=>(Dq (lo n) (Bh (hi n) (ah n) row + 1)).map λ x=>row++[x]
def GI (lo hi:Nat->Int) (n:Nat) (r:List Int):Bool:=(AY n).all λ i=>DN (lo i) (hi i) (r.getD i 0)
theorem Qw (lo hi ah:Nat->Int):∀ (n:Nat) (r:List Int),r∈Ci lo hi ah n->r.length=n
 | 0,r,h=>by simp [Ci] at h;simp [h]
 | n + 1,r,h=>by
  rw [Ci,MM] at h;obtain ⟨q,h1,h2⟩:=h;obtain ⟨x,_,rfl⟩:=jg4.mp h2;simp [Qw lo hi ah n q h1]
def xP (lo hi:Nat->Int) (r:List Int) (x:Int):GI lo hi (r.length + 1) (r++[x])=(GI lo hi r.length r && DN (lo r.length) (hi r.length) x):=by
 unfold GI;rw [UD,List.all_append];have e1:((AY r.length).all λ i=>DN (lo i) (hi i) ((r++[x]).getD i 0))=(AY r.length).all λ i=>DN (lo i) (hi i) (r.getD i 0):=by
  rw [Hb,jb8,jb8];constructor
  ·intro h i hi'
   have:=h i hi'
   have hl:=jc6.mp hi';rwa [BS,Di hl,<- BS] at this
  ·intro h i hi';have hl:=jc6.mp hi';rw [BS,Di hl,<- BS];exact h i hi'
 rw [e1];simp [BS]
theorem Q6 {α β:Type} (p:α->Bool) (f g:α->List β):∀ (l:List α),(∀ a∈l,f a=if p a=true then g a else [])->l.flatMap f=(l.filter p).flatMap g
 | [],_=>rfl
 | a::l,h=>by
  rw [Jg,Q6 p f g l λ b hb=>h b (AB _ hb),h a AI,PB];split
  ·rw [Jg]
  ·rfl
theorem qL {hi hi' ah:Int} (h:hi<=hi') (row:List Int):min (Bh hi' ah row) hi=Bh hi ah row:=by
 unfold Bh;cases row.getLast? with
 | none=>simp only;omega
 | some m=>simp only;omega
theorem Q7 {lo hi lo' hi' ah:Nat->Int} (hl:∀ i,lo' i<=lo i) (hh:∀ i,hi i<=hi' i):∀ (n:Nat),(Ci lo' hi' ah n).filter (GI lo hi n)=Ci lo hi ah n
 | 0=>rfl
 | n + 1=>by
  rw [Ci,Ci,<- Q7 hl hh n,List.filter_flatMap];refine Q6 _ _ _ _ λ a ha=>?_;have la:=Qw _ _ _ n a ha;subst la;rw [List.filter_map];have e:(GI lo hi (a.length + 1) ∘ λ x=>a++[x])=λ x=>GI lo hi a.length a && DN (lo a.length) (hi a.length) x:=by
   funext x;exact xP lo hi a x
  rw [e];cases GI lo hi a.length a with
  | false=>simp
  | true=>
   simp only [Bool.true_and,if_true]
   have:=VB (lo a.length) (hi a.length) _ (lo' a.length) (Bh (hi' a.length) (ah a.length) a + 1) rfl (hl _)
   rw [show (λ x=>DN (lo a.length) (hi a.length) x)=DN (lo a.length) (hi a.length) from rfl,this,Int.add_sub_cancel,qL (hh _)]
def GL (c:Int) (pile:List (List Int)):Nat->Int:=match pile.getLast? with
 | none=>λ _=>c
 | some r=>λ j=>r.getD j 0
def IC (lo hi:Nat->Nat->Int) (c:Int) (b:Nat):Nat->List (List (List Int))
 | 0=>[[]]
 | n + 1=>(IC lo hi c b n).flatMap λ pile=>(Ci (lo n) (hi n) (GL c pile) b).map λ r=>pile++[r]
def Nj {r:List Int}{n:Nat} (h:r.length=n + 1):r.getLast?=some (r.getD n 0):=by
 rw [PN,h,PL,BS,C9 (by omega)];rfl
def Kr {r:List Int}{x:Int}{n j:Nat} (h:r.length=n):(r++[x]).getD j 0=if j=n then x else r.getD j 0:=by
 rw [BS,BS,Vc];by_cases hj:j < n
 ·rw [if_pos (by omega),if_neg (by omega)]
 ·rw [if_neg (by omega)];by_cases e:j=n
  ·rw [if_pos e,e,h,U3];rfl
  ·rw [if_neg e,Jk (by simp;omega),Jk (by omega)]
theorem Nm {lo hi ah:Nat->Int}:∀ {n:Nat}{r:List Int},r∈Ci lo hi ah n->r.length=n/\(∀ j,j < n->lo j<=r.getD j 0/\r.getD j 0<=hi j/\r.getD j 0<=ah j)/\∀ j,j + 1 < n->r.getD (j + 1) 0<=r.getD j 0
 | 0,r,h=>by
  have e:r=[]:=by simpa [Ci] using h
  subst e;exact ⟨rfl,λ j h=>by omega,λ j h=>by omega⟩
 | n + 1,r,h=>by
  rw [Ci,MM] at h;obtain ⟨q,h1,h2⟩:=h;obtain ⟨x,hx,rfl⟩:=jg4.mp h2;obtain ⟨l,b,m⟩:=Nm h1;obtain ⟨x1,x2⟩:=zhz.mp hx;have t1:Bh (hi n) (ah n) q<=hi n/\Bh (hi n) (ah n) q<=ah n/\(0 < n->Bh (hi n) (ah n) q<=q.getD (n - 1) 0):=by
   unfold Bh;cases n with
   | zero=>
    have e:q=[]:=jf5.mp l;subst e;exact ⟨by show min _ _<=_;omega,by show min _ _<=_;omega,λ h=>by omega⟩
   | succ n=>
    rw [Nj l];exact ⟨by show min (min _ _) _<=_;omega,by show min (min _ _) _<=_;omega,λ _=>by show min (min _ _) _<=_;rw [PL];omega⟩
  refine ⟨by rw [BR,l];rfl,λ j hj=>?_,λ j hj=>?_⟩
  ·rw [Kr l];by_cases e:j=n
   ·subst e;rw [if_pos rfl];omega
   ·rw [if_neg e];exact b j (by omega)
  ·rw [Kr l,Kr l,if_neg (show ¬ j=n by omega)];by_cases e:j + 1=n
   ·rw [if_pos e]
    have:=t1.2.2 (by omega)
    rw [show n - 1=j by omega] at this;omega
   ·rw [if_neg e];exact m j (by omega)
def Wc {p:List (List Int)}{n:Nat} (h:p.length=n + 1):p.getLast?=some (p.getD n []):=by
 rw [PN,h,PL,BS,C9 (by omega)];rfl
def WG {p:List (List Int)}{r:List Int}{n i:Nat} (h:p.length=n):(p++[r]).getD i []=if i=n then r else p.getD i []:=by
 rw [BS,BS,Vc];by_cases hj:i < n
 ·rw [if_pos (by omega),if_neg (by omega)]
 ·rw [if_neg (by omega)];by_cases e:i=n
  ·rw [if_pos e,e,h,U3];rfl
  ·rw [if_neg e,Jk (by simp;omega),Jk (by omega)]
def Ks {p:List (List Int)}{r:List Int}{n i j:Nat} (h:p.length=n):g (p++[r]) i j=if i=n then r.getD j 0 else g p i j:=by
 unfold g;rw [WG h];split <;> rfl
theorem Q8 {lo hi:Nat->Nat->Int}{c:Int}{b:Nat}:∀ {n:Nat}{p:List (List Int)},p∈IC lo hi c b n->Tab n b p/\(∀ i j,i < n->j < b->lo i j<=g p i j/\g p i j<=hi i j/\g p i j<=c)/\(∀ i j,i + 1 < n->j < b->g p (i + 1) j<=g p i j)/\∀ i j,i < n->j + 1 < b->g p i (j + 1)<=g p i j
 | 0,p,h=>by
  have e:p=[]:=by simpa [IC] using h
  subst e;exact ⟨⟨rfl,λ _ z=>nomatch z⟩,λ i j h=>by omega,λ i j h=>by omega,λ i j h=>by omega⟩
 | n + 1,p,h=>by
  rw [IC,MM] at h;obtain ⟨q,h1,h2⟩:=h;obtain ⟨r,hr,rfl⟩:=jg4.mp h2;obtain ⟨tq,b1,d1,r1⟩:=Q8 h1;obtain ⟨l,b2,m2⟩:=Nm hr;have ah:∀ j,j < b->GL c q j<=c/\(0 < n->GL c q j<=g q (n - 1) j):=λ j hj=>by
   unfold GL;cases n with
   | zero=>
    have e:q=[]:=jf5.mp tq.1;subst e;exact ⟨HW _,λ h=>by omega⟩
   | succ n=>
    rw [Wc tq.1];exact ⟨(b1 n j (by omega) hj).2.2,λ _=>HW _⟩
  refine ⟨⟨by rw [BR,tq.1];rfl,λ s hs=>(jc2.mp hs).elim (λ z=>tq.2 s z) λ z=>by rw [jb2.mp z,l]⟩,λ i j hi' hj=>?_,λ i j hi' hj=>?_,λ i j hi' hj=>?_⟩
  ·rw [Ks tq.1];by_cases e:i=n
   ·subst e;rw [if_pos rfl];have h3:=b2 j hj;have h4:=ah j hj;omega
   ·rw [if_neg e];exact b1 i j (by omega) hj
  ·rw [Ks tq.1,Ks tq.1,if_neg (show ¬ i=n by omega)];by_cases e:i + 1=n
   ·rw [if_pos e];have h3:=b2 j hj;have h4:=(ah j hj).2 (by omega);rw [show n - 1=i by omega] at h4;omega
   ·rw [if_neg e];exact d1 i j (by omega) hj
  ·rw [Ks tq.1,Ks tq.1];by_cases e:i=n
   ·rw [if_pos e,if_pos e];exact m2 j hj
   ·rw [if_neg e,if_neg e];exact r1 i j (by omega) hj
def VG {hi:Nat->Nat->Int}{c:Int}{a b:Nat}{lo:Nat->Nat->Int}{p:List (List Int)} (h0:∀ i j,0<=lo i j) (h:p∈IC lo hi c b a):Pile a b c p:=by
 obtain ⟨t,h1,h2,h3⟩:=Q8 h;exact ⟨t,λ i j hi hj=>U4 (h0 i j) (h1 i j hi hj).1,λ i j hi hj=>(h1 i j hi hj).2.2,h2,h3⟩
theorem Qv {lo hi ah:Nat->Int}:∀ {n:Nat}{r:List Int},r.length=n->(∀ j,j < n->lo j<=r.getD j 0/\r.getD j 0<=hi j/\r.getD j 0<=ah j)->(∀ j,j + 1 < n->r.getD (j + 1) 0<=r.getD j 0)->r∈Ci lo hi ah n
 | 0,r,h,_,_=>by rw [jf5.mp h];simp [Ci]
 | n + 1,r,h,h1,h2=>by
  have hn:r≠[]:=λ e=>by rw [e] at h;cases h
  obtain ⟨q,x,rfl⟩:∃ q x,r=q++[x]:=⟨r.dropLast,r.getLast hn,(List.dropLast_concat_getLast hn).symm⟩
  have hq:q.length=n:=by simpa using h
  have g1:∀ j,j < n->(q++[x]).getD j 0=q.getD j 0:=λ j hj=>by rw [Kr hq,if_neg (by omega)]
  have g2:(q++[x]).getD n 0=x:=by rw [Kr hq,if_pos rfl]
  have mq:q∈Ci lo hi ah n:=Qv hq (λ j hj=>by have:=h1 j (by omega);rwa [g1 j hj] at this) (λ j hj=>by have:=h2 j (by omega);rwa [g1 j (by omega),g1 (j + 1) (by omega)] at this);rw [Ci,MM];refine ⟨q,mq,jg4.mpr ⟨x,zhz.mpr ⟨?_,?_⟩,rfl⟩⟩
  ·have:=(h1 n (by omega)).1;rwa [g2] at this
  ·have a1:=(h1 n (by omega)).2;rw [g2] at a1;unfold Bh;cases n with
   | zero=>rw [jf5.mp hq];simp only [US];omega
   | succ m=>
    have a2:=h2 m (by omega);rw [g2,g1 m (by omega)] at a2;rw [Nj hq];simp only;omega
def CB (b:Nat) (c:Int):List (List Int):=Ci (λ _=>0) (λ _=>c) (λ _=>c) b
structure RowB (b:Nat) (c:Int) (r:List Int):Prop where
 len:r.length=b
 lo:∀ j,j < b->0<=r.getD j 0
 hi:∀ j,j < b->r.getD j 0<=c
 nr:∀ j,j + 1 < b->r.getD (j + 1) 0<=r.getD j 0
def zys {b:Nat}{c:Int}{r:List Int}:r∈CB b c↔RowB b c r:=by
 constructor
 ·intro h;obtain ⟨h1,h2,h3⟩:=Nm h;exact ⟨h1,λ j hj=>(h2 j hj).1,λ j hj=>(h2 j hj).2.1,h3⟩
 ·intro h;exact Qv h.len (λ j hj=>⟨h.lo j hj,h.hi j hj,h.hi j hj⟩) h.nr
def En (b:Nat) (ah:Nat->Int) (q:List Int):Bool:=(AY b).all λ i=>decide (q.getD i 0<=ah i)
theorem x4 {hi ah c:Int} (h:min hi ah<=c) (row:List Int):Bh (min hi ah) c row=Bh hi ah row:=by
 unfold Bh;cases row.getLast? with
 | none=>simp only;omega
 | some m=>simp only;omega
theorem Qx {lo hi ah:Nat->Int}{c:Int}:∀ (n:Nat),(∀ i,i < n->min (hi i) (ah i)<=c)->Ci lo (λ i=>min (hi i) (ah i)) (λ _=>c) n=Ci lo hi ah n
 | 0,_=>rfl
 | n + 1,h=>by
  rw [Ci,Ci,Qx n λ i hi=>h i (by omega)];congr 1;funext row;rw [x4 (h n (by omega))]
def R6 {b:Nat}{c:Int}{ah:Nat->Int}:(CB b c).filter (En b ah)=Ci (λ _=>0) (λ _=>c) ah b:=by
 rw [<- Qx (c:=c) b λ i _=>by omega];have e2:=Q7 (lo':=λ _=>0) (hi':=λ _=>c) (ah:=λ _=>c) (lo:=λ _=>0) (hi:=λ i=>min c (ah i)) (λ _=>HW _) (λ i=>by show min c (ah i)<=c;omega) b;rw [<- e2];unfold CB;apply List.filter_congr;intro q hq;have h2:=zys.mp hq;rw [Hb];unfold En GI DN;simp only [jb8,jc6,A4,decide_eq_true_iff];constructor
 ·intro h i hi;have a1:=h i hi;have a2:=h2.lo i hi;have a3:=h2.hi i hi;omega
 ·intro h i hi;have a1:=h i hi;omega
def CN:Fs:=pa2
def Yd (c:Int) (m:Nat) (hm:m<=1000):∃ ns:List Int,ns.length=m/\c_numbers [.int c,.int (m:Int)]=.ok (il ns,om,.non):=by
 have z:=sz;let R (xs:List Int) (v w:Int) (s5 s6:QQ.Slot):Ae:=[some (.int c,om),some (.int (m:Int),om),some (il xs,om),some (.int v,om),some (.int w,om),s5,s6]
 let R0 (s2 s3 s4:QQ.Slot):Ae:=[some (.int c,om),some (.int (m:Int),om),s2,s3,s4,none,none]
 have s1:Ai false 2 (Aq Bo (Ad)) [] (R0 none none none)=.nx (R0 (some (il [],om)) none none):=by kernel_rfl
 have s2:Ai false 3 (Aa 0) [0] (R0 (some (il [],om)) none none)=.nx (R0 (some (il [],om)) (some (.int c,om)) none):=by kernel_rfl
 have s3:Ai false 4 pe7 [0] (R0 (some (il [],om)) (some (.int c,om)) none)=.nx (R [] c (c % 2147483647) none none):=setF (Eg (i:=c) rfl rfl (by decide)) (show 4 < 7 by decide) rfl;obtain ⟨ρ',e6,xs,v,w,s5,s6,rfl,hl⟩:=KY (i:=5) (body:=CN) (en:=BB) (fa:=Ah (Aa 1) (Ad)) (ρ:=R [] c (c % 2147483647) none none) (ρ1:=R [] c (c % 2147483647) none none) (as:=[(.int (m:Int),om)]) (lo:=0) (hi:=(m:Int))
  (λ k ρ=>∃ xs v w s5 s6,ρ=R xs v w s5 s6/\xs.length=k) rfl (Fl (by omega) (by omega)) ⟨[],c,_,none,none,rfl,rfl⟩ (by
   rintro j ρ hj ⟨xs,v,w,s5,s6,rfl,hl⟩;let Q (xs:List Int) (v w:Int) (s6:QQ.Slot):Ae:=R xs v w (some (.int (0 + (j:Int)),om)) s6;have app:∀ {f:Fx}{vs:List Nat}{v w:Int}{s6:QQ.Slot}{x:Int},f (Q xs v w s6)=.ok (.int x,om,Q xs v w s6)->Ce 2 f vs (Q xs v w s6)=.nx (Q (xs++[x]) v w s6):=λ {f vs v w s6 x} h=>by
    refine (Pa (i:=2) (d0:=999) (d:=om) (y:=.int x) (e:=om) (xs:=xs.map PV.int) (xs0:=xs.map PV.int) rfl h rfl (by decide) (by rw [AF];omega) rfl).trans ?_;rw [YL];rfl
   have tt:bT (CD pd6 pb0) (Q xs v w s6)=.ok (decide ((10:Int) ^ 18<=c) && decide (0 < v),Q xs v w s6):=By (Hm (b:=decide (0 < v)) (a:=decide ((10:Int) ^ 18<=c)) (d:=om) (by kernel_rfl) (λ _=>rfl) rfl);refine ⟨show 5 < 7 by decide,?_⟩;cases hd:decide ((10:Int) ^ 18<=c) && decide (0 < v) with
   | true=>
    rw [hd] at tt;refine ⟨Q (xs++[v % 64]) (v / 64) w s6,(C2 tt).trans ((AR (app (Eg (i:=v) rfl rfl (by decide)))).trans (setF (Ss (i:=v) rfl rfl (by decide) (by decide)) (show 3 < 7 by decide) rfl)),_,_,_,_,_,rfl,?_⟩;rw [BR,hl];rfl
   | false=>
    rw [hd] at tt;let w':=(w + 7 * (0 + (j:Int)) + 3) * 48271 % 2147483647;have w0:=UC ((w + 7 * (0 + (j:Int)) + 3) * 48271) (show (2147483647:Int)≠0 by decide);have w1:=UW ((w + 7 * (0 + (j:Int)) + 3) * 48271) (show (0:Int) < 2147483647 by decide);have u1:Ai false 4 pc2 [4,5] (Q xs v w s6)=.nx (Q xs v w' s6):=setF (Eg (JK (JG (JG (i:=w) rfl (JK (i:=7) (j:=0 + (j:Int)) rfl rfl (.inl (by decide)))) (j:=3) rfl) (j:=48271) rfl (.inr (by decide))) (j:=2147483647) rfl (by decide)) (show 4 < 7 by decide) rfl;let y:=w' * w' % 2147483629 * 69621 % 2147483587;have u2:Ai false 6 pc5 [4,4] (Q xs v w' s6)=.nx (Q xs v w' (some (.int y,om))):=setF (Eg (JK (Eg (JK (i:=w') (j:=w') rfl rfl (.inl (by show -(2 ^ 64) < w'/\w' < 2 ^ 64;omega))) (j:=2147483629) rfl (by decide)) (j:=69621) rfl (.inr (by decide))) (j:=2147483587) rfl (by decide)) (show 6 < 7 by decide) rfl;refine ⟨_,(D5 tt).trans ((AR u1).trans ((AR u2).trans (app (Eg (Ss (i:=y) rfl rfl (by decide) (by decide)) (j:=720720) rfl (by decide))))),_,_,_,_,_,rfl,?_⟩;rw [BR,hl];rfl)
 rw [show ((m:Int) - 0).toNat=m by omega] at hl;exact ⟨xs,hl,BZ rfl ((AR s1).trans ((AR s2).trans ((AR s3).trans ((AR e6).trans rfl))))⟩
theorem Rc (v:Int):∀ n:Nat,Dz n [.int v]=(AH n v).map PV.int
 | 0=>rfl
 | n + 1=>by
  show [PV.int v]++Dz n [.int v]=_;rw [Rc v n];rfl
def XB {f g:Fx}{ρ ρ1 ρ2:Ae}{v:Int}{n:Nat}{d e:Nat} (h1:f ρ=.ok (.lst [.int v],d,ρ1)) (h2:g ρ1=.ok (.int (n:Int),e,ρ2)) (hn:n<=1000):Ab BC f g ρ=.ok (il (AH n v),om,ρ2):=by
 refine BW h1 h2 ?_;have z:=sz;unfold BC;dsimp only;rw [if_pos ⟨by omega,by omega,by rw [Jl,HY];omega⟩,HY,Rc,Tb];rfl
section
variable {a b c:Nat}{t:List (List Int)}
def YH (p:Pile a b c t) (ha:1<=a/\a<=6) (hb:1<=b/\b<=6) (hc:1<=c/\c<=6):f_is_even [bx a b c,tb t]=.ok (.bl (decide ((a:Int)=b) && decide (DK t b=t)),om,.non):=by
 let R:Ae:=[some (bx a b c,0),some (tb t,0)]
 have v1:Ca (Az f_must_be_pile pa4) R=.nx R:=Fg (Bj (xs:=[(bx a b c,0),(tb t,0)]) rfl (Jx p.tab (by omega) (by omega) (by omega) ((Jp p.tab).mpr p)));have k1:=FC (neg:=false) (f:=Ab A7 (Aa 0) (bC (.int 0))) (g:=Ab A7 (Aa 0) (bC (.int 1))) (ρ:=R) (ρ1:=R) (ρ2:=R) (i:=(a:Int)) (j:=(b:Int)) (d:=om) (e:=om) rfl rfl;have k2:=OT (neg:=false) (Bj (F:=f_mirrored_pile) (fa:=Ah (Aa 0) (Ah (Aa 1) Ad)) (ρ:=R) (xs:=[(bx a b c,0),(tb t,0)]) rfl (Xl p (by omega) (by omega) (by omega))) (h:=Aa 1) (u:=t) (e:=0) rfl;rw [MJ] at k1 k2;exact BZ rfl ((AR v1).trans (Cv (Hm k1 (λ _=>k2) rfl)))
def x9 (p:Pile a b c t) (ha:1<=a/\a<=6) (hb:1<=b/\b<=6) (hc:1<=c/\c<=6):f_is_whole [bx a b c,tb t]=.ok (.bl (decide (Kq t c=t)),om,.non):=by
 let R:Ae:=[some (bx a b c,0),some (tb t,0)]
 have k2:=OT (neg:=false) (Bj (F:=f_rest_of) (fa:=Ah (Aa 0) (Ah (Aa 1) Ad)) (ρ:=R) (xs:=[(bx a b c,0),(tb t,0)]) rfl (Zn p (by omega) (by omega) (by omega))) (h:=Aa 1) (u:=t) (e:=0) rfl;rw [MJ] at k2;exact BZ rfl (Cv k2)
def qb (p:Pile a b c t) (ha:1<=a/\a<=6) (hb:1<=b/\b<=6) (hc:1<=c/\c<=6):f_is_round [bx a b c,tb t]=.ok (.bl ((decide ((a:Int)=b) && decide ((b:Int)=c)) && decide (BQ t b c=t)),om,.non):=by
 let R:Ae:=[some (bx a b c,0),some (tb t,0)]
 have v1:Ca (Az f_must_be_pile pa4) R=.nx R:=Fg (Bj (xs:=[(bx a b c,0),(tb t,0)]) rfl (Jx p.tab (by omega) (by omega) (by omega) ((Jp p.tab).mpr p)));have k1:=Nq (p:=λ i j=>decide (i=j)) (q:=λ i j=>decide (i=j)) (f:=Ab A7 (Aa 0) (bC (.int 0))) (g:=Ab A7 (Aa 0) (bC (.int 1))) (h:=Ab A7 (Aa 0) (bC (.int 2))) (ρ:=R) (i:=(a:Int)) (j:=(b:Int)) (k:=(c:Int)) (d:=om) (e:=om) (c:=om) rfl rfl rfl;have k2:=OT (neg:=false) (Bj (F:=f_rolled_pile) (fa:=Ah (Aa 0) (Ah (Aa 1) Ad)) (ρ:=R) (xs:=[(bx a b c,0),(tb t,0)]) rfl (XD p (by omega) (by omega) (by omega))) (h:=Aa 1) (u:=t) (e:=0) rfl;rw [MJ] at k2;exact BZ rfl ((AR v1).trans (Cv (Hm k1 (λ _=>k2) rfl)))
end
end QV
namespace K49
open PySem PySem.Spec PyProof.Rows L2 QQ QV
def Ao (r:List Int):PV:=.tup (r.map PV.int)
def TF {f g:Fx}{ρ ρ1 ρ2:Ae}{xs:List Int}{k x:Int}{d e:Nat} (h1:f ρ=.ok (Ao xs,d,ρ1)) (h2:g ρ1=.ok (.int k,e,ρ2)) (h:Bg xs k=some x):Ab A7 f g ρ=.ok (.int x,om,ρ2):=by
 refine BW h1 h2 ?_;show (Bg (xs.map PV.int) k).map _=_
 have:Bg (xs.map PV.int) k=some (.int x):=by
  unfold Bg at h ⊢;rw [AF];cases e:C1 xs.length k with
  | none=>rw [e] at h;cases h
  | some j=>
   rw [e] at h;have h':xs[j]?=some x:=h;show (xs.map PV.int)[j]?=_;rw [DA,h'];rfl
 rw [this];rfl
def XU {f h:Fx}{ρ ρ1 ρ2:Ae}{xs ys:List Int}{d e:Nat} (h1:f ρ=.ok (Ao xs,d,ρ1)) (h2:h ρ1=.ok (Ao ys,e,ρ2)) (hl:xs.length + ys.length<=1000000):Ab AD f h ρ=.ok (Ao (xs++ys),0,ρ2):=by
 have z:=sz;refine BW h1 h2 ?_;show (if _ then _ else _)=_;rw [if_pos (by rw [AF,AF];omega),<- EZ];rfl
def Ye {n:Nat}{en:List (PV×Nat)->Option (Int×Int)}{fa:Fa}{elt:Fx}{q:Nat->PV}{ρ ρ1:Ae}{as:List (PV×Nat)}{lo hi:Int} (hf:fa ρ=.ok (as,ρ1)) (hen:en as=some (lo,hi)) (hn:ρ1.length=n) (he:∀ k,k < (hi - lo).toNat->elt (ρ1++[some (.int (lo + (k:Int)),om)])=.ok (q k,0,ρ1++[some (.int (lo + (k:Int)),om)])) (hl:(hi - lo).toNat<=Ap):
  ∃ e,CF en fa 1 (Aj n) BJ elt ρ=.ok (.lst ((AY (hi - lo).toNat).map q),e,ρ1):=by
 refine ⟨if C5 ((AY (hi - lo).toNat).map λ (k:Nat)=>(q k,0)) then om else 1,?_⟩;unfold CF;rw [hf];dsimp only;rw [hen];dsimp only;rw [Nl,EL (enc:=λ (k:Nat)=>PV.int (lo + (k:Int))) (p:=λ _=>true) (q:=q) (e:=λ _=>0) (AY (hi - lo).toNat) ρ1 [] hn (λ _ _=>rfl) (λ x hx _=>he x (jc6.mp hx)) (by simpa using hl),jg0.mpr (λ _ _=>rfl)];show BO ((AY (hi - lo).toNat).map λ x=>(q x,0)) ρ1=_;unfold BO;rw [De];rfl
def Zp {b c:Nat} (hb:1<=b/\b<=1000) (hc:c<=1000) (hR:∀ n,n<=b->(CB n c).length<=500000):KQ [.int (b:Int),.int (c:Int)]=.ok (.lst ((CB b c).map Ao),0,.non):=by
 have z:=sz;let L (x2:PV) (d2:Nat) (s3 s4 s5 s6:QQ.Slot) (d1:Nat):Ae:=[some (.int (b:Int),om),some (.int (c:Int),d1),some (x2,d2),s3,s4,s5,s6]
 have v1:Ai false 2 (Aq Bo (Ah (Aq GD (Ad)) (Ad))) [] [some (.int (b:Int),om),some (.int (c:Int),om),none,none,none,none,none]=.nx (L (.lst [Ao []]) om none none none none om):=rfl;obtain ⟨ρ',v2,d1,d2,s3,s4,s5,s6,hd2,rfl⟩:=KY (i:=3) (en:=BB) (fa:=Ah (Aa 0) Ad) (body:=(Ag pc6
 (Ag (DZ (Aa 2) [2] (Aj 5) pa1)
 (Ai false 2 (Aa 4) [4])))) (ρ:=L (.lst [Ao []]) om none none none none om) (ρ1:=L (.lst [Ao []]) om none none none none om) (as:=[(.int (b:Int),om)]) (lo:=0) (hi:=(b:Int))
  (λ j ρ=>∃ d1 d2 s3 s4 s5 s6,(0 < j->d2=0)/\ρ=L (.lst ((CB j c).map Ao)) d2 s3 s4 s5 s6 d1) rfl (Fl (by omega) (by omega)) ⟨om,om,none,none,none,none,λ h=>absurd h (by omega),rfl⟩ (by
  rintro j _ hj ⟨d1,d2,s3,s4,s5,s6,_,rfl⟩;have hjb:j < b:=by omega
  refine ⟨by show 3 < 7;decide,?_⟩;rw [Jc];let R:=CB j c;let M (xs:List PV) (d4 d1 d2 d3:Nat) (s5 s6:QQ.Slot):Ae:=[some (.int (b:Int),om),some (.int (c:Int),d1),some (.lst (R.map Ao),d2),some (.int (j:Int),d3),some (.lst xs,d4),s5,s6]
  let nx (r:List Int):List (List Int):=(Dq 0 (Bh c c r + 1)).map λ x=>r++[x];have hnx:CB (j + 1) c=R.flatMap nx:=rfl;obtain ⟨ρ2,e2,d1',d3',d4',s5',s6',hd4,rfl⟩:=Nv (asg:=Aj 5) (enc:=Ao) (body:=pa1) (λ pre ρ=>∃ d1 d3 d4 s5 s6,d4≠0/\ρ=M ((pre.flatMap nx).map Ao) d4 d1 0 d3 s5 s6) R [] (M [] om d1 0 om s5 s6) ⟨d1,om,om,s5,s6,by decide,rfl⟩ (by
   rintro pre r post _ ep ⟨d1,d3,d4,s5,s6,hd4,rfl⟩;rw [FV] at ep;have hr:r∈R:=by rw [ep];exact AL _ AI
   have h2:=zys.mp hr;let N (d1 d5:Nat) (s6:QQ.Slot):Ae:=M ((pre.flatMap nx).map Ao) d4 d1 0 d3 (some (Ao r,d5)) s6;have ht:∃ m:Nat,Bh c c r=(m:Int)/\m<=c/\Bn (bT pb0) pd8 (Aa 1) (N d1 0 s6)=.ok (.int (m:Int),om,N d1 0 s6):=by
    have tt:bT pb0 (N d1 0 s6)=.ok (decide (0 < (j:Int)),N d1 0 s6):=By (MB (p:=λ i j=>decide (j < i)) (i:=(j:Int)) (j:=0) (d:=om) (e:=om) rfl rfl);cases j with
    | zero=>
     refine ⟨c,?_,AE _,?_⟩
     ·unfold Bh;rw [jf5.mp h2.len];simp only [US];omega
     ·unfold Bn;rw [tt];rfl
    | succ i=>
     have g1:=Nj h2.len;have g2:=h2.lo i (by omega);have g3:=h2.hi i (by omega);obtain ⟨m,hm⟩:∃ m:Nat,r.getD i 0=(m:Int):=⟨(r.getD i 0).toNat,by omega⟩
     refine ⟨m,?_,by omega,?_⟩
     ·unfold Bh;rw [g1];simp only;omega
     ·unfold Bn;rw [tt];dsimp only [Rz.bind];rw [if_pos (by rw [decide_eq_true_iff];omega)];refine TF (xs:=r) (k:=-1) (d:=0) (e:=om) rfl rfl ?_;unfold Bg C1;rw [if_neg (by decide),if_pos (by rw [h2.len];omega),h2.len,<- hm];rw [show (-1 + ((i + 1:Nat):Int)).toNat=i by omega];exact J2 (by rw [h2.len];omega)
   obtain ⟨m,tm,hmc,ev⟩:=ht;have w1:Ai false 6 (Bn (bT pb0) pd8 (Aa 1)) [5,1] (N d1 0 s6)=.nx (N d1 0 (some (.int (m:Int),om))):=setF ev (show 6 < 7 by decide) rfl;have ct:∃ e,CF BB (Ah pe3 (Ad)) 1 (Aj 7) BJ (Ab AD (Aa 5) pe4) (N d1 0 (some (.int (m:Int),om)))=.ok (.lst ((nx r).map Ao),e,N d1 0 (some (.int (m:Int),om))):=by
    let W:Ae:=N d1 0 (some (.int (m:Int),om));have e1:(nx r).map Ao=(AY (m + 1)).map λ (k:Nat)=>Ao (r++[(0:Int) + (k:Int)]):=by
     show ((Dq 0 (Bh c c r + 1)).map λ x=>r++[x]).map Ao=_;unfold Dq;rw [tm,De,De,show ((m:Int) + 1 - 0).toNat=m + 1 by omega];rfl
    have hc:=Ye (n:=7) (en:=BB) (fa:=Ah pe3 (Ad)) (elt:=Ab AD (Aa 5) pe4) (q:=λ k=>Ao (r++[(0:Int) + (k:Int)])) (ρ:=W) (ρ1:=W) (as:=[(.int ((m:Int) + 1),om)]) (lo:=0) (hi:=(m:Int) + 1) rfl (Fl (by omega) (by omega)) rfl (λ k hk=>by
     exact XU (f:=Aa 5) (h:=Aq GD (Ah (Aa 7) (Ad))) (xs:=r) (ys:=[(0:Int) + (k:Int)]) (d:=0) (e:=om) rfl rfl (by rw [h2.len,Jl];omega)) (by omega)
    rw [show ((m:Int) + 1 - 0).toNat=m + 1 by omega,<- e1] at hc;exact hc
   obtain ⟨e,ct⟩:=ct;have hjl:(CB (j + 1) c).length<=500000:=hR (j + 1) (by omega);have hln:((pre.flatMap nx).map Ao).length + ((nx r).map Ao).length<=Ap:=by
    have:(CB (j + 1) c).length=(pre.flatMap nx).length + ((nx r).length + (post.flatMap nx).length):=by
     rw [hnx,ep,MQ,Jg,BR,BR]
    rw [AF,AF];omega
   have w2:Cd 4 pc7 [5] (N d1 0 (some (.int (m:Int),om)))=.nx (M (((pre++[r]).flatMap nx).map Ao) 1 d1 0 d3 (some (Ao r,0)) (some (.int (m:Int),om))):=by
    obtain ⟨k,rfl⟩:∃ k,d4=k + 1:=⟨d4 - 1,by omega⟩
    have hcool:Bb e [5] (N d1 0 (some (.int (m:Int),om)))=N d1 0 (some (.int (m:Int),om)):=by
     unfold Bb;split <;> rfl
    refine Su (xs:=(pre.flatMap nx).map Ao) (xs0:=(pre.flatMap nx).map Ao) (d0:=k) (d:=k + 1) rfl ct (by rw [hcool];rfl) (by omega) hln ?_;rw [hcool,MQ,EZ];simp only [Jg,UK,HX];rfl
   exact ⟨N d1 0 s6,_,rfl,(AR w1).trans w2,d1,d3,1,_,_,by decide,rfl⟩)
  have u1:Ai false 4 (Aq Bo (Ad)) [] (L (.lst (R.map Ao)) d2 (some (.int (j:Int),om)) s4 s5 s6 d1)=.nx (M [] om d1 d2 om s5 s6):=rfl;have u2:DZ (Aa 2) [2] (Aj 5) pa1 (M [] om d1 d2 om s5 s6)=_:=TB (els:=R.map Ao) (d:=0) rfl rfl e2
  refine ⟨_,(AR u1).trans ((AR u2).trans (setF (x:=.lst (((([]:List (List Int))++R).flatMap nx).map Ao)) (d:=0) rfl (show 2 < 7 by decide) rfl)),d1',0,some (.int (j:Int),d3'),some (.lst (((([]:List (List Int))++R).flatMap nx).map Ao),0),s5',s6',λ _=>rfl,?_⟩
  rfl)
 rw [show ((b:Int) - 0).toNat=b by omega] at v2;have hd:d2=0:=hd2 (by omega);subst hd;exact BZ rfl ((AR v1).trans ((AR v2).trans rfl))
section
variable {a b c:Nat}
structure Ahd (b:Nat) (x:PV) (ah:Nat->Int):Prop where
 idx:∀ j,j < b->∀ d e,A7 x d (.int (j:Int)) e=some (.int (ah j),om)
 dv:dv x=0
def WJ {r:List Int} (h:r.length=b):Ahd b (il r) λ i=>r.getD i 0:=⟨λ j hj d e=>by
 show (Bg (r.map PV.int) (j:Int)).map _=_;rw [Iv (x:=PV.int (r.getD j 0)) (by omega) (by rw [HY,DA,J2 (by omega)];rfl)]
 rfl,rfl⟩
def qz {R:List (List Int)}{x:PV}{ah:Nat->Int} (A:Ahd b x ah) (hR:∀ q∈R,q.length=b) (hl:R.length<=500000) (hb:b<=1000):∃ d,Jo [.lst (R.map Ao),x]=.ok (.lst ((R.filter (En b ah)).map Ao),d,.non):=by
 have z:=sz;let W:Ae:=[some (.lst (R.map Ao),0),some (x,0)]
 have test:∀ q∈R,bT pa8 (W++[some (Ao q,dv (Ao q))])=.ok (En b ah q,W++[some (Ao q,dv (Ao q))]):=λ q hq=>by
  let V:Ae:=W++[some (Ao q,dv (Ao q))];have e0:Aq Dn (Ah (Aa 2) (Ad)) V=.ok (.int (b:Int),om,V):=by
   refine DY (xs:=[(Ao q,0)]) rfl ?_;show some (PV.int ((q.map PV.int).length:Nat),om)=_;rw [AF,hR q hq]
  have e1:=Jy (n:=3) (en:=BB) (fa:=Ah (Aq Dn (Ah (Aa 2) (Ad))) Ad) (elt:=Ab (Cq λ i j=>decide (i<=j)) (Ab A7 (Aa 2) (Aa 3)) (Ab A7 (Aa 1) (Aa 3))) (q:=λ j=>.bl (decide (q.getD j 0<=ah j))) (ρ:=V) (ρ1:=V) (as:=[(.int (b:Int),om)]) (lo:=0) (hi:=(b:Int)) (Ct e0) (Fl (by omega) (by omega)) rfl (λ k hk=>by
   have hkb:k < b:=by omega
   rw [Jc];refine MB (p:=λ i j=>decide (i<=j)) (TF (xs:=q) (k:=(k:Int)) (d:=0) (e:=om) rfl rfl (Iv (by omega) (by rw [HY];exact J2 (by rw [hR q hq];exact hkb)))) (d:=om) (e:=om) (BW (x:=x) (d:=dv x) (y:=.int (k:Int)) (e:=om) rfl rfl (A.idx k hkb _ _))) (by omega)
  rw [show ((b:Int) - 0).toNat=b by omega] at e1;exact By (all_ok (xs:=AY b) (g:=λ j=>decide (q.getD j 0<=ah j)) e1)
 have cl:=EL (n:=2) (enc:=Ao) (q:=Ao) (e:=λ _=>0) (p:=En b ah) (elt:=Aa 2) R W [] rfl test (λ q _ _=>rfl) (by rw [K2];omega);rw [FV] at cl;have e:∃ d,BK (Aa 0) 1 (Aj 2) (bT pa8) (Aa 2) W=.ok (.lst ((R.filter (En b ah)).map Ao),d,W):=by
  refine ⟨if C5 ((R.filter (En b ah)).map λ q=>(Ao q,0)) then om else 1,?_⟩;unfold BK;show (BY 1 (Aj 2) _ (Aa 2) (R.map Ao) W []).bindN (λ (acc,ρ2)=>BO acc ρ2)=_;rw [cl];show BO _ W=_;unfold BO;rw [De];rfl
 obtain ⟨d,e⟩:=e;have hx:dv x=0:=A.dv;refine ⟨d,BZ (ρ':=W) rfl ?_⟩;show Au _ [some (.lst (R.map Ao),0),some (x,dv x)]=_;rw [hx];exact Cv e
end
def DT (b c:Nat) (p:List (List Int)):List Int:=match p.getLast? with
 | none=>AH b (c:Int)
 | some r=>r
theorem qx {b c j:Nat}{p:List (List Int)} (hj:j < b):(DT b c p).getD j 0=GL c p j:=by
 unfold DT GL;cases p.getLast? with
 | none=>
  show (AH b (c:Int)).getD j 0=_;rw [BS,He,if_pos hj];rfl
 | some r=>rfl
def V9 {b:Nat}{f h:Nat->Int} (e:∀ j,j < b->f j=h j):En b f=En b h:=by
 funext q;unfold En;rw [Hb,jb8,jb8];exact ⟨λ z i hi=>by rw [<- e i (jc6.mp hi)];exact z i hi,λ z i hi=>by rw [e i (jc6.mp hi)];exact z i hi⟩
def D0 (b c:Nat) (p:List (List Int)):List (List (List Int)):=(Ci (λ _=>0) (λ _=>(c:Int)) (GL c p) b).map λ r=>p++[r]
def qo {x:List (List Int)}{m:List Int} (h:x.getLast?=some m):Bg x (-1)=some m:=by
 have hl:0 < x.length:=by cases x with | nil=>cases h | cons _ _=>exact UJ _
 unfold Bg C1;rw [if_neg (by decide),if_pos (by omega)];rw [PN] at h;rw [show (-1 + (x.length:Int)).toNat=x.length - 1 by omega];exact h
def EE (a b c:Nat) (p:List (List Int)) (s3:QQ.Slot):Ae:=[some (tb p,0),some (.lst ((CB b c).map Ao),0),some (bx a b c,0),s3]
theorem xB {b c:Nat}{p:List (List Int)} (hp:∀ r∈p,r.length=b):(DT b c p).length=b:=by
 unfold DT;cases el:p.getLast? with
 | none=>exact Ib
 | some m=>exact hp m (List.mem_of_getLast? el)
def VX {k:Fb}{f h:Fx}{ρ ρ1:Ae} (e:k ρ=.ok (false,ρ1)):Bn k f h ρ=h ρ1:=by
 unfold Bn;rw [e];rfl
def VY {k:Fb}{f h:Fx}{ρ ρ1:Ae} (e:k ρ=.ok (true,ρ1)):Bn k f h ρ=f ρ1:=by
 unfold Bn;rw [e];rfl
theorem qy {a b c:Nat}{p:List (List Int)} (hb:b<=100):∃ d3,Ai false 3 pb1 [0,2,2] (EE a b c p none)=.nx (EE a b c p (some (il (DT b c p),d3))):=by
 have z:=sz;have tt:bT (Ab (Cq λ i j=>decide (j < i)) pb9 (bC (.int 0))) (EE a b c p none)=.ok (decide ((0:Int) < (p.length:Int)),EE a b c p none):=By (MB (p:=λ i j=>decide (j < i)) (i:=(p.length:Int)) (j:=0) (d:=om) (e:=om) (DY (xs:=[(tb p,0)]) rfl (by show some (PV.int ((p.map il).length:Nat),om)=_;rw [AF])) rfl);unfold DT;cases el:p.getLast? with
 | none=>
  have e0:p=[]:=List.getLast?_eq_none_iff.mp el;have e1:p.length=0:=by rw [e0];rfl
  rw [decide_eq_false (by omega)] at tt;refine ⟨om,setF (ρ1:=EE a b c p none) (x:=il (AH b (c:Int))) (d:=om) ?_ (show 3 < 4 by decide) rfl⟩;exact (VX tt).trans (XB (v:=(c:Int)) (n:=b) (d:=om) (e:=om) rfl rfl (by omega))
 | some m=>
  have hl:0 < p.length:=by cases p with | nil=>cases el | cons _ _=>exact UJ _
  rw [decide_eq_true (by omega)] at tt;refine ⟨0,setF (ρ1:=EE a b c p none) (x:=il m) (d:=0) ?_ (show 3 < 4 by decide) rfl⟩;exact (VY tt).trans (W2 (t:=p) (k:=-1) (d:=0) (e:=om) rfl rfl (qo el))
def qc {p:List (List Int)}{r:List Int}{V:Ae} (h0:Aa 0 V=.ok (tb p,0,V)) (h4:Aa 4 V=.ok (Ao r,0,V)) (hl:p.length<=100):Ab AD (Aa 0) (Aq Bo pb8) V=.ok (tb (p++[r]),d1 (p.map il++[il r]),V):=by
 have z:=sz;have e1:Aq Bo pb8 V=.ok (.lst [il r],om,V):=DY (op:=Bo) (Ct (DY (op:=J4) (z:=il r) (c:=om) (Ct h4) (by
  show some (PV.lst (r.map PV.int),d1 (r.map PV.int))=_;rw [Tb];rfl))) rfl
 have:=XT (xs:=p.map il) (ys:=[il r]) h0 e1 (by rw [AF,Jl];omega)
 refine this.trans ?_;unfold tb;rw [EZ];rfl
def qY {a b c:Nat}{p:List (List Int)} (hp:∀ r∈p,r.length=b) (hl:p.length<=100) (hb:1<=b/\b<=100) (hc:c<=100) (hR:(CB b c).length<=500000):∃ d,Hi [tb p,.lst ((CB b c).map Ao),bx a b c]=.ok (.lst ((D0 b c p).map tb),d,.non):=by
 have z:=sz;have al:=xB (b:=b) (c:=c) hp;obtain ⟨d3,w1⟩:=qy (a:=a) (b:=b) (c:=c) (p:=p) (by omega);obtain ⟨d,eb⟩:=qz (R:=CB b c) (WJ al) (λ q hq=>(zys.mp hq).len) hR (by omega);rw [V9 (λ j hj=>qx hj),R6] at eb;obtain ⟨rs,ers⟩:∃ rs,rs=Ci (λ _=>0) (λ _=>(c:Int)) (GL c p) b:=⟨_,rfl⟩
 have hrs:rs.length<=500000:=by
  rw [ers,<- R6];exact Co (List.length_filter_le _ _) hR
 rw [<- ers] at eb;have hcall:Az Jo pb7 (EE a b c p (some (il (DT b c p),d3)))=.ok (.lst (rs.map Ao),d,EE a b c p (some (il (DT b c p),d3))):=Bj (xs:=[(.lst ((CB b c).map Ao),0),(il (DT b c p),0)]) rfl eb;have cl:=EL (n:=4) (enc:=Ao) (q:=λ r=>tb (p++[r])) (e:=λ r=>d1 (p.map il++[il r])) (p:=λ _=>true) (test:=BJ) (elt:=Ab AD (Aa 0) (Aq Bo pb8)) rs (EE a b c p (some (il (DT b c p),d3))) [] rfl (λ _ _=>rfl) (λ r _ _=>qc rfl rfl hl) (by rw [K2];omega);rw [FV,jg0.mpr (λ _ _=>rfl)] at cl;have e2:BK (Az Jo pb7) 1 (Aj 4) BJ (Ab AD (Aa 0) (Aq Bo pb8)) (EE a b c p (some (il (DT b c p),d3)))=.ok (.lst ((D0 b c p).map tb),if C5 (rs.map λ r=>(tb (p++[r]),d1 (p.map il++[il r]))) then om else 1,EE a b c p (some (il (DT b c p),d3))):=by
  unfold BK;rw [hcall];dsimp only;rw [cl];show BO _ _=_;unfold BO D0;rw [<- ers,De,De];rfl
 exact ⟨_,BZ (b:=Qg) rfl ((AR w1).trans (Cv e2))⟩
def AP (b c:Nat) (n:Nat):List (List (List Int)):=IC (λ _ _=>0) (λ _ _=>(c:Int)) c b n
def Tx {a b c:Nat}{t:List (List Int)} (h:t∈AP b c a):Pile a b c t:=VG (λ _ _=>HW _) h
def DO (a b c:Nat):Bool:=decide ((CB b c).length<=100000) && ((AY (b + 1)).all λ n=>decide ((CB n c).length<=100000)) && (AY (a + 1)).all λ k=>decide ((AP b c k).length<=100000)
def ZW {a b c:Nat} (ha:a<=6) (hb:1<=b/\b<=6) (hc:c<=6) (hf:DO a b c=true):∃ d,EI [bx a b c]=.ok (.lst ((AP b c a).map tb),d,.non):=by
 have z:=sz;unfold DO at hf;rw [A4,A4,decide_eq_true_iff] at hf;obtain ⟨⟨f1,f2⟩,f3⟩:=hf;have hR:∀ n,n<=b->(CB n c).length<=500000:=λ n hn=>by
  have:=of_decide_eq_true (jb8.mp f2 n (jc6.mpr (by omega)))
  omega
 have hN:∀ k,k<=a->(AP b c k).length<=100000:=λ k hk=>of_decide_eq_true (jb8.mp f3 k (jc6.mpr (by omega)));let lines:PV:=.lst ((CB b c).map Ao);let R (s1 s2 s3 s4 s5:QQ.Slot):Ae:=[some (bx a b c,0),s1,s2,s3,s4,s5]
 have v1:Ai false 1 (Az KQ (Ah pa6 (Ah pa3 (Ad)))) [0,0] (R none none none none none)=.nx (R (some (lines,0)) none none none none):=setF (d:=0) (Bj (xs:=[(.int (b:Int),om),(.int (c:Int),om)]) rfl (Zp (by omega) (by omega) hR)) (show 1 < 6 by decide) rfl;have v2:Ai false 2 (Aq Bo (Ah (Aq Bo (Ad)) (Ad))) [] (R (some (lines,0)) none none none none)=.nx (R (some (lines,0)) (some (.lst [.lst []],om)) none none none):=rfl;obtain ⟨ρ2,e2,d,s3,s4,s5,rfl⟩:=KY (i:=3) (en:=BB) (fa:=Ah pa5 (Ad)) (ρ:=R (some (lines,0)) (some (.lst [.lst []],om)) none none none) (ρ1:=R (some (lines,0)) (some (.lst [.lst []],om)) none none none) (as:=[(.int (a:Int),om)]) (lo:=0) (hi:=(a:Int))
  (body:=(Ag pc6 (Ag (DZ (Aa 2) [2] (Aj 5) (Cd 4 (Az Hi pb4) [5,1,0])) (Ai false 2 (Aa 4) [4]))))
  (λ k ρ=>∃ d s3 s4 s5,ρ=R (some (lines,0)) (some (.lst ((AP b c k).map tb),d)) s3 s4 s5) rfl (Fl (by omega) (by omega)) ⟨om,_,_,_,rfl⟩ (by
  rintro k _ hk ⟨d,s3,s4,s5,rfl⟩;have hk:k < a:=by omega
  refine ⟨(by decide:3 < 6),?_⟩;let piles:=AP b c k;let Q (d3 d4:Nat) (w:List (List (List Int))) (s5:QQ.Slot):Ae:=R (some (lines,0)) (some (.lst (piles.map tb),0)) (some (.int (0 + (k:Int)),d3)) (some (.lst (w.map tb),d4)) s5;have tot:(piles.flatMap (D0 b c)).length<=100000:=hN (k + 1) (by omega);obtain ⟨ρ3,e3,d4',s5',hd4,rfl⟩:=Nv (asg:=Aj 5) (body:=Cd 4 (Az Hi pb4) [5,1,0]) (enc:=tb) (λ pre ρ=>∃ d4 s5,d4≠0/\ρ=Q om d4 (pre.flatMap (D0 b c)) s5) piles [] (Q om om [] s5) ⟨om,s5,by decide,rfl⟩ (by
   rintro p x s _ ep ⟨d4,s5,hd4,rfl⟩;rw [FV] at ep;have hx:x∈piles:=by rw [ep];exact AL _ AI
   have px:=Tx hx;let W:=p.flatMap (D0 b c);have room:W.length + (D0 b c x).length<=100000:=by
    have:(piles.flatMap (D0 b c)).length=W.length + ((D0 b c x).length + (s.flatMap (D0 b c)).length):=by
     rw [ep,MQ,Jg,BR,BR]
    omega
   obtain ⟨e,el⟩:=qY (a:=a) (b:=b) (c:=c) (p:=x) px.tab.2 (by rw [px.tab.1];omega) (by omega) (by omega) (by omega);refine ⟨Q om d4 W (some (tb x,0)),Q om 1 ((p++[x]).flatMap (D0 b c)) (some (tb x,0)),rfl,?_,1,some (tb x,0),by decide,rfl⟩;obtain ⟨j,rfl⟩:∃ j,d4=j + 1:=⟨d4 - 1,by omega⟩
   have hcall:Az Hi pb4 (Q om (j + 1) W (some (tb x,0)))=.ok (.lst ((D0 b c x).map tb),e,Q om (j + 1) W (some (tb x,0))):=Bj (xs:=[(tb x,0),(lines,0),(bx a b c,0)]) rfl el;have hcool:Bb e [5,1,0] (Q om (j + 1) W (some (tb x,0)))=Q om (j + 1) W (some (tb x,0)):=by
    unfold Bb;split <;> rfl
   refine Su (xs:=W.map tb) (xs0:=W.map tb) (d0:=j) (d:=j + 1) rfl hcall (by rw [hcool];rfl) (by omega) (by rw [AF,AF];omega) ?_;rw [hcool,MQ];simp only [Jg,UK,HX];show (Q om (j + 1) W (some (tb x,0))).set 4 (some (.lst (W.map tb++(D0 b c x).map tb),1))=Q om 1 (W++D0 b c x) (some (tb x,0));rw [<- EZ]
   rfl)
  have u2:DZ (Aa 2) [2] (Aj 5) (Cd 4 (Az Hi pb4) [5,1,0]) (R (some (lines,0)) (some (.lst (piles.map tb),d)) (some (.int (0 + (k:Int)),om)) (some (.lst [],om)) s5)=_:=TB (els:=piles.map tb) (d:=0) rfl (ρ2:=Q om om [] s5) rfl e3;refine ⟨_,(AR (f:=Ai false 4 (Aq Bo (Ad)) []) (ρ1:=R (some (lines,0)) (some (.lst (piles.map tb),d)) (some (.int (0 + (k:Int)),om)) (some (.lst [],om)) s5) rfl).trans ((AR u2).trans (setF (x:=.lst (((([]:List (List (List Int)))++piles).flatMap (D0 b c)).map tb)) (d:=0) rfl (show 2 < 6 by decide) rfl)),0,_,_,_,rfl⟩)
 rw [Int.sub_zero,HY] at e2;exact ⟨d,BZ rfl ((AR v1).trans ((AR v2).trans ((AR e2).trans rfl)))⟩
def N4 {a b c:Nat}{F:Fn}{P:List (List Int)->Bool}{n:Nat}{ρ:Ae}{fb:Fx} (ha:a<=6) (hb:1<=b/\b<=6) (hc:c<=6) (hf:DO a b c=true) (hρ:ρ.length=n) (hv:fb ρ=.ok (bx a b c,0,ρ)) (hv2:∀ t:List (List Int),fb (ρ++[some (tb t,0)])=.ok (bx a b c,0,ρ++[some (tb t,0)])) (hn:∀ t:List (List Int),Aa n (ρ++[some (tb t,0)])=.ok (tb t,0,ρ++[some (tb t,0)])) (hP:∀ t,Pile a b c t->F [bx a b c,tb t]=.ok (.bl (P t),om,.non)):
  Aq Dn (Ah (BK (Az EI (Ah fb (Ad))) 1 (Aj n) (bT (Az F (Ah fb (Ah (Aa n) (Ad))))) (Aa n)) (Ad)) ρ=.ok (.int (((AP b c a).filter P).length:Nat),om,ρ):=by
 have z:=sz;have hf':=hf;unfold DO at hf';rw [A4,A4] at hf';have hN:(AP b c a).length<=100000:=of_decide_eq_true (jb8.mp hf'.2 a (jc6.mpr (by omega)));obtain ⟨d,ep⟩:=ZW ha hb hc hf;have hcall:Az EI (Ah fb (Ad)) ρ=.ok (.lst ((AP b c a).map tb),d,ρ):=Bj (xs:=[(bx a b c,0)]) (Ct hv) ep;have cl:=EL (n:=n) (enc:=tb) (q:=tb) (e:=λ _=>0) (p:=P) (test:=bT (Az F (Ah fb (Ah (Aa n) (Ad))))) (elt:=Aa n) (AP b c a) ρ [] hρ (λ t ht=>By (Bj (xs:=[(bx a b c,0),(tb t,0)]) (Hl (hv2 t) (Ct (hn t))) (hP t (Tx ht)))) (λ t _ _=>hn t) (by rw [K2];omega);rw [FV] at cl;have e1:∃ e,BK (Az EI (Ah fb (Ad))) 1 (Aj n) (bT (Az F (Ah fb (Ah (Aa n) (Ad))))) (Aa n) ρ=.ok (.lst (((AP b c a).filter P).map tb),e,ρ):=by
  refine ⟨if C5 (((AP b c a).filter P).map λ t=>(tb t,0)) then om else 1,?_⟩;unfold BK;rw [hcall];show (BY 1 (Aj n) _ (Aa n) ((AP b c a).map tb) ρ []).bindN (λ (acc,ρ2)=>BO acc ρ2)=_;rw [cl];show BO _ ρ=_;unfold BO;rw [De];rfl
 obtain ⟨e,e1⟩:=e1;refine DY (Ct e1) ?_;show some (PV.int ((((AP b c a).filter P).map tb).length:Nat),om)=_;rw [AF]
def M5 (r:Rz (PV×Nat×PV)):Bool:=match r with
 | .ok (.non,_,_)=>true
 | _=>false
def Ny {r:Rz (PV×Nat×PV)} (h:M5 r=true):∃ d z,r=.ok (.non,d,z):=by
 unfold M5 at h;split at h
 ·exact ⟨_,_,rfl⟩
 ·cases h
def FD (r:Rz (PV×Nat×PV)) (v:Int):Bool:=match r with
 | .ok (.int w,_,_)=>decide (w=v)
 | _=>false
def KZ {r:Rz (PV×Nat×PV)}{v:Int} (h:FD r v=true):∃ d z,r=.ok (.int v,d,z):=by
 unfold FD at h;split at h
 ·rw [of_decide_eq_true h];exact ⟨_,_,rfl⟩
 ·cases h
abbrev B3:=Nat×Nat×Nat
def bz (z:B3):PV:=bx z.1 z.2.1 z.2.2
def Ih (z:B3):Bool:=DO z.1 z.2.1 z.2.2
def RT (z:B3):Nat:=((AP z.2.1 z.2.2 z.1).filter λ t=>decide ((z.1:Int)=z.2.1) && decide (DK t z.2.1=t)).length
def Tq (z:B3):Nat:=((AP z.2.1 z.2.2 z.1).filter λ t=>decide (Kq t z.2.2=t)).length
def Pm (z:B3):Nat:=((AP z.2.1 z.2.2 z.1).filter λ t=>(decide ((z.1:Int)=z.2.1) && decide ((z.2.1:Int)=z.2.2)) && decide (BQ t z.2.1 z.2.2=t)).length
def finL:List B3:=[(1,1,1),(1,1,2),(1,1,3),(1,1,4),(1,1,5),(1,1,6),(1,2,1),(1,2,2),(1,2,3),(1,2,4),(1,2,5),(1,2,6),(1,3,1),(1,3,2),(1,3,3),(1,3,4),(1,3,5),(1,3,6),(1,4,1),(1,4,2),(1,4,3),(1,4,4),(1,4,5),(1,4,6),(1,5,1),(1,5,2),(1,5,3),(1,5,4),(1,5,5),(1,5,6),(1,6,1),(1,6,2),(1,6,3),(1,6,4),(1,6,5),(1,6,6),(2,1,1),(2,1,2),(2,1,3),(2,1,4),(2,1,5),(2,1,6),(2,2,1),(2,2,2),(2,2,3),(2,2,4),(2,2,5),(2,2,6),(2,3,1),(2,3,2),(2,3,3),(2,3,4),(2,3,5),(2,3,6),(2,4,1),(2,4,2),(2,4,3),(2,4,4),(2,5,1),(2,5,2),(2,5,3),(2,6,1),(2,6,2),(2,6,3),(3,1,1),(3,1,2),(3,1,3),(3,1,4),(3,1,5),(3,1,6),(3,2,1),(3,2,2),(3,2,3),(3,2,4),(3,2,5),(3,2,6),(3,3,1),(3,3,2),(3,3,3),(3,4,1),(3,4,2),(3,5,1),(3,5,2),(3,6,1),(3,6,2),(4,1,1),(4,1,2),(4,1,3),(4,1,4),(4,1,5),(4,1,6),(4,2,1),(4,2,2),(4,2,3),(4,2,4),(4,3,1),(4,3,2),(4,4,1),(4,4,2),(4,5,1),(4,6,1),(5,1,1),(5,1,2),(5,1,3),(5,1,4),(5,1,5),(5,1,6),(5,2,1),(5,2,2),(5,2,3),(5,3,1),(5,3,2),(5,4,1),(5,5,1),(5,6,1),(6,1,1),(6,1,2),(6,1,3),(6,1,4),(6,1,5),(6,1,6),(6,2,1),(6,2,2),(6,2,3),(6,3,1),(6,3,2),(6,4,1),(6,5,1),(6,6,1)]
def srtL:List B3:=[(1,1,1),(1,1,2),(1,1,3),(1,1,4),(1,1,5),(1,1,6),(1,2,2),(1,2,3),(1,2,4),(1,2,5),(1,2,6),(1,3,3),(1,3,4),(1,3,5),(1,3,6),(1,4,4),(1,4,5),(1,4,6),(1,5,5),(1,5,6),(1,6,6),(2,2,2),(2,2,3),(2,2,4),(2,2,5),(2,2,6),(2,3,3),(2,3,4),(2,3,5),(2,3,6),(2,4,4),(3,3,3)]
def evL:List B3:=[(1,1,1),(1,1,2),(1,1,3),(1,1,4),(1,1,5),(1,1,6),(2,2,1),(2,2,2),(2,2,3),(2,2,4),(2,2,5),(2,2,6),(3,3,1),(3,3,2),(3,3,3),(4,4,1),(4,4,2),(5,5,1),(6,6,1)]
def rdL:List (B3×Nat):=[((1,1,1),2),((2,2,2),5),((3,3,3),20)]
def W4:(evL.all λ z=>Ih z && FD (Ij [bz z]) (RT z))=true:=by kernel_rfl
def Yx:(srtL.all λ z=>Ih z && FD (Gw [bz z]) (Tq z))=true:=by kernel_rfl
def NL:(rdL.all λ z=>Ih z.1 && decide (Pm z.1=z.2))=true:=by kernel_rfl
def M3 (r r':Rz (PV×Nat×PV)):Bool:=match r' with
 | .ok (.int w,_,_)=>FD r w
 | _=>false
def qd {r r':Rz (PV×Nat×PV)}{v:Int} (h:M3 r r'=true) (h':FD r' v=true):FD r v=true:=by
 unfold M3 at h;split at h
 ·rename_i w d z;have e:w=v:=by
   obtain ⟨d',z',e⟩:=KZ h';cases e;rfl
  rw [<- e];exact h
 ·cases h
def Kv (z:B3):List Int:=Ey [(z.1:Int),(z.2.1:Int),(z.2.2:Int)]
def Bi (z:B3):B3:=(((Kv z).getD 0 0).toNat,((Kv z).getD 1 0).toNat,((Kv z).getD 2 0).toNat)
def KI (z:B3):Bool:=decide (1<=z.1/\z.1<=6) && decide (1<=z.2.1/\z.2.1<=6) && decide (1<=z.2.2/\z.2.2<=6) && M5 (Ik [bz z]) && (if z.1=z.2.1 then evL.contains z else FD (Ij [bz z]) 0) && srtL.contains (Bi z) && decide (Kv z=[((Bi z).1:Int),((Bi z).2.1:Int),((Bi z).2.2:Int)]) && M3 (Gw [bz z]) (Gw [bz (Bi z)]) && (if z.1=z.2.1/\z.2.1=z.2.2 then decide (z=(1,1,1)\/z=(2,2,2)\/z=(3,3,3)) else true)
def Wb:finL.all KI=true:=by kernel_rfl
def Vs:Fs:=pa0
def HS (r:Rs):Bool:=match r with
 | .nx [_,some (.lst [.int a,.int b,.int c],_),_]=>decide (0<=a/\0<=b/\0<=c) && finL.contains (a.toNat,b.toNat,c.toNat)
 | _=>false
def EG (x0:PV) (a b c:Nat):Ae:=[some (x0,0),some (.lst [.int (a:Int),.int (b:Int),.int (c:Int)],om),none]
def W5 (x0:PV):((AY 6).all λ a=>(AY 6).all λ b=>(AY 6).all λ c=>HS (Vs (EG x0 (a + 1) (b + 1) (c + 1))))=true:=by kernel_rfl
structure Kz (z:B3):Prop where
 ha:1<=z.1/\z.1<=6
 hb:1<=z.2.1/\z.2.1<=6
 hc:1<=z.2.2/\z.2.2<=6
 few:M5 (Ik [bz z])=true
 ev:if z.1=z.2.1 then z∈evL else FD (Ij [bz z]) 0=true
 sm:Bi z∈srtL
 se:Kv z=[((Bi z).1:Int),((Bi z).2.1:Int),((Bi z).2.2:Int)]
 sw:M3 (Gw [bz z]) (Gw [bz (Bi z)])=true
 rd:z.1=z.2.1/\z.2.1=z.2.2->z=(1,1,1)\/z=(2,2,2)\/z=(3,3,3)
def M0 {z:B3} (hz:z∈finL):Kz z:=by
 have h:=jb8.mp Wb z hz;unfold KI at h;simp only [A4,decide_eq_true_eq] at h;obtain ⟨⟨⟨⟨⟨⟨⟨⟨h1,h2⟩,h3⟩,h4⟩,h5⟩,h6⟩,h7⟩,h8⟩,h9⟩:=h;refine ⟨h1,h2,h3,h4,?_,by simpa using h6,h7,h8,λ hh=>?_⟩
 ·split
  ·rename_i e;rw [if_pos e] at h5;simpa using h5
  ·rename_i e;rw [if_neg e] at h5;exact h5
 ·rw [if_pos hh] at h9;exact of_decide_eq_true h9
def ZC {z:B3} (hz:z∈finL):∃ v:Int,(∃ d w,Nf [bz z]=.ok (.int v,d,w))/\∃ d w,Ij [bz z]=.ok (.int v,d,w):=by
 have k:=M0 hz;obtain ⟨a,b,c⟩:=z;obtain ⟨d0,w0,e0⟩:=Ny k.few;let R:Ae:=[some (bx a b c,0)]
 have s1:Ca pc3 R=.nx R:=Fg (Bj (xs:=[(bx a b c,0)]) rfl e0);have tt:=By (FC (neg:=true) (f:=Ab A7 (Aa 0) (bC (.int 0))) (g:=Ab A7 (Aa 0) (bC (.int 1))) (ρ:=R) (ρ1:=R) (ρ2:=R) (i:=(a:Int)) (j:=(b:Int)) (d:=om) (e:=om) rfl rfl);have ev:=k.ev;by_cases h:a=b
 ·rw [if_pos h] at ev;have ch:=jb8.mp W4 _ ev;rw [A4] at ch;rw [decide_eq_true (by omega)] at tt;refine ⟨(RT (a,b,c):Nat),?_,KZ ch.2⟩;have ct:=N4 (a:=a) (b:=b) (c:=c) (F:=Ni) (P:=λ t=>decide ((a:Int)=b) && decide (DK t b=t)) (n:=1) (ρ:=R) (fb:=Aa 0) k.ha.2 k.hb k.hc.2 ch.1 rfl rfl (λ _=>rfl) (λ _=>rfl) (λ t p=>YH p k.ha k.hb k.hc);exact ⟨_,_,BZ (b:=MZ) rfl ((AR s1).trans ((GJ tt).trans (Cv ct)))⟩
 ·rw [if_neg h] at ev;rw [decide_eq_false (by omega)] at tt;exact ⟨0,⟨_,_,BZ (b:=MZ) rfl ((AR s1).trans (IE ((C2 tt).trans (Cv (d:=om) rfl))))⟩,KZ ev⟩
def x8 {z:B3} (hz:z∈finL):∃ v:Int,(∃ d w,Nd [bz z]=.ok (.int v,d,w))/\∃ d w,Gw [bz z]=.ok (.int v,d,w):=by
 have k:=M0 hz;have ch:=jb8.mp Yx _ k.sm;rw [A4] at ch;obtain ⟨d0,w0,e0⟩:=Ny k.few;have se:=k.se;refine ⟨(Tq (Bi z):Nat),?_,KZ (qd k.sw ch.2)⟩;have hs:1<=(Bi z).1/\(Bi z).1<=6/\1<=(Bi z).2.1/\(Bi z).2.1<=6/\1<=(Bi z).2.2/\(Bi z).2.2<=6:=by
  have:∀ s∈srtL,1<=s.1/\s.1<=6/\1<=s.2.1/\s.2.1<=6/\1<=s.2.2/\s.2.2<=6:=by decide
  exact this _ k.sm
 obtain ⟨s,es⟩:∃ s,s=Bi z:=⟨_,rfl⟩
 rw [<- es] at hs se ch ⊢;obtain ⟨a,b,c⟩:=z;obtain ⟨x,y,w⟩:=s;let R (s1:QQ.Slot):Ae:=[some (bx a b c,0),s1]
 have s1:Ca pc3 (R none)=.nx (R none):=Fg (Bj (xs:=[(bx a b c,0)]) rfl e0);have es2:Aq IJ pd7 (R none)=.ok (bx x y w,0,R none):=by
  refine DY (xs:=[(il (Ey [(a:Int),(b:Int),(c:Int)]),om)]) (Ct (DY (xs:=[(bx a b c,0)]) rfl rfl)) ?_;rw [show Ey [(a:Int),(b:Int),(c:Int)]=[(x:Int),(y:Int),(w:Int)] from se];rfl
 have s2:Ai false 1 (Aq IJ pd7) [0] (R none)=.nx (R (some (bx x y w,0))):=setF es2 (show 1 < 2 by decide) rfl;have ct:=N4 (a:=x) (b:=y) (c:=w) (F:=Nh) (P:=λ t=>decide (Kq t w=t)) (n:=2) (ρ:=R (some (bx x y w,0))) (fb:=Aa 1) hs.2.1 ⟨hs.2.2.1,hs.2.2.2.1⟩ hs.2.2.2.2.2 ch.1 rfl rfl (λ _=>rfl) (λ _=>rfl) (λ t p=>x9 p ⟨hs.1,hs.2.1⟩ ⟨hs.2.2.1,hs.2.2.2.1⟩ hs.2.2.2.2);exact ⟨_,_,BZ (b:=Qf) rfl ((AR s1).trans ((AR s2).trans (Cv ct)))⟩
def xt {z:B3} (hz:z∈finL):∃ v:Int,(∃ d w,Nc [bz z]=.ok (.int v,d,w))/\(if z.1=z.2.1/\z.2.1=z.2.2 then (z,v)=((1,1,1),2)\/(z,v)=((2,2,2),5)\/(z,v)=((3,3,3),20) else v=0):=by
 have k:=M0 hz;obtain ⟨a,b,c⟩:=z;obtain ⟨d0,w0,e0⟩:=Ny k.few;let R:Ae:=[some (bx a b c,0)]
 have s1:Ca pc3 R=.nx R:=Fg (Bj (xs:=[(bx a b c,0)]) rfl e0);have k1:=Nq (p:=λ i j=>decide (i=j)) (q:=λ i j=>decide (i=j)) (f:=Ab A7 (Aa 0) (bC (.int 0))) (g:=Ab A7 (Aa 0) (bC (.int 1))) (h:=Ab A7 (Aa 0) (bC (.int 2))) (ρ:=R) (i:=(a:Int)) (j:=(b:Int)) (k:=(c:Int)) (d:=om) (e:=om) (c:=om) rfl rfl rfl;have tt:=By (J7 k1);by_cases h:a=b/\b=c
 ·rw [decide_eq_true (show (a:Int)=b by omega),decide_eq_true (show (b:Int)=c by omega)] at tt;have hr:=k.rd h;have few:DO a b c=true/\∃ n:Nat,((a,b,c),n)∈rdL/\Pm (a,b,c)=n:=by
   rcases hr with e | e | e
   ·have:=jb8.mp NL ((1,1,1),2) (by decide)
    rw [A4,decide_eq_true_iff] at this;rw [<- e] at this;exact ⟨this.1,2,by rw [e];decide,this.2⟩
   ·have:=jb8.mp NL ((2,2,2),5) (by decide)
    rw [A4,decide_eq_true_iff] at this;rw [<- e] at this;exact ⟨this.1,5,by rw [e];decide,this.2⟩
   ·have:=jb8.mp NL ((3,3,3),20) (by decide)
    rw [A4,decide_eq_true_iff] at this;rw [<- e] at this;exact ⟨this.1,20,by rw [e];decide,this.2⟩
  obtain ⟨hf,n,hn,er⟩:=few;have ct:=N4 (a:=a) (b:=b) (c:=c) (F:=Ng) (P:=λ t=>(decide ((a:Int)=b) && decide ((b:Int)=c)) && decide (BQ t b c=t)) (n:=1) (ρ:=R) (fb:=Aa 0) k.ha.2 k.hb k.hc.2 hf rfl rfl (λ _=>rfl) (λ _=>rfl) (λ t p=>qb p k.ha k.hb k.hc);refine ⟨(Pm (a,b,c):Nat),⟨_,_,BZ (b:=MY) rfl ((AR s1).trans ((GJ tt).trans (Cv ct)))⟩,?_⟩;rw [if_pos h,er];unfold rdL at hn;simp only [ja8,Hc,or_false,Prod.mk.injEq] at hn ⊢;rcases hn with ⟨⟨rfl,rfl,rfl⟩,rfl⟩ | ⟨⟨rfl,rfl,rfl⟩,rfl⟩ | ⟨⟨rfl,rfl,rfl⟩,rfl⟩
  ·exact .inl ⟨⟨rfl,rfl,rfl⟩,rfl⟩
  ·exact .inr (.inl ⟨⟨rfl,rfl,rfl⟩,rfl⟩)
  ·exact .inr (.inr ⟨⟨rfl,rfl,rfl⟩,rfl⟩)
 ·have tt':bT (AS CQ (EJ (λ i j=>decide (i=j)) (λ i j=>decide (i=j)) pa5 pa6 pa3)) R=.ok (true,R):=by
   refine tt.trans ?_
   have:(decide ((a:Int)=b) && decide ((b:Int)=c))=false:=by
    rw [Bool.and_eq_false_iff,decide_eq_false_iff_not,decide_eq_false_iff_not];omega
   rw [this];rfl
  refine ⟨0,⟨_,_,BZ (b:=MY) rfl ((AR s1).trans (IE ((C2 tt').trans (Cv (d:=om) rfl))))⟩,?_⟩;rw [if_neg h]
def NS (x:Int) {n:Nat} (hn:1<=n):∃ m:Nat,m < n/\x % (n:Int)=(m:Int):=by
 have h1:=UC x (b:=(n:Int)) (by omega);have h2:=UW x (b:=(n:Int)) (by omega);exact ⟨(x % (n:Int)).toNat,by omega,by omega⟩
def Wd {r:Rs} (h:HS r=true):∃ z∈finL,∃ s0 d s2,r=.nx [s0,some (.lst [.int (z.1:Int),.int (z.2.1:Int),.int (z.2.2:Int)],d),s2]:=by
 unfold HS at h;split at h
 ·rename_i s0 a b c d s2;rw [A4,decide_eq_true_iff] at h;refine ⟨(a.toNat,b.toNat,c.toNat),by simpa using h.2,s0,d,s2,?_⟩;rw [show ((a.toNat:Nat):Int)=a by omega,show ((b.toNat:Nat):Int)=b by omega,show ((c.toNat:Nat):Int)=c by omega]
 ·cases h
def qg {n0 n1 n2 n3 n4 n5:Int}:∃ z∈finL,∃ d w,Nb [il [n0,n1,n2,n3,n4,n5]]=.ok (bz z,d,w):=by
 let X:PV:=il [n0,n1,n2,n3,n4,n5];have ix:∀ {ρ:Ae} (k v:Int),Aa 0 ρ=.ok (X,0,ρ)->A7 X 0 (.int k) om=some (.int v,om)->Ab A7 (Aa 0) (bC (.int k)) ρ=.ok (.int v,om,ρ):=λ k v h e=>BW h rfl e;have mk:∀ {ρ:Ae} (i j k:Int) (x y w:Int) (m:Nat),m<=6->1<=m->Aa 0 ρ=.ok (X,0,ρ)->A7 X 0 (.int i) om=some (.int x,om)->A7 X 0 (.int j) om=some (.int y,om)->A7 X 0 (.int k) om=some (.int w,om)->∃ a b c:Nat,a < 6/\b < 6/\c < 6/\Aq Bo (Ah (Ab AD (bC (.int 1)) (Ab Bv (Ab A7 (Aa 0) (bC (.int i))) (bC (.int (m:Int))))) (Ah (Ab AD (bC (.int 1)) (Ab Bv (Ab A7 (Aa 0) (bC (.int j))) (bC (.int (m:Int))))) (Ah (Ab AD (bC (.int 1)) (Ab Bv (Ab A7 (Aa 0) (bC (.int k))) (bC (.int (m:Int))))) (Ad)))) ρ=.ok (.lst [.int ((a + 1:Nat):Int),.int ((b + 1:Nat):Int),.int ((c + 1:Nat):Int)],om,ρ):=λ {ρ} i j k x y w m hm h1 hv e1 e2 e3=>by
  obtain ⟨a,ha,ea⟩:=NS x h1;obtain ⟨b,hb,eb⟩:=NS y h1;obtain ⟨c,hc,ec⟩:=NS w h1;have i0:=JG (f:=bC (.int 1)) (i:=1) (d:=om) (ρ:=ρ) rfl (Eg (g:=bC (.int (m:Int))) (e:=om) (j:=(m:Int)) (ix i x hv e1) rfl (by omega));have i1:=JG (f:=bC (.int 1)) (i:=1) (d:=om) (ρ:=ρ) rfl (Eg (g:=bC (.int (m:Int))) (e:=om) (j:=(m:Int)) (ix j y hv e2) rfl (by omega));have i2:=JG (f:=bC (.int 1)) (i:=1) (d:=om) (ρ:=ρ) rfl (Eg (g:=bC (.int (m:Int))) (e:=om) (j:=(m:Int)) (ix k w hv e3) rfl (by omega));rw [ea,show 1 + (a:Int)=((a + 1:Nat):Int) by omega] at i0;rw [eb,show 1 + (b:Int)=((b + 1:Nat):Int) by omega] at i1;rw [ec,show 1 + (c:Int)=((c + 1:Nat):Int) by omega] at i2;exact ⟨a,b,c,by omega,by omega,by omega,DY (Hl i0 (Hl i1 (Ct i2))) rfl⟩
 have St:∀ {ρ:Ae}{a b c:Nat},ρ=EG X a b c->Aa 0 ρ=.ok (X,0,ρ):=λ h=>by rw [h];rfl
 obtain ⟨a,b,c,ha,hb,hc,v1⟩:=mk (ρ:=[some (X,0),none,none]) 0 1 2 n0 n1 n2 3 (by decide) (by decide) rfl rfl rfl rfl;have s1:Ai false 1 _ [0,0,0] [some (X,0),none,none]=.nx (EG X (a + 1) (b + 1) (c + 1)):=setF v1 (show 1 < 3 by decide) rfl;have tst:∀ {ρ:Ae} (k:Int),Aa 0 ρ=.ok (X,0,ρ)->bT (Ab (A2 false) pb3 (bC (.int k))) ρ=.ok (false^^decide (n3 % 4=k),ρ):=λ k hv=>By (FC (neg:=false) (Eg (g:=bC (.int 4)) (j:=4) (e:=om) (ix 3 n3 hv rfl) rfl (by decide)) (g:=bC (.int k)) (j:=k) (e:=om) rfl);obtain ⟨a2,b2,c2,ha2,hb2,hc2,s2⟩:∃ a2 b2 c2:Nat,a2 < 6/\b2 < 6/\c2 < 6/\Bs (bT (Ab (A2 false) pb3 (bC (.int 1)))) (Ai false 1 (Aq Bo (Ah (Ab AD (bC (.int 1)) (Ab Bv pa5 (bC (.int 6)))) (Ah (Ab AD (bC (.int 1)) (Ab Bv pa5 (bC (.int 6)))) (Ah (Ab AD (bC (.int 1)) (Ab Bv pa3 (bC (.int 6)))) (Ad))))) [0,0,0]) AK (EG X (a + 1) (b + 1) (c + 1))=.nx (EG X (a2 + 1) (b2 + 1) (c2 + 1)):=by
  have q:=tst (ρ:=EG X (a + 1) (b + 1) (c + 1)) 1 rfl;by_cases h:n3 % 4=1
  ·rw [decide_eq_true h] at q;obtain ⟨a2,b2,c2,h1,h2,h3,v⟩:=mk (ρ:=EG X (a + 1) (b + 1) (c + 1)) 0 0 2 n0 n0 n2 6 (by decide) (by decide) rfl rfl rfl rfl;exact ⟨a2,b2,c2,h1,h2,h3,(C2 q).trans (setF v (show 1 < 3 by decide) rfl)⟩
  ·rw [decide_eq_false h] at q;exact ⟨a,b,c,ha,hb,hc,(D5 q).trans rfl⟩
 obtain ⟨a3,b3,c3,ha3,hb3,hc3,s3⟩:∃ a3 b3 c3:Nat,a3 < 6/\b3 < 6/\c3 < 6/\Bs (bT (Ab (A2 false) pb3 (bC (.int 2)))) (Ai false 1 (Aq Bo (Ah (Ab AD (bC (.int 1)) (Ab Bv pa5 (bC (.int 6)))) (Ah (Ab AD (bC (.int 1)) (Ab Bv pa6 (bC (.int 6)))) (Ah (Ab AD (bC (.int 1)) (Ab Bv pa3 (bC (.int 6)))) (Ad))))) [0,0,0]) AK (EG X (a2 + 1) (b2 + 1) (c2 + 1))=.nx (EG X (a3 + 1) (b3 + 1) (c3 + 1)):=by
  have q:=tst (ρ:=EG X (a2 + 1) (b2 + 1) (c2 + 1)) 2 rfl;by_cases h:n3 % 4=2
  ·rw [decide_eq_true h] at q;obtain ⟨a3,b3,c3,h1,h2,h3,v⟩:=mk (ρ:=EG X (a2 + 1) (b2 + 1) (c2 + 1)) 0 1 2 n0 n1 n2 6 (by decide) (by decide) rfl rfl rfl rfl;exact ⟨a3,b3,c3,h1,h2,h3,(C2 q).trans (setF v (show 1 < 3 by decide) rfl)⟩
  ·rw [decide_eq_false h] at q;exact ⟨a2,b2,c2,ha2,hb2,hc2,(D5 q).trans rfl⟩
 have lp:=jb8.mp (jb8.mp (jb8.mp (W5 X) a3 (jc6.mpr ha3)) b3 (jc6.mpr hb3)) c3 (jc6.mpr hc3);obtain ⟨z,hz,s0,d,s2',e⟩:=Wd lp;refine ⟨z,hz,_,_,BZ (b:=Qe) rfl ((AR s1).trans ((AR s2).trans ((AR s3).trans ((AR (f:=Vs) e).trans (Cv (d:=om) (x:=bz z) (ρ1:=[s0,some (.lst [.int (z.1:Int),.int (z.2.1:Int),.int (z.2.2:Int)],d),s2']) rfl)))))⟩
def SE {k:Fb}{s r:Fs}{ρ:Ae}{P:Ae->Prop} (hc:k ρ=.ok (false,ρ)) (h:Nx r ρ P):Nx (Bs k s r) ρ P:=by
 obtain ⟨ρ1,e,p⟩:=h;exact ⟨ρ1,(D5 hc).trans e,p⟩
def Fz (ns:List Int) (s1 s2 s3 s4:Option PV):List (Option PV):=[some (.scr ns),s1,s2,s3,s4]
def Wv {z:B3}{v:Int}{ρ:Ae} (k:Kz z) (hv:Aa 2 ρ=.ok (bz z,0,ρ)) (h:if z.1=z.2.1/\z.2.1=z.2.2 then (z,v)=((1,1,1),2)\/(z,v)=((2,2,2),5)\/(z,v)=((3,3,3),20) else v=0):∃ d,Ab A7 (Aq Bo pb6) (Ab BC pb2 (Aq GG pa7)) ρ=.ok (.int v,d,ρ):=by
 obtain ⟨a,b,c⟩:=z;have ia:Ab A7 (Aa 2) (bC (.int 0)) ρ=.ok (.int (a:Int),om,ρ):=BW hv rfl rfl;have ib:Ab A7 (Aa 2) (bC (.int 1)) ρ=.ok (.int (b:Int),om,ρ):=BW hv rfl rfl;have ic:Ab A7 (Aa 2) (bC (.int 2)) ρ=.ok (.int (c:Int),om,ρ):=BW hv rfl rfl;have k1:=FC (neg:=false) ia ib;have k2:=FC (neg:=false) ib ic;rw [MJ] at k1 k2;have k3:=Hm k1 (λ _=>k2) rfl;have k4:Aq GG pa7 ρ=.ok (.int (if (decide ((a:Int)=b) && decide ((b:Int)=c))=true then 1 else 0),om,ρ):=DY (Ct k3) (by cases (decide ((a:Int)=b) && decide ((b:Int)=c)) <;> rfl);have k5:=JK ia k4 (.inl (by have:=k.ha;omega));have kl:Aq Bo pb6 ρ=.ok (.lst [.int 0,.int 2,.int 5,.int 20],om,ρ):=rfl;by_cases hh:a=b/\b=c
 ·rw [if_pos hh] at h;rw [if_pos (by rw [decide_eq_true (show (a:Int)=b by omega),decide_eq_true (show (b:Int)=c by omega)];rfl),U2] at k5;simp only [Prod.mk.injEq] at h;rcases h with ⟨⟨rfl,rfl,rfl⟩,rfl⟩ | ⟨⟨rfl,rfl,rfl⟩,rfl⟩ | ⟨⟨rfl,rfl,rfl⟩,rfl⟩
  ·exact ⟨_,BW kl k5 rfl⟩
  ·exact ⟨_,BW kl k5 rfl⟩
  ·exact ⟨_,BW kl k5 rfl⟩
 ·rw [if_neg hh] at h;subst h;rw [if_neg (by
   intro e;rw [A4,decide_eq_true_iff,decide_eq_true_iff] at e
   omega),Int.mul_zero] at k5
  exact ⟨_,BW kl k5 rfl⟩
def law_true:∀ ns:List Int,ns.length<=63->∃ d z,F32 [.scr ns]=.ok (.bl true,d,z):=by
 intro ns _;refine Gv.fn rfl (show Gv Qd [some (.scr ns,om),none,none,none,none] _ from ?_);have h0:HV (Fz ns none none none none) [] [some (.scr ns,om),none,none,none,none]:=HV.of [some (.scr ns,om),none,none,none,none];obtain ⟨ms,hl,em⟩:=Yd (ns.getD 0 0) 6 (by decide);obtain ⟨n0,n1,n2,n3,n4,n5,rfl⟩:∃ n0 n1 n2 n3 n4 n5,ms=[n0,n1,n2,n3,n4,n5]:=by
  rcases ms with _ | ⟨n0,_ | ⟨n1,_ | ⟨n2,_ | ⟨n3,_ | ⟨n4,_ | ⟨n5,_ | _⟩⟩⟩⟩⟩⟩ <;> simp at hl
  exact ⟨_,_,_,_,_,_,rfl⟩
 refine Gv.ex (h0.setO (x:=il [n0,n1,n2,n3,n4,n5]) (Bj (xs:=[(.int (ns.getD 0 0),om),(.int 6,om)]) (Hl (Bj (xs:=[(.scr ns,om),(.int 0,om)]) (Hl (h0.var rfl) (Ct rfl)) (Yb ns 0)) (Ct rfl)) em) (show 1 < 5 by decide)) λ ρ1 (h1:HV (Fz ns (some (il [n0,n1,n2,n3,n4,n5])) none none none) [] ρ1)=>?_;obtain ⟨z,hz,d2,w2,e2⟩:=qg (n0:=n0) (n1:=n1) (n2:=n2) (n3:=n3) (n4:=n4) (n5:=n5);have k:=M0 hz;refine Gv.ex (h1.set (x:=bz z) (Bj (xs:=[(il [n0,n1,n2,n3,n4,n5],0)]) (Ct (h1.var rfl)) e2) (show 2 < 5 by decide)) λ ρ2 (h2:HV (Fz ns (some (il [n0,n1,n2,n3,n4,n5])) (some (bz z)) none none) [] ρ2)=>?_;refine Gv.ex (P:=λ ρ=>∃ v:Int,HV (Fz ns (some (il [n0,n1,n2,n3,n4,n5])) (some (bz z)) (some (.int v)) (some (.int v))) [] ρ) ?_ λ ρ3 ⟨v,h3⟩=>?_
 ·have i4:Ab A7 (Aa 1) (bC (.int 4)) ρ2=.ok (.int n4,om,ρ2):=BW (x:=il [n0,n1,n2,n3,n4,n5]) (d:=0) (e:=om) (h2.var rfl) rfl rfl;have t (j:Int):=By (FC (neg:=false) (Eg (g:=bC (.int 3)) (j:=3) (e:=om) i4 rfl (by decide)) (g:=bC (.int j)) (j:=j) (e:=om) rfl);have vz:∀ {s3:Option PV}{ρ:Ae},HV (Fz ns (some (il [n0,n1,n2,n3,n4,n5])) (some (bz z)) s3 none) [] ρ->Aa 2 ρ=.ok (bz z,0,ρ):=λ h=>h.var rfl;have t0:=t 0;by_cases c0:n4 % 3=0
  ·rw [decide_eq_true c0] at t0;obtain ⟨v,⟨d3,w3,e3⟩,d4,w4,e4⟩:=ZC hz;refine Nx.yes t0 (Nx.seq (h2.set (x:=.int v) (Bj (xs:=[(bz z,0)]) (Ct (vz h2)) e3) (show 3 < 5 by decide)) λ ρ3 h3=>Nx.mono (h3.set (x:=.int v) (Bj (xs:=[(bz z,0)]) (Ct (vz h3)) e4) (show 4 < 5 by decide)) λ ρ4 h4=>⟨v,h4⟩)
  ·rw [decide_eq_false c0] at t0;refine SE t0 ?_;have t1:=t 1;by_cases c1:n4 % 3=1
   ·rw [decide_eq_true c1] at t1;obtain ⟨v,⟨d3,w3,e3⟩,d4,w4,e4⟩:=x8 hz;refine Nx.yes t1 (Nx.seq (h2.set (x:=.int v) (Bj (xs:=[(bz z,0)]) (Ct (vz h2)) e3) (show 3 < 5 by decide)) λ ρ3 h3=>Nx.mono (h3.set (x:=.int v) (Bj (xs:=[(bz z,0)]) (Ct (vz h3)) e4) (show 4 < 5 by decide)) λ ρ4 h4=>⟨v,h4⟩)
   ·rw [decide_eq_false c1] at t1;refine SE t1 ?_;obtain ⟨v,⟨d3,w3,e3⟩,hv⟩:=xt hz;refine Nx.seq (h2.set (x:=.int v) (Bj (xs:=[(bz z,0)]) (Ct (vz h2)) e3) (show 3 < 5 by decide)) λ ρ3 h3=>?_;obtain ⟨d5,e5⟩:=Wv k (vz h3) hv;exact Nx.mono (h3.set (x:=.int v) e5 (show 4 < 5 by decide)) λ ρ4 h4=>⟨v,h4⟩
 ·have e:pd1 ρ3=.ok (.bl (true && (true && (false^^decide (v=v)))),om,ρ3):=
   Hm (a:=true) (d:=om) (M6 (h3.var (j:=3) (x:=.int v) rfl) rfl) (λ _=>Hm (a:=true) (d:=om) (M6 (M6 (h3.var (j:=3) (x:=.int v) rfl) rfl) rfl) (λ _=>FC (h3.var (j:=3) (x:=.int v) rfl) (h3.var (j:=4) (x:=.int v) rfl)) rfl) rfl
  rw [decide_eq_true rfl] at e;exact Gv.ret e
open PySem PySem.Spec PyProof.Rows L2 QQ
section
variable {P:A0}{w:Ay}{K:Frag}{mg:Str->Option Ac}
def c0:FnScope S0.N ["thing"] (Ax t0):={}
def c1:FnScope S1.N ["thing"] (Ax t1):={}
def c2:FnScope S2.N ["box"] (Ax t2):={}
def c3:FnScope S3.N ["thing","columns","height"] (Ax t3):={}
def c4:FnScope S4.N ["numbers"] (Ax t4):={}
def c5:FnScope S5.N ["table","j"] (Ax t5):={}
def c6:FnScope S6.N ["box","thing"] (Ax t6):={}
def c7:FnScope S7.N ["box","pile"] (Ax t7):={}
def c8:FnScope S8.N ["box","pile"] (Ax t8):={}
def c9:FnScope S9.N ["numbers","level"] (Ax t9):={}
def zZ:FnScope S10.N ["box","pile"] (Ax Mt):={}
def zY:FnScope S11.N ["box","pile"] (Ax Mr):={}
def zX:FnScope S12.N ["columns","height"] (Ax Mq):={}
def zW:FnScope S13.N ["table","ahead"] (Ax Mp):={}
def zV:FnScope S14.N ["box"] (Ax Mo):={}
def zU:FnScope S15.N ["box"] (Ax Mn):={}
def zT:FnScope S16.N ["box","pile"] (Ax Mm):={}
def zS:FnScope S17.N ["box","pile"] (Ax Ml):={}
def zR:FnScope S18.N ["box","pile"] (Ax Mj):={}
def zQ:FnScope S19.N ["box"] (Ax Mi):={}
def zP:FnScope S20.N ["pile","lines","box"] (Ax Mh):={}
def zO:FnScope S21.N ["box"] (Ax Mg):={}
def zN:FnScope S22.N ["box"] (Ax Mf):={}
def zM:FnScope S23.N ["box"] (Ax Me):={}
def zL:FnScope S24.N ["box"] (Ax Md):={}
def zK:FnScope S25.N ["script","k"] (Ax Mc):={}
def zJ:FnScope S26.N ["cell","many"] (Ax Mb):={}
def zI:FnScope S27.N ["a","b","c"] (Ax Ma):={}
def zH:FnScope S28.N ["box"] (Ax LZ):={}
def zF:FnScope S30.N ["number"] (Ax LX):={}
def zG:FnScope S29.N ["box"] (Ax LY):={}
def zE:FnScope S31.N ["xs"] (Ax LW):={}
def zC:FnScope S32.N ["script"] (Ax Kb):={}
def all_ok {fa:Addr} (G:Given dfs [53] K mg) (hm:mg "law" = some (.ref fa)):
  ∃ fd:Cr,(∀ (s:Af) (u:Ac),BindsTo s fd ⟨[u],[]⟩ [("script",u)])/\∀ base:Heap,FnOk P w K mg base (A5 P w K) 9 fa fd ["script"] (AQ K false 1 F32):=by
 have hb:=G.bn;have gx:=G.gx;obtain ⟨a0,d0,m0,f0⟩:=G.df 0 _ _ rfl;obtain ⟨a1,d1,m1,f1⟩:=G.df 1 _ _ rfl;obtain ⟨a2,d2,m2,f2⟩:=G.df 2 _ _ rfl;obtain ⟨a3,d3,m3,f3⟩:=G.df 3 _ _ rfl;obtain ⟨a4,d4,m4,f4⟩:=G.df 4 _ _ rfl;obtain ⟨a5,d5,m5,f5⟩:=G.df 5 _ _ rfl;obtain ⟨a6,d6,m6,f6⟩:=G.df 6 _ _ rfl;obtain ⟨a7,d7,m7,f7⟩:=G.df 7 _ _ rfl;obtain ⟨a8,d8,m8,f8⟩:=G.df 8 _ _ rfl;obtain ⟨a9,d9,m9,f9⟩:=G.df 9 _ _ rfl;obtain ⟨a10,d10,m10,f10⟩:=G.df 10 _ _ rfl;obtain ⟨a11,d11,m11,f11⟩:=G.df 11 _ _ rfl;obtain ⟨a12,d12,m12,f12⟩:=G.df 12 _ _ rfl;obtain ⟨a13,d13,m13,f13⟩:=G.df 13 _ _ rfl;obtain ⟨a14,d14,m14,f14⟩:=G.df 14 _ _ rfl;obtain ⟨a15,d15,m15,f15⟩:=G.df 15 _ _ rfl;obtain ⟨a16,d16,m16,f16⟩:=G.df 16 _ _ rfl;obtain ⟨a17,d17,m17,f17⟩:=G.df 17 _ _ rfl;obtain ⟨a18,d18,m18,f18⟩:=G.df 18 _ _ rfl;obtain ⟨a19,d19,m19,f19⟩:=G.df 19 _ _ rfl;obtain ⟨a20,d20,m20,f20⟩:=G.df 20 _ _ rfl;obtain ⟨a21,d21,m21,f21⟩:=G.df 21 _ _ rfl;obtain ⟨a22,d22,m22,f22⟩:=G.df 22 _ _ rfl;obtain ⟨a23,d23,m23,f23⟩:=G.df 23 _ _ rfl;obtain ⟨a24,d24,m24,f24⟩:=G.df 24 _ _ rfl;obtain ⟨a25,d25,m25,f25⟩:=G.df 25 _ _ rfl;obtain ⟨a26,d26,m26,f26⟩:=G.df 26 _ _ rfl;obtain ⟨a27,d27,m27,f27⟩:=G.df 27 _ _ rfl;obtain ⟨a28,d28,m28,f28⟩:=G.df 28 _ _ rfl;obtain ⟨a29,d29,m29,f29⟩:=G.df 29 _ _ rfl;obtain ⟨a30,d30,m30,f30⟩:=G.df 30 _ _ rfl;obtain ⟨a31,d31,m31,f31⟩:=G.df 31 _ _ rfl;obtain ⟨a32,d32,m32,f32⟩:=G.df 32 _ _ rfl;cases hm.symm.trans m32;have B0:=f0.binds (ps:=["thing"]) λ _ _ _ _ _ _ us hl=>by obtain ⟨_,rfl⟩:=Bt hl;rfl
 have B1:=f1.binds (ps:=["thing"]) λ _ _ _ _ _ _ us hl=>by obtain ⟨_,rfl⟩:=Bt hl;rfl
 have B2:=f2.binds (ps:=["box"]) λ _ _ _ _ _ _ us hl=>by obtain ⟨_,rfl⟩:=Bt hl;rfl
 have B3:=f3.binds (ps:=["thing","columns","height"]) λ _ _ _ _ _ _ us hl=>by obtain ⟨_,_,_,rfl⟩:=HU hl;rfl
 have B4:=f4.binds (ps:=["numbers"]) λ _ _ _ _ _ _ us hl=>by obtain ⟨_,rfl⟩:=Bt hl;rfl
 have B5:=f5.binds (ps:=["table","j"]) λ _ _ _ _ _ _ us hl=>by obtain ⟨_,_,rfl⟩:=Bz hl;rfl
 have B6:=f6.binds (ps:=["box","thing"]) λ _ _ _ _ _ _ us hl=>by obtain ⟨_,_,rfl⟩:=Bz hl;rfl
 have B7:=f7.binds (ps:=["box","pile"]) λ _ _ _ _ _ _ us hl=>by obtain ⟨_,_,rfl⟩:=Bz hl;rfl
 have B8:=f8.binds (ps:=["box","pile"]) λ _ _ _ _ _ _ us hl=>by obtain ⟨_,_,rfl⟩:=Bz hl;rfl
 have B9:=f9.binds (ps:=["numbers","level"]) λ _ _ _ _ _ _ us hl=>by obtain ⟨_,_,rfl⟩:=Bz hl;rfl
 have B10:=f10.binds (ps:=["box","pile"]) λ _ _ _ _ _ _ us hl=>by obtain ⟨_,_,rfl⟩:=Bz hl;rfl
 have B11:=f11.binds (ps:=["box","pile"]) λ _ _ _ _ _ _ us hl=>by obtain ⟨_,_,rfl⟩:=Bz hl;rfl
 have B12:=f12.binds (ps:=["columns","height"]) λ _ _ _ _ _ _ us hl=>by obtain ⟨_,_,rfl⟩:=Bz hl;rfl
 have B13:=f13.binds (ps:=["table","ahead"]) λ _ _ _ _ _ _ us hl=>by obtain ⟨_,_,rfl⟩:=Bz hl;rfl
 have B14:=f14.binds (ps:=["box"]) λ _ _ _ _ _ _ us hl=>by obtain ⟨_,rfl⟩:=Bt hl;rfl
 have B15:=f15.binds (ps:=["box"]) λ _ _ _ _ _ _ us hl=>by obtain ⟨_,rfl⟩:=Bt hl;rfl
 have B16:=f16.binds (ps:=["box","pile"]) λ _ _ _ _ _ _ us hl=>by obtain ⟨_,_,rfl⟩:=Bz hl;rfl
 have B17:=f17.binds (ps:=["box","pile"]) λ _ _ _ _ _ _ us hl=>by obtain ⟨_,_,rfl⟩:=Bz hl;rfl
 have B18:=f18.binds (ps:=["box","pile"]) λ _ _ _ _ _ _ us hl=>by obtain ⟨_,_,rfl⟩:=Bz hl;rfl
 have B19:=f19.binds (ps:=["box"]) λ _ _ _ _ _ _ us hl=>by obtain ⟨_,rfl⟩:=Bt hl;rfl
 have B20:=f20.binds (ps:=["pile","lines","box"]) λ _ _ _ _ _ _ us hl=>by obtain ⟨_,_,_,rfl⟩:=HU hl;rfl
 have B21:=f21.binds (ps:=["box"]) λ _ _ _ _ _ _ us hl=>by obtain ⟨_,rfl⟩:=Bt hl;rfl
 have B22:=f22.binds (ps:=["box"]) λ _ _ _ _ _ _ us hl=>by obtain ⟨_,rfl⟩:=Bt hl;rfl
 have B23:=f23.binds (ps:=["box"]) λ _ _ _ _ _ _ us hl=>by obtain ⟨_,rfl⟩:=Bt hl;rfl
 have B24:=f24.binds (ps:=["box"]) λ _ _ _ _ _ _ us hl=>by obtain ⟨_,rfl⟩:=Bt hl;rfl
 have B25:=f25.binds (ps:=["script","k"]) λ _ _ _ _ _ _ us hl=>by obtain ⟨_,_,rfl⟩:=Bz hl;rfl
 have B26:=f26.binds (ps:=["cell","many"]) λ _ _ _ _ _ _ us hl=>by obtain ⟨_,_,rfl⟩:=Bz hl;rfl
 have B27:=f27.binds (ps:=["a","b","c"]) λ _ _ _ _ _ _ us hl=>by obtain ⟨_,_,_,rfl⟩:=HU hl;rfl
 have B28:=f28.binds (ps:=["box"]) λ _ _ _ _ _ _ us hl=>by obtain ⟨_,rfl⟩:=Bt hl;rfl
 have B30:=f30.binds (ps:=["number"]) λ _ _ _ _ _ _ us hl=>by obtain ⟨_,rfl⟩:=Bt hl;rfl
 have B29:=f29.binds (ps:=["box"]) λ _ _ _ _ _ _ us hl=>by obtain ⟨_,rfl⟩:=Bt hl;rfl
 have B31:=f31.binds (ps:=["xs"]) λ _ _ _ _ _ _ us hl=>by obtain ⟨_,rfl⟩:=Bt hl;rfl
 refine ⟨d32,?_,λ base=>?_⟩
 ·obtain ⟨_,_,_,_,_,_,_,_,_,rfl,_,_⟩:=f32.ex;exact λ s v=>.of_eq rfl
 have o0:FnOk P w K mg base (A5 P w K) 1 a0 d0 ["thing"] (AQ K false 1 F0):=Bu S0 f0 c0 gx (Bp hb) h0;have o1:FnOk P w K mg base (A5 P w K) 2 a1 d1 ["thing"] (AQ K false 1 F1):=Bu S1 f1 c1 gx (Bf (Bp hb) m0 f0 B0 o0) h1;have o2:FnOk P w K mg base (A5 P w K) 3 a2 d2 ["box"] (AQ K false 1 F2):=Bu S2 f2 c2 gx (Bf (Bp hb) m1 f1 B1 o1) h2;have o3:FnOk P w K mg base (A5 P w K) 2 a3 d3 ["thing","columns","height"] (AQ K false 3 F3):=Bu S3 f3 c3 gx (Bf (Bp hb) m0 f0 B0 o0) h3;have o4:FnOk P w K mg base (A5 P w K) 1 a4 d4 ["numbers"] (AQ K false 1 F4):=Bu S4 f4 c4 gx (Bp hb) h4;have o5:FnOk P w K mg base (A5 P w K) 1 a5 d5 ["table","j"] (AQ K false 2 F5):=Bu S5 f5 c5 gx (Bp hb) h5;have o6:FnOk P w K mg base (A5 P w K) 4 a6 d6 ["box","thing"] (AQ K false 2 F6):=Bu S6 f6 c6 gx (Bf (Bf (Bf (Bf (Bp hb) m5 f5 B5 o5) m4 f4 B4 o4) m3 f3 B3 o3) m2 f2 B2 o2) h6;have o7:FnOk P w K mg base (A5 P w K) 5 a7 d7 ["box","pile"] (AQ K false 2 F7):=Bu S7 f7 c7 gx (Bf (Bp hb) m6 f6 B6 o6) h7;have o8:FnOk P w K mg base (A5 P w K) 6 a8 d8 ["box","pile"] (AQ K false 2 F8):=Bu S8 f8 c8 gx (Bf (Bf (Bp hb) m7 f7 B7 o7) m5 f5 B5 o5) h8;have o9:FnOk P w K mg base (A5 P w K) 1 a9 d9 ["numbers","level"] (AQ K false 2 F9):=Bu S9 f9 c9 gx (Bp hb) h9;have o10:FnOk P w K mg base (A5 P w K) 6 a10 d10 ["box","pile"] (AQ K false 2 V0):=Bu S10 f10 zZ gx (Bf (Bf (Bf (Bp hb) m9 f9 B9 o9) m7 f7 B7 o7) m5 f5 B5 o5) zA;have o11:FnOk P w K mg base (A5 P w K) 6 a11 d11 ["box","pile"] (AQ K false 2 Vz):=Bu S11 f11 zY gx (Bf (Bp hb) m7 f7 B7 o7) z9;have o12:FnOk P w K mg base (A5 P w K) 1 a12 d12 ["columns","height"] (AQ K false 2 KQ):=Bu S12 f12 zX gx (Bp hb) E8;have o13:FnOk P w K mg base (A5 P w K) 1 a13 d13 ["table","ahead"] (AQ K false 2 Jo):=Bu S13 f13 zW gx (Bp hb) z7;have o14:FnOk P w K mg base (A5 P w K) 1 a14 d14 ["box"] (AQ K false 1 Qo):=Bu S14 f14 zV gx (Bp hb) z6;have o15:FnOk P w K mg base (A5 P w K) 4 a15 d15 ["box"] (AQ K false 1 Qn):=Bu S15 f15 zU gx (Bf (Bf (Bp hb) m14 f14 B14 o14) m2 f2 B2 o2) zy;have o16:FnOk P w K mg base (A5 P w K) 7 a16 d16 ["box","pile"] (AQ K false 2 Ni):=Bu S16 f16 zT gx (Bf (Bf (Bp hb) m8 f8 B8 o8) m7 f7 B7 o7) zx;have o17:FnOk P w K mg base (A5 P w K) 7 a17 d17 ["box","pile"] (AQ K false 2 Nh):=Bu S17 f17 zS gx (Bf (Bp hb) m11 f11 B11 o11) zw;have o18:FnOk P w K mg base (A5 P w K) 7 a18 d18 ["box","pile"] (AQ K false 2 Ng):=Bu S18 f18 zR gx (Bf (Bf (Bp hb) m10 f10 B10 o10) m7 f7 B7 o7) zv;have o19:FnOk P w K mg base (A5 P w K) 5 a19 d19 ["box"] (AQ K false 1 Ik):=Bu S19 f19 zQ gx (Bf (Bf (Bp hb) m15 f15 B15 o15) m2 f2 B2 o2) zu;have o20:FnOk P w K mg base (A5 P w K) 2 a20 d20 ["pile","lines","box"] (AQ K false 3 Hi):=Bu S20 f20 zP gx (Bf (Bp hb) m13 f13 B13 o13) zq;have o21:FnOk P w K mg base (A5 P w K) 3 a21 d21 ["box"] (AQ K false 1 EI):=Bu S21 f21 zO gx (Bf (Bf (Bp hb) m20 f20 B20 o20) m12 f12 B12 o12) zm;have o22:FnOk P w K mg base (A5 P w K) 8 a22 d22 ["box"] (AQ K false 1 Nf):=Bu S22 f22 zN gx (Bf (Bf (Bf (Bp hb) m21 f21 B21 o21) m19 f19 B19 o19) m16 f16 B16 o16) zl;have o23:FnOk P w K mg base (A5 P w K) 8 a23 d23 ["box"] (AQ K false 1 Nd):=Bu S23 f23 zM gx (Bf (Bf (Bf (Bp hb) m21 f21 B21 o21) m19 f19 B19 o19) m17 f17 B17 o17) zk;have o24:FnOk P w K mg base (A5 P w K) 8 a24 d24 ["box"] (AQ K false 1 Nc):=Bu S24 f24 zL gx (Bf (Bf (Bf (Bp hb) m21 f21 B21 o21) m19 f19 B19 o19) m18 f18 B18 o18) zj;have o25:FnOk P w K mg base (A5 P w K) 1 a25 d25 ["script","k"] (AQ K false 2 Qm):=Bu S25 f25 zK gx (Bp hb) zi;have o26:FnOk P w K mg base (A5 P w K) 1 a26 d26 ["cell","many"] (AQ K false 2 Ql):=Bu S26 f26 zJ gx (Bp hb) zh;have o27:FnOk P w K mg base (A5 P w K) 1 a27 d27 ["a","b","c"] (AQ K false 3 EH):=Bu S27 f27 zI gx (Bp hb) zg;have o28:FnOk P w K mg base (A5 P w K) 1 a28 d28 ["box"] (AQ K false 1 Ij):=Bu S28 f28 zH gx (Bp hb) ze;have o30:FnOk P w K mg base (A5 P w K) 1 a30 d30 ["number"] (AQ K false 1 Qk):=Bu S30 f30 zF gx (Bp hb) xZ;have o29:FnOk P w K mg base (A5 P w K) 2 a29 d29 ["box"] (AQ K false 1 Gw):=Bu S29 f29 zG gx (Bf (Bf (Bp hb) m30 f30 B30 o30) m27 f27 B27 o27) zb;have o31:FnOk P w K mg base (A5 P w K) 2 a31 d31 ["xs"] (AQ K false 1 Nb):=Bu S31 f31 zE gx (Bf (Bp hb) m27 f27 B27 o27) xY;exact Bu S32 f32 zC gx (Fh (Fh (Fh (Fh (Fh (Fh (Fh (Fh (Bp hb) (by decide +kernel) Fp m31 f31 B31 rfl (o31.mono (by decide))) (by decide +kernel) Fp m29 f29 B29 rfl (o29.mono (by decide))) (by decide +kernel) Fp m28 f28 B28 rfl (o28.mono (by decide))) (by decide +kernel) Fp m26 f26 B26 rfl (o26.mono (by decide))) (by decide +kernel) Fp m25 f25 B25 rfl (o25.mono (by decide))) (by decide +kernel) Fp m24 f24 B24 rfl (o24.mono (by decide))) (by decide +kernel) Fp m23 f23 B23 rfl (o23.mono (by decide))) (by decide +kernel) Fp m22 f22 B22 rfl (o22.mono (by decide))) xX
end
end K49
open PySem PySem.W PyProof.Rows
set_option maxRecDepth 100000 in
set_option maxHeartbeats 0 in
theorem PySem.Challenge.cw_cornerpiles_k49_how_many_are_holds : PySem.Challenge.rw_cornerpiles_k49_how_many_are.Holds := by
 refine QQ.holds_by (l:=PySem.Challenge.rw_cornerpiles_k49_how_many_are) (q:=K49.view) (loose:=K49.loose) (N:=20000) (k:=9) (n:=63) (ds:=K49.dfs) (xc:=[53]) (F:=K49.F32) (x := "script") ?said rfl rfl (λ _=>rfl) K49.run (by rfl) (by rfl) (by rfl) (by rfl) (by decide +kernel) ⟨rfl,rfl,rfl,rfl,rfl,by decide +kernel⟩ ?hw rfl (by decide) rfl ⟨rfl,by decide,by decide,rfl⟩ (λ _ _ _ _ G hm=>K49.all_ok G hm) (λ _ _ _ ns hl hO hS=>QQ.sp_yes hO hS (K49.law_true ns hl))
 case said=>decide +kernel
 case hw=>w_witness2
