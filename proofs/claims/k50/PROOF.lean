import PyProof.Rows.All
import Wide.All
import OpenK.AllK
import Wide.FinOn
import Lean
import PyProof.EqAt
import PyProof.EqKinds
import PyProof.TupleCall
import PySem.Challenge.RW_cornerpiles_k50_forms_refused
open PySem renaming Value->Ae,Shared->Aj,sizeLine->Aw,wpAny_bind->AM,starEach->AH,Program->AF,wpAny_pure->Cs,model->Au,wpAny->Av,compareOp->Cy,Around->AZ,World->AB,PyData->Bs,mainGlobals->Eh,wpAny_mono->DH,cellsFrom->Dw,wpAny_truthy_bool->HE,FuncData->Dv,assignEach->EC,NameKind->D6,Scope->BA,wpAny_holding->I0,cLine->Cj,mem_of_lookup->LM,sysModules->Hb,binaryOp->EO,backTo->Dk,wpAny_loadPart_at->LL,bootBuiltins->Jo,wpAny_newList->Ky,intItems->FY,behindInMarks->Kx,wpAny_passesOwn->LJ,sliceBounds->Jn,sizeLine_eq->Jm,codeAny_builtin->LI,Builtin->vf9,ReadsAll->GW,foldedSetIterable->NX,numAt->Dj,wpAny_execs_nil->NV,letOwnedTupleGo->NU,wpAny_Call_Name_kw->Rr,tupleKind_room_in1->Rq,ExceptHandler->NR,relabel->Iz,codeAny->Iy,call_meets->LC,wpAny_call_entry->Rl,noFill_tuple_add->Rk,CmpOp->EB,tupleKind->LB,pushCells_keeps->Rj,intItems_at->NL,importedModules->Ri,callerA->Jl,assign->HB,PassesOwn->L9,Keyword->Jk,newFunctionEnv->Rb
open PySem.Heap renaming get?_push_of_some->CM,lt_size->Bu,get?_push_size->Dx,size_update->Jq,size_push->LG,get?_push_ne->NW,SameBut->NO,FlyingW->NN
open PySem.PyData renaming canLayAll0->D7,depthAll->DI,eqv->Cz,eqvAll->Fz,canLay0->K0
open PySem.Obj renaming mapSeq->CD
open PySem.W renaming findIn->Ey,kia_one->ES,kitOne->ER,mroIn->Hc,boot_heap->Ex,keepIn->Jp,kas_sort->GY,fnOf->Kw,looks_findIn->Rv,kitAny->NT,hideAll_get->Rt,methodObj->Ro,kitx_none->Rn,boot_heap->Rm,instObj->Rf,lookIn->QU,codeIn->QT
open Ne renaming symm->Ca
open PyProof.Rows renaming seqObj->Bt,callWith_type1->Oa,AllBare->Fy,listUpdate_at->LF,IntsAre->HD,sortedAll->Kv,size_push'->LD,listItems_at->NQ,seqEpoch_at->NM,get?_update_seq->Rh,envOfC->HC,entry_list_sort->Rg,slot_list_sort->Rc,joinParts_cons->Ra,args_list_sort->QY
open False renaming elim->GZ
open PySem.Builtin.List renaming listTooLong->NZ,listExtendWith->Vk
open PySem.F renaming plainAttrs_list->NY,args_tuple_add_2->Ry,entry_tuple_add->Rx,slot_tuple_add->Rw,excBase_ValueError->Vj
open PySem.SeqAt.EqAt renaming same->LH,of_refs->Rp
open PySem.Calls renaming call_function_entry->R3,evalArgs_plain->Ru,Name_function_global->Vi
open PySem.MeetsSeq3 renaming plain_eq_loop->NS
open PySem.SeqAt renaming RcNeAt->NP
open PySem.Str renaming empty->LA
open List renaming getD_eq_getElem?_getD->Ba,mem_cons_of_mem->AO,length_map->AD,mem_cons_self->AR,mem_append_right->Bq,getElem?_eq_getElem->BR,all_eq_true->ja7,mem_append_left->BG,getElem?_eq_some_iff->ja9,length_cons->Bl,mem_singleton->jb1,mem_cons->jb2,length_append->BQ,range->AI,replicate->Bo,getElem?_set_ne->Cw,getElem?_set_self->Di,map_cons->BF,size_toArray->C1,getElem?_append_left->DJ,mem_append->jc6,mem_range->jc7,getElem?_map->CV,getElem?_append_right->HL,map_map->De,mem_map->jd3,getElem_mem->E2,length_set->Ei,length_range->EY,lookup_cons->EX,getElem?_eq_none->HJ,getElem?_replicate->IM,length_take->FE,findIdx?_eq_some_iff_getElem->je3,length_singleton->IL,drop_eq_getElem_cons->KR,length_replicate->JI,map_nil->EG,map_append->Hh,replicate_succ->JH,filter_eq_self->jf4,getElem?_take_of_lt->MD,filter_cons->II,length_eq_zero_iff->jf9,nil_append->IH,length_nil->IG,getElem_of_mem->KQ,set_cons_zero->KP,set_cons_succ->KO,mem_or_eq_of_mem_set->Px,nodup_cons->jh2,flatten_cons->KN,flatMap_cons->KJ,length_reverse->MB,all_cons->ID,map_congr_left->MA,not_mem_nil->KI,pairwise_cons->ji0,append_nil->KH,find?_cons->KG,mem_of_mem_take->Pw,getElem?_eq_none_iff->ji5,getLast?_eq_getElem?->TM,length_drop->M8,mem_flatMap->ji8,filterMap_cons->Pu,flatMap_append->Pt,getElem?_cons_succ->TK,append_assoc->Pr,reverse_cons->Pp,toArray->KA,eq_nil_iff_forall_not_mem->jk3,cons_append->Pm,mem_of_mem_drop->TF,mem_filter->jl1,range'->K9,getElem?_range->TC,getElem?_concat_length->ZC,mem_filterMap->jl7,findIdx?_cons->TB,filter_congr->T6,any_cons->Pj,filter_cons_of_neg->Z9,filter_cons_of_pos->Z8,drop_eq_nil_of_le->Z7,drop_of_length_le->Z6,range_succ_eq_map->Z5,append_eq_nil_iff->jn8,take_of_length_le->Z4,of_mem_zip->T2,set_nil->Ph,length_filter_le->Z3,map_set->Pg,filter_map->T1,all_map->Pf,getElem?_append->Z2,take_zero->Tz,drop_zero->Tx,take_succ_cons->Zz,replicate_zero->Zy,getElem_range->Zu,getElem?_drop->Zq,map_take->Tw,mem_range'_1->jq4,all_eq_false->jq5,getLast?_nil->Zm,all_nil->Tu,flatten_nil->Zh,range'_succ->Zg,ext_getElem->Ze,map_reverse->Zd,flatMap_nil->Zc,foldl_cons->YY,forIn_cons->YX,range_zero->YV,range_succ->YT,foldl->Tq,drop_nil->YS,take_nil->YR,getD->Tp,set_set->YL,map_id'->YK,length->YI
open Bool renaming and_eq_true->A9,false_ne_true->CF,or_eq_true->FD,eq_iff_iff->Gq,false_xor->IE,not_eq_true'->M9,false_or->KC,and_eq_false_iff->TH,true_xor->M5,and_true->M4,and_false->Pk,not_eq_true->T3,and_eq_true_iff->jo7,false_eq_true->Zs
open Option renaming map_eq_some_iff->jb4,bind_eq_some_iff->jd7,map_some->M7,isSome_iff_exists->jm4,isSome_map->T7,isSome_some->Zw,getD_none->Zi,map->YH
open Nat renaming lt_of_lt_of_le->Cb,le_trans->AW,le_refl->Bj,ne_of_lt->Cn,lt_of_succ_lt_succ->HK,lt_irrefl->FC,le_of_succ_le->IK,lt_succ_self->IJ,lt_succ_of_lt->JF,zero_le->Gp,ne_of_gt->JE,zero_add->JD,min_eq_left->M6,succ_ne_zero->Po,succ_le_succ->Pn,min_le_left->Pl,le_of_lt->M3,le_of_eq->M1,lt_trans->M0,add_sub_cancel->T8,le_succ->Mz,add_sub_cancel_left->ZA,min_le_right->T5,le_add_right->T4,le_sub_one_of_lt->Z1,add_lt_of_lt_sub->Z0,lt_of_lt_of_eq->Zn,lt_succ_of_le->Zl,lt_of_succ_lt->Zj,sub_self->Tt,sub_zero->Ts,zero_lt_succ->Zb,succ_ne_self->YZ,not_lt_zero->YU,succ_pred->YQ,lt_or_ge->YM
open Int renaming toNat_natCast->DD,emod_lt_of_pos->JG,emod_nonneg->IF,zero_add->Hg,le_refl->Gn,le_trans->JC,natCast_pos->jj8,add_sub_cancel->T9,ofNat_lt->jo6,min_assoc->Tv,natCast_nonneg->Zp,sub_pos_of_lt->Zk,min_comm->Tr,le_antisymm->YW,ofNat_sub->YO,ofNat_le->jt8,add_comm->YJ,not_lt->ju2
open Array renaming length_toList->MC,getElem?_toList->TJ,append_assoc->Zx,toList->YN,map->YG
set_option Elab.async false
set_option linter.all false
set_option maxRecDepth 100000
set_option autoImplicit false
set_option maxHeartbeats 2000000
namespace L2
open PySem PySem.Spec PyProof.Rows
abbrev Be:=Sum Int Str
inductive V where
 | non | bl (b:Bool) | int (i:Int) | str (x:Str) | byt (b:Array UInt8) | flt (b:UInt64) | ref (a:Addr) | ty (n:String)
 deriving DecidableEq
def Lo (s:Stmt):Arguments:=match s with
 | .FunctionDef _ a _ _ _ _ _ _ _ _=>a
 | _=>{ posonlyargs:=[],args:=[],vararg:=none,kwonlyargs:=[],kw_defaults:=[],kwarg:=none,defaults:=[] }
def EA (s:Stmt):List Stmt:=match s with
 | .FunctionDef _ _ b _ _ _ _ _ _ _=>b
 | _=>[]
def AY (s:Stmt):BA:=match s with
 | .FunctionDef _ _ _ _ _ _ sc _ _ _=>sc
 | _=>{ kind:=.function,names:=[],isGenerator:=false,isCoroutine:=false }
end L2
namespace QQ
open PySem PySem.Spec PySem.W PySem.Calls PyProof.Rows L2
abbrev Frag:=PySem.W.Frag
inductive PV where
 | non | bl (b:Bool) | int (i:Int) | str (x:Str) | lst (xs:List PV) | tup (xs:List PV) | emp | dko | scr (ns:List Int) | dct (kvs:List (List Be×V)) | exn (c:Nat)
 deriving Inhabited
def XN:List Str:=["PileError","NoBox","NoPile","NoStairs","NoWays","NoRoad","NoNumber","NoPlace","TooMany","NoText","NoName","NoRow"]
def C6 (K:Frag) (c:Nat):Option Addr:=match XN[c]? with
 | some x=>(match PySem.W.nsIn K Eh x with
  | some (some (.ref C))=>some C
  | _=>none)
 | none=>none
def bmV:List Ae:=[.type "ValueError",.type "Exception",.type "BaseException",.type "object"]
def HI (K:Frag) (C:Addr):List Ae:=match K.lookup C with
 | some ⟨_,_,.cls cd,_⟩=>cd.mro
 | _=>[]
def DX (c d:Nat):Bool:=c == d || d == 0
def DS (K:Frag):Bool:=(AI 12).all λ c=>match C6 K c with
 | some C=>PySem.W.excIn K C bmV "ValueError.__new__" && (AI 12).all λ d=>(match C6 K d with
  | some D=>(HI K C).contains (.ref D) == DX c d
  | none=>true)
 | none=>true
def CN:List (Str×PV):=[("FIGURES",.str "0123456789"),("MOST_FIGURES",.int 2),("SIGNS_OF_HEIGHTS",.str ".123456789abcdefghijklmnopqrstuvwxyz"),("MOST_PILES",.int 3000)]
def PD:PV->Ae->Bool
 | .str z,.str z' _=>z == z'
 | .int i,.int j _=>i == j
 | _,_=>false
def Kt (K:Frag) (C:Addr):Bool:=(PySem.W.clsIn K C).isSome && Hc K C (.type "object") == some true && Hc K C (.type "BaseException") == some true && Ey K (.ref C) "__class__" == some (some (.builtin "object.__class__")) &&
 Ey K (.ref C) "__getattribute__" == some (some (.builtin "BaseException.__getattribute__")) && Ey K (.ref C) "__getattr__" == some none
def Cr (K:Frag):Bool:=ER K (.type "NoneType") (.type "ValueError") == some false && (AI 12).all λ c=>match C6 K c with
 | some C=>Kt K C && ER K (.type "NoneType") (.ref C) == some false && ER K (.ref C) (.type "ValueError") == some true && (AI 12).all λ d=>(match C6 K d with
  | some D=>ER K (.ref C) (.ref D) == some (DX c d)
  | none=>true)
 | none=>true
def zkd:List Str:=["len","isinstance","all","max","min","tuple","list","range","int","bool","str","dict","sum","enumerate","zip","reversed","set","ValueError","sorted","abs"]
def Ka (tb:String->Option vf9) (p:AF) (w:AB) (n₀:Nat) (ann:Option Ae):Nat->SharedT->Thread->Option SharedT
 | 0,_,_=>none
 | n + 1,s,t=>match through t with
  | true=>some s
  | false=>match stepOk n₀ ann t with
   | false=>none
   | true=>match stepT (denote tb) p w s t with
    | some (s',t')=>Ka tb p w n₀ ann n s' t'
    | none=>none
def YE:List Obj->Nat->BT->BT
 | [],_,t=>t
 | o::r,n,t=>YE r (n + 1) (t.ins n o)
noncomputable def bootT (P:Params):BT:=YE (Ex P).objs.toList 0 .nil
noncomputable def bootS (P:Params) (os:OsState):SharedT:=⟨bootT P,(Ex P).objs.size,(Ex P).life,#[],boot_drawn,boot_toks,os⟩
def SE {α:Type} (p q:AF) (loose:List Str) (Xt:Aj->Bool) (Yf:Aj->α) (H:Heap) (s:Aj):=
 ((staticsOk (Ri p.main.body) H s.heap && namesBound p s.heap && gensDone s && laidKept H s.heap),openSeen q loose (Ri p.main.body) Xt true s,Yf s)
def My (h:Heap):Frag:=(AI h.objs.size).filterMap λ a=>(h.get? a).map λ o=>(a,o)
structure DefSeen where
 name:Str
 qual:Str
 params:Arguments
 body:FuncBody
 scope:BA
 globals:Addr
 closure:List (Str×Addr)
 defaults:Ae
 builtins:Addr
 code:Bool
def SA (K:Frag) (x:Str):Option DefSeen:=match nsIn K Eh x with
 | some (some (.ref g))=>(match K.lookup g with
  | some ⟨_,_,.func fd,_⟩=>some ⟨fd.name,fd.qualname,fd.params,fd.body,fd.scope,fd.globals,fd.closure,fd.defaults,fd.builtins,codeIn K fd.code x⟩
  | _=>none)
 | _=>none
def RZ (x:Str) (st:Stmt):DefSeen:=⟨x,x,Lo st,.stmts (EA st),AY st,mainNs,[],.none,0,true⟩
def L0 (ds:List (Str×Stmt)) (xc:List Nat) (K:Frag):List (Option DefSeen)×List (Option (Option Ae))×Bool:=
 (ds.map λ d=>SA K d.1,zkd.map λ x=>nsIn K Eh x,xc.isEmpty || (DS K && Cr K && xc.all λ c=>if c < 50 then ((C6 K c).isSome && match XN[c]? with
  | some x=>!(x == ("__debug__" : Str))
  | none=>false) else (match CN[c - 50]? with
  | some (x,v)=>!(x == ("__debug__" : Str)) && (match nsIn K Eh x with
   | some (some u)=>PD v u
   | _=>false)
  | none=>false)))
def Ls (ds:List (Str×Stmt)):List (Option DefSeen)×List (Option (Option Ae))×Bool:=(ds.map λ d=>some (RZ d.1 d.2),zkd.map λ _=>some none,true)
end QQ
namespace K50
open PySem PySem.Spec PyProof.Rows L2 QQ
def top (i:Nat):Stmt:=PySem.Challenge.pw_cornerpiles_k50_forms_refused.main.body.getD i (.Pass ⟨0,0,0,0⟩)
abbrev t0:Stmt:=top 14
abbrev t1:Stmt:=top 15
abbrev t2:Stmt:=top 16
abbrev t3:Stmt:=top 17
abbrev t4:Stmt:=top 18
abbrev t5:Stmt:=top 19
abbrev t6:Stmt:=top 20
abbrev t7:Stmt:=top 21
abbrev t8:Stmt:=top 22
abbrev t9:Stmt:=top 23
abbrev O7:Stmt:=top 24
abbrev O6:Stmt:=top 25
abbrev O5:Stmt:=top 27
abbrev O4:Stmt:=top 29
abbrev O3:Stmt:=top 31
abbrev O2:Stmt:=top 33
abbrev O1:Stmt:=top 34
abbrev O0:Stmt:=top 37
abbrev Oz:Stmt:=top 38
abbrev Oy:Stmt:=top 39
abbrev Ox:Stmt:=top 40
abbrev Ow:Stmt:=top 41
abbrev Ov:Stmt:=top 42
abbrev Ou:Stmt:=top 43
abbrev Ot:Stmt:=top 44
abbrev Oq:Stmt:=top 45
abbrev Oo:Stmt:=top 46
abbrev Om:Stmt:=top 47
abbrev Ol:Stmt:=top 48
abbrev Oj:Stmt:=top 49
abbrev Oi:Stmt:=top 51
abbrev Oh:Stmt:=top 52
abbrev Og:Stmt:=top 53
abbrev Of:Stmt:=top 54
abbrev LV:Stmt:=top 55
abbrev LU:Stmt:=top 56
abbrev LS:Stmt:=top 57
abbrev LR:Stmt:=top 58
abbrev Oe:Stmt:=top 59
abbrev Od:Stmt:=top 60
abbrev K1:Stmt:=top 61
def dfs:List (Str×Stmt):=[(("is_whole_number" : Str),t0),(("is_box" : Str),t1),(("must_be_box" : Str),t2),(("is_row_of_heights" : Str),t3),(("never_rises" : Str),t4),(("column_of" : Str),t5),(("is_pile" : Str),t6),(("must_be_pile" : Str),t7),(("mirrored_pile" : Str),t8),(("how_many_above" : Str),t9),(("rolled_pile" : Str),O7),(("rest_of" : Str),O6),(("copy_of" : Str),O5),(("rows_of_heights" : Str),O4),(("rows_behind" : Str),O3),(("numbers_above" : Str),O2),(("count_by_product" : Str),O1),(("is_even" : Str),O0),(("is_whole" : Str),Oz),(("is_round" : Str),Oy),(("must_have_few_piles" : Str),Ox),(("longer_by_a_row" : Str),Ow),(("all_piles_of" : Str),Ov),(("how_many_even" : Str),Ou),(("how_many_whole" : Str),Ot),(("how_many_round" : Str),Oq),(("mirrored_form" : Str),Oo),(("rolled_form" : Str),Om),(("forms_of" : Str),Ol),(("alike_in_form" : Str),Oj),(("_law_cell_at" : Str),Oi),(("_law_numbers" : Str),Oh),(("_law_box" : Str),Og),(("_law_pile" : Str),Of),(("_law_spoilt" : Str),LV),(("_law_no_box" : Str),LU),(("_law_ask" : Str),LS),(("_law_asked" : Str),LR),(("_law_count" : Str),Oe),(("_law_due" : Str),Od),(("law" : Str),K1)]
def view:AF:={ PySem.Challenge.pw_cornerpiles_k50_forms_refused with main:={ PySem.Challenge.pw_cornerpiles_k50_forms_refused.main with body:=[K1] } }
def loose:List Str:=(PySem.Challenge.pw_cornerpiles_k50_forms_refused.main.scope.names.map λ x=>x.1).filter λ x=>!(x == ("law" : Str))
def run:∀ (w:PySem.World) (os:PySem.OsState),(Ka PySem.treeTable PySem.Challenge.rw_cornerpiles_k50_forms_refused.prog w (Rm w.params).objs.size ((Rm w.params).nsMap Eh "__annotations__") 20000 (bootS w.params os) (PySem.W.topStub PySem.Challenge.rw_cornerpiles_k50_forms_refused.prog)).map (λ s=>SE PySem.Challenge.rw_cornerpiles_k50_forms_refused.prog view loose (λ s=>PySem.W.xlAt view [] s && PySem.W.recOk (PySem.W.RowW.records PySem.Challenge.rw_cornerpiles_k50_forms_refused.row.toRowW) s) (λ s=>L0 dfs [0,1,2,3,4,5,6,7,8,9,10,11,53] (My s.heap)) (Rm w.params) s.abs)=some (true,PySem.W.openGood view loose,Ls dfs):=λ w os=>by kernel_rfl
end K50
namespace L2
open PySem PySem.Spec PyProof.Rows
def K4:Be->Ae->Bool
 | .inl k,v=>Value.isInt k v
 | .inr x,v=>Value.isStrOf x v
def Te (w:AB):Be->Int
 | .inl k=>hashInt k
 | .inr x=>hashStr w x
theorem Hs:∀ {k:Be}{v:Ae},K4 k v=true->(∃ i t,k=Sum.inl i/\v=Value.int i t)\/(∃ x t,k=Sum.inr x/\v=Value.str x t)
 | .inl i,v,h=>by
  obtain ⟨t,e⟩:=Value.isInt_shape (k:=i) (v:=v) h;exact .inl ⟨i,t,rfl,e⟩
 | .inr x,v,h=>by
  obtain ⟨t,e⟩:=Value.isStrOf_shape (x:=x) (v:=v) h;exact .inr ⟨x,t,rfl,e⟩
def yy (i:Int) (t:Tok):K4 (.inl i) (.int i t)=true:=by simp [K4,Value.isInt]
def yz (x:Str) (t:Tok):K4 (.inr x) (.str x t)=true:=by simp [K4,Value.isStrOf]
def xE (a b:Int):decide ((Sum.inl a:Be)=Sum.inl b)=(a == b):=by
 by_cases e:a=b
 ·subst e;simp
 ·have h:¬ (Sum.inl a:Be)=Sum.inl b:=λ q=>e (Sum.inl.inj q);rw [decide_eq_false h];exact (beq_eq_false_iff_ne.mpr e).symm
def xH (a b:Str):decide ((Sum.inr a:Be)=Sum.inr b)=decide (a=b):=by
 by_cases e:a=b
 ·subst e;simp
 ·have h:¬ (Sum.inr a:Be)=Sum.inr b:=λ q=>e (Sum.inr.inj q);rw [decide_eq_false h,decide_eq_false e]
def xF (a:Int) (b:Str):decide ((Sum.inl a:Be)=Sum.inr b)=false:=decide_eq_false (λ q=>nomatch q)
def xG (a:Str) (b:Int):decide ((Sum.inr a:Be)=Sum.inl b)=false:=decide_eq_false (λ q=>nomatch q)
def DL (prog:AF) (w:AB):PySem.KeyKind prog w Be where
 is:=K4
 hash:=Te w
 inj:=λ v a b ha hb=>by
  rcases Hs ha with ⟨i,t,rfl,rfl⟩ | ⟨x,t,rfl,rfl⟩
  ·rcases Hs hb with ⟨j,u,rfl,e⟩ | ⟨y,u,rfl,e⟩
   ·injection e with e1 _;rw [e1]
   ·exact nomatch e
  ·rcases Hs hb with ⟨j,u,rfl,e⟩ | ⟨y,u,rfl,e⟩
   ·exact nomatch e
   ·injection e with e1 _;rw [e1]
 byValue:=λ k v h=>by
  rcases Hs h with ⟨i,t,rfl,rfl⟩ | ⟨x,t,rfl,rfl⟩ <;> rfl
 pyHash:=λ hv h=>by
  rcases Hs hv with ⟨i,t,rfl,rfl⟩ | ⟨x,t,rfl,rfl⟩
  ·exact wpAny_pyHash_int h
  ·exact wpAny_pyHash_str h
 eqBool:=λ hu hv h=>by
  rcases Hs hu with ⟨i,t,rfl,rfl⟩ | ⟨x,t,rfl,rfl⟩
  ·rcases Hs hv with ⟨j,u,rfl,rfl⟩ | ⟨y,u,rfl,rfl⟩
   ·rw [xE] at h;exact wpAny_eqBool_int h
   ·rw [xF] at h;exact SeqAt.EqAt.int_str i t y u _ _ _ _ h
  ·rcases Hs hv with ⟨j,u,rfl,rfl⟩ | ⟨y,u,rfl,rfl⟩
   ·rw [xG] at h;exact SeqAt.EqAt.str_int x t j u _ _ _ _ h
   ·rw [xH] at h;exact wpAny_eqBool_str h
 «strs»:=λ k x t v h=>by
  rcases Hs h with ⟨i,u,rfl,e⟩ | ⟨y,u,rfl,e⟩
  ·exact nomatch e
  ·injection e with e1 _
   subst e1;cases v <;> rfl
def u4 (prog:AF) (w:AB) (i:Int) (t:Tok):(DL prog w).is (.inl i) (.int i t)=true:=yy i t
def u7 (prog:AF) (w:AB) (x:Str) (t:Tok):(DL prog w).is (.inr x) (.str x t)=true:=yz x t
def RelV:V->Ae->Prop
 | .non,u=>u=Value.none
 | .bl b,u=>u=Value.bool b
 | .int i,u=>∃ t,u=Value.int i t
 | .str x,u=>∃ t,u=Value.str x t
 | .byt b,u=>∃ t,u=Value.bytes b t
 | .flt b,u=>∃ t,u=Value.float b t
 | .ref a,u=>u=Value.ref a
 | .ty n,u=>u=Value.type n
abbrev Vals:List V->List Ae->Prop:=Paired RelV
def Vals.length {xs:List V}{us:List Ae} (r:Vals xs us):xs.length=us.length:=Paired.length r
theorem Vals.get:∀ {xs:List V}{us:List Ae}{i:Nat}{x:V},Vals xs us->xs[i]?=some x->∃ u,us[i]?=some u/\RelV x u
 | _,_,_,_,.nil,e=>by simp at e
 | _,_,0,_,.cons r _,e=>by simp at e;subst e;exact ⟨_,rfl,r⟩
 | _,_,i + 1,x,.cons _ t,e=>by
  obtain ⟨u,h1,h2⟩:=Vals.get (i:=i) (x:=x) t (by simpa using e);exact ⟨u,by simpa using h1,h2⟩
theorem Vals.set {x:V}{u:Ae} (r:RelV x u):∀ {xs:List V}{us:List Ae} (i:Nat),Vals xs us->Vals (xs.set i x) (us.set i u)
 | _,_,_,.nil=>.nil
 | _,_,0,.cons _ t=>.cons r t
 | _,_,i + 1,.cons q t=>.cons q (Vals.set r i t)
theorem Vals.append:∀ {xs ys:List V}{us ws:List Ae},Vals xs us->Vals ys ws->Vals (xs++ys) (us++ws)
 | _,_,_,_,.nil,s=>s
 | _,_,_,_,.cons r t,s=>.cons r (Vals.append t s)
theorem Vals.take:∀ {xs:List V}{us:List Ae} (n:Nat),Vals xs us->Vals (xs.take n) (us.take n)
 | _,_,0,_=>.nil
 | _,_,_ + 1,.nil=>.nil
 | _,_,n + 1,.cons r t=>.cons r (Vals.take n t)
theorem Vals.drop:∀ {xs:List V}{us:List Ae} (n:Nat),Vals xs us->Vals (xs.drop n) (us.drop n)
 | _,_,0,r=>r
 | _,_,_ + 1,.nil=>.nil
 | _,_,n + 1,.cons _ t=>Vals.drop n t
def RelO:Option V->Option Ae->Prop
 | some v,some u=>RelV v u
 | none,none=>True
 | _,_=>False
def KV {κ:Type}:List (κ×V)->List (κ×Ae)->Prop:=Paired λ (p:κ×V) (q:κ×Ae)=>p.1=q.1/\RelV p.2 q.2
def kV:Be->V
 | .inl i=>.int i
 | .inr x=>.str x
inductive HO where
 | lst (xs:List V)
 | tup (xs:List V)
 | dK (kvs:List (Be×V)) | dT (kvs:List (List Be×V))
 | set (S:Int->Bool) (n:Nat)
 | ins (C dx:Addr) (fs:List (Str×V))
 | own (x:Addr)
 | xd (fs:List (Str×V))
 | met (f x:Addr)
 | rng (lo hi:Int)
 | frz (o:Obj) (u:HO)
 | tbl (ps:Array Ae)
 | ext (φ:Heap->Prop)
abbrev Hp:=Addr->Option HO
def Aq (H:Hp) (a:Addr) (o:HO):Hp:=λ b=>if b=a then some o else H b
def C8 {H:Hp}{a:Addr}{o:HO}:Aq H a o a=some o:=by unfold Aq;rw [if_pos rfl]
def Bk {H:Hp}{a b:Addr}{o:HO} (h:b≠a):Aq H a o b=H b:=by unfold Aq;rw [if_neg h]
def xv {H:Hp}{a b:Addr}{o u:HO} (h:H a=some o) (h':H b=some u) (d:o≠u):a≠b:=by
 intro e;subst e;rw [h] at h';exact d (Option.some.inj h')
def JX {H:Hp}{a b:Addr}{o:HO} (h:H a=some o) (h':H b=none):a≠b:=by
 intro e;subst e;rw [h] at h';cases h'
section
variable (P:AF) (w:AB)
def zwo (H:Hp) (h:Heap) (a:Addr):HO->Prop
 | .lst xs=>xs.length<=Aw/\∃ (its:List Ae) (n:Nat),Vals xs its/\h.get? a=some { cls:=.type "list",data:=.seq its.toArray n }
 | .tup xs=>xs.length<=Aw/\∃ its:List Ae,Vals xs its/\IsTup h a its.toArray
 | .dK kvs=>kvs.length<=Aw/\(a == Hb)=false/\∃ vs,KV kvs vs/\h.DictOf (DL P w) a vs
 | .dT kvs=>kvs.length<=Aw/\(a == Hb)=false/\∃ xs:List (List Be×Addr×Ae),
   Paired (λ (p:List Be×V) (q:List Be×Addr×Ae)=>p.1=q.1/\H q.2.1=some (.tup (p.1.map kV))/\RelV p.2 q.2.2) kvs xs /\
   ∃ o es ep,h.get? a=some o/\o.ExactDict/\o.data=.dict es ep/\es.toList=xs.map (entryOfKey (LB (DL P w)))/\(xs.map (·.1)).Nodup
 | .set S n=>h.SetOf (intKind P w) a S n
 | .ins C dx fs=>H dx=some (.own a)/\fs.length<=1000/\dx≠a/\h.get? a=some (Rf C dx) /\
   ∃ mA,h.Ns1 dx mA/\(∀ f,RelO (fs.lookup f) (mA f))/\PySem.Within mA (fs.map (·.1))
 | .own _=>∃ o,h.get? a=some o
 | .xd fs=>∃ mA,h.Ns1 a mA/\∀ f,RelO (fs.lookup f) (mA f)
 | .rng lo hi=>∃ t u v,h.get? a=some { cls:=.type "range",data:=.fields #[.int lo t,.int hi u,.int 1 v] }
 | .frz o u=>h.get? a=some o/\zwo H h a u
 | .tbl ps=>h.get? a=some { cls:=.none,data:=.fields ps }
 | .met f x=>h.get? a=some (Ro (.ref f) (.ref x))
 | .ext φ=>φ h/\(∃ o,h.get? a=some o)/\∀ h1 h2:Heap,φ h1->(∀ o,h1.get? a=some o->h2.get? a=some o)->φ h2
def HOk (H:Hp) (h:Heap):Prop:=∀ a o,H a=some o->zwo P w H h a o
end
section
variable {P:AF}{w:AB}{H H':Hp}{h h':Heap}{a:Addr}{o:HO}
theorem zwo.lt (x:zwo P w H h a o):a < h.objs.size:=by
 cases o with
 | lst xs=>obtain ⟨_,_,_,_,e⟩:=x;exact Bu e
 | tup xs=>obtain ⟨_,_,_,p⟩:=x;exact p.lt
 | dK kvs=>obtain ⟨_,_,_,_,o,_,_,e,_⟩:=x;exact Bu e
 | dT kvs=>obtain ⟨_,_,_,_,o,_,_,e,_⟩:=x;exact Bu e
 | set S n=>obtain ⟨o,_,_,_,e,_⟩:=x;exact Bu e
 | ins C dx fs=>obtain ⟨_,_,_,e,_⟩:=x;exact Bu e
 | own y=>obtain ⟨_,e⟩:=x;exact Bu e
 | xd fs=>obtain ⟨_,⟨_,_,_,e,_⟩,_⟩:=x;exact Bu e
 | rng lo hi=>obtain ⟨_,_,_,e⟩:=x;exact Bu e
 | frz ob u=>obtain ⟨e,_⟩:=x;exact Bu e
 | tbl ps=>exact Bu (show h.get? a=some _ from x)
 | met f y=>exact Bu (show h.get? a=some _ from x)
 | ext φ=>obtain ⟨_,⟨_,e⟩,_⟩:=x;exact Bu e
theorem Paired.mapP {α β:Type}{F G:α->β->Prop}:∀ {l₁:List α}{l₂:List β},Paired F l₁ l₂->(∀ a b,F a b->G a b)->Paired G l₁ l₂
 | _,_,.nil,_=>.nil
 | _,_,.cons r t,f=>.cons (f _ _ r) (Paired.mapP t f)
theorem zwo.stay (x:zwo P w H h a o) (k:∀ b u,(b=a\/H b=some (.own a))->h.get? b=some u->h'.get? b=some u)
  (ho:∀ b,H b=some (.own a)->H' b=some (.own a)) (ht:∀ b xs,H b=some (.tup xs)->H' b=some (.tup xs)):zwo P w H' h' a o:=by
 induction o with
 | lst xs=>obtain ⟨z,its,n,r,e⟩:=x;exact ⟨z,its,n,r,k _ _ (.inl rfl) e⟩
 | tup xs=>obtain ⟨z,its,r,ob,e,c⟩:=x;exact ⟨z,its,r,ob,k _ _ (.inl rfl) e,c⟩
 | dK kvs=>obtain ⟨z,y,vs,r,ob,es,ep,e,c⟩:=x;exact ⟨z,y,vs,r,ob,es,ep,k _ _ (.inl rfl) e,c⟩
 | dT kvs=>
  obtain ⟨z,y,xs,r,ob,es,ep,e,c⟩:=x;exact ⟨z,y,xs,Paired.mapP r λ p q z=>⟨z.1,ht _ _ z.2.1,z.2.2⟩,ob,es,ep,k _ _ (.inl rfl) e,c⟩
 | set S n=>obtain ⟨ob,es,ep,t,e,c⟩:=x;exact ⟨ob,es,ep,t,k _ _ (.inl rfl) e,c⟩
 | ins C dx fs=>
  obtain ⟨d,z,ne,e,mA,⟨od,es,ep,e2,c⟩,r⟩:=x;exact ⟨ho _ d,z,ne,k _ _ (.inl rfl) e,mA,⟨od,es,ep,k _ _ (.inr d) e2,c⟩,r⟩
 | own y=>obtain ⟨ob,e⟩:=x;exact ⟨ob,k _ _ (.inl rfl) e⟩
 | xd fs=>obtain ⟨mA,⟨od,es,ep,e,c⟩,r⟩:=x;exact ⟨mA,⟨od,es,ep,k _ _ (.inl rfl) e,c⟩,r⟩
 | rng lo hi=>obtain ⟨t,u,v,e⟩:=x;exact ⟨t,u,v,k _ _ (.inl rfl) e⟩
 | frz ob u ih=>obtain ⟨e,q⟩:=x;exact ⟨k _ _ (.inl rfl) e,ih q⟩
 | tbl ps=>
  have e:h.get? a=some { cls:=.none,data:=.fields ps }:=x;show h'.get? a=some { cls:=.none,data:=.fields ps };exact k a _ (.inl rfl) e
 | met f y=>
  have e:h.get? a=some (Ro (.ref f) (.ref y)):=x;show h'.get? a=some (Ro (.ref f) (.ref y));exact k a _ (.inl rfl) e
 | ext φ=>obtain ⟨p,⟨o,e⟩,st⟩:=x;exact ⟨st _ _ p λ o q=>k _ _ (.inl rfl) q,⟨o,k _ _ (.inl rfl) e⟩,st⟩
def HOk.lt (x:HOk P w H h) (e:H a=some o):a < h.objs.size:=(x a o e).lt
theorem HOk.fresh (x:HOk P w H h) (e:h.objs.size<=a):H a=none:=by
 cases q:H a with
 | none=>rfl
 | some u=>exact absurd (Cb (x.lt q) e) (FC _)
def HOk.kept (x:HOk P w H h) (k:∀ b u,h.get? b=some u->h'.get? b=some u):HOk P w H h':=λ a o e=>
 (x a o e).stay (λ b u _ q=>k b u q) (λ _ q=>q) λ _ _ q=>q
def HOk.laid (x:HOk P w H h) (k:∀ b u,h.get? b=some u->h'.get? b=some u) (hp:h.objs.size<=a) (new:zwo P w (Aq H a o) h' a o):HOk P w (Aq H a o) h':=λ b u e=>by
 have hn:=x.fresh hp;by_cases hb:b=a
 ·subst hb;rw [C8] at e;cases e;exact new
 ·rw [Bk hb] at e;exact (x b u e).stay (λ c v _ q=>k c v q) (λ c q=>by rw [Bk (JX q hn)];exact q) λ c xs q=>by rw [Bk (JX q hn)];exact q
end
def Rd (H:Hp) (a:Addr) (u:HO):Prop:=H a=some u\/∃ o,H a=some (.frz o u)
def Rd.ok {P:AF}{w:AB}{H:Hp}{h:Heap}{a:Addr}{u:HO} (r:Rd H a u) (x:HOk P w H h):zwo P w H h a u:=by
 rcases r with r | ⟨o,r⟩
 ·exact x a u r
 ·obtain ⟨_,q⟩:=x a _ r;exact q
def MR:Option HO->Prop
 | some (.lst _)=>True
 | some (.dK _)=>True
 | some (.dT _)=>True
 | some (.set _ _)=>True
 | some (.ins _ _ _)=>True
 | some (.ext _)=>True
 | _=>False
section
variable {P:AF}{w:AB}{H:Hp}{h h':Heap}{x e:Addr}{o':HO}
def HOk.write (ok:HOk P w H h) (mu:MR (H x)) (he:e=x\/H e=some (.own x)) (k:∀ b u,b≠e->h.get? b=some u->h'.get? b=some u) (heo:∃ u,h'.get? e=some u)
  (new:zwo P w (Aq H x o') h' x o'):HOk P w (Aq H x o') h':=λ b u q=>by
 have nown:∀ c y,H c=some (.own y)->c≠x:=λ c y r z=>by subst z;rw [r] at mu;exact mu
 have ntup:∀ c xs,H c=some (.tup xs)->c≠x:=λ c xs r z=>by subst z;rw [r] at mu;exact mu
 by_cases hb:b=x
 ·subst hb;rw [C8] at q;cases q;exact new
 ·rw [Bk hb] at q;by_cases hbe:b=e
  ·have q':H b=some (.own x):=by
    rcases he with z | z
    ·exact absurd (hbe.trans z) hb
    ·rw [hbe];exact z
   rw [q] at q';cases q';obtain ⟨v,hv⟩:=heo;exact ⟨v,by rw [hbe];exact hv⟩
  ·refine (ok b u q).stay (λ c v hc r=>k c v ?_ r) (λ c r=>by rw [Bk (nown c b r)];exact r) λ c xs r=>by rw [Bk (ntup c xs r)];exact r
   rcases hc with rfl | hc
   ·exact hbe
   ·rintro rfl;rcases he with z | z
    ·exact nown c b hc z
    ·rw [hc] at z;cases z;exact hb rfl
end
structure Un (fs ex:List Addr) (H H':Hp) (h h':Heap):Prop where
 keep:∀ b o,h.get? b=some o->H b=none->b∉fs->b∉ex->h'.get? b=some o
 slot:∀ b o,h.get? b=some o->H b=none->b∈fs->b∉ex->∃ sl,h'.get? b=some { o with slots:=sl }
 free:∀ b o,h.get? b=some o->H b=none->b∉ex->H' b=none
 there:∀ b o,h.get? b=some o->b∉ex->∃ o',h'.get? b=some o'
 tups:∀ b xs,H b=some (.tup xs)->H' b=some (.tup xs)
 frzs:∀ b o u,H b=some (.frz o u)->H' b=some (.frz o u)
 tbls:∀ b ps,H b=some (.tbl ps)->∃ more,H' b=some (.tbl (ps++more))
section
variable {fs fs' ex ex':List Addr}{H H1 H2:Hp}{h h1 h2 h':Heap}{a x e:Addr}{o:HO}
def Un.any (u:Un fs ex H H1 h h1) {b:Addr}{ob:Obj} (q:h.get? b=some ob) (n:H b=none) (hx:b∉ex):∃ sl,h1.get? b=some { ob with slots:=sl }:=by
 by_cases hb:b∈fs
 ·exact u.slot b ob q n hb hx
 ·exact ⟨ob.slots,u.keep b ob q n hb hx⟩
def Un.kept (k:∀ b u,h.get? b=some u->h'.get? b=some u):Un fs ex H H h h':=
 ⟨λ b ob q _ _ _=>k b ob q,λ b ob q _ _ _=>⟨ob.slots,k b ob q⟩,λ _ _ _ n _=>n,λ b ob q _=>⟨ob,k b ob q⟩,λ _ _ q=>q,λ _ _ _ q=>q,λ _ ps q=>⟨#[],by rw [q];simp⟩⟩
def Un.refl:Un fs ex H H h h:=Un.kept λ _ _ q=>q
def Un.laid (k:∀ b u,h.get? b=some u->h'.get? b=some u) (hp:h.objs.size<=a) (hn:H a=none):Un fs ex H (Aq H a o) h h' where
 keep:=λ b u q _ _ _=>k b u q
 slot:=λ b u q _ _ _=>⟨u.slots,k b u q⟩
 free:=λ b u q n _=>by rw [Bk (Cn (Cb (Bu q) hp))];exact n
 there:=λ b u q _=>⟨u,k b u q⟩
 tups:=λ b xs q=>by rw [Bk (JX q hn)];exact q
 frzs:=λ b u xs q=>by rw [Bk (JX q hn)];exact q
 tbls:=λ b ps q=>⟨#[],by rw [Bk (JX q hn),q];simp⟩
def Un.write (mu:MR (H x)) (he:e=x\/H e=some (.own x)) (k:∀ b u,b≠e->h.get? b=some u->h'.get? b=some u) (heo:∃ u,h'.get? e=some u):Un fs ex H (Aq H x o) h h':=by
 have hx:∀ b,H b=none->b≠x:=λ b n z=>by subst z;rw [n] at mu;exact mu
 have hb:∀ b,H b=none->b≠e:=λ b n z=>by
  subst z;rcases he with r | r
  ·exact hx b n r
  ·rw [n] at r;cases r
 have hm:∀ b u,H b=some u->¬ MR (some u)->b≠x:=λ b u q nm z=>by subst z;rw [q] at mu;exact nm mu
 refine ⟨λ b u q n _ _=>k b u (hb b n) q,λ b u q n _ _=>⟨u.slots,k b u (hb b n) q⟩,λ b u q n _=>by rw [Bk (hx b n)];exact n,λ b u q _=>?_,
  λ b xs q=>by rw [Bk (hm b _ q λ z=>z)];exact q,λ b u xs q=>by rw [Bk (hm b _ q λ z=>z)];exact q,λ b ps q=>⟨#[],by rw [Bk (hm b _ q λ z=>z),q];simp⟩⟩
 by_cases hbe:b=e
 ·subst hbe;exact heo
 ·exact ⟨u,k b u hbe q⟩
end
def ET (h:Heap) (H:Hp):List Addr:=(AI h.objs.size).filter λ a=>(H a).isSome
def DE (h:Heap) (H:Hp):Heap:=PySem.W.hideAll h (ET h H)
def yC (h:Heap) (H:Hp):(DE h H).objs.size=h.objs.size:=PySem.W.hideAll_size _ _
def vM {h:Heap}{H:Hp}{b:Addr}{o:Obj} (e:h.get? b=some o) (n:H b=none):(DE h H).get? b=some o:=
 Rt _ e λ hm=>by
  have q:(H b).isSome=true:=(jl1.mp hm).2;rw [n] at q;simp at q
theorem jZ {h:Heap}{H:Hp}{b:Addr}{o:Obj} (e:(DE h H).get? b=some o):h.get? b=some o/\H b=none:=by
 have e':h.get? b=some o:=PySem.W.of_hideAll (ET h H) e;refine ⟨e',?_⟩;cases q:H b with
 | none=>rfl
 | some x=>
  have hm:b∈ET h H:=jl1.mpr ⟨jc7.mpr (Bu e'),by simp [q]⟩;have z:(DE h H).get? b=none:=PySem.W.hideAll_none (ET h H) hm;rw [z] at e;cases e
def jK (g h:Heap) (L:Addr):List (Addr×Obj):=(AI h.objs.size).filterMap λ a=>if a=L\/(g.get? a).isSome=true then none else (h.get? a).map λ o=>(a,o)
def rest (g h:Heap) (L d:Addr):List (Addr×Obj):=(jK g h L).filter λ p=>decide (p.1≠d)
structure Mod (K:PySem.W.Frag) (mg:Str->Option Ae) (base:Heap):Prop where
 kin:K.In base
 glob:base.Ns Eh mg
 blt:∃ mb,base.Ns builtinsNs mb/\∀ x:Str,x ≠ "__name__" -> mb x=Jo x
 nolimit:base.NoLimit
structure Cx where
 prog:AF
 w:AB
 K:PySem.W.Frag
 mg:Str->Option Ae
 base:Heap
 A:AZ
 N:List Str
 s₀:Aj
 H₀:Hp
 env:Env
 outer:List Env
 stack:List Env
 ex:List Addr
 fn:Str->Bool
 calm:Bool
 pn:List (Addr×Obj)
 xe:Ae->Aj->Prop
def CG (l:List Env):List Addr:=l.filterMap (·.frame)
abbrev Cx.fs (X:Cx):List Addr:=CG X.outer
def IQ (sc:BA) (x:Str):Prop:=sc.names.lookup x=some .local\/sc.names.lookup x=some .cell\/sc.names.lookup x=some .free
def FG (sc:BA) (x:Str):Prop:=sc.names.lookup x=some .local\/sc.names.lookup x=some .cell
def Uj (env:Env) (h:Heap) (m:Str->Option Ae) (x:Str) (u:Ae):Prop:=
 (env.kindOf x=some .local/\m x=some u)\/((env.kindOf x=some .cell\/env.kindOf x=some .free)/\∃ c,env.cells.lookup x=some c/\h.IsCell c (some u))
structure Cx.Ok (X:Cx):Prop where
 mod:Mod X.K X.mg X.base
 kind:X.env.scope.kind=.function
 glob:X.env.globals=Eh
 blt:X.env.builtins=builtinsNs
 above:X.s₀.heap.objs.size<=X.env.locals
 inj:∀ x y c,X.env.cells.lookup x=some c->X.env.cells.lookup y=some c->x=y
 has:∀ x,(X.env.kindOf x=some .cell\/X.env.kindOf x=some .free)->∃ c,X.env.cells.lookup x=some c
 cab:∀ x c,X.fn x=true->X.env.cells.lookup x=some c->X.s₀.heap.objs.size<=c
 hd:X.calm=true->X.A.handled=none
 frames:X.A.frames=some X.stack
 stk:X.stack=X.outer\/(X.stack=X.env::X.outer/\X.env.frame=some X.env.locals)
 exf:∀ b∈X.ex,b≠X.env.locals/\∀ x c,X.env.cells.lookup x=some c->c≠b
 bs:∀ b o,X.base.get? b=some o->X.s₀.heap.get? b=some o/\X.H₀ b=none
 bsz:X.base.objs.size<=X.s₀.heap.objs.size
 noex:∀ b o,X.base.get? b=some o->b∉X.ex
 exfs:∀ b∈X.ex,b∉X.fs
 funs:X.s₀.heap.FunFrames X.base X.outer
 frf:∀ b∈X.fs,X.H₀ b=none
structure Inv (X:Cx) (pins:List (Addr×Obj)) (σ:List (Option V)) (H:Hp) (s:Aj):Prop where
 ok:X.Ok
 os:s.os=X.s₀.os
 bare:Fy s.gens
 base:Un X.fs X.ex X.H₀ H X.s₀.heap s.heap
 loc:∃ m,s.heap.Ns X.env.locals m/\∀ (i:Nat) (x:Str) (v:V),X.N[i]?=some x->σ[i]?=some (some v)->IQ X.env.scope x->∃ u,RelV v u/\Uj X.env s.heap m x u
 cell:∀ x c,X.env.cells.lookup x=some c->∃ v,s.heap.IsCell c v
 free:H X.env.locals=none
 freeC:∀ x c,X.env.cells.lookup x=some c->H c=none
 pin:∀ p∈X.pn++pins,s.heap.get? p.1=some p.2/\H p.1=none/\p.1≠X.env.locals/\p.1∉X.fs/\∀ v,p.2.data≠.cell v
 hok:HOk X.prog X.w H s.heap
 len:σ.length=X.N.length
section
variable {X:Cx}{pins:List (Addr×Obj)}{σ:List (Option V)}{H H':Hp}{s:Aj}{h':Heap}
def Cx.Ok.nofr (ok:X.Ok) {b:Addr}{o:Obj} (e:X.base.get? b=some o):b∉X.fs:=λ hb=>by
 have:=(ok.funs.mem hb).1
 rw [e] at this;cases this
def Inv.bs (I:Inv X pins σ H s):∀ b o,X.base.get? b=some o->s.heap.get? b=some o/\H b=none:=λ b o e=>
 ⟨I.base.keep b o (I.ok.bs b o e).1 (I.ok.bs b o e).2 (I.ok.nofr e) (I.ok.noex b o e),I.base.free b o (I.ok.bs b o e).1 (I.ok.bs b o e).2 (I.ok.noex b o e)⟩
def Inv.bk (I:Inv X pins σ H s):∀ b o,X.base.get? b=some o->s.heap.get? b=some o:=λ b o e=>(I.bs b o e).1
def Inv.mod (I:Inv X pins σ H s):Mod X.K X.mg X.base:=I.ok.mod
def Inv.kIn (I:Inv X pins σ H s):X.K.In s.heap:=I.ok.mod.kin.keeps I.bk
def Inv.lt (I:Inv X pins σ H s):X.env.locals < s.heap.objs.size:=let ⟨_,hn,_⟩:=I.loc;hn.lt
def Inv.sz (I:Inv X pins σ H s):X.s₀.heap.objs.size<=s.heap.objs.size:=AW I.ok.above (M3 I.lt)
def Inv.nofs (I:Inv X pins σ H s) {a:Addr} (h:s.heap.objs.size<=a):a∉X.fs:=λ hb=>by
 obtain ⟨_,o,ho,_⟩:=I.ok.funs.mem hb;exact absurd (Cb (Bu ho) (AW I.sz h)) (FC _)
def Inv.cne (I:Inv X pins σ H s):∀ x c,X.env.cells.lookup x=some c->c≠X.env.locals:=λ x c e z=>by
 obtain ⟨v,o,ho,hd⟩:=I.cell x c e;obtain ⟨m,⟨o',es,ep,ho',hd',_⟩,_⟩:=I.loc;rw [z,ho'] at ho;cases ho;rw [hd'] at hd;cases hd
def Inv.funs (I:Inv X pins σ H s):s.heap.FunFrames X.base X.outer:=by
 have all:∀ (l:List Env),(∀ b∈CG l,b∈X.fs)->X.s₀.heap.FunFrames X.base l->s.heap.FunFrames X.base l:=by
  intro l;induction l with
  | nil=>intro _ _;trivial
  | cons env r ih=>
   intro hs hl;obtain ⟨hk,⟨L,o,hf,hn,ho,hd⟩,hr⟩:=hl;have hL:L∈X.fs:=hs L (by unfold CG;rw [Pu,hf];exact AR);obtain ⟨sl,e⟩:=I.base.slot L o ho (I.ok.frf L hL) hL λ z=>I.ok.exfs L z hL;exact ⟨hk,⟨L,_,hf,hn,e,hd⟩,ih (λ b hb=>hs b (by unfold CG;rw [Pu,hf];exact AO _ hb)) hr⟩
 exact all X.outer (λ _ hb=>hb) I.ok.funs
def Inv.stack (I:Inv X pins σ H s):s.heap.FunFrames X.base X.stack:=by
 rcases I.ok.stk with e | ⟨e,hf⟩
 ·rw [e];exact I.funs
 ·rw [e];obtain ⟨m,hn,_⟩:=I.loc;refine .cons (by rw [I.ok.kind];decide) hf hn ?_ I.funs;exact Heap.get?_none_of_le (AW I.ok.bsz I.ok.above)
def Inv.stkSub (I:Inv X pins σ H s):∀ b∈CG X.stack,b∈X.env.locals::X.fs:=λ b hb=>by
 rcases I.ok.stk with e | ⟨e,hf⟩
 ·rw [e] at hb;exact AO _ hb
 ·rw [e] at hb;unfold CG at hb;rw [Pu,hf] at hb;exact hb
def Inv.stkFree (I:Inv X pins σ H s):∀ b∈CG X.stack,H b=none:=λ b hb=>by
 rcases jb2.mp (I.stkSub b hb) with e | hb
 ·rw [e];exact I.free
 ·obtain ⟨_,o,ho,_⟩:=I.ok.funs.mem hb;exact I.base.free b o ho (I.ok.frf b hb) λ z=>I.ok.exfs b z hb
def Inv.step {g':Array GenState}{t':Nat}{d':Drawn}{ch:List Addr} (I:Inv X pins σ H s)
  (hch:∀ b∈ch,(b∈X.ex\/X.s₀.heap.objs.size<=b)/\b≠X.env.locals/\(∀ x c,X.env.cells.lookup x=some c->c≠b)/\∀ p∈X.pn++pins,p.1≠b)
  (keep:∀ b o,b≠X.env.locals->b∉X.fs->b∉ch->s.heap.get? b=some o->H b=none->h'.get? b=some o)
  (slot:∀ b o,b≠X.env.locals->b∈X.fs->b∉ch->s.heap.get? b=some o->H b=none->∃ sl,h'.get? b=some { o with slots:=sl }) (free:∀ b o,b∉ch->s.heap.get? b=some o->H b=none->H' b=none)
  (there:∀ b o,b∉ch->s.heap.get? b=some o->∃ o',h'.get? b=some o')
  (tups:∀ b xs,H b=some (.tup xs)->H' b=some (.tup xs)) (frzs:∀ b o u,H b=some (.frz o u)->H' b=some (.frz o u)) (tbls:∀ b ps,H b=some (.tbl ps)->∃ more,H' b=some (.tbl (ps++more)))
  (ns:∀ m,s.heap.Ns X.env.locals m->h'.Ns X.env.locals m) (hok:HOk X.prog X.w H' h') (hg:Fy g'):
  Inv X pins σ H' { s with heap:=h',gens:=g',drawn:=d',toks:=t' }:=by
 have neL:∀ b o,X.s₀.heap.get? b=some o->b≠X.env.locals:=λ b o e=>Cn (Cb (Bu e) I.ok.above);have neC:∀ b o,X.s₀.heap.get? b=some o->b∉X.ex->b∉ch:=λ b o e hx hb=>by
  rcases (hch b hb).1 with z | z
  ·exact hx z
  ·exact absurd (Cb (Bu e) z) (FC _)
 have cellK:∀ x c,X.env.cells.lookup x=some c->∀ v,s.heap.IsCell c v->h'.IsCell c v:=λ x c e v ⟨o,ho,hd⟩=>by
  have nch:c∉ch:=λ z=>(hch c z).2.2.1 x c e rfl;by_cases hc:c∈X.fs
  ·obtain ⟨sl,q⟩:=slot c o (I.cne x c e) hc nch ho (I.freeC x c e);exact ⟨_,q,hd⟩
  ·exact ⟨o,keep c o (I.cne x c e) hc nch ho (I.freeC x c e),hd⟩
 refine ⟨I.ok,I.os,hg,⟨λ b o e n hb hx=>?_,λ b o e n hb hx=>?_,λ b o e n hx=>?_,λ b o e hx=>?_,λ b xs e=>tups b xs (I.base.tups b xs e),λ b o xs e=>frzs b o xs (I.base.frzs b o xs e),λ b ps e=>?_⟩,?_,λ x c e=>?_,?_,λ x c e=>?_,λ p hp=>?_,hok,I.len⟩
 ·exact keep b o (neL b o e) hb (neC b o e hx) (I.base.keep b o e n hb hx) (I.base.free b o e n hx)
 ·obtain ⟨sl,e1⟩:=I.base.slot b o e n hb hx;obtain ⟨sl',e2⟩:=slot b _ (neL b o e) hb (neC b o e hx) e1 (I.base.free b o e n hx);exact ⟨sl',e2⟩
 ·obtain ⟨o',e1⟩:=I.base.there b o e hx;exact free b o' (neC b o e hx) e1 (I.base.free b o e n hx)
 ·obtain ⟨o',e1⟩:=I.base.there b o e hx;exact there b o' (neC b o e hx) e1
 ·obtain ⟨m1,e1⟩:=I.base.tbls b ps e;obtain ⟨m2,e2⟩:=tbls b _ e1;exact ⟨m1++m2,by rw [e2,Zx]⟩
 ·obtain ⟨m,hn,hl⟩:=I.loc;refine ⟨m,ns m hn,λ i x v e1 e2 e3=>?_⟩;obtain ⟨u,r,l⟩:=hl i x v e1 e2 e3;refine ⟨u,r,?_⟩;rcases l with l | ⟨k,c,e,z⟩
  ·exact .inl l
  ·exact .inr ⟨k,c,e,cellK x c e _ z⟩
 ·obtain ⟨v,z⟩:=I.cell x c e;exact ⟨v,cellK x c e v z⟩
 ·obtain ⟨m,⟨o,_,_,ho,_⟩,_⟩:=I.loc;exact free _ o (λ z=>(hch _ z).2.1 rfl) ho I.free
 ·obtain ⟨v,o,ho,hd⟩:=I.cell x c e;exact free c o (λ z=>(hch c z).2.2.1 x c e rfl) ho (I.freeC x c e)
 ·obtain ⟨e,n,ne,nf,d⟩:=I.pin p hp;have nch:p.1∉ch:=λ z=>(hch p.1 z).2.2.2 p hp rfl;exact ⟨keep p.1 p.2 ne nf nch e n,free p.1 p.2 nch e n,ne,nf,d⟩
def Inv.un {t':Nat} (I:Inv X pins σ H s) (u:Un X.fs [] H H' s.heap h') (hok:HOk X.prog X.w H' h'):Inv X pins σ H' { s with heap:=h',toks:=t' }:=by
 obtain ⟨m,⟨o,es,ep,ho,r⟩,_⟩:=id I.loc;obtain ⟨sl,hL⟩:=u.any ho I.free (by simp);exact I.step (g':=s.gens) (d':=s.drawn) (ch:=[]) (λ _ z=>nomatch z) (λ b o _ hb _ e n=>u.keep b o e n hb (by simp)) (λ b o _ hb _ e n=>u.slot b o e n hb (by simp)) (λ b o _ e n=>u.free b o e n (by simp)) (λ b o _ e=>u.there b o e (by simp)) u.tups u.frzs u.tbls (λ m' hm=>by
  obtain ⟨o',es',ep',ho',r'⟩:=hm;rw [ho] at ho';cases ho';exact ⟨_,es',ep',hL,r'⟩) hok I.bare
def Inv.call {g':Array GenState}{t':Nat}{d':Drawn}{ch:List Addr} (I:Inv X pins σ H s) (u:Un (CG X.stack) ch H H' s.heap h') (hok:HOk X.prog X.w H' h') (hg:Fy g')
  (hch:∀ b∈ch,(b∈X.ex\/X.s₀.heap.objs.size<=b)/\b≠X.env.locals/\(∀ x c,X.env.cells.lookup x=some c->c≠b)/\∀ p∈X.pn++pins,p.1≠b):
  Inv X pins σ H' { s with heap:=h',gens:=g',drawn:=d',toks:=t' }:=by
 obtain ⟨m,⟨o,es,ep,ho,r⟩,_⟩:=id I.loc;obtain ⟨sl,hL⟩:=u.any ho I.free λ z=>(hch _ z).2.1 rfl;exact I.step (ch:=ch) hch (λ b o hL hb hc e n=>u.keep b o e n (λ z=>(jb2.mp (I.stkSub b z)).elim hL hb) hc) (λ b o _ _ hc e n=>u.any e n hc) (λ b o hc e n=>u.free b o e n hc) (λ b o hc e=>u.there b o e hc) u.tups u.frzs u.tbls (λ m' hm=>by
  obtain ⟨o',es',ep',ho',r'⟩:=hm;rw [ho] at ho';cases ho';exact ⟨_,es',ep',hL,r'⟩) hok hg
def Inv.turned {t':Nat}{it:Addr} (I:Inv X pins σ H s) (k:∀ b o,b≠it->s.heap.get? b=some o->h'.get? b=some o) (hn:H it=none) (hL:it≠X.env.locals)
  (h1:it∈X.ex\/X.s₀.heap.objs.size<=it) (h2:∀ x c,X.env.cells.lookup x=some c->c≠it) (h3:∀ p∈X.pn++pins,p.1≠it):Inv X pins σ H { s with heap:=h',toks:=t' }:=by
 have nit:∀ b u,H b=some u->b≠it:=λ b u e z=>by rw [z,hn] at e;cases e
 refine I.step (g':=s.gens) (d':=s.drawn) (ch:=[it]) (λ b hb=>?_) (λ b o _ _ hc e _=>k b o (λ z=>hc (by simp [z])) e) (λ b o _ _ hc e _=>⟨o.slots,k b o (λ z=>hc (by simp [z])) e⟩) (λ _ _ _ _ n=>n)
  (λ b o hc e=>⟨o,k b o (λ z=>hc (by simp [z])) e⟩) (λ _ _ e=>e) (λ _ _ _ e=>e) (λ b ps e=>⟨#[],by rw [e];simp⟩) (λ m hm=>?_) (λ b u e=>?_) I.bare
 ·have e:b=it:=by simpa using hb
  subst e;exact ⟨h1,hL,h2,h3⟩
 ·obtain ⟨o,es,ep,ho,r⟩:=hm;exact ⟨o,es,ep,k _ o (Ca hL) ho,r⟩
 ·refine (I.hok b u e).stay (λ c v hc q=>k c v ?_ q) (λ _ q=>q) λ _ _ q=>q;rcases hc with z | z
  ·rw [z];exact nit b u e
  ·exact nit c _ z
def Inv.tok (I:Inv X pins σ H s) (t:Nat):Inv X pins σ H { s with toks:=t }:=I.un (h':=s.heap) (t':=t) Un.refl I.hok
def Inv.kept {t':Nat} (I:Inv X pins σ H s) (k:∀ b u,s.heap.get? b=some u->h'.get? b=some u):Inv X pins σ H { s with heap:=h',toks:=t' }:=I.un (Un.kept k) (I.hok.kept k)
def Inv.laid {a:Addr}{o:HO}{t':Nat} (I:Inv X pins σ H s) (k:∀ b u,s.heap.get? b=some u->h'.get? b=some u) (hp:s.heap.objs.size<=a) (new:zwo X.prog X.w (Aq H a o) h' a o):
  Inv X pins σ (Aq H a o) { s with heap:=h',toks:=t' }:=I.un (Un.laid k hp (I.hok.fresh hp)) (I.hok.laid k hp new)
def Inv.write {x e:Addr}{o:HO}{t':Nat} (I:Inv X pins σ H s) (mu:MR (H x)) (he:e=x\/H e=some (.own x)) (k:∀ b u,b≠e->s.heap.get? b=some u->h'.get? b=some u) (heo:∃ u,h'.get? e=some u)
  (new:zwo X.prog X.w (Aq H x o) h' x o):Inv X pins σ (Aq H x o) { s with heap:=h',toks:=t' }:=I.un (Un.write mu he k heo) (I.hok.write mu he k heo new)
def Inv.pins_of {pins':List (Addr×Obj)} (I:Inv X pins σ H s) (h:∀ p∈pins',s.heap.get? p.1=some p.2/\H p.1=none/\p.1≠X.env.locals/\p.1∉X.fs/\∀ v,p.2.data≠.cell v):Inv X pins' σ H s:=
 ⟨I.ok,I.os,I.bare,I.base,I.loc,I.cell,I.free,I.freeC,λ p hp=>(jc6.mp hp).elim (λ z=>I.pin p (BG _ z)) (h p),I.hok,I.len⟩
def Q1 {N:List Str} (hN:N.Nodup) {i j:Nat}{x:Str} (a:N[i]?=some x) (b:N[j]?=some x):i=j:=by
 obtain ⟨h1,e1⟩:=ja9.mp a;obtain ⟨h2,e2⟩:=ja9.mp b;exact (List.getElem_inj hN).mp (e1.trans e2.symm)
def UW {M:Model}{A:AZ}{E:Ae->Aj->Prop}{i:Nat}{x:Str}{v:V}{u:Ae}{Q:Unit->Aj->Prop} (I:Inv X pins σ H s) (hN:X.N.Nodup) (hi:X.N[i]?=some x) (hx:FG X.env.scope x) (r:RelV v u)
  (h:∀ s',Inv X pins (σ.set i (some v)) H s'->(∃ a,NO a s.heap s'.heap/\(a=X.env.locals\/X.env.cells.lookup x=some a))->Q () s') (hf:X.fn x=true\/X.env.scope.names.lookup x=some .local:=by first | exact .inl rfl | exact .inr rfl | assumption):Av M A (storeName X.env x u) Q E s:=by
 obtain ⟨m,hn,hl⟩:=id I.loc;have hcls:(X.env.scope.kind == .class || (X.env.scope.kind == .module && X.env.locals != X.env.globals))=false:=by rw [I.ok.kind];rfl
 have hiσ:i < σ.length:=by rw [I.len];exact (ja9.mp hi).1
 have cne:=I.cne;have tracked:∀ {a:Addr}{h':Heap},(∃ o,s.heap.get? a=some o/\H a=none)->NO a s.heap h'->HOk X.prog X.w H h':=λ {a h'} ha hs b ob e=>by
  obtain ⟨_,_,hfree⟩:=ha;refine (I.hok b ob e).stay (λ c w' hc q=>(hs.2 c ?_).trans q) (λ _ q=>q) λ _ _ q=>q;rintro rfl;rcases hc with rfl | hc
  ·rw [hfree] at e;cases e
  ·rw [hfree] at hc;cases hc
 rcases hx with hk | hk
 ·refine wpAny_storeName_local hk hn (λ h' hn' hs=>?_) hcls;obtain ⟨oL,_,_,hoL,_⟩:=id hn;refine h _ ⟨I.ok,I.os,I.bare,⟨λ b o e n hb hx=>?_,λ b o e n hb hx=>?_,I.base.free,λ b o e hx=>?_,I.base.tups,I.base.frzs,I.base.tbls⟩,⟨_,hn',λ j y v' e1 e2 e3=>?_⟩,λ y c e=>?_,I.free,I.freeC,λ p hp=>?_,tracked ⟨oL,hoL,I.free⟩ hs,by simpa using I.len⟩ ⟨_,hs,.inl rfl⟩
  ·exact (hs.2 b (Cn (Cb (Bu e) I.ok.above))).trans (I.base.keep b o e n hb hx)
  ·obtain ⟨sl,e1⟩:=I.base.slot b o e n hb hx;exact ⟨sl,(hs.2 b (Cn (Cb (Bu e) I.ok.above))).trans e1⟩
  ·obtain ⟨o',e1⟩:=I.base.there b o e hx;exact ⟨o',(hs.2 b (Cn (Cb (Bu e) I.ok.above))).trans e1⟩
  ·by_cases hj:j=i
   ·subst hj;rw [hi] at e1;cases e1;rw [Di hiσ] at e2;cases e2;exact ⟨u,r,.inl ⟨hk,by simp⟩⟩
   ·rw [Cw (Ca hj)] at e2;obtain ⟨u',r',q⟩:=hl j y v' e1 e2 e3;refine ⟨u',r',?_⟩;rcases q with ⟨k,e⟩ | ⟨k,c,e,z⟩
    ·refine .inl ⟨k,?_⟩
     have:y≠x:=λ e=>hj (Q1 hN e1 (e ▸ hi))
     simp [this,e]
    ·exact .inr ⟨k,c,e,z.sameBut hs (cne y c e)⟩
  ·obtain ⟨w',z⟩:=I.cell y c e;exact ⟨w',z.sameBut hs (cne y c e)⟩
  ·obtain ⟨e,n,ne,nf,d⟩:=I.pin p hp;exact ⟨(hs.2 p.1 ne).trans e,n,ne,nf,d⟩
 ·have hfn:X.fn x=true:=by
   rcases hf with z | z
   ·exact z
   ·rw [z] at hk;cases hk
  obtain ⟨c,hc⟩:=I.ok.has x (.inl hk);obtain ⟨w',z⟩:=I.cell x c hc;refine wpAny_storeName_cell I.ok.kind hk hc z (λ h' hc' hs=>?_);obtain ⟨oc,hoc,hocd⟩:=id z;refine h { s with heap:=h' } ⟨I.ok,I.os,I.bare,⟨λ b o e n hb hx=>?_,λ b o e n hb hx=>?_,I.base.free,λ b o e hx=>?_,I.base.tups,I.base.frzs,I.base.tbls⟩,⟨m,hn.sameBut hs (Ca (cne x c hc)),λ j y v' e1 e2 e3=>?_⟩,λ y c' e=>?_,I.free,I.freeC,λ p hp=>?_,tracked ⟨oc,hoc,I.freeC x c hc⟩ hs,by simpa using I.len⟩ ⟨c,hs,.inr hc⟩
  ·exact (hs.2 b (Cn (Cb (Bu e) (I.ok.cab x c hfn hc)))).trans (I.base.keep b o e n hb hx)
  ·obtain ⟨sl,e1⟩:=I.base.slot b o e n hb hx;exact ⟨sl,(hs.2 b (Cn (Cb (Bu e) (I.ok.cab x c hfn hc)))).trans e1⟩
  ·obtain ⟨o',e1⟩:=I.base.there b o e hx;exact ⟨o',(hs.2 b (Cn (Cb (Bu e) (I.ok.cab x c hfn hc)))).trans e1⟩
  ·by_cases hj:j=i
   ·subst hj;rw [hi] at e1;cases e1;rw [Di hiσ] at e2;cases e2;exact ⟨u,r,.inr ⟨.inl hk,c,hc,hc'⟩⟩
   ·rw [Cw (Ca hj)] at e2;obtain ⟨u',r',q⟩:=hl j y v' e1 e2 e3;refine ⟨u',r',?_⟩;rcases q with q | ⟨k,c',e,z'⟩
    ·exact .inl q
    ·refine .inr ⟨k,c',e,z'.sameBut hs ?_⟩;rintro rfl;exact hj (Q1 hN e1 (I.ok.inj _ _ _ e hc ▸ hi))
  ·by_cases hcc:c'=c
   ·subst hcc;exact ⟨_,hc'⟩
   ·obtain ⟨w2,z2⟩:=I.cell y c' e;exact ⟨w2,z2.sameBut hs hcc⟩
  ·obtain ⟨e,n,ne,nf,d⟩:=I.pin p hp;refine ⟨(hs.2 p.1 ?_).trans e,n,ne,nf,d⟩;intro q;rw [q,hoc] at e;have q':oc=p.2:=Option.some.inj e;exact d w' (by rw [<- q'];exact hocd)
def Qi {M:Model}{A:AZ}{E:Ae->Aj->Prop}{i:Nat}{x:Str}{v:V}{u:Ae}{Q:Unit->Aj->Prop} (I:Inv X pins σ H s) (hN:X.N.Nodup) (hi:X.N[i]?=some x) (hx:FG X.env.scope x) (r:RelV v u)
  (h:∀ s',Inv X pins (σ.set i (some v)) H s'->Q () s') (hf:X.fn x=true\/X.env.scope.names.lookup x=some .local:=by first | exact .inl rfl | exact .inr rfl | assumption):Av M A (storeName X.env x u) Q E s:=
 UW I hN hi hx r (λ s' I' _=>h s' I') hf
def Inv.call' {s':Aj}{ch:List Addr} (I:Inv X pins σ H s) (ho:s'.os=s.os) (u:Un (CG X.stack) ch H H' s.heap s'.heap) (hok:HOk X.prog X.w H' s'.heap) (hg:Fy s'.gens)
  (hch:∀ b∈ch,(b∈X.ex\/X.s₀.heap.objs.size<=b)/\b≠X.env.locals/\(∀ x c,X.env.cells.lookup x=some c->c≠b)/\∀ p∈X.pn++pins,p.1≠b):Inv X pins σ H' s':=by
 obtain ⟨h',g',d',t',o'⟩:=s';have e:o'=s.os:=ho;subst e;exact I.call (g':=g') (t':=t') (d':=d') u hok hg hch
end
abbrev XK:=Ae->Option Addr->Hp->Prop
abbrev St:=List (Option V)
abbrev VK:=V->Hp->Prop
abbrev TE:=St->Hp->VK->Prop
abbrev TT:=St->Hp->(Bool->Hp->Prop)->Prop
abbrev TA:=St->Hp->(List V->Hp->Prop)->Prop
structure Ends where
 nx:St->Hp->Prop
 rt:VK
 bk:St->Hp->Prop:=λ _ _=>False
 ct:St->Hp->Prop:=λ _ _=>False
abbrev TS:=Ends->St->Hp->Prop
def EP (X:Cx) (pins:List (Addr×Obj)) (σ:St) (Q:VK) (u:Ae) (s':Aj):Prop:=∃ v H',Inv X pins σ H' s'/\RelV v u/\Q v H'
def TP (X:Cx) (pins:List (Addr×Obj)) (σ:St) (Q:Bool->Hp->Prop) (b:Bool) (s':Aj):Prop:=∃ H',Inv X pins σ H' s'/\Q b H'
def AP (X:Cx) (pins:List (Addr×Obj)) (σ:St) (Q:List V->Hp->Prop) (us:List Ae) (s':Aj):Prop:=∃ vs H',Inv X pins σ H' s'/\Vals vs us/\Q vs H'
def SP (X:Cx) (pins:List (Addr×Obj)) (D:Ends) (f:Flow) (s':Aj):Prop:=
 match f with
 | .next=>∃ σ' H',Inv X pins σ' H' s'/\D.nx σ' H'
 | .brk=>∃ σ' H',Inv X pins σ' H' s'/\D.bk σ' H'
 | .cont=>∃ σ' H',Inv X pins σ' H' s'/\D.ct σ' H'
 | .ret u=>∃ v σ' H',Inv X pins σ' H' s'/\RelV v u/\D.rt v H'
def PE (X:Cx) (e:Expr) (t:TE):Prop:=
 ∀ (pins:List (Addr×Obj)) (s:Aj) (σ:St) (H:Hp) (Q:VK),Inv X pins σ H s->t σ H Q->Av (Au X.prog X.w) X.A (eval e X.env) (EP X pins σ Q) X.xe s
def PT (X:Cx) (e:Expr) (t:TT):Prop:=
 ∀ (pins:List (Addr×Obj)) (s:Aj) (σ:St) (H:Hp) (Q:Bool->Hp->Prop),Inv X pins σ H s->t σ H Q->Av (Au X.prog X.w) X.A (isTrue e X.env (eval e X.env)) (TP X pins σ Q) X.xe s
def PW (X:Cx) (e:Expr) (t:TT):Prop:=
 ∀ (whole:Sem Ae) (pins:List (Addr×Obj)) (s:Aj) (σ:St) (H:Hp) (Q:Bool->Hp->Prop),Inv X pins σ H s->t σ H Q->Av (Au X.prog X.w) X.A (isTrue e X.env whole) (TP X pins σ Q) X.xe s
def PW.pt {X:Cx}{e:Expr}{t:TT} (h:PW X e t):PT X e t:=h _
def PA (X:Cx) (es:List Expr) (t:TA):Prop:=
 ∀ (pos:Pos) (pins:List (Addr×Obj)) (s:Aj) (σ:St) (H:Hp) (Q:List V->Hp->Prop),Inv X pins σ H s->t σ H Q->Av (Au X.prog X.w) X.A (spliced (Dk pos (AH es X.env))) (AP X pins σ Q) X.xe s
def PS (X:Cx) (st:Stmt) (t:TS):Prop:=
 ∀ (pins:List (Addr×Obj)) (s:Aj) (σ:St) (H:Hp) (D:Ends),Inv X pins σ H s->t D σ H->Av (Au X.prog X.w) X.A (exec st X.env) (SP X pins D) X.xe s
def E5 (X:Cx) (st:List Stmt) (t:TS):Prop:=
 ∀ (pins:List (Addr×Obj)) (s:Aj) (σ:St) (H:Hp) (D:Ends),Inv X pins σ H s->t D σ H->Av (Au X.prog X.w) X.A (execs st X.env) (SP X pins D) X.xe s
def AG {α:Type}{t:Sem α}{Q Q':α->Aj->Prop}{M:Model}{A:AZ}{E:Ae->Aj->Prop}{s:Aj} (h:Av M A t Q E s) (hQ:∀ a s,Q a s->Q' a s):Av M A t Q' E s:=DH h hQ λ _ _ x=>x
section
variable {X:Cx}
def dG {a b:Expr}{ta tb:TE} (ha:PE X a ta) (hb:PE X b tb) {pins:List (Addr×Obj)}{s:Aj}{σ:St}{H:Hp}{R:V->V->Hp->Prop} (I:Inv X pins σ H s) (h:ta σ H λ x H1=>tb σ H1 λ y H2=>R x y H2)
  {α:Type}{Q:α->Aj->Prop}{f:Ae->Ae->Sem α}
  (hf:∀ v u s2 x y H2,Inv X pins σ H2 s2->RelV x v->RelV y u->R x y H2->Av (Au X.prog X.w) X.A (f v u) Q X.xe s2):
  Av (Au X.prog X.w) X.A (eval a X.env) (λ v s₁=>Av (Au X.prog X.w) X.A (eval b X.env) (λ u s₂=>Av (Au X.prog X.w) X.A (f v u) Q X.xe s₂) X.xe s₁) X.xe s:=by
 refine AG (ha pins s σ H _ I h) λ v s1 ⟨x,H1,I1,r1,q1⟩=>?_;refine AG (hb pins s1 σ H1 _ I1 q1) λ u s2 ⟨y,H2,I2,r2,q2⟩=>?_;exact hf v u s2 x y H2 I2 r1 r2 q2
def CO (i:Nat):TE:=λ σ H Q=>∃ v,σ[i]?=some (some v)/\Q v H
def tC (v:V):TE:=λ _ H Q=>Q v H
def W2 {i:Nat}{x:Str}{pos:Pos} (hN:X.N[i]?=some x) (hv:IQ X.env.scope x) (hd:(x == ("__debug__" : Str))=false:=by decide) (hcd:(x == ("__classdict__" : Str))=false:=by decide):PE X (.Name x pos) (CO i):=by
 intro pins s σ H Q I h;obtain ⟨v,e,h⟩:=h;obtain ⟨m,hn,hl⟩:=I.loc;obtain ⟨u,r,l⟩:=hl i x v hN e hv;have fin:EP X pins σ Q u s:=⟨v,H,I,r,h⟩
 rcases l with ⟨hk,hm⟩ | ⟨hk,c,hc,hcell⟩
 ·exact wpAny_Name (wpAny_loadName_local I.ok.kind hk hn hm fin) hd
 ·rcases hk with hk | hk
  ·exact wpAny_Name (wpAny_loadName_cell I.ok.kind hk hc hcell fin) hd
  ·exact wpAny_Name (wpAny_loadName_free I.ok.kind hk hc hcell fin hcd) hd
def Sl {i j pos}:PE X (.Constant (.int i) j pos) (tC (.int i)):=λ _ _ _ H _ I h=>wpAny_Constant_int ⟨.int i,H,I.tok _,⟨_,rfl⟩,h⟩
def xy {b j pos}:PE X (.Constant (.bool b) j pos) (tC (.bl b)):=λ _ _ _ H _ I h=>Constant_bool ⟨.bl b,H,I,rfl,h⟩
def zj {j pos}:PE X (.Constant .none j pos) (tC .non):=λ _ _ _ H _ I h=>Constant_none ⟨.non,H,I,rfl,h⟩
def OW {x j pos}:PE X (.Constant (.str x) j pos) (tC (.str x)):=λ _ _ _ H _ I h=>Calls.Constant_str ⟨.str x,H,I.tok _,⟨_,rfl⟩,h⟩
def Gl (X:Cx) (x:Str):Prop:=X.env.kindOf x=some .globalImplicit
def L3 {E:Ae->Aj->Prop}{pins:List (Addr×Obj)}{s:Aj}{σ:St}{H:Hp}{x:Str}{u:Ae}{pos:Pos}{Q:Ae->Aj->Prop} (I:Inv X pins σ H s) (hg:Gl X x) (hm:X.mg x=some u) (h:Q u s)
  (hd:(x == ("__debug__" : Str))=false:=by decide):Av (Au X.prog X.w) X.A (eval (.Name x pos) X.env) Q E s:=
 Vi I.ok.kind hg (Calls.loadGlobal_global (by rw [I.ok.glob];exact I.mod.glob.keeps I.bk) hm h) hd
def Kj {E:Ae->Aj->Prop}{pins:List (Addr×Obj)}{s:Aj}{σ:St}{H:Hp}{x:Str}{u:Ae}{pos:Pos}{Q:Ae->Aj->Prop} (I:Inv X pins σ H s) (hg:Gl X x) (hm:X.mg x=none) (hv:Jo x=some u) (h:Q u s)
  (hn:x ≠ "__name__" := by decide) (hd:(x == ("__debug__" : Str))=false:=by decide):Av (Au X.prog X.w) X.A (eval (.Name x pos) X.env) Q E s:=by
 obtain ⟨mb,h1,h2⟩:=I.mod.blt;exact Vi I.ok.kind hg (Calls.loadGlobal_builtin (by rw [I.ok.glob];exact I.mod.glob.keeps I.bk) hm (by rw [I.ok.blt];exact h1.keeps I.bk) ((h2 x hn).trans hv) h) hd
def SV {x:Str}{v:V}{u:Ae}{pos:Pos} (hg:Gl X x) (hm:X.mg x=some u) (r:RelV v u) (hd:(x == ("__debug__" : Str))=false:=by decide):PE X (.Name x pos) (tC v):=
 λ _ _ _ H _ I h=>L3 I hg hm ⟨v,H,I,r,h⟩ hd
def Xh {x:Str}{v:V}{u:Ae}{pos:Pos} (hg:Gl X x) (hm:X.mg x=none) (hv:Jo x=some u) (r:RelV v u) (hn:x ≠ "__name__" := by decide) (hd:(x == ("__debug__" : Str))=false:=by decide):PE X (.Name x pos) (tC v):=
 λ _ _ _ H _ I h=>Kj I hg hm hv ⟨v,H,I,r,h⟩ hn hd
variable {a b:Expr}{ta tb:TE}{pos:Pos}
def PC (X:Cx) (op:EB) (a b:Expr) (t:TE):Prop:=
 ∀ (pins:List (Addr×Obj)) (s:Aj) (σ:St) (H:Hp) (Q:VK),Inv X pins σ H s->t σ H Q ->
  Av (Au X.prog X.w) X.A (eval a X.env) (λ v s₁=>Av (Au X.prog X.w) X.A (eval b X.env) (λ u s₂=>Av (Au X.prog X.w) X.A (Cy op v u) (EP X pins σ Q) X.xe s₂) X.xe s₁) X.xe s
def GH (b:Expr) {op:EB} (h:op≠.In) (h2:op≠.NotIn):Kx op b=false:=by
 have e1:(op == CmpOp.In)=false:=by cases op <;> first | rfl | exact absurd rfl h
 have e2:(op == CmpOp.NotIn)=false:=by cases op <;> first | rfl | exact absurd rfl h2
 cases b <;> simp [Kx,e1,e2]
def tB (t:TE):TT:=λ σ H Q=>t σ H λ x H1=>∃ c,x=.bl c/\Q c H1
def zw {e:Expr}{t:TE} (h:PE X e t) (he:∀ whole,isTrue e X.env whole=(do let v<-whole;standAt e.pos;holding [v] (truthy v)):=by intro _;rfl):PT X e (tB t):=by
 intro pins s σ H Q I hw;refine isTrue_plain (AG (h pins s σ H _ I hw) λ v s1 ⟨x,H1,I1,r1,q1⟩=>?_) (he _);obtain ⟨d,rfl,q⟩:=q1;cases r1;exact HE ⟨H1,I1,q⟩
variable {tA tB':TT}{rest:List Expr}
def Jx (t u:TT):TT:=λ σ H Q=>t σ H λ c H1=>if c=true then u σ H1 Q else Q false H1
def R6 (t u:TT):TT:=λ σ H Q=>t σ H λ c H1=>if c=true then Q true H1 else u σ H1 Q
def Jw (t:TT):TT:=λ σ H Q=>t σ H λ c H1=>Q (!c) H1
theorem kY (ha:PT X a tA):PW X (.BoolOp .And [a] pos) tA:=by
 intro wh pins s σ H Q I h;refine isTrue_and (AG (ha pins s σ H Q I h) λ c s1 e=>?_);cases c with
 | true=>exact isTrue_and_nil e
 | false=>exact e
theorem zy (ha:PT X a tA):PW X (.BoolOp .Or [a] pos) tA:=by
 intro wh pins s σ H Q I h;refine isTrue_or (AG (ha pins s σ H Q I h) λ c s1 e=>?_);cases c with
 | false=>exact isTrue_or_nil e
 | true=>exact e
theorem zx (ha:PT X a tA) (hb:PW X (.BoolOp .And (b::rest) pos) tB'):PW X (.BoolOp .And (a::b::rest) pos) (Jx tA tB'):=by
 intro wh pins s σ H Q I h;refine isTrue_and (AG (ha pins s σ H _ I h) λ c s1 ⟨H1,I1,q1⟩=>?_);cases c with
 | true=>exact hb wh pins s1 σ H1 Q I1 q1
 | false=>exact ⟨H1,I1,q1⟩
theorem x9 (ha:PT X a tA) (hb:PW X (.BoolOp .Or (b::rest) pos) tB'):PW X (.BoolOp .Or (a::b::rest) pos) (R6 tA tB'):=by
 intro wh pins s σ H Q I h;refine isTrue_or (AG (ha pins s σ H _ I h) λ c s1 ⟨H1,I1,q1⟩=>?_);cases c with
 | true=>exact ⟨H1,I1,q1⟩
 | false=>exact hb wh pins s1 σ H1 Q I1 q1
def zv (ha:PT X a tA):PT X (.UnaryOp .Not a pos) (Jw tA):=by
 intro pins s σ H Q I h;exact isTrue_not (ha pins s σ H (λ c H1=>Q (!c) H1) I h)
def VE (ta tb:TE):TE:=λ σ H Q=>ta σ H λ x H1=>∃ c,x=.bl c/\if c=true then tb σ H1 Q else Q (.bl false) H1
def LO (ta tb:TE):TE:=λ σ H Q=>ta σ H λ x H1=>∃ c,x=.bl c/\if c=true then Q (.bl true) H1 else tb σ H1 Q
def VH (ta:TE):TE:=λ σ H Q=>ta σ H λ x H1=>∃ c,x=.bl c/\Q (.bl (!c)) H1
def Wy {op}{t:TE} (h:PE X a t):PE X (.BoolOp op [a] pos) t:=λ pins s σ H Q I hw=>BoolOp_one (h pins s σ H Q I hw)
theorem zi (ha:PE X a ta) (hb:PE X (.BoolOp .And (b::rest) pos) tb):PE X (.BoolOp .And (a::b::rest) pos) (VE ta tb):=by
 intro pins s σ H Q I h;refine BoolOp_and (AG (ha pins s σ H _ I h) λ v s1 ⟨x,H1,I1,r1,q1⟩=>?_);obtain ⟨c,rfl,q1⟩:=q1;cases r1;refine HE ?_;cases c with
 | true=>exact hb pins s1 σ H1 Q I1 q1
 | false=>exact ⟨.bl false,H1,I1,rfl,q1⟩
theorem x3 (ha:PE X a ta) (hb:PE X (.BoolOp .Or (b::rest) pos) tb):PE X (.BoolOp .Or (a::b::rest) pos) (LO ta tb):=by
 intro pins s σ H Q I h;refine BoolOp_or (AG (ha pins s σ H _ I h) λ v s1 ⟨x,H1,I1,r1,q1⟩=>?_);obtain ⟨c,rfl,q1⟩:=q1;cases r1;refine HE ?_;cases c with
 | false=>exact hb pins s1 σ H1 Q I1 q1
 | true=>exact ⟨.bl true,H1,I1,rfl,q1⟩
def zl (ha:PE X a ta):PE X (.UnaryOp .Not a pos) (VH ta):=by
 intro pins s σ H Q I h;refine UnaryOp_ (AG (ha pins s σ H _ I h) λ v s1 ⟨x,H1,I1,r1,q1⟩=>?_);obtain ⟨c,rfl,q1⟩:=q1;cases r1;exact not_of (HE ⟨.bl (!c),H1,I1,rfl,q1⟩)
def Vo (t:TT) (ta tb:TE):TE:=λ σ H Q=>t σ H λ c H1=>if c=true then ta σ H1 Q else tb σ H1 Q
theorem vZ {c:Expr} (hc:PT X c tA) (ha:PE X a ta) (hb:PE X b tb):PE X (.IfExp c a b pos) (Vo tA ta tb):=by
 intro pins s σ H Q I h;refine wpAny_IfExp (AG (hc pins s σ H _ I h) λ d s1 ⟨H1,I1,q1⟩=>?_);cases d with
 | true=>exact ha pins s1 σ H1 Q I1 q1
 | false=>exact hb pins s1 σ H1 Q I1 q1
end
def Co (K:PySem.W.Frag) (H:Hp) (a:Addr) (xs:List V):Prop:=
 Rd H a (.lst xs) \/
  ∃ (o:Obj) (its:Array Ae) (n:Nat),K.lookup a=some o/\o.cls=.type "list" /\ o.dict=none/\o.data=.seq its n/\its.size<=Aw/\Vals xs its.toList
def Dq (K:PySem.W.Frag) (H:Hp) (a:Addr) (xs:List V):Prop:=
 Rd H a (.tup xs) \/
  ∃ (o:Obj) (its:Array Ae) (n:Nat),K.lookup a=some o/\o.cls=.type "tuple" /\ o.data=.seq its n/\its.size<=Aw/\Vals xs its.toList
def Ue:Ae->Option V
 | .none=>some .non
 | .bool b=>some (.bl b)
 | .int i _=>some (.int i)
 | .str x _=>some (.str x)
 | .bytes b _=>some (.byt b)
 | .float b _=>some (.flt b)
 | .ref a=>some (.ref a)
 | .type n=>some (.ty n)
 | _=>none
theorem RelV.abs {x:V}{u:Ae} (r:RelV x u):Ue u=some x:=by
 cases x with
 | non=>cases r;rfl
 | bl _=>cases r;rfl
 | int _=>obtain ⟨t,rfl⟩:=r;rfl
 | str _=>obtain ⟨t,rfl⟩:=r;rfl
 | byt _=>obtain ⟨t,rfl⟩:=r;rfl
 | flt _=>obtain ⟨t,rfl⟩:=r;rfl
 | ref _=>cases r;rfl
 | ty _=>cases r;rfl
def RelV.inj {x y:V}{u:Ae} (r:RelV x u) (q:RelV y u):x=y:=Option.some.inj (r.abs.symm.trans q.abs)
theorem Vals.inj:∀ {xs ys:List V}{us:List Ae},Vals xs us->Vals ys us->xs=ys
 | _,_,_,.nil,.nil=>rfl
 | _,_,_,.cons r t,.cons r' t'=>by rw [r.inj r',Vals.inj t t']
section
variable {X:Cx}{pins:List (Addr×Obj)}{σ:St}{H:Hp}{s:Aj}{a:Addr}{xs ys:List V}
def Inv.list (I:Inv X pins σ H s) (h:Co X.K H a xs):∃ its:List Ae,Vals xs its/\PlainL s.heap a its.toArray/\xs.length<=Aw:=by
 rcases h with h | ⟨o,its,n,hk,hc,hd,hs,hz,r⟩
 ·obtain ⟨z,its,n,r,e⟩:=h.ok I.hok;exact ⟨its,r,⟨_,n,e,rfl,rfl,rfl⟩,z⟩
 ·refine ⟨its.toList,r,⟨o,n,I.kIn a o hk,hc,hd,by simpa using hs⟩,?_⟩;have e:=r.length;simp only [MC] at e;omega
def Inv.tuple (I:Inv X pins σ H s) (h:Dq X.K H a xs):∃ its:List Ae,Vals xs its/\IsTup s.heap a its.toArray/\xs.length<=Aw:=by
 rcases h with h | ⟨o,its,n,hk,hc,hs,hz,r⟩
 ·obtain ⟨z,its,r,p⟩:=h.ok I.hok;exact ⟨its,r,p,z⟩
 ·refine ⟨its.toList,r,⟨o,I.kIn a o hk,hc,n,by simpa using hs⟩,?_⟩;have e:=r.length;simp only [MC] at e;omega
def Inv.list_inj (I:Inv X pins σ H s) (h:Co X.K H a xs) (h':Co X.K H a ys):xs=ys:=by
 obtain ⟨its,r,⟨o,n,e,_,_,d⟩,_⟩:=I.list h;obtain ⟨its',r',⟨o',n',e',_,_,d'⟩,_⟩:=I.list h';rw [e] at e';cases e';rw [d] at d';injection d' with d1 _
 have:its=its':=by simpa using congrArg YN d1
 subst this;exact r.inj r'
def Inv.tuple_inj (I:Inv X pins σ H s) (h:Dq X.K H a xs) (h':Dq X.K H a ys):xs=ys:=by
 obtain ⟨its,r,⟨o,e,_,n,d⟩,_⟩:=I.tuple h;obtain ⟨its',r',⟨o',e',_,n',d'⟩,_⟩:=I.tuple h';rw [e] at e';cases e';rw [d] at d';injection d' with d1 _
 have:its=its':=by simpa using congrArg YN d1
 subst this;exact r.inj r'
end
section
variable {X:Cx}{pins:List (Addr×Obj)}{σ:St}{H:Hp}{s:Aj}{E:Ae->Aj->Prop}
end
section
variable {X:Cx}{st:Stmt}{rest:List Stmt}{t u:TS}{e:Expr}{te:TE}{pos:Pos}
def VG:TS:=λ D σ H=>D.nx σ H
def LN (t u:TS):TS:=λ D σ H=>t { D with nx:=u D } σ H
def kR:E5 X [] VG:=λ _ _ σ H _ I h=>NV ⟨σ,H,I,h⟩
theorem wW (h1:PS X st t) (h2:E5 X rest u):E5 X (st::rest) (LN t u):=by
 intro pins s σ H D I h;refine wpAny_execs_cons (AG (h1 pins s σ H { D with nx:=u D } I h) λ f s1 q=>?_);cases f with
 | next=>
  obtain ⟨σ',H',I',q⟩:=q;exact h2 pins s1 σ' H' D I' q
 | ret v=>exact q
 | brk=>exact q
 | cont=>exact q
theorem SW (h1:PS X st t):E5 X [st] t:=by
 intro pins s σ H D I h;refine wpAny_execs_cons (AG (h1 pins s σ H D I h) λ f s1 q=>?_);cases f with
 | next=>exact NV q
 | ret v=>exact q
 | brk=>exact q
 | cont=>exact q
def Inv.quiet {pins:List (Addr×Obj)}{σ:St}{H:Hp}{s:Aj} (I:Inv X pins σ H s):interactive X.env=false:=by simp [interactive,I.ok.kind]
def Mi (te:TE):TS:=λ D σ H=>te σ H λ _ H1=>D.nx σ H1
def NF (he:PE X e te) (hs:swapsWith e none pos.line X.env=pure false:=by rfl):PS X (.Expr e pos) (Mi te):=by
 intro pins s σ H D I h;exact wpAny_Expr_any (AG (he pins s σ H _ I h) λ v s1 ⟨x,H1,I1,r1,q1⟩=>⟨σ,H1,I1,q1⟩) I.quiet hs
def Ju (te:TE):TS:=λ D σ H=>te σ H D.rt
def W3 (he:PE X e te):PS X (.Return (some e) pos) (Ju te):=by
 intro pins s σ H D I h;exact wpAny_Return_some (AG (he pins s σ H _ I h) λ v s1 ⟨x,H1,I1,r1,q1⟩=>⟨x,σ,H1,I1,r1,q1⟩)
def LQ (c:TT) (t u:TS):TS:=λ D σ H=>c σ H λ b H1=>if b=true then t D σ H1 else u D σ H1
theorem x8 {c:Expr}{a b:List Stmt}{tc:TT} (hc:PT X c tc) (ha:E5 X a t) (hb:E5 X b u):PS X (.If c a b pos) (LQ tc t u):=by
 intro pins s σ H D I h;refine wpAny_If (AG (hc pins s σ H _ I h) λ d s1 ⟨H1,I1,q1⟩=>?_);cases d with
 | true=>exact ha pins s1 σ H1 D I1 q1
 | false=>exact hb pins s1 σ H1 D I1 q1
def Pa:TS:=λ _ _ _=>False
def Q7:PS X st Pa:=λ _ _ _ _ _ _ h=>h.elim
end
abbrev TG:=V->St->Hp->(St->Hp->Prop)->Prop
abbrev IS:=List V->St->Hp->(St->Hp->Prop)->Prop
def PG (X:Cx) (target:Expr) (t:TG):Prop:=
 ∀ (pins:List (Addr×Obj)) (s:Aj) (σ:St) (H:Hp) (v:V) (u:Ae) (Q:St->Hp->Prop),Inv X pins σ H s->RelV v u->t v σ H Q ->
  Av (Au X.prog X.w) X.A (HB target X.env u) (λ _ s'=>∃ σ' H',Inv X pins σ' H' s'/\Q σ' H') X.xe s
def KZ (X:Cx) (ts:List Expr) (t:IS):Prop:=
 ∀ (pins:List (Addr×Obj)) (s:Aj) (σ:St) (H:Hp) (vs:List V) (us:List Ae) (Q:St->Hp->Prop),Inv X pins σ H s->Vals vs us->t vs σ H Q ->
  Av (Au X.prog X.w) X.A (assignInOrder ((EC ts X.env).map (·.2)) us) (λ _ s'=>∃ σ' H',Inv X pins σ' H' s'/\Q σ' H') X.xe s
abbrev Ff:=V->V->V->Hp->(Hp->Prop)->Prop
def PSet (X:Cx) (t:Ff):Prop:=
 ∀ (pins:List (Addr×Obj)) (s:Aj) (σ:St) (H:Hp) (o i v:V) (ov iv u:Ae) (Q:Hp->Prop),Inv X pins σ H s->RelV o ov->RelV i iv->RelV v u->t o i v H Q ->
  Av (Au X.prog X.w) X.A (setItem ov iv u) (λ _ s'=>∃ H',Inv X pins σ H' s'/\Q H') X.xe s
section
variable {X:Cx}{pos:Pos}
def FT (i:Nat):TG:=λ v σ H Q=>Q (σ.set i (some v)) H
def NC {i:Nat}{x:Str} (hN:X.N.Nodup) (hi:X.N[i]?=some x) (hx:FG X.env.scope x) (hf:X.fn x=true\/X.env.scope.names.lookup x=some .local:=by first | exact .inl rfl | exact .inr rfl | assumption):PG X (.Name x pos) (FT i):=by
 intro pins s σ H v u Q I r h;exact wpAny_assign_Name (Qi I hN hi hx r (λ s' I'=>⟨_,H,I',h⟩) hf)
def MF:IS:=λ vs σ H Q=>vs=[]/\Q σ H
def V4 (t:TG) (u:IS):IS:=λ vs σ H Q=>∃ v r,vs=v::r/\t v σ H λ σ' H'=>u r σ' H' Q
def Xj:KZ X [] MF:=by
 intro pins s σ H vs us Q I r h;obtain ⟨e,h⟩:=h;subst e;cases r;exact assignInOrder_nil ⟨σ,H,I,h⟩
theorem Yk {e:Expr}{es:List Expr}{t:TG}{u:IS} (h1:PG X e t) (h2:KZ X es u)
  (hs:(EC (e::es) X.env).map (·.2)=HB e X.env::(EC es X.env).map (·.2):=by rfl):KZ X (e::es) (V4 t u):=by
 intro pins s σ H vs us Q I r h;obtain ⟨v,vr,e1,h⟩:=h;subst e1;cases r with
 | cons r rr=>
  rw [hs];refine assignInOrder_cons (AG (h1 pins s σ H _ _ _ I r h) λ _ s1 ⟨σ1,H1,I1,q1⟩=>?_);exact h2 pins s1 σ1 H1 _ _ Q I1 rr q1
def JL (K:PySem.W.Frag) (n:Nat) (t:IS):TG:=λ v σ H Q=>∃ a xs,v=.ref a/\Dq K H a xs/\xs.length=n/\t xs σ H Q
def Sn {es:List Expr}{k:Nat}{t:IS}{n:Nat} (hc:X.calm=true) (h:KZ X es t)
  (hn:(EC es X.env).length=n:=by rfl) (hst:(EC es X.env).findIdx? (·.1)=none:=by rfl):PG X (.Tuple es k pos) (JL X.K n t):=by
 intro pins s σ H v u Q I r hw;obtain ⟨a,xs,e1,hq,hl,hw⟩:=hw;subst e1;cases r;obtain ⟨its,rv,ht,hz⟩:=I.tuple hq;refine assign_Tuple_tuple (I.ok.hd hc) ht (by simp [hn,<- hl,rv.length]) hst λ h' hx=>?_;have I1:Inv X pins σ H { s with heap:=h' }:=I.kept (t':=s.toks) λ b o e=>hx b o (Cn (Bu e)) e;exact h pins _ σ H xs _ Q I1 (by simpa using rv) hw
def HN (to ti:TE) (t:Ff):TG:=λ v σ H Q=>to σ H λ o H1=>ti σ H1 λ i H2=>t o i v H2 λ H3=>Q σ H3
def Sm {o i:Expr}{to ti:TE}{t:Ff} (ho:PE X o to) (hi:PE X i ti) (hs:PSet X t)
  (ha:∀ v,HB (.Subscript o i pos) X.env v=(do
   let ov<-holding [v] (eval o X.env);let iv<-holding [v,ov] (eval i X.env)
   standAt pos
   holding [v,ov,iv] (setItem ov iv v)
   release [v,ov,iv] []):=by intro _;rfl):PG X (.Subscript o i pos) (HN to ti t):=by
 intro pins s σ H v u Q I r h;rw [ha];refine AM (I0 (AG (ho pins s σ H _ I h) λ ov s1 ⟨x,H1,I1,r1,q1⟩=>?_));refine AM (I0 (AG (hi pins s1 σ H1 _ I1 q1) λ iv s2 ⟨y,H2,I2,r2,q2⟩=>?_));refine AM (wpAny_standAt (AM (I0 (AG (hs pins s2 σ H2 x y v ov iv u _ I2 r1 r2 r q2) λ _ s3 ⟨H3,I3,q3⟩=>?_))));exact wpAny_release ⟨σ,H3,I3,q3⟩
def D9 (te:TE) (g:TG):TS:=λ D σ H=>te σ H λ x H1=>g x σ H1 D.nx
def OX {tg e:Expr}{te:TE}{g:TG} (he:PE X e te) (hg:PG X tg g) (hs:swapsWithSole [tg] e pos.line X.env=pure false:=by rfl) (hw:swappedStores [tg] e X.env=pure none:=by rfl)
  (h1:(EC [tg] X.env).map (·.2)=[HB tg X.env]:=by rfl):PS X (.Assign [tg] e pos) (D9 te g):=by
 intro pins s σ H D I h;refine wpAny_Assign_stores (AG (he pins s σ H _ I h) λ v s1 ⟨x,H1,I1,r1,q1⟩=>?_) hs hw;rw [h1];exact AG (hg pins s1 σ H1 x v _ I1 r1 q1) λ _ s2 q=>q
def So {i:Nat}{x:Str}{e:Expr}{te:TE}{pos':Pos} (hN:X.N.Nodup) (hi:X.N[i]?=some x) (hx:FG X.env.scope x) (he:PE X e te) (hs:swapsWith e (some (.Name x pos')) pos.line X.env=pure false:=by rfl) (hf:X.fn x=true\/X.env.scope.names.lookup x=some .local:=by first | exact .inl rfl | exact .inr rfl | assumption):
  PS X (.Assign [.Name x pos'] e pos) (D9 te (FT i)):=by
 intro pins s σ H D I h;refine wpAny_Assign_Name (AG (he pins s σ H _ I h) λ v s1 ⟨y,H1,I1,r1,q1⟩=>?_) hs;exact Qi I1 hN hi hx r1 (λ s2 I2=>⟨_,H1,I2,q1⟩) hf
end
section
variable {X:Cx}{pos:Pos}
end
structure It where
 go:Nat->Hp->Prop
 yld:Nat->Hp->V->Hp->Prop
 stop:Nat->Hp->Prop
def CC (X:Cx) (pins:List (Addr×Obj)) (H:Hp) (b:Addr):Prop:=
 H b=none/\b≠X.env.locals/\b∉X.fs/\(b∈X.ex\/X.s₀.heap.objs.size<=b)/\(∀ x c,X.env.cells.lookup x=some c->c≠b)/\∀ p∈X.pn++pins,p.1≠b
def Inv.fpOk {X:Cx}{pins:List (Addr×Obj)}{σ:St}{H H':Hp}{s:Aj}{b:Addr} (I:Inv X pins σ H s) (hb:s.heap.objs.size<=b) (hn:H' b=none):CC X pins H' b:=by
 refine ⟨hn,JE (Cb I.lt hb),I.nofs hb,.inr (AW I.sz hb),λ x c e z=>?_,λ p hp z=>?_⟩
 ·obtain ⟨v,q⟩:=I.cell x c e;exact absurd (Cb q.lt (by rw [z];exact hb)) (FC _)
 ·exact absurd (Cb (Bu (I.pin p hp).1) (by rw [z];exact hb)) (FC _)
structure Turn (P:AF) (w:AB) (K:PySem.W.Frag) (tg:Expr) (J:It) (fp:List Addr) (it:Addr) (tn:Nat->Heap->Prop):Prop where
 mem:it∈fp
 obj:∀ i h,tn i h->∀ b∈fp,∃ o,h.get? b=some o/\∀ v,o.data≠.cell v
 keep:∀ i h h',tn i h->(∀ b∈fp,∀ o,h.get? b=some o->h'.get? b=some o)->tn i h'
 item:∀ (X:Cx),X.prog=P->X.w=w->X.K=K->X.calm=true->∀ (i:Nat) (pins:List (Addr×Obj)) (s:Aj) (σ:St) (H:Hp) (E:Ae->Aj->Prop),Inv X pins σ H s->(∀ b∈fp,CC X pins H b)->tn i s.heap->J.go i H ->
  Av (Au P w) X.A (pyNext (.ref it)) (λ r s1=>∃ u,r=some u /\
   Av (Au P w) X.A (NU tg (.ref it) u) (λ _ s2=>∃ x H',Inv X pins σ H' s2/\RelV x u/\J.yld i H x H'/\tn (i + 1) s2.heap/\∀ b∈fp,H' b=none) E s1) E s
 done:∀ (X:Cx),X.prog=P->X.w=w->X.K=K->X.calm=true->∀ (i:Nat) (pins:List (Addr×Obj)) (s:Aj) (σ:St) (H:Hp) (E:Ae->Aj->Prop),Inv X pins σ H s->(∀ b∈fp,CC X pins H b)->tn i s.heap->J.stop i H ->
  Av (Au P w) X.A (pyNext (.ref it)) (λ r s1=>r=none/\Inv X pins σ H s1) E s
 self:∀ (A:AZ) (i:Nat) (s:Aj) (Q:Ae->Aj->Prop) (E:Ae->Aj->Prop),tn i s.heap->Q (.ref it) s->Av (Au P w) A (pyIter (.ref it)) Q E s
abbrev TI:=St->Hp->(It->Hp->Prop)->Prop
def ZS (X:Cx) (pins:List (Addr×Obj)) (σ:St) (tg:Expr) (R:It->Hp->Prop) (itv:Ae) (s2:Aj):Prop:=
 ∃ (it:Addr) (fp:List Addr) (tn:Nat->Heap->Prop) (J:It) (H':Hp),itv=.ref it/\Inv X pins σ H' s2/\Turn X.prog X.w X.K tg J fp it tn/\tn 0 s2.heap/\(∀ b∈fp,CC X pins H' b)/\R J H'
def PI (X:Cx) (tg iter:Expr) (wi:TI):Prop:=
 ∀ (pins:List (Addr×Obj)) (s:Aj) (σ:St) (H:Hp) (R:It->Hp->Prop),Inv X pins σ H s->wi σ H R ->
  Av (Au X.prog X.w) X.A (eval iter X.env) (λ v s1=>Av (Au X.prog X.w) X.A (pyIter v) (ZS X pins σ tg R) X.xe s1) X.xe s
def Me {M:Model}{A:AZ}{E:Ae->Aj->Prop}{s:Aj}{tg:Expr}{it:Addr}{u:Ae}{o:Obj}{n:String}{vs:Array Ae}{Q:Unit->Aj->Prop} (ho:s.heap.get? it=some o) (hc:o.cls=.type n) (hd:o.data=.fields vs)
  (hn:["enumerate","zip","dict_itemiterator","dict_reverseitemiterator","odict_iterator","itertools.zip_longest","itertools.pairwise"].contains n=false) (hQ:Q () s):Av M A (NU tg (.ref it) u) Q E s:=by
 unfold NU;cases tg <;> first
  | exact Cs hQ
  | (cases u <;> first
    | exact Cs hQ
    | (refine AM (wpAny_load ho ?_);rw [hc,hd];show Av M A (if (["enumerate","zip","dict_itemiterator","dict_reverseitemiterator","odict_iterator","itertools.zip_longest","itertools.pairwise"].contains n && vs[0]? == some (rawInt _))=true then _ else _) Q E s;rw [if_neg (by intro h;rw [hn,Bool.false_and] at h;cases h)];exact Cs hQ))
def ZV (K:PySem.W.Frag) (a:Addr):It:=
 ⟨λ i H=>∃ xs x,Co K H a xs/\xs[i]?=some x,λ i H x H'=>H'=H/\∀ xs,Co K H a xs->xs[i]?=some x,λ i H=>∃ xs,Co K H a xs/\xs.length<=i⟩
def ZU (K:PySem.W.Frag) (a:Addr):It:=
 ⟨λ i H=>∃ xs x,Dq K H a xs/\xs[i]?=some x,λ i H x H'=>H'=H/\∀ xs,Dq K H a xs->xs[i]?=some x,λ i H=>∃ xs,Dq K H a xs/\xs.length<=i⟩
def Hi (lo:Int) (n:Nat):It:=⟨λ i _=>i < n,λ i H x H'=>H'=H/\x=.int (lo + i),λ i _=>n<=i⟩
def yU {P:AF}{w:AB}{K:PySem.W.Frag}{tg:Expr} (a it:Addr):Turn P w K tg (ZV K a) [it] it (λ i h=>h.IsListIter it a i) where
 mem:=by simp
 obj:=λ i h st b hb=>by
  have e:b=it:=by simpa using hb
  subst e;obtain ⟨o,e,c,d⟩:=st;exact ⟨o,e,λ v z=>by rw [d] at z;cases z⟩
 keep:=λ i h h' st k=>st.at λ o e=>k it (by simp) o e
 item:=by
  intro X hP hw hK hc i pins s σ H E I hf st hg;subst hP hw hK;obtain ⟨xs,x,hq,hx⟩:=hg;obtain ⟨its,rv,p,hz⟩:=I.list hq;obtain ⟨u,hu,ru⟩:=rv.get hx;obtain ⟨f0,f1,f2,f3,f4,f5⟩:=hf it (by simp);refine wpAny_pyNext_list_item st p.isList (x:=u) (by simpa using hu) λ h' st' sb=>?_;have I1:Inv X pins σ H { s with heap:=h' }:=I.turned (t':=s.toks) (λ b o hb e=>(sb.2 b hb).trans e) f0 f1 f3 f4 f5;obtain ⟨o,e,c,d⟩:=id st';exact ⟨u,rfl,Me (s:={ s with heap:=h' }) e c d (by decide) ⟨x,H,I1,ru,⟨rfl,λ ys hy=>by rw [I.list_inj hy hq];exact hx⟩,st',λ b hb=>(hf b hb).1⟩⟩
 done:=by
  intro X hP hw hK hc i pins s σ H E I hf st hg;subst hP hw hK;obtain ⟨xs,hq,hx⟩:=hg;obtain ⟨its,rv,p,hz⟩:=I.list hq;obtain ⟨f0,f1,f2,f3,f4,f5⟩:=hf it (by simp);have hl:=rv.length;exact wpAny_pyNext_list_end (I.ok.hd hc) st p.isList (by simp;omega) λ h' eb=>⟨rfl,I.turned (t':=s.toks) (λ b o hb e=>eb b o hb e) f0 f1 f3 f4 f5⟩
 self:=λ _ _ _ _ _ st h=>wpAny_pyIter_listiter st h
def ui {P:AF}{w:AB}{K:PySem.W.Frag}{tg:Expr} (a it:Addr):Turn P w K tg (ZU K a) [it] it (λ i h=>h.IsTupleIter it a i) where
 mem:=by simp
 obj:=λ i h st b hb=>by
  have e:b=it:=by simpa using hb
  subst e;obtain ⟨o,e,c,d⟩:=st;exact ⟨o,e,λ v z=>by rw [d] at z;cases z⟩
 keep:=λ i h h' st k=>st.at λ o e=>k it (by simp) o e
 item:=by
  intro X hP hw hK hc i pins s σ H E I hf st hg;subst hP hw hK;obtain ⟨xs,x,hq,hx⟩:=hg;obtain ⟨its,rv,p,hz⟩:=I.tuple hq;obtain ⟨u,hu,ru⟩:=rv.get hx;obtain ⟨f0,f1,f2,f3,f4,f5⟩:=hf it (by simp);refine wpAny_pyNext_tuple_item st (show s.heap.IsTuple a its.toArray from p) (x:=u) (by simpa using hu) λ h' st' sb=>?_;have I1:Inv X pins σ H { s with heap:=h' }:=I.turned (t':=s.toks) (λ b o hb e=>(sb.2 b hb).trans e) f0 f1 f3 f4 f5;obtain ⟨o,e,c,d⟩:=id st';exact ⟨u,rfl,Me (s:={ s with heap:=h' }) e c d (by decide) ⟨x,H,I1,ru,⟨rfl,λ ys hy=>by rw [I.tuple_inj hy hq];exact hx⟩,st',λ b hb=>(hf b hb).1⟩⟩
 done:=by
  intro X hP hw hK hc i pins s σ H E I hf st hg;subst hP hw hK;obtain ⟨xs,hq,hx⟩:=hg;obtain ⟨its,rv,p,hz⟩:=I.tuple hq;obtain ⟨f0,f1,f2,f3,f4,f5⟩:=hf it (by simp);have hl:=rv.length;exact wpAny_pyNext_tuple_end (I.ok.hd hc) st (show s.heap.IsTuple a its.toArray from p) (by simp;omega) λ h' eb=>⟨rfl,I.turned (t':=s.toks) (λ b o hb e=>eb b o hb e) f0 f1 f3 f4 f5⟩
 self:=λ _ _ _ _ _ st h=>wpAny_pyIter_tupleiter st h
def uh {P:AF}{w:AB}{K:PySem.W.Frag}{tg:Expr} (it:Addr) (lo:Int) (n:Nat):Turn P w K tg (Hi lo n) [it] it (λ i h=>IsRangeIter h it (lo + (i:Nat) * 1) ((n:Int) - (i:Nat)) 1) where
 mem:=by simp
 obj:=λ i h st b hb=>by
  have e:b=it:=by simpa using hb
  subst e;exact ⟨_,st,λ v z=>by
   have z':Data.fields _=Data.cell v:=z;cases z'⟩
 keep:=λ i h h' st k=>k it (by simp) _ st
 item:=by
  intro X hP hw hK hc i pins s σ H E I hf st hg;subst hP hw hK;obtain ⟨f0,f1,f2,f3,f4,f5⟩:=hf it (by simp);have W:=Walks.range (prog:=X.prog) (w:=X.w) (I.ok.hd hc) it lo 1 n;refine W.item i s _ _ hg st λ v h' tk hv st' kk=>?_;obtain ⟨t,rfl⟩:=hv;have I1:Inv X pins σ H { s with heap:=h',toks:=tk }:=I.turned (λ b o hb e=>kk b o (by simpa using hb) e) f0 f1 f3 f4 f5;refine ⟨_,rfl,Me (s:={ s with heap:=h',toks:=tk }) (n := "range_iterator") st' rfl rfl (by decide) ⟨.int (lo + i),H,I1,⟨t,?_⟩,⟨rfl,rfl⟩,st',λ b hb=>(hf b hb).1⟩⟩;rw [Int.mul_one]
 done:=by
  intro X hP hw hK hc i pins s σ H E I hf st hg;subst hP hw hK;obtain ⟨f0,f1,f2,f3,f4,f5⟩:=hf it (by simp);exact wpAny_pyNext_range_end (I.ok.hd hc) st (by have:n<=i:=hg;omega) λ h' eb=>⟨rfl,I.turned (t':=s.toks) (λ b o hb e=>eb b o hb e) f0 f1 f3 f4 f5⟩
 self:=λ _ _ _ _ _ st h=>wpAny_pyIter_rangeiter st h
section
variable {X:Cx}{tg:Expr}
def Yy {pins:List (Addr×Obj)}{σ:St}{H:Hp}{s:Aj}{R:It->Hp->Prop}{E:Ae->Aj->Prop}{lo hi:Int}{t u v:Tok}{tk:Nat} (I:Inv X pins σ H s) (h1:-(2 ^ 62)<=lo) (h2:lo < 2 ^ 62) (h3:-(2 ^ 62)<=hi) (h4:hi < 2 ^ 62)
  (q:R (Hi lo (hi - lo).toNat) H):Av (Au X.prog X.w) X.A (pyIter (.ref s.heap.objs.size)) (ZS X pins σ tg R) E { s with heap:=s.heap.push { cls:=.type "range",data:=.fields #[.int lo t,.int hi u,.int 1 v] },toks:=tk }:=by
 refine wpAny_pyIter_range (IsRange.new ..) (small_one h1 h2 h3 h4) ?_;have I1:Inv X pins σ H { s with heap:=s.heap.push { cls:=.type "range",data:=.fields #[.int lo t,.int hi u,.int 1 v] },toks:=tk }:=I.kept λ b o e=>CM _ e;refine ⟨(s.heap.push { cls:=.type "range",data:=.fields #[.int lo t,.int hi u,.int 1 v] }).objs.size,[(s.heap.push { cls:=.type "range",data:=.fields #[.int lo t,.int hi u,.int 1 v] }).objs.size],_,_,H,rfl,
  I1.kept (t':=tk) λ b o e=>CM _ e,uh _ lo (hi - lo).toNat,?_,λ b hb=>?_,q⟩
 ·have e1:lo + ((0:Nat):Int) * 1=lo:=by simp
  have e2:(((hi - lo).toNat:Nat):Int) - ((0:Nat):Int)=Builtin.Range.rangeSize lo hi 1:=by rw [rangeSize_one];split <;> omega
  show IsRangeIter _ _ (lo + ((0:Nat):Int) * 1) ((((hi - lo).toNat:Nat):Int) - ((0:Nat):Int)) 1;rw [e1,e2];exact Dx _ rfl
 ·have e:b=(s.heap.push { cls:=.type "range",data:=.fields #[.int lo t,.int hi u,.int 1 v] }).objs.size:=by simpa using hb
  subst e;exact I1.fpOk (Bj _) (I1.hok.fresh (Bj _))
def OD (ta:TA):TI:=λ σ H R=>ta σ H λ vs H1=>∃ j:Int,vs=[.int j]/\-(2 ^ 62)<=j/\j < 2 ^ 62/\R (Hi 0 j.toNat) H1
def OE (ta:TA):TI:=λ σ H R=>ta σ H λ vs H1=>∃ i j:Int,vs=[.int i,.int j]/\(-(2 ^ 62)<=i/\i < 2 ^ 62/\-(2 ^ 62)<=j/\j < 2 ^ 62)/\R (Hi i (j - i).toNat) H1
theorem yD {a:Expr}{ta:TA}{p pos:Pos} (hg:Gl X "range") (hm:X.mg "range" = none) (ha:PA X [a] ta) (hs:AH [a] X.env=[(false,eval a X.env)]:=by rfl):PI X tg (.Call (.Name "range" p) [a] [] pos) (OD ta):=by
 intro pins s σ H R I h;refine Call_ (Kj I hg hm boot_range (Oa (AG (ha pos pins s σ H _ I h) λ us s1 ⟨vs,H1,I1,r1,q1⟩=>?_) hs rfl));obtain ⟨j,e,q1,q2,q⟩:=q1;subst e;cases r1 with
 | cons r rr=>
  cases rr;obtain ⟨t,rfl⟩:=r;exact call_range_1 (Yy I1 (by omega) (by omega) q1 q2 (by simpa using q))
theorem yE {a b:Expr}{ta:TA}{p pos:Pos} (hg:Gl X "range") (hm:X.mg "range" = none) (ha:PA X [a,b] ta) (hs:AH [a,b] X.env=[(false,eval a X.env),(false,eval b X.env)]:=by rfl) (hs2:AH [b] X.env=[(false,eval b X.env)]:=by rfl):
  PI X tg (.Call (.Name "range" p) [a,b] [] pos) (OE ta):=by
 intro pins s σ H R I h;refine Call_ (Kj I hg hm boot_range (Oa (AG (ha pos pins s σ H _ I h) λ us s1 ⟨vs,H1,I1,r1,q1⟩=>?_) (by rw [hs,hs2]) (by rw [hs2];rfl)));obtain ⟨i,j,e,⟨q1,q2,q3,q4⟩,q⟩:=q1;subst e;cases r1 with
 | cons r rr=>
  cases rr with
  | cons r' rr=>
   cases rr;obtain ⟨t,rfl⟩:=r;obtain ⟨t',rfl⟩:=r';exact call_range_2 (Yy I1 q1 q2 q3 q4 q)
def Gb (wi:TI) (g:TG) (tb:TS):TS:=λ D σ H=>wi σ H λ J H1=>∃ W:Nat->Nat->St->Hp->Prop,(∃ m,W 0 m σ H1)/\∀ i m σ H,W i m σ H ->
 (J.stop i H/\D.nx σ H)\/(J.go i H/\∃ N:St->Hp->Prop,(∀ σ' H',N σ' H'->∃ m',m' < m/\W (i + 1) m' σ' H')/\∀ x H',J.yld i H x H'->g x σ H' λ σ2 H2=>tb { D with nx:=N,ct:=N,bk:=D.nx } σ2 H2)
def Lv (fp:List Addr) (h:Heap):List (Addr×Obj):=fp.filterMap λ b=>(h.get? b).map λ o=>(b,o)
def Nh {fp:List Addr}{h:Heap}{b:Addr}{o:Obj} (hb:b∈fp) (e:h.get? b=some o):(b,o)∈Lv fp h:=jl7.mpr ⟨b,hb,by rw [e];rfl⟩
theorem yO {fp:List Addr}{h:Heap}{p:Addr×Obj} (hp:p∈Lv fp h):p.1∈fp/\h.get? p.1=some p.2:=by
 obtain ⟨b,hb,e⟩:=jl7.mp hp;cases q:h.get? b with
 | none=>rw [q] at e;cases e
 | some o=>
  rw [q] at e;have e':(b,o)=p:=Option.some.inj e;subst e';exact ⟨hb,q⟩
def Inv.pinned {pins:List (Addr×Obj)}{σ:St}{H:Hp}{s:Aj}{fp:List Addr} (I:Inv X pins σ H s) (hf:∀ b∈fp,CC X pins H b) (ho:∀ b∈fp,∃ o,s.heap.get? b=some o/\∀ v,o.data≠.cell v):Inv X (pins++Lv fp s.heap) σ H s:=
 I.pins_of λ p hp=>(jc6.mp hp).elim (λ z=>I.pin p (Bq _ z)) λ z=>by
  obtain ⟨hb,e⟩:=yO z;obtain ⟨f0,f1,f2,_⟩:=hf p.1 hb;obtain ⟨o,e',d⟩:=ho p.1 hb;rw [e] at e';cases e';exact ⟨e,f0,f1,f2,d⟩
def Inv.unpinned {pins pl:List (Addr×Obj)}{σ:St}{H:Hp}{s:Aj} (I:Inv X (pins++pl) σ H s):Inv X pins σ H s:=I.pins_of λ p hp=>I.pin p (Bq _ (BG _ hp))
def Iq {iter:Expr}{body:List Stmt}{wi:TI}{g:TG}{tb:TS}{pos:Pos} (hp:L9 (Au X.prog X.w) X.A X.env X.xe) (hc:X.calm=true) (hi:PI X tg iter wi) (hg:PG X tg g) (hb:E5 X body tb)
  (hs:∀ x,NX iter X.env x=pure x:=by intro _;rfl):PS X (.For tg iter body [] pos) (Gb wi g tb):=by
 intro pins s σ H D I h;refine wpAny_For (AG (hi pins s σ H _ I h) λ v s1 h1=>AG h1 λ itv s2 h2=>?_) hs;obtain ⟨it,fp,tn,J,H2,e,I2,T,st2,f2,W,⟨m0,w0⟩,turn⟩:=h2;subst e;have stat:∀ {H':Hp},(∀ b∈fp,H' b=none)->∀ b∈fp,CC X pins H' b:=λ hn b hb=>⟨hn b hb,(f2 b hb).2⟩
 refine codeAny_forLoop_any (λ n s'=>∃ i σ' H',Inv X pins σ' H' s'/\tn i s'.heap/\(∀ b∈fp,H' b=none)/\W i n σ' H') ?_ m0 ⟨0,σ,H2,I2,st2,λ b hb=>(f2 b hb).1,w0⟩;rintro n s3 ⟨i,σ3,H3,I3,st3,fr3,w3⟩;rcases turn i n σ3 H3 w3 with ⟨stop,qn⟩ | ⟨go,N,hN,step⟩
 ·refine LJ hp (AG (T.done X rfl rfl rfl hc i pins s3 σ3 H3 X.xe I3 (stat fr3) st3 stop) λ r s4 ⟨hr,I4⟩=>?_);subst hr;exact NV ⟨σ3,H3,I4,qn⟩
 ·refine LJ hp (AG (T.item X rfl rfl rfl hc i pins s3 σ3 H3 X.xe I3 (stat fr3) st3 go) λ r s4 ⟨u,hr,h4⟩=>?_);subst hr;refine LJ hp (AG h4 λ _ s5 ⟨x,H5,I5,r5,y5,st5,fr5⟩=>?_);have I5':=I5.pinned (stat fr5) (T.obj _ _ st5);refine LJ hp (AG (hg _ s5 σ3 H5 x u _ I5' r5 (step x H5 y5)) λ _ s6 ⟨σ6,H6,I6,q6⟩=>?_);refine LJ hp (AG (hb _ s6 σ6 H6 _ I6 q6) λ f s7 q7=>?_);have again:∀ {σ7:St}{H7:Hp},Inv X (pins++Lv fp s5.heap) σ7 H7 s7->N σ7 H7->∃ m,m < n/\∃ i σ' H',Inv X pins σ' H' s7/\tn i s7.heap/\(∀ b∈fp,H' b=none)/\W i m σ' H':=λ {σ7 H7} I7 n7=>by
   obtain ⟨m',hm,w7⟩:=hN σ7 H7 n7;refine ⟨m',hm,i + 1,σ7,H7,I7.unpinned,T.keep _ _ _ st5 λ b hb o e=>(I7.pin (b,o) (Bq _ (Bq _ (Nh hb e)))).1,λ b hb=>?_,w7⟩;obtain ⟨o,e,d⟩:=T.obj _ _ st5 b hb;exact (I7.pin (b,o) (Bq _ (Bq _ (Nh hb e)))).2.1
  cases f with
  | next=>obtain ⟨σ7,H7,I7,n7⟩:=q7;exact again I7 n7
  | cont=>obtain ⟨σ7,H7,I7,n7⟩:=q7;exact again I7 n7
  | brk=>obtain ⟨σ7,H7,I7,q7⟩:=q7;exact ⟨σ7,H7,I7.unpinned,q7⟩
  | ret v=>obtain ⟨x7,σ7,H7,I7,r7,q7⟩:=q7;exact ⟨x7,σ7,H7,I7.unpinned,r7,q7⟩
end
abbrev R2:=V->V->Hp->VK->Prop
def OpR (X:Cx) (f:Ae->Ae->Sem Ae) (r:R2):Prop:=
 ∀ (pins:List (Addr×Obj)) (s:Aj) (σ:St) (H:Hp) (x y:V) (v u:Ae) (Q:VK),Inv X pins σ H s->RelV x v->RelV y u->r x y H Q ->
  Av (Au X.prog X.w) X.A (f v u) (EP X pins σ Q) X.xe s
def Ug (X:Cx) (f:Ae->Sem Ae) (r:V->Hp->VK->Prop):Prop:=
 ∀ (pins:List (Addr×Obj)) (s:Aj) (σ:St) (H:Hp) (x:V) (v:Ae) (Q:VK),Inv X pins σ H s->RelV x v->r x H Q ->
  Av (Au X.prog X.w) X.A (f v) (EP X pins σ Q) X.xe s
def CallR (X:Cx) (f:Ae) (r:List V->Hp->VK->Prop):Prop:=
 ∀ (pins:List (Addr×Obj)) (s:Aj) (σ:St) (H:Hp) (xs:List V) (us:List Ae) (Q:VK),Inv X pins σ H s->Vals xs us->r xs H Q ->
  Av (Au X.prog X.w) X.A (call f us) (EP X pins σ Q) X.xe s
def Jv (r:R2) (ta tb:TE):TE:=λ σ H Q=>ta σ H λ x H1=>tb σ H1 λ y H2=>r x y H2 Q
def Vm (r:V->Hp->VK->Prop) (ta:TE):TE:=λ σ H Q=>ta σ H λ x H1=>r x H1 Q
def rI (C:Int->Int->Prop) (g:Int->Int->V):R2:=λ x y H Q=>∃ i j,x=.int i/\y=.int j/\C i j/\Q (g i j) H
def FA (g:Int->Int->V):R2:=λ x y H Q=>∃ i j,x=.int i/\y=.int j/\Q (g i j) H
def rU (g:Int->V):V->Hp->VK->Prop:=λ x H Q=>∃ i,x=.int i/\Q (g i) H
section
variable {X:Cx}{a b c:Expr}{ta tb tc:TE}{pos:Pos}
def JQ (ha:PE X a ta) (hb:PE X b tb) {pins:List (Addr×Obj)}{s:Aj}{σ:St}{H:Hp}{R:V->V->Hp->Prop} (I:Inv X pins σ H s)
  (h:ta σ H λ x H1=>tb σ H1 λ y H2=>R x y H2) {Q:Ae->Aj->Prop}{f:Ae->Ae->Sem Ae}
  (hf:∀ v u s2 x y H2,Inv X pins σ H2 s2->RelV x v->RelV y u->R x y H2->Av (Au X.prog X.w) X.A (f v u) Q X.xe s2):
  Av (Au X.prog X.w) X.A (eval a X.env) (λ v s₁=>Av (Au X.prog X.w) X.A (eval b X.env) (λ u s₂=>Av (Au X.prog X.w) X.A (f v u) Q X.xe s₂) X.xe s₁) X.xe s:=by
 refine AG (ha pins s σ H _ I h) λ v s1 ⟨x,H1,I1,r1,q1⟩=>?_;refine AG (hb pins s1 σ H1 _ I1 q1) λ u s2 ⟨y,H2,I2,r2,q2⟩=>?_;exact hf v u s2 x y H2 I2 r1 r2 q2
def RO {op:Operator}{r:R2} (ho:OpR X (EO op) r) (ha:PE X a ta) (hb:PE X b tb):PE X (.BinOp a op b pos) (Jv r ta tb):=by
 intro pins s σ H Q I h;exact wpAny_BinOp (JQ ha hb I h λ v u s2 x y H2 I2 rx ry q=>ho pins s2 σ H2 x y v u Q I2 rx ry q)
def x4 {op:UnaryOp}{r:V->Hp->VK->Prop} (ho:Ug X (unaryOp op) r) (ha:PE X a ta):PE X (.UnaryOp op a pos) (Vm r ta):=by
 intro pins s σ H Q I h;exact UnaryOp_ (AG (ha pins s σ H _ I h) λ v s1 ⟨x,H1,I1,r1,q1⟩=>ho pins s1 σ H1 x v Q I1 r1 q1)
def Mt {f:Ae->Ae->Sem Ae}{C:Int->Int->Prop}{g:Int->Int->Int}
  (rule:∀ (i j:Int) (t u:Tok) (s:Aj) (Q:Ae->Aj->Prop) (E:Ae->Aj->Prop),C i j->Q (.int (g i j) s.toks) { s with toks:=s.toks + 1 }->Av (Au X.prog X.w) X.A (f (.int i t) (.int j u)) Q E s):
  OpR X f (rI C λ i j=>.int (g i j)):=by
 intro pins s σ H x y v u Q I rx ry h;obtain ⟨i,j,rfl,rfl,hc,q⟩:=h;obtain ⟨t,rfl⟩:=rx;obtain ⟨t',rfl⟩:=ry;exact rule i j t t' s _ _ hc ⟨.int (g i j),H,I.tok _,⟨_,rfl⟩,q⟩
def Ta {f:Ae->Ae->Sem Ae}{g:Int->Int->Int}
  (rule:∀ (i j:Int) (t u:Tok) (s:Aj) (Q:Ae->Aj->Prop) (E:Ae->Aj->Prop),Q (.int (g i j) s.toks) { s with toks:=s.toks + 1 }->Av (Au X.prog X.w) X.A (f (.int i t) (.int j u)) Q E s):
  OpR X f (FA λ i j=>.int (g i j)):=by
 intro pins s σ H x y v u Q I rx ry h;obtain ⟨i,j,rfl,rfl,q⟩:=h;obtain ⟨t,rfl⟩:=rx;obtain ⟨t',rfl⟩:=ry;exact rule i j t t' s _ _ ⟨.int (g i j),H,I.tok _,⟨_,rfl⟩,q⟩
def HH {f:Ae->Ae->Sem Ae}{g:Int->Int->Bool}
  (rule:∀ (i j:Int) (t u:Tok) (s:Aj) (Q:Ae->Aj->Prop) (E:Ae->Aj->Prop),Q (.bool (g i j)) s->Av (Au X.prog X.w) X.A (f (.int i t) (.int j u)) Q E s):
  OpR X f (FA λ i j=>.bl (g i j)):=by
 intro pins s σ H x y v u Q I rx ry h;obtain ⟨i,j,rfl,rfl,q⟩:=h;obtain ⟨t,rfl⟩:=rx;obtain ⟨t',rfl⟩:=ry;exact rule i j t t' s _ _ ⟨.bl (g i j),H,I,rfl,q⟩
def MW (i j:Int):Prop:=0<=j/\j<=1000000/\i.natAbs < 2 ^ 64
def CMul (i j:Int):Prop:=(-(2 ^ 64) < i/\i < 2 ^ 64)\/(-(2 ^ 64) < j/\j < 2 ^ 64)
def CMul.ok {i j:Int} (h:CMul i j):IntMulOk i j:=by
 rcases h with ⟨h1,h2⟩ | ⟨h1,h2⟩
 ·exact .of_left (intBits_le_64 h1 h2)
 ·exact .of_right (intBits_le_64 h1 h2)
def qrd:OpR X (EO .Add) (FA λ i j=>.int (i + j)):=Ta λ _ _ _ _ _ _ _ q=>add_int q
def qq1:OpR X (EO .Mult) (rI CMul λ i j=>.int (i * j)):=Mt λ _ _ _ _ _ _ _ hc q=>mul_int q hc.ok
def zF:OpR X (EO .Mod) (rI (λ _ j=>0 < j) λ i j=>.int (i % j)):=Mt λ i j _ _ _ _ _ hc q=>by
 have h1:(0:Int) < j:=hc;exact mod_int' (by omega) (by rw [Int.fmod_eq_emod_of_nonneg i (by omega)];exact q)
def zb:OpR X (EO .Pow) (rI MW λ i j=>.int (i ^ j.toNat)):=Mt λ _ _ _ _ _ _ _ hc q=>pow_int_small hc.1 hc.2.1 hc.2.2 q
def qk {f:Ae->Sem Ae}{g:Int->Int}
  (rule:∀ (i:Int) (t:Tok) (s:Aj) (Q:Ae->Aj->Prop) (E:Ae->Aj->Prop),Q (.int (g i) s.toks) { s with toks:=s.toks + 1 }->Av (Au X.prog X.w) X.A (f (.int i t)) Q E s):
  Ug X f (rU λ i=>.int (g i)):=by
 intro pins s σ H x v Q I rx h;obtain ⟨i,rfl,q⟩:=h;obtain ⟨t,rfl⟩:=rx;exact rule i t s _ _ ⟨.int (g i),H,I.tok _,⟨_,rfl⟩,q⟩
def jG:Ug X (unaryOp .USub) (rU λ i=>.int (-i)):=qk λ _ _ _ _ _ q=>neg_int q
end
def RB:V->V->Bool
 | .non,.non=>true | .non,.int _=>true | .int _,.non=>true | .non,.bl _=>true | .bl _,.non=>true | .non,.str _=>true | .str _,.non=>true
 | .int _,.int _=>true | .bl _,.bl _=>true | .str _,.str _=>true | .byt _,.byt _=>true
 | .int _,.str _=>true | .str _,.int _=>true | .bl _,.str _=>true | .str _,.bl _=>true
 | _,_=>false
def qp:R2:=λ x y H Q=>RB x y=true/\Q (.bl (decide (x=y))) H
def WH {i j:Int}:decide (V.int i=V.int j)=(i == j):=by
 rw [Gq];simp
def xk {i j:Bool}:decide (V.bl i=V.bl j)=(i == j):=by
 rw [Gq];simp
def jA {i j:Str}:decide (V.str i=V.str j)=(i == j):=by
 rw [Gq];simp
def j9 {i j:Array UInt8}:decide (V.byt i=V.byt j)=(i.toList == j.toList):=by
 rw [Gq];cases i;cases j;simp
section
variable {X:Cx}{a b c:Expr}{ta tb tc:TE}{pos:Pos}
def DN {pins:List (Addr×Obj)}{σ:St}{H:Hp}{s:Aj}{Q:VK}{k k':Bool} (I:Inv X pins σ H s) (q:Q (.bl k) H) (e:k=k'):EP X pins σ Q (.bool k') s:=by
 subst e;exact ⟨.bl k,H,I,rfl,q⟩
theorem xx:OpR X (Cy .Eq) qp:=by
 intro pins s σ H x y v u Q I rx ry h;obtain ⟨hs,q⟩:=h;cases x with
 | non=>
  cases rx;cases y with
  | non=>cases ry;exact PySem.EqNone.eq_none_none (DN I q (by simp))
  | bl j=>cases ry;exact PySem.EqNone.eq_none_bool (DN I q (by simp))
  | int j=>obtain ⟨t',rfl⟩:=ry;exact PySem.EqNone.eq_none_int (DN I q (by simp))
  | str j=>obtain ⟨t',rfl⟩:=ry;exact PySem.EqNone.eq_none_str (DN I q (by simp))
  | _=>exact absurd (show false=true from hs) CF
 | bl i=>
  cases rx;cases y with
  | non=>cases ry;exact PySem.EqNone.eq_bool_none (DN I q (by simp))
  | bl j=>cases ry;exact eq_bool (DN I q xk)
  | str j=>obtain ⟨t',rfl⟩:=ry;exact PySem.EqMixed.eq_bool_str (DN I q (by simp))
  | _=>exact absurd (show false=true from hs) CF
 | int i=>
  obtain ⟨t,rfl⟩:=rx;cases y with
  | non=>cases ry;exact PySem.EqNone.eq_int_none (DN I q (by simp))
  | int j=>obtain ⟨t',rfl⟩:=ry;exact eq_int (DN I q WH)
  | str j=>obtain ⟨t',rfl⟩:=ry;exact PySem.EqMixed.eq_int_str (DN I q (by simp))
  | _=>exact absurd (show false=true from hs) CF
 | str i=>
  obtain ⟨t,rfl⟩:=rx;cases y with
  | non=>cases ry;exact PySem.EqNone.eq_str_none (DN I q (by simp))
  | bl j=>cases ry;exact PySem.EqMixed.eq_str_bool (DN I q (by simp))
  | int j=>obtain ⟨t',rfl⟩:=ry;exact PySem.EqMixed.eq_str_int (DN I q (by simp))
  | str j=>obtain ⟨t',rfl⟩:=ry;exact eq_str (DN I q jA)
  | _=>exact absurd (show false=true from hs) CF
 | byt i=>
  obtain ⟨t,rfl⟩:=rx;cases y with
  | byt j=>obtain ⟨t',rfl⟩:=ry;exact PySem.W.eq_bytes (DN I q j9)
  | _=>exact absurd (show false=true from hs) CF
 | _=>cases y <;> exact absurd (show false=true from hs) CF
def VC:OpR X (Cy .Lt) (FA λ i j=>.bl (decide (i < j))):=HH λ _ _ _ _ _ _ _ q=>lt_int q
def VB:OpR X (Cy .LtE) (FA λ i j=>.bl (decide (i<=j))):=HH λ _ _ _ _ _ _ _ q=>le_int q
def VA:OpR X (Cy .Gt) (FA λ i j=>.bl (decide (j < i))):=HH λ _ _ _ _ _ _ _ q=>gt_int q
def V9:OpR X (Cy .GtE) (FA λ i j=>.bl (decide (j<=i))):=HH λ _ _ _ _ _ _ _ q=>ge_int q
def zE:OpR X (Cy .Is) (λ x y H Q=>y=.non/\Q (.bl (decide (x=.non))) H):=by
 intro pins s σ H x y v u Q I rx ry h;obtain ⟨rfl,q⟩:=h;cases ry;refine is_none_gen (DN I q ?_);cases x <;> first
  | (cases rx;rfl)
  | (obtain ⟨t,rfl⟩:=rx;rfl)
def kb:OpR X (Cy .IsNot) (λ x y H Q=>y=.non/\Q (.bl (!decide (x=.non))) H):=by
 intro pins s σ H x y v u Q I rx ry h;obtain ⟨rfl,q⟩:=h;cases ry;refine isnot_none_gen (DN I q ?_);cases x <;> first
  | (cases rx;rfl)
  | (obtain ⟨t,rfl⟩:=rx;rfl)
def OpR.or {f:Ae->Ae->Sem Ae}{r r':R2} (h:OpR X f r) (h':OpR X f r'):OpR X f (λ x y H Q=>r x y H Q\/r' x y H Q):=by
 intro pins s σ H x y v u Q I rx ry q;rcases q with q | q
 ·exact h pins s σ H x y v u Q I rx ry q
 ·exact h' pins s σ H x y v u Q I rx ry q
def kf {op:EB}{r:R2} (ho:OpR X (Cy op) r) (ha:PE X a ta) (hb:PE X b tb) (hm:Kx op b=false):PE X (.Compare a [op] [b] pos) (Jv r ta tb):=by
 intro pins s σ H Q I h;exact wpAny_Compare1 (JQ ha hb I h λ v u s2 x y H2 I2 rx ry q=>ho pins s2 σ H2 x y v u Q I2 rx ry q) hm
def VJ (t:TE):TT:=λ σ H Q=>t σ H λ x H'=>∃ k,x=.bl k/\Q k H'
def kS {op:EB}{r:R2} (ho:OpR X (Cy op) r) (ha:PE X a ta) (hb:PE X b tb) (hm:Kx op b=false):PT X (.Compare a [op] [b] pos) (VJ (Jv r ta tb)):=by
 intro pins s σ H Q I h;refine wpAny_isTrue_Compare1 (AG (ha pins s σ H _ I h) λ v s1 ⟨x,H1,I1,r1,q1⟩=>AG (hb pins s1 σ H1 _ I1 q1) λ u s2 ⟨y,H2,I2,r2,q2⟩=>
  AG (ho pins s2 σ H2 x y v u _ I2 r1 r2 q2) λ c s3 ⟨z,H3,I3,r3,k,e,q3⟩=>?_) hm
 subst e;cases r3;exact HE ⟨H3,I3,q3⟩
def Ss (r r':R2) (ta tb tc:TE):TE:=λ σ H Q=>ta σ H λ x H1=>tb σ H1 λ y H2=>r x y H2 λ z H3=>∃ k,z=.bl k /\
 (if k=true then tc σ H3 λ w' H4=>r' y w' H4 Q else Q (.bl false) H3)
theorem vX {op op':EB}{r r':R2} (ho:OpR X (Cy op) r) (ho':OpR X (Cy op') r') (ha:PE X a ta) (hb:PE X b tb) (hc:PE X c tc)
  (hm:lastMarks [op,op'] [b,c]=false:=by with_unfolding_all rfl):PE X (.Compare a [op,op'] [b,c] pos) (Ss r r' ta tb tc):=by
 intro pins s σ H Q I h;refine Compare_chain (AG (ha pins s σ H _ I h) λ v s1 ⟨x,H1,I1,r1,q1⟩=>chain_link (AG (hb pins s1 σ H1 _ I1 q1) λ u s2 ⟨y,H2,I2,r2,q2⟩=>
  AG (ho pins s2 σ H2 x y v u _ I2 r1 r2 q2) λ d s3 ⟨z,H3,I3,r3,k,e,q3⟩=>?_)) hm
 subst e;cases r3;refine HE ?_;cases k with
 | false=>exact ite_ff ⟨.bl false,H3,I3,rfl,q3⟩
 | true=>exact ite_tt (chain_last (AG (hc pins s3 σ H3 _ I3 q3) λ w' s4 ⟨z',H4,I4,r4,q4⟩=>ho' pins s4 σ H4 y z' u w' Q I4 r2 r4 q4))
theorem wX {op op':EB}{r r':R2} (ho:OpR X (Cy op) r) (ho':OpR X (Cy op') r') (ha:PE X a ta) (hb:PE X b tb) (hc:PE X c tc)
  (hm:lastMarks [op,op'] [b,c]=false:=by with_unfolding_all rfl):PT X (.Compare a [op,op'] [b,c] pos) (VJ (Ss r r' ta tb tc)):=by
 intro pins s σ H Q I h;refine isTrue_chain (AG (ha pins s σ H _ I h) λ v s1 ⟨x,H1,I1,r1,q1⟩=>test_link (AG (hb pins s1 σ H1 _ I1 q1) λ u s2 ⟨y,H2,I2,r2,q2⟩=>
  AG (ho pins s2 σ H2 x y v u _ I2 r1 r2 q2) λ d s3 ⟨z,H3,I3,r3,k,e,q3⟩=>?_)) hm
 subst e;cases r3;refine HE ?_;cases k with
 | false=>
  obtain ⟨k',e',q'⟩:=q3;cases e';exact ite_ff ⟨H3,I3,q'⟩
 | true=>
  refine ite_tt (test_last (AG (hc pins s3 σ H3 _ I3 q3) λ w' s4 ⟨z',H4,I4,r4,q4⟩=>AG (ho' pins s4 σ H4 y z' u w' _ I4 r2 r4 q4) λ d' s5 ⟨z2,H5,I5,r5,k2,e2,q5⟩=>?_));subst e2;cases r5;exact HE ⟨H5,I5,q5⟩
def Kk:(Aw:Nat) < 2 ^ 63:=by rw [Jm];decide
theorem Fw {x:V}{us:List Ae} (r:Vals [x] us):∃ u,us=[u]/\RelV x u:=by
 cases r with
 | cons r1 r2=>cases r2;exact ⟨_,rfl,r1⟩
theorem Ml {x y:V}{us:List Ae} (r:Vals [x,y] us):∃ u w',us=[u,w']/\RelV x u/\RelV y w':=by
 cases r with
 | cons r1 r2=>
  cases r2 with
  | cons r3 r4=>cases r4;exact ⟨_,_,rfl,r1,r3⟩
def yq (hc:X.calm=true):CallR X (.builtin "max") (λ xs H Q=>∃ i j,xs=[.int i,.int j]/\Q (.int (if j > i then j else i)) H):=by
 intro pins s σ H xs us Q I r h;obtain ⟨i,j,rfl,q⟩:=h;obtain ⟨u,w',rfl,⟨t,rfl⟩,⟨t',rfl⟩⟩:=Ml r;refine max_two_ints (I.ok.hd hc) λ h' tk k=>⟨_,H,I.kept k,?_,q⟩
 by_cases hj:j > i
 ·rw [if_pos hj,if_pos hj];exact ⟨_,rfl⟩
 ·rw [if_neg hj,if_neg hj];exact ⟨_,rfl⟩
def yt (hc:X.calm=true):CallR X (.builtin "min") (λ xs H Q=>∃ i j,xs=[.int i,.int j]/\Q (.int (if j < i then j else i)) H):=by
 intro pins s σ H xs us Q I r h;obtain ⟨i,j,rfl,q⟩:=h;obtain ⟨u,w',rfl,⟨t,rfl⟩,⟨t',rfl⟩⟩:=Ml r;refine min_two_ints (I.ok.hd hc) λ h' tk k=>⟨_,H,I.kept k,?_,q⟩
 by_cases hj:j < i
 ·rw [if_pos hj,if_pos hj];exact ⟨_,rfl⟩
 ·rw [if_neg hj,if_neg hj];exact ⟨_,rfl⟩
end
structure ObjM (h:Heap) (x dx C:Addr) (mA:Str->Option Ae):Prop where
 obj:h.get? x=some (Rf C dx)
 ns:h.Ns1 dx mA
 ne:dx≠x
def y8 {h:Heap}{dx:Addr}{mA:Str->Option Ae} (n:h.Ns1 dx mA):∃ od,h.get? dx=some od/\∀ name,QU name od=some (mA name):=by
 obtain ⟨o,es,ep,ho,hd,hk,_,hm⟩:=n;refine ⟨o,ho,λ name=>?_⟩;have e:=hm name;unfold nsFind findBy at e;rw [<- Array.find?_toList] at e;unfold QU;rw [hd];dsimp only;split
 ·rename_i y q;rw [q] at e;exact congrArg some e
 ·rename_i q;rw [q] at e;have a:es.toList.any (·.refKey)=false:=by
   rw [List.any_eq_false];intro y hy;obtain ⟨z,t,hkey⟩:=hk y (Array.mem_toList_iff.mp hy);simp [DictEntry.refKey,hkey]
  have a':¬ es.toList.any (·.refKey)=true:=by rw [a];exact CF
  rw [if_neg a'];exact congrArg some e
def ObjM.look {h:Heap}{x dx C:Addr}{mA:Str->Option Ae} (I:ObjM h x dx C mA):∃ od,PySem.W.InstAt h x (Rf C dx) C (some od)/\∀ name,QU name od=some (mA name):=
 let ⟨od,ho,hl⟩:=y8 I.ns
 ⟨od,⟨I.obj,rfl,rfl,ho⟩,hl⟩
section
variable {prog:AF}{w:AB}{A:AZ}{E:Ae->Aj->Prop}{s:Aj}{K:PySem.W.Frag}{x dx C f:Addr}{mA:Str->Option Ae}{name:Str}{v:Ae}
end
section
variable {P:AF}{w:AB}{H H':Hp}{h h':Heap}{a C dx:Addr}{fs fs':List (Str×V)}
def jR (hok:HOk P w H h) (e:H a=some (.ins C dx fs)):∃ mA,ObjM h a dx C mA/\(∀ f,RelO (fs.lookup f) (mA f))/\PySem.Within mA (fs.map (·.1))/\fs.length<=1000/\H dx=some (.own a):=by
 obtain ⟨d,z,ne,ob,mA,n,r,q⟩:=(show zwo P w H h a (.ins C dx fs) from hok a _ e)
 exact ⟨mA,⟨ob,n,ne⟩,r,q,z,d⟩
end
structure Cls (K:PySem.W.Frag) (C:Addr):Prop where
 pg:PySem.W.plainGet K C LA=true
 hd:PySem.W.hasDictIn K C=true
 po:PySem.W.plainOver K C=true
 sa:Ey K (.ref C) "__setattr__" = some (some (.builtin "object.__setattr__"))
def Cls.get {K:PySem.W.Frag}{C:Addr} (c:Cls K C) (f:Str):PySem.W.plainGet K C f=true:=c.pg
structure Con (K:PySem.W.Frag) (C:Addr) (f:Str) (v:V) (u:Ae):Prop where
 at_:Ey K (.ref C) f=some (some u)
 rel:RelV v u
 get:PySem.W.specialIn K u "__get__" = some none
 cp:PySem.W.copiedNames.contains f=false
structure Meth (K:PySem.W.Frag) (C:Addr) (m:Str) (f:Addr):Prop where
 at_:Ey K (.ref C) m=some (some (.ref f))
 fn:PySem.W.isFn K (.ref f)=true
 kp:Jp K (.ref f)=true
section
variable {X:Cx}{pins:List (Addr×Obj)}{σ:St}{H:Hp}{s:Aj}{a C dx:Addr}{fs:List (Str×V)}{f:Str}{v:V}{A:AZ}{E:Ae->Aj->Prop}
end
section
variable {X:Cx}{o e value:Expr}{f:Str}{pos pos' tpos:Pos}{ta tv:TE}
end
section
variable {X:Cx}{pins:List (Addr×Obj)}{σ:St}{H:Hp}{s:Aj}{A:AZ}{E:Ae->Aj->Prop}{Q:Ae->Aj->Prop}{c:Ae}{b:Bool}
inductive TyOf (K:PySem.W.Frag) (H:Hp):V->Ae->Prop where
 | non:TyOf K H .non (.type "NoneType")
 | bl (x:Bool):TyOf K H (.bl x) (.type "bool")
 | int (i:Int):TyOf K H (.int i) (.type "int")
 | str (x:Str):TyOf K H (.str x) (.type "str")
 | flt (x:UInt64):TyOf K H (.flt x) (.type "float")
 | lst {a:Addr}{xs:List V} (e:H a=some (.lst xs)):TyOf K H (.ref a) (.type "list")
 | frz {a:Addr}{o:Obj}{xs:List V} (e:H a=some (.frz o (.lst xs))):TyOf K H (.ref a) (.type "list")
 | tup {a:Addr}{xs:List V} (e:H a=some (.tup xs)):TyOf K H (.ref a) (.type "tuple")
 | dK {a:Addr}{kvs:List (Be×V)} (e:H a=some (.dK kvs)):TyOf K H (.ref a) (.type "dict")
 | dT {a:Addr}{kvs:List (List Be×V)} (e:H a=some (.dT kvs)):TyOf K H (.ref a) (.type "dict")
 | ins {a C dx:Addr}{fs:List (Str×V)} (e:H a=some (.ins C dx fs)) (cl:Cls K C) (ha:Ey K (.ref C) "__class__" = some (some (.builtin "object.__class__")))
   (hn:PySem.W.specialIn K (.builtin "object.__class__") "__get__" = some (some (.builtin "getset_descriptor.__get__"))) (htk:PySem.W.takesIn K (.builtin "object.__class__")=some true)
   (hm:Hc K C (.type "object")=some true):TyOf K H (.ref a) (.ref C)
theorem yx {x:V}{u t:Ae} (I:Inv X pins σ H s) (rx:RelV x u) (ty:TyOf X.K H x t) (e:ER X.K t c=some b) (h:∀ tk,Q (.bool b) { s with toks:=tk }):
  Av (Au X.prog X.w) A (call (.builtin "isinstance") [u,c]) Q E s:=by
 cases ty with
 | non=>cases (show u=Value.none from rx);exact ES Rn I.kIn True.intro e (λ z=>nomatch z) h
 | bl y=>cases (show u=Value.bool y from rx);exact ES PySem.W.kitx_bool I.kIn True.intro e (λ z=>nomatch z) h
 | int i=>obtain ⟨t,q⟩:=(show ∃ t,u=Value.int i t from rx);cases q;exact ES PySem.W.kitx_int I.kIn True.intro e (λ z=>nomatch z) h
 | str y=>obtain ⟨t,q⟩:=(show ∃ t,u=Value.str y t from rx);cases q;exact ES PySem.W.kitx_str I.kIn True.intro e (λ z=>nomatch z) h
 | flt y=>obtain ⟨t,q⟩:=(show ∃ t,u=Value.float y t from rx);cases q;exact ES PySem.W.kitx_float I.kIn True.intro e (λ z=>nomatch z) h
 | @lst a xs ea=>
  cases (show u=Value.ref a from rx);obtain ⟨_,_,n,_,h1⟩:=(show zwo X.prog X.w H s.heap a (.lst xs) from I.hok a _ ea)
  exact ES PySem.W.kitx_list I.kIn ⟨_,h1,rfl⟩ e (λ z=>nomatch z) h
 | @frz a ob xs ea=>
  cases (show u=Value.ref a from rx);obtain ⟨_,_,_,n,_,h1⟩:=(show zwo X.prog X.w H s.heap a (.frz ob (.lst xs)) from I.hok a _ ea)
  exact ES PySem.W.kitx_list I.kIn ⟨_,h1,rfl⟩ e (λ z=>nomatch z) h
 | @tup a xs ea=>
  cases (show u=Value.ref a from rx);obtain ⟨_,_,_,p⟩:=(show zwo X.prog X.w H s.heap a (.tup xs) from I.hok a _ ea)
  obtain ⟨o,h1,h2,_⟩:=p;exact ES PySem.W.kitx_tuple I.kIn ⟨o,h1,h2⟩ e (λ z=>nomatch z) h
 | @dK a kvs ea=>
  cases (show u=Value.ref a from rx);obtain ⟨_,_,vs,_,p⟩:=(show zwo X.prog X.w H s.heap a (.dK kvs) from I.hok a _ ea)
  obtain ⟨o,es,ep,h1,h2,_⟩:=p;exact ES PySem.W.kitx_dict I.kIn ⟨o,h1,h2.1⟩ e (λ z=>nomatch z) h
 | @dT a kvs ea=>
  cases (show u=Value.ref a from rx);obtain ⟨_,_,xs,_,o,es,ep,h1,h2,_⟩:=(show zwo X.prog X.w H s.heap a (.dT kvs) from I.hok a _ ea)
  exact ES PySem.W.kitx_dict I.kIn ⟨o,h1,h2.1⟩ e (λ z=>nomatch z) h
 | @ins a C dx fs ea cl ha hn htk hm=>
  cases (show u=Value.ref a from rx);obtain ⟨mA,O,_⟩:=jR I.hok ea;obtain ⟨od,J,_⟩:=O.look;exact ES (PySem.W.kitx_own (cl.get _) cl.hd ha hn htk hm) I.kIn J e (λ z=>nomatch z) h
end
structure Room (k:Nat) (A:AZ):Prop where
 hd:A.handled=none
 dp:A.depth + 3 * k + 5 < recursionLimit
 un:A.units + 16 * k + 200 < Cj
 gd:A.guards=some []
def Room.mono {j k:Nat}{A:AZ} (r:Room k A) (h:j<=k):Room j A:=⟨r.hd,by have:=r.dp;omega,by have:=r.un;omega,r.gd⟩
def Room.deeper {k:Nat}{A:AZ} (r:Room (k + 1) A) (env:Env):Room k (A.deeper env):=
 ⟨r.hd,by have:=r.dp;show A.depth + 1 + 3 * k + 5 < _;omega,by have:=r.un;show A.units + 3 + 16 * k + 200 < _;omega,r.gd⟩
def Room.depth {k:Nat}{A:AZ} (r:Room k A):A.depth < recursionLimit:=by have:=r.dp;omega
def Room.units {k:Nat}{A:AZ} (r:Room k A):A.units + 64 < Cj:=by have:=r.un;omega
def Ga:TA:=λ _ H Q=>Q [] H
def Mh (ta:TE) (tr:TA):TA:=λ σ H Q=>ta σ H λ x H1=>tr σ H1 λ xs H2=>Q (x::xs) H2
section
variable {X:Cx}{e:Expr}{es:List Expr}{te:TE}{t:TA}{pos:Pos}
def FL:PA X [] Ga:=λ _ _ _ _ H Q I h=>Calls.spliced_nil ⟨[],H,I,.nil,h⟩
def Et (ha:PE X e te) (hr:PA X es t) (hs:AH (e::es) X.env=(false,eval e X.env)::AH es X.env:=by rfl):PA X (e::es) (Mh te t):=by
 intro pos pins s σ H Q I h;rw [hs];show Av _ _ (spliced ((false,eval e X.env)::Dk pos (AH es X.env))) _ _ s;refine Calls.spliced_cons (AG (ha pins s σ H _ I h) λ u s1 ⟨x,H1,I1,r1,q1⟩=>?_);exact AG (hr pos pins s1 σ H1 _ I1 q1) λ us s2 ⟨xs,H2,I2,r2,q2⟩=>⟨x::xs,H2,I2,.cons r1 r2,q2⟩
def R5 (t:TA):TE:=λ σ H Q=>t σ H λ xs H1=>xs.length<=Aw/\∀ p,H1 p=none->Q (.ref p) (Aq H1 p (.tup xs))
def R7 (t:TA):TE:=λ σ H Q=>t σ H λ xs H1=>xs.length<=Aw/\∀ p,H1 p=none->Q (.ref p) (Aq H1 p (.lst xs))
def Wz {x1} (h:PA X es t):PE X (.Tuple es x1 pos) (R5 t):=by
 intro pins s σ H Q I hq;refine wpAny_Tuple_spliced (AG (h pos pins s σ H _ I hq) λ us s1 ⟨xs,H1,I1,r,z,q⟩=>⟨by rw [<- r.length];exact z,?_⟩);have hf:H1 s1.heap.objs.size=none:=I1.hok.fresh (Bj _);refine ⟨.ref s1.heap.objs.size,Aq H1 s1.heap.objs.size (.tup xs),I1.laid (t':=s1.toks) (λ b u e=>CM _ e) (Bj _) ?_,rfl,q _ hf⟩;exact ⟨z,us,r,⟨_,Dx _ rfl,rfl,_,rfl⟩⟩
def Wl (h:PA X es t):PE X (.List es pos) (R7 t):=by
 intro pins s σ H Q I hq;refine wpAny_List_spliced (AG (h pos pins s σ H _ I hq) λ us s1 ⟨xs,H1,I1,r,z,q⟩=>⟨by rw [<- r.length];exact z,?_⟩);have hf:H1 s1.heap.objs.size=none:=I1.hok.fresh (Bj _);refine ⟨.ref s1.heap.objs.size,Aq H1 s1.heap.objs.size (.lst xs),I1.laid (t':=s1.toks) (λ b u e=>CM _ e) (Bj _) ?_,rfl,q _ hf⟩;exact ⟨z,us,0,r,Dx _ rfl⟩
end
abbrev Sp:=List V->Hp->VK->XK->Prop
abbrev FH:=List Env->Hp->Aj->XK->Ae->Aj->Prop
structure Env0 (P:AF) (w:AB) (K:PySem.W.Frag) (mg:Str->Option Ae) (base:Heap) (A:AZ) (outer:List Env) (s:Aj) (H:Hp):Prop where
 frames:A.frames=some outer
 mod:Mod K mg base
 bs:∀ b o,base.get? b=some o->s.heap.get? b=some o/\H b=none
 bsz:base.objs.size<=s.heap.objs.size
 funs:s.heap.FunFrames base outer
 frf:∀ b∈CG outer,H b=none
 hok:HOk P w H s.heap
 bare:Fy s.gens
def CE (outer:List Env) (P:AF) (w:AB) (H:Hp) (s:Aj) (Q:VK) (u:Ae) (s':Aj):Prop:=
 ∃ v H',s'.os=s.os/\Fy s'.gens/\Un (CG outer) [] H H' s.heap s'.heap/\HOk P w H' s'.heap/\RelV v u/\Q v H'
def CR (CX:FH) (outer:List Env) (P:AF) (w:AB) (H:Hp) (s:Aj) (Q:VK) (E:XK) (r:Result) (s':Aj):Prop:=
 match r with
 | .ok (.ret u)=>CE outer P w H s Q u s'
 | .ok _=>False
 | .error e=>CX outer H s E e s'
structure FnOk (P:AF) (w:AB) (K:PySem.W.Frag) (mg:Str->Option Ae) (base:Heap) (CX:FH) (k:Nat) (f:Addr) (fd:Dv) (ps:List Str) (sp:Sp):Prop where
 len:∀ vs H Q E,sp vs H Q E->vs.length=ps.length
 run:∀ (A:AZ) (outer:List Env) (s:Aj) (H:Hp) (args:Args) (us:List Ae) (vs:List V) (Q:VK) (E:XK),Room k A->Env0 P w K mg base A outer s H->BindsTo s fd args (ps.zip us)->Vals vs us->sp vs H Q E ->
  Iy (Au P w) A (.call (.ref f) args) (CR CX outer P w H s Q E) s
def FnOk.mono {P:AF}{w:AB}{K:PySem.W.Frag}{mg:Str->Option Ae}{base:Heap}{CX:FH}{j k:Nat}{f:Addr}{fd:Dv}{ps:List Str}{sp:Sp} (F:FnOk P w K mg base CX j f fd ps sp) (h:j<=k):
  FnOk P w K mg base CX k f fd ps sp:=⟨F.len,λ A outer s H args us vs Q E hr=>F.run A outer s H args us vs Q E (hr.mono h)⟩
section
variable {X:Cx}{pins:List (Addr×Obj)}{σ:St}{H:Hp}{s s':Aj}
def Inv.env0 (I:Inv X pins σ H s):Env0 X.prog X.w X.K X.mg X.base X.A X.stack s H:=
 ⟨I.ok.frames,I.ok.mod,I.bs,AW I.ok.bsz I.sz,I.stack,I.stkFree,I.hok,I.bare⟩
def Inv.after {Q:VK}{u:Ae} (I:Inv X pins σ H s) (h:CE X.stack X.prog X.w H s Q u s'):EP X pins σ Q u s':=by
 obtain ⟨v,H',os,bare,un,hok,r,q⟩:=h;obtain ⟨hh,g,d,t,os'⟩:=s';obtain rfl:os'=s.os:=os;exact ⟨v,H',I.call (h':=hh) (g':=g) (d':=d) (t':=t) (ch:=[]) un hok bare (λ b z=>absurd z (by simp)),r,q⟩
end
def qap (K:PySem.W.Frag) (fd:Dv) (ps:List Str) (ds:List Ae):Prop:=
 ∀ (s:Aj) (us:List Ae),K.In s.heap->(us++ds).length=ps.length->BindsTo s fd ⟨us,[]⟩ (ps.zip (us++ds))
def qap.all {K:PySem.W.Frag}{fd:Dv}{ps:List Str} (h:∀ us:List Ae,us.length=ps.length->bindArgs fd ⟨us,[]⟩=pure (ps.zip us)):qap K fd ps []:=λ s us _ hl=>by
 rw [KH] at hl ⊢;exact .of_eq (h us hl)
section
variable {X:Cx}{CX:FH}{k:Nat}{f C:Addr}{fd:Dv}{ps:List Str}{sp:Sp}{dvs:List V}{ds:List Ae}{E:XK}{x m:Str}{p pos apos:Pos}{e o:Expr}{es:List Expr}{ta:TE}{t:TA}
structure Mk (K:PySem.W.Frag) (C f:Addr):Prop where
 makes:PySem.W.makesIn K C=true
 init:Ey K (.ref C) "__init__" = some (some (.ref f))
 fn:PySem.W.isFn K (.ref f)=true
 kp:Jp K (.ref C)=true
end
section
variable {X:Cx}{CX:FH}{k:Nat}{f C:Addr}{fd:Dv}{ps ks:List Str}{sp:Sp}{E:XK}{x m:Str}{p pos apos kpos:Pos}{e o:Expr}{es:List Expr}{kws:List Jk}{te ta:TE}{t tk:TA}{nm:Option Str}
structure KBinds (K:PySem.W.Frag) (fd:Dv) (ps ks:List Str) (g:List Ae->List Ae->List Ae) (gV:List V->List V->List V):Prop where
 to:∀ (s:Aj) (us ws:List Ae),K.In s.heap->(g us ws).length=ps.length->BindsTo s fd ⟨us,ks.zip ws⟩ (ps.zip (g us ws))
 rel:∀ {vs:List V}{us:List Ae}{zs:List V}{ws:List Ae},Vals vs us->Vals zs ws->Vals (gV vs zs) (g us ws)
variable {g:List Ae->List Ae->List Ae}{gV:List V->List V->List V}
end
structure FnScope (N P:List Str) (sc:BA):Prop where
 kind:sc.kind=.function:=by rfl
 co:sc.isCoroutine=false:=by rfl
 gen:sc.isGenerator=false:=by rfl
 nd:N.Nodup:=by decide +kernel
 pre:N.take P.length=P:=by rfl
 par:∀ x∈P,sc.names.lookup x=some .local\/sc.names.lookup x=some .cell:=by decide +kernel
 nofree:∀ y∈sc.names,y.2≠.free:=by decide +kernel
theorem YA {kindOf:Str->Option D6}{x:Str}:∀ {binds:List (Str×Ae)}{m:Str->Option Ae},(∀ v,(x,v)∉binds)->bindL kindOf binds m x=m x
 | [],_,_=>rfl
 | (n,v)::r,m,h=>by
  unfold bindL;rw [YA λ w hw=>h w (AO _ hw)];split
  ·have:x≠n:=by rintro rfl;exact h v AR
   simp [this]
  ·rfl
theorem Y8 {kindOf:Str->Option D6}{x:Str}:∀ {binds:List (Str×Ae)}{m:Str->Option Ae},(∀ v,(x,v)∉binds)->bindC kindOf binds m x=m x
 | [],_,_=>rfl
 | (n,v)::r,m,h=>by
  unfold bindC;rw [Y8 λ w hw=>h w (AO _ hw)];split
  ·rfl
  ·have:x≠n:=by rintro rfl;exact h v AR
   simp [this]
theorem Y9 {kindOf:Str->Option D6}{x:Str}{v:Ae}:∀ {P:List Str}{vs:List Ae}{i:Nat}{m:Str->Option Ae},P.Nodup->P[i]?=some x->vs[i]?=some v->kindOf x=some .local ->
  bindL kindOf (P.zip vs) m x=some v
 | [],_,_,_,_,h,_,_=>by simp at h
 | _::_,[],_,_,_,_,h,_=>by simp at h
 | p::P,w::vs,0,m,nd,h1,h2,hk=>by
  simp at h1 h2;subst h1;subst h2;show bindL kindOf ((p,w)::P.zip vs) m p=_;unfold bindL;rw [YA λ v hv=>(jh2.mp nd).1 (T2 hv).1,if_pos hk];simp
 | p::P,w::vs,i + 1,m,nd,h1,h2,hk=>by
  show bindL kindOf ((p,w)::P.zip vs) m x=_;unfold bindL;exact Y9 (i:=i) (jh2.mp nd).2 (by simpa using h1) (by simpa using h2) hk
theorem Y7 {kindOf:Str->Option D6}{x:Str}{v:Ae}:∀ {P:List Str}{vs:List Ae}{i:Nat}{m:Str->Option Ae},P.Nodup->P[i]?=some x->vs[i]?=some v->kindOf x≠some .local ->
  bindC kindOf (P.zip vs) m x=some v
 | [],_,_,_,_,h,_,_=>by simp at h
 | _::_,[],_,_,_,_,h,_=>by simp at h
 | p::P,w::vs,0,m,nd,h1,h2,hk=>by
  simp at h1 h2;subst h1;subst h2;show bindC kindOf ((p,w)::P.zip vs) m p=_;unfold bindC;rw [Y8 λ v hv=>(jh2.mp nd).1 (T2 hv).1,if_neg hk];simp
 | p::P,w::vs,i + 1,m,nd,h1,h2,hk=>by
  show bindC kindOf ((p,w)::P.zip vs) m x=_;unfold bindC;exact Y7 (i:=i) (jh2.mp nd).2 (by simpa using h1) (by simpa using h2) hk
def start (N:List Str) (vs:List V):St:=vs.map some++Bo (N.length - vs.length) none
def Ce (CX:FH) (P:AF) (w:AB) (K:PySem.W.Frag) (mg:Str->Option Ae) (base:Heap) (N:List Str) (qual:Str) (scope:BA) (f:Addr) (cd:Ae) (A:AZ) (outer:List Env) (s:Aj) (H:Hp) (E:XK):Cx where
 prog:=P
 w:=w
 K:=K
 mg:=mg
 base:=base
 A:=A.deeper (HC qual scope s.heap.objs.size f cd)
 N:=N
 s₀:=s
 H₀:=H
 env:=HC qual scope s.heap.objs.size f cd
 outer:=outer
 stack:=HC qual scope s.heap.objs.size f cd::outer
 ex:=[]
 calm:=true
 fn:=λ _=>true
 pn:=[]
 xe:=λ e s'=>Av (Au P w) (A.deeper (HC qual scope s.heap.objs.size f cd)) (leaving (HC qual scope s.heap.objs.size f cd) e) (λ _ s''=>CX outer H s E e s'') (λ e' s''=>CX outer H s E e' s'') s'
def XE {sc:BA}{n:Nat}{x:Str} (h:sc.names.lookup x=some .cell):∃ c,(Dw n sc.names []).lookup x=some c:=by
 have q:=PySem.W.cellsFrom_some sc.names n [] (.inl h);exact jm4.mp q
def yv {CX:FH}{P:AF}{w:AB}{K:PySem.W.Frag}{mg:Str->Option Ae}{base:Heap}{N ps:List Str}{qual:Str}{scope:BA}{f:Addr}{cd:Ae}{A:AZ}{outer:List Env}{s s1:Aj}{H:Hp}{E:XK}{us:List Ae}{vs:List V}
  (S:FnScope N ps scope) (hd:A.handled=none) (e0:Env0 P w K mg base A outer s H) (hl:vs.length=ps.length) (r:Vals vs us)
  (x:InCallC s s.heap.objs.size (bindL (HC qual scope s.heap.objs.size f cd).kindOf (ps.zip us) λ _=>none) (Dw (s.heap.objs.size + 1) scope.names []) (bindC (HC qual scope s.heap.objs.size f cd).kindOf (ps.zip us) λ _=>none) s1):
  Inv (Ce CX P w K mg base N qual scope f cd A outer s H E) [] (start N vs) H s1:=by
 have hpl:ps.length<=N.length:=by have:=congrArg YI S.pre;rw [FE] at this;omega
 obtain ⟨h1,tk,rfl,hk⟩:=x.done;have noA:∀ b:Addr,b∉(Ce CX P w K mg base N qual scope f cd A outer s H E).ex:=λ b z=>absurd (show b∈([]:List Addr) from z) (by simp);refine ⟨⟨e0.mod,S.kind,rfl,rfl,Bj _,λ y z c h1 h2=>?_,λ y hy=>?_,λ y c _ h=>?_,λ _=>hd,Around.frames_deeper e0.frames,.inr ⟨rfl,rfl⟩,λ b z=>absurd z (noA b),e0.bs,e0.bsz,λ b _ _=>noA b,λ b z=>absurd z (noA b),e0.funs,e0.frf⟩,
  rfl,e0.bare,Un.kept hk,⟨_,x.toInCall.ns,λ i y v h1 h2 h3=>?_⟩,λ y c h=>⟨_,x.cell y c h⟩,e0.hok.fresh (Bj _),λ y c h=>?_,λ p hp=>absurd (show p∈([]:List (Addr×Obj)) from hp) (by simp),e0.hok.kept hk,?_⟩
 ·exact name_of_addr x.apart (LM h1) (LM h2)
 ·have hy:scope.names.lookup y=some .cell\/scope.names.lookup y=some .free:=hy;rcases hy with hy | hy
  ·exact XE hy
  ·exact absurd rfl (S.nofree _ (LM hy))
 ·exact M3 (x.above y c (LM h))
 ·have hi:i < vs.length:=by
   unfold start at h2;by_cases hi:i < vs.length
   ·exact hi
   ·rw [HL (by simpa using hi)] at h2;rw [IM] at h2;split at h2 <;> cases h2
  have ha:vs[i]?=some v:=by
   unfold start at h2;rw [DJ (by simpa using hi),CV] at h2;cases e:vs[i]? with
   | none=>rw [e] at h2;cases h2
   | some a=>rw [e] at h2;cases h2;rfl
  obtain ⟨u,hu,rv⟩:=r.get ha;have hp:ps[i]?=some y:=by
   rw [<- S.pre,MD (by omega)];exact h1
  have ndP:ps.Nodup:=by rw [<- S.pre];exact S.nd.sublist (List.take_sublist _ _)
  refine ⟨u,rv,?_⟩;rcases S.par y (List.mem_of_getElem? hp) with k | k
  ·exact .inl ⟨k,Y9 ndP hp hu k⟩
  ·obtain ⟨c,e⟩:=XE (n:=s.heap.objs.size + 1) k;refine .inr ⟨.inl k,c,e,?_⟩;have q:=x.cell y c e;rw [Y7 ndP hp hu (by show scope.names.lookup y≠_;rw [k];decide)] at q;exact q
 ·exact e0.hok.fresh (M3 (x.above y c (LM h)))
 ·unfold start;show _=N.length;rw [BQ,AD,JI];omega
theorem qK {CX:FH}{P:AF}{w:AB}{K:PySem.W.Frag}{mg:Str->Option Ae}{base:Heap}{k:Nat}{f:Addr}{name qual:Str}{params:Arguments}{body:List Stmt}{scope:BA}{dV kV doc pm cdv ct oc:Ae}{an od:Option Addr}
  {osl:Array (Option Ae)}{N ps:List Str}{sp:Sp} (lk:K.lookup f=some ⟨oc,od,.func (Kw name qual params body scope dV kV doc pm an cdv ct),osl⟩) (hcd:QT K cdv qual=true) (S:FnScope N ps scope)
  (len:∀ vs H Q E,sp vs H Q E->vs.length=ps.length)
  (hbody:∀ (A:AZ) (outer:List Env) (s:Aj) (H:Hp) (vs:List V) (Q:VK) (E:XK),Room k (A.deeper (HC qual scope s.heap.objs.size f cdv))->sp vs H Q E ->
   ∃ t,E5 (Ce CX P w K mg base N qual scope f cdv A outer s H E) body t/\t { nx:=λ _ H'=>Q .non H',rt:=Q } (start N vs) H):
  FnOk P w K mg base CX (k + 1) f (Kw name qual params body scope dV kV doc pm an cdv ct) ps sp:=by
 refine ⟨len,λ A outer s H args us vs Q E hr e0 hb r hsp=>?_⟩;have hl:=len _ _ _ _ hsp;have KX:K.In s.heap:=e0.mod.kin.keeps λ b o e=>(e0.bs b o e).1;have lim:s.heap.NoLimit:=e0.mod.nolimit.keeps λ b o e=>(e0.bs b o e).1;have hkind:∀ y∈ps.zip us,scope.names.lookup y.1=some .local\/(scope.names.lookup y.1=some .cell/\((Dw (s.heap.objs.size + 1) scope.names []).lookup y.1).isSome=true):=λ ⟨n,v⟩ hy=>by
  rcases S.par n (T2 hy).1 with q | q
  ·exact .inl q
  ·exact .inr ⟨q,PySem.W.cellsFrom_some _ _ _ (.inl q)⟩
 refine codeAny_call_function hr.depth (KX _ _ lk) rfl S.co S.gen rfl (PySem.W.codeRec_of KX hcd) (hb _ _ _ _ ?_);refine wpAny_newFunctionEnv_cells S.kind hkind λ env he s1 x=>?_;subst he;refine ⟨lim.keeps x.toInCall.keep,codeAny_func ?_⟩;obtain ⟨t,ht,hq⟩:=hbody A outer s H vs Q E (hr.deeper _) hsp;have I:Inv (Ce CX P w K mg base N qual scope f cdv A outer s H E) [] (start N vs) H s1:=yv S hr.hd e0 hl r x;refine DH (ht [] s1 (start N vs) H _ I hq) (λ fl s' hs=>?_) λ e s' hs=>hs;have fin:∀ {σ':St}{H':Hp}{v:V}{u:Ae},Inv (Ce CX P w K mg base N qual scope f cdv A outer s H E) [] σ' H' s'->RelV v u->Q v H'->CE outer P w H s Q u s':=
  λ {σ' H' v u} J rv q=>⟨v,H',J.os,J.bare,J.base,J.hok,rv,q⟩
 cases fl with
 | ret u=>
  obtain ⟨v,σ',H',J,rv,q⟩:=hs;exact fin J rv q
 | next=>
  obtain ⟨σ',H',J,q⟩:=hs;exact fin (v:=V.non) (u:=Value.none) J rfl q
 | brk=>
  obtain ⟨_,_,_,q⟩:=hs;exact GZ q
 | cont=>
  obtain ⟨_,_,_,q⟩:=hs;exact GZ q
section
variable {X:Cx}{x:Str}{p pos:Pos}{e:Expr}{es:List Expr}{t:TA}{id T:String}{r:List V->Hp->VK->Prop}
def RA (r:List V->Hp->VK->Prop) (t:TA):TE:=λ σ H Q=>t σ H λ vs H1=>r vs H1 Q
def Ih (hc:CallR X (.builtin id) r) (hg:Gl X x) (hm:X.mg x=none) (hv:Jo x=some (.builtin id)) (ha:PA X (e::es) t) (hn:x ≠ "__name__" := by decide) (hdb:(x == ("__debug__" : Str))=false:=by decide)
  (he:AH (e::es) X.env=(false,eval e X.env)::AH es X.env:=by rfl) (hpl:(Dk pos (AH es X.env)).any (·.1)=false:=by rfl):PE X (.Call (.Name x p) (e::es) [] pos) (RA r t):=by
 intro pins s σ H Q I h;refine Rr (Kj I hg hm hv ?_ hn hdb);exact PyProof.Rows.callWith_builtin1 (AG (ha pos pins s σ H _ I h) λ us s1 ⟨vs,H1,I1,r1,q1⟩=>hc pins s1 σ H1 vs us Q I1 r1 q1) he hpl
def QN (hc:CallR X (.type T) r) (hg:Gl X x) (hm:X.mg x=none) (hv:Jo x=some (.type T)) (ha:PA X (e::es) t) (hn:x ≠ "__name__" := by decide) (hdb:(x == ("__debug__" : Str))=false:=by decide)
  (he:AH (e::es) X.env=(false,eval e X.env)::AH es X.env:=by rfl) (hpl:(Dk pos (AH es X.env)).any (·.1)=false:=by rfl):PE X (.Call (.Name x p) (e::es) [] pos) (RA r t):=by
 intro pins s σ H Q I h;refine Rr (Kj I hg hm hv ?_ hn hdb);exact Oa (AG (ha pos pins s σ H _ I h) λ us s1 ⟨vs,H1,I1,r1,q1⟩=>hc pins s1 σ H1 vs us Q I1 r1 q1) he hpl
end
end L2
namespace HT
open PySem PyProof.Rows
section
open PySem.SeqAt
open PySem.AutoSeq1 (wpAny_loadPart')
open PySem.MeetsSeq PySem.MeetsSeq2 PySem.MeetsSeq3
end
section
variable {prog:AF}{w:AB}{A:AZ}{E:Ae->Aj->Prop}{s:Aj}
def cat_tup {t b:Addr}{vs ws:List Ae}{Q:Ae->Aj->Prop} (ht:IsTup s.heap t vs.toArray) (hb:IsTup s.heap b ws.toArray) (hv:vs≠[])
  (h1:ws=[]->Q (.ref t) s) (h2:ws≠[]->Q (.ref s.heap.objs.size) { s with heap:=s.heap.push { cls:=.type "tuple",data:=.seq (vs++ws).toArray } })
  (hsz:vs.length + ws.length<=Aw):Av (Au prog w) A (EO .Add (.ref t) (.ref b)) Q E s:=by
 obtain ⟨⟨cls,dd,data,sl⟩,ho,hc,n,hd⟩:=id ht;obtain ⟨⟨cls2,dd2,data2,sl2⟩,ho2,hc2,n2,hd2⟩:=id hb;simp only at hc hd hc2 hd2;subst hc hd hc2 hd2;have e:vs.toArray++ws.toArray=(vs++ws).toArray:=by simp
 by_cases hw:ws=[]
 ·exact concat_meets ⟨_,ho,rfl⟩ ⟨_,ho2,rfl⟩ Rk seq_tuple_add Rw Rx (Ry _ _)
   (tuple_addW1 t b vs.toArray ws.toArray n n2 dd dd2 sl sl2 (by simpa using hv) (by simp [hw])) ⟨ho,ho2,h1 hw⟩
 ·refine concat_meets ⟨_,ho,rfl⟩ ⟨_,ho2,rfl⟩ Rk seq_tuple_add Rw Rx (Ry _ _)
   (tuple_addW2 t b vs.toArray ws.toArray n n2 dd dd2 sl sl2 (by simpa using hv) (by simpa using hw) (by rw [C1,C1];exact hsz)) ⟨ho,ho2,?_⟩
  rw [e];exact h2 hw
def sIx (n d:Nat):Option Int->Nat
 | none=>d
 | some v=>if v < 0 then (v + (n:Int)).toNat else min v.toNat n
def sIx_none (n d:Nat):sIx n d none=d:=rfl
def sIx_nat (n d k:Nat):sIx n d (some (k:Int))=min k n:=by
 show (if (k:Int) < 0 then ((k:Int) + (n:Int)).toNat else min (k:Int).toNat n)=min k n;rw [if_neg (by omega),DD]
end
end HT
namespace L2
open PySem PySem.Spec PyProof.Rows
abbrev TO:=St->Hp->(Option Int->Hp->Prop)->Prop
def PO (X:Cx) (e:Option Expr) (t:TO):Prop:=
 ∀ (pins:List (Addr×Obj)) (s:Aj) (σ:St) (H:Hp) (Q:Option Int->Hp->Prop),Inv X pins σ H s->t σ H Q ->
  Av (Au X.prog X.w) X.A (evalPart e X.env) (λ u s'=>∃ o H',Inv X pins σ H' s'/\IsPart u o/\Q o H') X.xe s
def Xs:TO:=λ _ H Q=>Q none H
def VI (t:TE):TO:=λ σ H Q=>t σ H λ x H1=>∃ i,x=.int i/\Q (some i) H1
section
variable {X:Cx}{e:Expr}{te:TE}{lo hi:Option Expr}{tl th:TO}{pos p2:Pos}
def Xk:PO X none Xs:=by
 intro pins s σ H Q I h;rw [evalPart_none];exact Cs ⟨none,H,I,.none,h⟩
def ND (h:PE X e te):PO X (some e) (VI te):=by
 intro pins s σ H Q I hw;rw [evalPart_some];refine AG (h pins s σ H _ I hw) λ u s1 ⟨x,H1,I1,r1,q1⟩=>?_;obtain ⟨i,rfl,q⟩:=q1;obtain ⟨t,rfl⟩:=r1;exact ⟨some i,H1,I1,.int i t,q⟩
def ZR (X:Cx) (r:V->Option Int->Option Int->Hp->VK->Prop):Prop:=
 ∀ (pins:List (Addr×Obj)) (s:Aj) (σ:St) (H:Hp) (x:V) (v vl vu:Ae) (lo hi:Option Int) (sl:Addr) (Q:VK),Inv X pins σ H s->RelV x v->s.heap.IsSliceOf sl vl vu .none->IsPart vl lo->IsPart vu hi->r x lo hi H Q ->
  ∃ T id,typeLookup (.type T) "__getitem__" = pure (some (.builtin id))/\s.TypeIs v T/\Av (Au X.prog X.w) X.A (getItem v (.ref sl)) (EP X pins σ Q) X.xe s
def Vn (r:V->Option Int->Option Int->Hp->VK->Prop) (te:TE) (tl th:TO):TE:=λ σ H Q=>te σ H λ x H1=>tl σ H1 λ l H2=>th σ H2 λ u H3=>r x l u H3 Q
def Q5 {r:V->Option Int->Option Int->Hp->VK->Prop} (hr:ZR X r) (he:PE X e te) (hl:PO X lo tl) (hu:PO X hi th):PE X (.Subscript e (.Slice lo hi none p2) pos) (Vn r te tl th):=by
 intro pins s σ H Q I h;refine Subscript_ (AG (he pins s σ H _ I h) λ v s1 ⟨x,H1,I1,r1,q1⟩=>?_);refine wpAny_Slice (AG (hl pins s1 σ H1 _ I1 q1) λ vl s2 ⟨l,H2,I2,pl,q2⟩=>AG (hu pins s2 σ H2 _ I2 q2) λ vu s3 ⟨u,H3,I3,pu,q3⟩=>?_);rw [evalPart_none];refine Cs ?_;have I4:Inv X pins σ H3 { s3 with heap:=s3.heap.push { cls:=.type "slice",data:=.fields #[vl,vu,.none] } }:=I3.kept (t':=s3.toks) λ b ob q=>CM _ q;obtain ⟨T,id,hT,ht,hg⟩:=hr pins { s3 with heap:=s3.heap.push { cls:=.type "slice",data:=.fields #[vl,vu,.none] } } σ H3 x v vl vu l u s3.heap.objs.size Q I4 r1 (Heap.IsSliceOf.new ..) pl pu q3;show Av (Au X.prog X.w) X.A (subscriptTail e (.Slice lo hi none p2) v (.ref s3.heap.objs.size)) (EP X pins σ Q) X.xe { s3 with heap:=s3.heap.push { cls:=.type "slice",data:=.fields #[vl,vu,.none] } };exact tail_any (ops:=[.ref s3.heap.objs.size,v]) ht hT hg (by with_unfolding_all rfl)
def Fe (xs:List V) (lo hi:Option Int):List V:=(xs.drop (HT.sIx xs.length 0 lo)).take (HT.sIx xs.length xs.length hi - HT.sIx xs.length 0 lo)
def ux (xs:List V) (lo hi:Option Int):(Fe xs lo hi).length<=xs.length:=by
 unfold Fe;rw [FE,M8];omega
def xA (K:PySem.W.Frag):R2:=λ x y H Q=>∃ a b xs ys,x=.ref a/\y=.ref b/\Dq K H a xs/\Dq K H b ys/\xs≠[]/\xs.length + ys.length<=Aw /\
 (ys=[]->Q (.ref a) H)/\(ys≠[]->∀ p,H p=none->Q (.ref p) (Aq H p (.tup (xs++ys))))
theorem Vals.nil_iff {xs:List V}{us:List Ae} (r:Vals xs us):us=[]↔xs=[]:=by
 cases r with
 | nil=>simp
 | cons _ _=>simp
def qnk:OpR X (EO .Add) (xA X.K):=by
 intro pins s σ H x y v u Q I rx ry h;obtain ⟨a,b,xs,ys,rfl,rfl,ha,hb,hx,hz,q1,q2⟩:=h;cases rx;cases ry;obtain ⟨its,r1,p1,_⟩:=I.tuple ha;obtain ⟨its2,r2,p2,_⟩:=I.tuple hb;refine HT.cat_tup p1 p2 (λ z=>hx (r1.nil_iff.mp z)) (λ z=>⟨.ref a,H,I,rfl,q1 (r2.nil_iff.mp z)⟩) (λ z=>?_) (by rw [<- r1.length,<- r2.length];exact hz);refine ⟨.ref s.heap.objs.size,_,I.laid (t':=s.toks) (o:=.tup (xs++ys)) (λ b ob q=>CM _ q) (Bj _) ?_,rfl,q2 (λ w=>z (r2.nil_iff.mpr w)) _ (I.hok.fresh (Bj _))⟩;exact ⟨by rw [BQ];exact hz,_,r1.append r2,IsTup.new _ _⟩
end
def CB (n:Nat) (i:Int):Option Nat:=if 0<=i then (if i < n then some i.toNat else none) else if -(n:Int)<=i then some (i + n).toNat else none
def BB {α:Type} (xs:List α) (i:Int):Option α:=(CB xs.length i).bind λ j=>xs[j]?
def WN {n:Nat}{i:Int}{j:Nat} (h:CB n i=some j):seqIndex? i n=some j/\j < n/\-(n:Int)<=i/\i < n:=by
 unfold CB at h;by_cases h0:0<=i
 ·rw [if_pos h0] at h;by_cases h1:i < n
  ·rw [if_pos h1] at h;have e:i.toNat=j:=Option.some.inj h;exact ⟨by rw [seqIndex_of h0 h1,e],by omega,by omega,h1⟩
  ·rw [if_neg h1] at h;cases h
 ·rw [if_neg h0] at h;by_cases h1:-(n:Int)<=i
  ·rw [if_pos h1] at h;have e:(i + n).toNat=j:=Option.some.inj h;exact ⟨by rw [seqIndex_neg (by omega) h1,e],by omega,h1,by omega⟩
  ·rw [if_neg h1] at h;cases h
theorem Sw {α:Type}{xs:List α}{i:Int}{v:α} (h:BB xs i=some v):∃ j,seqIndex? i xs.length=some j/\xs[j]?=some v/\j < xs.length/\-(xs.length:Int)<=i/\i < xs.length:=by
 unfold BB at h;cases e:CB xs.length i with
 | none=>rw [e] at h;cases h
 | some j=>
  rw [e] at h;obtain ⟨h1,h2,h3,h4⟩:=WN e;exact ⟨j,h1,h,h2,h3,h4⟩
def Nu (b:Expr):Prop:=∀ o i,subscripted b false o i=operate [o,i] (getItem o i)
def IxR (X:Cx) (r:R2):Prop:=
 ∀ (value slice:Expr) (pins:List (Addr×Obj)) (s:Aj) (σ:St) (H:Hp) (x y:V) (v u:Ae) (Q:VK),Inv X pins σ H s->RelV x v->RelV y u->r x y H Q ->
  subscripted slice false v u=operate [v,u] (getItem v u)->Av (Au X.prog X.w) X.A (subscriptTail value slice v u) (EP X pins σ Q) X.xe s
def Ui (X:Cx) (id:String) (r:V->List V->Hp->VK->Prop):Prop:=
 ∀ (pins:List (Addr×Obj)) (s:Aj) (σ:St) (H:Hp) (x:V) (xs:List V) (v:Ae) (us:List Ae) (Q:VK),Inv X pins σ H s->RelV x v->Vals xs us->r x xs H Q ->
  Av (Au X.prog X.w) X.A (call (.builtin id) (v::us)) (EP X pins σ Q) X.xe s
section
variable {X:Cx}{a b:Expr}{ta tb:TE}{pos:Pos}
def IxR.or {r r':R2} (h:IxR X r) (h':IxR X r'):IxR X (λ x y H Q=>r x y H Q\/r' x y H Q):=by
 intro value slice pins s σ H x y v u Q I rx ry q hs;rcases q with q | q
 ·exact h value slice pins s σ H x y v u Q I rx ry q hs
 ·exact h' value slice pins s σ H x y v u Q I rx ry q hs
def RN {r:R2} (hr:IxR X r) (ha:PE X a ta) (hb:PE X b tb) (hs:Nu b):PE X (.Subscript a b pos) (Jv r ta tb):=by
 intro pins s σ H Q I h;exact Subscript_ (JQ ha hb I h λ v u s2 x y H2 I2 rx ry q=>hr a b pins s2 σ H2 x y v u Q I2 rx ry q (hs _ _))
def J0 (K:PySem.W.Frag):R2:=λ x y H Q=>∃ p xs i v,x=.ref p/\y=.int i/\Co K H p xs/\BB xs i=some v/\Q v H
def LY (K:PySem.W.Frag):R2:=λ x y H Q=>∃ p xs i v,x=.ref p/\y=.int i/\Dq K H p xs/\BB xs i=some v/\Q v H
def LZ:R2:=λ x y H Q=>∃ z i c,x=.str z/\y=.int i/\z.length<=Aw/\BB z.cps.toList i=some c/\Q (.str ⟨#[c]⟩) H
def qgs:IxR X (J0 X.K):=by
 intro value slice pins s σ H x y v u Q I rx ry h hs;obtain ⟨p,xs,i,z,rfl,rfl,hq,he,q⟩:=h;cases rx;obtain ⟨t,rfl⟩:=ry;obtain ⟨its,r,pl,hz⟩:=I.list hq;obtain ⟨j,h1,h2,h3,h4,h5⟩:=Sw he;obtain ⟨w,ew,rw'⟩:=r.get h2;have hl:=r.length;have hn:=Kk;have fin:EP X pins σ Q w s:=⟨z,H,I,rw',q⟩
 by_cases h0:0<=i
 ·have hj:i.toNat=j:=by
   rw [seqIndex_of h0 h5] at h1;exact Option.some.inj h1
  exact item_listR pl.isList h0 (by omega) (by rw [hj];simpa using ew) fin hs
 ·have hj:(i + (its.toArray.size:Int)).toNat=j:=by
   rw [seqIndex_neg (by omega) h4] at h1;rw [C1,<- hl];exact Option.some.inj h1
  exact subscriptTail_builtinR (x:=w) pl.isList.typeIs slot_list_getitem.lookup
   (wpAny_getItem_list_neg (Q:=λ r s'=>r=w/\EP X pins σ Q r s') pl.isList (by omega) (by rw [C1] <;> omega) (by omega) (by rw [hj];simpa using ew) ⟨rfl,fin⟩) hs
def qrt:IxR X (LY X.K):=by
 intro value slice pins s σ H x y v u Q I rx ry h hs;obtain ⟨p,xs,i,z,rfl,rfl,hq,he,q⟩:=h;cases rx;obtain ⟨t,rfl⟩:=ry;obtain ⟨its,r,pl,hz⟩:=I.tuple hq;obtain ⟨j,h1,h2,h3,h4,h5⟩:=Sw he;obtain ⟨w,ew,rw'⟩:=r.get h2;have hl:=r.length;have hn:=Kk;have fin:EP X pins σ Q w s:=⟨z,H,I,rw',q⟩
 exact subscriptTail_builtinR (x:=w) pl.typeIs slot_tuple_getitem.lookup
  (getItem_tuple (j:=j) (Q:=λ r s'=>r=w/\EP X pins σ Q r s') pl (by omega) (by omega) (by rw [C1,<- hl];exact h1) (by simpa using ew) ⟨rfl,fin⟩) hs
def xC:IxR X LZ:=by
 intro value slice pins s σ H x y v u Q I rx ry h hs;obtain ⟨z,i,c,rfl,rfl,hz,he,q⟩:=h;obtain ⟨t,rfl⟩:=rx;obtain ⟨t',rfl⟩:=ry;obtain ⟨j,h1,h2,h3,h4,h5⟩:=Sw he;have hl:z.cps.toList.length=z.length:=by simp [Str.length]
 rw [hl] at h1 h4 h5;have hn:=Kk;exact tail_any (typeIs_str s z t) slot_str_getitem.lookup (getItem_str (c:=c) (by
  have e1:decide (i < -(2 ^ 63:Int))=false:=decide_eq_false (by omega);have e2:decide (i ≥ 2 ^ 63)=false:=decide_eq_false (by omega);rw [e1,e2,Bool.or_false]) (by rw [h1];simpa using h2) ⟨.str ⟨#[c]⟩,H,I.tok _,⟨_,rfl⟩,q⟩) hs
def qo (K:PySem.W.Frag):R2:=λ x y H Q=>J0 K x y H Q\/LY K x y H Q\/LZ x y H Q
def We:IxR X (qo X.K):=qgs.or (qrt.or xC)
def uo (its:List Ae) (n j:Nat) (u:Ae):CD (·.setIfInBounds j u) { cls:=.type "list",data:=.seq its.toArray n }={ cls:=.type "list",data:=.seq (its.set j u).toArray n }:=by
 simp [CD]
def Inv.lst {pins:List (Addr×Obj)}{σ:St}{H:Hp}{s:Aj}{p:Addr}{xs:List V} (I:Inv X pins σ H s) (h:H p=some (.lst xs)):
  ∃ (its:List Ae) (n:Nat),Vals xs its/\s.heap.get? p=some { cls:=.type "list",data:=.seq its.toArray n }/\xs.length<=Aw:=by
 obtain ⟨z,its,n,r,e⟩:=I.hok p _ h;exact ⟨its,n,r,e,z⟩
def Inv.lstUpd {pins:List (Addr×Obj)}{σ:St}{H:Hp}{s:Aj}{p:Addr}{xs ys:List V}{its its':List Ae}{n n':Nat}{f:Obj->Obj} (I:Inv X pins σ H s) (h:H p=some (.lst xs))
  (ho:s.heap.get? p=some { cls:=.type "list",data:=.seq its.toArray n }) (hf:f { cls:=.type "list",data:=.seq its.toArray n }={ cls:=.type "list",data:=.seq its'.toArray n' }) (r:Vals ys its') (hz:ys.length<=Aw) (t:Nat):
  Inv X pins σ (Aq H p (.lst ys)) { s with heap:=s.heap.update p f,toks:=t }:=by
 have e:(s.heap.update p f).get? p=some { cls:=.type "list",data:=.seq its'.toArray n' }:=by
  rw [Heap.get?_update_self f ho (by rw [hf] <;> rfl),hf]
 refine I.write (x:=p) (e:=p) (by rw [h];trivial) (.inl rfl) (λ b u hb q=>(Heap.get?_update_other _ _ (Ca hb)).trans q) ⟨_,e⟩ ?_;exact ⟨hz,its',n',r,e⟩
def ON:V->V->V->Hp->(Hp->Prop)->Prop:=λ o i v H Q=>∃ p xs k j,o=.ref p/\i=.int k/\H p=some (.lst xs)/\CB xs.length k=some j/\Q (Aq H p (.lst (xs.set j v)))
def Q8:PSet X ON:=by
 intro pins s σ H o i v ov iv u Q I ro ri rv h;obtain ⟨p,xs,k,j,rfl,rfl,hp,hj,q⟩:=h;cases ro;obtain ⟨t,rfl⟩:=ri;obtain ⟨its,n,r,ho,hz⟩:=I.lst hp;obtain ⟨h1,h2,h3,h4⟩:=WN hj;have hl:=r.length;have hn:=Kk;have I':Inv X pins σ (Aq H p (.lst (xs.set j v))) { s with heap:=s.heap.update p (CD (·.setIfInBounds j u)) }:=
  I.lstUpd hp ho (uo its n j u) (r.set rv j) (by rw [Ei];exact hz) s.toks
 by_cases h0:0<=k
 ·have hk:k.toNat=j:=by
   rw [seqIndex_of h0 h4] at h1;exact Option.some.inj h1
  exact PySem.W.ki_setAt ho h0 (by omega) (by rw [C1,<- hl];exact h4) (by rw [hk];exact ⟨_,I',q⟩)
 ·have hk:(k + (its.toArray.size:Int)).toNat=j:=by
   rw [seqIndex_neg (by omega) h3] at h1;rw [C1,<- hl];exact Option.some.inj h1
  exact PySem.W.ki_setBack ho (by omega) (by rw [C1,<- hl];exact h3) (by omega) (by rw [hk];exact ⟨_,I',q⟩)
def qc (lo hi:Option Int) (n:Nat):(Jn lo hi none n).1=((HT.sIx n 0 lo:Nat):Int)/\(Jn lo hi none n).2.1=((HT.sIx n n hi:Nat):Int)/\(Jn lo hi none n).2.2=1:=by
 refine ⟨?_,?_,rfl⟩
 ·cases lo with
  | none=>simp [Jn,HT.sIx]
  | some i=>
   simp only [Jn,HT.sIx,Zi,show (1:Int) > 0 by decide,if_true];by_cases h:i < 0
   ·simp only [h,if_true] <;> omega
   ·simp only [h,if_false] <;> omega
 ·cases hi with
  | none=>simp [Jn,HT.sIx]
  | some i=>
   simp only [Jn,HT.sIx,Zi,show (1:Int) > 0 by decide,if_true];by_cases h:i < 0
   ·simp only [h,if_true] <;> omega
   ·simp only [h,if_false] <;> omega
def qe (its:List Ae) (lo hi:Option Int):slicePick its.toArray lo hi none=((its.drop (HT.sIx its.length 0 lo)).take (HT.sIx its.length its.length hi - HT.sIx its.length 0 lo)).toArray:=by
 obtain ⟨h1,h2,h3⟩:=qc lo hi its.toArray.size;unfold slicePick;rw [h1,h2,h3];simp only [sliceRange_one,pick_run,C1] <;> rfl
def LX (K:PySem.W.Frag):V->Option Int->Option Int->Hp->VK->Prop:=λ x lo hi H Q=>∃ a xs,x=.ref a/\Co K H a xs/\∀ p,H p=none->Q (.ref p) (Aq H p (.lst (Fe xs lo hi)))
def SK:ZR X (LX X.K):=by
 intro pins s σ H x v vl vu lo hi sl Q I rx hs pl pu h;obtain ⟨a,xs,rfl,hx,q⟩:=h;cases rx;obtain ⟨its,r,ht,hz⟩:=I.list hx;have hlen:=r.length;refine ⟨"list",_,slot_list_getitem.lookup,ht.isList.typeIs,?_⟩;refine wpAny_getItem_list_slice ht.isList hs pl pu .none (by simp) ?_ (by rw [C1] <;> omega);rw [qe,<- hlen];refine ⟨.ref s.heap.objs.size,_,I.laid (t':=s.toks) (o:=.lst (Fe xs lo hi)) (λ b ob q=>CM _ q) (Bj _) ?_,rfl,q _ (I.hok.fresh (Bj _))⟩;exact ⟨AW (ux xs lo hi) hz,_,0,(r.drop (HT.sIx xs.length 0 lo)).take (HT.sIx xs.length xs.length hi - HT.sIx xs.length 0 lo),Dx _ rfl⟩
def qaf:CallR X (.builtin "len") (λ xs H Q=>∃ p ys,xs=[.ref p]/\(Co X.K H p ys\/Dq X.K H p ys)/\Q (.int ys.length) H):=by
 intro pins s σ H xs us Q I r h;obtain ⟨p,ys,rfl,hq,q⟩:=h;obtain ⟨u,rfl,rx⟩:=Fw r;cases rx;have hn:=Kk;rcases hq with hq | hq
 ·obtain ⟨its,r',pl,hz⟩:=I.list hq;have hlen:=r'.length;exact Calls.call_len_list pl.isList (by simp only [C1] <;> omega) ⟨.int ys.length,H,I.tok _,⟨s.toks + 1,by rw [C1,hlen]⟩,q⟩
 ·obtain ⟨its,r',pl,hz⟩:=I.tuple hq;have hlen:=r'.length;exact len_tuple pl (by simp only [C1] <;> omega) ⟨.int ys.length,H,I.tok _,⟨s.toks + 1,by rw [C1,hlen]⟩,q⟩
def uE:CallR X (.builtin "len") (λ xs H Q=>∃ z,xs=[.str z]/\z.length<=Aw/\Q (.int z.length) H):=by
 intro pins s σ H xs us Q I r h;obtain ⟨z,rfl,hz,q⟩:=h;obtain ⟨u,rfl,t,rfl⟩:=Fw r;have hn:=Kk;exact len_str (by omega) ⟨.int z.length,H,I.tok _,⟨_,rfl⟩,q⟩
def CallR.or {f:Ae}{r r':List V->Hp->VK->Prop} (h:CallR X f r) (h':CallR X f r'):CallR X f (λ xs H Q=>r xs H Q\/r' xs H Q):=by
 intro pins s σ H xs us Q I rs q;rcases q with q | q
 ·exact h pins s σ H xs us Q I rs q
 ·exact h' pins s σ H xs us Q I rs q
def uF:CallR X (.type "list") (λ xs H Q=>∃ p ys,xs=[.ref p]/\(Co X.K H p ys\/Dq X.K H p ys)/\∀ l,H l=none->Q (.ref l) (Aq H l (.lst ys))):=by
 intro pins s σ H xs us Q I r h;obtain ⟨p,ys,rfl,hq,q⟩:=h;obtain ⟨u,rfl,rx⟩:=Fw r;cases rx;have fin:∀ (its:List Ae),Vals ys its->ys.length<=Aw->∀ (h':Heap) (c':Nat),(∀ b o',s.heap.get? b=some o'->h'.get? b=some o') ->
   h'.get? s.heap.objs.size=some { cls:=.type "list",dict:=none,data:=.seq its.toArray c',slots:=#[] }->EP X pins σ Q (.ref s.heap.objs.size) { s with heap:=h' }:=λ its r' hz h' c' kp e=>
  ⟨.ref s.heap.objs.size,_,I.laid (t':=s.toks) kp (Bj _) (show zwo X.prog X.w _ h' _ (.lst ys) from ⟨hz,its,c',r',e⟩),rfl,q _ (I.hok.fresh (Bj _))⟩
 rcases hq with hq | hq
 ·obtain ⟨its,r',pl,hz⟩:=I.list hq;have hlen:=r'.length;obtain ⟨o,ho,hc,n,hd⟩:=pl.isList;exact call_list_seq p (.inl rfl) ho hc hd (λ h' c' kp e=>fin its r' hz h' c' kp e) (by simp only [C1] <;> omega)
 ·obtain ⟨its,r',pl,hz⟩:=I.tuple hq;have hlen:=r'.length;obtain ⟨o,ho,hc,n,hd⟩:=pl;exact call_list_seq p (.inr rfl) ho hc hd (λ h' c' kp e=>fin its r' hz h' c' kp e) (by simp only [C1] <;> omega)
def qd:CallR X (.type "tuple") (λ xs H Q=>∃ p ys,xs=[.ref p]/\((Co X.K H p ys/\∀ l,H l=none->Q (.ref l) (Aq H l (.tup ys)))\/(Dq X.K H p ys/\Q (.ref p) H))):=by
 intro pins s σ H xs us Q I r h;obtain ⟨p,ys,rfl,h⟩:=h;obtain ⟨u,rfl,rx⟩:=Fw r;cases rx;rcases h with ⟨hq,q⟩ | ⟨hq,q⟩
 ·obtain ⟨its,r',pl,hz⟩:=I.list hq;have hlen:=r'.length;refine call_tuple_list pl.isList (λ h' kp=>?_) (by simp only [C1] <;> omega);have I1:Inv X pins σ H { s with heap:=h' }:=I.kept (t':=s.toks) kp;have I2:Inv X pins σ (Aq H h'.objs.size (.tup ys)) { s with heap:=h'.push { cls:=.type "tuple",data:=.seq its.toArray } }:=
   I1.laid (t':=s.toks) (λ b o e=>CM _ e) (Bj _) (show zwo X.prog X.w _ _ _ (.tup ys) from ⟨hz,its,r',IsTup.new _ _⟩)
  exact ⟨.ref h'.objs.size,_,I2,rfl,q _ (I1.hok.fresh (Bj _))⟩
 ·obtain ⟨its,r',pl,hz⟩:=I.tuple hq;exact call_tuple_same pl ⟨.ref p,H,I,rfl,q⟩
def R4 (K:PySem.W.Frag) (T:String) (x:V) (H:Hp):Prop:=match x with
 | .str _=>T = "str"
 | .int _=>T = "int"
 | .ref p=>(T = "list" /\ ∃ xs,Co K H p xs)\/(T = "tuple" /\ ∃ o,K.lookup p=some o/\o.cls=.type "tuple" /\ o.dict=none) \/
   (T = "dict" /\ ((∃ kvs,H p=some (.dK kvs))\/∃ kvs,H p=some (.dT kvs)))\/(T = "set" /\ ∃ S n,H p=some (.set S n))
 | _=>False
theorem jF {pins:List (Addr×Obj)}{σ:St}{H:Hp}{s:Aj}{T:String}{x:V}{v:Ae} (I:Inv X pins σ H s) (r:RelV x v) (ty:R4 X.K T x H):
  s.TypeIs v T/\∀ a,v=.ref a->∃ ob,s.heap.get? a=some ob/\ob.dict=none:=by
 cases x with
 | str z=>
  obtain ⟨t,rfl⟩:=r;cases (show T = "str" from ty);exact ⟨typeIs_str s z t,λ _ e=>nomatch e⟩
 | int i=>
  obtain ⟨t,rfl⟩:=r;cases (show T = "int" from ty);exact ⟨typeIs_int s i t,λ _ e=>nomatch e⟩
 | ref p=>
  cases r;rcases ty with ⟨rfl,xs,hq⟩ | ⟨rfl,o,hk,hc,hd⟩ | ⟨rfl,hk⟩ | ⟨rfl,S,n,hk⟩
  ·obtain ⟨its,_,pl,_⟩:=I.list hq;refine ⟨pl.isList.typeIs,λ a e=>?_⟩;cases e;obtain ⟨o,n,e,c,hd,_⟩:=pl;exact ⟨o,e,hd⟩
  ·refine ⟨⟨o,I.kIn p o hk,hc⟩,λ a e=>?_⟩;cases e;exact ⟨o,I.kIn _ o hk,hd⟩
  ·have z:∃ o,s.heap.get? p=some o/\o.ExactDict:=by
    rcases hk with ⟨kvs,hk⟩ | ⟨kvs,hk⟩
    ·obtain ⟨_,_,_,_,o,_,_,e,ex,_⟩:=I.hok p _ hk;exact ⟨o,e,ex⟩
    ·obtain ⟨_,_,_,_,o,_,_,e,ex,_⟩:=I.hok p _ hk;exact ⟨o,e,ex⟩
   obtain ⟨o,e,ex⟩:=z;refine ⟨⟨o,e,ex.1⟩,λ a e2=>?_⟩;cases e2;exact ⟨o,e,ex.2.1⟩
  ·obtain ⟨o,_,_,_,e,ex,_⟩:=I.hok p _ hk;refine ⟨⟨o,e,ex.1⟩,λ a e2=>?_⟩;cases e2;exact ⟨o,e,ex.2.1⟩
 | _=>exact GZ ty
def Oc (K:PySem.W.Frag) (T:String) (r:V->List V->Hp->VK->Prop) (to:TE) (t:TA):TE:=λ σ H Q=>to σ H λ x H1=>R4 K T x H1/\t σ H1 λ xs H2=>r x xs H2 Q
variable {o e:Expr}{es:List Expr}{to:TE}{t:TA}{name:Str}{apos cpos:Pos}{T id:String}{r:V->List V->Hp->VK->Prop}
def OJ (pa:PlainAttrs T) (slot:Slot T name id) (hty:typeOf (.builtin id)=pure (.type "method_descriptor")) (hm:Ui X id r) (ho:PE X o to) (ha:PA X (e::es) t)
  (hbase:attributeBase o name X.env (eval o X.env)=eval o X.env:=by rfl)
  (hfew:((Dk cpos (AH (e::es) X.env)).all (λ x=>!x.1) && (backToKw cpos (keywordEach [] X.env)).all (λ x=>x.1.isSome)
   && decide ((e::es).length + ([]:List Jk).length + (if ([]:List Jk).isEmpty then 0 else 1) < 30))=true:=by rfl)
  (hline:(apos.endLine == cpos.line)=true:=by rfl) (hs:AH (e::es) X.env=(false,eval e X.env)::AH es X.env:=by rfl) (hplain:(Dk cpos (AH es X.env)).any (·.1)=false:=by rfl):
  PE X (.Call (.Attribute o name apos) (e::es) [] cpos) (Oc X.K T r to t):=by
 intro pins s σ H Q I h;refine wpAny_Call_method_late hbase hfew hline rfl (AG (ho pins s σ H _ I h) λ v s1 ⟨x,H1,I1,r1,ty,q1⟩=>?_);obtain ⟨h1,h2⟩:=jF I1 r1 ty;refine ⟨T,id,pa,slot,hty,h1,h2,?_⟩;have hA:=ha cpos pins s1 σ H1 _ I1 q1;rw [hs] at hA ⊢;refine Calls.callWith_builtin (by show (false || (Dk cpos (AH es X.env)).any (·.1))=false;rw [hplain] <;> rfl) (Ru ?_);exact AG hA λ us s2 ⟨vs,H2,I2,r2,q2⟩=>hm pins s2 σ H2 x vs v us Q I2 r1 r2 q2
end
def ZT (X:Cx) (id:String) (r:V->List V->Hp->VK->Prop):Prop:=
 ∀ (pins:List (Addr×Obj)) (s:Aj) (σ:St) (H:Hp) (x:V) (xs:List V) (v:Ae) (us:List Ae) (Q:VK),Inv X pins σ H s->RelV x v->Vals xs us->r x xs H Q ->
  Av (Au X.prog X.w) X.A (call (.builtin id) (v::us)) (EP X pins σ Q) X.xe s
theorem Vals.one:∀ {x:V}{us:List Ae},Vals [x] us->∃ u,us=[u]/\RelV x u
 | _,_,.cons r .nil=>⟨_,rfl,r⟩
theorem Vals.rep {xs:List V}{us:List Ae} (h:Vals xs us):∀ k:Nat,Vals (Bo k xs).flatten (Bo k us).flatten
 | 0=>.nil
 | k + 1=>by
  rw [JH,JH,KN,KN];exact Vals.append h (Vals.rep h k)
theorem UH (its:List Ae):∀ (k:Nat) (acc:List Ae),
  Tq (λ x1 x2=>x1++x2) acc.toArray (Bo k its.toArray)=(acc++(Bo k its).flatten).toArray
 | 0,acc=>by simp
 | k + 1,acc=>by
  have e:acc.toArray++its.toArray=(acc++its).toArray:=by simp
  have e2:(acc++its)++(Bo k its).flatten=acc++(Bo (k + 1) its).flatten:=by
   rw [JH,KN,Pr]
  rw [<- e2,<- UH its k (acc++its),<- e,JH,YY]
section
variable {X:Cx}{pins:List (Addr×Obj)}{σ:St}{H:Hp}{s:Aj}{l b:Addr}{xs ys zs:List V}
def Inv.lset {its its':List Ae}{n:Nat}{f:Array Ae->Array Ae}{t':Nat} (I:Inv X pins σ H s) (hH:H l=some (.lst xs))
  (e:s.heap.get? l=some { cls:=.type "list",data:=.seq its.toArray n }) (hf:f its.toArray=its'.toArray) (hv:Vals ys its') (hz:ys.length<=Aw):
  Inv X pins σ (Aq H l (.lst ys)) { s with heap:=s.heap.update l (CD f),toks:=t' }:=by
 have q:=PySem.IsL.update e f;rw [hf] at q;refine I.write (x:=l) (e:=l) (by rw [hH];exact trivial) (.inl rfl) (λ b' u hb hu=>(Heap.get?_update_other s.heap (CD f) (Ca hb)).trans hu) ⟨_,q⟩ ?_;exact ⟨hz,its',_,hv,q⟩
def Inv.lnew {its:List Ae}{t':Nat} (I:Inv X pins σ H s) (hv:Vals ys its) (hz:ys.length<=Aw):
  Inv X pins σ (Aq H s.heap.objs.size (.lst ys)) { s with heap:=s.heap.push { cls:=.type "list",data:=.seq its.toArray },toks:=t' }:=
 I.laid (λ _ _ q=>CM _ q) (Bj _) ⟨hz,its,0,hv,Dx _ rfl⟩
def Inv.fresh (I:Inv X pins σ H s):H s.heap.objs.size=none:=I.hok.fresh (Bj _)
def Inv.lstM (I:Inv X pins σ H s) (hH:H l=some (.lst xs)):xs.length<=Aw/\∃ (its:List Ae) (n:Nat),Vals xs its/\xs.length=its.length/\s.heap.get? l=some { cls:=.type "list",data:=.seq its.toArray n }:=by
 obtain ⟨z,its,n,r,e⟩:=I.hok l _ hH;exact ⟨z,its,n,r,r.length,e⟩
def Yh {n:Nat} (h:n<=Aw):NZ n=false:=by
 unfold NZ;exact decide_eq_false (by omega)
end
section
variable {X:Cx}
def Xm:V->List V->Hp->VK->Prop:=λ x vs H Q=>∃ l xs y,x=.ref l/\vs=[y]/\H l=some (.lst xs)/\xs.length < Aw/\Q .non (Aq H l (.lst (xs++[y])))
def UM:ZT X "list.append" Xm:=by
 intro pins s σ H x vs v us Q I rx rv h;obtain ⟨l,xs,y,rfl,rfl,hH,hz,q⟩:=h;cases rx;obtain ⟨u,rfl,ru⟩:=rv.one;obtain ⟨z,its,n,r,hl,e⟩:=I.lstM hH;refine LC F.slot_list_append ⟨_,e,rfl⟩ F.entry_list_append (F.args_list_append_2 _ _) (PySem.list_append l its.toArray n u (by rw [C1];omega)) ⟨e,?_⟩;refine ⟨.non,_,I.lset (its':=its++[u]) hH e (by simp) (r.append (.cons ru .nil)) ?_,rfl,q⟩;rw [BQ,IL];omega
def Xn:V->List V->Hp->VK->Prop:=λ x vs H Q=>∃ l b xs zs,x=.ref l/\vs=[.ref b]/\H l=some (.lst xs)/\H b=some (.lst zs)/\xs.length + zs.length<=Aw/\Q .non (Aq H l (.lst (xs++zs)))
def yN:ZT X "list.extend" Xn:=by
 intro pins s σ H x vs v us Q I rx rv h;obtain ⟨l,b,xs,zs,rfl,rfl,hH,hB,hz,q⟩:=h;cases rx;obtain ⟨u,rfl,ru⟩:=rv.one;cases ru;obtain ⟨z,its,n,r,hl,e⟩:=I.lstM hH;obtain ⟨z2,its2,n2,r2,hl2,e2⟩:=I.lstM hB;have hsz:its.toArray.size + its2.toArray.size<=Aw:=by rw [C1,C1];omega
 have hlong:¬ (!its.toArray.isEmpty && NZ (its.toArray.size + its2.toArray.size))=true:=by
  rw [Yh hsz,Pk];exact CF
 refine LC F.slot_list_extend ⟨_,e,rfl⟩ F.entry_list_extend (F.args_list_extend_2 _ _)
  (AutoSeq1.list_extend_list_list_0 l its.toArray n b its2.toArray n2 hlong (by rw [C1];omega) (by omega)) ⟨e,e2,?_⟩
 refine ⟨.non,_,I.lset (its':=its++its2) hH e (by simp) (r.append r2) ?_,rfl,q⟩;rw [BQ];omega
def RG:R2:=λ x y H Q=>∃ l b xs zs,x=.ref l/\y=.ref b/\H l=some (.lst xs)/\H b=some (.lst zs)/\xs.length + zs.length<=Aw/\∀ p,H p=none->Q (.ref p) (Aq H p (.lst (xs++zs)))
def qrc:OpR X (EO .Add) RG:=by
 intro pins s σ H x y v u Q I rx ry h;obtain ⟨l,b,xs,zs,rfl,rfl,hH,hB,hz,q⟩:=h;cases rx;cases ry;obtain ⟨z,its,n,r,hl,e⟩:=I.lstM hH;obtain ⟨z2,its2,n2,r2,hl2,e2⟩:=I.lstM hB;refine PySem.P.add_list e e2 ?_ (by rw [C1,C1];omega);have ea:its.toArray++its2.toArray=(its++its2).toArray:=by simp
 rw [ea];exact ⟨.ref _,_,I.lnew (t':=s.toks) (r.append r2) (by rw [BQ];omega),rfl,q _ I.fresh⟩
def RF:R2:=λ x y H Q=>∃ l k xs,x=.ref l/\y=.int k/\H l=some (.lst xs)/\-(2 ^ 63)<=k/\k < 2 ^ 63/\xs.length * k.toNat<=Aw /\
 ∀ p,H p=none->Q (.ref p) (Aq H p (.lst (Bo k.toNat xs).flatten))
theorem jU {α:Type} (xs:List α) (k:Nat):(Bo k xs).flatten.length=k * xs.length:=by
 induction k with
 | zero=>simp
 | succ k ih=>rw [JH,KN,BQ,ih,Nat.succ_mul,Nat.add_comm]
def ze:OpR X (EO .Mult) RF:=by
 intro pins s σ H x y v u Q I rx ry h;obtain ⟨l,k,xs,rfl,rfl,hH,h1,h2,hz,q⟩:=h;cases rx;obtain ⟨t,rfl⟩:=ry;obtain ⟨z,its,n,r,hl,e⟩:=I.lstM hH;have hlen:its.toArray.size * k.toNat<=Aw:=by rw [C1,<- hl];exact hz
 have hcap:¬ its.toArray.size * k.toNat > (2 ^ 63 - 1) / 8:=by
  have:(Aw:Nat)<=(2 ^ 63 - 1) / 8:=by decide
  omega
 have hfit:¬ (!Builtin.List.listFitsIndex k)=true:=by
  rw [fitsIndex_both h1 h2];exact CF
 have hlong:¬ NZ (its.toArray.size * k.toNat)=true:=by
  rw [Yh hlen];exact CF
 have hnew:Tq (λ x1 x2=>x1++x2) #[] (Bo (if its.toArray.isEmpty=true then 0 else k.toNat) its.toArray)=(Bo k.toNat its).flatten.toArray:=by
  have f0:∀ m:Nat,Tq (λ x1 x2=>x1++x2) #[] (Bo m its.toArray)=(Bo m its).flatten.toArray:=λ m=>by
   have:=UH its m []
   rw [IH] at this;exact this
  rw [f0];cases its with
  | nil=>simp
  | cons a r'=>rw [if_neg (by simp)]
 refine wpAny_binaryOp_repeat_ref (T := "list") (U := "int") (by decide) ⟨_,e,rfl⟩ (λ s'=>typeIs_int s' k t) noFill_list_mul F.fills_int_mul F.slot_int_rmul repeat_list F.slot_int_index.lookup
  (LC F.slot_int_rmul (typeIs_int s k t) F.entry_int_rmul (F.args_int_rmul_2 _ _) (int___rmul___int_list k t l its.toArray n)
   ⟨e,rfl,⟨_,e,rfl⟩,LC F.slot_list_mul ⟨_,e,rfl⟩ F.entry_list_mul (F.args_list_mul_2 _ _) (AutoListH.list___mul___list_int_3 l its.toArray n k t hfit hcap hlong) ⟨e,?_⟩⟩)
 rw [hnew];exact ⟨.ref _,_,I.lnew (t':=s.toks) (r.rep k.toNat) (by rw [jU,Nat.mul_comm];exact hz),rfl,q _ I.fresh⟩
end
section
variable {prog:AF}{w:AB}{A:AZ}{E:Ae->Aj->Prop}{s:Aj}
end
section
variable {X:Cx}
end
end L2
namespace Att
open PySem PySem.W PySem.Calls PyProof.Rows
theorem qg {P:Params}{h:Heap}:∀ (ns:List Int) (vs:List Ae),WellAll P h vs (ns.map WData.int)->HD vs ns:=by
 intro ns;induction ns with
 | nil=>
  intro vs w;rw [EG] at w;cases w;exact .nil
 | cons n ns ih=>
  intro vs w;rw [BF] at w;cases w with
  | cons a b=>
   cases a;exact .cons _ _ (ih _ b)
theorem yY {l:OpenLaw}{n:Nat} (hn:l.most=some n) {P:Params}{h:Heap}{args:List WData}{vals:List Ae}
  (hpre:l.row.toRowW.claim.pre args=true) (hwl:WellAll P h vals args):
  ∃ a vs ns,vals=[Value.ref a]/\args=[WData.list (ns.map WData.int)]/\h.get? a=some { cls:=.type "list",data:=.seq vs.toArray }/\HD vs ns/\ns.length<=n:=by
 have hsh:WShape.hasAll [] args [.list .int]=true:=(pre_splitW hpre).1;have hc:l.pre.holds [] { args:=args }=true:=(pre_splitW hpre).2;obtain ⟨d,r,rfl,h1,h2⟩:=hasAllW_cons hsh;obtain rfl:=hasAllW_nil h2;obtain ⟨xs,rfl,h3⟩:=hasW_list h1;obtain ⟨ns,rfl⟩:=items_int h3;have hlen:ns.length<=n:=by
  unfold OpenLaw.pre at hc;have h4:(WTm.not (.lt (.lit (.int (n:Int))) (.len (.arg 0)))).holds [] { args:=[.list (ns.map .int)] }=true:=by
   have h4:=(holds_andW hc).1;rw [hn] at h4;exact h4
  have h5:=condW_of h4 (w_not (w_lt w_lit (w_len_list (w_arg rfl))));rw [AD] at h5;refine Nat.le_of_not_lt λ q=>?_;have q':(n:Int) < ((ns.length:Nat):Int):=by omega
  first
   | (rw [decide_eq_true q'] at h5;exact absurd h5 (by decide))
   | (simp at h5;omega)
 cases hwl with
 | cons w1 w2=>
  cases w2;cases w1 with
  | list ho hall=>exact ⟨_,_,ns,rfl,rfl,ho,qg ns _ hall,hlen⟩
def yG (l:OpenLaw) (args:List WData):l.row.toRowW.claim.post args (.bool true) args=true:=
 postW_of (r:=l.row.toRowW) (X:=(true == true))
  (show WShape.has [] (.bool true) .bool=true by first | rfl | decide | simp [WShape.has,WShape.arms,WShape.armsAll])
  (show (WTm.eq .res (.lit (.bool true))).value [] { args:=args,res:=some (.bool true),after:=args }=some (.bool (true == true)) from w_eq_bool (w_res rfl) w_lit) rfl
def attach_call {l:OpenLaw}{n:Nat}{q:AF}{loose:List Str}{XP:(Str->Option Ae)->Heap->Prop}{YP:AB->Heap->Prop}{d:DefRec}
  (hn:l.most=some n) (hdf:d.params.defaults=[])
  (call:∀ (w:AB) (s₀ s₁:Aj) (mg mb:Str->Option Ae) (fa:Addr) (o:Obj) (pm cd doc:Ae) (a:Addr) (vs:List Ae) (ns:List Int),
   Ground q loose [] XP w s₀ mg mb s₁.heap->YP w s₁.heap ->
   s₁.heap.get? fa=some o->o.data=.func (docDef d.name d.params d.body d.scope pm cd doc)->s₁.heap.CodeRec cd d.name->mg d.name=some (.ref fa) ->
   s₁.heap.get? a=some { cls:=.type "list",data:=.seq vs.toArray }->HD vs ns->ns.length<=n->s₁.gens=#[] ->
   Iy (Au l.prog w) Jl (.call (.ref fa) ⟨[.ref a],[]⟩) (λ r s'=>r=.ok (.ret (.bool true))/\OldK s₁.heap s'.heap/\s'.os=s₁.os/\Fy s'.gens) s₁):
  WalkO q loose XP YP l.row.toRowW d [] (λ f vs=>PySem.call f vs):=by
 intro w s₀ s₁ mg mb G Y fa o pm cd doc dV kV ho hd hcd hD hmg hg args vals as hpre hlay hrd hwl hlo;obtain rfl:dV=.none:=Dflts.none hD hdf;obtain rfl:kV=.none:=Dflts.noKw hD;obtain ⟨a,vs,ns,rfl,rfl,hobj,hints,hlen⟩:=yY hn hpre hwl;refine enter_call (codeAny_mono (call w s₀ s₁ mg mb fa o pm cd doc a vs ns G Y ho (fd_plain hd) hcd hmg hobj hints hlen hg) λ r s' hq=>?_);obtain ⟨rfl,h2,h3,h4⟩:=hq;exact ⟨.inl ⟨.bool true,.bool true,[],rfl,λ _=>rfl,.bool true,yG l _,λ _=>⟨List.Pairwise.nil,λ _ hm=>(nomatch hm)⟩⟩,h2,h3,h4⟩
section
variable {prog:AF}{w:AB}{A:AZ}{E:Ae->Aj->Prop}{s:Aj}{K:Frag}
end
end Att
namespace L2
open PySem PySem.Spec PyProof.Rows
theorem UZ:∀ {vs:List Ae}{ns:List Int},HD vs ns->Vals (ns.map V.int) vs
 | _,_,.nil=>.nil
 | _,_,.cons n t h=>.cons ⟨t,rfl⟩ (UZ h)
def HY (H:Hp):Prop:=∀ b,H b=none\/∃ o xs,H b=some (.frz o (.lst xs))
theorem vO {P:AF}{w:AB}{K:PySem.W.Frag}{mg mb:Str->Option Ae}{CX:FH}{k:Nat}{fa a:Addr}{fd:Dv}{x:Str}{sp:Sp}{s₁:Aj}{vs:List Ae}{ns:List Int}
  (KX:K.In s₁.heap) (hns:s₁.heap.Ns Eh mg) (hb:s₁.heap.Ns builtinsNs mb) (hbb:∀ x:Str,x ≠ "__name__" -> mb x=Jo x) (hlim:s₁.heap.NoLimit) (hg:s₁.gens=#[])
  (ha:s₁.heap.get? a=some { cls:=.type "list",data:=.seq vs.toArray }) (hi:HD vs ns) (hl:ns.length<=Aw) (hr:Room k Jl)
  (F:∀ base:Heap,K.In base->base.Ns Eh mg->FnOk P w K mg base CX k fa fd [x] sp) (hbind:∀ (s:Aj) (u:Ae),BindsTo s fd ⟨[u],[]⟩ [(x,u)])
  (hsp:∀ H:Hp,HY H->Co K H a (ns.map V.int)->sp [.ref a] H (λ v _=>v=.bl true) λ _ _ _=>False)
  (hCX:∀ H e s',CX [] H s₁ (λ _ _ _=>False) e s'->False):
  Iy (Au P w) Jl (.call (.ref fa) ⟨[.ref a],[]⟩) (λ r s'=>r=.ok (.ret (.bool true))/\OldK s₁.heap s'.heap/\s'.os=s₁.os/\Fy s'.gens) s₁:=by
 have rv:=UZ hi;have lenV:=hi.length;have core:∀ H:Hp,HY H->Co K H a (ns.map V.int)->HOk P w H s₁.heap->(∀ b,H b≠none->b=a)->(H a≠none->K.lookup a=none) ->
   Iy (Au P w) Jl (.call (.ref fa) ⟨[.ref a],[]⟩) (λ r s'=>r=.ok (.ret (.bool true))/\OldK s₁.heap s'.heap/\s'.os=s₁.os/\Fy s'.gens) s₁:=by
  intro H hO hS hok hA hK;have base_of:∀ {b:Addr}{o:Obj},s₁.heap.get? b=some o->H b=none->(DE s₁.heap H).get? b=some o:=λ e n=>vM e n;have noA:∀ {b:Addr}{o:Obj}{es:Array DictEntry}{ep:Nat},s₁.heap.get? b=some o->o.data=.dict es ep->H b=none:=λ {b o es ep} e d=>by
   cases q:H b with
   | none=>rfl
   | some u=>
    have e':b=a:=hA b (by rw [q];simp);subst e';rw [ha] at e;cases e;have d':Data.seq vs.toArray _=Data.dict es ep:=d;cases d'
  have nsK:∀ {b:Addr}{m:Str->Option Ae},s₁.heap.Ns b m->(DE s₁.heap H).Ns b m:=λ {b m} ⟨o,es,ep,e,d,r⟩=>⟨o,es,ep,base_of e (noA e d),d,r⟩
  have hKb:K.In (DE s₁.heap H):=λ b o e=>base_of (KX b o e) (by
   cases q:H b with
   | none=>rfl
   | some u=>
    have e':b=a:=hA b (by rw [q];simp);subst e';rw [hK (by rw [q];simp)] at e;cases e)
  have hM:Mod K mg (DE s₁.heap H):=⟨hKb,nsK hns,⟨mb,nsK hb,hbb⟩,let ⟨mc,h1,h2⟩:=hlim;⟨mc,nsK h1,h2⟩⟩
  have e0:Env0 P w K mg (DE s₁.heap H) Jl [] s₁ H:=⟨rfl,hM,λ b o e=>jZ e,M1 (yC _ _),trivial,λ b hb=>absurd (show b∈([]:List Addr) from hb) (by simp),hok,.of_eq hg⟩
  refine codeAny_mono ((F _ hKb (nsK hns)).run Jl [] s₁ H ⟨[.ref a],[]⟩ [.ref a] [.ref a] _ _ hr e0 (hbind s₁ (.ref a)) (.cons rfl .nil) (hsp H hO hS)) λ r s' h=>?_;cases r with
  | error e=>exact (hCX H e s' h).elim
  | ok fl=>
   cases fl with
   | next=>exact GZ h
   | brk=>exact GZ h
   | cont=>exact GZ h
   | ret u=>
    obtain ⟨v,H',os,bare,un,hok',r',q⟩:=h;have q':v=.bl true:=q;subst q';obtain rfl:u=Value.bool true:=r';refine ⟨rfl,OldK.of_keep λ b o e=>?_,os,bare⟩;cases q:H b with
    | none=>exact un.keep b o e q (by intro z;exact absurd (show b∈([]:List Addr) from z) (by simp)) (by simp)
    | some u=>
     rcases hO b with z | ⟨ob,xs,z⟩
     ·rw [q] at z;cases z
     ·have z2:=un.frzs b ob _ z;obtain ⟨e1,_⟩:=hok b _ z;obtain ⟨e2,_⟩:=hok' b _ z2;rw [e] at e1;cases e1;exact e2
 cases hk:K.lookup a with
 | some o=>
  have e:=KX a o hk;rw [ha] at e;cases e;refine core (λ _=>none) (λ _=>.inl rfl) (.inr ⟨_,vs.toArray,_,hk,rfl,rfl,rfl,by rw [C1,lenV];exact hl,by simpa using rv⟩) (λ b u z=>by have z':(none:Option HO)=some u:=z;cases z') (λ b z=>absurd rfl z) λ z=>absurd rfl z
 | none=>
  refine core (λ b=>if b=a then some (.frz { cls:=.type "list",data:=.seq vs.toArray } (.lst (ns.map V.int))) else none) (λ b=>?_) (.inl (.inr ⟨{ cls:=.type "list",data:=.seq vs.toArray },if_pos rfl⟩)) (λ b u z=>?_) (λ b z=>?_) λ _=>hk
  ·by_cases hb:b=a
   ·exact .inr ⟨_,_,if_pos hb⟩
   ·exact .inl (if_neg hb)
  ·by_cases hb:b=a
   ·have z':=(if_pos hb).symm.trans z;cases z';subst hb;exact ⟨ha,by rw [AD];exact hl,vs,_,rv,ha⟩
   ·have z':=(if_neg hb).symm.trans z;cases z'
  ·by_cases hb:b=a
   ·exact hb
   ·exact absurd (if_neg hb) z
structure Fun (K:PySem.W.Frag) (x qual:Str) (st:Stmt) (f:Addr) (fd:Dv):Prop where
 ex:∃ (oc:Ae) (od:Option Addr) (kV doc pm:Ae) (an:Option Addr) (cdv ct:Ae) (osl:Array (Option Ae)),
  fd=Kw x qual (Lo st) (EA st) (AY st) .none kV doc pm an cdv ct/\K.lookup f=some ⟨oc,od,.func fd,osl⟩/\QT K cdv qual=true
 kp:Jp K (.ref f)=true
section
variable {P:AF}{w:AB}{K:PySem.W.Frag}{mg:Str->Option Ae}{base:Heap}
def Fun.binds {x qual:Str}{st:Stmt}{f:Addr}{fd:Dv}{ps:List Str} (F:Fun K x qual st f fd)
  (h:∀ (kV doc pm:Ae) (an:Option Addr) (cdv ct:Ae) (us:List Ae),us.length=ps.length->bindArgs (Kw x qual (Lo st) (EA st) (AY st) .none kV doc pm an cdv ct) ⟨us,[]⟩=pure (ps.zip us)):qap K fd ps []:=by
 obtain ⟨oc,od,kV,doc,pm,an,cdv,ct,osl,rfl,lk,hcd⟩:=F.ex;exact .all (h kV doc pm an cdv ct)
def xY {x qual:Str}{st:Stmt}{f:Addr}{oc:Ae}{od an:Option Addr}{osl:Array (Option Ae)}{kV doc pm cdv ct:Ae} (l:K.lookup f=some ⟨oc,od,.func (Kw x qual (Lo st) (EA st) (AY st) .none kV doc pm an cdv ct),osl⟩)
  (c:QT K cdv qual=true) (k:Jp K (.ref f)=true):Fun K x qual st f (Kw x qual (Lo st) (EA st) (AY st) .none kV doc pm an cdv ct):=⟨⟨oc,od,kV,doc,pm,an,cdv,ct,osl,rfl,l,c⟩,k⟩
end
section
variable {X:Cx}
end
end L2
namespace QQ
open PySem PySem.Spec PyProof.Rows L2
abbrev St:=L2.St
def KL (K:Frag) (a:Addr) (xs:List V):Prop:=∃ (o:Obj) (its:Array Ae) (n:Nat),K.lookup a=some o/\o.cls=.type "list" /\ o.dict=none/\o.data=.seq its n/\its.size<=Aw/\Vals xs its.toList
def X1 {K:Frag}{H:Hp}{a:Addr}{xs:List V} (h:Co K H a xs):R4 K "list" (.ref a) H:=.inl ⟨rfl,xs,h⟩
def ZW (z:Str):It:=⟨λ i _=>i < z.cps.size,λ i H v H'=>H'=H/\∃ c,z.cps[i]?=some c/\v=.str ⟨#[c]⟩,λ i _=>z.cps.size<=i⟩
def OP (z:Str):Bool:=z.cps.all (·< 128)
def Gu (K:Frag) (tl:TE):TI:=λ σ H R=>tl σ H λ x H1=>(∃ a,x=.ref a/\(((∃ xs,Co K H1 a xs)/\R (ZV K a) H1)\/((∃ xs,Dq K H1 a xs)/\R (ZU K a) H1)))\/∃ z,x=.str z/\OP z=true/\R (ZW z) H1
def J7 (k:Nat) (wi:TI) (g:TG) (tc:TT) (te:TE):TE:=λ σ H Q=>wi σ H λ J H1=>∀ D,H1 D=none->∃ W:Nat->Nat->List V->Hp->Prop,(∃ m,W 0 m [] (Aq H1 D (.lst [])))/\∀ i m ys H,W i m ys H->H D=some (.lst ys) /\
 ((J.stop i H/\Q (.ref D) H)\/(J.go i H/\∀ x H',J.yld i H x H'->g x (σ++Bo k none) H' λ σ2 H2=>tc σ2 H2 λ b H3=>if b=true then te σ2 H3 λ y H4=>H4 D=some (.lst ys)/\ys.length < Aw/\∃ m',m' < m/\W (i + 1) m' (ys++[y]) (Aq H4 D (.lst (ys++[y]))) else ∃ m',m' < m/\W (i + 1) m' ys H3))
inductive MO where
 | l (xs:List V) | d (kvs:List (List Be×V))
def MO.ho:MO->HO
 | .l xs=>.lst xs
 | .d kvs=>.dT kvs
def Fp (a C:Addr) (h:Heap):Prop:=∃ o vs,h.get? a=some o/\o.cls=.ref C/\o.data=.fields vs
def om:Nat:=1000
def pd (d:Nat):Nat:=if d=om then om else d - 1
def GQ:pd om=om:=rfl
def ke:pd 0=0:=rfl
mutual
def Own (K:Frag) (H:Hp) (Z:Addr->Prop):PV->Nat->V->List Addr->Prop
 | .non,_,v,fp=>v=.non/\fp=[]
 | .bl b,_,v,fp=>v=.bl b/\fp=[]
 | .int i,_,v,fp=>v=.int i/\fp=[]
 | .str x,_,v,fp=>v=.str x/\fp=[]
 | .emp,_,v,fp=>fp=[]/\∃ a,v=.ref a/\H a=some (.dK [])
 | .dko,_,v,fp=>fp=[]/\∃ a,v=.ref a/\∃ kvs,H a=some (.dK kvs)
 | .scr ns,_,v,fp=>fp=[]/\∃ a,v=.ref a/\((∃ o,H a=some (.frz o (.lst (ns.map V.int))))\/KL K a (ns.map V.int))
 | .exn c,_,v,fp=>fp=[]/\∃ a C,v=.ref a/\C6 K c=some C/\H a=some (.ext (Fp a C))
 | .dct kvs,d,v,fp=>∃ a,v=.ref a/\((d=0/\(H a=some (.dT kvs)/\¬ Z a)/\fp=[])\/(d≠0/\H a=some (.dT kvs)/\fp=[a]))
 | .lst xs,d,v,fp=>∃ a vs,v=.ref a/\((d=0/\(H a=some (.lst vs)/\¬ Z a)/\fp=[]/\OwnL K H Z xs 0 vs [])\/(d≠0/\∃ f,H a=some (.lst vs)/\fp=a::f/\a∉f/\OwnL K H Z xs (pd d) vs f))
 | .tup xs,d,v,fp=>∃ a vs,v=.ref a/\H a=some (.tup vs)/\OwnL K H Z xs (pd d) vs fp
def OwnL (K:Frag) (H:Hp) (Z:Addr->Prop):List PV->Nat->List V->List Addr->Prop
 | [],_,vs,fp=>vs=[]/\fp=[]
 | x::xs,d,vs,fp=>∃ v r f1 f2,vs=v::r/\fp=f1++f2/\(∀ a∈f1,a∉f2)/\Own K H Z x d v f1/\OwnL K H Z xs d r f2
end
def Dh (S:Addr->Prop) (H H':Hp):Prop:=∀ a o,H a=some o->¬ S a->H' a=some o
section
variable {K:Frag}{H H':Hp}{Z Z' S:Addr->Prop}
mutual
theorem Own.lsts:∀ (x:PV) (d:Nat) (v:V) (fp:List Addr),Own K H Z x d v fp->∀ a∈fp,∃ o:MO,H a=some o.ho
 | .non,_,_,_,h,a,ha=>by rw [Own] at h;rw [h.2] at ha;cases ha
 | .bl _,_,_,_,h,a,ha=>by rw [Own] at h;rw [h.2] at ha;cases ha
 | .int _,_,_,_,h,a,ha=>by rw [Own] at h;rw [h.2] at ha;cases ha
 | .str _,_,_,_,h,a,ha=>by rw [Own] at h;rw [h.2] at ha;cases ha
 | .emp,_,_,_,h,a,ha=>by rw [Own] at h;rw [h.1] at ha;cases ha
 | .dko,_,_,_,h,a,ha=>by rw [Own] at h;rw [h.1] at ha;cases ha
 | .scr _,_,_,_,h,a,ha=>by rw [Own] at h;rw [h.1] at ha;cases ha
 | .exn _,_,_,_,h,a,ha=>by rw [Own] at h;rw [h.1] at ha;cases ha
 | .dct kvs,d,v,fp,h,a,ha=>by
  rw [Own] at h;obtain ⟨b,_,⟨_,_,e⟩ | ⟨_,hb,e⟩⟩:=h
  ·rw [e] at ha;cases ha
  ·rw [e] at ha;rw [jb1.mp ha];exact ⟨.d kvs,hb⟩
 | .lst xs,d,v,fp,h,a,ha=>by
  rw [Own] at h;obtain ⟨b,vs,_,⟨_,_,e,_⟩ | ⟨_,f,hb,e,_,hl⟩⟩:=h
  ·rw [e] at ha;cases ha
  ·rw [e] at ha;rcases jb2.mp ha with z | z
   ·exact ⟨.l vs,by rw [z];exact hb⟩
   ·exact OwnL.lsts xs _ vs f hl a z
 | .tup xs,d,v,fp,h,a,ha=>by
  rw [Own] at h;obtain ⟨b,vs,_,_,hl⟩:=h;exact OwnL.lsts xs _ vs fp hl a ha
theorem OwnL.lsts:∀ (xs:List PV) (d:Nat) (vs:List V) (fp:List Addr),OwnL K H Z xs d vs fp->∀ a∈fp,∃ o:MO,H a=some o.ho
 | [],_,_,_,h,a,ha=>by rw [OwnL] at h;rw [h.2] at ha;cases ha
 | x::xs,d,vs,fp,h,a,ha=>by
  rw [OwnL] at h;obtain ⟨v,r,f1,f2,_,e,_,h1,h2⟩:=h;rw [e] at ha;rcases jc6.mp ha with z | z
  ·exact Own.lsts x d v f1 h1 a z
  ·exact OwnL.lsts xs d r f2 h2 a z
end
mutual
theorem Own.move (k:Dh S H H') (hS:∀ a,S a->Z a/\∃ o:MO,H a=some o.ho) (hz:∀ a,H a≠none->¬ Z a->¬ Z' a):
  ∀ (x:PV) (d:Nat) (v:V) (fp:List Addr),(∀ a∈fp,¬ S a)->Own K H Z x d v fp->Own K H' Z' x d v fp
 | .non,_,_,_,_,h=>by rw [Own] at h ⊢;exact h
 | .bl _,_,_,_,_,h=>by rw [Own] at h ⊢;exact h
 | .int _,_,_,_,_,h=>by rw [Own] at h ⊢;exact h
 | .str _,_,_,_,_,h=>by rw [Own] at h ⊢;exact h
 | .emp,_,_,_,_,h=>by
  rw [Own] at h ⊢;obtain ⟨e,a,ev,ha⟩:=h;exact ⟨e,a,ev,k a _ ha λ s=>by obtain ⟨_,o,e⟩:=hS a s;rw [ha] at e;cases o <;> cases e⟩
 | .dko,_,_,_,_,h=>by
  rw [Own] at h ⊢;obtain ⟨e,a,ev,kvs,ha⟩:=h;exact ⟨e,a,ev,kvs,k a _ ha λ s=>by obtain ⟨_,o,e⟩:=hS a s;rw [ha] at e;cases o <;> cases e⟩
 | .scr ns,_,_,_,_,h=>by
  rw [Own] at h ⊢;obtain ⟨e,a,ev,⟨o,ha⟩ | ha⟩:=h
  ·exact ⟨e,a,ev,.inl ⟨o,k a _ ha λ s=>by obtain ⟨_,q,e⟩:=hS a s;rw [ha] at e;cases q <;> cases e⟩⟩
  ·exact ⟨e,a,ev,.inr ha⟩
 | .exn c,_,_,_,_,h=>by
  rw [Own] at h ⊢;obtain ⟨e,a,C,ev,hc,ha⟩:=h;exact ⟨e,a,C,ev,hc,k a _ ha λ s=>by obtain ⟨_,q,e⟩:=hS a s;rw [ha] at e;cases q <;> cases e⟩
 | .dct kvs,d,v,fp,hf,h=>by
  rw [Own] at h ⊢;obtain ⟨b,ev,⟨d0,hr,e⟩ | ⟨d0,hb,e⟩⟩:=h
  ·exact ⟨b,ev,.inl ⟨d0,⟨k b _ hr.1 λ s=>hr.2 (hS b s).1,hz b (by rw [hr.1];simp) hr.2⟩,e⟩⟩
  ·exact ⟨b,ev,.inr ⟨d0,k b _ hb (hf b (by rw [e];exact AR)),e⟩⟩
 | .lst xs,d,v,fp,hf,h=>by
  rw [Own] at h ⊢;obtain ⟨b,vs,ev,⟨d0,hr,e,hl⟩ | ⟨d0,f,hb,e,nb,hl⟩⟩:=h
  ·refine ⟨b,vs,ev,.inl ⟨d0,?_,e,OwnL.move k hS hz xs 0 vs [] (λ _ z=>nomatch z) hl⟩⟩;exact ⟨k b _ hr.1 λ s=>hr.2 (hS b s).1,hz b (by rw [hr.1];simp) hr.2⟩
  ·refine ⟨b,vs,ev,.inr ⟨d0,f,k b _ hb (hf b (by rw [e];exact AR)),e,nb,?_⟩⟩;exact OwnL.move k hS hz xs _ vs f (λ a ha=>hf a (by rw [e];exact AO _ ha)) hl
 | .tup xs,d,v,fp,hf,h=>by
  rw [Own] at h ⊢;obtain ⟨b,vs,ev,hr,hl⟩:=h;exact ⟨b,vs,ev,k b _ hr (λ s=>by obtain ⟨_,o,e⟩:=hS b s;rw [hr] at e;cases o <;> cases e),OwnL.move k hS hz xs _ vs fp hf hl⟩
theorem OwnL.move (k:Dh S H H') (hS:∀ a,S a->Z a/\∃ o:MO,H a=some o.ho) (hz:∀ a,H a≠none->¬ Z a->¬ Z' a):
  ∀ (xs:List PV) (d:Nat) (vs:List V) (fp:List Addr),(∀ a∈fp,¬ S a)->OwnL K H Z xs d vs fp->OwnL K H' Z' xs d vs fp
 | [],_,_,_,_,h=>by rw [OwnL] at h ⊢;exact h
 | x::xs,d,vs,fp,hf,h=>by
  rw [OwnL] at h ⊢;obtain ⟨v,r,f1,f2,e1,e,dj,h1,h2⟩:=h;exact ⟨v,r,f1,f2,e1,e,dj,Own.move k hS hz x d v f1 (λ a ha=>hf a (by rw [e];exact BG _ ha)) h1,OwnL.move k hS hz xs d r f2 (λ a ha=>hf a (by rw [e];exact Bq _ ha)) h2⟩
end
mutual
theorem Own.freeze (hz:∀ a,Z' a->Z a):∀ (x:PV) (d:Nat) (v:V) (fp:List Addr),(∀ a∈fp,¬ Z' a)->Own K H Z x d v fp->Own K H Z' x 0 v []
 | .non,_,_,_,_,h=>by rw [Own] at h ⊢;exact ⟨h.1,rfl⟩
 | .bl _,_,_,_,_,h=>by rw [Own] at h ⊢;exact ⟨h.1,rfl⟩
 | .int _,_,_,_,_,h=>by rw [Own] at h ⊢;exact ⟨h.1,rfl⟩
 | .str _,_,_,_,_,h=>by rw [Own] at h ⊢;exact ⟨h.1,rfl⟩
 | .emp,_,_,_,_,h=>by rw [Own] at h ⊢;exact ⟨rfl,h.2⟩
 | .dko,_,_,_,_,h=>by rw [Own] at h ⊢;exact ⟨rfl,h.2⟩
 | .scr _,_,_,_,_,h=>by rw [Own] at h ⊢;exact ⟨rfl,h.2⟩
 | .exn _,_,_,_,_,h=>by rw [Own] at h ⊢;exact ⟨rfl,h.2⟩
 | .dct kvs,d,v,fp,hf,h=>by
  rw [Own] at h ⊢;obtain ⟨b,ev,⟨d0,hr,e⟩ | ⟨d0,hb,e⟩⟩:=h
  ·exact ⟨b,ev,.inl ⟨rfl,⟨hr.1,λ z=>hr.2 (hz b z)⟩,rfl⟩⟩
  ·exact ⟨b,ev,.inl ⟨rfl,⟨hb,hf b (by rw [e];exact AR)⟩,rfl⟩⟩
 | .lst xs,d,v,fp,hf,h=>by
  rw [Own] at h ⊢;obtain ⟨b,vs,ev,⟨d0,hr,e,hl⟩ | ⟨d0,f,hb,e,nb,hl⟩⟩:=h
  ·refine ⟨b,vs,ev,.inl ⟨rfl,?_,rfl,OwnL.freeze hz xs 0 vs [] (λ _ z=>nomatch z) hl⟩⟩;exact ⟨hr.1,λ z=>hr.2 (hz b z)⟩
  ·exact ⟨b,vs,ev,.inl ⟨rfl,⟨hb,hf b (by rw [e];exact AR)⟩,rfl,OwnL.freeze hz xs _ vs f (λ a ha=>hf a (by rw [e];exact AO _ ha)) hl⟩⟩
 | .tup xs,d,v,fp,hf,h=>by
  rw [Own] at h ⊢;obtain ⟨b,vs,ev,hr,hl⟩:=h;exact ⟨b,vs,ev,hr,OwnL.freeze hz xs _ vs fp hf hl⟩
theorem OwnL.freeze (hz:∀ a,Z' a->Z a):∀ (xs:List PV) (d:Nat) (vs:List V) (fp:List Addr),(∀ a∈fp,¬ Z' a)->OwnL K H Z xs d vs fp->OwnL K H Z' xs 0 vs []
 | [],_,_,_,_,h=>by rw [OwnL] at h ⊢;exact ⟨h.1,rfl⟩
 | x::xs,d,vs,fp,hf,h=>by
  rw [OwnL] at h ⊢;obtain ⟨v,r,f1,f2,e1,e,dj,h1,h2⟩:=h;exact ⟨v,r,[],[],e1,rfl,λ _ z=>(nomatch z),Own.freeze hz x d v f1 (λ a ha=>hf a (by rw [e];exact BG _ ha)) h1,OwnL.freeze hz xs d r f2 (λ a ha=>hf a (by rw [e];exact Bq _ ha)) h2⟩
end
mutual
theorem Own.full:∀ (x:PV) (v:V) (fp:List Addr),Own K H Z x om v fp->Own K H Z' x om v fp
 | .non,_,_,h=>by rw [Own] at h ⊢;exact h
 | .bl _,_,_,h=>by rw [Own] at h ⊢;exact h
 | .int _,_,_,h=>by rw [Own] at h ⊢;exact h
 | .str _,_,_,h=>by rw [Own] at h ⊢;exact h
 | .emp,_,_,h=>by rw [Own] at h ⊢;exact h
 | .dko,_,_,h=>by rw [Own] at h ⊢;exact h
 | .scr _,_,_,h=>by rw [Own] at h ⊢;exact h
 | .exn _,_,_,h=>by rw [Own] at h ⊢;exact h
 | .dct kvs,v,fp,h=>by
  rw [Own] at h ⊢;obtain ⟨b,ev,⟨d0,_⟩ | ⟨d0,hb,e⟩⟩:=h
  ·exact absurd d0 (by decide)
  ·exact ⟨b,ev,.inr ⟨d0,hb,e⟩⟩
 | .lst xs,v,fp,h=>by
  rw [Own] at h ⊢;obtain ⟨b,vs,ev,⟨d0,_⟩ | ⟨d0,f,hb,e,nb,hl⟩⟩:=h
  ·exact absurd d0 (by decide)
  ·exact ⟨b,vs,ev,.inr ⟨d0,f,hb,e,nb,OwnL.full xs vs f hl⟩⟩
 | .tup xs,v,fp,h=>by
  rw [Own] at h ⊢;obtain ⟨b,vs,ev,hr,hl⟩:=h;exact ⟨b,vs,ev,hr,OwnL.full xs vs fp hl⟩
theorem OwnL.full:∀ (xs:List PV) (vs:List V) (fp:List Addr),OwnL K H Z xs om vs fp->OwnL K H Z' xs om vs fp
 | [],_,_,h=>by rw [OwnL] at h ⊢;exact h
 | x::xs,vs,fp,h=>by
  rw [OwnL] at h ⊢;obtain ⟨v,r,f1,f2,e1,e,dj,h1,h2⟩:=h;exact ⟨v,r,f1,f2,e1,e,dj,Own.full x v f1 h1,OwnL.full xs r f2 h2⟩
end
def Own.weak (hz:∀ a,Z' a->Z a) {x:PV}{d:Nat}{v:V}{fp:List Addr} (h:Own K H Z x d v fp):Own K H Z' x d v fp:=
 Own.move (S:=λ _=>False) (λ _ _ h _=>h) (λ _ z=>z.elim) (λ a _ n z=>n (hz a z)) x d v fp (λ _ _ z=>z) h
def OwnL.weak (hz:∀ a,Z' a->Z a) {xs:List PV}{d:Nat}{vs:List V}{fp:List Addr} (h:OwnL K H Z xs d vs fp):OwnL K H Z' xs d vs fp:=
 OwnL.move (S:=λ _=>False) (λ _ _ h _=>h) (λ _ z=>z.elim) (λ a _ n z=>n (hz a z)) xs d vs fp (λ _ _ z=>z) h
end
abbrev Slot:=Option (PV×Nat)
abbrev Ag:=List Slot
inductive Rz (α:Type) where
 | ok (a:α) | exc (c:Nat) | no
def Rz.bind {α β:Type} (r:Rz α) (f:α->Rz β):Rz β:=match r with
 | .ok a=>f a
 | .exc c=>.exc c
 | .no=>.no
abbrev Fx:=Ag->Rz (PV×Nat×Ag)
abbrev Fa:=Ag->Rz (List (PV×Nat)×Ag)
abbrev Fb:=Ag->Rz (Bool×Ag)
structure Fm where
 K:Frag
 Ms:Nat->Bool
 Zo:Addr->Prop
 H₀:Hp
 W:St->Nat->Hp->Prop
 io:Option V
 al:Nat->List Nat
 pn:List (Nat×V):=[]
abbrev AX:=Nat->List Addr
def Fm.Fre (M:Fm) (i:Nat):Prop:=(M.io≠none->i≠0)/\∀ p∈M.pn,p.1≠i
def Zf (M:Fm) (fps:AX):Addr->Prop:=λ a=>M.Zo a\/∃ i,a∈fps i
def Zv (M:Fm) (vs:List Nat) (fps:AX):Addr->Prop:=λ a=>M.Zo a\/∃ i,i∉vs/\a∈fps i
def Za (M:Fm) (fps:AX) (i:Nat):Addr->Prop:=λ a=>M.Zo a\/∃ j,j∉M.al i/\a∈fps j
def Zt (M:Fm) (vs:List Nat) (fps:AX) (fp:List Addr):Addr->Prop:=λ a=>Zv M vs fps a\/a∈fp
def Fm.plus (M:Fm) (fp:List Addr):Fm:={ M with Zo:=λ a=>M.Zo a\/a∈fp }
structure Rep (M:Fm) (ρ:Ag) (σ:St) (H:Hp) (fps:AX):Prop where
 own:∀ i x d,ρ[i]?=some (some (x,d))->∃ v,σ[i]?=some (some v)/\Own M.K H (Za M fps i) x d v (fps i)
 non:∀ i,(∀ p,ρ[i]?≠some (some p))->fps i=[]
 dj:∀ i j,i≠j->∀ a∈fps i,a∉fps j
 zo:∀ i,∀ a∈fps i,¬ M.Zo a
 fr:∀ i,M.Ms i=false->∀ a∈fps i,M.H₀ a=none
 zd:∀ a,M.Zo a->H a≠none
 len:ρ.length=σ.length
 msf:∀ i x d,M.Ms i=true->ρ[i]?=some (some (x,d))->d=om
 h0:∀ a,M.H₀ a≠none->H a≠none
 iov:(∀ v,M.io=some v->σ[0]?=some (some v)/\M.Ms 0=true)/\∀ p∈M.pn,σ[p.1]?=some (some p.2)
def Agr (M:Fm) (ρ ρ':Ag):Prop:=(∀ i,M.Ms i=false->ρ'[i]?=ρ[i]?)/\ρ'.length=ρ.length
structure KD (M:Fm) (H:Hp) (fps:AX) (H':Hp) (fps':AX):Prop where
 keep:Dh (λ a=>∃ i,M.Ms i=true/\a∈fps i) H H'
 dom:∀ a,H a≠none->H' a≠none
 sub:∀ i,∀ a∈fps' i,a∈fps i\/H a=none
 same:∀ i,M.Ms i=false->fps' i=fps i
def Tmps (K:Frag) (H:Hp) (Z:Addr->Prop):List (PV×Nat)->List V->List Addr->Prop
 | [],vs,fp=>vs=[]/\fp=[]
 | (x,d)::xs,vs,fp=>∃ v r f1 f2,vs=v::r/\fp=f1++f2/\(∀ a∈f1,a∉f2)/\Own K H (λ a=>Z a\/a∈f1) x d v f1/\Tmps K H Z xs r f2
structure Temp (M:Fm) (vs:List Nat) (H:Hp) (H':Hp) (fps':AX) (fp:List Addr):Prop where
 new:∀ a∈fp,H a=none
 ndj:∀ a∈fp,¬ Zf M fps' a
section
variable {M:Fm}{ρ ρ':Ag}{σ:St}{H H' H'':Hp}{fps fps' fps'':AX}{vs vs':List Nat}
def Agr.refl:Agr M ρ ρ:=⟨λ _ _=>rfl,rfl⟩
def Agr.trans {ρ'':Ag} (a:Agr M ρ ρ') (b:Agr M ρ' ρ''):Agr M ρ ρ'':=⟨λ i hi=>(b.1 i hi).trans (a.1 i hi),b.2.trans a.2⟩
def KD.refl:KD M H fps H fps:=⟨λ _ _ h _=>h,λ _ h=>h,λ _ _ h=>.inl h,λ _ _=>rfl⟩
def KD.trans (a:KD M H fps H' fps') (b:KD M H' fps' H'' fps''):KD M H fps H'' fps'' where
 keep:=λ x o h n=>b.keep x o (a.keep x o h n) λ ⟨i,hi,hx⟩=>(a.sub i x hx).elim (λ z=>n ⟨i,hi,z⟩) λ z=>by rw [z] at h;cases h
 dom:=λ x h=>b.dom x (a.dom x h)
 sub:=λ i x hx=>(b.sub i x hx).elim (λ z=>a.sub i x z) λ z=>.inr (by
  cases e:H x with
  | none=>rfl
  | some o=>exact absurd z (a.dom x (by rw [e];simp)))
 same:=λ i hi=>(b.same i hi).trans (a.same i hi)
def Za.zf {i:Nat}{a:Addr} (h:Za M fps i a):Zf M fps a:=h.elim .inl λ ⟨j,_,h⟩=>.inr ⟨j,h⟩
def Za.of {i:Nat} (hal:M.al i=[]) {a:Addr} (h:Zf M fps a):Za M fps i a:=h.elim .inl λ ⟨j,h⟩=>.inr ⟨j,(by rw [hal];simp),h⟩
def Rep.own0 (r:Rep M ρ σ H fps) (hal:∀ i,M.al i=[]) (i:Nat) (x:PV) (d:Nat) (e:ρ[i]?=some (some (x,d))):∃ v,σ[i]?=some (some v)/\Own M.K H (Zf M fps) x d v (fps i):=
 let ⟨v,h1,h2⟩:=r.own i x d e;⟨v,h1,h2.weak λ _ h=>Za.of (hal i) h⟩
def Rep.lsts (r:Rep M ρ σ H fps) {i:Nat}{a:Addr} (h:a∈fps i):∃ o:MO,H a=some o.ho:=by
 by_cases hp:∃ p,ρ[i]?=some (some p)
 ·obtain ⟨⟨x,d⟩,e⟩:=hp;obtain ⟨v,_,o⟩:=r.own i x d e;exact Own.lsts x d v _ o a h
 ·rw [r.non i λ p e=>hp ⟨p,e⟩] at h;cases h
def Rep.zdom (r:Rep M ρ σ H fps) {a:Addr} (h:Zf M fps a):H a≠none:=by
 rcases h with h | ⟨i,h⟩
 ·exact r.zd a h
 ·obtain ⟨xs,e⟩:=r.lsts h;rw [e];simp
def Rep.nz (r:Rep M ρ σ H fps) {a:Addr} (h:H a=none):¬ Zf M fps a:=λ z=>r.zdom z h
def Zv.zf {a:Addr} (h:Zv M vs fps a):Zf M fps a:=h.elim .inl λ ⟨i,_,h⟩=>.inr ⟨i,h⟩
def Zv.mono (hv:∀ i∈vs',i∈vs) {a:Addr} (h:Zv M vs fps a):Zv M vs' fps a:=h.elim .inl λ ⟨i,n,h⟩=>.inr ⟨i,λ z=>n (hv i z),h⟩
def Zt.mono (hv:∀ i∈vs',i∈vs) {a:Addr}{fp:List Addr} (h:Zt M vs fps fp a):Zt M vs' fps fp a:=h.elim (λ h=>.inl (h.mono hv)) .inr
def KD.stay (k:KD M H fps H' fps') (r:Rep M ρ σ H fps) (hv:∀ i∈vs,M.Ms i=false) {x:PV}{d:Nat}{v:V}{fp:List Addr} (h:Own M.K H (Zt M vs fps fp) x d v fp) (hf:∀ a∈fp,¬ Zf M fps a):Own M.K H' (Zt M vs fps' fp) x d v fp:=by
 have h1:∀ a,(∃ i,M.Ms i=true/\a∈fps i)->Zt M vs fps fp a/\∃ o:MO,H a=some o.ho:=by
  rintro a ⟨i,hi,ha⟩;exact ⟨.inl (.inr ⟨i,λ z=>(by rw [hv i z] at hi;cases hi),ha⟩),r.lsts ha⟩
 have h2:∀ a,H a≠none->¬ Zt M vs fps fp a->¬ Zt M vs fps' fp a:=by
  intro a hd nz z;rcases z with (z | ⟨i,ni,hx⟩) | z
  ·exact nz (.inl (.inl z))
  ·rcases k.sub i a hx with z | z
   ·exact nz (.inl (.inr ⟨i,ni,z⟩))
   ·exact hd z
  ·exact nz (.inr z)
 exact Own.move k.keep h1 h2 x d v fp (λ a ha ⟨i,_,hx⟩=>hf a ha (.inr ⟨i,hx⟩)) h
theorem KD.stays (k:KD M H fps H' fps') (r:Rep M ρ σ H fps) (hv:∀ i∈vs,M.Ms i=false):∀ {xs:List (PV×Nat)}{ws:List V}{fp:List Addr},Tmps M.K H (Zv M vs fps) xs ws fp->(∀ a∈fp,¬ Zf M fps a)->Tmps M.K H' (Zv M vs fps') xs ws fp
 | [],_,_,h,_=>h
 | (x,d)::xs,ws,fp,h,hf=>by
  obtain ⟨v,s,f1,f2,e1,e2,dj,h1,h2⟩:=h;exact ⟨v,s,f1,f2,e1,e2,dj,k.stay r hv h1 λ a ha=>hf a (by rw [e2];exact BG _ ha),k.stays r hv h2 λ a ha=>hf a (by rw [e2];exact Bq _ ha)⟩
theorem Tmps.weak {K:Frag}{Z Z':Addr->Prop} (hz:∀ a,Z' a->Z a):∀ {xs:List (PV×Nat)}{ws:List V}{fp:List Addr},Tmps K H Z xs ws fp->Tmps K H Z' xs ws fp
 | [],_,_,h=>h
 | (x,d)::xs,ws,fp,h=>by
  obtain ⟨v,s,f1,f2,e1,e2,dj,h1,h2⟩:=h;exact ⟨v,s,f1,f2,e1,e2,dj,h1.weak λ a h=>h.elim (λ h=>.inl (hz a h)) .inr,h2.weak hz⟩
theorem KD.grow (k:∀ a o,H a=some o->H' a=some o):KD M H fps H' fps:=⟨λ a o h _=>k a o h,λ a h=>by
 cases e:H a with
 | none=>exact absurd e h
 | some o=>rw [k a o e];simp,λ _ _ h=>.inl h,λ _ _=>rfl⟩
def Rep.grow (r:Rep M ρ σ H fps) (k:∀ a o,H a=some o->H' a=some o):Rep M ρ σ H' fps where
 own:=λ i x d e=>by
  obtain ⟨v,hv,o⟩:=r.own i x d e;exact ⟨v,hv,Own.move (S:=λ _=>False) (λ a o h _=>k a o h) (λ _ z=>z.elim) (λ _ _ n=>n) x d v _ (λ _ _ z=>z) o⟩
 non:=r.non
 dj:=r.dj
 zo:=r.zo
 fr:=r.fr
 zd:=λ a h=>(KD.grow (M:=M) (fps:=fps) k).dom a (r.zd a h)
 len:=r.len
 msf:=r.msf
 h0:=λ a h=>(KD.grow (M:=M) (fps:=fps) k).dom a (r.h0 a h)
 iov:=r.iov
end
def tE (M:Fm) (f:Fx) (vs:List Nat):TE:=λ σ H Q=>∃ ρ fps,Rep M ρ σ H fps/\(match f ρ with
 | .ok (x,d,ρ')=>∀ v H' fps' fp,KD M H fps H' fps'->Agr M ρ ρ'->Rep M ρ' σ H' fps'->Own M.K H' (Zt M vs fps' fp) x d v fp->Temp M vs H H' fps' fp->Q v H'
 | .exc c=>∀ H' fps',KD M H fps H' fps'->M.W σ c H'
 | .no=>False)
def tL (M:Fm) (f:Fa) (vs:List Nat):TA:=λ σ H Q=>∃ ρ fps,Rep M ρ σ H fps/\(match f ρ with
 | .ok (xs,ρ')=>∀ ws H' fps' fp,KD M H fps H' fps'->Agr M ρ ρ'->Rep M ρ' σ H' fps'->Tmps M.K H' (Zv M vs fps') xs ws fp->Temp M vs H H' fps' fp->Q ws H'
 | .exc c=>∀ H' fps',KD M H fps H' fps'->M.W σ c H'
 | .no=>False)
def tT (M:Fm) (f:Fb):TT:=λ σ H Q=>∃ ρ fps,Rep M ρ σ H fps/\(match f ρ with
 | .ok (b,ρ')=>∀ H' fps',KD M H fps H' fps'->Agr M ρ ρ'->Rep M ρ' σ H' fps'->Q b H'
 | .exc c=>∀ H' fps',KD M H fps H' fps'->M.W σ c H'
 | .no=>False)
def BP (M:Fm) (H:Hp) (fps:AX) (vs:List Nat) (F:List Addr) (z:PV) (d:Nat) (Q:VK):Prop:=
 ∀ u H' fp,(∀ a o,H a=some o->H' a=some o)->Own M.K H' (Zt M vs fps fp) z d u fp->(∀ a∈fp,a∈F\/H a=none)->Q u H'
section
variable {M:Fm}{ρ ρ':Ag}{σ:St}{H H' H'':Hp}{fps fps' fps'':AX}{vs vs':List Nat}{f g:Fx}{fa:Fa}{fb:Fb}{Q:VK}
def bC (x:PV):Fx:=λ ρ=>.ok (x,om,ρ)
def JZ {x:PV}{v:V} (h:∀ K H Z,Own K H Z x om v []) {σ:St}{H:Hp}{Q:VK} (hq:tE M (bC x) [] σ H Q):tC v σ H Q:=by
 obtain ⟨ρ,fps,rep,q⟩:=hq;exact q v H fps [] KD.refl Agr.refl rep (h _ _ _) ⟨λ _ z=>(nomatch z),λ _ z=>nomatch z⟩
def dv:PV->Nat
 | .lst _=>0
 | .tup _=>0
 | .dct _=>0
 | _=>om
def Aa (i:Nat):Fx:=λ ρ=>match ρ[i]? with
 | some (some (x,_))=>.ok (x,dv x,ρ)
 | _=>.no
theorem Own.view {K:Frag}{Z Z':Addr->Prop}{x:PV}{d:Nat}{v:V}{fp:List Addr} (hz:∀ a,Z' a->Z a) (hf:∀ a∈fp,¬ Z' a) (h:Own K H Z x d v fp):Own K H Z' x (dv x) v []:=by
 have q:=Own.freeze hz x d v fp hf h;cases x with
 | lst xs=>exact q
 | tup xs=>exact q
 | dct kvs=>exact q
 | exn _=>rw [Own] at q ⊢;exact q
 | non=>rw [Own] at q ⊢;exact q
 | bl _=>rw [Own] at q ⊢;exact q
 | int _=>rw [Own] at q ⊢;exact q
 | str _=>rw [Own] at q ⊢;exact q
 | emp=>rw [Own] at q ⊢;exact q
 | dko=>rw [Own] at q ⊢;exact q
 | scr _=>rw [Own] at q ⊢;exact q
theorem Wo {i:Nat}{σ:St}{H:Hp}{Q:VK} (hq:tE M (Aa i) (i::M.al i) σ H Q):CO i σ H Q:=by
 obtain ⟨ρ,fps,rep,q⟩:=hq;unfold Aa at q;cases e0:ρ[i]? with
 | none=>rw [e0] at q;exact q.elim
 | some sl=>
  cases sl with
  | none=>rw [e0] at q;exact q.elim
  | some p=>
   obtain ⟨x0,d0⟩:=p;rw [e0] at q;obtain ⟨v,hv,o⟩:=rep.own i x0 d0 e0;refine ⟨v,hv,q v H fps [] KD.refl Agr.refl rep ((o.view (Z':=Zv M (i::M.al i) fps) (λ a h=>h.elim .inl λ ⟨j,n,h⟩=>.inr ⟨j,λ z=>n (AO _ z),h⟩) λ a ha z=>?_).weak λ a h=>h.elim id λ z=>nomatch z) ⟨λ _ z=>(nomatch z),λ _ z=>nomatch z⟩⟩;rcases z with z | ⟨j,nj,hj⟩
   ·exact rep.zo i a ha z
   ·exact rep.dj i j (λ e=>nj (by simp [e])) a ha hj
def Ab (op:PV->Nat->PV->Nat->Option (PV×Nat)) (f g:Fx):Fx:=λ ρ=>(f ρ).bind λ (x,d,ρ1)=>(g ρ1).bind λ (y,e,ρ2)=>match op x d y e with
 | some (z,c)=>.ok (z,c,ρ2)
 | none=>.no
theorem El {op:PV->Nat->PV->Nat->Option (PV×Nat)}{r:R2} (hv:∀ i∈vs,M.Ms i=false)
  (leaf:∀ x d y e z c v w H fps f1 f2 Q,op x d y e=some (z,c)->Own M.K H (Zt M (vs++vs') fps f1) x d v f1->Own M.K H (Zt M (vs++vs') fps f2) y e w f2->(∀ a∈f1,a∉f2)->(∀ a∈f1++f2,¬ Zf M fps a)->(∀ a,Zf M fps a->H a≠none)->BP M H fps (vs++vs') (f1++f2) z c Q->r v w H Q)
  {σ:St}{H:Hp}{Q:VK} (hq:tE M (Ab op f g) (vs++vs') σ H Q):Jv r (tE M f vs) (tE M g vs') σ H Q:=by
 obtain ⟨ρ,fps,rep,q⟩:=hq;refine ⟨ρ,fps,rep,?_⟩;unfold Ab at q;cases ef:f ρ with
 | no=>rw [ef] at q;exact q
 | exc c=>rw [ef] at q;exact q
 | ok p=>
  obtain ⟨x,d,ρ1⟩:=p;rw [ef] at q;intro v H1 fps1 f1 k1 g1 rep1 o1 t1;refine ⟨ρ1,fps1,rep1,?_⟩;dsimp only [Rz.bind] at q;cases eg:g ρ1 with
  | no=>rw [eg] at q;exact q
  | exc c=>rw [eg] at q;exact λ H' fps' k=>q H' fps' (k1.trans k)
  | ok p2=>
   obtain ⟨y,e,ρ2⟩:=p2;rw [eg] at q;intro w H2 fps2 f2 k2 g2 rep2 o2 t2;dsimp only at q;cases eo:op x d y e with
   | none=>rw [eo] at q;exact q.elim
   | some zc=>
    obtain ⟨z,c⟩:=zc;rw [eo] at q;have o1':=k2.stay rep1 hv o1 t1.ndj;have n1:∀ a∈f1,¬ Zf M fps2 a:=λ a ha z=>by
     rcases z with z | ⟨i,z⟩
     ·exact t1.ndj a ha (.inl z)
     ·rcases k2.sub i a z with z | z
      ·exact t1.ndj a ha (.inr ⟨i,z⟩)
      ·obtain ⟨xs,e⟩:=Own.lsts x d v f1 o1 a ha;rw [z] at e;cases e
    refine leaf x d y e z c v w H2 fps2 f1 f2 Q eo (o1'.weak λ a h=>Zt.mono (λ i hi=>BG _ hi) h) (o2.weak λ a h=>Zt.mono (λ i hi=>Bq _ hi) h) (λ a h1 h2=>?_) (λ a ha=>?_) (λ a h=>rep2.zdom h) λ u H3 fp k3 o3 hfp=>?_
    ·obtain ⟨xs,e⟩:=Own.lsts x d v f1 o1 a h1;rw [t2.new a h2] at e;cases e
    ·rcases jc6.mp ha with z | z
     ·exact n1 a z
     ·exact t2.ndj a z
    ·have new:∀ a∈fp,H a=none:=λ a ha=>by
      have back:H1 a=none->H a=none:=λ e=>by
       cases e':H a with
       | none=>rfl
       | some o=>exact absurd e (k1.dom a (by rw [e'];simp))
      have back2:H2 a=none->H1 a=none:=λ e=>by
       cases e':H1 a with
       | none=>rfl
       | some o=>exact absurd e (k2.dom a (by rw [e'];simp))
      rcases hfp a ha with z | z
      ·rcases jc6.mp z with z | z
       ·exact t1.new a z
       ·exact back (t2.new a z)
      ·exact back (back2 z)
     refine q u H3 fps2 fp ((k1.trans k2).trans (KD.grow k3)) (g1.trans g2) (rep2.grow k3) o3 ⟨new,λ a ha=>?_⟩;rcases hfp a ha with z | z
     ·rcases jc6.mp z with z | z
      ·exact n1 a z
      ·exact t2.ndj a z
     ·exact rep2.nz z
end
section
variable {M:Fm}{vs vs':List Nat}{f g:Fx}{fa:Fa}{fb gb:Fb}
def Ay (op:PV->Nat->Option (PV×Nat)) (f:Fx):Fx:=λ ρ=>(f ρ).bind λ (x,d,ρ1)=>match op x d with
 | some (z,c)=>.ok (z,c,ρ1)
 | none=>.no
theorem Mj {op:PV->Nat->Option (PV×Nat)}{r:V->Hp->VK->Prop}
  (leaf:∀ x d z c v H fps f1 Q,op x d=some (z,c)->Own M.K H (Zt M vs fps f1) x d v f1->(∀ a∈f1,¬ Zf M fps a)->(∀ a,Zf M fps a->H a≠none)->BP M H fps vs f1 z c Q->r v H Q)
  {σ:St}{H:Hp}{Q:VK} (hq:tE M (Ay op f) vs σ H Q):Vm r (tE M f vs) σ H Q:=by
 obtain ⟨ρ,fps,rep,q⟩:=hq;refine ⟨ρ,fps,rep,?_⟩;unfold Ay at q;cases ef:f ρ with
 | no=>rw [ef] at q;exact q
 | exc c=>rw [ef] at q;exact q
 | ok p=>
  obtain ⟨x,d,ρ1⟩:=p;rw [ef] at q;intro v H1 fps1 f1 k1 g1 rep1 o1 t1;dsimp only [Rz.bind] at q;cases eo:op x d with
  | none=>rw [eo] at q;exact q.elim
  | some zc=>
   obtain ⟨z,c⟩:=zc;rw [eo] at q;refine leaf x d z c v H1 fps1 f1 Q eo o1 t1.ndj (λ a h=>rep1.zdom h) λ u H3 fp k3 o3 hfp=>?_;have back:∀ a,H1 a=none->H a=none:=λ a e=>by
    cases e':H a with
    | none=>rfl
    | some o=>exact absurd e (k1.dom a (by rw [e'];simp))
   refine q u H3 fps1 fp (k1.trans (KD.grow k3)) g1 (rep1.grow k3) o3 ⟨λ a ha=>(hfp a ha).elim (t1.new a) (back a),λ a ha=>(hfp a ha).elim (t1.ndj a) λ z=>rep1.nz z⟩
def Ac:Fa:=λ ρ=>.ok ([],ρ)
def Ad (f:Fx) (fa:Fa):Fa:=λ ρ=>(f ρ).bind λ (x,d,ρ1)=>(fa ρ1).bind λ (xs,ρ2)=>.ok ((x,d)::xs,ρ2)
def zN {σ:St}{H:Hp}{Q:List V->Hp->Prop} (hq:tL M Ac [] σ H Q):Ga σ H Q:=by
 obtain ⟨ρ,fps,rep,q⟩:=hq;exact q [] H fps [] KD.refl Agr.refl rep ⟨rfl,rfl⟩ ⟨λ _ z=>(nomatch z),λ _ z=>nomatch z⟩
theorem kP (hv:∀ i∈vs,M.Ms i=false) {σ:St}{H:Hp}{Q:List V->Hp->Prop} (hq:tL M (Ad f fa) (vs++vs') σ H Q):Mh (tE M f vs) (tL M fa vs') σ H Q:=by
 obtain ⟨ρ,fps,rep,q⟩:=hq;refine ⟨ρ,fps,rep,?_⟩;unfold Ad at q;cases ef:f ρ with
 | no=>rw [ef] at q;exact q
 | exc c=>rw [ef] at q;exact q
 | ok p=>
  obtain ⟨x,d,ρ1⟩:=p;rw [ef] at q;intro v H1 fps1 f1 k1 g1 rep1 o1 t1;refine ⟨ρ1,fps1,rep1,?_⟩;dsimp only [Rz.bind] at q;cases eg:fa ρ1 with
  | no=>rw [eg] at q;exact q
  | exc c=>rw [eg] at q;exact λ H' fps' k=>q H' fps' (k1.trans k)
  | ok p2=>
   obtain ⟨ys,ρ2⟩:=p2;rw [eg] at q;intro ws H2 fps2 f2 k2 g2 rep2 o2 t2;dsimp only at q;have o1':=k2.stay rep1 hv o1 t1.ndj;have n1:∀ a∈f1,¬ Zf M fps2 a:=λ a ha z=>by
    rcases z with z | ⟨i,z⟩
    ·exact t1.ndj a ha (.inl z)
    ·rcases k2.sub i a z with z | z
     ·exact t1.ndj a ha (.inr ⟨i,z⟩)
     ·obtain ⟨xs,e⟩:=Own.lsts x d v f1 o1 a ha;rw [z] at e;cases e
   have back:∀ a,H1 a=none->H a=none:=λ a e=>by
    cases e':H a with
    | none=>rfl
    | some o=>exact absurd e (k1.dom a (by rw [e'];simp))
   refine q (v::ws) H2 fps2 (f1++f2) (k1.trans k2) (g1.trans g2) rep2 ⟨v,ws,f1,f2,rfl,rfl,λ a h1 h2=>?_,o1'.weak λ a h=>Zt.mono (λ i hi=>BG _ hi) h,o2.weak λ a h=>h.mono λ i hi=>Bq _ hi⟩ ⟨λ a ha=>?_,λ a ha=>?_⟩
   ·obtain ⟨xs,e⟩:=Own.lsts x d v f1 o1 a h1;rw [t2.new a h2] at e;cases e
   ·rcases jc6.mp ha with z | z
    ·exact t1.new a z
    ·exact back a (t2.new a z)
   ·rcases jc6.mp ha with z | z
    ·exact n1 a z
    ·exact t2.ndj a z
def Ak (op:List (PV×Nat)->Option (PV×Nat)) (fa:Fa):Fx:=λ ρ=>(fa ρ).bind λ (xs,ρ1)=>match op xs with
 | some (z,c)=>.ok (z,c,ρ1)
 | none=>.no
theorem Nd {op:List (PV×Nat)->Option (PV×Nat)}{r:List V->Hp->VK->Prop}
  (leaf:∀ xs z c ws H fps fp Q,op xs=some (z,c)->Tmps M.K H (Zv M vs fps) xs ws fp->(∀ a∈fp,¬ Zf M fps a)->(∀ a,Zf M fps a->H a≠none)->BP M H fps vs fp z c Q->r ws H Q)
  {σ:St}{H:Hp}{Q:VK} (hq:tE M (Ak op fa) vs σ H Q):tL M fa vs σ H λ ws H1=>r ws H1 Q:=by
 obtain ⟨ρ,fps,rep,q⟩:=hq;refine ⟨ρ,fps,rep,?_⟩;unfold Ak at q;cases ef:fa ρ with
 | no=>rw [ef] at q;exact q
 | exc c=>rw [ef] at q;exact q
 | ok p=>
  obtain ⟨xs,ρ1⟩:=p;rw [ef] at q;intro ws H1 fps1 f1 k1 g1 rep1 o1 t1;dsimp only [Rz.bind] at q;cases eo:op xs with
  | none=>rw [eo] at q;exact q.elim
  | some zc=>
   obtain ⟨z,c⟩:=zc;rw [eo] at q;refine leaf xs z c ws H1 fps1 f1 Q eo o1 t1.ndj (λ a h=>rep1.zdom h) λ u H3 fp k3 o3 hfp=>?_;have back:∀ a,H1 a=none->H a=none:=λ a e=>by
    cases e':H a with
    | none=>rfl
    | some o=>exact absurd e (k1.dom a (by rw [e'];simp))
   refine q u H3 fps1 fp (k1.trans (KD.grow k3)) g1 (rep1.grow k3) o3 ⟨λ a ha=>(hfp a ha).elim (t1.new a) (back a),λ a ha=>(hfp a ha).elim (t1.ndj a) λ z=>rep1.nz z⟩
def bT (f:Fx):Fb:=λ ρ=>(f ρ).bind λ (x,_,ρ1)=>match x with
 | .bl b=>.ok (b,ρ1)
 | _=>.no
theorem Su {σ:St}{H:Hp}{Q:Bool->Hp->Prop} (hq:tT M (bT f) σ H Q):tB (tE M f vs) σ H Q:=by
 obtain ⟨ρ,fps,rep,q⟩:=hq;refine ⟨ρ,fps,rep,?_⟩;unfold bT at q;cases ef:f ρ with
 | no=>rw [ef] at q;exact q
 | exc c=>rw [ef] at q;exact q
 | ok p=>
  obtain ⟨x,d,ρ1⟩:=p;rw [ef] at q;intro v H1 fps1 f1 k1 g1 rep1 o1 t1;dsimp only [Rz.bind] at q;cases x with
  | bl b=>
   rw [Own] at o1;exact ⟨b,o1.1,q H1 fps1 k1 g1 rep1⟩
  | _=>exact q.elim
def HU (f g:Fb):Fb:=λ ρ=>(f ρ).bind λ (b,ρ1)=>if b=true then g ρ1 else .ok (false,ρ1)
def PF (f g:Fb):Fb:=λ ρ=>(f ρ).bind λ (b,ρ1)=>if b=true then .ok (true,ρ1) else g ρ1
def HS (f:Fb):Fb:=λ ρ=>(f ρ).bind λ (b,ρ1)=>.ok (!b,ρ1)
theorem zV {σ:St}{H:Hp}{Q:Bool->Hp->Prop} (hq:tT M (HU fb gb) σ H Q):Jx (tT M fb) (tT M gb) σ H Q:=by
 obtain ⟨ρ,fps,rep,q⟩:=hq;refine ⟨ρ,fps,rep,?_⟩;unfold HU at q;cases ef:fb ρ with
 | no=>rw [ef] at q;exact q
 | exc c=>rw [ef] at q;exact q
 | ok p=>
  obtain ⟨b,ρ1⟩:=p;rw [ef] at q;intro H1 fps1 k1 g1 rep1;dsimp only [Rz.bind] at q;cases b with
  | false=>exact (q H1 fps1 k1 g1 rep1)
  | true=>
   refine ⟨ρ1,fps1,rep1,?_⟩;rw [if_pos rfl] at q;cases eg:gb ρ1 with
   | no=>rw [eg] at q;exact q
   | exc c=>rw [eg] at q;exact λ H' fps' k=>q H' fps' (k1.trans k)
   | ok p2=>rw [eg] at q;exact λ H' fps' k g r=>q H' fps' (k1.trans k) (g1.trans g) r
theorem qX {σ:St}{H:Hp}{Q:Bool->Hp->Prop} (hq:tT M (PF fb gb) σ H Q):R6 (tT M fb) (tT M gb) σ H Q:=by
 obtain ⟨ρ,fps,rep,q⟩:=hq;refine ⟨ρ,fps,rep,?_⟩;unfold PF at q;cases ef:fb ρ with
 | no=>rw [ef] at q;exact q
 | exc c=>rw [ef] at q;exact q
 | ok p=>
  obtain ⟨b,ρ1⟩:=p;rw [ef] at q;intro H1 fps1 k1 g1 rep1;dsimp only [Rz.bind] at q;cases b with
  | true=>exact (q H1 fps1 k1 g1 rep1)
  | false=>
   refine ⟨ρ1,fps1,rep1,?_⟩;rw [if_neg CF] at q;cases eg:gb ρ1 with
   | no=>rw [eg] at q;exact q
   | exc c=>rw [eg] at q;exact λ H' fps' k=>q H' fps' (k1.trans k)
   | ok p2=>rw [eg] at q;exact λ H' fps' k g r=>q H' fps' (k1.trans k) (g1.trans g) r
theorem zX {σ:St}{H:Hp}{Q:Bool->Hp->Prop} (hq:tT M (HS fb) σ H Q):Jw (tT M fb) σ H Q:=by
 obtain ⟨ρ,fps,rep,q⟩:=hq;refine ⟨ρ,fps,rep,?_⟩;unfold HS at q;cases ef:fb ρ with
 | no=>rw [ef] at q;exact q
 | exc c=>rw [ef] at q;exact q
 | ok p=>obtain ⟨b,ρ1⟩:=p;rw [ef] at q;exact q
theorem Tmps.all {K:Frag}{H:Hp}{Z:Addr->Prop}:∀ {xs:List (PV×Nat)}{ws:List V}{fp:List Addr},Tmps K H Z xs ws fp->(∀ p∈xs,p.2=om)->OwnL K H Z (xs.map (·.1)) om ws fp
 | [],_,_,h,_=>by rw [EG,OwnL];exact h
 | (x,d)::xs,ws,fp,h,ha=>by
  obtain ⟨v,s,f1,f2,e1,e2,dj,h1,h2⟩:=h;have e:d=om:=ha (x,d) AR;subst e;rw [BF,OwnL];exact ⟨v,s,f1,f2,e1,e2,dj,Own.full x v f1 h1,h2.all λ p hp=>ha p (AO _ hp)⟩
theorem Tmps.cold {K:Frag}{H:Hp}{Z:Addr->Prop}:∀ {xs:List (PV×Nat)}{ws:List V}{fp:List Addr},Tmps K H Z xs ws fp->(∀ a∈fp,¬ Z a)->OwnL K H Z (xs.map (·.1)) 0 ws []
 | [],_,_,h,_=>by rw [EG,OwnL];exact ⟨h.1,rfl⟩
 | (x,d)::xs,ws,fp,h,ha=>by
  obtain ⟨v,s,f1,f2,e1,e2,dj,h1,h2⟩:=h;rw [BF,OwnL];exact ⟨v,s,[],[],e1,rfl,λ _ z=>(nomatch z),Own.freeze (λ _ z=>.inl z) x d v f1 (λ a z=>ha a (by rw [e2];exact BG _ z)) h1,h2.cold λ a z=>ha a (by rw [e2];exact Bq _ z)⟩
theorem Tmps.length {K:Frag}{H:Hp}{Z:Addr->Prop}:∀ {xs:List (PV×Nat)}{ws:List V}{fp:List Addr},Tmps K H Z xs ws fp->ws.length=xs.length
 | [],_,_,h=>by rw [h.1];rfl
 | (x,d)::xs,ws,fp,h=>by
  obtain ⟨v,s,f1,f2,e1,e2,dj,h1,h2⟩:=h;rw [e1,Bl,Bl,h2.length]
theorem OwnL.length {K:Frag}{H:Hp}{Z:Addr->Prop}:∀ {xs:List PV}{d:Nat}{ws:List V}{fp:List Addr},OwnL K H Z xs d ws fp->ws.length=xs.length
 | [],_,_,_,h=>by rw [OwnL] at h;rw [h.1];rfl
 | x::xs,d,ws,fp,h=>by
  rw [OwnL] at h;obtain ⟨v,s,f1,f2,e1,e2,dj,h1,h2⟩:=h;rw [e1,Bl,Bl,h2.length]
end
inductive Rs where
 | nx (ρ:Ag) | rt (x:PV) (d:Nat) (ρ:Ag) | bk (ρ:Ag) | ct (ρ:Ag) | exc (c:Nat) | no
abbrev Fs:=Ag->Rs
structure KS (M:Fm) (H:Hp) (fps:AX) (H':Hp) (fps':AX):Prop where
 keep:Dh (λ a=>∃ i,a∈fps i) H H'
 dom:∀ a,H a≠none->H' a≠none
 sub:∀ i,∀ a∈fps' i,(∃ j,a∈fps j)\/H a=none
def Zr (M:Fm) (fps:AX):Addr->Prop:=λ a=>M.Zo a\/(M.io≠none/\a∈fps 0)
def RsOk (M:Fm) (D:Ends) (H:Hp) (fps:AX):Rs->Prop
 | .nx ρ'=>∀ σ' H' fps',KS M H fps H' fps'->Rep M ρ' σ' H' fps'->D.nx σ' H'
 | .bk ρ'=>∀ σ' H' fps',KS M H fps H' fps'->Rep M ρ' σ' H' fps'->D.bk σ' H'
 | .ct ρ'=>∀ σ' H' fps',KS M H fps H' fps'->Rep M ρ' σ' H' fps'->D.ct σ' H'
 | .rt x d ρ'=>∀ v σ' H' fps' fp,KS M H fps H' fps'->Rep M ρ' σ' H' fps'->Own M.K H' (λ a=>Zr M fps' a\/a∈fp) x d v fp->(∀ a∈fp,M.H₀ a=none/\¬ Zr M fps' a)->D.rt v H'
 | .exc c=>∀ σ' H' fps',KS M H fps H' fps'->M.W σ' c H'
 | .no=>False
def tS (M:Fm) (f:Fs):TS:=λ D σ H=>∃ ρ fps,Rep M ρ σ H fps/\RsOk M D H fps (f ρ)
section
variable {M:Fm}{ρ ρ':Ag}{σ σ':St}{H H' H'':Hp}{fps fps' fps'':AX}{vs vs':List Nat}
def KS.refl:KS M H fps H fps:=⟨λ _ _ h _=>h,λ _ h=>h,λ i _ h=>.inl ⟨i,h⟩⟩
def KD.ks (k:KD M H fps H' fps'):KS M H fps H' fps':=⟨λ a o h n=>k.keep a o h λ ⟨i,_,z⟩=>n ⟨i,z⟩,k.dom,λ i a h=>(k.sub i a h).elim (λ z=>.inl ⟨i,z⟩) .inr⟩
def KS.trans (a:KS M H fps H' fps') (b:KS M H' fps' H'' fps''):KS M H fps H'' fps'' where
 keep:=λ x o h n=>b.keep x o (a.keep x o h n) λ ⟨i,hx⟩=>(a.sub i x hx).elim (λ z=>n z) λ z=>by rw [z] at h;cases h
 dom:=λ x h=>b.dom x (a.dom x h)
 sub:=λ i x hx=>(b.sub i x hx).elim (λ ⟨j,z⟩=>a.sub j x z) λ z=>.inr (by
  cases e:H x with
  | none=>rfl
  | some o=>exact absurd z (a.dom x (by rw [e];simp)))
def KS.stay0 (k:KS M H fps H' fps') (r:Rep M ρ σ H fps) {x:PV}{v:V} (h:Own M.K H (Zf M fps) x 0 v []):Own M.K H' (Zf M fps') x 0 v []:=by
 refine Own.move k.keep (λ a ⟨i,ha⟩=>⟨.inr ⟨i,ha⟩,r.lsts ha⟩) ?_ x 0 v [] (λ _ z=>nomatch z) h;intro a hd nz z;rcases z with z | ⟨i,hx⟩
 ·exact nz (.inl z)
 ·rcases k.sub i a hx with z | z
  ·exact nz (.inr z)
  ·exact hd z
def Ao:Fs:=λ ρ=>.nx ρ
def Af (f g:Fs):Fs:=λ ρ=>match f ρ with
 | .nx ρ1=>g ρ1
 | r=>r
def zQ {D:Ends} (hq:tS M Ao D σ H):VG D σ H:=by
 obtain ⟨ρ,fps,rep,q⟩:=hq;exact q σ H fps KS.refl rep
def AV (c:Fb) (f g:Fs):Fs:=λ ρ=>match c ρ with
 | .ok (b,ρ1)=>if b=true then f ρ1 else g ρ1
 | .exc e=>.exc e
 | .no=>.no
theorem RsOk.from {D:Ends}{r:Rs} (k1:KS M H fps H' fps') (q:RsOk M D H fps r):RsOk M D H' fps' r:=by
 cases r with
 | no=>exact q
 | exc c=>exact λ σ' H' fps' k=>q σ' H' fps' (k1.trans k)
 | rt x d ρ2=>exact λ v σ' H' fps' fp k=>q v σ' H' fps' fp (k1.trans k)
 | bk ρ2=>exact λ σ' H' fps' k=>q σ' H' fps' (k1.trans k)
 | ct ρ2=>exact λ σ' H' fps' k=>q σ' H' fps' (k1.trans k)
 | nx ρ2=>exact λ σ' H' fps' k=>q σ' H' fps' (k1.trans k)
theorem zS {f g:Fs}{D:Ends} (hq:tS M (Af f g) D σ H):LN (tS M f) (tS M g) D σ H:=by
 obtain ⟨ρ,fps,rep,q⟩:=hq;refine ⟨ρ,fps,rep,?_⟩;unfold Af at q;cases ef:f ρ with
 | no=>rw [ef] at q;exact q
 | exc c=>rw [ef] at q;exact q
 | rt x d ρ1=>rw [ef] at q;exact q
 | bk ρ1=>rw [ef] at q;exact q
 | ct ρ1=>rw [ef] at q;exact q
 | nx ρ1=>
  rw [ef] at q;exact λ σ1 H1 fps1 k1 rep1=>⟨ρ1,fps1,rep1,RsOk.from k1 q⟩
theorem qW {c:Fb}{f g:Fs}{D:Ends} (hq:tS M (AV c f g) D σ H):LQ (tT M c) (tS M f) (tS M g) D σ H:=by
 obtain ⟨ρ,fps,rep,q⟩:=hq;refine ⟨ρ,fps,rep,?_⟩;unfold AV at q;cases ef:c ρ with
 | no=>rw [ef] at q;exact q
 | exc c=>rw [ef] at q;exact λ H' fps' k=>q _ H' fps' k.ks
 | ok p=>
  obtain ⟨b,ρ1⟩:=p;rw [ef] at q;intro H1 fps1 k1 g1 rep1;dsimp only at q;cases b with
  | true=>
   rw [if_pos rfl] at q ⊢;exact ⟨ρ1,fps1,rep1,RsOk.from k1.ks q⟩
  | false=>
   rw [if_neg CF] at q ⊢;exact ⟨ρ1,fps1,rep1,RsOk.from k1.ks q⟩
def cool (vs:List Nat):Nat->Ag->Ag
 | _,[]=>[]
 | k,s::r=>(if vs.contains k then s.map λ p=>(p.1,0) else s)::cool vs (k + 1) r
def Bi (d:Nat) (vs:List Nat) (ρ:Ag):Ag:=if d=om then ρ else cool vs 0 ρ
theorem Jc (vs:List Nat):∀ (ρ:Ag) (k i:Nat),(cool vs k ρ)[i]?=(ρ[i]?).map λ s=>if vs.contains (k + i) then s.map λ p=>(p.1,0) else s
 | [],k,i=>by simp [cool]
 | s::r,k,0=>by simp [cool]
 | s::r,k,i + 1=>by
  rw [cool,TK,Jc vs r (k + 1) i,TK]
  have:k + 1 + i=k + (i + 1):=by omega
  rw [this]
theorem Lh (vs:List Nat):∀ (ρ:Ag) (k:Nat),(cool vs k ρ).length=ρ.length
 | [],_=>rfl
 | s::r,k=>by rw [cool,Bl,Lh vs r (k + 1),Bl]
def En (vs:List Nat) (fps:AX):AX:=λ i=>if vs.contains i then [] else fps i
def GL {a:Addr}{i:Nat} (h:a∈En vs fps i):a∈fps i/\i∉vs:=by
 unfold En at h;split at h
 ·cases h
 ·rename_i n;exact ⟨h,λ z=>n (by simpa using z)⟩
def Il {a:Addr} (h:Zf M (En vs fps) a):Zv M vs fps a:=h.elim .inl λ ⟨i,z⟩=>.inr ⟨i,(GL z).2,(GL z).1⟩
def Rep.cool (r:Rep M ρ σ H fps) (hal:∀ i,M.al i=[]) (hv:∀ i∈vs,M.Ms i=false):Rep M (cool vs 0 ρ) σ H (En vs fps) where
 own:=λ i x d e=>by
  rw [Jc] at e;cases e1:ρ[i]? with
  | none=>rw [e1] at e;cases e
  | some s=>
   rw [e1] at e;simp only [M7,JD] at e;by_cases hc:vs.contains i=true
   ·rw [if_pos hc] at e;cases s with
    | none=>cases e
    | some p=>
     obtain ⟨x0,d0⟩:=p;simp only [M7,Option.some.injEq,Prod.mk.injEq] at e;obtain ⟨rfl,rfl⟩:=e;obtain ⟨v,hσ,o⟩:=r.own0 hal i x0 d0 e1;refine ⟨v,hσ,Own.weak (Z:=Zf M (En vs fps)) (λ a h=>h.zf) ?_⟩
     have:En vs fps i=[]:=by unfold En;rw [if_pos hc]
     rw [this];exact Own.freeze (λ a h=>Zv.zf (Il h)) x0 d0 v _ (λ a ha z=>by
      rcases z with z | ⟨j,z⟩
      ·exact r.zo i a ha z
      ·obtain ⟨z1,z2⟩:=GL z;exact r.dj i j (λ e=>z2 (by rw [<- e];simpa using hc)) a ha z1) o
   ·rw [if_neg hc] at e;cases e;obtain ⟨v,hσ,o⟩:=r.own0 hal i x d e1;refine ⟨v,hσ,Own.weak (Z:=Zf M (En vs fps)) (λ a h=>h.zf) ?_⟩
    have:En vs fps i=fps i:=by unfold En;rw [if_neg hc]
    rw [this];exact o.weak λ a h=>Zv.zf (Il h)
 non:=λ i h=>by
  unfold En;split
  ·rfl
  ·rename_i hc;refine r.non i λ p e=>h p ?_;rw [Jc,e];simp only [M7,JD];rw [if_neg hc]
 dj:=λ i j hij a ha hb=>r.dj i j hij a (GL ha).1 (GL hb).1
 zo:=λ i a ha=>r.zo i a (GL ha).1
 fr:=λ i hi a ha=>r.fr i hi a (GL ha).1
 zd:=r.zd
 len:=by rw [Lh];exact r.len
 msf:=λ i x d hi e=>by
  rw [Jc] at e;cases e1:ρ[i]? with
  | none=>rw [e1] at e;cases e
  | some s=>
   rw [e1] at e;simp only [M7,JD] at e;have hc:¬ vs.contains i=true:=λ z=>by rw [hv i (by simpa using z)] at hi;cases hi
   rw [if_neg hc] at e;cases e;exact r.msf i x d hi e1
 h0:=r.h0
 iov:=r.iov
def KS.cool (k:KS M H fps H' fps'):KS M H fps H' (En vs fps'):=⟨k.keep,k.dom,λ i a h=>k.sub i a (GL h).1⟩
def Rep.wide {fp:List Addr} (hal:∀ i,∀ j∈M.al i,M.Ms j=false) (r:Rep M ρ σ H fps) (k:KD M H fps H' fps') (g:Agr M ρ ρ') (r':Rep M ρ' σ H' fps') (hf:∀ a∈fp,H a=none/\H' a≠none/\¬ Zf M fps' a):Rep (M.plus fp) ρ' σ H' fps' where
 own:=λ i x d e=>by
  by_cases hm:M.Ms i=true
  ·obtain ⟨v,hv,o⟩:=r'.own i x d e;have hd:=r'.msf i x d hm e;subst hd;exact ⟨v,hv,Own.full x v _ o⟩
  ·have hm':M.Ms i=false:=by simpa using hm
   rw [g.1 i hm'] at e;obtain ⟨v,hv,o⟩:=r.own i x d e;refine ⟨v,hv,?_⟩;rw [k.same i hm'];refine Own.move k.keep (λ a ⟨j,hj,ha⟩=>⟨.inr ⟨j,λ z=>(by rw [hal i j z] at hj;cases hj),ha⟩,r.lsts ha⟩) ?_ x d v _ ?_ o
   ·intro a hd nz z;rcases z with (z | z) | ⟨j,nj,z⟩
    ·exact nz (.inl z)
    ·exact hd (hf a z).1
    ·rcases k.sub j a z with z | z
     ·exact nz (.inr ⟨j,nj,z⟩)
     ·exact hd z
   ·rintro a ha ⟨j,hj,hx⟩;exact r.dj i j (λ e=>by rw [e,hj] at hm';cases hm') a ha hx
 non:=r'.non
 dj:=r'.dj
 zo:=λ i a ha z=>z.elim (r'.zo i a ha) λ z=>(hf a z).2.2 (.inr ⟨i,ha⟩)
 fr:=r'.fr
 zd:=λ a z=>z.elim (r'.zd a) λ z=>(hf a z).2.1
 len:=r'.len
 msf:=r'.msf
 h0:=r'.h0
 iov:=r'.iov
def Rep.put {i:Nat}{x:PV}{d:Nat}{v:V}{fp:List Addr} (r:Rep (M.plus fp) ρ σ H fps) (h:Own M.K H (λ a=>Za M fps i a\/a∈fp) x d v fp) (hf:∀ a∈fp,M.H₀ a=none/\¬ M.Zo a) (hi:i < ρ.length) (hm:M.Ms i=true->d=om) (hio:M.Fre i):
  Rep M (ρ.set i (some (x,d))) (σ.set i (some v)) H (λ j=>if j=i then fp else fps j):=by
 have zz:∀ a,Zf M (λ j=>if j=i then fp else fps j) a->Zf M fps a\/a∈fp:=λ a h=>by
  rcases h with z | ⟨j,z⟩
  ·exact .inl (.inl z)
  ·by_cases e:j=i
   ·simp only [if_pos e] at z;exact .inr z
   ·simp only [if_neg e] at z;exact .inl (.inr ⟨j,z⟩)
 have zz2:∀ a,Zf M fps a\/a∈fp->Zf (M.plus fp) fps a:=λ a h=>h.elim (λ h=>h.elim (λ z=>.inl (.inl z)) λ z=>.inr z) λ z=>.inl (.inr z);refine ⟨λ j y e hj=>?_,λ j hj=>?_,λ j k hjk a ha hb=>?_,λ j a ha z=>?_,λ j hj a ha=>?_,λ a z=>r.zd a (.inl z),?_,λ j y e hj he=>?_,r.h0,?_⟩
 ·by_cases e:j=i
  ·subst e;rw [Di hi] at hj;cases hj;refine ⟨v,by rw [Di (by rw [<- r.len];exact hi)],?_⟩;rw [if_pos rfl];refine h.weak λ a h=>?_;rcases h with z | ⟨k,nk,z⟩
   ·exact .inl (.inl z)
   ·by_cases ek:k=j
    ·simp only [if_pos ek] at z;exact .inr z
    ·simp only [if_neg ek] at z;exact .inl (.inr ⟨k,nk,z⟩)
  ·rw [Cw (Ca e)] at hj;obtain ⟨w,hw,o⟩:=r.own j y _ hj;refine ⟨w,by rw [Cw (Ca e)];exact hw,?_⟩;rw [if_neg e];refine o.weak λ a h=>?_;rcases h with z | ⟨k,nk,z⟩
   ·exact .inl (.inl z)
   ·by_cases ek:k=i
    ·simp only [if_pos ek] at z;exact .inl (.inr z)
    ·simp only [if_neg ek] at z;exact .inr ⟨k,nk,z⟩
 ·by_cases e:j=i
  ·subst e;exact absurd (Di hi) (hj _)
  ·rw [if_neg e];exact r.non j λ p hp=>hj p (by rw [Cw (Ca e)];exact hp)
 ·by_cases e1:j=i
  ·by_cases e2:k=i
   ·exact hjk (e1.trans e2.symm)
   ·rw [if_pos e1] at ha;rw [if_neg e2] at hb;exact r.zo k a hb (.inr ha)
  ·rw [if_neg e1] at ha;by_cases e2:k=i
   ·rw [if_pos e2] at hb;exact r.zo j a ha (.inr hb)
   ·rw [if_neg e2] at hb;exact r.dj j k hjk a ha hb
 ·by_cases e:j=i
  ·rw [if_pos e] at ha;exact (hf a ha).2 z
  ·rw [if_neg e] at ha;exact r.zo j a ha (.inl z)
 ·by_cases e:j=i
  ·rw [if_pos e] at ha;exact (hf a ha).1
  ·rw [if_neg e] at ha;exact r.fr j hj a ha
 ·rw [Ei,Ei];exact r.len
 ·by_cases e:j=i
  ·subst e;rw [Di hi] at he;cases he;exact hm hj
  ·rw [Cw (Ca e)] at he;exact r.msf j y _ hj he
 ·refine ⟨λ w hw=>?_,λ p hp=>?_⟩
  ·have h0:i≠0:=hio.1 (by rw [hw];simp);rw [Cw h0];exact r.iov.1 w hw
  ·rw [Cw (hio.2 p hp).symm];exact r.iov.2 p hp
def Ah (ms:Bool) (i:Nat) (f:Fx) (vs:List Nat):Fs:=λ ρ=>match f ρ with
 | .ok (x,d,ρ1)=>if i < ρ1.length/\(ms=true->d=om) then .nx ((Bi d vs ρ1).set i (some (x,d))) else .no
 | .exc c=>.exc c
 | .no=>.no
def Rep.store {i:Nat}{x:PV}{d:Nat}{v:V}{fp:List Addr} (rep:Rep M ρ σ H fps) (k:KD M H fps H' fps') (g:Agr M ρ ρ') (r':Rep M ρ' σ H' fps') (o:Own M.K H' (Zt M vs fps' fp) x d v fp) (t:Temp M vs H H' fps' fp)
  (hal:∀ i,M.al i=[]) (hv:∀ i∈vs,M.Ms i=false) (hi:i < ρ'.length) (hm:M.Ms i=true->d=om) (hio:M.Fre i):
  ∃ fps2,KS M H fps H' fps2/\Rep M ((Bi d vs ρ').set i (some (x,d))) (σ.set i (some v)) H' fps2:=by
 have back:∀ a,H a=none->M.H₀ a=none:=λ a e=>by
  cases e':M.H₀ a with
  | none=>rfl
  | some o=>exact absurd e (rep.h0 a (by rw [e'];simp))
 have w:Rep (M.plus fp) ρ' σ H' fps':=rep.wide (λ i j hj=>by rw [hal i] at hj;cases hj) k g r' λ a ha=>⟨t.new a ha,by obtain ⟨xs,e⟩:=Own.lsts x d v fp o a ha;rw [e];simp,t.ndj a ha⟩
 have hf:∀ a∈fp,M.H₀ a=none/\¬ M.Zo a:=λ a ha=>⟨back a (t.new a ha),λ z=>t.ndj a ha (.inl z)⟩
 have ks2:∀ {fps2:AX},(∀ i a,a∈fps2 i->a∈fps' i)->KS M H fps H' (λ j=>if j=i then fp else fps2 j):=λ {fps2} h2=>⟨k.ks.keep,k.dom,λ j a ha=>by
  by_cases e:j=i
  ·simp only [if_pos e] at ha;exact .inr (t.new a ha)
  ·simp only [if_neg e] at ha;exact k.ks.sub j a (h2 j a ha)⟩
 unfold Bi;by_cases hd:d=om
 ·rw [if_pos hd];refine ⟨_,ks2 λ _ _ h=>h,w.put (i:=i) (x:=x) (d:=d) (v:=v) ?_ hf hi hm hio⟩;rw [hd] at o ⊢;exact Own.full x v fp o
 ·rw [if_neg hd];refine ⟨_,ks2 λ _ _ h=>(GL h).1,(w.cool (vs:=vs) hal hv).put (i:=i) (x:=x) (d:=d) (v:=v) ?_ hf (by rw [Lh];exact hi) hm hio⟩;exact o.weak λ a h=>h.elim (λ h=>.inl (Il h.zf)) .inr
theorem Wr {f:Fx}{i:Nat}{ms:Bool}{D:Ends} (hal:∀ i,M.al i=[]) (hv:∀ i∈vs,M.Ms i=false) (hms:M.Ms i=ms) (hio:M.Fre i) (hq:tS M (Ah ms i f vs) D σ H):D9 (tE M f vs) (FT i) D σ H:=by
 obtain ⟨ρ,fps,rep,q⟩:=hq;refine ⟨ρ,fps,rep,?_⟩;unfold Ah at q;cases ef:f ρ with
 | no=>rw [ef] at q;exact q
 | exc c=>rw [ef] at q;exact λ H' fps' k=>q _ H' fps' k.ks
 | ok p=>
  obtain ⟨x,d,ρ1⟩:=p;rw [ef] at q;intro v H1 fps1 f1 k1 g1 rep1 o1 t1;dsimp only at q;by_cases hc:i < ρ1.length/\(ms=true->d=om)
  ·rw [if_pos hc] at q;obtain ⟨fps2,k2,r2⟩:=Rep.store rep k1 g1 rep1 o1 t1 hal hv hc.1 (λ h=>hc.2 (by rw [<- hms];exact h)) hio;exact q _ _ _ k2 r2
  ·rw [if_neg hc] at q;exact q.elim
end
section
variable {M:Fm}{ρ ρ':Ag}{σ σ':St}{H H' H'':Hp}{fps fps' fps'':AX}{vs vs':List Nat}
def Zr.zf {a:Addr} (h:Zr M fps a):Zf M fps a:=h.elim .inl λ h=>.inr ⟨0,h.2⟩
def Rep.zr (r:Rep M ρ σ H fps) (hv:∀ i∈vs,M.Ms i=false) {a:Addr} (h:Zr M fps a):Zv M vs fps a:=by
 rcases h with h | ⟨h1,h2⟩
 ·exact .inl h
 ·refine .inr ⟨0,λ z=>?_,h2⟩;cases e:M.io with
  | none=>exact h1 e
  | some v=>have:=(r.iov.1 v e).2;rw [hv 0 z] at this;cases this
theorem Rep.h0' (r:Rep M ρ σ H fps) {a:Addr} (e:H a=none):M.H₀ a=none:=by
 cases e':M.H₀ a with
 | none=>rfl
 | some o=>exact absurd e (r.h0 a (by rw [e'];simp))
def An (f:Fx):Fs:=λ ρ=>match f ρ with
 | .ok (x,d,ρ1)=>.rt x d ρ1
 | .exc c=>.exc c
 | .no=>.no
theorem zR {f:Fx}{D:Ends} (hv:∀ i∈vs,M.Ms i=false) (hq:tS M (An f) D σ H):Ju (tE M f vs) D σ H:=by
 obtain ⟨ρ,fps,rep,q⟩:=hq;refine ⟨ρ,fps,rep,?_⟩;unfold An at q;cases ef:f ρ with
 | no=>rw [ef] at q;exact q
 | exc c=>rw [ef] at q;exact λ H' fps' k=>q _ H' fps' k.ks
 | ok p=>
  obtain ⟨x,d,ρ1⟩:=p;rw [ef] at q;intro v H1 fps1 f1 k1 g1 rep1 o1 t1;exact q v σ H1 fps1 f1 k1.ks rep1 (o1.weak λ a h=>h.elim (λ h=>.inl (rep1.zr hv h)) .inr) λ a ha=>⟨rep.h0' (t1.new a ha),λ z=>t1.ndj a ha z.zf⟩
def Dt (i:Nat):Fs:=λ ρ=>match ρ[i]? with
 | some (some (x,d))=>.rt x d ρ
 | _=>.no
theorem vm {i:Nat}{D:Ends} (hal:∀ i,M.al i=[]) (hm:M.Ms i=false) (hq:tS M (Dt i) D σ H):Ju (CO i) D σ H:=by
 obtain ⟨ρ,fps,rep,q⟩:=hq;unfold Dt at q;cases e0:ρ[i]? with
 | none=>rw [e0] at q;exact q.elim
 | some sl=>
  cases sl with
  | none=>rw [e0] at q;exact q.elim
  | some p=>
   obtain ⟨x,d⟩:=p;rw [e0] at q;obtain ⟨v,hv,o⟩:=rep.own0 hal i x d e0;refine ⟨v,hv,q v σ H fps (fps i) KS.refl rep (o.weak λ a h=>h.elim Zr.zf λ z=>.inr ⟨i,z⟩) λ a ha=>⟨rep.fr i hm a ha,λ z=>?_⟩⟩;rcases z with z | ⟨z1,z2⟩
   ·exact rep.zo i a ha z
   ·cases e:M.io with
    | none=>exact z1 e
    | some w=>exact rep.dj i 0 (λ e'=>by rw [e',(rep.iov.1 w e).2] at hm;cases hm) a ha z2
def Bc (f:Fx):Fs:=λ ρ=>match f ρ with
 | .ok (_,_,ρ1)=>.nx ρ1
 | .exc c=>.exc c
 | .no=>.no
theorem Xv {f:Fx}{D:Ends} (hq:tS M (Bc f) D σ H):Mi (tE M f vs) D σ H:=by
 obtain ⟨ρ,fps,rep,q⟩:=hq;refine ⟨ρ,fps,rep,?_⟩;unfold Bc at q;cases ef:f ρ with
 | no=>rw [ef] at q;exact q
 | exc c=>rw [ef] at q;exact λ H' fps' k=>q _ H' fps' k.ks
 | ok p=>
  obtain ⟨x,d,ρ1⟩:=p;rw [ef] at q;intro v H1 fps1 f1 k1 g1 rep1 o1 t1;exact q σ H1 fps1 k1.ks rep1
theorem OwnL.snoc {K:Frag}{Z:Addr->Prop}{y:PV}{d:Nat}{w:V}{fy:List Addr}:∀ {xs:List PV}{ws:List V}{f:List Addr},OwnL K H Z xs d ws f->Own K H Z y d w fy->(∀ a∈f,a∉fy)->OwnL K H Z (xs++[y]) d (ws++[w]) (f++fy)
 | [],ws,f,h,hy,_=>by
  rw [OwnL] at h;obtain ⟨rfl,rfl⟩:=h;show OwnL K H Z [y] d [w] fy;rw [OwnL];refine ⟨w,[],fy,[],rfl,by simp,λ _ _ z=>(nomatch z),hy,?_⟩;rw [OwnL];exact ⟨rfl,rfl⟩
 | x::xs,ws,f,h,hy,hd=>by
  rw [OwnL] at h;obtain ⟨v,s,f1,f2,rfl,rfl,dj,h1,h2⟩:=h;show OwnL K H Z (x::(xs++[y])) d (v::(s++[w])) (f1++f2++fy);rw [OwnL];refine ⟨v,s++[w],f1,f2++fy,rfl,by rw [Pr],λ a ha hb=>?_,h1,h2.snoc hy λ a ha=>hd a (Bq _ ha)⟩;rcases jc6.mp hb with z | z
  ·exact dj a ha z
  ·exact hd a (BG _ ha) z
def Own.at {K:Frag}{Z Z':Addr->Prop}{a:Addr}{o:HO}{x:PV}{d:Nat}{v:V}{fp:List Addr} (h:Own K H Z x d v fp) (hZ:Z a) (hl:∃ o:MO,H a=some o.ho) (hf:a∉fp) (hz:∀ b,H b≠none->¬ Z b->¬ Z' b):Own K (Aq H a o) Z' x d v fp:=
 Own.move (S:=λ b=>b=a) (λ b u hb n=>by rw [Bk n];exact hb) (λ b e=>by rw [e];exact ⟨hZ,hl⟩) hz x d v fp (λ b hb e=>hf (by rw [<- e];exact hb)) h
def OwnL.at {K:Frag}{Z Z':Addr->Prop}{a:Addr}{o:HO}{x:List PV}{d:Nat}{v:List V}{fp:List Addr} (h:OwnL K H Z x d v fp) (hZ:Z a) (hl:∃ o:MO,H a=some o.ho) (hf:a∉fp) (hz:∀ b,H b≠none->¬ Z b->¬ Z' b):OwnL K (Aq H a o) Z' x d v fp:=
 OwnL.move (S:=λ b=>b=a) (λ b u hb n=>by rw [Bk n];exact hb) (λ b e=>by rw [e];exact ⟨hZ,hl⟩) hz x d v fp (λ b hb e=>hf (by rw [<- e];exact hb)) h
def Rep.rewrite {i:Nat}{xs:List PV}{d:Nat}{a:Addr}{ws:List V}{zs:List PV}{us:List V}{e:Nat}{f f' fp:List Addr} (hal:∀ i,M.al i=[]) (r:Rep (M.plus fp) ρ σ H fps) (hi:ρ[i]?=some (some (.lst xs,d))) (hσ:σ[i]?=some (some (.ref a)))
  (ha:H a=some (.lst ws)) (hfp:fps i=a::f) (hn:a∉f') (hsub:∀ b∈f',b∈f\/b∈fp) (he:e≠0) (hm:M.Ms i=true->e=om) (hH:∀ b∈fp,M.H₀ b=none/\¬ M.Zo b)
  (hnew:OwnL M.K (Aq H a (.lst us)) (Zf M (λ j=>if j=i then a::f' else fps j)) zs (pd e) us f'):
  Rep M (ρ.set i (some (.lst zs,e))) σ (Aq H a (.lst us)) (λ j=>if j=i then a::f' else fps j):=by
 have hlen:i < ρ.length:=(ja9.mp hi).1;have hai:a∈fps i:=by rw [hfp];exact AR
 have zz:∀ b,Zf M (λ j=>if j=i then a::f' else fps j) b->Zf (M.plus fp) fps b:=λ b h=>by
  rcases h with z | ⟨j,z⟩
  ·exact .inl (.inl z)
  ·by_cases ej:j=i
   ·simp only [if_pos ej] at z;rcases jb2.mp z with z | z
    ·exact .inr ⟨i,by rw [z];exact hai⟩
    ·rcases hsub b z with z | z
     ·exact .inr ⟨i,by rw [hfp];exact AO _ z⟩
     ·exact .inl (.inr z)
   ·simp only [if_neg ej] at z;exact .inr ⟨j,z⟩
 have dm:∀ b,H b≠none->(Aq H a (.lst us)) b≠none:=λ b h=>by
  by_cases eb:b=a
  ·rw [eb,C8];simp
  ·rw [Bk eb];exact h
 have inI:∀ b,b∈a::f'->b∈fps i\/b∈fp:=λ b hb=>by
  rcases jb2.mp hb with z | z
  ·exact .inl (by rw [z];exact hai)
  ·rcases hsub b z with z | z
   ·exact .inl (by rw [hfp];exact AO _ z)
   ·exact .inr z
 refine ⟨λ j y c hj=>?_,λ j hj=>?_,λ j k hjk b hb hc=>?_,λ j b hb z=>?_,λ j hj b hb=>?_,λ b z=>dm b (r.zd b (.inl z)),by rw [Ei];exact r.len,λ j y c hj hc=>?_,λ b z=>dm b (r.h0 b z),r.iov⟩
 ·by_cases ej:j=i
  ·subst ej;rw [Di hlen] at hj;cases hj;refine ⟨_,hσ,?_⟩;rw [if_pos rfl,Own];exact ⟨a,us,rfl,.inr ⟨he,f',C8,rfl,hn,hnew.weak λ _ h=>h.zf⟩⟩
  ·rw [Cw (Ca ej)] at hj;obtain ⟨w,hw,ow⟩:=r.own0 hal j y c hj;refine ⟨w,hw,?_⟩;rw [if_neg ej];exact ow.at (.inr ⟨i,hai⟩) ⟨.l ws,ha⟩ (λ z=>r.dj j i ej a z hai) λ b _ nz z=>nz (zz b z.zf)
 ·by_cases ej:j=i
  ·subst ej;exact absurd (Di hlen) (hj _)
  ·rw [if_neg ej];exact r.non j λ p hp=>hj p (by rw [Cw (Ca ej)];exact hp)
 ·have one:∀ k,k≠i->∀ b,b∈a::f'->b∈fps k->False:=λ k hk b h1 h2=>(inI b h1).elim (λ z=>r.dj i k (Ca hk) b z h2) λ z=>r.zo k b h2 (.inr z);by_cases e1:j=i
  ·by_cases e2:k=i
   ·exact hjk (e1.trans e2.symm)
   ·rw [if_pos e1] at hb;rw [if_neg e2] at hc;exact one k e2 b hb hc
  ·rw [if_neg e1] at hb;by_cases e2:k=i
   ·rw [if_pos e2] at hc;exact one j e1 b hc hb
   ·rw [if_neg e2] at hc;exact r.dj j k hjk b hb hc
 ·by_cases ej:j=i
  ·rw [if_pos ej] at hb;rcases inI b hb with y | y
   ·exact r.zo i b y (.inl z)
   ·exact (hH b y).2 z
  ·rw [if_neg ej] at hb;exact r.zo j b hb (.inl z)
 ·by_cases ej:j=i
  ·rw [if_pos ej] at hb;rcases inI b hb with y | y
   ·exact r.fr i (by rw [<- ej];exact hj) b y
   ·exact (hH b y).1
  ·rw [if_neg ej] at hb;exact r.fr j hj b hb
 ·by_cases ej:j=i
  ·subst ej;rw [Di hlen] at hc;cases hc;exact hm hj
  ·rw [Cw (Ca ej)] at hc;exact r.msf j y c hj hc
end
section
variable {M:Fm}{ρ ρ':Ag}{σ σ':St}{H H' H'':Hp}{fps fps' fps'':AX}{vs vs':List Nat}
def KS.write {a:Addr}{o:HO}{i:Nat}{f' fp:List Addr} (k:KS M H fps H' fps') (ha:∃ j,a∈fps j) (hs:∀ b∈a::f',b∈fps' i\/H b=none):
  KS M H fps (Aq H' a o) (λ j=>if j=i then a::f' else fps' j) where
 keep:=λ b u hb n=>by rw [Bk (λ e=>n (by rw [e];exact ha))];exact k.keep b u hb n
 dom:=λ b hb=>by
  by_cases e:b=a
  ·rw [e,C8];simp
  ·rw [Bk e];exact k.dom b hb
 sub:=λ j b hb=>by
  by_cases e:j=i
  ·simp only [if_pos e] at hb;rcases hs b hb with z | z
   ·exact k.sub i b z
   ·exact .inr z
  ·simp only [if_neg e] at hb;exact k.sub j b hb
def Rep.behind {x:PV}{d:Nat}{v:V}{fp:List Addr} (rep:Rep M ρ σ H fps) (k:KD M H fps H' fps') (g:Agr M ρ ρ') (r':Rep M ρ' σ H' fps') (o:Own M.K H' (Zt M vs fps' fp) x d v fp) (t:Temp M vs H H' fps' fp)
  (hal:∀ i,M.al i=[]) (hv:∀ i∈vs,M.Ms i=false):∃ fps2,KS M H fps H' fps2/\Rep (M.plus fp) (Bi d vs ρ') σ H' fps2/\Own M.K H' (λ a=>Zf M fps2 a\/a∈fp) x d v fp/\(∀ a∈fp,¬ Zf M fps2 a)/\(∀ i a,a∈fps2 i->a∈fps' i)/\(∀ a∈fp,M.H₀ a=none/\¬ M.Zo a):=by
 have w:Rep (M.plus fp) ρ' σ H' fps':=rep.wide (λ i j hj=>by rw [hal i] at hj;cases hj) k g r' λ a ha=>⟨t.new a ha,by obtain ⟨xs,e⟩:=Own.lsts x d v fp o a ha;rw [e];simp,t.ndj a ha⟩
 have hf:∀ a∈fp,M.H₀ a=none/\¬ M.Zo a:=λ a ha=>⟨rep.h0' (t.new a ha),λ z=>t.ndj a ha (.inl z)⟩
 unfold Bi;by_cases hd:d=om
 ·rw [if_pos hd];refine ⟨fps',k.ks,w,?_,t.ndj,λ _ _ h=>h,hf⟩;rw [hd] at o ⊢;exact Own.full x v fp o
 ·rw [if_neg hd];exact ⟨En vs fps',k.ks.cool,w.cool hal hv,o.weak λ a h=>h.elim (λ h=>.inl (Il h)) .inr,λ a ha z=>t.ndj a ha (Il z).zf,λ _ _ h=>(GL h).1,hf⟩
def BE (i:Nat) (f:Fx) (vs:List Nat):Fs:=λ ρ=>match ρ[i]? with
 | some (some (.lst _,0))=>.no
 | some (some (.lst _,_ + 1))=>(match f ρ with
  | .ok (y,e,ρ1)=>(match (Bi e vs ρ1)[i]? with
   | some (some (.lst xs,d))=>if d≠0/\xs.length < Aw then .nx ((Bi e vs ρ1).set i (some (.lst (xs++[y]),if d=om/\e=om then om else 1))) else .no
   | _=>.no)
  | .exc c=>.exc c
  | .no=>.no)
 | _=>.no
def Kc:pd 1=0:=by decide
def Own.list {K:Frag}{Z:Addr->Prop}{xs:List PV}{d:Nat}{v:V}{fp:List Addr} (h:Own K H Z (.lst xs) d v fp) (hd:d≠0):∃ a ws f,v=.ref a/\H a=some (.lst ws)/\fp=a::f/\a∉f/\OwnL K H Z xs (pd d) ws f:=by
 rw [Own] at h;obtain ⟨a,ws,e,⟨d0,_⟩ | ⟨_,f,h1,h2,h3,h4⟩⟩:=h
 ·exact absurd d0 hd
 ·exact ⟨a,ws,f,e,h1,h2,h3,h4⟩
def zO {f:Fx}{i:Nat}{D:Ends} (hal:∀ i,M.al i=[]) (hv:∀ i∈vs,M.Ms i=false) (hm:M.Ms i=false) (hq:tS M (BE i f vs) D σ H):Mi (Oc M.K "list" Xm (CO i) (Mh (tE M f vs) Ga)) D σ H:=by
 obtain ⟨ρ,fps,rep,q⟩:=hq;unfold BE at q;split at q
 ·exact q.elim
 ·rename_i xs0 d0 e0;obtain ⟨v,hσ,o⟩:=rep.own0 hal i _ _ e0;obtain ⟨a,ws0,fc0,rfl,ha0,hfp0,_,_⟩:=o.list (Po _);refine ⟨_,hσ,X1 (.inl (.inl ha0)),ρ,fps,rep,?_⟩;cases ef:f ρ with
  | no=>rw [ef] at q;exact q
  | exc c=>rw [ef] at q;exact λ H' fps' k=>q _ H' fps' k.ks
  | ok p=>
   obtain ⟨y,e,ρ1⟩:=p;rw [ef] at q;intro w H1 fps1 fp k1 g1 rep1 o1 t1;dsimp only at q;split at q
   ·rename_i xs d es;split at q
    ·rename_i hc;obtain ⟨fps2,k2,r2,o2,n2,s2,h2⟩:=Rep.behind rep k1 g1 rep1 o1 t1 hal hv;obtain ⟨v',hσ',ol⟩:=r2.own0 hal i _ _ es;rw [hσ] at hσ';cases hσ';obtain ⟨a',ws,fc,ev,ha,hfp,nac,hol⟩:=ol.list hc.1;cases ev;have hai:a∈fps2 i:=by rw [hfp];exact AR
     have hafp:a∉fp:=λ z=>n2 a z (.inr ⟨i,hai⟩);have hst:∃ j,a∈fps j:=⟨i,by have:=s2 i a hai;rw [k1.same i hm] at this;exact this⟩
     refine ⟨a,ws,w,rfl,rfl,ha,by rw [hol.length];exact hc.2,?_⟩;by_cases ho:d=om/\e=om
     ·rw [if_pos ho] at q;obtain ⟨rfl,rfl⟩:=ho;refine q σ _ _ (k2.write (i:=i) (f':=fc++fp) (fp:=fp) hst λ b hb=>?_) (r2.rewrite hal es hσ ha hfp (λ z=>(jc6.mp z).elim nac hafp) (λ b hb=>jc6.mp hb) (by decide) (λ _=>rfl) h2 ?_)
      ·rcases jb2.mp hb with z | z
       ·exact .inl (by rw [z];exact hai)
       ·rcases jc6.mp z with z | z
        ·exact .inl (by rw [hfp];exact AO _ z)
        ·exact .inr (t1.new b z)
      ·have u1:OwnL M.K (Aq H1 a (.lst (ws++[w]))) (λ _=>True) xs om ws fc:=(OwnL.full (Z':=λ _=>True) xs ws fc hol).at trivial ⟨.l ws,ha⟩ nac λ _ _ n=>absurd trivial n;have u2:Own M.K (Aq H1 a (.lst (ws++[w]))) (λ _=>True) y om w fp:=(Own.full (Z':=λ _=>True) y w fp o2).at trivial ⟨.l ws,ha⟩ hafp λ _ _ n=>absurd trivial n;exact OwnL.full _ _ _ (u1.snoc u2 λ b hb z=>n2 b z (.inr ⟨i,by rw [hfp];exact AO _ hb⟩))
     ·rw [if_neg ho] at q;refine q σ _ _ (k2.write (i:=i) (f':=[]) (fp:=fp) hst λ b hb=>?_) (r2.rewrite hal es hσ ha hfp (λ z=>nomatch z) (λ b hb=>nomatch hb) (by decide) (λ h=>by rw [hm] at h;cases h) h2 ?_)
      ·rcases jb2.mp hb with z | z
       ·exact .inl (by rw [z];exact hai)
       ·cases z
      ·rw [Kc];have zsub:∀ b,Zf M (λ j=>if j=i then [a] else fps2 j) b->Zf (M.plus fp) fps2 b:=λ b h=>by
        rcases h with z | ⟨j,z⟩
        ·exact .inl (.inl z)
        ·by_cases ej:j=i
         ·simp only [if_pos ej] at z;rw [jb1.mp z];exact .inr ⟨i,hai⟩
         ·simp only [if_neg ej] at z;exact .inr ⟨j,z⟩
       have nf:∀ b∈fc,¬ Zf M (λ j=>if j=i then [a] else fps2 j) b:=λ b hb z=>by
        have hbi:b∈fps2 i:=by rw [hfp];exact AO _ hb
        rcases z with z | ⟨j,z⟩
        ·exact r2.zo i b hbi (.inl z)
        ·by_cases ej:j=i
         ·simp only [if_pos ej] at z;rw [jb1.mp z] at hb;exact nac hb
         ·simp only [if_neg ej] at z;exact r2.dj i j (Ca ej) b hbi z
       have nfp:∀ b∈fp,¬ Zf M (λ j=>if j=i then [a] else fps2 j) b:=λ b hb z=>by
        rcases z with z | ⟨j,z⟩
        ·exact n2 b hb (.inl z)
        ·by_cases ej:j=i
         ·simp only [if_pos ej] at z;rw [jb1.mp z] at hb;exact hafp hb
         ·simp only [if_neg ej] at z;exact n2 b hb (.inr ⟨j,z⟩)
       have za:Zf M (λ j=>if j=i then [a] else fps2 j) a:=.inr ⟨i,by simp⟩;have u1:=(OwnL.freeze (Z':=Zf M (λ j=>if j=i then [a] else fps2 j)) zsub xs _ ws fc nf hol)
       have u2:=(Own.freeze (Z':=Zf M (λ j=>if j=i then [a] else fps2 j)) (λ b h=>by
        rcases h with z | ⟨j,z⟩
        ·exact .inl (.inl z)
        ·by_cases ej:j=i
         ·simp only [if_pos ej] at z;rw [jb1.mp z];exact .inl (.inr ⟨i,hai⟩)
         ·simp only [if_neg ej] at z;exact .inl (.inr ⟨j,z⟩)) y _ w fp nfp o2)
       exact (u1.at za ⟨.l ws,ha⟩ (λ z=>nomatch z) λ _ _ n=>n).snoc (u2.at za ⟨.l ws,ha⟩ (λ z=>nomatch z) λ _ _ n=>n) λ _ z=>nomatch z
    ·exact q.elim
   ·exact q.elim
 ·exact q.elim
def Mq:PV->Bool
 | .lst _=>false
 | .tup _=>false
 | .dct _=>false
 | _=>true
theorem OwnL.set {K:Frag}{Z:Addr->Prop}{y:PV}{d:Nat}{w:V} (hy:Own K H Z y d w []):∀ {xs:List PV}{ws:List V}{f:List Addr} (k:Nat),OwnL K H Z xs d ws f->∃ f',(∀ b∈f',b∈f)/\OwnL K H Z (xs.set k y) d (ws.set k w) f'
 | [],ws,f,k,h=>by
  rw [OwnL] at h;obtain ⟨rfl,rfl⟩:=h;refine ⟨[],λ _ z=>z,?_⟩;rw [Ph,Ph,OwnL];exact ⟨rfl,rfl⟩
 | x::xs,ws,f,0,h=>by
  rw [OwnL] at h;obtain ⟨v,s,f1,f2,rfl,rfl,dj,h1,h2⟩:=h;refine ⟨f2,λ b hb=>Bq _ hb,?_⟩;rw [KP,KP,OwnL];exact ⟨w,s,[],f2,rfl,rfl,λ _ z=>(nomatch z),hy,h2⟩
 | x::xs,ws,f,k + 1,h=>by
  rw [OwnL] at h;obtain ⟨v,s,f1,f2,rfl,rfl,dj,h1,h2⟩:=h;obtain ⟨f',hs,h'⟩:=h2.set hy k;refine ⟨f1++f',λ b hb=>(jc6.mp hb).elim (λ z=>BG _ z) λ z=>Bq _ (hs b z),?_⟩;rw [KO,KO,OwnL];exact ⟨v,s.set k w,f1,f',rfl,rfl,λ b hb hc=>dj b hb (hs b hc),h1,h'⟩
theorem Own.atom {K:Frag}{Z Z':Addr->Prop}{y:PV}{d d':Nat}{w:V}{fp:List Addr} (hy:Mq y=true) (h:Own K H Z y d w fp):fp=[]/\Own K H Z' y d' w []:=by
 cases y with
 | lst _=>cases hy
 | tup _=>cases hy
 | dct _=>cases hy
 | exn _=>rw [Own] at h ⊢;exact ⟨h.1,rfl,h.2⟩
 | emp=>rw [Own] at h ⊢;exact ⟨h.1,rfl,h.2⟩
 | dko=>rw [Own] at h ⊢;exact ⟨h.1,rfl,h.2⟩
 | scr _=>rw [Own] at h ⊢;exact ⟨h.1,rfl,h.2⟩
 | non=>rw [Own] at h ⊢;exact ⟨h.2,h.1,rfl⟩
 | bl _=>rw [Own] at h ⊢;exact ⟨h.2,h.1,rfl⟩
 | int _=>rw [Own] at h ⊢;exact ⟨h.2,h.1,rfl⟩
 | str _=>rw [Own] at h ⊢;exact ⟨h.2,h.1,rfl⟩
end
section
variable {is:List Nat}{M:Fm}{ρ ρ':Ag}{σ σ':St}{H H' H'':Hp}{fps fps' fps'':AX}{vs vs':List Nat}
def Rep.plus0 (hal:∀ i,∀ j∈M.al i,M.Ms j=false) (r:Rep M ρ σ H fps):Rep (M.plus []) ρ σ H fps:=r.wide hal KD.refl Agr.refl r (λ _ z=>nomatch z)
def DZ (M:Fm) (al is:List Nat) (g:TG) (asg:PV->Ag->Option Ag):Prop:=∀ y v ρ σ H fps ρ' (Q:St->Hp->Prop),Rep M ρ σ H fps->Own M.K H (Zv M al fps) y 0 v []->asg y ρ=some ρ'->(∀ σ' fps',(∀ i,∀ a∈fps' i,a∈fps i)->(∀ i,i∉is->ρ'[i]?=ρ[i]?/\fps' i=fps i/\σ'[i]?=σ[i]?)->ρ'.length=ρ.length->Rep M ρ' σ' H fps'->Q σ' H)->g v σ H Q
def asgN (i:Nat):PV->Ag->Option Ag:=λ y ρ=>if i < ρ.length then some (ρ.set i (some (y,dv y))) else none
def Own.dv {K:Frag}{Z:Addr->Prop}{x:PV}{v:V} (h:Own K H Z x 0 v []):Own K H Z x (dv x) v []:=Own.view (fp:=[]) (λ _ z=>z) (λ _ z=>nomatch z) h
structure Bd (M:Fm) (al:List Nat) (i:Nat):Prop where
 ms:M.Ms i=false
 io:M.Fre i
 al:M.al i=al
 als:∀ i,∀ j∈M.al i,M.Ms j=false
def Rep.bind1 {al:List Nat}{i:Nat}{y:PV}{v:V} (r:Rep M ρ σ H fps) (o:Own M.K H (Zv M al fps) y 0 v []) (hi:i < ρ.length) (b:Bd M al i):
  Rep M (ρ.set i (some (y,dv y))) (σ.set i (some v)) H (λ j=>if j=i then [] else fps j):=by
 refine (r.plus0 b.als).put (o.dv.weak λ a h=>h.elim (λ h=>?_) λ z=>nomatch z) (λ _ z=>nomatch z) hi (λ h=>by rw [b.ms] at h;cases h) b.io;rcases h with h | ⟨j,nj,h⟩
 ·exact .inl h
 ·exact .inr ⟨j,by rw [b.al] at nj;exact nj,h⟩
def VY {al:List Nat}{i:Nat} (b:Bd M al i):DZ M al [i] (FT i) (asgN i):=by
 intro y v ρ σ H fps ρ' Q r o e q;unfold asgN at e;split at e
 ·rename_i hi;cases e;refine q _ _ (λ j a ha=>?_) (λ j nj=>?_) (by rw [Ei]) (r.bind1 o hi b)
  ·by_cases e:j=i
   ·simp only [if_pos e] at ha;cases ha
   ·simp only [if_neg e] at ha;exact ha
  ·have e:j≠i:=λ e=>nj (by simp [e]);exact ⟨Cw (Ca e),if_neg e,Cw (Ca e)⟩
 ·cases e
def Kh:List Nat->IS
 | []=>MF
 | i::is=>V4 (FT i) (Kh is)
def HW:List Nat->List PV->Ag->Option Ag
 | [],[],ρ=>some ρ
 | i::is,y::ys,ρ=>(asgN i y ρ).bind (HW is ys)
 | _,_,_=>none
def Cf (is:List Nat):PV->Ag->Option Ag:=λ y ρ=>match y with
 | .tup ys=>HW is ys ρ
 | _=>none
theorem Xa {al:List Nat}:∀ (is:List Nat) (ys:List PV) (ws:List V) (ρ:Ag) (σ:St) (H:Hp) (fps:AX) (ρ':Ag) (Q:St->Hp->Prop),(∀ i∈is,Bd M al i)->Rep M ρ σ H fps->OwnL M.K H (Zv M al fps) ys 0 ws []->HW is ys ρ=some ρ' ->
  (∀ σ' fps',(∀ i,∀ a∈fps' i,a∈fps i)->(∀ i,i∉is->ρ'[i]?=ρ[i]?/\fps' i=fps i/\σ'[i]?=σ[i]?)->ρ'.length=ρ.length->Rep M ρ' σ' H fps'->Q σ' H)->ws.length=is.length/\Kh is ws σ H Q
 | [],[],ws,ρ,σ,H,fps,ρ',Q,_,r,o,e,q=>by
  rw [OwnL] at o;obtain ⟨rfl,_⟩:=o;cases e;exact ⟨rfl,rfl,q σ fps (λ _ _ h=>h) (λ _ _=>⟨rfl,rfl,rfl⟩) rfl r⟩
 | [],_::_,_,_,_,_,_,_,_,_,_,_,e,_=>by cases e
 | _::_,[],_,_,_,_,_,_,_,_,_,_,e,_=>by cases e
 | i::is,y::ys,ws,ρ,σ,H,fps,ρ',Q,hs,r,o,e,q=>by
  rw [OwnL] at o;obtain ⟨v,s,f1,f2,rfl,ef,_,o1,o2⟩:=o;obtain ⟨rfl,rfl⟩:f1=[]/\f2=[]:=by simpa using ef.symm
  unfold HW at e;cases e1:asgN i y ρ with
  | none=>rw [e1] at e;cases e
  | some ρ1=>
   rw [e1] at e;unfold asgN at e1;split at e1
   ·rename_i hi;cases e1;have bi:=hs i AR;have r':=r.bind1 o1 hi bi;have sub:∀ j a,a∈(λ j=>if j=i then [] else fps j) j->a∈fps j:=λ j a z=>by
     by_cases ej:j=i
     ·simp only [if_pos ej] at z;cases z
     ·simp only [if_neg ej] at z;exact z
    have o2':OwnL M.K H (Zv M al (λ j=>if j=i then [] else fps j)) ys 0 s []:=o2.weak λ a h=>h.elim .inl λ ⟨j,nj,z⟩=>.inr ⟨j,nj,sub j a z⟩;obtain ⟨hl,hg⟩:=Xa is ys s _ _ H _ ρ' Q (λ j hj=>hs j (AO _ hj)) r' o2' e λ σ' fps' k' a' l' r''=>q σ' fps' (λ j a ha=>sub j a (k' j a ha)) (λ j hj=>by
     have ej:j≠i:=λ e=>hj (by rw [e];exact AR);obtain ⟨z1,z2,z3⟩:=a' j λ z=>hj (AO _ z);rw [if_neg ej] at z2;exact ⟨z1.trans (Cw (Ca ej)),z2,z3.trans (Cw (Ca ej))⟩) (l'.trans (by rw [Ei])) r''
    exact ⟨by rw [Bl,Bl,hl],v,s,rfl,hg⟩
   ·cases e1
def RS {al:List Nat}{is:List Nat} (hs:∀ i∈is,Bd M al i):DZ M al is (JL M.K is.length (Kh is)) (Cf is):=by
 intro y v ρ σ H fps ρ' Q r o e q;unfold Cf at e;split at e
 ·rename_i ys;rw [Own] at o;obtain ⟨a,ws,rfl,hr,ol⟩:=o;obtain ⟨hl,hg⟩:=Xa is ys ws ρ σ H fps ρ' Q hs r ol e q;exact ⟨a,ws,rfl,.inl (.inl hr),hl,hg⟩
 ·cases e
def Cg (asg:PV->Ag->Option Ag) (body:Fs):List PV->Ag->Rs
 | [],ρ=>.nx ρ
 | x::xs,ρ=>match asg x ρ with
  | none=>.no
  | some ρ1=>match body ρ1 with
   | .nx ρ2=>Cg asg body xs ρ2
   | .ct ρ2=>Cg asg body xs ρ2
   | .bk ρ2=>.nx ρ2
   | .rt x d ρ2=>.rt x d ρ2
   | .exc c=>.exc c
   | .no=>.no
def Lp {g:TG}{asg:PV->Ag->Option Ag}{body:Fs}{D:Ends}{J:It}{els:List PV}{Pq:Hp->AX->Prop} (hg:DZ M [] is g asg)
  (hP:∀ {ρ σ H fps H' fps'},Rep M ρ σ H fps->KS M H fps H' fps'->Pq H fps->Pq H' fps') (hgo:∀ {H fps i},Pq H fps->i < els.length->J.go i H) (hst:∀ {H fps i},Pq H fps->els.length<=i->J.stop i H)
  (hy:∀ {ρ σ H fps i x H'},Rep M ρ σ H fps->Pq H fps->i < els.length->J.yld i H x H'->(∀ a o,H a=some o->H' a=some o)/\∃ y,els[i]?=some y/\Own M.K H' (Zf M fps) y 0 x [])
  (rep:Rep M ρ σ H fps) (p:Pq H fps) (q:RsOk M D H fps (Cg asg body els ρ)):
  ∃ W:Nat->Nat->St->Hp->Prop,(∃ m,W 0 m σ H)/\∀ i m σ H,W i m σ H ->
   (J.stop i H/\D.nx σ H)\/(J.go i H/\∃ N:St->Hp->Prop,(∀ σ' H',N σ' H'->∃ m',m' < m/\W (i + 1) m' σ' H')/\∀ x H',J.yld i H x H'->g x σ H' λ σ2 H2=>(tS M body) { D with nx:=N,ct:=N,bk:=D.nx } σ2 H2):=by
 let W:Nat->Nat->St->Hp->Prop:=λ i m σ H=>m=els.length - i/\∃ ρ fps,Rep M ρ σ H fps/\Pq H fps/\RsOk M D H fps (Cg asg body (els.drop i) ρ);refine ⟨W,⟨els.length,by simp,ρ,fps,rep,p,by simpa using q⟩,?_⟩;rintro i m σ H ⟨rfl,ρ,fps,r,p,q⟩;by_cases hi:i < els.length
 ·right
  refine ⟨hgo p hi,W (i + 1) (els.length - (i + 1)),λ σ' H' w=>⟨_,by omega,w⟩,λ x H' y=>?_⟩;obtain ⟨kx,z,ez,oz⟩:=hy r p hi y;have k0:KS M H fps H' fps:=(KD.grow kx).ks;have p:=hP r k0 p;have r:=r.grow kx;have q:=RsOk.from k0 q;have ed:els.drop i=z::els.drop (i + 1):=by
   obtain ⟨h1,h2⟩:=ja9.mp ez;rw [<- h2];exact KR h1
  rw [ed] at q;unfold Cg at q;cases ea:asg z ρ with
  | none=>rw [ea] at q;exact q.elim
  | some ρ1=>
   rw [ea] at q;dsimp only at q;refine hg z x ρ σ _ fps ρ1 _ r (oz.weak λ a h=>h.zf) ea λ σ1 fps1 s1 _ _ r1=>⟨ρ1,fps1,r1,?_⟩
   have k1:KS M H' fps H' fps1:=⟨λ _ _ h _=>h,λ _ h=>h,λ j a ha=>.inl ⟨j,s1 j a ha⟩⟩
   have p1:=hP r k1 p;cases eb:body ρ1 with
   | no=>rw [eb] at q;exact q
   | exc c=>rw [eb] at q;exact RsOk.from (r:=.exc c) k1 q
   | rt x d ρ2=>rw [eb] at q;exact RsOk.from (r:=.rt x d ρ2) k1 q
   | bk ρ2=>rw [eb] at q;exact λ σ' H' fps' k=>q σ' H' fps' (k1.trans k)
   | nx ρ2=>rw [eb] at q;exact λ σ' H' fps' k r'=>⟨rfl,ρ2,fps',r',hP r1 k p1,RsOk.from (k1.trans k) q⟩
   | ct ρ2=>rw [eb] at q;exact λ σ' H' fps' k r'=>⟨rfl,ρ2,fps',r',hP r1 k p1,RsOk.from (k1.trans k) q⟩
 ·left
  have ed:els.drop i=[]:=Z7 (by omega);rw [ed] at q;exact ⟨hst p (by omega),q σ H fps KS.refl r⟩
def FN (lo:Int) (n:Nat):List PV:=(AI n).map λ (i:Nat)=>PV.int (lo + (i:Int))
def JY (lo:Int) (n:Nat):(FN lo n).length=n:=by simp [FN]
def BU:List (PV×Nat)->Option (Int×Int)
 | [(.int j,_)]=>if -(2 ^ 62)<=j/\j < 2 ^ 62 then some (0,j) else none
 | _=>none
def Em:List (PV×Nat)->Option (Int×Int)
 | [(.int i,_),(.int j,_)]=>if -(2 ^ 62)<=i/\i < 2 ^ 62/\-(2 ^ 62)<=j/\j < 2 ^ 62 then some (i,j) else none
 | _=>none
def CW (en:List (PV×Nat)->Option (Int×Int)) (fa:Fa) (asg:PV->Ag->Option Ag) (body:Fs):Fs:=λ ρ=>match fa ρ with
 | .ok (xs,ρ1)=>(match en xs with
  | some (i,j)=>Cg asg body (FN i (j - i).toNat) ρ1
  | none=>.no)
 | .exc c=>.exc c
 | .no=>.no
def Uq {g:TG}{asg:PV->Ag->Option Ag}{body:Fs}{D:Ends}{lo:Int}{n:Nat} (hg:DZ M [] is g asg) (rep:Rep M ρ σ H fps) (q:RsOk M D H fps (Cg asg body (FN lo n) ρ)):
  ∃ W:Nat->Nat->St->Hp->Prop,(∃ m,W 0 m σ H)/\∀ i m σ H,W i m σ H ->
   ((Hi lo n).stop i H/\D.nx σ H)\/((Hi lo n).go i H/\∃ N:St->Hp->Prop,(∀ σ' H',N σ' H'->∃ m',m' < m/\W (i + 1) m' σ' H')/\∀ x H',(Hi lo n).yld i H x H'->g x σ H' λ σ2 H2=>(tS M body) { D with nx:=N,ct:=N,bk:=D.nx } σ2 H2):=by
 refine Lp (Pq:=λ _ _=>True) hg (λ _ _ _=>trivial) (λ {H fps i} _ h=>?_) (λ {H fps i} _ h=>?_) (λ {ρ σ H fps i x H'} _ _ h y=>?_) rep trivial q
 ·rw [JY] at h;exact h
 ·rw [JY] at h;exact h
 ·rw [JY] at h;obtain ⟨e1,e2⟩:=y;subst e1;exact ⟨λ _ _ h=>h,.int (lo + i),by simp [FN,h],by rw [e2,Own];exact ⟨rfl,rfl⟩⟩
theorem Xw {g:TG}{asg:PV->Ag->Option Ag}{body:Fs}{fa:Fa}{D:Ends} (hg:DZ M [] is g asg) (hq:tS M (CW BU fa asg body) D σ H):Gb (OD (tL M fa vs)) g (tS M body) D σ H:=by
 obtain ⟨ρ,fps,rep,q⟩:=hq;refine ⟨ρ,fps,rep,?_⟩;unfold CW at q;cases ef:fa ρ with
 | no=>rw [ef] at q;exact q
 | exc c=>rw [ef] at q;exact λ H' fps' k=>q _ H' fps' k.ks
 | ok p=>
  obtain ⟨xs,ρ1⟩:=p;rw [ef] at q;intro ws H1 fps1 f1 k1 g1 rep1 o1 t1;dsimp only at q;cases ee:BU xs with
  | none=>rw [ee] at q;exact q.elim
  | some ij=>
   obtain ⟨i,j⟩:=ij;rw [ee] at q;unfold BU at ee;split at ee
   ·rename_i j' d;split at ee
    ·rename_i hb;cases ee;obtain ⟨v,r,f1,f2,rfl,_,_,h1,h2⟩:=o1;obtain ⟨rfl,_⟩:=h2;rw [Own] at h1;obtain ⟨rfl,_⟩:=h1;refine ⟨j,rfl,hb.1,hb.2,?_⟩;have e:(j - 0).toNat=j.toNat:=by omega
     dsimp only at q;rw [e] at q;exact Uq hg rep1 (RsOk.from k1.ks q)
    ·cases ee
   ·cases ee
theorem Xx {g:TG}{asg:PV->Ag->Option Ag}{body:Fs}{fa:Fa}{D:Ends} (hg:DZ M [] is g asg) (hq:tS M (CW Em fa asg body) D σ H):Gb (OE (tL M fa vs)) g (tS M body) D σ H:=by
 obtain ⟨ρ,fps,rep,q⟩:=hq;refine ⟨ρ,fps,rep,?_⟩;unfold CW at q;cases ef:fa ρ with
 | no=>rw [ef] at q;exact q
 | exc c=>rw [ef] at q;exact λ H' fps' k=>q _ H' fps' k.ks
 | ok p=>
  obtain ⟨xs,ρ1⟩:=p;rw [ef] at q;intro ws H1 fps1 f1 k1 g1 rep1 o1 t1;dsimp only at q;cases ee:Em xs with
  | none=>rw [ee] at q;exact q.elim
  | some ij=>
   obtain ⟨i,j⟩:=ij;rw [ee] at q;unfold Em at ee;split at ee
   ·rename_i i' d j' d';split at ee
    ·rename_i hb;cases ee;obtain ⟨v,r,f1,f2,rfl,_,_,h1,h2⟩:=o1;obtain ⟨v2,r2,f3,f4,rfl,_,_,h3,h4⟩:=h2;obtain ⟨rfl,_⟩:=h4;rw [Own] at h1 h3;obtain ⟨rfl,_⟩:=h1;obtain ⟨rfl,_⟩:=h3;exact ⟨i,j,rfl,hb,Uq hg rep1 (RsOk.from k1.ks q)⟩
    ·cases ee
   ·cases ee
def FX (z:Str):List PV:=z.cps.toList.map λ c=>.str ⟨#[c]⟩
def D0 (f:Fx) (vs:List Nat) (asg:PV->Ag->Option Ag) (body:Fs):Fs:=λ ρ=>match f ρ with
 | .ok (.str z,d,ρ1)=>if OP z=true then Cg asg body (FX z) (Bi d vs ρ1) else .no
 | .ok (.lst xs,d,ρ1)=>Cg asg body xs (Bi d vs ρ1)
 | .ok (.tup xs,d,ρ1)=>Cg asg body xs (Bi d vs ρ1)
 | .ok _=>.no
 | .exc c=>.exc c
 | .no=>.no
theorem OwnL.get {K:Frag}{Z:Addr->Prop}:∀ {xs:List PV}{ws:List V}{i:Nat}{w:V},OwnL K H Z xs 0 ws []->ws[i]?=some w->∃ x,xs[i]?=some x/\Own K H Z x 0 w []
 | [],ws,i,w,h,e=>by
  rw [OwnL] at h;obtain ⟨rfl,_⟩:=h;simp at e
 | x::xs,ws,i,w,h,e=>by
  rw [OwnL] at h;obtain ⟨v,s,f1,f2,rfl,ef,_,o1,o2⟩:=h;obtain ⟨rfl,rfl⟩:f1=[]/\f2=[]:=by simpa using ef.symm
  cases i with
  | zero=>simp at e;subst e;exact ⟨x,by simp,o1⟩
  | succ i=>obtain ⟨y,e1,e2⟩:=o2.get (i:=i) (w:=w) (by simpa using e);exact ⟨y,by simpa using e1,e2⟩
def Rep.seen {x:PV}{d:Nat}{v:V}{fp:List Addr} (rep:Rep M ρ σ H fps) (k:KD M H fps H' fps') (g:Agr M ρ ρ') (r':Rep M ρ' σ H' fps') (o:Own M.K H' (Zt M vs fps' fp) x d v fp) (t:Temp M vs H H' fps' fp)
  (hal:∀ i,M.al i=[]) (hv:∀ i∈vs,M.Ms i=false):∃ fps2,KS M H fps H' fps2/\Rep M (Bi d vs ρ') σ H' fps2/\Own M.K H' (Zf M fps2) x 0 v []:=by
 unfold Bi;by_cases hd:d=om
 ·rw [if_pos hd];rw [hd] at o;exact ⟨fps',k.ks,r',Own.freeze (λ _ z=>z) x om v fp (λ a ha=>t.ndj a ha) (Own.full x v fp o)⟩
 ·rw [if_neg hd];exact ⟨En vs fps',k.ks.cool,r'.cool hal hv,Own.freeze (λ a h=>.inl (Il h)) x d v fp (λ a ha z=>t.ndj a ha (Il z).zf) o⟩
theorem Xy {g:TG}{asg:PV->Ag->Option Ag}{body:Fs}{f:Fx}{D:Ends} (hal:∀ i,M.al i=[]) (hv:∀ i∈vs,M.Ms i=false) (hg:DZ M [] is g asg) (hq:tS M (D0 f vs asg body) D σ H):Gb (Gu M.K (tE M f vs)) g (tS M body) D σ H:=by
 obtain ⟨ρ,fps,rep,q⟩:=hq;refine ⟨ρ,fps,rep,?_⟩;unfold D0 at q;cases ef:f ρ with
 | no=>rw [ef] at q;exact q
 | exc c=>rw [ef] at q;exact λ H' fps' k=>q _ H' fps' k.ks
 | ok p=>
  obtain ⟨x,d,ρ1⟩:=p;rw [ef] at q;intro v H1 fps1 f1 k1 g1 rep1 o1 t1;obtain ⟨fps2,k2,r2,o2⟩:=Rep.seen rep k1 g1 rep1 o1 t1 hal hv;cases x with
  | lst xs=>
   have o2':=o2;rw [Own] at o2';obtain ⟨a,ws,rfl,⟨_,hr,_,ol⟩ | ⟨h,_⟩⟩:=o2'
   ·have sq:Co M.K H1 a ws:=.inl (.inl hr.1);refine .inl ⟨a,rfl,.inl ⟨⟨ws,sq⟩,?_⟩⟩;have one:∀ {H:Hp}{fps:AX},Own M.K H (Zf M fps) (.lst xs) 0 (.ref a) []->∃ ws,Co M.K H a ws/\OwnL M.K H (Zf M fps) xs 0 ws []:=λ o=>by
     rw [Own] at o;obtain ⟨b,ws,e,⟨_,hr,_,ol⟩ | ⟨h,_⟩⟩:=o
     ·cases e;exact ⟨ws,.inl (.inl hr.1),ol⟩
     ·exact absurd rfl h
    refine Lp (Pq:=λ H fps=>Own M.K H (Zf M fps) (.lst xs) 0 (.ref a) []) (els:=xs) hg (λ r k o=>k.stay0 r o) (λ {H fps i} o h=>?_) (λ {H fps i} o h=>?_) (λ {ρ σ H fps i x H'} _ o h y=>?_) r2 o2 (RsOk.from k2 q)
    ·obtain ⟨ws,s,ol⟩:=one o;exact ⟨ws,ws[i]'(by rw [ol.length];exact h),s,by simp⟩
    ·obtain ⟨ws,s,ol⟩:=one o;exact ⟨ws,s,by rw [ol.length];exact h⟩
    ·obtain ⟨ws,s,ol⟩:=one o;obtain ⟨e1,e2⟩:=y;subst e1;exact ⟨λ _ _ h=>h,ol.get (e2 ws s)⟩
   ·exact absurd rfl h
  | tup xs=>
   have o2':=o2;rw [Own] at o2';obtain ⟨a,ws,rfl,hr,ol⟩:=o2';refine .inl ⟨a,rfl,.inr ⟨⟨ws,.inl (.inl hr)⟩,?_⟩⟩;have one:∀ {H:Hp}{fps:AX},Own M.K H (Zf M fps) (.tup xs) 0 (.ref a) []->∃ ws,Dq M.K H a ws/\OwnL M.K H (Zf M fps) xs 0 ws []:=λ o=>by
    rw [Own] at o;obtain ⟨b,ws,e,hr,ol⟩:=o;cases e;exact ⟨ws,.inl (.inl hr),ol⟩
   refine Lp (Pq:=λ H fps=>Own M.K H (Zf M fps) (.tup xs) 0 (.ref a) []) (els:=xs) hg (λ r k o=>k.stay0 r o) (λ {H fps i} o h=>?_) (λ {H fps i} o h=>?_) (λ {ρ σ H fps i x H'} _ o h y=>?_) r2 o2 (RsOk.from k2 q)
   ·obtain ⟨ws,s,ol⟩:=one o;exact ⟨ws,ws[i]'(by rw [ol.length];exact h),s,by simp⟩
   ·obtain ⟨ws,s,ol⟩:=one o;exact ⟨ws,s,by rw [ol.length];exact h⟩
   ·obtain ⟨ws,s,ol⟩:=one o;obtain ⟨e1,e2⟩:=y;subst e1;exact ⟨λ _ _ h=>h,ol.get (e2 ws s)⟩
  | str z=>
   have o2':=o2;rw [Own] at o2';obtain ⟨rfl,_⟩:=o2';dsimp only at q;split at q
   ·rename_i ha;refine .inr ⟨z,rfl,ha,?_⟩;have hl:(FX z).length=z.cps.size:=by unfold FX;rw [AD,MC]
    refine Lp (Pq:=λ _ _=>True) (els:=FX z) hg (λ _ _ _=>trivial) (λ {H fps i} _ h=>?_) (λ {H fps i} _ h=>?_) (λ {ρ σ H fps i x H'} _ _ h y=>?_) r2 trivial (RsOk.from k2 q)
    ·show i < z.cps.size;omega
    ·show z.cps.size<=i;omega
    ·obtain ⟨rfl,c,hc,rfl⟩:=y;refine ⟨λ _ _ h=>h,.str ⟨#[c]⟩,?_,by rw [Own];exact ⟨rfl,rfl⟩⟩;unfold FX;rw [CV,TJ,hc];rfl
   ·exact q.elim
  | _=>exact q.elim
end
section
variable {M:Fm}{ρ ρ':Ag}{σ σ':St}{H H' H'':Hp}{fps fps' fps'':AX}{vs vs':List Nat}
def Fm.comp (M:Fm) (D:Addr) (n:Nat) (vI:List Nat):Fm:={ M.plus [D] with W:=λ _ _ _=>False,al:=λ j=>if j < n then M.al j else vI }
def Rep.minus {fp:List Addr} (r:Rep (M.plus fp) ρ σ H fps):Rep M ρ σ H fps where
 own:=λ i x d e=>let ⟨v,h1,h2⟩:=r.own i x d e;⟨v,h1,h2.weak λ a h=>h.elim (λ h=>.inl (.inl h)) .inr⟩
 non:=r.non
 dj:=r.dj
 zo:=λ i a ha z=>r.zo i a ha (.inl z)
 fr:=r.fr
 zd:=λ a z=>r.zd a (.inl z)
 len:=r.len
 msf:=r.msf
 h0:=r.h0
 iov:=r.iov
def Rep.far (r:Rep M ρ σ H fps) {j:Nat} (h:ρ.length<=j):fps j=[]:=r.non j λ p e=>by
 rw [ji5.mpr h] at e;cases e
def Rep.ext {D:Addr}{k:Nat}{vI:List Nat} (r:Rep (M.plus [D]) ρ σ H fps):Rep (M.comp D ρ.length vI) (ρ++Bo k none) (σ++Bo k none) H fps where
 own:=λ i x d e=>by
  by_cases hi:i < ρ.length
  ·rw [DJ hi] at e;obtain ⟨v,h1,h2⟩:=r.own i x d e;refine ⟨v,by rw [DJ (by rw [<- r.len];exact hi)];exact h1,h2.weak λ a h=>?_⟩;rcases h with h | ⟨j,nj,h⟩
   ·exact .inl h
   ·refine .inr ⟨j,?_,h⟩
    have:(M.comp D ρ.length vI).al i=M.al i:=if_pos hi
    rw [this] at nj;exact nj
  ·rw [HL (by omega),IM] at e;split at e <;> cases e
 non:=λ i h=>by
  by_cases hi:i < ρ.length
  ·exact r.non i λ p e=>h p (by rw [DJ hi];exact e)
  ·exact r.far (by omega)
 dj:=r.dj
 zo:=r.zo
 fr:=r.fr
 zd:=r.zd
 len:=by simp [r.len]
 msf:=λ i x d hm e=>by
  by_cases hi:i < ρ.length
  ·rw [DJ hi] at e;exact r.msf i x d hm e
  ·rw [HL (by omega),IM] at e;split at e <;> cases e
 h0:=r.h0
 iov:=⟨λ v hv=>by
  have h:=r.iov.1 v hv;refine ⟨?_,h.2⟩
  have:0 < σ.length:=(ja9.mp h.1).1
  rw [DJ this];exact h.1,λ p hp=>by
  have h:=r.iov.2 p hp;rw [DJ (ja9.mp h).1];exact h⟩
def Ej (n:Nat) (fps:AX):AX:=λ j=>if j < n then fps j else []
def Hv {n i:Nat}{a:Addr} (h:a∈Ej n fps i):a∈fps i/\i < n:=by
 unfold Ej at h;split at h
 ·rename_i hi;exact ⟨h,hi⟩
 ·cases h
def Rep.take {D:Addr}{n:Nat}{vI:List Nat} (r:Rep (M.comp D n vI) ρ σ H fps) (hσ:∀ i,i < n->σ[i]?=σ'[i]?) (hl:σ'.length=n) (hn:n<=ρ.length) (hio:(M.io≠none->0 < n)/\∀ p∈M.pn,p.1 < n):Rep (M.plus [D]) (ρ.take n) σ' H (Ej n fps) where
 own:=λ i x d e=>by
  have hi:i < n:=by
   have:=(ja9.mp e).1
   rw [FE] at this;omega
  rw [MD hi] at e;obtain ⟨v,h1,h2⟩:=r.own i x d e;refine ⟨v,by rw [<- hσ i hi];exact h1,?_⟩
  have:Ej n fps i=fps i:=if_pos hi
  rw [this];refine h2.weak λ a h=>?_;rcases h with h | ⟨j,nj,h⟩
  ·exact .inl h
  ·refine .inr ⟨j,?_,(Hv h).1⟩
   have:(M.comp D n vI).al i=M.al i:=if_pos hi
   rw [this];exact nj
 non:=λ i h=>by
  unfold Ej;split
  ·rename_i hi;exact r.non i λ p e=>h p (by rw [MD hi];exact e)
  ·rfl
 dj:=λ i j hij a ha hb=>r.dj i j hij a (Hv ha).1 (Hv hb).1
 zo:=λ i a ha=>r.zo i a (Hv ha).1
 fr:=λ i hi a ha=>r.fr i hi a (Hv ha).1
 zd:=r.zd
 len:=by rw [FE,hl];omega
 msf:=λ i x d hm e=>by
  have hi:i < n:=by
   have:=(ja9.mp e).1
   rw [FE] at this;omega
  rw [MD hi] at e;exact r.msf i x d hm e
 h0:=r.h0
 iov:=⟨λ v hv=>by
  have h:=r.iov.1 v hv;refine ⟨?_,h.2⟩;have h0:0 < n:=hio.1 (by
   have hv':M.io=some v:=hv;rw [hv'];simp)
  rw [<- hσ 0 h0];exact h.1,λ p hp=>by rw [<- hσ p.1 (hio.2 p hp)];exact r.iov.2 p hp⟩
def Rep.touch {D:Addr}{us ws:List V} (r:Rep (M.plus [D]) ρ σ H fps) (hD:H D=some (.lst ws)):Rep (M.plus [D]) ρ σ (Aq H D (.lst us)) fps:=by
 have zD:(M.plus [D]).Zo D:=.inr (by simp);have dm:∀ b,H b≠none->(Aq H D (.lst us)) b≠none:=λ b h=>by
  by_cases eb:b=D
  ·rw [eb,C8];simp
  ·rw [Bk eb];exact h
 exact ⟨λ i x d e=>let ⟨v,h1,h2⟩:=r.own i x d e;⟨v,h1,h2.at (.inl zD) ⟨.l ws,hD⟩ (λ z=>r.zo i D z zD) λ _ _ n=>n⟩,r.non,r.dj,r.zo,r.fr,λ a z=>dm a (r.zd a z),r.len,r.msf,λ a z=>dm a (r.h0 a z),r.iov⟩
theorem Tmps.snoc {K:Frag}{Z:Addr->Prop}{y:PV}{e:Nat}{w:V}{fe:List Addr} (hy:Own K H (λ a=>Z a\/a∈fe) y e w fe):∀ {xs:List (PV×Nat)}{ws:List V}{fp:List Addr},Tmps K H Z xs ws fp->(∀ a∈fp,a∉fe)->Tmps K H Z (xs++[(y,e)]) (ws++[w]) (fp++fe)
 | [],ws,fp,h,_=>by
  obtain ⟨rfl,rfl⟩:=h;exact ⟨w,[],fe,[],rfl,by simp,λ _ _ z=>(nomatch z),hy,rfl,rfl⟩
 | (x,d)::xs,ws,fp,h,hd=>by
  obtain ⟨v,s,f1,f2,rfl,rfl,dj,h1,h2⟩:=h;refine ⟨v,s++[w],f1,f2++fe,rfl,by rw [Pr],λ a ha hb=>?_,h1,h2.snoc hy λ a ha=>hd a (Bq _ ha)⟩;rcases jc6.mp hb with z | z
  ·exact dj a ha z
  ·exact hd a (BG _ ha) z
theorem Tmps.at {K:Frag}{Z:Addr->Prop}{a:Addr}{o:HO} (hZ:Z a) (hl:∃ o:MO,H a=some o.ho):∀ {xs:List (PV×Nat)}{ws:List V}{fp:List Addr},Tmps K H Z xs ws fp->a∉fp->Tmps K (Aq H a o) Z xs ws fp
 | [],_,_,h,_=>h
 | (x,d)::xs,ws,fp,h,hf=>by
  obtain ⟨v,s,f1,f2,e1,rfl,dj,h1,h2⟩:=h;exact ⟨v,s,f1,f2,e1,rfl,dj,h1.at (.inl hZ) hl (λ z=>hf (BG _ z)) λ _ _ n=>n,h2.at hZ hl λ z=>hf (Bq _ z)⟩
theorem Tmps.lsts {K:Frag}{Z:Addr->Prop}:∀ {xs:List (PV×Nat)}{ws:List V}{fp:List Addr},Tmps K H Z xs ws fp->∀ a∈fp,∃ o:MO,H a=some o.ho
 | [],_,_,h,a,ha=>by rw [h.2] at ha;cases ha
 | (x,d)::xs,ws,fp,h,a,ha=>by
  obtain ⟨v,s,f1,f2,e1,rfl,dj,h1,h2⟩:=h;rcases jc6.mp ha with z | z
  ·exact Own.lsts x d v f1 h1 a z
  ·exact h2.lsts a z
def Rz.bindN {α β:Type} (r:Rz α) (f:α->Rz β):Rz β:=match r with
 | .ok a=>f a
 | _=>.no
def CI (k:Nat) (asg:PV->Ag->Option Ag) (test:Fb) (elt:Fx):List PV->Ag->List (PV×Nat)->Rz (List (PV×Nat)×Ag)
 | [],ρ,acc=>.ok (acc,ρ)
 | x::xs,ρ,acc=>match asg x (ρ++Bo k none) with
  | none=>.no
  | some ρ1=>(test ρ1).bindN λ (b,ρ2)=>if b=true then (elt ρ2).bindN λ (y,e,ρ3)=>(if acc.length < Aw then CI k asg test elt xs (ρ3.take ρ.length) (acc++[(y,e)]) else .no) else CI k asg test elt xs (ρ2.take ρ.length) acc
def KD.seen {D:Addr}{x:PV}{v:V} (r:Rep M ρ σ H fps) (k:KD M H fps H' fps') (hD:H D=none) (hv:∀ i∈vs,M.Ms i=false) (o:Own M.K H (Zv M vs fps) x 0 v []):Own M.K H' (Zv (M.plus [D]) vs fps') x 0 v []:=by
 refine Own.move k.keep ?_ ?_ x 0 v [] (λ _ z=>nomatch z) o
 ·rintro a ⟨i,hi,ha⟩;exact ⟨.inr ⟨i,λ z=>(by rw [hv i z] at hi;cases hi),ha⟩,r.lsts ha⟩
 ·intro a hd nz z;rcases z with (z | z) | ⟨i,ni,hx⟩
  ·exact nz (.inl z)
  ·rw [jb1.mp z] at hd;exact hd hD
  ·rcases k.sub i a hx with z | z
   ·exact nz (.inr ⟨i,ni,z⟩)
   ·exact hd z
def Lg {g:TG}{is vI vE vo:List Nat}{asg:PV->Ag->Option Ag}{test:Fb}{elt:Fx}{k:Nat}{J:It}{els:List PV}{Q:VK}{n:Nat}{P:Fm->Prop}
  (hP:∀ D,P (M.comp D n vI)) (hn:n=ρ.length) (hal:∀ i,∀ j∈M.al i,M.Ms j=false) (hvI:∀ i∈vI,M.Ms i=false) (hvE:∀ i∈vE,M.Ms i=false) (his:∀ i∈is,n<=i) (hg:∀ D,DZ (M.comp D n vI) vI is g asg) (hvo:∀ i,i∈vE->i < n->i∈vo) (hvo2:∀ i∈vo,M.Ms i=false)
  (rep:Rep M ρ σ H fps)
  (hgo:∀ {D H' fps' i},H D=none->KD M H fps H' fps'->i < els.length->J.go i H') (hst:∀ {D H' fps' i},H D=none->KD M H fps H' fps'->els.length<=i->J.stop i H')
  (hy:∀ {D H' fps' i x H''},H D=none->KD M H fps H' fps'->i < els.length->J.yld i H' x H''->(∀ a o,H' a=some o->H'' a=some o)/\∃ z,els[i]?=some z/\Own M.K H'' (Zv (M.plus [D]) vI fps') z 0 x [])
  (q:match CI k asg test elt els ρ [] with
   | .ok (acc,ρ')=>∀ D ws H' fps' fpl,KD M H fps H' fps'->Agr M ρ ρ'->Rep (M.plus [D]) ρ' σ H' fps'->H D=none->H' D=some (.lst ws)->Tmps M.K H' (Zv (M.plus [D]) vo fps') acc ws fpl->(∀ a∈fpl,H a=none/\¬ Zf (M.plus [D]) fps' a)->Q (.ref D) H'
   | _=>False):
  ∀ D,H D=none->∃ W:Nat->Nat->List V->Hp->Prop,(∃ m,W 0 m [] (Aq H D (.lst [])))/\∀ i m ys H1,W i m ys H1->H1 D=some (.lst ys) /\
   ((J.stop i H1/\Q (.ref D) H1)\/(J.go i H1/\∀ x H',J.yld i H1 x H'->g x (σ++Bo k none) H' λ σ2 H2=>∃ M',P M'/\tT M' test σ2 H2 λ b H3=>if b=true then ∃ M',P M'/\tE M' elt vE σ2 H3 λ y H4=>H4 D=some (.lst ys)/\ys.length < Aw/\∃ m',m' < m/\W (i + 1) m' (ys++[y]) (Aq H4 D (.lst (ys++[y]))) else ∃ m',m' < m/\W (i + 1) m' ys H3)):=by
 intro D hD;subst hn;let W:Nat->Nat->List V->Hp->Prop:=λ i m ys H1=>m=els.length - i/\∃ ρ1 fps1 acc fpl,Rep (M.plus [D]) ρ1 σ H1 fps1/\KD M H fps H1 fps1/\Agr M ρ ρ1/\Tmps M.K H1 (Zv (M.plus [D]) vo fps1) acc ys fpl/\(∀ a∈fpl,H a=none/\¬ Zf (M.plus [D]) fps1 a)/\H1 D=some (.lst ys)/\CI k asg test elt (els.drop i) ρ1 acc=CI k asg test elt els ρ [];have k0:KD M H fps (Aq H D (.lst [])) fps:=KD.grow λ a o h=>by rw [Bk (λ e=>by rw [e,hD] at h;cases h)];exact h
 have r0:Rep (M.plus [D]) ρ σ (Aq H D (.lst [])) fps:=by
  refine rep.wide hal k0 Agr.refl (rep.grow λ a o h=>by rw [Bk (λ e=>by rw [e,hD] at h;cases h)];exact h) λ a ha=>?_;rw [jb1.mp ha];exact ⟨hD,by rw [C8];simp,rep.nz hD⟩
 refine ⟨W,⟨els.length,by simp,ρ,fps,[],[],r0,k0,Agr.refl,⟨rfl,rfl⟩,λ _ z=>(nomatch z),C8,by simp⟩,?_⟩;rintro i m ys H1 ⟨rfl,ρ1,fps1,acc,fpl,r1,k1,g1,tm,hf,h1D,ec⟩;refine ⟨h1D,?_⟩;have hlen:ρ1.length=ρ.length:=g1.2;by_cases hi:i < els.length
 ·right
  refine ⟨hgo hD k1 hi,λ x H' hyl=>?_⟩;obtain ⟨kx,z,ez,oz⟩:=hy hD k1 hi hyl;have tm:=KD.stays (M:=M.plus [D]) (KD.grow kx) r1 hvo2 tm λ a ha=>(hf a ha).2;have r1:=r1.grow kx;have k1:=k1.trans (KD.grow (M:=M) (fps:=fps1) kx);have h1D:=kx D _ h1D;have ed:els.drop i=z::els.drop (i + 1):=by
   obtain ⟨h1,h2⟩:=ja9.mp ez;rw [<- h2];exact KR h1
  rw [ed] at ec;have good:∃ a r,CI k asg test elt els ρ []=.ok (a,r):=by
   cases e:CI k asg test elt els ρ [] with
   | ok p=>exact ⟨p.1,p.2,rfl⟩
   | exc c=>rw [e] at q;exact q.elim
   | no=>rw [e] at q;exact q.elim
  obtain ⟨accF,ρF,eF⟩:=good;rw [eF] at ec;unfold CI at ec;cases ea:asg z (ρ1++Bo k none) with
  | none=>rw [ea] at ec;cases ec
  | some ρ2=>
   rw [ea] at ec;dsimp only at ec;have rx:Rep (M.comp D ρ.length vI) (ρ1++Bo k none) (σ++Bo k none) H' fps1:=by rw [<- hlen];exact r1.ext
   refine hg D z x _ _ H' fps1 ρ2 _ rx oz ea λ σ2 fps2 s2 a2 l2 r2=>⟨_,hP D,ρ2,fps2,r2,?_⟩
   have hl2:ρ2.length=ρ.length + k:=by rw [l2,BQ,JI,hlen]
   have same2:∀ j,j < ρ.length->ρ2[j]?=ρ1[j]?/\fps2 j=fps1 j/\σ2[j]?=σ[j]?:=λ j hj=>by
    obtain ⟨z1,z2,z3⟩:=a2 j λ z=>absurd (his j z) (by omega);rw [DJ (by omega)] at z1;rw [DJ (by rw [<- rep.len];omega)] at z3;exact ⟨z1,z2,z3⟩
   have kd2:KD (M.comp D ρ.length vI) H' fps1 H' fps2->True:=λ _=>trivial;cases et:test ρ2 with
   | exc c=>rw [et] at ec;cases ec
   | no=>rw [et] at ec;cases ec
   | ok p=>
    obtain ⟨b,ρ3⟩:=p;rw [et] at ec;intro H3 fps3 k3 g3 r3;dsimp only [Rz.bindN] at ec;have far:∀ {ρ4:Ag}{H4:Hp}{fps4:AX},KD (M.comp D ρ.length vI) H' fps2 H4 fps4->Agr (M.comp D ρ.length vI) ρ2 ρ4->Rep (M.comp D ρ.length vI) ρ4 σ2 H4 fps4 ->
      KD M H fps H4 (Ej ρ.length fps4)/\KD M H' fps1 H4 (Ej ρ.length fps4)/\Agr M ρ (ρ4.take ρ.length)/\Rep (M.plus [D]) (ρ4.take ρ.length) σ H4 (Ej ρ.length fps4)/\H4 D=some (.lst ys):=λ {ρ4 H4 fps4} k4 g4 r4=>by
     have kk:KD M H' fps1 H4 (Ej ρ.length fps4):=by
      refine ⟨λ a o ha hn=>k4.keep a o ha λ ⟨j,hj,hx⟩=>hn ⟨j,hj,s2 j a hx⟩,k4.dom,λ j a ha=>?_,λ j hj=>?_⟩
      ·rcases k4.sub j a (Hv ha).1 with z | z
       ·exact .inl (s2 j a z)
       ·exact .inr z
      ·unfold Ej;by_cases hjl:j < ρ.length
       ·rw [if_pos hjl,k4.same j hj];exact (same2 j hjl).2.1
       ·rw [if_neg hjl];exact (r1.far (by omega)).symm
     refine ⟨k1.trans kk,kk,?_,r4.take (σ':=σ) (λ j hj=>(same2 j hj).2.2) rep.len.symm (by rw [g4.2,hl2];omega) ⟨λ hio=>?_,λ p hp=>by rw [rep.len];exact (ja9.mp (rep.iov.2 p hp)).1⟩,?_⟩
     ·refine ⟨λ j hj=>?_,by rw [FE,g4.2,hl2];omega⟩;by_cases hjl:j < ρ.length
      ·rw [MD hjl,g4.1 j hj,(same2 j hjl).1];exact g1.1 j hj
      ·rw [ji5.mpr (by rw [FE];omega),ji5.mpr (by omega)]
     ·cases e:M.io with
      | none=>exact absurd e hio
      | some v=>
       have:=(ja9.mp (rep.iov.1 v e).1).1
       rw [rep.len];exact this
     ·exact k4.keep D _ h1D λ ⟨j,_,hx⟩=>r2.zo j D hx (.inr (by simp))
    have notZ:∀ {H4:Hp}{fps4:AX},KD M H' fps1 H4 fps4->∀ {a},a∈fpl->¬ Zf (M.plus [D]) fps4 a:=λ {H4 fps4} k4 a ha z=>by
     rcases z with z | ⟨j,z⟩
     ·exact (hf a ha).2 (.inl z)
     ·rcases k4.sub j a z with z | z
      ·exact (hf a ha).2 (.inr ⟨j,z⟩)
      ·obtain ⟨xs,e⟩:=tm.lsts a ha;rw [z] at e;cases e
    cases b with
    | false=>
     rw [if_neg CF] at ec ⊢;obtain ⟨f1,f2,f3,f4,f5⟩:=far k3 g3 r3;refine ⟨els.length - (i + 1),by omega,rfl,ρ3.take ρ.length,Ej ρ.length fps3,acc,fpl,f4,f1,f3,?_,λ a ha=>⟨(hf a ha).1,λ z=>?_⟩,f5,by rw [eF,<- hlen];exact ec⟩
     ·exact KD.stays (M:=M.plus [D]) (σ:=σ) (ρ:=ρ1) ⟨f2.keep,f2.dom,f2.sub,f2.same⟩ r1 hvo2 tm λ a ha=>(hf a ha).2
     ·exact notZ f2 ha z
    | true=>
     rw [if_pos rfl] at ec ⊢;refine ⟨_,hP D,ρ3,fps3,r3,?_⟩;cases ee:elt ρ3 with
     | exc c=>rw [ee] at ec;cases ec
     | no=>rw [ee] at ec;cases ec
     | ok p=>
      obtain ⟨y,e,ρ4⟩:=p;rw [ee] at ec;intro w H4 fps4 fe k4 g4 r4 o4 t4;dsimp only at ec;by_cases hz:acc.length < Aw
      ·rw [if_pos hz] at ec;obtain ⟨f1,f2,f3,f4,f5⟩:=far (k3.trans k4) (g3.trans g4) r4;have tm4:Tmps M.K H4 (Zv (M.plus [D]) vo (Ej ρ.length fps4)) acc ys fpl:=KD.stays (M:=M.plus [D]) (σ:=σ) (ρ:=ρ1) ⟨f2.keep,f2.dom,f2.sub,f2.same⟩ r1 hvo2 tm λ a ha=>(hf a ha).2;have zD:Zv (M.plus [D]) vo (Ej ρ.length fps4) D:=.inl (.inr (by simp));have hDe:D∉fe:=λ z=>t4.ndj D z (.inl (.inr (by simp)));have hDl:D∉fpl:=λ z=>(hf D z).2 (.inl (.inr (by simp)));have oy:Own M.K H4 (λ a=>Zv (M.plus [D]) vo (Ej ρ.length fps4) a\/a∈fe) y e w fe:=o4.weak λ a h=>h.elim (λ h=>.inl (h.elim .inl λ ⟨j,nj,hx⟩=>.inr ⟨j,λ z=>nj (hvo j z (Hv hx).2),(Hv hx).1⟩)) .inr;have back3:∀ a,H3 a=none->H' a=none:=λ a e=>by
        cases e':H' a with
        | none=>rfl
        | some o=>exact absurd e (k3.dom a (by rw [e'];simp))
       have back1:∀ a,H' a=none->H a=none:=λ a e=>by
        cases e':H a with
        | none=>rfl
        | some o=>exact absurd e (k1.dom a (by rw [e'];simp))
       have kt:KD M H fps (Aq H4 D (.lst (ys++[w]))) (Ej ρ.length fps4):=⟨λ a o ha hn=>by rw [Bk (λ e=>by rw [e,hD] at ha;cases ha)];exact f1.keep a o ha hn,λ a ha=>by
        by_cases eb:a=D
        ·rw [eb,C8];simp
        ·rw [Bk eb];exact f1.dom a ha,f1.sub,f1.same⟩
       refine ⟨f5,by rw [tm.length];exact hz,els.length - (i + 1),by omega,rfl,ρ4.take ρ.length,Ej ρ.length fps4,acc++[(y,e)],fpl++fe,f4.touch f5,kt,f3,?_,λ a ha=>?_,C8,by rw [eF,<- hlen];exact ec⟩
       ·exact (tm4.at zD ⟨.l ys,f5⟩ hDl).snoc (oy.at (.inl zD) ⟨.l ys,f5⟩ hDe λ _ _ n=>n) λ a ha hb=>by
         obtain ⟨xs,e⟩:=tm.lsts a ha;rw [back3 a (t4.new a hb)] at e;cases e
       ·rcases jc6.mp ha with z | z
        ·exact ⟨(hf a z).1,notZ f2 z⟩
        ·refine ⟨back1 a (back3 a (t4.new a z)),λ hz=>t4.ndj a z ?_⟩;rcases hz with hz | ⟨j,hz⟩
         ·exact .inl hz
         ·exact .inr ⟨j,(Hv hz).1⟩
      ·rw [if_neg hz] at ec;cases ec
 ·left
  have ed:els.drop i=[]:=Z7 (by omega);rw [ed] at ec;rw [<- ec] at q;unfold CI at q;exact ⟨hst hD k1 (by omega),q D ys H1 fps1 fpl k1 g1 r1 hD h1D tm hf⟩
end
section
variable {M:Fm}{ρ ρ':Ag}{σ σ':St}{H H' H'':Hp}{fps fps' fps'':AX}{vs vs':List Nat}
def Du:List (PV×Nat)->Bool
 | []=>true
 | p::r=>(p.2 == om) && Du r
theorem Lq:∀ {xs:List (PV×Nat)},Du xs=true->∀ p∈xs,p.2=om
 | [],_,_,h=>nomatch h
 | p::r,h,q,hq=>by
  unfold Du at h;rw [A9] at h;rcases jb2.mp hq with e | e
  ·rw [e];exact eq_of_beq h.1
  ·exact Lq h.2 q e
def C7 (acc:List (PV×Nat)) (ρ:Ag):Rz (PV×Nat×Ag):=.ok (.lst (acc.map (·.1)),if Du acc then om else 1,ρ)
def BN (f:Fx) (k:Nat) (asg:PV->Ag->Option Ag) (test:Fb) (elt:Fx):Fx:=λ ρ=>match f ρ with
 | .ok (.lst xs,_,ρ1)=>(CI k asg test elt xs ρ1 []).bindN λ (acc,ρ2)=>C7 acc ρ2
 | .ok (.tup xs,_,ρ1)=>(CI k asg test elt xs ρ1 []).bindN λ (acc,ρ2)=>C7 acc ρ2
 | .ok (.str z,_,ρ1)=>if OP z=true then (CI k asg test elt (FX z) ρ1 []).bindN λ (acc,ρ2)=>C7 acc ρ2 else .no
 | .ok _=>.no
 | .exc c=>.exc c
 | .no=>.no
def C4 (en:List (PV×Nat)->Option (Int×Int)) (fa:Fa) (k:Nat) (asg:PV->Ag->Option Ag) (test:Fb) (elt:Fx):Fx:=λ ρ=>match fa ρ with
 | .ok (xs,ρ1)=>(match en xs with
  | some (i,j)=>(CI k asg test elt (FN i (j - i).toNat) ρ1 []).bindN λ (acc,ρ2)=>C7 acc ρ2
  | none=>.no)
 | .exc c=>.exc c
 | .no=>.no
theorem Qv {D:Addr}{acc:List (PV×Nat)}{ws:List V}{fpl:List Addr}{vo:List Nat}{Q:VK}{H0:Hp}{fps0:AX}{ρ0:Ag}
  (rep0:Rep M ρ σ H fps) (k0:KD M H0 fps0 H fps) (g0:Agr M ρ0 ρ) (q:∀ v H' fps' fp,KD M H0 fps0 H' fps'->Agr M ρ0 ρ'->Rep M ρ' σ H' fps'->Own M.K H' (Zt M vo fps' fp) (.lst (acc.map (·.1))) (if Du acc then om else 1) v fp->Temp M vo H0 H' fps' fp->Q v H')
  (k:KD M H fps H' fps') (g:Agr M ρ ρ') (r:Rep (M.plus [D]) ρ' σ H' fps') (hD:H D=none) (hD':H' D=some (.lst ws)) (tm:Tmps M.K H' (Zv (M.plus [D]) vo fps') acc ws fpl) (hf:∀ a∈fpl,H a=none/\¬ Zf (M.plus [D]) fps' a):Q (.ref D) H':=by
 have back:∀ a,H a=none->H0 a=none:=λ a e=>by
  cases e':H0 a with
  | none=>rfl
  | some o=>exact absurd e (k0.dom a (by rw [e'];simp))
 have nD:¬ Zf M fps' D:=λ z=>by
  rcases z with z | ⟨j,z⟩
  ·exact rep0.zd D z hD
  ·exact r.zo j D z (.inr (by simp))
 have hDl:D∉fpl:=λ z=>(hf D z).2 (.inl (.inr (by simp)));have zt:∀ a,Zt M vo fps' [D] a->Zv (M.plus [D]) vo fps' a:=λ a h=>h.elim (λ h=>h.elim (λ h=>.inl (.inl h)) .inr) λ h=>.inl (.inr h);cases ho:Du acc with
 | true=>
  rw [ho] at q;refine q (.ref D) H' fps' (D::fpl) (k0.trans k) (g0.trans g) r.minus ?_ ⟨λ a ha=>?_,λ a ha=>?_⟩
  ·rw [Own];exact ⟨D,ws,rfl,.inr ⟨(by decide),fpl,hD',rfl,hDl,OwnL.full _ ws fpl (tm.all (Lq ho))⟩⟩
  ·rcases jb2.mp ha with z | z
   ·rw [z];exact back D hD
   ·exact back a (hf a z).1
  ·rcases jb2.mp ha with z | z
   ·rw [z];exact nD
   ·exact λ y=>(hf a z).2 (y.elim (λ y=>.inl (.inl y)) .inr)
 | false=>
  rw [ho] at q;refine q (.ref D) H' fps' [D] (k0.trans k) (g0.trans g) r.minus ?_ ⟨λ a ha=>?_,λ a ha=>?_⟩
  ·show Own M.K H' (Zt M vo fps' [D]) (.lst (acc.map (·.1))) 1 (.ref D) [D];rw [Own];refine ⟨D,ws,rfl,.inr ⟨(by decide),[],hD',rfl,(λ z=>nomatch z),?_⟩⟩;rw [Kc];exact (tm.cold λ a ha z=>(hf a ha).2 z.zf).weak zt
  ·rw [jb1.mp ha];exact back D hD
  ·rw [jb1.mp ha];exact nD
theorem wH {g:TG}{is vI vE vo:List Nat}{asg:PV->Ag->Option Ag}{test:Fb}{elt f:Fx}{k n:Nat}{Q:VK}{P:Fm->Prop}
  (hn:σ.length=n) (hP:∀ D,P (M.comp D n vI)) (hal:∀ i,∀ j∈M.al i,M.Ms j=false) (hvI:∀ i∈vI,M.Ms i=false) (hvE:∀ i∈vE,M.Ms i=false) (his:∀ i∈is,n<=i) (hg:∀ D,DZ (M.comp D n vI) vI is g asg)
  (hvo:∀ i,i∈vE->i < n->i∈vo) (hvo2:∀ i∈vo,M.Ms i=false) (hq:tE M (BN f k asg test elt) vo σ H Q):
  J7 k (Gu M.K (tE M f vI)) g (λ σ H Q=>∃ M',P M'/\tT M' test σ H Q) (λ σ H Q=>∃ M',P M'/\tE M' elt vE σ H Q) σ H Q:=by
 obtain ⟨ρ,fps,rep,q⟩:=hq;refine ⟨ρ,fps,rep,?_⟩;unfold BN at q;cases ef:f ρ with
 | no=>rw [ef] at q;exact q
 | exc c=>rw [ef] at q;exact q
 | ok p=>
  obtain ⟨x,d,ρ1⟩:=p;rw [ef] at q;intro v H1 fps1 f1 k1 g1 rep1 o1 t1;have o0:Own M.K H1 (Zv M vI fps1) x 0 v []:=Own.freeze (λ _ z=>.inl z) x d v f1 (λ a ha z=>t1.ndj a ha z.zf) o1;have hl:n=ρ1.length:=by rw [rep1.len];exact hn.symm
  have fin:∀ (els:List PV),(match (CI k asg test elt els ρ1 []).bindN λ (acc,ρ2)=>C7 acc ρ2 with
    | .ok (x,d,ρ')=>∀ v H' fps' fp,KD M H fps H' fps'->Agr M ρ ρ'->Rep M ρ' σ H' fps'->Own M.K H' (Zt M vo fps' fp) x d v fp->Temp M vo H H' fps' fp->Q v H'
    | .exc c=>∀ H' fps',KD M H fps H' fps'->M.W σ c H'
    | .no=>False)->(match CI k asg test elt els ρ1 [] with
    | .ok (acc,ρ')=>∀ D ws H' fps' fpl,KD M H1 fps1 H' fps'->Agr M ρ1 ρ'->Rep (M.plus [D]) ρ' σ H' fps'->H1 D=none->H' D=some (.lst ws)->Tmps M.K H' (Zv (M.plus [D]) vo fps') acc ws fpl->(∀ a∈fpl,H1 a=none/\¬ Zf (M.plus [D]) fps' a)->Q (.ref D) H'
    | _=>False):=λ els q=>by
   cases ec:CI k asg test elt els ρ1 [] with
   | no=>rw [ec] at q;exact q.elim
   | exc c=>rw [ec] at q;exact q.elim
   | ok p=>
    obtain ⟨acc,ρ2⟩:=p;rw [ec] at q;exact λ D ws H' fps' fpl k g r hD hD' tm hf=>Qv rep1 k1 g1 q k g r hD hD' tm hf
  cases x with
  | lst xs=>
   have one:∀ {Z:Addr->Prop}{H:Hp},Own M.K H Z (.lst xs) 0 v []->∃ a ws,v=.ref a/\Co M.K H a ws/\OwnL M.K H Z xs 0 ws []:=λ o=>by
    rw [Own] at o;obtain ⟨b,ws,e,⟨_,hr,_,ol⟩ | ⟨h,_⟩⟩:=o
    ·exact ⟨b,ws,e,.inl (.inl hr.1),ol⟩
    ·exact absurd rfl h
   obtain ⟨a,ws,rfl,sq,ol⟩:=one o0;refine .inl ⟨a,rfl,.inl ⟨⟨ws,sq⟩,?_⟩⟩;refine Lg (els:=xs) hP hl hal hvI hvE his hg hvo hvo2 rep1 (λ {D H' fps' i} hD k' h=>?_) (λ {D H' fps' i} hD k' h=>?_) (λ {D H' fps' i x H''} hD k' h y=>?_) (fin xs q)
   ·obtain ⟨a',ws,e,s,ol⟩:=one (KD.seen rep1 k' hD hvI o0);cases e;exact ⟨ws,ws[i]'(by rw [ol.length];exact h),s,by simp⟩
   ·obtain ⟨a',ws,e,s,ol⟩:=one (KD.seen rep1 k' hD hvI o0);cases e;exact ⟨ws,s,by rw [ol.length];exact h⟩
   ·obtain ⟨a',ws,e,s,ol⟩:=one (KD.seen rep1 k' hD hvI o0);cases e;obtain ⟨e1,e2⟩:=y;subst e1;exact ⟨λ _ _ h=>h,ol.get (e2 ws s)⟩
  | tup xs=>
   have one:∀ {Z:Addr->Prop}{H:Hp},Own M.K H Z (.tup xs) 0 v []->∃ a ws,v=.ref a/\Dq M.K H a ws/\OwnL M.K H Z xs 0 ws []:=λ o=>by
    rw [Own] at o;obtain ⟨a,ws,e,hr,ol⟩:=o;exact ⟨a,ws,e,.inl (.inl hr),ol⟩
   obtain ⟨a,ws,rfl,sq,ol⟩:=one o0;refine .inl ⟨a,rfl,.inr ⟨⟨ws,sq⟩,?_⟩⟩;refine Lg (els:=xs) hP hl hal hvI hvE his hg hvo hvo2 rep1 (λ {D H' fps' i} hD k' h=>?_) (λ {D H' fps' i} hD k' h=>?_) (λ {D H' fps' i x H''} hD k' h y=>?_) (fin xs q)
   ·obtain ⟨a',ws,e,s,ol⟩:=one (KD.seen rep1 k' hD hvI o0);cases e;exact ⟨ws,ws[i]'(by rw [ol.length];exact h),s,by simp⟩
   ·obtain ⟨a',ws,e,s,ol⟩:=one (KD.seen rep1 k' hD hvI o0);cases e;exact ⟨ws,s,by rw [ol.length];exact h⟩
   ·obtain ⟨a',ws,e,s,ol⟩:=one (KD.seen rep1 k' hD hvI o0);cases e;obtain ⟨e1,e2⟩:=y;subst e1;exact ⟨λ _ _ h=>h,ol.get (e2 ws s)⟩
  | str z=>
   have o0':=o0;rw [Own] at o0';obtain ⟨rfl,_⟩:=o0';dsimp only at q;by_cases ha:OP z=true
   ·rw [if_pos ha] at q;refine .inr ⟨z,rfl,ha,?_⟩;have hl':(FX z).length=z.cps.size:=by unfold FX;rw [AD,MC]
    refine Lg (els:=FX z) hP hl hal hvI hvE his hg hvo hvo2 rep1 (λ {D H' fps' i} hD k' h=>?_) (λ {D H' fps' i} hD k' h=>?_) (λ {D H' fps' i x H''} hD k' h y=>?_) (fin (FX z) q)
    ·show i < z.cps.size;omega
    ·show z.cps.size<=i;omega
    ·obtain ⟨rfl,c,hc,rfl⟩:=y;refine ⟨λ _ _ h=>h,.str ⟨#[c]⟩,?_,by rw [Own];exact ⟨rfl,rfl⟩⟩;unfold FX;rw [CV,TJ,hc];rfl
   ·rw [if_neg ha] at q;exact q.elim
  | _=>exact q.elim
def Uz {g:TG}{is vI vE vo:List Nat}{asg:PV->Ag->Option Ag}{test:Fb}{elt:Fx}{k n:Nat}{Q:VK}{P:Fm->Prop}{lo:Int}{m:Nat}{H0:Hp}{fps0:AX}{ρ0:Ag}
  (hn:σ.length=n) (hP:∀ D,P (M.comp D n vI)) (hal:∀ i,∀ j∈M.al i,M.Ms j=false) (hvI:∀ i∈vI,M.Ms i=false) (hvE:∀ i∈vE,M.Ms i=false) (his:∀ i∈is,n<=i) (hg:∀ D,DZ (M.comp D n vI) vI is g asg)
  (hvo:∀ i,i∈vE->i < n->i∈vo) (hvo2:∀ i∈vo,M.Ms i=false) (k0:KD M H0 fps0 H fps) (g0:Agr M ρ0 ρ) (rep:Rep M ρ σ H fps)
  (q:match (CI k asg test elt (FN lo m) ρ []).bindN λ (acc,ρ2)=>C7 acc ρ2 with
    | .ok (x,d,ρ')=>∀ v H' fps' fp,KD M H0 fps0 H' fps'->Agr M ρ0 ρ'->Rep M ρ' σ H' fps'->Own M.K H' (Zt M vo fps' fp) x d v fp->Temp M vo H0 H' fps' fp->Q v H'
    | .exc c=>∀ H' fps',KD M H0 fps0 H' fps'->M.W σ c H'
    | .no=>False):
  ∀ D,H D=none->∃ W:Nat->Nat->List V->Hp->Prop,(∃ m,W 0 m [] (Aq H D (.lst [])))/\∀ i j ys H1,W i j ys H1->H1 D=some (.lst ys) /\
   (((Hi lo m).stop i H1/\Q (.ref D) H1)\/((Hi lo m).go i H1/\∀ x H',(Hi lo m).yld i H1 x H'->g x (σ++Bo k none) H' λ σ2 H2=>∃ M',P M'/\tT M' test σ2 H2 λ b H3=>if b=true then ∃ M',P M'/\tE M' elt vE σ2 H3 λ y H4=>H4 D=some (.lst ys)/\ys.length < Aw/\∃ m',m' < j/\W (i + 1) m' (ys++[y]) (Aq H4 D (.lst (ys++[y]))) else ∃ m',m' < j/\W (i + 1) m' ys H3)):=by
 have hl:n=ρ.length:=by rw [rep.len];exact hn.symm
 refine Lg (els:=FN lo m) hP hl hal hvI hvE his hg hvo hvo2 rep (λ {D H' fps' i} hD k' h=>?_) (λ {D H' fps' i} hD k' h=>?_) (λ {D H' fps' i x H''} hD k' h y=>?_) ?_
 ·rw [JY] at h;exact h
 ·rw [JY] at h;exact h
 ·rw [JY] at h;obtain ⟨e1,e2⟩:=y;subst e1;exact ⟨λ _ _ h=>h,.int (lo + i),by simp [FN,h],by rw [e2,Own];exact ⟨rfl,rfl⟩⟩
 ·cases ec:CI k asg test elt (FN lo m) ρ [] with
  | no=>rw [ec] at q;exact q.elim
  | exc c=>rw [ec] at q;exact q.elim
  | ok p=>
   obtain ⟨acc,ρ2⟩:=p;rw [ec] at q;exact λ D ws H' fps' fpl k g r hD hD' tm hf=>Qv rep k0 g0 q k g r hD hD' tm hf
theorem wF {g:TG}{is vI vE vo:List Nat}{asg:PV->Ag->Option Ag}{test:Fb}{elt:Fx}{fa:Fa}{k n:Nat}{Q:VK}{P:Fm->Prop}
  (hn:σ.length=n) (hP:∀ D,P (M.comp D n vI)) (hal:∀ i,∀ j∈M.al i,M.Ms j=false) (hvI:∀ i∈vI,M.Ms i=false) (hvE:∀ i∈vE,M.Ms i=false) (his:∀ i∈is,n<=i) (hg:∀ D,DZ (M.comp D n vI) vI is g asg)
  (hvo:∀ i,i∈vE->i < n->i∈vo) (hvo2:∀ i∈vo,M.Ms i=false) (hq:tE M (C4 BU fa k asg test elt) vo σ H Q):
  J7 k (OD (tL M fa vs)) g (λ σ H Q=>∃ M',P M'/\tT M' test σ H Q) (λ σ H Q=>∃ M',P M'/\tE M' elt vE σ H Q) σ H Q:=by
 obtain ⟨ρ,fps,rep,q⟩:=hq;refine ⟨ρ,fps,rep,?_⟩;unfold C4 at q;cases ef:fa ρ with
 | no=>rw [ef] at q;exact q
 | exc c=>rw [ef] at q;exact q
 | ok p=>
  obtain ⟨xs,ρ1⟩:=p;rw [ef] at q;intro ws H1 fps1 f1 k1 g1 rep1 o1 t1;dsimp only at q;cases ee:BU xs with
  | none=>rw [ee] at q;exact q.elim
  | some ij=>
   obtain ⟨i,j⟩:=ij;rw [ee] at q;unfold BU at ee;split at ee
   ·rename_i j' d;split at ee
    ·rename_i hb;cases ee;obtain ⟨v,r,f1,f2,rfl,_,_,h1,h2⟩:=o1;obtain ⟨rfl,_⟩:=h2;rw [Own] at h1;obtain ⟨rfl,_⟩:=h1;refine ⟨j,rfl,hb.1,hb.2,?_⟩;have e:(j - 0).toNat=j.toNat:=by omega
     dsimp only at q;rw [e] at q;exact Uz hn hP hal hvI hvE his hg hvo hvo2 k1 g1 rep1 q
    ·cases ee
   ·cases ee
theorem wG {g:TG}{is vI vE vo:List Nat}{asg:PV->Ag->Option Ag}{test:Fb}{elt:Fx}{fa:Fa}{k n:Nat}{Q:VK}{P:Fm->Prop}
  (hn:σ.length=n) (hP:∀ D,P (M.comp D n vI)) (hal:∀ i,∀ j∈M.al i,M.Ms j=false) (hvI:∀ i∈vI,M.Ms i=false) (hvE:∀ i∈vE,M.Ms i=false) (his:∀ i∈is,n<=i) (hg:∀ D,DZ (M.comp D n vI) vI is g asg)
  (hvo:∀ i,i∈vE->i < n->i∈vo) (hvo2:∀ i∈vo,M.Ms i=false) (hq:tE M (C4 Em fa k asg test elt) vo σ H Q):
  J7 k (OE (tL M fa vs)) g (λ σ H Q=>∃ M',P M'/\tT M' test σ H Q) (λ σ H Q=>∃ M',P M'/\tE M' elt vE σ H Q) σ H Q:=by
 obtain ⟨ρ,fps,rep,q⟩:=hq;refine ⟨ρ,fps,rep,?_⟩;unfold C4 at q;cases ef:fa ρ with
 | no=>rw [ef] at q;exact q
 | exc c=>rw [ef] at q;exact q
 | ok p=>
  obtain ⟨xs,ρ1⟩:=p;rw [ef] at q;intro ws H1 fps1 f1 k1 g1 rep1 o1 t1;dsimp only at q;cases ee:Em xs with
  | none=>rw [ee] at q;exact q.elim
  | some ij=>
   obtain ⟨i,j⟩:=ij;rw [ee] at q;unfold Em at ee;split at ee
   ·rename_i i' d j' d';split at ee
    ·rename_i hb;cases ee;obtain ⟨v,r,f1,f2,rfl,_,_,h1,h2⟩:=o1;obtain ⟨v2,r2,f3,f4,rfl,_,_,h3,h4⟩:=h2;obtain ⟨rfl,_⟩:=h4;rw [Own] at h1 h3;obtain ⟨rfl,_⟩:=h1;obtain ⟨rfl,_⟩:=h3;exact ⟨i,j,rfl,hb,Uz hn hP hal hvI hvE his hg hvo hvo2 k1 g1 rep1 q⟩
    ·cases ee
   ·cases ee
end
def NH {K:Frag}{c:Nat}{C:Addr} (e:C6 K c=some C):c < 12:=by
 unfold C6 at e;split at e
 ·rename_i x h;exact (ja9.mp h).1
 ·cases e
structure XC (h:Heap) (K:Frag) (c:Nat) (C:Addr):Prop where
 obj:∃ bm N nm q bs hdct sn sub ab col dd k0 k1 k2 k3 k5 mN,h.get? C=some (excClassObj nm q C N bs bm hdct sn sub ab col dd k0 k1 k2 k3 k5 "ValueError.__new__")/\h.Ns N mN/\mN "__init__" = none/\OwnTail h bmV bm/\∀ d D,C6 K d=some D->(Value.ref C::bm).contains (.ref D)=DX c d
def ve {K:Frag}{c:Nat}{C:Addr} (t:DS K=true) (e:C6 K c=some C):PySem.W.excIn K C bmV "ValueError.__new__" = true/\∀ d D,C6 K d=some D->(HI K C).contains (.ref D)=DX c d:=by
 unfold DS at t;have h:=ja7.mp t c (jc7.mpr (NH e));rw [e] at h;dsimp only at h;rw [A9] at h;refine ⟨h.1,λ d D ed=>?_⟩;have h2:=ja7.mp h.2 d (jc7.mpr (NH ed));rw [ed] at h2;exact eq_of_beq h2
def OM {K:Frag}{h:Heap}{c:Nat}{C:Addr} (X:K.In h) (t:DS K=true) (e:C6 K c=some C):XC h K c C:=by
 obtain ⟨q,ht⟩:=ve t e;refine ⟨?_⟩;unfold PySem.W.excIn at q;split at q
 ·rename_i dd cd sl ho;split at q
  ·rename_i C' bm k0 k1 k2 k3 n k5 hm hs;simp only [A9,beq_iff_eq,M9] at q;obtain ⟨⟨⟨⟨⟨rfl,rfl⟩,hdel⟩,htl⟩,hok⟩,hni⟩:=q;have hmro:HI K C'=.ref C'::bm:=by unfold HI;rw [ho];exact hm
   rw [hmro] at ht;obtain ⟨nm,bs,mro,ns,qn,hd,sn,sub,ab,col,del⟩:=cd;dsimp only at hm hdel hok hni;subst hm hdel;have hsl:sl=#[k0,k1,k2,k3,some (.builtin "ValueError.__new__"),k5]:=by
    obtain ⟨l⟩:=sl;simp only at hs;rw [hs]
   subst hsl;exact ⟨bm,ns,nm,qn,bs,hd,sn,sub,ab,col,dd,k0,k1,k2,k3,k5,_,X _ _ ho,.of_isNs (PySem.W.isNs_of_in X hok),PySem.W.nsMap_none_of_in X hok hni,PySem.W.tail_of_in X htl,ht⟩
  ·cases q
 ·cases q
def Gz (W:Nat->Hp->Prop):XK:=λ v _ H'=>match v with
 | .int c _=>W c.toNat H'
 | _=>False
def AK (P:AF) (w:AB) (K:Frag):FH:=λ outer H s E e s'=>∃ (a C:Addr) (c:Nat) (H':Hp) (B:Heap) (a0:Ae),e=.ref a/\C6 K c=some C/\s'.os=s.os/\Fy s'.gens/\Un (CG outer) [] H H' s.heap s'.heap/\HOk P w H' s'.heap/\H' a=none/\s.heap.get? a=none /\
 NN B outer a (.ref C) a0 s'.heap/\(∀ b o,s'.heap.get? b=some o->H' b≠none->B.get? b=some o)/\(∀ b o,s.heap.get? b=some o->H b=none->b∉CG outer->B.get? b=some o)/\(∀ b,H b≠none->H' b≠none)/\E (.int (c:Int) 0) none H'
theorem Q2 {P:AF}{w:AB}{H:Hp}{h:Heap}{a:Addr}{o:HO} (x:zwo P w H h a o):∃ u,h.get? a=some u:=by
 cases o with
 | lst xs=>obtain ⟨_,_,_,_,e⟩:=x;exact ⟨_,e⟩
 | tup xs=>obtain ⟨_,_,_,o,e,_⟩:=x;exact ⟨_,e⟩
 | dK kvs=>obtain ⟨_,_,_,_,o,_,_,e,_⟩:=x;exact ⟨_,e⟩
 | dT kvs=>obtain ⟨_,_,_,_,o,_,_,e,_⟩:=x;exact ⟨_,e⟩
 | set S n=>obtain ⟨o,_,_,_,e,_⟩:=x;exact ⟨_,e⟩
 | ins C dx fs=>obtain ⟨_,_,_,e,_⟩:=x;exact ⟨_,e⟩
 | own y=>exact x
 | xd fs=>obtain ⟨_,⟨_,_,_,e,_⟩,_⟩:=x;exact ⟨_,e⟩
 | rng lo hi=>obtain ⟨_,_,_,e⟩:=x;exact ⟨_,e⟩
 | frz ob u=>obtain ⟨e,_⟩:=x;exact ⟨_,e⟩
 | tbl ps=>exact ⟨_,(show h.get? a=some _ from x)⟩
 | met f y=>exact ⟨_,(show h.get? a=some _ from x)⟩
 | ext φ=>exact x.2.1
section
variable {X:Cx}{pins:List (Addr×Obj)}{σ:St}{H H1:Hp}{s s2:Aj}{h1 B:Heap}{a C:Addr}{a0:Ae}{c:Nat}{E:XK}{P:AF}{w:AB}{K:Frag}
def Yr (I:L2.Inv X pins σ H s) (hex:X.ex=[]) (u:Un (CG X.stack) [] H H1 s.heap h1) (hok:HOk X.prog X.w H1 h1) (fl:NN B X.outer a (.ref C) a0 s2.heap) (up:h1.UpToSlots s2.heap)
  (i1:∀ b o,h1.get? b=some o->H1 b≠none->B.get? b=some o) (i2:∀ b o,s.heap.get? b=some o->H b=none->b∉CG X.stack->B.get? b=some o) (ha:H1 a=none) (hn:s.heap.get? a=none)
  (hE:E (.int (c:Int) 0) none H1) (hd:∀ b,X.H₀ b≠none->H1 b≠none) (hc:C6 X.K c=some C) (ho:s2.os=s.os) (hg:Fy s2.gens):AK X.prog X.w X.K X.outer X.H₀ X.s₀ E (.ref a) s2:=by
 have nx:∀ b:Addr,b∉X.ex:=λ b z=>by rw [hex] at z;cases z
 have key:∀ b o,X.s₀.heap.get? b=some o->X.H₀ b=none->b∉CG X.outer->B.get? b=some o:=λ b o e n hb=>by
  refine i2 b o (I.base.keep b o e n hb (nx b)) (I.base.free b o e n (nx b)) λ z=>?_;rcases jb2.mp (I.stkSub b z) with z | z
  ·exact absurd (Cb (Bu e) I.ok.above) (by rw [z];exact FC _)
  ·exact hb z
 have fr:∀ b o,X.s₀.heap.get? b=some o->X.H₀ b=none->b∈CG X.outer->∃ sl,s2.heap.get? b=some { o with slots:=sl }:=λ b o e n hb=>by
  obtain ⟨sl,e1⟩:=I.base.slot b o e n hb (nx b);obtain ⟨sl',e2⟩:=u.any e1 (I.base.free b o e n (nx b)) (by simp);obtain ⟨_,o',ho',hnf⟩:=I.ok.funs.mem hb;rw [e] at ho';cases ho';obtain ⟨sl2,e3⟩:=up b _ e2 hnf;exact ⟨sl2,e3⟩
 have ET:∀ b v,H1 b≠none->h1.get? b=some v->s2.heap.get? b=some v:=λ b v hb e=>fl.1 b v (i1 b v e hb);have un:Un (CG X.outer) [] X.H₀ H1 X.s₀.heap s2.heap:=by
  refine ⟨λ b o e n hb _=>fl.1 b o (key b o e n hb),λ b o e n hb _=>fr b o e n hb,λ b o e n _=>?_,λ b o e _=>?_,λ b xs e=>u.tups b xs (I.base.tups b xs e),λ b o xs e=>u.frzs b o xs (I.base.frzs b o xs e),λ b ps e=>?_⟩
  ·obtain ⟨o',e'⟩:=I.base.there b o e (nx b);exact u.free b o' e' (I.base.free b o e n (nx b)) (by simp)
  ·by_cases h0:X.H₀ b=none
   ·by_cases hb:b∈CG X.outer
    ·obtain ⟨sl,e2⟩:=fr b o e h0 hb;exact ⟨_,e2⟩
    ·exact ⟨o,fl.1 b o (key b o e h0 hb)⟩
   ·obtain ⟨o',e'⟩:=I.base.there b o e (nx b);obtain ⟨o2,e2⟩:=u.there b o' e' (by simp);exact ⟨o2,ET b o2 (hd b h0) e2⟩
  ·obtain ⟨m1,e1⟩:=I.base.tbls b ps e;obtain ⟨m2,e2⟩:=u.tbls b _ e1;exact ⟨m1++m2,by rw [e2,Zx]⟩
 refine ⟨a,C,c,H1,B,a0,rfl,hc,ho.trans I.os,hg,un,λ b o e=>?_,ha,?_,fl,λ b o e hb=>?_,key,hd,hE⟩
 ·refine (hok b o e).stay (λ d v hd q=>ET d v ?_ q) (λ _ q=>q) λ _ _ q=>q;rcases hd with rfl | hd
  ·rw [e];simp
  ·rw [hd];simp
 ·cases q:X.s₀.heap.get? a with
  | none=>rfl
  | some o=>
   obtain ⟨o',e'⟩:=I.base.there a o q (nx a);rw [hn] at e';cases e'
 ·cases q:H1 b with
  | none=>exact absurd q hb
  | some o1=>
   obtain ⟨v,hv⟩:=Q2 (hok b o1 q);have e2:=ET b v hb hv;rw [e] at e2;cases e2;exact i1 b o hv hb
end
def Ll (CX:FH) (X:Cx) (W:St->Nat->Hp->Prop):Prop:=∀ (pins:List (Addr×Obj)) (σ:St) (H:Hp) (s:Aj) (e:Ae) (s':Aj),L2.Inv X pins σ H s->CX X.stack H s (Gz (W σ)) e s'->X.xe e s'
def Nv (X:Cx) (W:St->Nat->Hp->Prop):Prop:=∀ (pins:List (Addr×Obj)) (σ:St) (H:Hp) (s:Aj) (c:Nat) (C a:Addr) (h':Heap) (args:List Ae),L2.Inv X pins σ H s->C6 X.K c=some C->Heap.MadeExcOf s.heap h' a (.ref C) args->W σ c H->X.xe (.ref a) { s with heap:=h' }
abbrev W0:St->Nat->Hp->Prop:=λ _ _ _=>False
def zh {P:AF}{w:AB}{K:Frag}{X:Cx}:Ll (AK P w K) X W0:=λ _ _ _ _ _ _ _ h=>by
 obtain ⟨a,C,c,H',B,a0,_,_,_,_,_,_,_,_,_,_,_,_,hE⟩:=h;exact GZ hE
def WE (E:XK) (H:Hp):St->Nat->Hp->Prop:=λ _ c H'=>E (.int (c:Int) 0) none H'/\∀ b,H b≠none->H' b≠none
section
variable {P:AF}{w:AB}{K:Frag}{mg:Str->Option Ae}{base:Heap}{N:List Str}{qual:Str}{scope:BA}{f:Addr}{cd:Ae}{A:AZ}{outer:List Env}{s:Aj}{H:Hp}{E:XK}
def vV:Ll (AK P w K) (Ce (AK P w K) P w K mg base N qual scope f cd A outer s H E) (WE E H):=by
 intro pins σ H1 s1 e s' I h;obtain ⟨a,C,c,H',B,a0,rfl,hc,ho,hg,un,hok,ha,hn,fl,i1,i2,hd,hE⟩:=h;have hE':WE E H σ c H':=hE;refine wpAny_leaves_onW (by exact I.ok.frames) rfl fl λ h2 f2 up=>?_;exact Yr (s2:={ s' with heap:=h2 }) I rfl un hok f2 up i1 i2 ha hn hE'.1 hE'.2 hc ho hg
def yM:Nv (Ce (AK P w K) P w K mg base N qual scope f cd A outer s H E) (WE E H):=by
 intro pins σ H1 s1 c C a h' args I hc hx hW;have hin:∀ env∈(Ce (AK P w K) P w K mg base N qual scope f cd A outer s H E).stack,∀ b,env.frame=some b->b∈CG (Ce (AK P w K) P w K mg base N qual scope f cd A outer s H E).stack:=λ env he b hb=>jl7.mpr ⟨env,he,hb⟩;have ET:∀ b,H1 b≠none->∃ o,s1.heap.get? b=some o:=λ b hb=>by
  cases q:H1 b with
  | none=>exact absurd q hb
  | some u=>exact Q2 (I.hok b u q)
 have nfr:∀ b,H1 b≠none->b∉CG (Ce (AK P w K) P w K mg base N qual scope f cd A outer s H E).stack:=λ b hb z=>hb (I.stkFree b z);refine wpAny_leaves_madeW (base:=PySem.W.hideAll s1.heap (CG (Ce (AK P w K) P w K mg base N qual scope f cd A outer s H E).stack)) (h:=s1.heap) (by exact I.ok.frames) rfl (λ b o q=>PySem.W.of_hideAll _ q) (PySem.W.funFrames_hide I.stack hin) hx λ h2 t f2 _ _ up=>?_;refine Yr (s2:={ s1 with heap:=h2 }) I rfl (Un.kept hx.keeps) (I.hok.kept hx.keeps) f2 up (λ b o e hb=>?_) (λ b o e _ hb=>Rt _ e hb) ?_ hx.new hW.1 hW.2 hc rfl I.bare
 ·obtain ⟨o1,e1⟩:=ET b hb;have e2:=hx.keeps b o1 e1;rw [e] at e2;cases e2;exact Rt _ e1 (nfr b hb)
 ·cases q:H1 a with
  | none=>rfl
  | some u=>
   obtain ⟨o,e⟩:=Q2 (I.hok a u q);rw [hx.new] at e;cases e
def kd:L9 (Au P w) (Ce (AK P w K) P w K mg base N qual scope f cd A outer s H E).A (Ce (AK P w K) P w K mg base N qual scope f cd A outer s H E).env (Ce (AK P w K) P w K mg base N qual scope f cd A outer s H E).xe:=PassesOwn.leaving
end
section
variable {X:Cx}{CX:FH}{k:Nat}{f:Addr}{fd:Dv}{ps:List Str}{sp:Sp}{x:Str}{p pos:Pos}{e:Expr}{es:List Expr}{t:TA}{W:St->Nat->Hp->Prop}
def Wn (sp:Sp) (W:St->Nat->Hp->Prop) (t:TA):TE:=λ σ H Q=>t σ H λ vs H1=>sp vs H1 Q (Gz (W σ))
theorem vW (F:FnOk X.prog X.w X.K X.mg X.base CX k f fd ps sp) (hr:Room k X.A) (hg:Gl X x) (hm:X.mg x=some (.ref f)) (hk:Jp X.K (.ref f)=true) (hb:qap X.K fd ps []) (hx:Ll CX X W) (ha:PA X (e::es) t) (hdb:(x == ("__debug__" : Str))=false)
  (he:AH (e::es) X.env=(false,eval e X.env)::AH es X.env) (hpl:(Dk pos (AH es X.env)).any (·.1)=false):PE X (.Call (.Name x p) (e::es) [] pos) (Wn sp W t):=by
 intro pins s σ H Q I h;refine Rr (L3 I hg hm ?_ hdb);refine PySem.W.callWith_K (h₀:=X.base) I.ok.mod.kin hk (AG (ha pos pins s σ H _ I h) λ us s1 ⟨vs,H1,I1,r,q⟩=>⟨I1.kIn,?_⟩) he hpl;have q':sp vs H1 Q (Gz (W σ)):=q;have hl:(us++[]).length=ps.length:=by rw [KH,<- r.length];exact F.len _ _ _ _ q'
 have hbd:=hb s1 us I1.kIn hl;rw [KH] at hbd;refine wpAny_call (codeAny_mono (F.run X.A X.stack s1 H1 ⟨us,[]⟩ us vs Q (Gz (W σ)) hr I1.env0 hbd r q') λ r s' hq=>?_);cases r with
 | error e=>exact hx pins σ H1 s1 e s' I1 hq
 | ok fl=>
  cases fl with
  | ret u=>exact I1.after hq
  | next=>exact GZ hq
  | brk=>exact GZ hq
  | cont=>exact GZ hq
end
def Dz (cells:List (Str×Addr)):List (Str×D6)->List (Str×Addr)->List (Str×Addr)
 | [],cs=>cs
 | (n,k)::r,cs=>if k == .free then Dz cells r ((n,(cells.lookup n).getD 0)::cs) else Dz cells r cs
def Up {scope:BA}{env:Env} (h:∀ x∈scope.names,x.2=.free->∃ c,env.cells.lookup x.1=some c):closureFor scope env=pure (Dz env.cells scope.names []):=by
 unfold closureFor;have all:∀ (l:List (Str×D6)) (cs:List (Str×Addr)),(∀ x∈l,x.2=.free->∃ c,env.cells.lookup x.1=some c) ->
   (forIn l cs λ (x:Str×D6) (cs:List (Str×Addr))=>if (x.2 == NameKind.free)=true then (do let a<-cellOf env x.1;pure (ForInStep.yield ((x.1,a)::cs))) else pure (ForInStep.yield cs):Sem (List (Str×Addr)))=pure (Dz env.cells l cs):=by
  intro l;induction l with
  | nil=>intro cs _;rfl
  | cons x r ih=>
   intro cs hl;obtain ⟨n,k⟩:=x;rw [YX];have ih':=λ cs=>ih cs λ y hy=>hl y (AO _ hy);by_cases hk:(k == NameKind.free)=true
   ·obtain ⟨c,hc⟩:=hl (n,k) AR (by simpa using hk);have e1:cellOf env n=pure c:=by unfold cellOf;rw [hc]
    rw [if_pos hk,e1];simp only [pure_bind];rw [ih',Dz,if_pos hk,hc];rfl
   ·rw [if_neg hk];simp only [pure_bind];rw [ih',Dz,if_neg hk]
 have:=all scope.names [] h
 simp only [bind_pure] at this ⊢;exact this
theorem Ht (cells:List (Str×Addr)) (x:Str) (c:Addr):∀ (l:List (Str×D6)) (cs:List (Str×Addr)),(∀ y∈l,y.2=.free->∃ c,cells.lookup y.1=some c)->(cs.lookup x=some c->cells.lookup x=some c)->(Dz cells l cs).lookup x=some c->cells.lookup x=some c
 | [],cs,_,h,e=>h e
 | (n,k)::r,cs,hl,h,e=>by
  unfold Dz at e;split at e
  ·rename_i hk;refine Ht cells x c r _ (λ y hy=>hl y (AO _ hy)) (λ e'=>?_) e;rw [EX] at e';split at e'
   ·rename_i hx;obtain ⟨c',hc⟩:=hl (n,k) AR (by simpa using hk);rw [hc] at e';cases e';rw [eq_of_beq hx];exact hc
   ·exact h e'
  ·exact Ht cells x c r cs (λ y hy=>hl y (AO _ hy)) h e
theorem Qn (cells:List (Str×Addr)) (x:Str):∀ (l:List (Str×D6)) (cs:List (Str×Addr)),(∃ c,cs.lookup x=some c)->∃ c,(Dz cells l cs).lookup x=some c
 | [],cs,h=>h
 | (n,k)::r,cs,h=>by
  unfold Dz;split
  ·refine Qn cells x r _ ?_;rw [EX];split
   ·exact ⟨_,rfl⟩
   ·exact h
  ·exact Qn cells x r cs h
theorem Qf (cells:List (Str×Addr)) (x:Str):∀ (l:List (Str×D6)) (cs:List (Str×Addr)),(x,NameKind.free)∈l->∃ c,(Dz cells l cs).lookup x=some c
 | [],_,h=>nomatch h
 | (n,k)::r,cs,h=>by
  unfold Dz;rcases jb2.mp h with e | e
  ·cases e;rw [if_pos (show (NameKind.free == NameKind.free)=true by decide)];exact Qn cells x r _ ⟨_,by rw [EX,beq_self_eq_true]⟩
  ·split
   ·exact Qf cells x r _ e
   ·exact Qf cells x r cs e
theorem Qe:∀ (names:List (Str×D6)) (n:Nat) (acc:List (Str×Addr)) (x:Str) (c:Addr),(Dw n names acc).lookup x=some c->acc.lookup x=some c\/(n<=c/\(x,NameKind.cell)∈names)
 | [],n,acc,x,c,h=>.inl h
 | (m,k)::r,n,acc,x,c,h=>by
  unfold Dw at h;split at h
  ·rename_i hk;have hk':k=.cell:=by simpa using hk
   rcases Qe r _ _ x c h with z | ⟨z,y⟩
   ·rw [EX] at z;split at z
    ·rename_i hx;cases z;exact .inr ⟨Bj _,by rw [eq_of_beq hx,hk'];exact AR⟩
    ·exact .inl z
   ·exact .inr ⟨IK z,AO _ y⟩
  ·rcases Qe r _ _ x c h with z | ⟨z,y⟩
   ·exact .inl z
   ·exact .inr ⟨z,AO _ y⟩
theorem Nz:∀ (names:List (Str×D6)) (n:Nat) (acc:List (Str×Addr)) (x:Str),(x,NameKind.cell)∉names->(Dw n names acc).lookup x=acc.lookup x
 | [],n,acc,x,h=>rfl
 | (m,k)::r,n,acc,x,h=>by
  unfold Dw;split
  ·rename_i hk;have hk':k=.cell:=by simpa using hk
   rw [Nz r _ _ x λ z=>h (AO _ z),EX];split
   ·rename_i hx;exact absurd (by rw [eq_of_beq hx,hk'];exact AR) h
   ·rfl
  ·exact Nz r _ _ x λ z=>h (AO _ z)
theorem OQ:∀ (names:List (Str×D6)) (n:Nat) (acc:List (Str×Addr)) (x:Str),(x,NameKind.cell)∈names->∃ c,(Dw n names acc).lookup x=some c/\n<=c
 | [],n,acc,x,h=>nomatch h
 | (m,k)::r,n,acc,x,h=>by
  by_cases hr:(x,NameKind.cell)∈r
  ·unfold Dw;split
   ·obtain ⟨c,e,l⟩:=OQ r (n + 1) ((m,n)::acc) x hr;exact ⟨c,e,IK l⟩
   ·exact OQ r n acc x hr
  ·rcases jb2.mp h with e | e
   ·cases e;unfold Dw;rw [if_pos (by decide),Nz r _ _ _ hr,EX,beq_self_eq_true];exact ⟨n,rfl,Bj _⟩
   ·exact absurd e hr
theorem RX:∀ (names:List (Str×D6)) (n:Nat) (acc:List (Str×Addr)),(∀ x y c,acc.lookup x=some c->acc.lookup y=some c->x=y)->(∀ x c,acc.lookup x=some c->c < n)->∀ x y c,(Dw n names acc).lookup x=some c->(Dw n names acc).lookup y=some c->x=y
 | [],n,acc,hi,_,x,y,c,h1,h2=>hi x y c h1 h2
 | (m,k)::r,n,acc,hi,hl,x,y,c,h1,h2=>by
  unfold Dw at h1 h2;split at h1
  ·rename_i hk;rw [if_pos hk] at h2;refine RX r (n + 1) ((m,n)::acc) (λ x y c h1 h2=>?_) (λ x c h=>?_) x y c h1 h2
   ·rw [EX] at h1 h2;split at h1
    ·rename_i e1;cases h1;split at h2
     ·rename_i e2;rw [eq_of_beq e1,eq_of_beq e2]
     ·exact absurd (hl y _ h2) (FC _)
    ·split at h2
     ·cases h2;exact absurd (hl x _ h1) (FC _)
     ·exact hi x y c h1 h2
   ·rw [EX] at h;split at h
    ·cases h;exact IJ _
    ·exact JF (hl x c h)
  ·rename_i hk;rw [if_neg hk] at h2;exact RX r n acc hi hl x y c h1 h2
theorem SU:∀ (names:List (Str×D6)) (h:Heap) (acc:List (Str×Addr)) (x:Str) (c:Addr),(Dw h.objs.size names acc).lookup x=some c->acc.lookup x=some c\/(pushCells h names).IsCell c none
 | [],h,acc,x,c,e=>.inl e
 | (m,k)::r,h,acc,x,c,e=>by
  unfold Dw at e;unfold pushCells;split at e
  ·rename_i hk;rw [if_pos hk];have hs:(h.push { cls:=.type "cell",data:=.cell none }).objs.size=h.objs.size + 1:=LG ..;have e':(Dw (h.push { cls:=.type "cell",data:=.cell none }).objs.size r ((m,h.objs.size)::acc)).lookup x=some c:=by rw [hs];exact e
   rcases SU r _ _ x c e' with z | z
   ·rw [EX] at z;split at z
    ·cases z;exact .inr ⟨_,Rj _ _ _ _ (Dx _ rfl),rfl⟩
    ·exact .inl z
   ·exact .inr z
  ·rename_i hk;rw [if_neg hk];exact SU r h acc x c e
def qa {M:Model}{A:AZ}{E:Ae->Aj->Prop}{s:Aj}{scope:BA}{globals:Addr}{cl:List (Str×Addr)}{qual:Str}{func:Option Addr}{code:Ae}{around:Env}{builtins:Addr}{Q:Env->Aj->Prop}
  (hQ:Q (newEnv scope s.heap.objs.size globals (Dw (s.heap.objs.size + 1) scope.names cl) qual func code (some around) builtins) { s with heap:=pushCells (s.heap.push { cls:=.type "dict",data:=.dict #[] }) scope.names }):
  Av M A (Rb scope globals cl [] qual func code (some around) builtins) Q E s:=by
 simp only [Rb,Zw,if_true];refine AM (wpAny_alloc ?_);refine AM (wpAny_layCells _ (λ name kind cells=>by cases hkc:kind == NameKind.cell <;> simp [hkc]) _ _ _ _ ?_);rw [show ({ s with heap:=s.heap.push { cls:=.type "dict",data:=.dict #[] } }:Aj).heap.objs.size=s.heap.objs.size + 1 from LG ..];exact AM (Cs (Cs hQ))
def Mr (X:Cx) (scope:BA) (C:Addr):List (Str×Addr):=Dw (C + 1) scope.names (Dz X.env.cells scope.names [])
def BO (X:Cx) (s2:Aj) (H2:Hp) (scope:BA) (C:Addr) (N':List Str) (fp:List Addr) (pins:List (Addr×Obj)):Cx:=
 { X with N:=N',s₀:=s2,H₀:=H2,env:=compEnvC scope (Mr X scope C) C X.env,outer:=X.stack,stack:=X.stack,ex:=fp,fn:=λ x=>scope.names.contains (x,NameKind.cell),pn:=X.pn++pins,xe:=λ _ _=>False }
structure CompOk (X:Cx) (scope:BA) (N':List Str) (k:Nat):Prop where
 kind:scope.kind=.function
 dis:∀ x,(x,NameKind.free)∈scope.names->(x,NameKind.cell)∉scope.names
 names:∀ x∈scope.names,x.2=.local->scope.names.lookup x.1=some .local
 len:N'.length=X.N.length + k
 free:∀ x∈scope.names,x.2=.free->X.env.kindOf x.1=some .cell\/X.env.kindOf x.1=some .free
 kinds:∀ x,(Iz scope X.env).names.lookup x=some .cell\/(Iz scope X.env).names.lookup x=some .free->(x,NameKind.free)∈scope.names\/(x,NameKind.cell)∈scope.names
 capt:∀ (i:Nat) (x:Str),i < X.N.length->N'[i]?=some x->IQ (Iz scope X.env) x->X.N[i]?=some x/\IQ X.env.scope x/\(x,NameKind.free)∈scope.names/\(Iz scope X.env).names.lookup x≠some .local
section
variable {X:Cx}{scope:BA}{N':List Str}{k:Nat}{pins:List (Addr×Obj)}{σ:St}{H2:Hp}{s2:Aj}{fp:List Addr}{C:Addr}
def CompOk.cells (c:CompOk X scope N' k) (I:Inv X pins σ H2 s2):∀ x∈scope.names,x.2=.free->∃ a,X.env.cells.lookup x.1=some a:=λ x hx hf=>I.ok.has x.1 (c.free x hx hf)
def CompOk.cl (c:CompOk X scope N' k) (I:Inv X pins σ H2 s2) {x:Str}{a:Addr} (h:(Mr X scope C).lookup x=some a):X.env.cells.lookup x=some a\/(C + 1<=a/\(x,NameKind.cell)∈scope.names):=
 (Qe _ _ _ x a h).imp (λ z=>Ht _ x a _ [] (c.cells I) (λ z=>nomatch z) z) id
def CompOk.old (c:CompOk X scope N' k) (I:Inv X pins σ H2 s2) {x:Str}{a:Addr} (h:X.env.cells.lookup x=some a):a < s2.heap.objs.size:=by
 obtain ⟨v,o,ho,_⟩:=I.cell x a h;exact Bu ho
def CompOk.cap (c:CompOk X scope N' k) {x:Str} (h:(x,NameKind.free)∈scope.names):∃ a,(Mr X scope C).lookup x=some a/\(Dz X.env.cells scope.names []).lookup x=some a:=by
 obtain ⟨a,ha⟩:=Qf X.env.cells x scope.names [] h;exact ⟨a,(Nz _ _ _ x (c.dis x h)).trans ha,ha⟩
def CompOk.ok (c:CompOk X scope N' k) (I:Inv X pins σ H2 s2) (hf:∀ b∈fp,CC X pins H2 b) (hC:s2.heap.objs.size<=C) (hfp:∀ b∈fp,b < s2.heap.objs.size):(BO X s2 H2 scope C N' fp pins).Ok where
 mod:=I.ok.mod
 kind:=c.kind
 glob:=I.ok.glob
 blt:=I.ok.blt
 above:=hC
 inj:=λ x y a h1 h2=>RX scope.names (C + 1) _ (λ x y a h1 h2=>I.ok.inj x y a (Ht _ x a _ [] (c.cells I) (λ z=>nomatch z) h1) (Ht _ y a _ [] (c.cells I) (λ z=>nomatch z) h2))
  (λ x a h=>JF (Cb (c.old I (Ht _ x a _ [] (c.cells I) (λ z=>nomatch z) h)) hC)) x y a h1 h2
 has:=λ x hx=>(c.kinds x hx).elim (λ z=>let ⟨a,h,_⟩:=c.cap (C:=C) z;⟨a,h⟩) λ z=>let ⟨a,h,_⟩:=OQ scope.names (C + 1) (Dz X.env.cells scope.names []) x z;⟨a,h⟩
 cab:=λ x a h e=>by
  have hx:(x,NameKind.cell)∈scope.names:=by
   have h':scope.names.contains (x,NameKind.cell)=true:=h;simpa using h'
  obtain ⟨a',e',l⟩:=OQ scope.names (C + 1) (Dz X.env.cells scope.names []) x hx;have e2:(Dw (C + 1) scope.names (Dz X.env.cells scope.names [])).lookup x=some a:=e;rw [e'] at e2;cases e2;exact AW hC (IK l)
 hd:=I.ok.hd
 frames:=I.ok.frames
 stk:=.inl rfl
 exf:=λ b hb=>⟨Cn (Cb (hfp b hb) hC),λ x a h=>(c.cl I h).elim (λ z=>(hf b hb).2.2.2.2.1 x a z) λ z=>JE (Cb (hfp b hb) (AW hC (IK z.1)))⟩
 bs:=I.bs
 bsz:=AW I.ok.bsz I.sz
 noex:=λ b o e hb=>by
  rcases (hf b hb).2.2.2.1 with z | z
  ·exact I.ok.noex b o e z
  ·exact absurd (Cb (Bu e) (AW I.ok.bsz z)) (FC _)
 exfs:=λ b hb hz=>by
  rcases jb2.mp (I.stkSub b hz) with z | z
  ·exact (hf b hb).2.1 z
  ·exact (hf b hb).2.2.1 z
 funs:=I.stack
 frf:=I.stkFree
def CompOk.inv (c:CompOk X scope N' k) (I:Inv X pins σ H2 s2) (hf:∀ b∈fp,CC X pins H2 b) (hfp:∀ b∈fp,b < s2.heap.objs.size) {H3:Hp}{h':Heap}{t':Nat}{m:Str->Option Ae}{D:Addr} (hCD:D≠C) (hD:s2.heap.objs.size<=D) (hC:s2.heap.objs.size<=C)
  (keep:∀ b o,s2.heap.get? b=some o->h'.get? b=some o) (ns:h'.Ns C m) (hH:∀ b,b≠D->H3 b=H2 b) (hok:HOk X.prog X.w H3 h') (hC3:H3 C=none) (hDC:D < C) (hcN:∀ x a,(Mr X scope C).lookup x=some a->C + 1<=a->h'.IsCell a none):
  Inv (BO X s2 H2 scope C N' fp pins) [] (σ++Bo k none) H3 { s2 with heap:=h',toks:=t' } where
 ok:=c.ok I hf hC hfp
 os:=rfl
 bare:=I.bare
 base:=by
  have nD:∀ b o,s2.heap.get? b=some o->b≠D:=λ b o e=>Cn (Cb (Bu e) hD);refine ⟨λ b o e _ _ _=>keep b o e,λ b o e _ _ _=>⟨o.slots,keep b o e⟩,λ b o e n _=>by rw [hH b (nD b o e)];exact n,λ b o e _=>⟨o,keep b o e⟩,λ b xs e=>?_,λ b o u e=>?_,λ b ps e=>⟨#[],?_⟩⟩
  ·have e:H2 b=some (.tup xs):=e;rw [hH b (λ z=>by rw [z,I.hok.fresh hD] at e;cases e)];exact e
  ·have e:H2 b=some (.frz o u):=e;rw [hH b (λ z=>by rw [z,I.hok.fresh hD] at e;cases e)];exact e
  ·have e:H2 b=some (.tbl ps):=e;rw [hH b (λ z=>by rw [z,I.hok.fresh hD] at e;cases e)];simpa using e
 loc:=by
  refine ⟨m,ns,λ i x v e1 e2 e3=>?_⟩;have hi:i < σ.length:=by
   by_cases hi:i < σ.length
   ·exact hi
   ·rw [HL (by omega),IM] at e2;split at e2 <;> cases e2
  rw [DJ hi] at e2;obtain ⟨n1,n2,n3,n4⟩:=c.capt i x (by rw [<- I.len];exact hi) e1 e3;obtain ⟨m0,ns0,hl⟩:=I.loc;obtain ⟨u,r,lk⟩:=hl i x v n1 e2 n2;refine ⟨u,r,.inr ⟨?_,?_⟩⟩
  ·rcases e3 with z | z | z
   ·exact absurd z n4
   ·exact .inl z
   ·exact .inr z
  ·obtain ⟨a,ha,hb⟩:=c.cap (C:=C) n3;have ha':=Ht _ x a _ [] (c.cells I) (λ z=>nomatch z) hb;refine ⟨a,ha,?_⟩;rcases lk with ⟨hk,_⟩ | ⟨hk,a2,ha2,hc⟩
   ·rcases c.free _ n3 rfl with z | z <;> rw [hk] at z <;> cases z
   ·rw [ha'] at ha2;cases ha2;obtain ⟨o,ho,hd⟩:=hc;exact ⟨o,keep _ _ ho,hd⟩
 cell:=λ x a h=>by
  rcases c.cl I h with z | z
  ·obtain ⟨v,o,ho,hd⟩:=I.cell x a z;exact ⟨v,o,keep _ _ ho,hd⟩
  ·exact ⟨none,hcN x a h z.1⟩
 free:=hC3
 freeC:=λ x a h=>by
  rcases c.cl I h with ha | z
  ·obtain ⟨v,o,ho,hd⟩:=I.cell x a ha;rw [hH a (Cn (Cb (Bu ho) hD))];exact I.freeC x a ha
  ·rw [hH a (JE (Cb hDC (IK z.1)))];exact I.hok.fresh (AW hC (IK z.1))
 pin:=λ p hp=>by
  have hp':p∈X.pn++pins:=by simpa [BO] using hp
  obtain ⟨e,n,ne,nf,d⟩:=I.pin p hp';have hlt:=Bu e;exact ⟨keep _ _ e,by rw [hH p.1 (Cn (Cb hlt hD))];exact n,Cn (Cb hlt hC),λ z=>(jb2.mp (I.stkSub p.1 z)).elim ne nf,d⟩
 hok:=hok
 len:=by
  show (σ++Bo k none).length=N'.length;rw [BQ,JI,c.len,I.len]
def HX (X:Cx) (ifs:List Expr) (t:TT):Prop:=
 ∀ (pins:List (Addr×Obj)) (s:Aj) (σ:St) (H:Hp) (Q:Bool->Hp->Prop),Inv X pins σ H s->t σ H Q ->
  Av (Au X.prog X.w) X.A (forIn ifs true λ c r=>if r=true then do let ok<-isTrue c X.env (eval c X.env);pure (ForInStep.yield ok) else pure (ForInStep.yield r)) (TP X pins σ Q) X.xe s
def kT {X:Cx}:HX X [] (λ _ H Q=>Q true H):=λ _ _ _ H _ I h=>Cs ⟨H,I,h⟩
def kU {X:Cx}{c:Expr}{t:TT} (hc:PT X c t):HX X [c] t:=by
 intro pins s σ H Q I h;rw [YX];refine AM ?_;rw [if_pos rfl];refine AM (AG (hc pins s σ H Q I h) λ b s1 q=>Cs ?_);exact Cs q
def CompOk.again (c:CompOk X scope N' k) (I:Inv X pins σ H2 s2) {σ':St}{H':Hp}{s':Aj}{ps:List (Addr×Obj)} (hfp:∀ b∈fp,CC X pins H2 b) (J:Inv (BO X s2 H2 scope C N' fp pins) ps σ' H' s'):Inv (BO X s2 H2 scope C N' fp pins) ps (σ++Bo k none) H' s' where
 ok:=J.ok
 os:=J.os
 bare:=J.bare
 base:=J.base
 loc:=by
  obtain ⟨m,ns,_⟩:=J.loc;refine ⟨m,ns,λ i x v e1 e2 e3=>?_⟩;have hi:i < σ.length:=by
   by_cases hi:i < σ.length
   ·exact hi
   ·rw [HL (by omega),IM] at e2;split at e2 <;> cases e2
  rw [DJ hi] at e2;obtain ⟨n1,n2,n3,n4⟩:=c.capt i x (by rw [<- I.len];exact hi) e1 e3;obtain ⟨m0,ns0,hl⟩:=I.loc;obtain ⟨u,r,lk⟩:=hl i x v n1 e2 n2;refine ⟨u,r,.inr ⟨?_,?_⟩⟩
  ·rcases e3 with z | z | z
   ·exact absurd z n4
   ·exact .inl z
   ·exact .inr z
  ·obtain ⟨a,ha,hb⟩:=c.cap (C:=C) n3;have ha':=Ht _ x a _ [] (c.cells I) (λ z=>nomatch z) hb;refine ⟨a,ha,?_⟩;rcases lk with ⟨hk,_⟩ | ⟨hk,a2,ha2,hc⟩
   ·rcases c.free _ n3 rfl with z | z <;> rw [hk] at z <;> cases z
   ·rw [ha'] at ha2;cases ha2;obtain ⟨o,ho,hd⟩:=hc;obtain ⟨sl,ho'⟩:=J.base.any (b:=a) (ob:=o) ho (I.freeC x a ha') λ z=>(hfp a z).2.2.2.2.1 x a ha' rfl;exact ⟨_,ho',hd⟩
 cell:=J.cell
 free:=J.free
 freeC:=J.freeC
 pin:=J.pin
 hok:=J.hok
 len:=by
  show (σ++Bo k none).length=N'.length;rw [BQ,JI,c.len,I.len]
theorem ZY {prog:AF}{w:AB}{A:AZ}{R:Result->Aj->Prop}{s:Aj}{elt target iter:Expr}{ifs:List Expr}{scope:BA}{pos:Pos}{it acc:Ae}{env:Env} (I:Nat->Aj->Prop)
  (turn:∀ n s,I n s->Av (Au prog w) A (pyNext it) (λ r s₁=>match r with
   | none=>R (.ok .next) s₁
   | some v=>Av (Au prog w) A (NU target it v) (λ _ s₁'=>Av (Au prog w) A (HB target env v) (λ _ s₂=>
     Av (Au prog w) A (forIn ifs true λ c r=>if r=true then do let ok<-isTrue c env (eval c env);pure (ForInStep.yield ok) else pure (ForInStep.yield r)) (λ ok s₃=>
      if ok=true then Av (Au prog w) A (eval elt env) (λ x s₄=>
       Av (Au prog w) A (call (.builtin "list.append") [acc,x]) (λ _ s₅=>∃ m,m < n/\I m s₅) (λ _ _=>False) s₄) (λ _ _=>False) s₃
      else ∃ m,m < n/\I m s₃) (λ _ _=>False) s₂) (λ _ _=>False) s₁') (λ _ _=>False) s₁) (λ _ _=>False) s)
  (n:Nat) (h:I n s):
  Iy (Au prog w) A (.compLoop (.ListComp elt [⟨target,iter,ifs,0⟩] scope pos) 0 it acc env) R s:=by
 refine codeAny_loop rfl I (λ n s hI=>?_) n h;show Av _ A ((compTurn (.ListComp elt [⟨target,iter,ifs,0⟩] scope pos) 0 it acc env).onRaise (λ x=>do noteFrame x env;theTreesLotGoes x)) _ _ s;refine wpAny_noted ?_;rw [compTurn_list];refine AM (wpAny_standAt (AM (DH (turn n s hI) (λ r s₁ h₁=>?_) λ _ _ h'=>h'.elim)));cases r with
 | none=>exact Cs h₁
 | some v=>
  refine AM (DH h₁ (λ _ s₁' h₁'=>?_) λ _ _ h'=>h'.elim);refine AM (DH h₁' (λ _ s₂ h₂=>AM (DH h₂ (λ ok s₃ h₃=>?_) λ _ _ h'=>h'.elim)) λ _ _ h'=>h'.elim);cases ok with
  | false=>exact Cs ⟨rfl,h₃⟩
  | true=>
   exact AM (AM (DH h₃ (λ x s₄ h₄=>AM (DH h₄ (λ _ s₅ h₅=>Cs (Cs ⟨rfl,h₅⟩)) λ _ _ h'=>h'.elim)) λ _ _ h'=>h'.elim))
def Ux {elt iter tg:Expr}{ifs:List Expr}{pos:Pos}{J:It}{it:Addr}{tn:Nat->Heap->Prop}{g:TG}{tc:TT}{te:TE}{RR:Ae->Addr->Result->Aj->Prop}{Q:VK}{E:Ae->Aj->Prop}
  (c:CompOk X scope N' k) (hcalm:X.calm=true) (I:Inv X pins σ H2 s2) (T:Turn X.prog X.w X.K tg J fp it tn) (st:tn 0 s2.heap) (hf:∀ b∈fp,CC X pins H2 b)
  (hg:∀ C fp,PG (BO X s2 H2 scope C N' fp pins) tg g) (hc:∀ C fp,HX (BO X s2 H2 scope C N' fp pins) ifs tc) (he:∀ C fp,PE (BO X s2 H2 scope C N' fp pins) elt te)
  (h:∀ D,H2 D=none->∃ W:Nat->Nat->List V->Hp->Prop,(∃ m,W 0 m [] (Aq H2 D (.lst [])))/\∀ i m ys H,W i m ys H->H D=some (.lst ys) /\
   ((J.stop i H/\Q (.ref D) H)\/(J.go i H/\∀ x H',J.yld i H x H'->g x (σ++Bo k none) H' λ σ2 H2=>tc σ2 H2 λ b H3=>if b=true then te σ2 H3 λ y H4=>H4 D=some (.lst ys)/\ys.length < Aw/\∃ m',m' < m/\W (i + 1) m' (ys++[y]) (Aq H4 D (.lst (ys++[y]))) else ∃ m',m' < m/\W (i + 1) m' ys H3)))
  (hRR:∀ D C σ' H' s',s2.heap.objs.size<=C->Inv (BO X s2 H2 scope C N' fp pins) [] σ' H' s'->Q (.ref D) H'->RR (.ref D) C (.ok .next) s')
  :
  Av (Au X.prog X.w) X.A (newList []) (λ acc s₃=>Av (Au X.prog X.w) X.A (Rb scope X.env.globals (Dz X.env.cells scope.names []) [] X.env.qual none .none (some X.env)) (λ cenv s₄=>
   Iy (Au X.prog X.w) X.A (.compStart (.ListComp elt [⟨tg,iter,ifs,0⟩] scope pos) 0 (.ref it) acc { cenv with scope:=Iz scope X.env }) (RR acc cenv.locals) s₄) E s₃) E s2:=by
 refine wpAny_newObj_type (qa ?_);dsimp only;generalize hH2:s2.heap.push { cls:=.type "list",dict:=none,data:=.seq ([]:List Ae).toArray }=HP;obtain ⟨h₁,hh₁⟩:∃ h₁,h₁=pushCells (HP.push { cls:=.type "dict",data:=.dict #[] }) scope.names:=⟨_,rfl⟩
 rw [<- hh₁];have kk:∀ b o,HP.get? b=some o->h₁.get? b=some o:=λ b o e=>by rw [hh₁];exact Rj _ _ b o (CM _ e)
 have hns₁:h₁.Ns HP.objs.size (λ _=>none):=by rw [hh₁];exact (Heap.Ns.new HP (.type "dict")).keeps (Rj _ _)
 have hC:HP.objs.size=s2.heap.objs.size + 1:=by rw [<- hH2,LG]
 have hDC:s2.heap.objs.size≠HP.objs.size:=by rw [hC];exact Cn (IJ _)
 have hCle:s2.heap.objs.size<=HP.objs.size:=by rw [hC];exact Mz _
 have hfp:∀ b∈fp,b < s2.heap.objs.size:=λ b hb=>by
  obtain ⟨o,e,_⟩:=T.obj 0 _ st b hb;exact Bu e
 have GO:∀ b,b < s2.heap.objs.size->b≠HP.objs.size:=λ b hb=>by rw [hC];exact Cn (JF hb)
 have old:∀ b o,s2.heap.get? b=some o->h₁.get? b=some o:=λ b o e=>kk b o (hH2 ▸ CM _ e);have hacc:h₁.get? s2.heap.objs.size=some { cls:=.type "list",dict:=none,data:=.seq ([]:List Ae).toArray }:=kk _ _ (hH2 ▸ Dx _ rfl);have fD:H2 s2.heap.objs.size=none:=I.hok.fresh (Bj _);obtain ⟨W,⟨m0,w0⟩,hW⟩:=h _ fD;have hok3:HOk X.prog X.w (Aq H2 s2.heap.objs.size (.lst [])) h₁:=I.hok.laid old (Bj _) ⟨Gp _,[],0,.nil,hacc⟩;have st1:tn 0 h₁:=T.keep _ _ _ st λ b hb o e=>old b o e;have I3:Inv (BO X s2 H2 scope HP.objs.size N' fp pins) [] (σ++Bo k none) (Aq H2 s2.heap.objs.size (.lst [])) { s2 with heap:=h₁ }:=
  c.inv I hf hfp (t':=s2.toks) hDC (Bj _) hCle old hns₁ (λ b hb=>Bk hb) hok3 (by rw [Bk (Ca hDC)];exact I.hok.fresh hCle) (by rw [hC];exact IJ _) (λ x a h l=>by
   have hs:(HP.push { cls:=.type "dict",data:=.dict #[] }).objs.size=HP.objs.size + 1:=LG ..;have h':(Dw (HP.push { cls:=.type "dict",data:=.dict #[] }).objs.size scope.names (Dz X.env.cells scope.names [])).lookup x=some a:=by rw [hs];exact h
   rcases SU scope.names _ _ x a h' with z | z
   ·exact absurd (Cb (c.old I (Ht _ x a _ [] (c.cells I) (λ z=>nomatch z) z)) (AW hCle (IK l))) (FC _)
   ·rw [hh₁];exact z)
 have fx:∀ {H':Hp},(∀ b∈fp,H' b=none)->∀ b∈fp,CC (BO X s2 H2 scope HP.objs.size N' fp pins) [] H' b:=λ hn b hb=>by
  obtain ⟨f0,f1,f2,f3,f4,f5⟩:=hf b hb;refine ⟨hn b hb,Cn (Cb (hfp b hb) hCle),λ hz=>?_,.inl hb,λ x a h=>(c.cl I h).elim (λ z=>f4 x a z) λ z=>JE (Cb (hfp b hb) (AW hCle (IK z.1))),λ p hp=>f5 p (by simpa [BO] using hp)⟩;rcases jb2.mp (I.stkSub b hz) with z | z
  ·exact f1 z
  ·exact f2 z
 have f0:∀ b∈fp,(Aq H2 s2.heap.objs.size (.lst [])) b=none:=λ b hb=>by rw [Bk (Cn (hfp b hb))];exact (hf b hb).1
 have loop:∀ s₃:Aj,s₃={ s2 with heap:=h₁ } ->
   Iy (Au X.prog X.w) X.A (.compLoop (.ListComp elt [⟨tg,iter,ifs,0⟩] scope pos) 0 (.ref it) (.ref s2.heap.objs.size) (compEnvC scope (Mr X scope HP.objs.size) HP.objs.size X.env))
    (RR (.ref s2.heap.objs.size) HP.objs.size) s₃:=by
  rintro s₃ rfl;refine ZY (λ n s'=>∃ i H' ys,Inv (BO X s2 H2 scope HP.objs.size N' fp pins) [] (σ++Bo k none) H' s'/\tn i s'.heap/\(∀ b∈fp,H' b=none)/\W i n ys H') ?_ m0 ⟨0,_,[],I3,st1,f0,w0⟩;rintro n s4 ⟨i,H4,ys,I4,st4,fr4,w4⟩;obtain ⟨hD4,hcase⟩:=hW i n ys H4 w4;rcases hcase with ⟨stop,qn⟩ | ⟨go,step⟩
  ·refine AG (T.done (BO X s2 H2 scope HP.objs.size N' fp pins) rfl rfl rfl hcalm i [] s4 _ H4 (λ _ _=>False) I4 (fx fr4) st4 stop) λ r s5 ⟨hr,I5⟩=>?_;subst hr;exact hRR _ _ _ _ _ hCle I5 qn
  ·refine AG (T.item (BO X s2 H2 scope HP.objs.size N' fp pins) rfl rfl rfl hcalm i [] s4 _ H4 (λ _ _=>False) I4 (fx fr4) st4 go) λ r s5 ⟨u,hr,h5⟩=>?_;subst hr;refine AG h5 λ _ s6 ⟨x,H6,I6,r6,y6,st6,fr6⟩=>?_;have I6':=I6.pinned (fx fr6) (T.obj _ _ st6);have stays:∀ {σ':St}{H':Hp}{s':Aj},Inv (BO X s2 H2 scope HP.objs.size N' fp pins) ([]++Lv fp s6.heap) σ' H' s'->Inv (BO X s2 H2 scope HP.objs.size N' fp pins) [] (σ++Bo k none) H' s'/\tn (i + 1) s'.heap/\∀ b∈fp,H' b=none:=λ {σ' H' s'} J=>by
    refine ⟨c.again I hf J.unpinned,T.keep _ _ _ st6 λ b hb o e=>(J.pin (b,o) (Bq _ (Bq _ (Nh hb e)))).1,λ b hb=>?_⟩;obtain ⟨o,e,d⟩:=T.obj _ _ st6 b hb;exact (J.pin (b,o) (Bq _ (Bq _ (Nh hb e)))).2.1
   refine AG (hg _ _ _ s6 _ H6 x u _ I6' r6 (step x H6 y6)) λ _ s7 ⟨σ7,H7,I7,q7⟩=>?_;refine AG (hc _ _ _ s7 σ7 H7 _ I7 q7) λ b s8 ⟨H8,I8,q8⟩=>?_;cases b with
   | false=>
    rw [if_neg CF] at q8 ⊢;obtain ⟨m',hm,w'⟩:=q8;obtain ⟨j1,j2,j3⟩:=stays I8;exact ⟨m',hm,i + 1,H8,ys,j1,j2,j3,w'⟩
   | true=>
    rw [if_pos rfl] at q8 ⊢;refine AG (he _ _ _ s8 σ7 H8 _ I8 q8) λ y s9 ⟨z,H9,I9,r9,hD9,hz9,m',hm,w'⟩=>?_;refine AG (UM (X:=BO X s2 H2 scope HP.objs.size N' fp pins) _ s9 σ7 H9 (.ref s2.heap.objs.size) [z] (.ref s2.heap.objs.size) [y] (λ _ H'=>H'=Aq H9 s2.heap.objs.size (.lst (ys++[z]))) I9 rfl (.cons r9 .nil) ⟨_,ys,z,rfl,rfl,hD9,hz9,rfl⟩) λ _ s10 ⟨_,H10,I10,_,e10⟩=>?_;subst e10;obtain ⟨j1,j2,j3⟩:=stays I10;exact ⟨m',hm,i + 1,_,_,j1,j2,j3,w'⟩
 exact codeAny_compStart_list (loop _ rfl) (T.self _ 0 _ _ _ st1 (loop _ rfl))
def CompOk.out (I:Inv X pins σ H2 s2) (hf:∀ b∈fp,CC X pins H2 b) {σ':St}{H':Hp}{s':Aj} (J:Inv (BO X s2 H2 scope C N' fp pins) [] σ' H' s'):Inv X pins σ H' s':=
 I.call' (ch:=fp) J.os J.base J.hok J.bare λ b hb=>⟨(hf b hb).2.2.2.1,(hf b hb).2.1,(hf b hb).2.2.2.2.1,(hf b hb).2.2.2.2.2⟩
def CompOk.away (I:Inv X pins σ H2 s2) (hC:s2.heap.objs.size<=C) {σ':St}{H':Hp}{s':Aj} (J:Inv X pins σ' H' s') (hC':H' C=none) {h':Heap} (sb:NO C s'.heap h'):Inv X pins σ' H' { s' with heap:=h' }:=by
 have lt:∀ b o,s2.heap.get? b=some o->b≠C:=λ b o e=>Cn (Cb (Bu e) hC);refine J.turned (t':=s'.toks) (it:=C) (λ b o hb e=>(sb.2 b hb).trans e) hC' (JE (Cb I.lt hC)) (.inr (AW I.sz hC)) (λ x c h=>?_) λ p hp=>?_
 ·obtain ⟨v,o,ho,_⟩:=I.cell x c h;exact lt c o ho
 ·exact lt p.1 p.2 (I.pin p hp).1
variable {elt iter tg:Expr}{ifs:List Expr}{pos:Pos}{wi:TI}{g:TG}{tc:TT}{te:TE}
def Xi (c:CompOk X scope N' k) (hcalm:X.calm=true) (hi:PI X tg iter wi) (hg:∀ s2 H2 C fp pins,PG (BO X s2 H2 scope C N' fp pins) tg g) (hc:∀ s2 H2 C fp pins,HX (BO X s2 H2 scope C N' fp pins) ifs tc)
  (he:∀ s2 H2 C fp pins,PE (BO X s2 H2 scope C N' fp pins) elt te) (hs:∀ x,NX iter X.env x=pure x):PE X (.ListComp elt [⟨tg,iter,ifs,0⟩] scope pos) (J7 k wi g tc te):=by
 intro pins s σ H Q I h;rw [eval_ListComp];refine wpAny_comprehension_free (use:=none) rfl hs (Up (c.cells I)) c.kind c.names ?_;refine AG (hi pins s σ H _ I h) λ v s1 h1=>AG h1 λ itv s2 h2=>?_;obtain ⟨it,fp,tn,J,H',e,I2,T,st2,f2,W⟩:=h2;subst e;refine Ux (RR:=λ acc C=>compPost (Au X.prog X.w) X.A X.xe none (EP X pins σ Q) acc C) c hcalm I2 T st2 f2 (λ C fp=>hg s2 H' C fp pins) (λ C fp=>hc s2 H' C fp pins) (λ C fp=>he s2 H' C fp pins) W λ D C σ' H3 s' hC J3 q=>?_;obtain ⟨m,ns,_⟩:=J3.loc;exact ⟨m,ns,λ h' sb=>⟨.ref D,H3,CompOk.away I2 hC (CompOk.out I2 f2 J3) J3.free sb,rfl,q⟩⟩
theorem ub {i:Nat}{x:Str}{pos' spos:Pos} (hN:X.N.Nodup) (hi':X.N[i]?=some x) (hx:FG X.env.scope x) (hfn:X.fn x=true\/X.env.scope.names.lookup x=some .local) (c:CompOk X scope N' k) (hcalm:X.calm=true) (hi:PI X tg iter wi) (hg:∀ s2 H2 C fp pins,PG (BO X s2 H2 scope C N' fp pins) tg g) (hc:∀ s2 H2 C fp pins,HX (BO X s2 H2 scope C N' fp pins) ifs tc)
  (he:∀ s2 H2 C fp pins,PE (BO X s2 H2 scope C N' fp pins) elt te) (hs:∀ x,NX iter X.env x=pure x):PS X (.Assign [.Name x pos'] (.ListComp elt [⟨tg,iter,ifs,0⟩] scope pos) spos) (D9 (J7 k wi g tc te) (FT i)):=by
 have hsw:∃ b,swapsWith (.ListComp elt [⟨tg,iter,ifs,0⟩] scope pos) (some (.Name x pos')) spos.line X.env=pure b:=⟨_,rfl⟩
 obtain ⟨b,hsw⟩:=hsw;cases b with
 | false=>exact So hN hi' hx (Xi c hcalm hi hg hc he hs) hsw hfn
 | true=>
  intro pins s σ H D I h;rw [exec_Assign_Name_used _ _ _ _ hsw];refine AM (wpAny_standAt (AM ?_));show Av _ X.A (do let _<-comprehension (.ListComp elt [⟨tg,iter,ifs,0⟩] scope pos) scope X.env _ (newList []) false (eval iter X.env) (some (HB (.Name x pos') X.env))) _ _ s;refine AM (DH (wpAny_comprehension_free (use:=some (HB (.Name x pos') X.env)) (Q:=λ _ s'=>SP X pins D .next s') rfl hs (Up (c.cells I)) c.kind c.names ?_) (λ _ s' hq=>Cs (Cs hq)) λ _ _ e=>e);refine AG (hi pins s σ H _ I h) λ v s1 h1=>AG h1 λ itv s2 h2=>?_;obtain ⟨it,fp,tn,J,H',e,I2,T,st2,f2,W⟩:=h2;subst e;refine Ux (Q:=λ x H1=>FT i x σ H1 D.nx) (RR:=λ acc C=>compPost (Au X.prog X.w) X.A X.xe (some (HB (.Name x pos') X.env)) (λ _ s'=>SP X pins D .next s') acc C) c hcalm I2 T st2 f2 (λ C fp=>hg s2 H' C fp pins) (λ C fp=>hc s2 H' C fp pins) (λ C fp=>he s2 H' C fp pins) W λ E C σ' H3 s' hC J3 q=>?_;obtain ⟨m,ns,_⟩:=J3.loc;have I3:=CompOk.out I2 f2 J3;show Av _ X.A (HB (.Name x pos') X.env (.ref E)) _ _ _;refine wpAny_assign_Name (UW I3 hN hi' hx (v:=.ref E) rfl (λ s'' I4 hsb=>?_) hfn);obtain ⟨a,sb,ha⟩:=hsb;have hCa:C≠a:=by
   rcases ha with z | z
   ·rw [z];exact JE (Cb I2.lt hC)
   ·obtain ⟨v,o,ho,_⟩:=I2.cell x a z;exact JE (Cb (Bu ho) hC)
  exact ⟨m,ns.sameBut sb hCa,λ h' sb'=>⟨_,H3,CompOk.away I2 hC I4 J3.free sb',q⟩⟩
def wN {P:AF}{w:AB}{K:Frag}{tg:Expr} (z:Str) (tk:Tok) (it:Addr):Turn P w K tg (ZW z) [it] it (λ i h=>h.IsStrIter it "str_ascii_iterator" z tk i) where
 mem:=by simp
 obj:=λ i h st b hb=>by
  have e:b=it:=by simpa using hb
  subst e;obtain ⟨o,e,c,d⟩:=st;exact ⟨o,e,λ v z=>by rw [d] at z;cases z⟩
 keep:=λ i h h' st k=>by
  obtain ⟨o,e,r⟩:=st;exact ⟨o,k it (by simp) o e,r⟩
 item:=by
  intro X hP hw hK hc i pins s σ H E I hf st hg;subst hP hw hK;have hi:i < z.cps.size:=hg;obtain ⟨f0,f1,f2,f3,f4,f5⟩:=hf it (by simp);refine wpAny_pyNext_ascii_item st (c:=z.cps[i]) (by simp [hi]) λ h' st' sb=>?_;have I1:Inv X pins σ H { s with heap:=h',toks:=s.toks + 1 }:=I.turned (t':=s.toks + 1) (λ b o hb e=>(sb.2 b hb).trans e) f0 f1 f3 f4 f5;obtain ⟨o,e,c,d⟩:=id st';exact ⟨_,rfl,Me (s:={ s with heap:=h',toks:=s.toks + 1 }) e c d (by decide) ⟨.str ⟨#[z.cps[i]]⟩,H,I1,⟨_,rfl⟩,⟨rfl,z.cps[i],by simp [hi],rfl⟩,st',λ b hb=>(hf b hb).1⟩⟩
 done:=by
  intro X hP hw hK hc i pins s σ H E I hf st hg;subst hP hw hK;have hi:z.cps.size<=i:=hg;obtain ⟨f0,f1,f2,f3,f4,f5⟩:=hf it (by simp);exact wpAny_pyNext_ascii_end (I.ok.hd hc) st (by simp;omega) λ h' eb=>⟨rfl,I.turned (t':=s.toks) (λ b o hb e=>eb b o hb e) f0 f1 f3 f4 f5⟩
 self:=λ _ _ _ _ _ st h=>wpAny_pyIter_striter_ascii st h
def zp {l:Expr}{tl:TE} (hl:PE X l tl):PI X tg l (Gu X.K tl):=by
 intro pins s σ H R I h;refine AG (hl pins s σ H _ I h) λ v s1 ⟨x,H1,I1,r1,q1⟩=>?_;obtain ⟨a,e,⟨⟨xs,hq⟩,q⟩ | ⟨⟨xs,hq⟩,q⟩⟩ | ⟨z,e,ha,q⟩:=q1
 ·subst e;cases r1;obtain ⟨its,rv,p,hz⟩:=I1.list hq;refine wpAny_pyIter_list p.isList ?_;refine ⟨s1.heap.objs.size,[s1.heap.objs.size],_,_,H1,rfl,I1.kept (t':=s1.toks) λ b o e=>CM _ e,yU a _,⟨_,Dx _ rfl,rfl,rfl⟩,λ b hb=>?_,q⟩;have e:b=s1.heap.objs.size:=by simpa using hb
  subst e;exact I1.fpOk (Bj _) (I1.hok.fresh (Bj _))
 ·subst e;cases r1;obtain ⟨its,rv,p,hz⟩:=I1.tuple hq;refine wpAny_pyIter_tuple (show s1.heap.IsTuple a its.toArray from p) ?_;refine ⟨s1.heap.objs.size,[s1.heap.objs.size],_,_,H1,rfl,I1.kept (t':=s1.toks) λ b o e=>CM _ e,ui a _,⟨_,Dx _ rfl,rfl,rfl⟩,λ b hb=>?_,q⟩;have e:b=s1.heap.objs.size:=by simpa using hb
  subst e;exact I1.fpOk (Bj _) (I1.hok.fresh (Bj _))
 ·subst e;obtain ⟨tk,rfl⟩:=r1;refine wpAny_pyIter_ascii ha ?_;refine ⟨s1.heap.objs.size,[s1.heap.objs.size],_,_,H1,rfl,I1.kept (t':=s1.toks) λ b o e=>CM _ e,wN z tk _,⟨_,Dx _ rfl,rfl,rfl⟩,λ b hb=>?_,q⟩;have e:b=s1.heap.objs.size:=by simpa using hb
  subst e;exact I1.fpOk (Bj _) (I1.hok.fresh (Bj _))
end
end QQ
namespace L2
open PySem PySem.Spec PyProof.Rows
section
variable {κ:Type} [DecidableEq κ]
def CL (kvs:List (κ×V)) (k:κ):Option V:=(kvs.find? λ kv=>decide (kv.1=k)).map (·.2)
def C0 (kvs:List (κ×V)) (k:κ) (v:V):List (κ×V):=
 if (kvs.any λ kv=>decide (kv.1=k))=true then kvs.map (λ kv=>if kv.1=k then (kv.1,v) else kv) else kvs++[(k,v)]
def Qk {p:κ×V}{r:List (κ×V)}{k:κ} (e:p.1=k):CL (p::r) k=some p.2:=by simp [CL,KG,e]
def Qj {p:κ×V}{r:List (κ×V)}{k:κ} (e:¬ p.1=k):CL (p::r) k=CL r k:=by simp [CL,KG,e]
theorem Yw (k:κ):∀ kvs:List (κ×V),(kvs.any λ kv=>decide (kv.1=k))=(CL kvs k).isSome
 | []=>rfl
 | p::r=>by
  rw [Pj];by_cases e:p.1=k
  ·simp only [Qk e,decide_eq_true e,Bool.true_or,Zw]
  ·rw [Qj e,decide_eq_false e,KC];exact Yw k r
def Ve (kvs:List (κ×V)) (k:κ) (v:V):(C0 kvs k v).length<=kvs.length + 1:=by
 unfold C0;split
 ·rw [AD];omega
 ·rw [BQ,Bl,IG];omega
theorem RelO.isSome_eq {o:Option V}{u:Option Ae} (r:RelO o u):o.isSome=u.isSome:=by
 cases o with
 | none=>cases u with
  | none=>rfl
  | some _=>exact (show False from r).elim
 | some _=>cases u with
  | none=>exact (show False from r).elim
  | some _=>rfl
theorem KV.val {kvs:List (κ×V)}{vs:List (κ×Ae)} (r:KV kvs vs) (k:κ):RelO (CL kvs k) (valueAt vs k):=by
 unfold KV at r;induction r with
 | nil=>exact True.intro
 | @cons p q ps qs h t ih=>
  obtain ⟨h1,h2⟩:=h;by_cases e:p.1=k
  ·have e':q.1=k:=h1.symm.trans e;have b:valueAt (q::qs) k=some q.2:=by simp [valueAt,KG,e']
   rw [Qk e,b];exact h2
  ·have e':¬ q.1=k:=λ z=>e (h1.trans z);have b:valueAt (q::qs) k=valueAt qs k:=by simp [valueAt,KG,e']
   rw [Qj e,b];exact ih
theorem KV.any {kvs:List (κ×V)}{vs:List (κ×Ae)} (r:KV kvs vs) (k:κ):(kvs.any λ kv=>decide (kv.1=k))=vs.any λ kv=>decide (kv.1=k):=by
 unfold KV at r;induction r with
 | nil=>rfl
 | cons h t ih=>rw [Pj,Pj,ih,h.1]
theorem KV.repl {kvs:List (κ×V)}{vs:List (κ×Ae)} (r:KV kvs vs) (k:κ) {y:V}{u:Ae} (ry:RelV y u):
  KV (kvs.map λ kv=>if kv.1=k then (kv.1,y) else kv) (vs.map λ kv=>if kv.1=k then (kv.1,u) else kv):=by
 unfold KV at r ⊢;induction r with
 | nil=>exact .nil
 | @cons p q ps qs h t ih=>
  rw [BF,BF];refine .cons ?_ ih;obtain ⟨h1,h2⟩:=h;by_cases e:p.1=k
  ·rw [if_pos e,if_pos (h1.symm.trans e)];exact ⟨h1,ry⟩
  ·rw [if_neg e,if_neg (λ z=>e (h1.trans z))];exact ⟨h1,h2⟩
def KV.put {kvs:List (κ×V)}{vs:List (κ×Ae)} (r:KV kvs vs) (k:κ) {y:V}{u:Ae} (ry:RelV y u):KV (C0 kvs k y) (stored vs k u):=by
 unfold C0 stored;rw [r.any k];by_cases e:(vs.any λ kv=>decide (kv.1=k))=true
 ·rw [if_pos e,if_pos e];exact r.repl k ry
 ·rw [if_neg e,if_neg e];exact Paired.snoc r ⟨rfl,ry⟩
def KV.length {kvs:List (κ×V)}{vs:List (κ×Ae)} (r:KV kvs vs):kvs.length=vs.length:=Paired.length r
end
theorem OG {P:AF}{w:AB}{k:Be}{u:Ae} (r:RelV (kV k) u):(DL P w).is k u=true:=by
 cases k with
 | inl i=>obtain ⟨t,e⟩:=(show ∃ t,u=Value.int i t from r);subst e;exact u4 P w i t
 | inr x=>obtain ⟨t,e⟩:=(show ∃ t,u=Value.str x t from r);subst e;exact u7 P w x t
theorem UJ {P:AF}{w:AB}:∀ {ks:List Be}{us:List Ae},Vals (ks.map kV) us->ItemsAre (DL P w) ks us
 | [],_,r=>by rw [EG] at r;cases r;exact .nil
 | k::ks,_,r=>by
  rw [BF] at r;cases r with
  | cons h t=>exact .cons (OG h) (UJ t)
abbrev KT (H:Hp):List (List Be×V)->List (List Be×Addr×Ae)->Prop:=Paired λ p q=>p.1=q.1/\H q.2.1=some (.tup (p.1.map kV))/\RelV p.2 q.2.2
theorem KT.val {H:Hp}{kvs:List (List Be×V)}{xs:List (List Be×Addr×Ae)} (r:KT H kvs xs) (k:List Be):RelO (CL kvs k) ((atKey xs k).map (·.2)):=by
 induction r with
 | nil=>exact True.intro
 | @cons p q ps qs h t ih=>
  obtain ⟨h1,_,h2⟩:=h;by_cases e:p.1=k
  ·have e':q.1=k:=h1.symm.trans e;have b:atKey (q::qs) k=some q.2:=by simp [atKey,KG,e']
   rw [Qk e,b];exact h2
  ·have e':¬ q.1=k:=λ z=>e (h1.trans z);have b:atKey (q::qs) k=atKey qs k:=by simp [atKey,KG,e']
   rw [Qj e,b];exact ih
theorem KT.repl {H:Hp}{kvs:List (List Be×V)}{xs:List (List Be×Addr×Ae)} (r:KT H kvs xs) (k:List Be) {y:V}{u:Ae} (ry:RelV y u):
  KT H (kvs.map λ kv=>if kv.1=k then (kv.1,y) else kv) (xs.map (putAt k u)):=by
 induction r with
 | nil=>exact .nil
 | @cons p q ps qs h t ih=>
  rw [BF,BF];refine .cons ?_ ih;obtain ⟨h1,h2,h3⟩:=h;unfold putAt;by_cases e:p.1=k
  ·rw [if_pos e,if_pos (h1.symm.trans e)];exact ⟨h1,h2,ry⟩
  ·rw [if_neg e,if_neg (λ z=>e (h1.trans z))];exact ⟨h1,h2,h3⟩
def KT.put {H:Hp}{kvs:List (List Be×V)}{xs:List (List Be×Addr×Ae)} (r:KT H kvs xs) (k:List Be) {b:Addr}{y:V}{u:Ae} (hb:H b=some (.tup (k.map kV))) (ry:RelV y u):
  KT H (C0 kvs k y) (storedH xs k b u):=by
 have e:(kvs.any λ kv=>decide (kv.1=k))=(atKey xs k).isSome:=by
  rw [Yw,(r.val k).isSome_eq,T7]
 unfold C0 storedH;rw [e];by_cases q:(atKey xs k).isSome=true
 ·rw [if_pos q,if_pos q];exact r.repl k ry
 ·rw [if_neg q,if_neg q];exact Paired.snoc r ⟨rfl,hb,ry⟩
def KT.keeps {H H':Hp}{kvs:List (List Be×V)}{xs:List (List Be×Addr×Ae)} (r:KT H kvs xs) (ht:∀ b ys,H b=some (.tup ys)->H' b=some (.tup ys)):KT H' kvs xs:=
 Paired.mapP r λ _ _ z=>⟨z.1,ht _ _ z.2.1,z.2.2⟩
section
variable {P:AF}{w:AB}{H:Hp}{h:Heap}{a:Addr}
def V6 {u:HO} (ok:HOk P w H h) (e:Rd H a u):zwo P w H h a u:=e.ok ok
def RK {kvs:List (Be×V)} (ok:HOk P w H h) (e:Rd H a (.dK kvs)):kvs.length<=Aw/\(a == Hb)=false/\∃ vs,KV kvs vs/\h.DictOf (DL P w) a vs:=
 show zwo P w H h a (.dK kvs) from V6 ok e
def Ma {kvs:List (Be×V)} (ok:HOk P w H h) (e:H a=some (.dK kvs)):kvs.length<=Aw/\(a == Hb)=false/\∃ vs,KV kvs vs/\h.DictOf (DL P w) a vs:=RK ok (.inl e)
def OT {ks:List Be} (ok:HOk P w H h) (e:H a=some (.tup (ks.map kV))):(LB (DL P w)).is h ks a:=by
 obtain ⟨_,its,r,o,h1,h2,n,h3⟩:=(show zwo P w H h a (.tup (ks.map kV)) from ok a _ e)
 exact ⟨o,its.toArray,n,h1,h2,h3,by simpa using UJ r⟩
def RP {kvs:List (List Be×V)} (ok:HOk P w H h) (e:Rd H a (.dT kvs)):kvs.length<=Aw/\(a == Hb)=false /\
  ∃ xs,KT H kvs xs/\h.DictOfH (LB (DL P w)) a xs:=by
 obtain ⟨z,y,xs,r,o,es,ep,h1,h2,h3,h4,h5⟩:=(show zwo P w H h a (.dT kvs) from V6 ok e)
 refine ⟨z,y,xs,r,o,es,ep,h1,h2,h3,h4,λ x hx=>?_,h5⟩;have all:∀ {l:List (List Be×V)}{m:List (List Be×Addr×Ae)},KT H l m->∀ x∈m,(LB (DL P w)).is h x.1 x.2.1:=by
  intro l m q;induction q with
  | nil=>intro x hx;exact nomatch hx
  | @cons p q ps qs hq t ih=>
   intro x hx;rcases jb2.mp hx with e | hx
   ·subst e;exact OT ok (by rw [<- hq.1];exact hq.2.1)
   ·exact ih x hx
 exact all r x hx
def qH {kvs:List (List Be×V)} (ok:HOk P w H h) (e:H a=some (.dT kvs)):kvs.length<=Aw/\(a == Hb)=false /\
  ∃ xs,KT H kvs xs/\h.DictOfH (LB (DL P w)) a xs:=RP ok (.inl e)
end
def DGet (H:Hp) (a:Addr) (y:V) (r:Option V):Prop:=
 (∃ kvs k,Rd H a (.dK kvs)/\y=kV k/\r=CL kvs k)\/∃ kvs k b,Rd H a (.dT kvs)/\y=.ref b/\H b=some (.tup (k.map kV))/\r=CL kvs k
def DPut (H:Hp) (a:Addr) (y v:V) (H':Hp):Prop:=
 (∃ kvs k,H a=some (.dK kvs)/\y=kV k/\kvs.length < Aw/\H'=Aq H a (.dK (C0 kvs k v))) \/
 ∃ kvs k b,H a=some (.dT kvs)/\y=.ref b/\H b=some (.tup (k.map kV))/\kvs.length < Aw/\H'=Aq H a (.dT (C0 kvs k v))
def DGet.t {H:Hp}{a b:Addr}{kvs:List (List Be×V)}{k:List Be} (e:H a=some (.dT kvs)) (eb:H b=some (.tup (k.map kV))):DGet H a (.ref b) (CL kvs k):=.inr ⟨kvs,k,b,.inl e,rfl,eb,rfl⟩
def DPut.t {H:Hp}{a b:Addr}{kvs:List (List Be×V)}{k:List Be}{v:V} (e:H a=some (.dT kvs)) (eb:H b=some (.tup (k.map kV))) (hl:kvs.length < Aw):
  DPut H a (.ref b) v (Aq H a (.dT (C0 kvs k v))):=.inr ⟨kvs,k,b,e,rfl,eb,hl,rfl⟩
section
variable {X:Cx}{pins:List (Addr×Obj)}{σ:St}{H:Hp}{s:Aj}{a:Addr}{y v:V}{u r:Ae}{o:Option V}{A:AZ}{E:Ae->Aj->Prop}
def Inv.big (I:Inv X pins σ H s):Hb < s.heap.objs.size:=by
 have h:Eh < s.heap.objs.size:=(I.mod.glob.keeps I.bk).lt;exact M0 (by decide) h
def TV {Q:Ae->Aj->Prop} (hu:A.units + 1 < Cj) (I:Inv X pins σ H s) (g:DGet H a y o) (ry:RelV y u) (h:∀ s',Inv X pins σ H s'->Q (.bool o.isSome) s'):
  Av (Au X.prog X.w) A (Cy .In u (.ref a)) Q E s:=by
 rcases g with ⟨kvs,k,e,ey,l⟩ | ⟨kvs,k,b,e,ey,eb,l⟩
 ·subst ey;obtain ⟨z,hd,vs,rel,dd⟩:=RK I.hok e;refine wpAny_in_of (OG ry) hd dd.mapOf ?_;rw [<- (rel.val k).isSome_eq,<- l];exact h _ (I.tok _)
 ·subst ey;cases (show u=Value.ref b from ry);obtain ⟨z,hd,xs,rel,dd⟩:=RP I.hok e;refine wpAny_in_heap (Rq hu) (OT I.hok eb) hd dd ?_;have q:=(rel.val k).isSome_eq;rw [T7] at q;rw [<- q,<- l];exact h _ (I.tok _)
def j8 {Q:Ae->Aj->Prop} (hu:A.units + 1 < Cj) (I:Inv X pins σ H s) (g:DGet H a y o) (ry:RelV y u) (h:∀ s',Inv X pins σ H s'->Q (.bool (!o.isSome)) s'):
  Av (Au X.prog X.w) A (Cy .NotIn u (.ref a)) Q E s:=by
 rcases g with ⟨kvs,k,e,ey,l⟩ | ⟨kvs,k,b,e,ey,eb,l⟩
 ·subst ey;obtain ⟨z,hd,vs,rel,dd⟩:=RK I.hok e;refine wpAny_notIn_of (OG ry) hd dd.mapOf ?_;rw [<- (rel.val k).isSome_eq,<- l];exact h _ (I.tok _)
 ·subst ey;cases (show u=Value.ref b from ry);obtain ⟨z,hd,xs,rel,dd⟩:=RP I.hok e;refine wpAny_notIn_heap (Rq hu) (OT I.hok eb) hd dd ?_;have q:=(rel.val k).isSome_eq;rw [T7] at q;rw [<- q,<- l];exact h _ (I.tok _)
def WG {h':Heap}{t':Nat}{ob:HO} (I:Inv X pins σ H s) (mu:MR (H a)) (hs:NO a s.heap h') (he:∃ q,h'.get? a=some q) (new:zwo X.prog X.w (Aq H a ob) h' a ob):
  Inv X pins σ (Aq H a ob) { s with heap:=h',toks:=t' }:=
 I.write (x:=a) (e:=a) mu (.inl rfl) (λ b q hb z=>(hs.2 b hb).trans z) he new
def xo {P:AF}{w:AB}{H':Hp}{h':Heap}{kvs:List (Be×V)}{vs:List (Be×Ae)} (z:kvs.length<=Aw) (hd:(a == Hb)=false) (rel:KV kvs vs) (dd:h'.DictOf (DL P w) a vs):
  zwo P w H' h' a (.dK kvs):=⟨z,hd,vs,rel,dd⟩
def yk {H':Hp}{Q:Unit->Aj->Prop} (hu:A.units + 1 < Cj) (I:Inv X pins σ H s) (g:DPut H a y v H') (ry:RelV y u) (rv:RelV v r) (h:∀ s',Inv X pins σ H' s'->Q () s'):
  Av (Au X.prog X.w) A (setItem (.ref a) u r) Q E s:=by
 rcases g with ⟨kvs,k,e,ey,l,eH⟩ | ⟨kvs,k,b,e,ey,eb,l,eH⟩
 ·subst ey eH;obtain ⟨z,hd,vs,rel,dd⟩:=Ma I.hok e;have hz:vs.length<=Aw:=by rw [<- rel.length];exact z
  have hl:(C0 kvs k v).length<=Aw:=by have:=Ve kvs k v;omega
  refine wpAny_setItem_pairs (hsz:=hz) (OG ry) dd λ h' dd' hs=>h _ ?_;have he:∃ q,h'.get? a=some q:=let ⟨q,_,_,hq,_⟩:=dd';⟨q,hq⟩;exact WG I (by rw [e];exact True.intro) hs he (xo hl hd (rel.put k rv) dd')
 ·subst ey eH;cases (show u=Value.ref b from ry);obtain ⟨z,hd,xs,rel,dd⟩:=qH I.hok e;have hz:xs.length<=Aw:=by rw [<- Paired.length rel];exact z
  have hl:(C0 kvs k v).length<=Aw:=by have:=Ve kvs k v;omega
  refine wpAny_setItem_heap (hsz:=hz) (Rq hu) (OT I.hok eb) dd λ h' dd' hs=>h _ ?_;obtain ⟨q,es,ep,hq,h2,h3,h4,_,h5⟩:=dd';refine WG I (by rw [e];exact True.intro) hs ⟨q,hq⟩ ⟨hl,hd,_,(rel.put k eb rv).keeps λ c ys ec=>?_,q,es,ep,hq,h2,h3,h4,h5⟩;rw [Bk (xv ec e (λ z=>nomatch z))];exact ec
end
section
variable {X:Cx}{pins:List (Addr×Obj)}{σ:St}{H:Hp}{s:Aj}{a:Addr}{kvs:List (Be×V)}{k:Be}{u:Ae}{A:AZ}{E:Ae->Aj->Prop}
end
section
variable {X:Cx}{o i e value:Expr}{pos pos' tpos:Pos}{td ty tv:TE}
end
def wj {P:AF}{w:AB}{H:Hp} (h:Heap) (hb:Hb < h.objs.size):zwo P w H (h.push { cls:=.type "dict",data:=.dict #[] }) h.objs.size (.dT []):=
 ⟨Gp _,beq_eq_false_iff_ne.mpr (Ca (Cn hb)),[],.nil,_,#[],0,Dx _ rfl,⟨rfl,rfl,rfl⟩,rfl,rfl,List.nodup_nil⟩
def zI:TE:=λ _ H Q=>∀ p,H p=none->Q (.ref p) (Aq H p (.dT []))
section
variable {X:Cx}{pos:Pos}
def vY:PE X (.Dict [] [] pos) zI:=λ pins s σ H Q I h=>
 wpAny_Dict_empty ⟨.ref s.heap.objs.size,_,I.laid (a:=s.heap.objs.size) (o:=.dT []) (t':=s.toks) (λ _ _ q=>CM _ q) (Bj _) (wj s.heap I.big),rfl,h _ (I.hok.fresh (Bj _))⟩
end
end L2
namespace QQ
open PySem PySem.Spec PyProof.Rows L2
section
variable {M:Fm}{vs:List Nat}{H:Hp}{fps:AX}{F:List Addr}{Q:VK}
def EM {k:Int}{d:Nat} (h:BP M H fps vs F (.int k) d Q):Q (.int k) H:=h (.int k) H [] (λ _ _ h=>h) (by rw [Own];exact ⟨rfl,rfl⟩) (λ _ z=>nomatch z)
def DK {k:Bool}{d:Nat} (h:BP M H fps vs F (.bl k) d Q):Q (.bl k) H:=h (.bl k) H [] (λ _ _ h=>h) (by rw [Own];exact ⟨rfl,rfl⟩) (λ _ z=>nomatch z)
def XY {k:Str}{d:Nat} (h:BP M H fps vs F (.str k) d Q):Q (.str k) H:=h (.str k) H [] (λ _ _ h=>h) (by rw [Own];exact ⟨rfl,rfl⟩) (λ _ z=>nomatch z)
def JV {x:PV}{v:V} (h:BP M H fps vs F x (dv x) Q) (o:Own M.K H (Zv M vs fps) x 0 v []):Q v H:=h v H [] (λ _ _ h=>h) (o.dv.weak λ a z=>z.elim id λ z=>nomatch z) (λ _ z=>nomatch z)
def E9 {p:Addr}{o:HO} (hp:H p=none):∀ a u,H a=some u->Aq H p o a=some u:=λ a u h=>by rw [Bk (λ e=>by rw [e,hp] at h;cases h)];exact h
def Na {xs:List PV}{ws:List V} (h:BP M H fps vs F (.lst xs) 1 Q) (o:OwnL M.K H (Zv M vs fps) xs 0 ws []) {p:Addr} (hp:H p=none):Q (.ref p) (Aq H p (.lst ws)):=by
 refine h (.ref p) _ [p] (E9 hp) ?_ λ a ha=>.inr (by rw [jb1.mp ha];exact hp);rw [Own];refine ⟨p,ws,rfl,.inr ⟨(by decide),[],C8,rfl,(λ z=>nomatch z),?_⟩⟩;rw [Kc];exact OwnL.move (S:=λ _=>False) (λ a u ha _=>E9 hp a u ha) (λ _ z=>z.elim) (λ a hd nz z=>z.elim nz λ z=>hd (by rw [jb1.mp z];exact hp)) xs 0 ws [] (λ _ z=>nomatch z) o
def atoms:List PV->Bool
 | []=>true
 | x::xs=>Mq x && atoms xs
def Fq:PV->Bool
 | .tup xs=>atoms xs
 | x=>Mq x
def J6:List PV->Bool
 | []=>true
 | x::xs=>Fq x && J6 xs
def d1 (xs:List PV):Nat:=if J6 xs=true then om else 1
theorem OwnL.ats {K:Frag}{H:Hp}{Z Z':Addr->Prop}:∀ {xs:List PV}{ws:List V}{d d':Nat},QQ.atoms xs=true->OwnL K H Z xs d' ws []->OwnL K H Z' xs d ws []
 | [],ws,d,_,_,h=>by rw [OwnL] at h ⊢;exact h
 | x::xs,ws,d,_,ha,h=>by
  unfold QQ.atoms at ha;rw [A9] at ha;rw [OwnL] at h ⊢;obtain ⟨v,s,f1,f2,rfl,ef,dj,h1,h2⟩:=h;obtain ⟨rfl,rfl⟩:f1=[]/\f2=[]:=by simpa using ef.symm
  exact ⟨v,s,[],[],rfl,rfl,dj,(Own.atom ha.1 h1).2,h2.ats ha.2⟩
theorem Own.flat {K:Frag}{H:Hp}{Z Z':Addr->Prop}{x:PV}{v:V}{d d':Nat} (hx:Fq x=true) (h:Own K H Z x d' v []):Own K H Z' x d v []:=by
 cases x with
 | tup xs=>
  rw [Own] at h ⊢;obtain ⟨a,vs,e,ha,hl⟩:=h;exact ⟨a,vs,e,ha,hl.ats hx⟩
 | lst _=>cases hx
 | dct _=>cases hx
 | exn _=>exact (Own.atom rfl h).2
 | emp=>exact (Own.atom rfl h).2
 | dko=>exact (Own.atom rfl h).2
 | scr _=>exact (Own.atom rfl h).2
 | non=>exact (Own.atom rfl h).2
 | bl _=>exact (Own.atom rfl h).2
 | int _=>exact (Own.atom rfl h).2
 | str _=>exact (Own.atom rfl h).2
theorem OwnL.ats0 {K:Frag}{H:Hp}{Z:Addr->Prop}:∀ {xs:List PV}{ws:List V}{d:Nat}{f:List Addr},QQ.atoms xs=true->OwnL K H Z xs d ws f->f=[]
 | [],ws,d,f,_,h=>by rw [OwnL] at h;exact h.2
 | x::xs,ws,d,f,ha,h=>by
  unfold QQ.atoms at ha;rw [A9] at ha;rw [OwnL] at h;obtain ⟨v,s,f1,f2,rfl,rfl,dj,h1,h2⟩:=h;rw [(Own.atom (Z':=Z) (d':=d) ha.1 h1).1,h2.ats0 ha.2];rfl
def Own.flatA {K:Frag}{H:Hp}{Z Z':Addr->Prop}{x:PV}{v:V}{d d':Nat}{f:List Addr} (hx:Fq x=true) (h:Own K H Z x d v f):f=[]/\Own K H Z' x d' v []:=by
 have e:f=[]:=by
  cases x with
  | tup xs=>
   rw [Own] at h;obtain ⟨a,vs,e,ha,hl⟩:=h;exact hl.ats0 hx
  | lst _=>cases hx
  | dct _=>cases hx
  | exn _=>exact (Own.atom (Z':=Z) (d':=d) rfl h).1
  | emp=>exact (Own.atom (Z':=Z) (d':=d) rfl h).1
  | dko=>exact (Own.atom (Z':=Z) (d':=d) rfl h).1
  | scr _=>exact (Own.atom (Z':=Z) (d':=d) rfl h).1
  | non=>exact (Own.atom (Z':=Z) (d':=d) rfl h).1
  | bl _=>exact (Own.atom (Z':=Z) (d':=d) rfl h).1
  | int _=>exact (Own.atom (Z':=Z) (d':=d) rfl h).1
  | str _=>exact (Own.atom (Z':=Z) (d':=d) rfl h).1
 subst e;exact ⟨rfl,h.flat hx⟩
theorem OwnL.atoms {K:Frag}{H:Hp}{Z Z':Addr->Prop}:∀ {xs:List PV}{ws:List V}{d:Nat},J6 xs=true->OwnL K H Z xs 0 ws []->OwnL K H Z' xs d ws []
 | [],ws,d,_,h=>by rw [OwnL] at h ⊢;exact h
 | x::xs,ws,d,ha,h=>by
  unfold J6 at ha;rw [A9] at ha;rw [OwnL] at h ⊢;obtain ⟨v,s,f1,f2,rfl,ef,dj,h1,h2⟩:=h;obtain ⟨rfl,rfl⟩:f1=[]/\f2=[]:=by simpa using ef.symm
  exact ⟨v,s,[],[],rfl,rfl,dj,h1.flat ha.1,h2.atoms ha.2⟩
def JW {xs:List PV}{ws:List V} (h:BP M H fps vs F (.lst xs) (d1 xs) Q) (o:OwnL M.K H (Zv M vs fps) xs 0 ws []) {p:Addr} (hp:H p=none):Q (.ref p) (Aq H p (.lst ws)):=by
 unfold d1 at h;split at h
 ·rename_i ha;refine h (.ref p) _ [p] (E9 hp) ?_ λ a ha=>.inr (by rw [jb1.mp ha];exact hp);rw [Own];refine ⟨p,ws,rfl,.inr ⟨(by decide),[],C8,rfl,(λ z=>nomatch z),?_⟩⟩;have o':OwnL M.K (Aq H p (.lst ws)) (Zv M vs fps) xs 0 ws []:=OwnL.move (S:=λ _=>False) (λ a u ha _=>E9 hp a u ha) (λ _ z=>z.elim) (λ _ _ n=>n) xs 0 ws [] (λ _ z=>nomatch z) o;exact o'.atoms ha
 ·exact Na h o hp
def Qx {xs:List PV}{ws:List V} (h:BP M H fps vs F (.tup xs) 0 Q) (o:OwnL M.K H (Zv M vs fps) xs 0 ws []) {p:Addr} (hp:H p=none):Q (.ref p) (Aq H p (.tup ws)):=by
 refine h (.ref p) _ [] (E9 hp) ?_ λ a ha=>nomatch ha
 rw [Own];refine ⟨p,ws,rfl,C8,?_⟩;rw [ke];exact OwnL.move (S:=λ _=>False) (λ a u ha _=>E9 hp a u ha) (λ _ z=>z.elim) (λ a hd nz z=>z.elim nz λ z=>nomatch z) xs 0 ws [] (λ _ z=>nomatch z) o
def U6 {xs:List PV}{ws:List V} (h:BP M H fps vs F (.lst xs) om Q) {Z:Addr->Prop} (o:OwnL M.K H Z xs om ws F) {p:Addr} (hp:H p=none):Q (.ref p) (Aq H p (.lst ws)):=by
 refine h (.ref p) _ (p::F) (E9 hp) ?_ λ a ha=>(jb2.mp ha).elim (λ e=>.inr (by rw [e];exact hp)) .inl;rw [Own];refine ⟨p,ws,rfl,.inr ⟨(by decide),F,C8,rfl,λ z=>?_,?_⟩⟩
 ·obtain ⟨ys,e⟩:=OwnL.lsts xs om ws F o p z;rw [hp] at e;cases e
 ·exact OwnL.full xs ws F (OwnL.move (S:=λ _=>False) (Z':=Z) (λ a u ha _=>E9 hp a u ha) (λ _ z=>z.elim) (λ _ _ n=>n) xs om ws F (λ _ _ z=>z) o)
def y1 {xs:List PV}{ws:List V} (h:BP M H fps vs F (.tup xs) om Q) {Z:Addr->Prop} (o:OwnL M.K H Z xs om ws F) {p:Addr} (hp:H p=none):Q (.ref p) (Aq H p (.tup ws)):=by
 refine h (.ref p) _ F (E9 hp) ?_ λ a ha=>.inl ha;rw [Own];exact ⟨p,ws,rfl,C8,OwnL.full xs ws F (OwnL.move (S:=λ _=>False) (Z':=Z) (λ a u ha _=>E9 hp a u ha) (λ _ z=>z.elim) (λ _ _ n=>n) xs om ws F (λ _ _ z=>z) o)⟩
end
def Own.seqL {K:Frag}{H:Hp}{Z:Addr->Prop}{xs:List PV}{d:Nat}{v:V}{fp:List Addr} (h:Own K H Z (.lst xs) d v fp):∃ a ws,v=.ref a/\Co K H a ws/\ws.length=xs.length:=by
 rw [Own] at h;obtain ⟨a,ws,e,⟨_,hr,_,ol⟩ | ⟨_,f,ha,_,_,ol⟩⟩:=h
 ·exact ⟨a,ws,e,.inl (.inl hr.1),ol.length⟩
 ·exact ⟨a,ws,e,.inl (.inl ha),ol.length⟩
def Own.seqT {K:Frag}{H:Hp}{Z:Addr->Prop}{xs:List PV}{d:Nat}{v:V}{fp:List Addr} (h:Own K H Z (.tup xs) d v fp):∃ a ws,v=.ref a/\Dq K H a ws/\ws.length=xs.length:=by
 rw [Own] at h;obtain ⟨a,ws,e,hr,ol⟩:=h;exact ⟨a,ws,e,.inl (.inl hr),ol.length⟩
def Own.coldL {K:Frag}{H:Hp}{Z:Addr->Prop}{xs:List PV}{v:V} (h:Own K H Z (.lst xs) 0 v []):∃ a ws,v=.ref a/\H a=some (.lst ws)/\OwnL K H Z xs 0 ws []:=by
 rw [Own] at h;obtain ⟨a,ws,e,⟨_,hr,_,ol⟩ | ⟨h,_⟩⟩:=h
 ·exact ⟨a,ws,e,hr.1,ol⟩
 ·exact absurd rfl h
def Own.coldT {K:Frag}{H:Hp}{Z:Addr->Prop}{xs:List PV}{v:V} (h:Own K H Z (.tup xs) 0 v []):∃ a ws,v=.ref a/\H a=some (.tup ws)/\OwnL K H Z xs 0 ws []:=by
 rw [Own] at h;exact h
theorem OwnL.app {K:Frag}{H:Hp}{Z:Addr->Prop}:∀ {xs ys:List PV}{ws us:List V},OwnL K H Z xs 0 ws []->OwnL K H Z ys 0 us []->OwnL K H Z (xs++ys) 0 (ws++us) []
 | [],ys,ws,us,h,h'=>by rw [OwnL] at h;obtain ⟨rfl,_⟩:=h;exact h'
 | x::xs,ys,ws,us,h,h'=>by
  rw [OwnL] at h;obtain ⟨v,s,f1,f2,rfl,ef,dj,h1,h2⟩:=h;obtain ⟨rfl,rfl⟩:f1=[]/\f2=[]:=by simpa using ef.symm
  show OwnL K H Z (x::(xs++ys)) 0 (v::(s++us)) [];rw [OwnL];exact ⟨v,s++us,[],[],rfl,rfl,λ _ z=>(nomatch z),h1,h2.app h'⟩
theorem OwnL.drop {K:Frag}{H:Hp}{Z:Addr->Prop}:∀ {xs:List PV}{ws:List V} (n:Nat),OwnL K H Z xs 0 ws []->OwnL K H Z (xs.drop n) 0 (ws.drop n) []
 | xs,ws,0,h=>h
 | [],ws,n + 1,h=>by rw [OwnL] at h;obtain ⟨rfl,_⟩:=h;rw [YS,YS,OwnL];exact ⟨rfl,rfl⟩
 | x::xs,ws,n + 1,h=>by
  rw [OwnL] at h;obtain ⟨v,s,f1,f2,rfl,ef,dj,h1,h2⟩:=h;obtain ⟨rfl,rfl⟩:f1=[]/\f2=[]:=by simpa using ef.symm
  exact h2.drop n
theorem OwnL.take {K:Frag}{H:Hp}{Z:Addr->Prop}:∀ {xs:List PV}{ws:List V} (n:Nat),OwnL K H Z xs 0 ws []->OwnL K H Z (xs.take n) 0 (ws.take n) []
 | xs,ws,0,h=>by rw [Tz,Tz,OwnL];exact ⟨rfl,rfl⟩
 | [],ws,n + 1,h=>by rw [OwnL] at h;obtain ⟨rfl,_⟩:=h;rw [YR,YR,OwnL];exact ⟨rfl,rfl⟩
 | x::xs,ws,n + 1,h=>by
  rw [OwnL] at h;obtain ⟨v,s,f1,f2,rfl,ef,dj,h1,h2⟩:=h;obtain ⟨rfl,rfl⟩:f1=[]/\f2=[]:=by simpa using ef.symm
  rw [Zz,Zz,OwnL];exact ⟨v,s.take n,[],[],rfl,rfl,λ _ z=>(nomatch z),h1,h2.take n⟩
def OwnL.nth {K:Frag}{H:Hp}{Z:Addr->Prop}{xs:List PV}{ws:List V}{j:Nat}{x:PV} (h:OwnL K H Z xs 0 ws []) (e:xs[j]?=some x):∃ w,ws[j]?=some w/\Own K H Z x 0 w []:=by
 have hj:j < ws.length:=by rw [h.length];exact (ja9.mp e).1
 obtain ⟨y,e1,e2⟩:=h.get (i:=j) (w:=ws[j]) (by simp [hj]);rw [e] at e1;cases e1;exact ⟨_,by simp [hj],e2⟩
def cold {M:Fm}{vs:List Nat}{H:Hp}{fps:AX}{x:PV}{d:Nat}{v:V}{fp:List Addr} (o:Own M.K H (Zt M vs fps fp) x d v fp) (hf:∀ a∈fp,¬ Zf M fps a):Own M.K H (Zv M vs fps) x 0 v []:=
 Own.freeze (λ _ z=>.inl z) x d v fp (λ a ha z=>hf a ha z.zf) o
def Az:PV->Nat->PV->Nat->Option (PV×Nat)
 | .int i,_,.int j,_=>some (.int (i + j),om)
 | .lst xs,_,.lst ys,_=>if xs.length + ys.length<=Aw then some (.lst (xs++ys),d1 (xs++ys)) else none
 | .tup xs,_,.tup ys,_=>if xs.length + ys.length<=Aw then some (.tup (xs++ys),0) else none
 | _,_,_,_=>none
def K5 (p:Int->Int->Bool) (g:Int->Int->Int):PV->Nat->PV->Nat->Option (PV×Nat)
 | .int i,_,.int j,_=>if p i j then some (.int (g i j),om) else none
 | _,_,_,_=>none
def Gd (i j:Int):Bool:=(decide (-(2 ^ 64) < i) && decide (i < 2 ^ 64)) || (decide (-(2 ^ 64) < j) && decide (j < 2 ^ 64))
def Ge (_ j:Int):Bool:=decide (0 < j) && decide (j.natAbs.log2 < 9000)
def HG (_ j:Int):Bool:=decide (0 < j)
def JA (i j:Int):Bool:=decide (0<=j) && decide (j<=1000) && decide (i.natAbs < 2 ^ 64)
def Br:=K5 (λ _ _=>true) (λ i j=>i - j)
def E1 (n:Nat) (xs:List PV):List PV:=(Bo n xs).flatten
def Cv:PV->Nat->PV->Nat->Option (PV×Nat)
 | .int i,_,.int j,_=>if Gd i j then some (.int (i * j),om) else none
 | .lst xs,_,.int k,_=>if 0<=k/\k < 2 ^ 62/\xs.length * k.toNat<=Aw then some (.lst (E1 k.toNat xs),d1 (E1 k.toNat xs)) else none
 | _,_,_,_=>none
def Fl:=K5 Ge (λ i j=>i / j)
def A0:=K5 HG (λ i j=>i % j)
def OI:=K5 JA (λ i j=>i ^ j.toNat)
section
variable {X:Cx}
def vU:OpR X (EO .FloorDiv) (rI (λ _ j=>0 < j/\j.natAbs.log2 < 9000) λ i j=>.int (i / j)):=Mt λ i j _ _ _ _ _ hc q=>by
 have h1:(0:Int) < j:=hc.1;exact floordiv_int (by omega) (by rw [Int.fdiv_eq_ediv_of_nonneg i (by omega)];exact q) (.inl (PyProof.noPylong_of_log2 hc.2))
end
def BD {X:Cx}{e:Expr}{t t':TE} (h:PE X e t) (i:∀ σ H Q,t' σ H Q->t σ H Q):PE X e t':=λ pins s σ H Q I q=>h pins s σ H Q I (i σ H Q q)
def Ke {X:Cx}{e:Expr}{t t':TT} (h:PT X e t) (i:∀ σ H Q,t' σ H Q->t σ H Q):PT X e t':=λ pins s σ H Q I q=>h pins s σ H Q I (i σ H Q q)
def W5 {X:Cx}{e:Expr}{t t':TT} (h:PW X e t) (i:∀ σ H Q,t' σ H Q->t σ H Q):PW X e t':=λ wh pins s σ H Q I q=>h wh pins s σ H Q I (i σ H Q q)
def Wi {X:Cx}{e:List Expr}{t t':TA} (h:PA X e t) (i:∀ σ H Q,t' σ H Q->t σ H Q):PA X e t':=λ p pins s σ H Q I q=>h p pins s σ H Q I (i σ H Q q)
def CZ {X:Cx}{e:Stmt}{t t':TS} (h:PS X e t) (i:∀ D σ H,t' D σ H->t D σ H):PS X e t':=λ pins s σ H D I q=>h pins s σ H D I (i D σ H q)
def Xl {X:Cx}{e:List Stmt}{t t':TS} (h:E5 X e t) (i:∀ D σ H,t' D σ H->t D σ H):E5 X e t':=λ pins s σ H D I q=>h pins s σ H D I (i D σ H q)
section
variable {X:Cx}{M:Fm}{a b:Expr}{f g:Fx}{vs vs':List Nat}{pos:Pos}{σ:St}{H:Hp}{Q:VK}
def vT:OpR X (EO .Add) (λ x y H Q=>∃ a b ys,x=.ref a/\y=.ref b/\Dq X.K H a []/\Dq X.K H b ys/\Q (.ref b) H):=by
 intro pins s σ H x y v u Q I rx ry h;obtain ⟨a,b,ys,rfl,rfl,ha,hb,q⟩:=h;cases rx;cases ry;obtain ⟨its,r1,p1,_⟩:=I.tuple ha;obtain ⟨its2,r2,p2,_⟩:=I.tuple hb;cases r1;obtain ⟨⟨cls,dd,data,sl⟩,ho,hc,n,hd⟩:=id p1;obtain ⟨⟨cls2,dd2,data2,sl2⟩,ho2,hc2,n2,hd2⟩:=id p2;simp only at hc hd hc2 hd2;subst hc hd hc2 hd2;exact concat_meets ⟨_,ho,rfl⟩ ⟨_,ho2,rfl⟩ Rk seq_tuple_add Rw Rx (Ry _ _)
  (tuple_addW0 a b _ its2.toArray n n2 dd dd2 sl sl2 rfl) ⟨ho,ho2,⟨.ref b,H,I,rfl,q⟩⟩
theorem zA (hv:∀ i∈vs,M.Ms i=false) (hK:M.K=X.K) (ha:PE X a (tE M f vs)) (hb:PE X b (tE M g vs')):PE X (.BinOp a .Add b pos) (tE M (Ab Az f g) (vs++vs')):=by
 refine BD (RO (qrd.or (qrc.or (qnk.or vT))) ha hb) λ σ H Q h=>El hv (λ x d y e z c v w H fps f1 f2 Q ho o1 o2 dj nz zd lf=>?_) h;cases x with
 | int i=>
  cases y with
  | int j=>
   cases ho;rw [Own] at o1 o2;exact .inl ⟨i,j,o1.1,o2.1,EM lf⟩
  | _=>cases ho
 | lst xs=>
  cases y with
  | lst ys=>
   dsimp only [Az] at ho;split at ho
   ·rename_i hl;cases ho;obtain ⟨p,ws,rfl,hp,ol⟩:=(cold o1 λ a ha=>nz a (BG _ ha)).coldL;obtain ⟨p2,us,rfl,hp2,ol2⟩:=(cold o2 λ a ha=>nz a (Bq _ ha)).coldL;exact .inr (.inl ⟨p,p2,ws,us,rfl,rfl,hp,hp2,by rw [ol.length,ol2.length];exact hl,λ q hq=>JW lf (ol.app ol2) hq⟩)
   ·cases ho
  | _=>cases ho
 | tup xs=>
  cases y with
  | tup ys=>
   dsimp only [Az] at ho;split at ho
   ·rename_i hl;cases ho;obtain ⟨p,ws,rfl,hp,ol⟩:=(cold o1 λ a ha=>nz a (BG _ ha)).coldT;obtain ⟨p2,us,rfl,hp2,ol2⟩:=(cold o2 λ a ha=>nz a (Bq _ ha)).coldT;by_cases hw:ws=[]
    ·subst hw;refine .inr (.inr (.inr ⟨p,p2,us,rfl,rfl,.inl (.inl hp),.inl (.inl hp2),?_⟩));have ex:xs=[]:=by
      have:=ol.length
      cases xs with
      | nil=>rfl
      | cons _ _=>simp at this
     subst ex;exact JV (x:=.tup ys) lf (by rw [Own];exact ⟨p2,us,rfl,hp2,ol2⟩)
    ·refine .inr (.inr (.inl ⟨p,p2,ws,us,rfl,rfl,.inl (.inl hp),.inl (.inl hp2),hw,by rw [ol.length,ol2.length];exact hl,λ hu=>?_,λ hu q hq=>Qx lf (ol.app ol2) hq⟩));subst hu;have ey:ys=[]:=by
      have:=ol2.length
      cases ys with
      | nil=>rfl
      | cons _ _=>simp at this
     subst ey;rw [KH] at lf;exact JV (x:=.tup xs) lf (by rw [Own];exact ⟨p,ws,rfl,hp,ol⟩)
   ·cases ho
  | _=>cases ho
 | _=>cases ho
theorem Pc {op:Operator}{p:Int->Int->Bool}{k:Int->Int->Int}{C:Int->Int->Prop} (hop:OpR X (EO op) (rI C λ i j=>.int (k i j))) (hC:∀ i j,p i j=true->C i j) (hv:∀ i∈vs,M.Ms i=false) (ha:PE X a (tE M f vs)) (hb:PE X b (tE M g vs')):
  PE X (.BinOp a op b pos) (tE M (Ab (K5 p k) f g) (vs++vs')):=by
 refine BD (RO hop ha hb) λ σ H Q h=>El hv (λ x d y e z c v w H fps f1 f2 Q ho o1 o2 dj nz zd lf=>?_) h;cases x with
 | int i=>
  cases y with
  | int j=>
   dsimp only [K5] at ho;split at ho
   ·rename_i hp;cases ho;rw [Own] at o1 o2;exact ⟨i,j,o1.1,o2.1,hC i j hp,EM lf⟩
   ·cases ho
  | _=>cases ho
 | _=>cases ho
theorem OwnL.rep {K:Frag}{H:Hp}{Z:Addr->Prop}{xs:List PV}{ws:List V} (h:OwnL K H Z xs 0 ws []):∀ n,OwnL K H Z (E1 n xs) 0 (Bo n ws).flatten []
 | 0=>by
  unfold E1;rw [Zy,Zy,Zh,Zh,OwnL];exact ⟨rfl,rfl⟩
 | n + 1=>by
  have:=h.rep n
  unfold E1 at this ⊢;rw [JH,JH,KN,KN];exact h.app this
def kc:OpR X (EO .Sub) (rI (λ _ _=>True) λ i j=>.int (i - j)):=Mt λ _ _ _ _ _ _ _ _ q=>sub_int q
def Ua {i j:Int} (h:Gd i j=true):CMul i j:=by
 unfold Gd at h;simp only [FD,A9,decide_eq_true_eq] at h;exact h
theorem jj (hv:∀ i∈vs,M.Ms i=false) (ha:PE X a (tE M f vs)) (hb:PE X b (tE M g vs')):PE X (.BinOp a .Mult b pos) (tE M (Ab Cv f g) (vs++vs')):=by
 refine BD (RO (qq1.or ze) ha hb) λ σ H Q h=>El hv (λ x d y e z c v w H fps f1 f2 Q ho o1 o2 dj nz zd lf=>?_) h;cases x with
 | int i=>
  cases y with
  | int j=>
   dsimp only [Cv] at ho;split at ho
   ·rename_i hp;cases ho;rw [Own] at o1 o2;exact .inl ⟨i,j,o1.1,o2.1,Ua hp,EM lf⟩
   ·cases ho
  | _=>cases ho
 | lst xs=>
  cases y with
  | int k=>
   dsimp only [Cv] at ho;split at ho
   ·rename_i hl;cases ho;obtain ⟨p,ws,rfl,hp,ol⟩:=(cold o1 λ a ha=>nz a (BG _ ha)).coldL;rw [Own] at o2;exact .inr ⟨p,k,ws,rfl,o2.1,hp,by omega,by omega,by rw [ol.length];exact hl.2.2,λ q hq=>JW lf (ol.rep k.toNat) hq⟩
   ·cases ho
  | _=>cases ho
 | _=>cases ho
def Uc {i j:Int} (h:Ge i j=true):0 < j/\j.natAbs.log2 < 9000:=by
 unfold Ge at h;simp only [A9,decide_eq_true_eq] at h;exact h
def Ub {i j:Int} (h:HG i j=true):0 < j:=by
 unfold HG at h;simpa using h
def TZ {i j:Int} (h:JA i j=true):MW i j:=by
 unfold JA at h;simp only [A9,decide_eq_true_eq] at h;exact ⟨h.1.1,by omega,h.2⟩
def Cp:PV->Nat->Option (PV×Nat)
 | .int i,_=>some (.int (-i),om)
 | _,_=>none
theorem jk (ha:PE X a (tE M f vs)):PE X (.UnaryOp .USub a pos) (tE M (Ay Cp f) vs):=by
 refine BD (x4 jG ha) λ σ H Q h=>Mj (λ x d z c v H fps f1 Q ho o1 nz zd lf=>?_) h;cases x with
 | int i=>cases ho;rw [Own] at o1;exact ⟨i,o1.1,EM lf⟩
 | _=>cases ho
def AS (p:Int->Int->Bool):PV->Nat->PV->Nat->Option (PV×Nat)
 | .int i,_,.int j,_=>some (.bl (p i j),om)
 | _,_,_,_=>none
theorem Nm {p:Int->Int->Bool}{x y z:PV}{d e c:Nat}{v w:V}{fps:AX}{f1 f2 F:List Addr}{Z Z':Addr->Prop} (ho:AS p x d y e=some (z,c)) (o1:Own M.K H Z x d v f1) (o2:Own M.K H Z' y e w f2) (lf:BP M H fps vs F z c Q):FA (λ i j=>.bl (p i j)) v w H Q:=by
 cases x with
 | int i=>
  cases y with
  | int j=>
   cases ho;rw [Own] at o1 o2;exact ⟨i,j,o1.1,o2.1,DK lf⟩
  | _=>cases ho
 | _=>cases ho
def sV:PV->Option V
 | .non=>some .non
 | .bl b=>some (.bl b)
 | .int i=>some (.int i)
 | .str x=>some (.str x)
 | _=>none
def AN (f:PV->Option Bs):List PV->Option (List Bs)
 | []=>some []
 | x::xs=>match f x,AN f xs with
  | some a,some r=>some (a::r)
  | _,_=>none
def BL:Nat->PV->Option Bs
 | 0,_=>none
 | n + 1,x=>match x with
  | .non=>some .none
  | .bl b=>some (.bool b)
  | .int i=>some (.int i)
  | .str z=>if PyData.strOk z=true then some (.str z) else none
  | .lst xs=>(AN (BL n) xs).map .list
  | .tup xs=>(AN (BL n) xs).map .tuple
  | _=>none
def Ew (f:PV->PV->Bool):List PV->List PV->Bool
 | [],[]=>true
 | x::xs,y::ys=>f x y && Ew f xs ys
 | _,_=>false
def Fv:Nat->PV->PV->Bool
 | 0,_,_=>false
 | n + 1,x,y=>match x,y with
  | .non,.non=>true
  | .bl a,.bl b=>a == b
  | .int a,.int b=>a == b
  | .str a,.str b=>a == b
  | .emp,.emp=>true
  | .lst xs,.lst ys=>Ew (Fv n) xs ys
  | .tup xs,.tup ys=>Ew (Fv n) xs ys
  | _,_=>false
def Ap (neg:Bool) (x:PV) (_:Nat) (y:PV) (_:Nat):Option (PV×Nat):=match BL 20 x,BL 20 y with
 | some a,some b=>some (.bl (neg^^Cz a b),om)
 | _,_=>match x,y with
  | .lst xs,.lst ys=>if Ew (Fv 20) xs ys=true then some (.bl (neg^^true),om) else if xs.length≠ys.length then some (.bl (neg^^false),om) else none
  | .str a,.str b=>some (.bl (neg^^(a == b)),om)
  | .emp,.emp=>some (.bl (neg^^true),om)
  | .tup xs,.tup ys=>if Ew (Fv 20) xs ys=true then some (.bl (neg^^true),om) else none
  | _,_=>none
theorem Kr {f:PV->Option Bs}{n:Nat} (hf:∀ x D,f x=some D->D.canLay0=true/\D.depth<=n):∀ {xs:List PV}{Ds:List Bs},AN f xs=some Ds->D7 Ds=true/\DI Ds<=n
 | [],Ds,h=>by cases h;rw [D7,DI];exact ⟨rfl,Gp _⟩
 | x::xs,Ds,h=>by
  unfold AN at h;split at h
  ·rename_i a r h1 h2;cases h;have h3:=hf x a h1;have h4:=Kr hf h2;rw [D7,DI,h3.1,h4.1];exact ⟨rfl,Nat.max_le.mpr ⟨h3.2,h4.2⟩⟩
  ·cases h
theorem EN:∀ (n:Nat) (x:PV) (D:Bs),BL n x=some D->D.canLay0=true/\D.depth<=n
 | 0,_,_,h=>by cases h
 | n + 1,x,D,h=>by
  unfold BL at h;cases x with
  | non=>cases h;rw [K0,PyData.depth] <;> first | exact ⟨rfl,Gp _⟩ | (intros;contradiction)
  | bl b=>cases h;rw [K0,PyData.depth] <;> first | exact ⟨rfl,Gp _⟩ | (intros;contradiction)
  | int i=>cases h;rw [K0,PyData.depth] <;> first | exact ⟨rfl,Gp _⟩ | (intros;contradiction)
  | str z=>
   dsimp only at h;split at h
   ·rename_i hz;cases h;rw [K0,PyData.depth] <;> first | exact ⟨hz,Gp _⟩ | (intros;contradiction)
   ·cases h
  | lst xs=>
   obtain ⟨Ds,e,rfl⟩:=jb4.mp h
   have:=Kr (EN n) e
   rw [K0,PyData.depth];exact ⟨this.1,Pn this.2⟩
  | tup xs=>
   obtain ⟨Ds,e,rfl⟩:=jb4.mp h
   have:=Kr (EN n) e
   rw [K0,PyData.depth];exact ⟨this.1,Pn this.2⟩
  | emp=>cases h
  | dko=>cases h
  | scr ns=>cases h
  | dct _=>cases h
  | exn _=>cases h
theorem GI {pins:List (Addr×Obj)}{s:Aj}{Z:Addr->Prop} (I:L2.Inv X pins σ H s):∀ (n:Nat) (x:PV) (d:Nat) (v:V) (fp:List Addr) (u:Ae) (D:Bs),BL n x=some D->Own X.K H Z x d v fp->RelV v u->∃ as,Reads s.heap u D as
 | 0,_,_,_,_,_,_,h,_,_=>by cases h
 | n + 1,x,d,v,fp,u,D,h,o,r=>by
  have all:∀ (xs:List PV) (d:Nat) (ws:List V) (fp:List Addr) (us:List Ae) (Ds:List Bs),AN (BL n) xs=some Ds->OwnL X.K H Z xs d ws fp->Vals ws us->∃ as,GW s.heap us Ds as:=λ xs=>by
   induction xs with
   | nil=>
    intro d ws fp us Ds h o r;cases h;rw [OwnL] at o;obtain ⟨rfl,_⟩:=o;cases r;exact ⟨_,.nil⟩
   | cons y ys ih=>
    intro d ws fp us Ds h o r;unfold AN at h;split at h
    ·rename_i a rr h1 h2;cases h;rw [OwnL] at o;obtain ⟨v,s,f1,f2,rfl,_,_,o1,o2⟩:=o;cases r with
     | cons r1 r2=>
      obtain ⟨as,ra⟩:=GI I n y d v f1 _ a h1 o1 r1;obtain ⟨bs,rb⟩:=ih d s f2 _ rr h2 o2 r2;exact ⟨_,.cons ra rb⟩
    ·cases h
  unfold BL at h;cases x with
  | non=>cases h;rw [Own] at o;obtain ⟨rfl,_⟩:=o;cases r;exact ⟨_,.none⟩
  | bl b=>cases h;rw [Own] at o;obtain ⟨rfl,_⟩:=o;cases r;exact ⟨_,.bool b⟩
  | int i=>cases h;rw [Own] at o;obtain ⟨rfl,_⟩:=o;obtain ⟨t,rfl⟩:=r;exact ⟨_,.int i t⟩
  | str z=>
   dsimp only at h;split at h
   ·cases h;rw [Own] at o;obtain ⟨rfl,_⟩:=o;obtain ⟨t,rfl⟩:=r;exact ⟨_,.str z t⟩
   ·cases h
  | lst xs=>
   obtain ⟨Ds,e,rfl⟩:=jb4.mp h;have hh:∃ a ws d' f,v=.ref a/\H a=some (.lst ws)/\OwnL X.K H Z xs d' ws f:=by
    rw [Own] at o;obtain ⟨a,ws,ev,⟨_,hr,_,ol⟩ | ⟨_,f,ha,_,_,ol⟩⟩:=o
    ·exact ⟨a,ws,_,_,ev,hr.1,ol⟩
    ·exact ⟨a,ws,_,_,ev,ha,ol⟩
   obtain ⟨a,ws,d',f,rfl,ha,ol⟩:=hh;cases r;obtain ⟨its,rv,⟨ob,nn,e1,e2,e3,e4⟩,_⟩:=I.list (.inl (.inl ha));obtain ⟨as,ra⟩:=all xs d' ws f its Ds e ol rv;exact ⟨_,.list e1 e2 e4 ra⟩
  | tup xs=>
   obtain ⟨Ds,e,rfl⟩:=jb4.mp h;rw [Own] at o;obtain ⟨a,ws,rfl,ha,ol⟩:=o;cases r;obtain ⟨its,rv,⟨ob,e1,e2,nn,e4⟩,_⟩:=I.tuple (.inl (.inl ha));obtain ⟨as,ra⟩:=all xs _ ws fp its Ds e ol rv;exact ⟨_,.tuple e1 e2 e4 ra⟩
  | emp=>cases h
  | dko=>cases h
  | scr ns=>cases h
  | dct _=>cases h
  | exn _=>cases h
def Kf {K':Type} [DecidableEq K'] {prog:AF}{w:AB}{knd:KeyKind prog w K'}{P:AF}{w0:AB}{h:Heap}{a:Addr} (x:h.DictOf (DL P w0) a []):h.DictOf knd a []:=by
 obtain ⟨o,es,ep,h1,h2,h3,h4,h5,h6⟩:=x;generalize hes:es.toList=l at h5;cases h5;have e:es=#[]:=Array.toList_eq_nil_iff.mp hes;subst e;exact ⟨o,#[],ep,h1,h2,h3,by intro z hz;simp at hz,.nil,.nil⟩
def xV {pins:List (Addr×Obj)}{s:Aj} (I:L2.Inv X pins σ H s) {a b:Addr}{A:AZ} (ha:H a=some (.dK [])) (hb:H b=some (.dK [])) (hu:A.units < Cj):SeqAt.EqAt A s (.ref a) (.ref b) true:=by
 by_cases e:a=b
 ·subst e;exact LH _
 ·refine Rp e λ prog w E Q hq=>?_;obtain ⟨_,z1,vs,k1,d1⟩:=Ma I.hok ha;obtain ⟨_,z2,ws,k2,d2⟩:=Ma I.hok hb;cases k1;cases k2;exact PySem.W.keq_eq (knd:=DL prog w) (r:=true) z1 z2 (Kf d1) (Kf d2) hu (λ _=>.nil) (by simpa using hq)
def Kp {Z:Addr->Prop}{xs:List PV}{d:Nat}{v:V}{fp:List Addr}{K:Frag} (o:Own K H Z (.lst xs) d v fp):∃ a ws d' f,v=.ref a/\H a=some (.lst ws)/\OwnL K H Z xs d' ws f:=by
 rw [Own] at o;obtain ⟨a,ws,ev,⟨_,hr,_,ol⟩ | ⟨_,f,ha,_,_,ol⟩⟩:=o
 ·exact ⟨a,ws,_,_,ev,hr.1,ol⟩
 ·exact ⟨a,ws,_,_,ev,ha,ol⟩
def MY {n:Nat}{e:Nat->Bool} (h:∀ j,j < n->e j=true):(AI n).all e=true:=ja7.mpr λ j hj=>h j (jc7.mp hj)
theorem X6 {pins:List (Addr×Obj)}{s:Aj}{Z Z':Addr->Prop} (I:L2.Inv X pins σ H s):∀ (n:Nat) (x y:PV) (d e:Nat) (v w:V) (f1 f2:List Addr) (u u':Ae) (A:AZ),A.units + n < Cj->Fv n x y=true->Own X.K H Z x d v f1->Own X.K H Z' y e w f2->RelV v u->RelV w u'->SeqAt.EqAt A s u u' true
 | 0,_,_,_,_,_,_,_,_,_,_,_,_,h,_,_,_,_=>by cases h
 | n + 1,x,y,d,e,v,w,f1,f2,u,u',A,hu,h,o1,o2,r1,r2=>by
  have all:∀ (xs ys:List PV) (d e:Nat) (vs ws:List V) (f1 f2:List Addr) (us us':List Ae),Ew (Fv n) xs ys=true->OwnL X.K H Z xs d vs f1->OwnL X.K H Z' ys e ws f2->Vals vs us->Vals ws us'->us.length=us'.length/\∀ j (h1:j < us.length) (h2:j < us'.length),SeqAt.EqAt A.in1 s us[j] us'[j] true:=λ xs=>by
   induction xs with
   | nil=>
    intro ys d e vs ws f1 f2 us us' h o1 o2 r1 r2;cases ys with
    | cons _ _=>cases h
    | nil=>
     rw [OwnL] at o1 o2;obtain ⟨rfl,_⟩:=o1;obtain ⟨rfl,_⟩:=o2;cases r1;cases r2;exact ⟨rfl,λ j h1 _=>nomatch h1⟩
   | cons x xs ih=>
    intro ys d e vs ws f1 f2 us us' h o1 o2 r1 r2;cases ys with
    | nil=>cases h
    | cons y ys=>
     unfold Ew at h;rw [A9] at h;rw [OwnL] at o1 o2;obtain ⟨_,_,g1,g2,rfl,_,_,p1,p2⟩:=o1;obtain ⟨_,_,k1,k2,rfl,_,_,q1,q2⟩:=o2;cases r1 with
     | cons a1 a2=>
      cases r2 with
      | cons b1 b2=>
       have t:=ih ys d e _ _ g2 k2 _ _ h.2 p2 q2 a2 b2;refine ⟨congrArg (·+ 1) t.1,λ j h1 h2=>?_⟩;cases j with
       | zero=>exact X6 I n x y d e _ _ g1 k1 _ _ A.in1 (by have e:A.in1.units=A.units + 1:=rfl;omega) h.1 p1 q1 a1 b1
       | succ j=>exact t.2 j (HK h1) (HK h2)
  cases x with
  | non=>cases y <;> first | (cases h;done) | (rw [Own] at o1 o2;obtain ⟨rfl,_⟩:=o1;obtain ⟨rfl,_⟩:=o2;cases r1;cases r2;exact LH _)
  | bl b=>cases y <;> first | (cases h;done) | (rw [Own] at o1 o2;obtain ⟨rfl,_⟩:=o1;obtain ⟨rfl,_⟩:=o2;cases r1;cases r2;have e:=eq_of_beq (show (b == _)=true from h);subst e;exact LH _)
  | int i=>cases y <;> first | (cases h;done) | (rw [Own] at o1 o2;obtain ⟨rfl,_⟩:=o1;obtain ⟨rfl,_⟩:=o2;obtain ⟨t,rfl⟩:=r1;obtain ⟨t',rfl⟩:=r2;have e:=eq_of_beq (show (i == _)=true from h);subst e;have z:=SeqAt.EqAt.int_int (A:=A) (s:=s) i t i t';rwa [beq_self_eq_true] at z)
  | str i=>cases y <;> first | (cases h;done) | (rw [Own] at o1 o2;obtain ⟨rfl,_⟩:=o1;obtain ⟨rfl,_⟩:=o2;obtain ⟨t,rfl⟩:=r1;obtain ⟨t',rfl⟩:=r2;have e:=eq_of_beq (show (i == _)=true from h);subst e;have z:=SeqAt.EqAt.str_str (A:=A) (s:=s) i t i t';rwa [beq_self_eq_true] at z)
  | emp=>cases y <;> first | (cases h;done) | (rw [Own] at o1 o2;obtain ⟨_,a,rfl,ha⟩:=o1;obtain ⟨_,b,rfl,hb⟩:=o2;cases r1;cases r2;exact xV I ha hb (by omega))
  | dko=>cases h
  | lst xs=>
   cases y with
   | lst ys=>
    obtain ⟨a,ws,d',f,rfl,ha,ol⟩:=Kp o1;obtain ⟨b,ws',e',f',rfl,hb,ol'⟩:=Kp o2;cases r1;cases r2;obtain ⟨its,rv,p,_⟩:=I.list (.inl (.inl ha));obtain ⟨its',rv',p',_⟩:=I.list (.inl (.inl hb));have t:=all xs ys d' e' ws ws' f f' its its' h ol ol' rv rv';obtain ⟨ob,nn,e1,e2,e3,e4⟩:=p;obtain ⟨ob',nn',e1',e2',e3',e4'⟩:=p';by_cases e:a=b
    ·subst e;exact LH _
    ·refine Rp e ?_;have z:=SeqAt.RcAt.lists (A:=A) (s:=s) (l:=a) (b:=b) (items:=its.toArray) (items2:=its'.toArray) (e:=λ _=>true) ⟨ob,e1,e2,nn,e4⟩ ⟨ob',e1',e2',nn',e4'⟩ (by simpa using t.1) (by omega) (λ j h1 h2=>by simpa using t.2 j (by simpa using h1) (by simpa using h2));rwa [MY λ _ _=>rfl] at z
   | _=>cases h
  | tup xs=>
   cases y with
   | tup ys=>
    rw [Own] at o1 o2;obtain ⟨a,ws,rfl,ha,ol⟩:=o1;obtain ⟨b,ws',rfl,hb,ol'⟩:=o2;cases r1;cases r2;obtain ⟨its,rv,⟨ob,e1,e2,nn,e4⟩,_⟩:=I.tuple (.inl (.inl ha));obtain ⟨its',rv',⟨ob',e1',e2',nn',e4'⟩,_⟩:=I.tuple (.inl (.inl hb));have t:=all xs ys _ _ ws ws' _ _ its its' h ol ol' rv rv';by_cases e:a=b
    ·subst e;exact LH _
    ·refine Rp e ?_;have z:=SeqAt.RcAt.tuples (A:=A) (s:=s) (l:=a) (b:=b) (items:=its.toArray) (items2:=its'.toArray) (e:=λ _=>true) ⟨ob,e1,e2,nn,e4⟩ ⟨ob',e1',e2',nn',e4'⟩ (by omega) (λ j h1 h2=>by simpa using t.2 j (by simpa using h1) (by simpa using h2));have z2:((its.toArray.size == its'.toArray.size):Bool)=true:=by simpa using t.1
     rwa [MY λ _ _=>rfl,z2] at z
   | _=>cases h
  | scr ns=>cases y <;> cases h
  | dct _=>cases y <;> cases h
  | exn _=>cases y <;> cases h
theorem Y3 {pins:List (Addr×Obj)}{s:Aj}{Z Z':Addr->Prop} (I:L2.Inv X pins σ H s) {A:AZ} (hu:A.units + 64 < Cj):∀ (xs ys:List PV) (d e:Nat) (vs ws:List V) (f1 f2:List Addr) (us us':List Ae),Ew (Fv 20) xs ys=true->OwnL X.K H Z xs d vs f1->OwnL X.K H Z' ys e ws f2->Vals vs us->Vals ws us'->us.length=us'.length/\∀ j (h1:j < us.length) (h2:j < us'.length),SeqAt.EqAt A.in1 s us[j] us'[j] true:=λ xs=>by
 induction xs with
 | nil=>
  intro ys d e vs ws f1 f2 us us' h o1 o2 r1 r2;cases ys with
  | cons _ _=>cases h
  | nil=>
   rw [OwnL] at o1 o2;obtain ⟨rfl,_⟩:=o1;obtain ⟨rfl,_⟩:=o2;cases r1;cases r2;exact ⟨rfl,λ j h1 _=>nomatch h1⟩
 | cons x xs ih=>
  intro ys d e vs ws f1 f2 us us' h o1 o2 r1 r2;cases ys with
  | nil=>cases h
  | cons y ys=>
   unfold Ew at h;rw [A9] at h;rw [OwnL] at o1 o2;obtain ⟨_,_,g1,g2,rfl,_,_,p1,p2⟩:=o1;obtain ⟨_,_,k1,k2,rfl,_,_,q1,q2⟩:=o2;cases r1 with
   | cons a1 a2=>
    cases r2 with
    | cons b1 b2=>
     have t:=ih ys d e _ _ g2 k2 _ _ h.2 p2 q2 a2 b2;refine ⟨congrArg (·+ 1) t.1,λ j h1 h2=>?_⟩;cases j with
     | zero=>exact X6 I 20 x y d e _ _ g1 k1 _ _ A.in1 (by have e:A.in1.units=A.units + 1:=rfl;omega) h.1 p1 q1 a1 b1
     | succ j=>exact t.2 j (HK h1) (HK h2)
def Y4 {pins:List (Addr×Obj)}{s:Aj}{Z Z':Addr->Prop} (I:L2.Inv X pins σ H s) {xs ys:List PV}{d e:Nat}{v w:V}{f1 f2:List Addr}{u u':Ae}{A:AZ} (hu:A.units + 64 < Cj) (h:Ew (Fv 20) xs ys=true) (o1:Own X.K H Z (.lst xs) d v f1) (o2:Own X.K H Z' (.lst ys) e w f2) (r1:RelV v u) (r2:RelV w u'):SeqAt.RcAt A s u u' true/\NP A s u u' false:=by
 obtain ⟨a,ws,d',f,rfl,ha,ol⟩:=Kp o1;obtain ⟨b,ws',e',f',rfl,hb,ol'⟩:=Kp o2;cases r1;cases r2;obtain ⟨its,rv,⟨ob,nn,e1,e2,e3,e4⟩,_⟩:=I.list (.inl (.inl ha));obtain ⟨its',rv',⟨ob',nn',e1',e2',e3',e4'⟩,_⟩:=I.list (.inl (.inl hb));have t:=Y3 I hu xs ys d' e' ws ws' f f' its its' h ol ol' rv rv';have z:=SeqAt.RcAt.lists (A:=A) (s:=s) (l:=a) (b:=b) (items:=its.toArray) (items2:=its'.toArray) (e:=λ _=>true) ⟨ob,e1,e2,nn,e4⟩ ⟨ob',e1',e2',nn',e4'⟩ (by simpa using t.1) (by omega) (λ j h1 h2=>by simpa using t.2 j (by simpa using h1) (by simpa using h2));have z':=SeqAt.RcNeAt.lists (A:=A) (s:=s) (l:=a) (b:=b) (items:=its.toArray) (items2:=its'.toArray) (e:=λ _=>true) ⟨ob,e1,e2,nn,e4⟩ ⟨ob',e1',e2',nn',e4'⟩ (by simpa using t.1) (by omega) (λ j h1 h2=>by simpa using t.2 j (by simpa using h1) (by simpa using h2));rw [MY λ _ _=>rfl] at z z';exact ⟨z,z'⟩
def UU {pins:List (Addr×Obj)}{s:Aj}{Z Z':Addr->Prop} (I:L2.Inv X pins σ H s) {xs ys:List PV}{d e:Nat}{v w:V}{f1 f2:List Addr}{u u':Ae}{A:AZ} (hu:A.units + 64 < Cj) (h:Ew (Fv 20) xs ys=true) (o1:Own X.K H Z (.tup xs) d v f1) (o2:Own X.K H Z' (.tup ys) e w f2) (r1:RelV v u) (r2:RelV w u'):SeqAt.RcAt A s u u' true/\NP A s u u' false:=by
 rw [Own] at o1;rw [Own] at o2;obtain ⟨a,ws,rfl,ha,ol⟩:=o1;obtain ⟨b,ws',rfl,hb,ol'⟩:=o2;cases r1;cases r2;obtain ⟨its,rv,⟨ob,e1,e2,nn,e4⟩,_⟩:=I.tuple (.inl (.inl ha));obtain ⟨its',rv',⟨ob',e1',e2',nn',e4'⟩,_⟩:=I.tuple (.inl (.inl hb));have t:=Y3 I hu xs ys _ _ ws ws' _ _ its its' h ol ol' rv rv';have z:=SeqAt.RcAt.tuples (A:=A) (s:=s) (l:=a) (b:=b) (items:=its.toArray) (items2:=its'.toArray) (e:=λ _=>true) ⟨ob,e1,e2,nn,e4⟩ ⟨ob',e1',e2',nn',e4'⟩ (by omega) (λ j h1 h2=>by simpa using t.2 j (by simpa using h1) (by simpa using h2));have z':=SeqAt.RcNeAt.tuples (A:=A) (s:=s) (l:=a) (b:=b) (items:=its.toArray) (items2:=its'.toArray) (e:=λ _=>true) ⟨ob,e1,e2,nn,e4⟩ ⟨ob',e1',e2',nn',e4'⟩ (by omega) (λ j h1 h2=>by simpa using t.2 j (by simpa using h1) (by simpa using h2));have z2:((its.toArray.size == its'.toArray.size):Bool)=true:=by simpa using t.1
 rw [MY λ _ _=>rfl,z2] at z z';exact ⟨z,z'⟩
def WS {pins:List (Addr×Obj)}{s:Aj}{Z Z':Addr->Prop} (I:L2.Inv X pins σ H s) {xs ys:List PV}{d e:Nat}{v w:V}{f1 f2:List Addr}{u u':Ae}{A:AZ} (hu:A.units + 64 < Cj) (h:xs.length≠ys.length) (o1:Own X.K H Z (.lst xs) d v f1) (o2:Own X.K H Z' (.lst ys) e w f2) (r1:RelV v u) (r2:RelV w u'):SeqAt.RcAt A s u u' false/\NP A s u u' true:=by
 obtain ⟨a,ws,d',f,rfl,ha,ol⟩:=Kp o1;obtain ⟨b,ws',e',f',rfl,hb,ol'⟩:=Kp o2;cases r1;cases r2;obtain ⟨its,rv,⟨ob,nn,e1,e2,e3,e4⟩,_⟩:=I.list (.inl (.inl ha));obtain ⟨its',rv',⟨ob',nn',e1',e2',e3',e4'⟩,_⟩:=I.list (.inl (.inl hb));have hl:(its.toArray.size != its'.toArray.size)=true:=by
  have h1:=rv.length;have h2:=rv'.length;rw [ol.length] at h1;rw [ol'.length] at h2;simp only [C1,bne_iff_ne];omega
 exact ⟨SeqAt.RcAt.lists_lengths ⟨ob,e1,e2,nn,e4⟩ ⟨ob',e1',e2',nn',e4'⟩ hl (by omega),SeqAt.RcNeAt.lists_lengths ⟨ob,e1,e2,nn,e4⟩ ⟨ob',e1',e2',nn',e4'⟩ hl (by omega)⟩
def WI {pins:List (Addr×Obj)}{s:Aj}{Z Z':Addr->Prop} (I:L2.Inv X pins σ H s) {d e:Nat}{v w:V}{f1 f2:List Addr}{u u':Ae}{A:AZ} (hu:A.units < Cj) (o1:Own X.K H Z .emp d v f1) (o2:Own X.K H Z' .emp e w f2) (r1:RelV v u) (r2:RelV w u'):SeqAt.RcAt A s u u' true/\NP A s u u' false:=by
 rw [Own] at o1;rw [Own] at o2;obtain ⟨_,a,rfl,ha⟩:=o1;obtain ⟨_,b,rfl,hb⟩:=o2;cases r1;cases r2;obtain ⟨_,z1,vs,k1,d1⟩:=Ma I.hok ha;obtain ⟨_,z2,ws,k2,d2⟩:=Ma I.hok hb;cases k1;cases k2;exact ⟨λ prog w E Q hq=>PySem.W.keq_eq (knd:=DL prog w) (r:=true) z1 z2 (Kf d1) (Kf d2) hu (λ _=>.nil) (by simpa using hq),λ prog w E Q hq=>PySem.W.keq_ne (knd:=DL prog w) (r:=true) z1 z2 (Kf d1) (Kf d2) hu (λ _=>.nil) (by simpa using hq)⟩
def J2 (K:Frag) (neg:Bool):R2:=λ v w H Q=>∃ x y d e Z Z' f1 f2,Own K H Z x d v f1/\Own K H Z' y e w f2/\((∃ a b,BL 20 x=some a/\BL 20 y=some b/\Q (.bl (neg^^Cz a b)) H)\/(∃ xs ys,x=.lst xs/\y=.lst ys/\Ew (Fv 20) xs ys=true/\Q (.bl (neg^^true)) H)\/(∃ xs ys,x=.lst xs/\y=.lst ys/\xs.length≠ys.length/\Q (.bl (neg^^false)) H)\/(∃ a b,x=.str a/\y=.str b/\Q (.bl (neg^^(a == b))) H)\/(x=.emp/\y=.emp/\Q (.bl (neg^^true)) H)\/∃ xs ys,x=.tup xs/\y=.tup ys/\Ew (Fv 20) xs ys=true/\Q (.bl (neg^^true)) H)
def xU (hu:X.A.units + 64 < Cj):OpR X (Cy .Eq) (J2 X.K false):=by
 intro pins s σ H v w u u' Q I rx ry h;obtain ⟨x,y,d,e,Z,Z',f1,f2,o1,o2,⟨a,b,h1,h2,q⟩ | ⟨xs,ys,rfl,rfl,h,q⟩ | ⟨xs,ys,rfl,rfl,h,q⟩ | ⟨a,b,rfl,rfl,q⟩ | ⟨rfl,rfl,q⟩ | ⟨xs,ys,rfl,rfl,h,q⟩⟩:=h
 ·obtain ⟨as,ra⟩:=GI I 20 x d v f1 u a h1 o1 rx;obtain ⟨bs,rb⟩:=GI I 20 y e w f2 u' b h2 o2 ry;have l1:=EN 20 x a h1;have l2:=EN 20 y b h2;exact SeqAt.compareEq_reads ra rb l1.1 l2.1 (by have:=Pl a.depth b.depth;omega) ⟨.bl _,H,I,rfl,by simpa using q⟩
 ·exact (Y4 I hu h o1 o2 rx ry).1 _ _ _ _ ⟨.bl _,H,I,rfl,q⟩
 ·exact (WS I hu h o1 o2 rx ry).1 _ _ _ _ ⟨.bl _,H,I,rfl,q⟩
 ·rw [Own] at o1 o2;obtain ⟨rfl,_⟩:=o1;obtain ⟨rfl,_⟩:=o2;obtain ⟨t,rfl⟩:=rx;obtain ⟨t',rfl⟩:=ry;exact SeqAt.RcAt.str_str a t b t' _ _ _ _ ⟨.bl _,H,I,rfl,by simpa using q⟩
 ·exact (WI I (by omega) o1 o2 rx ry).1 _ _ _ _ ⟨.bl _,H,I,rfl,q⟩
 ·exact (UU I hu h o1 o2 rx ry).1 _ _ _ _ ⟨.bl _,H,I,rfl,q⟩
def zG (hu:X.A.units + 64 < Cj):OpR X (Cy .NotEq) (J2 X.K true):=by
 intro pins s σ H v w u u' Q I rx ry h;obtain ⟨x,y,d,e,Z,Z',f1,f2,o1,o2,⟨a,b,h1,h2,q⟩ | ⟨xs,ys,rfl,rfl,h,q⟩ | ⟨xs,ys,rfl,rfl,h,q⟩ | ⟨a,b,rfl,rfl,q⟩ | ⟨rfl,rfl,q⟩ | ⟨xs,ys,rfl,rfl,h,q⟩⟩:=h
 ·obtain ⟨as,ra⟩:=GI I 20 x d v f1 u a h1 o1 rx;obtain ⟨bs,rb⟩:=GI I 20 y e w f2 u' b h2 o2 ry;have l1:=EN 20 x a h1;have l2:=EN 20 y b h2;exact SeqAt.compareNe_reads ra rb l1.1 l2.1 (by have:=Pl a.depth b.depth;omega) ⟨.bl _,H,I,rfl,by simpa using q⟩
 ·exact (Y4 I hu h o1 o2 rx ry).2 _ _ _ _ ⟨.bl _,H,I,rfl,q⟩
 ·exact (WS I hu h o1 o2 rx ry).2 _ _ _ _ ⟨.bl _,H,I,rfl,q⟩
 ·rw [Own] at o1 o2;obtain ⟨rfl,_⟩:=o1;obtain ⟨rfl,_⟩:=o2;obtain ⟨t,rfl⟩:=rx;obtain ⟨t',rfl⟩:=ry;exact SeqAt.RcNeAt.str_str a t b t' _ _ _ _ ⟨.bl _,H,I,rfl,by simpa using q⟩
 ·exact (WI I (by omega) o1 o2 rx ry).2 _ _ _ _ ⟨.bl _,H,I,rfl,q⟩
 ·exact (UU I hu h o1 o2 rx ry).2 _ _ _ _ ⟨.bl _,H,I,rfl,q⟩
def XW {neg:Bool}{x y z:PV}{d e c:Nat}{v w:V}{fps:AX}{f1 f2 F:List Addr}{Z Z':Addr->Prop} (hK:M.K=X.K) (ho:Ap neg x d y e=some (z,c)) (o1:Own M.K H Z x d v f1) (o2:Own M.K H Z' y e w f2) (lf:BP M H fps vs F z c Q):J2 X.K neg v w H Q:=by
 rw [hK] at o1 o2;refine ⟨x,y,d,e,Z,Z',f1,f2,o1,o2,?_⟩;unfold Ap at ho;split at ho
 ·rename_i a b ea eb;cases ho;exact .inl ⟨a,b,ea,eb,DK lf⟩
 ·split at ho
  ·rename_i xs ys _;split at ho
   ·rename_i hc;cases ho;exact .inr (.inl ⟨xs,ys,rfl,rfl,hc,DK lf⟩)
   ·split at ho
    ·rename_i hc;cases ho;exact .inr (.inr (.inl ⟨xs,ys,rfl,rfl,hc,DK lf⟩))
    ·cases ho
  ·rename_i a b _;cases ho;exact .inr (.inr (.inr (.inl ⟨a,b,rfl,rfl,DK lf⟩)))
  ·cases ho;exact .inr (.inr (.inr (.inr (.inl ⟨rfl,rfl,DK lf⟩))))
  ·rename_i xs ys _;split at ho
   ·rename_i hc;cases ho;exact .inr (.inr (.inr (.inr (.inr ⟨xs,ys,rfl,rfl,hc,DK lf⟩))))
   ·cases ho
  ·cases ho
def isNon:PV->Bool
 | .non=>true
 | _=>false
def Gg (neg:Bool):PV->Nat->PV->Nat->Option (PV×Nat)
 | .bl a,_,.bl b,_=>some (.bl (neg^^(a == b)),om)
 | x,_,.non,_=>some (.bl (neg^^isNon x),om)
 | _,_,_,_=>none
def qq6:OpR X (Cy .Is) (λ x y H Q=>∃ i j,x=.bl i/\y=.bl j/\Q (.bl (i == j)) H):=by
 intro pins s σ H x y v u Q I rx ry h;obtain ⟨i,j,rfl,rfl,q⟩:=h;cases rx;cases ry;exact is_bool ⟨.bl _,H,I,rfl,q⟩
def qf2:OpR X (Cy .IsNot) (λ x y H Q=>∃ i j,x=.bl i/\y=.bl j/\Q (.bl (i != j)) H):=by
 intro pins s σ H x y v u Q I rx ry h;obtain ⟨i,j,rfl,rfl,q⟩:=h;cases rx;cases ry;exact isnot_bool ⟨.bl _,H,I,rfl,q⟩
theorem Own.isNon {K:Frag}{Z:Addr->Prop}{x:PV}{d:Nat}{v:V}{fp:List Addr} (o:Own K H Z x d v fp):decide (v=.non)=QQ.isNon x:=by
 cases x with
 | non=>rw [Own] at o;rw [o.1];rfl
 | bl b=>rw [Own] at o;rw [o.1];rfl
 | int b=>rw [Own] at o;rw [o.1];rfl
 | str b=>rw [Own] at o;rw [o.1];rfl
 | emp=>rw [Own] at o;obtain ⟨_,a,rfl,_⟩:=o;rfl
 | dko=>rw [Own] at o;obtain ⟨_,a,rfl,_⟩:=o;rfl
 | scr ns=>rw [Own] at o;obtain ⟨_,a,rfl,_⟩:=o;rfl
 | exn c=>rw [Own] at o;obtain ⟨_,a,_,rfl,_⟩:=o;rfl
 | dct kvs=>rw [Own] at o;obtain ⟨a,rfl,_⟩:=o;rfl
 | lst xs=>rw [Own] at o;obtain ⟨a,ws,rfl,_⟩:=o;rfl
 | tup xs=>rw [Own] at o;obtain ⟨a,ws,rfl,_⟩:=o;rfl
def WR {x y z:PV}{d e c:Nat}{v w:V}{fps:AX}{f1 f2 F:List Addr}{Z Z':Addr->Prop}{neg:Bool} (ho:Gg neg x d y e=some (z,c)) (o1:Own M.K H Z x d v f1) (o2:Own M.K H Z' y e w f2) (lf:BP M H fps vs F z c Q):(∃ i j,v=.bl i/\w=.bl j/\Q (.bl (neg^^(i == j))) H)\/(w=.non/\Q (.bl (neg^^decide (v=.non))) H):=by
 unfold Gg at ho;split at ho
 ·cases ho;rw [Own] at o1 o2;exact .inl ⟨_,_,o1.1,o2.1,DK lf⟩
 ·cases ho;rw [Own] at o2;rw [o1.isNon];exact .inr ⟨o2.1,DK lf⟩
 ·cases ho
def Ai:PV->Nat->PV->Nat->Option (PV×Nat)
 | .lst xs,_,.int i,_=>(BB xs i).map λ z=>(z,dv z)
 | .tup xs,_,.int i,_=>(BB xs i).map λ z=>(z,dv z)
 | .scr ns,_,.int i,_=>(BB ns i).map λ z=>(.int z,om)
 | .str z,_,.int i,_=>if z.length<=Aw then (BB z.cps.toList i).map λ c=>(.str ⟨#[c]⟩,om) else none
 | _,_,_,_=>none
theorem Sy {K:Frag}{Z:Addr->Prop}{xs:List PV}{ws:List V}{i:Int}{z:PV} (ol:OwnL K H Z xs 0 ws []) (e:BB xs i=some z):∃ w,BB ws i=some w/\Own K H Z z 0 w []:=by
 unfold BB at e ⊢;rw [ol.length];cases ej:CB xs.length i with
 | none=>rw [ej] at e;cases e
 | some j=>rw [ej] at e;exact ol.nth e
theorem W9 (hv:∀ i∈vs,M.Ms i=false) (hK:M.K=X.K) (hs:Nu b) (ha:PE X a (tE M f vs)) (hb:PE X b (tE M g vs')):PE X (.Subscript a b pos) (tE M (Ab Ai f g) (vs++vs')):=by
 refine BD (RN We ha hb hs) λ σ H Q h=>El hv (λ x d y e z c v w H fps f1 f2 Q ho o1 o2 dj nz zd lf=>?_) h;cases y with
 | int i=>
  rw [Own] at o2;cases x with
  | lst xs=>
   dsimp only [Ai] at ho;obtain ⟨z',ez,e2⟩:=jb4.mp ho;cases e2;obtain ⟨p,ws,rfl,hp,ol⟩:=(cold o1 λ a ha=>nz a (BG _ ha)).coldL;obtain ⟨w',e1,ow⟩:=Sy ol ez;exact .inl ⟨p,ws,i,w',rfl,o2.1,.inl (.inl hp),e1,JV lf ow⟩
  | tup xs=>
   dsimp only [Ai] at ho;obtain ⟨z',ez,e2⟩:=jb4.mp ho;cases e2;obtain ⟨p,ws,rfl,hp,ol⟩:=(cold o1 λ a ha=>nz a (BG _ ha)).coldT;obtain ⟨w',e1,ow⟩:=Sy ol ez;exact .inr (.inl ⟨p,ws,i,w',rfl,o2.1,.inl (.inl hp),e1,JV lf ow⟩)
  | scr ns=>
   dsimp only [Ai] at ho;obtain ⟨z',ez,e2⟩:=jb4.mp ho;cases e2;rw [Own] at o1;obtain ⟨_,p,rfl,hp⟩:=o1;refine .inl ⟨p,ns.map V.int,i,.int z',rfl,o2.1,?_,?_,EM lf⟩
   ·rw [<- hK];exact hp.elim (λ h=>.inl (.inr h)) .inr
   ·unfold BB at ez ⊢;rw [AD];cases ej:CB ns.length i with
    | none=>rw [ej] at ez;cases ez
    | some j=>
     rw [ej] at ez;show (ns.map V.int)[j]?=_;rw [CV]
     have:ns[j]?=some z':=ez
     rw [this];rfl
  | str z=>
   dsimp only [Ai] at ho;split at ho
   ·rename_i hl;obtain ⟨c',ez,e2⟩:=jb4.mp ho;cases e2;rw [Own] at o1;exact .inr (.inr ⟨z,i,c',o1.1,o2.1,hl,ez,XY lf⟩)
   ·cases ho
  | _=>cases ho
 | _=>cases x <;> cases ho
def HR:Option Fx->Ag->Rz (Option Int×Ag)
 | none,ρ=>.ok (none,ρ)
 | some f,ρ=>(f ρ).bind λ (x,_,ρ1)=>match x with
  | .int i=>.ok (some i,ρ1)
  | _=>.no
def BJ (xs:List PV) (lo hi:Option Int):List PV:=(xs.drop (HT.sIx xs.length 0 lo)).take (HT.sIx xs.length xs.length hi - HT.sIx xs.length 0 lo)
def Gf (x:PV) (lo hi:Option Int):Option (PV×Nat):=match x with
 | .lst xs=>some (.lst (BJ xs lo hi),d1 (BJ xs lo hi))
 | _=>none
def C3 (f:Fx) (lo hi:Option Fx):Fx:=λ ρ=>(f ρ).bind λ (x,_,ρ1)=>(HR lo ρ1).bind λ (l,ρ2)=>(HR hi ρ2).bind λ (u,ρ3)=>match Gf x l u with
 | some (z,c)=>.ok (z,c,ρ3)
 | none=>.no
def tO (M:Fm):Option (Fx×List Nat)->TO
 | none=>Xs
 | some (f,vs)=>VI (tE M f vs)
theorem Xu {o:Option (Fx×List Nat)}{ρ:Ag}{fps:AX}{R:Option Int->Hp->Prop} (rep:Rep M ρ σ H fps)
  (q:match HR (o.map (·.1)) ρ with
   | .ok (l,ρ')=>∀ H' fps',KD M H fps H' fps'->Agr M ρ ρ'->Rep M ρ' σ H' fps'->R l H'
   | .exc c=>∀ H' fps',KD M H fps H' fps'->M.W σ c H'
   | .no=>False):tO M o σ H R:=by
 cases o with
 | none=>exact q H fps KD.refl Agr.refl rep
 | some p=>
  obtain ⟨f,vs⟩:=p;refine ⟨ρ,fps,rep,?_⟩;dsimp only [YH,HR] at q;cases ef:f ρ with
  | no=>rw [ef] at q;exact q
  | exc c=>rw [ef] at q;exact q
  | ok p=>
   obtain ⟨x,d,ρ1⟩:=p;rw [ef] at q;intro v H1 fps1 f1 k1 g1 rep1 o1 t1;dsimp only [Rz.bind] at q;cases x with
   | int i=>rw [Own] at o1;exact ⟨i,o1.1,q H1 fps1 k1 g1 rep1⟩
   | _=>exact q.elim
theorem RT {lo hi:Option (Fx×List Nat)} (hv:∀ i∈vs,M.Ms i=false) (hK:M.K=X.K) {σ:St}{H:Hp}{Q:VK} (hq:tE M (C3 f (lo.map (·.1)) (hi.map (·.1))) vs σ H Q):Vn (LX X.K) (tE M f vs) (tO M lo) (tO M hi) σ H Q:=by
 obtain ⟨ρ,fps,rep,q⟩:=hq;refine ⟨ρ,fps,rep,?_⟩;unfold C3 at q;cases ef:f ρ with
 | no=>rw [ef] at q;exact q
 | exc c=>rw [ef] at q;exact q
 | ok p=>
  obtain ⟨x,d,ρ1⟩:=p;rw [ef] at q;intro v H1 fps1 f1 k1 g1 rep1 o1 t1;dsimp only [Rz.bind] at q;refine Xu rep1 ?_;cases el:HR (lo.map (·.1)) ρ1 with
  | no=>rw [el] at q;exact q
  | exc c=>rw [el] at q;exact λ H' fps' k=>q H' fps' (k1.trans k)
  | ok p2=>
   obtain ⟨l,ρ2⟩:=p2;rw [el] at q;intro H2 fps2 k2 g2 rep2;refine Xu rep2 ?_;dsimp only at q;cases eh:HR (hi.map (·.1)) ρ2 with
   | no=>rw [eh] at q;exact q
   | exc c=>rw [eh] at q;exact λ H' fps' k=>q H' fps' ((k1.trans k2).trans k)
   | ok p3=>
    obtain ⟨u,ρ3⟩:=p3;rw [eh] at q;intro H3 fps3 k3 g3 rep3;dsimp only at q;have kk:=k2.trans k3;have o3:=kk.stay rep1 hv o1 t1.ndj;have n3:∀ a∈f1,¬ Zf M fps3 a:=λ a ha z=>by
     rcases z with z | ⟨i,z⟩
     ·exact t1.ndj a ha (.inl z)
     ·rcases kk.sub i a z with z | z
      ·exact t1.ndj a ha (.inr ⟨i,z⟩)
      ·obtain ⟨xs,e⟩:=Own.lsts x d v f1 o1 a ha;rw [z] at e;cases e
    have back:∀ a,H3 a=none->H a=none:=λ a e=>by
     cases e':H a with
     | none=>rfl
     | some o=>exact absurd e ((k1.trans kk).dom a (by rw [e'];simp))
    cases eo:Gf x l u with
    | none=>rw [eo] at q;exact q.elim
    | some zc=>
     obtain ⟨z,c⟩:=zc;rw [eo] at q;have lf:BP M H3 fps3 vs f1 z c Q:=λ w H4 fp k4 o4 hfp=>q w H4 fps3 fp ((k1.trans kk).trans (KD.grow k4)) (g1.trans (g2.trans g3)) (rep3.grow k4) o4 ⟨λ a ha=>(hfp a ha).elim (t1.new a) (back a),λ a ha=>(hfp a ha).elim (n3 a) λ z=>rep3.nz z⟩;have c0:=cold o3 n3;unfold Gf at eo;cases x with
     | lst xs=>
      cases eo;obtain ⟨p,ws,rfl,hp,ol⟩:=c0.coldL;refine ⟨p,ws,rfl,.inl (.inl hp),λ q hq=>?_⟩;have e:OwnL M.K H3 (Zv M vs fps3) (BJ xs l u) 0 (Fe ws l u) []:=by
       unfold BJ Fe;rw [ol.length];exact (ol.drop _).take _
      exact JW lf e hq
     | _=>cases eo
def Lz:PV->String
 | .non => "NoneType"
 | .bl _ => "bool"
 | .int _ => "int"
 | .str _ => "str"
 | .lst _ => "list"
 | .tup _ => "tuple"
 | .emp => "dict"
 | .dko => "dict"
 | .dct _ => "dict"
 | _ => ""
def JK (t T:String):Bool:=t == T || (t == "bool" && T == "int")
def HM:List String:=["int","bool","str","list","tuple","dict"]
def Ft (T:String) (x:PV) (_:Nat):Option (PV×Nat):=match x with
 | .scr _=>none
 | .exn _=>none
 | _=>some (.bl (JK (Lz x) T),om)
theorem Own.ty {K:Frag}{Z:Addr->Prop}{x:PV}{d:Nat}{v:V}{fp:List Addr} (h:Own K H Z x d v fp) (hs:∀ ns,x≠.scr ns) (hx:∀ c,x≠.exn c):TyOf K H v (.type (Lz x)):=by
 cases x with
 | non=>rw [Own] at h;rw [h.1];exact .non
 | bl b=>rw [Own] at h;rw [h.1];exact .bl b
 | int i=>rw [Own] at h;rw [h.1];exact .int i
 | str s=>rw [Own] at h;rw [h.1];exact .str s
 | emp=>rw [Own] at h;obtain ⟨_,a,e,ha⟩:=h;rw [e];exact .dK ha
 | dko=>rw [Own] at h;obtain ⟨_,a,e,_,ha⟩:=h;rw [e];exact .dK ha
 | scr ns=>exact absurd rfl (hs ns)
 | exn c=>exact absurd rfl (hx c)
 | dct kvs=>
  rw [Own] at h;obtain ⟨a,e,⟨_,hr,_⟩ | ⟨_,ha,_⟩⟩:=h
  ·rw [e];exact .dT hr.1
  ·rw [e];exact .dT ha
 | lst xs=>
  rw [Own] at h;obtain ⟨a,ws,e,⟨_,hr,_,_⟩ | ⟨_,f,ha,_⟩⟩:=h
  ·rw [e];exact .lst hr.1
  ·rw [e];exact .lst ha
 | tup xs=>
  rw [Own] at h;obtain ⟨a,ws,e,hr,_⟩:=h;rw [e];exact .tup hr
end
section
variable {X:Cx}{M:Fm}{a b:Expr}{f g:Fx}{fa:Fa}{vs vs':List Nat}{pos p:Pos}{σ:St}{H:Hp}{Q:VK}{e:Expr}{es:List Expr}
def z9:PA X [] (tL M Ac []):=Wi FL λ σ H Q h=>zN h
def k9 (hv:∀ i∈vs,M.Ms i=false) (ha:PE X e (tE M f vs)) (hr:PA X es (tL M fa vs')) (hs:AH (e::es) X.env=(false,eval e X.env)::AH es X.env):PA X (e::es) (tL M (Ad f fa) (vs++vs')):=
 Wi (Et ha hr hs) λ σ H Q h=>kP hv h
def Ii {op:List (PV×Nat)->Option (PV×Nat)}{r:List V->Hp->VK->Prop}
  (leaf:∀ xs z c ws H fps fp Q,op xs=some (z,c)->Tmps M.K H (Zv M vs fps) xs ws fp->(∀ a∈fp,¬ Zf M fps a)->(∀ a,Zf M fps a->H a≠none)->BP M H fps vs fp z c Q->r ws H Q)
  {σ:St}{H:Hp}{Q:VK} (hq:tE M (Ak op fa) vs σ H Q):RA r (tL M fa vs) σ H Q:=Nd leaf hq
def AL (xs:List (PV×Nat)):Option (PV×Nat):=if xs.length<=Aw then some (.lst (xs.map (·.1)),if Du xs then om else 1) else none
def Bx (xs:List (PV×Nat)):Option (PV×Nat):=if xs.length<=Aw then some (.tup (xs.map (·.1)),if Du xs then om else 0) else none
def ji (h:PA X es (tL M fa vs)):PE X (.List es pos) (tE M (Ak AL fa) vs):=by
 refine BD (Wl h) λ σ H Q h=>Nd (r:=λ xs H1 Q=>xs.length<=Aw/\∀ p,H1 p=none->Q (.ref p) (Aq H1 p (.lst xs))) (λ xs z c ws H fps fp Q ho tm nz zd lf=>?_) h;unfold AL at ho;split at ho
 ·rename_i hl;refine ⟨by rw [tm.length];exact hl,λ q hq=>?_⟩;cases eo:Du xs with
  | true=>rw [eo] at ho;cases ho;exact U6 lf (tm.all (Lq eo)) hq
  | false=>rw [eo] at ho;cases ho;exact Na lf (tm.cold λ a ha z=>nz a ha z.zf) hq
 ·cases ho
def zH {x1:_} (h:PA X es (tL M fa vs)):PE X (.Tuple es x1 pos) (tE M (Ak Bx fa) vs):=by
 refine BD (Wz h) λ σ H Q h=>Nd (r:=λ xs H1 Q=>xs.length<=Aw/\∀ p,H1 p=none->Q (.ref p) (Aq H1 p (.tup xs))) (λ xs z c ws H fps fp Q ho tm nz zd lf=>?_) h;unfold Bx at ho;split at ho
 ·rename_i hl;refine ⟨by rw [tm.length];exact hl,λ q hq=>?_⟩;cases eo:Du xs with
  | true=>rw [eo] at ho;cases ho;exact y1 lf (tm.all (Lq eo)) hq
  | false=>rw [eo] at ho;cases ho;exact Qx lf (tm.cold λ a ha z=>nz a ha z.zf) hq
 ·cases ho
def Inv.big {pins:List (Addr×Obj)}{s:Aj} (I:L2.Inv X pins σ H s):Hb < s.heap.objs.size:=by
 have h:Eh < s.heap.objs.size:=(I.mod.glob.keeps I.bk).lt;exact M0 (by decide) h
def kg:PE X (.Dict [] [] pos) (λ _ H Q=>∀ p,H p=none->Q (.ref p) (Aq H p (.dK []))):=λ pins s σ H Q I h=>
 wpAny_Dict_empty ⟨.ref s.heap.objs.size,_,I.laid (a:=s.heap.objs.size) (o:=.dK []) (t':=s.toks) (λ _ _ q=>CM _ q) (Bj _) ⟨Gp _,beq_eq_false_iff_ne.mpr (Ca (Cn (Inv.big I))),[],.nil,Heap.DictOf.new s.heap⟩,rfl,h _ (I.hok.fresh (Bj _))⟩
def je:PE X (.Dict [] [] pos) (tE M (bC .emp) []):=by
 refine BD kg λ σ H Q h p hp=>?_;obtain ⟨ρ,fps,rep,q⟩:=h;refine q (.ref p) _ fps [] (KD.grow (E9 hp)) Agr.refl (rep.grow (E9 hp)) ?_ ⟨λ _ z=>(nomatch z),λ _ z=>nomatch z⟩;rw [Own];exact ⟨rfl,p,rfl,C8⟩
def vB:CallR X (.builtin "isinstance") (λ xs H Q=>∃ x t T k,xs=[x,.ty T]/\TyOf X.K H x t/\ER X.K t (.type T)=some k/\Q (.bl k) H):=by
 intro pins s σ H xs us Q I r h;obtain ⟨x,t,T,k,rfl,ty,hk,q⟩:=h;obtain ⟨u,w,rfl,r1,r2⟩:=Ml r;cases r2;exact yx I r1 ty hk λ tk=>⟨.bl k,H,I.tok _,rfl,q⟩
theorem xI (K:Frag) {T:String} (hT:T∈HM) (x:PV) (hs:∀ ns,x≠.scr ns) (hx:∀ c,x≠.exn c):ER K (.type (Lz x)) (.type T)=some (JK (Lz x) T):=by
 simp only [HM,jb2,KI,or_false] at hT;cases x with
 | scr ns=>exact absurd rfl (hs ns)
 | exn c=>exact absurd rfl (hx c)
 | _=>rcases hT with h | h | h | h | h | h <;> subst h <;> rfl
def jg {T:String}{x T':Str}{p1 p2:Pos} (hT:T∈HM) (hK:M.K=X.K) (ha:PE X e (tE M f vs)) (hg:Gl X "isinstance") (hm:X.mg "isinstance" = none) (hT':PE X (.Name T' p2) (tC (.ty T)))
  (hs1:AH [e,.Name T' p2] X.env=[(false,eval e X.env),(false,eval (.Name T' p2) X.env)]) (hs2:AH [Expr.Name T' p2] X.env=[(false,eval (.Name T' p2) X.env)]):
  PE X (.Call (.Name "isinstance" p1) [e,.Name T' p2] [] pos) (tE M (Ay (Ft T) f) vs):=by
 refine BD (Ih vB hg hm rfl (Et ha (Et hT' FL hs2) (by rw [hs1,hs2])) (he:=by rw [hs1,hs2]) (hpl:=by rw [hs2];rfl)) λ σ H Q h=>?_;refine Mj (r:=λ v H Q=>∃ x t T' k,[v,.ty T]=[x,.ty T']/\TyOf X.K H x t/\ER X.K t (.type T')=some k/\Q (.bl k) H) (λ x d z c v H fps f1 Q ho o1 nz zd lf=>?_) h;have hs:∀ ns,x≠.scr ns:=λ ns e=>by subst e;cases ho
 have hx:∀ c,x≠.exn c:=λ c e=>by subst e;cases ho
 have e2:z=.bl (JK (Lz x) T):=by
  cases x with
  | scr ns=>cases ho
  | exn c=>cases ho
  | _=>cases ho;rfl
 subst e2;exact ⟨v,_,T,_,rfl,by rw [<- hK];exact o1.ty hs hx,xI X.K hT x hs hx,DK lf⟩
def Cm:List (PV×Nat)->Option (PV×Nat)
 | [(.lst xs,_)]=>some (.int xs.length,om)
 | [(.tup xs,_)]=>some (.int xs.length,om)
 | [(.scr ns,_)]=>some (.int ns.length,om)
 | [(.str z,_)]=>if z.length<=Aw then some (.int z.length,om) else none
 | _=>none
def jh (hK:M.K=X.K) (hg:Gl X "len") (hm:X.mg "len" = none) (ha:PA X (e::es) (tL M fa vs)) (he:AH (e::es) X.env=(false,eval e X.env)::AH es X.env) (hpl:(Dk pos (AH es X.env)).any (·.1)=false):
  PE X (.Call (.Name "len" p) (e::es) [] pos) (tE M (Ak Cm fa) vs):=by
 refine BD (Ih (qaf.or uE) hg hm PySem.boot_len ha (he:=he) (hpl:=hpl)) λ σ H Q h=>Ii (λ xs z c ws H fps fp Q ho tm nz zd lf=>?_) h;unfold Cm at ho;split at ho
 ·rename_i xs d;cases ho;obtain ⟨v,r,f1,f2,rfl,_,_,o1,h2⟩:=tm;obtain ⟨rfl,_⟩:=h2;obtain ⟨q,us,rfl,hs,hl⟩:=o1.seqL;exact .inl ⟨q,us,rfl,.inl (by rw [<- hK];exact hs),by rw [hl];exact EM lf⟩
 ·rename_i xs d;cases ho;obtain ⟨v,r,f1,f2,rfl,_,_,o1,h2⟩:=tm;obtain ⟨rfl,_⟩:=h2;obtain ⟨q,us,rfl,hs,hl⟩:=o1.seqT;exact .inl ⟨q,us,rfl,.inr (by rw [<- hK];exact hs),by rw [hl];exact EM lf⟩
 ·rename_i ns d;cases ho;obtain ⟨v,r,f1,f2,rfl,_,_,o1,h2⟩:=tm;obtain ⟨rfl,_⟩:=h2;rw [Own] at o1;obtain ⟨_,q,rfl,hp⟩:=o1;refine .inl ⟨q,ns.map V.int,rfl,.inl ?_,by rw [AD];exact EM lf⟩;rw [<- hK];exact hp.elim (λ h=>.inl (.inr h)) .inr
 ·rename_i z d;split at ho
  ·rename_i hl;cases ho;obtain ⟨v,r,f1,f2,rfl,_,_,o1,h2⟩:=tm;obtain ⟨rfl,_⟩:=h2;rw [Own] at o1;obtain ⟨rfl,_⟩:=o1;exact .inr ⟨_,rfl,hl,EM lf⟩
  ·cases ho
 ·cases ho
def Pd (k:Int->Int->Int):List (PV×Nat)->Option (PV×Nat)
 | [(.int i,_),(.int j,_)]=>some (.int (k i j),om)
 | _=>none
def XX {k:Int->Int->Int}{xs:List (PV×Nat)}{z:PV}{c:Nat}{ws:List V}{fps:AX}{fp F:List Addr}{Z:Addr->Prop} (ho:Pd k xs=some (z,c)) (tm:Tmps M.K H Z xs ws fp) (lf:BP M H fps vs F z c Q):∃ i j,ws=[.int i,.int j]/\Q (.int (k i j)) H:=by
 unfold Pd at ho;split at ho
 ·rename_i i d j e;cases ho;obtain ⟨v,r,f1,f2,rfl,_,_,o1,h2⟩:=tm;obtain ⟨v2,r2,f3,f4,rfl,_,_,o2,h3⟩:=h2;obtain ⟨rfl,_⟩:=h3;rw [Own] at o1 o2;obtain ⟨rfl,_⟩:=o1;obtain ⟨rfl,_⟩:=o2;exact ⟨_,_,rfl,EM lf⟩
 ·cases ho
def GU:List (PV×Nat)->Option (PV×Nat)
 | [(.lst xs,_)]=>some (.tup xs,0)
 | [(.tup xs,_)]=>some (.tup xs,0)
 | _=>none
def Ef:List (PV×Nat)->Option (PV×Nat)
 | [(.lst xs,_)]=>some (.lst xs,d1 xs)
 | [(.tup xs,_)]=>some (.lst xs,d1 xs)
 | _=>none
def kH (hK:M.K=X.K) (hg:Gl X "tuple") (hm:X.mg "tuple" = none) (ha:PA X (e::es) (tL M fa vs)) (he:AH (e::es) X.env=(false,eval e X.env)::AH es X.env) (hpl:(Dk pos (AH es X.env)).any (·.1)=false):
  PE X (.Call (.Name "tuple" p) (e::es) [] pos) (tE M (Ak GU fa) vs):=by
 refine BD (QN qd hg hm rfl ha (he:=he) (hpl:=hpl)) λ σ H Q h=>Ii (λ xs z c ws H fps fp Q ho tm nz zd lf=>?_) h;unfold GU at ho;split at ho
 ·rename_i xs d;cases ho;obtain ⟨v,r,f1,f2,rfl,rfl,_,o1,h2⟩:=tm;obtain ⟨rfl,rfl⟩:=h2;obtain ⟨q,us,rfl,hs,ol⟩:=(cold (fp:=f1) o1 λ a ha=>nz a (BG _ ha)).coldL;exact ⟨q,us,rfl,.inl ⟨.inl (.inl hs),λ l hl=>Qx lf ol hl⟩⟩
 ·rename_i xs d;cases ho;obtain ⟨v,r,f1,f2,rfl,rfl,_,o1,h2⟩:=tm;obtain ⟨rfl,rfl⟩:=h2;have c0:=cold (fp:=f1) o1 λ a ha=>nz a (BG _ ha);obtain ⟨q,us,rfl,hs,ol⟩:=c0.coldT;exact ⟨q,us,rfl,.inr ⟨.inl (.inl hs),JV (x:=.tup xs) lf c0⟩⟩
 ·cases ho
def kC (hK:M.K=X.K) (hg:Gl X "list") (hm:X.mg "list" = none) (ha:PA X (e::es) (tL M fa vs)) (he:AH (e::es) X.env=(false,eval e X.env)::AH es X.env) (hpl:(Dk pos (AH es X.env)).any (·.1)=false):
  PE X (.Call (.Name "list" p) (e::es) [] pos) (tE M (Ak Ef fa) vs):=by
 refine BD (QN uF hg hm rfl ha (he:=he) (hpl:=hpl)) λ σ H Q h=>Ii (λ xs z c ws H fps fp Q ho tm nz zd lf=>?_) h;unfold Ef at ho;split at ho
 ·rename_i xs d;cases ho;obtain ⟨v,r,f1,f2,rfl,rfl,_,o1,h2⟩:=tm;obtain ⟨rfl,rfl⟩:=h2;obtain ⟨q,us,rfl,hs,ol⟩:=(cold (fp:=f1) o1 λ a ha=>nz a (BG _ ha)).coldL;exact ⟨q,us,rfl,.inl (.inl (.inl hs)),λ l hl=>JW lf ol hl⟩
 ·rename_i xs d;cases ho;obtain ⟨v,r,f1,f2,rfl,rfl,_,o1,h2⟩:=tm;obtain ⟨rfl,rfl⟩:=h2;obtain ⟨q,us,rfl,hs,ol⟩:=(cold (fp:=f1) o1 λ a ha=>nz a (BG _ ha)).coldT;exact ⟨q,us,rfl,.inr (.inl (.inl hs)),λ l hl=>JW lf ol hl⟩
 ·cases ho
end
section
variable {X:Cx}{M:Fm}{a b:Expr}{f g:Fx}{fa:Fa}{vs vs':List Nat}{pos p:Pos}{σ:St}{H:Hp}{Q:VK}{e:Expr}{es:List Expr}
def vA (hc:X.calm=true):CallR X (.builtin "all") (λ xs H Q=>∃ (p:Addr) (bs:List Bool),xs=[.ref p]/\Co X.K H p (bs.map V.bl)/\Q (.bl (bs.all id)) H):=by
 intro pins s σ H xs us Q I r h;obtain ⟨p,bs,rfl,hq,q⟩:=h;obtain ⟨u,rfl,rx⟩:=Fw r;cases rx;obtain ⟨its,rv,pl,hz⟩:=I.list hq;have hl:=rv.length;rw [AD] at hl;refine call_all_walk (wpAny_pyIter_list pl.isList ?_);have hlt:p < s.heap.objs.size:=by obtain ⟨o,n,e,_⟩:=pl;exact Bu e
 have hne:p≠s.heap.objs.size:=Cn hlt;refine ⟨s.heap.objs.size,_,_,its.toArray.size,_,_,λ i=>bs.getD i true,rfl,Walks.list (A:=X.A.in1) (show X.A.in1.handled=none from I.ok.hd hc) s.heap.objs.size p hne its.toArray,⟨⟨_,Dx _ rfl,rfl,rfl⟩,?_⟩,?_,λ h' tk k=>?_⟩
 ·exact pl.isList.at λ o e=>CM _ e
 ·intro i v s' Q' E' hv hq';have hv':its[i]?=some v:=by simpa using hv
  have hi:i < bs.length:=by rw [hl];exact (ja9.mp hv').1
  obtain ⟨w,e1,e2⟩:=rv.get (i:=i) (x:=.bl bs[i]) (by simp [hi]);rw [hv'] at e1;cases e1;cases e2;refine HE ?_
  have:bs.getD i true=bs[i]:=by simp [Tp,hi]
  dsimp only at hq';rw [this] at hq';exact hq'
 ·have I1:L2.Inv X pins σ H { s with heap:=s.heap.push { cls:=.type "list_iterator",data:=.fields #[.ref p,rawInt 0] } }:=I.kept (t':=s.toks) λ b o e=>CM _ e;obtain ⟨f0,f1,f2,f3,f4,f5⟩:=I.fpOk (H':=H) (Bj s.heap.objs.size) (I.hok.fresh (Bj _));have I2:L2.Inv X pins σ H { s with heap:=h',toks:=tk }:=I1.turned (t':=tk) (λ b o hb e=>k b o (by simpa using hb) e) f0 f1 f3 f4 f5;refine ⟨.bl _,H,I2,rfl,?_⟩;have e:(AI its.toArray.size).all (λ i=>bs.getD i true)=bs.all id:=by
   rw [C1,<- hl];rw [Gq];simp only [ja7,jc7,id];constructor
   ·intro h x hx;obtain ⟨i,hi,rfl⟩:=KQ hx
    have:=h i hi
    simpa [Tp,hi] using this
   ·intro h i hi;simp [Tp,hi];exact h _ (E2 hi)
  rw [e];exact q
def allB:List PV->Option (List Bool)
 | []=>some []
 | .bl b::r=>(allB r).map (b::·)
 | _=>none
def Ep:List (PV×Nat)->Option (PV×Nat)
 | [(.lst xs,_)]=>(allB xs).map λ bs=>(.bl (bs.all id),om)
 | _=>none
theorem X8 {K:Frag}{Z:Addr->Prop}:∀ {xs:List PV}{ws:List V}{bs:List Bool},allB xs=some bs->OwnL K H Z xs 0 ws []->ws=bs.map V.bl
 | [],ws,bs,e,h=>by cases e;rw [OwnL] at h;exact h.1
 | .bl b::r,ws,bs,e,h=>by
  obtain ⟨bs',e1,rfl⟩:=jb4.mp e;rw [OwnL] at h;obtain ⟨v,s,f1,f2,rfl,ef,dj,h1,h2⟩:=h;obtain ⟨rfl,rfl⟩:f1=[]/\f2=[]:=by simpa using ef.symm
  rw [Own] at h1;rw [h1.1,X8 e1 h2];rfl
 | .non::_,_,_,e,_=>by cases e
 | .int _::_,_,_,e,_=>by cases e
 | .str _::_,_,_,e,_=>by cases e
 | .lst _::_,_,_,e,_=>by cases e
 | .tup _::_,_,_,e,_=>by cases e
 | .emp::_,_,_,e,_=>by cases e
 | .dko::_,_,_,e,_=>by cases e
 | .scr _::_,_,_,e,_=>by cases e
 | .dct _::_,_,_,e,_=>by cases e
 | .exn _::_,_,_,e,_=>by cases e
def zB (hc:X.calm=true) (hg:Gl X "all") (hm:X.mg "all" = none) (ha:PA X (e::es) (tL M fa vs)) (he:AH (e::es) X.env=(false,eval e X.env)::AH es X.env) (hpl:(Dk pos (AH es X.env)).any (·.1)=false):
  PE X (.Call (.Name "all" p) (e::es) [] pos) (tE M (Ak Ep fa) vs):=by
 refine BD (Ih (vA hc) hg hm rfl ha (he:=he) (hpl:=hpl)) λ σ H Q h=>Ii (λ xs z c ws H fps fp Q ho tm nz zd lf=>?_) h;unfold Ep at ho;split at ho
 ·rename_i xs d;obtain ⟨bs,eb,e2⟩:=jb4.mp ho;cases e2;obtain ⟨v,r,f1,f2,rfl,rfl,_,o1,h2⟩:=tm;obtain ⟨rfl,rfl⟩:=h2;obtain ⟨q,us,rfl,hs,ol⟩:=(cold (fp:=f1) o1 λ a ha=>nz a (BG _ ha)).coldL
  have:=X8 eb ol
  subst this;exact ⟨q,bs,rfl,.inl (.inl hs),DK lf⟩
 ·cases ho
def Hn:List PV->Option (List Int)
 | []=>some []
 | .int i::r=>(Hn r).map (i::·)
 | _=>none
theorem Le {K:Frag}{Z:Addr->Prop}:∀ {xs:List PV}{ws:List V}{ns:List Int},Hn xs=some ns->OwnL K H Z xs 0 ws []->ws=ns.map V.int
 | [],ws,ns,e,h=>by cases e;rw [OwnL] at h;exact h.1
 | .int b::r,ws,ns,e,h=>by
  obtain ⟨ns',e1,rfl⟩:=jb4.mp e;rw [OwnL] at h;obtain ⟨v,s,f1,f2,rfl,ef,dj,h1,h2⟩:=h;obtain ⟨rfl,rfl⟩:f1=[]/\f2=[]:=by simpa using ef.symm
  rw [Own] at h1;rw [h1.1,Le e1 h2];rfl
 | .non::_,_,_,e,_=>by cases e
 | .bl _::_,_,_,e,_=>by cases e
 | .str _::_,_,_,e,_=>by cases e
 | .lst _::_,_,_,e,_=>by cases e
 | .tup _::_,_,_,e,_=>by cases e
 | .emp::_,_,_,e,_=>by cases e
 | .dko::_,_,_,e,_=>by cases e
 | .scr _::_,_,_,e,_=>by cases e
 | .dct _::_,_,_,e,_=>by cases e
 | .exn _::_,_,_,e,_=>by cases e
theorem Ng:∀ {ns:List Int}{its:List Ae},Vals (ns.map V.int) its->∃ xs:List (Int×Tok),its=xs.map (λ p=>Value.int p.1 p.2)/\xs.map (·.1)=ns
 | [],its,h=>by cases h;exact ⟨[],rfl,rfl⟩
 | n::ns,its,h=>by
  cases h with
  | cons r rr=>
   obtain ⟨t,rfl⟩:=r;obtain ⟨xs,rfl,rfl⟩:=Ng rr;exact ⟨(n,t)::xs,rfl,rfl⟩
def yu (hc:X.calm=true):CallR X (.builtin "min") (λ xs H Q=>∃ (p:Addr) (ns:List Int),xs=[.ref p]/\Co X.K H p (ns.map V.int)/\ns≠[]/\∀ m,m∈ns->(∀ a∈ns,m<=a)->Q (.int m) H):=by
 intro pins s σ H xs us Q I r h;obtain ⟨p,ns,rfl,hq,hn,q⟩:=h;obtain ⟨u,rfl,rx⟩:=Fw r;cases rx;obtain ⟨its,rv,pl,hz⟩:=I.list hq;obtain ⟨zs,rfl,rfl⟩:=Ng rv;have e:(zs.map λ p=>Value.int p.1 p.2).toArray=FY zs.toArray:=by simp [FY]
 rw [e] at pl;have h0:0 < zs.length:=by
  cases zs with
  | nil=>exact absurd rfl hn
  | cons _ _=>simp
 refine min_intList (I.ok.hd hc) pl.isList (by simpa using h0) λ v h' tk hv k=>?_;obtain ⟨l1,l2⟩:=argBest_lt (Dj zs.toArray) (zs.toArray.size - 1);have hv':=hv;obtain ⟨t,rfl⟩:=NL hv;have at':∀ j,j < zs.length->Dj zs.toArray j∈zs.map (·.1):=λ j hj=>by
  unfold Dj;simp [hj];exact ⟨_,E2 hj⟩
 refine ⟨.int _,H,I.kept (t':=tk) k,⟨t,rfl⟩,q _ (at' _ ?_) λ a ha=>?_⟩
 ·have:zs.toArray.size=zs.length:=by simp
  omega
 ·obtain ⟨z,hz,rfl⟩:=jd3.mp ha;obtain ⟨j,hj,rfl⟩:=KQ hz;have hzs:zs.toArray.size=zs.length:=by simp
  have:=l2 j (by omega)
  have e:Dj zs.toArray j=zs[j].1:=by unfold Dj;simp [hj]
  rw [e] at this;exact this
def uq {prog:AF}{w:AB}{A:AZ}{E:Ae->Aj->Prop}{s:Aj}{l:Addr}{xs:Array (Int×Tok)}{Q:Ae->Aj->Prop} (hh:A.handled=none) (hl:s.heap.IsTuple l (FY xs)) (hne:0 < xs.size)
  (h:∀ v h' tk,(FY xs)[argBest (λ i j=>decide (Dj xs i < Dj xs j)) (xs.size - 1)]?=some v->(∀ b o,s.heap.get? b=some o->h'.get? b=some o)->Q v { s with heap:=h',toks:=tk }):
  Av (Au prog w) A (call (.builtin "min") [.ref l]) Q E s:=by
 have hlt:l < s.heap.objs.size:=by obtain ⟨_,e,_⟩:=hl;exact Bu e
 refine call_min_walk (wpAny_pyIter_tuple hl ?_);refine ⟨_,[_,l],[_],_,_,_,_,rfl,Walks.tuple (A:=A.in1) hh _ l (Cn hlt) (FY xs),⟨⟨_,Dx _ rfl,rfl,rfl⟩,hl.push _⟩,λ c hc=>?_,by simpa [FY] using hne,CmpOf.ints_lt (Dj xs) (λ _ _=>NL),λ v h' tk hP hk=>?_⟩
 ·show c < (s.heap.push _).objs.size;rw [LG];rcases jb2.mp hc with rfl | hc
  ·exact IJ _
  ·rcases jb2.mp hc with rfl | hc
   ·exact JF hlt
   ·cases hc
 ·exact h v h' tk (by simpa [FY] using hP) λ c o e=>by
   refine hk c o (λ hm=>?_) (CM _ e);rcases jb2.mp hm with e1 | hm
   ·exact absurd (e1 ▸ Bu e) (FC _)
   ·cases hm
def yd (hc:X.calm=true):CallR X (.builtin "min") (λ xs H Q=>∃ (p:Addr) (ns:List Int),xs=[.ref p]/\Dq X.K H p (ns.map V.int)/\ns≠[]/\∀ m,m∈ns->(∀ a∈ns,m<=a)->Q (.int m) H):=by
 intro pins s σ H xs us Q I r h;obtain ⟨p,ns,rfl,hq,hn,q⟩:=h;obtain ⟨u,rfl,rx⟩:=Fw r;cases rx;obtain ⟨its,rv,pl,hz⟩:=I.tuple hq;obtain ⟨zs,rfl,rfl⟩:=Ng rv;have e:(zs.map λ p=>Value.int p.1 p.2).toArray=FY zs.toArray:=by simp [FY]
 rw [e] at pl;have h0:0 < zs.length:=by
  cases zs with
  | nil=>exact absurd rfl hn
  | cons _ _=>simp
 refine uq (I.ok.hd hc) pl (by simpa using h0) λ v h' tk hv k=>?_;obtain ⟨l1,l2⟩:=argBest_lt (Dj zs.toArray) (zs.toArray.size - 1);have hv':=hv;obtain ⟨t,rfl⟩:=NL hv;have at':∀ j,j < zs.length->Dj zs.toArray j∈zs.map (·.1):=λ j hj=>by
  unfold Dj;simp [hj];exact ⟨_,E2 hj⟩
 refine ⟨.int _,H,I.kept (t':=tk) k,⟨t,rfl⟩,q _ (at' _ ?_) λ a ha=>?_⟩
 ·have:zs.toArray.size=zs.length:=by simp
  omega
 ·obtain ⟨z,hz,rfl⟩:=jd3.mp ha;obtain ⟨j,hj,rfl⟩:=KQ hz;have hzs:zs.toArray.size=zs.length:=by simp
  have:=l2 j (by omega)
  have e:Dj zs.toArray j=zs[j].1:=by unfold Dj;simp [hj]
  rw [e] at this;exact this
def BX:Int->List Int->Int
 | n,[]=>n
 | n,m::r=>BX (if m < n then m else n) r
theorem Qz:∀ (r:List Int) (n:Int),BX n r∈n::r
 | [],n=>AR
 | m::r,n=>by
  unfold BX
  have:=Qz r (if m < n then m else n)
  rcases jb2.mp this with h | h
  ·rw [h];split
   ·exact AO _ AR
   ·exact AR
  ·exact AO _ (AO _ h)
theorem minI_le:∀ (r:List Int) (n:Int),∀ a∈n::r,BX n r<=a
 | [],n,a,h=>by
  have:a=n:=by simpa using h
  rw [this];exact Gn _
 | m::r,n,a,h=>by
  unfold BX;have ih:=minI_le r (if m < n then m else n);have h1:=ih _ AR;have h2:(if m < n then m else n)<=n/\(if m < n then m else n)<=m:=by split <;> omega
  rcases jb2.mp h with e | h
  ·rw [e];omega
  ·rcases jb2.mp h with e | h
   ·rw [e];omega
   ·exact ih a (AO _ h)
def Ur {ns:List Int}{m m':Int} (h1:m∈ns) (h2:∀ a∈ns,m<=a) (h3:m'∈ns) (h4:∀ a∈ns,m'<=a):m=m':=by
 have:=h2 m' h3
 have:=h4 m h1
 omega
def Es:List (PV×Nat)->Option (PV×Nat)
 | [(.lst xs,_)]=>match Hn xs with
  | some (n::r)=>some (.int (BX n r),om)
  | _=>none
 | [(.tup xs,_)]=>match Hn xs with
  | some (n::r)=>some (.int (BX n r),om)
  | _=>none
 | xs=>Pd (λ i j=>if j < i then j else i) xs
def kF (hc:X.calm=true) (hg:Gl X "min") (hm:X.mg "min" = none) (ha:PA X (e::es) (tL M fa vs)) (he:AH (e::es) X.env=(false,eval e X.env)::AH es X.env) (hpl:(Dk pos (AH es X.env)).any (·.1)=false):
  PE X (.Call (.Name "min" p) (e::es) [] pos) (tE M (Ak Es fa) vs):=by
 refine BD (Ih (((yt hc).or (yu hc)).or (yd hc)) hg hm rfl ha (he:=he) (hpl:=hpl)) λ σ H Q h=>Ii (λ xs z c ws H fps fp Q ho tm nz zd lf=>?_) h;unfold Es at ho;split at ho
 ·rename_i xs d;split at ho
  ·rename_i n r eb;cases ho;obtain ⟨v,r',f1,f2,rfl,rfl,_,o1,h2⟩:=tm;obtain ⟨rfl,rfl⟩:=h2;obtain ⟨q,us,rfl,hs,ol⟩:=(cold (fp:=f1) o1 λ a ha=>nz a (BG _ ha)).coldL
   have:=Le eb ol
   subst this;refine .inl (.inr ⟨q,n::r,rfl,.inl (.inl hs),by simp,λ m h1 h2=>?_⟩);rw [Ur h1 h2 (Qz r n) (minI_le r n)];exact EM lf
  ·cases ho
 ·rename_i xs d;split at ho
  ·rename_i n r eb;cases ho;obtain ⟨v,r',f1,f2,rfl,rfl,_,o1,h2⟩:=tm;obtain ⟨rfl,rfl⟩:=h2;obtain ⟨q,us,rfl,hs,ol⟩:=(cold (fp:=f1) o1 λ a ha=>nz a (BG _ ha)).coldT
   have:=Le eb ol
   subst this;refine .inr ⟨q,n::r,rfl,.inl (.inl hs),by simp,λ m h1 h2=>?_⟩;rw [Ur h1 h2 (Qz r n) (minI_le r n)];exact EM lf
  ·cases ho
 ·exact .inl (.inl (XX ho tm lf))
abbrev Fn:=List PV->Rz (PV×Nat×PV)
def Bh (K:Frag) (io:Bool) (n:Nat) (F:Fn):Sp:=λ ws H Q E=>ws.length=n/\∃ (xs:List PV) (Zo:Addr->Prop) (x0:PV) (v0:V) (fp0:List Addr),
 (∀ a,Zo a->H a≠none)/\(∀ a∈fp0,¬ Zo a)/\(io=false->fp0=[]/\OwnL K H Zo xs 0 ws []) /\
 (io=true->∃ xr wr,xs=x0::xr/\ws=v0::wr/\Own K H (λ _=>True) x0 om v0 fp0/\OwnL K H (λ a=>Zo a\/a∈fp0) xr 0 wr []) /\
 (match F xs with
  | .ok (y,d,z0)=>∀ v H' fp fp0',Dh (λ a=>a∈fp0) H H'->(∀ a,H a≠none->H' a≠none)->(∀ a∈fp0',a∈fp0\/H a=none)->(∀ a∈fp0',¬ Zo a)->(io=false->fp0'=[])->(io=true->Own K H' (λ _=>True) z0 om v0 fp0') ->
    Own K H' (λ a=>(Zo a\/a∈fp0')\/a∈fp) y d v fp->(∀ a∈fp,H a=none/\¬ (Zo a\/a∈fp0'))->Q v H'
  | .exc c=>∀ H',Dh (λ a=>a∈fp0) H H'->(∀ a,H a≠none->H' a≠none)->E (.int (c:Int) 0) none H'
  | .no=>False)
def Al (F:Fn) (fa:Fa):Fx:=λ ρ=>(fa ρ).bind λ (xs,ρ1)=>match F (xs.map (·.1)) with
 | .ok (y,d,_)=>.ok (y,d,ρ1)
 | .exc c=>.exc c
 | .no=>.no
theorem kN {F:Fn}{n:Nat} (hF:∀ xs,xs.length≠n->F xs=.no) {σ:St}{H:Hp}{Q:VK} (hq:tE M (Al F fa) vs σ H Q):Wn (Bh M.K false n F) M.W (tL M fa vs) σ H Q:=by
 obtain ⟨ρ,fps,rep,q⟩:=hq;refine ⟨ρ,fps,rep,?_⟩;unfold Al at q;cases ef:fa ρ with
 | no=>rw [ef] at q;exact q
 | exc c=>rw [ef] at q;exact q
 | ok p=>
  obtain ⟨xs,ρ1⟩:=p;rw [ef] at q;intro ws H1 fps1 f1 k1 g1 rep1 o1 t1;dsimp only [Rz.bind] at q;have back:∀ a,H1 a=none->H a=none:=λ a e=>by
   cases e':H a with
   | none=>rfl
   | some o=>exact absurd e (k1.dom a (by rw [e'];simp))
  show Bh M.K false n F ws H1 Q (Gz (M.W σ));have hlen:xs.length=n:=by
   by_cases e:xs.length=n
   ·exact e
   ·rw [hF (xs.map (·.1)) (by rw [AD];exact e)] at q;exact q.elim
  refine ⟨by rw [o1.length,hlen],xs.map (·.1),Zv M vs fps1,.non,.non,[],λ a z=>rep1.zdom z.zf,λ _ z=>(nomatch z),λ _=>⟨rfl,o1.cold λ a ha z=>t1.ndj a ha z.zf⟩,(λ h=>nomatch h),?_⟩;cases eF:F (xs.map (·.1)) with
  | no=>rw [eF] at q;exact q
  | exc c=>
   rw [eF] at q;exact λ H' kp _=>q H' fps1 (k1.trans (KD.grow λ a o h=>kp a o h λ z=>nomatch z))
  | ok r=>
   obtain ⟨y,d,z0⟩:=r;rw [eF] at q;intro v H' fp fp0' kp dm _ _ h0 _ oy hf;have e0:=h0 rfl;subst e0;have kk:∀ a o,H1 a=some o->H' a=some o:=λ a o h=>kp a o h λ z=>nomatch z
   refine q v H' fps1 fp (k1.trans (KD.grow kk)) g1 (rep1.grow kk) (oy.weak λ a h=>h.elim (λ h=>.inl (.inl h)) .inr) ⟨λ a ha=>back a (hf a ha).1,λ a ha=>rep1.nz (hf a ha).1⟩
end
def Jz (neg:Bool):R2:=λ v w H Q=>∃ y x,v=.str y/\w=.str x/\Q (.bl (neg^^Txt.contains x y)) H
def zg {X:Cx}:OpR X (Cy .In) (Jz false):=by
 intro pins s σ H x y v u Q I rx ry h;obtain ⟨b,a,rfl,rfl,q⟩:=h;obtain ⟨t,rfl⟩:=rx;obtain ⟨t',rfl⟩:=ry;exact SB.contains ⟨.bl _,H,I,rfl,by simpa using q⟩
def yR {X:Cx}:OpR X (Cy .NotIn) (Jz true):=by
 intro pins s σ H x y v u Q I rx ry h;obtain ⟨b,a,rfl,rfl,q⟩:=h;obtain ⟨t,rfl⟩:=rx;obtain ⟨t',rfl⟩:=ry;exact SB.notContains ⟨.bl _,H,I,rfl,by simpa using q⟩
def jy {v:PV}{u:Ae} (h:PD v u=true):∃ w:V,RelV w u/\∀ K H Z,Own K H Z v om w []:=by
 unfold PD at h;split at h
 ·rename_i z z' t
  have:=eq_of_beq h
  subst this;exact ⟨.str z,⟨t,rfl⟩,λ K H Z=>by rw [Own];exact ⟨rfl,rfl⟩⟩
 ·rename_i z z' t
  have:=eq_of_beq h
  subst this;exact ⟨.int z,⟨t,rfl⟩,λ K H Z=>by rw [Own];exact ⟨rfl,rfl⟩⟩
 ·cases h
def VZ {p:Str->Bool}{n:Nat} (h:XN.findIdx? p=some n):n < 50:=by
 have:=(je3.mp h).1
 exact M0 this (by decide)
section
variable {prog:AF}{w:AB}{A:AZ}{E:Ae->Aj->Prop}{s:Aj}
structure ZApart (zz ti to p1 p2 q1 q2:Addr):Prop where
 ne1:ti≠zz
 ne2:to≠zz
 ne3:p1≠zz
 ne4:p2≠zz
 ne5:ti≠to
 ne6:ti≠p1
 ne7:ti≠p2
 ne8:to≠p1
 ne9:to≠p2
 nea:p1≠p2
 neb:q1≠zz
 nec:q1≠to
 ned:q1≠p1
 nee:q1≠p2
 nef:q2≠zz
 neg:q2≠to
 neh:q2≠p1
 nei:q2≠p2
section
variable {zz ti to p1 p2 q1 q2:Addr}{n1 n2:Nat}{us vs:Array Ae}{u v a b:Ae}
end
end
section
variable {X:Cx}{pins:List (Addr×Obj)}{σ:St}{H:Hp}{s:Aj}{h':Heap}
def Vd {fp:List Addr}{t':Nat} (I:Inv X pins σ H s) (k:∀ b u,b∉fp->s.heap.get? b=some u->h'.get? b=some u) (hf:∀ b∈fp,CC X pins H b):Inv X pins σ H { s with heap:=h',toks:=t' }:=by
 have nfp:∀ b u,H b=some u->b∉fp:=λ b u e z=>by rw [(hf b z).1] at e;cases e
 refine I.step (g':=s.gens) (d':=s.drawn) (ch:=fp) (λ b hb=>?_) (λ b u _ _ hc e _=>k b u hc e) (λ b u _ _ hc e _=>⟨u.slots,k b u hc e⟩) (λ _ _ _ _ n=>n) (λ b u hc e=>⟨u,k b u hc e⟩) (λ _ _ e=>e) (λ _ _ _ e=>e) (λ b ps e=>⟨#[],by rw [e];simp⟩) (λ m hm=>?_) (λ b u e=>?_) I.bare
 ·obtain ⟨_,f1,_,f3,f4,f5⟩:=hf b hb;exact ⟨f3,f1,f4,f5⟩
 ·obtain ⟨u,es,ep,ho,r⟩:=hm;exact ⟨u,es,ep,k _ u (λ z=>(hf _ z).2.1 rfl) ho,r⟩
 ·refine (I.hok b u e).stay (λ c v hc q=>k c v ?_ q) (λ _ q=>q) λ _ _ q=>q;rcases hc with z | z
  ·rw [z];exact nfp b u e
  ·exact nfp c _ z
end
def Ia (K:Frag) (a:Addr) (n:Nat):It:=
 ⟨λ i H=>i < n/\∃ xs x,Co K H a xs/\xs[n - 1 - i]?=some x,λ i H x H'=>H'=H/\∀ xs,Co K H a xs->xs[n - 1 - i]?=some x,λ i _=>n<=i⟩
def wM {P:AF}{w:AB}{K:Frag}{tg:Expr} (a it:Addr) (n:Nat):Turn P w K tg (Ia K a n) [it] it (λ i h=>i<=n/\h.IsRevIter it a ((n:Int) - 1 - (i:Int))) where
 mem:=by simp
 obj:=λ i h st b hb=>by
  have e:b=it:=by simpa using hb
  subst e;obtain ⟨_,o,e,c,d⟩:=st;exact ⟨o,e,λ v z=>by rw [d] at z;cases z⟩
 keep:=λ i h h' st k=>⟨st.1,st.2.at λ o e=>k it (by simp) o e⟩
 item:=by
  intro X hP hw hK hc i pins s σ H E I hf st hg;subst hP hw hK;obtain ⟨hn,xs,x,hq,hx⟩:=hg;obtain ⟨its,rv,p,hz⟩:=I.list hq;obtain ⟨u,hu,ru⟩:=rv.get hx;have st2:=st.2;rw [show (n:Int) - 1 - (i:Int)=((n - 1 - i:Nat):Int) by omega] at st2;refine wpAny_pyNext_rev_item st2 p.isList (x:=u) (by simpa using hu) λ h' st' sb=>?_;have I1:Inv X pins σ H { s with heap:=h' }:=Vd (t':=s.toks) I (λ b o hb e=>(sb.2 b (λ z=>hb (by simp [z]))).trans e) hf;obtain ⟨o,e,c,d⟩:=id st';refine ⟨u,rfl,Me (s:={ s with heap:=h' }) e c d (by decide) ⟨x,H,I1,ru,⟨rfl,λ ys hy=>by rw [I.list_inj hy hq];exact hx⟩,⟨by omega,?_⟩,λ b hb=>(hf b hb).1⟩⟩;rw [show (n:Int) - 1 - ((i + 1:Nat):Int)=((n - 1 - i:Nat):Int) - 1 by omega];exact st'
 done:=by
  intro X hP hw hK hc i pins s σ H E I hf st hg;subst hP hw hK;have hn:n<=i:=hg;have st2:=st.2;rw [show (n:Int) - 1 - (i:Int)=-1 by have:=st.1;omega] at st2;exact wpAny_pyNext_rev_end (I.ok.hd hc) st2 λ h' eb=>⟨rfl,Vd (t':=s.toks) I (λ b o hb e=>eb b o (λ z=>hb (by simp [z])) e) hf⟩
 self:=λ _ _ _ _ _ st h=>wpAny_pyIter_revIter st.2 h
section
variable {X:Cx}{tg:Expr}
def TQ (K:Frag) (ta:TA):TI:=λ σ H R=>ta σ H λ vs H1=>∃ a xs,vs=[.ref a]/\Co K H1 a xs/\R (Ia K a xs.length) H1
theorem zm {a:Expr}{ta:TA}{p pos:Pos} (hg:Gl X "reversed") (hm:X.mg "reversed" = none) (ha:PA X [a] ta) (hs:AH [a] X.env=[(false,eval a X.env)]):PI X tg (.Call (.Name "reversed" p) [a] [] pos) (TQ X.K ta):=by
 intro pins s σ H R I h;refine Call_ (Kj I hg hm boot_reversed (Oa (AG (ha pos pins s σ H _ I h) λ us s1 ⟨vs,H1,I1,r1,q1⟩=>?_) hs rfl));obtain ⟨b,xs,e,hq,q⟩:=q1;subst e;cases r1 with
 | cons r rr=>
  cases rr;cases r;obtain ⟨its,rv,pl,hz⟩:=I1.list hq;have hl:=rv.length;refine call_reversed_list pl.isList ?_;have hT:(s1.heap.push (revObj b ((its.toArray.size:Int) - 1))).IsRevIter s1.heap.objs.size b ((its.toArray.size:Int) - 1):=⟨_,Dx _ rfl,rfl,rfl⟩
  refine wpAny_pyIter_revIter (s:={ s1 with heap:=s1.heap.push (revObj b ((its.toArray.size:Int) - 1)) }) hT ?_;refine ⟨s1.heap.objs.size,[s1.heap.objs.size],_,_,H1,rfl,I1.kept (t':=s1.toks) λ b o e=>CM _ e,wM b _ xs.length,⟨Gp _,?_⟩,λ c hc=>?_,q⟩
  ·rw [show (xs.length:Int) - 1 - ((0:Nat):Int)=(its.toArray.size:Int) - 1 by simp;omega];exact hT
  ·have e:c=s1.heap.objs.size:=by simpa using hc
   subst e;exact I1.fpOk (Bj _) (I1.hok.fresh (Bj _))
end
inductive Vw where
 | rev
def Ik:Vw->List PV->Option (List PV)
 | .rev,[.lst xs]=>some xs.reverse
 | _,_=>none
def VL (v:Vw) (K:Frag) (ws:List V) (H:Hp) (R:It->Hp->Prop):Prop:=match v with
 | .rev=>∃ a xs,ws=[.ref a]/\Co K H a xs/\R (Ia K a xs.length) H
def TN (v:Vw) (K:Frag) (ta:TA):TI:=λ σ H R=>ta σ H λ ws H1=>VL v K ws H1 R
def Xf {K:Frag}{H:Hp}{Z:Addr->Prop}{xs:List PV}{v:V} (o:Own K H Z (.lst xs) 0 v []):∃ a ws,v=.ref a/\Co K H a ws/\OwnL K H Z xs 0 ws []:=by
 rw [Own] at o;obtain ⟨b,ws,e,⟨_,hr,_,ol⟩ | ⟨h,_⟩⟩:=o
 ·exact ⟨b,ws,e,.inl (.inl hr.1),ol⟩
 ·exact absurd rfl h
def OwnL.one {K:Frag}{H:Hp}{Z:Addr->Prop}{x:PV}{ws:List V} (o:OwnL K H Z [x] 0 ws []):∃ v,ws=[v]/\Own K H Z x 0 v []:=by
 rw [OwnL] at o;obtain ⟨v,r,f1,f2,rfl,ef,_,o1,o2⟩:=o;obtain ⟨rfl,rfl⟩:f1=[]/\f2=[]:=by simpa using ef.symm
 rw [OwnL] at o2;exact ⟨v,by rw [o2.1],o1⟩
theorem OwnL.mono0 {K:Frag}{H H':Hp}{Z Z':Addr->Prop} (h:∀ x v,Own K H Z x 0 v []->Own K H' Z' x 0 v []):∀ {xs:List PV}{ws:List V},OwnL K H Z xs 0 ws []->OwnL K H' Z' xs 0 ws []
 | [],ws,o=>by rw [OwnL] at o ⊢;exact o
 | x::xs,ws,o=>by
  rw [OwnL] at o;obtain ⟨u,r,f1,f2,rfl,ef,_,o1,o2⟩:=o;obtain ⟨rfl,rfl⟩:f1=[]/\f2=[]:=by simpa using ef.symm
  rw [OwnL];exact ⟨u,r,[],[],rfl,rfl,(λ _ z=>nomatch z),h _ _ o1,OwnL.mono0 h o2⟩
def VM {v:Vw}{ps els:List PV}{ws:List V}{K:Frag}{H:Hp}{Z:Addr->Prop} (he:Ik v ps=some els) (o:OwnL K H Z ps 0 ws []):∃ J,(∀ R:It->Hp->Prop,R J H->VL v K ws H R)/\∀ H Z,OwnL K H Z ps 0 ws []->∀ i,(i < els.length->J.go i H)/\(els.length<=i->J.stop i H) /\
  (i < els.length->∀ x H',J.yld i H x H'->(∀ a o,H a=some o->H' a=some o)/\∃ y,els[i]?=some y/\Own K H' Z y 0 x []):=by
 unfold Ik at he;split at he
 ·rename_i xs;cases he;obtain ⟨v,rfl,o1⟩:=o.one;obtain ⟨a,us,rfl,sq,ol⟩:=Xf o1;refine ⟨Ia K a us.length,λ R r=>⟨a,us,rfl,sq,r⟩,λ H' Z' o' i=>?_⟩;obtain ⟨v',e,o1'⟩:=o'.one;cases e;obtain ⟨a',us',e,sq',ol'⟩:=Xf o1';cases e;have hl:=ol.length;have hl':=ol'.length;rw [MB];refine ⟨λ h=>⟨by omega,us',us'[us.length - 1 - i]'(by omega),sq',by simp⟩,λ h=>?_,λ h x H2 y=>?_⟩
  ·show us.length<=i;omega
  ·obtain ⟨rfl,e2⟩:=y;refine ⟨λ _ _ h=>h,?_⟩;obtain ⟨z,ez,oz⟩:=ol'.get (e2 us' sq');refine ⟨z,?_,oz⟩;rw [List.getElem?_reverse (by omega),<- ez,hl]
 ·cases he
section
variable {is:List Nat}{M:Fm}{ρ ρ':Ag}{σ σ':St}{H H' H'':Hp}{fps fps' fps'':AX}{vs vs':List Nat}
def K2 (v:Vw) (fa:Fa) (vs:List Nat) (asg:PV->Ag->Option Ag) (body:Fs):Fs:=λ ρ=>match fa ρ with
 | .ok (xs,ρ1)=>(match Ik v (xs.map (·.1)) with
  | some els=>Cg asg body els (Bi (if Du xs=true then om else 0) vs ρ1)
  | none=>.no)
 | .exc c=>.exc c
 | .no=>.no
def Jf (v:Vw) (fa:Fa) (k:Nat) (asg:PV->Ag->Option Ag) (test:Fb) (elt:Fx):Fx:=λ ρ=>match fa ρ with
 | .ok (xs,ρ1)=>(match Ik v (xs.map (·.1)) with
  | some els=>(CI k asg test elt els ρ1 []).bindN λ (acc,ρ2)=>C7 acc ρ2
  | none=>.no)
 | .exc c=>.exc c
 | .no=>.no
theorem Rep.seens {xs:List (PV×Nat)}{ws:List V}{fp:List Addr} (rep:Rep M ρ σ H fps) (k:KD M H fps H' fps') (g:Agr M ρ ρ') (r':Rep M ρ' σ H' fps') (o:Tmps M.K H' (Zv M vs fps') xs ws fp) (t:Temp M vs H H' fps' fp)
  (hal:∀ i,M.al i=[]) (hv:∀ i∈vs,M.Ms i=false):∃ fps2,KS M H fps H' fps2/\Rep M (Bi (if Du xs=true then om else 0) vs ρ') σ H' fps2/\OwnL M.K H' (Zf M fps2) (xs.map (·.1)) 0 ws []:=by
 unfold Bi;cases ho:Du xs with
 | true=>
  rw [if_pos rfl,if_pos rfl];refine ⟨fps',k.ks,r',?_⟩;exact OwnL.freeze (λ _ z=>z) _ om ws fp (λ a ha=>t.ndj a ha) (OwnL.full _ ws fp (o.all (Lq ho)))
 | false=>
  rw [if_neg CF,if_neg (by decide)];exact ⟨En vs fps',k.ks.cool,r'.cool hal hv,(o.cold λ a ha z=>t.ndj a ha z.zf).weak λ a h=>Il h⟩
theorem Xz {v:Vw}{g:TG}{asg:PV->Ag->Option Ag}{body:Fs}{fa:Fa}{D:Ends} (hal:∀ i,M.al i=[]) (hv:∀ i∈vs,M.Ms i=false) (hg:DZ M [] is g asg) (hq:tS M (K2 v fa vs asg body) D σ H):Gb (TN v M.K (tL M fa vs)) g (tS M body) D σ H:=by
 obtain ⟨ρ,fps,rep,q⟩:=hq;refine ⟨ρ,fps,rep,?_⟩;unfold K2 at q;cases ef:fa ρ with
 | no=>rw [ef] at q;exact q
 | exc c=>rw [ef] at q;exact λ H' fps' k=>q _ H' fps' k.ks
 | ok p=>
  obtain ⟨xs,ρ1⟩:=p;rw [ef] at q;intro ws H1 fps1 f1 k1 g1 rep1 o1 t1;dsimp only at q;cases ee:Ik v (xs.map (·.1)) with
  | none=>rw [ee] at q;exact q.elim
  | some els=>
   rw [ee] at q;obtain ⟨fps2,k2,r2,o2⟩:=Rep.seens rep k1 g1 rep1 o1 t1 hal hv;obtain ⟨J,hpre,hJ⟩:=VM ee o2;refine hpre _ ?_;exact Lp (Pq:=λ H fps=>OwnL M.K H (Zf M fps) (xs.map λ (p:PV×Nat)=>p.1) 0 ws []) (els:=els) hg (λ r k o=>o.mono0 λ x v h=>k.stay0 r h) (λ {H fps i} o h=>(hJ H _ o i).1 h) (λ {H fps i} o h=>(hJ H _ o i).2.1 h) (λ {ρ σ H fps i x H'} _ o h y=>(hJ H _ o i).2.2 h x H' y) r2 o2 (RsOk.from k2 q)
theorem wI {v:Vw}{g:TG}{is vI vE vo:List Nat}{asg:PV->Ag->Option Ag}{test:Fb}{elt:Fx}{fa:Fa}{k n:Nat}{Q:VK}{P:Fm->Prop}
  (hn:σ.length=n) (hP:∀ D,P (M.comp D n vI)) (hal:∀ i,∀ j∈M.al i,M.Ms j=false) (hvI:∀ i∈vI,M.Ms i=false) (hvE:∀ i∈vE,M.Ms i=false) (his:∀ i∈is,n<=i) (hg:∀ D,DZ (M.comp D n vI) vI is g asg)
  (hvo:∀ i,i∈vE->i < n->i∈vo) (hvo2:∀ i∈vo,M.Ms i=false) (hq:tE M (Jf v fa k asg test elt) vo σ H Q):
  J7 k (TN v M.K (tL M fa vI)) g (λ σ H Q=>∃ M',P M'/\tT M' test σ H Q) (λ σ H Q=>∃ M',P M'/\tE M' elt vE σ H Q) σ H Q:=by
 obtain ⟨ρ,fps,rep,q⟩:=hq;refine ⟨ρ,fps,rep,?_⟩;unfold Jf at q;cases ef:fa ρ with
 | no=>rw [ef] at q;exact q
 | exc c=>rw [ef] at q;exact q
 | ok p=>
  obtain ⟨xs,ρ1⟩:=p;rw [ef] at q;intro ws H1 fps1 f1 k1 g1 rep1 o1 t1;dsimp only at q;cases ee:Ik v (xs.map (·.1)) with
  | none=>rw [ee] at q;exact q.elim
  | some els=>
   rw [ee] at q;have hl:n=ρ1.length:=by rw [rep1.len];exact hn.symm
   have o0:OwnL M.K H1 (Zv M vI fps1) (xs.map (·.1)) 0 ws []:=o1.cold λ a ha z=>t1.ndj a ha z.zf;obtain ⟨J,hpre,hJ⟩:=VM ee o0;refine hpre _ ?_;have stay:∀ {D H' fps'},H1 D=none->KD M H1 fps1 H' fps'->OwnL M.K H' (Zv (M.plus [D]) vI fps') (xs.map (·.1)) 0 ws []:=λ hD k'=>o0.mono0 λ x v h=>KD.seen rep1 k' hD hvI h;refine Lg (els:=els) hP hl hal hvI hvE his hg hvo hvo2 rep1 (λ {D H' fps' i} hD k' h=>(hJ H' _ (stay hD k') i).1 h) (λ {D H' fps' i} hD k' h=>(hJ H' _ (stay hD k') i).2.1 h) (λ {D H' fps' i x H''} hD k' h y=>(hJ H' _ (stay hD k') i).2.2 h x H'' y) ?_;dsimp only at q;cases ec:CI k asg test elt els ρ1 [] with
   | no=>rw [ec] at q;exact q.elim
   | exc c=>rw [ec] at q;exact q.elim
   | ok p=>
    obtain ⟨acc,ρ2⟩:=p;rw [ec] at q;exact λ D ws H' fps' fpl k g r hD hD' tm hf=>Qv rep1 k1 g1 q k g r hD hD' tm hf
end
section
variable {X:Cx}{M:Fm}{f g:Fx}{fa:Fa}{vs vs':List Nat}{a b e:Expr}{es:List Expr}{pos p p2:Pos}{σ:St}{H:Hp}{Q:VK}
theorem wO:∀ {xs:List V}{us:List Ae},Vals xs us->Vals xs.reverse us.reverse
 | _,_,.nil=>.nil
 | _,_,.cons r rr=>by rw [Pp,Pp];exact (wO rr).append (.cons r .nil)
theorem OwnL.snoc0 {K:Frag}{H:Hp}{Z:Addr->Prop}{x:PV}{v:V}:∀ {xs:List PV}{ws:List V},OwnL K H Z xs 0 ws []->Own K H Z x 0 v []->OwnL K H Z (xs++[x]) 0 (ws++[v]) []
 | [],ws,h,o=>by
  rw [OwnL] at h;obtain ⟨rfl,_⟩:=h;rw [IH,IH,OwnL];exact ⟨v,[],[],[],rfl,rfl,(λ _ z=>nomatch z),o,by rw [OwnL];exact ⟨rfl,rfl⟩⟩
 | y::xs,ws,h,o=>by
  rw [OwnL] at h;obtain ⟨u,r,f1,f2,rfl,ef,_,o1,o2⟩:=h;obtain ⟨rfl,rfl⟩:f1=[]/\f2=[]:=by simpa using ef.symm
  rw [Pm,Pm,OwnL];exact ⟨u,r++[v],[],[],rfl,rfl,(λ _ z=>nomatch z),o1,OwnL.snoc0 o2 o⟩
theorem OwnL.append0 {K:Frag}{H:Hp}{Z:Addr->Prop}{ys:List PV}{us:List V} (h2:OwnL K H Z ys 0 us []):∀ {xs:List PV}{ws:List V},OwnL K H Z xs 0 ws []->OwnL K H Z (xs++ys) 0 (ws++us) []
 | [],ws,h=>by
  rw [OwnL] at h;obtain ⟨rfl,_⟩:=h;exact h2
 | y::xs,ws,h=>by
  rw [OwnL] at h;obtain ⟨u,r,f1,f2,rfl,ef,_,o1,o2⟩:=h;obtain ⟨rfl,rfl⟩:f1=[]/\f2=[]:=by simpa using ef.symm
  rw [Pm,Pm,OwnL];exact ⟨u,r++us,[],[],rfl,rfl,(λ _ z=>nomatch z),o1,OwnL.append0 h2 o2⟩
theorem OwnL.rev {K:Frag}{H:Hp}{Z:Addr->Prop}:∀ {xs:List PV}{ws:List V},OwnL K H Z xs 0 ws []->OwnL K H Z xs.reverse 0 ws.reverse []
 | [],ws,h=>by
  rw [OwnL] at h;obtain ⟨rfl,_⟩:=h;rw [List.reverse_nil,OwnL];exact ⟨rfl,rfl⟩
 | y::xs,ws,h=>by
  rw [OwnL] at h;obtain ⟨u,r,f1,f2,rfl,ef,_,o1,o2⟩:=h;obtain ⟨rfl,rfl⟩:f1=[]/\f2=[]:=by simpa using ef.symm
  rw [Pp,Pp];exact OwnL.snoc0 (OwnL.rev o2) o1
end
section
variable {M:Fm}{fa:Fa}{vs:List Nat}
def qm (K:Frag) (F:Fn):Sp:=λ ws H Q _=>∃ x0 v0 fp0,ws=[v0]/\Own K H (λ _=>True) x0 om v0 fp0/\(match F [x0] with
 | .ok (y,_,_)=>Mq y=true/\∀ v H',Dh (λ a=>a∈fp0) H H'->(∀ a,H a≠none->H' a≠none)->Own K H' (λ _=>True) y om v []->Q v H'
 | _=>False)
end
section
variable {X:Cx}{M:Fm}{f g:Fx}{vs vs':List Nat}{σ:St}{H:Hp}{Q:VK}
end
section
variable {pg:AF}{wd:AB}{Ar:AZ}{Er:Ae->Aj->Prop}{st:Aj}
end
section
variable {X:Cx}{M:Fm}{f:Fx}{vs:List Nat}{a:Expr}{pos p p2 pos2:Pos}
end
section
variable {prog:AF}{w:AB}{A:AZ}{E:Ae->Aj->Prop}{s:Aj}{a₀:Array Keyed}
end
section
variable {prog:AF}{w:AB}{A:AZ}{E:Ae->Aj->Prop}{s:Aj}
end
def ins (a:Int):List Int->List Int
 | []=>[a]
 | b::r=>if a<=b then a::b::r else b::ins a r
def He:List Int->List Int
 | []=>[]
 | a::r=>ins a (He r)
theorem Qw (a:Int):∀ l,(ins a l).Perm (a::l)
 | []=>.refl _
 | b::r=>by
  unfold ins;split
  ·exact .refl _
  ·exact ((Qw a r).cons b).trans (.swap a b r)
theorem Q9:∀ l,(He l).Perm l
 | []=>.refl _
 | a::r=>(Qw a _).trans ((Q9 r).cons a)
theorem Wa (a:Int):∀ l:List Int,l.Pairwise (·<=·)->(ins a l).Pairwise (·<=·)
 | [],_=>by simp [ins]
 | b::r,h=>by
  rw [ji0] at h;unfold ins;split
  ·rename_i hab;refine ji0.mpr ⟨λ c hc=>?_,ji0.mpr h⟩;rcases jb2.mp hc with rfl | hc
   ·exact hab
   ·exact JC hab (h.1 c hc)
  ·rename_i hab;refine ji0.mpr ⟨λ c hc=>?_,Wa a r h.2⟩;rcases jb2.mp ((Qw a r).mem_iff.mp hc) with rfl | hc
   ·omega
   ·exact h.1 c hc
theorem Wm:∀ l:List Int,(He l).Pairwise (·<=·)
 | []=>.nil
 | a::r=>Wa a _ (Wm r)
theorem Wv:∀ {l l':List Int},l.Perm l'->l.Pairwise (·<=·)->l'.Pairwise (·<=·)->l=l'
 | [],l',p,_,_=>(List.nil_perm.mp p).symm
 | a::r,[],p,_,_=>by simpa using p.length_eq
 | a::r,b::r',p,h,h'=>by
  rw [ji0] at h h';have e:a=b:=by
   have h1:=p.mem_iff.mp (AR (a:=a) (l:=r));have h2:=p.mem_iff.mpr (AR (a:=b) (l:=r'));rcases jb2.mp h1 with z | z
   ·exact z
   ·rcases jb2.mp h2 with y | y
    ·exact y.symm
    ·exact YW (h.1 b y) (h'.1 a z)
  subst e;rw [Wv (List.perm_cons a |>.mp p) h.2 h'.2]
theorem Yt:∀ {ns:List Int}{us:List Ae},Vals (ns.map V.int) us->HD us ns
 | [],_,.nil=>.nil
 | n::r,_,.cons h t=>by
  obtain ⟨k,rfl⟩:=h;exact .cons _ _ (Yt t)
theorem X9:∀ {us:List Ae}{ns:List Int},HD us ns->Vals (ns.map V.int) us
 | _,_,.nil=>.nil
 | _,_,.cons _ _ t=>.cons ⟨_,rfl⟩ (X9 t)
section
variable {X:Cx}{M:Fm}{fa:Fa}{vs:List Nat}{e:Expr}{es:List Expr}{pos p:Pos}
def qv (ns:List Int):Prop:=ns.length < 64\/(ns.Pairwise (·<=·)/\ns.length<=Aw)
instance (ns:List Int):Decidable (qv ns):=inferInstanceAs (Decidable (_\/_))
theorem XM {K:Frag}{H:Hp}{Z:Addr->Prop}:∀ ns:List Int,OwnL K H Z (ns.map PV.int) 0 (ns.map V.int) []
 | []=>by rw [EG,EG,OwnL];exact ⟨rfl,rfl⟩
 | n::r=>by
  rw [BF,BF,OwnL];exact ⟨_,_,[],[],rfl,rfl,(λ _ z=>nomatch z),by rw [Own];exact ⟨rfl,rfl⟩,XM r⟩
theorem WM:∀ ns:List Int,J6 (ns.map PV.int)=true
 | []=>rfl
 | n::r=>by
  rw [BF];exact WM r
def DW:Int->List Int->Int
 | n,[]=>n
 | n,m::r=>DW (if m > n then m else n) r
theorem Yc:∀ (r:List Int) (n:Int),DW n r∈n::r
 | [],n=>AR
 | m::r,n=>by
  have q:=Yc r (if m > n then m else n);show DW (if m > n then m else n) r∈_;rcases jb2.mp q with z | z
  ·rw [z];split <;> simp
  ·simp [z]
theorem WX:∀ (r:List Int) (n:Int),∀ a∈n::r,a<=DW n r
 | [],n,a,h=>by
  have e:a=n:=by simpa using h
  rw [e];exact Gn _
 | m::r,n,a,h=>by
  show a<=DW (if m > n then m else n) r;have q:=WX r (if m > n then m else n);have q1:=q _ AR;have q2:n<=(if m > n then m else n)/\m<=(if m > n then m else n):=by split <;> omega
  simp only [jb2] at h;rcases h with z | z | z
  ·omega
  ·omega
  ·exact q a (AO _ z)
def yr (hc:X.calm=true):CallR X (.builtin "max") (λ xs H Q=>∃ (q:Addr) (n:Int) (r:List Int),xs=[.ref q]/\Co X.K H q ((n::r).map V.int)/\Q (.int (DW n r)) H):=by
 intro pins s σ H xs us Q I rv h;obtain ⟨q,n,r,rfl,hq,k0⟩:=h;obtain ⟨u,rfl,rx⟩:=Fw rv;cases rx;obtain ⟨its,rv2,pl,hz⟩:=I.list hq;obtain ⟨zs,rfl,ez⟩:=Ng rv2;have e:(zs.map λ p=>Value.int p.1 p.2).toArray=FY zs.toArray:=by simp [FY]
 rw [e] at pl;have hsz:zs.toArray.size=zs.length:=by simp
 have h0:0 < zs.length:=by
  cases zs with
  | nil=>cases ez
  | cons _ _=>simp
 refine max_intList (I.ok.hd hc) pl.isList (by simpa using h0) λ v h' tk hv k=>?_;obtain ⟨l1,l2⟩:=argBest_gt (Dj zs.toArray) (zs.toArray.size - 1);obtain ⟨t,rfl⟩:=NL hv;generalize argBest (λ i j=>decide (Dj zs.toArray i > Dj zs.toArray j)) (zs.toArray.size - 1)=b at *;have num:∀ j,(hj:j < zs.length)->Dj zs.toArray j=zs[j].1:=λ j hj=>by unfold Dj;simp [hj]
 have hm:Dj zs.toArray b∈n::r:=by
  rw [num b (by omega),<- ez];exact jd3.mpr ⟨_,E2 _,rfl⟩
 have hg:∀ a∈n::r,a<=Dj zs.toArray b:=λ a ha=>by
  rw [<- ez] at ha;obtain ⟨z,hz',rfl⟩:=jd3.mp ha;obtain ⟨j,hj,rfl⟩:=KQ hz';rw [<- num j hj];exact l2 j (by omega)
 have eb:Dj zs.toArray b=DW n r:=YW (WX r n _ hm) (hg _ (Yc r n));exact ⟨.int _,H,I.kept (t':=tk) k,⟨t,rfl⟩,by rw [eb];exact k0⟩
def Hz:List (PV×Nat)->Option (PV×Nat)
 | [(.lst xs,_)]=>match Hn xs with
  | some (n::r)=>some (.int (DW n r),om)
  | _=>none
 | xs=>Pd (λ i j=>if j > i then j else i) xs
def kE (hc:X.calm=true) (hg:Gl X "max") (hm:X.mg "max" = none) (ha:PA X (e::es) (tL M fa vs)) (he:AH (e::es) X.env=(false,eval e X.env)::AH es X.env) (hpl:(Dk pos (AH es X.env)).any (·.1)=false):
  PE X (.Call (.Name "max" p) (e::es) [] pos) (tE M (Ak Hz fa) vs):=by
 refine BD (Ih ((yq hc).or (yr hc)) hg hm rfl ha (he:=he) (hpl:=hpl)) λ σ H Q h=>Ii (λ xs z c ws H fps fp Q ho tm nz zd lf=>?_) h;unfold Hz at ho;split at ho
 ·rename_i xs d;split at ho
  ·rename_i n r eb;cases ho;obtain ⟨v,r',f1,f2,rfl,rfl,_,o1,h2⟩:=tm;obtain ⟨rfl,rfl⟩:=h2;obtain ⟨q,us,rfl,hs,ol⟩:=(cold (fp:=f1) o1 λ a ha=>nz a (BG _ ha)).coldL
   have:=Le eb ol
   subst this;exact .inr ⟨q,n,r,rfl,.inl (.inl hs),EM lf⟩
  ·cases ho
 ·exact .inl (XX ho tm lf)
end
def Lx (x:PV):Option Str:=match x with
 | .int i=>if i.natAbs.log2 < 1920 then some (toString i) else none
 | _=>none
def Mf:List (PV×Nat)->Option (PV×Nat)
 | [(x,_)]=>(Lx x).map λ s=>(.str s,om)
 | _=>none
section
variable {X:Cx}{M:Fm}{H:Hp}{σ:St}
def RE (K:Frag):List V->Hp->VK->Prop:=λ ws H Q=>∃ x d v Z f T,ws=[v]/\Own K H Z x d v f/\Lx x=some T/\Q (.str T) H
theorem vC (hu:X.A.units + 64 < Cj) (hg:X.A.guards=some []):CallR X (.type "str") (RE X.K):=by
 intro pins s σ H ws us Q I rv h;obtain ⟨x,d,v,Z,f,T,rfl,o,hT,q⟩:=h;cases rv with
 | cons r rr=>
  cases rr;cases x with
  | int i=>
   rw [Own] at o;obtain ⟨rfl,_⟩:=o;obtain ⟨t,rfl⟩:=r;dsimp only [Lx] at hT;split at hT
   ·rename_i hi;cases hT;exact P.str_of_int hi ⟨.str _,H,I.tok _,⟨_,rfl⟩,q⟩
   ·cases hT
  | _=>cases hT
variable {e:Expr}{es:List Expr}{fa:Fa}{vs:List Nat}{p pos:Pos}
def jl (hu:X.A.units + 64 < Cj) (hgd:X.A.guards=some []) (hK:M.K=X.K) (hg:Gl X "str") (hm:X.mg "str" = none) (ha:PA X (e::es) (tL M fa vs)) (he:AH (e::es) X.env=(false,eval e X.env)::AH es X.env) (hpl:(Dk pos (AH es X.env)).any (·.1)=false):
  PE X (.Call (.Name "str" p) (e::es) [] pos) (tE M (Ak Mf fa) vs):=by
 refine BD (QN (vC hu hgd) hg hm rfl ha (he:=he) (hpl:=hpl)) λ σ H Q h=>Ii (λ xs z c ws H fps fp Q ho tm nz zd lf=>?_) h;unfold Mf at ho;split at ho
 ·rename_i x d;obtain ⟨T,hT,eT⟩:=jb4.mp ho;cases eT;obtain ⟨v,r,f1,f2,rfl,rfl,_,o1,h2⟩:=tm;obtain ⟨rfl,rfl⟩:=h2;rw [hK] at o1;exact ⟨x,_,v,_,f1,T,rfl,o1,hT,XY lf⟩
 ·cases ho
end
open PySem PySem.Spec PyProof.Rows L2 PySem.Builtin PySem.Builtin.ObjectAttr PySem.Builtin.Getset_descriptor
section
variable {prog:AF}{w:AB}{A:AZ}{E:Ae->Aj->Prop}{K:Frag}{h:Heap}{g:Array GenState}{d:Drawn}{t:Nat}{os:OsState}{a C:Addr}{oe:Obj}
def xi {R:Result->Aj->Prop} (X:K.In h) (he:h.get? a=some oe) (hc:oe.cls=.ref C) (hm:Hc K C (.type "object")=some true) (hq:R (.ok (.ret (.ref C))) ⟨h,g,d,t,os⟩):
  Iy (Au prog w) A (.call (.builtin "getset_descriptor.__get__") ⟨[.builtin "object.__class__",.ref a,.ref C],[]⟩) R ⟨h,g,d,t,os⟩:=by
 have ty:PySem.W.Looks (Au prog w) h (typeOf (.ref a)) (.ref C):=hc ▸ (PySem.W.Looks.ld he).andThen .now;have mr:=PySem.W.looks_mroIn (M:=Au prog w) X hm;have pl:=PySem.W.KF.slot_gs.plain;have en:=PySem.W.KF.entry_gs;refine codeAny_call_builtin pl en (PySem.W.KF.slot_gs.check _ _ _ _ _ _ _ _
  PySem.W.KF.type_class (PySem.W.KF.args_gs _ _ _) ?_)
 unfold vf9.«getset_descriptor.__get__»;unfold descrGet;rw [PySem.W.dga_obj];refine AM (Cs ?_);unfold descrGetter descrCheckInstance;unfold descrNameAndClass isInstance;simp only [PySem.W.KF.owner_class]
 repeat lk
 refine ⟨Code.quiet_builtin _ (by decide +kernel),LI PySem.W.KF.entry_class ?_⟩;unfold vf9.«object.__class__»;unfold shownTypeOf
 repeat lk
 exact hq
def vF {tk:Tok}{Q:Fin->Aj->Prop} (X:K.In h) (he:h.get? a=some oe) (hc:oe.cls=.ref C) (hm:Hc K C (.type "object")=some true) (hl:Ey K (.ref C) "__class__" = some (some (.builtin "object.__class__")))
  (hq:Q (.done (.ret (.ref C))) ⟨h,g,d,t,os⟩):Av (Au prog w) A (vf9.«object.__getattribute__» ⟨[.ref a,.str "__class__" tk],[]⟩) Q E ⟨h,g,d,t,os⟩:=by
 have hT5:(⟨h,g,d,t,os⟩:Aj).TypeIs (.builtin "object.__class__") "getset_descriptor" := F.typeOf_object_class;have f5:=F.typeOf_object_class;have f6:=F.slot_gs_get.lookup;have f7:=F.slot_gs_set.lookup;have L1:=Rv (M:=Au prog w) X hl
 repeat (any_goals (first | assumption | (with_reducible refine LL he ?_;rw [hc]) | with_reducible refine L1.at ?_ | wp_step))
 refine xi X he hc hm ?_
 repeat (any_goals (first | assumption | wp_step))
def vD {nameV:Ae}{Q:Unit->Aj->Prop}{M:Model} (X:K.In h) (he:h.get? a=some oe) (hc:oe.cls=.ref C) (hb:Hc K C (.type "BaseException")=some true) (hq:Q () ⟨h,g,d,t,os⟩):
  Av M A (checkBuiltinCall "BaseException.__getattribute__" ⟨[.ref a,nameV],[]⟩) Q E ⟨h,g,d,t,os⟩:=by
 have hk:builtinKind "BaseException.__getattribute__" = some .slot:=by decide +kernel
 have hsp:splitId "BaseException.__getattribute__" = some ("BaseException","__getattribute__"):=by decide +kernel
 have ha:=F.args_bexc_ga (.ref a) nameV;have L1:=PySem.W.looks_mroIn (M:=M) X hb;simp only [checkBuiltinCall,hk,hsp];refine AM ?_;unfold isInstance
 repeat (first | (with_reducible refine LL he ?_;rw [hc]) | with_reducible refine L1.at ?_ | wp_step)
 exact hq
def qF {tk:Tok}{Q:Ae->Aj->Prop} (X:K.In h) (he:h.get? a=some oe) (hc:oe.cls=.ref C) (hm:Hc K C (.type "object")=some true) (hb:Hc K C (.type "BaseException")=some true)
  (hl:Ey K (.ref C) "__class__" = some (some (.builtin "object.__class__"))) (hga:Ey K (.ref C) "__getattribute__" = some (some (.builtin "BaseException.__getattribute__"))) (hgh:Ey K (.ref C) "__getattr__" = some none)
  (hq:Q (.ref C) ⟨h,g,d,t,os⟩):Av (Au prog w) A (getAttrBy (.ref a) (.str "__class__" tk) false) Q E ⟨h,g,d,t,os⟩:=by
 have f3:=PySem.F.attrBase_ValueError.ga.bind (.ref a);have L1:=Rv (M:=Au prog w) X hga;have L2':=Rv (M:=Au prog w) X hgh;have hx2:(Value.builtin "BaseException.__getattribute__" == Value.builtin "object.__getattribute__")=false:=by decide +kernel
 have hx1:(onTheHeap (Value.ref C) && Value.builtin "BaseException.__getattribute__" == Value.builtin "object.__getattribute__")=false:=by rw [hx2];rfl
 repeat (any_goals (first | assumption | (with_reducible refine LL he ?_;rw [hc]) | with_reducible refine L1.at ?_ | with_reducible refine L2'.at ?_ | wp_step))
 refine codeAny_call_builtin PySem.F.attrBase_ValueError.ga.plain F.entry_bexc_ga (vD X he hc hb (vF X he hc hm hl ?_))
 repeat (any_goals (first | assumption | wp_step))
def j4 {Q:Option Ae->Aj->Prop} (X:K.In h) (he:h.get? a=some oe) (hc:oe.cls=.ref C) (hm:Hc K C (.type "object")=some true) (hb:Hc K C (.type "BaseException")=some true)
  (hl:Ey K (.ref C) "__class__" = some (some (.builtin "object.__class__"))) (hga:Ey K (.ref C) "__getattribute__" = some (some (.builtin "BaseException.__getattribute__"))) (hgh:Ey K (.ref C) "__getattr__" = some none)
  (hq:Q (some (.ref C)) ⟨h,g,d,t + 1,os⟩):Av (Au prog w) A (getAttr? (.ref a) "__class__") Q E ⟨h,g,d,t,os⟩:=by
 unfold getAttr?;unfold getAttrBy?
 repeat (any_goals (first | assumption | with_reducible apply qF X he hc hm hb hl hga hgh | wp_step))
end
def Df (K:Frag) (d:Nat) (u:Ae):Bool:=(u == .type "ValueError" && d == 0) || (match C6 K d with
 | some D=>u == .ref D
 | none=>false)
section
variable {K:Frag}{a C:Addr}{c d:Nat}{u:Ae}
def Nf (t:Cr K=true) (e:C6 K c=some C):Kt K C=true/\ER K (.type "NoneType") (.ref C)=some false/\ER K (.ref C) (.type "ValueError")=some true/\∀ d D,C6 K d=some D->ER K (.ref C) (.ref D)=some (DX c d):=by
 unfold Cr at t;rw [A9] at t;have h:=ja7.mp t.2 c (jc7.mpr (NH e));rw [e] at h;dsimp only at h;simp only [A9] at h;refine ⟨h.1.1.1,eq_of_beq h.1.1.2,eq_of_beq h.1.2,λ d D ed=>?_⟩;have h2:=ja7.mp h.2 d (jc7.mpr (NH ed));rw [ed] at h2;exact eq_of_beq h2
def WO (t:Cr K=true) (e:C6 K c=some C) (hu:Df K d u=true):ER K (.ref C) u=some (DX c d):=by
 obtain ⟨_,_,h3,h4⟩:=Nf t e;unfold Df at hu;rw [FD] at hu;rcases hu with hu | hu
 ·rw [A9] at hu;rw [eq_of_beq hu.1,h3,eq_of_beq hu.2];simp [DX]
 ·split at hu
  ·rename_i D hD;rw [eq_of_beq hu];exact h4 d D hD
  ·cases hu
def WQ (t:Cr K=true) (hu:Df K d u=true):ER K (.type "NoneType") u=some false:=by
 unfold Df at hu;rw [FD] at hu;rcases hu with hu | hu
 ·rw [A9] at hu;rw [eq_of_beq hu.1];unfold Cr at t;rw [A9] at t;exact eq_of_beq t.1
 ·split at hu
  ·rename_i D hD;rw [eq_of_beq hu];exact (Nf t hD).2.1
  ·cases hu
def FP (K:Frag):List Nat->List Ae->Bool
 | [],[]=>true
 | d::ds,u::us=>Df K d u && FP K ds us
 | _,_=>false
theorem XQ (t:Cr K=true) (e:C6 K c=some C):∀ {ds:List Nat}{us:List Ae},FP K ds us=true->NT K (.ref C) us=some (ds.any (DX c))
 | [],[],_=>rfl
 | [],_::_,h=>by cases h
 | _::_,[],h=>by cases h
 | d::ds,u::us,h=>by
  unfold FP at h;rw [A9] at h;unfold NT;rw [WO t e h.1,Pj];cases DX c d with
  | true=>rfl
  | false=>exact XQ t e h.2
theorem XR (t:Cr K=true):∀ {ds:List Nat}{us:List Ae},FP K ds us=true->NT K (.type "NoneType") us=some false
 | [],[],_=>rfl
 | [],_::_,h=>by cases h
 | _::_,[],h=>by cases h
 | d::ds,u::us,h=>by
  unfold FP at h;rw [A9] at h;unfold NT;rw [WQ t h.1];exact XR t h.2
def yg (g:Kt K C=true):∃ c0 dd cd sl,K.lookup C=some ⟨c0,dd,.cls cd,sl⟩:=by
 unfold Kt at g;simp only [A9] at g;have h:=g.1.1.1.1.1;unfold PySem.W.clsIn at h;split at h
 ·rename_i q;exact ⟨_,_,_,_,q⟩
 ·cases h
def XO (g:Kt K C=true):PySem.W.KitX K (.ref a) (.ref C) (Fp a C):=by
 obtain ⟨c0,dd,cd,sl,hl⟩:=yg g;unfold Kt at g;simp only [A9] at g;obtain ⟨⟨⟨⟨⟨_,g1⟩,g2⟩,g3⟩,g4⟩,g5⟩:=g;refine ⟨λ M h _ p=>?_,λ M h X _=>?_,λ h tp dd' its n sl' X htp=>?_,λ {prog w A E Q s} X p k=>?_⟩
 ·obtain ⟨o,vs,h1,h2,_⟩:=p;exact h2 ▸ (PySem.W.Looks.ld h1).andThen .now
 ·intro A' Q' E' s' kp q;unfold isType;unfold loadHead;exact AM (wpAny_loadPart (kp _ _ (X _ _ hl)) (Cs q))
 ·cases hb:(Value.ref C == Value.ref tp) with
  | false=>rfl
  | true=>
   have ec:C=tp:=Value.ref.inj (eq_of_beq hb);have z:=X _ _ hl;rw [ec,htp] at z;cases z
 ·obtain ⟨o,vs,h1,h2,_⟩:=p;obtain ⟨hp,gg,dr,tt,oo⟩:=s;exact j4 X h1 h2 (eq_of_beq g1) (eq_of_beq g2) (eq_of_beq g3) (eq_of_beq g4) (eq_of_beq g5) k
end
section
variable {X:Cx}
def MT (K:Frag) (v:V) (H:Hp) (Q:VK) (ds:List Nat):Prop:=(v=.non/\Q (.bl false) H)\/∃ a C c,v=.ref a/\C6 K c=some C/\H a=some (.ext (Fp a C))/\Q (.bl (ds.any (DX c))) H
def Yp {pins:List (Addr×Obj)}{σ:St}{H:Hp}{s:Aj}{a C:Addr} (I:L2.Inv X pins σ H s) (h:H a=some (.ext (Fp a C))):Fp a C s.heap:=(I.hok a _ h).1
def yp (t:Cr X.K=true):CallR X (.builtin "isinstance") (λ xs H Q=>∃ v cv d,xs=[v,cv]/\(∀ u,RelV cv u->Df X.K d u=true)/\MT X.K v H Q [d]):=by
 intro pins s σ H xs us Q I r h;obtain ⟨v,cv,d,rfl,hcv,h⟩:=h;obtain ⟨u,w,rfl,r1,r2⟩:=Ml r;have hw:=hcv w r2;rcases h with ⟨rfl,q⟩ | ⟨a,C,c,rfl,hC,ha,q⟩
 ·cases r1;exact ES Rn I.kIn True.intro (WQ t hw) (λ z=>nomatch z) λ tk=>⟨.bl false,H,I.tok _,rfl,q⟩
 ·obtain rfl:u=Value.ref a:=r1;exact ES (XO (Nf t hC).1) I.kIn (Yp I ha) (WO t hC hw) (λ z=>nomatch z) λ tk=>⟨.bl (DX c d),H,I.tok _,rfl,by simpa using q⟩
def yX (t:Cr X.K=true):CallR X (.builtin "isinstance") (λ xs H Q=>∃ v p cvs ds,xs=[v,.ref p]/\H p=some (.tup cvs)/\(∀ us,Vals cvs us->FP X.K ds us=true)/\MT X.K v H Q ds):=by
 intro pins s σ H xs us Q I r h;obtain ⟨v,p,cvs,ds,rfl,hp,hcv,h⟩:=h;obtain ⟨u,w,rfl,r1,r2⟩:=Ml r;obtain rfl:w=Value.ref p:=r2;obtain ⟨_,its,rv,o,ho,hc,n,hd⟩:=I.hok p _ hp;have hi:=hcv its rv;have ho':s.heap.get? p=some ⟨.type "tuple",o.dict,.seq its.toArray n,o.slots⟩:=by
  rw [ho];obtain ⟨oc,od,oda,os⟩:=o;dsimp only at hc hd;rw [hc,hd]
 rcases h with ⟨rfl,q⟩ | ⟨a,C,c,rfl,hC,ha,q⟩
 ·cases r1;exact PySem.W.kia_tup Rn I.kIn True.intro ho' (XR t hi) (λ z=>nomatch z) λ tk=>⟨.bl false,H,I.tok _,rfl,q⟩
 ·obtain rfl:u=Value.ref a:=r1;exact PySem.W.kia_tup (XO (Nf t hC).1) I.kIn (Yp I ha) ho' (XQ t hC hi) (λ z=>nomatch z) λ tk=>⟨.bl (ds.any (DX c)),H,I.tok _,rfl,q⟩
end
section
variable {X:Cx}{M:Fm}{f g:Fx}{vs vs':List Nat}{e:Expr}{es:List Expr}{pos p:Pos}{σ:St}{H:Hp}{Q:VK}
def FK (ds:List Nat) (x:PV) (_:Nat):Option (PV×Nat):=match x with
 | .exn c=>some (.bl (ds.any (DX c)),om)
 | .non=>some (.bl false,om)
 | _=>none
theorem Wc {K:Frag}{x z:PV}{ds:List Nat}{d c:Nat}{v:V}{Z:Addr->Prop}{H H':Hp}{f1:List Addr} (ho:FK ds x d=some (z,c)) (o1:Own K H Z x d v f1) (k:∀ a o,H a=some o->H' a=some o) (q:∀ b,z=.bl b->Q (.bl b) H'):MT K v H' Q ds:=by
 cases x with
 | exn n=>
  cases ho;rw [Own] at o1;obtain ⟨_,a,C,rfl,hC,ha⟩:=o1;exact .inr ⟨a,C,n,rfl,hC,k _ _ ha,q _ rfl⟩
 | non=>
  cases ho;rw [Own] at o1;obtain ⟨rfl,_⟩:=o1;exact .inl ⟨rfl,q _ rfl⟩
 | _=>cases ho
theorem UO {ds:List Nat}{x z:PV}{d c:Nat} (ho:FK ds x d=some (z,c)):∃ b,z=.bl b/\c=om:=by
 cases x with
 | exn n=>cases ho;exact ⟨_,rfl,rfl⟩
 | non=>cases ho;exact ⟨_,rfl,rfl⟩
 | _=>cases ho
def kB {cv:V}{d:Nat}{T':Str}{p1 p2:Pos} (t:Cr X.K=true) (hK:M.K=X.K) (ha:PE X e (tE M f vs)) (hg:Gl X "isinstance") (hm:X.mg "isinstance" = none) (hc:PE X (.Name T' p2) (tC cv)) (hcv:∀ u,RelV cv u->Df X.K d u=true)
  (hs1:AH [e,.Name T' p2] X.env=[(false,eval e X.env),(false,eval (.Name T' p2) X.env)]) (hs2:AH [Expr.Name T' p2] X.env=[(false,eval (.Name T' p2) X.env)]):
  PE X (.Call (.Name "isinstance" p1) [e,.Name T' p2] [] pos) (tE M (Ay (FK [d]) f) vs):=by
 refine BD (Ih (yp t) hg hm rfl (Et ha (Et hc FL hs2) (by rw [hs1,hs2])) (he:=by rw [hs1,hs2]) (hpl:=by rw [hs2];rfl)) λ σ H Q h=>?_;refine Mj (r:=λ v H Q=>∃ x c n,[v,cv]=[x,c]/\(∀ u,RelV c u->Df X.K n u=true)/\MT X.K x H Q [n]) (λ x d' z c v H fps f1 Q ho o1 nz zd lf=>?_) h;obtain ⟨b,rfl,rfl⟩:=UO ho;exact ⟨v,cv,d,rfl,hcv,by rw [<- hK];exact Wc ho o1 (λ _ _ h=>h) λ b' e=>by cases e;exact DK lf⟩
def Vl (cvs:List V):TA:=λ _ H Q=>Q cvs H
def wx {cvs:List V}{ds:List Nat}{p1 p2:Pos}{k:Nat} (t:Cr X.K=true) (hK:M.K=X.K) (ha:PE X e (tE M f vs)) (hg:Gl X "isinstance") (hm:X.mg "isinstance" = none) (hc:PA X es (Vl cvs)) (hl:cvs.length<=Aw) (hcv:∀ us,Vals cvs us->FP X.K ds us=true)
  (hs1:AH [e,.Tuple es k p2] X.env=[(false,eval e X.env),(false,eval (.Tuple es k p2) X.env)]) (hs2:AH [Expr.Tuple es k p2] X.env=[(false,eval (.Tuple es k p2) X.env)]):
  PE X (.Call (.Name "isinstance" p1) [e,.Tuple es k p2] [] pos) (tE M (Ay (FK ds) f) vs):=by
 refine BD (Ih (yX t) hg hm rfl (Et ha (Et (Wz hc) FL hs2) (by rw [hs1,hs2])) (he:=by rw [hs1,hs2]) (hpl:=by rw [hs2];rfl)) λ σ H Q h=>?_;refine Mj (r:=λ v H Q=>cvs.length<=Aw/\∀ q,H q=none->∃ x p' cvs' ds',[v,V.ref q]=[x,.ref p']/\Aq H q (.tup cvs) p'=some (.tup cvs')/\(∀ us,Vals cvs' us->FP X.K ds' us=true)/\MT X.K x (Aq H q (.tup cvs)) Q ds') (λ x d' z c v H fps f1 Q ho o1 nz zd lf=>?_) h;obtain ⟨b,rfl,rfl⟩:=UO ho;refine ⟨hl,λ q hq=>⟨v,q,cvs,ds,rfl,C8,hcv,?_⟩⟩;have kk:∀ a o,H a=some o->Aq H q (.tup cvs) a=some o:=λ a o h=>by rw [Bk (λ z=>by rw [z,hq] at h;cases h)];exact h
 rw [<- hK];exact Wc ho o1 kk λ b' e=>by cases e;exact lf (.bl b) _ [] kk (by rw [Own];exact ⟨rfl,rfl⟩) (λ _ z=>nomatch z)
end
section
variable {X:Cx}{M:Fm}{a b:Expr}{f g:Fx}{fa:Fa}{vs vs':List Nat}{pos p:Pos}{σ:St}{H:Hp}{Q:VK}{e:Expr}{es:List Expr}
def Gk:List PV->Option (List Be)
 | []=>some []
 | .int i::r=>(Gk r).map (.inl i::·)
 | .str x::r=>(Gk r).map (.inr x::·)
 | _=>none
theorem Nl {K:Frag}{Z:Addr->Prop}:∀ {xs:List PV}{ws:List V}{d:Nat}{fp:List Addr}{k:List Be},Gk xs=some k->OwnL K H Z xs d ws fp->ws=k.map kV
 | [],ws,d,fp,k,e,h=>by cases e;rw [OwnL] at h;exact h.1
 | .int i::r,ws,d,fp,k,e,h=>by
  obtain ⟨k',e1,rfl⟩:=jb4.mp e;rw [OwnL] at h;obtain ⟨v,s,f1,f2,rfl,ef,dj,h1,h2⟩:=h;rw [Own] at h1;rw [h1.1,Nl e1 h2];rfl
 | .str i::r,ws,d,fp,k,e,h=>by
  obtain ⟨k',e1,rfl⟩:=jb4.mp e;rw [OwnL] at h;obtain ⟨v,s,f1,f2,rfl,ef,dj,h1,h2⟩:=h;rw [Own] at h1;rw [h1.1,Nl e1 h2];rfl
 | .non::_,_,_,_,_,e,_=>by cases e
 | .bl _::_,_,_,_,_,e,_=>by cases e
 | .lst _::_,_,_,_,_,e,_=>by cases e
 | .tup _::_,_,_,_,_,e,_=>by cases e
 | .emp::_,_,_,_,_,e,_=>by cases e
 | .dko::_,_,_,_,_,e,_=>by cases e
 | .scr _::_,_,_,_,_,e,_=>by cases e
 | .dct _::_,_,_,_,_,e,_=>by cases e
 | .exn _::_,_,_,_,_,e,_=>by cases e
def Dn (neg:Bool) (x:PV) (_:Nat) (y:PV) (_:Nat):Option (PV×Nat):=match x,y with
 | .tup ks,.dct kvs=>(Gk ks).map λ k=>(.bl (neg^^(CL kvs k).isSome),om)
 | .str y,.str x=>some (.bl (neg^^Txt.contains x y),om)
 | x,.lst ys=>(match BL 20 x,AN (BL 20) ys with
  | some a,some bs=>some (.bl (neg^^bs.any λ b=>Cz b a),om)
  | _,_=>none)
 | x,.tup ys=>(match BL 20 x,AN (BL 20) ys with
  | some a,some bs=>some (.bl (neg^^bs.any λ b=>Cz b a),om)
  | _,_=>none)
 | _,_=>none
def J4 (neg:Bool):R2:=λ v w H Q=>∃ a o,w=.ref a/\DGet H a v o/\Q (.bl (neg^^o.isSome)) H
def xT (hu:X.A.units + 1 < Cj):OpR X (Cy .In) (J4 false):=by
 intro pins s σ H x y v u Q I rx ry h;obtain ⟨a,o,rfl,g,q⟩:=h;obtain rfl:u=Value.ref a:=ry;exact TV hu I g rx λ s3 I3=>⟨.bl o.isSome,H,I3,rfl,by simpa using q⟩
def yP (hu:X.A.units + 1 < Cj):OpR X (Cy .NotIn) (J4 true):=by
 intro pins s σ H x y v u Q I rx ry h;obtain ⟨a,o,rfl,g,q⟩:=h;obtain rfl:u=Value.ref a:=ry;exact j8 hu I g rx λ s3 I3=>⟨.bl (!o.isSome),H,I3,rfl,by simpa using q⟩
def O8 (tp:Bool) (ys:List PV):PV:=match tp with
 | true=>.tup ys
 | false=>.lst ys
def ql (tp:Bool) (ys:List Bs):Bs:=match tp with
 | true=>.tuple ys
 | false=>.list ys
def J1 (K:Frag) (neg:Bool):R2:=λ v w H Q=>∃ tp x ys d e Z Z' f1 f2 a bs,BL 20 x=some a/\AN (BL 20) ys=some bs/\Own K H Z x d v f1/\Own K H Z' (O8 tp ys) e w f2/\Q (.bl (neg^^bs.any λ b=>Cz b a)) H
theorem Wt {tp:Bool}{ys:List PV}{bs:List Bs} (h:AN (BL 20) ys=some bs):BL 21 (O8 tp ys)=some (ql tp bs):=by
 cases tp with
 | true=>
  show (AN (BL 20) ys).map PyData.tuple=_;rw [h];rfl
 | false=>
  show (AN (BL 20) ys).map PyData.list=_;rw [h];rfl
theorem zC (hu:X.A.units + 64 < Cj):OpR X (Cy .In) (J1 X.K false):=by
 intro pins s σ H v w u u' Q I rx ry h;obtain ⟨tp,x,ys,d,e,Z,Z',f1,f2,a,bs,h1,h2,o1,o2,q⟩:=h;obtain ⟨as,ra⟩:=GI I 20 x d v f1 u a h1 o1 rx;obtain ⟨bs',rb⟩:=GI I 21 (O8 tp ys) e w f2 u' _ (Wt h2) o2 ry;have l1:=EN 20 x a h1;have l2:=Kr (λ x D h=>EN 20 x D h) h2;have hm:X.A.units + 1 + min (DI bs) a.depth < Cj:=by have:=T5 (DI bs) a.depth;omega
 cases tp with
 | false=>exact SeqAt.in_list_reads rb ra l2.1 l1.1 hm ⟨.bl _,H,I,rfl,by simpa using q⟩
 | true=>exact SeqAt.in_tuple_reads rb ra l2.1 l1.1 hm ⟨.bl _,H,I,rfl,by simpa using q⟩
theorem yQ (hu:X.A.units + 64 < Cj):OpR X (Cy .NotIn) (J1 X.K true):=by
 intro pins s σ H v w u u' Q I rx ry h;obtain ⟨tp,x,ys,d,e,Z,Z',f1,f2,a,bs,h1,h2,o1,o2,q⟩:=h;obtain ⟨as,ra⟩:=GI I 20 x d v f1 u a h1 o1 rx;obtain ⟨bs',rb⟩:=GI I 21 (O8 tp ys) e w f2 u' _ (Wt h2) o2 ry;have l1:=EN 20 x a h1;have l2:=Kr (λ x D h=>EN 20 x D h) h2;have hm:X.A.units + 1 + min (DI bs) a.depth < Cj:=by have:=T5 (DI bs) a.depth;omega
 cases tp with
 | false=>exact SeqAt.notIn_list_reads rb ra l2.1 l1.1 hm ⟨.bl _,H,I,rfl,by simpa using q⟩
 | true=>exact SeqAt.notIn_tuple_reads rb ra l2.1 l1.1 hm ⟨.bl _,H,I,rfl,by simpa using q⟩
def XU {x y z:PV}{d e c:Nat}{v w:V}{fps:AX}{f1 f2 F:List Addr}{Z Z':Addr->Prop}{neg:Bool} (hK:M.K=X.K) (ho:Dn neg x d y e=some (z,c)) (o1:Own M.K H Z x d v f1) (o2:Own M.K H Z' y e w f2) (lf:BP M H fps vs F z c Q):(J4 neg v w H Q\/Jz neg v w H Q)\/J1 X.K neg v w H Q:=by
 unfold Dn at ho;split at ho
 ·rename_i ks kvs;obtain ⟨k,ek,e2⟩:=jb4.mp ho;cases e2;rw [Own] at o1;rw [Own] at o2;obtain ⟨b,ws,rfl,hb,ol⟩:=o1
  have:=Nl ek ol
  subst this;have h2:∃ a,w=.ref a/\H a=some (.dT kvs):=by
   obtain ⟨a,ea,⟨_,hr,_⟩ | ⟨_,ha,_⟩⟩:=o2
   ·exact ⟨a,ea,hr.1⟩
   ·exact ⟨a,ea,ha⟩
  obtain ⟨a,rfl,ha⟩:=h2;exact .inl (.inl ⟨a,_,rfl,DGet.t ha hb,DK lf⟩)
 ·rename_i y0 x0;cases ho;rw [Own] at o1;rw [Own] at o2;exact .inl (.inr ⟨y0,x0,o1.1,o2.1,DK lf⟩)
 ·rename_i ys;split at ho
  ·rename_i a bs ea eb;cases ho;rw [hK] at o1;rw [hK] at o2;exact .inr ⟨false,_,ys,d,e,Z,Z',f1,f2,a,bs,ea,eb,o1,o2,DK lf⟩
  ·cases ho
 ·rename_i ys;split at ho
  ·rename_i a bs ea eb;cases ho;rw [hK] at o1;rw [hK] at o2;exact .inr ⟨true,_,ys,d,e,Z,Z',f1,f2,a,bs,ea,eb,o1,o2,DK lf⟩
  ·cases ho
 ·cases ho
def MQ:Fx:=λ ρ=>.ok (.dct [],om,ρ)
def jd:PE X (.Dict [] [] pos) (tE M MQ []):=by
 refine BD vY λ σ H Q h p hp=>?_;obtain ⟨ρ,fps,rep,q⟩:=h;refine q (.ref p) _ fps [p] (KD.grow (E9 hp)) Agr.refl (rep.grow (E9 hp)) ?_ ⟨λ a ha=>by rw [jb1.mp ha];exact hp,λ a ha=>by rw [jb1.mp ha];exact rep.nz hp⟩;rw [Own];exact ⟨p,rfl,.inr ⟨by decide,C8,rfl⟩⟩
end
structure Sx where
 N:List Str
 sc:BA
 ms:List Nat
 al:List (List Nat)
 Γ:List (Str×(Bool×Nat×Fn))
 Γm:List (Str×Fn)
 rz:Bool
 xc:List Nat
 pn:List Nat
def Sx.alF (S:Sx) (i:Nat):List Nat:=S.al.getD i []
def Sx.msF (S:Sx) (i:Nat):Bool:=S.ms.contains i
def DG (sc:BA) (x:Str) (k:D6):Bool:=sc.names.lookup x == some k
def D5 (sc:BA) (x:Str):Bool:=DG sc x .local || DG sc x .cell || DG sc x .free
def JJ (N:List Str) (x:Str):Option Nat:=N.findIdx? (·== x)
def Sx.slot (S:Sx) (x:Str):Option Nat:=if D5 S.sc x && !(x == ("__debug__" : Str)) && !(x == ("__classdict__" : Str)) then JJ S.N x else none
def Sx.glob (S:Sx) (x:Str):Bool:=DG S.sc x .globalImplicit
structure XS (X:Cx) (P:AF) (w:AB) (K:Frag) (mg:Str->Option Ae) (base:Heap) (lvl:Nat) (S:Sx) (Wx:St->Nat->Hp->Prop):Prop where
 prog:X.prog=P
 w:X.w=w
 K:X.K=K
 mg:X.mg=mg
 base:X.base=base
 N:X.N=S.N
 sc:X.env.scope=S.sc
 calm:X.calm=true
 room:Room lvl X.A
 po:L9 (Au X.prog X.w) X.A X.env X.xe
 ps:Ll (AK X.prog X.w X.K) X Wx
 rs:S.rz=true->Nv X Wx
structure MS (M:Fm) (K:Frag) (S:Sx) (Wx:St->Nat->Hp->Prop):Prop where
 K:M.K=K
 ms:M.Ms=S.msF
 al:∀ i,i < S.N.length->M.al i=S.alF i
 als:∀ i,∀ j∈M.al i,M.Ms j=false
 W:M.W=Wx
 pn:∀ p∈M.pn,p.1 < S.N.length
def Ib (P:AF) (w:AB) (K:Frag) (mg:Str->Option Ae) (base:Heap) (lvl:Nat) (Γm:List (Str×Fn)):Prop:=
 ∀ x F,Γm.lookup x=some F->(x == ("__debug__" : Str))=false/\∃ fa fd ps,mg x=some (.ref fa)/\Jp K (.ref fa)=true/\qap K fd ps []/\FnOk P w K mg base (AK P w K) lvl fa fd ps (qm K F)
def GX (K:Frag) (mg:Str->Option Ae) (xc:List Nat):Prop:=xc≠[]->DS K=true/\Cr K=true/\∀ c∈xc,(c < 50->∃ x C,XN[c]?=some x/\C6 K c=some C/\mg x=some (.ref C)/\(x == ("__debug__" : Str))=false)/\(50<=c->∃ x v u,CN[c - 50]?=some (x,v)/\PD v u=true/\mg x=some u/\(x == ("__debug__" : Str))=false)
def GS (P:AF) (w:AB) (K:Frag) (mg:Str->Option Ae) (base:Heap) (lvl:Nat) (Γ:List (Str×(Bool×Nat×Fn))):Prop:=
 (∀ x∈zkd,mg x=none)/\∀ x io n F,Γ.lookup x=some (io,n,F)->(x == ("__debug__" : Str))=false/\(∀ xs,xs.length≠n->F xs=.no) /\
  ∃ fa fd ps,mg x=some (.ref fa)/\Jp K (.ref fa)=true/\qap K fd ps []/\ps.length=n/\FnOk P w K mg base (AK P w K) lvl fa fd ps (Bh K io n F)
section
variable {X:Cx}{P:AF}{w:AB}{K:Frag}{mg:Str->Option Ae}{base:Heap}{lvl:Nat}{S:Sx}{Wx:St->Nat->Hp->Prop}{M:Fm}
def Hr {sc:BA}{x:Str}{k:D6} (h:DG sc x k=true):sc.names.lookup x=some k:=by
 unfold DG at h;exact eq_of_beq h
def Ww {sc:BA}{x:Str} (h:D5 sc x=true):IQ sc x:=by
 unfold D5 at h;rw [FD,FD] at h;rcases h with (h | h) | h
 ·exact .inl (Hr h)
 ·exact .inr (.inl (Hr h))
 ·exact .inr (.inr (Hr h))
def NK {N:List Str}{x:Str}{i:Nat} (h:JJ N x=some i):N[i]?=some x:=by
 unfold JJ at h;rw [je3] at h;obtain ⟨hi,e,_⟩:=h
 have:N[i]=x:=eq_of_beq e
 rw [BR hi,this]
def XS.var (xs:XS X P w K mg base lvl S Wx) {x:Str}{i:Nat}{pos:Pos} (h:S.slot x=some i):PE X (.Name x pos) (CO i):=by
 unfold Sx.slot at h;split at h
 ·rename_i hc;simp only [A9,M9] at hc;exact W2 (by rw [xs.N];exact NK h) (by rw [xs.sc];exact Ww hc.1.1) hc.1.2 hc.2
 ·cases h
def XS.gl (xs:XS X P w K mg base lvl S Wx) {x:Str} (h:S.glob x=true):Gl X x:=by
 show X.env.scope.names.lookup x=_;rw [xs.sc];exact Hr h
theorem DM {e:Expr}{es:List Expr}{env:Env} (h:∀ x p,e≠.Starred x p):AH (e::es) env=(false,eval e env)::AH es env:=by
 cases e with
 | Starred x p=>exact absurd rfl (h x p)
 | _=>rfl
def Ji:Expr->Bool
 | .Starred _ _=>false
 | _=>true
def DR {e:Expr} (h:Ji e=true):∀ x p,e≠.Starred x p:=λ x p z=>by rw [z] at h;cases h
theorem Qh {env:Env}{pos:Pos}:∀ {es:List Expr},es.all Ji=true->(Dk pos (AH es env)).any (·.1)=false
 | [],_=>rfl
 | e::es,h=>by
  rw [ID,A9] at h;rw [DM (DR h.1)];show (false || (Dk pos (AH es env)).any (·.1))=false;rw [Qh h.2];rfl
def Ku:Expr->Bool
 | .Slice _ _ _ _=>false
 | _=>true
theorem Nj {b:Expr} (h:Ku b=true):Nu b:=by
 intro o i;cases b with
 | Slice _ _ _ _=>cases h
 | _=>rfl
def Vq (b:Expr):Operator->Option (PV->Nat->PV->Nat->Option (PV×Nat))
 | .Add=>some Az
 | .Sub=>some Br
 | .Mult=>some Cv
 | .FloorDiv=>some Fl
 | .Mod=>some A0
 | .Pow=>some OI
 | _=>none
def qR {a b:Expr}{op:Operator}{o:PV->Nat->PV->Nat->Option (PV×Nat)}{f g:Fx}{vs vs':List Nat}{pos:Pos} (h:Vq b op=some o) (hv:∀ i∈vs,M.Ms i=false) (hK:M.K=X.K) (ha:PE X a (tE M f vs)) (hb:PE X b (tE M g vs')):PE X (.BinOp a op b pos) (tE M (Ab o f g) (vs++vs')):=by
 cases op <;> cases h
 ·exact zA hv hK ha hb
 ·exact Pc kc (λ _ _ _=>trivial) hv ha hb
 ·exact jj hv ha hb
 ·exact Pc zF (λ _ _=>Ub) hv ha hb
 ·exact Pc zb (λ _ _=>TZ) hv ha hb
 ·exact Pc vU (λ _ _=>Uc) hv ha hb
def Gr:Expr->Bool
 | .Set _ _ _=>false
 | _=>true
def RI (b:Expr):EB->Option (PV->Nat->PV->Nat->Option (PV×Nat))
 | .Lt=>some (AS λ i j=>decide (i < j))
 | .LtE=>some (AS λ i j=>decide (i<=j))
 | .Gt=>some (AS λ i j=>decide (j < i))
 | .GtE=>some (AS λ i j=>decide (j<=i))
 | .Eq=>some (Ap false)
 | .NotEq=>some (Ap true)
 | .Is=>some (Gg false)
 | .IsNot=>some (Gg true)
 | .In=>if Gr b=true then some (Dn false) else none
 | .NotIn=>if Gr b=true then some (Dn true) else none
theorem WL {op:EB}{b:Expr} (h:Gr b=true):Kx op b=false:=by
 cases b with
 | Set _ _ _=>cases h
 | _=>rfl
def vG {op:EB}{o:PV->Nat->PV->Nat->Option (PV×Nat)}{f g:Fx}{vs vs':List Nat}{b:Expr} (h:RI b op=some o) (hu:X.A.units + 64 < Cj) (hv:∀ i∈vs,M.Ms i=false) (hK:M.K=X.K):
  ∃ r,OpR X (Cy op) r/\Kx op b=false/\∀ σ H Q,tE M (Ab o f g) (vs++vs') σ H Q->Jv r (tE M f vs) (tE M g vs') σ H Q:=by
 cases op
 ·cases h;exact ⟨_,xU hu,GH _ (by decide) (by decide),λ σ H Q h=>El hv (λ x d y e z c v w H fps f1 f2 Q ho o1 o2 dj nz zd lf=>XW hK ho o1 o2 lf) h⟩
 ·cases h;exact ⟨_,zG hu,GH _ (by decide) (by decide),λ σ H Q h=>El hv (λ x d y e z c v w H fps f1 f2 Q ho o1 o2 dj nz zd lf=>XW hK ho o1 o2 lf) h⟩
 ·cases h;exact ⟨_,VC,GH _ (by decide) (by decide),λ σ H Q h=>El hv (λ x d y e z c v w H fps f1 f2 Q ho o1 o2 dj nz zd lf=>Nm ho o1 o2 lf) h⟩
 ·cases h;exact ⟨_,VB,GH _ (by decide) (by decide),λ σ H Q h=>El hv (λ x d y e z c v w H fps f1 f2 Q ho o1 o2 dj nz zd lf=>Nm ho o1 o2 lf) h⟩
 ·cases h;exact ⟨_,VA,GH _ (by decide) (by decide),λ σ H Q h=>El hv (λ x d y e z c v w H fps f1 f2 Q ho o1 o2 dj nz zd lf=>Nm ho o1 o2 lf) h⟩
 ·cases h;exact ⟨_,V9,GH _ (by decide) (by decide),λ σ H Q h=>El hv (λ x d y e z c v w H fps f1 f2 Q ho o1 o2 dj nz zd lf=>Nm ho o1 o2 lf) h⟩
 ·cases h;refine ⟨_,qq6.or zE,GH _ (by decide) (by decide),λ σ H Q h=>El hv (λ x d y e z c v w H fps f1 f2 Q ho o1 o2 dj nz zd lf=>?_) h⟩;rcases WR ho o1 o2 lf with ⟨i,j,e1,e2,q⟩ | ⟨e1,q⟩
  ·exact .inl ⟨i,j,e1,e2,by simpa using q⟩
  ·exact .inr ⟨e1,by rw [IE] at q;exact q⟩
 ·cases h;refine ⟨_,qf2.or kb,GH _ (by decide) (by decide),λ σ H Q h=>El hv (λ x d y e z c v w H fps f1 f2 Q ho o1 o2 dj nz zd lf=>?_) h⟩;rcases WR ho o1 o2 lf with ⟨i,j,e1,e2,q⟩ | ⟨e1,q⟩
  ·exact .inl ⟨i,j,e1,e2,by simpa [bne] using q⟩
  ·exact .inr ⟨e1,by rw [M5] at q;exact q⟩
 ·replace h:(if Gr b=true then some (Dn false) else none)=some o:=h;split at h
  ·rename_i hb;cases h;exact ⟨_,((xT (by omega)).or zg).or (zC hu),WL hb,λ σ H Q h=>El hv (λ x d y e z c v w H fps f1 f2 Q ho o1 o2 dj nz zd lf=>XU hK ho o1 o2 lf) h⟩
  ·cases h
 ·replace h:(if Gr b=true then some (Dn true) else none)=some o:=h;split at h
  ·rename_i hb;cases h;exact ⟨_,((yP (by omega)).or yR).or (yQ hu),WL hb,λ σ H Q h=>El hv (λ x d y e z c v w H fps f1 f2 Q ho o1 o2 dj nz zd lf=>XU hK ho o1 o2 lf) h⟩
  ·cases h
def Gs:EB->Option (Int->Int->Bool)
 | .Lt=>some λ i j=>decide (i < j)
 | .LtE=>some λ i j=>decide (i<=j)
 | .Gt=>some λ i j=>decide (j < i)
 | .GtE=>some λ i j=>decide (j<=i)
 | .Eq=>some λ i j=>decide (i=j)
 | _=>none
def ka:OpR X (Cy .Eq) (FA λ i j=>.bl (decide (i=j))):=λ pins s σ H x y v u Q I rx ry h=>xx pins s σ H x y v u Q I rx ry (by
 obtain ⟨i,j,rfl,rfl,q⟩:=h;refine ⟨rfl,?_⟩;rw [WH];exact q)
def UI {op:EB}{p:Int->Int->Bool} (h:Gs op=some p):OpR X (Cy op) (FA λ i j=>.bl (p i j))/\op≠.In/\op≠.NotIn:=by
 cases op <;> cases h
 ·exact ⟨ka,by decide,by decide⟩
 ·exact ⟨VC,by decide,by decide⟩
 ·exact ⟨VB,by decide,by decide⟩
 ·exact ⟨VA,by decide,by decide⟩
 ·exact ⟨V9,by decide,by decide⟩
def Fi (p q:Int->Int->Bool) (f g h:Fx):Fx:=λ ρ=>(f ρ).bind λ (x,_,ρ1)=>(g ρ1).bind λ (y,_,ρ2)=>match x,y with
 | .int i,.int j=>if p i j=true then (h ρ2).bind λ (z,_,ρ3)=>(match z with
  | .int k=>.ok (.bl (q j k),om,ρ3)
  | _=>.no) else .ok (.bl false,om,ρ2)
 | _,_=>.no
theorem Yu {p q:Int->Int->Bool}{f g h:Fx}{vs v1 v2 v3:List Nat}{σ:St}{H:Hp}{Q:VK} (hq:tE M (Fi p q f g h) vs σ H Q):Ss (FA λ i j=>.bl (p i j)) (FA λ i j=>.bl (q i j)) (tE M f v1) (tE M g v2) (tE M h v3) σ H Q:=by
 obtain ⟨ρ,fps,rep,qq⟩:=hq;refine ⟨ρ,fps,rep,?_⟩;unfold Fi at qq;cases ef:f ρ with
 | no=>rw [ef] at qq;exact qq
 | exc c=>rw [ef] at qq;exact qq
 | ok p0=>
  obtain ⟨x,d,ρ1⟩:=p0;rw [ef] at qq;intro v H1 fps1 f1 k1 g1 rep1 o1 t1;refine ⟨ρ1,fps1,rep1,?_⟩;dsimp only [Rz.bind] at qq;cases eg:g ρ1 with
  | no=>rw [eg] at qq;exact qq
  | exc c=>rw [eg] at qq;exact λ H' fps' k=>qq H' fps' (k1.trans k)
  | ok p2=>
   obtain ⟨y,e,ρ2⟩:=p2;rw [eg] at qq;intro w H2 fps2 f2 k2 g2 rep2 o2 t2;cases x with
   | int i=>
    cases y with
    | int j=>
     dsimp only at qq;rw [Own] at o1 o2;obtain ⟨rfl,rfl⟩:=o1;obtain ⟨rfl,rfl⟩:=o2;refine ⟨i,j,rfl,rfl,p i j,rfl,?_⟩;by_cases hp:p i j=true
     ·rw [if_pos hp] at qq ⊢;refine ⟨ρ2,fps2,rep2,?_⟩;cases eh:h ρ2 with
      | no=>rw [eh] at qq;exact qq
      | exc c=>rw [eh] at qq;exact λ H' fps' k=>qq H' fps' ((k1.trans k2).trans k)
      | ok p3=>
       obtain ⟨z,c,ρ3⟩:=p3;rw [eh] at qq;intro u H3 fps3 f3 k3 g3 rep3 o3 t3;cases z with
       | int k=>
        dsimp only at qq;rw [Own] at o3;obtain ⟨rfl,rfl⟩:=o3;exact ⟨j,k,rfl,rfl,qq _ H3 fps3 [] ((k1.trans k2).trans k3) ((g1.trans g2).trans g3) rep3 (by rw [Own];exact ⟨rfl,rfl⟩) ⟨λ _ z=>(nomatch z),λ _ z=>nomatch z⟩⟩
       | _=>exact qq.elim
     ·rw [if_neg hp] at qq ⊢;exact qq _ H2 fps2 [] (k1.trans k2) (g1.trans g2) rep2 (by rw [Own];exact ⟨rfl,rfl⟩) ⟨λ _ z=>(nomatch z),λ _ z=>nomatch z⟩
    | _=>exact qq.elim
   | _=>exact qq.elim
def Cu (f g:Fx):Fx:=λ ρ=>(f ρ).bind λ (x,_,ρ1)=>match x with
 | .bl true=>g ρ1
 | .bl false=>.ok (.bl false,om,ρ1)
 | _=>.no
def By (f g:Fx):Fx:=λ ρ=>(f ρ).bind λ (x,_,ρ1)=>match x with
 | .bl true=>.ok (.bl true,om,ρ1)
 | .bl false=>g ρ1
 | _=>.no
def Cq:PV->Nat->Option (PV×Nat)
 | .bl b,_=>some (.bl (!b),om)
 | _,_=>none
variable {f g:Fx}{vs vs':List Nat}{σ:St}{H:Hp}{Q:VK}
theorem Nc {f:Fx}{ρ ρ1:Ag}{fps fps1:AX}{H H1:Hp} (k1:KD M H fps H1 fps1) (g1:Agr M ρ ρ1) (rep1:Rep M ρ1 σ H1 fps1) (hs:∀ i∈vs,i∈vs')
  (q:match f ρ1 with
   | .ok (x,d,ρ')=>∀ v H' fps' fp,KD M H fps H' fps'->Agr M ρ ρ'->Rep M ρ' σ H' fps'->Own M.K H' (Zt M vs' fps' fp) x d v fp->Temp M vs' H H' fps' fp->Q v H'
   | .exc c=>∀ H' fps',KD M H fps H' fps'->M.W σ c H'
   | .no=>False):tE M f vs σ H1 Q:=by
 refine ⟨ρ1,fps1,rep1,?_⟩;cases eg:f ρ1 with
 | no=>rw [eg] at q;exact q
 | exc c=>rw [eg] at q;exact λ H' fps' k=>q H' fps' (k1.trans k)
 | ok p2=>
  obtain ⟨x,d,ρ2⟩:=p2;rw [eg] at q;exact λ v H' fps' fp k g r o t=>q v H' fps' fp (k1.trans k) (g1.trans g) r (o.weak λ a h=>Zt.mono hs h) ⟨λ a ha=>(by
   have e:=t.new a ha;cases e':H a with
   | none=>rfl
   | some o=>exact absurd e (k1.dom a (by rw [e'];simp))),t.ndj⟩
theorem kM (hq:tE M (Cu f g) (vs++vs') σ H Q):VE (tE M f vs) (tE M g vs') σ H Q:=by
 obtain ⟨ρ,fps,rep,q⟩:=hq;refine ⟨ρ,fps,rep,?_⟩;unfold Cu at q;cases ef:f ρ with
 | no=>rw [ef] at q;exact q
 | exc c=>rw [ef] at q;exact q
 | ok p=>
  obtain ⟨x,d,ρ1⟩:=p;rw [ef] at q;intro v H1 fps1 f1 k1 g1 rep1 o1 t1;dsimp only [Rz.bind] at q;cases x with
  | bl b=>
   rw [Own] at o1;refine ⟨b,o1.1,?_⟩;cases b with
   | true=>exact Nc k1 g1 rep1 (λ i hi=>Bq _ hi) q
   | false=>exact q (.bl false) H1 fps1 [] k1 g1 rep1 (by rw [Own];exact ⟨rfl,rfl⟩) ⟨λ _ z=>(nomatch z),λ _ z=>nomatch z⟩
  | _=>exact q.elim
theorem zM (hq:tE M (By f g) (vs++vs') σ H Q):LO (tE M f vs) (tE M g vs') σ H Q:=by
 obtain ⟨ρ,fps,rep,q⟩:=hq;refine ⟨ρ,fps,rep,?_⟩;unfold By at q;cases ef:f ρ with
 | no=>rw [ef] at q;exact q
 | exc c=>rw [ef] at q;exact q
 | ok p=>
  obtain ⟨x,d,ρ1⟩:=p;rw [ef] at q;intro v H1 fps1 f1 k1 g1 rep1 o1 t1;dsimp only [Rz.bind] at q;cases x with
  | bl b=>
   rw [Own] at o1;refine ⟨b,o1.1,?_⟩;cases b with
   | false=>exact Nc k1 g1 rep1 (λ i hi=>Bq _ hi) q
   | true=>exact q (.bl true) H1 fps1 [] k1 g1 rep1 (by rw [Own];exact ⟨rfl,rfl⟩) ⟨λ _ z=>(nomatch z),λ _ z=>nomatch z⟩
  | _=>exact q.elim
theorem kO (hq:tE M (Ay Cq f) vs σ H Q):VH (tE M f vs) σ H Q:=by
 refine Mj (r:=λ x H1 Q=>∃ c,x=.bl c/\Q (.bl (!c)) H1) (λ x d z c v H fps f1 Q ho o1 nz zd lf=>?_) hq;cases x with
 | bl b=>cases ho;rw [Own] at o1;exact ⟨b,o1.1,DK lf⟩
 | _=>cases ho
end
section
variable {X:Cx}{M:Fm}{f g:Fx}{vs vs':List Nat}{σ:St}{H:Hp}{Q:VK}
end
section
variable {X:Cx}{M:Fm}{f g:Fx}{vs vs':List Nat}{o e:Expr}{apos cpos:Pos}
end
def Bz (c:Fb) (f g:Fx):Fx:=λ ρ=>(c ρ).bind λ (b,ρ1)=>if b=true then f ρ1 else g ρ1
section
variable {X:Cx}{M:Fm}{c:Fb}{f g:Fx}{vs vs':List Nat}{σ:St}{H:Hp}{Q:VK}
theorem zL (hq:tE M (Bz c f g) (vs++vs') σ H Q):Vo (tT M c) (tE M f vs) (tE M g vs') σ H Q:=by
 obtain ⟨ρ,fps,rep,q⟩:=hq;refine ⟨ρ,fps,rep,?_⟩;unfold Bz at q;cases ec:c ρ with
 | no=>rw [ec] at q;exact q
 | exc c=>rw [ec] at q;exact q
 | ok p=>
  obtain ⟨b,ρ1⟩:=p;rw [ec] at q;intro H1 fps1 k1 g1 rep1;dsimp only [Rz.bind] at q;cases b with
  | true=>exact Nc k1 g1 rep1 (λ i hi=>BG _ hi) q
  | false=>exact Nc k1 g1 rep1 (λ i hi=>Bq _ hi) q
def jf {t a b:Expr}{pos:Pos} (ht:PT X t (tT M c)) (ha:PE X a (tE M f vs)) (hb:PE X b (tE M g vs')):PE X (.IfExp t a b pos) (tE M (Bz c f g) (vs++vs')):=BD (vZ ht ha hb) λ σ H Q q=>zL q
def LP (t u v:TT):TT:=λ σ H Q=>t σ H λ c H1=>if c=true then u σ H1 Q else v σ H1 Q
theorem zu {t a b:Expr}{pos:Pos}{tA tB tC:TT} (ht:PT X t tA) (ha:PT X a tB) (hb:PT X b tC):PT X (.IfExp t a b pos) (LP tA tB tC):=by
 intro pins s σ H Q I h;rw [arm_isTrue_IfExp];refine AM (AG (ht pins s σ H _ I h) λ d s1 ⟨H1,I1,q1⟩=>?_);cases d with
 | true=>exact ha pins s1 σ H1 Q I1 q1
 | false=>exact hb pins s1 σ H1 Q I1 q1
theorem xg:bT (Bz c f g)=λ ρ=>(c ρ).bind λ (b,ρ1)=>if b=true then bT f ρ1 else bT g ρ1:=by
 funext ρ;unfold bT Bz;dsimp only;cases c ρ with
 | no=>rfl
 | exc c=>rfl
 | ok p=>
  obtain ⟨b,ρ1⟩:=p;cases b <;> rfl
theorem zW {Q:Bool->Hp->Prop} (hq:tT M (bT (Bz c f g)) σ H Q):LP (tT M c) (tT M (bT f)) (tT M (bT g)) σ H Q:=by
 rw [xg] at hq;obtain ⟨ρ,fps,rep,q⟩:=hq;refine ⟨ρ,fps,rep,?_⟩;dsimp only at q;cases ef:c ρ with
 | no=>rw [ef] at q;exact q
 | exc c=>rw [ef] at q;exact q
 | ok p=>
  obtain ⟨b,ρ1⟩:=p;rw [ef] at q;intro H1 fps1 k1 g1 rep1;dsimp only [Rz.bind] at q;cases b with
  | false=>
   refine ⟨ρ1,fps1,rep1,?_⟩;rw [if_neg (by decide)] at q;cases eg:bT g ρ1 with
   | no=>rw [eg] at q;exact q
   | exc c=>rw [eg] at q;exact λ H' fps' k=>q H' fps' (k1.trans k)
   | ok p2=>rw [eg] at q;exact λ H' fps' k g r=>q H' fps' (k1.trans k) (g1.trans g) r
  | true=>
   refine ⟨ρ1,fps1,rep1,?_⟩;rw [if_pos rfl] at q;cases eg:bT f ρ1 with
   | no=>rw [eg] at q;exact q
   | exc c=>rw [eg] at q;exact λ H' fps' k=>q H' fps' (k1.trans k)
   | ok p2=>rw [eg] at q;exact λ H' fps' k g r=>q H' fps' (k1.trans k) (g1.trans g) r
end
end QQ
namespace PySem.SeqAt
open AutoSeq1 (wpAny_loadPart')
open MeetsSeq MeetsSeq2 MeetsSeq3 SeqRoads2
def LtAt (A:AZ) (s:Aj) (y x:Ae) (b:Bool):Prop:=
 ∀ (prog:AF) (w:AB) (E:Ae->Aj->Prop) (Q:Ae->Aj->Prop),Q (.bool b) s->Av (Au prog w) A (richCompare .Lt y x) Q E s
def Ck (e l:Nat->Bool) (fin:Bool):List Nat->Bool
 | []=>fin
 | i::r=>if e i=true then Ck e l fin r else l i
theorem y9 (l b:Addr) (items items2:Array Ae) (n n2:Nat) (dd dd2:Option Addr) (sl sl2:Array (Option Ae)) (e lt:Nat->Bool) (k:Nat):
  ∀ i:Nat,i<=min items.size items2.size->min items.size items2.size - i=k->Meets (vf9.«list.__eq__.loop» ⟨[.ref l,.ref b,rawInt i,rawInt 0],[]⟩)
   (λ A R s=>s.heap.get? l=some { cls:=.type "list",dict:=dd,data:=.seq items n,slots:=sl }/\s.heap.get? b=some { cls:=.type "list",dict:=dd2,data:=.seq items2 n2,slots:=sl2 } /\
    (∀ j (h1:j < items.size) (h2:j < items2.size),EqAt A.in1 s items[j] items2[j] (e j)/\LtAt A.in1 s items[j] items2[j] (lt j)) /\
    R (.ok (.ret (.bool (Ck e lt (decide (items.size < items2.size)) ((AI (min items.size items2.size)).drop i))))) s):=by
 induction k with
 | zero=>
  intro i hle hk prog w A R s h;obtain ⟨hp,g,d,tk,os⟩:=s;obtain ⟨hl,hb,he,h⟩:=h
  wp_walk using wpAny_loadPart' hl,wpAny_loadPart' hb
  have hd:(AI (min items.size items2.size)).drop i=[]:=by simp;omega
  rw [hd] at h;have fin:R (.ok (.ret (.bool (decide (items.size < items2.size))))) ⟨hp,g,d,tk,os⟩:=h;by_cases h1:i < items.size
  ·have hi1:items[((i:Nat):Int).toNat]?=some items[i]:=by simp [h1]
   have hi2:items2[((i:Nat):Int).toNat]?=none:=by simp;omega
   rw [hi1,hi2]
   wp_walk using wpAny_loadPart' hl,wpAny_loadPart' hb
   exact fin
  ·have hi1:items[((i:Nat):Int).toNat]?=none:=by simp;omega
   rw [hi1]
   wp_walk using wpAny_loadPart' hl,wpAny_loadPart' hb
   exact fin
 | succ k ih=>
  intro i hle hk prog w A R s h;obtain ⟨hp,g,d,tk,os⟩:=s;obtain ⟨hl,hb,he,h⟩:=h
  wp_walk using wpAny_loadPart' hl,wpAny_loadPart' hb
  have hlt:i < items.size:=by omega
  have hlt2:i < items2.size:=by omega
  have hi1:items[((i:Nat):Int).toNat]?=some items[i]:=by simp [hlt]
  have hi2:items2[((i:Nat):Int).toNat]?=some items2[i]:=by simp [hlt2]
  have hd:(AI (min items.size items2.size)).drop i=i::(AI (min items.size items2.size)).drop (i + 1):=by
   rw [KR (by rw [EY];omega),Zu]
  have hc:((i:Int) + 1)=((i + 1:Nat):Int):=by push_cast;rfl
  rw [hd] at h;rw [hi1,hi2];refine AM ((he i hlt hlt2).1 prog w _ _ ?_);cases hb':e i with
  | true=>
   unfold Ck at h;rw [hb',if_pos rfl] at h
   wp_walk
   rw [hc];exact ⟨plainId_quiet NS _,LI entry_eq_loop (by
    rw [Around.under_plainId NS _];exact ih (i + 1) (by omega) (by omega) prog w A R _ ⟨hl,hb,he,h⟩)⟩
  | false=>
   unfold Ck at h;rw [hb',if_neg CF] at h
   wp_walk using wpAny_loadPart' hl,wpAny_loadPart' hb
   rw [hi1,hi2];dsimp only;refine AM ((he i hlt hlt2).2 prog w _ _ ?_)
   wp_walk
   exact h
def y4 (l b:Addr) (items items2:Array Ae) (n n2:Nat) (dd dd2:Option Addr) (sl sl2:Array (Option Ae)) (e lt:Nat->Bool):
  Meets (vf9.«list.__lt__» ⟨[.ref l,.ref b],[]⟩)
   (λ A R s=>s.heap.get? l=some { cls:=.type "list",dict:=dd,data:=.seq items n,slots:=sl }/\s.heap.get? b=some { cls:=.type "list",dict:=dd2,data:=.seq items2 n2,slots:=sl2 } /\
    (∀ j (h1:j < items.size) (h2:j < items2.size),EqAt A.in1 s items[j] items2[j] (e j)/\LtAt A.in1 s items[j] items2[j] (lt j)) /\
    R (.ok (.ret (.bool (Ck e lt (decide (items.size < items2.size)) (AI (min items.size items2.size)))))) s):=by
 intro prog w A R s h;obtain ⟨hp,g,d,tk,os⟩:=s;obtain ⟨hl,hb,he,h⟩:=h;have f3:=AutoSeq1.sub_list_list
 wp_walk using wpAny_loadPart' hl,wpAny_loadPart' hb
 exact ⟨plainId_quiet NS _,LI entry_eq_loop (by
  rw [Around.under_plainId NS _];exact y9 l b items items2 n n2 dd dd2 sl sl2 e lt _ 0 (Gp _) rfl prog w A R _ ⟨hl,hb,he,by simpa using h⟩)⟩
def ug (l b:Addr) (items items2:Array Ae) (n n2:Nat) (dd dd2:Option Addr) (sl sl2:Array (Option Ae)) (e lt:Nat->Bool):
  Meets (vf9.«tuple.__lt__» ⟨[.ref l,.ref b],[]⟩)
   (λ A R s=>s.heap.get? l=some { cls:=.type "tuple",dict:=dd,data:=.seq items n,slots:=sl }/\s.heap.get? b=some { cls:=.type "tuple",dict:=dd2,data:=.seq items2 n2,slots:=sl2 } /\
    (∀ j (h1:j < items.size) (h2:j < items2.size),EqAt A.in1 s items[j] items2[j] (e j)/\LtAt A.in1 s items[j] items2[j] (lt j)) /\
    R (.ok (.ret (.bool (Ck e lt (decide (items.size < items2.size)) (AI (min items.size items2.size)))))) s):=
 .of_wp λ prog w A R s h=>by
  obtain ⟨hp,g,d,tk,os⟩:=s;obtain ⟨hl,hb,he,h⟩:=h;have f2:=AutoSeq1.sub_tuple_tuple;have hZ:(items.toList.zip items2.toList).length=min items.size items2.size:=by simp
  wp_walk using wpAny_loadPart' hl,wpAny_loadPart' hb,wpAny_forIn_list _ (λ rest b s'=>b.1=none/\s'=⟨hp,g,d,tk,os⟩/\∃ i,rest=(items.toList.zip items2.toList).drop i /\
   R (.ok (.ret (.bool (Ck e lt (decide (items.size < items2.size)) ((AI (min items.size items2.size)).drop i))))) ⟨hp,g,d,tk,os⟩) _
  case turn=>
   rintro ⟨y,x⟩ rest b s' ⟨hb',rfl,i,hz,hR⟩;have hlt:i < (items.toList.zip items2.toList).length:=by
    rcases YM i (items.toList.zip items2.toList).length with h' | h'
    ·exact h'
    ·rw [Z6 h'] at hz;cases hz
   have hm:i < min items.size items2.size:=hZ ▸ hlt;have h1:i < items.size:=Cb hm (Pl _ _);have h2:i < items2.size:=Cb hm (T5 _ _);rw [KR hlt] at hz;injection hz with hyx hrest
   have hy:y=items[i]:=by have:=congrArg Prod.fst hyx;simpa using this
   have hx:x=items2[i]:=by have:=congrArg Prod.snd hyx;simpa using this
   subst hy hx;have hd:(AI (min items.size items2.size)).drop i=i::(AI (min items.size items2.size)).drop (i + 1):=by
    rw [KR (by rw [EY];omega),Zu]
   rw [hd] at hR;unfold Ck at hR;refine AM ((he i h1 h2).1 prog w _ _ ?_);cases hy:e i with
   | true=>
    rw [hy,if_pos rfl] at hR
    wp_walk
    exact ⟨rfl,rfl,i + 1,hrest,hR⟩
   | false=>
    rw [hy,if_neg CF] at hR;have h2':=(he i h1 h2).2;unfold LtAt at h2';generalize richCompare .Lt items[i] items2[i]=rc at h2' ⊢
    wp_walk
    refine h2' prog w _ _ ?_
    wp_walk
    exact ⟨_,rfl,hR⟩
  case fin=>
   rintro ⟨b1,b2⟩ s' ⟨hb',rfl,i,hz,hR⟩;simp only at hb';subst hb';have hge:min items.size items2.size<=i:=by
    rcases YM i (items.toList.zip items2.toList).length with h' | h'
    ·rw [KR h'] at hz;cases hz
    ·exact hZ ▸ h'
   rw [Z6 (by simpa using hge)] at hR
   wp_walk
   exact ⟨_,rfl,hR⟩
  case h=>
   exact ⟨rfl,rfl,0,rfl,h⟩
section
variable {A:AZ}{s:Aj}
def LtAt.lists {l b:Addr}{items items2:Array Ae}{e lt:Nat->Bool} (hl:s.heap.IsList l items) (hb:s.heap.IsList b items2) (hu:A.units < Cj)
  (he:∀ j (h1:j < items.size) (h2:j < items2.size),EqAt A.in1 s items[j] items2[j] (e j)/\LtAt A.in1 s items[j] items2[j] (lt j)):LtAt A s (.ref l) (.ref b) (Ck e lt (decide (items.size < items2.size)) (AI (min items.size items2.size))):=λ prog w E Q h=>by
 obtain ⟨⟨cls,dd,data,sl⟩,ho,hc,n,hd⟩:=id hl;obtain ⟨⟨cls2,dd2,data2,sl2⟩,ho2,hc2,n2,hd2⟩:=id hb;simp only at hc hd hc2 hd2;subst hc hd hc2 hd2;exact richCompare_meets_room (op:=.Lt) ⟨_,ho,rfl⟩ ⟨_,ho2,rfl⟩ F.slot_list_lt F.entry_list_lt (F.args_list_lt_2 _ _) (y4 l b items items2 n n2 dd dd2 sl sl2 e lt)
  ⟨ho,ho2,he,show Value.bool _≠Value.notImplemented/\Q (.bool _) s from ⟨(λ x=>nomatch x),h⟩⟩ hu
def LtAt.tuples {l b:Addr}{items items2:Array Ae}{e lt:Nat->Bool} (hl:s.heap.IsTuple l items) (hb:s.heap.IsTuple b items2) (hu:A.units < Cj)
  (he:∀ j (h1:j < items.size) (h2:j < items2.size),EqAt A.in1 s items[j] items2[j] (e j)/\LtAt A.in1 s items[j] items2[j] (lt j)):LtAt A s (.ref l) (.ref b) (Ck e lt (decide (items.size < items2.size)) (AI (min items.size items2.size))):=λ prog w E Q h=>by
 obtain ⟨⟨cls,dd,data,sl⟩,ho,hc,n,hd⟩:=id hl;obtain ⟨⟨cls2,dd2,data2,sl2⟩,ho2,hc2,n2,hd2⟩:=id hb;simp only at hc hd hc2 hd2;subst hc hd hc2 hd2;exact richCompare_meets_room (op:=.Lt) ⟨_,ho,rfl⟩ ⟨_,ho2,rfl⟩ F.slot_tuple_lt F.entry_tuple_lt (F.args_tuple_lt_2 _ _) (ug l b items items2 n n2 dd dd2 sl sl2 e lt)
  ⟨ho,ho2,he,show Value.bool _≠Value.notImplemented/\Q (.bool _) s from ⟨(λ x=>nomatch x),h⟩⟩ hu
end
end PySem.SeqAt
namespace QQ
open PySem PySem.Spec PyProof.Rows L2 PySem.W
def DB {α:Type} (lt:Nat->Nat->Bool):KasT α->α
 | .ret a=>a
 | .ask i j k=>DB lt (k (lt i j))
def K8 {α:Type} (n:Nat) (lt:Nat->Nat->Bool):KasT α->Bool
 | .ret _=>true
 | .ask i j k=>decide (i < n) && decide (j < n) && K8 n lt (k (lt i j))
theorem X2 {α:Type}{cmp:Nat->Nat->(Bool->Aj->Prop)->Aj->Prop}{n:Nat}{lt:Nat->Nat->Bool}{s:Aj} (hc:∀ i j,i < n->j < n->∀ C:Bool->Aj->Prop,C (lt i j) s->cmp i j C s):∀ (t:KasT α) (Q:α->Aj->Prop),K8 n lt t=true->Q (DB lt t) s->t.kasWp cmp Q s
 | .ret _,_,_,h=>h
 | .ask i j k,Q,ok,h=>by
  unfold K8 at ok;rw [A9,A9] at ok;exact hc i j (of_decide_eq_true ok.1.1) (of_decide_eq_true ok.1.2) _ (X2 hc _ Q ok.2 h)
section
variable {prog:AF}{w:AB}{A:AZ}{E:Ae->Aj->Prop}{s:Aj}
structure Asks (prog:AF) (w:AB) (A:AZ) (us:List Ae) (κ:SortKind) (lt:Nat->Nat->Bool) (s:Aj):Prop where
 kind:∀ Q:SortKind->Aj->Prop,Q κ s->Av (Au prog w) A (keyKind' us.toArray) Q (λ _ _=>False) s
 less:∀ i j,i < us.length->j < us.length->∀ C:Bool->Aj->Prop,C (lt i j) s->Av (Au prog w) A (keyLt' κ (us.getD i Value.none) (us.getD j Value.none)) C (λ _ _=>False) s
def yZ {a:Addr}{us:List Ae}{n:Nat}{κ:SortKind}{lt:Nat->Nat->Bool}{P:Fin->Aj->Prop} (ho:s.heap.get? a=some (Bt "list" us.toArray n)) (h1:2<=us.length) (h64:us.length < 64)
  (hok:K8 us.length lt (GY us.length)=true) (hask:∀ h',(∀ b o,b≠a->s.heap.get? b=some o->h'.get? b=some o)->Asks prog w A us κ lt { s with heap:=h' })
  (h:P (.done (.ret .none)) { s with heap:=sortedHeap s.heap a us (KA ((DB lt (GY us.length)).toList.map λ i=>us.getD i Value.none)) }):Av (Au prog w) A (vf9.«list.sort» ⟨[.ref a],[]⟩) P E s:=by
 rw [list_sort_plain];have la:=Bu ho;have z:=Jm;refine AM (NQ ho rfl ?_);refine AM (LF ho rfl ?_ (by simp;omega));obtain ⟨e1,oa⟩:∃ e1,(s.heap.update a (CD λ _=>#[])).get? a=some (Bt "list" #[] e1):=⟨_,Rh ho (λ _=>#[])⟩
 refine AM (NM oa rfl ?_);refine AM (wpAny_newTuple ?_);refine AM (Ky ?_);refine I0 ?_;have ob:(((s.heap.update a (CD λ _=>#[])).push (Bt "tuple" us.toArray 0)).push (Bt "list" #[] 0)).get? a=some (Bt "list" #[] e1):=by
  rw [NW _ _ _ (by rw [LD,Jq];exact Cn (JF la)),NW _ _ _ (by rw [Jq];exact Cn la)];exact oa
 show Av (Au prog w) A _ P E { s with heap:=((s.heap.update a (CD λ _=>#[])).push (Bt "tuple" us.toArray 0)).push (Bt "list" #[] 0) };dsimp only;have lz:us.toArray.size=us.length:=by simp
 rw [if_neg (by omega),if_neg (by omega)];have keep:∀ b o,b≠a->s.heap.get? b=some o->(((s.heap.update a (CD λ _=>(#[]:Array Ae))).push (Bt "tuple" us.toArray 0)).push (Bt "list" #[] 0)).get? b=some o:=λ b o hb e=>
  CM _ (CM _ (by rw [Heap.get?_update_ne _ _ _ _ hb];exact e))
 have ask:=hask _ keep;refine AM (DH (ask.kind (λ κ' s0=>κ'=κ/\s0={ s with heap:=((s.heap.update a (CD λ _=>(#[]:Array Ae))).push (Bt "tuple" us.toArray 0)).push (Bt "list" #[] 0) }) ⟨rfl,rfl⟩) (λ κ' s0 hk=>?_) λ _ _ x=>x.elim);obtain ⟨rfl,rfl⟩:=hk;let p:Array Nat:=DB lt (GY us.length);refine AM (DH (kat_run (ks:=us) (vs:=us) (Q:=λ st' s'=>s'={ s with heap:=((s.heap.update a (CD λ _=>(#[]:Array Ae))).push (Bt "tuple" us.toArray 0)).push (Bt "list" #[] 0) }/\p.size=us.length/\arrOf st'=p.map (kas_item (us.toArray.zip us.toArray))/\failedOf st'=none) (G:=λ p' s'=>p'=p/\s'={ s with heap:=((s.heap.update a (CD λ _=>(#[]:Array Ae))).push (Bt "tuple" us.toArray 0)).push (Bt "list" #[] 0) }) rfl h1 h64 (λ p' st' s' a1 a2 a3 a4=>by obtain ⟨rfl,rfl⟩:=a4;exact ⟨rfl,a1,a2,a3⟩) (X2 (n:=us.length) (lt:=lt) (λ i j hi hj C hC=>ask.less i j hi hj C hC) _ _ hok ⟨rfl,rfl⟩)) ?_ λ _ _ e=>e);rintro ⟨⟨⟩,st'⟩ s' ⟨rfl,hp,har,hf⟩;dsimp only;have hout:=kat_snds rfl har;have hsz:(KA (p.toList.map λ i=>us.getD i Value.none)).size=us.length:=by rw [C1,AD,MC,hp]
 rw [hout];refine AM (NM ob rfl ?_);refine AM (LF ob rfl ?_ (hsz2:=AW (M1 hsz) (by omega)));rw [hf];simp only [bne_self_eq_false,Zs,if_false];exact Cs h
def uB {l:Addr}{us:List Ae}{κ:SortKind}{lt:Nat->Nat->Bool}{Q:Ae->Aj->Prop} (hl:s.heap.IsList l us.toArray) (h1:2<=us.length) (h64:us.length < 64)
  (hok:K8 us.length lt (GY us.length)=true) (hask:∀ h',(∀ b o,s.heap.get? b=some o->h'.get? b=some o)->Asks prog w A.in1.in1 us κ lt { s with heap:=h' })
  (h:Q (.ref (s.heap.objs.size + 1)) { s with heap:=Kv s.heap us (KA ((DB lt (GY us.length)).toList.map λ i=>us.getD i Value.none)) }):Av (Au prog w) A (call (.builtin "sorted") [.ref l]) Q E s:=by
 have z:=Jm;refine R3 kind_sorted plain_sorted entry_sorted (args_sorted1 _) ?_;unfold vf9.«sorted»;refine AM (m:=checkCount "sorted" 1 1 _) (Cs ?_);refine AM (collect_list hl ?_ (by omega));refine AM (Ky ?_ (by omega));have lz:((s.heap.push (Bt "list" #[] 0)).update s.heap.objs.size (CD (·++us.toArray))).objs.size=s.heap.objs.size + 1:=by
  rw [Jq,LD]
 have oL:(((s.heap.push (Bt "list" #[] 0)).update s.heap.objs.size (CD (·++us.toArray))).push (Bt "list" us.toArray 0)).get? (s.heap.objs.size + 1)=some (Bt "list" us.toArray 0):=by
  rw [<- lz];exact Dx _ rfl
 show Av _ _ _ _ _ { s with heap:=((s.heap.push (Bt "list" #[] 0)).update s.heap.objs.size (CD (·++us.toArray))).push (Bt "list" us.toArray 0) };rw [lz];refine AM (I0 (Rl Rc ⟨_,oL,rfl⟩ Rg (yZ (κ:=κ) oL h1 h64 hok (λ h' keep=>?_) ⟨_,rfl,?_⟩) (QY _)))
 ·refine hask h' λ b o e=>keep b o ?_ ?_
  ·exact Cn (JF (Bu e))
  ·have hb:=Bu e;exact CM _ (by
    rw [Heap.get?_update_ne _ _ _ _ (Cn hb)];exact CM _ e)
 ·exact Cs ⟨_,rfl,h⟩
end
end QQ
namespace PySem.SeqAt
mutual
def CU:Bs->Bs->Bool
 | .int i,.int j=>decide (i < j)
 | .list xs,.list ys=>Bp xs ys
 | .tuple xs,.tuple ys=>Bp xs ys
 | _,_=>false
def Bp:List Bs->List Bs->Bool
 | _,[]=>false
 | [],_::_=>true
 | x::xs,y::ys=>if Cz x y=true then Bp xs ys else CU x y
end
mutual
def BS:Bs->Bs->Bool
 | .int _,.int _=>true
 | .list xs,.list ys=>C2 xs ys
 | .tuple xs,.tuple ys=>C2 xs ys
 | _,_=>false
def C2:List Bs->List Bs->Bool
 | [],_=>true
 | _::_,[]=>true
 | x::xs,y::ys=>BS x y && C2 xs ys
end
def Sk (xs ys:List Bs) (j:Nat):Bool:=CU (xs.getD j .none) (ys.getD j .none)
theorem XZ (e l:Nat->Bool) (fin:Bool) (f:Nat->Nat):∀ L:List Nat,Ck e l fin (L.map f)=Ck (λ i=>e (f i)) (λ i=>l (f i)) fin L
 | []=>rfl
 | i::r=>by rw [BF];unfold Ck;rw [XZ e l fin f r]
theorem QH:∀ xs ys:List Bs,Ck (pairEq xs ys) (Sk xs ys) (decide (xs.length < ys.length)) (AI (min xs.length ys.length))=Bp xs ys
 | xs,[]=>by
  rw [IG,Nat.min_zero,YV];show decide (xs.length < 0)=Bp xs [];rw [decide_eq_false (by omega)];cases xs <;> rw [Bp]
 | [],y::ys=>by
  rw [IG,Nat.zero_min,YV,Bp];show decide (0 < (y::ys).length)=true;rw [Bl];exact decide_eq_true (by omega)
 | x::xs,y::ys=>by
  have ih:=QH xs ys;rw [Bl,Bl,show min (xs.length + 1) (ys.length + 1)=min xs.length ys.length + 1 by omega,Z5,Bp];unfold Ck;rw [XZ,show decide (xs.length + 1 < ys.length + 1)=decide (xs.length < ys.length) from decide_eq_decide.mpr (by omega)];show (if Cz x y=true then Ck (pairEq xs ys) (Sk xs ys) (decide (xs.length < ys.length)) (AI (min xs.length ys.length)) else CU x y)=_;rw [ih]
def vQ {A:AZ}{s:Aj}{i j:Int}{t u:Tok}:LtAt A s (.int i t) (.int j u) (decide (i < j)):=λ prog w E Q h=>wpAny_lt_int h
mutual
theorem U7:∀ (da db:Bs) (A:AZ) (s:Aj) (a b:Ae) (as bs:List Addr),Reads s.heap a da as->Reads s.heap b db bs->BS da db=true->da.canLay0=true->db.canLay0=true ->
  A.units + min da.depth db.depth < Cj->LtAt A s a b (CU da db)
 | .int i,.int j,A,s,_,_,_,_,ra,rb,_,_,_,_=>by
  cases ra;cases rb;rw [CU];exact vQ
 | .list xs,.list ys,A,s,_,_,_,_,ra,rb,hc,ha,hb,hu=>by
  cases ra with
  | @list l o vs n _ as₁ h1 h2 h3 h4=>
   cases rb with
   | @list l' o' vs' n' _ bs₁ k1 k2 k3 k4=>
    have n1:vs.size=xs.length:=by simpa using ReadsAll.length _ _ _ h4
    have n2:vs'.size=ys.length:=by simpa using ReadsAll.length _ _ _ k4
    rw [CU,<- QH xs ys,<- n1,<- n2];rw [BS] at hc;refine LtAt.lists ⟨_,h1,h2,_,h3⟩ ⟨_,k1,k2,_,k3⟩ (room_here hu) λ j j1 j2=>⟨?_,?_⟩
    ·have:=eqAt_readsAll xs ys A.in1 s vs.toList vs'.toList _ _ h4 k4 ha hb (room_in hu) j (by simpa using j1) (by simpa using j2)
     simpa using this
    ·have:=Qd xs ys A.in1 s vs.toList vs'.toList _ _ h4 k4 hc ha hb (room_in hu) j (by simpa using j1) (by simpa using j2)
     simpa using this
 | .tuple xs,.tuple ys,A,s,_,_,_,_,ra,rb,hc,ha,hb,hu=>by
  cases ra with
  | @tuple l o vs n _ as₁ h1 h2 h3 h4=>
   cases rb with
   | @tuple l' o' vs' n' _ bs₁ k1 k2 k3 k4=>
    have n1:vs.size=xs.length:=by simpa using ReadsAll.length _ _ _ h4
    have n2:vs'.size=ys.length:=by simpa using ReadsAll.length _ _ _ k4
    rw [CU,<- QH xs ys,<- n1,<- n2];rw [BS] at hc;refine LtAt.tuples ⟨_,h1,h2,_,h3⟩ ⟨_,k1,k2,_,k3⟩ (room_here hu) λ j j1 j2=>⟨?_,?_⟩
    ·have:=eqAt_readsAll xs ys A.in1 s vs.toList vs'.toList _ _ h4 k4 ha hb (room_in hu) j (by simpa using j1) (by simpa using j2)
     simpa using this
    ·have:=Qd xs ys A.in1 s vs.toList vs'.toList _ _ h4 k4 hc ha hb (room_in hu) j (by simpa using j1) (by simpa using j2)
     simpa using this
 | .none,_,_,_,_,_,_,_,_,_,hc,_,_,_=>by rw [BS] at hc;cases hc;all_goals (intros;contradiction)
 | .bool _,_,_,_,_,_,_,_,_,_,hc,_,_,_=>by rw [BS] at hc;cases hc;all_goals (intros;contradiction)
 | .str _,_,_,_,_,_,_,_,_,_,hc,_,_,_=>by rw [BS] at hc;cases hc;all_goals (intros;contradiction)
 | .dict _,_,_,_,_,_,_,_,_,_,hc,_,_,_=>by rw [BS] at hc;cases hc;all_goals (intros;contradiction)
 | .int _,.none,_,_,_,_,_,_,_,_,hc,_,_,_=>by rw [BS] at hc;cases hc;all_goals (intros;contradiction)
 | .int _,.bool _,_,_,_,_,_,_,_,_,hc,_,_,_=>by rw [BS] at hc;cases hc;all_goals (intros;contradiction)
 | .int _,.str _,_,_,_,_,_,_,_,_,hc,_,_,_=>by rw [BS] at hc;cases hc;all_goals (intros;contradiction)
 | .int _,.list _,_,_,_,_,_,_,_,_,hc,_,_,_=>by rw [BS] at hc;cases hc;all_goals (intros;contradiction)
 | .int _,.tuple _,_,_,_,_,_,_,_,_,hc,_,_,_=>by rw [BS] at hc;cases hc;all_goals (intros;contradiction)
 | .int _,.dict _,_,_,_,_,_,_,_,_,hc,_,_,_=>by rw [BS] at hc;cases hc;all_goals (intros;contradiction)
 | .list _,.none,_,_,_,_,_,_,_,_,hc,_,_,_=>by rw [BS] at hc;cases hc;all_goals (intros;contradiction)
 | .list _,.bool _,_,_,_,_,_,_,_,_,hc,_,_,_=>by rw [BS] at hc;cases hc;all_goals (intros;contradiction)
 | .list _,.int _,_,_,_,_,_,_,_,_,hc,_,_,_=>by rw [BS] at hc;cases hc;all_goals (intros;contradiction)
 | .list _,.str _,_,_,_,_,_,_,_,_,hc,_,_,_=>by rw [BS] at hc;cases hc;all_goals (intros;contradiction)
 | .list _,.tuple _,_,_,_,_,_,_,_,_,hc,_,_,_=>by rw [BS] at hc;cases hc;all_goals (intros;contradiction)
 | .list _,.dict _,_,_,_,_,_,_,_,_,hc,_,_,_=>by rw [BS] at hc;cases hc;all_goals (intros;contradiction)
 | .tuple _,.none,_,_,_,_,_,_,_,_,hc,_,_,_=>by rw [BS] at hc;cases hc;all_goals (intros;contradiction)
 | .tuple _,.bool _,_,_,_,_,_,_,_,_,hc,_,_,_=>by rw [BS] at hc;cases hc;all_goals (intros;contradiction)
 | .tuple _,.int _,_,_,_,_,_,_,_,_,hc,_,_,_=>by rw [BS] at hc;cases hc;all_goals (intros;contradiction)
 | .tuple _,.str _,_,_,_,_,_,_,_,_,hc,_,_,_=>by rw [BS] at hc;cases hc;all_goals (intros;contradiction)
 | .tuple _,.list _,_,_,_,_,_,_,_,_,hc,_,_,_=>by rw [BS] at hc;cases hc;all_goals (intros;contradiction)
 | .tuple _,.dict _,_,_,_,_,_,_,_,_,hc,_,_,_=>by rw [BS] at hc;cases hc;all_goals (intros;contradiction)
theorem Qd:∀ (xs ys:List Bs) (A:AZ) (s:Aj) (vs ws:List Ae) (as bs:List Addr),GW s.heap vs xs as->GW s.heap ws ys bs->C2 xs ys=true->D7 xs=true->D7 ys=true ->
  A.units + min (DI xs) (DI ys) < Cj->∀ j (h1:j < vs.length) (h2:j < ws.length),LtAt A s vs[j] ws[j] (Sk xs ys j)
 | [],_,_,_,_,_,_,_,ra,_,_,_,_,_,j,h1,_=>by cases ra;exact absurd h1 (YU _)
 | _::_,[],_,_,_,_,_,_,_,rb,_,_,_,_,j,_,h2=>by cases rb;exact absurd h2 (YU _)
 | x::xs,y::ys,A,s,_,_,_,_,ra,rb,hc,ha,hb,hu,j,h1,h2=>by
  have ha':x.canLay0=true/\D7 xs=true:=by simpa [D7] using ha
  have hb':y.canLay0=true/\D7 ys=true:=by simpa [D7] using hb
  rw [C2,A9] at hc;cases ra with
  | cons r rs=>
   cases rb with
   | cons r' rs'=>
    cases j with
    | zero=>exact U7 x y A s _ _ _ _ r r' hc.1 ha'.1 hb'.1 (room_head hu)
    | succ j=>exact Qd xs ys A s _ _ _ _ rs rs' hc.2 ha'.2 hb'.2 (room_tail hu) j (HK h1) (HK h2)
end
end PySem.SeqAt
namespace QQ
open PySem PySem.Spec PyProof.Rows L2 PySem.W PySem.SeqAt
section
variable {prog:AF}{w:AB}{A:AZ}{E:Ae->Aj->Prop}{s:Aj}
theorem U9 {Q:Bool->Aj->Prop}{fin:Bool}:∀ (xs ys:List Bs) (vs ws:List Ae) (as bs:List Addr) (i:Nat),GW s.heap vs xs as->GW s.heap ws ys bs->C2 xs ys=true->D7 xs=true->D7 ys=true ->
  A.units + min (DI xs) (DI ys) < Cj->fin=decide (xs.length < ys.length)->Q (Bp xs ys) s->KatLex prog w A false fin Q (vs.zip ws) i s
 | [],ys,_,ws,_,_,i,ra,rb,_,_,_,_,hf,h=>by
  cases ra;rw [List.zip_nil_left];refine kat_nil ?_;rw [hf];cases ys with
  | nil=>rw [Bp] at h;exact h
  | cons y ys=>rw [Bp] at h;exact h
 | x::xs,[],vs,_,_,_,i,ra,rb,_,_,_,_,hf,h=>by
  cases rb;rw [List.zip_nil_right];refine kat_nil ?_;rw [hf];rw [Bp] at h;exact h
 | x::xs,y::ys,_,_,_,_,i,ra,rb,hc,ha,hb,hu,hf,h=>by
  have ha':x.canLay0=true/\D7 xs=true:=by simpa [D7] using ha
  have hb':y.canLay0=true/\D7 ys=true:=by simpa [D7] using hb
  rw [C2,A9] at hc;rw [Bp] at h;cases ra with
  | cons r rs=>
   cases rb with
   | cons r' rs'=>
    rw [List.zip_cons_cons];refine kat_cons (eqAt_reads x y A s _ _ _ _ r r' ha'.1 hb'.1 (room_head hu) prog w _ _ ?_);cases he:Cz x y with
    | true=>
     rw [he,if_pos rfl] at h;refine kat_yes (U9 xs ys _ _ _ _ (i + 1) rs rs' hc.2 ha'.2 hb'.2 (room_tail hu) ?_ h);rw [hf,Bl,Bl];exact decide_eq_decide.mpr (by omega)
    | false=>
     rw [he,if_neg CF] at h;refine kat_no (kat_one _ _ ?_);exact U7 x y A s _ _ _ _ r r' hc.1 ha'.1 hb'.1 (room_head hu) prog w _ _ h
theorem Qq:∀ {us:List Ae}{Ds:List Bs}{as:List Addr},GW s.heap us Ds as->∀ i,i < us.length->∃ bs,Reads s.heap (us.getD i Value.none) (Ds.getD i .none) bs
 | _,_,_,.nil,i,h=>by cases h
 | _,_,_,.cons r rs,0,_=>⟨_,r⟩
 | _,_,_,.cons r rs,i + 1,h=>Qq rs i (HK h)
def Js:Bs->Bool
 | .tuple (.tuple _::_)=>true
 | _=>false
theorem X0 {M:Model}:∀ {us:List Ae}{Ds:List Bs}{as:List Addr},GW s.heap us Ds as->Ds.all Js=true->∃ fs,fs.length=us.length/\KatTups s.heap us fs/\∀ v∈fs,Looks M s.heap (typeOf v) (.type "tuple")
 | _,_,_,.nil,_=>⟨[],rfl,trivial,λ _ z=>nomatch z⟩
 | _,_,_,.cons r rs,h=>by
  rw [ID,A9] at h;obtain ⟨fs,l,k,t⟩:=X0 (M:=M) rs h.2;cases r with
  | @tuple a o vs n xs as1 h1 h2 h3 h4=>
   cases xs with
   | nil=>cases h.1
   | cons x xs=>
    cases x with
    | tuple ys=>
     generalize e0:vs.toList=l0 at h4;cases h4 with
     | @cons v0 vr _ _ _ _ r0 rr=>
      cases r0 with
      | @tuple a2 o2 vs2 n2 _ as2 g1 g2 g3 g4=>
       have hf:vs[0]?=some (.ref a2):=by
        rw [<- TJ,e0];rfl
       refine ⟨.ref a2::fs,by rw [Bl,Bl,l],KatTups.cons h1 h2 h3 hf k,λ v hv=>?_⟩;rcases jb2.mp hv with rfl | hv
       ·have:Looks M s.heap (typeOf (.ref a2)) o2.cls:=(Looks.ld g1).andThen .now
        rw [g2] at this;exact this
       ·exact t v hv
    | _=>cases h.1
  | _=>cases h.1
theorem XT:∀ {Ds:List Bs},D7 Ds=true->∀ D∈Ds,D.canLay0=true
 | [],_,_,h=>by cases h
 | x::xs,hl,D,hD=>by
  have h2:x.canLay0=true/\D7 xs=true:=by simpa [D7] using hl
  rcases jb2.mp hD with e | hD
  ·rw [e];exact h2.1
  ·exact XT h2.2 D hD
def yn {us:List Ae}{Ds:List Bs}{as:List Addr} (r:GW s.heap us Ds as) (hn:0 < us.length) (hf:Ds.all Js=true) (hc:∀ D∈Ds,∀ D'∈Ds,BS D D'=true) (hl:D7 Ds=true) (hu:A.units + 64 < Cj) (hd:∀ D∈Ds,D.depth<=40):
  Asks prog w A us (tuples' false) (λ i j=>CU (Ds.getD i .none) (Ds.getD j .none)) s:=by
 have len:=ReadsAll.length _ _ _ r;refine ⟨λ Q hq=>?_,λ i j hi hj C hC=>?_⟩
 ·obtain ⟨fs,l,k,t⟩:=X0 (M:=Au prog w) r hf;exact kat_kind k (by omega) t (by decide) hq
 ·obtain ⟨bi,ri⟩:=Qq r i hi;obtain ⟨bj,rj⟩:=Qq r j hj;have gm:∀ i,i < us.length->Ds.getD i .none∈Ds:=λ i h=>by
   rw [Ba,BR (by omega)];exact E2 (by omega)
  have mi:=gm i hi;have mj:=gm j hj;have ti:=ja7.mp hf _ mi;have tj:=ja7.mp hf _ mj;have cij:=hc _ mi _ mj;have lay:=XT hl;have li:=lay _ mi;have lj:=lay _ mj;have di:=hd _ mi;have dj:=hd _ mj;revert hC;generalize Ds.getD i .none=D at ri ti cij li di;generalize Ds.getD j .none=D' at rj tj cij lj dj;generalize us.getD i Value.none=u at ri ⊢;generalize us.getD j Value.none=u' at rj ⊢;intro hC;cases ri with
  | @tuple a o vs n xs as1 h1 h2 h3 h4=>
   cases rj with
   | @tuple a' o' vs' n' ys as1' k1 k2 k3 k4=>
    rw [BS] at cij;have hC':C (Bp xs ys) s:=by
     have:CU (.tuple xs) (.tuple ys)=Bp xs ys:=by rw [CU]
     rw [<- this];exact hC
    have n1:vs.size=xs.length:=by simpa using ReadsAll.length _ _ _ h4
    have n2:vs'.size=ys.length:=by simpa using ReadsAll.length _ _ _ k4
    refine kat_lt h1 h3 k1 k3 (U9 xs ys _ _ _ _ 0 h4 k4 cij li lj ?_ (by rw [n1,n2]) hC');have e:(PyData.tuple xs).depth=DI xs + 1:=by simp [PyData.depth]
    have:=Pl (DI xs) (DI ys)
    omega
   | _=>cases tj
  | _=>cases ti
end
def IC (r:List Nat) (i j:Nat):Bool:=decide (r.getD i 0 < r.getD j 0)
def HA (n:Nat) (r:List Nat):Bool:=K8 n (IC r) (GY n) && ((DB (IC r) (GY n)).toList.map (λ i=>r.getD i 0) == AI n) && (DB (IC r) (GY n)).toList.all λ i=>decide (i < n)
def Ip:Nat->List Nat->List (List Nat)
 | 0,_=>[[]]
 | k + 1,av=>av.flatMap λ x=>(Ip k (av.erase x)).map (x::·)
theorem Us:∀ (l:List Nat) (av:List Nat),l.Nodup->(∀ x∈l,x∈av)->l∈Ip l.length av
 | [],av,_,_=>jb1.mpr rfl
 | x::l,av,hn,ha=>by
  rw [jh2] at hn;rw [Bl];unfold Ip;refine ji8.mpr ⟨x,ha x AR,List.mem_map_of_mem (Us l _ hn.2 λ y hy=>?_)⟩;refine (List.mem_erase_of_ne (λ e=>?_)).mpr (ha y (AO _ hy));rw [e] at hy;exact hn.1 hy
def w9:(Ip 2 (AI 2)).all (HA 2)=true:=by decide +kernel
def wA:(Ip 3 (AI 3)).all (HA 3)=true:=by decide +kernel
def wB:(Ip 4 (AI 4)).all (HA 4)=true:=by decide +kernel
def wC:(Ip 5 (AI 5)).all (HA 5)=true:=by decide +kernel
def wD:(Ip 6 (AI 6)).all (HA 6)=true:=by decide +kernel
def SN {r:List Nat} (h2:2<=r.length) (h6:r.length<=6) (hn:r.Nodup) (hl:∀ x∈r,x < r.length):HA r.length r=true:=by
 have m:=Us r (AI r.length) hn λ x hx=>jc7.mpr (hl x hx);generalize r.length=n at h2 h6 m
 have:n=2\/n=3\/n=4\/n=5\/n=6:=by omega
 rcases this with rfl | rfl | rfl | rfl | rfl
 ·exact ja7.mp w9 _ m
 ·exact ja7.mp wA _ m
 ·exact ja7.mp wB _ m
 ·exact ja7.mp wC _ m
 ·exact ja7.mp wD _ m
section
variable {prog:AF}{w:AB}{A:AZ}{E:Ae->Aj->Prop}{s:Aj}
def w6 {a:Addr}{u:Ae}{n:Nat}{P:Fin->Aj->Prop} (ho:s.heap.get? a=some (Bt "list" [u].toArray n)) (h:P (.done (.ret .none)) { s with heap:=sortedHeap s.heap a [u] [u].toArray }):Av (Au prog w) A (vf9.«list.sort» ⟨[.ref a],[]⟩) P E s:=by
 rw [list_sort_plain];have la:=Bu ho;have z:=Jm;refine AM (NQ ho rfl ?_);refine AM (LF ho rfl ?_ (by simp;omega));obtain ⟨e1,oa⟩:∃ e1,(s.heap.update a (CD λ _=>#[])).get? a=some (Bt "list" #[] e1):=⟨_,Rh ho (λ _=>#[])⟩
 refine AM (NM oa rfl ?_);refine AM (wpAny_newTuple ?_);refine AM (Ky ?_);refine I0 ?_;have ob:(((s.heap.update a (CD λ _=>#[])).push (Bt "tuple" [u].toArray 0)).push (Bt "list" #[] 0)).get? a=some (Bt "list" #[] e1):=by
  rw [NW _ _ _ (by rw [LD,Jq];exact Cn (JF la)),NW _ _ _ (by rw [Jq];exact Cn la)];exact oa
 show Av (Au prog w) A _ P E { s with heap:=((s.heap.update a (CD λ _=>#[])).push (Bt "tuple" [u].toArray 0)).push (Bt "list" #[] 0) };dsimp only;have lz:[u].toArray.size < 2:=by simp
 rw [if_pos lz,if_pos lz];refine AM (Cs ?_);rw [StateT.run_pure];refine AM (Cs ?_);dsimp only;refine AM (NM ob rfl ?_);have ea:YG (λ x:Ae×Ae=>x.snd) (arrOf (SortSt.mk' general' ([u].toArray.zip [u].toArray) #[] 7 none))=[u].toArray:=by
  show YG (λ x:Ae×Ae=>x.snd) ([u].toArray.zip [u].toArray)=_;simp
 rw [ea];refine AM (LF ob rfl ?_ (hsz2:=by simp));simp only [bne_self_eq_false,Zs,if_false];exact Cs h
def ue {l:Addr}{u:Ae}{Q:Ae->Aj->Prop} (hl:s.heap.IsList l [u].toArray) (h:Q (.ref (s.heap.objs.size + 1)) { s with heap:=Kv s.heap [u] [u].toArray }):Av (Au prog w) A (call (.builtin "sorted") [.ref l]) Q E s:=by
 have z:=Jm;refine R3 kind_sorted plain_sorted entry_sorted (args_sorted1 _) ?_;unfold vf9.«sorted»;refine AM (m:=checkCount "sorted" 1 1 _) (Cs ?_);refine AM (collect_list hl ?_ (by show 1<=_;omega));refine AM (Ky ?_ (by show 1<=_;omega));have lz:((s.heap.push (Bt "list" #[] 0)).update s.heap.objs.size (CD (·++[u].toArray))).objs.size=s.heap.objs.size + 1:=by
  rw [Jq,LD]
 have oL:(((s.heap.push (Bt "list" #[] 0)).update s.heap.objs.size (CD (·++[u].toArray))).push (Bt "list" [u].toArray 0)).get? (s.heap.objs.size + 1)=some (Bt "list" [u].toArray 0):=by
  rw [<- lz];exact Dx _ rfl
 show Av _ _ _ _ _ { s with heap:=((s.heap.push (Bt "list" #[] 0)).update s.heap.objs.size (CD (·++[u].toArray))).push (Bt "list" [u].toArray 0) };rw [lz];refine AM (I0 (Rl Rc ⟨_,oL,rfl⟩ Rg (w6 oL ⟨_,rfl,?_⟩) (QY _)));exact Cs ⟨_,rfl,h⟩
end
def DO (Ds:List Bs):List Nat:=Ds.map λ D=>(Ds.filter λ D'=>CU D' D).length
def Ir (Ds:List Bs):Bool:=decide (2<=Ds.length/\Ds.length<=6) && Ds.all Js && (Ds.all λ D=>Ds.all λ D'=>BS D D') && decide (DO Ds).Nodup && ((DO Ds).all λ k=>decide (k < Ds.length)) &&
 (AI Ds.length).all λ i=>(AI Ds.length).all λ j=>CU (Ds.getD i .none) (Ds.getD j .none) == IC (DO Ds) i j
def BW (Ds:List Bs):List Nat:=if Ds.length=1 then [0] else (DB (IC (DO Ds)) (GY Ds.length)).toList
theorem UY:∀ {ws:List V}{us:List Ae},Vals ws us->∀ i,i < ws.length->RelV (ws.getD i .non) (us.getD i Value.none)
 | _,_,.nil,i,h=>by cases h
 | _,_,.cons r rs,0,_=>r
 | _,_,.cons r rs,i + 1,h=>UY rs i (HK h)
theorem Va {ws:List V}{us:List Ae} (h:Vals ws us):∀ p:List Nat,(∀ i∈p,i < ws.length)->Vals (p.map λ i=>ws.getD i .non) (p.map λ i=>us.getD i Value.none)
 | [],_=>.nil
 | i::p,hp=>.cons (UY h i (hp i AR)) (Va h p λ j hj=>hp j (AO _ hj))
section
variable {X:Cx}{M:Fm}{fa:Fa}{vs:List Nat}{e:Expr}{es:List Expr}{pos p:Pos}
def Sj {Ds:List Bs} (h:Ds.length=1\/Ir Ds=true):(∀ i∈BW Ds,i < Ds.length)/\(BW Ds).length=Ds.length:=by
 rcases h with h | h
 ·unfold BW;rw [if_pos h,h];exact ⟨λ i hi=>by rw [jb1.mp hi];decide,rfl⟩
 ·unfold Ir at h;rw [A9,A9,A9,A9,A9] at h;obtain ⟨⟨⟨⟨⟨h1,_⟩,_⟩,h4⟩,h5⟩,_⟩:=h;have h1:=of_decide_eq_true h1;have lr:(DO Ds).length=Ds.length:=AD _;have ok:=SN (r:=DO Ds) (by omega) (by omega) (of_decide_eq_true h4) (λ x hx=>by rw [lr];exact of_decide_eq_true (ja7.mp h5 x hx));rw [lr] at ok;unfold HA at ok;rw [A9,A9] at ok;unfold BW;rw [if_neg (by omega)];refine ⟨λ i hi=>of_decide_eq_true (ja7.mp ok.2 i hi),?_⟩
  have:=congrArg YI (eq_of_beq ok.1.2)
  rw [AD,EY] at this;exact this
def ye (hu:X.A.units + 70 < Cj):CallR X (.builtin "sorted") (λ xs H Q=>∃ q ws ys d Z f Ds,xs=[.ref q]/\Co X.K H q ws/\Own X.K H Z (.lst ys) d (.ref q) f/\AN (BL 20) ys=some Ds/\(Ds.length=1\/Ir Ds=true)/\∀ l,H l=none->Q (.ref l) (Aq H l (.lst ((BW Ds).map λ i=>ws.getD i .non)))):=by
 intro pins s σ H xs us Q I rv h;obtain ⟨q,ws,ys,d,Z,f,Ds,rfl,hq,ow,hD,hg,k⟩:=h;obtain ⟨u,rfl,rx⟩:=Fw rv;cases rx;obtain ⟨its,r,pl,hz⟩:=I.list hq;have hlen:=r.length;obtain ⟨as,rd⟩:=GI I 21 (.lst ys) d _ f (.ref q) (.list Ds) (by show (AN (BL 20) ys).map PyData.list=_;rw [hD];rfl) ow rfl;have lay:=Kr (λ x D h=>EN 20 x D h) hD;have rda:∃ bs,GW s.heap its Ds bs:=by
  obtain ⟨o,n,e1,e2,e3,e4⟩:=pl;cases rd with
  | @list a o' vs n' xs as1 h1 h2 h3 h4=>
   rw [e1] at h1;cases h1;rw [e4] at h3;cases h3;exact ⟨_,by simpa using h4⟩
 obtain ⟨bs,rda⟩:=rda;have ln:=ReadsAll.length _ _ _ rda;have oo:=Sj hg;have go:EP X pins σ Q (.ref (s.heap.objs.size + 1)) { s with heap:=Kv s.heap its (KA ((BW Ds).map λ i=>its.getD i Value.none)) }:=by
  obtain ⟨c,hc⟩:=sortedAll_at s.heap its (KA ((BW Ds).map λ i=>its.getD i Value.none));refine ⟨.ref _,_,I.laid (h':=Kv s.heap its (KA ((BW Ds).map λ i=>its.getD i Value.none))) (t':=s.toks) (o:=.lst ((BW Ds).map λ i=>ws.getD i .non)) (λ b o e=>sortedAll_old e) (Mz _) ?_,rfl,k _ (I.hok.fresh (Mz _))⟩;refine ⟨by rw [AD,oo.2];omega,_,c,Va r _ (λ i hi=>by have:=oo.1 i hi;omega),hc⟩
 by_cases h1:Ds.length=1
 ·match its,ln with
  | [u0],_=>
   refine ue pl.isList ?_
   have:(BW Ds).map (λ i=>[u0].getD i Value.none)=[u0]:=by unfold BW;rw [if_pos h1];rfl
   rw [this] at go;exact go
  | [],ln=>rw [h1] at ln;cases ln
  | _::_::_,ln=>rw [h1] at ln;simp at ln
 ·have hg:=hg.resolve_left h1;have eo:BW Ds=(DB (IC (DO Ds)) (GY its.length)).toList:=by unfold BW;rw [if_neg h1,ln]
  rw [eo] at go;unfold Ir at hg;rw [A9,A9,A9,A9,A9] at hg;obtain ⟨⟨⟨⟨⟨g1,g2⟩,g3⟩,g4⟩,g5⟩,g6⟩:=hg;have g1:=of_decide_eq_true g1;have lr:(DO Ds).length=Ds.length:=AD _;have ok:=SN (r:=DO Ds) (by omega) (by omega) (of_decide_eq_true g4) (λ x hx=>by rw [lr];exact of_decide_eq_true (ja7.mp g5 x hx));rw [lr] at ok;unfold HA at ok;rw [A9,A9,<- ln] at ok;refine uB (κ:=tuples' false) (lt:=IC (DO Ds)) pl.isList (by omega) (by omega) ok.1.1 (λ h' kp=>?_) go;have as:=yn (prog:=X.prog) (w:=X.w) (A:=X.A.in1.in1) (s:={ s with heap:=h' }) (ReadsAll.keeps kp rda) (by omega) g2 (λ D hD D' hD'=>ja7.mp (ja7.mp g3 D hD) D' hD') lay.1 (by show X.A.units + 1 + 1 + 64 < Cj;omega) (λ D hD=>by
   have:∀ (l:List Bs),D∈l->DI l<=20->D.depth<=40:=λ l=>by
    induction l with
    | nil=>intro h;cases h
    | cons x xs ih=>
     intro h hd;have e:DI (x::xs)=max x.depth (DI xs):=by simp [DI]
     rw [e] at hd;rcases jb2.mp h with e2 | h
     ·rw [e2];omega
     ·exact ih h (by omega)
   exact this Ds hD lay.2)
  refine ⟨as.kind,λ i j hi hj C hC=>as.less i j hi hj C ?_⟩
  have:=eq_of_beq (ja7.mp (ja7.mp g6 i (jc7.mpr (by omega))) j (jc7.mpr (by omega)))
  rw [this];exact hC
def OV:List (PV×Nat)->Option (PV×Nat)
 | [(.lst ys,_)]=>(match AN (BL 20) ys with
  | some Ds=>if Ds.length=1\/Ir Ds=true then some (.lst ((BW Ds).map λ i=>ys.getD i .non),1) else none
  | none=>none)
 | _=>none
theorem Yi {K:Frag}{H:Hp}{Z:Addr->Prop}:∀ {ys:List PV}{ws:List V},OwnL K H Z ys 0 ws []->∀ i,i < ys.length->Own K H Z (ys.getD i .non) 0 (ws.getD i .non) []
 | [],_,_,i,h=>by cases h
 | y::ys,ws,o,i,h=>by
  rw [OwnL] at o;obtain ⟨v,s,f1,f2,rfl,e,dj,h1,h2⟩:=o;obtain ⟨rfl,rfl⟩:=jn8.mp e.symm;cases i with
  | zero=>exact h1
  | succ i=>exact Yi h2 i (HK h)
theorem Yj {K:Frag}{H:Hp}{Z:Addr->Prop}{ys:List PV}{ws:List V} (o:OwnL K H Z ys 0 ws []):∀ p:List Nat,(∀ i∈p,i < ys.length)->OwnL K H Z (p.map λ i=>ys.getD i .non) 0 (p.map λ i=>ws.getD i .non) []
 | [],_=>by rw [EG,EG,OwnL];exact ⟨rfl,rfl⟩
 | i::p,hp=>by
  rw [BF,BF,OwnL];exact ⟨_,_,[],[],rfl,rfl,(λ _ z=>nomatch z),Yi o i (hp i AR),Yj o p λ j hj=>hp j (AO _ hj)⟩
theorem Yv {f:PV->Option Bs}:∀ {xs:List PV}{Ds:List Bs},AN f xs=some Ds->Ds.length=xs.length
 | [],Ds,h=>by cases h;rfl
 | x::xs,Ds,h=>by
  unfold AN at h;split at h
  ·rename_i a r h1 h2;cases h;rw [Bl,Bl,Yv h2]
  ·cases h
end
section
variable {X:Cx}{prog:AF}{w:AB}{A:AZ}{E:Ae->Aj->Prop}{s:Aj}
def uw {A:AZ}{E:Ae->Aj->Prop}{prog:AF}{w:AB}{l:Addr}{vs:List Ae}{Q:List Ae->Aj->Prop} (hl:IsTup s.heap l vs.toArray)
  (h:Q vs { s with heap:=(s.heap.push (Bt "list" #[] 0)).update s.heap.objs.size (CD (·++vs.toArray)) }) (hsz:vs.length<=Aw):
  Av (Au prog w) A (collect (.ref l)) Q E s:=by
 obtain ⟨o,ho,hc,n,hd⟩:=id hl;unfold collect;refine AM (wpAny_runValue (LI entry_proto_collect' ?_));show Av _ _ (do again (.builtin "list.__iadd__" ⟨[<- newList [],.ref l],[]⟩)) _ _ s;refine AM (Ky (Cs ⟨Code.quiet_builtin _ (by decide +kernel),LI entry_list_iadd' ?_⟩));show Av _ _ (Vk (.ref s.heap.objs.size) (.ref l) (.ref s.heap.objs.size)) _ _ { s with heap:=s.heap.push (Bt "list" #[] 0) };unfold Vk;have ho':(s.heap.push (Bt "list" #[] 0)).get? l=some o:=CM _ ho;refine AM (wpAny_typeOf (T := "tuple") ⟨o,ho',hc⟩ ?_);have ht:(Value.type "tuple" == Value.type "tuple")=true:=by rfl
 rw [if_pos (by rw [ht];simp)];refine AM (NQ ho' hd ?_);refine AM (NQ (xs:=#[]) (n:=0) (Dx _ rfl) rfl ?_);rw [if_neg (by simp)];refine AM (LF (xs:=#[]) (n:=0) (Dx _ rfl) rfl ?_ (Gp _) (by show (#[]++vs.toArray).size<=Aw + 1;simp only [Array.size_append,C1,IG];omega));refine Cs ?_;show Av (Au prog w) A (do
   let o<-load s.heap.objs.size
   match o.data with
   | .seq xs _=>pure xs.toList
   | _=>unsupported "internal:collect") Q E { s with heap:=(s.heap.push (Bt "list" #[] 0)).update s.heap.objs.size (CD (·++vs.toArray)) }
 refine AM (wpAny_load (Rh (Dx _ rfl) _) ?_);show Av _ _ (pure ((#[]:Array Ae)++vs.toArray).toList) Q E _;rw [show ((#[]:Array Ae)++vs.toArray).toList=vs by simp];exact Cs h
def uf {A:AZ}{E:Ae->Aj->Prop}{s:Aj}{prog:AF}{w:AB}{l:Addr}{us:List Ae}{ns:List Int}{Q:Ae->Aj->Prop} (hl:IsTup s.heap l us.toArray) (hI:HD us ns) (h64:us.length < 64)
  (h:∀ (out:Array Ae) (ms:List Int),HD out.toList ms->ms.Perm ns->ms.Pairwise (·<=·)->Q (.ref (s.heap.objs.size + 1)) { s with heap:=Kv s.heap us out }):Av (Au prog w) A (call (.builtin "sorted") [.ref l]) Q E s:=by
 have z:=Jm;refine R3 kind_sorted plain_sorted entry_sorted (args_sorted1 _) ?_;unfold vf9.«sorted»;refine AM (m:=checkCount "sorted" 1 1 _) (Cs ?_);refine AM (uw hl ?_ (by omega));refine AM (Ky ?_ (by omega));have lz:((s.heap.push (Bt "list" #[] 0)).update s.heap.objs.size (CD (·++us.toArray))).objs.size=s.heap.objs.size + 1:=by
  rw [Jq,LD]
 have oL:(((s.heap.push (Bt "list" #[] 0)).update s.heap.objs.size (CD (·++us.toArray))).push (Bt "list" us.toArray 0)).get? (s.heap.objs.size + 1)=some (Bt "list" us.toArray 0):=by
  rw [<- lz];exact Dx _ rfl
 show Av _ _ _ _ _ { s with heap:=((s.heap.push (Bt "list" #[] 0)).update s.heap.objs.size (CD (·++us.toArray))).push (Bt "list" us.toArray 0) };rw [lz];refine AM (I0 (Rl Rc ⟨_,oL,rfl⟩ Rg (list_sort_tree oL hI h64 λ out ms a1 a2 a3=>⟨_,rfl,?_⟩) (QY _)));exact Cs ⟨_,rfl,h out ms a1 a2 a3⟩
def yf:CallR X (.builtin "sorted") (λ xs H Q=>∃ q ns,xs=[.ref q]/\Dq X.K H q (ns.map V.int)/\ns.length < 64/\∀ l,H l=none->Q (.ref l) (Aq H l (.lst ((He ns).map V.int)))):=by
 intro pins s σ H xs us Q I rv h;obtain ⟨q,ns,rfl,hq,hl,k⟩:=h;obtain ⟨u,rfl,rx⟩:=Fw rv;obtain rfl:u=Value.ref q:=rx;obtain ⟨its,r,pl,hz⟩:=I.tuple hq;have hlen:=r.length;rw [AD] at hlen;refine uf pl (Yt r) (by omega) λ out ms a1 a2 a3=>?_;obtain ⟨c,hc⟩:=sortedAll_at s.heap its out;have e1:ms=He ns:=Wv (a2.trans (Q9 ns).symm) a3 (Wm ns);subst e1;refine ⟨.ref _,_,I.laid (h':=Kv s.heap its out) (t':=s.toks) (o:=.lst ((He ns).map V.int)) (λ b o e=>sortedAll_old e) (Mz _) ?_,rfl,k _ (I.hok.fresh (Mz _))⟩;exact ⟨by rw [AD,(Q9 ns).length_eq];have:=Jm;omega,out.toList,c,X9 a1,hc⟩
def Wh:List (PV×Nat)->Option (PV×Nat)
 | [(.tup xs,_)]=>match Hn xs with
  | some ns=>if ns.length < 64 then some (.lst ((He ns).map PV.int),om) else none
  | none=>none
 | _=>none
end
section
variable {X:Cx}{M:Fm}{fa:Fa}{vs:List Nat}{e:Expr}{es:List Expr}{pos p:Pos}
def Hq (xs:List (PV×Nat)):Option (PV×Nat):=match Wh xs with
 | some r=>some r
 | none=>OV xs
def kG (hu:X.A.units + 70 < Cj) (hg:Gl X "sorted") (hm:X.mg "sorted" = none) (ha:PA X (e::es) (tL M fa vs)) (he:AH (e::es) X.env=(false,eval e X.env)::AH es X.env) (hpl:(Dk pos (AH es X.env)).any (·.1)=false) (hK:M.K=X.K):
  PE X (.Call (.Name "sorted" p) (e::es) [] pos) (tE M (Ak Hq fa) vs):=by
 refine BD (Ih (L2.CallR.or yf (ye hu)) hg hm rfl ha (he:=he) (hpl:=hpl)) λ σ H Q h=>Ii (λ xs z c ws H fps fp Q ho tm nz zd lf=>?_) h;unfold Hq at ho;split at ho
 ·rename_i r hr;cases ho
  left
  unfold Wh at hr;split at hr
  ·rename_i xs d;split at hr
   ·rename_i ns eb;split at hr
    ·rename_i hk;cases hr;obtain ⟨v,r',f1,f2,rfl,rfl,_,o1,h2⟩:=tm;obtain ⟨rfl,rfl⟩:=h2;obtain ⟨q,us,rfl,hs,ol⟩:=(cold (fp:=f1) o1 λ a ha=>nz a (BG _ ha)).coldT
     have:=Le eb ol
     subst this;refine ⟨q,ns,rfl,.inl (.inl hs),hk,λ l hl=>?_⟩;have ed:om=d1 ((He ns).map PV.int):=by unfold d1;rw [WM];rfl
     rw [ed] at lf;exact JW lf (XM _) hl
    ·cases hr
   ·cases hr
  ·cases hr
 ·right
  unfold OV at ho;split at ho
  ·rename_i ys d h0;split at ho
   ·rename_i Ds hD;split at ho
    ·rename_i hk;cases ho;obtain ⟨v,r',f1,f2,rfl,rfl,_,o1,h2⟩:=tm;obtain ⟨rfl,rfl⟩:=h2;have oc:=cold (fp:=f1) o1 λ a ha=>nz a (BG _ ha);obtain ⟨q,us,rfl,hs,ol⟩:=oc.coldL;refine ⟨q,us,ys,0,_,[],Ds,rfl,.inl (.inl hs),by rw [<- hK];exact oc,hD,hk,λ l hl=>?_⟩;have oo:=Sj hk;exact Na lf (Yj ol _ λ i hi=>by have:=oo.1 i hi;rw [Yv hD] at this;exact this) hl
    ·cases ho
   ·cases ho
  ·cases ho
end
open PySem PySem.Spec PyProof.Rows L2 PySem.W
section
variable {X:Cx}{M:Fm}{vs:List Nat}{e:Expr}
def Md:List PV->Option (List Bool)
 | []=>some []
 | .bl b::r=>(Md r).map (b::·)
 | _=>none
theorem YB {K:Frag}{H:Hp}{Z:Addr->Prop}:∀ {xs:List PV}{bs:List Bool}{ws:List V},Md xs=some bs->OwnL K H Z xs 0 ws []->ws=bs.map V.bl
 | [],bs,ws,h,o=>by
  cases h;rw [OwnL] at o;exact o.1
 | x::r,bs,ws,h,o=>by
  cases x with
  | bl b=>
   unfold Md at h;obtain ⟨c,h1,rfl⟩:=jb4.mp h;rw [OwnL] at o;obtain ⟨v,s,f1,f2,rfl,e,_,h2,h3⟩:=o;obtain ⟨rfl,rfl⟩:=jn8.mp e.symm;rw [Own] at h2;rw [h2.1,YB h1 h3];rfl
  | _=>cases h
theorem Ql:∀ {bs:List Bool}{us:List Ae},Vals (bs.map V.bl) us->us=bs.map Value.bool
 | [],us,h=>by cases h;rfl
 | b::bs,us,h=>by
  cases h with
  | cons r rr=>
   rw [Ql rr];cases r;rfl
theorem QO {h:Heap}:∀ bs:List Bool,GW h (bs.map Value.bool) (bs.map PyData.bool) []
 | []=>.nil
 | b::bs=>.cons (as:=[]) (bs:=[]) (.bool b) (QO bs)
theorem Sv:∀ bs:List Bool,(bs.map PyData.bool).all Shape.bool.has=true
 | []=>rfl
 | _::bs=>Sv bs
def ZD (ix:Bool) (bs:List Bool) (k:Bool):Int:=if ix=true then (bs.idxOf k:Nat) else PySem.Spec.countIn (.bool k) (bs.map .bool)
def O9 (K:Frag) (ix:Bool):V->List V->Hp->VK->Prop:=λ x xs H Q=>∃ (q:Addr) (bs:List Bool) (k:Bool),x=.ref q/\xs=[.bl k]/\Co K H q (bs.map V.bl)/\(k∈bs\/ix=false)/\bs.length<=1000/\Q (.int (ZD ix bs k)) H
def xO:Ui X "list.count" (O9 X.K false):=by
 intro pins s σ H x xs v us Q I rx rv h;obtain ⟨q,bs,k,rfl,rfl,hq,_,_,hQ⟩:=h;obtain rfl:v=Value.ref q:=rx;obtain ⟨u,rfl,ru⟩:=Fw rv;obtain rfl:u=Value.bool k:=ru;obtain ⟨its,r,pl,hz⟩:=I.list hq;obtain rfl:=Ql r;exact count_list_bools pl.isList (QO (h:=s.heap) bs) (Sv bs) ⟨.int _,H,I.tok _,⟨_,rfl⟩,hQ⟩
def xP:Ui X "list.index" (O9 X.K true):=by
 intro pins s σ H x xs v us Q I rx rv h;obtain ⟨q,bs,k,rfl,rfl,hq,hk,hl,hQ⟩:=h;have hk:k∈bs:=hk.elim id λ z=>nomatch z
 obtain rfl:v=Value.ref q:=rx;obtain ⟨u,rfl,ru⟩:=Fw rv;obtain rfl:u=Value.bool k:=ru;obtain ⟨its,r,pl,hz⟩:=I.list hq;obtain rfl:=Ql r;obtain ⟨⟨cls,dd,data,sl⟩,ho,hc,n,hd⟩:=pl.isList;cases hc;cases hd;have hj:=List.idxOf_lt_length_iff.mpr hk;have ix:∀ (j:Nat) (h1:j < (bs.map Value.bool).toArray.size) (h2:j < bs.length),isBoolOf k (bs.map Value.bool).toArray[j]=(bs[j] == k):=λ j h1 h2=>by
  have:(bs.map Value.bool).toArray[j]=Value.bool bs[j]:=by simp
  rw [this];rfl
 refine LC PySem.F.slot_list_index ⟨_,ho,rfl⟩ PySem.F.entry_list_index (PySem.F.args_list_index_2 _ _) (SeqAt.list_indexAt q (bs.map Value.bool).toArray n dd sl (Value.bool k) (isBoolOf k) (bs.idxOf k) (by simpa using hj) (by omega) ?_ λ m hm hlt=>?_) ⟨ho,λ y hy=>eq_isBoolOf k (QO (h:=s.heap) bs) (Sv bs) y (by simpa using hy) _ _,.int _,H,I.tok _,⟨_,rfl⟩,hQ⟩
 ·rw [ix _ _ hj];simp
 ·rw [ix _ _ (by omega)]
  have:=List.not_of_lt_findIdx (p:=λ y=>y == k) (xs:=bs) (i:=m) hlt
  simpa using this
def IP (ix:Bool) (i:Nat) (g:Fx):Fx:=λ ρ=>match ρ[i]? with
 | some (some (.lst xs,_))=>(match Md xs with
  | some bs=>(g ρ).bind λ (y,_,ρ1)=>(match y with
   | .bl k=>if (k∈bs\/ix=false)/\bs.length<=1000 then .ok (.int (ZD ix bs k),om,ρ1) else .no
   | _=>.no)
  | none=>.no)
 | _=>.no
theorem VF {ix:Bool}{i:Nat}{g:Fx}{σ:St}{H:Hp}{Q:VK} (hmi:M.Ms i=false) (hq:tE M (IP ix i g) (i::vs) σ H Q):Oc M.K "list" (O9 M.K ix) (CO i) (Mh (tE M g vs) Ga) σ H Q:=by
 obtain ⟨ρ,fps,rep,q⟩:=hq;unfold IP at q;obtain ⟨xs,d,e⟩:∃ xs d,ρ[i]?=some (some (.lst xs,d)):=by
  cases e:ρ[i]? with
  | none=>rw [e] at q;exact q.elim
  | some sl=>
   cases sl with
   | none=>rw [e] at q;exact q.elim
   | some p=>
    obtain ⟨x,d⟩:=p;cases x with
    | lst xs=>exact ⟨xs,d,rfl⟩
    | _=>rw [e] at q;exact q.elim
 rw [e] at q;dsimp only at q;cases en:Md xs with
 | none=>rw [en] at q;exact q.elim
 | some bs=>
  rw [en] at q;dsimp only at q;obtain ⟨v,ev,o⟩:=rep.own i _ d e;obtain ⟨a,ws,rfl,ha,ol⟩:=(Own.freeze (Z':=λ _=>False) (λ _ z=>z.elim) _ d v _ (λ _ _ z=>z) o).coldL;refine ⟨.ref a,ev,.inl ⟨rfl,_,.inl (.inl ha)⟩,?_⟩;show tE M g vs σ H λ y H2=>O9 M.K ix (.ref a) [y] H2 Q;refine ⟨ρ,fps,rep,?_⟩;cases eg:g ρ with
  | no=>rw [eg] at q;exact q
  | exc c=>rw [eg] at q;exact q
  | ok p=>
   obtain ⟨y,e',ρ1⟩:=p;rw [eg] at q;dsimp only [Rz.bind] at q ⊢;intro w H2 fps2 fp k2 g2 rep2 o2 t2;cases y with
   | bl k=>
    dsimp only at q;by_cases hk:(k∈bs\/ix=false)/\bs.length<=1000
    ·rw [if_pos hk] at q;rw [Own] at o2;obtain ⟨rfl,rfl⟩:=o2;obtain ⟨v2,ev2,o3⟩:=rep2.own i _ d (by rw [g2.1 i hmi];exact e);rw [ev] at ev2;cases ev2;obtain ⟨a2,ws2,e5,ha2,ol2⟩:=(Own.freeze (Z':=λ _=>False) (λ _ z=>z.elim) _ d _ _ (λ _ _ z=>z) o3).coldL;cases e5
     have:=YB en ol2
     subst this;exact ⟨a,bs,k,rfl,rfl,.inl (.inl ha2),hk.1,hk.2,q _ H2 fps2 [] k2 g2 rep2 (by rw [Own];exact ⟨rfl,rfl⟩) ⟨λ _ z=>(nomatch z),λ _ z=>nomatch z⟩⟩
    ·rw [if_neg hk] at q;exact q.elim
   | _=>exact q.elim
def MP (ix:Bool):Str:=if ix=true then "index" else "count"
theorem qQ {ix:Bool}{i:Nat}{g:Fx}{o:Expr}{apos cpos:Pos} (hK:M.K=X.K) (hmi:M.Ms i=false) (ho:PE X o (CO i)) (he:PE X e (tE M g vs)) (hb:∀ n,attributeBase o n X.env (eval o X.env)=eval o X.env) (hs:AH [e] X.env=[(false,eval e X.env)])
  (hf:((Dk cpos (AH [e] X.env)).all (λ x=>!x.1) && (backToKw cpos (keywordEach [] X.env)).all (λ x=>x.1.isSome) && decide (([e]:List Expr).length + ([]:List Jk).length + (if ([]:List Jk).isEmpty then 0 else 1) < 30))=true) (hl:(apos.endLine == cpos.line)=true):
  PE X (.Call (.Attribute o (MP ix) apos) [e] [] cpos) (tE M (IP ix i g) (i::vs)):=by
 cases ix with
 | true=>
  refine BD (OJ NY PySem.F.slot_list_index PySem.F.type_list_index xP ho (Et he FL hs) (hb _) hf hl hs rfl) λ σ H Q h=>?_;rw [<- hK];exact VF hmi h
 | false=>
  refine BD (OJ NY PySem.F.slot_list_count PySem.F.type_list_count xO ho (Et he FL hs) (hb _) hf hl hs rfl) λ σ H Q h=>?_;rw [<- hK];exact VF hmi h
end
open PySem PySem.Spec PyProof.Rows L2
abbrev D2:=Fx×List Nat
def FQ (d:Expr->Option D2):List Expr->Option (Fa×List Nat)
 | []=>some (Ac,[])
 | e::es=>match d e,FQ d es with
  | some (f,v),some (fa,u)=>some (Ad f fa,v++u)
  | _,_=>none
def OY (d:Expr->Option D2):List Expr->Option D2
 | []=>none
 | [e]=>d e
 | e::es=>match d e,OY d es with
  | some (f,v),some (g,u)=>some (Cu f g,v++u)
  | _,_=>none
def OC (d:Expr->Option D2):List Expr->Option D2
 | []=>none
 | [e]=>d e
 | e::es=>match d e,OC d es with
  | some (f,v),some (g,u)=>some (By f g,v++u)
  | _,_=>none
def MM:Const->Option D2
 | .int i=>some (bC (.int i),[])
 | .bool b=>some (bC (.bl b),[])
 | .none=>some (bC .non,[])
 | .str x=>some (bC (.str x),[])
 | _=>none
def Jr (x:Str):Option String:=if x = "int" then some "int" else if x = "bool" then some "bool" else if x = "str" then some "str" else if x = "list" then some "list" else if x = "tuple" then some "tuple" else if x = "dict" then some "dict" else none
def RH (x:Str):Option (List (PV×Nat)->Option (PV×Nat)):=
 if x = "len" then some Cm else if x = "all" then some Ep else if x = "max" then some Hz else if x = "min" then some Es else if x = "tuple" then some GU else if x = "list" then some Ef else if x = "sorted" then some Hq else if x = "str" then some Mf else none
def Fh (scope sc:BA):BA:={ scope with names:=scope.names.map λ (n,k)=>if (k == .free && sc.kind == .function && sc.names.lookup n == some .cell) then (n,.cell) else (n,k) }
def To (i:Nat):Str:=⟨#[2000000 + i]⟩
def Iu (sc':BA):Nat->List Str->List Str
 | _,[]=>[]
 | i,x::r=>(if DG sc' x .cell || DG sc' x .free then x else To i)::Iu sc' (i + 1) r
def NA:List Expr->Option (List Str)
 | []=>some []
 | .Name x _::r=>(NA r).map (x::·)
 | _=>none
def Ob (n:Nat):Expr->Option (List Str×(PV->Ag->Option Ag))
 | .Name x _=>some ([x],asgN n)
 | .Tuple es _ _=>(NA es).map λ xs=>(xs,Cf (K9 n xs.length))
 | _=>none
def Bm (S:Sx) (scope:BA) (xs:List Str) (vI:List Nat):Sx:=⟨Iu (Fh scope S.sc) 0 S.N++xs,Fh scope S.sc,S.ms,(AI S.N.length).map S.alF++Bo xs.length vI,S.Γ,S.Γm,false,S.xc,S.pn⟩
def N4 (S:Sx) (scope:BA) (xs:List Str) (vI:List Nat):Bool:=
 let S':=Bm S scope xs vI;decide (scope.kind=.function) && scope.names.all (λ x=>x.2 != .free || !(scope.names.contains (x.1,.cell))) && scope.names.all (λ x=>x.2 != .local || scope.names.lookup x.1 == some .local)
 && scope.names.all (λ x=>x.2 != .free || (S.sc.names.lookup x.1 == some .cell || S.sc.names.lookup x.1 == some .free))
 && (AI S.N.length).all (λ i=>match S'.N[i]? with
  | some x=>!D5 S'.sc x || (decide (S.N[i]?=some x) && D5 S.sc x && scope.names.contains (x,.free) && !DG S'.sc x .local)
  | none=>true)
 && decide S'.N.Nodup && xs.all (λ x=>DG S'.sc x .local || (DG S'.sc x .cell && scope.names.contains (x,.cell))) && decide (S.N.length≠0) && (S.ms.all λ i=>decide (i < S.N.length))
inductive Iw where
 | rng (en:List (PV×Nat)->Option (Int×Int)) (fa:Fa) (vs:List Nat)
 | seq (f:Fx) (vs:List Nat)
 | vw (v:Vw) (fa:Fa) (vs:List Nat)
def Iw.vs:Iw->List Nat
 | .rng _ _ _=>[]
 | .seq _ vs=>vs
 | .vw _ _ vs=>vs
def FZ (_:Expr) (_:Iw):Bool:=true
def Fd (d:Expr->Option D2) (S:Sx) (it:Expr):Option Iw:=match it with
 | .Call (.Name x _) [a] [] _=>if x = "range" /\ S.glob "range" = true then (match FQ d [a] with
   | some (fa,vs)=>some (.rng BU fa vs)
   | none=>none) else if x = "reversed" /\ S.glob "reversed" = true then (match FQ d [a] with
   | some (fa,vs)=>some (.vw .rev fa vs)
   | none=>none) else (match d it with
   | some (f,vs)=>some (.seq f vs)
   | none=>none)
 | .Call (.Name x _) [a,b] [] _=>if x = "range" /\ S.glob "range" = true then (match FQ d [a,b] with
   | some (fa,vs)=>some (.rng Em fa vs)
   | none=>none) else (match d it with
   | some (f,vs)=>some (.seq f vs)
   | none=>none)
 | _=>match d it with
   | some (f,vs)=>some (.seq f vs)
   | none=>none
def Mc (iw:Iw) (k:Nat) (asg:PV->Ag->Option Ag) (test:Fb) (elt:Fx):Fx:=match iw with
 | .rng en fa _=>C4 en fa k asg test elt
 | .seq f _=>BN f k asg test elt
 | .vw v fa _=>Jf v fa k asg test elt
def Bn:Fb:=λ ρ=>.ok (true,ρ)
def OZ (d:Expr->Option D2):List Expr->Option Fb
 | []=>some Bn
 | [c]=>(d c).map λ p=>bT p.1
 | _=>none
def Wb:Expr->Bool
 | .UnaryOp .USub c _=>(match c with
  | .Constant k _ _=>(match k with
   | .int i=>i == 1
   | _=>false)
  | _=>false)
 | _=>false
def dF {e:Expr} (h:Wb e=true):∃ k p3 p4,e=.UnaryOp .USub (.Constant (.int 1) k p3) p4:=by
 unfold Wb at h;split at h
 ·split at h
  ·split at h
   ·rename_i i
    have:i=1:=eq_of_beq h
    subst this;exact ⟨_,_,_,rfl⟩
   ·cases h
  ·cases h
 ·cases h
def EE:Expr->Option Str
 | .Name x _=>some x
 | _=>none
def EK {e:Expr}{x:Str} (h:EE e=some x):∃ p,e=.Name x p:=by
 cases e <;> first | (cases h;exact ⟨_,rfl⟩) | (cases h)
def Py:Expr->Option Int
 | .Constant c _ _=>(match c with
  | .int i=>some i
  | _=>none)
 | _=>none
def Wd {e:Expr}{i:Int} (h:Py e=some i):∃ k p,e=.Constant (.int i) k p:=by
 unfold Py at h;split at h
 ·split at h
  ·cases h;exact ⟨_,_,rfl⟩
  ·cases h
 ·cases h
def VT (d:Sx->Expr->Option D2) (S:Sx) (a:Expr):Option Expr->Option Expr->Option Expr->Option D2
 | none,some hi,none=>match d S a,d S hi with
  | some (f,v),some (g,_)=>some (C3 f none (some g),v)
  | _,_=>none
 | some lo,none,none=>match d S a,d S lo with
  | some (f,v),some (g,_)=>some (C3 f (some g) none,v)
  | _,_=>none
 | some lo,some hi,none=>match d S a,d S lo,d S hi with
  | some (f,v),some (g,_),some (h,_)=>some (C3 f (some g) (some h),v)
  | _,_,_=>none
 | _,_,_=>none
def VU (d:Sx->Expr->Option D2) (S:Sx) (a b:Expr):Option D2:=match b with
 | .Slice lo hi st _=>VT d S a lo hi st
 | b=>match EE a,Py b with
  | some x,some i=>(match S.slot x with
   | some j=>if S.msF j=true then none else some (Ab Ai (Aa j) (bC (.int i)),(j::S.alF j)++[])
   | none=>none)
  | _,_=>match d S a,d S b with
   | some (f,v),some (g,u)=>if Ku b=true then some (Ab Ai f g,v++u) else none
   | _,_=>none
def OA (S:Sx) (T:Str):Option Nat:=if S.glob T=true/\S.xc≠[] then (if T = "ValueError" then some 0 else match XN.findIdx? (·== T) with
 | some c=>if S.xc.contains c=true then some c else none
 | none=>none) else none
def OR (S:Sx):List Expr->Option (List Nat)
 | []=>some []
 | e::r=>match EE e,OR S r with
  | some T,some ds=>(OA S T).map (·::ds)
  | _,_=>none
def VR (d:Expr->Option D2) (S:Sx) (e c:Expr):Option D2:=match d e with
 | some (f,v)=>if S.glob "isinstance" = true then (match c with
  | .Name T _=>(match Jr T with
   | some t=>if S.glob T=true then some (Ay (Ft t) f,v) else none
   | none=>(OA S T).map λ n=>(Ay (FK [n]) f,v))
  | .Tuple es _ _=>if es.length<=100/\es≠[] then (OR S es).map λ ns=>(Ay (FK ns) f,v) else none
  | _=>none) else none
 | none=>none
def ML (S:Sx) (x:Str):Option D2:=match CN.findIdx? (λ p=>p.1 == x) with
 | some k=>if S.xc.contains (50 + k)=true/\S.glob x=true then (CN[k]?).map λ p=>(bC p.2,[]) else none
 | none=>none
def Vr (S:Sx) (d:Expr->Option D2) (o e:Expr) (at':Str) (ok:Bool):Option D2:=match (EE o).bind S.slot,d e with
 | some i,some (g,u)=>if S.msF i=false/\ok=true then (if at' = "count" then some (IP false i g,i::u) else if at' = "index" then some (IP true i g,i::u) else none) else none
 | _,_=>none
def Fc:List Comprehension->Option (Expr×Expr×List Expr)
 | []=>none
 | g::r=>(match r with
  | []=>(match g with
   | ⟨tg,it,ifs,n⟩=>if n=0 then some (tg,it,ifs) else none)
  | _::_=>none)
def jM {gs:List Comprehension}{tg it:Expr}{ifs:List Expr} (h:Fc gs=some (tg,it,ifs)):gs=[⟨tg,it,ifs,0⟩]:=by
 unfold Fc at h;split at h
 ·cases h
 ·split at h
  ·split at h;split at h
   ·rename_i hn;cases h;subst hn;rfl
   ·cases h
  ·cases h
def VQ (d:Expr->Option D2) (a:Expr) (ops:List EB) (bs:List Expr):Option D2:=match ops with
 | [op]=>(match bs with
  | [b]=>(match d a,d b,RI b op with
   | some (f,v),some (g,u),some o=>some (Ab o f g,v++u)
   | _,_,_=>none)
  | _=>none)
 | [op,op']=>(match bs with
  | [b,c]=>(match d a,d b,d c,Gs op,Gs op' with
   | some (f,_),some (g,_),some (h,_),some p,some q=>some (Fi p q f g h,[])
   | _,_,_,_,_=>none)
  | _=>none)
 | _=>none
def Hw (d:Sx->Expr->Option D2) (S:Sx):Expr->Option D2
 | .Constant c _ _=>MM c
 | .Name x _=>match S.slot x with
  | some i=>if S.msF i=true then none else some (Aa i,i::S.alF i)
  | none=>ML S x
 | .BinOp a op b _=>match d S a,d S b,Vq b op with
  | some (f,v),some (g,u),some o=>some (Ab o f g,v++u)
  | _,_,_=>none
 | .IfExp t a b _=>match d S t,d S a,d S b with
  | some (c,_),some (f,v),some (g,u)=>some (Bz (bT c) f g,v++u)
  | _,_,_=>none
 | .UnaryOp op a _=>(match op with
  | .USub=>(match d S a with
   | some (f,v)=>some (Ay Cp f,v)
   | none=>none)
  | .Not=>(match d S a with
   | some (f,v)=>some (Ay Cq f,v)
   | none=>none)
  | _=>none)
 | .BoolOp op es _=>(match op with
  | .And=>OY (d S) es
  | .Or=>OC (d S) es)
 | .Compare a ops bs _=>VQ (d S) a ops bs
 | .List es _=>match FQ (d S) es with
  | some (fa,v)=>some (Ak AL fa,v)
  | none=>none
 | .Tuple es _ _=>match FQ (d S) es with
  | some (fa,v)=>some (Ak Bx fa,v)
  | none=>none
 | .Dict ks vs _=>(match ks with
  | []=>(match vs with
   | []=>some (bC .emp,[])
   | _::_=>none)
  | _::_=>none)
 | .Subscript a b _=>VU d S a b
 | .Call fn args ks cpos=>(match ks with
  | []=>(match EE fn with
   | some x=>(
     if x = "isinstance" then (match args with
      | [e,c]=>VR (d S) S e c
      | _=>none)
     else match RH x with
     | some o=>(match args with
      | e::es=>(match FQ (d S) (e::es) with
       | some (fa,v)=>if S.glob x=true then some (Ak o fa,v) else none
       | none=>none)
      | []=>none)
     | none=>match S.Γ.lookup x with
      | some (false,_,F)=>(match args with
       | e::es=>(match FQ (d S) (e::es) with
        | some (fa,v)=>if S.glob x=true then some (Al F fa,v) else none
        | none=>none)
       | []=>none)
      | some (true,_,F)=>none
      | none=>none)
   | none=>(match fn with
    | .Attribute o at' apos=>(match args with
     | [e]=>Vr S (d S) o e at' (apos.endLine == cpos.line)
     | _=>none)
    | _=>none))
  | _::_=>none)
 | .ListComp elt gs scope _=>(match Fc gs with
  | some (tg,it,ifs)=>(match Ob S.N.length tg,Fd (d S) S it with
    | some (xs,asg),some iw=>if N4 S scope xs iw.vs=true/\FZ tg iw=true then (match OZ (d (Bm S scope xs iw.vs)) ifs,d (Bm S scope xs iw.vs) elt with
     | some t,some (g,vE)=>some (Mc iw xs.length asg t g,iw.vs++vE.filter (λ i=>decide (i < S.N.length)))
     | _,_=>none) else none
    | _,_=>none)
  | none=>none)
 | _=>none
def BM:Nat->Sx->Expr->Option D2
 | 0,_,_=>none
 | n + 1,S,e=>Hw (BM n) S e
section
variable {X:Cx}{P:AF}{w:AB}{K:Frag}{mg:Str->Option Ae}{base:Heap}{lvl:Nat}{S:Sx}{Wx:St->Nat->Hp->Prop}{M:Fm}{f g:Fx}{vs vs':List Nat}{σ:St}{H:Hp}{Q:VK}
def vn {Q:Bool->Hp->Prop} (hq:tT M (bT (Cu f g)) σ H Q):Jx (tT M (bT f)) (tT M (bT g)) σ H Q:=by
 refine zV ?_;have e:bT (Cu f g)=HU (bT f) (bT g):=by
  funext ρ;unfold bT Cu HU;dsimp only;cases f ρ with
  | no=>rfl
  | exc c=>rfl
  | ok p=>
   obtain ⟨x,d,ρ1⟩:=p;cases x with
   | bl b=>cases b <;> rfl
   | _=>rfl
 rw [<- e];exact hq
def zY {Q:Bool->Hp->Prop} (hq:tT M (bT (By f g)) σ H Q):R6 (tT M (bT f)) (tT M (bT g)) σ H Q:=by
 refine qX ?_;have e:bT (By f g)=PF (bT f) (bT g):=by
  funext ρ;unfold bT By PF;dsimp only;cases f ρ with
  | no=>rfl
  | exc c=>rfl
  | ok p=>
   obtain ⟨x,d,ρ1⟩:=p;cases x with
   | bl b=>cases b <;> rfl
   | _=>rfl
 rw [<- e];exact hq
def vq {Q:Bool->Hp->Prop} (hq:tT M (bT (Ay Cq f)) σ H Q):Jw (tT M (bT f)) σ H Q:=by
 refine zX ?_;have e:bT (Ay Cq f)=HS (bT f):=by
  funext ρ;unfold bT Ay HS;dsimp only;cases f ρ with
  | no=>rfl
  | exc c=>rfl
  | ok p=>
   obtain ⟨x,d,ρ1⟩:=p;cases x with
   | bl b=>cases b <;> rfl
   | _=>rfl
 rw [<- e];exact hq
def AU (P:AF) (w:AB) (K:Frag) (mg:Str->Option Ae) (base:Heap) (lvl:Nat) (S:Sx) (e:Expr) (f:Fx) (vs:List Nat):Prop:=
 (∀ i∈vs,S.msF i=false)/\Ji e=true/\∀ {Wx} X M,XS X P w K mg base lvl S Wx->MS M K S Wx->PE X e (tE M f vs)/\PT X e (tT M (bT f))
def MS.v (m:MS M K S Wx) (h:∀ i∈vs,S.msF i=false):∀ i∈vs,M.Ms i=false:=λ i hi=>by rw [m.ms];exact h i hi
def MS.k (m:MS M K S Wx) (xs:XS X P w K mg base lvl S Wx):M.K=X.K:=m.K.trans xs.K.symm
def CK {e:Expr} (h1:∀ i∈vs,S.msF i=false) (h2:Ji e=true) (h3:∀ env whole,isTrue e env whole=(do let v<-whole;standAt e.pos;holding [v] (truthy v)))
  (h:∀ {Wx} X M,XS X P w K mg base lvl S Wx->MS M K S Wx->PE X e (tE M f vs)):AU P w K mg base lvl S e f vs:=
 ⟨h1,h2,λ X M xs m=>⟨h X M xs m,Ke (zw (h X M xs m) λ wh=>h3 _ wh) λ σ H Q q=>Su q⟩⟩
def GG {vs vs':List Nat} (h1:∀ i∈vs,S.msF i=false) (h2:∀ i∈vs',S.msF i=false):∀ i∈vs++vs',S.msF i=false:=λ i hi=>(jc6.mp hi).elim (h1 i) (h2 i)
def wu {a b:Expr}{op:EB}{o:PV->Nat->PV->Nat->Option (PV×Nat)}{pos:Pos} (ho:RI b op=some o) (ga:AU P w K mg base lvl S a f vs) (gb:AU P w K mg base lvl S b g vs'):AU P w K mg base lvl S (.Compare a [op] [b] pos) (Ab o f g) (vs++vs'):=by
 refine ⟨GG ga.1 gb.1,rfl,λ X M xs m=>?_⟩;obtain ⟨r,hr,hn,hi⟩:=vG (X:=X) (M:=M) (f:=f) (g:=g) (vs:=vs) (vs':=vs') ho xs.room.units (m.v ga.1) (m.k xs);have ha:=(ga.2.2 X M xs m).1;have hb:=(gb.2.2 X M xs m).1;exact ⟨BD (kf hr ha hb hn) hi,Ke (kS hr ha hb hn) λ σ H Q q=>hi σ H _ (Su q)⟩
def uk {a b c:Expr}{op op':EB}{p q:Int->Int->Bool}{h:Fx}{v3:List Nat}{pos:Pos} (h1:Gs op=some p) (h2:Gs op'=some q) (ga:AU P w K mg base lvl S a f vs) (gb:AU P w K mg base lvl S b g vs') (gc:AU P w K mg base lvl S c h v3):AU P w K mg base lvl S (.Compare a [op,op'] [b,c] pos) (Fi p q f g h) []:=by
 refine ⟨λ _ z=>(nomatch z),rfl,λ X M xs m=>?_⟩;have r1:=UI (X:=X) h1;have r2:=UI (X:=X) h2;have ha:=(ga.2.2 X M xs m).1;have hb:=(gb.2.2 X M xs m).1;have hc:=(gc.2.2 X M xs m).1;exact ⟨BD (vX r1.1 r2.1 ha hb hc (GH _ r2.2.1 r2.2.2)) λ σ H Q q=>Yu q,Ke (wX r1.1 r2.1 ha hb hc (GH _ r2.2.1 r2.2.2)) λ σ H Q q=>Yu (vs:=[]) (Su q)⟩
def vK {a:Expr}{pos:Pos} (ga:AU P w K mg base lvl S a f vs):AU P w K mg base lvl S (.UnaryOp .Not a pos) (Ay Cq f) vs:=
 ⟨ga.1,rfl,λ X M xs m=>⟨BD (zl (ga.2.2 X M xs m).1) λ σ H Q q=>kO q,Ke (zv (ga.2.2 X M xs m).2) λ σ H Q q=>vq q⟩⟩
theorem YD {d:Expr->Option D2} (hd:∀ e f vs,d e=some (f,vs)->AU P w K mg base lvl S e f vs) {pos:Pos}:∀ (es:List Expr) (f:Fx) (vs:List Nat),OY d es=some (f,vs)->(∀ i∈vs,S.msF i=false)/\∀ {Wx} X M,XS X P w K mg base lvl S Wx->MS M K S Wx->PE X (.BoolOp .And es pos) (tE M f vs)/\PW X (.BoolOp .And es pos) (tT M (bT f))
 | [],f,vs,h=>by cases h
 | [e],f,vs,h=>by
  have g:=hd e f vs h;exact ⟨g.1,λ X M xs m=>⟨Wy (g.2.2 X M xs m).1,kY (g.2.2 X M xs m).2⟩⟩
 | e::e'::es,f,vs,h=>by
  unfold OY at h;split at h
  ·rename_i f1 v1 f2 v2 h1 h2;cases h;have g1:=hd e f1 v1 h1;have g2:=YD hd (pos:=pos) (e'::es) f2 v2 h2;exact ⟨GG g1.1 g2.1,λ X M xs m=>⟨BD (zi (g1.2.2 X M xs m).1 (g2.2 X M xs m).1) λ σ H Q q=>kM q,W5 (zx (g1.2.2 X M xs m).2 (g2.2 X M xs m).2) λ σ H Q q=>vn q⟩⟩
  ·cases h
theorem Yo {d:Expr->Option D2} (hd:∀ e f vs,d e=some (f,vs)->AU P w K mg base lvl S e f vs) {pos:Pos}:∀ (es:List Expr) (f:Fx) (vs:List Nat),OC d es=some (f,vs)->(∀ i∈vs,S.msF i=false)/\∀ {Wx} X M,XS X P w K mg base lvl S Wx->MS M K S Wx->PE X (.BoolOp .Or es pos) (tE M f vs)/\PW X (.BoolOp .Or es pos) (tT M (bT f))
 | [],f,vs,h=>by cases h
 | [e],f,vs,h=>by
  have g:=hd e f vs h;exact ⟨g.1,λ X M xs m=>⟨Wy (g.2.2 X M xs m).1,zy (g.2.2 X M xs m).2⟩⟩
 | e::e'::es,f,vs,h=>by
  unfold OC at h;split at h
  ·rename_i f1 v1 f2 v2 h1 h2;cases h;have g1:=hd e f1 v1 h1;have g2:=Yo hd (pos:=pos) (e'::es) f2 v2 h2;exact ⟨GG g1.1 g2.1,λ X M xs m=>⟨BD (x3 (g1.2.2 X M xs m).1 (g2.2 X M xs m).1) λ σ H Q q=>zM q,W5 (x9 (g1.2.2 X M xs m).2 (g2.2 X M xs m).2) λ σ H Q q=>zY q⟩⟩
  ·cases h
theorem Hl {d:Expr->Option D2} (hd:∀ e f vs,d e=some (f,vs)->AU P w K mg base lvl S e f vs):∀ (es:List Expr) (fa:Fa) (vs:List Nat),FQ d es=some (fa,vs)->(∀ i∈vs,S.msF i=false)/\es.all Ji=true/\∀ {Wx} X M,XS X P w K mg base lvl S Wx->MS M K S Wx->PA X es (tL M fa vs)
 | [],fa,vs,h=>by cases h;exact ⟨λ _ z=>(nomatch z),rfl,λ X M _ _=>z9⟩
 | e::es,fa,vs,h=>by
  unfold FQ at h;split at h
  ·rename_i f1 v1 f2 v2 h1 h2;cases h;have g1:=hd e f1 v1 h1;have g2:=Hl hd es f2 v2 h2;exact ⟨GG g1.1 g2.1,by rw [ID,g1.2.1,g2.2.1];rfl,λ X M xs m=>k9 (m.v g1.1) (g1.2.2 X M xs m).1 (g2.2.2 X M xs m) (DM (DR g1.2.1))⟩
  ·cases h
def Qt (scope:BA) (env:Env):Iz scope env=Fh scope env.scope:=rfl
theorem Qc {x:Str}{k:D6}{sc:BA}:∀ (l:List (Str×D6)),(k=.cell\/k=.free)->(l.map λ (n,k)=>if (k == NameKind.free && sc.kind == .function && sc.names.lookup n == some .cell) then (n,NameKind.cell) else (n,k)).lookup x=some k->(x,NameKind.free)∈l\/(x,NameKind.cell)∈l
 | [],_,h=>by simp at h
 | (n,j)::r,hk,h=>by
  rw [BF] at h;have ih:=Qc (x:=x) (k:=k) (sc:=sc) r hk;dsimp only at h;by_cases hj:(j == NameKind.free && sc.kind == .function && sc.names.lookup n == some .cell)=true
  ·rw [if_pos hj,EX] at h;split at h
   ·rename_i hx;rw [A9,A9] at hj;have e1:x=n:=eq_of_beq hx;have e2:j=.free:=eq_of_beq hj.1.1;rw [e1,e2];exact .inl AR
   ·exact (ih h).imp (AO _) (AO _)
  ·rw [if_neg hj,EX] at h;split at h
   ·rename_i hx;have e1:x=n:=eq_of_beq hx;have e2:j=k:=Option.some.inj h;rcases hk with z | z
    ·rw [e1,e2,z];exact .inr AR
    ·rw [e1,e2,z];exact .inl AR
   ·exact (ih h).imp (AO _) (AO _)
theorem JU (sc':BA):∀ (N:List Str) (i:Nat),(Iu sc' i N).length=N.length
 | [],_=>rfl
 | x::r,i=>by rw [Iu,Bl,JU sc' r (i + 1),Bl]
structure ChkOk (S:Sx) (scope:BA) (xs:List Str) (vI:List Nat):Prop where
 kind:scope.kind=.function
 dis:∀ x,(x,NameKind.free)∈scope.names->(x,NameKind.cell)∉scope.names
 names:∀ x∈scope.names,x.2=.local->scope.names.lookup x.1=some .local
 free:∀ x∈scope.names,x.2=.free->S.sc.names.lookup x.1=some .cell\/S.sc.names.lookup x.1=some .free
 capt:∀ (i:Nat) (x:Str),i < S.N.length->(Bm S scope xs vI).N[i]?=some x->IQ (Fh scope S.sc) x->S.N[i]?=some x/\IQ S.sc x/\(x,NameKind.free)∈scope.names/\(Fh scope S.sc).names.lookup x≠some .local
 nd:(Bm S scope xs vI).N.Nodup
 loc:∀ x∈xs,(Fh scope S.sc).names.lookup x=some .local\/((Fh scope S.sc).names.lookup x=some .cell/\(x,NameKind.cell)∈scope.names)
 pos:S.N.length≠0
 ms:∀ i∈S.ms,i < S.N.length
def vd {sc:BA}{x:Str} (h:IQ sc x):D5 sc x=true:=by
 unfold D5 DG;rcases h with h | h | h <;> rw [h] <;> simp
def VO {scope:BA}{xs:List Str}{vI:List Nat} (h:N4 S scope xs vI=true):ChkOk S scope xs vI:=by
 unfold N4 at h;simp only [A9,decide_eq_true_eq,ja7,bne_iff_ne,ne_eq,FD] at h;obtain ⟨⟨⟨⟨⟨⟨⟨⟨h1,h2⟩,h3⟩,h4⟩,h5⟩,h6⟩,h7⟩,h8⟩,h9⟩:=h;refine ⟨h1,λ x hx hz=>(h2 (x,.free) hx).elim (λ z=>z rfl) λ z=>?_,λ x hx he=>(h3 x hx).elim (λ z=>absurd he z) λ z=>eq_of_beq z,λ x hx he=>(h4 x hx).elim (λ z=>absurd he z) λ z=>z.elim (λ z=>.inl (eq_of_beq z)) λ z=>.inr (eq_of_beq z),λ i x hi e hv=>?_,h6,λ x hx=>(h7 x hx).imp Hr λ z=>⟨Hr z.1,by simpa using z.2⟩,h8,h9⟩
 ·have z':(!(scope.names.contains (x,NameKind.cell)))=true:=z
  have:scope.names.contains (x,NameKind.cell)=true:=by simpa using hz
  rw [this] at z';cases z'
 have q:=h5 i (jc7.mpr hi);rw [e] at q;dsimp only at q;rw [FD] at q;rcases q with q | q
 ·have:D5 (Fh scope S.sc) x=true:=vd hv
  have q':(!D5 (Fh scope S.sc) x)=true:=q;rw [this] at q';cases q'
 ·simp only [A9,decide_eq_true_eq,M9] at q;obtain ⟨⟨⟨q1,q2⟩,q3⟩,q4⟩:=q;refine ⟨q1,Ww q2,by simpa using q3,λ z=>?_⟩
  have:DG (Fh scope S.sc) x .local=true:=by unfold DG;rw [z];simp
  have q4':DG (Fh scope S.sc) x .local=false:=q4;rw [this] at q4';cases q4'
def ChkOk.comp {scope:BA}{ys:List Str}{vI:List Nat} (c:ChkOk S scope ys vI) (xs:XS X P w K mg base lvl S Wx):CompOk X scope (Bm S scope ys vI).N ys.length where
 kind:=c.kind
 dis:=c.dis
 names:=c.names
 len:=by
  show (Iu _ 0 S.N++ys).length=_;rw [BQ,JU,xs.N]
 free:=λ x hx he=>by
  show X.env.scope.names.lookup x.1=_\/X.env.scope.names.lookup x.1=_;rw [xs.sc];exact c.free x hx he
 kinds:=λ x h=>by
  rcases h with h | h
  ·exact Qc (sc:=X.env.scope) scope.names (.inl rfl) h
  ·exact Qc (sc:=X.env.scope) scope.names (.inr rfl) h
 capt:=λ i x hi e hv=>by
  rw [Qt,xs.sc] at hv ⊢;rw [xs.N] at hi ⊢;exact c.capt i x hi e hv
def ChkOk.xs {scope:BA}{ys:List Str}{vI:List Nat} (c:ChkOk S scope ys vI) (xs:XS X P w K mg base lvl S Wx) (s2:Aj) (H2:Hp) (C:Addr) (fp:List Addr) (pins:List (Addr×Obj)):XS (BO X s2 H2 scope C (Bm S scope ys vI).N fp pins) P w K mg base lvl (Bm S scope ys vI) W0:=
 ⟨xs.prog,xs.w,xs.K,xs.mg,xs.base,rfl,by show Iz scope X.env=_;rw [Qt,xs.sc];rfl,xs.calm,xs.room,PassesOwn.never,zh,λ h=>nomatch h⟩
def Qu {scope:BA}{ys:List Str}{vI:List Nat} (i:Nat):(Bm S scope ys vI).alF i=if i < S.N.length then S.alF i else if i < S.N.length + ys.length then vI else []:=by
 unfold Sx.alF Bm;dsimp only;rw [Ba];by_cases h:i < S.N.length
 ·rw [DJ (by simpa using h),if_pos h];simp [h,Sx.alF,Ba]
 ·rw [HL (by simpa using h),if_neg h,IM];simp only [AD,EY];by_cases h2:i < S.N.length + ys.length
  ·rw [if_pos h2,if_pos (by omega)];rfl
  ·rw [if_neg h2,if_neg (by omega)];rfl
def ChkOk.ms' {scope:BA}{ys:List Str}{vI:List Nat} (c:ChkOk S scope ys vI) (m:MS M K S Wx) (hv:∀ i∈vI,S.msF i=false) (D:Addr):MS (M.comp D S.N.length vI) K (Bm S scope ys vI) W0 where
 W:=rfl
 K:=m.K
 ms:=m.ms
 al:=λ i hi=>by
  rw [Qu];show (if i < S.N.length then M.al i else vI)=_;have hl:(Bm S scope ys vI).N.length=S.N.length + ys.length:=by
   show (Iu _ 0 S.N++ys).length=_;rw [BQ,JU]
  rw [hl] at hi;by_cases h:i < S.N.length
  ·rw [if_pos h,if_pos h];exact m.al i h
  ·rw [if_neg h,if_neg h,if_pos hi]
 pn:=λ p hp=>by
  have h:=m.pn p hp;show p.1 < (Iu _ 0 S.N++ys).length;rw [BQ,JU];omega
 als:=λ i j hj=>by
  have hj':j∈(if i < S.N.length then M.al i else vI):=hj;show M.Ms j=false;by_cases h:i < S.N.length
  ·rw [if_pos h] at hj';exact m.als i j hj'
  ·rw [if_neg h] at hj';rw [m.ms];exact hv j hj'
theorem N8 {n:Nat}{iter:Expr}{env:Env}{f:Fx}{vs:List Nat} (h:(∀ a b c,iter≠.Set a b c)):∀ x,NX iter env x=pure x:=by
 intro x;cases iter with
 | Set a b c=>exact absurd rfl (h a b c)
 | _=>rfl
end
section
variable {X:Cx}{P:AF}{w:AB}{K:Frag}{mg:Str->Option Ae}{base:Heap}{lvl:Nat}{S:Sx}{Wx:St->Nat->Hp->Prop}{M:Fm}{f g:Fx}{vs vs':List Nat}{σ:St}{H:Hp}{Q:VK}
def vx {T:Str}{t:String} (h:Jr T=some t):t∈HM/\T∈zkd/\Jo T=some (.type t)/\(T == ("__debug__" : Str))=false/\T ≠ "__name__" := by
 unfold Jr at h;split at h
 ·rename_i e;cases h;rw [e];exact ⟨by decide,by decide +kernel,rfl,by decide +kernel,by decide +kernel⟩
 ·split at h
  ·rename_i e;cases h;rw [e];exact ⟨by decide,by decide +kernel,rfl,by decide +kernel,by decide +kernel⟩
  ·split at h
   ·rename_i e;cases h;rw [e];exact ⟨by decide,by decide +kernel,rfl,by decide +kernel,by decide +kernel⟩
   ·split at h
    ·rename_i e;cases h;rw [e];exact ⟨by decide,by decide +kernel,rfl,by decide +kernel,by decide +kernel⟩
    ·split at h
     ·rename_i e;cases h;rw [e];exact ⟨by decide,by decide +kernel,rfl,by decide +kernel,by decide +kernel⟩
     ·split at h
      ·rename_i e;cases h;rw [e];exact ⟨by decide,by decide +kernel,rfl,by decide +kernel,by decide +kernel⟩
      ·cases h
def jc {x:Str}{o:List (PV×Nat)->Option (PV×Nat)}{e:Expr}{es:List Expr}{fa:Fa}{p pos:Pos} (h:RH x=some o) (xs:XS X P w K mg base lvl S Wx) (m:MS M K S Wx) (hb:∀ x∈zkd,mg x=none) (hg:S.glob x=true) (hs:(e::es).all Ji=true) (ha:PA X (e::es) (tL M fa vs)):
  PE X (.Call (.Name x p) (e::es) [] pos) (tE M (Ak o fa) vs):=by
 rw [ID,A9] at hs;have h1:AH (e::es) X.env=(false,eval e X.env)::AH es X.env:=DM (DR hs.1);have h2:(Dk pos (AH es X.env)).any (·.1)=false:=Qh hs.2;have hm:∀ x∈zkd,X.mg x=none:=λ x hx=>by rw [xs.mg];exact hb x hx
 unfold RH at h;split at h
 ·rename_i ex;cases h;subst ex;exact jh (m.k xs) (xs.gl hg) (hm _ (by decide +kernel)) ha h1 h2
 ·split at h
  ·rename_i ex;cases h;subst ex;exact zB xs.calm (xs.gl hg) (hm _ (by decide +kernel)) ha h1 h2
  ·split at h
   ·rename_i ex;cases h;subst ex;exact kE xs.calm (xs.gl hg) (hm _ (by decide +kernel)) ha h1 h2
   ·split at h
    ·rename_i ex;cases h;subst ex;exact kF xs.calm (xs.gl hg) (hm _ (by decide +kernel)) ha h1 h2
    ·split at h
     ·rename_i ex;cases h;subst ex;exact kH (m.k xs) (xs.gl hg) (hm _ (by decide +kernel)) ha h1 h2
     ·split at h
      ·rename_i ex;cases h;subst ex;exact kC (m.k xs) (xs.gl hg) (hm _ (by decide +kernel)) ha h1 h2
      ·split at h
       ·rename_i ex;cases h;subst ex;exact kG (by have:=xs.room.un;omega) (xs.gl hg) (hm _ (by decide +kernel)) ha h1 h2 (m.k xs)
       ·split at h
        ·rename_i ex;cases h;subst ex;exact jl xs.room.units xs.room.gd (m.k xs) (xs.gl hg) (hm _ (by decide +kernel)) ha h1 h2
        ·cases h
def HZ (P:AF) (w:AB) (K:Frag) (mg:Str->Option Ae) (base:Heap) (lvl:Nat) (S:Sx) (it:Expr) (iw:Iw):Prop:=
 (∀ i∈iw.vs,S.msF i=false)/\(∀ a b c,it≠.Set a b c)/\∀ {Wx} X M,XS X P w K mg base lvl S Wx->MS M K S Wx->∀ tg,(match iw with
  | .rng en fa vs=>(en=BU/\PI X tg it (OD (tL M fa vs)))\/(en=Em/\PI X tg it (OE (tL M fa vs)))
  | .seq f vs=>PI X tg it (Gu M.K (tE M f vs))
  | .vw v fa vs=>FZ tg (.vw v fa vs)=true->PI X tg it (TN v M.K (tL M fa vs)))
def vL {it:Expr} (g:AU P w K mg base lvl S it f vs) (hs:∀ a b c,it≠.Set a b c):HZ P w K mg base lvl S it (.seq f vs):=
 ⟨g.1,hs,λ X M xs m tg=>by
  show PI X tg it (Gu M.K (tE M f vs));rw [m.k xs];exact zp (g.2.2 X M xs m).1⟩
def N6 {d:Expr->Option D2} (hd:∀ e f vs,d e=some (f,vs)->AU P w K mg base lvl S e f vs) (hset:∀ a b c,d (.Set a b c)=none) (hb:∀ x∈zkd,mg x=none) {it:Expr}{iw:Iw} (h:Fd d S it=some iw):HZ P w K mg base lvl S it iw:=by
 have seq:∀ {it:Expr}{iw:Iw},(match d it with
   | some (f,vs)=>some (Iw.seq f vs)
   | none=>none)=some iw->HZ P w K mg base lvl S it iw:=λ {it iw} h=>by
  cases e:d it with
  | none=>rw [e] at h;cases h
  | some p=>
   obtain ⟨f,vs⟩:=p;rw [e] at h;cases h;exact vL (hd _ _ _ e) λ a b c z=>by rw [z,hset] at e;cases e
 unfold Fd at h;split at h
 ·rename_i x p a pos;split at h
  ·rename_i hc;obtain ⟨rfl,hg⟩:=hc;split at h
   ·rename_i fa vs e;cases h;have g:=Hl hd _ _ _ e;refine ⟨λ _ z=>(nomatch z),λ _ _ _ z=>(nomatch z),λ X M xs m tg=>.inl ⟨rfl,?_⟩⟩;have hs:=g.2.1;simp only [ID,Tu,M4] at hs;exact yD (xs.gl hg) (by rw [xs.mg];exact hb _ (by decide +kernel)) (g.2.2 X M xs m) (DM (DR hs))
   ·cases h
  ·split at h
   ·rename_i hc;obtain ⟨rfl,hg⟩:=hc;split at h
    ·rename_i fa vs e;cases h;have g:=Hl hd _ _ _ e;refine ⟨g.1,λ _ _ _ z=>(nomatch z),λ X M xs m tg _=>?_⟩;have hs:=g.2.1;simp only [ID,Tu,M4] at hs;rw [m.k xs];exact zm (xs.gl hg) (by rw [xs.mg];exact hb _ (by decide +kernel)) (g.2.2 X M xs m) (DM (DR hs))
    ·cases h
   ·exact seq h
 ·rename_i x p a b pos;split at h
  ·rename_i hc;obtain ⟨rfl,hg⟩:=hc;split at h
   ·rename_i fa vs e;cases h;have g:=Hl hd _ _ _ e;refine ⟨λ _ z=>(nomatch z),λ _ _ _ z=>(nomatch z),λ X M xs m tg=>.inr ⟨rfl,?_⟩⟩;have hs:=g.2.1;simp only [ID,Tu,M4,A9] at hs;have s2:AH [b] X.env=[(false,eval b X.env)]:=DM (DR hs.2);exact yE (xs.gl hg) (by rw [xs.mg];exact hb _ (by decide +kernel)) (g.2.2 X M xs m) (by rw [DM (DR hs.1),s2]) s2
   ·cases h
  ·exact seq h
 ·exact seq h
def wJ {σ:St}{H:Hp}{Q:Bool->Hp->Prop} (h:∃ M',MS M' K S Wx/\tT M' Bn σ H Q):Q true H:=by
 obtain ⟨M',_,ρ,fps,rep,q⟩:=h;exact q H fps KD.refl Agr.refl rep
structure CompParts (P:AF) (w:AB) (K:Frag) (mg:Str->Option Ae) (base:Heap) (lvl:Nat) (S:Sx) (scope:BA) (tg:Expr) (ys:List Str) (asg:PV->Ag->Option Ag) (it elt:Expr) (ifs:List Expr) (iw:Iw) (t:Fb) (g:Fx) (vE:List Nat):Prop where
 tga:Ob S.N.length tg=some (ys,asg)
 two:FZ tg iw=true
 chk:ChkOk S scope ys iw.vs
 iwo:HZ P w K mg base lvl S it iw
 elt:AU P w K mg base lvl (Bm S scope ys iw.vs) elt g vE
 ifs:∀ {Wx} X M,XS X P w K mg base lvl (Bm S scope ys iw.vs) Wx->MS M K (Bm S scope ys iw.vs) Wx->HX X ifs (λ σ H Q=>∃ M',MS M' K (Bm S scope ys iw.vs) Wx/\tT M' t σ H Q)
def WC {scope:BA}{tg:Expr}{ys:List Str}{asg:PV->Ag->Option Ag}{it elt:Expr}{ifs:List Expr}{iw:Iw}{t:Fb}{vE:List Nat} (c:CompParts P w K mg base lvl S scope tg ys asg it elt ifs iw t g vE):∀ i∈iw.vs++vE.filter (λ i=>decide (i < S.N.length)),S.msF i=false:=
 GG c.iwo.1 λ i hi=>c.elt.1 i (jl1.mp hi).1
theorem UP {X':Cx}:∀ {es:List Expr}{ys:List Str}{n:Nat},NA es=some ys->X'.N.Nodup->(∀ j y,ys[j]?=some y->X'.N[n + j]?=some y)->(∀ y∈ys,FG X'.env.scope y/\(X'.fn y=true\/X'.env.scope.names.lookup y=some .local))->KZ X' es (Kh (K9 n ys.length))/\(EC es X'.env).length=ys.length/\(EC es X'.env).findIdx? (·.1)=none
 | [],ys,n,h,_,_,_=>by cases h;exact ⟨Xj,rfl,rfl⟩
 | e::es,ys,n,h,hN,hi,hl=>by
  unfold NA at h;split at h
  ·cases ‹_::_=[]›
  ·rename_i x px r heq;cases heq;obtain ⟨zs,h2,rfl⟩:=jb4.mp h;have hx:=hl x AR;obtain ⟨h1,h3,h4⟩:=UP (n:=n + 1) h2 hN (λ j y e=>by rw [show n + 1 + j=n + (j + 1) by omega];exact hi (j + 1) y (by simpa using e)) λ y hy=>hl y (AO _ hy);rw [Bl,Zg];refine ⟨Yk (NC hN (by have:=hi 0 x rfl;simpa using this) hx.1 hx.2) h1 rfl,by rw [EC,Bl,h3] <;> (intros;contradiction),?_⟩;rw [EC,TB,h4] <;> first | rfl | (intros;contradiction)
  ·cases h
theorem Uy {scope:BA}{tg:Expr}{ys:List Str}{asg:PV->Ag->Option Ag}{pos:Pos}{it elt:Expr}{ifs:List Expr}{iw:Iw}{t:Fb}{vE:List Nat} (c:CompParts P w K mg base lvl S scope tg ys asg it elt ifs iw t g vE) (xs:XS X P w K mg base lvl S Wx) (m:MS M K S Wx):
  ∃ wi gg,PI X tg it wi/\CompOk X scope (Bm S scope ys iw.vs).N ys.length/\(∀ s2 H2 C fp pins,PG (BO X s2 H2 scope C (Bm S scope ys iw.vs).N fp pins) tg gg) /\
   (∀ s2 H2 C fp pins,HX (BO X s2 H2 scope C (Bm S scope ys iw.vs).N fp pins) ifs (λ σ H Q=>∃ M',MS M' K (Bm S scope ys iw.vs) W0/\tT M' t σ H Q)) /\
   (∀ s2 H2 C fp pins,PE (BO X s2 H2 scope C (Bm S scope ys iw.vs).N fp pins) elt (λ σ H Q=>∃ M',MS M' K (Bm S scope ys iw.vs) W0/\tE M' g vE σ H Q)) /\
   ∀ σ H Q,σ.length=S.N.length->tE M (Mc iw ys.length asg t g) (iw.vs++vE.filter (λ i=>decide (i < S.N.length))) σ H Q ->
    J7 ys.length wi gg (λ σ H Q=>∃ M',MS M' K (Bm S scope ys iw.vs) W0/\tT M' t σ H Q) (λ σ H Q=>∃ M',MS M' K (Bm S scope ys iw.vs) W0/\tE M' g vE σ H Q) σ H Q:=by
 have hvI:=m.v c.iwo.1;have hP:∀ D,MS (M.comp D S.N.length iw.vs) K (Bm S scope ys iw.vs) W0:=λ D=>c.chk.ms' m c.iwo.1 D;have hvE:∀ i∈vE,M.Ms i=false:=λ i hi=>by rw [m.ms];exact c.elt.1 i hi
 have hvo:∀ i,i∈vE->i < S.N.length->i∈iw.vs++vE.filter (λ i=>decide (i < S.N.length)):=λ i h1 h2=>Bq _ (jl1.mpr ⟨h1,by simpa using h2⟩);have hvo2:=m.v (WC c);have bd:∀ D i,S.N.length<=i->Bd (M.comp D S.N.length iw.vs) iw.vs i:=λ D i hi=>⟨by
   show M.Ms i=false;rw [m.ms];unfold Sx.msF;cases e:S.ms.contains i with
   | false=>rfl
   | true=>exact absurd (c.chk.ms _ (by simpa using e)) (by omega),⟨λ _=>by have:=c.chk.pos;omega,λ p hp=>by have:=m.pn p hp;omega⟩,if_neg (by omega),(hP D).als⟩
 have hix:∀ j y,ys[j]?=some y->(Bm S scope ys iw.vs).N[S.N.length + j]?=some y:=λ j y e=>by
  show (Iu _ 0 S.N++ys)[S.N.length + j]?=some y;rw [HL (by rw [JU];omega),JU];simpa using e
 have hloc:∀ s2 H2 C fp pins,∀ y∈ys,FG (BO X s2 H2 scope C (Bm S scope ys iw.vs).N fp pins).env.scope y/\((BO X s2 H2 scope C (Bm S scope ys iw.vs).N fp pins).fn y=true\/(BO X s2 H2 scope C (Bm S scope ys iw.vs).N fp pins).env.scope.names.lookup y=some .local):=λ s2 H2 C fp pins y hy=>by
  have e:(BO X s2 H2 scope C (Bm S scope ys iw.vs).N fp pins).env.scope=Fh scope S.sc:=by
   show Iz scope X.env=_;rw [Qt,xs.sc]
  rw [e];rcases c.chk.loc y hy with z | z
  ·exact ⟨.inl z,.inr z⟩
  ·exact ⟨.inr z.1,.inl (by show scope.names.contains (y,NameKind.cell)=true;simpa using z.2)⟩
 have hpe:∀ s2 H2 C fp pins,PE (BO X s2 H2 scope C (Bm S scope ys iw.vs).N fp pins) elt (λ σ H Q=>∃ M',MS M' K (Bm S scope ys iw.vs) W0/\tE M' g vE σ H Q):=λ s2 H2 C fp pins pi s σ H Q I ⟨M',m',q⟩=>
  (c.elt.2.2 _ M' (c.chk.xs xs s2 H2 C fp pins) m').1 pi s σ H Q I q
 have hpt:∀ s2 H2 C fp pins,HX (BO X s2 H2 scope C (Bm S scope ys iw.vs).N fp pins) ifs (λ σ H Q=>∃ M',MS M' K (Bm S scope ys iw.vs) W0/\tT M' t σ H Q):=λ s2 H2 C fp pins=>c.ifs _ (M.comp 0 S.N.length iw.vs) (c.chk.xs xs s2 H2 C fp pins) (hP 0);have tgp:∃ is gg,(∀ i∈is,S.N.length<=i)/\(∀ D,DZ (M.comp D S.N.length iw.vs) iw.vs is gg asg)/\∀ s2 H2 C fp pins,PG (BO X s2 H2 scope C (Bm S scope ys iw.vs).N fp pins) tg gg:=by
  have ht:=c.tga;unfold Ob at ht;split at ht
  ·rename_i y py;cases ht;refine ⟨[S.N.length],FT S.N.length,λ i hi=>by rw [jb1.mp hi];exact Bj _,λ D=>VY (bd D _ (Bj _)),λ s2 H2 C fp pins=>?_⟩;exact NC c.chk.nd (hix 0 y rfl) (hloc s2 H2 C fp pins y (by simp)).1 (hloc s2 H2 C fp pins y (by simp)).2
  ·rename_i es k tp;obtain ⟨zs,h2,e⟩:=jb4.mp ht;cases e;refine ⟨K9 S.N.length ys.length,JL M.K ys.length (Kh (K9 S.N.length ys.length)),λ i hi=>(jq4.mp hi).1,λ D=>?_,λ s2 H2 C fp pins=>?_⟩
   ·have:=RS (M:=M.comp D S.N.length iw.vs) (al:=iw.vs) (is:=K9 S.N.length ys.length) λ i hi=>bd D i (jq4.mp hi).1
    rw [List.length_range'] at this;exact this
   ·obtain ⟨h1,h3,h4⟩:=UP (X':=BO X s2 H2 scope C (Bm S scope ys iw.vs).N fp pins) (n:=S.N.length) h2 c.chk.nd hix (hloc s2 H2 C fp pins)
    have:=Sn (X:=BO X s2 H2 scope C (Bm S scope ys iw.vs).N fp pins) (pos:=tp) (k:=k) xs.calm h1 h3 h4
    have e:(BO X s2 H2 scope C (Bm S scope ys iw.vs).N fp pins).K=M.K:=(m.k xs).symm;rw [e] at this;exact this
  ·cases ht
 obtain ⟨is,gg,his,hg,hpg⟩:=tgp;have hw:=c.iwo.2.2 X M xs m tg;have htw:=c.two;cases iw with
 | rng en fa vs=>
  rcases hw with ⟨rfl,hw⟩ | ⟨rfl,hw⟩
  ·exact ⟨_,gg,hw,c.chk.comp xs,hpg,hpt,hpe,λ σ H Q hl hq=>wF hl hP m.als hvI hvE his hg hvo hvo2 hq⟩
  ·exact ⟨_,gg,hw,c.chk.comp xs,hpg,hpt,hpe,λ σ H Q hl hq=>wG hl hP m.als hvI hvE his hg hvo hvo2 hq⟩
 | seq f vs=>exact ⟨_,gg,hw,c.chk.comp xs,hpg,hpt,hpe,λ σ H Q hl hq=>wH hl hP m.als hvI hvE his hg hvo hvo2 hq⟩
 | vw v fa vs=>exact ⟨_,gg,hw htw,c.chk.comp xs,hpg,hpt,hpe,λ σ H Q hl hq=>wI hl hP m.als hvI hvE his hg hvo hvo2 hq⟩
def Wj {e:Expr}{t t':TE} (h:PE X e t) (i:∀ σ H Q,σ.length=X.N.length->t' σ H Q->t σ H Q):PE X e t':=λ pins s σ H Q I q=>h pins s σ H Q I (i σ H Q I.len q)
def zq {e:Stmt}{t t':TS} (h:PS X e t) (i:∀ D σ H,σ.length=X.N.length->t' D σ H->t D σ H):PS X e t':=λ pins s σ H D I q=>h pins s σ H D I (i D σ H I.len q)
def yB {scope:BA}{tg:Expr}{ys:List Str}{asg:PV->Ag->Option Ag}{pos:Pos}{it elt:Expr}{ifs:List Expr}{iw:Iw}{t:Fb}{vE:List Nat} (c:CompParts P w K mg base lvl S scope tg ys asg it elt ifs iw t g vE):AU P w K mg base lvl S (.ListComp elt [⟨tg,it,ifs,0⟩] scope pos) (Mc iw ys.length asg t g) (iw.vs++vE.filter (λ i=>decide (i < S.N.length))):=by
 refine CK (WC c) rfl (λ _ _=>rfl) λ X M xs m=>?_;obtain ⟨wi,gg,h1,h2,h3,h4,h5,h6⟩:=Uy (pos:=pos) c xs m;exact Wj (Xi h2 xs.calm h1 h3 h4 h5 (N8 (n:=0) (f:=g) (vs:=[]) c.iwo.2.1)) λ σ H Q hl q=>h6 σ H Q (by rw [hl,xs.N]) q
def UB {d:Expr->Option D2} (hd:∀ e f vs,d e=some (f,vs)->AU P w K mg base lvl S e f vs) {ifs:List Expr}{t:Fb} (h:OZ d ifs=some t) (X:Cx) (M:Fm) (xs:XS X P w K mg base lvl S Wx) (m:MS M K S Wx):HX X ifs (λ σ H Q=>∃ M',MS M' K S Wx/\tT M' t σ H Q):=by
 unfold OZ at h;split at h
 ·cases h;intro pins s σ H Q I q;exact kT pins s σ H Q I (wJ q)
 ·obtain ⟨p,e,rfl⟩:=jb4.mp h;obtain ⟨f,vs⟩:=p;have g:=hd _ _ _ e;intro pins s σ H Q I ⟨M',m',q⟩;exact kU (g.2.2 X M' xs m').2 pins s σ H Q I q
 ·cases h
def N7 (n:Nat) (S:Sx) (a:List Expr) (b:Nat) (c:Pos):BM n S (.Set a b c)=none:=by
 cases n <;> rfl
def Qs {e:Expr} (h:Ji e=true) (env:Env) (cpos:Pos):((Dk cpos (AH [e] env)).all (λ x=>!x.1) && (backToKw cpos (keywordEach [] env)).all (λ x=>x.1.isSome)
   && decide (([e]:List Expr).length + ([]:List Jk).length + (if ([]:List Jk).isEmpty then 0 else 1) < 30))=true:=by
 have:AH [e] env=[(false,eval e env)]:=DM (DR h)
 rw [this];rfl
def ZZ {T:Str}{c:Nat} (h:XN.findIdx? (·== T)=some c):XN[c]?=some T:=by
 obtain ⟨hlt,h1,_⟩:=je3.mp h;rw [BR hlt];exact congrArg some (eq_of_beq h1)
def XF {T:Str}{n:Nat} (GX:GX K mg S.xc) (hb:∀ x∈zkd,mg x=none) (h:OA S T=some n) (xs:XS X P w K mg base lvl S Wx):Cr X.K=true/\∃ cv,(∀ p2,PE X (.Name T p2) (tC cv))/\∀ u,RelV cv u->Df X.K n u=true:=by
 unfold OA at h;split at h
 ·rename_i hc;obtain ⟨hg,hx⟩:=hc;obtain ⟨_,hk,hcs⟩:=GX hx;refine ⟨by rw [xs.K];exact hk,?_⟩;split at h
  ·rename_i eT;subst eT;cases h;refine ⟨.ty "ValueError",λ p2=>Xh (xs.gl hg) (by rw [xs.mg];exact hb _ (by decide +kernel)) (u:=.type "ValueError") rfl rfl (by decide) (by decide),λ u r=>?_⟩;cases r;unfold Df;rfl
  ·split at h
   ·rename_i hc;split at h
    ·rename_i hm;cases h;obtain ⟨x',C,h1,h2,h3,h4⟩:=(hcs n (by simpa using hm)).1 (VZ hc);have ex:x'=T:=by
      have:=ZZ hc
      rw [h1] at this;exact Option.some.inj this
     subst ex;refine ⟨.ref C,λ p2=>SV (xs.gl hg) (by rw [xs.mg];exact h3) rfl h4,λ u r=>?_⟩;cases r;unfold Df;rw [xs.K,h2];simp
    ·cases h
   ·cases h
 ·cases h
theorem YC (GX:GX K mg S.xc) (hb:∀ x∈zkd,mg x=none) (xs:XS X P w K mg base lvl S Wx):∀ {es:List Expr}{ns:List Nat},OR S es=some ns->es≠[]->Cr X.K=true/\∃ cvs,cvs.length=es.length/\PA X es (Vl cvs)/\∀ us,Vals cvs us->FP X.K ns us=true
 | [],_,_,hn=>absurd rfl hn
 | e::r,ns,h,_=>by
  unfold OR at h;split at h
  ·rename_i T ds h1 h2;obtain ⟨n,h3,rfl⟩:=jb4.mp h;obtain ⟨p2,rfl⟩:=EK h1;obtain ⟨hk,cv,c1,c2⟩:=XF GX hb h3 xs;refine ⟨hk,?_⟩;have st:AH (Expr.Name T p2::r) X.env=(false,eval (.Name T p2) X.env)::AH r X.env:=rfl;by_cases hr:r=[]
   ·subst hr;cases h2;refine ⟨[cv],rfl,λ a b c d e f g h=>(Et (c1 p2) FL st) a b c d e f g h,λ us v=>?_⟩;cases v with
    | cons r rr=>
     cases rr;unfold FP;rw [c2 _ r];rfl
   ·obtain ⟨_,cvs,l1,pa,l2⟩:=YC GX hb xs h2 hr;refine ⟨cv::cvs,by rw [Bl,Bl,l1],λ a b c d e f g h=>(Et (c1 p2) pa st) a b c d e f g h,λ us v=>?_⟩;cases v with
    | cons r rr=>
     unfold FP;rw [c2 _ r,l2 _ rr];rfl
  ·cases h
theorem Kg (GX:GX K mg S.xc) (G:GS P w K mg base lvl S.Γ) (Gm:Ib P w K mg base lvl S.Γm):∀ (n:Nat) (S':Sx) (e:Expr) (f:Fx) (vs:List Nat),S'.Γ=S.Γ->S'.Γm=S.Γm->S'.xc=S.xc->(∀ i,∀ j∈S'.alF i,S'.msF j=false)->BM n S' e=some (f,vs)->AU P w K mg base lvl S' e f vs:=by
 intro n;induction n with
 | zero=>intro S' e f vs _ _ _ _ h;cases h
 | succ n ih=>
  intro S' e f vs hΓ hΓm hX hS h;have hd:∀ e f vs,BM n S' e=some (f,vs)->AU P w K mg base lvl S' e f vs:=λ e f vs h=>ih S' e f vs hΓ hΓm hX hS h;replace h:Hw (BM n) S' e=some (f,vs):=h;unfold Hw at h;split at h
  ·unfold MM at h;split at h
   ·cases h;exact CK (λ _ z=>(nomatch z)) rfl (λ _ _=>rfl) λ X M xs m=>BD Sl λ σ H Q q=>JZ (λ K H Z=>by rw [Own];exact ⟨rfl,rfl⟩) q
   ·cases h;exact CK (λ _ z=>(nomatch z)) rfl (λ _ _=>rfl) λ X M xs m=>BD xy λ σ H Q q=>JZ (λ K H Z=>by rw [Own];exact ⟨rfl,rfl⟩) q
   ·cases h;exact CK (λ _ z=>(nomatch z)) rfl (λ _ _=>rfl) λ X M xs m=>BD zj λ σ H Q q=>JZ (λ K H Z=>by rw [Own];exact ⟨rfl,rfl⟩) q
   ·cases h;exact CK (λ _ z=>(nomatch z)) rfl (λ _ _=>rfl) λ X M xs m=>BD OW λ σ H Q q=>JZ (λ K H Z=>by rw [Own];exact ⟨rfl,rfl⟩) q
   ·cases h
  ·split at h
   ·rename_i i hi;split at h
    ·cases h
    ·rename_i hm;cases h;refine CK (λ j hj=>?_) rfl (λ _ _=>rfl) λ X M xs m=>Wj (xs.var hi) λ σ H Q hl q=>?_
     ·rcases jb2.mp hj with z | z
      ·rw [z];simpa using hm
      ·exact hS i j z
     ·have hlt:i < S'.N.length:=by
       unfold Sx.slot at hi;split at hi
       ·exact (ja9.mp (NK hi)).1
       ·cases hi
      rw [<- m.al i hlt] at q;exact Wo q
   ·unfold ML at h;split at h
    ·rename_i kk hkk;split at h
     ·rename_i hc;obtain ⟨pv,hp,e2⟩:=jb4.mp h;cases e2;have hm:(50 + kk)∈S'.xc:=by simpa using hc.1
      have hne:S.xc≠[]:=λ z=>by rw [hX,z] at hm;cases hm
      obtain ⟨_,_,hcs⟩:=GX hne;obtain ⟨x',v,u,c1,c2,c3,c4⟩:=(hcs (50 + kk) (by rw [<- hX];exact hm)).2 (T4 _ _);rw [ZA,hp] at c1;cases c1;obtain ⟨hlt,h1,_⟩:=je3.mp hkk;rw [BR hlt] at hp;have ex:CN[kk]=(x',v):=Option.some.inj hp;rw [ex] at h1;have ex2:x'=_:=eq_of_beq h1;subst ex2;obtain ⟨w',r',ow⟩:=jy c2;exact CK (λ _ z=>(nomatch z)) rfl (λ _ _=>rfl) λ X M xs m=>BD (SV (xs.gl hc.2) (by rw [xs.mg];exact c3) r' c4) λ σ H Q q=>JZ ow q
     ·cases h
    ·cases h
  ·split at h
   ·rename_i f1 v1 f2 v2 o h1 h2 h3;cases h;have g1:=hd _ _ _ h1;have g2:=hd _ _ _ h2;exact CK (GG g1.1 g2.1) rfl (λ _ _=>rfl) λ X M xs m=>qR h3 (m.v g1.1) (m.k xs) (g1.2.2 X M xs m).1 (g2.2.2 X M xs m).1
   ·cases h
  ·split at h
   ·rename_i c v0 f1 v1 g1 v2 h0 h1 h2;cases h;have g0:=hd _ _ _ h0;have ga:=hd _ _ _ h1;have gb:=hd _ _ _ h2;exact ⟨GG ga.1 gb.1,rfl,λ X M xs m=>⟨jf (g0.2.2 X M xs m).2 (ga.2.2 X M xs m).1 (gb.2.2 X M xs m).1,Ke (zu (g0.2.2 X M xs m).2 (ga.2.2 X M xs m).2 (gb.2.2 X M xs m).2) λ σ H Q q=>zW q⟩⟩
   ·cases h
  ·split at h
   ·split at h
    ·rename_i f1 v1 h1;cases h;have g1:=hd _ _ _ h1;exact CK g1.1 rfl (λ _ _=>rfl) λ X M xs m=>jk (g1.2.2 X M xs m).1
    ·cases h
   ·split at h
    ·rename_i f1 v1 h1;cases h;exact vK (hd _ _ _ h1)
    ·cases h
   ·cases h
  ·rename_i op es pos;split at h
   ·have g:=YD hd (pos:=pos) _ _ _ h;exact ⟨g.1,rfl,λ X M xs m=>⟨(g.2 X M xs m).1,(g.2 X M xs m).2.pt⟩⟩
   ·have g:=Yo hd (pos:=pos) _ _ _ h;exact ⟨g.1,rfl,λ X M xs m=>⟨(g.2 X M xs m).1,(g.2 X M xs m).2.pt⟩⟩
  ·unfold VQ at h;split at h
   ·split at h
    ·split at h
     ·rename_i f1 v1 f2 v2 o h1 h2 h3;cases h;exact wu h3 (hd _ _ _ h1) (hd _ _ _ h2)
     ·cases h
    ·cases h
   ·split at h
    ·split at h
     ·rename_i f1 v1 f2 v2 f3 v3 p q h1 h2 h3 h4 h5;cases h;exact uk h4 h5 (hd _ _ _ h1) (hd _ _ _ h2) (hd _ _ _ h3)
     ·cases h
    ·cases h
   ·cases h
  ·split at h
   ·rename_i fa v h1;cases h;have g:=Hl hd _ _ _ h1;exact CK g.1 rfl (λ _ _=>rfl) λ X M xs m=>ji (g.2.2 X M xs m)
   ·cases h
  ·split at h
   ·rename_i fa v h1;cases h;have g:=Hl hd _ _ _ h1;exact CK g.1 rfl (λ _ _=>rfl) λ X M xs m=>zH (g.2.2 X M xs m)
   ·cases h
  ·split at h
   ·split at h
    ·cases h;exact CK (λ _ z=>(nomatch z)) rfl (λ _ _=>rfl) λ X M xs m=>je
    ·cases h
   ·cases h
  ·rename_i a b pos;unfold VU at h;split at h
   ·rename_i lo hi st p2;unfold VT at h;split at h
    ·split at h
     ·rename_i f1 v1 f2 v2 h1 h2;cases h;have g1:=hd _ _ _ h1;have g2:=hd _ _ _ h2;exact CK g1.1 rfl (λ _ _=>rfl) λ X M xs m=>BD (Q5 SK (g1.2.2 X M xs m).1 Xk (ND (g2.2.2 X M xs m).1)) λ σ H Q q=>RT (lo:=none) (hi:=some (f2,v2)) (m.v g1.1) (m.k xs) q
     ·cases h
    ·split at h
     ·rename_i f1 v1 f2 v2 h1 h2;cases h;have g1:=hd _ _ _ h1;have g2:=hd _ _ _ h2;exact CK g1.1 rfl (λ _ _=>rfl) λ X M xs m=>BD (Q5 SK (g1.2.2 X M xs m).1 (ND (g2.2.2 X M xs m).1) Xk) λ σ H Q q=>RT (lo:=some (f2,v2)) (hi:=none) (m.v g1.1) (m.k xs) q
     ·cases h
    ·split at h
     ·rename_i f1 v1 f2 v2 f3 v3 h1 h2 h3;cases h;have g1:=hd _ _ _ h1;have g2:=hd _ _ _ h2;have g3:=hd _ _ _ h3;exact CK g1.1 rfl (λ _ _=>rfl) λ X M xs m=>BD (Q5 SK (g1.2.2 X M xs m).1 (ND (g2.2.2 X M xs m).1) (ND (g3.2.2 X M xs m).1)) λ σ H Q q=>RT (lo:=some (f2,v2)) (hi:=some (f3,v3)) (m.v g1.1) (m.k xs) q
     ·cases h
    ·cases h
   ·split at h
    ·rename_i x i hx hi;obtain ⟨px,rfl⟩:=EK hx;obtain ⟨k,pi,rfl⟩:=Wd hi;split at h
     ·rename_i j hj;split at h
      ·cases h
      ·rename_i hm;cases h;have hlt:j < S'.N.length:=by
        unfold Sx.slot at hj;split at hj
        ·exact (ja9.mp (NK hj)).1
        ·cases hj
       have hv:∀ i∈j::S'.alF j,S'.msF i=false:=λ i hi=>by
        rcases jb2.mp hi with z | z
        ·rw [z];simpa using hm
        ·exact hS j i z
       refine CK (GG hv λ _ z=>(nomatch z)) rfl (λ _ _=>rfl) λ X M xs m=>W9 (m.v hv) (m.k xs) (Nj rfl) (BD (xs.var hj) λ σ H Q q=>?_) (BD Sl λ σ H Q q=>JZ (λ K H Z=>by rw [Own];exact ⟨rfl,rfl⟩) q);rw [<- m.al j hlt] at q;exact Wo q
     ·cases h
    ·split at h
     ·rename_i f1 v1 f2 v2 h1 h2;split at h
      ·rename_i hn;cases h;have g1:=hd _ _ _ h1;have g2:=hd _ _ _ h2;exact CK (GG g1.1 g2.1) rfl (λ _ _=>rfl) λ X M xs m=>W9 (m.v g1.1) (m.k xs) (Nj hn) (g1.2.2 X M xs m).1 (g2.2.2 X M xs m).1
      ·cases h
     ·cases h
  ·rename_i fn args ks pos;split at h
   ·split at h
    ·rename_i x hfn;obtain ⟨p,rfl⟩:=EK hfn;split at h
     ·rename_i hx;subst hx;split at h
      ·rename_i e c;unfold VR at h;split at h
       ·rename_i f1 v1 h1;split at h
        ·rename_i hgi;have g1:=hd _ _ _ h1;split at h
         ·rename_i T pT;have s2:∀ {X:Cx},AH [Expr.Name T pT] X.env=[(false,eval (.Name T pT) X.env)]:=rfl;split at h
          ·rename_i t h2;split at h
           ·rename_i hg;cases h;obtain ⟨t1,t2,t3,t4,t5⟩:=vx h2;refine CK g1.1 rfl (λ _ _=>rfl) λ X M xs m=>?_;exact jg (x:=T) t1 (m.k xs) (g1.2.2 X M xs m).1 (xs.gl hgi) (by rw [xs.mg];exact G.1 _ (by decide +kernel)) (Xh (xs.gl hg) (by rw [xs.mg];exact G.1 _ t2) t3 rfl t5 t4) (by rw [DM (DR g1.2.1),s2]) s2
           ·cases h
          ·obtain ⟨n,h3,e2⟩:=jb4.mp h;cases e2;refine CK g1.1 rfl (λ _ _=>rfl) λ X M xs m=>?_;obtain ⟨hk,cv,c1,c2⟩:=XF (by rw [hX];exact GX) G.1 h3 xs;exact kB hk (m.k xs) (g1.2.2 X M xs m).1 (xs.gl hgi) (by rw [xs.mg];exact G.1 _ (by decide +kernel)) (c1 pT) c2 (by rw [DM (DR g1.2.1),s2]) s2
         ·rename_i es k p2;split at h
          ·rename_i hl;obtain ⟨ns,h3,e2⟩:=jb4.mp h;cases e2;obtain ⟨hl,hne⟩:=hl;refine CK g1.1 rfl (λ _ _=>rfl) λ X M xs m=>?_;have s2:AH [Expr.Tuple es k p2] X.env=[(false,eval (.Tuple es k p2) X.env)]:=rfl;obtain ⟨hk,cvs,l1,pa,l2⟩:=YC (by rw [hX];exact GX) G.1 xs h3 hne;exact wx hk (m.k xs) (g1.2.2 X M xs m).1 (xs.gl hgi) (by rw [xs.mg];exact G.1 _ (by decide +kernel)) pa (by rw [l1];exact AW hl (by decide)) l2 (by rw [DM (DR g1.2.1),s2]) s2
          ·cases h
         ·cases h
        ·cases h
       ·cases h
      ·cases h
     ·split at h
      ·rename_i o ho;split at h
       ·rename_i e es;split at h
        ·rename_i fa v h1;split at h
         ·rename_i hg;cases h;have g:=Hl hd _ _ _ h1;exact CK g.1 rfl (λ _ _=>rfl) λ X M xs m=>jc ho xs m G.1 hg g.2.1 (g.2.2 X M xs m)
         ·cases h
        ·cases h
       ·cases h
      ·split at h
       ·rename_i _ _ _ _ nn F hF;split at h
        ·rename_i e es;split at h
         ·rename_i fa v h1;split at h
          ·rename_i hg;cases h;have g:=Hl hd _ _ _ h1;rw [hΓ] at hF;obtain ⟨d1,d2,fa',fd,ps,d3,d4,d5,d6,d7⟩:=G.2 _ _ _ _ hF;refine CK g.1 rfl (λ _ _=>rfl) λ X M xs m=>?_;have hs:=g.2.1;rw [ID,A9] at hs;obtain ⟨xp,xw,xK,xm,xb,_,_,_,xr,_⟩:=id xs;subst xp xw xK xm xb;have mk:M.K=X.K:=m.K;have hps:=xs.ps;rw [<- m.W] at hps;refine BD (vW d7 xr (xs.gl hg) d3 d4 d5 hps (g.2.2 X M xs m) d1 (DM (DR hs.1)) (Qh hs.2)) λ σ H Q q=>?_
           have:=kN d2 q
           rw [mk] at this;exact this
          ·cases h
         ·cases h
        ·cases h
       ·cases h
       ·cases h
    ·split at h
     ·rename_i o at' apos _;split at h
      ·rename_i e;unfold Vr at h;split at h
       ·rename_i i f2 u h1 h2;split at h
        ·rename_i hc;obtain ⟨x,hx,hsl⟩:=jd7.mp h1;obtain ⟨px,rfl⟩:=EK hx;have g2:=hd _ _ _ h2;have fin:=λ ix:Bool=>CK (P:=P) (w:=w) (K:=K) (mg:=mg) (base:=base) (lvl:=lvl) (S:=S') (e:=.Call (.Attribute (.Name x px) (MP ix) apos) [e] [] pos) (f:=IP ix i f2) (vs:=i::u) (λ j hj=>(jb2.mp hj).elim (λ z=>by rw [z];exact hc.1) (g2.1 j)) rfl (λ _ _=>rfl) λ X M xs m=>qQ (ix:=ix) (m.k xs) (by rw [m.ms];exact hc.1) (xs.var hsl) (g2.2.2 X M xs m).1 (λ _=>rfl) (DM (DR g2.2.1)) (Qs g2.2.1 X.env pos) hc.2;split at h
         ·rename_i ea;subst ea;cases h;exact fin false
         ·split at h
          ·rename_i ea;subst ea;cases h;exact fin true
          ·cases h
        ·cases h
       ·cases h
      ·cases h
     ·cases h
   ·cases h
  ·rename_i elt gs scope pos;split at h
   ·rename_i tg it ifs hgs;have hgs:=jM hgs;subst hgs;split at h
    rotate_left
    ·cases h
    rename_i ys asg iw ht hi;split at h
    ·rename_i hc;split at h
     ·rename_i t g vE h1 h2;cases h;have ck:=VO hc.1;have giw:=N6 hd (N7 n S') G.1 hi;have hS2:∀ i,∀ j∈(Bm S' scope ys iw.vs).alF i,(Bm S' scope ys iw.vs).msF j=false:=λ i j hj=>by
       rw [Qu] at hj;show S'.msF j=false;split at hj
       ·exact hS i j hj
       ·split at hj
        ·exact giw.1 j hj
        ·cases hj
      have hd2:∀ e f vs,BM n (Bm S' scope ys iw.vs) e=some (f,vs)->AU P w K mg base lvl (Bm S' scope ys iw.vs) e f vs:=λ e f vs h=>ih _ e f vs hΓ hΓm hX hS2 h;exact yB ⟨ht,hc.2,ck,giw,hd2 _ _ _ h2,UB hd2 h1⟩
     ·cases h
    ·cases h
   ·cases h
  ·cases h
end
section
variable {is:List Nat}{M:Fm}{ρ ρ':Ag}{σ σ':St}{H H' H'':Hp}{fps fps' fps'':AX}{vs vs':List Nat}
def LW:Fs:=λ _=>.no
def RU {t:TS}{D:Ends} (hq:tS M LW D σ H):t D σ H:=by
 obtain ⟨ρ,fps,rep,q⟩:=hq;exact q.elim
def Cc (asg:PV->Ag->Option Ag) (f:Fx) (vs:List Nat):Fs:=λ ρ=>match f ρ with
 | .ok (x,d,ρ1)=>(match asg x (Bi d vs ρ1) with
  | some ρ2=>.nx ρ2
  | none=>.no)
 | .exc c=>.exc c
 | .no=>.no
theorem zU {g:TG}{asg:PV->Ag->Option Ag}{f:Fx}{D:Ends} (hal:∀ i,M.al i=[]) (hv:∀ i∈vs,M.Ms i=false) (hg:DZ M [] is g asg) (hq:tS M (Cc asg f vs) D σ H):D9 (tE M f vs) g D σ H:=by
 obtain ⟨ρ,fps,rep,q⟩:=hq;refine ⟨ρ,fps,rep,?_⟩;unfold Cc at q;cases ef:f ρ with
 | no=>rw [ef] at q;exact q
 | exc c=>rw [ef] at q;exact λ H' fps' k=>q _ H' fps' k.ks
 | ok p=>
  obtain ⟨x,d,ρ1⟩:=p;rw [ef] at q;intro v H1 fps1 f1 k1 g1 rep1 o1 t1;obtain ⟨fps2,k2,r2,o2⟩:=Rep.seen rep k1 g1 rep1 o1 t1 hal hv;dsimp only at q;cases ea:asg x (Bi d vs ρ1) with
  | none=>rw [ea] at q;exact q.elim
  | some ρ2=>
   rw [ea] at q;refine hg x v _ σ H1 fps2 ρ2 _ r2 (o2.weak λ a h=>h.zf) ea λ σ' fps' s1 _ _ r'=>q σ' H1 fps' (k2.trans ⟨λ _ _ h _=>h,λ _ h=>h,λ j a ha=>.inl ⟨j,s1 j a ha⟩⟩) r'
def Rep.change {i:Nat}{x x':PV}{d d':Nat}{v:V}{f':List Addr} (hal:∀ i,M.al i=[]) (r:Rep M ρ σ H fps) (hi:ρ[i]?=some (some (x,d))) (hσ:σ[i]?=some (some v)) (k:Dh (λ a=>a∈fps i) H H') (dm:∀ a,H a≠none->H' a≠none) (hs:∀ b∈f',b∈fps i)
  (hm:M.Ms i=true->d'=om) (o:Own M.K H' (Zf M (λ j=>if j=i then f' else fps j)) x' d' v f'):Rep M (ρ.set i (some (x',d'))) σ H' (λ j=>if j=i then f' else fps j):=by
 have hlen:i < ρ.length:=(ja9.mp hi).1;have inI:∀ j,∀ b∈(if j=i then f' else fps j),b∈fps j:=λ j b hb=>by
  by_cases e:j=i
  ·rw [if_pos e] at hb;rw [e];exact hs b hb
  ·rw [if_neg e] at hb;exact hb
 refine ⟨λ j y c hj=>?_,λ j hj=>?_,λ j k hjk b hb hc=>r.dj j k hjk b (inI j b hb) (inI k b hc),λ j b hb z=>r.zo j b (inI j b hb) z,λ j hj b hb=>r.fr j hj b (inI j b hb),λ b z=>dm b (r.zd b z),by rw [Ei];exact r.len,λ j y c hj hc=>?_,λ b z=>dm b (r.h0 b z),r.iov⟩
 ·by_cases ej:j=i
  ·subst ej;rw [Di hlen] at hj;cases hj;refine ⟨v,hσ,?_⟩;rw [if_pos rfl];exact o.weak λ a h=>h.zf
  ·rw [Cw (Ca ej)] at hj;obtain ⟨u,hu,ou⟩:=r.own j y c hj;refine ⟨u,hu,?_⟩;rw [if_neg ej];refine Own.move (S:=λ a=>a∈fps i) k (λ a ha=>⟨.inr ⟨i,(by rw [hal j];intro z;cases z),ha⟩,r.lsts ha⟩) (λ a _ nz z=>nz ?_) y c u (fps j) (λ a ha z=>r.dj j i ej a ha z) ou;rcases z with z | ⟨l,nl,z⟩
   ·exact .inl z
   ·exact .inr ⟨l,nl,inI l a z⟩
 ·by_cases ej:j=i
  ·subst ej;exact absurd (Di hlen) (hj (x',d'))
  ·rw [if_neg ej];exact r.non j λ p hp=>hj p (by rw [Cw (Ca ej)];exact hp)
 ·by_cases ej:j=i
  ·subst ej;rw [Di hlen] at hc;cases hc;exact hm hj
  ·rw [Cw (Ca ej)] at hc;exact r.msf j y c hj hc
def OwnL.full' {K:Frag}{Z Z':Addr->Prop}{xs:List PV}{ws:List V}{f:List Addr} (h:OwnL K H Z xs om ws f):OwnL K H Z' xs om ws f:=OwnL.full xs ws f h
theorem OwnL.row {K:Frag}{Z:Addr->Prop}:∀ {xs:List PV}{ws:List V}{f:List Addr}{p:Nat}{cells:List PV},OwnL K H Z xs om ws f->xs[p]?=some (.lst cells)->∃ a us fc,ws[p]?=some (.ref a)/\H a=some (.lst us)/\a∈f/\OwnL K H Z cells om us fc/\(∀ b∈fc,b∈f)/\a∉fc /\
  ∀ (cells':List PV) (us':List V) (fc':List Addr),OwnL K (Aq H a (.lst us')) (λ _=>True) cells' om us' fc'->(∀ b∈fc',b∈fc)->∃ f',(∀ b∈f',b∈f)/\OwnL K (Aq H a (.lst us')) (λ _=>True) (xs.set p (.lst cells')) om ws f'
 | [],ws,f,p,cells,h,e=>by cases e
 | x::xs,ws,f,0,cells,h,e=>by
  cases e;rw [OwnL] at h;obtain ⟨v,s,f1,f2,rfl,rfl,dj,h1,h2⟩:=h;obtain ⟨a,us,fc,rfl,ha,rfl,na,ol⟩:=h1.list (by decide:om≠0);rw [GQ] at ol;refine ⟨a,us,fc,rfl,ha,by simp,ol,λ b hb=>by simp [hb],na,λ cells' us' fc' o hs=>⟨(a::fc')++f2,λ b hb=>?_,?_⟩⟩
  ·rcases jc6.mp hb with z | z
   ·rcases jb2.mp z with z | z
    ·simp [z]
    ·exact BG _ (AO _ (hs b z))
   ·exact Bq _ z
  ·have n2:a∉f2:=dj a AR;rw [KP,OwnL];refine ⟨.ref a,s,a::fc',f2,rfl,rfl,λ b hb=>?_,?_,?_⟩
   ·rcases jb2.mp hb with z | z
    ·rw [z];exact n2
    ·exact dj b (AO _ (hs b z))
   ·rw [Own];exact ⟨a,us',rfl,.inr ⟨by decide,fc',C8,rfl,λ z=>na (hs a z),by rw [GQ];exact o⟩⟩
   ·exact (h2.full' (Z':=λ _=>True)).at trivial ⟨.l us,ha⟩ n2 λ _ _ n=>absurd trivial n
 | x::xs,ws,f,p + 1,cells,h,e=>by
  rw [OwnL] at h;obtain ⟨v,s,f1,f2,rfl,rfl,dj,h1,h2⟩:=h;obtain ⟨a,us,fc,e1,ha,hf,ol,hs,na,nx⟩:=h2.row (by simpa using e);refine ⟨a,us,fc,by simpa using e1,ha,Bq _ hf,ol,λ b hb=>Bq _ (hs b hb),na,λ cells' us' fc' o hs'=>?_⟩;obtain ⟨f',s',o'⟩:=nx cells' us' fc' o hs';refine ⟨f1++f',λ b hb=>(jc6.mp hb).elim (λ z=>BG _ z) λ z=>Bq _ (s' b z),?_⟩;rw [KO,OwnL];refine ⟨v,s,f1,f',rfl,rfl,λ b hb z=>dj b hb (s' b z),?_,o'⟩;exact (Own.full (Z':=λ _=>True) x v f1 h1).at trivial ⟨.l us,ha⟩ (λ z=>dj a z hf) λ _ _ n=>absurd trivial n
theorem OwnL.setF {K:Frag}{Z:Addr->Prop}{y:PV}{d:Nat}{w:V}{fy:List Addr} (hy:Own K H Z y d w fy):∀ {xs:List PV}{ws:List V}{f:List Addr} (k:Nat),OwnL K H Z xs d ws f->(∀ b∈fy,b∉f)->∃ f',(∀ b∈f',b∈f\/b∈fy)/\OwnL K H Z (xs.set k y) d (ws.set k w) f'
 | [],ws,f,k,h,_=>by
  rw [OwnL] at h;obtain ⟨rfl,rfl⟩:=h;refine ⟨[],λ _ z=>(nomatch z),?_⟩;rw [Ph,Ph,OwnL];exact ⟨rfl,rfl⟩
 | x::xs,ws,f,0,h,hd=>by
  rw [OwnL] at h;obtain ⟨v,s,f1,f2,rfl,rfl,dj,h1,h2⟩:=h;refine ⟨fy++f2,λ b hb=>(jc6.mp hb).elim .inr λ z=>.inl (Bq _ z),?_⟩;rw [KP,KP,OwnL];exact ⟨w,s,fy,f2,rfl,rfl,λ b hb z=>hd b hb (Bq _ z),hy,h2⟩
 | x::xs,ws,f,k + 1,h,hd=>by
  rw [OwnL] at h;obtain ⟨v,s,f1,f2,rfl,rfl,dj,h1,h2⟩:=h;obtain ⟨f',hs,h'⟩:=h2.setF hy k λ b hb z=>hd b hb (Bq _ z);refine ⟨f1++f',λ b hb=>(jc6.mp hb).elim (λ z=>.inl (BG _ z)) λ z=>(hs b z).elim (λ z=>.inl (Bq _ z)) .inr,?_⟩;rw [KO,KO,OwnL];exact ⟨v,s.set k w,f1,f',rfl,rfl,λ b hb hc=>(hs b hc).elim (dj b hb) λ z=>hd b z (BG _ hb),h1,h'⟩
theorem OwnL.rowP {K:Frag}{Z:Addr->Prop}:∀ {xs:List PV}{ws:List V}{f:List Addr}{p:Nat}{cells:List PV},OwnL K H Z xs om ws f->xs[p]?=some (.lst cells)->∃ a us fc,ws[p]?=some (.ref a)/\H a=some (.lst us)/\a∈f/\OwnL K H Z cells om us fc/\(∀ b∈fc,b∈f)/\a∉fc /\
  ∀ (cells':List PV) (us':List V) (fc' fy:List Addr),OwnL K (Aq H a (.lst us')) (λ _=>True) cells' om us' fc'->(∀ b∈fc',b∈fc\/b∈fy)->(∀ b∈fy,b∉f)->∃ f',(∀ b∈f',b∈f\/b∈fy)/\OwnL K (Aq H a (.lst us')) (λ _=>True) (xs.set p (.lst cells')) om ws f'
 | [],ws,f,p,cells,h,e=>by cases e
 | x::xs,ws,f,0,cells,h,e=>by
  cases e;rw [OwnL] at h;obtain ⟨v,s,f1,f2,rfl,rfl,dj,h1,h2⟩:=h;obtain ⟨a,us,fc,rfl,ha,rfl,na,ol⟩:=h1.list (by decide:om≠0);rw [GQ] at ol;refine ⟨a,us,fc,rfl,ha,by simp,ol,λ b hb=>by simp [hb],na,λ cells' us' fc' fy o hs hy=>⟨(a::fc')++f2,λ b hb=>?_,?_⟩⟩
  ·rcases jc6.mp hb with z | z
   ·rcases jb2.mp z with z | z
    ·simp [z]
    ·exact (hs b z).elim (λ z=>.inl (BG _ (AO _ z))) .inr
   ·exact .inl (Bq _ z)
  ·have n2:a∉f2:=dj a AR;rw [KP,OwnL];refine ⟨.ref a,s,a::fc',f2,rfl,rfl,λ b hb=>?_,?_,?_⟩
   ·rcases jb2.mp hb with z | z
    ·rw [z];exact n2
    ·exact (hs b z).elim (λ z=>dj b (AO _ z)) λ z w=>hy b z (Bq _ w)
   ·rw [Own];exact ⟨a,us',rfl,.inr ⟨by decide,fc',C8,rfl,λ z=>(hs a z).elim na λ z=>hy a z (BG _ AR),by rw [GQ];exact o⟩⟩
   ·exact (h2.full' (Z':=λ _=>True)).at trivial ⟨.l us,ha⟩ n2 λ _ _ n=>absurd trivial n
 | x::xs,ws,f,p + 1,cells,h,e=>by
  rw [OwnL] at h;obtain ⟨v,s,f1,f2,rfl,rfl,dj,h1,h2⟩:=h;obtain ⟨a,us,fc,e1,ha,hf,ol,hs,na,nx⟩:=h2.rowP (by simpa using e);refine ⟨a,us,fc,by simpa using e1,ha,Bq _ hf,ol,λ b hb=>Bq _ (hs b hb),na,λ cells' us' fc' fy o hs' hy=>?_⟩;obtain ⟨f',s',o'⟩:=nx cells' us' fc' fy o hs' λ b hb z=>hy b hb (Bq _ z);refine ⟨f1++f',λ b hb=>(jc6.mp hb).elim (λ z=>.inl (BG _ z)) λ z=>(s' b z).elim (λ z=>.inl (Bq _ z)) .inr,?_⟩;rw [KO,OwnL];refine ⟨v,s,f1,f',rfl,rfl,λ b hb z=>(s' b z).elim (dj b hb) λ z=>hy b z (BG _ hb),?_,o'⟩;exact (Own.full (Z':=λ _=>True) x v f1 h1).at trivial ⟨.l us,ha⟩ (λ z=>dj a z hf) λ _ _ n=>absurd trivial n
def DV (x:PV) (a b:Int) (y:PV):Option PV:=match x with
 | .lst rows=>(match CB rows.length a with
  | some p=>(match rows[p]? with
   | some (.lst cells)=>(match CB cells.length b with
    | some q=>some (.lst (rows.set p (.lst (cells.set q y))))
    | none=>none)
   | _=>none)
  | none=>none)
 | _=>none
def Eu (i:Nat) (fi fj f:Fx):Fs:=λ ρ=>match f ρ with
 | .ok (y,e,ρ1)=>(match ρ1[i]? with
  | some (some (x,d))=>(match fi ρ1 with
   | .ok (.int a,_,ρ2)=>(match fj ρ2 with
    | .ok (.int b,_,ρ3)=>(match DV x a b y with
     | some x'=>if d=om/\Fq y=true then .nx (ρ3.set i (some (x',om))) else if d=om/\e=om then .nx (ρ3.set i (some (x',0))) else .no
     | none=>.no)
    | _=>.no)
   | _=>.no)
  | _=>.no)
 | _=>.no
def yL {x x' y:PV}{a b:Int} (h:DV x a b y=some x'):∃ rows p cells q,x=.lst rows/\CB rows.length a=some p/\rows[p]?=some (.lst cells)/\CB cells.length b=some q/\x'=.lst (rows.set p (.lst (cells.set q y))):=by
 unfold DV at h;split at h
 ·rename_i rows;split at h
  ·rename_i p ep;split at h
   ·rename_i cells er;split at h
    ·rename_i q eq;cases h;exact ⟨rows,p,cells,q,rfl,ep,er,eq,rfl⟩
    ·cases h
   ·cases h
  ·cases h
 ·cases h
def KD.top (k:KD M H fps H' fps') (r:Rep M ρ σ H fps) {i:Nat}{a:Addr}{o:HO} (hm:M.Ms i=false) (ha:a∈fps i) (h:H a=some o):H' a=some o:=
 k.keep a o h λ ⟨j,hj,hb⟩=>r.dj i j (λ e=>by rw [e,hj] at hm;cases hm) a ha hb
theorem vf {f fi fj:Fx}{vi vj:List Nat}{i:Nat}{D:Ends} (hal:∀ i,M.al i=[]) (hm:M.Ms i=false) (hq:tS M (Eu i fi fj f) D σ H):D9 (tE M f vs) (HN (Jv (J0 M.K) (CO i) (tE M fi vi)) (tE M fj vj) ON) D σ H:=by
 obtain ⟨ρ,fps,rep,q⟩:=hq;refine ⟨ρ,fps,rep,?_⟩;unfold Eu at q;cases ef:f ρ with
 | no=>rw [ef] at q;exact q
 | exc c=>rw [ef] at q;exact q.elim
 | ok p0=>
  obtain ⟨y,e,ρ1⟩:=p0;rw [ef] at q;intro w H1 fps1 fp k1 g1 rep1 o1 t1;dsimp only at q;cases ei:ρ1[i]? with
  | none=>rw [ei] at q;exact q.elim
  | some s1=>
   rw [ei] at q;cases s1 with
   | none=>exact q.elim
   | some s1=>
    obtain ⟨x1,dx1⟩:=s1;obtain ⟨v,hσ,_⟩:=rep1.own0 hal i _ _ ei;dsimp only at q;refine ⟨v,hσ,ρ1,fps1,rep1,?_⟩;split at q
    ·rename_i a da ρ2 e1;rw [e1];intro va H2 fps2 fpa k2 g2 rep2 oa ta;rw [Own] at oa;obtain ⟨rfl,rfl⟩:=oa;split at q
     ·rename_i b db ρ3 e2;split at q
      ·rename_i x' ex;obtain ⟨rows,p,cells,jq,rfl,ep,er,eq,rfl⟩:=yL ex;split at q
       ·rename_i hc;obtain ⟨rfl,hy⟩:=hc;obtain ⟨rfl,oy⟩:=Own.flatA (Z':=λ _=>True) (d':=om) hy o1;have e2i:ρ2[i]?=some (some (.lst rows,om)):=by rw [g2.1 i hm];exact ei
        obtain ⟨v2,hσ2,ol2⟩:=rep2.own0 hal i _ _ e2i;rw [hσ] at hσ2;cases hσ2;obtain ⟨a0,ws,f2,rfl,ha2,hf2,na2,hol2⟩:=ol2.list (by decide:om≠0);rw [GQ] at hol2;obtain ⟨r,us,fc,ew,hr,hrf,oc,sc,nrc,_⟩:=hol2.row er;have hai:a0∈fps2 i:=by rw [hf2];exact AR
        have hri2:r∈fps2 i:=by rw [hf2];exact AO _ hrf
        refine ⟨a0,ws,a,.ref r,rfl,rfl,.inl (.inl ha2),?_,ρ2,fps2,rep2,?_⟩
        ·unfold BB;rw [hol2.length,ep];exact ew
        rw [e2];intro vb H3 fps3 fpb k3 g3 rep3 ob tb;rw [Own] at ob;obtain ⟨rfl,rfl⟩:=ob;have e3:ρ3[i]?=some (some (.lst rows,om)):=by rw [g3.1 i hm];exact e2i
        obtain ⟨v3,hσ3,ol3⟩:=rep3.own0 hal i _ _ e3;rw [hσ] at hσ3;cases hσ3;obtain ⟨a',ws3,f3,ev,ha3,hf3,na3,hol3⟩:=ol3.list (by decide:om≠0);cases ev;have hai3:a0∈fps3 i:=by rw [hf3];exact AR
        have ht:=k3.top rep2 hm hai ha2;rw [ha3] at ht;cases ht;rw [GQ] at hol3;obtain ⟨r',us3,fc3,ew3,hr3,hrf3,oc3,sc3,nrc3,nx⟩:=hol3.row er;rw [ew] at ew3;cases ew3;have hri:r∈fps3 i:=by rw [hf3];exact AO _ hrf3
        refine ⟨r,us3,b,jq,rfl,rfl,hr3,by rw [oc3.length];exact eq,?_⟩;have oy2:Own M.K H2 (λ _=>True) y om w []:=Own.move k2.keep (λ a ⟨_,_,h⟩=>⟨trivial,rep1.lsts h⟩) (λ _ _ n=>absurd trivial n) y om w [] (λ _ z=>nomatch z) oy;have oy3:Own M.K H3 (λ _=>True) y om w []:=Own.move k3.keep (λ a ⟨_,_,h⟩=>⟨trivial,rep2.lsts h⟩) (λ _ _ n=>absurd trivial n) y om w [] (λ _ z=>nomatch z) oy2;obtain ⟨fc',sc',oc'⟩:=(oc3.full' (Z':=λ _=>True)).set oy3 jq;have oc2:OwnL M.K (Aq H3 r (.lst (us3.set jq w))) (λ _=>True) (cells.set jq y) om (us3.set jq w) fc':=oc'.at trivial ⟨.l us3,hr3⟩ (λ z=>nrc3 (sc' r z)) λ _ _ n=>absurd trivial n;obtain ⟨f',s',o'⟩:=nx _ _ fc' oc2 sc';have nea:a0≠r:=λ e=>na3 (by rw [e];exact hrf3);have dm:∀ b,H3 b≠none->(Aq H3 r (.lst (us3.set jq w))) b≠none:=λ b h=>by
         by_cases eb:b=r
         ·rw [eb,C8];simp
         ·rw [Bk eb];exact h
        have hsub:∀ b∈a0::f',b∈fps3 i:=λ b hb=>by
         rw [hf3];exact (jb2.mp hb).elim (λ z=>by rw [z];exact AR) λ z=>AO _ (s' b z)
        have kw:KS M H3 fps3 (Aq H3 r (.lst (us3.set jq w))) (λ j=>if j=i then a0::f' else fps3 j):=⟨λ b u hb n=>by rw [Bk (λ e=>n ⟨i,by rw [e];exact hri⟩)];exact hb,dm,λ j b hb=>by
         by_cases ej:j=i
         ·simp only [if_pos ej] at hb;exact .inl ⟨i,hsub b hb⟩
         ·simp only [if_neg ej] at hb;exact .inl ⟨j,hb⟩⟩
        refine q σ _ _ (((k1.ks.trans k2.ks).trans k3.ks).trans kw) (rep3.change hal e3 hσ (λ b u hb n=>by rw [Bk (λ e=>n (by rw [e];exact hri))];exact hb) dm hsub (λ _=>rfl) ?_);rw [Own];exact ⟨a0,ws,rfl,.inr ⟨by decide,f',by rw [Bk nea];exact ha3,rfl,λ z=>na3 (s' a0 z),o'.full'⟩⟩
       ·split at q
        ·rename_i hc;obtain ⟨rfl,rfl⟩:=hc;have oy:Own M.K H1 (λ _=>True) y om w fp:=Own.full _ _ _ o1;have e2i:ρ2[i]?=some (some (.lst rows,om)):=by rw [g2.1 i hm];exact ei
         obtain ⟨v2,hσ2,ol2⟩:=rep2.own0 hal i _ _ e2i;rw [hσ] at hσ2;cases hσ2;obtain ⟨a0,ws,f2,rfl,ha2,hf2,na2,hol2⟩:=ol2.list (by decide:om≠0);rw [GQ] at hol2;obtain ⟨r,us,fc,ew,hr,hrf,oc,sc,nrc,_⟩:=hol2.row er;have hai:a0∈fps2 i:=by rw [hf2];exact AR
         refine ⟨a0,ws,a,.ref r,rfl,rfl,.inl (.inl ha2),?_,ρ2,fps2,rep2,?_⟩
         ·unfold BB;rw [hol2.length,ep];exact ew
         rw [e2];intro vb H3 fps3 fpb k3 g3 rep3 ob tb;rw [Own] at ob;obtain ⟨rfl,rfl⟩:=ob;have e3:ρ3[i]?=some (some (.lst rows,om)):=by rw [g3.1 i hm];exact e2i
         obtain ⟨v3,hσ3,ol3⟩:=rep3.own0 hal i _ _ e3;rw [hσ] at hσ3;cases hσ3;obtain ⟨a',ws3,f3,ev,ha3,hf3,na3,hol3⟩:=ol3.list (by decide:om≠0);cases ev;have hai3:a0∈fps3 i:=by rw [hf3];exact AR
         have ht:=k3.top rep2 hm hai ha2;rw [ha3] at ht;cases ht;rw [GQ] at hol3;obtain ⟨r',us3,fc3,ew3,hr3,hrf3,oc3,sc3,nrc3,nx⟩:=hol3.rowP er;rw [ew] at ew3;cases ew3;have hri:r∈fps3 i:=by rw [hf3];exact AO _ hrf3
         refine ⟨r,us3,b,jq,rfl,rfl,hr3,by rw [oc3.length];exact eq,?_⟩;have n2:∀ b∈fp,¬ Zf M fps2 b:=λ b hb z=>by
          rcases z with z | ⟨j,z⟩
          ·exact t1.ndj b hb (.inl z)
          ·rcases k2.sub j b z with z | z
           ·exact t1.ndj b hb (.inr ⟨j,z⟩)
           ·obtain ⟨o,ho⟩:=Own.lsts y _ w fp oy b hb;rw [ho] at z;cases z
         have oy2:Own M.K H2 (λ _=>True) y om w fp:=Own.move k2.keep (λ a ⟨_,_,h⟩=>⟨trivial,rep1.lsts h⟩) (λ _ _ n=>absurd trivial n) y om w fp (λ a ha ⟨j,_,hj⟩=>t1.ndj a ha (.inr ⟨j,hj⟩)) oy;have n3:∀ b∈fp,¬ Zf M fps3 b:=λ b hb z=>by
          rcases z with z | ⟨j,z⟩
          ·exact n2 b hb (.inl z)
          ·rcases k3.sub j b z with z | z
           ·exact n2 b hb (.inr ⟨j,z⟩)
           ·obtain ⟨o,ho⟩:=Own.lsts y _ w fp oy2 b hb;rw [ho] at z;cases z
         have oy3:Own M.K H3 (λ _=>True) y om w fp:=Own.move k3.keep (λ a ⟨_,_,h⟩=>⟨trivial,rep2.lsts h⟩) (λ _ _ n=>absurd trivial n) y om w fp (λ a ha ⟨j,_,hj⟩=>n2 a ha (.inr ⟨j,hj⟩)) oy2;have nfp:∀ b∈fp,b∉f3:=λ b hb z=>n3 b hb (.inr ⟨i,by rw [hf3];exact AO _ z⟩);obtain ⟨fc',sc',oc'⟩:=(oc3.full' (Z':=λ _=>True)).setF oy3 jq λ b hb z=>nfp b hb (sc3 b z);have oc2:OwnL M.K (Aq H3 r (.lst (us3.set jq w))) (λ _=>True) (cells.set jq y) om (us3.set jq w) fc':=oc'.at trivial ⟨.l us3,hr3⟩ (λ z=>(sc' r z).elim nrc3 λ z=>nfp r z hrf3) λ _ _ n=>absurd trivial n;obtain ⟨f',s',o'⟩:=nx _ _ fc' fp oc2 sc' nfp;have nea:a0≠r:=λ e=>na3 (by rw [e];exact hrf3);have dm:∀ b,H3 b≠none->(Aq H3 r (.lst (us3.set jq w))) b≠none:=λ b h=>by
          by_cases eb:b=r
          ·rw [eb,C8];simp
          ·rw [Bk eb];exact h
         have oF:Own M.K (Aq H3 r (.lst (us3.set jq w))) (λ _=>True) (.lst (rows.set p (.lst (cells.set jq y)))) om (.ref a0) (a0::f'):=by
          rw [Own];exact ⟨a0,ws,rfl,.inr ⟨by decide,f',by rw [Bk nea];exact ha3,rfl,λ z=>(s' a0 z).elim na3 λ z=>n3 a0 z (.inr ⟨i,hai3⟩),by rw [GQ];exact o'⟩⟩
         have nz:∀ b∈a0::f',¬ Zf M (λ j=>if j=i then [] else fps3 j) b:=λ b hb z=>by
          have hz:Zf M fps3 b:=by
           rcases z with z | ⟨j,z⟩
           ·exact .inl z
           ·by_cases ej:j=i
            ·simp only [if_pos ej] at z;cases z
            ·simp only [if_neg ej] at z;exact .inr ⟨j,z⟩
          have hin:b∈fps3 i:=by
           rw [hf3];rcases jb2.mp hb with e | hb
           ·rw [e];exact AR
           ·exact (s' b hb).elim (λ z=>AO _ z) λ z=>absurd hz (n3 b z)
          rcases z with z | ⟨j,z⟩
          ·exact rep3.zo i b hin z
          ·by_cases ej:j=i
           ·simp only [if_pos ej] at z;cases z
           ·simp only [if_neg ej] at z;exact rep3.dj i j (Ca ej) b hin z
         have kw:KS M H3 fps3 (Aq H3 r (.lst (us3.set jq w))) (λ j=>if j=i then [] else fps3 j):=⟨λ b u hb n=>by rw [Bk (λ e=>n ⟨i,by rw [e];exact hri⟩)];exact hb,dm,λ j b hb=>by
          by_cases ej:j=i
          ·simp only [if_pos ej] at hb;cases hb
          ·simp only [if_neg ej] at hb;exact .inl ⟨j,hb⟩⟩
         refine q σ _ _ (((k1.ks.trans k2.ks).trans k3.ks).trans kw) (rep3.change (f':=[]) hal e3 hσ (λ b u hb n=>by rw [Bk (λ e=>n (by rw [e];exact hri))];exact hb) dm (λ _ z=>nomatch z) (λ h=>by rw [hm] at h;cases h) ?_);exact Own.freeze (λ _ _=>trivial) _ _ _ _ nz oF
        ·exact q.elim
      ·exact q.elim
     ·exact q.elim
    ·exact q.elim
def Ct (i:Nat) (f:Fx) (vs:List Nat):Fs:=λ ρ=>match ρ[i]? with
 | some (some (.lst _,0))=>.no
 | some (some (.lst _,_ + 1))=>(match f ρ with
  | .ok (.lst ys,e,ρ1)=>(match (Bi e vs ρ1)[i]? with
   | some (some (.lst xs,d))=>if d≠0/\xs.length + ys.length<=Aw then .nx ((Bi e vs ρ1).set i (some (.lst (xs++ys),1))) else .no
   | _=>.no)
  | .ok _=>.no
  | .exc c=>.exc c
  | .no=>.no)
 | _=>.no
def zP {f:Fx}{i:Nat}{D:Ends} (hal:∀ i,M.al i=[]) (hv:∀ i∈vs,M.Ms i=false) (hm:M.Ms i=false) (hq:tS M (Ct i f vs) D σ H):Mi (Oc M.K "list" Xn (CO i) (Mh (tE M f vs) Ga)) D σ H:=by
 obtain ⟨ρ,fps,rep,q⟩:=hq;unfold Ct at q;split at q
 ·exact q.elim
 ·rename_i xs0 d0 e0;obtain ⟨v,hσ,o⟩:=rep.own0 hal i _ _ e0;obtain ⟨a,ws0,fc0,rfl,ha0,hfp0,_,_⟩:=o.list (Po _);refine ⟨_,hσ,X1 (.inl (.inl ha0)),ρ,fps,rep,?_⟩;cases ef:f ρ with
  | no=>rw [ef] at q;exact q
  | exc c=>rw [ef] at q;exact λ H' fps' k=>q _ H' fps' k.ks
  | ok p=>
   obtain ⟨y,e,ρ1⟩:=p;rw [ef] at q;cases y with
   | lst ys=>
    intro w H1 fps1 fp k1 g1 rep1 o1 t1;dsimp only at q;split at q
    ·rename_i xs d es;split at q
     ·rename_i hc;obtain ⟨fps2,k2,r2,o2,n2,s2,h2⟩:=Rep.behind rep k1 g1 rep1 o1 t1 hal hv;obtain ⟨v',hσ',ol⟩:=r2.own0 hal i _ _ es;rw [hσ] at hσ';cases hσ';obtain ⟨a',ws,fc,ev,ha,hfp,nac,hol⟩:=ol.list hc.1;cases ev;have hai:a∈fps2 i:=by rw [hfp];exact AR
      have hafp:a∉fp:=λ z=>n2 a z (.inr ⟨i,hai⟩);have hst:∃ j,a∈fps j:=⟨i,by have:=s2 i a hai;rw [k1.same i hm] at this;exact this⟩
      have zsub:∀ b,Zf M (λ j=>if j=i then [a] else fps2 j) b->Zf (M.plus fp) fps2 b:=λ b h=>by
       rcases h with z | ⟨j,z⟩
       ·exact .inl (.inl z)
       ·by_cases ej:j=i
        ·simp only [if_pos ej] at z;rw [jb1.mp z];exact .inr ⟨i,hai⟩
        ·simp only [if_neg ej] at z;exact .inr ⟨j,z⟩
      have nf:∀ b∈fc,¬ Zf M (λ j=>if j=i then [a] else fps2 j) b:=λ b hb z=>by
       have hbi:b∈fps2 i:=by rw [hfp];exact AO _ hb
       rcases z with z | ⟨j,z⟩
       ·exact r2.zo i b hbi (.inl z)
       ·by_cases ej:j=i
        ·simp only [if_pos ej] at z;rw [jb1.mp z] at hb;exact nac hb
        ·simp only [if_neg ej] at z;exact r2.dj i j (Ca ej) b hbi z
      have nfp:∀ b∈fp,¬ Zf M (λ j=>if j=i then [a] else fps2 j) b:=λ b hb z=>by
       rcases z with z | ⟨j,z⟩
       ·exact n2 b hb (.inl z)
       ·by_cases ej:j=i
        ·simp only [if_pos ej] at z;rw [jb1.mp z] at hb;exact hafp hb
        ·simp only [if_neg ej] at z;exact n2 b hb (.inr ⟨j,z⟩)
      have za:Zf M (λ j=>if j=i then [a] else fps2 j) a:=.inr ⟨i,by simp⟩;have u1:=(OwnL.freeze (Z':=Zf M (λ j=>if j=i then [a] else fps2 j)) zsub xs _ ws fc nf hol)
      have u2:=(Own.freeze (Z':=Zf M (λ j=>if j=i then [a] else fps2 j)) (λ b h=>by
       rcases h with z | ⟨j,z⟩
       ·exact .inl (.inl z)
       ·by_cases ej:j=i
        ·simp only [if_pos ej] at z;rw [jb1.mp z];exact .inl (.inr ⟨i,hai⟩)
        ·simp only [if_neg ej] at z;exact .inl (.inr ⟨j,z⟩)) (.lst ys) _ w fp nfp o2)
      obtain ⟨b,us,rfl,hb,u3⟩:=u2.coldL;refine ⟨a,b,ws,us,rfl,rfl,ha,hb,by rw [hol.length,u3.length];exact hc.2,?_⟩;refine q σ _ _ (k2.write (i:=i) (f':=[]) (fp:=fp) hst λ b hb=>?_) (r2.rewrite hal es hσ ha hfp (λ z=>nomatch z) (λ b hb=>nomatch hb) (by decide) (λ h=>by rw [hm] at h;cases h) h2 ?_)
      ·rcases jb2.mp hb with z | z
       ·exact .inl (by rw [z];exact hai)
       ·cases z
      ·rw [Kc];exact OwnL.append0 (u3.at za ⟨.l ws,ha⟩ (λ z=>nomatch z) λ _ _ n=>n) (u1.at za ⟨.l ws,ha⟩ (λ z=>nomatch z) λ _ _ n=>n)
     ·exact q.elim
    ·exact q.elim
   | _=>exact q.elim
 ·exact q.elim
end
section
variable {M:Fm}{ρ ρ':Ag}{σ σ':St}{H H' H'':Hp}{fps fps' fps'':AX}{vs vs':List Nat}
end
section
variable {is:List Nat}{M:Fm}{ρ ρ':Ag}{σ σ':St}{H H' H'':Hp}{fps fps' fps'':AX}{vs vs':List Nat}{D:Ends}
end
section
variable {is:List Nat}{M:Fm}{ρ ρ':Ag}{σ σ':St}{H H' H'':Hp}{fps fps' fps'':AX}{vs vs':List Nat}{D:Ends}
end
section
variable {is:List Nat}{X:Cx}{M:Fm}{ρ ρ':Ag}{σ σ':St}{H H' H'':Hp}{fps fps' fps'':AX}{vs vs':List Nat}{D:Ends}
def V5:Ff:=λ o i v H Q=>∃ a H',o=.ref a/\DPut H a i v H'/\Q H'
def xB:Ff:=λ o i v H Q=>ON o i v H Q\/V5 o i v H Q
def qS (hu:X.A.units + 1 < Cj):PSet X V5:=by
 intro pins s σ H o i v ov iv u Q I ro ri rv h;obtain ⟨a,H',rfl,g,q⟩:=h;obtain rfl:ov=Value.ref a:=ro;exact yk hu I g ri rv λ s' I'=>⟨H',I',q⟩
def PSet.or {t t':Ff} (h:PSet X t) (h':PSet X t'):PSet X (λ o i v H Q=>t o i v H Q\/t' o i v H Q):=by
 intro pins s σ H o i v ov iv u Q I ro ri rv q;rcases q with q | q
 ·exact h pins s σ H o i v ov iv u Q I ro ri rv q
 ·exact h' pins s σ H o i v ov iv u Q I ro ri rv q
def z8 {K:Frag}{Z:Addr->Prop}{y:PV}{u:V}{d:Nat}{w:V}{fp:List Addr} (h:sV y=some u) (o:Own K H Z y d w fp):w=u/\Mq y=true:=by
 cases y <;> cases h <;> (rw [Own] at o;exact ⟨o.1,rfl⟩)
def EU (x:PV) (k y:PV):Option PV:=match x,k with
 | .lst xs,.int i=>(match CB xs.length i with
  | some j=>some (.lst (xs.set j y))
  | none=>none)
 | .dct kvs,.tup ks=>(match Gk ks,sV y with
  | some k,some u=>if kvs.length < Aw then some (.dct (C0 kvs k u)) else none
  | _,_=>none)
 | _,_=>none
def uH:PV->Bool
 | .lst _=>true
 | _=>false
def DQ (i:Nat) (fk f:Fx):Fs:=λ ρ=>match f ρ with
 | .ok (y,e,ρ1)=>(match ρ1[i]? with
  | some (some _)=>(match fk ρ1 with
   | .ok (k,_,ρ2)=>(match ρ2[i]? with
    | some (some (x,d))=>(match EU x k y with
     | some x'=>if d≠0/\Fq y=true then .nx (ρ2.set i (some (x',d))) else if d≠0/\e=om/\uH x=true then .nx (ρ2.set i (some (x',1))) else .no
     | none=>.no)
    | _=>.no)
   | _=>.no)
  | _=>.no)
 | .exc c=>.exc c
 | .no=>.no
def Rep.poke {i:Nat}{x x':PV}{d:Nat}{a:Addr}{o':HO}{f':List Addr}{H0:Hp}{fps0:AX} (hal:∀ i,M.al i=[]) (k0:KS M H0 fps0 H fps) (r:Rep M ρ σ H fps) (hi:ρ[i]?=some (some (x,d))) (hσ:σ[i]?=some (some (.ref a))) (ha:a∈fps i) (hs:∀ b∈f',b∈fps i)
  (o:Own M.K (Aq H a o') (Zf M (λ j=>if j=i then f' else fps j)) x' d (.ref a) f'):KS M H0 fps0 (Aq H a o') (λ j=>if j=i then f' else fps j)/\Rep M (ρ.set i (some (x',d))) σ (Aq H a o') (λ j=>if j=i then f' else fps j):=by
 have dm:∀ b,H b≠none->Aq H a o' b≠none:=λ b hb=>by
  by_cases eb:b=a
  ·rw [eb,C8];simp
  ·rw [Bk eb];exact hb
 refine ⟨⟨λ b u hb n=>?_,λ b hb=>dm b (k0.dom b hb),λ j b hb=>?_⟩,r.change hal hi hσ (λ b u hb n=>?_) dm hs (λ h=>r.msf i _ _ h hi) o⟩
 ·have hb1:=k0.keep b u hb n;rw [Bk]
  ·exact hb1
  ·rintro rfl;rcases k0.sub i b ha with z | z
   ·exact n z
   ·rw [z] at hb;cases hb
 ·by_cases ej:j=i
  ·simp only [if_pos ej] at hb;exact k0.sub i b (hs b hb)
  ·simp only [if_neg ej] at hb;exact k0.sub j b hb
 ·rw [Bk]
  ·exact hb
  ·rintro rfl;exact n ha
theorem vh {f fk:Fx}{vk:List Nat}{i:Nat} (hal:∀ i,M.al i=[]) (hm:M.Ms i=false) (hv:∀ i∈vs,M.Ms i=false) (hq:tS M (DQ i fk f) D σ H):D9 (tE M f vs) (HN (CO i) (tE M fk vk) xB) D σ H:=by
 obtain ⟨ρ,fps,rep,q⟩:=hq;refine ⟨ρ,fps,rep,?_⟩;unfold DQ at q;cases ef:f ρ with
 | no=>rw [ef] at q;exact q
 | exc c=>rw [ef] at q;exact λ H' fps' k=>q _ H' fps' k.ks
 | ok p=>
  obtain ⟨y,e,ρ1⟩:=p;rw [ef] at q;intro w H1 fps1 fp k1 g1 rep1 o1 t1;dsimp only at q;cases e1:ρ1[i]? with
  | none=>rw [e1] at q;exact q.elim
  | some s1=>
   rw [e1] at q;cases s1 with
   | none=>exact q.elim
   | some p1=>
   obtain ⟨x1,d1⟩:=p1;dsimp only at q;obtain ⟨v0,hσ,_⟩:=rep1.own i _ _ e1;refine ⟨v0,hσ,ρ1,fps1,rep1,?_⟩;cases ek:fk ρ1 with
   | no=>rw [ek] at q;exact q.elim
   | exc c=>rw [ek] at q;exact q.elim
   | ok p2=>
    obtain ⟨k,ek',ρ2⟩:=p2;rw [ek] at q;intro kv H2 fps2 f2 k2 g2 rep2 o2 t2;dsimp only at q;cases e2:ρ2[i]? with
    | none=>rw [e2] at q;exact q.elim
    | some s2=>
     rw [e2] at q;cases s2 with
     | none=>exact q.elim
     | some p3=>
      obtain ⟨x,d⟩:=p3;dsimp only at q;cases ep:EU x k y with
      | none=>rw [ep] at q;exact q.elim
      | some x'=>
       rw [ep] at q;dsimp only at q;split at q
       ·rename_i hc;obtain ⟨hd,hy⟩:=hc;obtain ⟨v1,hσ1,ox⟩:=rep2.own0 hal i _ _ e2;rw [hσ] at hσ1;cases hσ1;have k12:KS M H fps H2 fps2:=k1.ks.trans k2.ks;unfold EU at ep;split at ep
        ·rename_i xs n;split at ep
         ·rename_i j ej;cases ep;rw [Own] at o2;obtain ⟨rfl,_⟩:=o2;obtain ⟨a,ws,fc,rfl,ha,hfp,nac,hol⟩:=ox.list hd;have hai:a∈fps2 i:=by rw [hfp];exact AR
          have ow:Own M.K H2 (Zf M fps2) y (pd d) w []:=(Own.flatA (d':=pd d) hy (k2.stay rep1 hv o1 t1.ndj)).2;obtain ⟨fc',hs',hset⟩:=hol.set ow j;have inI:∀ b,b∈a::fc'->b∈fps2 i:=λ b hb=>(jb2.mp hb).elim (λ z=>by rw [z];exact hai) λ z=>by rw [hfp];exact AO _ (hs' b z)
          have nz:∀ b,Zf M (λ j=>if j=i then a::fc' else fps2 j) b->Zf M fps2 b:=λ b h=>by
           rcases h with z | ⟨j,z⟩
           ·exact .inl z
           ·by_cases ej:j=i
            ·simp only [if_pos ej] at z;exact .inr ⟨i,inI b z⟩
            ·simp only [if_neg ej] at z;exact .inr ⟨j,z⟩
          refine .inl ⟨a,ws,n,j,rfl,rfl,ha,by rw [hol.length];exact ej,?_⟩;have pk:=rep2.poke (o':=.lst (ws.set j w)) (x':=.lst (xs.set j y)) (f':=a::fc') hal k12 e2 hσ hai inI (by
           rw [Own];exact ⟨a,_,rfl,.inr ⟨hd,fc',C8,rfl,λ z=>nac (hs' a z),hset.at (.inr ⟨i,hai⟩) ⟨.l ws,ha⟩ (λ z=>nac (hs' a z)) λ b _ n z=>n (nz b z)⟩⟩)
          exact q σ _ _ pk.1 pk.2
         ·cases ep
        ·rename_i kvs ks;split at ep
         ·rename_i kk u ekk eu;split at ep
          ·rename_i hl;cases ep;obtain ⟨rfl,_⟩:=z8 eu o1;rw [Own] at o2;obtain ⟨b,ws,rfl,hb,ol⟩:=o2
           have:=Nl ekk ol
           subst this;have hx:∃ a,v0=.ref a/\H2 a=some (.dT kvs)/\fps2 i=[a]:=by
            rw [Own] at ox;obtain ⟨a,ea,⟨d0,_⟩ | ⟨_,ha,hf⟩⟩:=ox
            ·exact absurd d0 hd
            ·exact ⟨a,ea,ha,hf⟩
           obtain ⟨a,rfl,ha,hf⟩:=hx;have hai:a∈fps2 i:=by rw [hf];exact AR
           refine .inr ⟨a,_,rfl,DPut.t ha hb hl,?_⟩;have pk:=rep2.poke (o':=.dT (C0 kvs kk w)) (x':=.dct (C0 kvs kk w)) (f':=[a]) hal k12 e2 hσ hai (λ b hb=>by rw [jb1.mp hb];exact hai) (by
            rw [Own];exact ⟨a,rfl,.inr ⟨hd,C8,rfl⟩⟩)
           exact q σ _ _ pk.1 pk.2
          ·cases ep
         ·cases ep
        ·cases ep
       ·split at q
        ·rename_i hc;obtain ⟨hd,rfl,hx⟩:=hc;obtain ⟨v1,hσ1,ox⟩:=rep2.own0 hal i _ _ e2;rw [hσ] at hσ1;cases hσ1;cases x with
         | lst xs=>
          unfold EU at ep;cases k with
          | int n=>
           dsimp only at ep;split at ep
           ·rename_i j ej;cases ep;rw [Own] at o2;obtain ⟨rfl,_⟩:=o2;obtain ⟨a,ws,fc,rfl,ha,hfp,nac,hol⟩:=ox.list hd;have hai:a∈fps2 i:=by rw [hfp];exact AR
            have oy:=k2.stay rep1 hv o1 t1.ndj;have n2:∀ b∈fp,¬ Zf M fps2 b:=λ b hb z=>by
             rcases z with z | ⟨j,z⟩
             ·exact t1.ndj b hb (.inl z)
             ·rcases k2.sub j b z with z | z
              ·exact t1.ndj b hb (.inr ⟨j,z⟩)
              ·obtain ⟨o,ho⟩:=Own.lsts y _ w fp o1 b hb;rw [ho] at z;cases z
            have hafp:a∉fp:=λ z=>n2 a z (.inr ⟨i,hai⟩);have hst:∃ j,a∈fps j:=⟨i,by have:=(k1.trans k2).same i hm;rw [<- this];exact hai⟩
            have rw2:Rep (M.plus fp) ρ2 σ H2 fps2:=rep.wide (λ i j hj=>by rw [hal i] at hj;cases hj) (k1.trans k2) (g1.trans g2) rep2 λ b hb=>⟨t1.new b hb,by obtain ⟨o,ho⟩:=Own.lsts y _ w fp oy b hb;rw [ho];simp,n2 b hb⟩
            have h2:∀ b∈fp,M.H₀ b=none/\¬ M.Zo b:=λ b hb=>⟨rep.h0' (t1.new b hb),λ z=>n2 b hb (.inl z)⟩
            let Z:Addr->Prop:=Zf M (λ j=>if j=i then [a] else fps2 j);have zsub:∀ b,Z b->Zf M fps2 b:=λ b h=>by
             rcases h with z | ⟨j,z⟩
             ·exact .inl z
             ·by_cases ej:j=i
              ·simp only [if_pos ej] at z;rw [jb1.mp z];exact .inr ⟨i,hai⟩
              ·simp only [if_neg ej] at z;exact .inr ⟨j,z⟩
            have nf:∀ b∈fc,¬ Z b:=λ b hb z=>by
             have hbi:b∈fps2 i:=by rw [hfp];exact AO _ hb
             rcases z with z | ⟨j,z⟩
             ·exact rep2.zo i b hbi z
             ·by_cases ej:j=i
              ·simp only [if_pos ej] at z;rw [jb1.mp z] at hb;exact nac hb
              ·simp only [if_neg ej] at z;exact rep2.dj i j (Ca ej) b hbi z
            have za:Z a:=.inr ⟨i,by simp⟩;have u1:=OwnL.freeze (Z':=Z) zsub xs _ ws fc nf hol;have u2:=Own.freeze (Z':=Z) (λ b _=>trivial) y _ w fp (λ b hb z=>n2 b hb (zsub b z)) (Own.full (Z':=λ _=>True) y w fp oy);obtain ⟨f',hs',u3⟩:=(u1.at za ⟨.l ws,ha⟩ (λ z=>nomatch z) λ _ _ n=>n).set (u2.at (o:=.lst (ws.set j w)) za ⟨.l ws,ha⟩ (λ z=>nomatch z) λ _ _ n=>n) j;obtain rfl:f'=[]:=jk3.mpr λ b hb=>nomatch hs' b hb
            refine .inl ⟨a,ws,n,j,rfl,rfl,ha,by rw [hol.length];exact ej,?_⟩;refine q σ _ _ ((k1.ks.trans k2.ks).write (i:=i) (f':=[]) (fp:=fp) hst λ b hb=>?_) (rw2.rewrite hal e2 hσ ha hfp (λ z=>nomatch z) (λ b hb=>nomatch hb) (by decide) (λ h=>by rw [hm] at h;cases h) h2 ?_)
            ·rcases jb2.mp hb with z | z
             ·exact .inl (by rw [z];exact hai)
             ·cases z
            ·rw [Kc];exact u3
           ·cases ep
          | _=>cases ep
         | _=>cases hx
        ·exact q.elim
end
section
variable {X:Cx}{W:St->Nat->Hp->Prop}
def wc (hr:Nv X W) (t:DS X.K=true) (hcalm:X.calm=true) {c:Nat}{C:Addr}{x m:Str}{np cpos pos p:Pos}{j:_} (e:C6 X.K c=some C) (hg:Gl X x) (hm:X.mg x=some (.ref C)) (hdb:(x == ("__debug__" : Str))=false):
  PS X (.Raise (some (.Call (.Name x np) [.Constant (.str m) j p] [] cpos)) none pos) (λ D σ H=>W σ c H):=by
 intro pins s σ H D I h;obtain ⟨bm,N,nm,q,bs,hdct,sn,sub,ab,col,dd,k0,k1,k2,k3,k5,mN,hC,hN,hni,T,_⟩:=(OM I.ok.mod.kin t e).obj;have FB:=Vj;have he:AH [Expr.Constant (.str m) j p] X.env=(false,eval (.Constant (.str m) j p) X.env)::AH [] X.env:=rfl;refine wpAny_Raise_call_subU (C:=C) (nm:=nm) (q:=q) (N:=N) (bs:=bs) (bm:=bm) (hdct:=hdct) (sn:=sn) (sub:=sub) (ab:=ab) (col:=col) (dd:=dd) (k0:=k0) (k1:=k1) (k2:=k2) (k3:=k3) (k5:=k5)
  FB (show bmV.contains (.type "ValueError")=true by decide +kernel) FB (mN:=mN) (T.hasType FB.hasBase) (I.ok.hd hcalm) rfl hni (L3 I hg hm ⟨rfl,?_⟩ hdb)
 rw [he];refine Ru (DH ((Et OW FL (by rfl)) cpos pins s σ H (λ vs H'=>H'=H/\vs.length=1) I ⟨rfl,rfl⟩) (λ us s2 hu=>?_) λ _ _ y=>y);obtain ⟨vs,H2,I2,rv,eH,hl⟩:=hu;subst eH;refine ⟨rfl,?_,I2.bk _ _ hC,hN.keeps I2.bk,T.keeps I2.bk,λ h' a hx=>hr pins σ H2 s2 c C a h' us I2 e hx h⟩;show us.length<=Aw;rw [<- rv.length,hl];decide
end
section
variable {X:Cx}{pins pins1:List (Addr×Obj)}{σ:St}{H:Hp}{s:Aj}{e:Ae->Aj->Prop}
def Cx.Ok.wish2 {p:List (Addr×Obj)} (o:X.Ok):L2.Cx.Ok { X with pn:=p,xe:=e }:=⟨o.mod,o.kind,o.glob,o.blt,o.above,o.inj,o.has,o.cab,o.hd,o.frames,o.stk,o.exf,o.bs,o.bsz,o.noex,o.exfs,o.funs,o.frf⟩
def Inv.into (I:L2.Inv X pins σ H s):L2.Inv { X with pn:=X.pn++pins,xe:=e } [] σ H s:=
 ⟨Cx.Ok.wish2 I.ok,I.os,I.bare,I.base,I.loc,I.cell,I.free,I.freeC,λ p hp=>I.pin p (by simpa using hp),I.hok,I.len⟩
def Inv.outof (ok:X.Ok) (I:L2.Inv { X with pn:=X.pn++pins,xe:=e } pins1 σ H s):L2.Inv X pins σ H s:=
 ⟨ok,I.os,I.bare,I.base,I.loc,I.cell,I.free,I.freeC,λ p hp=>I.pin p (BG _ hp),I.hok,I.len⟩
abbrev Cx.inh (X:Cx) (v:Ae):Cx:={ X with A:=X.A.mark (some v),calm:=false,xe:=λ _ _=>False }
def Inv.inh (v:Ae) (I:L2.Inv X pins σ H s):L2.Inv (Cx.inh X v) pins σ H s:=
 ⟨⟨I.ok.mod,I.ok.kind,I.ok.glob,I.ok.blt,I.ok.above,I.ok.inj,I.ok.has,I.ok.cab,(λ h=>nomatch h),I.ok.frames,I.ok.stk,I.ok.exf,I.ok.bs,I.ok.bsz,I.ok.noex,I.ok.exfs,I.ok.funs,I.ok.frf⟩,I.os,I.bare,I.base,I.loc,I.cell,I.free,I.freeC,I.pin,I.hok,I.len⟩
def Inv.outh {v:Ae} (ok:X.Ok) (I:L2.Inv (Cx.inh X v) pins σ H s):L2.Inv X pins σ H s:=
 ⟨ok,I.os,I.bare,I.base,I.loc,I.cell,I.free,I.freeC,I.pin,I.hok,I.len⟩
def jN {M:Model}{A:AZ}{E:Ae->Aj->Prop}{i:Nat}{x:Str}{pos:Pos}{Q:Unit->Aj->Prop} (I:L2.Inv X pins σ H s) (hN:X.N.Nodup) (hi:X.N[i]?=some x) (hk:X.env.kindOf x=some .local)
  (h:∀ s',L2.Inv X pins (σ.set i none) H s'->Q () s'):Av M A (do bindName X.env x .none;unbindBehindTheSuite X.env x pos) Q E s:=by
 obtain ⟨m,hn,hl⟩:=id I.loc;have hcls:(X.env.scope.kind == .class || (X.env.scope.kind == .module && X.env.locals != X.env.globals))=false:=by rw [I.ok.kind];rfl
 have hiσ:i < σ.length:=by rw [I.len];exact (ja9.mp hi).1
 have cne:=I.cne;refine wpAny_nameGoes_keeps hk hn hcls λ h' v hn' hs=>?_;have tracked:HOk X.prog X.w H h':=λ b ob e=>by
  refine (I.hok b ob e).stay (λ c w' hc q=>(hs.2 c ?_).trans q) (λ _ q=>q) λ _ _ q=>q;rintro rfl;rcases hc with rfl | hc
  ·rw [I.free] at e;cases e
  ·rw [I.free] at hc;cases hc
 refine h _ ⟨I.ok,I.os,I.bare,⟨λ b o e n hb hx=>?_,λ b o e n hb hx=>?_,I.base.free,λ b o e hx=>?_,I.base.tups,I.base.frzs,I.base.tbls⟩,⟨_,hn',λ j y v' e1 e2 e3=>?_⟩,λ y c e=>?_,I.free,I.freeC,λ p hp=>?_,tracked,by simpa using I.len⟩
 ·exact (hs.2 b (Cn (Cb (Bu e) I.ok.above))).trans (I.base.keep b o e n hb hx)
 ·obtain ⟨sl,e1⟩:=I.base.slot b o e n hb hx;exact ⟨sl,(hs.2 b (Cn (Cb (Bu e) I.ok.above))).trans e1⟩
 ·obtain ⟨o',e1⟩:=I.base.there b o e hx;exact ⟨o',(hs.2 b (Cn (Cb (Bu e) I.ok.above))).trans e1⟩
 ·by_cases hj:j=i
  ·subst hj;rw [Di hiσ] at e2;cases e2
  ·rw [Cw (Ca hj)] at e2;obtain ⟨u',r',q⟩:=hl j y v' e1 e2 e3;refine ⟨u',r',?_⟩;rcases q with ⟨k,e⟩ | ⟨k,c,e,z⟩
   ·refine .inl ⟨k,?_⟩
    have:y≠x:=λ e=>hj (Q1 hN e1 (e ▸ hi))
    simp [this,e]
   ·exact .inr ⟨k,c,e,z.sameBut hs (cne y c e)⟩
 ·obtain ⟨w',z⟩:=I.cell y c e;exact ⟨w',z.sameBut hs (cne y c e)⟩
 ·obtain ⟨e,n,ne,nf,d⟩:=I.pin p hp;exact ⟨(hs.2 p.1 ne).trans e,n,ne,nf,d⟩
end
section
variable {M:Model}{A:AZ}{E:Ae->Aj->Prop}{K:Frag}
def yA {s:Aj}{a C D:Addr}{c d:Nat}{Q:Bool->Aj->Prop} (xc:XC s.heap K c C) (xd:XC s.heap K d D) (ed:C6 K d=some D) (he:Fp a C s.heap) (hq:Q (DX c d) s):Av M A (excMatches (.ref a) (.ref D)) Q E s:=by
 obtain ⟨bm,N,nm,q,bs,hdct,sn,sub,ab,col,dd,k0,k1,k2,k3,k5,mN,hC,hN,hni,T,hin⟩:=xc.obj;obtain ⟨bm',N',nm',q',bs',hdct',sn',sub',ab',col',dd',k0',k1',k2',k3',k5',mN',hD,hN',hni',T',_⟩:=xd.obj;obtain ⟨oe,vs,hoe,hcls,hdt⟩:=he;have hcB:(Value.ref D::bm').contains (.type "BaseException")=true:=by rw [List.contains_cons,T'.hasType PySem.F.excBase_ValueError.hasBase,Bool.or_true]
 have hcC:=hin d D ed;have f:=tc_notTuple;obtain ⟨h,g,dr,t,os⟩:=s;unfold excMatches
 repeat (first | (with_reducible refine LL hoe ?_;rw [hcls]) | with_reducible refine LL hD ?_ | (with_reducible refine wpAny_isSubtype_exc hD ?_;rw [hcB]) | (with_reducible refine wpAny_isSubtype_exc hC ?_;rw [hcC]) | wp_step)
 cases hb:DX c d <;> (rw [hb] at hq;wp_walk;exact hq)
end
section
variable {X:Cx}{pins:List (Addr×Obj)}{σ:St}{H H1:Hp}{s:Aj}{B:Heap}{a C:Addr}{a0:Ae}{c:Nat}
def U3 {s':Aj}{h:Heap} (I:L2.Inv X pins σ H s) (un:Un (CG X.stack) [] H H1 s.heap s'.heap) (hok:HOk X.prog X.w H1 s'.heap) (fl:NN B X.stack a (.ref C) a0 h) (up:s'.heap.UpToSlots h)
  (i1:∀ b o,s'.heap.get? b=some o->H1 b≠none->B.get? b=some o) (i2:∀ b o,s.heap.get? b=some o->H b=none->b∉CG X.stack->B.get? b=some o) (ha:H1 a=none) (hn:s.heap.get? a=none) (hd:∀ b,H b≠none->H1 b≠none) (ho:s'.os=s.os) (hg:Fy s'.gens):
  L2.Inv X pins σ (Aq H1 a (.ext (Fp a C))) { s' with heap:=h }/\Fp a C h:=by
 have ex:Fp a C h:=by
  obtain ⟨oe,vs,e1,e2,e3,_⟩:=fl.first;exact ⟨oe,vs,e1,e2,e3⟩
 have ET:∀ b v,H1 b≠none->s'.heap.get? b=some v->h.get? b=some v:=λ b v hb e=>fl.1 b v (i1 b v e hb);have nea:∀ b o,s.heap.get? b=some o->b≠a:=λ b o e z=>by rw [z,hn] at e;cases e
 have nea1:∀ b o,H1 b=some o->b≠a:=λ b o e z=>by rw [z,ha] at e;cases e
 have fr:∀ b o,s.heap.get? b=some o->H b=none->b∈CG X.stack->∃ sl,h.get? b=some { o with slots:=sl }:=λ b o e n hb=>by
  obtain ⟨sl,e2⟩:=un.any e n (by simp);obtain ⟨_,o',ho',hnf⟩:=I.stack.mem hb;rw [e] at ho';cases ho';obtain ⟨sl2,e3⟩:=up b _ e2 hnf;exact ⟨sl2,e3⟩
 refine ⟨I.call' (s':={ s' with heap:=h }) (ch:=[]) ho ⟨λ b o e n hb _=>fl.1 b o (i2 b o e n hb),λ b o e n hb _=>fr b o e n hb,λ b o e n _=>?_,λ b o e _=>?_,λ b xs e=>?_,λ b o xs e=>?_,λ b ps e=>?_⟩ (λ b o e=>?_) hg (λ b z=>absurd z (by simp)),ex⟩
 ·rw [Bk (nea b o e)];exact un.free b o e n (by simp)
 ·by_cases h0:H b=none
  ·by_cases hb:b∈CG X.stack
   ·obtain ⟨sl,e2⟩:=fr b o e h0 hb;exact ⟨_,e2⟩
   ·exact ⟨o,fl.1 b o (i2 b o e h0 hb)⟩
  ·obtain ⟨o2,e2⟩:=un.there b o e (by simp);exact ⟨o2,ET b o2 (hd b h0) e2⟩
 ·have:=un.tups b xs e
  rw [Bk (nea1 b _ this)];exact this
 ·have:=un.frzs b o xs e
  rw [Bk (nea1 b _ this)];exact this
 ·obtain ⟨m,e1⟩:=un.tbls b ps e;exact ⟨m,by rw [Bk (nea1 b _ e1)];exact e1⟩
 ·by_cases eb:b=a
  ·subst eb;rw [C8] at e;cases e;refine ⟨ex,?_,λ h1 h2 x k=>?_⟩
   ·obtain ⟨o,_,e1,_⟩:=ex;exact ⟨o,e1⟩
   ·obtain ⟨o,vs,e1,e2⟩:=x;exact ⟨o,vs,k o e1,e2⟩
  ·rw [Bk eb] at e;refine (hok b o e).stay (λ d v hd q=>ET d v ?_ q) (λ d q=>?_) λ d xs q=>?_
   ·rcases hd with rfl | hd
    ·rw [e];simp
    ·rw [hd];simp
   ·rw [Bk (nea1 d _ q)];exact q
   ·rw [Bk (nea1 d _ q)];exact q
def WT (K:Frag) (d i j:Nat) (D:Ends) (σ₀:St):St->Nat->Hp->Prop:=λ σ c H'=>σ=σ₀/\DX c d=true/\∀ a C,H' a=none->C6 K c=some C->D.nx (((σ.set j (some (.ref a))).set i (some (.ref a))).set j none) (Aq H' a (.ext (Fp a C)))
def wV {tb:(St->Nat->Hp->Prop)->TS}{body:List Stmt}{y n x:Str}{np hpos px pn pa pos:Pos}{d:Nat}{Dd:Addr}{i j:Nat} (t:DS X.K=true) (hst:X.stack=X.env::X.outer) (hfr:X.env.frame=some X.env.locals) (hN:X.N.Nodup) (hi:X.N[i]?=some x) (hj:X.N[j]?=some n) (hij:i≠j)
  (hx:FG X.env.scope x) (hn:X.env.kindOf n=some .local) (hfn:∀ z,X.fn z=true) (ed:C6 X.K d=some Dd) (hg:Gl X y) (hm:X.mg y=some (.ref Dd)) (hdb:(y == ("__debug__" : Str))=false) (hdn:(n == ("__debug__" : Str))=false) (hcn:(n == ("__classdict__" : Str))=false)
  (hb:∀ pn' xe' W',Ll (AK X.prog X.w X.K) { X with pn:=pn',xe:=xe' } W'->L9 (Au X.prog X.w) X.A X.env xe'->E5 { X with pn:=pn',xe:=xe' } body (tb W')):
  PS X (.Try body [.ExceptHandler (some (.Name y np)) (some n) [.Assign [.Name x px] (.Name n pn) pa] hpos] [] [] pos) (λ D σ H=>tb (WT X.K d i j D σ) D σ H):=by
 intro pins s σ H D I h;refine wpAny_Try_except (DH (hb (X.pn++pins) _ (WT X.K d i j D σ) ?_ PassesOwn.looking [] s σ H D (Inv.into I) h) (λ f s1 hs=>?_) λ e s1 he=>he)
 ·
  intro pins1 σ1 H1 s1 e s' I1 hx';obtain ⟨a,C,c,H',B,a0,rfl,hc,ho,hg',un,hok,ha,hn',fl,i1,i2,hd,hE⟩:=hx';obtain ⟨rfl,hcd,hD⟩:WT X.K d i j D σ σ1 c H':=hE;have I2:L2.Inv X pins σ1 H1 s1:=Inv.outof I.ok I1;have fl':NN B (X.env::X.outer) a (.ref C) a0 s'.heap:=by rw [<- hst];exact fl
  refine wpAny_looks_onW (by rw [I.ok.frames,hst]) hfr fl' λ h4 held4 up4=>?_;refine wpAny_landsW held4 λ h5 fl5 up5=>?_;have up45:=up4.trans up5;obtain ⟨I5,x5⟩:=U3 I2 un hok (by rw [hst];exact fl5) up45 i1 i2 ha hn' hd ho hg';have I5':=Inv.inh (.ref a) I5;refine wpAny_handleBy_cons (codeAny_handlers_test (L3 I5' hg hm ?_ hdb)) (by intro q;cases q);refine yA (OM I5.kIn t hc) (OM I5.kIn t ed) ed x5 ?_;rw [hcd];refine codeAny_handlers_suite_as ?_;refine lands_againW fl5 λ h6 fl6 up6=>?_;obtain ⟨I6,x6⟩:=U3 I2 un hok (by rw [hst];exact fl6) (up45.trans up6) i1 i2 ha hn' hd ho hg';refine Qi (v:=.ref a) I6 hN hj (.inl hn) rfl (λ s7 I7=>?_) (.inl (hfn n));have hjl:j < σ1.length:=by rw [I2.len];exact (ja9.mp hj).1
  have pse:PS (Cx.inh X (.ref a)) (.Assign [.Name x px] (.Name n pn) pa) (D9 (CO j) (FT i)):=So hN hi hx (W2 hj (.inl hn) hdn hcn) rfl (.inl (hfn x));have run:=(SW pse) pins s7 _ _ { nx:=λ σ' H''=>σ'=(σ1.set j (some (.ref a))).set i (some (.ref a))/\H''=Aq H' a (.ext (Fp a C)),rt:=λ _ _=>False } (Inv.inh (.ref a) I7) ⟨.ref a,by rw [Di hjl],rfl,rfl⟩;refine DH run (λ f s8 hs=>?_) λ _ _ z=>z.elim;cases f with
  | next=>
   obtain ⟨σ',H'',I8,rfl,rfl⟩:=hs;refine jN (Inv.outh I.ok I8) hN hj hn λ s9 I9=>?_;exact ⟨_,_,I9,hD a C ha hc⟩
  | brk=>obtain ⟨_,_,_,z⟩:=hs;exact z.elim
  | cont=>obtain ⟨_,_,_,z⟩:=hs;exact z.elim
  | ret u=>obtain ⟨_,_,_,_,_,z⟩:=hs;exact z.elim
 ·cases f with
  | next=>
   obtain ⟨σ',H',I',q⟩:=hs;exact NV ⟨σ',H',Inv.outof I.ok I',q⟩
  | brk=>
   obtain ⟨σ',H',I',q⟩:=hs;exact ⟨σ',H',Inv.outof I.ok I',q⟩
  | cont=>
   obtain ⟨σ',H',I',q⟩:=hs;exact ⟨σ',H',Inv.outof I.ok I',q⟩
  | ret u=>
   obtain ⟨v,σ',H',I',r,q⟩:=hs;exact ⟨v,σ',H',Inv.outof I.ok I',r,q⟩
end
section
variable {is:List Nat}{X:Cx}{M:Fm}{ρ ρ':Ag}{σ σ':St}{H H' H'':Hp}{fps fps' fps'':AX}{vs vs':List Nat}{D:Ends}
def DU (c:Nat):Fs:=λ _=>.exc c
def Wq {c:Nat} (hq:tS M (DU c) D σ H):M.W σ c H:=by
 obtain ⟨ρ,fps,rep,q⟩:=hq;exact q σ H fps KS.refl
def Uh (M:Fm) (D:Ends) (σ:St) (H:Hp) (fps:AX):Rs->Prop
 | .exc c=>∀ H' fps',KD M H fps H' fps'->M.W σ c H'
 | .nx ρ'=>RsOk M D H fps (.nx ρ')
 | .rt x d ρ'=>RsOk M D H fps (.rt x d ρ')
 | _=>False
def tR (M:Fm) (f:Fs):TS:=λ D σ H=>∃ ρ fps,Rep M ρ σ H fps/\Uh M D σ H fps (f ρ)
theorem kQ {f:Fx} (hq:tR M (Bc f) D σ H):Mi (tE M f vs) D σ H:=by
 obtain ⟨ρ,fps,rep,q⟩:=hq;cases ef:f ρ with
 | ok p=>
  refine Xv (M:=M) ⟨ρ,fps,rep,?_⟩;unfold Bc at q ⊢;rw [ef] at q ⊢;exact q
 | no=>
  unfold Bc at q;rw [ef] at q;exact q.elim
 | exc c=>
  unfold Bc at q;rw [ef] at q;refine ⟨ρ,fps,rep,?_⟩;rw [ef];exact q
def gu (ms:List Nat) (ρ:Ag):Bool:=ms.all λ k=>match ρ[k]? with
 | some (some (.non,_))=>true
 | some (some _)=>false
 | _=>true
def DT (d i j:Nat) (ms:List Nat) (b:Fs):Fs:=λ ρ=>match b ρ with
 | .nx ρ'=>.nx ρ'
 | .rt y e ρ'=>.rt y e ρ'
 | .exc c=>if DX c d=true/\i < ρ.length/\gu ms ρ=true then .nx ((ρ.set i (some (.exn c,om))).set j none) else .no
 | _=>.no
def Fm.want (M:Fm) (W':St->Nat->Hp->Prop):Fm:={ M with W:=W' }
def Rep.want {W':St->Nat->Hp->Prop} (r:Rep M ρ σ H fps):Rep (M.want W') ρ σ H fps:=⟨r.own,r.non,r.dj,r.zo,r.fr,r.zd,r.len,r.msf,r.h0,r.iov⟩
def Rep.unwant {W':St->Nat->Hp->Prop} (r:Rep (M.want W') ρ σ H fps):Rep M ρ σ H fps:=⟨r.own,r.non,r.dj,r.zo,r.fr,r.zd,r.len,r.msf,r.h0,r.iov⟩
def Rep.gone {j:Nat} (hal:∀ i,M.al i=[]) (r:Rep M ρ σ H fps) (hio:M.Fre j):Rep M (ρ.set j none) (σ.set j none) H (λ k=>if k=j then [] else fps k):=by
 have sub:∀ k,∀ a∈(if k=j then [] else fps k),a∈fps k:=λ k a h=>by
  by_cases e:k=j
  ·rw [if_pos e] at h;cases h
  ·rw [if_neg e] at h;exact h
 have get:∀ k p,(ρ.set j none)[k]?=some (some p)->k≠j/\ρ[k]?=some (some p):=λ k p e=>by
  by_cases ek:k=j
  ·subst ek;by_cases hl:k < ρ.length
   ·rw [Di hl] at e;cases e
   ·rw [List.set_eq_of_length_le (by omega)] at e;rw [HJ (by omega)] at e;cases e
  ·rw [Cw (Ca ek)] at e;exact ⟨ek,e⟩
 refine ⟨λ k x d e=>?_,λ k h=>?_,λ k l hkl a ha hb=>r.dj k l hkl a (sub k a ha) (sub l a hb),λ k a ha=>r.zo k a (sub k a ha),λ k hk a ha=>r.fr k hk a (sub k a ha),r.zd,by rw [Ei,Ei];exact r.len,λ k x d hk e=>r.msf k x d hk (get k _ e).2,r.h0,?_⟩
 ·obtain ⟨ek,e'⟩:=get k _ e;obtain ⟨v,hv,o⟩:=r.own k x d e';refine ⟨v,by rw [Cw (Ca ek)];exact hv,?_⟩;rw [if_neg ek];refine o.weak λ a h=>?_;rcases h with h | ⟨l,nl,h⟩
  ·exact .inl h
  ·exact .inr ⟨l,nl,sub l a h⟩
 ·by_cases ek:k=j
  ·rw [if_pos ek]
  ·rw [if_neg ek];exact r.non k λ p e=>h p (by rw [Cw (Ca ek)];exact e)
 ·refine ⟨λ v hv=>?_,λ p hp=>?_⟩
  ·have:=r.iov.1 v hv
   have h0:=hio.1 (by rw [hv];simp);rw [Cw h0];exact this
  ·rw [Cw (hio.2 p hp).symm];exact r.iov.2 p hp
theorem zT {d i j:Nat}{ms:List Nat}{b:Fs} (hal:∀ i,M.al i=[]) (hms:∀ i,M.Ms i=ms.contains i) (hmi:M.Ms i=false) (hij:i≠j) (hoi:M.Fre i) (hoj:M.Fre j) (hq:tS M (DT d i j ms b) D σ H):tR (M.want (WT M.K d i j D σ)) b D σ H:=by
 obtain ⟨ρ,fps,rep,q⟩:=hq;refine ⟨ρ,fps,rep.want,?_⟩;unfold DT at q;have ks:∀ {H':Hp}{fps':AX},KS (M.want (WT M.K d i j D σ)) H fps H' fps'->KS M H fps H' fps':=λ k=>⟨k.keep,k.dom,k.sub⟩
 cases eb:b ρ with
 | no=>rw [eb] at q;exact q
 | bk ρ'=>rw [eb] at q;exact q
 | ct ρ'=>rw [eb] at q;exact q
 | nx ρ'=>rw [eb] at q;exact λ σ' H' fps' k r=>q σ' H' fps' (ks k) r.unwant
 | rt x e ρ'=>rw [eb] at q;exact λ v σ' H' fps' fp k r o hf=>q v σ' H' fps' fp (ks k) r.unwant o hf
 | exc c=>
  rw [eb] at q;dsimp only at q;split at q
  ·rename_i hc;intro H' fps' k;refine ⟨rfl,hc.1,λ a C ha hC=>?_⟩;have kk:∀ b o,H b=some o->H' b=some o:=λ b o h=>k.keep b o h λ ⟨l,hl,hb⟩=>by
    have hl:M.Ms l=true:=hl;rw [hms l] at hl;have hm:l∈ms:=by simpa using hl
    have hc3:=ja7.mp hc.2.2 l hm;have e:fps l=[]:=by
     cases el:ρ[l]? with
     | none=>exact rep.non l λ p z=>by rw [el] at z;cases z
     | some q=>
      cases q with
      | none=>exact rep.non l λ p z=>by rw [el] at z;cases z
      | some p=>
       obtain ⟨x,dx⟩:=p;rw [el] at hc3;cases x <;> first | (obtain ⟨v,_,o⟩:=rep.own l _ _ el;rw [Own] at o;exact o.2) | exact nomatch hc3
    rw [e] at hb;cases hb
   have k2:∀ b o,H b=some o->Aq H' a (.ext (Fp a C)) b=some o:=λ b o h=>by
    rw [Bk (JX (kk b o h) ha)];exact kk b o h
   have r2:=(rep.grow k2).bind1 (al:=[]) (i:=i) (y:=.exn c) (v:=.ref a) (by rw [Own];exact ⟨rfl,a,C,rfl,hC,C8⟩) hc.2.1 ⟨hmi,hoi,hal i,λ l m hm=>by rw [hal l] at hm;cases hm⟩;have r3:=r2.gone (j:=j) hal hoj;have es:((σ.set j (some (V.ref a))).set i (some (V.ref a))).set j none=(σ.set i (some (V.ref a))).set j none:=by
    rw [List.set_comm _ _ (Ca hij),YL]
   rw [es];refine q _ _ _ ⟨λ b o h _=>k2 b o h,λ b h=>?_,λ l b hb=>?_⟩ r3
   ·cases e:H b with
    | none=>exact absurd e h
    | some o=>rw [k2 b o e];simp
   ·by_cases e1:l=j
    ·simp only [if_pos e1] at hb;cases hb
    ·simp only [if_neg e1] at hb;by_cases e2:l=i
     ·simp only [if_pos e2] at hb;cases hb
     ·simp only [if_neg e2] at hb;exact .inl ⟨l,hb⟩
  ·exact q.elim
end
section
variable {M:Fm}{ρ ρ':Ag}{σ σ':St}{H H':Hp}{fps fps':AX}{F F':Addr->Prop}{P P':List (Nat×V)}
end
section
variable {X:Cx}{M:Fm}{ρ:Ag}{σ:St}{H:Hp}{fps:AX}
end
section
variable {X:Cx}{W:St->Nat->Hp->Prop}
def JM (a b:Str) (n:Int):Bool:=decide (n.natAbs.log2 < 1920) && decide ((LA++a).length<=1000) && decide ((LA++a++Str.ofString (toString n)).length<=1000) && decide ((LA++a++Str.ofString (toString n)++b).length<=1000)
def kh {a b x:Str}{n:Int}{ja jb:Nat}{p1 p2 p3 pf pos:Pos} (hx:PE X (.Name x pf) (tC (.int n))) (hn:JM a b n=true):PE X (.JoinedStr [.Constant (.str a) ja p1,.FormattedValue (.Name x pf) (-1) none p2,.Constant (.str b) jb p3] pos) (tC (.str (LA++a++Str.ofString (toString n)++b))):=by
 unfold JM at hn;simp only [A9,decide_eq_true_eq] at hn;obtain ⟨⟨⟨h1,h2⟩,h3⟩,h4⟩:=hn;have hz:1000<=Aw:=by decide
 intro pins s σ H Q I h;refine JoinedStr_many (Ra (DH (OW pins s σ H (λ v H'=>v=.str a/\H'=H) I ⟨rfl,rfl⟩) (λ u s1 hu=>?_) λ _ _ y=>y));obtain ⟨v,H1,I1,r1,rfl,rfl⟩:=hu;obtain ⟨tk,rfl⟩:=r1;refine ⟨AW h2 hz,Ra (FormattedValue_plain (DH (hx pins s1 σ H1 (λ v H'=>v=.int n/\H'=H1) I1 ⟨rfl,rfl⟩) (λ u s2 hu=>?_) λ _ _ y=>y))⟩;obtain ⟨v,H2,I2,r2,rfl,rfl⟩:=hu;obtain ⟨tk2,rfl⟩:=r2;refine formatField_int_small h1 ⟨AW h3 hz,Ra (DH (OW pins _ σ H2 (λ v H'=>v=.str b/\H'=H2) (I2.tok _) ⟨rfl,rfl⟩) (λ u s3 hu=>?_) λ _ _ y=>y)⟩;obtain ⟨v,H3,I3,r3,rfl,rfl⟩:=hu;obtain ⟨tk3,rfl⟩:=r3;exact ⟨AW h4 hz,joinParts_nil ⟨.str _,H3,I3.tok _,⟨_,rfl⟩,h⟩ (AW h4 hz)⟩
def yK (hr:Nv X W) (t:DS X.K=true) (hcalm:X.calm=true) {c:Nat}{C:Addr}{x:Str}{ps:List Expr}{pj:Pos}{w:V}{np cpos pos:Pos} (e:C6 X.K c=some C) (hg:Gl X x) (hm:X.mg x=some (.ref C)) (hdb:(x == ("__debug__" : Str))=false) (ha:PE X (.JoinedStr ps pj) (tC w)):
  PS X (.Raise (some (.Call (.Name x np) [.JoinedStr ps pj] [] cpos)) none pos) (λ D σ H=>W σ c H):=by
 intro pins s σ H D I h;obtain ⟨bm,N,nm,q,bs,hdct,sn,sub,ab,col,dd,k0,k1,k2,k3,k5,mN,hC,hN,hni,T,_⟩:=(OM I.ok.mod.kin t e).obj;have he:AH [.JoinedStr ps pj] X.env=(false,eval (.JoinedStr ps pj) X.env)::AH [] X.env:=rfl;have FB:=Vj;refine wpAny_Raise_call_subU (C:=C) (nm:=nm) (q:=q) (N:=N) (bs:=bs) (bm:=bm) (hdct:=hdct) (sn:=sn) (sub:=sub) (ab:=ab) (col:=col) (dd:=dd) (k0:=k0) (k1:=k1) (k2:=k2) (k3:=k3) (k5:=k5)
  FB (show bmV.contains (.type "ValueError")=true by decide +kernel) FB (mN:=mN) (T.hasType FB.hasBase) (I.ok.hd hcalm) rfl hni (L3 I hg hm ⟨rfl,?_⟩ hdb)
 rw [he];refine Ru (DH ((Et ha FL (by rfl)) cpos pins s σ H (λ vs H'=>H'=H/\vs.length=1) I ⟨rfl,rfl⟩) (λ us s2 hu=>?_) λ _ _ y=>y);obtain ⟨vs,H2,I2,rv,eH,hl⟩:=hu;subst eH;refine ⟨rfl,?_,I2.bk _ _ hC,hN.keeps I2.bk,T.keeps I2.bk,λ h' a hx=>hr pins σ H2 s2 c C a h' us I2 e hx h⟩;show us.length<=Aw;rw [<- rv.length,hl];decide
end
section
variable {is:List Nat}{X:Cx}{M:Fm}{ρ ρ':Ag}{σ σ':St}{H H' H'':Hp}{fps fps' fps'':AX}{vs vs':List Nat}{D:Ends}
def J9 (i:Nat) (k:Int) (f:Fx) (vs:List Nat):Fs:=λ ρ=>match f ρ with
 | .ok (y,e,ρ1)=>(match (Bi e vs ρ1)[i]? with
  | some (some (.lst xs,d))=>(match CB xs.length k with
   | some n=>if d≠0 then .nx ((Bi e vs ρ1).set i (some (.lst (xs.set n y),1))) else .no
   | none=>.no)
  | _=>.no)
 | .exc c=>.exc c
 | .no=>.no
theorem vg {f:Fx}{i:Nat}{k:Int} (hal:∀ i,M.al i=[]) (hv:∀ i∈vs,M.Ms i=false) (hm:M.Ms i=false) (hq:tS M (J9 i k f vs) D σ H):D9 (tE M f vs) (HN (CO i) (tC (.int k)) ON) D σ H:=by
 obtain ⟨ρ,fps,rep,q⟩:=hq;refine ⟨ρ,fps,rep,?_⟩;unfold J9 at q;cases ef:f ρ with
 | no=>rw [ef] at q;exact q
 | exc c=>rw [ef] at q;exact λ H' fps' k=>q _ H' fps' k.ks
 | ok p=>
  obtain ⟨y,e,ρ1⟩:=p;rw [ef] at q;intro w H1 fps1 fp k1 g1 rep1 o1 t1;dsimp only at q;split at q
  ·rename_i xs d es;split at q
   ·rename_i n en;split at q
    ·rename_i hd;obtain ⟨fps2,k2,r2,o2,n2,s2,h2⟩:=Rep.behind rep k1 g1 rep1 o1 t1 hal hv;obtain ⟨v',hσ,ol⟩:=r2.own0 hal i _ _ es;obtain ⟨a,ws,fc,rfl,ha,hfp,nac,hol⟩:=ol.list hd;have hai:a∈fps2 i:=by rw [hfp];exact AR
     have hafp:a∉fp:=λ z=>n2 a z (.inr ⟨i,hai⟩);have hst:∃ j,a∈fps j:=⟨i,by have:=s2 i a hai;rw [k1.same i hm] at this;exact this⟩
     refine ⟨_,hσ,a,ws,k,n,rfl,rfl,ha,by rw [hol.length];exact en,?_⟩;refine q σ _ _ (k2.write (i:=i) (f':=[]) (fp:=fp) hst λ b hb=>?_) (r2.rewrite hal es hσ ha hfp (λ z=>nomatch z) (λ b hb=>nomatch hb) (by decide) (λ h=>by rw [hm] at h;cases h) h2 ?_)
     ·rcases jb2.mp hb with z | z
      ·exact .inl (by rw [z];exact hai)
      ·cases z
     ·rw [Kc];have zsub:∀ b,Zf M (λ j=>if j=i then [a] else fps2 j) b->Zf (M.plus fp) fps2 b:=λ b h=>by
       rcases h with z | ⟨j,z⟩
       ·exact .inl (.inl z)
       ·by_cases ej:j=i
        ·simp only [if_pos ej] at z;rw [jb1.mp z];exact .inr ⟨i,hai⟩
        ·simp only [if_neg ej] at z;exact .inr ⟨j,z⟩
      have nf:∀ b∈fc,¬ Zf M (λ j=>if j=i then [a] else fps2 j) b:=λ b hb z=>by
       have hbi:b∈fps2 i:=by rw [hfp];exact AO _ hb
       rcases z with z | ⟨j,z⟩
       ·exact r2.zo i b hbi (.inl z)
       ·by_cases ej:j=i
        ·simp only [if_pos ej] at z;rw [jb1.mp z] at hb;exact nac hb
        ·simp only [if_neg ej] at z;exact r2.dj i j (Ca ej) b hbi z
      have nfp:∀ b∈fp,¬ Zf M (λ j=>if j=i then [a] else fps2 j) b:=λ b hb z=>by
       rcases z with z | ⟨j,z⟩
       ·exact n2 b hb (.inl z)
       ·by_cases ej:j=i
        ·simp only [if_pos ej] at z;rw [jb1.mp z] at hb;exact hafp hb
        ·simp only [if_neg ej] at z;exact n2 b hb (.inr ⟨j,z⟩)
      have za:Zf M (λ j=>if j=i then [a] else fps2 j) a:=.inr ⟨i,by simp⟩;have u1:=(OwnL.freeze (Z':=Zf M (λ j=>if j=i then [a] else fps2 j)) zsub xs _ ws fc nf hol)
      have u2:=(Own.freeze (Z':=Zf M (λ j=>if j=i then [a] else fps2 j)) (λ b h=>by
       rcases h with z | ⟨j,z⟩
       ·exact .inl (.inl z)
       ·by_cases ej:j=i
        ·simp only [if_pos ej] at z;rw [jb1.mp z];exact .inl (.inr ⟨i,hai⟩)
        ·simp only [if_neg ej] at z;exact .inl (.inr ⟨j,z⟩)) y _ w fp nfp o2)
      obtain ⟨f',hs',u3⟩:=(u1.at za ⟨.l ws,ha⟩ (λ z=>nomatch z) λ _ _ n=>n).set (u2.at (o:=.lst (ws.set n w)) za ⟨.l ws,ha⟩ (λ z=>nomatch z) λ _ _ n=>n) n;obtain rfl:f'=[]:=jk3.mpr λ b hb=>nomatch hs' b hb
      exact u3
    ·exact q.elim
   ·exact q.elim
  ·exact q.elim
end
def Sf:Expr->Bool
 | .ListComp _ _ _ _=>true
 | .SetComp _ _ _ _=>true
 | .DictComp _ _ _ _ _=>true
 | _=>false
def qN:Expr->Bool
 | .Tuple _ _ _=>true
 | .List _ _=>true
 | _=>false
def E8 (d:Stmt->Option Fs):List Stmt->Option Fs
 | []=>some Ao
 | [s]=>d s
 | s::r=>match d s,E8 d r with
  | some f,some g=>some (Af f g)
  | _,_=>none
def EW (S:Sx) (x:Str):Bool:=DG S.sc x .local || DG S.sc x .cell
def J8 (S:Sx) (i:Nat):Bool:=(decide (i≠0) || !S.msF 0) && !S.pn.contains i
def V8 (iw:Iw) (asg:PV->Ag->Option Ag) (body:Fs):Fs:=match iw with
 | .rng en fa _=>CW en fa asg body
 | .seq f vs=>D0 f vs asg body
 | .vw v fa vs=>K2 v fa vs asg body
def L8 (S:Sx):List Expr->Option (List Nat)
 | []=>some []
 | .Name x _::r=>match S.slot x,L8 S r with
  | some i,some is=>if EW S x=true/\J8 S i=true/\S.msF i=false then some (i::is) else none
  | _,_=>none
 | _=>none
def RC:Expr->Option Str
 | .Call f es ks _=>(match EE f with
  | some x=>(match es with
   | [e]=>(match e with
    | .Constant k _ _=>(match k with
     | .str _=>(match ks with
      | []=>some x
      | _::_=>none)
     | _=>none)
    | _=>none)
   | _=>none)
  | none=>none)
 | _=>none
def z7 {e:Expr}{x:Str} (h:RC e=some x):∃ np m j p cpos,e=.Call (.Name x np) [.Constant (.str m) j p] [] cpos:=by
 unfold RC at h;split at h
 ·split at h
  ·rename_i hx;obtain ⟨np,rfl⟩:=EK hx;split at h
   ·split at h
    ·split at h
     ·split at h
      ·cases h;exact ⟨_,_,_,_,_,rfl⟩
      ·cases h
     ·cases h
    ·cases h
   ·cases h
  ·cases h
 ·cases h
def Jy:Option Expr->Option Expr->Option Str
 | some e,none=>RC e
 | _,_=>none
def k8 {e c:Option Expr}{x:Str} (h:Jy e c=some x):∃ np m j p cpos,e=some (.Call (.Name x np) [.Constant (.str m) j p] [] cpos)/\c=none:=by
 unfold Jy at h;split at h
 ·obtain ⟨np,m,j,p,cpos,rfl⟩:=z7 h;exact ⟨np,m,j,p,cpos,rfl,rfl⟩
 ·cases h
def Ud:Stmt->Option (Str×Expr)
 | .Assign ts e _=>(match ts with
  | [t]=>(EE t).map λ x=>(x,e)
  | _=>none)
 | _=>none
def xa {st:Stmt}{x:Str}{e:Expr} (h:Ud st=some (x,e)):∃ px pa,st=.Assign [.Name x px] e pa:=by
 unfold Ud at h;split at h
 ·split at h
  ·obtain ⟨y,hy,e2⟩:=jb4.mp h;cases e2;obtain ⟨px,rfl⟩:=EK hy;exact ⟨_,_,rfl⟩
  ·cases h
 ·cases h
def TR:NR->Option (Str×Option Str×Str×Expr)
 | .ExceptHandler ty n body _=>(match ty with
  | some ty=>(match EE ty with
   | some y=>(match body with
    | [st]=>(Ud st).map λ p=>(y,n,p.1,p.2)
    | _=>none)
   | none=>none)
  | none=>none)
def xZ {hh:NR}{y x:Str}{n:Option Str}{e:Expr} (h:TR hh=some (y,n,x,e)):∃ np px pa hpos,hh=.ExceptHandler (some (.Name y np)) n [.Assign [.Name x px] e pa] hpos:=by
 unfold TR at h;split at h;split at h
 ·split at h
  ·rename_i hy;obtain ⟨np,rfl⟩:=EK hy;split at h
   ·obtain ⟨p,hp,e2⟩:=jb4.mp h;cases e2;obtain ⟨px,pa,rfl⟩:=xa hp;exact ⟨_,_,_,_,rfl⟩
   ·cases h
  ·cases h
 ·cases h
def Jt (hs:List NR) (o f:List Stmt):Option (Str×Option Str×Str×Expr):=match hs with
 | [h]=>(match o with
  | []=>(match f with
   | []=>TR h
   | _::_=>none)
  | _::_=>none)
 | _=>none
def vv {hs:List NR}{o f:List Stmt}{y x:Str}{n:Option Str}{e:Expr} (h:Jt hs o f=some (y,n,x,e)):∃ np px pa hpos,hs=[.ExceptHandler (some (.Name y np)) n [.Assign [.Name x px] e pa] hpos]/\o=[]/\f=[]:=by
 unfold Jt at h;split at h
 ·split at h
  ·split at h
   ·obtain ⟨np,px,pa,hpos,rfl⟩:=xZ h;exact ⟨_,_,_,_,rfl,rfl,rfl⟩
   ·cases h
  ·cases h
 ·cases h
def L6 (S:Sx) (x:Str):Option Nat:=match XN.findIdx? (·== x) with
 | some c=>if S.rz=true/\S.xc.contains c=true/\S.glob x=true then some c else none
 | none=>none
def Sx.nr (S:Sx):Sx:={ S with rz:=false }
def RJ (S:Sx):Stmt->Option Fs
 | .Expr e _=>(match e with
  | .Call f es ks p=>(BM 60 S (.Call f es ks p)).map λ d=>Bc d.1
  | _=>none)
 | _=>none
def Vs (_:Nat) (S:Sx):List Stmt->Option Fs
 | []=>none
 | st::r=>if r=[] then RJ S st else none
def Gy (S:Sx):Expr->Option D2
 | .Dict [] [] _=>some (MQ,[])
 | e=>BM 60 S e
def Vt (S:Sx) (x at':Str) (apos:Pos) (e:Expr) (cpos:Pos):Option Fs:=if at' = "append" then (match S.slot x,BM 60 S e with
   | some i,some (f,vs)=>if S.msF i=false/\(apos.endLine == cpos.line)=true then some (BE i f vs) else none
   | _,_=>none) else if at' = "extend" then (match S.slot x,BM 60 S e with
   | some i,some (f,vs)=>if S.msF i=false/\(apos.endLine == cpos.line)=true then some (Ct i f vs) else none
   | _,_=>none) else none
def qG (_:Sx) (_:Expr) (_:Str) (_:Pos) (_:Expr) (_:Pos):Option Fs:=none
def MK (S:Sx):Expr->Option Fs
 | .Call fn es [] p1=>(match fn with
  | .Attribute o at' apos=>(match EE o,es with
   | some x,[e]=>Vt S x at' apos e p1
   | none,[e]=>qG S o at' apos e p1
   | _,_=>none)
  | .Name x p=>(match BM 60 S (.Call (.Name x p) es [] p1) with
   | some (f,_)=>some (Bc f)
   | none=>none)
  | _=>none)
 | _=>none
def Jj:PV->Nat->PV->Nat->Option (PV×Nat)
 | .lst xs,d,.int i,_=>(BB xs i).map λ z=>(z,if d=om then om else dv z)
 | _,_,_,_=>none
theorem OwnL.nthF {K:Frag}{H:Hp}{Z:Addr->Prop}{d:Nat}{x:PV}:∀ {xs:List PV}{ws:List V}{f:List Addr}{j:Nat},OwnL K H Z xs d ws f->xs[j]?=some x->∃ w fx,ws[j]?=some w/\Own K H Z x d w fx/\∀ a∈fx,a∈f
 | [],_,_,_,_,e=>by cases e
 | y::ys,ws,f,j,h,e=>by
  rw [OwnL] at h;obtain ⟨v,s,f1,f2,rfl,rfl,_,h1,h2⟩:=h;cases j with
  | zero=>cases e;exact ⟨v,f1,rfl,h1,λ a ha=>BG _ ha⟩
  | succ j=>
   obtain ⟨w,fx,e1,o,s'⟩:=h2.nthF (j:=j) (by simpa using e);exact ⟨w,fx,by simpa using e1,o,λ a ha=>Bq _ (s' a ha)⟩
def K7:List (PV×Nat)->Bool
 | []=>true
 | p::r=>((p.2 == om) || Fq p.1) && K7 r
def GR (xs:List (PV×Nat)):Option (PV×Nat):=if xs.length<=Aw then some (.lst (xs.map (·.1)),if K7 xs then om else 1) else none
theorem Tmps.allF {K:Frag}{H:Hp}{Z:Addr->Prop}:∀ {xs:List (PV×Nat)}{ws:List V}{fp:List Addr},Tmps K H Z xs ws fp->K7 xs=true->OwnL K H Z (xs.map (·.1)) om ws fp
 | [],_,_,h,_=>by rw [EG,OwnL];exact h
 | (x,d)::xs,ws,fp,h,ha=>by
  obtain ⟨v,s,f1,f2,e1,e2,dj,h1,h2⟩:=h;unfold K7 at ha;rw [A9,FD] at ha;rw [BF,OwnL];rcases ha.1 with e | e
  ·have e:d=om:=eq_of_beq e;subst e;exact ⟨v,s,f1,f2,e1,e2,dj,Own.full x v f1 h1,h2.allF ha.2⟩
  ·obtain ⟨rfl,o⟩:=Own.flatA (Z':=Z) (d':=om) e h1;exact ⟨v,s,[],f2,e1,e2,dj,o,h2.allF ha.2⟩
section
variable {X:Cx}{M:Fm}{a b:Expr}{es:List Expr}{fa:Fa}{f g:Fx}{vs vs':List Nat}{pos:Pos}
def kD (h:PA X es (tL M fa vs)):PE X (.List es pos) (tE M (Ak GR fa) vs):=by
 refine BD (Wl h) λ σ H Q h=>Nd (r:=λ xs H1 Q=>xs.length<=Aw/\∀ p,H1 p=none->Q (.ref p) (Aq H1 p (.lst xs))) (λ xs z c ws H fps fp Q ho tm nz zd lf=>?_) h;unfold GR at ho;split at ho
 ·rename_i hl;refine ⟨by rw [tm.length];exact hl,λ q hq=>?_⟩;cases eo:K7 xs with
  | true=>rw [eo] at ho;cases ho;exact U6 lf (tm.allF eo) hq
  | false=>rw [eo] at ho;cases ho;exact Na lf (tm.cold λ a ha z=>nz a ha z.zf) hq
 ·cases ho
def kA (hv:∀ i∈vs,M.Ms i=false) (hs:Nu b) (ha:PE X a (tE M f vs)) (hb:PE X b (tE M g vs')):PE X (.Subscript a b pos) (tE M (Ab Jj f g) (vs++vs')):=by
 refine BD (RN We ha hb hs) λ σ H Q h=>El hv (λ x d y e z c v w H fps f1 f2 Q ho o1 o2 dj nz zd lf=>?_) h;unfold Jj at ho;split at ho
 ·rename_i xs i;obtain ⟨z',ez,e2⟩:=jb4.mp ho;rw [Own] at o2;by_cases hd:d=om
  ·subst hd;rw [if_pos rfl] at e2;cases e2;obtain ⟨p,ws,fc,rfl,hp,rfl,nac,ol⟩:=o1.list (by decide:om≠0);rw [GQ] at ol;unfold BB at ez;cases ej:CB xs.length i with
   | none=>rw [ej] at ez;cases ez
   | some j=>
    rw [ej] at ez;obtain ⟨w',fz,e1,ow,sb⟩:=ol.nthF ez;refine .inl ⟨p,ws,i,w',rfl,o2.1,.inl (.inl hp),?_,lf w' H fz (λ _ _ h=>h) (Own.full _ _ _ ow) λ a ha=>.inl (BG _ (AO _ (sb a ha)))⟩;unfold BB;rw [ol.length,ej];exact e1
  ·rw [if_neg hd] at e2;cases e2;obtain ⟨p,ws,rfl,hp,ol⟩:=(cold o1 λ a ha=>nz a (BG _ ha)).coldL;obtain ⟨w',e1,ow⟩:=Sy ol ez;exact .inl ⟨p,ws,i,w',rfl,o2.1,.inl (.inl hp),e1,JV lf ow⟩
 ·cases ho
end
def Gx (S:Sx) (e:Expr):Option D2:=match e with
 | .Subscript (.List es _) b _=>(match FQ (BM 60 S) es,BM 60 S b with
  | some (fa,v),some (g,u)=>if Ku b=true then some (Ab Jj (Ak GR fa) g,v++u) else none
  | _,_=>none)
 | e=>BM 60 S e
def VS (S:Sx) (t k e:Expr):Option Fs:=match t with
 | .Name x _=>(match Py k with
  | some k=>(match S.slot x,BM 60 S e with
    | some i,some (f,vs)=>if S.msF i=false then some (J9 i k f vs) else none
    | _,_=>none)
  | none=>(match S.slot x,BM 60 S k,Gx S e with
    | some i,some (fk,_),some (f,_)=>if S.msF i=false/\Ku k=true then some (DQ i fk f) else none
    | _,_,_=>none))
 | .Subscript b i _=>(match EE b with
  | some x=>(match S.slot x,BM 60 S i,BM 60 S k,Gx S e with
    | some s,some (fi,_),some (fj,_),some (f,_)=>if S.msF s=false/\Ku i=true/\Ku k=true then some (Eu s fi fj f) else none
    | _,_,_,_=>none)
  | none=>none)
 | _=>none
def Sa (S:Sx) (t e:Expr):Option Fs:=match t with
 | .Tuple es k p=>(match L8 S es,BM 60 S e with
   | some is,some (f,vs)=>if Sf e=false/\qN e=false then some (Cc (Cf is) f vs) else none
   | _,_=>none)
 | .Name x _=>(match S.slot x,Gy S e with
   | some i,some (f,vs)=>if EW S x=true/\J8 S i=true then some (Ah (S.msF i) i f vs) else none
   | _,_=>none)
 | .Subscript t k _=>VS S t k e
 | _=>none
def SD (d:Stmt->Option Fs) (S:Sx) (body:List Stmt):Option Fs:=E8 d body
def Sb (d:Stmt->Option Fs) (S:Sx) (t it:Expr) (body:List Stmt):Option Fs:=match t with
 | .Name x p=>(match S.slot x,Fd (BM 60 S) S it,SD d S body with
    | some i,some iw,some b=>if EW S x=true/\J8 S i=true/\S.msF i=false/\FZ (.Name x p) iw=true then some (V8 iw (asgN i) b) else none
    | _,_,_=>none)
 | .Tuple es k p=>(match L8 S es,Fd (BM 60 S) S it,SD d S body with
   | some is,some iw,some b=>some (V8 iw (Cf is) b)
   | _,_,_=>none)
 | _=>none
def Sd (S:Sx) (e:Expr):Option Fs:=match EE e with
 | some x=>(match S.slot x with
   | some i=>if S.msF i=true then none else some (Dt i)
   | none=>none)
 | none=>(match BM 60 S e with
   | some (f,vs)=>some (An f)
   | none=>none)
def xn (_:Sx) (_:Expr) (_:Operator) (_:Expr):Option Fs:=none
def Sx.bare (S:Sx):Sx:={ S with ms:=[] }
def JN (S:Sx) (c:Expr):Option D2:=(BM 60 S c).or (BM 60 S.bare c)
def Li (d:Stmt->Option Fs) (S:Sx):Stmt->Option Fs
 | .Raise e c _=>(match Jy e c with
  | some x=>(match L6 S x with
   | some c=>some (DU c)
   | none=>some LW)
  | none=>some LW)
 | .Try body hs o fi _=>(match Jt hs o fi with
  | some (y,some n,x,e)=>(match EE e,S.slot x,S.slot n,XN.findIdx? (·== y),Vs 10 S.nr body with
   | some n',some i,some j,some d,some b=>if n'=n/\i≠j/\EW S x=true/\DG S.sc n .local=true/\J8 S i=true/\J8 S j=true/\S.msF i=false/\S.xc.contains d=true/\S.glob y=true then some (DT d i j S.ms b) else none
   | _,_,_,_,_=>none)
  | _=>none)
 | .Expr v _=>MK S v
 | .Assign ts e _=>(match ts with
  | [t]=>Sa S t e
  | _=>none)
 | .If c a b _=>match JN S c,E8 d a,E8 d b with
  | some (f,_),some s,some t=>some (AV (bT f) s t)
  | _,_,_=>none
 | .For t it body o _=>(match o with
  | []=>Sb d S t it body
  | _=>none)
 | .AugAssign t op e _=>xn S t op e
 | .Return o _=>(match o with
  | some e=>Sd S e
  | none=>none)
 | _=>none
section
variable {X:Cx}{P:AF}{w:AB}{K:Frag}{mg:Str->Option Ae}{base:Heap}{lvl:Nat}{S:Sx}{Wx:St->Nat->Hp->Prop}{M:Fm}{f g:Fx}{vs vs':List Nat}{σ:St}{H:Hp}{Q:VK}
structure SM (X:Cx) (M:Fm) (K:Frag) (S:Sx) (Wx:St->Nat->Hp->Prop):Prop where
 ms:MS M K S Wx
 al:∀ i,M.al i=[]
 io:M.io≠none->S.msF 0=true
 pn:∀ p∈M.pn,p.1∈S.pn
 fn:∀ x,X.fn x=true
 nd:S.N.Nodup
 st:X.stack=X.env::X.outer
 fr:X.env.frame=some X.env.locals
def J5 (P:AF) (w:AB) (K:Frag) (mg:Str->Option Ae) (base:Heap) (lvl:Nat) (S:Sx) (st:Stmt) (f:Fs):Prop:=∀ {Wx} X M,XS X P w K mg base lvl S Wx->SM X M K S Wx->PS X st (tS M f)
theorem Lr {d:Stmt->Option Fs} (hd:∀ st f,d st=some f->J5 P w K mg base lvl S st f):∀ (sts:List Stmt) (f:Fs),E8 d sts=some f->∀ {Wx} X M,XS X P w K mg base lvl S Wx->SM X M K S Wx->E5 X sts (tS M f)
 | [],f,h=>by cases h;exact λ X M xs sm=>Xl kR λ D σ H q=>zQ q
 | [s],f,h=>λ X M xs sm=>SW (hd s f h X M xs sm)
 | s::s'::r,f,h=>by
  unfold E8 at h;split at h
  ·rename_i f1 f2 h1 h2;cases h;exact λ X M xs sm=>Xl (wW (hd s f1 h1 X M xs sm) (Lr hd (s'::r) f2 h2 X M xs sm)) λ D σ H q=>zS q
  ·cases h
def Lj {x:Str}{i:Nat} (h:S.slot x=some i):S.N[i]?=some x:=by
 unfold Sx.slot at h;split at h
 ·exact NK h
 ·cases h
def OU {x:Str} (h:EW S x=true):FG S.sc x:=by
 unfold EW at h;rw [FD] at h;exact h.elim (λ h=>.inl (Hr h)) λ h=>.inr (Hr h)
def Ko {i:Nat} (h:J8 S i=true) (sm:SM X M K S Wx):M.Fre i:=by
 unfold J8 at h;rw [A9,FD] at h;refine ⟨λ hio=>?_,λ p hp e=>?_⟩
 ·rcases h.1 with h | h
  ·simpa using h
  ·rw [sm.io hio] at h;cases h
 ·have z:=sm.pn p hp;rw [e] at z;have h2:=h.2;rw [List.contains_iff_mem.mpr z] at h2;cases h2
theorem kL {e:Expr}{t:Option Expr}{l:Nat}{env:Env} (h:Sf e=false):swapsWith e t l env=pure false:=by
 cases e with
 | ListComp _ _ _ _=>cases h
 | SetComp _ _ _ _=>cases h
 | DictComp _ _ _ _ _=>cases h
 | _=>rfl
theorem wg (GX:GX K mg S.xc) (G:GS P w K mg base lvl S.Γ) (Gm:Ib P w K mg base lvl S.Γm) (hS:∀ i,∀ j∈S.alF i,S.msF j=false) {n:Nat}{elt:Expr}{gs:List Comprehension}{scope:BA}{pos:Pos} (h:BM (n + 1) S (.ListComp elt gs scope pos)=some (f,vs)):
  ∃ tg ys asg it ifs iw t g vE,gs=[⟨tg,it,ifs,0⟩]/\CompParts P w K mg base lvl S scope tg ys asg it elt ifs iw t g vE/\f=Mc iw ys.length asg t g/\vs=iw.vs++vE.filter (λ i=>decide (i < S.N.length)):=by
 have hd:∀ e f vs,BM n S e=some (f,vs)->AU P w K mg base lvl S e f vs:=λ e f vs h=>Kg GX G Gm n S e f vs rfl rfl rfl hS h;replace h:Hw (BM n) S (.ListComp elt gs scope pos)=some (f,vs):=h
 match gs,h with
 | [],h=>simp [Hw,Fc] at h
 | _::_::_,h=>simp [Hw,Fc] at h
 | [⟨tg,it,ifs,a⟩],h=>
  by_cases ha:a=0
  ·subst ha;replace h:(match Ob S.N.length tg,Fd (BM n S) S it with
    | some (xs,asg),some iw=>if N4 S scope xs iw.vs=true/\FZ tg iw=true then (match OZ (BM n (Bm S scope xs iw.vs)) ifs,BM n (Bm S scope xs iw.vs) elt with
     | some t,some (g,vE)=>some (Mc iw xs.length asg t g,iw.vs++vE.filter (λ i=>decide (i < S.N.length)))
     | _,_=>none) else none
    | _,_=>none)=some (f,vs):=h
   split at h
   ·rename_i ys asg iw ht hi;split at h
    ·rename_i hc;split at h
     ·rename_i t g vE h1 h2;cases h;have ck:=VO hc.1;have giw:=N6 hd (N7 n S) G.1 hi;have hS2:∀ i,∀ j∈(Bm S scope ys iw.vs).alF i,(Bm S scope ys iw.vs).msF j=false:=λ i j hj=>by
       rw [Qu] at hj;show S.msF j=false;split at hj
       ·exact hS i j hj
       ·split at hj
        ·exact giw.1 j hj
        ·cases hj
      have hd2:∀ e f vs,BM n (Bm S scope ys iw.vs) e=some (f,vs)->AU P w K mg base lvl (Bm S scope ys iw.vs) e f vs:=λ e f vs h=>Kg GX G Gm n _ e f vs rfl rfl rfl hS2 h;exact ⟨tg,ys,asg,it,ifs,iw,t,g,vE,rfl,⟨ht,hc.2,ck,giw,hd2 _ _ _ h2,UB hd2 h1⟩,rfl,rfl⟩
     ·cases h
    ·cases h
   ·cases h
  ·simp [Hw,Fc,ha] at h
def Ig (xs:XS X P w K mg base lvl S Wx):L9 (Au X.prog X.w) X.A X.env X.xe:=xs.po
theorem Vf {es:List Expr}{is:List Nat} (h:L8 S es=some is) (xs:XS X P w K mg base lvl S Wx) (sm:SM X M K S Wx):KZ X es (Kh is)/\(EC es X.env).length=is.length/\(EC es X.env).findIdx? (·.1)=none/\∀ i∈is,Bd M [] i:=by
 induction es generalizing is with
 | nil=>cases h;exact ⟨Xj,rfl,rfl,λ _ z=>nomatch z⟩
 | cons e es ih=>
  unfold L8 at h;split at h
  ·cases ‹_::_=[]›
  ·rename_i x px r heq;cases heq;split at h
   ·rename_i i js hi hr;split at h
    ·rename_i hc;cases h;obtain ⟨h1,h2,h3,h4⟩:=ih hr;have hN:X.N.Nodup:=by rw [xs.N];exact sm.nd
     have hi':X.N[i]?=some x:=by rw [xs.N];exact Lj hi
     have hx:FG X.env.scope x:=by rw [xs.sc];exact OU hc.1
     refine ⟨Yk (NC hN hi' hx (.inl (sm.fn x))) h1 rfl,by rw [EC,Bl,h2,Bl] <;> (intros;contradiction),?_,λ j hj=>?_⟩
     ·rw [EC,TB,h3] <;> first | rfl | (intros;contradiction)
     ·rcases jb2.mp hj with z | z
      ·rw [z];exact ⟨by rw [sm.ms.ms];exact hc.2.2,Ko hc.2.1 sm,sm.al i,sm.ms.als⟩
      ·exact h4 j z
    ·cases h
   ·cases h
  ·cases h
theorem Qb {x:Str}:∀ {l:List Str}{c:Nat},l.findIdx? (·== x)=some c->l[c]?=some x
 | [],c,h=>by simp at h
 | y::r,c,h=>by
  rw [TB] at h;split at h
  ·rename_i e;cases h;rw [List.getElem?_cons_zero,eq_of_beq e]
  ·cases e:r.findIdx? (·== x) with
   | none=>rw [e] at h;cases h
   | some k=>
    rw [e] at h;cases h;rw [TK];exact Qb e
def Uu {x:Str}{c:Nat} (h:L6 S x=some c):S.rz=true/\c∈S.xc/\S.glob x=true/\XN[c]?=some x:=by
 unfold L6 at h;split at h
 ·rename_i c' e;split at h
  ·rename_i hc;cases h;exact ⟨hc.1,by simpa using hc.2.1,hc.2.2,Qb e⟩
  ·cases h
 ·cases h
def wY {x m:Str}{c:Nat}{np cpos pos p:Pos}{j:Nat}{t:TS} (GX:GX K mg S.xc) (h:L6 S x=some c) (xs:XS X P w K mg base lvl S Wx) (hW:M.W=Wx) (hq:∀ D σ H,t D σ H->M.W σ c H):PS X (.Raise (some (.Call (.Name x np) [.Constant (.str m) j p] [] cpos)) none pos) t:=by
 obtain ⟨h1,h2,h3,h4⟩:=Uu h;obtain ⟨ht,_,hc⟩:=GX (λ z=>by rw [z] at h2;cases h2);have hlt:c < 50:=M0 (ja9.mp h4).1 (by decide);obtain ⟨x',C,e1,e2,e3,e4⟩:=(hc c h2).1 hlt;rw [h4] at e1;cases e1;refine CZ (wc (W:=Wx) (xs.rs h1) (by rw [xs.K];exact ht) xs.calm (by rw [xs.K];exact e2) (xs.gl h3) (by rw [xs.mg];exact e3) e4) λ D σ H q=>?_;rw [<- hW];exact hq D σ H q
def we (GX:GX K mg S.xc) (G:GS P w K mg base lvl S.Γ) (Gm:Ib P w K mg base lvl S.Γm) (hS:∀ i,∀ j∈S.alF i,S.msF j=false):∀ (n:Nat) (sts:List Stmt) (f:Fs),Vs n S sts=some f->∀ {Wx} X M,XS X P w K mg base lvl S Wx->SM X M K S Wx->E5 X sts (tR M f):=by
 have hd:∀ e f vs,BM 60 S e=some (f,vs)->AU P w K mg base lvl S e f vs:=λ e f vs h=>Kg GX G Gm 60 S e f vs rfl rfl rfl hS h;intro n sts f h;rcases sts with _ | ⟨st,r⟩
 ·cases h
 replace h:(if r=[] then RJ S st else none)=some f:=h;split at h
 ·rename_i hr;subst hr;unfold RJ at h;split at h
  ·split at h
   ·obtain ⟨⟨f1,v1⟩,he,rfl⟩:=jb4.mp h;intro Wx X M xs sm;exact SW (CZ (NF ((hd _ _ _ he).2.2 X M xs sm.ms).1 rfl) λ D σ H q=>kQ q)
   ·cases h
  ·cases h
 ·cases h
def Fm.bare (M:Fm):Fm:={ M with Ms:=λ _=>false,H₀:=λ _=>none,io:=none,pn:=[] }
def Rep.bare {ρ:Ag}{fps:AX} (r:Rep M ρ σ H fps):Rep M.bare ρ σ H fps where
 own:=r.own
 non:=r.non
 dj:=r.dj
 zo:=r.zo
 fr:=λ _ _ _ _=>rfl
 zd:=r.zd
 len:=r.len
 msf:=λ _ _ _ h=>nomatch h
 h0:=λ _ h=>absurd rfl h
 iov:=And.intro (λ _ h=>nomatch h) (λ _ h=>nomatch h)
theorem vp {fb:Fb}{Q:Bool->Hp->Prop} (hq:tT M fb σ H Q):tT M.bare fb σ H Q:=by
 obtain ⟨ρ,fps,rep,q⟩:=hq;refine ⟨ρ,fps,rep.bare,?_⟩;have gr:∀ H' fps',KD M.bare H fps H' fps'->∀ a o,H a=some o->H' a=some o:=λ H' fps' k a o h=>k.keep a o h λ ⟨_,z,_⟩=>nomatch z
 cases e:fb ρ with
 | ok p=>
  obtain ⟨b,ρ'⟩:=p;rw [e] at q;intro H' fps' k ag _;have e1:ρ'=ρ:=List.ext_getElem? λ i=>ag.1 i rfl;subst e1;exact q H' fps (KD.grow (gr H' fps' k)) Agr.refl (rep.grow (gr H' fps' k))
 | exc c=>
  rw [e] at q;intro H' fps' k;exact q H' fps (KD.grow (gr H' fps' k))
 | no=>rw [e] at q;exact q
theorem jE (GX:GX K mg S.xc) (G:GS P w K mg base lvl S.Γ) (Gm:Ib P w K mg base lvl S.Γm) (hS:∀ i,∀ j∈S.alF i,S.msF j=false) {c:Expr}{f:Fx}{vs:List Nat} (h:JN S c=some (f,vs)) (xs:XS X P w K mg base lvl S Wx) (m:MS M K S Wx):PT X c (tT M (bT f)):=by
 unfold JN at h;cases e:BM 60 S c with
 | some p=>
  rw [e] at h;cases h;exact ((Kg GX G Gm 60 S c f vs rfl rfl rfl hS e).2.2 X M xs m).2
 | none=>
  rw [e] at h;have h2:BM 60 S.bare c=some (f,vs):=h;have gd:=(Kg (S:=S) GX G Gm 60 S.bare c f vs rfl rfl rfl (λ _ _ _=>rfl) h2).2.2 X M.bare ⟨xs.prog,xs.w,xs.K,xs.mg,xs.base,xs.N,xs.sc,xs.calm,xs.room,xs.po,xs.ps,xs.rs⟩ ⟨m.K,rfl,m.al,λ _ _ _=>rfl,m.W,λ _ h=>nomatch h⟩;exact Ke gd.2 λ σ H Q q=>vp q
def U0 {d:Stmt->Option Fs}{body:List Stmt}{f:Fs} (hd:∀ e f vs,BM 60 S e=some (f,vs)->AU P w K mg base lvl S e f vs) (ih:∀ st f,d st=some f->J5 P w K mg base lvl S st f) (h:SD d S body=some f):∀ {Wx} X M,XS X P w K mg base lvl S Wx->SM X M K S Wx->E5 X body (tS M f):=by
 exact Lr ih _ _ h
def jB {e:Expr}{f:Fx}{vs:List Nat} (hd:∀ e f vs,BM 60 S e=some (f,vs)->AU P w K mg base lvl S e f vs) (h:Gx S e=some (f,vs)):AU P w K mg base lvl S e f vs:=by
 unfold Gx at h;split at h
 ·split at h
  ·rename_i f1 v1 f2 v2 h1 h2;split at h
   ·rename_i hn;cases h;have g1:=Hl hd _ _ _ h1;have g2:=hd _ _ _ h2;exact CK (GG g1.1 g2.1) rfl (λ _ _=>rfl) λ X M xs m=>kA (m.v g1.1) (Nj hn) (kD (g1.2.2 X M xs m)) (g2.2.2 X M xs m).1
   ·cases h
  ·cases h
 ·exact hd _ _ _ h
def uy (GX:GX K mg S.xc) (G:GS P w K mg base lvl S.Γ) (Gm:Ib P w K mg base lvl S.Γm) (hS:∀ i,∀ j∈S.alF i,S.msF j=false) {d:Stmt->Option Fs} (ih:∀ (st:Stmt) (f:Fs),d st=some f->J5 P w K mg base lvl S st f):∀ (st:Stmt) (f:Fs),Li d S st=some f->J5 P w K mg base lvl S st f:=by
 have hd:∀ e f vs,BM 60 S e=some (f,vs)->AU P w K mg base lvl S e f vs:=λ e f vs h=>Kg GX G Gm 60 S e f vs rfl rfl rfl hS h;have hdO:∀ e f vs,Gx S e=some (f,vs)->AU P w K mg base lvl S e f vs:=λ e f vs h=>jB hd h;have hdA:∀ e f vs,Gy S e=some (f,vs)->AU P w K mg base lvl S e f vs:=λ e f vs h=>by
  unfold Gy at h;split at h
  ·cases h;exact CK (λ _ z=>nomatch z) rfl (λ _ _=>rfl) λ X M xs m=>jd
  ·exact hd _ _ _ h
 intro st f h;have core:True->J5 P w K mg base lvl S st f:=λ _=>by
  unfold Li at h;split at h
  ·rename_i e0 c0 pos;split at h
   ·rename_i x hx;obtain ⟨np,m,j,p,cpos,rfl,rfl⟩:=k8 hx;split at h
    ·rename_i c hc;cases h;intro Wx X M xs sm;exact wY GX hc xs sm.ms.W λ D σ H q=>Wq q
    ·cases h;intro Wx X M xs sm pins s σ H D I q;exact (Q7 pins s σ H D I (RU (t:=Pa) q))
   ·cases h;intro Wx X M xs sm pins s σ H D I q;exact (Q7 pins s σ H D I (RU (t:=Pa) q))
  ·rename_i body hs o fi pos;split at h
   ·rename_i y n x e0 htr;obtain ⟨np,px,pa,hpos,rfl,rfl,rfl⟩:=vv htr;split at h
    ·rename_i n' i j d b hnm hi hj hd' hbd;obtain ⟨pn,rfl⟩:=EK hnm;split at h
     ·rename_i hc;obtain ⟨rfl,hij,hlx,hln,hoi,hoj,hms,hxc,hgy⟩:=hc;cases h;intro Wx X M xs sm;have hdm:d∈S.xc:=by simpa using hxc
      obtain ⟨ht,_,hcs⟩:=GX (λ z=>by rw [z] at hdm;cases hdm);obtain ⟨y',C,hx',hC,hmg,hdb⟩:=(hcs d hdm).1 (VZ hd');have ey:y'=y:=by
       have:=Qb hd'
       rw [hx'] at this;exact Option.some.inj this
      subst ey;have nms:∀ i,M.Ms i=S.ms.contains i:=λ i=>by rw [sm.ms.ms];rfl
      have hN:X.N.Nodup:=by rw [xs.N];exact sm.nd
      have slots:∀ {z:Str}{k:Nat},S.slot z=some k->(z == ("__debug__" : Str))=false/\(z == ("__classdict__" : Str))=false:=λ {z k} h=>by
       unfold Sx.slot at h;split at h
       ·rename_i hv;simp only [A9,M9] at hv;exact ⟨hv.1.2,hv.2⟩
       ·cases h
      have base:=wV (X:=X) (tb:=λ W'=>tR (M.want W') b) (body:=body) (y:=y') (n:=n') (x:=x) (np:=np) (hpos:=hpos) (px:=px) (pn:=pn) (pa:=pa) (pos:=pos) (d:=d) (Dd:=C) (i:=i) (j:=j)
       (by rw [xs.K];exact ht) sm.st sm.fr hN (by rw [xs.N];exact Lj hi) (by rw [xs.N];exact Lj hj) hij (by rw [xs.sc];exact OU hlx) (by show X.env.scope.names.lookup n'=_;rw [xs.sc];exact Hr hln) sm.fn (by rw [xs.K];exact hC) (xs.gl hgy) (by rw [xs.mg];exact hmg) hdb (slots hj).1 (slots hj).2 (λ pn' xe' W' hp ho=>?_)
      ·refine CZ base λ D σ H q=>?_;have mk:=sm.ms.k xs;rw [<- mk];exact zT sm.al nms (by rw [sm.ms.ms];exact hms) hij (Ko hoi sm) (Ko hoj sm) q
      ·refine we (S:=S.nr) GX G Gm hS 10 body b hbd _ _ (Wx:=W') ⟨xs.prog,xs.w,xs.K,xs.mg,xs.base,xs.N,xs.sc,xs.calm,xs.room,ho,hp,λ z=>nomatch z⟩ ⟨⟨sm.ms.K,sm.ms.ms,sm.ms.al,sm.ms.als,rfl,sm.ms.pn⟩,sm.al,sm.io,sm.pn,sm.fn,sm.nd,sm.st,sm.fr⟩
     ·cases h
    ·cases h
   ·cases h
  ·rename_i v pos;unfold MK at h;split at h
   ·rename_i fn es cpos;split at h
    ·rename_i o at' apos;split at h
     ·rename_i x e hx;obtain ⟨px,rfl⟩:=EK hx;unfold Vt at h;split at h
      ·rename_i hat;subst hat;split at h
       ·rename_i i f1 v1 hi he;split at h
        ·rename_i hc;cases h;have g:=hd _ _ _ he;intro Wx X M xs sm;have hb:=OJ (X:=X) (cpos:=cpos) NY PySem.F.slot_list_append PySem.F.type_list_append UM (xs.var (pos:=px) hi) (Et (g.2.2 X M xs sm.ms).1 FL (DM (DR g.2.1))) rfl (Qs g.2.1 X.env cpos) hc.2 (DM (DR g.2.1)) rfl;refine CZ (NF hb rfl) λ D σ H q=>?_
         have:=zO (D:=D) sm.al (sm.ms.v g.1) (by rw [sm.ms.ms];exact hc.1) q
         rw [sm.ms.k xs] at this;exact this
        ·cases h
       ·cases h
      ·split at h
       ·rename_i hat;subst hat;split at h
        ·rename_i i f1 v1 hi he;split at h
         ·rename_i hc;cases h;have g:=hd _ _ _ he;intro Wx X M xs sm;have hb:=OJ (X:=X) (cpos:=cpos) NY PySem.F.slot_list_extend PySem.F.type_list_extend yN (xs.var (pos:=px) hi) (Et (g.2.2 X M xs sm.ms).1 FL (DM (DR g.2.1))) rfl (Qs g.2.1 X.env cpos) hc.2 (DM (DR g.2.1)) rfl;refine CZ (NF hb rfl) λ D σ H q=>?_
          have:=zP (D:=D) sm.al (sm.ms.v g.1) (by rw [sm.ms.ms];exact hc.1) q
          rw [sm.ms.k xs] at this;exact this
         ·cases h
        ·cases h
       ·cases h
     ·rename_i e hx;cases h
     ·cases h
    ·rename_i x p;split at h
     ·rename_i f1 v1 he;cases h;intro Wx X M xs sm;exact CZ (NF ((hd _ _ _ he).2.2 X M xs sm.ms).1 rfl) λ D σ H q=>Xv q
     ·cases h
    ·cases h
   ·cases h
  ·rename_i ts e pos;rcases ts with _ | ⟨t,_ | _⟩
   ·cases h
   rotate_left
   ·cases h
   replace h:Sa S t e=some f:=h;unfold Sa at h;split at h
   ·rename_i es k p;split at h
    ·rename_i is f1 v1 hs he;split at h
     ·rename_i hc;cases h;have g:=hd _ _ _ he;intro Wx X M xs sm;obtain ⟨h1,h2,h3,h4⟩:=Vf hs xs sm;have mk:M.K=X.K:=sm.ms.k xs;refine CZ (OX (g.2.2 X M xs sm.ms).1 (Sn xs.calm h1 h2 h3) ?_ ?_ ?_) λ D σ H q=>?_
      ·cases e <;> first | rfl | (cases hc.1)
      ·cases e <;> first | rfl | (cases hc.2)
      ·rfl
      ·have:=zU sm.al (sm.ms.v g.1) (RS h4) q
       rw [mk] at this;exact this
     ·cases h
    ·cases h
   ·rename_i x px;split at h
    ·rename_i i f1 v1 hi he;split at h
     ·rename_i hc;cases h;have g:=hdA _ _ _ he;intro Wx X M xs sm;have hN:X.N.Nodup:=by rw [xs.N];exact sm.nd
      have hi':X.N[i]?=some x:=by rw [xs.N];exact Lj hi
      have hx:FG X.env.scope x:=by rw [xs.sc];exact OU hc.1
      have mi:M.Ms i=S.msF i:=by rw [sm.ms.ms]
      cases hcp:Sf e with
      | false=>exact CZ (So hN hi' hx (g.2.2 X M xs sm.ms).1 (kL hcp) (.inl (sm.fn x))) λ D σ H q=>Wr sm.al (sm.ms.v g.1) mi (Ko hc.2 sm) q
      | true=>
       cases e with
       | ListComp elt gs scope cpos=>
        obtain ⟨tg,ys,asg,it,ifs,iw,t,g2,vE,rfl,cp,rfl,rfl⟩:=wg GX G Gm hS (show BM 60 S _=_ from he);obtain ⟨wi,gg,h1,h2,h3,h4,h5,h6⟩:=Uy (pos:=cpos) cp xs sm.ms;refine zq (ub hN hi' hx (.inl (sm.fn x)) h2 xs.calm h1 h3 h4 h5 (N8 (n:=0) (f:=g2) (vs:=[]) cp.iwo.2.1)) λ D σ H hl q=>?_;exact h6 σ H _ (by rw [hl,xs.N]) (Wr sm.al (sm.ms.v g.1) mi (Ko hc.2 sm) q)
       | SetComp _ _ _ _=>simp [Gy,BM,Hw] at he
       | DictComp _ _ _ _ _=>simp [Gy,BM,Hw] at he
       | _=>cases hcp
     ·cases h
    ·cases h
   ·rename_i t k ps;unfold VS at h;split at h
    ·rename_i x px;split at h
     ·rename_i k hk;obtain ⟨k',pk,rfl⟩:=Wd hk;split at h
      ·rename_i i f1 v1 hi he;split at h
       ·rename_i hms;cases h;have g:=hd _ _ _ he;intro Wx X M xs sm;refine CZ (OX (g.2.2 X M xs sm.ms).1 (Sm (xs.var hi) Sl Q8) ?_ ?_ rfl) λ D σ H q=>vg sm.al (sm.ms.v g.1) (by rw [sm.ms.ms];exact hms) q
        ·cases e <;> rfl
        ·cases e <;> rfl
       ·cases h
      ·cases h
     ·rename_i hk;split at h
      ·rename_i i fk vk f1 v1 hi hk he;split at h
       ·rename_i hc;cases h;have g:=hdO _ _ _ he;intro Wx X M xs sm;refine CZ (OX (g.2.2 X M xs sm.ms).1 (Sm (xs.var hi) ((hd _ _ _ hk).2.2 X M xs sm.ms).1 (PSet.or Q8 (qS (by have:=xs.room.units;omega))) ?_) ?_ ?_ rfl) λ D σ H q=>vh sm.al (by rw [sm.ms.ms];exact hc.1) (sm.ms.v g.1) q
        ·intro v;cases k <;> first | rfl | (cases hc.2)
        ·cases e <;> rfl
        ·cases e <;> rfl
       ·cases h
      ·cases h
    ·rename_i b i pi;split at h
     ·rename_i x hx;obtain ⟨px,rfl⟩:=EK hx;split at h
      ·rename_i s fi vi fj vj f1 v1 hs hi hj he;split at h
       ·rename_i hc;cases h;intro Wx X M xs sm;have mk:M.K=X.K:=sm.ms.k xs;refine CZ (OX ((hdO _ _ _ he).2.2 X M xs sm.ms).1 (Sm (RN qgs (xs.var hs) ((hd _ _ _ hi).2.2 X M xs sm.ms).1 (Nj hc.2.1)) ((hd _ _ _ hj).2.2 X M xs sm.ms).1 Q8 ?_) ?_ ?_ rfl) λ D σ H q=>?_
        ·intro v;cases k <;> first | rfl | (cases hc.2.2)
        ·cases e <;> rfl
        ·cases e <;> rfl
        ·have:=vf (vs:=v1) (vi:=vi) (vj:=vj) sm.al (by rw [sm.ms.ms];exact hc.1) q
         rw [mk] at this;exact this
       ·cases h
      ·cases h
     ·cases h
    ·cases h
   ·cases h
  ·split at h
   ·rename_i f1 v1 s t hc ha hb;cases h;intro Wx X M xs sm;exact CZ (x8 (jE GX G Gm hS hc xs sm.ms) (Lr ih _ _ ha X M xs sm) (Lr ih _ _ hb X M xs sm)) λ D σ H q=>qW q
   ·cases h
  ·rename_i t it body o pos;rcases o with _ | _
   rotate_left
   ·cases h
   replace h:Sb d S t it body=some f:=h;unfold Sb at h;split at h
   ·rename_i x px;split at h
    ·rename_i i iw b hi hw hb;split at h
     ·rename_i hc;cases h;intro Wx X M xs sm;have hN:X.N.Nodup:=by rw [xs.N];exact sm.nd
      have hi':X.N[i]?=some x:=by rw [xs.N];exact Lj hi
      have hx:FG X.env.scope x:=by rw [xs.sc];exact OU hc.1
      have giw:=N6 hd (N7 60 S) G.1 hw;have hbd:=U0 hd ih hb X M xs sm;have hg:DZ M [] [i] (FT i) (asgN i):=VY ⟨by rw [sm.ms.ms];exact hc.2.2.1,Ko hc.2.1 sm,sm.al i,sm.ms.als⟩;have hpg:PG X (.Name x px) (FT i):=NC hN hi' hx (.inl (sm.fn x));have hpi:=giw.2.2 X M xs sm.ms (.Name x px);have hf:=N8 (n:=0) (env:=X.env) (f:=Aa 0) (vs:=[]) giw.2.1;cases iw with
      | rng en fa vs=>
       rcases hpi with ⟨rfl,hpi⟩ | ⟨rfl,hpi⟩
       ·exact CZ (Iq (Ig xs) xs.calm hpi hpg hbd hf) λ D σ H q=>Xw hg q
       ·exact CZ (Iq (Ig xs) xs.calm hpi hpg hbd hf) λ D σ H q=>Xx hg q
      | seq f vs=>exact CZ (Iq (Ig xs) xs.calm hpi hpg hbd hf) λ D σ H q=>Xy sm.al (sm.ms.v giw.1) hg q
      | vw v fa vs=>exact CZ (Iq (Ig xs) xs.calm (hpi hc.2.2.2) hpg hbd hf) λ D σ H q=>Xz sm.al (sm.ms.v giw.1) hg q
     ·cases h
    ·cases h
   ·rename_i es k p;split at h
    ·rename_i is iw b hs hw hb;cases h;intro Wx X M xs sm;have giw:=N6 hd (N7 60 S) G.1 hw;have hbd:=U0 hd ih hb X M xs sm;obtain ⟨h1,h2,h3,h4⟩:=Vf hs xs sm;have mk:M.K=X.K:=sm.ms.k xs;have hg:=RS (M:=M) (al:=[]) h4;have hpg:=Sn (pos:=p) (k:=k) xs.calm h1 h2 h3;rw [<- mk] at hpg;have hpi:=giw.2.2 X M xs sm.ms (.Tuple es k p);have hf:=N8 (n:=0) (env:=X.env) (f:=Aa 0) (vs:=[]) giw.2.1;cases iw with
     | rng en fa vs=>
      rcases hpi with ⟨rfl,hpi⟩ | ⟨rfl,hpi⟩
      ·exact CZ (Iq (Ig xs) xs.calm hpi hpg hbd hf) λ D σ H q=>Xw hg q
      ·exact CZ (Iq (Ig xs) xs.calm hpi hpg hbd hf) λ D σ H q=>Xx hg q
     | seq f vs=>exact CZ (Iq (Ig xs) xs.calm hpi hpg hbd hf) λ D σ H q=>Xy sm.al (sm.ms.v giw.1) hg q
     | vw v fa vs=>exact CZ (Iq (Ig xs) xs.calm (hpi (by cases v <;> rfl)) hpg hbd hf) λ D σ H q=>Xz sm.al (sm.ms.v giw.1) hg q
    ·cases h
   ·cases h
  ·rename_i t op e pos;cases h
  ·rename_i o pos;rcases o with _ | e
   ·cases h
   replace h:Sd S e=some f:=h;unfold Sd at h;split at h
   ·rename_i x hx;obtain ⟨px,rfl⟩:=EK hx;split at h
    ·rename_i i hi;split at h
     ·cases h
     ·rename_i hm;cases h;intro Wx X M xs sm;exact CZ (W3 (xs.var hi)) λ D σ H q=>vm sm.al (by rw [sm.ms.ms];simpa using hm) q
    ·cases h
   ·rename_i hx;split at h
    ·rename_i f1 v1 he;cases h;intro Wx X M xs sm;exact CZ (W3 ((hd _ _ _ he).2.2 X M xs sm.ms).1) λ D σ H q=>zR (sm.ms.v (hd _ _ _ he).1) q
    ·cases h
  ·cases h
 exact λ {Wx}=>core trivial
def HF:Expr->Option Str
 | .Constant k _ _=>(match k with
  | .str s=>some s
  | _=>none)
 | _=>none
def Xq {e:Expr}{s:Str} (h:HF e=some s):∃ j p,e=.Constant (.str s) j p:=by
 unfold HF at h;split at h
 ·split at h
  ·cases h;exact ⟨_,_,rfl⟩
  ·cases h
 ·cases h
def TU:Expr->Option Str
 | .FormattedValue v m sp _=>(match sp with
  | none=>if m=-1 then EE v else none
  | some _=>none)
 | _=>none
def xW {e:Expr}{x:Str} (h:TU e=some x):∃ px p,e=.FormattedValue (.Name x px) (-1) none p:=by
 unfold TU at h;split at h
 ·split at h
  ·split at h
   ·rename_i hm;subst hm;obtain ⟨px,rfl⟩:=EK h;exact ⟨_,_,rfl⟩
   ·cases h
  ·cases h
 ·cases h
def Vp:Expr->Option (Str×Str×Str×Str)
 | .Call f es ks _=>(match ks with
  | []=>(match es with
   | [e]=>(match e with
    | .JoinedStr ps _=>(match ps with
     | [a,b,c]=>(EE f).bind λ x=>(HF a).bind λ p=>(TU b).bind λ y=>(HF c).map λ q=>(x,p,y,q)
     | _=>none)
    | _=>none)
   | _=>none)
  | _=>none)
 | _=>none
def TX (S:Sx) (y:Str):Option Int:=(CN.findIdx? (λ p=>p.1 == y)).bind λ k=>if S.xc.contains (50 + k)=true/\S.glob y=true then (CN[k]?).bind λ p=>(match p.2 with
 | .int n=>some n
 | _=>none) else none
def Gw (S:Sx):Stmt->Option Fs
 | .Raise e c _=>(match e,c with
  | some e,none=>(Vp e).bind λ (x,a,y,b)=>(L6 S x).bind λ c=>(TX S y).bind λ n=>if JM a b n=true then some (DU c) else none
  | _,_=>none)
 | _=>none
def xj (GX:GX K mg S.xc) {y:Str}{n:Int}{X:Cx}{Wx:St->Nat->Hp->Prop}{p:Pos} (xs:XS X P w K mg base lvl S Wx) (h:TX S y=some n):PE X (.Name y p) (tC (.int n)):=by
 unfold TX at h;obtain ⟨k,hk,h4⟩:=jd7.mp h;clear h;split at h4
 ·rename_i hc;obtain ⟨pv,hp,h5⟩:=jd7.mp h4;clear h4;have hm:(50 + k)∈S.xc:=by simpa using hc.1
  obtain ⟨_,_,hcs⟩:=GX λ z=>by rw [z] at hm;cases hm
  obtain ⟨x',v,u,c1,c2,c3,c4⟩:=(hcs (50 + k) hm).2 (T4 _ _);rw [ZA,hp] at c1;cases c1;obtain ⟨hlt,h1,_⟩:=je3.mp hk;rw [BR hlt] at hp;have ex:CN[k]=(x',v):=Option.some.inj hp;rw [ex] at h1;have ex2:x'=y:=eq_of_beq h1;subst ex2;split at h5
  ·rename_i i;cases h5;have i:v=.int n:=i;subst i;cases u with
   | int m tk=>
    have:=eq_of_beq (show (n == m)=true from c2)
    subst this;exact SV (xs.gl hc.2) (by rw [xs.mg];exact c3) (v:=.int n) ⟨_,rfl⟩ c4
   | _=>cases c2
  ·cases h5
 ·cases h4
def jC (GX:GX K mg S.xc) {st:Stmt}{f:Fs} (h:Gw S st=some f):J5 P w K mg base lvl S st f:=by
 unfold Gw at h;split at h
 ·split at h
  ·obtain ⟨⟨x,a,y,b⟩,h1,h⟩:=jd7.mp h;obtain ⟨c,h2,h⟩:=jd7.mp h;obtain ⟨n,h3,h⟩:=jd7.mp h;split at h
   ·rename_i hf;cases h;unfold Vp at h1;split at h1
    ·split at h1
     ·split at h1
      ·split at h1
       ·split at h1
        ·obtain ⟨x',e1,h1⟩:=jd7.mp h1;obtain ⟨p,e2,h1⟩:=jd7.mp h1;obtain ⟨y',e3,h1⟩:=jd7.mp h1;obtain ⟨q,e4,h1⟩:=jb4.mp h1;cases h1;obtain ⟨_,rfl⟩:=EK e1;obtain ⟨_,_,rfl⟩:=Xq e2;obtain ⟨_,_,rfl⟩:=xW e3;obtain ⟨_,_,rfl⟩:=Xq e4;obtain ⟨r1,r2,r3,r4⟩:=Uu h2;obtain ⟨ht,_,hcs⟩:=GX (λ z=>by rw [z] at r2;cases r2);have hlt:c < 50:=M0 (ja9.mp r4).1 (by decide);obtain ⟨x',C,c1,c2,c3,c4⟩:=(hcs c r2).1 hlt;rw [r4] at c1;cases c1;intro Wx X M xs sm;refine CZ (yK (W:=Wx) (xs.rs r1) (by rw [xs.K];exact ht) xs.calm (by rw [xs.K];exact c2) (xs.gl r3) (by rw [xs.mg];exact c3) c4 (kh (xj GX xs h3) hf)) λ D σ H q=>?_
         have:=Wq q
         rw [sm.ms.W] at this;exact this
        ·cases h1
       ·cases h1
      ·cases h1
     ·cases h1
    ·cases h1
   ·cases h
  ·cases h
 ·cases h
def CQ:Nat->Sx->Stmt->Option Fs
 | 0,_,_=>none
 | n + 1,S,st=>some (((Gw S st).or (Li (CQ n S) S st)).getD LW)
theorem jD (GX:GX K mg S.xc) (G:GS P w K mg base lvl S.Γ) (Gm:Ib P w K mg base lvl S.Γm) (hS:∀ i,∀ j∈S.alF i,S.msF j=false):∀ (n:Nat) (st:Stmt) (f:Fs),CQ n S st=some f->J5 P w K mg base lvl S st f:=by
 intro n;induction n with
 | zero=>intro st f h;cases h
 | succ n ih=>
  intro st f h;replace h:some (((Gw S st).or (Li (CQ n S) S st)).getD LW)=some f:=h;cases eR:Gw S st with
  | some f1=>
   rw [eR] at h;cases h;exact λ {Wx}=>jC GX eR
  | none=>
   rw [eR,Option.none_or] at h;cases e0:Li (CQ n S) S st with
   | none=>
    rw [e0] at h;cases h;intro Wx X M xs sm pins s σ H D I q;exact (Q7 pins s σ H D I (RU (t:=Pa) q))
   | some f'=>
    rw [e0] at h;cases h;exact λ {Wx}=>uy GX G Gm hS ih _ _ e0
def Ek:Bool->List PV->Ag
 | true,x::xr=>some (x,om)::xr.map λ x=>some (x,dv x)
 | _,xs=>xs.map λ x=>some (x,dv x)
def HQ (io:Bool) (y:PV) (d:Nat) (ρ:Ag):Rz (PV×Nat×PV):=match io with
 | false=>.ok (y,d,.non)
 | true=>match ρ[0]? with
  | some (some (z,_))=>.ok (y,d,z)
  | _=>.no
def Am (io:Bool) (np k:Nat) (b:Fs):Fn:=λ xs=>if xs.length=np then (match b (Ek io xs++Bo k none) with
 | .rt y d ρ=>HQ io y d ρ
 | .nx ρ=>HQ io .non om ρ
 | .exc c=>.exc c
 | _=>.no) else .no
def Hm {io:Bool}{np k:Nat}{b:Fs}:∀ xs,xs.length≠np->Am io np k b xs=.no:=λ xs h=>by
 unfold Am;rw [if_neg h]
theorem Uv {io:Bool}{xs:List PV}{i:Nat}{x:PV}{d:Nat} (h:(Ek io xs)[i]?=some (some (x,d))):xs[i]?=some x/\(d=dv x\/(io=true/\i=0/\d=om)):=by
 cases io with
 | false=>
  have h':(xs.map λ x=>(some (x,dv x):Slot))[i]?=some (some (x,d)):=h;rw [CV] at h';cases e:xs[i]? with
  | none=>rw [e] at h';cases h'
  | some y=>rw [e] at h';cases h';exact ⟨rfl,.inl rfl⟩
 | true=>
  cases xs with
  | nil=>simp [Ek] at h
  | cons y r=>
   cases i with
   | zero=>
    have h':some (some (y,om):Slot)=some (some (x,d)):=h;cases h';exact ⟨rfl,.inr ⟨rfl,rfl,rfl⟩⟩
   | succ i=>
    have h':(r.map λ x=>(some (x,dv x):Slot))[i]?=some (some (x,d)):=h;rw [CV] at h';cases e:r[i]? with
    | none=>rw [e] at h';cases h'
    | some y'=>rw [e] at h';cases h';exact ⟨by simpa using e,.inl rfl⟩
def ud (io:Bool) (xs:List PV):(Ek io xs).length=xs.length:=by
 cases io <;> cases xs <;> simp [Ek]
def kq {x qual:Str}{st:Stmt}{f:Addr}{fd:Dv}{N ps:List Str}{k:Nat}{sp:Sp} (F:Fun K x qual st f fd) (S:FnScope N ps (AY st)) (len:∀ vs H Q E,sp vs H Q E->vs.length=ps.length)
  (hbody:∀ (cdv:Ae) (A:AZ) (outer:List Env) (s:Aj) (H:Hp) (vs:List V) (Q:VK) (E:XK),Room k (A.deeper (HC qual (AY st) s.heap.objs.size f cdv))->sp vs H Q E ->
   ∃ t,E5 (Ce (AK P w K) P w K mg base N qual (AY st) f cdv A outer s H E) (EA st) t/\t { nx:=λ _ H'=>Q .non H',rt:=Q } (L2.start N vs) H):FnOk P w K mg base (AK P w K) (k + 1) f fd ps sp:=by
 obtain ⟨oc,od,kV,doc,pm,an,cdv,ct,osl,rfl,lk,hcd⟩:=F.ex;exact qK lk hcd S len λ A outer s H vs Q E hr hsp=>hbody cdv A outer s H vs Q E hr hsp
def qJ {x qual:Str}{st:Stmt}{fa:Addr}{fd:Dv}{ps:List Str}{np k:Nat}{io:Bool}{b:Fs} (Fu:Fun K x qual st fa fd) (FS:FnScope S.N ps (AY st)) (hsc:S.sc=AY st) (hal:S.al=[]) (hnp:ps.length=np) (hk:S.N.length=np + k)
  (hms:∀ i∈S.ms,i < np->i=0/\io=true) (hio:io=true->S.msF 0=true/\0 < np) (GX:GX K mg S.xc) (G:GS P w K mg base lvl S.Γ) (Gm:Ib P w K mg base lvl S.Γm) (hb:E8 (CQ 60 S) (EA st)=some b):
  FnOk P w K mg base (AK P w K) (lvl + 1) fa fd ps (Bh K io np (Am io np k b)):=by
 have hS:∀ i,∀ j∈S.alF i,S.msF j=false:=λ i j hj=>by
  unfold Sx.alF at hj;rw [hal] at hj;simp at hj
 refine kq Fu FS (λ vs H Q E h=>h.1.trans hnp.symm) λ cdv A outer s H vs Q E hr h=>?_;obtain ⟨hl,xs,Zo,x0,v0,fp0,hZ,hz0,h1,h2,q⟩:=h;let M:Fm:={ K:=K,Ms:=S.msF,Zo:=Zo,H₀:=H,W:=WE E H,io:=if io=true then some v0 else none,al:=λ _=>[] }
 have hxs:XS (Ce (AK P w K) P w K mg base S.N qual (AY st) fa cdv A outer s H E) P w K mg base lvl S (WE E H):=⟨rfl,rfl,rfl,rfl,rfl,rfl,hsc.symm,rfl,hr,kd,vV,λ _=>yM⟩
 have hsm:SM (Ce (AK P w K) P w K mg base S.N qual (AY st) fa cdv A outer s H E) M K S (WE E H):=by
  refine ⟨⟨rfl,rfl,λ i _=>?_,(λ i j hj=>nomatch hj),rfl,λ _ h=>nomatch h⟩,λ _=>rfl,λ h=>?_,(λ _ h=>nomatch h),λ _=>rfl,FS.nd,rfl,rfl⟩
  ·show []=S.al.getD i [];rw [hal];rfl
  ·have h':(if io=true then some v0 else none)≠none:=h;cases io with
   | true=>exact (hio rfl).1
   | false=>exact absurd rfl h'
 refine ⟨tS M b,Lr (jD GX G Gm hS 60) _ _ hb _ M hxs hsm,Ek io xs++Bo k none,λ i=>if i=0 then fp0 else [],?_,?_⟩
 ·have hlen:xs.length=vs.length:=by
   cases io with
   | false=>exact (h1 rfl).2.length.symm
   | true=>obtain ⟨xr,wr,rfl,rfl,_,o⟩:=h2 rfl;rw [Bl,Bl,o.length]
  have each:∀ i y d,(Ek io xs)[i]?=some (some (y,d))->∃ v,vs[i]?=some v/\Own K H (λ a=>Zo a\/a∈fp0) y d v (if i=0 then fp0 else []):=λ i y d e=>by
   obtain ⟨e1,e2⟩:=Uv e;cases io with
   | false=>
    obtain ⟨rfl,o⟩:=h1 rfl;obtain ⟨v,ev,ov⟩:=o.nth e1;rcases e2 with rfl | ⟨z,_⟩
    ·refine ⟨v,ev,?_⟩;rw [ite_self];exact ov.dv.weak λ a h=>h.elim id λ z=>nomatch z
    ·cases z
   | true=>
    obtain ⟨xr,wr,rfl,rfl,o0,o⟩:=h2 rfl;cases i with
    | zero=>
     simp [Ek] at e;obtain ⟨rfl,rfl⟩:=e;exact ⟨v0,rfl,Own.full _ _ _ o0⟩
    | succ i=>
     obtain ⟨v,ev,ov⟩:=o.nth (j:=i) (by simpa using e1);rcases e2 with rfl | ⟨_,z,_⟩
     ·refine ⟨v,by simpa using ev,?_⟩;rw [if_neg (Po i)];exact ov.dv
     ·cases z
  have inl:∀ i p,(Ek io xs++Bo k none)[i]?=some (some p)->(Ek io xs)[i]?=some (some p):=λ i p e=>by
   by_cases hi:i < (Ek io xs).length
   ·rw [DJ hi] at e;exact e
   ·rw [HL (by omega),IM] at e;split at e <;> cases e
  have domF:∀ a∈fp0,H a≠none:=λ a ha=>by
   cases io with
   | false=>rw [(h1 rfl).1] at ha;cases ha
   | true=>
    obtain ⟨xr,wr,rfl,rfl,o0,o⟩:=h2 rfl;obtain ⟨ys,e⟩:=Own.lsts _ _ _ _ o0 a ha;rw [e];simp
  refine ⟨λ i y d e=>?_,λ i h=>?_,λ i j hij a ha hb'=>?_,λ i a ha=>?_,λ i hi a ha=>?_,hZ,?_,λ i y d hi e=>?_,λ a h=>h,⟨λ v hv=>?_,λ _ h=>(nomatch h)⟩⟩
  ·obtain ⟨v,ev,ov⟩:=each i y d (inl i _ e);refine ⟨v,?_,ov.weak λ a h=>?_⟩
   ·unfold L2.start;rw [DJ (by rw [AD];exact (ja9.mp ev).1),CV,ev];rfl
   ·rcases h with h | ⟨j,_,h⟩
    ·exact .inl h
    ·by_cases ej:j=0
     ·simp only [if_pos ej] at h;exact .inr h
     ·simp only [if_neg ej] at h;cases h
  ·by_cases hi:i=0
   ·subst hi;rw [if_pos rfl];cases io with
    | false=>exact (h1 rfl).1
    | true=>
     obtain ⟨xr,wr,rfl,rfl,_,_⟩:=h2 rfl;exact absurd rfl (h (x0,om))
   ·rw [if_neg hi]
  ·by_cases e1:i=0
   ·by_cases e2:j=0
    ·exact hij (e1.trans e2.symm)
    ·rw [if_neg e2] at hb';cases hb'
   ·simp only [if_neg e1] at ha;cases ha
  ·by_cases e1:i=0
   ·simp only [if_pos e1] at ha;exact hz0 a ha
   ·simp only [if_neg e1] at ha;cases ha
  ·by_cases e1:i=0
   ·simp only [if_pos e1] at ha;cases io with
    | false=>rw [(h1 rfl).1] at ha;cases ha
    | true=>
     have:=(hio rfl).1
     have hi':S.msF i=false:=hi;rw [e1,this] at hi';cases hi'
   ·simp only [if_neg e1] at ha;cases ha
  ·unfold L2.start;rw [BQ,ud,JI,BQ,AD,JI,hlen,hl,hk];omega
  ·have hm:i∈S.ms:=by
    have hi':S.msF i=true:=hi;unfold Sx.msF at hi';simpa using hi'
   obtain ⟨e1,e2⟩:=Uv (inl i _ e);have hlt:i < np:=by
    have:=(ja9.mp e1).1
    rw [hlen,hl] at this;exact this
   obtain ⟨rfl,rfl⟩:=hms i hm hlt;obtain ⟨xr,wr,rfl,rfl,_,_⟩:=h2 rfl;have e':=inl 0 _ e;simp [Ek] at e';exact e'.2.symm
  ·have hv':(if io=true then some v0 else none)=some v:=hv;cases io with
   | false=>cases hv'
   | true=>
    cases hv';obtain ⟨xr,wr,rfl,rfl,_,_⟩:=h2 rfl;exact ⟨rfl,(hio rfl).1⟩
 ·unfold Am at q;have hlen:xs.length=np:=by
   by_cases e:xs.length=np
   ·exact e
   ·rw [if_neg e] at q;exact q.elim
  rw [if_pos hlen] at q;have fin:∀ {y:PV}{d:Nat}{ρ':Ag}{v:V}{σ':St}{H':Hp}{fps':AX}{fp:List Addr},(match HQ io y d ρ' with
    | .ok (y,d,z0)=>∀ v H' fp fp0',Dh (λ a=>a∈fp0) H H'->(∀ a,H a≠none->H' a≠none)->(∀ a∈fp0',a∈fp0\/H a=none)->(∀ a∈fp0',¬ Zo a)->(io=false->fp0'=[])->(io=true->Own K H' (λ _=>True) z0 om v0 fp0') ->
      Own K H' (λ a=>(Zo a\/a∈fp0')\/a∈fp) y d v fp->(∀ a∈fp,H a=none/\¬ (Zo a\/a∈fp0'))->Q v H'
    | .exc c=>∀ H',Dh (λ a=>a∈fp0) H H'->(∀ a,H a≠none->H' a≠none)->E (.int (c:Int) 0) none H'
    | .no=>False)->KS M H (λ i=>if i=0 then fp0 else []) H' fps'->Rep M ρ' σ' H' fps'->Own M.K H' (λ a=>Zr M fps' a\/a∈fp) y d v fp->(∀ a∈fp,M.H₀ a=none/\¬ Zr M fps' a)->Q v H':=λ {y d ρ' v σ' H' fps' fp} q ks rp oy hf=>by
   have kp:Dh (λ a=>a∈fp0) H H':=λ a o h n=>ks.keep a o h λ ⟨i,hi⟩=>by
    by_cases e:i=0
    ·simp only [if_pos e] at hi;exact n hi
    ·simp only [if_neg e] at hi;cases hi
   cases io with
   | false=>
    refine q v H' fp [] kp ks.dom (λ _ z=>(nomatch z)) (λ _ z=>(nomatch z)) (λ _=>rfl) (λ h=>(nomatch h)) (oy.weak λ a h=>?_) λ a ha=>⟨(hf a ha).1,λ z=>(hf a ha).2 ?_⟩
    ·rcases h with (h | h) | h
     ·exact .inl (.inl h)
     ·cases h
     ·exact .inr h
    ·rcases z with z | z
     ·exact .inl z
     ·cases z
   | true=>
    unfold HQ at q;cases e0:ρ'[0]? with
    | none=>dsimp only at q;rw [e0] at q;exact q.elim
    | some s0=>
     dsimp only at q;rw [e0] at q;cases s0 with
     | none=>exact q.elim
     | some p0=>
      obtain ⟨z,dz⟩:=p0;have hdz:=rp.msf 0 z dz (hio rfl).1 e0;subst hdz;obtain ⟨u,hu,ou⟩:=rp.own 0 z om e0;have hu0:=(rp.iov.1 v0 rfl).1;rw [hu] at hu0;cases hu0;refine q v H' fp (fps' 0) kp ks.dom (λ a ha=>?_) (λ a ha=>rp.zo 0 a ha) (λ h=>(nomatch h)) (λ _=>Own.full _ _ _ ou) (oy.weak λ a h=>?_) λ a ha=>⟨(hf a ha).1,λ z=>(hf a ha).2 ?_⟩
      ·rcases ks.sub 0 a ha with ⟨j,hj⟩ | z
       ·by_cases e:j=0
        ·simp only [if_pos e] at hj;exact .inl hj
        ·simp only [if_neg e] at hj;cases hj
       ·exact .inr z
      ·rcases h with (h | h) | h
       ·exact .inl (.inl h)
       ·exact .inl (.inr ⟨(λ z=>nomatch z),h⟩)
       ·exact .inr h
      ·rcases z with z | z
       ·exact .inl z
       ·exact .inr ⟨(λ z=>nomatch z),z⟩
  cases eb:b (Ek io xs++Bo k none) with
  | no=>rw [eb] at q;exact q
  | exc c=>
   rw [eb] at q;refine λ σ' H' fps' ks=>⟨q H' (λ a o h n=>ks.keep a o h λ ⟨i,hi⟩=>?_) ks.dom,ks.dom⟩
   by_cases e:i=0
   ·simp only [if_pos e] at hi;exact n hi
   ·simp only [if_neg e] at hi;cases hi
  | bk ρ=>rw [eb] at q;exact q.elim
  | ct ρ=>rw [eb] at q;exact q.elim
  | rt y d ρ'=>
   rw [eb] at q;exact λ v σ' H' fps' fp ks rp oy hf=>fin q ks rp oy hf
  | nx ρ'=>
   rw [eb] at q;exact λ σ' H' fps' ks rp=>fin (fp:=[]) q ks rp (by rw [Own];exact ⟨rfl,rfl⟩) λ _ z=>nomatch z
end
open PySem PySem.Spec PySem.W PySem.Calls PyProof.Rows L2
theorem UX {tb:String->Option vf9}{p:AF}{w:AB}{n₀:Nat}{ann:Option Ae}:∀ {n:Nat}{s r:SharedT}{t:Thread},Ka tb p w n₀ ann n s t=some r->topRun tb p w n₀ ann n s.abs t=some r.abs
 | 0,_,_,_,h=>by cases h
 | n + 1,s,r,t,h=>by
  unfold Ka at h;unfold topRun;cases e1:through t with
  | true=>rw [e1] at h;cases h;rfl
  | false=>
   rw [e1] at h;cases e2:stepOk n₀ ann t with
   | false=>rw [e2] at h;cases h
   | true=>
    rw [e2] at h;cases e3:stepT (denote tb) p w s t with
    | none=>rw [e3] at h;cases h
    | some z=>obtain ⟨s₂,t₂⟩:=z;rw [e3] at h;rw [stepT_spec e3];exact UX h
def v9 (P:Params) (os:OsState):(bootS P os).abs=⟨Ex P,#[],boot_drawn,boot_toks,os⟩:=by kernel_rfl
def jw (P:Params):(Ex P).isNs Eh=true:=by kernel_rfl
def jT {p q:AF}{loose:List Str}{Xt:Aj->Bool}{α:Type}{Yf:Aj->α}{Ya:AB->α}{N:Nat} (e:opening p=plainProg p.main.scope.names) (hN:Nat.ble 600 N=true) (f:∀ s,fenceModules? p s=some s)
  (run:∀ (w:AB) (os:OsState),(Ka treeTable p w (Ex w.params).objs.size ((Ex w.params).nsMap Eh "__annotations__") N (bootS w.params os) (topStub p)).map (λ s=>SE p q loose Xt Yf (Ex w.params) s.abs)=some (true,openGood q loose,Ya w)):
  LeftO p q loose Xt Yf Ya N:=λ w=>by
 obtain ⟨⟨h,gs,d,k,os⟩,e1,e2⟩:=jb4.mp (boot_open e hN f w);obtain ⟨rfl,rfl,rfl,rfl⟩:h=Ex w.params/\gs=#[]/\d=boot_drawn/\k=boot_toks:=by simpa using e2
 obtain ⟨s,r1,r2⟩:=jb4.mp (run w os);have r:=UX r1;rw [v9] at r;have r3:(_=_)/\(_ ,_)=(_,_):=Prod.mk.inj r2;obtain ⟨l1,l23⟩:=r3;obtain ⟨l2,l3⟩:=Prod.mk.inj l23;have t:topFrom treeTable p w N ⟨Ex w.params,#[],boot_drawn,boot_toks,os⟩=some s.abs:=by
  unfold topFrom;dsimp only;rw [jw,r];show (match staticsOk (Ri p.main.body) (Ex w.params) s.abs.heap && namesBound p s.abs.heap && gensDone s.abs && laidKept (Ex w.params) s.abs.heap with | true=>_ | false=>_)=_;rw [l1]
 unfold openEnds;rw [e1];show (topFrom treeTable p w N _).map _=_;rw [t];exact congrArg some (Prod.ext l2 l3)
theorem xJ (h:Heap):(My h).In h:=by
 intro a o;unfold My;generalize AI h.objs.size=l;induction l with
 | nil=>intro e;cases e
 | cons b l ih=>
  intro e;rw [Pu] at e;cases g:h.get? b with
  | none=>rw [g] at e;exact ih e
  | some z=>
   rw [g] at e;dsimp only [M7] at e;rw [EX] at e;split at e
   ·rename_i q;cases e;rw [beq_iff_eq.mp q];exact g
   ·exact ih e
def xl {K:Frag}{x:Str}{st:Stmt} (e:SA K x=some (RZ x st)):∃ (g:Addr) (fd:Dv),nsIn K Eh x=some (some (.ref g))/\Fun K x x st g fd:=by
 unfold SA at e;split at e
 ·rename_i g hg;split at e
  ·rename_i oc od fd sl hl;cases fd;unfold RZ at e;simp only [Option.some.injEq,DefSeen.mk.injEq] at e;obtain ⟨rfl,rfl,rfl,rfl,rfl,rfl,rfl,rfl,rfl,hc⟩:=e;refine ⟨g,_,hg,xY hl hc ?_⟩;unfold keepIn;dsimp only;rw [hl]
  ·cases e
 ·cases e
structure Given (ds:List (Str×Stmt)) (xc:List Nat) (K:Frag) (mg:Str->Option Ae):Prop where
 df:∀ (i:Nat) (x:Str) (st:Stmt),ds[i]?=some (x,st)->∃ (g:Addr) (fd:Dv),mg x=some (.ref g)/\Fun K x x st g fd
 bn:∀ x∈zkd,mg x=none
 gx:GX K mg xc
theorem Sh {α β:Type}{f g:α->β}:∀ {l:List α},l.map f=l.map g->∀ {i:Nat}{a:α},l[i]?=some a->f a=g a
 | [],_,_,_,h=>by cases h
 | b::l,e,0,a,h=>by
  cases h;exact (List.cons.inj e).1
 | b::l,e,i + 1,a,h=>Sh (List.cons.inj e).2 h
def wt {ds:List (Str×Stmt)}{xc:List Nat}{K:Frag}{mg:Str->Option Ae}{h:Heap} (X:K.In h) (G:h.Ns Eh mg) (e:L0 ds xc K=Ls ds):Given ds xc K mg:=by
 obtain ⟨e1,e2⟩:=Prod.mk.inj e;obtain ⟨e2,e3⟩:=Prod.mk.inj e2;refine ⟨λ i x st hi=>?_,λ x hx=>?_,λ hne=>?_⟩
 ·obtain ⟨g,fd,a,b⟩:=xl (Sh e1 hi);exact ⟨g,fd,mg_of X G a,b⟩
 ·obtain ⟨i,hi⟩:=List.getElem?_of_mem hx;exact mg_none_of X G (Sh e2 hi)
 ·have hm:xc.isEmpty=false:=by
   cases xc with
   | nil=>exact absurd rfl hne
   | cons _ _=>rfl
  rw [hm,KC,A9,A9] at e3;refine ⟨e3.1.1,e3.1.2,λ c hc=>?_⟩;have h0:=ja7.mp e3.2 c hc;refine ⟨λ hlt=>?_,λ hge=>?_⟩
  rotate_left
  ·rw [if_neg (Nat.not_lt.mpr hge)] at h0;split at h0
   ·rename_i x v hx;rw [A9] at h0;have h2:=h0.2;split at h2
    ·rename_i u hu;exact ⟨x,v,u,hx,h2,mg_of X G hu,by simpa using h0.1⟩
    ·cases h2
   ·cases h0
  rw [if_pos hlt] at h0;have h1:=h0;rw [A9] at h1;obtain ⟨C,hC⟩:=jm4.mp h1.1;have hC':=hC;unfold C6 at hC';cases hx:XN[c]? with
  | none=>rw [hx] at hC';cases hC'
  | some x=>
   rw [hx] at hC';dsimp only at hC';have h2:=h1.2;rw [hx] at h2;dsimp only at h2;refine ⟨x,C,rfl,hC,?_,by simpa using h2⟩;split at hC'
   ·rename_i D hD;cases hC';exact mg_of X G hD
   ·cases hC'
def j7 {P:AF}{w:AB}{K:Frag}{outer:List Env}{H:Hp}{s:Aj}{e:Ae}{s2:Aj} (z:AK P w K outer H s (λ _ _ _=>False) e s2):False:=by
 obtain ⟨_,_,_,_,_,_,_,_,_,_,_,_,_,_,_,_,_,_,z⟩:=z;exact z
def holds_by {l:OpenLaw}{q:AF}{loose:List Str}{d:DefRec}{N k n:Nat}{ds:List (Str×Stmt)}{xc:List Nat}{F:Fn}{x:Str} (said:l.wellSaid=true)
  (e:opening l.prog=plainProg l.prog.main.scope.names) (hN:Nat.ble 600 N=true) (f:∀ s,fenceModules? l.prog s=some s)
  (run:∀ (w:AB) (os:OsState),(Ka treeTable l.prog w (Ex w.params).objs.size ((Ex w.params).nsMap Eh "__annotations__") N (bootS w.params os) (topStub l.prog)).map
   (λ s=>SE l.prog q loose (λ s=>xlAt q [] s && recOk (RowW.records l.row.toRowW) s) (λ s=>L0 ds xc (My s.heap)) (Ex w.params) s.abs)=some (true,openGood q loose,Ls ds))
  (hdef:defOf q l.row.name=some (d,[])) (hp:l.row.prog.theDef l.row.name=some (d.params,d.body,d.scope)) (hk:kwWritten? d.params.kwonlyargs d.params.kw_defaults=some []) (hwr:(!l.row.writes || l.row.records.isEmpty)=true)
  (ok:(chainsOk q && opensWell l.row.prog && (frees l.row.toRowW && l.row.within.isEmpty))=true) (hb:l.row.prog.bare) (hw:l.row.toRowW.promised)
  (hn:l.most=some n) (hn2:n<=Aw) (hdf:d.params.defaults=[]) (hr:Room k Jl)
  (law:∀ (K:Frag) (w:AB) (mg:Str->Option Ae) (fa:Addr),Given ds xc K mg->mg d.name=some (.ref fa)->∃ fd:Dv,(∀ (s:Aj) (u:Ae),BindsTo s fd ⟨[u],[]⟩ [(x,u)]) /\
   ∀ base:Heap,FnOk l.prog w K mg base (AK l.prog w K) k fa fd [x] (Bh K false 1 F))
  (yes:∀ (K:Frag) (H:Hp) (a:Addr) (ns:List Int),ns.length<=n->HY H->Co K H a (ns.map V.int)->Bh K false 1 F [.ref a] H (λ v _=>v=.bl true) λ _ _ _=>False):l.Holds:=by
 refine holds_law said λ ws=>?_;refine holds_open (q:=q) (loose:=loose) (Xt:=λ s=>xlAt q [] s && recOk (RowW.records l.row.toRowW) s) (XP:=XL q []) (Yf:=λ s=>L0 ds xc (My s.heap)) (Ya:=λ _=>Ls ds) (YP:=λ _ h=>∃ K:Frag,K.In h/\L0 ds xc K=Ls ds) (N:=N)
  (jT e hN f run) (λ _ s z=>⟨_,xJ _,z⟩) (λ _ _ _ ⟨K,a,b⟩ kp=>⟨K,a.keeps kp,b⟩) (λ s e=>xl_of s (jo7.mp e).1) XL.keeps hdef hp hk (λ s e=>recFacts_of (jo7.mp e).2) hwr ws ok hb hw ?_
 refine Att.attach_call hn hdf λ w s₀ s₁ mg mb fa o pm cd doc a vs ns G Y ho hd hcd hmg hobj hints hlen hg=>?_;obtain ⟨K,KX,hf⟩:=Y;obtain ⟨fd,hbd,hF⟩:=law K w mg fa (wt KX G.T.g hf) hmg;exact vO KX G.T.g G.T.b G.T.builtins G.T.nolimit hg hobj hints (AW hlen hn2) hr (λ base _ _=>hF base) hbd (λ H hO hS=>yes K H a ns hlen hO hS) λ H e s'=>j7
section
variable {P:AF}{w:AB}{K:Frag}{mg:Str->Option Ae}{base:Heap}
def BY {us:List Ae} (h:us.length=1):∃ a,us=[a]:=List.length_eq_one_iff.mp h
theorem Cd {us:List Ae} (h:us.length=2):∃ a b,us=[a,b]:=by
 cases us with
 | nil=>cases h
 | cons a r=>obtain ⟨b,rfl⟩:=BY (Nat.succ.inj h);exact ⟨a,b,rfl⟩
theorem Gj {us:List Ae} (h:us.length=3):∃ a b c,us=[a,b,c]:=by
 cases us with
 | nil=>cases h
 | cons a r=>obtain ⟨b,c,rfl⟩:=Cd (Nat.succ.inj h);exact ⟨a,b,c,rfl⟩
theorem Mx {us:List Ae} (h:us.length=4):∃ a b c d,us=[a,b,c,d]:=by
 cases us with
 | nil=>cases h
 | cons a r=>obtain ⟨b,c,d,rfl⟩:=Gj (Nat.succ.inj h);exact ⟨a,b,c,d,rfl⟩
theorem Mw {us:List Ae} (h:us.length=5):∃ a b c d e,us=[a,b,c,d,e]:=by
 cases us with
 | nil=>cases h
 | cons a r=>obtain ⟨b,c,d,e,rfl⟩:=Mx (Nat.succ.inj h);exact ⟨a,b,c,d,e,rfl⟩
def BC {lvl:Nat} (hb:∀ x∈zkd,mg x=none):GS P w K mg base lvl []:=⟨hb,λ x io n F h=>by cases h⟩
def Hx {lvl:Nat}{x qual:Str}{st:Stmt}{fa:Addr}{fd:Dv}{ps:List Str}{io:Bool}{n:Nat}{F:Fn}{Γ:List (Str×(Bool×Nat×Fn))} (g:GS P w K mg base lvl Γ) (hx:(x == ("__debug__" : Str))=false) (hF:∀ xs,xs.length≠n->F xs=.no)
  (hm:mg x=some (.ref fa)) (Fu:Fun K x qual st fa fd) (hbd:qap K fd ps []) (hn:ps.length=n) (ok:FnOk P w K mg base (AK P w K) lvl fa fd ps (Bh K io n F)):GS P w K mg base lvl ((x,(io,n,F))::Γ):=by
 refine ⟨g.1,λ y io' n' F' h=>?_⟩;rw [EX] at h;split at h
 ·rename_i e;cases h
  have:y=x:=eq_of_beq e
  subst this;exact ⟨hx,hF,fa,fd,ps,hm,Fu.kp,hbd,hn,ok⟩
 ·exact g.2 y io' n' F' h
def jO {lvl:Nat}:Ib P w K mg base lvl []:=λ x F h=>by cases h
def Bb {lvl j:Nat}{x qual:Str}{st:Stmt}{fa:Addr}{fd:Dv}{ps:List Str}{io:Bool}{n:Nat}{F:Fn}{Γ:List (Str×(Bool×Nat×Fn))} (g:GS P w K mg base lvl Γ) (hm:mg x=some (.ref fa)) (Fu:Fun K x qual st fa fd) (hbd:qap K fd ps []) (ok:FnOk P w K mg base (AK P w K) j fa fd ps (Bh K io n F)) (hl:j<=lvl:=by decide) (hx:(x == ("__debug__" : Str))=false:=by decide +kernel) (hF:∀ xs,xs.length≠n->F xs=.no:=by exact Hm) (hn:ps.length=n:=by rfl):GS P w K mg base lvl ((x,(io,n,F))::Γ):=Hx g hx hF hm Fu hbd hn (ok.mono hl)
def BI (S:Sx) {lvl:Nat}{x qual:Str}{st:Stmt}{fa:Addr}{fd:Dv}{ps:List Str}{np k:Nat}{io:Bool}{b:Fs} (Fu:Fun K x qual st fa fd) (FS:FnScope S.N ps (AY st)) (gX:GX K mg S.xc) (G:GS P w K mg base lvl S.Γ) (hb:E8 (CQ 60 S) (EA st)=some b) (hsc:S.sc=AY st:=by rfl) (hal:S.al=[]:=by rfl) (hnp:ps.length=np:=by rfl) (hk:S.N.length=np + k:=by rfl) (hms:∀ i∈S.ms,i < np->i=0/\io=true:=by decide) (hio:io=true->S.msF 0=true/\0 < np:=by first | exact λ h=>Bool.noConfusion h | exact λ _=>⟨rfl,by decide⟩) (Gm:Ib P w K mg base lvl S.Γm:=by exact jO):FnOk P w K mg base (AK P w K) (lvl + 1) fa fd ps (Bh K io np (Am io np k b)):=qJ (S:=S) Fu FS hsc hal hnp hk hms hio gX G Gm hb
end
def sp_yes {K:Frag}{H:Hp}{a:Addr}{ns:List Int}{F:Fn} (hO:HY H) (hS:Co K H a (ns.map V.int)) (h:∃ d z,F [.scr ns]=.ok (.bl true,d,z)):Bh K false 1 F [.ref a] H (λ v _=>v=.bl true) λ _ _ _=>False:=by
 refine ⟨rfl,[.scr ns],λ _=>False,.non,.non,[],λ _ z=>z.elim,λ _ z=>(nomatch z),λ _=>⟨rfl,?_⟩,(λ h=>nomatch h),?_⟩
 ·rw [OwnL];refine ⟨.ref a,[],[],[],rfl,rfl,λ _ z=>(nomatch z),?_,by rw [OwnL];exact ⟨rfl,rfl⟩⟩;rw [Own];refine ⟨rfl,a,rfl,?_⟩;rcases hS with (h | h) | h
  ·rcases hO a with z | ⟨ob,xs,z⟩
   ·rw [h] at z;cases z
   ·rw [h] at z;cases z
  ·exact .inl h
  ·exact .inr h
 ·obtain ⟨d,z,e⟩:=h;rw [e];intro v H' fp fp0' _ _ _ _ _ _ o _;rw [Own] at o;exact o.1
end QQ
namespace QV
open PySem PySem.Spec PyProof.Rows L2 QQ
def C5 {op:PV->Nat->PV->Nat->Option (PV×Nat)}{f g:Fx}{ρ ρ1 ρ2:Ag}{x y z:PV}{d e c:Nat} (h1:f ρ=.ok (x,d,ρ1)) (h2:g ρ1=.ok (y,e,ρ2)) (h3:op x d y e=some (z,c)):Ab op f g ρ=.ok (z,c,ρ2):=by
 unfold Ab;rw [h1];dsimp only [Rz.bind];rw [h2];dsimp only;rw [h3]
def qY {op:PV->Nat->Option (PV×Nat)}{f:Fx}{ρ ρ1:Ag}{x z:PV}{d c:Nat} (h1:f ρ=.ok (x,d,ρ1)) (h3:op x d=some (z,c)):Ay op f ρ=.ok (z,c,ρ1):=by
 unfold Ay;rw [h1];dsimp only [Rz.bind];rw [h3]
def Bg {f:Fx}{fa:Fa}{ρ ρ1 ρ2:Ag}{x:PV}{d:Nat}{xs:List (PV×Nat)} (h1:f ρ=.ok (x,d,ρ1)) (h2:fa ρ1=.ok (xs,ρ2)):Ad f fa ρ=.ok ((x,d)::xs,ρ2):=by
 unfold Ad;rw [h1];dsimp only [Rz.bind];rw [h2]
def Bf {f:Fx}{ρ ρ1:Ag}{x:PV}{d:Nat} (h1:f ρ=.ok (x,d,ρ1)):Ad f Ac ρ=.ok ([(x,d)],ρ1):=Bg h1 rfl
def BZ {op:List (PV×Nat)->Option (PV×Nat)}{fa:Fa}{ρ ρ1:Ag}{xs:List (PV×Nat)}{z:PV}{c:Nat} (h1:fa ρ=.ok (xs,ρ1)) (h2:op xs=some (z,c)):Ak op fa ρ=.ok (z,c,ρ1):=by
 unfold Ak;rw [h1];dsimp only [Rz.bind];rw [h2]
def AJ {F:Fn}{fa:Fa}{ρ ρ1:Ag}{xs:List (PV×Nat)}{y z:PV}{d:Nat} (h1:fa ρ=.ok (xs,ρ1)) (h2:F (xs.map (·.1))=.ok (y,d,z)):Al F fa ρ=.ok (y,d,ρ1):=by
 unfold Al;rw [h1];dsimp only [Rz.bind];rw [h2]
def Ci {f:Fx}{ρ ρ1:Ag}{x:PV}{d:Nat} (h:f ρ=.ok (x,d,ρ1)):An f ρ=.rt x d ρ1:=by
 unfold An;rw [h]
def CJ {f:Fx}{ρ ρ1:Ag}{x:PV}{d:Nat} (h:f ρ=.ok (x,d,ρ1)):Bc f ρ=.nx ρ1:=by
 unfold Bc;rw [h]
def setF {i:Nat}{f:Fx}{vs:List Nat}{ρ ρ1 ρ2:Ag}{x:PV}{d:Nat} (h:f ρ=.ok (x,d,ρ1)) (hc:i < ρ1.length) (e:(Bi d vs ρ1).set i (some (x,d))=ρ2):Ah false i f vs ρ=.nx ρ2:=by
 unfold Ah;rw [h];dsimp only;rw [if_pos ⟨hc,λ h=>nomatch h⟩,e]
def Pb {asg:PV->Ag->Option Ag}{f:Fx}{vs:List Nat}{ρ ρ1 ρ2:Ag}{x:PV}{d:Nat} (h:f ρ=.ok (x,d,ρ1)) (e:asg x (Bi d vs ρ1)=some ρ2):Cc asg f vs ρ=.nx ρ2:=by
 unfold Cc;rw [h];dsimp only;rw [e]
def Je {i:Nat}{f:Fx}{vs:List Nat}{ρ ρ1 ρ2:Ag}{y:PV}{e:Nat}{xs:List PV}{d0 d:Nat}{xs0:List PV} (h0:ρ[i]?=some (some (.lst xs0,d0 + 1))) (h:f ρ=.ok (y,e,ρ1)) (h1:(Bi e vs ρ1)[i]?=some (some (.lst xs,d))) (hd:d≠0) (hl:xs.length < Aw)
  (e2:(Bi e vs ρ1).set i (some (.lst (xs++[y]),if d=om/\e=om then om else 1))=ρ2):BE i f vs ρ=.nx ρ2:=by
 unfold BE;rw [h0];dsimp only;rw [h];dsimp only;rw [h1];dsimp only;rw [if_pos ⟨hd,hl⟩,e2]
def kW {i:Nat}{fi fj f:Fx}{ρ ρ1 ρ2 ρ3 ρ4:Ag}{y x x':PV}{a b:Int}{d0 d1 d2:Nat} (h:f ρ=.ok (y,d0,ρ1)) (hx:ρ1[i]?=some (some (x,om))) (h1:fi ρ1=.ok (.int a,d1,ρ2)) (h2:fj ρ2=.ok (.int b,d2,ρ3)) (hp:DV x a b y=some x') (hy:Fq y=true) (e:ρ3.set i (some (x',om))=ρ4):Eu i fi fj f ρ=.nx ρ4:=by
 unfold Eu;rw [h];dsimp only;rw [hx];dsimp only;rw [h1];dsimp only;rw [h2];dsimp only;rw [hp];dsimp only;rw [if_pos ⟨rfl,hy⟩,e]
def Ax {f g:Fs}{ρ ρ1:Ag} (h:f ρ=.nx ρ1):Af f g ρ=g ρ1:=by
 unfold Af;rw [h]
def Vu {c:Fb}{f g:Fs}{ρ ρ1:Ag}{b:Bool} (hc:c ρ=.ok (b,ρ1)):AV c f g ρ=if b=true then f ρ1 else g ρ1:=by
 unfold AV;rw [hc]
def AQ {c:Fb}{f g:Fs}{ρ ρ1:Ag} (hc:c ρ=.ok (true,ρ1)):AV c f g ρ=f ρ1:=by rw [Vu hc];rfl
def BH {c:Fb}{f g:Fs}{ρ ρ1:Ag} (hc:c ρ=.ok (false,ρ1)):AV c f g ρ=g ρ1:=by rw [Vu hc];rfl
def D3 {c:Fb}{f g:Fs}{ρ ρ1:Ag} (hc:c ρ=.ok (false,ρ1)):Af (AV c f Ao) g ρ=g ρ1:=Ax (by rw [BH hc];rfl)
def Eg {f g:Fs}{ρ ρ1:Ag}{x:PV}{d:Nat} (h:f ρ=.rt x d ρ1):Af f g ρ=.rt x d ρ1:=by
 unfold Af;rw [h]
def A8 {f:Fx}{ρ ρ1:Ag}{b:Bool}{d:Nat} (h:f ρ=.ok (.bl b,d,ρ1)):bT f ρ=.ok (b,ρ1):=by
 unfold bT;rw [h];rfl
def Ec {f:Fx}{ρ ρ1:Ag}{b:Bool}{d:Nat} (h:f ρ=.ok (.bl b,d,ρ1)):Ay Cq f ρ=.ok (.bl (!b),om,ρ1):=qY h rfl
theorem DF {f g:Fx}{ρ ρ1:Ag}{a b:Bool}{d:Nat} (h:f ρ=.ok (.bl a,d,ρ1)) (h2:a=true->g ρ1=.ok (.bl b,om,ρ1)) (hd:d=om):Cu f g ρ=.ok (.bl (a && b),om,ρ1):=by
 subst hd;unfold Cu;rw [h];cases a with
 | false=>rfl
 | true=>exact h2 rfl
theorem FW {f g:Fx}{ρ ρ1:Ag}{a b:Bool}{d:Nat} (h:f ρ=.ok (.bl a,d,ρ1)) (h2:a=false->g ρ1=.ok (.bl b,om,ρ1)) (hd:d=om):By f g ρ=.ok (.bl (a || b),om,ρ1):=by
 subst hd;unfold By;rw [h];cases a with
 | true=>rfl
 | false=>exact h2 rfl
def Lu {f g:Fx}{ρ ρ1 ρ2:Ag}{i j:Int}{d e:Nat} (h1:f ρ=.ok (.int i,d,ρ1)) (h2:g ρ1=.ok (.int j,e,ρ2)) (h:(-(2 ^ 64) < i/\i < 2 ^ 64)\/(-(2 ^ 64) < j/\j < 2 ^ 64)):Ab Cv f g ρ=.ok (.int (i * j),om,ρ2):=by
 refine C5 h1 h2 ?_;show (if Gd i j=true then _ else _)=_;rw [if_pos];unfold Gd;rcases h with h | h
 ·rw [decide_eq_true h.1,decide_eq_true h.2];rfl
 ·rw [decide_eq_true h.1,decide_eq_true h.2];simp
def CY {f g:Fx}{ρ ρ1 ρ2:Ag}{i j:Int}{d e:Nat} (h1:f ρ=.ok (.int i,d,ρ1)) (h2:g ρ1=.ok (.int j,e,ρ2)) (h:0 < j):Ab A0 f g ρ=.ok (.int (i % j),om,ρ2):=by
 refine C5 h1 h2 ?_;show (if HG i j=true then _ else _)=_;rw [if_pos];exact decide_eq_true h
def Se {f g:Fx}{ρ ρ1 ρ2:Ag}{i j:Int}{d e:Nat} (h1:f ρ=.ok (.int i,d,ρ1)) (h2:g ρ1=.ok (.int j,e,ρ2)) (h:0 < j) (h':j < 2 ^ 128):Ab Fl f g ρ=.ok (.int (i / j),om,ρ2):=by
 refine C5 h1 h2 ?_;show (if Ge i j=true then _ else _)=_;rw [if_pos];have h3:j.natAbs < 2 ^ 128:=by omega
 have h4:j.natAbs≠0:=by omega
 have h5:j.natAbs.log2 < 9000:=by have:=(Nat.log2_lt h4).mpr h3;omega
 unfold Ge;rw [decide_eq_true h,decide_eq_true h5];rfl
def Eb {f g:Fx}{ρ ρ1 ρ2:Ag}{i j:Int}{d e:Nat} (h1:f ρ=.ok (.int i,d,ρ1)) (h2:g ρ1=.ok (.int j,e,ρ2)):Ab Az f g ρ=.ok (.int (i + j),om,ρ2):=C5 h1 h2 rfl
def FO {f g:Fx}{ρ ρ1 ρ2:Ag}{i j:Int}{d e:Nat} (h1:f ρ=.ok (.int i,d,ρ1)) (h2:g ρ1=.ok (.int j,e,ρ2)):Ab Br f g ρ=.ok (.int (i - j),om,ρ2):=C5 h1 h2 rfl
def E7 {p:Int->Int->Bool}{f g:Fx}{ρ ρ1 ρ2:Ag}{i j:Int}{d e:Nat} (h1:f ρ=.ok (.int i,d,ρ1)) (h2:g ρ1=.ok (.int j,e,ρ2)):Ab (AS p) f g ρ=.ok (.bl (p i j),om,ρ2):=C5 h1 h2 rfl
def NG {p q:Int->Int->Bool}{f g h:Fx}{ρ:Ag}{i j k:Int}{d e c:Nat} (h1:f ρ=.ok (.int i,d,ρ)) (h2:g ρ=.ok (.int j,e,ρ)) (h3:h ρ=.ok (.int k,c,ρ)):Fi p q f g h ρ=.ok (.bl (p i j && q j k),om,ρ):=by
 unfold Fi;rw [h1];dsimp only [Rz.bind];rw [h2];dsimp only;by_cases hp:p i j=true
 ·rw [if_pos hp,h3,hp];rfl
 ·rw [if_neg hp]
  have:p i j=false:=by simpa using hp
  rw [this];rfl
def gq {neg:Bool}{i j:Int}{d e:Nat}:Ap neg (.int i) d (.int j) e=some (.bl (neg^^decide (i=j)),om):=by
 show some (PV.bl (neg^^Cz (.int i) (.int j)),om)=_
 have:Cz (.int i) (.int j)=decide (i=j):=by
  show (i == j)=_;rfl
 rw [this]
def GP {neg:Bool}{f g:Fx}{ρ ρ1 ρ2:Ag}{i j:Int}{d e:Nat} (h1:f ρ=.ok (.int i,d,ρ1)) (h2:g ρ1=.ok (.int j,e,ρ2)):Ab (Ap neg) f g ρ=.ok (.bl (neg^^decide (i=j)),om,ρ2):=C5 h1 h2 gq
def il (xs:List Int):PV:=.lst (xs.map .int)
def tb (t:List (List Int)):PV:=.lst (t.map il)
abbrev bx (a b c:Int):PV:=.tup [.int a,.int b,.int c]
def Dy {α:Type}{xs:List α}{k:Int}{x:α} (h0:0<=k) (h:xs[k.toNat]?=some x):BB xs k=some x:=by
 have hl:=(ja9.mp h).1;unfold BB CB;rw [if_pos h0,if_pos (by omega)];exact h
def FV {f g:Fx}{ρ ρ1 ρ2:Ag}{xs:List Int}{k x:Int}{d e:Nat} (h1:f ρ=.ok (il xs,d,ρ1)) (h2:g ρ1=.ok (.int k,e,ρ2)) (h:BB xs k=some x):Ab Ai f g ρ=.ok (.int x,om,ρ2):=by
 refine C5 h1 h2 ?_;show (BB (xs.map PV.int) k).map _=_
 have:BB (xs.map PV.int) k=some (.int x):=by
  unfold BB at h ⊢;rw [AD];cases e:CB xs.length k with
  | none=>rw [e] at h;cases h
  | some j=>
   rw [e] at h;have h':xs[j]?=some x:=h;show (xs.map PV.int)[j]?=_;rw [CV,h'];rfl
 rw [this];rfl
def Ki {f g:Fx}{ρ ρ1 ρ2:Ag}{t:List (List Int)}{k:Int}{r:List Int}{d e:Nat} (h1:f ρ=.ok (tb t,d,ρ1)) (h2:g ρ1=.ok (.int k,e,ρ2)) (h:BB t k=some r):Ab Ai f g ρ=.ok (il r,0,ρ2):=by
 refine C5 h1 h2 ?_;show (BB (t.map il) k).map _=_
 have:BB (t.map il) k=some (il r):=by
  unfold BB at h ⊢;rw [AD];cases e:CB t.length k with
  | none=>rw [e] at h;cases h
  | some j=>
   rw [e] at h;have h':t[j]?=some r:=h;show (t.map il)[j]?=_;rw [CV,h'];rfl
 rw [this];rfl
def Sg {fa:Fa}{ρ ρ1:Ag}{xs:List Int}{d:Nat} (h:fa ρ=.ok ([(il xs,d)],ρ1)):Ak Cm fa ρ=.ok (.int xs.length,om,ρ1):=by
 refine BZ h ?_;show some (PV.int ((xs.map PV.int).length:Nat),om)=_;rw [AD]
def xM {fa:Fa}{ρ ρ1:Ag}{t:List (List Int)}{d:Nat} (h:fa ρ=.ok ([(tb t,d)],ρ1)):Ak Cm fa ρ=.ok (.int t.length,om,ρ1):=by
 refine BZ h ?_;show some (PV.int ((t.map il).length:Nat),om)=_;rw [AD]
theorem GK {α:Type}{n:Nat}{test:Fb}{elt:Fx}{enc q:α->PV}{e:α->Nat}{p:α->Bool}:∀ (xs:List α) (ρ:Ag) (acc:List (PV×Nat)),ρ.length=n->(∀ x∈xs,test (ρ++[some (enc x,dv (enc x))])=.ok (p x,ρ++[some (enc x,dv (enc x))])) ->
  (∀ x∈xs,p x=true->elt (ρ++[some (enc x,dv (enc x))])=.ok (q x,e x,ρ++[some (enc x,dv (enc x))]))->acc.length + xs.length<=Aw->CI 1 (asgN n) test elt (xs.map enc) ρ acc=.ok (acc++(xs.filter p).map (λ x=>(q x,e x)),ρ)
 | [],ρ,acc,_,_,_,_=>by simp [CI]
 | x::xs,ρ,acc,hn,ht,he,hl=>by
  have ea:asgN n (enc x) (ρ++Bo 1 none)=some (ρ++[some (enc x,dv (enc x))]):=by
   unfold asgN;rw [if_pos (by rw [BQ,hn];simp),List.set_append_right _ _ (by omega),hn];simp
  have ih:=λ acc h=>GK xs ρ acc hn (λ y hy=>ht y (AO _ hy)) (λ y hy=>he y (AO _ hy)) h;have tk:(ρ++[some (enc x,dv (enc x))]).take ρ.length=ρ:=by simp
  rw [Bl] at hl;rw [BF];unfold CI;rw [ea];dsimp only;rw [ht x AR];dsimp only [Rz.bindN];cases hp:p x with
  | false=>
   rw [if_neg CF,tk,ih acc (by omega),Z9 (by simp [hp])]
  | true=>
   rw [if_pos rfl,he x AR hp];dsimp only;rw [if_pos (by omega),tk,ih _ (by rw [BQ,IL];omega),Z8 hp];simp
theorem Kb {α:Type} (q:α->PV):∀ xs:List α,Du (xs.map λ x=>(q x,om))=true
 | []=>rfl
 | x::xs=>by rw [BF];unfold Du;rw [Kb q xs];rfl
def Jb {α:Type}{n:Nat}{f elt:Fx}{enc q:α->PV}{ρ ρ1:Ag}{d:Nat} (xs:List α) (hf:f ρ=.ok (.lst (xs.map enc),d,ρ1)) (hn:ρ1.length=n) (he:∀ x∈xs,elt (ρ1++[some (enc x,dv (enc x))])=.ok (q x,om,ρ1++[some (enc x,dv (enc x))])) (hl:xs.length<=Aw):
  BN f 1 (asgN n) Bn elt ρ=.ok (.lst (xs.map q),om,ρ1):=by
 unfold BN;rw [hf];dsimp only;rw [GK xs ρ1 [] hn (λ _ _=>rfl) (λ x hx _=>he x hx) (by simpa using hl),jf4.mpr (λ _ _=>rfl)];show C7 (xs.map λ x=>(q x,om)) ρ1=_;unfold C7;rw [Kb,De];rfl
def XI {α:Type}{n:Nat}{f elt:Fx}{enc q:α->PV}{ρ ρ1:Ag}{d:Nat} (xs:List α) (hf:f ρ=.ok (.tup (xs.map enc),d,ρ1)) (hn:ρ1.length=n) (he:∀ x∈xs,elt (ρ1++[some (enc x,dv (enc x))])=.ok (q x,om,ρ1++[some (enc x,dv (enc x))])) (hl:xs.length<=Aw):
  BN f 1 (asgN n) Bn elt ρ=.ok (.lst (xs.map q),om,ρ1):=by
 unfold BN;rw [hf];dsimp only;rw [GK xs ρ1 [] hn (λ _ _=>rfl) (λ x hx _=>he x hx) (by simpa using hl),jf4.mpr (λ _ _=>rfl)];show C7 (xs.map λ x=>(q x,om)) ρ1=_;unfold C7;rw [Kb,De];rfl
def vH {α:Type}{n:Nat}{f elt:Fx}{test:Fb}{enc q:α->PV}{p:α->Bool}{ρ ρ1:Ag}{d:Nat} (xs:List α) (hf:f ρ=.ok (.lst (xs.map enc),d,ρ1)) (hn:ρ1.length=n) (ht:∀ x∈xs,test (ρ1++[some (enc x,dv (enc x))])=.ok (p x,ρ1++[some (enc x,dv (enc x))])) (he:∀ x∈xs,p x=true->elt (ρ1++[some (enc x,dv (enc x))])=.ok (q x,om,ρ1++[some (enc x,dv (enc x))])) (hl:xs.length<=Aw):
  BN f 1 (asgN n) test elt ρ=.ok (.lst ((xs.filter p).map q),om,ρ1):=by
 unfold BN;rw [hf];dsimp only;rw [GK xs ρ1 [] hn ht he (by simpa using hl)];show C7 ((xs.filter p).map λ x=>(q x,om)) ρ1=_;unfold C7;rw [Kb,De];rfl
def Nb (lo:Int) (n:Nat):FN lo n=(AI n).map λ (k:Nat)=>PV.int (lo + (k:Int)):=rfl
def Ja {n:Nat}{en:List (PV×Nat)->Option (Int×Int)}{fa:Fa}{elt:Fx}{q:Nat->PV}{ρ ρ1:Ag}{as:List (PV×Nat)}{lo hi:Int} (hf:fa ρ=.ok (as,ρ1)) (hen:en as=some (lo,hi)) (hn:ρ1.length=n) (he:∀ k,k < (hi - lo).toNat->elt (ρ1++[some (.int (lo + (k:Int)),om)])=.ok (q k,om,ρ1++[some (.int (lo + (k:Int)),om)])) (hl:(hi - lo).toNat<=Aw):
  C4 en fa 1 (asgN n) Bn elt ρ=.ok (.lst ((AI (hi - lo).toNat).map q),om,ρ1):=by
 unfold C4;rw [hf];dsimp only;rw [hen];dsimp only;rw [Nb,GK (AI (hi - lo).toNat) ρ1 [] hn (λ _ _=>rfl) (λ x hx _=>he x (jc7.mp hx)) (by simpa using hl),jf4.mpr (λ _ _=>rfl)];show C7 ((AI (hi - lo).toNat).map λ x=>(q x,om)) ρ1=_;unfold C7;rw [Kb,De];rfl
theorem v7 {α:Type} (g:α->Bool) (xs:List α):QQ.allB (xs.map λ x=>.bl (g x))=some (xs.map g):=by
 induction xs with
 | nil=>rfl
 | cons x r ih=>rw [BF,BF,QQ.allB,ih];rfl
def all_ok {α:Type}{f:Fx}{ρ ρ1:Ag}{d:Nat}{g:α->Bool}{xs:List α} (h:f ρ=.ok (.lst (xs.map λ x=>.bl (g x)),d,ρ1)):Ak Ep (Ad f Ac) ρ=.ok (.bl (xs.all g),om,ρ1):=by
 refine BZ (Bf h) ?_;show (QQ.allB _).map _=_;rw [v7];simp
theorem Yb {i:Nat}{body:Fs}{lo:Int} (I:Nat->Ag->Prop):∀ (m k:Nat) (ρ:Ag),I k ρ->(∀ j ρ,k<=j->j < k + m->I j ρ->i < ρ.length/\∃ ρ2,body (ρ.set i (some (.int (lo + (j:Int)),om)))=.nx ρ2/\I (j + 1) ρ2) ->
  ∃ ρ',Cg (asgN i) body ((K9 k m).map λ (k:Nat)=>PV.int (lo + (k:Int))) ρ=.nx ρ'/\I (k + m) ρ'
 | 0,k,ρ,hi,_=>⟨ρ,rfl,hi⟩
 | m + 1,k,ρ,hi,hb=>by
  obtain ⟨h1,ρ2,e2,h2⟩:=hb k ρ (Bj _) (by omega) hi;obtain ⟨ρ',e',h'⟩:=Yb I m (k + 1) ρ2 h2 λ j ρ a b=>hb j ρ (by omega) (by omega);refine ⟨ρ',?_,by rw [show k + (m + 1)=k + 1 + m by omega];exact h'⟩;rw [Zg,BF];unfold Cg
  have:asgN i (PV.int (lo + (k:Int))) ρ=some (ρ.set i (some (.int (lo + (k:Int)),om))):=by
   unfold asgN;rw [if_pos h1];rfl
  rw [this];dsimp only;rw [e2];exact e'
def Km {i:Nat}{body:Fs}{en:List (PV×Nat)->Option (Int×Int)}{fa:Fa}{ρ ρ1:Ag}{as:List (PV×Nat)}{lo hi:Int} (I:Nat->Ag->Prop) (hf:fa ρ=.ok (as,ρ1)) (hen:en as=some (lo,hi)) (h0:I 0 ρ1)
  (hb:∀ j ρ,j < (hi - lo).toNat->I j ρ->i < ρ.length/\∃ ρ2,body (ρ.set i (some (.int (lo + (j:Int)),om)))=.nx ρ2/\I (j + 1) ρ2):∃ ρ',CW en fa (asgN i) body ρ=.nx ρ'/\I (hi - lo).toNat ρ':=by
 obtain ⟨ρ',e,h⟩:=Yb I (hi - lo).toNat 0 ρ1 h0 λ j ρ _ h hi=>hb j ρ (by omega) hi;refine ⟨ρ',?_,by rw [JD] at h;exact h⟩;unfold CW;rw [hf];dsimp only;rw [hen];dsimp only;rw [Nb,List.range_eq_range'];exact e
def FI {j:Int}{d:Nat} (h1:-(2 ^ 62)<=j) (h2:j < 2 ^ 62):BU [(.int j,d)]=some (0,j):=by
 show (if -(2 ^ 62)<=j/\j < 2 ^ 62 then some ((0:Int),j) else none)=_;rw [if_pos ⟨h1,h2⟩]
def wk {i j:Int}{d e:Nat} (h1:-(2 ^ 62)<=i) (h2:i < 2 ^ 62) (h3:-(2 ^ 62)<=j) (h4:j < 2 ^ 62):Em [(.int i,d),(.int j,e)]=some (i,j):=by
 show (if -(2 ^ 62)<=i/\i < 2 ^ 62/\-(2 ^ 62)<=j/\j < 2 ^ 62 then some (i,j) else none)=_;rw [if_pos ⟨h1,h2,h3,h4⟩]
def Bw {np k:Nat}{b:Fs}{xs:List PV}{ρ':Ag}{y:PV}{d:Nat} (hl:xs.length=np) (h:b (xs.map (λ x=>some (x,dv x))++Bo k none)=.rt y d ρ'):Am false np k b xs=.ok (y,d,.non):=by
 unfold Am;rw [if_pos hl]
 have:Ek false xs=xs.map λ x=>some (x,dv x):=rfl
 rw [this,h];rfl
def V3 {np k:Nat}{b:Fs}{xs:List PV}{ρ':Ag} (hl:xs.length=np) (h:b (xs.map (λ x=>some (x,dv x))++Bo k none)=.nx ρ'):Am false np k b xs=.ok (.non,om,.non):=by
 unfold Am;rw [if_pos hl]
 have:Ek false xs=xs.map λ x=>some (x,dv x):=rfl
 rw [this,h];rfl
def Xf_is_whole_number:Fs:=(An (Cu (Ay (Ft "int") (Aa 0)) (Ay Cq (Ay (Ft "bool") (Aa 0)))))
def f_is_whole_number:Fn:=Am false 1 0 Xf_is_whole_number
def Xf_is_box:Fs:=(Af (AV (bT (By (Ay Cq (Ay (Ft "tuple") (Aa 0))) (Ab (Ap true) (Ak Cm (Ad (Aa 0) (Ac))) (bC (.int 3))))) (An (bC (.bl false))) Ao)
 (An (Ak Ep (Ad (BN (Aa 0) 1 (asgN 1) Bn (Cu (Al f_is_whole_number (Ad (Aa 1) (Ac))) (Ab (AS λ i j=>decide (j<=i)) (Aa 1) (bC (.int 1))))) (Ac)))))
def f_is_box:Fn:=Am false 1 0 Xf_is_box
def Xf_must_be_box:Fs:=(AV (bT (Ay Cq (Al f_is_box (Ad (Aa 0) (Ac))))) (DU 1) Ao)
def f_must_be_box:Fn:=Am false 1 0 Xf_must_be_box
def Xf_is_row_of_heights:Fs:=(Af (AV (bT (By (Ay Cq (Ay (Ft "list") (Aa 0))) (Ab (Ap true) (Ak Cm (Ad (Aa 0) (Ac))) (Aa 1)))) (An (bC (.bl false))) Ao)
 (An (Ak Ep (Ad (BN (Aa 0) 1 (asgN 3) Bn (Cu (Al f_is_whole_number (Ad (Aa 3) (Ac))) (Fi (λ i j=>decide (i<=j)) (λ i j=>decide (i<=j)) (bC (.int 0)) (Aa 3) (Aa 2)))) (Ac)))))
def f_is_row_of_heights:Fn:=Am false 3 0 Xf_is_row_of_heights
def Xf_never_rises:Fs:=(An (Ak Ep (Ad (C4 Em (Ad (bC (.int 1)) (Ad (Ak Cm (Ad (Aa 0) (Ac))) (Ac))) 1 (asgN 1) Bn (Ab (AS λ i j=>decide (i<=j)) (Ab Ai (Aa 0) (Aa 1)) (Ab Ai (Aa 0) (Ab Br (Aa 1) (bC (.int 1)))))) (Ac))))
def f_never_rises:Fn:=Am false 1 0 Xf_never_rises
def Xf_column_of:Fs:=(An (BN (Aa 0) 1 (asgN 2) Bn (Ab Ai (Aa 2) (Aa 1))))
def f_column_of:Fn:=Am false 2 0 Xf_column_of
def Xf_is_pile:Fs:=(Af (Bc (Al f_must_be_box (Ad (Aa 0) (Ac))))
 (Af (Cc (Cf [2,3,4]) (Aa 0) [0])
 (Af (AV (bT (By (Ay Cq (Ay (Ft "list") (Aa 1))) (Ab (Ap true) (Ak Cm (Ad (Aa 1) (Ac))) (Aa 2)))) (An (bC (.bl false))) Ao)
 (Af (AV (bT (Ay Cq (Ak Ep (Ad (BN (Aa 1) 1 (asgN 5) Bn (Al f_is_row_of_heights (Ad (Aa 5) (Ad (Aa 3) (Ad (Aa 4) (Ac)))))) (Ac))))) (An (bC (.bl false))) Ao)
 (Af (AV (bT (Ay Cq (Ak Ep (Ad (BN (Aa 1) 1 (asgN 5) Bn (Al f_never_rises (Ad (Aa 5) (Ac)))) (Ac))))) (An (bC (.bl false))) Ao)
 (An (Ak Ep (Ad (C4 BU (Ad (Aa 3) (Ac)) 1 (asgN 5) Bn (Al f_never_rises (Ad (Al f_column_of (Ad (Aa 1) (Ad (Aa 5) (Ac)))) (Ac)))) (Ac)))))))))
def f_is_pile:Fn:=Am false 2 3 Xf_is_pile
def Xf_must_be_pile:Fs:=(AV (bT (Ay Cq (Al f_is_pile (Ad (Aa 0) (Ad (Aa 1) (Ac)))))) (DU 2) Ao)
def f_must_be_pile:Fn:=Am false 2 0 Xf_must_be_pile
def Xf_how_many_above:Fs:=(An (Ak Cm (Ad (BN (Aa 0) 1 (asgN 2) (bT (Ab (AS λ i j=>decide (j < i)) (Aa 2) (Aa 1))) (Aa 2)) (Ac))))
def f_how_many_above:Fn:=Am false 2 0 Xf_how_many_above
def Xb_cell_at:Fs:=(Af (AV (bT (Ab (AS λ i j=>decide (i < j)) (Aa 1) (Ak Cm (Ad (Aa 0) (Ac))))) (An (Ab Ai (Aa 0) (Aa 1))) Ao)
 (An (bC (.int 0))))
def b_cell_at:Fn:=Am false 2 0 Xb_cell_at
def Xf_mirrored_pile:Fs:=(Af (Bc (Al f_must_be_pile (Ad (Aa 0) (Ad (Aa 1) (Ac)))))
 (An (C4 BU (Ad (Ab Ai (Aa 0) (bC (.int 1))) (Ac)) 1 (asgN 2) Bn (Al f_column_of (Ad (Aa 1) (Ad (Aa 2) (Ac)))))))
def f_mirrored_pile:Fn:=Am false 2 0 Xf_mirrored_pile
def Xf_rolled_pile:Fs:=(Af (Bc (Al f_must_be_pile (Ad (Aa 0) (Ad (Aa 1) (Ac)))))
 (Af (Ah false 2 (Ak AL (Ac)) [])
 (Af (CW BU (Ad (Ab Ai (Aa 0) (bC (.int 1))) (Ac)) (asgN 3) (Af (Ah false 4 (Al f_column_of (Ad (Aa 1) (Ad (Aa 3) (Ac)))) [1,3])
 (BE 2 (C4 BU (Ad (Ab Ai (Aa 0) (bC (.int 2))) (Ac)) 1 (asgN 5) Bn (Al f_how_many_above (Ad (Aa 4) (Ad (Aa 5) (Ac))))) [4])))
 (Dt 2))))
def f_rolled_pile:Fn:=Am false 2 3 Xf_rolled_pile
def Xf_rest_of:Fs:=(Af (Bc (Al f_must_be_pile (Ad (Aa 0) (Ad (Aa 1) (Ac)))))
 (Af (Ah false 2 (Ak AL (Ac)) [])
 (Af (K2 .rev (Ad (Aa 1) (Ac)) [1] (asgN 3) (BE 2 (Jf .rev (Ad (Aa 3) (Ac)) 1 (asgN 4) Bn (Ab Br (Ab Ai (Aa 0) (bC (.int 2))) (Aa 4))) [3,0,3]))
 (Dt 2))))
def f_rest_of:Fn:=Am false 2 2 Xf_rest_of
def Xf_is_even:Fs:=(Af (Bc (Al f_must_be_pile (Ad (Aa 0) (Ad (Aa 1) (Ac)))))
 (An (Cu (Ab (Ap false) (Ab Ai (Aa 0) (bC (.int 0))) (Ab Ai (Aa 0) (bC (.int 1)))) (Ab (Ap false) (Al f_mirrored_pile (Ad (Aa 0) (Ad (Aa 1) (Ac)))) (Aa 1)))))
def f_is_even:Fn:=Am false 2 0 Xf_is_even
def Xf_is_whole:Fs:=(An (Ab (Ap false) (Al f_rest_of (Ad (Aa 0) (Ad (Aa 1) (Ac)))) (Aa 1)))
def f_is_whole:Fn:=Am false 2 0 Xf_is_whole
def Xf_is_round:Fs:=(Af (Bc (Al f_must_be_pile (Ad (Aa 0) (Ad (Aa 1) (Ac)))))
 (An (Cu (Fi (λ i j=>decide (i=j)) (λ i j=>decide (i=j)) (Ab Ai (Aa 0) (bC (.int 0))) (Ab Ai (Aa 0) (bC (.int 1))) (Ab Ai (Aa 0) (bC (.int 2)))) (Ab (Ap false) (Al f_rolled_pile (Ad (Aa 0) (Ad (Aa 1) (Ac)))) (Aa 1)))))
def f_is_round:Fn:=Am false 2 0 Xf_is_round
def Xc_numbers:Fs:=(Af (Ah false 2 (Ak AL (Ac)) [])
 (Af (Ah false 3 (Aa 0) [0])
 (Af (Ah false 4 (Ab A0 (Aa 0) (bC (.int 2147483647))) [0])
 (Af (CW BU (Ad (Aa 1) (Ac)) (asgN 5) (AV (bT (Cu (Ab (AS λ i j=>decide (j<=i)) (Aa 0) (Ab OI (bC (.int 10)) (bC (.int 18)))) (Ab (AS λ i j=>decide (j < i)) (Aa 3) (bC (.int 0))))) (Af (BE 2 (Ab A0 (Aa 3) (bC (.int 64))) [3])
 (Ah false 3 (Ab Fl (Aa 3) (bC (.int 64))) [3])) (Af (Ah false 4 (Ab A0 (Ab Cv (Ab Az (Ab Az (Aa 4) (Ab Cv (bC (.int 7)) (Aa 5))) (bC (.int 3))) (bC (.int 48271))) (bC (.int 2147483647))) [4,5])
 (Af (Ah false 6 (Ab A0 (Ab Cv (Ab A0 (Ab Cv (Aa 4) (Aa 4)) (bC (.int 2147483629))) (bC (.int 69621))) (bC (.int 2147483587))) [4,4])
 (BE 2 (Ab A0 (Ab Fl (Aa 6) (bC (.int 8))) (bC (.int 720720))) [6])))))
 (Dt 2)))))
def c_numbers:Fn:=Am false 2 5 Xc_numbers
def Xc_box:Fs:=(Af (Ah false 1 (Ak Bx (Ad (Ab Az (bC (.int 1)) (Ab A0 (Ab Ai (Aa 0) (bC (.int 0))) (bC (.int 3)))) (Ad (Ab Az (bC (.int 1)) (Ab A0 (Ab Ai (Aa 0) (bC (.int 1))) (bC (.int 3)))) (Ad (Ab Az (bC (.int 1)) (Ab A0 (Ab Ai (Aa 0) (bC (.int 2))) (bC (.int 3)))) (Ac))))) [0,0,0])
 (Af (AV (bT (Ab (Ap false) (Ab A0 (Ab Ai (Aa 0) (bC (.int 3))) (bC (.int 4))) (bC (.int 1)))) (Ah false 1 (Ak Bx (Ad (Ab Az (bC (.int 1)) (Ab A0 (Ab Ai (Aa 0) (bC (.int 0))) (bC (.int 6)))) (Ad (Ab Az (bC (.int 1)) (Ab A0 (Ab Ai (Aa 0) (bC (.int 1))) (bC (.int 6)))) (Ad (Ab Az (bC (.int 1)) (Ab A0 (Ab Ai (Aa 0) (bC (.int 2))) (bC (.int 6)))) (Ac))))) [0,0,0]) Ao)
 (Af (AV (bT (Ab (Ap false) (Ab A0 (Ab Ai (Aa 0) (bC (.int 3))) (bC (.int 4))) (bC (.int 2)))) (Ah false 1 (Ak Bx (Ad (Ab Ai (Aa 1) (bC (.int 0))) (Ad (Ab Ai (Aa 1) (bC (.int 0))) (Ad (Ab Ai (Aa 1) (bC (.int 0))) (Ac))))) [1,1,1]) Ao)
 (Af (AV (bT (Ab (Ap false) (Ab A0 (Ab Ai (Aa 0) (bC (.int 3))) (bC (.int 8))) (bC (.int 3)))) (Ah false 1 (Ak Bx (Ad (Ab Ai (Aa 1) (bC (.int 0))) (Ad (Ab Ai (Aa 1) (bC (.int 0))) (Ad (Ab Ai (Aa 1) (bC (.int 2))) (Ac))))) [1,1,1]) Ao)
 (Dt 1)))))
def c_box:Fn:=Am false 1 1 Xc_box
def Xc_pile:Fs:=(Af (Ah false 2 (Ak AL (Ac)) [])
 (Af (CW BU (Ad (Ab Ai (Aa 0) (bC (.int 0))) (Ac)) (asgN 3) (Af (Ah false 4 (Ak AL (Ac)) [])
 (Af (CW BU (Ad (Ab Ai (Aa 0) (bC (.int 1))) (Ac)) (asgN 5) (Af (Ah false 6 (Ab Ai (Aa 0) (bC (.int 2))) [0])
 (Af (AV (bT (Ab (AS λ i j=>decide (j < i)) (Aa 3) (bC (.int 0)))) (Ah false 6 (Ab Ai (Ab Ai (Aa 2) (Ab Br (Aa 3) (bC (.int 1)))) (Aa 5)) [2,3,5]) Ao)
 (Af (AV (bT (Ab (AS λ i j=>decide (j < i)) (Aa 5) (bC (.int 0)))) (Ah false 6 (Ak Es (Ad (Aa 6) (Ad (Ab Ai (Aa 4) (Ab Br (Aa 5) (bC (.int 1)))) (Ac)))) [6,4,5]) Ao)
 (Af (Ah false 7 (Ab Ai (Aa 1) (Ab Az (Ab Cv (bC (.int 6)) (Aa 3)) (Aa 5))) [1,3,5])
 (BE 4 (Ab Ai (Ak AL (Ad (Ab A0 (Aa 7) (Ab Az (Aa 6) (bC (.int 1)))) (Ad (Ak Hz (Ad (bC (.int 0)) (Ad (Ab Br (Aa 6) (Ab Fl (Ab A0 (Aa 7) (bC (.int 3))) (bC (.int 2)))) (Ac)))) (Ad (Ab A0 (Aa 7) (Ab Az (Aa 6) (bC (.int 1)))) (Ad (Aa 6) (Ac)))))) (Ab A0 (Ab Ai (Aa 1) (bC (.int 36))) (bC (.int 4)))) [7,6,6,7,7,6,6,1]))))))
 (BE 2 (Aa 4) [4]))))
 (Af (AV (bT (Ab (Ap false) (Ab A0 (Ab Ai (Aa 1) (bC (.int 36))) (bC (.int 4))) (bC (.int 3)))) (Af (DQ 2 (Ay Cp (bC (.int 1))) (BN (Ab Ai (Aa 2) (Ay Cp (bC (.int 1)))) 1 (asgN 8) Bn (Ab Br (Aa 8) (Ab A0 (Ab Ai (Aa 1) (bC (.int 37))) (Ab Az (Aa 8) (bC (.int 1)))))))
 (DQ 2 (Ay Cp (bC (.int 1))) (C4 BU (Ad (Ab Ai (Aa 0) (bC (.int 1))) (Ac)) 1 (asgN 8) Bn (Ak Es (Ad (C3 (Ab Ai (Aa 2) (Ay Cp (bC (.int 1)))) none (some (Ab Az (Aa 8) (bC (.int 1))))) (Ac)))))) Ao)
 (Dt 2))))
def c_pile:Fn:=Am false 2 6 Xc_pile
def sz:(1000000:Nat)<=Aw:=by decide
def wQ (i:Int):f_is_whole_number [.int i]=.ok (.bl true,om,.non):=by kernel_rfl
def Dg (a b c:Int):Bool:=decide (1<=a) && (decide (1<=b) && decide (1<=c))
def yw (a b c:Int):f_is_box [bx a b c]=.ok (.bl (Dg a b c),om,.non):=by
 have e0:∀ x∈[a,b,c],(Cu (Al f_is_whole_number (Ad (Aa 1) (Ac))) (Ab (AS λ i j=>decide (j<=i)) (Aa 1) (bC (.int 1)))) ([some (bx a b c,0)]++[some (.int x,om)])=.ok (.bl (decide (1<=x)),om,[some (bx a b c,0)]++[some (.int x,om)]):=λ x _=>by kernel_rfl
 have e1:=XI (n:=1) (f:=Aa 0) (ρ:=[some (bx a b c,0)]) [a,b,c] rfl rfl e0 (by have:=sz;show 3<=Aw;omega);refine Bw rfl (ρ':=[some (bx a b c,0)]) ?_;show Xf_is_box [some (bx a b c,0)]=_;refine (D3 (ρ1:=[some (bx a b c,0)]) (by kernel_rfl)).trans (Ci ?_);rw [all_ok e1];show Rz.ok (PV.bl (decide (1<=a) && (decide (1<=b) && (decide (1<=c) && true))),om,_)=_;rw [M4];rfl
def Lf {a b c:Int} (h:Dg a b c=true):f_must_be_box [bx a b c]=.ok (.non,om,.non):=by
 refine V3 rfl (ρ':=[some (bx a b c,0)]) ?_;have hb:=yw a b c;rw [h] at hb;exact BH (A8 (Ec (AJ (xs:=[(bx a b c,0)]) rfl hb)))
def Ez (xs:List Int) (c h:Int):Bool:=decide ((xs.length:Int)=c) && xs.all λ x=>decide (0<=x) && decide (x<=h)
def z6 (xs:List Int) (c h:Int) (hl:xs.length<=1000):f_is_row_of_heights [il xs,.int c,.int h]=.ok (.bl (Ez xs c h),om,.non):=by
 have e0:∀ x∈xs,(Cu (Al f_is_whole_number (Ad (Aa 3) (Ac))) (Fi (λ i j=>decide (i<=j)) (λ i j=>decide (i<=j)) (bC (.int 0)) (Aa 3) (Aa 2))) ([some (il xs,0),some (.int c,om),some (.int h,om)]++[some (.int x,om)])=.ok (.bl (decide (0<=x) && decide (x<=h)),om,[some (il xs,0),some (.int c,om),some (.int h,om)]++[some (.int x,om)]):=λ x _=>
  DF (a:=true) (AJ rfl (wQ x)) (λ _=>NG rfl rfl rfl) rfl
 have e1:=Jb (n:=3) (f:=Aa 0) (ρ:=[some (il xs,0),some (.int c,om),some (.int h,om)]) xs rfl rfl e0 (by have:=sz;omega);have t:bT (By (Ay Cq (Ay (Ft "list") (Aa 0))) (Ab (Ap true) (Ak Cm (Ad (Aa 0) (Ac))) (Aa 1))) [some (il xs,0),some (.int c,om),some (.int h,om)]=.ok (!decide ((xs.length:Int)=c),[some (il xs,0),some (.int c,om),some (.int h,om)]):=by
  refine A8 (d:=om) ((FW (a:=false) rfl (λ _=>GP (Sg rfl) rfl) rfl).trans ?_);rw [KC,M5]
 refine Bw rfl (ρ':=[some (il xs,0),some (.int c,om),some (.int h,om)]) ?_;show Xf_is_row_of_heights [some (il xs,0),some (.int c,om),some (.int h,om)]=_;unfold Ez;by_cases hc:(xs.length:Int)=c
 ·rw [decide_eq_true hc] at t ⊢;refine (D3 t).trans (Ci ?_);rw [all_ok e1];rfl
 ·rw [decide_eq_false hc] at t ⊢;exact Eg ((AQ t).trans rfl)
def Hf (xs:List Int):Bool:=(AI ((xs.length:Int) - 1).toNat).all λ k=>decide (xs.getD (k + 1) 0<=xs.getD k 0)
def Yg (xs:List Int) (hl:xs.length<=1000):f_never_rises [il xs]=.ok (.bl (Hf xs),om,.non):=by
 have e0:∀ k,k < ((xs.length:Int) - 1).toNat->(Ab (AS λ i j=>decide (i<=j)) (Ab Ai (Aa 0) (Aa 1)) (Ab Ai (Aa 0) (Ab Br (Aa 1) (bC (.int 1))))) ([some (il xs,0)]++[some (.int (1 + (k:Int)),om)])=.ok (.bl (decide (xs.getD (k + 1) 0<=xs.getD k 0)),om,[some (il xs,0)]++[some (.int (1 + (k:Int)),om)]):=λ k hk=>by
  refine E7 (FV rfl rfl (Dy (by omega) ?_)) (FV (k:=1 + (k:Int) - 1) rfl rfl (Dy (by omega) ?_))
  ·rw [show (1 + (k:Int)).toNat=k + 1 by omega,BR (show k + 1 < xs.length by omega),Ba,BR (show k + 1 < xs.length by omega)];rfl
  ·rw [show (1 + (k:Int) - 1).toNat=k by omega,BR (show k < xs.length by omega),Ba,BR (show k < xs.length by omega)];rfl
 have e1:=Ja (ρ:=[some (il xs,0)]) (Bg (f:=bC (.int 1)) rfl (Bf (Sg (fa:=Ad (Aa 0) Ac) rfl))) (wk (by decide) (by decide) (by omega) (by omega)) rfl e0 (by have:=sz;omega);exact Bw rfl (Ci (all_ok e1))
def Dr (t:List (List Int)) (j:Nat):List Int:=t.map λ r=>r.getD j 0
def Ee {xs:List Int}{j:Nat} (h:j < xs.length):xs[j]?=some (xs.getD j 0):=by
 rw [Ba,BR h];rfl
def QA {xs:List (List Int)}{j:Nat} (h:j < xs.length):xs[j]?=some (xs.getD j []):=by
 rw [Ba,BR h];rfl
def Qg (t:List (List Int)) (j:Nat) (hl:t.length<=1000) (hr:∀ r∈t,j < r.length):f_column_of [tb t,.int (j:Int)]=.ok (il (Dr t j),om,.non):=by
 have e0:∀ r∈t,(Ab Ai (Aa 2) (Aa 1)) ([some (tb t,0),some (.int (j:Int),om)]++[some (il r,0)])=.ok (.int (r.getD j 0),om,[some (tb t,0),some (.int (j:Int),om)]++[some (il r,0)]):=λ r hm=>
  FV rfl rfl (Dy (by omega) (Ee (hr r hm)))
 have e1:=Jb (f:=Aa 0) (ρ:=[some (tb t,0),some (.int (j:Int),om)]) t rfl rfl e0 (by have:=sz;omega);refine Bw rfl (ρ':=[some (tb t,0),some (.int (j:Int),om)]) ((Ci e1).trans ?_);unfold Dr il;rw [De];rfl
def vy (xs:List Int) (k:Int) (hl:xs.length<=1000):f_how_many_above [il xs,.int k]=.ok (.int ((xs.filter λ x=>decide (k < x)).length:Nat),om,.non):=by
 have e1:=vH (f:=Aa 0) (elt:=Aa 2) (test:=bT (Ab (AS λ i j=>decide (j < i)) (Aa 2) (Aa 1))) (ρ:=[some (il xs,0),some (.int k,om)]) xs rfl rfl (λ x _=>rfl) (λ x _ _=>rfl) (by have:=sz;omega);exact Bw rfl (Ci (Sg (Bf e1)))
def Tab (a b:Nat) (t:List (List Int)):Prop:=t.length=a/\∀ r∈t,r.length=b
def K6 (a b:Nat) (c:Int) (t:List (List Int)):Bool:=(t.all λ r=>Ez r b c) && ((t.all Hf) && ((AI b).all λ j=>Hf (Dr t j)))
theorem U5 {a b:Nat}{c:Int}{t:List (List Int)} (ht:Tab a b t) (ha:1<=a/\a<=100) (hb:1<=b/\b<=100) (hc:1<=c):f_is_pile [bx a b c,tb t]=.ok (.bl (K6 a b c t),om,.non):=by
 let R0:Ag:=[some (bx a b c,0),some (tb t,0),none,none,none]
 let R1:Ag:=[some (bx a b c,0),some (tb t,0),some (.int a,om),some (.int b,om),some (.int c,om)]
 have hbx:Dg a b c=true:=by unfold Dg;rw [decide_eq_true (by omega),decide_eq_true (by omega),decide_eq_true hc];rfl
 have hs:=sz;have l1:=ht.1;have s1:Bc (Al f_must_be_box (Ad (Aa 0) (Ac))) R0=.nx R0:=CJ (AJ rfl (Lf hbx));have s2:Cc (Cf [2,3,4]) (Aa 0) [0] R0=.nx R1:=by kernel_rfl
 have t3:bT (By (Ay Cq (Ay (Ft "list") (Aa 1))) (Ab (Ap true) (Ak Cm (Ad (Aa 1) (Ac))) (Aa 2))) R1=.ok (false,R1):=by
  refine A8 (d:=om) ((FW (a:=false) rfl (λ _=>GP (xM rfl) rfl) rfl).trans ?_);rw [l1];simp
 have e4:∀ r∈t,(Al f_is_row_of_heights (Ad (Aa 5) (Ad (Aa 3) (Ad (Aa 4) (Ac))))) (R1++[some (il r,0)])=.ok (.bl (Ez r b c),om,R1++[some (il r,0)]):=λ r hr=>
  AJ rfl (z6 r b c (by rw [ht.2 r hr];omega))
 have t4:=A8 (Ec (all_ok (Jb (f:=Aa 1) (ρ:=R1) t rfl rfl e4 (by omega))));have e5:∀ r∈t,(Al f_never_rises (Ad (Aa 5) (Ac))) (R1++[some (il r,0)])=.ok (.bl (Hf r),om,R1++[some (il r,0)]):=λ r hr=>
  AJ rfl (Yg r (by rw [ht.2 r hr];omega))
 have t5:=A8 (Ec (all_ok (Jb (f:=Aa 1) (ρ:=R1) t rfl rfl e5 (by omega))));have e6:∀ k,k < ((b:Int) - 0).toNat->(Al f_never_rises (Ad (Al f_column_of (Ad (Aa 1) (Ad (Aa 5) (Ac)))) (Ac))) (R1++[some (.int (0 + (k:Int)),om)])=.ok (.bl (Hf (Dr t k)),om,R1++[some (.int (0 + (k:Int)),om)]):=λ k hk=>by
  have e:=Qg t k (by omega) λ r hr=>by rw [ht.2 r hr];omega
  rw [Hg];exact AJ (Bf (AJ rfl e)) (Yg _ (by unfold Dr;rw [AD];omega))
 have e7:=Ja (fa:=Ad (Aa 3) Ac) (ρ:=R1) rfl (FI (by omega) (by omega)) rfl e6 (by omega);rw [show ((b:Int) - 0).toNat=b by omega] at e7;refine Bw rfl (ρ':=R1) ?_;show Xf_is_pile R0=_;unfold K6;refine (Ax s1).trans ((Ax s2).trans ((D3 t3).trans ?_));cases h1:t.all λ r=>Ez r b c with
 | false=>
  rw [h1] at t4;exact Eg ((AQ t4).trans rfl)
 | true=>
  rw [h1] at t4;refine (D3 t4).trans ?_;cases h2:t.all Hf with
  | false=>
   have h2':t.all (λ r=>Hf r)=false:=h2;rw [h2'] at t5;exact Eg ((AQ t5).trans rfl)
  | true=>
   have h2':t.all (λ r=>Hf r)=true:=h2;rw [h2'] at t5;exact (D3 t5).trans (Ci (all_ok e7))
def Hu {a b:Nat}{c:Int}{t:List (List Int)} (ht:Tab a b t) (ha:1<=a/\a<=100) (hb:1<=b/\b<=100) (hc:1<=c) (h:K6 a b c t=true):f_must_be_pile [bx a b c,tb t]=.ok (.non,om,.non):=by
 refine V3 rfl (ρ':=[some (bx a b c,0),some (tb t,0)]) ?_;have hp:=U5 ht ha hb hc;rw [h] at hp;exact BH (f:=DU 2) (g:=Ao) (A8 (Ec (AJ (F:=f_is_pile) (fa:=Ad (Aa 0) (Ad (Aa 1) Ac)) (ρ:=[some (bx a b c,0),some (tb t,0)]) (xs:=[(bx a b c,0),(tb t,0)]) rfl hp)))
def cnt (xs:List Int) (k:Int):Int:=((xs.filter λ x=>decide (k < x)).length:Nat)
def Sr (t:List (List Int)) (k:Int):List Int:=t.map λ r=>cnt r k
def Ed (t:List (List Int)) (c:Nat):List (List Int):=(AI c).map λ (k:Nat)=>Sr t (k:Int)
def SO (t:List (List Int)) (r:List Int):PV.lst ((t.map il)++[il r])=tb (t++[r]):=by
 unfold tb;rw [Hh];rfl
def g (t:List (List Int)) (i j:Nat):Int:=(t.getD i []).getD j 0
structure Pile (a b:Nat) (c:Int) (t:List (List Int)):Prop where
 tab:Tab a b t
 lo:∀ i j,i < a->j < b->0<=g t i j
 hi:∀ i j,i < a->j < b->g t i j<=c
 dn:∀ i j,i + 1 < a->j < b->g t (i + 1) j<=g t i j
 rt:∀ i j,i < a->j + 1 < b->g t i (j + 1)<=g t i j
def SY {t:List (List Int)}{i:Nat} (h:i < t.length):t.getD i []∈t:=by
 rw [Ba,BR h];exact E2 h
def Tab.row {a b:Nat}{t:List (List Int)} (h:Tab a b t) {i:Nat} (hi:i < a):(t.getD i []).length=b:=h.2 _ (SY (by rw [h.1];exact hi))
def NJ {xs:List Int}{i:Nat} (h:i < xs.length):xs.getD i 0∈xs:=by
 rw [Ba,BR h];exact E2 h
def mem_getD {xs:List Int}{x:Int} (h:x∈xs):∃ i,i < xs.length/\xs.getD i 0=x:=by
 obtain ⟨i,hi,e⟩:=KQ h;exact ⟨i,hi,by rw [Ba,BR hi];exact e⟩
def UL {t:List (List Int)}{r:List Int} (h:r∈t):∃ i,i < t.length/\t.getD i []=r:=by
 obtain ⟨i,hi,e⟩:=KQ h;exact ⟨i,hi,by rw [Ba,BR hi];exact e⟩
def vP {xs ys:List Int} (hl:xs.length=ys.length) (h:∀ i,i < xs.length->xs.getD i 0=ys.getD i 0):xs=ys:=by
 refine Ze hl λ i h1 h2=>?_
 have:=h i h1
 rw [Ba,BR h1,Ba,BR h2] at this;exact this
def vt {a b:Nat}{t u:List (List Int)} (ht:Tab a b t) (hu:Tab a b u) (h:∀ i j,i < a->j < b->g t i j=g u i j):t=u:=by
 refine Ze (by rw [ht.1,hu.1]) λ i h1 h2=>?_;have hi:i < a:=by rw [<- ht.1];exact h1
 have e1:t.getD i []=t[i]:=by rw [Ba,BR h1];rfl
 have e2:u.getD i []=u[i]:=by rw [Ba,BR h2];rfl
 rw [<- e1,<- e2];refine vP (by rw [ht.row hi,hu.row hi]) λ j hj=>h i j hi (by rw [<- ht.row hi];exact hj)
def qb5 {xs:List Int}{c h:Int}:Ez xs c h=true↔(xs.length:Int)=c/\∀ x∈xs,0<=x/\x<=h:=by
 unfold Ez;rw [A9,decide_eq_true_iff,ja7];constructor
 ·rintro ⟨h1,h2⟩;refine ⟨h1,λ x hx=>?_⟩
  have:=h2 x hx
  rw [A9,decide_eq_true_iff,decide_eq_true_iff] at this;exact this
 ·rintro ⟨h1,h2⟩;refine ⟨h1,λ x hx=>?_⟩;rw [A9,decide_eq_true_iff,decide_eq_true_iff];exact h2 x hx
def zfp {xs:List Int}:Hf xs=true↔∀ k,k + 1 < xs.length->xs.getD (k + 1) 0<=xs.getD k 0:=by
 unfold Hf;rw [ja7];constructor
 ·intro h k hk;exact of_decide_eq_true (h k (jc7.mpr (by omega)))
 ·intro h k hk
  have:=jc7.mp hk
  exact decide_eq_true (h k (by omega))
def Ln {t:List (List Int)}{i j:Nat} (h:i < t.length):(Dr t j).getD i 0=g t i j:=by
 unfold Dr g;rw [Ba,CV,BR h,Ba (l:=t),BR h];rfl
def N0 {t:List (List Int)}{j:Nat}:(Dr t j).length=t.length:=by unfold Dr;rw [AD]
def GN {a b:Nat}{c:Int}{t:List (List Int)} (ht:Tab a b t):K6 a b c t=true↔Pile a b c t:=by
 unfold K6;rw [A9,A9,ja7,ja7,ja7];constructor
 ·rintro ⟨h1,h2,h3⟩;have q:∀ i j,i < a->j < b->0<=g t i j/\g t i j<=c:=λ i j hi hj=>(qb5.mp (h1 _ (SY (by rw [ht.1];exact hi)))).2 _ (NJ (by rw [ht.row hi];exact hj));refine ⟨ht,λ i j hi hj=>(q i j hi hj).1,λ i j hi hj=>(q i j hi hj).2,λ i j hi hj=>?_,λ i j hi hj=>?_⟩
  ·have:=zfp.mp (h3 j (jc7.mpr hj)) i (by rw [N0,ht.1];exact hi)
   rw [Ln (by rw [ht.1];exact hi),Ln (by rw [ht.1];omega)] at this;exact this
  ·exact zfp.mp (h2 _ (SY (by rw [ht.1];exact hi))) j (by rw [ht.row hi];exact hj)
 ·intro p;refine ⟨λ r hr=>qb5.mpr ⟨by rw [ht.2 r hr],λ x hx=>?_⟩,λ r hr=>zfp.mpr λ k hk=>?_,λ j hj=>zfp.mpr λ k hk=>?_⟩
  ·obtain ⟨i,hi,rfl⟩:=UL hr;obtain ⟨j,hj,rfl⟩:=mem_getD hx;have hi':i < a:=by rw [<- ht.1];exact hi
   rw [ht.row hi'] at hj;exact ⟨p.lo i j hi' hj,p.hi i j hi' hj⟩
  ·obtain ⟨i,hi,rfl⟩:=UL hr;have hi':i < a:=by rw [<- ht.1];exact hi
   rw [ht.row hi'] at hk;exact p.rt i k hi' hk
  ·rw [N0,ht.1] at hk;rw [Ln (by rw [ht.1];exact hk),Ln (by rw [ht.1];omega)];exact p.dn k j hk (jc7.mp hj)
def Mu (a b:Nat) (f:Nat->Nat->Int):List (List Int):=(AI a).map λ i=>(AI b).map λ j=>f i j
def jY {a b:Nat}{f:Nat->Nat->Int}:Tab a b (Mu a b f):=by
 refine ⟨by unfold Mu;rw [AD,EY],λ r hr=>?_⟩;obtain ⟨i,_,rfl⟩:=jd3.mp hr;rw [AD,EY]
def Xo {b j:Nat}{f:Nat->Int} (hj:j < b):((AI b).map f).getD j 0=f j:=by
 rw [Ba,CV,TC hj];rfl
def N9 {a i:Nat}{f:Nat->List Int} (hi:i < a):((AI a).map f).getD i []=f i:=by
 rw [Ba,CV,TC hi];rfl
def jX {a b i j:Nat}{f:Nat->Nat->Int} (hi:i < a) (hj:j < b):g (Mu a b f) i j=f i j:=by
 unfold g Mu;rw [N9 hi,Xo hj]
def uC {a b c:Nat}{t:List (List Int)} (ht:Tab a b t):Tab c a (Ed t c):=by
 refine ⟨by unfold Ed;rw [AD,EY],λ r hr=>?_⟩;obtain ⟨i,_,rfl⟩:=jd3.mp hr;unfold Sr;rw [AD,ht.1]
def Ij {a b c k i:Nat}{t:List (List Int)} (ht:Tab a b t) (hk:k < c) (hi:i < a):g (Ed t c) k i=cnt (t.getD i []) k:=by
 unfold g Ed;rw [N9 hk];unfold Sr;rw [Ba,CV,BR (by rw [ht.1];exact hi),Ba,BR (by rw [ht.1];exact hi)];rfl
def XG {x k:Int}{r:List Int}:cnt (x::r) k=cnt r k + if k < x then 1 else 0:=by
 unfold cnt;by_cases h:k < x
 ·rw [Z8 (p:=λ x=>decide (k < x)) (decide_eq_true h),Bl,if_pos h];omega
 ·rw [Z9 (by rw [decide_eq_true_iff];exact h),if_neg h];omega
def OS (r:List Int) (k:Int):0<=cnt r k:=by unfold cnt;omega
def RY (r:List Int) (k:Int):cnt r k<=r.length:=by
 unfold cnt
 have:=Z3 (λ x=>decide (k < x)) r
 omega
def Nr (r:List Int):Prop:=∀ k,k + 1 < r.length->r.getD (k + 1) 0<=r.getD k 0
def Nr.tail {x:Int}{r:List Int} (h:Nr (x::r)):Nr r:=λ k hk=>h (k + 1) (by rw [Bl];omega)
theorem Nr.le {r:List Int} (h:Nr r):∀ {i j:Nat},i<=j->j < r.length->r.getD j 0<=r.getD i 0:=by
 intro i j hij hj;induction j with
 | zero=>
  have:i=0:=by omega
  rw [this];exact Gn _
 | succ j ih=>
  by_cases e:i=j + 1
  ·rw [e];exact Gn _
  ·exact JC (h j hj) (ih (by omega) (by omega))
theorem XH {k:Int}:∀ {r:List Int},(∀ x∈r,x<=k)->cnt r k=0
 | [],_=>rfl
 | x::r,h=>by
  rw [XG,if_neg (by have:=h x AR;omega),XH λ y hy=>h y (AO _ hy)];rfl
theorem VP {k:Int}:∀ {r:List Int},Nr r->∀ {j:Nat},j < r.length->((j:Int) < cnt r k↔k < r.getD j 0)
 | [],_,j,h=>absurd h (by simp)
 | x::r,hn,j,hj=>by
  rw [XG];by_cases hx:k < x
  ·rw [if_pos hx];cases j with
   | zero=>
    have:=OS r k
    constructor
    ·intro _;exact hx
    ·intro _;omega
   | succ j=>
    have:=VP (k:=k) hn.tail (j:=j) (by rw [Bl] at hj;omega)
    show ((j + 1:Nat):Int) < _↔k < r.getD j 0;rw [<- this];omega
  ·rw [if_neg hx,XH]
   ·have:=hn.le (i:=0) (by omega) hj
    have e:(x::r).getD 0 0=x:=rfl;rw [e] at this;constructor <;> intro h <;> omega
   ·intro y hy;obtain ⟨i,hi,rfl⟩:=mem_getD hy
    have:=hn.le (i:=0) (j:=i + 1) (by omega) (by rw [Bl];omega)
    have e:(x::r).getD 0 0=x:=rfl;have e':(x::r).getD (i + 1) 0=r.getD i 0:=rfl;rw [e,e'] at this;omega
def Pile.nr {a b:Nat}{c:Int}{t:List (List Int)} (p:Pile a b c t) {i:Nat} (hi:i < a):Nr (t.getD i []):=λ k hk=>p.rt i k hi (by rw [p.tab.row hi] at hk;exact hk)
def Nt {a b c:Nat}{t:List (List Int)} (p:Pile a b c t) {i j k:Nat} (hi:i < a) (hj:j < b) (hk:k < c):(j:Int) < g (Ed t c) k i↔(k:Int) < g t i j:=by
 rw [Ij p.tab hk hi];exact VP (p.nr hi) (by rw [p.tab.row hi];exact hj)
def uD {a b c:Nat}{t:List (List Int)} (p:Pile a b c t):Pile c a b (Ed t c):=by
 refine ⟨uC p.tab,λ k i hk hi=>?_,λ k i hk hi=>?_,λ k i hk hi=>?_,λ k i hk hi=>?_⟩
 ·rw [Ij p.tab hk hi];exact OS _ _
 ·rw [Ij p.tab hk hi]
  have:=RY (t.getD i []) k
  rw [p.tab.row hi] at this;exact this
 ·refine ju2.mp λ z=>?_;have h0:0<=g (Ed t c) k i:=by rw [Ij p.tab (by omega) hi];exact OS _ _
  have hb:g (Ed t c) (k + 1) i<=b:=by
   rw [Ij p.tab hk hi]
   have:=RY (t.getD i []) ((k + 1:Nat):Int)
   rw [p.tab.row hi] at this;exact this
  have h1:=(Nt p (j:=(g (Ed t c) k i).toNat) hi (by omega) hk).mp (by omega);have h2:=(Nt p (j:=(g (Ed t c) k i).toNat) (k:=k) hi (by omega) (by omega)).mpr (by omega);omega
 ·refine ju2.mp λ z=>?_;have h0:0<=g (Ed t c) k i:=by rw [Ij p.tab (by omega) (by omega)];exact OS _ _
  have hb:g (Ed t c) k (i + 1)<=b:=by
   rw [Ij p.tab hk hi]
   have:=RY (t.getD (i + 1) []) k
   rw [p.tab.row hi] at this;exact this
  have h1:=(Nt p (j:=(g (Ed t c) k i).toNat) hi (by omega) hk).mp (by omega);have h2:=(Nt p (j:=(g (Ed t c) k i).toNat) (i:=i) (by omega) (by omega) (by omega)).mpr (by have:=p.dn i (g (Ed t c) k i).toNat hi (by omega);omega);omega
def MX {α:Type}{xs:List α}{i:Nat}{x d:α} (h:i < xs.length):(xs.set i x).getD i d=x:=by
 rw [Ba,Di h];rfl
def Qm {α:Type}{xs:List α}{i j:Nat}{x d:α} (h:i≠j):(xs.set i x).getD j d=xs.getD j d:=by
 rw [Ba,Cw h,Ba]
theorem Ks {α:Type}{f:PV->Option Bs}{e:α->PV}{q:α->Bs} (h:∀ x,f (e x)=some (q x)):∀ xs:List α,AN f (xs.map e)=some (xs.map q)
 | []=>rfl
 | x::xs=>by rw [BF,AN,h,Ks h xs];rfl
def zZ (n:Nat) (xs:List Int):BL (n + 2) (il xs)=some (.list (xs.map .int)):=by
 show (AN (BL (n + 1)) (xs.map PV.int)).map PyData.list=_;rw [Ks (q:=PyData.int) (λ x=>rfl)];rfl
def Wu (n:Nat) (t:List (List Int)):BL (n + 3) (tb t)=some (.list (t.map λ r=>.list (r.map .int))):=by
 show (AN (BL (n + 2)) (t.map il)).map PyData.list=_;rw [Ks (λ x=>zZ n x)];rfl
theorem U1:∀ xs ys:List Int,Fz (xs.map .int) (ys.map .int)=decide (xs=ys)
 | [],[]=>rfl
 | [],y::ys=>rfl
 | x::xs,[]=>rfl
 | x::xs,y::ys=>by
  rw [BF,BF,Fz,U1 xs ys];show ((x == y) && _)=_;by_cases h:x=y
  ·subst h;by_cases h2:xs=ys
   ·subst h2;simp
   ·simp [h2]
  ·simp [h]
theorem U2:∀ t u:List (List Int),Fz (t.map λ r=>.list (r.map .int)) (u.map λ r=>.list (r.map .int))=decide (t=u)
 | [],[]=>rfl
 | [],y::ys=>rfl
 | x::xs,[]=>rfl
 | x::xs,y::ys=>by
  rw [BF,BF,Fz,U2 xs ys,Cz,U1];by_cases h:x=y
  ·subst h;by_cases h2:xs=ys
   ·subst h2;simp
   ·simp [h2]
  ·simp [h]
def RQ {neg:Bool}{f h:Fx}{ρ ρ1 ρ2:Ag}{t u:List (List Int)}{d e:Nat} (h1:f ρ=.ok (tb t,d,ρ1)) (h2:h ρ1=.ok (tb u,e,ρ2)):Ab (Ap neg) f h ρ=.ok (.bl (neg^^decide (t=u)),om,ρ2):=by
 refine C5 h1 h2 ?_;unfold Ap;rw [Wu 17,Wu 17];show some (PV.bl (neg^^Cz _ _),om)=_;rw [Cz,U2]
def jQ {f h:Fx}{ρ ρ1 ρ2:Ag}{xs:List Int}{k x:Int}{d e:Nat} (h1:f ρ=.ok (.scr xs,d,ρ1)) (h2:h ρ1=.ok (.int k,e,ρ2)) (hx:BB xs k=some x):Ab Ai f h ρ=.ok (.int x,om,ρ2):=by
 refine C5 h1 h2 ?_;show (BB xs k).map _=_;rw [hx];rfl
def jz (ns:List Int) (k:Nat):b_cell_at [.scr ns,.int (k:Int)]=.ok (.int (ns.getD k 0),om,.non):=by
 let R:Ag:=[some (.scr ns,om),some (.int (k:Int),om)]
 have t1:bT (Ab (AS λ i j=>decide (i < j)) (Aa 1) (Ak Cm (Ad (Aa 0) (Ac)))) R=.ok (decide ((k:Int) < (ns.length:Int)),R):=rfl;refine Bw rfl (ρ':=R) ?_;by_cases h:(k:Int) < (ns.length:Int)
 ·rw [decide_eq_true h] at t1;exact Eg ((AQ t1).trans (Ci (jQ (xs:=ns) (k:=(k:Int)) (d:=om) rfl rfl (Dy (by omega) (Ee (by omega))))))
 ·rw [decide_eq_false h] at t1;refine (D3 t1).trans ((Ci (d:=om) rfl).trans ?_);rw [Ba,HJ (by omega)];rfl
def Xd (xs:List Int) (x:Int):PV.lst (xs.map PV.int++[.int x])=il (xs++[x]):=by unfold il;rw [Hh];rfl
def XA {α:Type}{xs:List α}{x:α} (h:xs[xs.length - 1]?=some x):BB xs (-1)=some x:=by
 have hl:=(ja9.mp h).1;unfold BB CB;rw [if_neg (by decide),if_pos (by omega),show (-1 + (xs.length:Int)).toNat=xs.length - 1 by omega];exact h
def Nw {f h:Fx}{ρ ρ1 ρ2:Ag}{xs ys:List PV}{d e:Nat} (h1:f ρ=.ok (.lst xs,d,ρ1)) (h2:h ρ1=.ok (.lst ys,e,ρ2)) (hl:xs.length + ys.length<=Aw):Ab Az f h ρ=.ok (.lst (xs++ys),d1 (xs++ys),ρ2):=by
 refine C5 h1 h2 ?_;show (if _ then _ else _)=_;rw [if_pos hl]
theorem U4:∀ xs:List Int,Hn (xs.map PV.int)=some xs
 | []=>rfl
 | x::xs=>by rw [BF,Hn,U4 xs];rfl
def xN {fa:Fa}{ρ ρ1:Ag}{x:Int}{xs:List Int}{d:Nat} (h:fa ρ=.ok ([(il (x::xs),d)],ρ1)):Ak Es fa ρ=.ok (.int (BX x xs),om,ρ1):=by
 refine BZ h ?_;show (match Hn ((x::xs).map PV.int) with | some (n::r)=>some (PV.int (BX n r),om) | _=>none)=_;rw [U4]
def D8 (c:Int) (t:List (List Int)) (j:Nat):Int:=if t.length=0 then c else g t (t.length - 1) j
def Dl (c:Int) (t:List (List Int)) (r:List Int) (j:Nat):Int:=if r.length=0 then D8 c t j else min (D8 c t j) (r.getD (r.length - 1) 0)
def w5 {t:List (List Int)}{r:List Int}{i:Nat}:(t++[r]).getD i []=if i < t.length then t.getD i [] else if i=t.length then r else []:=by
 by_cases h:i < t.length
 ·rw [if_pos h,Ba,DJ h,Ba]
 ·rw [if_neg h];by_cases h2:i=t.length
  ·rw [if_pos h2,h2,Ba,ZC];rfl
  ·rw [if_neg h2,Ba,HJ (by rw [BQ,IL];omega)];rfl
def Nq {r:List Int}{x:Int}{i:Nat}:(r++[x]).getD i 0=if i < r.length then r.getD i 0 else if i=r.length then x else 0:=by
 by_cases h:i < r.length
 ·rw [if_pos h,Ba,DJ h,Ba]
 ·rw [if_neg h];by_cases h2:i=r.length
  ·rw [if_pos h2,h2,Ba,ZC];rfl
  ·rw [if_neg h2,Ba,HJ (by rw [BQ,IL];omega)];rfl
def Pile.snoc {k b:Nat}{c:Int}{t:List (List Int)}{r:List Int} (p:Pile k b c t) (hr:r.length=b) (h:∀ y,y < b->0<=r.getD y 0/\r.getD y 0<=D8 c t y) (hn:Nr r):Pile (k + 1) b c (t++[r]):=by
 have l:=p.tab.1;have e:∀ i j,g (t++[r]) i j=if i < k then g t i j else if i=k then r.getD j 0 else 0:=λ i j=>by
  unfold g;rw [w5,l];split
  ·rfl
  ·split <;> rfl
 have u:∀ y,y < b->D8 c t y<=c:=λ y hy=>by
  unfold D8;split
  ·exact Gn _
  ·exact p.hi _ _ (by omega) hy
 refine ⟨⟨by rw [BQ,l];rfl,λ x hx=>?_⟩,λ i j hi hj=>?_,λ i j hi hj=>?_,λ i j hi hj=>?_,λ i j hi hj=>?_⟩
 ·rcases jc6.mp hx with z | z
  ·exact p.tab.2 x z
  ·rw [jb1.mp z,hr]
 ·rw [e];by_cases z:i < k
  ·rw [if_pos z];exact p.lo i j z hj
  ·rw [if_neg z,if_pos (by omega)];exact (h j hj).1
 ·rw [e];by_cases z:i < k
  ·rw [if_pos z];exact p.hi i j z hj
  ·rw [if_neg z,if_pos (by omega)];exact JC (h j hj).2 (u j hj)
 ·rw [e,e];by_cases z:i + 1 < k
  ·rw [if_pos z,if_pos (by omega)];exact p.dn i j z hj
  ·rw [if_neg z,if_pos (by omega),if_pos (by omega)]
   have:=(h j hj).2
   unfold D8 at this;rw [if_neg (by omega),l,show k - 1=i by omega] at this;exact this
 ·rw [e,e];by_cases z:i < k
  ·rw [if_pos z,if_pos z];exact p.rt i j z hj
  ·rw [if_neg z,if_neg z,if_pos (by omega),if_pos (by omega)];exact hn j (by rw [hr];exact hj)
theorem Y5:∀ xs:List Int,J6 (xs.map PV.int)=true
 | []=>rfl
 | x::xs=>by rw [BF,J6,Y5 xs];rfl
def Jg (xs:List Int):d1 (xs.map PV.int)=om:=by unfold d1;rw [Y5];rfl
def jV {f:Fx}{ρ ρ1:Ag}{xs:List Int}{d:Nat} (h:f ρ=.ok (il xs,d,ρ1)):Ak Ef (Ad f Ac) ρ=.ok (il xs,om,ρ1):=by
 refine BZ (Bf h) ?_;show some (PV.lst (xs.map PV.int),d1 (xs.map PV.int))=_;rw [Jg];rfl
def jP {f h k:Fx}{ρ ρ1 ρ2 ρ3:Ag}{t:List (List Int)}{a b i j:Nat}{d e e':Nat} (ht:Tab a b t) (h1:f ρ=.ok (tb t,d,ρ1)) (h2:h ρ1=.ok (.int (i:Int),e,ρ2)) (h3:k ρ2=.ok (.int (j:Int),e',ρ3)) (hi:i < a) (hj:j < b):Ab Ai (Ab Ai f h) k ρ=.ok (.int (g t i j),om,ρ3):=
 FV (xs:=t.getD i []) (k:=(j:Int)) (Ki (t:=t) (k:=(i:Int)) h1 h2 (Dy (by omega) (QA (by rw [DD,ht.1];exact hi)))) h3 (Dy (by omega) (Ee (by rw [DD,ht.row hi];exact hj)))
theorem UK {asg:PV->Ag->Option Ag}{body:Fs}:∀ (els:List PV) (I:Nat->Ag->Prop) (ρ:Ag),I 0 ρ->(∀ j x ρ,els[j]?=some x->I j ρ->∃ ρ1 ρ2,asg x ρ=some ρ1/\body ρ1=.nx ρ2/\I (j + 1) ρ2)->∃ ρ',Cg asg body els ρ=.nx ρ'/\I els.length ρ'
 | [],I,ρ,h,_=>⟨ρ,rfl,h⟩
 | x::xs,I,ρ,h,hb=>by
  obtain ⟨ρ1,ρ2,e1,e2,h2⟩:=hb 0 x ρ rfl h;obtain ⟨ρ',e',h'⟩:=UK xs (λ j=>I (j + 1)) ρ2 h2 λ j y ρ hy hi=>hb (j + 1) y ρ (by simpa using hy) hi;refine ⟨ρ',?_,h'⟩;unfold Cg;rw [e1];dsimp only;rw [e2];exact e'
def wq {v:Vw}{fa:Fa}{vs:List Nat}{asg:PV->Ag->Option Ag}{body:Fs}{ρ ρ1 ρ2:Ag}{xs:List (PV×Nat)}{els:List PV} (I:Nat->Ag->Prop) (hf:fa ρ=.ok (xs,ρ1)) (he:Ik v (xs.map (·.1))=some els) (ec:Bi (if Du xs=true then om else 0) vs ρ1=ρ2) (h0:I 0 ρ2)
  (hb:∀ j x ρ,els[j]?=some x->I j ρ->∃ ρ1 ρ2,asg x ρ=some ρ1/\body ρ1=.nx ρ2/\I (j + 1) ρ2):∃ ρ',K2 v fa vs asg body ρ=.nx ρ'/\I els.length ρ':=by
 obtain ⟨ρ',e,h⟩:=UK els I ρ2 h0 hb;refine ⟨ρ',?_,h⟩;unfold K2;rw [hf];dsimp only;rw [he];dsimp only;rw [ec];exact e
def VW {i:Nat}{f:Fx}{vs:List Nat}{ρ ρ1 ρ2:Ag}{ys:List PV}{e:Nat}{xs:List PV}{d0 d:Nat}{xs0:List PV} (h0:ρ[i]?=some (some (.lst xs0,d0 + 1))) (h:f ρ=.ok (.lst ys,e,ρ1)) (h1:(Bi e vs ρ1)[i]?=some (some (.lst xs,d))) (hd:d≠0) (hl:xs.length + ys.length<=Aw)
  (e2:(Bi e vs ρ1).set i (some (.lst (xs++ys),1))=ρ2):Ct i f vs ρ=.nx ρ2:=by
 unfold Ct;rw [h0];dsimp only;rw [h];dsimp only;rw [h1];dsimp only;rw [if_pos ⟨hd,hl⟩,e2]
def CA (t:List (List Int)) (b:Nat):List (List Int):=(AI b).map λ j=>Dr t j
def C9 (t:List (List Int)) (b c:Nat):List (List Int):=(AI b).map λ j=>(AI c).map λ (k:Nat)=>cnt (Dr t j) (k:Int)
def RV (t:List (List Int)) (c:Int):List (List Int):=t.reverse.map λ r=>r.reverse.map λ h=>c - h
def Wf {a b c:Nat}{t:List (List Int)} (p:Pile a b c t) (ha:1<=a/\a<=100) (hb:1<=b/\b<=100) (hc:1<=c):f_mirrored_pile [bx a b c,tb t]=.ok (tb (CA t b),om,.non):=by
 have z:=sz;have ht:=p.tab;let R:Ag:=[some (bx a b c,0),some (tb t,0)]
 have s1:Bc (Al f_must_be_pile (Ad (Aa 0) (Ad (Aa 1) (Ac)))) R=.nx R:=CJ (AJ rfl (Hu ht ha hb (by omega) ((GN ht).mpr p)));have e1:=Ja (fa:=Ad (Ab Ai (Aa 0) (bC (.int 1))) (Ac)) (elt:=Al f_column_of (Ad (Aa 1) (Ad (Aa 2) (Ac)))) (ρ:=R) rfl (FI (by omega) (by omega)) rfl (λ k hk=>by
  rw [Hg];exact AJ rfl (Qg t k (by rw [ht.1];omega) λ r hr=>by rw [ht.2 r hr];omega)) (by omega)
 rw [show ((b:Int) - 0).toNat=b by omega] at e1;have e2:PV.lst ((AI b).map λ j=>il (Dr t j))=tb (CA t b):=by unfold tb CA;rw [De];rfl
 rw [e2] at e1;exact Bw rfl ((Ax s1).trans (Ci e1))
def W7 {a b c:Nat}{t:List (List Int)} (p:Pile a b c t) (ha:1<=a/\a<=100) (hb:1<=b/\b<=100) (hc:1<=c/\c<=100):f_rolled_pile [bx a b c,tb t]=.ok (tb (C9 t b c),om,.non):=by
 have z:=sz;have ht:=p.tab;have l1:=ht.1;let R (q:List (List Int)) (s3 s4:QQ.Slot):Ag:=[some (bx a b c,0),some (tb t,0),some (tb q,om),s3,s4]
 have s1:Bc (Al f_must_be_pile (Ad (Aa 0) (Ad (Aa 1) (Ac)))) [some (bx a b c,0),some (tb t,0),none,none,none]=.nx [some (bx a b c,0),some (tb t,0),none,none,none]:=CJ (AJ rfl (Hu ht ha hb (by omega) ((GN ht).mpr p)));have s2:Ah false 2 (Ak AL (Ac)) [] [some (bx a b c,0),some (tb t,0),none,none,none]=.nx (R [] none none):=by kernel_rfl
 have e4:∀ (q:List (List Int)) (j:Nat) (s3:QQ.Slot),C4 BU (Ad (Ab Ai (Aa 0) (bC (.int 2))) (Ac)) 1 (asgN 5) Bn (Al f_how_many_above (Ad (Aa 4) (Ad (Aa 5) (Ac)))) (R q s3 (some (il (Dr t j),om)))=.ok (il ((AI c).map λ (k:Nat)=>cnt (Dr t j) (k:Int)),om,R q s3 (some (il (Dr t j),om))):=λ q j s3=>by
  rw [Ja (n:=5) (ρ1:=R q s3 (some (il (Dr t j),om))) (as:=[(.int (c:Int),om)]) (by kernel_rfl) (FI (by omega) (by omega)) rfl (λ k hk=>by
   rw [Hg];exact AJ rfl (vy _ _ (by rw [N0];omega))) (by omega),show ((c:Int) - 0).toNat=c by omega]
  unfold il;rw [De];rfl
 obtain ⟨ρ',e6,s3,s4,rfl⟩:=Km (body:=Af (Ah false 4 (Al f_column_of (Ad (Aa 1) (Ad (Aa 3) (Ac)))) [1,3]) (BE 2 (C4 BU (Ad (Ab Ai (Aa 0) (bC (.int 2))) (Ac)) 1 (asgN 5) Bn (Al f_how_many_above (Ad (Aa 4) (Ad (Aa 5) (Ac))))) [4])) (as:=[(.int (b:Int),om)])
  (λ k ρ=>∃ s3 s4,ρ=R (C9 t k c) s3 s4) (by kernel_rfl) (FI (by omega) (by omega)) ⟨none,none,rfl⟩ (by
   rintro j ρ hj ⟨s3,s4,rfl⟩;have u1:Ah false 4 (Al f_column_of (Ad (Aa 1) (Ad (Aa 3) (Ac)))) [1,3] (R (C9 t j c) (some (.int (0 + (j:Int)),om)) s4)=.nx (R (C9 t j c) (some (.int (0 + (j:Int)),om)) (some (il (Dr t j),om))):=by
    rw [Hg];exact setF (AJ rfl (Qg t j (by omega) λ r hr=>by rw [ht.2 r hr];omega)) (show 4 < 5 by decide) rfl
   refine ⟨show 3 < 5 by decide,_,(Ax u1).trans (Je rfl (e4 _ j _) rfl (by decide) (by unfold C9;rw [AD,AD,EY];omega) rfl),some (.int (0 + (j:Int)),om),some (il (Dr t j),om),?_⟩
   have:PV.lst ((C9 t j c).map il++[il ((AI c).map λ (k:Nat)=>cnt (Dr t j) (k:Int))])=tb (C9 t (j + 1) c):=by
    rw [SO];unfold C9;rw [YT,Hh];rfl
   rw [this]
   rfl)
 rw [show ((b:Int) - 0).toNat=b by omega] at e6;exact Bw rfl ((Ax s1).trans ((Ax s2).trans ((Ax e6).trans rfl)))
def vJ {α:Type}{n:Nat}{v:Vw}{fa:Fa}{elt:Fx}{enc q:α->PV}{ρ ρ1:Ag}{as:List (PV×Nat)} (xs:List α) (hf:fa ρ=.ok (as,ρ1)) (hv:Ik v (as.map (·.1))=some (xs.map enc)) (hn:ρ1.length=n) (he:∀ x∈xs,elt (ρ1++[some (enc x,dv (enc x))])=.ok (q x,om,ρ1++[some (enc x,dv (enc x))])) (hl:xs.length<=Aw):
  Jf v fa 1 (asgN n) Bn elt ρ=.ok (.lst (xs.map q),om,ρ1):=by
 unfold Jf;rw [hf];dsimp only;rw [hv];dsimp only;rw [GK xs ρ1 [] hn (λ _ _=>rfl) (λ x hx _=>he x hx) (by simpa using hl),jf4.mpr (λ _ _=>rfl)];show C7 (xs.map λ x=>(q x,om)) ρ1=_;unfold C7;rw [Kb,De];rfl
def kZ {a b c:Nat}{t:List (List Int)} (p:Pile a b c t) (ha:1<=a/\a<=100) (hb:1<=b/\b<=100) (hc:1<=c):f_rest_of [bx a b c,tb t]=.ok (tb (RV t c),om,.non):=by
 have z:=sz;have ht:=p.tab;have l1:=ht.1;let R (q:List (List Int)) (s3:QQ.Slot):Ag:=[some (bx a b c,0),some (tb t,0),some (tb q,om),s3]
 have s1:Bc (Al f_must_be_pile (Ad (Aa 0) (Ad (Aa 1) (Ac)))) [some (bx a b c,0),some (tb t,0),none,none]=.nx [some (bx a b c,0),some (tb t,0),none,none]:=CJ (AJ rfl (Hu ht ha hb (by omega) ((GN ht).mpr p)));have s2:Ah false 2 (Ak AL (Ac)) [] [some (bx a b c,0),some (tb t,0),none,none]=.nx (R [] none):=by kernel_rfl
 let rs (n:Nat):List (List Int):=(t.reverse.take n).map λ r=>r.reverse.map λ h=>(c:Int) - h;obtain ⟨ρ',e6,s3,rfl⟩:=wq (fa:=Ad (Aa 1) (Ac)) (vs:=[1]) (asg:=asgN 3) (body:=BE 2 (Jf .rev (Ad (Aa 3) (Ac)) 1 (asgN 4) Bn (Ab Br (Ab Ai (Aa 0) (bC (.int 2))) (Aa 4))) [3,0,3]) (ρ:=R [] none) (els:=t.reverse.map il)
  (λ n ρ=>∃ s3,ρ=R (rs n) s3) rfl (by show some (t.map il).reverse=_;rw [Zd]) rfl ⟨none,by show R [] none=R ((t.reverse.take 0).map _) none;rw [Tz];rfl⟩ (by
   rintro n y ρ hy ⟨s3,rfl⟩;have hn:n < t.reverse.length:=by
    have:=(ja9.mp hy).1
    rw [AD] at this;exact this
   rw [CV,BR hn] at hy;cases hy;let r:=t.reverse[n];have hr:r∈t:=List.mem_reverse.mp (E2 hn);have e1:=vJ (v:=.rev) (fa:=Ad (Aa 3) (Ac)) (elt:=Ab Br (Ab Ai (Aa 0) (bC (.int 2))) (Aa 4)) (ρ:=R (rs n) (some (il r,0))) r.reverse rfl (by show some (r.map PV.int).reverse=_;rw [Zd]) rfl (λ h _=>FO rfl rfl) (by rw [MB,ht.2 r hr];omega);have e2:PV.lst (r.reverse.map λ h=>.int ((c:Int) - h))=il (r.reverse.map λ h=>(c:Int) - h):=by unfold il;rw [De];rfl
   rw [e2] at e1;refine ⟨R (rs n) (some (il r,0)),R (rs (n + 1)) (some (il r,0)),rfl,?_,_,rfl⟩;have hlen:((rs n).map il).length < Aw:=by
    have e:((rs n).map il).length=(t.reverse.take n).length:=by rw [AD,AD]
    rw [e,FE,MB];omega
   refine (Je rfl e1 rfl (by decide) hlen rfl).trans ?_
   have:PV.lst ((rs n).map il++[il (r.reverse.map λ h=>(c:Int) - h)])=tb (rs (n + 1)):=by
    rw [SO];show tb ((t.reverse.take n).map _++_)=tb ((t.reverse.take (n + 1)).map _);rw [List.take_succ,BR hn,Hh];rfl
   rw [this]
   rfl)
 rw [AD,MB] at e6
 have:rs t.length=RV t c:=by
  show (t.reverse.take t.length).map _=_;rw [Z4 (by rw [MB];exact Bj _)];rfl
 rw [this] at e6;exact Bw rfl ((Ax s1).trans ((Ax s2).trans ((Ax e6).trans rfl)))
def Ye {a b:Nat}{t:List (List Int)} (ht:Tab a b t):Tab b a (CA t b):=by
 refine ⟨by unfold CA;rw [AD,EY],λ r hr=>?_⟩;obtain ⟨j,_,rfl⟩:=jd3.mp hr;rw [N0,ht.1]
def Jd {a b:Nat}{t:List (List Int)} (ht:Tab a b t) {i j:Nat} (hi:i < a) (hj:j < b):g (CA t b) j i=g t i j:=by
 unfold g CA;rw [N9 hj,Ln (by rw [ht.1];exact hi)];rfl
def Q0 {a b:Nat}{c:Int}{t:List (List Int)} (p:Pile a b c t):Pile b a c (CA t b):=by
 refine ⟨Ye p.tab,λ j i hj hi=>?_,λ j i hj hi=>?_,λ j i hj hi=>?_,λ j i hj hi=>?_⟩
 ·rw [Jd p.tab hi hj];exact p.lo i j hi hj
 ·rw [Jd p.tab hi hj];exact p.hi i j hi hj
 ·rw [Jd p.tab hi hj,Jd p.tab hi (by omega)];exact p.rt i j hi hj
 ·rw [Jd p.tab hi hj,Jd p.tab (by omega) hj];exact p.dn i j hi hj
def X4 (t:List (List Int)) (b c:Nat):C9 t b c=Mu b c λ j k=>cnt (Dr t j) k:=rfl
def yb {a b c:Nat}{t:List (List Int)} (p:Pile a b c t):Pile b c a (C9 t b c):=by
 have e:=Q0 p;have s:=uD e;have q:C9 t b c=CA (Ed (CA t b) c) b:=by
  refine vt (by rw [X4];exact jY) (Ye s.tab) λ j k hj hk=>?_;rw [X4,jX hj hk,Jd s.tab hk hj,Ij e.tab hk hj];unfold CA;rw [N9 hj]
 rw [q];exact Q0 s
theorem Qy {α:Type}{asg:PV->Ag->Option Ag}{body:Fs}{enc:α->PV} (P:List α->Ag->Prop):∀ (xs pre:List α) (ρ:Ag),P pre ρ->(∀ p x s ρ,pre++xs=p++x::s->P p ρ->∃ ρ1 ρ2,asg (enc x) ρ=some ρ1/\body ρ1=.nx ρ2/\P (p++[x]) ρ2) ->
  ∃ ρ',Cg asg body (xs.map enc) ρ=.nx ρ'/\P (pre++xs) ρ'
 | [],pre,ρ,h,_=>⟨ρ,rfl,by simpa using h⟩
 | x::xs,pre,ρ,h,hb=>by
  obtain ⟨ρ1,ρ2,e1,e2,h2⟩:=hb pre x xs ρ rfl h;obtain ⟨ρ',e',h'⟩:=Qy P xs (pre++[x]) ρ2 h2 λ p y s ρ e=>hb p y s ρ (by rw [<- e];simp);refine ⟨ρ',?_,by simpa using h'⟩;rw [BF];unfold Cg;rw [e1];dsimp only;rw [e2];exact e'
def WZ {f:Fx}{vs:List Nat}{asg:PV->Ag->Option Ag}{body:Fs}{ρ ρ1 ρ2:Ag}{r:Rs}{els:List PV}{d:Nat} (hf:f ρ=.ok (.lst els,d,ρ1)) (ec:Bi d vs ρ1=ρ2) (h:Cg asg body els ρ2=r):D0 f vs asg body ρ=r:=by
 unfold D0;rw [hf];dsimp only;rw [ec,h]
def ko {en:List (PV×Nat)->Option (Int×Int)}{fa:Fa}{asg:PV->Ag->Option Ag}{body:Fs}{ρ ρ1:Ag}{r:Rs}{as:List (PV×Nat)}{n:Nat} (hf:fa ρ=.ok (as,ρ1)) (hen:en as=some (0,(n:Int))) (h:Cg asg body ((AI n).map λ (k:Nat)=>.int (k:Int)) ρ1=r):CW en fa asg body ρ=r:=by
 unfold CW;rw [hf];dsimp only;rw [hen];dsimp only;rw [Nb,show ((n:Int) - 0).toNat=n by omega,<- h];congr 2;funext k;rw [Hg]
def N5 {n i:Nat}{t:List (List Int)}{ρ:Ag}{d:Nat} (hf:Aa i ρ=.ok (tb t,d,ρ)) (hn:ρ.length=n) (hl:t.length<=1000):BN (Aa i) 1 (asgN n) Bn (Ak Ef (Ad (Aa n) (Ac))) ρ=.ok (tb t,om,ρ):=
 have z:=sz
 Jb (n:=n) (enc:=il) (q:=il) t hf hn (λ r _=>jV (d:=0) (by
  unfold Aa;rw [HL (by omega),hn,Tt]
  rfl)) (by omega)
def CN:Fs:=(AV (bT (Cu (Ab (AS λ i j=>decide (j<=i)) (Aa 0) (Ab OI (bC (.int 10)) (bC (.int 18)))) (Ab (AS λ i j=>decide (j < i)) (Aa 3) (bC (.int 0))))) (Af (BE 2 (Ab A0 (Aa 3) (bC (.int 64))) [3])
 (Ah false 3 (Ab Fl (Aa 3) (bC (.int 64))) [3])) (Af (Ah false 4 (Ab A0 (Ab Cv (Ab Az (Ab Az (Aa 4) (Ab Cv (bC (.int 7)) (Aa 5))) (bC (.int 3))) (bC (.int 48271))) (bC (.int 2147483647))) [4,5])
 (Af (Ah false 6 (Ab A0 (Ab Cv (Ab A0 (Ab Cv (Aa 4) (Aa 4)) (bC (.int 2147483629))) (bC (.int 69621))) (bC (.int 2147483587))) [4,4])
 (BE 2 (Ab A0 (Ab Fl (Aa 6) (bC (.int 8))) (bC (.int 720720))) [6]))))
def j5 (c:Int) (m:Nat) (hm:m<=1000):∃ ns:List Int,ns.length=m/\c_numbers [.int c,.int (m:Int)]=.ok (il ns,om,.non):=by
 have z:=sz;let R (xs:List Int) (v w:Int) (s5 s6:QQ.Slot):Ag:=[some (.int c,om),some (.int (m:Int),om),some (il xs,om),some (.int v,om),some (.int w,om),s5,s6]
 let R0 (s2 s3 s4:QQ.Slot):Ag:=[some (.int c,om),some (.int (m:Int),om),s2,s3,s4,none,none]
 have s1:Ah false 2 (Ak AL (Ac)) [] (R0 none none none)=.nx (R0 (some (il [],om)) none none):=by kernel_rfl
 have s2:Ah false 3 (Aa 0) [0] (R0 (some (il [],om)) none none)=.nx (R0 (some (il [],om)) (some (.int c,om)) none):=by kernel_rfl
 have s3:Ah false 4 (Ab A0 (Aa 0) (bC (.int 2147483647))) [0] (R0 (some (il [],om)) (some (.int c,om)) none)=.nx (R [] c (c % 2147483647) none none):=setF (CY rfl rfl (by decide)) (show 4 < 7 by decide) rfl;obtain ⟨ρ',e6,xs,v,w,s5,s6,rfl,hl⟩:=Km (body:=CN) (fa:=Ad (Aa 1) (Ac)) (ρ:=R [] c (c % 2147483647) none none)
  (λ k ρ=>∃ xs v w s5 s6,ρ=R xs v w s5 s6/\xs.length=k) rfl (FI (by omega) (by omega)) ⟨[],c,_,none,none,rfl,rfl⟩ (by
   rintro j ρ hj ⟨xs,v,w,s5,s6,rfl,hl⟩;let Q (xs:List Int) (v w:Int) (s6:QQ.Slot):Ag:=R xs v w (some (.int (0 + (j:Int)),om)) s6;have app:∀ {f:Fx}{vs:List Nat}{v w:Int}{s6:QQ.Slot}{x:Int},f (Q xs v w s6)=.ok (.int x,om,Q xs v w s6)->BE 2 f vs (Q xs v w s6)=.nx (Q (xs++[x]) v w s6):=λ {f vs v w s6 x} h=>by
    refine (Je rfl h rfl (by decide) (by rw [AD];omega) rfl).trans ?_;rw [Xd];rfl
   have tt:bT (Cu (Ab (AS λ i j=>decide (j<=i)) (Aa 0) (Ab OI (bC (.int 10)) (bC (.int 18)))) (Ab (AS λ i j=>decide (j < i)) (Aa 3) (bC (.int 0)))) (Q xs v w s6)=.ok (decide ((10:Int) ^ 18<=c) && decide (0 < v),Q xs v w s6):=A8 (DF (by kernel_rfl) (λ _=>rfl) rfl);refine ⟨show 5 < 7 by decide,?_⟩;cases hd:decide ((10:Int) ^ 18<=c) && decide (0 < v) with
   | true=>
    rw [hd] at tt;refine ⟨Q (xs++[v % 64]) (v / 64) w s6,(AQ tt).trans ((Ax (app (CY rfl rfl (by decide)))).trans (setF (Se rfl rfl (by decide) (by decide)) (show 3 < 7 by decide) rfl)),_,_,_,_,_,rfl,?_⟩;rw [BQ,hl];rfl
   | false=>
    rw [hd] at tt;let w':=(w + 7 * (0 + (j:Int)) + 3) * 48271 % 2147483647;have w0:=IF ((w + 7 * (0 + (j:Int)) + 3) * 48271) (show (2147483647:Int)≠0 by decide);have w1:=JG ((w + 7 * (0 + (j:Int)) + 3) * 48271) (show (0:Int) < 2147483647 by decide);have u1:Ah false 4 (Ab A0 (Ab Cv (Ab Az (Ab Az (Aa 4) (Ab Cv (bC (.int 7)) (Aa 5))) (bC (.int 3))) (bC (.int 48271))) (bC (.int 2147483647))) [4,5] (Q xs v w s6)=.nx (Q xs v w' s6):=setF (CY (Lu (Eb (Eb rfl (Lu rfl rfl (.inl (by decide)))) rfl) rfl (.inr (by decide))) rfl (by decide)) (show 4 < 7 by decide) rfl;let y:=w' * w' % 2147483629 * 69621 % 2147483587;have u2:Ah false 6 (Ab A0 (Ab Cv (Ab A0 (Ab Cv (Aa 4) (Aa 4)) (bC (.int 2147483629))) (bC (.int 69621))) (bC (.int 2147483587))) [4,4] (Q xs v w' s6)=.nx (Q xs v w' (some (.int y,om))):=setF (CY (Lu (CY (Lu rfl rfl (.inl (by show -(2 ^ 64) < w'/\w' < 2 ^ 64;omega))) rfl (by decide)) rfl (.inr (by decide))) rfl (by decide)) (show 6 < 7 by decide) rfl;refine ⟨_,(BH tt).trans ((Ax u1).trans ((Ax u2).trans (app (CY (Se rfl rfl (by decide) (by decide)) rfl (by decide))))),_,_,_,_,_,rfl,?_⟩;rw [BQ,hl];rfl)
 rw [show ((m:Int) - 0).toNat=m by omega] at hl;exact ⟨xs,hl,Bw rfl ((Ax s1).trans ((Ax s2).trans ((Ax s3).trans ((Ax e6).trans rfl))))⟩
def SG (x:Int) (m:Nat) (hm:0 < m):∃ n:Nat,1 + x % (m:Int)=(n:Int)/\1<=n/\n<=m:=by
 have h0:=IF x (show (m:Int)≠0 by omega);have h1:=JG x (show (0:Int) < m by omega);exact ⟨(1 + x % (m:Int)).toNat,by omega,by omega,by omega⟩
def WB (ys:List Int) (hl:ys.length=4):∃ a b c:Nat,(1<=a/\a<=6)/\(1<=b/\b<=6)/\(1<=c/\c<=6)/\c_box [il ys]=.ok (bx a b c,om,.non):=by
 let R (a b c:Nat):Ag:=[some (il ys,0),some (bx a b c,om)]
 have ix:∀ (k:Nat) (ρ:Ag),k < 4->Aa 0 ρ=.ok (il ys,0,ρ)->Ab Ai (Aa 0) (bC (.int (k:Int))) ρ=.ok (.int (ys.getD k 0),om,ρ):=λ k ρ hk h=>FV h rfl (Dy (by omega) (Ee (by rw [DD];omega)));have tup:∀ (m:Nat) (ρ:Ag),0 < m->m<=6->Aa 0 ρ=.ok (il ys,0,ρ)->∃ a b c:Nat,(1<=a/\a<=6)/\(1<=b/\b<=6)/\(1<=c/\c<=6)/\Ak Bx (Ad (Ab Az (bC (.int 1)) (Ab A0 (Ab Ai (Aa 0) (bC (.int 0))) (bC (.int (m:Int))))) (Ad (Ab Az (bC (.int 1)) (Ab A0 (Ab Ai (Aa 0) (bC (.int 1))) (bC (.int (m:Int))))) (Ad (Ab Az (bC (.int 1)) (Ab A0 (Ab Ai (Aa 0) (bC (.int 2))) (bC (.int (m:Int))))) (Ac)))) ρ=.ok (bx a b c,om,ρ):=λ m ρ h0 h6 hρ=>by
  obtain ⟨a,ea,ha⟩:=SG (ys.getD 0 0) m h0;obtain ⟨b,eb,hb⟩:=SG (ys.getD 1 0) m h0;obtain ⟨c,ec,hc⟩:=SG (ys.getD 2 0) m h0;refine ⟨a,b,c,by omega,by omega,by omega,?_⟩;rw [<- ea,<- eb,<- ec];exact BZ (Bg (Eb rfl (CY (ix 0 ρ (by decide) hρ) rfl (by omega))) (Bg (Eb rfl (CY (ix 1 ρ (by decide) hρ) rfl (by omega))) (Bf (Eb rfl (CY (ix 2 ρ (by decide) hρ) rfl (by omega)))))) rfl
 obtain ⟨a,b,c,ha,hb,hc,e1⟩:=tup 3 [some (il ys,0),none] (by decide) (by decide) rfl;have tst:∀ (m r:Int) (ρ:Ag),0 < m->Aa 0 ρ=.ok (il ys,0,ρ)->bT (Ab (Ap false) (Ab A0 (Ab Ai (Aa 0) (bC (.int 3))) (bC (.int m))) (bC (.int r))) ρ=.ok (decide (ys.getD 3 0 % m=r),ρ):=λ m r ρ hm h=>by
  have:=A8 (GP (neg:=false) (CY (ix 3 ρ (by decide) h) (g:=bC (.int m)) rfl hm) (g:=bC (.int r)) rfl)
  rw [IE] at this;exact this
 have v1:Ah false 1 (Ak Bx (Ad (Ab Az (bC (.int 1)) (Ab A0 (Ab Ai (Aa 0) (bC (.int 0))) (bC (.int 3)))) (Ad (Ab Az (bC (.int 1)) (Ab A0 (Ab Ai (Aa 0) (bC (.int 1))) (bC (.int 3)))) (Ad (Ab Az (bC (.int 1)) (Ab A0 (Ab Ai (Aa 0) (bC (.int 2))) (bC (.int 3)))) (Ac))))) [0,0,0] [some (il ys,0),none]=.nx (R a b c):=setF e1 (show 1 < 2 by decide) rfl;have v2:∃ a' b' c':Nat,(1<=a'/\a'<=6)/\(1<=b'/\b'<=6)/\(1<=c'/\c'<=6)/\(AV (bT (Ab (Ap false) (Ab A0 (Ab Ai (Aa 0) (bC (.int 3))) (bC (.int 4))) (bC (.int 1)))) (Ah false 1 (Ak Bx (Ad (Ab Az (bC (.int 1)) (Ab A0 (Ab Ai (Aa 0) (bC (.int 0))) (bC (.int 6)))) (Ad (Ab Az (bC (.int 1)) (Ab A0 (Ab Ai (Aa 0) (bC (.int 1))) (bC (.int 6)))) (Ad (Ab Az (bC (.int 1)) (Ab A0 (Ab Ai (Aa 0) (bC (.int 2))) (bC (.int 6)))) (Ac))))) [0,0,0]) Ao) (R a b c)=.nx (R a' b' c'):=by
  have tt:=tst 4 1 (R a b c) (by decide) rfl;cases hd:decide (ys.getD 3 0 % 4=1) with
  | true=>
   rw [hd] at tt;obtain ⟨a',b',c',ha',hb',hc',e2⟩:=tup 6 (R a b c) (by decide) (by decide) rfl;exact ⟨a',b',c',ha',hb',hc',(AQ tt).trans (setF e2 (show 1 < 2 by decide) rfl)⟩
  | false=>rw [hd] at tt;exact ⟨a,b,c,ha,hb,hc,(BH tt).trans rfl⟩
 obtain ⟨a1,b1,c1,ha1,hb1,hc1,v2⟩:=v2;have v3:∃ a' b' c':Nat,(1<=a'/\a'<=6)/\(1<=b'/\b'<=6)/\(1<=c'/\c'<=6)/\(AV (bT (Ab (Ap false) (Ab A0 (Ab Ai (Aa 0) (bC (.int 3))) (bC (.int 4))) (bC (.int 2)))) (Ah false 1 (Ak Bx (Ad (Ab Ai (Aa 1) (bC (.int 0))) (Ad (Ab Ai (Aa 1) (bC (.int 0))) (Ad (Ab Ai (Aa 1) (bC (.int 0))) (Ac))))) [1,1,1]) Ao) (R a1 b1 c1)=.nx (R a' b' c'):=by
  have tt:=tst 4 2 (R a1 b1 c1) (by decide) rfl;cases hd:decide (ys.getD 3 0 % 4=2) with
  | true=>rw [hd] at tt;exact ⟨a1,a1,a1,ha1,ha1,ha1,(AQ tt).trans rfl⟩
  | false=>rw [hd] at tt;exact ⟨a1,b1,c1,ha1,hb1,hc1,(BH tt).trans rfl⟩
 obtain ⟨a2,b2,c2,ha2,hb2,hc2,v3⟩:=v3;have v4:∃ a' b' c':Nat,(1<=a'/\a'<=6)/\(1<=b'/\b'<=6)/\(1<=c'/\c'<=6)/\(AV (bT (Ab (Ap false) (Ab A0 (Ab Ai (Aa 0) (bC (.int 3))) (bC (.int 8))) (bC (.int 3)))) (Ah false 1 (Ak Bx (Ad (Ab Ai (Aa 1) (bC (.int 0))) (Ad (Ab Ai (Aa 1) (bC (.int 0))) (Ad (Ab Ai (Aa 1) (bC (.int 2))) (Ac))))) [1,1,1]) Ao) (R a2 b2 c2)=.nx (R a' b' c'):=by
  have tt:=tst 8 3 (R a2 b2 c2) (by decide) rfl;cases hd:decide (ys.getD 3 0 % 8=3) with
  | true=>rw [hd] at tt;exact ⟨a2,a2,c2,ha2,ha2,hc2,(AQ tt).trans rfl⟩
  | false=>rw [hd] at tt;exact ⟨a2,b2,c2,ha2,hb2,hc2,(BH tt).trans rfl⟩
 obtain ⟨a3,b3,c3,ha3,hb3,hc3,v4⟩:=v4;exact ⟨a3,b3,c3,ha3,hb3,hc3,Bw rfl ((Ax v1).trans ((Ax v2).trans ((Ax v3).trans ((Ax v4).trans rfl))))⟩
def Yx {i:Nat}{fk f:Fx}{ρ ρ1 ρ2 ρ3:Ag}{y:PV}{xs:List PV}{k:Int}{j d d2:Nat} (h:f ρ=.ok (y,om,ρ1)) (h0:ρ1[i]?=some (some (.lst xs,d))) (hk:fk ρ1=.ok (.int k,d2,ρ2)) (h1:ρ2[i]?=some (some (.lst xs,d))) (hj:CB xs.length k=some j) (hd:d≠0) (hy:Fq y=false) (e:ρ2.set i (some (.lst (xs.set j y),1))=ρ3):DQ i fk f ρ=.nx ρ3:=by
 unfold DQ;rw [h];dsimp only;rw [h0];dsimp only;rw [hk];dsimp only;rw [h1];dsimp only [EU];rw [hj];dsimp only;rw [if_neg (λ z=>by rw [hy] at z;cases z.2),if_pos ⟨hd,rfl,rfl⟩,e]
def CH:Fx:=Ab Ai (Ak AL (Ad (Ab A0 (Aa 7) (Ab Az (Aa 6) (bC (.int 1)))) (Ad (Ak Hz (Ad (bC (.int 0)) (Ad (Ab Br (Aa 6) (Ab Fl (Ab A0 (Aa 7) (bC (.int 3))) (bC (.int 2)))) (Ac)))) (Ad (Ab A0 (Aa 7) (Ab Az (Aa 6) (bC (.int 1)))) (Ad (Aa 6) (Ac)))))) (Ab A0 (Ab Ai (Aa 1) (bC (.int 36))) (bC (.int 4)))
def CS:Fs:=(Af (Ah false 6 (Ab Ai (Aa 0) (bC (.int 2))) [0])
 (Af (AV (bT (Ab (AS λ i j=>decide (j < i)) (Aa 3) (bC (.int 0)))) (Ah false 6 (Ab Ai (Ab Ai (Aa 2) (Ab Br (Aa 3) (bC (.int 1)))) (Aa 5)) [2,3,5]) Ao)
 (Af (AV (bT (Ab (AS λ i j=>decide (j < i)) (Aa 5) (bC (.int 0)))) (Ah false 6 (Ak Es (Ad (Aa 6) (Ad (Ab Ai (Aa 4) (Ab Br (Aa 5) (bC (.int 1)))) (Ac)))) [6,4,5]) Ao)
 (Af (Ah false 7 (Ab Ai (Aa 1) (Ab Az (Ab Cv (bC (.int 6)) (Aa 3)) (Aa 5))) [1,3,5])
 (BE 4 CH [7,6,6,7,7,6,6,1])))))
def CR:Fs:=(Af (Ah false 4 (Ak AL (Ac)) [])
 (Af (CW BU (Ad (Ab Ai (Aa 0) (bC (.int 1))) (Ac)) (asgN 5) CS)
 (BE 2 (Aa 4) [4])))
def Qa:Fx:=BN (Ab Ai (Aa 2) (Ay Cp (bC (.int 1)))) 1 (asgN 8) Bn (Ab Br (Aa 8) (Ab A0 (Ab Ai (Aa 1) (bC (.int 37))) (Ab Az (Aa 8) (bC (.int 1)))))
def PZ:Fx:=C4 BU (Ad (Ab Ai (Aa 0) (bC (.int 1))) (Ac)) 1 (asgN 8) Bn (Ak Es (Ad (C3 (Ab Ai (Aa 2) (Ay Cp (bC (.int 1)))) none (some (Ab Az (Aa 8) (bC (.int 1))))) (Ac)))
def yV:Xc_pile=(Af (Ah false 2 (Ak AL (Ac)) [])
 (Af (CW BU (Ad (Ab Ai (Aa 0) (bC (.int 0))) (Ac)) (asgN 3) CR)
 (Af (AV (bT (Ab (Ap false) (Ab A0 (Ab Ai (Aa 1) (bC (.int 36))) (bC (.int 4))) (bC (.int 3)))) (Af (DQ 2 (Ay Cp (bC (.int 1))) Qa) (DQ 2 (Ay Cp (bC (.int 1))) PZ)) Ao)
 (Dt 2)))):=rfl
def qb {a b c:Nat}{t:List (List Int)}{r:List Int} (p:Pile a b c t) (ha:1<=a) (hr:r.length=b) (hn:Nr r) (h:∀ y,y < b->0<=r.getD y 0/\r.getD y 0<=g t (a - 1) y):Pile a b c (t.set (a - 1) r):=by
 have l:=p.tab.1;have e:∀ x y,x < a->g (t.set (a - 1) r) x y=if x=a - 1 then r.getD y 0 else g t x y:=λ x y hx=>by
  show ((t.set (a - 1) r).getD x []).getD y 0=_;by_cases z:x=a - 1
  ·rw [if_pos z,z,MX (by omega)]
  ·rw [if_neg z,Qm (λ q=>z q.symm)];rfl
 refine ⟨⟨by rw [Ei];exact l,λ s hs=>?_⟩,λ x y hx hy=>?_,λ x y hx hy=>?_,λ x y hx hy=>?_,λ x y hx hy=>?_⟩
 ·rcases Px hs with z | z
  ·exact p.tab.2 s z
  ·rw [z];exact hr
 ·rw [e x y hx]
  have:=p.lo x y hx hy
  have:=h y hy
  split <;> omega
 ·rw [e x y hx]
  have:=p.hi x y hx hy
  have:=p.hi (a - 1) y (by omega) hy
  have:=h y hy
  split <;> omega
 ·rw [e (x + 1) y hx,e x y (by omega)];have k:=p.dn x y hx hy
  have:=h y hy
  rw [if_neg (show ¬ x=a - 1 by omega)];split
  ·rename_i z;rw [z] at k;omega
  ·exact k
 ·rw [e x (y + 1) hx,e x y hx]
  have:=p.rt x y hx hy
  split
  ·exact hn y (by rw [hr];exact hy)
  ·omega
def GV (r:List Int) (j:Nat):Int:=BX (r.getD 0 0) ((r.drop 1).take j)
theorem WY {m:Int}:∀ {xs:List Int}{n:Int},m<=n->(∀ x∈xs,m<=x)->m<=BX n xs
 | [],n,h,_=>h
 | x::xs,n,h,hx=>by
  show m<=BX (if x < n then x else n) xs;refine WY ?_ λ y hy=>hx y (AO _ hy)
  have:=hx x AR
  split <;> omega
theorem Qr:∀ {xs:List Int}{n:Int},BX n xs<=n
 | [],n=>Gn _
 | x::xs,n=>by
  show BX (if x < n then x else n) xs<=n;refine JC (Qr) ?_;split <;> omega
theorem minI_le:∀ {xs:List Int}{n:Int}{x:Int},x∈xs->BX n xs<=x
 | y::xs,n,x,h=>by
  show BX (if y < n then y else n) xs<=x;rcases jb2.mp h with rfl | h
  ·refine JC (Qr) ?_;split <;> omega
  ·exact minI_le h
theorem Yd:∀ {xs:List Int}{n x:Int},BX n (xs++[x])<=BX n xs
 | [],n,x=>by
  show (if x < n then x else n)<=n;split <;> omega
 | y::xs,n,x=>Yd (n:=if y < n then y else n)
theorem yJ {r:List Int}{j:Nat} (hj:j < r.length):GV r j<=r.getD j 0:=by
 unfold GV;cases j with
 | zero=>exact Qr
 | succ j=>
  refine minI_le (List.mem_iff_getElem?.mpr ⟨j,?_⟩);rw [List.getElem?_take,if_pos (by omega),Zq,show 1 + j=j + 1 by omega];exact Ee hj
def yI {r:List Int}{j:Nat}{m:Int} (h0:0 < r.length) (h:∀ x∈r,m<=x):m<=GV r j:=WY (h _ (NJ h0)) λ x hx=>h x (TF (Pw hx))
def yH {r:List Int}{j:Nat} (hj:j + 1 < r.length):GV r (j + 1)<=GV r j:=by
 unfold GV
 have:(r.drop 1).take (j + 1)=(r.drop 1).take j++[r.getD (j + 1) 0]:=by
  rw [List.take_add_one,Zq,show 1 + j=j + 1 by omega,Ee hj];rfl
 rw [this];exact Yd
theorem wK {r:List Int}{j:Nat} (h0:0 < r.length):r.take (j + 1)=r.getD 0 0::(r.drop 1).take j:=by
 cases r with
 | nil=>cases h0
 | cons x r=>rfl
def Yn {a b c:Nat} (xs:List Int) (hx:38<=xs.length) (ha:1<=a/\a<=6) (hb:1<=b/\b<=6) (hc:1<=c/\c<=99):∃ t d,Pile a b c t/\d≠0/\c_pile [bx a b c,il xs]=.ok (tb t,d,.non):=by
 let R (t:List (List Int)) (d2:Nat) (s3 s4 s5 s6 s7:QQ.Slot):Ag:=[some (bx a b c,0),some (il xs,0),some (tb t,d2),s3,s4,s5,s6,s7]
 have ix:∀ (k:Nat) (f:Fx) (ρ:Ag),k < 38->Aa 1 ρ=.ok (il xs,0,ρ)->f ρ=.ok (.int (k:Int),om,ρ)->Ab Ai (Aa 1) f ρ=.ok (.int (xs.getD k 0),om,ρ):=λ k f ρ hk h h2=>FV h h2 (Dy (by (clear hk hc hb ha hx;omega)) (Ee (by rw [DD];(clear hc hb ha;omega))));let m:Int:=xs.getD 36 0 % 4;have em:∀ ρ,Aa 1 ρ=.ok (il xs,0,ρ)->Ab A0 (Ab Ai (Aa 1) (bC (.int 36))) (bC (.int 4)) ρ=.ok (.int m,om,ρ):=λ ρ h=>CY (ix 36 (bC (.int 36)) ρ (by decide) h rfl) rfl (by decide);have s1:Ah false 2 (Ak AL (Ac)) [] [some (bx a b c,0),some (il xs,0),none,none,none,none,none,none]=.nx (R [] om none none none none none):=by kernel_rfl
 have step:∀ (t:List (List Int)) (d2 k j:Nat) (r:List Int) (s6 s7:QQ.Slot),k < a->j < b->Pile k b c t->r.length=j->(∀ y,y < j->0<=r.getD y 0)->∃ h s6' s7',(0<=h/\h<=Dl c t r j)/\CS (R t d2 (some (.int (k:Int),om)) (some (il r,om)) (some (.int (j:Int),om)) s6 s7)=.nx (R t d2 (some (.int (k:Int),om)) (some (il (r++[h]),om)) (some (.int (j:Int),om)) s6' s7'):=by
  intro t d2 k j r s6 s7 hk hj p hr hr0;let Q (s6 s7:QQ.Slot):Ag:=R t d2 (some (.int (k:Int),om)) (some (il r,om)) (some (.int (j:Int),om)) s6 s7;have l:=p.tab.1;have v1:Ah false 6 (Ab Ai (Aa 0) (bC (.int 2))) [0] (Q s6 s7)=.nx (Q (some (.int (c:Int),om)) s7):=rfl;have v2:AV (bT (Ab (AS λ i j=>decide (j < i)) (Aa 3) (bC (.int 0)))) (Ah false 6 (Ab Ai (Ab Ai (Aa 2) (Ab Br (Aa 3) (bC (.int 1)))) (Aa 5)) [2,3,5]) Ao (Q (some (.int (c:Int),om)) s7)=.nx (Q (some (.int (D8 c t j),om)) s7):=by
   have tt:bT (Ab (AS λ i j=>decide (j < i)) (Aa 3) (bC (.int 0))) (Q (some (.int (c:Int),om)) s7)=.ok (decide ((0:Int) < (k:Int)),Q (some (.int (c:Int),om)) s7):=rfl;by_cases h0:k=0
   ·rw [decide_eq_false (by (clear l hr hj hk hc hb ha hx;omega))] at tt;refine (BH tt).trans ?_;unfold D8;rw [if_pos (by (clear hr hj hk hc hb ha hx;omega))];rfl
   ·rw [decide_eq_true (by (clear l hr hj hk hc hb ha hx;omega))] at tt;refine (AQ tt).trans ?_;unfold D8;rw [if_neg (by (clear hr hj hk hc hb ha hx;omega)),l];have q:Ab Br (Aa 3) (bC (.int 1)) (Q (some (.int (c:Int),om)) s7)=.ok (.int ((k - 1:Nat):Int),om,Q (some (.int (c:Int),om)) s7):=by
     rw [show ((k - 1:Nat):Int)=(k:Int) - 1 by (clear l hr hj hk hc hb ha hx;omega)];exact FO rfl rfl
    exact setF (jP p.tab rfl q rfl (by (clear l hr hj hk hc hb ha hx;omega)) hj) (show 6 < 8 by decide) rfl
  have v3:AV (bT (Ab (AS λ i j=>decide (j < i)) (Aa 5) (bC (.int 0)))) (Ah false 6 (Ak Es (Ad (Aa 6) (Ad (Ab Ai (Aa 4) (Ab Br (Aa 5) (bC (.int 1)))) (Ac)))) [6,4,5]) Ao (Q (some (.int (D8 c t j),om)) s7)=.nx (Q (some (.int (Dl c t r j),om)) s7):=by
   have tt:bT (Ab (AS λ i j=>decide (j < i)) (Aa 5) (bC (.int 0))) (Q (some (.int (D8 c t j),om)) s7)=.ok (decide ((0:Int) < (j:Int)),Q (some (.int (D8 c t j),om)) s7):=rfl;by_cases h0:j=0
   ·rw [decide_eq_false (by (clear l hr hj hk hc hb ha hx;omega))] at tt;refine (BH tt).trans ?_;unfold Dl;rw [if_pos (by (clear l hj hk hc hb ha hx;omega))];rfl
   ·rw [decide_eq_true (by (clear l hr hj hk hc hb ha hx;omega))] at tt;refine (AQ tt).trans ?_;have q:Ab Br (Aa 5) (bC (.int 1)) (Q (some (.int (D8 c t j),om)) s7)=.ok (.int ((j - 1:Nat):Int),om,Q (some (.int (D8 c t j),om)) s7):=by
     rw [show ((j - 1:Nat):Int)=(j:Int) - 1 by (clear l hr hj hk hc hb ha hx;omega)];exact FO rfl rfl
    have e1:Dl c t r j=if r.getD (j - 1) 0 < D8 c t j then r.getD (j - 1) 0 else D8 c t j:=by
     unfold Dl;rw [if_neg (by (clear l hj hk hc hb ha hx;omega)),hr];split <;> (clear h0 l hr hj hk hc hb ha hx;omega)
    rw [e1];exact setF (BZ (Bg rfl (Bf (FV rfl q (Dy (by (clear e1 h0 l hr hj hk hc hb ha hx;omega)) (Ee (by rw [DD];(clear e1 l hj hk hc hb ha hx;omega))))))) rfl) (show 6 < 8 by decide) rfl
  have u0:0<=D8 c t j:=by
   unfold D8;split
   ·(clear l hr hj hk hc hb ha hx;omega)
   ·exact p.lo _ _ (by (clear hr hj hk hc hb ha hx;omega)) hj
  have t0:0<=Dl c t r j:=by
   unfold Dl;split
   ·exact u0
   ·have:=hr0 (r.length - 1) (by (clear u0 l hj hk hc hb ha hx;omega))
    (clear l hr hj hk hc hb ha hx;omega)
  let T:=Dl c t r j;let n:Int:=xs.getD (6 * k + j) 0;have v4:Ah false 7 (Ab Ai (Aa 1) (Ab Az (Ab Cv (bC (.int 6)) (Aa 3)) (Aa 5))) [1,3,5] (Q (some (.int T,om)) s7)=.nx (Q (some (.int T,om)) (some (.int n,om))):=by
   refine setF (ix (6 * k + j) _ _ (by (clear t0 u0 l hr hc hx;omega)) rfl ?_) (show 7 < 8 by decide) rfl;rw [show ((6 * k + j:Nat):Int)=6 * (k:Int) + (j:Int) by (clear t0 u0 l hr hj hk hc hb ha hx;omega)];exact Eb (Lu rfl rfl (.inl (by decide))) rfl
  let W:Ag:=Q (some (.int T,om)) (some (.int n,om));have a0:=IF n (show T + 1≠0 by (clear u0 l hr hj hk hc hb ha hx;omega));have a1:=JG n (show 0 < T + 1 by (clear a0 u0 l hr hj hk hc hb ha hx;omega));have b0:=IF n (show (3:Int)≠0 by decide);have b1:=JG n (show (0:Int) < 3 by decide);let mx:Int:=if T - n % 3 / 2 > 0 then T - n % 3 / 2 else 0
  let ch:List Int:=[n % (T + 1),mx,n % (T + 1),T]
  have hmx:0<=mx/\mx<=T:=by
   show 0<=(if T - n % 3 / 2 > 0 then T - n % 3 / 2 else 0)/\(if T - n % 3 / 2 > 0 then T - n % 3 / 2 else 0)<=T;split <;> (clear b1 b0 a1 a0 u0 l hr hj hk hc hb ha hx;omega)
  have hch:∀ x∈ch,0<=x/\x<=T:=by
   intro x hx;simp only [ch,jb2,KI,or_false] at hx;rcases hx with e | e | e | e <;> (clear b1 b0 u0 l hr hj hk hc hb ha hx;omega)
  have f1:Ab A0 (Aa 7) (Ab Az (Aa 6) (bC (.int 1))) W=.ok (.int (n % (T + 1)),om,W):=CY rfl (Eb rfl rfl) (by (clear hmx b1 b0 a1 a0 u0 l hr hj hk hc hb ha hx;omega));have f2:Ak Hz (Ad (bC (.int 0)) (Ad (Ab Br (Aa 6) (Ab Fl (Ab A0 (Aa 7) (bC (.int 3))) (bC (.int 2)))) (Ac))) W=.ok (.int mx,om,W):=BZ (Bg rfl (Bf (FO rfl (Se (CY rfl rfl (by decide)) rfl (by decide) (by decide))))) rfl;have f5:Ak AL (Ad (Ab A0 (Aa 7) (Ab Az (Aa 6) (bC (.int 1)))) (Ad (Ak Hz (Ad (bC (.int 0)) (Ad (Ab Br (Aa 6) (Ab Fl (Ab A0 (Aa 7) (bC (.int 3))) (bC (.int 2)))) (Ac)))) (Ad (Ab A0 (Aa 7) (Ab Az (Aa 6) (bC (.int 1)))) (Ad (Aa 6) (Ac))))) W=.ok (il ch,om,W):=BZ (Bg f1 (Bg f2 (Bg f1 (Bf rfl)))) rfl;have m0:=IF (xs.getD 36 0) (show (4:Int)≠0 by decide);have m1:=JG (xs.getD 36 0) (show (0:Int) < 4 by decide);have f6:CH W=.ok (.int (ch.getD m.toNat 0),om,W):=FV f5 (em W rfl) (Dy m0 (Ee (by show m.toNat < 4;(clear m1 m0 hmx b1 b0 a1 a0 t0 u0 l hr hj hk hc hb ha hx;omega))));have hm:=hch _ (NJ (by show m.toNat < 4;(clear m1 m0 hmx b1 b0 a1 a0 t0 u0 l hr hj hk hc hb ha hx;omega)));refine ⟨ch.getD m.toNat 0,some (.int T,om),some (.int n,om),hm,(Ax v1).trans ((Ax v2).trans ((Ax v3).trans ((Ax v4).trans ((Je rfl f6 rfl (by decide) (by rw [AD];have:=sz;(clear hm m1 m0 hmx b1 b0 a1 a0 t0 u0 l hk hc ha hx;omega)) rfl).trans ?_))))⟩;rw [Xd];rfl
 obtain ⟨ρ',e6,t,d2,s3,s4,s5,s6,s7,rfl,pt,hd2⟩:=Km (body:=CR) (fa:=Ad (Ab Ai (Aa 0) (bC (.int 0))) (Ac)) (ρ:=R [] om none none none none none)
  (λ k ρ=>∃ t d2 s3 s4 s5 s6 s7,ρ=R t d2 s3 s4 s5 s6 s7/\Pile k b c t/\d2≠0) rfl (FI (by (clear hc hb ha hx;omega)) (by (clear hc hb hx;omega))) ⟨[],om,none,none,none,none,none,rfl,⟨⟨rfl,λ _ h=>nomatch h⟩,λ _ _ h=>absurd h (by (clear h hc hb ha hx;omega)),λ _ _ h=>absurd h (by (clear h hc hb ha hx;omega)),λ _ _ h=>absurd h (by (clear h hc hb ha hx;omega)),λ _ _ h=>absurd h (by (clear h hc hb ha hx;omega))⟩,by decide⟩ (by
   rintro k ρ hk ⟨t,d2,s3,s4,s5,s6,s7,rfl,pt,hd2⟩;have hk':k < a:=by (clear hd2 hc hb ha hx;omega)
   rw [Hg];let K:QQ.Slot:=some (.int (k:Int),om);have u1:Ah false 4 (Ak AL (Ac)) [] (R t d2 K s4 s5 s6 s7)=.nx (R t d2 K (some (il [],om)) s5 s6 s7):=rfl;obtain ⟨ρ2,e2,r,t5,t6,t7,rfl,hr,hr0,hr1,hrn⟩:=Km (fa:=Ad (Ab Ai (Aa 0) (bC (.int 1))) (Ac)) (ρ:=R t d2 K (some (il [],om)) s5 s6 s7)
    (λ j ρ=>∃ r s5 s6 s7,ρ=R t d2 K (some (il r,om)) s5 s6 s7/\r.length=j/\(∀ y,y < j->0<=r.getD y 0)/\(∀ y,y < j->r.getD y 0<=D8 c t y)/\Nr r) rfl (FI (by (clear hk' hd2 hk hc hb ha hx;omega)) (by (clear hk' hd2 hk hc ha hx;omega))) ⟨[],s5,s6,s7,rfl,rfl,λ _ h=>absurd h (by (clear h hk' hd2 hk hc hb ha hx;omega)),λ _ h=>absurd h (by (clear h hk' hd2 hk hc hb ha hx;omega)),λ _ h=>absurd h (by simp)⟩ (by
     rintro j ρ hj ⟨r,s5,s6,s7,rfl,hr,hr0,hr1,hrn⟩;obtain ⟨h,t6,t7,hh,eh⟩:=step t d2 k j r s6 s7 hk' (by (clear hr hk' hd2 hk hc hb ha hx;omega)) pt hr hr0;refine ⟨show 5 < 8 by decide,R t d2 K (some (il (r++[h]),om)) (some (.int (j:Int),om)) t6 t7,?_,r++[h],some (.int (j:Int),om),t6,t7,rfl,by rw [BQ,hr];rfl,λ y hy=>?_,λ y hy=>?_,λ y hy=>?_⟩
     ·rw [Hg];exact eh
     ·rw [Nq];by_cases e:y < r.length
      ·rw [if_pos e];exact hr0 y (by (clear hy hh hj hk' hd2 hk hc hb ha hx;omega))
      ·rw [if_neg e,if_pos (by (clear hh hj hk' hd2 hk hc hb ha hx;omega))];exact hh.1
     ·rw [Nq];by_cases e:y < r.length
      ·rw [if_pos e];exact hr1 y (by (clear hy hh hj hk' hd2 hk hc hb ha hx;omega))
      ·rw [if_neg e,if_pos (by (clear hh hj hk' hd2 hk hc hb ha hx;omega)),show y=j by (clear hh hj hk' hd2 hk hc hb ha hx;omega)]
       have:=hh.2
       unfold Dl at this;split at this <;> (clear e hy hh hr hj hk' hd2 hk hc hb ha hx;omega)
     ·rw [BQ,IL] at hy;rw [Nq,Nq];by_cases e:y + 1 < r.length
      ·rw [if_pos e,if_pos (by (clear e hh hr hj hk' hd2 hk hc hb ha hx;omega))];exact hrn y e
      ·rw [if_neg e,if_pos (by (clear hh hr hj hk' hd2 hk hc hb ha hx;omega)),if_pos (by (clear e hh hr hj hk' hd2 hk hc hb ha hx;omega))]
       have:=hh.2
       unfold Dl at this;rw [if_neg (by (clear this e hh hr hj hk' hd2 hk hc hb ha hx;omega)),show r.length - 1=y by (clear this hh hr hj hk' hd2 hk hc hb ha hx;omega)] at this
       (clear e hy hh hr hj hk' hd2 hk hc hb ha hx;omega))
   rw [show ((b:Int) - 0).toNat=b by (clear hr hk' hd2 hk hc hb ha hx;omega)] at hr hr0 hr1;refine ⟨show 3 < 8 by decide,R (t++[r]) 1 K (some (il r,0)) t5 t6 t7,?_,t++[r],1,_,_,_,_,_,rfl,pt.snoc hr (λ y hy=>⟨hr0 y hy,hr1 y hy⟩) hrn,by decide⟩;refine (Ax u1).trans ((Ax e2).trans ?_);obtain ⟨d0,rfl⟩:∃ d0,d2=d0 + 1:=⟨d2 - 1,by (clear hr hk' hk hc hb ha hx;omega)⟩
   refine (Je (e:=0) rfl rfl rfl hd2 (by rw [AD,pt.tab.1];have:=sz;(clear hd2 hr hk' hc hb hx;omega)) rfl).trans ?_;rw [SO,if_neg (λ h=>absurd h.2 (by decide))]
   rfl)
 rw [show ((a:Int) - 0).toNat=a by (clear hd2 hc hb ha hx;omega)] at pt;let W (t:List (List Int)) (d:Nat):Ag:=R t d s3 s4 s5 s6 s7;have l:=pt.tab.1;have tt:=A8 (GP (neg:=false) (em (W t d2) rfl) (g:=bC (.int 3)) rfl);rw [IE] at tt;have fin:∃ t' d,Pile a b c t'/\d≠0/\AV (bT (Ab (Ap false) (Ab A0 (Ab Ai (Aa 1) (bC (.int 36))) (bC (.int 4))) (bC (.int 3)))) (Af (DQ 2 (Ay Cp (bC (.int 1))) Qa) (DQ 2 (Ay Cp (bC (.int 1))) PZ)) Ao (W t d2)=.nx (W t' d):=by
  cases hd:decide (m=3) with
  | false=>rw [hd] at tt;exact ⟨t,d2,pt,hd2,(BH tt).trans rfl⟩
  | true=>
   rw [hd] at tt;have last:∀ (t:List (List Int)) (d:Nat),Tab a b t->Ab Ai (Aa 2) (Ay Cp (bC (.int 1))) (W t d)=.ok (il (t.getD (a - 1) []),0,W t d):=λ t d ht=>Ki rfl rfl (XA (by rw [ht.1];exact QA (by rw [ht.1];(clear l hd2 hc hb hx;omega))));let r:=t.getD (a - 1) [];have hr:r.length=b:=pt.tab.row (by (clear l hd2 hc hb hx;omega));let w:Int:=xs.getD 37 0;let r1:List Int:=r.map λ x=>x - w % (x + 1);have r0:∀ x∈r,0<=x:=λ x hx=>by
    obtain ⟨y,hy,e⟩:=QV.mem_getD hx;rw [<- e];exact pt.lo (a - 1) y (by (clear e hy hr l hd2 hc hb;omega)) (by (clear e l hd2 hc hb ha;omega))
   have c1:Qa (W t d2)=.ok (il r1,om,W t d2):=by
    have k:=Jb (elt:=Ab Br (Aa 8) (Ab A0 (Ab Ai (Aa 1) (bC (.int 37))) (Ab Az (Aa 8) (bC (.int 1))))) r (last t d2 pt.tab) rfl (λ x hx=>by
     have:=r0 x hx
     exact FO rfl (CY (ix 37 (bC (.int 37)) _ (by decide) rfl rfl) (Eb rfl rfl) (by (clear hr l hd2 hc hb ha;omega)))) (by have:=sz;(clear l hd2 hc ha hx;omega))
    refine k.trans ?_;show Rz.ok (PV.lst _,om,_)=Rz.ok (PV.lst ((r.map λ x=>x - w % (x + 1)).map PV.int),om,_);rw [De];rfl
   have ij:∀ t:List (List Int),t.length=a->CB (t.map il).length (-1)=some (a - 1):=λ t h=>by
    unfold CB;rw [AD,h,if_neg (by decide),if_pos (by (clear h hr l hd2 hc hb hx;omega)),show (-1 + (a:Int)).toNat=a - 1 by (clear h hr l hd2 hc hb ha hx;omega)]
   have p1:DQ 2 (Ay Cp (bC (.int 1))) Qa (W t d2)=.nx (W (t.set (a - 1) r1) 1):=Yx c1 rfl rfl rfl (ij t l) hd2 rfl (by
    show [some (bx a b c,0),some (il xs,0),some (PV.lst ((t.map il).set (a - 1) (il r1)),1),s3,s4,s5,s6,s7]=_;rw [<- Pg]
    rfl)
   let t1:=t.set (a - 1) r1;have l1:t1.length=a:=by show (t.set (a - 1) r1).length=a;rw [Ei];exact l
   have hr1:r1.length=b:=by show (r.map _).length=b;rw [AD];exact hr
   have ht1:Tab a b t1:=⟨l1,λ s hs=>(Px hs).elim (pt.tab.2 s) λ e=>by rw [e];exact hr1⟩
   have g1:t1.getD (a - 1) []=r1:=MX (by (clear hr1 l1 hr hd2 hc hb hx;omega));let r2:List Int:=(AI b).map λ j=>GV r1 j;have c2:PZ (W t1 1)=.ok (il r2,om,W t1 1):=by
    have k:=Ja (fa:=Ad (Ab Ai (Aa 0) (bC (.int 1))) (Ac)) (ρ:=W t1 1) rfl (FI (by (clear hr1 l1 hr l hd2 hc hb ha hx;omega)) (by (clear hr1 l1 hr l hd2 hc ha hx;omega))) rfl (λ j hj=>by
     rw [Hg];let V:Ag:=W t1 1++[some (.int (j:Int),om)];have la:Ab Ai (Aa 2) (Ay Cp (bC (.int 1))) V=.ok (il r1,0,V):=by
      rw [<- g1];exact Ki rfl rfl (XA (by rw [l1];exact QA (by (clear hj hr1 hr l hd2 hc hb hx;omega))))
     have ad:Ab Az (Aa 8) (bC (.int 1)) V=.ok (.int ((j + 1:Nat):Int),om,V):=by
      rw [show ((j + 1:Nat):Int)=(j:Int) + 1 by (clear hj hr1 l1 hr l hd2 hc hb ha hx;omega)];exact Eb rfl rfl
     have sl:C3 (Ab Ai (Aa 2) (Ay Cp (bC (.int 1)))) none (some (Ab Az (Aa 8) (bC (.int 1)))) V=.ok (il (r1.getD 0 0::(r1.drop 1).take j),om,V):=by
      unfold C3;rw [la];dsimp only [Rz.bind,HR];rw [ad];show Rz.ok (PV.lst (BJ (r1.map PV.int) none (some ((j + 1:Nat):Int))),d1 (BJ (r1.map PV.int) none (some ((j + 1:Nat):Int))),V)=_;have e:BJ (r1.map PV.int) none (some ((j + 1:Nat):Int))=(r1.getD 0 0::(r1.drop 1).take j).map PV.int:=by
       unfold BJ;rw [HT.sIx_nat];show ((r1.map PV.int).drop 0).take (min (j + 1) (r1.map PV.int).length - 0)=_;rw [Tx,Ts,AD,M6 (by (clear l1 hr l hd2 hc hb ha hx;omega)),<- Tw,wK (by (clear hj l1 hr l hd2 hc ha hx;omega))]
      rw [e,Jg];rfl
     exact xN (Bf sl)) (by have:=sz;(clear hr1 l1 hr l hd2 hc ha hx;omega))
    refine k.trans ?_;show Rz.ok (PV.lst ((AI ((b:Int) - 0).toNat).map λ j=>PV.int (GV r1 j)),om,_)=Rz.ok (PV.lst (((AI b).map λ j=>GV r1 j).map PV.int),om,_);rw [De,show ((b:Int) - 0).toNat=b by (clear hr1 l1 hr l hd2 hc hb ha hx;omega)];rfl
   have p2:DQ 2 (Ay Cp (bC (.int 1))) PZ (W t1 1)=.nx (W (t1.set (a - 1) r2) 1):=Yx c2 rfl rfl rfl (ij t1 l1) (by decide) rfl (by
    show [some (bx a b c,0),some (il xs,0),some (PV.lst ((t1.map il).set (a - 1) (il r2)),1),s3,s4,s5,s6,s7]=_;rw [<- Pg]
    rfl)
   have et:t1.set (a - 1) r2=t.set (a - 1) r2:=by
    show (t.set (a - 1) r1).set (a - 1) r2=_;rw [YL]
   rw [et] at p2;have hr2:r2.length=b:=by show ((AI b).map _).length=b;rw [AD,EY]
   have rl:∀ y,y < b->r1.getD y 0<=g t (a - 1) y/\0<=r1.getD y 0:=λ y hy=>by
    have e:r1.getD y 0=r.getD y 0 - w % (r.getD y 0 + 1):=by
     show (r.map _).getD y 0=_;rw [Ba,CV,Ee (by (clear hr2 hr1 l1 l hd2 hc hb ha hx;omega))];rfl
    have h0:=r0 _ (NJ (i:=y) (by (clear e hr2 hr1 l1 l hd2 hc hb ha hx;omega)));have q0:=IF w (show r.getD y 0 + 1≠0 by (clear e hy hr2 hr1 l1 hr l hd2 hc hb ha hx;omega));have q1:=JG w (show 0 < r.getD y 0 + 1 by (clear q0 e hy hr2 hr1 l1 hr l hd2 hc hb ha hx;omega));rw [e]
    have:g t (a - 1) y=r.getD y 0:=rfl
    (clear h0 e hy hr2 hr1 l1 hr l hd2 hc hb ha hx;omega)
   have e2:∀ y,y < b->r2.getD y 0=GV r1 y:=λ y hy=>Xo hy;refine ⟨t.set (a - 1) r2,1,qb pt ha.1 hr2 (λ y hy=>?_) (λ y hy=>?_),by decide,(AQ tt).trans ((Ax p1).trans p2)⟩
   ·rw [hr2] at hy;rw [e2 _ hy,e2 y (by (clear hr2 hr1 l1 hr l hd2 hc hb ha hx;omega))];exact yH (by (clear hr2 l1 hr l hd2 hc hb ha hx;omega))
   ·rw [e2 y hy];refine ⟨yI (by (clear hy hr2 l1 hr l hd2 hc ha hx;omega)) λ x hx=>?_,JC (yJ (by (clear hr2 l1 hr l hd2 hc hb ha hx;omega))) (rl y hy).1⟩;obtain ⟨q,hq,e⟩:=QV.mem_getD hx;rw [<- e];exact (rl q (by (clear e hy hr2 l1 hr l hd2 hc hb ha;omega))).2
 obtain ⟨t',d,pt',hd,ef⟩:=fin;refine ⟨t',d,pt',hd,?_⟩;show Am false 2 6 Xc_pile _=_;rw [yV];exact Bw rfl ((Ax s1).trans ((Ax e6).trans ((Ax ef).trans rfl)))
theorem Yz (v:Int):∀ n:Nat,E1 n [.int v]=(Bo n v).map PV.int
 | 0=>rfl
 | n + 1=>by
  show [PV.int v]++E1 n [.int v]=_;rw [Yz v n];rfl
def z5 {f g:Fx}{ρ ρ1 ρ2:Ag}{v:Int}{n:Nat}{d e:Nat} (h1:f ρ=.ok (.lst [.int v],d,ρ1)) (h2:g ρ1=.ok (.int (n:Int),e,ρ2)) (hn:n<=1000):Ab Cv f g ρ=.ok (il (Bo n v),om,ρ2):=by
 refine C5 h1 h2 ?_;have z:=sz;unfold Cv;dsimp only;rw [if_pos ⟨by omega,by omega,by rw [IL,DD];omega⟩,DD,Yz,Jg];rfl
def Dc (t:List (List Int)) (i j:Nat) (v:Int):List (List Int):=t.set i ((t.getD i []).set j v)
def Kq {a b:Nat}{t:List (List Int)} (ht:Tab a b t) {i j:Nat}{v:Int} (hi:i < a):Tab a b (Dc t i j v):=by
 refine ⟨by unfold Dc;rw [Ei,ht.1],λ r hr=>?_⟩;rcases Px hr with h | h
 ·exact ht.2 r h
 ·rw [h,Ei,ht.row hi]
def GJ {a b:Nat}{t:List (List Int)} (ht:Tab a b t) {i j x y:Nat}{v:Int} (hi:i < a) (hj:j < b):g (Dc t i j v) x y=if x=i/\y=j then v else g t x y:=by
 show ((t.set i ((t.getD i []).set j v)).getD x []).getD y 0=_;by_cases h:x=i
 ·rw [h,MX (by rw [ht.1];exact hi)];by_cases h2:y=j
  ·rw [if_pos ⟨rfl,h2⟩,h2,MX (by rw [ht.row hi];exact hj)]
  ·rw [if_neg (λ z=>h2 z.2),Qm (λ e=>h2 e.symm)];rfl
 ·rw [if_neg (λ z=>h z.1),Qm (λ e=>h e.symm)];rfl
def Xf_copy_of:Fs:=(An (BN (Aa 0) 1 (asgN 1) Bn (Ak Ef (Ad (Aa 1) (Ac)))))
def f_copy_of:Fn:=Am false 1 0 Xf_copy_of
def wo {t:List (List Int)} (hl:t.length<=1000):f_copy_of [tb t]=.ok (tb t,om,.non):=Bw rfl (Ci (N5 (i:=0) (n:=1) (d:=0) (ρ:=[some (tb t,0)]) rfl rfl hl))
section
variable {a b c:Nat}{t:List (List Int)}
def WJ (p:Pile a b c t) (ha:1<=a/\a<=6) (hb:1<=b/\b<=6) (hc:1<=c/\c<=6):f_is_even [bx a b c,tb t]=.ok (.bl (decide ((a:Int)=b) && decide (CA t b=t)),om,.non):=by
 let R:Ag:=[some (bx a b c,0),some (tb t,0)]
 have v1:Bc (Al f_must_be_pile (Ad (Aa 0) (Ad (Aa 1) (Ac)))) R=.nx R:=CJ (AJ (xs:=[(bx a b c,0),(tb t,0)]) rfl (Hu p.tab (by omega) (by omega) (by omega) ((GN p.tab).mpr p)));have k1:=GP (neg:=false) (f:=Ab Ai (Aa 0) (bC (.int 0))) (g:=Ab Ai (Aa 0) (bC (.int 1))) (ρ:=R) (ρ1:=R) (ρ2:=R) (i:=(a:Int)) (j:=(b:Int)) (d:=om) (e:=om) rfl rfl;have k2:=RQ (neg:=false) (AJ (F:=f_mirrored_pile) (fa:=Ad (Aa 0) (Ad (Aa 1) Ac)) (ρ:=R) (xs:=[(bx a b c,0),(tb t,0)]) rfl (Wf p (by omega) (by omega) (by omega))) (h:=Aa 1) (u:=t) (e:=0) rfl;rw [IE] at k1 k2;exact Bw rfl ((Ax v1).trans (Ci (DF k1 (λ _=>k2) rfl)))
def Vc (p:Pile a b c t) (ha:1<=a/\a<=6) (hb:1<=b/\b<=6) (hc:1<=c/\c<=6):f_is_whole [bx a b c,tb t]=.ok (.bl (decide (RV t c=t)),om,.non):=by
 let R:Ag:=[some (bx a b c,0),some (tb t,0)]
 have k2:=RQ (neg:=false) (AJ (F:=f_rest_of) (fa:=Ad (Aa 0) (Ad (Aa 1) Ac)) (ρ:=R) (xs:=[(bx a b c,0),(tb t,0)]) rfl (kZ p (by omega) (by omega) (by omega))) (h:=Aa 1) (u:=t) (e:=0) rfl;rw [IE] at k2;exact Bw rfl (Ci k2)
def Y0 (p:Pile a b c t) (ha:1<=a/\a<=6) (hb:1<=b/\b<=6) (hc:1<=c/\c<=6):f_is_round [bx a b c,tb t]=.ok (.bl ((decide ((a:Int)=b) && decide ((b:Int)=c)) && decide (C9 t b c=t)),om,.non):=by
 let R:Ag:=[some (bx a b c,0),some (tb t,0)]
 have v1:Bc (Al f_must_be_pile (Ad (Aa 0) (Ad (Aa 1) (Ac)))) R=.nx R:=CJ (AJ (xs:=[(bx a b c,0),(tb t,0)]) rfl (Hu p.tab (by omega) (by omega) (by omega) ((GN p.tab).mpr p)));have k1:=NG (p:=λ i j=>decide (i=j)) (q:=λ i j=>decide (i=j)) (f:=Ab Ai (Aa 0) (bC (.int 0))) (g:=Ab Ai (Aa 0) (bC (.int 1))) (h:=Ab Ai (Aa 0) (bC (.int 2))) (ρ:=R) (i:=(a:Int)) (j:=(b:Int)) (k:=(c:Int)) (d:=om) (e:=om) (c:=om) rfl rfl rfl;have k2:=RQ (neg:=false) (AJ (F:=f_rolled_pile) (fa:=Ad (Aa 0) (Ad (Aa 1) Ac)) (ρ:=R) (xs:=[(bx a b c,0),(tb t,0)]) rfl (W7 p (by omega) (by omega) (by omega))) (h:=Aa 1) (u:=t) (e:=0) rfl;rw [IE] at k2;exact Bw rfl ((Ax v1).trans (Ci (DF k1 (λ _=>k2) rfl)))
end
def Bv:Nat->PV->Bool
 | 0,_=>false
 | n + 1,x=>match x with
  | .lst xs=>decide (xs.length<=1000) && xs.all (Bv n)
  | .tup xs=>decide (xs.length<=1000) && xs.all (Bv n)
  | .scr _=>false
  | .exn _=>false
  | .dct _=>false
  | .dko=>false
  | _=>true
def IY {n:Nat}{xs:List PV} (h:Bv (n + 1) (.lst xs)=true):xs.length<=1000/\∀ x∈xs,Bv n x=true:=by
 unfold Bv at h;dsimp only at h;rw [A9,ja7] at h;exact ⟨of_decide_eq_true h.1,h.2⟩
def L5 {n:Nat}{xs:List PV} (h:Bv (n + 1) (.tup xs)=true):xs.length<=1000/\∀ x∈xs,Bv n x=true:=by
 unfold Bv at h;dsimp only at h;rw [A9,ja7] at h;exact ⟨of_decide_eq_true h.1,h.2⟩
def Ho {n:Nat}{xs:List PV} (hl:xs.length<=1000) (h:∀ x∈xs,Bv n x=true):Bv (n + 1) (.lst xs)=true:=by
 unfold Bv;dsimp only;rw [A9,ja7];exact ⟨decide_eq_true hl,h⟩
def SR {n:Nat}{xs:List PV} (hl:xs.length<=1000) (h:∀ x∈xs,Bv n x=true):Bv (n + 1) (.tup xs)=true:=by
 unfold Bv;dsimp only;rw [A9,ja7];exact ⟨decide_eq_true hl,h⟩
theorem Nk {f:PV->PV->Bool}:∀ {xs:List PV},(∀ x∈xs,f x x=true)->Ew f xs xs=true
 | [],_=>rfl
 | x::xs,h=>by
  unfold Ew;rw [h x AR,Nk λ y hy=>h y (AO _ hy)];rfl
theorem SI:∀ (n:Nat) (x:PV),Bv n x=true->Fv n x x=true
 | 0,_,h=>by cases h
 | n + 1,x,h=>by
  cases x with
  | non=>rfl
  | bl b=>exact beq_self_eq_true b
  | int b=>exact beq_self_eq_true b
  | str b=>exact beq_self_eq_true b
  | emp=>rfl
  | dko=>cases h
  | lst xs=>exact Nk λ x hx=>SI n x ((IY h).2 x hx)
  | tup xs=>exact Nk λ x hx=>SI n x ((L5 h).2 x hx)
  | scr _=>cases h
  | exn _=>cases h
  | dct _=>cases h
theorem Q4:∀ (n:Nat) (x:PV),Bv n x=true->Bv (n + 1) x=true
 | 0,_,h=>by cases h
 | n + 1,x,h=>by
  cases x with
  | lst xs=>exact Ho (IY h).1 λ x hx=>Q4 n x ((IY h).2 x hx)
  | tup xs=>exact SR (L5 h).1 λ x hx=>Q4 n x ((L5 h).2 x hx)
  | scr _=>cases h
  | exn _=>cases h
  | dct _=>cases h
  | dko=>cases h
  | _=>rfl
theorem xR {n m:Nat}{x:PV} (h:Bv n x=true) (hl:n<=m):Bv m x=true:=by
 induction hl with
 | refl=>exact h
 | step _ ih=>exact Q4 _ _ ih
def jH:PV->Bool
 | .int _=>true
 | _=>false
theorem Vb {n:Nat} (x:PV) (h:Bv n x=true):f_is_whole_number [x]=.ok (.bl (jH x),om,.non):=by
 cases n with
 | zero=>cases h
 | succ n=>
  cases x with
  | non=>kernel_rfl
  | bl b=>cases b <;> kernel_rfl
  | int i=>kernel_rfl
  | str s=>kernel_rfl
  | lst xs=>kernel_rfl
  | tup xs=>kernel_rfl
  | emp=>kernel_rfl
  | dko=>cases h
  | scr _=>cases h
  | exn _=>cases h
  | dct _=>cases h
def VD:PV->Bool
 | .int i=>decide (1<=i)
 | _=>false
def JP:PV->Bool
 | .tup xs=>decide (xs.length=3) && xs.all VD
 | _=>false
theorem wz {n:Nat}{y x:PV} (h:Bv n x=true):(Cu (Al f_is_whole_number (Ad (Aa 1) (Ac))) (Ab (AS λ i j=>decide (j<=i)) (Aa 1) (bC (.int 1)))) ([some (y,dv y)]++[some (x,dv x)])=.ok (.bl (VD x),om,[some (y,dv y)]++[some (x,dv x)]):=by
 have w:=AJ (fa:=Ad (Aa 1) Ac) (ρ:=[some (y,dv y)]++[some (x,dv x)]) rfl (Vb x h);cases n with
 | zero=>cases h
 | succ n=>
  cases x with
  | int i=>exact DF w (λ _=>E7 rfl rfl) rfl
  | scr _=>cases h
  | exn _=>cases h
  | dct _=>cases h
  | _=>exact DF (b:=false) w (λ e=>nomatch e) rfl
def XJ {n:Nat}{f elt:Fx}{ρ ρ1:Ag}{d:Nat}{g:PV->Bool} (xs:List PV) (hf:f ρ=.ok (.lst xs,d,ρ1)) (hn:ρ1.length=n) (he:∀ x∈xs,elt (ρ1++[some (x,dv x)])=.ok (.bl (g x),om,ρ1++[some (x,dv x)])) (hl:xs.length<=1000):Ak Ep (Ad (BN f 1 (asgN n) Bn elt) Ac) ρ=.ok (.bl (xs.all g),om,ρ1):=by
 have z:=sz;exact all_ok (Jb xs (by rw [YK];exact hf) hn he (by omega))
def yh {n:Nat}{f elt:Fx}{ρ ρ1:Ag}{d:Nat}{g:PV->Bool} (xs:List PV) (hf:f ρ=.ok (.tup xs,d,ρ1)) (hn:ρ1.length=n) (he:∀ x∈xs,elt (ρ1++[some (x,dv x)])=.ok (.bl (g x),om,ρ1++[some (x,dv x)])) (hl:xs.length<=1000):Ak Ep (Ad (BN f 1 (asgN n) Bn elt) Ac) ρ=.ok (.bl (xs.all g),om,ρ1):=by
 have z:=sz;exact all_ok (XI xs (by rw [YK];exact hf) hn he (by omega))
theorem jx {n:Nat}{y:PV} (h:Bv n y=true):f_is_box [y]=.ok (.bl (JP y),om,.non):=by
 have z:=sz;refine Bw rfl (ρ':=[some (y,dv y)]) ?_;show Xf_is_box [some (y,dv y)]=_;cases n with
 | zero=>cases h
 | succ n=>
  cases y with
  | tup xs=>
   have t:bT (By (Ay Cq (Ay (Ft "tuple") (Aa 0))) (Ab (Ap true) (Ak Cm (Ad (Aa 0) (Ac))) (bC (.int 3)))) [some (.tup xs,0)]=.ok (!decide (xs.length=3),[some (.tup xs,0)]):=by
    refine A8 (d:=om) ((FW (a:=false) rfl (λ _=>GP rfl rfl) rfl).trans ?_);rw [KC,M5];have e:decide ((xs.length:Int)=3)=decide (xs.length=3):=decide_eq_decide.mpr (by omega);rw [e]
   dsimp only [JP];by_cases hc:xs.length=3
   ·rw [decide_eq_true hc] at t ⊢;refine (D3 t).trans (Ci ?_);exact yh xs rfl rfl (λ x hx=>wz ((L5 h).2 x hx)) (L5 h).1
   ·rw [decide_eq_false hc] at t ⊢;exact Eg ((AQ t).trans rfl)
  | scr _=>cases h
  | exn _=>cases h
  | dct _=>cases h
  | _=>exact Eg ((AQ (A8 (FW (a:=true) (b:=false) rfl (λ e=>nomatch e) rfl))).trans rfl)
def MJ (h:Int):PV->Bool
 | .int i=>decide (0<=i) && decide (i<=h)
 | _=>false
def CP (c h:Int):PV->Bool
 | .lst xs=>decide ((xs.length:Int)=c) && xs.all (MJ h)
 | _=>false
theorem xt {n:Nat}{y x:PV}{c h:Int} (hx:Bv n x=true):(Cu (Al f_is_whole_number (Ad (Aa 3) (Ac))) (Fi (λ i j=>decide (i<=j)) (λ i j=>decide (i<=j)) (bC (.int 0)) (Aa 3) (Aa 2))) ([some (y,dv y),some (.int c,om),some (.int h,om)]++[some (x,dv x)])=.ok (.bl (MJ h x),om,[some (y,dv y),some (.int c,om),some (.int h,om)]++[some (x,dv x)]):=by
 have w:=AJ (fa:=Ad (Aa 3) Ac) (ρ:=[some (y,dv y),some (.int c,om),some (.int h,om)]++[some (x,dv x)]) rfl (Vb x hx);cases n with
 | zero=>cases hx
 | succ n=>
  cases x with
  | int i=>exact DF (a:=true) w (λ _=>NG rfl rfl rfl) rfl
  | scr _=>cases hx
  | exn _=>cases hx
  | dct _=>cases hx
  | _=>exact DF (b:=false) w (λ e=>nomatch e) rfl
theorem ku {n:Nat}{y:PV}{c h:Int} (hy:Bv n y=true):f_is_row_of_heights [y,.int c,.int h]=.ok (.bl (CP c h y),om,.non):=by
 refine Bw rfl (ρ':=[some (y,dv y),some (.int c,om),some (.int h,om)]) ?_;show Xf_is_row_of_heights [some (y,dv y),some (.int c,om),some (.int h,om)]=_;cases n with
 | zero=>cases hy
 | succ n=>
  cases y with
  | lst xs=>
   have t:bT (By (Ay Cq (Ay (Ft "list") (Aa 0))) (Ab (Ap true) (Ak Cm (Ad (Aa 0) (Ac))) (Aa 1))) [some (.lst xs,0),some (.int c,om),some (.int h,om)]=.ok (!decide ((xs.length:Int)=c),[some (.lst xs,0),some (.int c,om),some (.int h,om)]):=by
    refine A8 (d:=om) ((FW (a:=false) rfl (λ _=>GP rfl rfl) rfl).trans ?_);rw [KC,M5]
   dsimp only [CP];by_cases hc:(xs.length:Int)=c
   ·rw [decide_eq_true hc] at t ⊢;refine (D3 t).trans (Ci ?_);exact XJ xs rfl rfl (λ x hx=>xt ((IY hy).2 x hx)) (IY hy).1
   ·rw [decide_eq_false hc] at t ⊢;exact Eg ((AQ t).trans rfl)
  | scr _=>cases hy
  | exn _=>cases hy
  | dct _=>cases hy
  | _=>exact Eg ((AQ (A8 (FW (a:=true) (b:=false) rfl (λ e=>nomatch e) rfl))).trans rfl)
def EV (a b c:Int):PV->Bool
 | .lst xs=>decide ((xs.length:Int)=a) && xs.all (CP b c)
 | _=>false
theorem yF {n:Nat}{x:PV}{a b c:Int} (hb:Dg a b c=true) (hx:Bv n x=true) (h:EV a b c x=false):f_is_pile [bx a b c,x]=.ok (.bl false,om,.non):=by
 let R:Ag:=[some (bx a b c,0),some (x,dv x),some (.int a,om),some (.int b,om),some (.int c,om)]
 refine Bw rfl (ρ':=R) ?_;show Xf_is_pile [some (bx a b c,0),some (x,dv x),none,none,none]=_;refine (Ax (CJ (AJ rfl (Lf hb)))).trans ?_;refine (Ax rfl).trans ?_;cases n with
 | zero=>cases hx
 | succ n=>
  cases x with
  | lst xs=>
   have t:bT (By (Ay Cq (Ay (Ft "list") (Aa 1))) (Ab (Ap true) (Ak Cm (Ad (Aa 1) (Ac))) (Aa 2))) R=.ok (!decide ((xs.length:Int)=a),R):=by
    refine A8 (d:=om) ((FW (a:=false) rfl (λ _=>GP rfl rfl) rfl).trans ?_);rw [KC,M5]
   dsimp only [EV] at h;by_cases hc:(xs.length:Int)=a
   ·rw [decide_eq_true hc] at t h;refine (D3 t).trans ?_;have e:=XJ (f:=Aa 1) (elt:=Al f_is_row_of_heights (Ad (Aa 5) (Ad (Aa 3) (Ad (Aa 4) (Ac))))) (ρ:=R) xs rfl rfl (λ y hy=>AJ rfl (ku ((IY hx).2 y hy))) (IY hx).1;rw [show xs.all (CP b c)=false from h] at e;exact Eg ((AQ (A8 (Ec e))).trans rfl)
   ·rw [decide_eq_false hc] at t;exact Eg ((AQ t).trans rfl)
  | scr _=>cases hx
  | exn _=>cases hx
  | dct _=>cases hx
  | _=>exact Eg ((AQ (A8 (FW (a:=true) (b:=false) rfl (λ e=>nomatch e) rfl))).trans rfl)
def qT {f j:Fx}{ρ ρ1:Ag}{xs:List PV}{n d e:Nat} (h1:f ρ=.ok (.lst xs,d,ρ1)) (h2:j ρ1=.ok (.int (n:Int),e,ρ1)) (hn:n<=xs.length):C3 f none (some j) ρ=.ok (.lst (xs.take n),d1 (xs.take n),ρ1):=by
 have ec:BJ xs none (some (n:Int))=xs.take n:=by
  unfold BJ;rw [HT.sIx_nat];show (xs.drop 0).take (min n xs.length - 0)=_;rw [Tx,Ts,M6 hn]
 unfold C3;rw [h1];dsimp only [Rz.bind,HR];rw [h2];dsimp only [Gf];rw [ec]
def kI {f j:Fx}{ρ ρ1:Ag}{xs:List PV}{n d e:Nat} (h1:f ρ=.ok (.lst xs,d,ρ1)) (h2:j ρ1=.ok (.int (n:Int),e,ρ1)) (hn:n < xs.length):C3 f (some (Ab Az j (bC (.int 1)))) none ρ=.ok (.lst (xs.drop (n + 1)),d1 (xs.drop (n + 1)),ρ1):=by
 have ec:BJ xs (some ((n:Int) + 1)) none=xs.drop (n + 1):=by
  unfold BJ;rw [show (n:Int) + 1=((n + 1:Nat):Int) by omega,HT.sIx_nat,HT.sIx_none,M6 (by omega)];exact Z4 (by rw [M8];exact Bj _)
 unfold C3;rw [h1];dsimp only [Rz.bind,HR];rw [Eb h2 rfl];dsimp only [Gf];rw [ec]
def kJ {f:Fx}{ρ ρ1:Ag}{xs:List PV}{d:Nat} (h1:f ρ=.ok (.lst xs,d,ρ1)):C3 f none (some (Ay Cp (bC (.int 1)))) ρ=.ok (.lst (xs.take (xs.length - 1)),d1 (xs.take (xs.length - 1)),ρ1):=by
 have ec:BJ xs none (some (-1))=xs.take (xs.length - 1):=by
  unfold BJ;have e:HT.sIx xs.length xs.length (some (-1))=xs.length - 1:=by
   show (if (-1:Int) < 0 then (-1 + (xs.length:Int)).toNat else min (-1:Int).toNat xs.length)=_;rw [if_pos (by decide)];omega
  rw [e];show (xs.drop 0).take (xs.length - 1 - 0)=_;rw [Tx,Ts]
 unfold C3;rw [h1];show Rz.ok (PV.lst (BJ xs none (some (-1))),d1 (BJ xs none (some (-1))),ρ1)=_;rw [ec]
def jW {f:Fx}{ρ ρ1:Ag}{x:PV}{d:Nat} (h:f ρ=.ok (x,d,ρ1)):∃ e,Ak AL (Ad f Ac) ρ=.ok (.lst [x],e,ρ1):=⟨_,BZ (Bf h) (by unfold AL;rw [if_pos (by have:=sz;show 1<=Aw;omega)];rfl)⟩
def IA (xs:List PV) (j:Nat) (x:PV):List PV:=(xs.take j++[x])++xs.drop (j + 1)
def k7 {xs:List PV}{j:Nat}{x y:PV} (h:y∈IA xs j x):y∈xs\/y=x:=by
 unfold IA at h;rw [jc6,jc6] at h;rcases h with (h | h) | h
 ·exact .inl (Pw h)
 ·exact .inr (jb1.mp h)
 ·exact .inl (TF h)
def Y2 (xs:List PV) (j:Nat) (x:PV):x∈IA xs j x:=BG _ (Bq _ (jb1.mpr rfl))
def k6 {xs:List PV}{j:Nat}{x:PV} (h:j < xs.length):(IA xs j x).length=xs.length:=by
 unfold IA;rw [BQ,BQ,FE,IL,M8];omega
def X5 {xs:List PV}{j:Nat}{x:PV} (h:j < xs.length):IA xs j x=xs.set j x:=by
 unfold IA;rw [List.set_eq_take_append_cons_drop,if_pos h,Pr,List.singleton_append]
def Y1 {c h:Int}{xs:List PV} (hl:(xs.length:Int)≠c):CP c h (.lst xs)=false:=by
 show (decide _ && _)=false;rw [decide_eq_false hl];rfl
def kr {c h:Int}{xs:List PV}{x:PV} (hx:x∈xs) (he:MJ h x=false):CP c h (.lst xs)=false:=by
 show (_ && List.all _ _)=false;rw [show xs.all (MJ h)=false from jq5.mpr ⟨x,hx,by rw [he];exact CF⟩,Pk]
def Q6 {a b c:Int}{xs:List PV} (hl:(xs.length:Int)≠a):EV a b c (.lst xs)=false:=by
 show (decide _ && _)=false;rw [decide_eq_false hl];rfl
def wb {a b c:Int}{xs:List PV}{x:PV} (hx:x∈xs) (he:CP b c x=false):EV a b c (.lst xs)=false:=by
 show (_ && List.all _ _)=false;rw [show xs.all (CP b c)=false from jq5.mpr ⟨x,hx,by rw [he];exact CF⟩,Pk]
def Hk (a b c:Nat) (x:PV):Prop:=f_is_pile [bx a b c,x]=.ok (.bl false,om,.non)/\Bv 10 x=true
def XB {a b c:Nat} (ha:1<=a) (hb:1<=b) (hc:1<=c):Dg a b c=true:=by
 unfold Dg;rw [decide_eq_true (show (1:Int)<=a by omega),decide_eq_true (show (1:Int)<=b by omega),decide_eq_true (show (1:Int)<=c by omega)];rfl
def Ny {a b c:Nat}{x:PV} (ha:1<=a) (hb:1<=b) (hc:1<=c) (hx:Bv 10 x=true) (h:EV a b c x=false):Hk a b c x:=⟨yF (XB ha hb hc) hx h,hx⟩
def RM {n:Nat}{r:List Int} (h:r.length<=1000):Bv (n + 2) (il r)=true:=Ho (by rw [AD];exact h) λ x hx=>by
 obtain ⟨i,_,rfl⟩:=jd3.mp hx;rfl
def Vz {n a b:Nat}{t:List (List Int)} (ht:Tab a b t) (ha:a<=1000) (hb:b<=1000):Bv (n + 3) (tb t)=true:=Ho (by rw [AD,ht.1];exact ha) λ x hx=>by
 obtain ⟨r,hr,rfl⟩:=jd3.mp hx;exact RM (by rw [ht.2 r hr];exact hb)
theorem jv {a b c:Nat}{u:List (List Int)} (hu:Tab a b u) (ha:1<=a/\a<=100) (hb:1<=b/\b<=100) (hc:1<=c) (h:¬ Pile a b c u):Hk a b c (tb u):=by
 refine ⟨?_,Vz hu (by omega) (by omega)⟩;rw [U5 hu ha hb (by omega)];cases e:K6 a b c u with
 | true=>exact absurd ((GN hu).mp e) h
 | false=>rfl
def xh {a b c i:Nat}{t:List (List Int)}{y:PV} (ht:Tab a b t) (ha:1<=a/\a<=100) (hb:1<=b/\b<=100) (hc:1<=c) (hi:i < a) (hy:Bv 9 y=true) (h:CP b c y=false):Hk a b c (.lst (IA (t.map il) i y)):=by
 have hl:(t.map il).length=a:=by rw [AD,ht.1]
 refine Ny ha.1 hb.1 hc (Ho (by rw [k6 (by rw [hl];exact hi),hl];omega) λ x hx=>?_) (wb (Y2 _ _ _) h);rcases k7 hx with hx | rfl
 ·obtain ⟨r,hr,rfl⟩:=jd3.mp hx;exact RM (by rw [ht.2 r hr];omega)
 ·exact hy
def Im {f g:Fs}{ρ:Ag}{c:Nat} (h:f ρ=.exc c):Af f g ρ=.exc c:=by unfold Af;rw [h]
def EL {F:Fn}{fa:Fa}{ρ ρ1:Ag}{xs:List (PV×Nat)}{c:Nat} (h1:fa ρ=.ok (xs,ρ1)) (h2:F (xs.map (·.1))=.exc c):Al F fa ρ=.exc c:=by
 unfold Al;rw [h1];dsimp only [Rz.bind];rw [h2]
def FJ {f:Fx}{ρ:Ag}{c:Nat} (h:f ρ=.exc c):Bc f ρ=.exc c:=by unfold Bc;rw [h]
def Fj {np k:Nat}{b:Fs}{xs:List PV}{c:Nat} (hl:xs.length=np) (h:b (xs.map (λ x=>some (x,dv x))++Bo k none)=.exc c):Am false np k b xs=.exc c:=by
 unfold Am;rw [if_pos hl];show (match b (xs.map (λ x=>some (x,dv x))++Bo k none) with | .rt y d ρ=>_ | .nx ρ=>_ | .exc c=>_ | _=>_)=_;rw [h]
def Ni {y:PV} (h:f_is_box [y]=.ok (.bl false,om,.non)):f_must_be_box [y]=.exc 1:=
 Fj rfl ((AQ (A8 (Ec (AJ (xs:=[(y,dv y)]) rfl h)))).trans rfl)
def ur {y x:PV} (h:f_is_box [y]=.ok (.bl false,om,.non)):f_is_pile [y,x]=.exc 1:=
 Fj rfl (Im (FJ (EL rfl (Ni h))))
def u9 {y x:PV} (h:f_is_box [y]=.ok (.bl false,om,.non)):f_must_be_pile [y,x]=.exc 1:=by
 refine Fj rfl ?_;show AV _ (DU 2) Ao [some (y,dv y),some (x,dv x)]=_;have e:bT (Ay Cq (Al f_is_pile (Ad (Aa 0) (Ad (Aa 1) (Ac))))) [some (y,dv y),some (x,dv x)]=.exc 1:=by
  unfold bT Ay;rw [EL rfl (ur h)];rfl
 unfold AV;rw [e]
def uA {y x:PV} (h:f_is_pile [y,x]=.ok (.bl false,om,.non)):f_must_be_pile [y,x]=.exc 2:=
 Fj rfl ((AQ (A8 (Ec (AJ (xs:=[(y,dv y),(x,dv x)]) rfl h)))).trans rfl)
end QV
namespace K50
open PySem PySem.Spec PyProof.Rows L2 QQ
theorem Lk {α:Type}{x:Option α}{d:α} (h:x.isSome=true):x=some (x.getD d):=by
 cases x with
 | none=>cases h
 | some a=>rfl
abbrev Hd (S:Sx) (t:Stmt) (b:Fs):Prop:=E8 (CQ 60 S) (EA t)=some b
abbrev qh:List Nat:=[0,1,2,3,4,5,6,7,8,9,10,11,53]
abbrev GT:=List (Str×(Bool×Nat×Fn))
abbrev mS (N:List Str) (t:Stmt) (m:List Nat) (G:GT):Sx:=⟨N,AY t,m,[],G,[],true,qh,[]⟩
def G0:GT:=[]
def S0:=mS ["thing"] t0 [] G0
abbrev b0:Fs:=QV.Xf_is_whole_number
abbrev F0:Fn:=QV.f_is_whole_number
def h0:Hd S0 t0 b0:=by kernel_rfl
def G1:GT:=[("is_whole_number",(false,1,F0))]
def S1:=mS ["thing"] t1 [] G1
abbrev b1:Fs:=QV.Xf_is_box
abbrev F1:Fn:=QV.f_is_box
def h1:Hd S1 t1 b1:=by kernel_rfl
def G2:GT:=[("is_box",(false,1,F1))]
def S2:=mS ["box"] t2 [] G2
abbrev b2:Fs:=QV.Xf_must_be_box
abbrev F2:Fn:=QV.f_must_be_box
def h2:Hd S2 t2 b2:=by kernel_rfl
def G3:GT:=[("is_whole_number",(false,1,F0))]
def S3:=mS ["thing","columns","height"] t3 [] G3
abbrev b3:Fs:=QV.Xf_is_row_of_heights
abbrev F3:Fn:=QV.f_is_row_of_heights
def h3:Hd S3 t3 b3:=by kernel_rfl
def G4:GT:=[]
def S4:=mS ["numbers"] t4 [] G4
abbrev b4:Fs:=QV.Xf_never_rises
abbrev F4:Fn:=QV.f_never_rises
def h4:Hd S4 t4 b4:=by kernel_rfl
def G5:GT:=[]
def S5:=mS ["table","j"] t5 [] G5
abbrev b5:Fs:=QV.Xf_column_of
abbrev F5:Fn:=QV.f_column_of
def h5:Hd S5 t5 b5:=by kernel_rfl
def G6:GT:=[("must_be_box",(false,1,F2)),("is_row_of_heights",(false,3,F3)),("never_rises",(false,1,F4)),("column_of",(false,2,F5))]
def S6:=mS ["box","thing","rows","columns","height"] t6 [] G6
abbrev b6:Fs:=QV.Xf_is_pile
abbrev F6:Fn:=QV.f_is_pile
def h6:Hd S6 t6 b6:=by kernel_rfl
def G7:GT:=[("is_pile",(false,2,F6))]
def S7:=mS ["box","pile"] t7 [] G7
abbrev b7:Fs:=QV.Xf_must_be_pile
abbrev F7:Fn:=QV.f_must_be_pile
def h7:Hd S7 t7 b7:=by kernel_rfl
def G8:GT:=[("column_of",(false,2,F5)),("must_be_pile",(false,2,F7))]
def S8:=mS ["box","pile"] t8 [] G8
abbrev b8:Fs:=QV.Xf_mirrored_pile
abbrev F8:Fn:=QV.f_mirrored_pile
def h8:Hd S8 t8 b8:=by kernel_rfl
def G9:GT:=[]
def S9:=mS ["numbers","level"] t9 [] G9
abbrev b9:Fs:=QV.Xf_how_many_above
abbrev F9:Fn:=QV.f_how_many_above
def h9:Hd S9 t9 b9:=by kernel_rfl
def dE:GT:=[("column_of",(false,2,F5)),("must_be_pile",(false,2,F7)),("how_many_above",(false,2,F9))]
def S10:=mS ["box","pile","rolled","j","column"] O7 [] dE
abbrev bu:Fs:=QV.Xf_rolled_pile
abbrev PY:Fn:=QV.f_rolled_pile
def h10:Hd S10 O7 bu:=by kernel_rfl
def dD:GT:=[("must_be_pile",(false,2,F7))]
def S11:=mS ["box","pile","rest","row"] O6 [] dD
abbrev br:Fs:=QV.Xf_rest_of
abbrev ZX:Fn:=QV.f_rest_of
def h11:Hd S11 O6 br:=by kernel_rfl
def dC:GT:=[]
def S12:=mS ["pile"] O5 [] dC
abbrev bq:Fs:=QV.Xf_copy_of
abbrev MV:Fn:=QV.f_copy_of
def h12:Hd S12 O5 bq:=by kernel_rfl
def dB:GT:=[]
def S13:=mS ["columns","height","rows","j","longer","row","most"] O4 [] dB
def ZQ:Fs:=(Af (Ah false 2 (Ak AL (Ad (Ak Bx (Ac)) (Ac))) [])
 (Af (CW BU (Ad (Aa 0) (Ac)) (asgN 3) (Af (Ah false 4 (Ak AL (Ac)) [])
 (Af (D0 (Aa 2) [2] (asgN 5) (Af (Ah false 6 (Bz (bT (Ab (AS λ i j=>decide (j < i)) (Aa 3) (bC (.int 0)))) (Ab Ai (Aa 5) (Ay Cp (bC (.int 1)))) (Aa 1)) [5,1])
 (Ct 4 (C4 BU (Ad (Ab Az (Aa 6) (bC (.int 1))) (Ac)) 1 (asgN 7) Bn (Ab Az (Aa 5) (Ak Bx (Ad (Aa 7) (Ac))))) [5])))
 (Ah false 2 (Aa 4) [4]))))
 (Dt 2)))
def MU:Fn:=Am false 2 5 ZQ
def h13:Hd S13 O4 ZQ:=by kernel_rfl
def dA:GT:=[]
def S14:=mS ["table","ahead"] O3 [] dA
def ZP:Fs:=(An (BN (Aa 0) 1 (asgN 2) (bT (Ak Ep (Ad (C4 BU (Ad (Ak Cm (Ad (Aa 2) (Ac))) (Ac)) 1 (asgN 3) Bn (Ab (AS λ i j=>decide (i<=j)) (Ab Ai (Aa 2) (Aa 3)) (Ab Ai (Aa 1) (Aa 3)))) (Ac)))) (Aa 2)))
def Lc:Fn:=Am false 2 0 ZP
def h14:Hd S14 O3 ZP:=by kernel_rfl
def dy:GT:=[]
def S15:=mS ["box","rows","columns","height","numbers","i","j"] O2 [] dy
def ZO:Fs:=(Af (Cc (Cf [1,2,3]) (Aa 0) [0])
 (Af (Ah false 4 (Ak AL (Ac)) [])
 (Af (CW Em (Ad (bC (.int 1)) (Ad (Ab Az (Aa 1) (bC (.int 1))) (Ac))) (asgN 5) (CW Em (Ad (bC (.int 1)) (Ad (Ab Az (Aa 2) (bC (.int 1))) (Ac))) (asgN 6) (Ct 4 (C4 Em (Ad (bC (.int 1)) (Ad (Ab Az (Aa 3) (bC (.int 1))) (Ac))) 1 (asgN 7) Bn (Ab Br (Ab Az (Ab Az (Aa 5) (Aa 6)) (Aa 7)) (bC (.int 1)))) [5,6])))
 (Dt 4))))
def Uo:Fn:=Am false 1 6 ZO
def h15:Hd S15 O2 ZO:=by kernel_rfl
def dw:GT:=[("must_be_box",(false,1,F2)),("numbers_above",(false,1,Uo))]
def S16:=mS ["box","top","bottom","number"] O1 [] dw
def ZN:Fs:=(Af (Bc (Al F2 (Ad (Aa 0) (Ac))))
 (Af (Ah false 1 (bC (.int 1)) [])
 (Af (Ah false 2 (bC (.int 1)) [])
 (Af (D0 (Al Uo (Ad (Aa 0) (Ac))) [0] (asgN 3) (Af (Ah false 1 (Ab Cv (Aa 1) (Aa 3)) [1,3])
 (Ah false 2 (Ab Cv (Aa 2) (Ab Br (Aa 3) (bC (.int 1)))) [2,3])))
 (An (Ab Fl (Aa 1) (Aa 2)))))))
def Um:Fn:=Am false 1 3 ZN
def gp:Hd S16 O1 ZN:=by kernel_rfl
def du:GT:=[("must_be_pile",(false,2,F7)),("mirrored_pile",(false,2,F8))]
def S17:=mS ["box","pile"] O0 [] du
abbrev bp:Fs:=QV.Xf_is_even
abbrev E6:Fn:=QV.f_is_even
def gn:Hd S17 O0 bp:=by kernel_rfl
def dt:GT:=[("rest_of",(false,2,ZX))]
def S18:=mS ["box","pile"] Oz [] dt
abbrev bo:Fs:=QV.Xf_is_whole
abbrev EJ:Fn:=QV.f_is_whole
def gk:Hd S18 Oz bo:=by kernel_rfl
def dh:GT:=[("must_be_pile",(false,2,F7)),("rolled_pile",(false,2,PY))]
def S19:=mS ["box","pile"] Oy [] dh
abbrev bh:Fs:=QV.Xf_is_round
abbrev Fg:Fn:=QV.f_is_round
def gj:Hd S19 Oy bh:=by kernel_rfl
def dg:GT:=[("must_be_box",(false,1,F2)),("count_by_product",(false,1,Um))]
def S20:=mS ["box","rows","columns","height"] Ox [] dg
def ZM:Fs:=(Af (Bc (Al F2 (Ad (Aa 0) (Ac))))
 (Af (Cc (Cf [1,2,3]) (Aa 0) [0])
 (AV (bT (By (Ab (AS λ i j=>decide (j<=i)) (Ab Cv (Ab Cv (Aa 1) (Aa 2)) (Aa 3)) (bC (.int 3000))) (Ab (AS λ i j=>decide (j < i)) (Al Um (Ad (Aa 0) (Ac))) (bC (.int 3000))))) (DU 8) Ao)))
def Ea:Fn:=Am false 1 3 ZM
def gi:Hd S20 Ox ZM:=by kernel_rfl
def de:GT:=[("rows_behind",(false,2,Lc))]
def S21:=mS ["pile","lines","box","ahead"] Ow [] de
def ZL:Fs:=(Af (Ah false 3 (Bz (bT (Ab (AS λ i j=>decide (j < i)) (Ak Cm (Ad (Aa 0) (Ac))) (bC (.int 0)))) (Ab Ai (Aa 0) (Ay Cp (bC (.int 1)))) (Ab Cv (Ak AL (Ad (Ab Ai (Aa 2) (bC (.int 2))) (Ac))) (Ab Ai (Aa 2) (bC (.int 1))))) [0,2,2])
 (An (BN (Al Lc (Ad (Aa 1) (Ad (Aa 3) (Ac)))) 1 (asgN 4) Bn (Ab Az (Aa 0) (Ak AL (Ad (Ak Ef (Ad (Aa 4) (Ac))) (Ac)))))))
def IW:Fn:=Am false 3 1 ZL
def gh:Hd S21 Ow ZL:=by kernel_rfl
def dc:GT:=[("rows_of_heights",(false,2,MU)),("longer_by_a_row",(false,3,IW))]
def S22:=mS ["box","lines","piles","i","longer","pile"] Ov [] dc
def ZK:Fs:=(Af (Ah false 1 (Al MU (Ad (Ab Ai (Aa 0) (bC (.int 1))) (Ad (Ab Ai (Aa 0) (bC (.int 2))) (Ac)))) [0,0])
 (Af (Ah false 2 (Ak AL (Ad (Ak AL (Ac)) (Ac))) [])
 (Af (CW BU (Ad (Ab Ai (Aa 0) (bC (.int 0))) (Ac)) (asgN 3) (Af (Ah false 4 (Ak AL (Ac)) [])
 (Af (D0 (Aa 2) [2] (asgN 5) (Ct 4 (Al IW (Ad (Aa 5) (Ad (Aa 1) (Ad (Aa 0) (Ac))))) [5,1,0]))
 (Ah false 2 (Aa 4) [4]))))
 (Dt 2))))
def GF:Fn:=Am false 1 5 ZK
def gf:Hd S22 Ov ZK:=by kernel_rfl
def bZ:GT:=[("is_even",(false,2,E6)),("must_have_few_piles",(false,1,Ea)),("all_piles_of",(false,1,GF))]
def S23:=mS ["box"] Ou [] bZ
def ZJ:Fs:=(Af (Bc (Al Ea (Ad (Aa 0) (Ac))))
 (Af (AV (bT (Ab (Ap true) (Ab Ai (Aa 0) (bC (.int 0))) (Ab Ai (Aa 0) (bC (.int 1))))) (An (bC (.int 0))) Ao)
 (An (Ak Cm (Ad (BN (Al GF (Ad (Aa 0) (Ac))) 1 (asgN 1) (bT (Al E6 (Ad (Aa 0) (Ad (Aa 1) (Ac))))) (Aa 1)) (Ac))))))
def IV:Fn:=Am false 1 0 ZJ
def uZ:Hd S23 Ou ZJ:=by kernel_rfl
def bY:GT:=[("is_whole",(false,2,EJ)),("must_have_few_piles",(false,1,Ea)),("all_piles_of",(false,1,GF))]
def S24:=mS ["box","turned"] Ot [] bY
def ZI:Fs:=(Af (Bc (Al Ea (Ad (Aa 0) (Ac))))
 (Af (Ah false 1 (Ak GU (Ad (Ak Hq (Ad (Aa 0) (Ac))) (Ac))) [0])
 (An (Ak Cm (Ad (BN (Al GF (Ad (Aa 1) (Ac))) 1 (asgN 2) (bT (Al EJ (Ad (Aa 1) (Ad (Aa 2) (Ac))))) (Aa 2)) (Ac))))))
def JT:Fn:=Am false 1 1 ZI
def uY:Hd S24 Ot ZI:=by kernel_rfl
def bX:GT:=[("is_round",(false,2,Fg)),("must_have_few_piles",(false,1,Ea)),("all_piles_of",(false,1,GF))]
def S25:=mS ["box"] Oq [] bX
def ZH:Fs:=(Af (Bc (Al Ea (Ad (Aa 0) (Ac))))
 (Af (AV (bT (Ay Cq (Fi (λ i j=>decide (i=j)) (λ i j=>decide (i=j)) (Ab Ai (Aa 0) (bC (.int 0))) (Ab Ai (Aa 0) (bC (.int 1))) (Ab Ai (Aa 0) (bC (.int 2)))))) (An (bC (.int 0))) Ao)
 (An (Ak Cm (Ad (BN (Al GF (Ad (Aa 0) (Ac))) 1 (asgN 1) (bT (Al Fg (Ad (Aa 0) (Ad (Aa 1) (Ac))))) (Aa 1)) (Ac))))))
def JS:Fn:=Am false 1 0 ZH
def uX:Hd S25 Oq ZH:=by kernel_rfl
def bW:GT:=[("mirrored_pile",(false,2,F8))]
def S26:=mS ["form","box","pile","rows","columns","height"] Oo [] bW
def ZG:Fs:=(Af (Cc (Cf [1,2]) (Aa 0) [0])
 (Af (Cc (Cf [3,4,5]) (Aa 1) [1])
 (An (Ak Bx (Ad (Ak Bx (Ad (Aa 4) (Ad (Aa 3) (Ad (Aa 5) (Ac))))) (Ad (Al F8 (Ad (Aa 1) (Ad (Aa 2) (Ac)))) (Ac)))))))
def Lb:Fn:=Am false 1 5 ZG
def uW:Hd S26 Oo ZG:=by kernel_rfl
def bU:GT:=[("rolled_pile",(false,2,PY))]
def S27:=mS ["form","box","pile","rows","columns","height"] Om [] bU
def ZF:Fs:=(Af (Cc (Cf [1,2]) (Aa 0) [0])
 (Af (Cc (Cf [3,4,5]) (Aa 1) [1])
 (An (Ak Bx (Ad (Ak Bx (Ad (Aa 4) (Ad (Aa 5) (Ad (Aa 3) (Ac))))) (Ad (Al PY (Ad (Aa 1) (Ad (Aa 2) (Ac)))) (Ac)))))))
def IU:Fn:=Am false 1 5 ZF
def uV:Hd S27 Om ZF:=by kernel_rfl
def bS:GT:=[("must_be_pile",(false,2,F7)),("copy_of",(false,1,MV)),("mirrored_form",(false,1,Lb)),("rolled_form",(false,1,IU))]
def S28:=mS ["box","pile","form","forms","first","once","other"] Ol [] bS
def PQ:Fs:=(Af (Bc (Al F7 (Ad (Aa 0) (Ad (Aa 1) (Ac)))))
 (Af (Ah false 2 (Ak Bx (Ad (Aa 0) (Ad (Al MV (Ad (Aa 1) (Ac))) (Ac)))) [0,1])
 (Af (Ah false 3 (Ak AL (Ac)) [])
 (Af (D0 (Ak AL (Ad (Aa 2) (Ad (Al Lb (Ad (Aa 2) (Ac))) (Ac)))) [2,2] (asgN 4) (Af (Ah false 5 (Al IU (Ad (Aa 4) (Ac))) [4])
 (D0 (Ak AL (Ad (Aa 4) (Ad (Aa 5) (Ad (Al IU (Ad (Aa 5) (Ac))) (Ac))))) [4,5,5] (asgN 6) (AV (bT (Ab (Dn true) (Aa 6) (Aa 3))) (BE 3 (Aa 6) [6]) Ao))))
 (An (Ak Hq (Ad (Aa 3) (Ac))))))))
def EI:Fn:=Am false 2 5 PQ
def uU:Hd S28 Ol PQ:=by kernel_rfl
def bR:GT:=[("must_be_box",(false,1,F2)),("must_be_pile",(false,2,F7)),("forms_of",(false,2,EI))]
def S29:=mS ["box","pile","other_box","other"] Oj [] bR
def KW:Fs:=(Af (Bc (Al F2 (Ad (Aa 0) (Ac))))
 (Af (Bc (Al F2 (Ad (Aa 2) (Ac))))
 (Af (Bc (Al F7 (Ad (Aa 0) (Ad (Aa 1) (Ac)))))
 (Af (Bc (Al F7 (Ad (Aa 2) (Ad (Aa 3) (Ac)))))
 (An (Ab (Dn false) (Ak Bx (Ad (Aa 2) (Ad (Aa 3) (Ac)))) (Al EI (Ad (Aa 0) (Ad (Aa 1) (Ac))))))))))
def Ic:Fn:=Am false 4 0 KW
def uT:Hd S29 Oj KW:=by kernel_rfl
def bQ:GT:=[]
def S30:=mS ["script","k"] Oi [] bQ
abbrev bg:Fs:=QV.Xb_cell_at
abbrev Ul:Fn:=QV.b_cell_at
def uS:Hd S30 Oi bg:=by kernel_rfl
def bP:GT:=[]
def S31:=mS ["cell","many","found","rest","stir","k","again"] Oh [] bP
abbrev bc:Fs:=QV.Xc_numbers
abbrev Uk:Fn:=QV.c_numbers
def uR:Hd S31 Oh bc:=by kernel_rfl
def bO:GT:=[]
def S32:=mS ["xs","box"] Og [] bO
abbrev bb:Fs:=QV.Xc_box
abbrev PX:Fn:=QV.c_box
def uQ:Hd S32 Og bb:=by kernel_rfl
def bN:GT:=[]
def S33:=mS ["box","xs","pile","i","row","j","top","number"] Of [] bN
abbrev ba:Fs:=QV.Xc_pile
abbrev PU:Fn:=QV.c_pile
def uP:Hd S33 Of ba:=by kernel_rfl
def bM:GT:=[]
def S34:=mS ["box","pile","xs","i","j","found","way"] LV [] bM
def PN:Fs:=(E8 (CQ 60 S34) (EA LV)).getD Ao
def GD:Fn:=Am false 3 4 PN
def uO:Hd S34 LV PN:=Lk (by decide +kernel)
def bL:GT:=[]
def S35:=mS ["number","some"] LU [] bL
def PM:Fs:=(E8 (CQ 60 S35) (EA LU)).getD Ao
def JR:Fn:=Am false 1 1 PM
def uN:Hd S35 LU PM:=Lk (by decide +kernel)
def bK:GT:=[("is_even",(false,2,E6)),("is_whole",(false,2,EJ)),("is_round",(false,2,Fg)),("how_many_even",(false,1,IV)),("how_many_whole",(false,1,JT)),("how_many_round",(false,1,JS)),("forms_of",(false,2,EI)),("alike_in_form",(false,4,Ic))]
def S36:=mS ["which","box","pile","other_box","other"] LS [] bK
def PL:Fs:=(E8 (CQ 60 S36) (EA LS)).getD Ao
def Hj:Fn:=Am false 5 0 PL
def uM:Hd S36 LS PL:=Lk (by decide +kernel)
def bJ:GT:=[("_law_ask",(false,5,Hj))]
def S37:=mS ["which","box","pile","other_box","other","caught","e","kinds"] LR [] bJ
def PJ:Fs:=(E8 (CQ 60 S37) (EA LR)).getD Ao
def IT:Fn:=Am false 5 3 PJ
def uL:Hd S37 LR PJ:=Lk (by decide +kernel)
def bI:GT:=[]
def S38:=mS ["box","top","bottom","i","j"] Oe [] bI
def ZE:Fs:=(Af (Ah false 1 (bC (.int 1)) [])
 (Af (Ah false 2 (bC (.int 1)) [])
 (Af (CW Em (Ad (bC (.int 1)) (Ad (Ab Az (Ab Ai (Aa 0) (bC (.int 0))) (bC (.int 1))) (Ac))) (asgN 3) (CW Em (Ad (bC (.int 1)) (Ad (Ab Az (Ab Ai (Aa 0) (bC (.int 1))) (bC (.int 1))) (Ac))) (asgN 4) (Af (Ah false 1 (Ab Cv (Aa 1) (Ab Br (Ab Az (Ab Az (Aa 3) (Aa 4)) (Ab Ai (Aa 0) (bC (.int 2)))) (bC (.int 1)))) [1,3,4,0])
 (Ah false 2 (Ab Cv (Aa 2) (Ab Br (Ab Az (Aa 3) (Aa 4)) (bC (.int 1)))) [2,3,4]))))
 (An (Ab Fl (Aa 1) (Aa 2))))))
def La:Fn:=Am false 1 4 ZE
def uK:Hd S38 Oe ZE:=by kernel_rfl
def bH:GT:=[("_law_count",(false,1,La))]
def S39:=mS ["which","good","box"] Od [] bH
def KU:Fs:=(Af (AV (bT (By (Ay Cq (Ab Ai (Aa 1) (bC (.int 0)))) (Cu (Ab (Ap false) (Aa 0) (bC (.int 4))) (Ay Cq (Ab Ai (Aa 1) (bC (.int 2))))))) (An (bC (.str "NoBox"))) Ao)
 (Af (AV (bT (By (Cu (Ab (AS λ i j=>decide (i < j)) (Aa 0) (bC (.int 5))) (Ay Cq (Ab Ai (Aa 1) (bC (.int 1))))) (Cu (Ab (Ap false) (Aa 0) (bC (.int 4))) (Ay Cq (Ab Ai (Aa 1) (bC (.int 3))))))) (An (bC (.str "NoPile"))) Ao)
 (Af (AV (bT (Cu (Ab (AS λ i j=>decide (j < i)) (Aa 0) (bC (.int 4))) (Ab (AS λ i j=>decide (j < i)) (Al La (Ad (Aa 2) (Ac))) (bC (.int 3000))))) (An (bC (.str "TooMany"))) Ao)
 (An (bC (.str "told"))))))
def PR:Fn:=Am false 3 0 KU
def uJ:Hd S39 Od KU:=by kernel_rfl
def bG:GT:=[("_law_cell_at",(false,2,Ul)),("_law_numbers",(false,2,Uk)),("_law_box",(false,1,PX)),("_law_pile",(false,2,PU)),("_law_spoilt",(false,3,GD)),("_law_no_box",(false,1,JR)),("_law_asked",(false,5,IT)),("_law_due",(false,3,PR))]
def S40:=mS ["script","k","xs","which","box","other_box","pile","other","good","kept","due"] K1 [] bG
def PH:Fs:=(E8 (CQ 60 S40) (EA K1)).getD Ao
def F40:Fn:=Am false 1 10 PH
def uI:Hd S40 K1 PH:=Lk (by decide +kernel)
end K50
namespace QV
open PySem PySem.Spec PyProof.Rows L2 QQ
structure HV (L:List (Option PV)) (O:List Nat) (ρ:Ag):Prop where
 len:ρ.length=L.length
 get:∀ (j:Nat) (x:PV),L[j]?=some (some x)->∃ d,ρ[j]?=some (some (x,d))
 own:∀ j∈O,∃ x d,ρ[j]?=some (some (x,d))/\d≠0
section
variable {L L':List (Option PV)}{O O':List Nat}{ρ:Ag}
theorem HV.of (ρ:Ag):HV (ρ.map λ s=>s.map (·.1)) [] ρ:=by
 refine ⟨by rw [AD],λ j x h=>?_,λ _ h=>nomatch h⟩;rw [CV] at h;cases e:ρ[j]? with
 | none=>rw [e] at h;cases h
 | some s=>
  rw [e] at h;cases s with
  | none=>cases h
  | some p=>obtain ⟨y,d⟩:=p;cases h;exact ⟨d,rfl⟩
def HV.var {j:Nat}{x:PV} (h:HV L O ρ) (e:L[j]?=some (some x)):Aa j ρ=.ok (x,dv x,ρ):=by
 obtain ⟨d,e⟩:=h.get j x e;unfold Aa;rw [e]
def Wk:List (Option PV)->List (Option PV)->Prop
 | [],[]=>True
 | none::a,_::b=>Wk a b
 | some x::a,some y::b=>x=y/\Wk a b
 | _,_=>False
theorem Wk.get:∀ {a b:List (Option PV)},Wk a b->a.length=b.length/\∀ (j:Nat) (x:PV),a[j]?=some (some x)->b[j]?=some (some x)
 | [],[],_=>⟨rfl,λ j x h=>by cases h⟩
 | none::a,y::b,h=>by
  obtain ⟨h1,h2⟩:=Wk.get (a:=a) (b:=b) (by cases y <;> exact h);refine ⟨by rw [Bl,Bl,h1],λ j x e=>?_⟩;cases j with
  | zero=>cases e
  | succ j=>exact h2 j x e
 | some x::a,some y::b,h=>by
  obtain ⟨h0,h⟩:x=y/\Wk a b:=h;obtain ⟨h1,h2⟩:=Wk.get h;refine ⟨by rw [Bl,Bl,h1],λ j z e=>?_⟩;cases j with
  | zero=>rw [<- h0];exact e
  | succ j=>exact h2 j z e
 | some x::a,none::b,h=>h.elim
 | [],_::_,h=>h.elim
 | some _::_,[],h=>h.elim
 | none::_,[],h=>h.elim
def HV.weak (h:HV L O ρ) (w:Wk L' L) (ho:∀ j∈O',j∈O):HV L' O' ρ:=⟨h.len.trans w.get.1.symm,λ j x e=>h.get j x (w.get.2 j x e),λ j hj=>h.own j (ho j hj)⟩
def Ym {d j e:Nat}{vs:List Nat}{x:PV} (h:ρ[j]?=some (some (x,e))):∃ e',(Bi d vs ρ)[j]?=some (some (x,e')):=by
 unfold Bi;split
 ·exact ⟨e,h⟩
 ·rw [Jc,h];dsimp only [YH];split
  ·exact ⟨0,rfl⟩
  ·exact ⟨e,rfl⟩
def WD {d:Nat}{vs:List Nat}{ρ:Ag}:(Bi d vs ρ).length=ρ.length:=by
 unfold Bi;split
 ·rfl
 ·exact Lh vs ρ 0
def HV.cool {d:Nat}{vs:List Nat} (h:HV L O ρ):HV L [] (Bi d vs ρ):=⟨by rw [WD];exact h.len,λ j x e=>by
 obtain ⟨d',e⟩:=h.get j x e;exact Ym e,λ _ h=>nomatch h⟩
def HV.coolO {vs:List Nat} (h:HV L O ρ):HV L O (Bi om vs ρ):=by
 unfold Bi;rw [if_pos rfl];exact h
def HV.put {i d:Nat}{x:PV} (h:HV L O ρ) (hi:i < L.length) (ho:i∉O\/d≠0):HV (L.set i (some x)) O (ρ.set i (some (x,d))):=by
 have hl:=h.len;refine ⟨by rw [Ei,Ei,hl],λ j y e=>?_,λ j hj=>?_⟩
 ·by_cases hj:i=j
  ·subst hj;rw [Di hi] at e;cases e;exact ⟨d,Di (by omega)⟩
  ·rw [Cw hj] at e;rw [Cw hj];exact h.get j y e
 ·by_cases hij:i=j
  ·subst hij;rcases ho with ho | ho
   ·exact absurd hj ho
   ·exact ⟨x,d,Di (by omega),ho⟩
  ·rw [Cw hij];exact h.own j hj
def HV.putO {i d:Nat}{x:PV} (h:HV L O ρ) (hi:i < L.length) (hd:d≠0):HV (L.set i (some x)) (i::O) (ρ.set i (some (x,d))):=by
 have h1:=h.put (x:=x) (d:=d) hi (.inr hd);refine ⟨h1.len,h1.get,λ j hj=>?_⟩;rcases jb2.mp hj with rfl | hj
 ·exact ⟨x,d,Di (by rw [h.len];exact hi),hd⟩
 ·exact h1.own j hj
def HV.set {i d:Nat}{f:Fx}{vs:List Nat}{x:PV} (h:HV L O ρ) (hf:f ρ=.ok (x,d,ρ)) (hi:i < L.length):∃ ρ',Ah false i f vs ρ=.nx ρ'/\HV (L.set i (some x)) [] ρ':=⟨_,setF hf (by rw [h.len];exact hi) rfl,(h.cool).put hi (.inl (λ h=>nomatch h))⟩
def HV.setO {i:Nat}{f:Fx}{vs:List Nat}{x:PV} (h:HV L O ρ) (hf:f ρ=.ok (x,om,ρ)) (hi:i < L.length):∃ ρ',Ah false i f vs ρ=.nx ρ'/\HV (L.set i (some x)) O ρ':=⟨_,setF hf (by rw [h.len];exact hi) rfl,(h.coolO).put hi (.inr (by decide))⟩
def HV.setN {i:Nat}{f:Fx}{vs:List Nat}{x:PV} (h:HV L O ρ) (hf:f ρ=.ok (x,om,ρ)) (hi:i < L.length):∃ ρ',Ah false i f vs ρ=.nx ρ'/\HV (L.set i (some x)) (i::O) ρ':=⟨_,setF hf (by rw [h.len];exact hi) rfl,(h.coolO).putO hi (by decide)⟩
def HV.asgN {i:Nat} (x:PV) (h:HV L O ρ) (hi:i < L.length) (ho:i∉O):∃ ρ',asgN i x ρ=some ρ'/\HV (L.set i (some x)) O ρ':=by
 refine ⟨_,?_,h.put (x:=x) (d:=dv x) hi (.inl ho)⟩;unfold QQ.asgN;rw [if_pos (by rw [h.len];exact hi)]
theorem WU {asg:PV->Ag->Option Ag}{body:Fs}:∀ (els:List PV) (I:Nat->Ag->Prop) (ρ:Ag),I 0 ρ->(∀ j x ρ,els[j]?=some x->I j ρ->∃ ρ1 ρ2,asg x ρ=some ρ1/\body ρ1=.nx ρ2/\I (j + 1) ρ2)->∃ ρ',Cg asg body els ρ=.nx ρ'/\I els.length ρ'
 | [],I,ρ,h0,_=>⟨ρ,rfl,h0⟩
 | x::els,I,ρ,h0,hs=>by
  obtain ⟨ρ1,ρ2,e1,e2,h2⟩:=hs 0 x ρ rfl h0;obtain ⟨ρ',e,h⟩:=WU els (λ j=>I (j + 1)) ρ2 h2 λ j y ρ hj=>hs (j + 1) y ρ hj;exact ⟨ρ',by rw [Cg,e1];dsimp only;rw [e2];exact e,h⟩
def HV.coolK {d:Nat}{vs:List Nat} (h:HV L O ρ) (hv:∀ j∈O,vs.contains j=false):HV L O (Bi d vs ρ):=⟨by rw [WD];exact h.len,λ j x e=>by
 obtain ⟨d',e⟩:=h.get j x e;exact Ym e,λ j hj=>by
 obtain ⟨x,d',e,hd⟩:=h.own j hj;refine ⟨x,d',?_,hd⟩;unfold Bi;split
 ·exact e
 ·rw [Jc,JD,hv j hj,e];rfl⟩
def HV.setK {i d:Nat}{f:Fx}{vs:List Nat}{x:PV} (h:HV L O ρ) (hf:f ρ=.ok (x,d,ρ)) (hi:i < L.length) (hv:∀ j∈O,vs.contains j=false) (ho:i∉O):∃ ρ',Ah false i f vs ρ=.nx ρ'/\HV (L.set i (some x)) O ρ':=⟨_,setF hf (by rw [h.len];exact hi) rfl,(h.coolK hv).put hi (.inl ho)⟩
def Gv (s:Fs) (ρ:Ag) (y:PV):Prop:=∃ d ρ',s ρ=.rt y d ρ'
def Gv.nx {s r:Fs}{ρ1:Ag}{y:PV} (e:s ρ=.nx ρ1) (h:Gv r ρ1 y):Gv (Af s r) ρ y:=by
 obtain ⟨d,ρ',h⟩:=h;exact ⟨d,ρ',(Ax e).trans h⟩
def Gv.ex {s r:Fs}{P:Ag->Prop}{y:PV} (e:∃ ρ1,s ρ=.nx ρ1/\P ρ1) (h:∀ ρ1,P ρ1->Gv r ρ1 y):Gv (Af s r) ρ y:=by
 obtain ⟨ρ1,e,p⟩:=e;exact Gv.nx e (h ρ1 p)
def Gv.ret {f:Fx}{ρ1:Ag}{d:Nat}{y:PV} (h:f ρ=.ok (y,d,ρ1)):Gv (An f) ρ y:=⟨_,_,Ci h⟩
def Gv.fn {np k:Nat}{b:Fs}{xs:List PV}{y:PV} (hl:xs.length=np) (h:Gv b (xs.map (λ x=>some (x,dv x))++Bo k none) y):∃ d z,Am false np k b xs=.ok (y,d,z):=by
 obtain ⟨d,ρ',h⟩:=h;exact ⟨_,_,Bw hl h⟩
def Nx (s:Fs) (ρ:Ag) (P:Ag->Prop):Prop:=∃ ρ',s ρ=.nx ρ'/\P ρ'
section
variable {P Q:Ag->Prop}{s r:Fs}
def Nx.seq (h:Nx s ρ P) (k:∀ ρ',P ρ'->Nx r ρ' Q):Nx (Af s r) ρ Q:=by
 obtain ⟨ρ1,e,p⟩:=h;obtain ⟨ρ2,e2,q⟩:=k ρ1 p;exact ⟨ρ2,(Ax e).trans e2,q⟩
def Nx.mono (h:Nx s ρ P) (k:∀ ρ',P ρ'->Q ρ'):Nx s ρ Q:=by
 obtain ⟨ρ1,e,p⟩:=h;exact ⟨ρ1,e,k ρ1 p⟩
def Nx.yes {c:Fb} (hc:c ρ=.ok (true,ρ)) (h:Nx s ρ P):Nx (AV c s r) ρ P:=by
 obtain ⟨ρ1,e,p⟩:=h;exact ⟨ρ1,(AQ hc).trans e,p⟩
def Nx.no {c:Fb} (hc:c ρ=.ok (false,ρ)) (h:P ρ):Nx (AV c s Ao) ρ P:=⟨ρ,(BH hc).trans rfl,h⟩
def Nx.loop {asg:PV->Ag->Option Ag}{els:List PV} (I:Nat->Ag->Prop) (h0:I 0 ρ) (hs:∀ k x ρ,els[k]?=some x->I k ρ->∃ ρ1,asg x ρ=some ρ1/\Nx s ρ1 (I (k + 1))):∃ ρ',Cg asg s els ρ=.nx ρ'/\I els.length ρ':=WU els I ρ h0 λ k x ρ e h=>by
 obtain ⟨ρ1,e1,ρ2,e2,h2⟩:=hs k x ρ e h;exact ⟨ρ1,ρ2,e1,e2,h2⟩
def wZ {n k:Nat}{x:PV} (hx:((AI n).map λ (k:Nat)=>PV.int (k:Int))[k]?=some x):k < n/\x=.int (k:Int):=by
 rw [CV] at hx;by_cases hk:k < n
 ·rw [TC hk] at hx;cases hx;exact ⟨hk,rfl⟩
 ·rw [HJ (by rw [EY];omega)] at hx;cases hx
def Nx.forR {asg:PV->Ag->Option Ag}{f:Fx}{n d:Nat} (I:Nat->Ag->Prop) (hf:f ρ=.ok (.int (n:Int),d,ρ)) (hn:n<=1000) (h0:I 0 ρ) (hs:∀ k ρ,k < n->I k ρ->∃ ρ1,asg (.int (k:Int)) ρ=some ρ1/\Nx s ρ1 (I (k + 1))):Nx (CW BU (Ad f Ac) asg s) ρ (I n):=by
 obtain ⟨ρ',e,h⟩:=Nx.loop (els:=(AI n).map λ (k:Nat)=>.int (k:Int)) I h0 λ k x ρ hx h=>by
  obtain ⟨hk,rfl⟩:=wZ hx;exact hs k ρ hk h
 rw [AD,EY] at h;exact ⟨ρ',ko (Bf hf) (FI (by omega) (by omega)) e,h⟩
end
end
def Eo (a b:Int):List Int:=(AI (b - a).toNat).map λ k=>a + (k:Nat)
def Kn {a b:Int} (h:b<=a):Eo a b=[]:=by
 unfold Eo;rw [show (b - a).toNat=0 by omega];rfl
def QB {a b:Int} (h:a < b):Eo a b=a::Eo (a + 1) b:=by
 unfold Eo;rw [show (b - a).toNat=(b - (a + 1)).toNat + 1 by omega,Z5];simp only [BF,De,Int.natCast_zero,Int.add_zero];congr 1;apply MA;intro k _;show a + ((k + 1:Nat):Int)=a + 1 + (k:Int);omega
def qcl {a b x:Int}:x∈Eo a b↔a<=x/\x < b:=by
 unfold Eo;simp only [jd3,jc7];constructor
 ·rintro ⟨k,hk,rfl⟩;omega
 ·rintro ⟨h1,h2⟩;exact ⟨(x - a).toNat,by omega,by omega⟩
def EZ (lo hi x:Int):Bool:=decide (lo<=x) && decide (x<=hi)
theorem um (lo hi:Int):∀ (n:Nat) (a b:Int),(b - a).toNat=n->lo<=a->(Eo a b).filter (EZ lo hi)=Eo a (min (b - 1) hi + 1):=by
 intro n;induction n with
 | zero=>
  intro a b h ha;rw [Kn (a:=a) (by omega),Kn (by omega)];rfl
 | succ n ih=>
  intro a b h ha;rw [QB (by omega),II];by_cases h2:a<=hi
  ·rw [if_pos (by unfold EZ;simp [h2,ha]),QB (a:=a) (b:=min (b - 1) hi + 1) (by omega),ih (a + 1) b (by omega) (by omega)]
  ·rw [if_neg (by unfold EZ;simp;omega),Kn (a:=a) (b:=min (b - 1) hi + 1) (by omega),ih (a + 1) b (by omega) (by omega),Kn (by omega)]
theorem uz (lo hi:Int):∀ (n:Nat) (a b:Int),(b - a).toNat=n->a<=lo->(Eo a b).filter (EZ lo hi)=Eo lo (min (b - 1) hi + 1):=by
 intro n;induction n with
 | zero=>
  intro a b h ha;rw [Kn (a:=a) (by omega),Kn (by omega)];rfl
 | succ n ih=>
  intro a b h ha;by_cases e:a=lo
  ·subst e;exact um a hi _ a b rfl (Gn _)
  ·rw [QB (by omega),II,if_neg (by unfold EZ;simp;omega)];exact ih (a + 1) b (by omega) (by omega)
def BV (hi ah:Int) (row:List Int):Int:=match row.getLast? with
 | none=>min hi ah
 | some m=>min (min hi ah) m
def CT (lo hi ah:Nat->Int):Nat->List (List Int)
 | 0=>[[]]
 | n + 1=>(CT lo hi ah n).flatMap λ row=>(Eo (lo n) (BV (hi n) (ah n) row + 1)).map λ x=>row++[x]
def Iv (lo hi:Nat->Int) (n:Nat) (r:List Int):Bool:=(AI n).all λ i=>EZ (lo i) (hi i) (r.getD i 0)
theorem US (lo hi ah:Nat->Int):∀ (n:Nat) (r:List Int),r∈CT lo hi ah n->r.length=n
 | 0,r,h=>by simp [CT] at h;simp [h]
 | n + 1,r,h=>by
  rw [CT,ji8] at h;obtain ⟨q,h1,h2⟩:=h;obtain ⟨x,_,rfl⟩:=jd3.mp h2;simp [US lo hi ah n q h1]
def uu (lo hi:Nat->Int) (r:List Int) (x:Int):Iv lo hi (r.length + 1) (r++[x])=(Iv lo hi r.length r && EZ (lo r.length) (hi r.length) x):=by
 unfold Iv;rw [YT,List.all_append];have e1:((AI r.length).all λ i=>EZ (lo i) (hi i) ((r++[x]).getD i 0))=(AI r.length).all λ i=>EZ (lo i) (hi i) (r.getD i 0):=by
  rw [Gq,ja7,ja7];constructor
  ·intro h i hi'
   have:=h i hi'
   have hl:=jc7.mp hi';rwa [Ba,DJ hl,<- Ba] at this
  ·intro h i hi';have hl:=jc7.mp hi';rw [Ba,DJ hl,<- Ba];exact h i hi'
 rw [e1];simp [Ba]
theorem U8 {α β:Type} (p:α->Bool) (f g:α->List β):∀ (l:List α),(∀ a∈l,f a=if p a=true then g a else [])->l.flatMap f=(l.filter p).flatMap g
 | [],_=>rfl
 | a::l,h=>by
  rw [KJ,U8 p f g l λ b hb=>h b (AO _ hb),h a AR,II];split
  ·rw [KJ]
  ·rfl
theorem wL {hi hi' ah:Int} (h:hi<=hi') (row:List Int):min (BV hi' ah row) hi=BV hi ah row:=by
 have e:min (min hi' ah) hi=min hi ah:=by rw [Tr hi',Tv,Int.min_eq_right h,Tr]
 unfold BV;cases row.getLast? with
 | none=>exact e
 | some m=>show min (min (min hi' ah) m) hi=_;rw [Tv,Tr m,<- Tv,e]
theorem UA {lo hi lo' hi' ah:Nat->Int} (hl:∀ i,lo' i<=lo i) (hh:∀ i,hi i<=hi' i):∀ (n:Nat),(CT lo' hi' ah n).filter (Iv lo hi n)=CT lo hi ah n
 | 0=>rfl
 | n + 1=>by
  rw [CT,CT,<- UA hl hh n,List.filter_flatMap];refine U8 _ _ _ _ λ a ha=>?_;have la:=US _ _ _ n a ha;subst la;rw [T1];have e:(Iv lo hi (a.length + 1) ∘ λ x=>a++[x])=λ x=>Iv lo hi a.length a && EZ (lo a.length) (hi a.length) x:=by
   funext x;exact uu lo hi a x
  rw [e];cases Iv lo hi a.length a with
  | false=>simp
  | true=>
   simp only [Bool.true_and,if_true]
   have:=uz (lo a.length) (hi a.length) _ (lo' a.length) (BV (hi' a.length) (ah a.length) a + 1) rfl (hl _)
   rw [show (λ x=>EZ (lo a.length) (hi a.length) x)=EZ (lo a.length) (hi a.length) from rfl,this,T9,wL (hh _)]
def Io (c:Int) (pile:List (List Int)):Nat->Int:=match pile.getLast? with
 | none=>λ _=>c
 | some r=>λ j=>r.getD j 0
def Kd (lo hi:Nat->Nat->Int) (c:Int) (b:Nat):Nat->List (List (List Int))
 | 0=>[[]]
 | n + 1=>(Kd lo hi c b n).flatMap λ pile=>(CT (lo n) (hi n) (Io c pile) b).map λ r=>pile++[r]
def QD {r:List Int}{n:Nat} (h:r.length=n + 1):r.getLast?=some (r.getD n 0):=by
 rw [TM,h,T8,Ba,BR (by omega)];rfl
def Mn {r:List Int}{x:Int}{n j:Nat} (h:r.length=n):(r++[x]).getD j 0=if j=n then x else r.getD j 0:=by
 rw [Ba,Ba,Z2];by_cases hj:j < n
 ·rw [if_pos (by omega),if_neg (by omega)]
 ·rw [if_neg (by omega)];by_cases e:j=n
  ·rw [if_pos e,e,h,Tt];rfl
  ·rw [if_neg e,HJ (by simp;omega),HJ (by omega)]
theorem QR {lo hi ah:Nat->Int}:∀ {n:Nat}{r:List Int},r∈CT lo hi ah n->r.length=n/\(∀ j,j < n->lo j<=r.getD j 0/\r.getD j 0<=hi j/\r.getD j 0<=ah j)/\∀ j,j + 1 < n->r.getD (j + 1) 0<=r.getD j 0
 | 0,r,h=>by
  have e:r=[]:=by simpa [CT] using h
  subst e;exact ⟨rfl,λ j h=>by omega,λ j h=>by omega⟩
 | n + 1,r,h=>by
  rw [CT,ji8] at h;obtain ⟨q,h1,h2⟩:=h;obtain ⟨x,hx,rfl⟩:=jd3.mp h2;obtain ⟨l,b,m⟩:=QR h1;obtain ⟨x1,x2⟩:=qcl.mp hx;have t1:BV (hi n) (ah n) q<=hi n/\BV (hi n) (ah n) q<=ah n/\(0 < n->BV (hi n) (ah n) q<=q.getD (n - 1) 0):=by
   unfold BV;cases n with
   | zero=>
    have e:q=[]:=jf9.mp l;subst e;exact ⟨by show min _ _<=_;omega,by show min _ _<=_;omega,λ h=>by omega⟩
   | succ n=>
    rw [QD l];exact ⟨by show min (min _ _) _<=_;omega,by show min (min _ _) _<=_;omega,λ _=>by show min (min _ _) _<=_;rw [T8];omega⟩
  refine ⟨by rw [BQ,l];rfl,λ j hj=>?_,λ j hj=>?_⟩
  ·rw [Mn l];by_cases e:j=n
   ·subst e;rw [if_pos rfl];omega
   ·rw [if_neg e];exact b j (by omega)
  ·rw [Mn l,Mn l,if_neg (show ¬ j=n by omega)];by_cases e:j + 1=n
   ·rw [if_pos e]
    have:=t1.2.2 (by omega)
    rw [show n - 1=j by omega] at this;omega
   ·rw [if_neg e];exact m j (by omega)
def qP {p:List (List Int)}{n:Nat} (h:p.length=n + 1):p.getLast?=some (p.getD n []):=by
 rw [TM,h,T8,Ba,BR (by omega)];rfl
def qU {p:List (List Int)}{r:List Int}{n i:Nat} (h:p.length=n):(p++[r]).getD i []=if i=n then r else p.getD i []:=by
 rw [Ba,Ba,Z2];by_cases hj:i < n
 ·rw [if_pos (by omega),if_neg (by omega)]
 ·rw [if_neg (by omega)];by_cases e:i=n
  ·rw [if_pos e,e,h,Tt];rfl
  ·rw [if_neg e,HJ (by simp;omega),HJ (by omega)]
def Mo {p:List (List Int)}{r:List Int}{n i j:Nat} (h:p.length=n):g (p++[r]) i j=if i=n then r.getD j 0 else g p i j:=by
 unfold g;rw [qU h];split <;> rfl
theorem Ut {lo hi:Nat->Nat->Int}{c:Int}{b:Nat}:∀ {n:Nat}{p:List (List Int)},p∈Kd lo hi c b n->Tab n b p/\(∀ i j,i < n->j < b->lo i j<=g p i j/\g p i j<=hi i j/\g p i j<=c)/\(∀ i j,i + 1 < n->j < b->g p (i + 1) j<=g p i j)/\∀ i j,i < n->j + 1 < b->g p i (j + 1)<=g p i j
 | 0,p,h=>by
  have e:p=[]:=by simpa [Kd] using h
  subst e;exact ⟨⟨rfl,λ _ z=>nomatch z⟩,λ i j h=>by omega,λ i j h=>by omega,λ i j h=>by omega⟩
 | n + 1,p,h=>by
  rw [Kd,ji8] at h;obtain ⟨q,h1,h2⟩:=h;obtain ⟨r,hr,rfl⟩:=jd3.mp h2;obtain ⟨tq,b1,d1,r1⟩:=Ut h1;obtain ⟨l,b2,m2⟩:=QR hr;have ah:∀ j,j < b->Io c q j<=c/\(0 < n->Io c q j<=g q (n - 1) j):=λ j hj=>by
   unfold Io;cases n with
   | zero=>
    have e:q=[]:=jf9.mp tq.1;subst e;exact ⟨Gn _,λ h=>by omega⟩
   | succ n=>
    rw [qP tq.1];exact ⟨(b1 n j (by omega) hj).2.2,λ _=>Gn _⟩
  refine ⟨⟨by rw [BQ,tq.1];rfl,λ s hs=>(jc6.mp hs).elim (λ z=>tq.2 s z) λ z=>by rw [jb1.mp z,l]⟩,λ i j hi' hj=>?_,λ i j hi' hj=>?_,λ i j hi' hj=>?_⟩
  ·rw [Mo tq.1];by_cases e:i=n
   ·subst e;rw [if_pos rfl];have h3:=b2 j hj;have h4:=ah j hj;omega
   ·rw [if_neg e];exact b1 i j (by omega) hj
  ·rw [Mo tq.1,Mo tq.1,if_neg (show ¬ i=n by omega)];by_cases e:i + 1=n
   ·rw [if_pos e];have h3:=b2 j hj;have h4:=(ah j hj).2 (by omega);rw [show n - 1=i by omega] at h4;omega
   ·rw [if_neg e];exact d1 i j (by omega) hj
  ·rw [Mo tq.1,Mo tq.1];by_cases e:i=n
   ·rw [if_pos e,if_pos e];exact m2 j hj
   ·rw [if_neg e,if_neg e];exact r1 i j (by omega) hj
def uG {hi:Nat->Nat->Int}{c:Int}{a b:Nat}{lo:Nat->Nat->Int}{p:List (List Int)} (h0:∀ i j,0<=lo i j) (h:p∈Kd lo hi c b a):Pile a b c p:=by
 obtain ⟨t,h1,h2,h3⟩:=Ut h;exact ⟨t,λ i j hi hj=>JC (h0 i j) (h1 i j hi hj).1,λ i j hi hj=>(h1 i j hi hj).2.2,h2,h3⟩
theorem UR {lo hi ah:Nat->Int}:∀ {n:Nat}{r:List Int},r.length=n->(∀ j,j < n->lo j<=r.getD j 0/\r.getD j 0<=hi j/\r.getD j 0<=ah j)->(∀ j,j + 1 < n->r.getD (j + 1) 0<=r.getD j 0)->r∈CT lo hi ah n
 | 0,r,h,_,_=>by rw [jf9.mp h];simp [CT]
 | n + 1,r,h,h1,h2=>by
  have hn:r≠[]:=λ e=>by rw [e] at h;cases h
  obtain ⟨q,x,rfl⟩:∃ q x,r=q++[x]:=⟨r.dropLast,r.getLast hn,(List.dropLast_concat_getLast hn).symm⟩
  have hq:q.length=n:=by simpa using h
  have g1:∀ j,j < n->(q++[x]).getD j 0=q.getD j 0:=λ j hj=>by rw [Mn hq,if_neg (by omega)]
  have g2:(q++[x]).getD n 0=x:=by rw [Mn hq,if_pos rfl]
  have mq:q∈CT lo hi ah n:=UR hq (λ j hj=>by have:=h1 j (by omega);rwa [g1 j hj] at this) (λ j hj=>by have:=h2 j (by omega);rwa [g1 j (by omega),g1 (j + 1) (by omega)] at this);rw [CT,ji8];refine ⟨q,mq,jd3.mpr ⟨x,qcl.mpr ⟨?_,?_⟩,rfl⟩⟩
  ·have:=(h1 n (by omega)).1;rwa [g2] at this
  ·have a1:=(h1 n (by omega)).2;rw [g2] at a1;unfold BV;cases n with
   | zero=>rw [jf9.mp hq];simp only [Zm];omega
   | succ m=>
    have a2:=h2 m (by omega);rw [g2,g1 m (by omega)] at a2;rw [QD hq];simp only;omega
def DP (b:Nat) (c:Int):List (List Int):=CT (λ _=>0) (λ _=>c) (λ _=>c) b
structure RowB (b:Nat) (c:Int) (r:List Int):Prop where
 len:r.length=b
 lo:∀ j,j < b->0<=r.getD j 0
 hi:∀ j,j < b->r.getD j 0<=c
 nr:∀ j,j + 1 < b->r.getD (j + 1) 0<=r.getD j 0
def zbj {b:Nat}{c:Int}{r:List Int}:r∈DP b c↔RowB b c r:=by
 constructor
 ·intro h;obtain ⟨h1,h2,h3⟩:=QR h;exact ⟨h1,λ j hj=>(h2 j hj).1,λ j hj=>(h2 j hj).2.1,h3⟩
 ·intro h;exact UR h.len (λ j hj=>⟨h.lo j hj,h.hi j hj,h.hi j hj⟩) h.nr
def GO (b:Nat) (ah:Nat->Int) (q:List Int):Bool:=(AI b).all λ i=>decide (q.getD i 0<=ah i)
def yT {hi ah c:Int} (h:min hi ah<=c) (row:List Int):BV (min hi ah) c row=BV hi ah row:=by
 unfold BV;rw [Int.min_eq_left h]
theorem UT {lo hi ah:Nat->Int}{c:Int}:∀ (n:Nat),(∀ i,i < n->min (hi i) (ah i)<=c)->CT lo (λ i=>min (hi i) (ah i)) (λ _=>c) n=CT lo hi ah n
 | 0,_=>rfl
 | n + 1,h=>by
  rw [CT,CT,UT n λ i hi=>h i (by omega)];congr 1;funext row;rw [yT (h n (by omega))]
def Uw {b:Nat}{c:Int}{ah:Nat->Int}:(DP b c).filter (GO b ah)=CT (λ _=>0) (λ _=>c) ah b:=by
 rw [<- UT (c:=c) b λ i _=>by omega];have e2:=UA (lo':=λ _=>0) (hi':=λ _=>c) (ah:=λ _=>c) (lo:=λ _=>0) (hi:=λ i=>min c (ah i)) (λ _=>Gn _) (λ i=>by show min c (ah i)<=c;omega) b;rw [<- e2];unfold DP;apply T6;intro q hq;have h2:=zbj.mp hq;rw [Gq];unfold GO Iv EZ;simp only [ja7,jc7,A9,decide_eq_true_iff];constructor
 ·intro h i hi;have a1:=h i hi;have a2:=h2.lo i hi;have a3:=h2.hi i hi;omega
 ·intro h i hi;have a1:=h i hi;omega
end QV
namespace K50
open PySem PySem.Spec PyProof.Rows L2 QQ QV
def AA (r:List Int):PV:=.tup (r.map PV.int)
def Xc {f g:Fx}{ρ ρ1 ρ2:Ag}{xs:List Int}{k x:Int}{d e:Nat} (h1:f ρ=.ok (AA xs,d,ρ1)) (h2:g ρ1=.ok (.int k,e,ρ2)) (h:BB xs k=some x):Ab Ai f g ρ=.ok (.int x,om,ρ2):=by
 refine C5 h1 h2 ?_;show (BB (xs.map PV.int) k).map _=_
 have:BB (xs.map PV.int) k=some (.int x):=by
  unfold BB at h ⊢;rw [AD];cases e:CB xs.length k with
  | none=>rw [e] at h;cases h
  | some j=>
   rw [e] at h;have h':xs[j]?=some x:=h;show (xs.map PV.int)[j]?=_;rw [CV,h'];rfl
 rw [this];rfl
def jI {f h:Fx}{ρ ρ1 ρ2:Ag}{xs ys:List Int}{d e:Nat} (h1:f ρ=.ok (AA xs,d,ρ1)) (h2:h ρ1=.ok (AA ys,e,ρ2)) (hl:xs.length + ys.length<=1000000):Ab Az f h ρ=.ok (AA (xs++ys),0,ρ2):=by
 have z:=sz;refine C5 h1 h2 ?_;show (if _ then _ else _)=_;rw [if_pos (by rw [AD,AD];omega),<- Hh];rfl
def j6 {n:Nat}{en:List (PV×Nat)->Option (Int×Int)}{fa:Fa}{elt:Fx}{q:Nat->PV}{ρ ρ1:Ag}{as:List (PV×Nat)}{lo hi:Int} (hf:fa ρ=.ok (as,ρ1)) (hen:en as=some (lo,hi)) (hn:ρ1.length=n) (he:∀ k,k < (hi - lo).toNat->elt (ρ1++[some (.int (lo + (k:Int)),om)])=.ok (q k,0,ρ1++[some (.int (lo + (k:Int)),om)])) (hl:(hi - lo).toNat<=Aw):
  ∃ e,C4 en fa 1 (asgN n) Bn elt ρ=.ok (.lst ((AI (hi - lo).toNat).map q),e,ρ1):=by
 refine ⟨if Du ((AI (hi - lo).toNat).map λ (k:Nat)=>(q k,0)) then om else 1,?_⟩;unfold C4;rw [hf];dsimp only;rw [hen];dsimp only;rw [Nb,GK (AI (hi - lo).toNat) ρ1 [] hn (λ _ _=>rfl) (λ x hx _=>he x (jc7.mp hx)) (by simpa using hl),jf4.mpr (λ _ _=>rfl)];show C7 ((AI (hi - lo).toNat).map λ x=>(q x,0)) ρ1=_;unfold C7;rw [De];rfl
def tn (n:Nat):((n:Int) - 0).toNat=n:=by omega
def PB {n d:Nat} (h:n<=500000):BU [(.int (n:Int),d)]=some (0,(n:Int)):=FI (by omega) (by omega)
def ky {b c:Nat} (hb:1<=b/\b<=1000) (hc:c<=1000) (hR:∀ n,n<=b->(DP n c).length<=500000):MU [.int (b:Int),.int (c:Int)]=.ok (.lst ((DP b c).map AA),0,.non):=by
 have z:=sz;let L (x2:PV) (d2:Nat) (s3 s4 s5 s6:QQ.Slot) (d1:Nat):Ag:=[some (.int (b:Int),om),some (.int (c:Int),d1),some (x2,d2),s3,s4,s5,s6]
 have v1:Ah false 2 (Ak AL (Ad (Ak Bx (Ac)) (Ac))) [] [some (.int (b:Int),om),some (.int (c:Int),om),none,none,none,none,none]=.nx (L (.lst [AA []]) om none none none none om):=rfl;obtain ⟨ρ',v2,d1,d2,s3,s4,s5,s6,hd2,rfl⟩:=Km (fa:=Ad (Aa 0) Ac) (body:=(Af (Ah false 4 (Ak AL (Ac)) [])
 (Af (D0 (Aa 2) [2] (asgN 5) (Af (Ah false 6 (Bz (bT (Ab (AS λ i j=>decide (j < i)) (Aa 3) (bC (.int 0)))) (Ab Ai (Aa 5) (Ay Cp (bC (.int 1)))) (Aa 1)) [5,1])
 (Ct 4 (C4 BU (Ad (Ab Az (Aa 6) (bC (.int 1))) (Ac)) 1 (asgN 7) Bn (Ab Az (Aa 5) (Ak Bx (Ad (Aa 7) (Ac))))) [5])))
 (Ah false 2 (Aa 4) [4])))) (ρ:=L (.lst [AA []]) om none none none none om)
  (λ j ρ=>∃ d1 d2 s3 s4 s5 s6,(0 < j->d2=0)/\ρ=L (.lst ((DP j c).map AA)) d2 s3 s4 s5 s6 d1) rfl (PB (AW hb.2 (by decide))) ⟨om,om,none,none,none,none,λ h=>absurd h (FC 0),rfl⟩ (by
  rintro j _ hj ⟨d1,d2,s3,s4,s5,s6,_,rfl⟩;have hjb:j < b:=by rwa [tn] at hj
  refine ⟨by show 3 < 7;decide,?_⟩;rw [Hg];let R:=DP j c;let M (xs:List PV) (d4 d1 d2 d3:Nat) (s5 s6:QQ.Slot):Ag:=[some (.int (b:Int),om),some (.int (c:Int),d1),some (.lst (R.map AA),d2),some (.int (j:Int),d3),some (.lst xs,d4),s5,s6]
  let nx (r:List Int):List (List Int):=(Eo 0 (BV c c r + 1)).map λ x=>r++[x];have hnx:DP (j + 1) c=R.flatMap nx:=rfl;obtain ⟨ρ2,e2,d1',d3',d4',s5',s6',hd4,rfl⟩:=Qy (asg:=asgN 5) (body:=(Af (Ah false 6 (Bz (bT (Ab (AS λ i j=>decide (j < i)) (Aa 3) (bC (.int 0)))) (Ab Ai (Aa 5) (Ay Cp (bC (.int 1)))) (Aa 1)) [5,1])
 (Ct 4 (C4 BU (Ad (Ab Az (Aa 6) (bC (.int 1))) (Ac)) 1 (asgN 7) Bn (Ab Az (Aa 5) (Ak Bx (Ad (Aa 7) (Ac))))) [5]))) (λ pre ρ=>∃ d1 d3 d4 s5 s6,d4≠0/\ρ=M ((pre.flatMap nx).map AA) d4 d1 0 d3 s5 s6) R [] (M [] om d1 0 om s5 s6) ⟨d1,om,om,s5,s6,by decide,rfl⟩ (by
   rintro pre r post _ ep ⟨d1,d3,d4,s5,s6,hd4,rfl⟩;rw [IH] at ep;have hr:r∈R:=by rw [ep];exact Bq _ AR
   have h2:=zbj.mp hr;let N (d1 d5:Nat) (s6:QQ.Slot):Ag:=M ((pre.flatMap nx).map AA) d4 d1 0 d3 (some (AA r,d5)) s6;have ht:∃ m:Nat,BV c c r=(m:Int)/\m<=c/\Bz (bT (Ab (AS λ i j=>decide (j < i)) (Aa 3) (bC (.int 0)))) (Ab Ai (Aa 5) (Ay Cp (bC (.int 1)))) (Aa 1) (N d1 0 s6)=.ok (.int (m:Int),om,N d1 0 s6):=by
    have tt:bT (Ab (AS λ i j=>decide (j < i)) (Aa 3) (bC (.int 0))) (N d1 0 s6)=.ok (decide (0 < (j:Int)),N d1 0 s6):=A8 (E7 rfl rfl);cases j with
    | zero=>
     refine ⟨c,?_,Bj _,?_⟩
     ·unfold BV;rw [jf9.mp h2.len];simp only [Zm];omega
     ·unfold Bz;rw [tt];rfl
    | succ i=>
     have g1:=QD h2.len;have g2:=h2.lo i (IJ i);have g3:=h2.hi i (IJ i);obtain ⟨m,hm⟩:∃ m:Nat,r.getD i 0=(m:Int):=⟨(r.getD i 0).toNat,(Int.toNat_of_nonneg g2).symm⟩
     refine ⟨m,?_,jt8.mp (hm ▸ g3),?_⟩
     ·unfold BV;rw [g1];simp only;omega
     ·unfold Bz;rw [tt];dsimp only [Rz.bind];rw [if_pos (by rw [decide_eq_true_iff];exact jj8.mpr (Nat.succ_pos i))];refine Xc rfl rfl ?_;unfold BB CB;rw [if_neg (by decide),if_pos (by rw [h2.len];omega),h2.len,<- hm];rw [show (-1 + ((i + 1:Nat):Int)).toNat=i by omega];exact Ee (by rw [h2.len];exact IJ i)
   obtain ⟨m,tm,hmc,ev⟩:=ht;have mc:m + 1<=1001:=Pn (AW hmc hc);have w1:Ah false 6 (Bz (bT (Ab (AS λ i j=>decide (j < i)) (Aa 3) (bC (.int 0)))) (Ab Ai (Aa 5) (Ay Cp (bC (.int 1)))) (Aa 1)) [5,1] (N d1 0 s6)=.nx (N d1 0 (some (.int (m:Int),om))):=setF ev (show 6 < 7 by decide) rfl;have ct:∃ e,C4 BU (Ad (Ab Az (Aa 6) (bC (.int 1))) (Ac)) 1 (asgN 7) Bn (Ab Az (Aa 5) (Ak Bx (Ad (Aa 7) (Ac)))) (N d1 0 (some (.int (m:Int),om)))=.ok (.lst ((nx r).map AA),e,N d1 0 (some (.int (m:Int),om))):=by
    let W:Ag:=N d1 0 (some (.int (m:Int),om));have e1:(nx r).map AA=(AI (m + 1)).map λ (k:Nat)=>AA (r++[(0:Int) + (k:Int)]):=by
     show ((Eo 0 (BV c c r + 1)).map λ x=>r++[x]).map AA=_;unfold Eo;rw [tm,De,De,show ((m:Int) + 1 - 0).toNat=m + 1 from tn (m + 1)];rfl
    have hc:=j6 (fa:=Ad (Ab Az (Aa 6) (bC (.int 1))) (Ac)) (ρ:=W) (hi:=(m:Int) + 1) rfl (PB (AW mc (by decide))) rfl (λ k hk=>by
     exact jI (f:=Aa 5) (h:=Ak Bx (Ad (Aa 7) (Ac))) (ys:=[(0:Int) + (k:Int)]) rfl rfl (by rw [h2.len];exact AW hjb (AW hb.2 (by decide)))) (AW (M1 (tn (m + 1))) (AW mc (by decide)))
    rw [show ((m:Int) + 1 - 0).toNat=m + 1 from tn (m + 1),<- e1] at hc;exact hc
   obtain ⟨e,ct⟩:=ct;have hjl:(DP (j + 1) c).length<=500000:=hR (j + 1) hjb;have hln:((pre.flatMap nx).map AA).length + ((nx r).map AA).length<=Aw:=by
    have:(DP (j + 1) c).length=(pre.flatMap nx).length + ((nx r).length + (post.flatMap nx).length):=by
     rw [hnx,ep,Pt,KJ,BQ,BQ]
    rw [AD,AD];omega
   have w2:Ct 4 (C4 BU (Ad (Ab Az (Aa 6) (bC (.int 1))) (Ac)) 1 (asgN 7) Bn (Ab Az (Aa 5) (Ak Bx (Ad (Aa 7) (Ac))))) [5] (N d1 0 (some (.int (m:Int),om)))=.nx (M (((pre++[r]).flatMap nx).map AA) 1 d1 0 d3 (some (AA r,0)) (some (.int (m:Int),om))):=by
    obtain ⟨k,rfl⟩:∃ k,d4=k + 1:=⟨d4 - 1,(YQ hd4).symm⟩
    have hcool:Bi e [5] (N d1 0 (some (.int (m:Int),om)))=N d1 0 (some (.int (m:Int),om)):=by
     unfold Bi;split <;> rfl
    refine VW rfl ct (by rw [hcool];rfl) (by omega) hln ?_;rw [hcool,Pt,Hh];simp only [KJ,Zc,KH];rfl
   exact ⟨N d1 0 s6,_,rfl,(Ax w1).trans w2,d1,d3,1,_,_,by decide,rfl⟩)
  have u1:Ah false 4 (Ak AL (Ac)) [] (L (.lst (R.map AA)) d2 (some (.int (j:Int),om)) s4 s5 s6 d1)=.nx (M [] om d1 d2 om s5 s6):=rfl;have u2:D0 (Aa 2) [2] (asgN 5) (Af (Ah false 6 (Bz (bT (Ab (AS λ i j=>decide (j < i)) (Aa 3) (bC (.int 0)))) (Ab Ai (Aa 5) (Ay Cp (bC (.int 1)))) (Aa 1)) [5,1])
 (Ct 4 (C4 BU (Ad (Ab Az (Aa 6) (bC (.int 1))) (Ac)) 1 (asgN 7) Bn (Ab Az (Aa 5) (Ak Bx (Ad (Aa 7) (Ac))))) [5])) (M [] om d1 d2 om s5 s6)=_:=WZ rfl rfl e2
  refine ⟨_,(Ax u1).trans ((Ax u2).trans (setF rfl (show 2 < 7 by decide) rfl)),d1',0,some (.int (j:Int),d3'),some (.lst (((([]:List (List Int))++R).flatMap nx).map AA),0),s5',s6',λ _=>rfl,?_⟩
  rfl)
 rw [tn] at v2;have hd:d2=0:=hd2 hb.1;subst hd;exact Bw rfl ((Ax v1).trans ((Ax v2).trans rfl))
section
variable {a b c:Nat}
structure Ahd (b:Nat) (x:PV) (ah:Nat->Int):Prop where
 idx:∀ j,j < b->∀ d e,Ai x d (.int (j:Int)) e=some (.int (ah j),om)
 dv:dv x=0
def qZ {r:List Int} (h:r.length=b):Ahd b (il r) λ i=>r.getD i 0:=⟨λ j hj d e=>by
 show (BB (r.map PV.int) (j:Int)).map _=_;rw [Dy (by omega) (by rw [DD,CV,Ee (by omega)];rfl)]
 rfl,rfl⟩
def yo {R:List (List Int)}{x:PV}{ah:Nat->Int} (A:Ahd b x ah) (hR:∀ q∈R,q.length=b) (hl:R.length<=500000) (hb:b<=1000):∃ d,Lc [.lst (R.map AA),x]=.ok (.lst ((R.filter (GO b ah)).map AA),d,.non):=by
 have z:=sz;let W:Ag:=[some (.lst (R.map AA),0),some (x,0)]
 have test:∀ q∈R,bT (Ak Ep (Ad (C4 BU (Ad (Ak Cm (Ad (Aa 2) (Ac))) (Ac)) 1 (asgN 3) Bn (Ab (AS λ i j=>decide (i<=j)) (Ab Ai (Aa 2) (Aa 3)) (Ab Ai (Aa 1) (Aa 3)))) (Ac))) (W++[some (AA q,dv (AA q))])=.ok (GO b ah q,W++[some (AA q,dv (AA q))]):=λ q hq=>by
  let V:Ag:=W++[some (AA q,dv (AA q))];have e0:Ak Cm (Ad (Aa 2) (Ac)) V=.ok (.int (b:Int),om,V):=by
   refine BZ rfl ?_;show some (PV.int ((q.map PV.int).length:Nat),om)=_;rw [AD,hR q hq]
  have e1:=Ja (elt:=Ab (AS λ i j=>decide (i<=j)) (Ab Ai (Aa 2) (Aa 3)) (Ab Ai (Aa 1) (Aa 3))) (Bf e0) (PB (AW hb (by decide))) rfl (λ k hk=>by
   have hkb:k < b:=by rwa [tn] at hk
   rw [Hg];refine E7 (Xc rfl rfl (Dy (Zp k) (by rw [DD];exact Ee (by rw [hR q hq];exact hkb)))) (C5 rfl rfl (A.idx k hkb _ _))) (by rw [tn];exact AW hb (by decide))
  rw [tn] at e1;exact A8 (all_ok e1)
 have cl:=GK (n:=2) (elt:=Aa 2) R W [] rfl test (λ q _ _=>rfl) (by rw [IG];omega);rw [IH] at cl;have e:∃ d,BN (Aa 0) 1 (asgN 2) (bT (Ak Ep (Ad (C4 BU (Ad (Ak Cm (Ad (Aa 2) (Ac))) (Ac)) 1 (asgN 3) Bn (Ab (AS λ i j=>decide (i<=j)) (Ab Ai (Aa 2) (Aa 3)) (Ab Ai (Aa 1) (Aa 3)))) (Ac)))) (Aa 2) W=.ok (.lst ((R.filter (GO b ah)).map AA),d,W):=by
  refine ⟨if Du ((R.filter (GO b ah)).map λ q=>(AA q,0)) then om else 1,?_⟩;unfold BN;show (CI 1 (asgN 2) _ (Aa 2) (R.map AA) W []).bindN (λ (acc,ρ2)=>C7 acc ρ2)=_;rw [cl];show C7 _ W=_;unfold C7;rw [De];rfl
 obtain ⟨d,e⟩:=e;have hx:dv x=0:=A.dv;refine ⟨d,Bw (ρ':=W) rfl ?_⟩;show An _ [some (.lst (R.map AA),0),some (x,dv x)]=_;rw [hx];exact Ci e
end
def FU (b c:Nat) (p:List (List Int)):List Int:=match p.getLast? with
 | none=>Bo b (c:Int)
 | some r=>r
theorem wR {b c j:Nat}{p:List (List Int)} (hj:j < b):(FU b c p).getD j 0=Io c p j:=by
 unfold FU Io;cases p.getLast? with
 | none=>
  show (Bo b (c:Int)).getD j 0=_;rw [Ba,IM,if_pos hj];rfl
 | some r=>rfl
def uv {b:Nat}{f h:Nat->Int} (e:∀ j,j < b->f j=h j):GO b f=GO b h:=by
 funext q;unfold GO;rw [Gq,ja7,ja7];exact ⟨λ z i hi=>by rw [<- e i (jc7.mp hi)];exact z i hi,λ z i hi=>by rw [e i (jc7.mp hi)];exact z i hi⟩
def Gh (b c:Nat) (p:List (List Int)):List (List (List Int)):=(CT (λ _=>0) (λ _=>(c:Int)) (Io c p) b).map λ r=>p++[r]
def vN {x:List (List Int)}{m:List Int} (h:x.getLast?=some m):BB x (-1)=some m:=by
 have hl:0 < x.length:=by cases x with | nil=>cases h | cons _ _=>exact Zb _
 unfold BB CB;rw [if_neg (by decide),if_pos (by omega)];rw [TM] at h;rw [show (-1 + (x.length:Int)).toNat=x.length - 1 by omega];exact h
def GC (a b c:Nat) (p:List (List Int)) (s3:QQ.Slot):Ag:=[some (tb p,0),some (.lst ((DP b c).map AA),0),some (bx a b c,0),s3]
theorem yW {b c:Nat}{p:List (List Int)} (hp:∀ r∈p,r.length=b):(FU b c p).length=b:=by
 unfold FU;cases el:p.getLast? with
 | none=>exact JI
 | some m=>exact hp m (List.mem_of_getLast? el)
def qL {k:Fb}{f h:Fx}{ρ ρ1:Ag} (e:k ρ=.ok (false,ρ1)):Bz k f h ρ=h ρ1:=by
 unfold Bz;rw [e];rfl
def qM {k:Fb}{f h:Fx}{ρ ρ1:Ag} (e:k ρ=.ok (true,ρ1)):Bz k f h ρ=f ρ1:=by
 unfold Bz;rw [e];rfl
theorem wU {a b c:Nat}{p:List (List Int)} (hb:b<=100):∃ d3,Ah false 3 (Bz (bT (Ab (AS λ i j=>decide (j < i)) (Ak Cm (Ad (Aa 0) (Ac))) (bC (.int 0)))) (Ab Ai (Aa 0) (Ay Cp (bC (.int 1)))) (Ab Cv (Ak AL (Ad (Ab Ai (Aa 2) (bC (.int 2))) (Ac))) (Ab Ai (Aa 2) (bC (.int 1))))) [0,2,2] (GC a b c p none)=.nx (GC a b c p (some (il (FU b c p),d3))):=by
 have z:=sz;have tt:bT (Ab (AS λ i j=>decide (j < i)) (Ak Cm (Ad (Aa 0) (Ac))) (bC (.int 0))) (GC a b c p none)=.ok (decide ((0:Int) < (p.length:Int)),GC a b c p none):=A8 (E7 (BZ rfl (by show some (PV.int ((p.map il).length:Nat),om)=_;rw [AD])) rfl);unfold FU;cases el:p.getLast? with
 | none=>
  have e0:p=[]:=List.getLast?_eq_none_iff.mp el;have e1:p.length=0:=by rw [e0];rfl
  rw [decide_eq_false (by omega)] at tt;refine ⟨om,setF (ρ1:=GC a b c p none) (d:=om) ?_ (show 3 < 4 by decide) rfl⟩;exact (qL tt).trans (z5 rfl rfl (by omega))
 | some m=>
  have hl:0 < p.length:=by cases p with | nil=>cases el | cons _ _=>exact Zb _
  rw [decide_eq_true (by omega)] at tt;refine ⟨0,setF (ρ1:=GC a b c p none) (d:=0) ?_ (show 3 < 4 by decide) rfl⟩;exact (qM tt).trans (Ki rfl rfl (vN el))
def yc {p:List (List Int)}{r:List Int}{V:Ag} (h0:Aa 0 V=.ok (tb p,0,V)) (h4:Aa 4 V=.ok (AA r,0,V)) (hl:p.length<=100):Ab Az (Aa 0) (Ak AL (Ad (Ak Ef (Ad (Aa 4) (Ac))) (Ac))) V=.ok (tb (p++[r]),d1 (p.map il++[il r]),V):=by
 have z:=sz;have e1:Ak AL (Ad (Ak Ef (Ad (Aa 4) (Ac))) (Ac)) V=.ok (.lst [il r],om,V):=BZ (Bf (BZ (z:=il r) (Bf h4) (by
  show some (PV.lst (r.map PV.int),d1 (r.map PV.int))=_;rw [Jg];rfl))) rfl
 have:=Nw h0 e1 (by rw [AD,IL];omega)
 refine this.trans ?_;unfold tb;rw [Hh];rfl
def y7 {a b c:Nat}{p:List (List Int)} (hp:∀ r∈p,r.length=b) (hl:p.length<=100) (hb:1<=b/\b<=100) (hc:c<=100) (hR:(DP b c).length<=500000):∃ d,IW [tb p,.lst ((DP b c).map AA),bx a b c]=.ok (.lst ((Gh b c p).map tb),d,.non):=by
 have z:=sz;have al:=yW (c:=c) hp;obtain ⟨d3,w1⟩:=wU (b:=b) (by omega);obtain ⟨d,eb⟩:=yo (qZ al) (λ q hq=>(zbj.mp hq).len) hR (by omega);rw [uv (λ j hj=>wR hj),Uw] at eb;obtain ⟨rs,ers⟩:∃ rs,rs=CT (λ _=>0) (λ _=>(c:Int)) (Io c p) b:=⟨_,rfl⟩
 have hrs:rs.length<=500000:=by
  rw [ers,<- Uw];exact AW (Z3 _ _) hR
 rw [<- ers] at eb;have hcall:Al Lc (Ad (Aa 1) (Ad (Aa 3) (Ac))) (GC a b c p (some (il (FU b c p),d3)))=.ok (.lst (rs.map AA),d,GC a b c p (some (il (FU b c p),d3))):=AJ rfl eb;have cl:=GK (n:=4) (e:=λ r=>d1 (p.map il++[il r])) (test:=Bn) rs (GC a b c p (some (il (FU b c p),d3))) [] rfl (λ _ _=>rfl) (λ r _ _=>yc rfl rfl hl) (by rw [IG];omega);rw [IH,jf4.mpr (λ _ _=>rfl)] at cl;have e2:BN (Al Lc (Ad (Aa 1) (Ad (Aa 3) (Ac)))) 1 (asgN 4) Bn (Ab Az (Aa 0) (Ak AL (Ad (Ak Ef (Ad (Aa 4) (Ac))) (Ac)))) (GC a b c p (some (il (FU b c p),d3)))=.ok (.lst ((Gh b c p).map tb),if Du (rs.map λ r=>(tb (p++[r]),d1 (p.map il++[il r]))) then om else 1,GC a b c p (some (il (FU b c p),d3))):=by
  unfold BN;rw [hcall];dsimp only;rw [cl];show C7 _ _=_;unfold C7 Gh;rw [<- ers,De,De];rfl
 exact ⟨_,Bw rfl ((Ax w1).trans (Ci e2))⟩
def AP (b c:Nat) (n:Nat):List (List (List Int)):=Kd (λ _ _=>0) (λ _ _=>(c:Int)) c b n
def WA {a b c:Nat}{t:List (List Int)} (h:t∈AP b c a):Pile a b c t:=uG (λ _ _=>Gn _) h
def E3 (a b c:Nat):Bool:=decide ((DP b c).length<=100000) && ((AI (b + 1)).all λ n=>decide ((DP n c).length<=100000)) && (AI (a + 1)).all λ k=>decide ((AP b c k).length<=100000)
def wa {a b c:Nat} (ha:a<=6) (hb:1<=b/\b<=6) (hc:c<=6) (hf:E3 a b c=true):∃ d,GF [bx a b c]=.ok (.lst ((AP b c a).map tb),d,.non):=by
 have z:=sz;unfold E3 at hf;rw [A9,A9,decide_eq_true_iff] at hf;obtain ⟨⟨f1,f2⟩,f3⟩:=hf;have hR:∀ n,n<=b->(DP n c).length<=500000:=λ n hn=>by
  exact AW (of_decide_eq_true (ja7.mp f2 n (jc7.mpr (Zl hn)))) (by decide)
 have hN:∀ k,k<=a->(AP b c k).length<=100000:=λ k hk=>of_decide_eq_true (ja7.mp f3 k (jc7.mpr (Zl hk)));let lines:PV:=.lst ((DP b c).map AA);let R (s1 s2 s3 s4 s5:QQ.Slot):Ag:=[some (bx a b c,0),s1,s2,s3,s4,s5]
 have v1:Ah false 1 (Al MU (Ad (Ab Ai (Aa 0) (bC (.int 1))) (Ad (Ab Ai (Aa 0) (bC (.int 2))) (Ac)))) [0,0] (R none none none none none)=.nx (R (some (lines,0)) none none none none):=setF (AJ rfl (ky ⟨hb.1,AW hb.2 (by decide)⟩ (AW hc (by decide)) hR)) (show 1 < 6 by decide) rfl;have v2:Ah false 2 (Ak AL (Ad (Ak AL (Ac)) (Ac))) [] (R (some (lines,0)) none none none none)=.nx (R (some (lines,0)) (some (.lst [.lst []],om)) none none none):=rfl;obtain ⟨ρ2,e2,d,s3,s4,s5,rfl⟩:=Km (fa:=Ad (Ab Ai (Aa 0) (bC (.int 0))) (Ac)) (ρ:=R (some (lines,0)) (some (.lst [.lst []],om)) none none none)
  (body:=(Af (Ah false 4 (Ak AL (Ac)) []) (Af (D0 (Aa 2) [2] (asgN 5) (Ct 4 (Al IW (Ad (Aa 5) (Ad (Aa 1) (Ad (Aa 0) (Ac))))) [5,1,0])) (Ah false 2 (Aa 4) [4]))))
  (λ k ρ=>∃ d s3 s4 s5,ρ=R (some (lines,0)) (some (.lst ((AP b c k).map tb),d)) s3 s4 s5) rfl (PB (AW ha (by decide))) ⟨om,_,_,_,rfl⟩ (by
  rintro k _ hk ⟨d,s3,s4,s5,rfl⟩;have hk:k < a:=by rwa [tn] at hk
  refine ⟨(by decide:3 < 6),?_⟩;let piles:=AP b c k;let Q (d3 d4:Nat) (w:List (List (List Int))) (s5:QQ.Slot):Ag:=R (some (lines,0)) (some (.lst (piles.map tb),0)) (some (.int (0 + (k:Int)),d3)) (some (.lst (w.map tb),d4)) s5;have tot:(piles.flatMap (Gh b c)).length<=100000:=hN (k + 1) hk;obtain ⟨ρ3,e3,d4',s5',hd4,rfl⟩:=Qy (asg:=asgN 5) (body:=Ct 4 (Al IW (Ad (Aa 5) (Ad (Aa 1) (Ad (Aa 0) (Ac))))) [5,1,0]) (λ pre ρ=>∃ d4 s5,d4≠0/\ρ=Q om d4 (pre.flatMap (Gh b c)) s5) piles [] (Q om om [] s5) ⟨om,s5,by decide,rfl⟩ (by
   rintro p x s _ ep ⟨d4,s5,hd4,rfl⟩;rw [IH] at ep;have hx:x∈piles:=by rw [ep];exact Bq _ AR
   have px:=WA hx;let W:=p.flatMap (Gh b c);have room:W.length + (Gh b c x).length<=100000:=by
    rw [ep,Pt,KJ,BQ,BQ] at tot;exact AW (Nat.add_le_add_left (T4 _ _) _) tot
   obtain ⟨e,el⟩:=y7 px.tab.2 (by rw [px.tab.1];exact AW (M3 hk) (AW ha (by decide))) ⟨hb.1,AW hb.2 (by decide)⟩ (AW hc (by decide)) (hR b (Bj _));refine ⟨Q om d4 W (some (tb x,0)),Q om 1 ((p++[x]).flatMap (Gh b c)) (some (tb x,0)),rfl,?_,1,some (tb x,0),by decide,rfl⟩;obtain ⟨j,rfl⟩:∃ j,d4=j + 1:=⟨d4 - 1,(YQ hd4).symm⟩
   have hcall:Al IW (Ad (Aa 5) (Ad (Aa 1) (Ad (Aa 0) (Ac)))) (Q om (j + 1) W (some (tb x,0)))=.ok (.lst ((Gh b c x).map tb),e,Q om (j + 1) W (some (tb x,0))):=AJ rfl el;have hcool:Bi e [5,1,0] (Q om (j + 1) W (some (tb x,0)))=Q om (j + 1) W (some (tb x,0)):=by
    unfold Bi;split <;> rfl
   refine VW rfl hcall (by rw [hcool];rfl) (Po j) (by rw [AD,AD];exact AW room (by decide)) ?_;rw [hcool,Pt];simp only [KJ,Zc,KH];show (Q om (j + 1) W (some (tb x,0))).set 4 (some (.lst (W.map tb++(Gh b c x).map tb),1))=Q om 1 (W++Gh b c x) (some (tb x,0));rw [<- Hh]
   rfl)
  have u2:D0 (Aa 2) [2] (asgN 5) (Ct 4 (Al IW (Ad (Aa 5) (Ad (Aa 1) (Ad (Aa 0) (Ac))))) [5,1,0]) (R (some (lines,0)) (some (.lst (piles.map tb),d)) (some (.int (0 + (k:Int)),om)) (some (.lst [],om)) s5)=_:=WZ rfl rfl e3;refine ⟨_,(Ax rfl).trans ((Ax u2).trans (setF rfl (show 2 < 6 by decide) rfl)),0,_,_,_,rfl⟩)
 rw [Int.sub_zero,DD] at e2;exact ⟨d,Bw rfl ((Ax v1).trans ((Ax v2).trans ((Ax e2).trans rfl)))⟩
def Qo {a b c:Nat}{F:Fn}{P:List (List Int)->Bool}{n:Nat}{ρ:Ag}{fb:Fx} (ha:a<=6) (hb:1<=b/\b<=6) (hc:c<=6) (hf:E3 a b c=true) (hρ:ρ.length=n) (hv:fb ρ=.ok (bx a b c,0,ρ)) (hv2:∀ t:List (List Int),fb (ρ++[some (tb t,0)])=.ok (bx a b c,0,ρ++[some (tb t,0)])) (hn:∀ t:List (List Int),Aa n (ρ++[some (tb t,0)])=.ok (tb t,0,ρ++[some (tb t,0)])) (hP:∀ t,Pile a b c t->F [bx a b c,tb t]=.ok (.bl (P t),om,.non)):
  Ak Cm (Ad (BN (Al GF (Ad fb (Ac))) 1 (asgN n) (bT (Al F (Ad fb (Ad (Aa n) (Ac))))) (Aa n)) (Ac)) ρ=.ok (.int (((AP b c a).filter P).length:Nat),om,ρ):=by
 have z:=sz;have hf':=hf;unfold E3 at hf';rw [A9,A9] at hf';have hN:(AP b c a).length<=100000:=of_decide_eq_true (ja7.mp hf'.2 a (jc7.mpr (IJ a)));obtain ⟨d,ep⟩:=wa ha hb hc hf;have hcall:Al GF (Ad fb (Ac)) ρ=.ok (.lst ((AP b c a).map tb),d,ρ):=AJ (Bf hv) ep;have cl:=GK (AP b c a) ρ [] hρ (λ t ht=>A8 (AJ (Bg (hv2 t) (Bf (hn t))) (hP t (WA ht)))) (λ t _ _=>hn t) (by rw [IG,JD];exact AW hN (by decide));rw [IH] at cl;have e1:∃ e,BN (Al GF (Ad fb (Ac))) 1 (asgN n) (bT (Al F (Ad fb (Ad (Aa n) (Ac))))) (Aa n) ρ=.ok (.lst (((AP b c a).filter P).map tb),e,ρ):=by
  refine ⟨if Du (((AP b c a).filter P).map λ t=>(tb t,0)) then om else 1,?_⟩;unfold BN;rw [hcall];show (CI 1 (asgN n) _ (Aa n) ((AP b c a).map tb) ρ []).bindN (λ (acc,ρ2)=>C7 acc ρ2)=_;rw [cl];show C7 _ ρ=_;unfold C7;rw [De];rfl
 obtain ⟨e,e1⟩:=e1;refine BZ (Bf e1) ?_;show some (PV.int ((((AP b c a).filter P).map tb).length:Nat),om)=_;rw [AD]
abbrev B3:=Nat×Nat×Nat
def bz (z:B3):PV:=bx z.1 z.2.1 z.2.2
def MH (z:B3):Bool:=E3 z.1 z.2.1 z.2.2
def srtB:List B3:=[(1,1,1),(1,1,2),(1,1,3),(1,1,4),(1,1,5),(1,1,6),(1,2,2),(1,2,3),(1,2,4),(1,2,5),(1,2,6),(1,3,3),(1,3,4),(1,3,5),(1,3,6),(1,4,4),(1,4,5),(1,4,6),(1,5,5),(1,5,6),(1,6,6),(2,2,2),(2,2,3),(2,2,4),(2,2,5),(2,2,6),(2,3,3),(2,3,4),(2,3,5),(2,3,6),(2,4,4),(3,3,3)]
def evL:List B3:=[(1,1,1),(1,1,2),(1,1,3),(1,1,4),(1,1,5),(1,1,6),(2,2,1),(2,2,2),(2,2,3),(2,2,4),(2,2,5),(2,2,6),(3,3,1),(3,3,2),(3,3,3),(4,4,1),(4,4,2),(5,5,1),(6,6,1)]
def xD:evL.all MH=true:=by kernel_rfl
def jS:srtB.all MH=true:=by kernel_rfl
def OH (r:Rz (PV×Nat×PV)):Bool:=match r with
 | .ok (.non,_,_)=>true
 | _=>false
def vS {r:Rz (PV×Nat×PV)} (h:OH r=true):∃ d z,r=.ok (.non,d,z):=by
 unfold OH at h;split at h
 ·exact ⟨_,_,rfl⟩
 ·cases h
def OK (r:Rz (PV×Nat×PV)):Bool:=match r with
 | .exc c=>decide (c=8)
 | _=>false
def wm {r:Rz (PV×Nat×PV)} (h:OK r=true):r=.exc 8:=by
 unfold OK at h;split at h
 ·rw [of_decide_eq_true h]
 ·cases h
def Mg (z:B3):List Int:=He [(z.1:Int),(z.2.1:Int),(z.2.2:Int)]
def DA (z:B3):B3:=(((Mg z).getD 0 0).toNat,((Mg z).getD 1 0).toNat,((Mg z).getD 2 0).toNat)
def JO (r:Rz (PV×Nat×PV)) (z:B3):Bool:=match r with
 | .ok (.int n,_,_)=>if 3000 < n then OK (Ea [bz z]) else OH (Ea [bz z]) && (decide (z.1≠z.2.1) || evL.contains z) && srtB.contains (DA z) && decide (Mg z=[((DA z).1:Int),((DA z).2.1:Int),((DA z).2.2:Int)])
 | _=>false
def j0 {r:Rz (PV×Nat×PV)}{z:B3} (h:JO r z=true):∃ n d w,r=.ok (.int n,d,w)/\(if 3000 < n then OK (Ea [bz z]) else OH (Ea [bz z]) && (decide (z.1≠z.2.1) || evL.contains z) && srtB.contains (DA z) && decide (Mg z=[((DA z).1:Int),((DA z).2.1:Int),((DA z).2.2:Int)]))=true:=by
 unfold JO at h;split at h
 ·exact ⟨_,_,_,rfl,h⟩
 ·cases h
def MN (z:B3):Bool:=JO (La [bz z]) z
def E4 (a:Nat):Bool:=(AI 6).all λ b=>(AI 6).all λ c=>MN (a,b + 1,c + 1)
def Tn:E4 1=true:=by kernel_rfl
def Tj:E4 2=true:=by kernel_rfl
def Ti:E4 3=true:=by kernel_rfl
def Th:E4 4=true:=by kernel_rfl
def Tg:E4 5=true:=by kernel_rfl
def Tf:E4 6=true:=by kernel_rfl
end K50
namespace QV
open PySem PySem.Spec PyProof.Rows L2 QQ
section
variable {a b c:Nat}{t:List (List Int)}
end
abbrev Fo:=(Nat×Nat×Nat)×List (List Int)
def fP (f:Fo):PV:=.tup [bx f.1.1 f.1.2.1 f.1.2.2,tb f.2]
def fM (f:Fo):Fo:=((f.1.2.1,f.1.1,f.1.2.2),CA f.2 f.1.2.1)
def fR (f:Fo):Fo:=((f.1.2.1,f.1.2.2,f.1.1),C9 f.2 f.1.2.1 f.1.2.2)
structure FOk (f:Fo):Prop where
 p:Pile f.1.1 f.1.2.1 f.1.2.2 f.2
 a1:1<=f.1.1/\f.1.1<=6
 b1:1<=f.1.2.1/\f.1.2.1<=6
 c1:1<=f.1.2.2/\f.1.2.2<=6
def FOk.m {f:Fo} (h:FOk f):FOk (fM f):=⟨Q0 h.p,h.b1,h.a1,h.c1⟩
def FOk.r {f:Fo} (h:FOk f):FOk (fR f):=⟨yb h.p,h.b1,h.c1,h.a1⟩
def ED (f:Fo):List Fo:=[f,fR f,fR (fR f),fM f,fR (fM f),fR (fR (fM f))]
open PySem PySem.Spec PyProof.Rows L2 QQ PySem.SeqAt
structure Sto {α:Type} (lt:α->α->Bool):Prop where
 ir:∀ x,lt x x=false
 tr:∀ x y z,lt x y=true->lt y z=true->lt x z=true
 to:∀ x y,x≠y->lt x y=true\/lt y x=true
def Dp {α:Type} [DecidableEq α] (lt:α->α->Bool):List α->List α->Bool
 | _,[]=>false
 | [],_::_=>true
 | x::xs,y::ys=>if x=y then Dp lt xs ys else lt x y
def Nn {α:Type} [DecidableEq α] {lt:α->α->Bool} (h:Sto lt):Sto (Dp lt):=by
 refine ⟨λ x=>?_,λ x=>?_,λ x=>?_⟩
 ·induction x with
  | nil=>rfl
  | cons a r ih=>unfold Dp;rw [if_pos rfl];exact ih
 ·induction x with
  | nil=>
   intro y z h1 h2;cases z with
   | nil=>cases y <;> cases h2
   | cons c z=>rfl
  | cons a x ih=>
   intro y z h1 h2;cases y with
   | nil=>cases h1
   | cons b y=>
    cases z with
    | nil=>cases h2
    | cons c z=>
     unfold Dp at h1 h2 ⊢;by_cases e1:a=b
     ·rw [if_pos e1] at h1;subst e1;by_cases e2:a=c
      ·rw [if_pos e2] at h2 ⊢;exact ih y z h1 h2
      ·rw [if_neg e2] at h2 ⊢;exact h2
     ·rw [if_neg e1] at h1;by_cases e2:b=c
      ·rw [if_pos e2] at h2;subst e2;rw [if_neg e1];exact h1
      ·rw [if_neg e2] at h2
       have:=h.tr a b c h1 h2
       by_cases e3:a=c
       ·rw [e3,h.ir] at this;cases this
       ·rw [if_neg e3];exact this
 ·induction x with
  | nil=>
   intro y hn;cases y with
   | nil=>exact absurd rfl hn
   | cons b y=>exact .inl rfl
  | cons a x ih=>
   intro y hn;cases y with
   | nil=>exact .inr rfl
   | cons b y=>
    unfold Dp;by_cases e:a=b
    ·rw [if_pos e,if_pos e.symm];exact ih y λ z=>hn (by rw [e,z])
    ·rw [if_neg e,if_neg (Ca e)];exact h.to a b e
def Pe (x y:Int):Bool:=decide (x < y)
def WW:Sto Pe:=⟨λ x=>decide_eq_false (by omega),λ x y z h1 h2=>decide_eq_true (by have:=of_decide_eq_true h1;have:=of_decide_eq_true h2;omega),λ x y h=>by
 by_cases e:x < y
 ·exact .inl (decide_eq_true e)
 ·exact .inr (decide_eq_true (by omega))⟩
def Td:List Int->List Int->Bool:=Dp Pe
def YF:List (List Int)->List (List Int)->Bool:=Dp Td
def b3 (f:Fo):List Int:=[(f.1.1:Int),(f.1.2.1:Int),(f.1.2.2:Int)]
def EF (f g:Fo):Bool:=if b3 f=b3 g then YF f.2 g.2 else Td (b3 f) (b3 g)
def VN {f g:Fo} (h:b3 f=b3 g):f.1=g.1:=by
 obtain ⟨⟨a,b,c⟩,t⟩:=f;obtain ⟨⟨a',b',c'⟩,t'⟩:=g;unfold b3 at h;simp only [List.cons.injEq,and_true,Int.natCast_inj] at h;obtain ⟨rfl,rfl,rfl⟩:=h;rfl
def zvz:Sto EF:=by
 have hi:=Nn WW;have ht:=Nn hi;refine ⟨λ x=>?_,λ x y z h1 h2=>?_,λ x y hn=>?_⟩
 ·unfold EF;rw [if_pos rfl];exact ht.ir _
 ·unfold EF at h1 h2 ⊢;by_cases e1:b3 x=b3 y
  ·rw [if_pos e1] at h1;rw [e1];by_cases e2:b3 y=b3 z
   ·rw [if_pos e2] at h2 ⊢;exact ht.tr _ _ _ h1 h2
   ·rw [if_neg e2] at h2 ⊢;exact h2
  ·rw [if_neg e1] at h1;by_cases e2:b3 y=b3 z
   ·rw [<- e2,if_neg e1];exact h1
   ·rw [if_neg e2] at h2
    have:=hi.tr _ _ _ h1 h2
    by_cases e3:b3 x=b3 z
    ·rw [e3] at this;have q:=hi.ir (b3 z);rw [show Dp Pe (b3 z) (b3 z)=true from this] at q;cases q
    ·rw [if_neg e3];exact this
 ·unfold EF;by_cases e:b3 x=b3 y
  ·rw [if_pos e,if_pos e.symm];exact ht.to _ _ λ z=>hn (Prod.ext (VN e) z)
  ·rw [if_neg e,if_neg (Ca e)];exact hi.to _ _ e
section
variable {α:Type}{lt:α->α->Bool}
def DC (lt:α->α->Bool) (L:List α) (x:α):Nat:=(L.filter λ y=>lt y x).length
theorem UG {p q:α->Bool}:∀ {L:List α},(∀ y∈L,p y=true->q y=true)->(L.filter p).length<=(L.filter q).length
 | [],_=>Bj _
 | y::L,h=>by
  have ih:=UG (L:=L) λ z hz=>h z (AO _ hz);rw [II,II];by_cases hp:p y=true
  ·rw [if_pos hp,if_pos (h y AR hp),Bl,Bl];omega
  ·rw [if_neg hp];by_cases hq:q y=true
   ·rw [if_pos hq,Bl];omega
   ·rw [if_neg hq];exact ih
theorem Qp {p q:α->Bool}:∀ {L:List α}{x:α},x∈L->(∀ y∈L,p y=true->q y=true)->p x=false->q x=true->(L.filter p).length < (L.filter q).length
 | [],_,hx,_,_,_=>by cases hx
 | y::L,x,hx,h,hp,hq=>by
  rw [II,II];have le:=UG (L:=L) λ z hz=>h z (AO _ hz);rcases jb2.mp hx with e | hx
  ·subst e;rw [hp,hq,if_neg CF,if_pos rfl,Bl];omega
  ·have ih:=Qp hx (λ z hz=>h z (AO _ hz)) hp hq;by_cases hp':p y=true
   ·rw [if_pos hp',if_pos (h y AR hp'),Bl,Bl];omega
   ·rw [if_neg hp'];by_cases hq':q y=true
    ·rw [if_pos hq',Bl];omega
    ·rw [if_neg hq'];exact ih
def Lw (h:Sto lt) {L:List α}{x y:α} (hx:x∈L) (hxy:lt x y=true):DC lt L x < DC lt L y:=Qp hx (λ z _ hz=>h.tr z x y hz hxy) (h.ir x) hxy
def SX (h:Sto lt) {L:List α}{x:α} (hx:x∈L):DC lt L x < L.length:=by
 have:=Qp (p:=λ y=>lt y x) (q:=λ _=>true) hx (λ _ _ _=>rfl) (h.ir x) rfl
 rw [jf4.mpr (λ _ _=>rfl)] at this;exact this
def vc [DecidableEq α] (h:Sto lt) {L:List α}{x y:α} (hx:x∈L) (hy:y∈L):lt x y=decide (DC lt L x < DC lt L y):=by
 by_cases e:x=y
 ·rw [e,h.ir,decide_eq_false (by omega)]
 ·rcases h.to x y e with q | q
  ·rw [q,decide_eq_true (Lw h hx q)]
  ·have:=Lw h hy q
   rw [decide_eq_false (by omega)];cases e2:lt x y with
   | false=>rfl
   | true=>have:=Lw h hx e2;omega
def X3 [DecidableEq α] (h:Sto lt) {L:List α}{x y:α} (hx:x∈L) (hy:y∈L) (e:DC lt L x=DC lt L y):x=y:=by
 by_cases ne:x=y
 ·exact ne
 ·rcases h.to x y ne with q | q
  ·have:=Lw h hx q;omega
  ·have:=Lw h hy q;omega
theorem UQ [DecidableEq α] (h:Sto lt) {L M:List α} (hM:M.Nodup) (hs:∀ x∈M,x∈L):(M.map (DC lt L)).Nodup:=by
 induction M with
 | nil=>exact .nil
 | cons x M ih=>
  rw [jh2] at hM;rw [BF,jh2];refine ⟨λ z=>?_,ih hM.2 λ y hy=>hs y (AO _ hy)⟩;obtain ⟨y,hy,e⟩:=jd3.mp z
  have:=X3 h (hs y (AO _ hy)) (hs x AR) e
  rw [this] at hy;exact hM.1 hy
end
def dI (r:List Int):Bs:=.list (r.map .int)
def dT (t:List (List Int)):Bs:=.list (t.map dI)
def fD (f:Fo):Bs:=.tuple [.tuple ((b3 f).map .int),dT f.2]
def MI (f:Fo):BL 20 (fP f)=some (fD f):=by
 have row:∀ r:List Int,AN (BL 17) (r.map PV.int)=some (r.map PyData.int):=λ r=>Ks (q:=PyData.int) (λ _=>rfl) r;have rows:AN (BL 18) (f.2.map il)=some (f.2.map dI):=Ks (q:=dI) (λ r=>by
  show (AN (BL 17) (r.map PV.int)).map PyData.list=_;rw [row]
  rfl) f.2
 have e2:BL 19 (tb f.2)=some (dT f.2):=by
  show (AN (BL 18) (f.2.map il)).map PyData.list=_;rw [rows];rfl
 show (AN (BL 19) [bx f.1.1 f.1.2.1 f.1.2.2,tb f.2]).map PyData.tuple=_;unfold AN;unfold AN;unfold AN;rw [e2];rfl
def MG (fs:List Fo):AN (BL 20) (fs.map fP)=some (fs.map fD):=Ks (q:=fD) MI fs
def Mb (x y:Int):Cz (.int x) (.int y)=decide (x=y):=by
 rw [Cz];rfl
theorem Ld {α:Type} [DecidableEq α] {q:α->Bs} (h:∀ x y,Cz (q x) (q y)=decide (x=y)):∀ xs ys:List α,Fz (xs.map q) (ys.map q)=decide (xs=ys)
 | [],[]=>by simp [Fz]
 | [],_::_=>by simp [Fz]
 | _::_,[]=>by simp [Fz]
 | x::xs,y::ys=>by
  rw [BF,BF,Fz,h,Ld h xs ys,Gq];simp
theorem Np {α:Type} [DecidableEq α] {q:α->Bs}{lt:α->α->Bool} (h:∀ x y,Cz (q x) (q y)=decide (x=y)) (hl:∀ x y,CU (q x) (q y)=lt x y):∀ xs ys:List α,Bp (xs.map q) (ys.map q)=Dp lt xs ys
 | xs,[]=>by rw [EG];cases xs <;> (first | rw [EG] | rw [BF]) <;> rw [Bp] <;> rfl
 | [],y::ys=>by rw [EG,BF,Bp];rfl
 | x::xs,y::ys=>by
  rw [BF,BF,Bp,h,hl,Np h hl xs ys];show _=if x=y then Dp lt xs ys else lt x y
  by_cases e:x=y
  ·rw [decide_eq_true e,if_pos rfl,if_pos e]
  ·rw [decide_eq_false e,if_neg CF,if_neg e]
theorem NI {α:Type}{q:α->Bs} (h:∀ x y,BS (q x) (q y)=true):∀ xs ys:List α,C2 (xs.map q) (ys.map q)=true
 | [],_=>by rw [EG,C2]
 | x::xs,[]=>by rw [EG,BF,C2]
 | x::xs,y::ys=>by rw [BF,BF,C2,h,NI h xs ys];rfl
def V1 (x y:List Int):Cz (dI x) (dI y)=decide (x=y):=by
 unfold dI;rw [Cz];exact Ld Mb x y
def V2 (x y:List (List Int)):Cz (dT x) (dT y)=decide (x=y):=by
 unfold dT;rw [Cz];exact Ld V1 x y
def Mv (x y:Int):CU (.int x) (.int y)=Pe x y:=by rw [CU];rfl
def Tc (x y:List Int):CU (dI x) (dI y)=Td x y:=by
 unfold dI;rw [CU];exact Np Mb Mv x y
def Tb (x y:List (List Int)):CU (dT x) (dT y)=YF x y:=by
 unfold dT;rw [CU];exact Np V1 Tc x y
def V0 (f g:Fo):Cz (fD f) (fD g)=decide (f=g):=by
 unfold fD;rw [Cz,Fz,Fz,Fz,Cz,Ld Mb,V2,M4,Gq,A9,decide_eq_true_iff,decide_eq_true_iff,decide_eq_true_iff];exact ⟨λ h=>Prod.ext (VN h.1) h.2,λ h=>by rw [h];exact ⟨rfl,rfl⟩⟩
def JB (f g:Fo):CU (fD f) (fD g)=EF f g:=by
 unfold fD;rw [CU,Bp,Bp,Bp,Cz,Ld Mb,CU,Np Mb Mv,V2,Tb];unfold EF;by_cases e:b3 f=b3 g
 ·rw [decide_eq_true e,if_pos rfl,if_pos e];by_cases e2:f.2=g.2
  ·rw [decide_eq_true e2,if_pos rfl,e2];exact (Nn (Nn WW)).ir g.2 |>.symm
  ·rw [decide_eq_false e2,if_neg CF]
 ·rw [decide_eq_false e,if_neg CF,if_neg e];rfl
def TY (f g:Fo):BS (fD f) (fD g)=true:=by
 have z:∀ x y:Int,BS (.int x) (.int y)=true:=λ x y=>by rw [BS]
 have i:∀ x y:List Int,BS (dI x) (dI y)=true:=λ x y=>by unfold dI;rw [BS];exact NI z x y
 unfold fD;rw [BS,C2,C2,C2,BS,NI z];unfold dT;rw [BS,NI i];rfl
def Si {fs:List Fo} (hn:fs.Nodup) (h2:2<=fs.length) (h6:fs.length<=6):Ir (fs.map fD)=true:=by
 have hr:DO (fs.map fD)=fs.map (DC EF fs):=by
  unfold DO;rw [De];refine MA λ f hf=>?_;show ((fs.map fD).filter λ D'=>CU D' (fD f)).length=_;rw [T1,AD];unfold DC;congr 1;exact T6 λ y _=>JB y f
 unfold Ir;rw [A9,A9,A9,A9,A9,hr,AD];refine ⟨⟨⟨⟨⟨decide_eq_true ⟨h2,h6⟩,?_⟩,?_⟩,decide_eq_true (UQ zvz hn λ _ h=>h)⟩,?_⟩,?_⟩
 ·rw [Pf,ja7];exact λ f _=>rfl
 ·rw [Pf,ja7];intro f _;show (fs.map fD).all _=true;rw [Pf,ja7];exact λ g _=>TY f g
 ·rw [Pf,ja7];exact λ f hf=>decide_eq_true (SX zvz hf)
 ·rw [ja7];intro i hi;rw [ja7];intro j hj;have hi:=jc7.mp hi;have hj:=jc7.mp hj;have gd:∀ k,k < fs.length->(fs.map fD).getD k .none=fD fs[k]!/\(fs.map (DC EF fs)).getD k 0=DC EF fs fs[k]!/\fs[k]!∈fs:=λ k hk=>by
   have e:(fs[k]!)=fs[k]:=by simp [hk]
   rw [e];refine ⟨?_,?_,E2 hk⟩
   ·rw [Ba,CV,BR hk];rfl
   ·rw [Ba,CV,BR hk];rfl
  obtain ⟨a1,a2,a3⟩:=gd i hi;obtain ⟨b1,b2,b3⟩:=gd j hj;unfold IC;rw [a1,b1,a2,b2,JB,vc zvz a3 b3];exact beq_self_eq_true _
open PySem PySem.Spec PyProof.Rows L2 QQ PySem.SeqAt PySem.W
def Pz:Fo:=((0,0,0),[])
def VX {α β:Type}{fs:List α}{q:α->β}{i:Nat} (h:i < fs.length) (d0:α) (d:β):(fs.map q).getD i d=q (fs.getD i d0):=by
 rw [Ba,CV,BR h,Ba,BR h];rfl
def xX {α:Type}{fs:List α}{i:Nat} (h:i < fs.length) (d0:α):fs.getD i d0∈fs:=by
 rw [Ba,BR h];exact E2 h
def Dm (fs:List Fo):List Fo:=(BW (fs.map fD)).map λ i=>fs.getD i Pz
def OO (fs:List Fo):DO (fs.map fD)=fs.map (DC EF fs):=by
 unfold DO;rw [De];refine MA λ f hf=>?_;show ((fs.map fD).filter λ D'=>CU D' (fD f)).length=_;rw [T1,AD];unfold DC;congr 1;exact T6 λ y _=>JB y f
def yS {fs:List Fo} (hn:fs.Nodup) (h1:1<=fs.length) (h6:fs.length<=6):(Dm fs).map (DC EF fs)=AI fs.length:=by
 by_cases e:fs.length=1
 ·unfold Dm BW;rw [if_pos (by rw [AD];exact e)]
  match fs,e with
  | [f],_=>
   show [DC EF [f] f]=[0];unfold DC;rw [II,zvz.ir,if_neg CF];rfl
 ·have g:=Si hn (by omega) h6;have lr:(DO (fs.map fD)).length=fs.length:=by rw [OO,AD]
  have hn':(DO (fs.map fD)).Nodup:=by rw [OO];exact UQ zvz hn λ _ h=>h
  have ok:=SN (r:=DO (fs.map fD)) (by omega) (by omega) hn' (λ x hx=>by
   rw [lr];rw [OO] at hx;obtain ⟨f,hf,rfl⟩:=jd3.mp hx;exact SX zvz hf)
  rw [lr] at ok;unfold HA at ok;rw [A9,A9] at ok;have em:=eq_of_beq ok.1.2;unfold Dm BW;rw [if_neg (by rw [AD];exact e),AD,De,<- em];refine MA λ i hi=>?_;have hi':=of_decide_eq_true (ja7.mp ok.2 i hi);rw [OO];exact (VX hi' Pz 0).symm
def Xe {fs:List Fo} (hn:fs.Nodup) (h1:1<=fs.length) (h6:fs.length<=6):∀ i∈BW (fs.map fD),i < fs.length:=by
 have g:(fs.map fD).length=1\/Ir (fs.map fD)=true:=by
  by_cases e:fs.length=1
  ·exact .inl (by rw [AD];exact e)
  ·exact .inr (Si hn (by omega) h6)
 intro i hi
 have:=(Sj g).1 i hi
 rw [AD] at this;exact this
def w8 {fs:List Fo} (hn:fs.Nodup) (h1:1<=fs.length) (h6:fs.length<=6) (f:Fo):f∈Dm fs↔f∈fs:=by
 have sub:∀ f,f∈Dm fs->f∈fs:=λ f h=>by
  obtain ⟨i,hi,rfl⟩:=jd3.mp h;exact xX (Xe hn h1 h6 i hi) Pz
 refine ⟨sub f,λ h=>?_⟩;have hr:DC EF fs f∈(Dm fs).map (DC EF fs):=by rw [yS hn h1 h6];exact jc7.mpr (SX zvz h)
 obtain ⟨g,hg,e⟩:=jd3.mp hr;rw [<- X3 zvz (sub g hg) h e];exact hg
def Vv {neg:Bool}{f h:Fx}{ρ ρ1 ρ2:Ag}{x:Fo}{gs:List Fo}{d e:Nat} (h1:f ρ=.ok (fP x,d,ρ1)) (h2:h ρ1=.ok (.lst (gs.map fP),e,ρ2)):Ab (Dn neg) f h ρ=.ok (.bl (neg^^decide (x∈gs)),om,ρ2):=by
 refine C5 h1 h2 ?_;show (match BL 20 (fP x),AN (BL 20) (gs.map fP) with | some a,some bs=>some (PV.bl (neg^^bs.any λ b=>Cz b a),om) | _,_=>none)=_;rw [MI,MG];show some (PV.bl (neg^^(gs.map fD).any λ b=>Cz b (fD x)),om)=_;rw [List.any_map];congr 4;rw [Gq,List.any_eq_true,decide_eq_true_iff];constructor
 ·rintro ⟨y,hy,e⟩;have e:Cz (fD y) (fD x)=true:=e;rw [V0,decide_eq_true_iff] at e;rw [<- e];exact hy
 ·intro hx;exact ⟨x,hx,by show Cz (fD x) (fD x)=true;rw [V0,decide_eq_true rfl]⟩
def BK (acc:List Fo) (x:Fo):List Fo:=if x∈acc then acc else acc++[x]
def Hy (L:List Fo):List Fo:=L.foldl BK []
theorem X7 (L:List Fo):∀ acc:List Fo,acc.Nodup->(L.foldl BK acc).Nodup/\(∀ x,x∈L.foldl BK acc↔x∈acc\/x∈L)/\(L.foldl BK acc).length<=acc.length + L.length:=by
 induction L with
 | nil=>exact λ acc h=>⟨h,λ x=>by simp,Bj _⟩
 | cons y L ih=>
  intro acc h;rw [YY];unfold BK;by_cases e:y∈acc
  ·rw [if_pos e];obtain ⟨q1,q2,q3⟩:=ih acc h;refine ⟨q1,λ x=>?_,by rw [Bl];unfold BK at q3;omega⟩;rw [show (L.foldl (λ acc x=>if x∈acc then acc else acc++[x]) acc)=L.foldl BK acc from rfl,q2 x,jb2];exact ⟨λ z=>z.elim .inl λ w=>.inr (.inr w),λ z=>z.elim .inl λ w=>w.elim (λ v=>.inl (by rw [v];exact e)) .inr⟩
  ·rw [if_neg e];have hn:(acc++[y]).Nodup:=by
    rw [List.nodup_append];refine ⟨h,by simp,λ a ha b hb=>?_⟩;rw [jb1.mp hb];exact λ z=>e (z ▸ ha)
   obtain ⟨q1,q2,q3⟩:=ih (acc++[y]) hn;refine ⟨q1,λ x=>?_,?_⟩
   ·rw [show (L.foldl (λ acc x=>if x∈acc then acc else acc++[x]) (acc++[y]))=L.foldl BK (acc++[y]) from rfl,q2 x,jc6,jb1,jb2,or_assoc]
   ·rw [BQ] at q3;rw [Bl];unfold BK at q3;simp only [Bl,IG] at q3;omega
def Xp {f:Fo}:(Hy (ED f)).Nodup/\(∀ x,x∈Hy (ED f)↔x∈ED f)/\1<=(Hy (ED f)).length/\(Hy (ED f)).length<=6:=by
 obtain ⟨q1,q2,q3⟩:=X7 (ED f) [] .nil;refine ⟨q1,λ x=>by rw [show Hy (ED f)=(ED f).foldl BK [] from rfl,q2 x];simp,?_,q3⟩
 have:f∈Hy (ED f):=(q2 f).mpr (.inr AR)
 exact List.length_pos_of_mem this
end QV
namespace K50
open PySem PySem.Spec PyProof.Rows L2 QQ QV
def kK {fs:List Fo}{d:Nat} (hn:fs.Nodup) (h1:1<=fs.length) (h6:fs.length<=6):Hq [(.lst (fs.map fP),d)]=some (.lst ((Dm fs).map fP),1):=by
 show OV [(.lst (fs.map fP),d)]=_;unfold OV;dsimp only;rw [MG];dsimp only;rw [if_pos (by
  by_cases e:fs.length=1
  ·exact .inl (by rw [AD];exact e)
  ·exact .inr (Si hn (by omega) h6))]
 congr 3;unfold Dm;rw [De];exact MA λ i hi=>VX (Xe hn h1 h6 i hi) Pz _
def xu {f:Fo} (h:FOk f):Lb [fP f]=.ok (fP (fM f),om,.non):=by
 obtain ⟨⟨a,b,c⟩,t⟩:=f;obtain ⟨p,ha,hb,hc⟩:=h;let R (s1 s2 s3 s4 s5:QQ.Slot):Ag:=[some (fP ((a,b,c),t),0),s1,s2,s3,s4,s5]
 let B:QQ.Slot:=some (bx a b c,0);let T:QQ.Slot:=some (tb t,0);have v1:Cc (Cf [1,2]) (Aa 0) [0] (R none none none none none)=.nx (R B T none none none):=Pb rfl rfl;let I (n:Nat):QQ.Slot:=some (.int (n:Int),om);have v2:Cc (Cf [3,4,5]) (Aa 1) [1] (R B T none none none)=.nx (R B T (I a) (I b) (I c)):=Pb rfl rfl;have e:=AJ (fa:=Ad (Aa 1) (Ad (Aa 2) (Ac))) (ρ:=R B T (I a) (I b) (I c)) rfl (Wf p ⟨ha.1,AW ha.2 (by decide)⟩ ⟨hb.1,AW hb.2 (by decide)⟩ hc.1);exact Bw rfl ((Ax v1).trans ((Ax v2).trans (Ci (BZ (Bg rfl (Bf e)) rfl))))
def V7 {f:Fo} (h:FOk f):IU [fP f]=.ok (fP (fR f),om,.non):=by
 obtain ⟨⟨a,b,c⟩,t⟩:=f;obtain ⟨p,ha,hb,hc⟩:=h;let R (s1 s2 s3 s4 s5:QQ.Slot):Ag:=[some (fP ((a,b,c),t),0),s1,s2,s3,s4,s5]
 let B:QQ.Slot:=some (bx a b c,0);let T:QQ.Slot:=some (tb t,0);have v1:Cc (Cf [1,2]) (Aa 0) [0] (R none none none none none)=.nx (R B T none none none):=Pb rfl rfl;let I (n:Nat):QQ.Slot:=some (.int (n:Int),om);have v2:Cc (Cf [3,4,5]) (Aa 1) [1] (R B T none none none)=.nx (R B T (I a) (I b) (I c)):=Pb rfl rfl;have e:=AJ (fa:=Ad (Aa 1) (Ad (Aa 2) (Ac))) (ρ:=R B T (I a) (I b) (I c)) rfl (W7 p ⟨ha.1,AW ha.2 (by decide)⟩ ⟨hb.1,AW hb.2 (by decide)⟩ ⟨hc.1,AW hc.2 (by decide)⟩);exact Bw rfl ((Ax v1).trans ((Ax v2).trans (Ci (BZ (Bg rfl (Bf e)) rfl))))
def IB:Fs:=AV (bT (Ab (Dn true) (Aa 6) (Aa 3))) (BE 3 (Aa 6) [6]) Ao
variable {s0 s1 s2 s4 s5 s6:QQ.Slot}
def vz {acc:List Fo}{x:Fo}{d3:Nat} (hd:d3=om\/d3=1) (hl:acc.length<=100):∃ d3',(d3'=om\/d3'=1)/\IB [s0,s1,s2,some (.lst (acc.map fP),d3),s4,s5,some (fP x,0)]=.nx [s0,s1,s2,some (.lst ((BK acc x).map fP),d3'),s4,s5,some (fP x,0)]:=by
 have z:=sz;let R:Ag:=[s0,s1,s2,some (.lst (acc.map fP),d3),s4,s5,some (fP x,0)]
 have c:=Vv (neg:=true) (f:=Aa 6) (h:=Aa 3) (ρ:=R) rfl rfl;unfold BK;by_cases e:x∈acc
 ·rw [decide_eq_true e] at c;rw [if_pos e];exact ⟨d3,hd,(BH (A8 c)).trans rfl⟩
 ·rw [decide_eq_false e] at c;rw [if_neg e];refine ⟨1,.inr rfl,(AQ (A8 c)).trans ?_⟩;have em:(acc++[x]).map fP=acc.map fP++[fP x]:=by rw [Hh];rfl
  rw [em];rcases hd with rfl | rfl
  ·exact Je rfl rfl rfl (by decide) (by rw [AD];omega) rfl
  ·exact Je rfl rfl rfl (by decide) (by rw [AD];omega) rfl
def jJ (acc:List Fo) (x:Fo):(BK acc x).length<=acc.length + 1:=by
 unfold BK;split
 ·omega
 ·rw [BQ];exact Bj _
theorem Vx:∀ (L:List Fo) (acc:List Fo) (d3:Nat) (s6:QQ.Slot),(d3=om\/d3=1)->acc.length + L.length<=100->∃ d3' s6',(d3'=om\/d3'=1)/\Cg (asgN 6) IB (L.map fP) [s0,s1,s2,some (.lst (acc.map fP),d3),s4,s5,s6]=.nx [s0,s1,s2,some (.lst ((L.foldl BK acc).map fP),d3'),s4,s5,s6']
 | [],acc,d3,s6,hd,_=>⟨d3,s6,hd,rfl⟩
 | x::L,acc,d3,s6,hd,hl=>by
  rw [Bl] at hl;obtain ⟨d1,h1,e1⟩:=vz (acc:=acc) hd (by omega)
  have:=jJ acc x
  obtain ⟨d2,s6',h2,e2⟩:=Vx L (BK acc x) d1 (some (fP x,0)) h1 (by omega);refine ⟨d2,s6',h2,?_⟩;rw [BF];unfold Cg;show (match IB [s0,s1,s2,some (.lst (acc.map fP),d3),s4,s5,some (fP x,0)] with
   | .nx ρ2=>Cg (asgN 6) IB (L.map fP) ρ2
   | .ct ρ2=>Cg (asgN 6) IB (L.map fP) ρ2
   | .bk ρ2=>.nx ρ2
   | .rt y e ρ2=>.rt y e ρ2
   | .exc c=>.exc c
   | .no=>.no)=_
  rw [e1];exact e2
def OB:Fs:=Af (Ah false 5 (Al IU (Ad (Aa 4) (Ac))) [4]) (D0 (Ak AL (Ad (Aa 4) (Ad (Aa 5) (Ad (Al IU (Ad (Aa 5) (Ac))) (Ac))))) [4,5,5] (asgN 6) IB)
def outer {acc:List Fo}{x:Fo}{d3:Nat} (h:FOk x) (hd:d3=om\/d3=1) (hl:acc.length<=50):∃ d3' s5' s6',(d3'=om\/d3'=1)/\OB [s0,s1,s2,some (.lst (acc.map fP),d3),some (fP x,0),s5,s6]=.nx [s0,s1,s2,some (.lst (([x,fR x,fR (fR x)].foldl BK acc).map fP),d3'),some (fP x,0),s5',s6']:=by
 let R (s5 s6:QQ.Slot):Ag:=[s0,s1,s2,some (.lst (acc.map fP),d3),some (fP x,0),s5,s6]
 have v1:Ah false 5 (Al IU (Ad (Aa 4) (Ac))) [4] (R s5 s6)=.nx (R (some (fP (fR x),om)) s6):=setF (AJ rfl (V7 h)) (show 5 < 7 by decide) rfl;let R1:Ag:=R (some (fP (fR x),om)) s6;have e1:=BZ (op:=AL) (Bg (f:=Aa 4) (ρ:=R1) rfl (Bg (f:=Aa 5) rfl (Bf (AJ (fa:=Ad (Aa 5) (Ac)) rfl (V7 h.r))))) rfl;obtain ⟨d3',s6',h3,e2⟩:=Vx [x,fR x,fR (fR x)] acc d3 s6 hd (by show _ + 3<=100;omega);refine ⟨d3',some (fP (fR x),0),s6',h3,(Ax v1).trans ?_⟩;unfold D0;rw [e1];exact e2
def jL:PQ=Af (Bc (Al F7 (Ad (Aa 0) (Ad (Aa 1) (Ac))))) (Af (Ah false 2 (Ak Bx (Ad (Aa 0) (Ad (Al MV (Ad (Aa 1) (Ac))) (Ac)))) [0,1]) (Af (Ah false 3 (Ak AL (Ac)) []) (Af (D0 (Ak AL (Ad (Aa 2) (Ad (Al Lb (Ad (Aa 2) (Ac))) (Ac)))) [2,2] (asgN 4) OB) (An (Ak Hq (Ad (Aa 3) (Ac))))))):=rfl
def Ys {f:Fo} (h:FOk f):EI [bx f.1.1 f.1.2.1 f.1.2.2,tb f.2]=.ok (.lst ((Dm (Hy (ED f))).map fP),1,.non):=by
 have z:=sz;obtain ⟨p,ha,hb,hc⟩:=id h;have l:=p.tab.1;let S (s2 s3 s4 s5 s6:QQ.Slot):Ag:=[some (bx f.1.1 f.1.2.1 f.1.2.2,0),some (tb f.2,0),s2,s3,s4,s5,s6]
 have v0:Bc (Al F7 (Ad (Aa 0) (Ad (Aa 1) (Ac)))) (S none none none none none)=.nx (S none none none none none):=CJ (AJ rfl (Hu p.tab (by omega) (by omega) (by omega) ((GN p.tab).mpr p)));have v1:Ah false 2 (Ak Bx (Ad (Aa 0) (Ad (Al MV (Ad (Aa 1) (Ac))) (Ac)))) [0,1] (S none none none none none)=.nx (S (some (fP f,0)) none none none none):=setF (BZ (Bg rfl (Bf (AJ rfl (wo (by omega))))) rfl) (show 2 < 7 by decide) rfl;let FF:QQ.Slot:=some (fP f,0);have v2:Ah false 3 (Ak AL (Ac)) [] (S FF none none none none)=.nx (S FF (some (.lst (([]:List Fo).map fP),om)) none none none):=by rfl
 let R2:Ag:=S FF (some (.lst (([]:List Fo).map fP),om)) none none none;have e3:=BZ (op:=AL) (Bg (f:=Aa 2) (ρ:=R2) rfl (Bf (AJ (fa:=Ad (Aa 2) (Ac)) rfl (xu h)))) rfl;obtain ⟨d1,t5,t6,h1,o1⟩:=outer (acc:=[]) h (.inl rfl) (by decide);have l1:([f,fR f,fR (fR f)].foldl BK []).length<=3:=(X7 [f,fR f,fR (fR f)] [] .nil).2.2;obtain ⟨d2,u5,u6,h2,o2⟩:=outer (acc:=[f,fR f,fR (fR f)].foldl BK []) h.m h1 (by omega);have v3:D0 (Ak AL (Ad (Aa 2) (Ad (Al Lb (Ad (Aa 2) (Ac))) (Ac)))) [2,2] (asgN 4) OB R2=.nx (S FF (some (.lst ((Hy (ED f)).map fP),d2)) (some (fP (fM f),0)) u5 u6):=by
  unfold D0;rw [e3];show Cg (asgN 4) OB [fP f,fP (fM f)] (S FF (some (.lst (([]:List Fo).map fP),om)) none none none)=_;unfold Cg;show (match OB [some (bx f.1.1 f.1.2.1 f.1.2.2,0),some (tb f.2,0),FF,some (.lst (([]:List Fo).map fP),om),some (fP f,0),none,none] with
   | .nx ρ2=>Cg (asgN 4) OB [fP (fM f)] ρ2
   | .ct ρ2=>Cg (asgN 4) OB [fP (fM f)] ρ2
   | .bk ρ2=>.nx ρ2
   | .rt y e ρ2=>.rt y e ρ2
   | .exc c=>.exc c
   | .no=>.no)=_
  rw [o1];show Cg (asgN 4) OB [fP (fM f)] _=_;unfold Cg;show (match OB [some (bx f.1.1 f.1.2.1 f.1.2.2,0),some (tb f.2,0),FF,some (.lst (([f,fR f,fR (fR f)].foldl BK []).map fP),d1),some (fP (fM f),0),t5,t6] with
   | .nx ρ2=>Cg (asgN 4) OB [] ρ2
   | .ct ρ2=>Cg (asgN 4) OB [] ρ2
   | .bk ρ2=>.nx ρ2
   | .rt y e ρ2=>.rt y e ρ2
   | .exc c=>.exc c
   | .no=>.no)=_
  rw [o2];rfl
 obtain ⟨q1,q2,q3,q4⟩:=Xp;have hF:EI=Am false 2 5 PQ:=rfl;rw [hF,jL];refine Bw rfl ((Ax v0).trans ((Ax v1).trans ((Ax v2).trans ((Ax v3).trans (Ci (BZ (Bf rfl) (kK q1 q3 q4)))))))
def v5 {f x:Fo} (h:FOk f) (hx:FOk x):Ic [bx f.1.1 f.1.2.1 f.1.2.2,tb f.2,bx x.1.1 x.1.2.1 x.1.2.2,tb x.2]=.ok (.bl (decide (x∈ED f)),om,.non):=by
 obtain ⟨p,ha,hb,hc⟩:=id h;obtain ⟨p',ha',hb',hc'⟩:=id hx;let R:Ag:=[some (bx f.1.1 f.1.2.1 f.1.2.2,0),some (tb f.2,0),some (bx x.1.1 x.1.2.1 x.1.2.2,0),some (tb x.2,0)]
 have bx1:Dg f.1.1 f.1.2.1 f.1.2.2=true:=by unfold Dg;rw [decide_eq_true (by omega),decide_eq_true (by omega),decide_eq_true (by omega)];rfl
 have bx2:Dg x.1.1 x.1.2.1 x.1.2.2=true:=by unfold Dg;rw [decide_eq_true (by omega),decide_eq_true (by omega),decide_eq_true (by omega)];rfl
 have v0:Bc (Al F2 (Ad (Aa 0) (Ac))) R=.nx R:=CJ (AJ rfl (Lf bx1));have v1:Bc (Al F2 (Ad (Aa 2) (Ac))) R=.nx R:=CJ (AJ rfl (Lf bx2));have v2:Bc (Al F7 (Ad (Aa 0) (Ad (Aa 1) (Ac)))) R=.nx R:=CJ (AJ rfl (Hu p.tab (by omega) (by omega) (by omega) ((GN p.tab).mpr p)));have v3:Bc (Al F7 (Ad (Aa 2) (Ad (Aa 3) (Ac)))) R=.nx R:=CJ (AJ rfl (Hu p'.tab (by omega) (by omega) (by omega) ((GN p'.tab).mpr p')));have e:=Vv (neg:=false) (BZ (op:=Bx) (Bg (f:=Aa 2) (ρ:=R) rfl (Bf (f:=Aa 3) rfl)) rfl) (AJ (fa:=Ad (Aa 0) (Ad (Aa 1) (Ac))) rfl (Ys h));obtain ⟨q1,q2,q3,q4⟩:=Xp;rw [IE,show decide (x∈Dm (Hy (ED f)))=decide (x∈ED f) from decide_eq_decide.mpr ((w8 q1 q3 q4 x).trans (q2 x))] at e;exact Bw rfl ((Ax v0).trans ((Ax v1).trans ((Ax v2).trans ((Ax v3).trans (Ci e)))))
end K50
namespace QV
open PySem PySem.Spec PyProof.Rows L2 QQ
section
variable {a b c n:Nat}{x y:PV}
end
def ME {n k:Nat} (h:k < n):CB n (k:Int)=some k:=by
 unfold CB;rw [if_pos (by omega),DD,if_pos (by omega)]
def xS {n k:Nat}{xs:List PV}{y:PV} (hl:xs.length<=1000) (h:∀ x∈xs,Bv n x=true) (hy:Bv n y=true):Bv (n + 1) (.lst (xs.set k y))=true:=
 Ho (by rw [Ei];exact hl) λ x hx=>(Px hx).elim (h x) λ e=>by rw [e];exact hy
def Xb {f g:Fx}{ρ ρ1 ρ2:Ag}{xs:List PV}{k d e:Nat} (h1:f ρ=.ok (.lst xs,d,ρ1)) (h2:g ρ1=.ok (.int (k:Int),e,ρ2)) (hk:k < xs.length):Ab Ai f g ρ=.ok (xs[k],dv xs[k],ρ2):=by
 refine C5 h1 h2 ?_;show (BB xs (k:Int)).map (λ z=>(z,dv z))=_;rw [Dy (by omega) (by rw [DD];exact BR hk)];rfl
def WV {fa:Fa}{ρ ρ1:Ag}{xs:List (PV×Nat)} (h:fa ρ=.ok (xs,ρ1)) (hl:xs.length<=Aw):∃ d,Ak AL fa ρ=.ok (.lst (xs.map (·.1)),d,ρ1):=⟨_,BZ h (by unfold AL;rw [if_pos hl])⟩
theorem Y6:∀ r:List Int,atoms (r.map PV.int)=true
 | []=>rfl
 | x::r=>by show (true && atoms (r.map PV.int))=true;rw [Y6 r];rfl
def SS {n:Nat}{r:List Int}{xs:List PV} (hx:∀ x∈xs,x∈r.map PV.int\/x=.int 0):∀ x∈xs,Bv (n + 1) x=true:=λ x h=>by
 rcases hx x h with h | h
 ·obtain ⟨i,_,rfl⟩:=jd3.mp h;rfl
 ·rw [h];rfl
def yj {d:Nat}{vs:List Nat}{ρ:Ag}:(Bi d vs ρ).length=ρ.length:=by
 unfold Bi;split
 ·rfl
 ·exact Lh vs ρ 0
def yi {d j:Nat}{vs:List Nat}{ρ:Ag} (h:vs.contains j=false):(Bi d vs ρ)[j]?=ρ[j]?:=by
 unfold Bi;split
 ·rfl
 ·rw [Jc,JD,h];cases ρ[j]? with
  | none=>rfl
  | some s=>rfl
def SJ {i d:Nat}{f:Fx}{vs:List Nat}{ρ ρ1:Ag}{x:PV} (h:f ρ=.ok (x,d,ρ1)) (hc:i < ρ1.length):Ah false i f vs ρ=.nx ((Bi d vs ρ1).set i (some (x,d))):=setF h hc rfl
section
variable {a b c:Nat}{t:List (List Int)}{x x':PV}{ρ:Ag}
def OL {n:Nat} (ht:Tab a b t) (hb:b<=100):∀ x∈t.map il,Bv (n + 2) x=true:=λ x hx=>by
 obtain ⟨r,hr,rfl⟩:=jd3.mp hx;exact RM (by rw [ht.2 r hr];omega)
end
end QV
namespace K50
open PySem PySem.Spec PyProof.Rows L2 QQ QV
def Jh {f h:Fx}{ρ ρ1 ρ2:Ag}{i j:Int}{d e:Nat} (h1:f ρ=.ok (.int i,d,ρ1)) (h2:h ρ1=.ok (.int j,e,ρ2)):Ab (Ap false) f h ρ=.ok (.bl (decide (i=j)),om,ρ2):=by
 have:=GP (neg:=false) h1 h2
 rwa [IE] at this
def IZ (x:Int) {n:Nat} (hn:1<=n):∃ m:Nat,m < n/\x % (n:Int)=(m:Int):=by
 have h1:=IF x (b:=(n:Int)) (by omega);have h2:=JG x (b:=(n:Int)) (by omega);exact ⟨(x % (n:Int)).toNat,by omega,by omega⟩
def Kl {i j a b d1 d2:Nat}{fi fj f:Fx}{ρ:Ag}{v:Int}{u:List (List Int)} (h:f ρ=.ok (.int v,om,ρ)) (hx:ρ[5]?=some (some (tb u,om))) (h1:fi ρ=.ok (.int (i:Int),d1,ρ)) (h2:fj ρ=.ok (.int (j:Int),d2,ρ)) (ht:Tab a b u) (hi:i < a) (hj:j < b):Eu 5 fi fj f ρ=.nx (ρ.set 5 (some (tb (Dc u i j v),om))):=by
 refine kW h hx h1 h2 ?_ rfl rfl;have hr:=ht.row hi;have hk:(u.map il)[i]?=some (.lst ((u.getD i []).map PV.int)):=by
  rw [CV,Ba,BR (by rw [ht.1];exact hi)];rfl
 show DV (.lst (u.map il)) (i:Int) (j:Int) (.int v)=_;unfold DV;dsimp only;rw [ME (by rw [AD,ht.1];exact hi)];dsimp only;rw [hk];dsimp only;rw [ME (by rw [AD,hr];exact hj)];dsimp only;unfold Dc;show some (PV.lst ((u.map il).set i (.lst (((u.getD i []).map PV.int).set j (.int v)))))=some (PV.lst ((u.set i ((u.getD i []).set j v)).map il));rw [Pg,<- Pg];rfl
def kX {i:Nat}{fi fj f:Fx}{ρ ρ1:Ag}{y:PV}{rows cells:List PV}{k j d1 d2:Nat} (h:f ρ=.ok (y,om,ρ1)) (hx:ρ1[i]?=some (some (.lst rows,om))) (h1:fi ρ1=.ok (.int (k:Int),d1,ρ1)) (h2:fj ρ1=.ok (.int (j:Int),d2,ρ1)) (hk:rows[k]?=some (.lst cells)) (hj:j < cells.length):∃ d,Eu i fi fj f ρ=.nx (ρ1.set i (some (.lst (rows.set k (.lst (cells.set j y))),d))):=by
 have hp:DV (.lst rows) (k:Int) (j:Int) y=some (.lst (rows.set k (.lst (cells.set j y)))):=by
  unfold DV;dsimp only;rw [ME (ja9.mp hk).1];dsimp only;rw [hk];dsimp only;rw [ME hj]
 unfold Eu;rw [h];dsimp only;rw [hx];dsimp only;rw [h1];dsimp only;rw [h2];dsimp only;rw [hp];dsimp only;by_cases hy:Fq y=true
 ·exact ⟨om,by rw [if_pos ⟨rfl,hy⟩]⟩
 ·exact ⟨0,by rw [if_neg (λ z=>hy z.2),if_pos ⟨rfl,rfl⟩]⟩
def Yl {i:Nat}{fk f:Fx}{ρ ρ1:Ag}{y:PV}{xs:List PV}{k d2:Nat} (h:f ρ=.ok (y,om,ρ1)) (h0:ρ1[i]?=some (some (.lst xs,om))) (hk:fk ρ1=.ok (.int (k:Int),d2,ρ1)) (hj:k < xs.length):∃ d,DQ i fk f ρ=.nx (ρ1.set i (some (.lst (xs.set k y),d))):=by
 unfold DQ;rw [h];dsimp only;rw [h0];dsimp only;rw [hk];dsimp only;rw [h0];dsimp only [EU];rw [ME hj];dsimp only;by_cases hy:Fq y=true
 ·exact ⟨om,by rw [if_pos ⟨by decide,hy⟩]⟩
 ·exact ⟨1,by rw [if_neg (λ z=>hy z.2),if_pos ⟨by decide,rfl,rfl⟩]⟩
def SF {f g:Fx}{ρ ρ1 ρ2:Ag}{xs:List PV}{k e:Nat} (h1:f ρ=.ok (.lst xs,om,ρ1)) (h2:g ρ1=.ok (.int (k:Int),e,ρ2)) (hk:k < xs.length):Ab Jj f g ρ=.ok (xs[k],om,ρ2):=by
 refine C5 h1 h2 ?_;show (BB xs (k:Int)).map (λ z=>(z,if om=om then om else dv z))=_;rw [Dy (by omega) (by rw [DD];exact BR hk)];rfl
def wy (n:Int):Fb:=bT (Ab (Ap false) (Aa 6) (bC (.int n)))
def RW {ρ:Ag}{w n:Int} (h:ρ[6]?=some (some (.int w,om))):wy n ρ=.ok (decide (w=n),ρ):=A8 (Jh (d:=om) (by unfold Aa;rw [h];rfl) rfl)
def TL:List (Int×Fs)->Fs
 | []=>Dt 5
 | p::r=>Af (AV (wy p.1) p.2 Ao) (TL r)
theorem SQ {ρ:Ag}{w:Int} (h:ρ[6]?=some (some (.int w,om))):∀ {As:List (Int×Fs)},(∀ p∈As,p.1≠w)->TL As ρ=Dt 5 ρ
 | [],_=>rfl
 | p::r,ha=>by
  have t:=RW (n:=p.1) h;rw [decide_eq_false (λ e=>ha p AR e.symm)] at t;exact (D3 t).trans (SQ h λ q hq=>ha q (AO _ hq))
theorem Ws {ρ ρ':Ag}{w:Int}{A:Fs} (hA:A ρ=.nx ρ') (h:ρ[6]?=some (some (.int w,om))) (h':ρ'[6]?=some (some (.int w,om))):∀ {L R:List (Int×Fs)},(∀ p∈L,p.1≠w)->(∀ p∈R,p.1≠w)->TL (L++(w,A)::R) ρ=Dt 5 ρ'
 | [],R,_,hR=>by
  have t:=RW (n:=w) h;rw [decide_eq_true rfl] at t;exact (Ax ((AQ t).trans hA)).trans (SQ h' hR)
 | p::L,R,hL,hR=>by
  have t:=RW (n:=p.1) h;rw [decide_eq_false (λ e=>hL p AR e.symm)] at t;exact (D3 t).trans (Ws hA h h' (λ q hq=>hL q (AO _ hq)) hR)
def RD {ρ:Ag}{y:PV}{d:Nat} (h:ρ[5]?=some (some (y,d))):Dt 5 ρ=.rt y d ρ:=by unfold Dt;rw [h]
def B8:Fs:=Af (Ah false 4 (Ab Az (bC (.int 1)) (Ab A0 (Ab Ai (Aa 2) (bC (.int 1))) (Ab Br (Ab Ai (Aa 0) (bC (.int 1))) (bC (.int 1))))) [2,0])
 (Af (Eu 5 (Aa 3) (Ab Br (Aa 4) (bC (.int 1))) (Ak Es (Ad (Ab Ai (Ab Ai (Aa 5) (Aa 3)) (Ab Br (Aa 4) (bC (.int 1)))) (Ad (Ab Br (Ab Ai (Aa 0) (bC (.int 2))) (bC (.int 1))) (Ac)))))
 (Eu 5 (Aa 3) (Aa 4) (Ab Az (Ab Ai (Ab Ai (Aa 5) (Aa 3)) (Ab Br (Aa 4) (bC (.int 1)))) (bC (.int 1)))))
def B9:Fs:=Af (Ah false 3 (Ab Az (bC (.int 1)) (Ab A0 (Ab Ai (Aa 2) (bC (.int 0))) (Ab Br (Ab Ai (Aa 0) (bC (.int 0))) (bC (.int 1))))) [2,0])
 (Af (Eu 5 (Ab Br (Aa 3) (bC (.int 1))) (Aa 4) (Ak Es (Ad (Ab Ai (Ab Ai (Aa 5) (Ab Br (Aa 3) (bC (.int 1)))) (Aa 4)) (Ad (Ab Br (Ab Ai (Aa 0) (bC (.int 2))) (bC (.int 1))) (Ac)))))
 (Eu 5 (Aa 3) (Aa 4) (Ab Az (Ab Ai (Ab Ai (Aa 5) (Ab Br (Aa 3) (bC (.int 1)))) (Aa 4)) (bC (.int 1)))))
def B0:Fs:=Eu 5 (Aa 3) (Aa 4) (Ab Az (Ab Az (Ab Ai (Aa 0) (bC (.int 2))) (bC (.int 1))) (Ab A0 (Ab Ai (Aa 2) (bC (.int 0))) (bC (.int 3))))
def R9:Fb:=bT (Cu (Ab (Ap false) (Aa 6) (bC (.int 8))) (Ab (AS λ i j=>decide (j < i)) (Ab Ai (Aa 0) (bC (.int 1))) (bC (.int 1))))
def R8:Fb:=bT (Cu (Ab (Ap false) (Aa 6) (bC (.int 9))) (Ab (AS λ i j=>decide (j < i)) (Ab Ai (Aa 0) (bC (.int 0))) (bC (.int 1))))
def tO:Fb:=bT (By (Ab (Ap false) (Aa 6) (bC (.int 0))) (Ab (AS λ i j=>decide (j < i)) (Aa 6) (bC (.int 7))))
def CH:Fs:=AV R9 B8 (AV R8 B9 (AV tO B0 Ao))
def A1:Fs:=Eu 5 (Aa 3) (Aa 4) (Ay Cp (bC (.int 1)))
def A2:Fs:=Ah false 5 (Ab Az (Aa 5) (Ak AL (Ad (C4 BU (Ad (Ab Ai (Aa 0) (bC (.int 1))) (Ac)) 1 (asgN 7) Bn (bC (.int 0))) (Ac)))) [5]
def l3:Fa:=Ad (Ab Az (Ab Ai (Aa 5) (Aa 3)) (Ak AL (Ad (bC (.int 0)) (Ac)))) (Ad (C3 (Ab Ai (Aa 5) (Aa 3)) none (some (Ay Cp (bC (.int 1))))) (Ac))
def A3:Fs:=DQ 5 (Aa 3) (Ab Jj (Ak GR l3) (Ab A0 (Ab Ai (Aa 2) (bC (.int 1))) (bC (.int 2))))
def l4:Fa:=Ad (Ak GU (Ad (Ab Ai (Aa 5) (Aa 3)) (Ac))) (Ad (bC .non) (Ad (bC (.int 7)) (Ad (bC (.str "row")) (Ad (bC .emp) (Ac)))))
def A4:Fs:=DQ 5 (Aa 3) (Ab Jj (Ak GR l4) (Ab A0 (Ab Ai (Aa 2) (bC (.int 1))) (bC (.int 5))))
def A5:Fs:=Ah false 5 (Ab Az (C3 (Aa 5) none (some (Aa 3))) (C3 (Aa 5) (some (Ab Az (Aa 3) (bC (.int 1)))) none)) [5,5]
def l6:Fa:=Ad (bC (.bl true)) (Ad (bC .non) (Ad (Ak Mf (Ad (Ab Ai (Ab Ai (Aa 5) (Aa 3)) (Aa 4)) (Ac))) (Ac)))
def A6:Fs:=Eu 5 (Aa 3) (Aa 4) (Ab Jj (Ak GR l6) (Ab A0 (Ab Ai (Aa 2) (bC (.int 0))) (bC (.int 3))))
def l7:Fa:=Ad (bC .non) (Ad (bC (.int 7)) (Ad (Ak AL (Ac)) (Ad (bC (.str "pile")) (Ad (Ak Bx (Ac)) (Ad (bC .emp) (Ad (Ak GU (Ad (Aa 5) (Ac))) (Ac)))))))
def A7:Fs:=Ah false 5 (Ab Ai (Ak AL l7) (Ab A0 (Ab Ai (Aa 2) (bC (.int 0))) (bC (.int 7)))) [5,2]
def jn:PN=Af (Ah false 3 (Ab A0 (Ab Ai (Aa 2) (bC (.int 0))) (Ab Ai (Aa 0) (bC (.int 0)))) [2,0])
 (Af (Ah false 4 (Ab A0 (Ab Ai (Aa 2) (bC (.int 1))) (Ab Ai (Aa 0) (bC (.int 1)))) [2,0])
 (Af (Ah false 5 (BN (Aa 1) 1 (asgN 7) Bn (Ak Ef (Ad (Aa 7) (Ac)))) [1,1])
 (Af (Ah false 6 (Ab A0 (Ab Ai (Aa 2) (bC (.int 2))) (bC (.int 10))) [2])
 (Af CH (TL [(1,A1),(2,A2),(3,A3),(4,A4),(5,A5),(6,A6),(7,A7)]))))):=by kernel_rfl
section
variable {a b c i j:Nat}{t:List (List Int)}{ys:List Int}
def GB (a b c:Nat) (t:List (List Int)) (ys:List Int) (s3 s4 s5 s6:QQ.Slot):Ag:=[some (bx a b c,0),some (tb t,0),some (il ys,0),s3,s4,s5,s6]
def AE (a b c:Nat) (t:List (List Int)) (ys:List Int) (i j:Nat) (u:List (List Int)) (w:Nat):Ag:=GB a b c t ys (some (.int (i:Int),om)) (some (.int (j:Int),om)) (some (tb u,om)) (some (.int (w:Int),om))
def K3 {k:Nat}{ρ:Ag} (hy:3<=ys.length) (hk:k < 3) (h:Aa 2 ρ=.ok (il ys,0,ρ)):Ab Ai (Aa 2) (bC (.int (k:Int))) ρ=.ok (.int (ys.getD k 0),om,ρ):=FV h rfl (Dy (by omega) (Ee (by rw [DD];omega)))
def Lm {u:List (List Int)}{w i2 j2:Nat}{fi fj:Fx}{d e:Nat} (hu:Tab a b u) (hi:i2 < a) (hj:j2 < b) (h1:fi (AE a b c t ys i j u w)=.ok (.int (i2:Int),d,AE a b c t ys i j u w)) (h2:fj (AE a b c t ys i j u w)=.ok (.int (j2:Int),e,AE a b c t ys i j u w)):Ab Ai (Ab Ai (Aa 5) fi) fj (AE a b c t ys i j u w)=.ok (.int (g u i2 j2),om,AE a b c t ys i j u w):=by
 have hr:=hu.row hi;have e1:=Ki (f:=Aa 5) (ρ:=AE a b c t ys i j u w) (r:=u.getD i2 []) rfl h1 (Dy (by omega) (by rw [DD,Ba,BR (by rw [hu.1];exact hi)];rfl));exact FV e1 h2 (Dy (by omega) (Ee (by rw [DD,hr];exact hj)))
end
section
variable {a b c i j w:Nat}{t:List (List Int)}{ys:List Int}
def zJ {u:List (List Int)}:R9 (AE a b c t ys i j u w)=.ok (decide ((w:Int)=8) && decide ((1:Int) < b),AE a b c t ys i j u w):=A8 (DF (Jh rfl rfl) (λ _=>E7 rfl rfl) rfl)
def zK {u:List (List Int)}:R8 (AE a b c t ys i j u w)=.ok (decide ((w:Int)=9) && decide ((1:Int) < a),AE a b c t ys i j u w):=A8 (DF (Jh rfl rfl) (λ _=>E7 rfl rfl) rfl)
def qV {u:List (List Int)}:tO (AE a b c t ys i j u w)=.ok (decide ((w:Int)=0) || decide ((7:Int) < w),AE a b c t ys i j u w):=A8 (FW (Jh rfl rfl) (λ _=>E7 rfl rfl) rfl)
def Chd (a b c w:Nat) (ρ':Ag):Prop:=∃ u d,ρ'[5]?=some (some (tb u,d))/\ρ'[6]?=some (some (.int (w:Int),om))/\Tab a b u/\¬ Pile a b c u
def qD (p:Pile a b c t) (ha:1<=a/\a<=6) (hb:1<=b/\b<=6) (hc:1<=c/\c<=6) (hy:3<=ys.length) (hi:i < a) (h1:1 < b):∃ ρ',B8 (AE a b c t ys i j t w)=.nx ρ'/\Chd a b c w ρ':=by
 have sb:=FO (f:=Ab Ai (Aa 0) (bC (.int 1))) (g:=bC (.int 1)) (ρ:=AE a b c t ys i j t w) rfl rfl;have m:=CY (K3 (k:=1) hy (by decide) rfl) sb (Zk (jo6.mpr h1));obtain ⟨k,hk,ek⟩:=IZ (ys.getD 1 0) (Z1 h1);have k2:k + 1 < b:=Z0 hk;have k1:=Zj k2;rw [show (b:Int) - 1=((b - 1:Nat):Int) from (YO hb.1).symm,ek] at m;have ad:=Eb (f:=bC (.int 1)) rfl m;rw [show (1:Int) + (k:Int)=((k + 1:Nat):Int) from YJ 1 k] at ad;have v1:Ah false 4 (Ab Az (bC (.int 1)) (Ab A0 (Ab Ai (Aa 2) (bC (.int 1))) (Ab Br (Ab Ai (Aa 0) (bC (.int 1))) (bC (.int 1))))) [2,0] (AE a b c t ys i j t w)=.nx (AE a b c t ys i (k + 1) t w):=setF ad (show 4 < 7 by decide) rfl;have tt:=p.tab;have jm:∀ u,Ab Br (Aa 4) (bC (.int 1)) (AE a b c t ys i (k + 1) u w)=.ok (.int (k:Int),om,AE a b c t ys i (k + 1) u w):=λ u=>by
  have:=FO (f:=Aa 4) (g:=bC (.int 1)) (ρ:=AE a b c t ys i (k + 1) u w) rfl rfl
  rwa [show ((k + 1:Nat):Int) - 1=(k:Int) from T9 k 1] at this
 have g1:=Lm (fi:=Aa 3) tt hi k1 rfl (jm t);have sc:=FO (f:=Ab Ai (Aa 0) (bC (.int 2))) (g:=bC (.int 1)) (ρ:=AE a b c t ys i (k + 1) t w) rfl rfl;obtain ⟨v,mv⟩:∃ v:Int,Ak Es (Ad (Ab Ai (Ab Ai (Aa 5) (Aa 3)) (Ab Br (Aa 4) (bC (.int 1)))) (Ad (Ab Br (Ab Ai (Aa 0) (bC (.int 2))) (bC (.int 1))) (Ac))) (AE a b c t ys i (k + 1) t w)=.ok (.int v,om,AE a b c t ys i (k + 1) t w):=⟨_,BZ (Bg g1 (Bf sc)) rfl⟩
 have v2:=Kl (fi:=Aa 3) mv rfl rfl (jm t) tt hi k1;have t2:Tab a b (Dc t i k v):=Kq tt hi;have g2:=Lm (fi:=Aa 3) t2 hi k1 rfl (jm _);rw [GJ tt hi k1,if_pos ⟨rfl,rfl⟩] at g2;have a2:=Eb g2 (g:=bC (.int 1)) rfl;have v3:=Kl (fi:=Aa 3) (fj:=Aa 4) a2 rfl rfl rfl t2 hi k2;refine ⟨_,(Ax v1).trans ((Ax v2).trans v3),Dc (Dc t i k v) i (k + 1) (v + 1),om,rfl,rfl,Kq t2 hi,λ q=>?_⟩;have r:=q.rt i k hi k2;rw [GJ t2 hi k2,GJ t2 hi k2,if_pos ⟨rfl,rfl⟩,if_neg (λ h=>YZ k h.2.symm),GJ tt hi k1,if_pos ⟨rfl,rfl⟩] at r;omega
def qE (p:Pile a b c t) (ha:1<=a/\a<=6) (hb:1<=b/\b<=6) (hc:1<=c/\c<=6) (hy:3<=ys.length) (hj:j < b) (h1:1 < a):∃ ρ',B9 (AE a b c t ys i j t w)=.nx ρ'/\Chd a b c w ρ':=by
 have sb:=FO (f:=Ab Ai (Aa 0) (bC (.int 0))) (g:=bC (.int 1)) (ρ:=AE a b c t ys i j t w) rfl rfl;have m:=CY (K3 (k:=0) hy (by decide) rfl) sb (Zk (jo6.mpr h1));obtain ⟨k,hk,ek⟩:=IZ (ys.getD 0 0) (Z1 h1);have k2:k + 1 < a:=Z0 hk;have k1:=Zj k2;rw [show (a:Int) - 1=((a - 1:Nat):Int) from (YO ha.1).symm,ek] at m;have ad:=Eb (f:=bC (.int 1)) rfl m;rw [show (1:Int) + (k:Int)=((k + 1:Nat):Int) from YJ 1 k] at ad;have v1:Ah false 3 (Ab Az (bC (.int 1)) (Ab A0 (Ab Ai (Aa 2) (bC (.int 0))) (Ab Br (Ab Ai (Aa 0) (bC (.int 0))) (bC (.int 1))))) [2,0] (AE a b c t ys i j t w)=.nx (AE a b c t ys (k + 1) j t w):=setF ad (show 3 < 7 by decide) rfl;have tt:=p.tab;have jm:∀ u,Ab Br (Aa 3) (bC (.int 1)) (AE a b c t ys (k + 1) j u w)=.ok (.int (k:Int),om,AE a b c t ys (k + 1) j u w):=λ u=>by
  have:=FO (f:=Aa 3) (g:=bC (.int 1)) (ρ:=AE a b c t ys (k + 1) j u w) rfl rfl
  rwa [show ((k + 1:Nat):Int) - 1=(k:Int) from T9 k 1] at this
 have g1:=Lm (fj:=Aa 4) tt k1 hj (jm t) rfl;have sc:=FO (f:=Ab Ai (Aa 0) (bC (.int 2))) (g:=bC (.int 1)) (ρ:=AE a b c t ys (k + 1) j t w) rfl rfl;obtain ⟨v,mv⟩:∃ v:Int,Ak Es (Ad (Ab Ai (Ab Ai (Aa 5) (Ab Br (Aa 3) (bC (.int 1)))) (Aa 4)) (Ad (Ab Br (Ab Ai (Aa 0) (bC (.int 2))) (bC (.int 1))) (Ac))) (AE a b c t ys (k + 1) j t w)=.ok (.int v,om,AE a b c t ys (k + 1) j t w):=⟨_,BZ (Bg g1 (Bf sc)) rfl⟩
 have v2:=Kl (fj:=Aa 4) mv rfl (jm t) rfl tt k1 hj;have t2:Tab a b (Dc t k j v):=Kq tt k1;have g2:=Lm (fj:=Aa 4) t2 k1 hj (jm _) rfl;rw [GJ tt k1 hj,if_pos ⟨rfl,rfl⟩] at g2;have a2:=Eb g2 (g:=bC (.int 1)) rfl;have v3:=Kl (fi:=Aa 3) (fj:=Aa 4) a2 rfl rfl rfl t2 k2 hj;refine ⟨_,(Ax v1).trans ((Ax v2).trans v3),Dc (Dc t k j v) (k + 1) j (v + 1),om,rfl,rfl,Kq t2 k2,λ q=>?_⟩;have r:=q.dn k j k2 hj;rw [GJ t2 k2 hj,GJ t2 k2 hj,if_pos ⟨rfl,rfl⟩,if_neg (λ h=>YZ k h.1.symm),GJ tt k1 hj,if_pos ⟨rfl,rfl⟩] at r;omega
def qC (p:Pile a b c t) (hy:3<=ys.length) (hi:i < a) (hj:j < b):∃ ρ',B0 (AE a b c t ys i j t w)=.nx ρ'/\Chd a b c w ρ':=by
 have m:=CY (K3 (k:=0) (ρ:=AE a b c t ys i j t w) hy (by decide) rfl) (g:=bC (.int 3)) rfl (by decide);have a1:=Eb (f:=Ab Ai (Aa 0) (bC (.int 2))) (g:=bC (.int 1)) (ρ:=AE a b c t ys i j t w) rfl rfl;have v1:=Kl (fi:=Aa 3) (fj:=Aa 4) (Eb a1 m) rfl rfl rfl p.tab hi hj;refine ⟨_,v1,_,om,rfl,rfl,Kq p.tab hi,λ q=>?_⟩;have r:=q.hi i j hi hj;rw [GJ p.tab hi hj,if_pos ⟨rfl,rfl⟩] at r
 have:=IF (ys.getD 0 0) (b:=3) (by decide)
 omega
def qw (p:Pile a b c t) (hi:i < a) (hj:j < b):∃ ρ',A1 (AE a b c t ys i j t w)=.nx ρ'/\Chd a b c w ρ':=by
 have v1:=Kl (ρ:=AE a b c t ys i j t w) (f:=Ay Cp (bC (.int 1))) (fi:=Aa 3) (fj:=Aa 4) rfl rfl rfl rfl p.tab hi hj;refine ⟨_,v1,_,om,rfl,rfl,Kq p.tab hi,λ q=>?_⟩;have r:=q.lo i j hi hj;rw [GJ p.tab hi hj,if_pos ⟨rfl,rfl⟩] at r;omega
end
section
variable {a b c i j w:Nat}{t:List (List Int)}{ys:List Int}
def EH (a b c w:Nat) (ρ':Ag):Prop:=∃ y d,ρ'[5]?=some (some (y,d))/\ρ'[6]?=some (some (.int (w:Int),om))/\Hk a b c y
def hd {n:Nat} (h:1<=n/\n<=6):1<=n/\n<=100:=⟨h.1,AW h.2 (by decide)⟩
def s1 {n m:Nat} (h:n=a) (ha:1<=a/\a<=6) (hm:7<=m):n + 1<=m:=AW (Pn (AW (M1 h) ha.2)) hm
def s2 {xs:List PV}{y:PV}{m:Nat} (h:xs.length=a) (ha:1<=a/\a<=6) (hm:7<=m):(xs++[y]).length<=m:=by
 rw [BQ];exact s1 h ha hm
def s3 {xs:List PV}{y:PV} (h:xs.length=a):((xs++[y]).length:Int)≠a:=by
 rw [BQ,h];show ((a + 1:Nat):Int)≠a;omega
def s4 {n m:Nat} (h:n=a) (ha:1<=a/\a<=6) (hm:6<=m):n<=m:=AW (M1 h) (AW ha.2 hm)
def s5 {xs:List PV}{m:Nat} (h:xs.length=a) (ha:1<=a/\a<=6) (hi:i < a) (hm:6<=m):(xs.take i++xs.drop (i + 1)).length<=m/\((xs.take i++xs.drop (i + 1)).length:Int)≠a:=by
 rw [BQ,FE,M8,h];omega
def s6 {xs:List PV} (h:xs.length=b) (hb:1<=b/\b<=6):(xs.take (xs.length - 1)).length<=1000/\((xs.take (xs.length - 1)).length:Int)≠b:=by
 rw [FE,h];omega
def nz (ha:1<=a/\a<=6):((0:Nat):Int)≠a:=by omega
def n6 {m:Nat} (hb:1<=b/\b<=6) (hm:6<=m):((b:Int) - 0).toNat<=m:=by omega
def mq (ht:Tab a b t):(t.map il).length=a:=(AD _).trans ht.1
def rq (ht:Tab a b t) (hi:i < a):((t.getD i []).map PV.int).length=b:=(AD _).trans (ht.row hi)
def mi (ht:Tab a b t) (hi:i < a):i < (t.map il).length:=Zn hi (mq ht).symm
def Chd.odd {ρ':Ag} (h:Chd a b c w ρ') (ha:1<=a/\a<=6) (hb:1<=b/\b<=6) (hc:1<=c/\c<=6):EH a b c w ρ':=by
 obtain ⟨u,d,h1,h2,h3,h4⟩:=h;exact ⟨_,d,h1,h2,jv h3 (hd ha) (hd hb) hc.1 h4⟩
def Q3 {vs:List Nat}{d:Nat}{y:PV}{ρ:Ag} (hl:ρ.length=7) (h6:ρ[6]?=some (some (.int (w:Int),om))) (hv:vs.contains 6=false) (hy:Hk a b c y):EH a b c w ((Bi d vs ρ).set 5 (some (y,d))):=
 ⟨y,d,Di (by rw [yj,hl];decide),by rw [Cw (by decide),yi hv];exact h6,hy⟩
def SH {d:Nat}{y:PV}{ρ:Ag} (hl:ρ.length=7) (h6:ρ[6]?=some (some (.int (w:Int),om))) (hy:Hk a b c y):EH a b c w (ρ.set 5 (some (y,d))):=
 ⟨y,d,Di (by rw [hl];decide),by rw [Cw (by decide)];exact h6,hy⟩
def W8 (ht:Tab a b t) (hi:i < a):Ab Ai (Aa 5) (Aa 3) (AE a b c t ys i j t w)=.ok (il (t.getD i []),0,AE a b c t ys i j t w):=Ki rfl rfl (Dy (Zp _) (by rw [DD,Ba,BR (by rw [ht.1];exact hi)];rfl))
def qx (ht:Tab a b t) (ha:1<=a/\a<=6) (hb:1<=b/\b<=6) (hc:1<=c/\c<=6):∃ ρ',A2 (AE a b c t ys i j t w)=.nx ρ'/\EH a b c w ρ':=by
 have e1:=Ja (fa:=Ad (Ab Ai (Aa 0) (bC (.int 1))) (Ac)) (elt:=bC (.int 0)) (ρ:=AE a b c t ys i j t w) rfl (FI (by omega) (by omega)) rfl (λ _ _=>rfl) (n6 hb (by decide));obtain ⟨e,r2⟩:=jW e1;have a1:=Nw (f:=Aa 5) (ρ:=AE a b c t ys i j t w) rfl r2 (s1 (mq ht) ha (by decide));refine ⟨_,SJ a1 (show 5 < 7 by decide),Q3 rfl rfl rfl (Ny ha.1 hb.1 hc.1 (Ho (s2 (mq ht) ha (by decide)) λ x hx=>?_) (Q6 (s3 (mq ht))))⟩;rcases jc6.mp hx with hx | hx
 ·exact OL ht (hd hb).2 x hx
 ·rw [jb1.mp hx];refine Ho (by rw [AD,EY];exact n6 hb (by decide)) λ y hy=>?_;obtain ⟨_,_,rfl⟩:=jd3.mp hy;rfl
def q9 (ht:Tab a b t) (ha:1<=a/\a<=6) (hb:1<=b/\b<=6) (hc:1<=c/\c<=6) (hi:i < a):∃ ρ',A5 (AE a b c t ys i j t w)=.nx ρ'/\EH a b c w ρ':=by
 have h1:=qT (f:=Aa 5) (j:=Aa 3) (ρ:=AE a b c t ys i j t w) rfl rfl (M3 (mi ht hi));have h2:=kI (f:=Aa 5) (j:=Aa 3) (ρ:=AE a b c t ys i j t w) rfl rfl (mi ht hi);have a1:=Nw h1 h2 (by rw [<- BQ];exact (s5 (mq ht) ha hi (by decide)).1);refine ⟨_,SJ a1 (show 5 < 7 by decide),Q3 rfl rfl rfl (Ny ha.1 hb.1 hc.1 (Ho (s5 (mq ht) ha hi (by decide)).1 λ x hx=>?_) (Q6 (s5 (m:=6) (mq ht) ha hi (by decide)).2))⟩;rcases jc6.mp hx with hx | hx
 ·exact OL ht (hd hb).2 x (Pw hx)
 ·exact OL ht (hd hb).2 x (TF hx)
def Sz {y:PV} (ht:Tab a b t) (ha:1<=a/\a<=6) (hb:1<=b/\b<=6) (hc:1<=c/\c<=6) (hi:i < a) (hy:Bv 9 y=true) (h:CP b c y=false):Hk a b c (.lst ((t.map il).set i y)):=by
 rw [<- X5 (mi ht hi)];exact xh ht (hd ha) (hd hb) hc.1 hi hy h
def Mp {n k:Nat}{ρ:Ag} (hy:3<=ys.length) (hk:k < 3) (hn:1<=n) (h:Aa 2 ρ=.ok (il ys,0,ρ)):∃ m:Nat,m < n/\Ab A0 (Ab Ai (Aa 2) (bC (.int (k:Int)))) (bC (.int (n:Int))) ρ=.ok (.int (m:Int),om,ρ):=by
 have m:=CY (K3 hy hk h) (g:=bC (.int (n:Int))) rfl (jj8.mpr hn);obtain ⟨x,hx,ex⟩:=IZ (ys.getD k 0) hn;rw [ex] at m;exact ⟨x,hx,m⟩
def Vy {r:List Int}{xs:List PV} (hl:xs.length<=1000) (hx:∀ x∈xs,x∈r.map PV.int\/x=.int 0):Bv 9 (.lst xs)=true:=Ho hl (SS hx)
def qy (ht:Tab a b t) (ha:1<=a/\a<=6) (hb:1<=b/\b<=6) (hc:1<=c/\c<=6) (hy:3<=ys.length) (hi:i < a):∃ ρ',A3 (AE a b c t ys i j t w)=.nx ρ'/\EH a b c w ρ':=by
 have iR:=W8 (c:=c) (ys:=ys) (j:=j) (w:=w) ht hi;have a1:=Nw iR (h:=Ak AL (Ad (bC (.int 0)) (Ac))) (ys:=[.int 0]) rfl (s1 (rq ht hi) hb (by decide));have a2:=kJ iR;have z1:d1 ((t.getD i []).map PV.int++[.int 0])=om:=by
  have:=Jg (t.getD i []++[0])
  rwa [Hh] at this
 have z2:d1 (((t.getD i []).map PV.int).take (((t.getD i []).map PV.int).length - 1))=om:=by
  rw [<- Tw];exact Jg _
 rw [z1] at a1;rw [z2] at a2;obtain ⟨k,hk,ek⟩:=Mp (n:=2) (k:=1) (ρ:=AE a b c t ys i j t w) hy (by decide) (by decide) rfl;have el:Ak GR l3 (AE a b c t ys i j t w)=.ok (.lst [.lst ((t.getD i []).map PV.int++[.int 0]),.lst (((t.getD i []).map PV.int).take (((t.getD i []).map PV.int).length - 1))],om,AE a b c t ys i j t w):=BZ (Bg a1 (Bf a2)) rfl;have hv:=SF el ek hk;obtain ⟨d,e⟩:=Yl (i:=5) (fk:=Aa 3) hv rfl rfl (mi ht hi);have key:∀ y∈[PV.lst ((t.getD i []).map PV.int++[.int 0]),.lst (((t.getD i []).map PV.int).take (((t.getD i []).map PV.int).length - 1))],Bv 9 y=true/\CP b c y=false:=λ y hy=>by
  rcases jb2.mp hy with rfl | hy
  ·exact ⟨Vy (s2 (rq ht hi) hb (by decide)) λ x hx=>(jc6.mp hx).elim .inl λ h=>.inr (jb1.mp h),Y1 (s3 (rq ht hi))⟩
  ·rw [jb1.mp hy];exact ⟨Vy (s6 (rq ht hi) hb).1 λ x hx=>.inl (Pw hx),Y1 (s6 (rq ht hi) hb).2⟩
 obtain ⟨k1,k2⟩:=key _ (E2 hk);exact ⟨_,e,SH rfl rfl (Sz ht ha hb hc hi k1 k2)⟩
def L4 (r:List Int):List PV:=[.tup (r.map PV.int),.non,.int 7,.str "row",.emp]
def qz (ht:Tab a b t) (ha:1<=a/\a<=6) (hb:1<=b/\b<=6) (hc:1<=c/\c<=6) (hy:3<=ys.length) (hi:i < a):∃ ρ',A4 (AE a b c t ys i j t w)=.nx ρ'/\EH a b c w ρ':=by
 have iR:=W8 (c:=c) (ys:=ys) (j:=j) (w:=w) ht hi;have a3:Ak GU (Ad (Ab Ai (Aa 5) (Aa 3)) (Ac)) (AE a b c t ys i j t w)=.ok (.tup ((t.getD i []).map PV.int),0,AE a b c t ys i j t w):=BZ (Bf iR) rfl;obtain ⟨k,hk,ek⟩:=Mp (n:=5) (k:=1) (ρ:=AE a b c t ys i j t w) hy (by decide) (by decide) rfl;have el:Ak GR l4 (AE a b c t ys i j t w)=.ok (.lst (L4 (t.getD i [])),om,AE a b c t ys i j t w):=by
  refine BZ (Bg a3 (Bg rfl (Bg rfl (Bg rfl (Bf rfl))))) ?_;unfold GR;rw [if_pos (by show 5<=Aw;decide)];have z3:Fq (.tup ((t.getD i []).map PV.int))=true:=Y6 _;have z4:K7 [(.tup ((t.getD i []).map PV.int),0),(.non,om),(.int 7,om),(.str "row",om),(.emp,om)]=true:=by
   show (((false || Fq (.tup ((t.getD i []).map PV.int))) && (true && (true && (true && (true && true))))):Bool)=true;rw [z3];rfl
  rw [z4];rfl
 have hk:k < (L4 (t.getD i [])).length:=hk;have hv:=SF el ek hk;obtain ⟨d,e⟩:=Yl (i:=5) (fk:=Aa 3) hv rfl rfl (mi ht hi);have key:∀ y∈L4 (t.getD i []),Bv 9 y=true/\CP b c y=false:=λ y hy=>by
  unfold L4 at hy;simp only [jb2,KI,or_false] at hy;rcases hy with rfl | rfl | rfl | rfl | rfl
  ·exact ⟨SR (s4 (rq ht hi) hb (by decide)) (SS λ x hx=>.inl hx),rfl⟩
  all_goals exact ⟨rfl,rfl⟩
 obtain ⟨k1,k2⟩:=key _ (E2 hk);exact ⟨_,e,SH rfl rfl (Sz ht ha hb hc hi k1 k2)⟩
def qA (p:Pile a b c t) (ha:1<=a/\a<=6) (hb:1<=b/\b<=6) (hc:1<=c/\c<=6) (hy:3<=ys.length) (hi:i < a) (hj:j < b):∃ ρ',A6 (AE a b c t ys i j t w)=.nx ρ'/\EH a b c w ρ':=by
 have ht:=p.tab;have p1:=p.lo i j hi hj;have p2:=p.hi i j hi hj;have p3:=Nat.log2_le_self (g t i j).natAbs;have g1:=Lm (c:=c) (t:=t) (ys:=ys) (w:=w) (fi:=Aa 3) (fj:=Aa 4) ht hi hj rfl rfl;obtain ⟨s,es⟩:∃ s,Ak Mf (Ad (Ab Ai (Ab Ai (Aa 5) (Aa 3)) (Aa 4)) (Ac)) (AE a b c t ys i j t w)=.ok (.str s,om,AE a b c t ys i j t w):=⟨_,BZ (Bf g1) (by show (Lx (.int (g t i j))).map _=_;unfold Lx;dsimp only;rw [if_pos (by omega)];rfl)⟩
 obtain ⟨k,hk,ek⟩:=Mp (n:=3) (k:=0) (ρ:=AE a b c t ys i j t w) hy (by decide) (by decide) rfl;have el:Ak GR l6 (AE a b c t ys i j t w)=.ok (.lst [.bl true,.non,.str s],om,AE a b c t ys i j t w):=BZ (Bg rfl (Bg rfl (Bf es))) rfl;have hv:=SF el ek hk;obtain ⟨d,e⟩:=kX (i:=5) (fi:=Aa 3) (fj:=Aa 4) (cells:=(t.getD i []).map PV.int) hv rfl rfl rfl (by rw [CV,Ba,BR (Zn hi ht.1.symm)];rfl) (by rw [rq ht hi];exact hj);have key:∀ y∈[PV.bl true,.non,.str s],Bv 8 y=true/\MJ c y=false:=λ y hy=>by
  simp only [jb2,KI,or_false] at hy;rcases hy with rfl | rfl | rfl <;> exact ⟨rfl,rfl⟩
 obtain ⟨k1,k2⟩:=key _ (E2 hk);refine ⟨_,e,SH rfl rfl (Sz ht ha hb hc hi (xS (s4 (rq ht hi) hb (by decide)) (SS λ x hx=>.inl hx) k1) (kr ?_ k2))⟩;rw [<- X5 (by rw [rq ht hi];exact hj)];exact Y2 _ _ _
def L7 (t:List (List Int)):List PV:=[.non,.int 7,.lst [],.str "pile",.tup [],.emp,.tup (t.map il)]
def qB (ht:Tab a b t) (ha:1<=a/\a<=6) (hb:1<=b/\b<=6) (hc:1<=c/\c<=6) (hy:3<=ys.length):∃ ρ',A7 (AE a b c t ys i j t w)=.nx ρ'/\EH a b c w ρ':=by
 obtain ⟨k,hk,ek⟩:=Mp (n:=7) (k:=0) (ρ:=AE a b c t ys i j t w) hy (by decide) (by decide) rfl;have hk:k < (L7 t).length:=hk;have a3:Ak GU (Ad (Aa 5) (Ac)) (AE a b c t ys i j t w)=.ok (.tup (t.map il),0,AE a b c t ys i j t w):=BZ (Bf rfl) rfl;obtain ⟨d,el⟩:=WV (fa:=l7) (Bg rfl (Bg rfl (Bg rfl (Bg rfl (Bg rfl (Bg rfl (Bf a3))))))) (show 7<=Aw by decide);have e:=Xb el ek hk;have key:∀ y∈L7 t,Bv 10 y=true/\EV a b c y=false:=λ y hy=>by
  unfold L7 at hy;simp only [jb2,KI,or_false] at hy;rcases hy with rfl | rfl | rfl | rfl | rfl | rfl | rfl
  ·exact ⟨rfl,rfl⟩
  ·exact ⟨rfl,rfl⟩
  ·exact ⟨rfl,Q6 (nz ha)⟩
  ·exact ⟨rfl,rfl⟩
  ·exact ⟨rfl,rfl⟩
  ·exact ⟨rfl,rfl⟩
  ·exact ⟨SR (s4 (mq ht) ha (by decide)) (OL ht (hd hb).2),rfl⟩
 obtain ⟨k1,k2⟩:=key _ (E2 hk);exact ⟨_,SJ e (show 5 < 7 by decide),Q3 rfl rfl rfl (Ny ha.1 hb.1 hc.1 k1 k2)⟩
def qi:∀ w,w < 10->¬ (w=0\/7 < w)->w=1\/w=2\/w=3\/w=4\/w=5\/w=6\/w=7:=by decide
def ua (p:Pile a b c t) (ha:1<=a/\a<=6) (hb:1<=b/\b<=6) (hc:1<=c/\c<=6) (hy:3<=ys.length):∃ y d,Hk a b c y/\GD [bx a b c,tb t,il ys]=.ok (y,d,.non):=by
 have tt:=p.tab;have m0:=CY (K3 (k:=0) (ρ:=GB a b c t ys none none none none) hy (by decide) rfl) (g:=Ab Ai (Aa 0) (bC (.int 0))) rfl (jj8.mpr ha.1);obtain ⟨i,hi,ei⟩:=IZ (ys.getD 0 0) ha.1;rw [ei] at m0;have v1:Ah false 3 (Ab A0 (Ab Ai (Aa 2) (bC (.int 0))) (Ab Ai (Aa 0) (bC (.int 0)))) [2,0] (GB a b c t ys none none none none)=.nx (GB a b c t ys (some (.int (i:Int),om)) none none none):=setF m0 (show 3 < 7 by decide) rfl;have m1:=CY (K3 (k:=1) (ρ:=GB a b c t ys (some (.int (i:Int),om)) none none none) hy (by decide) rfl) (g:=Ab Ai (Aa 0) (bC (.int 1))) rfl (jj8.mpr hb.1);obtain ⟨j,hj,ej⟩:=IZ (ys.getD 1 0) hb.1;rw [ej] at m1;have v2:Ah false 4 (Ab A0 (Ab Ai (Aa 2) (bC (.int 1))) (Ab Ai (Aa 0) (bC (.int 1)))) [2,0] (GB a b c t ys (some (.int (i:Int),om)) none none none)=.nx (GB a b c t ys (some (.int (i:Int),om)) (some (.int (j:Int),om)) none none):=setF m1 (show 4 < 7 by decide) rfl;have v3:Ah false 5 (BN (Aa 1) 1 (asgN 7) Bn (Ak Ef (Ad (Aa 7) (Ac)))) [1,1] (GB a b c t ys (some (.int (i:Int),om)) (some (.int (j:Int),om)) none none)=.nx (GB a b c t ys (some (.int (i:Int),om)) (some (.int (j:Int),om)) (some (tb t,om)) none):=setF (N5 rfl rfl (s4 tt.1 ha (by decide))) (show 5 < 7 by decide) rfl;obtain ⟨w,hw,ew⟩:=Mp (n:=10) (k:=2) (ρ:=GB a b c t ys (some (.int (i:Int),om)) (some (.int (j:Int),om)) (some (tb t,om)) none) hy (by decide) (by decide) rfl;have v4:Ah false 6 (Ab A0 (Ab Ai (Aa 2) (bC (.int 2))) (bC (.int 10))) [2] (GB a b c t ys (some (.int (i:Int),om)) (some (.int (j:Int),om)) (some (tb t,om)) none)=.nx (AE a b c t ys i j t w):=setF ew (show 6 < 7 by decide) rfl
 suffices fin:∃ ρ',EH a b c w ρ'/\Af CH (TL [(1,A1),(2,A2),(3,A3),(4,A4),(5,A5),(6,A6),(7,A7)]) (AE a b c t ys i j t w)=Dt 5 ρ' by
  obtain ⟨ρ',⟨y,d,h5,_,hb⟩,e⟩:=fin;have hF:GD=Am false 3 4 PN:=rfl;rw [hF,jn];exact ⟨y,d,hb,Bw rfl ((Ax v1).trans ((Ax v2).trans ((Ax v3).trans ((Ax v4).trans (e.trans (RD h5))))))⟩
 have e8:=zJ (a:=a) (b:=b) (c:=c) (i:=i) (j:=j) (w:=w) (t:=t) (ys:=ys) (u:=t);have e9:=zK (a:=a) (b:=b) (c:=c) (i:=i) (j:=j) (w:=w) (t:=t) (ys:=ys) (u:=t);have eO:=qV (a:=a) (b:=b) (c:=c) (i:=i) (j:=j) (w:=w) (t:=t) (ys:=ys) (u:=t);have far:(w=0\/7 < w)->∀ q∈[((1:Int),A1),(2,A2),(3,A3),(4,A4),(5,A5),(6,A6),(7,A7)],q.1≠(w:Int):=λ h q hq=>by
  have:=of_decide_eq_true (ja7.mp (show ([((1:Int),A1),(2,A2),(3,A3),(4,A4),(5,A5),(6,A6),(7,A7)].all λ q=>decide (1<=q.1/\q.1<=7))=true from rfl) q hq)
  omega
 have near:∀ {ρ'},EH a b c w ρ'->CH (AE a b c t ys i j t w)=.nx ρ'->(w=0\/7 < w)->∃ ρ',EH a b c w ρ'/\Af CH (TL [(1,A1),(2,A2),(3,A3),(4,A4),(5,A5),(6,A6),(7,A7)]) (AE a b c t ys i j t w)=Dt 5 ρ':=λ {ρ'} o e h=>by
  obtain ⟨y,d,h5,h6,hb⟩:=id o;exact ⟨ρ',o,(Ax e).trans (SQ h6 (far h))⟩
 by_cases c8:w=8/\1 < b
 ·rw [decide_eq_true (show (w:Int)=8 from congrArg Int.ofNat c8.1),decide_eq_true (show (1:Int) < b from jo6.mpr c8.2)] at e8;obtain ⟨ρ',e,o⟩:=qD p ha hb hc hy hi c8.2;exact near (o.odd ha hb hc) ((AQ e8).trans e) (.inr (by rw [c8.1];decide))
 ·have e8:R9 (AE a b c t ys i j t w)=.ok (false,AE a b c t ys i j t w):=by
   rw [e8,show (decide ((w:Int)=8) && decide ((1:Int) < b))=false by rw [TH,decide_eq_false_iff_not,decide_eq_false_iff_not];omega]
  by_cases c9:w=9/\1 < a
  ·rw [decide_eq_true (show (w:Int)=9 from congrArg Int.ofNat c9.1),decide_eq_true (show (1:Int) < a from jo6.mpr c9.2)] at e9;obtain ⟨ρ',e,o⟩:=qE p ha hb hc hy hj c9.2;exact near (o.odd ha hb hc) ((BH e8).trans ((AQ e9).trans e)) (.inr (by rw [c9.1];decide))
  ·have e9:R8 (AE a b c t ys i j t w)=.ok (false,AE a b c t ys i j t w):=by
    rw [e9,show (decide ((w:Int)=9) && decide ((1:Int) < a))=false by rw [TH,decide_eq_false_iff_not,decide_eq_false_iff_not];omega]
   by_cases c0:w=0\/7 < w
   ·rw [show (decide ((w:Int)=0) || decide ((7:Int) < w))=true by rw [FD,decide_eq_true_iff,decide_eq_true_iff];omega] at eO;obtain ⟨ρ',e,o⟩:=qC p hy hi hj;exact near (o.odd ha hb hc) ((BH e8).trans ((BH e9).trans ((AQ eO).trans e))) c0
   ·rw [show (decide ((w:Int)=0) || decide ((7:Int) < w))=false by rw [Bool.or_eq_false_iff,decide_eq_false_iff_not,decide_eq_false_iff_not];omega] at eO;have ch:CH (AE a b c t ys i j t w)=.nx (AE a b c t ys i j t w):=(BH e8).trans ((BH e9).trans ((BH eO).trans rfl));have hit:∀ {A:Fs}{L R:List (Int×Fs)},[((1:Int),A1),(2,A2),(3,A3),(4,A4),(5,A5),(6,A6),(7,A7)]=L++((w:Int),A)::R->(∀ q∈L,q.1≠(w:Int))->(∀ q∈R,q.1≠(w:Int))->(∃ ρ',A (AE a b c t ys i j t w)=.nx ρ'/\EH a b c w ρ')->∃ ρ',EH a b c w ρ'/\Af CH (TL [(1,A1),(2,A2),(3,A3),(4,A4),(5,A5),(6,A6),(7,A7)]) (AE a b c t ys i j t w)=Dt 5 ρ':=λ {A L R} e hL hR h=>by
     obtain ⟨ρ',e1,o⟩:=h;obtain ⟨y,d,h5,h6,hb⟩:=id o;refine ⟨ρ',o,(Ax ch).trans ?_⟩;rw [e];exact Ws e1 rfl h6 hL hR
    have nn:∀ {L:List (Int×Fs)}{w:Int},(L.all λ q=>decide (q.1≠w))=true->∀ q∈L,q.1≠w:=λ h q hq=>of_decide_eq_true (ja7.mp h q hq);rcases qi w hw c0 with rfl | rfl | rfl | rfl | rfl | rfl | rfl
    ·exact hit (L:=[]) rfl (nn rfl) (nn rfl) ((qw p hi hj).imp λ _ h=>⟨h.1,h.2.odd ha hb hc⟩)
    ·exact hit (L:=[(1,A1)]) rfl (nn rfl) (nn rfl) (qx tt ha hb hc)
    ·exact hit (L:=[(1,A1),(2,A2)]) rfl (nn rfl) (nn rfl) (qy tt ha hb hc hy hi)
    ·exact hit (L:=[(1,A1),(2,A2),(3,A3)]) rfl (nn rfl) (nn rfl) (qz tt ha hb hc hy hi)
    ·exact hit (L:=[(1,A1),(2,A2),(3,A3),(4,A4)]) rfl (nn rfl) (nn rfl) (q9 tt ha hb hc hi)
    ·exact hit (L:=[(1,A1),(2,A2),(3,A3),(4,A4),(5,A5)]) rfl (nn rfl) (nn rfl) (qA p ha hb hc hy hi hj)
    ·exact hit (L:=[(1,A1),(2,A2),(3,A3),(4,A4),(5,A5),(6,A6)]) rfl (nn rfl) (nn rfl) (qB tt ha hb hc hy)
end
section
variable {a b c:Nat}{t:List (List Int)}
structure Kz (a b c:Nat) (n:Int):Prop where
 cnt:∃ d z,La [bx a b c]=.ok (.int n,d,z)
 far:3000 < n->Ea [bx a b c]=.exc 8
 few:¬ 3000 < n->∃ d z,Ea [bx a b c]=.ok (.non,d,z)
 ev:¬ 3000 < n->a=b->E3 a b c=true
 sm:¬ 3000 < n->∃ x y z:Nat,He [(a:Int),(b:Int),(c:Int)]=[(x:Int),(y:Int),(z:Int)]/\E3 x y z=true/\(1<=x/\x<=6)/\(1<=y/\y<=6)/\1<=z/\z<=6
def qO (ha:1<=a/\a<=6) (hb:1<=b/\b<=6) (hc:1<=c/\c<=6):∃ n,Kz a b c n:=by
 have h:E4 a=true:=by
  match a,ha with
  | 1,_=>exact Tn
  | 2,_=>exact Tj
  | 3,_=>exact Ti
  | 4,_=>exact Th
  | 5,_=>exact Tg
  | 6,_=>exact Tf
  | n + 7,h=>exact absurd h.2 (by omega)
  | 0,h=>exact absurd h.1 (by omega)
 have h:=ja7.mp (ja7.mp h (b - 1) (jc7.mpr (by omega))) (c - 1) (jc7.mpr (by omega));have h:MN (a,b - 1 + 1,c - 1 + 1)=true:=h;rw [show b - 1 + 1=b by omega,show c - 1 + 1=c by omega] at h;obtain ⟨n,d,z,e,h⟩:=j0 h
 ·refine ⟨n,⟨d,z,e⟩,λ hn=>?_,λ hn=>?_,λ hn hab=>?_,λ hn=>?_⟩
  ·rw [if_pos hn] at h;exact wm h
  ·rw [if_neg hn] at h;simp only [A9] at h;exact vS h.1.1.1
  ·rw [if_neg hn] at h;simp only [A9,FD,decide_eq_true_eq] at h;rcases h.1.1.2 with z | z
   ·exact absurd hab z
   ·exact ja7.mp xD _ (by simpa using z)
  ·rw [if_neg hn] at h;simp only [A9,decide_eq_true_eq] at h;have hm:DA (a,b,c)∈srtB:=by simpa using h.1.2
   have hs:∀ s∈srtB,(1<=s.1/\s.1<=6)/\(1<=s.2.1/\s.2.1<=6)/\1<=s.2.2/\s.2.2<=6:=by decide
   obtain ⟨s1,s2,s3⟩:=hs _ hm;exact ⟨_,_,_,h.2,ja7.mp jS _ hm,s1,s2,s3⟩
def yl {n:Int} (k:Kz a b c n) (hn:¬ 3000 < n) (ha:1<=a/\a<=6) (hb:1<=b/\b<=6) (hc:1<=c/\c<=6):∃ y d z,IV [bx a b c]=.ok (y,d,z):=by
 obtain ⟨d0,w0,e0⟩:=k.few hn;let R:Ag:=[some (bx a b c,0)]
 have s1:Bc (Al Ea (Ad (Aa 0) (Ac))) R=.nx R:=CJ (AJ rfl e0);have tt:=A8 (GP (neg:=true) (f:=Ab Ai (Aa 0) (bC (.int 0))) (g:=Ab Ai (Aa 0) (bC (.int 1))) (ρ:=R) rfl rfl);by_cases h:a=b
 ·rw [decide_eq_true (by omega)] at tt;have ct:=Qo (ρ:=R) (fb:=Aa 0) ha.2 hb hc.2 (k.ev hn h) rfl rfl (λ _=>rfl) (λ _=>rfl) (λ t p=>WJ p ha hb hc);exact ⟨_,_,_,Bw rfl ((Ax s1).trans ((D3 tt).trans (Ci ct)))⟩
 ·rw [decide_eq_false (by omega)] at tt;exact ⟨_,_,_,Bw rfl ((Ax s1).trans (Eg ((AQ tt).trans (Ci rfl))))⟩
def uj {n:Int} (k:Kz a b c n) (hn:¬ 3000 < n):∃ y d z,JT [bx a b c]=.ok (y,d,z):=by
 obtain ⟨d0,w0,e0⟩:=k.few hn;obtain ⟨x,y,w,se,hf,hx,hy,hw⟩:=k.sm hn;let R (s1:QQ.Slot):Ag:=[some (bx a b c,0),s1]
 have s1:Bc (Al Ea (Ad (Aa 0) (Ac))) (R none)=.nx (R none):=CJ (AJ rfl e0);have es2:Ak GU (Ad (Ak Hq (Ad (Aa 0) (Ac))) (Ac)) (R none)=.ok (bx x y w,0,R none):=by
  refine BZ (Bf (BZ rfl rfl)) ?_;rw [se];rfl
 have s2:Ah false 1 (Ak GU (Ad (Ak Hq (Ad (Aa 0) (Ac))) (Ac))) [0] (R none)=.nx (R (some (bx x y w,0))):=setF es2 (show 1 < 2 by decide) rfl;have ct:=Qo (ρ:=R (some (bx x y w,0))) (fb:=Aa 1) hx.2 hy hw.2 hf rfl rfl (λ _=>rfl) (λ _=>rfl) (λ t p=>Vc p hx hy hw);exact ⟨_,_,_,Bw rfl ((Ax s1).trans ((Ax s2).trans (Ci ct)))⟩
def uc {n:Int} (k:Kz a b c n) (hn:¬ 3000 < n) (ha:1<=a/\a<=6) (hb:1<=b/\b<=6) (hc:1<=c/\c<=6):∃ y d z,JS [bx a b c]=.ok (y,d,z):=by
 obtain ⟨d0,w0,e0⟩:=k.few hn;let R:Ag:=[some (bx a b c,0)]
 have s1:Bc (Al Ea (Ad (Aa 0) (Ac))) R=.nx R:=CJ (AJ rfl e0);have k1:=NG (p:=λ i j=>decide (i=j)) (q:=λ i j=>decide (i=j)) (f:=Ab Ai (Aa 0) (bC (.int 0))) (g:=Ab Ai (Aa 0) (bC (.int 1))) (h:=Ab Ai (Aa 0) (bC (.int 2))) (ρ:=R) rfl rfl rfl;have tt:=A8 (Ec k1);by_cases h:a=b/\b=c
 ·rw [decide_eq_true (show (a:Int)=b by omega),decide_eq_true (show (b:Int)=c by omega)] at tt;have ct:=Qo (ρ:=R) (fb:=Aa 0) ha.2 hb hc.2 (k.ev hn h.1) rfl rfl (λ _=>rfl) (λ _=>rfl) (λ t p=>Y0 p ha hb hc);exact ⟨_,_,_,Bw rfl ((Ax s1).trans ((D3 tt).trans (Ci ct)))⟩
 ·have tt':bT (Ay Cq (Fi (λ i j=>decide (i=j)) (λ i j=>decide (i=j)) (Ab Ai (Aa 0) (bC (.int 0))) (Ab Ai (Aa 0) (bC (.int 1))) (Ab Ai (Aa 0) (bC (.int 2))))) R=.ok (true,R):=by
   refine tt.trans ?_
   have:(decide ((a:Int)=b) && decide ((b:Int)=c))=false:=by
    rw [TH,decide_eq_false_iff_not,decide_eq_false_iff_not];omega
   rw [this];rfl
  exact ⟨_,_,_,Bw rfl ((Ax s1).trans (Eg ((AQ tt').trans (Ci rfl))))⟩
end
section
variable {y x u v:PV}{c:Nat}
def MZ {k:Nat}{rest:Fs} (h:f_must_be_pile [y,x]=.exc c):Am false 2 k (Af (Bc (Al f_must_be_pile (Ad (Aa 0) (Ad (Aa 1) (Ac))))) rest) [y,x]=.exc c:=
 Fj rfl (Im (FJ (EL rfl h)))
def IX {k:Nat}{rest:Fs}{F:Fn} (h:F [y]=.exc c):Am false 1 k (Af (Bc (Al F (Ad (Aa 0) (Ac)))) rest) [y]=.exc c:=
 Fj rfl (Im (FJ (EL rfl h)))
def km {op:PV->Nat->PV->Nat->Option (PV×Nat)}{f g:Fx}{ρ:Ag} (h:f ρ=.exc c):Ab op f g ρ=.exc c:=by unfold Ab;rw [h];rfl
def kn {f:Fx}{ρ:Ag} (h:f ρ=.exc c):An f ρ=.exc c:=by unfold An;rw [h]
def Yq (h:f_must_be_pile [y,x]=.exc c):E6 [y,x]=.exc c:=MZ h
def UE (h:f_must_be_pile [y,x]=.exc c):EJ [y,x]=.exc c:=
 Fj rfl (kn (km (EL rfl (MZ h))))
def UD (h:f_must_be_pile [y,x]=.exc c):Fg [y,x]=.exc c:=MZ h
def UC (h:f_must_be_pile [y,x]=.exc c):EI [y,x]=.exc c:=MZ h
end
def NB:List PV:=[.tup [.int 0,.int 1,.int 1],.tup [.int 1,.int 2],.tup [.int 1,.int 2,.int 3,.int 4],.lst [.int 1,.int 1,.int 1],.non,.tup [.int 1,.bl true,.int 1],.tup [.int 2,.int (-1),.int 2],.str "111",.tup [.str "1",.int 1,.int 1],.int 7,.tup [],.tup [.int 1,.int 1,.int 0],.tup [.int 2,.int 2,.int (-1)],.tup [.int 1,.int 2,.bl true],.tup [.int 2,.int 1,.str "1"],.tup [.int 1,.int 1,.non]]
def qu:∀ y∈NB,f_is_box [y]=.ok (.bl false,om,.non):=λ y hy=>by
 have ok:NB.all (λ y=>Bv 10 y && !JP y)=true:=by decide +kernel
 have h:=ja7.mp ok y hy;rw [A9,M9] at h
 have:=jx h.1
 rwa [h.2] at this
def N1:Fx:=(Ak AL (Ad (Ak Bx (Ad (bC (.int 0)) (Ad (bC (.int 1)) (Ad (bC (.int 1)) (Ac))))) (Ad (Ak Bx (Ad (bC (.int 1)) (Ad (bC (.int 2)) (Ac)))) (Ad (Ak Bx (Ad (bC (.int 1)) (Ad (bC (.int 2)) (Ad (bC (.int 3)) (Ad (bC (.int 4)) (Ac)))))) (Ad (Ak AL (Ad (bC (.int 1)) (Ad (bC (.int 1)) (Ad (bC (.int 1)) (Ac))))) (Ad (bC .non) (Ad (Ak Bx (Ad (bC (.int 1)) (Ad (bC (.bl true)) (Ad (bC (.int 1)) (Ac))))) (Ad (Ak Bx (Ad (bC (.int 2)) (Ad (Ay Cp (bC (.int 1))) (Ad (bC (.int 2)) (Ac))))) (Ad (bC (.str "111")) (Ad (Ak Bx (Ad (bC (.str "1")) (Ad (bC (.int 1)) (Ad (bC (.int 1)) (Ac))))) (Ad (bC (.int 7)) (Ad (Ak Bx (Ac)) (Ac)))))))))))))
def N2:Fx:=(Ab Az (Aa 1) (Ak AL (Ad (Ak Bx (Ad (bC (.int 1)) (Ad (bC (.int 1)) (Ad (bC (.int 0)) (Ac))))) (Ad (Ak Bx (Ad (bC (.int 2)) (Ad (bC (.int 2)) (Ad (Ay Cp (bC (.int 1))) (Ac))))) (Ad (Ak Bx (Ad (bC (.int 1)) (Ad (bC (.int 2)) (Ad (bC (.bl true)) (Ac))))) (Ad (Ak Bx (Ad (bC (.int 2)) (Ad (bC (.int 1)) (Ad (bC (.str "1")) (Ac))))) (Ad (Ak Bx (Ad (bC (.int 1)) (Ad (bC (.int 1)) (Ad (bC .non) (Ac))))) (Ac))))))))
def N3:Fs:=An (Ab Ai (Aa 1) (Ab A0 (Aa 0) (Ak Cm (Ad (Aa 1) (Ac)))))
def jo:PM=Af (Ah false 1 N1 []) (Af (Ah false 1 N2 [1]) N3):=by kernel_rfl
def xQ (n:Int):∃ y d,JR [.int n]=.ok (y,d,.non)/\f_is_box [y]=.ok (.bl false,om,.non):=by
 obtain ⟨k,hk,ek⟩:=IZ n (n:=16) (by decide);have hk:k < NB.length:=hk;let R (d:Nat):Ag:=[some (.int n,om),some (.lst NB,d)]
 obtain ⟨d,v⟩:∃ d,∀ r,Af (Ah false 1 N1 []) (Af (Ah false 1 N2 [1]) r) [some (.int n,om),none]=r (R d):=⟨_,λ r=>by rfl⟩
 have m:=CY (f:=Aa 0) (g:=Ak Cm (Ad (Aa 1) (Ac))) (ρ:=R d) (j:=((16:Nat):Int)) rfl (BZ (Bf rfl) rfl) (by decide);rw [ek] at m;have e:=Xb (f:=Aa 1) (ρ:=R d) rfl m hk;have hF:JR=Am false 1 1 PM:=rfl;rw [hF,jo];exact ⟨_,_,Bw rfl ((v _).trans (Ci e)),qu _ (E2 hk)⟩
def T0 (n:Int):Fb:=bT (Ab (Ap false) (Aa 0) (bC (.int n)))
def RL {ρ:Ag}{w n:Int} (h:ρ[0]?=some (some (.int w,om))):T0 n ρ=.ok (decide (w=n),ρ):=A8 (Jh (d:=om) (by unfold Aa;rw [h];rfl) rfl)
def Gi:List (Int×Fs)->Fs->Fs
 | [],l=>l
 | p::r,l=>AV (T0 p.1) p.2 (Gi r l)
theorem Ie {ρ:Ag}{w:Int}{A l:Fs} (h:ρ[0]?=some (some (.int w,om))):∀ {L R:List (Int×Fs)},(∀ p∈L,p.1≠w)->Gi (L++(w,A)::R) l ρ=A ρ
 | [],R,_=>by
  have t:=RL (n:=w) h;rw [decide_eq_true rfl] at t;exact AQ t
 | p::L,R,hL=>by
  have t:=RL (n:=p.1) h;rw [decide_eq_false (λ e=>hL p AR e.symm)] at t;exact (BH t).trans (Ie h λ q hq=>hL q (AO _ hq))
theorem UN {ρ:Ag}{w:Int}{l:Fs} (h:ρ[0]?=some (some (.int w,om))):∀ {L:List (Int×Fs)},(∀ p∈L,p.1≠w)->Gi L l ρ=l ρ
 | [],_=>rfl
 | p::L,hL=>by
  have t:=RL (n:=p.1) h;rw [decide_eq_false (λ e=>hL p AR e.symm)] at t;exact (BH t).trans (UN h λ q hq=>hL q (AO _ hq))
def D2 (F:Fn):Fs:=Bc (Al F (Ad (Aa 1) (Ad (Aa 2) (Ac))))
def D4:Fs:=Bc (Al Ic (Ad (Aa 1) (Ad (Aa 2) (Ad (Aa 3) (Ad (Aa 4) (Ac))))))
def D1 (F:Fn):Fs:=Bc (Al F (Ad (Aa 1) (Ac)))
def jr:PL=Af (Gi [(0,D2 E6),(1,D2 EJ),(2,D2 Fg),(3,D2 EI),(4,D4),(5,D1 IV),(6,D1 JT)] (D1 JS)) (An (bC (.str "told"))):=by kernel_rfl
def cw (w:Nat) (B P O Q:PV):Rz (PV×Nat×PV):=match w with
 | 0=>E6 [B,P]
 | 1=>EJ [B,P]
 | 2=>Fg [B,P]
 | 3=>EI [B,P]
 | 4=>Ic [B,P,O,Q]
 | 5=>IV [B]
 | 6=>JT [B]
 | _=>JS [B]
theorem xf {w:Nat} (hw:w < 8) {B P O Q:PV}:(∀ c,cw w B P O Q=.exc c->Hj [.int (w:Int),B,P,O,Q]=.exc c)/\((∃ y d z,cw w B P O Q=.ok (y,d,z))->Hj [.int (w:Int),B,P,O,Q]=.ok (.str "told",om,.non)):=by
 let R:Ag:=[some (.int (w:Int),om),some (B,dv B),some (P,dv P),some (O,dv O),some (Q,dv Q)]
 suffices h:∃ A:Fs,Gi [(0,D2 E6),(1,D2 EJ),(2,D2 Fg),(3,D2 EI),(4,D4),(5,D1 IV),(6,D1 JT)] (D1 JS) R=A R/\(∀ c,cw w B P O Q=.exc c->A R=.exc c)/\((∃ y d z,cw w B P O Q=.ok (y,d,z))->A R=.nx R) by
  obtain ⟨A,e,h1,h2⟩:=h;have hF:Hj=Am false 5 0 PL:=rfl;rw [hF,jr];exact ⟨λ c hc=>Fj rfl (Im (e.trans (h1 c hc))),λ hc=>Bw rfl ((Ax (e.trans (h2 hc))).trans (Ci rfl))⟩
 have h0:R[0]?=some (some (.int (w:Int),om)):=rfl;have nn:∀ {L:List (Int×Fs)}{w:Int},(L.all λ q=>decide (q.1≠w))=true->∀ q∈L,q.1≠w:=λ h q hq=>of_decide_eq_true (ja7.mp h q hq);have d2:∀ F:Fn,(∀ c,F [B,P]=.exc c->D2 F R=.exc c)/\((∃ y d z,F [B,P]=.ok (y,d,z))->D2 F R=.nx R):=λ F=>⟨λ c hc=>FJ (EL rfl hc),λ ⟨y,d,z,hc⟩=>CJ (AJ rfl hc)⟩
 have d1:∀ F:Fn,(∀ c,F [B]=.exc c->D1 F R=.exc c)/\((∃ y d z,F [B]=.ok (y,d,z))->D1 F R=.nx R):=λ F=>⟨λ c hc=>FJ (EL rfl hc),λ ⟨y,d,z,hc⟩=>CJ (AJ rfl hc)⟩
 match w,hw,h0 with
 | 0,_,h0=>exact ⟨_,Ie (L:=[]) h0 (nn rfl),d2 E6⟩
 | 1,_,h0=>exact ⟨_,Ie (L:=[(0,D2 E6)]) h0 (nn rfl),d2 EJ⟩
 | 2,_,h0=>exact ⟨_,Ie (L:=[(0,D2 E6),(1,D2 EJ)]) h0 (nn rfl),d2 Fg⟩
 | 3,_,h0=>exact ⟨_,Ie (L:=[(0,D2 E6),(1,D2 EJ),(2,D2 Fg)]) h0 (nn rfl),d2 EI⟩
 | 4,_,h0=>exact ⟨_,Ie (L:=[(0,D2 E6),(1,D2 EJ),(2,D2 Fg),(3,D2 EI)]) h0 (nn rfl),λ c hc=>FJ (EL rfl hc),λ ⟨y,d,z,hc⟩=>CJ (AJ rfl hc)⟩
 | 5,_,h0=>exact ⟨_,Ie (L:=[(0,D2 E6),(1,D2 EJ),(2,D2 Fg),(3,D2 EI),(4,D4)]) h0 (nn rfl),d1 IV⟩
 | 6,_,h0=>exact ⟨_,Ie (L:=[(0,D2 E6),(1,D2 EJ),(2,D2 Fg),(3,D2 EI),(4,D4),(5,D1 IV)]) h0 (nn rfl),d1 JT⟩
 | 7,_,h0=>exact ⟨_,UN h0 (nn rfl),d1 JS⟩
 | n + 8,h,_=>exact absurd h (by omega)
def Sq (c:Nat):Str:=if c=1 then "NoBox" else if c=2 then "NoPile" else "TooMany"
def W6:Fs:=Af (AV (bT (Ab (Gg false) (Aa 5) (bC .non))) (An (bC (.str "told"))) Ao)
 (Af (Ah false 7 (Ak AL (Ad (Ay (FK [1]) (Aa 5)) (Ad (Ay (FK [2]) (Aa 5)) (Ad (Ay (FK [8]) (Aa 5)) (Ac))))) [5,5,5])
 (Af (AV (bT (Ay (FK [10,6,7,5,11,3,9,4]) (Aa 5))) (An (bC (.str "odd"))) Ao)
 (Af (AV (bT (By (Ay Cq (Ay (FK [0]) (Aa 5))) (Ab (Ap true) (IP false 7 (bC (.bl true))) (bC (.int 1))))) (An (bC (.str "odd"))) Ao)
 (An (Ab Ai (Ak AL (Ad (bC (.str "NoBox")) (Ad (bC (.str "NoPile")) (Ad (bC (.str "TooMany")) (Ac))))) (IP true 7 (bC (.bl true))))))))
def jt:PJ=Af (Ah false 5 (bC .non) []) (Af (DT 0 5 6 [] (Bc (Al Hj (Ad (Aa 0) (Ad (Aa 1) (Ad (Aa 2) (Ad (Aa 3) (Ad (Aa 4) (Ac))))))))) W6):=by kernel_rfl
section
variable {w:Nat}{B P O Q:PV}
def GA (w:Nat) (B P O Q:PV) (s5 s6 s7:QQ.Slot):Ag:=[some (.int (w:Int),om),some (B,dv B),some (P,dv P),some (O,dv O),some (Q,dv Q),s5,s6,s7]
def ya {c:Nat} (hc:c=1\/c=2\/c=8):∃ d ρ',W6 (GA w B P O Q (some (.exn c,om)) none none)=.rt (.str (Sq c)) d ρ':=by
 refine ⟨om,GA w B P O Q (some (.exn c,om)) none (some (.lst [.bl (decide (c=1)),.bl (decide (c=2)),.bl (decide (c=8))],om)),?_⟩;rcases hc with rfl | rfl | rfl <;> kernel_rfl
def v8 (hw:w < 8):(∀ c,(c=1\/c=2\/c=8)->cw w B P O Q=.exc c->∃ d,IT [.int (w:Int),B,P,O,Q]=.ok (.str (Sq c),d,.non))/\((∃ y d z,cw w B P O Q=.ok (y,d,z))->∃ d,IT [.int (w:Int),B,P,O,Q]=.ok (.str "told",d,.non)):=by
 obtain ⟨k1,k2⟩:=xf hw;have v1:Ah false 5 (bC .non) [] (GA w B P O Q none none none)=.nx (GA w B P O Q (some (.non,om)) none none):=rfl;have hF:IT=Am false 5 3 PJ:=rfl;rw [hF,jt];refine ⟨λ c hc h=>?_,λ h=>?_⟩
 ·have v2:DT 0 5 6 [] (Bc (Al Hj (Ad (Aa 0) (Ad (Aa 1) (Ad (Aa 2) (Ad (Aa 3) (Ad (Aa 4) (Ac)))))))) (GA w B P O Q (some (.non,om)) none none)=.nx (GA w B P O Q (some (.exn c,om)) none none):=by
   have hb:Bc (Al Hj (Ad (Aa 0) (Ad (Aa 1) (Ad (Aa 2) (Ad (Aa 3) (Ad (Aa 4) (Ac))))))) (GA w B P O Q (some (.non,om)) none none)=.exc c:=FJ (EL rfl (k1 c h));unfold DT;rw [hb];dsimp only;rw [if_pos ⟨by rcases hc with rfl | rfl | rfl <;> decide,show 5 < 8 by decide,rfl⟩];rfl
  obtain ⟨d,ρ',e⟩:=ya hc;exact ⟨d,Bw rfl ((Ax v1).trans ((Ax v2).trans e))⟩
 ·have v2:DT 0 5 6 [] (Bc (Al Hj (Ad (Aa 0) (Ad (Aa 1) (Ad (Aa 2) (Ad (Aa 3) (Ad (Aa 4) (Ac)))))))) (GA w B P O Q (some (.non,om)) none none)=.nx (GA w B P O Q (some (.non,om)) none none):=by
   have hb:Bc (Al Hj (Ad (Aa 0) (Ad (Aa 1) (Ad (Aa 2) (Ad (Aa 3) (Ad (Aa 4) (Ac))))))) (GA w B P O Q (some (.non,om)) none none)=.nx (GA w B P O Q (some (.non,om)) none none):=CJ (AJ rfl (k2 h));unfold DT;rw [hb]
  exact ⟨_,Bw rfl ((Ax v1).trans ((Ax v2).trans rfl))⟩
end
def DY (w:Nat) (g0 g1 g2 g3:Bool) (n:Int):Str:=if (!g0 || (decide ((w:Int)=4) && !g2))=true then "NoBox" else if ((decide ((w:Int) < 5) && !g1) || (decide ((w:Int)=4) && !g3))=true then "NoPile" else if (decide ((4:Int) < w) && decide ((3000:Int) < n))=true then "TooMany" else "told"
def xq {a b c w:Nat}{n:Int} (k:Kz a b c n) (g0 g1 g2 g3:Bool):∃ d,PR [.int (w:Int),.lst [.bl g0,.bl g1,.bl g2,.bl g3],bx a b c]=.ok (.str (DY w g0 g1 g2 g3 n),d,.non):=by
 obtain ⟨dk,zk,ek⟩:=k.cnt;let R:Ag:=[some (.int (w:Int),om),some (.lst [.bl g0,.bl g1,.bl g2,.bl g3],0),some (bx a b c,0)]
 have t1:=A8 (FW (Ec (f:=Ab Ai (Aa 1) (bC (.int 0))) (ρ:=R) (ρ1:=R) (b:=g0) (d:=om) rfl) (λ _=>DF (Jh (f:=Aa 0) (h:=bC (.int 4)) (ρ:=R) (ρ1:=R) (ρ2:=R) (i:=(w:Int)) (j:=4) (d:=om) (e:=om) rfl rfl) (λ _=>Ec (f:=Ab Ai (Aa 1) (bC (.int 2))) (ρ:=R) (ρ1:=R) (b:=g2) (d:=om) rfl) rfl) rfl);have t2:=A8 (FW (DF (E7 (p:=λ i j=>decide (i < j)) (f:=Aa 0) (g:=bC (.int 5)) (ρ:=R) (ρ1:=R) (ρ2:=R) (i:=(w:Int)) (j:=5) (d:=om) (e:=om) rfl rfl) (λ _=>Ec (f:=Ab Ai (Aa 1) (bC (.int 1))) (ρ:=R) (ρ1:=R) (b:=g1) (d:=om) rfl) rfl) (λ _=>DF (Jh (f:=Aa 0) (h:=bC (.int 4)) (ρ:=R) (ρ1:=R) (ρ2:=R) (i:=(w:Int)) (j:=4) (d:=om) (e:=om) rfl rfl) (λ _=>Ec (f:=Ab Ai (Aa 1) (bC (.int 3))) (ρ:=R) (ρ1:=R) (b:=g3) (d:=om) rfl) rfl) rfl);have t3:=A8 (DF (E7 (p:=λ i j=>decide (j < i)) (f:=Aa 0) (g:=bC (.int 4)) (ρ:=R) (ρ1:=R) (ρ2:=R) (i:=(w:Int)) (j:=4) (d:=om) (e:=om) rfl rfl) (λ _=>E7 (p:=λ i j=>decide (j < i)) (f:=Al La (Ad (Aa 2) (Ac))) (g:=bC (.int 3000)) (ρ2:=R) (j:=3000) (e:=om) (AJ (xs:=[(bx a b c,0)]) rfl ek) rfl) rfl);unfold DY;split
 ·rename_i h;rw [h] at t1;exact ⟨_,Bw (b:=KU) rfl (Eg ((AQ t1).trans (Ci rfl)))⟩
 ·rename_i h;rw [T3] at h;rw [h] at t1;split
  ·rename_i h;rw [h] at t2;exact ⟨_,Bw (b:=KU) rfl ((D3 t1).trans (Eg ((AQ t2).trans (Ci rfl))))⟩
  ·rename_i h;rw [T3] at h;rw [h] at t2;split
   ·rename_i h;rw [h] at t3;exact ⟨_,Bw (b:=KU) rfl ((D3 t1).trans ((D3 t2).trans (Eg ((AQ t3).trans (Ci rfl)))))⟩
   ·rename_i h;rw [T3] at h;rw [h] at t3;exact ⟨_,Bw (b:=KU) rfl ((D3 t1).trans ((D3 t2).trans ((D3 t3).trans (Ci rfl))))⟩
section
variable {B P O Q:PV}{c:Nat}
def KY (B P O Q:PV):Ag:=[some (B,dv B),some (P,dv P),some (O,dv O),some (Q,dv Q)]
def ki (h:F2 [B]=.exc c):Ic [B,P,O,Q]=.exc c:=Fj (b:=KW) (k:=0) rfl (Im (FJ (EL (xs:=[(B,dv B)]) rfl h)))
def WK {d:Nat}{y z:PV} (h1:F2 [B]=.ok (y,d,z)) (h:F2 [O]=.exc c):Ic [B,P,O,Q]=.exc c:=Fj (b:=KW) (k:=0) rfl ((Ax (CJ (AJ (xs:=[(B,dv B)]) (ρ:=KY B P O Q) rfl h1))).trans (Im (FJ (EL (xs:=[(O,dv O)]) rfl h))))
def kj {d d2:Nat}{y z y2 z2:PV} (h1:F2 [B]=.ok (y,d,z)) (h2:F2 [O]=.ok (y2,d2,z2)) (h:F7 [B,P]=.exc c):Ic [B,P,O,Q]=.exc c:=Fj (b:=KW) (k:=0) rfl ((Ax (CJ (AJ (xs:=[(B,dv B)]) (ρ:=KY B P O Q) rfl h1))).trans ((Ax (CJ (AJ (xs:=[(O,dv O)]) (ρ:=KY B P O Q) rfl h2))).trans (Im (FJ (EL (xs:=[(B,dv B),(P,dv P)]) rfl h)))))
def kl {d d2 d3:Nat}{y z y2 z2 y3 z3:PV} (h1:F2 [B]=.ok (y,d,z)) (h2:F2 [O]=.ok (y2,d2,z2)) (h3:F7 [B,P]=.ok (y3,d3,z3)) (h:F7 [O,Q]=.exc c):Ic [B,P,O,Q]=.exc c:=Fj (b:=KW) (k:=0) rfl ((Ax (CJ (AJ (xs:=[(B,dv B)]) (ρ:=KY B P O Q) rfl h1))).trans ((Ax (CJ (AJ (xs:=[(O,dv O)]) (ρ:=KY B P O Q) rfl h2))).trans ((Ax (CJ (AJ (xs:=[(B,dv B),(P,dv P)]) (ρ:=KY B P O Q) rfl h3))).trans (Im (FJ (EL (xs:=[(O,dv O),(Q,dv Q)]) rfl h))))))
end
structure St (a b c:Nat) (t:List (List Int)) (g0 g1:Bool) (B P:PV):Prop where
 ok:FOk ((a,b,c),t)
 bt:g0=true->B=bx a b c
 bf:g0=false->f_is_box [B]=.ok (.bl false,om,.non)
 pt:g1=true->P=tb t
 pf:g1=false->Hk a b c P
section
variable {a b c a2 b2 c2 w:Nat}{t t2:List (List Int)}{g0 g1 g2 g3:Bool}{B P O Q:PV}{n:Int}
def St.box (s:St a b c t true g1 B P):F2 [B]=.ok (.non,om,.non):=by
 rw [s.bt rfl];exact Lf (XB s.ok.a1.1 s.ok.b1.1 s.ok.c1.1)
def St.pile (s:St a b c t true true B P):F7 [B,P]=.ok (.non,om,.non):=by
 have p:Pile a b c t:=s.ok.p;have h1:1<=a/\a<=6:=s.ok.a1;have h2:1<=b/\b<=6:=s.ok.b1;have h3:1<=c/\c<=6:=s.ok.c1;rw [s.bt rfl,s.pt rfl];exact Hu p.tab ⟨h1.1,AW h1.2 (by decide)⟩ ⟨h2.1,AW h2.2 (by decide)⟩ (jt8.mpr h3.1) ((GN p.tab).mpr p)
def St.bad (s:St a b c t true false B P):F7 [B,P]=.exc 2:=by
 rw [s.bt rfl];exact uA (s.pf rfl).1
def qj:∀ w,w < 8->w=0\/w=1\/w=2\/w=3\/w=4\/w=5\/w=6\/w=7:=by decide
def Vh:∀ w,w < 5->¬ w=4->w=0\/w=1\/w=2\/w=3:=by decide
def Vg:∀ w,w < 8->¬ w < 5->w=5\/w=6\/w=7:=by decide
def qI (h5:¬ w < 5):DY w true g1 g2 g3 n=if (3000:Int) < n then "TooMany" else "told" := by
 unfold DY;rw [decide_eq_false (show ¬ (w:Int)=4 by omega),decide_eq_false (show ¬ (w:Int) < 5 by omega),decide_eq_true (show (4:Int) < w by omega)];by_cases hn:3000 < n
 ·rw [decide_eq_true hn,if_pos hn];rfl
 ·rw [decide_eq_false hn,if_neg hn];rfl
theorem cw_is (hw:w < 8) (k:Kz a b c n) (s:St a b c t g0 g1 B P) (s2:St a2 b2 c2 t2 g2 g3 O Q):(∃ e,(e=1\/e=2\/e=8)/\cw w B P O Q=.exc e/\DY w g0 g1 g2 g3 n=Sq e)\/((∃ y d z,cw w B P O Q=.ok (y,d,z))/\DY w g0 g1 g2 g3 n = "told"):=by
 have h1:1<=a/\a<=6:=s.ok.a1;have h2:1<=b/\b<=6:=s.ok.b1;have h3:1<=c/\c<=6:=s.ok.c1;cases g0 with
 | false=>
  have m:=Ni (s.bf rfl);have mp:=u9 (x:=P) (s.bf rfl);have f20:Ea [B]=.exc 1:=IX (k:=3) m;refine .inl ⟨1,.inl rfl,?_,rfl⟩;rcases qj w hw with rfl | rfl | rfl | rfl | rfl | rfl | rfl | rfl
  ·exact Yq mp
  ·exact UE mp
  ·exact UD mp
  ·exact UC mp
  ·exact ki m
  ·exact IX (k:=0) f20
  ·exact IX (k:=1) f20
  ·exact IX (k:=0) f20
 | true=>
  by_cases h5:w < 5
  ·cases g1 with
   | false=>
    by_cases h4:w=4
    ·subst h4;cases g2 with
     | false=>exact .inl ⟨1,.inl rfl,WK s.box (Ni (s2.bf rfl)),rfl⟩
     | true=>exact .inl ⟨2,.inr (.inl rfl),kj s.box s2.box s.bad,rfl⟩
    ·rcases Vh w h5 h4 with rfl | rfl | rfl | rfl
     ·exact .inl ⟨2,.inr (.inl rfl),Yq s.bad,rfl⟩
     ·exact .inl ⟨2,.inr (.inl rfl),UE s.bad,rfl⟩
     ·exact .inl ⟨2,.inr (.inl rfl),UD s.bad,rfl⟩
     ·exact .inl ⟨2,.inr (.inl rfl),UC s.bad,rfl⟩
   | true=>
    by_cases h4:w=4
    ·subst h4;cases g2 with
     | false=>exact .inl ⟨1,.inl rfl,WK s.box (Ni (s2.bf rfl)),rfl⟩
     | true=>
      cases g3 with
      | false=>exact .inl ⟨2,.inr (.inl rfl),kl s.box s2.box s.pile s2.bad,rfl⟩
      | true=>
       refine .inr ⟨?_,rfl⟩;rw [s.bt rfl,s.pt rfl,s2.bt rfl,s2.pt rfl];exact ⟨_,_,_,v5 (f:=((a,b,c),t)) (x:=((a2,b2,c2),t2)) s.ok s2.ok⟩
    ·rw [s.bt rfl,s.pt rfl];have p:Pile a b c t:=s.ok.p;rcases Vh w h5 h4 with rfl | rfl | rfl | rfl
     ·exact .inr ⟨⟨_,_,_,WJ p h1 h2 h3⟩,rfl⟩
     ·exact .inr ⟨⟨_,_,_,Vc p h1 h2 h3⟩,rfl⟩
     ·exact .inr ⟨⟨_,_,_,Y0 p h1 h2 h3⟩,rfl⟩
     ·exact .inr ⟨⟨_,_,_,Ys (f:=((a,b,c),t)) s.ok⟩,rfl⟩
  ·rw [qI h5];by_cases hn:3000 < n
   ·rw [if_pos hn];have f20:=k.far hn;refine .inl ⟨8,.inr (.inr rfl),?_,rfl⟩;rw [s.bt rfl];rcases Vg w hw h5 with rfl | rfl | rfl
    ·exact IX (k:=0) f20
    ·exact IX (k:=1) f20
    ·exact IX (k:=0) f20
   ·rw [if_neg hn];refine .inr ⟨?_,rfl⟩;rw [s.bt rfl];rcases Vg w hw h5 with rfl | rfl | rfl
    ·exact yl k hn h1 h2 h3
    ·exact uj k hn
    ·exact uc k hn h1 h2 h3
def ym (hw:w < 8) (k:Kz a b c n) (s:St a b c t g0 g1 B P) (s2:St a2 b2 c2 t2 g2 g3 O Q):∃ d,IT [.int (w:Int),B,P,O,Q]=.ok (.str (DY w g0 g1 g2 g3 n),d,.non):=by
 obtain ⟨q1,q2⟩:=v8 hw (B:=B) (P:=P) (O:=O) (Q:=Q);rcases cw_is hw k s s2 with ⟨e,he,h,hd⟩ | ⟨h,hd⟩
 ·rw [hd];exact q1 e he h
 ·rw [hd];exact q2 h
end
theorem vR {xs:List PV} (h:∀ x∈xs,Bv 20 x=true) (d e:Nat):Ap true (.lst xs) d (.lst xs) e=some (.bl false,om):=by
 unfold Ap;cases hD:BL 20 (.lst xs) with
 | some D=>
  dsimp only;rw [SeqAt.eqv_refl D (EN 20 _ D hD).1];rfl
 | none=>
  dsimp only;rw [if_pos (Nk λ x hx=>SI 20 x (h x hx))];rfl
theorem Wg (x:Str) (d e:Nat):Ap true (.str x) d (.str x) e=some (.bl false,om):=by
 unfold Ap;cases hD:BL 20 (.str x) with
 | some D=>
  dsimp only;rw [SeqAt.eqv_refl D (EN 20 _ D hD).1];rfl
 | none=>
  show some (PV.bl (true^^(x == x)),om)=_;rw [beq_self_eq_true];rfl
def Mm {f:Fx}{ρ:Ag}{xs:List Int}{lo hi:Nat} (h:f ρ=.ok (il xs,0,ρ)) (h1:lo<=hi) (h2:hi<=xs.length):C3 f (some (bC (.int (lo:Int)))) (some (bC (.int (hi:Int)))) ρ=.ok (il ((xs.drop lo).take (hi - lo)),om,ρ):=by
 have e:BJ (xs.map PV.int) (some (lo:Int)) (some (hi:Int))=((xs.drop lo).take (hi - lo)).map PV.int:=by
  unfold BJ;rw [HT.sIx_nat,HT.sIx_nat,AD,M6 h2,M6 (show lo<=xs.length by omega),<- List.map_drop,<- Tw]
 unfold C3;rw [h];show Rz.ok (PV.lst (BJ (xs.map PV.int) (some (lo:Int)) (some (hi:Int))),d1 (BJ (xs.map PV.int) (some (lo:Int)) (some (hi:Int))),ρ)=_;rw [e,Jg];rfl
def Ly {xs:List Int}{lo n:Nat} (h:lo + n<=xs.length):((xs.drop lo).take n).length=n:=by rw [FE,M8];omega
def W4 {L:List (Option PV)}{ρ:Ag}{i e:Nat}{k:Int}{f:Fx}{vs:List Nat}{xs:List PV}{y:PV}{n:Nat} (h:HV L [i] ρ) (hx:L[i]?=some (some (.lst xs))) (hv:vs.contains i=false) (hf:f ρ=.ok (y,e,ρ)) (hk:CB xs.length k=some n):∃ ρ',J9 i k f vs ρ=.nx ρ'/\HV (L.set i (some (.lst (xs.set n y)))) [i] ρ':=by
 have hi:i < L.length:=(ja9.mp hx).1;have hc:HV L [i] (Bi e vs ρ):=h.coolK λ j hj=>by rw [jb1.mp hj];exact hv
 obtain ⟨d,hd⟩:=hc.get i _ hx;have own:=hc.own i AR;refine ⟨(Bi e vs ρ).set i (some (.lst (xs.set n y),1)),?_,?_⟩
 ·unfold J9;rw [hf];dsimp only;rw [hd];dsimp only;rw [hk];dsimp only;rw [if_pos ?_];obtain ⟨p,e0,e1,e2⟩:=own;rw [hd] at e1;cases e1;exact e2
 ·exact hc.put hi (.inr (by decide))
def P0:Fs:=Ah false 2 (Al Uk (Ad (Al Ul (Ad (Aa 0) (Ad (Aa 1) (Ac)))) (Ad (bC (.int 56)) (Ac)))) [0,1]
def P1:Fs:=Ah false 3 (Ab A0 (Ab Ai (Aa 2) (bC (.int 50))) (bC (.int 8))) [2]
def P2:Fs:=Ah false 4 (Al PX (Ad (C3 (Aa 2) (some (bC (.int 38))) (some (bC (.int 42)))) (Ac))) [2]
def P3:Fs:=Ah false 5 (Al PX (Ad (C3 (Aa 2) (some (bC (.int 42))) (some (bC (.int 46)))) (Ac))) [2]
def P4:Fs:=Ah false 6 (Al PU (Ad (Aa 4) (Ad (Aa 2) (Ac)))) [4,2]
def P5:Fs:=Ah false 7 (Al PU (Ad (Aa 5) (Ad (C3 (Aa 2) (some (bC (.int 8))) (some (bC (.int 46)))) (Ac)))) [5,2]
def P6:Fs:=Ah false 8 (Ak AL (Ad (Ab (AS λ i j=>decide (j < i)) (Ab A0 (Ab Ai (Aa 2) (bC (.int 51))) (bC (.int 4))) (bC (.int 0))) (Ad (Ab (AS λ i j=>decide (j < i)) (Ab A0 (Ab Ai (Aa 2) (bC (.int 52))) (bC (.int 3))) (bC (.int 0))) (Ad (Ab (AS λ i j=>decide (j < i)) (Ab A0 (Ab Ai (Aa 2) (bC (.int 53))) (bC (.int 4))) (bC (.int 0))) (Ad (Ab (AS λ i j=>decide (j < i)) (Ab A0 (Ab Ai (Aa 2) (bC (.int 54))) (bC (.int 3))) (bC (.int 0))) (Ac)))))) [2,2,2,2]
def P7:Fs:=Ah false 9 (Ak AL (Ad (BN (Aa 6) 1 (asgN 11) Bn (Ak Ef (Ad (Aa 11) (Ac)))) (Ad (BN (Aa 7) 1 (asgN 11) Bn (Ak Ef (Ad (Aa 11) (Ac)))) (Ac)))) [6,6,7,7]
def P8:Fs:=AV (bT (Ay Cq (Ab Ai (Aa 8) (bC (.int 1))))) (Af (J9 9 0 (Al GD (Ad (Aa 4) (Ad (Aa 6) (Ad (C3 (Aa 2) (some (bC (.int 46))) (some (bC (.int 49)))) (Ac))))) [4,6,2]) (Ah false 6 (Al GD (Ad (Aa 4) (Ad (Aa 6) (Ad (C3 (Aa 2) (some (bC (.int 46))) (some (bC (.int 49)))) (Ac))))) [4,6,2])) Ao
def P9:Fs:=AV (bT (Ay Cq (Ab Ai (Aa 8) (bC (.int 3))))) (Af (J9 9 1 (Al GD (Ad (Aa 5) (Ad (Aa 7) (Ad (C3 (Aa 2) (some (bC (.int 47))) (some (bC (.int 50)))) (Ac))))) [5,7,2]) (Ah false 7 (Al GD (Ad (Aa 5) (Ad (Aa 7) (Ad (C3 (Aa 2) (some (bC (.int 47))) (some (bC (.int 50)))) (Ac))))) [5,7,2])) Ao
def bF:Fs:=Ah false 10 (Al PR (Ad (Aa 3) (Ad (Aa 8) (Ad (Aa 4) (Ac))))) [3,8,4]
def bE:Fs:=AV (bT (Ay Cq (Ab Ai (Aa 8) (bC (.int 0))))) (Ah false 4 (Al JR (Ad (Ab Ai (Aa 2) (bC (.int 55))) (Ac))) [2]) Ao
def bD:Fs:=AV (bT (Ay Cq (Ab Ai (Aa 8) (bC (.int 2))))) (Ah false 5 (Al JR (Ad (Ab Ai (Aa 2) (bC (.int 49))) (Ac))) [2]) Ao
def bB:Fs:=AV (bT (Cu (Ab (Ap false) (Aa 10) (bC (.str "told"))) (Cu (Ab (AS λ i j=>decide (j < i)) (Aa 3) (bC (.int 4))) (Ab (AS λ i j=>decide (j < i)) (Aa 1) (bC (.int 0)))))) (Ah false 10 (bC (.str "")) []) Ao
def bA:Fs:=AV (bT (Cu (Ab (Ap true) (Aa 10) (bC (.str ""))) (Ab (Ap true) (Al IT (Ad (Aa 3) (Ad (Aa 4) (Ad (Aa 6) (Ad (Aa 5) (Ad (Aa 7) (Ac))))))) (Aa 10)))) (An (bC (.bl false))) Ao
def bw:Fs:=AV (bT (Ab (Ap true) (Ak AL (Ad (Aa 6) (Ad (Aa 7) (Ac)))) (Aa 9))) (An (bC (.bl false))) Ao
def LK:Fs:=Af P0 (Af P1 (Af P2 (Af P3 (Af P4 (Af P5 (Af P6 (Af P7 (Af P8 (Af P9 (Af bF (Af bE (Af bD (Af bB (Af bA bw))))))))))))))
def ju:PH=Af (CW BU (Ad (Ak Hz (Ad (bC (.int 1)) (Ad (Ak Es (Ad (Ak Cm (Ad (Aa 0) (Ac))) (Ad (bC (.int 20)) (Ac)))) (Ac)))) (Ac)) (asgN 1) LK) (An (bC (.bl true))):=by kernel_rfl
def FR (ns:List Int) (k:Nat) (s2 s3 s4 s5 s6 s7 s8 s9 s10:Option PV):List (Option PV):=[some (.scr ns),some (.int (k:Int)),s2,s3,s4,s5,s6,s7,s8,s9,s10]
section
variable {ns:List Int}{k:Nat}{ρ:Ag}
def OF {f:Fx}{xs:List Int}{m:Nat} (h:f ρ=.ok (il xs,0,ρ)) (hm:m < xs.length):Ab Ai f (bC (.int (m:Int))) ρ=.ok (.int (xs.getD m 0),om,ρ):=FV h rfl (Dy (by omega) (Ee (by rw [DD];exact hm)))
def Xr (neg:Bool) (x y:Str) (d e:Nat):∃ b,Ap neg (.str x) d (.str y) e=some (.bl b,om):=by
 unfold Ap;split
 ·exact ⟨_,rfl⟩
 ·exact ⟨neg^^(x == y),rfl⟩
theorem Xg {a b c:Nat}{t:List (List Int)}{ys:List Int} (p:Pile a b c t) (ha:1<=a/\a<=6) (hb:1<=b/\b<=6) (hc:1<=c/\c<=6) (hy:3<=ys.length) (g1:Bool):∃ P,(g1=true->P=tb t)/\(g1=false->Hk a b c P/\∃ d,GD [bx a b c,tb t,il ys]=.ok (P,d,.non))/\Bv 20 P=true:=by
 cases g1 with
 | true=>exact ⟨tb t,λ _=>rfl,λ z=>(nomatch z),Vz p.tab (by omega) (by omega)⟩
 | false=>
  obtain ⟨y,d,hb,e⟩:=ua p ha hb hc hy;exact ⟨y,λ z=>(nomatch z),λ _=>⟨hb,d,e⟩,xR hb.2 (by decide)⟩
theorem XD {a b c:Nat} (n:Int) (g0:Bool):∃ B,(g0=true->B=bx a b c)/\(g0=false->f_is_box [B]=.ok (.bl false,om,.non)/\∃ d,JR [.int n]=.ok (B,d,.non)):=by
 cases g0 with
 | true=>exact ⟨_,λ _=>rfl,λ z=>nomatch z⟩
 | false=>
  obtain ⟨y,d,e,h⟩:=xQ n;exact ⟨y,λ z=>(nomatch z),λ _=>⟨h,d,e⟩⟩
def qr (h0:HV (FR ns k none none none none none none none none none) [] ρ):Nx LK ρ (HV (FR ns k none none none none none none none none none) []):=by
 have z:=sz;obtain ⟨xs,hx,em⟩:=j5 (ns.getD k 0) 56 (by decide);let X:Option PV:=some (il xs);refine Nx.seq (h0.setO (AJ (Bg (AJ (Bg (h0.var rfl) (Bf (h0.var rfl))) (jz ns k)) (Bf rfl)) em) (show 2 < 11 by decide)) λ ρ1 (h1:HV (FR ns k X none none none none none none none none) [] ρ1)=>?_;have m3:=CY (OF (m:=50) (h1.var (j:=2) rfl) (by rw [hx];decide)) (g:=bC (.int 8)) (j:=((8:Nat):Int)) rfl (by decide);obtain ⟨w,hw,ew⟩:=IZ (xs.getD 50 0) (n:=8) (by decide);rw [ew] at m3;refine Nx.seq (h1.setO m3 (show 3 < 11 by decide)) λ ρ2 (h2:HV (FR ns k X (some (.int (w:Int))) none none none none none none none) [] ρ2)=>?_;let W:Option PV:=some (.int (w:Int));obtain ⟨a,b,c,ha,hb,hc,e4⟩:=WB ((xs.drop 38).take 4) (Ly (by rw [hx];decide));refine Nx.seq (h2.setO (AJ (Bf (Mm (h2.var rfl) (by decide) (by rw [hx];decide))) e4) (show 4 < 11 by decide)) λ ρ3 (h3:HV (FR ns k X W (some (bx a b c)) none none none none none none) [] ρ3)=>?_;obtain ⟨a2,b2,c2,ha2,hb2,hc2,e5⟩:=WB ((xs.drop 42).take 4) (Ly (by rw [hx];decide));refine Nx.seq (h3.setO (AJ (Bf (Mm (h3.var rfl) (by decide) (by rw [hx];decide))) e5) (show 5 < 11 by decide)) λ ρ4 (h4:HV (FR ns k X W (some (bx a b c)) (some (bx a2 b2 c2)) none none none none none) [] ρ4)=>?_;obtain ⟨t,d6,p,_,e6⟩:=Yn xs (by rw [hx];decide) ha hb ⟨hc.1,AW hc.2 (by decide)⟩;refine Nx.seq (h4.set (AJ (Bg (h4.var rfl) (Bf (h4.var rfl))) e6) (show 6 < 11 by decide)) λ ρ5 (h5:HV (FR ns k X W (some (bx a b c)) (some (bx a2 b2 c2)) (some (tb t)) none none none none) [] ρ5)=>?_;obtain ⟨t2,d7,p2,_,e7⟩:=Yn ((xs.drop 8).take 38) (by rw [Ly (by rw [hx];decide)];exact Bj _) ha2 hb2 ⟨hc2.1,AW hc2.2 (by decide)⟩;refine Nx.seq (h5.set (AJ (Bg (h5.var rfl) (Bf (Mm (h5.var rfl) (by decide) (by rw [hx];decide)))) e7) (show 7 < 11 by decide)) λ ρ6 (h6:HV (FR ns k X W (some (bx a b c)) (some (bx a2 b2 c2)) (some (tb t)) (some (tb t2)) none none none) [] ρ6)=>?_;obtain ⟨g0,g1,g2,g3,d8,e8⟩:∃ g0 g1 g2 g3 d,Ak AL (Ad (Ab (AS λ i j=>decide (j < i)) (Ab A0 (Ab Ai (Aa 2) (bC (.int 51))) (bC (.int 4))) (bC (.int 0))) (Ad (Ab (AS λ i j=>decide (j < i)) (Ab A0 (Ab Ai (Aa 2) (bC (.int 52))) (bC (.int 3))) (bC (.int 0))) (Ad (Ab (AS λ i j=>decide (j < i)) (Ab A0 (Ab Ai (Aa 2) (bC (.int 53))) (bC (.int 4))) (bC (.int 0))) (Ad (Ab (AS λ i j=>decide (j < i)) (Ab A0 (Ab Ai (Aa 2) (bC (.int 54))) (bC (.int 3))) (bC (.int 0))) (Ac))))) ρ6=.ok (.lst [.bl g0,.bl g1,.bl g2,.bl g3],d,ρ6):=by
  have q (m n:Nat) (hm:m < 56) (hn:0 < n):=E7 (p:=λ i j=>decide (j < i)) (CY (OF (h6.var (j:=2) rfl) (by rw [hx];exact hm)) (g:=bC (.int (n:Int))) rfl (jj8.mpr hn)) (g:=bC (.int 0)) rfl;exact ⟨_,_,_,_,_,BZ (Bg (q 51 4 (by decide) (by decide)) (Bg (q 52 3 (by decide) (by decide)) (Bg (q 53 4 (by decide) (by decide)) (Bf (q 54 3 (by decide) (by decide)))))) rfl⟩
 let G:Option PV:=some (.lst [.bl g0,.bl g1,.bl g2,.bl g3]);refine Nx.seq (h6.set e8 (show 8 < 11 by decide)) λ ρ7 (h7:HV (FR ns k X W (some (bx a b c)) (some (bx a2 b2 c2)) (some (tb t)) (some (tb t2)) G none none) [] ρ7)=>?_;have lt:=p.tab.1;have lt2:=p2.tab.1;have e9:Ak AL (Ad (BN (Aa 6) 1 (asgN 11) Bn (Ak Ef (Ad (Aa 11) (Ac)))) (Ad (BN (Aa 7) 1 (asgN 11) Bn (Ak Ef (Ad (Aa 11) (Ac)))) (Ac))) ρ7=.ok (.lst [tb t,tb t2],om,ρ7):=BZ (Bg (N5 (h7.var rfl) h7.len (by rw [lt];exact AW ha.2 (by decide))) (Bf (N5 (h7.var rfl) h7.len (by rw [lt2];exact AW ha2.2 (by decide))))) rfl;refine Nx.seq (h7.setN e9 (show 9 < 11 by decide)) λ ρ8 (h8:HV (FR ns k X W (some (bx a b c)) (some (bx a2 b2 c2)) (some (tb t)) (some (tb t2)) G (some (.lst [tb t,tb t2])) none) [9] ρ8)=>?_;obtain ⟨P,pt,pf,okP⟩:=Xg (ys:=(xs.drop 46).take 3) p ha hb hc (by rw [Ly (by rw [hx];decide)];exact Bj _) g1;obtain ⟨Q,qt,qf,okQ⟩:=Xg (ys:=(xs.drop 47).take 3) p2 ha2 hb2 hc2 (by rw [Ly (by rw [hx];decide)];exact Bj _) g3;refine Nx.seq (P:=HV (FR ns k X W (some (bx a b c)) (some (bx a2 b2 c2)) (some P) (some (tb t2)) G (some (.lst [P,tb t2])) none) [9]) ?_ λ ρ9 h9=>?_
 ·have tt:=A8 (Ec (f:=Ab Ai (Aa 8) (bC (.int 1))) (C5 (h8.var rfl) rfl rfl));cases g1 with
  | true=>rw [pt rfl];exact Nx.no tt h8
  | false=>
   obtain ⟨_,d,e⟩:=pf rfl;have cl:∀ {ρ:Ag}{s9:Option PV},HV (FR ns k X W (some (bx a b c)) (some (bx a2 b2 c2)) (some (tb t)) (some (tb t2)) G s9 none) [9] ρ->Al GD (Ad (Aa 4) (Ad (Aa 6) (Ad (C3 (Aa 2) (some (bC (.int 46))) (some (bC (.int 49)))) (Ac)))) ρ=.ok (P,d,ρ):=λ h=>AJ (Bg (h.var rfl) (Bg (h.var rfl) (Bf (Mm (h.var rfl) (by decide) (by rw [hx];decide))))) e;refine Nx.yes tt (Nx.seq (W4 h8 rfl rfl (cl h8) rfl) λ ρ (h:HV (FR ns k X W (some (bx a b c)) (some (bx a2 b2 c2)) (some (tb t)) (some (tb t2)) G (some (.lst [P,tb t2])) none) [9] ρ)=>?_);exact h.setK (cl h) (show 6 < 11 by decide) (λ j hj=>by rw [jb1.mp hj];rfl) (by decide)
 refine Nx.seq (P:=HV (FR ns k X W (some (bx a b c)) (some (bx a2 b2 c2)) (some P) (some Q) G (some (.lst [P,Q])) none) [9]) ?_ λ ρ10 h10=>?_
 ·have tt:=A8 (Ec (f:=Ab Ai (Aa 8) (bC (.int 3))) (C5 (h9.var rfl) rfl rfl));cases g3 with
  | true=>rw [qt rfl];exact Nx.no tt h9
  | false=>
   obtain ⟨_,d,e⟩:=qf rfl;have cl:∀ {ρ:Ag}{s9:Option PV},HV (FR ns k X W (some (bx a b c)) (some (bx a2 b2 c2)) (some P) (some (tb t2)) G s9 none) [9] ρ->Al GD (Ad (Aa 5) (Ad (Aa 7) (Ad (C3 (Aa 2) (some (bC (.int 47))) (some (bC (.int 50)))) (Ac)))) ρ=.ok (Q,d,ρ):=λ h=>AJ (Bg (h.var rfl) (Bg (h.var rfl) (Bf (Mm (h.var rfl) (by decide) (by rw [hx];decide))))) e;refine Nx.yes tt (Nx.seq (W4 h9 rfl rfl (cl h9) rfl) λ ρ (h:HV (FR ns k X W (some (bx a b c)) (some (bx a2 b2 c2)) (some P) (some (tb t2)) G (some (.lst [P,Q])) none) [9] ρ)=>?_);exact h.setK (cl h) (show 7 < 11 by decide) (λ j hj=>by rw [jb1.mp hj];rfl) (by decide)
 obtain ⟨n,kz⟩:=qO ha hb hc;obtain ⟨d10,e10⟩:=xq kz g0 g1 g2 g3;obtain ⟨D,eD⟩:∃ D,D=DY w g0 g1 g2 g3 n:=⟨_,rfl⟩
 rw [<- eD] at e10;let K:Option PV:=some (.lst [P,Q]);refine Nx.seq (h10.set (AJ (Bg (h10.var rfl) (Bg (h10.var rfl) (Bf (h10.var rfl)))) e10) (show 10 < 11 by decide)) λ ρ11 (h11:HV (FR ns k X W (some (bx a b c)) (some (bx a2 b2 c2)) (some P) (some Q) G K (some (.str D))) [] ρ11)=>?_;obtain ⟨B,bt,bf⟩:=XD (xs.getD 55 0) g0;obtain ⟨O,ot,of⟩:=XD (xs.getD 49 0) g2;refine Nx.seq (P:=HV (FR ns k X W (some B) (some (bx a2 b2 c2)) (some P) (some Q) G K (some (.str D))) []) ?_ λ ρ12 h12=>?_
 ·have tt:=A8 (Ec (f:=Ab Ai (Aa 8) (bC (.int 0))) (C5 (h11.var rfl) rfl rfl));cases g0 with
  | true=>rw [bt rfl];exact Nx.no tt h11
  | false=>
   obtain ⟨_,d,e⟩:=bf rfl;exact Nx.yes tt (h11.set (AJ (Bf (OF (h11.var rfl) (by rw [hx];decide))) e) (show 4 < 11 by decide))
 refine Nx.seq (P:=HV (FR ns k X W (some B) (some O) (some P) (some Q) G K (some (.str D))) []) ?_ λ ρ13 h13=>?_
 ·have tt:=A8 (Ec (f:=Ab Ai (Aa 8) (bC (.int 2))) (C5 (h12.var rfl) rfl rfl));cases g2 with
  | true=>rw [ot rfl];exact Nx.no tt h12
  | false=>
   obtain ⟨_,d,e⟩:=of rfl;exact Nx.yes tt (h12.set (AJ (Bf (OF (h12.var rfl) (by rw [hx];decide))) e) (show 5 < 11 by decide))
 have s1:St a b c t g0 g1 B P:=⟨⟨p,ha,hb,hc⟩,bt,λ e=>(bf e).1,pt,λ e=>(pf e).1⟩
 have s2:St a2 b2 c2 t2 g2 g3 O Q:=⟨⟨p2,ha2,hb2,hc2⟩,ot,λ e=>(of e).1,qt,λ e=>(qf e).1⟩
 obtain ⟨dq,eq⟩:=ym hw kz s1 s2;rw [<- eD] at eq;refine Nx.seq (P:=λ ρ=>∃ E:Str,(E = "" \/ E=D)/\HV (FR ns k X W (some B) (some O) (some P) (some Q) G K (some (.str E))) [] ρ) ?_ λ ρ14 ⟨E,hE,h14⟩=>?_
 ·obtain ⟨b1,hb1⟩:=Xr false D "told" (dv (.str D)) om;have tt:=A8 (DF (C5 (f:=Aa 10) (g:=bC (.str "told")) (h13.var rfl) rfl hb1) (λ _=>DF (E7 (p:=λ i j=>decide (j < i)) (g:=bC (.int 4)) (h13.var (j:=3) rfl) rfl) (λ _=>E7 (p:=λ i j=>decide (j < i)) (g:=bC (.int 0)) (h13.var (j:=1) rfl) rfl) rfl) rfl);obtain ⟨q,hq⟩:∃ q,q=(b1 && (decide ((4:Int) < w) && decide ((0:Int) < k))):=⟨_,rfl⟩
  rw [<- hq] at tt;cases q with
  | true=>exact Nx.yes tt (Nx.mono (h13.set rfl (show 10 < 11 by decide)) λ ρ h=>⟨"",.inl rfl,h⟩)
  | false=>exact Nx.no tt ⟨D,.inr rfl,h13⟩
 refine Nx.seq (P:=HV (FR ns k X W (some B) (some O) (some P) (some Q) G K (some (.str E))) []) ?_ λ ρ15 h15=>?_
 ·have tt:∃ x,bT (Cu (Ab (Ap true) (Aa 10) (bC (.str ""))) (Ab (Ap true) (Al IT (Ad (Aa 3) (Ad (Aa 4) (Ad (Aa 6) (Ad (Aa 5) (Ad (Aa 7) (Ac))))))) (Aa 10))) ρ14=.ok (x && false,ρ14):=by
   rcases hE with rfl | rfl
   ·exact ⟨false,A8 (DF (C5 (h14.var rfl) rfl (Wg _ _ _)) (λ e=>nomatch e) rfl)⟩
   ·obtain ⟨b1,hb1⟩:=Xr true E "" (dv (.str E)) om;exact ⟨b1,A8 (DF (C5 (h14.var rfl) rfl hb1) (λ _=>C5 (AJ (Bg (h14.var rfl) (Bg (h14.var rfl) (Bg (h14.var rfl) (Bg (h14.var rfl) (Bf (h14.var rfl)))))) eq) (h14.var rfl) (Wg _ _ _)) rfl)⟩
  obtain ⟨x,tt⟩:=tt;rw [Pk] at tt;exact Nx.no tt h14
 obtain ⟨dl,el⟩:=WV (Bg (h15.var (j:=6) rfl) (Bf (h15.var (j:=7) rfl))) (by show 2<=Aw;exact AW (by decide) z);have tt:=A8 (C5 el (h15.var (j:=9) rfl) (vR (λ x hx=>by
  simp only [jb2,KI,or_false] at hx;rcases hx with rfl | rfl
  ·exact okP
  ·exact okQ) dl (dv (.lst [P,Q]))))
 exact Nx.no tt (h15.weak ⟨rfl,rfl,trivial⟩ λ _ h=>h)
end
def law_true:∀ ns:List Int,ns.length<=63->∃ d z,F40 [.scr ns]=.ok (.bl true,d,z):=by
 intro ns hns;have hF:F40=Am false 1 10 PH:=rfl;rw [hF,ju];refine Gv.fn rfl (show Gv _ [some (.scr ns,om),none,none,none,none,none,none,none,none,none,none] _ from ?_);let ρ0:Ag:=[some (.scr ns,om),none,none,none,none,none,none,none,none,none,none]
 let N:Int:=ns.length;obtain ⟨m,hm,em⟩:∃ m:Nat,m<=20/\Ak Hz (Ad (bC (.int 1)) (Ad (Ak Es (Ad (Ak Cm (Ad (Aa 0) (Ac))) (Ad (bC (.int 20)) (Ac)))) (Ac))) ρ0=.ok (.int (m:Int),om,ρ0):=by
  refine ⟨(if (if (20:Int) < N then 20 else N) > 1 then (if (20:Int) < N then 20 else N) else 1).toNat,?_,?_⟩
  ·split <;> split <;> omega
  ·have e:((((if (if (20:Int) < N then 20 else N) > 1 then (if (20:Int) < N then 20 else N) else 1).toNat:Nat)):Int)=(if (if (20:Int) < N then 20 else N) > 1 then (if (20:Int) < N then 20 else N) else 1):=by
    split <;> split <;> omega
   rw [e];rfl
 have F0:HV [some (.scr ns),none,none,none,none,none,none,none,none,none,none] [] ρ0:=HV.of ρ0;refine Gv.ex (Nx.forR (λ _=>HV [some (.scr ns),none,none,none,none,none,none,none,none,none,none] []) em (by omega) F0 λ k ρ hk h=>?_) λ ρ1 _=>Gv.ret rfl;obtain ⟨ρa,ea,Ha⟩:=h.asgN (.int (k:Int)) (show 1 < 11 by decide) (λ z=>nomatch z);exact ⟨ρa,ea,Nx.mono (qr Ha) λ ρ' h'=>h'.weak ⟨rfl,trivial⟩ λ _ h=>h⟩
open PySem PySem.Spec PyProof.Rows L2 QQ
section
variable {P:AF}{w:AB}{K:Frag}{mg:Str->Option Ae}
def c0:FnScope S0.N ["thing"] (AY t0):={}
def c1:FnScope S1.N ["thing"] (AY t1):={}
def c2:FnScope S2.N ["box"] (AY t2):={}
def c3:FnScope S3.N ["thing","columns","height"] (AY t3):={}
def c4:FnScope S4.N ["numbers"] (AY t4):={}
def c5:FnScope S5.N ["table","j"] (AY t5):={}
def c6:FnScope S6.N ["box","thing"] (AY t6):={}
def c7:FnScope S7.N ["box","pile"] (AY t7):={}
def c8:FnScope S8.N ["box","pile"] (AY t8):={}
def c9:FnScope S9.N ["numbers","level"] (AY t9):={}
def gZ:FnScope S10.N ["box","pile"] (AY O7):={}
def gY:FnScope S11.N ["box","pile"] (AY O6):={}
def gW:FnScope S12.N ["pile"] (AY O5):={}
def gU:FnScope S13.N ["columns","height"] (AY O4):={}
def gT:FnScope S14.N ["table","ahead"] (AY O3):={}
def gS:FnScope S15.N ["box"] (AY O2):={}
def gR:FnScope S16.N ["box"] (AY O1):={}
def gQ:FnScope S17.N ["box","pile"] (AY O0):={}
def gP:FnScope S18.N ["box","pile"] (AY Oz):={}
def gO:FnScope S19.N ["box","pile"] (AY Oy):={}
def gN:FnScope S20.N ["box"] (AY Ox):={}
def gM:FnScope S21.N ["pile","lines","box"] (AY Ow):={}
def gL:FnScope S22.N ["box"] (AY Ov):={}
def gK:FnScope S23.N ["box"] (AY Ou):={}
def gJ:FnScope S24.N ["box"] (AY Ot):={}
def gI:FnScope S25.N ["box"] (AY Oq):={}
def gH:FnScope S26.N ["form"] (AY Oo):={}
def gG:FnScope S27.N ["form"] (AY Om):={}
def gF:FnScope S28.N ["box","pile"] (AY Ol):={}
def gE:FnScope S29.N ["box","pile","other_box","other"] (AY Oj):={}
def gD:FnScope S30.N ["script","k"] (AY Oi):={}
def gC:FnScope S31.N ["cell","many"] (AY Oh):={}
def gB:FnScope S32.N ["xs"] (AY Og):={}
def gA:FnScope S33.N ["box","xs"] (AY Of):={}
def g9:FnScope S34.N ["box","pile","xs"] (AY LV):={}
def g8:FnScope S35.N ["number"] (AY LU):={}
def g7:FnScope S36.N ["which","box","pile","other_box","other"] (AY LS):={}
def gz:FnScope S37.N ["which","box","pile","other_box","other"] (AY LR):={}
def gy:FnScope S38.N ["box"] (AY Oe):={}
def gw:FnScope S39.N ["which","good","box"] (AY Od):={}
def gv:FnScope S40.N ["script"] (AY K1):={}
def all_ok {fa:Addr} (G:Given dfs [0,1,2,3,4,5,6,7,8,9,10,11,53] K mg) (hm:mg "law" = some (.ref fa)):
  ∃ fd:Dv,(∀ (s:Aj) (u:Ae),BindsTo s fd ⟨[u],[]⟩ [("script",u)])/\∀ base:Heap,FnOk P w K mg base (AK P w K) 12 fa fd ["script"] (Bh K false 1 F40):=by
 have hb:=G.bn;have gx:=G.gx;obtain ⟨a0,d0,m0,f0⟩:=G.df 0 _ _ rfl;obtain ⟨a1,d1,m1,f1⟩:=G.df 1 _ _ rfl;obtain ⟨a2,d2,m2,f2⟩:=G.df 2 _ _ rfl;obtain ⟨a3,d3,m3,f3⟩:=G.df 3 _ _ rfl;obtain ⟨a4,d4,m4,f4⟩:=G.df 4 _ _ rfl;obtain ⟨a5,d5,m5,f5⟩:=G.df 5 _ _ rfl;obtain ⟨a6,d6,m6,f6⟩:=G.df 6 _ _ rfl;obtain ⟨a7,d7,m7,f7⟩:=G.df 7 _ _ rfl;obtain ⟨a8,d8,m8,f8⟩:=G.df 8 _ _ rfl;obtain ⟨a9,d9,m9,f9⟩:=G.df 9 _ _ rfl;obtain ⟨a10,d10,m10,f10⟩:=G.df 10 _ _ rfl;obtain ⟨a11,d11,m11,f11⟩:=G.df 11 _ _ rfl;obtain ⟨a12,d12,m12,f12⟩:=G.df 12 _ _ rfl;obtain ⟨a13,d13,m13,f13⟩:=G.df 13 _ _ rfl;obtain ⟨a14,d14,m14,f14⟩:=G.df 14 _ _ rfl;obtain ⟨a15,d15,m15,f15⟩:=G.df 15 _ _ rfl;obtain ⟨a16,d16,m16,f16⟩:=G.df 16 _ _ rfl;obtain ⟨a17,d17,m17,f17⟩:=G.df 17 _ _ rfl;obtain ⟨a18,d18,m18,f18⟩:=G.df 18 _ _ rfl;obtain ⟨a19,d19,m19,f19⟩:=G.df 19 _ _ rfl;obtain ⟨a20,d20,m20,f20⟩:=G.df 20 _ _ rfl;obtain ⟨a21,d21,m21,f21⟩:=G.df 21 _ _ rfl;obtain ⟨a22,d22,m22,f22⟩:=G.df 22 _ _ rfl;obtain ⟨a23,d23,m23,f23⟩:=G.df 23 _ _ rfl;obtain ⟨a24,d24,m24,f24⟩:=G.df 24 _ _ rfl;obtain ⟨a25,d25,m25,f25⟩:=G.df 25 _ _ rfl;obtain ⟨a26,d26,m26,f26⟩:=G.df 26 _ _ rfl;obtain ⟨a27,d27,m27,f27⟩:=G.df 27 _ _ rfl;obtain ⟨a28,d28,m28,f28⟩:=G.df 28 _ _ rfl;obtain ⟨a29,d29,m29,f29⟩:=G.df 29 _ _ rfl;obtain ⟨a30,d30,m30,f30⟩:=G.df 30 _ _ rfl;obtain ⟨a31,d31,m31,f31⟩:=G.df 31 _ _ rfl;obtain ⟨a32,d32,m32,f32⟩:=G.df 32 _ _ rfl;obtain ⟨a33,d33,m33,f33⟩:=G.df 33 _ _ rfl;obtain ⟨a34,d34,m34,f34⟩:=G.df 34 _ _ rfl;obtain ⟨a35,d35,m35,f35⟩:=G.df 35 _ _ rfl;obtain ⟨a36,d36,m36,f36⟩:=G.df 36 _ _ rfl;obtain ⟨a37,d37,m37,f37⟩:=G.df 37 _ _ rfl;obtain ⟨a38,d38,m38,f38⟩:=G.df 38 _ _ rfl;obtain ⟨a39,d39,m39,f39⟩:=G.df 39 _ _ rfl;obtain ⟨a40,d40,m40,f40⟩:=G.df 40 _ _ rfl;cases hm.symm.trans m40;have B0:=f0.binds (ps:=["thing"]) λ _ _ _ _ _ _ us hl=>by obtain ⟨_,rfl⟩:=BY hl;rfl
 have B1:=f1.binds (ps:=["thing"]) λ _ _ _ _ _ _ us hl=>by obtain ⟨_,rfl⟩:=BY hl;rfl
 have B2:=f2.binds (ps:=["box"]) λ _ _ _ _ _ _ us hl=>by obtain ⟨_,rfl⟩:=BY hl;rfl
 have B3:=f3.binds (ps:=["thing","columns","height"]) λ _ _ _ _ _ _ us hl=>by obtain ⟨_,_,_,rfl⟩:=Gj hl;rfl
 have B4:=f4.binds (ps:=["numbers"]) λ _ _ _ _ _ _ us hl=>by obtain ⟨_,rfl⟩:=BY hl;rfl
 have B5:=f5.binds (ps:=["table","j"]) λ _ _ _ _ _ _ us hl=>by obtain ⟨_,_,rfl⟩:=Cd hl;rfl
 have B6:=f6.binds (ps:=["box","thing"]) λ _ _ _ _ _ _ us hl=>by obtain ⟨_,_,rfl⟩:=Cd hl;rfl
 have B7:=f7.binds (ps:=["box","pile"]) λ _ _ _ _ _ _ us hl=>by obtain ⟨_,_,rfl⟩:=Cd hl;rfl
 have B8:=f8.binds (ps:=["box","pile"]) λ _ _ _ _ _ _ us hl=>by obtain ⟨_,_,rfl⟩:=Cd hl;rfl
 have B9:=f9.binds (ps:=["numbers","level"]) λ _ _ _ _ _ _ us hl=>by obtain ⟨_,_,rfl⟩:=Cd hl;rfl
 have B10:=f10.binds (ps:=["box","pile"]) λ _ _ _ _ _ _ us hl=>by obtain ⟨_,_,rfl⟩:=Cd hl;rfl
 have B11:=f11.binds (ps:=["box","pile"]) λ _ _ _ _ _ _ us hl=>by obtain ⟨_,_,rfl⟩:=Cd hl;rfl
 have B12:=f12.binds (ps:=["pile"]) λ _ _ _ _ _ _ us hl=>by obtain ⟨_,rfl⟩:=BY hl;rfl
 have B13:=f13.binds (ps:=["columns","height"]) λ _ _ _ _ _ _ us hl=>by obtain ⟨_,_,rfl⟩:=Cd hl;rfl
 have B14:=f14.binds (ps:=["table","ahead"]) λ _ _ _ _ _ _ us hl=>by obtain ⟨_,_,rfl⟩:=Cd hl;rfl
 have B15:=f15.binds (ps:=["box"]) λ _ _ _ _ _ _ us hl=>by obtain ⟨_,rfl⟩:=BY hl;rfl
 have B16:=f16.binds (ps:=["box"]) λ _ _ _ _ _ _ us hl=>by obtain ⟨_,rfl⟩:=BY hl;rfl
 have B17:=f17.binds (ps:=["box","pile"]) λ _ _ _ _ _ _ us hl=>by obtain ⟨_,_,rfl⟩:=Cd hl;rfl
 have B18:=f18.binds (ps:=["box","pile"]) λ _ _ _ _ _ _ us hl=>by obtain ⟨_,_,rfl⟩:=Cd hl;rfl
 have B19:=f19.binds (ps:=["box","pile"]) λ _ _ _ _ _ _ us hl=>by obtain ⟨_,_,rfl⟩:=Cd hl;rfl
 have B20:=f20.binds (ps:=["box"]) λ _ _ _ _ _ _ us hl=>by obtain ⟨_,rfl⟩:=BY hl;rfl
 have B21:=f21.binds (ps:=["pile","lines","box"]) λ _ _ _ _ _ _ us hl=>by obtain ⟨_,_,_,rfl⟩:=Gj hl;rfl
 have B22:=f22.binds (ps:=["box"]) λ _ _ _ _ _ _ us hl=>by obtain ⟨_,rfl⟩:=BY hl;rfl
 have B23:=f23.binds (ps:=["box"]) λ _ _ _ _ _ _ us hl=>by obtain ⟨_,rfl⟩:=BY hl;rfl
 have B24:=f24.binds (ps:=["box"]) λ _ _ _ _ _ _ us hl=>by obtain ⟨_,rfl⟩:=BY hl;rfl
 have B25:=f25.binds (ps:=["box"]) λ _ _ _ _ _ _ us hl=>by obtain ⟨_,rfl⟩:=BY hl;rfl
 have B26:=f26.binds (ps:=["form"]) λ _ _ _ _ _ _ us hl=>by obtain ⟨_,rfl⟩:=BY hl;rfl
 have B27:=f27.binds (ps:=["form"]) λ _ _ _ _ _ _ us hl=>by obtain ⟨_,rfl⟩:=BY hl;rfl
 have B28:=f28.binds (ps:=["box","pile"]) λ _ _ _ _ _ _ us hl=>by obtain ⟨_,_,rfl⟩:=Cd hl;rfl
 have B29:=f29.binds (ps:=["box","pile","other_box","other"]) λ _ _ _ _ _ _ us hl=>by obtain ⟨_,_,_,_,rfl⟩:=Mx hl;rfl
 have B30:=f30.binds (ps:=["script","k"]) λ _ _ _ _ _ _ us hl=>by obtain ⟨_,_,rfl⟩:=Cd hl;rfl
 have B31:=f31.binds (ps:=["cell","many"]) λ _ _ _ _ _ _ us hl=>by obtain ⟨_,_,rfl⟩:=Cd hl;rfl
 have B32:=f32.binds (ps:=["xs"]) λ _ _ _ _ _ _ us hl=>by obtain ⟨_,rfl⟩:=BY hl;rfl
 have B33:=f33.binds (ps:=["box","xs"]) λ _ _ _ _ _ _ us hl=>by obtain ⟨_,_,rfl⟩:=Cd hl;rfl
 have B34:=f34.binds (ps:=["box","pile","xs"]) λ _ _ _ _ _ _ us hl=>by obtain ⟨_,_,_,rfl⟩:=Gj hl;rfl
 have B35:=f35.binds (ps:=["number"]) λ _ _ _ _ _ _ us hl=>by obtain ⟨_,rfl⟩:=BY hl;rfl
 have B36:=f36.binds (ps:=["which","box","pile","other_box","other"]) λ _ _ _ _ _ _ us hl=>by obtain ⟨_,_,_,_,_,rfl⟩:=Mw hl;rfl
 have B37:=f37.binds (ps:=["which","box","pile","other_box","other"]) λ _ _ _ _ _ _ us hl=>by obtain ⟨_,_,_,_,_,rfl⟩:=Mw hl;rfl
 have B38:=f38.binds (ps:=["box"]) λ _ _ _ _ _ _ us hl=>by obtain ⟨_,rfl⟩:=BY hl;rfl
 have B39:=f39.binds (ps:=["which","good","box"]) λ _ _ _ _ _ _ us hl=>by obtain ⟨_,_,_,rfl⟩:=Gj hl;rfl
 refine ⟨d40,?_,λ base=>?_⟩
 ·obtain ⟨_,_,_,_,_,_,_,_,_,rfl,_,_⟩:=f40.ex;exact λ s v=>.of_eq rfl
 have o0:FnOk P w K mg base (AK P w K) 1 a0 d0 ["thing"] (Bh K false 1 F0):=BI S0 f0 c0 gx (BC hb) h0;have o1:FnOk P w K mg base (AK P w K) 2 a1 d1 ["thing"] (Bh K false 1 F1):=BI S1 f1 c1 gx (Bb (BC hb) m0 f0 B0 o0) h1;have o2:FnOk P w K mg base (AK P w K) 3 a2 d2 ["box"] (Bh K false 1 F2):=BI S2 f2 c2 gx (Bb (BC hb) m1 f1 B1 o1) h2;have o3:FnOk P w K mg base (AK P w K) 2 a3 d3 ["thing","columns","height"] (Bh K false 3 F3):=BI S3 f3 c3 gx (Bb (BC hb) m0 f0 B0 o0) h3;have o4:FnOk P w K mg base (AK P w K) 1 a4 d4 ["numbers"] (Bh K false 1 F4):=BI S4 f4 c4 gx (BC hb) h4;have o5:FnOk P w K mg base (AK P w K) 1 a5 d5 ["table","j"] (Bh K false 2 F5):=BI S5 f5 c5 gx (BC hb) h5;have o6:FnOk P w K mg base (AK P w K) 4 a6 d6 ["box","thing"] (Bh K false 2 F6):=BI S6 f6 c6 gx (Bb (Bb (Bb (Bb (BC hb) m5 f5 B5 o5) m4 f4 B4 o4) m3 f3 B3 o3) m2 f2 B2 o2) h6;have o7:FnOk P w K mg base (AK P w K) 5 a7 d7 ["box","pile"] (Bh K false 2 F7):=BI S7 f7 c7 gx (Bb (BC hb) m6 f6 B6 o6) h7;have o8:FnOk P w K mg base (AK P w K) 6 a8 d8 ["box","pile"] (Bh K false 2 F8):=BI S8 f8 c8 gx (Bb (Bb (BC hb) m7 f7 B7 o7) m5 f5 B5 o5) h8;have o9:FnOk P w K mg base (AK P w K) 1 a9 d9 ["numbers","level"] (Bh K false 2 F9):=BI S9 f9 c9 gx (BC hb) h9;have o10:FnOk P w K mg base (AK P w K) 6 a10 d10 ["box","pile"] (Bh K false 2 PY):=BI S10 f10 gZ gx (Bb (Bb (Bb (BC hb) m9 f9 B9 o9) m7 f7 B7 o7) m5 f5 B5 o5) h10;have o11:FnOk P w K mg base (AK P w K) 6 a11 d11 ["box","pile"] (Bh K false 2 ZX):=BI S11 f11 gY gx (Bb (BC hb) m7 f7 B7 o7) h11;have o12:FnOk P w K mg base (AK P w K) 1 a12 d12 ["pile"] (Bh K false 1 MV):=BI S12 f12 gW gx (BC hb) h12;have o13:FnOk P w K mg base (AK P w K) 1 a13 d13 ["columns","height"] (Bh K false 2 MU):=BI S13 f13 gU gx (BC hb) h13;have o14:FnOk P w K mg base (AK P w K) 1 a14 d14 ["table","ahead"] (Bh K false 2 Lc):=BI S14 f14 gT gx (BC hb) h14;have o15:FnOk P w K mg base (AK P w K) 1 a15 d15 ["box"] (Bh K false 1 Uo):=BI S15 f15 gS gx (BC hb) h15;have o16:FnOk P w K mg base (AK P w K) 4 a16 d16 ["box"] (Bh K false 1 Um):=BI S16 f16 gR gx (Bb (Bb (BC hb) m15 f15 B15 o15) m2 f2 B2 o2) gp;have o17:FnOk P w K mg base (AK P w K) 7 a17 d17 ["box","pile"] (Bh K false 2 E6):=BI S17 f17 gQ gx (Bb (Bb (BC hb) m8 f8 B8 o8) m7 f7 B7 o7) gn;have o18:FnOk P w K mg base (AK P w K) 7 a18 d18 ["box","pile"] (Bh K false 2 EJ):=BI S18 f18 gP gx (Bb (BC hb) m11 f11 B11 o11) gk;have o19:FnOk P w K mg base (AK P w K) 7 a19 d19 ["box","pile"] (Bh K false 2 Fg):=BI S19 f19 gO gx (Bb (Bb (BC hb) m10 f10 B10 o10) m7 f7 B7 o7) gj;have o20:FnOk P w K mg base (AK P w K) 5 a20 d20 ["box"] (Bh K false 1 Ea):=BI S20 f20 gN gx (Bb (Bb (BC hb) m16 f16 B16 o16) m2 f2 B2 o2) gi;have o21:FnOk P w K mg base (AK P w K) 2 a21 d21 ["pile","lines","box"] (Bh K false 3 IW):=BI S21 f21 gM gx (Bb (BC hb) m14 f14 B14 o14) gh;have o22:FnOk P w K mg base (AK P w K) 3 a22 d22 ["box"] (Bh K false 1 GF):=BI S22 f22 gL gx (Bb (Bb (BC hb) m21 f21 B21 o21) m13 f13 B13 o13) gf;have o23:FnOk P w K mg base (AK P w K) 8 a23 d23 ["box"] (Bh K false 1 IV):=BI S23 f23 gK gx (Bb (Bb (Bb (BC hb) m22 f22 B22 o22) m20 f20 B20 o20) m17 f17 B17 o17) uZ;have o24:FnOk P w K mg base (AK P w K) 8 a24 d24 ["box"] (Bh K false 1 JT):=BI S24 f24 gJ gx (Bb (Bb (Bb (BC hb) m22 f22 B22 o22) m20 f20 B20 o20) m18 f18 B18 o18) uY;have o25:FnOk P w K mg base (AK P w K) 8 a25 d25 ["box"] (Bh K false 1 JS):=BI S25 f25 gI gx (Bb (Bb (Bb (BC hb) m22 f22 B22 o22) m20 f20 B20 o20) m19 f19 B19 o19) uX;have o26:FnOk P w K mg base (AK P w K) 7 a26 d26 ["form"] (Bh K false 1 Lb):=BI S26 f26 gH gx (Bb (BC hb) m8 f8 B8 o8) uW;have o27:FnOk P w K mg base (AK P w K) 7 a27 d27 ["form"] (Bh K false 1 IU):=BI S27 f27 gG gx (Bb (BC hb) m10 f10 B10 o10) uV;have o28:FnOk P w K mg base (AK P w K) 8 a28 d28 ["box","pile"] (Bh K false 2 EI):=BI S28 f28 gF gx (Bb (Bb (Bb (Bb (BC hb) m27 f27 B27 o27) m26 f26 B26 o26) m12 f12 B12 o12) m7 f7 B7 o7) uU;have o29:FnOk P w K mg base (AK P w K) 9 a29 d29 ["box","pile","other_box","other"] (Bh K false 4 Ic):=BI S29 f29 gE gx (Bb (Bb (Bb (BC hb) m28 f28 B28 o28) m7 f7 B7 o7) m2 f2 B2 o2) uT;have o30:FnOk P w K mg base (AK P w K) 1 a30 d30 ["script","k"] (Bh K false 2 Ul):=BI S30 f30 gD gx (BC hb) uS;have o31:FnOk P w K mg base (AK P w K) 1 a31 d31 ["cell","many"] (Bh K false 2 Uk):=BI S31 f31 gC gx (BC hb) uR;have o32:FnOk P w K mg base (AK P w K) 1 a32 d32 ["xs"] (Bh K false 1 PX):=BI S32 f32 gB gx (BC hb) uQ;have o33:FnOk P w K mg base (AK P w K) 1 a33 d33 ["box","xs"] (Bh K false 2 PU):=BI S33 f33 gA gx (BC hb) uP;have o34:FnOk P w K mg base (AK P w K) 1 a34 d34 ["box","pile","xs"] (Bh K false 3 GD):=BI S34 f34 g9 gx (BC hb) uO;have o35:FnOk P w K mg base (AK P w K) 1 a35 d35 ["number"] (Bh K false 1 JR):=BI S35 f35 g8 gx (BC hb) uN;have o36:FnOk P w K mg base (AK P w K) 10 a36 d36 ["which","box","pile","other_box","other"] (Bh K false 5 Hj):=BI S36 f36 g7 gx (Bb (Bb (Bb (Bb (Bb (Bb (Bb (Bb (BC hb) m29 f29 B29 o29) m28 f28 B28 o28) m25 f25 B25 o25) m24 f24 B24 o24) m23 f23 B23 o23) m19 f19 B19 o19) m18 f18 B18 o18) m17 f17 B17 o17) uM;have o37:FnOk P w K mg base (AK P w K) 11 a37 d37 ["which","box","pile","other_box","other"] (Bh K false 5 IT):=BI S37 f37 gz gx (Bb (BC hb) m36 f36 B36 o36) uL;have o38:FnOk P w K mg base (AK P w K) 1 a38 d38 ["box"] (Bh K false 1 La):=BI S38 f38 gy gx (BC hb) uK;have o39:FnOk P w K mg base (AK P w K) 2 a39 d39 ["which","good","box"] (Bh K false 3 PR):=BI S39 f39 gw gx (Bb (BC hb) m38 f38 B38 o38) uJ;exact BI S40 f40 gv gx (Hx (Hx (Hx (Hx (Hx (Hx (Hx (Hx (BC hb) (by decide +kernel) Hm m39 f39 B39 rfl (o39.mono (by decide))) (by decide +kernel) Hm m37 f37 B37 rfl (o37.mono (by decide))) (by decide +kernel) Hm m35 f35 B35 rfl (o35.mono (by decide))) (by decide +kernel) Hm m34 f34 B34 rfl (o34.mono (by decide))) (by decide +kernel) Hm m33 f33 B33 rfl (o33.mono (by decide))) (by decide +kernel) Hm m32 f32 B32 rfl (o32.mono (by decide))) (by decide +kernel) Hm m31 f31 B31 rfl (o31.mono (by decide))) (by decide +kernel) Hm m30 f30 B30 rfl (o30.mono (by decide))) uI
end
end K50
open PySem PySem.W PyProof.Rows
set_option maxRecDepth 100000 in
set_option maxHeartbeats 0 in
theorem PySem.Challenge.cw_cornerpiles_k50_forms_refused_holds : PySem.Challenge.rw_cornerpiles_k50_forms_refused.Holds := by
 refine QQ.holds_by (l:=PySem.Challenge.rw_cornerpiles_k50_forms_refused) (q:=K50.view) (loose:=K50.loose) (N:=20000) (k:=12) (n:=63) (ds:=K50.dfs) (xc:=[0,1,2,3,4,5,6,7,8,9,10,11,53]) (F:=K50.F40) (x := "script") ?said rfl rfl (λ _=>rfl) K50.run (by rfl) (by rfl) (by rfl) (by rfl) (by decide +kernel) ⟨rfl,rfl,rfl,rfl,rfl,by decide +kernel⟩ ?hw rfl (by decide) rfl ⟨rfl,by decide,by decide,rfl⟩ (λ _ _ _ _ G hm=>K50.all_ok G hm) (λ _ _ _ ns hl hO hS=>QQ.sp_yes hO hS (K50.law_true ns hl))
 case said=>decide +kernel
 case hw=>w_witness2
