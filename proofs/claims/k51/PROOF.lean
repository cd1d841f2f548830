import PyProof.Rows.All
import Wide.All
import OpenK.AllK
import Wide.FinOn
import Lean
import PyProof.EqAt
import PyProof.EqKinds
import PyProof.TupleCall
import PySem.Challenge.RW_cornerpiles_k51_forms_told
open PySem renaming Value->Ae,Shared->Ak,wpAny_bind->A4,sizeLine->A2,starEach->AN,wpAny_pure->Bw,Program->AD,model->Av,wpAny->Aw,World->AB,Around->Bc,PyData->Br,cellsFrom->Dm,wpAny_truthy_bool->Ho,compareOp->Dy,mainGlobals->E7,FuncData->Dd,assignEach->E6,wpAny_holding->GK,NameKind->Dx,Scope->Bz,wpAny_mono->Fp,mem_of_lookup->LR,binaryOp->EL,wpAny_newObj_type->LQ,sysModules->Hm,bootBuiltins->Jp,cLine->C6,Builtin->vf2,backTo->DD,wpAny_newList->K0,intItems->FV,behindInMarks->Ky,wpAny_passesOwn->LP,sliceBounds->Jo,foldedSetIterable->ND,numAt->Dc,ReadsAll->Hl,wpAny_call_entry->NC,letOwnedTupleGo->NB,sizeLine_eq->LM,wpAny_Call_Name_kw->Q1,attributeBase->N7,wpAny_loadPart_at->Qz,relabel->Iv,codeAny->Iu,noFill_tuple_add->Qv,CmpOp->E4,wpAny_execs_nil->Qu,tupleKind->LL,pushCells_keeps->Qt,intItems_at->N4,importedModules->Qr,codeAny_builtin->Qo,callerA->Jl,assign->Hi,wpAny_newTuple->Qm,newFunctionEnv->Qk
open PySem.Heap renaming get?_push_of_some->CI,lt_size->Bn,get?_push_size->DF,size_update->Hn,get?_push_ne->K2,size_push->LN,SameBut->N5
open PySem.PyData renaming eqv->BK,canLayAll0->Dz,depthAll->DE,eqvAll->Ed,canLay0->K1
open PySem.Obj renaming mapSeq->C7
open PySem.W renaming findIn->El,kia_one->EN,kitOne->EM,mroIn->GJ,boot_heap->Ek,keepIn->Jq,kas_sort->GI,fnOf->Kx,looks_findIn->Q2,kitAny->NA,methodObj->Qy,kitx_none->Qx,boot_heap->Qw,instObj->Qn,lookIn->Qi,codeIn->Qh
open PyProof.Rows renaming seqObj->Bo,callWith_type1->NH,listUpdate_at->Kz,IntsAre->EK,seqEpoch_at->Kw,sortedAll->Jn,wpS_bind->Iy,size_push'->Kv,AllBare->Hk,subscriptTail->N9,slot_tuple_getitem->U8,pairsOf->Jm,list_sort_plain->Qs,get?_update_seq->Qq,envOfC->Hj,entry_list_sort->Qp,slot_list_sort->Ql,args_list_sort->Qj
open Ne renaming symm->BY
open PySem.F renaming plainAttrs_list->K3,type_list_append->QA,slot_list_append->Q9,args_tuple_add_2->Q8,type_list_clear->Q6,slot_list_clear->Q5,entry_tuple_add->Q4,slot_tuple_add->Q3
open False renaming elim->E5
open PySem.Builtin.Slice renaming slicePlaces->NG,sliceAdjust->QB,sliceApplied->U6
open PySem.Builtin.Tuple renaming tupleExact->NF
open PySem.SeqAt.EqAt renaming same->LO,of_refs->Q0
open PySem.Builtin.Str renaming strSliceIndices->QH
open PySem.Calls renaming call_function_entry->QD,Name_function_global->U7
open PySem.Builtin.List renaming listTooLong->Q7
open PySem.MeetsSeq3 renaming plain_eq_loop->N8
open PySem.SeqAt renaming RcNeAt->N6
open List renaming getD_eq_getElem?_getD->AH,mem_cons_of_mem->A8,mem_cons_self->A9,length_map->Ax,range->An,mem_append_right->Bb,getElem?_eq_getElem->BC,mem_append_left->Bq,mem_cons->ja9,length_cons->Ba,getElem?_eq_some_iff->jb1,mem_append->jb2,length_append->BL,replicate->Bg,map_cons->Bf,getElem?_set_ne->Cw,mem_singleton->jc0,all_eq_true->jc1,size_toArray->C4,getElem?_map->C8,mem_range->jc6,getElem?_append_left->DU,map_map->BB,getElem?_set_self->D4,length_range->CQ,getElem?_append_right->EX,map_congr_left->DG,length_reverse->EW,length_set->DT,filter_congr->EA,length_take->Ew,getElem?_replicate->HC,map_nil->Dq,lookup_cons->EU,getElem_mem->Fy,map_append->ET,mem_map->je7,length_replicate->IS,length_singleton->IQ,getElem?_eq_none->IP,getElem?_cons_succ->JK,filter_cons_of_neg->JJ,drop_eq_getElem_cons->KY,set_cons_zero->IM,set_cons_succ->IL,filter_cons_of_pos->KW,range_succ->GP,replicate_succ->JI,filter_eq_self->jg6,getElem?_take_of_lt->M5,nodup_cons->jh2,of_mem_zip->IH,getElem_of_mem->KR,not_mem_nil->JG,all_cons->HB,pairwise_cons->jh8,mem_or_eq_of_mem_set->OU,append_nil->JF,flatten_cons->KP,nil_append->JE,mem_filter->ji7,filter_map->KO,mem_of_mem_take->OT,getElem?_eq_none_iff->jj4,filter_cons->M1,filterMap_cons->OS,filter_flatMap->OQ,length_nil->M0,findIdx?_eq_some_iff_getElem->jk1,append_assoc->OP,reverse_cons->OO,toArray->KI,map_set->KH,zipWith->KG,mem_flatMap->jl3,mem_reverse->jl4,find?_cons->OL,range'->KC,getElem?_concat_length->YD,flatMap_append->SW,map_const'->OJ,length_zip->OI,getElem_range->SV,getElem?_take->SU,any_cons->OH,length_drop->SS,cons_append->SR,ext_getElem->SQ,drop_eq_nil_of_le->YC,drop_of_length_le->YA,length_pos_of_mem->Y9,set_nil->OE,set_append_right->Y8,sum_append->SO,all_map->OD,take_zero->SN,drop_zero->SK,take_succ_cons->Y7,replicate_zero->Y6,getElem?_range->Y5,length_flatMap->Y4,mem_filterMap->jp0,getD->Mu,findIdx?_cons->Y2,filter_append->Y1,flatMap_assoc->Y0,getElem?_drop->Yz,map_take->SI,filter_filter->Yy,map_replicate->Yx,mem_range'_1->jq2,ext_getElem?->Yv,pairwise_map->jq4,flatMap_cons->Yu,getElem?_set->Yt,all_nil->SE,flatten_nil->Yr,range'_succ->Yp,map_flatMap->Yo,flatMap_map->Yn,any_eq_true->Ym,length->SD,foldl_cons->Yk,forIn_cons->Yj,range_zero->Yh,take_succ->Yd,foldl->SA,drop_nil->Yc,take_nil->Yb,any_map->XW
open Bool renaming and_eq_true->A7,false_ne_true->Cp,eq_iff_iff->Gg,and_false->Fw,or_eq_true->GQ,false_eq_true->JH,and_true->HA,false_xor->JD,and_eq_true_iff->jo3,false_or->SJ,not_eq_true'->Yw,and_comm->XZ
open Nat renaming lt_of_lt_of_le->Cf,le_refl->AW,ne_of_lt->Cc,le_trans->CA,lt_of_succ_lt_succ->GR,zero_add->DS,mul_comm->E9,le_of_succ_le->IK,lt_succ_of_lt->IJ,lt_succ_self->II,lt_irrefl->GO,mul_le_mul->JC,ne_of_gt->IF,zero_le->Hz,mod_eq_of_lt->M4,div_eq_of_lt->M3,mul_add_mod->Mz,mul_add_div->My,min_le_right->ON,le_add_right->OM,div_lt_of_lt_mul->SX,min_le_left->OK,sub_self->Mx,add_zero->Mw,le_succ->Mv,le_of_lt->OG,succ_mul->OF,le_of_eq->SH,sub_zero->SG,lt_or_ge->SF,succ_le_succ->Yq,not_lt_zero->Yg,min_eq_left->Ye,mod_lt->Sz,min_self->XX
open Option renaming map_eq_some_iff->jc2,bind_eq_some_iff->jc3,map_some->IG,isSome_iff_exists->jm7,isSome_some->Y3,getD_none->Ys,getD_some->Yl
open Int renaming toNat_natCast->EV,zero_add->E8,emod_lt_of_pos->KQ,le_refl->Hy,emod_nonneg->KN,le_trans->KJ,le_antisymm->Yi,not_lt->jt5
open Array renaming length_toList->KU,getElem?_toList->SY,getElem?_eq_none->YB,toList->XY,map->XU
set_option Elab.async false
set_option linter.all false
set_option maxRecDepth 100000
set_option autoImplicit false
set_option maxHeartbeats 2000000
namespace L2
open PySem PySem.Spec PyProof.Rows
def Lp (s:Stmt):Arguments:=match s with
 | .FunctionDef _ a _ _ _ _ _ _ _ _=>a
 | _=>{ posonlyargs:=[],args:=[],vararg:=none,kwonlyargs:=[],kw_defaults:=[],kwarg:=none,defaults:=[] }
def Bv (s:Stmt):List Stmt:=match s with
 | .FunctionDef _ _ b _ _ _ _ _ _ _=>b
 | _=>[]
def AE (s:Stmt):Bz:=match s with
 | .FunctionDef _ _ _ _ _ _ sc _ _ _=>sc
 | _=>{ kind:=.function,names:=[],isGenerator:=false,isCoroutine:=false }
end L2
namespace QQ
open PySem PySem.Spec PySem.W PySem.Calls PyProof.Rows L2
abbrev Frag:=PySem.W.Frag
def XN:List Str:=["PileError","NoBox","NoPile","NoStairs","NoWays","NoRoad","NoNumber","NoPlace","TooMany","NoText","NoName","NoRow"]
def DA (K:Frag) (c:Nat):Option Addr:=match XN[c]? with
 | some x=>(match PySem.W.nsIn K E7 x with
  | some (some (.ref C))=>some C
  | _=>none)
 | none=>none
def YE:List Ae:=[.type "ValueError",.type "Exception",.type "BaseException",.type "object"]
def Sr (K:Frag) (C:Addr):List Ae:=match K.lookup C with
 | some ⟨_,_,.cls cd,_⟩=>cd.mro
 | _=>[]
def Fz (c d:Nat):Bool:=c == d || d == 0
def LJ (K:Frag):Bool:=(An 12).all λ c=>match DA K c with
 | some C=>PySem.W.excIn K C YE "ValueError.__new__" && (An 12).all λ d=>(match DA K d with
  | some D=>(Sr K C).contains (.ref D) == Fz c d
  | none=>true)
 | none=>true
def Ku (K:Frag) (C:Addr):Bool:=(PySem.W.clsIn K C).isSome && GJ K C (.type "object") == some true && GJ K C (.type "BaseException") == some true && El K (.ref C) "__class__" == some (some (.builtin "object.__class__")) &&
 El K (.ref C) "__getattribute__" == some (some (.builtin "BaseException.__getattribute__")) && El K (.ref C) "__getattr__" == some none
def Cm (K:Frag):Bool:=EM K (.type "NoneType") (.type "ValueError") == some false && (An 12).all λ c=>match DA K c with
 | some C=>Ku K C && EM K (.type "NoneType") (.ref C) == some false && EM K (.ref C) (.type "ValueError") == some true && (An 12).all λ d=>(match DA K d with
  | some D=>EM K (.ref C) (.ref D) == some (Fz c d)
  | none=>true)
 | none=>true
def zka:List Str:=["len","isinstance","all","max","min","tuple","list","range","int","bool","str","dict","sum","enumerate","zip","reversed","set","ValueError","sorted","abs"]
def Kb (tb:String->Option vf2) (p:AD) (w:AB) (n₀:Nat) (ann:Option Ae):Nat->SharedT->Thread->Option SharedT
 | 0,_,_=>none
 | n + 1,s,t=>match through t with
  | true=>some s
  | false=>match stepOk n₀ ann t with
   | false=>none
   | true=>match stepT (denote tb) p w s t with
    | some (s',t')=>Kb tb p w n₀ ann n s' t'
    | none=>none
def XR:List Obj->Nat->BT->BT
 | [],_,t=>t
 | o::r,n,t=>XR r (n + 1) (t.ins n o)
noncomputable def bootT (P:Params):BT:=XR (Ek P).objs.toList 0 .nil
noncomputable def bootS (P:Params) (os:OsState):SharedT:=⟨bootT P,(Ek P).objs.size,(Ek P).life,#[],boot_drawn,boot_toks,os⟩
def Sk {α:Type} (p q:AD) (loose:List Str) (Xt:Ak->Bool) (Yf:Ak->α) (H:Heap) (s:Ak):=
 ((staticsOk (Qr p.main.body) H s.heap && namesBound p s.heap && gensDone s && laidKept H s.heap),openSeen q loose (Qr p.main.body) Xt true s,Yf s)
def Mt (h:Heap):Frag:=(An h.objs.size).filterMap λ a=>(h.get? a).map λ o=>(a,o)
structure DefSeen where
 name:Str
 qual:Str
 params:Arguments
 body:FuncBody
 scope:Bz
 globals:Addr
 closure:List (Str×Addr)
 defaults:Ae
 builtins:Addr
 code:Bool
def Si (K:Frag) (x:Str):Option DefSeen:=match nsIn K E7 x with
 | some (some (.ref g))=>(match K.lookup g with
  | some ⟨_,_,.func fd,_⟩=>some ⟨fd.name,fd.qualname,fd.params,fd.body,fd.scope,fd.globals,fd.closure,fd.defaults,fd.builtins,codeIn K fd.code x⟩
  | _=>none)
 | _=>none
def RA (x:Str) (st:Stmt):DefSeen:=⟨x,x,Lp st,.stmts (Bv st),AE st,mainNs,[],.none,0,true⟩
def LA (ds:List (Str×Stmt)) (xc:List Nat) (K:Frag):List (Option DefSeen)×List (Option (Option Ae))×Bool:=
 (ds.map λ d=>Si K d.1,zka.map λ x=>nsIn K E7 x,xc.isEmpty || (LJ K && Cm K && xc.all λ c=>(DA K c).isSome && match XN[c]? with
  | some x=>!(x == ("__debug__" : Str))
  | none=>false))
def L0 (ds:List (Str×Stmt)):List (Option DefSeen)×List (Option (Option Ae))×Bool:=(ds.map λ d=>some (RA d.1 d.2),zka.map λ _=>some none,true)
end QQ
namespace K51
open PySem PySem.Spec PyProof.Rows L2 QQ
def top (i:Nat):Stmt:=PySem.Challenge.pw_cornerpiles_k51_forms_told.main.body.getD i (.Pass ⟨0,0,0,0⟩)
abbrev t0:Stmt:=top 5
abbrev t1:Stmt:=top 6
abbrev t2:Stmt:=top 7
abbrev t3:Stmt:=top 8
abbrev t4:Stmt:=top 9
abbrev t5:Stmt:=top 10
abbrev t6:Stmt:=top 11
abbrev t7:Stmt:=top 12
abbrev t8:Stmt:=top 13
abbrev t9:Stmt:=top 14
abbrev Ep:Stmt:=top 15
abbrev DO:Stmt:=top 17
abbrev Iz:Stmt:=top 19
abbrev NY:Stmt:=top 20
abbrev NX:Stmt:=top 21
abbrev NW:Stmt:=top 23
abbrev NV:Stmt:=top 24
abbrev NU:Stmt:=top 25
abbrev NT:Stmt:=top 26
abbrev NS:Stmt:=top 27
abbrev NR:Stmt:=top 28
abbrev NQ:Stmt:=top 29
abbrev NP:Stmt:=top 30
abbrev NO:Stmt:=top 31
abbrev DN:Stmt:=top 32
abbrev NN:Stmt:=top 33
abbrev LX:Stmt:=top 34
def dfs:List (Str×Stmt):=[(("is_whole_number" : Str),t0),(("is_box" : Str),t1),(("must_be_box" : Str),t2),(("is_row_of_heights" : Str),t3),(("never_rises" : Str),t4),(("column_of" : Str),t5),(("is_pile" : Str),t6),(("must_be_pile" : Str),t7),(("mirrored_pile" : Str),t8),(("how_many_above" : Str),t9),(("rolled_pile" : Str),Ep),(("copy_of" : Str),DO),(("mirrored_form" : Str),Iz),(("rolled_form" : Str),NY),(("forms_of" : Str),NX),(("_law_cell_at" : Str),NW),(("_law_numbers" : Str),NV),(("_law_box" : Str),NU),(("_law_pile" : Str),NT),(("_law_cubes" : Str),NS),(("_law_of_cubes" : Str),NR),(("_law_turned" : Str),NQ),(("_law_rest" : Str),NP),(("_law_own" : Str),NO),(("_law_alike" : Str),DN),(("_law_forms" : Str),NN),(("law" : Str),LX)]
def view:AD:={ PySem.Challenge.pw_cornerpiles_k51_forms_told with main:={ PySem.Challenge.pw_cornerpiles_k51_forms_told.main with body:=[LX] } }
def loose:List Str:=(PySem.Challenge.pw_cornerpiles_k51_forms_told.main.scope.names.map λ x=>x.1).filter λ x=>!(x == ("law" : Str))
def run:∀ (w:PySem.World) (os:PySem.OsState),(Kb PySem.treeTable PySem.Challenge.rw_cornerpiles_k51_forms_told.prog w (Qw w.params).objs.size ((Qw w.params).nsMap E7 "__annotations__") 20000 (bootS w.params os) (PySem.W.topStub PySem.Challenge.rw_cornerpiles_k51_forms_told.prog)).map (λ s=>Sk PySem.Challenge.rw_cornerpiles_k51_forms_told.prog view loose (λ s=>PySem.W.xlAt view [] s && PySem.W.recOk (PySem.W.RowW.records PySem.Challenge.rw_cornerpiles_k51_forms_told.row.toRowW) s) (λ s=>LA dfs [] (Mt s.heap)) (Qw w.params) s.abs)=some (true,PySem.W.openGood view loose,L0 dfs):=λ w os=>by kernel_rfl
end K51
namespace L2
open PySem PySem.Spec PyProof.Rows
abbrev Bh:=Sum Int Str
def K4:Bh->Ae->Bool
 | .inl k,v=>Value.isInt k v
 | .inr x,v=>Value.isStrOf x v
def Sw (w:AB):Bh->Int
 | .inl k=>hashInt k
 | .inr x=>hashStr w x
theorem Hb:∀ {k:Bh}{v:Ae},K4 k v=true->(∃ i t,k=Sum.inl i/\v=Value.int i t)\/(∃ x t,k=Sum.inr x/\v=Value.str x t)
 | .inl i,v,h=>by
  obtain ⟨t,e⟩:=Value.isInt_shape (k:=i) (v:=v) h;exact .inl ⟨i,t,rfl,e⟩
 | .inr x,v,h=>by
  obtain ⟨t,e⟩:=Value.isStrOf_shape (x:=x) (v:=v) h;exact .inr ⟨x,t,rfl,e⟩
def vh (i:Int) (t:Tok):K4 (.inl i) (.int i t)=true:=by simp [K4,Value.isInt]
def vm (x:Str) (t:Tok):K4 (.inr x) (.str x t)=true:=by simp [K4,Value.isStrOf]
def qi (a b:Int):decide ((Sum.inl a:Bh)=Sum.inl b)=(a == b):=by
 by_cases e:a=b
 ·subst e;simp
 ·have h:¬ (Sum.inl a:Bh)=Sum.inl b:=λ q=>e (Sum.inl.inj q);rw [decide_eq_false h];exact (beq_eq_false_iff_ne.mpr e).symm
def ql (a b:Str):decide ((Sum.inr a:Bh)=Sum.inr b)=decide (a=b):=by
 by_cases e:a=b
 ·subst e;simp
 ·have h:¬ (Sum.inr a:Bh)=Sum.inr b:=λ q=>e (Sum.inr.inj q);rw [decide_eq_false h,decide_eq_false e]
def qj (a:Int) (b:Str):decide ((Sum.inl a:Bh)=Sum.inr b)=false:=decide_eq_false (λ q=>nomatch q)
def qk (a:Str) (b:Int):decide ((Sum.inr a:Bh)=Sum.inl b)=false:=decide_eq_false (λ q=>nomatch q)
def DI (prog:AD) (w:AB):PySem.KeyKind prog w Bh where
 is:=K4
 hash:=Sw w
 inj:=λ v a b ha hb=>by
  rcases Hb ha with ⟨i,t,rfl,rfl⟩ | ⟨x,t,rfl,rfl⟩
  ·rcases Hb hb with ⟨j,u,rfl,e⟩ | ⟨y,u,rfl,e⟩
   ·injection e with e1 _;rw [e1]
   ·exact nomatch e
  ·rcases Hb hb with ⟨j,u,rfl,e⟩ | ⟨y,u,rfl,e⟩
   ·exact nomatch e
   ·injection e with e1 _;rw [e1]
 byValue:=λ k v h=>by
  rcases Hb h with ⟨i,t,rfl,rfl⟩ | ⟨x,t,rfl,rfl⟩ <;> rfl
 pyHash:=λ hv h=>by
  rcases Hb hv with ⟨i,t,rfl,rfl⟩ | ⟨x,t,rfl,rfl⟩
  ·exact wpAny_pyHash_int h
  ·exact wpAny_pyHash_str h
 eqBool:=λ hu hv h=>by
  rcases Hb hu with ⟨i,t,rfl,rfl⟩ | ⟨x,t,rfl,rfl⟩
  ·rcases Hb hv with ⟨j,u,rfl,rfl⟩ | ⟨y,u,rfl,rfl⟩
   ·rw [qi] at h;exact wpAny_eqBool_int h
   ·rw [qj] at h;exact SeqAt.EqAt.int_str i t y u _ _ _ _ h
  ·rcases Hb hv with ⟨j,u,rfl,rfl⟩ | ⟨y,u,rfl,rfl⟩
   ·rw [qk] at h;exact SeqAt.EqAt.str_int x t j u _ _ _ _ h
   ·rw [ql] at h;exact wpAny_eqBool_str h
 «strs»:=λ k x t v h=>by
  rcases Hb h with ⟨i,u,rfl,e⟩ | ⟨y,u,rfl,e⟩
  ·exact nomatch e
  ·injection e with e1 _
   subst e1;cases v <;> rfl
def wB (prog:AD) (w:AB) (i:Int) (t:Tok):(DI prog w).is (.inl i) (.int i t)=true:=vh i t
def wC (prog:AD) (w:AB) (x:Str) (t:Tok):(DI prog w).is (.inr x) (.str x t)=true:=vm x t
inductive V where
 | non | bl (b:Bool) | int (i:Int) | str (x:Str) | byt (b:Array UInt8) | flt (b:UInt64) | ref (a:Addr) | ty (n:String)
 deriving DecidableEq
def RelV:V->Ae->Prop
 | .non,u=>u=Value.none
 | .bl b,u=>u=Value.bool b
 | .int i,u=>∃ t,u=Value.int i t
 | .str x,u=>∃ t,u=Value.str x t
 | .byt b,u=>∃ t,u=Value.bytes b t
 | .flt b,u=>∃ t,u=Value.float b t
 | .ref a,u=>u=Value.ref a
 | .ty n,u=>u=Value.type n
abbrev Vals:List V->List Ae->Prop:=Paired RelV
def Vals.length {xs:List V}{us:List Ae} (r:Vals xs us):xs.length=us.length:=Paired.length r
theorem Vals.get:∀ {xs:List V}{us:List Ae}{i:Nat}{x:V},Vals xs us->xs[i]?=some x->∃ u,us[i]?=some u/\RelV x u
 | _,_,_,_,.nil,e=>by simp at e
 | _,_,0,_,.cons r _,e=>by simp at e;subst e;exact ⟨_,rfl,r⟩
 | _,_,i + 1,x,.cons _ t,e=>by
  obtain ⟨u,h1,h2⟩:=Vals.get (i:=i) (x:=x) t (by simpa using e);exact ⟨u,by simpa using h1,h2⟩
theorem Vals.set {x:V}{u:Ae} (r:RelV x u):∀ {xs:List V}{us:List Ae} (i:Nat),Vals xs us->Vals (xs.set i x) (us.set i u)
 | _,_,_,.nil=>.nil
 | _,_,0,.cons _ t=>.cons r t
 | _,_,i + 1,.cons q t=>.cons q (Vals.set r i t)
theorem Vals.append:∀ {xs ys:List V}{us ws:List Ae},Vals xs us->Vals ys ws->Vals (xs++ys) (us++ws)
 | _,_,_,_,.nil,s=>s
 | _,_,_,_,.cons r t,s=>.cons r (Vals.append t s)
theorem Vals.take:∀ {xs:List V}{us:List Ae} (n:Nat),Vals xs us->Vals (xs.take n) (us.take n)
 | _,_,0,_=>.nil
 | _,_,_ + 1,.nil=>.nil
 | _,_,n + 1,.cons r t=>.cons r (Vals.take n t)
theorem Vals.drop:∀ {xs:List V}{us:List Ae} (n:Nat),Vals xs us->Vals (xs.drop n) (us.drop n)
 | _,_,0,r=>r
 | _,_,_ + 1,.nil=>.nil
 | _,_,n + 1,.cons _ t=>Vals.drop n t
def RelO:Option V->Option Ae->Prop
 | some v,some u=>RelV v u
 | none,none=>True
 | _,_=>False
def KV {κ:Type}:List (κ×V)->List (κ×Ae)->Prop:=Paired λ (p:κ×V) (q:κ×Ae)=>p.1=q.1/\RelV p.2 q.2
def kV:Bh->V
 | .inl i=>.int i
 | .inr x=>.str x
inductive HO where
 | lst (xs:List V)
 | tup (xs:List V)
 | dK (kvs:List (Bh×V)) | dT (kvs:List (List Bh×V))
 | set (S:Int->Bool) (n:Nat)
 | ins (C dx:Addr) (fs:List (Str×V))
 | own (x:Addr)
 | xd (fs:List (Str×V))
 | met (f x:Addr)
 | rng (lo hi:Int)
 | frz (o:Obj) (u:HO)
 | tbl (ps:Array Ae)
 | ext (φ:Heap->Prop)
abbrev Hp:=Addr->Option HO
def As (H:Hp) (a:Addr) (o:HO):Hp:=λ b=>if b=a then some o else H b
def BJ {H:Hp}{a:Addr}{o:HO}:As H a o a=some o:=by unfold As;rw [if_pos rfl]
def AM {H:Hp}{a b:Addr}{o:HO} (h:b≠a):As H a o b=H b:=by unfold As;rw [if_neg h]
def Z9 {H:Hp}{a b:Addr}{o u:HO} (h:H a=some o) (h':H b=some u) (d:o≠u):a≠b:=by
 intro e;subst e;rw [h] at h';exact d (Option.some.inj h')
def Lf {H:Hp}{a b:Addr}{o:HO} (h:H a=some o) (h':H b=none):a≠b:=by
 intro e;subst e;rw [h] at h';cases h'
section
variable (P:AD) (w:AB)
def zwv (H:Hp) (h:Heap) (a:Addr):HO->Prop
 | .lst xs=>xs.length<=A2/\∃ (its:List Ae) (n:Nat),Vals xs its/\h.get? a=some { cls:=.type "list",data:=.seq its.toArray n }
 | .tup xs=>xs.length<=A2/\∃ its:List Ae,Vals xs its/\IsTup h a its.toArray
 | .dK kvs=>kvs.length<=A2/\(a == Hm)=false/\∃ vs,KV kvs vs/\h.DictOf (DI P w) a vs
 | .dT kvs=>kvs.length<=A2/\(a == Hm)=false/\∃ xs:List (List Bh×Addr×Ae),
   Paired (λ (p:List Bh×V) (q:List Bh×Addr×Ae)=>p.1=q.1/\H q.2.1=some (.tup (p.1.map kV))/\RelV p.2 q.2.2) kvs xs /\
   ∃ o es ep,h.get? a=some o/\o.ExactDict/\o.data=.dict es ep/\es.toList=xs.map (entryOfKey (LL (DI P w)))/\(xs.map (·.1)).Nodup
 | .set S n=>h.SetOf (intKind P w) a S n
 | .ins C dx fs=>H dx=some (.own a)/\fs.length<=1000/\dx≠a/\h.get? a=some (Qn C dx) /\
   ∃ mA,h.Ns1 dx mA/\(∀ f,RelO (fs.lookup f) (mA f))/\PySem.Within mA (fs.map (·.1))
 | .own _=>∃ o,h.get? a=some o
 | .xd fs=>∃ mA,h.Ns1 a mA/\∀ f,RelO (fs.lookup f) (mA f)
 | .rng lo hi=>∃ t u v,h.get? a=some { cls:=.type "range",data:=.fields #[.int lo t,.int hi u,.int 1 v] }
 | .frz o u=>h.get? a=some o/\zwv H h a u
 | .tbl ps=>h.get? a=some { cls:=.none,data:=.fields ps }
 | .met f x=>h.get? a=some (Qy (.ref f) (.ref x))
 | .ext φ=>φ h/\(∃ o,h.get? a=some o)/\∀ h1 h2:Heap,φ h1->(∀ o,h1.get? a=some o->h2.get? a=some o)->φ h2
def HOk (H:Hp) (h:Heap):Prop:=∀ a o,H a=some o->zwv P w H h a o
end
section
variable {P:AD}{w:AB}{H H':Hp}{h h':Heap}{a:Addr}{o:HO}
theorem zwv.lt (x:zwv P w H h a o):a < h.objs.size:=by
 cases o with
 | lst xs=>obtain ⟨_,_,_,_,e⟩:=x;exact Bn e
 | tup xs=>obtain ⟨_,_,_,p⟩:=x;exact p.lt
 | dK kvs=>obtain ⟨_,_,_,_,o,_,_,e,_⟩:=x;exact Bn e
 | dT kvs=>obtain ⟨_,_,_,_,o,_,_,e,_⟩:=x;exact Bn e
 | set S n=>obtain ⟨o,_,_,_,e,_⟩:=x;exact Bn e
 | ins C dx fs=>obtain ⟨_,_,_,e,_⟩:=x;exact Bn e
 | own y=>obtain ⟨_,e⟩:=x;exact Bn e
 | xd fs=>obtain ⟨_,⟨_,_,_,e,_⟩,_⟩:=x;exact Bn e
 | rng lo hi=>obtain ⟨_,_,_,e⟩:=x;exact Bn e
 | frz ob u=>obtain ⟨e,_⟩:=x;exact Bn e
 | tbl ps=>exact Bn (show h.get? a=some _ from x)
 | met f y=>exact Bn (show h.get? a=some _ from x)
 | ext φ=>obtain ⟨_,⟨_,e⟩,_⟩:=x;exact Bn e
theorem Paired.mapP {α β:Type}{F G:α->β->Prop}:∀ {l₁:List α}{l₂:List β},Paired F l₁ l₂->(∀ a b,F a b->G a b)->Paired G l₁ l₂
 | _,_,.nil,_=>.nil
 | _,_,.cons r t,f=>.cons (f _ _ r) (Paired.mapP t f)
theorem zwv.stay (x:zwv P w H h a o) (k:∀ b u,(b=a\/H b=some (.own a))->h.get? b=some u->h'.get? b=some u)
  (ho:∀ b,H b=some (.own a)->H' b=some (.own a)) (ht:∀ b xs,H b=some (.tup xs)->H' b=some (.tup xs)):zwv P w H' h' a o:=by
 induction o with
 | lst xs=>obtain ⟨z,its,n,r,e⟩:=x;exact ⟨z,its,n,r,k _ _ (.inl rfl) e⟩
 | tup xs=>obtain ⟨z,its,r,ob,e,c⟩:=x;exact ⟨z,its,r,ob,k _ _ (.inl rfl) e,c⟩
 | dK kvs=>obtain ⟨z,y,vs,r,ob,es,ep,e,c⟩:=x;exact ⟨z,y,vs,r,ob,es,ep,k _ _ (.inl rfl) e,c⟩
 | dT kvs=>
  obtain ⟨z,y,xs,r,ob,es,ep,e,c⟩:=x;exact ⟨z,y,xs,Paired.mapP r λ p q z=>⟨z.1,ht _ _ z.2.1,z.2.2⟩,ob,es,ep,k _ _ (.inl rfl) e,c⟩
 | set S n=>obtain ⟨ob,es,ep,t,e,c⟩:=x;exact ⟨ob,es,ep,t,k _ _ (.inl rfl) e,c⟩
 | ins C dx fs=>
  obtain ⟨d,z,ne,e,mA,⟨od,es,ep,e2,c⟩,r⟩:=x;exact ⟨ho _ d,z,ne,k _ _ (.inl rfl) e,mA,⟨od,es,ep,k _ _ (.inr d) e2,c⟩,r⟩
 | own y=>obtain ⟨ob,e⟩:=x;exact ⟨ob,k _ _ (.inl rfl) e⟩
 | xd fs=>obtain ⟨mA,⟨od,es,ep,e,c⟩,r⟩:=x;exact ⟨mA,⟨od,es,ep,k _ _ (.inl rfl) e,c⟩,r⟩
 | rng lo hi=>obtain ⟨t,u,v,e⟩:=x;exact ⟨t,u,v,k _ _ (.inl rfl) e⟩
 | frz ob u ih=>obtain ⟨e,q⟩:=x;exact ⟨k _ _ (.inl rfl) e,ih q⟩
 | tbl ps=>
  have e:h.get? a=some { cls:=.none,data:=.fields ps }:=x;show h'.get? a=some { cls:=.none,data:=.fields ps };exact k a _ (.inl rfl) e
 | met f y=>
  have e:h.get? a=some (Qy (.ref f) (.ref y)):=x;show h'.get? a=some (Qy (.ref f) (.ref y));exact k a _ (.inl rfl) e
 | ext φ=>obtain ⟨p,⟨o,e⟩,st⟩:=x;exact ⟨st _ _ p λ o q=>k _ _ (.inl rfl) q,⟨o,k _ _ (.inl rfl) e⟩,st⟩
def HOk.lt (x:HOk P w H h) (e:H a=some o):a < h.objs.size:=(x a o e).lt
theorem HOk.fresh (x:HOk P w H h) (e:h.objs.size<=a):H a=none:=by
 cases q:H a with
 | none=>rfl
 | some u=>exact absurd (Cf (x.lt q) e) (GO _)
def HOk.kept (x:HOk P w H h) (k:∀ b u,h.get? b=some u->h'.get? b=some u):HOk P w H h':=λ a o e=>
 (x a o e).stay (λ b u _ q=>k b u q) (λ _ q=>q) λ _ _ q=>q
def HOk.laid (x:HOk P w H h) (k:∀ b u,h.get? b=some u->h'.get? b=some u) (hp:h.objs.size<=a) (new:zwv P w (As H a o) h' a o):HOk P w (As H a o) h':=λ b u e=>by
 have hn:=x.fresh hp;by_cases hb:b=a
 ·subst hb;rw [BJ] at e;cases e;exact new
 ·rw [AM hb] at e;exact (x b u e).stay (λ c v _ q=>k c v q) (λ c q=>by rw [AM (Lf q hn)];exact q) λ c xs q=>by rw [AM (Lf q hn)];exact q
end
def Rd (H:Hp) (a:Addr) (u:HO):Prop:=H a=some u\/∃ o,H a=some (.frz o u)
def Rd.ok {P:AD}{w:AB}{H:Hp}{h:Heap}{a:Addr}{u:HO} (r:Rd H a u) (x:HOk P w H h):zwv P w H h a u:=by
 rcases r with r | ⟨o,r⟩
 ·exact x a u r
 ·obtain ⟨_,q⟩:=x a _ r;exact q
def MH:Option HO->Prop
 | some (.lst _)=>True
 | some (.dK _)=>True
 | some (.dT _)=>True
 | some (.set _ _)=>True
 | some (.ins _ _ _)=>True
 | some (.ext _)=>True
 | _=>False
section
variable {P:AD}{w:AB}{H:Hp}{h h':Heap}{x e:Addr}{o':HO}
def HOk.write (ok:HOk P w H h) (mu:MH (H x)) (he:e=x\/H e=some (.own x)) (k:∀ b u,b≠e->h.get? b=some u->h'.get? b=some u) (heo:∃ u,h'.get? e=some u)
  (new:zwv P w (As H x o') h' x o'):HOk P w (As H x o') h':=λ b u q=>by
 have nown:∀ c y,H c=some (.own y)->c≠x:=λ c y r z=>by subst z;rw [r] at mu;exact mu
 have ntup:∀ c xs,H c=some (.tup xs)->c≠x:=λ c xs r z=>by subst z;rw [r] at mu;exact mu
 by_cases hb:b=x
 ·subst hb;rw [BJ] at q;cases q;exact new
 ·rw [AM hb] at q;by_cases hbe:b=e
  ·have q':H b=some (.own x):=by
    rcases he with z | z
    ·exact absurd (hbe.trans z) hb
    ·rw [hbe];exact z
   rw [q] at q';cases q';obtain ⟨v,hv⟩:=heo;exact ⟨v,by rw [hbe];exact hv⟩
  ·refine (ok b u q).stay (λ c v hc r=>k c v ?_ r) (λ c r=>by rw [AM (nown c b r)];exact r) λ c xs r=>by rw [AM (ntup c xs r)];exact r
   rcases hc with rfl | hc
   ·exact hbe
   ·rintro rfl;rcases he with z | z
    ·exact nown c b hc z
    ·rw [hc] at z;cases z;exact hb rfl
end
structure Un (fs ex:List Addr) (H H':Hp) (h h':Heap):Prop where
 keep:∀ b o,h.get? b=some o->H b=none->b∉fs->b∉ex->h'.get? b=some o
 slot:∀ b o,h.get? b=some o->H b=none->b∈fs->b∉ex->∃ sl,h'.get? b=some { o with slots:=sl }
 free:∀ b o,h.get? b=some o->H b=none->b∉ex->H' b=none
 there:∀ b o,h.get? b=some o->b∉ex->∃ o',h'.get? b=some o'
 tups:∀ b xs,H b=some (.tup xs)->H' b=some (.tup xs)
 frzs:∀ b o u,H b=some (.frz o u)->H' b=some (.frz o u)
 tbls:∀ b ps,H b=some (.tbl ps)->∃ more,H' b=some (.tbl (ps++more))
section
variable {fs fs' ex ex':List Addr}{H H1 H2:Hp}{h h1 h2 h':Heap}{a x e:Addr}{o:HO}
def Un.any (u:Un fs ex H H1 h h1) {b:Addr}{ob:Obj} (q:h.get? b=some ob) (n:H b=none) (hx:b∉ex):∃ sl,h1.get? b=some { ob with slots:=sl }:=by
 by_cases hb:b∈fs
 ·exact u.slot b ob q n hb hx
 ·exact ⟨ob.slots,u.keep b ob q n hb hx⟩
def Un.kept (k:∀ b u,h.get? b=some u->h'.get? b=some u):Un fs ex H H h h':=
 ⟨λ b ob q _ _ _=>k b ob q,λ b ob q _ _ _=>⟨ob.slots,k b ob q⟩,λ _ _ _ n _=>n,λ b ob q _=>⟨ob,k b ob q⟩,λ _ _ q=>q,λ _ _ _ q=>q,λ _ ps q=>⟨#[],by rw [q];simp⟩⟩
def Un.refl:Un fs ex H H h h:=Un.kept λ _ _ q=>q
def Un.laid (k:∀ b u,h.get? b=some u->h'.get? b=some u) (hp:h.objs.size<=a) (hn:H a=none):Un fs ex H (As H a o) h h' where
 keep:=λ b u q _ _ _=>k b u q
 slot:=λ b u q _ _ _=>⟨u.slots,k b u q⟩
 free:=λ b u q n _=>by rw [AM (Cc (Cf (Bn q) hp))];exact n
 there:=λ b u q _=>⟨u,k b u q⟩
 tups:=λ b xs q=>by rw [AM (Lf q hn)];exact q
 frzs:=λ b u xs q=>by rw [AM (Lf q hn)];exact q
 tbls:=λ b ps q=>⟨#[],by rw [AM (Lf q hn),q];simp⟩
def Un.write (mu:MH (H x)) (he:e=x\/H e=some (.own x)) (k:∀ b u,b≠e->h.get? b=some u->h'.get? b=some u) (heo:∃ u,h'.get? e=some u):Un fs ex H (As H x o) h h':=by
 have hx:∀ b,H b=none->b≠x:=λ b n z=>by subst z;rw [n] at mu;exact mu
 have hb:∀ b,H b=none->b≠e:=λ b n z=>by
  subst z;rcases he with r | r
  ·exact hx b n r
  ·rw [n] at r;cases r
 have hm:∀ b u,H b=some u->¬ MH (some u)->b≠x:=λ b u q nm z=>by subst z;rw [q] at mu;exact nm mu
 refine ⟨λ b u q n _ _=>k b u (hb b n) q,λ b u q n _ _=>⟨u.slots,k b u (hb b n) q⟩,λ b u q n _=>by rw [AM (hx b n)];exact n,λ b u q _=>?_,
  λ b xs q=>by rw [AM (hm b _ q λ z=>z)];exact q,λ b u xs q=>by rw [AM (hm b _ q λ z=>z)];exact q,λ b ps q=>⟨#[],by rw [AM (hm b _ q λ z=>z),q];simp⟩⟩
 by_cases hbe:b=e
 ·subst hbe;exact heo
 ·exact ⟨u,k b u hbe q⟩
end
def NJ (h:Heap) (H:Hp):List Addr:=(An h.objs.size).filter λ a=>(H a).isSome
def D6 (h:Heap) (H:Hp):Heap:=PySem.W.hideAll h (NJ h H)
def vz (h:Heap) (H:Hp):(D6 h H).objs.size=h.objs.size:=PySem.W.hideAll_size _ _
def jM {h:Heap}{H:Hp}{b:Addr}{o:Obj} (e:h.get? b=some o) (n:H b=none):(D6 h H).get? b=some o:=
 PySem.W.hideAll_get _ e λ hm=>by
  have q:(H b).isSome=true:=(ji7.mp hm).2;rw [n] at q;simp at q
theorem zm {h:Heap}{H:Hp}{b:Addr}{o:Obj} (e:(D6 h H).get? b=some o):h.get? b=some o/\H b=none:=by
 have e':h.get? b=some o:=PySem.W.of_hideAll (NJ h H) e;refine ⟨e',?_⟩;cases q:H b with
 | none=>rfl
 | some x=>
  have hm:b∈NJ h H:=ji7.mpr ⟨jc6.mpr (Bn e'),by simp [q]⟩;have z:(D6 h H).get? b=none:=PySem.W.hideAll_none (NJ h H) hm;rw [z] at e;cases e
def xE (g h:Heap) (L:Addr):List (Addr×Obj):=(An h.objs.size).filterMap λ a=>if a=L\/(g.get? a).isSome=true then none else (h.get? a).map λ o=>(a,o)
def rest (g h:Heap) (L d:Addr):List (Addr×Obj):=(xE g h L).filter λ p=>decide (p.1≠d)
structure Mod (K:PySem.W.Frag) (mg:Str->Option Ae) (base:Heap):Prop where
 kin:K.In base
 glob:base.Ns E7 mg
 blt:∃ mb,base.Ns builtinsNs mb/\∀ x:Str,x ≠ "__name__" -> mb x=Jp x
 nolimit:base.NoLimit
structure Cx where
 prog:AD
 w:AB
 K:PySem.W.Frag
 mg:Str->Option Ae
 base:Heap
 A:Bc
 N:List Str
 s₀:Ak
 H₀:Hp
 env:Env
 outer:List Env
 stack:List Env
 ex:List Addr
 fn:Str->Bool
 calm:Bool
 pn:List (Addr×Obj)
 xe:Ae->Ak->Prop
def Gj (l:List Env):List Addr:=l.filterMap (·.frame)
abbrev Cx.fs (X:Cx):List Addr:=Gj X.outer
def IU (sc:Bz) (x:Str):Prop:=sc.names.lookup x=some .local\/sc.names.lookup x=some .cell\/sc.names.lookup x=some .free
def Fd (sc:Bz) (x:Str):Prop:=sc.names.lookup x=some .local\/sc.names.lookup x=some .cell
def Tx (env:Env) (h:Heap) (m:Str->Option Ae) (x:Str) (u:Ae):Prop:=
 (env.kindOf x=some .local/\m x=some u)\/((env.kindOf x=some .cell\/env.kindOf x=some .free)/\∃ c,env.cells.lookup x=some c/\h.IsCell c (some u))
structure Cx.Ok (X:Cx):Prop where
 mod:Mod X.K X.mg X.base
 kind:X.env.scope.kind=.function
 glob:X.env.globals=E7
 blt:X.env.builtins=builtinsNs
 above:X.s₀.heap.objs.size<=X.env.locals
 inj:∀ x y c,X.env.cells.lookup x=some c->X.env.cells.lookup y=some c->x=y
 has:∀ x,(X.env.kindOf x=some .cell\/X.env.kindOf x=some .free)->∃ c,X.env.cells.lookup x=some c
 cab:∀ x c,X.fn x=true->X.env.cells.lookup x=some c->X.s₀.heap.objs.size<=c
 hd:X.calm=true->X.A.handled=none
 frames:X.A.frames=some X.stack
 stk:X.stack=X.outer\/(X.stack=X.env::X.outer/\X.env.frame=some X.env.locals)
 exf:∀ b∈X.ex,b≠X.env.locals/\∀ x c,X.env.cells.lookup x=some c->c≠b
 bs:∀ b o,X.base.get? b=some o->X.s₀.heap.get? b=some o/\X.H₀ b=none
 bsz:X.base.objs.size<=X.s₀.heap.objs.size
 noex:∀ b o,X.base.get? b=some o->b∉X.ex
 exfs:∀ b∈X.ex,b∉X.fs
 funs:X.s₀.heap.FunFrames X.base X.outer
 frf:∀ b∈X.fs,X.H₀ b=none
structure Inv (X:Cx) (pins:List (Addr×Obj)) (σ:List (Option V)) (H:Hp) (s:Ak):Prop where
 ok:X.Ok
 os:s.os=X.s₀.os
 bare:Hk s.gens
 base:Un X.fs X.ex X.H₀ H X.s₀.heap s.heap
 loc:∃ m,s.heap.Ns X.env.locals m/\∀ (i:Nat) (x:Str) (v:V),X.N[i]?=some x->σ[i]?=some (some v)->IU X.env.scope x->∃ u,RelV v u/\Tx X.env s.heap m x u
 cell:∀ x c,X.env.cells.lookup x=some c->∃ v,s.heap.IsCell c v
 free:H X.env.locals=none
 freeC:∀ x c,X.env.cells.lookup x=some c->H c=none
 pin:∀ p∈X.pn++pins,s.heap.get? p.1=some p.2/\H p.1=none/\p.1≠X.env.locals/\p.1∉X.fs/\∀ v,p.2.data≠.cell v
 hok:HOk X.prog X.w H s.heap
 len:σ.length=X.N.length
section
variable {X:Cx}{pins:List (Addr×Obj)}{σ:List (Option V)}{H H':Hp}{s:Ak}{h':Heap}
def Cx.Ok.nofr (ok:X.Ok) {b:Addr}{o:Obj} (e:X.base.get? b=some o):b∉X.fs:=λ hb=>by
 have:=(ok.funs.mem hb).1
 rw [e] at this;cases this
def Inv.bs (I:Inv X pins σ H s):∀ b o,X.base.get? b=some o->s.heap.get? b=some o/\H b=none:=λ b o e=>
 ⟨I.base.keep b o (I.ok.bs b o e).1 (I.ok.bs b o e).2 (I.ok.nofr e) (I.ok.noex b o e),I.base.free b o (I.ok.bs b o e).1 (I.ok.bs b o e).2 (I.ok.noex b o e)⟩
def Inv.bk (I:Inv X pins σ H s):∀ b o,X.base.get? b=some o->s.heap.get? b=some o:=λ b o e=>(I.bs b o e).1
def Inv.mod (I:Inv X pins σ H s):Mod X.K X.mg X.base:=I.ok.mod
def Inv.kIn (I:Inv X pins σ H s):X.K.In s.heap:=I.ok.mod.kin.keeps I.bk
def Inv.lt (I:Inv X pins σ H s):X.env.locals < s.heap.objs.size:=let ⟨_,hn,_⟩:=I.loc;hn.lt
def Inv.sz (I:Inv X pins σ H s):X.s₀.heap.objs.size<=s.heap.objs.size:=CA I.ok.above (OG I.lt)
def Inv.nofs (I:Inv X pins σ H s) {a:Addr} (h:s.heap.objs.size<=a):a∉X.fs:=λ hb=>by
 obtain ⟨_,o,ho,_⟩:=I.ok.funs.mem hb;exact absurd (Cf (Bn ho) (CA I.sz h)) (GO _)
def Inv.cne (I:Inv X pins σ H s):∀ x c,X.env.cells.lookup x=some c->c≠X.env.locals:=λ x c e z=>by
 obtain ⟨v,o,ho,hd⟩:=I.cell x c e;obtain ⟨m,⟨o',es,ep,ho',hd',_⟩,_⟩:=I.loc;rw [z,ho'] at ho;cases ho;rw [hd'] at hd;cases hd
def Inv.funs (I:Inv X pins σ H s):s.heap.FunFrames X.base X.outer:=by
 have all:∀ (l:List Env),(∀ b∈Gj l,b∈X.fs)->X.s₀.heap.FunFrames X.base l->s.heap.FunFrames X.base l:=by
  intro l;induction l with
  | nil=>intro _ _;trivial
  | cons env r ih=>
   intro hs hl;obtain ⟨hk,⟨L,o,hf,hn,ho,hd⟩,hr⟩:=hl;have hL:L∈X.fs:=hs L (by unfold Gj;rw [OS,hf];exact A9);obtain ⟨sl,e⟩:=I.base.slot L o ho (I.ok.frf L hL) hL λ z=>I.ok.exfs L z hL;exact ⟨hk,⟨L,_,hf,hn,e,hd⟩,ih (λ b hb=>hs b (by unfold Gj;rw [OS,hf];exact A8 _ hb)) hr⟩
 exact all X.outer (λ _ hb=>hb) I.ok.funs
def Inv.stack (I:Inv X pins σ H s):s.heap.FunFrames X.base X.stack:=by
 rcases I.ok.stk with e | ⟨e,hf⟩
 ·rw [e];exact I.funs
 ·rw [e];obtain ⟨m,hn,_⟩:=I.loc;refine .cons (by rw [I.ok.kind];decide) hf hn ?_ I.funs;exact Heap.get?_none_of_le (CA I.ok.bsz I.ok.above)
def Inv.stkSub (I:Inv X pins σ H s):∀ b∈Gj X.stack,b∈X.env.locals::X.fs:=λ b hb=>by
 rcases I.ok.stk with e | ⟨e,hf⟩
 ·rw [e] at hb;exact A8 _ hb
 ·rw [e] at hb;unfold Gj at hb;rw [OS,hf] at hb;exact hb
def Inv.stkFree (I:Inv X pins σ H s):∀ b∈Gj X.stack,H b=none:=λ b hb=>by
 rcases ja9.mp (I.stkSub b hb) with e | hb
 ·rw [e];exact I.free
 ·obtain ⟨_,o,ho,_⟩:=I.ok.funs.mem hb;exact I.base.free b o ho (I.ok.frf b hb) λ z=>I.ok.exfs b z hb
def Inv.step {g':Array GenState}{t':Nat}{d':Drawn}{ch:List Addr} (I:Inv X pins σ H s)
  (hch:∀ b∈ch,(b∈X.ex\/X.s₀.heap.objs.size<=b)/\b≠X.env.locals/\(∀ x c,X.env.cells.lookup x=some c->c≠b)/\∀ p∈X.pn++pins,p.1≠b)
  (keep:∀ b o,b≠X.env.locals->b∉X.fs->b∉ch->s.heap.get? b=some o->H b=none->h'.get? b=some o)
  (slot:∀ b o,b≠X.env.locals->b∈X.fs->b∉ch->s.heap.get? b=some o->H b=none->∃ sl,h'.get? b=some { o with slots:=sl }) (free:∀ b o,b∉ch->s.heap.get? b=some o->H b=none->H' b=none)
  (there:∀ b o,b∉ch->s.heap.get? b=some o->∃ o',h'.get? b=some o')
  (tups:∀ b xs,H b=some (.tup xs)->H' b=some (.tup xs)) (frzs:∀ b o u,H b=some (.frz o u)->H' b=some (.frz o u)) (tbls:∀ b ps,H b=some (.tbl ps)->∃ more,H' b=some (.tbl (ps++more)))
  (ns:∀ m,s.heap.Ns X.env.locals m->h'.Ns X.env.locals m) (hok:HOk X.prog X.w H' h') (hg:Hk g'):
  Inv X pins σ H' { s with heap:=h',gens:=g',drawn:=d',toks:=t' }:=by
 have neL:∀ b o,X.s₀.heap.get? b=some o->b≠X.env.locals:=λ b o e=>Cc (Cf (Bn e) I.ok.above);have neC:∀ b o,X.s₀.heap.get? b=some o->b∉X.ex->b∉ch:=λ b o e hx hb=>by
  rcases (hch b hb).1 with z | z
  ·exact hx z
  ·exact absurd (Cf (Bn e) z) (GO _)
 have cellK:∀ x c,X.env.cells.lookup x=some c->∀ v,s.heap.IsCell c v->h'.IsCell c v:=λ x c e v ⟨o,ho,hd⟩=>by
  have nch:c∉ch:=λ z=>(hch c z).2.2.1 x c e rfl;by_cases hc:c∈X.fs
  ·obtain ⟨sl,q⟩:=slot c o (I.cne x c e) hc nch ho (I.freeC x c e);exact ⟨_,q,hd⟩
  ·exact ⟨o,keep c o (I.cne x c e) hc nch ho (I.freeC x c e),hd⟩
 refine ⟨I.ok,I.os,hg,⟨λ b o e n hb hx=>?_,λ b o e n hb hx=>?_,λ b o e n hx=>?_,λ b o e hx=>?_,λ b xs e=>tups b xs (I.base.tups b xs e),λ b o xs e=>frzs b o xs (I.base.frzs b o xs e),λ b ps e=>?_⟩,?_,λ x c e=>?_,?_,λ x c e=>?_,λ p hp=>?_,hok,I.len⟩
 ·exact keep b o (neL b o e) hb (neC b o e hx) (I.base.keep b o e n hb hx) (I.base.free b o e n hx)
 ·obtain ⟨sl,e1⟩:=I.base.slot b o e n hb hx;obtain ⟨sl',e2⟩:=slot b _ (neL b o e) hb (neC b o e hx) e1 (I.base.free b o e n hx);exact ⟨sl',e2⟩
 ·obtain ⟨o',e1⟩:=I.base.there b o e hx;exact free b o' (neC b o e hx) e1 (I.base.free b o e n hx)
 ·obtain ⟨o',e1⟩:=I.base.there b o e hx;exact there b o' (neC b o e hx) e1
 ·obtain ⟨m1,e1⟩:=I.base.tbls b ps e;obtain ⟨m2,e2⟩:=tbls b _ e1;exact ⟨m1++m2,by rw [e2,Array.append_assoc]⟩
 ·obtain ⟨m,hn,hl⟩:=I.loc;refine ⟨m,ns m hn,λ i x v e1 e2 e3=>?_⟩;obtain ⟨u,r,l⟩:=hl i x v e1 e2 e3;refine ⟨u,r,?_⟩;rcases l with l | ⟨k,c,e,z⟩
  ·exact .inl l
  ·exact .inr ⟨k,c,e,cellK x c e _ z⟩
 ·obtain ⟨v,z⟩:=I.cell x c e;exact ⟨v,cellK x c e v z⟩
 ·obtain ⟨m,⟨o,_,_,ho,_⟩,_⟩:=I.loc;exact free _ o (λ z=>(hch _ z).2.1 rfl) ho I.free
 ·obtain ⟨v,o,ho,hd⟩:=I.cell x c e;exact free c o (λ z=>(hch c z).2.2.1 x c e rfl) ho (I.freeC x c e)
 ·obtain ⟨e,n,ne,nf,d⟩:=I.pin p hp;have nch:p.1∉ch:=λ z=>(hch p.1 z).2.2.2 p hp rfl;exact ⟨keep p.1 p.2 ne nf nch e n,free p.1 p.2 nch e n,ne,nf,d⟩
def Inv.un {t':Nat} (I:Inv X pins σ H s) (u:Un X.fs [] H H' s.heap h') (hok:HOk X.prog X.w H' h'):Inv X pins σ H' { s with heap:=h',toks:=t' }:=by
 obtain ⟨m,⟨o,es,ep,ho,r⟩,_⟩:=id I.loc;obtain ⟨sl,hL⟩:=u.any ho I.free (by simp);exact I.step (g':=s.gens) (d':=s.drawn) (ch:=[]) (λ _ z=>nomatch z) (λ b o _ hb _ e n=>u.keep b o e n hb (by simp)) (λ b o _ hb _ e n=>u.slot b o e n hb (by simp)) (λ b o _ e n=>u.free b o e n (by simp)) (λ b o _ e=>u.there b o e (by simp)) u.tups u.frzs u.tbls (λ m' hm=>by
  obtain ⟨o',es',ep',ho',r'⟩:=hm;rw [ho] at ho';cases ho';exact ⟨_,es',ep',hL,r'⟩) hok I.bare
def Inv.call {g':Array GenState}{t':Nat}{d':Drawn}{ch:List Addr} (I:Inv X pins σ H s) (u:Un (Gj X.stack) ch H H' s.heap h') (hok:HOk X.prog X.w H' h') (hg:Hk g')
  (hch:∀ b∈ch,(b∈X.ex\/X.s₀.heap.objs.size<=b)/\b≠X.env.locals/\(∀ x c,X.env.cells.lookup x=some c->c≠b)/\∀ p∈X.pn++pins,p.1≠b):
  Inv X pins σ H' { s with heap:=h',gens:=g',drawn:=d',toks:=t' }:=by
 obtain ⟨m,⟨o,es,ep,ho,r⟩,_⟩:=id I.loc;obtain ⟨sl,hL⟩:=u.any ho I.free λ z=>(hch _ z).2.1 rfl;exact I.step (ch:=ch) hch (λ b o hL hb hc e n=>u.keep b o e n (λ z=>(ja9.mp (I.stkSub b z)).elim hL hb) hc) (λ b o _ _ hc e n=>u.any e n hc) (λ b o hc e n=>u.free b o e n hc) (λ b o hc e=>u.there b o e hc) u.tups u.frzs u.tbls (λ m' hm=>by
  obtain ⟨o',es',ep',ho',r'⟩:=hm;rw [ho] at ho';cases ho';exact ⟨_,es',ep',hL,r'⟩) hok hg
def Inv.turned {t':Nat}{it:Addr} (I:Inv X pins σ H s) (k:∀ b o,b≠it->s.heap.get? b=some o->h'.get? b=some o) (hn:H it=none) (hL:it≠X.env.locals)
  (h1:it∈X.ex\/X.s₀.heap.objs.size<=it) (h2:∀ x c,X.env.cells.lookup x=some c->c≠it) (h3:∀ p∈X.pn++pins,p.1≠it):Inv X pins σ H { s with heap:=h',toks:=t' }:=by
 have nit:∀ b u,H b=some u->b≠it:=λ b u e z=>by rw [z,hn] at e;cases e
 refine I.step (g':=s.gens) (d':=s.drawn) (ch:=[it]) (λ b hb=>?_) (λ b o _ _ hc e _=>k b o (λ z=>hc (by simp [z])) e) (λ b o _ _ hc e _=>⟨o.slots,k b o (λ z=>hc (by simp [z])) e⟩) (λ _ _ _ _ n=>n)
  (λ b o hc e=>⟨o,k b o (λ z=>hc (by simp [z])) e⟩) (λ _ _ e=>e) (λ _ _ _ e=>e) (λ b ps e=>⟨#[],by rw [e];simp⟩) (λ m hm=>?_) (λ b u e=>?_) I.bare
 ·have e:b=it:=by simpa using hb
  subst e;exact ⟨h1,hL,h2,h3⟩
 ·obtain ⟨o,es,ep,ho,r⟩:=hm;exact ⟨o,es,ep,k _ o (BY hL) ho,r⟩
 ·refine (I.hok b u e).stay (λ c v hc q=>k c v ?_ q) (λ _ q=>q) λ _ _ q=>q;rcases hc with z | z
  ·rw [z];exact nit b u e
  ·exact nit c _ z
def Inv.tok (I:Inv X pins σ H s) (t:Nat):Inv X pins σ H { s with toks:=t }:=I.un (h':=s.heap) (t':=t) Un.refl I.hok
def Inv.kept {t':Nat} (I:Inv X pins σ H s) (k:∀ b u,s.heap.get? b=some u->h'.get? b=some u):Inv X pins σ H { s with heap:=h',toks:=t' }:=I.un (Un.kept k) (I.hok.kept k)
def Inv.laid {a:Addr}{o:HO}{t':Nat} (I:Inv X pins σ H s) (k:∀ b u,s.heap.get? b=some u->h'.get? b=some u) (hp:s.heap.objs.size<=a) (new:zwv X.prog X.w (As H a o) h' a o):
  Inv X pins σ (As H a o) { s with heap:=h',toks:=t' }:=I.un (Un.laid k hp (I.hok.fresh hp)) (I.hok.laid k hp new)
def Inv.write {x e:Addr}{o:HO}{t':Nat} (I:Inv X pins σ H s) (mu:MH (H x)) (he:e=x\/H e=some (.own x)) (k:∀ b u,b≠e->s.heap.get? b=some u->h'.get? b=some u) (heo:∃ u,h'.get? e=some u)
  (new:zwv X.prog X.w (As H x o) h' x o):Inv X pins σ (As H x o) { s with heap:=h',toks:=t' }:=I.un (Un.write mu he k heo) (I.hok.write mu he k heo new)
def Inv.pins_of {pins':List (Addr×Obj)} (I:Inv X pins σ H s) (h:∀ p∈pins',s.heap.get? p.1=some p.2/\H p.1=none/\p.1≠X.env.locals/\p.1∉X.fs/\∀ v,p.2.data≠.cell v):Inv X pins' σ H s:=
 ⟨I.ok,I.os,I.bare,I.base,I.loc,I.cell,I.free,I.freeC,λ p hp=>(jb2.mp hp).elim (λ z=>I.pin p (Bq _ z)) (h p),I.hok,I.len⟩
def XF {N:List Str} (hN:N.Nodup) {i j:Nat}{x:Str} (a:N[i]?=some x) (b:N[j]?=some x):i=j:=by
 obtain ⟨h1,e1⟩:=jb1.mp a;obtain ⟨h2,e2⟩:=jb1.mp b;exact (List.getElem_inj hN).mp (e1.trans e2.symm)
def Ux {M:Model}{A:Bc}{E:Ae->Ak->Prop}{i:Nat}{x:Str}{v:V}{u:Ae}{Q:Unit->Ak->Prop} (I:Inv X pins σ H s) (hN:X.N.Nodup) (hi:X.N[i]?=some x) (hx:Fd X.env.scope x) (r:RelV v u)
  (h:∀ s',Inv X pins (σ.set i (some v)) H s'->(∃ a,N5 a s.heap s'.heap/\(a=X.env.locals\/X.env.cells.lookup x=some a))->Q () s') (hf:X.fn x=true\/X.env.scope.names.lookup x=some .local:=by first | exact .inl rfl | exact .inr rfl | assumption):Aw M A (storeName X.env x u) Q E s:=by
 obtain ⟨m,hn,hl⟩:=id I.loc;have hcls:(X.env.scope.kind == .class || (X.env.scope.kind == .module && X.env.locals != X.env.globals))=false:=by rw [I.ok.kind];rfl
 have hiσ:i < σ.length:=by rw [I.len];exact (jb1.mp hi).1
 have cne:=I.cne;have tracked:∀ {a:Addr}{h':Heap},(∃ o,s.heap.get? a=some o/\H a=none)->N5 a s.heap h'->HOk X.prog X.w H h':=λ {a h'} ha hs b ob e=>by
  obtain ⟨_,_,hfree⟩:=ha;refine (I.hok b ob e).stay (λ c w' hc q=>(hs.2 c ?_).trans q) (λ _ q=>q) λ _ _ q=>q;rintro rfl;rcases hc with rfl | hc
  ·rw [hfree] at e;cases e
  ·rw [hfree] at hc;cases hc
 rcases hx with hk | hk
 ·refine wpAny_storeName_local hk hn (λ h' hn' hs=>?_) hcls;obtain ⟨oL,_,_,hoL,_⟩:=id hn;refine h _ ⟨I.ok,I.os,I.bare,⟨λ b o e n hb hx=>?_,λ b o e n hb hx=>?_,I.base.free,λ b o e hx=>?_,I.base.tups,I.base.frzs,I.base.tbls⟩,⟨_,hn',λ j y v' e1 e2 e3=>?_⟩,λ y c e=>?_,I.free,I.freeC,λ p hp=>?_,tracked ⟨oL,hoL,I.free⟩ hs,by simpa using I.len⟩ ⟨_,hs,.inl rfl⟩
  ·exact (hs.2 b (Cc (Cf (Bn e) I.ok.above))).trans (I.base.keep b o e n hb hx)
  ·obtain ⟨sl,e1⟩:=I.base.slot b o e n hb hx;exact ⟨sl,(hs.2 b (Cc (Cf (Bn e) I.ok.above))).trans e1⟩
  ·obtain ⟨o',e1⟩:=I.base.there b o e hx;exact ⟨o',(hs.2 b (Cc (Cf (Bn e) I.ok.above))).trans e1⟩
  ·by_cases hj:j=i
   ·subst hj;rw [hi] at e1;cases e1;rw [D4 hiσ] at e2;cases e2;exact ⟨u,r,.inl ⟨hk,by simp⟩⟩
   ·rw [Cw (BY hj)] at e2;obtain ⟨u',r',q⟩:=hl j y v' e1 e2 e3;refine ⟨u',r',?_⟩;rcases q with ⟨k,e⟩ | ⟨k,c,e,z⟩
    ·refine .inl ⟨k,?_⟩
     have:y≠x:=λ e=>hj (XF hN e1 (e ▸ hi))
     simp [this,e]
    ·exact .inr ⟨k,c,e,z.sameBut hs (cne y c e)⟩
  ·obtain ⟨w',z⟩:=I.cell y c e;exact ⟨w',z.sameBut hs (cne y c e)⟩
  ·obtain ⟨e,n,ne,nf,d⟩:=I.pin p hp;exact ⟨(hs.2 p.1 ne).trans e,n,ne,nf,d⟩
 ·have hfn:X.fn x=true:=by
   rcases hf with z | z
   ·exact z
   ·rw [z] at hk;cases hk
  obtain ⟨c,hc⟩:=I.ok.has x (.inl hk);obtain ⟨w',z⟩:=I.cell x c hc;refine wpAny_storeName_cell I.ok.kind hk hc z (λ h' hc' hs=>?_);obtain ⟨oc,hoc,hocd⟩:=id z;refine h { s with heap:=h' } ⟨I.ok,I.os,I.bare,⟨λ b o e n hb hx=>?_,λ b o e n hb hx=>?_,I.base.free,λ b o e hx=>?_,I.base.tups,I.base.frzs,I.base.tbls⟩,⟨m,hn.sameBut hs (BY (cne x c hc)),λ j y v' e1 e2 e3=>?_⟩,λ y c' e=>?_,I.free,I.freeC,λ p hp=>?_,tracked ⟨oc,hoc,I.freeC x c hc⟩ hs,by simpa using I.len⟩ ⟨c,hs,.inr hc⟩
  ·exact (hs.2 b (Cc (Cf (Bn e) (I.ok.cab x c hfn hc)))).trans (I.base.keep b o e n hb hx)
  ·obtain ⟨sl,e1⟩:=I.base.slot b o e n hb hx;exact ⟨sl,(hs.2 b (Cc (Cf (Bn e) (I.ok.cab x c hfn hc)))).trans e1⟩
  ·obtain ⟨o',e1⟩:=I.base.there b o e hx;exact ⟨o',(hs.2 b (Cc (Cf (Bn e) (I.ok.cab x c hfn hc)))).trans e1⟩
  ·by_cases hj:j=i
   ·subst hj;rw [hi] at e1;cases e1;rw [D4 hiσ] at e2;cases e2;exact ⟨u,r,.inr ⟨.inl hk,c,hc,hc'⟩⟩
   ·rw [Cw (BY hj)] at e2;obtain ⟨u',r',q⟩:=hl j y v' e1 e2 e3;refine ⟨u',r',?_⟩;rcases q with q | ⟨k,c',e,z'⟩
    ·exact .inl q
    ·refine .inr ⟨k,c',e,z'.sameBut hs ?_⟩;rintro rfl;exact hj (XF hN e1 (I.ok.inj _ _ _ e hc ▸ hi))
  ·by_cases hcc:c'=c
   ·subst hcc;exact ⟨_,hc'⟩
   ·obtain ⟨w2,z2⟩:=I.cell y c' e;exact ⟨w2,z2.sameBut hs hcc⟩
  ·obtain ⟨e,n,ne,nf,d⟩:=I.pin p hp;refine ⟨(hs.2 p.1 ?_).trans e,n,ne,nf,d⟩;intro q;rw [q,hoc] at e;have q':oc=p.2:=Option.some.inj e;exact d w' (by rw [<- q'];exact hocd)
def Xy {M:Model}{A:Bc}{E:Ae->Ak->Prop}{i:Nat}{x:Str}{v:V}{u:Ae}{Q:Unit->Ak->Prop} (I:Inv X pins σ H s) (hN:X.N.Nodup) (hi:X.N[i]?=some x) (hx:Fd X.env.scope x) (r:RelV v u)
  (h:∀ s',Inv X pins (σ.set i (some v)) H s'->Q () s') (hf:X.fn x=true\/X.env.scope.names.lookup x=some .local:=by first | exact .inl rfl | exact .inr rfl | assumption):Aw M A (storeName X.env x u) Q E s:=
 Ux I hN hi hx r (λ s' I' _=>h s' I') hf
def Inv.call' {s':Ak}{ch:List Addr} (I:Inv X pins σ H s) (ho:s'.os=s.os) (u:Un (Gj X.stack) ch H H' s.heap s'.heap) (hok:HOk X.prog X.w H' s'.heap) (hg:Hk s'.gens)
  (hch:∀ b∈ch,(b∈X.ex\/X.s₀.heap.objs.size<=b)/\b≠X.env.locals/\(∀ x c,X.env.cells.lookup x=some c->c≠b)/\∀ p∈X.pn++pins,p.1≠b):Inv X pins σ H' s':=by
 obtain ⟨h',g',d',t',o'⟩:=s';have e:o'=s.os:=ho;subst e;exact I.call (g':=g') (t':=t') (d':=d') u hok hg hch
end
abbrev XK:=Ae->Option Addr->Hp->Prop
abbrev St:=List (Option V)
abbrev VK:=V->Hp->Prop
abbrev TE:=St->Hp->VK->Prop
abbrev TT:=St->Hp->(Bool->Hp->Prop)->Prop
abbrev TA:=St->Hp->(List V->Hp->Prop)->Prop
structure Ends where
 nx:St->Hp->Prop
 rt:VK
 bk:St->Hp->Prop:=λ _ _=>False
 ct:St->Hp->Prop:=λ _ _=>False
abbrev TS:=Ends->St->Hp->Prop
def EP (X:Cx) (pins:List (Addr×Obj)) (σ:St) (Q:VK) (u:Ae) (s':Ak):Prop:=∃ v H',Inv X pins σ H' s'/\RelV v u/\Q v H'
def TP (X:Cx) (pins:List (Addr×Obj)) (σ:St) (Q:Bool->Hp->Prop) (b:Bool) (s':Ak):Prop:=∃ H',Inv X pins σ H' s'/\Q b H'
def AP (X:Cx) (pins:List (Addr×Obj)) (σ:St) (Q:List V->Hp->Prop) (us:List Ae) (s':Ak):Prop:=∃ vs H',Inv X pins σ H' s'/\Vals vs us/\Q vs H'
def SP (X:Cx) (pins:List (Addr×Obj)) (D:Ends) (f:Flow) (s':Ak):Prop:=
 match f with
 | .next=>∃ σ' H',Inv X pins σ' H' s'/\D.nx σ' H'
 | .brk=>∃ σ' H',Inv X pins σ' H' s'/\D.bk σ' H'
 | .cont=>∃ σ' H',Inv X pins σ' H' s'/\D.ct σ' H'
 | .ret u=>∃ v σ' H',Inv X pins σ' H' s'/\RelV v u/\D.rt v H'
def PE (X:Cx) (e:Expr) (t:TE):Prop:=
 ∀ (pins:List (Addr×Obj)) (s:Ak) (σ:St) (H:Hp) (Q:VK),Inv X pins σ H s->t σ H Q->Aw (Av X.prog X.w) X.A (eval e X.env) (EP X pins σ Q) X.xe s
def PT (X:Cx) (e:Expr) (t:TT):Prop:=
 ∀ (pins:List (Addr×Obj)) (s:Ak) (σ:St) (H:Hp) (Q:Bool->Hp->Prop),Inv X pins σ H s->t σ H Q->Aw (Av X.prog X.w) X.A (isTrue e X.env (eval e X.env)) (TP X pins σ Q) X.xe s
def PW (X:Cx) (e:Expr) (t:TT):Prop:=
 ∀ (whole:Sem Ae) (pins:List (Addr×Obj)) (s:Ak) (σ:St) (H:Hp) (Q:Bool->Hp->Prop),Inv X pins σ H s->t σ H Q->Aw (Av X.prog X.w) X.A (isTrue e X.env whole) (TP X pins σ Q) X.xe s
def PW.pt {X:Cx}{e:Expr}{t:TT} (h:PW X e t):PT X e t:=h _
def PA (X:Cx) (es:List Expr) (t:TA):Prop:=
 ∀ (pos:Pos) (pins:List (Addr×Obj)) (s:Ak) (σ:St) (H:Hp) (Q:List V->Hp->Prop),Inv X pins σ H s->t σ H Q->Aw (Av X.prog X.w) X.A (spliced (DD pos (AN es X.env))) (AP X pins σ Q) X.xe s
def PS (X:Cx) (st:Stmt) (t:TS):Prop:=
 ∀ (pins:List (Addr×Obj)) (s:Ak) (σ:St) (H:Hp) (D:Ends),Inv X pins σ H s->t D σ H->Aw (Av X.prog X.w) X.A (exec st X.env) (SP X pins D) X.xe s
def Ex (X:Cx) (st:List Stmt) (t:TS):Prop:=
 ∀ (pins:List (Addr×Obj)) (s:Ak) (σ:St) (H:Hp) (D:Ends),Inv X pins σ H s->t D σ H->Aw (Av X.prog X.w) X.A (execs st X.env) (SP X pins D) X.xe s
def A5 {α:Type}{t:Sem α}{Q Q':α->Ak->Prop}{M:Model}{A:Bc}{E:Ae->Ak->Prop}{s:Ak} (h:Aw M A t Q E s) (hQ:∀ a s,Q a s->Q' a s):Aw M A t Q' E s:=Fp h hQ λ _ _ x=>x
section
variable {X:Cx}
def yO {a b:Expr}{ta tb:TE} (ha:PE X a ta) (hb:PE X b tb) {pins:List (Addr×Obj)}{s:Ak}{σ:St}{H:Hp}{R:V->V->Hp->Prop} (I:Inv X pins σ H s) (h:ta σ H λ x H1=>tb σ H1 λ y H2=>R x y H2)
  {α:Type}{Q:α->Ak->Prop}{f:Ae->Ae->Sem α}
  (hf:∀ v u s2 x y H2,Inv X pins σ H2 s2->RelV x v->RelV y u->R x y H2->Aw (Av X.prog X.w) X.A (f v u) Q X.xe s2):
  Aw (Av X.prog X.w) X.A (eval a X.env) (λ v s₁=>Aw (Av X.prog X.w) X.A (eval b X.env) (λ u s₂=>Aw (Av X.prog X.w) X.A (f v u) Q X.xe s₂) X.xe s₁) X.xe s:=by
 refine A5 (ha pins s σ H _ I h) λ v s1 ⟨x,H1,I1,r1,q1⟩=>?_;refine A5 (hb pins s1 σ H1 _ I1 q1) λ u s2 ⟨y,H2,I2,r2,q2⟩=>?_;exact hf v u s2 x y H2 I2 r1 r2 q2
def Bl (i:Nat):TE:=λ σ H Q=>∃ v,σ[i]?=some (some v)/\Q v H
def tC (v:V):TE:=λ _ H Q=>Q v H
def qJ {i:Nat}{x:Str}{pos:Pos} (hN:X.N[i]?=some x) (hv:IU X.env.scope x) (hd:(x == ("__debug__" : Str))=false:=by decide) (hcd:(x == ("__classdict__" : Str))=false:=by decide):PE X (.Name x pos) (Bl i):=by
 intro pins s σ H Q I h;obtain ⟨v,e,h⟩:=h;obtain ⟨m,hn,hl⟩:=I.loc;obtain ⟨u,r,l⟩:=hl i x v hN e hv;have fin:EP X pins σ Q u s:=⟨v,H,I,r,h⟩
 rcases l with ⟨hk,hm⟩ | ⟨hk,c,hc,hcell⟩
 ·exact wpAny_Name (wpAny_loadName_local I.ok.kind hk hn hm fin) hd
 ·rcases hk with hk | hk
  ·exact wpAny_Name (wpAny_loadName_cell I.ok.kind hk hc hcell fin) hd
  ·exact wpAny_Name (wpAny_loadName_free I.ok.kind hk hc hcell fin hcd) hd
def Kg {i j pos}:PE X (.Constant (.int i) j pos) (tC (.int i)):=λ _ _ _ H _ I h=>wpAny_Constant_int ⟨.int i,H,I.tok _,⟨_,rfl⟩,h⟩
def ZC {b j pos}:PE X (.Constant (.bool b) j pos) (tC (.bl b)):=λ _ _ _ H _ I h=>Constant_bool ⟨.bl b,H,I,rfl,h⟩
def qG {j pos}:PE X (.Constant .none j pos) (tC .non):=λ _ _ _ H _ I h=>Constant_none ⟨.non,H,I,rfl,h⟩
def qI {x j pos}:PE X (.Constant (.str x) j pos) (tC (.str x)):=λ _ _ _ H _ I h=>Calls.Constant_str ⟨.str x,H,I.tok _,⟨_,rfl⟩,h⟩
def Gl (X:Cx) (x:Str):Prop:=X.env.kindOf x=some .globalImplicit
def Wm {E:Ae->Ak->Prop}{pins:List (Addr×Obj)}{s:Ak}{σ:St}{H:Hp}{x:Str}{u:Ae}{pos:Pos}{Q:Ae->Ak->Prop} (I:Inv X pins σ H s) (hg:Gl X x) (hm:X.mg x=some u) (h:Q u s)
  (hd:(x == ("__debug__" : Str))=false:=by decide):Aw (Av X.prog X.w) X.A (eval (.Name x pos) X.env) Q E s:=
 U7 I.ok.kind hg (Calls.loadGlobal_global (by rw [I.ok.glob];exact I.mod.glob.keeps I.bk) hm h) hd
def Km {E:Ae->Ak->Prop}{pins:List (Addr×Obj)}{s:Ak}{σ:St}{H:Hp}{x:Str}{u:Ae}{pos:Pos}{Q:Ae->Ak->Prop} (I:Inv X pins σ H s) (hg:Gl X x) (hm:X.mg x=none) (hv:Jp x=some u) (h:Q u s)
  (hn:x ≠ "__name__" := by decide) (hd:(x == ("__debug__" : Str))=false:=by decide):Aw (Av X.prog X.w) X.A (eval (.Name x pos) X.env) Q E s:=by
 obtain ⟨mb,h1,h2⟩:=I.mod.blt;exact U7 I.ok.kind hg (Calls.loadGlobal_builtin (by rw [I.ok.glob];exact I.mod.glob.keeps I.bk) hm (by rw [I.ok.blt];exact h1.keeps I.bk) ((h2 x hn).trans hv) h) hd
def zx {x:Str}{v:V}{u:Ae}{pos:Pos} (hg:Gl X x) (hm:X.mg x=some u) (r:RelV v u) (hd:(x == ("__debug__" : Str))=false:=by decide):PE X (.Name x pos) (tC v):=
 λ _ _ _ H _ I h=>Wm I hg hm ⟨v,H,I,r,h⟩ hd
def WC {x:Str}{v:V}{u:Ae}{pos:Pos} (hg:Gl X x) (hm:X.mg x=none) (hv:Jp x=some u) (r:RelV v u) (hn:x ≠ "__name__" := by decide) (hd:(x == ("__debug__" : Str))=false:=by decide):PE X (.Name x pos) (tC v):=
 λ _ _ _ H _ I h=>Km I hg hm hv ⟨v,H,I,r,h⟩ hn hd
variable {a b:Expr}{ta tb:TE}{pos:Pos}
def PC (X:Cx) (op:E4) (a b:Expr) (t:TE):Prop:=
 ∀ (pins:List (Addr×Obj)) (s:Ak) (σ:St) (H:Hp) (Q:VK),Inv X pins σ H s->t σ H Q ->
  Aw (Av X.prog X.w) X.A (eval a X.env) (λ v s₁=>Aw (Av X.prog X.w) X.A (eval b X.env) (λ u s₂=>Aw (Av X.prog X.w) X.A (Dy op v u) (EP X pins σ Q) X.xe s₂) X.xe s₁) X.xe s
def Ia (b:Expr) {op:E4} (h:op≠.In) (h2:op≠.NotIn):Ky op b=false:=by
 have e1:(op == CmpOp.In)=false:=by cases op <;> first | rfl | exact absurd rfl h
 have e2:(op == CmpOp.NotIn)=false:=by cases op <;> first | rfl | exact absurd rfl h2
 cases b <;> simp [Ky,e1,e2]
def tB (t:TE):TT:=λ σ H Q=>t σ H λ x H1=>∃ c,x=.bl c/\Q c H1
def qN {e:Expr}{t:TE} (h:PE X e t) (he:∀ whole,isTrue e X.env whole=(do let v<-whole;standAt e.pos;holding [v] (truthy v)):=by intro _;rfl):PT X e (tB t):=by
 intro pins s σ H Q I hw;refine isTrue_plain (A5 (h pins s σ H _ I hw) λ v s1 ⟨x,H1,I1,r1,q1⟩=>?_) (he _);obtain ⟨d,rfl,q⟩:=q1;cases r1;exact Ho ⟨H1,I1,q⟩
variable {tA tB':TT}{rest:List Expr}
def Jw (t u:TT):TT:=λ σ H Q=>t σ H λ c H1=>if c=true then u σ H1 Q else Q false H1
def QR (t u:TT):TT:=λ σ H Q=>t σ H λ c H1=>if c=true then Q true H1 else u σ H1 Q
def Jt (t:TT):TT:=λ σ H Q=>t σ H λ c H1=>Q (!c) H1
theorem ji (ha:PT X a tA):PW X (.BoolOp .And [a] pos) tA:=by
 intro wh pins s σ H Q I h;refine isTrue_and (A5 (ha pins s σ H Q I h) λ c s1 e=>?_);cases c with
 | true=>exact isTrue_and_nil e
 | false=>exact e
theorem qP (ha:PT X a tA):PW X (.BoolOp .Or [a] pos) tA:=by
 intro wh pins s σ H Q I h;refine isTrue_or (A5 (ha pins s σ H Q I h) λ c s1 e=>?_);cases c with
 | false=>exact isTrue_or_nil e
 | true=>exact e
theorem qO (ha:PT X a tA) (hb:PW X (.BoolOp .And (b::rest) pos) tB'):PW X (.BoolOp .And (a::b::rest) pos) (Jw tA tB'):=by
 intro wh pins s σ H Q I h;refine isTrue_and (A5 (ha pins s σ H _ I h) λ c s1 ⟨H1,I1,q1⟩=>?_);cases c with
 | true=>exact hb wh pins s1 σ H1 Q I1 q1
 | false=>exact ⟨H1,I1,q1⟩
theorem ZG (ha:PT X a tA) (hb:PW X (.BoolOp .Or (b::rest) pos) tB'):PW X (.BoolOp .Or (a::b::rest) pos) (QR tA tB'):=by
 intro wh pins s σ H Q I h;refine isTrue_or (A5 (ha pins s σ H _ I h) λ c s1 ⟨H1,I1,q1⟩=>?_);cases c with
 | true=>exact ⟨H1,I1,q1⟩
 | false=>exact hb wh pins s1 σ H1 Q I1 q1
def qM (ha:PT X a tA):PT X (.UnaryOp .Not a pos) (Jt tA):=by
 intro pins s σ H Q I h;exact isTrue_not (ha pins s σ H (λ c H1=>Q (!c) H1) I h)
def Va (ta tb:TE):TE:=λ σ H Q=>ta σ H λ x H1=>∃ c,x=.bl c/\if c=true then tb σ H1 Q else Q (.bl false) H1
def LV (ta tb:TE):TE:=λ σ H Q=>ta σ H λ x H1=>∃ c,x=.bl c/\if c=true then Q (.bl true) H1 else tb σ H1 Q
def Vc (ta:TE):TE:=λ σ H Q=>ta σ H λ x H1=>∃ c,x=.bl c/\Q (.bl (!c)) H1
def V9 {op}{t:TE} (h:PE X a t):PE X (.BoolOp op [a] pos) t:=λ pins s σ H Q I hw=>BoolOp_one (h pins s σ H Q I hw)
theorem qF (ha:PE X a ta) (hb:PE X (.BoolOp .And (b::rest) pos) tb):PE X (.BoolOp .And (a::b::rest) pos) (Va ta tb):=by
 intro pins s σ H Q I h;refine BoolOp_and (A5 (ha pins s σ H _ I h) λ v s1 ⟨x,H1,I1,r1,q1⟩=>?_);obtain ⟨c,rfl,q1⟩:=q1;cases r1;refine Ho ?_;cases c with
 | true=>exact hb pins s1 σ H1 Q I1 q1
 | false=>exact ⟨.bl false,H1,I1,rfl,q1⟩
theorem ZD (ha:PE X a ta) (hb:PE X (.BoolOp .Or (b::rest) pos) tb):PE X (.BoolOp .Or (a::b::rest) pos) (LV ta tb):=by
 intro pins s σ H Q I h;refine BoolOp_or (A5 (ha pins s σ H _ I h) λ v s1 ⟨x,H1,I1,r1,q1⟩=>?_);obtain ⟨c,rfl,q1⟩:=q1;cases r1;refine Ho ?_;cases c with
 | false=>exact hb pins s1 σ H1 Q I1 q1
 | true=>exact ⟨.bl true,H1,I1,rfl,q1⟩
def qH (ha:PE X a ta):PE X (.UnaryOp .Not a pos) (Vc ta):=by
 intro pins s σ H Q I h;refine UnaryOp_ (A5 (ha pins s σ H _ I h) λ v s1 ⟨x,H1,I1,r1,q1⟩=>?_);obtain ⟨c,rfl,q1⟩:=q1;cases r1;exact not_of (Ho ⟨.bl (!c),H1,I1,rfl,q1⟩)
end
def BG (K:PySem.W.Frag) (H:Hp) (a:Addr) (xs:List V):Prop:=
 Rd H a (.lst xs) \/
  ∃ (o:Obj) (its:Array Ae) (n:Nat),K.lookup a=some o/\o.cls=.type "list" /\ o.dict=none/\o.data=.seq its n/\its.size<=A2/\Vals xs its.toList
def Dr (K:PySem.W.Frag) (H:Hp) (a:Addr) (xs:List V):Prop:=
 Rd H a (.tup xs) \/
  ∃ (o:Obj) (its:Array Ae) (n:Nat),K.lookup a=some o/\o.cls=.type "tuple" /\ o.data=.seq its n/\its.size<=A2/\Vals xs its.toList
def Tv:Ae->Option V
 | .none=>some .non
 | .bool b=>some (.bl b)
 | .int i _=>some (.int i)
 | .str x _=>some (.str x)
 | .bytes b _=>some (.byt b)
 | .float b _=>some (.flt b)
 | .ref a=>some (.ref a)
 | .type n=>some (.ty n)
 | _=>none
theorem RelV.abs {x:V}{u:Ae} (r:RelV x u):Tv u=some x:=by
 cases x with
 | non=>cases r;rfl
 | bl _=>cases r;rfl
 | int _=>obtain ⟨t,rfl⟩:=r;rfl
 | str _=>obtain ⟨t,rfl⟩:=r;rfl
 | byt _=>obtain ⟨t,rfl⟩:=r;rfl
 | flt _=>obtain ⟨t,rfl⟩:=r;rfl
 | ref _=>cases r;rfl
 | ty _=>cases r;rfl
def RelV.inj {x y:V}{u:Ae} (r:RelV x u) (q:RelV y u):x=y:=Option.some.inj (r.abs.symm.trans q.abs)
theorem Vals.inj:∀ {xs ys:List V}{us:List Ae},Vals xs us->Vals ys us->xs=ys
 | _,_,_,.nil,.nil=>rfl
 | _,_,_,.cons r t,.cons r' t'=>by rw [r.inj r',Vals.inj t t']
section
variable {X:Cx}{pins:List (Addr×Obj)}{σ:St}{H:Hp}{s:Ak}{a:Addr}{xs ys:List V}
def Inv.list (I:Inv X pins σ H s) (h:BG X.K H a xs):∃ its:List Ae,Vals xs its/\PlainL s.heap a its.toArray/\xs.length<=A2:=by
 rcases h with h | ⟨o,its,n,hk,hc,hd,hs,hz,r⟩
 ·obtain ⟨z,its,n,r,e⟩:=h.ok I.hok;exact ⟨its,r,⟨_,n,e,rfl,rfl,rfl⟩,z⟩
 ·refine ⟨its.toList,r,⟨o,n,I.kIn a o hk,hc,hd,by simpa using hs⟩,?_⟩;have e:=r.length;simp only [KU] at e;omega
def Inv.tuple (I:Inv X pins σ H s) (h:Dr X.K H a xs):∃ its:List Ae,Vals xs its/\IsTup s.heap a its.toArray/\xs.length<=A2:=by
 rcases h with h | ⟨o,its,n,hk,hc,hs,hz,r⟩
 ·obtain ⟨z,its,r,p⟩:=h.ok I.hok;exact ⟨its,r,p,z⟩
 ·refine ⟨its.toList,r,⟨o,I.kIn a o hk,hc,n,by simpa using hs⟩,?_⟩;have e:=r.length;simp only [KU] at e;omega
def Inv.list_inj (I:Inv X pins σ H s) (h:BG X.K H a xs) (h':BG X.K H a ys):xs=ys:=by
 obtain ⟨its,r,⟨o,n,e,_,_,d⟩,_⟩:=I.list h;obtain ⟨its',r',⟨o',n',e',_,_,d'⟩,_⟩:=I.list h';rw [e] at e';cases e';rw [d] at d';injection d' with d1 _
 have:its=its':=by simpa using congrArg XY d1
 subst this;exact r.inj r'
def Inv.tuple_inj (I:Inv X pins σ H s) (h:Dr X.K H a xs) (h':Dr X.K H a ys):xs=ys:=by
 obtain ⟨its,r,⟨o,e,_,n,d⟩,_⟩:=I.tuple h;obtain ⟨its',r',⟨o',e',_,n',d'⟩,_⟩:=I.tuple h';rw [e] at e';cases e';rw [d] at d';injection d' with d1 _
 have:its=its':=by simpa using congrArg XY d1
 subst this;exact r.inj r'
end
section
variable {X:Cx}{pins:List (Addr×Obj)}{σ:St}{H:Hp}{s:Ak}{E:Ae->Ak->Prop}
end
section
variable {X:Cx}{st:Stmt}{rest:List Stmt}{t u:TS}{e:Expr}{te:TE}{pos:Pos}
def Vb:TS:=λ D σ H=>D.nx σ H
def LU (t u:TS):TS:=λ D σ H=>t { D with nx:=u D } σ H
def jc:Ex X [] Vb:=λ _ _ σ H _ I h=>Qu ⟨σ,H,I,h⟩
theorem kd (h1:PS X st t) (h2:Ex X rest u):Ex X (st::rest) (LU t u):=by
 intro pins s σ H D I h;refine wpAny_execs_cons (A5 (h1 pins s σ H { D with nx:=u D } I h) λ f s1 q=>?_);cases f with
 | next=>
  obtain ⟨σ',H',I',q⟩:=q;exact h2 pins s1 σ' H' D I' q
 | ret v=>exact q
 | brk=>exact q
 | cont=>exact q
theorem W4 (h1:PS X st t):Ex X [st] t:=by
 intro pins s σ H D I h;refine wpAny_execs_cons (A5 (h1 pins s σ H D I h) λ f s1 q=>?_);cases f with
 | next=>exact Qu q
 | ret v=>exact q
 | brk=>exact q
 | cont=>exact q
def Inv.quiet {pins:List (Addr×Obj)}{σ:St}{H:Hp}{s:Ak} (I:Inv X pins σ H s):interactive X.env=false:=by simp [interactive,I.ok.kind]
def J7 (te:TE):TS:=λ D σ H=>te σ H λ _ H1=>D.nx σ H1
def Jf (he:PE X e te) (hs:swapsWith e none pos.line X.env=pure false:=by rfl):PS X (.Expr e pos) (J7 te):=by
 intro pins s σ H D I h;exact wpAny_Expr_any (A5 (he pins s σ H _ I h) λ v s1 ⟨x,H1,I1,r1,q1⟩=>⟨σ,H1,I1,q1⟩) I.quiet hs
def Hr (te:TE):TS:=λ D σ H=>te σ H D.rt
def RJ (he:PE X e te):PS X (.Return (some e) pos) (Hr te):=by
 intro pins s σ H D I h;exact wpAny_Return_some (A5 (he pins s σ H _ I h) λ v s1 ⟨x,H1,I1,r1,q1⟩=>⟨x,σ,H1,I1,r1,q1⟩)
def LW (c:TT) (t u:TS):TS:=λ D σ H=>c σ H λ b H1=>if b=true then t D σ H1 else u D σ H1
theorem ZF {c:Expr}{a b:List Stmt}{tc:TT} (hc:PT X c tc) (ha:Ex X a t) (hb:Ex X b u):PS X (.If c a b pos) (LW tc t u):=by
 intro pins s σ H D I h;refine wpAny_If (A5 (hc pins s σ H _ I h) λ d s1 ⟨H1,I1,q1⟩=>?_);cases d with
 | true=>exact ha pins s1 σ H1 D I1 q1
 | false=>exact hb pins s1 σ H1 D I1 q1
def RO:TS:=λ _ _ _=>False
def Xr:PS X st RO:=λ _ _ _ _ _ _ h=>h.elim
end
abbrev TG:=V->St->Hp->(St->Hp->Prop)->Prop
abbrev IV:=List V->St->Hp->(St->Hp->Prop)->Prop
def PG (X:Cx) (target:Expr) (t:TG):Prop:=
 ∀ (pins:List (Addr×Obj)) (s:Ak) (σ:St) (H:Hp) (v:V) (u:Ae) (Q:St->Hp->Prop),Inv X pins σ H s->RelV v u->t v σ H Q ->
  Aw (Av X.prog X.w) X.A (Hi target X.env u) (λ _ s'=>∃ σ' H',Inv X pins σ' H' s'/\Q σ' H') X.xe s
def Lb (X:Cx) (ts:List Expr) (t:IV):Prop:=
 ∀ (pins:List (Addr×Obj)) (s:Ak) (σ:St) (H:Hp) (vs:List V) (us:List Ae) (Q:St->Hp->Prop),Inv X pins σ H s->Vals vs us->t vs σ H Q ->
  Aw (Av X.prog X.w) X.A (assignInOrder ((E6 ts X.env).map (·.2)) us) (λ _ s'=>∃ σ' H',Inv X pins σ' H' s'/\Q σ' H') X.xe s
abbrev Fc:=V->V->V->Hp->(Hp->Prop)->Prop
def PSet (X:Cx) (t:Fc):Prop:=
 ∀ (pins:List (Addr×Obj)) (s:Ak) (σ:St) (H:Hp) (o i v:V) (ov iv u:Ae) (Q:Hp->Prop),Inv X pins σ H s->RelV o ov->RelV i iv->RelV v u->t o i v H Q ->
  Aw (Av X.prog X.w) X.A (setItem ov iv u) (λ _ s'=>∃ H',Inv X pins σ H' s'/\Q H') X.xe s
section
variable {X:Cx}{pos:Pos}
def DK (i:Nat):TG:=λ v σ H Q=>Q (σ.set i (some v)) H
def Ka {i:Nat}{x:Str} (hN:X.N.Nodup) (hi:X.N[i]?=some x) (hx:Fd X.env.scope x) (hf:X.fn x=true\/X.env.scope.names.lookup x=some .local:=by first | exact .inl rfl | exact .inr rfl | assumption):PG X (.Name x pos) (DK i):=by
 intro pins s σ H v u Q I r h;exact wpAny_assign_Name (Xy I hN hi hx r (λ s' I'=>⟨_,H,I',h⟩) hf)
def M9:IV:=λ vs σ H Q=>vs=[]/\Q σ H
def UH (t:TG) (u:IV):IV:=λ vs σ H Q=>∃ v r,vs=v::r/\t v σ H λ σ' H'=>u r σ' H' Q
def WG:Lb X [] M9:=by
 intro pins s σ H vs us Q I r h;obtain ⟨e,h⟩:=h;subst e;cases r;exact assignInOrder_nil ⟨σ,H,I,h⟩
theorem Xq {e:Expr}{es:List Expr}{t:TG}{u:IV} (h1:PG X e t) (h2:Lb X es u)
  (hs:(E6 (e::es) X.env).map (·.2)=Hi e X.env::(E6 es X.env).map (·.2):=by rfl):Lb X (e::es) (UH t u):=by
 intro pins s σ H vs us Q I r h;obtain ⟨v,vr,e1,h⟩:=h;subst e1;cases r with
 | cons r rr=>
  rw [hs];refine assignInOrder_cons (A5 (h1 pins s σ H _ _ _ I r h) λ _ s1 ⟨σ1,H1,I1,q1⟩=>?_);exact h2 pins s1 σ1 H1 _ _ Q I1 rr q1
def JN (K:PySem.W.Frag) (n:Nat) (t:IV):TG:=λ v σ H Q=>∃ a xs,v=.ref a/\Dr K H a xs/\xs.length=n/\t xs σ H Q
def RS {es:List Expr}{k:Nat}{t:IV}{n:Nat} (hc:X.calm=true) (h:Lb X es t)
  (hn:(E6 es X.env).length=n:=by rfl) (hst:(E6 es X.env).findIdx? (·.1)=none:=by rfl):PG X (.Tuple es k pos) (JN X.K n t):=by
 intro pins s σ H v u Q I r hw;obtain ⟨a,xs,e1,hq,hl,hw⟩:=hw;subst e1;cases r;obtain ⟨its,rv,ht,hz⟩:=I.tuple hq;refine assign_Tuple_tuple (I.ok.hd hc) ht (by simp [hn,<- hl,rv.length]) hst λ h' hx=>?_;have I1:Inv X pins σ H { s with heap:=h' }:=I.kept (t':=s.toks) λ b o e=>hx b o (Cc (Bn e)) e;exact h pins _ σ H xs _ Q I1 (by simpa using rv) hw
def HG (to ti:TE) (t:Fc):TG:=λ v σ H Q=>to σ H λ o H1=>ti σ H1 λ i H2=>t o i v H2 λ H3=>Q σ H3
def RQ {o i:Expr}{to ti:TE}{t:Fc} (ho:PE X o to) (hi:PE X i ti) (hs:PSet X t)
  (ha:∀ v,Hi (.Subscript o i pos) X.env v=(do
   let ov<-holding [v] (eval o X.env);let iv<-holding [v,ov] (eval i X.env)
   standAt pos
   holding [v,ov,iv] (setItem ov iv v)
   release [v,ov,iv] []):=by intro _;rfl):PG X (.Subscript o i pos) (HG to ti t):=by
 intro pins s σ H v u Q I r h;rw [ha];refine A4 (GK (A5 (ho pins s σ H _ I h) λ ov s1 ⟨x,H1,I1,r1,q1⟩=>?_));refine A4 (GK (A5 (hi pins s1 σ H1 _ I1 q1) λ iv s2 ⟨y,H2,I2,r2,q2⟩=>?_));refine A4 (wpAny_standAt (A4 (GK (A5 (hs pins s2 σ H2 x y v ov iv u _ I2 r1 r2 r q2) λ _ s3 ⟨H3,I3,q3⟩=>?_))));exact wpAny_release ⟨σ,H3,I3,q3⟩
def DM (te:TE) (g:TG):TS:=λ D σ H=>te σ H λ x H1=>g x σ H1 D.nx
def O4 {tg e:Expr}{te:TE}{g:TG} (he:PE X e te) (hg:PG X tg g) (hs:swapsWithSole [tg] e pos.line X.env=pure false:=by rfl) (hw:swappedStores [tg] e X.env=pure none:=by rfl)
  (h1:(E6 [tg] X.env).map (·.2)=[Hi tg X.env]:=by rfl):PS X (.Assign [tg] e pos) (DM te g):=by
 intro pins s σ H D I h;refine wpAny_Assign_stores (A5 (he pins s σ H _ I h) λ v s1 ⟨x,H1,I1,r1,q1⟩=>?_) hs hw;rw [h1];exact A5 (hg pins s1 σ H1 x v _ I1 r1 q1) λ _ s2 q=>q
def VB {i:Nat}{x:Str}{e:Expr}{te:TE}{pos':Pos} (hN:X.N.Nodup) (hi:X.N[i]?=some x) (hx:Fd X.env.scope x) (he:PE X e te) (hs:swapsWith e (some (.Name x pos')) pos.line X.env=pure false:=by rfl) (hf:X.fn x=true\/X.env.scope.names.lookup x=some .local:=by first | exact .inl rfl | exact .inr rfl | assumption):
  PS X (.Assign [.Name x pos'] e pos) (DM te (DK i)):=by
 intro pins s σ H D I h;refine wpAny_Assign_Name (A5 (he pins s σ H _ I h) λ v s1 ⟨y,H1,I1,r1,q1⟩=>?_) hs;exact Xy I1 hN hi hx r1 (λ s2 I2=>⟨_,H1,I2,q1⟩) hf
end
section
variable {X:Cx}{pos:Pos}
end
structure It where
 go:Nat->Hp->Prop
 yld:Nat->Hp->V->Hp->Prop
 stop:Nat->Hp->Prop
def Cz (X:Cx) (pins:List (Addr×Obj)) (H:Hp) (b:Addr):Prop:=
 H b=none/\b≠X.env.locals/\b∉X.fs/\(b∈X.ex\/X.s₀.heap.objs.size<=b)/\(∀ x c,X.env.cells.lookup x=some c->c≠b)/\∀ p∈X.pn++pins,p.1≠b
def Inv.fpOk {X:Cx}{pins:List (Addr×Obj)}{σ:St}{H H':Hp}{s:Ak}{b:Addr} (I:Inv X pins σ H s) (hb:s.heap.objs.size<=b) (hn:H' b=none):Cz X pins H' b:=by
 refine ⟨hn,IF (Cf I.lt hb),I.nofs hb,.inr (CA I.sz hb),λ x c e z=>?_,λ p hp z=>?_⟩
 ·obtain ⟨v,q⟩:=I.cell x c e;exact absurd (Cf q.lt (by rw [z];exact hb)) (GO _)
 ·exact absurd (Cf (Bn (I.pin p hp).1) (by rw [z];exact hb)) (GO _)
structure Turn (P:AD) (w:AB) (K:PySem.W.Frag) (tg:Expr) (J:It) (fp:List Addr) (it:Addr) (tn:Nat->Heap->Prop):Prop where
 mem:it∈fp
 obj:∀ i h,tn i h->∀ b∈fp,∃ o,h.get? b=some o/\∀ v,o.data≠.cell v
 keep:∀ i h h',tn i h->(∀ b∈fp,∀ o,h.get? b=some o->h'.get? b=some o)->tn i h'
 item:∀ (X:Cx),X.prog=P->X.w=w->X.K=K->X.calm=true->∀ (i:Nat) (pins:List (Addr×Obj)) (s:Ak) (σ:St) (H:Hp) (E:Ae->Ak->Prop),Inv X pins σ H s->(∀ b∈fp,Cz X pins H b)->tn i s.heap->J.go i H ->
  Aw (Av P w) X.A (pyNext (.ref it)) (λ r s1=>∃ u,r=some u /\
   Aw (Av P w) X.A (NB tg (.ref it) u) (λ _ s2=>∃ x H',Inv X pins σ H' s2/\RelV x u/\J.yld i H x H'/\tn (i + 1) s2.heap/\∀ b∈fp,H' b=none) E s1) E s
 done:∀ (X:Cx),X.prog=P->X.w=w->X.K=K->X.calm=true->∀ (i:Nat) (pins:List (Addr×Obj)) (s:Ak) (σ:St) (H:Hp) (E:Ae->Ak->Prop),Inv X pins σ H s->(∀ b∈fp,Cz X pins H b)->tn i s.heap->J.stop i H ->
  Aw (Av P w) X.A (pyNext (.ref it)) (λ r s1=>r=none/\Inv X pins σ H s1) E s
 self:∀ (A:Bc) (i:Nat) (s:Ak) (Q:Ae->Ak->Prop) (E:Ae->Ak->Prop),tn i s.heap->Q (.ref it) s->Aw (Av P w) A (pyIter (.ref it)) Q E s
abbrev TI:=St->Hp->(It->Hp->Prop)->Prop
def YH (X:Cx) (pins:List (Addr×Obj)) (σ:St) (tg:Expr) (R:It->Hp->Prop) (itv:Ae) (s2:Ak):Prop:=
 ∃ (it:Addr) (fp:List Addr) (tn:Nat->Heap->Prop) (J:It) (H':Hp),itv=.ref it/\Inv X pins σ H' s2/\Turn X.prog X.w X.K tg J fp it tn/\tn 0 s2.heap/\(∀ b∈fp,Cz X pins H' b)/\R J H'
def PI (X:Cx) (tg iter:Expr) (wi:TI):Prop:=
 ∀ (pins:List (Addr×Obj)) (s:Ak) (σ:St) (H:Hp) (R:It->Hp->Prop),Inv X pins σ H s->wi σ H R ->
  Aw (Av X.prog X.w) X.A (eval iter X.env) (λ v s1=>Aw (Av X.prog X.w) X.A (pyIter v) (YH X pins σ tg R) X.xe s1) X.xe s
def Oi {M:Model}{A:Bc}{E:Ae->Ak->Prop}{s:Ak}{tg:Expr}{it:Addr}{u:Ae}{o:Obj}{n:String}{vs:Array Ae}{Q:Unit->Ak->Prop} (ho:s.heap.get? it=some o) (hc:o.cls=.type n) (hd:o.data=.fields vs)
  (hn:["enumerate","zip","dict_itemiterator","dict_reverseitemiterator","odict_iterator","itertools.zip_longest","itertools.pairwise"].contains n=false) (hQ:Q () s):Aw M A (NB tg (.ref it) u) Q E s:=by
 unfold NB;cases tg <;> first
  | exact Bw hQ
  | (cases u <;> first
    | exact Bw hQ
    | (refine A4 (wpAny_load ho ?_);rw [hc,hd];show Aw M A (if (["enumerate","zip","dict_itemiterator","dict_reverseitemiterator","odict_iterator","itertools.zip_longest","itertools.pairwise"].contains n && vs[0]? == some (rawInt _))=true then _ else _) Q E s;rw [if_neg (by intro h;rw [hn,Bool.false_and] at h;cases h)];exact Bw hQ))
def Lc (K:PySem.W.Frag) (a:Addr):It:=
 ⟨λ i H=>∃ xs x,BG K H a xs/\xs[i]?=some x,λ i H x H'=>H'=H/\∀ xs,BG K H a xs->xs[i]?=some x,λ i H=>∃ xs,BG K H a xs/\xs.length<=i⟩
def Tz (K:PySem.W.Frag) (a:Addr):It:=
 ⟨λ i H=>∃ xs x,Dr K H a xs/\xs[i]?=some x,λ i H x H'=>H'=H/\∀ xs,Dr K H a xs->xs[i]?=some x,λ i H=>∃ xs,Dr K H a xs/\xs.length<=i⟩
def GU (lo:Int) (n:Nat):It:=⟨λ i _=>i < n,λ i H x H'=>H'=H/\x=.int (lo + i),λ i _=>n<=i⟩
def vS {P:AD}{w:AB}{K:PySem.W.Frag}{tg:Expr} (a it:Addr):Turn P w K tg (Lc K a) [it] it (λ i h=>h.IsListIter it a i) where
 mem:=by simp
 obj:=λ i h st b hb=>by
  have e:b=it:=by simpa using hb
  subst e;obtain ⟨o,e,c,d⟩:=st;exact ⟨o,e,λ v z=>by rw [d] at z;cases z⟩
 keep:=λ i h h' st k=>st.at λ o e=>k it (by simp) o e
 item:=by
  intro X hP hw hK hc i pins s σ H E I hf st hg;subst hP hw hK;obtain ⟨xs,x,hq,hx⟩:=hg;obtain ⟨its,rv,p,hz⟩:=I.list hq;obtain ⟨u,hu,ru⟩:=rv.get hx;obtain ⟨f0,f1,f2,f3,f4,f5⟩:=hf it (by simp);refine wpAny_pyNext_list_item st p.isList (x:=u) (by simpa using hu) λ h' st' sb=>?_;have I1:Inv X pins σ H { s with heap:=h' }:=I.turned (t':=s.toks) (λ b o hb e=>(sb.2 b hb).trans e) f0 f1 f3 f4 f5;obtain ⟨o,e,c,d⟩:=id st';exact ⟨u,rfl,Oi (s:={ s with heap:=h' }) e c d (by decide) ⟨x,H,I1,ru,⟨rfl,λ ys hy=>by rw [I.list_inj hy hq];exact hx⟩,st',λ b hb=>(hf b hb).1⟩⟩
 done:=by
  intro X hP hw hK hc i pins s σ H E I hf st hg;subst hP hw hK;obtain ⟨xs,hq,hx⟩:=hg;obtain ⟨its,rv,p,hz⟩:=I.list hq;obtain ⟨f0,f1,f2,f3,f4,f5⟩:=hf it (by simp);have hl:=rv.length;exact wpAny_pyNext_list_end (I.ok.hd hc) st p.isList (by simp;omega) λ h' eb=>⟨rfl,I.turned (t':=s.toks) (λ b o hb e=>eb b o hb e) f0 f1 f3 f4 f5⟩
 self:=λ _ _ _ _ _ st h=>wpAny_pyIter_listiter st h
def wu {P:AD}{w:AB}{K:PySem.W.Frag}{tg:Expr} (a it:Addr):Turn P w K tg (Tz K a) [it] it (λ i h=>h.IsTupleIter it a i) where
 mem:=by simp
 obj:=λ i h st b hb=>by
  have e:b=it:=by simpa using hb
  subst e;obtain ⟨o,e,c,d⟩:=st;exact ⟨o,e,λ v z=>by rw [d] at z;cases z⟩
 keep:=λ i h h' st k=>st.at λ o e=>k it (by simp) o e
 item:=by
  intro X hP hw hK hc i pins s σ H E I hf st hg;subst hP hw hK;obtain ⟨xs,x,hq,hx⟩:=hg;obtain ⟨its,rv,p,hz⟩:=I.tuple hq;obtain ⟨u,hu,ru⟩:=rv.get hx;obtain ⟨f0,f1,f2,f3,f4,f5⟩:=hf it (by simp);refine wpAny_pyNext_tuple_item st (show s.heap.IsTuple a its.toArray from p) (x:=u) (by simpa using hu) λ h' st' sb=>?_;have I1:Inv X pins σ H { s with heap:=h' }:=I.turned (t':=s.toks) (λ b o hb e=>(sb.2 b hb).trans e) f0 f1 f3 f4 f5;obtain ⟨o,e,c,d⟩:=id st';exact ⟨u,rfl,Oi (s:={ s with heap:=h' }) e c d (by decide) ⟨x,H,I1,ru,⟨rfl,λ ys hy=>by rw [I.tuple_inj hy hq];exact hx⟩,st',λ b hb=>(hf b hb).1⟩⟩
 done:=by
  intro X hP hw hK hc i pins s σ H E I hf st hg;subst hP hw hK;obtain ⟨xs,hq,hx⟩:=hg;obtain ⟨its,rv,p,hz⟩:=I.tuple hq;obtain ⟨f0,f1,f2,f3,f4,f5⟩:=hf it (by simp);have hl:=rv.length;exact wpAny_pyNext_tuple_end (I.ok.hd hc) st (show s.heap.IsTuple a its.toArray from p) (by simp;omega) λ h' eb=>⟨rfl,I.turned (t':=s.toks) (λ b o hb e=>eb b o hb e) f0 f1 f3 f4 f5⟩
 self:=λ _ _ _ _ _ st h=>wpAny_pyIter_tupleiter st h
def wt {P:AD}{w:AB}{K:PySem.W.Frag}{tg:Expr} (it:Addr) (lo:Int) (n:Nat):Turn P w K tg (GU lo n) [it] it (λ i h=>IsRangeIter h it (lo + (i:Nat) * 1) ((n:Int) - (i:Nat)) 1) where
 mem:=by simp
 obj:=λ i h st b hb=>by
  have e:b=it:=by simpa using hb
  subst e;exact ⟨_,st,λ v z=>by
   have z':Data.fields _=Data.cell v:=z;cases z'⟩
 keep:=λ i h h' st k=>k it (by simp) _ st
 item:=by
  intro X hP hw hK hc i pins s σ H E I hf st hg;subst hP hw hK;obtain ⟨f0,f1,f2,f3,f4,f5⟩:=hf it (by simp);have W:=Walks.range (prog:=X.prog) (w:=X.w) (I.ok.hd hc) it lo 1 n;refine W.item i s _ _ hg st λ v h' tk hv st' kk=>?_;obtain ⟨t,rfl⟩:=hv;have I1:Inv X pins σ H { s with heap:=h',toks:=tk }:=I.turned (λ b o hb e=>kk b o (by simpa using hb) e) f0 f1 f3 f4 f5;refine ⟨_,rfl,Oi (s:={ s with heap:=h',toks:=tk }) (n := "range_iterator") st' rfl rfl (by decide) ⟨.int (lo + i),H,I1,⟨t,?_⟩,⟨rfl,rfl⟩,st',λ b hb=>(hf b hb).1⟩⟩;rw [Int.mul_one]
 done:=by
  intro X hP hw hK hc i pins s σ H E I hf st hg;subst hP hw hK;obtain ⟨f0,f1,f2,f3,f4,f5⟩:=hf it (by simp);exact wpAny_pyNext_range_end (I.ok.hd hc) st (by have:n<=i:=hg;omega) λ h' eb=>⟨rfl,I.turned (t':=s.toks) (λ b o hb e=>eb b o hb e) f0 f1 f3 f4 f5⟩
 self:=λ _ _ _ _ _ st h=>wpAny_pyIter_rangeiter st h
section
variable {X:Cx}{tg:Expr}
def Xv {pins:List (Addr×Obj)}{σ:St}{H:Hp}{s:Ak}{R:It->Hp->Prop}{E:Ae->Ak->Prop}{lo hi:Int}{t u v:Tok}{tk:Nat} (I:Inv X pins σ H s) (h1:-(2 ^ 62)<=lo) (h2:lo < 2 ^ 62) (h3:-(2 ^ 62)<=hi) (h4:hi < 2 ^ 62)
  (q:R (GU lo (hi - lo).toNat) H):Aw (Av X.prog X.w) X.A (pyIter (.ref s.heap.objs.size)) (YH X pins σ tg R) E { s with heap:=s.heap.push { cls:=.type "range",data:=.fields #[.int lo t,.int hi u,.int 1 v] },toks:=tk }:=by
 refine wpAny_pyIter_range (IsRange.new ..) (small_one h1 h2 h3 h4) ?_;have I1:Inv X pins σ H { s with heap:=s.heap.push { cls:=.type "range",data:=.fields #[.int lo t,.int hi u,.int 1 v] },toks:=tk }:=I.kept λ b o e=>CI _ e;refine ⟨(s.heap.push { cls:=.type "range",data:=.fields #[.int lo t,.int hi u,.int 1 v] }).objs.size,[(s.heap.push { cls:=.type "range",data:=.fields #[.int lo t,.int hi u,.int 1 v] }).objs.size],_,_,H,rfl,
  I1.kept (t':=tk) λ b o e=>CI _ e,wt _ lo (hi - lo).toNat,?_,λ b hb=>?_,q⟩
 ·have e1:lo + ((0:Nat):Int) * 1=lo:=by simp
  have e2:(((hi - lo).toNat:Nat):Int) - ((0:Nat):Int)=Builtin.Range.rangeSize lo hi 1:=by rw [rangeSize_one];split <;> omega
  show IsRangeIter _ _ (lo + ((0:Nat):Int) * 1) ((((hi - lo).toNat:Nat):Int) - ((0:Nat):Int)) 1;rw [e1,e2];exact DF _ rfl
 ·have e:b=(s.heap.push { cls:=.type "range",data:=.fields #[.int lo t,.int hi u,.int 1 v] }).objs.size:=by simpa using hb
  subst e;exact I1.fpOk (AW _) (I1.hok.fresh (AW _))
def Od (ta:TA):TI:=λ σ H R=>ta σ H λ vs H1=>∃ j:Int,vs=[.int j]/\-(2 ^ 62)<=j/\j < 2 ^ 62/\R (GU 0 j.toNat) H1
def Oe (ta:TA):TI:=λ σ H R=>ta σ H λ vs H1=>∃ i j:Int,vs=[.int i,.int j]/\(-(2 ^ 62)<=i/\i < 2 ^ 62/\-(2 ^ 62)<=j/\j < 2 ^ 62)/\R (GU i (j - i).toNat) H1
theorem vQ {a:Expr}{ta:TA}{p pos:Pos} (hg:Gl X "range") (hm:X.mg "range" = none) (ha:PA X [a] ta) (hs:AN [a] X.env=[(false,eval a X.env)]:=by rfl):PI X tg (.Call (.Name "range" p) [a] [] pos) (Od ta):=by
 intro pins s σ H R I h;refine Call_ (Km I hg hm boot_range (NH (A5 (ha pos pins s σ H _ I h) λ us s1 ⟨vs,H1,I1,r1,q1⟩=>?_) hs rfl));obtain ⟨j,e,q1,q2,q⟩:=q1;subst e;cases r1 with
 | cons r rr=>
  cases rr;obtain ⟨t,rfl⟩:=r;exact call_range_1 (Xv I1 (by omega) (by omega) q1 q2 (by simpa using q))
theorem vR {a b:Expr}{ta:TA}{p pos:Pos} (hg:Gl X "range") (hm:X.mg "range" = none) (ha:PA X [a,b] ta) (hs:AN [a,b] X.env=[(false,eval a X.env),(false,eval b X.env)]:=by rfl) (hs2:AN [b] X.env=[(false,eval b X.env)]:=by rfl):
  PI X tg (.Call (.Name "range" p) [a,b] [] pos) (Oe ta):=by
 intro pins s σ H R I h;refine Call_ (Km I hg hm boot_range (NH (A5 (ha pos pins s σ H _ I h) λ us s1 ⟨vs,H1,I1,r1,q1⟩=>?_) (by rw [hs,hs2]) (by rw [hs2];rfl)));obtain ⟨i,j,e,⟨q1,q2,q3,q4⟩,q⟩:=q1;subst e;cases r1 with
 | cons r rr=>
  cases rr with
  | cons r' rr=>
   cases rr;obtain ⟨t,rfl⟩:=r;obtain ⟨t',rfl⟩:=r';exact call_range_2 (Xv I1 q1 q2 q3 q4 q)
def Eo (wi:TI) (g:TG) (tb:TS):TS:=λ D σ H=>wi σ H λ J H1=>∃ W:Nat->Nat->St->Hp->Prop,(∃ m,W 0 m σ H1)/\∀ i m σ H,W i m σ H ->
 (J.stop i H/\D.nx σ H)\/(J.go i H/\∃ N:St->Hp->Prop,(∀ σ' H',N σ' H'->∃ m',m' < m/\W (i + 1) m' σ' H')/\∀ x H',J.yld i H x H'->g x σ H' λ σ2 H2=>tb { D with nx:=N,ct:=N,bk:=D.nx } σ2 H2)
def L5 (fp:List Addr) (h:Heap):List (Addr×Obj):=fp.filterMap λ b=>(h.get? b).map λ o=>(b,o)
def Nb {fp:List Addr}{h:Heap}{b:Addr}{o:Obj} (hb:b∈fp) (e:h.get? b=some o):(b,o)∈L5 fp h:=jp0.mpr ⟨b,hb,by rw [e];rfl⟩
theorem vx {fp:List Addr}{h:Heap}{p:Addr×Obj} (hp:p∈L5 fp h):p.1∈fp/\h.get? p.1=some p.2:=by
 obtain ⟨b,hb,e⟩:=jp0.mp hp;cases q:h.get? b with
 | none=>rw [q] at e;cases e
 | some o=>
  rw [q] at e;have e':(b,o)=p:=Option.some.inj e;subst e';exact ⟨hb,q⟩
def Inv.pinned {pins:List (Addr×Obj)}{σ:St}{H:Hp}{s:Ak}{fp:List Addr} (I:Inv X pins σ H s) (hf:∀ b∈fp,Cz X pins H b) (ho:∀ b∈fp,∃ o,s.heap.get? b=some o/\∀ v,o.data≠.cell v):Inv X (pins++L5 fp s.heap) σ H s:=
 I.pins_of λ p hp=>(jb2.mp hp).elim (λ z=>I.pin p (Bb _ z)) λ z=>by
  obtain ⟨hb,e⟩:=vx z;obtain ⟨f0,f1,f2,_⟩:=hf p.1 hb;obtain ⟨o,e',d⟩:=ho p.1 hb;rw [e] at e';cases e';exact ⟨e,f0,f1,f2,d⟩
def Inv.unpinned {pins pl:List (Addr×Obj)}{σ:St}{H:Hp}{s:Ak} (I:Inv X (pins++pl) σ H s):Inv X pins σ H s:=I.pins_of λ p hp=>I.pin p (Bb _ (Bq _ hp))
def GH {iter:Expr}{body:List Stmt}{wi:TI}{g:TG}{tb:TS}{pos:Pos} (hp:PassesOwn (Av X.prog X.w) X.A X.env X.xe) (hc:X.calm=true) (hi:PI X tg iter wi) (hg:PG X tg g) (hb:Ex X body tb)
  (hs:∀ x,ND iter X.env x=pure x:=by intro _;rfl):PS X (.For tg iter body [] pos) (Eo wi g tb):=by
 intro pins s σ H D I h;refine wpAny_For (A5 (hi pins s σ H _ I h) λ v s1 h1=>A5 h1 λ itv s2 h2=>?_) hs;obtain ⟨it,fp,tn,J,H2,e,I2,T,st2,f2,W,⟨m0,w0⟩,turn⟩:=h2;subst e;have stat:∀ {H':Hp},(∀ b∈fp,H' b=none)->∀ b∈fp,Cz X pins H' b:=λ hn b hb=>⟨hn b hb,(f2 b hb).2⟩
 refine codeAny_forLoop_any (λ n s'=>∃ i σ' H',Inv X pins σ' H' s'/\tn i s'.heap/\(∀ b∈fp,H' b=none)/\W i n σ' H') ?_ m0 ⟨0,σ,H2,I2,st2,λ b hb=>(f2 b hb).1,w0⟩;rintro n s3 ⟨i,σ3,H3,I3,st3,fr3,w3⟩;rcases turn i n σ3 H3 w3 with ⟨stop,qn⟩ | ⟨go,N,hN,step⟩
 ·refine LP hp (A5 (T.done X rfl rfl rfl hc i pins s3 σ3 H3 X.xe I3 (stat fr3) st3 stop) λ r s4 ⟨hr,I4⟩=>?_);subst hr;exact Qu ⟨σ3,H3,I4,qn⟩
 ·refine LP hp (A5 (T.item X rfl rfl rfl hc i pins s3 σ3 H3 X.xe I3 (stat fr3) st3 go) λ r s4 ⟨u,hr,h4⟩=>?_);subst hr;refine LP hp (A5 h4 λ _ s5 ⟨x,H5,I5,r5,y5,st5,fr5⟩=>?_);have I5':=I5.pinned (stat fr5) (T.obj _ _ st5);refine LP hp (A5 (hg _ s5 σ3 H5 x u _ I5' r5 (step x H5 y5)) λ _ s6 ⟨σ6,H6,I6,q6⟩=>?_);refine LP hp (A5 (hb _ s6 σ6 H6 _ I6 q6) λ f s7 q7=>?_);have again:∀ {σ7:St}{H7:Hp},Inv X (pins++L5 fp s5.heap) σ7 H7 s7->N σ7 H7->∃ m,m < n/\∃ i σ' H',Inv X pins σ' H' s7/\tn i s7.heap/\(∀ b∈fp,H' b=none)/\W i m σ' H':=λ {σ7 H7} I7 n7=>by
   obtain ⟨m',hm,w7⟩:=hN σ7 H7 n7;refine ⟨m',hm,i + 1,σ7,H7,I7.unpinned,T.keep _ _ _ st5 λ b hb o e=>(I7.pin (b,o) (Bb _ (Bb _ (Nb hb e)))).1,λ b hb=>?_,w7⟩;obtain ⟨o,e,d⟩:=T.obj _ _ st5 b hb;exact (I7.pin (b,o) (Bb _ (Bb _ (Nb hb e)))).2.1
  cases f with
  | next=>obtain ⟨σ7,H7,I7,n7⟩:=q7;exact again I7 n7
  | cont=>obtain ⟨σ7,H7,I7,n7⟩:=q7;exact again I7 n7
  | brk=>obtain ⟨σ7,H7,I7,q7⟩:=q7;exact ⟨σ7,H7,I7.unpinned,q7⟩
  | ret v=>obtain ⟨x7,σ7,H7,I7,r7,q7⟩:=q7;exact ⟨x7,σ7,H7,I7.unpinned,r7,q7⟩
end
abbrev R2:=V->V->Hp->VK->Prop
def OpR (X:Cx) (f:Ae->Ae->Sem Ae) (r:R2):Prop:=
 ∀ (pins:List (Addr×Obj)) (s:Ak) (σ:St) (H:Hp) (x y:V) (v u:Ae) (Q:VK),Inv X pins σ H s->RelV x v->RelV y u->r x y H Q ->
  Aw (Av X.prog X.w) X.A (f v u) (EP X pins σ Q) X.xe s
def Tw (X:Cx) (f:Ae->Sem Ae) (r:V->Hp->VK->Prop):Prop:=
 ∀ (pins:List (Addr×Obj)) (s:Ak) (σ:St) (H:Hp) (x:V) (v:Ae) (Q:VK),Inv X pins σ H s->RelV x v->r x H Q ->
  Aw (Av X.prog X.w) X.A (f v) (EP X pins σ Q) X.xe s
def CallR (X:Cx) (f:Ae) (r:List V->Hp->VK->Prop):Prop:=
 ∀ (pins:List (Addr×Obj)) (s:Ak) (σ:St) (H:Hp) (xs:List V) (us:List Ae) (Q:VK),Inv X pins σ H s->Vals xs us->r xs H Q ->
  Aw (Av X.prog X.w) X.A (call f us) (EP X pins σ Q) X.xe s
def En (r:R2) (ta tb:TE):TE:=λ σ H Q=>ta σ H λ x H1=>tb σ H1 λ y H2=>r x y H2 Q
def QN (r:V->Hp->VK->Prop) (ta:TE):TE:=λ σ H Q=>ta σ H λ x H1=>r x H1 Q
def rI (C:Int->Int->Prop) (g:Int->Int->V):R2:=λ x y H Q=>∃ i j,x=.int i/\y=.int j/\C i j/\Q (g i j) H
def Fq (g:Int->Int->V):R2:=λ x y H Q=>∃ i j,x=.int i/\y=.int j/\Q (g i j) H
def rU (g:Int->V):V->Hp->VK->Prop:=λ x H Q=>∃ i,x=.int i/\Q (g i) H
section
variable {X:Cx}{a b c:Expr}{ta tb tc:TE}{pos:Pos}
def JT (ha:PE X a ta) (hb:PE X b tb) {pins:List (Addr×Obj)}{s:Ak}{σ:St}{H:Hp}{R:V->V->Hp->Prop} (I:Inv X pins σ H s)
  (h:ta σ H λ x H1=>tb σ H1 λ y H2=>R x y H2) {Q:Ae->Ak->Prop}{f:Ae->Ae->Sem Ae}
  (hf:∀ v u s2 x y H2,Inv X pins σ H2 s2->RelV x v->RelV y u->R x y H2->Aw (Av X.prog X.w) X.A (f v u) Q X.xe s2):
  Aw (Av X.prog X.w) X.A (eval a X.env) (λ v s₁=>Aw (Av X.prog X.w) X.A (eval b X.env) (λ u s₂=>Aw (Av X.prog X.w) X.A (f v u) Q X.xe s₂) X.xe s₁) X.xe s:=by
 refine A5 (ha pins s σ H _ I h) λ v s1 ⟨x,H1,I1,r1,q1⟩=>?_;refine A5 (hb pins s1 σ H1 _ I1 q1) λ u s2 ⟨y,H2,I2,r2,q2⟩=>?_;exact hf v u s2 x y H2 I2 r1 r2 q2
def Rv {op:Operator}{r:R2} (ho:OpR X (EL op) r) (ha:PE X a ta) (hb:PE X b tb):PE X (.BinOp a op b pos) (En r ta tb):=by
 intro pins s σ H Q I h;exact wpAny_BinOp (JT ha hb I h λ v u s2 x y H2 I2 rx ry q=>ho pins s2 σ H2 x y v u Q I2 rx ry q)
def UR {op:UnaryOp}{r:V->Hp->VK->Prop} (ho:Tw X (unaryOp op) r) (ha:PE X a ta):PE X (.UnaryOp op a pos) (QN r ta):=by
 intro pins s σ H Q I h;exact UnaryOp_ (A5 (ha pins s σ H _ I h) λ v s1 ⟨x,H1,I1,r1,q1⟩=>ho pins s1 σ H1 x v Q I1 r1 q1)
def Mq {f:Ae->Ae->Sem Ae}{C:Int->Int->Prop}{g:Int->Int->Int}
  (rule:∀ (i j:Int) (t u:Tok) (s:Ak) (Q:Ae->Ak->Prop) (E:Ae->Ak->Prop),C i j->Q (.int (g i j) s.toks) { s with toks:=s.toks + 1 }->Aw (Av X.prog X.w) X.A (f (.int i t) (.int j u)) Q E s):
  OpR X f (rI C λ i j=>.int (g i j)):=by
 intro pins s σ H x y v u Q I rx ry h;obtain ⟨i,j,rfl,rfl,hc,q⟩:=h;obtain ⟨t,rfl⟩:=rx;obtain ⟨t',rfl⟩:=ry;exact rule i j t t' s _ _ hc ⟨.int (g i j),H,I.tok _,⟨_,rfl⟩,q⟩
def Sq {f:Ae->Ae->Sem Ae}{g:Int->Int->Int}
  (rule:∀ (i j:Int) (t u:Tok) (s:Ak) (Q:Ae->Ak->Prop) (E:Ae->Ak->Prop),Q (.int (g i j) s.toks) { s with toks:=s.toks + 1 }->Aw (Av X.prog X.w) X.A (f (.int i t) (.int j u)) Q E s):
  OpR X f (Fq λ i j=>.int (g i j)):=by
 intro pins s σ H x y v u Q I rx ry h;obtain ⟨i,j,rfl,rfl,q⟩:=h;obtain ⟨t,rfl⟩:=rx;obtain ⟨t',rfl⟩:=ry;exact rule i j t t' s _ _ ⟨.int (g i j),H,I.tok _,⟨_,rfl⟩,q⟩
def Hu {f:Ae->Ae->Sem Ae}{g:Int->Int->Bool}
  (rule:∀ (i j:Int) (t u:Tok) (s:Ak) (Q:Ae->Ak->Prop) (E:Ae->Ak->Prop),Q (.bool (g i j)) s->Aw (Av X.prog X.w) X.A (f (.int i t) (.int j u)) Q E s):
  OpR X f (Fq λ i j=>.bl (g i j)):=by
 intro pins s σ H x y v u Q I rx ry h;obtain ⟨i,j,rfl,rfl,q⟩:=h;obtain ⟨t,rfl⟩:=rx;obtain ⟨t',rfl⟩:=ry;exact rule i j t t' s _ _ ⟨.bl (g i j),H,I,rfl,q⟩
def ML (i j:Int):Prop:=0<=j/\j<=1000000/\i.natAbs < 2 ^ 64
def CMul (i j:Int):Prop:=(-(2 ^ 64) < i/\i < 2 ^ 64)\/(-(2 ^ 64) < j/\j < 2 ^ 64)
def CMul.ok {i j:Int} (h:CMul i j):IntMulOk i j:=by
 rcases h with ⟨h1,h2⟩ | ⟨h1,h2⟩
 ·exact .of_left (intBits_le_64 h1 h2)
 ·exact .of_right (intBits_le_64 h1 h2)
def qp4:OpR X (EL .Add) (Fq λ i j=>.int (i + j)):=Sq λ _ _ _ _ _ _ _ q=>add_int q
def qpv:OpR X (EL .Mult) (rI CMul λ i j=>.int (i * j)):=Mq λ _ _ _ _ _ _ _ hc q=>mul_int q hc.ok
def q9:OpR X (EL .Mod) (rI (λ _ j=>0 < j) λ i j=>.int (i % j)):=Mq λ i j _ _ _ _ _ hc q=>by
 have h1:(0:Int) < j:=hc;exact mod_int' (by omega) (by rw [Int.fmod_eq_emod_of_nonneg i (by omega)];exact q)
def qB:OpR X (EL .Pow) (rI ML λ i j=>.int (i ^ j.toNat)):=Mq λ _ _ _ _ _ _ _ hc q=>pow_int_small hc.1 hc.2.1 hc.2.2 q
def YX {f:Ae->Sem Ae}{g:Int->Int}
  (rule:∀ (i:Int) (t:Tok) (s:Ak) (Q:Ae->Ak->Prop) (E:Ae->Ak->Prop),Q (.int (g i) s.toks) { s with toks:=s.toks + 1 }->Aw (Av X.prog X.w) X.A (f (.int i t)) Q E s):
  Tw X f (rU λ i=>.int (g i)):=by
 intro pins s σ H x v Q I rx h;obtain ⟨i,rfl,q⟩:=h;obtain ⟨t,rfl⟩:=rx;exact rule i t s _ _ ⟨.int (g i),H,I.tok _,⟨_,rfl⟩,q⟩
def VU:Tw X (unaryOp .USub) (rU λ i=>.int (-i)):=YX λ _ _ _ _ _ q=>neg_int q
end
def QT:V->V->Bool
 | .non,.non=>true | .non,.int _=>true | .int _,.non=>true | .non,.bl _=>true | .bl _,.non=>true | .non,.str _=>true | .str _,.non=>true
 | .int _,.int _=>true | .bl _,.bl _=>true | .str _,.str _=>true | .byt _,.byt _=>true
 | .int _,.str _=>true | .str _,.int _=>true | .bl _,.str _=>true | .str _,.bl _=>true
 | _,_=>false
def Zc:R2:=λ x y H Q=>QT x y=true/\Q (.bl (decide (x=y))) H
def Wd {i j:Int}:decide (V.int i=V.int j)=(i == j):=by
 rw [Gg];simp
def ZZ {i j:Bool}:decide (V.bl i=V.bl j)=(i == j):=by
 rw [Gg];simp
def z6 {i j:Str}:decide (V.str i=V.str j)=(i == j):=by
 rw [Gg];simp
def z5 {i j:Array UInt8}:decide (V.byt i=V.byt j)=(i.toList == j.toList):=by
 rw [Gg];cases i;cases j;simp
section
variable {X:Cx}{a b c:Expr}{ta tb tc:TE}{pos:Pos}
def Ef {pins:List (Addr×Obj)}{σ:St}{H:Hp}{s:Ak}{Q:VK}{k k':Bool} (I:Inv X pins σ H s) (q:Q (.bl k) H) (e:k=k'):EP X pins σ Q (.bool k') s:=by
 subst e;exact ⟨.bl k,H,I,rfl,q⟩
theorem ZA:OpR X (Dy .Eq) Zc:=by
 intro pins s σ H x y v u Q I rx ry h;obtain ⟨hs,q⟩:=h;cases x with
 | non=>
  cases rx;cases y with
  | non=>cases ry;exact PySem.EqNone.eq_none_none (Ef I q (by simp))
  | bl j=>cases ry;exact PySem.EqNone.eq_none_bool (Ef I q (by simp))
  | int j=>obtain ⟨t',rfl⟩:=ry;exact PySem.EqNone.eq_none_int (Ef I q (by simp))
  | str j=>obtain ⟨t',rfl⟩:=ry;exact PySem.EqNone.eq_none_str (Ef I q (by simp))
  | _=>exact absurd (show false=true from hs) Cp
 | bl i=>
  cases rx;cases y with
  | non=>cases ry;exact PySem.EqNone.eq_bool_none (Ef I q (by simp))
  | bl j=>cases ry;exact eq_bool (Ef I q ZZ)
  | str j=>obtain ⟨t',rfl⟩:=ry;exact PySem.EqMixed.eq_bool_str (Ef I q (by simp))
  | _=>exact absurd (show false=true from hs) Cp
 | int i=>
  obtain ⟨t,rfl⟩:=rx;cases y with
  | non=>cases ry;exact PySem.EqNone.eq_int_none (Ef I q (by simp))
  | int j=>obtain ⟨t',rfl⟩:=ry;exact eq_int (Ef I q Wd)
  | str j=>obtain ⟨t',rfl⟩:=ry;exact PySem.EqMixed.eq_int_str (Ef I q (by simp))
  | _=>exact absurd (show false=true from hs) Cp
 | str i=>
  obtain ⟨t,rfl⟩:=rx;cases y with
  | non=>cases ry;exact PySem.EqNone.eq_str_none (Ef I q (by simp))
  | bl j=>cases ry;exact PySem.EqMixed.eq_str_bool (Ef I q (by simp))
  | int j=>obtain ⟨t',rfl⟩:=ry;exact PySem.EqMixed.eq_str_int (Ef I q (by simp))
  | str j=>obtain ⟨t',rfl⟩:=ry;exact eq_str (Ef I q z6)
  | _=>exact absurd (show false=true from hs) Cp
 | byt i=>
  obtain ⟨t,rfl⟩:=rx;cases y with
  | byt j=>obtain ⟨t',rfl⟩:=ry;exact PySem.W.eq_bytes (Ef I q z5)
  | _=>exact absurd (show false=true from hs) Cp
 | _=>cases y <;> exact absurd (show false=true from hs) Cp
def UP:OpR X (Dy .Lt) (Fq λ i j=>.bl (decide (i < j))):=Hu λ _ _ _ _ _ _ _ q=>lt_int q
def UO:OpR X (Dy .LtE) (Fq λ i j=>.bl (decide (i<=j))):=Hu λ _ _ _ _ _ _ _ q=>le_int q
def UY:OpR X (Dy .Gt) (Fq λ i j=>.bl (decide (j < i))):=Hu λ _ _ _ _ _ _ _ q=>gt_int q
def UX:OpR X (Dy .GtE) (Fq λ i j=>.bl (decide (j<=i))):=Hu λ _ _ _ _ _ _ _ q=>ge_int q
def OpR.or {f:Ae->Ae->Sem Ae}{r r':R2} (h:OpR X f r) (h':OpR X f r'):OpR X f (λ x y H Q=>r x y H Q\/r' x y H Q):=by
 intro pins s σ H x y v u Q I rx ry q;rcases q with q | q
 ·exact h pins s σ H x y v u Q I rx ry q
 ·exact h' pins s σ H x y v u Q I rx ry q
def zw {op:E4}{r:R2} (ho:OpR X (Dy op) r) (ha:PE X a ta) (hb:PE X b tb) (hm:Ky op b=false):PE X (.Compare a [op] [b] pos) (En r ta tb):=by
 intro pins s σ H Q I h;exact wpAny_Compare1 (JT ha hb I h λ v u s2 x y H2 I2 rx ry q=>ho pins s2 σ H2 x y v u Q I2 rx ry q) hm
def Vg (t:TE):TT:=λ σ H Q=>t σ H λ x H'=>∃ k,x=.bl k/\Q k H'
def jd {op:E4}{r:R2} (ho:OpR X (Dy op) r) (ha:PE X a ta) (hb:PE X b tb) (hm:Ky op b=false):PT X (.Compare a [op] [b] pos) (Vg (En r ta tb)):=by
 intro pins s σ H Q I h;refine wpAny_isTrue_Compare1 (A5 (ha pins s σ H _ I h) λ v s1 ⟨x,H1,I1,r1,q1⟩=>A5 (hb pins s1 σ H1 _ I1 q1) λ u s2 ⟨y,H2,I2,r2,q2⟩=>
  A5 (ho pins s2 σ H2 x y v u _ I2 r1 r2 q2) λ c s3 ⟨z,H3,I3,r3,k,e,q3⟩=>?_) hm
 subst e;cases r3;exact Ho ⟨H3,I3,q3⟩
def RN (r r':R2) (ta tb tc:TE):TE:=λ σ H Q=>ta σ H λ x H1=>tb σ H1 λ y H2=>r x y H2 λ z H3=>∃ k,z=.bl k /\
 (if k=true then tc σ H3 λ w' H4=>r' y w' H4 Q else Q (.bl false) H3)
theorem jZ {op op':E4}{r r':R2} (ho:OpR X (Dy op) r) (ho':OpR X (Dy op') r') (ha:PE X a ta) (hb:PE X b tb) (hc:PE X c tc)
  (hm:lastMarks [op,op'] [b,c]=false:=by with_unfolding_all rfl):PE X (.Compare a [op,op'] [b,c] pos) (RN r r' ta tb tc):=by
 intro pins s σ H Q I h;refine Compare_chain (A5 (ha pins s σ H _ I h) λ v s1 ⟨x,H1,I1,r1,q1⟩=>chain_link (A5 (hb pins s1 σ H1 _ I1 q1) λ u s2 ⟨y,H2,I2,r2,q2⟩=>
  A5 (ho pins s2 σ H2 x y v u _ I2 r1 r2 q2) λ d s3 ⟨z,H3,I3,r3,k,e,q3⟩=>?_)) hm
 subst e;cases r3;refine Ho ?_;cases k with
 | false=>exact ite_ff ⟨.bl false,H3,I3,rfl,q3⟩
 | true=>exact ite_tt (chain_last (A5 (hc pins s3 σ H3 _ I3 q3) λ w' s4 ⟨z',H4,I4,r4,q4⟩=>ho' pins s4 σ H4 y z' u w' Q I4 r2 r4 q4))
theorem ke {op op':E4}{r r':R2} (ho:OpR X (Dy op) r) (ho':OpR X (Dy op') r') (ha:PE X a ta) (hb:PE X b tb) (hc:PE X c tc)
  (hm:lastMarks [op,op'] [b,c]=false:=by with_unfolding_all rfl):PT X (.Compare a [op,op'] [b,c] pos) (Vg (RN r r' ta tb tc)):=by
 intro pins s σ H Q I h;refine isTrue_chain (A5 (ha pins s σ H _ I h) λ v s1 ⟨x,H1,I1,r1,q1⟩=>test_link (A5 (hb pins s1 σ H1 _ I1 q1) λ u s2 ⟨y,H2,I2,r2,q2⟩=>
  A5 (ho pins s2 σ H2 x y v u _ I2 r1 r2 q2) λ d s3 ⟨z,H3,I3,r3,k,e,q3⟩=>?_)) hm
 subst e;cases r3;refine Ho ?_;cases k with
 | false=>
  obtain ⟨k',e',q'⟩:=q3;cases e';exact ite_ff ⟨H3,I3,q'⟩
 | true=>
  refine ite_tt (test_last (A5 (hc pins s3 σ H3 _ I3 q3) λ w' s4 ⟨z',H4,I4,r4,q4⟩=>A5 (ho' pins s4 σ H4 y z' u w' _ I4 r2 r4 q4) λ d' s5 ⟨z2,H5,I5,r5,k2,e2,q5⟩=>?_));subst e2;cases r5;exact Ho ⟨H5,I5,q5⟩
def Kn:(A2:Nat) < 2 ^ 63:=by rw [LM];decide
theorem Hf {x:V}{us:List Ae} (r:Vals [x] us):∃ u,us=[u]/\RelV x u:=by
 cases r with
 | cons r1 r2=>cases r2;exact ⟨_,rfl,r1⟩
theorem Mo {x y:V}{us:List Ae} (r:Vals [x,y] us):∃ u w',us=[u,w']/\RelV x u/\RelV y w':=by
 cases r with
 | cons r1 r2=>
  cases r2 with
  | cons r3 r4=>cases r4;exact ⟨_,_,rfl,r1,r3⟩
def kY (hc:X.calm=true):CallR X (.builtin "max") (λ xs H Q=>∃ i j,xs=[.int i,.int j]/\Q (.int (if j > i then j else i)) H):=by
 intro pins s σ H xs us Q I r h;obtain ⟨i,j,rfl,q⟩:=h;obtain ⟨u,w',rfl,⟨t,rfl⟩,⟨t',rfl⟩⟩:=Mo r;refine max_two_ints (I.ok.hd hc) λ h' tk k=>⟨_,H,I.kept k,?_,q⟩
 by_cases hj:j > i
 ·rw [if_pos hj,if_pos hj];exact ⟨_,rfl⟩
 ·rw [if_neg hj,if_neg hj];exact ⟨_,rfl⟩
def vc (hc:X.calm=true):CallR X (.builtin "min") (λ xs H Q=>∃ i j,xs=[.int i,.int j]/\Q (.int (if j < i then j else i)) H):=by
 intro pins s σ H xs us Q I r h;obtain ⟨i,j,rfl,q⟩:=h;obtain ⟨u,w',rfl,⟨t,rfl⟩,⟨t',rfl⟩⟩:=Mo r;refine min_two_ints (I.ok.hd hc) λ h' tk k=>⟨_,H,I.kept k,?_,q⟩
 by_cases hj:j < i
 ·rw [if_pos hj,if_pos hj];exact ⟨_,rfl⟩
 ·rw [if_neg hj,if_neg hj];exact ⟨_,rfl⟩
end
structure ObjM (h:Heap) (x dx C:Addr) (mA:Str->Option Ae):Prop where
 obj:h.get? x=some (Qn C dx)
 ns:h.Ns1 dx mA
 ne:dx≠x
def vq {h:Heap}{dx:Addr}{mA:Str->Option Ae} (n:h.Ns1 dx mA):∃ od,h.get? dx=some od/\∀ name,Qi name od=some (mA name):=by
 obtain ⟨o,es,ep,ho,hd,hk,_,hm⟩:=n;refine ⟨o,ho,λ name=>?_⟩;have e:=hm name;unfold nsFind findBy at e;rw [<- Array.find?_toList] at e;unfold Qi;rw [hd];dsimp only;split
 ·rename_i y q;rw [q] at e;exact congrArg some e
 ·rename_i q;rw [q] at e;have a:es.toList.any (·.refKey)=false:=by
   rw [List.any_eq_false];intro y hy;obtain ⟨z,t,hkey⟩:=hk y (Array.mem_toList_iff.mp hy);simp [DictEntry.refKey,hkey]
  have a':¬ es.toList.any (·.refKey)=true:=by rw [a];exact Cp
  rw [if_neg a'];exact congrArg some e
def ObjM.look {h:Heap}{x dx C:Addr}{mA:Str->Option Ae} (I:ObjM h x dx C mA):∃ od,PySem.W.InstAt h x (Qn C dx) C (some od)/\∀ name,Qi name od=some (mA name):=
 let ⟨od,ho,hl⟩:=vq I.ns
 ⟨od,⟨I.obj,rfl,rfl,ho⟩,hl⟩
section
variable {prog:AD}{w:AB}{A:Bc}{E:Ae->Ak->Prop}{s:Ak}{K:PySem.W.Frag}{x dx C f:Addr}{mA:Str->Option Ae}{name:Str}{v:Ae}
end
section
variable {P:AD}{w:AB}{H H':Hp}{h h':Heap}{a C dx:Addr}{fs fs':List (Str×V)}
def zb (hok:HOk P w H h) (e:H a=some (.ins C dx fs)):∃ mA,ObjM h a dx C mA/\(∀ f,RelO (fs.lookup f) (mA f))/\PySem.Within mA (fs.map (·.1))/\fs.length<=1000/\H dx=some (.own a):=by
 obtain ⟨d,z,ne,ob,mA,n,r,q⟩:=(show zwv P w H h a (.ins C dx fs) from hok a _ e)
 exact ⟨mA,⟨ob,n,ne⟩,r,q,z,d⟩
end
structure Cls (K:PySem.W.Frag) (C:Addr):Prop where
 pg:PySem.W.plainGet K C Str.empty=true
 hd:PySem.W.hasDictIn K C=true
 po:PySem.W.plainOver K C=true
 sa:El K (.ref C) "__setattr__" = some (some (.builtin "object.__setattr__"))
def Cls.get {K:PySem.W.Frag}{C:Addr} (c:Cls K C) (f:Str):PySem.W.plainGet K C f=true:=c.pg
structure Con (K:PySem.W.Frag) (C:Addr) (f:Str) (v:V) (u:Ae):Prop where
 at_:El K (.ref C) f=some (some u)
 rel:RelV v u
 get:PySem.W.specialIn K u "__get__" = some none
 cp:PySem.W.copiedNames.contains f=false
structure Meth (K:PySem.W.Frag) (C:Addr) (m:Str) (f:Addr):Prop where
 at_:El K (.ref C) m=some (some (.ref f))
 fn:PySem.W.isFn K (.ref f)=true
 kp:Jq K (.ref f)=true
section
variable {X:Cx}{pins:List (Addr×Obj)}{σ:St}{H:Hp}{s:Ak}{a C dx:Addr}{fs:List (Str×V)}{f:Str}{v:V}{A:Bc}{E:Ae->Ak->Prop}
end
section
variable {X:Cx}{o e value:Expr}{f:Str}{pos pos' tpos:Pos}{ta tv:TE}
end
section
variable {X:Cx}{pins:List (Addr×Obj)}{σ:St}{H:Hp}{s:Ak}{A:Bc}{E:Ae->Ak->Prop}{Q:Ae->Ak->Prop}{c:Ae}{b:Bool}
inductive TyOf (K:PySem.W.Frag) (H:Hp):V->Ae->Prop where
 | non:TyOf K H .non (.type "NoneType")
 | bl (x:Bool):TyOf K H (.bl x) (.type "bool")
 | int (i:Int):TyOf K H (.int i) (.type "int")
 | str (x:Str):TyOf K H (.str x) (.type "str")
 | flt (x:UInt64):TyOf K H (.flt x) (.type "float")
 | lst {a:Addr}{xs:List V} (e:H a=some (.lst xs)):TyOf K H (.ref a) (.type "list")
 | frz {a:Addr}{o:Obj}{xs:List V} (e:H a=some (.frz o (.lst xs))):TyOf K H (.ref a) (.type "list")
 | tup {a:Addr}{xs:List V} (e:H a=some (.tup xs)):TyOf K H (.ref a) (.type "tuple")
 | dK {a:Addr}{kvs:List (Bh×V)} (e:H a=some (.dK kvs)):TyOf K H (.ref a) (.type "dict")
 | dT {a:Addr}{kvs:List (List Bh×V)} (e:H a=some (.dT kvs)):TyOf K H (.ref a) (.type "dict")
 | ins {a C dx:Addr}{fs:List (Str×V)} (e:H a=some (.ins C dx fs)) (cl:Cls K C) (ha:El K (.ref C) "__class__" = some (some (.builtin "object.__class__")))
   (hn:PySem.W.specialIn K (.builtin "object.__class__") "__get__" = some (some (.builtin "getset_descriptor.__get__"))) (htk:PySem.W.takesIn K (.builtin "object.__class__")=some true)
   (hm:GJ K C (.type "object")=some true):TyOf K H (.ref a) (.ref C)
theorem vD {x:V}{u t:Ae} (I:Inv X pins σ H s) (rx:RelV x u) (ty:TyOf X.K H x t) (e:EM X.K t c=some b) (h:∀ tk,Q (.bool b) { s with toks:=tk }):
  Aw (Av X.prog X.w) A (call (.builtin "isinstance") [u,c]) Q E s:=by
 cases ty with
 | non=>cases (show u=Value.none from rx);exact EN Qx I.kIn True.intro e (λ z=>nomatch z) h
 | bl y=>cases (show u=Value.bool y from rx);exact EN PySem.W.kitx_bool I.kIn True.intro e (λ z=>nomatch z) h
 | int i=>obtain ⟨t,q⟩:=(show ∃ t,u=Value.int i t from rx);cases q;exact EN PySem.W.kitx_int I.kIn True.intro e (λ z=>nomatch z) h
 | str y=>obtain ⟨t,q⟩:=(show ∃ t,u=Value.str y t from rx);cases q;exact EN PySem.W.kitx_str I.kIn True.intro e (λ z=>nomatch z) h
 | flt y=>obtain ⟨t,q⟩:=(show ∃ t,u=Value.float y t from rx);cases q;exact EN PySem.W.kitx_float I.kIn True.intro e (λ z=>nomatch z) h
 | @lst a xs ea=>
  cases (show u=Value.ref a from rx);obtain ⟨_,_,n,_,h1⟩:=(show zwv X.prog X.w H s.heap a (.lst xs) from I.hok a _ ea)
  exact EN PySem.W.kitx_list I.kIn ⟨_,h1,rfl⟩ e (λ z=>nomatch z) h
 | @frz a ob xs ea=>
  cases (show u=Value.ref a from rx);obtain ⟨_,_,_,n,_,h1⟩:=(show zwv X.prog X.w H s.heap a (.frz ob (.lst xs)) from I.hok a _ ea)
  exact EN PySem.W.kitx_list I.kIn ⟨_,h1,rfl⟩ e (λ z=>nomatch z) h
 | @tup a xs ea=>
  cases (show u=Value.ref a from rx);obtain ⟨_,_,_,p⟩:=(show zwv X.prog X.w H s.heap a (.tup xs) from I.hok a _ ea)
  obtain ⟨o,h1,h2,_⟩:=p;exact EN PySem.W.kitx_tuple I.kIn ⟨o,h1,h2⟩ e (λ z=>nomatch z) h
 | @dK a kvs ea=>
  cases (show u=Value.ref a from rx);obtain ⟨_,_,vs,_,p⟩:=(show zwv X.prog X.w H s.heap a (.dK kvs) from I.hok a _ ea)
  obtain ⟨o,es,ep,h1,h2,_⟩:=p;exact EN PySem.W.kitx_dict I.kIn ⟨o,h1,h2.1⟩ e (λ z=>nomatch z) h
 | @dT a kvs ea=>
  cases (show u=Value.ref a from rx);obtain ⟨_,_,xs,_,o,es,ep,h1,h2,_⟩:=(show zwv X.prog X.w H s.heap a (.dT kvs) from I.hok a _ ea)
  exact EN PySem.W.kitx_dict I.kIn ⟨o,h1,h2.1⟩ e (λ z=>nomatch z) h
 | @ins a C dx fs ea cl ha hn htk hm=>
  cases (show u=Value.ref a from rx);obtain ⟨mA,O,_⟩:=zb I.hok ea;obtain ⟨od,J,_⟩:=O.look;exact EN (PySem.W.kitx_own (cl.get _) cl.hd ha hn htk hm) I.kIn J e (λ z=>nomatch z) h
end
structure Room (k:Nat) (A:Bc):Prop where
 hd:A.handled=none
 dp:A.depth + 3 * k + 5 < recursionLimit
 un:A.units + 16 * k + 200 < C6
 gd:A.guards=some []
def Room.mono {j k:Nat}{A:Bc} (r:Room k A) (h:j<=k):Room j A:=⟨r.hd,by have:=r.dp;omega,by have:=r.un;omega,r.gd⟩
def Room.deeper {k:Nat}{A:Bc} (r:Room (k + 1) A) (env:Env):Room k (A.deeper env):=
 ⟨r.hd,by have:=r.dp;show A.depth + 1 + 3 * k + 5 < _;omega,by have:=r.un;show A.units + 3 + 16 * k + 200 < _;omega,r.gd⟩
def Room.depth {k:Nat}{A:Bc} (r:Room k A):A.depth < recursionLimit:=by have:=r.dp;omega
def Room.units {k:Nat}{A:Bc} (r:Room k A):A.units + 64 < C6:=by have:=r.un;omega
def D0:TA:=λ _ H Q=>Q [] H
def GC (ta:TE) (tr:TA):TA:=λ σ H Q=>ta σ H λ x H1=>tr σ H1 λ xs H2=>Q (x::xs) H2
section
variable {X:Cx}{e:Expr}{es:List Expr}{te:TE}{t:TA}{pos:Pos}
def GG:PA X [] D0:=λ _ _ _ _ H Q I h=>Calls.spliced_nil ⟨[],H,I,.nil,h⟩
def Eh (ha:PE X e te) (hr:PA X es t) (hs:AN (e::es) X.env=(false,eval e X.env)::AN es X.env:=by rfl):PA X (e::es) (GC te t):=by
 intro pos pins s σ H Q I h;rw [hs];show Aw _ _ (spliced ((false,eval e X.env)::DD pos (AN es X.env))) _ _ s;refine Calls.spliced_cons (A5 (ha pins s σ H _ I h) λ u s1 ⟨x,H1,I1,r1,q1⟩=>?_);exact A5 (hr pos pins s1 σ H1 _ I1 q1) λ us s2 ⟨xs,H2,I2,r2,q2⟩=>⟨x::xs,H2,I2,.cons r1 r2,q2⟩
def QO (t:TA):TE:=λ σ H Q=>t σ H λ xs H1=>xs.length<=A2/\∀ p,H1 p=none->Q (.ref p) (As H1 p (.tup xs))
def Ju (t:TA):TE:=λ σ H Q=>t σ H λ xs H1=>xs.length<=A2/\∀ p,H1 p=none->Q (.ref p) (As H1 p (.lst xs))
def VA {x1} (h:PA X es t):PE X (.Tuple es x1 pos) (QO t):=by
 intro pins s σ H Q I hq;refine wpAny_Tuple_spliced (A5 (h pos pins s σ H _ I hq) λ us s1 ⟨xs,H1,I1,r,z,q⟩=>⟨by rw [<- r.length];exact z,?_⟩);have hf:H1 s1.heap.objs.size=none:=I1.hok.fresh (AW _);refine ⟨.ref s1.heap.objs.size,As H1 s1.heap.objs.size (.tup xs),I1.laid (t':=s1.toks) (λ b u e=>CI _ e) (AW _) ?_,rfl,q _ hf⟩;exact ⟨z,us,r,⟨_,DF _ rfl,rfl,_,rfl⟩⟩
def V8 (h:PA X es t):PE X (.List es pos) (Ju t):=by
 intro pins s σ H Q I hq;refine wpAny_List_spliced (A5 (h pos pins s σ H _ I hq) λ us s1 ⟨xs,H1,I1,r,z,q⟩=>⟨by rw [<- r.length];exact z,?_⟩);have hf:H1 s1.heap.objs.size=none:=I1.hok.fresh (AW _);refine ⟨.ref s1.heap.objs.size,As H1 s1.heap.objs.size (.lst xs),I1.laid (t':=s1.toks) (λ b u e=>CI _ e) (AW _) ?_,rfl,q _ hf⟩;exact ⟨z,us,0,r,DF _ rfl⟩
end
abbrev Sp:=List V->Hp->VK->XK->Prop
abbrev FA:=List Env->Hp->Ak->XK->Ae->Ak->Prop
structure Env0 (P:AD) (w:AB) (K:PySem.W.Frag) (mg:Str->Option Ae) (base:Heap) (A:Bc) (outer:List Env) (s:Ak) (H:Hp):Prop where
 frames:A.frames=some outer
 mod:Mod K mg base
 bs:∀ b o,base.get? b=some o->s.heap.get? b=some o/\H b=none
 bsz:base.objs.size<=s.heap.objs.size
 funs:s.heap.FunFrames base outer
 frf:∀ b∈Gj outer,H b=none
 hok:HOk P w H s.heap
 bare:Hk s.gens
def CE (outer:List Env) (P:AD) (w:AB) (H:Hp) (s:Ak) (Q:VK) (u:Ae) (s':Ak):Prop:=
 ∃ v H',s'.os=s.os/\Hk s'.gens/\Un (Gj outer) [] H H' s.heap s'.heap/\HOk P w H' s'.heap/\RelV v u/\Q v H'
def CR (CX:FA) (outer:List Env) (P:AD) (w:AB) (H:Hp) (s:Ak) (Q:VK) (E:XK) (r:Result) (s':Ak):Prop:=
 match r with
 | .ok (.ret u)=>CE outer P w H s Q u s'
 | .ok _=>False
 | .error e=>CX outer H s E e s'
structure FnOk (P:AD) (w:AB) (K:PySem.W.Frag) (mg:Str->Option Ae) (base:Heap) (CX:FA) (k:Nat) (f:Addr) (fd:Dd) (ps:List Str) (sp:Sp):Prop where
 len:∀ vs H Q E,sp vs H Q E->vs.length=ps.length
 run:∀ (A:Bc) (outer:List Env) (s:Ak) (H:Hp) (args:Args) (us:List Ae) (vs:List V) (Q:VK) (E:XK),Room k A->Env0 P w K mg base A outer s H->BindsTo s fd args (ps.zip us)->Vals vs us->sp vs H Q E ->
  Iu (Av P w) A (.call (.ref f) args) (CR CX outer P w H s Q E) s
def FnOk.mono {P:AD}{w:AB}{K:PySem.W.Frag}{mg:Str->Option Ae}{base:Heap}{CX:FA}{j k:Nat}{f:Addr}{fd:Dd}{ps:List Str}{sp:Sp} (F:FnOk P w K mg base CX j f fd ps sp) (h:j<=k):
  FnOk P w K mg base CX k f fd ps sp:=⟨F.len,λ A outer s H args us vs Q E hr=>F.run A outer s H args us vs Q E (hr.mono h)⟩
section
variable {X:Cx}{pins:List (Addr×Obj)}{σ:St}{H:Hp}{s s':Ak}
def Inv.env0 (I:Inv X pins σ H s):Env0 X.prog X.w X.K X.mg X.base X.A X.stack s H:=
 ⟨I.ok.frames,I.ok.mod,I.bs,CA I.ok.bsz I.sz,I.stack,I.stkFree,I.hok,I.bare⟩
def Inv.after {Q:VK}{u:Ae} (I:Inv X pins σ H s) (h:CE X.stack X.prog X.w H s Q u s'):EP X pins σ Q u s':=by
 obtain ⟨v,H',os,bare,un,hok,r,q⟩:=h;obtain ⟨hh,g,d,t,os'⟩:=s';obtain rfl:os'=s.os:=os;exact ⟨v,H',I.call (h':=hh) (g':=g) (d':=d) (t':=t) (ch:=[]) un hok bare (λ b z=>absurd z (by simp)),r,q⟩
end
def qaj (K:PySem.W.Frag) (fd:Dd) (ps:List Str) (ds:List Ae):Prop:=
 ∀ (s:Ak) (us:List Ae),K.In s.heap->(us++ds).length=ps.length->BindsTo s fd ⟨us,[]⟩ (ps.zip (us++ds))
def qaj.all {K:PySem.W.Frag}{fd:Dd}{ps:List Str} (h:∀ us:List Ae,us.length=ps.length->bindArgs fd ⟨us,[]⟩=pure (ps.zip us)):qaj K fd ps []:=λ s us _ hl=>by
 rw [JF] at hl ⊢;exact .of_eq (h us hl)
section
variable {X:Cx}{CX:FA}{k:Nat}{f C:Addr}{fd:Dd}{ps:List Str}{sp:Sp}{dvs:List V}{ds:List Ae}{E:XK}{x m:Str}{p pos apos:Pos}{e o:Expr}{es:List Expr}{ta:TE}{t:TA}
structure Mk (K:PySem.W.Frag) (C f:Addr):Prop where
 makes:PySem.W.makesIn K C=true
 init:El K (.ref C) "__init__" = some (some (.ref f))
 fn:PySem.W.isFn K (.ref f)=true
 kp:Jq K (.ref C)=true
end
section
variable {X:Cx}{CX:FA}{k:Nat}{f C:Addr}{fd:Dd}{ps ks:List Str}{sp:Sp}{E:XK}{x m:Str}{p pos apos kpos:Pos}{e o:Expr}{es:List Expr}{kws:List Keyword}{te ta:TE}{t tk:TA}{nm:Option Str}
structure KBinds (K:PySem.W.Frag) (fd:Dd) (ps ks:List Str) (g:List Ae->List Ae->List Ae) (gV:List V->List V->List V):Prop where
 to:∀ (s:Ak) (us ws:List Ae),K.In s.heap->(g us ws).length=ps.length->BindsTo s fd ⟨us,ks.zip ws⟩ (ps.zip (g us ws))
 rel:∀ {vs:List V}{us:List Ae}{zs:List V}{ws:List Ae},Vals vs us->Vals zs ws->Vals (gV vs zs) (g us ws)
variable {g:List Ae->List Ae->List Ae}{gV:List V->List V->List V}
end
structure FnScope (N P:List Str) (sc:Bz):Prop where
 kind:sc.kind=.function:=by rfl
 co:sc.isCoroutine=false:=by rfl
 gen:sc.isGenerator=false:=by rfl
 nd:N.Nodup:=by decide +kernel
 pre:N.take P.length=P:=by rfl
 par:∀ x∈P,sc.names.lookup x=some .local\/sc.names.lookup x=some .cell:=by decide +kernel
 nofree:∀ y∈sc.names,y.2≠.free:=by decide +kernel
theorem XO {kindOf:Str->Option Dx}{x:Str}:∀ {binds:List (Str×Ae)}{m:Str->Option Ae},(∀ v,(x,v)∉binds)->bindL kindOf binds m x=m x
 | [],_,_=>rfl
 | (n,v)::r,m,h=>by
  unfold bindL;rw [XO λ w hw=>h w (A8 _ hw)];split
  ·have:x≠n:=by rintro rfl;exact h v A9
   simp [this]
  ·rfl
theorem XJ {kindOf:Str->Option Dx}{x:Str}:∀ {binds:List (Str×Ae)}{m:Str->Option Ae},(∀ v,(x,v)∉binds)->bindC kindOf binds m x=m x
 | [],_,_=>rfl
 | (n,v)::r,m,h=>by
  unfold bindC;rw [XJ λ w hw=>h w (A8 _ hw)];split
  ·rfl
  ·have:x≠n:=by rintro rfl;exact h v A9
   simp [this]
theorem XM {kindOf:Str->Option Dx}{x:Str}{v:Ae}:∀ {P:List Str}{vs:List Ae}{i:Nat}{m:Str->Option Ae},P.Nodup->P[i]?=some x->vs[i]?=some v->kindOf x=some .local ->
  bindL kindOf (P.zip vs) m x=some v
 | [],_,_,_,_,h,_,_=>by simp at h
 | _::_,[],_,_,_,_,h,_=>by simp at h
 | p::P,w::vs,0,m,nd,h1,h2,hk=>by
  simp at h1 h2;subst h1;subst h2;show bindL kindOf ((p,w)::P.zip vs) m p=_;unfold bindL;rw [XO λ v hv=>(jh2.mp nd).1 (IH hv).1,if_pos hk];simp
 | p::P,w::vs,i + 1,m,nd,h1,h2,hk=>by
  show bindL kindOf ((p,w)::P.zip vs) m x=_;unfold bindL;exact XM (i:=i) (jh2.mp nd).2 (by simpa using h1) (by simpa using h2) hk
theorem XI {kindOf:Str->Option Dx}{x:Str}{v:Ae}:∀ {P:List Str}{vs:List Ae}{i:Nat}{m:Str->Option Ae},P.Nodup->P[i]?=some x->vs[i]?=some v->kindOf x≠some .local ->
  bindC kindOf (P.zip vs) m x=some v
 | [],_,_,_,_,h,_,_=>by simp at h
 | _::_,[],_,_,_,_,h,_=>by simp at h
 | p::P,w::vs,0,m,nd,h1,h2,hk=>by
  simp at h1 h2;subst h1;subst h2;show bindC kindOf ((p,w)::P.zip vs) m p=_;unfold bindC;rw [XJ λ v hv=>(jh2.mp nd).1 (IH hv).1,if_neg hk];simp
 | p::P,w::vs,i + 1,m,nd,h1,h2,hk=>by
  show bindC kindOf ((p,w)::P.zip vs) m x=_;unfold bindC;exact XI (i:=i) (jh2.mp nd).2 (by simpa using h1) (by simpa using h2) hk
def start (N:List Str) (vs:List V):St:=vs.map some++Bg (N.length - vs.length) none
def CT (CX:FA) (P:AD) (w:AB) (K:PySem.W.Frag) (mg:Str->Option Ae) (base:Heap) (N:List Str) (qual:Str) (scope:Bz) (f:Addr) (cd:Ae) (A:Bc) (outer:List Env) (s:Ak) (H:Hp) (E:XK):Cx where
 prog:=P
 w:=w
 K:=K
 mg:=mg
 base:=base
 A:=A.deeper (Hj qual scope s.heap.objs.size f cd)
 N:=N
 s₀:=s
 H₀:=H
 env:=Hj qual scope s.heap.objs.size f cd
 outer:=outer
 stack:=Hj qual scope s.heap.objs.size f cd::outer
 ex:=[]
 calm:=true
 fn:=λ _=>true
 pn:=[]
 xe:=λ e s'=>Aw (Av P w) (A.deeper (Hj qual scope s.heap.objs.size f cd)) (leaving (Hj qual scope s.heap.objs.size f cd) e) (λ _ s''=>CX outer H s E e s'') (λ e' s''=>CX outer H s E e' s'') s'
def WV {sc:Bz}{n:Nat}{x:Str} (h:sc.names.lookup x=some .cell):∃ c,(Dm n sc.names []).lookup x=some c:=by
 have q:=PySem.W.cellsFrom_some sc.names n [] (.inl h);exact jm7.mp q
def vA {CX:FA}{P:AD}{w:AB}{K:PySem.W.Frag}{mg:Str->Option Ae}{base:Heap}{N ps:List Str}{qual:Str}{scope:Bz}{f:Addr}{cd:Ae}{A:Bc}{outer:List Env}{s s1:Ak}{H:Hp}{E:XK}{us:List Ae}{vs:List V}
  (S:FnScope N ps scope) (hd:A.handled=none) (e0:Env0 P w K mg base A outer s H) (hl:vs.length=ps.length) (r:Vals vs us)
  (x:InCallC s s.heap.objs.size (bindL (Hj qual scope s.heap.objs.size f cd).kindOf (ps.zip us) λ _=>none) (Dm (s.heap.objs.size + 1) scope.names []) (bindC (Hj qual scope s.heap.objs.size f cd).kindOf (ps.zip us) λ _=>none) s1):
  Inv (CT CX P w K mg base N qual scope f cd A outer s H E) [] (start N vs) H s1:=by
 have hpl:ps.length<=N.length:=by have:=congrArg SD S.pre;rw [Ew] at this;omega
 obtain ⟨h1,tk,rfl,hk⟩:=x.done;have noA:∀ b:Addr,b∉(CT CX P w K mg base N qual scope f cd A outer s H E).ex:=λ b z=>absurd (show b∈([]:List Addr) from z) (by simp);refine ⟨⟨e0.mod,S.kind,rfl,rfl,AW _,λ y z c h1 h2=>?_,λ y hy=>?_,λ y c _ h=>?_,λ _=>hd,Around.frames_deeper e0.frames,.inr ⟨rfl,rfl⟩,λ b z=>absurd z (noA b),e0.bs,e0.bsz,λ b _ _=>noA b,λ b z=>absurd z (noA b),e0.funs,e0.frf⟩,
  rfl,e0.bare,Un.kept hk,⟨_,x.toInCall.ns,λ i y v h1 h2 h3=>?_⟩,λ y c h=>⟨_,x.cell y c h⟩,e0.hok.fresh (AW _),λ y c h=>?_,λ p hp=>absurd (show p∈([]:List (Addr×Obj)) from hp) (by simp),e0.hok.kept hk,?_⟩
 ·exact name_of_addr x.apart (LR h1) (LR h2)
 ·have hy:scope.names.lookup y=some .cell\/scope.names.lookup y=some .free:=hy;rcases hy with hy | hy
  ·exact WV hy
  ·exact absurd rfl (S.nofree _ (LR hy))
 ·exact OG (x.above y c (LR h))
 ·have hi:i < vs.length:=by
   unfold start at h2;by_cases hi:i < vs.length
   ·exact hi
   ·rw [EX (by simpa using hi)] at h2;rw [HC] at h2;split at h2 <;> cases h2
  have ha:vs[i]?=some v:=by
   unfold start at h2;rw [DU (by simpa using hi),C8] at h2;cases e:vs[i]? with
   | none=>rw [e] at h2;cases h2
   | some a=>rw [e] at h2;cases h2;rfl
  obtain ⟨u,hu,rv⟩:=r.get ha;have hp:ps[i]?=some y:=by
   rw [<- S.pre,M5 (by omega)];exact h1
  have ndP:ps.Nodup:=by rw [<- S.pre];exact S.nd.sublist (List.take_sublist _ _)
  refine ⟨u,rv,?_⟩;rcases S.par y (List.mem_of_getElem? hp) with k | k
  ·exact .inl ⟨k,XM ndP hp hu k⟩
  ·obtain ⟨c,e⟩:=WV (n:=s.heap.objs.size + 1) k;refine .inr ⟨.inl k,c,e,?_⟩;have q:=x.cell y c e;rw [XI ndP hp hu (by show scope.names.lookup y≠_;rw [k];decide)] at q;exact q
 ·exact e0.hok.fresh (OG (x.above y c (LR h)))
 ·unfold start;show _=N.length;rw [BL,Ax,IS];omega
theorem Zz {CX:FA}{P:AD}{w:AB}{K:PySem.W.Frag}{mg:Str->Option Ae}{base:Heap}{k:Nat}{f:Addr}{name qual:Str}{params:Arguments}{body:List Stmt}{scope:Bz}{dV kV doc pm cdv ct oc:Ae}{an od:Option Addr}
  {osl:Array (Option Ae)}{N ps:List Str}{sp:Sp} (lk:K.lookup f=some ⟨oc,od,.func (Kx name qual params body scope dV kV doc pm an cdv ct),osl⟩) (hcd:Qh K cdv qual=true) (S:FnScope N ps scope)
  (len:∀ vs H Q E,sp vs H Q E->vs.length=ps.length)
  (hbody:∀ (A:Bc) (outer:List Env) (s:Ak) (H:Hp) (vs:List V) (Q:VK) (E:XK),Room k (A.deeper (Hj qual scope s.heap.objs.size f cdv))->sp vs H Q E ->
   ∃ t,Ex (CT CX P w K mg base N qual scope f cdv A outer s H E) body t/\t { nx:=λ _ H'=>Q .non H',rt:=Q } (start N vs) H):
  FnOk P w K mg base CX (k + 1) f (Kx name qual params body scope dV kV doc pm an cdv ct) ps sp:=by
 refine ⟨len,λ A outer s H args us vs Q E hr e0 hb r hsp=>?_⟩;have hl:=len _ _ _ _ hsp;have KX:K.In s.heap:=e0.mod.kin.keeps λ b o e=>(e0.bs b o e).1;have lim:s.heap.NoLimit:=e0.mod.nolimit.keeps λ b o e=>(e0.bs b o e).1;have hkind:∀ y∈ps.zip us,scope.names.lookup y.1=some .local\/(scope.names.lookup y.1=some .cell/\((Dm (s.heap.objs.size + 1) scope.names []).lookup y.1).isSome=true):=λ ⟨n,v⟩ hy=>by
  rcases S.par n (IH hy).1 with q | q
  ·exact .inl q
  ·exact .inr ⟨q,PySem.W.cellsFrom_some _ _ _ (.inl q)⟩
 refine codeAny_call_function hr.depth (KX _ _ lk) rfl S.co S.gen rfl (PySem.W.codeRec_of KX hcd) (hb _ _ _ _ ?_);refine wpAny_newFunctionEnv_cells S.kind hkind λ env he s1 x=>?_;subst he;refine ⟨lim.keeps x.toInCall.keep,codeAny_func ?_⟩;obtain ⟨t,ht,hq⟩:=hbody A outer s H vs Q E (hr.deeper _) hsp;have I:Inv (CT CX P w K mg base N qual scope f cdv A outer s H E) [] (start N vs) H s1:=vA S hr.hd e0 hl r x;refine Fp (ht [] s1 (start N vs) H _ I hq) (λ fl s' hs=>?_) λ e s' hs=>hs;have fin:∀ {σ':St}{H':Hp}{v:V}{u:Ae},Inv (CT CX P w K mg base N qual scope f cdv A outer s H E) [] σ' H' s'->RelV v u->Q v H'->CE outer P w H s Q u s':=
  λ {σ' H' v u} J rv q=>⟨v,H',J.os,J.bare,J.base,J.hok,rv,q⟩
 cases fl with
 | ret u=>
  obtain ⟨v,σ',H',J,rv,q⟩:=hs;exact fin J rv q
 | next=>
  obtain ⟨σ',H',J,q⟩:=hs;exact fin (v:=V.non) (u:=Value.none) J rfl q
 | brk=>
  obtain ⟨_,_,_,q⟩:=hs;exact E5 q
 | cont=>
  obtain ⟨_,_,_,q⟩:=hs;exact E5 q
section
variable {X:Cx}{x:Str}{p pos:Pos}{e:Expr}{es:List Expr}{t:TA}{id T:String}{r:List V->Hp->VK->Prop}
def NL (r:List V->Hp->VK->Prop) (t:TA):TE:=λ σ H Q=>t σ H λ vs H1=>r vs H1 Q
def GZ (hc:CallR X (.builtin id) r) (hg:Gl X x) (hm:X.mg x=none) (hv:Jp x=some (.builtin id)) (ha:PA X (e::es) t) (hn:x ≠ "__name__" := by decide) (hdb:(x == ("__debug__" : Str))=false:=by decide)
  (he:AN (e::es) X.env=(false,eval e X.env)::AN es X.env:=by rfl) (hpl:(DD pos (AN es X.env)).any (·.1)=false:=by rfl):PE X (.Call (.Name x p) (e::es) [] pos) (NL r t):=by
 intro pins s σ H Q I h;refine Q1 (Km I hg hm hv ?_ hn hdb);exact PyProof.Rows.callWith_builtin1 (A5 (ha pos pins s σ H _ I h) λ us s1 ⟨vs,H1,I1,r1,q1⟩=>hc pins s1 σ H1 vs us Q I1 r1 q1) he hpl
def vP (hc:CallR X (.type T) r) (hg:Gl X x) (hm:X.mg x=none) (hv:Jp x=some (.type T)) (ha:PA X (e::es) t) (hn:x ≠ "__name__" := by decide) (hdb:(x == ("__debug__" : Str))=false:=by decide)
  (he:AN (e::es) X.env=(false,eval e X.env)::AN es X.env:=by rfl) (hpl:(DD pos (AN es X.env)).any (·.1)=false:=by rfl):PE X (.Call (.Name x p) (e::es) [] pos) (NL r t):=by
 intro pins s σ H Q I h;refine Q1 (Km I hg hm hv ?_ hn hdb);exact NH (A5 (ha pos pins s σ H _ I h) λ us s1 ⟨vs,H1,I1,r1,q1⟩=>hc pins s1 σ H1 vs us Q I1 r1 q1) he hpl
end
end L2
namespace HT
open PySem PyProof.Rows
section
open PySem.SeqAt
open PySem.AutoSeq1 (wpAny_loadPart')
open PySem.MeetsSeq PySem.MeetsSeq2 PySem.MeetsSeq3
end
section
variable {prog:AD}{w:AB}{A:Bc}{E:Ae->Ak->Prop}{s:Ak}
def cat_tup {t b:Addr}{vs ws:List Ae}{Q:Ae->Ak->Prop} (ht:IsTup s.heap t vs.toArray) (hb:IsTup s.heap b ws.toArray) (hv:vs≠[])
  (h1:ws=[]->Q (.ref t) s) (h2:ws≠[]->Q (.ref s.heap.objs.size) { s with heap:=s.heap.push { cls:=.type "tuple",data:=.seq (vs++ws).toArray } })
  (hsz:vs.length + ws.length<=A2):Aw (Av prog w) A (EL .Add (.ref t) (.ref b)) Q E s:=by
 obtain ⟨⟨cls,dd,data,sl⟩,ho,hc,n,hd⟩:=id ht;obtain ⟨⟨cls2,dd2,data2,sl2⟩,ho2,hc2,n2,hd2⟩:=id hb;simp only at hc hd hc2 hd2;subst hc hd hc2 hd2;have e:vs.toArray++ws.toArray=(vs++ws).toArray:=by simp
 by_cases hw:ws=[]
 ·exact concat_meets ⟨_,ho,rfl⟩ ⟨_,ho2,rfl⟩ Qv seq_tuple_add Q3 Q4 (Q8 _ _)
   (tuple_addW1 t b vs.toArray ws.toArray n n2 dd dd2 sl sl2 (by simpa using hv) (by simp [hw])) ⟨ho,ho2,h1 hw⟩
 ·refine concat_meets ⟨_,ho,rfl⟩ ⟨_,ho2,rfl⟩ Qv seq_tuple_add Q3 Q4 (Q8 _ _)
   (tuple_addW2 t b vs.toArray ws.toArray n n2 dd dd2 sl sl2 (by simpa using hv) (by simpa using hw) (by rw [C4,C4];exact hsz)) ⟨ho,ho2,?_⟩
  rw [e];exact h2 hw
def sIx (n d:Nat):Option Int->Nat
 | none=>d
 | some v=>if v < 0 then (v + (n:Int)).toNat else min v.toNat n
def sIx_nat (n d k:Nat):sIx n d (some (k:Int))=min k n:=by
 show (if (k:Int) < 0 then ((k:Int) + (n:Int)).toNat else min (k:Int).toNat n)=min k n;rw [if_neg (by omega),EV]
theorem x6 (n d:Nat) (hd:d<=n) (o:Option Int):sIx n d o<=n:=by
 cases o with
 | none=>exact hd
 | some v=>
  show (if v < 0 then (v + (n:Int)).toNat else min v.toNat n)<=n;by_cases hv:v < 0
  ·rw [if_pos hv];omega
  ·rw [if_neg hv];exact ON _ _
def VZ (v:Int) (n d:Nat):(if v < 0 then max (v + (n:Int)) 0 else min v (n:Int))=((sIx n d (some v):Nat):Int):=by
 show (if v < 0 then max (v + (n:Int)) 0 else min v (n:Int))=(((if v < 0 then (v + (n:Int)).toNat else min v.toNat n):Nat):Int);by_cases hv:v < 0
 ·simp only [if_pos hv];omega
 ·simp only [if_neg hv];omega
def vW (lo hi:Option Int) (n:Nat):QB lo hi 1 (n:Int)=(((sIx n 0 lo:Nat):Int),((sIx n n hi:Nat):Int)):=by
 have h1:¬ ((1:Int) < 0):=by omega
 unfold QB;simp only [h1,if_false];refine Prod.ext ?_ ?_
 ·cases lo with
  | none=>rfl
  | some v=>exact VZ v n 0
 ·cases hi with
  | none=>rfl
  | some v=>exact VZ v n n
def wj (i j:Nat):NG (i:Int) (j:Int) 1=j - i:=by
 unfold NG;have h1:(1:Int) > 0:=by omega
 simp only [h1,if_true,Int.ediv_one];split <;> omega
theorem TC {v:Ae}{o:Option Int}{Q:Option Int->Ak->Prop} (p:IsPart v o) (h:Q o s):Aw (Av prog w) A (Builtin.Slice.slicePartIndex v) Q E s:=by
 cases p with
 | none=>exact slicePart_none h
 | int i t=>exact slicePart_int h
def YQ {sl:Addr}{vl vu:Ae}{lo hi:Option Int}{n:Nat}{Q:Int×Int×Nat->Ak->Prop} (hs:s.heap.IsSliceOf sl vl vu .none) (pl:IsPart vl lo) (pu:IsPart vu hi)
  (h:Q (((sIx n 0 lo:Nat):Int),1,sIx n n hi - sIx n 0 lo) s):Aw (Av prog w) A (U6 (.ref sl) (pure (n:Int))) Q E s:=by
 obtain ⟨os,hos,hcs,hds⟩:=id hs;unfold U6 Builtin.Slice.sliceFields;refine A4 (A4 (wpAny_field hos hds (x:=vl) rfl (A4 (wpAny_field hos hds (x:=vu) rfl (A4 (wpAny_field hos hds (x:=.none) rfl (Bw ?_)))))));refine A4 (slicePart_none ?_);show Aw _ _ (if ((1:Int) == 0)=true then _ else _) _ _ s;rw [if_neg (by decide)];refine A4 (TC pl (A4 (TC pu (A4 (Bw ?_)))));show Aw _ _ (match QB lo hi 1 (n:Int) with | (lo,hi)=>pure (lo,(1:Int),NG lo hi 1)) _ _ s;rw [vW lo hi n];show Aw _ _ (pure (((sIx n 0 lo:Nat):Int),(1:Int),NG ((sIx n 0 lo:Nat):Int) ((sIx n n hi:Nat):Int) 1)) _ _ s;rw [wj];exact Bw h
def kc (xs:Array Ae) (i k:Nat):((An k).filterMap λ (m:Nat)=>xs[((i:Int) + (m:Int) * 1).toNat]?).toArray=((xs.toList.drop i).take k).toArray:=by
 have e:(λ (m:Nat)=>xs[((i:Int) + (m:Int) * 1).toNat]?)=λ m=>xs[i + m]?:=by
  funext m
  have:((i:Int) + (m:Int) * 1).toNat=i + m:=by omega
  rw [this]
 rw [e]
 have:=pick_run xs i k
 rw [List.filterMap_map] at this;have e2:((λ x=>xs[x]?) ∘ λ x=>i + x)=λ m=>xs[i + m]?:=rfl;rw [e2] at this;rw [this]
def getItem_tuple_cut {t sl:Addr}{items:Array Ae}{vl vu:Ae}{lo hi:Option Int}{Q:Ae->Ak->Prop} (ht:IsTup s.heap t items) (hs:s.heap.IsSliceOf sl vl vu .none) (pl:IsPart vl lo) (pu:IsPart vu hi)
  (hw:¬ (sIx items.size 0 lo=0/\sIx items.size items.size hi=items.size))
  (h:Q (.ref s.heap.objs.size) { s with heap:=s.heap.push { cls:=.type "tuple",data:=.seq ((items.toList.drop (sIx items.size 0 lo)).take (sIx items.size items.size hi - sIx items.size 0 lo)).toArray } })
  (hsz:items.size<=A2):Aw (Av prog w) A (getItem (.ref t) (.ref sl)) Q E s:=by
 have htake:sizeOk (.seq ((items.toList.drop (sIx items.size 0 lo)).take (sIx items.size items.size hi - sIx items.size 0 lo)).toArray):=by
  show ((items.toList.drop (sIx items.size 0 lo)).take (sIx items.size items.size hi - sIx items.size 0 lo)).toArray.size<=A2;rw [C4,Ew,SS,KU];omega
 have hj:sIx items.size items.size hi<=items.size:=x6 _ _ (AW _) hi;obtain ⟨os,hos,hcs,hds⟩:=id hs;have hTs:s.TypeIs (.ref sl) "slice" := ⟨os,hos,hcs⟩
 unfold getItem
 try with_reducible refine GK ?_
 first | refine A4 (Bw ?_) | skip
 refine A4 (wpAny_sequenceKey ht.typeIs (by decide) ?_);refine A4 (wpAny_callSpecial?_slot (name:=Str.ofString "__getitem__") ht.typeIs U8
  (NC U8 ht.typeIs entry_tuple_getitem ?_ (args_tuple_getitem _ _)))
 show Aw _ _ (Builtin.Tuple.tupleItemsOf (.ref t) >>= _) _ _ s;refine A4 (tupleItemsOf_ ht ?_);refine A4 (wpAny_typeOf hTs ?_);rw [if_pos (by decide)];refine A4 (YQ hs pl pu ?_);have hno:¬ ((((sIx items.size 0 lo:Nat):Int) == 0 && (1:Int) == 1 && (sIx items.size items.size hi - sIx items.size 0 lo) == items.size)=true):=by
  intro q;rw [A7,A7] at q;have q1:((sIx items.size 0 lo:Nat):Int)=0:=eq_of_beq q.1.1;have q2:sIx items.size items.size hi - sIx items.size 0 lo=items.size:=eq_of_beq q.2;exact hw ⟨by omega,by omega⟩
 show Aw _ _ (if (((sIx items.size 0 lo:Nat):Int) == 0 && (1:Int) == 1 && (sIx items.size items.size hi - sIx items.size 0 lo) == items.size)=true then _ else _) _ _ s;rw [if_neg hno,kc]
 first
  | exact A4 (m:=NF _) (LQ (Bw ⟨_,rfl,Bw h⟩) htake)
  | exact A4 (m:=NF _) (LQ (A4 (Bw (Bw ⟨_,rfl,Bw h⟩))) htake)
  | exact A4 (A4 (m:=NF _) (LQ (Bw (Bw ⟨_,rfl,Bw h⟩)) htake))
  | exact A4 (A4 (m:=NF _) (LQ (Bw ⟨_,rfl,Bw h⟩) htake))
end
end HT
namespace L2
open PySem PySem.Spec PyProof.Rows
abbrev TO:=St->Hp->(Option Int->Hp->Prop)->Prop
def PO (X:Cx) (e:Option Expr) (t:TO):Prop:=
 ∀ (pins:List (Addr×Obj)) (s:Ak) (σ:St) (H:Hp) (Q:Option Int->Hp->Prop),Inv X pins σ H s->t σ H Q ->
  Aw (Av X.prog X.w) X.A (evalPart e X.env) (λ u s'=>∃ o H',Inv X pins σ H' s'/\IsPart u o/\Q o H') X.xe s
def Sh:TO:=λ _ H Q=>Q none H
def Vd (t:TE):TO:=λ σ H Q=>t σ H λ x H1=>∃ i,x=.int i/\Q (some i) H1
section
variable {X:Cx}{e:Expr}{te:TE}{lo hi:Option Expr}{tl th:TO}{pos p2:Pos}
def Sd:PO X none Sh:=by
 intro pins s σ H Q I h;rw [evalPart_none];exact Bw ⟨none,H,I,.none,h⟩
def LF (h:PE X e te):PO X (some e) (Vd te):=by
 intro pins s σ H Q I hw;rw [evalPart_some];refine A5 (h pins s σ H _ I hw) λ u s1 ⟨x,H1,I1,r1,q1⟩=>?_;obtain ⟨i,rfl,q⟩:=q1;obtain ⟨t,rfl⟩:=r1;exact ⟨some i,H1,I1,.int i t,q⟩
def SlR (X:Cx) (r:V->Option Int->Option Int->Hp->VK->Prop):Prop:=
 ∀ (pins:List (Addr×Obj)) (s:Ak) (σ:St) (H:Hp) (x:V) (v vl vu:Ae) (lo hi:Option Int) (sl:Addr) (Q:VK),Inv X pins σ H s->RelV x v->s.heap.IsSliceOf sl vl vu .none->IsPart vl lo->IsPart vu hi->r x lo hi H Q ->
  ∃ T id,typeLookup (.type T) "__getitem__" = pure (some (.builtin id))/\s.TypeIs v T/\Aw (Av X.prog X.w) X.A (getItem v (.ref sl)) (EP X pins σ Q) X.xe s
def SlR.or {r r':V->Option Int->Option Int->Hp->VK->Prop} (h:SlR X r) (h':SlR X r'):SlR X (λ x lo hi H Q=>r x lo hi H Q\/r' x lo hi H Q):=by
 intro pins s σ H x v vl vu lo hi sl Q I rx hs pl pu q;rcases q with q | q
 ·exact h pins s σ H x v vl vu lo hi sl Q I rx hs pl pu q
 ·exact h' pins s σ H x v vl vu lo hi sl Q I rx hs pl pu q
def UA (r:V->Option Int->Option Int->Hp->VK->Prop) (te:TE) (tl th:TO):TE:=λ σ H Q=>te σ H λ x H1=>tl σ H1 λ l H2=>th σ H2 λ u H3=>r x l u H3 Q
def PY {r:V->Option Int->Option Int->Hp->VK->Prop} (hr:SlR X r) (he:PE X e te) (hl:PO X lo tl) (hu:PO X hi th):PE X (.Subscript e (.Slice lo hi none p2) pos) (UA r te tl th):=by
 intro pins s σ H Q I h;refine Subscript_ (A5 (he pins s σ H _ I h) λ v s1 ⟨x,H1,I1,r1,q1⟩=>?_);refine wpAny_Slice (A5 (hl pins s1 σ H1 _ I1 q1) λ vl s2 ⟨l,H2,I2,pl,q2⟩=>A5 (hu pins s2 σ H2 _ I2 q2) λ vu s3 ⟨u,H3,I3,pu,q3⟩=>?_);rw [evalPart_none];refine Bw ?_;have I4:Inv X pins σ H3 { s3 with heap:=s3.heap.push { cls:=.type "slice",data:=.fields #[vl,vu,.none] } }:=I3.kept (t':=s3.toks) λ b ob q=>CI _ q;obtain ⟨T,id,hT,ht,hg⟩:=hr pins { s3 with heap:=s3.heap.push { cls:=.type "slice",data:=.fields #[vl,vu,.none] } } σ H3 x v vl vu l u s3.heap.objs.size Q I4 r1 (Heap.IsSliceOf.new ..) pl pu q3;show Aw (Av X.prog X.w) X.A (N9 e (.Slice lo hi none p2) v (.ref s3.heap.objs.size)) (EP X pins σ Q) X.xe { s3 with heap:=s3.heap.push { cls:=.type "slice",data:=.fields #[vl,vu,.none] } };exact tail_any (ops:=[.ref s3.heap.objs.size,v]) ht hT hg (by with_unfolding_all rfl)
def Dj (xs:List V) (lo hi:Option Int):List V:=(xs.drop (HT.sIx xs.length 0 lo)).take (HT.sIx xs.length xs.length hi - HT.sIx xs.length 0 lo)
def TH (xs:List V) (lo hi:Option Int):(Dj xs lo hi).length<=xs.length:=by
 unfold Dj;rw [Ew,SS];omega
def LY (K:PySem.W.Frag):V->Option Int->Option Int->Hp->VK->Prop:=λ x lo hi H Q=>∃ a xs,x=.ref a/\Dr K H a xs /\
 ¬ (HT.sIx xs.length 0 lo=0/\HT.sIx xs.length xs.length hi=xs.length)/\∀ p,H p=none->Q (.ref p) (As H p (.tup (Dj xs lo hi)))
def RL:SlR X (LY X.K):=by
 intro pins s σ H x v vl vu lo hi sl Q I rx hs pl pu h;obtain ⟨a,xs,rfl,hx,hw,q⟩:=h;cases rx;obtain ⟨its,r,ht,hz⟩:=I.tuple hx;have hlen:its.toArray.size=xs.length:=by rw [C4];exact r.length.symm
 refine ⟨"tuple",_,PyProof.Rows.slot_tuple_getitem.lookup,ht.typeIs,?_⟩;refine HT.getItem_tuple_cut ht hs pl pu (by rw [hlen];exact hw) ?_ (by rw [hlen];exact hz);rw [hlen];refine ⟨.ref s.heap.objs.size,_,I.laid (t':=s.toks) (o:=.tup (Dj xs lo hi)) (λ b ob q=>CI _ q) (AW _) ?_,rfl,q _ (I.hok.fresh (AW _))⟩;exact ⟨CA (TH xs lo hi) hz,_,(r.drop (HT.sIx xs.length 0 lo)).take (HT.sIx xs.length xs.length hi - HT.sIx xs.length 0 lo),IsTup.new _ _⟩
def ZH (K:PySem.W.Frag):R2:=λ x y H Q=>∃ a b xs ys,x=.ref a/\y=.ref b/\Dr K H a xs/\Dr K H b ys/\xs≠[]/\xs.length + ys.length<=A2 /\
 (ys=[]->Q (.ref a) H)/\(ys≠[]->∀ p,H p=none->Q (.ref p) (As H p (.tup (xs++ys))))
theorem Vals.nil_iff {xs:List V}{us:List Ae} (r:Vals xs us):us=[]↔xs=[]:=by
 cases r with
 | nil=>simp
 | cons _ _=>simp
def qmh:OpR X (EL .Add) (ZH X.K):=by
 intro pins s σ H x y v u Q I rx ry h;obtain ⟨a,b,xs,ys,rfl,rfl,ha,hb,hx,hz,q1,q2⟩:=h;cases rx;cases ry;obtain ⟨its,r1,p1,_⟩:=I.tuple ha;obtain ⟨its2,r2,p2,_⟩:=I.tuple hb;refine HT.cat_tup p1 p2 (λ z=>hx (r1.nil_iff.mp z)) (λ z=>⟨.ref a,H,I,rfl,q1 (r2.nil_iff.mp z)⟩) (λ z=>?_) (by rw [<- r1.length,<- r2.length];exact hz);refine ⟨.ref s.heap.objs.size,_,I.laid (t':=s.toks) (o:=.tup (xs++ys)) (λ b ob q=>CI _ q) (AW _) ?_,rfl,q2 (λ w=>z (r2.nil_iff.mpr w)) _ (I.hok.fresh (AW _))⟩;exact ⟨by rw [BL];exact hz,_,r1.append r2,IsTup.new _ _⟩
end
def CL (n:Nat) (i:Int):Option Nat:=if 0<=i then (if i < n then some i.toNat else none) else if -(n:Int)<=i then some (i + n).toNat else none
def Ci {α:Type} (xs:List α) (i:Int):Option α:=(CL xs.length i).bind λ j=>xs[j]?
def Wj {n:Nat}{i:Int}{j:Nat} (h:CL n i=some j):seqIndex? i n=some j/\j < n/\-(n:Int)<=i/\i < n:=by
 unfold CL at h;by_cases h0:0<=i
 ·rw [if_pos h0] at h;by_cases h1:i < n
  ·rw [if_pos h1] at h;have e:i.toNat=j:=Option.some.inj h;exact ⟨by rw [seqIndex_of h0 h1,e],by omega,by omega,h1⟩
  ·rw [if_neg h1] at h;cases h
 ·rw [if_neg h0] at h;by_cases h1:-(n:Int)<=i
  ·rw [if_pos h1] at h;have e:(i + n).toNat=j:=Option.some.inj h;exact ⟨by rw [seqIndex_neg (by omega) h1,e],by omega,h1,by omega⟩
  ·rw [if_neg h1] at h;cases h
theorem RY {α:Type}{xs:List α}{i:Int}{v:α} (h:Ci xs i=some v):∃ j,seqIndex? i xs.length=some j/\xs[j]?=some v/\j < xs.length/\-(xs.length:Int)<=i/\i < xs.length:=by
 unfold Ci at h;cases e:CL xs.length i with
 | none=>rw [e] at h;cases h
 | some j=>
  rw [e] at h;obtain ⟨h1,h2,h3,h4⟩:=Wj e;exact ⟨j,h1,h,h2,h3,h4⟩
def RX (b:Expr):Prop:=∀ o i,subscripted b false o i=operate [o,i] (getItem o i)
def IxR (X:Cx) (r:R2):Prop:=
 ∀ (value slice:Expr) (pins:List (Addr×Obj)) (s:Ak) (σ:St) (H:Hp) (x y:V) (v u:Ae) (Q:VK),Inv X pins σ H s->RelV x v->RelV y u->r x y H Q ->
  subscripted slice false v u=operate [v,u] (getItem v u)->Aw (Av X.prog X.w) X.A (N9 value slice v u) (EP X pins σ Q) X.xe s
def YK (X:Cx) (id:String) (r:V->List V->Hp->VK->Prop):Prop:=
 ∀ (pins:List (Addr×Obj)) (s:Ak) (σ:St) (H:Hp) (x:V) (xs:List V) (v:Ae) (us:List Ae) (Q:VK),Inv X pins σ H s->RelV x v->Vals xs us->r x xs H Q ->
  Aw (Av X.prog X.w) X.A (call (.builtin id) (v::us)) (EP X pins σ Q) X.xe s
section
variable {X:Cx}{a b:Expr}{ta tb:TE}{pos:Pos}
def IxR.or {r r':R2} (h:IxR X r) (h':IxR X r'):IxR X (λ x y H Q=>r x y H Q\/r' x y H Q):=by
 intro value slice pins s σ H x y v u Q I rx ry q hs;rcases q with q | q
 ·exact h value slice pins s σ H x y v u Q I rx ry q hs
 ·exact h' value slice pins s σ H x y v u Q I rx ry q hs
def K6 {r:R2} (hr:IxR X r) (ha:PE X a ta) (hb:PE X b tb) (hs:RX b):PE X (.Subscript a b pos) (En r ta tb):=by
 intro pins s σ H Q I h;exact Subscript_ (JT ha hb I h λ v u s2 x y H2 I2 rx ry q=>hr a b pins s2 σ H2 x y v u Q I2 rx ry q (hs _ _))
def Jz (K:PySem.W.Frag):R2:=λ x y H Q=>∃ p xs i v,x=.ref p/\y=.int i/\BG K H p xs/\Ci xs i=some v/\Q v H
def Ma (K:PySem.W.Frag):R2:=λ x y H Q=>∃ p xs i v,x=.ref p/\y=.int i/\Dr K H p xs/\Ci xs i=some v/\Q v H
def Mb:R2:=λ x y H Q=>∃ z i c,x=.str z/\y=.int i/\z.length<=A2/\Ci z.cps.toList i=some c/\Q (.str ⟨#[c]⟩) H
def qfy:IxR X (Jz X.K):=by
 intro value slice pins s σ H x y v u Q I rx ry h hs;obtain ⟨p,xs,i,z,rfl,rfl,hq,he,q⟩:=h;cases rx;obtain ⟨t,rfl⟩:=ry;obtain ⟨its,r,pl,hz⟩:=I.list hq;obtain ⟨j,h1,h2,h3,h4,h5⟩:=RY he;obtain ⟨w,ew,rw'⟩:=r.get h2;have hl:=r.length;have hn:=Kn;have fin:EP X pins σ Q w s:=⟨z,H,I,rw',q⟩
 by_cases h0:0<=i
 ·have hj:i.toNat=j:=by
   rw [seqIndex_of h0 h5] at h1;exact Option.some.inj h1
  exact item_listR pl.isList h0 (by omega) (by rw [hj];simpa using ew) fin hs
 ·have hj:(i + (its.toArray.size:Int)).toNat=j:=by
   rw [seqIndex_neg (by omega) h4] at h1;rw [C4,<- hl];exact Option.some.inj h1
  exact subscriptTail_builtinR (x:=w) pl.isList.typeIs slot_list_getitem.lookup
   (wpAny_getItem_list_neg (Q:=λ r s'=>r=w/\EP X pins σ Q r s') pl.isList (by omega) (by rw [C4] <;> omega) (by omega) (by rw [hj];simpa using ew) ⟨rfl,fin⟩) hs
def qqh:IxR X (Ma X.K):=by
 intro value slice pins s σ H x y v u Q I rx ry h hs;obtain ⟨p,xs,i,z,rfl,rfl,hq,he,q⟩:=h;cases rx;obtain ⟨t,rfl⟩:=ry;obtain ⟨its,r,pl,hz⟩:=I.tuple hq;obtain ⟨j,h1,h2,h3,h4,h5⟩:=RY he;obtain ⟨w,ew,rw'⟩:=r.get h2;have hl:=r.length;have hn:=Kn;have fin:EP X pins σ Q w s:=⟨z,H,I,rw',q⟩
 exact subscriptTail_builtinR (x:=w) pl.typeIs slot_tuple_getitem.lookup
  (getItem_tuple (j:=j) (Q:=λ r s'=>r=w/\EP X pins σ Q r s') pl (by omega) (by omega) (by rw [C4,<- hl];exact h1) (by simpa using ew) ⟨rfl,fin⟩) hs
def qh:IxR X Mb:=by
 intro value slice pins s σ H x y v u Q I rx ry h hs;obtain ⟨z,i,c,rfl,rfl,hz,he,q⟩:=h;obtain ⟨t,rfl⟩:=rx;obtain ⟨t',rfl⟩:=ry;obtain ⟨j,h1,h2,h3,h4,h5⟩:=RY he;have hl:z.cps.toList.length=z.length:=by simp [Str.length]
 rw [hl] at h1 h4 h5;have hn:=Kn;exact tail_any (typeIs_str s z t) slot_str_getitem.lookup (getItem_str (c:=c) (by
  have e1:decide (i < -(2 ^ 63:Int))=false:=decide_eq_false (by omega);have e2:decide (i ≥ 2 ^ 63)=false:=decide_eq_false (by omega);rw [e1,e2,Bool.or_false]) (by rw [h1];simpa using h2) ⟨.str ⟨#[c]⟩,H,I.tok _,⟨_,rfl⟩,q⟩) hs
def Hs (K:PySem.W.Frag):R2:=λ x y H Q=>Jz K x y H Q\/Ma K x y H Q\/Mb x y H Q
def Lz:IxR X (Hs X.K):=qfy.or (qqh.or qh)
def we (its:List Ae) (n j:Nat) (u:Ae):C7 (·.setIfInBounds j u) { cls:=.type "list",data:=.seq its.toArray n }={ cls:=.type "list",data:=.seq (its.set j u).toArray n }:=by
 simp [C7]
def Inv.lst {pins:List (Addr×Obj)}{σ:St}{H:Hp}{s:Ak}{p:Addr}{xs:List V} (I:Inv X pins σ H s) (h:H p=some (.lst xs)):
  ∃ (its:List Ae) (n:Nat),Vals xs its/\s.heap.get? p=some { cls:=.type "list",data:=.seq its.toArray n }/\xs.length<=A2:=by
 obtain ⟨z,its,n,r,e⟩:=I.hok p _ h;exact ⟨its,n,r,e,z⟩
def Inv.lstUpd {pins:List (Addr×Obj)}{σ:St}{H:Hp}{s:Ak}{p:Addr}{xs ys:List V}{its its':List Ae}{n n':Nat}{f:Obj->Obj} (I:Inv X pins σ H s) (h:H p=some (.lst xs))
  (ho:s.heap.get? p=some { cls:=.type "list",data:=.seq its.toArray n }) (hf:f { cls:=.type "list",data:=.seq its.toArray n }={ cls:=.type "list",data:=.seq its'.toArray n' }) (r:Vals ys its') (hz:ys.length<=A2) (t:Nat):
  Inv X pins σ (As H p (.lst ys)) { s with heap:=s.heap.update p f,toks:=t }:=by
 have e:(s.heap.update p f).get? p=some { cls:=.type "list",data:=.seq its'.toArray n' }:=by
  rw [Heap.get?_update_self f ho (by rw [hf] <;> rfl),hf]
 refine I.write (x:=p) (e:=p) (by rw [h];trivial) (.inl rfl) (λ b u hb q=>(Heap.get?_update_other _ _ (BY hb)).trans q) ⟨_,e⟩ ?_;exact ⟨hz,its',n',r,e⟩
def Ol:V->V->V->Hp->(Hp->Prop)->Prop:=λ o i v H Q=>∃ p xs k j,o=.ref p/\i=.int k/\H p=some (.lst xs)/\CL xs.length k=some j/\Q (As H p (.lst (xs.set j v)))
def Qa:PSet X Ol:=by
 intro pins s σ H o i v ov iv u Q I ro ri rv h;obtain ⟨p,xs,k,j,rfl,rfl,hp,hj,q⟩:=h;cases ro;obtain ⟨t,rfl⟩:=ri;obtain ⟨its,n,r,ho,hz⟩:=I.lst hp;obtain ⟨h1,h2,h3,h4⟩:=Wj hj;have hl:=r.length;have hn:=Kn;have I':Inv X pins σ (As H p (.lst (xs.set j v))) { s with heap:=s.heap.update p (C7 (·.setIfInBounds j u)) }:=
  I.lstUpd hp ho (we its n j u) (r.set rv j) (by rw [DT];exact hz) s.toks
 by_cases h0:0<=k
 ·have hk:k.toNat=j:=by
   rw [seqIndex_of h0 h4] at h1;exact Option.some.inj h1
  exact PySem.W.ki_setAt ho h0 (by omega) (by rw [C4,<- hl];exact h4) (by rw [hk];exact ⟨_,I',q⟩)
 ·have hk:(k + (its.toArray.size:Int)).toNat=j:=by
   rw [seqIndex_neg (by omega) h3] at h1;rw [C4,<- hl];exact Option.some.inj h1
  exact PySem.W.ki_setBack ho (by omega) (by rw [C4,<- hl];exact h3) (by omega) (by rw [hk];exact ⟨_,I',q⟩)
def YU (lo hi:Option Int) (n:Nat):(Jo lo hi none n).1=((HT.sIx n 0 lo:Nat):Int)/\(Jo lo hi none n).2.1=((HT.sIx n n hi:Nat):Int)/\(Jo lo hi none n).2.2=1:=by
 refine ⟨?_,?_,rfl⟩
 ·cases lo with
  | none=>simp [Jo,HT.sIx]
  | some i=>
   simp only [Jo,HT.sIx,Ys,show (1:Int) > 0 by decide,if_true];by_cases h:i < 0
   ·simp only [h,if_true] <;> omega
   ·simp only [h,if_false] <;> omega
 ·cases hi with
  | none=>simp [Jo,HT.sIx]
  | some i=>
   simp only [Jo,HT.sIx,Ys,show (1:Int) > 0 by decide,if_true];by_cases h:i < 0
   ·simp only [h,if_true] <;> omega
   ·simp only [h,if_false] <;> omega
def YV (its:List Ae) (lo hi:Option Int):slicePick its.toArray lo hi none=((its.drop (HT.sIx its.length 0 lo)).take (HT.sIx its.length its.length hi - HT.sIx its.length 0 lo)).toArray:=by
 obtain ⟨h1,h2,h3⟩:=YU lo hi its.toArray.size;unfold slicePick;rw [h1,h2,h3];simp only [sliceRange_one,pick_run,C4] <;> rfl
def LZ (K:PySem.W.Frag):V->Option Int->Option Int->Hp->VK->Prop:=λ x lo hi H Q=>∃ a xs,x=.ref a/\BG K H a xs/\∀ p,H p=none->Q (.ref p) (As H p (.lst (Dj xs lo hi)))
def qap:SlR X (LZ X.K):=by
 intro pins s σ H x v vl vu lo hi sl Q I rx hs pl pu h;obtain ⟨a,xs,rfl,hx,q⟩:=h;cases rx;obtain ⟨its,r,ht,hz⟩:=I.list hx;have hlen:=r.length;refine ⟨"list",_,slot_list_getitem.lookup,ht.isList.typeIs,?_⟩;refine wpAny_getItem_list_slice ht.isList hs pl pu .none (by simp) ?_ (by rw [C4] <;> omega);rw [YV,<- hlen];refine ⟨.ref s.heap.objs.size,_,I.laid (t':=s.toks) (o:=.lst (Dj xs lo hi)) (λ b ob q=>CI _ q) (AW _) ?_,rfl,q _ (I.hok.fresh (AW _))⟩;exact ⟨CA (TH xs lo hi) hz,_,0,(r.drop (HT.sIx xs.length 0 lo)).take (HT.sIx xs.length xs.length hi - HT.sIx xs.length 0 lo),DF _ rfl⟩
def qac:CallR X (.builtin "len") (λ xs H Q=>∃ p ys,xs=[.ref p]/\(BG X.K H p ys\/Dr X.K H p ys)/\Q (.int ys.length) H):=by
 intro pins s σ H xs us Q I r h;obtain ⟨p,ys,rfl,hq,q⟩:=h;obtain ⟨u,rfl,rx⟩:=Hf r;cases rx;have hn:=Kn;rcases hq with hq | hq
 ·obtain ⟨its,r',pl,hz⟩:=I.list hq;have hlen:=r'.length;exact Calls.call_len_list pl.isList (by simp only [C4] <;> omega) ⟨.int ys.length,H,I.tok _,⟨s.toks + 1,by rw [C4,hlen]⟩,q⟩
 ·obtain ⟨its,r',pl,hz⟩:=I.tuple hq;have hlen:=r'.length;exact len_tuple pl (by simp only [C4] <;> omega) ⟨.int ys.length,H,I.tok _,⟨s.toks + 1,by rw [C4,hlen]⟩,q⟩
def wz:CallR X (.builtin "len") (λ xs H Q=>∃ z,xs=[.str z]/\z.length<=A2/\Q (.int z.length) H):=by
 intro pins s σ H xs us Q I r h;obtain ⟨z,rfl,hz,q⟩:=h;obtain ⟨u,rfl,t,rfl⟩:=Hf r;have hn:=Kn;exact len_str (by omega) ⟨.int z.length,H,I.tok _,⟨_,rfl⟩,q⟩
def CallR.or {f:Ae}{r r':List V->Hp->VK->Prop} (h:CallR X f r) (h':CallR X f r'):CallR X f (λ xs H Q=>r xs H Q\/r' xs H Q):=by
 intro pins s σ H xs us Q I rs q;rcases q with q | q
 ·exact h pins s σ H xs us Q I rs q
 ·exact h' pins s σ H xs us Q I rs q
def w6:CallR X (.type "list") (λ xs H Q=>∃ p ys,xs=[.ref p]/\(BG X.K H p ys\/Dr X.K H p ys)/\∀ l,H l=none->Q (.ref l) (As H l (.lst ys))):=by
 intro pins s σ H xs us Q I r h;obtain ⟨p,ys,rfl,hq,q⟩:=h;obtain ⟨u,rfl,rx⟩:=Hf r;cases rx;have fin:∀ (its:List Ae),Vals ys its->ys.length<=A2->∀ (h':Heap) (c':Nat),(∀ b o',s.heap.get? b=some o'->h'.get? b=some o') ->
   h'.get? s.heap.objs.size=some { cls:=.type "list",dict:=none,data:=.seq its.toArray c',slots:=#[] }->EP X pins σ Q (.ref s.heap.objs.size) { s with heap:=h' }:=λ its r' hz h' c' kp e=>
  ⟨.ref s.heap.objs.size,_,I.laid (t':=s.toks) kp (AW _) (show zwv X.prog X.w _ h' _ (.lst ys) from ⟨hz,its,c',r',e⟩),rfl,q _ (I.hok.fresh (AW _))⟩
 rcases hq with hq | hq
 ·obtain ⟨its,r',pl,hz⟩:=I.list hq;have hlen:=r'.length;obtain ⟨o,ho,hc,n,hd⟩:=pl.isList;exact call_list_seq p (.inl rfl) ho hc hd (λ h' c' kp e=>fin its r' hz h' c' kp e) (by simp only [C4] <;> omega)
 ·obtain ⟨its,r',pl,hz⟩:=I.tuple hq;have hlen:=r'.length;obtain ⟨o,ho,hc,n,hd⟩:=pl;exact call_list_seq p (.inr rfl) ho hc hd (λ h' c' kp e=>fin its r' hz h' c' kp e) (by simp only [C4] <;> omega)
def NI (K:PySem.W.Frag) (T:String) (x:V) (H:Hp):Prop:=match x with
 | .str _=>T = "str"
 | .int _=>T = "int"
 | .ref p=>(T = "list" /\ ∃ xs,BG K H p xs)\/(T = "tuple" /\ ∃ o,K.lookup p=some o/\o.cls=.type "tuple" /\ o.dict=none) \/
   (T = "dict" /\ ((∃ kvs,H p=some (.dK kvs))\/∃ kvs,H p=some (.dT kvs)))\/(T = "set" /\ ∃ S n,H p=some (.set S n))
 | _=>False
theorem VT {pins:List (Addr×Obj)}{σ:St}{H:Hp}{s:Ak}{T:String}{x:V}{v:Ae} (I:Inv X pins σ H s) (r:RelV x v) (ty:NI X.K T x H):
  s.TypeIs v T/\∀ a,v=.ref a->∃ ob,s.heap.get? a=some ob/\ob.dict=none:=by
 cases x with
 | str z=>
  obtain ⟨t,rfl⟩:=r;cases (show T = "str" from ty);exact ⟨typeIs_str s z t,λ _ e=>nomatch e⟩
 | int i=>
  obtain ⟨t,rfl⟩:=r;cases (show T = "int" from ty);exact ⟨typeIs_int s i t,λ _ e=>nomatch e⟩
 | ref p=>
  cases r;rcases ty with ⟨rfl,xs,hq⟩ | ⟨rfl,o,hk,hc,hd⟩ | ⟨rfl,hk⟩ | ⟨rfl,S,n,hk⟩
  ·obtain ⟨its,_,pl,_⟩:=I.list hq;refine ⟨pl.isList.typeIs,λ a e=>?_⟩;cases e;obtain ⟨o,n,e,c,hd,_⟩:=pl;exact ⟨o,e,hd⟩
  ·refine ⟨⟨o,I.kIn p o hk,hc⟩,λ a e=>?_⟩;cases e;exact ⟨o,I.kIn _ o hk,hd⟩
  ·have z:∃ o,s.heap.get? p=some o/\o.ExactDict:=by
    rcases hk with ⟨kvs,hk⟩ | ⟨kvs,hk⟩
    ·obtain ⟨_,_,_,_,o,_,_,e,ex,_⟩:=I.hok p _ hk;exact ⟨o,e,ex⟩
    ·obtain ⟨_,_,_,_,o,_,_,e,ex,_⟩:=I.hok p _ hk;exact ⟨o,e,ex⟩
   obtain ⟨o,e,ex⟩:=z;refine ⟨⟨o,e,ex.1⟩,λ a e2=>?_⟩;cases e2;exact ⟨o,e,ex.2.1⟩
  ·obtain ⟨o,_,_,_,e,ex,_⟩:=I.hok p _ hk;refine ⟨⟨o,e,ex.1⟩,λ a e2=>?_⟩;cases e2;exact ⟨o,e,ex.2.1⟩
 | _=>exact E5 ty
def Jv (K:PySem.W.Frag) (T:String) (r:V->List V->Hp->VK->Prop) (to:TE):TE:=λ σ H Q=>to σ H λ x H1=>NI K T x H1/\r x [] H1 Q
def NM (K:PySem.W.Frag) (T:String) (r:V->List V->Hp->VK->Prop) (to:TE) (t:TA):TE:=λ σ H Q=>to σ H λ x H1=>NI K T x H1/\t σ H1 λ xs H2=>r x xs H2 Q
variable {o e:Expr}{es:List Expr}{to:TE}{t:TA}{name:Str}{apos cpos:Pos}{T id:String}{r:V->List V->Hp->VK->Prop}
def RP (pa:PlainAttrs T) (slot:Slot T name id) (hty:typeOf (.builtin id)=pure (.type "method_descriptor")) (hm:YK X id r) (ho:PE X o to)
  (hbase:N7 o name X.env (eval o X.env)=eval o X.env:=by rfl) (hline:(apos.endLine == cpos.line)=true:=by rfl):PE X (.Call (.Attribute o name apos) [] [] cpos) (Jv X.K T r to):=by
 intro pins s σ H Q I h;refine wpAny_Call_method0_late hbase hline (A5 (ho pins s σ H _ I h) λ v s1 ⟨x,H1,I1,r1,ty,q1⟩=>?_);obtain ⟨h1,h2⟩:=VT I1 r1 ty;exact ⟨T,id,pa,slot,hty,h1,h2,Calls.callWith_builtin rfl (PySem.evalArgs_none (hm pins s1 σ H1 x [] v [] Q I1 r1 .nil q1))⟩
def Ru (pa:PlainAttrs T) (slot:Slot T name id) (hty:typeOf (.builtin id)=pure (.type "method_descriptor")) (hm:YK X id r) (ho:PE X o to) (ha:PA X (e::es) t)
  (hbase:N7 o name X.env (eval o X.env)=eval o X.env:=by rfl)
  (hfew:((DD cpos (AN (e::es) X.env)).all (λ x=>!x.1) && (backToKw cpos (keywordEach [] X.env)).all (λ x=>x.1.isSome)
   && decide ((e::es).length + ([]:List Keyword).length + (if ([]:List Keyword).isEmpty then 0 else 1) < 30))=true:=by rfl)
  (hline:(apos.endLine == cpos.line)=true:=by rfl) (hs:AN (e::es) X.env=(false,eval e X.env)::AN es X.env:=by rfl) (hplain:(DD cpos (AN es X.env)).any (·.1)=false:=by rfl):
  PE X (.Call (.Attribute o name apos) (e::es) [] cpos) (NM X.K T r to t):=by
 intro pins s σ H Q I h;refine wpAny_Call_method_late hbase hfew hline rfl (A5 (ho pins s σ H _ I h) λ v s1 ⟨x,H1,I1,r1,ty,q1⟩=>?_);obtain ⟨h1,h2⟩:=VT I1 r1 ty;refine ⟨T,id,pa,slot,hty,h1,h2,?_⟩;have hA:=ha cpos pins s1 σ H1 _ I1 q1;rw [hs] at hA ⊢;refine Calls.callWith_builtin (by show (false || (DD cpos (AN es X.env)).any (·.1))=false;rw [hplain] <;> rfl) (Calls.evalArgs_plain ?_);exact A5 hA λ us s2 ⟨vs,H2,I2,r2,q2⟩=>hm pins s2 σ H2 x vs v us Q I2 r1 r2 q2
end
def YL (X:Cx) (id:String) (r:V->List V->Hp->VK->Prop):Prop:=
 ∀ (pins:List (Addr×Obj)) (s:Ak) (σ:St) (H:Hp) (x:V) (xs:List V) (v:Ae) (us:List Ae) (Q:VK),Inv X pins σ H s->RelV x v->Vals xs us->r x xs H Q ->
  Aw (Av X.prog X.w) X.A (call (.builtin id) (v::us)) (EP X pins σ Q) X.xe s
theorem Vals.one:∀ {x:V}{us:List Ae},Vals [x] us->∃ u,us=[u]/\RelV x u
 | _,_,.cons r .nil=>⟨_,rfl,r⟩
theorem Vals.zero:∀ {us:List Ae},Vals [] us->us=[]
 | _,.nil=>rfl
theorem Vals.rep {xs:List V}{us:List Ae} (h:Vals xs us):∀ k:Nat,Vals (Bg k xs).flatten (Bg k us).flatten
 | 0=>.nil
 | k + 1=>by
  rw [JI,JI,KP,KP];exact Vals.append h (Vals.rep h k)
theorem Ug (its:List Ae):∀ (k:Nat) (acc:List Ae),
  SA (λ x1 x2=>x1++x2) acc.toArray (Bg k its.toArray)=(acc++(Bg k its).flatten).toArray
 | 0,acc=>by simp
 | k + 1,acc=>by
  have e:acc.toArray++its.toArray=(acc++its).toArray:=by simp
  have e2:(acc++its)++(Bg k its).flatten=acc++(Bg (k + 1) its).flatten:=by
   rw [JI,KP,OP]
  rw [<- e2,<- Ug its k (acc++its),<- e,JI,Yk]
section
variable {X:Cx}{pins:List (Addr×Obj)}{σ:St}{H:Hp}{s:Ak}{l b:Addr}{xs ys zs:List V}
def Inv.lset {its its':List Ae}{n:Nat}{f:Array Ae->Array Ae}{t':Nat} (I:Inv X pins σ H s) (hH:H l=some (.lst xs))
  (e:s.heap.get? l=some { cls:=.type "list",data:=.seq its.toArray n }) (hf:f its.toArray=its'.toArray) (hv:Vals ys its') (hz:ys.length<=A2):
  Inv X pins σ (As H l (.lst ys)) { s with heap:=s.heap.update l (C7 f),toks:=t' }:=by
 have q:=PySem.IsL.update e f;rw [hf] at q;refine I.write (x:=l) (e:=l) (by rw [hH];exact trivial) (.inl rfl) (λ b' u hb hu=>(Heap.get?_update_other s.heap (C7 f) (BY hb)).trans hu) ⟨_,q⟩ ?_;exact ⟨hz,its',_,hv,q⟩
def Inv.lnew {its:List Ae}{t':Nat} (I:Inv X pins σ H s) (hv:Vals ys its) (hz:ys.length<=A2):
  Inv X pins σ (As H s.heap.objs.size (.lst ys)) { s with heap:=s.heap.push { cls:=.type "list",data:=.seq its.toArray },toks:=t' }:=
 I.laid (λ _ _ q=>CI _ q) (AW _) ⟨hz,its,0,hv,DF _ rfl⟩
def Inv.fresh (I:Inv X pins σ H s):H s.heap.objs.size=none:=I.hok.fresh (AW _)
def Inv.lstM (I:Inv X pins σ H s) (hH:H l=some (.lst xs)):xs.length<=A2/\∃ (its:List Ae) (n:Nat),Vals xs its/\xs.length=its.length/\s.heap.get? l=some { cls:=.type "list",data:=.seq its.toArray n }:=by
 obtain ⟨z,its,n,r,e⟩:=I.hok l _ hH;exact ⟨z,its,n,r,r.length,e⟩
def jU {n:Nat} (h:n<=A2):Q7 n=false:=by
 unfold Q7;exact decide_eq_false (by omega)
end
section
variable {X:Cx}
def N1:V->List V->Hp->VK->Prop:=λ x vs H Q=>∃ l xs y,x=.ref l/\vs=[y]/\H l=some (.lst xs)/\xs.length < A2/\Q .non (As H l (.lst (xs++[y])))
def MU:YL X "list.append" N1:=by
 intro pins s σ H x vs v us Q I rx rv h;obtain ⟨l,xs,y,rfl,rfl,hH,hz,q⟩:=h;cases rx;obtain ⟨u,rfl,ru⟩:=rv.one;obtain ⟨z,its,n,r,hl,e⟩:=I.lstM hH;refine call_meets F.slot_list_append ⟨_,e,rfl⟩ F.entry_list_append (F.args_list_append_2 _ _) (PySem.list_append l its.toArray n u (by rw [C4];omega)) ⟨e,?_⟩;refine ⟨.non,_,I.lset (its':=its++[u]) hH e (by simp) (r.append (.cons ru .nil)) ?_,rfl,q⟩;rw [BL,IQ];omega
def RK:V->List V->Hp->VK->Prop:=λ x vs H Q=>∃ l xs,x=.ref l/\vs=[]/\H l=some (.lst xs)/\Q .non (As H l (.lst []))
def PX:YL X "list.clear" RK:=by
 intro pins s σ H x vs v us Q I rx rv h;obtain ⟨l,xs,rfl,rfl,hH,q⟩:=h;cases rx;have hus:=rv.zero;subst hus;obtain ⟨z,its,n,r,hl,e⟩:=I.lstM hH;refine call_meets F.slot_list_clear ⟨_,e,rfl⟩ F.entry_list_clear (F.args_list_clear_1 _) (AutoSeq1.list_clear_list_0 l its.toArray n (by rw [C4];omega)) ⟨e,?_⟩;exact ⟨.non,_,I.lset (its':=[]) (ys:=[]) hH e rfl .nil (Hz _),rfl,q⟩
def QY:R2:=λ x y H Q=>∃ l b xs zs,x=.ref l/\y=.ref b/\H l=some (.lst xs)/\H b=some (.lst zs)/\xs.length + zs.length<=A2/\∀ p,H p=none->Q (.ref p) (As H p (.lst (xs++zs)))
def qp3:OpR X (EL .Add) QY:=by
 intro pins s σ H x y v u Q I rx ry h;obtain ⟨l,b,xs,zs,rfl,rfl,hH,hB,hz,q⟩:=h;cases rx;cases ry;obtain ⟨z,its,n,r,hl,e⟩:=I.lstM hH;obtain ⟨z2,its2,n2,r2,hl2,e2⟩:=I.lstM hB;refine PySem.P.add_list e e2 ?_ (by rw [C4,C4];omega);have ea:its.toArray++its2.toArray=(its++its2).toArray:=by simp
 rw [ea];exact ⟨.ref _,_,I.lnew (t':=s.toks) (r.append r2) (by rw [BL];omega),rfl,q _ I.fresh⟩
def QU:R2:=λ x y H Q=>∃ l k xs,x=.ref l/\y=.int k/\H l=some (.lst xs)/\-(2 ^ 63)<=k/\k < 2 ^ 63/\xs.length * k.toNat<=A2 /\
 ∀ p,H p=none->Q (.ref p) (As H p (.lst (Bg k.toNat xs).flatten))
theorem zi {α:Type} (xs:List α) (k:Nat):(Bg k xs).flatten.length=k * xs.length:=by
 induction k with
 | zero=>simp
 | succ k ih=>rw [JI,KP,BL,ih,OF,Nat.add_comm]
def qC:OpR X (EL .Mult) QU:=by
 intro pins s σ H x y v u Q I rx ry h;obtain ⟨l,k,xs,rfl,rfl,hH,h1,h2,hz,q⟩:=h;cases rx;obtain ⟨t,rfl⟩:=ry;obtain ⟨z,its,n,r,hl,e⟩:=I.lstM hH;have hlen:its.toArray.size * k.toNat<=A2:=by rw [C4,<- hl];exact hz
 have hcap:¬ its.toArray.size * k.toNat > (2 ^ 63 - 1) / 8:=by
  have:(A2:Nat)<=(2 ^ 63 - 1) / 8:=by decide
  omega
 have hfit:¬ (!Builtin.List.listFitsIndex k)=true:=by
  rw [fitsIndex_both h1 h2];exact Cp
 have hlong:¬ Q7 (its.toArray.size * k.toNat)=true:=by
  rw [jU hlen];exact Cp
 have hnew:SA (λ x1 x2=>x1++x2) #[] (Bg (if its.toArray.isEmpty=true then 0 else k.toNat) its.toArray)=(Bg k.toNat its).flatten.toArray:=by
  have f0:∀ m:Nat,SA (λ x1 x2=>x1++x2) #[] (Bg m its.toArray)=(Bg m its).flatten.toArray:=λ m=>by
   have:=Ug its m []
   rw [JE] at this;exact this
  rw [f0];cases its with
  | nil=>simp
  | cons a r'=>rw [if_neg (by simp)]
 refine wpAny_binaryOp_repeat_ref (T := "list") (U := "int") (by decide) ⟨_,e,rfl⟩ (λ s'=>typeIs_int s' k t) noFill_list_mul F.fills_int_mul F.slot_int_rmul repeat_list F.slot_int_index.lookup
  (call_meets F.slot_int_rmul (typeIs_int s k t) F.entry_int_rmul (F.args_int_rmul_2 _ _) (int___rmul___int_list k t l its.toArray n)
   ⟨e,rfl,⟨_,e,rfl⟩,call_meets F.slot_list_mul ⟨_,e,rfl⟩ F.entry_list_mul (F.args_list_mul_2 _ _) (AutoListH.list___mul___list_int_3 l its.toArray n k t hfit hcap hlong) ⟨e,?_⟩⟩)
 rw [hnew];exact ⟨.ref _,_,I.lnew (t':=s.toks) (r.rep k.toNat) (by rw [zi,E9];exact hz),rfl,q _ I.fresh⟩
end
section
variable {prog:AD}{w:AB}{A:Bc}{E:Ae->Ak->Prop}{s:Ak}
end
section
variable {X:Cx}
end
end L2
namespace Att
open PySem PySem.W PySem.Calls PyProof.Rows
theorem YW {P:Params}{h:Heap}:∀ (ns:List Int) (vs:List Ae),WellAll P h vs (ns.map WData.int)->EK vs ns:=by
 intro ns;induction ns with
 | nil=>
  intro vs w;rw [Dq] at w;cases w;exact .nil
 | cons n ns ih=>
  intro vs w;rw [Bf] at w;cases w with
  | cons a b=>
   cases a;exact .cons _ _ (ih _ b)
theorem vM {l:OpenLaw}{n:Nat} (hn:l.most=some n) {P:Params}{h:Heap}{args:List WData}{vals:List Ae}
  (hpre:l.row.toRowW.claim.pre args=true) (hwl:WellAll P h vals args):
  ∃ a vs ns,vals=[Value.ref a]/\args=[WData.list (ns.map WData.int)]/\h.get? a=some { cls:=.type "list",data:=.seq vs.toArray }/\EK vs ns/\ns.length<=n:=by
 have hsh:WShape.hasAll [] args [.list .int]=true:=(pre_splitW hpre).1;have hc:l.pre.holds [] { args:=args }=true:=(pre_splitW hpre).2;obtain ⟨d,r,rfl,h1,h2⟩:=hasAllW_cons hsh;obtain rfl:=hasAllW_nil h2;obtain ⟨xs,rfl,h3⟩:=hasW_list h1;obtain ⟨ns,rfl⟩:=items_int h3;have hlen:ns.length<=n:=by
  unfold OpenLaw.pre at hc;have h4:(WTm.not (.lt (.lit (.int (n:Int))) (.len (.arg 0)))).holds [] { args:=[.list (ns.map .int)] }=true:=by
   have h4:=(holds_andW hc).1;rw [hn] at h4;exact h4
  have h5:=condW_of h4 (w_not (w_lt w_lit (w_len_list (w_arg rfl))));rw [Ax] at h5;refine Nat.le_of_not_lt λ q=>?_;have q':(n:Int) < ((ns.length:Nat):Int):=by omega
  first
   | (rw [decide_eq_true q'] at h5;exact absurd h5 (by decide))
   | (simp at h5;omega)
 cases hwl with
 | cons w1 w2=>
  cases w2;cases w1 with
  | list ho hall=>exact ⟨_,_,ns,rfl,rfl,ho,YW ns _ hall,hlen⟩
def vF (l:OpenLaw) (args:List WData):l.row.toRowW.claim.post args (.bool true) args=true:=
 postW_of (r:=l.row.toRowW) (X:=(true == true))
  (show WShape.has [] (.bool true) .bool=true by first | rfl | decide | simp [WShape.has,WShape.arms,WShape.armsAll])
  (show (WTm.eq .res (.lit (.bool true))).value [] { args:=args,res:=some (.bool true),after:=args }=some (.bool (true == true)) from w_eq_bool (w_res rfl) w_lit) rfl
def attach_call {l:OpenLaw}{n:Nat}{q:AD}{loose:List Str}{XP:(Str->Option Ae)->Heap->Prop}{YP:AB->Heap->Prop}{d:DefRec}
  (hn:l.most=some n) (hdf:d.params.defaults=[])
  (call:∀ (w:AB) (s₀ s₁:Ak) (mg mb:Str->Option Ae) (fa:Addr) (o:Obj) (pm cd doc:Ae) (a:Addr) (vs:List Ae) (ns:List Int),
   Ground q loose [] XP w s₀ mg mb s₁.heap->YP w s₁.heap ->
   s₁.heap.get? fa=some o->o.data=.func (docDef d.name d.params d.body d.scope pm cd doc)->s₁.heap.CodeRec cd d.name->mg d.name=some (.ref fa) ->
   s₁.heap.get? a=some { cls:=.type "list",data:=.seq vs.toArray }->EK vs ns->ns.length<=n->s₁.gens=#[] ->
   Iu (Av l.prog w) Jl (.call (.ref fa) ⟨[.ref a],[]⟩) (λ r s'=>r=.ok (.ret (.bool true))/\OldK s₁.heap s'.heap/\s'.os=s₁.os/\Hk s'.gens) s₁):
  WalkO q loose XP YP l.row.toRowW d [] (λ f vs=>PySem.call f vs):=by
 intro w s₀ s₁ mg mb G Y fa o pm cd doc dV kV ho hd hcd hD hmg hg args vals as hpre hlay hrd hwl hlo;obtain rfl:dV=.none:=Dflts.none hD hdf;obtain rfl:kV=.none:=Dflts.noKw hD;obtain ⟨a,vs,ns,rfl,rfl,hobj,hints,hlen⟩:=vM hn hpre hwl;refine enter_call (codeAny_mono (call w s₀ s₁ mg mb fa o pm cd doc a vs ns G Y ho (fd_plain hd) hcd hmg hobj hints hlen hg) λ r s' hq=>?_);obtain ⟨rfl,h2,h3,h4⟩:=hq;exact ⟨.inl ⟨.bool true,.bool true,[],rfl,λ _=>rfl,.bool true,vF l _,λ _=>⟨List.Pairwise.nil,λ _ hm=>(nomatch hm)⟩⟩,h2,h3,h4⟩
section
variable {prog:AD}{w:AB}{A:Bc}{E:Ae->Ak->Prop}{s:Ak}{K:Frag}
end
end Att
namespace L2
open PySem PySem.Spec PyProof.Rows
theorem U0:∀ {vs:List Ae}{ns:List Int},EK vs ns->Vals (ns.map V.int) vs
 | _,_,.nil=>.nil
 | _,_,.cons n t h=>.cons ⟨t,rfl⟩ (U0 h)
def HQ (H:Hp):Prop:=∀ b,H b=none\/∃ o xs,H b=some (.frz o (.lst xs))
theorem jP {P:AD}{w:AB}{K:PySem.W.Frag}{mg mb:Str->Option Ae}{CX:FA}{k:Nat}{fa a:Addr}{fd:Dd}{x:Str}{sp:Sp}{s₁:Ak}{vs:List Ae}{ns:List Int}
  (KX:K.In s₁.heap) (hns:s₁.heap.Ns E7 mg) (hb:s₁.heap.Ns builtinsNs mb) (hbb:∀ x:Str,x ≠ "__name__" -> mb x=Jp x) (hlim:s₁.heap.NoLimit) (hg:s₁.gens=#[])
  (ha:s₁.heap.get? a=some { cls:=.type "list",data:=.seq vs.toArray }) (hi:EK vs ns) (hl:ns.length<=A2) (hr:Room k Jl)
  (F:∀ base:Heap,K.In base->base.Ns E7 mg->FnOk P w K mg base CX k fa fd [x] sp) (hbind:∀ (s:Ak) (u:Ae),BindsTo s fd ⟨[u],[]⟩ [(x,u)])
  (hsp:∀ H:Hp,HQ H->BG K H a (ns.map V.int)->sp [.ref a] H (λ v _=>v=.bl true) λ _ _ _=>False)
  (hCX:∀ H e s',CX [] H s₁ (λ _ _ _=>False) e s'->False):
  Iu (Av P w) Jl (.call (.ref fa) ⟨[.ref a],[]⟩) (λ r s'=>r=.ok (.ret (.bool true))/\OldK s₁.heap s'.heap/\s'.os=s₁.os/\Hk s'.gens) s₁:=by
 have rv:=U0 hi;have lenV:=hi.length;have core:∀ H:Hp,HQ H->BG K H a (ns.map V.int)->HOk P w H s₁.heap->(∀ b,H b≠none->b=a)->(H a≠none->K.lookup a=none) ->
   Iu (Av P w) Jl (.call (.ref fa) ⟨[.ref a],[]⟩) (λ r s'=>r=.ok (.ret (.bool true))/\OldK s₁.heap s'.heap/\s'.os=s₁.os/\Hk s'.gens) s₁:=by
  intro H hO hS hok hA hK;have base_of:∀ {b:Addr}{o:Obj},s₁.heap.get? b=some o->H b=none->(D6 s₁.heap H).get? b=some o:=λ e n=>jM e n;have noA:∀ {b:Addr}{o:Obj}{es:Array DictEntry}{ep:Nat},s₁.heap.get? b=some o->o.data=.dict es ep->H b=none:=λ {b o es ep} e d=>by
   cases q:H b with
   | none=>rfl
   | some u=>
    have e':b=a:=hA b (by rw [q];simp);subst e';rw [ha] at e;cases e;have d':Data.seq vs.toArray _=Data.dict es ep:=d;cases d'
  have nsK:∀ {b:Addr}{m:Str->Option Ae},s₁.heap.Ns b m->(D6 s₁.heap H).Ns b m:=λ {b m} ⟨o,es,ep,e,d,r⟩=>⟨o,es,ep,base_of e (noA e d),d,r⟩
  have hKb:K.In (D6 s₁.heap H):=λ b o e=>base_of (KX b o e) (by
   cases q:H b with
   | none=>rfl
   | some u=>
    have e':b=a:=hA b (by rw [q];simp);subst e';rw [hK (by rw [q];simp)] at e;cases e)
  have hM:Mod K mg (D6 s₁.heap H):=⟨hKb,nsK hns,⟨mb,nsK hb,hbb⟩,let ⟨mc,h1,h2⟩:=hlim;⟨mc,nsK h1,h2⟩⟩
  have e0:Env0 P w K mg (D6 s₁.heap H) Jl [] s₁ H:=⟨rfl,hM,λ b o e=>zm e,SH (vz _ _),trivial,λ b hb=>absurd (show b∈([]:List Addr) from hb) (by simp),hok,.of_eq hg⟩
  refine codeAny_mono ((F _ hKb (nsK hns)).run Jl [] s₁ H ⟨[.ref a],[]⟩ [.ref a] [.ref a] _ _ hr e0 (hbind s₁ (.ref a)) (.cons rfl .nil) (hsp H hO hS)) λ r s' h=>?_;cases r with
  | error e=>exact (hCX H e s' h).elim
  | ok fl=>
   cases fl with
   | next=>exact E5 h
   | brk=>exact E5 h
   | cont=>exact E5 h
   | ret u=>
    obtain ⟨v,H',os,bare,un,hok',r',q⟩:=h;have q':v=.bl true:=q;subst q';obtain rfl:u=Value.bool true:=r';refine ⟨rfl,OldK.of_keep λ b o e=>?_,os,bare⟩;cases q:H b with
    | none=>exact un.keep b o e q (by intro z;exact absurd (show b∈([]:List Addr) from z) (by simp)) (by simp)
    | some u=>
     rcases hO b with z | ⟨ob,xs,z⟩
     ·rw [q] at z;cases z
     ·have z2:=un.frzs b ob _ z;obtain ⟨e1,_⟩:=hok b _ z;obtain ⟨e2,_⟩:=hok' b _ z2;rw [e] at e1;cases e1;exact e2
 cases hk:K.lookup a with
 | some o=>
  have e:=KX a o hk;rw [ha] at e;cases e;refine core (λ _=>none) (λ _=>.inl rfl) (.inr ⟨_,vs.toArray,_,hk,rfl,rfl,rfl,by rw [C4,lenV];exact hl,by simpa using rv⟩) (λ b u z=>by have z':(none:Option HO)=some u:=z;cases z') (λ b z=>absurd rfl z) λ z=>absurd rfl z
 | none=>
  refine core (λ b=>if b=a then some (.frz { cls:=.type "list",data:=.seq vs.toArray } (.lst (ns.map V.int))) else none) (λ b=>?_) (.inl (.inr ⟨{ cls:=.type "list",data:=.seq vs.toArray },if_pos rfl⟩)) (λ b u z=>?_) (λ b z=>?_) λ _=>hk
  ·by_cases hb:b=a
   ·exact .inr ⟨_,_,if_pos hb⟩
   ·exact .inl (if_neg hb)
  ·by_cases hb:b=a
   ·have z':=(if_pos hb).symm.trans z;cases z';subst hb;exact ⟨ha,by rw [Ax];exact hl,vs,_,rv,ha⟩
   ·have z':=(if_neg hb).symm.trans z;cases z'
  ·by_cases hb:b=a
   ·exact hb
   ·exact absurd (if_neg hb) z
structure Fun (K:PySem.W.Frag) (x qual:Str) (st:Stmt) (f:Addr) (fd:Dd):Prop where
 ex:∃ (oc:Ae) (od:Option Addr) (kV doc pm:Ae) (an:Option Addr) (cdv ct:Ae) (osl:Array (Option Ae)),
  fd=Kx x qual (Lp st) (Bv st) (AE st) .none kV doc pm an cdv ct/\K.lookup f=some ⟨oc,od,.func fd,osl⟩/\Qh K cdv qual=true
 kp:Jq K (.ref f)=true
section
variable {P:AD}{w:AB}{K:PySem.W.Frag}{mg:Str->Option Ae}{base:Heap}
def Fun.binds {x qual:Str}{st:Stmt}{f:Addr}{fd:Dd}{ps:List Str} (F:Fun K x qual st f fd)
  (h:∀ (kV doc pm:Ae) (an:Option Addr) (cdv ct:Ae) (us:List Ae),us.length=ps.length->bindArgs (Kx x qual (Lp st) (Bv st) (AE st) .none kV doc pm an cdv ct) ⟨us,[]⟩=pure (ps.zip us)):qaj K fd ps []:=by
 obtain ⟨oc,od,kV,doc,pm,an,cdv,ct,osl,rfl,lk,hcd⟩:=F.ex;exact .all (h kV doc pm an cdv ct)
def qf {x qual:Str}{st:Stmt}{f:Addr}{oc:Ae}{od an:Option Addr}{osl:Array (Option Ae)}{kV doc pm cdv ct:Ae} (l:K.lookup f=some ⟨oc,od,.func (Kx x qual (Lp st) (Bv st) (AE st) .none kV doc pm an cdv ct),osl⟩)
  (c:Qh K cdv qual=true) (k:Jq K (.ref f)=true):Fun K x qual st f (Kx x qual (Lp st) (Bv st) (AE st) .none kV doc pm an cdv ct):=⟨⟨oc,od,kV,doc,pm,an,cdv,ct,osl,rfl,l,c⟩,k⟩
end
section
variable {X:Cx}
end
end L2
namespace QQ
open PySem PySem.Spec PyProof.Rows L2
abbrev St:=L2.St
def KL (K:Frag) (a:Addr) (xs:List V):Prop:=∃ (o:Obj) (its:Array Ae) (n:Nat),K.lookup a=some o/\o.cls=.type "list" /\ o.dict=none/\o.data=.seq its n/\its.size<=A2/\Vals xs its.toList
def LI {K:Frag}{H:Hp}{a:Addr}{xs:List V} (h:BG K H a xs):NI K "list" (.ref a) H:=.inl ⟨rfl,xs,h⟩
def YM (z:Str):It:=⟨λ i _=>i < z.cps.size,λ i H v H'=>H'=H/\∃ c,z.cps[i]?=some c/\v=.str ⟨#[c]⟩,λ i _=>z.cps.size<=i⟩
def O1 (z:Str):Bool:=z.cps.all (·< 128)
def D5 (K:Frag) (tl:TE):TI:=λ σ H R=>tl σ H λ x H1=>(∃ a,x=.ref a/\(((∃ xs,BG K H1 a xs)/\R (Lc K a) H1)\/((∃ xs,Dr K H1 a xs)/\R (Tz K a) H1)))\/∃ z,x=.str z/\O1 z=true/\R (YM z) H1
def J6 (k:Nat) (wi:TI) (g:TG) (tc:TT) (te:TE):TE:=λ σ H Q=>wi σ H λ J H1=>∀ D,H1 D=none->∃ W:Nat->Nat->List V->Hp->Prop,(∃ m,W 0 m [] (As H1 D (.lst [])))/\∀ i m ys H,W i m ys H->H D=some (.lst ys) /\
 ((J.stop i H/\Q (.ref D) H)\/(J.go i H/\∀ x H',J.yld i H x H'->g x (σ++Bg k none) H' λ σ2 H2=>tc σ2 H2 λ b H3=>if b=true then te σ2 H3 λ y H4=>H4 D=some (.lst ys)/\ys.length < A2/\∃ m',m' < m/\W (i + 1) m' (ys++[y]) (As H4 D (.lst (ys++[y]))) else ∃ m',m' < m/\W (i + 1) m' ys H3))
inductive PV where
 | non | bl (b:Bool) | int (i:Int) | str (x:Str) | lst (xs:List PV) | tup (xs:List PV) | emp | dko | scr (ns:List Int) | dct (kvs:List (List Bh×V)) | exn (c:Nat)
 deriving Inhabited
inductive MO where
 | l (xs:List V) | d (kvs:List (List Bh×V))
def MO.ho:MO->HO
 | .l xs=>.lst xs
 | .d kvs=>.dT kvs
def Mc (a C:Addr) (h:Heap):Prop:=∃ o vs,h.get? a=some o/\o.cls=.ref C/\o.data=.fields vs
def om:Nat:=1000
def pd (d:Nat):Nat:=if d=om then om else d - 1
def C5:pd om=om:=rfl
def Ww:pd 0=0:=rfl
mutual
def Own (K:Frag) (H:Hp) (Z:Addr->Prop):PV->Nat->V->List Addr->Prop
 | .non,_,v,fp=>v=.non/\fp=[]
 | .bl b,_,v,fp=>v=.bl b/\fp=[]
 | .int i,_,v,fp=>v=.int i/\fp=[]
 | .str x,_,v,fp=>v=.str x/\fp=[]
 | .emp,_,v,fp=>fp=[]/\∃ a,v=.ref a/\H a=some (.dK [])
 | .dko,_,v,fp=>fp=[]/\∃ a,v=.ref a/\∃ kvs,H a=some (.dK kvs)
 | .scr ns,_,v,fp=>fp=[]/\∃ a,v=.ref a/\((∃ o,H a=some (.frz o (.lst (ns.map V.int))))\/KL K a (ns.map V.int))
 | .exn c,_,v,fp=>fp=[]/\∃ a C,v=.ref a/\DA K c=some C/\H a=some (.ext (Mc a C))
 | .dct kvs,d,v,fp=>∃ a,v=.ref a/\((d=0/\(H a=some (.dT kvs)/\¬ Z a)/\fp=[])\/(d≠0/\H a=some (.dT kvs)/\fp=[a]))
 | .lst xs,d,v,fp=>∃ a vs,v=.ref a/\((d=0/\(H a=some (.lst vs)/\¬ Z a)/\fp=[]/\OwnL K H Z xs 0 vs [])\/(d≠0/\∃ f,H a=some (.lst vs)/\fp=a::f/\a∉f/\OwnL K H Z xs (pd d) vs f))
 | .tup xs,d,v,fp=>∃ a vs,v=.ref a/\H a=some (.tup vs)/\OwnL K H Z xs (pd d) vs fp
def OwnL (K:Frag) (H:Hp) (Z:Addr->Prop):List PV->Nat->List V->List Addr->Prop
 | [],_,vs,fp=>vs=[]/\fp=[]
 | x::xs,d,vs,fp=>∃ v r f1 f2,vs=v::r/\fp=f1++f2/\(∀ a∈f1,a∉f2)/\Own K H Z x d v f1/\OwnL K H Z xs d r f2
end
def Cs (S:Addr->Prop) (H H':Hp):Prop:=∀ a o,H a=some o->¬ S a->H' a=some o
section
variable {K:Frag}{H H':Hp}{Z Z' S:Addr->Prop}
mutual
theorem Own.lsts:∀ (x:PV) (d:Nat) (v:V) (fp:List Addr),Own K H Z x d v fp->∀ a∈fp,∃ o:MO,H a=some o.ho
 | .non,_,_,_,h,a,ha=>by rw [Own] at h;rw [h.2] at ha;cases ha
 | .bl _,_,_,_,h,a,ha=>by rw [Own] at h;rw [h.2] at ha;cases ha
 | .int _,_,_,_,h,a,ha=>by rw [Own] at h;rw [h.2] at ha;cases ha
 | .str _,_,_,_,h,a,ha=>by rw [Own] at h;rw [h.2] at ha;cases ha
 | .emp,_,_,_,h,a,ha=>by rw [Own] at h;rw [h.1] at ha;cases ha
 | .dko,_,_,_,h,a,ha=>by rw [Own] at h;rw [h.1] at ha;cases ha
 | .scr _,_,_,_,h,a,ha=>by rw [Own] at h;rw [h.1] at ha;cases ha
 | .exn _,_,_,_,h,a,ha=>by rw [Own] at h;rw [h.1] at ha;cases ha
 | .dct kvs,d,v,fp,h,a,ha=>by
  rw [Own] at h;obtain ⟨b,_,⟨_,_,e⟩ | ⟨_,hb,e⟩⟩:=h
  ·rw [e] at ha;cases ha
  ·rw [e] at ha;rw [jc0.mp ha];exact ⟨.d kvs,hb⟩
 | .lst xs,d,v,fp,h,a,ha=>by
  rw [Own] at h;obtain ⟨b,vs,_,⟨_,_,e,_⟩ | ⟨_,f,hb,e,_,hl⟩⟩:=h
  ·rw [e] at ha;cases ha
  ·rw [e] at ha;rcases ja9.mp ha with z | z
   ·exact ⟨.l vs,by rw [z];exact hb⟩
   ·exact OwnL.lsts xs _ vs f hl a z
 | .tup xs,d,v,fp,h,a,ha=>by
  rw [Own] at h;obtain ⟨b,vs,_,_,hl⟩:=h;exact OwnL.lsts xs _ vs fp hl a ha
theorem OwnL.lsts:∀ (xs:List PV) (d:Nat) (vs:List V) (fp:List Addr),OwnL K H Z xs d vs fp->∀ a∈fp,∃ o:MO,H a=some o.ho
 | [],_,_,_,h,a,ha=>by rw [OwnL] at h;rw [h.2] at ha;cases ha
 | x::xs,d,vs,fp,h,a,ha=>by
  rw [OwnL] at h;obtain ⟨v,r,f1,f2,_,e,_,h1,h2⟩:=h;rw [e] at ha;rcases jb2.mp ha with z | z
  ·exact Own.lsts x d v f1 h1 a z
  ·exact OwnL.lsts xs d r f2 h2 a z
end
mutual
theorem Own.move (k:Cs S H H') (hS:∀ a,S a->Z a/\∃ o:MO,H a=some o.ho) (hz:∀ a,H a≠none->¬ Z a->¬ Z' a):
  ∀ (x:PV) (d:Nat) (v:V) (fp:List Addr),(∀ a∈fp,¬ S a)->Own K H Z x d v fp->Own K H' Z' x d v fp
 | .non,_,_,_,_,h=>by rw [Own] at h ⊢;exact h
 | .bl _,_,_,_,_,h=>by rw [Own] at h ⊢;exact h
 | .int _,_,_,_,_,h=>by rw [Own] at h ⊢;exact h
 | .str _,_,_,_,_,h=>by rw [Own] at h ⊢;exact h
 | .emp,_,_,_,_,h=>by
  rw [Own] at h ⊢;obtain ⟨e,a,ev,ha⟩:=h;exact ⟨e,a,ev,k a _ ha λ s=>by obtain ⟨_,o,e⟩:=hS a s;rw [ha] at e;cases o <;> cases e⟩
 | .dko,_,_,_,_,h=>by
  rw [Own] at h ⊢;obtain ⟨e,a,ev,kvs,ha⟩:=h;exact ⟨e,a,ev,kvs,k a _ ha λ s=>by obtain ⟨_,o,e⟩:=hS a s;rw [ha] at e;cases o <;> cases e⟩
 | .scr ns,_,_,_,_,h=>by
  rw [Own] at h ⊢;obtain ⟨e,a,ev,⟨o,ha⟩ | ha⟩:=h
  ·exact ⟨e,a,ev,.inl ⟨o,k a _ ha λ s=>by obtain ⟨_,q,e⟩:=hS a s;rw [ha] at e;cases q <;> cases e⟩⟩
  ·exact ⟨e,a,ev,.inr ha⟩
 | .exn c,_,_,_,_,h=>by
  rw [Own] at h ⊢;obtain ⟨e,a,C,ev,hc,ha⟩:=h;exact ⟨e,a,C,ev,hc,k a _ ha λ s=>by obtain ⟨_,q,e⟩:=hS a s;rw [ha] at e;cases q <;> cases e⟩
 | .dct kvs,d,v,fp,hf,h=>by
  rw [Own] at h ⊢;obtain ⟨b,ev,⟨d0,hr,e⟩ | ⟨d0,hb,e⟩⟩:=h
  ·exact ⟨b,ev,.inl ⟨d0,⟨k b _ hr.1 λ s=>hr.2 (hS b s).1,hz b (by rw [hr.1];simp) hr.2⟩,e⟩⟩
  ·exact ⟨b,ev,.inr ⟨d0,k b _ hb (hf b (by rw [e];exact A9)),e⟩⟩
 | .lst xs,d,v,fp,hf,h=>by
  rw [Own] at h ⊢;obtain ⟨b,vs,ev,⟨d0,hr,e,hl⟩ | ⟨d0,f,hb,e,nb,hl⟩⟩:=h
  ·refine ⟨b,vs,ev,.inl ⟨d0,?_,e,OwnL.move k hS hz xs 0 vs [] (λ _ z=>nomatch z) hl⟩⟩;exact ⟨k b _ hr.1 λ s=>hr.2 (hS b s).1,hz b (by rw [hr.1];simp) hr.2⟩
  ·refine ⟨b,vs,ev,.inr ⟨d0,f,k b _ hb (hf b (by rw [e];exact A9)),e,nb,?_⟩⟩;exact OwnL.move k hS hz xs _ vs f (λ a ha=>hf a (by rw [e];exact A8 _ ha)) hl
 | .tup xs,d,v,fp,hf,h=>by
  rw [Own] at h ⊢;obtain ⟨b,vs,ev,hr,hl⟩:=h;exact ⟨b,vs,ev,k b _ hr (λ s=>by obtain ⟨_,o,e⟩:=hS b s;rw [hr] at e;cases o <;> cases e),OwnL.move k hS hz xs _ vs fp hf hl⟩
theorem OwnL.move (k:Cs S H H') (hS:∀ a,S a->Z a/\∃ o:MO,H a=some o.ho) (hz:∀ a,H a≠none->¬ Z a->¬ Z' a):
  ∀ (xs:List PV) (d:Nat) (vs:List V) (fp:List Addr),(∀ a∈fp,¬ S a)->OwnL K H Z xs d vs fp->OwnL K H' Z' xs d vs fp
 | [],_,_,_,_,h=>by rw [OwnL] at h ⊢;exact h
 | x::xs,d,vs,fp,hf,h=>by
  rw [OwnL] at h ⊢;obtain ⟨v,r,f1,f2,e1,e,dj,h1,h2⟩:=h;exact ⟨v,r,f1,f2,e1,e,dj,Own.move k hS hz x d v f1 (λ a ha=>hf a (by rw [e];exact Bq _ ha)) h1,OwnL.move k hS hz xs d r f2 (λ a ha=>hf a (by rw [e];exact Bb _ ha)) h2⟩
end
mutual
theorem Own.freeze (hz:∀ a,Z' a->Z a):∀ (x:PV) (d:Nat) (v:V) (fp:List Addr),(∀ a∈fp,¬ Z' a)->Own K H Z x d v fp->Own K H Z' x 0 v []
 | .non,_,_,_,_,h=>by rw [Own] at h ⊢;exact ⟨h.1,rfl⟩
 | .bl _,_,_,_,_,h=>by rw [Own] at h ⊢;exact ⟨h.1,rfl⟩
 | .int _,_,_,_,_,h=>by rw [Own] at h ⊢;exact ⟨h.1,rfl⟩
 | .str _,_,_,_,_,h=>by rw [Own] at h ⊢;exact ⟨h.1,rfl⟩
 | .emp,_,_,_,_,h=>by rw [Own] at h ⊢;exact ⟨rfl,h.2⟩
 | .dko,_,_,_,_,h=>by rw [Own] at h ⊢;exact ⟨rfl,h.2⟩
 | .scr _,_,_,_,_,h=>by rw [Own] at h ⊢;exact ⟨rfl,h.2⟩
 | .exn _,_,_,_,_,h=>by rw [Own] at h ⊢;exact ⟨rfl,h.2⟩
 | .dct kvs,d,v,fp,hf,h=>by
  rw [Own] at h ⊢;obtain ⟨b,ev,⟨d0,hr,e⟩ | ⟨d0,hb,e⟩⟩:=h
  ·exact ⟨b,ev,.inl ⟨rfl,⟨hr.1,λ z=>hr.2 (hz b z)⟩,rfl⟩⟩
  ·exact ⟨b,ev,.inl ⟨rfl,⟨hb,hf b (by rw [e];exact A9)⟩,rfl⟩⟩
 | .lst xs,d,v,fp,hf,h=>by
  rw [Own] at h ⊢;obtain ⟨b,vs,ev,⟨d0,hr,e,hl⟩ | ⟨d0,f,hb,e,nb,hl⟩⟩:=h
  ·refine ⟨b,vs,ev,.inl ⟨rfl,?_,rfl,OwnL.freeze hz xs 0 vs [] (λ _ z=>nomatch z) hl⟩⟩;exact ⟨hr.1,λ z=>hr.2 (hz b z)⟩
  ·exact ⟨b,vs,ev,.inl ⟨rfl,⟨hb,hf b (by rw [e];exact A9)⟩,rfl,OwnL.freeze hz xs _ vs f (λ a ha=>hf a (by rw [e];exact A8 _ ha)) hl⟩⟩
 | .tup xs,d,v,fp,hf,h=>by
  rw [Own] at h ⊢;obtain ⟨b,vs,ev,hr,hl⟩:=h;exact ⟨b,vs,ev,hr,OwnL.freeze hz xs _ vs fp hf hl⟩
theorem OwnL.freeze (hz:∀ a,Z' a->Z a):∀ (xs:List PV) (d:Nat) (vs:List V) (fp:List Addr),(∀ a∈fp,¬ Z' a)->OwnL K H Z xs d vs fp->OwnL K H Z' xs 0 vs []
 | [],_,_,_,_,h=>by rw [OwnL] at h ⊢;exact ⟨h.1,rfl⟩
 | x::xs,d,vs,fp,hf,h=>by
  rw [OwnL] at h ⊢;obtain ⟨v,r,f1,f2,e1,e,dj,h1,h2⟩:=h;exact ⟨v,r,[],[],e1,rfl,λ _ z=>(nomatch z),Own.freeze hz x d v f1 (λ a ha=>hf a (by rw [e];exact Bq _ ha)) h1,OwnL.freeze hz xs d r f2 (λ a ha=>hf a (by rw [e];exact Bb _ ha)) h2⟩
end
mutual
theorem Own.full:∀ (x:PV) (v:V) (fp:List Addr),Own K H Z x om v fp->Own K H Z' x om v fp
 | .non,_,_,h=>by rw [Own] at h ⊢;exact h
 | .bl _,_,_,h=>by rw [Own] at h ⊢;exact h
 | .int _,_,_,h=>by rw [Own] at h ⊢;exact h
 | .str _,_,_,h=>by rw [Own] at h ⊢;exact h
 | .emp,_,_,h=>by rw [Own] at h ⊢;exact h
 | .dko,_,_,h=>by rw [Own] at h ⊢;exact h
 | .scr _,_,_,h=>by rw [Own] at h ⊢;exact h
 | .exn _,_,_,h=>by rw [Own] at h ⊢;exact h
 | .dct kvs,v,fp,h=>by
  rw [Own] at h ⊢;obtain ⟨b,ev,⟨d0,_⟩ | ⟨d0,hb,e⟩⟩:=h
  ·exact absurd d0 (by decide)
  ·exact ⟨b,ev,.inr ⟨d0,hb,e⟩⟩
 | .lst xs,v,fp,h=>by
  rw [Own] at h ⊢;obtain ⟨b,vs,ev,⟨d0,_⟩ | ⟨d0,f,hb,e,nb,hl⟩⟩:=h
  ·exact absurd d0 (by decide)
  ·exact ⟨b,vs,ev,.inr ⟨d0,f,hb,e,nb,OwnL.full xs vs f hl⟩⟩
 | .tup xs,v,fp,h=>by
  rw [Own] at h ⊢;obtain ⟨b,vs,ev,hr,hl⟩:=h;exact ⟨b,vs,ev,hr,OwnL.full xs vs fp hl⟩
theorem OwnL.full:∀ (xs:List PV) (vs:List V) (fp:List Addr),OwnL K H Z xs om vs fp->OwnL K H Z' xs om vs fp
 | [],_,_,h=>by rw [OwnL] at h ⊢;exact h
 | x::xs,vs,fp,h=>by
  rw [OwnL] at h ⊢;obtain ⟨v,r,f1,f2,e1,e,dj,h1,h2⟩:=h;exact ⟨v,r,f1,f2,e1,e,dj,Own.full x v f1 h1,OwnL.full xs r f2 h2⟩
end
def Own.weak (hz:∀ a,Z' a->Z a) {x:PV}{d:Nat}{v:V}{fp:List Addr} (h:Own K H Z x d v fp):Own K H Z' x d v fp:=
 Own.move (S:=λ _=>False) (λ _ _ h _=>h) (λ _ z=>z.elim) (λ a _ n z=>n (hz a z)) x d v fp (λ _ _ z=>z) h
def OwnL.weak (hz:∀ a,Z' a->Z a) {xs:List PV}{d:Nat}{vs:List V}{fp:List Addr} (h:OwnL K H Z xs d vs fp):OwnL K H Z' xs d vs fp:=
 OwnL.move (S:=λ _=>False) (λ _ _ h _=>h) (λ _ z=>z.elim) (λ a _ n z=>n (hz a z)) xs d vs fp (λ _ _ z=>z) h
end
abbrev Slot:=Option (PV×Nat)
abbrev Ag:=List Slot
inductive Rz (α:Type) where
 | ok (a:α) | exc (c:Nat) | no
def Rz.bind {α β:Type} (r:Rz α) (f:α->Rz β):Rz β:=match r with
 | .ok a=>f a
 | .exc c=>.exc c
 | .no=>.no
abbrev Fx:=Ag->Rz (PV×Nat×Ag)
abbrev Fa:=Ag->Rz (List (PV×Nat)×Ag)
abbrev Fb:=Ag->Rz (Bool×Ag)
structure Fm where
 K:Frag
 Ms:Nat->Bool
 Zo:Addr->Prop
 H₀:Hp
 W:St->Nat->Hp->Prop
 io:Option V
 al:Nat->List Nat
 pn:List (Nat×V):=[]
abbrev AR:=Nat->List Addr
def Fm.Fre (M:Fm) (i:Nat):Prop:=(M.io≠none->i≠0)/\∀ p∈M.pn,p.1≠i
def Zf (M:Fm) (fps:AR):Addr->Prop:=λ a=>M.Zo a\/∃ i,a∈fps i
def Zv (M:Fm) (vs:List Nat) (fps:AR):Addr->Prop:=λ a=>M.Zo a\/∃ i,i∉vs/\a∈fps i
def Za (M:Fm) (fps:AR) (i:Nat):Addr->Prop:=λ a=>M.Zo a\/∃ j,j∉M.al i/\a∈fps j
def Zt (M:Fm) (vs:List Nat) (fps:AR) (fp:List Addr):Addr->Prop:=λ a=>Zv M vs fps a\/a∈fp
def Fm.plus (M:Fm) (fp:List Addr):Fm:={ M with Zo:=λ a=>M.Zo a\/a∈fp }
structure Rep (M:Fm) (ρ:Ag) (σ:St) (H:Hp) (fps:AR):Prop where
 own:∀ i x d,ρ[i]?=some (some (x,d))->∃ v,σ[i]?=some (some v)/\Own M.K H (Za M fps i) x d v (fps i)
 non:∀ i,(∀ p,ρ[i]?≠some (some p))->fps i=[]
 dj:∀ i j,i≠j->∀ a∈fps i,a∉fps j
 zo:∀ i,∀ a∈fps i,¬ M.Zo a
 fr:∀ i,M.Ms i=false->∀ a∈fps i,M.H₀ a=none
 zd:∀ a,M.Zo a->H a≠none
 len:ρ.length=σ.length
 msf:∀ i x d,M.Ms i=true->ρ[i]?=some (some (x,d))->d=om
 h0:∀ a,M.H₀ a≠none->H a≠none
 iov:(∀ v,M.io=some v->σ[0]?=some (some v)/\M.Ms 0=true)/\∀ p∈M.pn,σ[p.1]?=some (some p.2)
def Agr (M:Fm) (ρ ρ':Ag):Prop:=(∀ i,M.Ms i=false->ρ'[i]?=ρ[i]?)/\ρ'.length=ρ.length
structure KD (M:Fm) (H:Hp) (fps:AR) (H':Hp) (fps':AR):Prop where
 keep:Cs (λ a=>∃ i,M.Ms i=true/\a∈fps i) H H'
 dom:∀ a,H a≠none->H' a≠none
 sub:∀ i,∀ a∈fps' i,a∈fps i\/H a=none
 same:∀ i,M.Ms i=false->fps' i=fps i
def Tmps (K:Frag) (H:Hp) (Z:Addr->Prop):List (PV×Nat)->List V->List Addr->Prop
 | [],vs,fp=>vs=[]/\fp=[]
 | (x,d)::xs,vs,fp=>∃ v r f1 f2,vs=v::r/\fp=f1++f2/\(∀ a∈f1,a∉f2)/\Own K H (λ a=>Z a\/a∈f1) x d v f1/\Tmps K H Z xs r f2
structure Temp (M:Fm) (vs:List Nat) (H:Hp) (H':Hp) (fps':AR) (fp:List Addr):Prop where
 new:∀ a∈fp,H a=none
 ndj:∀ a∈fp,¬ Zf M fps' a
section
variable {M:Fm}{ρ ρ':Ag}{σ:St}{H H' H'':Hp}{fps fps' fps'':AR}{vs vs':List Nat}
def Agr.refl:Agr M ρ ρ:=⟨λ _ _=>rfl,rfl⟩
def Agr.trans {ρ'':Ag} (a:Agr M ρ ρ') (b:Agr M ρ' ρ''):Agr M ρ ρ'':=⟨λ i hi=>(b.1 i hi).trans (a.1 i hi),b.2.trans a.2⟩
def KD.refl:KD M H fps H fps:=⟨λ _ _ h _=>h,λ _ h=>h,λ _ _ h=>.inl h,λ _ _=>rfl⟩
def KD.trans (a:KD M H fps H' fps') (b:KD M H' fps' H'' fps''):KD M H fps H'' fps'' where
 keep:=λ x o h n=>b.keep x o (a.keep x o h n) λ ⟨i,hi,hx⟩=>(a.sub i x hx).elim (λ z=>n ⟨i,hi,z⟩) λ z=>by rw [z] at h;cases h
 dom:=λ x h=>b.dom x (a.dom x h)
 sub:=λ i x hx=>(b.sub i x hx).elim (λ z=>a.sub i x z) λ z=>.inr (by
  cases e:H x with
  | none=>rfl
  | some o=>exact absurd z (a.dom x (by rw [e];simp)))
 same:=λ i hi=>(b.same i hi).trans (a.same i hi)
def Za.zf {i:Nat}{a:Addr} (h:Za M fps i a):Zf M fps a:=h.elim .inl λ ⟨j,_,h⟩=>.inr ⟨j,h⟩
def Za.of {i:Nat} (hal:M.al i=[]) {a:Addr} (h:Zf M fps a):Za M fps i a:=h.elim .inl λ ⟨j,h⟩=>.inr ⟨j,(by rw [hal];simp),h⟩
def Rep.own0 (r:Rep M ρ σ H fps) (hal:∀ i,M.al i=[]) (i:Nat) (x:PV) (d:Nat) (e:ρ[i]?=some (some (x,d))):∃ v,σ[i]?=some (some v)/\Own M.K H (Zf M fps) x d v (fps i):=
 let ⟨v,h1,h2⟩:=r.own i x d e;⟨v,h1,h2.weak λ _ h=>Za.of (hal i) h⟩
def Rep.lsts (r:Rep M ρ σ H fps) {i:Nat}{a:Addr} (h:a∈fps i):∃ o:MO,H a=some o.ho:=by
 by_cases hp:∃ p,ρ[i]?=some (some p)
 ·obtain ⟨⟨x,d⟩,e⟩:=hp;obtain ⟨v,_,o⟩:=r.own i x d e;exact Own.lsts x d v _ o a h
 ·rw [r.non i λ p e=>hp ⟨p,e⟩] at h;cases h
def Rep.zdom (r:Rep M ρ σ H fps) {a:Addr} (h:Zf M fps a):H a≠none:=by
 rcases h with h | ⟨i,h⟩
 ·exact r.zd a h
 ·obtain ⟨xs,e⟩:=r.lsts h;rw [e];simp
def Rep.nz (r:Rep M ρ σ H fps) {a:Addr} (h:H a=none):¬ Zf M fps a:=λ z=>r.zdom z h
def Zv.zf {a:Addr} (h:Zv M vs fps a):Zf M fps a:=h.elim .inl λ ⟨i,_,h⟩=>.inr ⟨i,h⟩
def Zv.mono (hv:∀ i∈vs',i∈vs) {a:Addr} (h:Zv M vs fps a):Zv M vs' fps a:=h.elim .inl λ ⟨i,n,h⟩=>.inr ⟨i,λ z=>n (hv i z),h⟩
def Zt.mono (hv:∀ i∈vs',i∈vs) {a:Addr}{fp:List Addr} (h:Zt M vs fps fp a):Zt M vs' fps fp a:=h.elim (λ h=>.inl (h.mono hv)) .inr
def KD.stay (k:KD M H fps H' fps') (r:Rep M ρ σ H fps) (hv:∀ i∈vs,M.Ms i=false) {x:PV}{d:Nat}{v:V}{fp:List Addr} (h:Own M.K H (Zt M vs fps fp) x d v fp) (hf:∀ a∈fp,¬ Zf M fps a):Own M.K H' (Zt M vs fps' fp) x d v fp:=by
 have h1:∀ a,(∃ i,M.Ms i=true/\a∈fps i)->Zt M vs fps fp a/\∃ o:MO,H a=some o.ho:=by
  rintro a ⟨i,hi,ha⟩;exact ⟨.inl (.inr ⟨i,λ z=>(by rw [hv i z] at hi;cases hi),ha⟩),r.lsts ha⟩
 have h2:∀ a,H a≠none->¬ Zt M vs fps fp a->¬ Zt M vs fps' fp a:=by
  intro a hd nz z;rcases z with (z | ⟨i,ni,hx⟩) | z
  ·exact nz (.inl (.inl z))
  ·rcases k.sub i a hx with z | z
   ·exact nz (.inl (.inr ⟨i,ni,z⟩))
   ·exact hd z
  ·exact nz (.inr z)
 exact Own.move k.keep h1 h2 x d v fp (λ a ha ⟨i,_,hx⟩=>hf a ha (.inr ⟨i,hx⟩)) h
theorem KD.stays (k:KD M H fps H' fps') (r:Rep M ρ σ H fps) (hv:∀ i∈vs,M.Ms i=false):∀ {xs:List (PV×Nat)}{ws:List V}{fp:List Addr},Tmps M.K H (Zv M vs fps) xs ws fp->(∀ a∈fp,¬ Zf M fps a)->Tmps M.K H' (Zv M vs fps') xs ws fp
 | [],_,_,h,_=>h
 | (x,d)::xs,ws,fp,h,hf=>by
  obtain ⟨v,s,f1,f2,e1,e2,dj,h1,h2⟩:=h;exact ⟨v,s,f1,f2,e1,e2,dj,k.stay r hv h1 λ a ha=>hf a (by rw [e2];exact Bq _ ha),k.stays r hv h2 λ a ha=>hf a (by rw [e2];exact Bb _ ha)⟩
theorem Tmps.weak {K:Frag}{Z Z':Addr->Prop} (hz:∀ a,Z' a->Z a):∀ {xs:List (PV×Nat)}{ws:List V}{fp:List Addr},Tmps K H Z xs ws fp->Tmps K H Z' xs ws fp
 | [],_,_,h=>h
 | (x,d)::xs,ws,fp,h=>by
  obtain ⟨v,s,f1,f2,e1,e2,dj,h1,h2⟩:=h;exact ⟨v,s,f1,f2,e1,e2,dj,h1.weak λ a h=>h.elim (λ h=>.inl (hz a h)) .inr,h2.weak hz⟩
theorem KD.grow (k:∀ a o,H a=some o->H' a=some o):KD M H fps H' fps:=⟨λ a o h _=>k a o h,λ a h=>by
 cases e:H a with
 | none=>exact absurd e h
 | some o=>rw [k a o e];simp,λ _ _ h=>.inl h,λ _ _=>rfl⟩
def Rep.grow (r:Rep M ρ σ H fps) (k:∀ a o,H a=some o->H' a=some o):Rep M ρ σ H' fps where
 own:=λ i x d e=>by
  obtain ⟨v,hv,o⟩:=r.own i x d e;exact ⟨v,hv,Own.move (S:=λ _=>False) (λ a o h _=>k a o h) (λ _ z=>z.elim) (λ _ _ n=>n) x d v _ (λ _ _ z=>z) o⟩
 non:=r.non
 dj:=r.dj
 zo:=r.zo
 fr:=r.fr
 zd:=λ a h=>(KD.grow (M:=M) (fps:=fps) k).dom a (r.zd a h)
 len:=r.len
 msf:=r.msf
 h0:=λ a h=>(KD.grow (M:=M) (fps:=fps) k).dom a (r.h0 a h)
 iov:=r.iov
end
def tE (M:Fm) (f:Fx) (vs:List Nat):TE:=λ σ H Q=>∃ ρ fps,Rep M ρ σ H fps/\(match f ρ with
 | .ok (x,d,ρ')=>∀ v H' fps' fp,KD M H fps H' fps'->Agr M ρ ρ'->Rep M ρ' σ H' fps'->Own M.K H' (Zt M vs fps' fp) x d v fp->Temp M vs H H' fps' fp->Q v H'
 | .exc c=>∀ H' fps',KD M H fps H' fps'->M.W σ c H'
 | .no=>False)
def tL (M:Fm) (f:Fa) (vs:List Nat):TA:=λ σ H Q=>∃ ρ fps,Rep M ρ σ H fps/\(match f ρ with
 | .ok (xs,ρ')=>∀ ws H' fps' fp,KD M H fps H' fps'->Agr M ρ ρ'->Rep M ρ' σ H' fps'->Tmps M.K H' (Zv M vs fps') xs ws fp->Temp M vs H H' fps' fp->Q ws H'
 | .exc c=>∀ H' fps',KD M H fps H' fps'->M.W σ c H'
 | .no=>False)
def tT (M:Fm) (f:Fb):TT:=λ σ H Q=>∃ ρ fps,Rep M ρ σ H fps/\(match f ρ with
 | .ok (b,ρ')=>∀ H' fps',KD M H fps H' fps'->Agr M ρ ρ'->Rep M ρ' σ H' fps'->Q b H'
 | .exc c=>∀ H' fps',KD M H fps H' fps'->M.W σ c H'
 | .no=>False)
def BQ (M:Fm) (H:Hp) (fps:AR) (vs:List Nat) (F:List Addr) (z:PV) (d:Nat) (Q:VK):Prop:=
 ∀ u H' fp,(∀ a o,H a=some o->H' a=some o)->Own M.K H' (Zt M vs fps fp) z d u fp->(∀ a∈fp,a∈F\/H a=none)->Q u H'
section
variable {M:Fm}{ρ ρ':Ag}{σ:St}{H H' H'':Hp}{fps fps' fps'':AR}{vs vs':List Nat}{f g:Fx}{fa:Fa}{fb:Fb}{Q:VK}
def bC (x:PV):Fx:=λ ρ=>.ok (x,om,ρ)
def LH {x:PV}{v:V} (h:∀ K H Z,Own K H Z x om v []) {σ:St}{H:Hp}{Q:VK} (hq:tE M (bC x) [] σ H Q):tC v σ H Q:=by
 obtain ⟨ρ,fps,rep,q⟩:=hq;exact q v H fps [] KD.refl Agr.refl rep (h _ _ _) ⟨λ _ z=>(nomatch z),λ _ z=>nomatch z⟩
def dv:PV->Nat
 | .lst _=>0
 | .tup _=>0
 | .dct _=>0
 | _=>om
def Aa (i:Nat):Fx:=λ ρ=>match ρ[i]? with
 | some (some (x,_))=>.ok (x,dv x,ρ)
 | _=>.no
theorem Own.view {K:Frag}{Z Z':Addr->Prop}{x:PV}{d:Nat}{v:V}{fp:List Addr} (hz:∀ a,Z' a->Z a) (hf:∀ a∈fp,¬ Z' a) (h:Own K H Z x d v fp):Own K H Z' x (dv x) v []:=by
 have q:=Own.freeze hz x d v fp hf h;cases x with
 | lst xs=>exact q
 | tup xs=>exact q
 | dct kvs=>exact q
 | exn _=>rw [Own] at q ⊢;exact q
 | non=>rw [Own] at q ⊢;exact q
 | bl _=>rw [Own] at q ⊢;exact q
 | int _=>rw [Own] at q ⊢;exact q
 | str _=>rw [Own] at q ⊢;exact q
 | emp=>rw [Own] at q ⊢;exact q
 | dko=>rw [Own] at q ⊢;exact q
 | scr _=>rw [Own] at q ⊢;exact q
theorem VP {i:Nat}{σ:St}{H:Hp}{Q:VK} (hq:tE M (Aa i) (i::M.al i) σ H Q):Bl i σ H Q:=by
 obtain ⟨ρ,fps,rep,q⟩:=hq;unfold Aa at q;cases e0:ρ[i]? with
 | none=>rw [e0] at q;exact q.elim
 | some sl=>
  cases sl with
  | none=>rw [e0] at q;exact q.elim
  | some p=>
   obtain ⟨x0,d0⟩:=p;rw [e0] at q;obtain ⟨v,hv,o⟩:=rep.own i x0 d0 e0;refine ⟨v,hv,q v H fps [] KD.refl Agr.refl rep ((o.view (Z':=Zv M (i::M.al i) fps) (λ a h=>h.elim .inl λ ⟨j,n,h⟩=>.inr ⟨j,λ z=>n (A8 _ z),h⟩) λ a ha z=>?_).weak λ a h=>h.elim id λ z=>nomatch z) ⟨λ _ z=>(nomatch z),λ _ z=>nomatch z⟩⟩;rcases z with z | ⟨j,nj,hj⟩
   ·exact rep.zo i a ha z
   ·exact rep.dj i j (λ e=>nj (by simp [e])) a ha hj
def Ab (op:PV->Nat->PV->Nat->Option (PV×Nat)) (f g:Fx):Fx:=λ ρ=>(f ρ).bind λ (x,d,ρ1)=>(g ρ1).bind λ (y,e,ρ2)=>match op x d y e with
 | some (z,c)=>.ok (z,c,ρ2)
 | none=>.no
theorem Fh {op:PV->Nat->PV->Nat->Option (PV×Nat)}{r:R2} (hv:∀ i∈vs,M.Ms i=false)
  (leaf:∀ x d y e z c v w H fps f1 f2 Q,op x d y e=some (z,c)->Own M.K H (Zt M (vs++vs') fps f1) x d v f1->Own M.K H (Zt M (vs++vs') fps f2) y e w f2->(∀ a∈f1,a∉f2)->(∀ a∈f1++f2,¬ Zf M fps a)->(∀ a,Zf M fps a->H a≠none)->BQ M H fps (vs++vs') (f1++f2) z c Q->r v w H Q)
  {σ:St}{H:Hp}{Q:VK} (hq:tE M (Ab op f g) (vs++vs') σ H Q):En r (tE M f vs) (tE M g vs') σ H Q:=by
 obtain ⟨ρ,fps,rep,q⟩:=hq;refine ⟨ρ,fps,rep,?_⟩;unfold Ab at q;cases ef:f ρ with
 | no=>rw [ef] at q;exact q
 | exc c=>rw [ef] at q;exact q
 | ok p=>
  obtain ⟨x,d,ρ1⟩:=p;rw [ef] at q;intro v H1 fps1 f1 k1 g1 rep1 o1 t1;refine ⟨ρ1,fps1,rep1,?_⟩;dsimp only [Rz.bind] at q;cases eg:g ρ1 with
  | no=>rw [eg] at q;exact q
  | exc c=>rw [eg] at q;exact λ H' fps' k=>q H' fps' (k1.trans k)
  | ok p2=>
   obtain ⟨y,e,ρ2⟩:=p2;rw [eg] at q;intro w H2 fps2 f2 k2 g2 rep2 o2 t2;dsimp only at q;cases eo:op x d y e with
   | none=>rw [eo] at q;exact q.elim
   | some zc=>
    obtain ⟨z,c⟩:=zc;rw [eo] at q;have o1':=k2.stay rep1 hv o1 t1.ndj;have n1:∀ a∈f1,¬ Zf M fps2 a:=λ a ha z=>by
     rcases z with z | ⟨i,z⟩
     ·exact t1.ndj a ha (.inl z)
     ·rcases k2.sub i a z with z | z
      ·exact t1.ndj a ha (.inr ⟨i,z⟩)
      ·obtain ⟨xs,e⟩:=Own.lsts x d v f1 o1 a ha;rw [z] at e;cases e
    refine leaf x d y e z c v w H2 fps2 f1 f2 Q eo (o1'.weak λ a h=>Zt.mono (λ i hi=>Bq _ hi) h) (o2.weak λ a h=>Zt.mono (λ i hi=>Bb _ hi) h) (λ a h1 h2=>?_) (λ a ha=>?_) (λ a h=>rep2.zdom h) λ u H3 fp k3 o3 hfp=>?_
    ·obtain ⟨xs,e⟩:=Own.lsts x d v f1 o1 a h1;rw [t2.new a h2] at e;cases e
    ·rcases jb2.mp ha with z | z
     ·exact n1 a z
     ·exact t2.ndj a z
    ·have new:∀ a∈fp,H a=none:=λ a ha=>by
      have back:H1 a=none->H a=none:=λ e=>by
       cases e':H a with
       | none=>rfl
       | some o=>exact absurd e (k1.dom a (by rw [e'];simp))
      have back2:H2 a=none->H1 a=none:=λ e=>by
       cases e':H1 a with
       | none=>rfl
       | some o=>exact absurd e (k2.dom a (by rw [e'];simp))
      rcases hfp a ha with z | z
      ·rcases jb2.mp z with z | z
       ·exact t1.new a z
       ·exact back (t2.new a z)
      ·exact back (back2 z)
     refine q u H3 fps2 fp ((k1.trans k2).trans (KD.grow k3)) (g1.trans g2) (rep2.grow k3) o3 ⟨new,λ a ha=>?_⟩;rcases hfp a ha with z | z
     ·rcases jb2.mp z with z | z
      ·exact n1 a z
      ·exact t2.ndj a z
     ·exact rep2.nz z
end
section
variable {M:Fm}{vs vs':List Nat}{f g:Fx}{fa:Fa}{fb gb:Fb}
def Ao (op:PV->Nat->Option (PV×Nat)) (f:Fx):Fx:=λ ρ=>(f ρ).bind λ (x,d,ρ1)=>match op x d with
 | some (z,c)=>.ok (z,c,ρ1)
 | none=>.no
theorem K8 {op:PV->Nat->Option (PV×Nat)}{r:V->Hp->VK->Prop}
  (leaf:∀ x d z c v H fps f1 Q,op x d=some (z,c)->Own M.K H (Zt M vs fps f1) x d v f1->(∀ a∈f1,¬ Zf M fps a)->(∀ a,Zf M fps a->H a≠none)->BQ M H fps vs f1 z c Q->r v H Q)
  {σ:St}{H:Hp}{Q:VK} (hq:tE M (Ao op f) vs σ H Q):QN r (tE M f vs) σ H Q:=by
 obtain ⟨ρ,fps,rep,q⟩:=hq;refine ⟨ρ,fps,rep,?_⟩;unfold Ao at q;cases ef:f ρ with
 | no=>rw [ef] at q;exact q
 | exc c=>rw [ef] at q;exact q
 | ok p=>
  obtain ⟨x,d,ρ1⟩:=p;rw [ef] at q;intro v H1 fps1 f1 k1 g1 rep1 o1 t1;dsimp only [Rz.bind] at q;cases eo:op x d with
  | none=>rw [eo] at q;exact q.elim
  | some zc=>
   obtain ⟨z,c⟩:=zc;rw [eo] at q;refine leaf x d z c v H1 fps1 f1 Q eo o1 t1.ndj (λ a h=>rep1.zdom h) λ u H3 fp k3 o3 hfp=>?_;have back:∀ a,H1 a=none->H a=none:=λ a e=>by
    cases e':H a with
    | none=>rfl
    | some o=>exact absurd e (k1.dom a (by rw [e'];simp))
   refine q u H3 fps1 fp (k1.trans (KD.grow k3)) g1 (rep1.grow k3) o3 ⟨λ a ha=>(hfp a ha).elim (t1.new a) (back a),λ a ha=>(hfp a ha).elim (t1.ndj a) λ z=>rep1.nz z⟩
def Ac:Fa:=λ ρ=>.ok ([],ρ)
def Ad (f:Fx) (fa:Fa):Fa:=λ ρ=>(f ρ).bind λ (x,d,ρ1)=>(fa ρ1).bind λ (xs,ρ2)=>.ok ((x,d)::xs,ρ2)
def xj {σ:St}{H:Hp}{Q:List V->Hp->Prop} (hq:tL M Ac [] σ H Q):D0 σ H Q:=by
 obtain ⟨ρ,fps,rep,q⟩:=hq;exact q [] H fps [] KD.refl Agr.refl rep ⟨rfl,rfl⟩ ⟨λ _ z=>(nomatch z),λ _ z=>nomatch z⟩
theorem zS (hv:∀ i∈vs,M.Ms i=false) {σ:St}{H:Hp}{Q:List V->Hp->Prop} (hq:tL M (Ad f fa) (vs++vs') σ H Q):GC (tE M f vs) (tL M fa vs') σ H Q:=by
 obtain ⟨ρ,fps,rep,q⟩:=hq;refine ⟨ρ,fps,rep,?_⟩;unfold Ad at q;cases ef:f ρ with
 | no=>rw [ef] at q;exact q
 | exc c=>rw [ef] at q;exact q
 | ok p=>
  obtain ⟨x,d,ρ1⟩:=p;rw [ef] at q;intro v H1 fps1 f1 k1 g1 rep1 o1 t1;refine ⟨ρ1,fps1,rep1,?_⟩;dsimp only [Rz.bind] at q;cases eg:fa ρ1 with
  | no=>rw [eg] at q;exact q
  | exc c=>rw [eg] at q;exact λ H' fps' k=>q H' fps' (k1.trans k)
  | ok p2=>
   obtain ⟨ys,ρ2⟩:=p2;rw [eg] at q;intro ws H2 fps2 f2 k2 g2 rep2 o2 t2;dsimp only at q;have o1':=k2.stay rep1 hv o1 t1.ndj;have n1:∀ a∈f1,¬ Zf M fps2 a:=λ a ha z=>by
    rcases z with z | ⟨i,z⟩
    ·exact t1.ndj a ha (.inl z)
    ·rcases k2.sub i a z with z | z
     ·exact t1.ndj a ha (.inr ⟨i,z⟩)
     ·obtain ⟨xs,e⟩:=Own.lsts x d v f1 o1 a ha;rw [z] at e;cases e
   have back:∀ a,H1 a=none->H a=none:=λ a e=>by
    cases e':H a with
    | none=>rfl
    | some o=>exact absurd e (k1.dom a (by rw [e'];simp))
   refine q (v::ws) H2 fps2 (f1++f2) (k1.trans k2) (g1.trans g2) rep2 ⟨v,ws,f1,f2,rfl,rfl,λ a h1 h2=>?_,o1'.weak λ a h=>Zt.mono (λ i hi=>Bq _ hi) h,o2.weak λ a h=>h.mono λ i hi=>Bb _ hi⟩ ⟨λ a ha=>?_,λ a ha=>?_⟩
   ·obtain ⟨xs,e⟩:=Own.lsts x d v f1 o1 a h1;rw [t2.new a h2] at e;cases e
   ·rcases jb2.mp ha with z | z
    ·exact t1.new a z
    ·exact back a (t2.new a z)
   ·rcases jb2.mp ha with z | z
    ·exact n1 a z
    ·exact t2.ndj a z
def Al (op:List (PV×Nat)->Option (PV×Nat)) (fa:Fa):Fx:=λ ρ=>(fa ρ).bind λ (xs,ρ1)=>match op xs with
 | some (z,c)=>.ok (z,c,ρ1)
 | none=>.no
theorem Sg {op:List (PV×Nat)->Option (PV×Nat)}{r:List V->Hp->VK->Prop}
  (leaf:∀ xs z c ws H fps fp Q,op xs=some (z,c)->Tmps M.K H (Zv M vs fps) xs ws fp->(∀ a∈fp,¬ Zf M fps a)->(∀ a,Zf M fps a->H a≠none)->BQ M H fps vs fp z c Q->r ws H Q)
  {σ:St}{H:Hp}{Q:VK} (hq:tE M (Al op fa) vs σ H Q):tL M fa vs σ H λ ws H1=>r ws H1 Q:=by
 obtain ⟨ρ,fps,rep,q⟩:=hq;refine ⟨ρ,fps,rep,?_⟩;unfold Al at q;cases ef:fa ρ with
 | no=>rw [ef] at q;exact q
 | exc c=>rw [ef] at q;exact q
 | ok p=>
  obtain ⟨xs,ρ1⟩:=p;rw [ef] at q;intro ws H1 fps1 f1 k1 g1 rep1 o1 t1;dsimp only [Rz.bind] at q;cases eo:op xs with
  | none=>rw [eo] at q;exact q.elim
  | some zc=>
   obtain ⟨z,c⟩:=zc;rw [eo] at q;refine leaf xs z c ws H1 fps1 f1 Q eo o1 t1.ndj (λ a h=>rep1.zdom h) λ u H3 fp k3 o3 hfp=>?_;have back:∀ a,H1 a=none->H a=none:=λ a e=>by
    cases e':H a with
    | none=>rfl
    | some o=>exact absurd e (k1.dom a (by rw [e'];simp))
   refine q u H3 fps1 fp (k1.trans (KD.grow k3)) g1 (rep1.grow k3) o3 ⟨λ a ha=>(hfp a ha).elim (t1.new a) (back a),λ a ha=>(hfp a ha).elim (t1.ndj a) λ z=>rep1.nz z⟩
def bT (f:Fx):Fb:=λ ρ=>(f ρ).bind λ (x,_,ρ1)=>match x with
 | .bl b=>.ok (b,ρ1)
 | _=>.no
theorem RU {σ:St}{H:Hp}{Q:Bool->Hp->Prop} (hq:tT M (bT f) σ H Q):tB (tE M f vs) σ H Q:=by
 obtain ⟨ρ,fps,rep,q⟩:=hq;refine ⟨ρ,fps,rep,?_⟩;unfold bT at q;cases ef:f ρ with
 | no=>rw [ef] at q;exact q
 | exc c=>rw [ef] at q;exact q
 | ok p=>
  obtain ⟨x,d,ρ1⟩:=p;rw [ef] at q;intro v H1 fps1 f1 k1 g1 rep1 o1 t1;dsimp only [Rz.bind] at q;cases x with
  | bl b=>
   rw [Own] at o1;exact ⟨b,o1.1,q H1 fps1 k1 g1 rep1⟩
  | _=>exact q.elim
def HL (f g:Fb):Fb:=λ ρ=>(f ρ).bind λ (b,ρ1)=>if b=true then g ρ1 else .ok (false,ρ1)
def OV (f g:Fb):Fb:=λ ρ=>(f ρ).bind λ (b,ρ1)=>if b=true then .ok (true,ρ1) else g ρ1
def HK (f:Fb):Fb:=λ ρ=>(f ρ).bind λ (b,ρ1)=>.ok (!b,ρ1)
theorem xv {σ:St}{H:Hp}{Q:Bool->Hp->Prop} (hq:tT M (HL fb gb) σ H Q):Jw (tT M fb) (tT M gb) σ H Q:=by
 obtain ⟨ρ,fps,rep,q⟩:=hq;refine ⟨ρ,fps,rep,?_⟩;unfold HL at q;cases ef:fb ρ with
 | no=>rw [ef] at q;exact q
 | exc c=>rw [ef] at q;exact q
 | ok p=>
  obtain ⟨b,ρ1⟩:=p;rw [ef] at q;intro H1 fps1 k1 g1 rep1;dsimp only [Rz.bind] at q;cases b with
  | false=>exact (q H1 fps1 k1 g1 rep1)
  | true=>
   refine ⟨ρ1,fps1,rep1,?_⟩;rw [if_pos rfl] at q;cases eg:gb ρ1 with
   | no=>rw [eg] at q;exact q
   | exc c=>rw [eg] at q;exact λ H' fps' k=>q H' fps' (k1.trans k)
   | ok p2=>rw [eg] at q;exact λ H' fps' k g r=>q H' fps' (k1.trans k) (g1.trans g) r
theorem ZO {σ:St}{H:Hp}{Q:Bool->Hp->Prop} (hq:tT M (OV fb gb) σ H Q):QR (tT M fb) (tT M gb) σ H Q:=by
 obtain ⟨ρ,fps,rep,q⟩:=hq;refine ⟨ρ,fps,rep,?_⟩;unfold OV at q;cases ef:fb ρ with
 | no=>rw [ef] at q;exact q
 | exc c=>rw [ef] at q;exact q
 | ok p=>
  obtain ⟨b,ρ1⟩:=p;rw [ef] at q;intro H1 fps1 k1 g1 rep1;dsimp only [Rz.bind] at q;cases b with
  | true=>exact (q H1 fps1 k1 g1 rep1)
  | false=>
   refine ⟨ρ1,fps1,rep1,?_⟩;rw [if_neg Cp] at q;cases eg:gb ρ1 with
   | no=>rw [eg] at q;exact q
   | exc c=>rw [eg] at q;exact λ H' fps' k=>q H' fps' (k1.trans k)
   | ok p2=>rw [eg] at q;exact λ H' fps' k g r=>q H' fps' (k1.trans k) (g1.trans g) r
theorem xx {σ:St}{H:Hp}{Q:Bool->Hp->Prop} (hq:tT M (HK fb) σ H Q):Jt (tT M fb) σ H Q:=by
 obtain ⟨ρ,fps,rep,q⟩:=hq;refine ⟨ρ,fps,rep,?_⟩;unfold HK at q;cases ef:fb ρ with
 | no=>rw [ef] at q;exact q
 | exc c=>rw [ef] at q;exact q
 | ok p=>obtain ⟨b,ρ1⟩:=p;rw [ef] at q;exact q
theorem Tmps.all {K:Frag}{H:Hp}{Z:Addr->Prop}:∀ {xs:List (PV×Nat)}{ws:List V}{fp:List Addr},Tmps K H Z xs ws fp->(∀ p∈xs,p.2=om)->OwnL K H Z (xs.map (·.1)) om ws fp
 | [],_,_,h,_=>by rw [Dq,OwnL];exact h
 | (x,d)::xs,ws,fp,h,ha=>by
  obtain ⟨v,s,f1,f2,e1,e2,dj,h1,h2⟩:=h;have e:d=om:=ha (x,d) A9;subst e;rw [Bf,OwnL];exact ⟨v,s,f1,f2,e1,e2,dj,Own.full x v f1 h1,h2.all λ p hp=>ha p (A8 _ hp)⟩
theorem Tmps.cold {K:Frag}{H:Hp}{Z:Addr->Prop}:∀ {xs:List (PV×Nat)}{ws:List V}{fp:List Addr},Tmps K H Z xs ws fp->(∀ a∈fp,¬ Z a)->OwnL K H Z (xs.map (·.1)) 0 ws []
 | [],_,_,h,_=>by rw [Dq,OwnL];exact ⟨h.1,rfl⟩
 | (x,d)::xs,ws,fp,h,ha=>by
  obtain ⟨v,s,f1,f2,e1,e2,dj,h1,h2⟩:=h;rw [Bf,OwnL];exact ⟨v,s,[],[],e1,rfl,λ _ z=>(nomatch z),Own.freeze (λ _ z=>.inl z) x d v f1 (λ a z=>ha a (by rw [e2];exact Bq _ z)) h1,h2.cold λ a z=>ha a (by rw [e2];exact Bb _ z)⟩
theorem Tmps.length {K:Frag}{H:Hp}{Z:Addr->Prop}:∀ {xs:List (PV×Nat)}{ws:List V}{fp:List Addr},Tmps K H Z xs ws fp->ws.length=xs.length
 | [],_,_,h=>by rw [h.1];rfl
 | (x,d)::xs,ws,fp,h=>by
  obtain ⟨v,s,f1,f2,e1,e2,dj,h1,h2⟩:=h;rw [e1,Ba,Ba,h2.length]
theorem OwnL.length {K:Frag}{H:Hp}{Z:Addr->Prop}:∀ {xs:List PV}{d:Nat}{ws:List V}{fp:List Addr},OwnL K H Z xs d ws fp->ws.length=xs.length
 | [],_,_,_,h=>by rw [OwnL] at h;rw [h.1];rfl
 | x::xs,d,ws,fp,h=>by
  rw [OwnL] at h;obtain ⟨v,s,f1,f2,e1,e2,dj,h1,h2⟩:=h;rw [e1,Ba,Ba,h2.length]
end
inductive Rs where
 | nx (ρ:Ag) | rt (x:PV) (d:Nat) (ρ:Ag) | bk (ρ:Ag) | ct (ρ:Ag) | exc (c:Nat) | no
abbrev Fs:=Ag->Rs
structure KS (M:Fm) (H:Hp) (fps:AR) (H':Hp) (fps':AR):Prop where
 keep:Cs (λ a=>∃ i,a∈fps i) H H'
 dom:∀ a,H a≠none->H' a≠none
 sub:∀ i,∀ a∈fps' i,(∃ j,a∈fps j)\/H a=none
def Zr (M:Fm) (fps:AR):Addr->Prop:=λ a=>M.Zo a\/(M.io≠none/\a∈fps 0)
def RsOk (M:Fm) (D:Ends) (H:Hp) (fps:AR):Rs->Prop
 | .nx ρ'=>∀ σ' H' fps',KS M H fps H' fps'->Rep M ρ' σ' H' fps'->D.nx σ' H'
 | .bk ρ'=>∀ σ' H' fps',KS M H fps H' fps'->Rep M ρ' σ' H' fps'->D.bk σ' H'
 | .ct ρ'=>∀ σ' H' fps',KS M H fps H' fps'->Rep M ρ' σ' H' fps'->D.ct σ' H'
 | .rt x d ρ'=>∀ v σ' H' fps' fp,KS M H fps H' fps'->Rep M ρ' σ' H' fps'->Own M.K H' (λ a=>Zr M fps' a\/a∈fp) x d v fp->(∀ a∈fp,M.H₀ a=none/\¬ Zr M fps' a)->D.rt v H'
 | .exc c=>∀ σ' H' fps',KS M H fps H' fps'->M.W σ' c H'
 | .no=>False
def tS (M:Fm) (f:Fs):TS:=λ D σ H=>∃ ρ fps,Rep M ρ σ H fps/\RsOk M D H fps (f ρ)
section
variable {M:Fm}{ρ ρ':Ag}{σ σ':St}{H H' H'':Hp}{fps fps' fps'':AR}{vs vs':List Nat}
def KS.refl:KS M H fps H fps:=⟨λ _ _ h _=>h,λ _ h=>h,λ i _ h=>.inl ⟨i,h⟩⟩
def KD.ks (k:KD M H fps H' fps'):KS M H fps H' fps':=⟨λ a o h n=>k.keep a o h λ ⟨i,_,z⟩=>n ⟨i,z⟩,k.dom,λ i a h=>(k.sub i a h).elim (λ z=>.inl ⟨i,z⟩) .inr⟩
def KS.trans (a:KS M H fps H' fps') (b:KS M H' fps' H'' fps''):KS M H fps H'' fps'' where
 keep:=λ x o h n=>b.keep x o (a.keep x o h n) λ ⟨i,hx⟩=>(a.sub i x hx).elim (λ z=>n z) λ z=>by rw [z] at h;cases h
 dom:=λ x h=>b.dom x (a.dom x h)
 sub:=λ i x hx=>(b.sub i x hx).elim (λ ⟨j,z⟩=>a.sub j x z) λ z=>.inr (by
  cases e:H x with
  | none=>rfl
  | some o=>exact absurd z (a.dom x (by rw [e];simp)))
theorem KS.back (k:KS M H fps H' fps') {a:Addr} (h:H' a=none):H a=none:=by
 cases e:H a with
 | none=>rfl
 | some o=>exact absurd h (k.dom a (by rw [e];simp))
def KS.stay0 (k:KS M H fps H' fps') (r:Rep M ρ σ H fps) {x:PV}{v:V} (h:Own M.K H (Zf M fps) x 0 v []):Own M.K H' (Zf M fps') x 0 v []:=by
 refine Own.move k.keep (λ a ⟨i,ha⟩=>⟨.inr ⟨i,ha⟩,r.lsts ha⟩) ?_ x 0 v [] (λ _ z=>nomatch z) h;intro a hd nz z;rcases z with z | ⟨i,hx⟩
 ·exact nz (.inl z)
 ·rcases k.sub i a hx with z | z
  ·exact nz (.inr z)
  ·exact hd z
def Aq:Fs:=λ ρ=>.nx ρ
def Af (f g:Fs):Fs:=λ ρ=>match f ρ with
 | .nx ρ1=>g ρ1
 | r=>r
def xn {D:Ends} (hq:tS M Aq D σ H):Vb D σ H:=by
 obtain ⟨ρ,fps,rep,q⟩:=hq;exact q σ H fps KS.refl rep
def AG (c:Fb) (f g:Fs):Fs:=λ ρ=>match c ρ with
 | .ok (b,ρ1)=>if b=true then f ρ1 else g ρ1
 | .exc e=>.exc e
 | .no=>.no
theorem RsOk.from {D:Ends}{r:Rs} (k1:KS M H fps H' fps') (q:RsOk M D H fps r):RsOk M D H' fps' r:=by
 cases r with
 | no=>exact q
 | exc c=>exact λ σ' H' fps' k=>q σ' H' fps' (k1.trans k)
 | rt x d ρ2=>exact λ v σ' H' fps' fp k=>q v σ' H' fps' fp (k1.trans k)
 | bk ρ2=>exact λ σ' H' fps' k=>q σ' H' fps' (k1.trans k)
 | ct ρ2=>exact λ σ' H' fps' k=>q σ' H' fps' (k1.trans k)
 | nx ρ2=>exact λ σ' H' fps' k=>q σ' H' fps' (k1.trans k)
theorem xt {f g:Fs}{D:Ends} (hq:tS M (Af f g) D σ H):LU (tS M f) (tS M g) D σ H:=by
 obtain ⟨ρ,fps,rep,q⟩:=hq;refine ⟨ρ,fps,rep,?_⟩;unfold Af at q;cases ef:f ρ with
 | no=>rw [ef] at q;exact q
 | exc c=>rw [ef] at q;exact q
 | rt x d ρ1=>rw [ef] at q;exact q
 | bk ρ1=>rw [ef] at q;exact q
 | ct ρ1=>rw [ef] at q;exact q
 | nx ρ1=>
  rw [ef] at q;exact λ σ1 H1 fps1 k1 rep1=>⟨ρ1,fps1,rep1,RsOk.from k1 q⟩
theorem ZN {c:Fb}{f g:Fs}{D:Ends} (hq:tS M (AG c f g) D σ H):LW (tT M c) (tS M f) (tS M g) D σ H:=by
 obtain ⟨ρ,fps,rep,q⟩:=hq;refine ⟨ρ,fps,rep,?_⟩;unfold AG at q;cases ef:c ρ with
 | no=>rw [ef] at q;exact q
 | exc c=>rw [ef] at q;exact λ H' fps' k=>q _ H' fps' k.ks
 | ok p=>
  obtain ⟨b,ρ1⟩:=p;rw [ef] at q;intro H1 fps1 k1 g1 rep1;dsimp only at q;cases b with
  | true=>
   rw [if_pos rfl] at q ⊢;exact ⟨ρ1,fps1,rep1,RsOk.from k1.ks q⟩
  | false=>
   rw [if_neg Cp] at q ⊢;exact ⟨ρ1,fps1,rep1,RsOk.from k1.ks q⟩
def cool (vs:List Nat):Nat->Ag->Ag
 | _,[]=>[]
 | k,s::r=>(if vs.contains k then s.map λ p=>(p.1,0) else s)::cool vs (k + 1) r
def CF (d:Nat) (vs:List Nat) (ρ:Ag):Ag:=if d=om then ρ else cool vs 0 ρ
theorem Nd (vs:List Nat):∀ (ρ:Ag) (k i:Nat),(cool vs k ρ)[i]?=(ρ[i]?).map λ s=>if vs.contains (k + i) then s.map λ p=>(p.1,0) else s
 | [],k,i=>by simp [cool]
 | s::r,k,0=>by simp [cool]
 | s::r,k,i + 1=>by
  rw [cool,JK,Nd vs r (k + 1) i,JK]
  have:k + 1 + i=k + (i + 1):=by omega
  rw [this]
theorem PJ (vs:List Nat):∀ (ρ:Ag) (k:Nat),(cool vs k ρ).length=ρ.length
 | [],_=>rfl
 | s::r,k=>by rw [cool,Ba,PJ vs r (k + 1),Ba]
def Ei (vs:List Nat) (fps:AR):AR:=λ i=>if vs.contains i then [] else fps i
def Gv {a:Addr}{i:Nat} (h:a∈Ei vs fps i):a∈fps i/\i∉vs:=by
 unfold Ei at h;split at h
 ·cases h
 ·rename_i n;exact ⟨h,λ z=>n (by simpa using z)⟩
def Ih {a:Addr} (h:Zf M (Ei vs fps) a):Zv M vs fps a:=h.elim .inl λ ⟨i,z⟩=>.inr ⟨i,(Gv z).2,(Gv z).1⟩
def Rep.cool (r:Rep M ρ σ H fps) (hal:∀ i,M.al i=[]) (hv:∀ i∈vs,M.Ms i=false):Rep M (cool vs 0 ρ) σ H (Ei vs fps) where
 own:=λ i x d e=>by
  rw [Nd] at e;cases e1:ρ[i]? with
  | none=>rw [e1] at e;cases e
  | some s=>
   rw [e1] at e;simp only [IG,DS] at e;by_cases hc:vs.contains i=true
   ·rw [if_pos hc] at e;cases s with
    | none=>cases e
    | some p=>
     obtain ⟨x0,d0⟩:=p;simp only [IG,Option.some.injEq,Prod.mk.injEq] at e;obtain ⟨rfl,rfl⟩:=e;obtain ⟨v,hσ,o⟩:=r.own0 hal i x0 d0 e1;refine ⟨v,hσ,Own.weak (Z:=Zf M (Ei vs fps)) (λ a h=>h.zf) ?_⟩
     have:Ei vs fps i=[]:=by unfold Ei;rw [if_pos hc]
     rw [this];exact Own.freeze (λ a h=>Zv.zf (Ih h)) x0 d0 v _ (λ a ha z=>by
      rcases z with z | ⟨j,z⟩
      ·exact r.zo i a ha z
      ·obtain ⟨z1,z2⟩:=Gv z;exact r.dj i j (λ e=>z2 (by rw [<- e];simpa using hc)) a ha z1) o
   ·rw [if_neg hc] at e;cases e;obtain ⟨v,hσ,o⟩:=r.own0 hal i x d e1;refine ⟨v,hσ,Own.weak (Z:=Zf M (Ei vs fps)) (λ a h=>h.zf) ?_⟩
    have:Ei vs fps i=fps i:=by unfold Ei;rw [if_neg hc]
    rw [this];exact o.weak λ a h=>Zv.zf (Ih h)
 non:=λ i h=>by
  unfold Ei;split
  ·rfl
  ·rename_i hc;refine r.non i λ p e=>h p ?_;rw [Nd,e];simp only [IG,DS];rw [if_neg hc]
 dj:=λ i j hij a ha hb=>r.dj i j hij a (Gv ha).1 (Gv hb).1
 zo:=λ i a ha=>r.zo i a (Gv ha).1
 fr:=λ i hi a ha=>r.fr i hi a (Gv ha).1
 zd:=r.zd
 len:=by rw [PJ];exact r.len
 msf:=λ i x d hi e=>by
  rw [Nd] at e;cases e1:ρ[i]? with
  | none=>rw [e1] at e;cases e
  | some s=>
   rw [e1] at e;simp only [IG,DS] at e;have hc:¬ vs.contains i=true:=λ z=>by rw [hv i (by simpa using z)] at hi;cases hi
   rw [if_neg hc] at e;cases e;exact r.msf i x d hi e1
 h0:=r.h0
 iov:=r.iov
def KS.cool (k:KS M H fps H' fps'):KS M H fps H' (Ei vs fps'):=⟨k.keep,k.dom,λ i a h=>k.sub i a (Gv h).1⟩
def Rep.wide {fp:List Addr} (hal:∀ i,∀ j∈M.al i,M.Ms j=false) (r:Rep M ρ σ H fps) (k:KD M H fps H' fps') (g:Agr M ρ ρ') (r':Rep M ρ' σ H' fps') (hf:∀ a∈fp,H a=none/\H' a≠none/\¬ Zf M fps' a):Rep (M.plus fp) ρ' σ H' fps' where
 own:=λ i x d e=>by
  by_cases hm:M.Ms i=true
  ·obtain ⟨v,hv,o⟩:=r'.own i x d e;have hd:=r'.msf i x d hm e;subst hd;exact ⟨v,hv,Own.full x v _ o⟩
  ·have hm':M.Ms i=false:=by simpa using hm
   rw [g.1 i hm'] at e;obtain ⟨v,hv,o⟩:=r.own i x d e;refine ⟨v,hv,?_⟩;rw [k.same i hm'];refine Own.move k.keep (λ a ⟨j,hj,ha⟩=>⟨.inr ⟨j,λ z=>(by rw [hal i j z] at hj;cases hj),ha⟩,r.lsts ha⟩) ?_ x d v _ ?_ o
   ·intro a hd nz z;rcases z with (z | z) | ⟨j,nj,z⟩
    ·exact nz (.inl z)
    ·exact hd (hf a z).1
    ·rcases k.sub j a z with z | z
     ·exact nz (.inr ⟨j,nj,z⟩)
     ·exact hd z
   ·rintro a ha ⟨j,hj,hx⟩;exact r.dj i j (λ e=>by rw [e,hj] at hm';cases hm') a ha hx
 non:=r'.non
 dj:=r'.dj
 zo:=λ i a ha z=>z.elim (r'.zo i a ha) λ z=>(hf a z).2.2 (.inr ⟨i,ha⟩)
 fr:=r'.fr
 zd:=λ a z=>z.elim (r'.zd a) λ z=>(hf a z).2.1
 len:=r'.len
 msf:=r'.msf
 h0:=r'.h0
 iov:=r'.iov
def Rep.put {i:Nat}{x:PV}{d:Nat}{v:V}{fp:List Addr} (r:Rep (M.plus fp) ρ σ H fps) (h:Own M.K H (λ a=>Za M fps i a\/a∈fp) x d v fp) (hf:∀ a∈fp,M.H₀ a=none/\¬ M.Zo a) (hi:i < ρ.length) (hm:M.Ms i=true->d=om) (hio:M.Fre i):
  Rep M (ρ.set i (some (x,d))) (σ.set i (some v)) H (λ j=>if j=i then fp else fps j):=by
 have zz:∀ a,Zf M (λ j=>if j=i then fp else fps j) a->Zf M fps a\/a∈fp:=λ a h=>by
  rcases h with z | ⟨j,z⟩
  ·exact .inl (.inl z)
  ·by_cases e:j=i
   ·simp only [if_pos e] at z;exact .inr z
   ·simp only [if_neg e] at z;exact .inl (.inr ⟨j,z⟩)
 have zz2:∀ a,Zf M fps a\/a∈fp->Zf (M.plus fp) fps a:=λ a h=>h.elim (λ h=>h.elim (λ z=>.inl (.inl z)) λ z=>.inr z) λ z=>.inl (.inr z);refine ⟨λ j y e hj=>?_,λ j hj=>?_,λ j k hjk a ha hb=>?_,λ j a ha z=>?_,λ j hj a ha=>?_,λ a z=>r.zd a (.inl z),?_,λ j y e hj he=>?_,r.h0,?_⟩
 ·by_cases e:j=i
  ·subst e;rw [D4 hi] at hj;cases hj;refine ⟨v,by rw [D4 (by rw [<- r.len];exact hi)],?_⟩;rw [if_pos rfl];refine h.weak λ a h=>?_;rcases h with z | ⟨k,nk,z⟩
   ·exact .inl (.inl z)
   ·by_cases ek:k=j
    ·simp only [if_pos ek] at z;exact .inr z
    ·simp only [if_neg ek] at z;exact .inl (.inr ⟨k,nk,z⟩)
  ·rw [Cw (BY e)] at hj;obtain ⟨w,hw,o⟩:=r.own j y _ hj;refine ⟨w,by rw [Cw (BY e)];exact hw,?_⟩;rw [if_neg e];refine o.weak λ a h=>?_;rcases h with z | ⟨k,nk,z⟩
   ·exact .inl (.inl z)
   ·by_cases ek:k=i
    ·simp only [if_pos ek] at z;exact .inl (.inr z)
    ·simp only [if_neg ek] at z;exact .inr ⟨k,nk,z⟩
 ·by_cases e:j=i
  ·subst e;exact absurd (D4 hi) (hj _)
  ·rw [if_neg e];exact r.non j λ p hp=>hj p (by rw [Cw (BY e)];exact hp)
 ·by_cases e1:j=i
  ·by_cases e2:k=i
   ·exact hjk (e1.trans e2.symm)
   ·rw [if_pos e1] at ha;rw [if_neg e2] at hb;exact r.zo k a hb (.inr ha)
  ·rw [if_neg e1] at ha;by_cases e2:k=i
   ·rw [if_pos e2] at hb;exact r.zo j a ha (.inr hb)
   ·rw [if_neg e2] at hb;exact r.dj j k hjk a ha hb
 ·by_cases e:j=i
  ·rw [if_pos e] at ha;exact (hf a ha).2 z
  ·rw [if_neg e] at ha;exact r.zo j a ha (.inl z)
 ·by_cases e:j=i
  ·rw [if_pos e] at ha;exact (hf a ha).1
  ·rw [if_neg e] at ha;exact r.fr j hj a ha
 ·rw [DT,DT];exact r.len
 ·by_cases e:j=i
  ·subst e;rw [D4 hi] at he;cases he;exact hm hj
  ·rw [Cw (BY e)] at he;exact r.msf j y _ hj he
 ·refine ⟨λ w hw=>?_,λ p hp=>?_⟩
  ·have h0:i≠0:=hio.1 (by rw [hw];simp);rw [Cw h0];exact r.iov.1 w hw
  ·rw [Cw (hio.2 p hp).symm];exact r.iov.2 p hp
def Ai (ms:Bool) (i:Nat) (f:Fx) (vs:List Nat):Fs:=λ ρ=>match f ρ with
 | .ok (x,d,ρ1)=>if i < ρ1.length/\(ms=true->d=om) then .nx ((CF d vs ρ1).set i (some (x,d))) else .no
 | .exc c=>.exc c
 | .no=>.no
def Rep.store {i:Nat}{x:PV}{d:Nat}{v:V}{fp:List Addr} (rep:Rep M ρ σ H fps) (k:KD M H fps H' fps') (g:Agr M ρ ρ') (r':Rep M ρ' σ H' fps') (o:Own M.K H' (Zt M vs fps' fp) x d v fp) (t:Temp M vs H H' fps' fp)
  (hal:∀ i,M.al i=[]) (hv:∀ i∈vs,M.Ms i=false) (hi:i < ρ'.length) (hm:M.Ms i=true->d=om) (hio:M.Fre i):
  ∃ fps2,KS M H fps H' fps2/\Rep M ((CF d vs ρ').set i (some (x,d))) (σ.set i (some v)) H' fps2:=by
 have back:∀ a,H a=none->M.H₀ a=none:=λ a e=>by
  cases e':M.H₀ a with
  | none=>rfl
  | some o=>exact absurd e (rep.h0 a (by rw [e'];simp))
 have w:Rep (M.plus fp) ρ' σ H' fps':=rep.wide (λ i j hj=>by rw [hal i] at hj;cases hj) k g r' λ a ha=>⟨t.new a ha,by obtain ⟨xs,e⟩:=Own.lsts x d v fp o a ha;rw [e];simp,t.ndj a ha⟩
 have hf:∀ a∈fp,M.H₀ a=none/\¬ M.Zo a:=λ a ha=>⟨back a (t.new a ha),λ z=>t.ndj a ha (.inl z)⟩
 have ks2:∀ {fps2:AR},(∀ i a,a∈fps2 i->a∈fps' i)->KS M H fps H' (λ j=>if j=i then fp else fps2 j):=λ {fps2} h2=>⟨k.ks.keep,k.dom,λ j a ha=>by
  by_cases e:j=i
  ·simp only [if_pos e] at ha;exact .inr (t.new a ha)
  ·simp only [if_neg e] at ha;exact k.ks.sub j a (h2 j a ha)⟩
 unfold CF;by_cases hd:d=om
 ·rw [if_pos hd];refine ⟨_,ks2 λ _ _ h=>h,w.put (i:=i) (x:=x) (d:=d) (v:=v) ?_ hf hi hm hio⟩;rw [hd] at o ⊢;exact Own.full x v fp o
 ·rw [if_neg hd];refine ⟨_,ks2 λ _ _ h=>(Gv h).1,(w.cool (vs:=vs) hal hv).put (i:=i) (x:=x) (d:=d) (v:=v) ?_ hf (by rw [PJ];exact hi) hm hio⟩;exact o.weak λ a h=>h.elim (λ h=>.inl (Ih h.zf)) .inr
theorem VQ {f:Fx}{i:Nat}{ms:Bool}{D:Ends} (hal:∀ i,M.al i=[]) (hv:∀ i∈vs,M.Ms i=false) (hms:M.Ms i=ms) (hio:M.Fre i) (hq:tS M (Ai ms i f vs) D σ H):DM (tE M f vs) (DK i) D σ H:=by
 obtain ⟨ρ,fps,rep,q⟩:=hq;refine ⟨ρ,fps,rep,?_⟩;unfold Ai at q;cases ef:f ρ with
 | no=>rw [ef] at q;exact q
 | exc c=>rw [ef] at q;exact λ H' fps' k=>q _ H' fps' k.ks
 | ok p=>
  obtain ⟨x,d,ρ1⟩:=p;rw [ef] at q;intro v H1 fps1 f1 k1 g1 rep1 o1 t1;dsimp only at q;by_cases hc:i < ρ1.length/\(ms=true->d=om)
  ·rw [if_pos hc] at q;obtain ⟨fps2,k2,r2⟩:=Rep.store rep k1 g1 rep1 o1 t1 hal hv hc.1 (λ h=>hc.2 (by rw [<- hms];exact h)) hio;exact q _ _ _ k2 r2
  ·rw [if_neg hc] at q;exact q.elim
end
section
variable {M:Fm}{ρ ρ':Ag}{σ σ':St}{H H' H'':Hp}{fps fps' fps'':AR}{vs vs':List Nat}
def Zr.zf {a:Addr} (h:Zr M fps a):Zf M fps a:=h.elim .inl λ h=>.inr ⟨0,h.2⟩
def Rep.zr (r:Rep M ρ σ H fps) (hv:∀ i∈vs,M.Ms i=false) {a:Addr} (h:Zr M fps a):Zv M vs fps a:=by
 rcases h with h | ⟨h1,h2⟩
 ·exact .inl h
 ·refine .inr ⟨0,λ z=>?_,h2⟩;cases e:M.io with
  | none=>exact h1 e
  | some v=>have:=(r.iov.1 v e).2;rw [hv 0 z] at this;cases this
theorem Rep.h0' (r:Rep M ρ σ H fps) {a:Addr} (e:H a=none):M.H₀ a=none:=by
 cases e':M.H₀ a with
 | none=>rfl
 | some o=>exact absurd e (r.h0 a (by rw [e'];simp))
def Ap (f:Fx):Fs:=λ ρ=>match f ρ with
 | .ok (x,d,ρ1)=>.rt x d ρ1
 | .exc c=>.exc c
 | .no=>.no
theorem xq {f:Fx}{D:Ends} (hv:∀ i∈vs,M.Ms i=false) (hq:tS M (Ap f) D σ H):Hr (tE M f vs) D σ H:=by
 obtain ⟨ρ,fps,rep,q⟩:=hq;refine ⟨ρ,fps,rep,?_⟩;unfold Ap at q;cases ef:f ρ with
 | no=>rw [ef] at q;exact q
 | exc c=>rw [ef] at q;exact λ H' fps' k=>q _ H' fps' k.ks
 | ok p=>
  obtain ⟨x,d,ρ1⟩:=p;rw [ef] at q;intro v H1 fps1 f1 k1 g1 rep1 o1 t1;exact q v σ H1 fps1 f1 k1.ks rep1 (o1.weak λ a h=>h.elim (λ h=>.inl (rep1.zr hv h)) .inr) λ a ha=>⟨rep.h0' (t1.new a ha),λ z=>t1.ndj a ha z.zf⟩
def FR (i:Nat):Fs:=λ ρ=>match ρ[i]? with
 | some (some (x,d))=>.rt x d ρ
 | _=>.no
theorem jm {i:Nat}{D:Ends} (hal:∀ i,M.al i=[]) (hm:M.Ms i=false) (hq:tS M (FR i) D σ H):Hr (Bl i) D σ H:=by
 obtain ⟨ρ,fps,rep,q⟩:=hq;unfold FR at q;cases e0:ρ[i]? with
 | none=>rw [e0] at q;exact q.elim
 | some sl=>
  cases sl with
  | none=>rw [e0] at q;exact q.elim
  | some p=>
   obtain ⟨x,d⟩:=p;rw [e0] at q;obtain ⟨v,hv,o⟩:=rep.own0 hal i x d e0;refine ⟨v,hv,q v σ H fps (fps i) KS.refl rep (o.weak λ a h=>h.elim Zr.zf λ z=>.inr ⟨i,z⟩) λ a ha=>⟨rep.fr i hm a ha,λ z=>?_⟩⟩;rcases z with z | ⟨z1,z2⟩
   ·exact rep.zo i a ha z
   ·cases e:M.io with
    | none=>exact z1 e
    | some w=>exact rep.dj i 0 (λ e'=>by rw [e',(rep.iov.1 w e).2] at hm;cases hm) a ha z2
def E3 (f:Fx):Fs:=λ ρ=>match f ρ with
 | .ok (_,_,ρ1)=>.nx ρ1
 | .exc c=>.exc c
 | .no=>.no
theorem zW {f:Fx}{D:Ends} (hq:tS M (E3 f) D σ H):J7 (tE M f vs) D σ H:=by
 obtain ⟨ρ,fps,rep,q⟩:=hq;refine ⟨ρ,fps,rep,?_⟩;unfold E3 at q;cases ef:f ρ with
 | no=>rw [ef] at q;exact q
 | exc c=>rw [ef] at q;exact λ H' fps' k=>q _ H' fps' k.ks
 | ok p=>
  obtain ⟨x,d,ρ1⟩:=p;rw [ef] at q;intro v H1 fps1 f1 k1 g1 rep1 o1 t1;exact q σ H1 fps1 k1.ks rep1
theorem OwnL.snoc {K:Frag}{Z:Addr->Prop}{y:PV}{d:Nat}{w:V}{fy:List Addr}:∀ {xs:List PV}{ws:List V}{f:List Addr},OwnL K H Z xs d ws f->Own K H Z y d w fy->(∀ a∈f,a∉fy)->OwnL K H Z (xs++[y]) d (ws++[w]) (f++fy)
 | [],ws,f,h,hy,_=>by
  rw [OwnL] at h;obtain ⟨rfl,rfl⟩:=h;show OwnL K H Z [y] d [w] fy;rw [OwnL];refine ⟨w,[],fy,[],rfl,by simp,λ _ _ z=>(nomatch z),hy,?_⟩;rw [OwnL];exact ⟨rfl,rfl⟩
 | x::xs,ws,f,h,hy,hd=>by
  rw [OwnL] at h;obtain ⟨v,s,f1,f2,rfl,rfl,dj,h1,h2⟩:=h;show OwnL K H Z (x::(xs++[y])) d (v::(s++[w])) (f1++f2++fy);rw [OwnL];refine ⟨v,s++[w],f1,f2++fy,rfl,by rw [OP],λ a ha hb=>?_,h1,h2.snoc hy λ a ha=>hd a (Bb _ ha)⟩;rcases jb2.mp hb with z | z
  ·exact dj a ha z
  ·exact hd a (Bq _ ha) z
def Own.at {K:Frag}{Z Z':Addr->Prop}{a:Addr}{o:HO}{x:PV}{d:Nat}{v:V}{fp:List Addr} (h:Own K H Z x d v fp) (hZ:Z a) (hl:∃ o:MO,H a=some o.ho) (hf:a∉fp) (hz:∀ b,H b≠none->¬ Z b->¬ Z' b):Own K (As H a o) Z' x d v fp:=
 Own.move (S:=λ b=>b=a) (λ b u hb n=>by rw [AM n];exact hb) (λ b e=>by rw [e];exact ⟨hZ,hl⟩) hz x d v fp (λ b hb e=>hf (by rw [<- e];exact hb)) h
def OwnL.at {K:Frag}{Z Z':Addr->Prop}{a:Addr}{o:HO}{x:List PV}{d:Nat}{v:List V}{fp:List Addr} (h:OwnL K H Z x d v fp) (hZ:Z a) (hl:∃ o:MO,H a=some o.ho) (hf:a∉fp) (hz:∀ b,H b≠none->¬ Z b->¬ Z' b):OwnL K (As H a o) Z' x d v fp:=
 OwnL.move (S:=λ b=>b=a) (λ b u hb n=>by rw [AM n];exact hb) (λ b e=>by rw [e];exact ⟨hZ,hl⟩) hz x d v fp (λ b hb e=>hf (by rw [<- e];exact hb)) h
def Rep.rewrite {i:Nat}{xs:List PV}{d:Nat}{a:Addr}{ws:List V}{zs:List PV}{us:List V}{e:Nat}{f f' fp:List Addr} (hal:∀ i,M.al i=[]) (r:Rep (M.plus fp) ρ σ H fps) (hi:ρ[i]?=some (some (.lst xs,d))) (hσ:σ[i]?=some (some (.ref a)))
  (ha:H a=some (.lst ws)) (hfp:fps i=a::f) (hn:a∉f') (hsub:∀ b∈f',b∈f\/b∈fp) (he:e≠0) (hm:M.Ms i=true->e=om) (hH:∀ b∈fp,M.H₀ b=none/\¬ M.Zo b)
  (hnew:OwnL M.K (As H a (.lst us)) (Zf M (λ j=>if j=i then a::f' else fps j)) zs (pd e) us f'):
  Rep M (ρ.set i (some (.lst zs,e))) σ (As H a (.lst us)) (λ j=>if j=i then a::f' else fps j):=by
 have hlen:i < ρ.length:=(jb1.mp hi).1;have hai:a∈fps i:=by rw [hfp];exact A9
 have zz:∀ b,Zf M (λ j=>if j=i then a::f' else fps j) b->Zf (M.plus fp) fps b:=λ b h=>by
  rcases h with z | ⟨j,z⟩
  ·exact .inl (.inl z)
  ·by_cases ej:j=i
   ·simp only [if_pos ej] at z;rcases ja9.mp z with z | z
    ·exact .inr ⟨i,by rw [z];exact hai⟩
    ·rcases hsub b z with z | z
     ·exact .inr ⟨i,by rw [hfp];exact A8 _ z⟩
     ·exact .inl (.inr z)
   ·simp only [if_neg ej] at z;exact .inr ⟨j,z⟩
 have dm:∀ b,H b≠none->(As H a (.lst us)) b≠none:=λ b h=>by
  by_cases eb:b=a
  ·rw [eb,BJ];simp
  ·rw [AM eb];exact h
 have inI:∀ b,b∈a::f'->b∈fps i\/b∈fp:=λ b hb=>by
  rcases ja9.mp hb with z | z
  ·exact .inl (by rw [z];exact hai)
  ·rcases hsub b z with z | z
   ·exact .inl (by rw [hfp];exact A8 _ z)
   ·exact .inr z
 refine ⟨λ j y c hj=>?_,λ j hj=>?_,λ j k hjk b hb hc=>?_,λ j b hb z=>?_,λ j hj b hb=>?_,λ b z=>dm b (r.zd b (.inl z)),by rw [DT];exact r.len,λ j y c hj hc=>?_,λ b z=>dm b (r.h0 b z),r.iov⟩
 ·by_cases ej:j=i
  ·subst ej;rw [D4 hlen] at hj;cases hj;refine ⟨_,hσ,?_⟩;rw [if_pos rfl,Own];exact ⟨a,us,rfl,.inr ⟨he,f',BJ,rfl,hn,hnew.weak λ _ h=>h.zf⟩⟩
  ·rw [Cw (BY ej)] at hj;obtain ⟨w,hw,ow⟩:=r.own0 hal j y c hj;refine ⟨w,hw,?_⟩;rw [if_neg ej];exact ow.at (.inr ⟨i,hai⟩) ⟨.l ws,ha⟩ (λ z=>r.dj j i ej a z hai) λ b _ nz z=>nz (zz b z.zf)
 ·by_cases ej:j=i
  ·subst ej;exact absurd (D4 hlen) (hj _)
  ·rw [if_neg ej];exact r.non j λ p hp=>hj p (by rw [Cw (BY ej)];exact hp)
 ·have one:∀ k,k≠i->∀ b,b∈a::f'->b∈fps k->False:=λ k hk b h1 h2=>(inI b h1).elim (λ z=>r.dj i k (BY hk) b z h2) λ z=>r.zo k b h2 (.inr z);by_cases e1:j=i
  ·by_cases e2:k=i
   ·exact hjk (e1.trans e2.symm)
   ·rw [if_pos e1] at hb;rw [if_neg e2] at hc;exact one k e2 b hb hc
  ·rw [if_neg e1] at hb;by_cases e2:k=i
   ·rw [if_pos e2] at hc;exact one j e1 b hc hb
   ·rw [if_neg e2] at hc;exact r.dj j k hjk b hb hc
 ·by_cases ej:j=i
  ·rw [if_pos ej] at hb;rcases inI b hb with y | y
   ·exact r.zo i b y (.inl z)
   ·exact (hH b y).2 z
  ·rw [if_neg ej] at hb;exact r.zo j b hb (.inl z)
 ·by_cases ej:j=i
  ·rw [if_pos ej] at hb;rcases inI b hb with y | y
   ·exact r.fr i (by rw [<- ej];exact hj) b y
   ·exact (hH b y).1
  ·rw [if_neg ej] at hb;exact r.fr j hj b hb
 ·by_cases ej:j=i
  ·subst ej;rw [D4 hlen] at hc;cases hc;exact hm hj
  ·rw [Cw (BY ej)] at hc;exact r.msf j y c hj hc
end
section
variable {M:Fm}{ρ ρ':Ag}{σ σ':St}{H H' H'':Hp}{fps fps' fps'':AR}{vs vs':List Nat}
def KS.write {a:Addr}{o:HO}{i:Nat}{f' fp:List Addr} (k:KS M H fps H' fps') (ha:∃ j,a∈fps j) (hs:∀ b∈a::f',b∈fps' i\/H b=none):
  KS M H fps (As H' a o) (λ j=>if j=i then a::f' else fps' j) where
 keep:=λ b u hb n=>by rw [AM (λ e=>n (by rw [e];exact ha))];exact k.keep b u hb n
 dom:=λ b hb=>by
  by_cases e:b=a
  ·rw [e,BJ];simp
  ·rw [AM e];exact k.dom b hb
 sub:=λ j b hb=>by
  by_cases e:j=i
  ·simp only [if_pos e] at hb;rcases hs b hb with z | z
   ·exact k.sub i b z
   ·exact .inr z
  ·simp only [if_neg e] at hb;exact k.sub j b hb
def Rep.behind {x:PV}{d:Nat}{v:V}{fp:List Addr} (rep:Rep M ρ σ H fps) (k:KD M H fps H' fps') (g:Agr M ρ ρ') (r':Rep M ρ' σ H' fps') (o:Own M.K H' (Zt M vs fps' fp) x d v fp) (t:Temp M vs H H' fps' fp)
  (hal:∀ i,M.al i=[]) (hv:∀ i∈vs,M.Ms i=false):∃ fps2,KS M H fps H' fps2/\Rep (M.plus fp) (CF d vs ρ') σ H' fps2/\Own M.K H' (λ a=>Zf M fps2 a\/a∈fp) x d v fp/\(∀ a∈fp,¬ Zf M fps2 a)/\(∀ i a,a∈fps2 i->a∈fps' i)/\(∀ a∈fp,M.H₀ a=none/\¬ M.Zo a):=by
 have w:Rep (M.plus fp) ρ' σ H' fps':=rep.wide (λ i j hj=>by rw [hal i] at hj;cases hj) k g r' λ a ha=>⟨t.new a ha,by obtain ⟨xs,e⟩:=Own.lsts x d v fp o a ha;rw [e];simp,t.ndj a ha⟩
 have hf:∀ a∈fp,M.H₀ a=none/\¬ M.Zo a:=λ a ha=>⟨rep.h0' (t.new a ha),λ z=>t.ndj a ha (.inl z)⟩
 unfold CF;by_cases hd:d=om
 ·rw [if_pos hd];refine ⟨fps',k.ks,w,?_,t.ndj,λ _ _ h=>h,hf⟩;rw [hd] at o ⊢;exact Own.full x v fp o
 ·rw [if_neg hd];exact ⟨Ei vs fps',k.ks.cool,w.cool hal hv,o.weak λ a h=>h.elim (λ h=>.inl (Ih h)) .inr,λ a ha z=>t.ndj a ha (Ih z).zf,λ _ _ h=>(Gv h).1,hf⟩
def BE (i:Nat) (f:Fx) (vs:List Nat):Fs:=λ ρ=>match ρ[i]? with
 | some (some (.lst _,0))=>.no
 | some (some (.lst _,_ + 1))=>(match f ρ with
  | .ok (y,e,ρ1)=>(match (CF e vs ρ1)[i]? with
   | some (some (.lst xs,d))=>if d≠0/\xs.length < A2 then .nx ((CF e vs ρ1).set i (some (.lst (xs++[y]),if d=om/\e=om then om else 1))) else .no
   | _=>.no)
  | .exc c=>.exc c
  | .no=>.no)
 | _=>.no
def O3:pd 1=0:=by decide
def Own.list {K:Frag}{Z:Addr->Prop}{xs:List PV}{d:Nat}{v:V}{fp:List Addr} (h:Own K H Z (.lst xs) d v fp) (hd:d≠0):∃ a ws f,v=.ref a/\H a=some (.lst ws)/\fp=a::f/\a∉f/\OwnL K H Z xs (pd d) ws f:=by
 rw [Own] at h;obtain ⟨a,ws,e,⟨d0,_⟩ | ⟨_,f,h1,h2,h3,h4⟩⟩:=h
 ·exact absurd d0 hd
 ·exact ⟨a,ws,f,e,h1,h2,h3,h4⟩
def xk {f:Fx}{i:Nat}{D:Ends} (hal:∀ i,M.al i=[]) (hv:∀ i∈vs,M.Ms i=false) (hm:M.Ms i=false) (hq:tS M (BE i f vs) D σ H):J7 (NM M.K "list" N1 (Bl i) (GC (tE M f vs) D0)) D σ H:=by
 obtain ⟨ρ,fps,rep,q⟩:=hq;unfold BE at q;split at q
 ·exact q.elim
 ·rename_i xs0 d0 e0;obtain ⟨v,hσ,o⟩:=rep.own0 hal i _ _ e0;obtain ⟨a,ws0,fc0,rfl,ha0,hfp0,_,_⟩:=o.list (Nat.succ_ne_zero _);refine ⟨_,hσ,LI (.inl (.inl ha0)),ρ,fps,rep,?_⟩;cases ef:f ρ with
  | no=>rw [ef] at q;exact q
  | exc c=>rw [ef] at q;exact λ H' fps' k=>q _ H' fps' k.ks
  | ok p=>
   obtain ⟨y,e,ρ1⟩:=p;rw [ef] at q;intro w H1 fps1 fp k1 g1 rep1 o1 t1;dsimp only at q;split at q
   ·rename_i xs d es;split at q
    ·rename_i hc;obtain ⟨fps2,k2,r2,o2,n2,s2,h2⟩:=Rep.behind rep k1 g1 rep1 o1 t1 hal hv;obtain ⟨v',hσ',ol⟩:=r2.own0 hal i _ _ es;rw [hσ] at hσ';cases hσ';obtain ⟨a',ws,fc,ev,ha,hfp,nac,hol⟩:=ol.list hc.1;cases ev;have hai:a∈fps2 i:=by rw [hfp];exact A9
     have hafp:a∉fp:=λ z=>n2 a z (.inr ⟨i,hai⟩);have hst:∃ j,a∈fps j:=⟨i,by have:=s2 i a hai;rw [k1.same i hm] at this;exact this⟩
     refine ⟨a,ws,w,rfl,rfl,ha,by rw [hol.length];exact hc.2,?_⟩;by_cases ho:d=om/\e=om
     ·rw [if_pos ho] at q;obtain ⟨rfl,rfl⟩:=ho;refine q σ _ _ (k2.write (i:=i) (f':=fc++fp) (fp:=fp) hst λ b hb=>?_) (r2.rewrite hal es hσ ha hfp (λ z=>(jb2.mp z).elim nac hafp) (λ b hb=>jb2.mp hb) (by decide) (λ _=>rfl) h2 ?_)
      ·rcases ja9.mp hb with z | z
       ·exact .inl (by rw [z];exact hai)
       ·rcases jb2.mp z with z | z
        ·exact .inl (by rw [hfp];exact A8 _ z)
        ·exact .inr (t1.new b z)
      ·have u1:OwnL M.K (As H1 a (.lst (ws++[w]))) (λ _=>True) xs om ws fc:=(OwnL.full (Z':=λ _=>True) xs ws fc hol).at trivial ⟨.l ws,ha⟩ nac λ _ _ n=>absurd trivial n;have u2:Own M.K (As H1 a (.lst (ws++[w]))) (λ _=>True) y om w fp:=(Own.full (Z':=λ _=>True) y w fp o2).at trivial ⟨.l ws,ha⟩ hafp λ _ _ n=>absurd trivial n;exact OwnL.full _ _ _ (u1.snoc u2 λ b hb z=>n2 b z (.inr ⟨i,by rw [hfp];exact A8 _ hb⟩))
     ·rw [if_neg ho] at q;refine q σ _ _ (k2.write (i:=i) (f':=[]) (fp:=fp) hst λ b hb=>?_) (r2.rewrite hal es hσ ha hfp (λ z=>nomatch z) (λ b hb=>nomatch hb) (by decide) (λ h=>by rw [hm] at h;cases h) h2 ?_)
      ·rcases ja9.mp hb with z | z
       ·exact .inl (by rw [z];exact hai)
       ·cases z
      ·rw [O3];have zsub:∀ b,Zf M (λ j=>if j=i then [a] else fps2 j) b->Zf (M.plus fp) fps2 b:=λ b h=>by
        rcases h with z | ⟨j,z⟩
        ·exact .inl (.inl z)
        ·by_cases ej:j=i
         ·simp only [if_pos ej] at z;rw [jc0.mp z];exact .inr ⟨i,hai⟩
         ·simp only [if_neg ej] at z;exact .inr ⟨j,z⟩
       have nf:∀ b∈fc,¬ Zf M (λ j=>if j=i then [a] else fps2 j) b:=λ b hb z=>by
        have hbi:b∈fps2 i:=by rw [hfp];exact A8 _ hb
        rcases z with z | ⟨j,z⟩
        ·exact r2.zo i b hbi (.inl z)
        ·by_cases ej:j=i
         ·simp only [if_pos ej] at z;rw [jc0.mp z] at hb;exact nac hb
         ·simp only [if_neg ej] at z;exact r2.dj i j (BY ej) b hbi z
       have nfp:∀ b∈fp,¬ Zf M (λ j=>if j=i then [a] else fps2 j) b:=λ b hb z=>by
        rcases z with z | ⟨j,z⟩
        ·exact n2 b hb (.inl z)
        ·by_cases ej:j=i
         ·simp only [if_pos ej] at z;rw [jc0.mp z] at hb;exact hafp hb
         ·simp only [if_neg ej] at z;exact n2 b hb (.inr ⟨j,z⟩)
       have za:Zf M (λ j=>if j=i then [a] else fps2 j) a:=.inr ⟨i,by simp⟩;have u1:=(OwnL.freeze (Z':=Zf M (λ j=>if j=i then [a] else fps2 j)) zsub xs _ ws fc nf hol)
       have u2:=(Own.freeze (Z':=Zf M (λ j=>if j=i then [a] else fps2 j)) (λ b h=>by
        rcases h with z | ⟨j,z⟩
        ·exact .inl (.inl z)
        ·by_cases ej:j=i
         ·simp only [if_pos ej] at z;rw [jc0.mp z];exact .inl (.inr ⟨i,hai⟩)
         ·simp only [if_neg ej] at z;exact .inl (.inr ⟨j,z⟩)) y _ w fp nfp o2)
       exact (u1.at za ⟨.l ws,ha⟩ (λ z=>nomatch z) λ _ _ n=>n).snoc (u2.at za ⟨.l ws,ha⟩ (λ z=>nomatch z) λ _ _ n=>n) λ _ z=>nomatch z
    ·exact q.elim
   ·exact q.elim
 ·exact q.elim
def Jd:PV->Bool
 | .lst _=>false
 | .tup _=>false
 | .dct _=>false
 | _=>true
theorem OwnL.set {K:Frag}{Z:Addr->Prop}{y:PV}{d:Nat}{w:V} (hy:Own K H Z y d w []):∀ {xs:List PV}{ws:List V}{f:List Addr} (k:Nat),OwnL K H Z xs d ws f->∃ f',(∀ b∈f',b∈f)/\OwnL K H Z (xs.set k y) d (ws.set k w) f'
 | [],ws,f,k,h=>by
  rw [OwnL] at h;obtain ⟨rfl,rfl⟩:=h;refine ⟨[],λ _ z=>z,?_⟩;rw [OE,OE,OwnL];exact ⟨rfl,rfl⟩
 | x::xs,ws,f,0,h=>by
  rw [OwnL] at h;obtain ⟨v,s,f1,f2,rfl,rfl,dj,h1,h2⟩:=h;refine ⟨f2,λ b hb=>Bb _ hb,?_⟩;rw [IM,IM,OwnL];exact ⟨w,s,[],f2,rfl,rfl,λ _ z=>(nomatch z),hy,h2⟩
 | x::xs,ws,f,k + 1,h=>by
  rw [OwnL] at h;obtain ⟨v,s,f1,f2,rfl,rfl,dj,h1,h2⟩:=h;obtain ⟨f',hs,h'⟩:=h2.set hy k;refine ⟨f1++f',λ b hb=>(jb2.mp hb).elim (λ z=>Bq _ z) λ z=>Bb _ (hs b z),?_⟩;rw [IL,IL,OwnL];exact ⟨v,s.set k w,f1,f',rfl,rfl,λ b hb hc=>dj b hb (hs b hc),h1,h'⟩
theorem Own.atom {K:Frag}{Z Z':Addr->Prop}{y:PV}{d d':Nat}{w:V}{fp:List Addr} (hy:Jd y=true) (h:Own K H Z y d w fp):fp=[]/\Own K H Z' y d' w []:=by
 cases y with
 | lst _=>cases hy
 | tup _=>cases hy
 | dct _=>cases hy
 | exn _=>rw [Own] at h ⊢;exact ⟨h.1,rfl,h.2⟩
 | emp=>rw [Own] at h ⊢;exact ⟨h.1,rfl,h.2⟩
 | dko=>rw [Own] at h ⊢;exact ⟨h.1,rfl,h.2⟩
 | scr _=>rw [Own] at h ⊢;exact ⟨h.1,rfl,h.2⟩
 | non=>rw [Own] at h ⊢;exact ⟨h.2,h.1,rfl⟩
 | bl _=>rw [Own] at h ⊢;exact ⟨h.2,h.1,rfl⟩
 | int _=>rw [Own] at h ⊢;exact ⟨h.2,h.1,rfl⟩
 | str _=>rw [Own] at h ⊢;exact ⟨h.2,h.1,rfl⟩
def Jx (i:Nat) (k:Int) (f:Fx):Fs:=λ ρ=>match f ρ with
 | .ok (y,_,ρ1)=>(match ρ1[i]? with
  | some (some (.lst xs,d))=>(match CL xs.length k with
   | some j=>if d≠0/\Jd y=true then .nx (ρ1.set i (some (.lst (xs.set j y),d))) else .no
   | none=>.no)
  | _=>.no)
 | .exc c=>.exc c
 | .no=>.no
theorem xo {f:Fx}{i:Nat}{k:Int}{D:Ends} (hal:∀ i,M.al i=[]) (hv:∀ i∈vs,M.Ms i=false) (hq:tS M (Jx i k f) D σ H):DM (tE M f vs) (HG (Bl i) (tC (.int k)) Ol) D σ H:=by
 obtain ⟨ρ,fps,rep,q⟩:=hq;refine ⟨ρ,fps,rep,?_⟩;unfold Jx at q;cases ef:f ρ with
 | no=>rw [ef] at q;exact q
 | exc c=>rw [ef] at q;exact λ H' fps' k=>q _ H' fps' k.ks
 | ok p=>
  obtain ⟨y,e,ρ1⟩:=p;rw [ef] at q;intro w H1 fps1 fp k1 g1 rep1 o1 t1;dsimp only at q;split at q
  ·rename_i xs d es;split at q
   ·rename_i j ej;split at q
    ·rename_i hc;obtain ⟨rfl,_⟩:=Own.atom (Z':=λ _=>True) (d':=0) hc.2 o1;obtain ⟨v',hσ',ol⟩:=rep1.own0 hal i _ _ es;obtain ⟨a,ws,fc,rfl,ha,hfp,nac,hol⟩:=ol.list hc.1;have hai:a∈fps1 i:=by rw [hfp];exact A9
     refine ⟨_,hσ',a,ws,k,j,rfl,rfl,ha,by rw [hol.length];exact ej,?_⟩;have rp:Rep (M.plus []) ρ1 σ H1 fps1:=rep.wide (λ i j hj=>by rw [hal i] at hj;cases hj) k1 g1 rep1 λ b hb=>nomatch hb
     obtain ⟨fc',hs',hset⟩:=hol.set (Own.atom (d':=pd d) hc.2 o1).2 j;have inI:∀ b,b∈a::fc'->b∈fps1 i:=λ b hb=>(ja9.mp hb).elim (λ z=>by rw [z];exact hai) λ z=>by rw [hfp];exact A8 _ (hs' b z)
     have hst:KS M H fps (As H1 a (.lst (ws.set j w))) (λ j=>if j=i then a::fc' else fps1 j):=by
      refine ⟨λ b u hb n=>?_,λ b hb=>?_,λ j b hb=>?_⟩
      ·have hb1:=k1.ks.keep b u hb n;rw [AM]
       ·exact hb1
       ·rintro rfl;rcases k1.ks.sub i b hai with z | z
        ·exact n z
        ·rw [z] at hb;cases hb
      ·by_cases eb:b=a
       ·rw [eb,BJ];simp
       ·rw [AM eb];exact k1.dom b hb
      ·by_cases ej:j=i
       ·simp only [if_pos ej] at hb;exact k1.ks.sub i b (inI b hb)
       ·simp only [if_neg ej] at hb;exact k1.ks.sub j b hb
     refine q σ _ _ hst (rp.rewrite hal es hσ' ha hfp (λ z=>nac (hs' a z)) (λ b hb=>.inl (hs' b hb)) hc.1 (λ h=>rep1.msf i _ _ h es) (λ b hb=>nomatch hb) ?_);have nz:∀ b,Zf M (λ j=>if j=i then a::fc' else fps1 j) b->Zf M fps1 b:=λ b h=>by
      rcases h with z | ⟨j,z⟩
      ·exact .inl z
      ·by_cases ej:j=i
       ·simp only [if_pos ej] at z;exact .inr ⟨i,inI b z⟩
       ·simp only [if_neg ej] at z;exact .inr ⟨j,z⟩
     exact hset.at (.inr ⟨i,hai⟩) ⟨.l ws,ha⟩ (λ z=>nac (hs' a z)) λ b _ n z=>n (nz b z)
    ·exact q.elim
   ·exact q.elim
  ·exact q.elim
end
section
variable {is:List Nat}{M:Fm}{ρ ρ':Ag}{σ σ':St}{H H' H'':Hp}{fps fps' fps'':AR}{vs vs':List Nat}
def Rep.plus0 (hal:∀ i,∀ j∈M.al i,M.Ms j=false) (r:Rep M ρ σ H fps):Rep (M.plus []) ρ σ H fps:=r.wide hal KD.refl Agr.refl r (λ _ z=>nomatch z)
def DW (M:Fm) (al is:List Nat) (g:TG) (asg:PV->Ag->Option Ag):Prop:=∀ y v ρ σ H fps ρ' (Q:St->Hp->Prop),Rep M ρ σ H fps->Own M.K H (Zv M al fps) y 0 v []->asg y ρ=some ρ'->(∀ σ' fps',(∀ i,∀ a∈fps' i,a∈fps i)->(∀ i,i∉is->ρ'[i]?=ρ[i]?/\fps' i=fps i/\σ'[i]?=σ[i]?)->ρ'.length=ρ.length->Rep M ρ' σ' H fps'->Q σ' H)->g v σ H Q
def Aj (i:Nat):PV->Ag->Option Ag:=λ y ρ=>if i < ρ.length then some (ρ.set i (some (y,dv y))) else none
def Own.dv {K:Frag}{Z:Addr->Prop}{x:PV}{v:V} (h:Own K H Z x 0 v []):Own K H Z x (dv x) v []:=Own.view (fp:=[]) (λ _ z=>z) (λ _ z=>nomatch z) h
structure Bd (M:Fm) (al:List Nat) (i:Nat):Prop where
 ms:M.Ms i=false
 io:M.Fre i
 al:M.al i=al
 als:∀ i,∀ j∈M.al i,M.Ms j=false
def Rep.bind1 {al:List Nat}{i:Nat}{y:PV}{v:V} (r:Rep M ρ σ H fps) (o:Own M.K H (Zv M al fps) y 0 v []) (hi:i < ρ.length) (b:Bd M al i):
  Rep M (ρ.set i (some (y,dv y))) (σ.set i (some v)) H (λ j=>if j=i then [] else fps j):=by
 refine (r.plus0 b.als).put (o.dv.weak λ a h=>h.elim (λ h=>?_) λ z=>nomatch z) (λ _ z=>nomatch z) hi (λ h=>by rw [b.ms] at h;cases h) b.io;rcases h with h | ⟨j,nj,h⟩
 ·exact .inl h
 ·exact .inr ⟨j,by rw [b.al] at nj;exact nj,h⟩
def Vz {al:List Nat}{i:Nat} (b:Bd M al i):DW M al [i] (DK i) (Aj i):=by
 intro y v ρ σ H fps ρ' Q r o e q;unfold Aj at e;split at e
 ·rename_i hi;cases e;refine q _ _ (λ j a ha=>?_) (λ j nj=>?_) (by rw [DT]) (r.bind1 o hi b)
  ·by_cases e:j=i
   ·simp only [if_pos e] at ha;cases ha
   ·simp only [if_neg e] at ha;exact ha
  ·have e:j≠i:=λ e=>nj (by simp [e]);exact ⟨Cw (BY e),if_neg e,Cw (BY e)⟩
 ·cases e
def Kl:List Nat->IV
 | []=>M9
 | i::is=>UH (DK i) (Kl is)
def HM:List Nat->List PV->Ag->Option Ag
 | [],[],ρ=>some ρ
 | i::is,y::ys,ρ=>(Aj i y ρ).bind (HM is ys)
 | _,_,_=>none
def AZ (is:List Nat):PV->Ag->Option Ag:=λ y ρ=>match y with
 | .tup ys=>HM is ys ρ
 | _=>none
theorem Wg {al:List Nat}:∀ (is:List Nat) (ys:List PV) (ws:List V) (ρ:Ag) (σ:St) (H:Hp) (fps:AR) (ρ':Ag) (Q:St->Hp->Prop),(∀ i∈is,Bd M al i)->Rep M ρ σ H fps->OwnL M.K H (Zv M al fps) ys 0 ws []->HM is ys ρ=some ρ' ->
  (∀ σ' fps',(∀ i,∀ a∈fps' i,a∈fps i)->(∀ i,i∉is->ρ'[i]?=ρ[i]?/\fps' i=fps i/\σ'[i]?=σ[i]?)->ρ'.length=ρ.length->Rep M ρ' σ' H fps'->Q σ' H)->ws.length=is.length/\Kl is ws σ H Q
 | [],[],ws,ρ,σ,H,fps,ρ',Q,_,r,o,e,q=>by
  rw [OwnL] at o;obtain ⟨rfl,_⟩:=o;cases e;exact ⟨rfl,rfl,q σ fps (λ _ _ h=>h) (λ _ _=>⟨rfl,rfl,rfl⟩) rfl r⟩
 | [],_::_,_,_,_,_,_,_,_,_,_,_,e,_=>by cases e
 | _::_,[],_,_,_,_,_,_,_,_,_,_,e,_=>by cases e
 | i::is,y::ys,ws,ρ,σ,H,fps,ρ',Q,hs,r,o,e,q=>by
  rw [OwnL] at o;obtain ⟨v,s,f1,f2,rfl,ef,_,o1,o2⟩:=o;obtain ⟨rfl,rfl⟩:f1=[]/\f2=[]:=by simpa using ef.symm
  unfold HM at e;cases e1:Aj i y ρ with
  | none=>rw [e1] at e;cases e
  | some ρ1=>
   rw [e1] at e;unfold Aj at e1;split at e1
   ·rename_i hi;cases e1;have bi:=hs i A9;have r':=r.bind1 o1 hi bi;have sub:∀ j a,a∈(λ j=>if j=i then [] else fps j) j->a∈fps j:=λ j a z=>by
     by_cases ej:j=i
     ·simp only [if_pos ej] at z;cases z
     ·simp only [if_neg ej] at z;exact z
    have o2':OwnL M.K H (Zv M al (λ j=>if j=i then [] else fps j)) ys 0 s []:=o2.weak λ a h=>h.elim .inl λ ⟨j,nj,z⟩=>.inr ⟨j,nj,sub j a z⟩;obtain ⟨hl,hg⟩:=Wg is ys s _ _ H _ ρ' Q (λ j hj=>hs j (A8 _ hj)) r' o2' e λ σ' fps' k' a' l' r''=>q σ' fps' (λ j a ha=>sub j a (k' j a ha)) (λ j hj=>by
     have ej:j≠i:=λ e=>hj (by rw [e];exact A9);obtain ⟨z1,z2,z3⟩:=a' j λ z=>hj (A8 _ z);rw [if_neg ej] at z2;exact ⟨z1.trans (Cw (BY ej)),z2,z3.trans (Cw (BY ej))⟩) (l'.trans (by rw [DT])) r''
    exact ⟨by rw [Ba,Ba,hl],v,s,rfl,hg⟩
   ·cases e1
def Rr {al:List Nat}{is:List Nat} (hs:∀ i∈is,Bd M al i):DW M al is (JN M.K is.length (Kl is)) (AZ is):=by
 intro y v ρ σ H fps ρ' Q r o e q;unfold AZ at e;split at e
 ·rename_i ys;rw [Own] at o;obtain ⟨a,ws,rfl,hr,ol⟩:=o;obtain ⟨hl,hg⟩:=Wg is ys ws ρ σ H fps ρ' Q hs r ol e q;exact ⟨a,ws,rfl,.inl (.inl hr),hl,hg⟩
 ·cases e
def Ej (asg:PV->Ag->Option Ag) (body:Fs):List PV->Ag->Rs
 | [],ρ=>.nx ρ
 | x::xs,ρ=>match asg x ρ with
  | none=>.no
  | some ρ1=>match body ρ1 with
   | .nx ρ2=>Ej asg body xs ρ2
   | .ct ρ2=>Ej asg body xs ρ2
   | .bk ρ2=>.nx ρ2
   | .rt x d ρ2=>.rt x d ρ2
   | .exc c=>.exc c
   | .no=>.no
def Lr {g:TG}{asg:PV->Ag->Option Ag}{body:Fs}{D:Ends}{J:It}{els:List PV}{Pq:Hp->AR->Prop} (hg:DW M [] is g asg)
  (hP:∀ {ρ σ H fps H' fps'},Rep M ρ σ H fps->KS M H fps H' fps'->Pq H fps->Pq H' fps') (hgo:∀ {H fps i},Pq H fps->i < els.length->J.go i H) (hst:∀ {H fps i},Pq H fps->els.length<=i->J.stop i H)
  (hy:∀ {ρ σ H fps i x H'},Rep M ρ σ H fps->Pq H fps->i < els.length->J.yld i H x H'->(∀ a o,H a=some o->H' a=some o)/\∃ y,els[i]?=some y/\Own M.K H' (Zf M fps) y 0 x [])
  (rep:Rep M ρ σ H fps) (p:Pq H fps) (q:RsOk M D H fps (Ej asg body els ρ)):
  ∃ W:Nat->Nat->St->Hp->Prop,(∃ m,W 0 m σ H)/\∀ i m σ H,W i m σ H ->
   (J.stop i H/\D.nx σ H)\/(J.go i H/\∃ N:St->Hp->Prop,(∀ σ' H',N σ' H'->∃ m',m' < m/\W (i + 1) m' σ' H')/\∀ x H',J.yld i H x H'->g x σ H' λ σ2 H2=>(tS M body) { D with nx:=N,ct:=N,bk:=D.nx } σ2 H2):=by
 let W:Nat->Nat->St->Hp->Prop:=λ i m σ H=>m=els.length - i/\∃ ρ fps,Rep M ρ σ H fps/\Pq H fps/\RsOk M D H fps (Ej asg body (els.drop i) ρ);refine ⟨W,⟨els.length,by simp,ρ,fps,rep,p,by simpa using q⟩,?_⟩;rintro i m σ H ⟨rfl,ρ,fps,r,p,q⟩;by_cases hi:i < els.length
 ·right
  refine ⟨hgo p hi,W (i + 1) (els.length - (i + 1)),λ σ' H' w=>⟨_,by omega,w⟩,λ x H' y=>?_⟩;obtain ⟨kx,z,ez,oz⟩:=hy r p hi y;have k0:KS M H fps H' fps:=(KD.grow kx).ks;have p:=hP r k0 p;have r:=r.grow kx;have q:=RsOk.from k0 q;have ed:els.drop i=z::els.drop (i + 1):=by
   obtain ⟨h1,h2⟩:=jb1.mp ez;rw [<- h2];exact KY h1
  rw [ed] at q;unfold Ej at q;cases ea:asg z ρ with
  | none=>rw [ea] at q;exact q.elim
  | some ρ1=>
   rw [ea] at q;dsimp only at q;refine hg z x ρ σ _ fps ρ1 _ r (oz.weak λ a h=>h.zf) ea λ σ1 fps1 s1 _ _ r1=>⟨ρ1,fps1,r1,?_⟩
   have k1:KS M H' fps H' fps1:=⟨λ _ _ h _=>h,λ _ h=>h,λ j a ha=>.inl ⟨j,s1 j a ha⟩⟩
   have p1:=hP r k1 p;cases eb:body ρ1 with
   | no=>rw [eb] at q;exact q
   | exc c=>rw [eb] at q;exact RsOk.from (r:=.exc c) k1 q
   | rt x d ρ2=>rw [eb] at q;exact RsOk.from (r:=.rt x d ρ2) k1 q
   | bk ρ2=>rw [eb] at q;exact λ σ' H' fps' k=>q σ' H' fps' (k1.trans k)
   | nx ρ2=>rw [eb] at q;exact λ σ' H' fps' k r'=>⟨rfl,ρ2,fps',r',hP r1 k p1,RsOk.from (k1.trans k) q⟩
   | ct ρ2=>rw [eb] at q;exact λ σ' H' fps' k r'=>⟨rfl,ρ2,fps',r',hP r1 k p1,RsOk.from (k1.trans k) q⟩
 ·left
  have ed:els.drop i=[]:=YC (by omega);rw [ed] at q;exact ⟨hst p (by omega),q σ H fps KS.refl r⟩
def FJ (lo:Int) (n:Nat):List PV:=(An n).map λ (i:Nat)=>PV.int (lo + (i:Int))
def JX (lo:Int) (n:Nat):(FJ lo n).length=n:=by simp [FJ]
def AJ:List (PV×Nat)->Option (Int×Int)
 | [(.int j,_)]=>if -(2 ^ 62)<=j/\j < 2 ^ 62 then some (0,j) else none
 | _=>none
def FO:List (PV×Nat)->Option (Int×Int)
 | [(.int i,_),(.int j,_)]=>if -(2 ^ 62)<=i/\i < 2 ^ 62/\-(2 ^ 62)<=j/\j < 2 ^ 62 then some (i,j) else none
 | _=>none
def CD (en:List (PV×Nat)->Option (Int×Int)) (fa:Fa) (asg:PV->Ag->Option Ag) (body:Fs):Fs:=λ ρ=>match fa ρ with
 | .ok (xs,ρ1)=>(match en xs with
  | some (i,j)=>Ej asg body (FJ i (j - i).toNat) ρ1
  | none=>.no)
 | .exc c=>.exc c
 | .no=>.no
def T9 {g:TG}{asg:PV->Ag->Option Ag}{body:Fs}{D:Ends}{lo:Int}{n:Nat} (hg:DW M [] is g asg) (rep:Rep M ρ σ H fps) (q:RsOk M D H fps (Ej asg body (FJ lo n) ρ)):
  ∃ W:Nat->Nat->St->Hp->Prop,(∃ m,W 0 m σ H)/\∀ i m σ H,W i m σ H ->
   ((GU lo n).stop i H/\D.nx σ H)\/((GU lo n).go i H/\∃ N:St->Hp->Prop,(∀ σ' H',N σ' H'->∃ m',m' < m/\W (i + 1) m' σ' H')/\∀ x H',(GU lo n).yld i H x H'->g x σ H' λ σ2 H2=>(tS M body) { D with nx:=N,ct:=N,bk:=D.nx } σ2 H2):=by
 refine Lr (Pq:=λ _ _=>True) hg (λ _ _ _=>trivial) (λ {H fps i} _ h=>?_) (λ {H fps i} _ h=>?_) (λ {ρ σ H fps i x H'} _ _ h y=>?_) rep trivial q
 ·rw [JX] at h;exact h
 ·rw [JX] at h;exact h
 ·rw [JX] at h;obtain ⟨e1,e2⟩:=y;subst e1;exact ⟨λ _ _ h=>h,.int (lo + i),by simp [FJ,h],by rw [e2,Own];exact ⟨rfl,rfl⟩⟩
theorem WM {g:TG}{asg:PV->Ag->Option Ag}{body:Fs}{fa:Fa}{D:Ends} (hg:DW M [] is g asg) (hq:tS M (CD AJ fa asg body) D σ H):Eo (Od (tL M fa vs)) g (tS M body) D σ H:=by
 obtain ⟨ρ,fps,rep,q⟩:=hq;refine ⟨ρ,fps,rep,?_⟩;unfold CD at q;cases ef:fa ρ with
 | no=>rw [ef] at q;exact q
 | exc c=>rw [ef] at q;exact λ H' fps' k=>q _ H' fps' k.ks
 | ok p=>
  obtain ⟨xs,ρ1⟩:=p;rw [ef] at q;intro ws H1 fps1 f1 k1 g1 rep1 o1 t1;dsimp only at q;cases ee:AJ xs with
  | none=>rw [ee] at q;exact q.elim
  | some ij=>
   obtain ⟨i,j⟩:=ij;rw [ee] at q;unfold AJ at ee;split at ee
   ·rename_i j' d;split at ee
    ·rename_i hb;cases ee;obtain ⟨v,r,f1,f2,rfl,_,_,h1,h2⟩:=o1;obtain ⟨rfl,_⟩:=h2;rw [Own] at h1;obtain ⟨rfl,_⟩:=h1;refine ⟨j,rfl,hb.1,hb.2,?_⟩;have e:(j - 0).toNat=j.toNat:=by omega
     dsimp only at q;rw [e] at q;exact T9 hg rep1 (RsOk.from k1.ks q)
    ·cases ee
   ·cases ee
theorem WN {g:TG}{asg:PV->Ag->Option Ag}{body:Fs}{fa:Fa}{D:Ends} (hg:DW M [] is g asg) (hq:tS M (CD FO fa asg body) D σ H):Eo (Oe (tL M fa vs)) g (tS M body) D σ H:=by
 obtain ⟨ρ,fps,rep,q⟩:=hq;refine ⟨ρ,fps,rep,?_⟩;unfold CD at q;cases ef:fa ρ with
 | no=>rw [ef] at q;exact q
 | exc c=>rw [ef] at q;exact λ H' fps' k=>q _ H' fps' k.ks
 | ok p=>
  obtain ⟨xs,ρ1⟩:=p;rw [ef] at q;intro ws H1 fps1 f1 k1 g1 rep1 o1 t1;dsimp only at q;cases ee:FO xs with
  | none=>rw [ee] at q;exact q.elim
  | some ij=>
   obtain ⟨i,j⟩:=ij;rw [ee] at q;unfold FO at ee;split at ee
   ·rename_i i' d j' d';split at ee
    ·rename_i hb;cases ee;obtain ⟨v,r,f1,f2,rfl,_,_,h1,h2⟩:=o1;obtain ⟨v2,r2,f3,f4,rfl,_,_,h3,h4⟩:=h2;obtain ⟨rfl,_⟩:=h4;rw [Own] at h1 h3;obtain ⟨rfl,_⟩:=h1;obtain ⟨rfl,_⟩:=h3;exact ⟨i,j,rfl,hb,T9 hg rep1 (RsOk.from k1.ks q)⟩
    ·cases ee
   ·cases ee
def FU (z:Str):List PV:=z.cps.toList.map λ c=>.str ⟨#[c]⟩
def K7 (f:Fx) (vs:List Nat) (asg:PV->Ag->Option Ag) (body:Fs):Fs:=λ ρ=>match f ρ with
 | .ok (.str z,d,ρ1)=>if O1 z=true then Ej asg body (FU z) (CF d vs ρ1) else .no
 | .ok (.lst xs,d,ρ1)=>Ej asg body xs (CF d vs ρ1)
 | .ok (.tup xs,d,ρ1)=>Ej asg body xs (CF d vs ρ1)
 | .ok _=>.no
 | .exc c=>.exc c
 | .no=>.no
theorem OwnL.get {K:Frag}{Z:Addr->Prop}:∀ {xs:List PV}{ws:List V}{i:Nat}{w:V},OwnL K H Z xs 0 ws []->ws[i]?=some w->∃ x,xs[i]?=some x/\Own K H Z x 0 w []
 | [],ws,i,w,h,e=>by
  rw [OwnL] at h;obtain ⟨rfl,_⟩:=h;simp at e
 | x::xs,ws,i,w,h,e=>by
  rw [OwnL] at h;obtain ⟨v,s,f1,f2,rfl,ef,_,o1,o2⟩:=h;obtain ⟨rfl,rfl⟩:f1=[]/\f2=[]:=by simpa using ef.symm
  cases i with
  | zero=>simp at e;subst e;exact ⟨x,by simp,o1⟩
  | succ i=>obtain ⟨y,e1,e2⟩:=o2.get (i:=i) (w:=w) (by simpa using e);exact ⟨y,by simpa using e1,e2⟩
def Rep.seen {x:PV}{d:Nat}{v:V}{fp:List Addr} (rep:Rep M ρ σ H fps) (k:KD M H fps H' fps') (g:Agr M ρ ρ') (r':Rep M ρ' σ H' fps') (o:Own M.K H' (Zt M vs fps' fp) x d v fp) (t:Temp M vs H H' fps' fp)
  (hal:∀ i,M.al i=[]) (hv:∀ i∈vs,M.Ms i=false):∃ fps2,KS M H fps H' fps2/\Rep M (CF d vs ρ') σ H' fps2/\Own M.K H' (Zf M fps2) x 0 v []:=by
 unfold CF;by_cases hd:d=om
 ·rw [if_pos hd];rw [hd] at o;exact ⟨fps',k.ks,r',Own.freeze (λ _ z=>z) x om v fp (λ a ha=>t.ndj a ha) (Own.full x v fp o)⟩
 ·rw [if_neg hd];exact ⟨Ei vs fps',k.ks.cool,r'.cool hal hv,Own.freeze (λ a h=>.inl (Ih h)) x d v fp (λ a ha z=>t.ndj a ha (Ih z).zf) o⟩
theorem WO {g:TG}{asg:PV->Ag->Option Ag}{body:Fs}{f:Fx}{D:Ends} (hal:∀ i,M.al i=[]) (hv:∀ i∈vs,M.Ms i=false) (hg:DW M [] is g asg) (hq:tS M (K7 f vs asg body) D σ H):Eo (D5 M.K (tE M f vs)) g (tS M body) D σ H:=by
 obtain ⟨ρ,fps,rep,q⟩:=hq;refine ⟨ρ,fps,rep,?_⟩;unfold K7 at q;cases ef:f ρ with
 | no=>rw [ef] at q;exact q
 | exc c=>rw [ef] at q;exact λ H' fps' k=>q _ H' fps' k.ks
 | ok p=>
  obtain ⟨x,d,ρ1⟩:=p;rw [ef] at q;intro v H1 fps1 f1 k1 g1 rep1 o1 t1;obtain ⟨fps2,k2,r2,o2⟩:=Rep.seen rep k1 g1 rep1 o1 t1 hal hv;cases x with
  | lst xs=>
   have o2':=o2;rw [Own] at o2';obtain ⟨a,ws,rfl,⟨_,hr,_,ol⟩ | ⟨h,_⟩⟩:=o2'
   ·have sq:BG M.K H1 a ws:=.inl (.inl hr.1);refine .inl ⟨a,rfl,.inl ⟨⟨ws,sq⟩,?_⟩⟩;have one:∀ {H:Hp}{fps:AR},Own M.K H (Zf M fps) (.lst xs) 0 (.ref a) []->∃ ws,BG M.K H a ws/\OwnL M.K H (Zf M fps) xs 0 ws []:=λ o=>by
     rw [Own] at o;obtain ⟨b,ws,e,⟨_,hr,_,ol⟩ | ⟨h,_⟩⟩:=o
     ·cases e;exact ⟨ws,.inl (.inl hr.1),ol⟩
     ·exact absurd rfl h
    refine Lr (Pq:=λ H fps=>Own M.K H (Zf M fps) (.lst xs) 0 (.ref a) []) (els:=xs) hg (λ r k o=>k.stay0 r o) (λ {H fps i} o h=>?_) (λ {H fps i} o h=>?_) (λ {ρ σ H fps i x H'} _ o h y=>?_) r2 o2 (RsOk.from k2 q)
    ·obtain ⟨ws,s,ol⟩:=one o;exact ⟨ws,ws[i]'(by rw [ol.length];exact h),s,by simp⟩
    ·obtain ⟨ws,s,ol⟩:=one o;exact ⟨ws,s,by rw [ol.length];exact h⟩
    ·obtain ⟨ws,s,ol⟩:=one o;obtain ⟨e1,e2⟩:=y;subst e1;exact ⟨λ _ _ h=>h,ol.get (e2 ws s)⟩
   ·exact absurd rfl h
  | tup xs=>
   have o2':=o2;rw [Own] at o2';obtain ⟨a,ws,rfl,hr,ol⟩:=o2';refine .inl ⟨a,rfl,.inr ⟨⟨ws,.inl (.inl hr)⟩,?_⟩⟩;have one:∀ {H:Hp}{fps:AR},Own M.K H (Zf M fps) (.tup xs) 0 (.ref a) []->∃ ws,Dr M.K H a ws/\OwnL M.K H (Zf M fps) xs 0 ws []:=λ o=>by
    rw [Own] at o;obtain ⟨b,ws,e,hr,ol⟩:=o;cases e;exact ⟨ws,.inl (.inl hr),ol⟩
   refine Lr (Pq:=λ H fps=>Own M.K H (Zf M fps) (.tup xs) 0 (.ref a) []) (els:=xs) hg (λ r k o=>k.stay0 r o) (λ {H fps i} o h=>?_) (λ {H fps i} o h=>?_) (λ {ρ σ H fps i x H'} _ o h y=>?_) r2 o2 (RsOk.from k2 q)
   ·obtain ⟨ws,s,ol⟩:=one o;exact ⟨ws,ws[i]'(by rw [ol.length];exact h),s,by simp⟩
   ·obtain ⟨ws,s,ol⟩:=one o;exact ⟨ws,s,by rw [ol.length];exact h⟩
   ·obtain ⟨ws,s,ol⟩:=one o;obtain ⟨e1,e2⟩:=y;subst e1;exact ⟨λ _ _ h=>h,ol.get (e2 ws s)⟩
  | str z=>
   have o2':=o2;rw [Own] at o2';obtain ⟨rfl,_⟩:=o2';dsimp only at q;split at q
   ·rename_i ha;refine .inr ⟨z,rfl,ha,?_⟩;have hl:(FU z).length=z.cps.size:=by unfold FU;rw [Ax,KU]
    refine Lr (Pq:=λ _ _=>True) (els:=FU z) hg (λ _ _ _=>trivial) (λ {H fps i} _ h=>?_) (λ {H fps i} _ h=>?_) (λ {ρ σ H fps i x H'} _ _ h y=>?_) r2 trivial (RsOk.from k2 q)
    ·show i < z.cps.size;omega
    ·show z.cps.size<=i;omega
    ·obtain ⟨rfl,c,hc,rfl⟩:=y;refine ⟨λ _ _ h=>h,.str ⟨#[c]⟩,?_,by rw [Own];exact ⟨rfl,rfl⟩⟩;unfold FU;rw [C8,SY,hc];rfl
   ·exact q.elim
  | _=>exact q.elim
end
section
variable {M:Fm}{ρ ρ':Ag}{σ σ':St}{H H' H'':Hp}{fps fps' fps'':AR}{vs vs':List Nat}
def Fm.comp (M:Fm) (D:Addr) (n:Nat) (vI:List Nat):Fm:={ M.plus [D] with W:=λ _ _ _=>False,al:=λ j=>if j < n then M.al j else vI }
def Rep.minus {fp:List Addr} (r:Rep (M.plus fp) ρ σ H fps):Rep M ρ σ H fps where
 own:=λ i x d e=>let ⟨v,h1,h2⟩:=r.own i x d e;⟨v,h1,h2.weak λ a h=>h.elim (λ h=>.inl (.inl h)) .inr⟩
 non:=r.non
 dj:=r.dj
 zo:=λ i a ha z=>r.zo i a ha (.inl z)
 fr:=r.fr
 zd:=λ a z=>r.zd a (.inl z)
 len:=r.len
 msf:=r.msf
 h0:=r.h0
 iov:=r.iov
def Rep.far (r:Rep M ρ σ H fps) {j:Nat} (h:ρ.length<=j):fps j=[]:=r.non j λ p e=>by
 rw [jj4.mpr h] at e;cases e
def Rep.ext {D:Addr}{k:Nat}{vI:List Nat} (r:Rep (M.plus [D]) ρ σ H fps):Rep (M.comp D ρ.length vI) (ρ++Bg k none) (σ++Bg k none) H fps where
 own:=λ i x d e=>by
  by_cases hi:i < ρ.length
  ·rw [DU hi] at e;obtain ⟨v,h1,h2⟩:=r.own i x d e;refine ⟨v,by rw [DU (by rw [<- r.len];exact hi)];exact h1,h2.weak λ a h=>?_⟩;rcases h with h | ⟨j,nj,h⟩
   ·exact .inl h
   ·refine .inr ⟨j,?_,h⟩
    have:(M.comp D ρ.length vI).al i=M.al i:=if_pos hi
    rw [this] at nj;exact nj
  ·rw [EX (by omega),HC] at e;split at e <;> cases e
 non:=λ i h=>by
  by_cases hi:i < ρ.length
  ·exact r.non i λ p e=>h p (by rw [DU hi];exact e)
  ·exact r.far (by omega)
 dj:=r.dj
 zo:=r.zo
 fr:=r.fr
 zd:=r.zd
 len:=by simp [r.len]
 msf:=λ i x d hm e=>by
  by_cases hi:i < ρ.length
  ·rw [DU hi] at e;exact r.msf i x d hm e
  ·rw [EX (by omega),HC] at e;split at e <;> cases e
 h0:=r.h0
 iov:=⟨λ v hv=>by
  have h:=r.iov.1 v hv;refine ⟨?_,h.2⟩
  have:0 < σ.length:=(jb1.mp h.1).1
  rw [DU this];exact h.1,λ p hp=>by
  have h:=r.iov.2 p hp;rw [DU (jb1.mp h).1];exact h⟩
def Ee (n:Nat) (fps:AR):AR:=λ j=>if j < n then fps j else []
def Hd {n i:Nat}{a:Addr} (h:a∈Ee n fps i):a∈fps i/\i < n:=by
 unfold Ee at h;split at h
 ·rename_i hi;exact ⟨h,hi⟩
 ·cases h
def Rep.take {D:Addr}{n:Nat}{vI:List Nat} (r:Rep (M.comp D n vI) ρ σ H fps) (hσ:∀ i,i < n->σ[i]?=σ'[i]?) (hl:σ'.length=n) (hn:n<=ρ.length) (hio:(M.io≠none->0 < n)/\∀ p∈M.pn,p.1 < n):Rep (M.plus [D]) (ρ.take n) σ' H (Ee n fps) where
 own:=λ i x d e=>by
  have hi:i < n:=by
   have:=(jb1.mp e).1
   rw [Ew] at this;omega
  rw [M5 hi] at e;obtain ⟨v,h1,h2⟩:=r.own i x d e;refine ⟨v,by rw [<- hσ i hi];exact h1,?_⟩
  have:Ee n fps i=fps i:=if_pos hi
  rw [this];refine h2.weak λ a h=>?_;rcases h with h | ⟨j,nj,h⟩
  ·exact .inl h
  ·refine .inr ⟨j,?_,(Hd h).1⟩
   have:(M.comp D n vI).al i=M.al i:=if_pos hi
   rw [this];exact nj
 non:=λ i h=>by
  unfold Ee;split
  ·rename_i hi;exact r.non i λ p e=>h p (by rw [M5 hi];exact e)
  ·rfl
 dj:=λ i j hij a ha hb=>r.dj i j hij a (Hd ha).1 (Hd hb).1
 zo:=λ i a ha=>r.zo i a (Hd ha).1
 fr:=λ i hi a ha=>r.fr i hi a (Hd ha).1
 zd:=r.zd
 len:=by rw [Ew,hl];omega
 msf:=λ i x d hm e=>by
  have hi:i < n:=by
   have:=(jb1.mp e).1
   rw [Ew] at this;omega
  rw [M5 hi] at e;exact r.msf i x d hm e
 h0:=r.h0
 iov:=⟨λ v hv=>by
  have h:=r.iov.1 v hv;refine ⟨?_,h.2⟩;have h0:0 < n:=hio.1 (by
   have hv':M.io=some v:=hv;rw [hv'];simp)
  rw [<- hσ 0 h0];exact h.1,λ p hp=>by rw [<- hσ p.1 (hio.2 p hp)];exact r.iov.2 p hp⟩
def Rep.touch {D:Addr}{us ws:List V} (r:Rep (M.plus [D]) ρ σ H fps) (hD:H D=some (.lst ws)):Rep (M.plus [D]) ρ σ (As H D (.lst us)) fps:=by
 have zD:(M.plus [D]).Zo D:=.inr (by simp);have dm:∀ b,H b≠none->(As H D (.lst us)) b≠none:=λ b h=>by
  by_cases eb:b=D
  ·rw [eb,BJ];simp
  ·rw [AM eb];exact h
 exact ⟨λ i x d e=>let ⟨v,h1,h2⟩:=r.own i x d e;⟨v,h1,h2.at (.inl zD) ⟨.l ws,hD⟩ (λ z=>r.zo i D z zD) λ _ _ n=>n⟩,r.non,r.dj,r.zo,r.fr,λ a z=>dm a (r.zd a z),r.len,r.msf,λ a z=>dm a (r.h0 a z),r.iov⟩
theorem Tmps.snoc {K:Frag}{Z:Addr->Prop}{y:PV}{e:Nat}{w:V}{fe:List Addr} (hy:Own K H (λ a=>Z a\/a∈fe) y e w fe):∀ {xs:List (PV×Nat)}{ws:List V}{fp:List Addr},Tmps K H Z xs ws fp->(∀ a∈fp,a∉fe)->Tmps K H Z (xs++[(y,e)]) (ws++[w]) (fp++fe)
 | [],ws,fp,h,_=>by
  obtain ⟨rfl,rfl⟩:=h;exact ⟨w,[],fe,[],rfl,by simp,λ _ _ z=>(nomatch z),hy,rfl,rfl⟩
 | (x,d)::xs,ws,fp,h,hd=>by
  obtain ⟨v,s,f1,f2,rfl,rfl,dj,h1,h2⟩:=h;refine ⟨v,s++[w],f1,f2++fe,rfl,by rw [OP],λ a ha hb=>?_,h1,h2.snoc hy λ a ha=>hd a (Bb _ ha)⟩;rcases jb2.mp hb with z | z
  ·exact dj a ha z
  ·exact hd a (Bq _ ha) z
theorem Tmps.at {K:Frag}{Z:Addr->Prop}{a:Addr}{o:HO} (hZ:Z a) (hl:∃ o:MO,H a=some o.ho):∀ {xs:List (PV×Nat)}{ws:List V}{fp:List Addr},Tmps K H Z xs ws fp->a∉fp->Tmps K (As H a o) Z xs ws fp
 | [],_,_,h,_=>h
 | (x,d)::xs,ws,fp,h,hf=>by
  obtain ⟨v,s,f1,f2,e1,rfl,dj,h1,h2⟩:=h;exact ⟨v,s,f1,f2,e1,rfl,dj,h1.at (.inl hZ) hl (λ z=>hf (Bq _ z)) λ _ _ n=>n,h2.at hZ hl λ z=>hf (Bb _ z)⟩
theorem Tmps.lsts {K:Frag}{Z:Addr->Prop}:∀ {xs:List (PV×Nat)}{ws:List V}{fp:List Addr},Tmps K H Z xs ws fp->∀ a∈fp,∃ o:MO,H a=some o.ho
 | [],_,_,h,a,ha=>by rw [h.2] at ha;cases ha
 | (x,d)::xs,ws,fp,h,a,ha=>by
  obtain ⟨v,s,f1,f2,e1,rfl,dj,h1,h2⟩:=h;rcases jb2.mp ha with z | z
  ·exact Own.lsts x d v f1 h1 a z
  ·exact h2.lsts a z
def Rz.bindN {α β:Type} (r:Rz α) (f:α->Rz β):Rz β:=match r with
 | .ok a=>f a
 | _=>.no
def C9 (k:Nat) (asg:PV->Ag->Option Ag) (test:Fb) (elt:Fx):List PV->Ag->List (PV×Nat)->Rz (List (PV×Nat)×Ag)
 | [],ρ,acc=>.ok (acc,ρ)
 | x::xs,ρ,acc=>match asg x (ρ++Bg k none) with
  | none=>.no
  | some ρ1=>(test ρ1).bindN λ (b,ρ2)=>if b=true then (elt ρ2).bindN λ (y,e,ρ3)=>(if acc.length < A2 then C9 k asg test elt xs (ρ3.take ρ.length) (acc++[(y,e)]) else .no) else C9 k asg test elt xs (ρ2.take ρ.length) acc
def KD.seen {D:Addr}{x:PV}{v:V} (r:Rep M ρ σ H fps) (k:KD M H fps H' fps') (hD:H D=none) (hv:∀ i∈vs,M.Ms i=false) (o:Own M.K H (Zv M vs fps) x 0 v []):Own M.K H' (Zv (M.plus [D]) vs fps') x 0 v []:=by
 refine Own.move k.keep ?_ ?_ x 0 v [] (λ _ z=>nomatch z) o
 ·rintro a ⟨i,hi,ha⟩;exact ⟨.inr ⟨i,λ z=>(by rw [hv i z] at hi;cases hi),ha⟩,r.lsts ha⟩
 ·intro a hd nz z;rcases z with (z | z) | ⟨i,ni,hx⟩
  ·exact nz (.inl z)
  ·rw [jc0.mp z] at hd;exact hd hD
  ·rcases k.sub i a hx with z | z
   ·exact nz (.inr ⟨i,ni,z⟩)
   ·exact hd z
def Lh {g:TG}{is vI vE vo:List Nat}{asg:PV->Ag->Option Ag}{test:Fb}{elt:Fx}{k:Nat}{J:It}{els:List PV}{Q:VK}{n:Nat}{P:Fm->Prop}
  (hP:∀ D,P (M.comp D n vI)) (hn:n=ρ.length) (hal:∀ i,∀ j∈M.al i,M.Ms j=false) (hvI:∀ i∈vI,M.Ms i=false) (hvE:∀ i∈vE,M.Ms i=false) (his:∀ i∈is,n<=i) (hg:∀ D,DW (M.comp D n vI) vI is g asg) (hvo:∀ i,i∈vE->i < n->i∈vo) (hvo2:∀ i∈vo,M.Ms i=false)
  (rep:Rep M ρ σ H fps)
  (hgo:∀ {D H' fps' i},H D=none->KD M H fps H' fps'->i < els.length->J.go i H') (hst:∀ {D H' fps' i},H D=none->KD M H fps H' fps'->els.length<=i->J.stop i H')
  (hy:∀ {D H' fps' i x H''},H D=none->KD M H fps H' fps'->i < els.length->J.yld i H' x H''->(∀ a o,H' a=some o->H'' a=some o)/\∃ z,els[i]?=some z/\Own M.K H'' (Zv (M.plus [D]) vI fps') z 0 x [])
  (q:match C9 k asg test elt els ρ [] with
   | .ok (acc,ρ')=>∀ D ws H' fps' fpl,KD M H fps H' fps'->Agr M ρ ρ'->Rep (M.plus [D]) ρ' σ H' fps'->H D=none->H' D=some (.lst ws)->Tmps M.K H' (Zv (M.plus [D]) vo fps') acc ws fpl->(∀ a∈fpl,H a=none/\¬ Zf (M.plus [D]) fps' a)->Q (.ref D) H'
   | _=>False):
  ∀ D,H D=none->∃ W:Nat->Nat->List V->Hp->Prop,(∃ m,W 0 m [] (As H D (.lst [])))/\∀ i m ys H1,W i m ys H1->H1 D=some (.lst ys) /\
   ((J.stop i H1/\Q (.ref D) H1)\/(J.go i H1/\∀ x H',J.yld i H1 x H'->g x (σ++Bg k none) H' λ σ2 H2=>∃ M',P M'/\tT M' test σ2 H2 λ b H3=>if b=true then ∃ M',P M'/\tE M' elt vE σ2 H3 λ y H4=>H4 D=some (.lst ys)/\ys.length < A2/\∃ m',m' < m/\W (i + 1) m' (ys++[y]) (As H4 D (.lst (ys++[y]))) else ∃ m',m' < m/\W (i + 1) m' ys H3)):=by
 intro D hD;subst hn;let W:Nat->Nat->List V->Hp->Prop:=λ i m ys H1=>m=els.length - i/\∃ ρ1 fps1 acc fpl,Rep (M.plus [D]) ρ1 σ H1 fps1/\KD M H fps H1 fps1/\Agr M ρ ρ1/\Tmps M.K H1 (Zv (M.plus [D]) vo fps1) acc ys fpl/\(∀ a∈fpl,H a=none/\¬ Zf (M.plus [D]) fps1 a)/\H1 D=some (.lst ys)/\C9 k asg test elt (els.drop i) ρ1 acc=C9 k asg test elt els ρ [];have k0:KD M H fps (As H D (.lst [])) fps:=KD.grow λ a o h=>by rw [AM (λ e=>by rw [e,hD] at h;cases h)];exact h
 have r0:Rep (M.plus [D]) ρ σ (As H D (.lst [])) fps:=by
  refine rep.wide hal k0 Agr.refl (rep.grow λ a o h=>by rw [AM (λ e=>by rw [e,hD] at h;cases h)];exact h) λ a ha=>?_;rw [jc0.mp ha];exact ⟨hD,by rw [BJ];simp,rep.nz hD⟩
 refine ⟨W,⟨els.length,by simp,ρ,fps,[],[],r0,k0,Agr.refl,⟨rfl,rfl⟩,λ _ z=>(nomatch z),BJ,by simp⟩,?_⟩;rintro i m ys H1 ⟨rfl,ρ1,fps1,acc,fpl,r1,k1,g1,tm,hf,h1D,ec⟩;refine ⟨h1D,?_⟩;have hlen:ρ1.length=ρ.length:=g1.2;by_cases hi:i < els.length
 ·right
  refine ⟨hgo hD k1 hi,λ x H' hyl=>?_⟩;obtain ⟨kx,z,ez,oz⟩:=hy hD k1 hi hyl;have tm:=KD.stays (M:=M.plus [D]) (KD.grow kx) r1 hvo2 tm λ a ha=>(hf a ha).2;have r1:=r1.grow kx;have k1:=k1.trans (KD.grow (M:=M) (fps:=fps1) kx);have h1D:=kx D _ h1D;have ed:els.drop i=z::els.drop (i + 1):=by
   obtain ⟨h1,h2⟩:=jb1.mp ez;rw [<- h2];exact KY h1
  rw [ed] at ec;have good:∃ a r,C9 k asg test elt els ρ []=.ok (a,r):=by
   cases e:C9 k asg test elt els ρ [] with
   | ok p=>exact ⟨p.1,p.2,rfl⟩
   | exc c=>rw [e] at q;exact q.elim
   | no=>rw [e] at q;exact q.elim
  obtain ⟨accF,ρF,eF⟩:=good;rw [eF] at ec;unfold C9 at ec;cases ea:asg z (ρ1++Bg k none) with
  | none=>rw [ea] at ec;cases ec
  | some ρ2=>
   rw [ea] at ec;dsimp only at ec;have rx:Rep (M.comp D ρ.length vI) (ρ1++Bg k none) (σ++Bg k none) H' fps1:=by rw [<- hlen];exact r1.ext
   refine hg D z x _ _ H' fps1 ρ2 _ rx oz ea λ σ2 fps2 s2 a2 l2 r2=>⟨_,hP D,ρ2,fps2,r2,?_⟩
   have hl2:ρ2.length=ρ.length + k:=by rw [l2,BL,IS,hlen]
   have same2:∀ j,j < ρ.length->ρ2[j]?=ρ1[j]?/\fps2 j=fps1 j/\σ2[j]?=σ[j]?:=λ j hj=>by
    obtain ⟨z1,z2,z3⟩:=a2 j λ z=>absurd (his j z) (by omega);rw [DU (by omega)] at z1;rw [DU (by rw [<- rep.len];omega)] at z3;exact ⟨z1,z2,z3⟩
   have kd2:KD (M.comp D ρ.length vI) H' fps1 H' fps2->True:=λ _=>trivial;cases et:test ρ2 with
   | exc c=>rw [et] at ec;cases ec
   | no=>rw [et] at ec;cases ec
   | ok p=>
    obtain ⟨b,ρ3⟩:=p;rw [et] at ec;intro H3 fps3 k3 g3 r3;dsimp only [Rz.bindN] at ec;have far:∀ {ρ4:Ag}{H4:Hp}{fps4:AR},KD (M.comp D ρ.length vI) H' fps2 H4 fps4->Agr (M.comp D ρ.length vI) ρ2 ρ4->Rep (M.comp D ρ.length vI) ρ4 σ2 H4 fps4 ->
      KD M H fps H4 (Ee ρ.length fps4)/\KD M H' fps1 H4 (Ee ρ.length fps4)/\Agr M ρ (ρ4.take ρ.length)/\Rep (M.plus [D]) (ρ4.take ρ.length) σ H4 (Ee ρ.length fps4)/\H4 D=some (.lst ys):=λ {ρ4 H4 fps4} k4 g4 r4=>by
     have kk:KD M H' fps1 H4 (Ee ρ.length fps4):=by
      refine ⟨λ a o ha hn=>k4.keep a o ha λ ⟨j,hj,hx⟩=>hn ⟨j,hj,s2 j a hx⟩,k4.dom,λ j a ha=>?_,λ j hj=>?_⟩
      ·rcases k4.sub j a (Hd ha).1 with z | z
       ·exact .inl (s2 j a z)
       ·exact .inr z
      ·unfold Ee;by_cases hjl:j < ρ.length
       ·rw [if_pos hjl,k4.same j hj];exact (same2 j hjl).2.1
       ·rw [if_neg hjl];exact (r1.far (by omega)).symm
     refine ⟨k1.trans kk,kk,?_,r4.take (σ':=σ) (λ j hj=>(same2 j hj).2.2) rep.len.symm (by rw [g4.2,hl2];omega) ⟨λ hio=>?_,λ p hp=>by rw [rep.len];exact (jb1.mp (rep.iov.2 p hp)).1⟩,?_⟩
     ·refine ⟨λ j hj=>?_,by rw [Ew,g4.2,hl2];omega⟩;by_cases hjl:j < ρ.length
      ·rw [M5 hjl,g4.1 j hj,(same2 j hjl).1];exact g1.1 j hj
      ·rw [jj4.mpr (by rw [Ew];omega),jj4.mpr (by omega)]
     ·cases e:M.io with
      | none=>exact absurd e hio
      | some v=>
       have:=(jb1.mp (rep.iov.1 v e).1).1
       rw [rep.len];exact this
     ·exact k4.keep D _ h1D λ ⟨j,_,hx⟩=>r2.zo j D hx (.inr (by simp))
    have notZ:∀ {H4:Hp}{fps4:AR},KD M H' fps1 H4 fps4->∀ {a},a∈fpl->¬ Zf (M.plus [D]) fps4 a:=λ {H4 fps4} k4 a ha z=>by
     rcases z with z | ⟨j,z⟩
     ·exact (hf a ha).2 (.inl z)
     ·rcases k4.sub j a z with z | z
      ·exact (hf a ha).2 (.inr ⟨j,z⟩)
      ·obtain ⟨xs,e⟩:=tm.lsts a ha;rw [z] at e;cases e
    cases b with
    | false=>
     rw [if_neg Cp] at ec ⊢;obtain ⟨f1,f2,f3,f4,f5⟩:=far k3 g3 r3;refine ⟨els.length - (i + 1),by omega,rfl,ρ3.take ρ.length,Ee ρ.length fps3,acc,fpl,f4,f1,f3,?_,λ a ha=>⟨(hf a ha).1,λ z=>?_⟩,f5,by rw [eF,<- hlen];exact ec⟩
     ·exact KD.stays (M:=M.plus [D]) (σ:=σ) (ρ:=ρ1) ⟨f2.keep,f2.dom,f2.sub,f2.same⟩ r1 hvo2 tm λ a ha=>(hf a ha).2
     ·exact notZ f2 ha z
    | true=>
     rw [if_pos rfl] at ec ⊢;refine ⟨_,hP D,ρ3,fps3,r3,?_⟩;cases ee:elt ρ3 with
     | exc c=>rw [ee] at ec;cases ec
     | no=>rw [ee] at ec;cases ec
     | ok p=>
      obtain ⟨y,e,ρ4⟩:=p;rw [ee] at ec;intro w H4 fps4 fe k4 g4 r4 o4 t4;dsimp only at ec;by_cases hz:acc.length < A2
      ·rw [if_pos hz] at ec;obtain ⟨f1,f2,f3,f4,f5⟩:=far (k3.trans k4) (g3.trans g4) r4;have tm4:Tmps M.K H4 (Zv (M.plus [D]) vo (Ee ρ.length fps4)) acc ys fpl:=KD.stays (M:=M.plus [D]) (σ:=σ) (ρ:=ρ1) ⟨f2.keep,f2.dom,f2.sub,f2.same⟩ r1 hvo2 tm λ a ha=>(hf a ha).2;have zD:Zv (M.plus [D]) vo (Ee ρ.length fps4) D:=.inl (.inr (by simp));have hDe:D∉fe:=λ z=>t4.ndj D z (.inl (.inr (by simp)));have hDl:D∉fpl:=λ z=>(hf D z).2 (.inl (.inr (by simp)));have oy:Own M.K H4 (λ a=>Zv (M.plus [D]) vo (Ee ρ.length fps4) a\/a∈fe) y e w fe:=o4.weak λ a h=>h.elim (λ h=>.inl (h.elim .inl λ ⟨j,nj,hx⟩=>.inr ⟨j,λ z=>nj (hvo j z (Hd hx).2),(Hd hx).1⟩)) .inr;have back3:∀ a,H3 a=none->H' a=none:=λ a e=>by
        cases e':H' a with
        | none=>rfl
        | some o=>exact absurd e (k3.dom a (by rw [e'];simp))
       have back1:∀ a,H' a=none->H a=none:=λ a e=>by
        cases e':H a with
        | none=>rfl
        | some o=>exact absurd e (k1.dom a (by rw [e'];simp))
       have kt:KD M H fps (As H4 D (.lst (ys++[w]))) (Ee ρ.length fps4):=⟨λ a o ha hn=>by rw [AM (λ e=>by rw [e,hD] at ha;cases ha)];exact f1.keep a o ha hn,λ a ha=>by
        by_cases eb:a=D
        ·rw [eb,BJ];simp
        ·rw [AM eb];exact f1.dom a ha,f1.sub,f1.same⟩
       refine ⟨f5,by rw [tm.length];exact hz,els.length - (i + 1),by omega,rfl,ρ4.take ρ.length,Ee ρ.length fps4,acc++[(y,e)],fpl++fe,f4.touch f5,kt,f3,?_,λ a ha=>?_,BJ,by rw [eF,<- hlen];exact ec⟩
       ·exact (tm4.at zD ⟨.l ys,f5⟩ hDl).snoc (oy.at (.inl zD) ⟨.l ys,f5⟩ hDe λ _ _ n=>n) λ a ha hb=>by
         obtain ⟨xs,e⟩:=tm.lsts a ha;rw [back3 a (t4.new a hb)] at e;cases e
       ·rcases jb2.mp ha with z | z
        ·exact ⟨(hf a z).1,notZ f2 z⟩
        ·refine ⟨back1 a (back3 a (t4.new a z)),λ hz=>t4.ndj a z ?_⟩;rcases hz with hz | ⟨j,hz⟩
         ·exact .inl hz
         ·exact .inr ⟨j,(Hd hz).1⟩
      ·rw [if_neg hz] at ec;cases ec
 ·left
  have ed:els.drop i=[]:=YC (by omega);rw [ed] at ec;rw [<- ec] at q;unfold C9 at q;exact ⟨hst hD k1 (by omega),q D ys H1 fps1 fpl k1 g1 r1 hD h1D tm hf⟩
end
section
variable {M:Fm}{ρ ρ':Ag}{σ σ':St}{H H' H'':Hp}{fps fps' fps'':AR}{vs vs':List Nat}
def Ey:List (PV×Nat)->Bool
 | []=>true
 | p::r=>(p.2 == om) && Ey r
theorem MN:∀ {xs:List (PV×Nat)},Ey xs=true->∀ p∈xs,p.2=om
 | [],_,_,h=>nomatch h
 | p::r,h,q,hq=>by
  unfold Ey at h;rw [A7] at h;rcases ja9.mp hq with e | e
  ·rw [e];exact eq_of_beq h.1
  ·exact MN h.2 q e
def CZ (acc:List (PV×Nat)) (ρ:Ag):Rz (PV×Nat×Ag):=.ok (.lst (acc.map (·.1)),if Ey acc then om else 1,ρ)
def AO (f:Fx) (k:Nat) (asg:PV->Ag->Option Ag) (test:Fb) (elt:Fx):Fx:=λ ρ=>match f ρ with
 | .ok (.lst xs,_,ρ1)=>(C9 k asg test elt xs ρ1 []).bindN λ (acc,ρ2)=>CZ acc ρ2
 | .ok (.tup xs,_,ρ1)=>(C9 k asg test elt xs ρ1 []).bindN λ (acc,ρ2)=>CZ acc ρ2
 | .ok (.str z,_,ρ1)=>if O1 z=true then (C9 k asg test elt (FU z) ρ1 []).bindN λ (acc,ρ2)=>CZ acc ρ2 else .no
 | .ok _=>.no
 | .exc c=>.exc c
 | .no=>.no
def Cj (en:List (PV×Nat)->Option (Int×Int)) (fa:Fa) (k:Nat) (asg:PV->Ag->Option Ag) (test:Fb) (elt:Fx):Fx:=λ ρ=>match fa ρ with
 | .ok (xs,ρ1)=>(match en xs with
  | some (i,j)=>(C9 k asg test elt (FJ i (j - i).toNat) ρ1 []).bindN λ (acc,ρ2)=>CZ acc ρ2
  | none=>.no)
 | .exc c=>.exc c
 | .no=>.no
theorem PH {D:Addr}{acc:List (PV×Nat)}{ws:List V}{fpl:List Addr}{vo:List Nat}{Q:VK}{H0:Hp}{fps0:AR}{ρ0:Ag}
  (rep0:Rep M ρ σ H fps) (k0:KD M H0 fps0 H fps) (g0:Agr M ρ0 ρ) (q:∀ v H' fps' fp,KD M H0 fps0 H' fps'->Agr M ρ0 ρ'->Rep M ρ' σ H' fps'->Own M.K H' (Zt M vo fps' fp) (.lst (acc.map (·.1))) (if Ey acc then om else 1) v fp->Temp M vo H0 H' fps' fp->Q v H')
  (k:KD M H fps H' fps') (g:Agr M ρ ρ') (r:Rep (M.plus [D]) ρ' σ H' fps') (hD:H D=none) (hD':H' D=some (.lst ws)) (tm:Tmps M.K H' (Zv (M.plus [D]) vo fps') acc ws fpl) (hf:∀ a∈fpl,H a=none/\¬ Zf (M.plus [D]) fps' a):Q (.ref D) H':=by
 have back:∀ a,H a=none->H0 a=none:=λ a e=>by
  cases e':H0 a with
  | none=>rfl
  | some o=>exact absurd e (k0.dom a (by rw [e'];simp))
 have nD:¬ Zf M fps' D:=λ z=>by
  rcases z with z | ⟨j,z⟩
  ·exact rep0.zd D z hD
  ·exact r.zo j D z (.inr (by simp))
 have hDl:D∉fpl:=λ z=>(hf D z).2 (.inl (.inr (by simp)));have zt:∀ a,Zt M vo fps' [D] a->Zv (M.plus [D]) vo fps' a:=λ a h=>h.elim (λ h=>h.elim (λ h=>.inl (.inl h)) .inr) λ h=>.inl (.inr h);cases ho:Ey acc with
 | true=>
  rw [ho] at q;refine q (.ref D) H' fps' (D::fpl) (k0.trans k) (g0.trans g) r.minus ?_ ⟨λ a ha=>?_,λ a ha=>?_⟩
  ·rw [Own];exact ⟨D,ws,rfl,.inr ⟨(by decide),fpl,hD',rfl,hDl,OwnL.full _ ws fpl (tm.all (MN ho))⟩⟩
  ·rcases ja9.mp ha with z | z
   ·rw [z];exact back D hD
   ·exact back a (hf a z).1
  ·rcases ja9.mp ha with z | z
   ·rw [z];exact nD
   ·exact λ y=>(hf a z).2 (y.elim (λ y=>.inl (.inl y)) .inr)
 | false=>
  rw [ho] at q;refine q (.ref D) H' fps' [D] (k0.trans k) (g0.trans g) r.minus ?_ ⟨λ a ha=>?_,λ a ha=>?_⟩
  ·show Own M.K H' (Zt M vo fps' [D]) (.lst (acc.map (·.1))) 1 (.ref D) [D];rw [Own];refine ⟨D,ws,rfl,.inr ⟨(by decide),[],hD',rfl,(λ z=>nomatch z),?_⟩⟩;rw [O3];exact (tm.cold λ a ha z=>(hf a ha).2 z.zf).weak zt
  ·rw [jc0.mp ha];exact back D hD
  ·rw [jc0.mp ha];exact nD
theorem k8 {g:TG}{is vI vE vo:List Nat}{asg:PV->Ag->Option Ag}{test:Fb}{elt f:Fx}{k n:Nat}{Q:VK}{P:Fm->Prop}
  (hn:σ.length=n) (hP:∀ D,P (M.comp D n vI)) (hal:∀ i,∀ j∈M.al i,M.Ms j=false) (hvI:∀ i∈vI,M.Ms i=false) (hvE:∀ i∈vE,M.Ms i=false) (his:∀ i∈is,n<=i) (hg:∀ D,DW (M.comp D n vI) vI is g asg)
  (hvo:∀ i,i∈vE->i < n->i∈vo) (hvo2:∀ i∈vo,M.Ms i=false) (hq:tE M (AO f k asg test elt) vo σ H Q):
  J6 k (D5 M.K (tE M f vI)) g (λ σ H Q=>∃ M',P M'/\tT M' test σ H Q) (λ σ H Q=>∃ M',P M'/\tE M' elt vE σ H Q) σ H Q:=by
 obtain ⟨ρ,fps,rep,q⟩:=hq;refine ⟨ρ,fps,rep,?_⟩;unfold AO at q;cases ef:f ρ with
 | no=>rw [ef] at q;exact q
 | exc c=>rw [ef] at q;exact q
 | ok p=>
  obtain ⟨x,d,ρ1⟩:=p;rw [ef] at q;intro v H1 fps1 f1 k1 g1 rep1 o1 t1;have o0:Own M.K H1 (Zv M vI fps1) x 0 v []:=Own.freeze (λ _ z=>.inl z) x d v f1 (λ a ha z=>t1.ndj a ha z.zf) o1;have hl:n=ρ1.length:=by rw [rep1.len];exact hn.symm
  have fin:∀ (els:List PV),(match (C9 k asg test elt els ρ1 []).bindN λ (acc,ρ2)=>CZ acc ρ2 with
    | .ok (x,d,ρ')=>∀ v H' fps' fp,KD M H fps H' fps'->Agr M ρ ρ'->Rep M ρ' σ H' fps'->Own M.K H' (Zt M vo fps' fp) x d v fp->Temp M vo H H' fps' fp->Q v H'
    | .exc c=>∀ H' fps',KD M H fps H' fps'->M.W σ c H'
    | .no=>False)->(match C9 k asg test elt els ρ1 [] with
    | .ok (acc,ρ')=>∀ D ws H' fps' fpl,KD M H1 fps1 H' fps'->Agr M ρ1 ρ'->Rep (M.plus [D]) ρ' σ H' fps'->H1 D=none->H' D=some (.lst ws)->Tmps M.K H' (Zv (M.plus [D]) vo fps') acc ws fpl->(∀ a∈fpl,H1 a=none/\¬ Zf (M.plus [D]) fps' a)->Q (.ref D) H'
    | _=>False):=λ els q=>by
   cases ec:C9 k asg test elt els ρ1 [] with
   | no=>rw [ec] at q;exact q.elim
   | exc c=>rw [ec] at q;exact q.elim
   | ok p=>
    obtain ⟨acc,ρ2⟩:=p;rw [ec] at q;exact λ D ws H' fps' fpl k g r hD hD' tm hf=>PH rep1 k1 g1 q k g r hD hD' tm hf
  cases x with
  | lst xs=>
   have one:∀ {Z:Addr->Prop}{H:Hp},Own M.K H Z (.lst xs) 0 v []->∃ a ws,v=.ref a/\BG M.K H a ws/\OwnL M.K H Z xs 0 ws []:=λ o=>by
    rw [Own] at o;obtain ⟨b,ws,e,⟨_,hr,_,ol⟩ | ⟨h,_⟩⟩:=o
    ·exact ⟨b,ws,e,.inl (.inl hr.1),ol⟩
    ·exact absurd rfl h
   obtain ⟨a,ws,rfl,sq,ol⟩:=one o0;refine .inl ⟨a,rfl,.inl ⟨⟨ws,sq⟩,?_⟩⟩;refine Lh (els:=xs) hP hl hal hvI hvE his hg hvo hvo2 rep1 (λ {D H' fps' i} hD k' h=>?_) (λ {D H' fps' i} hD k' h=>?_) (λ {D H' fps' i x H''} hD k' h y=>?_) (fin xs q)
   ·obtain ⟨a',ws,e,s,ol⟩:=one (KD.seen rep1 k' hD hvI o0);cases e;exact ⟨ws,ws[i]'(by rw [ol.length];exact h),s,by simp⟩
   ·obtain ⟨a',ws,e,s,ol⟩:=one (KD.seen rep1 k' hD hvI o0);cases e;exact ⟨ws,s,by rw [ol.length];exact h⟩
   ·obtain ⟨a',ws,e,s,ol⟩:=one (KD.seen rep1 k' hD hvI o0);cases e;obtain ⟨e1,e2⟩:=y;subst e1;exact ⟨λ _ _ h=>h,ol.get (e2 ws s)⟩
  | tup xs=>
   have one:∀ {Z:Addr->Prop}{H:Hp},Own M.K H Z (.tup xs) 0 v []->∃ a ws,v=.ref a/\Dr M.K H a ws/\OwnL M.K H Z xs 0 ws []:=λ o=>by
    rw [Own] at o;obtain ⟨a,ws,e,hr,ol⟩:=o;exact ⟨a,ws,e,.inl (.inl hr),ol⟩
   obtain ⟨a,ws,rfl,sq,ol⟩:=one o0;refine .inl ⟨a,rfl,.inr ⟨⟨ws,sq⟩,?_⟩⟩;refine Lh (els:=xs) hP hl hal hvI hvE his hg hvo hvo2 rep1 (λ {D H' fps' i} hD k' h=>?_) (λ {D H' fps' i} hD k' h=>?_) (λ {D H' fps' i x H''} hD k' h y=>?_) (fin xs q)
   ·obtain ⟨a',ws,e,s,ol⟩:=one (KD.seen rep1 k' hD hvI o0);cases e;exact ⟨ws,ws[i]'(by rw [ol.length];exact h),s,by simp⟩
   ·obtain ⟨a',ws,e,s,ol⟩:=one (KD.seen rep1 k' hD hvI o0);cases e;exact ⟨ws,s,by rw [ol.length];exact h⟩
   ·obtain ⟨a',ws,e,s,ol⟩:=one (KD.seen rep1 k' hD hvI o0);cases e;obtain ⟨e1,e2⟩:=y;subst e1;exact ⟨λ _ _ h=>h,ol.get (e2 ws s)⟩
  | str z=>
   have o0':=o0;rw [Own] at o0';obtain ⟨rfl,_⟩:=o0';dsimp only at q;by_cases ha:O1 z=true
   ·rw [if_pos ha] at q;refine .inr ⟨z,rfl,ha,?_⟩;have hl':(FU z).length=z.cps.size:=by unfold FU;rw [Ax,KU]
    refine Lh (els:=FU z) hP hl hal hvI hvE his hg hvo hvo2 rep1 (λ {D H' fps' i} hD k' h=>?_) (λ {D H' fps' i} hD k' h=>?_) (λ {D H' fps' i x H''} hD k' h y=>?_) (fin (FU z) q)
    ·show i < z.cps.size;omega
    ·show z.cps.size<=i;omega
    ·obtain ⟨rfl,c,hc,rfl⟩:=y;refine ⟨λ _ _ h=>h,.str ⟨#[c]⟩,?_,by rw [Own];exact ⟨rfl,rfl⟩⟩;unfold FU;rw [C8,SY,hc];rfl
   ·rw [if_neg ha] at q;exact q.elim
  | _=>exact q.elim
def TL {g:TG}{is vI vE vo:List Nat}{asg:PV->Ag->Option Ag}{test:Fb}{elt:Fx}{k n:Nat}{Q:VK}{P:Fm->Prop}{lo:Int}{m:Nat}{H0:Hp}{fps0:AR}{ρ0:Ag}
  (hn:σ.length=n) (hP:∀ D,P (M.comp D n vI)) (hal:∀ i,∀ j∈M.al i,M.Ms j=false) (hvI:∀ i∈vI,M.Ms i=false) (hvE:∀ i∈vE,M.Ms i=false) (his:∀ i∈is,n<=i) (hg:∀ D,DW (M.comp D n vI) vI is g asg)
  (hvo:∀ i,i∈vE->i < n->i∈vo) (hvo2:∀ i∈vo,M.Ms i=false) (k0:KD M H0 fps0 H fps) (g0:Agr M ρ0 ρ) (rep:Rep M ρ σ H fps)
  (q:match (C9 k asg test elt (FJ lo m) ρ []).bindN λ (acc,ρ2)=>CZ acc ρ2 with
    | .ok (x,d,ρ')=>∀ v H' fps' fp,KD M H0 fps0 H' fps'->Agr M ρ0 ρ'->Rep M ρ' σ H' fps'->Own M.K H' (Zt M vo fps' fp) x d v fp->Temp M vo H0 H' fps' fp->Q v H'
    | .exc c=>∀ H' fps',KD M H0 fps0 H' fps'->M.W σ c H'
    | .no=>False):
  ∀ D,H D=none->∃ W:Nat->Nat->List V->Hp->Prop,(∃ m,W 0 m [] (As H D (.lst [])))/\∀ i j ys H1,W i j ys H1->H1 D=some (.lst ys) /\
   (((GU lo m).stop i H1/\Q (.ref D) H1)\/((GU lo m).go i H1/\∀ x H',(GU lo m).yld i H1 x H'->g x (σ++Bg k none) H' λ σ2 H2=>∃ M',P M'/\tT M' test σ2 H2 λ b H3=>if b=true then ∃ M',P M'/\tE M' elt vE σ2 H3 λ y H4=>H4 D=some (.lst ys)/\ys.length < A2/\∃ m',m' < j/\W (i + 1) m' (ys++[y]) (As H4 D (.lst (ys++[y]))) else ∃ m',m' < j/\W (i + 1) m' ys H3)):=by
 have hl:n=ρ.length:=by rw [rep.len];exact hn.symm
 refine Lh (els:=FJ lo m) hP hl hal hvI hvE his hg hvo hvo2 rep (λ {D H' fps' i} hD k' h=>?_) (λ {D H' fps' i} hD k' h=>?_) (λ {D H' fps' i x H''} hD k' h y=>?_) ?_
 ·rw [JX] at h;exact h
 ·rw [JX] at h;exact h
 ·rw [JX] at h;obtain ⟨e1,e2⟩:=y;subst e1;exact ⟨λ _ _ h=>h,.int (lo + i),by simp [FJ,h],by rw [e2,Own];exact ⟨rfl,rfl⟩⟩
 ·cases ec:C9 k asg test elt (FJ lo m) ρ [] with
  | no=>rw [ec] at q;exact q.elim
  | exc c=>rw [ec] at q;exact q.elim
  | ok p=>
   obtain ⟨acc,ρ2⟩:=p;rw [ec] at q;exact λ D ws H' fps' fpl k g r hD hD' tm hf=>PH rep k0 g0 q k g r hD hD' tm hf
theorem k6 {g:TG}{is vI vE vo:List Nat}{asg:PV->Ag->Option Ag}{test:Fb}{elt:Fx}{fa:Fa}{k n:Nat}{Q:VK}{P:Fm->Prop}
  (hn:σ.length=n) (hP:∀ D,P (M.comp D n vI)) (hal:∀ i,∀ j∈M.al i,M.Ms j=false) (hvI:∀ i∈vI,M.Ms i=false) (hvE:∀ i∈vE,M.Ms i=false) (his:∀ i∈is,n<=i) (hg:∀ D,DW (M.comp D n vI) vI is g asg)
  (hvo:∀ i,i∈vE->i < n->i∈vo) (hvo2:∀ i∈vo,M.Ms i=false) (hq:tE M (Cj AJ fa k asg test elt) vo σ H Q):
  J6 k (Od (tL M fa vs)) g (λ σ H Q=>∃ M',P M'/\tT M' test σ H Q) (λ σ H Q=>∃ M',P M'/\tE M' elt vE σ H Q) σ H Q:=by
 obtain ⟨ρ,fps,rep,q⟩:=hq;refine ⟨ρ,fps,rep,?_⟩;unfold Cj at q;cases ef:fa ρ with
 | no=>rw [ef] at q;exact q
 | exc c=>rw [ef] at q;exact q
 | ok p=>
  obtain ⟨xs,ρ1⟩:=p;rw [ef] at q;intro ws H1 fps1 f1 k1 g1 rep1 o1 t1;dsimp only at q;cases ee:AJ xs with
  | none=>rw [ee] at q;exact q.elim
  | some ij=>
   obtain ⟨i,j⟩:=ij;rw [ee] at q;unfold AJ at ee;split at ee
   ·rename_i j' d;split at ee
    ·rename_i hb;cases ee;obtain ⟨v,r,f1,f2,rfl,_,_,h1,h2⟩:=o1;obtain ⟨rfl,_⟩:=h2;rw [Own] at h1;obtain ⟨rfl,_⟩:=h1;refine ⟨j,rfl,hb.1,hb.2,?_⟩;have e:(j - 0).toNat=j.toNat:=by omega
     dsimp only at q;rw [e] at q;exact TL hn hP hal hvI hvE his hg hvo hvo2 k1 g1 rep1 q
    ·cases ee
   ·cases ee
theorem k7 {g:TG}{is vI vE vo:List Nat}{asg:PV->Ag->Option Ag}{test:Fb}{elt:Fx}{fa:Fa}{k n:Nat}{Q:VK}{P:Fm->Prop}
  (hn:σ.length=n) (hP:∀ D,P (M.comp D n vI)) (hal:∀ i,∀ j∈M.al i,M.Ms j=false) (hvI:∀ i∈vI,M.Ms i=false) (hvE:∀ i∈vE,M.Ms i=false) (his:∀ i∈is,n<=i) (hg:∀ D,DW (M.comp D n vI) vI is g asg)
  (hvo:∀ i,i∈vE->i < n->i∈vo) (hvo2:∀ i∈vo,M.Ms i=false) (hq:tE M (Cj FO fa k asg test elt) vo σ H Q):
  J6 k (Oe (tL M fa vs)) g (λ σ H Q=>∃ M',P M'/\tT M' test σ H Q) (λ σ H Q=>∃ M',P M'/\tE M' elt vE σ H Q) σ H Q:=by
 obtain ⟨ρ,fps,rep,q⟩:=hq;refine ⟨ρ,fps,rep,?_⟩;unfold Cj at q;cases ef:fa ρ with
 | no=>rw [ef] at q;exact q
 | exc c=>rw [ef] at q;exact q
 | ok p=>
  obtain ⟨xs,ρ1⟩:=p;rw [ef] at q;intro ws H1 fps1 f1 k1 g1 rep1 o1 t1;dsimp only at q;cases ee:FO xs with
  | none=>rw [ee] at q;exact q.elim
  | some ij=>
   obtain ⟨i,j⟩:=ij;rw [ee] at q;unfold FO at ee;split at ee
   ·rename_i i' d j' d';split at ee
    ·rename_i hb;cases ee;obtain ⟨v,r,f1,f2,rfl,_,_,h1,h2⟩:=o1;obtain ⟨v2,r2,f3,f4,rfl,_,_,h3,h4⟩:=h2;obtain ⟨rfl,_⟩:=h4;rw [Own] at h1 h3;obtain ⟨rfl,_⟩:=h1;obtain ⟨rfl,_⟩:=h3;exact ⟨i,j,rfl,hb,TL hn hP hal hvI hvE his hg hvo hvo2 k1 g1 rep1 q⟩
    ·cases ee
   ·cases ee
end
def WW {K:Frag}{c:Nat}{C:Addr} (e:DA K c=some C):c < 12:=by
 unfold DA at e;split at e
 ·rename_i x h;exact (jb1.mp h).1
 ·cases e
structure XC (h:Heap) (K:Frag) (c:Nat) (C:Addr):Prop where
 obj:∃ bm N nm q bs hdct sn sub ab col dd k0 k1 k2 k3 k5 mN,h.get? C=some (excClassObj nm q C N bs bm hdct sn sub ab col dd k0 k1 k2 k3 k5 "ValueError.__new__")/\h.Ns N mN/\mN "__init__" = none/\OwnTail h YE bm/\∀ d D,DA K d=some D->(Value.ref C::bm).contains (.ref D)=Fz c d
def Gp (W:Nat->Hp->Prop):XK:=λ v _ H'=>match v with
 | .int c _=>W c.toNat H'
 | _=>False
def Bi (_:AD) (_:AB) (_:Frag):FA:=λ _ _ _ _ _ _=>False
section
variable {X:Cx}{pins:List (Addr×Obj)}{σ:St}{H H1:Hp}{s s2:Ak}{h1 B:Heap}{a C:Addr}{a0:Ae}{c:Nat}{E:XK}{P:AD}{w:AB}{K:Frag}
end
def RW (CX:FA) (X:Cx) (W:St->Nat->Hp->Prop):Prop:=∀ (pins:List (Addr×Obj)) (σ:St) (H:Hp) (s:Ak) (e:Ae) (s':Ak),L2.Inv X pins σ H s->CX X.stack H s (Gp (W σ)) e s'->X.xe e s'
def VW (X:Cx) (W:St->Nat->Hp->Prop):Prop:=∀ (pins:List (Addr×Obj)) (σ:St) (H:Hp) (s:Ak) (c:Nat) (C a:Addr) (h':Heap) (args:List Ae),L2.Inv X pins σ H s->DA X.K c=some C->Heap.MadeExcOf s.heap h' a (.ref C) args->W σ c H->X.xe (.ref a) { s with heap:=h' }
abbrev W0:St->Nat->Hp->Prop:=λ _ _ _=>False
def V6 {P:AD}{w:AB}{K:Frag}{X:Cx}:RW (Bi P w K) X W0:=λ _ _ _ _ _ _ _ h=>h.elim
def jj {X:Cx}:VW X W0:=λ _ _ _ _ _ _ _ _ _ _ _ _ h=>h.elim
section
variable {P:AD}{w:AB}{K:Frag}{mg:Str->Option Ae}{base:Heap}{N:List Str}{qual:Str}{scope:Bz}{f:Addr}{cd:Ae}{A:Bc}{outer:List Env}{s:Ak}{H:Hp}{E:XK}
def zv:PassesOwn (Av P w) (CT (Bi P w K) P w K mg base N qual scope f cd A outer s H E).A (CT (Bi P w K) P w K mg base N qual scope f cd A outer s H E).env (CT (Bi P w K) P w K mg base N qual scope f cd A outer s H E).xe:=PassesOwn.leaving
end
section
variable {X:Cx}{CX:FA}{k:Nat}{f:Addr}{fd:Dd}{ps:List Str}{sp:Sp}{x:Str}{p pos:Pos}{e:Expr}{es:List Expr}{t:TA}{W:St->Nat->Hp->Prop}
def VO (sp:Sp) (W:St->Nat->Hp->Prop) (t:TA):TE:=λ σ H Q=>t σ H λ vs H1=>sp vs H1 Q (Gp (W σ))
theorem jY (F:FnOk X.prog X.w X.K X.mg X.base CX k f fd ps sp) (hr:Room k X.A) (hg:Gl X x) (hm:X.mg x=some (.ref f)) (hk:Jq X.K (.ref f)=true) (hb:qaj X.K fd ps []) (hx:RW CX X W) (ha:PA X (e::es) t) (hdb:(x == ("__debug__" : Str))=false)
  (he:AN (e::es) X.env=(false,eval e X.env)::AN es X.env) (hpl:(DD pos (AN es X.env)).any (·.1)=false):PE X (.Call (.Name x p) (e::es) [] pos) (VO sp W t):=by
 intro pins s σ H Q I h;refine Q1 (Wm I hg hm ?_ hdb);refine PySem.W.callWith_K (h₀:=X.base) I.ok.mod.kin hk (A5 (ha pos pins s σ H _ I h) λ us s1 ⟨vs,H1,I1,r,q⟩=>⟨I1.kIn,?_⟩) he hpl;have q':sp vs H1 Q (Gp (W σ)):=q;have hl:(us++[]).length=ps.length:=by rw [JF,<- r.length];exact F.len _ _ _ _ q'
 have hbd:=hb s1 us I1.kIn hl;rw [JF] at hbd;refine wpAny_call (codeAny_mono (F.run X.A X.stack s1 H1 ⟨us,[]⟩ us vs Q (Gp (W σ)) hr I1.env0 hbd r q') λ r s' hq=>?_);cases r with
 | error e=>exact hx pins σ H1 s1 e s' I1 hq
 | ok fl=>
  cases fl with
  | ret u=>exact I1.after hq
  | next=>exact E5 hq
  | brk=>exact E5 hq
  | cont=>exact E5 hq
end
def Du (cells:List (Str×Addr)):List (Str×Dx)->List (Str×Addr)->List (Str×Addr)
 | [],cs=>cs
 | (n,k)::r,cs=>if k == .free then Du cells r ((n,(cells.lookup n).getD 0)::cs) else Du cells r cs
def T8 {scope:Bz}{env:Env} (h:∀ x∈scope.names,x.2=.free->∃ c,env.cells.lookup x.1=some c):closureFor scope env=pure (Du env.cells scope.names []):=by
 unfold closureFor;have all:∀ (l:List (Str×Dx)) (cs:List (Str×Addr)),(∀ x∈l,x.2=.free->∃ c,env.cells.lookup x.1=some c) ->
   (forIn l cs λ (x:Str×Dx) (cs:List (Str×Addr))=>if (x.2 == NameKind.free)=true then (do let a<-cellOf env x.1;pure (ForInStep.yield ((x.1,a)::cs))) else pure (ForInStep.yield cs):Sem (List (Str×Addr)))=pure (Du env.cells l cs):=by
  intro l;induction l with
  | nil=>intro cs _;rfl
  | cons x r ih=>
   intro cs hl;obtain ⟨n,k⟩:=x;rw [Yj];have ih':=λ cs=>ih cs λ y hy=>hl y (A8 _ hy);by_cases hk:(k == NameKind.free)=true
   ·obtain ⟨c,hc⟩:=hl (n,k) A9 (by simpa using hk);have e1:cellOf env n=pure c:=by unfold cellOf;rw [hc]
    rw [if_pos hk,e1];simp only [pure_bind];rw [ih',Du,if_pos hk,hc];rfl
   ·rw [if_neg hk];simp only [pure_bind];rw [ih',Du,if_neg hk]
 have:=all scope.names [] h
 simp only [bind_pure] at this ⊢;exact this
theorem Hc (cells:List (Str×Addr)) (x:Str) (c:Addr):∀ (l:List (Str×Dx)) (cs:List (Str×Addr)),(∀ y∈l,y.2=.free->∃ c,cells.lookup y.1=some c)->(cs.lookup x=some c->cells.lookup x=some c)->(Du cells l cs).lookup x=some c->cells.lookup x=some c
 | [],cs,_,h,e=>h e
 | (n,k)::r,cs,hl,h,e=>by
  unfold Du at e;split at e
  ·rename_i hk;refine Hc cells x c r _ (λ y hy=>hl y (A8 _ hy)) (λ e'=>?_) e;rw [EU] at e';split at e'
   ·rename_i hx;obtain ⟨c',hc⟩:=hl (n,k) A9 (by simpa using hk);rw [hc] at e';cases e';rw [eq_of_beq hx];exact hc
   ·exact h e'
  ·exact Hc cells x c r cs (λ y hy=>hl y (A8 _ hy)) h e
theorem P9 (cells:List (Str×Addr)) (x:Str):∀ (l:List (Str×Dx)) (cs:List (Str×Addr)),(∃ c,cs.lookup x=some c)->∃ c,(Du cells l cs).lookup x=some c
 | [],cs,h=>h
 | (n,k)::r,cs,h=>by
  unfold Du;split
  ·refine P9 cells x r _ ?_;rw [EU];split
   ·exact ⟨_,rfl⟩
   ·exact h
  ·exact P9 cells x r cs h
theorem Pn (cells:List (Str×Addr)) (x:Str):∀ (l:List (Str×Dx)) (cs:List (Str×Addr)),(x,NameKind.free)∈l->∃ c,(Du cells l cs).lookup x=some c
 | [],_,h=>nomatch h
 | (n,k)::r,cs,h=>by
  unfold Du;rcases ja9.mp h with e | e
  ·cases e;rw [if_pos (show (NameKind.free == NameKind.free)=true by decide)];exact P9 cells x r _ ⟨_,by rw [EU,beq_self_eq_true]⟩
  ·split
   ·exact Pn cells x r _ e
   ·exact Pn cells x r cs e
theorem Pm:∀ (names:List (Str×Dx)) (n:Nat) (acc:List (Str×Addr)) (x:Str) (c:Addr),(Dm n names acc).lookup x=some c->acc.lookup x=some c\/(n<=c/\(x,NameKind.cell)∈names)
 | [],n,acc,x,c,h=>.inl h
 | (m,k)::r,n,acc,x,c,h=>by
  unfold Dm at h;split at h
  ·rename_i hk;have hk':k=.cell:=by simpa using hk
   rcases Pm r _ _ x c h with z | ⟨z,y⟩
   ·rw [EU] at z;split at z
    ·rename_i hx;cases z;exact .inr ⟨AW _,by rw [eq_of_beq hx,hk'];exact A9⟩
    ·exact .inl z
   ·exact .inr ⟨IK z,A8 _ y⟩
  ·rcases Pm r _ _ x c h with z | ⟨z,y⟩
   ·exact .inl z
   ·exact .inr ⟨z,A8 _ y⟩
theorem Nt:∀ (names:List (Str×Dx)) (n:Nat) (acc:List (Str×Addr)) (x:Str),(x,NameKind.cell)∉names->(Dm n names acc).lookup x=acc.lookup x
 | [],n,acc,x,h=>rfl
 | (m,k)::r,n,acc,x,h=>by
  unfold Dm;split
  ·rename_i hk;have hk':k=.cell:=by simpa using hk
   rw [Nt r _ _ x λ z=>h (A8 _ z),EU];split
   ·rename_i hx;exact absurd (by rw [eq_of_beq hx,hk'];exact A9) h
   ·rfl
  ·exact Nt r _ _ x λ z=>h (A8 _ z)
theorem Oq:∀ (names:List (Str×Dx)) (n:Nat) (acc:List (Str×Addr)) (x:Str),(x,NameKind.cell)∈names->∃ c,(Dm n names acc).lookup x=some c/\n<=c
 | [],n,acc,x,h=>nomatch h
 | (m,k)::r,n,acc,x,h=>by
  by_cases hr:(x,NameKind.cell)∈r
  ·unfold Dm;split
   ·obtain ⟨c,e,l⟩:=Oq r (n + 1) ((m,n)::acc) x hr;exact ⟨c,e,IK l⟩
   ·exact Oq r n acc x hr
  ·rcases ja9.mp h with e | e
   ·cases e;unfold Dm;rw [if_pos (by decide),Nt r _ _ _ hr,EU,beq_self_eq_true];exact ⟨n,rfl,AW _⟩
   ·exact absurd e hr
theorem R4:∀ (names:List (Str×Dx)) (n:Nat) (acc:List (Str×Addr)),(∀ x y c,acc.lookup x=some c->acc.lookup y=some c->x=y)->(∀ x c,acc.lookup x=some c->c < n)->∀ x y c,(Dm n names acc).lookup x=some c->(Dm n names acc).lookup y=some c->x=y
 | [],n,acc,hi,_,x,y,c,h1,h2=>hi x y c h1 h2
 | (m,k)::r,n,acc,hi,hl,x,y,c,h1,h2=>by
  unfold Dm at h1 h2;split at h1
  ·rename_i hk;rw [if_pos hk] at h2;refine R4 r (n + 1) ((m,n)::acc) (λ x y c h1 h2=>?_) (λ x c h=>?_) x y c h1 h2
   ·rw [EU] at h1 h2;split at h1
    ·rename_i e1;cases h1;split at h2
     ·rename_i e2;rw [eq_of_beq e1,eq_of_beq e2]
     ·exact absurd (hl y _ h2) (GO _)
    ·split at h2
     ·cases h2;exact absurd (hl x _ h1) (GO _)
     ·exact hi x y c h1 h2
   ·rw [EU] at h;split at h
    ·cases h;exact II _
    ·exact IJ (hl x c h)
  ·rename_i hk;rw [if_neg hk] at h2;exact R4 r n acc hi hl x y c h1 h2
theorem Sb:∀ (names:List (Str×Dx)) (h:Heap) (acc:List (Str×Addr)) (x:Str) (c:Addr),(Dm h.objs.size names acc).lookup x=some c->acc.lookup x=some c\/(pushCells h names).IsCell c none
 | [],h,acc,x,c,e=>.inl e
 | (m,k)::r,h,acc,x,c,e=>by
  unfold Dm at e;unfold pushCells;split at e
  ·rename_i hk;rw [if_pos hk];have hs:(h.push { cls:=.type "cell",data:=.cell none }).objs.size=h.objs.size + 1:=LN ..;have e':(Dm (h.push { cls:=.type "cell",data:=.cell none }).objs.size r ((m,h.objs.size)::acc)).lookup x=some c:=by rw [hs];exact e
   rcases Sb r _ _ x c e' with z | z
   ·rw [EU] at z;split at z
    ·cases z;exact .inr ⟨_,Qt _ _ _ _ (DF _ rfl),rfl⟩
    ·exact .inl z
   ·exact .inr z
  ·rename_i hk;rw [if_neg hk];exact Sb r h acc x c e
def YS {M:Model}{A:Bc}{E:Ae->Ak->Prop}{s:Ak}{scope:Bz}{globals:Addr}{cl:List (Str×Addr)}{qual:Str}{func:Option Addr}{code:Ae}{around:Env}{builtins:Addr}{Q:Env->Ak->Prop}
  (hQ:Q (newEnv scope s.heap.objs.size globals (Dm (s.heap.objs.size + 1) scope.names cl) qual func code (some around) builtins) { s with heap:=pushCells (s.heap.push { cls:=.type "dict",data:=.dict #[] }) scope.names }):
  Aw M A (Qk scope globals cl [] qual func code (some around) builtins) Q E s:=by
 simp only [Qk,Y3,if_true];refine A4 (wpAny_alloc ?_);refine A4 (wpAny_layCells _ (λ name kind cells=>by cases hkc:kind == NameKind.cell <;> simp [hkc]) _ _ _ _ ?_);rw [show ({ s with heap:=s.heap.push { cls:=.type "dict",data:=.dict #[] } }:Ak).heap.objs.size=s.heap.objs.size + 1 from LN ..];exact A4 (Bw (Bw hQ))
def Lv (X:Cx) (scope:Bz) (C:Addr):List (Str×Addr):=Dm (C + 1) scope.names (Du X.env.cells scope.names [])
def BD (X:Cx) (s2:Ak) (H2:Hp) (scope:Bz) (C:Addr) (N':List Str) (fp:List Addr) (pins:List (Addr×Obj)):Cx:=
 { X with N:=N',s₀:=s2,H₀:=H2,env:=compEnvC scope (Lv X scope C) C X.env,outer:=X.stack,stack:=X.stack,ex:=fp,fn:=λ x=>scope.names.contains (x,NameKind.cell),pn:=X.pn++pins,xe:=λ _ _=>False }
structure CompOk (X:Cx) (scope:Bz) (N':List Str) (k:Nat):Prop where
 kind:scope.kind=.function
 dis:∀ x,(x,NameKind.free)∈scope.names->(x,NameKind.cell)∉scope.names
 names:∀ x∈scope.names,x.2=.local->scope.names.lookup x.1=some .local
 len:N'.length=X.N.length + k
 free:∀ x∈scope.names,x.2=.free->X.env.kindOf x.1=some .cell\/X.env.kindOf x.1=some .free
 kinds:∀ x,(Iv scope X.env).names.lookup x=some .cell\/(Iv scope X.env).names.lookup x=some .free->(x,NameKind.free)∈scope.names\/(x,NameKind.cell)∈scope.names
 capt:∀ (i:Nat) (x:Str),i < X.N.length->N'[i]?=some x->IU (Iv scope X.env) x->X.N[i]?=some x/\IU X.env.scope x/\(x,NameKind.free)∈scope.names/\(Iv scope X.env).names.lookup x≠some .local
section
variable {X:Cx}{scope:Bz}{N':List Str}{k:Nat}{pins:List (Addr×Obj)}{σ:St}{H2:Hp}{s2:Ak}{fp:List Addr}{C:Addr}
def CompOk.cells (c:CompOk X scope N' k) (I:Inv X pins σ H2 s2):∀ x∈scope.names,x.2=.free->∃ a,X.env.cells.lookup x.1=some a:=λ x hx hf=>I.ok.has x.1 (c.free x hx hf)
def CompOk.cl (c:CompOk X scope N' k) (I:Inv X pins σ H2 s2) {x:Str}{a:Addr} (h:(Lv X scope C).lookup x=some a):X.env.cells.lookup x=some a\/(C + 1<=a/\(x,NameKind.cell)∈scope.names):=
 (Pm _ _ _ x a h).imp (λ z=>Hc _ x a _ [] (c.cells I) (λ z=>nomatch z) z) id
def CompOk.old (c:CompOk X scope N' k) (I:Inv X pins σ H2 s2) {x:Str}{a:Addr} (h:X.env.cells.lookup x=some a):a < s2.heap.objs.size:=by
 obtain ⟨v,o,ho,_⟩:=I.cell x a h;exact Bn ho
def CompOk.cap (c:CompOk X scope N' k) {x:Str} (h:(x,NameKind.free)∈scope.names):∃ a,(Lv X scope C).lookup x=some a/\(Du X.env.cells scope.names []).lookup x=some a:=by
 obtain ⟨a,ha⟩:=Pn X.env.cells x scope.names [] h;exact ⟨a,(Nt _ _ _ x (c.dis x h)).trans ha,ha⟩
def CompOk.ok (c:CompOk X scope N' k) (I:Inv X pins σ H2 s2) (hf:∀ b∈fp,Cz X pins H2 b) (hC:s2.heap.objs.size<=C) (hfp:∀ b∈fp,b < s2.heap.objs.size):(BD X s2 H2 scope C N' fp pins).Ok where
 mod:=I.ok.mod
 kind:=c.kind
 glob:=I.ok.glob
 blt:=I.ok.blt
 above:=hC
 inj:=λ x y a h1 h2=>R4 scope.names (C + 1) _ (λ x y a h1 h2=>I.ok.inj x y a (Hc _ x a _ [] (c.cells I) (λ z=>nomatch z) h1) (Hc _ y a _ [] (c.cells I) (λ z=>nomatch z) h2))
  (λ x a h=>IJ (Cf (c.old I (Hc _ x a _ [] (c.cells I) (λ z=>nomatch z) h)) hC)) x y a h1 h2
 has:=λ x hx=>(c.kinds x hx).elim (λ z=>let ⟨a,h,_⟩:=c.cap (C:=C) z;⟨a,h⟩) λ z=>let ⟨a,h,_⟩:=Oq scope.names (C + 1) (Du X.env.cells scope.names []) x z;⟨a,h⟩
 cab:=λ x a h e=>by
  have hx:(x,NameKind.cell)∈scope.names:=by
   have h':scope.names.contains (x,NameKind.cell)=true:=h;simpa using h'
  obtain ⟨a',e',l⟩:=Oq scope.names (C + 1) (Du X.env.cells scope.names []) x hx;have e2:(Dm (C + 1) scope.names (Du X.env.cells scope.names [])).lookup x=some a:=e;rw [e'] at e2;cases e2;exact CA hC (IK l)
 hd:=I.ok.hd
 frames:=I.ok.frames
 stk:=.inl rfl
 exf:=λ b hb=>⟨Cc (Cf (hfp b hb) hC),λ x a h=>(c.cl I h).elim (λ z=>(hf b hb).2.2.2.2.1 x a z) λ z=>IF (Cf (hfp b hb) (CA hC (IK z.1)))⟩
 bs:=I.bs
 bsz:=CA I.ok.bsz I.sz
 noex:=λ b o e hb=>by
  rcases (hf b hb).2.2.2.1 with z | z
  ·exact I.ok.noex b o e z
  ·exact absurd (Cf (Bn e) (CA I.ok.bsz z)) (GO _)
 exfs:=λ b hb hz=>by
  rcases ja9.mp (I.stkSub b hz) with z | z
  ·exact (hf b hb).2.1 z
  ·exact (hf b hb).2.2.1 z
 funs:=I.stack
 frf:=I.stkFree
def CompOk.inv (c:CompOk X scope N' k) (I:Inv X pins σ H2 s2) (hf:∀ b∈fp,Cz X pins H2 b) (hfp:∀ b∈fp,b < s2.heap.objs.size) {H3:Hp}{h':Heap}{t':Nat}{m:Str->Option Ae}{D:Addr} (hCD:D≠C) (hD:s2.heap.objs.size<=D) (hC:s2.heap.objs.size<=C)
  (keep:∀ b o,s2.heap.get? b=some o->h'.get? b=some o) (ns:h'.Ns C m) (hH:∀ b,b≠D->H3 b=H2 b) (hok:HOk X.prog X.w H3 h') (hC3:H3 C=none) (hDC:D < C) (hcN:∀ x a,(Lv X scope C).lookup x=some a->C + 1<=a->h'.IsCell a none):
  Inv (BD X s2 H2 scope C N' fp pins) [] (σ++Bg k none) H3 { s2 with heap:=h',toks:=t' } where
 ok:=c.ok I hf hC hfp
 os:=rfl
 bare:=I.bare
 base:=by
  have nD:∀ b o,s2.heap.get? b=some o->b≠D:=λ b o e=>Cc (Cf (Bn e) hD);refine ⟨λ b o e _ _ _=>keep b o e,λ b o e _ _ _=>⟨o.slots,keep b o e⟩,λ b o e n _=>by rw [hH b (nD b o e)];exact n,λ b o e _=>⟨o,keep b o e⟩,λ b xs e=>?_,λ b o u e=>?_,λ b ps e=>⟨#[],?_⟩⟩
  ·have e:H2 b=some (.tup xs):=e;rw [hH b (λ z=>by rw [z,I.hok.fresh hD] at e;cases e)];exact e
  ·have e:H2 b=some (.frz o u):=e;rw [hH b (λ z=>by rw [z,I.hok.fresh hD] at e;cases e)];exact e
  ·have e:H2 b=some (.tbl ps):=e;rw [hH b (λ z=>by rw [z,I.hok.fresh hD] at e;cases e)];simpa using e
 loc:=by
  refine ⟨m,ns,λ i x v e1 e2 e3=>?_⟩;have hi:i < σ.length:=by
   by_cases hi:i < σ.length
   ·exact hi
   ·rw [EX (by omega),HC] at e2;split at e2 <;> cases e2
  rw [DU hi] at e2;obtain ⟨n1,n2,n3,n4⟩:=c.capt i x (by rw [<- I.len];exact hi) e1 e3;obtain ⟨m0,ns0,hl⟩:=I.loc;obtain ⟨u,r,lk⟩:=hl i x v n1 e2 n2;refine ⟨u,r,.inr ⟨?_,?_⟩⟩
  ·rcases e3 with z | z | z
   ·exact absurd z n4
   ·exact .inl z
   ·exact .inr z
  ·obtain ⟨a,ha,hb⟩:=c.cap (C:=C) n3;have ha':=Hc _ x a _ [] (c.cells I) (λ z=>nomatch z) hb;refine ⟨a,ha,?_⟩;rcases lk with ⟨hk,_⟩ | ⟨hk,a2,ha2,hc⟩
   ·rcases c.free _ n3 rfl with z | z <;> rw [hk] at z <;> cases z
   ·rw [ha'] at ha2;cases ha2;obtain ⟨o,ho,hd⟩:=hc;exact ⟨o,keep _ _ ho,hd⟩
 cell:=λ x a h=>by
  rcases c.cl I h with z | z
  ·obtain ⟨v,o,ho,hd⟩:=I.cell x a z;exact ⟨v,o,keep _ _ ho,hd⟩
  ·exact ⟨none,hcN x a h z.1⟩
 free:=hC3
 freeC:=λ x a h=>by
  rcases c.cl I h with ha | z
  ·obtain ⟨v,o,ho,hd⟩:=I.cell x a ha;rw [hH a (Cc (Cf (Bn ho) hD))];exact I.freeC x a ha
  ·rw [hH a (IF (Cf hDC (IK z.1)))];exact I.hok.fresh (CA hC (IK z.1))
 pin:=λ p hp=>by
  have hp':p∈X.pn++pins:=by simpa [BD] using hp
  obtain ⟨e,n,ne,nf,d⟩:=I.pin p hp';have hlt:=Bn e;exact ⟨keep _ _ e,by rw [hH p.1 (Cc (Cf hlt hD))];exact n,Cc (Cf hlt hC),λ z=>(ja9.mp (I.stkSub p.1 z)).elim ne nf,d⟩
 hok:=hok
 len:=by
  show (σ++Bg k none).length=N'.length;rw [BL,IS,c.len,I.len]
def HN (X:Cx) (ifs:List Expr) (t:TT):Prop:=
 ∀ (pins:List (Addr×Obj)) (s:Ak) (σ:St) (H:Hp) (Q:Bool->Hp->Prop),Inv X pins σ H s->t σ H Q ->
  Aw (Av X.prog X.w) X.A (forIn ifs true λ c r=>if r=true then do let ok<-isTrue c X.env (eval c X.env);pure (ForInStep.yield ok) else pure (ForInStep.yield r)) (TP X pins σ Q) X.xe s
def je {X:Cx}:HN X [] (λ _ H Q=>Q true H):=λ _ _ _ H _ I h=>Bw ⟨H,I,h⟩
def jf {X:Cx}{c:Expr}{t:TT} (hc:PT X c t):HN X [c] t:=by
 intro pins s σ H Q I h;rw [Yj];refine A4 ?_;rw [if_pos rfl];refine A4 (A5 (hc pins s σ H Q I h) λ b s1 q=>Bw ?_);exact Bw q
def CompOk.again (c:CompOk X scope N' k) (I:Inv X pins σ H2 s2) {σ':St}{H':Hp}{s':Ak}{ps:List (Addr×Obj)} (hfp:∀ b∈fp,Cz X pins H2 b) (J:Inv (BD X s2 H2 scope C N' fp pins) ps σ' H' s'):Inv (BD X s2 H2 scope C N' fp pins) ps (σ++Bg k none) H' s' where
 ok:=J.ok
 os:=J.os
 bare:=J.bare
 base:=J.base
 loc:=by
  obtain ⟨m,ns,_⟩:=J.loc;refine ⟨m,ns,λ i x v e1 e2 e3=>?_⟩;have hi:i < σ.length:=by
   by_cases hi:i < σ.length
   ·exact hi
   ·rw [EX (by omega),HC] at e2;split at e2 <;> cases e2
  rw [DU hi] at e2;obtain ⟨n1,n2,n3,n4⟩:=c.capt i x (by rw [<- I.len];exact hi) e1 e3;obtain ⟨m0,ns0,hl⟩:=I.loc;obtain ⟨u,r,lk⟩:=hl i x v n1 e2 n2;refine ⟨u,r,.inr ⟨?_,?_⟩⟩
  ·rcases e3 with z | z | z
   ·exact absurd z n4
   ·exact .inl z
   ·exact .inr z
  ·obtain ⟨a,ha,hb⟩:=c.cap (C:=C) n3;have ha':=Hc _ x a _ [] (c.cells I) (λ z=>nomatch z) hb;refine ⟨a,ha,?_⟩;rcases lk with ⟨hk,_⟩ | ⟨hk,a2,ha2,hc⟩
   ·rcases c.free _ n3 rfl with z | z <;> rw [hk] at z <;> cases z
   ·rw [ha'] at ha2;cases ha2;obtain ⟨o,ho,hd⟩:=hc;obtain ⟨sl,ho'⟩:=J.base.any (b:=a) (ob:=o) ho (I.freeC x a ha') λ z=>(hfp a z).2.2.2.2.1 x a ha' rfl;exact ⟨_,ho',hd⟩
 cell:=J.cell
 free:=J.free
 freeC:=J.freeC
 pin:=J.pin
 hok:=J.hok
 len:=by
  show (σ++Bg k none).length=N'.length;rw [BL,IS,c.len,I.len]
theorem YO {prog:AD}{w:AB}{A:Bc}{R:Result->Ak->Prop}{s:Ak}{elt target iter:Expr}{ifs:List Expr}{scope:Bz}{pos:Pos}{it acc:Ae}{env:Env} (I:Nat->Ak->Prop)
  (turn:∀ n s,I n s->Aw (Av prog w) A (pyNext it) (λ r s₁=>match r with
   | none=>R (.ok .next) s₁
   | some v=>Aw (Av prog w) A (NB target it v) (λ _ s₁'=>Aw (Av prog w) A (Hi target env v) (λ _ s₂=>
     Aw (Av prog w) A (forIn ifs true λ c r=>if r=true then do let ok<-isTrue c env (eval c env);pure (ForInStep.yield ok) else pure (ForInStep.yield r)) (λ ok s₃=>
      if ok=true then Aw (Av prog w) A (eval elt env) (λ x s₄=>
       Aw (Av prog w) A (call (.builtin "list.append") [acc,x]) (λ _ s₅=>∃ m,m < n/\I m s₅) (λ _ _=>False) s₄) (λ _ _=>False) s₃
      else ∃ m,m < n/\I m s₃) (λ _ _=>False) s₂) (λ _ _=>False) s₁') (λ _ _=>False) s₁) (λ _ _=>False) s)
  (n:Nat) (h:I n s):
  Iu (Av prog w) A (.compLoop (.ListComp elt [⟨target,iter,ifs,0⟩] scope pos) 0 it acc env) R s:=by
 refine codeAny_loop rfl I (λ n s hI=>?_) n h;show Aw _ A ((compTurn (.ListComp elt [⟨target,iter,ifs,0⟩] scope pos) 0 it acc env).onRaise (λ x=>do noteFrame x env;theTreesLotGoes x)) _ _ s;refine wpAny_noted ?_;rw [compTurn_list];refine A4 (wpAny_standAt (A4 (Fp (turn n s hI) (λ r s₁ h₁=>?_) λ _ _ h'=>h'.elim)));cases r with
 | none=>exact Bw h₁
 | some v=>
  refine A4 (Fp h₁ (λ _ s₁' h₁'=>?_) λ _ _ h'=>h'.elim);refine A4 (Fp h₁' (λ _ s₂ h₂=>A4 (Fp h₂ (λ ok s₃ h₃=>?_) λ _ _ h'=>h'.elim)) λ _ _ h'=>h'.elim);cases ok with
  | false=>exact Bw ⟨rfl,h₃⟩
  | true=>
   exact A4 (A4 (Fp h₃ (λ x s₄ h₄=>A4 (Fp h₄ (λ _ s₅ h₅=>Bw (Bw ⟨rfl,h₅⟩)) λ _ _ h'=>h'.elim)) λ _ _ h'=>h'.elim))
def TJ {elt iter tg:Expr}{ifs:List Expr}{pos:Pos}{J:It}{it:Addr}{tn:Nat->Heap->Prop}{g:TG}{tc:TT}{te:TE}{RR:Ae->Addr->Result->Ak->Prop}{Q:VK}{E:Ae->Ak->Prop}
  (c:CompOk X scope N' k) (hcalm:X.calm=true) (I:Inv X pins σ H2 s2) (T:Turn X.prog X.w X.K tg J fp it tn) (st:tn 0 s2.heap) (hf:∀ b∈fp,Cz X pins H2 b)
  (hg:∀ C fp,PG (BD X s2 H2 scope C N' fp pins) tg g) (hc:∀ C fp,HN (BD X s2 H2 scope C N' fp pins) ifs tc) (he:∀ C fp,PE (BD X s2 H2 scope C N' fp pins) elt te)
  (h:∀ D,H2 D=none->∃ W:Nat->Nat->List V->Hp->Prop,(∃ m,W 0 m [] (As H2 D (.lst [])))/\∀ i m ys H,W i m ys H->H D=some (.lst ys) /\
   ((J.stop i H/\Q (.ref D) H)\/(J.go i H/\∀ x H',J.yld i H x H'->g x (σ++Bg k none) H' λ σ2 H2=>tc σ2 H2 λ b H3=>if b=true then te σ2 H3 λ y H4=>H4 D=some (.lst ys)/\ys.length < A2/\∃ m',m' < m/\W (i + 1) m' (ys++[y]) (As H4 D (.lst (ys++[y]))) else ∃ m',m' < m/\W (i + 1) m' ys H3)))
  (hRR:∀ D C σ' H' s',s2.heap.objs.size<=C->Inv (BD X s2 H2 scope C N' fp pins) [] σ' H' s'->Q (.ref D) H'->RR (.ref D) C (.ok .next) s')
  :
  Aw (Av X.prog X.w) X.A (newList []) (λ acc s₃=>Aw (Av X.prog X.w) X.A (Qk scope X.env.globals (Du X.env.cells scope.names []) [] X.env.qual none .none (some X.env)) (λ cenv s₄=>
   Iu (Av X.prog X.w) X.A (.compStart (.ListComp elt [⟨tg,iter,ifs,0⟩] scope pos) 0 (.ref it) acc { cenv with scope:=Iv scope X.env }) (RR acc cenv.locals) s₄) E s₃) E s2:=by
 refine LQ (YS ?_);dsimp only;generalize hH2:s2.heap.push { cls:=.type "list",dict:=none,data:=.seq ([]:List Ae).toArray }=HP;obtain ⟨h₁,hh₁⟩:∃ h₁,h₁=pushCells (HP.push { cls:=.type "dict",data:=.dict #[] }) scope.names:=⟨_,rfl⟩
 rw [<- hh₁];have kk:∀ b o,HP.get? b=some o->h₁.get? b=some o:=λ b o e=>by rw [hh₁];exact Qt _ _ b o (CI _ e)
 have hns₁:h₁.Ns HP.objs.size (λ _=>none):=by rw [hh₁];exact (Heap.Ns.new HP (.type "dict")).keeps (Qt _ _)
 have hC:HP.objs.size=s2.heap.objs.size + 1:=by rw [<- hH2,LN]
 have hDC:s2.heap.objs.size≠HP.objs.size:=by rw [hC];exact Cc (II _)
 have hCle:s2.heap.objs.size<=HP.objs.size:=by rw [hC];exact Mv _
 have hfp:∀ b∈fp,b < s2.heap.objs.size:=λ b hb=>by
  obtain ⟨o,e,_⟩:=T.obj 0 _ st b hb;exact Bn e
 have below:∀ b,b < s2.heap.objs.size->b≠HP.objs.size:=λ b hb=>by rw [hC];exact Cc (IJ hb)
 have old:∀ b o,s2.heap.get? b=some o->h₁.get? b=some o:=λ b o e=>kk b o (hH2 ▸ CI _ e);have hacc:h₁.get? s2.heap.objs.size=some { cls:=.type "list",dict:=none,data:=.seq ([]:List Ae).toArray }:=kk _ _ (hH2 ▸ DF _ rfl);have fD:H2 s2.heap.objs.size=none:=I.hok.fresh (AW _);obtain ⟨W,⟨m0,w0⟩,hW⟩:=h _ fD;have hok3:HOk X.prog X.w (As H2 s2.heap.objs.size (.lst [])) h₁:=I.hok.laid old (AW _) ⟨Hz _,[],0,.nil,hacc⟩;have st1:tn 0 h₁:=T.keep _ _ _ st λ b hb o e=>old b o e;have I3:Inv (BD X s2 H2 scope HP.objs.size N' fp pins) [] (σ++Bg k none) (As H2 s2.heap.objs.size (.lst [])) { s2 with heap:=h₁ }:=
  c.inv I hf hfp (t':=s2.toks) hDC (AW _) hCle old hns₁ (λ b hb=>AM hb) hok3 (by rw [AM (BY hDC)];exact I.hok.fresh hCle) (by rw [hC];exact II _) (λ x a h l=>by
   have hs:(HP.push { cls:=.type "dict",data:=.dict #[] }).objs.size=HP.objs.size + 1:=LN ..;have h':(Dm (HP.push { cls:=.type "dict",data:=.dict #[] }).objs.size scope.names (Du X.env.cells scope.names [])).lookup x=some a:=by rw [hs];exact h
   rcases Sb scope.names _ _ x a h' with z | z
   ·exact absurd (Cf (c.old I (Hc _ x a _ [] (c.cells I) (λ z=>nomatch z) z)) (CA hCle (IK l))) (GO _)
   ·rw [hh₁];exact z)
 have fx:∀ {H':Hp},(∀ b∈fp,H' b=none)->∀ b∈fp,Cz (BD X s2 H2 scope HP.objs.size N' fp pins) [] H' b:=λ hn b hb=>by
  obtain ⟨f0,f1,f2,f3,f4,f5⟩:=hf b hb;refine ⟨hn b hb,Cc (Cf (hfp b hb) hCle),λ hz=>?_,.inl hb,λ x a h=>(c.cl I h).elim (λ z=>f4 x a z) λ z=>IF (Cf (hfp b hb) (CA hCle (IK z.1))),λ p hp=>f5 p (by simpa [BD] using hp)⟩;rcases ja9.mp (I.stkSub b hz) with z | z
  ·exact f1 z
  ·exact f2 z
 have f0:∀ b∈fp,(As H2 s2.heap.objs.size (.lst [])) b=none:=λ b hb=>by rw [AM (Cc (hfp b hb))];exact (hf b hb).1
 have loop:∀ s₃:Ak,s₃={ s2 with heap:=h₁ } ->
   Iu (Av X.prog X.w) X.A (.compLoop (.ListComp elt [⟨tg,iter,ifs,0⟩] scope pos) 0 (.ref it) (.ref s2.heap.objs.size) (compEnvC scope (Lv X scope HP.objs.size) HP.objs.size X.env))
    (RR (.ref s2.heap.objs.size) HP.objs.size) s₃:=by
  rintro s₃ rfl;refine YO (λ n s'=>∃ i H' ys,Inv (BD X s2 H2 scope HP.objs.size N' fp pins) [] (σ++Bg k none) H' s'/\tn i s'.heap/\(∀ b∈fp,H' b=none)/\W i n ys H') ?_ m0 ⟨0,_,[],I3,st1,f0,w0⟩;rintro n s4 ⟨i,H4,ys,I4,st4,fr4,w4⟩;obtain ⟨hD4,hcase⟩:=hW i n ys H4 w4;rcases hcase with ⟨stop,qn⟩ | ⟨go,step⟩
  ·refine A5 (T.done (BD X s2 H2 scope HP.objs.size N' fp pins) rfl rfl rfl hcalm i [] s4 _ H4 (λ _ _=>False) I4 (fx fr4) st4 stop) λ r s5 ⟨hr,I5⟩=>?_;subst hr;exact hRR _ _ _ _ _ hCle I5 qn
  ·refine A5 (T.item (BD X s2 H2 scope HP.objs.size N' fp pins) rfl rfl rfl hcalm i [] s4 _ H4 (λ _ _=>False) I4 (fx fr4) st4 go) λ r s5 ⟨u,hr,h5⟩=>?_;subst hr;refine A5 h5 λ _ s6 ⟨x,H6,I6,r6,y6,st6,fr6⟩=>?_;have I6':=I6.pinned (fx fr6) (T.obj _ _ st6);have stays:∀ {σ':St}{H':Hp}{s':Ak},Inv (BD X s2 H2 scope HP.objs.size N' fp pins) ([]++L5 fp s6.heap) σ' H' s'->Inv (BD X s2 H2 scope HP.objs.size N' fp pins) [] (σ++Bg k none) H' s'/\tn (i + 1) s'.heap/\∀ b∈fp,H' b=none:=λ {σ' H' s'} J=>by
    refine ⟨c.again I hf J.unpinned,T.keep _ _ _ st6 λ b hb o e=>(J.pin (b,o) (Bb _ (Bb _ (Nb hb e)))).1,λ b hb=>?_⟩;obtain ⟨o,e,d⟩:=T.obj _ _ st6 b hb;exact (J.pin (b,o) (Bb _ (Bb _ (Nb hb e)))).2.1
   refine A5 (hg _ _ _ s6 _ H6 x u _ I6' r6 (step x H6 y6)) λ _ s7 ⟨σ7,H7,I7,q7⟩=>?_;refine A5 (hc _ _ _ s7 σ7 H7 _ I7 q7) λ b s8 ⟨H8,I8,q8⟩=>?_;cases b with
   | false=>
    rw [if_neg Cp] at q8 ⊢;obtain ⟨m',hm,w'⟩:=q8;obtain ⟨j1,j2,j3⟩:=stays I8;exact ⟨m',hm,i + 1,H8,ys,j1,j2,j3,w'⟩
   | true=>
    rw [if_pos rfl] at q8 ⊢;refine A5 (he _ _ _ s8 σ7 H8 _ I8 q8) λ y s9 ⟨z,H9,I9,r9,hD9,hz9,m',hm,w'⟩=>?_;refine A5 (MU (X:=BD X s2 H2 scope HP.objs.size N' fp pins) _ s9 σ7 H9 (.ref s2.heap.objs.size) [z] (.ref s2.heap.objs.size) [y] (λ _ H'=>H'=As H9 s2.heap.objs.size (.lst (ys++[z]))) I9 rfl (.cons r9 .nil) ⟨_,ys,z,rfl,rfl,hD9,hz9,rfl⟩) λ _ s10 ⟨_,H10,I10,_,e10⟩=>?_;subst e10;obtain ⟨j1,j2,j3⟩:=stays I10;exact ⟨m',hm,i + 1,_,_,j1,j2,j3,w'⟩
 exact codeAny_compStart_list (loop _ rfl) (T.self _ 0 _ _ _ st1 (loop _ rfl))
def CompOk.out (I:Inv X pins σ H2 s2) (hf:∀ b∈fp,Cz X pins H2 b) {σ':St}{H':Hp}{s':Ak} (J:Inv (BD X s2 H2 scope C N' fp pins) [] σ' H' s'):Inv X pins σ H' s':=
 I.call' (ch:=fp) J.os J.base J.hok J.bare λ b hb=>⟨(hf b hb).2.2.2.1,(hf b hb).2.1,(hf b hb).2.2.2.2.1,(hf b hb).2.2.2.2.2⟩
def CompOk.away (I:Inv X pins σ H2 s2) (hC:s2.heap.objs.size<=C) {σ':St}{H':Hp}{s':Ak} (J:Inv X pins σ' H' s') (hC':H' C=none) {h':Heap} (sb:N5 C s'.heap h'):Inv X pins σ' H' { s' with heap:=h' }:=by
 have lt:∀ b o,s2.heap.get? b=some o->b≠C:=λ b o e=>Cc (Cf (Bn e) hC);refine J.turned (t':=s'.toks) (it:=C) (λ b o hb e=>(sb.2 b hb).trans e) hC' (IF (Cf I.lt hC)) (.inr (CA I.sz hC)) (λ x c h=>?_) λ p hp=>?_
 ·obtain ⟨v,o,ho,_⟩:=I.cell x c h;exact lt c o ho
 ·exact lt p.1 p.2 (I.pin p hp).1
variable {elt iter tg:Expr}{ifs:List Expr}{pos:Pos}{wi:TI}{g:TG}{tc:TT}{te:TE}
def WD (c:CompOk X scope N' k) (hcalm:X.calm=true) (hi:PI X tg iter wi) (hg:∀ s2 H2 C fp pins,PG (BD X s2 H2 scope C N' fp pins) tg g) (hc:∀ s2 H2 C fp pins,HN (BD X s2 H2 scope C N' fp pins) ifs tc)
  (he:∀ s2 H2 C fp pins,PE (BD X s2 H2 scope C N' fp pins) elt te) (hs:∀ x,ND iter X.env x=pure x):PE X (.ListComp elt [⟨tg,iter,ifs,0⟩] scope pos) (J6 k wi g tc te):=by
 intro pins s σ H Q I h;rw [eval_ListComp];refine wpAny_comprehension_free (use:=none) rfl hs (T8 (c.cells I)) c.kind c.names ?_;refine A5 (hi pins s σ H _ I h) λ v s1 h1=>A5 h1 λ itv s2 h2=>?_;obtain ⟨it,fp,tn,J,H',e,I2,T,st2,f2,W⟩:=h2;subst e;refine TJ (RR:=λ acc C=>compPost (Av X.prog X.w) X.A X.xe none (EP X pins σ Q) acc C) c hcalm I2 T st2 f2 (λ C fp=>hg s2 H' C fp pins) (λ C fp=>hc s2 H' C fp pins) (λ C fp=>he s2 H' C fp pins) W λ D C σ' H3 s' hC J3 q=>?_;obtain ⟨m,ns,_⟩:=J3.loc;exact ⟨m,ns,λ h' sb=>⟨.ref D,H3,CompOk.away I2 hC (CompOk.out I2 f2 J3) J3.free sb,rfl,q⟩⟩
theorem wk {i:Nat}{x:Str}{pos' spos:Pos} (hN:X.N.Nodup) (hi':X.N[i]?=some x) (hx:Fd X.env.scope x) (hfn:X.fn x=true\/X.env.scope.names.lookup x=some .local) (c:CompOk X scope N' k) (hcalm:X.calm=true) (hi:PI X tg iter wi) (hg:∀ s2 H2 C fp pins,PG (BD X s2 H2 scope C N' fp pins) tg g) (hc:∀ s2 H2 C fp pins,HN (BD X s2 H2 scope C N' fp pins) ifs tc)
  (he:∀ s2 H2 C fp pins,PE (BD X s2 H2 scope C N' fp pins) elt te) (hs:∀ x,ND iter X.env x=pure x):PS X (.Assign [.Name x pos'] (.ListComp elt [⟨tg,iter,ifs,0⟩] scope pos) spos) (DM (J6 k wi g tc te) (DK i)):=by
 have hsw:∃ b,swapsWith (.ListComp elt [⟨tg,iter,ifs,0⟩] scope pos) (some (.Name x pos')) spos.line X.env=pure b:=⟨_,rfl⟩
 obtain ⟨b,hsw⟩:=hsw;cases b with
 | false=>exact VB hN hi' hx (WD c hcalm hi hg hc he hs) hsw hfn
 | true=>
  intro pins s σ H D I h;rw [exec_Assign_Name_used _ _ _ _ hsw];refine A4 (wpAny_standAt (A4 ?_));show Aw _ X.A (do let _<-comprehension (.ListComp elt [⟨tg,iter,ifs,0⟩] scope pos) scope X.env _ (newList []) false (eval iter X.env) (some (Hi (.Name x pos') X.env))) _ _ s;refine A4 (Fp (wpAny_comprehension_free (use:=some (Hi (.Name x pos') X.env)) (Q:=λ _ s'=>SP X pins D .next s') rfl hs (T8 (c.cells I)) c.kind c.names ?_) (λ _ s' hq=>Bw (Bw hq)) λ _ _ e=>e);refine A5 (hi pins s σ H _ I h) λ v s1 h1=>A5 h1 λ itv s2 h2=>?_;obtain ⟨it,fp,tn,J,H',e,I2,T,st2,f2,W⟩:=h2;subst e;refine TJ (Q:=λ x H1=>DK i x σ H1 D.nx) (RR:=λ acc C=>compPost (Av X.prog X.w) X.A X.xe (some (Hi (.Name x pos') X.env)) (λ _ s'=>SP X pins D .next s') acc C) c hcalm I2 T st2 f2 (λ C fp=>hg s2 H' C fp pins) (λ C fp=>hc s2 H' C fp pins) (λ C fp=>he s2 H' C fp pins) W λ E C σ' H3 s' hC J3 q=>?_;obtain ⟨m,ns,_⟩:=J3.loc;have I3:=CompOk.out I2 f2 J3;show Aw _ X.A (Hi (.Name x pos') X.env (.ref E)) _ _ _;refine wpAny_assign_Name (Ux I3 hN hi' hx (v:=.ref E) rfl (λ s'' I4 hsb=>?_) hfn);obtain ⟨a,sb,ha⟩:=hsb;have hCa:C≠a:=by
   rcases ha with z | z
   ·rw [z];exact IF (Cf I2.lt hC)
   ·obtain ⟨v,o,ho,_⟩:=I2.cell x a z;exact IF (Cf (Bn ho) hC)
  exact ⟨m,ns.sameBut sb hCa,λ h' sb'=>⟨_,H3,CompOk.away I2 hC I4 J3.free sb',q⟩⟩
def kC {P:AD}{w:AB}{K:Frag}{tg:Expr} (z:Str) (tk:Tok) (it:Addr):Turn P w K tg (YM z) [it] it (λ i h=>h.IsStrIter it "str_ascii_iterator" z tk i) where
 mem:=by simp
 obj:=λ i h st b hb=>by
  have e:b=it:=by simpa using hb
  subst e;obtain ⟨o,e,c,d⟩:=st;exact ⟨o,e,λ v z=>by rw [d] at z;cases z⟩
 keep:=λ i h h' st k=>by
  obtain ⟨o,e,r⟩:=st;exact ⟨o,k it (by simp) o e,r⟩
 item:=by
  intro X hP hw hK hc i pins s σ H E I hf st hg;subst hP hw hK;have hi:i < z.cps.size:=hg;obtain ⟨f0,f1,f2,f3,f4,f5⟩:=hf it (by simp);refine wpAny_pyNext_ascii_item st (c:=z.cps[i]) (by simp [hi]) λ h' st' sb=>?_;have I1:Inv X pins σ H { s with heap:=h',toks:=s.toks + 1 }:=I.turned (t':=s.toks + 1) (λ b o hb e=>(sb.2 b hb).trans e) f0 f1 f3 f4 f5;obtain ⟨o,e,c,d⟩:=id st';exact ⟨_,rfl,Oi (s:={ s with heap:=h',toks:=s.toks + 1 }) e c d (by decide) ⟨.str ⟨#[z.cps[i]]⟩,H,I1,⟨_,rfl⟩,⟨rfl,z.cps[i],by simp [hi],rfl⟩,st',λ b hb=>(hf b hb).1⟩⟩
 done:=by
  intro X hP hw hK hc i pins s σ H E I hf st hg;subst hP hw hK;have hi:z.cps.size<=i:=hg;obtain ⟨f0,f1,f2,f3,f4,f5⟩:=hf it (by simp);exact wpAny_pyNext_ascii_end (I.ok.hd hc) st (by simp;omega) λ h' eb=>⟨rfl,I.turned (t':=s.toks) (λ b o hb e=>eb b o hb e) f0 f1 f3 f4 f5⟩
 self:=λ _ _ _ _ _ st h=>wpAny_pyIter_striter_ascii st h
def RT {l:Expr}{tl:TE} (hl:PE X l tl):PI X tg l (D5 X.K tl):=by
 intro pins s σ H R I h;refine A5 (hl pins s σ H _ I h) λ v s1 ⟨x,H1,I1,r1,q1⟩=>?_;obtain ⟨a,e,⟨⟨xs,hq⟩,q⟩ | ⟨⟨xs,hq⟩,q⟩⟩ | ⟨z,e,ha,q⟩:=q1
 ·subst e;cases r1;obtain ⟨its,rv,p,hz⟩:=I1.list hq;refine wpAny_pyIter_list p.isList ?_;refine ⟨s1.heap.objs.size,[s1.heap.objs.size],_,_,H1,rfl,I1.kept (t':=s1.toks) λ b o e=>CI _ e,vS a _,⟨_,DF _ rfl,rfl,rfl⟩,λ b hb=>?_,q⟩;have e:b=s1.heap.objs.size:=by simpa using hb
  subst e;exact I1.fpOk (AW _) (I1.hok.fresh (AW _))
 ·subst e;cases r1;obtain ⟨its,rv,p,hz⟩:=I1.tuple hq;refine wpAny_pyIter_tuple (show s1.heap.IsTuple a its.toArray from p) ?_;refine ⟨s1.heap.objs.size,[s1.heap.objs.size],_,_,H1,rfl,I1.kept (t':=s1.toks) λ b o e=>CI _ e,wu a _,⟨_,DF _ rfl,rfl,rfl⟩,λ b hb=>?_,q⟩;have e:b=s1.heap.objs.size:=by simpa using hb
  subst e;exact I1.fpOk (AW _) (I1.hok.fresh (AW _))
 ·subst e;obtain ⟨tk,rfl⟩:=r1;refine wpAny_pyIter_ascii ha ?_;refine ⟨s1.heap.objs.size,[s1.heap.objs.size],_,_,H1,rfl,I1.kept (t':=s1.toks) λ b o e=>CI _ e,kC z tk _,⟨_,DF _ rfl,rfl,rfl⟩,λ b hb=>?_,q⟩;have e:b=s1.heap.objs.size:=by simpa using hb
  subst e;exact I1.fpOk (AW _) (I1.hok.fresh (AW _))
end
end QQ
namespace L2
open PySem PySem.Spec PyProof.Rows
section
variable {κ:Type} [DecidableEq κ]
def Em (kvs:List (κ×V)) (k:κ):Option V:=(kvs.find? λ kv=>decide (kv.1=k)).map (·.2)
def Cv (kvs:List (κ×V)) (k:κ) (v:V):List (κ×V):=
 if (kvs.any λ kv=>decide (kv.1=k))=true then kvs.map (λ kv=>if kv.1=k then (kv.1,v) else kv) else kvs++[(k,v)]
def X5 {p:κ×V}{r:List (κ×V)}{k:κ} (e:p.1=k):Em (p::r) k=some p.2:=by simp [Em,OL,e]
def X4 {p:κ×V}{r:List (κ×V)}{k:κ} (e:¬ p.1=k):Em (p::r) k=Em r k:=by simp [Em,OL,e]
theorem X3 (k:κ):∀ kvs:List (κ×V),(kvs.any λ kv=>decide (kv.1=k))=(Em kvs k).isSome
 | []=>rfl
 | p::r=>by
  rw [OH];by_cases e:p.1=k
  ·simp only [X5 e,decide_eq_true e,Bool.true_or,Y3]
  ·rw [X4 e,decide_eq_false e,SJ];exact X3 k r
def U3 (kvs:List (κ×V)) (k:κ) (v:V):(Cv kvs k v).length<=kvs.length + 1:=by
 unfold Cv;split
 ·rw [Ax];omega
 ·rw [BL,Ba,M0];omega
theorem RelO.isSome_eq {o:Option V}{u:Option Ae} (r:RelO o u):o.isSome=u.isSome:=by
 cases o with
 | none=>cases u with
  | none=>rfl
  | some _=>exact (show False from r).elim
 | some _=>cases u with
  | none=>exact (show False from r).elim
  | some _=>rfl
theorem KV.any {kvs:List (κ×V)}{vs:List (κ×Ae)} (r:KV kvs vs) (k:κ):(kvs.any λ kv=>decide (kv.1=k))=vs.any λ kv=>decide (kv.1=k):=by
 unfold KV at r;induction r with
 | nil=>rfl
 | cons h t ih=>rw [OH,OH,ih,h.1]
theorem KV.repl {kvs:List (κ×V)}{vs:List (κ×Ae)} (r:KV kvs vs) (k:κ) {y:V}{u:Ae} (ry:RelV y u):
  KV (kvs.map λ kv=>if kv.1=k then (kv.1,y) else kv) (vs.map λ kv=>if kv.1=k then (kv.1,u) else kv):=by
 unfold KV at r ⊢;induction r with
 | nil=>exact .nil
 | @cons p q ps qs h t ih=>
  rw [Bf,Bf];refine .cons ?_ ih;obtain ⟨h1,h2⟩:=h;by_cases e:p.1=k
  ·rw [if_pos e,if_pos (h1.symm.trans e)];exact ⟨h1,ry⟩
  ·rw [if_neg e,if_neg (λ z=>e (h1.trans z))];exact ⟨h1,h2⟩
def KV.put {kvs:List (κ×V)}{vs:List (κ×Ae)} (r:KV kvs vs) (k:κ) {y:V}{u:Ae} (ry:RelV y u):KV (Cv kvs k y) (stored vs k u):=by
 unfold Cv stored;rw [r.any k];by_cases e:(vs.any λ kv=>decide (kv.1=k))=true
 ·rw [if_pos e,if_pos e];exact r.repl k ry
 ·rw [if_neg e,if_neg e];exact Paired.snoc r ⟨rfl,ry⟩
def KV.length {kvs:List (κ×V)}{vs:List (κ×Ae)} (r:KV kvs vs):kvs.length=vs.length:=Paired.length r
end
theorem UL {P:AD}{w:AB}{k:Bh}{u:Ae} (r:RelV (kV k) u):(DI P w).is k u=true:=by
 cases k with
 | inl i=>obtain ⟨t,e⟩:=(show ∃ t,u=Value.int i t from r);subst e;exact wB P w i t
 | inr x=>obtain ⟨t,e⟩:=(show ∃ t,u=Value.str x t from r);subst e;exact wC P w x t
theorem Ul {P:AD}{w:AB}:∀ {ks:List Bh}{us:List Ae},Vals (ks.map kV) us->ItemsAre (DI P w) ks us
 | [],_,r=>by rw [Dq] at r;cases r;exact .nil
 | k::ks,_,r=>by
  rw [Bf] at r;cases r with
  | cons h t=>exact .cons (UL h) (Ul t)
abbrev KT (H:Hp):List (List Bh×V)->List (List Bh×Addr×Ae)->Prop:=Paired λ p q=>p.1=q.1/\H q.2.1=some (.tup (p.1.map kV))/\RelV p.2 q.2.2
theorem KT.val {H:Hp}{kvs:List (List Bh×V)}{xs:List (List Bh×Addr×Ae)} (r:KT H kvs xs) (k:List Bh):RelO (Em kvs k) ((atKey xs k).map (·.2)):=by
 induction r with
 | nil=>exact True.intro
 | @cons p q ps qs h t ih=>
  obtain ⟨h1,_,h2⟩:=h;by_cases e:p.1=k
  ·have e':q.1=k:=h1.symm.trans e;have b:atKey (q::qs) k=some q.2:=by simp [atKey,OL,e']
   rw [X5 e,b];exact h2
  ·have e':¬ q.1=k:=λ z=>e (h1.trans z);have b:atKey (q::qs) k=atKey qs k:=by simp [atKey,OL,e']
   rw [X4 e,b];exact ih
theorem KT.repl {H:Hp}{kvs:List (List Bh×V)}{xs:List (List Bh×Addr×Ae)} (r:KT H kvs xs) (k:List Bh) {y:V}{u:Ae} (ry:RelV y u):
  KT H (kvs.map λ kv=>if kv.1=k then (kv.1,y) else kv) (xs.map (putAt k u)):=by
 induction r with
 | nil=>exact .nil
 | @cons p q ps qs h t ih=>
  rw [Bf,Bf];refine .cons ?_ ih;obtain ⟨h1,h2,h3⟩:=h;unfold putAt;by_cases e:p.1=k
  ·rw [if_pos e,if_pos (h1.symm.trans e)];exact ⟨h1,h2,ry⟩
  ·rw [if_neg e,if_neg (λ z=>e (h1.trans z))];exact ⟨h1,h2,h3⟩
def KT.put {H:Hp}{kvs:List (List Bh×V)}{xs:List (List Bh×Addr×Ae)} (r:KT H kvs xs) (k:List Bh) {b:Addr}{y:V}{u:Ae} (hb:H b=some (.tup (k.map kV))) (ry:RelV y u):
  KT H (Cv kvs k y) (storedH xs k b u):=by
 have e:(kvs.any λ kv=>decide (kv.1=k))=(atKey xs k).isSome:=by
  rw [X3,(r.val k).isSome_eq,Option.isSome_map]
 unfold Cv storedH;rw [e];by_cases q:(atKey xs k).isSome=true
 ·rw [if_pos q,if_pos q];exact r.repl k ry
 ·rw [if_neg q,if_neg q];exact Paired.snoc r ⟨rfl,hb,ry⟩
def KT.keeps {H H':Hp}{kvs:List (List Bh×V)}{xs:List (List Bh×Addr×Ae)} (r:KT H kvs xs) (ht:∀ b ys,H b=some (.tup ys)->H' b=some (.tup ys)):KT H' kvs xs:=
 Paired.mapP r λ _ _ z=>⟨z.1,ht _ _ z.2.1,z.2.2⟩
section
variable {P:AD}{w:AB}{H:Hp}{h:Heap}{a:Addr}
def UT {u:HO} (ok:HOk P w H h) (e:Rd H a u):zwv P w H h a u:=e.ok ok
def ZT {kvs:List (Bh×V)} (ok:HOk P w H h) (e:Rd H a (.dK kvs)):kvs.length<=A2/\(a == Hm)=false/\∃ vs,KV kvs vs/\h.DictOf (DI P w) a vs:=
 show zwv P w H h a (.dK kvs) from UT ok e
def Mi {kvs:List (Bh×V)} (ok:HOk P w H h) (e:H a=some (.dK kvs)):kvs.length<=A2/\(a == Hm)=false/\∃ vs,KV kvs vs/\h.DictOf (DI P w) a vs:=ZT ok (.inl e)
def V4 {ks:List Bh} (ok:HOk P w H h) (e:H a=some (.tup (ks.map kV))):(LL (DI P w)).is h ks a:=by
 obtain ⟨_,its,r,o,h1,h2,n,h3⟩:=(show zwv P w H h a (.tup (ks.map kV)) from ok a _ e)
 exact ⟨o,its.toArray,n,h1,h2,h3,by simpa using Ul r⟩
def ZV {kvs:List (List Bh×V)} (ok:HOk P w H h) (e:Rd H a (.dT kvs)):kvs.length<=A2/\(a == Hm)=false /\
  ∃ xs,KT H kvs xs/\h.DictOfH (LL (DI P w)) a xs:=by
 obtain ⟨z,y,xs,r,o,es,ep,h1,h2,h3,h4,h5⟩:=(show zwv P w H h a (.dT kvs) from UT ok e)
 refine ⟨z,y,xs,r,o,es,ep,h1,h2,h3,h4,λ x hx=>?_,h5⟩;have all:∀ {l:List (List Bh×V)}{m:List (List Bh×Addr×Ae)},KT H l m->∀ x∈m,(LL (DI P w)).is h x.1 x.2.1:=by
  intro l m q;induction q with
  | nil=>intro x hx;exact nomatch hx
  | @cons p q ps qs hq t ih=>
   intro x hx;rcases ja9.mp hx with e | hx
   ·subst e;exact V4 ok (by rw [<- hq.1];exact hq.2.1)
   ·exact ih x hx
 exact all r x hx
def ZU {kvs:List (List Bh×V)} (ok:HOk P w H h) (e:H a=some (.dT kvs)):kvs.length<=A2/\(a == Hm)=false /\
  ∃ xs,KT H kvs xs/\h.DictOfH (LL (DI P w)) a xs:=ZV ok (.inl e)
end
def DPut (H:Hp) (a:Addr) (y v:V) (H':Hp):Prop:=
 (∃ kvs k,H a=some (.dK kvs)/\y=kV k/\kvs.length < A2/\H'=As H a (.dK (Cv kvs k v))) \/
 ∃ kvs k b,H a=some (.dT kvs)/\y=.ref b/\H b=some (.tup (k.map kV))/\kvs.length < A2/\H'=As H a (.dT (Cv kvs k v))
def DPut.t {H:Hp}{a b:Addr}{kvs:List (List Bh×V)}{k:List Bh}{v:V} (e:H a=some (.dT kvs)) (eb:H b=some (.tup (k.map kV))) (hl:kvs.length < A2):
  DPut H a (.ref b) v (As H a (.dT (Cv kvs k v))):=.inr ⟨kvs,k,b,e,rfl,eb,hl,rfl⟩
section
variable {X:Cx}{pins:List (Addr×Obj)}{σ:St}{H:Hp}{s:Ak}{a:Addr}{y v:V}{u r:Ae}{o:Option V}{A:Bc}{E:Ae->Ak->Prop}
def Inv.big (I:Inv X pins σ H s):Hm < s.heap.objs.size:=by
 have h:E7 < s.heap.objs.size:=(I.mod.glob.keeps I.bk).lt;exact Nat.lt_trans (by decide) h
def Wc {h':Heap}{t':Nat}{ob:HO} (I:Inv X pins σ H s) (mu:MH (H a)) (hs:N5 a s.heap h') (he:∃ q,h'.get? a=some q) (new:zwv X.prog X.w (As H a ob) h' a ob):
  Inv X pins σ (As H a ob) { s with heap:=h',toks:=t' }:=
 I.write (x:=a) (e:=a) mu (.inl rfl) (λ b q hb z=>(hs.2 b hb).trans z) he new
def qc {P:AD}{w:AB}{H':Hp}{h':Heap}{kvs:List (Bh×V)}{vs:List (Bh×Ae)} (z:kvs.length<=A2) (hd:(a == Hm)=false) (rel:KV kvs vs) (dd:h'.DictOf (DI P w) a vs):
  zwv P w H' h' a (.dK kvs):=⟨z,hd,vs,rel,dd⟩
def kR {H':Hp}{Q:Unit->Ak->Prop} (hu:A.units + 1 < C6) (I:Inv X pins σ H s) (g:DPut H a y v H') (ry:RelV y u) (rv:RelV v r) (h:∀ s',Inv X pins σ H' s'->Q () s'):
  Aw (Av X.prog X.w) A (setItem (.ref a) u r) Q E s:=by
 rcases g with ⟨kvs,k,e,ey,l,eH⟩ | ⟨kvs,k,b,e,ey,eb,l,eH⟩
 ·subst ey eH;obtain ⟨z,hd,vs,rel,dd⟩:=Mi I.hok e;have hz:vs.length<=A2:=by rw [<- rel.length];exact z
  have hl:(Cv kvs k v).length<=A2:=by have:=U3 kvs k v;omega
  refine wpAny_setItem_pairs (hsz:=hz) (UL ry) dd λ h' dd' hs=>h _ ?_;have he:∃ q,h'.get? a=some q:=let ⟨q,_,_,hq,_⟩:=dd';⟨q,hq⟩;exact Wc I (by rw [e];exact True.intro) hs he (qc hl hd (rel.put k rv) dd')
 ·subst ey eH;cases (show u=Value.ref b from ry);obtain ⟨z,hd,xs,rel,dd⟩:=ZU I.hok e;have hz:xs.length<=A2:=by rw [<- Paired.length rel];exact z
  have hl:(Cv kvs k v).length<=A2:=by have:=U3 kvs k v;omega
  refine wpAny_setItem_heap (hsz:=hz) (tupleKind_room_in1 hu) (V4 I.hok eb) dd λ h' dd' hs=>h _ ?_;obtain ⟨q,es,ep,hq,h2,h3,h4,_,h5⟩:=dd';refine Wc I (by rw [e];exact True.intro) hs ⟨q,hq⟩ ⟨hl,hd,_,(rel.put k eb rv).keeps λ c ys ec=>?_,q,es,ep,hq,h2,h3,h4,h5⟩;rw [AM (Z9 ec e (λ z=>nomatch z))];exact ec
end
section
variable {X:Cx}{pins:List (Addr×Obj)}{σ:St}{H:Hp}{s:Ak}{a:Addr}{kvs:List (Bh×V)}{k:Bh}{u:Ae}{A:Bc}{E:Ae->Ak->Prop}
end
section
variable {X:Cx}{o i e value:Expr}{pos pos' tpos:Pos}{td ty tv:TE}
end
def kj {P:AD}{w:AB}{H:Hp} (h:Heap) (hb:Hm < h.objs.size):zwv P w H (h.push { cls:=.type "dict",data:=.dict #[] }) h.objs.size (.dT []):=
 ⟨Hz _,beq_eq_false_iff_ne.mpr (BY (Cc hb)),[],.nil,_,#[],0,DF _ rfl,⟨rfl,rfl,rfl⟩,rfl,rfl,List.nodup_nil⟩
def xh:TE:=λ _ H Q=>∀ p,H p=none->Q (.ref p) (As H p (.dT []))
section
variable {X:Cx}{pos:Pos}
def ka:PE X (.Dict [] [] pos) xh:=λ pins s σ H Q I h=>
 wpAny_Dict_empty ⟨.ref s.heap.objs.size,_,I.laid (a:=s.heap.objs.size) (o:=.dT []) (t':=s.toks) (λ _ _ q=>CI _ q) (AW _) (kj s.heap I.big),rfl,h _ (I.hok.fresh (AW _))⟩
end
end L2
namespace QQ
open PySem PySem.Spec PyProof.Rows L2
section
variable {M:Fm}{vs:List Nat}{H:Hp}{fps:AR}{F:List Addr}{Q:VK}
def EF {k:Int}{d:Nat} (h:BQ M H fps vs F (.int k) d Q):Q (.int k) H:=h (.int k) H [] (λ _ _ h=>h) (by rw [Own];exact ⟨rfl,rfl⟩) (λ _ z=>nomatch z)
def EH {k:Bool}{d:Nat} (h:BQ M H fps vs F (.bl k) d Q):Q (.bl k) H:=h (.bl k) H [] (λ _ _ h=>h) (by rw [Own];exact ⟨rfl,rfl⟩) (λ _ z=>nomatch z)
def Xm {k:Str}{d:Nat} (h:BQ M H fps vs F (.str k) d Q):Q (.str k) H:=h (.str k) H [] (λ _ _ h=>h) (by rw [Own];exact ⟨rfl,rfl⟩) (λ _ z=>nomatch z)
def MT {x:PV}{v:V} (h:BQ M H fps vs F x (dv x) Q) (o:Own M.K H (Zv M vs fps) x 0 v []):Q v H:=h v H [] (λ _ _ h=>h) (o.dv.weak λ a z=>z.elim id λ z=>nomatch z) (λ _ z=>nomatch z)
def Fg {p:Addr}{o:HO} (hp:H p=none):∀ a u,H a=some u->As H p o a=some u:=λ a u h=>by rw [AM (λ e=>by rw [e,hp] at h;cases h)];exact h
def Qb {xs:List PV}{ws:List V} (h:BQ M H fps vs F (.lst xs) 1 Q) (o:OwnL M.K H (Zv M vs fps) xs 0 ws []) {p:Addr} (hp:H p=none):Q (.ref p) (As H p (.lst ws)):=by
 refine h (.ref p) _ [p] (Fg hp) ?_ λ a ha=>.inr (by rw [jc0.mp ha];exact hp);rw [Own];refine ⟨p,ws,rfl,.inr ⟨(by decide),[],BJ,rfl,(λ z=>nomatch z),?_⟩⟩;rw [O3];exact OwnL.move (S:=λ _=>False) (λ a u ha _=>Fg hp a u ha) (λ _ z=>z.elim) (λ a hd nz z=>z.elim nz λ z=>hd (by rw [jc0.mp z];exact hp)) xs 0 ws [] (λ _ z=>nomatch z) o
def atoms:List PV->Bool
 | []=>true
 | x::xs=>Jd x && atoms xs
def Hg:PV->Bool
 | .tup xs=>atoms xs
 | x=>Jd x
def ID:List PV->Bool
 | []=>true
 | x::xs=>Hg x && ID xs
def d1 (xs:List PV):Nat:=if ID xs=true then om else 1
theorem OwnL.ats {K:Frag}{H:Hp}{Z Z':Addr->Prop}:∀ {xs:List PV}{ws:List V}{d d':Nat},QQ.atoms xs=true->OwnL K H Z xs d' ws []->OwnL K H Z' xs d ws []
 | [],ws,d,_,_,h=>by rw [OwnL] at h ⊢;exact h
 | x::xs,ws,d,_,ha,h=>by
  unfold QQ.atoms at ha;rw [A7] at ha;rw [OwnL] at h ⊢;obtain ⟨v,s,f1,f2,rfl,ef,dj,h1,h2⟩:=h;obtain ⟨rfl,rfl⟩:f1=[]/\f2=[]:=by simpa using ef.symm
  exact ⟨v,s,[],[],rfl,rfl,dj,(Own.atom ha.1 h1).2,h2.ats ha.2⟩
theorem Own.flat {K:Frag}{H:Hp}{Z Z':Addr->Prop}{x:PV}{v:V}{d d':Nat} (hx:Hg x=true) (h:Own K H Z x d' v []):Own K H Z' x d v []:=by
 cases x with
 | tup xs=>
  rw [Own] at h ⊢;obtain ⟨a,vs,e,ha,hl⟩:=h;exact ⟨a,vs,e,ha,hl.ats hx⟩
 | lst _=>cases hx
 | dct _=>cases hx
 | exn _=>exact (Own.atom rfl h).2
 | emp=>exact (Own.atom rfl h).2
 | dko=>exact (Own.atom rfl h).2
 | scr _=>exact (Own.atom rfl h).2
 | non=>exact (Own.atom rfl h).2
 | bl _=>exact (Own.atom rfl h).2
 | int _=>exact (Own.atom rfl h).2
 | str _=>exact (Own.atom rfl h).2
theorem OwnL.ats0 {K:Frag}{H:Hp}{Z:Addr->Prop}:∀ {xs:List PV}{ws:List V}{d:Nat}{f:List Addr},QQ.atoms xs=true->OwnL K H Z xs d ws f->f=[]
 | [],ws,d,f,_,h=>by rw [OwnL] at h;exact h.2
 | x::xs,ws,d,f,ha,h=>by
  unfold QQ.atoms at ha;rw [A7] at ha;rw [OwnL] at h;obtain ⟨v,s,f1,f2,rfl,rfl,dj,h1,h2⟩:=h;rw [(Own.atom (Z':=Z) (d':=d) ha.1 h1).1,h2.ats0 ha.2];rfl
def Own.flatA {K:Frag}{H:Hp}{Z Z':Addr->Prop}{x:PV}{v:V}{d d':Nat}{f:List Addr} (hx:Hg x=true) (h:Own K H Z x d v f):f=[]/\Own K H Z' x d' v []:=by
 have e:f=[]:=by
  cases x with
  | tup xs=>
   rw [Own] at h;obtain ⟨a,vs,e,ha,hl⟩:=h;exact hl.ats0 hx
  | lst _=>cases hx
  | dct _=>cases hx
  | exn _=>exact (Own.atom (Z':=Z) (d':=d) rfl h).1
  | emp=>exact (Own.atom (Z':=Z) (d':=d) rfl h).1
  | dko=>exact (Own.atom (Z':=Z) (d':=d) rfl h).1
  | scr _=>exact (Own.atom (Z':=Z) (d':=d) rfl h).1
  | non=>exact (Own.atom (Z':=Z) (d':=d) rfl h).1
  | bl _=>exact (Own.atom (Z':=Z) (d':=d) rfl h).1
  | int _=>exact (Own.atom (Z':=Z) (d':=d) rfl h).1
  | str _=>exact (Own.atom (Z':=Z) (d':=d) rfl h).1
 subst e;exact ⟨rfl,h.flat hx⟩
theorem OwnL.atoms {K:Frag}{H:Hp}{Z Z':Addr->Prop}:∀ {xs:List PV}{ws:List V}{d:Nat},ID xs=true->OwnL K H Z xs 0 ws []->OwnL K H Z' xs d ws []
 | [],ws,d,_,h=>by rw [OwnL] at h ⊢;exact h
 | x::xs,ws,d,ha,h=>by
  unfold ID at ha;rw [A7] at ha;rw [OwnL] at h ⊢;obtain ⟨v,s,f1,f2,rfl,ef,dj,h1,h2⟩:=h;obtain ⟨rfl,rfl⟩:f1=[]/\f2=[]:=by simpa using ef.symm
  exact ⟨v,s,[],[],rfl,rfl,dj,h1.flat ha.1,h2.atoms ha.2⟩
def IZ {xs:List PV}{ws:List V} (h:BQ M H fps vs F (.lst xs) (d1 xs) Q) (o:OwnL M.K H (Zv M vs fps) xs 0 ws []) {p:Addr} (hp:H p=none):Q (.ref p) (As H p (.lst ws)):=by
 unfold d1 at h;split at h
 ·rename_i ha;refine h (.ref p) _ [p] (Fg hp) ?_ λ a ha=>.inr (by rw [jc0.mp ha];exact hp);rw [Own];refine ⟨p,ws,rfl,.inr ⟨(by decide),[],BJ,rfl,(λ z=>nomatch z),?_⟩⟩;have o':OwnL M.K (As H p (.lst ws)) (Zv M vs fps) xs 0 ws []:=OwnL.move (S:=λ _=>False) (λ a u ha _=>Fg hp a u ha) (λ _ z=>z.elim) (λ _ _ n=>n) xs 0 ws [] (λ _ z=>nomatch z) o;exact o'.atoms ha
 ·exact Qb h o hp
def PQ {xs:List PV}{ws:List V} (h:BQ M H fps vs F (.tup xs) 0 Q) (o:OwnL M.K H (Zv M vs fps) xs 0 ws []) {p:Addr} (hp:H p=none):Q (.ref p) (As H p (.tup ws)):=by
 refine h (.ref p) _ [] (Fg hp) ?_ λ a ha=>nomatch ha
 rw [Own];refine ⟨p,ws,rfl,BJ,?_⟩;rw [Ww];exact OwnL.move (S:=λ _=>False) (λ a u ha _=>Fg hp a u ha) (λ _ z=>z.elim) (λ a hd nz z=>z.elim nz λ z=>nomatch z) xs 0 ws [] (λ _ z=>nomatch z) o
def wc {xs:List PV}{ws:List V} (h:BQ M H fps vs F (.lst xs) om Q) {Z:Addr->Prop} (o:OwnL M.K H Z xs om ws F) {p:Addr} (hp:H p=none):Q (.ref p) (As H p (.lst ws)):=by
 refine h (.ref p) _ (p::F) (Fg hp) ?_ λ a ha=>(ja9.mp ha).elim (λ e=>.inr (by rw [e];exact hp)) .inl;rw [Own];refine ⟨p,ws,rfl,.inr ⟨(by decide),F,BJ,rfl,λ z=>?_,?_⟩⟩
 ·obtain ⟨ys,e⟩:=OwnL.lsts xs om ws F o p z;rw [hp] at e;cases e
 ·exact OwnL.full xs ws F (OwnL.move (S:=λ _=>False) (Z':=Z) (λ a u ha _=>Fg hp a u ha) (λ _ z=>z.elim) (λ _ _ n=>n) xs om ws F (λ _ _ z=>z) o)
def vn {xs:List PV}{ws:List V} (h:BQ M H fps vs F (.tup xs) om Q) {Z:Addr->Prop} (o:OwnL M.K H Z xs om ws F) {p:Addr} (hp:H p=none):Q (.ref p) (As H p (.tup ws)):=by
 refine h (.ref p) _ F (Fg hp) ?_ λ a ha=>.inl ha;rw [Own];exact ⟨p,ws,rfl,BJ,OwnL.full xs ws F (OwnL.move (S:=λ _=>False) (Z':=Z) (λ a u ha _=>Fg hp a u ha) (λ _ z=>z.elim) (λ _ _ n=>n) xs om ws F (λ _ _ z=>z) o)⟩
end
def Own.seqL {K:Frag}{H:Hp}{Z:Addr->Prop}{xs:List PV}{d:Nat}{v:V}{fp:List Addr} (h:Own K H Z (.lst xs) d v fp):∃ a ws,v=.ref a/\BG K H a ws/\ws.length=xs.length:=by
 rw [Own] at h;obtain ⟨a,ws,e,⟨_,hr,_,ol⟩ | ⟨_,f,ha,_,_,ol⟩⟩:=h
 ·exact ⟨a,ws,e,.inl (.inl hr.1),ol.length⟩
 ·exact ⟨a,ws,e,.inl (.inl ha),ol.length⟩
def Own.seqT {K:Frag}{H:Hp}{Z:Addr->Prop}{xs:List PV}{d:Nat}{v:V}{fp:List Addr} (h:Own K H Z (.tup xs) d v fp):∃ a ws,v=.ref a/\Dr K H a ws/\ws.length=xs.length:=by
 rw [Own] at h;obtain ⟨a,ws,e,hr,ol⟩:=h;exact ⟨a,ws,e,.inl (.inl hr),ol.length⟩
def Own.coldL {K:Frag}{H:Hp}{Z:Addr->Prop}{xs:List PV}{v:V} (h:Own K H Z (.lst xs) 0 v []):∃ a ws,v=.ref a/\H a=some (.lst ws)/\OwnL K H Z xs 0 ws []:=by
 rw [Own] at h;obtain ⟨a,ws,e,⟨_,hr,_,ol⟩ | ⟨h,_⟩⟩:=h
 ·exact ⟨a,ws,e,hr.1,ol⟩
 ·exact absurd rfl h
def Own.coldT {K:Frag}{H:Hp}{Z:Addr->Prop}{xs:List PV}{v:V} (h:Own K H Z (.tup xs) 0 v []):∃ a ws,v=.ref a/\H a=some (.tup ws)/\OwnL K H Z xs 0 ws []:=by
 rw [Own] at h;exact h
theorem OwnL.app {K:Frag}{H:Hp}{Z:Addr->Prop}:∀ {xs ys:List PV}{ws us:List V},OwnL K H Z xs 0 ws []->OwnL K H Z ys 0 us []->OwnL K H Z (xs++ys) 0 (ws++us) []
 | [],ys,ws,us,h,h'=>by rw [OwnL] at h;obtain ⟨rfl,_⟩:=h;exact h'
 | x::xs,ys,ws,us,h,h'=>by
  rw [OwnL] at h;obtain ⟨v,s,f1,f2,rfl,ef,dj,h1,h2⟩:=h;obtain ⟨rfl,rfl⟩:f1=[]/\f2=[]:=by simpa using ef.symm
  show OwnL K H Z (x::(xs++ys)) 0 (v::(s++us)) [];rw [OwnL];exact ⟨v,s++us,[],[],rfl,rfl,λ _ z=>(nomatch z),h1,h2.app h'⟩
theorem OwnL.drop {K:Frag}{H:Hp}{Z:Addr->Prop}:∀ {xs:List PV}{ws:List V} (n:Nat),OwnL K H Z xs 0 ws []->OwnL K H Z (xs.drop n) 0 (ws.drop n) []
 | xs,ws,0,h=>h
 | [],ws,n + 1,h=>by rw [OwnL] at h;obtain ⟨rfl,_⟩:=h;rw [Yc,Yc,OwnL];exact ⟨rfl,rfl⟩
 | x::xs,ws,n + 1,h=>by
  rw [OwnL] at h;obtain ⟨v,s,f1,f2,rfl,ef,dj,h1,h2⟩:=h;obtain ⟨rfl,rfl⟩:f1=[]/\f2=[]:=by simpa using ef.symm
  exact h2.drop n
theorem OwnL.take {K:Frag}{H:Hp}{Z:Addr->Prop}:∀ {xs:List PV}{ws:List V} (n:Nat),OwnL K H Z xs 0 ws []->OwnL K H Z (xs.take n) 0 (ws.take n) []
 | xs,ws,0,h=>by rw [SN,SN,OwnL];exact ⟨rfl,rfl⟩
 | [],ws,n + 1,h=>by rw [OwnL] at h;obtain ⟨rfl,_⟩:=h;rw [Yb,Yb,OwnL];exact ⟨rfl,rfl⟩
 | x::xs,ws,n + 1,h=>by
  rw [OwnL] at h;obtain ⟨v,s,f1,f2,rfl,ef,dj,h1,h2⟩:=h;obtain ⟨rfl,rfl⟩:f1=[]/\f2=[]:=by simpa using ef.symm
  rw [Y7,Y7,OwnL];exact ⟨v,s.take n,[],[],rfl,rfl,λ _ z=>(nomatch z),h1,h2.take n⟩
def OwnL.nth {K:Frag}{H:Hp}{Z:Addr->Prop}{xs:List PV}{ws:List V}{j:Nat}{x:PV} (h:OwnL K H Z xs 0 ws []) (e:xs[j]?=some x):∃ w,ws[j]?=some w/\Own K H Z x 0 w []:=by
 have hj:j < ws.length:=by rw [h.length];exact (jb1.mp e).1
 obtain ⟨y,e1,e2⟩:=h.get (i:=j) (w:=ws[j]) (by simp [hj]);rw [e] at e1;cases e1;exact ⟨_,by simp [hj],e2⟩
def cold {M:Fm}{vs:List Nat}{H:Hp}{fps:AR}{x:PV}{d:Nat}{v:V}{fp:List Addr} (o:Own M.K H (Zt M vs fps fp) x d v fp) (hf:∀ a∈fp,¬ Zf M fps a):Own M.K H (Zv M vs fps) x 0 v []:=
 Own.freeze (λ _ z=>.inl z) x d v fp (λ a ha z=>hf a ha z.zf) o
def AS:PV->Nat->PV->Nat->Option (PV×Nat)
 | .int i,_,.int j,_=>some (.int (i + j),om)
 | .lst xs,_,.lst ys,_=>if xs.length + ys.length<=A2 then some (.lst (xs++ys),d1 (xs++ys)) else none
 | .tup xs,_,.tup ys,_=>if xs.length + ys.length<=A2 then some (.tup (xs++ys),0) else none
 | _,_,_,_=>none
def K5 (p:Int->Int->Bool) (g:Int->Int->Int):PV->Nat->PV->Nat->Option (PV×Nat)
 | .int i,_,.int j,_=>if p i j then some (.int (g i j),om) else none
 | _,_,_,_=>none
def FZ (i j:Int):Bool:=(decide (-(2 ^ 64) < i) && decide (i < 2 ^ 64)) || (decide (-(2 ^ 64) < j) && decide (j < 2 ^ 64))
def Ga (_ j:Int):Bool:=decide (0 < j) && decide (j < 2 ^ 128)
def Ht (_ j:Int):Bool:=decide (0 < j)
def J8 (i j:Int):Bool:=decide (0<=j) && decide (j<=1000) && decide (i.natAbs < 2 ^ 64)
def Ct:=K5 (λ _ _=>true) (λ i j=>i - j)
def FX (n:Nat) (xs:List PV):List PV:=(Bg n xs).flatten
def Dl:PV->Nat->PV->Nat->Option (PV×Nat)
 | .int i,_,.int j,_=>if FZ i j then some (.int (i * j),om) else none
 | .lst xs,_,.int k,_=>if 0<=k/\k < 2 ^ 62/\xs.length * k.toNat<=A2 then some (.lst (FX k.toNat xs),d1 (FX k.toNat xs)) else none
 | _,_,_,_=>none
def C0:=K5 Ga (λ i j=>i / j)
def AL:=K5 Ht (λ i j=>i % j)
def Og:=K5 J8 (λ i j=>i ^ j.toNat)
section
variable {X:Cx}
def jW:OpR X (EL .FloorDiv) (rI (λ _ j=>0 < j/\j < 2 ^ 128) λ i j=>.int (i / j)):=Mq λ i j _ _ _ _ _ hc q=>by
 have h1:(0:Int) < j:=hc.1;have h2:j < 2 ^ 128:=hc.2;refine floordiv_int (by omega) (by rw [Int.fdiv_eq_ediv_of_nonneg i (by omega)];exact q) (.inl (PyProof.noPylong_of_log2 ?_));have h3:j.natAbs < 2 ^ 128:=by omega
 have h4:j.natAbs≠0:=by omega
 have:=(Nat.log2_lt h4).mpr h3
 omega
end
def BW {X:Cx}{e:Expr}{t t':TE} (h:PE X e t) (i:∀ σ H Q,t' σ H Q->t σ H Q):PE X e t':=λ pins s σ H Q I q=>h pins s σ H Q I (i σ H Q q)
def L6 {X:Cx}{e:Expr}{t t':TT} (h:PT X e t) (i:∀ σ H Q,t' σ H Q->t σ H Q):PT X e t':=λ pins s σ H Q I q=>h pins s σ H Q I (i σ H Q q)
def VC {X:Cx}{e:Expr}{t t':TT} (h:PW X e t) (i:∀ σ H Q,t' σ H Q->t σ H Q):PW X e t':=λ wh pins s σ H Q I q=>h wh pins s σ H Q I (i σ H Q q)
def V5 {X:Cx}{e:List Expr}{t t':TA} (h:PA X e t) (i:∀ σ H Q,t' σ H Q->t σ H Q):PA X e t':=λ p pins s σ H Q I q=>h p pins s σ H Q I (i σ H Q q)
def CG {X:Cx}{e:Stmt}{t t':TS} (h:PS X e t) (i:∀ D σ H,t' D σ H->t D σ H):PS X e t':=λ pins s σ H D I q=>h pins s σ H D I (i D σ H q)
def W3 {X:Cx}{e:List Stmt}{t t':TS} (h:Ex X e t) (i:∀ D σ H,t' D σ H->t D σ H):Ex X e t':=λ pins s σ H D I q=>h pins s σ H D I (i D σ H q)
section
variable {X:Cx}{M:Fm}{a b:Expr}{f g:Fx}{vs vs':List Nat}{pos:Pos}{σ:St}{H:Hp}{Q:VK}
def jV:OpR X (EL .Add) (λ x y H Q=>∃ a b ys,x=.ref a/\y=.ref b/\Dr X.K H a []/\Dr X.K H b ys/\Q (.ref b) H):=by
 intro pins s σ H x y v u Q I rx ry h;obtain ⟨a,b,ys,rfl,rfl,ha,hb,q⟩:=h;cases rx;cases ry;obtain ⟨its,r1,p1,_⟩:=I.tuple ha;obtain ⟨its2,r2,p2,_⟩:=I.tuple hb;cases r1;obtain ⟨⟨cls,dd,data,sl⟩,ho,hc,n,hd⟩:=id p1;obtain ⟨⟨cls2,dd2,data2,sl2⟩,ho2,hc2,n2,hd2⟩:=id p2;simp only at hc hd hc2 hd2;subst hc hd hc2 hd2;exact concat_meets ⟨_,ho,rfl⟩ ⟨_,ho2,rfl⟩ Qv seq_tuple_add Q3 Q4 (Q8 _ _)
  (tuple_addW0 a b _ its2.toArray n n2 dd dd2 sl sl2 rfl) ⟨ho,ho2,⟨.ref b,H,I,rfl,q⟩⟩
theorem xA (hv:∀ i∈vs,M.Ms i=false) (hK:M.K=X.K) (ha:PE X a (tE M f vs)) (hb:PE X b (tE M g vs')):PE X (.BinOp a .Add b pos) (tE M (Ab AS f g) (vs++vs')):=by
 refine BW (Rv (qp4.or (qp3.or (qmh.or jV))) ha hb) λ σ H Q h=>Fh hv (λ x d y e z c v w H fps f1 f2 Q ho o1 o2 dj nz zd lf=>?_) h;cases x with
 | int i=>
  cases y with
  | int j=>
   cases ho;rw [Own] at o1 o2;exact .inl ⟨i,j,o1.1,o2.1,EF lf⟩
  | _=>cases ho
 | lst xs=>
  cases y with
  | lst ys=>
   dsimp only [AS] at ho;split at ho
   ·rename_i hl;cases ho;obtain ⟨p,ws,rfl,hp,ol⟩:=(cold o1 λ a ha=>nz a (Bq _ ha)).coldL;obtain ⟨p2,us,rfl,hp2,ol2⟩:=(cold o2 λ a ha=>nz a (Bb _ ha)).coldL;exact .inr (.inl ⟨p,p2,ws,us,rfl,rfl,hp,hp2,by rw [ol.length,ol2.length];exact hl,λ q hq=>IZ lf (ol.app ol2) hq⟩)
   ·cases ho
  | _=>cases ho
 | tup xs=>
  cases y with
  | tup ys=>
   dsimp only [AS] at ho;split at ho
   ·rename_i hl;cases ho;obtain ⟨p,ws,rfl,hp,ol⟩:=(cold o1 λ a ha=>nz a (Bq _ ha)).coldT;obtain ⟨p2,us,rfl,hp2,ol2⟩:=(cold o2 λ a ha=>nz a (Bb _ ha)).coldT;by_cases hw:ws=[]
    ·subst hw;refine .inr (.inr (.inr ⟨p,p2,us,rfl,rfl,.inl (.inl hp),.inl (.inl hp2),?_⟩));have ex:xs=[]:=by
      have:=ol.length
      cases xs with
      | nil=>rfl
      | cons _ _=>simp at this
     subst ex;exact MT (x:=.tup ys) lf (by rw [Own];exact ⟨p2,us,rfl,hp2,ol2⟩)
    ·refine .inr (.inr (.inl ⟨p,p2,ws,us,rfl,rfl,.inl (.inl hp),.inl (.inl hp2),hw,by rw [ol.length,ol2.length];exact hl,λ hu=>?_,λ hu q hq=>PQ lf (ol.app ol2) hq⟩));subst hu;have ey:ys=[]:=by
      have:=ol2.length
      cases ys with
      | nil=>rfl
      | cons _ _=>simp at this
     subst ey;rw [JF] at lf;exact MT (x:=.tup xs) lf (by rw [Own];exact ⟨p,ws,rfl,hp,ol⟩)
   ·cases ho
  | _=>cases ho
 | _=>cases ho
theorem O5 {op:Operator}{p:Int->Int->Bool}{k:Int->Int->Int}{C:Int->Int->Prop} (hop:OpR X (EL op) (rI C λ i j=>.int (k i j))) (hC:∀ i j,p i j=true->C i j) (hv:∀ i∈vs,M.Ms i=false) (ha:PE X a (tE M f vs)) (hb:PE X b (tE M g vs')):
  PE X (.BinOp a op b pos) (tE M (Ab (K5 p k) f g) (vs++vs')):=by
 refine BW (Rv hop ha hb) λ σ H Q h=>Fh hv (λ x d y e z c v w H fps f1 f2 Q ho o1 o2 dj nz zd lf=>?_) h;cases x with
 | int i=>
  cases y with
  | int j=>
   dsimp only [K5] at ho;split at ho
   ·rename_i hp;cases ho;rw [Own] at o1 o2;exact ⟨i,j,o1.1,o2.1,hC i j hp,EF lf⟩
   ·cases ho
  | _=>cases ho
 | _=>cases ho
theorem OwnL.rep {K:Frag}{H:Hp}{Z:Addr->Prop}{xs:List PV}{ws:List V} (h:OwnL K H Z xs 0 ws []):∀ n,OwnL K H Z (FX n xs) 0 (Bg n ws).flatten []
 | 0=>by
  unfold FX;rw [Y6,Y6,Yr,Yr,OwnL];exact ⟨rfl,rfl⟩
 | n + 1=>by
  have:=h.rep n
  unfold FX at this ⊢;rw [JI,JI,KP,KP];exact h.app this
def zu:OpR X (EL .Sub) (rI (λ _ _=>True) λ i j=>.int (i - j)):=Mq λ _ _ _ _ _ _ _ _ q=>sub_int q
def Ts {i j:Int} (h:FZ i j=true):CMul i j:=by
 unfold FZ at h;simp only [GQ,A7,decide_eq_true_eq] at h;exact h
theorem qZ (hv:∀ i∈vs,M.Ms i=false) (ha:PE X a (tE M f vs)) (hb:PE X b (tE M g vs')):PE X (.BinOp a .Mult b pos) (tE M (Ab Dl f g) (vs++vs')):=by
 refine BW (Rv (qpv.or qC) ha hb) λ σ H Q h=>Fh hv (λ x d y e z c v w H fps f1 f2 Q ho o1 o2 dj nz zd lf=>?_) h;cases x with
 | int i=>
  cases y with
  | int j=>
   dsimp only [Dl] at ho;split at ho
   ·rename_i hp;cases ho;rw [Own] at o1 o2;exact .inl ⟨i,j,o1.1,o2.1,Ts hp,EF lf⟩
   ·cases ho
  | _=>cases ho
 | lst xs=>
  cases y with
  | int k=>
   dsimp only [Dl] at ho;split at ho
   ·rename_i hl;cases ho;obtain ⟨p,ws,rfl,hp,ol⟩:=(cold o1 λ a ha=>nz a (Bq _ ha)).coldL;rw [Own] at o2;exact .inr ⟨p,k,ws,rfl,o2.1,hp,by omega,by omega,by rw [ol.length];exact hl.2.2,λ q hq=>IZ lf (ol.rep k.toNat) hq⟩
   ·cases ho
  | _=>cases ho
 | _=>cases ho
def Tu {i j:Int} (h:Ga i j=true):0 < j/\j < 2 ^ 128:=by
 unfold Ga at h;simp only [A7,decide_eq_true_eq] at h;exact h
def Tt {i j:Int} (h:Ht i j=true):0 < j:=by
 unfold Ht at h;simpa using h
def Tr {i j:Int} (h:J8 i j=true):ML i j:=by
 unfold J8 at h;simp only [A7,decide_eq_true_eq] at h;exact ⟨h.1.1,by omega,h.2⟩
def DC:PV->Nat->Option (PV×Nat)
 | .int i,_=>some (.int (-i),om)
 | _,_=>none
theorem xa (ha:PE X a (tE M f vs)):PE X (.UnaryOp .USub a pos) (tE M (Ao DC f) vs):=by
 refine BW (UR VU ha) λ σ H Q h=>K8 (λ x d z c v H fps f1 Q ho o1 nz zd lf=>?_) h;cases x with
 | int i=>cases ho;rw [Own] at o1;exact ⟨i,o1.1,EF lf⟩
 | _=>cases ho
def C1 (p:Int->Int->Bool):PV->Nat->PV->Nat->Option (PV×Nat)
 | .int i,_,.int j,_=>some (.bl (p i j),om)
 | _,_,_,_=>none
theorem Ni {p:Int->Int->Bool}{x y z:PV}{d e c:Nat}{v w:V}{fps:AR}{f1 f2 F:List Addr}{Z Z':Addr->Prop} (ho:C1 p x d y e=some (z,c)) (o1:Own M.K H Z x d v f1) (o2:Own M.K H Z' y e w f2) (lf:BQ M H fps vs F z c Q):Fq (λ i j=>.bl (p i j)) v w H Q:=by
 cases x with
 | int i=>
  cases y with
  | int j=>
   cases ho;rw [Own] at o1 o2;exact ⟨i,j,o1.1,o2.1,EH lf⟩
  | _=>cases ho
 | _=>cases ho
def sV:PV->Option V
 | .non=>some .non
 | .bl b=>some (.bl b)
 | .int i=>some (.int i)
 | .str x=>some (.str x)
 | _=>none
def A3 (f:PV->Option Br):List PV->Option (List Br)
 | []=>some []
 | x::xs=>match f x,A3 f xs with
  | some a,some r=>some (a::r)
  | _,_=>none
def Be:Nat->PV->Option Br
 | 0,_=>none
 | n + 1,x=>match x with
  | .non=>some .none
  | .bl b=>some (.bool b)
  | .int i=>some (.int i)
  | .str z=>if PyData.strOk z=true then some (.str z) else none
  | .lst xs=>(A3 (Be n) xs).map .list
  | .tup xs=>(A3 (Be n) xs).map .tuple
  | _=>none
def EE (f:PV->PV->Bool):List PV->List PV->Bool
 | [],[]=>true
 | x::xs,y::ys=>f x y && EE f xs ys
 | _,_=>false
def FT:Nat->PV->PV->Bool
 | 0,_,_=>false
 | n + 1,x,y=>match x,y with
  | .non,.non=>true
  | .bl a,.bl b=>a == b
  | .int a,.int b=>a == b
  | .str a,.str b=>a == b
  | .emp,.emp=>true
  | .lst xs,.lst ys=>EE (FT n) xs ys
  | .tup xs,.tup ys=>EE (FT n) xs ys
  | _,_=>false
def Am (neg:Bool) (x:PV) (_:Nat) (y:PV) (_:Nat):Option (PV×Nat):=match Be 20 x,Be 20 y with
 | some a,some b=>some (.bl (neg^^BK a b),om)
 | _,_=>match x,y with
  | .lst xs,.lst ys=>if EE (FT 20) xs ys=true then some (.bl (neg^^true),om) else if xs.length≠ys.length then some (.bl (neg^^false),om) else none
  | .str a,.str b=>some (.bl (neg^^(a == b)),om)
  | .emp,.emp=>some (.bl (neg^^true),om)
  | .tup xs,.tup ys=>if EE (FT 20) xs ys=true then some (.bl (neg^^true),om) else none
  | _,_=>none
theorem Kt {f:PV->Option Br}{n:Nat} (hf:∀ x D,f x=some D->D.canLay0=true/\D.depth<=n):∀ {xs:List PV}{Ds:List Br},A3 f xs=some Ds->Dz Ds=true/\DE Ds<=n
 | [],Ds,h=>by cases h;rw [Dz,DE];exact ⟨rfl,Hz _⟩
 | x::xs,Ds,h=>by
  unfold A3 at h;split at h
  ·rename_i a r h1 h2;cases h;have h3:=hf x a h1;have h4:=Kt hf h2;rw [Dz,DE,h3.1,h4.1];exact ⟨rfl,Nat.max_le.mpr ⟨h3.2,h4.2⟩⟩
  ·cases h
theorem FD:∀ (n:Nat) (x:PV) (D:Br),Be n x=some D->D.canLay0=true/\D.depth<=n
 | 0,_,_,h=>by cases h
 | n + 1,x,D,h=>by
  unfold Be at h;cases x with
  | non=>cases h;rw [K1,PyData.depth] <;> first | exact ⟨rfl,Hz _⟩ | (intros;contradiction)
  | bl b=>cases h;rw [K1,PyData.depth] <;> first | exact ⟨rfl,Hz _⟩ | (intros;contradiction)
  | int i=>cases h;rw [K1,PyData.depth] <;> first | exact ⟨rfl,Hz _⟩ | (intros;contradiction)
  | str z=>
   dsimp only at h;split at h
   ·rename_i hz;cases h;rw [K1,PyData.depth] <;> first | exact ⟨hz,Hz _⟩ | (intros;contradiction)
   ·cases h
  | lst xs=>
   obtain ⟨Ds,e,rfl⟩:=jc2.mp h
   have:=Kt (FD n) e
   rw [K1,PyData.depth];exact ⟨this.1,Yq this.2⟩
  | tup xs=>
   obtain ⟨Ds,e,rfl⟩:=jc2.mp h
   have:=Kt (FD n) e
   rw [K1,PyData.depth];exact ⟨this.1,Yq this.2⟩
  | emp=>cases h
  | dko=>cases h
  | scr ns=>cases h
  | dct _=>cases h
  | exn _=>cases h
theorem Gs {pins:List (Addr×Obj)}{s:Ak}{Z:Addr->Prop} (I:L2.Inv X pins σ H s):∀ (n:Nat) (x:PV) (d:Nat) (v:V) (fp:List Addr) (u:Ae) (D:Br),Be n x=some D->Own X.K H Z x d v fp->RelV v u->∃ as,Reads s.heap u D as
 | 0,_,_,_,_,_,_,h,_,_=>by cases h
 | n + 1,x,d,v,fp,u,D,h,o,r=>by
  have all:∀ (xs:List PV) (d:Nat) (ws:List V) (fp:List Addr) (us:List Ae) (Ds:List Br),A3 (Be n) xs=some Ds->OwnL X.K H Z xs d ws fp->Vals ws us->∃ as,Hl s.heap us Ds as:=λ xs=>by
   induction xs with
   | nil=>
    intro d ws fp us Ds h o r;cases h;rw [OwnL] at o;obtain ⟨rfl,_⟩:=o;cases r;exact ⟨_,.nil⟩
   | cons y ys ih=>
    intro d ws fp us Ds h o r;unfold A3 at h;split at h
    ·rename_i a rr h1 h2;cases h;rw [OwnL] at o;obtain ⟨v,s,f1,f2,rfl,_,_,o1,o2⟩:=o;cases r with
     | cons r1 r2=>
      obtain ⟨as,ra⟩:=Gs I n y d v f1 _ a h1 o1 r1;obtain ⟨bs,rb⟩:=ih d s f2 _ rr h2 o2 r2;exact ⟨_,.cons ra rb⟩
    ·cases h
  unfold Be at h;cases x with
  | non=>cases h;rw [Own] at o;obtain ⟨rfl,_⟩:=o;cases r;exact ⟨_,.none⟩
  | bl b=>cases h;rw [Own] at o;obtain ⟨rfl,_⟩:=o;cases r;exact ⟨_,.bool b⟩
  | int i=>cases h;rw [Own] at o;obtain ⟨rfl,_⟩:=o;obtain ⟨t,rfl⟩:=r;exact ⟨_,.int i t⟩
  | str z=>
   dsimp only at h;split at h
   ·cases h;rw [Own] at o;obtain ⟨rfl,_⟩:=o;obtain ⟨t,rfl⟩:=r;exact ⟨_,.str z t⟩
   ·cases h
  | lst xs=>
   obtain ⟨Ds,e,rfl⟩:=jc2.mp h;have hh:∃ a ws d' f,v=.ref a/\H a=some (.lst ws)/\OwnL X.K H Z xs d' ws f:=by
    rw [Own] at o;obtain ⟨a,ws,ev,⟨_,hr,_,ol⟩ | ⟨_,f,ha,_,_,ol⟩⟩:=o
    ·exact ⟨a,ws,_,_,ev,hr.1,ol⟩
    ·exact ⟨a,ws,_,_,ev,ha,ol⟩
   obtain ⟨a,ws,d',f,rfl,ha,ol⟩:=hh;cases r;obtain ⟨its,rv,⟨ob,nn,e1,e2,e3,e4⟩,_⟩:=I.list (.inl (.inl ha));obtain ⟨as,ra⟩:=all xs d' ws f its Ds e ol rv;exact ⟨_,.list e1 e2 e4 ra⟩
  | tup xs=>
   obtain ⟨Ds,e,rfl⟩:=jc2.mp h;rw [Own] at o;obtain ⟨a,ws,rfl,ha,ol⟩:=o;cases r;obtain ⟨its,rv,⟨ob,e1,e2,nn,e4⟩,_⟩:=I.tuple (.inl (.inl ha));obtain ⟨as,ra⟩:=all xs _ ws fp its Ds e ol rv;exact ⟨_,.tuple e1 e2 e4 ra⟩
  | emp=>cases h
  | dko=>cases h
  | scr ns=>cases h
  | dct _=>cases h
  | exn _=>cases h
def Kj {K':Type} [DecidableEq K'] {prog:AD}{w:AB}{knd:KeyKind prog w K'}{P:AD}{w0:AB}{h:Heap}{a:Addr} (x:h.DictOf (DI P w0) a []):h.DictOf knd a []:=by
 obtain ⟨o,es,ep,h1,h2,h3,h4,h5,h6⟩:=x;generalize hes:es.toList=l at h5;cases h5;have e:es=#[]:=Array.toList_eq_nil_iff.mp hes;subst e;exact ⟨o,#[],ep,h1,h2,h3,by intro z hz;simp at hz,.nil,.nil⟩
def qe {pins:List (Addr×Obj)}{s:Ak} (I:L2.Inv X pins σ H s) {a b:Addr}{A:Bc} (ha:H a=some (.dK [])) (hb:H b=some (.dK [])) (hu:A.units < C6):SeqAt.EqAt A s (.ref a) (.ref b) true:=by
 by_cases e:a=b
 ·subst e;exact LO _
 ·refine Q0 e λ prog w E Q hq=>?_;obtain ⟨_,z1,vs,k1,d1⟩:=Mi I.hok ha;obtain ⟨_,z2,ws,k2,d2⟩:=Mi I.hok hb;cases k1;cases k2;exact PySem.W.keq_eq (knd:=DI prog w) (r:=true) z1 z2 (Kj d1) (Kj d2) hu (λ _=>.nil) (by simpa using hq)
def Kr {Z:Addr->Prop}{xs:List PV}{d:Nat}{v:V}{fp:List Addr}{K:Frag} (o:Own K H Z (.lst xs) d v fp):∃ a ws d' f,v=.ref a/\H a=some (.lst ws)/\OwnL K H Z xs d' ws f:=by
 rw [Own] at o;obtain ⟨a,ws,ev,⟨_,hr,_,ol⟩ | ⟨_,f,ha,_,_,ol⟩⟩:=o
 ·exact ⟨a,ws,_,_,ev,hr.1,ol⟩
 ·exact ⟨a,ws,_,_,ev,ha,ol⟩
def MP {n:Nat}{e:Nat->Bool} (h:∀ j,j < n->e j=true):(An n).all e=true:=jc1.mpr λ j hj=>h j (jc6.mp hj)
theorem W8 {pins:List (Addr×Obj)}{s:Ak}{Z Z':Addr->Prop} (I:L2.Inv X pins σ H s):∀ (n:Nat) (x y:PV) (d e:Nat) (v w:V) (f1 f2:List Addr) (u u':Ae) (A:Bc),A.units + n < C6->FT n x y=true->Own X.K H Z x d v f1->Own X.K H Z' y e w f2->RelV v u->RelV w u'->SeqAt.EqAt A s u u' true
 | 0,_,_,_,_,_,_,_,_,_,_,_,_,h,_,_,_,_=>by cases h
 | n + 1,x,y,d,e,v,w,f1,f2,u,u',A,hu,h,o1,o2,r1,r2=>by
  have all:∀ (xs ys:List PV) (d e:Nat) (vs ws:List V) (f1 f2:List Addr) (us us':List Ae),EE (FT n) xs ys=true->OwnL X.K H Z xs d vs f1->OwnL X.K H Z' ys e ws f2->Vals vs us->Vals ws us'->us.length=us'.length/\∀ j (h1:j < us.length) (h2:j < us'.length),SeqAt.EqAt A.in1 s us[j] us'[j] true:=λ xs=>by
   induction xs with
   | nil=>
    intro ys d e vs ws f1 f2 us us' h o1 o2 r1 r2;cases ys with
    | cons _ _=>cases h
    | nil=>
     rw [OwnL] at o1 o2;obtain ⟨rfl,_⟩:=o1;obtain ⟨rfl,_⟩:=o2;cases r1;cases r2;exact ⟨rfl,λ j h1 _=>nomatch h1⟩
   | cons x xs ih=>
    intro ys d e vs ws f1 f2 us us' h o1 o2 r1 r2;cases ys with
    | nil=>cases h
    | cons y ys=>
     unfold EE at h;rw [A7] at h;rw [OwnL] at o1 o2;obtain ⟨_,_,g1,g2,rfl,_,_,p1,p2⟩:=o1;obtain ⟨_,_,k1,k2,rfl,_,_,q1,q2⟩:=o2;cases r1 with
     | cons a1 a2=>
      cases r2 with
      | cons b1 b2=>
       have t:=ih ys d e _ _ g2 k2 _ _ h.2 p2 q2 a2 b2;refine ⟨congrArg (·+ 1) t.1,λ j h1 h2=>?_⟩;cases j with
       | zero=>exact W8 I n x y d e _ _ g1 k1 _ _ A.in1 (by have e:A.in1.units=A.units + 1:=rfl;omega) h.1 p1 q1 a1 b1
       | succ j=>exact t.2 j (GR h1) (GR h2)
  cases x with
  | non=>cases y <;> first | (cases h;done) | (rw [Own] at o1 o2;obtain ⟨rfl,_⟩:=o1;obtain ⟨rfl,_⟩:=o2;cases r1;cases r2;exact LO _)
  | bl b=>cases y <;> first | (cases h;done) | (rw [Own] at o1 o2;obtain ⟨rfl,_⟩:=o1;obtain ⟨rfl,_⟩:=o2;cases r1;cases r2;have e:=eq_of_beq (show (b == _)=true from h);subst e;exact LO _)
  | int i=>cases y <;> first | (cases h;done) | (rw [Own] at o1 o2;obtain ⟨rfl,_⟩:=o1;obtain ⟨rfl,_⟩:=o2;obtain ⟨t,rfl⟩:=r1;obtain ⟨t',rfl⟩:=r2;have e:=eq_of_beq (show (i == _)=true from h);subst e;have z:=SeqAt.EqAt.int_int (A:=A) (s:=s) i t i t';rwa [beq_self_eq_true] at z)
  | str i=>cases y <;> first | (cases h;done) | (rw [Own] at o1 o2;obtain ⟨rfl,_⟩:=o1;obtain ⟨rfl,_⟩:=o2;obtain ⟨t,rfl⟩:=r1;obtain ⟨t',rfl⟩:=r2;have e:=eq_of_beq (show (i == _)=true from h);subst e;have z:=SeqAt.EqAt.str_str (A:=A) (s:=s) i t i t';rwa [beq_self_eq_true] at z)
  | emp=>cases y <;> first | (cases h;done) | (rw [Own] at o1 o2;obtain ⟨_,a,rfl,ha⟩:=o1;obtain ⟨_,b,rfl,hb⟩:=o2;cases r1;cases r2;exact qe I ha hb (by omega))
  | dko=>cases h
  | lst xs=>
   cases y with
   | lst ys=>
    obtain ⟨a,ws,d',f,rfl,ha,ol⟩:=Kr o1;obtain ⟨b,ws',e',f',rfl,hb,ol'⟩:=Kr o2;cases r1;cases r2;obtain ⟨its,rv,p,_⟩:=I.list (.inl (.inl ha));obtain ⟨its',rv',p',_⟩:=I.list (.inl (.inl hb));have t:=all xs ys d' e' ws ws' f f' its its' h ol ol' rv rv';obtain ⟨ob,nn,e1,e2,e3,e4⟩:=p;obtain ⟨ob',nn',e1',e2',e3',e4'⟩:=p';by_cases e:a=b
    ·subst e;exact LO _
    ·refine Q0 e ?_;have z:=SeqAt.RcAt.lists (A:=A) (s:=s) (l:=a) (b:=b) (items:=its.toArray) (items2:=its'.toArray) (e:=λ _=>true) ⟨ob,e1,e2,nn,e4⟩ ⟨ob',e1',e2',nn',e4'⟩ (by simpa using t.1) (by omega) (λ j h1 h2=>by simpa using t.2 j (by simpa using h1) (by simpa using h2));rwa [MP λ _ _=>rfl] at z
   | _=>cases h
  | tup xs=>
   cases y with
   | tup ys=>
    rw [Own] at o1 o2;obtain ⟨a,ws,rfl,ha,ol⟩:=o1;obtain ⟨b,ws',rfl,hb,ol'⟩:=o2;cases r1;cases r2;obtain ⟨its,rv,⟨ob,e1,e2,nn,e4⟩,_⟩:=I.tuple (.inl (.inl ha));obtain ⟨its',rv',⟨ob',e1',e2',nn',e4'⟩,_⟩:=I.tuple (.inl (.inl hb));have t:=all xs ys _ _ ws ws' _ _ its its' h ol ol' rv rv';by_cases e:a=b
    ·subst e;exact LO _
    ·refine Q0 e ?_;have z:=SeqAt.RcAt.tuples (A:=A) (s:=s) (l:=a) (b:=b) (items:=its.toArray) (items2:=its'.toArray) (e:=λ _=>true) ⟨ob,e1,e2,nn,e4⟩ ⟨ob',e1',e2',nn',e4'⟩ (by omega) (λ j h1 h2=>by simpa using t.2 j (by simpa using h1) (by simpa using h2));have z2:((its.toArray.size == its'.toArray.size):Bool)=true:=by simpa using t.1
     rwa [MP λ _ _=>rfl,z2] at z
   | _=>cases h
  | scr ns=>cases y <;> cases h
  | dct _=>cases y <;> cases h
  | exn _=>cases y <;> cases h
theorem Xw {pins:List (Addr×Obj)}{s:Ak}{Z Z':Addr->Prop} (I:L2.Inv X pins σ H s) {A:Bc} (hu:A.units + 64 < C6):∀ (xs ys:List PV) (d e:Nat) (vs ws:List V) (f1 f2:List Addr) (us us':List Ae),EE (FT 20) xs ys=true->OwnL X.K H Z xs d vs f1->OwnL X.K H Z' ys e ws f2->Vals vs us->Vals ws us'->us.length=us'.length/\∀ j (h1:j < us.length) (h2:j < us'.length),SeqAt.EqAt A.in1 s us[j] us'[j] true:=λ xs=>by
 induction xs with
 | nil=>
  intro ys d e vs ws f1 f2 us us' h o1 o2 r1 r2;cases ys with
  | cons _ _=>cases h
  | nil=>
   rw [OwnL] at o1 o2;obtain ⟨rfl,_⟩:=o1;obtain ⟨rfl,_⟩:=o2;cases r1;cases r2;exact ⟨rfl,λ j h1 _=>nomatch h1⟩
 | cons x xs ih=>
  intro ys d e vs ws f1 f2 us us' h o1 o2 r1 r2;cases ys with
  | nil=>cases h
  | cons y ys=>
   unfold EE at h;rw [A7] at h;rw [OwnL] at o1 o2;obtain ⟨_,_,g1,g2,rfl,_,_,p1,p2⟩:=o1;obtain ⟨_,_,k1,k2,rfl,_,_,q1,q2⟩:=o2;cases r1 with
   | cons a1 a2=>
    cases r2 with
    | cons b1 b2=>
     have t:=ih ys d e _ _ g2 k2 _ _ h.2 p2 q2 a2 b2;refine ⟨congrArg (·+ 1) t.1,λ j h1 h2=>?_⟩;cases j with
     | zero=>exact W8 I 20 x y d e _ _ g1 k1 _ _ A.in1 (by have e:A.in1.units=A.units + 1:=rfl;omega) h.1 p1 q1 a1 b1
     | succ j=>exact t.2 j (GR h1) (GR h2)
def Xx {pins:List (Addr×Obj)}{s:Ak}{Z Z':Addr->Prop} (I:L2.Inv X pins σ H s) {xs ys:List PV}{d e:Nat}{v w:V}{f1 f2:List Addr}{u u':Ae}{A:Bc} (hu:A.units + 64 < C6) (h:EE (FT 20) xs ys=true) (o1:Own X.K H Z (.lst xs) d v f1) (o2:Own X.K H Z' (.lst ys) e w f2) (r1:RelV v u) (r2:RelV w u'):SeqAt.RcAt A s u u' true/\N6 A s u u' false:=by
 obtain ⟨a,ws,d',f,rfl,ha,ol⟩:=Kr o1;obtain ⟨b,ws',e',f',rfl,hb,ol'⟩:=Kr o2;cases r1;cases r2;obtain ⟨its,rv,⟨ob,nn,e1,e2,e3,e4⟩,_⟩:=I.list (.inl (.inl ha));obtain ⟨its',rv',⟨ob',nn',e1',e2',e3',e4'⟩,_⟩:=I.list (.inl (.inl hb));have t:=Xw I hu xs ys d' e' ws ws' f f' its its' h ol ol' rv rv';have z:=SeqAt.RcAt.lists (A:=A) (s:=s) (l:=a) (b:=b) (items:=its.toArray) (items2:=its'.toArray) (e:=λ _=>true) ⟨ob,e1,e2,nn,e4⟩ ⟨ob',e1',e2',nn',e4'⟩ (by simpa using t.1) (by omega) (λ j h1 h2=>by simpa using t.2 j (by simpa using h1) (by simpa using h2));have z':=SeqAt.RcNeAt.lists (A:=A) (s:=s) (l:=a) (b:=b) (items:=its.toArray) (items2:=its'.toArray) (e:=λ _=>true) ⟨ob,e1,e2,nn,e4⟩ ⟨ob',e1',e2',nn',e4'⟩ (by simpa using t.1) (by omega) (λ j h1 h2=>by simpa using t.2 j (by simpa using h1) (by simpa using h2));rw [MP λ _ _=>rfl] at z z';exact ⟨z,z'⟩
def Uw {pins:List (Addr×Obj)}{s:Ak}{Z Z':Addr->Prop} (I:L2.Inv X pins σ H s) {xs ys:List PV}{d e:Nat}{v w:V}{f1 f2:List Addr}{u u':Ae}{A:Bc} (hu:A.units + 64 < C6) (h:EE (FT 20) xs ys=true) (o1:Own X.K H Z (.tup xs) d v f1) (o2:Own X.K H Z' (.tup ys) e w f2) (r1:RelV v u) (r2:RelV w u'):SeqAt.RcAt A s u u' true/\N6 A s u u' false:=by
 rw [Own] at o1;rw [Own] at o2;obtain ⟨a,ws,rfl,ha,ol⟩:=o1;obtain ⟨b,ws',rfl,hb,ol'⟩:=o2;cases r1;cases r2;obtain ⟨its,rv,⟨ob,e1,e2,nn,e4⟩,_⟩:=I.tuple (.inl (.inl ha));obtain ⟨its',rv',⟨ob',e1',e2',nn',e4'⟩,_⟩:=I.tuple (.inl (.inl hb));have t:=Xw I hu xs ys _ _ ws ws' _ _ its its' h ol ol' rv rv';have z:=SeqAt.RcAt.tuples (A:=A) (s:=s) (l:=a) (b:=b) (items:=its.toArray) (items2:=its'.toArray) (e:=λ _=>true) ⟨ob,e1,e2,nn,e4⟩ ⟨ob',e1',e2',nn',e4'⟩ (by omega) (λ j h1 h2=>by simpa using t.2 j (by simpa using h1) (by simpa using h2));have z':=SeqAt.RcNeAt.tuples (A:=A) (s:=s) (l:=a) (b:=b) (items:=its.toArray) (items2:=its'.toArray) (e:=λ _=>true) ⟨ob,e1,e2,nn,e4⟩ ⟨ob',e1',e2',nn',e4'⟩ (by omega) (λ j h1 h2=>by simpa using t.2 j (by simpa using h1) (by simpa using h2));have z2:((its.toArray.size == its'.toArray.size):Bool)=true:=by simpa using t.1
 rw [MP λ _ _=>rfl,z2] at z z';exact ⟨z,z'⟩
def Wn {pins:List (Addr×Obj)}{s:Ak}{Z Z':Addr->Prop} (I:L2.Inv X pins σ H s) {xs ys:List PV}{d e:Nat}{v w:V}{f1 f2:List Addr}{u u':Ae}{A:Bc} (hu:A.units + 64 < C6) (h:xs.length≠ys.length) (o1:Own X.K H Z (.lst xs) d v f1) (o2:Own X.K H Z' (.lst ys) e w f2) (r1:RelV v u) (r2:RelV w u'):SeqAt.RcAt A s u u' false/\N6 A s u u' true:=by
 obtain ⟨a,ws,d',f,rfl,ha,ol⟩:=Kr o1;obtain ⟨b,ws',e',f',rfl,hb,ol'⟩:=Kr o2;cases r1;cases r2;obtain ⟨its,rv,⟨ob,nn,e1,e2,e3,e4⟩,_⟩:=I.list (.inl (.inl ha));obtain ⟨its',rv',⟨ob',nn',e1',e2',e3',e4'⟩,_⟩:=I.list (.inl (.inl hb));have hl:(its.toArray.size != its'.toArray.size)=true:=by
  have h1:=rv.length;have h2:=rv'.length;rw [ol.length] at h1;rw [ol'.length] at h2;simp only [C4,bne_iff_ne];omega
 exact ⟨SeqAt.RcAt.lists_lengths ⟨ob,e1,e2,nn,e4⟩ ⟨ob',e1',e2',nn',e4'⟩ hl (by omega),SeqAt.RcNeAt.lists_lengths ⟨ob,e1,e2,nn,e4⟩ ⟨ob',e1',e2',nn',e4'⟩ hl (by omega)⟩
def We {pins:List (Addr×Obj)}{s:Ak}{Z Z':Addr->Prop} (I:L2.Inv X pins σ H s) {d e:Nat}{v w:V}{f1 f2:List Addr}{u u':Ae}{A:Bc} (hu:A.units < C6) (o1:Own X.K H Z .emp d v f1) (o2:Own X.K H Z' .emp e w f2) (r1:RelV v u) (r2:RelV w u'):SeqAt.RcAt A s u u' true/\N6 A s u u' false:=by
 rw [Own] at o1;rw [Own] at o2;obtain ⟨_,a,rfl,ha⟩:=o1;obtain ⟨_,b,rfl,hb⟩:=o2;cases r1;cases r2;obtain ⟨_,z1,vs,k1,d1⟩:=Mi I.hok ha;obtain ⟨_,z2,ws,k2,d2⟩:=Mi I.hok hb;cases k1;cases k2;exact ⟨λ prog w E Q hq=>PySem.W.keq_eq (knd:=DI prog w) (r:=true) z1 z2 (Kj d1) (Kj d2) hu (λ _=>.nil) (by simpa using hq),λ prog w E Q hq=>PySem.W.keq_ne (knd:=DI prog w) (r:=true) z1 z2 (Kj d1) (Kj d2) hu (λ _=>.nil) (by simpa using hq)⟩
def J1 (K:Frag) (neg:Bool):R2:=λ v w H Q=>∃ x y d e Z Z' f1 f2,Own K H Z x d v f1/\Own K H Z' y e w f2/\((∃ a b,Be 20 x=some a/\Be 20 y=some b/\Q (.bl (neg^^BK a b)) H)\/(∃ xs ys,x=.lst xs/\y=.lst ys/\EE (FT 20) xs ys=true/\Q (.bl (neg^^true)) H)\/(∃ xs ys,x=.lst xs/\y=.lst ys/\xs.length≠ys.length/\Q (.bl (neg^^false)) H)\/(∃ a b,x=.str a/\y=.str b/\Q (.bl (neg^^(a == b))) H)\/(x=.emp/\y=.emp/\Q (.bl (neg^^true)) H)\/∃ xs ys,x=.tup xs/\y=.tup ys/\EE (FT 20) xs ys=true/\Q (.bl (neg^^true)) H)
def qU (hu:X.A.units + 64 < C6):OpR X (Dy .Eq) (J1 X.K false):=by
 intro pins s σ H v w u u' Q I rx ry h;obtain ⟨x,y,d,e,Z,Z',f1,f2,o1,o2,⟨a,b,h1,h2,q⟩ | ⟨xs,ys,rfl,rfl,h,q⟩ | ⟨xs,ys,rfl,rfl,h,q⟩ | ⟨a,b,rfl,rfl,q⟩ | ⟨rfl,rfl,q⟩ | ⟨xs,ys,rfl,rfl,h,q⟩⟩:=h
 ·obtain ⟨as,ra⟩:=Gs I 20 x d v f1 u a h1 o1 rx;obtain ⟨bs,rb⟩:=Gs I 20 y e w f2 u' b h2 o2 ry;have l1:=FD 20 x a h1;have l2:=FD 20 y b h2;exact SeqAt.compareEq_reads ra rb l1.1 l2.1 (by have:=OK a.depth b.depth;omega) ⟨.bl _,H,I,rfl,by simpa using q⟩
 ·exact (Xx I hu h o1 o2 rx ry).1 _ _ _ _ ⟨.bl _,H,I,rfl,q⟩
 ·exact (Wn I hu h o1 o2 rx ry).1 _ _ _ _ ⟨.bl _,H,I,rfl,q⟩
 ·rw [Own] at o1 o2;obtain ⟨rfl,_⟩:=o1;obtain ⟨rfl,_⟩:=o2;obtain ⟨t,rfl⟩:=rx;obtain ⟨t',rfl⟩:=ry;exact SeqAt.RcAt.str_str a t b t' _ _ _ _ ⟨.bl _,H,I,rfl,by simpa using q⟩
 ·exact (We I (by omega) o1 o2 rx ry).1 _ _ _ _ ⟨.bl _,H,I,rfl,q⟩
 ·exact (Uw I hu h o1 o2 rx ry).1 _ _ _ _ ⟨.bl _,H,I,rfl,q⟩
def qA (hu:X.A.units + 64 < C6):OpR X (Dy .NotEq) (J1 X.K true):=by
 intro pins s σ H v w u u' Q I rx ry h;obtain ⟨x,y,d,e,Z,Z',f1,f2,o1,o2,⟨a,b,h1,h2,q⟩ | ⟨xs,ys,rfl,rfl,h,q⟩ | ⟨xs,ys,rfl,rfl,h,q⟩ | ⟨a,b,rfl,rfl,q⟩ | ⟨rfl,rfl,q⟩ | ⟨xs,ys,rfl,rfl,h,q⟩⟩:=h
 ·obtain ⟨as,ra⟩:=Gs I 20 x d v f1 u a h1 o1 rx;obtain ⟨bs,rb⟩:=Gs I 20 y e w f2 u' b h2 o2 ry;have l1:=FD 20 x a h1;have l2:=FD 20 y b h2;exact SeqAt.compareNe_reads ra rb l1.1 l2.1 (by have:=OK a.depth b.depth;omega) ⟨.bl _,H,I,rfl,by simpa using q⟩
 ·exact (Xx I hu h o1 o2 rx ry).2 _ _ _ _ ⟨.bl _,H,I,rfl,q⟩
 ·exact (Wn I hu h o1 o2 rx ry).2 _ _ _ _ ⟨.bl _,H,I,rfl,q⟩
 ·rw [Own] at o1 o2;obtain ⟨rfl,_⟩:=o1;obtain ⟨rfl,_⟩:=o2;obtain ⟨t,rfl⟩:=rx;obtain ⟨t',rfl⟩:=ry;exact SeqAt.RcNeAt.str_str a t b t' _ _ _ _ ⟨.bl _,H,I,rfl,by simpa using q⟩
 ·exact (We I (by omega) o1 o2 rx ry).2 _ _ _ _ ⟨.bl _,H,I,rfl,q⟩
 ·exact (Uw I hu h o1 o2 rx ry).2 _ _ _ _ ⟨.bl _,H,I,rfl,q⟩
def Xk {neg:Bool}{x y z:PV}{d e c:Nat}{v w:V}{fps:AR}{f1 f2 F:List Addr}{Z Z':Addr->Prop} (hK:M.K=X.K) (ho:Am neg x d y e=some (z,c)) (o1:Own M.K H Z x d v f1) (o2:Own M.K H Z' y e w f2) (lf:BQ M H fps vs F z c Q):J1 X.K neg v w H Q:=by
 rw [hK] at o1 o2;refine ⟨x,y,d,e,Z,Z',f1,f2,o1,o2,?_⟩;unfold Am at ho;split at ho
 ·rename_i a b ea eb;cases ho;exact .inl ⟨a,b,ea,eb,EH lf⟩
 ·split at ho
  ·rename_i xs ys _;split at ho
   ·rename_i hc;cases ho;exact .inr (.inl ⟨xs,ys,rfl,rfl,hc,EH lf⟩)
   ·split at ho
    ·rename_i hc;cases ho;exact .inr (.inr (.inl ⟨xs,ys,rfl,rfl,hc,EH lf⟩))
    ·cases ho
  ·rename_i a b _;cases ho;exact .inr (.inr (.inr (.inl ⟨a,b,rfl,rfl,EH lf⟩)))
  ·cases ho;exact .inr (.inr (.inr (.inr (.inl ⟨rfl,rfl,EH lf⟩))))
  ·rename_i xs ys _;split at ho
   ·rename_i hc;cases ho;exact .inr (.inr (.inr (.inr (.inr ⟨xs,ys,rfl,rfl,hc,EH lf⟩))))
   ·cases ho
  ·cases ho
def Ah:PV->Nat->PV->Nat->Option (PV×Nat)
 | .lst xs,_,.int i,_=>(Ci xs i).map λ z=>(z,dv z)
 | .tup xs,_,.int i,_=>(Ci xs i).map λ z=>(z,dv z)
 | .scr ns,_,.int i,_=>(Ci ns i).map λ z=>(.int z,om)
 | .str z,_,.int i,_=>if z.length<=A2 then (Ci z.cps.toList i).map λ c=>(.str ⟨#[c]⟩,om) else none
 | _,_,_,_=>none
theorem Wi {K:Frag}{Z:Addr->Prop}{xs:List PV}{ws:List V}{i:Int}{z:PV} (ol:OwnL K H Z xs 0 ws []) (e:Ci xs i=some z):∃ w,Ci ws i=some w/\Own K H Z z 0 w []:=by
 unfold Ci at e ⊢;rw [ol.length];cases ej:CL xs.length i with
 | none=>rw [ej] at e;cases e
 | some j=>rw [ej] at e;exact ol.nth e
theorem VM (hv:∀ i∈vs,M.Ms i=false) (hK:M.K=X.K) (hs:RX b) (ha:PE X a (tE M f vs)) (hb:PE X b (tE M g vs')):PE X (.Subscript a b pos) (tE M (Ab Ah f g) (vs++vs')):=by
 refine BW (K6 Lz ha hb hs) λ σ H Q h=>Fh hv (λ x d y e z c v w H fps f1 f2 Q ho o1 o2 dj nz zd lf=>?_) h;cases y with
 | int i=>
  rw [Own] at o2;cases x with
  | lst xs=>
   dsimp only [Ah] at ho;obtain ⟨z',ez,e2⟩:=jc2.mp ho;cases e2;obtain ⟨p,ws,rfl,hp,ol⟩:=(cold o1 λ a ha=>nz a (Bq _ ha)).coldL;obtain ⟨w',e1,ow⟩:=Wi ol ez;exact .inl ⟨p,ws,i,w',rfl,o2.1,.inl (.inl hp),e1,MT lf ow⟩
  | tup xs=>
   dsimp only [Ah] at ho;obtain ⟨z',ez,e2⟩:=jc2.mp ho;cases e2;obtain ⟨p,ws,rfl,hp,ol⟩:=(cold o1 λ a ha=>nz a (Bq _ ha)).coldT;obtain ⟨w',e1,ow⟩:=Wi ol ez;exact .inr (.inl ⟨p,ws,i,w',rfl,o2.1,.inl (.inl hp),e1,MT lf ow⟩)
  | scr ns=>
   dsimp only [Ah] at ho;obtain ⟨z',ez,e2⟩:=jc2.mp ho;cases e2;rw [Own] at o1;obtain ⟨_,p,rfl,hp⟩:=o1;refine .inl ⟨p,ns.map V.int,i,.int z',rfl,o2.1,?_,?_,EF lf⟩
   ·rw [<- hK];exact hp.elim (λ h=>.inl (.inr h)) .inr
   ·unfold Ci at ez ⊢;rw [Ax];cases ej:CL ns.length i with
    | none=>rw [ej] at ez;cases ez
    | some j=>
     rw [ej] at ez;show (ns.map V.int)[j]?=_;rw [C8]
     have:ns[j]?=some z':=ez
     rw [this];rfl
  | str z=>
   dsimp only [Ah] at ho;split at ho
   ·rename_i hl;obtain ⟨c',ez,e2⟩:=jc2.mp ho;cases e2;rw [Own] at o1;exact .inr (.inr ⟨z,i,c',o1.1,o2.1,hl,ez,Xm lf⟩)
   ·cases ho
  | _=>cases ho
 | _=>cases x <;> cases ho
def HH:Option Fx->Ag->Rz (Option Int×Ag)
 | none,ρ=>.ok (none,ρ)
 | some f,ρ=>(f ρ).bind λ (x,_,ρ1)=>match x with
  | .int i=>.ok (some i,ρ1)
  | _=>.no
def By (xs:List PV) (lo hi:Option Int):List PV:=(xs.drop (HT.sIx xs.length 0 lo)).take (HT.sIx xs.length xs.length hi - HT.sIx xs.length 0 lo)
def J9 (x:PV) (lo hi:Option Int):Option (PV×Nat):=match x with
 | .lst xs=>some (.lst (By xs lo hi),d1 (By xs lo hi))
 | .tup xs=>if HT.sIx xs.length 0 lo=0/\HT.sIx xs.length xs.length hi=xs.length then none else some (.tup (By xs lo hi),0)
 | _=>none
def CO (f:Fx) (lo hi:Option Fx):Fx:=λ ρ=>(f ρ).bind λ (x,_,ρ1)=>(HH lo ρ1).bind λ (l,ρ2)=>(HH hi ρ2).bind λ (u,ρ3)=>match J9 x l u with
 | some (z,c)=>.ok (z,c,ρ3)
 | none=>.no
def tO (M:Fm):Option (Fx×List Nat)->TO
 | none=>Sh
 | some (f,vs)=>Vd (tE M f vs)
theorem WB {o:Option (Fx×List Nat)}{ρ:Ag}{fps:AR}{R:Option Int->Hp->Prop} (rep:Rep M ρ σ H fps)
  (q:match HH (o.map (·.1)) ρ with
   | .ok (l,ρ')=>∀ H' fps',KD M H fps H' fps'->Agr M ρ ρ'->Rep M ρ' σ H' fps'->R l H'
   | .exc c=>∀ H' fps',KD M H fps H' fps'->M.W σ c H'
   | .no=>False):tO M o σ H R:=by
 cases o with
 | none=>exact q H fps KD.refl Agr.refl rep
 | some p=>
  obtain ⟨f,vs⟩:=p;refine ⟨ρ,fps,rep,?_⟩;dsimp only [Option.map,HH] at q;cases ef:f ρ with
  | no=>rw [ef] at q;exact q
  | exc c=>rw [ef] at q;exact q
  | ok p=>
   obtain ⟨x,d,ρ1⟩:=p;rw [ef] at q;intro v H1 fps1 f1 k1 g1 rep1 o1 t1;dsimp only [Rz.bind] at q;cases x with
   | int i=>rw [Own] at o1;exact ⟨i,o1.1,q H1 fps1 k1 g1 rep1⟩
   | _=>exact q.elim
theorem Ry {lo hi:Option (Fx×List Nat)} (hv:∀ i∈vs,M.Ms i=false) (hK:M.K=X.K) {σ:St}{H:Hp}{Q:VK} (hq:tE M (CO f (lo.map (·.1)) (hi.map (·.1))) vs σ H Q):UA (λ x lo hi H Q=>LZ X.K x lo hi H Q\/LY X.K x lo hi H Q) (tE M f vs) (tO M lo) (tO M hi) σ H Q:=by
 obtain ⟨ρ,fps,rep,q⟩:=hq;refine ⟨ρ,fps,rep,?_⟩;unfold CO at q;cases ef:f ρ with
 | no=>rw [ef] at q;exact q
 | exc c=>rw [ef] at q;exact q
 | ok p=>
  obtain ⟨x,d,ρ1⟩:=p;rw [ef] at q;intro v H1 fps1 f1 k1 g1 rep1 o1 t1;dsimp only [Rz.bind] at q;refine WB rep1 ?_;cases el:HH (lo.map (·.1)) ρ1 with
  | no=>rw [el] at q;exact q
  | exc c=>rw [el] at q;exact λ H' fps' k=>q H' fps' (k1.trans k)
  | ok p2=>
   obtain ⟨l,ρ2⟩:=p2;rw [el] at q;intro H2 fps2 k2 g2 rep2;refine WB rep2 ?_;dsimp only at q;cases eh:HH (hi.map (·.1)) ρ2 with
   | no=>rw [eh] at q;exact q
   | exc c=>rw [eh] at q;exact λ H' fps' k=>q H' fps' ((k1.trans k2).trans k)
   | ok p3=>
    obtain ⟨u,ρ3⟩:=p3;rw [eh] at q;intro H3 fps3 k3 g3 rep3;dsimp only at q;have kk:=k2.trans k3;have o3:=kk.stay rep1 hv o1 t1.ndj;have n3:∀ a∈f1,¬ Zf M fps3 a:=λ a ha z=>by
     rcases z with z | ⟨i,z⟩
     ·exact t1.ndj a ha (.inl z)
     ·rcases kk.sub i a z with z | z
      ·exact t1.ndj a ha (.inr ⟨i,z⟩)
      ·obtain ⟨xs,e⟩:=Own.lsts x d v f1 o1 a ha;rw [z] at e;cases e
    have back:∀ a,H3 a=none->H a=none:=λ a e=>by
     cases e':H a with
     | none=>rfl
     | some o=>exact absurd e ((k1.trans kk).dom a (by rw [e'];simp))
    cases eo:J9 x l u with
    | none=>rw [eo] at q;exact q.elim
    | some zc=>
     obtain ⟨z,c⟩:=zc;rw [eo] at q;have lf:BQ M H3 fps3 vs f1 z c Q:=λ w H4 fp k4 o4 hfp=>q w H4 fps3 fp ((k1.trans kk).trans (KD.grow k4)) (g1.trans (g2.trans g3)) (rep3.grow k4) o4 ⟨λ a ha=>(hfp a ha).elim (t1.new a) (back a),λ a ha=>(hfp a ha).elim (n3 a) λ z=>rep3.nz z⟩;have c0:=cold o3 n3;unfold J9 at eo;cases x with
     | lst xs=>
      cases eo;obtain ⟨p,ws,rfl,hp,ol⟩:=c0.coldL;refine .inl ⟨p,ws,rfl,.inl (.inl hp),λ q hq=>?_⟩;have e:OwnL M.K H3 (Zv M vs fps3) (By xs l u) 0 (Dj ws l u) []:=by
       unfold By Dj;rw [ol.length];exact (ol.drop _).take _
      exact IZ lf e hq
     | tup xs=>
      dsimp only at eo;split at eo
      ·cases eo
      ·rename_i hw;cases eo;obtain ⟨p,ws,rfl,hp,ol⟩:=c0.coldT;refine .inr ⟨p,ws,rfl,.inl (.inl hp),by rw [ol.length];exact hw,λ q hq=>?_⟩;have e:OwnL M.K H3 (Zv M vs fps3) (By xs l u) 0 (Dj ws l u) []:=by
        unfold By Dj;rw [ol.length];exact (ol.drop _).take _
       exact PQ lf e hq
     | _=>cases eo
def L8:PV->String
 | .non => "NoneType"
 | .bl _ => "bool"
 | .int _ => "int"
 | .str _ => "str"
 | .lst _ => "list"
 | .tup _ => "tuple"
 | .emp => "dict"
 | .dko => "dict"
 | .dct _ => "dict"
 | _ => ""
def JM (t T:String):Bool:=t == T || (t == "bool" && T == "int")
def HD:List String:=["int","bool","str","list","tuple","dict"]
def AK (T:String) (x:PV) (_:Nat):Option (PV×Nat):=match x with
 | .scr _=>none
 | .exn _=>none
 | _=>some (.bl (JM (L8 x) T),om)
theorem Own.ty {K:Frag}{Z:Addr->Prop}{x:PV}{d:Nat}{v:V}{fp:List Addr} (h:Own K H Z x d v fp) (hs:∀ ns,x≠.scr ns) (hx:∀ c,x≠.exn c):TyOf K H v (.type (L8 x)):=by
 cases x with
 | non=>rw [Own] at h;rw [h.1];exact .non
 | bl b=>rw [Own] at h;rw [h.1];exact .bl b
 | int i=>rw [Own] at h;rw [h.1];exact .int i
 | str s=>rw [Own] at h;rw [h.1];exact .str s
 | emp=>rw [Own] at h;obtain ⟨_,a,e,ha⟩:=h;rw [e];exact .dK ha
 | dko=>rw [Own] at h;obtain ⟨_,a,e,_,ha⟩:=h;rw [e];exact .dK ha
 | scr ns=>exact absurd rfl (hs ns)
 | exn c=>exact absurd rfl (hx c)
 | dct kvs=>
  rw [Own] at h;obtain ⟨a,e,⟨_,hr,_⟩ | ⟨_,ha,_⟩⟩:=h
  ·rw [e];exact .dT hr.1
  ·rw [e];exact .dT ha
 | lst xs=>
  rw [Own] at h;obtain ⟨a,ws,e,⟨_,hr,_,_⟩ | ⟨_,f,ha,_⟩⟩:=h
  ·rw [e];exact .lst hr.1
  ·rw [e];exact .lst ha
 | tup xs=>
  rw [Own] at h;obtain ⟨a,ws,e,hr,_⟩:=h;rw [e];exact .tup hr
end
section
variable {X:Cx}{M:Fm}{a b:Expr}{f g:Fx}{fa:Fa}{vs vs':List Nat}{pos p:Pos}{σ:St}{H:Hp}{Q:VK}{e:Expr}{es:List Expr}
def x9:PA X [] (tL M Ac []):=V5 GG λ σ H Q h=>xj h
def zG (hv:∀ i∈vs,M.Ms i=false) (ha:PE X e (tE M f vs)) (hr:PA X es (tL M fa vs')) (hs:AN (e::es) X.env=(false,eval e X.env)::AN es X.env):PA X (e::es) (tL M (Ad f fa) (vs++vs')):=
 V5 (Eh ha hr hs) λ σ H Q h=>zS hv h
def Ks {op:List (PV×Nat)->Option (PV×Nat)}{r:List V->Hp->VK->Prop}
  (leaf:∀ xs z c ws H fps fp Q,op xs=some (z,c)->Tmps M.K H (Zv M vs fps) xs ws fp->(∀ a∈fp,¬ Zf M fps a)->(∀ a,Zf M fps a->H a≠none)->BQ M H fps vs fp z c Q->r ws H Q)
  {σ:St}{H:Hp}{Q:VK} (hq:tE M (Al op fa) vs σ H Q):NL r (tL M fa vs) σ H Q:=Sg leaf hq
def Bs (xs:List (PV×Nat)):Option (PV×Nat):=if xs.length<=A2 then some (.lst (xs.map (·.1)),if Ey xs then om else 1) else none
def O0 (xs:List (PV×Nat)):Bool:=xs.all λ p=>p.2 == om || Hg p.1
theorem Own.flatOm {K:Frag}{H:Hp}{Z:Addr->Prop}{x:PV}{d:Nat}{v:V}{f:List Addr} (hx:Hg x=true) (o:Own K H Z x d v f):Own K H Z x om v f:=by
 cases x with
 | tup xs=>
  rw [Own] at o ⊢;obtain ⟨a,vs,e,hr,hl⟩:=o
  have:=OwnL.ats0 hx hl
  subst this;exact ⟨a,vs,e,hr,OwnL.ats hx hl⟩
 | lst _=>cases hx
 | dct _=>cases hx
 | _=>rw [Own] at o ⊢;exact o
theorem Tmps.allG {K:Frag}{H:Hp}{Z:Addr->Prop}:∀ {xs:List (PV×Nat)}{ws:List V}{fp:List Addr},Tmps K H Z xs ws fp->O0 xs=true->OwnL K H Z (xs.map (·.1)) om ws fp
 | [],_,_,h,_=>by rw [Dq,OwnL];exact h
 | (x,d)::xs,ws,fp,h,ha=>by
  obtain ⟨v,s,f1,f2,e1,e2,dj,h1,h2⟩:=h;unfold O0 at ha;rw [HB,A7,GQ] at ha;rw [Bf,OwnL];refine ⟨v,s,f1,f2,e1,e2,dj,?_,h2.allG ha.2⟩;rcases ha.1 with e | e
  ·have e:d=om:=eq_of_beq e;subst e;exact Own.full x v f1 h1
  ·exact Own.full x v f1 (Own.flatOm e h1)
def Cd (xs:List (PV×Nat)):Option (PV×Nat):=if xs.length<=A2 then some (.tup (xs.map (·.1)),if O0 xs then om else 0) else none
def qY (h:PA X es (tL M fa vs)):PE X (.List es pos) (tE M (Al Bs fa) vs):=by
 refine BW (V8 h) λ σ H Q h=>Sg (r:=λ xs H1 Q=>xs.length<=A2/\∀ p,H1 p=none->Q (.ref p) (As H1 p (.lst xs))) (λ xs z c ws H fps fp Q ho tm nz zd lf=>?_) h;unfold Bs at ho;split at ho
 ·rename_i hl;refine ⟨by rw [tm.length];exact hl,λ q hq=>?_⟩;cases eo:Ey xs with
  | true=>rw [eo] at ho;cases ho;exact wc lf (tm.all (MN eo)) hq
  | false=>rw [eo] at ho;cases ho;exact Qb lf (tm.cold λ a ha z=>nz a ha z.zf) hq
 ·cases ho
def xf {x1:_} (h:PA X es (tL M fa vs)):PE X (.Tuple es x1 pos) (tE M (Al Cd fa) vs):=by
 refine BW (VA h) λ σ H Q h=>Sg (r:=λ xs H1 Q=>xs.length<=A2/\∀ p,H1 p=none->Q (.ref p) (As H1 p (.tup xs))) (λ xs z c ws H fps fp Q ho tm nz zd lf=>?_) h;unfold Cd at ho;split at ho
 ·rename_i hl;refine ⟨by rw [tm.length];exact hl,λ q hq=>?_⟩;cases eo:O0 xs with
  | true=>rw [eo] at ho;cases ho;exact vn lf (tm.allG eo) hq
  | false=>rw [eo] at ho;cases ho;exact PQ lf (tm.cold λ a ha z=>nz a ha z.zf) hq
 ·cases ho
def j9:CallR X (.builtin "isinstance") (λ xs H Q=>∃ x t T k,xs=[x,.ty T]/\TyOf X.K H x t/\EM X.K t (.type T)=some k/\Q (.bl k) H):=by
 intro pins s σ H xs us Q I r h;obtain ⟨x,t,T,k,rfl,ty,hk,q⟩:=h;obtain ⟨u,w,rfl,r1,r2⟩:=Mo r;cases r2;exact vD I r1 ty hk λ tk=>⟨.bl k,H,I.tok _,rfl,q⟩
theorem qm (K:Frag) {T:String} (hT:T∈HD) (x:PV) (hs:∀ ns,x≠.scr ns) (hx:∀ c,x≠.exn c):EM K (.type (L8 x)) (.type T)=some (JM (L8 x) T):=by
 simp only [HD,ja9,JG,or_false] at hT;cases x with
 | scr ns=>exact absurd rfl (hs ns)
 | exn c=>exact absurd rfl (hx c)
 | _=>rcases hT with h | h | h | h | h | h <;> subst h <;> rfl
def qW {T:String}{x T':Str}{p1 p2:Pos} (hT:T∈HD) (hK:M.K=X.K) (ha:PE X e (tE M f vs)) (hg:Gl X "isinstance") (hm:X.mg "isinstance" = none) (hT':PE X (.Name T' p2) (tC (.ty T)))
  (hs1:AN [e,.Name T' p2] X.env=[(false,eval e X.env),(false,eval (.Name T' p2) X.env)]) (hs2:AN [Expr.Name T' p2] X.env=[(false,eval (.Name T' p2) X.env)]):
  PE X (.Call (.Name "isinstance" p1) [e,.Name T' p2] [] pos) (tE M (Ao (AK T) f) vs):=by
 refine BW (GZ j9 hg hm rfl (Eh ha (Eh hT' GG hs2) (by rw [hs1,hs2])) (he:=by rw [hs1,hs2]) (hpl:=by rw [hs2];rfl)) λ σ H Q h=>?_;refine K8 (r:=λ v H Q=>∃ x t T' k,[v,.ty T]=[x,.ty T']/\TyOf X.K H x t/\EM X.K t (.type T')=some k/\Q (.bl k) H) (λ x d z c v H fps f1 Q ho o1 nz zd lf=>?_) h;have hs:∀ ns,x≠.scr ns:=λ ns e=>by subst e;cases ho
 have hx:∀ c,x≠.exn c:=λ c e=>by subst e;cases ho
 have e2:z=.bl (JM (L8 x) T):=by
  cases x with
  | scr ns=>cases ho
  | exn c=>cases ho
  | _=>cases ho;rfl
 subst e2;exact ⟨v,_,T,_,rfl,by rw [<- hK];exact o1.ty hs hx,qm X.K hT x hs hx,EH lf⟩
def Bj:List (PV×Nat)->Option (PV×Nat)
 | [(.lst xs,_)]=>some (.int xs.length,om)
 | [(.tup xs,_)]=>some (.int xs.length,om)
 | [(.scr ns,_)]=>some (.int ns.length,om)
 | [(.str z,_)]=>if z.length<=A2 then some (.int z.length,om) else none
 | _=>none
def qX (hK:M.K=X.K) (hg:Gl X "len") (hm:X.mg "len" = none) (ha:PA X (e::es) (tL M fa vs)) (he:AN (e::es) X.env=(false,eval e X.env)::AN es X.env) (hpl:(DD pos (AN es X.env)).any (·.1)=false):
  PE X (.Call (.Name "len" p) (e::es) [] pos) (tE M (Al Bj fa) vs):=by
 refine BW (GZ (qac.or wz) hg hm PySem.boot_len ha (he:=he) (hpl:=hpl)) λ σ H Q h=>Ks (λ xs z c ws H fps fp Q ho tm nz zd lf=>?_) h;unfold Bj at ho;split at ho
 ·rename_i xs d;cases ho;obtain ⟨v,r,f1,f2,rfl,_,_,o1,h2⟩:=tm;obtain ⟨rfl,_⟩:=h2;obtain ⟨q,us,rfl,hs,hl⟩:=o1.seqL;exact .inl ⟨q,us,rfl,.inl (by rw [<- hK];exact hs),by rw [hl];exact EF lf⟩
 ·rename_i xs d;cases ho;obtain ⟨v,r,f1,f2,rfl,_,_,o1,h2⟩:=tm;obtain ⟨rfl,_⟩:=h2;obtain ⟨q,us,rfl,hs,hl⟩:=o1.seqT;exact .inl ⟨q,us,rfl,.inr (by rw [<- hK];exact hs),by rw [hl];exact EF lf⟩
 ·rename_i ns d;cases ho;obtain ⟨v,r,f1,f2,rfl,_,_,o1,h2⟩:=tm;obtain ⟨rfl,_⟩:=h2;rw [Own] at o1;obtain ⟨_,q,rfl,hp⟩:=o1;refine .inl ⟨q,ns.map V.int,rfl,.inl ?_,by rw [Ax];exact EF lf⟩;rw [<- hK];exact hp.elim (λ h=>.inl (.inr h)) .inr
 ·rename_i z d;split at ho
  ·rename_i hl;cases ho;obtain ⟨v,r,f1,f2,rfl,_,_,o1,h2⟩:=tm;obtain ⟨rfl,_⟩:=h2;rw [Own] at o1;obtain ⟨rfl,_⟩:=o1;exact .inr ⟨_,rfl,hl,EF lf⟩
  ·cases ho
 ·cases ho
def OA (k:Int->Int->Int):List (PV×Nat)->Option (PV×Nat)
 | [(.int i,_),(.int j,_)]=>some (.int (k i j),om)
 | _=>none
def Xl {k:Int->Int->Int}{xs:List (PV×Nat)}{z:PV}{c:Nat}{ws:List V}{fps:AR}{fp F:List Addr}{Z:Addr->Prop} (ho:OA k xs=some (z,c)) (tm:Tmps M.K H Z xs ws fp) (lf:BQ M H fps vs F z c Q):∃ i j,ws=[.int i,.int j]/\Q (.int (k i j)) H:=by
 unfold OA at ho;split at ho
 ·rename_i i d j e;cases ho;obtain ⟨v,r,f1,f2,rfl,_,_,o1,h2⟩:=tm;obtain ⟨v2,r2,f3,f4,rfl,_,_,o2,h3⟩:=h2;obtain ⟨rfl,_⟩:=h3;rw [Own] at o1 o2;obtain ⟨rfl,_⟩:=o1;obtain ⟨rfl,_⟩:=o2;exact ⟨_,_,rfl,EF lf⟩
 ·cases ho
def EB:List (PV×Nat)->Option (PV×Nat)
 | [(.lst xs,_)]=>some (.lst xs,d1 xs)
 | [(.tup xs,_)]=>some (.lst xs,d1 xs)
 | _=>none
def zI (hK:M.K=X.K) (hg:Gl X "list") (hm:X.mg "list" = none) (ha:PA X (e::es) (tL M fa vs)) (he:AN (e::es) X.env=(false,eval e X.env)::AN es X.env) (hpl:(DD pos (AN es X.env)).any (·.1)=false):
  PE X (.Call (.Name "list" p) (e::es) [] pos) (tE M (Al EB fa) vs):=by
 refine BW (vP w6 hg hm rfl ha (he:=he) (hpl:=hpl)) λ σ H Q h=>Ks (λ xs z c ws H fps fp Q ho tm nz zd lf=>?_) h;unfold EB at ho;split at ho
 ·rename_i xs d;cases ho;obtain ⟨v,r,f1,f2,rfl,rfl,_,o1,h2⟩:=tm;obtain ⟨rfl,rfl⟩:=h2;obtain ⟨q,us,rfl,hs,ol⟩:=(cold (fp:=f1) o1 λ a ha=>nz a (Bq _ ha)).coldL;exact ⟨q,us,rfl,.inl (.inl (.inl hs)),λ l hl=>IZ lf ol hl⟩
 ·rename_i xs d;cases ho;obtain ⟨v,r,f1,f2,rfl,rfl,_,o1,h2⟩:=tm;obtain ⟨rfl,rfl⟩:=h2;obtain ⟨q,us,rfl,hs,ol⟩:=(cold (fp:=f1) o1 λ a ha=>nz a (Bq _ ha)).coldT;exact ⟨q,us,rfl,.inr (.inl (.inl hs)),λ l hl=>IZ lf ol hl⟩
 ·cases ho
end
section
variable {X:Cx}{M:Fm}{a b:Expr}{f g:Fx}{fa:Fa}{vs vs':List Nat}{pos p:Pos}{σ:St}{H:Hp}{Q:VK}{e:Expr}{es:List Expr}
def j8 (hc:X.calm=true):CallR X (.builtin "all") (λ xs H Q=>∃ (p:Addr) (bs:List Bool),xs=[.ref p]/\BG X.K H p (bs.map V.bl)/\Q (.bl (bs.all id)) H):=by
 intro pins s σ H xs us Q I r h;obtain ⟨p,bs,rfl,hq,q⟩:=h;obtain ⟨u,rfl,rx⟩:=Hf r;cases rx;obtain ⟨its,rv,pl,hz⟩:=I.list hq;have hl:=rv.length;rw [Ax] at hl;refine call_all_walk (wpAny_pyIter_list pl.isList ?_);have hlt:p < s.heap.objs.size:=by obtain ⟨o,n,e,_⟩:=pl;exact Bn e
 have hne:p≠s.heap.objs.size:=Cc hlt;refine ⟨s.heap.objs.size,_,_,its.toArray.size,_,_,λ i=>bs.getD i true,rfl,Walks.list (A:=X.A.in1) (show X.A.in1.handled=none from I.ok.hd hc) s.heap.objs.size p hne its.toArray,⟨⟨_,DF _ rfl,rfl,rfl⟩,?_⟩,?_,λ h' tk k=>?_⟩
 ·exact pl.isList.at λ o e=>CI _ e
 ·intro i v s' Q' E' hv hq';have hv':its[i]?=some v:=by simpa using hv
  have hi:i < bs.length:=by rw [hl];exact (jb1.mp hv').1
  obtain ⟨w,e1,e2⟩:=rv.get (i:=i) (x:=.bl bs[i]) (by simp [hi]);rw [hv'] at e1;cases e1;cases e2;refine Ho ?_
  have:bs.getD i true=bs[i]:=by simp [Mu,hi]
  dsimp only at hq';rw [this] at hq';exact hq'
 ·have I1:L2.Inv X pins σ H { s with heap:=s.heap.push { cls:=.type "list_iterator",data:=.fields #[.ref p,rawInt 0] } }:=I.kept (t':=s.toks) λ b o e=>CI _ e;obtain ⟨f0,f1,f2,f3,f4,f5⟩:=I.fpOk (H':=H) (AW s.heap.objs.size) (I.hok.fresh (AW _));have I2:L2.Inv X pins σ H { s with heap:=h',toks:=tk }:=I1.turned (t':=tk) (λ b o hb e=>k b o (by simpa using hb) e) f0 f1 f3 f4 f5;refine ⟨.bl _,H,I2,rfl,?_⟩;have e:(An its.toArray.size).all (λ i=>bs.getD i true)=bs.all id:=by
   rw [C4,<- hl];rw [Gg];simp only [jc1,jc6,id];constructor
   ·intro h x hx;obtain ⟨i,hi,rfl⟩:=KR hx
    have:=h i hi
    simpa [Mu,hi] using this
   ·intro h i hi;simp [Mu,hi];exact h _ (Fy hi)
  rw [e];exact q
def allB:List PV->Option (List Bool)
 | []=>some []
 | .bl b::r=>(allB r).map (b::·)
 | _=>none
def Gz:List (PV×Nat)->Option (PV×Nat)
 | [(.lst xs,_)]=>(allB xs).map λ bs=>(.bl (bs.all id),om)
 | _=>none
theorem Xn {K:Frag}{Z:Addr->Prop}:∀ {xs:List PV}{ws:List V}{bs:List Bool},allB xs=some bs->OwnL K H Z xs 0 ws []->ws=bs.map V.bl
 | [],ws,bs,e,h=>by cases e;rw [OwnL] at h;exact h.1
 | .bl b::r,ws,bs,e,h=>by
  obtain ⟨bs',e1,rfl⟩:=jc2.mp e;rw [OwnL] at h;obtain ⟨v,s,f1,f2,rfl,ef,dj,h1,h2⟩:=h;obtain ⟨rfl,rfl⟩:f1=[]/\f2=[]:=by simpa using ef.symm
  rw [Own] at h1;rw [h1.1,Xn e1 h2];rfl
 | .non::_,_,_,e,_=>by cases e
 | .int _::_,_,_,e,_=>by cases e
 | .str _::_,_,_,e,_=>by cases e
 | .lst _::_,_,_,e,_=>by cases e
 | .tup _::_,_,_,e,_=>by cases e
 | .emp::_,_,_,e,_=>by cases e
 | .dko::_,_,_,e,_=>by cases e
 | .scr _::_,_,_,e,_=>by cases e
 | .dct _::_,_,_,e,_=>by cases e
 | .exn _::_,_,_,e,_=>by cases e
def xB (hc:X.calm=true) (hg:Gl X "all") (hm:X.mg "all" = none) (ha:PA X (e::es) (tL M fa vs)) (he:AN (e::es) X.env=(false,eval e X.env)::AN es X.env) (hpl:(DD pos (AN es X.env)).any (·.1)=false):
  PE X (.Call (.Name "all" p) (e::es) [] pos) (tE M (Al Gz fa) vs):=by
 refine BW (GZ (j8 hc) hg hm rfl ha (he:=he) (hpl:=hpl)) λ σ H Q h=>Ks (λ xs z c ws H fps fp Q ho tm nz zd lf=>?_) h;unfold Gz at ho;split at ho
 ·rename_i xs d;obtain ⟨bs,eb,e2⟩:=jc2.mp ho;cases e2;obtain ⟨v,r,f1,f2,rfl,rfl,_,o1,h2⟩:=tm;obtain ⟨rfl,rfl⟩:=h2;obtain ⟨q,us,rfl,hs,ol⟩:=(cold (fp:=f1) o1 λ a ha=>nz a (Bq _ ha)).coldL
  have:=Xn eb ol
  subst this;exact ⟨q,bs,rfl,.inl (.inl hs),EH lf⟩
 ·cases ho
def Ha:List PV->Option (List Int)
 | []=>some []
 | .int i::r=>(Ha r).map (i::·)
 | _=>none
theorem Le {K:Frag}{Z:Addr->Prop}:∀ {xs:List PV}{ws:List V}{ns:List Int},Ha xs=some ns->OwnL K H Z xs 0 ws []->ws=ns.map V.int
 | [],ws,ns,e,h=>by cases e;rw [OwnL] at h;exact h.1
 | .int b::r,ws,ns,e,h=>by
  obtain ⟨ns',e1,rfl⟩:=jc2.mp e;rw [OwnL] at h;obtain ⟨v,s,f1,f2,rfl,ef,dj,h1,h2⟩:=h;obtain ⟨rfl,rfl⟩:f1=[]/\f2=[]:=by simpa using ef.symm
  rw [Own] at h1;rw [h1.1,Le e1 h2];rfl
 | .non::_,_,_,e,_=>by cases e
 | .bl _::_,_,_,e,_=>by cases e
 | .str _::_,_,_,e,_=>by cases e
 | .lst _::_,_,_,e,_=>by cases e
 | .tup _::_,_,_,e,_=>by cases e
 | .emp::_,_,_,e,_=>by cases e
 | .dko::_,_,_,e,_=>by cases e
 | .scr _::_,_,_,e,_=>by cases e
 | .dct _::_,_,_,e,_=>by cases e
 | .exn _::_,_,_,e,_=>by cases e
theorem Na:∀ {ns:List Int}{its:List Ae},Vals (ns.map V.int) its->∃ xs:List (Int×Tok),its=xs.map (λ p=>Value.int p.1 p.2)/\xs.map (·.1)=ns
 | [],its,h=>by cases h;exact ⟨[],rfl,rfl⟩
 | n::ns,its,h=>by
  cases h with
  | cons r rr=>
   obtain ⟨t,rfl⟩:=r;obtain ⟨xs,rfl,rfl⟩:=Na rr;exact ⟨(n,t)::xs,rfl,rfl⟩
def vd (hc:X.calm=true):CallR X (.builtin "min") (λ xs H Q=>∃ (p:Addr) (ns:List Int),xs=[.ref p]/\BG X.K H p (ns.map V.int)/\ns≠[]/\∀ m,m∈ns->(∀ a∈ns,m<=a)->Q (.int m) H):=by
 intro pins s σ H xs us Q I r h;obtain ⟨p,ns,rfl,hq,hn,q⟩:=h;obtain ⟨u,rfl,rx⟩:=Hf r;cases rx;obtain ⟨its,rv,pl,hz⟩:=I.list hq;obtain ⟨zs,rfl,rfl⟩:=Na rv;have e:(zs.map λ p=>Value.int p.1 p.2).toArray=FV zs.toArray:=by simp [FV]
 rw [e] at pl;have h0:0 < zs.length:=by
  cases zs with
  | nil=>exact absurd rfl hn
  | cons _ _=>simp
 refine min_intList (I.ok.hd hc) pl.isList (by simpa using h0) λ v h' tk hv k=>?_;obtain ⟨l1,l2⟩:=argBest_lt (Dc zs.toArray) (zs.toArray.size - 1);have hv':=hv;obtain ⟨t,rfl⟩:=N4 hv;have at':∀ j,j < zs.length->Dc zs.toArray j∈zs.map (·.1):=λ j hj=>by
  unfold Dc;simp [hj];exact ⟨_,Fy hj⟩
 refine ⟨.int _,H,I.kept (t':=tk) k,⟨t,rfl⟩,q _ (at' _ ?_) λ a ha=>?_⟩
 ·have:zs.toArray.size=zs.length:=by simp
  omega
 ·obtain ⟨z,hz,rfl⟩:=je7.mp ha;obtain ⟨j,hj,rfl⟩:=KR hz;have hzs:zs.toArray.size=zs.length:=by simp
  have:=l2 j (by omega)
  have e:Dc zs.toArray j=zs[j].1:=by unfold Dc;simp [hj]
  rw [e] at this;exact this
def wg {prog:AD}{w:AB}{A:Bc}{E:Ae->Ak->Prop}{s:Ak}{l:Addr}{xs:Array (Int×Tok)}{Q:Ae->Ak->Prop} (hh:A.handled=none) (hl:s.heap.IsTuple l (FV xs)) (hne:0 < xs.size)
  (h:∀ v h' tk,(FV xs)[argBest (λ i j=>decide (Dc xs i < Dc xs j)) (xs.size - 1)]?=some v->(∀ b o,s.heap.get? b=some o->h'.get? b=some o)->Q v { s with heap:=h',toks:=tk }):
  Aw (Av prog w) A (call (.builtin "min") [.ref l]) Q E s:=by
 have hlt:l < s.heap.objs.size:=by obtain ⟨_,e,_⟩:=hl;exact Bn e
 refine call_min_walk (wpAny_pyIter_tuple hl ?_);refine ⟨_,[_,l],[_],_,_,_,_,rfl,Walks.tuple (A:=A.in1) hh _ l (Cc hlt) (FV xs),⟨⟨_,DF _ rfl,rfl,rfl⟩,hl.push _⟩,λ c hc=>?_,by simpa [FV] using hne,CmpOf.ints_lt (Dc xs) (λ _ _=>N4),λ v h' tk hP hk=>?_⟩
 ·show c < (s.heap.push _).objs.size;rw [LN];rcases ja9.mp hc with rfl | hc
  ·exact II _
  ·rcases ja9.mp hc with rfl | hc
   ·exact IJ hlt
   ·cases hc
 ·exact h v h' tk (by simpa [FV] using hP) λ c o e=>by
   refine hk c o (λ hm=>?_) (CI _ e);rcases ja9.mp hm with e1 | hm
   ·exact absurd (e1 ▸ Bn e) (GO _)
   ·cases hm
def vf (hc:X.calm=true):CallR X (.builtin "min") (λ xs H Q=>∃ (p:Addr) (ns:List Int),xs=[.ref p]/\Dr X.K H p (ns.map V.int)/\ns≠[]/\∀ m,m∈ns->(∀ a∈ns,m<=a)->Q (.int m) H):=by
 intro pins s σ H xs us Q I r h;obtain ⟨p,ns,rfl,hq,hn,q⟩:=h;obtain ⟨u,rfl,rx⟩:=Hf r;cases rx;obtain ⟨its,rv,pl,hz⟩:=I.tuple hq;obtain ⟨zs,rfl,rfl⟩:=Na rv;have e:(zs.map λ p=>Value.int p.1 p.2).toArray=FV zs.toArray:=by simp [FV]
 rw [e] at pl;have h0:0 < zs.length:=by
  cases zs with
  | nil=>exact absurd rfl hn
  | cons _ _=>simp
 refine wg (I.ok.hd hc) pl (by simpa using h0) λ v h' tk hv k=>?_;obtain ⟨l1,l2⟩:=argBest_lt (Dc zs.toArray) (zs.toArray.size - 1);have hv':=hv;obtain ⟨t,rfl⟩:=N4 hv;have at':∀ j,j < zs.length->Dc zs.toArray j∈zs.map (·.1):=λ j hj=>by
  unfold Dc;simp [hj];exact ⟨_,Fy hj⟩
 refine ⟨.int _,H,I.kept (t':=tk) k,⟨t,rfl⟩,q _ (at' _ ?_) λ a ha=>?_⟩
 ·have:zs.toArray.size=zs.length:=by simp
  omega
 ·obtain ⟨z,hz,rfl⟩:=je7.mp ha;obtain ⟨j,hj,rfl⟩:=KR hz;have hzs:zs.toArray.size=zs.length:=by simp
  have:=l2 j (by omega)
  have e:Dc zs.toArray j=zs[j].1:=by unfold Dc;simp [hj]
  rw [e] at this;exact this
def BO:Int->List Int->Int
 | n,[]=>n
 | n,m::r=>BO (if m < n then m else n) r
theorem PU:∀ (r:List Int) (n:Int),BO n r∈n::r
 | [],n=>A9
 | m::r,n=>by
  unfold BO
  have:=PU r (if m < n then m else n)
  rcases ja9.mp this with h | h
  ·rw [h];split
   ·exact A8 _ A9
   ·exact A9
  ·exact A8 _ (A8 _ h)
theorem minI_le:∀ (r:List Int) (n:Int),∀ a∈n::r,BO n r<=a
 | [],n,a,h=>by
  have:a=n:=by simpa using h
  rw [this];exact Hy _
 | m::r,n,a,h=>by
  unfold BO;have ih:=minI_le r (if m < n then m else n);have h1:=ih _ A9;have h2:(if m < n then m else n)<=n/\(if m < n then m else n)<=m:=by split <;> omega
  rcases ja9.mp h with e | h
  ·rw [e];omega
  ·rcases ja9.mp h with e | h
   ·rw [e];omega
   ·exact ih a (A8 _ h)
def TV {ns:List Int}{m m':Int} (h1:m∈ns) (h2:∀ a∈ns,m<=a) (h3:m'∈ns) (h4:∀ a∈ns,m'<=a):m=m':=by
 have:=h2 m' h3
 have:=h4 m h1
 omega
def EC:List (PV×Nat)->Option (PV×Nat)
 | [(.lst xs,_)]=>match Ha xs with
  | some (n::r)=>some (.int (BO n r),om)
  | _=>none
 | [(.tup xs,_)]=>match Ha xs with
  | some (n::r)=>some (.int (BO n r),om)
  | _=>none
 | xs=>OA (λ i j=>if j < i then j else i) xs
def zK (hc:X.calm=true) (hg:Gl X "min") (hm:X.mg "min" = none) (ha:PA X (e::es) (tL M fa vs)) (he:AN (e::es) X.env=(false,eval e X.env)::AN es X.env) (hpl:(DD pos (AN es X.env)).any (·.1)=false):
  PE X (.Call (.Name "min" p) (e::es) [] pos) (tE M (Al EC fa) vs):=by
 refine BW (GZ (((vc hc).or (vd hc)).or (vf hc)) hg hm rfl ha (he:=he) (hpl:=hpl)) λ σ H Q h=>Ks (λ xs z c ws H fps fp Q ho tm nz zd lf=>?_) h;unfold EC at ho;split at ho
 ·rename_i xs d;split at ho
  ·rename_i n r eb;cases ho;obtain ⟨v,r',f1,f2,rfl,rfl,_,o1,h2⟩:=tm;obtain ⟨rfl,rfl⟩:=h2;obtain ⟨q,us,rfl,hs,ol⟩:=(cold (fp:=f1) o1 λ a ha=>nz a (Bq _ ha)).coldL
   have:=Le eb ol
   subst this;refine .inl (.inr ⟨q,n::r,rfl,.inl (.inl hs),by simp,λ m h1 h2=>?_⟩);rw [TV h1 h2 (PU r n) (minI_le r n)];exact EF lf
  ·cases ho
 ·rename_i xs d;split at ho
  ·rename_i n r eb;cases ho;obtain ⟨v,r',f1,f2,rfl,rfl,_,o1,h2⟩:=tm;obtain ⟨rfl,rfl⟩:=h2;obtain ⟨q,us,rfl,hs,ol⟩:=(cold (fp:=f1) o1 λ a ha=>nz a (Bq _ ha)).coldT
   have:=Le eb ol
   subst this;refine .inr ⟨q,n::r,rfl,.inl (.inl hs),by simp,λ m h1 h2=>?_⟩;rw [TV h1 h2 (PU r n) (minI_le r n)];exact EF lf
  ·cases ho
 ·exact .inl (.inl (Xl ho tm lf))
abbrev Fn:=List PV->Rz (PV×Nat×PV)
def Bx (K:Frag) (_:Bool) (n:Nat) (F:Fn):Sp:=λ ws H Q _=>ws.length=n/\∃ (xs:List PV) (Zo:Addr->Prop),(∀ a,Zo a->H a≠none)/\OwnL K H Zo xs 0 ws [] /\
 (match F xs with
  | .ok (y,d,_)=>∀ v H' fp,Cs (λ _=>False) H H'->(∀ a,H a≠none->H' a≠none)->Own K H' (λ a=>Zo a\/a∈fp) y d v fp->(∀ a∈fp,H a=none/\¬ Zo a)->Q v H'
  | _=>False)
def Au (F:Fn) (fa:Fa):Fx:=λ ρ=>(fa ρ).bind λ (xs,ρ1)=>match F (xs.map (·.1)) with
 | .ok (y,d,_)=>.ok (y,d,ρ1)
 | _=>.no
theorem zQ {F:Fn}{n:Nat} (hF:∀ xs,xs.length≠n->F xs=.no) {σ:St}{H:Hp}{Q:VK} (hq:tE M (Au F fa) vs σ H Q):VO (Bx M.K false n F) M.W (tL M fa vs) σ H Q:=by
 obtain ⟨ρ,fps,rep,q⟩:=hq;refine ⟨ρ,fps,rep,?_⟩;unfold Au at q;cases ef:fa ρ with
 | no=>rw [ef] at q;exact q
 | exc c=>rw [ef] at q;exact q
 | ok p=>
  obtain ⟨xs,ρ1⟩:=p;rw [ef] at q;intro ws H1 fps1 f1 k1 g1 rep1 o1 t1;dsimp only [Rz.bind] at q;have back:∀ a,H1 a=none->H a=none:=λ a e=>by
   cases e':H a with
   | none=>rfl
   | some o=>exact absurd e (k1.dom a (by rw [e'];simp))
  show Bx M.K false n F ws H1 Q (Gp (M.W σ));have hlen:xs.length=n:=by
   by_cases e:xs.length=n
   ·exact e
   ·rw [hF (xs.map (·.1)) (by rw [Ax];exact e)] at q;exact q.elim
  refine ⟨by rw [o1.length,hlen],xs.map (·.1),Zv M vs fps1,λ a z=>rep1.zdom z.zf,o1.cold λ a ha z=>t1.ndj a ha z.zf,?_⟩;cases eF:F (xs.map (·.1)) with
  | no=>rw [eF] at q;exact q
  | exc c=>rw [eF] at q;exact q
  | ok r=>
   obtain ⟨y,d,z0⟩:=r;rw [eF] at q;intro v H' fp kp dm oy hf;have kk:∀ a o,H1 a=some o->H' a=some o:=λ a o h=>kp a o h λ z=>z.elim;refine q v H' fps1 fp (k1.trans (KD.grow kk)) g1 (rep1.grow kk) oy ⟨λ a ha=>back a (hf a ha).1,λ a ha=>rep1.nz (hf a ha).1⟩
end
section
variable {prog:AD}{w:AB}{A:Bc}{E:Ae->Ak->Prop}{s:Ak}
structure ZApart (zz ti to p1 p2 q1 q2:Addr):Prop where
 ne1:ti≠zz
 ne2:to≠zz
 ne3:p1≠zz
 ne4:p2≠zz
 ne5:ti≠to
 ne6:ti≠p1
 ne7:ti≠p2
 ne8:to≠p1
 ne9:to≠p2
 nea:p1≠p2
 neb:q1≠zz
 nec:q1≠to
 ned:q1≠p1
 nee:q1≠p2
 nef:q2≠zz
 neg:q2≠to
 neh:q2≠p1
 nei:q2≠p2
section
variable {zz ti to p1 p2 q1 q2:Addr}{n1 n2:Nat}{us vs:Array Ae}{u v a b:Ae}
end
end
section
variable {X:Cx}{pins:List (Addr×Obj)}{σ:St}{H:Hp}{s:Ak}{h':Heap}
def wa {fp:List Addr}{a:Addr}{o:HO}{t':Nat} (I:Inv X pins σ H s) (k:∀ b u,b∉fp->s.heap.get? b=some u->h'.get? b=some u) (hf:∀ b∈fp,Cz X pins H b) (ha:s.heap.objs.size<=a) (new:zwv X.prog X.w (As H a o) h' a o):
  Inv X pins σ (As H a o) { s with heap:=h',toks:=t' }:=by
 have hn:H a=none:=I.hok.fresh ha;have nfp:∀ b u,H b=some u->b∉fp:=λ b u e z=>by rw [(hf b z).1] at e;cases e
 have up:∀ b u,H b=some u->As H a o b=some u:=λ b u e=>by rw [AM (λ z=>by rw [z,hn] at e;cases e)];exact e
 refine I.step (g':=s.gens) (d':=s.drawn) (ch:=fp) (λ b hb=>?_) (λ b u _ _ hc e _=>k b u hc e) (λ b u _ _ hc e _=>⟨u.slots,k b u hc e⟩) (λ b u _ e n=>?_) (λ b u hc e=>⟨u,k b u hc e⟩) (λ b xs e=>up b _ e) (λ b _ _ e=>up b _ e) (λ b ps e=>⟨#[],by rw [up b _ e];simp⟩) (λ m hm=>?_) (λ b u e=>?_) I.bare
 ·obtain ⟨_,f1,_,f3,f4,f5⟩:=hf b hb;exact ⟨f3,f1,f4,f5⟩
 ·rw [AM (λ z=>by rw [z] at e;exact absurd (Bn e) (Nat.not_lt.mpr ha))];exact n
 ·obtain ⟨u,es,ep,ho,r⟩:=hm;exact ⟨u,es,ep,k _ u (λ z=>(hf _ z).2.1 rfl) ho,r⟩
 ·by_cases eb:b=a
  ·subst eb;rw [BJ] at e;cases e;exact new
  ·rw [AM eb] at e;refine (I.hok b u e).stay (λ c v hc q=>k c v ?_ q) (λ c q=>up c _ q) λ c xs q=>up c _ q;rcases hc with z | z
   ·rw [z];exact nfp b u e
   ·exact nfp c _ z
def wA {fp:List Addr}{t':Nat} (I:Inv X pins σ H s) (k:∀ b u,b∉fp->s.heap.get? b=some u->h'.get? b=some u) (hf:∀ b∈fp,Cz X pins H b):Inv X pins σ H { s with heap:=h',toks:=t' }:=by
 have nfp:∀ b u,H b=some u->b∉fp:=λ b u e z=>by rw [(hf b z).1] at e;cases e
 refine I.step (g':=s.gens) (d':=s.drawn) (ch:=fp) (λ b hb=>?_) (λ b u _ _ hc e _=>k b u hc e) (λ b u _ _ hc e _=>⟨u.slots,k b u hc e⟩) (λ _ _ _ _ n=>n) (λ b u hc e=>⟨u,k b u hc e⟩) (λ _ _ e=>e) (λ _ _ _ e=>e) (λ b ps e=>⟨#[],by rw [e];simp⟩) (λ m hm=>?_) (λ b u e=>?_) I.bare
 ·obtain ⟨_,f1,_,f3,f4,f5⟩:=hf b hb;exact ⟨f3,f1,f4,f5⟩
 ·obtain ⟨u,es,ep,ho,r⟩:=hm;exact ⟨u,es,ep,k _ u (λ z=>(hf _ z).2.1 rfl) ho,r⟩
 ·refine (I.hok b u e).stay (λ c v hc q=>k c v ?_ q) (λ _ q=>q) λ _ _ q=>q;rcases hc with z | z
  ·rw [z];exact nfp b u e
  ·exact nfp c _ z
end
def HS (K:Frag) (a b:Addr):It:=
 ⟨λ i H=>∃ xs ys x y,BG K H a xs/\BG K H b ys/\xs[i]?=some x/\ys[i]?=some y,λ i H v H'=>∃ T x y,H T=none/\v=.ref T/\H'=As H T (.tup [x,y])/\∀ xs ys,BG K H a xs->BG K H b ys->xs[i]?=some x/\ys[i]?=some y,λ i H=>∃ xs ys,BG K H a xs/\BG K H b ys/\(xs.length<=i\/ys.length<=i)⟩
def U2 {h:Heap}{z TI TO i1 i2 l1 l2:Addr}{f0:Ae}{a b c d:Ae}{k1 k2:Nat}{xs ys:Array Ae} (hTT:TI≠TO) (La:i1≠i2) (hz:IsZip h z TI TO f0) (hTI:IsPair h TI a b) (hTO:IsPair h TO c d) (h1:h.IsListIter i1 l1 k1) (h2:h.IsListIter i2 l2 k2) (hl1:h.IsList l1 xs) (hl2:h.IsList l2 ys):ZipApart z TI TO i1 i2 l1 l2:=by
 obtain ⟨o1,e1,c1,_⟩:=h1;obtain ⟨o2,e2,c2,_⟩:=h2;obtain ⟨p1,q1,r1,_⟩:=hl1;obtain ⟨p2,q2,r2,_⟩:=hl2;have ne:∀ {x y:Addr}{o o':Obj}{n m:String},h.get? x=some o->h.get? y=some o'->o.cls=.type n->o'.cls=.type m->n≠m->x≠y:=λ {x y o o' n m} ex ey cx cy nm z=>by
  subst z;rw [ex] at ey;cases ey;rw [cx] at cy;injection cy with cy
  exact nm cy
 exact ⟨ne hTI hz rfl rfl (by decide),ne hTO hz rfl rfl (by decide),ne e1 hz c1 rfl (by decide),ne e2 hz c2 rfl (by decide),hTT,ne hTI e1 rfl c1 (by decide),ne hTI e2 rfl c2 (by decide),ne hTO e1 rfl c1 (by decide),ne hTO e2 rfl c2 (by decide),La,
  ne q1 hz r1 rfl (by decide),ne q1 hTO r1 rfl (by decide),ne q1 e1 r1 c1 (by decide),ne q1 e2 r1 c2 (by decide),ne q2 hz r2 rfl (by decide),ne q2 hTO r2 rfl (by decide),ne q2 e1 r2 c1 (by decide),ne q2 e2 r2 c2 (by decide)⟩
def kD {P:AD}{w:AB}{K:Frag}{es:List Expr}{k:Nat}{pos:Pos} (l1 l2 z TI TO i1 i2:Addr) (hTT:TI≠TO) (La:i1≠i2):
  Turn P w K (.Tuple es k pos) (HS K l1 l2) [z,TI,TO,i1,i2] z (λ i h=>IsZip h z TI TO .none/\IsPair h TI (.ref i1) (.ref i2)/\(∃ p q,IsPair h TO p q)/\h.IsListIter i1 l1 i/\h.IsListIter i2 l2 i) where
 mem:=by simp
 obj:=λ i h st b hb=>by
  obtain ⟨hz,hTI,⟨p,q,hTO⟩,⟨o1,e1,_,d1⟩,⟨o2,e2,_,d2⟩⟩:=st;simp only [ja9,JG,or_false] at hb;rcases hb with rfl | rfl | rfl | rfl | rfl
  ·exact ⟨_,hz,λ v z=>by cases z⟩
  ·exact ⟨_,hTI,λ v z=>by cases z⟩
  ·exact ⟨_,hTO,λ v z=>by cases z⟩
  ·exact ⟨o1,e1,λ v z=>by rw [d1] at z;cases z⟩
  ·exact ⟨o2,e2,λ v z=>by rw [d2] at z;cases z⟩
 keep:=λ i h h' st k=>by
  obtain ⟨hz,hTI,⟨p,q,hTO⟩,h1,h2⟩:=st;exact ⟨k z (by simp) _ hz,k TI (by simp) _ hTI,⟨p,q,k TO (by simp) _ hTO⟩,h1.at λ o x=>k i1 (by simp) o x,h2.at λ o x=>k i2 (by simp) o x⟩
 item:=by
  intro X hP hw hK hc i pins s σ H E I hf st hg;subst hP hw hK;obtain ⟨xs,ys,x,y,hq1,hq2,hx,hy⟩:=hg;obtain ⟨its1,rv1,p1,hz1⟩:=I.list hq1;obtain ⟨its2,rv2,p2,hz2⟩:=I.list hq2;obtain ⟨u1,hu1,ru1⟩:=rv1.get hx;obtain ⟨u2,hu2,ru2⟩:=rv2.get hy;obtain ⟨hz,hTI,⟨p,q,hTO⟩,h1,h2⟩:=st;have D:=U2 hTT La hz hTI hTO h1 h2 p1.isList p2.isList;refine wpAny_pyNext_zip_item D hz hTI hTO h1 h2 p1.isList p2.isList (x:=u1) (y:=u2) (by simpa using hu1) (by simpa using hu2) λ h' a1 a2 a3 a4 a5 a6 hk=>⟨_,rfl,?_⟩
  refine wpAny_letOwnedTupleGo_zip a1 λ h2' hz' hs'=>?_;have hn:H s.heap.objs.size=none:=I.hok.fresh (AW _);have hs0:s.heap.objs.size≠z:=IF (Bn hz);have I1:Inv X pins σ (As H s.heap.objs.size (.tup [x,y])) { s with heap:=h2',toks:=s.toks }:=by
   refine wa (fp:=[z,TI,TO,i1,i2]) I (λ b u hb e=>(hs'.2 b (λ z=>hb (by simp [z]))).trans (hk b u (λ z=>hb (by simp [z])) (λ z=>hb (by simp [z])) (λ z=>hb (by simp [z])) (λ z=>hb (by simp [z])) e)) hf (AW _) ?_;exact ⟨CA (by decide:2<=1000) (by decide),_,.cons ru1 (.cons ru2 .nil),⟨_,(hs'.2 _ hs0).trans a5,rfl,_,rfl⟩⟩
  refine ⟨.ref s.heap.objs.size,_,I1,rfl,⟨_,x,y,hn,rfl,rfl,λ xs' ys' e1 e2=>⟨by rw [I.list_inj e1 hq1];exact hx,by rw [I.list_inj e2 hq2];exact hy⟩⟩,⟨hz',(hs'.2 _ D.TIz).trans (hk _ _ D.TIz D.TITO D.TIi1 D.TIi2 hTI),⟨_,_,(hs'.2 _ D.TOz).trans a2⟩,a3.at λ o e=>(hs'.2 _ D.i1z).trans e,a4.at λ o e=>(hs'.2 _ D.i2z).trans e⟩,λ b hb=>?_⟩;have hb':=(hf b hb).1;have lt:b < s.heap.objs.size:=by
   simp only [ja9,JG,or_false] at hb;rcases hb with rfl | rfl | rfl | rfl | rfl
   ·exact Bn hz
   ·exact Bn hTI
   ·exact Bn hTO
   ·obtain ⟨_,e,_⟩:=h1;exact Bn e
   ·obtain ⟨_,e,_⟩:=h2;exact Bn e
  rw [AM (Cc lt)];exact hb'
 done:=by
  intro X hP hw hK hc i pins s σ H E I hf st hg;subst hP hw hK;obtain ⟨xs,ys,hq1,hq2,hend⟩:=hg;obtain ⟨its1,rv1,p1,hz1⟩:=I.list hq1;obtain ⟨its2,rv2,p2,hz2⟩:=I.list hq2;obtain ⟨hz,hTI,⟨p,q,hTO⟩,h1,h2⟩:=st;have D:=U2 hTT La hz hTI hTO h1 h2 p1.isList p2.isList;have r1:=rv1.length;have r2:=rv2.length;refine wpAny_pyNext_zip_end (I.ok.hd hc) D hz hTI hTO h1 h2 p1.isList p2.isList ?_ λ h' hk=>⟨rfl,wA (t':=s.toks) I (λ b o hb e=>hk b o (λ z=>hb (by simp [z])) (λ z=>hb (by simp [z])) (λ z=>hb (by simp [z])) (λ z=>hb (by simp [z])) e) hf⟩
  rcases hend with h | h
  ·exact .inl (YB (by simp;omega))
  ·exact .inr (YB (by simp;omega))
 self:=λ _ _ _ _ _ st h=>wpAny_pyIter_zip st.1 h
section
variable {X:Cx}{tg:Expr}
def Ta (K:Frag) (ta:TA):TI:=λ σ H R=>ta σ H λ vs H1=>∃ a b xs ys,vs=[.ref a,.ref b]/\(BG K H1 a xs/\BG K H1 b ys/\R (HS K a b) H1)
def qK {a b:Expr}{ta:TA}{es:List Expr}{k:Nat}{tp p pos:Pos} (hg:Gl X "zip") (hm:X.mg "zip" = none) (ha:PA X [a,b] ta) (hs:AN [a,b] X.env=[(false,eval a X.env),(false,eval b X.env)]) (hs2:AN [b] X.env=[(false,eval b X.env)]):
  PI X (.Tuple es k tp) (.Call (.Name "zip" p) [a,b] [] pos) (Ta X.K ta):=by
 intro pins s σ H R I h;refine Call_ (Km I hg hm boot_zip (NH (A5 (ha pos pins s σ H _ I h) λ us s1 ⟨vs,H1,I1,r1,q1⟩=>?_) (by rw [hs,hs2]) (by rw [hs2];rfl)));obtain ⟨c,d,xs,ys,e,hq1,hq2,q⟩:=q1
 ·subst e;cases r1 with
  | cons r rr=>
   cases rr with
   | cons r' rr=>
    cases rr;cases r;cases r';obtain ⟨its1,rv1,p1,hz1⟩:=I1.list hq1;obtain ⟨its2,rv2,p2,hz2⟩:=I1.list hq2;refine call_zip_2 p1.isList p2.isList λ h' hz hTI hTO h1 h2 hsz hk=>?_;refine wpAny_pyIter_zip (s:={ s1 with heap:=h' }) hz ?_;refine ⟨s1.heap.objs.size + 4,[s1.heap.objs.size + 4,s1.heap.objs.size + 2,s1.heap.objs.size + 3,s1.heap.objs.size,s1.heap.objs.size + 1],_,_,H1,rfl,I1.kept (t':=s1.toks) hk,kD c d _ _ _ _ _ (Cc (II _)) (Cc (II _)),⟨hz,hTI,⟨_,_,hTO⟩,h1,h2⟩,λ x hx=>?_,q⟩
    have:s1.heap.objs.size<=x:=by
     simp only [ja9,JG,or_false] at hx;rcases hx with rfl | rfl | rfl | rfl | rfl
     ·exact OM _ _
     ·exact OM _ _
     ·exact OM _ _
     ·exact AW _
     ·exact OM _ _
    exact I1.fpOk this (I1.hok.fresh this)
end
inductive Vw where
 | rev | enm | zp
def BX:List PV->List PV->List PV
 | x::xs,y::ys=>.tup [x,y]::BX xs ys
 | _,_=>[]
def Jg:Vw->List PV->Option (List PV)
 | .zp,[.lst xs,.lst ys]=>some (BX xs ys)
 | _,_=>none
def Vl (v:Vw) (K:Frag) (ws:List V) (H:Hp) (R:It->Hp->Prop):Prop:=match v with
 | .rev=>False
 | .enm=>False
 | .zp=>∃ a b xs ys,ws=[.ref a,.ref b]/\(BG K H a xs/\BG K H b ys/\R (HS K a b) H)
def Tb (v:Vw) (K:Frag) (ta:TA):TI:=λ σ H R=>ta σ H λ ws H1=>Vl v K ws H1 R
theorem X8:∀ (xs ys:List PV),(BX xs ys).length=min xs.length ys.length
 | [],ys=>by simp [BX]
 | x::xs,[]=>by simp [BX]
 | x::xs,y::ys=>by rw [BX,Ba,X8 xs ys,Ba,Ba];omega
theorem X7:∀ (xs ys:List PV) (i:Nat) (x y:PV),xs[i]?=some x->ys[i]?=some y->(BX xs ys)[i]?=some (.tup [x,y])
 | [],ys,i,x,y,h,_=>by simp at h
 | a::xs,[],i,x,y,_,h=>by simp at h
 | a::xs,b::ys,0,x,y,h,h'=>by simp at h h';subst h h';simp [BX]
 | a::xs,b::ys,i + 1,x,y,h,h'=>by
  rw [BX,JK];exact X7 xs ys i x y (by simpa using h) (by simpa using h')
def Own.growH {K:Frag}{H H':Hp}{Z:Addr->Prop}{x:PV}{v:V} (k:∀ a o,H a=some o->H' a=some o) (h:Own K H Z x 0 v []):Own K H' Z x 0 v []:=
 Own.move (S:=λ _=>False) (λ a o h _=>k a o h) (λ _ z=>z.elim) (λ _ _ n=>n) x 0 v [] (λ _ z=>nomatch z) h
def N0 {K:Frag}{H:Hp}{Z:Addr->Prop}{xs:List PV}{v:V} (o:Own K H Z (.lst xs) 0 v []):∃ a ws,v=.ref a/\BG K H a ws/\OwnL K H Z xs 0 ws []:=by
 rw [Own] at o;obtain ⟨b,ws,e,⟨_,hr,_,ol⟩ | ⟨h,_⟩⟩:=o
 ·exact ⟨b,ws,e,.inl (.inl hr.1),ol⟩
 ·exact absurd rfl h
def jX {K:Frag}{H:Hp}{Z:Addr->Prop}{x y:PV}{u v:V}{T:Addr} (hT:H T=some (.tup [u,v])) (ox:Own K H Z x 0 u []) (oy:Own K H Z y 0 v []):Own K H Z (.tup [x,y]) 0 (.ref T) []:=by
 rw [Own];refine ⟨T,_,rfl,hT,?_⟩;rw [Ww,OwnL];refine ⟨u,[v],[],[],rfl,rfl,(λ _ z=>nomatch z),ox,?_⟩;rw [OwnL];exact ⟨v,[],[],[],rfl,rfl,(λ _ z=>nomatch z),oy,by rw [OwnL];exact ⟨rfl,rfl⟩⟩
def OwnL.one {K:Frag}{H:Hp}{Z:Addr->Prop}{x:PV}{ws:List V} (o:OwnL K H Z [x] 0 ws []):∃ v,ws=[v]/\Own K H Z x 0 v []:=by
 rw [OwnL] at o;obtain ⟨v,r,f1,f2,rfl,ef,_,o1,o2⟩:=o;obtain ⟨rfl,rfl⟩:f1=[]/\f2=[]:=by simpa using ef.symm
 rw [OwnL] at o2;exact ⟨v,by rw [o2.1],o1⟩
def OwnL.two {K:Frag}{H:Hp}{Z:Addr->Prop}{x y:PV}{ws:List V} (o:OwnL K H Z [x,y] 0 ws []):∃ u v,ws=[u,v]/\Own K H Z x 0 u []/\Own K H Z y 0 v []:=by
 rw [OwnL] at o;obtain ⟨u,r,f1,f2,rfl,ef,_,o1,o2⟩:=o;obtain ⟨rfl,rfl⟩:f1=[]/\f2=[]:=by simpa using ef.symm
 obtain ⟨v,rfl,o3⟩:=o2.one;exact ⟨u,v,rfl,o1,o3⟩
theorem OwnL.mono0 {K:Frag}{H H':Hp}{Z Z':Addr->Prop} (h:∀ x v,Own K H Z x 0 v []->Own K H' Z' x 0 v []):∀ {xs:List PV}{ws:List V},OwnL K H Z xs 0 ws []->OwnL K H' Z' xs 0 ws []
 | [],ws,o=>by rw [OwnL] at o ⊢;exact o
 | x::xs,ws,o=>by
  rw [OwnL] at o;obtain ⟨u,r,f1,f2,rfl,ef,_,o1,o2⟩:=o;obtain ⟨rfl,rfl⟩:f1=[]/\f2=[]:=by simpa using ef.symm
  rw [OwnL];exact ⟨u,r,[],[],rfl,rfl,(λ _ z=>nomatch z),h _ _ o1,OwnL.mono0 h o2⟩
def Vm {v:Vw}{ps els:List PV}{ws:List V}{K:Frag}{H:Hp}{Z:Addr->Prop} (he:Jg v ps=some els) (o:OwnL K H Z ps 0 ws []):∃ J,(∀ R:It->Hp->Prop,R J H->Vl v K ws H R)/\∀ H Z,OwnL K H Z ps 0 ws []->∀ i,(i < els.length->J.go i H)/\(els.length<=i->J.stop i H) /\
  (i < els.length->∀ x H',J.yld i H x H'->(∀ a o,H a=some o->H' a=some o)/\∃ y,els[i]?=some y/\Own K H' Z y 0 x []):=by
 unfold Jg at he;split at he
 ·rename_i xs ys;cases he;obtain ⟨v1,v2,rfl,o1,o2⟩:=o.two;obtain ⟨a,us,rfl,sq,ol⟩:=N0 o1;obtain ⟨b,vs,rfl,sq2,ol2⟩:=N0 o2;refine ⟨HS K a b,λ R r=>⟨a,b,us,vs,rfl,sq,sq2,r⟩,λ H' Z' o' i=>?_⟩;obtain ⟨v1',v2',e,o1',o2'⟩:=o'.two;cases e;obtain ⟨a',us',e,sq',ol'⟩:=N0 o1';cases e;obtain ⟨b',vs',e,sq2',ol2'⟩:=N0 o2';cases e;have hl1:=ol'.length;have hl2:=ol2'.length;rw [X8];refine ⟨λ h=>⟨us',vs',us'[i]'(by omega),vs'[i]'(by omega),sq',sq2',by simp,by simp⟩,λ h=>⟨us',vs',sq',sq2',by omega⟩,λ h x H2 y=>?_⟩;obtain ⟨T,u,w,hT,rfl,rfl,e2⟩:=y;have kx:∀ a o,H' a=some o->As H' T (.tup [u,w]) a=some o:=λ a o h=>by rw [AM (λ z=>by rw [z,hT] at h;cases h)];exact h
  obtain ⟨e3,e4⟩:=e2 us' vs' sq' sq2';obtain ⟨z1,ez1,oz1⟩:=ol'.get e3;obtain ⟨z2,ez2,oz2⟩:=ol2'.get e4;exact ⟨kx,.tup [z1,z2],X7 _ _ _ _ _ ez1 ez2,jX BJ (oz1.growH kx) (oz2.growH kx)⟩
 ·cases he
section
variable {is:List Nat}{M:Fm}{ρ ρ':Ag}{σ σ':St}{H H' H'':Hp}{fps fps' fps'':AR}{vs vs':List Nat}
def Rx (v:Vw) (fa:Fa) (vs:List Nat) (asg:PV->Ag->Option Ag) (body:Fs):Fs:=λ ρ=>match fa ρ with
 | .ok (xs,ρ1)=>(match Jg v (xs.map (·.1)) with
  | some els=>Ej asg body els (CF (if Ey xs=true then om else 0) vs ρ1)
  | none=>.no)
 | .exc c=>.exc c
 | .no=>.no
def EI (v:Vw) (fa:Fa) (k:Nat) (asg:PV->Ag->Option Ag) (test:Fb) (elt:Fx):Fx:=λ ρ=>match fa ρ with
 | .ok (xs,ρ1)=>(match Jg v (xs.map (·.1)) with
  | some els=>(C9 k asg test elt els ρ1 []).bindN λ (acc,ρ2)=>CZ acc ρ2
  | none=>.no)
 | .exc c=>.exc c
 | .no=>.no
theorem Rep.seens {xs:List (PV×Nat)}{ws:List V}{fp:List Addr} (rep:Rep M ρ σ H fps) (k:KD M H fps H' fps') (g:Agr M ρ ρ') (r':Rep M ρ' σ H' fps') (o:Tmps M.K H' (Zv M vs fps') xs ws fp) (t:Temp M vs H H' fps' fp)
  (hal:∀ i,M.al i=[]) (hv:∀ i∈vs,M.Ms i=false):∃ fps2,KS M H fps H' fps2/\Rep M (CF (if Ey xs=true then om else 0) vs ρ') σ H' fps2/\OwnL M.K H' (Zf M fps2) (xs.map (·.1)) 0 ws []:=by
 unfold CF;cases ho:Ey xs with
 | true=>
  rw [if_pos rfl,if_pos rfl];refine ⟨fps',k.ks,r',?_⟩;exact OwnL.freeze (λ _ z=>z) _ om ws fp (λ a ha=>t.ndj a ha) (OwnL.full _ ws fp (o.all (MN ho)))
 | false=>
  rw [if_neg Cp,if_neg (by decide)];exact ⟨Ei vs fps',k.ks.cool,r'.cool hal hv,(o.cold λ a ha z=>t.ndj a ha z.zf).weak λ a h=>Ih h⟩
theorem WQ {v:Vw}{g:TG}{asg:PV->Ag->Option Ag}{body:Fs}{fa:Fa}{D:Ends} (hal:∀ i,M.al i=[]) (hv:∀ i∈vs,M.Ms i=false) (hg:DW M [] is g asg) (hq:tS M (Rx v fa vs asg body) D σ H):Eo (Tb v M.K (tL M fa vs)) g (tS M body) D σ H:=by
 obtain ⟨ρ,fps,rep,q⟩:=hq;refine ⟨ρ,fps,rep,?_⟩;unfold Rx at q;cases ef:fa ρ with
 | no=>rw [ef] at q;exact q
 | exc c=>rw [ef] at q;exact λ H' fps' k=>q _ H' fps' k.ks
 | ok p=>
  obtain ⟨xs,ρ1⟩:=p;rw [ef] at q;intro ws H1 fps1 f1 k1 g1 rep1 o1 t1;dsimp only at q;cases ee:Jg v (xs.map (·.1)) with
  | none=>rw [ee] at q;exact q.elim
  | some els=>
   rw [ee] at q;obtain ⟨fps2,k2,r2,o2⟩:=Rep.seens rep k1 g1 rep1 o1 t1 hal hv;obtain ⟨J,hpre,hJ⟩:=Vm ee o2;refine hpre _ ?_;exact Lr (Pq:=λ H fps=>OwnL M.K H (Zf M fps) (xs.map λ (p:PV×Nat)=>p.1) 0 ws []) (els:=els) hg (λ r k o=>o.mono0 λ x v h=>k.stay0 r h) (λ {H fps i} o h=>(hJ H _ o i).1 h) (λ {H fps i} o h=>(hJ H _ o i).2.1 h) (λ {ρ σ H fps i x H'} _ o h y=>(hJ H _ o i).2.2 h x H' y) r2 o2 (RsOk.from k2 q)
theorem k9 {v:Vw}{g:TG}{is vI vE vo:List Nat}{asg:PV->Ag->Option Ag}{test:Fb}{elt:Fx}{fa:Fa}{k n:Nat}{Q:VK}{P:Fm->Prop}
  (hn:σ.length=n) (hP:∀ D,P (M.comp D n vI)) (hal:∀ i,∀ j∈M.al i,M.Ms j=false) (hvI:∀ i∈vI,M.Ms i=false) (hvE:∀ i∈vE,M.Ms i=false) (his:∀ i∈is,n<=i) (hg:∀ D,DW (M.comp D n vI) vI is g asg)
  (hvo:∀ i,i∈vE->i < n->i∈vo) (hvo2:∀ i∈vo,M.Ms i=false) (hq:tE M (EI v fa k asg test elt) vo σ H Q):
  J6 k (Tb v M.K (tL M fa vI)) g (λ σ H Q=>∃ M',P M'/\tT M' test σ H Q) (λ σ H Q=>∃ M',P M'/\tE M' elt vE σ H Q) σ H Q:=by
 obtain ⟨ρ,fps,rep,q⟩:=hq;refine ⟨ρ,fps,rep,?_⟩;unfold EI at q;cases ef:fa ρ with
 | no=>rw [ef] at q;exact q
 | exc c=>rw [ef] at q;exact q
 | ok p=>
  obtain ⟨xs,ρ1⟩:=p;rw [ef] at q;intro ws H1 fps1 f1 k1 g1 rep1 o1 t1;dsimp only at q;cases ee:Jg v (xs.map (·.1)) with
  | none=>rw [ee] at q;exact q.elim
  | some els=>
   rw [ee] at q;have hl:n=ρ1.length:=by rw [rep1.len];exact hn.symm
   have o0:OwnL M.K H1 (Zv M vI fps1) (xs.map (·.1)) 0 ws []:=o1.cold λ a ha z=>t1.ndj a ha z.zf;obtain ⟨J,hpre,hJ⟩:=Vm ee o0;refine hpre _ ?_;have stay:∀ {D H' fps'},H1 D=none->KD M H1 fps1 H' fps'->OwnL M.K H' (Zv (M.plus [D]) vI fps') (xs.map (·.1)) 0 ws []:=λ hD k'=>o0.mono0 λ x v h=>KD.seen rep1 k' hD hvI h;refine Lh (els:=els) hP hl hal hvI hvE his hg hvo hvo2 rep1 (λ {D H' fps' i} hD k' h=>(hJ H' _ (stay hD k') i).1 h) (λ {D H' fps' i} hD k' h=>(hJ H' _ (stay hD k') i).2.1 h) (λ {D H' fps' i x H''} hD k' h y=>(hJ H' _ (stay hD k') i).2.2 h x H'' y) ?_;dsimp only at q;cases ec:C9 k asg test elt els ρ1 [] with
   | no=>rw [ec] at q;exact q.elim
   | exc c=>rw [ec] at q;exact q.elim
   | ok p=>
    obtain ⟨acc,ρ2⟩:=p;rw [ec] at q;exact λ D ws H' fps' fpl k g r hD hD' tm hf=>PH rep1 k1 g1 q k g r hD hD' tm hf
end
section
variable {X:Cx}{M:Fm}{f g:Fx}{fa:Fa}{vs vs':List Nat}{a b e:Expr}{es:List Expr}{pos p p2:Pos}{σ:St}{H:Hp}{Q:VK}
def BS:PV->Nat->Option (PV×Nat)
 | .lst xs,_=>some (.lst xs.reverse,d1 xs.reverse)
 | .str z,_=>if z.length<=A2 then some (.str ⟨z.cps.toList.reverse.toArray⟩,om) else none
 | _,_=>none
def Zb (K:Frag):V->Hp->VK->Prop:=λ x H1 Q=>(∃ l xs,x=.ref l/\BG K H1 l xs/\∀ p,H1 p=none->Q (.ref p) (As H1 p (.lst xs.reverse)))\/∃ z,x=.str z/\z.length<=A2/\Q (.str ⟨z.cps.toList.reverse.toArray⟩) H1
def zF (z:Str) (tk u:Tok):PySem.sliceMade z tk none none (some (-1,u))=.str ⟨z.cps.toList.reverse.toArray⟩:=by
 unfold PySem.sliceMade PySem.slicePicked;rw [if_neg (by simp)];have e:QH none none (-1) z.length=(An z.cps.size).reverse:=by
  have e1:QH none none (-1) z.length=sliceRange ((z.length:Int) - 1) (-1) (-1):=rfl;rw [e1,PySem.W.krv_sliceRange,PySem.W.krv_range];rfl
 show Made.str ⟨((QH none none (-1) z.length).filterMap (z.cps[·]?)).toArray⟩=_;rw [e,List.filterMap_reverse,PySem.W.krv_all]
theorem X6:∀ {xs:List V}{us:List Ae},Vals xs us->Vals xs.reverse us.reverse
 | _,_,.nil=>.nil
 | _,_,.cons r rr=>by rw [OO,OO];exact (X6 rr).append (.cons r .nil)
theorem OwnL.snoc0 {K:Frag}{H:Hp}{Z:Addr->Prop}{x:PV}{v:V}:∀ {xs:List PV}{ws:List V},OwnL K H Z xs 0 ws []->Own K H Z x 0 v []->OwnL K H Z (xs++[x]) 0 (ws++[v]) []
 | [],ws,h,o=>by
  rw [OwnL] at h;obtain ⟨rfl,_⟩:=h;rw [JE,JE,OwnL];exact ⟨v,[],[],[],rfl,rfl,(λ _ z=>nomatch z),o,by rw [OwnL];exact ⟨rfl,rfl⟩⟩
 | y::xs,ws,h,o=>by
  rw [OwnL] at h;obtain ⟨u,r,f1,f2,rfl,ef,_,o1,o2⟩:=h;obtain ⟨rfl,rfl⟩:f1=[]/\f2=[]:=by simpa using ef.symm
  rw [SR,SR,OwnL];exact ⟨u,r++[v],[],[],rfl,rfl,(λ _ z=>nomatch z),o1,OwnL.snoc0 o2 o⟩
theorem OwnL.rev {K:Frag}{H:Hp}{Z:Addr->Prop}:∀ {xs:List PV}{ws:List V},OwnL K H Z xs 0 ws []->OwnL K H Z xs.reverse 0 ws.reverse []
 | [],ws,h=>by
  rw [OwnL] at h;obtain ⟨rfl,_⟩:=h;rw [List.reverse_nil,OwnL];exact ⟨rfl,rfl⟩
 | y::xs,ws,h=>by
  rw [OwnL] at h;obtain ⟨u,r,f1,f2,rfl,ef,_,o1,o2⟩:=h;obtain ⟨rfl,rfl⟩:f1=[]/\f2=[]:=by simpa using ef.symm
  rw [OO,OO];exact OwnL.snoc0 (OwnL.rev o2) o1
def ZE {te:TE}{k:Nat}{p3 p4:Pos} (he:PE X a te):PE X (.Subscript a (.Slice none none (some (.UnaryOp .USub (.Constant (.int 1) k p3) p4)) p2) pos) (QN (Zb X.K) te):=by
 intro pins s σ H Q I h;refine Subscript_ (A5 (he pins s σ H _ I h) λ v s1 ⟨x,H1,I1,r1,q1⟩=>?_);have hp:=LF (UR (pos:=p4) VU (Kg (X:=X) (i:=1) (j:=k) (pos:=p3)));have hn:PO X none Sh:=Sd;obtain ⟨l,xs,rfl,hq,q⟩ | ⟨z,rfl,hz,q⟩:=q1
 ·cases r1;refine wpAny_Slice (A5 (hn pins s1 σ H1 (λ o H'=>o=none/\H'=H1) I1 ⟨rfl,rfl⟩) λ vl s2 ⟨o2,H2,I2,p2',e2⟩=>?_);obtain ⟨rfl,rfl⟩:=e2;refine A5 (hn pins s2 σ H2 (λ o H'=>o=none/\H'=H2) I2 ⟨rfl,rfl⟩) λ vu s3 ⟨o3,H3,I3,p3',e3⟩=>?_;obtain ⟨rfl,rfl⟩:=e3;refine A5 (hp pins s3 σ H3 (λ o H'=>o=some (-1)/\H'=H3) I3 ⟨1,rfl,-1,rfl,rfl,rfl⟩) λ vk s4 ⟨o4,H4,I4,p4',e4⟩=>?_;obtain ⟨rfl,rfl⟩:=e4;have I5:Inv X pins σ H4 { s4 with heap:=s4.heap.push { cls:=.type "slice",data:=.fields #[vl,vu,vk] } }:=I4.kept (t':=s4.toks) λ b ob q=>CI _ q;obtain ⟨its,r,ht,hz⟩:=I5.list hq;have hlen:=r.length;show Aw (Av X.prog X.w) X.A (N9 a (.Slice none none (some (.UnaryOp .USub (.Constant (.int 1) k p3) p4)) p2) (.ref l) (.ref s4.heap.objs.size)) (EP X pins σ Q) X.xe { s4 with heap:=s4.heap.push { cls:=.type "slice",data:=.fields #[vl,vu,vk] } };refine tail_any (ops:=[.ref l,.ref s4.heap.objs.size]) ht.isList.typeIs slot_list_getitem.lookup ?_ (by with_unfolding_all rfl);refine wpAny_getItem_list_slice ht.isList (Heap.IsSliceOf.new ..) p2' p3' p4' (by simp) ?_ (by rw [C4] <;> omega);rw [PySem.W.krv_pick];refine ⟨.ref _,_,I5.laid (o:=.lst xs.reverse) (λ b ob q=>CI _ q) (AW _) ?_,rfl,q _ (I5.hok.fresh (AW _))⟩;refine ⟨by rw [EW];exact hz,its.reverse,0,X6 r,DF _ rfl⟩
 ·obtain ⟨tk,rfl⟩:=r1;refine wpAny_Slice (A5 (hn pins s1 σ H1 (λ o H'=>o=none/\H'=H1) I1 ⟨rfl,rfl⟩) λ vl s2 ⟨o2,H2,I2,p2',e2⟩=>?_);obtain ⟨rfl,rfl⟩:=e2;refine A5 (hn pins s2 σ H2 (λ o H'=>o=none/\H'=H2) I2 ⟨rfl,rfl⟩) λ vu s3 ⟨o3,H3,I3,p3',e3⟩=>?_;obtain ⟨rfl,rfl⟩:=e3;refine A5 (hp pins s3 σ H3 (λ o H'=>o=some (-1)/\H'=H3) I3 ⟨1,rfl,-1,rfl,rfl,rfl⟩) λ vk s4 ⟨o4,H4,I4,p4',e4⟩=>?_;obtain ⟨rfl,rfl⟩:=e4;cases p2';cases p3';cases p4' with
  | int _ u=>
   have I5:Inv X pins σ H4 { s4 with heap:=s4.heap.push { cls:=.type "slice",data:=.fields #[.none,.none,.int (-1) u] } }:=I4.kept (t':=s4.toks) λ b ob q=>CI _ q;show Aw (Av X.prog X.w) X.A (N9 a (.Slice none none (some (.UnaryOp .USub (.Constant (.int 1) k p3) p4)) p2) (.str z tk) (.ref s4.heap.objs.size)) (EP X pins σ Q) X.xe { s4 with heap:=s4.heap.push { cls:=.type "slice",data:=.fields #[.none,.none,.int (-1) u] } };refine tail_any (ops:=[.str z tk,.ref s4.heap.objs.size]) (typeIs_str _ z tk) PySem.F.slot_str_getitem.lookup ?_ (by with_unfolding_all rfl);refine wpAny_getItem_str_slice (l:=none) (u:=none) (st:=some (-1,u)) ⟨_,DF _ rfl,rfl,rfl⟩ rfl ?_;rw [zF];refine ⟨?_,.str _,H4,I5.tok _,⟨_,rfl⟩,q⟩;show z.cps.toList.reverse.toArray.size<=A2;have hz':z.cps.size<=A2:=hz;simpa using hz'
theorem ZL {k:Nat}{p3 p4:Pos} (hK:M.K=X.K) (ha:PE X a (tE M f vs)):PE X (.Subscript a (.Slice none none (some (.UnaryOp .USub (.Constant (.int 1) k p3) p4)) p2) pos) (tE M (Ao BS f) vs):=by
 refine BW (ZE ha) λ σ H Q h=>K8 (λ x d z c v H fps f1 Q ho o1 nz zd lf=>?_) h;cases x with
 | lst xs=>
  cases ho;obtain ⟨q,us,rfl,hs,ol⟩:=(cold o1 λ a ha=>nz a ha).coldL;exact .inl ⟨q,us,rfl,.inl (.inl hs),λ l hl=>IZ lf (OwnL.rev ol) hl⟩
 | str z=>
  dsimp only [BS] at ho;split at ho
  ·rename_i hl;cases ho;rw [Own] at o1;exact .inr ⟨z,o1.1,hl,Xm lf⟩
  ·cases ho
 | _=>cases ho
end
section
variable {M:Fm}{fa:Fa}{vs:List Nat}
def YZ (K:Frag) (F:Fn):Sp:=λ ws H Q _=>∃ x0 v0 fp0,ws=[v0]/\Own K H (λ _=>True) x0 om v0 fp0/\(match F [x0] with
 | .ok (y,_,_)=>Jd y=true/\∀ v H',Cs (λ a=>a∈fp0) H H'->(∀ a,H a≠none->H' a≠none)->Own K H' (λ _=>True) y om v []->Q v H'
 | _=>False)
end
section
variable {X:Cx}{M:Fm}{f g:Fx}{vs vs':List Nat}{σ:St}{H:Hp}{Q:VK}
end
section
variable {pg:AD}{wd:AB}{Ar:Bc}{Er:Ae->Ak->Prop}{st:Ak}
end
section
variable {X:Cx}{M:Fm}{f:Fx}{vs:List Nat}{a:Expr}{pos p p2 pos2:Pos}
end
theorem Um:∀ f n r:Nat,minRun' f n r<=n + r
 | 0,n,r=>AW _
 | f + 1,n,r=>by
  rw [minRun'_succ];split
  ·exact AW _
  ·have:=Um f (n / 2) (max r (n % 2))
   omega
section
variable {prog:AD}{w:AB}{A:Bc}{E:Ae->Ak->Prop}{s:Ak}{a₀:Array Keyed}
def zC {z:SortSt}{R:Option Nat->SortSt->Prop} (hk:IntKeys a₀) (h1:1<=a₀.size) (b:SBase a₀ z) (up:SortedTo (arrOf z) a₀.size) (hR:R (some a₀.size) z):wpS (Av prog w) A E s (countRun' 0 a₀.size) R z:=by
 rw [countRun0_eq];refine Iy (wpS_ascLoop hk (AW _) (AW 1) h1 b (λ i j hij hj=>up i j hij (by omega)) λ n q1 q2 _ q3=>?_);dsimp only;have en:n=a₀.size:=by
  rcases q3 with e | e
  ·exact e
  ·by_cases hn:n=a₀.size
   ·exact hn
   ·have:=up (n - 1) n (by omega) (by omega)
    omega
 subst en;rw [if_pos (beq_self_eq_true _)];exact wpS_pure hR
def zE {z:SortSt}{R:Unit->SortSt->Prop} (hk:IntKeys a₀) (b:SBase a₀ z) (h1:1<=a₀.size) (up:SortedTo (arrOf z) a₀.size) (hR:∀ z',SDone a₀ z'->R () z'):wpS (Av prog w) A E s sortRuns' R z:=by
 rw [sortRuns'_eq];refine Iy (wpS_get ?_);dsimp only;have lr:=Um a₀.size a₀.size 0;simp only [b.size];generalize minRun' a₀.size a₀.size 0=mr at lr;refine Iy (wpS_mono (wpS_forRange (I:=λ x c z'=>(x=0/\c=(none,0)/\z'=z)\/(1<=x/\c=(none,a₀.size)/\SDone a₀ z')) (Q:=λ c z'=>c=(none,a₀.size)/\SDone a₀ z') ?st ?en (.inl ⟨rfl,rfl,rfl⟩)) ?po)
 case en=>
  rintro c z' (⟨hx,_,_⟩ | ⟨_,hc,hD⟩)
  ·omega
  ·exact ⟨hc,hD⟩
 case st=>
  rintro x c z' _ hx (⟨rfl,rfl,rfl⟩ | ⟨_,rfl,hD⟩)
  ·dsimp only;rw [if_neg (by omega)];simp only [SG,DS];refine Iy (zC hk h1 b up ?_);dsimp only;rw [if_neg (by omega)];refine Iy (wpS_get ?_);have hb:(pendingOf z').back?=none:=by rw [b.pend];rfl
   rw [hb];dsimp only;exact Iy (wpS_modify (wpS_pure (.inr ⟨by omega,rfl,b.done up⟩)))
  ·dsimp only;rw [if_pos (AW _)];exact wpS_pure ⟨rfl,hD⟩
 case po=>
  rintro c z' ⟨rfl,hD⟩;dsimp only;refine Iy (wpS_mono (wpS_forRange (I:=λ _ c y=>y=z'/\c=(none,())) (Q:=λ c y=>y=z'/\c=(none,())) ?_ (λ _ _ hh=>hh) ⟨rfl,rfl⟩) ?_)
  ·rintro x c y _ _ ⟨rfl,rfl⟩;refine Iy (wpS_get ?_);rw [if_pos (by rw [hD.2.2.1];exact AW 1)];exact wpS_pure ⟨rfl,rfl⟩
  ·rintro c y ⟨rfl,rfl⟩;exact wpS_pure (hR _ hD)
end
def kE {us:List Ae}{ns:List Int} (hI:EK us ns) (up:ns.Pairwise (·<=·)):SortedTo (Jm us) (Jm us).size:=by
 have en:=hI.nums;intro i j hij hj;have hl:=pairsOf_size us;have q:∀ m,m < us.length->K (Jm us) m=(us.map numOf).getD m 0:=λ m hm=>by
  rw [K_eq (by omega)];simp [Jm,Mu,hm]
 rw [q i (by omega),q j (by omega),en];have ll:ns.length=us.length:=by rw [<- en,Ax]
 rcases SF i j with z | z
 ·have:=(List.pairwise_iff_getElem.mp up) i j (by omega) (by omega) z
  simpa [Mu,show i < ns.length by omega,show j < ns.length by omega] using this
 ·rw [show i=j by omega];exact Hy _
section
variable {prog:AD}{w:AB}{A:Bc}{E:Ae->Ak->Prop}{s:Ak}
theorem zN {a:Addr}{us:List Ae}{ns:List Int}{n:Nat}{P:Fin->Ak->Prop} (ho:s.heap.get? a=some (Bo "list" us.toArray n)) (hI:EK us ns) (up:ns.Pairwise (·<=·)) (h1:2<=us.length) (hz:us.length<=A2)
  (h:∀ (out:Array Ae) (ms:List Int),EK out.toList ms->ms.Perm ns->ms.Pairwise (·<=·)->P (.done (.ret .none)) { s with heap:=sortedHeap s.heap a us out }):Aw (Av prog w) A (vf2.«list.sort» ⟨[.ref a],[]⟩) P E s:=by
 rw [Qs];have la:=Bn ho;refine A4 (listItems_at ho rfl ?_);refine A4 (Kz ho rfl ?_ (by simpa using hz));obtain ⟨e1,oa⟩:∃ e1,(s.heap.update a (C7 λ _=>#[])).get? a=some (Bo "list" #[] e1):=⟨_,Qq ho (λ _=>#[])⟩
 refine A4 (Kw oa rfl ?_);refine A4 (Qm ?_);refine A4 (K0 ?_);refine GK ?_;have ob:(((s.heap.update a (C7 λ _=>#[])).push (Bo "tuple" us.toArray 0)).push (Bo "list" #[] 0)).get? a=some (Bo "list" #[] e1):=by
  rw [K2 _ _ _ (by rw [Kv,Hn];exact Cc (IJ la)),K2 _ _ _ (by rw [Hn];exact Cc la)];exact oa
 show Aw (Av prog w) A _ P E { s with heap:=((s.heap.update a (C7 λ _=>#[])).push (Bo "tuple" us.toArray 0)).push (Bo "list" #[] 0) };dsimp only;have lz:us.toArray.size=us.length:=by simp
 rw [if_neg (by omega),if_neg (by omega)];have dn:∀ z':SortSt,SDone (Jm us) z'->P (.done (.ret .none)) { s with heap:=sortedHeap s.heap a us ((arrOf z').map (·.2)) }:=λ z' d=>by
  obtain ⟨ms,m1,m2,m3⟩:=sorted_out hI d.1 d.2.2.2;exact h _ ms m1 m2 m3
 match us,h1,hI,up,lz,ob,dn,hz with
 | u1::u2::ur,_,hI,up,lz,ob,dn,hz=>
  rw [keyKind_ints hI];refine A4 (Bw ?_);refine A4 (Fp (zE (a₀:=Jm (u1::u2::ur)) (z:=SortSt.mk' oneType' ((u1::u2::ur).toArray.zip (u1::u2::ur).toArray) #[] 7 none) (R:=λ _ z'=>SDone (Jm (u1::u2::ur)) z') hI.intKeys ⟨Array.Perm.refl _,rfl,rfl,rfl⟩ (by rw [pairsOf_size];simp) (kE hI up) λ z' d=>d) ?_ λ _ _ e=>e);rintro ⟨⟨⟩,z'⟩ y ⟨rfl,d⟩;dsimp only;refine A4 (Kw ob rfl ?_);refine A4 (Kz ob rfl ?_ (hsz2:=by refine CA (SH ((Array.size_map ..).trans (d.1.size_eq.trans (pairsOf_size _)))) ?_;omega));rw [d.2.1];simp only [bne_self_eq_false,JH,if_false];exact Bw (dn z' d)
def vO {l:Addr}{us:List Ae}{ns:List Int}{Q:Ae->Ak->Prop} (hl:s.heap.IsList l us.toArray) (hI:EK us ns) (up:ns.Pairwise (·<=·)) (h1:2<=us.length) (hz:us.length<=A2)
  (h:∀ (out:Array Ae) (ms:List Int),EK out.toList ms->ms.Perm ns->ms.Pairwise (·<=·)->Q (.ref (s.heap.objs.size + 1)) { s with heap:=Jn s.heap us out }):Aw (Av prog w) A (call (.builtin "sorted") [.ref l]) Q E s:=by
 refine QD kind_sorted plain_sorted entry_sorted (args_sorted1 _) ?_;unfold vf2.«sorted»;refine A4 (m:=checkCount "sorted" 1 1 _) (Bw ?_);refine A4 (collect_list hl ?_ hz);refine A4 (K0 ?_);have lz:((s.heap.push (Bo "list" #[] 0)).update s.heap.objs.size (C7 (·++us.toArray))).objs.size=s.heap.objs.size + 1:=by
  rw [Hn,Kv]
 have oL:(((s.heap.push (Bo "list" #[] 0)).update s.heap.objs.size (C7 (·++us.toArray))).push (Bo "list" us.toArray 0)).get? (s.heap.objs.size + 1)=some (Bo "list" us.toArray 0):=by
  rw [<- lz];exact DF _ rfl
 show Aw _ _ _ _ _ { s with heap:=((s.heap.push (Bo "list" #[] 0)).update s.heap.objs.size (C7 (·++us.toArray))).push (Bo "list" us.toArray 0) };rw [lz];refine A4 (GK (NC Ql ⟨_,oL,rfl⟩ Qp (zN oL hI up h1 hz λ out ms a1 a2 a3=>⟨_,rfl,?_⟩) (Qj _)));exact Bw ⟨_,rfl,h out ms a1 a2 a3⟩
end
def ins (a:Int):List Int->List Int
 | []=>[a]
 | b::r=>if a<=b then a::b::r else b::ins a r
def I0:List Int->List Int
 | []=>[]
 | a::r=>ins a (I0 r)
theorem PL (a:Int):∀ l,(ins a l).Perm (a::l)
 | []=>.refl _
 | b::r=>by
  unfold ins;split
  ·exact .refl _
  ·exact ((PL a r).cons b).trans (.swap a b r)
theorem Pt:∀ l,(I0 l).Perm l
 | []=>.refl _
 | a::r=>(PL a _).trans ((Pt r).cons a)
theorem V2 (a:Int):∀ l:List Int,l.Pairwise (·<=·)->(ins a l).Pairwise (·<=·)
 | [],_=>by simp [ins]
 | b::r,h=>by
  rw [jh8] at h;unfold ins;split
  ·rename_i hab;refine jh8.mpr ⟨λ c hc=>?_,jh8.mpr h⟩;rcases ja9.mp hc with rfl | hc
   ·exact hab
   ·exact KJ hab (h.1 c hc)
  ·rename_i hab;refine jh8.mpr ⟨λ c hc=>?_,V2 a r h.2⟩;rcases ja9.mp ((PL a r).mem_iff.mp hc) with rfl | hc
   ·omega
   ·exact h.1 c hc
theorem VN:∀ l:List Int,(I0 l).Pairwise (·<=·)
 | []=>.nil
 | a::r=>V2 a _ (VN r)
theorem VH:∀ {l l':List Int},l.Perm l'->l.Pairwise (·<=·)->l'.Pairwise (·<=·)->l=l'
 | [],l',p,_,_=>(List.nil_perm.mp p).symm
 | a::r,[],p,_,_=>by simpa using p.length_eq
 | a::r,b::r',p,h,h'=>by
  rw [jh8] at h h';have e:a=b:=by
   have h1:=p.mem_iff.mp (A9 (a:=a) (l:=r));have h2:=p.mem_iff.mpr (A9 (a:=b) (l:=r'));rcases ja9.mp h1 with z | z
   ·exact z
   ·rcases ja9.mp h2 with y | y
    ·exact y.symm
    ·exact Yi (h.1 b y) (h'.1 a z)
  subst e;rw [VH (List.perm_cons a |>.mp p) h.2 h'.2]
theorem PM:∀ {ns:List Int}{us:List Ae},Vals (ns.map V.int) us->EK us ns
 | [],_,.nil=>.nil
 | n::r,_,.cons h t=>by
  obtain ⟨k,rfl⟩:=h;exact .cons _ _ (PM t)
theorem Xo:∀ {us:List Ae}{ns:List Int},EK us ns->Vals (ns.map V.int) us
 | _,_,.nil=>.nil
 | _,_,.cons _ _ t=>.cons ⟨_,rfl⟩ (Xo t)
section
variable {X:Cx}{M:Fm}{fa:Fa}{vs:List Nat}{e:Expr}{es:List Expr}{pos p:Pos}
def Rh (ns:List Int):Prop:=ns.length < 64\/(ns.Pairwise (·<=·)/\ns.length<=A2)
instance (ns:List Int):Decidable (Rh ns):=inferInstanceAs (Decidable (_\/_))
def jA:CallR X (.builtin "sorted") (λ xs H Q=>∃ q ns,xs=[.ref q]/\BG X.K H q (ns.map V.int)/\Rh ns/\∀ l,H l=none->Q (.ref l) (As H l (.lst ((I0 ns).map V.int)))):=by
 intro pins s σ H xs us Q I rv h;obtain ⟨q,ns,rfl,hq,hl,k⟩:=h;obtain ⟨u,rfl,rx⟩:=Hf rv;cases rx;obtain ⟨its,r,pl,hz⟩:=I.list hq;have hlen:=r.length;rw [Ax] at hlen;have go:∀ (out:Array Ae) (ns':List Int),EK out.toList ns'->ns'.Perm ns->ns'.Pairwise (·<=·)->EP X pins σ Q (.ref (s.heap.objs.size + 1)) { s with heap:=Jn s.heap its out }:=λ out ns' a1 a2 a3=>by
  obtain ⟨c,hc⟩:=sortedAll_at s.heap its out;have e1:ns'=I0 ns:=VH (a2.trans (Pt ns).symm) a3 (VN ns);subst e1;refine ⟨.ref _,_,I.laid (h':=Jn s.heap its out) (t':=s.toks) (o:=.lst ((I0 ns).map V.int)) (λ b o e=>sortedAll_old e) (Mv _) ?_,rfl,k _ (I.hok.fresh (Mv _))⟩;refine ⟨by rw [Ax,(Pt ns).length_eq];exact hl.elim (λ h=>CA (OG h) (by decide)) (·.2),out.toList,c,Xo a1,hc⟩
 by_cases h64:ns.length < 64
 ·exact sorted_ints pl.isList (PM r) (by omega) go
 ·obtain ⟨up,hz'⟩:=hl.resolve_left h64;exact vO pl.isList (PM r) up (by omega) (by omega) go
def Rt:List (PV×Nat)->Option (PV×Nat)
 | [(.lst xs,_)]=>match Ha xs with
  | some ns=>if Rh ns then some (.lst ((I0 ns).map PV.int),om) else none
  | none=>none
 | _=>none
theorem Xe {K:Frag}{H:Hp}{Z:Addr->Prop}:∀ ns:List Int,OwnL K H Z (ns.map PV.int) 0 (ns.map V.int) []
 | []=>by rw [Dq,Dq,OwnL];exact ⟨rfl,rfl⟩
 | n::r=>by
  rw [Bf,Bf,OwnL];exact ⟨_,_,[],[],rfl,rfl,(λ _ z=>nomatch z),by rw [Own];exact ⟨rfl,rfl⟩,Xe r⟩
theorem W2:∀ ns:List Int,ID (ns.map PV.int)=true
 | []=>rfl
 | n::r=>by
  rw [Bf];exact W2 r
def DR:Int->List Int->Int
 | n,[]=>n
 | n,m::r=>DR (if m > n then m else n) r
theorem XB:∀ (r:List Int) (n:Int),DR n r∈n::r
 | [],n=>A9
 | m::r,n=>by
  have q:=XB r (if m > n then m else n);show DR (if m > n then m else n) r∈_;rcases ja9.mp q with z | z
  ·rw [z];split <;> simp
  ·simp [z]
theorem Wr:∀ (r:List Int) (n:Int),∀ a∈n::r,a<=DR n r
 | [],n,a,h=>by
  have e:a=n:=by simpa using h
  rw [e];exact Hy _
 | m::r,n,a,h=>by
  show a<=DR (if m > n then m else n) r;have q:=Wr r (if m > n then m else n);have q1:=q _ A9;have q2:n<=(if m > n then m else n)/\m<=(if m > n then m else n):=by split <;> omega
  simp only [ja9] at h;rcases h with z | z | z
  ·omega
  ·omega
  ·exact q a (A8 _ z)
def kZ (hc:X.calm=true):CallR X (.builtin "max") (λ xs H Q=>∃ (q:Addr) (n:Int) (r:List Int),xs=[.ref q]/\BG X.K H q ((n::r).map V.int)/\Q (.int (DR n r)) H):=by
 intro pins s σ H xs us Q I rv h;obtain ⟨q,n,r,rfl,hq,k0⟩:=h;obtain ⟨u,rfl,rx⟩:=Hf rv;cases rx;obtain ⟨its,rv2,pl,hz⟩:=I.list hq;obtain ⟨zs,rfl,ez⟩:=Na rv2;have e:(zs.map λ p=>Value.int p.1 p.2).toArray=FV zs.toArray:=by simp [FV]
 rw [e] at pl;have hsz:zs.toArray.size=zs.length:=by simp
 have h0:0 < zs.length:=by
  cases zs with
  | nil=>cases ez
  | cons _ _=>simp
 refine max_intList (I.ok.hd hc) pl.isList (by simpa using h0) λ v h' tk hv k=>?_;obtain ⟨l1,l2⟩:=argBest_gt (Dc zs.toArray) (zs.toArray.size - 1);obtain ⟨t,rfl⟩:=N4 hv;generalize argBest (λ i j=>decide (Dc zs.toArray i > Dc zs.toArray j)) (zs.toArray.size - 1)=b at *;have num:∀ j,(hj:j < zs.length)->Dc zs.toArray j=zs[j].1:=λ j hj=>by unfold Dc;simp [hj]
 have hm:Dc zs.toArray b∈n::r:=by
  rw [num b (by omega),<- ez];exact je7.mpr ⟨_,Fy _,rfl⟩
 have hg:∀ a∈n::r,a<=Dc zs.toArray b:=λ a ha=>by
  rw [<- ez] at ha;obtain ⟨z,hz',rfl⟩:=je7.mp ha;obtain ⟨j,hj,rfl⟩:=KR hz';rw [<- num j hj];exact l2 j (by omega)
 have eb:Dc zs.toArray b=DR n r:=Yi (Wr r n _ hm) (hg _ (XB r n));exact ⟨.int _,H,I.kept (t':=tk) k,⟨t,rfl⟩,by rw [eb];exact k0⟩
def DL:List (PV×Nat)->Option (PV×Nat)
 | [(.lst xs,_)]=>match Ha xs with
  | some (n::r)=>some (.int (DR n r),om)
  | _=>none
 | xs=>OA (λ i j=>if j > i then j else i) xs
def zJ (hc:X.calm=true) (hg:Gl X "max") (hm:X.mg "max" = none) (ha:PA X (e::es) (tL M fa vs)) (he:AN (e::es) X.env=(false,eval e X.env)::AN es X.env) (hpl:(DD pos (AN es X.env)).any (·.1)=false):
  PE X (.Call (.Name "max" p) (e::es) [] pos) (tE M (Al DL fa) vs):=by
 refine BW (GZ ((kY hc).or (kZ hc)) hg hm rfl ha (he:=he) (hpl:=hpl)) λ σ H Q h=>Ks (λ xs z c ws H fps fp Q ho tm nz zd lf=>?_) h;unfold DL at ho;split at ho
 ·rename_i xs d;split at ho
  ·rename_i n r eb;cases ho;obtain ⟨v,r',f1,f2,rfl,rfl,_,o1,h2⟩:=tm;obtain ⟨rfl,rfl⟩:=h2;obtain ⟨q,us,rfl,hs,ol⟩:=(cold (fp:=f1) o1 λ a ha=>nz a (Bq _ ha)).coldL
   have:=Le eb ol
   subst this;exact .inr ⟨q,n,r,rfl,.inl (.inl hs),EF lf⟩
  ·cases ho
 ·exact .inl (Xl ho tm lf)
end
section
variable {X:Cx}{M:Fm}{H:Hp}{σ:St}
variable {e:Expr}{es:List Expr}{fa:Fa}{vs:List Nat}{p pos:Pos}
end
open PySem PySem.Spec PyProof.Rows L2 PySem.Builtin PySem.Builtin.ObjectAttr PySem.Builtin.Getset_descriptor
section
variable {prog:AD}{w:AB}{A:Bc}{E:Ae->Ak->Prop}{K:Frag}{h:Heap}{g:Array GenState}{d:Drawn}{t:Nat}{os:OsState}{a C:Addr}{oe:Obj}
def qv {R:Result->Ak->Prop} (X:K.In h) (he:h.get? a=some oe) (hc:oe.cls=.ref C) (hm:GJ K C (.type "object")=some true) (hq:R (.ok (.ret (.ref C))) ⟨h,g,d,t,os⟩):
  Iu (Av prog w) A (.call (.builtin "getset_descriptor.__get__") ⟨[.builtin "object.__class__",.ref a,.ref C],[]⟩) R ⟨h,g,d,t,os⟩:=by
 have ty:PySem.W.Looks (Av prog w) h (typeOf (.ref a)) (.ref C):=hc ▸ (PySem.W.Looks.ld he).andThen .now;have mr:=PySem.W.looks_mroIn (M:=Av prog w) X hm;have pl:=PySem.W.KF.slot_gs.plain;have en:=PySem.W.KF.entry_gs;refine codeAny_call_builtin pl en (PySem.W.KF.slot_gs.check _ _ _ _ _ _ _ _
  PySem.W.KF.type_class (PySem.W.KF.args_gs _ _ _) ?_)
 unfold vf2.«getset_descriptor.__get__»;unfold descrGet;rw [PySem.W.dga_obj];refine A4 (Bw ?_);unfold descrGetter descrCheckInstance;unfold descrNameAndClass isInstance;simp only [PySem.W.KF.owner_class]
 repeat lk
 refine ⟨Code.quiet_builtin _ (by decide +kernel),Qo PySem.W.KF.entry_class ?_⟩;unfold vf2.«object.__class__»;unfold shownTypeOf
 repeat lk
 exact hq
def jE {tk:Tok}{Q:Fin->Ak->Prop} (X:K.In h) (he:h.get? a=some oe) (hc:oe.cls=.ref C) (hm:GJ K C (.type "object")=some true) (hl:El K (.ref C) "__class__" = some (some (.builtin "object.__class__")))
  (hq:Q (.done (.ret (.ref C))) ⟨h,g,d,t,os⟩):Aw (Av prog w) A (vf2.«object.__getattribute__» ⟨[.ref a,.str "__class__" tk],[]⟩) Q E ⟨h,g,d,t,os⟩:=by
 have hT5:(⟨h,g,d,t,os⟩:Ak).TypeIs (.builtin "object.__class__") "getset_descriptor" := F.typeOf_object_class;have f5:=F.typeOf_object_class;have f6:=F.slot_gs_get.lookup;have f7:=F.slot_gs_set.lookup;have L1:=Q2 (M:=Av prog w) X hl
 repeat (any_goals (first | assumption | (with_reducible refine Qz he ?_;rw [hc]) | with_reducible refine L1.at ?_ | wp_step))
 refine qv X he hc hm ?_
 repeat (any_goals (first | assumption | wp_step))
def jD {nameV:Ae}{Q:Unit->Ak->Prop}{M:Model} (X:K.In h) (he:h.get? a=some oe) (hc:oe.cls=.ref C) (hb:GJ K C (.type "BaseException")=some true) (hq:Q () ⟨h,g,d,t,os⟩):
  Aw M A (checkBuiltinCall "BaseException.__getattribute__" ⟨[.ref a,nameV],[]⟩) Q E ⟨h,g,d,t,os⟩:=by
 have hk:builtinKind "BaseException.__getattribute__" = some .slot:=by decide +kernel
 have hsp:splitId "BaseException.__getattribute__" = some ("BaseException","__getattribute__"):=by decide +kernel
 have ha:=F.args_bexc_ga (.ref a) nameV;have L1:=PySem.W.looks_mroIn (M:=M) X hb;simp only [checkBuiltinCall,hk,hsp];refine A4 ?_;unfold isInstance
 repeat (first | (with_reducible refine Qz he ?_;rw [hc]) | with_reducible refine L1.at ?_ | wp_step)
 exact hq
def ZQ {tk:Tok}{Q:Ae->Ak->Prop} (X:K.In h) (he:h.get? a=some oe) (hc:oe.cls=.ref C) (hm:GJ K C (.type "object")=some true) (hb:GJ K C (.type "BaseException")=some true)
  (hl:El K (.ref C) "__class__" = some (some (.builtin "object.__class__"))) (hga:El K (.ref C) "__getattribute__" = some (some (.builtin "BaseException.__getattribute__"))) (hgh:El K (.ref C) "__getattr__" = some none)
  (hq:Q (.ref C) ⟨h,g,d,t,os⟩):Aw (Av prog w) A (getAttrBy (.ref a) (.str "__class__" tk) false) Q E ⟨h,g,d,t,os⟩:=by
 have f3:=PySem.F.attrBase_ValueError.ga.bind (.ref a);have L1:=Q2 (M:=Av prog w) X hga;have L2':=Q2 (M:=Av prog w) X hgh;have hx2:(Value.builtin "BaseException.__getattribute__" == Value.builtin "object.__getattribute__")=false:=by decide +kernel
 have hx1:(onTheHeap (Value.ref C) && Value.builtin "BaseException.__getattribute__" == Value.builtin "object.__getattribute__")=false:=by rw [hx2];rfl
 repeat (any_goals (first | assumption | (with_reducible refine Qz he ?_;rw [hc]) | with_reducible refine L1.at ?_ | with_reducible refine L2'.at ?_ | wp_step))
 refine codeAny_call_builtin PySem.F.attrBase_ValueError.ga.plain F.entry_bexc_ga (jD X he hc hb (jE X he hc hm hl ?_))
 repeat (any_goals (first | assumption | wp_step))
def xN {Q:Option Ae->Ak->Prop} (X:K.In h) (he:h.get? a=some oe) (hc:oe.cls=.ref C) (hm:GJ K C (.type "object")=some true) (hb:GJ K C (.type "BaseException")=some true)
  (hl:El K (.ref C) "__class__" = some (some (.builtin "object.__class__"))) (hga:El K (.ref C) "__getattribute__" = some (some (.builtin "BaseException.__getattribute__"))) (hgh:El K (.ref C) "__getattr__" = some none)
  (hq:Q (some (.ref C)) ⟨h,g,d,t + 1,os⟩):Aw (Av prog w) A (getAttr? (.ref a) "__class__") Q E ⟨h,g,d,t,os⟩:=by
 unfold getAttr?;unfold getAttrBy?
 repeat (any_goals (first | assumption | with_reducible apply ZQ X he hc hm hb hl hga hgh | wp_step))
end
def CU (K:Frag) (d:Nat) (u:Ae):Bool:=(u == .type "ValueError" && d == 0) || (match DA K d with
 | some D=>u == .ref D
 | none=>false)
section
variable {K:Frag}{a C:Addr}{c d:Nat}{u:Ae}
def MY (t:Cm K=true) (e:DA K c=some C):Ku K C=true/\EM K (.type "NoneType") (.ref C)=some false/\EM K (.ref C) (.type "ValueError")=some true/\∀ d D,DA K d=some D->EM K (.ref C) (.ref D)=some (Fz c d):=by
 unfold Cm at t;rw [A7] at t;have h:=jc1.mp t.2 c (jc6.mpr (WW e));rw [e] at h;dsimp only at h;simp only [A7] at h;refine ⟨h.1.1.1,eq_of_beq h.1.1.2,eq_of_beq h.1.2,λ d D ed=>?_⟩;have h2:=jc1.mp h.2 d (jc6.mpr (WW ed));rw [ed] at h2;exact eq_of_beq h2
def Wk (t:Cm K=true) (e:DA K c=some C) (hu:CU K d u=true):EM K (.ref C) u=some (Fz c d):=by
 obtain ⟨_,_,h3,h4⟩:=MY t e;unfold CU at hu;rw [GQ] at hu;rcases hu with hu | hu
 ·rw [A7] at hu;rw [eq_of_beq hu.1,h3,eq_of_beq hu.2];simp [Fz]
 ·split at hu
  ·rename_i D hD;rw [eq_of_beq hu];exact h4 d D hD
  ·cases hu
def Wl (t:Cm K=true) (hu:CU K d u=true):EM K (.type "NoneType") u=some false:=by
 unfold CU at hu;rw [GQ] at hu;rcases hu with hu | hu
 ·rw [A7] at hu;rw [eq_of_beq hu.1];unfold Cm at t;rw [A7] at t;exact eq_of_beq t.1
 ·split at hu
  ·rename_i D hD;rw [eq_of_beq hu];exact (MY t hD).2.1
  ·cases hu
def FN (K:Frag):List Nat->List Ae->Bool
 | [],[]=>true
 | d::ds,u::us=>CU K d u && FN K ds us
 | _,_=>false
theorem Xg (t:Cm K=true) (e:DA K c=some C):∀ {ds:List Nat}{us:List Ae},FN K ds us=true->NA K (.ref C) us=some (ds.any (Fz c))
 | [],[],_=>rfl
 | [],_::_,h=>by cases h
 | _::_,[],h=>by cases h
 | d::ds,u::us,h=>by
  unfold FN at h;rw [A7] at h;unfold NA;rw [Wk t e h.1,OH];cases Fz c d with
  | true=>rfl
  | false=>exact Xg t e h.2
theorem Xh (t:Cm K=true):∀ {ds:List Nat}{us:List Ae},FN K ds us=true->NA K (.type "NoneType") us=some false
 | [],[],_=>rfl
 | [],_::_,h=>by cases h
 | _::_,[],h=>by cases h
 | d::ds,u::us,h=>by
  unfold FN at h;rw [A7] at h;unfold NA;rw [Wl t h.1];exact Xh t h.2
def kP (g:Ku K C=true):∃ c0 dd cd sl,K.lookup C=some ⟨c0,dd,.cls cd,sl⟩:=by
 unfold Ku at g;simp only [A7] at g;have h:=g.1.1.1.1.1;unfold PySem.W.clsIn at h;split at h
 ·rename_i q;exact ⟨_,_,_,_,q⟩
 ·cases h
def Xf (g:Ku K C=true):PySem.W.KitX K (.ref a) (.ref C) (Mc a C):=by
 obtain ⟨c0,dd,cd,sl,hl⟩:=kP g;unfold Ku at g;simp only [A7] at g;obtain ⟨⟨⟨⟨⟨_,g1⟩,g2⟩,g3⟩,g4⟩,g5⟩:=g;refine ⟨λ M h _ p=>?_,λ M h X _=>?_,λ h tp dd' its n sl' X htp=>?_,λ {prog w A E Q s} X p k=>?_⟩
 ·obtain ⟨o,vs,h1,h2,_⟩:=p;exact h2 ▸ (PySem.W.Looks.ld h1).andThen .now
 ·intro A' Q' E' s' kp q;unfold isType;unfold loadHead;exact A4 (wpAny_loadPart (kp _ _ (X _ _ hl)) (Bw q))
 ·cases hb:(Value.ref C == Value.ref tp) with
  | false=>rfl
  | true=>
   have ec:C=tp:=Value.ref.inj (eq_of_beq hb);have z:=X _ _ hl;rw [ec,htp] at z;cases z
 ·obtain ⟨o,vs,h1,h2,_⟩:=p;obtain ⟨hp,gg,dr,tt,oo⟩:=s;exact xN X h1 h2 (eq_of_beq g1) (eq_of_beq g2) (eq_of_beq g3) (eq_of_beq g4) (eq_of_beq g5) k
end
section
variable {X:Cx}
def MI (K:Frag) (v:V) (H:Hp) (Q:VK) (ds:List Nat):Prop:=(v=.non/\Q (.bl false) H)\/∃ a C c,v=.ref a/\DA K c=some C/\H a=some (.ext (Mc a C))/\Q (.bl (ds.any (Fz c))) H
def Xc {pins:List (Addr×Obj)}{σ:St}{H:Hp}{s:Ak}{a C:Addr} (I:L2.Inv X pins σ H s) (h:H a=some (.ext (Mc a C))):Mc a C s.heap:=(I.hok a _ h).1
def kX (t:Cm X.K=true):CallR X (.builtin "isinstance") (λ xs H Q=>∃ v cv d,xs=[v,cv]/\(∀ u,RelV cv u->CU X.K d u=true)/\MI X.K v H Q [d]):=by
 intro pins s σ H xs us Q I r h;obtain ⟨v,cv,d,rfl,hcv,h⟩:=h;obtain ⟨u,w,rfl,r1,r2⟩:=Mo r;have hw:=hcv w r2;rcases h with ⟨rfl,q⟩ | ⟨a,C,c,rfl,hC,ha,q⟩
 ·cases r1;exact EN Qx I.kIn True.intro (Wl t hw) (λ z=>nomatch z) λ tk=>⟨.bl false,H,I.tok _,rfl,q⟩
 ·obtain rfl:u=Value.ref a:=r1;exact EN (Xf (MY t hC).1) I.kIn (Xc I ha) (Wk t hC hw) (λ z=>nomatch z) λ tk=>⟨.bl (Fz c d),H,I.tok _,rfl,by simpa using q⟩
def vX (t:Cm X.K=true):CallR X (.builtin "isinstance") (λ xs H Q=>∃ v p cvs ds,xs=[v,.ref p]/\H p=some (.tup cvs)/\(∀ us,Vals cvs us->FN X.K ds us=true)/\MI X.K v H Q ds):=by
 intro pins s σ H xs us Q I r h;obtain ⟨v,p,cvs,ds,rfl,hp,hcv,h⟩:=h;obtain ⟨u,w,rfl,r1,r2⟩:=Mo r;obtain rfl:w=Value.ref p:=r2;obtain ⟨_,its,rv,o,ho,hc,n,hd⟩:=I.hok p _ hp;have hi:=hcv its rv;have ho':s.heap.get? p=some ⟨.type "tuple",o.dict,.seq its.toArray n,o.slots⟩:=by
  rw [ho];obtain ⟨oc,od,oda,os⟩:=o;dsimp only at hc hd;rw [hc,hd]
 rcases h with ⟨rfl,q⟩ | ⟨a,C,c,rfl,hC,ha,q⟩
 ·cases r1;exact PySem.W.kia_tup Qx I.kIn True.intro ho' (Xh t hi) (λ z=>nomatch z) λ tk=>⟨.bl false,H,I.tok _,rfl,q⟩
 ·obtain rfl:u=Value.ref a:=r1;exact PySem.W.kia_tup (Xf (MY t hC).1) I.kIn (Xc I ha) ho' (Xg t hC hi) (λ z=>nomatch z) λ tk=>⟨.bl (ds.any (Fz c)),H,I.tok _,rfl,q⟩
end
section
variable {X:Cx}{M:Fm}{f g:Fx}{vs vs':List Nat}{e:Expr}{es:List Expr}{pos p:Pos}{σ:St}{H:Hp}{Q:VK}
def Ko (ds:List Nat) (x:PV) (_:Nat):Option (PV×Nat):=match x with
 | .exn c=>some (.bl (ds.any (Fz c)),om)
 | .non=>some (.bl false,om)
 | _=>none
theorem V3 {K:Frag}{x z:PV}{ds:List Nat}{d c:Nat}{v:V}{Z:Addr->Prop}{H H':Hp}{f1:List Addr} (ho:Ko ds x d=some (z,c)) (o1:Own K H Z x d v f1) (k:∀ a o,H a=some o->H' a=some o) (q:∀ b,z=.bl b->Q (.bl b) H'):MI K v H' Q ds:=by
 cases x with
 | exn n=>
  cases ho;rw [Own] at o1;obtain ⟨_,a,C,rfl,hC,ha⟩:=o1;exact .inr ⟨a,C,n,rfl,hC,k _ _ ha,q _ rfl⟩
 | non=>
  cases ho;rw [Own] at o1;obtain ⟨rfl,_⟩:=o1;exact .inl ⟨rfl,q _ rfl⟩
 | _=>cases ho
theorem Ur {ds:List Nat}{x z:PV}{d c:Nat} (ho:Ko ds x d=some (z,c)):∃ b,z=.bl b/\c=om:=by
 cases x with
 | exn n=>cases ho;exact ⟨_,rfl,rfl⟩
 | non=>cases ho;exact ⟨_,rfl,rfl⟩
 | _=>cases ho
def zH {cv:V}{d:Nat}{T':Str}{p1 p2:Pos} (t:Cm X.K=true) (hK:M.K=X.K) (ha:PE X e (tE M f vs)) (hg:Gl X "isinstance") (hm:X.mg "isinstance" = none) (hc:PE X (.Name T' p2) (tC cv)) (hcv:∀ u,RelV cv u->CU X.K d u=true)
  (hs1:AN [e,.Name T' p2] X.env=[(false,eval e X.env),(false,eval (.Name T' p2) X.env)]) (hs2:AN [Expr.Name T' p2] X.env=[(false,eval (.Name T' p2) X.env)]):
  PE X (.Call (.Name "isinstance" p1) [e,.Name T' p2] [] pos) (tE M (Ao (Ko [d]) f) vs):=by
 refine BW (GZ (kX t) hg hm rfl (Eh ha (Eh hc GG hs2) (by rw [hs1,hs2])) (he:=by rw [hs1,hs2]) (hpl:=by rw [hs2];rfl)) λ σ H Q h=>?_;refine K8 (r:=λ v H Q=>∃ x c n,[v,cv]=[x,c]/\(∀ u,RelV c u->CU X.K n u=true)/\MI X.K x H Q [n]) (λ x d' z c v H fps f1 Q ho o1 nz zd lf=>?_) h;obtain ⟨b,rfl,rfl⟩:=Ur ho;exact ⟨v,cv,d,rfl,hcv,by rw [<- hK];exact V3 ho o1 (λ _ _ h=>h) λ b' e=>by cases e;exact EH lf⟩
def U9 (cvs:List V):TA:=λ _ H Q=>Q cvs H
def kK {cvs:List V}{ds:List Nat}{p1 p2:Pos}{k:Nat} (t:Cm X.K=true) (hK:M.K=X.K) (ha:PE X e (tE M f vs)) (hg:Gl X "isinstance") (hm:X.mg "isinstance" = none) (hc:PA X es (U9 cvs)) (hl:cvs.length<=A2) (hcv:∀ us,Vals cvs us->FN X.K ds us=true)
  (hs1:AN [e,.Tuple es k p2] X.env=[(false,eval e X.env),(false,eval (.Tuple es k p2) X.env)]) (hs2:AN [Expr.Tuple es k p2] X.env=[(false,eval (.Tuple es k p2) X.env)]):
  PE X (.Call (.Name "isinstance" p1) [e,.Tuple es k p2] [] pos) (tE M (Ao (Ko ds) f) vs):=by
 refine BW (GZ (vX t) hg hm rfl (Eh ha (Eh (VA hc) GG hs2) (by rw [hs1,hs2])) (he:=by rw [hs1,hs2]) (hpl:=by rw [hs2];rfl)) λ σ H Q h=>?_;refine K8 (r:=λ v H Q=>cvs.length<=A2/\∀ q,H q=none->∃ x p' cvs' ds',[v,V.ref q]=[x,.ref p']/\As H q (.tup cvs) p'=some (.tup cvs')/\(∀ us,Vals cvs' us->FN X.K ds' us=true)/\MI X.K x (As H q (.tup cvs)) Q ds') (λ x d' z c v H fps f1 Q ho o1 nz zd lf=>?_) h;obtain ⟨b,rfl,rfl⟩:=Ur ho;refine ⟨hl,λ q hq=>⟨v,q,cvs,ds,rfl,BJ,hcv,?_⟩⟩;have kk:∀ a o,H a=some o->As H q (.tup cvs) a=some o:=λ a o h=>by rw [AM (λ z=>by rw [z,hq] at h;cases h)];exact h
 rw [<- hK];exact V3 ho o1 kk λ b' e=>by cases e;exact lf (.bl b) _ [] kk (by rw [Own];exact ⟨rfl,rfl⟩) (λ _ z=>nomatch z)
end
section
variable {X:Cx}{M:Fm}{a b:Expr}{f g:Fx}{fa:Fa}{vs vs':List Nat}{pos p:Pos}{σ:St}{H:Hp}{Q:VK}{e:Expr}{es:List Expr}
def Hx:List PV->Option (List Bh)
 | []=>some []
 | .int i::r=>(Hx r).map (.inl i::·)
 | .str x::r=>(Hx r).map (.inr x::·)
 | _=>none
theorem PN {K:Frag}{Z:Addr->Prop}:∀ {xs:List PV}{ws:List V}{d:Nat}{fp:List Addr}{k:List Bh},Hx xs=some k->OwnL K H Z xs d ws fp->ws=k.map kV
 | [],ws,d,fp,k,e,h=>by cases e;rw [OwnL] at h;exact h.1
 | .int i::r,ws,d,fp,k,e,h=>by
  obtain ⟨k',e1,rfl⟩:=jc2.mp e;rw [OwnL] at h;obtain ⟨v,s,f1,f2,rfl,ef,dj,h1,h2⟩:=h;rw [Own] at h1;rw [h1.1,PN e1 h2];rfl
 | .str i::r,ws,d,fp,k,e,h=>by
  obtain ⟨k',e1,rfl⟩:=jc2.mp e;rw [OwnL] at h;obtain ⟨v,s,f1,f2,rfl,ef,dj,h1,h2⟩:=h;rw [Own] at h1;rw [h1.1,PN e1 h2];rfl
 | .non::_,_,_,_,_,e,_=>by cases e
 | .bl _::_,_,_,_,_,e,_=>by cases e
 | .lst _::_,_,_,_,_,e,_=>by cases e
 | .tup _::_,_,_,_,_,e,_=>by cases e
 | .emp::_,_,_,_,_,e,_=>by cases e
 | .dko::_,_,_,_,_,e,_=>by cases e
 | .scr _::_,_,_,_,_,e,_=>by cases e
 | .dct _::_,_,_,_,_,e,_=>by cases e
 | .exn _::_,_,_,_,_,e,_=>by cases e
def BF (neg:Bool) (x:PV) (_:Nat) (y:PV) (_:Nat):Option (PV×Nat):=match x,y with
 | x,.lst ys=>(match Be 20 x,A3 (Be 20) ys with
  | some a,some bs=>some (.bl (neg^^bs.any λ b=>BK b a),om)
  | _,_=>none)
 | x,.tup ys=>(match Be 20 x,A3 (Be 20) ys with
  | some a,some bs=>some (.bl (neg^^bs.any λ b=>BK b a),om)
  | _,_=>none)
 | _,_=>none
def NZ (tp:Bool) (ys:List PV):PV:=match tp with
 | true=>.tup ys
 | false=>.lst ys
def YY (tp:Bool) (ys:List Br):Br:=match tp with
 | true=>.tuple ys
 | false=>.list ys
def J0 (K:Frag) (neg:Bool):R2:=λ v w H Q=>∃ tp x ys d e Z Z' f1 f2 a bs,Be 20 x=some a/\A3 (Be 20) ys=some bs/\Own K H Z x d v f1/\Own K H Z' (NZ tp ys) e w f2/\Q (.bl (neg^^bs.any λ b=>BK b a)) H
theorem VR {tp:Bool}{ys:List PV}{bs:List Br} (h:A3 (Be 20) ys=some bs):Be 21 (NZ tp ys)=some (YY tp bs):=by
 cases tp with
 | true=>
  show (A3 (Be 20) ys).map PyData.tuple=_;rw [h];rfl
 | false=>
  show (A3 (Be 20) ys).map PyData.list=_;rw [h];rfl
theorem qz (hu:X.A.units + 64 < C6):OpR X (Dy .In) (J0 X.K false):=by
 intro pins s σ H v w u u' Q I rx ry h;obtain ⟨tp,x,ys,d,e,Z,Z',f1,f2,a,bs,h1,h2,o1,o2,q⟩:=h;obtain ⟨as,ra⟩:=Gs I 20 x d v f1 u a h1 o1 rx;obtain ⟨bs',rb⟩:=Gs I 21 (NZ tp ys) e w f2 u' _ (VR h2) o2 ry;have l1:=FD 20 x a h1;have l2:=Kt (λ x D h=>FD 20 x D h) h2;have hm:X.A.units + 1 + min (DE bs) a.depth < C6:=by have:=ON (DE bs) a.depth;omega
 cases tp with
 | false=>exact SeqAt.in_list_reads rb ra l2.1 l1.1 hm ⟨.bl _,H,I,rfl,by simpa using q⟩
 | true=>exact SeqAt.in_tuple_reads rb ra l2.1 l1.1 hm ⟨.bl _,H,I,rfl,by simpa using q⟩
theorem vy (hu:X.A.units + 64 < C6):OpR X (Dy .NotIn) (J0 X.K true):=by
 intro pins s σ H v w u u' Q I rx ry h;obtain ⟨tp,x,ys,d,e,Z,Z',f1,f2,a,bs,h1,h2,o1,o2,q⟩:=h;obtain ⟨as,ra⟩:=Gs I 20 x d v f1 u a h1 o1 rx;obtain ⟨bs',rb⟩:=Gs I 21 (NZ tp ys) e w f2 u' _ (VR h2) o2 ry;have l1:=FD 20 x a h1;have l2:=Kt (λ x D h=>FD 20 x D h) h2;have hm:X.A.units + 1 + min (DE bs) a.depth < C6:=by have:=ON (DE bs) a.depth;omega
 cases tp with
 | false=>exact SeqAt.notIn_list_reads rb ra l2.1 l1.1 hm ⟨.bl _,H,I,rfl,by simpa using q⟩
 | true=>exact SeqAt.notIn_tuple_reads rb ra l2.1 l1.1 hm ⟨.bl _,H,I,rfl,by simpa using q⟩
def Xj {x y z:PV}{d e c:Nat}{v w:V}{fps:AR}{f1 f2 F:List Addr}{Z Z':Addr->Prop}{neg:Bool} (hK:M.K=X.K) (ho:BF neg x d y e=some (z,c)) (o1:Own M.K H Z x d v f1) (o2:Own M.K H Z' y e w f2) (lf:BQ M H fps vs F z c Q):J0 X.K neg v w H Q:=by
 unfold BF at ho;split at ho
 ·rename_i ys;split at ho
  ·rename_i a bs ea eb;cases ho;rw [hK] at o1;rw [hK] at o2;exact ⟨false,_,ys,d,e,Z,Z',f1,f2,a,bs,ea,eb,o1,o2,EH lf⟩
  ·cases ho
 ·rename_i ys;split at ho
  ·rename_i a bs ea eb;cases ho;rw [hK] at o1;rw [hK] at o2;exact ⟨true,_,ys,d,e,Z,Z',f1,f2,a,bs,ea,eb,o1,o2,EH lf⟩
  ·cases ho
 ·cases ho
def MF:Fx:=λ ρ=>.ok (.dct [],om,ρ)
def qV:PE X (.Dict [] [] pos) (tE M MF []):=by
 refine BW ka λ σ H Q h p hp=>?_;obtain ⟨ρ,fps,rep,q⟩:=h;refine q (.ref p) _ fps [p] (KD.grow (Fg hp)) Agr.refl (rep.grow (Fg hp)) ?_ ⟨λ a ha=>by rw [jc0.mp ha];exact hp,λ a ha=>by rw [jc0.mp ha];exact rep.nz hp⟩;rw [Own];exact ⟨p,rfl,.inr ⟨by decide,BJ,rfl⟩⟩
end
structure Sx where
 N:List Str
 sc:Bz
 ms:List Nat
 al:List (List Nat)
 Γ:List (Str×(Bool×Nat×Fn))
 Γm:List (Str×Fn)
 rz:Bool
 xc:List Nat
 pn:List Nat
def Sx.alF (S:Sx) (i:Nat):List Nat:=S.al.getD i []
def Sx.msF (S:Sx) (i:Nat):Bool:=S.ms.contains i
def DH (sc:Bz) (x:Str) (k:Dx):Bool:=sc.names.lookup x == some k
def Dw (sc:Bz) (x:Str):Bool:=DH sc x .local || DH sc x .cell || DH sc x .free
def JL (N:List Str) (x:Str):Option Nat:=N.findIdx? (·== x)
def Sx.slot (S:Sx) (x:Str):Option Nat:=if Dw S.sc x && !(x == ("__debug__" : Str)) && !(x == ("__classdict__" : Str)) then JL S.N x else none
def Sx.glob (S:Sx) (x:Str):Bool:=DH S.sc x .globalImplicit
structure XS (X:Cx) (P:AD) (w:AB) (K:Frag) (mg:Str->Option Ae) (base:Heap) (lvl:Nat) (S:Sx) (Wx:St->Nat->Hp->Prop):Prop where
 prog:X.prog=P
 w:X.w=w
 K:X.K=K
 mg:X.mg=mg
 base:X.base=base
 N:X.N=S.N
 sc:X.env.scope=S.sc
 calm:X.calm=true
 room:Room lvl X.A
 po:PassesOwn (Av X.prog X.w) X.A X.env X.xe
 ps:RW (Bi X.prog X.w X.K) X Wx
 rs:S.rz=true->VW X Wx
structure MS (M:Fm) (K:Frag) (S:Sx) (Wx:St->Nat->Hp->Prop):Prop where
 K:M.K=K
 ms:M.Ms=S.msF
 al:∀ i,i < S.N.length->M.al i=S.alF i
 als:∀ i,∀ j∈M.al i,M.Ms j=false
 W:M.W=Wx
 pn:∀ p∈M.pn,p.1 < S.N.length
def GV (P:AD) (w:AB) (K:Frag) (mg:Str->Option Ae) (base:Heap) (lvl:Nat) (Γm:List (Str×Fn)):Prop:=
 ∀ x F,Γm.lookup x=some F->(x == ("__debug__" : Str))=false/\∃ fa fd ps,mg x=some (.ref fa)/\Jq K (.ref fa)=true/\qaj K fd ps []/\FnOk P w K mg base (Bi P w K) lvl fa fd ps (YZ K F)
def GX (K:Frag) (mg:Str->Option Ae) (xc:List Nat):Prop:=xc≠[]->LJ K=true/\Cm K=true/\∀ c∈xc,∃ x C,XN[c]?=some x/\DA K c=some C/\mg x=some (.ref C)/\(x == ("__debug__" : Str))=false
def GS (P:AD) (w:AB) (K:Frag) (mg:Str->Option Ae) (base:Heap) (lvl:Nat) (Γ:List (Str×(Bool×Nat×Fn))):Prop:=
 (∀ x∈zka,mg x=none)/\∀ x io n F,Γ.lookup x=some (io,n,F)->(x == ("__debug__" : Str))=false/\(∀ xs,xs.length≠n->F xs=.no) /\
  ∃ fa fd ps,mg x=some (.ref fa)/\Jq K (.ref fa)=true/\qaj K fd ps []/\ps.length=n/\FnOk P w K mg base (Bi P w K) lvl fa fd ps (Bx K io n F)
section
variable {X:Cx}{P:AD}{w:AB}{K:Frag}{mg:Str->Option Ae}{base:Heap}{lvl:Nat}{S:Sx}{Wx:St->Nat->Hp->Prop}{M:Fm}
def Ic {sc:Bz}{x:Str}{k:Dx} (h:DH sc x k=true):sc.names.lookup x=some k:=by
 unfold DH at h;exact eq_of_beq h
def VI {sc:Bz}{x:Str} (h:Dw sc x=true):IU sc x:=by
 unfold Dw at h;rw [GQ,GQ] at h;rcases h with (h | h) | h
 ·exact .inl (Ic h)
 ·exact .inr (.inl (Ic h))
 ·exact .inr (.inr (Ic h))
def Nh {N:List Str}{x:Str}{i:Nat} (h:JL N x=some i):N[i]?=some x:=by
 unfold JL at h;rw [jk1] at h;obtain ⟨hi,e,_⟩:=h
 have:N[i]=x:=eq_of_beq e
 rw [BC hi,this]
def XS.var (xs:XS X P w K mg base lvl S Wx) {x:Str}{i:Nat}{pos:Pos} (h:S.slot x=some i):PE X (.Name x pos) (Bl i):=by
 unfold Sx.slot at h;split at h
 ·rename_i hc;simp only [A7,Yw] at hc;exact qJ (by rw [xs.N];exact Nh h) (by rw [xs.sc];exact VI hc.1.1) hc.1.2 hc.2
 ·cases h
def XS.gl (xs:XS X P w K mg base lvl S Wx) {x:Str} (h:S.glob x=true):Gl X x:=by
 show X.env.scope.names.lookup x=_;rw [xs.sc];exact Ic h
theorem Ea {e:Expr}{es:List Expr}{env:Env} (h:∀ x p,e≠.Starred x p):AN (e::es) env=(false,eval e env)::AN es env:=by
 cases e with
 | Starred x p=>exact absurd rfl (h x p)
 | _=>rfl
def Ij:Expr->Bool
 | .Starred _ _=>false
 | _=>true
def Eb {e:Expr} (h:Ij e=true):∀ x p,e≠.Starred x p:=λ x p z=>by rw [z] at h;cases h
theorem Pu {env:Env}{pos:Pos}:∀ {es:List Expr},es.all Ij=true->(DD pos (AN es env)).any (·.1)=false
 | [],_=>rfl
 | e::es,h=>by
  rw [HB,A7] at h;rw [Ea (Eb h.1)];show (false || (DD pos (AN es env)).any (·.1))=false;rw [Pu h.2];rfl
def LD:Expr->Bool
 | .Slice _ _ _ _=>false
 | _=>true
theorem Ja {b:Expr} (h:LD b=true):RX b:=by
 intro o i;cases b with
 | Slice _ _ _ _=>cases h
 | _=>rfl
def UN (b:Expr):Operator->Option (PV->Nat->PV->Nat->Option (PV×Nat))
 | .Add=>some AS
 | .Sub=>some Ct
 | .Mult=>some Dl
 | .FloorDiv=>some C0
 | .Mod=>some AL
 | .Pow=>some Og
 | _=>none
def ZK {a b:Expr}{op:Operator}{o:PV->Nat->PV->Nat->Option (PV×Nat)}{f g:Fx}{vs vs':List Nat}{pos:Pos} (h:UN b op=some o) (hv:∀ i∈vs,M.Ms i=false) (hK:M.K=X.K) (ha:PE X a (tE M f vs)) (hb:PE X b (tE M g vs')):PE X (.BinOp a op b pos) (tE M (Ab o f g) (vs++vs')):=by
 cases op <;> cases h
 ·exact xA hv hK ha hb
 ·exact O5 zu (λ _ _ _=>trivial) hv ha hb
 ·exact qZ hv ha hb
 ·exact O5 q9 (λ _ _=>Tt) hv ha hb
 ·exact O5 qB (λ _ _=>Tr) hv ha hb
 ·exact O5 jW (λ _ _=>Tu) hv ha hb
def Gh:Expr->Bool
 | .Set _ _ _=>false
 | _=>true
def Rp (b:Expr):E4->Option (PV->Nat->PV->Nat->Option (PV×Nat))
 | .Lt=>some (C1 λ i j=>decide (i < j))
 | .LtE=>some (C1 λ i j=>decide (i<=j))
 | .Gt=>some (C1 λ i j=>decide (j < i))
 | .GtE=>some (C1 λ i j=>decide (j<=i))
 | .Eq=>some (Am false)
 | .NotEq=>some (Am true)
 | .In=>if Gh b=true then some (BF false) else none
 | .NotIn=>if Gh b=true then some (BF true) else none
 | _=>none
theorem Wz {op:E4}{b:Expr} (h:Gh b=true):Ky op b=false:=by
 cases b with
 | Set _ _ _=>cases h
 | _=>rfl
def jF {op:E4}{o:PV->Nat->PV->Nat->Option (PV×Nat)}{f g:Fx}{vs vs':List Nat}{b:Expr} (h:Rp b op=some o) (hu:X.A.units + 64 < C6) (hv:∀ i∈vs,M.Ms i=false) (hK:M.K=X.K):
  ∃ r,OpR X (Dy op) r/\Ky op b=false/\∀ σ H Q,tE M (Ab o f g) (vs++vs') σ H Q->En r (tE M f vs) (tE M g vs') σ H Q:=by
 cases op
 ·cases h;exact ⟨_,qU hu,Ia _ (by decide) (by decide),λ σ H Q h=>Fh hv (λ x d y e z c v w H fps f1 f2 Q ho o1 o2 dj nz zd lf=>Xk hK ho o1 o2 lf) h⟩
 ·cases h;exact ⟨_,qA hu,Ia _ (by decide) (by decide),λ σ H Q h=>Fh hv (λ x d y e z c v w H fps f1 f2 Q ho o1 o2 dj nz zd lf=>Xk hK ho o1 o2 lf) h⟩
 ·cases h;exact ⟨_,UP,Ia _ (by decide) (by decide),λ σ H Q h=>Fh hv (λ x d y e z c v w H fps f1 f2 Q ho o1 o2 dj nz zd lf=>Ni ho o1 o2 lf) h⟩
 ·cases h;exact ⟨_,UO,Ia _ (by decide) (by decide),λ σ H Q h=>Fh hv (λ x d y e z c v w H fps f1 f2 Q ho o1 o2 dj nz zd lf=>Ni ho o1 o2 lf) h⟩
 ·cases h;exact ⟨_,UY,Ia _ (by decide) (by decide),λ σ H Q h=>Fh hv (λ x d y e z c v w H fps f1 f2 Q ho o1 o2 dj nz zd lf=>Ni ho o1 o2 lf) h⟩
 ·cases h;exact ⟨_,UX,Ia _ (by decide) (by decide),λ σ H Q h=>Fh hv (λ x d y e z c v w H fps f1 f2 Q ho o1 o2 dj nz zd lf=>Ni ho o1 o2 lf) h⟩
 ·cases h
 ·cases h
 ·replace h:(if Gh b=true then some (BF false) else none)=some o:=h;split at h
  ·rename_i hb;cases h;exact ⟨_,qz hu,Wz hb,λ σ H Q h=>Fh hv (λ x d y e z c v w H fps f1 f2 Q ho o1 o2 dj nz zd lf=>Xj hK ho o1 o2 lf) h⟩
  ·cases h
 ·replace h:(if Gh b=true then some (BF true) else none)=some o:=h;split at h
  ·rename_i hb;cases h;exact ⟨_,vy hu,Wz hb,λ σ H Q h=>Fh hv (λ x d y e z c v w H fps f1 f2 Q ho o1 o2 dj nz zd lf=>Xj hK ho o1 o2 lf) h⟩
  ·cases h
def Gi:E4->Option (Int->Int->Bool)
 | .Lt=>some λ i j=>decide (i < j)
 | .LtE=>some λ i j=>decide (i<=j)
 | .Gt=>some λ i j=>decide (j < i)
 | .GtE=>some λ i j=>decide (j<=i)
 | .Eq=>some λ i j=>decide (i=j)
 | _=>none
def zq:OpR X (Dy .Eq) (Fq λ i j=>.bl (decide (i=j))):=λ pins s σ H x y v u Q I rx ry h=>ZA pins s σ H x y v u Q I rx ry (by
 obtain ⟨i,j,rfl,rfl,q⟩:=h;refine ⟨rfl,?_⟩;rw [Wd];exact q)
def Uk {op:E4}{p:Int->Int->Bool} (h:Gi op=some p):OpR X (Dy op) (Fq λ i j=>.bl (p i j))/\op≠.In/\op≠.NotIn:=by
 cases op <;> cases h
 ·exact ⟨zq,by decide,by decide⟩
 ·exact ⟨UP,by decide,by decide⟩
 ·exact ⟨UO,by decide,by decide⟩
 ·exact ⟨UY,by decide,by decide⟩
 ·exact ⟨UX,by decide,by decide⟩
def Ii (p q:Int->Int->Bool) (f g h:Fx):Fx:=λ ρ=>(f ρ).bind λ (x,_,ρ1)=>(g ρ1).bind λ (y,_,ρ2)=>match x,y with
 | .int i,.int j=>if p i j=true then (h ρ2).bind λ (z,_,ρ3)=>(match z with
  | .int k=>.ok (.bl (q j k),om,ρ3)
  | _=>.no) else .ok (.bl false,om,ρ2)
 | _,_=>.no
theorem Xz {p q:Int->Int->Bool}{f g h:Fx}{vs v1 v2 v3:List Nat}{σ:St}{H:Hp}{Q:VK} (hq:tE M (Ii p q f g h) vs σ H Q):RN (Fq λ i j=>.bl (p i j)) (Fq λ i j=>.bl (q i j)) (tE M f v1) (tE M g v2) (tE M h v3) σ H Q:=by
 obtain ⟨ρ,fps,rep,qq⟩:=hq;refine ⟨ρ,fps,rep,?_⟩;unfold Ii at qq;cases ef:f ρ with
 | no=>rw [ef] at qq;exact qq
 | exc c=>rw [ef] at qq;exact qq
 | ok p0=>
  obtain ⟨x,d,ρ1⟩:=p0;rw [ef] at qq;intro v H1 fps1 f1 k1 g1 rep1 o1 t1;refine ⟨ρ1,fps1,rep1,?_⟩;dsimp only [Rz.bind] at qq;cases eg:g ρ1 with
  | no=>rw [eg] at qq;exact qq
  | exc c=>rw [eg] at qq;exact λ H' fps' k=>qq H' fps' (k1.trans k)
  | ok p2=>
   obtain ⟨y,e,ρ2⟩:=p2;rw [eg] at qq;intro w H2 fps2 f2 k2 g2 rep2 o2 t2;cases x with
   | int i=>
    cases y with
    | int j=>
     dsimp only at qq;rw [Own] at o1 o2;obtain ⟨rfl,rfl⟩:=o1;obtain ⟨rfl,rfl⟩:=o2;refine ⟨i,j,rfl,rfl,p i j,rfl,?_⟩;by_cases hp:p i j=true
     ·rw [if_pos hp] at qq ⊢;refine ⟨ρ2,fps2,rep2,?_⟩;cases eh:h ρ2 with
      | no=>rw [eh] at qq;exact qq
      | exc c=>rw [eh] at qq;exact λ H' fps' k=>qq H' fps' ((k1.trans k2).trans k)
      | ok p3=>
       obtain ⟨z,c,ρ3⟩:=p3;rw [eh] at qq;intro u H3 fps3 f3 k3 g3 rep3 o3 t3;cases z with
       | int k=>
        dsimp only at qq;rw [Own] at o3;obtain ⟨rfl,rfl⟩:=o3;exact ⟨j,k,rfl,rfl,qq _ H3 fps3 [] ((k1.trans k2).trans k3) ((g1.trans g2).trans g3) rep3 (by rw [Own];exact ⟨rfl,rfl⟩) ⟨λ _ z=>(nomatch z),λ _ z=>nomatch z⟩⟩
       | _=>exact qq.elim
     ·rw [if_neg hp] at qq ⊢;exact qq _ H2 fps2 [] (k1.trans k2) (g1.trans g2) rep2 (by rw [Own];exact ⟨rfl,rfl⟩) ⟨λ _ z=>(nomatch z),λ _ z=>nomatch z⟩
    | _=>exact qq.elim
   | _=>exact qq.elim
def BH (f g:Fx):Fx:=λ ρ=>(f ρ).bind λ (x,_,ρ1)=>match x with
 | .bl true=>g ρ1
 | .bl false=>.ok (.bl false,om,ρ1)
 | _=>.no
def AI (f g:Fx):Fx:=λ ρ=>(f ρ).bind λ (x,_,ρ1)=>match x with
 | .bl true=>.ok (.bl true,om,ρ1)
 | .bl false=>g ρ1
 | _=>.no
def BU:PV->Nat->Option (PV×Nat)
 | .bl b,_=>some (.bl (!b),om)
 | _,_=>none
variable {f g:Fx}{vs vs':List Nat}{σ:St}{H:Hp}{Q:VK}
theorem WA {f:Fx}{ρ ρ1:Ag}{fps fps1:AR}{H H1:Hp} (k1:KD M H fps H1 fps1) (g1:Agr M ρ ρ1) (rep1:Rep M ρ1 σ H1 fps1) (hs:∀ i∈vs,i∈vs')
  (q:match f ρ1 with
   | .ok (x,d,ρ')=>∀ v H' fps' fp,KD M H fps H' fps'->Agr M ρ ρ'->Rep M ρ' σ H' fps'->Own M.K H' (Zt M vs' fps' fp) x d v fp->Temp M vs' H H' fps' fp->Q v H'
   | .exc c=>∀ H' fps',KD M H fps H' fps'->M.W σ c H'
   | .no=>False):tE M f vs σ H1 Q:=by
 refine ⟨ρ1,fps1,rep1,?_⟩;cases eg:f ρ1 with
 | no=>rw [eg] at q;exact q
 | exc c=>rw [eg] at q;exact λ H' fps' k=>q H' fps' (k1.trans k)
 | ok p2=>
  obtain ⟨x,d,ρ2⟩:=p2;rw [eg] at q;exact λ v H' fps' fp k g r o t=>q v H' fps' fp (k1.trans k) (g1.trans g) r (o.weak λ a h=>Zt.mono hs h) ⟨λ a ha=>(by
   have e:=t.new a ha;cases e':H a with
   | none=>rfl
   | some o=>exact absurd e (k1.dom a (by rw [e'];simp))),t.ndj⟩
theorem zP (hq:tE M (BH f g) (vs++vs') σ H Q):Va (tE M f vs) (tE M g vs') σ H Q:=by
 obtain ⟨ρ,fps,rep,q⟩:=hq;refine ⟨ρ,fps,rep,?_⟩;unfold BH at q;cases ef:f ρ with
 | no=>rw [ef] at q;exact q
 | exc c=>rw [ef] at q;exact q
 | ok p=>
  obtain ⟨x,d,ρ1⟩:=p;rw [ef] at q;intro v H1 fps1 f1 k1 g1 rep1 o1 t1;dsimp only [Rz.bind] at q;cases x with
  | bl b=>
   rw [Own] at o1;refine ⟨b,o1.1,?_⟩;cases b with
   | true=>exact WA k1 g1 rep1 (λ i hi=>Bb _ hi) q
   | false=>exact q (.bl false) H1 fps1 [] k1 g1 rep1 (by rw [Own];exact ⟨rfl,rfl⟩) ⟨λ _ z=>(nomatch z),λ _ z=>nomatch z⟩
  | _=>exact q.elim
theorem xi (hq:tE M (AI f g) (vs++vs') σ H Q):LV (tE M f vs) (tE M g vs') σ H Q:=by
 obtain ⟨ρ,fps,rep,q⟩:=hq;refine ⟨ρ,fps,rep,?_⟩;unfold AI at q;cases ef:f ρ with
 | no=>rw [ef] at q;exact q
 | exc c=>rw [ef] at q;exact q
 | ok p=>
  obtain ⟨x,d,ρ1⟩:=p;rw [ef] at q;intro v H1 fps1 f1 k1 g1 rep1 o1 t1;dsimp only [Rz.bind] at q;cases x with
  | bl b=>
   rw [Own] at o1;refine ⟨b,o1.1,?_⟩;cases b with
   | false=>exact WA k1 g1 rep1 (λ i hi=>Bb _ hi) q
   | true=>exact q (.bl true) H1 fps1 [] k1 g1 rep1 (by rw [Own];exact ⟨rfl,rfl⟩) ⟨λ _ z=>(nomatch z),λ _ z=>nomatch z⟩
  | _=>exact q.elim
theorem zR (hq:tE M (Ao BU f) vs σ H Q):Vc (tE M f vs) σ H Q:=by
 refine K8 (r:=λ x H1 Q=>∃ c,x=.bl c/\Q (.bl (!c)) H1) (λ x d z c v H fps f1 Q ho o1 nz zd lf=>?_) hq;cases x with
 | bl b=>cases ho;rw [Own] at o1;exact ⟨b,o1.1,EH lf⟩
 | _=>cases ho
end
end QQ
namespace PySem.SeqAt
open AutoSeq1 (wpAny_loadPart')
open MeetsSeq MeetsSeq2 MeetsSeq3 SeqRoads2
def LtAt (A:Bc) (s:Ak) (y x:Ae) (b:Bool):Prop:=
 ∀ (prog:AD) (w:AB) (E:Ae->Ak->Prop) (Q:Ae->Ak->Prop),Q (.bool b) s->Aw (Av prog w) A (richCompare .Lt y x) Q E s
def Cb (e l:Nat->Bool) (fin:Bool):List Nat->Bool
 | []=>fin
 | i::r=>if e i=true then Cb e l fin r else l i
theorem vt (l b:Addr) (items items2:Array Ae) (n n2:Nat) (dd dd2:Option Addr) (sl sl2:Array (Option Ae)) (e lt:Nat->Bool) (k:Nat):
  ∀ i:Nat,i<=min items.size items2.size->min items.size items2.size - i=k->Meets (vf2.«list.__eq__.loop» ⟨[.ref l,.ref b,rawInt i,rawInt 0],[]⟩)
   (λ A R s=>s.heap.get? l=some { cls:=.type "list",dict:=dd,data:=.seq items n,slots:=sl }/\s.heap.get? b=some { cls:=.type "list",dict:=dd2,data:=.seq items2 n2,slots:=sl2 } /\
    (∀ j (h1:j < items.size) (h2:j < items2.size),EqAt A.in1 s items[j] items2[j] (e j)/\LtAt A.in1 s items[j] items2[j] (lt j)) /\
    R (.ok (.ret (.bool (Cb e lt (decide (items.size < items2.size)) ((An (min items.size items2.size)).drop i))))) s):=by
 induction k with
 | zero=>
  intro i hle hk prog w A R s h;obtain ⟨hp,g,d,tk,os⟩:=s;obtain ⟨hl,hb,he,h⟩:=h
  wp_walk using wpAny_loadPart' hl,wpAny_loadPart' hb
  have hd:(An (min items.size items2.size)).drop i=[]:=by simp;omega
  rw [hd] at h;have fin:R (.ok (.ret (.bool (decide (items.size < items2.size))))) ⟨hp,g,d,tk,os⟩:=h;by_cases h1:i < items.size
  ·have hi1:items[((i:Nat):Int).toNat]?=some items[i]:=by simp [h1]
   have hi2:items2[((i:Nat):Int).toNat]?=none:=by simp;omega
   rw [hi1,hi2]
   wp_walk using wpAny_loadPart' hl,wpAny_loadPart' hb
   exact fin
  ·have hi1:items[((i:Nat):Int).toNat]?=none:=by simp;omega
   rw [hi1]
   wp_walk using wpAny_loadPart' hl,wpAny_loadPart' hb
   exact fin
 | succ k ih=>
  intro i hle hk prog w A R s h;obtain ⟨hp,g,d,tk,os⟩:=s;obtain ⟨hl,hb,he,h⟩:=h
  wp_walk using wpAny_loadPart' hl,wpAny_loadPart' hb
  have hlt:i < items.size:=by omega
  have hlt2:i < items2.size:=by omega
  have hi1:items[((i:Nat):Int).toNat]?=some items[i]:=by simp [hlt]
  have hi2:items2[((i:Nat):Int).toNat]?=some items2[i]:=by simp [hlt2]
  have hd:(An (min items.size items2.size)).drop i=i::(An (min items.size items2.size)).drop (i + 1):=by
   rw [KY (by rw [CQ];omega),SV]
  have hc:((i:Int) + 1)=((i + 1:Nat):Int):=by push_cast;rfl
  rw [hd] at h;rw [hi1,hi2];refine A4 ((he i hlt hlt2).1 prog w _ _ ?_);cases hb':e i with
  | true=>
   unfold Cb at h;rw [hb',if_pos rfl] at h
   wp_walk
   rw [hc];exact ⟨plainId_quiet N8 _,Qo entry_eq_loop (by
    rw [Around.under_plainId N8 _];exact ih (i + 1) (by omega) (by omega) prog w A R _ ⟨hl,hb,he,h⟩)⟩
  | false=>
   unfold Cb at h;rw [hb',if_neg Cp] at h
   wp_walk using wpAny_loadPart' hl,wpAny_loadPart' hb
   rw [hi1,hi2];dsimp only;refine A4 ((he i hlt hlt2).2 prog w _ _ ?_)
   wp_walk
   exact h
def vp (l b:Addr) (items items2:Array Ae) (n n2:Nat) (dd dd2:Option Addr) (sl sl2:Array (Option Ae)) (e lt:Nat->Bool):
  Meets (vf2.«list.__lt__» ⟨[.ref l,.ref b],[]⟩)
   (λ A R s=>s.heap.get? l=some { cls:=.type "list",dict:=dd,data:=.seq items n,slots:=sl }/\s.heap.get? b=some { cls:=.type "list",dict:=dd2,data:=.seq items2 n2,slots:=sl2 } /\
    (∀ j (h1:j < items.size) (h2:j < items2.size),EqAt A.in1 s items[j] items2[j] (e j)/\LtAt A.in1 s items[j] items2[j] (lt j)) /\
    R (.ok (.ret (.bool (Cb e lt (decide (items.size < items2.size)) (An (min items.size items2.size)))))) s):=by
 intro prog w A R s h;obtain ⟨hp,g,d,tk,os⟩:=s;obtain ⟨hl,hb,he,h⟩:=h;have f3:=AutoSeq1.sub_list_list
 wp_walk using wpAny_loadPart' hl,wpAny_loadPart' hb
 exact ⟨plainId_quiet N8 _,Qo entry_eq_loop (by
  rw [Around.under_plainId N8 _];exact vt l b items items2 n n2 dd dd2 sl sl2 e lt _ 0 (Hz _) rfl prog w A R _ ⟨hl,hb,he,by simpa using h⟩)⟩
def wq (l b:Addr) (items items2:Array Ae) (n n2:Nat) (dd dd2:Option Addr) (sl sl2:Array (Option Ae)) (e lt:Nat->Bool):
  Meets (vf2.«tuple.__lt__» ⟨[.ref l,.ref b],[]⟩)
   (λ A R s=>s.heap.get? l=some { cls:=.type "tuple",dict:=dd,data:=.seq items n,slots:=sl }/\s.heap.get? b=some { cls:=.type "tuple",dict:=dd2,data:=.seq items2 n2,slots:=sl2 } /\
    (∀ j (h1:j < items.size) (h2:j < items2.size),EqAt A.in1 s items[j] items2[j] (e j)/\LtAt A.in1 s items[j] items2[j] (lt j)) /\
    R (.ok (.ret (.bool (Cb e lt (decide (items.size < items2.size)) (An (min items.size items2.size)))))) s):=
 .of_wp λ prog w A R s h=>by
  obtain ⟨hp,g,d,tk,os⟩:=s;obtain ⟨hl,hb,he,h⟩:=h;have f2:=AutoSeq1.sub_tuple_tuple;have hZ:(items.toList.zip items2.toList).length=min items.size items2.size:=by simp
  wp_walk using wpAny_loadPart' hl,wpAny_loadPart' hb,wpAny_forIn_list _ (λ rest b s'=>b.1=none/\s'=⟨hp,g,d,tk,os⟩/\∃ i,rest=(items.toList.zip items2.toList).drop i /\
   R (.ok (.ret (.bool (Cb e lt (decide (items.size < items2.size)) ((An (min items.size items2.size)).drop i))))) ⟨hp,g,d,tk,os⟩) _
  case turn=>
   rintro ⟨y,x⟩ rest b s' ⟨hb',rfl,i,hz,hR⟩;have hlt:i < (items.toList.zip items2.toList).length:=by
    rcases SF i (items.toList.zip items2.toList).length with h' | h'
    ·exact h'
    ·rw [YA h'] at hz;cases hz
   have hm:i < min items.size items2.size:=hZ ▸ hlt;have h1:i < items.size:=Cf hm (OK _ _);have h2:i < items2.size:=Cf hm (ON _ _);rw [KY hlt] at hz;injection hz with hyx hrest
   have hy:y=items[i]:=by have:=congrArg Prod.fst hyx;simpa using this
   have hx:x=items2[i]:=by have:=congrArg Prod.snd hyx;simpa using this
   subst hy hx;have hd:(An (min items.size items2.size)).drop i=i::(An (min items.size items2.size)).drop (i + 1):=by
    rw [KY (by rw [CQ];omega),SV]
   rw [hd] at hR;unfold Cb at hR;refine A4 ((he i h1 h2).1 prog w _ _ ?_);cases hy:e i with
   | true=>
    rw [hy,if_pos rfl] at hR
    wp_walk
    exact ⟨rfl,rfl,i + 1,hrest,hR⟩
   | false=>
    rw [hy,if_neg Cp] at hR;have h2':=(he i h1 h2).2;unfold LtAt at h2';generalize richCompare .Lt items[i] items2[i]=rc at h2' ⊢
    wp_walk
    refine h2' prog w _ _ ?_
    wp_walk
    exact ⟨_,rfl,hR⟩
  case fin=>
   rintro ⟨b1,b2⟩ s' ⟨hb',rfl,i,hz,hR⟩;simp only at hb';subst hb';have hge:min items.size items2.size<=i:=by
    rcases SF i (items.toList.zip items2.toList).length with h' | h'
    ·rw [KY h'] at hz;cases hz
    ·exact hZ ▸ h'
   rw [YA (by simpa using hge)] at hR
   wp_walk
   exact ⟨_,rfl,hR⟩
  case h=>
   exact ⟨rfl,rfl,0,rfl,h⟩
section
variable {A:Bc}{s:Ak}
def LtAt.lists {l b:Addr}{items items2:Array Ae}{e lt:Nat->Bool} (hl:s.heap.IsList l items) (hb:s.heap.IsList b items2) (hu:A.units < C6)
  (he:∀ j (h1:j < items.size) (h2:j < items2.size),EqAt A.in1 s items[j] items2[j] (e j)/\LtAt A.in1 s items[j] items2[j] (lt j)):LtAt A s (.ref l) (.ref b) (Cb e lt (decide (items.size < items2.size)) (An (min items.size items2.size))):=λ prog w E Q h=>by
 obtain ⟨⟨cls,dd,data,sl⟩,ho,hc,n,hd⟩:=id hl;obtain ⟨⟨cls2,dd2,data2,sl2⟩,ho2,hc2,n2,hd2⟩:=id hb;simp only at hc hd hc2 hd2;subst hc hd hc2 hd2;exact richCompare_meets_room (op:=.Lt) ⟨_,ho,rfl⟩ ⟨_,ho2,rfl⟩ F.slot_list_lt F.entry_list_lt (F.args_list_lt_2 _ _) (vp l b items items2 n n2 dd dd2 sl sl2 e lt)
  ⟨ho,ho2,he,show Value.bool _≠Value.notImplemented/\Q (.bool _) s from ⟨(λ x=>nomatch x),h⟩⟩ hu
def LtAt.tuples {l b:Addr}{items items2:Array Ae}{e lt:Nat->Bool} (hl:s.heap.IsTuple l items) (hb:s.heap.IsTuple b items2) (hu:A.units < C6)
  (he:∀ j (h1:j < items.size) (h2:j < items2.size),EqAt A.in1 s items[j] items2[j] (e j)/\LtAt A.in1 s items[j] items2[j] (lt j)):LtAt A s (.ref l) (.ref b) (Cb e lt (decide (items.size < items2.size)) (An (min items.size items2.size))):=λ prog w E Q h=>by
 obtain ⟨⟨cls,dd,data,sl⟩,ho,hc,n,hd⟩:=id hl;obtain ⟨⟨cls2,dd2,data2,sl2⟩,ho2,hc2,n2,hd2⟩:=id hb;simp only at hc hd hc2 hd2;subst hc hd hc2 hd2;exact richCompare_meets_room (op:=.Lt) ⟨_,ho,rfl⟩ ⟨_,ho2,rfl⟩ F.slot_tuple_lt F.entry_tuple_lt (F.args_tuple_lt_2 _ _) (wq l b items items2 n n2 dd dd2 sl sl2 e lt)
  ⟨ho,ho2,he,show Value.bool _≠Value.notImplemented/\Q (.bool _) s from ⟨(λ x=>nomatch x),h⟩⟩ hu
end
end PySem.SeqAt
namespace QQ
open PySem PySem.Spec PyProof.Rows L2 PySem.W
def D1 {α:Type} (lt:Nat->Nat->Bool):KasT α->α
 | .ret a=>a
 | .ask i j k=>D1 lt (k (lt i j))
def K9 {α:Type} (n:Nat) (lt:Nat->Nat->Bool):KasT α->Bool
 | .ret _=>true
 | .ask i j k=>decide (i < n) && decide (j < n) && K9 n lt (k (lt i j))
theorem WJ {α:Type}{cmp:Nat->Nat->(Bool->Ak->Prop)->Ak->Prop}{n:Nat}{lt:Nat->Nat->Bool}{s:Ak} (hc:∀ i j,i < n->j < n->∀ C:Bool->Ak->Prop,C (lt i j) s->cmp i j C s):∀ (t:KasT α) (Q:α->Ak->Prop),K9 n lt t=true->Q (D1 lt t) s->t.kasWp cmp Q s
 | .ret _,_,_,h=>h
 | .ask i j k,Q,ok,h=>by
  unfold K9 at ok;rw [A7,A7] at ok;exact hc i j (of_decide_eq_true ok.1.1) (of_decide_eq_true ok.1.2) _ (WJ hc _ Q ok.2 h)
section
variable {prog:AD}{w:AB}{A:Bc}{E:Ae->Ak->Prop}{s:Ak}
structure Asks (prog:AD) (w:AB) (A:Bc) (us:List Ae) (κ:SortKind) (lt:Nat->Nat->Bool) (s:Ak):Prop where
 kind:∀ Q:SortKind->Ak->Prop,Q κ s->Aw (Av prog w) A (keyKind' us.toArray) Q (λ _ _=>False) s
 less:∀ i j,i < us.length->j < us.length->∀ C:Bool->Ak->Prop,C (lt i j) s->Aw (Av prog w) A (keyLt' κ (us.getD i Value.none) (us.getD j Value.none)) C (λ _ _=>False) s
def vN {a:Addr}{us:List Ae}{n:Nat}{κ:SortKind}{lt:Nat->Nat->Bool}{P:Fin->Ak->Prop} (ho:s.heap.get? a=some (Bo "list" us.toArray n)) (h1:2<=us.length) (h64:us.length < 64)
  (hok:K9 us.length lt (GI us.length)=true) (hask:∀ h',(∀ b o,b≠a->s.heap.get? b=some o->h'.get? b=some o)->Asks prog w A us κ lt { s with heap:=h' })
  (h:P (.done (.ret .none)) { s with heap:=sortedHeap s.heap a us (KI ((D1 lt (GI us.length)).toList.map λ i=>us.getD i Value.none)) }):Aw (Av prog w) A (vf2.«list.sort» ⟨[.ref a],[]⟩) P E s:=by
 rw [Qs];have la:=Bn ho;have z:=LM;refine A4 (listItems_at ho rfl ?_);refine A4 (Kz ho rfl ?_ (by simp;omega));obtain ⟨e1,oa⟩:∃ e1,(s.heap.update a (C7 λ _=>#[])).get? a=some (Bo "list" #[] e1):=⟨_,Qq ho (λ _=>#[])⟩
 refine A4 (Kw oa rfl ?_);refine A4 (Qm ?_);refine A4 (K0 ?_);refine GK ?_;have ob:(((s.heap.update a (C7 λ _=>#[])).push (Bo "tuple" us.toArray 0)).push (Bo "list" #[] 0)).get? a=some (Bo "list" #[] e1):=by
  rw [K2 _ _ _ (by rw [Kv,Hn];exact Cc (IJ la)),K2 _ _ _ (by rw [Hn];exact Cc la)];exact oa
 show Aw (Av prog w) A _ P E { s with heap:=((s.heap.update a (C7 λ _=>#[])).push (Bo "tuple" us.toArray 0)).push (Bo "list" #[] 0) };dsimp only;have lz:us.toArray.size=us.length:=by simp
 rw [if_neg (by omega),if_neg (by omega)];have keep:∀ b o,b≠a->s.heap.get? b=some o->(((s.heap.update a (C7 λ _=>(#[]:Array Ae))).push (Bo "tuple" us.toArray 0)).push (Bo "list" #[] 0)).get? b=some o:=λ b o hb e=>
  CI _ (CI _ (by rw [Heap.get?_update_ne _ _ _ _ hb];exact e))
 have ask:=hask _ keep;refine A4 (Fp (ask.kind (λ κ' s0=>κ'=κ/\s0={ s with heap:=((s.heap.update a (C7 λ _=>(#[]:Array Ae))).push (Bo "tuple" us.toArray 0)).push (Bo "list" #[] 0) }) ⟨rfl,rfl⟩) (λ κ' s0 hk=>?_) λ _ _ x=>x.elim);obtain ⟨rfl,rfl⟩:=hk;let p:Array Nat:=D1 lt (GI us.length);refine A4 (Fp (kat_run (ks:=us) (vs:=us) (Q:=λ st' s'=>s'={ s with heap:=((s.heap.update a (C7 λ _=>(#[]:Array Ae))).push (Bo "tuple" us.toArray 0)).push (Bo "list" #[] 0) }/\p.size=us.length/\arrOf st'=p.map (kas_item (us.toArray.zip us.toArray))/\failedOf st'=none) (G:=λ p' s'=>p'=p/\s'={ s with heap:=((s.heap.update a (C7 λ _=>(#[]:Array Ae))).push (Bo "tuple" us.toArray 0)).push (Bo "list" #[] 0) }) rfl h1 h64 (λ p' st' s' a1 a2 a3 a4=>by obtain ⟨rfl,rfl⟩:=a4;exact ⟨rfl,a1,a2,a3⟩) (WJ (n:=us.length) (lt:=lt) (λ i j hi hj C hC=>ask.less i j hi hj C hC) _ _ hok ⟨rfl,rfl⟩)) ?_ λ _ _ e=>e);rintro ⟨⟨⟩,st'⟩ s' ⟨rfl,hp,har,hf⟩;dsimp only;have hout:=kat_snds rfl har;have hsz:(KI (p.toList.map λ i=>us.getD i Value.none)).size=us.length:=by rw [C4,Ax,KU,hp]
 rw [hout];refine A4 (Kw ob rfl ?_);refine A4 (Kz ob rfl ?_ (hsz2:=CA (SH hsz) (by omega)));rw [hf];simp only [bne_self_eq_false,JH,if_false];exact Bw h
def wy {l:Addr}{us:List Ae}{κ:SortKind}{lt:Nat->Nat->Bool}{Q:Ae->Ak->Prop} (hl:s.heap.IsList l us.toArray) (h1:2<=us.length) (h64:us.length < 64)
  (hok:K9 us.length lt (GI us.length)=true) (hask:∀ h',(∀ b o,s.heap.get? b=some o->h'.get? b=some o)->Asks prog w A.in1.in1 us κ lt { s with heap:=h' })
  (h:Q (.ref (s.heap.objs.size + 1)) { s with heap:=Jn s.heap us (KI ((D1 lt (GI us.length)).toList.map λ i=>us.getD i Value.none)) }):Aw (Av prog w) A (call (.builtin "sorted") [.ref l]) Q E s:=by
 have z:=LM;refine QD kind_sorted plain_sorted entry_sorted (args_sorted1 _) ?_;unfold vf2.«sorted»;refine A4 (m:=checkCount "sorted" 1 1 _) (Bw ?_);refine A4 (collect_list hl ?_ (by omega));refine A4 (K0 ?_ (by omega));have lz:((s.heap.push (Bo "list" #[] 0)).update s.heap.objs.size (C7 (·++us.toArray))).objs.size=s.heap.objs.size + 1:=by
  rw [Hn,Kv]
 have oL:(((s.heap.push (Bo "list" #[] 0)).update s.heap.objs.size (C7 (·++us.toArray))).push (Bo "list" us.toArray 0)).get? (s.heap.objs.size + 1)=some (Bo "list" us.toArray 0):=by
  rw [<- lz];exact DF _ rfl
 show Aw _ _ _ _ _ { s with heap:=((s.heap.push (Bo "list" #[] 0)).update s.heap.objs.size (C7 (·++us.toArray))).push (Bo "list" us.toArray 0) };rw [lz];refine A4 (GK (NC Ql ⟨_,oL,rfl⟩ Qp (vN (κ:=κ) oL h1 h64 hok (λ h' keep=>?_) ⟨_,rfl,?_⟩) (Qj _)))
 ·refine hask h' λ b o e=>keep b o ?_ ?_
  ·exact Cc (IJ (Bn e))
  ·have hb:=Bn e;exact CI _ (by
    rw [Heap.get?_update_ne _ _ _ _ (Cc hb)];exact CI _ e)
 ·exact Bw ⟨_,rfl,h⟩
end
end QQ
namespace PySem.SeqAt
mutual
def CM:Br->Br->Bool
 | .int i,.int j=>decide (i < j)
 | .list xs,.list ys=>Bu xs ys
 | .tuple xs,.tuple ys=>Bu xs ys
 | _,_=>false
def Bu:List Br->List Br->Bool
 | _,[]=>false
 | [],_::_=>true
 | x::xs,y::ys=>if BK x y=true then Bu xs ys else CM x y
end
mutual
def BN:Br->Br->Bool
 | .int _,.int _=>true
 | .list xs,.list ys=>Cy xs ys
 | .tuple xs,.tuple ys=>Cy xs ys
 | _,_=>false
def Cy:List Br->List Br->Bool
 | [],_=>true
 | _::_,[]=>true
 | x::xs,y::ys=>BN x y && Cy xs ys
end
def RG (xs ys:List Br) (j:Nat):Bool:=CM (xs.getD j .none) (ys.getD j .none)
theorem X9 (e l:Nat->Bool) (fin:Bool) (f:Nat->Nat):∀ L:List Nat,Cb e l fin (L.map f)=Cb (λ i=>e (f i)) (λ i=>l (f i)) fin L
 | []=>rfl
 | i::r=>by rw [Bf];unfold Cb;rw [X9 e l fin f r]
theorem Qc:∀ xs ys:List Br,Cb (pairEq xs ys) (RG xs ys) (decide (xs.length < ys.length)) (An (min xs.length ys.length))=Bu xs ys
 | xs,[]=>by
  rw [M0,Nat.min_zero,Yh];show decide (xs.length < 0)=Bu xs [];rw [decide_eq_false (by omega)];cases xs <;> rw [Bu]
 | [],y::ys=>by
  rw [M0,Nat.zero_min,Yh,Bu];show decide (0 < (y::ys).length)=true;rw [Ba];exact decide_eq_true (by omega)
 | x::xs,y::ys=>by
  have ih:=Qc xs ys;rw [Ba,Ba,show min (xs.length + 1) (ys.length + 1)=min xs.length ys.length + 1 by omega,List.range_succ_eq_map,Bu];unfold Cb;rw [X9,show decide (xs.length + 1 < ys.length + 1)=decide (xs.length < ys.length) from decide_eq_decide.mpr (by omega)];show (if BK x y=true then Cb (pairEq xs ys) (RG xs ys) (decide (xs.length < ys.length)) (An (min xs.length ys.length)) else CM x y)=_;rw [ih]
def jS {A:Bc}{s:Ak}{i j:Int}{t u:Tok}:LtAt A s (.int i t) (.int j u) (decide (i < j)):=λ prog w E Q h=>wpAny_lt_int h
mutual
theorem TU:∀ (da db:Br) (A:Bc) (s:Ak) (a b:Ae) (as bs:List Addr),Reads s.heap a da as->Reads s.heap b db bs->BN da db=true->da.canLay0=true->db.canLay0=true ->
  A.units + min da.depth db.depth < C6->LtAt A s a b (CM da db)
 | .int i,.int j,A,s,_,_,_,_,ra,rb,_,_,_,_=>by
  cases ra;cases rb;rw [CM];exact jS
 | .list xs,.list ys,A,s,_,_,_,_,ra,rb,hc,ha,hb,hu=>by
  cases ra with
  | @list l o vs n _ as₁ h1 h2 h3 h4=>
   cases rb with
   | @list l' o' vs' n' _ bs₁ k1 k2 k3 k4=>
    have n1:vs.size=xs.length:=by simpa using ReadsAll.length _ _ _ h4
    have n2:vs'.size=ys.length:=by simpa using ReadsAll.length _ _ _ k4
    rw [CM,<- Qc xs ys,<- n1,<- n2];rw [BN] at hc;refine LtAt.lists ⟨_,h1,h2,_,h3⟩ ⟨_,k1,k2,_,k3⟩ (room_here hu) λ j j1 j2=>⟨?_,?_⟩
    ·have:=eqAt_readsAll xs ys A.in1 s vs.toList vs'.toList _ _ h4 k4 ha hb (room_in hu) j (by simpa using j1) (by simpa using j2)
     simpa using this
    ·have:=Pl xs ys A.in1 s vs.toList vs'.toList _ _ h4 k4 hc ha hb (room_in hu) j (by simpa using j1) (by simpa using j2)
     simpa using this
 | .tuple xs,.tuple ys,A,s,_,_,_,_,ra,rb,hc,ha,hb,hu=>by
  cases ra with
  | @tuple l o vs n _ as₁ h1 h2 h3 h4=>
   cases rb with
   | @tuple l' o' vs' n' _ bs₁ k1 k2 k3 k4=>
    have n1:vs.size=xs.length:=by simpa using ReadsAll.length _ _ _ h4
    have n2:vs'.size=ys.length:=by simpa using ReadsAll.length _ _ _ k4
    rw [CM,<- Qc xs ys,<- n1,<- n2];rw [BN] at hc;refine LtAt.tuples ⟨_,h1,h2,_,h3⟩ ⟨_,k1,k2,_,k3⟩ (room_here hu) λ j j1 j2=>⟨?_,?_⟩
    ·have:=eqAt_readsAll xs ys A.in1 s vs.toList vs'.toList _ _ h4 k4 ha hb (room_in hu) j (by simpa using j1) (by simpa using j2)
     simpa using this
    ·have:=Pl xs ys A.in1 s vs.toList vs'.toList _ _ h4 k4 hc ha hb (room_in hu) j (by simpa using j1) (by simpa using j2)
     simpa using this
 | .none,_,_,_,_,_,_,_,_,_,hc,_,_,_=>by rw [BN] at hc;cases hc;all_goals (intros;contradiction)
 | .bool _,_,_,_,_,_,_,_,_,_,hc,_,_,_=>by rw [BN] at hc;cases hc;all_goals (intros;contradiction)
 | .str _,_,_,_,_,_,_,_,_,_,hc,_,_,_=>by rw [BN] at hc;cases hc;all_goals (intros;contradiction)
 | .dict _,_,_,_,_,_,_,_,_,_,hc,_,_,_=>by rw [BN] at hc;cases hc;all_goals (intros;contradiction)
 | .int _,.none,_,_,_,_,_,_,_,_,hc,_,_,_=>by rw [BN] at hc;cases hc;all_goals (intros;contradiction)
 | .int _,.bool _,_,_,_,_,_,_,_,_,hc,_,_,_=>by rw [BN] at hc;cases hc;all_goals (intros;contradiction)
 | .int _,.str _,_,_,_,_,_,_,_,_,hc,_,_,_=>by rw [BN] at hc;cases hc;all_goals (intros;contradiction)
 | .int _,.list _,_,_,_,_,_,_,_,_,hc,_,_,_=>by rw [BN] at hc;cases hc;all_goals (intros;contradiction)
 | .int _,.tuple _,_,_,_,_,_,_,_,_,hc,_,_,_=>by rw [BN] at hc;cases hc;all_goals (intros;contradiction)
 | .int _,.dict _,_,_,_,_,_,_,_,_,hc,_,_,_=>by rw [BN] at hc;cases hc;all_goals (intros;contradiction)
 | .list _,.none,_,_,_,_,_,_,_,_,hc,_,_,_=>by rw [BN] at hc;cases hc;all_goals (intros;contradiction)
 | .list _,.bool _,_,_,_,_,_,_,_,_,hc,_,_,_=>by rw [BN] at hc;cases hc;all_goals (intros;contradiction)
 | .list _,.int _,_,_,_,_,_,_,_,_,hc,_,_,_=>by rw [BN] at hc;cases hc;all_goals (intros;contradiction)
 | .list _,.str _,_,_,_,_,_,_,_,_,hc,_,_,_=>by rw [BN] at hc;cases hc;all_goals (intros;contradiction)
 | .list _,.tuple _,_,_,_,_,_,_,_,_,hc,_,_,_=>by rw [BN] at hc;cases hc;all_goals (intros;contradiction)
 | .list _,.dict _,_,_,_,_,_,_,_,_,hc,_,_,_=>by rw [BN] at hc;cases hc;all_goals (intros;contradiction)
 | .tuple _,.none,_,_,_,_,_,_,_,_,hc,_,_,_=>by rw [BN] at hc;cases hc;all_goals (intros;contradiction)
 | .tuple _,.bool _,_,_,_,_,_,_,_,_,hc,_,_,_=>by rw [BN] at hc;cases hc;all_goals (intros;contradiction)
 | .tuple _,.int _,_,_,_,_,_,_,_,_,hc,_,_,_=>by rw [BN] at hc;cases hc;all_goals (intros;contradiction)
 | .tuple _,.str _,_,_,_,_,_,_,_,_,hc,_,_,_=>by rw [BN] at hc;cases hc;all_goals (intros;contradiction)
 | .tuple _,.list _,_,_,_,_,_,_,_,_,hc,_,_,_=>by rw [BN] at hc;cases hc;all_goals (intros;contradiction)
 | .tuple _,.dict _,_,_,_,_,_,_,_,_,hc,_,_,_=>by rw [BN] at hc;cases hc;all_goals (intros;contradiction)
theorem Pl:∀ (xs ys:List Br) (A:Bc) (s:Ak) (vs ws:List Ae) (as bs:List Addr),Hl s.heap vs xs as->Hl s.heap ws ys bs->Cy xs ys=true->Dz xs=true->Dz ys=true ->
  A.units + min (DE xs) (DE ys) < C6->∀ j (h1:j < vs.length) (h2:j < ws.length),LtAt A s vs[j] ws[j] (RG xs ys j)
 | [],_,_,_,_,_,_,_,ra,_,_,_,_,_,j,h1,_=>by cases ra;exact absurd h1 (Yg _)
 | _::_,[],_,_,_,_,_,_,_,rb,_,_,_,_,j,_,h2=>by cases rb;exact absurd h2 (Yg _)
 | x::xs,y::ys,A,s,_,_,_,_,ra,rb,hc,ha,hb,hu,j,h1,h2=>by
  have ha':x.canLay0=true/\Dz xs=true:=by simpa [Dz] using ha
  have hb':y.canLay0=true/\Dz ys=true:=by simpa [Dz] using hb
  rw [Cy,A7] at hc;cases ra with
  | cons r rs=>
   cases rb with
   | cons r' rs'=>
    cases j with
    | zero=>exact TU x y A s _ _ _ _ r r' hc.1 ha'.1 hb'.1 (room_head hu)
    | succ j=>exact Pl xs ys A s _ _ _ _ rs rs' hc.2 ha'.2 hb'.2 (room_tail hu) j (GR h1) (GR h2)
end
end PySem.SeqAt
namespace QQ
open PySem PySem.Spec PyProof.Rows L2 PySem.W PySem.SeqAt
section
variable {prog:AD}{w:AB}{A:Bc}{E:Ae->Ak->Prop}{s:Ak}
theorem TX {Q:Bool->Ak->Prop}{fin:Bool}:∀ (xs ys:List Br) (vs ws:List Ae) (as bs:List Addr) (i:Nat),Hl s.heap vs xs as->Hl s.heap ws ys bs->Cy xs ys=true->Dz xs=true->Dz ys=true ->
  A.units + min (DE xs) (DE ys) < C6->fin=decide (xs.length < ys.length)->Q (Bu xs ys) s->KatLex prog w A false fin Q (vs.zip ws) i s
 | [],ys,_,ws,_,_,i,ra,rb,_,_,_,_,hf,h=>by
  cases ra;rw [List.zip_nil_left];refine kat_nil ?_;rw [hf];cases ys with
  | nil=>rw [Bu] at h;exact h
  | cons y ys=>rw [Bu] at h;exact h
 | x::xs,[],vs,_,_,_,i,ra,rb,_,_,_,_,hf,h=>by
  cases rb;rw [List.zip_nil_right];refine kat_nil ?_;rw [hf];rw [Bu] at h;exact h
 | x::xs,y::ys,_,_,_,_,i,ra,rb,hc,ha,hb,hu,hf,h=>by
  have ha':x.canLay0=true/\Dz xs=true:=by simpa [Dz] using ha
  have hb':y.canLay0=true/\Dz ys=true:=by simpa [Dz] using hb
  rw [Cy,A7] at hc;rw [Bu] at h;cases ra with
  | cons r rs=>
   cases rb with
   | cons r' rs'=>
    rw [List.zip_cons_cons];refine kat_cons (eqAt_reads x y A s _ _ _ _ r r' ha'.1 hb'.1 (room_head hu) prog w _ _ ?_);cases he:BK x y with
    | true=>
     rw [he,if_pos rfl] at h;refine kat_yes (TX xs ys _ _ _ _ (i + 1) rs rs' hc.2 ha'.2 hb'.2 (room_tail hu) ?_ h);rw [hf,Ba,Ba];exact decide_eq_decide.mpr (by omega)
    | false=>
     rw [he,if_neg Cp] at h;refine kat_no (kat_one _ _ ?_);exact TU x y A s _ _ _ _ r r' hc.1 ha'.1 hb'.1 (room_head hu) prog w _ _ h
theorem Pf:∀ {us:List Ae}{Ds:List Br}{as:List Addr},Hl s.heap us Ds as->∀ i,i < us.length->∃ bs,Reads s.heap (us.getD i Value.none) (Ds.getD i .none) bs
 | _,_,_,.nil,i,h=>by cases h
 | _,_,_,.cons r rs,0,_=>⟨_,r⟩
 | _,_,_,.cons r rs,i + 1,h=>Pf rs i (GR h)
def Js:Br->Bool
 | .tuple (.tuple _::_)=>true
 | _=>false
theorem WS {M:Model}:∀ {us:List Ae}{Ds:List Br}{as:List Addr},Hl s.heap us Ds as->Ds.all Js=true->∃ fs,fs.length=us.length/\KatTups s.heap us fs/\∀ v∈fs,Looks M s.heap (typeOf v) (.type "tuple")
 | _,_,_,.nil,_=>⟨[],rfl,trivial,λ _ z=>nomatch z⟩
 | _,_,_,.cons r rs,h=>by
  rw [HB,A7] at h;obtain ⟨fs,l,k,t⟩:=WS (M:=M) rs h.2;cases r with
  | @tuple a o vs n xs as1 h1 h2 h3 h4=>
   cases xs with
   | nil=>cases h.1
   | cons x xs=>
    cases x with
    | tuple ys=>
     generalize e0:vs.toList=l0 at h4;cases h4 with
     | @cons v0 vr _ _ _ _ r0 rr=>
      cases r0 with
      | @tuple a2 o2 vs2 n2 _ as2 g1 g2 g3 g4=>
       have hf:vs[0]?=some (.ref a2):=by
        rw [<- SY,e0];rfl
       refine ⟨.ref a2::fs,by rw [Ba,Ba,l],KatTups.cons h1 h2 h3 hf k,λ v hv=>?_⟩;rcases ja9.mp hv with rfl | hv
       ·have:Looks M s.heap (typeOf (.ref a2)) o2.cls:=(Looks.ld g1).andThen .now
        rw [g2] at this;exact this
       ·exact t v hv
    | _=>cases h.1
  | _=>cases h.1
theorem Xi:∀ {Ds:List Br},Dz Ds=true->∀ D∈Ds,D.canLay0=true
 | [],_,_,h=>by cases h
 | x::xs,hl,D,hD=>by
  have h2:x.canLay0=true/\Dz xs=true:=by simpa [Dz] using hl
  rcases ja9.mp hD with e | hD
  ·rw [e];exact h2.1
  ·exact Xi h2.2 D hD
def kW {us:List Ae}{Ds:List Br}{as:List Addr} (r:Hl s.heap us Ds as) (hn:0 < us.length) (hf:Ds.all Js=true) (hc:∀ D∈Ds,∀ D'∈Ds,BN D D'=true) (hl:Dz Ds=true) (hu:A.units + 64 < C6) (hd:∀ D∈Ds,D.depth<=40):
  Asks prog w A us (tuples' false) (λ i j=>CM (Ds.getD i .none) (Ds.getD j .none)) s:=by
 have len:=ReadsAll.length _ _ _ r;refine ⟨λ Q hq=>?_,λ i j hi hj C hC=>?_⟩
 ·obtain ⟨fs,l,k,t⟩:=WS (M:=Av prog w) r hf;exact kat_kind k (by omega) t (by decide) hq
 ·obtain ⟨bi,ri⟩:=Pf r i hi;obtain ⟨bj,rj⟩:=Pf r j hj;have gm:∀ i,i < us.length->Ds.getD i .none∈Ds:=λ i h=>by
   rw [AH,BC (by omega)];exact Fy (by omega)
  have mi:=gm i hi;have mj:=gm j hj;have ti:=jc1.mp hf _ mi;have tj:=jc1.mp hf _ mj;have cij:=hc _ mi _ mj;have lay:=Xi hl;have li:=lay _ mi;have lj:=lay _ mj;have di:=hd _ mi;have dj:=hd _ mj;revert hC;generalize Ds.getD i .none=D at ri ti cij li di;generalize Ds.getD j .none=D' at rj tj cij lj dj;generalize us.getD i Value.none=u at ri ⊢;generalize us.getD j Value.none=u' at rj ⊢;intro hC;cases ri with
  | @tuple a o vs n xs as1 h1 h2 h3 h4=>
   cases rj with
   | @tuple a' o' vs' n' ys as1' k1 k2 k3 k4=>
    rw [BN] at cij;have hC':C (Bu xs ys) s:=by
     have:CM (.tuple xs) (.tuple ys)=Bu xs ys:=by rw [CM]
     rw [<- this];exact hC
    have n1:vs.size=xs.length:=by simpa using ReadsAll.length _ _ _ h4
    have n2:vs'.size=ys.length:=by simpa using ReadsAll.length _ _ _ k4
    refine kat_lt h1 h3 k1 k3 (TX xs ys _ _ _ _ 0 h4 k4 cij li lj ?_ (by rw [n1,n2]) hC');have e:(PyData.tuple xs).depth=DE xs + 1:=by simp [PyData.depth]
    have:=OK (DE xs) (DE ys)
    omega
   | _=>cases tj
  | _=>cases ti
end
def IC (r:List Nat) (i j:Nat):Bool:=decide (r.getD i 0 < r.getD j 0)
def GB (n:Nat) (r:List Nat):Bool:=K9 n (IC r) (GI n) && ((D1 (IC r) (GI n)).toList.map (λ i=>r.getD i 0) == An n) && (D1 (IC r) (GI n)).toList.all λ i=>decide (i < n)
def Ik:Nat->List Nat->List (List Nat)
 | 0,_=>[[]]
 | k + 1,av=>av.flatMap λ x=>(Ik k (av.erase x)).map (x::·)
theorem TB:∀ (l:List Nat) (av:List Nat),l.Nodup->(∀ x∈l,x∈av)->l∈Ik l.length av
 | [],av,_,_=>jc0.mpr rfl
 | x::l,av,hn,ha=>by
  rw [jh2] at hn;rw [Ba];unfold Ik;refine jl3.mpr ⟨x,ha x A9,List.mem_map_of_mem (TB l _ hn.2 λ y hy=>?_)⟩;refine (List.mem_erase_of_ne (λ e=>?_)).mpr (ha y (A8 _ hy));rw [e] at hy;exact hn.1 hy
def kO:(Ik 2 (An 2)).all (GB 2)=true:=by decide +kernel
def kr:(Ik 3 (An 3)).all (GB 3)=true:=by decide +kernel
def ku:(Ik 4 (An 4)).all (GB 4)=true:=by decide +kernel
def ky:(Ik 5 (An 5)).all (GB 5)=true:=by decide +kernel
def kz:(Ik 6 (An 6)).all (GB 6)=true:=by decide +kernel
def MW {r:List Nat} (h2:2<=r.length) (h6:r.length<=6) (hn:r.Nodup) (hl:∀ x∈r,x < r.length):GB r.length r=true:=by
 have m:=TB r (An r.length) hn λ x hx=>jc6.mpr (hl x hx);generalize r.length=n at h2 h6 m
 have:n=2\/n=3\/n=4\/n=5\/n=6:=by omega
 rcases this with rfl | rfl | rfl | rfl | rfl
 ·exact jc1.mp kO _ m
 ·exact jc1.mp kr _ m
 ·exact jc1.mp ku _ m
 ·exact jc1.mp ky _ m
 ·exact jc1.mp kz _ m
section
variable {prog:AD}{w:AB}{A:Bc}{E:Ae->Ak->Prop}{s:Ak}
def kM {a:Addr}{u:Ae}{n:Nat}{P:Fin->Ak->Prop} (ho:s.heap.get? a=some (Bo "list" [u].toArray n)) (h:P (.done (.ret .none)) { s with heap:=sortedHeap s.heap a [u] [u].toArray }):Aw (Av prog w) A (vf2.«list.sort» ⟨[.ref a],[]⟩) P E s:=by
 rw [Qs];have la:=Bn ho;have z:=LM;refine A4 (listItems_at ho rfl ?_);refine A4 (Kz ho rfl ?_ (by simp;omega));obtain ⟨e1,oa⟩:∃ e1,(s.heap.update a (C7 λ _=>#[])).get? a=some (Bo "list" #[] e1):=⟨_,Qq ho (λ _=>#[])⟩
 refine A4 (Kw oa rfl ?_);refine A4 (Qm ?_);refine A4 (K0 ?_);refine GK ?_;have ob:(((s.heap.update a (C7 λ _=>#[])).push (Bo "tuple" [u].toArray 0)).push (Bo "list" #[] 0)).get? a=some (Bo "list" #[] e1):=by
  rw [K2 _ _ _ (by rw [Kv,Hn];exact Cc (IJ la)),K2 _ _ _ (by rw [Hn];exact Cc la)];exact oa
 show Aw (Av prog w) A _ P E { s with heap:=((s.heap.update a (C7 λ _=>#[])).push (Bo "tuple" [u].toArray 0)).push (Bo "list" #[] 0) };dsimp only;have lz:[u].toArray.size < 2:=by simp
 rw [if_pos lz,if_pos lz];refine A4 (Bw ?_);rw [StateT.run_pure];refine A4 (Bw ?_);dsimp only;refine A4 (Kw ob rfl ?_);have ea:XU (λ x:Ae×Ae=>x.snd) (arrOf (SortSt.mk' general' ([u].toArray.zip [u].toArray) #[] 7 none))=[u].toArray:=by
  show XU (λ x:Ae×Ae=>x.snd) ([u].toArray.zip [u].toArray)=_;simp
 rw [ea];refine A4 (Kz ob rfl ?_ (hsz2:=by simp));simp only [bne_self_eq_false,JH,if_false];exact Bw h
def wm {l:Addr}{u:Ae}{Q:Ae->Ak->Prop} (hl:s.heap.IsList l [u].toArray) (h:Q (.ref (s.heap.objs.size + 1)) { s with heap:=Jn s.heap [u] [u].toArray }):Aw (Av prog w) A (call (.builtin "sorted") [.ref l]) Q E s:=by
 have z:=LM;refine QD kind_sorted plain_sorted entry_sorted (args_sorted1 _) ?_;unfold vf2.«sorted»;refine A4 (m:=checkCount "sorted" 1 1 _) (Bw ?_);refine A4 (collect_list hl ?_ (by show 1<=_;omega));refine A4 (K0 ?_ (by show 1<=_;omega));have lz:((s.heap.push (Bo "list" #[] 0)).update s.heap.objs.size (C7 (·++[u].toArray))).objs.size=s.heap.objs.size + 1:=by
  rw [Hn,Kv]
 have oL:(((s.heap.push (Bo "list" #[] 0)).update s.heap.objs.size (C7 (·++[u].toArray))).push (Bo "list" [u].toArray 0)).get? (s.heap.objs.size + 1)=some (Bo "list" [u].toArray 0):=by
  rw [<- lz];exact DF _ rfl
 show Aw _ _ _ _ _ { s with heap:=((s.heap.push (Bo "list" #[] 0)).update s.heap.objs.size (C7 (·++[u].toArray))).push (Bo "list" [u].toArray 0) };rw [lz];refine A4 (GK (NC Ql ⟨_,oL,rfl⟩ Qp (kM oL ⟨_,rfl,?_⟩) (Qj _)));exact Bw ⟨_,rfl,h⟩
end
def Dv (Ds:List Br):List Nat:=Ds.map λ D=>(Ds.filter λ D'=>CM D' D).length
def Fi (Ds:List Br):Bool:=decide (2<=Ds.length/\Ds.length<=6) && Ds.all Js && (Ds.all λ D=>Ds.all λ D'=>BN D D') && decide (Dv Ds).Nodup && ((Dv Ds).all λ k=>decide (k < Ds.length)) &&
 (An Ds.length).all λ i=>(An Ds.length).all λ j=>CM (Ds.getD i .none) (Ds.getD j .none) == IC (Dv Ds) i j
def AY (Ds:List Br):List Nat:=if Ds.length=1 then [0] else (D1 (IC (Dv Ds)) (GI Ds.length)).toList
theorem Uz:∀ {ws:List V}{us:List Ae},Vals ws us->∀ i,i < ws.length->RelV (ws.getD i .non) (us.getD i Value.none)
 | _,_,.nil,i,h=>by cases h
 | _,_,.cons r rs,0,_=>r
 | _,_,.cons r rs,i + 1,h=>Uz rs i (GR h)
theorem U1 {ws:List V}{us:List Ae} (h:Vals ws us):∀ p:List Nat,(∀ i∈p,i < ws.length)->Vals (p.map λ i=>ws.getD i .non) (p.map λ i=>us.getD i Value.none)
 | [],_=>.nil
 | i::p,hp=>.cons (Uz h i (hp i A9)) (U1 h p λ j hj=>hp j (A8 _ hj))
section
variable {X:Cx}{M:Fm}{fa:Fa}{vs:List Nat}{e:Expr}{es:List Expr}{pos p:Pos}
def O9 {Ds:List Br} (h:Ds.length=1\/Fi Ds=true):(∀ i∈AY Ds,i < Ds.length)/\(AY Ds).length=Ds.length:=by
 rcases h with h | h
 ·unfold AY;rw [if_pos h,h];exact ⟨λ i hi=>by rw [jc0.mp hi];decide,rfl⟩
 ·unfold Fi at h;rw [A7,A7,A7,A7,A7] at h;obtain ⟨⟨⟨⟨⟨h1,_⟩,_⟩,h4⟩,h5⟩,_⟩:=h;have h1:=of_decide_eq_true h1;have lr:(Dv Ds).length=Ds.length:=Ax _;have ok:=MW (r:=Dv Ds) (by omega) (by omega) (of_decide_eq_true h4) (λ x hx=>by rw [lr];exact of_decide_eq_true (jc1.mp h5 x hx));rw [lr] at ok;unfold GB at ok;rw [A7,A7] at ok;unfold AY;rw [if_neg (by omega)];refine ⟨λ i hi=>of_decide_eq_true (jc1.mp ok.2 i hi),?_⟩
  have:=congrArg SD (eq_of_beq ok.1.2)
  rw [Ax,CQ] at this;exact this
def TY (hu:X.A.units + 70 < C6):CallR X (.builtin "sorted") (λ xs H Q=>∃ q ws ys d Z f Ds,xs=[.ref q]/\BG X.K H q ws/\Own X.K H Z (.lst ys) d (.ref q) f/\A3 (Be 20) ys=some Ds/\(Ds.length=1\/Fi Ds=true)/\∀ l,H l=none->Q (.ref l) (As H l (.lst ((AY Ds).map λ i=>ws.getD i .non)))):=by
 intro pins s σ H xs us Q I rv h;obtain ⟨q,ws,ys,d,Z,f,Ds,rfl,hq,ow,hD,hg,k⟩:=h;obtain ⟨u,rfl,rx⟩:=Hf rv;cases rx;obtain ⟨its,r,pl,hz⟩:=I.list hq;have hlen:=r.length;obtain ⟨as,rd⟩:=Gs I 21 (.lst ys) d _ f (.ref q) (.list Ds) (by show (A3 (Be 20) ys).map PyData.list=_;rw [hD];rfl) ow rfl;have lay:=Kt (λ x D h=>FD 20 x D h) hD;have rda:∃ bs,Hl s.heap its Ds bs:=by
  obtain ⟨o,n,e1,e2,e3,e4⟩:=pl;cases rd with
  | @list a o' vs n' xs as1 h1 h2 h3 h4=>
   rw [e1] at h1;cases h1;rw [e4] at h3;cases h3;exact ⟨_,by simpa using h4⟩
 obtain ⟨bs,rda⟩:=rda;have ln:=ReadsAll.length _ _ _ rda;have oo:=O9 hg;have go:EP X pins σ Q (.ref (s.heap.objs.size + 1)) { s with heap:=Jn s.heap its (KI ((AY Ds).map λ i=>its.getD i Value.none)) }:=by
  obtain ⟨c,hc⟩:=sortedAll_at s.heap its (KI ((AY Ds).map λ i=>its.getD i Value.none));refine ⟨.ref _,_,I.laid (h':=Jn s.heap its (KI ((AY Ds).map λ i=>its.getD i Value.none))) (t':=s.toks) (o:=.lst ((AY Ds).map λ i=>ws.getD i .non)) (λ b o e=>sortedAll_old e) (Mv _) ?_,rfl,k _ (I.hok.fresh (Mv _))⟩;refine ⟨by rw [Ax,oo.2];omega,_,c,U1 r _ (λ i hi=>by have:=oo.1 i hi;omega),hc⟩
 by_cases h1:Ds.length=1
 ·match its,ln with
  | [u0],_=>
   refine wm pl.isList ?_
   have:(AY Ds).map (λ i=>[u0].getD i Value.none)=[u0]:=by unfold AY;rw [if_pos h1];rfl
   rw [this] at go;exact go
  | [],ln=>rw [h1] at ln;cases ln
  | _::_::_,ln=>rw [h1] at ln;simp at ln
 ·have hg:=hg.resolve_left h1;have eo:AY Ds=(D1 (IC (Dv Ds)) (GI its.length)).toList:=by unfold AY;rw [if_neg h1,ln]
  rw [eo] at go;unfold Fi at hg;rw [A7,A7,A7,A7,A7] at hg;obtain ⟨⟨⟨⟨⟨g1,g2⟩,g3⟩,g4⟩,g5⟩,g6⟩:=hg;have g1:=of_decide_eq_true g1;have lr:(Dv Ds).length=Ds.length:=Ax _;have ok:=MW (r:=Dv Ds) (by omega) (by omega) (of_decide_eq_true g4) (λ x hx=>by rw [lr];exact of_decide_eq_true (jc1.mp g5 x hx));rw [lr] at ok;unfold GB at ok;rw [A7,A7,<- ln] at ok;refine wy (κ:=tuples' false) (lt:=IC (Dv Ds)) pl.isList (by omega) (by omega) ok.1.1 (λ h' kp=>?_) go;have as:=kW (prog:=X.prog) (w:=X.w) (A:=X.A.in1.in1) (s:={ s with heap:=h' }) (ReadsAll.keeps kp rda) (by omega) g2 (λ D hD D' hD'=>jc1.mp (jc1.mp g3 D hD) D' hD') lay.1 (by show X.A.units + 1 + 1 + 64 < C6;omega) (λ D hD=>by
   have:∀ (l:List Br),D∈l->DE l<=20->D.depth<=40:=λ l=>by
    induction l with
    | nil=>intro h;cases h
    | cons x xs ih=>
     intro h hd;have e:DE (x::xs)=max x.depth (DE xs):=by simp [DE]
     rw [e] at hd;rcases ja9.mp h with e2 | h
     ·rw [e2];omega
     ·exact ih h (by omega)
   exact this Ds hD lay.2)
  refine ⟨as.kind,λ i j hi hj C hC=>as.less i j hi hj C ?_⟩
  have:=eq_of_beq (jc1.mp (jc1.mp g6 i (jc6.mpr (by omega))) j (jc6.mpr (by omega)))
  rw [this];exact hC
def O8:List (PV×Nat)->Option (PV×Nat)
 | [(.lst ys,_)]=>(match A3 (Be 20) ys with
  | some Ds=>if Ds.length=1\/Fi Ds=true then some (.lst ((AY Ds).map λ i=>ys.getD i .non),1) else none
  | none=>none)
 | _=>none
def Jj (xs:List (PV×Nat)):Option (PV×Nat):=match Rt xs with
 | some r=>some r
 | none=>O8 xs
theorem XG {K:Frag}{H:Hp}{Z:Addr->Prop}:∀ {ys:List PV}{ws:List V},OwnL K H Z ys 0 ws []->∀ i,i < ys.length->Own K H Z (ys.getD i .non) 0 (ws.getD i .non) []
 | [],_,_,i,h=>by cases h
 | y::ys,ws,o,i,h=>by
  rw [OwnL] at o;obtain ⟨v,s,f1,f2,rfl,e,dj,h1,h2⟩:=o;obtain ⟨rfl,rfl⟩:=List.append_eq_nil_iff.mp e.symm;cases i with
  | zero=>exact h1
  | succ i=>exact XG h2 i (GR h)
theorem Xp {K:Frag}{H:Hp}{Z:Addr->Prop}{ys:List PV}{ws:List V} (o:OwnL K H Z ys 0 ws []):∀ p:List Nat,(∀ i∈p,i < ys.length)->OwnL K H Z (p.map λ i=>ys.getD i .non) 0 (p.map λ i=>ws.getD i .non) []
 | [],_=>by rw [Dq,Dq,OwnL];exact ⟨rfl,rfl⟩
 | i::p,hp=>by
  rw [Bf,Bf,OwnL];exact ⟨_,_,[],[],rfl,rfl,(λ _ z=>nomatch z),XG o i (hp i A9),Xp o p λ j hj=>hp j (A8 _ hj)⟩
theorem Px {f:PV->Option Br}:∀ {xs:List PV}{Ds:List Br},A3 f xs=some Ds->Ds.length=xs.length
 | [],Ds,h=>by cases h;rfl
 | x::xs,Ds,h=>by
  unfold A3 at h;split at h
  ·rename_i a r h1 h2;cases h;rw [Ba,Ba,Px h2]
  ·cases h
def zL (hu:X.A.units + 70 < C6) (hg:Gl X "sorted") (hm:X.mg "sorted" = none) (ha:PA X (e::es) (tL M fa vs)) (he:AN (e::es) X.env=(false,eval e X.env)::AN es X.env) (hpl:(DD pos (AN es X.env)).any (·.1)=false) (hK:M.K=X.K):
  PE X (.Call (.Name "sorted" p) (e::es) [] pos) (tE M (Al Jj fa) vs):=by
 refine BW (GZ (L2.CallR.or jA (TY hu)) hg hm rfl ha (he:=he) (hpl:=hpl)) λ σ H Q h=>Ks (λ xs z c ws H fps fp Q ho tm nz zd lf=>?_) h;unfold Jj at ho;split at ho
 ·rename_i r hr;cases ho
  left
  unfold Rt at hr;split at hr
  ·rename_i xs d;split at hr
   ·rename_i ns eb;split at hr
    ·rename_i hk;cases hr;obtain ⟨v,r',f1,f2,rfl,rfl,_,o1,h2⟩:=tm;obtain ⟨rfl,rfl⟩:=h2;obtain ⟨q,us,rfl,hs,ol⟩:=(cold (fp:=f1) o1 λ a ha=>nz a (Bq _ ha)).coldL
     have:=Le eb ol
     subst this;refine ⟨q,ns,rfl,.inl (.inl hs),hk,λ l hl=>?_⟩;have ed:om=d1 ((I0 ns).map PV.int):=by unfold d1;rw [W2];rfl
     rw [ed] at lf;exact IZ lf (Xe _) hl
    ·cases hr
   ·cases hr
  ·cases hr
 ·right
  unfold O8 at ho;split at ho
  ·rename_i ys d h0;split at ho
   ·rename_i Ds hD;split at ho
    ·rename_i hk;cases ho;obtain ⟨v,r',f1,f2,rfl,rfl,_,o1,h2⟩:=tm;obtain ⟨rfl,rfl⟩:=h2;have oc:=cold (fp:=f1) o1 λ a ha=>nz a (Bq _ ha);obtain ⟨q,us,rfl,hs,ol⟩:=oc.coldL;refine ⟨q,us,ys,0,_,[],Ds,rfl,.inl (.inl hs),by rw [<- hK];exact oc,hD,hk,λ l hl=>?_⟩;have oo:=O9 hk;exact Qb lf (Xp ol _ λ i hi=>by have:=oo.1 i hi;rw [Px hD] at this;exact this) hl
    ·cases ho
   ·cases ho
  ·cases ho
end
open PySem PySem.Spec PyProof.Rows L2
abbrev D2:=Fx×List Nat
def Gx (d:Expr->Option D2):List Expr->Option (Fa×List Nat)
 | []=>some (Ac,[])
 | e::es=>match d e,Gx d es with
  | some (f,v),some (fa,u)=>some (Ad f fa,v++u)
  | _,_=>none
def Ov (d:Expr->Option D2):List Expr->Option D2
 | []=>none
 | [e]=>d e
 | e::es=>match d e,Ov d es with
  | some (f,v),some (g,u)=>some (BH f g,v++u)
  | _,_=>none
def Oh (d:Expr->Option D2):List Expr->Option D2
 | []=>none
 | [e]=>d e
 | e::es=>match d e,Oh d es with
  | some (f,v),some (g,u)=>some (AI f g,v++u)
  | _,_=>none
def MC:Const->Option D2
 | .int i=>some (bC (.int i),[])
 | .bool b=>some (bC (.bl b),[])
 | .none=>some (bC .non,[])
 | .str x=>some (bC (.str x),[])
 | _=>none
def Jr (x:Str):Option String:=if x = "int" then some "int" else if x = "bool" then some "bool" else if x = "str" then some "str" else if x = "list" then some "list" else if x = "tuple" then some "tuple" else if x = "dict" then some "dict" else none
def Rn (x:Str):Option (List (PV×Nat)->Option (PV×Nat)):=
 if x = "len" then some Bj else if x = "all" then some Gz else if x = "max" then some DL else if x = "min" then some EC else if x = "list" then some EB else if x = "sorted" then some Jj else none
def Ff (scope sc:Bz):Bz:={ scope with names:=scope.names.map λ (n,k)=>if (k == .free && sc.kind == .function && sc.names.lookup n == some .cell) then (n,.cell) else (n,k) }
def Sy (i:Nat):Str:=⟨#[2000000 + i]⟩
def Il (sc':Bz):Nat->List Str->List Str
 | _,[]=>[]
 | i,x::r=>(if DH sc' x .cell || DH sc' x .free then x else Sy i)::Il sc' (i + 1) r
def Ny:List Expr->Option (List Str)
 | []=>some []
 | .Name x _::r=>(Ny r).map (x::·)
 | _=>none
def NK (n:Nat):Expr->Option (List Str×(PV->Ag->Option Ag))
 | .Name x _=>some ([x],Aj n)
 | .Tuple es _ _=>(Ny es).map λ xs=>(xs,AZ (KC n xs.length))
 | _=>none
def M6:Expr->Bool
 | .Tuple _ _ _=>true
 | _=>false
def Bm (S:Sx) (scope:Bz) (xs:List Str) (vI:List Nat):Sx:=⟨Il (Ff scope S.sc) 0 S.N++xs,Ff scope S.sc,S.ms,(An S.N.length).map S.alF++Bg xs.length vI,S.Γ,S.Γm,false,S.xc,S.pn⟩
def Nu (S:Sx) (scope:Bz) (xs:List Str) (vI:List Nat):Bool:=
 let S':=Bm S scope xs vI;decide (scope.kind=.function) && scope.names.all (λ x=>x.2 != .free || !(scope.names.contains (x.1,.cell))) && scope.names.all (λ x=>x.2 != .local || scope.names.lookup x.1 == some .local)
 && scope.names.all (λ x=>x.2 != .free || (S.sc.names.lookup x.1 == some .cell || S.sc.names.lookup x.1 == some .free))
 && (An S.N.length).all (λ i=>match S'.N[i]? with
  | some x=>!Dw S'.sc x || (decide (S.N[i]?=some x) && Dw S.sc x && scope.names.contains (x,.free) && !DH S'.sc x .local)
  | none=>true)
 && decide S'.N.Nodup && xs.all (λ x=>DH S'.sc x .local || (DH S'.sc x .cell && scope.names.contains (x,.cell))) && decide (S.N.length≠0) && (S.ms.all λ i=>decide (i < S.N.length))
inductive Iw where
 | rng (en:List (PV×Nat)->Option (Int×Int)) (fa:Fa) (vs:List Nat)
 | seq (f:Fx) (vs:List Nat)
 | vw (v:Vw) (fa:Fa) (vs:List Nat)
def Iw.vs:Iw->List Nat
 | .rng _ _ _=>[]
 | .seq _ vs=>vs
 | .vw _ _ vs=>vs
def FW (tg:Expr):Iw->Bool
 | .vw .enm _ _=>M6 tg
 | .vw .zp _ _=>M6 tg
 | _=>true
def EZ (d:Expr->Option D2) (S:Sx) (it:Expr):Option Iw:=match it with
 | .Call (.Name x _) [a] [] _=>if x = "range" /\ S.glob "range" = true then (match Gx d [a] with
   | some (fa,vs)=>some (.rng AJ fa vs)
   | none=>none) else (match d it with
   | some (f,vs)=>some (.seq f vs)
   | none=>none)
 | .Call (.Name x _) [a,b] [] _=>if x = "range" /\ S.glob "range" = true then (match Gx d [a,b] with
   | some (fa,vs)=>some (.rng FO fa vs)
   | none=>none) else if x = "zip" /\ S.glob "zip" = true then (match Gx d [a,b] with
   | some (fa,vs)=>some (.vw .zp fa vs)
   | none=>none) else (match d it with
   | some (f,vs)=>some (.seq f vs)
   | none=>none)
 | _=>match d it with
   | some (f,vs)=>some (.seq f vs)
   | none=>none
def Ml (iw:Iw) (k:Nat) (asg:PV->Ag->Option Ag) (test:Fb) (elt:Fx):Fx:=match iw with
 | .rng en fa _=>Cj en fa k asg test elt
 | .seq f _=>AO f k asg test elt
 | .vw v fa _=>EI v fa k asg test elt
def AA:Fb:=λ ρ=>.ok (true,ρ)
def Ow (d:Expr->Option D2):List Expr->Option Fb
 | []=>some AA
 | [c]=>(d c).map λ p=>bT p.1
 | _=>none
def RI:Expr->Bool
 | .UnaryOp .USub c _=>(match c with
  | .Constant k _ _=>(match k with
   | .int i=>i == 1
   | _=>false)
  | _=>false)
 | _=>false
def vB {e:Expr} (h:RI e=true):∃ k p3 p4,e=.UnaryOp .USub (.Constant (.int 1) k p3) p4:=by
 unfold RI at h;split at h
 ·split at h
  ·split at h
   ·rename_i i
    have:i=1:=eq_of_beq h
    subst this;exact ⟨_,_,_,rfl⟩
   ·cases h
  ·cases h
 ·cases h
def D3:Expr->Option Str
 | .Name x _=>some x
 | _=>none
def D9 {e:Expr}{x:Str} (h:D3 e=some x):∃ p,e=.Name x p:=by
 cases e <;> first | (cases h;exact ⟨_,rfl⟩) | (cases h)
def KZ:Expr->Option Int
 | .Constant c _ _=>(match c with
  | .int i=>some i
  | _=>none)
 | _=>none
def Oy {e:Expr}{i:Int} (h:KZ e=some i):∃ k p,e=.Constant (.int i) k p:=by
 unfold KZ at h;split at h
 ·split at h
  ·cases h;exact ⟨_,_,rfl⟩
  ·cases h
 ·cases h
def Vu (d:Sx->Expr->Option D2) (S:Sx) (a:Expr):Option Expr->Option Expr->Option Expr->Option D2
 | none,some hi,none=>match d S a,d S hi with
  | some (f,v),some (g,_)=>some (CO f none (some g),v)
  | _,_=>none
 | some lo,none,none=>match d S a,d S lo with
  | some (f,v),some (g,_)=>some (CO f (some g) none,v)
  | _,_=>none
 | some lo,some hi,none=>match d S a,d S lo,d S hi with
  | some (f,v),some (g,_),some (h,_)=>some (CO f (some g) (some h),v)
  | _,_,_=>none
 | none,none,some st=>if RI st=true then (match d S a with
  | some (f,v)=>some (Ao BS f,v)
  | none=>none) else none
 | _,_,_=>none
def Vv (d:Sx->Expr->Option D2) (S:Sx) (a b:Expr):Option D2:=match b with
 | .Slice lo hi st _=>Vu d S a lo hi st
 | b=>match D3 a,KZ b with
  | some x,some i=>(match S.slot x with
   | some j=>if S.msF j=true then none else some (Ab Ah (Aa j) (bC (.int i)),(j::S.alF j)++[])
   | none=>none)
  | _,_=>match d S a,d S b with
   | some (f,v),some (g,u)=>if LD b=true then some (Ab Ah f g,v++u) else none
   | _,_=>none
def Oc (S:Sx) (T:Str):Option Nat:=if S.glob T=true/\S.xc≠[] then (if T = "ValueError" then some 0 else match XN.findIdx? (·== T) with
 | some c=>if S.xc.contains c=true then some c else none
 | none=>none) else none
def Ot (S:Sx):List Expr->Option (List Nat)
 | []=>some []
 | e::r=>match D3 e,Ot S r with
  | some T,some ds=>(Oc S T).map (·::ds)
  | _,_=>none
def Vr (d:Expr->Option D2) (S:Sx) (e c:Expr):Option D2:=match d e with
 | some (f,v)=>if S.glob "isinstance" = true then (match c with
  | .Name T _=>(match Jr T with
   | some t=>if S.glob T=true then some (Ao (AK t) f,v) else none
   | none=>(Oc S T).map λ n=>(Ao (Ko [n]) f,v))
  | .Tuple es _ _=>if es.length<=100/\es≠[] then (Ot S es).map λ ns=>(Ao (Ko ns) f,v) else none
  | _=>none) else none
 | none=>none
def EY:List Comprehension->Option (Expr×Expr×List Expr)
 | []=>none
 | g::r=>(match r with
  | []=>(match g with
   | ⟨tg,it,ifs,n⟩=>if n=0 then some (tg,it,ifs) else none)
  | _::_=>none)
def xW {gs:List Comprehension}{tg it:Expr}{ifs:List Expr} (h:EY gs=some (tg,it,ifs)):gs=[⟨tg,it,ifs,0⟩]:=by
 unfold EY at h;split at h
 ·cases h
 ·split at h
  ·split at h;split at h
   ·rename_i hn;cases h;subst hn;rfl
   ·cases h
  ·cases h
def Vp (d:Expr->Option D2) (a:Expr) (ops:List E4) (bs:List Expr):Option D2:=match ops with
 | [op]=>(match bs with
  | [b]=>(match d a,d b,Rp b op with
   | some (f,v),some (g,u),some o=>some (Ab o f g,v++u)
   | _,_,_=>none)
  | _=>none)
 | [op,op']=>(match bs with
  | [b,c]=>(match d a,d b,d c,Gi op,Gi op' with
   | some (f,_),some (g,_),some (h,_),some p,some q=>some (Ii p q f g h,[])
   | _,_,_,_,_=>none)
  | _=>none)
 | _=>none
def He (d:Sx->Expr->Option D2) (S:Sx):Expr->Option D2
 | .Constant c _ _=>MC c
 | .Name x _=>match S.slot x with
  | some i=>if S.msF i=true then none else some (Aa i,i::S.alF i)
  | none=>none
 | .BinOp a op b _=>match d S a,d S b,UN b op with
  | some (f,v),some (g,u),some o=>some (Ab o f g,v++u)
  | _,_,_=>none
 | .UnaryOp op a _=>(match op with
  | .USub=>(match d S a with
   | some (f,v)=>some (Ao DC f,v)
   | none=>none)
  | .Not=>(match d S a with
   | some (f,v)=>some (Ao BU f,v)
   | none=>none)
  | _=>none)
 | .BoolOp op es _=>(match op with
  | .And=>Ov (d S) es
  | .Or=>Oh (d S) es)
 | .Compare a ops bs _=>Vp (d S) a ops bs
 | .List es _=>match Gx (d S) es with
  | some (fa,v)=>some (Al Bs fa,v)
  | none=>none
 | .Tuple es _ _=>match Gx (d S) es with
  | some (fa,v)=>some (Al Cd fa,v)
  | none=>none
 | .Subscript a b _=>Vv d S a b
 | .Call fn args ks _=>(match ks with
  | []=>(match D3 fn with
   | some x=>(
     if x = "isinstance" then (match args with
      | [e,c]=>Vr (d S) S e c
      | _=>none)
     else match Rn x with
     | some o=>(match args with
      | e::es=>(match Gx (d S) (e::es) with
       | some (fa,v)=>if S.glob x=true then some (Al o fa,v) else none
       | none=>none)
      | []=>none)
     | none=>match S.Γ.lookup x with
      | some (false,_,F)=>(match args with
       | e::es=>(match Gx (d S) (e::es) with
        | some (fa,v)=>if S.glob x=true then some (Au F fa,v) else none
        | none=>none)
       | []=>none)
      | some (true,_,F)=>none
      | none=>none)
   | none=>none)
  | _::_=>none)
 | .ListComp elt gs scope _=>(match EY gs with
  | some (tg,it,ifs)=>(match NK S.N.length tg,EZ (d S) S it with
    | some (xs,asg),some iw=>if Nu S scope xs iw.vs=true/\FW tg iw=true then (match Ow (d (Bm S scope xs iw.vs)) ifs,d (Bm S scope xs iw.vs) elt with
     | some t,some (g,vE)=>some (Ml iw xs.length asg t g,iw.vs++vE.filter (λ i=>decide (i < S.N.length)))
     | _,_=>none) else none
    | _,_=>none)
  | none=>none)
 | _=>none
def BR:Nat->Sx->Expr->Option D2
 | 0,_,_=>none
 | n + 1,S,e=>He (BR n) S e
section
variable {X:Cx}{P:AD}{w:AB}{K:Frag}{mg:Str->Option Ae}{base:Heap}{lvl:Nat}{S:Sx}{Wx:St->Nat->Hp->Prop}{M:Fm}{f g:Fx}{vs vs':List Nat}{σ:St}{H:Hp}{Q:VK}
def jn {Q:Bool->Hp->Prop} (hq:tT M (bT (BH f g)) σ H Q):Jw (tT M (bT f)) (tT M (bT g)) σ H Q:=by
 refine xv ?_;have e:bT (BH f g)=HL (bT f) (bT g):=by
  funext ρ;unfold bT BH HL;dsimp only;cases f ρ with
  | no=>rfl
  | exc c=>rfl
  | ok p=>
   obtain ⟨x,d,ρ1⟩:=p;cases x with
   | bl b=>cases b <;> rfl
   | _=>rfl
 rw [<- e];exact hq
def xQ {Q:Bool->Hp->Prop} (hq:tT M (bT (AI f g)) σ H Q):QR (tT M (bT f)) (tT M (bT g)) σ H Q:=by
 refine ZO ?_;have e:bT (AI f g)=OV (bT f) (bT g):=by
  funext ρ;unfold bT AI OV;dsimp only;cases f ρ with
  | no=>rfl
  | exc c=>rfl
  | ok p=>
   obtain ⟨x,d,ρ1⟩:=p;cases x with
   | bl b=>cases b <;> rfl
   | _=>rfl
 rw [<- e];exact hq
def jr {Q:Bool->Hp->Prop} (hq:tT M (bT (Ao BU f)) σ H Q):Jt (tT M (bT f)) σ H Q:=by
 refine xx ?_;have e:bT (Ao BU f)=HK (bT f):=by
  funext ρ;unfold bT Ao HK;dsimp only;cases f ρ with
  | no=>rfl
  | exc c=>rfl
  | ok p=>
   obtain ⟨x,d,ρ1⟩:=p;cases x with
   | bl b=>cases b <;> rfl
   | _=>rfl
 rw [<- e];exact hq
def AV (P:AD) (w:AB) (K:Frag) (mg:Str->Option Ae) (base:Heap) (lvl:Nat) (S:Sx) (e:Expr) (f:Fx) (vs:List Nat):Prop:=
 (∀ i∈vs,S.msF i=false)/\Ij e=true/\∀ {Wx} X M,XS X P w K mg base lvl S Wx->MS M K S Wx->PE X e (tE M f vs)/\PT X e (tT M (bT f))
def MS.v (m:MS M K S Wx) (h:∀ i∈vs,S.msF i=false):∀ i∈vs,M.Ms i=false:=λ i hi=>by rw [m.ms];exact h i hi
def MS.k (m:MS M K S Wx) (xs:XS X P w K mg base lvl S Wx):M.K=X.K:=m.K.trans xs.K.symm
def CV {e:Expr} (h1:∀ i∈vs,S.msF i=false) (h2:Ij e=true) (h3:∀ env whole,isTrue e env whole=(do let v<-whole;standAt e.pos;holding [v] (truthy v)))
  (h:∀ {Wx} X M,XS X P w K mg base lvl S Wx->MS M K S Wx->PE X e (tE M f vs)):AV P w K mg base lvl S e f vs:=
 ⟨h1,h2,λ X M xs m=>⟨h X M xs m,L6 (qN (h X M xs m) λ wh=>h3 _ wh) λ σ H Q q=>RU q⟩⟩
def Ib {vs vs':List Nat} (h1:∀ i∈vs,S.msF i=false) (h2:∀ i∈vs',S.msF i=false):∀ i∈vs++vs',S.msF i=false:=λ i hi=>(jb2.mp hi).elim (h1 i) (h2 i)
def jJ {a b:Expr}{op:E4}{o:PV->Nat->PV->Nat->Option (PV×Nat)}{pos:Pos} (ho:Rp b op=some o) (ga:AV P w K mg base lvl S a f vs) (gb:AV P w K mg base lvl S b g vs'):AV P w K mg base lvl S (.Compare a [op] [b] pos) (Ab o f g) (vs++vs'):=by
 refine ⟨Ib ga.1 gb.1,rfl,λ X M xs m=>?_⟩;obtain ⟨r,hr,hn,hi⟩:=jF (X:=X) (M:=M) (f:=f) (g:=g) (vs:=vs) (vs':=vs') ho xs.room.units (m.v ga.1) (m.k xs);have ha:=(ga.2.2 X M xs m).1;have hb:=(gb.2.2 X M xs m).1;exact ⟨BW (zw hr ha hb hn) hi,L6 (jd hr ha hb hn) λ σ H Q q=>hi σ H _ (RU q)⟩
def vZ {a b c:Expr}{op op':E4}{p q:Int->Int->Bool}{h:Fx}{v3:List Nat}{pos:Pos} (h1:Gi op=some p) (h2:Gi op'=some q) (ga:AV P w K mg base lvl S a f vs) (gb:AV P w K mg base lvl S b g vs') (gc:AV P w K mg base lvl S c h v3):AV P w K mg base lvl S (.Compare a [op,op'] [b,c] pos) (Ii p q f g h) []:=by
 refine ⟨λ _ z=>(nomatch z),rfl,λ X M xs m=>?_⟩;have r1:=Uk (X:=X) h1;have r2:=Uk (X:=X) h2;have ha:=(ga.2.2 X M xs m).1;have hb:=(gb.2.2 X M xs m).1;have hc:=(gc.2.2 X M xs m).1;exact ⟨BW (jZ r1.1 r2.1 ha hb hc (Ia _ r2.2.1 r2.2.2)) λ σ H Q q=>Xz q,L6 (ke r1.1 r2.1 ha hb hc (Ia _ r2.2.1 r2.2.2)) λ σ H Q q=>Xz (vs:=[]) (RU q)⟩
def jK {a:Expr}{pos:Pos} (ga:AV P w K mg base lvl S a f vs):AV P w K mg base lvl S (.UnaryOp .Not a pos) (Ao BU f) vs:=
 ⟨ga.1,rfl,λ X M xs m=>⟨BW (qH (ga.2.2 X M xs m).1) λ σ H Q q=>zR q,L6 (qM (ga.2.2 X M xs m).2) λ σ H Q q=>jr q⟩⟩
theorem Ub {d:Expr->Option D2} (hd:∀ e f vs,d e=some (f,vs)->AV P w K mg base lvl S e f vs) {pos:Pos}:∀ (es:List Expr) (f:Fx) (vs:List Nat),Ov d es=some (f,vs)->(∀ i∈vs,S.msF i=false)/\∀ {Wx} X M,XS X P w K mg base lvl S Wx->MS M K S Wx->PE X (.BoolOp .And es pos) (tE M f vs)/\PW X (.BoolOp .And es pos) (tT M (bT f))
 | [],f,vs,h=>by cases h
 | [e],f,vs,h=>by
  have g:=hd e f vs h;exact ⟨g.1,λ X M xs m=>⟨V9 (g.2.2 X M xs m).1,ji (g.2.2 X M xs m).2⟩⟩
 | e::e'::es,f,vs,h=>by
  unfold Ov at h;split at h
  ·rename_i f1 v1 f2 v2 h1 h2;cases h;have g1:=hd e f1 v1 h1;have g2:=Ub hd (pos:=pos) (e'::es) f2 v2 h2;exact ⟨Ib g1.1 g2.1,λ X M xs m=>⟨BW (qF (g1.2.2 X M xs m).1 (g2.2 X M xs m).1) λ σ H Q q=>zP q,VC (qO (g1.2.2 X M xs m).2 (g2.2 X M xs m).2) λ σ H Q q=>jn q⟩⟩
  ·cases h
theorem Xb {d:Expr->Option D2} (hd:∀ e f vs,d e=some (f,vs)->AV P w K mg base lvl S e f vs) {pos:Pos}:∀ (es:List Expr) (f:Fx) (vs:List Nat),Oh d es=some (f,vs)->(∀ i∈vs,S.msF i=false)/\∀ {Wx} X M,XS X P w K mg base lvl S Wx->MS M K S Wx->PE X (.BoolOp .Or es pos) (tE M f vs)/\PW X (.BoolOp .Or es pos) (tT M (bT f))
 | [],f,vs,h=>by cases h
 | [e],f,vs,h=>by
  have g:=hd e f vs h;exact ⟨g.1,λ X M xs m=>⟨V9 (g.2.2 X M xs m).1,qP (g.2.2 X M xs m).2⟩⟩
 | e::e'::es,f,vs,h=>by
  unfold Oh at h;split at h
  ·rename_i f1 v1 f2 v2 h1 h2;cases h;have g1:=hd e f1 v1 h1;have g2:=Xb hd (pos:=pos) (e'::es) f2 v2 h2;exact ⟨Ib g1.1 g2.1,λ X M xs m=>⟨BW (ZD (g1.2.2 X M xs m).1 (g2.2 X M xs m).1) λ σ H Q q=>xi q,VC (ZG (g1.2.2 X M xs m).2 (g2.2 X M xs m).2) λ σ H Q q=>xQ q⟩⟩
  ·cases h
theorem HY {d:Expr->Option D2} (hd:∀ e f vs,d e=some (f,vs)->AV P w K mg base lvl S e f vs):∀ (es:List Expr) (fa:Fa) (vs:List Nat),Gx d es=some (fa,vs)->(∀ i∈vs,S.msF i=false)/\es.all Ij=true/\∀ {Wx} X M,XS X P w K mg base lvl S Wx->MS M K S Wx->PA X es (tL M fa vs)
 | [],fa,vs,h=>by cases h;exact ⟨λ _ z=>(nomatch z),rfl,λ X M _ _=>x9⟩
 | e::es,fa,vs,h=>by
  unfold Gx at h;split at h
  ·rename_i f1 v1 f2 v2 h1 h2;cases h;have g1:=hd e f1 v1 h1;have g2:=HY hd es f2 v2 h2;exact ⟨Ib g1.1 g2.1,by rw [HB,g1.2.1,g2.2.1];rfl,λ X M xs m=>zG (m.v g1.1) (g1.2.2 X M xs m).1 (g2.2.2 X M xs m) (Ea (Eb g1.2.1))⟩
  ·cases h
def Pj (scope:Bz) (env:Env):Iv scope env=Ff scope env.scope:=rfl
theorem Py {x:Str}{k:Dx}{sc:Bz}:∀ (l:List (Str×Dx)),(k=.cell\/k=.free)->(l.map λ (n,k)=>if (k == NameKind.free && sc.kind == .function && sc.names.lookup n == some .cell) then (n,NameKind.cell) else (n,k)).lookup x=some k->(x,NameKind.free)∈l\/(x,NameKind.cell)∈l
 | [],_,h=>by simp at h
 | (n,j)::r,hk,h=>by
  rw [Bf] at h;have ih:=Py (x:=x) (k:=k) (sc:=sc) r hk;dsimp only at h;by_cases hj:(j == NameKind.free && sc.kind == .function && sc.names.lookup n == some .cell)=true
  ·rw [if_pos hj,EU] at h;split at h
   ·rename_i hx;rw [A7,A7] at hj;have e1:x=n:=eq_of_beq hx;have e2:j=.free:=eq_of_beq hj.1.1;rw [e1,e2];exact .inl A9
   ·exact (ih h).imp (A8 _) (A8 _)
  ·rw [if_neg hj,EU] at h;split at h
   ·rename_i hx;have e1:x=n:=eq_of_beq hx;have e2:j=k:=Option.some.inj h;rcases hk with z | z
    ·rw [e1,e2,z];exact .inr A9
    ·rw [e1,e2,z];exact .inl A9
   ·exact (ih h).imp (A8 _) (A8 _)
theorem Kf (sc':Bz):∀ (N:List Str) (i:Nat),(Il sc' i N).length=N.length
 | [],_=>rfl
 | x::r,i=>by rw [Il,Ba,Kf sc' r (i + 1),Ba]
structure ChkOk (S:Sx) (scope:Bz) (xs:List Str) (vI:List Nat):Prop where
 kind:scope.kind=.function
 dis:∀ x,(x,NameKind.free)∈scope.names->(x,NameKind.cell)∉scope.names
 names:∀ x∈scope.names,x.2=.local->scope.names.lookup x.1=some .local
 free:∀ x∈scope.names,x.2=.free->S.sc.names.lookup x.1=some .cell\/S.sc.names.lookup x.1=some .free
 capt:∀ (i:Nat) (x:Str),i < S.N.length->(Bm S scope xs vI).N[i]?=some x->IU (Ff scope S.sc) x->S.N[i]?=some x/\IU S.sc x/\(x,NameKind.free)∈scope.names/\(Ff scope S.sc).names.lookup x≠some .local
 nd:(Bm S scope xs vI).N.Nodup
 loc:∀ x∈xs,(Ff scope S.sc).names.lookup x=some .local\/((Ff scope S.sc).names.lookup x=some .cell/\(x,NameKind.cell)∈scope.names)
 pos:S.N.length≠0
 ms:∀ i∈S.ms,i < S.N.length
def jv {sc:Bz}{x:Str} (h:IU sc x):Dw sc x=true:=by
 unfold Dw DH;rcases h with h | h | h <;> rw [h] <;> simp
def VF {scope:Bz}{xs:List Str}{vI:List Nat} (h:Nu S scope xs vI=true):ChkOk S scope xs vI:=by
 unfold Nu at h;simp only [A7,decide_eq_true_eq,jc1,bne_iff_ne,ne_eq,GQ] at h;obtain ⟨⟨⟨⟨⟨⟨⟨⟨h1,h2⟩,h3⟩,h4⟩,h5⟩,h6⟩,h7⟩,h8⟩,h9⟩:=h;refine ⟨h1,λ x hx hz=>(h2 (x,.free) hx).elim (λ z=>z rfl) λ z=>?_,λ x hx he=>(h3 x hx).elim (λ z=>absurd he z) λ z=>eq_of_beq z,λ x hx he=>(h4 x hx).elim (λ z=>absurd he z) λ z=>z.elim (λ z=>.inl (eq_of_beq z)) λ z=>.inr (eq_of_beq z),λ i x hi e hv=>?_,h6,λ x hx=>(h7 x hx).imp Ic λ z=>⟨Ic z.1,by simpa using z.2⟩,h8,h9⟩
 ·have z':(!(scope.names.contains (x,NameKind.cell)))=true:=z
  have:scope.names.contains (x,NameKind.cell)=true:=by simpa using hz
  rw [this] at z';cases z'
 have q:=h5 i (jc6.mpr hi);rw [e] at q;dsimp only at q;rw [GQ] at q;rcases q with q | q
 ·have:Dw (Ff scope S.sc) x=true:=jv hv
  have q':(!Dw (Ff scope S.sc) x)=true:=q;rw [this] at q';cases q'
 ·simp only [A7,decide_eq_true_eq,Yw] at q;obtain ⟨⟨⟨q1,q2⟩,q3⟩,q4⟩:=q;refine ⟨q1,VI q2,by simpa using q3,λ z=>?_⟩
  have:DH (Ff scope S.sc) x .local=true:=by unfold DH;rw [z];simp
  have q4':DH (Ff scope S.sc) x .local=false:=q4;rw [this] at q4';cases q4'
def ChkOk.comp {scope:Bz}{ys:List Str}{vI:List Nat} (c:ChkOk S scope ys vI) (xs:XS X P w K mg base lvl S Wx):CompOk X scope (Bm S scope ys vI).N ys.length where
 kind:=c.kind
 dis:=c.dis
 names:=c.names
 len:=by
  show (Il _ 0 S.N++ys).length=_;rw [BL,Kf,xs.N]
 free:=λ x hx he=>by
  show X.env.scope.names.lookup x.1=_\/X.env.scope.names.lookup x.1=_;rw [xs.sc];exact c.free x hx he
 kinds:=λ x h=>by
  rcases h with h | h
  ·exact Py (sc:=X.env.scope) scope.names (.inl rfl) h
  ·exact Py (sc:=X.env.scope) scope.names (.inr rfl) h
 capt:=λ i x hi e hv=>by
  rw [Pj,xs.sc] at hv ⊢;rw [xs.N] at hi ⊢;exact c.capt i x hi e hv
def ChkOk.xs {scope:Bz}{ys:List Str}{vI:List Nat} (c:ChkOk S scope ys vI) (xs:XS X P w K mg base lvl S Wx) (s2:Ak) (H2:Hp) (C:Addr) (fp:List Addr) (pins:List (Addr×Obj)):XS (BD X s2 H2 scope C (Bm S scope ys vI).N fp pins) P w K mg base lvl (Bm S scope ys vI) W0:=
 ⟨xs.prog,xs.w,xs.K,xs.mg,xs.base,rfl,by show Iv scope X.env=_;rw [Pj,xs.sc];rfl,xs.calm,xs.room,PassesOwn.never,V6,λ h=>nomatch h⟩
def PF {scope:Bz}{ys:List Str}{vI:List Nat} (i:Nat):(Bm S scope ys vI).alF i=if i < S.N.length then S.alF i else if i < S.N.length + ys.length then vI else []:=by
 unfold Sx.alF Bm;dsimp only;rw [AH];by_cases h:i < S.N.length
 ·rw [DU (by simpa using h),if_pos h];simp [h,Sx.alF,AH]
 ·rw [EX (by simpa using h),if_neg h,HC];simp only [Ax,CQ];by_cases h2:i < S.N.length + ys.length
  ·rw [if_pos h2,if_pos (by omega)];rfl
  ·rw [if_neg h2,if_neg (by omega)];rfl
def ChkOk.ms' {scope:Bz}{ys:List Str}{vI:List Nat} (c:ChkOk S scope ys vI) (m:MS M K S Wx) (hv:∀ i∈vI,S.msF i=false) (D:Addr):MS (M.comp D S.N.length vI) K (Bm S scope ys vI) W0 where
 W:=rfl
 K:=m.K
 ms:=m.ms
 al:=λ i hi=>by
  rw [PF];show (if i < S.N.length then M.al i else vI)=_;have hl:(Bm S scope ys vI).N.length=S.N.length + ys.length:=by
   show (Il _ 0 S.N++ys).length=_;rw [BL,Kf]
  rw [hl] at hi;by_cases h:i < S.N.length
  ·rw [if_pos h,if_pos h];exact m.al i h
  ·rw [if_neg h,if_neg h,if_pos hi]
 pn:=λ p hp=>by
  have h:=m.pn p hp;show p.1 < (Il _ 0 S.N++ys).length;rw [BL,Kf];omega
 als:=λ i j hj=>by
  have hj':j∈(if i < S.N.length then M.al i else vI):=hj;show M.Ms j=false;by_cases h:i < S.N.length
  ·rw [if_pos h] at hj';exact m.als i j hj'
  ·rw [if_neg h] at hj';rw [m.ms];exact hv j hj'
theorem JY {n:Nat}{iter:Expr}{env:Env}{f:Fx}{vs:List Nat} (h:(∀ a b c,iter≠.Set a b c)):∀ x,ND iter env x=pure x:=by
 intro x;cases iter with
 | Set a b c=>exact absurd rfl (h a b c)
 | _=>rfl
end
section
variable {X:Cx}{P:AD}{w:AB}{K:Frag}{mg:Str->Option Ae}{base:Heap}{lvl:Nat}{S:Sx}{Wx:St->Nat->Hp->Prop}{M:Fm}{f g:Fx}{vs vs':List Nat}{σ:St}{H:Hp}{Q:VK}
def ju {T:Str}{t:String} (h:Jr T=some t):t∈HD/\T∈zka/\Jp T=some (.type t)/\(T == ("__debug__" : Str))=false/\T ≠ "__name__" := by
 unfold Jr at h;split at h
 ·rename_i e;cases h;rw [e];exact ⟨by decide,by decide +kernel,rfl,by decide +kernel,by decide +kernel⟩
 ·split at h
  ·rename_i e;cases h;rw [e];exact ⟨by decide,by decide +kernel,rfl,by decide +kernel,by decide +kernel⟩
  ·split at h
   ·rename_i e;cases h;rw [e];exact ⟨by decide,by decide +kernel,rfl,by decide +kernel,by decide +kernel⟩
   ·split at h
    ·rename_i e;cases h;rw [e];exact ⟨by decide,by decide +kernel,rfl,by decide +kernel,by decide +kernel⟩
    ·split at h
     ·rename_i e;cases h;rw [e];exact ⟨by decide,by decide +kernel,rfl,by decide +kernel,by decide +kernel⟩
     ·split at h
      ·rename_i e;cases h;rw [e];exact ⟨by decide,by decide +kernel,rfl,by decide +kernel,by decide +kernel⟩
      ·cases h
def xC {x:Str}{o:List (PV×Nat)->Option (PV×Nat)}{e:Expr}{es:List Expr}{fa:Fa}{p pos:Pos} (h:Rn x=some o) (xs:XS X P w K mg base lvl S Wx) (m:MS M K S Wx) (hb:∀ x∈zka,mg x=none) (hg:S.glob x=true) (hs:(e::es).all Ij=true) (ha:PA X (e::es) (tL M fa vs)):
  PE X (.Call (.Name x p) (e::es) [] pos) (tE M (Al o fa) vs):=by
 rw [HB,A7] at hs;have h1:AN (e::es) X.env=(false,eval e X.env)::AN es X.env:=Ea (Eb hs.1);have h2:(DD pos (AN es X.env)).any (·.1)=false:=Pu hs.2;have hm:∀ x∈zka,X.mg x=none:=λ x hx=>by rw [xs.mg];exact hb x hx
 unfold Rn at h;split at h
 ·rename_i ex;cases h;subst ex;exact qX (m.k xs) (xs.gl hg) (hm _ (by decide +kernel)) ha h1 h2
 ·split at h
  ·rename_i ex;cases h;subst ex;exact xB xs.calm (xs.gl hg) (hm _ (by decide +kernel)) ha h1 h2
  ·split at h
   ·rename_i ex;cases h;subst ex;exact zJ xs.calm (xs.gl hg) (hm _ (by decide +kernel)) ha h1 h2
   ·split at h
    ·rename_i ex;cases h;subst ex;exact zK xs.calm (xs.gl hg) (hm _ (by decide +kernel)) ha h1 h2
    ·split at h
     ·rename_i ex;cases h;subst ex;exact zI (m.k xs) (xs.gl hg) (hm _ (by decide +kernel)) ha h1 h2
     ·split at h
      ·rename_i ex;cases h;subst ex;exact zL (by have:=xs.room.un;omega) (xs.gl hg) (hm _ (by decide +kernel)) ha h1 h2 (m.k xs)
      ·cases h
def HR (P:AD) (w:AB) (K:Frag) (mg:Str->Option Ae) (base:Heap) (lvl:Nat) (S:Sx) (it:Expr) (iw:Iw):Prop:=
 (∀ i∈iw.vs,S.msF i=false)/\(∀ a b c,it≠.Set a b c)/\∀ {Wx} X M,XS X P w K mg base lvl S Wx->MS M K S Wx->∀ tg,(match iw with
  | .rng en fa vs=>(en=AJ/\PI X tg it (Od (tL M fa vs)))\/(en=FO/\PI X tg it (Oe (tL M fa vs)))
  | .seq f vs=>PI X tg it (D5 M.K (tE M f vs))
  | .vw v fa vs=>FW tg (.vw v fa vs)=true->PI X tg it (Tb v M.K (tL M fa vs)))
def jL {it:Expr} (g:AV P w K mg base lvl S it f vs) (hs:∀ a b c,it≠.Set a b c):HR P w K mg base lvl S it (.seq f vs):=
 ⟨g.1,hs,λ X M xs m tg=>by
  show PI X tg it (D5 M.K (tE M f vs));rw [m.k xs];exact RT (g.2.2 X M xs m).1⟩
def Nv {d:Expr->Option D2} (hd:∀ e f vs,d e=some (f,vs)->AV P w K mg base lvl S e f vs) (hset:∀ a b c,d (.Set a b c)=none) (hb:∀ x∈zka,mg x=none) {it:Expr}{iw:Iw} (h:EZ d S it=some iw):HR P w K mg base lvl S it iw:=by
 have seq:∀ {it:Expr}{iw:Iw},(match d it with
   | some (f,vs)=>some (Iw.seq f vs)
   | none=>none)=some iw->HR P w K mg base lvl S it iw:=λ {it iw} h=>by
  cases e:d it with
  | none=>rw [e] at h;cases h
  | some p=>
   obtain ⟨f,vs⟩:=p;rw [e] at h;cases h;exact jL (hd _ _ _ e) λ a b c z=>by rw [z,hset] at e;cases e
 unfold EZ at h;split at h
 ·rename_i x p a pos;split at h
  ·rename_i hc;obtain ⟨rfl,hg⟩:=hc;split at h
   ·rename_i fa vs e;cases h;have g:=HY hd _ _ _ e;refine ⟨λ _ z=>(nomatch z),λ _ _ _ z=>(nomatch z),λ X M xs m tg=>.inl ⟨rfl,?_⟩⟩;have hs:=g.2.1;simp only [HB,SE,HA] at hs;exact vQ (xs.gl hg) (by rw [xs.mg];exact hb _ (by decide +kernel)) (g.2.2 X M xs m) (Ea (Eb hs))
   ·cases h
  ·exact seq h
 ·rename_i x p a b pos;split at h
  ·rename_i hc;obtain ⟨rfl,hg⟩:=hc;split at h
   ·rename_i fa vs e;cases h;have g:=HY hd _ _ _ e;refine ⟨λ _ z=>(nomatch z),λ _ _ _ z=>(nomatch z),λ X M xs m tg=>.inr ⟨rfl,?_⟩⟩;have hs:=g.2.1;simp only [HB,SE,HA,A7] at hs;have s2:AN [b] X.env=[(false,eval b X.env)]:=Ea (Eb hs.2);exact vR (xs.gl hg) (by rw [xs.mg];exact hb _ (by decide +kernel)) (g.2.2 X M xs m) (by rw [Ea (Eb hs.1),s2]) s2
   ·cases h
  ·split at h
   ·rename_i hc;obtain ⟨rfl,hg⟩:=hc;split at h
    ·rename_i fa vs e;cases h;have g:=HY hd _ _ _ e;refine ⟨g.1,λ _ _ _ z=>(nomatch z),λ X M xs m tg ht=>?_⟩;have hs:=g.2.1;simp only [HB,SE,HA,A7] at hs;have s2:AN [b] X.env=[(false,eval b X.env)]:=Ea (Eb hs.2);rw [m.k xs];cases tg with
     | Tuple es k tp=>exact qK (xs.gl hg) (by rw [xs.mg];exact hb _ (by decide +kernel)) (g.2.2 X M xs m) (by rw [Ea (Eb hs.1),s2]) s2
     | _=>cases ht
    ·cases h
   ·exact seq h
 ·exact seq h
def kA {σ:St}{H:Hp}{Q:Bool->Hp->Prop} (h:∃ M',MS M' K S Wx/\tT M' AA σ H Q):Q true H:=by
 obtain ⟨M',_,ρ,fps,rep,q⟩:=h;exact q H fps KD.refl Agr.refl rep
structure CompParts (P:AD) (w:AB) (K:Frag) (mg:Str->Option Ae) (base:Heap) (lvl:Nat) (S:Sx) (scope:Bz) (tg:Expr) (ys:List Str) (asg:PV->Ag->Option Ag) (it elt:Expr) (ifs:List Expr) (iw:Iw) (t:Fb) (g:Fx) (vE:List Nat):Prop where
 tga:NK S.N.length tg=some (ys,asg)
 two:FW tg iw=true
 chk:ChkOk S scope ys iw.vs
 iwo:HR P w K mg base lvl S it iw
 elt:AV P w K mg base lvl (Bm S scope ys iw.vs) elt g vE
 ifs:∀ {Wx} X M,XS X P w K mg base lvl (Bm S scope ys iw.vs) Wx->MS M K (Bm S scope ys iw.vs) Wx->HN X ifs (λ σ H Q=>∃ M',MS M' K (Bm S scope ys iw.vs) Wx/\tT M' t σ H Q)
def Wb {scope:Bz}{tg:Expr}{ys:List Str}{asg:PV->Ag->Option Ag}{it elt:Expr}{ifs:List Expr}{iw:Iw}{t:Fb}{vE:List Nat} (c:CompParts P w K mg base lvl S scope tg ys asg it elt ifs iw t g vE):∀ i∈iw.vs++vE.filter (λ i=>decide (i < S.N.length)),S.msF i=false:=
 Ib c.iwo.1 λ i hi=>c.elt.1 i (ji7.mp hi).1
theorem Us {X':Cx}:∀ {es:List Expr}{ys:List Str}{n:Nat},Ny es=some ys->X'.N.Nodup->(∀ j y,ys[j]?=some y->X'.N[n + j]?=some y)->(∀ y∈ys,Fd X'.env.scope y/\(X'.fn y=true\/X'.env.scope.names.lookup y=some .local))->Lb X' es (Kl (KC n ys.length))/\(E6 es X'.env).length=ys.length/\(E6 es X'.env).findIdx? (·.1)=none
 | [],ys,n,h,_,_,_=>by cases h;exact ⟨WG,rfl,rfl⟩
 | e::es,ys,n,h,hN,hi,hl=>by
  unfold Ny at h;split at h
  ·cases ‹_::_=[]›
  ·rename_i x px r heq;cases heq;obtain ⟨zs,h2,rfl⟩:=jc2.mp h;have hx:=hl x A9;obtain ⟨h1,h3,h4⟩:=Us (n:=n + 1) h2 hN (λ j y e=>by rw [show n + 1 + j=n + (j + 1) by omega];exact hi (j + 1) y (by simpa using e)) λ y hy=>hl y (A8 _ hy);rw [Ba,Yp];refine ⟨Xq (Ka hN (by have:=hi 0 x rfl;simpa using this) hx.1 hx.2) h1 rfl,by rw [E6,Ba,h3] <;> (intros;contradiction),?_⟩;rw [E6,Y2,h4] <;> first | rfl | (intros;contradiction)
  ·cases h
theorem TK {scope:Bz}{tg:Expr}{ys:List Str}{asg:PV->Ag->Option Ag}{pos:Pos}{it elt:Expr}{ifs:List Expr}{iw:Iw}{t:Fb}{vE:List Nat} (c:CompParts P w K mg base lvl S scope tg ys asg it elt ifs iw t g vE) (xs:XS X P w K mg base lvl S Wx) (m:MS M K S Wx):
  ∃ wi gg,PI X tg it wi/\CompOk X scope (Bm S scope ys iw.vs).N ys.length/\(∀ s2 H2 C fp pins,PG (BD X s2 H2 scope C (Bm S scope ys iw.vs).N fp pins) tg gg) /\
   (∀ s2 H2 C fp pins,HN (BD X s2 H2 scope C (Bm S scope ys iw.vs).N fp pins) ifs (λ σ H Q=>∃ M',MS M' K (Bm S scope ys iw.vs) W0/\tT M' t σ H Q)) /\
   (∀ s2 H2 C fp pins,PE (BD X s2 H2 scope C (Bm S scope ys iw.vs).N fp pins) elt (λ σ H Q=>∃ M',MS M' K (Bm S scope ys iw.vs) W0/\tE M' g vE σ H Q)) /\
   ∀ σ H Q,σ.length=S.N.length->tE M (Ml iw ys.length asg t g) (iw.vs++vE.filter (λ i=>decide (i < S.N.length))) σ H Q ->
    J6 ys.length wi gg (λ σ H Q=>∃ M',MS M' K (Bm S scope ys iw.vs) W0/\tT M' t σ H Q) (λ σ H Q=>∃ M',MS M' K (Bm S scope ys iw.vs) W0/\tE M' g vE σ H Q) σ H Q:=by
 have hvI:=m.v c.iwo.1;have hP:∀ D,MS (M.comp D S.N.length iw.vs) K (Bm S scope ys iw.vs) W0:=λ D=>c.chk.ms' m c.iwo.1 D;have hvE:∀ i∈vE,M.Ms i=false:=λ i hi=>by rw [m.ms];exact c.elt.1 i hi
 have hvo:∀ i,i∈vE->i < S.N.length->i∈iw.vs++vE.filter (λ i=>decide (i < S.N.length)):=λ i h1 h2=>Bb _ (ji7.mpr ⟨h1,by simpa using h2⟩);have hvo2:=m.v (Wb c);have bd:∀ D i,S.N.length<=i->Bd (M.comp D S.N.length iw.vs) iw.vs i:=λ D i hi=>⟨by
   show M.Ms i=false;rw [m.ms];unfold Sx.msF;cases e:S.ms.contains i with
   | false=>rfl
   | true=>exact absurd (c.chk.ms _ (by simpa using e)) (by omega),⟨λ _=>by have:=c.chk.pos;omega,λ p hp=>by have:=m.pn p hp;omega⟩,if_neg (by omega),(hP D).als⟩
 have hix:∀ j y,ys[j]?=some y->(Bm S scope ys iw.vs).N[S.N.length + j]?=some y:=λ j y e=>by
  show (Il _ 0 S.N++ys)[S.N.length + j]?=some y;rw [EX (by rw [Kf];omega),Kf];simpa using e
 have hloc:∀ s2 H2 C fp pins,∀ y∈ys,Fd (BD X s2 H2 scope C (Bm S scope ys iw.vs).N fp pins).env.scope y/\((BD X s2 H2 scope C (Bm S scope ys iw.vs).N fp pins).fn y=true\/(BD X s2 H2 scope C (Bm S scope ys iw.vs).N fp pins).env.scope.names.lookup y=some .local):=λ s2 H2 C fp pins y hy=>by
  have e:(BD X s2 H2 scope C (Bm S scope ys iw.vs).N fp pins).env.scope=Ff scope S.sc:=by
   show Iv scope X.env=_;rw [Pj,xs.sc]
  rw [e];rcases c.chk.loc y hy with z | z
  ·exact ⟨.inl z,.inr z⟩
  ·exact ⟨.inr z.1,.inl (by show scope.names.contains (y,NameKind.cell)=true;simpa using z.2)⟩
 have hpe:∀ s2 H2 C fp pins,PE (BD X s2 H2 scope C (Bm S scope ys iw.vs).N fp pins) elt (λ σ H Q=>∃ M',MS M' K (Bm S scope ys iw.vs) W0/\tE M' g vE σ H Q):=λ s2 H2 C fp pins pi s σ H Q I ⟨M',m',q⟩=>
  (c.elt.2.2 _ M' (c.chk.xs xs s2 H2 C fp pins) m').1 pi s σ H Q I q
 have hpt:∀ s2 H2 C fp pins,HN (BD X s2 H2 scope C (Bm S scope ys iw.vs).N fp pins) ifs (λ σ H Q=>∃ M',MS M' K (Bm S scope ys iw.vs) W0/\tT M' t σ H Q):=λ s2 H2 C fp pins=>c.ifs _ (M.comp 0 S.N.length iw.vs) (c.chk.xs xs s2 H2 C fp pins) (hP 0);have tgp:∃ is gg,(∀ i∈is,S.N.length<=i)/\(∀ D,DW (M.comp D S.N.length iw.vs) iw.vs is gg asg)/\∀ s2 H2 C fp pins,PG (BD X s2 H2 scope C (Bm S scope ys iw.vs).N fp pins) tg gg:=by
  have ht:=c.tga;unfold NK at ht;split at ht
  ·rename_i y py;cases ht;refine ⟨[S.N.length],DK S.N.length,λ i hi=>by rw [jc0.mp hi];exact AW _,λ D=>Vz (bd D _ (AW _)),λ s2 H2 C fp pins=>?_⟩;exact Ka c.chk.nd (hix 0 y rfl) (hloc s2 H2 C fp pins y (by simp)).1 (hloc s2 H2 C fp pins y (by simp)).2
  ·rename_i es k tp;obtain ⟨zs,h2,e⟩:=jc2.mp ht;cases e;refine ⟨KC S.N.length ys.length,JN M.K ys.length (Kl (KC S.N.length ys.length)),λ i hi=>(jq2.mp hi).1,λ D=>?_,λ s2 H2 C fp pins=>?_⟩
   ·have:=Rr (M:=M.comp D S.N.length iw.vs) (al:=iw.vs) (is:=KC S.N.length ys.length) λ i hi=>bd D i (jq2.mp hi).1
    rw [List.length_range'] at this;exact this
   ·obtain ⟨h1,h3,h4⟩:=Us (X':=BD X s2 H2 scope C (Bm S scope ys iw.vs).N fp pins) (n:=S.N.length) h2 c.chk.nd hix (hloc s2 H2 C fp pins)
    have:=RS (X:=BD X s2 H2 scope C (Bm S scope ys iw.vs).N fp pins) (pos:=tp) (k:=k) xs.calm h1 h3 h4
    have e:(BD X s2 H2 scope C (Bm S scope ys iw.vs).N fp pins).K=M.K:=(m.k xs).symm;rw [e] at this;exact this
  ·cases ht
 obtain ⟨is,gg,his,hg,hpg⟩:=tgp;have hw:=c.iwo.2.2 X M xs m tg;have htw:=c.two;cases iw with
 | rng en fa vs=>
  rcases hw with ⟨rfl,hw⟩ | ⟨rfl,hw⟩
  ·exact ⟨_,gg,hw,c.chk.comp xs,hpg,hpt,hpe,λ σ H Q hl hq=>k6 hl hP m.als hvI hvE his hg hvo hvo2 hq⟩
  ·exact ⟨_,gg,hw,c.chk.comp xs,hpg,hpt,hpe,λ σ H Q hl hq=>k7 hl hP m.als hvI hvE his hg hvo hvo2 hq⟩
 | seq f vs=>exact ⟨_,gg,hw,c.chk.comp xs,hpg,hpt,hpe,λ σ H Q hl hq=>k8 hl hP m.als hvI hvE his hg hvo hvo2 hq⟩
 | vw v fa vs=>exact ⟨_,gg,hw htw,c.chk.comp xs,hpg,hpt,hpe,λ σ H Q hl hq=>k9 hl hP m.als hvI hvE his hg hvo hvo2 hq⟩
def V7 {e:Expr}{t t':TE} (h:PE X e t) (i:∀ σ H Q,σ.length=X.N.length->t' σ H Q->t σ H Q):PE X e t':=λ pins s σ H Q I q=>h pins s σ H Q I (i σ H Q I.len q)
def qL {e:Stmt}{t t':TS} (h:PS X e t) (i:∀ D σ H,σ.length=X.N.length->t' D σ H->t D σ H):PS X e t':=λ pins s σ H D I q=>h pins s σ H D I (i D σ H I.len q)
def kT {scope:Bz}{tg:Expr}{ys:List Str}{asg:PV->Ag->Option Ag}{pos:Pos}{it elt:Expr}{ifs:List Expr}{iw:Iw}{t:Fb}{vE:List Nat} (c:CompParts P w K mg base lvl S scope tg ys asg it elt ifs iw t g vE):AV P w K mg base lvl S (.ListComp elt [⟨tg,it,ifs,0⟩] scope pos) (Ml iw ys.length asg t g) (iw.vs++vE.filter (λ i=>decide (i < S.N.length))):=by
 refine CV (Wb c) rfl (λ _ _=>rfl) λ X M xs m=>?_;obtain ⟨wi,gg,h1,h2,h3,h4,h5,h6⟩:=TK (pos:=pos) c xs m;exact V7 (WD h2 xs.calm h1 h3 h4 h5 (JY (n:=0) (f:=g) (vs:=[]) c.iwo.2.1)) λ σ H Q hl q=>h6 σ H Q (by rw [hl,xs.N]) q
def Uc {d:Expr->Option D2} (hd:∀ e f vs,d e=some (f,vs)->AV P w K mg base lvl S e f vs) {ifs:List Expr}{t:Fb} (h:Ow d ifs=some t) (X:Cx) (M:Fm) (xs:XS X P w K mg base lvl S Wx) (m:MS M K S Wx):HN X ifs (λ σ H Q=>∃ M',MS M' K S Wx/\tT M' t σ H Q):=by
 unfold Ow at h;split at h
 ·cases h;intro pins s σ H Q I q;exact je pins s σ H Q I (kA q)
 ·obtain ⟨p,e,rfl⟩:=jc2.mp h;obtain ⟨f,vs⟩:=p;have g:=hd _ _ _ e;intro pins s σ H Q I ⟨M',m',q⟩;exact jf (g.2.2 X M' xs m').2 pins s σ H Q I q
 ·cases h
def Nw (n:Nat) (S:Sx) (a:List Expr) (b:Nat) (c:Pos):BR n S (.Set a b c)=none:=by
 cases n <;> rfl
def Ph {e:Expr} (h:Ij e=true) (env:Env) (cpos:Pos):((DD cpos (AN [e] env)).all (λ x=>!x.1) && (backToKw cpos (keywordEach [] env)).all (λ x=>x.1.isSome)
   && decide (([e]:List Expr).length + ([]:List Keyword).length + (if ([]:List Keyword).isEmpty then 0 else 1) < 30))=true:=by
 have:AN [e] env=[(false,eval e env)]:=Ea (Eb h)
 rw [this];rfl
def YR {T:Str}{c:Nat} (h:XN.findIdx? (·== T)=some c):XN[c]?=some T:=by
 obtain ⟨hlt,h1,_⟩:=jk1.mp h;rw [BC hlt];exact congrArg some (eq_of_beq h1)
def WX {T:Str}{n:Nat} (GX:GX K mg S.xc) (hb:∀ x∈zka,mg x=none) (h:Oc S T=some n) (xs:XS X P w K mg base lvl S Wx):Cm X.K=true/\∃ cv,(∀ p2,PE X (.Name T p2) (tC cv))/\∀ u,RelV cv u->CU X.K n u=true:=by
 unfold Oc at h;split at h
 ·rename_i hc;obtain ⟨hg,hx⟩:=hc;obtain ⟨_,hk,hcs⟩:=GX hx;refine ⟨by rw [xs.K];exact hk,?_⟩;split at h
  ·rename_i eT;subst eT;cases h;refine ⟨.ty "ValueError",λ p2=>WC (xs.gl hg) (by rw [xs.mg];exact hb _ (by decide +kernel)) (u:=.type "ValueError") rfl rfl (by decide) (by decide),λ u r=>?_⟩;cases r;unfold CU;rfl
  ·split at h
   ·rename_i hc;split at h
    ·rename_i hm;cases h;obtain ⟨x',C,h1,h2,h3,h4⟩:=hcs n (by simpa using hm);have ex:x'=T:=by
      have:=YR hc
      rw [h1] at this;exact Option.some.inj this
     subst ex;refine ⟨.ref C,λ p2=>zx (xs.gl hg) (by rw [xs.mg];exact h3) rfl h4,λ u r=>?_⟩;cases r;unfold CU;rw [xs.K,h2];simp
    ·cases h
   ·cases h
 ·cases h
theorem TZ (GX:GX K mg S.xc) (hb:∀ x∈zka,mg x=none) (xs:XS X P w K mg base lvl S Wx):∀ {es:List Expr}{ns:List Nat},Ot S es=some ns->es≠[]->Cm X.K=true/\∃ cvs,cvs.length=es.length/\PA X es (U9 cvs)/\∀ us,Vals cvs us->FN X.K ns us=true
 | [],_,_,hn=>absurd rfl hn
 | e::r,ns,h,_=>by
  unfold Ot at h;split at h
  ·rename_i T ds h1 h2;obtain ⟨n,h3,rfl⟩:=jc2.mp h;obtain ⟨p2,rfl⟩:=D9 h1;obtain ⟨hk,cv,c1,c2⟩:=WX GX hb h3 xs;refine ⟨hk,?_⟩;have st:AN (Expr.Name T p2::r) X.env=(false,eval (.Name T p2) X.env)::AN r X.env:=rfl;by_cases hr:r=[]
   ·subst hr;cases h2;refine ⟨[cv],rfl,λ a b c d e f g h=>(Eh (c1 p2) GG st) a b c d e f g h,λ us v=>?_⟩;cases v with
    | cons r rr=>
     cases rr;unfold FN;rw [c2 _ r];rfl
   ·obtain ⟨_,cvs,l1,pa,l2⟩:=TZ GX hb xs h2 hr;refine ⟨cv::cvs,by rw [Ba,Ba,l1],λ a b c d e f g h=>(Eh (c1 p2) pa st) a b c d e f g h,λ us v=>?_⟩;cases v with
    | cons r rr=>
     unfold FN;rw [c2 _ r,l2 _ rr];rfl
  ·cases h
theorem Kk (GX:GX K mg S.xc) (G:GS P w K mg base lvl S.Γ) (Gm:GV P w K mg base lvl S.Γm):∀ (n:Nat) (S':Sx) (e:Expr) (f:Fx) (vs:List Nat),S'.Γ=S.Γ->S'.Γm=S.Γm->S'.xc=S.xc->(∀ i,∀ j∈S'.alF i,S'.msF j=false)->BR n S' e=some (f,vs)->AV P w K mg base lvl S' e f vs:=by
 intro n;induction n with
 | zero=>intro S' e f vs _ _ _ _ h;cases h
 | succ n ih=>
  intro S' e f vs hΓ hΓm hX hS h;have hd:∀ e f vs,BR n S' e=some (f,vs)->AV P w K mg base lvl S' e f vs:=λ e f vs h=>ih S' e f vs hΓ hΓm hX hS h;replace h:He (BR n) S' e=some (f,vs):=h;unfold He at h;split at h
  ·unfold MC at h;split at h
   ·cases h;exact CV (λ _ z=>(nomatch z)) rfl (λ _ _=>rfl) λ X M xs m=>BW Kg λ σ H Q q=>LH (λ K H Z=>by rw [Own];exact ⟨rfl,rfl⟩) q
   ·cases h;exact CV (λ _ z=>(nomatch z)) rfl (λ _ _=>rfl) λ X M xs m=>BW ZC λ σ H Q q=>LH (λ K H Z=>by rw [Own];exact ⟨rfl,rfl⟩) q
   ·cases h;exact CV (λ _ z=>(nomatch z)) rfl (λ _ _=>rfl) λ X M xs m=>BW qG λ σ H Q q=>LH (λ K H Z=>by rw [Own];exact ⟨rfl,rfl⟩) q
   ·cases h;exact CV (λ _ z=>(nomatch z)) rfl (λ _ _=>rfl) λ X M xs m=>BW qI λ σ H Q q=>LH (λ K H Z=>by rw [Own];exact ⟨rfl,rfl⟩) q
   ·cases h
  ·split at h
   ·rename_i i hi;split at h
    ·cases h
    ·rename_i hm;cases h;refine CV (λ j hj=>?_) rfl (λ _ _=>rfl) λ X M xs m=>V7 (xs.var hi) λ σ H Q hl q=>?_
     ·rcases ja9.mp hj with z | z
      ·rw [z];simpa using hm
      ·exact hS i j z
     ·have hlt:i < S'.N.length:=by
       unfold Sx.slot at hi;split at hi
       ·exact (jb1.mp (Nh hi)).1
       ·cases hi
      rw [<- m.al i hlt] at q;exact VP q
   ·cases h
  ·split at h
   ·rename_i f1 v1 f2 v2 o h1 h2 h3;cases h;have g1:=hd _ _ _ h1;have g2:=hd _ _ _ h2;exact CV (Ib g1.1 g2.1) rfl (λ _ _=>rfl) λ X M xs m=>ZK h3 (m.v g1.1) (m.k xs) (g1.2.2 X M xs m).1 (g2.2.2 X M xs m).1
   ·cases h
  ·split at h
   ·split at h
    ·rename_i f1 v1 h1;cases h;have g1:=hd _ _ _ h1;exact CV g1.1 rfl (λ _ _=>rfl) λ X M xs m=>xa (g1.2.2 X M xs m).1
    ·cases h
   ·split at h
    ·rename_i f1 v1 h1;cases h;exact jK (hd _ _ _ h1)
    ·cases h
   ·cases h
  ·rename_i op es pos;split at h
   ·have g:=Ub hd (pos:=pos) _ _ _ h;exact ⟨g.1,rfl,λ X M xs m=>⟨(g.2 X M xs m).1,(g.2 X M xs m).2.pt⟩⟩
   ·have g:=Xb hd (pos:=pos) _ _ _ h;exact ⟨g.1,rfl,λ X M xs m=>⟨(g.2 X M xs m).1,(g.2 X M xs m).2.pt⟩⟩
  ·unfold Vp at h;split at h
   ·split at h
    ·split at h
     ·rename_i f1 v1 f2 v2 o h1 h2 h3;cases h;exact jJ h3 (hd _ _ _ h1) (hd _ _ _ h2)
     ·cases h
    ·cases h
   ·split at h
    ·split at h
     ·rename_i f1 v1 f2 v2 f3 v3 p q h1 h2 h3 h4 h5;cases h;exact vZ h4 h5 (hd _ _ _ h1) (hd _ _ _ h2) (hd _ _ _ h3)
     ·cases h
    ·cases h
   ·cases h
  ·split at h
   ·rename_i fa v h1;cases h;have g:=HY hd _ _ _ h1;exact CV g.1 rfl (λ _ _=>rfl) λ X M xs m=>qY (g.2.2 X M xs m)
   ·cases h
  ·split at h
   ·rename_i fa v h1;cases h;have g:=HY hd _ _ _ h1;exact CV g.1 rfl (λ _ _=>rfl) λ X M xs m=>xf (g.2.2 X M xs m)
   ·cases h
  ·rename_i a b pos;unfold Vv at h;split at h
   ·rename_i lo hi st p2;unfold Vu at h;split at h
    ·split at h
     ·rename_i f1 v1 f2 v2 h1 h2;cases h;have g1:=hd _ _ _ h1;have g2:=hd _ _ _ h2;exact CV g1.1 rfl (λ _ _=>rfl) λ X M xs m=>BW (PY (qap.or RL) (g1.2.2 X M xs m).1 Sd (LF (g2.2.2 X M xs m).1)) λ σ H Q q=>Ry (lo:=none) (hi:=some (f2,v2)) (m.v g1.1) (m.k xs) q
     ·cases h
    ·split at h
     ·rename_i f1 v1 f2 v2 h1 h2;cases h;have g1:=hd _ _ _ h1;have g2:=hd _ _ _ h2;exact CV g1.1 rfl (λ _ _=>rfl) λ X M xs m=>BW (PY (qap.or RL) (g1.2.2 X M xs m).1 (LF (g2.2.2 X M xs m).1) Sd) λ σ H Q q=>Ry (lo:=some (f2,v2)) (hi:=none) (m.v g1.1) (m.k xs) q
     ·cases h
    ·split at h
     ·rename_i f1 v1 f2 v2 f3 v3 h1 h2 h3;cases h;have g1:=hd _ _ _ h1;have g2:=hd _ _ _ h2;have g3:=hd _ _ _ h3;exact CV g1.1 rfl (λ _ _=>rfl) λ X M xs m=>BW (PY (qap.or RL) (g1.2.2 X M xs m).1 (LF (g2.2.2 X M xs m).1) (LF (g3.2.2 X M xs m).1)) λ σ H Q q=>Ry (lo:=some (f2,v2)) (hi:=some (f3,v3)) (m.v g1.1) (m.k xs) q
     ·cases h
    ·rename_i st;split at h
     ·rename_i hst;obtain ⟨k,p3,p4,rfl⟩:=vB hst;split at h
      ·rename_i f1 v1 h1;cases h;have g1:=hd _ _ _ h1;exact CV g1.1 rfl (λ _ _=>rfl) λ X M xs m=>ZL (m.k xs) (g1.2.2 X M xs m).1
      ·cases h
     ·cases h
    ·cases h
   ·split at h
    ·rename_i x i hx hi;obtain ⟨px,rfl⟩:=D9 hx;obtain ⟨k,pi,rfl⟩:=Oy hi;split at h
     ·rename_i j hj;split at h
      ·cases h
      ·rename_i hm;cases h;have hlt:j < S'.N.length:=by
        unfold Sx.slot at hj;split at hj
        ·exact (jb1.mp (Nh hj)).1
        ·cases hj
       have hv:∀ i∈j::S'.alF j,S'.msF i=false:=λ i hi=>by
        rcases ja9.mp hi with z | z
        ·rw [z];simpa using hm
        ·exact hS j i z
       refine CV (Ib hv λ _ z=>(nomatch z)) rfl (λ _ _=>rfl) λ X M xs m=>VM (m.v hv) (m.k xs) (Ja rfl) (BW (xs.var hj) λ σ H Q q=>?_) (BW Kg λ σ H Q q=>LH (λ K H Z=>by rw [Own];exact ⟨rfl,rfl⟩) q);rw [<- m.al j hlt] at q;exact VP q
     ·cases h
    ·split at h
     ·rename_i f1 v1 f2 v2 h1 h2;split at h
      ·rename_i hn;cases h;have g1:=hd _ _ _ h1;have g2:=hd _ _ _ h2;exact CV (Ib g1.1 g2.1) rfl (λ _ _=>rfl) λ X M xs m=>VM (m.v g1.1) (m.k xs) (Ja hn) (g1.2.2 X M xs m).1 (g2.2.2 X M xs m).1
      ·cases h
     ·cases h
  ·rename_i fn args ks pos;split at h
   ·split at h
    ·rename_i x hfn;obtain ⟨p,rfl⟩:=D9 hfn;split at h
     ·rename_i hx;subst hx;split at h
      ·rename_i e c;unfold Vr at h;split at h
       ·rename_i f1 v1 h1;split at h
        ·rename_i hgi;have g1:=hd _ _ _ h1;split at h
         ·rename_i T pT;have s2:∀ {X:Cx},AN [Expr.Name T pT] X.env=[(false,eval (.Name T pT) X.env)]:=rfl;split at h
          ·rename_i t h2;split at h
           ·rename_i hg;cases h;obtain ⟨t1,t2,t3,t4,t5⟩:=ju h2;refine CV g1.1 rfl (λ _ _=>rfl) λ X M xs m=>?_;exact qW (x:=T) t1 (m.k xs) (g1.2.2 X M xs m).1 (xs.gl hgi) (by rw [xs.mg];exact G.1 _ (by decide +kernel)) (WC (xs.gl hg) (by rw [xs.mg];exact G.1 _ t2) t3 rfl t5 t4) (by rw [Ea (Eb g1.2.1),s2]) s2
           ·cases h
          ·obtain ⟨n,h3,e2⟩:=jc2.mp h;cases e2;refine CV g1.1 rfl (λ _ _=>rfl) λ X M xs m=>?_;obtain ⟨hk,cv,c1,c2⟩:=WX (by rw [hX];exact GX) G.1 h3 xs;exact zH hk (m.k xs) (g1.2.2 X M xs m).1 (xs.gl hgi) (by rw [xs.mg];exact G.1 _ (by decide +kernel)) (c1 pT) c2 (by rw [Ea (Eb g1.2.1),s2]) s2
         ·rename_i es k p2;split at h
          ·rename_i hl;obtain ⟨ns,h3,e2⟩:=jc2.mp h;cases e2;obtain ⟨hl,hne⟩:=hl;refine CV g1.1 rfl (λ _ _=>rfl) λ X M xs m=>?_;have s2:AN [Expr.Tuple es k p2] X.env=[(false,eval (.Tuple es k p2) X.env)]:=rfl;obtain ⟨hk,cvs,l1,pa,l2⟩:=TZ (by rw [hX];exact GX) G.1 xs h3 hne;exact kK hk (m.k xs) (g1.2.2 X M xs m).1 (xs.gl hgi) (by rw [xs.mg];exact G.1 _ (by decide +kernel)) pa (by rw [l1];exact CA hl (by decide)) l2 (by rw [Ea (Eb g1.2.1),s2]) s2
          ·cases h
         ·cases h
        ·cases h
       ·cases h
      ·cases h
     ·split at h
      ·rename_i o ho;split at h
       ·rename_i e es;split at h
        ·rename_i fa v h1;split at h
         ·rename_i hg;cases h;have g:=HY hd _ _ _ h1;exact CV g.1 rfl (λ _ _=>rfl) λ X M xs m=>xC ho xs m G.1 hg g.2.1 (g.2.2 X M xs m)
         ·cases h
        ·cases h
       ·cases h
      ·split at h
       ·rename_i _ _ _ _ nn F hF;split at h
        ·rename_i e es;split at h
         ·rename_i fa v h1;split at h
          ·rename_i hg;cases h;have g:=HY hd _ _ _ h1;rw [hΓ] at hF;obtain ⟨d1,d2,fa',fd,ps,d3,d4,d5,d6,d7⟩:=G.2 _ _ _ _ hF;refine CV g.1 rfl (λ _ _=>rfl) λ X M xs m=>?_;have hs:=g.2.1;rw [HB,A7] at hs;obtain ⟨xp,xw,xK,xm,xb,_,_,_,xr,_⟩:=id xs;subst xp xw xK xm xb;have mk:M.K=X.K:=m.K;have hps:=xs.ps;rw [<- m.W] at hps;refine BW (jY d7 xr (xs.gl hg) d3 d4 d5 hps (g.2.2 X M xs m) d1 (Ea (Eb hs.1)) (Pu hs.2)) λ σ H Q q=>?_
           have:=zQ d2 q
           rw [mk] at this;exact this
          ·cases h
         ·cases h
        ·cases h
       ·cases h
       ·cases h
    ·cases h
   ·cases h
  ·rename_i elt gs scope pos;split at h
   ·rename_i tg it ifs hgs;have hgs:=xW hgs;subst hgs;split at h
    rotate_left
    ·cases h
    rename_i ys asg iw ht hi;split at h
    ·rename_i hc;split at h
     ·rename_i t g vE h1 h2;cases h;have ck:=VF hc.1;have giw:=Nv hd (Nw n S') G.1 hi;have hS2:∀ i,∀ j∈(Bm S' scope ys iw.vs).alF i,(Bm S' scope ys iw.vs).msF j=false:=λ i j hj=>by
       rw [PF] at hj;show S'.msF j=false;split at hj
       ·exact hS i j hj
       ·split at hj
        ·exact giw.1 j hj
        ·cases hj
      have hd2:∀ e f vs,BR n (Bm S' scope ys iw.vs) e=some (f,vs)->AV P w K mg base lvl (Bm S' scope ys iw.vs) e f vs:=λ e f vs h=>ih _ e f vs hΓ hΓm hX hS2 h;exact kT ⟨ht,hc.2,ck,giw,hd2 _ _ _ h2,Uc hd2 h1⟩
     ·cases h
    ·cases h
   ·cases h
  ·cases h
end
section
variable {is:List Nat}{M:Fm}{ρ ρ':Ag}{σ σ':St}{H H' H'':Hp}{fps fps' fps'':AR}{vs vs':List Nat}
def IA:Fs:=λ _=>.no
def Ve {t:TS}{D:Ends} (hq:tS M IA D σ H):t D σ H:=by
 obtain ⟨ρ,fps,rep,q⟩:=hq;exact q.elim
def Cn (asg:PV->Ag->Option Ag) (f:Fx) (vs:List Nat):Fs:=λ ρ=>match f ρ with
 | .ok (x,d,ρ1)=>(match asg x (CF d vs ρ1) with
  | some ρ2=>.nx ρ2
  | none=>.no)
 | .exc c=>.exc c
 | .no=>.no
theorem xu {g:TG}{asg:PV->Ag->Option Ag}{f:Fx}{D:Ends} (hal:∀ i,M.al i=[]) (hv:∀ i∈vs,M.Ms i=false) (hg:DW M [] is g asg) (hq:tS M (Cn asg f vs) D σ H):DM (tE M f vs) g D σ H:=by
 obtain ⟨ρ,fps,rep,q⟩:=hq;refine ⟨ρ,fps,rep,?_⟩;unfold Cn at q;cases ef:f ρ with
 | no=>rw [ef] at q;exact q
 | exc c=>rw [ef] at q;exact λ H' fps' k=>q _ H' fps' k.ks
 | ok p=>
  obtain ⟨x,d,ρ1⟩:=p;rw [ef] at q;intro v H1 fps1 f1 k1 g1 rep1 o1 t1;obtain ⟨fps2,k2,r2,o2⟩:=Rep.seen rep k1 g1 rep1 o1 t1 hal hv;dsimp only at q;cases ea:asg x (CF d vs ρ1) with
  | none=>rw [ea] at q;exact q.elim
  | some ρ2=>
   rw [ea] at q;refine hg x v _ σ H1 fps2 ρ2 _ r2 (o2.weak λ a h=>h.zf) ea λ σ' fps' s1 _ _ r'=>q σ' H1 fps' (k2.trans ⟨λ _ _ h _=>h,λ _ h=>h,λ j a ha=>.inl ⟨j,s1 j a ha⟩⟩) r'
def Rep.change {i:Nat}{x x':PV}{d d':Nat}{v:V}{f':List Addr} (hal:∀ i,M.al i=[]) (r:Rep M ρ σ H fps) (hi:ρ[i]?=some (some (x,d))) (hσ:σ[i]?=some (some v)) (k:Cs (λ a=>a∈fps i) H H') (dm:∀ a,H a≠none->H' a≠none) (hs:∀ b∈f',b∈fps i)
  (hm:M.Ms i=true->d'=om) (o:Own M.K H' (Zf M (λ j=>if j=i then f' else fps j)) x' d' v f'):Rep M (ρ.set i (some (x',d'))) σ H' (λ j=>if j=i then f' else fps j):=by
 have hlen:i < ρ.length:=(jb1.mp hi).1;have inI:∀ j,∀ b∈(if j=i then f' else fps j),b∈fps j:=λ j b hb=>by
  by_cases e:j=i
  ·rw [if_pos e] at hb;rw [e];exact hs b hb
  ·rw [if_neg e] at hb;exact hb
 refine ⟨λ j y c hj=>?_,λ j hj=>?_,λ j k hjk b hb hc=>r.dj j k hjk b (inI j b hb) (inI k b hc),λ j b hb z=>r.zo j b (inI j b hb) z,λ j hj b hb=>r.fr j hj b (inI j b hb),λ b z=>dm b (r.zd b z),by rw [DT];exact r.len,λ j y c hj hc=>?_,λ b z=>dm b (r.h0 b z),r.iov⟩
 ·by_cases ej:j=i
  ·subst ej;rw [D4 hlen] at hj;cases hj;refine ⟨v,hσ,?_⟩;rw [if_pos rfl];exact o.weak λ a h=>h.zf
  ·rw [Cw (BY ej)] at hj;obtain ⟨u,hu,ou⟩:=r.own j y c hj;refine ⟨u,hu,?_⟩;rw [if_neg ej];refine Own.move (S:=λ a=>a∈fps i) k (λ a ha=>⟨.inr ⟨i,(by rw [hal j];intro z;cases z),ha⟩,r.lsts ha⟩) (λ a _ nz z=>nz ?_) y c u (fps j) (λ a ha z=>r.dj j i ej a ha z) ou;rcases z with z | ⟨l,nl,z⟩
   ·exact .inl z
   ·exact .inr ⟨l,nl,inI l a z⟩
 ·by_cases ej:j=i
  ·subst ej;exact absurd (D4 hlen) (hj (x',d'))
  ·rw [if_neg ej];exact r.non j λ p hp=>hj p (by rw [Cw (BY ej)];exact hp)
 ·by_cases ej:j=i
  ·subst ej;rw [D4 hlen] at hc;cases hc;exact hm hj
  ·rw [Cw (BY ej)] at hc;exact r.msf j y c hj hc
def OwnL.full' {K:Frag}{Z Z':Addr->Prop}{xs:List PV}{ws:List V}{f:List Addr} (h:OwnL K H Z xs om ws f):OwnL K H Z' xs om ws f:=OwnL.full xs ws f h
theorem OwnL.row {K:Frag}{Z:Addr->Prop}:∀ {xs:List PV}{ws:List V}{f:List Addr}{p:Nat}{cells:List PV},OwnL K H Z xs om ws f->xs[p]?=some (.lst cells)->∃ a us fc,ws[p]?=some (.ref a)/\H a=some (.lst us)/\a∈f/\OwnL K H Z cells om us fc/\(∀ b∈fc,b∈f)/\a∉fc /\
  ∀ (cells':List PV) (us':List V) (fc':List Addr),OwnL K (As H a (.lst us')) (λ _=>True) cells' om us' fc'->(∀ b∈fc',b∈fc)->∃ f',(∀ b∈f',b∈f)/\OwnL K (As H a (.lst us')) (λ _=>True) (xs.set p (.lst cells')) om ws f'
 | [],ws,f,p,cells,h,e=>by cases e
 | x::xs,ws,f,0,cells,h,e=>by
  cases e;rw [OwnL] at h;obtain ⟨v,s,f1,f2,rfl,rfl,dj,h1,h2⟩:=h;obtain ⟨a,us,fc,rfl,ha,rfl,na,ol⟩:=h1.list (by decide:om≠0);rw [C5] at ol;refine ⟨a,us,fc,rfl,ha,by simp,ol,λ b hb=>by simp [hb],na,λ cells' us' fc' o hs=>⟨(a::fc')++f2,λ b hb=>?_,?_⟩⟩
  ·rcases jb2.mp hb with z | z
   ·rcases ja9.mp z with z | z
    ·simp [z]
    ·exact Bq _ (A8 _ (hs b z))
   ·exact Bb _ z
  ·have n2:a∉f2:=dj a A9;rw [IM,OwnL];refine ⟨.ref a,s,a::fc',f2,rfl,rfl,λ b hb=>?_,?_,?_⟩
   ·rcases ja9.mp hb with z | z
    ·rw [z];exact n2
    ·exact dj b (A8 _ (hs b z))
   ·rw [Own];exact ⟨a,us',rfl,.inr ⟨by decide,fc',BJ,rfl,λ z=>na (hs a z),by rw [C5];exact o⟩⟩
   ·exact (h2.full' (Z':=λ _=>True)).at trivial ⟨.l us,ha⟩ n2 λ _ _ n=>absurd trivial n
 | x::xs,ws,f,p + 1,cells,h,e=>by
  rw [OwnL] at h;obtain ⟨v,s,f1,f2,rfl,rfl,dj,h1,h2⟩:=h;obtain ⟨a,us,fc,e1,ha,hf,ol,hs,na,nx⟩:=h2.row (by simpa using e);refine ⟨a,us,fc,by simpa using e1,ha,Bb _ hf,ol,λ b hb=>Bb _ (hs b hb),na,λ cells' us' fc' o hs'=>?_⟩;obtain ⟨f',s',o'⟩:=nx cells' us' fc' o hs';refine ⟨f1++f',λ b hb=>(jb2.mp hb).elim (λ z=>Bq _ z) λ z=>Bb _ (s' b z),?_⟩;rw [IL,OwnL];refine ⟨v,s,f1,f',rfl,rfl,λ b hb z=>dj b hb (s' b z),?_,o'⟩;exact (Own.full (Z':=λ _=>True) x v f1 h1).at trivial ⟨.l us,ha⟩ (λ z=>dj a z hf) λ _ _ n=>absurd trivial n
theorem OwnL.setF {K:Frag}{Z:Addr->Prop}{y:PV}{d:Nat}{w:V}{fy:List Addr} (hy:Own K H Z y d w fy):∀ {xs:List PV}{ws:List V}{f:List Addr} (k:Nat),OwnL K H Z xs d ws f->(∀ b∈fy,b∉f)->∃ f',(∀ b∈f',b∈f\/b∈fy)/\OwnL K H Z (xs.set k y) d (ws.set k w) f'
 | [],ws,f,k,h,_=>by
  rw [OwnL] at h;obtain ⟨rfl,rfl⟩:=h;refine ⟨[],λ _ z=>(nomatch z),?_⟩;rw [OE,OE,OwnL];exact ⟨rfl,rfl⟩
 | x::xs,ws,f,0,h,hd=>by
  rw [OwnL] at h;obtain ⟨v,s,f1,f2,rfl,rfl,dj,h1,h2⟩:=h;refine ⟨fy++f2,λ b hb=>(jb2.mp hb).elim .inr λ z=>.inl (Bb _ z),?_⟩;rw [IM,IM,OwnL];exact ⟨w,s,fy,f2,rfl,rfl,λ b hb z=>hd b hb (Bb _ z),hy,h2⟩
 | x::xs,ws,f,k + 1,h,hd=>by
  rw [OwnL] at h;obtain ⟨v,s,f1,f2,rfl,rfl,dj,h1,h2⟩:=h;obtain ⟨f',hs,h'⟩:=h2.setF hy k λ b hb z=>hd b hb (Bb _ z);refine ⟨f1++f',λ b hb=>(jb2.mp hb).elim (λ z=>.inl (Bq _ z)) λ z=>(hs b z).elim (λ z=>.inl (Bb _ z)) .inr,?_⟩;rw [IL,IL,OwnL];exact ⟨v,s.set k w,f1,f',rfl,rfl,λ b hb hc=>(hs b hc).elim (dj b hb) λ z=>hd b z (Bq _ hb),h1,h'⟩
theorem OwnL.rowP {K:Frag}{Z:Addr->Prop}:∀ {xs:List PV}{ws:List V}{f:List Addr}{p:Nat}{cells:List PV},OwnL K H Z xs om ws f->xs[p]?=some (.lst cells)->∃ a us fc,ws[p]?=some (.ref a)/\H a=some (.lst us)/\a∈f/\OwnL K H Z cells om us fc/\(∀ b∈fc,b∈f)/\a∉fc /\
  ∀ (cells':List PV) (us':List V) (fc' fy:List Addr),OwnL K (As H a (.lst us')) (λ _=>True) cells' om us' fc'->(∀ b∈fc',b∈fc\/b∈fy)->(∀ b∈fy,b∉f)->∃ f',(∀ b∈f',b∈f\/b∈fy)/\OwnL K (As H a (.lst us')) (λ _=>True) (xs.set p (.lst cells')) om ws f'
 | [],ws,f,p,cells,h,e=>by cases e
 | x::xs,ws,f,0,cells,h,e=>by
  cases e;rw [OwnL] at h;obtain ⟨v,s,f1,f2,rfl,rfl,dj,h1,h2⟩:=h;obtain ⟨a,us,fc,rfl,ha,rfl,na,ol⟩:=h1.list (by decide:om≠0);rw [C5] at ol;refine ⟨a,us,fc,rfl,ha,by simp,ol,λ b hb=>by simp [hb],na,λ cells' us' fc' fy o hs hy=>⟨(a::fc')++f2,λ b hb=>?_,?_⟩⟩
  ·rcases jb2.mp hb with z | z
   ·rcases ja9.mp z with z | z
    ·simp [z]
    ·exact (hs b z).elim (λ z=>.inl (Bq _ (A8 _ z))) .inr
   ·exact .inl (Bb _ z)
  ·have n2:a∉f2:=dj a A9;rw [IM,OwnL];refine ⟨.ref a,s,a::fc',f2,rfl,rfl,λ b hb=>?_,?_,?_⟩
   ·rcases ja9.mp hb with z | z
    ·rw [z];exact n2
    ·exact (hs b z).elim (λ z=>dj b (A8 _ z)) λ z w=>hy b z (Bb _ w)
   ·rw [Own];exact ⟨a,us',rfl,.inr ⟨by decide,fc',BJ,rfl,λ z=>(hs a z).elim na λ z=>hy a z (Bq _ A9),by rw [C5];exact o⟩⟩
   ·exact (h2.full' (Z':=λ _=>True)).at trivial ⟨.l us,ha⟩ n2 λ _ _ n=>absurd trivial n
 | x::xs,ws,f,p + 1,cells,h,e=>by
  rw [OwnL] at h;obtain ⟨v,s,f1,f2,rfl,rfl,dj,h1,h2⟩:=h;obtain ⟨a,us,fc,e1,ha,hf,ol,hs,na,nx⟩:=h2.rowP (by simpa using e);refine ⟨a,us,fc,by simpa using e1,ha,Bb _ hf,ol,λ b hb=>Bb _ (hs b hb),na,λ cells' us' fc' fy o hs' hy=>?_⟩;obtain ⟨f',s',o'⟩:=nx cells' us' fc' fy o hs' λ b hb z=>hy b hb (Bb _ z);refine ⟨f1++f',λ b hb=>(jb2.mp hb).elim (λ z=>.inl (Bq _ z)) λ z=>(s' b z).elim (λ z=>.inl (Bb _ z)) .inr,?_⟩;rw [IL,OwnL];refine ⟨v,s,f1,f',rfl,rfl,λ b hb z=>(s' b z).elim (dj b hb) λ z=>hy b z (Bq _ hb),?_,o'⟩;exact (Own.full (Z':=λ _=>True) x v f1 h1).at trivial ⟨.l us,ha⟩ (λ z=>dj a z hf) λ _ _ n=>absurd trivial n
def ES (x:PV) (a b:Int) (y:PV):Option PV:=match x with
 | .lst rows=>(match CL rows.length a with
  | some p=>(match rows[p]? with
   | some (.lst cells)=>(match CL cells.length b with
    | some q=>some (.lst (rows.set p (.lst (cells.set q y))))
    | none=>none)
   | _=>none)
  | none=>none)
 | _=>none
def J4 (i:Nat) (fi fj f:Fx):Fs:=λ ρ=>match f ρ with
 | .ok (y,e,ρ1)=>(match ρ1[i]? with
  | some (some (x,d))=>(match fi ρ1 with
   | .ok (.int a,_,ρ2)=>(match fj ρ2 with
    | .ok (.int b,_,ρ3)=>(match ES x a b y with
     | some x'=>if d=om/\Hg y=true then .nx (ρ3.set i (some (x',om))) else if d=om/\e=om then .nx (ρ3.set i (some (x',0))) else .no
     | none=>.no)
    | _=>.no)
   | _=>.no)
  | _=>.no)
 | _=>.no
def vK {x x' y:PV}{a b:Int} (h:ES x a b y=some x'):∃ rows p cells q,x=.lst rows/\CL rows.length a=some p/\rows[p]?=some (.lst cells)/\CL cells.length b=some q/\x'=.lst (rows.set p (.lst (cells.set q y))):=by
 unfold ES at h;split at h
 ·rename_i rows;split at h
  ·rename_i p ep;split at h
   ·rename_i cells er;split at h
    ·rename_i q eq;cases h;exact ⟨rows,p,cells,q,rfl,ep,er,eq,rfl⟩
    ·cases h
   ·cases h
  ·cases h
 ·cases h
def KD.top (k:KD M H fps H' fps') (r:Rep M ρ σ H fps) {i:Nat}{a:Addr}{o:HO} (hm:M.Ms i=false) (ha:a∈fps i) (h:H a=some o):H' a=some o:=
 k.keep a o h λ ⟨j,hj,hb⟩=>r.dj i j (λ e=>by rw [e,hj] at hm;cases hm) a ha hb
theorem zZ {f fi fj:Fx}{vi vj:List Nat}{i:Nat}{D:Ends} (hal:∀ i,M.al i=[]) (hm:M.Ms i=false) (hq:tS M (J4 i fi fj f) D σ H):DM (tE M f vs) (HG (En (Jz M.K) (Bl i) (tE M fi vi)) (tE M fj vj) Ol) D σ H:=by
 obtain ⟨ρ,fps,rep,q⟩:=hq;refine ⟨ρ,fps,rep,?_⟩;unfold J4 at q;cases ef:f ρ with
 | no=>rw [ef] at q;exact q
 | exc c=>rw [ef] at q;exact q.elim
 | ok p0=>
  obtain ⟨y,e,ρ1⟩:=p0;rw [ef] at q;intro w H1 fps1 fp k1 g1 rep1 o1 t1;dsimp only at q;cases ei:ρ1[i]? with
  | none=>rw [ei] at q;exact q.elim
  | some s1=>
   rw [ei] at q;cases s1 with
   | none=>exact q.elim
   | some s1=>
    obtain ⟨x1,dx1⟩:=s1;obtain ⟨v,hσ,_⟩:=rep1.own0 hal i _ _ ei;dsimp only at q;refine ⟨v,hσ,ρ1,fps1,rep1,?_⟩;split at q
    ·rename_i a da ρ2 e1;rw [e1];intro va H2 fps2 fpa k2 g2 rep2 oa ta;rw [Own] at oa;obtain ⟨rfl,rfl⟩:=oa;split at q
     ·rename_i b db ρ3 e2;split at q
      ·rename_i x' ex;obtain ⟨rows,p,cells,jq,rfl,ep,er,eq,rfl⟩:=vK ex;split at q
       ·rename_i hc;obtain ⟨rfl,hy⟩:=hc;obtain ⟨rfl,oy⟩:=Own.flatA (Z':=λ _=>True) (d':=om) hy o1;have e2i:ρ2[i]?=some (some (.lst rows,om)):=by rw [g2.1 i hm];exact ei
        obtain ⟨v2,hσ2,ol2⟩:=rep2.own0 hal i _ _ e2i;rw [hσ] at hσ2;cases hσ2;obtain ⟨a0,ws,f2,rfl,ha2,hf2,na2,hol2⟩:=ol2.list (by decide:om≠0);rw [C5] at hol2;obtain ⟨r,us,fc,ew,hr,hrf,oc,sc,nrc,_⟩:=hol2.row er;have hai:a0∈fps2 i:=by rw [hf2];exact A9
        have hri2:r∈fps2 i:=by rw [hf2];exact A8 _ hrf
        refine ⟨a0,ws,a,.ref r,rfl,rfl,.inl (.inl ha2),?_,ρ2,fps2,rep2,?_⟩
        ·unfold Ci;rw [hol2.length,ep];exact ew
        rw [e2];intro vb H3 fps3 fpb k3 g3 rep3 ob tb;rw [Own] at ob;obtain ⟨rfl,rfl⟩:=ob;have e3:ρ3[i]?=some (some (.lst rows,om)):=by rw [g3.1 i hm];exact e2i
        obtain ⟨v3,hσ3,ol3⟩:=rep3.own0 hal i _ _ e3;rw [hσ] at hσ3;cases hσ3;obtain ⟨a',ws3,f3,ev,ha3,hf3,na3,hol3⟩:=ol3.list (by decide:om≠0);cases ev;have hai3:a0∈fps3 i:=by rw [hf3];exact A9
        have ht:=k3.top rep2 hm hai ha2;rw [ha3] at ht;cases ht;rw [C5] at hol3;obtain ⟨r',us3,fc3,ew3,hr3,hrf3,oc3,sc3,nrc3,nx⟩:=hol3.row er;rw [ew] at ew3;cases ew3;have hri:r∈fps3 i:=by rw [hf3];exact A8 _ hrf3
        refine ⟨r,us3,b,jq,rfl,rfl,hr3,by rw [oc3.length];exact eq,?_⟩;have oy2:Own M.K H2 (λ _=>True) y om w []:=Own.move k2.keep (λ a ⟨_,_,h⟩=>⟨trivial,rep1.lsts h⟩) (λ _ _ n=>absurd trivial n) y om w [] (λ _ z=>nomatch z) oy;have oy3:Own M.K H3 (λ _=>True) y om w []:=Own.move k3.keep (λ a ⟨_,_,h⟩=>⟨trivial,rep2.lsts h⟩) (λ _ _ n=>absurd trivial n) y om w [] (λ _ z=>nomatch z) oy2;obtain ⟨fc',sc',oc'⟩:=(oc3.full' (Z':=λ _=>True)).set oy3 jq;have oc2:OwnL M.K (As H3 r (.lst (us3.set jq w))) (λ _=>True) (cells.set jq y) om (us3.set jq w) fc':=oc'.at trivial ⟨.l us3,hr3⟩ (λ z=>nrc3 (sc' r z)) λ _ _ n=>absurd trivial n;obtain ⟨f',s',o'⟩:=nx _ _ fc' oc2 sc';have nea:a0≠r:=λ e=>na3 (by rw [e];exact hrf3);have dm:∀ b,H3 b≠none->(As H3 r (.lst (us3.set jq w))) b≠none:=λ b h=>by
         by_cases eb:b=r
         ·rw [eb,BJ];simp
         ·rw [AM eb];exact h
        have hsub:∀ b∈a0::f',b∈fps3 i:=λ b hb=>by
         rw [hf3];exact (ja9.mp hb).elim (λ z=>by rw [z];exact A9) λ z=>A8 _ (s' b z)
        have kw:KS M H3 fps3 (As H3 r (.lst (us3.set jq w))) (λ j=>if j=i then a0::f' else fps3 j):=⟨λ b u hb n=>by rw [AM (λ e=>n ⟨i,by rw [e];exact hri⟩)];exact hb,dm,λ j b hb=>by
         by_cases ej:j=i
         ·simp only [if_pos ej] at hb;exact .inl ⟨i,hsub b hb⟩
         ·simp only [if_neg ej] at hb;exact .inl ⟨j,hb⟩⟩
        refine q σ _ _ (((k1.ks.trans k2.ks).trans k3.ks).trans kw) (rep3.change hal e3 hσ (λ b u hb n=>by rw [AM (λ e=>n (by rw [e];exact hri))];exact hb) dm hsub (λ _=>rfl) ?_);rw [Own];exact ⟨a0,ws,rfl,.inr ⟨by decide,f',by rw [AM nea];exact ha3,rfl,λ z=>na3 (s' a0 z),o'.full'⟩⟩
       ·split at q
        ·rename_i hc;obtain ⟨rfl,rfl⟩:=hc;have oy:Own M.K H1 (λ _=>True) y om w fp:=Own.full _ _ _ o1;have e2i:ρ2[i]?=some (some (.lst rows,om)):=by rw [g2.1 i hm];exact ei
         obtain ⟨v2,hσ2,ol2⟩:=rep2.own0 hal i _ _ e2i;rw [hσ] at hσ2;cases hσ2;obtain ⟨a0,ws,f2,rfl,ha2,hf2,na2,hol2⟩:=ol2.list (by decide:om≠0);rw [C5] at hol2;obtain ⟨r,us,fc,ew,hr,hrf,oc,sc,nrc,_⟩:=hol2.row er;have hai:a0∈fps2 i:=by rw [hf2];exact A9
         refine ⟨a0,ws,a,.ref r,rfl,rfl,.inl (.inl ha2),?_,ρ2,fps2,rep2,?_⟩
         ·unfold Ci;rw [hol2.length,ep];exact ew
         rw [e2];intro vb H3 fps3 fpb k3 g3 rep3 ob tb;rw [Own] at ob;obtain ⟨rfl,rfl⟩:=ob;have e3:ρ3[i]?=some (some (.lst rows,om)):=by rw [g3.1 i hm];exact e2i
         obtain ⟨v3,hσ3,ol3⟩:=rep3.own0 hal i _ _ e3;rw [hσ] at hσ3;cases hσ3;obtain ⟨a',ws3,f3,ev,ha3,hf3,na3,hol3⟩:=ol3.list (by decide:om≠0);cases ev;have hai3:a0∈fps3 i:=by rw [hf3];exact A9
         have ht:=k3.top rep2 hm hai ha2;rw [ha3] at ht;cases ht;rw [C5] at hol3;obtain ⟨r',us3,fc3,ew3,hr3,hrf3,oc3,sc3,nrc3,nx⟩:=hol3.rowP er;rw [ew] at ew3;cases ew3;have hri:r∈fps3 i:=by rw [hf3];exact A8 _ hrf3
         refine ⟨r,us3,b,jq,rfl,rfl,hr3,by rw [oc3.length];exact eq,?_⟩;have n2:∀ b∈fp,¬ Zf M fps2 b:=λ b hb z=>by
          rcases z with z | ⟨j,z⟩
          ·exact t1.ndj b hb (.inl z)
          ·rcases k2.sub j b z with z | z
           ·exact t1.ndj b hb (.inr ⟨j,z⟩)
           ·obtain ⟨o,ho⟩:=Own.lsts y _ w fp oy b hb;rw [ho] at z;cases z
         have oy2:Own M.K H2 (λ _=>True) y om w fp:=Own.move k2.keep (λ a ⟨_,_,h⟩=>⟨trivial,rep1.lsts h⟩) (λ _ _ n=>absurd trivial n) y om w fp (λ a ha ⟨j,_,hj⟩=>t1.ndj a ha (.inr ⟨j,hj⟩)) oy;have n3:∀ b∈fp,¬ Zf M fps3 b:=λ b hb z=>by
          rcases z with z | ⟨j,z⟩
          ·exact n2 b hb (.inl z)
          ·rcases k3.sub j b z with z | z
           ·exact n2 b hb (.inr ⟨j,z⟩)
           ·obtain ⟨o,ho⟩:=Own.lsts y _ w fp oy2 b hb;rw [ho] at z;cases z
         have oy3:Own M.K H3 (λ _=>True) y om w fp:=Own.move k3.keep (λ a ⟨_,_,h⟩=>⟨trivial,rep2.lsts h⟩) (λ _ _ n=>absurd trivial n) y om w fp (λ a ha ⟨j,_,hj⟩=>n2 a ha (.inr ⟨j,hj⟩)) oy2;have nfp:∀ b∈fp,b∉f3:=λ b hb z=>n3 b hb (.inr ⟨i,by rw [hf3];exact A8 _ z⟩);obtain ⟨fc',sc',oc'⟩:=(oc3.full' (Z':=λ _=>True)).setF oy3 jq λ b hb z=>nfp b hb (sc3 b z);have oc2:OwnL M.K (As H3 r (.lst (us3.set jq w))) (λ _=>True) (cells.set jq y) om (us3.set jq w) fc':=oc'.at trivial ⟨.l us3,hr3⟩ (λ z=>(sc' r z).elim nrc3 λ z=>nfp r z hrf3) λ _ _ n=>absurd trivial n;obtain ⟨f',s',o'⟩:=nx _ _ fc' fp oc2 sc' nfp;have nea:a0≠r:=λ e=>na3 (by rw [e];exact hrf3);have dm:∀ b,H3 b≠none->(As H3 r (.lst (us3.set jq w))) b≠none:=λ b h=>by
          by_cases eb:b=r
          ·rw [eb,BJ];simp
          ·rw [AM eb];exact h
         have oF:Own M.K (As H3 r (.lst (us3.set jq w))) (λ _=>True) (.lst (rows.set p (.lst (cells.set jq y)))) om (.ref a0) (a0::f'):=by
          rw [Own];exact ⟨a0,ws,rfl,.inr ⟨by decide,f',by rw [AM nea];exact ha3,rfl,λ z=>(s' a0 z).elim na3 λ z=>n3 a0 z (.inr ⟨i,hai3⟩),by rw [C5];exact o'⟩⟩
         have nz:∀ b∈a0::f',¬ Zf M (λ j=>if j=i then [] else fps3 j) b:=λ b hb z=>by
          have hz:Zf M fps3 b:=by
           rcases z with z | ⟨j,z⟩
           ·exact .inl z
           ·by_cases ej:j=i
            ·simp only [if_pos ej] at z;cases z
            ·simp only [if_neg ej] at z;exact .inr ⟨j,z⟩
          have hin:b∈fps3 i:=by
           rw [hf3];rcases ja9.mp hb with e | hb
           ·rw [e];exact A9
           ·exact (s' b hb).elim (λ z=>A8 _ z) λ z=>absurd hz (n3 b z)
          rcases z with z | ⟨j,z⟩
          ·exact rep3.zo i b hin z
          ·by_cases ej:j=i
           ·simp only [if_pos ej] at z;cases z
           ·simp only [if_neg ej] at z;exact rep3.dj i j (BY ej) b hin z
         have kw:KS M H3 fps3 (As H3 r (.lst (us3.set jq w))) (λ j=>if j=i then [] else fps3 j):=⟨λ b u hb n=>by rw [AM (λ e=>n ⟨i,by rw [e];exact hri⟩)];exact hb,dm,λ j b hb=>by
          by_cases ej:j=i
          ·simp only [if_pos ej] at hb;cases hb
          ·simp only [if_neg ej] at hb;exact .inl ⟨j,hb⟩⟩
         refine q σ _ _ (((k1.ks.trans k2.ks).trans k3.ks).trans kw) (rep3.change (f':=[]) hal e3 hσ (λ b u hb n=>by rw [AM (λ e=>n (by rw [e];exact hri))];exact hb) dm (λ _ z=>nomatch z) (λ h=>by rw [hm] at h;cases h) ?_);exact Own.freeze (λ _ _=>trivial) _ _ _ _ nz oF
        ·exact q.elim
      ·exact q.elim
     ·exact q.elim
    ·exact q.elim
def Zy {P:AD}{w:AB}{K:Frag}{mg:Str->Option Ae}{base:Heap}{lvl:Nat}{fa:Addr}{fd:Dd}{ps:List Str}{io:Bool}{np:Nat} (h:ps.length=np):FnOk P w K mg base (Bi P w K) lvl fa fd ps (Bx K io np (λ _=>.no)):=
 ⟨λ vs H Q E h1=>h1.1.trans h.symm,λ A outer s H args us vs Q E _ _ _ _ h1=>by
  obtain ⟨_,_,_,_,_,z⟩:=h1;exact z.elim⟩
end
section
variable {M:Fm}{ρ ρ':Ag}{σ σ':St}{H H' H'':Hp}{fps fps' fps'':AR}{vs vs':List Nat}
end
section
variable {is:List Nat}{M:Fm}{ρ ρ':Ag}{σ σ':St}{H H' H'':Hp}{fps fps' fps'':AR}{vs vs':List Nat}{D:Ends}
def kill (is:List Nat):Nat->Ag->Ag
 | _,[]=>[]
 | k,s::r=>(if is.contains k then none else s)::kill is (k + 1) r
theorem DZ (is:List Nat):∀ (ρ:Ag) (k i:Nat),(kill is k ρ)[i]?=(ρ[i]?).map λ s=>if is.contains (k + i) then none else s
 | [],k,i=>by simp [kill]
 | s::r,k,0=>by simp [kill]
 | s::r,k,i + 1=>by
  rw [kill,JK,DZ is r (k + 1) i,JK]
  have:k + 1 + i=k + (i + 1):=by omega
  rw [this]
theorem Lj (is:List Nat):∀ (ρ:Ag) (k:Nat),(kill is k ρ).length=ρ.length
 | [],_=>rfl
 | s::r,k=>by rw [kill,Ba,Lj is r (k + 1),Ba]
def Fm.look (M:Fm) (is v:List Nat):Fm:={ M with al:=λ j=>if is.contains j then v else M.al j }
def Rep.look {v:List Nat} (hal:∀ i,M.al i=[]) (r:Rep M ρ σ H fps):Rep (M.look is v) ρ σ H fps where
 own:=λ i x d e=>by
  obtain ⟨u,hu,o⟩:=r.own i x d e;refine ⟨u,hu,o.weak λ a h=>?_⟩;rcases h with z | ⟨j,nj,z⟩
  ·exact .inl z
  ·exact .inr ⟨j,(by rw [hal];exact λ y=>nomatch y),z⟩
 non:=r.non
 dj:=r.dj
 zo:=r.zo
 fr:=r.fr
 zd:=r.zd
 len:=r.len
 msf:=r.msf
 h0:=r.h0
 iov:=r.iov
def Rep.kill {v:List Nat} (r:Rep (M.look is v) ρ σ H fps):Rep M (QQ.kill is 0 ρ) σ H (λ j=>if is.contains j then [] else fps j):=by
 have get:∀ i x d,(QQ.kill is 0 ρ)[i]?=some (some (x,d))->is.contains i=false/\ρ[i]?=some (some (x,d)):=λ i x d e=>by
  rw [DZ,DS] at e;cases e1:ρ[i]? with
  | none=>rw [e1] at e;cases e
  | some s=>
   rw [e1] at e;simp only [IG,Option.some.injEq] at e;split at e
   ·cases e
   ·rename_i hc;exact ⟨by simpa using hc,by rw [e]⟩
 have sub:∀ j a,a∈(if is.contains j then [] else fps j)->a∈fps j:=λ j a h=>by
  split at h
  ·cases h
  ·exact h
 refine ⟨λ i x d e=>?_,λ i h=>?_,λ i j hij a ha hb=>r.dj i j hij a (sub i a ha) (sub j a hb),λ i a ha=>r.zo i a (sub i a ha),λ i hi a ha=>r.fr i hi a (sub i a ha),r.zd,by rw [Lj];exact r.len,λ i x d hi e=>r.msf i x d hi (get i x d e).2,r.h0,r.iov⟩
 ·obtain ⟨hc,e'⟩:=get i x d e;obtain ⟨u,hu,o⟩:=r.own i x d e';refine ⟨u,hu,?_⟩;simp only [hc,JH,if_false];refine o.weak λ a h=>?_;rcases h with z | ⟨j,nj,z⟩
  ·exact .inl z
  ·refine .inr ⟨j,?_,sub j a z⟩;show j∉(if is.contains i then v else M.al i);simp only [hc,JH,if_false];exact nj
 ·by_cases hc:is.contains i=true
  ·simp only [hc,if_true]
  ·simp only [hc,JH,if_false];refine r.non i λ p e=>?_;refine h p ?_;rw [DZ,DS,e];simp only [IG,hc,JH,if_false]
end
section
variable {is:List Nat}{M:Fm}{ρ ρ':Ag}{σ σ':St}{H H' H'':Hp}{fps fps' fps'':AR}{vs vs':List Nat}{D:Ends}
def Rep.sigma {j:Nat}{v:V} (r:Rep M ρ σ H fps) (hj:∀ p,ρ[j]?≠some (some p)) (hio:M.Fre j):Rep M ρ (σ.set j (some v)) H fps where
 own:=λ i x d e=>by
  obtain ⟨u,hu,o⟩:=r.own i x d e;have ij:i≠j:=λ z=>hj _ (by rw [<- z];exact e);exact ⟨u,by rw [Cw (BY ij)];exact hu,o⟩
 non:=r.non
 dj:=r.dj
 zo:=r.zo
 fr:=r.fr
 zd:=r.zd
 len:=by rw [DT];exact r.len
 msf:=r.msf
 h0:=r.h0
 iov:=⟨λ w hw=>by
  have:=hio.1 (by rw [hw];simp)
  rw [Cw this];exact r.iov.1 w hw,λ p hp=>by
  rw [Cw (hio.2 p hp).symm];exact r.iov.2 p hp⟩
end
section
variable {is:List Nat}{X:Cx}{M:Fm}{ρ ρ':Ag}{σ σ':St}{H H' H'':Hp}{fps fps' fps'':AR}{vs vs':List Nat}{D:Ends}
def US:Fc:=λ o i v H Q=>∃ a H',o=.ref a/\DPut H a i v H'/\Q H'
def ZI:Fc:=λ o i v H Q=>Ol o i v H Q\/US o i v H Q
def ZM (hu:X.A.units + 1 < C6):PSet X US:=by
 intro pins s σ H o i v ov iv u Q I ro ri rv h;obtain ⟨a,H',rfl,g,q⟩:=h;obtain rfl:ov=Value.ref a:=ro;exact kR hu I g ri rv λ s' I'=>⟨H',I',q⟩
def PSet.or {t t':Fc} (h:PSet X t) (h':PSet X t'):PSet X (λ o i v H Q=>t o i v H Q\/t' o i v H Q):=by
 intro pins s σ H o i v ov iv u Q I ro ri rv q;rcases q with q | q
 ·exact h pins s σ H o i v ov iv u Q I ro ri rv q
 ·exact h' pins s σ H o i v ov iv u Q I ro ri rv q
def x8 {K:Frag}{Z:Addr->Prop}{y:PV}{u:V}{d:Nat}{w:V}{fp:List Addr} (h:sV y=some u) (o:Own K H Z y d w fp):w=u/\Jd y=true:=by
 cases y <;> cases h <;> (rw [Own] at o;exact ⟨o.1,rfl⟩)
def FY (x:PV) (k y:PV):Option PV:=match x,k with
 | .lst xs,.int i=>(match CL xs.length i with
  | some j=>some (.lst (xs.set j y))
  | none=>none)
 | .dct kvs,.tup ks=>(match Hx ks,sV y with
  | some k,some u=>if kvs.length < A2 then some (.dct (Cv kvs k u)) else none
  | _,_=>none)
 | _,_=>none
def wG:PV->Bool
 | .lst _=>true
 | _=>false
def ED (i:Nat) (fk f:Fx):Fs:=λ ρ=>match f ρ with
 | .ok (y,e,ρ1)=>(match ρ1[i]? with
  | some (some _)=>(match fk ρ1 with
   | .ok (k,_,ρ2)=>(match ρ2[i]? with
    | some (some (x,d))=>(match FY x k y with
     | some x'=>if d≠0/\Hg y=true then .nx (ρ2.set i (some (x',d))) else if d≠0/\e=om/\wG x=true then .nx (ρ2.set i (some (x',1))) else .no
     | none=>.no)
    | _=>.no)
   | _=>.no)
  | _=>.no)
 | .exc c=>.exc c
 | .no=>.no
def Rep.poke {i:Nat}{x x':PV}{d:Nat}{a:Addr}{o':HO}{f':List Addr}{H0:Hp}{fps0:AR} (hal:∀ i,M.al i=[]) (k0:KS M H0 fps0 H fps) (r:Rep M ρ σ H fps) (hi:ρ[i]?=some (some (x,d))) (hσ:σ[i]?=some (some (.ref a))) (ha:a∈fps i) (hs:∀ b∈f',b∈fps i)
  (o:Own M.K (As H a o') (Zf M (λ j=>if j=i then f' else fps j)) x' d (.ref a) f'):KS M H0 fps0 (As H a o') (λ j=>if j=i then f' else fps j)/\Rep M (ρ.set i (some (x',d))) σ (As H a o') (λ j=>if j=i then f' else fps j):=by
 have dm:∀ b,H b≠none->As H a o' b≠none:=λ b hb=>by
  by_cases eb:b=a
  ·rw [eb,BJ];simp
  ·rw [AM eb];exact hb
 refine ⟨⟨λ b u hb n=>?_,λ b hb=>dm b (k0.dom b hb),λ j b hb=>?_⟩,r.change hal hi hσ (λ b u hb n=>?_) dm hs (λ h=>r.msf i _ _ h hi) o⟩
 ·have hb1:=k0.keep b u hb n;rw [AM]
  ·exact hb1
  ·rintro rfl;rcases k0.sub i b ha with z | z
   ·exact n z
   ·rw [z] at hb;cases hb
 ·by_cases ej:j=i
  ·simp only [if_pos ej] at hb;exact k0.sub i b (hs b hb)
  ·simp only [if_neg ej] at hb;exact k0.sub j b hb
 ·rw [AM]
  ·exact hb
  ·rintro rfl;exact n ha
theorem ja {f fk:Fx}{vk:List Nat}{i:Nat} (hal:∀ i,M.al i=[]) (hm:M.Ms i=false) (hv:∀ i∈vs,M.Ms i=false) (hq:tS M (ED i fk f) D σ H):DM (tE M f vs) (HG (Bl i) (tE M fk vk) ZI) D σ H:=by
 obtain ⟨ρ,fps,rep,q⟩:=hq;refine ⟨ρ,fps,rep,?_⟩;unfold ED at q;cases ef:f ρ with
 | no=>rw [ef] at q;exact q
 | exc c=>rw [ef] at q;exact λ H' fps' k=>q _ H' fps' k.ks
 | ok p=>
  obtain ⟨y,e,ρ1⟩:=p;rw [ef] at q;intro w H1 fps1 fp k1 g1 rep1 o1 t1;dsimp only at q;cases e1:ρ1[i]? with
  | none=>rw [e1] at q;exact q.elim
  | some s1=>
   rw [e1] at q;cases s1 with
   | none=>exact q.elim
   | some p1=>
   obtain ⟨x1,d1⟩:=p1;dsimp only at q;obtain ⟨v0,hσ,_⟩:=rep1.own i _ _ e1;refine ⟨v0,hσ,ρ1,fps1,rep1,?_⟩;cases ek:fk ρ1 with
   | no=>rw [ek] at q;exact q.elim
   | exc c=>rw [ek] at q;exact q.elim
   | ok p2=>
    obtain ⟨k,ek',ρ2⟩:=p2;rw [ek] at q;intro kv H2 fps2 f2 k2 g2 rep2 o2 t2;dsimp only at q;cases e2:ρ2[i]? with
    | none=>rw [e2] at q;exact q.elim
    | some s2=>
     rw [e2] at q;cases s2 with
     | none=>exact q.elim
     | some p3=>
      obtain ⟨x,d⟩:=p3;dsimp only at q;cases ep:FY x k y with
      | none=>rw [ep] at q;exact q.elim
      | some x'=>
       rw [ep] at q;dsimp only at q;split at q
       ·rename_i hc;obtain ⟨hd,hy⟩:=hc;obtain ⟨v1,hσ1,ox⟩:=rep2.own0 hal i _ _ e2;rw [hσ] at hσ1;cases hσ1;have k12:KS M H fps H2 fps2:=k1.ks.trans k2.ks;unfold FY at ep;split at ep
        ·rename_i xs n;split at ep
         ·rename_i j ej;cases ep;rw [Own] at o2;obtain ⟨rfl,_⟩:=o2;obtain ⟨a,ws,fc,rfl,ha,hfp,nac,hol⟩:=ox.list hd;have hai:a∈fps2 i:=by rw [hfp];exact A9
          have ow:Own M.K H2 (Zf M fps2) y (pd d) w []:=(Own.flatA (d':=pd d) hy (k2.stay rep1 hv o1 t1.ndj)).2;obtain ⟨fc',hs',hset⟩:=hol.set ow j;have inI:∀ b,b∈a::fc'->b∈fps2 i:=λ b hb=>(ja9.mp hb).elim (λ z=>by rw [z];exact hai) λ z=>by rw [hfp];exact A8 _ (hs' b z)
          have nz:∀ b,Zf M (λ j=>if j=i then a::fc' else fps2 j) b->Zf M fps2 b:=λ b h=>by
           rcases h with z | ⟨j,z⟩
           ·exact .inl z
           ·by_cases ej:j=i
            ·simp only [if_pos ej] at z;exact .inr ⟨i,inI b z⟩
            ·simp only [if_neg ej] at z;exact .inr ⟨j,z⟩
          refine .inl ⟨a,ws,n,j,rfl,rfl,ha,by rw [hol.length];exact ej,?_⟩;have pk:=rep2.poke (o':=.lst (ws.set j w)) (x':=.lst (xs.set j y)) (f':=a::fc') hal k12 e2 hσ hai inI (by
           rw [Own];exact ⟨a,_,rfl,.inr ⟨hd,fc',BJ,rfl,λ z=>nac (hs' a z),hset.at (.inr ⟨i,hai⟩) ⟨.l ws,ha⟩ (λ z=>nac (hs' a z)) λ b _ n z=>n (nz b z)⟩⟩)
          exact q σ _ _ pk.1 pk.2
         ·cases ep
        ·rename_i kvs ks;split at ep
         ·rename_i kk u ekk eu;split at ep
          ·rename_i hl;cases ep;obtain ⟨rfl,_⟩:=x8 eu o1;rw [Own] at o2;obtain ⟨b,ws,rfl,hb,ol⟩:=o2
           have:=PN ekk ol
           subst this;have hx:∃ a,v0=.ref a/\H2 a=some (.dT kvs)/\fps2 i=[a]:=by
            rw [Own] at ox;obtain ⟨a,ea,⟨d0,_⟩ | ⟨_,ha,hf⟩⟩:=ox
            ·exact absurd d0 hd
            ·exact ⟨a,ea,ha,hf⟩
           obtain ⟨a,rfl,ha,hf⟩:=hx;have hai:a∈fps2 i:=by rw [hf];exact A9
           refine .inr ⟨a,_,rfl,DPut.t ha hb hl,?_⟩;have pk:=rep2.poke (o':=.dT (Cv kvs kk w)) (x':=.dct (Cv kvs kk w)) (f':=[a]) hal k12 e2 hσ hai (λ b hb=>by rw [jc0.mp hb];exact hai) (by
            rw [Own];exact ⟨a,rfl,.inr ⟨hd,BJ,rfl⟩⟩)
           exact q σ _ _ pk.1 pk.2
          ·cases ep
         ·cases ep
        ·cases ep
       ·split at q
        ·rename_i hc;obtain ⟨hd,rfl,hx⟩:=hc;obtain ⟨v1,hσ1,ox⟩:=rep2.own0 hal i _ _ e2;rw [hσ] at hσ1;cases hσ1;cases x with
         | lst xs=>
          unfold FY at ep;cases k with
          | int n=>
           dsimp only at ep;split at ep
           ·rename_i j ej;cases ep;rw [Own] at o2;obtain ⟨rfl,_⟩:=o2;obtain ⟨a,ws,fc,rfl,ha,hfp,nac,hol⟩:=ox.list hd;have hai:a∈fps2 i:=by rw [hfp];exact A9
            have oy:=k2.stay rep1 hv o1 t1.ndj;have n2:∀ b∈fp,¬ Zf M fps2 b:=λ b hb z=>by
             rcases z with z | ⟨j,z⟩
             ·exact t1.ndj b hb (.inl z)
             ·rcases k2.sub j b z with z | z
              ·exact t1.ndj b hb (.inr ⟨j,z⟩)
              ·obtain ⟨o,ho⟩:=Own.lsts y _ w fp o1 b hb;rw [ho] at z;cases z
            have hafp:a∉fp:=λ z=>n2 a z (.inr ⟨i,hai⟩);have hst:∃ j,a∈fps j:=⟨i,by have:=(k1.trans k2).same i hm;rw [<- this];exact hai⟩
            have rw2:Rep (M.plus fp) ρ2 σ H2 fps2:=rep.wide (λ i j hj=>by rw [hal i] at hj;cases hj) (k1.trans k2) (g1.trans g2) rep2 λ b hb=>⟨t1.new b hb,by obtain ⟨o,ho⟩:=Own.lsts y _ w fp oy b hb;rw [ho];simp,n2 b hb⟩
            have h2:∀ b∈fp,M.H₀ b=none/\¬ M.Zo b:=λ b hb=>⟨rep.h0' (t1.new b hb),λ z=>n2 b hb (.inl z)⟩
            let Z:Addr->Prop:=Zf M (λ j=>if j=i then [a] else fps2 j);have zsub:∀ b,Z b->Zf M fps2 b:=λ b h=>by
             rcases h with z | ⟨j,z⟩
             ·exact .inl z
             ·by_cases ej:j=i
              ·simp only [if_pos ej] at z;rw [jc0.mp z];exact .inr ⟨i,hai⟩
              ·simp only [if_neg ej] at z;exact .inr ⟨j,z⟩
            have nf:∀ b∈fc,¬ Z b:=λ b hb z=>by
             have hbi:b∈fps2 i:=by rw [hfp];exact A8 _ hb
             rcases z with z | ⟨j,z⟩
             ·exact rep2.zo i b hbi z
             ·by_cases ej:j=i
              ·simp only [if_pos ej] at z;rw [jc0.mp z] at hb;exact nac hb
              ·simp only [if_neg ej] at z;exact rep2.dj i j (BY ej) b hbi z
            have za:Z a:=.inr ⟨i,by simp⟩;have u1:=OwnL.freeze (Z':=Z) zsub xs _ ws fc nf hol;have u2:=Own.freeze (Z':=Z) (λ b _=>trivial) y _ w fp (λ b hb z=>n2 b hb (zsub b z)) (Own.full (Z':=λ _=>True) y w fp oy);obtain ⟨f',hs',u3⟩:=(u1.at za ⟨.l ws,ha⟩ (λ z=>nomatch z) λ _ _ n=>n).set (u2.at (o:=.lst (ws.set j w)) za ⟨.l ws,ha⟩ (λ z=>nomatch z) λ _ _ n=>n) j;obtain rfl:f'=[]:=List.eq_nil_iff_forall_not_mem.mpr λ b hb=>nomatch hs' b hb
            refine .inl ⟨a,ws,n,j,rfl,rfl,ha,by rw [hol.length];exact ej,?_⟩;refine q σ _ _ ((k1.ks.trans k2.ks).write (i:=i) (f':=[]) (fp:=fp) hst λ b hb=>?_) (rw2.rewrite hal e2 hσ ha hfp (λ z=>nomatch z) (λ b hb=>nomatch hb) (by decide) (λ h=>by rw [hm] at h;cases h) h2 ?_)
            ·rcases ja9.mp hb with z | z
             ·exact .inl (by rw [z];exact hai)
             ·cases z
            ·rw [O3];exact u3
           ·cases ep
          | _=>cases ep
         | _=>cases hx
        ·exact q.elim
end
section
variable {X:Cx}{W:St->Nat->Hp->Prop}
end
section
variable {X:Cx}{pins pins1:List (Addr×Obj)}{σ:St}{H:Hp}{s:Ak}{e:Ae->Ak->Prop}
end
section
variable {M:Model}{A:Bc}{E:Ae->Ak->Prop}{K:Frag}
end
section
variable {X:Cx}{pins:List (Addr×Obj)}{σ:St}{H H1:Hp}{s:Ak}{B:Heap}{a C:Addr}{a0:Ae}{c:Nat}
end
section
variable {is:List Nat}{X:Cx}{M:Fm}{ρ ρ':Ag}{σ σ':St}{H H' H'':Hp}{fps fps' fps'':AR}{vs vs':List Nat}{D:Ends}
end
theorem OwnL.item {K:Frag}{H:Hp}{Z:Addr->Prop}:∀ {xs:List PV}{ws:List V}{f:List Addr}{n:Nat}{x:PV},OwnL K H Z xs om ws f->xs[n]?=some x->∃ (v:V) (fi fr:List Addr),ws[n]?=some v/\Own K H (λ _=>True) x om v fi/\(∀ b,b∈f↔b∈fi\/b∈fr)/\(∀ b∈fi,b∉fr) /\
  ∀ (S:Addr->Prop) (H':Hp) (x':PV) (f':List Addr),Cs S H H'->(∀ b,S b->∃ o:MO,H b=some o.ho)->(∀ b∈fr,¬ S b)->Own K H' (λ _=>True) x' om v f'->(∀ b∈f',b∉fr)->∃ f2:List Addr,(∀ b,b∈f2↔b∈f'\/b∈fr)/\OwnL K H' (λ _=>True) (xs.set n x') om ws f2
 | [],ws,f,n,x,h,e=>by simp at e
 | y::xs,ws,f,0,x,h,e=>by
  cases e;rw [OwnL] at h;obtain ⟨v,r,f1,f2,rfl,rfl,dj,h1,h2⟩:=h;refine ⟨v,f1,f2,rfl,Own.full _ _ _ h1,λ b=>jb2,dj,λ S H' x' f' k hS hr o hd=>⟨f'++f2,λ b=>jb2,?_⟩⟩;rw [IM,OwnL];exact ⟨v,r,f',f2,rfl,rfl,hd,o,OwnL.move (Z:=λ _=>True) k (λ a s=>⟨trivial,hS a s⟩) (λ _ _ h _=>h trivial) xs om r f2 hr h2.full'⟩
 | y::xs,ws,f,n + 1,x,h,e=>by
  rw [OwnL] at h;obtain ⟨v,r,f1,f2,rfl,rfl,dj,h1,h2⟩:=h;obtain ⟨u,fi,fr,e1,o1,hf,hd,nx⟩:=OwnL.item h2 (by simpa using e);refine ⟨u,fi,f1++fr,by simpa using e1,o1,λ b=>?_,λ b hb z=>?_,λ S H' x' f' k hS hr o hd'=>?_⟩
  ·rw [jb2,jb2,hf b];constructor
   ·rintro (h | h | h)
    ·exact .inr (.inl h)
    ·exact .inl h
    ·exact .inr (.inr h)
   ·rintro (h | h | h)
    ·exact .inr (.inl h)
    ·exact .inl h
    ·exact .inr (.inr h)
  ·rcases jb2.mp z with z | z
   ·exact dj b z ((hf b).mpr (.inl hb))
   ·exact hd b hb z
  ·obtain ⟨f3,hf3,ol⟩:=nx S H' x' f' k hS (λ b hb=>hr b (Bb _ hb)) o (λ b hb z=>hd' b hb (Bb _ z));refine ⟨f1++f3,λ b=>?_,?_⟩
   ·rw [jb2,jb2,hf3 b];constructor
    ·rintro (h | h | h)
     ·exact .inr (.inl h)
     ·exact .inl h
     ·exact .inr (.inr h)
    ·rintro (h | h | h)
     ·exact .inr (.inl h)
     ·exact .inl h
     ·exact .inr (.inr h)
   ·rw [IL,OwnL];refine ⟨v,r,f1,f3,rfl,rfl,λ b hb z=>?_,Own.move (Z:=λ _=>True) k (λ a s=>⟨trivial,hS a s⟩) (λ _ _ h _=>h trivial) y om v f1 (λ b hb=>hr b (Bq _ hb)) (Own.full _ _ _ h1),ol⟩;rcases (hf3 b).mp z with z | z
    ·exact hd' b z (Bq _ hb)
    ·exact dj b hb ((hf b).mpr (.inr z))
def KA (t:Bool) (xs:List PV):PV:=if t then .tup xs else .lst xs
def M7 (t:Bool) (ws:List V):HO:=if t then .tup ws else .lst ws
theorem Own.seq {K:Frag}{H:Hp}{Z:Addr->Prop}{t:Bool}{xs:List PV}{v:V}{fp:List Addr} (h:Own K H Z (KA t xs) om v fp):∃ (a:Addr) (ws:List V),v=.ref a/\H a=some (M7 t ws)/\ws.length=xs.length /\
  ∀ (n:Nat) (x:PV),xs[n]?=some x->∃ (w:V) (fi fr:List Addr),ws[n]?=some w/\Own K H (λ _=>True) x om w fi/\(∀ b,b∈fp↔b∈fi\/b∈fr)/\(∀ b∈fi,b∉fr) /\
  ∀ (S:Addr->Prop) (H':Hp) (x':PV) (f':List Addr),Cs S H H'->(∀ b,S b->∃ o:MO,H b=some o.ho)->(∀ b∈fr,¬ S b)->Own K H' (λ _=>True) x' om w f'->(∀ b∈f',b∉fr)->∃ f2:List Addr,(∀ b,b∈f2↔b∈f'\/b∈fr)/\Own K H' (λ _=>True) (KA t (xs.set n x')) om v f2:=by
 cases t with
 | true=>
  have h':Own K H Z (.tup xs) om v fp:=h;rw [Own] at h';obtain ⟨a,ws,rfl,ha,ol⟩:=h';rw [C5] at ol;refine ⟨a,ws,rfl,ha,ol.length,λ n x e=>?_⟩;obtain ⟨w,fi,fr,e1,o1,hf,hd,nx⟩:=ol.item e;refine ⟨w,fi,fr,e1,o1,hf,hd,λ S H' x' f' k hS hr o hd'=>?_⟩;obtain ⟨f2,hf2,ol2⟩:=nx S H' x' f' k hS hr o hd';refine ⟨f2,hf2,?_⟩;show Own K H' (λ _=>True) (.tup (xs.set n x')) om (.ref a) f2;rw [Own];refine ⟨a,ws,rfl,k a _ ha λ s=>?_,by rw [C5];exact ol2⟩;obtain ⟨q,e⟩:=hS a s;rw [ha] at e;cases q <;> cases e
 | false=>
  have h':Own K H Z (.lst xs) om v fp:=h;obtain ⟨a,ws,f,rfl,ha,rfl,na,ol⟩:=h'.list (by decide:om≠0);rw [C5] at ol;refine ⟨a,ws,rfl,ha,ol.length,λ n x e=>?_⟩;obtain ⟨w,fi,fr,e1,o1,hf,hd,nx⟩:=ol.item e;refine ⟨w,fi,a::fr,e1,o1,λ b=>?_,λ b hb z=>?_,λ S H' x' f' k hS hr o hd'=>?_⟩
  ·rw [ja9,ja9,hf b];constructor
   ·rintro (h | h | h)
    ·exact .inr (.inl h)
    ·exact .inl h
    ·exact .inr (.inr h)
   ·rintro (h | h | h)
    ·exact .inr (.inl h)
    ·exact .inl h
    ·exact .inr (.inr h)
  ·rcases ja9.mp z with z | z
   ·exact na (by rw [<- z];exact (hf b).mpr (.inl hb))
   ·exact hd b hb z
  ·obtain ⟨f2,hf2,ol2⟩:=nx S H' x' f' k hS (λ b hb=>hr b (A8 _ hb)) o (λ b hb z=>hd' b hb (A8 _ z));refine ⟨a::f2,λ b=>?_,?_⟩
   ·rw [ja9,ja9,hf2 b];constructor
    ·rintro (h | h | h)
     ·exact .inr (.inl h)
     ·exact .inl h
     ·exact .inr (.inr h)
    ·rintro (h | h | h)
     ·exact .inr (.inl h)
     ·exact .inl h
     ·exact .inr (.inr h)
   ·show Own K H' (λ _=>True) (.lst (xs.set n x')) om (.ref a) (a::f2);rw [Own];refine ⟨a,ws,rfl,.inr ⟨by decide,f2,k a _ ha (hr a A9),rfl,λ z=>?_,by rw [C5];exact ol2⟩⟩;rcases (hf2 a).mp z with z | z
    ·exact hd' a z A9
    ·exact na ((hf a).mpr (.inr z))
def Fm.lend (M:Fm) (F:Addr->Prop) (P:List (Nat×V)):Fm:={ M with Zo:=λ a=>M.Zo a\/F a,pn:=P++M.pn }
section
variable {M:Fm}{ρ ρ':Ag}{σ σ':St}{H H':Hp}{fps fps':AR}{F F':Addr->Prop}{P P':List (Nat×V)}
def Rep.out {j:Nat} (hal:∀ i,M.al i=[]) (r:Rep (M.lend F P) ρ σ H fps) (hP:∀ p∈P',σ[p.1]?=some (some p.2)) (hF:∀ a,F' a↔F a\/a∈fps j) (hP0:∀ p∈M.pn,σ[p.1]?=some (some p.2)):Rep (M.lend F' P') (QQ.kill [j] 0 ρ) σ H (λ l=>if l=j then [] else fps l):=by
 have get:∀ i x d,(QQ.kill [j] 0 ρ)[i]?=some (some (x,d))->i≠j/\ρ[i]?=some (some (x,d)):=λ i x d e=>by
  rw [DZ,DS] at e;cases e1:ρ[i]? with
  | none=>rw [e1] at e;cases e
  | some s=>
   rw [e1] at e;by_cases h:i=j
   ·rw [h] at e;simp at e
   ·have:[j].contains i=false:=by simp [h]
    rw [IG,this] at e;simp at e;exact ⟨h,by rw [e]⟩
 refine ⟨λ i x d e=>?_,λ i h=>?_,λ i k hik a ha hb=>?_,λ i a ha z=>?_,λ i hi a ha=>?_,λ a z=>?_,by rw [Lj];exact r.len,λ i x d hi e=>r.msf i x d hi (get i x d e).2,r.h0,⟨r.iov.1,λ p hp=>(jb2.mp hp).elim (hP p) (hP0 p)⟩⟩
 ·obtain ⟨ne,e'⟩:=get i x d e;obtain ⟨v,hv,o⟩:=r.own i x d e';refine ⟨v,hv,?_⟩;rw [if_neg ne];refine o.weak λ a h=>?_;rcases h with (h | h) | ⟨l,hl,h⟩
  ·exact .inl (.inl h)
  ·rcases (hF a).mp h with h | h
   ·exact .inl (.inr h)
   ·exact .inr ⟨j,by show j∉M.al i;rw [hal];simp,h⟩
  ·dsimp only at h;split at h
   ·cases h
   ·exact .inr ⟨l,hl,h⟩
 ·show (if i=j then [] else fps i)=[];split
  ·rfl
  ·rename_i ne;refine r.non i λ p e=>h p ?_;rw [DZ,e,DS];simp [ne]
 ·split at ha
  ·cases ha
  ·split at hb
   ·cases hb
   ·exact r.dj i k hik a ha hb
 ·split at ha
  ·cases ha
  ·rename_i ne;rcases z with z | z
   ·exact r.zo i a ha (.inl z)
   ·rcases (hF a).mp z with z | z
    ·exact r.zo i a ha (.inr z)
    ·exact r.dj i j ne a ha z
 ·split at ha
  ·cases ha
  ·exact r.fr i hi a ha
 ·rcases z with z | z
  ·exact r.zd a (.inl z)
  ·rcases (hF a).mp z with z | z
   ·exact r.zd a (.inr z)
   ·obtain ⟨o,e⟩:=r.lsts z;rw [e];simp
def Rep.inn {j:Nat}{x:PV}{v:V}{fi:List Addr} (hal:∀ i,M.al i=[]) (r:Rep (M.lend F P) ρ σ H fps) (hj:ρ[j]?=some none) (hv:σ[j]?=some (some v)) (o:Own M.K H (λ _=>True) x om v fi) (hF:∀ a,F a↔a∈fi\/F' a) (hd:∀ a∈fi,¬ F' a) (hz:∀ a∈fi,¬ M.Zo a) (hf:M.Ms j=false->∀ a∈fi,M.H₀ a=none)
  (hP:∀ p∈P',σ[p.1]?=some (some p.2)) (hP0:∀ p∈M.pn,σ[p.1]?=some (some p.2)):Rep (M.lend F' P') (ρ.set j (some (x,om))) σ H (λ l=>if l=j then fi else fps l):=by
 have hjl:j < ρ.length:=(jb1.mp hj).1;have fj:fps j=[]:=r.non j λ p e=>by rw [hj] at e;cases e
 have get:∀ i y d,(ρ.set j (some (x,om)))[i]?=some (some (y,d))->(i=j/\y=x/\d=om)\/(i≠j/\ρ[i]?=some (some (y,d))):=λ i y d e=>by
  by_cases h:i=j
  ·rw [h,D4 hjl] at e;cases e;exact .inl ⟨h,rfl,rfl⟩
  ·rw [Cw (BY h)] at e;exact .inr ⟨h,e⟩
 refine ⟨λ i y d e=>?_,λ i h=>?_,λ i k hik a ha hb=>?_,λ i a ha z=>?_,λ i hi a ha=>?_,λ a z=>?_,by rw [DT];exact r.len,λ i y d hi e=>?_,r.h0,⟨r.iov.1,λ p hp=>(jb2.mp hp).elim (hP p) (hP0 p)⟩⟩
 ·rcases get i y d e with ⟨rfl,rfl,rfl⟩ | ⟨ne,e'⟩
  ·refine ⟨v,hv,?_⟩;rw [if_pos rfl];exact Own.full _ _ _ o
  ·obtain ⟨u,hu,o'⟩:=r.own i y d e';refine ⟨u,hu,?_⟩;rw [if_neg ne];refine o'.weak λ a h=>?_;rcases h with (h | h) | ⟨l,hl,h⟩
   ·exact .inl (.inl h)
   ·exact .inl (.inr ((hF a).mpr (.inr h)))
   ·dsimp only at h;split at h
    ·exact .inl (.inr ((hF a).mpr (.inl h)))
    ·exact .inr ⟨l,hl,h⟩
 ·show (if i=j then fi else fps i)=[];split
  ·rename_i e;exact absurd (by rw [e,D4 hjl]) (h (x,om))
  ·rename_i ne;exact r.non i λ p e=>h p (by rw [Cw (BY ne)];exact e)
 ·split at ha
  ·split at hb
   ·rename_i e1 e2;exact hik (e1.trans e2.symm)
   ·exact r.zo k a hb (.inr ((hF a).mpr (.inl ha)))
  ·split at hb
   ·exact r.zo i a ha (.inr ((hF a).mpr (.inl hb)))
   ·exact r.dj i k hik a ha hb
 ·split at ha
  ·rcases z with z | z
   ·exact hz a ha z
   ·exact hd a ha z
  ·rcases z with z | z
   ·exact r.zo i a ha (.inl z)
   ·exact r.zo i a ha (.inr ((hF a).mpr (.inr z)))
 ·split at ha
  ·rename_i e;exact hf (by rw [<- e];exact hi) a ha
  ·exact r.fr i hi a ha
 ·rcases z with z | z
  ·exact r.zd a (.inl z)
  ·exact r.zd a (.inr ((hF a).mpr (.inr z)))
 ·rcases get i y d e with ⟨rfl,rfl,rfl⟩ | ⟨ne,e'⟩
  ·rfl
  ·exact r.msf i y d hi e'
def Rep.unlend (r:Rep (M.lend F P) ρ σ H fps):Rep M ρ σ H fps where
 own:=λ i x d e=>let ⟨v,h1,h2⟩:=r.own i x d e;⟨v,h1,h2.weak λ a h=>h.elim (λ h=>.inl (.inl h)) .inr⟩
 non:=r.non
 dj:=r.dj
 zo:=λ i a ha z=>r.zo i a ha (.inl z)
 fr:=r.fr
 zd:=λ a z=>r.zd a (.inl z)
 len:=r.len
 msf:=r.msf
 h0:=r.h0
 iov:=⟨r.iov.1,λ p hp=>r.iov.2 p (Bb _ hp)⟩
def Im (t:Bool) (i0 i:Nat) (body:Fs):List PV->List PV->Ag->Rs
 | done,[],ρ=>.nx (ρ.set i0 (some (KA t done,om)))
 | done,x::r,ρ=>match body (ρ.set i (some (x,om))) with
  | .nx ρ'=>(match ρ'[i]?,ρ'[i0]? with
   | some (some (y,d)),some none=>if d=om then Im t i0 i body (done++[y]) r (QQ.kill [i] 0 ρ') else .no
   | _,_=>.no)
  | .rt y _ ρ'=>if Jd y=true then .rt y om (QQ.kill [i] 0 ρ') else .no
  | _=>.no
def J2 (i0 i:Nat) (body:Fs):Fs:=λ ρ=>match ρ[i0]? with
 | some (some (.lst xs,d))=>if d=om/\i < ρ.length then Im false i0 i body [] xs (QQ.kill [i0] 0 (QQ.kill [i] 0 ρ)) else .no
 | some (some (.tup xs,d))=>if d=om/\i < ρ.length then Im true i0 i body [] xs (QQ.kill [i0] 0 (QQ.kill [i] 0 ρ)) else .no
 | _=>.no
def HU (t:Bool) (K:Frag) (a:Addr):It:=if t then Tz K a else Lc K a
theorem qg {t:Bool}{K:Frag}{a:Addr}{ws:List V}{w:V}{n:Nat} (h:H a=some (M7 t ws)) (e:ws[n]?=some w):(HU t K a).go n H:=by
 cases t with
 | true=>exact ⟨ws,w,.inl (.inl h),e⟩
 | false=>exact ⟨ws,w,.inl (.inl h),e⟩
theorem jN {t:Bool}{K:Frag}{a:Addr}{ws:List V}{n:Nat} (h:H a=some (M7 t ws)) (e:ws.length<=n):(HU t K a).stop n H:=by
 cases t with
 | true=>exact ⟨ws,.inl (.inl h),e⟩
 | false=>exact ⟨ws,.inl (.inl h),e⟩
theorem zg {t:Bool}{K:Frag}{a:Addr}{ws:List V}{w x:V}{n:Nat} (h:H a=some (M7 t ws)) (e:ws[n]?=some w) (y:(HU t K a).yld n H x H'):H'=H/\x=w:=by
 cases t with
 | true=>
  obtain ⟨e1,e2⟩:=y
  have:=e2 ws (.inl (.inl h))
  rw [e] at this;exact ⟨e1,(Option.some.inj this).symm⟩
 | false=>
  obtain ⟨e1,e2⟩:=y
  have:=e2 ws (.inl (.inl h))
  rw [e] at this;exact ⟨e1,(Option.some.inj this).symm⟩
theorem jQ {t:Bool}{i0 i:Nat}{b:Fs}{D:Ends}{a:Addr} (hal:∀ j,M.al j=[]) (hm0:M.Ms i0=false) (hm:M.Ms i=false) (hne:i≠i0) (hfi:M.Fre i) (hio:M.Fre i0) (xs:List PV) (done:List PV) (F:List Addr) (rep:Rep (M.lend (λ c=>c∈F) [(i0,.ref a)]) ρ σ H fps) (e1:ρ[i]?=some none) (e2:ρ[i0]?=some none)
  (o:Own M.K H (λ _=>True) (KA t (done++xs)) om (.ref a) F) (hfr:∀ c∈F,M.H₀ c=none) (hz:∀ c∈F,¬ M.Zo c) (q:RsOk M D H (λ l=>if l=i0 then F else fps l) (Im t i0 i b done xs ρ)):
  ∃ W:Nat->Nat->St->Hp->Prop,(∃ m,W done.length m σ H)/\∀ n m σ H,W n m σ H->((HU t M.K a).stop n H/\D.nx σ H)\/((HU t M.K a).go n H/\∃ N:St->Hp->Prop,(∀ σ' H',N σ' H'->∃ m',m' < m/\W (n + 1) m' σ' H') /\
   ∀ x H',(HU t M.K a).yld n H x H'->DK i x σ H' λ σ2 H2=>(λ (D:Ends) σ H=>∃ (G:Addr->Prop) (P:List (Nat×V)),(∀ p∈P,p.1=i\/p.1=i0)/\tS (M.lend G P) b D σ H) { D with nx:=N,ct:=N,bk:=D.nx } σ2 H2):=by
 let W:Nat->Nat->St->Hp->Prop:=λ n m σ H=>∃ (ρ:Ag) (fps:AR) (done xs:List PV) (F:List Addr),m=xs.length/\done.length=n/\Rep (M.lend (λ c=>c∈F) [(i0,.ref a)]) ρ σ H fps/\ρ[i]?=some none/\ρ[i0]?=some none/\Own M.K H (λ _=>True) (KA t (done++xs)) om (.ref a) F/\(∀ c∈F,M.H₀ c=none)/\(∀ c∈F,¬ M.Zo c)/\RsOk M D H (λ l=>if l=i0 then F else fps l) (Im t i0 i b done xs ρ);refine ⟨W,⟨_,ρ,fps,done,xs,F,rfl,rfl,rep,e1,e2,o,hfr,hz,q⟩,?_⟩;clear rep e1 e2 o hfr hz q;rintro n m σ H ⟨ρ,fps,done,xs,F,rfl,rfl,rep,e1,e2,o,hfr,hz,q⟩;obtain ⟨a',ws,ea,ha,hl,it⟩:=o.seq;cases ea;have pin0:σ[i0]?=some (some (.ref a)):=rep.iov.2 (i0,.ref a) (Bq _ (by simp));have pnM:∀ p∈M.pn,σ[p.1]?=some (some p.2):=λ p hp=>rep.iov.2 p (Bb _ hp);cases xs with
 | nil=>
  left
  rw [JF] at o hl;refine ⟨jN ha (by rw [hl];exact AW _),?_⟩;have r1:=Rep.inn (F':=λ _=>False) (P':=[]) hal rep e2 pin0 o (λ c=>⟨.inl,λ h=>h.elim id E5⟩) (λ _ _ z=>z) hz (λ _=>hfr) (λ _ z=>nomatch z) pnM;exact q σ H _ KS.refl r1.unlend
 | cons x r=>
  right
  obtain ⟨w,fi,fr,ew,ox,hF,hd,nx⟩:=it done.length x (by rw [EX (AW _),Mx];rfl);refine ⟨qg ha ew,W (done.length + 1) r.length,λ σ' H' z=>⟨_,by rw [Ba];exact II _,z⟩,λ y H' yy=>?_⟩;obtain ⟨eH,ey⟩:=zg ha ew yy;rw [eH,ey];clear eH ey yy H' y;show ∃ (G:Addr->Prop) (P:List (Nat×V)),(∀ p∈P,p.1=i\/p.1=i0)/\tS (M.lend G P) b { D with nx:=W (done.length + 1) r.length,ct:=W (done.length + 1) r.length,bk:=D.nx } (σ.set i (some w)) H;have il:i < σ.length:=by rw [<- rep.len];exact (jb1.mp e1).1
  have pinI:(σ.set i (some w))[i]?=some (some w):=D4 il;have pin0':(σ.set i (some w))[i0]?=some (some (.ref a)):=by rw [Cw hne];exact pin0
  have pnM':∀ p∈M.pn,(σ.set i (some w))[p.1]?=some (some p.2):=λ p hp=>by rw [Cw (hfi.2 p hp).symm];exact pnM p hp
  have r0:=rep.sigma (j:=i) (v:=w) (λ p e=>by rw [e1] at e;cases e) ⟨hfi.1,λ p hp=>by
   rcases jb2.mp hp with z | z
   ·rw [jc0.mp z];exact hne.symm
   ·exact hfi.2 p z⟩
  have rb:=Rep.inn (F':=λ c=>c∈fr) (P':=[(i,w),(i0,.ref a)]) hal r0 e1 pinI ox hF hd (λ c hc=>hz c ((hF c).mpr (.inl hc))) (λ _ c hc=>hfr c ((hF c).mpr (.inl hc))) (λ p hp=>by
   rcases ja9.mp hp with z | z
   ·rw [z];exact pinI
   ·rw [jc0.mp z];exact pin0') pnM'
  refine ⟨λ c=>c∈fr,[(i,w),(i0,.ref a)],λ p hp=>by
   rcases ja9.mp hp with z | z
   ·rw [z];exact .inl rfl
   ·rw [jc0.mp z];exact .inr rfl,ρ.set i (some (x,om)),_,rb,?_⟩
  have inF:∀ l c,c∈(if l=i then fi else fps l)->∃ j,c∈(if j=i0 then F else fps j):=λ l c hc=>by
   split at hc
   ·exact ⟨i0,by rw [if_pos rfl];exact (hF c).mpr (.inl hc)⟩
   ·rename_i nl;by_cases h0:l=i0
    ·rw [h0,rep.non i0 λ p e=>by rw [e2] at e;cases e] at hc;cases hc
    ·exact ⟨l,by rw [if_neg h0];exact hc⟩
  unfold Im at q;cases eb:b (ρ.set i (some (x,om))) with
  | no=>rw [eb] at q;exact q
  | exc c=>rw [eb] at q;exact q.elim
  | bk ρ2=>rw [eb] at q;exact q.elim
  | ct ρ2=>rw [eb] at q;exact q.elim
  | rt y d ρ2=>
   rw [eb] at q;dsimp only at q;split at q
   ·rename_i hy;intro v σ2 H2 fps2 fp k2 r2 oy hf2;obtain ⟨rfl,oy'⟩:=Own.atom (Z':=λ a=>Zr M (λ l=>if l=i then [] else fps2 l) a\/a∈([]:List Addr)) hy (Own.weak (λ a h=>h) oy);refine q v σ2 H2 (λ l=>if l=i then [] else fps2 l) [] ⟨λ c o h n=>k2.keep c o h λ ⟨l,hx⟩=>n (inF l c hx),k2.dom,λ l c hc=>?_⟩ (Rep.out (P':=[]) (F':=λ c=>c∈fr\/c∈fps2 i) hal r2 (λ _ z=>nomatch z) (λ _=>Iff.rfl) λ p hp=>r2.iov.2 p (Bb _ hp)).unlend oy' λ _ z=>nomatch z
    split at hc
    ·cases hc
    ·exact (k2.sub l c hc).imp (λ ⟨j,hj⟩=>inF j c hj) id
   ·exact q.elim
  | nx ρ2=>
   rw [eb] at q;intro σ2 H2 fps2 k2 r2;dsimp only at q;cases e3:ρ2[i]? with
   | none=>rw [e3] at q;exact q.elim
   | some s3=>
    rw [e3] at q;cases s3 with
    | none=>exact q.elim
    | some p3=>
     obtain ⟨y,d3⟩:=p3;cases e4:ρ2[i0]? with
     | none=>rw [e4] at q;exact q.elim
     | some s4=>
      rw [e4] at q;cases s4 with
      | some _=>exact q.elim
      | none=>
       dsimp only at q;split at q
       ·rename_i hd3;subst hd3;obtain ⟨v3,hv3,oy⟩:=r2.own i y om e3;have p1:=r2.iov.2 (i,w) (Bq _ (by simp));rw [hv3] at p1;cases p1;have p2:σ2[i0]?=some (some (.ref a)):=r2.iov.2 (i0,.ref a) (Bq _ (by simp));have p3:∀ p∈M.pn,σ2[p.1]?=some (some p.2):=λ p hp=>r2.iov.2 p (Bb _ hp);have zfr:∀ l c,c∈fps2 l->c∉fr:=λ l c hc z=>r2.zo l c hc (.inr z);obtain ⟨f2,hf2,o2⟩:=nx (λ c=>∃ l,c∈(if l=i then fi else fps l)) H2 y (fps2 i) k2.keep (λ c ⟨l,hc⟩=>rb.lsts hc) (λ c hc ⟨l,z⟩=>rb.zo l c z (.inr hc)) (Own.full _ _ _ oy) (λ c hc=>zfr i c hc);have r3:=Rep.out (j:=i) (P':=[(i0,.ref a)]) (F':=λ c=>c∈f2) hal r2 (λ p hp=>by rw [jc0.mp hp];exact p2) (λ c=>(hf2 c).trans Or.comm) p3;have es:(done++x::r).set done.length y=(done++[y])++r:=by
         rw [Y8 _ _ (AW _),Mx];simp
        rw [es] at o2;have e5:(QQ.kill [i] 0 ρ2)[i]?=some none:=by rw [DZ,e3,DS];simp
        have e6:(QQ.kill [i] 0 ρ2)[i0]?=some none:=by rw [DZ,e4,DS];simp
        refine ⟨QQ.kill [i] 0 ρ2,_,done++[y],r,f2,rfl,by simp,r3,e5,e6,o2,λ c hc=>?_,λ c hc=>?_,RsOk.from ⟨λ c o h n=>k2.keep c o h λ ⟨l,hx⟩=>n (inF l c hx),k2.dom,λ l c hc=>?_⟩ q⟩
        ·rcases (hf2 c).mp hc with z | z
         ·exact r2.fr i hm c z
         ·exact hfr c ((hF c).mpr (.inr z))
        ·rcases (hf2 c).mp hc with z | z
         ·exact λ zz=>r2.zo i c z (.inl zz)
         ·exact hz c ((hF c).mpr (.inr z))
        ·split at hc
         ·rcases (hf2 c).mp hc with z | z
          ·exact (k2.sub i c z).imp (λ ⟨j,hj⟩=>inF j c hj) id
          ·exact .inl ⟨i0,by rw [if_pos rfl];exact (hF c).mpr (.inr z)⟩
         ·split at hc
          ·cases hc
          ·exact (k2.sub l c hc).imp (λ ⟨j,hj⟩=>inF j c hj) id
       ·exact q.elim
def Rep.toLend (r:Rep M ρ σ H fps):Rep (M.lend (λ _=>False) []) ρ σ H fps where
 own:=λ i x d e=>let ⟨v,h1,h2⟩:=r.own i x d e;⟨v,h1,h2.weak λ a h=>h.elim (λ h=>h.elim .inl E5) .inr⟩
 non:=r.non
 dj:=r.dj
 zo:=λ i a ha z=>z.elim (r.zo i a ha) id
 fr:=r.fr
 zd:=λ a z=>z.elim (r.zd a) E5
 len:=r.len
 msf:=r.msf
 h0:=r.h0
 iov:=r.iov
def TQ {t:Bool}{i0 i:Nat}{b:Fs}{D:Ends}{xs:List PV} (hal:∀ j,M.al j=[]) (hm0:M.Ms i0=false) (hm:M.Ms i=false) (hne:i≠i0) (hfi:M.Fre i) (hio:M.Fre i0) (rep:Rep M ρ σ H fps) (e0:ρ[i0]?=some (some (KA t xs,om))) (hil:i < ρ.length)
  (q:RsOk M D H fps (Im t i0 i b [] xs (QQ.kill [i0] 0 (QQ.kill [i] 0 ρ)))):∃ (a:Addr) (ws:List V),σ[i0]?=some (some (.ref a))/\H a=some (M7 t ws) /\
  ∃ W:Nat->Nat->St->Hp->Prop,(∃ m,W 0 m σ H)/\∀ n m σ H,W n m σ H->((HU t M.K a).stop n H/\D.nx σ H)\/((HU t M.K a).go n H/\∃ N:St->Hp->Prop,(∀ σ' H',N σ' H'->∃ m',m' < m/\W (n + 1) m' σ' H') /\
   ∀ x H',(HU t M.K a).yld n H x H'->DK i x σ H' λ σ2 H2=>(λ (D:Ends) σ H=>∃ (G:Addr->Prop) (P:List (Nat×V)),(∀ p∈P,p.1=i\/p.1=i0)/\tS (M.lend G P) b D σ H) { D with nx:=N,ct:=N,bk:=D.nx } σ2 H2):=by
 obtain ⟨v,hv,o⟩:=rep.own i0 _ _ e0;obtain ⟨a,ws,rfl,ha,_,_⟩:=o.seq;have rk:=(rep.look (is:=[i]) (v:=[]) hal).kill;have h0c:[i].contains i0=false:=by simp [hne.symm]
 have r1:=Rep.out (j:=i0) (P':=[(i0,.ref a)]) (F':=λ c=>c∈fps i0) hal rk.toLend (λ p hp=>by rw [jc0.mp hp];exact hv) (λ c=>by
  show c∈fps i0↔False\/c∈(if [i].contains i0=true then [] else fps i0);rw [h0c];exact ⟨.inr,λ z=>z.elim E5 id⟩) rk.iov.2
 have e1:(QQ.kill [i0] 0 (QQ.kill [i] 0 ρ))[i]?=some none:=by
  rw [DZ,DZ,BC hil,DS];simp
 have e2:(QQ.kill [i0] 0 (QQ.kill [i] 0 ρ))[i0]?=some none:=by
  rw [DZ,DZ,e0,DS];simp
 refine ⟨a,ws,hv,ha,?_⟩;refine jQ hal hm0 hm hne hfi hio xs [] (fps i0) r1 e1 e2 (Own.full _ _ _ o) (λ c hc=>rep.fr i0 hm0 c hc) (λ c hc=>rep.zo i0 c hc) (RsOk.from ⟨λ _ _ h _=>h,λ _ h=>h,λ l c hc=>?_⟩ q);split at hc
 ·exact .inl ⟨i0,hc⟩
 ·split at hc
  ·cases hc
  ·exact .inl ⟨l,hc⟩
theorem zY {i0 i:Nat}{b:Fs}{D:Ends} (hal:∀ j,M.al j=[]) (hm0:M.Ms i0=false) (hm:M.Ms i=false) (hne:i≠i0) (hfi:M.Fre i) (hio:M.Fre i0) (hq:tS M (J2 i0 i b) D σ H):
  Eo (D5 M.K (Bl i0)) (DK i) (λ D σ H=>∃ (G:Addr->Prop) (P:List (Nat×V)),(∀ p∈P,p.1=i\/p.1=i0)/\tS (M.lend G P) b D σ H) D σ H:=by
 obtain ⟨ρ,fps,rep,q⟩:=hq;unfold J2 at q;cases e0:ρ[i0]? with
 | none=>rw [e0] at q;exact q.elim
 | some s0=>
  rw [e0] at q;cases s0 with
  | none=>exact q.elim
  | some p0=>
   obtain ⟨x0,d0⟩:=p0;cases x0 with
   | lst xs=>
    dsimp only at q;split at q
    ·rename_i hc;obtain ⟨rfl,hil⟩:=hc;obtain ⟨a,ws,hv,ha,z⟩:=TQ (t:=false) hal hm0 hm hne hfi hio rep e0 hil q;exact ⟨_,hv,.inl ⟨a,rfl,.inl ⟨⟨ws,.inl (.inl ha)⟩,z⟩⟩⟩
    ·exact q.elim
   | tup xs=>
    dsimp only at q;split at q
    ·rename_i hc;obtain ⟨rfl,hil⟩:=hc;obtain ⟨a,ws,hv,ha,z⟩:=TQ (t:=true) hal hm0 hm hne hfi hio rep e0 hil q;exact ⟨_,hv,.inl ⟨a,rfl,.inr ⟨⟨ws,.inl (.inl ha)⟩,z⟩⟩⟩
    ·exact q.elim
   | _=>exact q.elim
end
section
variable {X:Cx}{M:Fm}{ρ:Ag}{σ:St}{H:Hp}{fps:AR}
end
section
variable {M:Fm}{ρ ρ':Ag}{σ σ':St}{H H':Hp}{fps fps':AR}{F F':Addr->Prop}{P P':List (Nat×V)}
def Rep.less (r:Rep (M.lend F P) ρ σ H fps) (h:∀ a,F' a->F a):Rep (M.lend F' P) ρ σ H fps where
 own:=λ i x d e=>let ⟨v,h1,h2⟩:=r.own i x d e;⟨v,h1,h2.weak λ a z=>z.elim (λ z=>.inl (z.elim .inl λ z=>.inr (h a z))) .inr⟩
 non:=r.non
 dj:=r.dj
 zo:=λ i a ha z=>r.zo i a ha (z.elim .inl λ z=>.inr (h a z))
 fr:=r.fr
 zd:=λ a z=>r.zd a (z.elim .inl λ z=>.inr (h a z))
 len:=r.len
 msf:=r.msf
 h0:=r.h0
 iov:=r.iov
def Rep.alter (r:Rep (M.lend F P) ρ σ H fps) (k:Cs F H H') (dm:∀ a,H a≠none->H' a≠none) (hF:∀ a,F a->∃ o:MO,H a=some o.ho):Rep (M.lend F P) ρ σ H' fps where
 own:=λ i x d e=>let ⟨v,h1,h2⟩:=r.own i x d e;⟨v,h1,Own.move k (λ a h=>⟨.inl (.inr h),hF a h⟩) (λ _ _ n=>n) x d v _ (λ a ha z=>r.zo i a ha (.inr z)) h2⟩
 non:=r.non
 dj:=r.dj
 zo:=r.zo
 fr:=r.fr
 zd:=λ a z=>dm a (r.zd a z)
 len:=r.len
 msf:=r.msf
 h0:=λ a z=>dm a (r.h0 a z)
 iov:=r.iov
def sv (σ:St) (j:Nat):V:=match σ[j]? with
 | some (some v)=>v
 | _=>.non
def UZ {j:Nat}{v:V} (h:σ[j]?=some (some v)):sv σ j=v:=by unfold sv;rw [h]
def Mp:List Nat->TA->TA
 | [],t=>t
 | j::js,t=>GC (Bl j) (Mp js t)
theorem X0 {t:TA}:∀ {is:List Nat}{Q:List V->Hp->Prop},(∀ j∈is,∃ v,σ[j]?=some (some v))->t σ H (λ ws H'=>Q (is.map (sv σ)++ws) H')->Mp is t σ H Q
 | [],_,_,h=>h
 | j::js,Q,hv,h=>by
  obtain ⟨v,e⟩:=hv j A9;refine ⟨v,e,X0 (Q:=λ ws H2=>Q (v::ws) H2) (λ k hk=>hv k (A8 _ hk)) ?_⟩;rw [Bf,UZ e] at h;exact h
def Oj:List Nat->Ag->Option (List PV×Ag)
 | [],ρ=>some ([],ρ)
 | j::js,ρ=>match ρ[j]? with
  | some (some (x,d))=>if d=om then (Oj js (kill [j] 0 ρ)).map λ p=>(x::p.1,p.2) else none
  | _=>none
theorem X1 (hal:∀ i,M.al i=[]) (pn:∀ p∈M.pn,σ[p.1]?=some (some p.2)):∀ {is:List Nat}{ρ ρ2:Ag}{xs:List PV}{fps:AR}{F:Addr->Prop},(∀ j∈is,M.Ms j=false)->Oj is ρ=some (xs,ρ2)->Rep (M.lend F []) ρ σ H fps ->
  ∃ (f:List Addr) (fps2:AR),OwnL M.K H (λ _=>True) xs om (is.map (sv σ)) f/\Rep (M.lend (λ a=>F a\/a∈f) []) ρ2 σ H fps2/\(∀ l a,a∈fps2 l->a∈fps l)/\∀ a∈f,(∃ j,a∈fps j)/\M.H₀ a=none/\¬ M.Zo a/\¬ F a
 | [],ρ,ρ2,xs,fps,F,_,e,r=>by
  cases e;exact ⟨[],fps,by rw [Dq,OwnL];exact ⟨rfl,rfl⟩,r.less λ a h=>h.elim id λ z=>(nomatch z),λ _ _ h=>h,λ _ z=>nomatch z⟩
 | j::js,ρ,ρ2,xs,fps,F,hm,e,r=>by
  unfold Oj at e;split at e
  ·rename_i x d ej;split at e
   ·rename_i hd;subst hd;obtain ⟨⟨ys,ρ3⟩,et,e2⟩:=jc2.mp e;cases e2;obtain ⟨v,hv,o⟩:=r.own j x om ej;have r1:=Rep.out (j:=j) (P':=[]) (F':=λ a=>F a\/a∈fps j) hal r (λ _ z=>nomatch z) (λ _=>Iff.rfl) pn;obtain ⟨f,fps2,ol,r2,sub,hf⟩:=X1 hal pn (λ k hk=>hm k (A8 _ hk)) et r1;have sub':∀ l a,a∈fps2 l->a∈fps l:=λ l a h=>by
     have:=sub l a h
     split at this
     ·cases this
     ·exact this
    refine ⟨fps j++f,fps2,?_,r2.less λ a h=>?_,sub',λ a ha=>?_⟩
    ·rw [Bf,UZ hv,OwnL];exact ⟨v,_,fps j,f,rfl,rfl,λ a ha hb=>(hf a hb).2.2.2 (.inr ha),Own.full _ _ _ o,ol⟩
    ·rcases h with h | h
     ·exact .inl (.inl h)
     ·rcases jb2.mp h with h | h
      ·exact .inl (.inr h)
      ·exact .inr h
    ·rcases jb2.mp ha with ha | ha
     ·exact ⟨⟨j,ha⟩,r.fr j (hm j A9) a ha,λ z=>r.zo j a ha (.inl z),λ z=>r.zo j a ha (.inr z)⟩
     ·obtain ⟨⟨k,hk⟩,h1,h2,h3⟩:=hf a ha;split at hk
      ·cases hk
      ·exact ⟨⟨k,hk⟩,h1,h2,λ z=>h3 (.inl z)⟩
   ·cases e
  ·cases e
def Ez (i:Nat) (body:Fs):List PV->Ag->Rs
 | [],ρ=>.nx ρ
 | x::r,ρ=>match body (ρ.set i (some (x,om))) with
  | .nx ρ'=>if i < ρ'.length then Ez i body r (kill [i] 0 ρ') else .no
  | _=>.no
theorem jR {i:Nat}{b:Fs}{D:Ends}{p:Addr}{ws:List V}{H0:Hp}{fps0:AR} (hal:∀ j,M.al j=[]) (hm:M.Ms i=false) (hfi:M.Fre i) (xs:List PV) (n:Nat) (F:List Addr) (rep:Rep (M.lend (λ c=>c=p\/c∈F) []) ρ σ H fps) (e1:ρ[i]?=some none) (hp:H p=some (.lst ws)) (hn:n + xs.length=ws.length)
  (o:OwnL M.K H (λ _=>True) xs om (ws.drop n) F) (hF:∀ c∈F,M.H₀ c=none/\¬ M.Zo c/\c≠p/\((∃ j,c∈fps0 j)\/H0 c=none)) (ks:KS M H0 fps0 H fps) (q:RsOk M D H0 fps0 (Ez i b xs ρ)):
  ∃ W:Nat->Nat->St->Hp->Prop,(∃ m,W n m σ H)/\∀ n m σ H,W n m σ H->((Lc M.K p).stop n H/\D.nx σ H)\/((Lc M.K p).go n H/\∃ N:St->Hp->Prop,(∀ σ' H',N σ' H'->∃ m',m' < m/\W (n + 1) m' σ' H') /\
   ∀ x H',(Lc M.K p).yld n H x H'->DK i x σ H' λ σ2 H2=>(λ (D:Ends) σ H=>∃ G:Addr->Prop,tS (M.lend G []) b D σ H) { D with nx:=N,ct:=N,bk:=D.nx } σ2 H2):=by
 let W:Nat->Nat->St->Hp->Prop:=λ n m σ H=>∃ (ρ:Ag) (fps:AR) (xs:List PV) (F:List Addr),m=xs.length/\Rep (M.lend (λ c=>c=p\/c∈F) []) ρ σ H fps/\ρ[i]?=some none/\H p=some (.lst ws)/\n + xs.length=ws.length/\OwnL M.K H (λ _=>True) xs om (ws.drop n) F/\(∀ c∈F,M.H₀ c=none/\¬ M.Zo c/\c≠p/\((∃ j,c∈fps0 j)\/H0 c=none))/\KS M H0 fps0 H fps/\RsOk M D H0 fps0 (Ez i b xs ρ);refine ⟨W,⟨_,ρ,fps,xs,F,rfl,rep,e1,hp,hn,o,hF,ks,q⟩,?_⟩;clear rep e1 hp hn o hF ks q;rintro n m σ H ⟨ρ,fps,xs,F,rfl,rep,e1,hp,hn,o,hF,ks,q⟩;have pnM:∀ p∈M.pn,σ[p.1]?=some (some p.2):=λ p hp=>rep.iov.2 p (Bb _ hp);cases xs with
 | nil=>
  left
  exact ⟨⟨ws,.inl (.inl hp),by rw [M0] at hn;omega⟩,q σ H fps ks rep.unlend⟩
 | cons x r=>
  right
  rw [Ba] at hn;rw [OwnL] at o;obtain ⟨w,us,f1,f2,ed,rfl,dj,ox,ol⟩:=o;have ew:ws[n]?=some w:=by
   have:=congrArg (λ l=>l[0]?) ed
   simpa using this
  have er:ws.drop (n + 1)=us:=by
   have:=congrArg List.tail ed
   simpa using this
  refine ⟨⟨ws,w,.inl (.inl hp),ew⟩,W (n + 1) r.length,λ σ' H' z=>⟨_,by rw [Ba];exact II _,z⟩,λ y H' yy=>?_⟩;obtain ⟨eH,ey⟩:=yy;have ey:=ey ws (.inl (.inl hp));rw [ew] at ey;cases ey;subst eH;show ∃ G:Addr->Prop,tS (M.lend G []) b { D with nx:=W (n + 1) r.length,ct:=W (n + 1) r.length,bk:=D.nx } (σ.set i (some w)) H';have il:i < σ.length:=by rw [<- rep.len];exact (jb1.mp e1).1
  have pnM':∀ p∈M.pn,(σ.set i (some w))[p.1]?=some (some p.2):=λ p hp=>by rw [Cw (hfi.2 p hp).symm];exact pnM p hp
  have r0:=rep.sigma (j:=i) (v:=w) (λ p e=>by rw [e1] at e;cases e) ⟨hfi.1,λ p hp=>hfi.2 p hp⟩;have rb:=Rep.inn (F':=λ c=>c=p\/c∈f2) (P':=[]) hal r0 e1 (D4 il) (Own.full _ _ _ ox) (λ c=>⟨λ h=>by
   rcases h with h | h
   ·exact .inr (.inl h)
   ·exact (jb2.mp h).elim .inl λ h=>.inr (.inr h),λ h=>by
   rcases h with h | h | h
   ·exact .inr (Bq _ h)
   ·exact .inl h
   ·exact .inr (Bb _ h)⟩) (λ c hc z=>z.elim (hF c (Bq _ hc)).2.2.1 (dj c hc)) (λ c hc=>(hF c (Bq _ hc)).2.1) (λ _ c hc=>(hF c (Bq _ hc)).1) (λ _ z=>nomatch z) pnM'
  refine ⟨λ c=>c=p\/c∈f2,ρ.set i (some (x,om)),_,rb,?_⟩;have kb:KS M H0 fps0 H' (λ l=>if l=i then f1 else fps l):=⟨ks.keep,ks.dom,λ l c hc=>by
   split at hc
   ·exact (hF c (Bq _ hc)).2.2.2
   ·exact ks.sub l c hc⟩
  unfold Ez at q;cases eb:b (ρ.set i (some (x,om))) with
  | no=>rw [eb] at q;exact q
  | exc c=>rw [eb] at q;exact q.elim
  | bk ρ2=>rw [eb] at q;exact q.elim
  | ct ρ2=>rw [eb] at q;exact q.elim
  | rt y d ρ2=>rw [eb] at q;exact q.elim
  | nx ρ2=>
   rw [eb] at q;intro σ2 H2 fps2 k2 r2;dsimp only at q;split at q
   ·rename_i hl;have p3:∀ p∈M.pn,σ2[p.1]?=some (some p.2):=λ p hp=>r2.iov.2 p (Bb _ hp);have r3:=(Rep.out (j:=i) (P':=[]) (F':=λ c=>(c=p\/c∈f2)\/c∈fps2 i) hal r2 (λ _ z=>nomatch z) (λ _=>Iff.rfl) p3).less (F':=λ c=>c=p\/c∈f2) λ _ h=>.inl h;refine ⟨kill [i] 0 ρ2,_,r,f2,rfl,r3,?_,k2.keep p _ hp λ ⟨l,z⟩=>rb.zo l p z (.inr (.inl rfl)),by omega,?_,λ c hc=>hF c (Bb _ hc),(kb.trans ⟨k2.keep,k2.dom,k2.sub⟩).trans ⟨λ _ _ h _=>h,λ _ h=>h,λ l c hc=>?_⟩,q⟩
    ·rw [DZ,BC hl,DS];simp
    ·rw [er];exact OwnL.move (Z:=λ _=>True) k2.keep (λ c ⟨l,hc⟩=>⟨trivial,rb.lsts hc⟩) (λ _ _ h _=>h trivial) r om us f2 (λ c hc ⟨l,z⟩=>rb.zo l c z (.inr (.inr hc))) ol
    ·split at hc
     ·cases hc
     ·exact .inl ⟨l,hc⟩
   ·exact q.elim
def GA (is:List Nat) (f:Fx) (i:Nat) (b:Fs):Fs:=λ ρ=>match f ρ with
 | .ok (y,d,ρ1)=>if d=om/\(is.all λ j=>(ρ[j]?.join).isSome)=true then (match Oj is ρ1 with
  | some (xs,ρ2)=>if i < ρ2.length/\is.length < 1000 then Ez i b (xs++[y]) (kill [i] 0 ρ2) else .no
  | none=>.no) else .no
 | _=>.no
def zX {is:List Nat}{f:Fx}{i:Nat}{b:Fs}{D:Ends}{vs:List Nat} (hal:∀ j,M.al j=[]) (hms:∀ j∈is,M.Ms j=false) (hm:M.Ms i=false) (hfi:M.Fre i) (hq:tS M (GA is f i b) D σ H):
  Eo (D5 M.K (Ju (Mp is (GC (tE M f vs) D0)))) (DK i) (λ D σ H=>∃ G:Addr->Prop,tS (M.lend G []) b D σ H) D σ H:=by
 obtain ⟨ρ,fps,rep,q⟩:=hq;unfold GA at q;split at q
 ·rename_i y d ρ1 ef;split at q
  ·rename_i hc;obtain ⟨rfl,hj⟩:=hc;split at q
   ·rename_i xs ρ2 et;split at q
    ·rename_i hl;refine X0 (λ j hjm=>?_) ⟨ρ,fps,rep,?_⟩
     ·have:=jc1.mp hj j hjm
      cases e:ρ[j]? with
      | none=>rw [e] at this;cases this
      | some s=>
       cases s with
       | none=>rw [e] at this;cases this
       | some z=>
        obtain ⟨v,hv,_⟩:=rep.own j z.1 z.2 e;exact ⟨v,hv⟩
     ·rw [ef];intro v H1 fps1 fp k1 g1 rep1 oy t1;show (is.map (sv σ)++[v]).length<=A2/\_;have hz:1000000<=A2:=by decide
      refine ⟨(by rw [BL,Ax,IQ];omega),λ p hp=>.inl ⟨p,rfl,.inl ⟨⟨_,.inl (.inl BJ)⟩,?_⟩⟩⟩;have grow:∀ a o,H1 a=some o->(As H1 p (.lst (is.map (sv σ)++[v]))) a=some o:=λ a o h=>by rw [AM (λ e=>by rw [e,hp] at h;cases h)];exact h
      have kg:KD M H fps (As H1 p (.lst (is.map (sv σ)++[v]))) fps1:=k1.trans (KD.grow grow);have hfp:∀ a∈fp,H1 a≠none:=λ a ha=>by
       obtain ⟨o,e⟩:=Own.lsts _ _ _ _ oy a ha;rw [e];simp
      have back:∀ a,H1 a=none->H a=none:=λ a e=>k1.ks.back e;have rw':Rep (M.plus (p::fp)) ρ1 σ (As H1 p (.lst (is.map (sv σ)++[v]))) fps1:=Rep.wide (λ i j z=>by rw [hal i] at z;cases z) rep kg g1 (rep1.grow grow) λ a ha=>by
       rcases ja9.mp ha with rfl | ha
       ·exact ⟨back _ hp,by rw [BJ];simp,rep1.nz hp⟩
       ·exact ⟨t1.new a ha,by
         cases e:H1 a with
         | none=>exact absurd e (hfp a ha)
         | some o=>rw [grow a o e];simp,t1.ndj a ha⟩
      have rl:Rep (M.lend (λ c=>c=p\/c∈fp) []) ρ1 σ (As H1 p (.lst (is.map (sv σ)++[v]))) fps1:=Rep.less (F:=λ c=>c∈p::fp) rw' λ a h=>by
       rcases h with h | h
       ·rw [h];exact A9
       ·exact A8 _ h
      have pn1:∀ p∈M.pn,σ[p.1]?=some (some p.2):=rep.iov.2;obtain ⟨f2,fps2,ol,r2,sub,hf2⟩:=X1 hal pn1 hms et rl;have r3:=(Rep.out (j:=i) (P':=[]) (F':=λ c=>((c=p\/c∈fp)\/c∈f2)\/c∈fps2 i) hal r2 (λ _ z=>nomatch z) (λ _=>Iff.rfl) pn1).less (F':=λ c=>c=p\/c∈f2++fp) λ c h=>by
       rcases h with h | h
       ·exact .inl (.inl (.inl h))
       ·rcases jb2.mp h with h | h
        ·exact .inl (.inr h)
        ·exact .inl (.inl (.inr h))
      have oy2:Own M.K (As H1 p (.lst (is.map (sv σ)++[v]))) (λ _=>True) y om v fp:=Own.full _ _ _ (Own.move (S:=λ _=>False) (λ a o h _=>grow a o h) (λ _ z=>z.elim) (λ _ _ n=>n) _ _ _ _ (λ _ _ z=>z) oy);have ol2:=ol.snoc oy2 λ a ha hb=>(hf2 a ha).2.2.2 (.inr hb);have hll:xs.length=is.length:=by have:=ol.length;rw [Ax] at this;exact this.symm
      refine jR (ws:=is.map (sv σ)++[v]) (H0:=H) (fps0:=fps) hal hm hfi (xs++[y]) 0 (f2++fp) r3 ?_ BJ ?_ (by rw [SK];exact ol2) (λ c hc=>?_) (kg.ks.trans ⟨λ _ _ h _=>h,λ _ h=>h,λ l c hc=>?_⟩) q
      ·rw [DZ,BC hl.1,DS];simp
      ·rw [BL,BL,Ax,hll];simp
      ·rcases jb2.mp hc with hc | hc
       ·obtain ⟨⟨j,h1⟩,h2,h3,h4⟩:=hf2 c hc;exact ⟨h2,h3,λ e=>h4 (.inl e),(kg.sub j c h1).imp (λ z=>⟨j,z⟩) id⟩
       ·refine ⟨rep.h0' (t1.new c hc),λ z=>t1.ndj c hc (.inl z),λ e=>hfp c hc (by rw [e];exact hp),.inr (t1.new c hc)⟩
      ·split at hc
       ·cases hc
       ·exact .inl ⟨l,sub l c hc⟩
    ·exact q.elim
   ·exact q.elim
  ·exact q.elim
 ·exact q.elim
def jO {i:Nat}{s:Slot}:(kill [i] 0 ρ).set i s=ρ.set i s:=by
 refine Yv λ k=>?_;by_cases h:k=i
 ·subst h;by_cases hl:k < ρ.length
  ·rw [D4 (by rw [Lj];exact hl),D4 hl]
  ·rw [IP (by rw [DT,Lj];omega),IP (by rw [DT];omega)]
 ·rw [Cw (BY h),Cw (BY h),DZ,DS]
  have:[i].contains k=false:=by simp [h]
  rw [this];cases ρ[k]? <;> rfl
def Mn (i j:Nat):Fs:=λ ρ=>match ρ[i]?,ρ[j]? with
 | some (some (.lst xs,d)),some (some (y,e))=>if d=om/\e=om/\i≠j/\xs.length < A2 then .nx ((kill [j] 0 ρ).set i (some (.lst (xs++[y]),om))) else .no
 | _,_=>.no
def zV {i j:Nat}{D:Ends} (hal:∀ i,M.al i=[]) (hm:M.Ms i=false) (hmj:M.Ms j=false) (hq:tS M (Mn i j) D σ H):J7 (NM M.K "list" N1 (Bl i) (GC (Bl j) D0)) D σ H:=by
 obtain ⟨ρ,fps,rep,q⟩:=hq;unfold Mn at q;split at q
 ·rename_i xs d y e ei ej;split at q
  ·rename_i hc;obtain ⟨rfl,rfl,ne,hl⟩:=hc;obtain ⟨v0,hσ,oi⟩:=rep.own i _ _ ei;obtain ⟨v,hσj,oj⟩:=rep.own j _ _ ej;obtain ⟨a,ws,f,rfl,ha,hf,na,ol⟩:=oi.list (by decide:om≠0);rw [C5] at ol;refine ⟨_,hσ,LI (.inl (.inl ha)),v,hσj,a,ws,v,rfl,rfl,ha,by rw [ol.length];exact hl,?_⟩;have r1:=Rep.out (j:=j) (P':=[]) (F':=λ c=>c∈fps j) hal rep.toLend (λ _ z=>nomatch z) (λ c=>⟨.inr,λ h=>h.elim E5 id⟩) rep.iov.2;have r2:=Rep.out (j:=i) (P':=[]) (F':=λ c=>c∈fps j\/c∈fps i) hal r1 (λ _ z=>nomatch z) (λ c=>by rw [if_neg ne]) rep.iov.2;have mo:∀ c,(c∈fps j\/c∈fps i)->∃ o:MO,H c=some o.ho:=λ c h=>h.elim (λ h=>rep.lsts h) λ h=>rep.lsts h;have hai:a∈fps i:=by rw [hf];exact A9
   have hfi:∀ c∈f,c∈fps i:=λ c hc=>by rw [hf];exact A8 _ hc
   have dm:∀ b,H b≠none->(As H a (.lst (ws++[v]))) b≠none:=λ b h=>by
    by_cases eb:b=a
    ·rw [eb,BJ];simp
    ·rw [AM eb];exact h
   have r3:=r2.alter (H':=As H a (.lst (ws++[v]))) (λ c o h n=>by rw [AM (λ e=>n (.inr (by rw [e];exact hai)))];exact h) dm mo;have aj:a∉fps j:=λ z=>rep.dj i j ne a hai z;have o2:OwnL M.K (As H a (.lst (ws++[v]))) (λ _=>True) (xs++[y]) om (ws++[v]) (f++fps j):=
    ((ol.full' (Z':=λ _=>True)).at (Z':=λ _=>True) trivial ⟨.l ws,ha⟩ na λ _ _ n=>absurd trivial n).snoc ((Own.full (Z':=λ _=>True) _ _ _ oj).at trivial ⟨.l ws,ha⟩ aj λ _ _ n=>absurd trivial n) λ c hc z=>rep.dj i j ne c (hfi c hc) z
   have e0:(kill [i] 0 (kill [j] 0 ρ))[i]?=some none:=by
    rw [DZ,DZ,ei,DS];simp
   have r4:=Rep.inn (j:=i) (x:=.lst (xs++[y])) (v:=.ref a) (fi:=a::(f++fps j)) (F':=λ _=>False) (P':=[]) hal r3 e0 hσ (by
    rw [Own];exact ⟨a,_,rfl,.inr ⟨by decide,f++fps j,BJ,rfl,λ z=>(jb2.mp z).elim na aj,by rw [C5];exact o2⟩⟩) (λ c=>by
    rw [ja9,jb2,hf,ja9];constructor
    ·rintro (h | h | h)
     ·exact .inl (.inr (.inr h))
     ·exact .inl (.inl h)
     ·exact .inl (.inr (.inl h))
    ·rintro ((h | h | h) | h)
     ·exact .inr (.inl h)
     ·exact .inr (.inr h)
     ·exact .inl h
     ·exact h.elim) (λ _ _ z=>z) (λ c hc=>by
    rcases ja9.mp hc with rfl | hc
    ·exact rep.zo i _ hai
    ·exact (jb2.mp hc).elim (λ z=>rep.zo i c (hfi c z)) (rep.zo j c)) (λ _ c hc=>by
    rcases ja9.mp hc with rfl | hc
    ·exact rep.fr i hm _ hai
    ·exact (jb2.mp hc).elim (λ z=>rep.fr i hm c (hfi c z)) (rep.fr j hmj c)) (λ _ z=>nomatch z) rep.iov.2
   rw [jO] at r4;refine q σ _ _ ⟨λ c o h n=>by rw [AM (λ e=>n ⟨i,by rw [e];exact hai⟩)];exact h,dm,λ l c hc=>.inl ?_⟩ r4.unlend;split at hc
   ·rcases ja9.mp hc with rfl | hc
    ·exact ⟨i,hai⟩
    ·exact (jb2.mp hc).elim (λ z=>⟨i,hfi c z⟩) λ z=>⟨j,z⟩
   ·split at hc
    ·cases hc
    ·exact ⟨l,hc⟩
  ·exact q.elim
 ·exact q.elim
theorem OwnL.parts {K:Frag}{Z:Addr->Prop}{d:Nat}:∀ {xs:List PV}{ws:List V}{f:List Addr},OwnL K H Z xs d ws f->∃ fs:Nat->List Addr,(∀ i,i < xs.length->Own K H Z (xs.getD i .non) d (ws.getD i .non) (fs i))/\(∀ i j,i≠j->∀ a∈fs i,a∉fs j)/\∀ i,∀ a∈fs i,a∈f
 | [],ws,f,o=>⟨λ _=>[],λ i h=>(nomatch h),λ _ _ _ _ z=>(nomatch z),λ _ _ z=>nomatch z⟩
 | x::xs,ws,f,o=>by
  rw [OwnL] at o;obtain ⟨v,us,f1,f2,rfl,rfl,dj,ox,ol⟩:=o;obtain ⟨fs,h1,h2,h3⟩:=OwnL.parts ol;refine ⟨λ i=>Nat.casesOn i f1 fs,λ i hi=>?_,λ i j ne a ha hb=>?_,λ i a ha=>?_⟩
  ·cases i with
   | zero=>exact ox
   | succ i=>exact h1 i (GR hi)
  ·cases i with
   | zero=>cases j with
    | zero=>exact ne rfl
    | succ j=>exact dj a ha (h3 j a hb)
   | succ i=>cases j with
    | zero=>exact dj a hb (h3 i a ha)
    | succ j=>exact h2 i j (λ e=>ne (by rw [e])) a ha hb
  ·cases i with
   | zero=>exact Bq _ ha
   | succ i=>exact Bb _ (h3 i a ha)
theorem OwnL.picks {K:Frag}{Z:Addr->Prop}{d:Nat}{xs:List PV}{ws:List V}{fs:Nat->List Addr} (h1:∀ i,i < xs.length->Own K H Z (xs.getD i .non) d (ws.getD i .non) (fs i)) (h2:∀ i j,i≠j->∀ a∈fs i,a∉fs j):∀ {p:List Nat},p.Nodup->(∀ i∈p,i < xs.length)->OwnL K H Z (p.map λ i=>xs.getD i .non) d (p.map λ i=>ws.getD i .non) (p.flatMap fs)
 | [],_,_=>by rw [Dq,Dq,OwnL];exact ⟨rfl,rfl⟩
 | i::p,hn,hp=>by
  rw [Bf,Bf,OwnL];rw [jh2] at hn;refine ⟨_,_,fs i,p.flatMap fs,rfl,rfl,λ a ha hb=>?_,h1 i (hp i A9),OwnL.picks h1 h2 hn.2 λ j hj=>hp j (A8 _ hj)⟩;obtain ⟨j,hj,hb⟩:=jl3.mp hb;exact h2 i j (λ e=>hn.1 (by rw [e];exact hj)) a ha hb
def qE {Ds:List Br} (h:Ds.length=1\/Fi Ds=true):(AY Ds).Nodup:=by
 rcases h with h | h
 ·unfold AY;rw [if_pos h];simp
 ·unfold Fi at h;rw [A7,A7,A7,A7,A7] at h;obtain ⟨⟨⟨⟨⟨h1,_⟩,_⟩,h4⟩,h5⟩,_⟩:=h;have h1:=of_decide_eq_true h1;have lr:(Dv Ds).length=Ds.length:=Ax _;have ok:=MW (r:=Dv Ds) (by omega) (by omega) (of_decide_eq_true h4) (λ x hx=>by rw [lr];exact of_decide_eq_true (jc1.mp h5 x hx));rw [lr] at ok;unfold GB at ok;rw [A7,A7] at ok;unfold AY;rw [if_neg (by omega)];have e:=eq_of_beq ok.1.2;have nd:=List.nodup_range (n:=Ds.length);rw [<- e] at nd;exact (jq4.mp nd).imp λ h z=>h (by rw [z])
def ZJ (K:Frag):List V->Hp->VK->Prop:=λ xs H Q=>∃ q ws ys d Z f Ds,xs=[.ref q]/\BG K H q ws/\Own K H Z (.lst ys) d (.ref q) f/\A3 (Be 20) ys=some Ds/\(Ds.length=1\/Fi Ds=true)/\∀ l,H l=none->Q (.ref l) (As H l (.lst ((AY Ds).map λ i=>ws.getD i .non)))
def Ip (i:Nat):Fs:=λ ρ=>match ρ[i]? with
 | some (some (.lst ys,d))=>(match A3 (Be 20) ys with
  | some Ds=>if d=om/\(Ds.length=1\/Fi Ds=true) then .rt (.lst ((AY Ds).map λ k=>ys.getD k .non)) om (kill [i] 0 ρ) else .no
  | none=>.no)
 | _=>.no
def jb {i:Nat}{D:Ends} (hal:∀ i,M.al i=[]) (hm:M.Ms i=false) (hq:tS M (Ip i) D σ H):Hr (NL (ZJ M.K) (GC (Bl i) D0)) D σ H:=by
 obtain ⟨ρ,fps,rep,q⟩:=hq;unfold Ip at q;split at q
 ·rename_i ys d ei;split at q
  ·rename_i Ds hD;split at q
   ·rename_i hc;obtain ⟨rfl,hg⟩:=hc;obtain ⟨v0,hσ,oi⟩:=rep.own i _ _ ei;obtain ⟨a,ws,f,rfl,ha,hf,na,ol⟩:=oi.list (by decide:om≠0);rw [C5] at ol;refine ⟨_,hσ,a,ws,ys,om,_,_,Ds,rfl,.inl (.inl ha),oi,hD,hg,λ l hl=>?_⟩;obtain ⟨fs,p1,p2,p3⟩:=ol.parts;have oo:=O9 hg;have hfi:∀ c∈f,c∈fps i:=λ c hc=>by rw [hf];exact A8 _ hc
    have pk:=(OwnL.picks p1 p2 (qE hg) λ k hk=>by have:=oo.1 k hk;rw [Px hD] at this;exact this).full' (Z':=λ _=>True);have sf:∀ c∈(AY Ds).flatMap fs,c∈fps i:=λ c hc=>by
     obtain ⟨k,_,hk⟩:=jl3.mp hc;exact hfi c (p3 k c hk)
    have grow:∀ b o,H b=some o->(As H l (.lst ((AY Ds).map λ i=>ws.getD i .non))) b=some o:=λ b o h=>by rw [AM (λ e=>by rw [e,hl] at h;cases h)];exact h
    have lf:l∉(AY Ds).flatMap fs:=λ z=>by
     obtain ⟨o,e⟩:=rep.lsts (sf l z);rw [hl] at e;cases e
    have rk:=((rep.grow grow).look (is:=[i]) (v:=[]) hal).kill;refine q (.ref l) σ _ _ (l::(AY Ds).flatMap fs) ⟨λ c o h _=>grow c o h,λ c h=>?_,λ k c hc=>.inl ⟨k,?_⟩⟩ rk ?_ λ c hc=>?_
    ·cases e:H c with
     | none=>exact absurd e h
     | some o=>rw [grow c o e];simp
    ·split at hc
     ·cases hc
     ·exact hc
    ·rw [Own];refine ⟨l,_,rfl,.inr ⟨by decide,_,BJ,rfl,lf,?_⟩⟩;rw [C5];exact (OwnL.move (S:=λ _=>False) (λ b o h _=>grow b o h) (λ _ z=>z.elim) (λ _ _ n=>n) _ _ _ _ (λ _ _ z=>z) pk).full'
    ·have z0:∀ c,c∈fps i->¬ Zr M (λ j=>if [i].contains j then [] else fps j) c:=λ c hc z=>by
      rcases z with z | ⟨_,z⟩
      ·exact rep.zo i c hc z
      ·dsimp only at z;split at z
       ·cases z
       ·rename_i h0;exact rep.dj i 0 (λ e=>h0 (by rw [<- e];simp)) c hc z
     rcases ja9.mp hc with rfl | hc
     ·refine ⟨rep.h0' hl,λ z=>?_⟩;rcases z with z | ⟨_,z⟩
      ·exact rep.nz hl (.inl z)
      ·dsimp only at z;split at z
       ·cases z
       ·exact rep.nz hl (.inr ⟨0,z⟩)
     ·exact ⟨rep.fr i hm c (sf c hc),z0 c (sf c hc)⟩
   ·exact q.elim
  ·exact q.elim
 ·exact q.elim
end
section
variable {M:Fm}{ρ:Ag}{σ:St}{H:Hp}{fps:AR}{D:Ends}
theorem OwnL.itemN {K:Frag}{Z:Addr->Prop}:∀ {xs:List PV}{ws:List V}{f:List Addr}{p:Nat}{x:PV},OwnL K H Z xs om ws f->xs[p]?=some x->∃ w fx,ws[p]?=some w/\Own K H Z x om w fx/\(∀ b∈fx,b∈f) /\
  ∀ (H':Hp) (x':PV) (fx':List Addr),Cs (λ a=>a∈fx) H H'->Own K H' (λ _=>True) x' om w fx'->(∀ b∈fx',b∈fx)->∃ f',(∀ b∈f',b∈f)/\OwnL K H' (λ _=>True) (xs.set p x') om ws f'
 | [],ws,f,p,x,h,e=>by simp at e
 | y::xs,ws,f,0,x,h,e=>by
  cases e;rw [OwnL] at h;obtain ⟨v,s,f1,f2,rfl,rfl,dj,h1,h2⟩:=h;refine ⟨v,f1,rfl,h1,λ b hb=>Bq _ hb,λ H' x' fx' k o sub=>?_⟩;refine ⟨fx'++f2,λ b hb=>(jb2.mp hb).elim (λ z=>Bq _ (sub b z)) λ z=>Bb _ z,?_⟩;rw [IM,OwnL];refine ⟨v,s,fx',f2,rfl,rfl,λ a ha=>dj a (sub a ha),o,?_⟩;exact OwnL.move (S:=λ a=>a∈f1) (Z:=λ _=>True) k (λ a ha=>⟨trivial,Own.lsts _ _ _ _ h1 a ha⟩) (λ _ _ n=>n) xs om s f2 (λ a ha hb=>dj a hb ha) h2.full'
 | y::xs,ws,f,p + 1,x,h,e=>by
  rw [JK] at e;rw [OwnL] at h;obtain ⟨v,s,f1,f2,rfl,rfl,dj,h1,h2⟩:=h;obtain ⟨w,fx,ew,ow,sub,nx⟩:=OwnL.itemN h2 e;refine ⟨w,fx,by rw [JK];exact ew,ow,λ b hb=>Bb _ (sub b hb),λ H' x' fx' k o sub'=>?_⟩;obtain ⟨f',sf,ol⟩:=nx H' x' fx' k o sub';refine ⟨f1++f',λ b hb=>(jb2.mp hb).elim (λ z=>Bq _ z) λ z=>Bb _ (sf b z),?_⟩;rw [IL,OwnL];refine ⟨v,s,f1,f',rfl,rfl,λ a ha hb=>dj a ha (sf a hb),?_,ol⟩;exact Own.move (S:=λ a=>a∈fx) (Z:=λ _=>True) k (λ a ha=>⟨trivial,Own.lsts _ _ _ _ ow a ha⟩) (λ _ _ n=>n) y om v f1 (λ a ha hb=>dj a ha (sub a hb)) (Own.full _ _ _ h1)
def kJ {K:Frag}{Z:Addr->Prop}{xs rows cells:List PV}{t n:Nat}{T:Addr}{fp:List Addr}{v:Int} (o:Own K H Z (.tup xs) om (.ref T) fp) (h1:xs[t]?=some (.lst rows)) (h2:rows[n]?=some (.lst cells)):
  ∃ vs a us b cs,H T=some (.tup vs)/\vs[t]?=some (.ref a)/\H a=some (.lst us)/\us[n]?=some (.ref b)/\H b=some (.lst cs)/\cs.length=cells.length/\us.length=rows.length/\b∈fp/\a∈fp/\T≠b /\
   ∃ f',(∀ c∈f',c∈fp)/\Own K (As H b (.lst (cs++[.int v]))) (λ _=>True) (.tup (xs.set t (.lst (rows.set n (.lst (cells++[.int v])))))) om (.ref T) f':=by
 rw [Own] at o;obtain ⟨T',vs,eT,hT,ol⟩:=o;cases eT;rw [C5] at ol;obtain ⟨w,fx,ew,ow,sx,nx⟩:=ol.itemN h1;obtain ⟨a,us,fc,rfl,ha,rfl,nac,oc⟩:=ow.list (by decide:om≠0);rw [C5] at oc;obtain ⟨w2,fy,ew2,ow2,sy,ny⟩:=oc.itemN h2;obtain ⟨b,cs,fd,rfl,hb,rfl,nbd,od⟩:=ow2.list (by decide:om≠0);rw [C5] at od;have hTb:T≠b:=λ z=>by rw [z,hb] at hT;cases hT
 have hbc:b∈fc:=sy b A9;have hab:a≠b:=λ z=>nac (by rw [z];exact hbc);refine ⟨vs,a,us,b,cs,hT,ew,ha,ew2,hb,od.length,oc.length,sx b (A8 _ hbc),sx a A9,hTb,?_⟩;have kb:∀ c o,H c=some o->c≠b->(As H b (.lst (cs++[.int v]))) c=some o:=λ c o h n=>by rw [AM n];exact h
 have od':OwnL K (As H b (.lst (cs++[.int v]))) (λ _=>True) (cells++[.int v]) om (cs++[.int v]) fd:=by
  have u1:OwnL K (As H b (.lst (cs++[.int v]))) (λ _=>True) cells om cs fd:=(od.full' (Z':=λ _=>True)).at trivial ⟨.l cs,hb⟩ nbd λ _ _ z=>absurd trivial z
  have:=u1.snoc (y:=.int v) (w:=.int v) (fy:=[]) (by rw [Own];exact ⟨rfl,rfl⟩) λ _ _ z=>nomatch z
  rw [JF] at this;exact this
 have ob:Own K (As H b (.lst (cs++[.int v]))) (λ _=>True) (.lst (cells++[.int v])) om (.ref b) (b::fd):=by
  rw [Own];exact ⟨b,_,rfl,.inr ⟨by decide,fd,BJ,rfl,nbd,by rw [C5];exact od'⟩⟩
 obtain ⟨f1,s1,o1⟩:=ny _ _ _ (λ c o h n=>kb c o h λ z=>n (by rw [z];exact A9)) ob λ _ z=>z;have oa:Own K (As H b (.lst (cs++[.int v]))) (λ _=>True) (.lst (rows.set n (.lst (cells++[.int v])))) om (.ref a) (a::f1):=by
  rw [Own];exact ⟨a,us,rfl,.inr ⟨by decide,f1,kb a _ ha hab,rfl,λ z=>nac (s1 a z),by rw [C5];exact o1⟩⟩
 obtain ⟨f2,s2,o2⟩:=nx _ _ _ (λ c o h n=>kb c o h λ z=>n (by rw [z];exact A8 _ hbc)) oa λ c hc=>(ja9.mp hc).elim (λ z=>by rw [z];exact A9) λ z=>A8 _ (s1 c z);refine ⟨f2,s2,?_⟩;rw [Own];exact ⟨T,vs,rfl,kb T _ hT hTb,by rw [C5];exact o2⟩
def Gb:PV->Option (List PV)
 | .lst xs=>some xs
 | _=>none
def LS:PV->Option (List PV)
 | .tup xs=>some xs
 | _=>none
def DV:Slot->Option Int
 | some (.int i,_)=>some i
 | _=>none
def Sm {x:PV}{xs:List PV} (h:Gb x=some xs):x=.lst xs:=by
 cases x <;> first | cases h;rfl | cases h
def jt {x:PV}{xs:List PV} (h:LS x=some xs):x=.tup xs:=by
 cases x <;> first | cases h;rfl | cases h
theorem ze {s:Slot}{i:Int} (h:DV s=some i):∃ d,s=some (.int i,d):=by
 cases s with
 | none=>cases h
 | some p=>
  obtain ⟨x,d⟩:=p;cases x <;> first | cases h;exact ⟨d,rfl⟩ | cases h
def Ln (its:List PV) (t n:Nat):Option (List PV×List PV×List PV):=(its[t]?.bind LS).bind λ xs=>(xs[1]?.bind Gb).bind λ rows=>(rows[n]?.bind Gb).map λ cells=>(xs,rows,cells)
def vY {its xs rows cells:List PV}{t n:Nat} (h:Ln its t n=some (xs,rows,cells)):its[t]?=some (.tup xs)/\xs[1]?=some (.lst rows)/\rows[n]?=some (.lst cells):=by
 unfold Ln at h;obtain ⟨xs',h1,h⟩:=jc3.mp h;obtain ⟨rows',h2,h⟩:=jc3.mp h;obtain ⟨cells',h3,h⟩:=jc2.mp h;cases h;obtain ⟨x1,g1,k1⟩:=jc3.mp h1;obtain ⟨x2,g2,k2⟩:=jc3.mp h2;obtain ⟨x3,g3,k3⟩:=jc3.mp h3;rw [g1,g2,g3,jt k1,Sm k2,Sm k3];exact ⟨rfl,rfl,rfl⟩
def FQ (i p1 p2 p3:Nat):Fs:=λ ρ=>match ρ[i]? with
 | some (some (.lst its,d))=>(match ρ[p1]?.bind DV,ρ[p2]?.bind DV,ρ[p3]?.bind DV with
  | some t,some n,some v=>(match Ln its t.toNat n.toNat with
   | some (xs,rows,cells)=>if d=om/\0<=t/\0<=n/\cells.length < A2 then .nx (ρ.set i (some (.lst (its.set t.toNat (.tup (xs.set 1 (.lst (rows.set n.toNat (.lst (cells++[.int v]))))))),om))) else .no
   | none=>.no)
  | _,_,_=>.no)
 | _=>.no
def Pr {p:Nat}{k:Int} (rep:Rep M ρ σ H fps) (h:ρ[p]?.bind DV=some k):σ[p]?=some (some (.int k)):=by
 obtain ⟨s,e,h⟩:=jc3.mp h;obtain ⟨d,rfl⟩:=ze h;obtain ⟨v,hv,o⟩:=rep.own p _ _ e;rw [Own] at o;rw [hv,o.1]
def O2 {α:Type}{ws:List α}{k:Int}{w:α} (h0:0<=k) (h:ws[k.toNat]?=some w):Ci ws k=some w:=by
 have hl:k < ws.length:=by
  have:=(jb1.mp h).1
  omega
 unfold Ci CL;rw [if_pos h0,if_pos hl];exact h
def zU {i p1 p2 p3:Nat} (hal:∀ i,M.al i=[]) (hq:tS M (FQ i p1 p2 p3) D σ H):J7 (NM M.K "list" N1 (En (Hs M.K) (En (Hs M.K) (En (Hs M.K) (Bl i) (Bl p1)) (tC (.int 1))) (Bl p2)) (GC (Bl p3) D0)) D σ H:=by
 obtain ⟨ρ,fps,rep,q⟩:=hq;unfold FQ at q;split at q
 ·rename_i its d ei;split at q
  ·rename_i t n v e1 e2 e3;split at q
   ·rename_i xs rows cells ec;split at q
    ·rename_i hc;obtain ⟨rfl,ht,hn,hl⟩:=hc;obtain ⟨c1,c2,c3⟩:=vY ec;obtain ⟨v0,hσ,oi⟩:=rep.own i _ _ ei;obtain ⟨a0,ws,f,rfl,ha,hf,na,ol⟩:=oi.list (by decide:om≠0);rw [C5] at ol;obtain ⟨w,fx,ew,ow,sx,nx⟩:=ol.itemN c1;obtain ⟨T,rfl⟩:∃ T,w=.ref T:=by
      rw [Own] at ow;obtain ⟨T,_,e,_⟩:=ow;exact ⟨T,e⟩
     obtain ⟨vs,a,us,b,cs,hT,g2,g3,g4,g5,g6,g7,g8,ga,g9,f',sf,of⟩:=kJ (v:=v) ow c2 c3;refine ⟨_,hσ,_,Pr rep e1,.inl ⟨a0,ws,t,_,rfl,rfl,.inl (.inl ha),O2 ht ew,.inr (.inl ⟨T,vs,1,_,rfl,rfl,.inl (.inl hT),O2 (by decide) g2,_,Pr rep e2,.inl ⟨a,us,n,_,rfl,rfl,.inl (.inl g3),O2 hn g4,LI (.inl (.inl g5)),_,Pr rep e3,b,cs,_,rfl,rfl,g5,by rw [g6];exact hl,?_⟩⟩)⟩⟩;have hbi:b∈fps i:=by rw [hf];exact A8 _ (sx b g8)
     have nab:a0≠b:=λ e=>na (by rw [e];exact sx b g8);obtain ⟨f2,s2,o2⟩:=nx _ _ f' (λ c o h n=>by rw [AM (λ z=>n (by rw [z];exact g8))];exact h) of sf;have dm:∀ c,H c≠none->(As H b (.lst (cs++[.int v]))) c≠none:=λ c h=>by
      by_cases e:c=b
      ·rw [e,BJ];simp
      ·rw [AM e];exact h
     have hs:∀ c∈a0::f2,c∈fps i:=λ c hc=>by
      rw [hf];exact (ja9.mp hc).elim (λ z=>by rw [z];exact A9) λ z=>A8 _ (s2 c z)
     have kp:Cs (λ c=>c∈fps i) H (As H b (.lst (cs++[.int v]))):=λ c o h n=>by rw [AM (λ z=>n (by rw [z];exact hbi))];exact h
     refine q σ _ _ ⟨λ c o h n=>kp c o h λ z=>n ⟨i,z⟩,dm,λ l c hc=>.inl ?_⟩ (rep.change hal ei hσ kp dm hs (λ _=>rfl) ?_)
     ·by_cases el:l=i
      ·simp only [if_pos el] at hc;exact ⟨i,hs c hc⟩
      ·simp only [if_neg el] at hc;exact ⟨l,hc⟩
     ·rw [Own];exact ⟨a0,ws,rfl,.inr ⟨by decide,f2,by rw [AM nab];exact ha,rfl,λ z=>na (s2 a0 z),by rw [C5];exact o2.full'⟩⟩
    ·exact q.elim
   ·exact q.elim
  ·exact q.elim
 ·exact q.elim
def ER (i:Nat):Fs:=λ ρ=>match ρ[i]? with
 | some (some (.lst _,d))=>if d=om then .nx (ρ.set i (some (.lst [],om))) else .no
 | _=>.no
def Wv {K:Frag}{Z:Addr->Prop}{a:Addr}:Own K (As H a (.lst [])) Z (.lst []) om (.ref a) [a]:=by
 rw [Own];exact ⟨a,[],rfl,.inr ⟨by decide,[],BJ,rfl,λ z=>(nomatch z),by rw [OwnL];exact ⟨rfl,rfl⟩⟩⟩
def xl {i:Nat} (hal:∀ i,M.al i=[]) (hq:tS M (ER i) D σ H):J7 (Jv M.K "list" RK (Bl i)) D σ H:=by
 obtain ⟨ρ,fps,rep,q⟩:=hq;unfold ER at q;split at q
 ·rename_i xs d ei;split at q
  ·rename_i hd;subst hd;obtain ⟨v0,hσ,oi⟩:=rep.own i _ _ ei;obtain ⟨a,ws,f,rfl,ha,hf,na,ol⟩:=oi.list (by decide:om≠0);have hai:a∈fps i:=by rw [hf];exact A9
   refine ⟨_,hσ,LI (.inl (.inl ha)),a,ws,rfl,rfl,ha,?_⟩;have dm:∀ c,H c≠none->(As H a (.lst [])) c≠none:=λ c h=>by
    by_cases e:c=a
    ·rw [e,BJ];simp
    ·rw [AM e];exact h
   have kp:Cs (λ c=>c∈fps i) H (As H a (.lst [])):=λ c o h n=>by rw [AM (λ z=>n (by rw [z];exact hai))];exact h
   have hs:∀ c∈[a],c∈fps i:=λ c hc=>by rw [jc0.mp hc];exact hai
   refine q σ _ _ ⟨λ c o h n=>kp c o h λ z=>n ⟨i,z⟩,dm,λ l c hc=>.inl ?_⟩ (rep.change hal ei hσ kp dm hs (λ _=>rfl) Wv);by_cases el:l=i
   ·simp only [if_pos el] at hc;exact ⟨i,hs c hc⟩
   ·simp only [if_neg el] at hc;exact ⟨l,hc⟩
  ·exact q.elim
 ·exact q.elim
def Hh (i:Nat):Fs:=λ ρ=>match ρ[i]? with
 | some (some (.tup xs,d))=>(match xs[1]?.bind Gb with
  | some _=>if d=om then .nx (ρ.set i (some (.tup (xs.set 1 (.lst [])),om))) else .no
  | none=>.no)
 | _=>.no
def WL {i:Nat} (hal:∀ i,M.al i=[]) (hq:tS M (Hh i) D σ H):J7 (Jv M.K "list" RK (En (Hs M.K) (Bl i) (tC (.int 1)))) D σ H:=by
 obtain ⟨ρ,fps,rep,q⟩:=hq;unfold Hh at q;split at q
 ·rename_i xs d ei;split at q
  ·rename_i rows er;split at q
   ·rename_i hd;subst hd;obtain ⟨x1,g1,k1⟩:=jc3.mp er;rw [Sm k1] at g1;obtain ⟨v0,hσ,oi⟩:=rep.own i _ _ ei;rw [Own] at oi;obtain ⟨T,vs,rfl,hT,ol⟩:=oi;rw [C5] at ol;obtain ⟨w,fx,ew,ow,sx,nx⟩:=ol.itemN g1;obtain ⟨a,ws,f,rfl,ha,hf,na,_⟩:=ow.list (by decide:om≠0);have hax:a∈fx:=by rw [hf];exact A9
    have hai:a∈fps i:=sx a hax;have hTa:T≠a:=λ z=>by rw [z,ha] at hT;cases hT
    refine ⟨_,hσ,.inr (.inl ⟨T,vs,1,_,rfl,rfl,.inl (.inl hT),O2 (by decide) ew,LI (.inl (.inl ha)),a,ws,rfl,rfl,ha,?_⟩)⟩;have dm:∀ c,H c≠none->(As H a (.lst [])) c≠none:=λ c h=>by
     by_cases e:c=a
     ·rw [e,BJ];simp
     ·rw [AM e];exact h
    have kp:Cs (λ c=>c∈fps i) H (As H a (.lst [])):=λ c o h n=>by rw [AM (λ z=>n (by rw [z];exact hai))];exact h
    obtain ⟨f2,s2,o2⟩:=nx _ _ [a] (λ c o h n=>by rw [AM (λ z=>n (by rw [z];exact hax))];exact h) Wv λ c hc=>by rw [jc0.mp hc];exact hax
    refine q σ _ _ ⟨λ c o h n=>kp c o h λ z=>n ⟨i,z⟩,dm,λ l c hc=>.inl ?_⟩ (rep.change hal ei hσ kp dm s2 (λ _=>rfl) ?_)
    ·by_cases el:l=i
     ·simp only [if_pos el] at hc;exact ⟨i,s2 c hc⟩
     ·simp only [if_neg el] at hc;exact ⟨l,hc⟩
    ·rw [Own];exact ⟨T,vs,rfl,by rw [AM hTa];exact hT,by rw [C5];exact o2.full'⟩
   ·exact q.elim
  ·exact q.elim
 ·exact q.elim
end
def RH:Expr->Bool
 | .ListComp _ _ _ _=>true
 | .SetComp _ _ _ _=>true
 | .DictComp _ _ _ _ _=>true
 | _=>false
def Z7:Expr->Bool
 | .Tuple _ _ _=>true
 | .List _ _=>true
 | _=>false
def Bt (d:Stmt->Option Fs):List Stmt->Option Fs
 | []=>some Aq
 | [s]=>d s
 | s::r=>match d s,Bt d r with
  | some f,some g=>some (Af f g)
  | _,_=>none
def Eu (S:Sx) (x:Str):Bool:=DH S.sc x .local || DH S.sc x .cell
def Io (S:Sx) (i:Nat):Bool:=(decide (i≠0) || !S.msF 0) && !S.pn.contains i
def Vf (iw:Iw) (asg:PV->Ag->Option Ag) (body:Fs):Fs:=match iw with
 | .rng en fa _=>CD en fa asg body
 | .seq f vs=>K7 f vs asg body
 | .vw v fa vs=>Rx v fa vs asg body
def LG (S:Sx):List Expr->Option (List Nat)
 | []=>some []
 | .Name x _::r=>match S.slot x,LG S r with
  | some i,some is=>if Eu S x=true/\Io S i=true/\S.msF i=false then some (i::is) else none
  | _,_=>none
 | _=>none
def Gn (S:Sx):Expr->Option D2
 | .Dict [] [] _=>some (MF,[])
 | e=>BR 60 S e
def UB (S:Sx) (x at':Str) (apos:Pos) (e:Expr) (cpos:Pos):Option Fs:=if at' = "append" then (match S.slot x,BR 60 S e with
   | some i,some (f,vs)=>if S.msF i=false/\(apos.endLine == cpos.line)=true then some (BE i f vs) else none
   | _,_=>none) else none
def ZS (_:Sx) (_:Expr) (_:Str) (_:Pos) (_:Expr) (_:Pos):Option Fs:=none
def MB (S:Sx):Expr->Option Fs
 | .Call fn es [] p1=>(match fn with
  | .Attribute o at' apos=>(match D3 o,es with
   | some x,[e]=>UB S x at' apos e p1
   | none,[e]=>ZS S o at' apos e p1
   | _,_=>none)
  | .Name x p=>(match BR 60 S (.Call (.Name x p) es [] p1) with
   | some (f,_)=>some (E3 f)
   | none=>none)
  | _=>none)
 | _=>none
section
variable {X:Cx}{M:Fm}{a b:Expr}{es:List Expr}{fa:Fa}{f g:Fx}{vs vs':List Nat}{pos:Pos}
end
def HI (S:Sx) (e:Expr):Option D2:=BR 60 S e
def Vs (S:Sx) (t k e:Expr):Option Fs:=match t with
 | .Name x _=>(match KZ k with
  | some k=>(match S.slot x,BR 60 S e with
    | some i,some (f,vs)=>some (Jx i k f)
    | _,_=>none)
  | none=>(match S.slot x,BR 60 S k,HI S e with
    | some i,some (fk,_),some (f,_)=>if S.msF i=false/\LD k=true then some (ED i fk f) else none
    | _,_,_=>none))
 | .Subscript b i _=>(match D3 b with
  | some x=>(match S.slot x,BR 60 S i,BR 60 S k,HI S e with
    | some s,some (fi,_),some (fj,_),some (f,_)=>if S.msF s=false/\LD i=true/\LD k=true then some (J4 s fi fj f) else none
    | _,_,_,_=>none)
  | none=>none)
 | _=>none
def Vo (S:Sx) (t e:Expr):Option Fs:=match t with
 | .Tuple es k p=>(match LG S es,BR 60 S e with
   | some is,some (f,vs)=>if RH e=false/\Z7 e=false then some (Cn (AZ is) f vs) else none
   | _,_=>none)
 | .Name x _=>(match S.slot x,Gn S e with
   | some i,some (f,vs)=>if Eu S x=true/\Io S i=true then some (Ai (S.msF i) i f vs) else none
   | _,_=>none)
 | .Subscript t k _=>Vs S t k e
 | _=>none
def Sj (d:Stmt->Option Fs) (S:Sx) (body:List Stmt):Option Fs:=Bt d body
def Vq (d:Stmt->Option Fs) (S:Sx) (t it:Expr) (body:List Stmt):Option Fs:=match t with
 | .Name x p=>(match S.slot x,EZ (BR 60 S) S it,Sj d S body with
    | some i,some iw,some b=>if Eu S x=true/\Io S i=true/\S.msF i=false/\FW (.Name x p) iw=true then some (Vf iw (Aj i) b) else none
    | _,_,_=>none)
 | .Tuple es k p=>(match LG S es,EZ (BR 60 S) S it,Sj d S body with
   | some is,some iw,some b=>some (Vf iw (AZ is) b)
   | _,_,_=>none)
 | _=>none
def Vt (S:Sx) (e:Expr):Option Fs:=match D3 e with
 | some x=>(match S.slot x with
   | some i=>if S.msF i=true then none else some (FR i)
   | none=>none)
 | none=>(match BR 60 S e with
   | some (f,vs)=>some (Ap f)
   | none=>none)
def qb (_:Sx) (_:Expr) (_:Operator) (_:Expr):Option Fs:=none
def Sx.bare (S:Sx):Sx:={ S with ms:=[] }
def JR (S:Sx) (c:Expr):Option D2:=(BR 60 S c).or (BR 60 S.bare c)
def Li (d:Stmt->Option Fs) (S:Sx):Stmt->Option Fs
 | .Raise _ _ _=>some IA
 | .Expr v _=>MB S v
 | .Assign [t] e _=>Vo S t e
 | .If c a b _=>match JR S c,Bt d a,Bt d b with
  | some (f,_),some s,some t=>some (AG (bT f) s t)
  | _,_,_=>none
 | .For t it body [] _=>Vq d S t it body
 | .AugAssign t op e _=>qb S t op e
 | .Return (some e) _=>Vt S e
 | _=>none
section
variable {X:Cx}{P:AD}{w:AB}{K:Frag}{mg:Str->Option Ae}{base:Heap}{lvl:Nat}{S:Sx}{Wx:St->Nat->Hp->Prop}{M:Fm}{f g:Fx}{vs vs':List Nat}{σ:St}{H:Hp}{Q:VK}
structure SM (X:Cx) (M:Fm) (K:Frag) (S:Sx) (Wx:St->Nat->Hp->Prop):Prop where
 ms:MS M K S Wx
 al:∀ i,M.al i=[]
 io:M.io≠none->S.msF 0=true
 pn:∀ p∈M.pn,p.1∈S.pn
 fn:∀ x,X.fn x=true
 nd:S.N.Nodup
 st:X.stack=X.env::X.outer
 fr:X.env.frame=some X.env.locals
def EJ (P:AD) (w:AB) (K:Frag) (mg:Str->Option Ae) (base:Heap) (lvl:Nat) (S:Sx) (st:Stmt) (f:Fs):Prop:=∀ {Wx} X M,XS X P w K mg base lvl S Wx->SM X M K S Wx->PS X st (tS M f)
theorem Ke {d:Stmt->Option Fs} (hd:∀ st f,d st=some f->EJ P w K mg base lvl S st f):∀ (sts:List Stmt) (f:Fs),Bt d sts=some f->∀ {Wx} X M,XS X P w K mg base lvl S Wx->SM X M K S Wx->Ex X sts (tS M f)
 | [],f,h=>by cases h;exact λ X M xs sm=>W3 jc λ D σ H q=>xn q
 | [s],f,h=>λ X M xs sm=>W4 (hd s f h X M xs sm)
 | s::s'::r,f,h=>by
  unfold Bt at h;split at h
  ·rename_i f1 f2 h1 h2;cases h;exact λ X M xs sm=>W3 (kd (hd s f1 h1 X M xs sm) (Ke hd (s'::r) f2 h2 X M xs sm)) λ D σ H q=>xt q
  ·cases h
def Ls {x:Str}{i:Nat} (h:S.slot x=some i):S.N[i]?=some x:=by
 unfold Sx.slot at h;split at h
 ·exact Nh h
 ·cases h
def L3 {x:Str} (h:Eu S x=true):Fd S.sc x:=by
 unfold Eu at h;rw [GQ] at h;exact h.elim (λ h=>.inl (Ic h)) λ h=>.inr (Ic h)
def Jc {i:Nat} (h:Io S i=true) (sm:SM X M K S Wx):M.Fre i:=by
 unfold Io at h;rw [A7,GQ] at h;refine ⟨λ hio=>?_,λ p hp e=>?_⟩
 ·rcases h.1 with h | h
  ·simpa using h
  ·rw [sm.io hio] at h;cases h
 ·have z:=sm.pn p hp;rw [e] at z;have h2:=h.2;rw [List.contains_iff_mem.mpr z] at h2;cases h2
theorem zO {e:Expr}{t:Option Expr}{l:Nat}{env:Env} (h:RH e=false):swapsWith e t l env=pure false:=by
 cases e with
 | ListComp _ _ _ _=>cases h
 | SetComp _ _ _ _=>cases h
 | DictComp _ _ _ _ _=>cases h
 | _=>rfl
theorem ki (GX:GX K mg S.xc) (G:GS P w K mg base lvl S.Γ) (Gm:GV P w K mg base lvl S.Γm) (hS:∀ i,∀ j∈S.alF i,S.msF j=false) {n:Nat}{elt:Expr}{gs:List Comprehension}{scope:Bz}{pos:Pos} (h:BR (n + 1) S (.ListComp elt gs scope pos)=some (f,vs)):
  ∃ tg ys asg it ifs iw t g vE,gs=[⟨tg,it,ifs,0⟩]/\CompParts P w K mg base lvl S scope tg ys asg it elt ifs iw t g vE/\f=Ml iw ys.length asg t g/\vs=iw.vs++vE.filter (λ i=>decide (i < S.N.length)):=by
 have hd:∀ e f vs,BR n S e=some (f,vs)->AV P w K mg base lvl S e f vs:=λ e f vs h=>Kk GX G Gm n S e f vs rfl rfl rfl hS h;replace h:He (BR n) S (.ListComp elt gs scope pos)=some (f,vs):=h
 match gs,h with
 | [],h=>simp [He,EY] at h
 | _::_::_,h=>simp [He,EY] at h
 | [⟨tg,it,ifs,a⟩],h=>
  by_cases ha:a=0
  ·subst ha;replace h:(match NK S.N.length tg,EZ (BR n S) S it with
    | some (xs,asg),some iw=>if Nu S scope xs iw.vs=true/\FW tg iw=true then (match Ow (BR n (Bm S scope xs iw.vs)) ifs,BR n (Bm S scope xs iw.vs) elt with
     | some t,some (g,vE)=>some (Ml iw xs.length asg t g,iw.vs++vE.filter (λ i=>decide (i < S.N.length)))
     | _,_=>none) else none
    | _,_=>none)=some (f,vs):=h
   split at h
   ·rename_i ys asg iw ht hi;split at h
    ·rename_i hc;split at h
     ·rename_i t g vE h1 h2;cases h;have ck:=VF hc.1;have giw:=Nv hd (Nw n S) G.1 hi;have hS2:∀ i,∀ j∈(Bm S scope ys iw.vs).alF i,(Bm S scope ys iw.vs).msF j=false:=λ i j hj=>by
       rw [PF] at hj;show S.msF j=false;split at hj
       ·exact hS i j hj
       ·split at hj
        ·exact giw.1 j hj
        ·cases hj
      have hd2:∀ e f vs,BR n (Bm S scope ys iw.vs) e=some (f,vs)->AV P w K mg base lvl (Bm S scope ys iw.vs) e f vs:=λ e f vs h=>Kk GX G Gm n _ e f vs rfl rfl rfl hS2 h;exact ⟨tg,ys,asg,it,ifs,iw,t,g,vE,rfl,⟨ht,hc.2,ck,giw,hd2 _ _ _ h2,Uc hd2 h1⟩,rfl,rfl⟩
     ·cases h
    ·cases h
   ·cases h
  ·simp [He,EY,ha] at h
def Gr (xs:XS X P w K mg base lvl S Wx):PassesOwn (Av X.prog X.w) X.A X.env X.xe:=xs.po
theorem U4 {es:List Expr}{is:List Nat} (h:LG S es=some is) (xs:XS X P w K mg base lvl S Wx) (sm:SM X M K S Wx):Lb X es (Kl is)/\(E6 es X.env).length=is.length/\(E6 es X.env).findIdx? (·.1)=none/\∀ i∈is,Bd M [] i:=by
 induction es generalizing is with
 | nil=>cases h;exact ⟨WG,rfl,rfl,λ _ z=>nomatch z⟩
 | cons e es ih=>
  unfold LG at h;split at h
  ·cases ‹_::_=[]›
  ·rename_i x px r heq;cases heq;split at h
   ·rename_i i js hi hr;split at h
    ·rename_i hc;cases h;obtain ⟨h1,h2,h3,h4⟩:=ih hr;have hN:X.N.Nodup:=by rw [xs.N];exact sm.nd
     have hi':X.N[i]?=some x:=by rw [xs.N];exact Ls hi
     have hx:Fd X.env.scope x:=by rw [xs.sc];exact L3 hc.1
     refine ⟨Xq (Ka hN hi' hx (.inl (sm.fn x))) h1 rfl,by rw [E6,Ba,h2,Ba] <;> (intros;contradiction),?_,λ j hj=>?_⟩
     ·rw [E6,Y2,h3] <;> first | rfl | (intros;contradiction)
     ·rcases ja9.mp hj with z | z
      ·rw [z];exact ⟨by rw [sm.ms.ms];exact hc.2.2,Jc hc.2.1 sm,sm.al i,sm.ms.als⟩
      ·exact h4 j z
    ·cases h
   ·cases h
  ·cases h
def Fm.bare (M:Fm):Fm:={ M with Ms:=λ _=>false,H₀:=λ _=>none,io:=none,pn:=[] }
def Rep.bare {ρ:Ag}{fps:AR} (r:Rep M ρ σ H fps):Rep M.bare ρ σ H fps where
 own:=r.own
 non:=r.non
 dj:=r.dj
 zo:=r.zo
 fr:=λ _ _ _ _=>rfl
 zd:=r.zd
 len:=r.len
 msf:=λ _ _ _ h=>nomatch h
 h0:=λ _ h=>absurd rfl h
 iov:=And.intro (λ _ h=>nomatch h) (λ _ h=>nomatch h)
theorem jo {fb:Fb}{Q:Bool->Hp->Prop} (hq:tT M fb σ H Q):tT M.bare fb σ H Q:=by
 obtain ⟨ρ,fps,rep,q⟩:=hq;refine ⟨ρ,fps,rep.bare,?_⟩;have gr:∀ H' fps',KD M.bare H fps H' fps'->∀ a o,H a=some o->H' a=some o:=λ H' fps' k a o h=>k.keep a o h λ ⟨_,z,_⟩=>nomatch z
 cases e:fb ρ with
 | ok p=>
  obtain ⟨b,ρ'⟩:=p;rw [e] at q;intro H' fps' k ag _;have e1:ρ'=ρ:=Yv λ i=>ag.1 i rfl;subst e1;exact q H' fps (KD.grow (gr H' fps' k)) Agr.refl (rep.grow (gr H' fps' k))
 | exc c=>
  rw [e] at q;intro H' fps' k;exact q H' fps (KD.grow (gr H' fps' k))
 | no=>rw [e] at q;exact q
theorem zB (GX:GX K mg S.xc) (G:GS P w K mg base lvl S.Γ) (Gm:GV P w K mg base lvl S.Γm) (hS:∀ i,∀ j∈S.alF i,S.msF j=false) {c:Expr}{f:Fx}{vs:List Nat} (h:JR S c=some (f,vs)) (xs:XS X P w K mg base lvl S Wx) (m:MS M K S Wx):PT X c (tT M (bT f)):=by
 unfold JR at h;cases e:BR 60 S c with
 | some p=>
  rw [e] at h;cases h;exact ((Kk GX G Gm 60 S c f vs rfl rfl rfl hS e).2.2 X M xs m).2
 | none=>
  rw [e] at h;have h2:BR 60 S.bare c=some (f,vs):=h;have gd:=(Kk (S:=S) GX G Gm 60 S.bare c f vs rfl rfl rfl (λ _ _ _=>rfl) h2).2.2 X M.bare ⟨xs.prog,xs.w,xs.K,xs.mg,xs.base,xs.N,xs.sc,xs.calm,xs.room,xs.po,xs.ps,xs.rs⟩ ⟨m.K,rfl,m.al,λ _ _ _=>rfl,m.W,λ _ h=>nomatch h⟩;exact L6 gd.2 λ σ H Q q=>jo q
def TM {d:Stmt->Option Fs}{body:List Stmt}{f:Fs} (hd:∀ e f vs,BR 60 S e=some (f,vs)->AV P w K mg base lvl S e f vs) (ih:∀ st f,d st=some f->EJ P w K mg base lvl S st f) (h:Sj d S body=some f):∀ {Wx} X M,XS X P w K mg base lvl S Wx->SM X M K S Wx->Ex X body (tS M f):=by
 exact Ke ih _ _ h
def z9 {e:Expr}{f:Fx}{vs:List Nat} (hd:∀ e f vs,BR 60 S e=some (f,vs)->AV P w K mg base lvl S e f vs) (h:HI S e=some (f,vs)):AV P w K mg base lvl S e f vs:=hd _ _ _ h
def w8 (GX:GX K mg S.xc) (G:GS P w K mg base lvl S.Γ) (Gm:GV P w K mg base lvl S.Γm) (hS:∀ i,∀ j∈S.alF i,S.msF j=false) {d:Stmt->Option Fs} (ih:∀ (st:Stmt) (f:Fs),d st=some f->EJ P w K mg base lvl S st f):∀ (st:Stmt) (f:Fs),Li d S st=some f->EJ P w K mg base lvl S st f:=by
 have hd:∀ e f vs,BR 60 S e=some (f,vs)->AV P w K mg base lvl S e f vs:=λ e f vs h=>Kk GX G Gm 60 S e f vs rfl rfl rfl hS h;have hdO:∀ e f vs,HI S e=some (f,vs)->AV P w K mg base lvl S e f vs:=λ e f vs h=>z9 hd h;have hdA:∀ e f vs,Gn S e=some (f,vs)->AV P w K mg base lvl S e f vs:=λ e f vs h=>by
  unfold Gn at h;split at h
  ·cases h;exact CV (λ _ z=>nomatch z) rfl (λ _ _=>rfl) λ X M xs m=>qV
  ·exact hd _ _ _ h
 intro st f h;have core:True->EJ P w K mg base lvl S st f:=λ _=>by
  unfold Li at h;split at h
  ·cases h;intro Wx X M xs sm pins s σ H D I q;exact (Xr pins s σ H D I (Ve (t:=RO) q))
  ·rename_i v pos;unfold MB at h;split at h
   ·rename_i fn es cpos;split at h
    ·rename_i o at' apos;split at h
     ·rename_i x e hx;obtain ⟨px,rfl⟩:=D9 hx;unfold UB at h;split at h
      ·rename_i hat;subst hat;split at h
       ·rename_i i f1 v1 hi he;split at h
        ·rename_i hc;cases h;have g:=hd _ _ _ he;intro Wx X M xs sm;have hb:=Ru (X:=X) (cpos:=cpos) K3 Q9 QA MU (xs.var (pos:=px) hi) (Eh (g.2.2 X M xs sm.ms).1 GG (Ea (Eb g.2.1))) rfl (Ph g.2.1 X.env cpos) hc.2 (Ea (Eb g.2.1)) rfl;refine CG (Jf hb rfl) λ D σ H q=>?_
         have:=xk (D:=D) sm.al (sm.ms.v g.1) (by rw [sm.ms.ms];exact hc.1) q
         rw [sm.ms.k xs] at this;exact this
        ·cases h
       ·cases h
      ·cases h
     ·rename_i e hx;cases h
     ·cases h
    ·rename_i x p;split at h
     ·rename_i f1 v1 he;cases h;intro Wx X M xs sm;exact CG (Jf ((hd _ _ _ he).2.2 X M xs sm.ms).1 rfl) λ D σ H q=>zW q
     ·cases h
    ·cases h
   ·cases h
  ·rename_i t e pos;unfold Vo at h;split at h
   ·rename_i es k p;split at h
    ·rename_i is f1 v1 hs he;split at h
     ·rename_i hc;cases h;have g:=hd _ _ _ he;intro Wx X M xs sm;obtain ⟨h1,h2,h3,h4⟩:=U4 hs xs sm;have mk:M.K=X.K:=sm.ms.k xs;refine CG (O4 (g.2.2 X M xs sm.ms).1 (RS xs.calm h1 h2 h3) ?_ ?_ ?_) λ D σ H q=>?_
      ·cases e <;> first | rfl | (cases hc.1)
      ·cases e <;> first | rfl | (cases hc.2)
      ·rfl
      ·have:=xu sm.al (sm.ms.v g.1) (Rr h4) q
       rw [mk] at this;exact this
     ·cases h
    ·cases h
   ·rename_i x px;split at h
    ·rename_i i f1 v1 hi he;split at h
     ·rename_i hc;cases h;have g:=hdA _ _ _ he;intro Wx X M xs sm;have hN:X.N.Nodup:=by rw [xs.N];exact sm.nd
      have hi':X.N[i]?=some x:=by rw [xs.N];exact Ls hi
      have hx:Fd X.env.scope x:=by rw [xs.sc];exact L3 hc.1
      have mi:M.Ms i=S.msF i:=by rw [sm.ms.ms]
      cases hcp:RH e with
      | false=>exact CG (VB hN hi' hx (g.2.2 X M xs sm.ms).1 (zO hcp) (.inl (sm.fn x))) λ D σ H q=>VQ sm.al (sm.ms.v g.1) mi (Jc hc.2 sm) q
      | true=>
       cases e with
       | ListComp elt gs scope cpos=>
        obtain ⟨tg,ys,asg,it,ifs,iw,t,g2,vE,rfl,cp,rfl,rfl⟩:=ki GX G Gm hS (show BR 60 S _=_ from he);obtain ⟨wi,gg,h1,h2,h3,h4,h5,h6⟩:=TK (pos:=cpos) cp xs sm.ms;refine qL (wk hN hi' hx (.inl (sm.fn x)) h2 xs.calm h1 h3 h4 h5 (JY (n:=0) (f:=g2) (vs:=[]) cp.iwo.2.1)) λ D σ H hl q=>?_;exact h6 σ H _ (by rw [hl,xs.N]) (VQ sm.al (sm.ms.v g.1) mi (Jc hc.2 sm) q)
       | SetComp _ _ _ _=>simp [Gn,BR,He] at he
       | DictComp _ _ _ _ _=>simp [Gn,BR,He] at he
       | _=>cases hcp
     ·cases h
    ·cases h
   ·rename_i t k ps;unfold Vs at h;split at h
    ·rename_i x px;split at h
     ·rename_i k hk;obtain ⟨k',pk,rfl⟩:=Oy hk;split at h
      ·rename_i i f1 v1 hi he;cases h;have g:=hd _ _ _ he;intro Wx X M xs sm;refine CG (O4 (g.2.2 X M xs sm.ms).1 (RQ (xs.var hi) Kg Qa) ?_ ?_ rfl) λ D σ H q=>xo sm.al (sm.ms.v g.1) q
       ·cases e <;> rfl
       ·cases e <;> rfl
      ·cases h
     ·rename_i hk;split at h
      ·rename_i i fk vk f1 v1 hi hk he;split at h
       ·rename_i hc;cases h;have g:=hdO _ _ _ he;intro Wx X M xs sm;refine CG (O4 (g.2.2 X M xs sm.ms).1 (RQ (xs.var hi) ((hd _ _ _ hk).2.2 X M xs sm.ms).1 (PSet.or Qa (ZM (by have:=xs.room.units;omega))) ?_) ?_ ?_ rfl) λ D σ H q=>ja sm.al (by rw [sm.ms.ms];exact hc.1) (sm.ms.v g.1) q
        ·intro v;cases k <;> first | rfl | (cases hc.2)
        ·cases e <;> rfl
        ·cases e <;> rfl
       ·cases h
      ·cases h
    ·rename_i b i pi;split at h
     ·rename_i x hx;obtain ⟨px,rfl⟩:=D9 hx;split at h
      ·rename_i s fi vi fj vj f1 v1 hs hi hj he;split at h
       ·rename_i hc;cases h;intro Wx X M xs sm;have mk:M.K=X.K:=sm.ms.k xs;refine CG (O4 ((hdO _ _ _ he).2.2 X M xs sm.ms).1 (RQ (K6 qfy (xs.var hs) ((hd _ _ _ hi).2.2 X M xs sm.ms).1 (Ja hc.2.1)) ((hd _ _ _ hj).2.2 X M xs sm.ms).1 Qa ?_) ?_ ?_ rfl) λ D σ H q=>?_
        ·intro v;cases k <;> first | rfl | (cases hc.2.2)
        ·cases e <;> rfl
        ·cases e <;> rfl
        ·have:=zZ (vs:=v1) (vi:=vi) (vj:=vj) sm.al (by rw [sm.ms.ms];exact hc.1) q
         rw [mk] at this;exact this
       ·cases h
      ·cases h
     ·cases h
    ·cases h
   ·cases h
  ·split at h
   ·rename_i f1 v1 s t hc ha hb;cases h;intro Wx X M xs sm;exact CG (ZF (zB GX G Gm hS hc xs sm.ms) (Ke ih _ _ ha X M xs sm) (Ke ih _ _ hb X M xs sm)) λ D σ H q=>ZN q
   ·cases h
  ·rename_i t it body pos;unfold Vq at h;split at h
   ·rename_i x px;split at h
    ·rename_i i iw b hi hw hb;split at h
     ·rename_i hc;cases h;intro Wx X M xs sm;have hN:X.N.Nodup:=by rw [xs.N];exact sm.nd
      have hi':X.N[i]?=some x:=by rw [xs.N];exact Ls hi
      have hx:Fd X.env.scope x:=by rw [xs.sc];exact L3 hc.1
      have giw:=Nv hd (Nw 60 S) G.1 hw;have hbd:=TM hd ih hb X M xs sm;have hg:DW M [] [i] (DK i) (Aj i):=Vz ⟨by rw [sm.ms.ms];exact hc.2.2.1,Jc hc.2.1 sm,sm.al i,sm.ms.als⟩;have hpg:PG X (.Name x px) (DK i):=Ka hN hi' hx (.inl (sm.fn x));have hpi:=giw.2.2 X M xs sm.ms (.Name x px);have hf:=JY (n:=0) (env:=X.env) (f:=Aa 0) (vs:=[]) giw.2.1;cases iw with
      | rng en fa vs=>
       rcases hpi with ⟨rfl,hpi⟩ | ⟨rfl,hpi⟩
       ·exact CG (GH (Gr xs) xs.calm hpi hpg hbd hf) λ D σ H q=>WM hg q
       ·exact CG (GH (Gr xs) xs.calm hpi hpg hbd hf) λ D σ H q=>WN hg q
      | seq f vs=>exact CG (GH (Gr xs) xs.calm hpi hpg hbd hf) λ D σ H q=>WO sm.al (sm.ms.v giw.1) hg q
      | vw v fa vs=>exact CG (GH (Gr xs) xs.calm (hpi hc.2.2.2) hpg hbd hf) λ D σ H q=>WQ sm.al (sm.ms.v giw.1) hg q
     ·cases h
    ·cases h
   ·rename_i es k p;split at h
    ·rename_i is iw b hs hw hb;cases h;intro Wx X M xs sm;have giw:=Nv hd (Nw 60 S) G.1 hw;have hbd:=TM hd ih hb X M xs sm;obtain ⟨h1,h2,h3,h4⟩:=U4 hs xs sm;have mk:M.K=X.K:=sm.ms.k xs;have hg:=Rr (M:=M) (al:=[]) h4;have hpg:=RS (pos:=p) (k:=k) xs.calm h1 h2 h3;rw [<- mk] at hpg;have hpi:=giw.2.2 X M xs sm.ms (.Tuple es k p);have hf:=JY (n:=0) (env:=X.env) (f:=Aa 0) (vs:=[]) giw.2.1;cases iw with
     | rng en fa vs=>
      rcases hpi with ⟨rfl,hpi⟩ | ⟨rfl,hpi⟩
      ·exact CG (GH (Gr xs) xs.calm hpi hpg hbd hf) λ D σ H q=>WM hg q
      ·exact CG (GH (Gr xs) xs.calm hpi hpg hbd hf) λ D σ H q=>WN hg q
     | seq f vs=>exact CG (GH (Gr xs) xs.calm hpi hpg hbd hf) λ D σ H q=>WO sm.al (sm.ms.v giw.1) hg q
     | vw v fa vs=>exact CG (GH (Gr xs) xs.calm (hpi (by cases v <;> rfl)) hpg hbd hf) λ D σ H q=>WQ sm.al (sm.ms.v giw.1) hg q
    ·cases h
   ·cases h
  ·rename_i t op e pos;cases h
  ·rename_i e pos;unfold Vt at h;split at h
   ·rename_i x hx;obtain ⟨px,rfl⟩:=D9 hx;split at h
    ·rename_i i hi;split at h
     ·cases h
     ·rename_i hm;cases h;intro Wx X M xs sm;exact CG (RJ (xs.var hi)) λ D σ H q=>jm sm.al (by rw [sm.ms.ms];simpa using hm) q
    ·cases h
   ·rename_i hx;split at h
    ·rename_i f1 v1 he;cases h;intro Wx X M xs sm;exact CG (RJ ((hd _ _ _ he).2.2 X M xs sm.ms).1) λ D σ H q=>xq (sm.ms.v (hd _ _ _ he).1) q
    ·cases h
  ·cases h
 exact λ {Wx}=>core trivial
def HF (S:Sx):List Expr->Option (List Nat×Expr)
 | []=>none
 | a::r=>match r with
  | []=>some ([],a)
  | _::_=>(match (D3 a).bind S.slot,HF S r with
   | some i,some (is,e)=>if S.msF i=false then some (i::is,e) else none
   | _,_=>none)
theorem Wh {X:Cx}{Wx:St->Nat->Hp->Prop}{e:Expr}{te:TE} (xs:XS X P w K mg base lvl S Wx) (he:PE X e te) (hs:Ij e=true):∀ {es:List Expr}{is:List Nat},HF S es=some (is,e)->(∀ i∈is,S.msF i=false)/\PA X es (Mp is (GC te D0))
 | [],is,h=>by cases h
 | a::r,is,h=>by
  unfold HF at h;split at h
  ·cases h;exact ⟨λ _ z=>(nomatch z),Eh he GG (Ea (Eb hs))⟩
  ·split at h
   ·rename_i i is' e' h1 h2;split at h
    ·rename_i hi;cases h;obtain ⟨x,hx,h1⟩:=jc3.mp h1;obtain ⟨px,rfl⟩:=D9 hx;have ih:=Wh xs he hs h2;refine ⟨λ k hk=>?_,Eh (xs.var h1) ih.2 rfl⟩;rcases ja9.mp hk with rfl | hk
     ·exact hi
     ·exact ih.1 k hk
    ·cases h
   ·cases h
def JP (rec:Stmt->Option Fs) (S:Sx) (x:Str) (es:List Expr) (body:List Stmt):Option Fs:=match S.slot x,HF S es with
 | some i,some (is,e)=>(match BR 60 S e,Bt rec body with
  | some (f,_),some b=>if Eu S x=true/\Io S i=true/\S.msF i=false then some (GA is f i b) else none
  | _,_=>none)
 | _,_=>none
def xU (GX:GX K mg S.xc) (G:GS P w K mg base lvl S.Γ) (Gm:GV P w K mg base lvl S.Γm) (hS:∀ i,∀ j∈S.alF i,S.msF j=false) {rec:Stmt->Option Fs} (ih:∀ st f,rec st=some f->EJ P w K mg base lvl S st f) {x:Str}{es:List Expr}{body:List Stmt}{f:Fs}{px pl pos:Pos} (h:JP rec S x es body=some f):EJ P w K mg base lvl S (.For (.Name x px) (.List es pl) body [] pos) f:=by
 unfold JP at h;split at h
 ·rename_i i is e hi hn;split at h
  ·rename_i f1 v1 b he hb;split at h
   ·rename_i hc;obtain ⟨c1,c2,c3⟩:=hc;cases h;intro Wx X M xs sm;have g:=Kk GX G Gm 60 S e f1 v1 rfl rfl rfl hS he;have hN:X.N.Nodup:=by rw [xs.N];exact sm.nd
    have hi':X.N[i]?=some x:=by rw [xs.N];exact Ls hi
    have hx:Fd X.env.scope x:=by rw [xs.sc];exact L3 c1
    have hpg:PG X (.Name x px) (DK i):=Ka hN hi' hx (.inl (sm.fn x));have nm:=Wh xs (g.2.2 X M xs sm.ms).1 g.2.1 hn;have hpi:PI X (.Name x px) (.List es pl) (D5 X.K (Ju (Mp is (GC (tE M f1 v1) D0)))):=RT (V8 nm.2);have hbd:Ex X body (λ D σ H=>∃ Gf:Addr->Prop,tS (M.lend Gf []) b D σ H):=λ pins s σ H D I ⟨Gf,q⟩=>
     Ke ih _ _ hb X (M.lend Gf []) xs ⟨⟨sm.ms.K,sm.ms.ms,sm.ms.al,sm.ms.als,sm.ms.W,λ p hp=>sm.ms.pn p hp⟩,sm.al,sm.io,λ p hp=>sm.pn p hp,sm.fn,sm.nd,sm.st,sm.fr⟩ pins s σ H D I q
    have hf:=JY (n:=0) (env:=X.env) (iter:=.List es pl) (f:=Aa 0) (vs:=[]) (λ _ _ _ z=>nomatch z);refine CG (GH (Gr xs) xs.calm hpi hpg hbd hf) λ D σ H q=>?_
    have:=zX (D:=D) (vs:=v1) sm.al (λ j hj=>by rw [sm.ms.ms];exact nm.1 j hj) (by rw [sm.ms.ms];exact c3) (Jc c2 sm) q
    rw [sm.ms.k xs] at this;exact this
   ·cases h
  ·cases h
 ·cases h
def Hw:Expr->Option (Expr×Str×List Expr)
 | .Call fn es ks cpos=>(match fn,ks with
  | .Attribute o at' apos,[]=>if (apos.endLine == cpos.line)=true then some (o,at',es) else none
  | _,_=>none)
 | _=>none
def Ws {e o:Expr}{at':Str}{es:List Expr} (h:Hw e=some (o,at',es)):∃ apos cpos,e=.Call (.Attribute o at' apos) es [] cpos/\(apos.endLine == cpos.line)=true:=by
 unfold Hw at h;split at h
 ·split at h
  ·split at h
   ·rename_i hl;cases h;exact ⟨_,_,rfl,hl⟩
   ·cases h
  ·cases h
 ·cases h
def EO:Expr->Option (Expr×Expr)
 | .Subscript a b _=>some (a,b)
 | _=>none
def MX {e a b:Expr} (h:EO e=some (a,b)):∃ p,e=.Subscript a b p:=by
 unfold EO at h;split at h
 ·cases h;exact ⟨_,rfl⟩
 ·cases h
def Hv (S:Sx) (e:Expr):Option Nat:=(EO e).bind λ p=>if KZ p.2=some 1 then (D3 p.1).bind S.slot else none
def Wu {X:Cx}{Wx:St->Nat->Hp->Prop} (xs:XS X P w K mg base lvl S Wx) {e:Expr}{i:Nat} (h:Hv S e=some i):PE X e (En (Hs X.K) (Bl i) (tC (.int 1)))/\∀ n env,N7 e n env (eval e env)=eval e env:=by
 unfold Hv at h;obtain ⟨⟨a,b⟩,h1,h2⟩:=jc3.mp h;clear h;obtain ⟨p,rfl⟩:=MX h1;split at h2
 ·rename_i hb;obtain ⟨x,hx,h3⟩:=jc3.mp h2;obtain ⟨px,rfl⟩:=D9 hx;obtain ⟨k,pk,rfl⟩:=Oy hb;exact ⟨K6 Lz (xs.var h3) Kg (Ja rfl),λ _ _=>rfl⟩
 ·cases h2
def Ro (S:Sx) (e:Expr):Option (Nat×Nat×Nat):=(EO e).bind λ e1=>(EO e1.1).bind λ e2=>(EO e2.1).bind λ e3=>if KZ e2.2=some 1 then (match (D3 e3.1).bind S.slot,(D3 e3.2).bind S.slot,(D3 e1.2).bind S.slot with
 | some i,some p,some q=>some (i,p,q)
 | _,_,_=>none) else none
def jB {X:Cx}{Wx:St->Nat->Hp->Prop} (xs:XS X P w K mg base lvl S Wx) {e:Expr}{i p q:Nat} (h:Ro S e=some (i,p,q)):PE X e (En (Hs X.K) (En (Hs X.K) (En (Hs X.K) (Bl i) (Bl p)) (tC (.int 1))) (Bl q))/\∀ n env,N7 e n env (eval e env)=eval e env:=by
 unfold Ro at h;obtain ⟨⟨a1,b1⟩,h1,g⟩:=jc3.mp h;obtain ⟨⟨a2,b2⟩,h2,g2⟩:=jc3.mp g;obtain ⟨⟨a3,b3⟩,h3,g3⟩:=jc3.mp g2;clear h g g2;obtain ⟨p1,rfl⟩:=MX h1;obtain ⟨p2,rfl⟩:=MX h2;obtain ⟨p3,rfl⟩:=MX h3;split at g3
 ·rename_i hb;split at g3
  ·rename_i i' p' q' k1 k2 k3;cases g3;obtain ⟨x,hx,l1⟩:=jc3.mp k1;obtain ⟨y,hy,l2⟩:=jc3.mp k2;obtain ⟨z,hz,l3⟩:=jc3.mp k3;obtain ⟨px,rfl⟩:=D9 hx;obtain ⟨py,rfl⟩:=D9 hy;obtain ⟨pz,rfl⟩:=D9 hz;obtain ⟨k,pk,rfl⟩:=Oy hb;exact ⟨K6 Lz (K6 Lz (K6 Lz (xs.var l1) (xs.var l2) (Ja rfl)) Kg (Ja rfl)) (xs.var l3) (Ja rfl),λ _ _=>rfl⟩
  ·cases g3
 ·cases g3
def MG (S:Sx) (o e:Expr):Option Fs:=match (D3 e).bind S.slot with
 | some j=>(match Ro S o with
  | some (i,p,q)=>if S.msF i=false then some (FQ i p q j) else none
  | none=>(match (D3 o).bind λ x=>if x = "forms" then S.slot x else none with
   | some i=>if S.msF i=false/\S.msF j=false then some (Mn i j) else none
   | none=>none))
 | none=>none
def MD (S:Sx) (o:Expr):Option Fs:=match Hv S o with
 | some i=>if S.msF i=false then some (Hh i) else none
 | none=>(match (D3 o).bind S.slot with
  | some i=>if S.msF i=false then some (ER i) else none
  | none=>none)
def JS (S:Sx) (e:Expr):Option Fs:=match Hw e with
 | some (o,at',es)=>(match es with
  | []=>if at' = "clear" then MD S o else none
  | a::r=>(match r with
   | []=>if at' = "append" then MG S o a else none
   | _=>none))
 | none=>none
def z7 {e:Expr}{f:Fs}{pos:Pos} (h:JS S e=some f):EJ P w K mg base lvl S (.Expr e pos) f:=by
 unfold JS at h;split at h
 ·rename_i o at' es hm;obtain ⟨apos,cpos,rfl,hl⟩:=Ws hm;split at h
  ·split at h
   ·rename_i ea;subst ea;unfold MD at h;split at h
    ·rename_i i ho;split at h
     ·rename_i hms;cases h;intro Wx X M xs sm;have o1:=Wu xs ho;refine CG (Jf (RP K3 Q5 Q6 PX o1.1 (o1.2 _ _) hl) rfl) λ D σ H q=>?_
      have:=WL (D:=D) sm.al q
      rw [sm.ms.k xs] at this;exact this
     ·cases h
    ·split at h
     ·rename_i i ho;split at h
      ·rename_i hms;cases h;obtain ⟨x,hx,ho⟩:=jc3.mp ho;obtain ⟨px,rfl⟩:=D9 hx;intro Wx X M xs sm;refine CG (Jf (RP K3 Q5 Q6 PX (xs.var ho) rfl hl) rfl) λ D σ H q=>?_
       have:=xl (D:=D) sm.al q
       rw [sm.ms.k xs] at this;exact this
      ·cases h
     ·cases h
   ·cases h
  ·split at h
   ·split at h
    ·rename_i ea;subst ea;unfold MG at h;split at h
     ·rename_i a j hj;obtain ⟨y,hy,hj⟩:=jc3.mp hj;obtain ⟨py,rfl⟩:=D9 hy;split at h
      ·rename_i i p q hc;split at h
       ·rename_i hms;cases h;intro Wx X M xs sm;have o1:=jB xs hc;refine CG (Jf (Ru K3 Q9 QA MU o1.1 (Eh (xs.var hj) GG rfl) (o1.2 _ _) (Ph rfl X.env cpos) hl rfl rfl) rfl) λ D σ H q=>?_
        have:=zU (D:=D) sm.al q
        rw [sm.ms.k xs] at this;exact this
       ·cases h
      ·split at h
       ·rename_i i ho;split at h
        ·rename_i hms;cases h;obtain ⟨x,hx,ho2⟩:=jc3.mp ho;clear ho;obtain ⟨px,rfl⟩:=D9 hx;rcases Decidable.em (x = "forms") with ef | ef
         ·rw [if_pos ef] at ho2;intro Wx X M xs sm;refine CG (Jf (Ru K3 Q9 QA MU (xs.var ho2) (Eh (xs.var hj) GG rfl) rfl (Ph rfl X.env cpos) hl rfl rfl) rfl) λ D σ H q=>?_
          have:=zV (D:=D) sm.al (by rw [sm.ms.ms];exact hms.1) (by rw [sm.ms.ms];exact hms.2) q
          rw [sm.ms.k xs] at this;exact this
         ·rw [if_neg ef] at ho2;cases ho2
        ·cases h
       ·cases h
     ·cases h
    ·cases h
   ·cases h
 ·cases h
def Jy (S:Sx) (e:Expr):Option Nat:=match e with
 | .Call fn es ks _=>(match D3 fn,es,ks with
  | some g,[a],[]=>if g = "sorted" /\ S.glob "sorted" = true/\D3 a=some "forms" then S.slot "forms" else none
  | _,_,_=>none)
 | _=>none
def jl (G:GS P w K mg base lvl S.Γ) {e:Expr}{i:Nat}{pos:Pos} (h:Jy S e=some i) (hm:S.msF i=false):EJ P w K mg base lvl S (.Return (some e) pos) (Ip i):=by
 unfold Jy at h;split at h
 ·split at h
  ·rename_i g a hf;split at h
   ·rename_i hc;obtain ⟨rfl,hg,hx⟩:=hc;obtain ⟨pf,rfl⟩:=D9 hf;obtain ⟨px,rfl⟩:=D9 hx;intro Wx X M xs sm;refine CG (RJ (GZ (TY (by have:=xs.room.un;omega)) (xs.gl hg) (by rw [xs.mg];exact G.1 _ (by decide +kernel)) rfl (Eh (xs.var h) GG rfl) (he:=rfl) (hpl:=rfl))) λ D σ H q=>?_
    have:=jb (D:=D) sm.al (by rw [sm.ms.ms];exact hm) q
    rw [sm.ms.k xs] at this;exact this
   ·cases h
  ·cases h
 ·cases h
def JQ (S:Sx) (x:Str) (it:Expr) (body:List Stmt):Option Fs:=match (D3 it).bind S.slot,S.slot x,body with
 | some i0,some i,[.Expr e _]=>(match Hw e with
  | some (o,at',es)=>if es.isEmpty=true/\at' = "clear" /\ Hv S o=some i/\Eu S x=true/\Io S i=true/\Io S i0=true/\S.msF i=false/\S.msF i0=false/\i≠i0 then some (J2 i0 i (Hh i)) else none
  | none=>none)
 | _,_,_=>none
def xT {x:Str}{it:Expr}{body:List Stmt}{f:Fs}{px pos:Pos} (h:JQ S x it body=some f):EJ P w K mg base lvl S (.For (.Name x px) it body [] pos) f:=by
 unfold JQ at h;split at h
 ·rename_i i0 i e pe hi0 hi;split at h
  ·rename_i o at' es hm;split at h
   ·rename_i hc;obtain ⟨ee,ea,ho,c1,c2,c3,c4,c5,c6⟩:=hc;cases h;obtain ⟨apos,cpos,rfl,hl⟩:=Ws hm;obtain ⟨y,hy,hi0⟩:=jc3.mp hi0;obtain ⟨py,rfl⟩:=D9 hy;cases es with
    | cons _ _=>cases ee
    | nil=>
    subst ea;intro Wx X M xs sm;have hN:X.N.Nodup:=by rw [xs.N];exact sm.nd
    have hi':X.N[i]?=some x:=by rw [xs.N];exact Ls hi
    have hx:Fd X.env.scope x:=by rw [xs.sc];exact L3 c1
    have hpg:PG X (.Name x px) (DK i):=Ka hN hi' hx (.inl (sm.fn x));have hpi:PI X (.Name x px) (.Name y py) (D5 X.K (Bl i0)):=RT (xs.var hi0);have o1:=Wu xs ho;have hbd:Ex X [.Expr (.Call (.Attribute o "clear" apos) [] [] cpos) pe] (λ D σ H=>∃ (Gf:Addr->Prop) (Q:List (Nat×V)),(∀ p∈Q,p.1=i\/p.1=i0)/\tS (M.lend Gf Q) (Hh i) D σ H):=λ pins s σ H D I ⟨Gf,Q,_,q⟩=>by
     have:=WL (M:=M.lend Gf Q) (D:=D) sm.al q
     have e:(M.lend Gf Q).K=X.K:=sm.ms.k xs;rw [e] at this;exact W4 (Jf (RP K3 Q5 Q6 PX o1.1 (o1.2 _ _) hl) rfl) pins s σ H D I this
    have hf:=JY (n:=0) (env:=X.env) (iter:=.Name y py) (f:=Aa 0) (vs:=[]) (λ _ _ _ z=>nomatch z);refine CG (GH (Gr xs) xs.calm hpi hpg hbd hf) λ D σ H q=>?_
    have:=zY (D:=D) sm.al (by rw [sm.ms.ms];exact c5) (by rw [sm.ms.ms];exact c4) c6.symm.symm (Jc c2 sm) (Jc c3 sm) q
    rw [sm.ms.k xs] at this;exact this
   ·cases h
  ·cases h
 ·cases h
def Gk (rec:Stmt->Option Fs) (S:Sx):Stmt->Option Fs
 | .For tg it body el _=>(match D3 tg,el with
  | some x,[]=>(match it with
   | .List es _=>JP rec S x es body
   | it=>JQ S x it body)
  | _,_=>none)
 | .Expr e _=>JS S e
 | .Return e _=>(match e with
  | some e=>(Jy S e).bind λ i=>if S.msF i=false then some (Ip i) else none
  | none=>none)
 | _=>none
def z8 (GX:GX K mg S.xc) (G:GS P w K mg base lvl S.Γ) (Gm:GV P w K mg base lvl S.Γm) (hS:∀ i,∀ j∈S.alF i,S.msF j=false) {rec:Stmt->Option Fs} (ih:∀ st f,rec st=some f->EJ P w K mg base lvl S st f) {st:Stmt}{f:Fs} (h:Gk rec S st=some f):EJ P w K mg base lvl S st f:=by
 unfold Gk at h;split at h
 ·split at h
  ·rename_i x hx;obtain ⟨px,rfl⟩:=D9 hx;split at h
   ·exact λ {Wx}=>xU GX G Gm hS ih h
   ·exact λ {Wx}=>xT h
  ·cases h
 ·exact λ {Wx}=>z7 h
 ·split at h
  ·obtain ⟨i,h1,h⟩:=jc3.mp h;split at h
   ·rename_i hm;cases h;exact λ {Wx}=>jl G h1 hm
   ·cases h
  ·cases h
 ·cases h
def Az:Nat->Sx->Stmt->Option Fs
 | 0,_,_=>none
 | n + 1,S,st=>some (((Gk (Az n S) S st).or (Li (Az n S) S st)).getD IA)
theorem zA (GX:GX K mg S.xc) (G:GS P w K mg base lvl S.Γ) (Gm:GV P w K mg base lvl S.Γm) (hS:∀ i,∀ j∈S.alF i,S.msF j=false):∀ (n:Nat) (st:Stmt) (f:Fs),Az n S st=some f->EJ P w K mg base lvl S st f:=by
 intro n;induction n with
 | zero=>intro st f h;cases h
 | succ n ih=>
  intro st f h;replace h:some (((Gk (Az n S) S st).or (Li (Az n S) S st)).getD IA)=some f:=h;cases eL:Gk (Az n S) S st with
  | some f1=>
   rw [eL] at h;cases h;exact λ {Wx}=>z8 GX G Gm hS ih eL
  | none=>
   rw [eL,Option.none_or] at h;cases e0:Li (Az n S) S st with
   | none=>
    rw [e0] at h;cases h;intro Wx X M xs sm pins s σ H D I q;exact (Xr pins s σ H D I (Ve (t:=RO) q))
   | some f'=>
    rw [e0] at h;cases h;exact λ {Wx}=>w8 GX G Gm hS ih _ _ e0
def Ay (io:Bool) (np k:Nat) (b:Fs):Fn:=λ xs=>if xs.length=np/\io=false then (match b (xs.map (λ x=>some (x,dv x))++Bg k none) with
 | .rt y d _=>.ok (y,d,.non)
 | .nx _=>.ok (.non,om,.non)
 | _=>.no) else .no
def EG {io:Bool}{np k:Nat}{b:Fs}:∀ xs,xs.length≠np->Ay io np k b xs=.no:=λ xs h=>by
 unfold Ay;rw [if_neg λ z=>h z.1]
def xV {x qual:Str}{st:Stmt}{f:Addr}{fd:Dd}{N ps:List Str}{k:Nat}{sp:Sp} (F:Fun K x qual st f fd) (S:FnScope N ps (AE st)) (len:∀ vs H Q E,sp vs H Q E->vs.length=ps.length)
  (hbody:∀ (cdv:Ae) (A:Bc) (outer:List Env) (s:Ak) (H:Hp) (vs:List V) (Q:VK) (E:XK),Room k (A.deeper (Hj qual (AE st) s.heap.objs.size f cdv))->sp vs H Q E ->
   ∃ t,Ex (CT (Bi P w K) P w K mg base N qual (AE st) f cdv A outer s H E) (Bv st) t/\t { nx:=λ _ H'=>Q .non H',rt:=Q } (L2.start N vs) H):FnOk P w K mg base (Bi P w K) (k + 1) f fd ps sp:=by
 obtain ⟨oc,od,kV,doc,pm,an,cdv,ct,osl,rfl,lk,hcd⟩:=F.ex;exact Zz lk hcd S len λ A outer s H vs Q E hr hsp=>hbody cdv A outer s H vs Q E hr hsp
def ZY {x qual:Str}{st:Stmt}{fa:Addr}{fd:Dd}{ps:List Str}{np k:Nat}{io:Bool}{b:Fs} (Fu:Fun K x qual st fa fd) (FS:FnScope S.N ps (AE st)) (hsc:S.sc=AE st) (hal:S.al=[]) (hnp:ps.length=np) (hk:S.N.length=np + k)
  (hms:∀ i∈S.ms,i < np->i=0/\io=true) (hio:io=true->S.msF 0=true/\0 < np) (GX:GX K mg S.xc) (G:GS P w K mg base lvl S.Γ) (Gm:GV P w K mg base lvl S.Γm) (hb:Bt (Az 60 S) (Bv st)=some b):
  FnOk P w K mg base (Bi P w K) (lvl + 1) fa fd ps (Bx K io np (Ay io np k b)):=by
 have hS:∀ i,∀ j∈S.alF i,S.msF j=false:=λ i j hj=>by
  unfold Sx.alF at hj;rw [hal] at hj;simp at hj
 refine xV Fu FS (λ vs H Q E h=>h.1.trans hnp.symm) λ cdv A outer s H vs Q E hr h=>?_;obtain ⟨hl,xs,Zo,hZ,o,q⟩:=h;let M:Fm:={ K:=K,Ms:=S.msF,Zo:=Zo,H₀:=H,W:=W0,io:=none,al:=λ _=>[] }
 have hxs:XS (CT (Bi P w K) P w K mg base S.N qual (AE st) fa cdv A outer s H E) P w K mg base lvl S W0:=⟨rfl,rfl,rfl,rfl,rfl,rfl,hsc.symm,rfl,hr,zv,V6,λ _=>jj⟩
 have hsm:SM (CT (Bi P w K) P w K mg base S.N qual (AE st) fa cdv A outer s H E) M K S W0:=by
  refine ⟨⟨rfl,rfl,λ i _=>?_,(λ i j hj=>nomatch hj),rfl,λ _ h=>nomatch h⟩,λ _=>rfl,λ h=>absurd rfl h,(λ _ h=>nomatch h),λ _=>rfl,FS.nd,rfl,rfl⟩;show []=S.al.getD i [];rw [hal];rfl
 unfold Ay at q;have hlen:xs.length=np/\io=false:=by
  by_cases e:xs.length=np/\io=false
  ·exact e
  ·rw [if_neg e] at q;exact q.elim
 rw [if_pos hlen] at q;have get:∀ i y d,(xs.map (λ x=>(some (x,dv x):Slot))++Bg k none)[i]?=some (some (y,d))->xs[i]?=some y/\d=dv y:=λ i y d e=>by
  by_cases hi:i < xs.length
  ·rw [DU (by rw [Ax];exact hi),C8,BC hi] at e;cases e;exact ⟨BC hi,rfl⟩
  ·rw [EX (by rw [Ax];omega),HC] at e;split at e <;> cases e
 refine ⟨tS M b,Ke (zA GX G Gm hS 60) _ _ hb _ M hxs hsm,xs.map (λ x=>some (x,dv x))++Bg k none,λ _=>[],?_,?_⟩
 ·refine ⟨λ i y d e=>?_,λ i h=>rfl,λ i j hij a ha _=>(nomatch ha),λ i a ha=>(nomatch ha),λ i hi a ha=>(nomatch ha),hZ,?_,λ i y d hi e=>?_,λ a h=>h,⟨λ v hv=>(nomatch hv),λ _ h=>(nomatch h)⟩⟩
  ·obtain ⟨e1,rfl⟩:=get i y d e;obtain ⟨v,ev,ov⟩:=o.nth e1;refine ⟨v,?_,ov.dv.weak λ a h=>?_⟩
   ·unfold L2.start;rw [DU (by rw [Ax];exact (jb1.mp ev).1),C8,ev];rfl
   ·rcases h with h | ⟨j,_,h⟩
    ·exact h
    ·cases h
  ·unfold L2.start;rw [BL,Ax,IS,BL,Ax,IS,o.length,hlen.1,hk];omega
  ·have hm:i∈S.ms:=by
    have hi':S.msF i=true:=hi;unfold Sx.msF at hi';simpa using hi'
   have:=(jb1.mp (get i y d e).1).1
   have:=(hms i hm (by rw [<- hlen.1];exact this)).2
   rw [hlen.2] at this;cases this
 ·have fin:∀ {y:PV}{d:Nat}{v:V}{H':Hp}{fps':AR}{fp:List Addr},(∀ v H' fp,Cs (λ _=>False) H H'->(∀ a,H a≠none->H' a≠none)->Own K H' (λ a=>Zo a\/a∈fp) y d v fp->(∀ a∈fp,H a=none/\¬ Zo a)->Q v H')->KS M H (λ _=>[]) H' fps'->Own M.K H' (λ a=>Zr M fps' a\/a∈fp) y d v fp->(∀ a∈fp,M.H₀ a=none/\¬ Zr M fps' a)->Q v H':=λ q ks oy hf=>q _ _ _ (λ a o h _=>ks.keep a o h λ ⟨i,hi⟩=>(nomatch hi)) ks.dom (oy.weak λ a h=>h.elim (λ h=>.inl (.inl h)) .inr) λ a ha=>⟨(hf a ha).1,λ z=>(hf a ha).2 (.inl z)⟩
  cases eb:b (xs.map (λ x=>some (x,dv x))++Bg k none) with
  | no=>rw [eb] at q;exact q
  | exc c=>rw [eb] at q;exact q.elim
  | bk ρ=>rw [eb] at q;exact q.elim
  | ct ρ=>rw [eb] at q;exact q.elim
  | rt y d ρ'=>
   rw [eb] at q;exact λ v σ' H' fps' fp ks rp oy hf=>fin q ks oy hf
  | nx ρ'=>
   rw [eb] at q;exact λ σ' H' fps' ks rp=>fin (fp:=[]) q ks (by rw [Own];exact ⟨rfl,rfl⟩) λ _ z=>(nomatch z)
end
open PySem PySem.Spec PySem.W PySem.Calls PyProof.Rows L2
theorem Uy {tb:String->Option vf2}{p:AD}{w:AB}{n₀:Nat}{ann:Option Ae}:∀ {n:Nat}{s r:SharedT}{t:Thread},Kb tb p w n₀ ann n s t=some r->topRun tb p w n₀ ann n s.abs t=some r.abs
 | 0,_,_,_,h=>by cases h
 | n + 1,s,r,t,h=>by
  unfold Kb at h;unfold topRun;cases e1:through t with
  | true=>rw [e1] at h;cases h;rfl
  | false=>
   rw [e1] at h;cases e2:stepOk n₀ ann t with
   | false=>rw [e2] at h;cases h
   | true=>
    rw [e2] at h;cases e3:stepT (denote tb) p w s t with
    | none=>rw [e3] at h;cases h
    | some z=>obtain ⟨s₂,t₂⟩:=z;rw [e3] at h;rw [stepT_spec e3];exact Uy h
def j7 (P:Params) (os:OsState):(bootS P os).abs=⟨Ek P,#[],boot_drawn,boot_toks,os⟩:=by kernel_rfl
def xI (P:Params):(Ek P).isNs E7=true:=by kernel_rfl
def zh {p q:AD}{loose:List Str}{Xt:Ak->Bool}{α:Type}{Yf:Ak->α}{Ya:AB->α}{N:Nat} (e:opening p=plainProg p.main.scope.names) (hN:Nat.ble 600 N=true) (f:∀ s,fenceModules? p s=some s)
  (run:∀ (w:AB) (os:OsState),(Kb treeTable p w (Ek w.params).objs.size ((Ek w.params).nsMap E7 "__annotations__") N (bootS w.params os) (topStub p)).map (λ s=>Sk p q loose Xt Yf (Ek w.params) s.abs)=some (true,openGood q loose,Ya w)):
  LeftO p q loose Xt Yf Ya N:=λ w=>by
 obtain ⟨⟨h,gs,d,k,os⟩,e1,e2⟩:=jc2.mp (boot_open e hN f w);obtain ⟨rfl,rfl,rfl,rfl⟩:h=Ek w.params/\gs=#[]/\d=boot_drawn/\k=boot_toks:=by simpa using e2
 obtain ⟨s,r1,r2⟩:=jc2.mp (run w os);have r:=Uy r1;rw [j7] at r;have r3:(_=_)/\(_ ,_)=(_,_):=Prod.mk.inj r2;obtain ⟨l1,l23⟩:=r3;obtain ⟨l2,l3⟩:=Prod.mk.inj l23;have t:topFrom treeTable p w N ⟨Ek w.params,#[],boot_drawn,boot_toks,os⟩=some s.abs:=by
  unfold topFrom;dsimp only;rw [xI,r];show (match staticsOk (Qr p.main.body) (Ek w.params) s.abs.heap && namesBound p s.abs.heap && gensDone s.abs && laidKept (Ek w.params) s.abs.heap with | true=>_ | false=>_)=_;rw [l1]
 unfold openEnds;rw [e1];show (topFrom treeTable p w N _).map _=_;rw [t];exact congrArg some (Prod.ext l2 l3)
theorem qo (h:Heap):(Mt h).In h:=by
 intro a o;unfold Mt;generalize An h.objs.size=l;induction l with
 | nil=>intro e;cases e
 | cons b l ih=>
  intro e;rw [OS] at e;cases g:h.get? b with
  | none=>rw [g] at e;exact ih e
  | some z=>
   rw [g] at e;dsimp only [IG] at e;rw [EU] at e;split at e
   ·rename_i q;cases e;rw [beq_iff_eq.mp q];exact g
   ·exact ih e
def qa {K:Frag}{x:Str}{st:Stmt} (e:Si K x=some (RA x st)):∃ (g:Addr) (fd:Dd),nsIn K E7 x=some (some (.ref g))/\Fun K x x st g fd:=by
 unfold Si at e;split at e
 ·rename_i g hg;split at e
  ·rename_i oc od fd sl hl;cases fd;unfold RA at e;simp only [Option.some.injEq,DefSeen.mk.injEq] at e;obtain ⟨rfl,rfl,rfl,rfl,rfl,rfl,rfl,rfl,rfl,hc⟩:=e;refine ⟨g,_,hg,qf hl hc ?_⟩;unfold keepIn;dsimp only;rw [hl]
  ·cases e
 ·cases e
structure Given (ds:List (Str×Stmt)) (xc:List Nat) (K:Frag) (mg:Str->Option Ae):Prop where
 df:∀ (i:Nat) (x:Str) (st:Stmt),ds[i]?=some (x,st)->∃ (g:Addr) (fd:Dd),mg x=some (.ref g)/\Fun K x x st g fd
 bn:∀ x∈zka,mg x=none
 gx:GX K mg xc
theorem RF {α β:Type}{f g:α->β}:∀ {l:List α},l.map f=l.map g->∀ {i:Nat}{a:α},l[i]?=some a->f a=g a
 | [],_,_,_,h=>by cases h
 | b::l,e,0,a,h=>by
  cases h;exact (List.cons.inj e).1
 | b::l,e,i + 1,a,h=>RF (List.cons.inj e).2 h
def kq {ds:List (Str×Stmt)}{xc:List Nat}{K:Frag}{mg:Str->Option Ae}{h:Heap} (X:K.In h) (G:h.Ns E7 mg) (e:LA ds xc K=L0 ds):Given ds xc K mg:=by
 obtain ⟨e1,e2⟩:=Prod.mk.inj e;obtain ⟨e2,e3⟩:=Prod.mk.inj e2;refine ⟨λ i x st hi=>?_,λ x hx=>?_,λ hne=>?_⟩
 ·obtain ⟨g,fd,a,b⟩:=qa (RF e1 hi);exact ⟨g,fd,mg_of X G a,b⟩
 ·obtain ⟨i,hi⟩:=List.getElem?_of_mem hx;exact mg_none_of X G (RF e2 hi)
 ·have hm:xc.isEmpty=false:=by
   cases xc with
   | nil=>exact absurd rfl hne
   | cons _ _=>rfl
  rw [hm,SJ,A7,A7] at e3;refine ⟨e3.1.1,e3.1.2,λ c hc=>?_⟩;have h1:=jc1.mp e3.2 c hc;rw [A7] at h1;obtain ⟨C,hC⟩:=jm7.mp h1.1;have hC':=hC;unfold DA at hC';cases hx:XN[c]? with
  | none=>rw [hx] at hC';cases hC'
  | some x=>
   rw [hx] at hC';dsimp only at hC';have h2:=h1.2;rw [hx] at h2;dsimp only at h2;refine ⟨x,C,rfl,hC,?_,by simpa using h2⟩;split at hC'
   ·rename_i D hD;cases hC';exact mg_of X G hD
   ·cases hC'
def z4 {P:AD}{w:AB}{K:Frag}{outer:List Env}{H:Hp}{s:Ak}{e:Ae}{s2:Ak} (z:Bi P w K outer H s (λ _ _ _=>False) e s2):False:=z
def holds_by {l:OpenLaw}{q:AD}{loose:List Str}{d:DefRec}{N k n:Nat}{ds:List (Str×Stmt)}{xc:List Nat}{F:Fn}{x:Str} (said:l.wellSaid=true)
  (e:opening l.prog=plainProg l.prog.main.scope.names) (hN:Nat.ble 600 N=true) (f:∀ s,fenceModules? l.prog s=some s)
  (run:∀ (w:AB) (os:OsState),(Kb treeTable l.prog w (Ek w.params).objs.size ((Ek w.params).nsMap E7 "__annotations__") N (bootS w.params os) (topStub l.prog)).map
   (λ s=>Sk l.prog q loose (λ s=>xlAt q [] s && recOk (RowW.records l.row.toRowW) s) (λ s=>LA ds xc (Mt s.heap)) (Ek w.params) s.abs)=some (true,openGood q loose,L0 ds))
  (hdef:defOf q l.row.name=some (d,[])) (hp:l.row.prog.theDef l.row.name=some (d.params,d.body,d.scope)) (hk:kwWritten? d.params.kwonlyargs d.params.kw_defaults=some []) (hwr:(!l.row.writes || l.row.records.isEmpty)=true)
  (ok:(chainsOk q && opensWell l.row.prog && (frees l.row.toRowW && l.row.within.isEmpty))=true) (hb:l.row.prog.bare) (hw:l.row.toRowW.promised)
  (hn:l.most=some n) (hn2:n<=A2) (hdf:d.params.defaults=[]) (hr:Room k Jl)
  (law:∀ (K:Frag) (w:AB) (mg:Str->Option Ae) (fa:Addr),Given ds xc K mg->mg d.name=some (.ref fa)->∃ fd:Dd,(∀ (s:Ak) (u:Ae),BindsTo s fd ⟨[u],[]⟩ [(x,u)]) /\
   ∀ base:Heap,FnOk l.prog w K mg base (Bi l.prog w K) k fa fd [x] (Bx K false 1 F))
  (yes:∀ (K:Frag) (H:Hp) (a:Addr) (ns:List Int),ns.length<=n->HQ H->BG K H a (ns.map V.int)->Bx K false 1 F [.ref a] H (λ v _=>v=.bl true) λ _ _ _=>False):l.Holds:=by
 refine holds_law said λ ws=>?_;refine holds_open (q:=q) (loose:=loose) (Xt:=λ s=>xlAt q [] s && recOk (RowW.records l.row.toRowW) s) (XP:=XL q []) (Yf:=λ s=>LA ds xc (Mt s.heap)) (Ya:=λ _=>L0 ds) (YP:=λ _ h=>∃ K:Frag,K.In h/\LA ds xc K=L0 ds) (N:=N)
  (zh e hN f run) (λ _ s z=>⟨_,qo _,z⟩) (λ _ _ _ ⟨K,a,b⟩ kp=>⟨K,a.keeps kp,b⟩) (λ s e=>xl_of s (jo3.mp e).1) XL.keeps hdef hp hk (λ s e=>recFacts_of (jo3.mp e).2) hwr ws ok hb hw ?_
 refine Att.attach_call hn hdf λ w s₀ s₁ mg mb fa o pm cd doc a vs ns G Y ho hd hcd hmg hobj hints hlen hg=>?_;obtain ⟨K,KX,hf⟩:=Y;obtain ⟨fd,hbd,hF⟩:=law K w mg fa (kq KX G.T.g hf) hmg;exact jP KX G.T.g G.T.b G.T.builtins G.T.nolimit hg hobj hints (CA hlen hn2) hr (λ base _ _=>hF base) hbd (λ H hO hS=>yes K H a ns hlen hO hS) λ H e s'=>z4
section
variable {P:AD}{w:AB}{K:Frag}{mg:Str->Option Ae}{base:Heap}
def Di {us:List Ae} (h:us.length=1):∃ a,us=[a]:=List.length_eq_one_iff.mp h
theorem Co {us:List Ae} (h:us.length=2):∃ a b,us=[a,b]:=by
 cases us with
 | nil=>cases h
 | cons a r=>obtain ⟨b,rfl⟩:=Di (Nat.succ.inj h);exact ⟨a,b,rfl⟩
theorem JB {us:List Ae} (h:us.length=3):∃ a b c,us=[a,b,c]:=by
 cases us with
 | nil=>cases h
 | cons a r=>obtain ⟨b,c,rfl⟩:=Co (Nat.succ.inj h);exact ⟨a,b,c,rfl⟩
def Ck {lvl:Nat} (hb:∀ x∈zka,mg x=none):GS P w K mg base lvl []:=⟨hb,λ x io n F h=>by cases h⟩
def E2 {lvl:Nat}{x qual:Str}{st:Stmt}{fa:Addr}{fd:Dd}{ps:List Str}{io:Bool}{n:Nat}{F:Fn}{Γ:List (Str×(Bool×Nat×Fn))} (g:GS P w K mg base lvl Γ) (hx:(x == ("__debug__" : Str))=false) (hF:∀ xs,xs.length≠n->F xs=.no)
  (hm:mg x=some (.ref fa)) (Fu:Fun K x qual st fa fd) (hbd:qaj K fd ps []) (hn:ps.length=n) (ok:FnOk P w K mg base (Bi P w K) lvl fa fd ps (Bx K io n F)):GS P w K mg base lvl ((x,(io,n,F))::Γ):=by
 refine ⟨g.1,λ y io' n' F' h=>?_⟩;rw [EU] at h;split at h
 ·rename_i e;cases h
  have:y=x:=eq_of_beq e
  subst this;exact ⟨hx,hF,fa,fd,ps,hm,Fu.kp,hbd,hn,ok⟩
 ·exact g.2 y io' n' F' h
def xX {lvl:Nat}:GV P w K mg base lvl []:=λ x F h=>by cases h
def CB {lvl j:Nat}{x qual:Str}{st:Stmt}{fa:Addr}{fd:Dd}{ps:List Str}{io:Bool}{n:Nat}{F:Fn}{Γ:List (Str×(Bool×Nat×Fn))} (g:GS P w K mg base lvl Γ) (hm:mg x=some (.ref fa)) (Fu:Fun K x qual st fa fd) (hbd:qaj K fd ps []) (ok:FnOk P w K mg base (Bi P w K) j fa fd ps (Bx K io n F)) (hl:j<=lvl:=by decide) (hx:(x == ("__debug__" : Str))=false:=by decide +kernel) (hF:∀ xs,xs.length≠n->F xs=.no:=by exact EG) (hn:ps.length=n:=by rfl):GS P w K mg base lvl ((x,(io,n,F))::Γ):=E2 g hx hF hm Fu hbd hn (ok.mono hl)
def Cr (S:Sx) {lvl:Nat}{x qual:Str}{st:Stmt}{fa:Addr}{fd:Dd}{ps:List Str}{np k:Nat}{io:Bool}{b:Fs} (Fu:Fun K x qual st fa fd) (FS:FnScope S.N ps (AE st)) (gX:GX K mg S.xc) (G:GS P w K mg base lvl S.Γ) (hb:Bt (Az 60 S) (Bv st)=some b) (hsc:S.sc=AE st:=by rfl) (hal:S.al=[]:=by rfl) (hnp:ps.length=np:=by rfl) (hk:S.N.length=np + k:=by rfl) (hms:∀ i∈S.ms,i < np->i=0/\io=true:=by decide) (hio:io=true->S.msF 0=true/\0 < np:=by first | exact λ h=>Bool.noConfusion h | exact λ _=>⟨rfl,by decide⟩) (Gm:GV P w K mg base lvl S.Γm:=by exact xX):FnOk P w K mg base (Bi P w K) (lvl + 1) fa fd ps (Bx K io np (Ay io np k b)):=ZY (S:=S) Fu FS hsc hal hnp hk hms hio gX G Gm hb
end
def sp_yes {K:Frag}{H:Hp}{a:Addr}{ns:List Int}{F:Fn} (hO:HQ H) (hS:BG K H a (ns.map V.int)) (h:∃ d z,F [.scr ns]=.ok (.bl true,d,z)):Bx K false 1 F [.ref a] H (λ v _=>v=.bl true) λ _ _ _=>False:=by
 refine ⟨rfl,[.scr ns],λ _=>False,λ _ z=>z.elim,?_,?_⟩
 ·rw [OwnL];refine ⟨.ref a,[],[],[],rfl,rfl,λ _ z=>(nomatch z),?_,by rw [OwnL];exact ⟨rfl,rfl⟩⟩;rw [Own];refine ⟨rfl,a,rfl,?_⟩;rcases hS with (h | h) | h
  ·rcases hO a with z | ⟨ob,xs,z⟩
   ·rw [h] at z;cases z
   ·rw [h] at z;cases z
  ·exact .inl h
  ·exact .inr h
 ·obtain ⟨d,z,e⟩:=h;rw [e];intro v H' fp _ _ o _;rw [Own] at o;exact o.1
end QQ
namespace QV
open PySem PySem.Spec PyProof.Rows L2 QQ
def BV {op:PV->Nat->PV->Nat->Option (PV×Nat)}{f g:Fx}{ρ ρ1 ρ2:Ag}{x y z:PV}{d e c:Nat} (h1:f ρ=.ok (x,d,ρ1)) (h2:g ρ1=.ok (y,e,ρ2)) (h3:op x d y e=some (z,c)):Ab op f g ρ=.ok (z,c,ρ2):=by
 unfold Ab;rw [h1];dsimp only [Rz.bind];rw [h2];dsimp only;rw [h3]
def Vk {op:PV->Nat->Option (PV×Nat)}{f:Fx}{ρ ρ1:Ag}{x z:PV}{d c:Nat} (h1:f ρ=.ok (x,d,ρ1)) (h3:op x d=some (z,c)):Ao op f ρ=.ok (z,c,ρ1):=by
 unfold Ao;rw [h1];dsimp only [Rz.bind];rw [h3]
def CP {f:Fx}{fa:Fa}{ρ ρ1 ρ2:Ag}{x:PV}{d:Nat}{xs:List (PV×Nat)} (h1:f ρ=.ok (x,d,ρ1)) (h2:fa ρ1=.ok (xs,ρ2)):Ad f fa ρ=.ok ((x,d)::xs,ρ2):=by
 unfold Ad;rw [h1];dsimp only [Rz.bind];rw [h2]
def BI {f:Fx}{ρ ρ1:Ag}{x:PV}{d:Nat} (h1:f ρ=.ok (x,d,ρ1)):Ad f Ac ρ=.ok ([(x,d)],ρ1):=CP h1 rfl
def Dt {op:List (PV×Nat)->Option (PV×Nat)}{fa:Fa}{ρ ρ1:Ag}{xs:List (PV×Nat)}{z:PV}{c:Nat} (h1:fa ρ=.ok (xs,ρ1)) (h2:op xs=some (z,c)):Al op fa ρ=.ok (z,c,ρ1):=by
 unfold Al;rw [h1];dsimp only [Rz.bind];rw [h2]
def BA {F:Fn}{fa:Fa}{ρ ρ1:Ag}{xs:List (PV×Nat)}{y z:PV}{d:Nat} (h1:fa ρ=.ok (xs,ρ1)) (h2:F (xs.map (·.1))=.ok (y,d,z)):Au F fa ρ=.ok (y,d,ρ1):=by
 unfold Au;rw [h1];dsimp only [Rz.bind];rw [h2]
def CY {f:Fx}{ρ ρ1:Ag}{x:PV}{d:Nat} (h:f ρ=.ok (x,d,ρ1)):Ap f ρ=.rt x d ρ1:=by
 unfold Ap;rw [h]
def Nx {f:Fx}{ρ ρ1:Ag}{x:PV}{d:Nat} (h:f ρ=.ok (x,d,ρ1)):E3 f ρ=.nx ρ1:=by
 unfold E3;rw [h]
def setF {i:Nat}{f:Fx}{vs:List Nat}{ρ ρ1 ρ2:Ag}{x:PV}{d:Nat} (h:f ρ=.ok (x,d,ρ1)) (hc:i < ρ1.length) (e:(CF d vs ρ1).set i (some (x,d))=ρ2):Ai false i f vs ρ=.nx ρ2:=by
 unfold Ai;rw [h];dsimp only;rw [if_pos ⟨hc,λ h=>nomatch h⟩,e]
def O6 {asg:PV->Ag->Option Ag}{f:Fx}{vs:List Nat}{ρ ρ1 ρ2:Ag}{x:PV}{d:Nat} (h:f ρ=.ok (x,d,ρ1)) (e:asg x (CF d vs ρ1)=some ρ2):Cn asg f vs ρ=.nx ρ2:=by
 unfold Cn;rw [h];dsimp only;rw [e]
def Ki {i:Nat}{f:Fx}{vs:List Nat}{ρ ρ1 ρ2:Ag}{y:PV}{e:Nat}{xs:List PV}{d0 d:Nat}{xs0:List PV} (h0:ρ[i]?=some (some (.lst xs0,d0 + 1))) (h:f ρ=.ok (y,e,ρ1)) (h1:(CF e vs ρ1)[i]?=some (some (.lst xs,d))) (hd:d≠0) (hl:xs.length < A2)
  (e2:(CF e vs ρ1).set i (some (.lst (xs++[y]),if d=om/\e=om then om else 1))=ρ2):BE i f vs ρ=.nx ρ2:=by
 unfold BE;rw [h0];dsimp only;rw [h];dsimp only;rw [h1];dsimp only;rw [if_pos ⟨hd,hl⟩,e2]
def jg {i:Nat}{fi fj f:Fx}{ρ ρ1 ρ2 ρ3 ρ4:Ag}{y x x':PV}{a b:Int}{d0 d1 d2:Nat} (h:f ρ=.ok (y,d0,ρ1)) (hx:ρ1[i]?=some (some (x,om))) (h1:fi ρ1=.ok (.int a,d1,ρ2)) (h2:fj ρ2=.ok (.int b,d2,ρ3)) (hp:ES x a b y=some x') (hy:Hg y=true) (e:ρ3.set i (some (x',om))=ρ4):J4 i fi fj f ρ=.nx ρ4:=by
 unfold J4;rw [h];dsimp only;rw [hx];dsimp only;rw [h1];dsimp only;rw [h2];dsimp only;rw [hp];dsimp only;rw [if_pos ⟨rfl,hy⟩,e]
def AF {f g:Fs}{ρ ρ1:Ag} (h:f ρ=.nx ρ1):Af f g ρ=g ρ1:=by
 unfold Af;rw [h]
def UI {c:Fb}{f g:Fs}{ρ ρ1:Ag}{b:Bool} (hc:c ρ=.ok (b,ρ1)):AG c f g ρ=if b=true then f ρ1 else g ρ1:=by
 unfold AG;rw [hc]
def Cq {c:Fb}{f g:Fs}{ρ ρ1:Ag} (hc:c ρ=.ok (true,ρ1)):AG c f g ρ=f ρ1:=by rw [UI hc];rfl
def BP {c:Fb}{f g:Fs}{ρ ρ1:Ag} (hc:c ρ=.ok (false,ρ1)):AG c f g ρ=g ρ1:=by rw [UI hc];rfl
def J5 {c:Fb}{f g:Fs}{ρ ρ1:Ag} (hc:c ρ=.ok (false,ρ1)):Af (AG c f Aq) g ρ=g ρ1:=AF (by rw [BP hc];rfl)
def Kh {f g:Fs}{ρ ρ1:Ag}{x:PV}{d:Nat} (h:f ρ=.rt x d ρ1):Af f g ρ=.rt x d ρ1:=by
 unfold Af;rw [h]
def Bk {f:Fx}{ρ ρ1:Ag}{b:Bool}{d:Nat} (h:f ρ=.ok (.bl b,d,ρ1)):bT f ρ=.ok (b,ρ1):=by
 unfold bT;rw [h];rfl
def Ji {f:Fx}{ρ ρ1:Ag}{b:Bool}{d:Nat} (h:f ρ=.ok (.bl b,d,ρ1)):Ao BU f ρ=.ok (.bl (!b),om,ρ1):=Vk h rfl
theorem GD {f g:Fx}{ρ ρ1:Ag}{a b:Bool}{d:Nat} (h:f ρ=.ok (.bl a,d,ρ1)) (h2:a=true->g ρ1=.ok (.bl b,om,ρ1)) (hd:d=om):BH f g ρ=.ok (.bl (a && b),om,ρ1):=by
 subst hd;unfold BH;rw [h];cases a with
 | false=>rfl
 | true=>exact h2 rfl
theorem UQ {f g:Fx}{ρ ρ1:Ag}{a b:Bool}{d:Nat} (h:f ρ=.ok (.bl a,d,ρ1)) (h2:a=false->g ρ1=.ok (.bl b,om,ρ1)) (hd:d=om):AI f g ρ=.ok (.bl (a || b),om,ρ1):=by
 subst hd;unfold AI;rw [h];cases a with
 | true=>rfl
 | false=>exact h2 rfl
def L4 {f g:Fx}{ρ ρ1 ρ2:Ag}{i j:Int}{d e:Nat} (h1:f ρ=.ok (.int i,d,ρ1)) (h2:g ρ1=.ok (.int j,e,ρ2)) (h:(-(2 ^ 64) < i/\i < 2 ^ 64)\/(-(2 ^ 64) < j/\j < 2 ^ 64)):Ab Dl f g ρ=.ok (.int (i * j),om,ρ2):=by
 refine BV h1 h2 ?_;show (if FZ i j=true then _ else _)=_;rw [if_pos];unfold FZ;rcases h with h | h
 ·rw [decide_eq_true h.1,decide_eq_true h.2];rfl
 ·rw [decide_eq_true h.1,decide_eq_true h.2];simp
def DX {f g:Fx}{ρ ρ1 ρ2:Ag}{i j:Int}{d e:Nat} (h1:f ρ=.ok (.int i,d,ρ1)) (h2:g ρ1=.ok (.int j,e,ρ2)) (h:0 < j):Ab AL f g ρ=.ok (.int (i % j),om,ρ2):=by
 refine BV h1 h2 ?_;show (if Ht i j=true then _ else _)=_;rw [if_pos];exact decide_eq_true h
def Je {f g:Fx}{ρ ρ1 ρ2:Ag}{i j:Int}{d e:Nat} (h1:f ρ=.ok (.int i,d,ρ1)) (h2:g ρ1=.ok (.int j,e,ρ2)) (h:0 < j) (h':j < 2 ^ 128):Ab C0 f g ρ=.ok (.int (i / j),om,ρ2):=by
 refine BV h1 h2 ?_;show (if Ga i j=true then _ else _)=_;rw [if_pos];unfold Ga;rw [decide_eq_true h,decide_eq_true h'];rfl
def FP {f g:Fx}{ρ ρ1 ρ2:Ag}{i j:Int}{d e:Nat} (h1:f ρ=.ok (.int i,d,ρ1)) (h2:g ρ1=.ok (.int j,e,ρ2)):Ab AS f g ρ=.ok (.int (i + j),om,ρ2):=BV h1 h2 rfl
def Jk {f g:Fx}{ρ ρ1 ρ2:Ag}{i j:Int}{d e:Nat} (h1:f ρ=.ok (.int i,d,ρ1)) (h2:g ρ1=.ok (.int j,e,ρ2)):Ab Ct f g ρ=.ok (.int (i - j),om,ρ2):=BV h1 h2 rfl
def qw {p:Int->Int->Bool}{f g:Fx}{ρ ρ1 ρ2:Ag}{i j:Int}{d e:Nat} (h1:f ρ=.ok (.int i,d,ρ1)) (h2:g ρ1=.ok (.int j,e,ρ2)):Ab (C1 p) f g ρ=.ok (.bl (p i j),om,ρ2):=BV h1 h2 rfl
def jC {p q:Int->Int->Bool}{f g h:Fx}{ρ:Ag}{i j k:Int}{d e c:Nat} (h1:f ρ=.ok (.int i,d,ρ)) (h2:g ρ=.ok (.int j,e,ρ)) (h3:h ρ=.ok (.int k,c,ρ)):Ii p q f g h ρ=.ok (.bl (p i j && q j k),om,ρ):=by
 unfold Ii;rw [h1];dsimp only [Rz.bind];rw [h2];dsimp only;by_cases hp:p i j=true
 ·rw [if_pos hp,h3,hp];rfl
 ·rw [if_neg hp]
  have:p i j=false:=by simpa using hp
  rw [this];rfl
def ya {neg:Bool}{i j:Int}{d e:Nat}:Am neg (.int i) d (.int j) e=some (.bl (neg^^decide (i=j)),om):=by
 show some (PV.bl (neg^^BK (.int i) (.int j)),om)=_
 have:BK (.int i) (.int j)=decide (i=j):=by
  show (i == j)=_;rfl
 rw [this]
def Gy {neg:Bool}{f g:Fx}{ρ ρ1 ρ2:Ag}{i j:Int}{d e:Nat} (h1:f ρ=.ok (.int i,d,ρ1)) (h2:g ρ1=.ok (.int j,e,ρ2)):Ab (Am neg) f g ρ=.ok (.bl (neg^^decide (i=j)),om,ρ2):=BV h1 h2 ya
def il (xs:List Int):PV:=.lst (xs.map .int)
def tb (t:List (List Int)):PV:=.lst (t.map il)
abbrev bx (a b c:Int):PV:=.tup [.int a,.int b,.int c]
def Eg {α:Type}{xs:List α}{k:Int}{x:α} (h0:0<=k) (h:xs[k.toNat]?=some x):Ci xs k=some x:=by
 have hl:=(jb1.mp h).1;unfold Ci CL;rw [if_pos h0,if_pos (by omega)];exact h
def GF {f g:Fx}{ρ ρ1 ρ2:Ag}{xs:List Int}{k x:Int}{d e:Nat} (h1:f ρ=.ok (il xs,d,ρ1)) (h2:g ρ1=.ok (.int k,e,ρ2)) (h:Ci xs k=some x):Ab Ah f g ρ=.ok (.int x,om,ρ2):=by
 refine BV h1 h2 ?_;show (Ci (xs.map PV.int) k).map _=_
 have:Ci (xs.map PV.int) k=some (.int x):=by
  unfold Ci at h ⊢;rw [Ax];cases e:CL xs.length k with
  | none=>rw [e] at h;cases h
  | some j=>
   rw [e] at h;have h':xs[j]?=some x:=h;show (xs.map PV.int)[j]?=_;rw [C8,h'];rfl
 rw [this];rfl
def Ly {f g:Fx}{ρ ρ1 ρ2:Ag}{t:List (List Int)}{k:Int}{r:List Int}{d e:Nat} (h1:f ρ=.ok (tb t,d,ρ1)) (h2:g ρ1=.ok (.int k,e,ρ2)) (h:Ci t k=some r):Ab Ah f g ρ=.ok (il r,0,ρ2):=by
 refine BV h1 h2 ?_;show (Ci (t.map il) k).map _=_
 have:Ci (t.map il) k=some (il r):=by
  unfold Ci at h ⊢;rw [Ax];cases e:CL t.length k with
  | none=>rw [e] at h;cases h
  | some j=>
   rw [e] at h;have h':t[j]?=some r:=h;show (t.map il)[j]?=_;rw [C8,h'];rfl
 rw [this];rfl
def O7 {fa:Fa}{ρ ρ1:Ag}{xs:List Int}{d:Nat} (h:fa ρ=.ok ([(il xs,d)],ρ1)):Al Bj fa ρ=.ok (.int xs.length,om,ρ1):=by
 refine Dt h ?_;show some (PV.int ((xs.map PV.int).length:Nat),om)=_;rw [Ax]
def RE {fa:Fa}{ρ ρ1:Ag}{t:List (List Int)}{d:Nat} (h:fa ρ=.ok ([(tb t,d)],ρ1)):Al Bj fa ρ=.ok (.int t.length,om,ρ1):=by
 refine Dt h ?_;show some (PV.int ((t.map il).length:Nat),om)=_;rw [Ax]
theorem Kd {α:Type}{n:Nat}{test:Fb}{elt:Fx}{enc q:α->PV}{e:α->Nat}{p:α->Bool}:∀ (xs:List α) (ρ:Ag) (acc:List (PV×Nat)),ρ.length=n->(∀ x∈xs,test (ρ++[some (enc x,dv (enc x))])=.ok (p x,ρ++[some (enc x,dv (enc x))])) ->
  (∀ x∈xs,p x=true->elt (ρ++[some (enc x,dv (enc x))])=.ok (q x,e x,ρ++[some (enc x,dv (enc x))]))->acc.length + xs.length<=A2->C9 1 (Aj n) test elt (xs.map enc) ρ acc=.ok (acc++(xs.filter p).map (λ x=>(q x,e x)),ρ)
 | [],ρ,acc,_,_,_,_=>by simp [C9]
 | x::xs,ρ,acc,hn,ht,he,hl=>by
  have ea:Aj n (enc x) (ρ++Bg 1 none)=some (ρ++[some (enc x,dv (enc x))]):=by
   unfold Aj;rw [if_pos (by rw [BL,hn];simp),Y8 _ _ (by omega),hn];simp
  have ih:=λ acc h=>Kd (n:=n) (test:=test) (elt:=elt) (p:=p) (q:=q) (e:=e) (enc:=enc) xs ρ acc hn (λ y hy=>ht y (A8 _ hy)) (λ y hy=>he y (A8 _ hy)) h;have tk:(ρ++[some (enc x,dv (enc x))]).take ρ.length=ρ:=by simp
  rw [Ba] at hl;rw [Bf];unfold C9;rw [ea];dsimp only;rw [ht x A9];dsimp only [Rz.bindN];cases hp:p x with
  | false=>
   rw [if_neg Cp,tk,ih acc (by omega),JJ (by simp [hp])]
  | true=>
   rw [if_pos rfl,he x A9 hp];dsimp only;rw [if_pos (by omega),tk,ih _ (by rw [BL,IQ];omega),KW hp];simp
theorem IX {α:Type} (q:α->PV):∀ xs:List α,Ey (xs.map λ x=>(q x,om))=true
 | []=>rfl
 | x::xs=>by rw [Bf];unfold Ey;rw [IX q xs];rfl
def DJ {α:Type}{n:Nat}{f elt:Fx}{enc q:α->PV}{ρ ρ1:Ag}{d:Nat} (xs:List α) (hf:f ρ=.ok (.lst (xs.map enc),d,ρ1)) (hn:ρ1.length=n) (he:∀ x∈xs,elt (ρ1++[some (enc x,dv (enc x))])=.ok (q x,om,ρ1++[some (enc x,dv (enc x))])) (hl:xs.length<=A2):
  AO f 1 (Aj n) AA elt ρ=.ok (.lst (xs.map q),om,ρ1):=by
 unfold AO;rw [hf];dsimp only;rw [Kd (p:=λ _=>true) (q:=q) (e:=λ _=>om) xs ρ1 [] hn (λ _ _=>rfl) (λ x hx _=>he x hx) (by simpa using hl),jg6.mpr (λ _ _=>rfl)];show CZ (xs.map λ x=>(q x,om)) ρ1=_;unfold CZ;rw [IX,BB];rfl
def jH {α:Type}{n:Nat}{f elt:Fx}{enc q:α->PV}{ρ ρ1:Ag}{d:Nat} (xs:List α) (hf:f ρ=.ok (.tup (xs.map enc),d,ρ1)) (hn:ρ1.length=n) (he:∀ x∈xs,elt (ρ1++[some (enc x,dv (enc x))])=.ok (q x,om,ρ1++[some (enc x,dv (enc x))])) (hl:xs.length<=A2):
  AO f 1 (Aj n) AA elt ρ=.ok (.lst (xs.map q),om,ρ1):=by
 unfold AO;rw [hf];dsimp only;rw [Kd (p:=λ _=>true) (q:=q) (e:=λ _=>om) xs ρ1 [] hn (λ _ _=>rfl) (λ x hx _=>he x hx) (by simpa using hl),jg6.mpr (λ _ _=>rfl)];show CZ (xs.map λ x=>(q x,om)) ρ1=_;unfold CZ;rw [IX,BB];rfl
def jG {α:Type}{n:Nat}{f elt:Fx}{test:Fb}{enc q:α->PV}{p:α->Bool}{ρ ρ1:Ag}{d:Nat} (xs:List α) (hf:f ρ=.ok (.lst (xs.map enc),d,ρ1)) (hn:ρ1.length=n) (ht:∀ x∈xs,test (ρ1++[some (enc x,dv (enc x))])=.ok (p x,ρ1++[some (enc x,dv (enc x))])) (he:∀ x∈xs,p x=true->elt (ρ1++[some (enc x,dv (enc x))])=.ok (q x,om,ρ1++[some (enc x,dv (enc x))])) (hl:xs.length<=A2):
  AO f 1 (Aj n) test elt ρ=.ok (.lst ((xs.filter p).map q),om,ρ1):=by
 unfold AO;rw [hf];dsimp only;rw [Kd (p:=p) (q:=q) (e:=λ _=>om) xs ρ1 [] hn ht he (by simpa using hl)];show CZ ((xs.filter p).map λ x=>(q x,om)) ρ1=_;unfold CZ;rw [IX,BB];rfl
def Qe (lo:Int) (n:Nat):FJ lo n=(An n).map λ (k:Nat)=>PV.int (lo + (k:Int)):=rfl
def HX {n:Nat}{en:List (PV×Nat)->Option (Int×Int)}{fa:Fa}{elt:Fx}{q:Nat->PV}{ρ ρ1:Ag}{as:List (PV×Nat)}{lo hi:Int} (hf:fa ρ=.ok (as,ρ1)) (hen:en as=some (lo,hi)) (hn:ρ1.length=n) (he:∀ k,k < (hi - lo).toNat->elt (ρ1++[some (.int (lo + (k:Int)),om)])=.ok (q k,om,ρ1++[some (.int (lo + (k:Int)),om)])) (hl:(hi - lo).toNat<=A2):
  Cj en fa 1 (Aj n) AA elt ρ=.ok (.lst ((An (hi - lo).toNat).map q),om,ρ1):=by
 unfold Cj;rw [hf];dsimp only;rw [hen];dsimp only;rw [Qe,Kd (enc:=λ (k:Nat)=>PV.int (lo + (k:Int))) (p:=λ _=>true) (q:=q) (e:=λ _=>om) (An (hi - lo).toNat) ρ1 [] hn (λ _ _=>rfl) (λ x hx _=>he x (jc6.mp hx)) (by simpa using hl),jg6.mpr (λ _ _=>rfl)];show CZ ((An (hi - lo).toNat).map λ x=>(q x,om)) ρ1=_;unfold CZ;rw [IX,BB];rfl
theorem jy {α:Type} (g:α->Bool) (xs:List α):QQ.allB (xs.map λ x=>.bl (g x))=some (xs.map g):=by
 induction xs with
 | nil=>rfl
 | cons x r ih=>rw [Bf,Bf,QQ.allB,ih];rfl
def all_ok {α:Type}{f:Fx}{ρ ρ1:Ag}{d:Nat}{g:α->Bool}{xs:List α} (h:f ρ=.ok (.lst (xs.map λ x=>.bl (g x)),d,ρ1)):Al Gz (Ad f Ac) ρ=.ok (.bl (xs.all g),om,ρ1):=by
 refine Dt (BI h) ?_;show (QQ.allB _).map _=_;rw [jy];simp
theorem XA {i:Nat}{body:Fs}{lo:Int} (I:Nat->Ag->Prop):∀ (m k:Nat) (ρ:Ag),I k ρ->(∀ j ρ,k<=j->j < k + m->I j ρ->i < ρ.length/\∃ ρ2,body (ρ.set i (some (.int (lo + (j:Int)),om)))=.nx ρ2/\I (j + 1) ρ2) ->
  ∃ ρ',Ej (Aj i) body ((KC k m).map λ (k:Nat)=>PV.int (lo + (k:Int))) ρ=.nx ρ'/\I (k + m) ρ'
 | 0,k,ρ,hi,_=>⟨ρ,rfl,hi⟩
 | m + 1,k,ρ,hi,hb=>by
  obtain ⟨h1,ρ2,e2,h2⟩:=hb k ρ (AW _) (by omega) hi;obtain ⟨ρ',e',h'⟩:=XA (i:=i) (body:=body) (lo:=lo) I m (k + 1) ρ2 h2 λ j ρ a b=>hb j ρ (by omega) (by omega);refine ⟨ρ',?_,by rw [show k + (m + 1)=k + 1 + m by omega];exact h'⟩;rw [Yp,Bf];unfold Ej
  have:Aj i (PV.int (lo + (k:Int))) ρ=some (ρ.set i (some (.int (lo + (k:Int)),om))):=by
   unfold Aj;rw [if_pos h1];rfl
  rw [this];dsimp only;rw [e2];exact e'
def Gq {i:Nat}{body:Fs}{en:List (PV×Nat)->Option (Int×Int)}{fa:Fa}{ρ ρ1:Ag}{as:List (PV×Nat)}{lo hi:Int} (I:Nat->Ag->Prop) (hf:fa ρ=.ok (as,ρ1)) (hen:en as=some (lo,hi)) (h0:I 0 ρ1)
  (hb:∀ j ρ,j < (hi - lo).toNat->I j ρ->i < ρ.length/\∃ ρ2,body (ρ.set i (some (.int (lo + (j:Int)),om)))=.nx ρ2/\I (j + 1) ρ2):∃ ρ',CD en fa (Aj i) body ρ=.nx ρ'/\I (hi - lo).toNat ρ':=by
 obtain ⟨ρ',e,h⟩:=XA (i:=i) (body:=body) (lo:=lo) I (hi - lo).toNat 0 ρ1 h0 λ j ρ _ h hi=>hb j ρ (by omega) hi;refine ⟨ρ',?_,by rw [DS] at h;exact h⟩;unfold CD;rw [hf];dsimp only;rw [hen];dsimp only;rw [Qe,List.range_eq_range'];exact e
def D8 {j:Int}{d:Nat} (h1:-(2 ^ 62)<=j) (h2:j < 2 ^ 62):AJ [(.int j,d)]=some (0,j):=by
 show (if -(2 ^ 62)<=j/\j < 2 ^ 62 then some ((0:Int),j) else none)=_;rw [if_pos ⟨h1,h2⟩]
def kl {i j:Int}{d e:Nat} (h1:-(2 ^ 62)<=i) (h2:i < 2 ^ 62) (h3:-(2 ^ 62)<=j) (h4:j < 2 ^ 62):FO [(.int i,d),(.int j,e)]=some (i,j):=by
 show (if -(2 ^ 62)<=i/\i < 2 ^ 62/\-(2 ^ 62)<=j/\j < 2 ^ 62 then some (i,j) else none)=_;rw [if_pos ⟨h1,h2,h3,h4⟩]
def CC {np k:Nat}{b:Fs}{xs:List PV}{ρ':Ag}{y:PV}{d:Nat} (hl:xs.length=np) (h:b (xs.map (λ x=>some (x,dv x))++Bg k none)=.rt y d ρ'):Ay false np k b xs=.ok (y,d,.non):=by
 unfold Ay;rw [if_pos ⟨hl,rfl⟩,h]
def UG {np k:Nat}{b:Fs}{xs:List PV}{ρ':Ag} (hl:xs.length=np) (h:b (xs.map (λ x=>some (x,dv x))++Bg k none)=.nx ρ'):Ay false np k b xs=.ok (.non,om,.non):=by
 unfold Ay;rw [if_pos ⟨hl,rfl⟩,h]
def Xf_is_whole_number:Fs:=(Ap (BH (Ao (AK "int") (Aa 0)) (Ao BU (Ao (AK "bool") (Aa 0)))))
def f_is_whole_number:Fn:=Ay false 1 0 Xf_is_whole_number
def Xf_is_box:Fs:=(Af (AG (bT (AI (Ao BU (Ao (AK "tuple") (Aa 0))) (Ab (Am true) (Al Bj (Ad (Aa 0) (Ac))) (bC (.int 3))))) (Ap (bC (.bl false))) Aq)
 (Ap (Al Gz (Ad (AO (Aa 0) 1 (Aj 1) AA (BH (Au f_is_whole_number (Ad (Aa 1) (Ac))) (Ab (C1 λ i j=>decide (j<=i)) (Aa 1) (bC (.int 1))))) (Ac)))))
def f_is_box:Fn:=Ay false 1 0 Xf_is_box
def Xf_must_be_box:Fs:=(AG (bT (Ao BU (Au f_is_box (Ad (Aa 0) (Ac))))) IA Aq)
def f_must_be_box:Fn:=Ay false 1 0 Xf_must_be_box
def Xf_is_row_of_heights:Fs:=(Af (AG (bT (AI (Ao BU (Ao (AK "list") (Aa 0))) (Ab (Am true) (Al Bj (Ad (Aa 0) (Ac))) (Aa 1)))) (Ap (bC (.bl false))) Aq)
 (Ap (Al Gz (Ad (AO (Aa 0) 1 (Aj 3) AA (BH (Au f_is_whole_number (Ad (Aa 3) (Ac))) (Ii (λ i j=>decide (i<=j)) (λ i j=>decide (i<=j)) (bC (.int 0)) (Aa 3) (Aa 2)))) (Ac)))))
def f_is_row_of_heights:Fn:=Ay false 3 0 Xf_is_row_of_heights
def Xf_never_rises:Fs:=(Ap (Al Gz (Ad (Cj FO (Ad (bC (.int 1)) (Ad (Al Bj (Ad (Aa 0) (Ac))) (Ac))) 1 (Aj 1) AA (Ab (C1 λ i j=>decide (i<=j)) (Ab Ah (Aa 0) (Aa 1)) (Ab Ah (Aa 0) (Ab Ct (Aa 1) (bC (.int 1)))))) (Ac))))
def f_never_rises:Fn:=Ay false 1 0 Xf_never_rises
def Xf_column_of:Fs:=(Ap (AO (Aa 0) 1 (Aj 2) AA (Ab Ah (Aa 2) (Aa 1))))
def f_column_of:Fn:=Ay false 2 0 Xf_column_of
def Xf_is_pile:Fs:=(Af (E3 (Au f_must_be_box (Ad (Aa 0) (Ac))))
 (Af (Cn (AZ [2,3,4]) (Aa 0) [0])
 (Af (AG (bT (AI (Ao BU (Ao (AK "list") (Aa 1))) (Ab (Am true) (Al Bj (Ad (Aa 1) (Ac))) (Aa 2)))) (Ap (bC (.bl false))) Aq)
 (Af (AG (bT (Ao BU (Al Gz (Ad (AO (Aa 1) 1 (Aj 5) AA (Au f_is_row_of_heights (Ad (Aa 5) (Ad (Aa 3) (Ad (Aa 4) (Ac)))))) (Ac))))) (Ap (bC (.bl false))) Aq)
 (Af (AG (bT (Ao BU (Al Gz (Ad (AO (Aa 1) 1 (Aj 5) AA (Au f_never_rises (Ad (Aa 5) (Ac)))) (Ac))))) (Ap (bC (.bl false))) Aq)
 (Ap (Al Gz (Ad (Cj AJ (Ad (Aa 3) (Ac)) 1 (Aj 5) AA (Au f_never_rises (Ad (Au f_column_of (Ad (Aa 1) (Ad (Aa 5) (Ac)))) (Ac)))) (Ac)))))))))
def f_is_pile:Fn:=Ay false 2 3 Xf_is_pile
def Xf_must_be_pile:Fs:=(AG (bT (Ao BU (Au f_is_pile (Ad (Aa 0) (Ad (Aa 1) (Ac)))))) IA Aq)
def f_must_be_pile:Fn:=Ay false 2 0 Xf_must_be_pile
def Xf_how_many_above:Fs:=(Ap (Al Bj (Ad (AO (Aa 0) 1 (Aj 2) (bT (Ab (C1 λ i j=>decide (j < i)) (Aa 2) (Aa 1))) (Aa 2)) (Ac))))
def f_how_many_above:Fn:=Ay false 2 0 Xf_how_many_above
def Xb_cell_at:Fs:=(Af (AG (bT (Ab (C1 λ i j=>decide (i < j)) (Aa 1) (Al Bj (Ad (Aa 0) (Ac))))) (Ap (Ab Ah (Aa 0) (Aa 1))) Aq)
 (Ap (bC (.int 0))))
def b_cell_at:Fn:=Ay false 2 0 Xb_cell_at
def Xf_mirrored_pile:Fs:=(Af (E3 (Au f_must_be_pile (Ad (Aa 0) (Ad (Aa 1) (Ac)))))
 (Ap (Cj AJ (Ad (Ab Ah (Aa 0) (bC (.int 1))) (Ac)) 1 (Aj 2) AA (Au f_column_of (Ad (Aa 1) (Ad (Aa 2) (Ac)))))))
def f_mirrored_pile:Fn:=Ay false 2 0 Xf_mirrored_pile
def Xf_rolled_pile:Fs:=(Af (E3 (Au f_must_be_pile (Ad (Aa 0) (Ad (Aa 1) (Ac)))))
 (Af (Ai false 2 (Al Bs (Ac)) [])
 (Af (CD AJ (Ad (Ab Ah (Aa 0) (bC (.int 1))) (Ac)) (Aj 3) (Af (Ai false 4 (Au f_column_of (Ad (Aa 1) (Ad (Aa 3) (Ac)))) [1,3])
 (BE 2 (Cj AJ (Ad (Ab Ah (Aa 0) (bC (.int 2))) (Ac)) 1 (Aj 5) AA (Au f_how_many_above (Ad (Aa 4) (Ad (Aa 5) (Ac))))) [4])))
 (FR 2))))
def f_rolled_pile:Fn:=Ay false 2 3 Xf_rolled_pile
def Xc_numbers:Fs:=(Af (Ai false 2 (Al Bs (Ac)) [])
 (Af (Ai false 3 (Aa 0) [0])
 (Af (Ai false 4 (Ab AL (Aa 0) (bC (.int 2147483647))) [0])
 (Af (CD AJ (Ad (Aa 1) (Ac)) (Aj 5) (AG (bT (BH (Ab (C1 λ i j=>decide (j<=i)) (Aa 0) (Ab Og (bC (.int 10)) (bC (.int 18)))) (Ab (C1 λ i j=>decide (j < i)) (Aa 3) (bC (.int 0))))) (Af (BE 2 (Ab AL (Aa 3) (bC (.int 64))) [3])
 (Ai false 3 (Ab C0 (Aa 3) (bC (.int 64))) [3])) (Af (Ai false 4 (Ab AL (Ab Dl (Ab AS (Ab AS (Aa 4) (Ab Dl (bC (.int 7)) (Aa 5))) (bC (.int 3))) (bC (.int 48271))) (bC (.int 2147483647))) [4,5])
 (Af (Ai false 6 (Ab AL (Ab Dl (Ab AL (Ab Dl (Aa 4) (Aa 4)) (bC (.int 2147483629))) (bC (.int 69621))) (bC (.int 2147483587))) [4,4])
 (BE 2 (Ab AL (Ab C0 (Aa 6) (bC (.int 8))) (bC (.int 720720))) [6])))))
 (FR 2)))))
def c_numbers:Fn:=Ay false 2 5 Xc_numbers
def Xc_box:Fs:=(Af (Ai false 1 (Al Cd (Ad (Ab AS (bC (.int 1)) (Ab AL (Ab Ah (Aa 0) (bC (.int 0))) (bC (.int 3)))) (Ad (Ab AS (bC (.int 1)) (Ab AL (Ab Ah (Aa 0) (bC (.int 1))) (bC (.int 3)))) (Ad (Ab AS (bC (.int 1)) (Ab AL (Ab Ah (Aa 0) (bC (.int 2))) (bC (.int 3)))) (Ac))))) [0,0,0])
 (Af (AG (bT (Ab (Am false) (Ab AL (Ab Ah (Aa 0) (bC (.int 3))) (bC (.int 4))) (bC (.int 1)))) (Ai false 1 (Al Cd (Ad (Ab AS (bC (.int 1)) (Ab AL (Ab Ah (Aa 0) (bC (.int 0))) (bC (.int 6)))) (Ad (Ab AS (bC (.int 1)) (Ab AL (Ab Ah (Aa 0) (bC (.int 1))) (bC (.int 6)))) (Ad (Ab AS (bC (.int 1)) (Ab AL (Ab Ah (Aa 0) (bC (.int 2))) (bC (.int 6)))) (Ac))))) [0,0,0]) Aq)
 (Af (AG (bT (Ab (Am false) (Ab AL (Ab Ah (Aa 0) (bC (.int 3))) (bC (.int 4))) (bC (.int 2)))) (Ai false 1 (Al Cd (Ad (Ab Ah (Aa 1) (bC (.int 0))) (Ad (Ab Ah (Aa 1) (bC (.int 0))) (Ad (Ab Ah (Aa 1) (bC (.int 0))) (Ac))))) [1,1,1]) Aq)
 (Af (AG (bT (Ab (Am false) (Ab AL (Ab Ah (Aa 0) (bC (.int 3))) (bC (.int 8))) (bC (.int 3)))) (Ai false 1 (Al Cd (Ad (Ab Ah (Aa 1) (bC (.int 0))) (Ad (Ab Ah (Aa 1) (bC (.int 0))) (Ad (Ab Ah (Aa 1) (bC (.int 2))) (Ac))))) [1,1,1]) Aq)
 (FR 1)))))
def c_box:Fn:=Ay false 1 1 Xc_box
def Xc_pile:Fs:=(Af (Ai false 2 (Al Bs (Ac)) [])
 (Af (CD AJ (Ad (Ab Ah (Aa 0) (bC (.int 0))) (Ac)) (Aj 3) (Af (Ai false 4 (Al Bs (Ac)) [])
 (Af (CD AJ (Ad (Ab Ah (Aa 0) (bC (.int 1))) (Ac)) (Aj 5) (Af (Ai false 6 (Ab Ah (Aa 0) (bC (.int 2))) [0])
 (Af (AG (bT (Ab (C1 λ i j=>decide (j < i)) (Aa 3) (bC (.int 0)))) (Ai false 6 (Ab Ah (Ab Ah (Aa 2) (Ab Ct (Aa 3) (bC (.int 1)))) (Aa 5)) [2,3,5]) Aq)
 (Af (AG (bT (Ab (C1 λ i j=>decide (j < i)) (Aa 5) (bC (.int 0)))) (Ai false 6 (Al EC (Ad (Aa 6) (Ad (Ab Ah (Aa 4) (Ab Ct (Aa 5) (bC (.int 1)))) (Ac)))) [6,4,5]) Aq)
 (Af (Ai false 7 (Ab Ah (Aa 1) (Ab AS (Ab Dl (bC (.int 6)) (Aa 3)) (Aa 5))) [1,3,5])
 (BE 4 (Ab Ah (Al Bs (Ad (Ab AL (Aa 7) (Ab AS (Aa 6) (bC (.int 1)))) (Ad (Al DL (Ad (bC (.int 0)) (Ad (Ab Ct (Aa 6) (Ab C0 (Ab AL (Aa 7) (bC (.int 3))) (bC (.int 2)))) (Ac)))) (Ad (Ab AL (Aa 7) (Ab AS (Aa 6) (bC (.int 1)))) (Ad (Aa 6) (Ac)))))) (Ab AL (Ab Ah (Aa 1) (bC (.int 36))) (bC (.int 4)))) [7,6,6,7,7,6,6,1]))))))
 (BE 2 (Aa 4) [4]))))
 (Af (AG (bT (Ab (Am false) (Ab AL (Ab Ah (Aa 1) (bC (.int 36))) (bC (.int 4))) (bC (.int 3)))) (Af (ED 2 (Ao DC (bC (.int 1))) (AO (Ab Ah (Aa 2) (Ao DC (bC (.int 1)))) 1 (Aj 8) AA (Ab Ct (Aa 8) (Ab AL (Ab Ah (Aa 1) (bC (.int 37))) (Ab AS (Aa 8) (bC (.int 1)))))))
 (ED 2 (Ao DC (bC (.int 1))) (Cj AJ (Ad (Ab Ah (Aa 0) (bC (.int 1))) (Ac)) 1 (Aj 8) AA (Al EC (Ad (CO (Ab Ah (Aa 2) (Ao DC (bC (.int 1)))) none (some (Ab AS (Aa 8) (bC (.int 1))))) (Ac)))))) Aq)
 (FR 2))))
def c_pile:Fn:=Ay false 2 6 Xc_pile
def Xc_cubes:Fs:=(Af (Ai false 1 (Al Bs (Ac)) [])
 (Af (CD AJ (Ad (Al Bj (Ad (Aa 0) (Ac))) (Ac)) (Aj 2) (CD AJ (Ad (Al Bj (Ad (Ab Ah (Aa 0) (Aa 2)) (Ac))) (Ac)) (Aj 3) (Ai false 1 (Ab AS (Aa 1) (Cj AJ (Ad (Ab Ah (Ab Ah (Aa 0) (Aa 2)) (Aa 3)) (Ac)) 1 (Aj 4) AA (Al Cd (Ad (Aa 2) (Ad (Aa 3) (Ad (Aa 4) (Ac))))))) [1,2,3])))
 (FR 1)))
def c_cubes:Fn:=Ay false 1 3 Xc_cubes
def Xc_of_cubes:Fs:=(Af (Ai false 2 (Cj AJ (Ad (Ab Ah (Aa 0) (bC (.int 0))) (Ac)) 1 (Aj 6) AA (Cj AJ (Ad (Ab Ah (Aa 0) (bC (.int 1))) (Ac)) 1 (Aj 7) AA (bC (.int 0)))) [])
 (Af (K7 (Aa 1) [1] (AZ [3,4,5]) (J4 2 (Aa 3) (Aa 4) (Ab AS (Ab Ah (Ab Ah (Aa 2) (Aa 3)) (Aa 4)) (bC (.int 1)))))
 (FR 2)))
def c_of_cubes:Fn:=Ay false 2 4 Xc_of_cubes
def Xc_turned:Fs:=(Af (Ai false 3 (Ab Ah (Al Bs (Ad (Al Bs (Ad (bC (.int 0)) (Ad (bC (.int 1)) (Ad (bC (.int 2)) (Ac))))) (Ad (Al Bs (Ad (bC (.int 1)) (Ad (bC (.int 0)) (Ad (bC (.int 2)) (Ac))))) (Ad (Al Bs (Ad (bC (.int 1)) (Ad (bC (.int 2)) (Ad (bC (.int 0)) (Ac))))) (Ad (Al Bs (Ad (bC (.int 2)) (Ad (bC (.int 1)) (Ad (bC (.int 0)) (Ac))))) (Ad (Al Bs (Ad (bC (.int 2)) (Ad (bC (.int 0)) (Ad (bC (.int 1)) (Ac))))) (Ad (Al Bs (Ad (bC (.int 0)) (Ad (bC (.int 2)) (Ad (bC (.int 1)) (Ac))))) (Ac)))))))) (Aa 2)) [2])
 (Af (Ai false 4 (Al Cd (Ad (Ab Ah (Aa 0) (Ab Ah (Aa 3) (bC (.int 0)))) (Ad (Ab Ah (Aa 0) (Ab Ah (Aa 3) (bC (.int 1)))) (Ad (Ab Ah (Aa 0) (Ab Ah (Aa 3) (bC (.int 2)))) (Ac))))) [0,3,0,3,0,3])
 (Af (Ai false 5 (AO (Au c_cubes (Ad (Aa 1) (Ac))) 1 (Aj 6) AA (Al Cd (Ad (Ab Ah (Aa 6) (Ab Ah (Aa 3) (bC (.int 0)))) (Ad (Ab Ah (Aa 6) (Ab Ah (Aa 3) (bC (.int 1)))) (Ad (Ab Ah (Aa 6) (Ab Ah (Aa 3) (bC (.int 2)))) (Ac)))))) [1,1,3,1,3,1,3])
 (Ap (Al Cd (Ad (Aa 4) (Ad (Au c_of_cubes (Ad (Aa 4) (Ad (Aa 5) (Ac)))) (Ac))))))))
def c_turned:Fn:=Ay false 3 3 Xc_turned
def Xc_rest:Fs:=(Ap (AO (Ao BS (Aa 1)) 1 (Aj 2) AA (AO (Ao BS (Aa 2)) 1 (Aj 3) AA (Ab Ct (Ab Ah (Aa 0) (bC (.int 2))) (Aa 3)))))
def c_rest:Fn:=Ay false 2 0 Xc_rest
def Xc_own:Fs:=(Af (AG (bT (BH (Ab (Am false) (Aa 2) (bC (.int 0))) (Ab (Am false) (Ab Ah (Aa 0) (bC (.int 0))) (Ab Ah (Aa 0) (bC (.int 1)))))) (Af (Ai false 3 (Ab Ah (Au c_turned (Ad (Aa 0) (Ad (Aa 1) (Ad (bC (.int 1)) (Ac))))) (bC (.int 1))) [0,1])
 (Ap (EI .zp (Ad (Aa 1) (Ad (Aa 3) (Ac))) 2 (AZ [7,8]) AA (EI .zp (Ad (Aa 7) (Ad (Aa 8) (Ac))) 2 (AZ [9,10]) AA (Al DL (Ad (Aa 9) (Ad (Aa 10) (Ac)))))))) Aq)
 (Af (AG (bT (BH (Ab (Am false) (Aa 2) (bC (.int 1))) (BH (Ab (Am false) (Ab Ah (Aa 0) (bC (.int 0))) (Ab Ah (Aa 0) (bC (.int 1)))) (Ab (Am false) (Ab Ah (Aa 0) (bC (.int 1))) (Ab Ah (Aa 0) (bC (.int 2))))))) (Af (Ai false 4 (Au c_cubes (Ad (Ab Ah (Au c_turned (Ad (Aa 0) (Ad (Aa 1) (Ad (bC (.int 2)) (Ac))))) (bC (.int 1))) (Ac))) [0,1])
 (Af (Ai false 5 (Au c_cubes (Ad (Ab Ah (Au c_turned (Ad (Aa 0) (Ad (Aa 1) (Ad (bC (.int 4)) (Ac))))) (bC (.int 1))) (Ac))) [0,1])
 (Ap (Au c_of_cubes (Ad (Aa 0) (Ad (AO (Au c_cubes (Ad (Aa 1) (Ac))) 1 (Aj 7) (bT (BH (Ab (BF false) (Aa 7) (Aa 4)) (Ab (BF false) (Aa 7) (Aa 5)))) (Aa 7)) (Ac))))))) Aq)
 (Af (AG (bT (BH (Ab (Am false) (Aa 2) (bC (.int 2))) (Ab (Am false) (Ab AL (Ab Ah (Aa 0) (bC (.int 0))) (bC (.int 2))) (bC (.int 0))))) (Af (Ai false 6 (AO (CO (Aa 1) none (some (Ab C0 (Ab Ah (Aa 0) (bC (.int 0))) (bC (.int 2))))) 1 (Aj 7) AA (AO (Aa 7) 1 (Aj 8) AA (Al DL (Ad (Aa 8) (Ad (Ab Ct (Ab Ah (Aa 0) (bC (.int 2))) (Ab C0 (Ab Ah (Aa 0) (bC (.int 2))) (bC (.int 2)))) (Ac)))))) [1,1,1,0,0])
 (Ap (Ab AS (Aa 6) (Au c_rest (Ad (Aa 0) (Ad (Aa 6) (Ac))))))) Aq)
 (Af (AG (bT (BH (Ab (Am false) (Aa 2) (bC (.int 3))) (Ab (Am false) (Ab AL (Ab Ah (Aa 0) (bC (.int 1))) (bC (.int 2))) (bC (.int 0))))) (Af (Ai false 6 (AO (Aa 1) 1 (Aj 7) AA (AO (CO (Aa 7) none (some (Ab C0 (Ab Ah (Aa 0) (bC (.int 1))) (bC (.int 2))))) 1 (Aj 8) AA (Al DL (Ad (Aa 8) (Ad (Ab Ct (Ab Ah (Aa 0) (bC (.int 2))) (Ab C0 (Ab Ah (Aa 0) (bC (.int 2))) (bC (.int 2)))) (Ac)))))) [1,1,1,0,0])
 (Ap (EI .zp (Ad (Aa 6) (Ad (Ao BS (Aa 6)) (Ac))) 2 (AZ [7,8]) AA (Ab AS (Aa 7) (AO (Ao BS (Aa 8)) 1 (Aj 9) AA (Ab Ct (Ab Ah (Aa 0) (bC (.int 2))) (Aa 9))))))) Aq)
 (Af (AG (bT (Ab (Am false) (Aa 2) (bC (.int 4)))) (Ap (AO (Aa 1) 1 (Aj 7) AA (AO (Aa 7) 1 (Aj 8) AA (Ab C0 (Ab Ah (Aa 0) (bC (.int 2))) (bC (.int 2)))))) Aq)
 (FR 1))))))
def c_own:Fn:=Ay false 3 4 Xc_own
def sz:(1000000:Nat)<=A2:=by decide
def kH (i:Int):f_is_whole_number [.int i]=.ok (.bl true,om,.non):=by kernel_rfl
def HJ (a b c:Int):Bool:=decide (1<=a) && (decide (1<=b) && decide (1<=c))
def vC (a b c:Int):f_is_box [bx a b c]=.ok (.bl (HJ a b c),om,.non):=by
 have e0:∀ x∈[a,b,c],(BH (Au f_is_whole_number (Ad (Aa 1) (Ac))) (Ab (C1 λ i j=>decide (j<=i)) (Aa 1) (bC (.int 1)))) ([some (bx a b c,0)]++[some (.int x,om)])=.ok (.bl (decide (1<=x)),om,[some (bx a b c,0)]++[some (.int x,om)]):=λ x _=>by kernel_rfl
 have e1:=jH (n:=1) (f:=Aa 0) (ρ:=[some (bx a b c,0)]) (enc:=PV.int) (q:=λ x=>.bl (decide (1<=x))) (d:=0) [a,b,c] rfl rfl e0 (by have:=sz;show 3<=A2;omega);refine CC rfl (ρ':=[some (bx a b c,0)]) ?_;show Xf_is_box [some (bx a b c,0)]=_;refine (J5 (ρ1:=[some (bx a b c,0)]) (by kernel_rfl)).trans (CY ?_);rw [all_ok e1];show Rz.ok (PV.bl (decide (1<=a) && (decide (1<=b) && (decide (1<=c) && true))),om,_)=_;rw [HA];rfl
def wx {a b c:Int} (h:HJ a b c=true):f_must_be_box [bx a b c]=.ok (.non,om,.non):=by
 refine UG rfl (ρ':=[some (bx a b c,0)]) ?_;have hb:=vC a b c;rw [h] at hb;exact BP (f:=IA) (g:=Aq) (Bk (Ji (BA (F:=f_is_box) (fa:=Ad (Aa 0) Ac) (ρ:=[some (bx a b c,0)]) (xs:=[(bx a b c,0)]) rfl hb)))
def DP (xs:List Int) (c h:Int):Bool:=decide ((xs.length:Int)=c) && xs.all λ x=>decide (0<=x) && decide (x<=h)
def x5 (xs:List Int) (c h:Int) (hl:xs.length<=1000):f_is_row_of_heights [il xs,.int c,.int h]=.ok (.bl (DP xs c h),om,.non):=by
 have e0:∀ x∈xs,(BH (Au f_is_whole_number (Ad (Aa 3) (Ac))) (Ii (λ i j=>decide (i<=j)) (λ i j=>decide (i<=j)) (bC (.int 0)) (Aa 3) (Aa 2))) ([some (il xs,0),some (.int c,om),some (.int h,om)]++[some (.int x,om)])=.ok (.bl (decide (0<=x) && decide (x<=h)),om,[some (il xs,0),some (.int c,om),some (.int h,om)]++[some (.int x,om)]):=λ x _=>
  GD (a:=true) (BA (xs:=[(.int x,om)]) rfl (kH x)) (λ _=>jC (i:=0) (j:=x) (k:=h) rfl rfl rfl) rfl
 have e1:=DJ (n:=3) (f:=Aa 0) (ρ:=[some (il xs,0),some (.int c,om),some (.int h,om)]) (enc:=PV.int) (q:=λ x=>.bl (decide (0<=x) && decide (x<=h))) (d:=0) xs rfl rfl e0 (by have:=sz;omega);have t:bT (AI (Ao BU (Ao (AK "list") (Aa 0))) (Ab (Am true) (Al Bj (Ad (Aa 0) (Ac))) (Aa 1))) [some (il xs,0),some (.int c,om),some (.int h,om)]=.ok (!decide ((xs.length:Int)=c),[some (il xs,0),some (.int c,om),some (.int h,om)]):=by
  refine Bk (d:=om) ((UQ (a:=false) rfl (λ _=>Gy (O7 (xs:=xs) (d:=0) rfl) (j:=c) rfl) rfl).trans ?_);rw [SJ,Bool.true_xor]
 refine CC rfl (ρ':=[some (il xs,0),some (.int c,om),some (.int h,om)]) ?_;show Xf_is_row_of_heights [some (il xs,0),some (.int c,om),some (.int h,om)]=_;unfold DP;by_cases hc:(xs.length:Int)=c
 ·rw [decide_eq_true hc] at t ⊢;refine (J5 t).trans (CY ?_);rw [all_ok e1];rfl
 ·rw [decide_eq_false hc] at t ⊢;exact Kh ((Cq t).trans rfl)
def Fv (xs:List Int):Bool:=(An ((xs.length:Int) - 1).toNat).all λ k=>decide (xs.getD (k + 1) 0<=xs.getD k 0)
def XE (xs:List Int) (hl:xs.length<=1000):f_never_rises [il xs]=.ok (.bl (Fv xs),om,.non):=by
 have e0:∀ k,k < ((xs.length:Int) - 1).toNat->(Ab (C1 λ i j=>decide (i<=j)) (Ab Ah (Aa 0) (Aa 1)) (Ab Ah (Aa 0) (Ab Ct (Aa 1) (bC (.int 1))))) ([some (il xs,0)]++[some (.int (1 + (k:Int)),om)])=.ok (.bl (decide (xs.getD (k + 1) 0<=xs.getD k 0)),om,[some (il xs,0)]++[some (.int (1 + (k:Int)),om)]):=λ k hk=>by
  refine qw (i:=xs.getD (k + 1) 0) (j:=xs.getD k 0) (GF (xs:=xs) (k:=1 + (k:Int)) rfl rfl (Eg (by omega) ?_)) (GF (xs:=xs) (k:=1 + (k:Int) - 1) rfl rfl (Eg (by omega) ?_))
  ·rw [show (1 + (k:Int)).toNat=k + 1 by omega,BC (show k + 1 < xs.length by omega),AH,BC (show k + 1 < xs.length by omega)];rfl
  ·rw [show (1 + (k:Int) - 1).toNat=k by omega,BC (show k < xs.length by omega),AH,BC (show k < xs.length by omega)];rfl
 have e1:=HX (n:=1) (en:=FO) (ρ:=[some (il xs,0)]) (q:=λ k=>.bl (decide (xs.getD (k + 1) 0<=xs.getD k 0))) (CP (f:=bC (.int 1)) (d:=om) (x:=.int 1) rfl (BI (O7 (fa:=Ad (Aa 0) Ac) (xs:=xs) (d:=0) rfl))) (kl (by decide) (by decide) (by omega) (by omega)) rfl e0 (by have:=sz;omega);exact CC rfl (ρ':=[some (il xs,0)]) (CY (all_ok e1))
def Cu (t:List (List Int)) (j:Nat):List Int:=t.map λ r=>r.getD j 0
def DY {xs:List Int}{j:Nat} (h:j < xs.length):xs[j]?=some (xs.getD j 0):=by
 rw [AH,BC h];rfl
def Gw {xs:List (List Int)}{j:Nat} (h:j < xs.length):xs[j]?=some (xs.getD j []):=by
 rw [AH,BC h];rfl
def Po (t:List (List Int)) (j:Nat) (hl:t.length<=1000) (hr:∀ r∈t,j < r.length):f_column_of [tb t,.int (j:Int)]=.ok (il (Cu t j),om,.non):=by
 have e0:∀ r∈t,(Ab Ah (Aa 2) (Aa 1)) ([some (tb t,0),some (.int (j:Int),om)]++[some (il r,0)])=.ok (.int (r.getD j 0),om,[some (tb t,0),some (.int (j:Int),om)]++[some (il r,0)]):=λ r hm=>
  GF (xs:=r) (k:=(j:Int)) rfl rfl (Eg (by omega) (DY (hr r hm)))
 have e1:=DJ (n:=2) (f:=Aa 0) (ρ:=[some (tb t,0),some (.int (j:Int),om)]) (enc:=il) (q:=λ r=>.int (r.getD j 0)) (d:=0) t rfl rfl e0 (by have:=sz;omega);refine CC rfl (ρ':=[some (tb t,0),some (.int (j:Int),om)]) ((CY e1).trans ?_);unfold Cu il;rw [BB];rfl
def jw (xs:List Int) (k:Int) (hl:xs.length<=1000):f_how_many_above [il xs,.int k]=.ok (.int ((xs.filter λ x=>decide (k < x)).length:Nat),om,.non):=by
 have e1:=jG (n:=2) (f:=Aa 0) (elt:=Aa 2) (test:=bT (Ab (C1 λ i j=>decide (j < i)) (Aa 2) (Aa 1))) (ρ:=[some (il xs,0),some (.int k,om)]) (enc:=PV.int) (q:=PV.int) (p:=λ x=>decide (k < x)) (d:=0) xs rfl rfl (λ x _=>rfl) (λ x _ _=>rfl) (by have:=sz;omega);exact CC rfl (ρ':=[some (il xs,0),some (.int k,om)]) (CY (O7 (xs:=xs.filter λ x=>decide (k < x)) (BI e1)))
def Tab (a b:Nat) (t:List (List Int)):Prop:=t.length=a/\∀ r∈t,r.length=b
def Mm (a b:Nat) (c:Int) (t:List (List Int)):Bool:=(t.all λ r=>DP r b c) && ((t.all Fv) && ((An b).all λ j=>Fv (Cu t j)))
theorem wb {a b:Nat}{c:Int}{t:List (List Int)} (ht:Tab a b t) (ha:1<=a/\a<=100) (hb:1<=b/\b<=100) (hc:1<=c):f_is_pile [bx a b c,tb t]=.ok (.bl (Mm a b c t),om,.non):=by
 let R0:Ag:=[some (bx a b c,0),some (tb t,0),none,none,none]
 let R1:Ag:=[some (bx a b c,0),some (tb t,0),some (.int a,om),some (.int b,om),some (.int c,om)]
 have hbx:HJ a b c=true:=by unfold HJ;rw [decide_eq_true (by omega),decide_eq_true (by omega),decide_eq_true hc];rfl
 have hs:=sz;have l1:=ht.1;have s1:E3 (Au f_must_be_box (Ad (Aa 0) (Ac))) R0=.nx R0:=Nx (BA (xs:=[(bx a b c,0)]) rfl (wx hbx));have s2:Cn (AZ [2,3,4]) (Aa 0) [0] R0=.nx R1:=by kernel_rfl
 have t3:bT (AI (Ao BU (Ao (AK "list") (Aa 1))) (Ab (Am true) (Al Bj (Ad (Aa 1) (Ac))) (Aa 2))) R1=.ok (false,R1):=by
  refine Bk (d:=om) ((UQ (a:=false) rfl (λ _=>Gy (RE (t:=t) (d:=0) rfl) (j:=(a:Int)) rfl) rfl).trans ?_);rw [l1];simp
 have e4:∀ r∈t,(Au f_is_row_of_heights (Ad (Aa 5) (Ad (Aa 3) (Ad (Aa 4) (Ac))))) (R1++[some (il r,0)])=.ok (.bl (DP r b c),om,R1++[some (il r,0)]):=λ r hr=>
  BA (xs:=[(il r,0),(.int b,om),(.int c,om)]) rfl (x5 r b c (by rw [ht.2 r hr];omega))
 have t4:=Bk (Ji (all_ok (DJ (n:=5) (f:=Aa 1) (ρ:=R1) (enc:=il) (q:=λ r=>.bl (DP r b c)) (d:=0) t rfl rfl e4 (by omega))));have e5:∀ r∈t,(Au f_never_rises (Ad (Aa 5) (Ac))) (R1++[some (il r,0)])=.ok (.bl (Fv r),om,R1++[some (il r,0)]):=λ r hr=>
  BA (xs:=[(il r,0)]) rfl (XE r (by rw [ht.2 r hr];omega))
 have t5:=Bk (Ji (all_ok (DJ (n:=5) (f:=Aa 1) (ρ:=R1) (enc:=il) (q:=λ r=>.bl (Fv r)) (d:=0) t rfl rfl e5 (by omega))));have e6:∀ k,k < ((b:Int) - 0).toNat->(Au f_never_rises (Ad (Au f_column_of (Ad (Aa 1) (Ad (Aa 5) (Ac)))) (Ac))) (R1++[some (.int (0 + (k:Int)),om)])=.ok (.bl (Fv (Cu t k)),om,R1++[some (.int (0 + (k:Int)),om)]):=λ k hk=>by
  have e:=Po t k (by omega) λ r hr=>by rw [ht.2 r hr];omega
  rw [E8];exact BA (xs:=[(il (Cu t k),om)]) (BI (BA (xs:=[(tb t,0),(.int (k:Int),om)]) rfl e)) (XE _ (by unfold Cu;rw [Ax];omega))
 have e7:=HX (n:=5) (en:=AJ) (fa:=Ad (Aa 3) Ac) (ρ:=R1) (q:=λ k=>.bl (Fv (Cu t k))) (as:=[(.int (b:Int),om)]) rfl (D8 (by omega) (by omega)) rfl e6 (by omega);rw [show ((b:Int) - 0).toNat=b by omega] at e7;refine CC rfl (ρ':=R1) ?_;show Xf_is_pile R0=_;unfold Mm;refine (AF s1).trans ((AF s2).trans ((J5 t3).trans ?_));cases h1:t.all λ r=>DP r b c with
 | false=>
  rw [h1] at t4;exact Kh ((Cq t4).trans rfl)
 | true=>
  rw [h1] at t4;refine (J5 t4).trans ?_;cases h2:t.all Fv with
  | false=>
   have h2':t.all (λ r=>Fv r)=false:=h2;rw [h2'] at t5;exact Kh ((Cq t5).trans rfl)
  | true=>
   have h2':t.all (λ r=>Fv r)=true:=h2;rw [h2'] at t5;exact (J5 t5).trans (CY (all_ok e7))
def Pk {a b:Nat}{c:Int}{t:List (List Int)} (ht:Tab a b t) (ha:1<=a/\a<=100) (hb:1<=b/\b<=100) (hc:1<=c) (h:Mm a b c t=true):f_must_be_pile [bx a b c,tb t]=.ok (.non,om,.non):=by
 refine UG rfl (ρ':=[some (bx a b c,0),some (tb t,0)]) ?_;have hp:=wb ht ha hb hc;rw [h] at hp;exact BP (f:=IA) (g:=Aq) (Bk (Ji (BA (F:=f_is_pile) (fa:=Ad (Aa 0) (Ad (Aa 1) Ac)) (ρ:=[some (bx a b c,0),some (tb t,0)]) (xs:=[(bx a b c,0),(tb t,0)]) rfl hp)))
def Dk (xs:List Int) (k:Int):Int:=((xs.filter λ x=>decide (k < x)).length:Nat)
def RM (t:List (List Int)) (k:Int):List Int:=t.map λ r=>Dk r k
def CW (t:List (List Int)) (c:Nat):List (List Int):=(An c).map λ (k:Nat)=>RM t (k:Int)
def WR (t:List (List Int)) (r:List Int):PV.lst ((t.map il)++[il r])=tb (t++[r]):=by
 unfold tb;rw [ET];rfl
def g (t:List (List Int)) (i j:Nat):Int:=(t.getD i []).getD j 0
structure Pile (a b:Nat) (c:Int) (t:List (List Int)):Prop where
 tab:Tab a b t
 lo:∀ i j,i < a->j < b->0<=g t i j
 hi:∀ i j,i < a->j < b->g t i j<=c
 dn:∀ i j,i + 1 < a->j < b->g t (i + 1) j<=g t i j
 rt:∀ i j,i < a->j + 1 < b->g t i (j + 1)<=g t i j
def Sf {t:List (List Int)}{i:Nat} (h:i < t.length):t.getD i []∈t:=by
 rw [AH,BC h];exact Fy h
def Tab.row {a b:Nat}{t:List (List Int)} (h:Tab a b t) {i:Nat} (hi:i < a):(t.getD i []).length=b:=h.2 _ (Sf (by rw [h.1];exact hi))
def Ng {xs:List Int}{i:Nat} (h:i < xs.length):xs.getD i 0∈xs:=by
 rw [AH,BC h];exact Fy h
def mem_getD {xs:List Int}{x:Int} (h:x∈xs):∃ i,i < xs.length/\xs.getD i 0=x:=by
 obtain ⟨i,hi,e⟩:=KR h;exact ⟨i,hi,by rw [AH,BC hi];exact e⟩
def Uq {t:List (List Int)}{r:List Int} (h:r∈t):∃ i,i < t.length/\t.getD i []=r:=by
 obtain ⟨i,hi,e⟩:=KR h;exact ⟨i,hi,by rw [AH,BC hi];exact e⟩
def Kp {xs ys:List Int} (hl:xs.length=ys.length) (h:∀ i,i < xs.length->xs.getD i 0=ys.getD i 0):xs=ys:=by
 refine SQ hl λ i h1 h2=>?_
 have:=h i h1
 rw [AH,BC h1,AH,BC h2] at this;exact this
def FC {a b:Nat}{t u:List (List Int)} (ht:Tab a b t) (hu:Tab a b u) (h:∀ i j,i < a->j < b->g t i j=g u i j):t=u:=by
 refine SQ (by rw [ht.1,hu.1]) λ i h1 h2=>?_;have hi:i < a:=by rw [<- ht.1];exact h1
 have e1:t.getD i []=t[i]:=by rw [AH,BC h1];rfl
 have e2:u.getD i []=u[i]:=by rw [AH,BC h2];rfl
 rw [<- e1,<- e2];refine Kp (by rw [ht.row hi,hu.row hi]) λ j hj=>h i j hi (by rw [<- ht.row hi];exact hj)
def qbr {xs:List Int}{c h:Int}:DP xs c h=true↔(xs.length:Int)=c/\∀ x∈xs,0<=x/\x<=h:=by
 unfold DP;rw [A7,decide_eq_true_iff,jc1];constructor
 ·rintro ⟨h1,h2⟩;refine ⟨h1,λ x hx=>?_⟩
  have:=h2 x hx
  rw [A7,decide_eq_true_iff,decide_eq_true_iff] at this;exact this
 ·rintro ⟨h1,h2⟩;refine ⟨h1,λ x hx=>?_⟩;rw [A7,decide_eq_true_iff,decide_eq_true_iff];exact h2 x hx
def zfj {xs:List Int}:Fv xs=true↔∀ k,k + 1 < xs.length->xs.getD (k + 1) 0<=xs.getD k 0:=by
 unfold Fv;rw [jc1];constructor
 ·intro h k hk;exact of_decide_eq_true (h k (jc6.mpr (by omega)))
 ·intro h k hk
  have:=jc6.mp hk
  exact decide_eq_true (h k (by omega))
def Fe {t:List (List Int)}{i j:Nat} (h:i < t.length):(Cu t j).getD i 0=g t i j:=by
 unfold Cu g;rw [AH,C8,BC h,AH (l:=t),BC h];rfl
def E1 {t:List (List Int)}{j:Nat}:(Cu t j).length=t.length:=by unfold Cu;rw [Ax]
def Qd {a b:Nat}{c:Int}{t:List (List Int)} (ht:Tab a b t):Mm a b c t=true↔Pile a b c t:=by
 unfold Mm;rw [A7,A7,jc1,jc1,jc1];constructor
 ·rintro ⟨h1,h2,h3⟩;have q:∀ i j,i < a->j < b->0<=g t i j/\g t i j<=c:=λ i j hi hj=>(qbr.mp (h1 _ (Sf (by rw [ht.1];exact hi)))).2 _ (Ng (by rw [ht.row hi];exact hj));refine ⟨ht,λ i j hi hj=>(q i j hi hj).1,λ i j hi hj=>(q i j hi hj).2,λ i j hi hj=>?_,λ i j hi hj=>?_⟩
  ·have:=zfj.mp (h3 j (jc6.mpr hj)) i (by rw [E1,ht.1];exact hi)
   rw [Fe (by rw [ht.1];exact hi),Fe (by rw [ht.1];omega)] at this;exact this
  ·exact zfj.mp (h2 _ (Sf (by rw [ht.1];exact hi))) j (by rw [ht.row hi];exact hj)
 ·intro p;refine ⟨λ r hr=>qbr.mpr ⟨by rw [ht.2 r hr],λ x hx=>?_⟩,λ r hr=>zfj.mpr λ k hk=>?_,λ j hj=>zfj.mpr λ k hk=>?_⟩
  ·obtain ⟨i,hi,rfl⟩:=Uq hr;obtain ⟨j,hj,rfl⟩:=mem_getD hx;have hi':i < a:=by rw [<- ht.1];exact hi
   rw [ht.row hi'] at hj;exact ⟨p.lo i j hi' hj,p.hi i j hi' hj⟩
  ·obtain ⟨i,hi,rfl⟩:=Uq hr;have hi':i < a:=by rw [<- ht.1];exact hi
   rw [ht.row hi'] at hk;exact p.rt i k hi' hk
  ·rw [E1,ht.1] at hk;rw [Fe (by rw [ht.1];exact hk),Fe (by rw [ht.1];omega)];exact p.dn k j hk (jc6.mp hj)
def Et (a b:Nat) (f:Nat->Nat->Int):List (List Int):=(An a).map λ i=>(An b).map λ j=>f i j
def Ie {a b:Nat}{f:Nat->Nat->Int}:Tab a b (Et a b f):=by
 refine ⟨by unfold Et;rw [Ax,CQ],λ r hr=>?_⟩;obtain ⟨i,_,rfl⟩:=je7.mp hr;rw [Ax,CQ]
def JZ {b j:Nat}{f:Nat->Int} (hj:j < b):((An b).map f).getD j 0=f j:=by
 rw [AH,C8,Y5 hj];rfl
def LC {a i:Nat}{f:Nat->List Int} (hi:i < a):((An a).map f).getD i []=f i:=by
 rw [AH,C8,Y5 hi];rfl
def Ce {a b i j:Nat}{f:Nat->Nat->Int} (hi:i < a) (hj:j < b):g (Et a b f) i j=f i j:=by
 unfold g Et;rw [LC hi,JZ hj]
def MV {a b c:Nat}{t:List (List Int)} (ht:Tab a b t):Tab c a (CW t c):=by
 refine ⟨by unfold CW;rw [Ax,CQ],λ r hr=>?_⟩;obtain ⟨i,_,rfl⟩:=je7.mp hr;unfold RM;rw [Ax,ht.1]
def FH {a b c k i:Nat}{t:List (List Int)} (ht:Tab a b t) (hk:k < c) (hi:i < a):g (CW t c) k i=Dk (t.getD i []) k:=by
 unfold g CW;rw [LC hk];unfold RM;rw [AH,C8,BC (by rw [ht.1];exact hi),AH,BC (by rw [ht.1];exact hi)];rfl
def Jb {x k:Int}{r:List Int}:Dk (x::r) k=Dk r k + if k < x then 1 else 0:=by
 unfold Dk;by_cases h:k < x
 ·rw [KW (p:=λ x=>decide (k < x)) (decide_eq_true h),Ba,if_pos h];omega
 ·rw [JJ (p:=λ x=>decide (k < x)) (by rw [decide_eq_true_iff];exact h),if_neg h];omega
def Ou (r:List Int) (k:Int):0<=Dk r k:=by unfold Dk;omega
def R7 (r:List Int) (k:Int):Dk r k<=r.length:=by
 unfold Dk
 have:=List.length_filter_le (λ x=>decide (k < x)) r
 omega
def Nr (r:List Int):Prop:=∀ k,k + 1 < r.length->r.getD (k + 1) 0<=r.getD k 0
def Nr.tail {x:Int}{r:List Int} (h:Nr (x::r)):Nr r:=λ k hk=>h (k + 1) (by rw [Ba];omega)
theorem Nr.le {r:List Int} (h:Nr r):∀ {i j:Nat},i<=j->j < r.length->r.getD j 0<=r.getD i 0:=by
 intro i j hij hj;induction j with
 | zero=>
  have:i=0:=by omega
  rw [this];exact Hy _
 | succ j ih=>
  by_cases e:i=j + 1
  ·rw [e];exact Hy _
  ·exact KJ (h j hj) (ih (by omega) (by omega))
theorem WZ {k:Int}:∀ {r:List Int},(∀ x∈r,x<=k)->Dk r k=0
 | [],_=>rfl
 | x::r,h=>by
  rw [Jb,if_neg (by have:=h x A9;omega),WZ λ y hy=>h y (A8 _ hy)];rfl
theorem R5 {k:Int}:∀ {r:List Int},Nr r->∀ {j:Nat},j < r.length->((j:Int) < Dk r k↔k < r.getD j 0)
 | [],_,j,h=>absurd h (by simp)
 | x::r,hn,j,hj=>by
  rw [Jb];by_cases hx:k < x
  ·rw [if_pos hx];cases j with
   | zero=>
    have:=Ou r k
    constructor
    ·intro _;exact hx
    ·intro _;omega
   | succ j=>
    have:=R5 (k:=k) hn.tail (j:=j) (by rw [Ba] at hj;omega)
    show ((j + 1:Nat):Int) < _↔k < r.getD j 0;rw [<- this];omega
  ·rw [if_neg hx,WZ]
   ·have:=hn.le (i:=0) (j:=j) (by omega) hj
    have e:(x::r).getD 0 0=x:=rfl;rw [e] at this;constructor <;> intro h <;> omega
   ·intro y hy;obtain ⟨i,hi,rfl⟩:=mem_getD hy
    have:=hn.le (i:=0) (j:=i + 1) (by omega) (by rw [Ba];omega)
    have e:(x::r).getD 0 0=x:=rfl;have e':(x::r).getD (i + 1) 0=r.getD i 0:=rfl;rw [e,e'] at this;omega
theorem WY {x k:Int}:∀ {r:List Int},Dk (r++[x]) k=Dk r k + if k < x then 1 else 0
 | []=>by rw [JE,Jb]
 | y::r=>by rw [SR,Jb,Jb,WY];omega
def Pile.nr {a b:Nat}{c:Int}{t:List (List Int)} (p:Pile a b c t) {i:Nat} (hi:i < a):Nr (t.getD i []):=λ k hk=>p.rt i k hi (by rw [p.tab.row hi] at hk;exact hk)
def Np {a b c:Nat}{t:List (List Int)} (p:Pile a b c t) {i j k:Nat} (hi:i < a) (hj:j < b) (hk:k < c):(j:Int) < g (CW t c) k i↔(k:Int) < g t i j:=by
 rw [FH p.tab hk hi];exact R5 (p.nr hi) (by rw [p.tab.row hi];exact hj)
def U5 {a b c:Nat}{t:List (List Int)} (p:Pile a b c t):Pile c a b (CW t c):=by
 refine ⟨MV p.tab,λ k i hk hi=>?_,λ k i hk hi=>?_,λ k i hk hi=>?_,λ k i hk hi=>?_⟩
 ·rw [FH p.tab hk hi];exact Ou _ _
 ·rw [FH p.tab hk hi]
  have:=R7 (t.getD i []) k
  rw [p.tab.row hi] at this;exact this
 ·refine jt5.mp λ z=>?_;have h0:0<=g (CW t c) k i:=by rw [FH p.tab (by omega) hi];exact Ou _ _
  have hb:g (CW t c) (k + 1) i<=b:=by
   rw [FH p.tab hk hi]
   have:=R7 (t.getD i []) ((k + 1:Nat):Int)
   rw [p.tab.row hi] at this;exact this
  have h1:=(Np p (j:=(g (CW t c) k i).toNat) hi (by omega) hk).mp (by omega);have h2:=(Np p (j:=(g (CW t c) k i).toNat) (k:=k) hi (by omega) (by omega)).mpr (by omega);omega
 ·refine jt5.mp λ z=>?_;have h0:0<=g (CW t c) k i:=by rw [FH p.tab (by omega) (by omega)];exact Ou _ _
  have hb:g (CW t c) k (i + 1)<=b:=by
   rw [FH p.tab hk hi]
   have:=R7 (t.getD (i + 1) []) k
   rw [p.tab.row hi] at this;exact this
  have h1:=(Np p (j:=(g (CW t c) k i).toNat) (k:=k) hi (by omega) hk).mp (by omega);have h2:=(Np p (j:=(g (CW t c) k i).toNat) (k:=k) (i:=i) (by omega) (by omega) (by omega)).mpr (by have:=p.dn i (g (CW t c) k i).toNat hi (by omega);omega);omega
def CJ (t:List (List Int)) (i j:Nat):List (List Int):=t.set i ((t.getD i []).set j (g t i j + 1))
def MM {α:Type}{xs:List α}{i:Nat}{x d:α} (h:i < xs.length):(xs.set i x).getD i d=x:=by
 rw [AH,D4 h];rfl
def Pz {α:Type}{xs:List α}{i j:Nat}{x d:α} (h:i≠j):(xs.set i x).getD j d=xs.getD j d:=by
 rw [AH,Cw h,AH]
def Xs {a b:Nat}{t:List (List Int)} (ht:Tab a b t) {i j:Nat} (hi:i < a):Tab a b (CJ t i j):=by
 refine ⟨by unfold CJ;rw [DT,ht.1],λ r hr=>?_⟩;rcases OU hr with h | h
 ·exact ht.2 r h
 ·rw [h,DT,ht.row hi]
def kI {a b:Nat}{t:List (List Int)} (ht:Tab a b t) {i j i':Nat} (hi:i < a):(CJ t i j).getD i' []=if i'=i then (t.getD i []).set j ((t.getD i []).getD j 0 + 1) else t.getD i' []:=by
 unfold CJ;by_cases h:i'=i
 ·rw [if_pos h,h,MM (by rw [ht.1];exact hi)];rfl
 ·rw [if_neg h,Pz (λ e=>h e.symm)]
def kf {a b:Nat}{t:List (List Int)} (ht:Tab a b t) {i j i' j':Nat} (hi:i < a) (hj:j < b):g (CJ t i j) i' j'=g t i' j' + if i'=i/\j'=j then 1 else 0:=by
 have e:g (CJ t i j) i' j'=((CJ t i j).getD i' []).getD j' 0:=rfl;rw [e,kI ht hi];by_cases h:i'=i
 ·rw [if_pos h];by_cases h2:j'=j
  ·rw [if_pos ⟨h,h2⟩,h2,MM (by rw [ht.row hi];exact hj),h];rfl
  ·rw [if_neg (λ z=>h2 z.2),Pz (λ e=>h2 e.symm),h];show _=(t.getD i []).getD j' 0 + 0;omega
 ·rw [if_neg h,if_neg (λ z=>h z.1)];show (t.getD i' []).getD j' 0=(t.getD i' []).getD j' 0 + 0;omega
theorem Gu {α:Type}{f:PV->Option Br}{e:α->PV}{q:α->Br} (h:∀ x,f (e x)=some (q x)):∀ xs:List α,A3 f (xs.map e)=some (xs.map q)
 | []=>rfl
 | x::xs=>by rw [Bf,A3,h,Gu h xs];rfl
def RV (n:Nat) (xs:List Int):Be (n + 2) (il xs)=some (.list (xs.map .int)):=by
 show (A3 (Be (n + 1)) (xs.map PV.int)).map PyData.list=_;rw [Gu (q:=PyData.int) (λ x=>rfl)];rfl
def VS (n:Nat) (t:List (List Int)):Be (n + 3) (tb t)=some (.list (t.map λ r=>.list (r.map .int))):=by
 show (A3 (Be (n + 2)) (t.map il)).map PyData.list=_;rw [Gu (λ x=>RV n x)];rfl
theorem PB:∀ xs ys:List Int,Ed (xs.map .int) (ys.map .int)=decide (xs=ys)
 | [],[]=>rfl
 | [],y::ys=>rfl
 | x::xs,[]=>rfl
 | x::xs,y::ys=>by
  rw [Bf,Bf,Ed,PB xs ys];show ((x == y) && _)=_;by_cases h:x=y
  ·subst h;by_cases h2:xs=ys
   ·subst h2;simp
   ·simp [h2]
  ·simp [h]
theorem TN:∀ t u:List (List Int),Ed (t.map λ r=>.list (r.map .int)) (u.map λ r=>.list (r.map .int))=decide (t=u)
 | [],[]=>rfl
 | [],y::ys=>rfl
 | x::xs,[]=>rfl
 | x::xs,y::ys=>by
  rw [Bf,Bf,Ed,TN xs ys,BK,PB];by_cases h:x=y
  ·subst h;by_cases h2:xs=ys
   ·subst h2;simp
   ·simp [h2]
  ·simp [h]
def ZX {neg:Bool}{f h:Fx}{ρ ρ1 ρ2:Ag}{xs ys:List Int}{d e:Nat} (h1:f ρ=.ok (il xs,d,ρ1)) (h2:h ρ1=.ok (il ys,e,ρ2)):Ab (Am neg) f h ρ=.ok (.bl (neg^^decide (xs=ys)),om,ρ2):=by
 refine BV h1 h2 ?_;unfold Am;rw [RV 18,RV 18];show some (PV.bl (neg^^BK _ _),om)=_;rw [BK,PB]
def UC {neg:Bool}{f h:Fx}{ρ ρ1 ρ2:Ag}{t u:List (List Int)}{d e:Nat} (h1:f ρ=.ok (tb t,d,ρ1)) (h2:h ρ1=.ok (tb u,e,ρ2)):Ab (Am neg) f h ρ=.ok (.bl (neg^^decide (t=u)),om,ρ2):=by
 refine BV h1 h2 ?_;unfold Am;rw [VS 17,VS 17];show some (PV.bl (neg^^BK _ _),om)=_;rw [BK,TN]
def xZ {f h:Fx}{ρ ρ1 ρ2:Ag}{xs:List Int}{k x:Int}{d e:Nat} (h1:f ρ=.ok (.scr xs,d,ρ1)) (h2:h ρ1=.ok (.int k,e,ρ2)) (hx:Ci xs k=some x):Ab Ah f h ρ=.ok (.int x,om,ρ2):=by
 refine BV h1 h2 ?_;show (Ci xs k).map _=_;rw [hx];rfl
def xM (ns:List Int) (k:Nat):b_cell_at [.scr ns,.int (k:Int)]=.ok (.int (ns.getD k 0),om,.non):=by
 let R:Ag:=[some (.scr ns,om),some (.int (k:Int),om)]
 have t1:bT (Ab (C1 λ i j=>decide (i < j)) (Aa 1) (Al Bj (Ad (Aa 0) (Ac)))) R=.ok (decide ((k:Int) < (ns.length:Int)),R):=rfl;refine CC rfl (ρ':=R) ?_;by_cases h:(k:Int) < (ns.length:Int)
 ·rw [decide_eq_true h] at t1;exact Kh ((Cq t1).trans (CY (xZ (xs:=ns) (k:=(k:Int)) (d:=om) rfl rfl (Eg (by omega) (DY (by omega))))))
 ·rw [decide_eq_false h] at t1;refine (J5 t1).trans ((CY (d:=om) rfl).trans ?_);rw [AH,IP (by omega)];rfl
def Wy (xs:List Int) (x:Int):PV.lst (xs.map PV.int++[.int x])=il (xs++[x]):=by unfold il;rw [ET];rfl
def WU {α:Type}{xs:List α}{x:α} (h:xs[xs.length - 1]?=some x):Ci xs (-1)=some x:=by
 have hl:=(jb1.mp h).1;unfold Ci CL;rw [if_neg (by decide),if_pos (by omega),show (-1 + (xs.length:Int)).toNat=xs.length - 1 by omega];exact h
def VX {f h:Fx}{ρ ρ1 ρ2:Ag}{xs ys:List PV}{d e:Nat} (h1:f ρ=.ok (.lst xs,d,ρ1)) (h2:h ρ1=.ok (.lst ys,e,ρ2)) (hl:xs.length + ys.length<=A2):Ab AS f h ρ=.ok (.lst (xs++ys),d1 (xs++ys),ρ2):=by
 refine BV h1 h2 ?_;show (if _ then _ else _)=_;rw [if_pos hl]
theorem TR:∀ xs:List Int,Ha (xs.map PV.int)=some xs
 | []=>rfl
 | x::xs=>by rw [Bf,Ha,TR xs];rfl
def qQ {fa:Fa}{ρ ρ1:Ag}{x:Int}{xs:List Int}{d:Nat} (h:fa ρ=.ok ([(il (x::xs),d)],ρ1)):Al EC fa ρ=.ok (.int (BO x xs),om,ρ1):=by
 refine Dt h ?_;show (match Ha ((x::xs).map PV.int) with | some (n::r)=>some (PV.int (BO n r),om) | _=>none)=_;rw [TR]
def Dn (c:Int) (t:List (List Int)) (j:Nat):Int:=if t.length=0 then c else g t (t.length - 1) j
def De (c:Int) (t:List (List Int)) (r:List Int) (j:Nat):Int:=if r.length=0 then Dn c t j else min (Dn c t j) (r.getD (r.length - 1) 0)
def kL {t:List (List Int)}{r:List Int}{i:Nat}:(t++[r]).getD i []=if i < t.length then t.getD i [] else if i=t.length then r else []:=by
 by_cases h:i < t.length
 ·rw [if_pos h,AH,DU h,AH]
 ·rw [if_neg h];by_cases h2:i=t.length
  ·rw [if_pos h2,h2,AH,YD];rfl
  ·rw [if_neg h2,AH,IP (by rw [BL,IQ];omega)];rfl
def Nn {r:List Int}{x:Int}{i:Nat}:(r++[x]).getD i 0=if i < r.length then r.getD i 0 else if i=r.length then x else 0:=by
 by_cases h:i < r.length
 ·rw [if_pos h,AH,DU h,AH]
 ·rw [if_neg h];by_cases h2:i=r.length
  ·rw [if_pos h2,h2,AH,YD];rfl
  ·rw [if_neg h2,AH,IP (by rw [BL,IQ];omega)];rfl
def Pile.snoc {k b:Nat}{c:Int}{t:List (List Int)}{r:List Int} (p:Pile k b c t) (hr:r.length=b) (h:∀ y,y < b->0<=r.getD y 0/\r.getD y 0<=Dn c t y) (hn:Nr r):Pile (k + 1) b c (t++[r]):=by
 have l:=p.tab.1;have e:∀ i j,g (t++[r]) i j=if i < k then g t i j else if i=k then r.getD j 0 else 0:=λ i j=>by
  unfold g;rw [kL,l];split
  ·rfl
  ·split <;> rfl
 have u:∀ y,y < b->Dn c t y<=c:=λ y hy=>by
  unfold Dn;split
  ·exact Hy _
  ·exact p.hi _ _ (by omega) hy
 refine ⟨⟨by rw [BL,l];rfl,λ x hx=>?_⟩,λ i j hi hj=>?_,λ i j hi hj=>?_,λ i j hi hj=>?_,λ i j hi hj=>?_⟩
 ·rcases jb2.mp hx with z | z
  ·exact p.tab.2 x z
  ·rw [jc0.mp z,hr]
 ·rw [e];by_cases z:i < k
  ·rw [if_pos z];exact p.lo i j z hj
  ·rw [if_neg z,if_pos (by omega)];exact (h j hj).1
 ·rw [e];by_cases z:i < k
  ·rw [if_pos z];exact p.hi i j z hj
  ·rw [if_neg z,if_pos (by omega)];exact KJ (h j hj).2 (u j hj)
 ·rw [e,e];by_cases z:i + 1 < k
  ·rw [if_pos z,if_pos (by omega)];exact p.dn i j z hj
  ·rw [if_neg z,if_pos (by omega),if_pos (by omega)]
   have:=(h j hj).2
   unfold Dn at this;rw [if_neg (by omega),l,show k - 1=i by omega] at this;exact this
 ·rw [e,e];by_cases z:i < k
  ·rw [if_pos z,if_pos z];exact p.rt i j z hj
  ·rw [if_neg z,if_neg z,if_pos (by omega),if_pos (by omega)];exact hn j (by rw [hr];exact hj)
theorem XH:∀ xs:List Int,ID (xs.map PV.int)=true
 | []=>rfl
 | x::xs=>by rw [Bf,ID,XH xs];rfl
def Lw (xs:List Int):d1 (xs.map PV.int)=om:=by unfold d1;rw [XH];rfl
def zj {f:Fx}{ρ ρ1:Ag}{xs:List Int}{d:Nat} (h:f ρ=.ok (il xs,d,ρ1)):Al EB (Ad f Ac) ρ=.ok (il xs,om,ρ1):=by
 refine Dt (BI h) ?_;show some (PV.lst (xs.map PV.int),d1 (xs.map PV.int))=_;rw [Lw];rfl
def jh {t:List (List Int)}{i j:Nat}{v:Int} (hi:i < t.length) (hj:j < (t.getD i []).length):ES (tb t) (i:Int) (j:Int) (.int v)=some (tb (t.set i ((t.getD i []).set j v))):=by
 unfold ES tb;dsimp only;have e1:CL (t.map il).length (i:Int)=some i:=by
  unfold CL;rw [Ax,if_pos (by omega),if_pos (by omega)];rfl
 have e2:(t.map il)[i]?=some (.lst ((t.getD i []).map PV.int)):=by
  rw [C8,Gw hi];rfl
 have e3:CL ((t.getD i []).map PV.int).length (j:Int)=some j:=by
  unfold CL;rw [Ax,if_pos (by omega),if_pos (by omega)];rfl
 rw [e1];dsimp only;rw [e2];dsimp only;rw [e3];dsimp only;rw [KH];unfold il;rw [KH]
def Sl {f h k:Fx}{ρ ρ1 ρ2 ρ3:Ag}{t:List (List Int)}{a b i j:Nat}{d e e':Nat} (ht:Tab a b t) (h1:f ρ=.ok (tb t,d,ρ1)) (h2:h ρ1=.ok (.int (i:Int),e,ρ2)) (h3:k ρ2=.ok (.int (j:Int),e',ρ3)) (hi:i < a) (hj:j < b):Ab Ah (Ab Ah f h) k ρ=.ok (.int (g t i j),om,ρ3):=
 GF (xs:=t.getD i []) (k:=(j:Int)) (Ly (t:=t) (k:=(i:Int)) h1 h2 (Eg (by omega) (Gw (by rw [EV,ht.1];exact hi)))) h3 (Eg (by omega) (DY (by rw [EV,ht.row hi];exact hj)))
theorem Uo {asg:PV->Ag->Option Ag}{body:Fs}:∀ (els:List PV) (I:Nat->Ag->Prop) (ρ:Ag),I 0 ρ->(∀ j x ρ,els[j]?=some x->I j ρ->∃ ρ1 ρ2,asg x ρ=some ρ1/\body ρ1=.nx ρ2/\I (j + 1) ρ2)->∃ ρ',Ej asg body els ρ=.nx ρ'/\I els.length ρ'
 | [],I,ρ,h,_=>⟨ρ,rfl,h⟩
 | x::xs,I,ρ,h,hb=>by
  obtain ⟨ρ1,ρ2,e1,e2,h2⟩:=hb 0 x ρ rfl h;obtain ⟨ρ',e',h'⟩:=Uo xs (λ j=>I (j + 1)) ρ2 h2 λ j y ρ hy hi=>hb (j + 1) y ρ (by simpa using hy) hi;refine ⟨ρ',?_,h'⟩;unfold Ej;rw [e1];dsimp only;rw [e2];exact e'
def kn {f:Fx}{vs:List Nat}{asg:PV->Ag->Option Ag}{body:Fs}{ρ ρ1 ρ2:Ag}{els:List PV}{d:Nat} (I:Nat->Ag->Prop) (hf:f ρ=.ok (.lst els,d,ρ1)) (ec:CF d vs ρ1=ρ2) (h0:I 0 ρ2)
  (hb:∀ j x ρ,els[j]?=some x->I j ρ->∃ ρ1 ρ2,asg x ρ=some ρ1/\body ρ1=.nx ρ2/\I (j + 1) ρ2):∃ ρ',K7 f vs asg body ρ=.nx ρ'/\I els.length ρ':=by
 obtain ⟨ρ',e,h⟩:=Uo els I ρ2 h0 hb;refine ⟨ρ',?_,h⟩;unfold K7;rw [hf];dsimp only;rw [ec];exact e
abbrev C3:=Nat×Nat×Nat
def c3 (x:C3):PV:=.tup [.int (x.1:Int),.int (x.2.1:Int),.int (x.2.2:Int)]
def ct (cs:List C3):PV:=.lst (cs.map c3)
def FK (t:List (List Int)) (i j:Nat):List C3:=(An (g t i j).toNat).map λ k=>(i,j,k)
def Ca (t:List (List Int)) (i b:Nat):List C3:=(An b).flatMap (FK t i)
def AU (t:List (List Int)) (a b:Nat):List C3:=(An a).flatMap λ i=>Ca t i b
def Uv (t:List (List Int)) (i j:Nat):Ca t i (j + 1)=Ca t i j++FK t i j:=by
 unfold Ca;rw [GP,SW];simp
def TF (t:List (List Int)) (i b:Nat):AU t (i + 1) b=AU t i b++Ca t i b:=by
 unfold AU;rw [GP,SW];simp
def vg (t:List (List Int)) (i j:Nat):(FK t i j).length=(g t i j).toNat:=by unfold FK;rw [Ax,CQ]
theorem PZ {a b c:Nat}{t:List (List Int)} (p:Pile a b c t) {i:Nat} (hi:i < a):∀ {j:Nat},j<=b->(Ca t i j).length<=j * c
 | 0,_=>by unfold Ca;simp
 | j + 1,h=>by
  rw [Uv,BL,vg,OF]
  have:=PZ p hi (j:=j) (by omega)
  have:=p.hi i j hi (by omega)
  omega
theorem MZ {a b c:Nat}{t:List (List Int)} (p:Pile a b c t):∀ {i:Nat},i<=a->(AU t i b).length<=i * (b * c)
 | 0,_=>by unfold AU;simp
 | i + 1,h=>by
  rw [TF,BL,OF]
  have:=MZ p (i:=i) (by omega)
  have:=PZ p (i:=i) (by omega) (j:=b) (AW _)
  omega
def VD {a b:Nat}{t:List (List Int)} (ht:Tab a b t) {i:Nat} (hi:i < a):t.getD i []=(An b).map (g t i):=
 Kp (by rw [ht.row hi,Ax,CQ]) λ j hj=>by
  rw [JZ (by rw [<- ht.row hi];exact hj)];rfl
theorem Ud:∀ x y:List C3,Ed (x.map λ z=>PyData.tuple [.int (z.1:Int),.int (z.2.1:Int),.int (z.2.2:Int)]) (y.map λ z=>PyData.tuple [.int (z.1:Int),.int (z.2.1:Int),.int (z.2.2:Int)])=decide (x=y)
 | [],[]=>rfl
 | [],y::ys=>rfl
 | x::xs,[]=>rfl
 | x::xs,y::ys=>by
  rw [Bf,Bf,Ed,Ud xs ys,BK];show (((x.1:Int) == (y.1:Int)) && (((x.2.1:Int) == (y.2.1:Int)) && (((x.2.2:Int) == (y.2.2:Int)) && true)) && _)=_;by_cases h:x=y
  ·subst h;by_cases h2:xs=ys
   ·subst h2;simp
   ·simp [h2]
  ·have:¬ (x.1=y.1/\x.2.1=y.2.1/\x.2.2=y.2.2):=λ ⟨a,b,c⟩=>h (Prod.ext a (Prod.ext b c))
   rw [decide_eq_false (λ z=>h (List.cons.inj z).1)];simp;intro a b c;exact absurd ⟨by omega,by omega,by omega⟩ this
theorem IY {α β:Type}{f h:α->List β}:∀ {l:List α},(∀ x∈l,f x=h x)->l.flatMap f=l.flatMap h
 | [],_=>rfl
 | x::xs,e=>by rw [Yu,Yu,e x A9,IY λ y hy=>e y (A8 _ hy)]
theorem Lk (k:Nat):∀ m:Nat,An (m * k)=(An m).flatMap λ i=>(An k).map λ r=>i * k + r
 | 0=>by rw [Nat.zero_mul];rfl
 | m + 1=>by
  rw [OF,List.range_add,Lk k m,GP,SW];simp
theorem Lg (n:Nat):∀ c:Nat,n<=c->(An c).filter (λ r=>decide (r < n))=An n
 | 0,h=>by rw [show n=0 by omega];rfl
 | c + 1,h=>by
  rw [GP,Y1];by_cases e:n=c + 1
  ·have:(An c).filter (λ r=>decide (r < n))=An c:=jg6.mpr λ r hr=>decide_eq_true (by have:=jc6.mp hr;omega)
   rw [this,e,GP,KW (p:=λ r=>decide (r < c + 1)) (decide_eq_true (by omega))];rfl
  ·rw [Lg n c (by omega),JJ (p:=λ r=>decide (r < n)) (by rw [decide_eq_true_iff];omega)];simp
def A6 (b c n:Nat):C3:=(n / c / b,n / c % b,n % c)
def D7 (t:List (List Int)) (b c n:Nat):List C3:=((An n).filter λ m=>decide (((m % c:Nat):Int) < g t (m / c / b) (m / c % b))).map (A6 b c)
def Lx {a b c:Nat}{t:List (List Int)} (p:Pile a b c t) (hb:0 < b) (hc:0 < c):D7 t b c (a * b * c)=AU t a b:=by
 unfold D7;rw [Lk c (a * b),OQ,Yo];have e:∀ q∈An (a * b),(((An c).map λ r=>q * c + r).filter λ m=>decide (((m % c:Nat):Int) < g t (m / c / b) (m / c % b))).map (A6 b c)=FK t (q / b) (q % b):=λ q hq=>by
  have hq':=jc6.mp hq;have h1:q / b < a:=SX (by rw [E9];exact hq');have h2:q % b < b:=Sz _ hb;have g0:=p.lo (q / b) (q % b) h1 h2;have g1:=p.hi (q / b) (q % b) h1 h2;rw [KO,BB];have e1:(An c).filter ((λ m=>decide (((m % c:Nat):Int) < g t (m / c / b) (m / c % b))) ∘ λ r=>q * c + r)=(An c).filter λ r=>decide (r < (g t (q / b) (q % b)).toNat):=by
   refine EA λ r hr=>?_;have hr':=jc6.mp hr;show decide ((((q * c + r) % c:Nat):Int) < g t ((q * c + r) / c / b) ((q * c + r) / c % b))=_;have d1:(q * c + r) % c=r:=by rw [E9,Mz,M4 hr']
   have d2:(q * c + r) / c=q:=by rw [E9,My hc,M3 hr',Mw]
   rw [d1,d2];by_cases h:(r:Int) < g t (q / b) (q % b)
   ·rw [decide_eq_true h,decide_eq_true (by omega)]
   ·rw [decide_eq_false h,decide_eq_false (by omega)]
  rw [e1,Lg _ c (by omega)];unfold FK;refine DG λ r hr=>?_;have hr':=jc6.mp hr;show A6 b c (q * c + r)=_;unfold A6;have d1:(q * c + r) % c=r:=by rw [E9,Mz,M4 (by omega)]
  have d2:(q * c + r) / c=q:=by rw [E9,My hc,M3 (by omega),Mw]
  rw [d1,d2]
 rw [IY e,Lk b a,Y0];unfold AU;refine IY λ i _=>?_;unfold Ca;rw [Yn];refine IY λ j hj=>?_;have hj':=jc6.mp hj;have d1:(i * b + j) % b=j:=by rw [E9,Mz,M4 hj']
 have d2:(i * b + j) / b=i:=by rw [E9,My hb,M3 hj',Mw]
 rw [d1,d2]
def Bp (t:List (List Int)) (b:Nat):List (List Int):=(An b).map λ j=>Cu t j
def AQ (t:List (List Int)) (b c:Nat):List (List Int):=(An b).map λ j=>(An c).map λ (k:Nat)=>Dk (Cu t j) (k:Int)
def Fl (t:List (List Int)) (c:Int):List (List Int):=t.reverse.map λ r=>r.reverse.map λ h=>c - h
def qR {a b c:Nat}{t:List (List Int)} (p:Pile a b c t) (ha:1<=a/\a<=100) (hb:1<=b/\b<=100) (hc:1<=c):f_mirrored_pile [bx a b c,tb t]=.ok (tb (Bp t b),om,.non):=by
 have z:=sz;have ht:=p.tab;let R:Ag:=[some (bx a b c,0),some (tb t,0)]
 have s1:E3 (Au f_must_be_pile (Ad (Aa 0) (Ad (Aa 1) (Ac)))) R=.nx R:=Nx (BA (xs:=[(bx a b c,0),(tb t,0)]) rfl (Pk ht ha hb (by omega) ((Qd ht).mpr p)));have e1:=HX (n:=2) (en:=AJ) (fa:=Ad (Ab Ah (Aa 0) (bC (.int 1))) (Ac)) (elt:=Au f_column_of (Ad (Aa 1) (Ad (Aa 2) (Ac)))) (ρ:=R) (ρ1:=R) (as:=[(.int (b:Int),om)]) (lo:=0) (hi:=(b:Int)) (q:=λ j=>il (Cu t j)) rfl (D8 (by omega) (by omega)) rfl (λ k hk=>by
  rw [E8];exact BA (xs:=[(tb t,0),(.int (k:Int),om)]) rfl (Po t k (by rw [ht.1];omega) λ r hr=>by rw [ht.2 r hr];omega)) (by omega)
 rw [show ((b:Int) - 0).toNat=b by omega] at e1;have e2:PV.lst ((An b).map λ j=>il (Cu t j))=tb (Bp t b):=by unfold tb Bp;rw [BB];rfl
 rw [e2] at e1;exact CC rfl ((AF s1).trans (CY e1))
def x4 {a b c:Nat}{t:List (List Int)} (p:Pile a b c t) (ha:1<=a/\a<=100) (hb:1<=b/\b<=100) (hc:1<=c/\c<=100):f_rolled_pile [bx a b c,tb t]=.ok (tb (AQ t b c),om,.non):=by
 have z:=sz;have ht:=p.tab;have l1:=ht.1;let R (q:List (List Int)) (s3 s4:QQ.Slot):Ag:=[some (bx a b c,0),some (tb t,0),some (tb q,om),s3,s4]
 have s1:E3 (Au f_must_be_pile (Ad (Aa 0) (Ad (Aa 1) (Ac)))) [some (bx a b c,0),some (tb t,0),none,none,none]=.nx [some (bx a b c,0),some (tb t,0),none,none,none]:=Nx (BA (xs:=[(bx a b c,0),(tb t,0)]) rfl (Pk ht ha hb (by omega) ((Qd ht).mpr p)));have s2:Ai false 2 (Al Bs (Ac)) [] [some (bx a b c,0),some (tb t,0),none,none,none]=.nx (R [] none none):=by kernel_rfl
 have e4:∀ (q:List (List Int)) (j:Nat) (s3:QQ.Slot),Cj AJ (Ad (Ab Ah (Aa 0) (bC (.int 2))) (Ac)) 1 (Aj 5) AA (Au f_how_many_above (Ad (Aa 4) (Ad (Aa 5) (Ac)))) (R q s3 (some (il (Cu t j),om)))=.ok (il ((An c).map λ (k:Nat)=>Dk (Cu t j) (k:Int)),om,R q s3 (some (il (Cu t j),om))):=λ q j s3=>by
  rw [HX (n:=5) (en:=AJ) (fa:=Ad (Ab Ah (Aa 0) (bC (.int 2))) (Ac)) (ρ:=R q s3 (some (il (Cu t j),om))) (ρ1:=R q s3 (some (il (Cu t j),om))) (q:=λ (k:Nat)=>.int (Dk (Cu t j) (k:Int))) (as:=[(.int (c:Int),om)]) (by kernel_rfl) (D8 (by omega) (by omega)) rfl (λ k hk=>by
   rw [E8];exact BA (xs:=[(il (Cu t j),0),(.int (k:Int),om)]) rfl (jw _ _ (by rw [E1];omega))) (by omega),show ((c:Int) - 0).toNat=c by omega]
  unfold il;rw [BB];rfl
 obtain ⟨ρ',e6,s3,s4,rfl⟩:=Gq (i:=3) (body:=Af (Ai false 4 (Au f_column_of (Ad (Aa 1) (Ad (Aa 3) (Ac)))) [1,3]) (BE 2 (Cj AJ (Ad (Ab Ah (Aa 0) (bC (.int 2))) (Ac)) 1 (Aj 5) AA (Au f_how_many_above (Ad (Aa 4) (Ad (Aa 5) (Ac))))) [4])) (en:=AJ) (fa:=Ad (Ab Ah (Aa 0) (bC (.int 1))) (Ac)) (ρ:=R [] none none) (ρ1:=R [] none none) (as:=[(.int (b:Int),om)]) (lo:=0) (hi:=(b:Int))
  (λ k ρ=>∃ s3 s4,ρ=R (AQ t k c) s3 s4) (by kernel_rfl) (D8 (by omega) (by omega)) ⟨none,none,rfl⟩ (by
   rintro j ρ hj ⟨s3,s4,rfl⟩;have u1:Ai false 4 (Au f_column_of (Ad (Aa 1) (Ad (Aa 3) (Ac)))) [1,3] (R (AQ t j c) (some (.int (0 + (j:Int)),om)) s4)=.nx (R (AQ t j c) (some (.int (0 + (j:Int)),om)) (some (il (Cu t j),om))):=by
    rw [E8];exact setF (BA (xs:=[(tb t,0),(.int (j:Int),om)]) rfl (Po t j (by omega) λ r hr=>by rw [ht.2 r hr];omega)) (show 4 < 5 by decide) rfl
   refine ⟨show 3 < 5 by decide,_,(AF u1).trans (Ki (i:=2) (d0:=999) (d:=om) (xs:=(AQ t j c).map il) (xs0:=(AQ t j c).map il) rfl (e4 _ j _) rfl (by decide) (by unfold AQ;rw [Ax,Ax,CQ];omega) rfl),some (.int (0 + (j:Int)),om),some (il (Cu t j),om),?_⟩
   have:PV.lst ((AQ t j c).map il++[il ((An c).map λ (k:Nat)=>Dk (Cu t j) (k:Int))])=tb (AQ t (j + 1) c):=by
    rw [WR];unfold AQ;rw [GP,ET];rfl
   rw [this]
   rfl)
 rw [show ((b:Int) - 0).toNat=b by omega] at e6;exact CC rfl ((AF s1).trans ((AF s2).trans ((AF e6).trans rfl)))
def Oo {α:Type}{f:Fx}{ρ ρ1:Ag}{enc:α->PV}{xs:List α}{d:Nat} (h:f ρ=.ok (.lst (xs.map enc),d,ρ1)):Ao BS f ρ=.ok (.lst (xs.reverse.map enc),d1 (xs.reverse.map enc),ρ1):=by
 refine Vk h ?_;show some (PV.lst (xs.map enc).reverse,d1 (xs.map enc).reverse)=_;rw [List.map_reverse]
def HZ {a b:Nat}{t:List (List Int)} (ht:Tab a b t):Tab b a (Bp t b):=by
 refine ⟨by unfold Bp;rw [Ax,CQ],λ r hr=>?_⟩;obtain ⟨j,_,rfl⟩:=je7.mp hr;rw [E1,ht.1]
def GY {a b:Nat}{t:List (List Int)} (ht:Tab a b t) {i j:Nat} (hi:i < a) (hj:j < b):g (Bp t b) j i=g t i j:=by
 unfold g Bp;rw [LC hj,Fe (by rw [ht.1];exact hi)];rfl
def Kq {a b:Nat}{c:Int}{t:List (List Int)} (p:Pile a b c t):Pile b a c (Bp t b):=by
 refine ⟨HZ p.tab,λ j i hj hi=>?_,λ j i hj hi=>?_,λ j i hj hi=>?_,λ j i hj hi=>?_⟩
 ·rw [GY p.tab hi hj];exact p.lo i j hi hj
 ·rw [GY p.tab hi hj];exact p.hi i j hi hj
 ·rw [GY p.tab hi hj,GY p.tab hi (by omega)];exact p.rt i j hi hj
 ·rw [GY p.tab hi hj,GY p.tab (by omega) hj];exact p.dn i j hi hj
def Ig (t:List (List Int)) (b c:Nat):AQ t b c=Et b c λ j k=>Dk (Cu t j) k:=rfl
def Pile.nrc {a b:Nat}{c:Int}{t:List (List Int)} (p:Pile a b c t) {j:Nat} (hj:j < b):Nr (Cu t j):=λ k hk=>by
 rw [E1,p.tab.1] at hk;rw [Fe (by rw [p.tab.1];exact hk),Fe (by rw [p.tab.1];omega)];exact p.dn k j hk hj
def xy {a b c:Nat}{t:List (List Int)} (p:Pile a b c t) {i j k:Nat} (hi:i < a) (hj:j < b) (hk:k < c):(i:Int) < g (AQ t b c) j k↔(k:Int) < g t i j:=by
 rw [Ig,Ce hj hk,<- Fe (t:=t) (by rw [p.tab.1];exact hi)];exact R5 (p.nrc hj) (by rw [E1,p.tab.1];exact hi)
def Nm {a b c:Nat}{t:List (List Int)} (p:Pile a b c t):Pile b c a (AQ t b c):=by
 have e:=Kq p;have s:=U5 e;have q:AQ t b c=Bp (CW (Bp t b) c) b:=by
  refine FC (by rw [Ig];exact Ie) (HZ s.tab) λ j k hj hk=>?_;rw [Ig,Ce hj hk,GY s.tab hk hj,FH e.tab hk hj];unfold Bp;rw [LC hj]
 rw [q];exact Kq s
theorem Ua {j k:Int}:∀ {xs ys:List Int},xs.length=ys.length->(∀ i,i < xs.length->(j < xs.getD i 0↔k < ys.getD i 0))->Dk xs j=Dk ys k
 | [],[],_,_=>rfl
 | [],y::ys,h,_=>by simp at h
 | x::xs,[],h,_=>by simp at h
 | x::xs,y::ys,h,e=>by
  rw [Jb,Jb,Ua (by simpa using h) λ i hi=>e (i + 1) (by rw [Ba];omega)]
  have:=e 0 (by simp)
  have e1:(x::xs).getD 0 0=x:=rfl;have e2:(y::ys).getD 0 0=y:=rfl;rw [e1,e2] at this;by_cases hx:j < x
  ·rw [if_pos hx,if_pos (this.mp hx)]
  ·rw [if_neg hx,if_neg (λ z=>hx (this.mpr z))]
def W7 {a b c:Nat}{t:List (List Int)} (p:Pile a b c t):AQ (AQ t b c) c a=CW t c:=by
 have r:=Nm p;refine FC (by rw [Ig];exact Ie) (MV p.tab) λ k i hk hi=>?_;rw [Ig (AQ t b c),Ce hk hi,FH p.tab hk hi];refine Ua (by rw [E1,r.tab.1,p.tab.row hi]) λ j hj=>?_;rw [E1,r.tab.1] at hj;rw [Fe (by rw [r.tab.1];exact hj),xy p hi hj hk];exact Iff.rfl
def N2 {α:Type}{xs:List α}{d:α}{i:Nat} (h:i < xs.length):xs.reverse.getD i d=xs.getD (xs.length - 1 - i) d:=by
 rw [AH,List.getElem?_reverse h,AH]
def Ut {a b:Nat}{c:Int}{t:List (List Int)} (ht:Tab a b t):Tab a b (Fl t c):=by
 refine ⟨by unfold Fl;rw [Ax,EW,ht.1],λ r hr=>?_⟩;obtain ⟨q,hq,rfl⟩:=je7.mp hr;rw [Ax,EW,ht.2 q (jl4.mp hq)]
def PR {f:Int->Int}{xs:List Int}{j:Nat} (h:j < xs.length):(xs.map f).getD j 0=f (xs.getD j 0):=by
 rw [AH,C8,DY h];rfl
def vv {f:List Int->List Int}{t:List (List Int)}{j:Nat} (h:j < t.length):(t.map f).getD j []=f (t.getD j []):=by
 rw [AH,C8,Gw h];rfl
def vL {a b:Nat}{c:Int}{t:List (List Int)} (ht:Tab a b t) {i j:Nat} (hi:i < a) (hj:j < b):g (Fl t c) i j=c - g t (a - 1 - i) (b - 1 - j):=by
 unfold g Fl;have hi2:a - 1 - i < a:=by omega
 rw [vv (by rw [EW,ht.1];exact hi),N2 (by rw [ht.1];exact hi),ht.1,PR (by rw [EW,ht.row hi2];exact hj),N2 (by rw [ht.row hi2];exact hj),ht.row hi2]
theorem MR {α:Type}{k:Nat}{asg:PV->Ag->Option Ag}{test:Fb}{elt:Fx}{enc q:α->PV}{E:α->Ag}{e:α->Nat}{p:α->Bool}:∀ (xs:List α) (ρ:Ag) (acc:List (PV×Nat)),(∀ x∈xs,asg (enc x) (ρ++Bg k none)=some (ρ++E x)) ->
  (∀ x∈xs,test (ρ++E x)=.ok (p x,ρ++E x))->(∀ x∈xs,p x=true->elt (ρ++E x)=.ok (q x,e x,ρ++E x))->acc.length + xs.length<=A2->C9 k asg test elt (xs.map enc) ρ acc=.ok (acc++(xs.filter p).map (λ x=>(q x,e x)),ρ)
 | [],ρ,acc,_,_,_,_=>by simp [C9]
 | x::xs,ρ,acc,ha,ht,he,hl=>by
  have ih:=λ acc h=>MR (k:=k) (asg:=asg) (test:=test) (elt:=elt) (p:=p) (q:=q) (e:=e) (enc:=enc) (E:=E) xs ρ acc (λ y hy=>ha y (A8 _ hy)) (λ y hy=>ht y (A8 _ hy)) (λ y hy=>he y (A8 _ hy)) h;have tk:(ρ++E x).take ρ.length=ρ:=by simp
  rw [Ba] at hl;rw [Bf];unfold C9;rw [ha x A9];dsimp only;rw [ht x A9];dsimp only [Rz.bindN];cases hp:p x with
  | false=>rw [if_neg Cp,tk,ih acc (by omega),JJ (by simp [hp])]
  | true=>
   rw [if_pos rfl,he x A9 hp];dsimp only;rw [if_pos (by omega),tk,ih _ (by rw [BL,IQ];omega),KW hp];simp
def Up {α:Type}{q:α->PV}{xs:List α}{ρ:Ag}:CZ ([]++xs.map λ x=>(q x,om)) ρ=.ok (.lst (xs.map q),om,ρ):=by
 rw [JE];unfold CZ;rw [IX,BB];rfl
def R8 {α:Type}{k:Nat}{v:Vw}{fa:Fa}{asg:PV->Ag->Option Ag}{elt:Fx}{enc q:α->PV}{E:α->Ag}{ρ ρ1:Ag}{as:List (PV×Nat)} (xs:List α) (hf:fa ρ=.ok (as,ρ1)) (hv:Jg v (as.map (·.1))=some (xs.map enc)) (ha:∀ x∈xs,asg (enc x) (ρ1++Bg k none)=some (ρ1++E x))
  (he:∀ x∈xs,elt (ρ1++E x)=.ok (q x,om,ρ1++E x)) (hl:xs.length<=A2):EI v fa k asg AA elt ρ=.ok (.lst (xs.map q),om,ρ1):=by
 unfold EI;rw [hf];dsimp only;rw [hv];dsimp only;rw [MR (p:=λ _=>true) (q:=q) (e:=λ _=>om) xs ρ1 [] ha (λ _ _=>rfl) (λ x hx _=>he x hx) (by simpa using hl),jg6.mpr (λ _ _=>rfl)];exact Up
def qy {α:Type}{k:Nat}{f:Fx}{asg:PV->Ag->Option Ag}{test:Fb}{elt:Fx}{enc q:α->PV}{E:α->Ag}{p:α->Bool}{ρ ρ1:Ag}{d:Nat} (xs:List α) (hf:f ρ=.ok (.lst (xs.map enc),d,ρ1)) (ha:∀ x∈xs,asg (enc x) (ρ1++Bg k none)=some (ρ1++E x))
  (ht:∀ x∈xs,test (ρ1++E x)=.ok (p x,ρ1++E x)) (he:∀ x∈xs,p x=true->elt (ρ1++E x)=.ok (q x,om,ρ1++E x)) (hl:xs.length<=A2):AO f k asg test elt ρ=.ok (.lst ((xs.filter p).map q),om,ρ1):=by
 unfold AO;rw [hf];dsimp only;rw [MR (p:=p) (q:=q) (e:=λ _=>om) xs ρ1 [] ha ht he (by simpa using hl)];exact Up
def filter_all {α:Type} (xs:List α):xs.filter (λ _=>true)=xs:=jg6.mpr λ _ _=>rfl
theorem Nq {α β:Type} (f:α->PV) (h:β->PV):∀ (xs:List α) (ys:List β),BX (xs.map f) (ys.map h)=(xs.zip ys).map λ z=>.tup [f z.1,h z.2]
 | [],_=>by simp [BX]
 | _::_,[]=>by simp [BX]
 | x::xs,y::ys=>by
  rw [Bf,Bf,BX,Nq f h xs ys];rfl
def zT (h:Int->Int->Int) (t u:List (List Int)):List (List Int):=(t.zip u).map λ z=>KG h z.1 z.2
def xP {n i:Nat}{t:List (List Int)}{ρ:Ag}{d:Nat} (hf:Aa i ρ=.ok (tb t,d,ρ)) (hn:ρ.length=n) (hl:t.length<=1000):AO (Aa i) 1 (Aj n) AA (Al EB (Ad (Aa n) (Ac))) ρ=.ok (tb t,om,ρ):=
 have z:=sz
 DJ (n:=n) (enc:=il) (q:=il) t hf hn (λ r _=>zj (d:=0) (by
  unfold Aa;rw [EX (by omega),hn,Mx]
  rfl)) (by omega)
def CN:Fs:=(AG (bT (BH (Ab (C1 λ i j=>decide (j<=i)) (Aa 0) (Ab Og (bC (.int 10)) (bC (.int 18)))) (Ab (C1 λ i j=>decide (j < i)) (Aa 3) (bC (.int 0))))) (Af (BE 2 (Ab AL (Aa 3) (bC (.int 64))) [3])
 (Ai false 3 (Ab C0 (Aa 3) (bC (.int 64))) [3])) (Af (Ai false 4 (Ab AL (Ab Dl (Ab AS (Ab AS (Aa 4) (Ab Dl (bC (.int 7)) (Aa 5))) (bC (.int 3))) (bC (.int 48271))) (bC (.int 2147483647))) [4,5])
 (Af (Ai false 6 (Ab AL (Ab Dl (Ab AL (Ab Dl (Aa 4) (Aa 4)) (bC (.int 2147483629))) (bC (.int 69621))) (bC (.int 2147483587))) [4,4])
 (BE 2 (Ab AL (Ab C0 (Aa 6) (bC (.int 8))) (bC (.int 720720))) [6]))))
def xO (c:Int) (m:Nat) (hm:m<=1000):∃ ns:List Int,ns.length=m/\c_numbers [.int c,.int (m:Int)]=.ok (il ns,om,.non):=by
 have z:=sz;let R (xs:List Int) (v w:Int) (s5 s6:QQ.Slot):Ag:=[some (.int c,om),some (.int (m:Int),om),some (il xs,om),some (.int v,om),some (.int w,om),s5,s6]
 let R0 (s2 s3 s4:QQ.Slot):Ag:=[some (.int c,om),some (.int (m:Int),om),s2,s3,s4,none,none]
 have s1:Ai false 2 (Al Bs (Ac)) [] (R0 none none none)=.nx (R0 (some (il [],om)) none none):=by kernel_rfl
 have s2:Ai false 3 (Aa 0) [0] (R0 (some (il [],om)) none none)=.nx (R0 (some (il [],om)) (some (.int c,om)) none):=by kernel_rfl
 have s3:Ai false 4 (Ab AL (Aa 0) (bC (.int 2147483647))) [0] (R0 (some (il [],om)) (some (.int c,om)) none)=.nx (R [] c (c % 2147483647) none none):=setF (DX (i:=c) rfl rfl (by decide)) (show 4 < 7 by decide) rfl;obtain ⟨ρ',e6,xs,v,w,s5,s6,rfl,hl⟩:=Gq (i:=5) (body:=CN) (en:=AJ) (fa:=Ad (Aa 1) (Ac)) (ρ:=R [] c (c % 2147483647) none none) (ρ1:=R [] c (c % 2147483647) none none) (as:=[(.int (m:Int),om)]) (lo:=0) (hi:=(m:Int))
  (λ k ρ=>∃ xs v w s5 s6,ρ=R xs v w s5 s6/\xs.length=k) rfl (D8 (by omega) (by omega)) ⟨[],c,_,none,none,rfl,rfl⟩ (by
   rintro j ρ hj ⟨xs,v,w,s5,s6,rfl,hl⟩;let Q (xs:List Int) (v w:Int) (s6:QQ.Slot):Ag:=R xs v w (some (.int (0 + (j:Int)),om)) s6;have app:∀ {f:Fx}{vs:List Nat}{v w:Int}{s6:QQ.Slot}{x:Int},f (Q xs v w s6)=.ok (.int x,om,Q xs v w s6)->BE 2 f vs (Q xs v w s6)=.nx (Q (xs++[x]) v w s6):=λ {f vs v w s6 x} h=>by
    refine (Ki (i:=2) (d0:=999) (d:=om) (y:=.int x) (e:=om) (xs:=xs.map PV.int) (xs0:=xs.map PV.int) rfl h rfl (by decide) (by rw [Ax];omega) rfl).trans ?_;rw [Wy];rfl
   have tt:bT (BH (Ab (C1 λ i j=>decide (j<=i)) (Aa 0) (Ab Og (bC (.int 10)) (bC (.int 18)))) (Ab (C1 λ i j=>decide (j < i)) (Aa 3) (bC (.int 0)))) (Q xs v w s6)=.ok (decide ((10:Int) ^ 18<=c) && decide (0 < v),Q xs v w s6):=Bk (GD (b:=decide (0 < v)) (a:=decide ((10:Int) ^ 18<=c)) (d:=om) (by kernel_rfl) (λ _=>rfl) rfl);refine ⟨show 5 < 7 by decide,?_⟩;cases hd:decide ((10:Int) ^ 18<=c) && decide (0 < v) with
   | true=>
    rw [hd] at tt;refine ⟨Q (xs++[v % 64]) (v / 64) w s6,(Cq tt).trans ((AF (app (DX (i:=v) rfl rfl (by decide)))).trans (setF (Je (i:=v) rfl rfl (by decide) (by decide)) (show 3 < 7 by decide) rfl)),_,_,_,_,_,rfl,?_⟩;rw [BL,hl];rfl
   | false=>
    rw [hd] at tt;let w':=(w + 7 * (0 + (j:Int)) + 3) * 48271 % 2147483647;have w0:=KN ((w + 7 * (0 + (j:Int)) + 3) * 48271) (show (2147483647:Int)≠0 by decide);have w1:=KQ ((w + 7 * (0 + (j:Int)) + 3) * 48271) (show (0:Int) < 2147483647 by decide);have u1:Ai false 4 (Ab AL (Ab Dl (Ab AS (Ab AS (Aa 4) (Ab Dl (bC (.int 7)) (Aa 5))) (bC (.int 3))) (bC (.int 48271))) (bC (.int 2147483647))) [4,5] (Q xs v w s6)=.nx (Q xs v w' s6):=setF (DX (L4 (FP (FP (i:=w) rfl (L4 (i:=7) (j:=0 + (j:Int)) rfl rfl (.inl (by decide)))) (j:=3) rfl) (j:=48271) rfl (.inr (by decide))) (j:=2147483647) rfl (by decide)) (show 4 < 7 by decide) rfl;let y:=w' * w' % 2147483629 * 69621 % 2147483587;have u2:Ai false 6 (Ab AL (Ab Dl (Ab AL (Ab Dl (Aa 4) (Aa 4)) (bC (.int 2147483629))) (bC (.int 69621))) (bC (.int 2147483587))) [4,4] (Q xs v w' s6)=.nx (Q xs v w' (some (.int y,om))):=setF (DX (L4 (DX (L4 (i:=w') (j:=w') rfl rfl (.inl (by show -(2 ^ 64) < w'/\w' < 2 ^ 64;omega))) (j:=2147483629) rfl (by decide)) (j:=69621) rfl (.inr (by decide))) (j:=2147483587) rfl (by decide)) (show 6 < 7 by decide) rfl;refine ⟨_,(BP tt).trans ((AF u1).trans ((AF u2).trans (app (DX (Je (i:=y) rfl rfl (by decide) (by decide)) (j:=720720) rfl (by decide))))),_,_,_,_,_,rfl,?_⟩;rw [BL,hl];rfl)
 rw [show ((m:Int) - 0).toNat=m by omega] at hl;exact ⟨xs,hl,CC rfl ((AF s1).trans ((AF s2).trans ((AF s3).trans ((AF e6).trans rfl))))⟩
def RZ (x:Int) (m:Nat) (hm:0 < m):∃ n:Nat,1 + x % (m:Int)=(n:Int)/\1<=n/\n<=m:=by
 have h0:=KN x (show (m:Int)≠0 by omega);have h1:=KQ x (show (0:Int) < m by omega);exact ⟨(1 + x % (m:Int)).toNat,by omega,by omega,by omega⟩
def xJ (ys:List Int) (hl:ys.length=4):∃ a b c:Nat,(1<=a/\a<=6)/\(1<=b/\b<=6)/\(1<=c/\c<=6)/\c_box [il ys]=.ok (bx a b c,om,.non):=by
 let R (a b c:Nat):Ag:=[some (il ys,0),some (bx a b c,om)]
 have ix:∀ (k:Nat) (ρ:Ag),k < 4->Aa 0 ρ=.ok (il ys,0,ρ)->Ab Ah (Aa 0) (bC (.int (k:Int))) ρ=.ok (.int (ys.getD k 0),om,ρ):=λ k ρ hk h=>GF (xs:=ys) (k:=(k:Int)) h rfl (Eg (by omega) (DY (by rw [EV];omega)));have tup:∀ (m:Nat) (ρ:Ag),0 < m->m<=6->Aa 0 ρ=.ok (il ys,0,ρ)->∃ a b c:Nat,(1<=a/\a<=6)/\(1<=b/\b<=6)/\(1<=c/\c<=6)/\Al Cd (Ad (Ab AS (bC (.int 1)) (Ab AL (Ab Ah (Aa 0) (bC (.int 0))) (bC (.int (m:Int))))) (Ad (Ab AS (bC (.int 1)) (Ab AL (Ab Ah (Aa 0) (bC (.int 1))) (bC (.int (m:Int))))) (Ad (Ab AS (bC (.int 1)) (Ab AL (Ab Ah (Aa 0) (bC (.int 2))) (bC (.int (m:Int))))) (Ac)))) ρ=.ok (bx a b c,om,ρ):=λ m ρ h0 h6 hρ=>by
  obtain ⟨a,ea,ha⟩:=RZ (ys.getD 0 0) m h0;obtain ⟨b,eb,hb⟩:=RZ (ys.getD 1 0) m h0;obtain ⟨c,ec,hc⟩:=RZ (ys.getD 2 0) m h0;refine ⟨a,b,c,by omega,by omega,by omega,?_⟩;rw [<- ea,<- eb,<- ec];exact Dt (CP (FP (i:=1) (d:=om) rfl (DX (ix 0 ρ (by decide) hρ) rfl (by omega))) (CP (FP (i:=1) (d:=om) rfl (DX (ix 1 ρ (by decide) hρ) rfl (by omega))) (BI (FP (i:=1) (d:=om) rfl (DX (ix 2 ρ (by decide) hρ) rfl (by omega)))))) rfl
 obtain ⟨a,b,c,ha,hb,hc,e1⟩:=tup 3 [some (il ys,0),none] (by decide) (by decide) rfl;have tst:∀ (m r:Int) (ρ:Ag),0 < m->Aa 0 ρ=.ok (il ys,0,ρ)->bT (Ab (Am false) (Ab AL (Ab Ah (Aa 0) (bC (.int 3))) (bC (.int m))) (bC (.int r))) ρ=.ok (decide (ys.getD 3 0 % m=r),ρ):=λ m r ρ hm h=>by
  have:=Bk (Gy (neg:=false) (DX (ix 3 ρ (by decide) h) (g:=bC (.int m)) (j:=m) (e:=om) rfl hm) (g:=bC (.int r)) (j:=r) (e:=om) rfl)
  rw [JD] at this;exact this
 have v1:Ai false 1 (Al Cd (Ad (Ab AS (bC (.int 1)) (Ab AL (Ab Ah (Aa 0) (bC (.int 0))) (bC (.int 3)))) (Ad (Ab AS (bC (.int 1)) (Ab AL (Ab Ah (Aa 0) (bC (.int 1))) (bC (.int 3)))) (Ad (Ab AS (bC (.int 1)) (Ab AL (Ab Ah (Aa 0) (bC (.int 2))) (bC (.int 3)))) (Ac))))) [0,0,0] [some (il ys,0),none]=.nx (R a b c):=setF e1 (show 1 < 2 by decide) rfl;have v2:∃ a' b' c':Nat,(1<=a'/\a'<=6)/\(1<=b'/\b'<=6)/\(1<=c'/\c'<=6)/\(AG (bT (Ab (Am false) (Ab AL (Ab Ah (Aa 0) (bC (.int 3))) (bC (.int 4))) (bC (.int 1)))) (Ai false 1 (Al Cd (Ad (Ab AS (bC (.int 1)) (Ab AL (Ab Ah (Aa 0) (bC (.int 0))) (bC (.int 6)))) (Ad (Ab AS (bC (.int 1)) (Ab AL (Ab Ah (Aa 0) (bC (.int 1))) (bC (.int 6)))) (Ad (Ab AS (bC (.int 1)) (Ab AL (Ab Ah (Aa 0) (bC (.int 2))) (bC (.int 6)))) (Ac))))) [0,0,0]) Aq) (R a b c)=.nx (R a' b' c'):=by
  have tt:=tst 4 1 (R a b c) (by decide) rfl;cases hd:decide (ys.getD 3 0 % 4=1) with
  | true=>
   rw [hd] at tt;obtain ⟨a',b',c',ha',hb',hc',e2⟩:=tup 6 (R a b c) (by decide) (by decide) rfl;exact ⟨a',b',c',ha',hb',hc',(Cq tt).trans (setF e2 (show 1 < 2 by decide) rfl)⟩
  | false=>rw [hd] at tt;exact ⟨a,b,c,ha,hb,hc,(BP tt).trans rfl⟩
 obtain ⟨a1,b1,c1,ha1,hb1,hc1,v2⟩:=v2;have v3:∃ a' b' c':Nat,(1<=a'/\a'<=6)/\(1<=b'/\b'<=6)/\(1<=c'/\c'<=6)/\(AG (bT (Ab (Am false) (Ab AL (Ab Ah (Aa 0) (bC (.int 3))) (bC (.int 4))) (bC (.int 2)))) (Ai false 1 (Al Cd (Ad (Ab Ah (Aa 1) (bC (.int 0))) (Ad (Ab Ah (Aa 1) (bC (.int 0))) (Ad (Ab Ah (Aa 1) (bC (.int 0))) (Ac))))) [1,1,1]) Aq) (R a1 b1 c1)=.nx (R a' b' c'):=by
  have tt:=tst 4 2 (R a1 b1 c1) (by decide) rfl;cases hd:decide (ys.getD 3 0 % 4=2) with
  | true=>rw [hd] at tt;exact ⟨a1,a1,a1,ha1,ha1,ha1,(Cq tt).trans rfl⟩
  | false=>rw [hd] at tt;exact ⟨a1,b1,c1,ha1,hb1,hc1,(BP tt).trans rfl⟩
 obtain ⟨a2,b2,c2,ha2,hb2,hc2,v3⟩:=v3;have v4:∃ a' b' c':Nat,(1<=a'/\a'<=6)/\(1<=b'/\b'<=6)/\(1<=c'/\c'<=6)/\(AG (bT (Ab (Am false) (Ab AL (Ab Ah (Aa 0) (bC (.int 3))) (bC (.int 8))) (bC (.int 3)))) (Ai false 1 (Al Cd (Ad (Ab Ah (Aa 1) (bC (.int 0))) (Ad (Ab Ah (Aa 1) (bC (.int 0))) (Ad (Ab Ah (Aa 1) (bC (.int 2))) (Ac))))) [1,1,1]) Aq) (R a2 b2 c2)=.nx (R a' b' c'):=by
  have tt:=tst 8 3 (R a2 b2 c2) (by decide) rfl;cases hd:decide (ys.getD 3 0 % 8=3) with
  | true=>rw [hd] at tt;exact ⟨a2,a2,c2,ha2,ha2,hc2,(Cq tt).trans rfl⟩
  | false=>rw [hd] at tt;exact ⟨a2,b2,c2,ha2,hb2,hc2,(BP tt).trans rfl⟩
 obtain ⟨a3,b3,c3,ha3,hb3,hc3,v4⟩:=v4;exact ⟨a3,b3,c3,ha3,hb3,hc3,CC rfl ((AF v1).trans ((AF v2).trans ((AF v3).trans ((AF v4).trans rfl))))⟩
def Xu {i:Nat}{fk f:Fx}{ρ ρ1 ρ2 ρ3:Ag}{y:PV}{xs:List PV}{k:Int}{j d d2:Nat} (h:f ρ=.ok (y,om,ρ1)) (h0:ρ1[i]?=some (some (.lst xs,d))) (hk:fk ρ1=.ok (.int k,d2,ρ2)) (h1:ρ2[i]?=some (some (.lst xs,d))) (hj:CL xs.length k=some j) (hd:d≠0) (hy:Hg y=false) (e:ρ2.set i (some (.lst (xs.set j y),1))=ρ3):ED i fk f ρ=.nx ρ3:=by
 unfold ED;rw [h];dsimp only;rw [h0];dsimp only;rw [hk];dsimp only;rw [h1];dsimp only [FY];rw [hj];dsimp only;rw [if_neg (λ z=>by rw [hy] at z;cases z.2),if_pos ⟨hd,rfl,rfl⟩,e]
def CH:Fx:=Ab Ah (Al Bs (Ad (Ab AL (Aa 7) (Ab AS (Aa 6) (bC (.int 1)))) (Ad (Al DL (Ad (bC (.int 0)) (Ad (Ab Ct (Aa 6) (Ab C0 (Ab AL (Aa 7) (bC (.int 3))) (bC (.int 2)))) (Ac)))) (Ad (Ab AL (Aa 7) (Ab AS (Aa 6) (bC (.int 1)))) (Ad (Aa 6) (Ac)))))) (Ab AL (Ab Ah (Aa 1) (bC (.int 36))) (bC (.int 4)))
def CS:Fs:=(Af (Ai false 6 (Ab Ah (Aa 0) (bC (.int 2))) [0])
 (Af (AG (bT (Ab (C1 λ i j=>decide (j < i)) (Aa 3) (bC (.int 0)))) (Ai false 6 (Ab Ah (Ab Ah (Aa 2) (Ab Ct (Aa 3) (bC (.int 1)))) (Aa 5)) [2,3,5]) Aq)
 (Af (AG (bT (Ab (C1 λ i j=>decide (j < i)) (Aa 5) (bC (.int 0)))) (Ai false 6 (Al EC (Ad (Aa 6) (Ad (Ab Ah (Aa 4) (Ab Ct (Aa 5) (bC (.int 1)))) (Ac)))) [6,4,5]) Aq)
 (Af (Ai false 7 (Ab Ah (Aa 1) (Ab AS (Ab Dl (bC (.int 6)) (Aa 3)) (Aa 5))) [1,3,5])
 (BE 4 CH [7,6,6,7,7,6,6,1])))))
def CR:Fs:=(Af (Ai false 4 (Al Bs (Ac)) [])
 (Af (CD AJ (Ad (Ab Ah (Aa 0) (bC (.int 1))) (Ac)) (Aj 5) CS)
 (BE 2 (Aa 4) [4])))
def Pe:Fx:=AO (Ab Ah (Aa 2) (Ao DC (bC (.int 1)))) 1 (Aj 8) AA (Ab Ct (Aa 8) (Ab AL (Ab Ah (Aa 1) (bC (.int 37))) (Ab AS (Aa 8) (bC (.int 1)))))
def Pd:Fx:=Cj AJ (Ad (Ab Ah (Aa 0) (bC (.int 1))) (Ac)) 1 (Aj 8) AA (Al EC (Ad (CO (Ab Ah (Aa 2) (Ao DC (bC (.int 1)))) none (some (Ab AS (Aa 8) (bC (.int 1))))) (Ac)))
def vV:Xc_pile=(Af (Ai false 2 (Al Bs (Ac)) [])
 (Af (CD AJ (Ad (Ab Ah (Aa 0) (bC (.int 0))) (Ac)) (Aj 3) CR)
 (Af (AG (bT (Ab (Am false) (Ab AL (Ab Ah (Aa 1) (bC (.int 36))) (bC (.int 4))) (bC (.int 3)))) (Af (ED 2 (Ao DC (bC (.int 1))) Pe) (ED 2 (Ao DC (bC (.int 1))) Pd)) Aq)
 (FR 2)))):=rfl
def YT {a b c:Nat}{t:List (List Int)}{r:List Int} (p:Pile a b c t) (ha:1<=a) (hr:r.length=b) (hn:Nr r) (h:∀ y,y < b->0<=r.getD y 0/\r.getD y 0<=g t (a - 1) y):Pile a b c (t.set (a - 1) r):=by
 have l:=p.tab.1;have e:∀ x y,x < a->g (t.set (a - 1) r) x y=if x=a - 1 then r.getD y 0 else g t x y:=λ x y hx=>by
  show ((t.set (a - 1) r).getD x []).getD y 0=_;by_cases z:x=a - 1
  ·rw [if_pos z,z,MM (by omega)]
  ·rw [if_neg z,Pz (λ q=>z q.symm)];rfl
 refine ⟨⟨by rw [DT];exact l,λ s hs=>?_⟩,λ x y hx hy=>?_,λ x y hx hy=>?_,λ x y hx hy=>?_,λ x y hx hy=>?_⟩
 ·rcases OU hs with z | z
  ·exact p.tab.2 s z
  ·rw [z];exact hr
 ·rw [e x y hx]
  have:=p.lo x y hx hy
  have:=h y hy
  split <;> omega
 ·rw [e x y hx]
  have:=p.hi x y hx hy
  have:=p.hi (a - 1) y (by omega) hy
  have:=h y hy
  split <;> omega
 ·rw [e (x + 1) y hx,e x y (by omega)];have k:=p.dn x y hx hy
  have:=h y hy
  rw [if_neg (show ¬ x=a - 1 by omega)];split
  ·rename_i z;rw [z] at k;omega
  ·exact k
 ·rw [e x (y + 1) hx,e x y hx]
  have:=p.rt x y hx hy
  split
  ·exact hn y (by rw [hr];exact hy)
  ·omega
def FI (r:List Int) (j:Nat):Int:=BO (r.getD 0 0) ((r.drop 1).take j)
theorem Wt {m:Int}:∀ {xs:List Int}{n:Int},m<=n->(∀ x∈xs,m<=x)->m<=BO n xs
 | [],n,h,_=>h
 | x::xs,n,h,hx=>by
  show m<=BO (if x < n then x else n) xs;refine Wt ?_ λ y hy=>hx y (A8 _ hy)
  have:=hx x A9
  split <;> omega
theorem Pg:∀ {xs:List Int}{n:Int},BO n xs<=n
 | [],n=>Hy _
 | x::xs,n=>by
  show BO (if x < n then x else n) xs<=n;refine KJ (Pg (xs:=xs)) ?_;split <;> omega
theorem minI_le:∀ {xs:List Int}{n:Int}{x:Int},x∈xs->BO n xs<=x
 | y::xs,n,x,h=>by
  show BO (if y < n then y else n) xs<=x;rcases ja9.mp h with rfl | h
  ·refine KJ (Pg (xs:=xs)) ?_;split <;> omega
  ·exact minI_le h
theorem XD:∀ {xs:List Int}{n x:Int},BO n (xs++[x])<=BO n xs
 | [],n,x=>by
  show (if x < n then x else n)<=n;split <;> omega
 | y::xs,n,x=>XD (xs:=xs) (n:=if y < n then y else n)
theorem vJ {r:List Int}{j:Nat} (hj:j < r.length):FI r j<=r.getD j 0:=by
 unfold FI;cases j with
 | zero=>exact Pg
 | succ j=>
  refine minI_le (List.mem_iff_getElem?.mpr ⟨j,?_⟩);rw [SU,if_pos (by omega),Yz,show 1 + j=j + 1 by omega];exact DY hj
def vH {r:List Int}{j:Nat}{m:Int} (h0:0 < r.length) (h:∀ x∈r,m<=x):m<=FI r j:=Wt (h _ (Ng h0)) λ x hx=>h x (List.mem_of_mem_drop (OT hx))
def vG {r:List Int}{j:Nat} (hj:j + 1 < r.length):FI r (j + 1)<=FI r j:=by
 unfold FI
 have:(r.drop 1).take (j + 1)=(r.drop 1).take j++[r.getD (j + 1) 0]:=by
  rw [List.take_add_one,Yz,show 1 + j=j + 1 by omega,DY hj];rfl
 rw [this];exact XD
theorem kB {r:List Int}{j:Nat} (h0:0 < r.length):r.take (j + 1)=r.getD 0 0::(r.drop 1).take j:=by
 cases r with
 | nil=>cases h0
 | cons x r=>rfl
def jI {a b c:Nat} (xs:List Int) (hx:38<=xs.length) (ha:1<=a/\a<=6) (hb:1<=b/\b<=6) (hc:1<=c/\c<=99):∃ t d,Pile a b c t/\d≠0/\c_pile [bx a b c,il xs]=.ok (tb t,d,.non):=by
 have z:=sz;let R (t:List (List Int)) (d2:Nat) (s3 s4 s5 s6 s7:QQ.Slot):Ag:=[some (bx a b c,0),some (il xs,0),some (tb t,d2),s3,s4,s5,s6,s7]
 have ix:∀ (k:Nat) (f:Fx) (ρ:Ag),k < 38->Aa 1 ρ=.ok (il xs,0,ρ)->f ρ=.ok (.int (k:Int),om,ρ)->Ab Ah (Aa 1) f ρ=.ok (.int (xs.getD k 0),om,ρ):=λ k f ρ hk h h2=>GF (xs:=xs) (k:=(k:Int)) h h2 (Eg (by omega) (DY (by rw [EV];omega)));let m:Int:=xs.getD 36 0 % 4;have m0:=KN (xs.getD 36 0) (show (4:Int)≠0 by decide);have m1:=KQ (xs.getD 36 0) (show (0:Int) < 4 by decide);have em:∀ ρ,Aa 1 ρ=.ok (il xs,0,ρ)->Ab AL (Ab Ah (Aa 1) (bC (.int 36))) (bC (.int 4)) ρ=.ok (.int m,om,ρ):=λ ρ h=>DX (ix 36 (bC (.int 36)) ρ (by decide) h rfl) rfl (by decide);have s1:Ai false 2 (Al Bs (Ac)) [] [some (bx a b c,0),some (il xs,0),none,none,none,none,none,none]=.nx (R [] om none none none none none):=by kernel_rfl
 have step:∀ (t:List (List Int)) (d2 k j:Nat) (r:List Int) (s6 s7:QQ.Slot),k < a->j < b->Pile k b c t->r.length=j->(∀ y,y < j->0<=r.getD y 0)->∃ h s6' s7',(0<=h/\h<=De c t r j)/\CS (R t d2 (some (.int (k:Int),om)) (some (il r,om)) (some (.int (j:Int),om)) s6 s7)=.nx (R t d2 (some (.int (k:Int),om)) (some (il (r++[h]),om)) (some (.int (j:Int),om)) s6' s7'):=by
  intro t d2 k j r s6 s7 hk hj p hr hr0;let Q (s6 s7:QQ.Slot):Ag:=R t d2 (some (.int (k:Int),om)) (some (il r,om)) (some (.int (j:Int),om)) s6 s7;have l:=p.tab.1;have v1:Ai false 6 (Ab Ah (Aa 0) (bC (.int 2))) [0] (Q s6 s7)=.nx (Q (some (.int (c:Int),om)) s7):=rfl;have v2:AG (bT (Ab (C1 λ i j=>decide (j < i)) (Aa 3) (bC (.int 0)))) (Ai false 6 (Ab Ah (Ab Ah (Aa 2) (Ab Ct (Aa 3) (bC (.int 1)))) (Aa 5)) [2,3,5]) Aq (Q (some (.int (c:Int),om)) s7)=.nx (Q (some (.int (Dn c t j),om)) s7):=by
   have tt:bT (Ab (C1 λ i j=>decide (j < i)) (Aa 3) (bC (.int 0))) (Q (some (.int (c:Int),om)) s7)=.ok (decide ((0:Int) < (k:Int)),Q (some (.int (c:Int),om)) s7):=rfl;by_cases h0:k=0
   ·rw [decide_eq_false (by omega)] at tt;refine (BP tt).trans ?_;unfold Dn;rw [if_pos (by omega)];rfl
   ·rw [decide_eq_true (by omega)] at tt;refine (Cq tt).trans ?_;unfold Dn;rw [if_neg (by omega),l];have q:Ab Ct (Aa 3) (bC (.int 1)) (Q (some (.int (c:Int),om)) s7)=.ok (.int ((k - 1:Nat):Int),om,Q (some (.int (c:Int),om)) s7):=by
     rw [show ((k - 1:Nat):Int)=(k:Int) - 1 by omega];exact Jk (i:=(k:Int)) (j:=1) rfl rfl
    exact setF (Sl (i:=k - 1) (j:=j) p.tab (d:=0) (e':=om) rfl q rfl (by omega) hj) (show 6 < 8 by decide) rfl
  have v3:AG (bT (Ab (C1 λ i j=>decide (j < i)) (Aa 5) (bC (.int 0)))) (Ai false 6 (Al EC (Ad (Aa 6) (Ad (Ab Ah (Aa 4) (Ab Ct (Aa 5) (bC (.int 1)))) (Ac)))) [6,4,5]) Aq (Q (some (.int (Dn c t j),om)) s7)=.nx (Q (some (.int (De c t r j),om)) s7):=by
   have tt:bT (Ab (C1 λ i j=>decide (j < i)) (Aa 5) (bC (.int 0))) (Q (some (.int (Dn c t j),om)) s7)=.ok (decide ((0:Int) < (j:Int)),Q (some (.int (Dn c t j),om)) s7):=rfl;by_cases h0:j=0
   ·rw [decide_eq_false (by omega)] at tt;refine (BP tt).trans ?_;unfold De;rw [if_pos (by omega)];rfl
   ·rw [decide_eq_true (by omega)] at tt;refine (Cq tt).trans ?_;have q:Ab Ct (Aa 5) (bC (.int 1)) (Q (some (.int (Dn c t j),om)) s7)=.ok (.int ((j - 1:Nat):Int),om,Q (some (.int (Dn c t j),om)) s7):=by
     rw [show ((j - 1:Nat):Int)=(j:Int) - 1 by omega];exact Jk (i:=(j:Int)) (j:=1) rfl rfl
    have e1:De c t r j=if r.getD (j - 1) 0 < Dn c t j then r.getD (j - 1) 0 else Dn c t j:=by
     unfold De;rw [if_neg (by omega),hr];split <;> omega
    rw [e1];exact setF (Dt (CP (x:=.int (Dn c t j)) (d:=om) rfl (BI (GF (xs:=r) (k:=((j - 1:Nat):Int)) (d:=0) rfl q (Eg (by omega) (DY (by rw [EV];omega)))))) rfl) (show 6 < 8 by decide) rfl
  have u0:0<=Dn c t j:=by
   unfold Dn;split
   ·omega
   ·exact p.lo _ _ (by omega) hj
  have t0:0<=De c t r j:=by
   unfold De;split
   ·exact u0
   ·have:=hr0 (r.length - 1) (by omega)
    omega
  let T:=De c t r j;let n:Int:=xs.getD (6 * k + j) 0;have v4:Ai false 7 (Ab Ah (Aa 1) (Ab AS (Ab Dl (bC (.int 6)) (Aa 3)) (Aa 5))) [1,3,5] (Q (some (.int T,om)) s7)=.nx (Q (some (.int T,om)) (some (.int n,om))):=by
   refine setF (ix (6 * k + j) _ _ (by omega) rfl ?_) (show 7 < 8 by decide) rfl;rw [show ((6 * k + j:Nat):Int)=6 * (k:Int) + (j:Int) by omega];exact FP (L4 (i:=6) (j:=(k:Int)) rfl rfl (.inl (by decide))) (j:=(j:Int)) rfl
  let W:Ag:=Q (some (.int T,om)) (some (.int n,om));have a0:=KN n (show T + 1≠0 by omega);have a1:=KQ n (show 0 < T + 1 by omega);have b0:=KN n (show (3:Int)≠0 by decide);have b1:=KQ n (show (0:Int) < 3 by decide);let mx:Int:=if T - n % 3 / 2 > 0 then T - n % 3 / 2 else 0
  let ch:List Int:=[n % (T + 1),mx,n % (T + 1),T]
  have hmx:0<=mx/\mx<=T:=by
   show 0<=(if T - n % 3 / 2 > 0 then T - n % 3 / 2 else 0)/\(if T - n % 3 / 2 > 0 then T - n % 3 / 2 else 0)<=T;split <;> omega
  have hch:∀ x∈ch,0<=x/\x<=T:=by
   intro x hx;simp only [ch,ja9,JG,or_false] at hx;rcases hx with e | e | e | e <;> omega
  have f1:Ab AL (Aa 7) (Ab AS (Aa 6) (bC (.int 1))) W=.ok (.int (n % (T + 1)),om,W):=DX (i:=n) rfl (FP (i:=T) (j:=1) rfl rfl) (by omega);have f2:Al DL (Ad (bC (.int 0)) (Ad (Ab Ct (Aa 6) (Ab C0 (Ab AL (Aa 7) (bC (.int 3))) (bC (.int 2)))) (Ac))) W=.ok (.int mx,om,W):=Dt (CP (x:=.int 0) (d:=om) rfl (BI (Jk (i:=T) rfl (Je (DX (i:=n) (j:=3) rfl rfl (by decide)) (j:=2) rfl (by decide) (by decide))))) rfl;have f5:Al Bs (Ad (Ab AL (Aa 7) (Ab AS (Aa 6) (bC (.int 1)))) (Ad (Al DL (Ad (bC (.int 0)) (Ad (Ab Ct (Aa 6) (Ab C0 (Ab AL (Aa 7) (bC (.int 3))) (bC (.int 2)))) (Ac)))) (Ad (Ab AL (Aa 7) (Ab AS (Aa 6) (bC (.int 1)))) (Ad (Aa 6) (Ac))))) W=.ok (il ch,om,W):=Dt (CP f1 (CP f2 (CP f1 (BI (x:=.int T) (d:=om) rfl)))) rfl;have f6:CH W=.ok (.int (ch.getD m.toNat 0),om,W):=GF f5 (k:=m) (em W rfl) (Eg m0 (DY (by show m.toNat < 4;omega)));have hm:=hch _ (Ng (xs:=ch) (i:=m.toNat) (by show m.toNat < 4;omega));refine ⟨ch.getD m.toNat 0,some (.int T,om),some (.int n,om),hm,(AF v1).trans ((AF v2).trans ((AF v3).trans ((AF v4).trans ((Ki (i:=4) (d0:=999) (d:=om) (xs:=r.map PV.int) (xs0:=r.map PV.int) rfl f6 rfl (by decide) (by rw [Ax];omega) rfl).trans ?_))))⟩;rw [Wy];rfl
 obtain ⟨ρ',e6,t,d2,s3,s4,s5,s6,s7,rfl,pt,hd2⟩:=Gq (i:=3) (body:=CR) (en:=AJ) (fa:=Ad (Ab Ah (Aa 0) (bC (.int 0))) (Ac)) (ρ:=R [] om none none none none none) (ρ1:=R [] om none none none none none) (as:=[(.int (a:Int),om)]) (lo:=0) (hi:=(a:Int))
  (λ k ρ=>∃ t d2 s3 s4 s5 s6 s7,ρ=R t d2 s3 s4 s5 s6 s7/\Pile k b c t/\d2≠0) rfl (D8 (by omega) (by omega)) ⟨[],om,none,none,none,none,none,rfl,⟨⟨rfl,λ _ h=>nomatch h⟩,λ _ _ h=>absurd h (by omega),λ _ _ h=>absurd h (by omega),λ _ _ h=>absurd h (by omega),λ _ _ h=>absurd h (by omega)⟩,by decide⟩ (by
   rintro k ρ hk ⟨t,d2,s3,s4,s5,s6,s7,rfl,pt,hd2⟩;have hk':k < a:=by omega
   rw [E8];let K:QQ.Slot:=some (.int (k:Int),om);have u1:Ai false 4 (Al Bs (Ac)) [] (R t d2 K s4 s5 s6 s7)=.nx (R t d2 K (some (il [],om)) s5 s6 s7):=rfl;obtain ⟨ρ2,e2,r,t5,t6,t7,rfl,hr,hr0,hr1,hrn⟩:=Gq (i:=5) (body:=CS) (en:=AJ) (fa:=Ad (Ab Ah (Aa 0) (bC (.int 1))) (Ac)) (ρ:=R t d2 K (some (il [],om)) s5 s6 s7) (ρ1:=R t d2 K (some (il [],om)) s5 s6 s7) (as:=[(.int (b:Int),om)]) (lo:=0) (hi:=(b:Int))
    (λ j ρ=>∃ r s5 s6 s7,ρ=R t d2 K (some (il r,om)) s5 s6 s7/\r.length=j/\(∀ y,y < j->0<=r.getD y 0)/\(∀ y,y < j->r.getD y 0<=Dn c t y)/\Nr r) rfl (D8 (by omega) (by omega)) ⟨[],s5,s6,s7,rfl,rfl,λ _ h=>absurd h (by omega),λ _ h=>absurd h (by omega),λ _ h=>absurd h (by simp)⟩ (by
     rintro j ρ hj ⟨r,s5,s6,s7,rfl,hr,hr0,hr1,hrn⟩;obtain ⟨h,t6,t7,hh,eh⟩:=step t d2 k j r s6 s7 hk' (by omega) pt hr hr0;refine ⟨show 5 < 8 by decide,R t d2 K (some (il (r++[h]),om)) (some (.int (j:Int),om)) t6 t7,?_,r++[h],some (.int (j:Int),om),t6,t7,rfl,by rw [BL,hr];rfl,λ y hy=>?_,λ y hy=>?_,λ y hy=>?_⟩
     ·rw [E8];exact eh
     ·rw [Nn];by_cases e:y < r.length
      ·rw [if_pos e];exact hr0 y (by omega)
      ·rw [if_neg e,if_pos (by omega)];exact hh.1
     ·rw [Nn];by_cases e:y < r.length
      ·rw [if_pos e];exact hr1 y (by omega)
      ·rw [if_neg e,if_pos (by omega),show y=j by omega]
       have:=hh.2
       unfold De at this;split at this <;> omega
     ·rw [BL,IQ] at hy;rw [Nn,Nn];by_cases e:y + 1 < r.length
      ·rw [if_pos e,if_pos (by omega)];exact hrn y e
      ·rw [if_neg e,if_pos (by omega),if_pos (by omega)]
       have:=hh.2
       unfold De at this;rw [if_neg (by omega),show r.length - 1=y by omega] at this
       omega)
   rw [show ((b:Int) - 0).toNat=b by omega] at hr hr0 hr1;refine ⟨show 3 < 8 by decide,R (t++[r]) 1 K (some (il r,0)) t5 t6 t7,?_,t++[r],1,_,_,_,_,_,rfl,pt.snoc hr (λ y hy=>⟨hr0 y hy,hr1 y hy⟩) hrn,by decide⟩;refine (AF u1).trans ((AF e2).trans ?_);obtain ⟨d0,rfl⟩:∃ d0,d2=d0 + 1:=⟨d2 - 1,by omega⟩
   refine (Ki (i:=2) (d0:=d0) (d:=d0 + 1) (y:=il r) (e:=0) (xs:=t.map il) (xs0:=t.map il) rfl rfl rfl hd2 (by rw [Ax,pt.tab.1];omega) rfl).trans ?_;rw [WR,if_neg (λ h=>absurd h.2 (by decide))]
   rfl)
 rw [show ((a:Int) - 0).toNat=a by omega] at pt;let W (t:List (List Int)) (d:Nat):Ag:=R t d s3 s4 s5 s6 s7;have l:=pt.tab.1;have tt:=Bk (Gy (neg:=false) (em (W t d2) rfl) (g:=bC (.int 3)) (j:=3) (e:=om) rfl);rw [JD] at tt;have fin:∃ t' d,Pile a b c t'/\d≠0/\AG (bT (Ab (Am false) (Ab AL (Ab Ah (Aa 1) (bC (.int 36))) (bC (.int 4))) (bC (.int 3)))) (Af (ED 2 (Ao DC (bC (.int 1))) Pe) (ED 2 (Ao DC (bC (.int 1))) Pd)) Aq (W t d2)=.nx (W t' d):=by
  cases hd:decide (m=3) with
  | false=>rw [hd] at tt;exact ⟨t,d2,pt,hd2,(BP tt).trans rfl⟩
  | true=>
   rw [hd] at tt;have last:∀ (t:List (List Int)) (d:Nat),Tab a b t->Ab Ah (Aa 2) (Ao DC (bC (.int 1))) (W t d)=.ok (il (t.getD (a - 1) []),0,W t d):=λ t d ht=>Ly (t:=t) (k:=-1) (d:=0) rfl rfl (WU (by rw [ht.1];exact Gw (by rw [ht.1];omega)));let r:=t.getD (a - 1) [];have hr:r.length=b:=pt.tab.row (by omega);let w:Int:=xs.getD 37 0;let r1:List Int:=r.map λ x=>x - w % (x + 1);have r0:∀ x∈r,0<=x:=λ x hx=>by
    obtain ⟨y,hy,e⟩:=QV.mem_getD hx;rw [<- e];exact pt.lo (a - 1) y (by omega) (by omega)
   have c1:Pe (W t d2)=.ok (il r1,om,W t d2):=by
    have k:=DJ (n:=8) (elt:=Ab Ct (Aa 8) (Ab AL (Ab Ah (Aa 1) (bC (.int 37))) (Ab AS (Aa 8) (bC (.int 1))))) (enc:=PV.int) (q:=λ x=>.int (x - w % (x + 1))) r (last t d2 pt.tab) rfl (λ x hx=>by
     have:=r0 x hx
     exact Jk (i:=x) (d:=om) rfl (DX (ix 37 (bC (.int 37)) _ (by decide) rfl rfl) (FP (i:=x) (j:=1) (d:=om) (e:=om) rfl rfl) (by omega))) (by omega)
    refine k.trans ?_;show Rz.ok (PV.lst _,om,_)=Rz.ok (PV.lst ((r.map λ x=>x - w % (x + 1)).map PV.int),om,_);rw [BB];rfl
   have ij:∀ t:List (List Int),t.length=a->CL (t.map il).length (-1)=some (a - 1):=λ t h=>by
    unfold CL;rw [Ax,h,if_neg (by decide),if_pos (by omega),show (-1 + (a:Int)).toNat=a - 1 by omega]
   have p1:ED 2 (Ao DC (bC (.int 1))) Pe (W t d2)=.nx (W (t.set (a - 1) r1) 1):=Xu (ρ1:=W t d2) (ρ2:=W t d2) (xs:=t.map il) (d:=d2) (k:=-1) c1 rfl rfl rfl (ij t l) hd2 rfl (by
    show [some (bx a b c,0),some (il xs,0),some (PV.lst ((t.map il).set (a - 1) (il r1)),1),s3,s4,s5,s6,s7]=_;rw [<- KH]
    rfl)
   let t1:=t.set (a - 1) r1;have l1:t1.length=a:=by show (t.set (a - 1) r1).length=a;rw [DT];exact l
   have hr1:r1.length=b:=by show (r.map _).length=b;rw [Ax];exact hr
   have ht1:Tab a b t1:=⟨l1,λ s hs=>(OU hs).elim (pt.tab.2 s) λ e=>by rw [e];exact hr1⟩
   have g1:t1.getD (a - 1) []=r1:=MM (by omega);let r2:List Int:=(An b).map λ j=>FI r1 j;have c2:Pd (W t1 1)=.ok (il r2,om,W t1 1):=by
    have k:=HX (n:=8) (en:=AJ) (fa:=Ad (Ab Ah (Aa 0) (bC (.int 1))) (Ac)) (elt:=Al EC (Ad (CO (Ab Ah (Aa 2) (Ao DC (bC (.int 1)))) none (some (Ab AS (Aa 8) (bC (.int 1))))) (Ac))) (ρ:=W t1 1) (ρ1:=W t1 1) (as:=[(.int (b:Int),om)]) (lo:=0) (hi:=(b:Int)) (q:=λ j=>.int (FI r1 j)) rfl (D8 (by omega) (by omega)) rfl (λ j hj=>by
     rw [E8];let V:Ag:=W t1 1++[some (.int (j:Int),om)];have la:Ab Ah (Aa 2) (Ao DC (bC (.int 1))) V=.ok (il r1,0,V):=by
      rw [<- g1];exact Ly (t:=t1) (k:=-1) (d:=0) rfl rfl (WU (by rw [l1];exact Gw (by omega)))
     have ad:Ab AS (Aa 8) (bC (.int 1)) V=.ok (.int ((j + 1:Nat):Int),om,V):=by
      rw [show ((j + 1:Nat):Int)=(j:Int) + 1 by omega];exact FP (i:=(j:Int)) (j:=1) rfl rfl
     have sl:CO (Ab Ah (Aa 2) (Ao DC (bC (.int 1)))) none (some (Ab AS (Aa 8) (bC (.int 1)))) V=.ok (il (r1.getD 0 0::(r1.drop 1).take j),om,V):=by
      unfold CO;rw [la];dsimp only [Rz.bind,HH];rw [ad];show Rz.ok (PV.lst (By (r1.map PV.int) none (some ((j + 1:Nat):Int))),d1 (By (r1.map PV.int) none (some ((j + 1:Nat):Int))),V)=_;have e:By (r1.map PV.int) none (some ((j + 1:Nat):Int))=(r1.getD 0 0::(r1.drop 1).take j).map PV.int:=by
       unfold By;rw [HT.sIx_nat];show ((r1.map PV.int).drop 0).take (min (j + 1) (r1.map PV.int).length - 0)=_;rw [SK,SG,Ax,Ye (by omega),<- SI,kB (by omega)]
      rw [e,Lw];rfl
     exact qQ (BI sl)) (by omega)
    refine k.trans ?_;show Rz.ok (PV.lst ((An ((b:Int) - 0).toNat).map λ j=>PV.int (FI r1 j)),om,_)=Rz.ok (PV.lst (((An b).map λ j=>FI r1 j).map PV.int),om,_);rw [BB,show ((b:Int) - 0).toNat=b by omega];rfl
   have p2:ED 2 (Ao DC (bC (.int 1))) Pd (W t1 1)=.nx (W (t1.set (a - 1) r2) 1):=Xu (ρ1:=W t1 1) (ρ2:=W t1 1) (xs:=t1.map il) (d:=1) (k:=-1) c2 rfl rfl rfl (ij t1 l1) (by decide) rfl (by
    show [some (bx a b c,0),some (il xs,0),some (PV.lst ((t1.map il).set (a - 1) (il r2)),1),s3,s4,s5,s6,s7]=_;rw [<- KH]
    rfl)
   have et:t1.set (a - 1) r2=t.set (a - 1) r2:=by
    show (t.set (a - 1) r1).set (a - 1) r2=_;rw [List.set_set]
   rw [et] at p2;have hr2:r2.length=b:=by show ((An b).map _).length=b;rw [Ax,CQ]
   have rl:∀ y,y < b->r1.getD y 0<=g t (a - 1) y/\0<=r1.getD y 0:=λ y hy=>by
    have e:r1.getD y 0=r.getD y 0 - w % (r.getD y 0 + 1):=by
     show (r.map _).getD y 0=_;rw [AH,C8,DY (by omega)];rfl
    have h0:=r0 _ (Ng (xs:=r) (i:=y) (by omega));have q0:=KN w (show r.getD y 0 + 1≠0 by omega);have q1:=KQ w (show 0 < r.getD y 0 + 1 by omega);rw [e]
    have:g t (a - 1) y=r.getD y 0:=rfl
    omega
   have e2:∀ y,y < b->r2.getD y 0=FI r1 y:=λ y hy=>JZ hy;refine ⟨t.set (a - 1) r2,1,YT pt ha.1 hr2 (λ y hy=>?_) (λ y hy=>?_),by decide,(Cq tt).trans ((AF p1).trans p2)⟩
   ·rw [hr2] at hy;rw [e2 _ hy,e2 y (by omega)];exact vG (by omega)
   ·rw [e2 y hy];refine ⟨vH (by omega) λ x hx=>?_,KJ (vJ (by omega)) (rl y hy).1⟩;obtain ⟨q,hq,e⟩:=QV.mem_getD hx;rw [<- e];exact (rl q (by omega)).2
 obtain ⟨t',d,pt',hd,ef⟩:=fin;refine ⟨t',d,pt',hd,?_⟩;show Ay false 2 6 Xc_pile _=_;rw [vV];exact CC rfl ((AF s1).trans ((AF e6).trans ((AF ef).trans rfl)))
def XQ {f g:Fx}{ρ ρ1:Ag}{d:Nat} (h:f ρ=.ok (.bl false,d,ρ1)):AI f g ρ=g ρ1:=by
 unfold AI;rw [h];rfl
def C2 (a b:Nat):List (List Int):=Bg a (Bg b 0)
def Qg (a b:Nat):Tab a b (C2 a b):=⟨by unfold C2;rw [IS],λ r hr=>by rw [(List.mem_replicate.mp hr).2,IS]⟩
def vT {a b i j:Nat} (hi:i < a) (hj:j < b):g (C2 a b) i j=0:=by
 unfold g C2;rw [AH,AH,HC,if_pos hi];show (Bg b (0:Int))[j]?.getD 0=0;rw [HC,if_pos hj];rfl
def hT (t:List (List Int)):List C3->List (List Int)
 | []=>t
 | x::r=>hT (CJ t x.1 x.2.1) r
theorem RD {a b:Nat}:∀ {cs:List C3}{t:List (List Int)},Tab a b t->(∀ x∈cs,x.1 < a/\x.2.1 < b)->Tab a b (hT t cs)
 | [],t,ht,_=>ht
 | x::r,t,ht,h=>RD (cs:=r) (t:=CJ t x.1 x.2.1) (Xs ht (h x A9).1) λ y hy=>h y (A8 _ hy)
def HE (cs:List C3) (i j:Nat):Nat:=(cs.filter λ x=>decide (x.1=i/\x.2.1=j)).length
theorem V0 {a b:Nat}{i j:Nat}:∀ {cs:List C3}{t:List (List Int)},Tab a b t->(∀ x∈cs,x.1 < a/\x.2.1 < b)->g (hT t cs) i j=g t i j + (HE cs i j:Nat)
 | [],t,ht,_=>by show g t i j=g t i j + ((0:Nat):Int);omega
 | x::r,t,ht,h=>by
  have hx:=h x A9;show g (hT (CJ t x.1 x.2.1) r) i j=_;rw [V0 (Xs ht hx.1) λ y hy=>h y (A8 _ hy),kf ht hx.1 hx.2];unfold HE;by_cases e:x.1=i/\x.2.1=j
  ·rw [if_pos ⟨e.1.symm,e.2.symm⟩,KW (p:=λ (x:C3)=>decide (x.1=i/\x.2.1=j)) (decide_eq_true e),Ba];omega
  ·rw [if_neg (λ z=>e ⟨z.1.symm,z.2.symm⟩),JJ (p:=λ (x:C3)=>decide (x.1=i/\x.2.1=j)) (by rw [decide_eq_true_iff];exact e)];omega
theorem xY (t:List (List Int)) (x:C3):∀ cs:List C3,hT t (cs++[x])=CJ (hT t cs) x.1 x.2.1:=λ cs=>by
 induction cs generalizing t with
 | nil=>rfl
 | cons y r ih=>exact ih (CJ t y.1 y.2.1)
def qS {α:Type}{a b c:Nat} (Q:C3->Bool) (F:C3->α) (hb:0 < b) (hc:0 < c):((An (a * b * c)).filter λ m=>Q (A6 b c m)).map (λ m=>F (A6 b c m))=(An a).flatMap λ i=>(An b).flatMap λ j=>((An c).filter λ k=>Q (i,j,k)).map λ k=>F (i,j,k):=by
 rw [Lk c (a * b),OQ,Yo];have d1:∀ q r,r < c->(q * c + r) % c=r:=λ q r hr=>by rw [E9,Mz,M4 hr]
 have d2:∀ q r,r < c->(q * c + r) / c=q:=λ q r hr=>by rw [E9,My hc,M3 hr,Mw]
 have e:∀ q∈An (a * b),(((An c).map λ r=>q * c + r).filter λ m=>Q (A6 b c m)).map (λ m=>F (A6 b c m))=((An c).filter λ k=>Q (q / b,q % b,k)).map λ k=>F (q / b,q % b,k):=λ q _=>by
  rw [KO,BB];have e1:(An c).filter ((λ m=>Q (A6 b c m)) ∘ λ r=>q * c + r)=(An c).filter λ k=>Q (q / b,q % b,k):=by
   refine EA λ r hr=>?_;have hr':=jc6.mp hr;show Q ((q * c + r) / c / b,(q * c + r) / c % b,(q * c + r) % c)=_;rw [d1 q r hr',d2 q r hr']
  rw [e1];refine DG λ r hr=>?_;have hr':=jc6.mp (ji7.mp hr).1;show F ((q * c + r) / c / b,(q * c + r) / c % b,(q * c + r) % c)=_;rw [d1 q r hr',d2 q r hr']
 rw [IY e,Lk b a,Y0];refine IY λ i _=>?_;rw [Yn];refine IY λ j hj=>?_;have hj':=jc6.mp hj;have d3:(i * b + j) % b=j:=by rw [E9,Mz,M4 hj']
 have d4:(i * b + j) / b=i:=by rw [E9,My hb,M3 hj',Mw]
 rw [d3,d4]
theorem Es:∀ n:Nat,((An n).map λ _=>(0:Nat)).sum=0
 | 0=>rfl
 | n + 1=>by rw [GP,ET,SO,Es n];rfl
theorem FE {f:Nat->Nat}{i0:Nat}:∀ {n:Nat},i0 < n->(∀ i,i < n->i≠i0->f i=0)->((An n).map f).sum=f i0
 | 0,h,_=>absurd h (by omega)
 | n + 1,h,e=>by
  rw [GP,ET,SO];show _ + (f n + 0)=_;by_cases hn:i0=n
  ·have z:((An n).map f).sum=0:=by
    have:(An n).map f=(An n).map λ _=>0:=DG λ i hi=>e i (by have:=jc6.mp hi;omega) (by have:=jc6.mp hi;omega)
    rw [this];exact Es n
   rw [z,hn];omega
  ·rw [FE (by omega) λ i hi=>e i (by omega),e n (by omega) (λ z=>hn z.symm)];omega
def zl {a b c:Nat} (Q:C3->Bool) (F:C3->C3) (x y:Nat):HE ((An a).flatMap λ i=>(An b).flatMap λ j=>((An c).filter λ k=>Q (i,j,k)).map λ k=>F (i,j,k)) x y=((An a).map λ i=>((An b).map λ j=>((An c).filter λ k=>Q (i,j,k) && decide ((F (i,j,k)).1=x/\(F (i,j,k)).2.1=y)).length).sum).sum:=by
 unfold HE;rw [OQ,Y4];congr 1;refine DG λ i _=>?_;rw [OQ,Y4];congr 1;refine DG λ j _=>?_;rw [KO,Ax,Yy];congr 1;refine EA λ k _=>?_;rw [XZ];rfl
def FG {α:Type}{P:α->Bool}{l:List α} (h:∀ x∈l,P x=false):(l.filter P).length=0:=by
 rw [List.filter_eq_nil_iff.mpr λ x hx=>by rw [h x hx];exact Cp];rfl
def BM (t:List (List Int)) (x:C3):Bool:=decide ((x.2.2:Int) < g t x.1 x.2.1)
def Lq (t:List (List Int)) (b c n:Nat):D7 t b c n=((An n).filter λ m=>BM t (A6 b c m)).map λ m=>A6 b c m:=rfl
def qT {a b c m:Nat} (hb:0 < b) (hc:0 < c) (h:m < a * b * c):(A6 b c m).1 < a/\(A6 b c m).2.1 < b/\(A6 b c m).2.2 < c:=by
 refine ⟨?_,Sz _ hb,Sz _ hc⟩;show m / c / b < a;refine SX (SX ?_);rw [E9 c,E9 b];exact h
def Jh {a b c A B:Nat}{t0:List (List Int)} (Q:C3->Bool) (F:C3->C3) (hb:0 < b) (hc:0 < c) (hF:∀ x:C3,x.1 < a->x.2.1 < b->x.2.2 < c->(F x).1 < A/\(F x).2.1 < B):
  (∀ x∈((An (a * b * c)).filter λ m=>Q (A6 b c m)).map (λ m=>F (A6 b c m)),x.1 < A/\x.2.1 < B)/\Tab A B (hT (C2 A B) (((An (a * b * c)).filter λ m=>Q (A6 b c m)).map λ m=>F (A6 b c m))) /\
  ∀ x y,x < A->y < B->g (hT (C2 A B) (((An (a * b * c)).filter λ m=>Q (A6 b c m)).map λ m=>F (A6 b c m))) x y=((((An a).map λ i=>((An b).map λ j=>((An c).filter λ k=>Q (i,j,k) && decide ((F (i,j,k)).1=x/\(F (i,j,k)).2.1=y)).length).sum).sum:Nat):Int):=by
 have h1:∀ x∈((An (a * b * c)).filter λ m=>Q (A6 b c m)).map (λ m=>F (A6 b c m)),x.1 < A/\x.2.1 < B:=λ x hx=>by
  obtain ⟨m,hm,rfl⟩:=je7.mp hx;have hm':=jc6.mp (ji7.mp hm).1;obtain ⟨q1,q2,q3⟩:=qT (a:=a) hb hc hm';exact hF _ q1 q2 q3
 refine ⟨h1,RD (Qg A B) h1,λ x y hx hy=>?_⟩;rw [V0 (Qg A B) h1,vT hx hy,qS Q F hb hc,zl];omega
theorem Lm {P:Nat->Bool}{y:Nat}:∀ {c:Nat},y < c->((An c).filter λ k=>P k && decide (k=y)).length=if P y=true then 1 else 0
 | 0,h=>absurd h (by omega)
 | c + 1,h=>by
  rw [GP,Y1,BL];by_cases e:y=c
  ·rw [FG λ k hk=>by rw [decide_eq_false (by have:=jc6.mp hk;omega),Fw]];subst e;cases hp:P y with
   | true=>rw [KW (p:=λ k=>P k && decide (k=y)) (by rw [hp,decide_eq_true rfl];rfl)];rfl
   | false=>rw [JJ (p:=λ k=>P k && decide (k=y)) (by rw [hp];exact Cp)];rfl
  ·rw [Lm (by omega),JJ (p:=λ k=>P k && decide (k=y)) (by rw [decide_eq_false (λ z=>e z.symm),Fw];exact Cp)];rfl
theorem Lo {f:Nat->Int}{y:Int}:∀ a:Nat,Dk ((An a).map f) y=(((An a).map λ i=>if y < f i then (1:Nat) else 0).sum:Nat)
 | 0=>rfl
 | a + 1=>by
  rw [GP,ET,List.map_singleton,WY,Lo a,ET,SO];by_cases h:y < f a
  ·simp [h]
  ·simp [h]
def Z5 {a b c:Nat}{t:List (List Int)} (p:Pile a b c t) (hb:0 < b) (hc:0 < c):(∀ x∈(D7 t b c (a * b * c)).map (λ x=>((x.2.1,x.1,x.2.2):C3)),x.1 < b/\x.2.1 < a)/\hT (C2 b a) ((D7 t b c (a * b * c)).map λ x=>((x.2.1,x.1,x.2.2):C3))=Bp t b:=by
 have e:(D7 t b c (a * b * c)).map (λ x=>((x.2.1,x.1,x.2.2):C3))=((An (a * b * c)).filter λ m=>BM t (A6 b c m)).map λ m=>(λ x:C3=>((x.2.1,x.1,x.2.2):C3)) (A6 b c m):=by
  rw [Lq,BB];rfl
 rw [e];obtain ⟨q1,q2,q3⟩:=Jh (a:=a) (A:=b) (B:=a) (t0:=[]) (BM t) (λ x:C3=>((x.2.1,x.1,x.2.2):C3)) hb hc λ x h1 h2 h3=>⟨h2,h1⟩
 refine ⟨q1,FC q2 (HZ p.tab) λ x y hx hy=>?_⟩;rw [q3 x y hx hy,GY p.tab hy hx,FE hy λ i hi ne=>?_,FE hx λ j hj ne=>?_]
 ·have g0:=p.lo y x hy hx;have g1:=p.hi y x hy hx
  have:((An c).filter λ k=>BM t (y,x,k) && decide (((λ x:C3=>((x.2.1,x.1,x.2.2):C3)) (y,x,k)).1=x/\((λ x:C3=>((x.2.1,x.1,x.2.2):C3)) (y,x,k)).2.1=y))=An (g t y x).toNat:=by
   rw [<- Lg (g t y x).toNat c (by omega)];refine EA λ k _=>?_;rw [decide_eq_true (show x=x/\y=y from ⟨rfl,rfl⟩),HA];show decide ((k:Int) < g t y x)=decide (k < (g t y x).toNat);by_cases h:(k:Int) < g t y x
   ·rw [decide_eq_true h,decide_eq_true (by omega)]
   ·rw [decide_eq_false h,decide_eq_false (by omega)]
  rw [this,CQ];omega
 ·exact FG λ k _=>by rw [decide_eq_false (λ z=>ne z.1),Fw]
 ·have:((An b).map λ j=>((An c).filter λ k=>BM t (i,j,k) && decide (((λ x:C3=>((x.2.1,x.1,x.2.2):C3)) (i,j,k)).1=x/\((λ x:C3=>((x.2.1,x.1,x.2.2):C3)) (i,j,k)).2.1=y)).length)=(An b).map λ _=>0:=DG λ j _=>FG λ k _=>by rw [decide_eq_false (λ z=>ne z.2),Fw]
  rw [this];exact Es b
def Z6 {a b c:Nat}{t:List (List Int)} (p:Pile a b c t) (hb:0 < b) (hc:0 < c):(∀ x∈(D7 t b c (a * b * c)).map (λ x=>((x.2.1,x.2.2,x.1):C3)),x.1 < b/\x.2.1 < c)/\hT (C2 b c) ((D7 t b c (a * b * c)).map λ x=>((x.2.1,x.2.2,x.1):C3))=AQ t b c:=by
 have e:(D7 t b c (a * b * c)).map (λ x=>((x.2.1,x.2.2,x.1):C3))=((An (a * b * c)).filter λ m=>BM t (A6 b c m)).map λ m=>(λ x:C3=>((x.2.1,x.2.2,x.1):C3)) (A6 b c m):=by
  rw [Lq,BB];rfl
 rw [e];obtain ⟨q1,q2,q3⟩:=Jh (a:=a) (A:=b) (B:=c) (t0:=[]) (BM t) (λ x:C3=>((x.2.1,x.2.2,x.1):C3)) hb hc λ x h1 h2 h3=>⟨h2,h3⟩
 refine ⟨q1,FC q2 (by rw [Ig];exact Ie) λ x y hx hy=>?_⟩;rw [q3 x y hx hy,Ig,Ce hx hy];have ec:Cu t x=(An a).map λ i=>g t i x:=by
  refine Kp (by rw [E1,p.tab.1,Ax,CQ]) λ i hi=>?_;rw [E1,p.tab.1] at hi;rw [Fe (by rw [p.tab.1];exact hi),JZ hi]
 rw [ec,Lo];congr 2;refine DG λ i _=>?_;rw [FE hx λ j hj ne=>?_]
 ·have:((An c).filter λ k=>BM t (i,x,k) && decide (((λ x:C3=>((x.2.1,x.2.2,x.1):C3)) (i,x,k)).1=x/\((λ x:C3=>((x.2.1,x.2.2,x.1):C3)) (i,x,k)).2.1=y))=(An c).filter λ k=>BM t (i,x,k) && decide (k=y):=EA λ k _=>by
   by_cases h:k=y
   ·rw [decide_eq_true (show x=x/\k=y from ⟨rfl,h⟩),decide_eq_true h]
   ·rw [decide_eq_false (λ z=>h z.2),decide_eq_false h]
  rw [this,Lm hy];show (if decide ((y:Int) < g t i x)=true then 1 else 0)=_;by_cases h:(y:Int) < g t i x
  ·rw [decide_eq_true h,if_pos rfl,if_pos h]
  ·rw [decide_eq_false h,if_neg Cp,if_neg h]
 ·exact FG λ k _=>by rw [decide_eq_false (λ z=>ne z.1),Fw]
def zmc {t:List (List Int)}{a b:Nat}{x:C3}:x∈AU t a b↔x.1 < a/\x.2.1 < b/\(x.2.2:Int) < g t x.1 x.2.1:=by
 obtain ⟨i,j,k⟩:=x;unfold AU Ca FK;simp only [jl3,jc6,je7,Prod.mk.injEq];constructor
 ·rintro ⟨i',hi,j',hj,k',hk,rfl,rfl,rfl⟩;exact ⟨hi,hj,by omega⟩
 ·rintro ⟨hi,hj,hk⟩;exact ⟨i,hi,j,hj,k,by omega,rfl,rfl,rfl⟩
def ZR:∀ r:List C3,d1 (r.map c3)=om:=by
 have:∀ r:List C3,ID (r.map c3)=true:=λ r=>by
  induction r with
  | nil=>rfl
  | cons z r ih=>
   rw [Bf];exact ih
 intro r;unfold d1;rw [this];rfl
section
variable {a b c:Nat}{t:List (List Int)}
def T7:Fs:=Ai false 1 (Ab AS (Aa 1) (Cj AJ (Ad (Ab Ah (Ab Ah (Aa 0) (Aa 2)) (Aa 3)) (Ac)) 1 (Aj 4) AA (Al Cd (Ad (Aa 2) (Ad (Aa 3) (Ad (Aa 4) (Ac))))))) [1,2,3]
def MQ (p:Pile a b c t) (ha:a<=6) (hb:b<=6) (hc:c<=6):c_cubes [tb t]=.ok (ct (AU t a b),om,.non):=by
 have z:=sz;have l:=p.tab.1;let R (cs:List C3) (s2 s3:QQ.Slot):Ag:=[some (tb t,0),some (ct cs,om),s2,s3]
 have s1:Ai false 1 (Al Bs (Ac)) [] [some (tb t,0),none,none,none]=.nx (R [] none none):=by kernel_rfl
 have bd:∀ {i j:Nat},i < a->j<=b->(AU t i b++Ca t i j).length<=400:=λ {i j} hi hj=>by
  have k1:=MZ p (i:=i) (by omega);have k2:=PZ p hi hj;have k3:b * c<=6 * 6:=JC hb hc;have k4:i * (b * c)<=6 * (6 * 6):=JC (by omega) k3;have k5:j * c<=6 * 6:=JC (by omega) hc;rw [BL];omega
 have Of:∀ (i j:Nat) (s3:QQ.Slot),i < a->j < b->T7 (R (AU t i b++Ca t i j) (some (.int (i:Int),om)) (some (.int (j:Int),om)))=.nx (R (AU t i b++Ca t i (j + 1)) (some (.int (i:Int),om)) (some (.int (j:Int),om))):=by
  intro i j s3 hi hj;let X:=AU t i b++Ca t i j;let Q (cs:List C3):Ag:=R cs (some (.int (i:Int),om)) (some (.int (j:Int),om));have g0:=p.lo i j hi hj;have g1:=p.hi i j hi hj;have e1:=HX (n:=4) (en:=AJ) (fa:=Ad (Ab Ah (Ab Ah (Aa 0) (Aa 2)) (Aa 3)) (Ac)) (elt:=Al Cd (Ad (Aa 2) (Ad (Aa 3) (Ad (Aa 4) (Ac))))) (ρ:=Q X) (ρ1:=Q X) (as:=[(.int (g t i j),om)]) (lo:=0) (hi:=g t i j) (q:=λ k=>c3 (i,j,k)) (BI (Sl (i:=i) (j:=j) p.tab (d:=0) (e:=om) (e':=om) rfl rfl rfl hi hj)) (D8 (by omega) (by omega)) rfl (λ k hk=>by rw [E8];rfl) (by omega);have e2:PV.lst ((An (g t i j - 0).toNat).map λ k=>c3 (i,j,k))=ct (FK t i j):=by
   unfold ct FK;rw [BB,Int.sub_zero];rfl
  rw [e2] at e1;have b2:=bd hi (show j + 1<=b from hj);have ex:AU t i b++Ca t i (j + 1)=X++FK t i j:=by rw [Uv,<- OP]
  rw [ex] at b2 ⊢;refine setF (x:=ct (X++FK t i j)) (d:=om) (BV (x:=ct X) (d:=0) (ρ1:=Q X) rfl e1 ?_) (show 1 < 4 by decide) rfl;unfold ct AS;dsimp only;rw [if_pos (by rw [Ax,Ax,<- BL];omega),<- ET,ZR]
 obtain ⟨ρ',e6,s2,s3,rfl⟩:=Gq (i:=2) (body:=CD AJ (Ad (Al Bj (Ad (Ab Ah (Aa 0) (Aa 2)) (Ac))) (Ac)) (Aj 3) T7) (en:=AJ) (fa:=Ad (Al Bj (Ad (Aa 0) (Ac))) (Ac)) (ρ:=R [] none none) (ρ1:=R [] none none) (as:=[(.int (a:Int),om)]) (lo:=0) (hi:=(a:Int))
  (λ i ρ=>∃ s2 s3,ρ=R (AU t i b) s2 s3) (by rw [<- l];exact BI (RE (t:=t) (d:=0) rfl)) (D8 (by omega) (by omega)) ⟨none,none,rfl⟩ (by
   rintro i _ hi ⟨s2,s3,rfl⟩;have hi':i < a:=by omega
   rw [E8];let I:QQ.Slot:=some (.int (i:Int),om);obtain ⟨ρ2,e2,s3',rfl⟩:=Gq (i:=3) (body:=T7) (en:=AJ) (fa:=Ad (Al Bj (Ad (Ab Ah (Aa 0) (Aa 2)) (Ac))) (Ac)) (ρ:=R (AU t i b) I s3) (ρ1:=R (AU t i b) I s3) (as:=[(.int (b:Int),om)]) (lo:=0) (hi:=(b:Int))
    (λ j ρ=>∃ s3,ρ=R (AU t i b++Ca t i j) I s3) (by
     have e:Ab Ah (Aa 0) (Aa 2) (R (AU t i b) I s3)=.ok (il (t.getD i []),0,R (AU t i b) I s3):=Ly (t:=t) (k:=(i:Int)) (d:=0) rfl rfl (Eg (by omega) (Gw (by rw [EV,l];exact hi')))
     have:=BI (O7 (BI e))
     rw [p.tab.row hi'] at this;exact this) (D8 (by omega) (by omega)) ⟨s3,by rw [show Ca t i 0=[] from rfl,JF]⟩ (by
     rintro j _ hj ⟨s3,rfl⟩;rw [E8];exact ⟨show 3 < 4 by decide,_,Of i j s3 hi' (by omega),_,rfl⟩)
   refine ⟨show 2 < 4 by decide,_,e2,I,s3',?_⟩;rw [show ((b:Int) - 0).toNat=b by omega,TF])
 rw [show ((a:Int) - 0).toNat=a by omega] at e6;exact CC rfl ((AF s1).trans ((AF e6).trans rfl))
def VG {cs:List C3} (ha:a<=1000) (hb:b<=1000) (h:∀ x∈cs,x.1 < a/\x.2.1 < b):c_of_cubes [bx a b c,ct cs]=.ok (tb (hT (C2 a b) cs),om,.non):=by
 have z:=sz;let R0:Ag:=[some (bx a b c,0),some (ct cs,0),none,none,none,none]
 let R (t:List (List Int)) (s3 s4 s5:QQ.Slot):Ag:=[some (bx a b c,0),some (ct cs,0),some (tb t,om),s3,s4,s5]
 have row:∀ k:Nat,Cj AJ (Ad (Ab Ah (Aa 0) (bC (.int 1))) (Ac)) 1 (Aj 7) AA (bC (.int 0)) (R0++[some (.int (0 + (k:Int)),om)])=.ok (il (Bg b 0),om,R0++[some (.int (0 + (k:Int)),om)]):=λ k=>by
  have e:=HX (n:=7) (en:=AJ) (fa:=Ad (Ab Ah (Aa 0) (bC (.int 1))) (Ac)) (elt:=bC (.int 0)) (ρ:=R0++[some (.int (0 + (k:Int)),om)]) (ρ1:=R0++[some (.int (0 + (k:Int)),om)]) (as:=[(.int (b:Int),om)]) (lo:=0) (hi:=(b:Int)) (q:=λ _=>.int 0) rfl (D8 (by omega) (by omega)) rfl (λ _ _=>rfl) (by omega);refine e.trans ?_;unfold il;rw [show ((b:Int) - 0).toNat=b by omega,Yx,OJ,CQ]
 have e1:=HX (n:=6) (en:=AJ) (fa:=Ad (Ab Ah (Aa 0) (bC (.int 0))) (Ac)) (elt:=Cj AJ (Ad (Ab Ah (Aa 0) (bC (.int 1))) (Ac)) 1 (Aj 7) AA (bC (.int 0))) (ρ:=R0) (ρ1:=R0) (as:=[(.int (a:Int),om)]) (lo:=0) (hi:=(a:Int)) (q:=λ _=>il (Bg b 0)) rfl (D8 (by omega) (by omega)) rfl (λ k hk=>row k) (by omega);have e2:PV.lst ((An ((a:Int) - 0).toNat).map λ _=>il (Bg b 0))=tb (C2 a b):=by
  unfold tb C2;rw [show ((a:Int) - 0).toNat=a by omega,Yx,OJ,CQ]
 rw [e2] at e1;have s1:Ai false 2 (Cj AJ (Ad (Ab Ah (Aa 0) (bC (.int 0))) (Ac)) 1 (Aj 6) AA (Cj AJ (Ad (Ab Ah (Aa 0) (bC (.int 1))) (Ac)) 1 (Aj 7) AA (bC (.int 0)))) [] R0=.nx (R (C2 a b) none none none):=setF e1 (show 2 < 6 by decide) rfl;obtain ⟨ρ',e3,s3,s4,s5,rfl⟩:=kn (f:=Aa 1) (vs:=[1]) (asg:=AZ [3,4,5]) (body:=J4 2 (Aa 3) (Aa 4) (Ab AS (Ab Ah (Ab Ah (Aa 2) (Aa 3)) (Aa 4)) (bC (.int 1)))) (ρ:=R (C2 a b) none none none) (ρ1:=R (C2 a b) none none none) (ρ2:=R (C2 a b) none none none) (els:=cs.map c3) (d:=0)
  (λ n ρ=>∃ s3 s4 s5,ρ=R (hT (C2 a b) (cs.take n)) s3 s4 s5) rfl rfl ⟨none,none,none,by rw [SN];rfl⟩ (by
   rintro n y ρ hy ⟨s3,s4,s5,rfl⟩;have hn:n < cs.length:=by
    have:=(jb1.mp hy).1
    rw [Ax] at this;exact this
   rw [C8,BC hn] at hy;cases hy;have hx:=h cs[n] (Fy hn);have ht:=RD (Qg a b) (cs:=cs.take n) λ x hx=>h x (OT hx);let Q (t:List (List Int)):Ag:=R t (some (.int (cs[n].1:Int),om)) (some (.int (cs[n].2.1:Int),om)) (some (.int (cs[n].2.2:Int),om));refine ⟨Q (hT (C2 a b) (cs.take n)),Q (hT (C2 a b) (cs.take (n + 1))),rfl,?_,_,_,_,rfl⟩;have es:cs.take (n + 1)=cs.take n++[cs[n]]:=by rw [Yd,BC hn];rfl
   rw [es,xY];exact jg (x:=tb (hT (C2 a b) (cs.take n))) (a:=(cs[n].1:Int)) (b:=(cs[n].2.1:Int)) (FP (Sl (i:=cs[n].1) (j:=cs[n].2.1) ht (d:=0) rfl rfl rfl hx.1 hx.2) (j:=1) rfl) rfl rfl rfl (jh (by rw [ht.1];exact hx.1) (by rw [ht.row hx.1];exact hx.2)) rfl rfl)
 rw [Ax,List.take_length] at e3;exact CC rfl ((AF s1).trans ((AF e3).trans rfl))
def kh {m n:Nat} (ht:Tab m n t) (hm:m<=1000) (hn:n<=1000) (x y:Int) (k:Int):c_rest [bx x y k,tb t]=.ok (tb (Fl t k),om,.non):=by
 have z:=sz;let R:Ag:=[some (bx x y k,0),some (tb t,0)]
 have e1:=DJ (n:=2) (f:=Ao BS (Aa 1)) (elt:=AO (Ao BS (Aa 2)) 1 (Aj 3) AA (Ab Ct (Ab Ah (Aa 0) (bC (.int 2))) (Aa 3))) (enc:=il) (q:=λ r=>il (r.reverse.map λ h=>k - h)) (ρ:=R) t.reverse (Oo (xs:=t) (enc:=il) (d:=0) rfl) rfl (λ r hr=>by
  have e2:=DJ (n:=3) (f:=Ao BS (Aa 2)) (elt:=Ab Ct (Ab Ah (Aa 0) (bC (.int 2))) (Aa 3)) (enc:=PV.int) (q:=λ h=>.int (k - h)) (ρ:=R++[some (il r,0)]) r.reverse (Oo (xs:=r) (enc:=PV.int) (d:=0) rfl) rfl (λ h _=>Jk (i:=k) (j:=h) (d:=om) (e:=om) rfl rfl) (by rw [EW,ht.2 r (jl4.mp hr)];omega);refine e2.trans ?_;unfold il;rw [BB]
  rfl) (by rw [EW,ht.1];omega)
 have e3:PV.lst (t.reverse.map λ r=>il (r.reverse.map λ h=>k - h))=tb (Fl t k):=by
  unfold tb Fl;rw [BB];rfl
 rw [e3] at e1;exact CC rfl (CY e1)
end
def VJ {a b:Nat}{h:Int->Int->Int}{t u:List (List Int)} (ht:Tab a b t) (hu:Tab a b u):Tab a b (zT h t u):=by
 refine ⟨by unfold zT;rw [Ax,OI,ht.1,hu.1,XX],λ r hr=>?_⟩;obtain ⟨z,hz,rfl⟩:=je7.mp hr;rw [List.length_zipWith,ht.2 _ (IH hz).1,hu.2 _ (IH hz).2,XX]
def L9 {a b:Nat}{h:Int->Int->Int}{t u:List (List Int)} (ht:Tab a b t) (hu:Tab a b u):zT h t u=Et a b λ i j=>h (g t i j) (g u i j):=by
 refine FC (VJ ht hu) Ie λ i j hi hj=>?_;rw [Ce hi hj];have e1:(zT h t u).getD i []=KG h (t.getD i []) (u.getD i []):=by
  unfold zT;rw [AH,C8,(List.getElem?_zip_eq_some (z:=(t.getD i [],u.getD i []))).mpr ⟨Gw (by rw [ht.1];exact hi),Gw (by rw [hu.1];exact hi)⟩];rfl
 show ((zT h t u).getD i []).getD j 0=_;rw [e1,AH,List.getElem?_zipWith,DY (by rw [ht.row hi];exact hj),DY (by rw [hu.row hi];exact hj)];rfl
def Xf_copy_of:Fs:=(Ap (AO (Aa 0) 1 (Aj 1) AA (Al EB (Ad (Aa 1) (Ac)))))
def f_copy_of:Fn:=Ay false 1 0 Xf_copy_of
def km {t:List (List Int)} (hl:t.length<=1000):f_copy_of [tb t]=.ok (tb t,om,.non):=CC rfl (CY (xP (i:=0) (n:=1) (d:=0) (ρ:=[some (tb t,0)]) rfl rfl hl))
def Ge (t u:List (List Int)):List (List Int):=zT (λ i j=>if j < i then j else i) t u
section
variable {a b c:Nat}{t u l:List (List Int)}
def Wo (ht:Tab a b t) (hu:Tab a b u) {x y:Nat} (hx:x < a) (hy:y < b):g (Ge t u) x y=if g u x y < g t x y then g u x y else g t x y:=by
 unfold Ge;rw [L9 ht hu,Ce hx hy]
def WK (f:Int->Int->Int) (hf:∀ i j k m:Int,i<=k->j<=m->f i j<=f k m) (h0:∀ i j,f i j=i\/f i j=j) (p:Pile a b c t) (q:Pile a b c u):Pile a b c (zT f t u):=by
 refine ⟨VJ p.tab q.tab,λ x y hx hy=>?_,λ x y hx hy=>?_,λ x y hx hy=>?_,λ x y hx hy=>?_⟩
 ·rw [L9 p.tab q.tab,Ce hx hy]
  have:=p.lo x y hx hy
  have:=q.lo x y hx hy
  rcases h0 (g t x y) (g u x y) with e | e <;> omega
 ·rw [L9 p.tab q.tab,Ce hx hy]
  have:=p.hi x y hx hy
  have:=q.hi x y hx hy
  rcases h0 (g t x y) (g u x y) with e | e <;> omega
 ·rw [L9 p.tab q.tab,Ce hx hy,Ce (by omega) hy];exact hf _ _ _ _ (p.dn x y hx hy) (q.dn x y hx hy)
 ·rw [L9 p.tab q.tab,Ce hx hy,Ce hx (by omega)];exact hf _ _ _ _ (p.rt x y hx hy) (q.rt x y hx hy)
def Nk (p:Pile a b c t) (q:Pile a b c u):Pile a b c (Ge t u):=WK _ (λ i j k m h1 h2=>by split <;> split <;> omega) (λ i j=>by split <;> simp) p q
end
def q3 (z:C3):Br:=.tuple [.int (z.1:Int),.int (z.2.1:Int),.int (z.2.2:Int)]
def Vx (x y:C3):BK (q3 x) (q3 y)=decide (x=y):=by
 have h:=Ud [x] [y];rw [Bf,Dq,Bf,Dq,Ed,Ed,HA] at h;refine h.trans ?_;by_cases e:x=y
 ·rw [decide_eq_true e,e,decide_eq_true rfl]
 ·rw [decide_eq_false e,decide_eq_false λ z=>e (List.cons.inj z).1]
def UJ {f h:Fx}{ρ ρ1 ρ2:Ag}{x:C3}{cs:List C3}{d e:Nat} (h1:f ρ=.ok (c3 x,d,ρ1)) (h2:h ρ1=.ok (ct cs,e,ρ2)):Ab (BF false) f h ρ=.ok (.bl (decide (x∈cs)),om,ρ2):=by
 refine BV h1 h2 ?_;show (match Be 20 (c3 x),A3 (Be 20) (cs.map c3) with | some a,some bs=>some (PV.bl (false^^bs.any λ b=>BK b a),om) | _,_=>none)=_;rw [Gu (q:=q3) λ z=>rfl];show some (PV.bl (false^^(cs.map q3).any λ b=>BK b (q3 x)),om)=_;rw [JD,XW];congr 3;rw [Gg,Ym,decide_eq_true_iff];constructor
 ·rintro ⟨y,hy,e⟩;have e:BK (q3 y) (q3 x)=true:=e;rw [Vx,decide_eq_true_iff] at e;rw [<- e];exact hy
 ·intro hx;exact ⟨x,hx,by show BK (q3 x) (q3 x)=true;rw [Vx,decide_eq_true rfl]⟩
section
variable {a b c:Nat}{t:List (List Int)}
def So (x:C3):C3:=(x.2.1,x.1,x.2.2)
def Sn (x:C3):C3:=(x.2.1,x.2.2,x.1)
def Ft (x:C3):C3:=(x.2.2,x.1,x.2.1)
def Tg (p:Pile a b c t) (hb:0 < b) (hc:0 < c):(∀ x∈(AU t a b).map So,x.1 < b/\x.2.1 < a)/\hT (C2 b a) ((AU t a b).map So)=Bp t b:=by
 have:=Z5 p hb hc
 rw [Lx p hb hc] at this;exact this
def Tf (p:Pile a b c t) (hb:0 < b) (hc:0 < c):(∀ x∈(AU t a b).map Sn,x.1 < b/\x.2.1 < c)/\hT (C2 b c) ((AU t a b).map Sn)=AQ t b c:=by
 have:=Z6 p hb hc
 rw [Lx p hb hc] at this;exact this
def Td (p:Pile a b c t) (hb:0 < b) (hc:0 < c):(∀ x∈(AU t a b).map Ft,x.1 < c/\x.2.1 < a)/\hT (C2 c a) ((AU t a b).map Ft)=CW t c:=by
 have e:(AU t a b).map Ft=((An (a * b * c)).filter λ m=>BM t (A6 b c m)).map λ m=>Ft (A6 b c m):=by
  rw [<- Lx p hb hc,Lq,BB];rfl
 rw [e];obtain ⟨q1,q2,q3⟩:=Jh (a:=a) (A:=c) (B:=a) (t0:=[]) (BM t) Ft hb hc λ x h1 h2 h3=>⟨h3,h1⟩
 refine ⟨q1,FC q2 (MV p.tab) λ x y hx hy=>?_⟩;rw [q3 x y hx hy,FH p.tab hx hy,VD p.tab hy,Lo];congr 1;rw [FE hy λ i hi ne=>?_]
 ·congr 1;refine DG λ j _=>?_
  have:((An c).filter λ k=>BM t (y,j,k) && decide ((Ft (y,j,k)).1=x/\(Ft (y,j,k)).2.1=y))=(An c).filter λ k=>BM t (y,j,k) && decide (k=x):=EA λ k _=>by
   by_cases h:k=x
   ·rw [decide_eq_true (show (Ft (y,j,k)).1=x/\(Ft (y,j,k)).2.1=y from ⟨h,rfl⟩),decide_eq_true h]
   ·rw [decide_eq_false (λ z=>h z.1),decide_eq_false h]
  rw [this,Lm hx];show (if decide ((x:Int) < g t y j)=true then 1 else 0)=_;by_cases h:(x:Int) < g t y j
  ·rw [decide_eq_true h,if_pos rfl,if_pos h]
  ·rw [decide_eq_false h,if_neg Cp,if_neg h]
 ·have:∀ j,((An c).filter λ k=>BM t (i,j,k) && decide ((Ft (i,j,k)).1=x/\(Ft (i,j,k)).2.1=y)).length=0:=λ j=>FG λ k _=>by rw [decide_eq_false (λ z=>ne z.2),Fw]
  simp only [this];exact Es b
def Kc (ha:1<=a/\a<=6) (hb:1<=b/\b<=6) (hc:1<=c/\c<=6) (p:Pile a b c t) {w o1 o2 o3:Int}{A B C:Nat}{F:C3->C3}{t':List (List Int)}
  (v1:∀ s,Ai false 3 (Ab Ah (Al Bs (Ad (Al Bs (Ad (bC (.int 0)) (Ad (bC (.int 1)) (Ad (bC (.int 2)) (Ac))))) (Ad (Al Bs (Ad (bC (.int 1)) (Ad (bC (.int 0)) (Ad (bC (.int 2)) (Ac))))) (Ad (Al Bs (Ad (bC (.int 1)) (Ad (bC (.int 2)) (Ad (bC (.int 0)) (Ac))))) (Ad (Al Bs (Ad (bC (.int 2)) (Ad (bC (.int 1)) (Ad (bC (.int 0)) (Ac))))) (Ad (Al Bs (Ad (bC (.int 2)) (Ad (bC (.int 0)) (Ad (bC (.int 1)) (Ac))))) (Ad (Al Bs (Ad (bC (.int 0)) (Ad (bC (.int 2)) (Ad (bC (.int 1)) (Ac))))) (Ac)))))))) (Aa 2)) [2] [some (bx a b c,0),s,some (.int w,om),none,none,none]=.nx [some (bx a b c,0),s,some (.int w,0),some (il [o1,o2,o3],0),none,none])
  (v2:∀ s,Ai false 4 (Al Cd (Ad (Ab Ah (Aa 0) (Ab Ah (Aa 3) (bC (.int 0)))) (Ad (Ab Ah (Aa 0) (Ab Ah (Aa 3) (bC (.int 1)))) (Ad (Ab Ah (Aa 0) (Ab Ah (Aa 3) (bC (.int 2)))) (Ac))))) [0,3,0,3,0,3] [some (bx a b c,0),s,some (.int w,0),some (il [o1,o2,o3],0),none,none]=.nx [some (bx a b c,0),s,some (.int w,0),some (il [o1,o2,o3],0),some (bx A B C,om),none])
  (ve:∀ s (x:C3),Al Cd (Ad (Ab Ah (Aa 6) (Ab Ah (Aa 3) (bC (.int 0)))) (Ad (Ab Ah (Aa 6) (Ab Ah (Aa 3) (bC (.int 1)))) (Ad (Ab Ah (Aa 6) (Ab Ah (Aa 3) (bC (.int 2)))) (Ac)))) ([some (bx a b c,0),s,some (.int w,0),some (il [o1,o2,o3],0),some (bx A B C,om),none]++[some (c3 x,0)])=.ok (c3 (F x),om,[some (bx a b c,0),s,some (.int w,0),some (il [o1,o2,o3],0),some (bx A B C,om),none]++[some (c3 x,0)]))
  (hA:A<=6) (hB:B<=6) (hF:(∀ x∈(AU t a b).map F,x.1 < A/\x.2.1 < B)/\hT (C2 A B) ((AU t a b).map F)=t'):∃ d,c_turned [bx a b c,tb t,.int w]=.ok (.tup [bx A B C,tb t'],d,.non):=by
 have z:=sz;let R (s5:QQ.Slot):Ag:=[some (bx a b c,0),some (tb t,0),some (.int w,0),some (il [o1,o2,o3],0),some (bx A B C,om),s5]
 have k3:b * c<=6 * 6:=JC hb.2 hc.2;have k4:a * (b * c)<=6 * (6 * 6):=JC ha.2 k3;have cl:=MZ p (i:=a) (AW _);have e1:=qy (k:=1) (f:=Au c_cubes (Ad (Aa 1) (Ac))) (asg:=Aj 6) (test:=AA) (elt:=Al Cd (Ad (Ab Ah (Aa 6) (Ab Ah (Aa 3) (bC (.int 0)))) (Ad (Ab Ah (Aa 6) (Ab Ah (Aa 3) (bC (.int 1)))) (Ad (Ab Ah (Aa 6) (Ab Ah (Aa 3) (bC (.int 2)))) (Ac))))) (enc:=c3) (q:=λ x=>c3 (F x)) (E:=λ x=>[some (c3 x,0)]) (p:=λ _=>true) (ρ:=R none) (AU t a b) (BA (xs:=[(tb t,0)]) rfl (MQ p ha.2 hb.2 hc.2)) (λ _ _=>rfl) (λ _ _=>rfl) (λ x _ _=>ve (some (tb t,0)) x) (by omega);rw [QV.filter_all] at e1;have e2:PV.lst ((AU t a b).map λ x=>c3 (F x))=ct ((AU t a b).map F):=by
  unfold ct;rw [BB];rfl
 rw [e2] at e1;have v3:Ai false 5 (AO (Au c_cubes (Ad (Aa 1) (Ac))) 1 (Aj 6) AA (Al Cd (Ad (Ab Ah (Aa 6) (Ab Ah (Aa 3) (bC (.int 0)))) (Ad (Ab Ah (Aa 6) (Ab Ah (Aa 3) (bC (.int 1)))) (Ad (Ab Ah (Aa 6) (Ab Ah (Aa 3) (bC (.int 2)))) (Ac)))))) [1,1,3,1,3,1,3] (R none)=.nx (R (some (ct ((AU t a b).map F),om))):=setF e1 (show 5 < 6 by decide) rfl;have e4:=VG (a:=A) (b:=B) (c:=C) (by omega) (by omega) hF.1;rw [hF.2] at e4;exact ⟨_,CC rfl ((AF (v1 (some (tb t,0)))).trans ((AF (v2 (some (tb t,0)))).trans ((AF v3).trans (CY (Dt (CP (x:=bx A B C) (d:=0) rfl (BI (BA (xs:=[(bx A B C,0),(ct ((AU t a b).map F),0)]) rfl e4))) rfl)))))⟩
def Vh (ha:1<=a/\a<=6) (hb:1<=b/\b<=6) (hc:1<=c/\c<=6) (p:Pile a b c t):∃ d,c_turned [bx a b c,tb t,.int 1]=.ok (.tup [bx b a c,tb (Bp t b)],d,.non):=Kc ha hb hc p (w:=1) (o1:=1) (o2:=0) (o3:=2) (F:=So) (λ s=>by kernel_rfl) (λ s=>by kernel_rfl) (λ s x=>rfl) hb.2 ha.2 (Tg p (by omega) (by omega))
def Vi (ha:1<=a/\a<=6) (hb:1<=b/\b<=6) (hc:1<=c/\c<=6) (p:Pile a b c t):∃ d,c_turned [bx a b c,tb t,.int 2]=.ok (.tup [bx b c a,tb (AQ t b c)],d,.non):=Kc ha hb hc p (w:=2) (o1:=1) (o2:=2) (o3:=0) (F:=Sn) (λ s=>by kernel_rfl) (λ s=>by kernel_rfl) (λ s x=>rfl) hb.2 hc.2 (Tf p (by omega) (by omega))
def Vj (ha:1<=a/\a<=6) (hb:1<=b/\b<=6) (hc:1<=c/\c<=6) (p:Pile a b c t):∃ d,c_turned [bx a b c,tb t,.int 4]=.ok (.tup [bx c a b,tb (CW t c)],d,.non):=Kc ha hb hc p (w:=4) (o1:=2) (o2:=0) (o3:=1) (F:=Ft) (λ s=>by kernel_rfl) (λ s=>by kernel_rfl) (λ s x=>rfl) hc.2 ha.2 (Td p (by omega) (by omega))
end
section
variable {a b c:Nat}{t u:List (List Int)}
def Pw (ht:Tab a b t):t=(An a).map λ i=>t.getD i []:=by
 refine SQ (by rw [Ax,CQ,ht.1]) λ i h1 h2=>?_;rw [List.getElem_map,SV,AH,BC h1];rfl
def vU {α β:Type}{f:Nat->α}{h:Nat->β} (n:Nat):((An n).map f).zip ((An n).map h)=(An n).map λ i=>(f i,h i):=by
 rw [List.zip_map,List.zip_eq_zipWith,List.zipWith_self,BB];rfl
end
def CK (m i:Int):Int:=if m > i then m else i
def UM {α:Type}{u v:List α}{x:Nat}{d:α}:(u++v).getD x d=if x < u.length then u.getD x d else v.getD (x - u.length) d:=by
 by_cases h:x < u.length
 ·rw [if_pos h,AH,DU h,<- AH]
 ·rw [if_neg h,AH,EX (by omega),<- AH]
def Zq {u v:List (List Int)}{x y:Nat}:g (u++v) x y=if x < u.length then g u x y else g v (x - u.length) y:=by
 unfold g;rw [UM];split <;> rfl
section
variable {a b c:Nat}{t:List (List Int)}
def Ir (a b h:Nat) (c:Int) (t:List (List Int)) (x y:Nat):Int:=if x < h then CK (c - c / 2) (g t x y) else c - CK (c - c / 2) (g t (a - 1 - x) (b - 1 - y))
def Iq (a b h:Nat) (c:Int) (t:List (List Int)) (x y:Nat):Int:=if y < h then CK (c - c / 2) (g t x y) else c - CK (c - c / 2) (g t (a - 1 - x) (b - 1 - y))
def kF {h:Nat} (p:Pile a b c t) (hh:a=2 * h):Pile a b c (Et a b (Ir a b h c t)):=by
 refine ⟨Ie,λ x y hx hy=>?_,λ x y hx hy=>?_,λ x y hx hy=>?_,λ x y hx hy=>?_⟩
 ·rw [Ce hx hy];unfold Ir CK
  have:=p.lo x y hx hy
  have:=p.hi (a - 1 - x) (b - 1 - y) (by omega) (by omega)
  split <;> split <;> omega
 ·rw [Ce hx hy];unfold Ir CK
  have:=p.hi x y hx hy
  have:=p.lo (a - 1 - x) (b - 1 - y) (by omega) (by omega)
  split <;> split <;> omega
 ·rw [Ce hx hy,Ce (by omega) hy];unfold Ir CK;have k1:=p.dn x y hx hy;have k2:=p.dn (a - 1 - (x + 1)) (b - 1 - y) (by omega) (by omega);rw [show a - 1 - (x + 1) + 1=a - 1 - x by omega] at k2;by_cases e1:x + 1 < h
  ·rw [if_pos e1,if_pos (show x < h by omega)];split <;> split <;> omega
  ·rw [if_neg e1];by_cases e2:x < h
   ·rw [if_pos e2];split <;> split <;> omega
   ·rw [if_neg e2];split <;> split <;> omega
 ·rw [Ce hx hy,Ce hx (by omega)];unfold Ir CK;have k1:=p.rt x y hx hy;have k2:=p.rt (a - 1 - x) (b - 1 - (y + 1)) (by omega) (by omega);rw [show b - 1 - (y + 1) + 1=b - 1 - y by omega] at k2;by_cases e2:x < h
  ·rw [if_pos e2,if_pos e2];split <;> split <;> omega
  ·rw [if_neg e2,if_neg e2];split <;> split <;> omega
def kG {h:Nat} (p:Pile a b c t) (hh:b=2 * h):Pile a b c (Et a b (Iq a b h c t)):=by
 refine ⟨Ie,λ x y hx hy=>?_,λ x y hx hy=>?_,λ x y hx hy=>?_,λ x y hx hy=>?_⟩
 ·rw [Ce hx hy];unfold Iq CK
  have:=p.lo x y hx hy
  have:=p.hi (a - 1 - x) (b - 1 - y) (by omega) (by omega)
  split <;> split <;> omega
 ·rw [Ce hx hy];unfold Iq CK
  have:=p.hi x y hx hy
  have:=p.lo (a - 1 - x) (b - 1 - y) (by omega) (by omega)
  split <;> split <;> omega
 ·rw [Ce hx hy,Ce (by omega) hy];unfold Iq CK;have k1:=p.dn x y hx hy;have k2:=p.dn (a - 1 - (x + 1)) (b - 1 - y) (by omega) (by omega);rw [show a - 1 - (x + 1) + 1=a - 1 - x by omega] at k2;by_cases e2:y < h
  ·rw [if_pos e2,if_pos e2];split <;> split <;> omega
  ·rw [if_neg e2,if_neg e2];split <;> split <;> omega
 ·rw [Ce hx hy,Ce hx (by omega)];unfold Iq CK;have k1:=p.rt x y hx hy;have k2:=p.rt (a - 1 - x) (b - 1 - (y + 1)) (by omega) (by omega);rw [show b - 1 - (y + 1) + 1=b - 1 - y by omega] at k2;by_cases e1:y + 1 < h
  ·rw [if_pos e1,if_pos (show y < h by omega)];split <;> split <;> omega
  ·rw [if_neg e1];by_cases e2:y < h
   ·rw [if_pos e2];split <;> split <;> omega
   ·rw [if_neg e2];split <;> split <;> omega
def DB (h:Nat) (m:Int) (t:List (List Int)):List (List Int):=(t.take h).map λ r=>r.map (CK m)
def Fj (h:Nat) (m:Int) (t:List (List Int)):List (List Int):=t.map λ r=>(r.take h).map (CK m)
def Uj {h:Nat}{m:Int} (ht:Tab a b t) (hh:h<=a):Tab h b (DB h m t):=by
 refine ⟨by unfold DB;rw [Ax,Ew,ht.1];omega,λ r hr=>?_⟩;obtain ⟨s,hs,rfl⟩:=je7.mp hr;rw [Ax];exact ht.2 s (OT hs)
def Uh {h:Nat}{m:Int} (ht:Tab a b t) (hh:h<=b):Tab a h (Fj h m t):=by
 refine ⟨by unfold Fj;rw [Ax,ht.1],λ r hr=>?_⟩;obtain ⟨s,hs,rfl⟩:=je7.mp hr;rw [Ax,Ew,ht.2 s hs];omega
def Ui {h:Nat}{m:Int} (ht:Tab a b t) (hh:h<=a) {x y:Nat} (hx:x < h) (hy:y < b):g (DB h m t) x y=CK m (g t x y):=by
 have e:(DB h m t).getD x []=(t.getD x []).map (CK m):=by
  unfold DB;rw [AH,C8,SU,if_pos hx,Gw (by rw [ht.1];omega)];rfl
 show ((DB h m t).getD x []).getD y 0=_;rw [e,PR (by rw [ht.row (by omega)];exact hy)];rfl
def kU {h:Nat}{m:Int} (ht:Tab a b t) (hh:h<=b) {x y:Nat} (hx:x < a) (hy:y < h):g (Fj h m t) x y=CK m (g t x y):=by
 have e:(Fj h m t).getD x []=((t.getD x []).take h).map (CK m):=by
  unfold Fj;rw [AH,C8,Gw (by rw [ht.1];omega)];rfl
 show ((Fj h m t).getD x []).getD y 0=_;rw [e,PR (by rw [Ew,ht.row (by omega)];omega),AH,SU,if_pos hy,<- AH];rfl
def xR {h:Nat} (ht:Tab a b t) (hh:a=2 * h):DB h ((c:Int) - (c:Int) / 2) t++Fl (DB h ((c:Int) - (c:Int) / 2) t) c=Et a b (Ir a b h c t):=by
 have h1:=Uj (m:=(c:Int) - (c:Int) / 2) ht (show h<=a by omega);have h2:Tab h b (Fl (DB h ((c:Int) - (c:Int) / 2) t) c):=Ut h1;refine FC ⟨by rw [BL,h1.1,h2.1];omega,λ r hr=>(jb2.mp hr).elim (h1.2 r) (h2.2 r)⟩ Ie λ x y hx hy=>?_;rw [Ce hx hy,Zq,h1.1];unfold Ir;by_cases e:x < h
 ·rw [if_pos e,if_pos e,Ui ht (by omega) e hy]
 ·rw [if_neg e,if_neg e,vL h1 (by omega) hy,Ui ht (by omega) (by omega) (by omega),show h - 1 - (x - h)=a - 1 - x by omega]
def xS {h:Nat} (ht:Tab a b t) (hh:b=2 * h):((Fj h ((c:Int) - (c:Int) / 2) t).zip (Fj h ((c:Int) - (c:Int) / 2) t).reverse).map (λ z=>z.1++z.2.reverse.map λ i=>(c:Int) - i)=Et a b (Iq a b h c t):=by
 have h1:=Uh (m:=(c:Int) - (c:Int) / 2) ht (show h<=b by omega);have hg:=λ {x y:Nat} hx hy=>kU (m:=(c:Int) - (c:Int) / 2) ht (show h<=b by omega) (x:=x) (y:=y) hx hy;generalize Fj h ((c:Int) - (c:Int) / 2) t=H at h1 hg;have er:H.reverse=(An a).map λ i=>H.getD (a - 1 - i) []:=by
  have hr:Tab a h H.reverse:=⟨by rw [EW];exact h1.1,λ r hr=>h1.2 r (jl4.mp hr)⟩
  rw [Pw hr];refine DG λ i hi=>?_
  have:=jc6.mp hi
  rw [N2 (by rw [h1.1];exact this),h1.1]
 have ez:H.zip H.reverse=(An a).map λ i=>(H.getD i [],H.getD (a - 1 - i) []):=by
  conv=>lhs;lhs;rw [Pw h1]
  rw [er,vU]
 rw [ez,BB];unfold Et;refine DG λ i hi=>?_;have hi:=jc6.mp hi;show H.getD i []++(H.getD (a - 1 - i) []).reverse.map (λ i=>(c:Int) - i)=_;have l1:=h1.row hi;have l2:=h1.row (i:=a - 1 - i) (by omega);refine Kp (by rw [BL,Ax,EW,l1,l2,Ax,CQ];omega) λ y hy=>?_;rw [BL,Ax,EW,l1,l2] at hy;rw [JZ (by omega),UM,l1];unfold Iq;by_cases e:y < h
 ·rw [if_pos e,if_pos e];exact hg hi e
 ·rw [if_neg e,if_neg e,AH,C8,DY (by rw [EW,l2];omega),N2 (by rw [l2];omega),l2];show (c:Int) - g H (a - 1 - i) (h - 1 - (y - h))=_;rw [hg (by omega) (by omega),show h - 1 - (y - h)=b - 1 - y by omega]
def kS (k:Int) (h0:0<=k) (h1:k<=c) (ht:Tab a b t):Pile a b c (t.map λ r=>r.map λ _=>k)/\True:=by
 have e:(t.map λ r=>r.map λ _=>k)=Et a b λ _ _=>k:=by
  rw [Pw ht,BB];unfold Et;refine DG λ i hi=>?_;show (t.getD i []).map (λ _=>k)=_;rw [OJ,OJ,ht.row (jc6.mp hi),CQ]
 rw [e];refine ⟨⟨Ie,λ x y hx hy=>?_,λ x y hx hy=>?_,λ x y hx hy=>?_,λ x y hx hy=>?_⟩,trivial⟩
 ·rw [Ce hx hy];exact h0
 ·rw [Ce hx hy];exact h1
 ·rw [Ce hx hy,Ce (by omega) hy];exact Hy _
 ·rw [Ce hx hy,Ce hx (by omega)];exact Hy _
def wo {r s:List (List Int)} (p:Pile a b c t) (q:Pile a b c r) (w:Pile a b c s) (hb:0 < b) (hc:0 < c):(∀ x∈(AU t a b).filter (λ x=>decide (x∈AU r a b) && decide (x∈AU s a b)),x.1 < a/\x.2.1 < b)/\Pile a b c (hT (C2 a b) ((AU t a b).filter λ x=>decide (x∈AU r a b) && decide (x∈AU s a b))):=by
 let Q (x:C3):Bool:=BM t x && (BM r x && BM s x);have e:(AU t a b).filter (λ x=>decide (x∈AU r a b) && decide (x∈AU s a b))=((An (a * b * c)).filter λ m=>Q (A6 b c m)).map λ m=>id (A6 b c m):=by
  have e1:(AU t a b).filter (λ x=>decide (x∈AU r a b) && decide (x∈AU s a b))=(AU t a b).filter λ x=>BM r x && BM s x:=EA λ x hx=>by
   obtain ⟨m1,m2,_⟩:=zmc.mp hx;have k:∀ u,decide (x∈AU u a b)=BM u x:=λ u=>by
    unfold BM;rw [Gg,decide_eq_true_iff,decide_eq_true_iff,zmc];exact ⟨λ z=>z.2.2,λ z=>⟨m1,m2,z⟩⟩
   rw [k,k]
  rw [e1,<- Lx p hb hc,Lq,KO,Yy];congr 1;refine EA λ m _=>?_;show (BM r (A6 b c m) && BM s (A6 b c m) && BM t (A6 b c m))=(BM t (A6 b c m) && (BM r (A6 b c m) && BM s (A6 b c m)));rw [XZ]
 rw [e];obtain ⟨q1,q2,q3⟩:=Jh (a:=a) (A:=a) (B:=b) (t0:=[]) Q id hb hc λ x h1 h2 h3=>⟨h1,h2⟩
 refine ⟨q1,?_⟩;have eq:hT (C2 a b) (((An (a * b * c)).filter λ m=>Q (A6 b c m)).map λ m=>id (A6 b c m))=Ge (Ge t r) s:=by
  have pl:=Nk p q;refine FC q2 (Nk pl w).tab λ x y hx hy=>?_;rw [q3 x y hx hy,Wo pl.tab w.tab hx hy,Wo p.tab q.tab hx hy];have g1:=p.lo x y hx hy;have g2:=q.lo x y hx hy;have g3:=w.lo x y hx hy;have g4:=p.hi x y hx hy;rw [FE hx λ i hi ne=>?_,FE hy λ j hj ne=>?_]
  ·let n:Nat:=(if g s x y < (if g r x y < g t x y then g r x y else g t x y) then g s x y else (if g r x y < g t x y then g r x y else g t x y)).toNat;have hn:(n:Int)=(if g s x y < (if g r x y < g t x y then g r x y else g t x y) then g s x y else (if g r x y < g t x y then g r x y else g t x y)):=by
    show (((if g s x y < (if g r x y < g t x y then g r x y else g t x y) then g s x y else (if g r x y < g t x y then g r x y else g t x y)).toNat:Nat):Int)=_;split <;> split <;> omega
   have k:((An c).filter λ k=>Q (x,y,k) && decide ((id (x,y,k):C3).1=x/\(id (x,y,k):C3).2.1=y))=(An c).filter λ k=>decide (k < n):=EA λ k _=>by
    rw [decide_eq_true (show (id (x,y,k):C3).1=x/\(id (x,y,k):C3).2.1=y from ⟨rfl,rfl⟩),HA];show (decide ((k:Int) < g t x y) && (decide ((k:Int) < g r x y) && decide ((k:Int) < g s x y)))=_;rw [Gg];simp only [A7,decide_eq_true_iff];split at hn <;> split at hn <;> omega
   rw [k,Lg n c (by split at hn <;> split at hn <;> omega),CQ];exact hn
  ·exact FG λ k _=>by rw [decide_eq_false (λ z=>ne z.2),Fw]
  ·have:∀ j,((An c).filter λ k=>Q (i,j,k) && decide ((id (i,j,k):C3).1=x/\(id (i,j,k):C3).2.1=y)).length=0:=λ j=>FG λ k _=>by rw [decide_eq_false (λ z=>ne z.1),Fw]
   simp only [this];exact Es b
 rw [eq];exact Nk (Nk p q) w
end
def qx {α:Type}{k:Nat}{f:Fx}{asg:PV->Ag->Option Ag}{test:Fb}{elt:Fx}{enc q:α->PV}{E:α->Ag}{e:α->Nat}{p:α->Bool}{ρ ρ1:Ag}{d:Nat} (xs:List α) (hf:f ρ=.ok (.lst (xs.map enc),d,ρ1)) (ha:∀ x∈xs,asg (enc x) (ρ1++Bg k none)=some (ρ1++E x))
  (ht:∀ x∈xs,test (ρ1++E x)=.ok (p x,ρ1++E x)) (he:∀ x∈xs,p x=true->elt (ρ1++E x)=.ok (q x,e x,ρ1++E x)) (hl:xs.length<=A2):∃ d',AO f k asg test elt ρ=.ok (.lst ((xs.filter p).map q),d',ρ1):=by
 unfold AO;rw [hf];dsimp only;rw [MR (p:=p) (q:=q) (e:=e) xs ρ1 [] ha ht he (by simpa using hl)];refine ⟨if Ey ((xs.filter p).map λ x=>(q x,e x))=true then om else 1,?_⟩;rw [JE];show CZ _ ρ1=_;unfold CZ;rw [BB];rfl
def Vn {α:Type}{e:α->PV} (xs:List α) (n:Nat) (h:n<=xs.length):By (xs.map e) none (some (n:Int))=(xs.take n).map e:=by
 unfold By;rw [HT.sIx_nat];show ((xs.map e).drop 0).take (min n (xs.map e).length - 0)=_;rw [SK,SG,Ax,Ye h,SI]
section
variable {a b c:Nat}{t:List (List Int)}
def M8:Fx:=Al DL (Ad (Aa 8) (Ad (Ab Ct (Ab Ah (Aa 0) (bC (.int 2))) (Ab C0 (Ab Ah (Aa 0) (bC (.int 2))) (bC (.int 2)))) (Ac)))
def UW {ρ:Ag}{i:Int} (h0:Aa 0 ρ=.ok (bx a b c,0,ρ)) (h8:Aa 8 ρ=.ok (.int i,om,ρ)):M8 ρ=.ok (.int (CK ((c:Int) - (c:Int) / 2) i),om,ρ):=by
 have hc:Ab Ah (Aa 0) (bC (.int 2)) ρ=.ok (.int (c:Int),om,ρ):=BV (y:=.int 2) (e:=om) h0 rfl rfl;exact Dt (CP h8 (BI (Jk hc (Je hc (j:=2) rfl (by decide) (by decide))))) rfl
def B0:Fs:=(Af (Ai false 3 (Ab Ah (Au c_turned (Ad (Aa 0) (Ad (Aa 1) (Ad (bC (.int 1)) (Ac))))) (bC (.int 1))) [0,1])
 (Ap (EI .zp (Ad (Aa 1) (Ad (Aa 3) (Ac))) 2 (AZ [7,8]) AA (EI .zp (Ad (Aa 7) (Ad (Aa 8) (Ac))) 2 (AZ [9,10]) AA (Al DL (Ad (Aa 9) (Ad (Aa 10) (Ac))))))))
def B1:Fs:=(Af (Ai false 4 (Au c_cubes (Ad (Ab Ah (Au c_turned (Ad (Aa 0) (Ad (Aa 1) (Ad (bC (.int 2)) (Ac))))) (bC (.int 1))) (Ac))) [0,1])
 (Af (Ai false 5 (Au c_cubes (Ad (Ab Ah (Au c_turned (Ad (Aa 0) (Ad (Aa 1) (Ad (bC (.int 4)) (Ac))))) (bC (.int 1))) (Ac))) [0,1])
 (Ap (Au c_of_cubes (Ad (Aa 0) (Ad (AO (Au c_cubes (Ad (Aa 1) (Ac))) 1 (Aj 7) (bT (BH (Ab (BF false) (Aa 7) (Aa 4)) (Ab (BF false) (Aa 7) (Aa 5)))) (Aa 7)) (Ac)))))))
def B2:Fs:=(Af (Ai false 6 (AO (CO (Aa 1) none (some (Ab C0 (Ab Ah (Aa 0) (bC (.int 0))) (bC (.int 2))))) 1 (Aj 7) AA (AO (Aa 7) 1 (Aj 8) AA M8)) [1,1,1,0,0])
 (Ap (Ab AS (Aa 6) (Au c_rest (Ad (Aa 0) (Ad (Aa 6) (Ac)))))))
def yN:Fs:=(Af (Ai false 6 (AO (Aa 1) 1 (Aj 7) AA (AO (CO (Aa 7) none (some (Ab C0 (Ab Ah (Aa 0) (bC (.int 1))) (bC (.int 2))))) 1 (Aj 8) AA M8)) [1,1,1,0,0])
 (Ap (EI .zp (Ad (Aa 6) (Ad (Ao BS (Aa 6)) (Ac))) 2 (AZ [7,8]) AA (Ab AS (Aa 7) (AO (Ao BS (Aa 8)) 1 (Aj 9) AA (Ab Ct (Ab Ah (Aa 0) (bC (.int 2))) (Aa 9)))))))
def B4:Fs:=(Ap (AO (Aa 1) 1 (Aj 7) AA (AO (Aa 7) 1 (Aj 8) AA (Ab C0 (Ab Ah (Aa 0) (bC (.int 2))) (bC (.int 2))))))
abbrev OR (a b c:Nat) (t:List (List Int)) (w:Int) (s3 s4 s5 s6:QQ.Slot):Ag:=[some (bx a b c,0),some (tb t,0),some (.int w,om),s3,s4,s5,s6]
def Zs {w:Int} (p:Pile a a c t) (ha:1<=a/\a<=6) (hc:1<=c/\c<=6):∃ t' d ρ',Pile a a c t'/\B0 (OR a a c t w none none none none)=.rt (tb t') d ρ':=by
 have z:=sz;obtain ⟨d,e1⟩:=Vh ha ha hc p;have pm:=Kq p;let m:=Bp t a;let R:Ag:=OR a a c t w (some (tb m,0)) none none none;have v1:Ai false 3 (Ab Ah (Au c_turned (Ad (Aa 0) (Ad (Aa 1) (Ad (bC (.int 1)) (Ac))))) (bC (.int 1))) [0,1] (OR a a c t w none none none none)=.nx R:=setF (x:=tb m) (d:=0) (BV (y:=.int 1) (e:=om) (BA (xs:=[(bx a a c,0),(tb t,0),(.int 1,om)]) rfl e1) rfl rfl) (show 3 < 7 by decide) rfl;have row:∀ (r s:List Int),r.length<=6->EI .zp (Ad (Aa 7) (Ad (Aa 8) (Ac))) 2 (AZ [9,10]) AA (Al DL (Ad (Aa 9) (Ad (Aa 10) (Ac)))) (R++[some (il r,0),some (il s,0)])=.ok (il (KG (λ i j=>if j > i then j else i) r s),om,R++[some (il r,0),some (il s,0)]):=λ r s hr=>by
  rw [R8 (enc:=λ (z:Int×Int)=>.tup [.int z.1,.int z.2]) (q:=λ z=>.int (if z.2 > z.1 then z.2 else z.1)) (E:=λ z=>[some (.int z.1,om),some (.int z.2,om)]) (r.zip s) rfl (by show some (BX (r.map PV.int) (s.map PV.int))=_;rw [Nq]) (λ _ _=>rfl) (λ z _=>rfl) (by rw [OI];omega)];show Rz.ok (PV.lst _,om,_)=Rz.ok (PV.lst ((KG (λ i j=>if j > i then j else i) r s).map PV.int),om,_);rw [<- List.map_uncurry_zip_eq_zipWith,BB];rfl
 have e2:=R8 (k:=2) (v:=.zp) (fa:=Ad (Aa 1) (Ad (Aa 3) (Ac))) (asg:=AZ [7,8]) (elt:=EI .zp (Ad (Aa 7) (Ad (Aa 8) (Ac))) 2 (AZ [9,10]) AA (Al DL (Ad (Aa 9) (Ad (Aa 10) (Ac))))) (enc:=λ (z:List Int×List Int)=>.tup [il z.1,il z.2]) (q:=λ z=>il (KG (λ i j=>if j > i then j else i) z.1 z.2)) (E:=λ z=>[some (il z.1,0),some (il z.2,0)]) (ρ:=R) (ρ1:=R) (as:=[(tb t,0),(tb m,0)]) (t.zip m) rfl (by show some (BX (t.map il) (m.map il))=_;rw [Nq]) (λ _ _=>rfl) (λ z hz=>row z.1 z.2 (by rw [p.tab.2 _ (IH hz).1];exact ha.2)) (by rw [OI,p.tab.1];omega);have e3:PV.lst ((t.zip m).map λ z=>il (KG (λ i j=>if j > i then j else i) z.1 z.2))=tb (zT (λ i j=>if j > i then j else i) t m):=by
  unfold tb zT;rw [BB];rfl
 rw [e3] at e2;exact ⟨_,_,_,WK _ (λ i j k m h1 h2=>by split <;> split <;> omega) (λ i j=>by split <;> simp) p pm,(AF v1).trans (CY e2)⟩
def Zu {w:Int} (p:Pile a a a t) (ha:1<=a/\a<=6):∃ t' d ρ',Pile a a a t'/\B1 (OR a a a t w none none none none)=.rt (tb t') d ρ':=by
 have z:=sz;obtain ⟨d2,e2⟩:=Vi ha ha ha p;obtain ⟨d4,e4⟩:=Vj ha ha ha p;have pr:Pile a a a (AQ t a a):=Nm p;have ps:Pile a a a (CW t a):=U5 p;let R0:Ag:=OR a a a t w none none none none;let c1:=AU (AQ t a a) a a;let c2:=AU (CW t a) a a;let R1:Ag:=OR a a a t w none (some (ct c1,om)) none none;let R2:Ag:=OR a a a t w none (some (ct c1,om)) (some (ct c2,om)) none;have v1:Ai false 4 (Au c_cubes (Ad (Ab Ah (Au c_turned (Ad (Aa 0) (Ad (Aa 1) (Ad (bC (.int 2)) (Ac))))) (bC (.int 1))) (Ac))) [0,1] R0=.nx R1:=setF (BA (BI (BV (z:=tb (AQ t a a)) (c:=0) (y:=.int 1) (e:=om) (BA (xs:=[(bx a a a,0),(tb t,0),(.int 2,om)]) rfl e2) rfl rfl)) (MQ pr ha.2 ha.2 ha.2)) (show 4 < 7 by decide) rfl;have v2:Ai false 5 (Au c_cubes (Ad (Ab Ah (Au c_turned (Ad (Aa 0) (Ad (Aa 1) (Ad (bC (.int 4)) (Ac))))) (bC (.int 1))) (Ac))) [0,1] R1=.nx R2:=setF (BA (BI (BV (z:=tb (CW t a)) (c:=0) (y:=.int 1) (e:=om) (BA (xs:=[(bx a a a,0),(tb t,0),(.int 4,om)]) rfl e4) rfl rfl)) (MQ ps ha.2 ha.2 ha.2)) (show 5 < 7 by decide) rfl;have k3:a * a<=6 * 6:=JC ha.2 ha.2;have k4:a * (a * a)<=6 * (6 * 6):=JC ha.2 k3;have cl:=MZ p (i:=a) (AW _);obtain ⟨d5,e5⟩:=qx (k:=1) (f:=Au c_cubes (Ad (Aa 1) (Ac))) (asg:=Aj 7) (test:=bT (BH (Ab (BF false) (Aa 7) (Aa 4)) (Ab (BF false) (Aa 7) (Aa 5)))) (elt:=Aa 7) (enc:=c3) (q:=c3) (E:=λ x=>[some (c3 x,0)]) (e:=λ _=>0) (p:=λ x=>decide (x∈c1) && decide (x∈c2)) (ρ:=R2) (AU t a a) (BA (xs:=[(tb t,0)]) rfl (MQ p ha.2 ha.2 ha.2)) (λ _ _=>rfl) (λ x _=>Bk (GD (UJ (x:=x) (cs:=c1) (d:=0) (e:=0) (ρ:=R2++[some (c3 x,0)]) rfl rfl) (λ _=>UJ (x:=x) (cs:=c2) (d:=0) (e:=0) (ρ:=R2++[some (c3 x,0)]) rfl rfl) rfl)) (λ _ _ _=>rfl) (by omega);obtain ⟨h1,h2⟩:=wo p pr ps (by omega) (by omega);have e6:=VG (a:=a) (b:=a) (c:=a) (by omega) (by omega) h1;exact ⟨_,_,_,h2,(AF v1).trans ((AF v2).trans (CY (BA (CP (x:=bx a a a) (d:=0) rfl (BI e5)) e6)))⟩
def Zw {w:Int}{h:Nat} (p:Pile a b c t) (ha:1<=a/\a<=6) (hb:1<=b/\b<=6) (hc:1<=c/\c<=6) (hh:a=2 * h):∃ t' d ρ',Pile a b c t'/\B2 (OR a b c t w none none none none)=.rt (tb t') d ρ':=by
 have z:=sz;let R0:Ag:=OR a b c t w none none none none;let mm:Int:=(c:Int) - (c:Int) / 2;have e0:Ab C0 (Ab Ah (Aa 0) (bC (.int 0))) (bC (.int 2)) R0=.ok (.int (h:Int),om,R0):=by
  rw [show (h:Int)=(a:Int) / 2 by omega];exact Je (i:=(a:Int)) (j:=2) (BV (x:=bx a b c) (d:=0) (y:=.int 0) (e:=om) rfl rfl rfl) rfl (by decide) (by decide)
 have e1:CO (Aa 1) none (some (Ab C0 (Ab Ah (Aa 0) (bC (.int 0))) (bC (.int 2)))) R0=.ok (.lst ((t.take h).map il),d1 ((t.take h).map il),R0):=by
  unfold CO;rw [show Aa 1 R0=.ok (tb t,0,R0) from rfl];dsimp only [Rz.bind,HH];rw [e0];show Rz.ok (PV.lst (By (t.map il) none (some (h:Int))),d1 (By (t.map il) none (some (h:Int))),R0)=_;rw [Vn _ _ (by rw [p.tab.1];omega)]
 have e2:=DJ (n:=7) (elt:=AO (Aa 7) 1 (Aj 8) AA M8) (enc:=il) (q:=λ r=>il (r.map (CK mm))) (t.take h) e1 rfl (λ r hr=>by
  have k:=DJ (n:=8) (f:=Aa 7) (elt:=M8) (enc:=PV.int) (q:=λ i=>.int (CK mm i)) (ρ:=R0++[some (il r,0)]) (ρ1:=R0++[some (il r,0)]) (d:=0) r rfl rfl (λ i _=>UW rfl rfl) (by rw [p.tab.2 r (OT hr)];omega);refine k.trans ?_;unfold il;rw [BB]
  rfl) (by rw [Ew,p.tab.1];omega)
 have e3:PV.lst ((t.take h).map λ r=>il (r.map (CK mm)))=tb (DB h mm t):=by
  unfold tb DB;rw [BB];rfl
 rw [e3] at e2;let R:Ag:=OR a b c t w none none none (some (tb (DB h mm t),om));have v1:Ai false 6 (AO (CO (Aa 1) none (some (Ab C0 (Ab Ah (Aa 0) (bC (.int 0))) (bC (.int 2))))) 1 (Aj 7) AA (AO (Aa 7) 1 (Aj 8) AA M8)) [1,1,1,0,0] R0=.nx R:=setF e2 (show 6 < 7 by decide) rfl;have th:=Uj (m:=mm) p.tab (show h<=a by omega);have tr:Tab h b (Fl (DB h mm t) c):=Ut th;have e4:=VX (f:=Aa 6) (h:=Au c_rest (Ad (Aa 0) (Ad (Aa 6) (Ac)))) (ρ:=R) (ρ1:=R) (xs:=(DB h mm t).map il) (ys:=(Fl (DB h mm t) c).map il) (d:=0) rfl (BA (xs:=[(bx a b c,0),(tb (DB h mm t),0)]) rfl (kh th (by omega) (by omega) _ _ _)) (by rw [Ax,Ax,th.1,tr.1];omega);have e5:PV.lst ((DB h mm t).map il++(Fl (DB h mm t) c).map il)=tb (Et a b (Ir a b h c t)):=by
  rw [<- ET,xR p.tab hh];rfl
 rw [e5] at e4;exact ⟨_,_,_,kF p hh,(AF v1).trans (CY e4)⟩
def Zx {w:Int}{h:Nat} (p:Pile a b c t) (ha:1<=a/\a<=6) (hb:1<=b/\b<=6) (hc:1<=c/\c<=6) (hh:b=2 * h):∃ t' d ρ',Pile a b c t'/\yN (OR a b c t w none none none none)=.rt (tb t') d ρ':=by
 have z:=sz;let R0:Ag:=OR a b c t w none none none none;let mm:Int:=(c:Int) - (c:Int) / 2;have e2:=DJ (n:=7) (f:=Aa 1) (elt:=AO (CO (Aa 7) none (some (Ab C0 (Ab Ah (Aa 0) (bC (.int 1))) (bC (.int 2))))) 1 (Aj 8) AA M8) (enc:=il) (q:=λ r=>il ((r.take h).map (CK mm))) (ρ:=R0) (ρ1:=R0) (d:=0) t rfl rfl (λ r hr=>by
  let V:Ag:=R0++[some (il r,0)];have hr':=p.tab.2 r hr;have e0:Ab C0 (Ab Ah (Aa 0) (bC (.int 1))) (bC (.int 2)) V=.ok (.int (h:Int),om,V):=by
   rw [show (h:Int)=(b:Int) / 2 by omega];exact Je (i:=(b:Int)) (j:=2) (BV (x:=bx a b c) (d:=0) (y:=.int 1) (e:=om) rfl rfl rfl) rfl (by decide) (by decide)
  have e1:CO (Aa 7) none (some (Ab C0 (Ab Ah (Aa 0) (bC (.int 1))) (bC (.int 2)))) V=.ok (.lst ((r.take h).map PV.int),d1 ((r.take h).map PV.int),V):=by
   unfold CO;rw [show Aa 7 V=.ok (il r,0,V) from rfl];dsimp only [Rz.bind,HH];rw [e0];show Rz.ok (PV.lst (By (r.map PV.int) none (some (h:Int))),d1 (By (r.map PV.int) none (some (h:Int))),V)=_;rw [Vn _ _ (by omega)]
  have k:=DJ (n:=8) (elt:=M8) (enc:=PV.int) (q:=λ i=>.int (CK mm i)) (r.take h) e1 rfl (λ i _=>UW rfl rfl) (by rw [Ew];omega);refine k.trans ?_;unfold il;rw [BB]
  rfl) (by rw [p.tab.1];omega)
 have e3:PV.lst (t.map λ r=>il ((r.take h).map (CK mm)))=tb (Fj h mm t):=by
  unfold tb Fj;rw [BB];rfl
 rw [e3] at e2;let H:=Fj h mm t;let R:Ag:=OR a b c t w none none none (some (tb H,om));have v1:Ai false 6 (AO (Aa 1) 1 (Aj 7) AA (AO (CO (Aa 7) none (some (Ab C0 (Ab Ah (Aa 0) (bC (.int 1))) (bC (.int 2))))) 1 (Aj 8) AA M8)) [1,1,1,0,0] R0=.nx R:=setF e2 (show 6 < 7 by decide) rfl;have th:Tab a h H:=Uh (m:=mm) p.tab (show h<=b by omega);have row:∀ (r s:List Int),r.length<=6->s.length<=6->Ab AS (Aa 7) (AO (Ao BS (Aa 8)) 1 (Aj 9) AA (Ab Ct (Ab Ah (Aa 0) (bC (.int 2))) (Aa 9))) (R++[some (il r,0),some (il s,0)])=.ok (il (r++s.reverse.map λ i=>(c:Int) - i),om,R++[some (il r,0),some (il s,0)]):=λ r s hr hs=>by
  let V:Ag:=R++[some (il r,0),some (il s,0)];have k:=DJ (n:=9) (f:=Ao BS (Aa 8)) (elt:=Ab Ct (Ab Ah (Aa 0) (bC (.int 2))) (Aa 9)) (enc:=PV.int) (q:=λ i=>.int ((c:Int) - i)) (ρ:=V) s.reverse (Oo (xs:=s) (enc:=PV.int) (d:=0) rfl) rfl (λ i _=>Jk (i:=(c:Int)) (j:=i) (d:=om) (e:=om) rfl rfl) (by rw [EW];omega);have k2:=VX (f:=Aa 7) (ρ:=V) (ρ1:=V) (xs:=r.map PV.int) (d:=0) rfl k (by rw [Ax,Ax,EW];omega);have k3:r.map PV.int++s.reverse.map (λ i=>PV.int ((c:Int) - i))=(r++s.reverse.map λ i=>(c:Int) - i).map PV.int:=by
   rw [ET,BB];rfl
  rw [k3,Lw] at k2;exact k2
 have e4:=R8 (k:=2) (v:=.zp) (fa:=Ad (Aa 6) (Ad (Ao BS (Aa 6)) (Ac))) (asg:=AZ [7,8]) (elt:=Ab AS (Aa 7) (AO (Ao BS (Aa 8)) 1 (Aj 9) AA (Ab Ct (Ab Ah (Aa 0) (bC (.int 2))) (Aa 9)))) (enc:=λ (z:List Int×List Int)=>.tup [il z.1,il z.2]) (q:=λ z=>il (z.1++z.2.reverse.map λ i=>(c:Int) - i)) (E:=λ z=>[some (il z.1,0),some (il z.2,0)]) (ρ:=R) (ρ1:=R) (H.zip H.reverse) (CP (x:=tb H) (d:=0) rfl (BI (Oo (xs:=H) (enc:=il) (d:=0) rfl))) (by show some (BX (H.map il) (H.reverse.map il))=_;rw [Nq]) (λ _ _=>rfl) (λ z hz=>row z.1 z.2 (by rw [th.2 _ (IH hz).1];omega) (by rw [th.2 _ (jl4.mp (IH hz).2)];omega)) (by rw [OI,th.1];omega);have e5:PV.lst ((H.zip H.reverse).map λ z=>il (z.1++z.2.reverse.map λ i=>(c:Int) - i))=tb (Et a b (Iq a b h c t)):=by
  rw [<- xS p.tab hh];unfold tb;rw [BB];rfl
 rw [e5] at e4;exact ⟨_,_,_,kG p hh,(AF v1).trans (CY e4)⟩
def ZP {w:Int} (p:Pile a b c t) (ha:1<=a/\a<=6) (hb:1<=b/\b<=6) (hc:1<=c/\c<=6):∃ t' d ρ',Pile a b c t'/\B4 (OR a b c t w none none none none)=.rt (tb t') d ρ':=by
 have z:=sz;let R0:Ag:=OR a b c t w none none none none;have e2:=DJ (n:=7) (f:=Aa 1) (elt:=AO (Aa 7) 1 (Aj 8) AA (Ab C0 (Ab Ah (Aa 0) (bC (.int 2))) (bC (.int 2)))) (enc:=il) (q:=λ r=>il (r.map λ _=>(c:Int) / 2)) (ρ:=R0) (ρ1:=R0) (d:=0) t rfl rfl (λ r hr=>by
  have k:=DJ (n:=8) (f:=Aa 7) (elt:=Ab C0 (Ab Ah (Aa 0) (bC (.int 2))) (bC (.int 2))) (enc:=PV.int) (q:=λ _=>.int ((c:Int) / 2)) (ρ:=R0++[some (il r,0)]) (ρ1:=R0++[some (il r,0)]) (d:=0) r rfl rfl (λ i _=>Je (i:=(c:Int)) (j:=2) (BV (x:=bx a b c) (d:=0) (y:=.int 2) (e:=om) rfl rfl rfl) rfl (by decide) (by decide)) (by rw [p.tab.2 r hr];omega);refine k.trans ?_;unfold il;rw [BB]
  rfl) (by rw [p.tab.1];omega)
 have e3:PV.lst (t.map λ r=>il (r.map λ _=>(c:Int) / 2))=tb (t.map λ r=>r.map λ _=>(c:Int) / 2):=by
  unfold tb;rw [BB];rfl
 rw [e3] at e2;exact ⟨_,_,_,(kS ((c:Int) / 2) (by omega) (by omega) p.tab).1,CY e2⟩
def zy {w:Int} (p:Pile a b c t) (ha:1<=a/\a<=6) (hb:1<=b/\b<=6) (hc:1<=c/\c<=6):∃ t' d,Pile a b c t'/\c_own [bx a b c,tb t,.int w]=.ok (tb t',d,.non):=by
 let R0:Ag:=OR a b c t w none none none none;have ew:∀ k:Int,Ab (Am false) (Aa 2) (bC (.int k)) R0=.ok (.bl (decide (w=k)),om,R0):=λ k=>by
  have:=Gy (neg:=false) (f:=Aa 2) (g:=bC (.int k)) (ρ:=R0) (ρ1:=R0) (ρ2:=R0) (i:=w) (j:=k) (d:=om) (e:=om) rfl rfl
  rw [JD] at this;exact this
 have ab':Ab (Am false) (Ab Ah (Aa 0) (bC (.int 0))) (Ab Ah (Aa 0) (bC (.int 1))) R0=.ok (.bl (decide ((a:Int)=b)),om,R0):=by
  have:=Gy (neg:=false) (f:=Ab Ah (Aa 0) (bC (.int 0))) (g:=Ab Ah (Aa 0) (bC (.int 1))) (ρ:=R0) (ρ1:=R0) (ρ2:=R0) (i:=(a:Int)) (j:=(b:Int)) (d:=om) (e:=om) rfl rfl
  rw [JD] at this;exact this
 have bc':Ab (Am false) (Ab Ah (Aa 0) (bC (.int 1))) (Ab Ah (Aa 0) (bC (.int 2))) R0=.ok (.bl (decide ((b:Int)=c)),om,R0):=by
  have:=Gy (neg:=false) (f:=Ab Ah (Aa 0) (bC (.int 1))) (g:=Ab Ah (Aa 0) (bC (.int 2))) (ρ:=R0) (ρ1:=R0) (ρ2:=R0) (i:=(b:Int)) (j:=(c:Int)) (d:=om) (e:=om) rfl rfl
  rw [JD] at this;exact this
 have ev:∀ (k:Int) (n:Nat),Ab Ah (Aa 0) (bC (.int k)) R0=.ok (.int (n:Int),om,R0)->Ab (Am false) (Ab AL (Ab Ah (Aa 0) (bC (.int k))) (bC (.int 2))) (bC (.int 0)) R0=.ok (.bl (decide ((n:Int) % 2=0)),om,R0):=λ k n h=>by
  have:=Gy (neg:=false) (DX h (g:=bC (.int 2)) (j:=2) (e:=om) rfl (by decide)) (g:=bC (.int 0)) (j:=0) (e:=om) rfl
  rw [JD] at this;exact this
 have T0:=Bk (GD (ew 0) (λ _=>ab') rfl);have T1:=Bk (GD (ew 1) (λ _=>GD ab' (λ _=>bc') rfl) rfl);have T2:=Bk (GD (ew 2) (λ _=>ev 0 a rfl) rfl);have T3:=Bk (GD (ew 3) (λ _=>ev 1 b rfl) rfl);have T4:=Bk (ew 4);have goT:∀ {C:Fb}{B:Fs}{G:Fs},C R0=.ok (true,R0)->(∃ t' d ρ',Pile a b c t'/\B R0=.rt (tb t') d ρ')->∃ t' d ρ',Pile a b c t'/\Af (AG C B Aq) G R0=.rt (tb t') d ρ':=λ hC ⟨t',d,ρ',hp,e⟩=>⟨t',d,ρ',hp,Kh ((Cq hC).trans e)⟩
 have goF:∀ {C:Fb}{B:Fs}{G:Fs},C R0=.ok (false,R0)->(∃ t' d ρ',Pile a b c t'/\G R0=.rt (tb t') d ρ')->∃ t' d ρ',Pile a b c t'/\Af (AG C B Aq) G R0=.rt (tb t') d ρ':=λ hC ⟨t',d,ρ',hp,e⟩=>⟨t',d,ρ',hp,(J5 hC).trans e⟩
 have main:∃ t' d ρ',Pile a b c t'/\Xc_own R0=.rt (tb t') d ρ':=by
  cases h0:decide (w=0) && decide ((a:Int)=b) with
  | true=>
   rw [h0] at T0;refine goT T0 ?_;have e:a=b:=by
    have:=(A7 _ _ ▸ h0).2
    rw [decide_eq_true_iff] at this;omega
   subst e;exact Zs p ha hc
  | false=>
   rw [h0] at T0;refine goF T0 ?_;cases h1:decide (w=1) && (decide ((a:Int)=b) && decide ((b:Int)=c)) with
   | true=>
    rw [h1] at T1;refine goT T1 ?_;rw [A7,A7,decide_eq_true_iff,decide_eq_true_iff,decide_eq_true_iff] at h1;obtain rfl:a=b:=by omega
    obtain rfl:a=c:=by omega
    exact Zu p ha
   | false=>
    rw [h1] at T1;refine goF T1 ?_;cases h2:decide (w=2) && decide ((a:Int) % 2=0) with
    | true=>
     rw [h2] at T2;rw [A7,decide_eq_true_iff,decide_eq_true_iff] at h2;exact goT T2 (Zw (h:=a / 2) p ha hb hc (by omega))
    | false=>
     rw [h2] at T2;refine goF T2 ?_;cases h3:decide (w=3) && decide ((b:Int) % 2=0) with
     | true=>
      rw [h3] at T3;rw [A7,decide_eq_true_iff,decide_eq_true_iff] at h3;exact goT T3 (Zx (h:=b / 2) p ha hb hc (by omega))
     | false=>
      rw [h3] at T3;refine goF T3 ?_;cases h4:decide (w=4) with
      | true=>rw [h4] at T4;exact goT T4 (ZP p ha hb hc)
      | false=>rw [h4] at T4;exact goF T4 ⟨t,0,R0,p,rfl⟩
 obtain ⟨t',d,ρ',hp,e⟩:=main;exact ⟨t',d,hp,CC rfl e⟩
end
end QV
namespace K51
open PySem PySem.Spec PyProof.Rows L2 QQ
theorem Ll {α:Type}{x:Option α}{d:α} (h:x.isSome=true):x=some (x.getD d):=by
 cases x with
 | none=>cases h
 | some a=>rfl
abbrev GT:=List (Str×(Bool×Nat×Fn))
abbrev mS (N:List Str) (t:Stmt) (m:List Nat) (G:GT):Sx:=⟨N,AE t,m,[],G,[],true,[0,1,2,3,4,5,6,7,8,9,10,11],[]⟩
def G0:GT:=[]
def S0:Sx:=⟨["thing"],AE t0,[],[],G0,[],false,[],[]⟩
abbrev b0:Fs:=QV.Xf_is_whole_number
abbrev F0:Fn:=QV.f_is_whole_number
def h0:Bt (Az 60 S0) (Bv t0)=some b0:=by kernel_rfl
def G1:GT:=[("is_whole_number",(false,1,F0))]
def S1:Sx:=⟨["thing"],AE t1,[],[],G1,[],false,[],[]⟩
abbrev b1:Fs:=QV.Xf_is_box
abbrev F1:Fn:=QV.f_is_box
def h1:Bt (Az 60 S1) (Bv t1)=some b1:=by kernel_rfl
def G2:GT:=[("is_box",(false,1,F1))]
def S2:Sx:=⟨["box"],AE t2,[],[],G2,[],false,[],[]⟩
abbrev b2:Fs:=QV.Xf_must_be_box
abbrev F2:Fn:=QV.f_must_be_box
def h2:Bt (Az 60 S2) (Bv t2)=some b2:=by kernel_rfl
def G3:GT:=[("is_whole_number",(false,1,F0))]
def S3:Sx:=⟨["thing","columns","height"],AE t3,[],[],G3,[],false,[],[]⟩
abbrev b3:Fs:=QV.Xf_is_row_of_heights
abbrev F3:Fn:=QV.f_is_row_of_heights
def h3:Bt (Az 60 S3) (Bv t3)=some b3:=by kernel_rfl
def G4:GT:=[]
def S4:Sx:=⟨["numbers"],AE t4,[],[],G4,[],false,[],[]⟩
abbrev b4:Fs:=QV.Xf_never_rises
abbrev F4:Fn:=QV.f_never_rises
def h4:Bt (Az 60 S4) (Bv t4)=some b4:=by kernel_rfl
def G5:GT:=[]
def S5:Sx:=⟨["table","j"],AE t5,[],[],G5,[],false,[],[]⟩
abbrev b5:Fs:=QV.Xf_column_of
abbrev F5:Fn:=QV.f_column_of
def h5:Bt (Az 60 S5) (Bv t5)=some b5:=by kernel_rfl
def G6:GT:=[("must_be_box",(false,1,F2)),("is_row_of_heights",(false,3,F3)),("never_rises",(false,1,F4)),("column_of",(false,2,F5))]
def S6:Sx:=⟨["box","thing","rows","columns","height"],AE t6,[],[],G6,[],false,[],[]⟩
abbrev b6:Fs:=QV.Xf_is_pile
abbrev F6:Fn:=QV.f_is_pile
def h6:Bt (Az 60 S6) (Bv t6)=some b6:=by kernel_rfl
def G7:GT:=[("is_pile",(false,2,F6))]
def S7:Sx:=⟨["box","pile"],AE t7,[],[],G7,[],false,[],[]⟩
abbrev b7:Fs:=QV.Xf_must_be_pile
abbrev F7:Fn:=QV.f_must_be_pile
def h7:Bt (Az 60 S7) (Bv t7)=some b7:=by kernel_rfl
def G8:GT:=[("column_of",(false,2,F5)),("must_be_pile",(false,2,F7))]
def S8:Sx:=⟨["box","pile"],AE t8,[],[],G8,[],false,[],[]⟩
abbrev b8:Fs:=QV.Xf_mirrored_pile
abbrev F8:Fn:=QV.f_mirrored_pile
def h8:Bt (Az 60 S8) (Bv t8)=some b8:=by kernel_rfl
def G9:GT:=[]
def S9:Sx:=⟨["numbers","level"],AE t9,[],[],G9,[],false,[],[]⟩
abbrev b9:Fs:=QV.Xf_how_many_above
abbrev F9:Fn:=QV.f_how_many_above
def h9:Bt (Az 60 S9) (Bv t9)=some b9:=by kernel_rfl
def yM:GT:=[("column_of",(false,2,F5)),("must_be_pile",(false,2,F7)),("how_many_above",(false,2,F9))]
def S10:Sx:=⟨["box","pile","rolled","j","column"],AE Ep,[],[],yM,[],false,[],[]⟩
abbrev y3:Fs:=QV.Xf_rolled_pile
abbrev Pc:Fn:=QV.f_rolled_pile
def wY:Bt (Az 60 S10) (Bv Ep)=some y3:=by kernel_rfl
def yL:GT:=[]
def S11:Sx:=⟨["pile"],AE DO,[],[],yL,[],false,[],[]⟩
abbrev y2:Fs:=QV.Xf_copy_of
abbrev Ld:Fn:=QV.f_copy_of
def wX:Bt (Az 60 S11) (Bv DO)=some y2:=by kernel_rfl
def yK:GT:=[("mirrored_pile",(false,2,F8))]
def S12:Sx:=⟨["form","box","pile","rows","columns","height"],AE Iz,[],[],yK,[],false,[],[]⟩
def YG:Fs:=(Af (Cn (AZ [1,2]) (Aa 0) [0])
 (Af (Cn (AZ [3,4,5]) (Aa 1) [1])
 (Ap (Al Cd (Ad (Al Cd (Ad (Aa 4) (Ad (Aa 3) (Ad (Aa 5) (Ac))))) (Ad (Au F8 (Ad (Aa 1) (Ad (Aa 2) (Ac)))) (Ac)))))))
def JV:Fn:=Ay false 1 5 YG
def La:Bt (Az 60 S12) (Bv Iz)=some YG:=by kernel_rfl
def yJ:GT:=[("rolled_pile",(false,2,Pc))]
def S13:Sx:=⟨["form","box","pile","rows","columns","height"],AE NY,[],[],yJ,[],false,[],[]⟩
def YF:Fs:=(Af (Cn (AZ [1,2]) (Aa 0) [0])
 (Af (Cn (AZ [3,4,5]) (Aa 1) [1])
 (Ap (Al Cd (Ad (Al Cd (Ad (Aa 4) (Ad (Aa 5) (Ad (Aa 3) (Ac))))) (Ad (Au Pc (Ad (Aa 1) (Ad (Aa 2) (Ac)))) (Ac)))))))
def HW:Fn:=Ay false 1 5 YF
def wW:Bt (Az 60 S13) (Bv NY)=some YF:=by kernel_rfl
def yI:GT:=[("must_be_pile",(false,2,F7)),("copy_of",(false,1,Ld)),("mirrored_form",(false,1,JV)),("rolled_form",(false,1,HW))]
def S14:Sx:=⟨["box","pile","form","forms","first","once","other"],AE NX,[],[],yI,[],false,[],[]⟩
def OY:Fs:=(Af (E3 (Au F7 (Ad (Aa 0) (Ad (Aa 1) (Ac)))))
 (Af (Ai false 2 (Al Cd (Ad (Aa 0) (Ad (Au Ld (Ad (Aa 1) (Ac))) (Ac)))) [0,1])
 (Af (Ai false 3 (Al Bs (Ac)) [])
 (Af (GA [2] (Au JV (Ad (Aa 2) (Ac))) 4 (Af (Ai false 5 (Au HW (Ad (Aa 4) (Ac))) [4])
 (GA [4,5] (Au HW (Ad (Aa 5) (Ac))) 6 (AG (bT (Ab (BF true) (Aa 6) (Aa 3))) (Mn 3 6) Aq))))
 (Ip 3)))))
def GW:Fn:=Ay false 2 5 OY
def wV:Bt (Az 60 S14) (Bv NX)=some OY:=by kernel_rfl
def yH:GT:=[]
def S15:Sx:=⟨["script","k"],AE NW,[],[],yH,[],false,[],[]⟩
abbrev y1:Fs:=QV.Xb_cell_at
abbrev Pb:Fn:=QV.b_cell_at
def wU:Bt (Az 60 S15) (Bv NW)=some y1:=by kernel_rfl
def yG:GT:=[]
def S16:Sx:=⟨["cell","many","found","rest","stir","k","again"],AE NV,[],[],yG,[],false,[],[]⟩
abbrev y0:Fs:=QV.Xc_numbers
abbrev Pa:Fn:=QV.c_numbers
def wR:Bt (Az 60 S16) (Bv NV)=some y0:=by kernel_rfl
def yF:GT:=[]
def S17:Sx:=⟨["xs","box"],AE NU,[],[],yF,[],false,[],[]⟩
abbrev yz:Fs:=QV.Xc_box
abbrev OZ:Fn:=QV.c_box
def wQ:Bt (Az 60 S17) (Bv NU)=some yz:=by kernel_rfl
def yE:GT:=[]
def S18:Sx:=⟨["box","xs","pile","i","row","j","top","number"],AE NT,[],[],yE,[],false,[],[]⟩
abbrev yx:Fs:=QV.Xc_pile
abbrev MK:Fn:=QV.c_pile
def wO:Bt (Az 60 S18) (Bv NT)=some yx:=by kernel_rfl
def yD:GT:=[]
def S19:Sx:=⟨["pile","cubes","i","j"],AE NS,[],[],yD,[],false,[],[]⟩
abbrev yw:Fs:=QV.Xc_cubes
abbrev T6:Fn:=QV.c_cubes
def wN:Bt (Az 60 S19) (Bv NS)=some yw:=by kernel_rfl
def yC:GT:=[]
def S20:Sx:=⟨["box","cubes","pile","i","j","k"],AE NR,[],[],yC,[],false,[],[]⟩
abbrev yv:Fs:=QV.Xc_of_cubes
abbrev T5:Fn:=QV.c_of_cubes
def wM:Bt (Az 60 S20) (Bv NR)=some yv:=by kernel_rfl
def yB:GT:=[("_law_cubes",(false,1,T6)),("_law_of_cubes",(false,2,T5))]
def S21:Sx:=⟨["box","pile","way","order","new","cubes"],AE NQ,[],[],yB,[],false,[],[]⟩
abbrev yu:Fs:=QV.Xc_turned
abbrev JU:Fn:=QV.c_turned
def wL:Bt (Az 60 S21) (Bv NQ)=some yu:=by kernel_rfl
def yA:GT:=[]
def S22:Sx:=⟨["box","pile"],AE NP,[],[],yA,[],false,[],[]⟩
abbrev yt:Fs:=QV.Xc_rest
abbrev YN:Fn:=QV.c_rest
def wK:Bt (Az 60 S22) (Bv NP)=some yt:=by kernel_rfl
def y9:GT:=[("_law_cubes",(false,1,T6)),("_law_of_cubes",(false,2,T5)),("_law_turned",(false,3,JU)),("_law_rest",(false,2,YN))]
def S23:Sx:=⟨["box","pile","way","other","one","two","half"],AE NO,[],[],y9,[],false,[],[]⟩
abbrev yr:Fs:=QV.Xc_own
abbrev MJ:Fn:=QV.c_own
def wJ:Bt (Az 60 S23) (Bv NO)=some yr:=by kernel_rfl
def Ra:Fn:=λ _=>.no
def Zd:GT:=[("_law_alike",(false,2,Ra))]
def Rb:Sx:=⟨["found","due"],AE DN,[],[],Zd,[],false,[],[]⟩
def Ri:Fs:=(Bt (Az 60 Rb) (Bv DN)).getD Aq
def Md:Fn:=Ay false 2 0 Ri
def Z0:Bt (Az 60 Rb) (Bv DN)=some Ri:=Ll (by decide +kernel)
def Ze:GT:=[("_law_alike",(false,2,Md))]
def Rc:Sx:=⟨["found","due"],AE DN,[],[],Ze,[],false,[],[]⟩
def Rj:Fs:=(Bt (Az 60 Rc) (Bv DN)).getD Aq
def Me:Fn:=Ay false 2 0 Rj
def Z1:Bt (Az 60 Rc) (Bv DN)=some Rj:=Ll (by decide +kernel)
def Zg:GT:=[("_law_alike",(false,2,Me))]
def Rf:Sx:=⟨["found","due"],AE DN,[],[],Zg,[],false,[],[]⟩
def Rk:Fs:=(Bt (Az 60 Rf) (Bv DN)).getD Aq
def Mf:Fn:=Ay false 2 0 Rk
def Z2:Bt (Az 60 Rf) (Bv DN)=some Rk:=Ll (by decide +kernel)
def Zh:GT:=[("_law_alike",(false,2,Mf))]
def Rg:Sx:=⟨["found","due"],AE DN,[],[],Zh,[],false,[],[]⟩
def Rl:Fs:=(Bt (Az 60 Rg) (Bv DN)).getD Aq
def Mg:Fn:=Ay false 2 0 Rl
def Z3:Bt (Az 60 Rg) (Bv DN)=some Rl:=Ll (by decide +kernel)
def Zi:GT:=[("_law_alike",(false,2,Mg))]
def Ob:Sx:=⟨["found","due"],AE DN,[],[],Zi,[],false,[],[]⟩
def Rm:Fs:=(Bt (Az 60 Ob) (Bv DN)).getD Aq
def Oa:Fn:=Ay false 2 0 Rm
def Z4:Bt (Az 60 Ob) (Bv DN)=some Rm:=Ll (by decide +kernel)
abbrev HV:Fn:=Oa
abbrev S24:Sx:=Ob
def y8:GT:=[("_law_turned",(false,3,JU))]
def S25:Sx:=⟨["box","pile","found","way","form"],AE NN,[],[],y8,[],false,[],[]⟩
def OX:Fs:=(Af (Ai false 2 (Al Bs (Ac)) [])
 (Af (CD AJ (Ad (bC (.int 6)) (Ac)) (Aj 3) (Af (Ai false 4 (Au JU (Ad (Aa 0) (Ad (Aa 1) (Ad (Aa 3) (Ac))))) [0,1,3])
 (AG (bT (Ab (BF true) (Aa 4) (Aa 2))) (BE 2 (Aa 4) [4]) Aq)))
 (Ap (Al Jj (Ad (Aa 2) (Ac))))))
def IW:Fn:=Ay false 2 3 OX
def wI:Bt (Az 60 S25) (Bv NN)=some OX:=by kernel_rfl
def y7:GT:=[("forms_of",(false,2,GW)),("_law_cell_at",(false,2,Pb)),("_law_numbers",(false,2,Pa)),("_law_box",(false,1,OZ)),("_law_pile",(false,2,MK)),("_law_own",(false,3,MJ)),("_law_alike",(false,2,HV)),("_law_forms",(false,2,IW))]
def S26:Sx:=⟨["script","k","xs","box","pile","handed","found","due","marked","number","at","i","one"],AE LX,[],[],y7,[],false,[],[]⟩
def OW:Fs:=(Af (CD AJ (Ad (Al DL (Ad (bC (.int 1)) (Ad (Al EC (Ad (Al Bj (Ad (Aa 0) (Ac))) (Ad (bC (.int 12)) (Ac)))) (Ac)))) (Ac)) (Aj 1) (Af (Ai false 2 (Au Pa (Ad (Au Pb (Ad (Aa 0) (Ad (Aa 1) (Ac)))) (Ad (bC (.int 46)) (Ac)))) [0,1])
 (Af (Ai false 3 (Au OZ (Ad (CO (Aa 2) (some (bC (.int 38))) (some (bC (.int 42)))) (Ac))) [2])
 (Af (Ai false 4 (Au MJ (Ad (Aa 3) (Ad (Au MK (Ad (Aa 3) (Ad (Aa 2) (Ac)))) (Ad (Ab AL (Ab Ah (Aa 2) (bC (.int 42))) (bC (.int 12))) (Ac))))) [3,3,2,2])
 (Af (Ai false 5 (AO (Aa 4) 1 (Aj 13) AA (Al EB (Ad (Aa 13) (Ac)))) [4,4])
 (Af (Ai false 6 (Au GW (Ad (Aa 3) (Ad (Aa 5) (Ac)))) [3,5])
 (Af (Ai false 7 (Au IW (Ad (Aa 3) (Ad (Aa 4) (Ac)))) [3,4])
 (Af (AG (bT (AI (Ao BU (Au HV (Ad (Aa 6) (Ad (Aa 7) (Ac))))) (Ab (Am true) (Aa 5) (Aa 4)))) (Ap (bC (.bl false))) Aq)
 (Af (Ai false 8 (AO (Aa 7) 1 (Aj 13) AA (Al Cd (Ad (Ab Ah (Aa 13) (bC (.int 0))) (Ad (AO (Ab Ah (Aa 13) (bC (.int 1))) 1 (Aj 14) AA (Al EB (Ad (Aa 14) (Ac)))) (Ac))))) [7,7,7,7])
 (Af (Ai false 9 (bC (.int 0)) [])
 (Af (CD AJ (Ad (Al Bj (Ad (Aa 6) (Ac))) (Ac)) (Aj 10) (CD AJ (Ad (Al Bj (Ad (Ab Ah (Ab Ah (Aa 6) (Aa 10)) (bC (.int 1))) (Ac))) (Ac)) (Aj 11) (Af (FQ 6 10 11 9)
 (Af (FQ 8 10 11 9)
 (Ai false 9 (Ab AS (Aa 9) (bC (.int 1))) [9])))))
 (Af (AG (bT (Ab (Am true) (Aa 6) (Aa 8))) (Ap (bC (.bl false))) Aq)
 (Af (J2 6 12 (Hh 12))
 (Af (ER 6)
 (AG (bT (AI (Ab (Am true) (Aa 5) (Aa 4)) (Ao BU (Au HV (Ad (Au GW (Ad (Aa 3) (Ad (Aa 5) (Ac)))) (Ad (Aa 7) (Ac))))))) (Ap (bC (.bl false))) Aq)))))))))))))))
 (Ap (bC (.bl true))))
def F26:Fn:=Ay false 1 12 OW
def wH:Bt (Az 60 S26) (Bv LX)=some OW:=by kernel_rfl
def jz:Ri=(Af (AG (bT (AI (Ao (AK "tuple") (Aa 1)) (Ao (AK "list") (Aa 1)))) (Af (AG (bT (AI (Ab (Am true) (Ao (AK "tuple") (Aa 0)) (Ao (AK "tuple") (Aa 1))) (Ab (Am true) (Ao (AK "list") (Aa 0)) (Ao (AK "list") (Aa 1))))) (Ap (bC (.bl false))) Aq)
 (Af (AG (bT (Ab (Am true) (Al Bj (Ad (Aa 0) (Ac))) (Al Bj (Ad (Aa 1) (Ac))))) (Ap (bC (.bl false))) Aq)
 (Ap (Ab (Am false) (Cj AJ (Ad (Al Bj (Ad (Aa 1) (Ac))) (Ac)) 1 (Aj 2) (bT (Ao BU (Au Ra (Ad (Ab Ah (Aa 0) (Aa 2)) (Ad (Ab Ah (Aa 1) (Aa 2)) (Ac)))))) (Aa 2)) (Al Bs (Ac)))))) Aq)
 (Ap (BH (Ao (AK "int") (Aa 0)) (BH (Ao BU (Ao (AK "bool") (Aa 0))) (Ab (Am false) (Aa 0) (Aa 1)))))):=by kernel_rfl
def j0:Rj=(Af (AG (bT (AI (Ao (AK "tuple") (Aa 1)) (Ao (AK "list") (Aa 1)))) (Af (AG (bT (AI (Ab (Am true) (Ao (AK "tuple") (Aa 0)) (Ao (AK "tuple") (Aa 1))) (Ab (Am true) (Ao (AK "list") (Aa 0)) (Ao (AK "list") (Aa 1))))) (Ap (bC (.bl false))) Aq)
 (Af (AG (bT (Ab (Am true) (Al Bj (Ad (Aa 0) (Ac))) (Al Bj (Ad (Aa 1) (Ac))))) (Ap (bC (.bl false))) Aq)
 (Ap (Ab (Am false) (Cj AJ (Ad (Al Bj (Ad (Aa 1) (Ac))) (Ac)) 1 (Aj 2) (bT (Ao BU (Au Md (Ad (Ab Ah (Aa 0) (Aa 2)) (Ad (Ab Ah (Aa 1) (Aa 2)) (Ac)))))) (Aa 2)) (Al Bs (Ac)))))) Aq)
 (Ap (BH (Ao (AK "int") (Aa 0)) (BH (Ao BU (Ao (AK "bool") (Aa 0))) (Ab (Am false) (Aa 0) (Aa 1)))))):=by kernel_rfl
def j4:Rk=(Af (AG (bT (AI (Ao (AK "tuple") (Aa 1)) (Ao (AK "list") (Aa 1)))) (Af (AG (bT (AI (Ab (Am true) (Ao (AK "tuple") (Aa 0)) (Ao (AK "tuple") (Aa 1))) (Ab (Am true) (Ao (AK "list") (Aa 0)) (Ao (AK "list") (Aa 1))))) (Ap (bC (.bl false))) Aq)
 (Af (AG (bT (Ab (Am true) (Al Bj (Ad (Aa 0) (Ac))) (Al Bj (Ad (Aa 1) (Ac))))) (Ap (bC (.bl false))) Aq)
 (Ap (Ab (Am false) (Cj AJ (Ad (Al Bj (Ad (Aa 1) (Ac))) (Ac)) 1 (Aj 2) (bT (Ao BU (Au Me (Ad (Ab Ah (Aa 0) (Aa 2)) (Ad (Ab Ah (Aa 1) (Aa 2)) (Ac)))))) (Aa 2)) (Al Bs (Ac)))))) Aq)
 (Ap (BH (Ao (AK "int") (Aa 0)) (BH (Ao BU (Ao (AK "bool") (Aa 0))) (Ab (Am false) (Aa 0) (Aa 1)))))):=by kernel_rfl
def j5:Rl=(Af (AG (bT (AI (Ao (AK "tuple") (Aa 1)) (Ao (AK "list") (Aa 1)))) (Af (AG (bT (AI (Ab (Am true) (Ao (AK "tuple") (Aa 0)) (Ao (AK "tuple") (Aa 1))) (Ab (Am true) (Ao (AK "list") (Aa 0)) (Ao (AK "list") (Aa 1))))) (Ap (bC (.bl false))) Aq)
 (Af (AG (bT (Ab (Am true) (Al Bj (Ad (Aa 0) (Ac))) (Al Bj (Ad (Aa 1) (Ac))))) (Ap (bC (.bl false))) Aq)
 (Ap (Ab (Am false) (Cj AJ (Ad (Al Bj (Ad (Aa 1) (Ac))) (Ac)) 1 (Aj 2) (bT (Ao BU (Au Mf (Ad (Ab Ah (Aa 0) (Aa 2)) (Ad (Ab Ah (Aa 1) (Aa 2)) (Ac)))))) (Aa 2)) (Al Bs (Ac)))))) Aq)
 (Ap (BH (Ao (AK "int") (Aa 0)) (BH (Ao BU (Ao (AK "bool") (Aa 0))) (Ab (Am false) (Aa 0) (Aa 1)))))):=by kernel_rfl
def j6:Rm=(Af (AG (bT (AI (Ao (AK "tuple") (Aa 1)) (Ao (AK "list") (Aa 1)))) (Af (AG (bT (AI (Ab (Am true) (Ao (AK "tuple") (Aa 0)) (Ao (AK "tuple") (Aa 1))) (Ab (Am true) (Ao (AK "list") (Aa 0)) (Ao (AK "list") (Aa 1))))) (Ap (bC (.bl false))) Aq)
 (Af (AG (bT (Ab (Am true) (Al Bj (Ad (Aa 0) (Ac))) (Al Bj (Ad (Aa 1) (Ac))))) (Ap (bC (.bl false))) Aq)
 (Ap (Ab (Am false) (Cj AJ (Ad (Al Bj (Ad (Aa 1) (Ac))) (Ac)) 1 (Aj 2) (bT (Ao BU (Au Mg (Ad (Ab Ah (Aa 0) (Aa 2)) (Ad (Ab Ah (Aa 1) (Aa 2)) (Ac)))))) (Aa 2)) (Al Bs (Ac)))))) Aq)
 (Ap (BH (Ao (AK "int") (Aa 0)) (BH (Ao BU (Ao (AK "bool") (Aa 0))) (Ab (Am false) (Aa 0) (Aa 1)))))):=by kernel_rfl
end K51
namespace QV
open PySem PySem.Spec PyProof.Rows L2 QQ
section
variable {a b c:Nat}{t:List (List Int)}
def GN (x:C3):C3:=(x.1,x.2.1,x.2.2)
def IE (x:C3):C3:=(x.2.2,x.2.1,x.1)
def GL (x:C3):C3:=(x.1,x.2.2,x.2.1)
def Pp (p:Pile a b c t) (hb:0 < b) (hc:0 < c) (F:C3->C3):(AU t a b).map F=((An (a * b * c)).filter λ m=>BM t (A6 b c m)).map λ m=>F (A6 b c m):=by
 rw [<- Lx p hb hc,Lq,BB];rfl
def Th (p:Pile a b c t) (hb:0 < b) (hc:0 < c):(∀ x∈(AU t a b).map GN,x.1 < a/\x.2.1 < b)/\hT (C2 a b) ((AU t a b).map GN)=t:=by
 rw [Pp p hb hc];obtain ⟨q1,q2,q3⟩:=Jh (a:=a) (A:=a) (B:=b) (t0:=[]) (BM t) GN hb hc λ x h1 h2 h3=>⟨h1,h2⟩
 refine ⟨q1,FC q2 p.tab λ x y hx hy=>?_⟩;rw [q3 x y hx hy,FE hx λ i hi ne=>?_,FE hy λ j hj ne=>?_]
 ·have g0:=p.lo x y hx hy;have g1:=p.hi x y hx hy
  have:((An c).filter λ k=>BM t (x,y,k) && decide ((GN (x,y,k)).1=x/\(GN (x,y,k)).2.1=y))=An (g t x y).toNat:=by
   rw [<- Lg (g t x y).toNat c (by omega)];refine EA λ k _=>?_;rw [decide_eq_true (show (GN (x,y,k)).1=x/\(GN (x,y,k)).2.1=y from ⟨rfl,rfl⟩),HA];show decide ((k:Int) < g t x y)=decide (k < (g t x y).toNat);by_cases h:(k:Int) < g t x y
   ·rw [decide_eq_true h,decide_eq_true (by omega)]
   ·rw [decide_eq_false h,decide_eq_false (by omega)]
  rw [this,CQ];omega
 ·exact FG λ k _=>by rw [decide_eq_false (λ z=>ne z.2),Fw]
 ·have:∀ j,((An c).filter λ k=>BM t (i,j,k) && decide ((GN (i,j,k)).1=x/\(GN (i,j,k)).2.1=y)).length=0:=λ j=>FG λ k _=>by rw [decide_eq_false (λ z=>ne z.1),Fw]
  simp only [this];exact Es b
def Tc (p:Pile a b c t) (hb:0 < b) (hc:0 < c):(∀ x∈(AU t a b).map GL,x.1 < a/\x.2.1 < c)/\hT (C2 a c) ((AU t a b).map GL)=AQ (Bp t b) a c:=by
 rw [Pp p hb hc];obtain ⟨q1,q2,q3⟩:=Jh (a:=a) (A:=a) (B:=c) (t0:=[]) (BM t) GL hb hc λ x h1 h2 h3=>⟨h1,h3⟩
 refine ⟨q1,FC q2 (Nm (Kq p)).tab λ x y hx hy=>?_⟩;have er:Cu (Bp t b) x=t.getD x []:=by
  refine Kp (by rw [E1,(HZ p.tab).1,p.tab.row hx]) λ j hj=>?_;rw [E1,(HZ p.tab).1] at hj;rw [Fe (by rw [(HZ p.tab).1];exact hj)];exact GY p.tab hx hj
 rw [q3 x y hx hy,Ig,Ce hx hy,er,VD p.tab hx,Lo];congr 1;rw [FE hx λ i hi ne=>?_]
 ·congr 1;refine DG λ j _=>?_
  have:((An c).filter λ k=>BM t (x,j,k) && decide ((GL (x,j,k)).1=x/\(GL (x,j,k)).2.1=y))=(An c).filter λ k=>BM t (x,j,k) && decide (k=y):=EA λ k _=>by
   by_cases h:k=y
   ·rw [decide_eq_true (show (GL (x,j,k)).1=x/\(GL (x,j,k)).2.1=y from ⟨rfl,h⟩),decide_eq_true h]
   ·rw [decide_eq_false (λ z=>h z.2),decide_eq_false h]
  rw [this,Lm hy];show (if decide ((y:Int) < g t x j)=true then 1 else 0)=_;by_cases h:(y:Int) < g t x j
  ·rw [decide_eq_true h,if_pos rfl,if_pos h]
  ·rw [decide_eq_false h,if_neg Cp,if_neg h]
 ·have:∀ j,((An c).filter λ k=>BM t (i,j,k) && decide ((GL (i,j,k)).1=x/\(GL (i,j,k)).2.1=y)).length=0:=λ j=>FG λ k _=>by rw [decide_eq_false (λ z=>ne z.1),Fw]
  simp only [this];exact Es b
def Te (p:Pile a b c t) (hb:0 < b) (hc:0 < c):(∀ x∈(AU t a b).map IE,x.1 < c/\x.2.1 < b)/\hT (C2 c b) ((AU t a b).map IE)=AQ (AQ (Bp t b) a c) c b:=by
 rw [Pp p hb hc,W7 (Kq p)];obtain ⟨q1,q2,q3⟩:=Jh (a:=a) (A:=c) (B:=b) (t0:=[]) (BM t) IE hb hc λ x h1 h2 h3=>⟨h3,h2⟩
 refine ⟨q1,FC q2 (MV (HZ p.tab)) λ x y hx hy=>?_⟩;have er:(Bp t b).getD y []=(An a).map λ i=>g t i y:=by
  unfold Bp;rw [LC hy];refine Kp (by rw [E1,p.tab.1,Ax,CQ]) λ i hi=>?_;rw [E1,p.tab.1] at hi;rw [Fe (by rw [p.tab.1];exact hi),JZ hi]
 rw [q3 x y hx hy,FH (HZ p.tab) hx hy,er,Lo];congr 2;refine DG λ i _=>?_;rw [FE hy λ j hj ne=>?_]
 ·have:((An c).filter λ k=>BM t (i,y,k) && decide ((IE (i,y,k)).1=x/\(IE (i,y,k)).2.1=y))=(An c).filter λ k=>BM t (i,y,k) && decide (k=x):=EA λ k _=>by
   by_cases h:k=x
   ·rw [decide_eq_true (show (IE (i,y,k)).1=x/\(IE (i,y,k)).2.1=y from ⟨h,rfl⟩),decide_eq_true h]
   ·rw [decide_eq_false (λ z=>h z.1),decide_eq_false h]
  rw [this,Lm hx];show (if decide ((x:Int) < g t i y)=true then 1 else 0)=_;by_cases h:(x:Int) < g t i y
  ·rw [decide_eq_true h,if_pos rfl,if_pos h]
  ·rw [decide_eq_false h,if_neg Cp,if_neg h]
 ·exact FG λ k _=>by rw [decide_eq_false (λ z=>ne z.2),Fw]
def qp (ha:1<=a/\a<=6) (hb:1<=b/\b<=6) (hc:1<=c/\c<=6) (p:Pile a b c t):∃ d,c_turned [bx a b c,tb t,.int 0]=.ok (.tup [bx a b c,tb t],d,.non):=Kc ha hb hc p (w:=0) (o1:=0) (o2:=1) (o3:=2) (F:=GN) (λ s=>by kernel_rfl) (λ s=>by kernel_rfl) (λ s x=>rfl) ha.2 hb.2 (Th p (by omega) (by omega))
def qr (ha:1<=a/\a<=6) (hb:1<=b/\b<=6) (hc:1<=c/\c<=6) (p:Pile a b c t):∃ d,c_turned [bx a b c,tb t,.int 3]=.ok (.tup [bx c b a,tb (AQ (AQ (Bp t b) a c) c b)],d,.non):=Kc ha hb hc p (w:=3) (o1:=2) (o2:=1) (o3:=0) (F:=IE) (λ s=>by kernel_rfl) (λ s=>by kernel_rfl) (λ s x=>rfl) hc.2 hb.2 (Te p (by omega) (by omega))
def qt (ha:1<=a/\a<=6) (hb:1<=b/\b<=6) (hc:1<=c/\c<=6) (p:Pile a b c t):∃ d,c_turned [bx a b c,tb t,.int 5]=.ok (.tup [bx a c b,tb (AQ (Bp t b) a c)],d,.non):=Kc ha hb hc p (w:=5) (o1:=0) (o2:=2) (o3:=1) (F:=GL) (λ s=>by kernel_rfl) (λ s=>by kernel_rfl) (λ s x=>rfl) ha.2 hc.2 (Tc p (by omega) (by omega))
end
abbrev Fo:=(Nat×Nat×Nat)×List (List Int)
def fP (f:Fo):PV:=.tup [bx f.1.1 f.1.2.1 f.1.2.2,tb f.2]
def fM (f:Fo):Fo:=((f.1.2.1,f.1.1,f.1.2.2),Bp f.2 f.1.2.1)
def fR (f:Fo):Fo:=((f.1.2.1,f.1.2.2,f.1.1),AQ f.2 f.1.2.1 f.1.2.2)
structure FOk (f:Fo):Prop where
 p:Pile f.1.1 f.1.2.1 f.1.2.2 f.2
 a1:1<=f.1.1/\f.1.1<=6
 b1:1<=f.1.2.1/\f.1.2.1<=6
 c1:1<=f.1.2.2/\f.1.2.2<=6
def FOk.m {f:Fo} (h:FOk f):FOk (fM f):=⟨Kq h.p,h.b1,h.a1,h.c1⟩
def FOk.r {f:Fo} (h:FOk f):FOk (fR f):=⟨Nm h.p,h.b1,h.c1,h.a1⟩
def DQ (f:Fo):List Fo:=[f,fR f,fR (fR f),fM f,fR (fM f),fR (fR (fM f))]
def qD {f:Fo} (h:FOk f):∀ x∈DQ f,FOk x:=by
 intro x hx;simp only [DQ,ja9,JG,or_false] at hx;rcases hx with rfl | rfl | rfl | rfl | rfl | rfl
 ·exact h
 ·exact h.r
 ·exact h.r.r
 ·exact h.m
 ·exact h.m.r
 ·exact h.m.r.r
open PySem PySem.Spec PyProof.Rows L2 QQ PySem.SeqAt
structure Sto {α:Type} (lt:α->α->Bool):Prop where
 ir:∀ x,lt x x=false
 tr:∀ x y z,lt x y=true->lt y z=true->lt x z=true
 to:∀ x y,x≠y->lt x y=true\/lt y x=true
def Dh {α:Type} [DecidableEq α] (lt:α->α->Bool):List α->List α->Bool
 | _,[]=>false
 | [],_::_=>true
 | x::xs,y::ys=>if x=y then Dh lt xs ys else lt x y
def Nj {α:Type} [DecidableEq α] {lt:α->α->Bool} (h:Sto lt):Sto (Dh lt):=by
 refine ⟨λ x=>?_,λ x=>?_,λ x=>?_⟩
 ·induction x with
  | nil=>rfl
  | cons a r ih=>unfold Dh;rw [if_pos rfl];exact ih
 ·induction x with
  | nil=>
   intro y z h1 h2;cases z with
   | nil=>cases y <;> cases h2
   | cons c z=>rfl
  | cons a x ih=>
   intro y z h1 h2;cases y with
   | nil=>cases h1
   | cons b y=>
    cases z with
    | nil=>cases h2
    | cons c z=>
     unfold Dh at h1 h2 ⊢;by_cases e1:a=b
     ·rw [if_pos e1] at h1;subst e1;by_cases e2:a=c
      ·rw [if_pos e2] at h2 ⊢;exact ih y z h1 h2
      ·rw [if_neg e2] at h2 ⊢;exact h2
     ·rw [if_neg e1] at h1;by_cases e2:b=c
      ·rw [if_pos e2] at h2;subst e2;rw [if_neg e1];exact h1
      ·rw [if_neg e2] at h2
       have:=h.tr a b c h1 h2
       by_cases e3:a=c
       ·rw [e3,h.ir] at this;cases this
       ·rw [if_neg e3];exact this
 ·induction x with
  | nil=>
   intro y hn;cases y with
   | nil=>exact absurd rfl hn
   | cons b y=>exact .inl rfl
  | cons a x ih=>
   intro y hn;cases y with
   | nil=>exact .inr rfl
   | cons b y=>
    unfold Dh;by_cases e:a=b
    ·rw [if_pos e,if_pos e.symm];exact ih y λ z=>hn (by rw [e,z])
    ·rw [if_neg e,if_neg (BY e)];exact h.to a b e
def OC (x y:Int):Bool:=decide (x < y)
def Wq:Sto OC:=⟨λ x=>decide_eq_false (by omega),λ x y z h1 h2=>decide_eq_true (by have:=of_decide_eq_true h1;have:=of_decide_eq_true h2;omega),λ x y h=>by
 by_cases e:x < y
 ·exact .inl (decide_eq_true e)
 ·exact .inr (decide_eq_true (by omega))⟩
def Sv:List Int->List Int->Bool:=Dh OC
def XT:List (List Int)->List (List Int)->Bool:=Dh Sv
def b3 (f:Fo):List Int:=[(f.1.1:Int),(f.1.2.1:Int),(f.1.2.2:Int)]
def Dg (f g:Fo):Bool:=if b3 f=b3 g then XT f.2 g.2 else Sv (b3 f) (b3 g)
def VE {f g:Fo} (h:b3 f=b3 g):f.1=g.1:=by
 obtain ⟨⟨a,b,c⟩,t⟩:=f;obtain ⟨⟨a',b',c'⟩,t'⟩:=g;unfold b3 at h;simp only [List.cons.injEq,and_true,Int.natCast_inj] at h;obtain ⟨rfl,rfl,rfl⟩:=h;rfl
def zze:Sto Dg:=by
 have hi:=Nj Wq;have ht:=Nj hi;refine ⟨λ x=>?_,λ x y z h1 h2=>?_,λ x y hn=>?_⟩
 ·unfold Dg;rw [if_pos rfl];exact ht.ir _
 ·unfold Dg at h1 h2 ⊢;by_cases e1:b3 x=b3 y
  ·rw [if_pos e1] at h1;rw [e1];by_cases e2:b3 y=b3 z
   ·rw [if_pos e2] at h2 ⊢;exact ht.tr _ _ _ h1 h2
   ·rw [if_neg e2] at h2 ⊢;exact h2
  ·rw [if_neg e1] at h1;by_cases e2:b3 y=b3 z
   ·rw [<- e2,if_neg e1];exact h1
   ·rw [if_neg e2] at h2
    have:=hi.tr _ _ _ h1 h2
    by_cases e3:b3 x=b3 z
    ·rw [e3] at this;have q:=hi.ir (b3 z);rw [show Dh OC (b3 z) (b3 z)=true from this] at q;cases q
    ·rw [if_neg e3];exact this
 ·unfold Dg;by_cases e:b3 x=b3 y
  ·rw [if_pos e,if_pos e.symm];exact ht.to _ _ λ z=>hn (Prod.ext (VE e) z)
  ·rw [if_neg e,if_neg (BY e)];exact hi.to _ _ e
section
variable {α:Type}{lt:α->α->Bool}
def Dp (lt:α->α->Bool) (L:List α) (x:α):Nat:=(L.filter λ y=>lt y x).length
theorem Ue {p q:α->Bool}:∀ {L:List α},(∀ y∈L,p y=true->q y=true)->(L.filter p).length<=(L.filter q).length
 | [],_=>AW _
 | y::L,h=>by
  have ih:=Ue (L:=L) λ z hz=>h z (A8 _ hz);rw [M1,M1];by_cases hp:p y=true
  ·rw [if_pos hp,if_pos (h y A9 hp),Ba,Ba];omega
  ·rw [if_neg hp];by_cases hq:q y=true
   ·rw [if_pos hq,Ba];omega
   ·rw [if_neg hq];exact ih
theorem PD {p q:α->Bool}:∀ {L:List α}{x:α},x∈L->(∀ y∈L,p y=true->q y=true)->p x=false->q x=true->(L.filter p).length < (L.filter q).length
 | [],_,hx,_,_,_=>by cases hx
 | y::L,x,hx,h,hp,hq=>by
  rw [M1,M1];have le:=Ue (L:=L) λ z hz=>h z (A8 _ hz);rcases ja9.mp hx with e | hx
  ·subst e;rw [hp,hq,if_neg Cp,if_pos rfl,Ba];omega
  ·have ih:=PD hx (λ z hz=>h z (A8 _ hz)) hp hq;by_cases hp':p y=true
   ·rw [if_pos hp',if_pos (h y A9 hp'),Ba,Ba];omega
   ·rw [if_neg hp'];by_cases hq':q y=true
    ·rw [if_pos hq',Ba];omega
    ·rw [if_neg hq'];exact ih
def L7 (h:Sto lt) {L:List α}{x y:α} (hx:x∈L) (hxy:lt x y=true):Dp lt L x < Dp lt L y:=PD hx (λ z _ hz=>h.tr z x y hz hxy) (h.ir x) hxy
def Se (h:Sto lt) {L:List α}{x:α} (hx:x∈L):Dp lt L x < L.length:=by
 have:=PD (p:=λ y=>lt y x) (q:=λ _=>true) hx (λ _ _ _=>rfl) (h.ir x) rfl
 rw [jg6.mpr (λ _ _=>rfl)] at this;exact this
def W5 [DecidableEq α] (h:Sto lt) {L:List α}{x y:α} (hx:x∈L) (hy:y∈L):lt x y=decide (Dp lt L x < Dp lt L y):=by
 by_cases e:x=y
 ·rw [e,h.ir,decide_eq_false (by omega)]
 ·rcases h.to x y e with q | q
  ·rw [q,decide_eq_true (L7 h hx q)]
  ·have:=L7 h hy q
   rw [decide_eq_false (by omega)];cases e2:lt x y with
   | false=>rfl
   | true=>have:=L7 h hx e2;omega
def W6 [DecidableEq α] (h:Sto lt) {L:List α}{x y:α} (hx:x∈L) (hy:y∈L) (e:Dp lt L x=Dp lt L y):x=y:=by
 by_cases ne:x=y
 ·exact ne
 ·rcases h.to x y ne with q | q
  ·have:=L7 h hx q;omega
  ·have:=L7 h hy q;omega
theorem Uu [DecidableEq α] (h:Sto lt) {L M:List α} (hM:M.Nodup) (hs:∀ x∈M,x∈L):(M.map (Dp lt L)).Nodup:=by
 induction M with
 | nil=>exact .nil
 | cons x M ih=>
  rw [jh2] at hM;rw [Bf,jh2];refine ⟨λ z=>?_,ih hM.2 λ y hy=>hs y (A8 _ hy)⟩;obtain ⟨y,hy,e⟩:=je7.mp z
  have:=W6 h (hs y (A8 _ hy)) (hs x A9) e
  rw [this] at hy;exact hM.1 hy
end
def dI (r:List Int):Br:=.list (r.map .int)
def dT (t:List (List Int)):Br:=.list (t.map dI)
def fD (f:Fo):Br:=.tuple [.tuple ((b3 f).map .int),dT f.2]
def MA (f:Fo):Be 20 (fP f)=some (fD f):=by
 have row:∀ r:List Int,A3 (Be 17) (r.map PV.int)=some (r.map PyData.int):=λ r=>Gu (q:=PyData.int) (λ _=>rfl) r;have rows:A3 (Be 18) (f.2.map il)=some (f.2.map dI):=Gu (q:=dI) (λ r=>by
  show (A3 (Be 17) (r.map PV.int)).map PyData.list=_;rw [row]
  rfl) f.2
 have e2:Be 19 (tb f.2)=some (dT f.2):=by
  show (A3 (Be 18) (f.2.map il)).map PyData.list=_;rw [rows];rfl
 show (A3 (Be 19) [bx f.1.1 f.1.2.1 f.1.2.2,tb f.2]).map PyData.tuple=_;unfold A3;unfold A3;unfold A3;rw [e2];rfl
def JO (fs:List Fo):A3 (Be 20) (fs.map fP)=some (fs.map fD):=Gu (q:=fD) MA fs
def Mj (x y:Int):BK (.int x) (.int y)=decide (x=y):=by
 rw [BK];rfl
theorem JW {α:Type} [DecidableEq α] {q:α->Br} (h:∀ x y,BK (q x) (q y)=decide (x=y)):∀ xs ys:List α,Ed (xs.map q) (ys.map q)=decide (xs=ys)
 | [],[]=>by simp [Ed]
 | [],_::_=>by simp [Ed]
 | _::_,[]=>by simp [Ed]
 | x::xs,y::ys=>by
  rw [Bf,Bf,Ed,h,JW h xs ys,Gg];simp
theorem Nl {α:Type} [DecidableEq α] {q:α->Br}{lt:α->α->Bool} (h:∀ x y,BK (q x) (q y)=decide (x=y)) (hl:∀ x y,CM (q x) (q y)=lt x y):∀ xs ys:List α,Bu (xs.map q) (ys.map q)=Dh lt xs ys
 | xs,[]=>by rw [Dq];cases xs <;> (first | rw [Dq] | rw [Bf]) <;> rw [Bu] <;> rfl
 | [],y::ys=>by rw [Dq,Bf,Bu];rfl
 | x::xs,y::ys=>by
  rw [Bf,Bf,Bu,h,hl,Nl h hl xs ys];show _=if x=y then Dh lt xs ys else lt x y
  by_cases e:x=y
  ·rw [decide_eq_true e,if_pos rfl,if_pos e]
  ·rw [decide_eq_false e,if_neg Cp,if_neg e]
theorem Nc {α:Type}{q:α->Br} (h:∀ x y,BN (q x) (q y)=true):∀ xs ys:List α,Cy (xs.map q) (ys.map q)=true
 | [],_=>by rw [Dq,Cy]
 | x::xs,[]=>by rw [Dq,Bf,Cy]
 | x::xs,y::ys=>by rw [Bf,Bf,Cy,h,Nc h xs ys];rfl
def UD (x y:List Int):BK (dI x) (dI y)=decide (x=y):=by
 unfold dI;rw [BK];exact JW Mj x y
def UE (x y:List (List Int)):BK (dT x) (dT y)=decide (x=y):=by
 unfold dT;rw [BK];exact JW UD x y
def Mr (x y:Int):CM (.int x) (.int y)=OC x y:=by rw [CM];rfl
def Su (x y:List Int):CM (dI x) (dI y)=Sv x y:=by
 unfold dI;rw [CM];exact Nl Mj Mr x y
def Ss (x y:List (List Int)):CM (dT x) (dT y)=XT x y:=by
 unfold dT;rw [CM];exact Nl UD Su x y
def Rw (f g:Fo):BK (fD f) (fD g)=decide (f=g):=by
 unfold fD;rw [BK,Ed,Ed,Ed,BK,JW Mj,UE,HA,Gg,A7,decide_eq_true_iff,decide_eq_true_iff,decide_eq_true_iff];exact ⟨λ h=>Prod.ext (VE h.1) h.2,λ h=>by rw [h];exact ⟨rfl,rfl⟩⟩
def JA (f g:Fo):CM (fD f) (fD g)=Dg f g:=by
 unfold fD;rw [CM,Bu,Bu,Bu,BK,JW Mj,CM,Nl Mj Mr,UE,Ss];unfold Dg;by_cases e:b3 f=b3 g
 ·rw [decide_eq_true e,if_pos rfl,if_pos e];by_cases e2:f.2=g.2
  ·rw [decide_eq_true e2,if_pos rfl,e2];exact (Nj (Nj Wq)).ir g.2 |>.symm
  ·rw [decide_eq_false e2,if_neg Cp]
 ·rw [decide_eq_false e,if_neg Cp,if_neg e];rfl
def Tq (f g:Fo):BN (fD f) (fD g)=true:=by
 have z:∀ x y:Int,BN (.int x) (.int y)=true:=λ x y=>by rw [BN]
 have i:∀ x y:List Int,BN (dI x) (dI y)=true:=λ x y=>by unfold dI;rw [BN];exact Nc z x y
 unfold fD;rw [BN,Cy,Cy,Cy,BN,Nc z];unfold dT;rw [BN,Nc i];rfl
def Ox {fs:List Fo} (hn:fs.Nodup) (h2:2<=fs.length) (h6:fs.length<=6):Fi (fs.map fD)=true:=by
 have hr:Dv (fs.map fD)=fs.map (Dp Dg fs):=by
  unfold Dv;rw [BB];refine DG λ f hf=>?_;show ((fs.map fD).filter λ D'=>CM D' (fD f)).length=_;rw [KO,Ax];unfold Dp;congr 1;exact EA λ y _=>JA y f
 unfold Fi;rw [A7,A7,A7,A7,A7,hr,Ax];refine ⟨⟨⟨⟨⟨decide_eq_true ⟨h2,h6⟩,?_⟩,?_⟩,decide_eq_true (Uu zze hn λ _ h=>h)⟩,?_⟩,?_⟩
 ·rw [OD,jc1];exact λ f _=>rfl
 ·rw [OD,jc1];intro f _;show (fs.map fD).all _=true;rw [OD,jc1];exact λ g _=>Tq f g
 ·rw [OD,jc1];exact λ f hf=>decide_eq_true (Se zze hf)
 ·rw [jc1];intro i hi;rw [jc1];intro j hj;have hi:=jc6.mp hi;have hj:=jc6.mp hj;have gd:∀ k,k < fs.length->(fs.map fD).getD k .none=fD fs[k]!/\(fs.map (Dp Dg fs)).getD k 0=Dp Dg fs fs[k]!/\fs[k]!∈fs:=λ k hk=>by
   have e:(fs[k]!)=fs[k]:=by simp [hk]
   rw [e];refine ⟨?_,?_,Fy hk⟩
   ·rw [AH,C8,BC hk];rfl
   ·rw [AH,C8,BC hk];rfl
  obtain ⟨a1,a2,a3⟩:=gd i hi;obtain ⟨b1,b2,b3⟩:=gd j hj;unfold IC;rw [a1,b1,a2,b2,JA,W5 zze a3 b3];exact beq_self_eq_true _
open PySem PySem.Spec PyProof.Rows L2 QQ PySem.SeqAt PySem.W
def Cg:Fo:=((0,0,0),[])
def RB {α β:Type}{fs:List α}{q:α->β}{i:Nat} (h:i < fs.length) (d0:α) (d:β):(fs.map q).getD i d=q (fs.getD i d0):=by
 rw [AH,C8,BC h,AH,BC h];rfl
def RC {α:Type}{fs:List α}{i:Nat} (h:i < fs.length) (d0:α):fs.getD i d0∈fs:=by
 rw [AH,BC h];exact Fy h
def BZ (fs:List Fo):List Fo:=(AY (fs.map fD)).map λ i=>fs.getD i Cg
def Om (fs:List Fo):Dv (fs.map fD)=fs.map (Dp Dg fs):=by
 unfold Dv;rw [BB];refine DG λ f hf=>?_;show ((fs.map fD).filter λ D'=>CM D' (fD f)).length=_;rw [KO,Ax];unfold Dp;congr 1;exact EA λ y _=>JA y f
def Qf {fs:List Fo} (hn:fs.Nodup) (h1:1<=fs.length) (h6:fs.length<=6):(BZ fs).map (Dp Dg fs)=An fs.length:=by
 by_cases e:fs.length=1
 ·unfold BZ AY;rw [if_pos (by rw [Ax];exact e)]
  match fs,e with
  | [f],_=>
   show [Dp Dg [f] f]=[0];unfold Dp;rw [M1,zze.ir,if_neg Cp];rfl
 ·have g:=Ox hn (by omega) h6;have lr:(Dv (fs.map fD)).length=fs.length:=by rw [Om,Ax]
  have hn':(Dv (fs.map fD)).Nodup:=by rw [Om];exact Uu zze hn λ _ h=>h
  have ok:=MW (r:=Dv (fs.map fD)) (by omega) (by omega) hn' (λ x hx=>by
   rw [lr];rw [Om] at hx;obtain ⟨f,hf,rfl⟩:=je7.mp hx;exact Se zze hf)
  rw [lr] at ok;unfold GB at ok;rw [A7,A7] at ok;have em:=eq_of_beq ok.1.2;unfold BZ AY;rw [if_neg (by rw [Ax];exact e),Ax,BB,<- em];refine DG λ i hi=>?_;have hi':=of_decide_eq_true (jc1.mp ok.2 i hi);rw [Om];exact (RB hi' Cg 0).symm
def Sa {fs:List Fo} (hn:fs.Nodup) (h1:1<=fs.length) (h6:fs.length<=6):∀ i∈AY (fs.map fD),i < fs.length:=by
 have g:(fs.map fD).length=1\/Fi (fs.map fD)=true:=by
  by_cases e:fs.length=1
  ·exact .inl (by rw [Ax];exact e)
  ·exact .inr (Ox hn (by omega) h6)
 intro i hi
 have:=(O9 g).1 i hi
 rw [Ax] at this;exact this
def Lu {fs:List Fo} (hn:fs.Nodup) (h1:1<=fs.length) (h6:fs.length<=6) (f:Fo):f∈BZ fs↔f∈fs:=by
 have sub:∀ f,f∈BZ fs->f∈fs:=λ f h=>by
  obtain ⟨i,hi,rfl⟩:=je7.mp h;exact RC (Sa hn h1 h6 i hi) Cg
 refine ⟨sub f,λ h=>?_⟩;have hr:Dp Dg fs f∈(BZ fs).map (Dp Dg fs):=by rw [Qf hn h1 h6];exact jc6.mpr (Se zze h)
 obtain ⟨g,hg,e⟩:=je7.mp hr;rw [<- W6 zze (sub g hg) h e];exact hg
def W9 {fs:List Fo} (hn:fs.Nodup) (h1:1<=fs.length) (h6:fs.length<=6):(BZ fs).Pairwise λ x y=>Dg x y=true:=by
 have hr:=Qf hn h1 h6;have up:((BZ fs).map (Dp Dg fs)).Pairwise (·< ·):=by rw [hr];exact List.pairwise_lt_range
 rw [jq4] at up;exact up.imp_of_mem λ {x y} hx hy h=>by
  rw [W5 zze ((Lu hn h1 h6 x).mp hx) ((Lu hn h1 h6 y).mp hy)];exact decide_eq_true h
def kN {fs:List Fo} (hn:fs.Nodup) (h1:1<=fs.length) (h6:fs.length<=6):(BZ fs).length=fs.length:=by
 have:=congrArg SD (Qf hn h1 h6)
 rw [Ax,CQ] at this;exact this
def xg {fs:List Fo}{d:Nat} (hn:fs.Nodup) (h1:1<=fs.length) (h6:fs.length<=6):Jj [(.lst (fs.map fP),d)]=some (.lst ((BZ fs).map fP),1):=by
 have e0:Rt [(.lst (fs.map fP),d)]=none:=by
  match fs,h1 with
  | f::r,_=>rfl
 unfold Jj;rw [e0];show O8 [(.lst (fs.map fP),d)]=_;unfold O8;dsimp only;rw [JO];dsimp only;rw [if_pos (by
  by_cases e:fs.length=1
  ·exact .inl (by rw [Ax];exact e)
  ·exact .inr (Ox hn (by omega) h6))]
 congr 3;unfold BZ;rw [BB];exact DG λ i hi=>RB (Sa hn h1 h6 i hi) Cg _
def UK {neg:Bool}{f h:Fx}{ρ ρ1 ρ2:Ag}{x:Fo}{gs:List Fo}{d e:Nat} (h1:f ρ=.ok (fP x,d,ρ1)) (h2:h ρ1=.ok (.lst (gs.map fP),e,ρ2)):Ab (BF neg) f h ρ=.ok (.bl (neg^^decide (x∈gs)),om,ρ2):=by
 refine BV h1 h2 ?_;show (match Be 20 (fP x),A3 (Be 20) (gs.map fP) with | some a,some bs=>some (PV.bl (neg^^bs.any λ b=>BK b a),om) | _,_=>none)=_;rw [MA,JO];show some (PV.bl (neg^^(gs.map fD).any λ b=>BK b (fD x)),om)=_;rw [XW];congr 4;rw [Gg,Ym,decide_eq_true_iff];constructor
 ·rintro ⟨y,hy,e⟩;have e:BK (fD y) (fD x)=true:=e;rw [Rw,decide_eq_true_iff] at e;rw [<- e];exact hy
 ·intro hx;exact ⟨x,hx,by show BK (fD x) (fD x)=true;rw [Rw,decide_eq_true rfl]⟩
def AX (acc:List Fo) (x:Fo):List Fo:=if x∈acc then acc else acc++[x]
def Ec (L:List Fo):List Fo:=L.foldl AX []
theorem N3 (L:List Fo):∀ acc:List Fo,acc.Nodup->(L.foldl AX acc).Nodup/\(∀ x,x∈L.foldl AX acc↔x∈acc\/x∈L)/\(L.foldl AX acc).length<=acc.length + L.length:=by
 induction L with
 | nil=>exact λ acc h=>⟨h,λ x=>by simp,AW _⟩
 | cons y L ih=>
  intro acc h;rw [Yk];unfold AX;by_cases e:y∈acc
  ·rw [if_pos e];obtain ⟨q1,q2,q3⟩:=ih acc h;refine ⟨q1,λ x=>?_,by rw [Ba];unfold AX at q3;omega⟩;rw [show (L.foldl (λ acc x=>if x∈acc then acc else acc++[x]) acc)=L.foldl AX acc from rfl,q2 x,ja9];exact ⟨λ z=>z.elim .inl λ w=>.inr (.inr w),λ z=>z.elim .inl λ w=>w.elim (λ v=>.inl (by rw [v];exact e)) .inr⟩
  ·rw [if_neg e];have hn:(acc++[y]).Nodup:=by
    rw [List.nodup_append];refine ⟨h,by simp,λ a ha b hb=>?_⟩;rw [jc0.mp hb];exact λ z=>e (z ▸ ha)
   obtain ⟨q1,q2,q3⟩:=ih (acc++[y]) hn;refine ⟨q1,λ x=>?_,?_⟩
   ·rw [show (L.foldl (λ acc x=>if x∈acc then acc else acc++[x]) (acc++[y]))=L.foldl AX (acc++[y]) from rfl,q2 x,jb2,jc0,ja9,or_assoc]
   ·rw [BL] at q3;rw [Ba];unfold AX at q3;simp only [Ba,M0] at q3;omega
def Nz {f:Fo}:(Ec (DQ f)).Nodup/\(∀ x,x∈Ec (DQ f)↔x∈DQ f)/\1<=(Ec (DQ f)).length/\(Ec (DQ f)).length<=6:=by
 obtain ⟨q1,q2,q3⟩:=N3 (DQ f) [] .nil;refine ⟨q1,λ x=>by rw [show Ec (DQ f)=(DQ f).foldl AX [] from rfl,q2 x];simp,?_,q3⟩
 have:f∈Ec (DQ f):=(q2 f).mpr (.inr A9)
 exact Y9 this
theorem WI:∀ {l m:List Fo},(∀ x,x∈l↔x∈m)->l.Pairwise (λ x y=>Dg x y=true)->m.Pairwise (λ x y=>Dg x y=true)->l=m
 | [],[],_,_,_=>rfl
 | [],y::m,h,_,_=>absurd ((h y).mpr A9) (λ z=>nomatch z)
 | x::l,[],h,_,_=>absurd ((h x).mp A9) (λ z=>nomatch z)
 | x::l,y::m,h,hl,hm=>by
  rw [jh8] at hl hm;have no:∀ {a b:Fo},Dg a b=true->Dg b a=true->False:=λ {a b} p q=>by
   have:=zze.tr a b a p q
   rw [zze.ir] at this;cases this
  have e:x=y:=by
   rcases ja9.mp ((h x).mp A9) with e | hx
   ·exact e
   ·rcases ja9.mp ((h y).mpr A9) with e | hy
    ·exact e.symm
    ·exact (no (hm.1 x hx) (hl.1 y hy)).elim
  subst e;have nl:∀ {l:List Fo},(∀ a∈l,Dg x a=true)->x∉l:=λ {l} hh z=>by
   have:=hh x z
   rw [zze.ir] at this;cases this
  rw [WI (l:=l) (m:=m) (λ z=>?_) hl.2 hm.2];have hz:=h z;constructor
  ·intro q;rcases ja9.mp (hz.mp (A8 _ q)) with e | r
   ·rw [e] at q;exact absurd q (nl hl.1)
   ·exact r
  ·intro q;rcases ja9.mp (hz.mpr (A8 _ q)) with e | r
   ·rw [e] at q;exact absurd q (nl hm.1)
   ·exact r
def Xd (f:Fo):∃ l,l=BZ (Ec (DQ f)):=⟨_,rfl⟩
noncomputable def forms (f:Fo):List Fo:=Classical.choose (Xd f)
def Nf (f:Fo):forms f=BZ (Ec (DQ f)):=Classical.choose_spec (Xd f)
def qgf {f x:Fo}:x∈forms f↔x∈DQ f:=by
 obtain ⟨q1,q2,q3,q4⟩:=Nz (f:=f);rw [Nf];exact (Lu q1 q3 q4 x).trans (q2 x)
end QV
namespace K51
open PySem PySem.Spec PyProof.Rows L2 QQ QV
def Z8 {f:Fo} (h:FOk f):JV [fP f]=.ok (fP (fM f),om,.non):=by
 obtain ⟨⟨a,b,c⟩,t⟩:=f;obtain ⟨p,ha,hb,hc⟩:=h;let R (s1 s2 s3 s4 s5:QQ.Slot):Ag:=[some (fP ((a,b,c),t),0),s1,s2,s3,s4,s5]
 let B:QQ.Slot:=some (bx a b c,0);let T:QQ.Slot:=some (tb t,0);have v1:Cn (AZ [1,2]) (Aa 0) [0] (R none none none none none)=.nx (R B T none none none):=O6 (x:=fP ((a,b,c),t)) (d:=0) rfl rfl;let I (n:Nat):QQ.Slot:=some (.int (n:Int),om);have v2:Cn (AZ [3,4,5]) (Aa 1) [1] (R B T none none none)=.nx (R B T (I a) (I b) (I c)):=O6 (x:=bx a b c) (d:=0) rfl rfl;have e:=BA (F:=F8) (fa:=Ad (Aa 1) (Ad (Aa 2) (Ac))) (ρ:=R B T (I a) (I b) (I c)) (ρ1:=R B T (I a) (I b) (I c)) (xs:=[(bx a b c,0),(tb t,0)]) rfl (qR p ⟨ha.1,CA ha.2 (by decide)⟩ ⟨hb.1,CA hb.2 (by decide)⟩ hc.1);exact CC rfl (ρ':=R B T (I a) (I b) (I c)) ((AF v1).trans ((AF v2).trans (CY (Dt (CP (x:=bx b a c) (d:=om) rfl (BI e)) rfl))))
def UU {f:Fo} (h:FOk f):HW [fP f]=.ok (fP (fR f),om,.non):=by
 obtain ⟨⟨a,b,c⟩,t⟩:=f;obtain ⟨p,ha,hb,hc⟩:=h;let R (s1 s2 s3 s4 s5:QQ.Slot):Ag:=[some (fP ((a,b,c),t),0),s1,s2,s3,s4,s5]
 let B:QQ.Slot:=some (bx a b c,0);let T:QQ.Slot:=some (tb t,0);have v1:Cn (AZ [1,2]) (Aa 0) [0] (R none none none none none)=.nx (R B T none none none):=O6 (x:=fP ((a,b,c),t)) (d:=0) rfl rfl;let I (n:Nat):QQ.Slot:=some (.int (n:Int),om);have v2:Cn (AZ [3,4,5]) (Aa 1) [1] (R B T none none none)=.nx (R B T (I a) (I b) (I c)):=O6 (x:=bx a b c) (d:=0) rfl rfl;have e:=BA (F:=Pc) (fa:=Ad (Aa 1) (Ad (Aa 2) (Ac))) (ρ:=R B T (I a) (I b) (I c)) (ρ1:=R B T (I a) (I b) (I c)) (xs:=[(bx a b c,0),(tb t,0)]) rfl (x4 p ⟨ha.1,CA ha.2 (by decide)⟩ ⟨hb.1,CA hb.2 (by decide)⟩ ⟨hc.1,CA hc.2 (by decide)⟩);exact CC rfl (ρ':=R B T (I a) (I b) (I c)) ((AF v1).trans ((AF v2).trans (CY (Dt (CP (x:=bx b c a) (d:=om) rfl (BI e)) rfl))))
def IB:Fs:=AG (bT (Ab (BF true) (Aa 6) (Aa 3))) (Mn 3 6) Aq
variable {s0 s1 s2 s4 s5 s6:QQ.Slot}
def jx {acc:List Fo}{x:Fo} (hl:acc.length<=100):∃ s6',IB [s0,s1,s2,some (.lst (acc.map fP),om),s4,s5,some (fP x,om)]=.nx [s0,s1,s2,some (.lst ((AX acc x).map fP),om),s4,s5,s6']:=by
 have z:=sz;let R:Ag:=[s0,s1,s2,some (.lst (acc.map fP),om),s4,s5,some (fP x,om)]
 have c:=UK (neg:=true) (f:=Aa 6) (h:=Aa 3) (ρ:=R) (ρ1:=R) (ρ2:=R) (x:=x) (gs:=acc) (d:=0) (e:=0) rfl rfl;unfold AX;by_cases e:x∈acc
 ·rw [decide_eq_true e] at c;rw [if_pos e];exact ⟨_,(BP (Bk c)).trans rfl⟩
 ·rw [decide_eq_false e] at c;rw [if_neg e];refine ⟨none,(Cq (Bk c)).trans ?_⟩;have em:(acc++[x]).map fP=acc.map fP++[fP x]:=by rw [ET];rfl
  rw [em];show (if om=om/\om=om/\3≠6/\(acc.map fP).length < A2 then Rs.nx ((kill [6] 0 R).set 3 (some (.lst (acc.map fP++[fP x]),om))) else .no)=_;rw [if_pos ⟨rfl,rfl,by decide,by rw [Ax];omega⟩];rfl
def xD (acc:List Fo) (x:Fo):(AX acc x).length<=acc.length + 1:=by
 unfold AX;split
 ·omega
 ·rw [BL];exact AW _
theorem Of:∀ (L:List Fo) (acc:List Fo),acc.length + L.length<=100->Ez 6 IB (L.map fP) [s0,s1,s2,some (.lst (acc.map fP),om),s4,s5,none]=.nx [s0,s1,s2,some (.lst ((L.foldl AX acc).map fP),om),s4,s5,none]
 | [],acc,_=>rfl
 | x::L,acc,hl=>by
  rw [Ba] at hl;obtain ⟨s6',e1⟩:=jx (s0:=s0) (s1:=s1) (s2:=s2) (s4:=s4) (s5:=s5) (acc:=acc) (x:=x) (by omega)
  have:=xD acc x
  have e2:=Of L (AX acc x) (by omega);rw [Bf];unfold Ez;show (match IB [s0,s1,s2,some (.lst (acc.map fP),om),s4,s5,some (fP x,om)] with
   | .nx ρ'=>if 6 < ρ'.length then Ez 6 IB (L.map fP) (kill [6] 0 ρ') else .no
   | _=>.no)=_
  rw [e1];exact e2
def OB:Fs:=Af (Ai false 5 (Au HW (Ad (Aa 4) (Ac))) [4]) (GA [4,5] (Au HW (Ad (Aa 5) (Ac))) 6 IB)
def outer {acc:List Fo}{x:Fo} (h:FOk x) (hl:acc.length<=50):OB [s0,s1,s2,some (.lst (acc.map fP),om),some (fP x,om),s5,s6]=.nx [s0,s1,s2,some (.lst (([x,fR x,fR (fR x)].foldl AX acc).map fP),om),none,none,none]:=by
 let R (s5 s6:QQ.Slot):Ag:=[s0,s1,s2,some (.lst (acc.map fP),om),some (fP x,om),s5,s6]
 have v1:Ai false 5 (Au HW (Ad (Aa 4) (Ac))) [4] (R s5 s6)=.nx (R (some (fP (fR x),om)) s6):=setF (BA (xs:=[(fP x,0)]) rfl (UU h)) (show 5 < 7 by decide) rfl;let R1:Ag:=R (some (fP (fR x),om)) s6;have e1:=BA (F:=HW) (fa:=Ad (Aa 5) (Ac)) (ρ:=R1) (ρ1:=R1) (xs:=[(fP (fR x),0)]) rfl (UU h.r);have e2:=Of (s0:=s0) (s1:=s1) (s2:=s2) (s4:=none) (s5:=none) [x,fR x,fR (fR x)] acc (by show _ + 3<=100;omega);refine (AF v1).trans ?_;unfold GA;rw [e1];exact e2
def xF:OY=Af (E3 (Au F7 (Ad (Aa 0) (Ad (Aa 1) (Ac))))) (Af (Ai false 2 (Al Cd (Ad (Aa 0) (Ad (Au Ld (Ad (Aa 1) (Ac))) (Ac)))) [0,1]) (Af (Ai false 3 (Al Bs (Ac)) []) (Af (GA [2] (Au JV (Ad (Aa 2) (Ac))) 4 OB) (Ip 3)))):=rfl
def jk {fs:List Fo}{ρ:Ag} (h:ρ[3]?=some (some (.lst (fs.map fP),om))) (hn:fs.Nodup) (h1:1<=fs.length) (h6:fs.length<=6):Ip 3 ρ=.rt (.lst ((BZ fs).map fP)) om (kill [3] 0 ρ):=by
 unfold Ip;rw [h];dsimp only;rw [JO];dsimp only;rw [if_pos ⟨rfl,by
  by_cases e:fs.length=1
  ·exact .inl (by rw [Ax];exact e)
  ·exact .inr (Ox hn (by omega) h6)⟩]
 congr 2;unfold BZ;rw [BB];exact DG λ i hi=>RB (Sa hn h1 h6 i hi) Cg _
def ko {f:Fo} (h:FOk f):GW [bx f.1.1 f.1.2.1 f.1.2.2,tb f.2]=.ok (.lst ((forms f).map fP),om,.non):=by
 rw [Nf f];have z:=sz;obtain ⟨p,ha,hb,hc⟩:=id h;have l:=p.tab.1;let S (s2 s3 s4 s5 s6:QQ.Slot):Ag:=[some (bx f.1.1 f.1.2.1 f.1.2.2,0),some (tb f.2,0),s2,s3,s4,s5,s6]
 have v0:E3 (Au F7 (Ad (Aa 0) (Ad (Aa 1) (Ac)))) (S none none none none none)=.nx (S none none none none none):=Nx (BA (xs:=[(bx f.1.1 f.1.2.1 f.1.2.2,0),(tb f.2,0)]) rfl (Pk p.tab (by omega) (by omega) (by omega) ((Qd p.tab).mpr p)));have v1:Ai false 2 (Al Cd (Ad (Aa 0) (Ad (Au Ld (Ad (Aa 1) (Ac))) (Ac)))) [0,1] (S none none none none none)=.nx (S (some (fP f,om)) none none none none):=setF (Dt (CP (f:=Aa 0) (x:=bx f.1.1 f.1.2.1 f.1.2.2) (d:=0) rfl (BI (BA (F:=Ld) (xs:=[(tb f.2,0)]) rfl (km (by omega))))) (z:=fP f) (c:=om) rfl) (show 2 < 7 by decide) rfl;let FF:QQ.Slot:=some (fP f,om);have v2:Ai false 3 (Al Bs (Ac)) [] (S FF none none none none)=.nx (S FF (some (.lst (([]:List Fo).map fP),om)) none none none):=by rfl
 let R2:Ag:=S FF (some (.lst (([]:List Fo).map fP),om)) none none none;have e3:=BA (F:=JV) (fa:=Ad (Aa 2) (Ac)) (ρ:=R2) (ρ1:=R2) (xs:=[(fP f,0)]) rfl (Z8 h);let B:QQ.Slot:=some (bx f.1.1 f.1.2.1 f.1.2.2,0);let T:QQ.Slot:=some (tb f.2,0);have o1:=outer (s0:=B) (s1:=T) (s2:=none) (s5:=none) (s6:=none) (acc:=[]) (x:=f) h (by decide);have l1:([f,fR f,fR (fR f)].foldl AX []).length<=3:=(N3 [f,fR f,fR (fR f)] [] .nil).2.2;have o2:=outer (s0:=B) (s1:=T) (s2:=none) (s5:=none) (s6:=none) (acc:=[f,fR f,fR (fR f)].foldl AX []) (x:=fM f) h.m (by omega);have v3:GA [2] (Au JV (Ad (Aa 2) (Ac))) 4 OB R2=.nx (S none (some (.lst ((Ec (DQ f)).map fP),om)) none none none):=by
  unfold GA;rw [e3];show Ez 4 OB [fP f,fP (fM f)] (S none (some (.lst (([]:List Fo).map fP),om)) none none none)=_;unfold Ez;show (match OB [B,T,none,some (.lst (([]:List Fo).map fP),om),some (fP f,om),none,none] with
   | .nx ρ'=>if 4 < ρ'.length then Ez 4 OB [fP (fM f)] (kill [4] 0 ρ') else .no
   | _=>.no)=_
  rw [o1];show Ez 4 OB [fP (fM f)] [B,T,none,some (.lst (([f,fR f,fR (fR f)].foldl AX []).map fP),om),none,none,none]=_;unfold Ez;show (match OB [B,T,none,some (.lst (([f,fR f,fR (fR f)].foldl AX []).map fP),om),some (fP (fM f),om),none,none] with
   | .nx ρ'=>if 4 < ρ'.length then Ez 4 OB [] (kill [4] 0 ρ') else .no
   | _=>.no)=_
  rw [o2];rfl
 obtain ⟨q1,q2,q3,q4⟩:=Nz (f:=f);have hF:GW=Ay false 2 5 OY:=rfl;rw [hF,xF];exact CC rfl ((AF v0).trans ((AF v1).trans ((AF v2).trans ((AF v3).trans (jk rfl q1 q3 q4)))))
def Df (f:Fo):List Fo:=[f,fM f,fR f,fR (fR (fM f)),fR (fR f),fR (fM f)]
def zM {f x:Fo}:x∈Df f↔x∈DQ f:=by
 simp only [Df,DQ,ja9,JG,or_false];constructor
 ·rintro (h | h | h | h | h | h)
  ·exact .inl h
  ·exact .inr (.inr (.inr (.inl h)))
  ·exact .inr (.inl h)
  ·exact .inr (.inr (.inr (.inr (.inr h))))
  ·exact .inr (.inr (.inl h))
  ·exact .inr (.inr (.inr (.inr (.inl h))))
 ·rintro (h | h | h | h | h | h)
  ·exact .inl h
  ·exact .inr (.inr (.inl h))
  ·exact .inr (.inr (.inr (.inr (.inl h))))
  ·exact .inr (.inl h)
  ·exact .inr (.inr (.inr (.inr (.inr h))))
  ·exact .inr (.inr (.inr (.inl h)))
theorem turned {f:Fo} (h:FOk f) (w:Nat) (hw:w < 6):∃ d,c_turned [bx f.1.1 f.1.2.1 f.1.2.2,tb f.2,.int (w:Int)]=.ok (fP ((Df f).getD w f),d,.non):=by
 obtain ⟨⟨a,b,c⟩,t⟩:=f;obtain ⟨p,ha,hb,hc⟩:=h
 match w,hw with
 | 0,_=>exact qp ha hb hc p
 | 1,_=>exact Vh ha hb hc p
 | 2,_=>exact Vi ha hb hc p
 | 3,_=>exact qr ha hb hc p
 | 4,_=>
  have:=Vj ha hb hc p
  rw [<- W7 p] at this;exact this
 | 5,_=>exact qt ha hb hc p
def Rq {d:Nat}{vs:List Nat}{ρ:Ag}:CF d vs ρ=ρ\/CF d vs ρ=cool vs 0 ρ:=by
 unfold CF;split
 ·exact .inl rfl
 ·exact .inr rfl
def LB:Fs:=Af (Ai false 4 (Au JU (Ad (Aa 0) (Ad (Aa 1) (Ad (Aa 3) (Ac))))) [0,1,3]) (AG (bT (Ab (BF true) (Aa 4) (Aa 2))) (BE 2 (Aa 4) [4]) Aq)
def xG:OX=Af (Ai false 2 (Al Bs (Ac)) []) (Af (CD AJ (Ad (bC (.int 6)) (Ac)) (Aj 3) LB) (Ap (Al Jj (Ad (Aa 2) (Ac))))):=rfl
def qd {f:Fo} (h:FOk f):IW [bx f.1.1 f.1.2.1 f.1.2.2,tb f.2]=.ok (.lst ((forms f).map fP),1,.non):=by
 have z:=sz;let R (d0 d1:Nat) (s2 s3 s4:QQ.Slot):Ag:=[some (bx f.1.1 f.1.2.1 f.1.2.2,d0),some (tb f.2,d1),s2,s3,s4]
 let L (j:Nat):List Fo:=((Df f).take j).foldl AX [];have len:∀ j,(L j).length<=6:=λ j=>by
  have:=(N3 ((Df f).take j) [] .nil).2.2
  rw [Ew] at this;have l6:(Df f).length=6:=rfl;simp at this;show (((Df f).take j).foldl AX []).length<=6;omega
 have v0:Ai false 2 (Al Bs (Ac)) [] (R 0 0 none none none)=.nx (R 0 0 (some (.lst ((L 0).map fP),om)) none none):=by rfl
 obtain ⟨ρ',e1,d0,d1,d2,s3,s4,hd,rfl⟩:=Gq (i:=3) (body:=LB) (en:=AJ) (fa:=Ad (bC (.int 6)) (Ac)) (ρ:=R 0 0 (some (.lst ((L 0).map fP),om)) none none) (ρ1:=R 0 0 (some (.lst ((L 0).map fP),om)) none none) (as:=[(.int 6,om)]) (lo:=0) (hi:=6) (λ j ρ=>∃ d0 d1 d2 s3 s4,(d2=om\/d2=1)/\ρ=R d0 d1 (some (.lst ((L j).map fP),d2)) s3 s4) rfl (D8 (by omega) (by omega)) ⟨0,0,om,none,none,.inl rfl,rfl⟩ (by
  rintro j ρ hj ⟨d0,d1,d2,s3,s4,hd,rfl⟩;have hj:j < 6:=hj;rw [E8];obtain ⟨dt,et⟩:=turned h j hj;let W:QQ.Slot:=some (.int (j:Int),om);let x:Fo:=(Df f).getD j f;have v1:∃ e0 e1 e4,Ai false 4 (Au JU (Ad (Aa 0) (Ad (Aa 1) (Ad (Aa 3) (Ac))))) [0,1,3] (R d0 d1 (some (.lst ((L j).map fP),d2)) W s4)=.nx (R e0 e1 (some (.lst ((L j).map fP),d2)) (some (.int (j:Int),e4)) (some (fP x,dt))):=by
   let R1:Ag:=R d0 d1 (some (.lst ((L j).map fP),d2)) W s4;have q:=BA (F:=JU) (fa:=Ad (Aa 0) (Ad (Aa 1) (Ad (Aa 3) (Ac)))) (ρ:=R1) (ρ1:=R1) (xs:=[(bx f.1.1 f.1.2.1 f.1.2.2,0),(tb f.2,0),(.int (j:Int),om)]) rfl et;rcases Rq (d:=dt) (vs:=[0,1,3]) (ρ:=R1) with cl | cl
   ·exact ⟨d0,d1,om,setF q (show 4 < 5 by decide) (by rw [cl];rfl)⟩
   ·exact ⟨0,0,0,setF q (show 4 < 5 by decide) (by rw [cl];rfl)⟩
  obtain ⟨e0,e1,e4,v1⟩:=v1;let R2:Ag:=R e0 e1 (some (.lst ((L j).map fP),d2)) (some (.int (j:Int),e4)) (some (fP x,dt));have c:=UK (neg:=true) (f:=Aa 4) (h:=Aa 2) (ρ:=R2) (ρ1:=R2) (ρ2:=R2) (x:=x) (gs:=L j) (d:=0) (e:=0) rfl rfl;have ej:L (j + 1)=AX (L j) x:=by
   show ((Df f).take (j + 1)).foldl AX []=AX (((Df f).take j).foldl AX []) x;have hl:j < (Df f).length:=hj;rw [Yd,List.foldl_append]
   have:(Df f)[j]?.toList=[x]:=by
    show _=[(Df f).getD j f];rw [AH,BC hl];rfl
   rw [this];rfl
  refine ⟨show 3 < 5 by decide,?_⟩;have v2:∃ d2' s4',(d2'=om\/d2'=1)/\AG (bT (Ab (BF true) (Aa 4) (Aa 2))) (BE 2 (Aa 4) [4]) Aq R2=.nx (R e0 e1 (some (.lst ((L (j + 1)).map fP),d2')) (some (.int (j:Int),e4)) s4'):=by
   rw [ej];unfold AX;by_cases e:x∈L j
   ·rw [decide_eq_true e] at c;rw [if_pos e];exact ⟨d2,_,hd,(BP (Bk c)).trans rfl⟩
   ·rw [decide_eq_false e] at c;rw [if_neg e];have em:(L j++[x]).map fP=(L j).map fP++[fP x]:=by rw [ET];rfl
    have lj:=len j;rw [em];refine ⟨1,some (fP x,0),.inr rfl,(Cq (Bk c)).trans ?_⟩;rcases hd with rfl | rfl
    ·exact Ki (i:=2) (xs0:=(L j).map fP) (d0:=999) (y:=fP x) (e:=0) (xs:=(L j).map fP) (d:=om) rfl rfl rfl (by decide) (by rw [Ax];omega) rfl
    ·exact Ki (i:=2) (xs0:=(L j).map fP) (d0:=0) (y:=fP x) (e:=0) (xs:=(L j).map fP) (d:=1) rfl rfl rfl (by decide) (by rw [Ax];omega) rfl
  obtain ⟨d2',s4',hd',v2⟩:=v2;exact ⟨_,(AF v1).trans v2,e0,e1,d2',_,s4',hd',rfl⟩)
 have e1':CD AJ (Ad (bC (.int 6)) (Ac)) (Aj 3) LB (R 0 0 (some (.lst ((L 0).map fP),om)) none none)=.nx (R d0 d1 (some (.lst ((Ec (Df f)).map fP),d2)) s3 s4):=e1;obtain ⟨n1,n2,n3⟩:=N3 (Df f) [] .nil;have n1:(Ec (Df f)).Nodup:=n1;have n3:(Ec (Df f)).length<=6:=n3;have n4:1<=(Ec (Df f)).length:=by
  have:f∈Ec (Df f):=(n2 f).mpr (.inr A9)
  exact Y9 this
 have same:BZ (Ec (Df f))=forms f:=by
  obtain ⟨q1,q2,q3,q4⟩:=Nz (f:=f);rw [Nf];refine WI (λ x=>?_) (W9 n1 n4 n3) (W9 q1 q3 q4);rw [Lu n1 n4 n3,Lu q1 q3 q4,q2,<- zM];exact (n2 x).trans ⟨λ h=>h.elim (λ z=>nomatch z) id,.inr⟩
 have hF:IW=Ay false 2 3 OX:=rfl;rw [hF,xG,<- same];exact CC rfl ((AF v0).trans ((AF e1').trans (CY (Dt (BI (f:=Aa 2) (x:=.lst ((Ec (Df f)).map fP)) (d:=0) rfl) (xg n1 n4 n3)))))
def kQ {n:Nat}{en:List (PV×Nat)->Option (Int×Int)}{fa:Fa}{test:Fb}{p:Nat->Bool}{ρ ρ1:Ag}{as:List (PV×Nat)}{lo hi:Int} (hf:fa ρ=.ok (as,ρ1)) (hen:en as=some (lo,hi)) (hn:ρ1.length=n) (ht:∀ k,k < (hi - lo).toNat->test (ρ1++[some (.int (lo + (k:Int)),om)])=.ok (p k,ρ1++[some (.int (lo + (k:Int)),om)])) (hl:(hi - lo).toNat<=A2):
  Cj en fa 1 (Aj n) test (Aa n) ρ=.ok (il (((An (hi - lo).toNat).filter p).map λ (k:Nat)=>lo + (k:Int)),om,ρ1):=by
 unfold Cj;rw [hf];dsimp only;rw [hen];dsimp only;rw [Qe,Kd (enc:=λ (k:Nat)=>PV.int (lo + (k:Int))) (p:=p) (q:=λ (k:Nat)=>PV.int (lo + (k:Int))) (e:=λ _=>om) (An (hi - lo).toNat) ρ1 [] hn (λ x hx=>ht x (jc6.mp hx)) (λ x hx _=>by
  unfold Aa;rw [EX (by omega),hn,Mx]
  rfl) (by simpa using hl)]
 show CZ _ ρ1=_;rw [JE];unfold CZ;rw [IX,BB];unfold il;rw [BB];rfl
def y4 (F:Fn):Fs:=(Af (AG (bT (AI (Ao (AK "tuple") (Aa 1)) (Ao (AK "list") (Aa 1)))) (Af (AG (bT (AI (Ab (Am true) (Ao (AK "tuple") (Aa 0)) (Ao (AK "tuple") (Aa 1))) (Ab (Am true) (Ao (AK "list") (Aa 0)) (Ao (AK "list") (Aa 1))))) (Ap (bC (.bl false))) Aq)
 (Af (AG (bT (Ab (Am true) (Al Bj (Ad (Aa 0) (Ac))) (Al Bj (Ad (Aa 1) (Ac))))) (Ap (bC (.bl false))) Aq)
 (Ap (Ab (Am false) (Cj AJ (Ad (Al Bj (Ad (Aa 1) (Ac))) (Ac)) 1 (Aj 2) (bT (Ao BU (Au F (Ad (Ab Ah (Aa 0) (Aa 2)) (Ad (Ab Ah (Aa 1) (Aa 2)) (Ac)))))) (Aa 2)) (Al Bs (Ac)))))) Aq)
 (Ap (BH (Ao (AK "int") (Aa 0)) (BH (Ao BU (Ao (AK "bool") (Aa 0))) (Ab (Am false) (Aa 0) (Aa 1))))))
def al:Nat->Fn
 | 0=>λ _=>.no
 | n + 1=>Ay false 2 0 (y4 (al n))
def Oz (n:Nat) (i:Int):al (n + 1) [.int i,.int i]=.ok (.bl true,om,.non):=by
 let R:Ag:=[some (.int i,om),some (.int i,om)]
 have e:(BH (Ao (AK "int") (Aa 0)) (BH (Ao BU (Ao (AK "bool") (Aa 0))) (Ab (Am false) (Aa 0) (Aa 1)))) R=.ok (.bl (true && (true && (false^^decide (i=i)))),om,R):=
  GD (a:=true) (d:=om) rfl (λ _=>GD (a:=true) (d:=om) rfl (λ _=>Gy (i:=i) (j:=i) rfl rfl) rfl) rfl
 rw [decide_eq_true rfl] at e;exact CC rfl (ρ':=R) ((AF (ρ1:=R) (BP (ρ1:=R) rfl)).trans (CY e))
def Mh {n m:Nat}{c:List PV->PV} (hc:c=PV.lst\/c=PV.tup) {xs:List PV} (hm:xs.length=m) (hl:m<=1000) (h:∀ k,k < m->∃ x d,al n [x,x]=.ok (.bl true,om,.non)/\∀ (j:Nat) (ρ:Ag),Aa j ρ=.ok (c xs,0,ρ)->Aa 2 ρ=.ok (.int (0 + (k:Int)),om,ρ)->Ab Ah (Aa j) (Aa 2) ρ=.ok (x,d,ρ)):al (n + 1) [c xs,c xs]=.ok (.bl true,om,.non):=by
 have z:=sz;have d0:dv (c xs)=0:=by rcases hc with rfl | rfl <;> rfl
 let R:Ag:=[some (c xs,dv (c xs)),some (c xs,dv (c xs))]
 have v0:∀ j,Aa j R=.ok (c xs,dv (c xs),R)->Aa j R=.ok (c xs,0,R):=λ j h=>by rw [d0] at h;exact h
 have t1:bT (AI (Ao (AK "tuple") (Aa 1)) (Ao (AK "list") (Aa 1))) R=.ok (true,R):=by rcases hc with rfl | rfl <;> kernel_rfl
 have t3:bT (AI (Ab (Am true) (Ao (AK "tuple") (Aa 0)) (Ao (AK "tuple") (Aa 1))) (Ab (Am true) (Ao (AK "list") (Aa 0)) (Ao (AK "list") (Aa 1)))) R=.ok (false,R):=by rcases hc with rfl | rfl <;> kernel_rfl
 have el:∀ j ρ,Aa j ρ=.ok (c xs,0,ρ)->Al Bj (Ad (Aa j) (Ac)) ρ=.ok (.int (m:Int),om,ρ):=λ j ρ e=>Dt (BI e) (by rw [<- hm];rcases hc with rfl | rfl <;> rfl);have t4:=Bk (Gy (neg:=true) (el 0 R (v0 0 rfl)) (el 1 R (v0 1 rfl)));rw [decide_eq_true rfl] at t4;have e5:=kQ (n:=2) (en:=AJ) (fa:=Ad (Al Bj (Ad (Aa 1) (Ac))) (Ac)) (ρ:=R) (ρ1:=R) (as:=[(.int (m:Int),om)]) (lo:=0) (hi:=(m:Int)) (p:=λ _=>false)
  (test:=bT (Ao BU (Au (al n) (Ad (Ab Ah (Aa 0) (Aa 2)) (Ad (Ab Ah (Aa 1) (Aa 2)) (Ac)))))) (BI (el 1 R (v0 1 rfl))) (D8 (by omega) (by omega)) rfl (λ k hk=>by
   obtain ⟨x,d,e,f⟩:=h k (by omega);let Q:Ag:=R++[some (.int (0 + (k:Int)),om)];have q0:Aa 0 Q=.ok (c xs,0,Q):=by show Rz.ok (c xs,dv (c xs),Q)=_;rw [d0]
   have q1:Aa 1 Q=.ok (c xs,0,Q):=by show Rz.ok (c xs,dv (c xs),Q)=_;rw [d0]
   exact Bk (Ji (BA (xs:=[(x,d),(x,d)]) (CP (f 0 Q q0 rfl) (BI (f 1 Q q1 rfl))) e))) (by omega)
 rw [show ∀ l:List Nat,l.filter (λ _=>false)=[] from λ l=>by simp,Dq] at e5;have e6:=ZX (neg:=false) (ys:=[]) (d:=om) (e:=om) (h:=Al Bs (Ac)) e5 rfl;rw [decide_eq_true rfl] at e6;exact CC rfl (ρ':=R) (Kh ((Cq t1).trans ((AF (BP t3)).trans ((AF (BP t4)).trans (CY e6)))))
def Zm (n:Nat) (r:List Int) (hl:r.length<=1000):al (n + 2) [il r,il r]=.ok (.bl true,om,.non):=
 Mh (c:=PV.lst) (.inl rfl) (m:=r.length) (Ax _) hl λ k hk=>⟨.int (r.getD k 0),om,Oz n _,λ j ρ e1 e2=>GF (xs:=r) e1 e2 (Eg (by omega) (by rw [show (0 + (k:Int)).toNat=k by omega];exact DY hk))⟩
def Zn (n:Nat) (t:List (List Int)) (hl:t.length<=1000) (hr:∀ r∈t,r.length<=1000):al (n + 3) [tb t,tb t]=.ok (.bl true,om,.non):=
 Mh (c:=PV.lst) (.inl rfl) (m:=t.length) (Ax _) hl λ k hk=>⟨il t[k],0,Zm n _ (hr _ (Fy hk)),λ j ρ e1 e2=>Ly (t:=t) e1 e2 (Eg (by omega) (by rw [show (0 + (k:Int)).toNat=k by omega];exact BC hk))⟩
def Zk (n:Nat) (a b c:Int):al (n + 2) [bx a b c,bx a b c]=.ok (.bl true,om,.non):=
 Mh (c:=PV.tup) (.inr rfl) (xs:=[.int a,.int b,.int c]) (m:=3) rfl (by decide) λ k hk=>match k,hk with
  | 0,_=>⟨.int a,om,Oz n _,λ j ρ e1 e2=>BV e1 e2 rfl⟩
  | 1,_=>⟨.int b,om,Oz n _,λ j ρ e1 e2=>BV e1 e2 rfl⟩
  | 2,_=>⟨.int c,om,Oz n _,λ j ρ e1 e2=>BV e1 e2 rfl⟩
def Zl (n:Nat) (f:Fo) (hl:f.2.length<=1000) (hr:∀ r∈f.2,r.length<=1000):al (n + 4) [fP f,fP f]=.ok (.bl true,om,.non):=
 Mh (c:=PV.tup) (.inr rfl) (xs:=[bx f.1.1 f.1.2.1 f.1.2.2,tb f.2]) (m:=2) rfl (by decide) λ k hk=>match k,hk with
  | 0,_=>⟨bx f.1.1 f.1.2.1 f.1.2.2,0,Zk (n + 1) _ _ _,λ j ρ e1 e2=>BV e1 e2 rfl⟩
  | 1,_=>⟨tb f.2,0,Zn n _ hl hr,λ j ρ e1 e2=>BV e1 e2 rfl⟩
def V1 {f g:Fx}{ρ ρ1 ρ2:Ag}{M:List Fo}{k:Nat}{d e:Nat} (h1:f ρ=.ok (.lst (M.map fP),d,ρ1)) (h2:g ρ1=.ok (.int (k:Int),e,ρ2)) (h:k < M.length):Ab Ah f g ρ=.ok (fP (M.getD k Cg),0,ρ2):=by
 refine BV h1 h2 ?_;show (Ci (M.map fP) (k:Int)).map _=_;rw [Eg (x:=fP (M.getD k Cg)) (by omega) (by rw [EV,C8,AH,BC h];rfl)];rfl
def qu (n:Nat) (M:List Fo) (hm:M.length<=1000) (h:∀ f∈M,f.2.length<=1000/\∀ r∈f.2,r.length<=1000):al (n + 5) [.lst (M.map fP),.lst (M.map fP)]=.ok (.bl true,om,.non):=
 Mh (c:=PV.lst) (.inl rfl) (m:=M.length) (Ax _) hm λ k hk=>⟨fP (M.getD k Cg),0,(h _ (RC hk Cg)).elim λ h1 h2=>Zl n _ h1 h2,λ j ρ e1 e2=>V1 e1 (by rw [e2];congr 3;omega) hk⟩
def Tp:Md=al 1:=by unfold Md;rw [jz];rfl
def To:Me=al 2:=by unfold Me;rw [j0,Tp];rfl
def Tn:Mf=al 3:=by unfold Mf;rw [j4,To];rfl
def Tj:Mg=al 4:=by unfold Mg;rw [j5,Tn];rfl
def Ti:HV=al 5:=by show Oa=_;unfold Oa;rw [j6,Tj];rfl
def Zp {M:List Fo} (hm:M.length<=1000) (h:∀ f∈M,f.2.length<=1000/\∀ r∈f.2,r.length<=1000):HV [.lst (M.map fP),.lst (M.map fP)]=.ok (.bl true,om,.non):=by rw [Ti];exact qu 0 M hm h
def ZW {neg:Bool}{f g:Fx}{ρ ρ1 ρ2:Ag}{xs ys:List Fo}{d e:Nat} (h1:f ρ=.ok (.lst (xs.map fP),d,ρ1)) (h2:g ρ1=.ok (.lst (ys.map fP),e,ρ2)):Ab (Am neg) f g ρ=.ok (.bl (neg^^decide (xs=ys)),om,ρ2):=by
 refine BV h1 h2 ?_;have D:∀ zs:List Fo,Be 20 (.lst (zs.map fP))=some (.list (zs.map fD)):=λ zs=>by
  show (A3 (Be 19) (zs.map fP)).map PyData.list=_;have one:∀ f:Fo,Be 19 (fP f)=some (fD f):=λ f=>by
   have row:∀ r:List Int,A3 (Be 16) (r.map PV.int)=some (r.map PyData.int):=λ r=>Gu (q:=PyData.int) (λ _=>rfl) r;have rows:A3 (Be 17) (f.2.map il)=some (f.2.map dI):=Gu (q:=dI) (λ r=>by
    show (A3 (Be 16) (r.map PV.int)).map PyData.list=_;rw [row]
    rfl) f.2
   have e2:Be 18 (tb f.2)=some (dT f.2):=by
    show (A3 (Be 17) (f.2.map il)).map PyData.list=_;rw [rows];rfl
   show (A3 (Be 18) [bx f.1.1 f.1.2.1 f.1.2.2,tb f.2]).map PyData.tuple=_;unfold A3;unfold A3;unfold A3;rw [e2];rfl
  rw [Gu (q:=fD) one zs];rfl
 unfold Am;rw [D,D];dsimp only;rw [BK,JW Rw]
def wF {i:Nat}{x:Fo}{ρ:Ag} (h:Aa i ρ=.ok (fP x,0,ρ)):Ab Ah (Aa i) (bC (.int 0)) ρ=.ok (bx x.1.1 x.1.2.1 x.1.2.2,0,ρ):=BV (op:=Ah) h (g:=bC (.int 0)) (y:=.int 0) (e:=om) rfl rfl
def wD {i:Nat}{x:Fo}{ρ:Ag} (h:Aa i ρ=.ok (fP x,0,ρ)):Ab Ah (Aa i) (bC (.int 1)) ρ=.ok (tb x.2,0,ρ):=BV (op:=Ah) h (g:=bC (.int 1)) (y:=.int 1) (e:=om) rfl rfl
def Xa {f:Fx}{n:Nat}{t:List (List Int)}{ρ:Ag}{d:Nat} (hf:f ρ=.ok (tb t,d,ρ)) (hn:ρ.length=n) (hl:t.length<=1000):AO f 1 (Aj n) AA (Al EB (Ad (Aa n) (Ac))) ρ=.ok (tb t,om,ρ):=by
 have z:=sz;have e:=DJ (n:=n) (enc:=il) (q:=il) (elt:=Al EB (Ad (Aa n) (Ac))) t hf hn (λ r hr=>by
  have hv:Aa n (ρ++[some (il r,dv (il r))])=.ok (il r,0,ρ++[some (il r,dv (il r))]):=by
   unfold Aa;rw [EX (by omega),hn,Mx];rfl
  exact Dt (BI hv) (by show some (PV.lst (r.map PV.int),d1 (r.map PV.int))=_;rw [Lw];rfl)) (by omega)
 exact e
def Vy {f:Fo} (h:FOk f):f.2.length<=1000:=by have:=h.p.tab.1;have:=h.a1;omega
def VL {t:List (List Int)}{i:Nat} (h:i < t.length):t.getD i []∈t:=by
 rw [AH,BC h];exact Fy h
def Hq (M:List Fo) (k i:Nat) (v:Int):List Fo:=M.set k ((M.getD k Cg).1,(M.getD k Cg).2.set i ((M.getD k Cg).2.getD i []++[v]))
def VY {x p1 p2 p3 k i:Nat}{v:Int}{M:List Fo}{ρ:Ag}{e1 e2 e3:Nat} (hx:ρ[x]?=some (some (.lst (M.map fP),om))) (h1:ρ[p1]?=some (some (.int (k:Int),e1))) (h2:ρ[p2]?=some (some (.int (i:Int),e2))) (h3:ρ[p3]?=some (some (.int v,e3))) (hk:k < M.length) (hi:i < (M.getD k Cg).2.length) (hl:((M.getD k Cg).2.getD i []).length<=1000):FQ x p1 p2 p3 ρ=.nx (ρ.set x (some (.lst ((Hq M k i v).map fP),om))):=by
 have z:=sz;let y:Fo:=M.getD k Cg;have gk:(M.map fP)[k]?=some (fP y):=by
  show _=some (fP (M.getD k Cg));rw [C8,AH,BC hk];rfl
 have gi:(y.2.map il)[i]?=some (il (y.2.getD i [])):=by
  rw [C8,AH,BC hi];rfl
 have ca:Ln (M.map fP) (Int.toNat (k:Int)) (Int.toNat (i:Int))=some ([bx y.1.1 y.1.2.1 y.1.2.2,tb y.2],y.2.map il,(y.2.getD i []).map PV.int):=by
  rw [EV,EV];unfold Ln;rw [gk];show ((y.2.map il)[i]?.bind Gb).map _=_;rw [gi];rfl
 have i1:ρ[p1]?.bind DV=some (k:Int):=by rw [h1];rfl
 have i2:ρ[p2]?.bind DV=some (i:Int):=by rw [h2];rfl
 have i3:ρ[p3]?.bind DV=some v:=by rw [h3];rfl
 unfold FQ;rw [hx];dsimp only;rw [i1,i2,i3];dsimp only;rw [ca];dsimp only;rw [if_pos ⟨rfl,by omega,by omega,by rw [Ax];exact Nat.lt_of_le_of_lt hl (by omega)⟩,EV,EV]
 have:(M.map fP).set k (.tup ([bx y.1.1 y.1.2.1 y.1.2.2,tb y.2].set 1 (.lst ((y.2.map il).set i (.lst ((y.2.getD i []).map PV.int++[.int v]))))))=(Hq M k i v).map fP:=by
  unfold Hq;rw [KH];congr 1;show PV.tup [_,PV.lst ((y.2.map il).set i (.lst ((y.2.getD i []).map PV.int++[.int v])))]=PV.tup [_,PV.lst ((y.2.set i (y.2.getD i []++[v])).map il)];rw [KH]
  have:il (y.2.getD i []++[v])=.lst ((y.2.getD i []).map PV.int++[.int v]):=by unfold il;rw [ET];rfl
  rw [this]
 rw [this]
structure Gd (m:Nat) (M:List Fo) (n:Nat):Prop where
 len:M.length=m
 rows:∀ k,(M.getD k Cg).2.length<=6
 short:∀ k,∀ r∈(M.getD k Cg).2,r.length<=6 + n
def WH (M:List Fo) (k i:Nat) (v:Int):∀ j,((Hq M k i v).getD j Cg).2.length=(M.getD j Cg).2.length:=λ j=>by
 unfold Hq;rw [AH,Yt];split
 ·rename_i e;subst e;split
  ·rw [Yl,DT]
  ·rename_i h;rw [AH,IP (by omega)]
 ·rw [AH]
def Gd.up {m n k i:Nat}{M:List Fo}{v:Int} (g:Gd m M n):Gd m (Hq M k i v) (n + 1) where
 len:=by unfold Hq;rw [DT];exact g.len
 rows:=λ j=>by rw [WH];exact g.rows j
 short:=λ j r hr=>by
  unfold Hq at hr;rw [AH,Yt] at hr;split at hr
  ·rename_i e;subst e;split at hr
   ·rw [Yl] at hr;have hr:r∈(M.getD k Cg).2.set i ((M.getD k Cg).2.getD i []++[v]):=hr;rcases OU hr with hr | rfl
    ·have:=g.short k r hr;omega
    ·rw [BL,IQ];by_cases hi:i < (M.getD k Cg).2.length
     ·have:=g.short k ((M.getD k Cg).2.getD i []) (VL hi)
      omega
     ·rw [AH,IP (by omega)];show 0 + 1<=_;omega
   ·cases hr
  ·rw [<- AH] at hr
   have:=g.short j r hr
   omega
def FL (a0 a1 a2 a3 a4 a5 s6 s7 s8 s9 s10 s11 s12:QQ.Slot):Ag:=[a0,a1,a2,a3,a4,a5,s6,s7,s8,s9,s10,s11,s12]
def I2:Fs:=Af (FQ 6 10 11 9) (Af (FQ 8 10 11 9) (Ai false 9 (Ab AS (Aa 9) (bC (.int 1))) [9]))
def I1:Fs:=CD AJ (Ad (Al Bj (Ad (Ab Ah (Ab Ah (Aa 6) (Aa 10)) (bC (.int 1))) (Ac))) (Ac)) (Aj 11) I2
def IT:Fs:=CD AJ (Ad (Al Bj (Ad (Aa 6) (Ac))) (Ac)) (Aj 10) I1
section
variable {a0 a1 a2 a3 a4 a5 s7 s10 s11 s12:QQ.Slot}
def FM (a0 a1 a2 a3 a4 a5 s7 s12:QQ.Slot) (M:List Fo) (n:Nat) (s10 s11:QQ.Slot):Ag:=FL a0 a1 a2 a3 a4 a5 (some (.lst (M.map fP),om)) s7 (some (.lst (M.map fP),om)) (some (.int (n:Int),om)) s10 s11 s12
def zk {m k n:Nat}{M:List Fo} (g:Gd m M n) (hk:k < m) (hn:n<=500):∃ M' n' s11',Gd m M' n'/\n'<=n + 6/\I1 (FM a0 a1 a2 a3 a4 a5 s7 s12 M n (some (.int (k:Int),om)) s11)=.nx (FM a0 a1 a2 a3 a4 a5 s7 s12 M' n' (some (.int (k:Int),om)) s11'):=by
 have z:=sz;let K:QQ.Slot:=some (.int (k:Int),om);let R0:Ag:=FM a0 a1 a2 a3 a4 a5 s7 s12 M n K s11;have hkM:k < M.length:=by rw [g.len];exact hk
 have e0:=V1 (f:=Aa 6) (g:=Aa 10) (ρ:=R0) (ρ1:=R0) (ρ2:=R0) (M:=M) (k:=k) (d:=0) (e:=om) rfl rfl hkM;have e1:Ab Ah (Ab Ah (Aa 6) (Aa 10)) (bC (.int 1)) R0=.ok (tb (M.getD k Cg).2,0,R0):=BV (op:=Ah) e0 (g:=bC (.int 1)) (y:=.int 1) (e:=om) rfl rfl;have e2:=RE (BI e1);let w:Nat:=(M.getD k Cg).2.length;have hw:w<=6:=g.rows k;obtain ⟨ρ',e,M',s11',g',hl,rfl⟩:=Gq (i:=11) (body:=I2) (en:=AJ) (fa:=Ad (Al Bj (Ad (Ab Ah (Ab Ah (Aa 6) (Aa 10)) (bC (.int 1))) (Ac))) (Ac)) (ρ:=R0) (ρ1:=R0) (as:=[(.int (w:Int),om)]) (lo:=0) (hi:=(w:Int)) (λ j ρ=>∃ M' s11',Gd m M' (n + j)/\(M'.getD k Cg).2.length=w/\ρ=FM a0 a1 a2 a3 a4 a5 s7 s12 M' (n + j) K s11') (BI e2) (D8 (by omega) (by omega)) ⟨M,s11,g,rfl,rfl⟩ (by
  rintro j ρ hj ⟨M',s11',g',hl,rfl⟩;have hj:j < w:=by omega
  rw [E8];let J:QQ.Slot:=some (.int (j:Int),om);have hkM':k < M'.length:=by rw [g'.len];exact hk
  have hr:((M'.getD k Cg).2.getD j []).length<=1000:=by
   have:=g'.short k ((M'.getD k Cg).2.getD j []) (VL (by omega))
   omega
  let U:List Fo:=Hq M' k j ((n + j:Nat):Int);let L (s6 s8 s9:QQ.Slot):Ag:=FL a0 a1 a2 a3 a4 a5 s6 s7 s8 s9 K J s12;let O:QQ.Slot:=some (.lst (M'.map fP),om);let V:QQ.Slot:=some (.lst (U.map fP),om);let N:QQ.Slot:=some (.int ((n + j:Nat):Int),om);have v1:FQ 6 10 11 9 (L O O N)=.nx (L V O N):=VY (M:=M') (k:=k) (i:=j) (v:=((n + j:Nat):Int)) (e1:=om) (e2:=om) (e3:=om) rfl rfl rfl rfl hkM' (by omega) hr;have v2:FQ 8 10 11 9 (L V O N)=.nx (L V V N):=VY (M:=M') (k:=k) (i:=j) (v:=((n + j:Nat):Int)) (e1:=om) (e2:=om) (e3:=om) rfl rfl rfl rfl hkM' (by omega) hr;have q:=FP (f:=Aa 9) (g:=bC (.int 1)) (ρ:=L V V N) (ρ1:=L V V N) (ρ2:=L V V N) (i:=((n + j:Nat):Int)) (j:=1) (d:=om) (e:=om) rfl rfl;rw [show ((n + j:Nat):Int) + 1=((n + (j + 1):Nat):Int) by omega] at q;have v3:Ai false 9 (Ab AS (Aa 9) (bC (.int 1))) [9] (L V V N)=.nx (L V V (some (.int ((n + (j + 1):Nat):Int),om))):=setF q (show 9 < 13 by decide) rfl;refine ⟨show 11 < 13 by decide,_,(AF v1).trans ((AF v2).trans v3),U,J,?_,?_,rfl⟩
  ·exact g'.up
  ·rw [WH];exact hl)
 rw [show ((w:Int) - 0).toNat=w by omega] at g';refine ⟨M',n + w,s11',g',by omega,?_⟩;rw [show ((w:Int) - 0).toNat=w by omega] at e;exact e
def jT {m:Nat}{M:List Fo} (g:Gd m M 0) (hm:m<=6):∃ M' n' s10' s11',Gd m M' n'/\IT (FM a0 a1 a2 a3 a4 a5 s7 s12 M 0 s10 s11)=.nx (FM a0 a1 a2 a3 a4 a5 s7 s12 M' n' s10' s11'):=by
 have z:=sz;let R0:Ag:=FM a0 a1 a2 a3 a4 a5 s7 s12 M 0 s10 s11;have e0:Al Bj (Ad (Aa 6) (Ac)) R0=.ok (.int (m:Int),om,R0):=Dt (BI (x:=.lst (M.map fP)) (d:=0) rfl) (by show some (PV.int ((M.map fP).length:Int),om)=_;rw [Ax,g.len]);obtain ⟨ρ',e,M',n',s10',s11',g',_,rfl⟩:=Gq (i:=10) (body:=I1) (en:=AJ) (fa:=Ad (Al Bj (Ad (Aa 6) (Ac))) (Ac)) (ρ:=R0) (ρ1:=R0) (as:=[(.int (m:Int),om)]) (lo:=0) (hi:=(m:Int)) (λ j ρ=>∃ M' n' s10' s11',Gd m M' n'/\n'<=6 * j/\ρ=FM a0 a1 a2 a3 a4 a5 s7 s12 M' n' s10' s11') (BI e0) (D8 (by omega) (by omega)) ⟨M,0,s10,s11,g,by omega,rfl⟩ (by
  rintro j ρ hj ⟨M',n',s10',s11',g',hn,rfl⟩;have hj:j < m:=by omega
  rw [E8];obtain ⟨M2,n2,DO,g2,h2,e2⟩:=zk (a0:=a0) (a1:=a1) (a2:=a2) (a3:=a3) (a4:=a4) (a5:=a5) (s7:=s7) (s11:=s11') (s12:=s12) g' hj (by omega);exact ⟨show 10 < 13 by decide,_,e2,M2,n2,_,DO,g2,by omega,rfl⟩)
 exact ⟨M',n',s10',s11',g',e⟩
theorem Wa {s8 s9:QQ.Slot}:∀ (M:List Fo) (done:List PV),∃ ys,Im false 6 12 (Hh 12) done (M.map fP) (FL a0 a1 a2 a3 a4 a5 none s7 s8 s9 s10 s11 none)=.nx (FL a0 a1 a2 a3 a4 a5 (some (.lst ys,om)) s7 s8 s9 s10 s11 none)
 | [],done=>⟨done,rfl⟩
 | x::M,done=>by
  obtain ⟨ys,e⟩:=Wa M (done++[.tup [bx x.1.1 x.1.2.1 x.1.2.2,.lst []]]);exact ⟨ys,e⟩
end
def P0:Fs:=Ai false 2 (Au Pa (Ad (Au Pb (Ad (Aa 0) (Ad (Aa 1) (Ac)))) (Ad (bC (.int 46)) (Ac)))) [0,1]
def P1:Fs:=Ai false 3 (Au OZ (Ad (CO (Aa 2) (some (bC (.int 38))) (some (bC (.int 42)))) (Ac))) [2]
def P2:Fs:=Ai false 4 (Au MJ (Ad (Aa 3) (Ad (Au MK (Ad (Aa 3) (Ad (Aa 2) (Ac)))) (Ad (Ab AL (Ab Ah (Aa 2) (bC (.int 42))) (bC (.int 12))) (Ac))))) [3,3,2,2]
def P3:Fs:=Ai false 5 (AO (Aa 4) 1 (Aj 13) AA (Al EB (Ad (Aa 13) (Ac)))) [4,4]
def P4:Fs:=Ai false 6 (Au GW (Ad (Aa 3) (Ad (Aa 5) (Ac)))) [3,5]
def P5:Fs:=Ai false 7 (Au IW (Ad (Aa 3) (Ad (Aa 4) (Ac)))) [3,4]
def P6:Fs:=AG (bT (AI (Ao BU (Au HV (Ad (Aa 6) (Ad (Aa 7) (Ac))))) (Ab (Am true) (Aa 5) (Aa 4)))) (Ap (bC (.bl false))) Aq
def P7:Fs:=Ai false 8 (AO (Aa 7) 1 (Aj 13) AA (Al Cd (Ad (Ab Ah (Aa 13) (bC (.int 0))) (Ad (AO (Ab Ah (Aa 13) (bC (.int 1))) 1 (Aj 14) AA (Al EB (Ad (Aa 14) (Ac)))) (Ac))))) [7,7,7,7]
def P8:Fs:=Ai false 9 (bC (.int 0)) []
def YJ:Fs:=AG (bT (Ab (Am true) (Aa 6) (Aa 8))) (Ap (bC (.bl false))) Aq
def YI:Fs:=AG (bT (AI (Ab (Am true) (Aa 5) (Aa 4)) (Ao BU (Au HV (Ad (Au GW (Ad (Aa 3) (Ad (Aa 5) (Ac)))) (Ad (Aa 7) (Ac))))))) (Ap (bC (.bl false))) Aq
def LK:Fs:=Af P0 (Af P1 (Af P2 (Af P3 (Af P4 (Af P5 (Af P6 (Af P7 (Af P8 (Af IT (Af YJ (Af (J2 6 12 (Hh 12)) (Af (ER 6) YI))))))))))))
def xH:OW=Af (CD AJ (Ad (Al DL (Ad (bC (.int 1)) (Ad (Al EC (Ad (Al Bj (Ad (Aa 0) (Ac))) (Ad (bC (.int 12)) (Ac)))) (Ac)))) (Ac)) (Aj 1) LK) (Ap (bC (.bl true))):=rfl
def w9 {f:Fo} (h:FOk f):(forms f).length<=6/\(∀ x∈forms f,FOk x):=by
 obtain ⟨q1,q2,q3,q4⟩:=Nz (f:=f);refine ⟨by rw [Nf,kN q1 q3 q4];exact q4,λ x hx=>qD h x (qgf.mp hx)⟩
def Wf {f:Fo} (h:FOk f):f.2.length<=6/\∀ r∈f.2,r.length<=6:=by
 have h1:=h.p.tab.1;have h2:=h.a1;have h3:=h.b1;exact ⟨by omega,λ r hr=>by have:=h.p.tab.2 r hr;omega⟩
def wZ {L:List Fo} (ok:∀ x∈L,FOk x):Gd L.length L 0:=by
 have one:∀ k,(L.getD k Cg).2.length<=6/\∀ r∈(L.getD k Cg).2,r.length<=6:=λ k=>by
  by_cases hk:k < L.length
  ·exact Wf (ok _ (RC hk Cg))
  ·rw [AH,IP (by omega)];exact ⟨by show 0<=6;omega,λ _ z=>nomatch z⟩
 exact ⟨rfl,λ k=>(one k).1,λ k=>(one k).2⟩
def Zj {ns:List Int}{k:Nat}{s2 s3 s4 s5 s6 s7 s8 s9 s10 s11 s12:QQ.Slot}:∃ t2 t3 t4 t5 t6 t7 t8 t9 Ep DO Iz,LK [some (.scr ns,om),some (.int (k:Int),om),s2,s3,s4,s5,s6,s7,s8,s9,s10,s11,s12]=.nx [some (.scr ns,om),some (.int (k:Int),om),t2,t3,t4,t5,t6,t7,t8,t9,Ep,DO,Iz]:=by
 have z:=sz;let A0:QQ.Slot:=some (.scr ns,om);let A1:QQ.Slot:=some (.int (k:Int),om);let S (s2 s3 s4 s5 s6 s7 s8 s9 s10 s11 s12:QQ.Slot):Ag:=FL A0 A1 s2 s3 s4 s5 s6 s7 s8 s9 s10 s11 s12;obtain ⟨xs,hx,e1⟩:=xO (ns.getD k 0) 46 (by omega);let X:QQ.Slot:=some (il xs,om);have v0:P0 (S s2 s3 s4 s5 s6 s7 s8 s9 s10 s11 s12)=.nx (S X s3 s4 s5 s6 s7 s8 s9 s10 s11 s12):=setF (BA (CP (BA (xs:=[(.scr ns,om),(.int (k:Int),om)]) rfl (xM ns k)) (BI (x:=.int 46) (d:=om) rfl)) e1) (show 2 < 13 by decide) rfl;have ix:∀ (n:Nat) (ρ:Ag),n < 46->Aa 2 ρ=.ok (il xs,0,ρ)->Ab Ah (Aa 2) (bC (.int (n:Int))) ρ=.ok (.int (xs.getD n 0),om,ρ):=λ n ρ hn h=>GF (xs:=xs) (k:=(n:Int)) h rfl (Eg (by omega) (DY (by rw [EV];omega)));let R1:Ag:=S X s3 s4 s5 s6 s7 s8 s9 s10 s11 s12;let ys:List Int:=(xs.drop 38).take 4;have hy:ys.length=4:=by show ((xs.drop 38).take 4).length=4;rw [Ew,SS,hx];decide
 obtain ⟨a,b,c,ha,hb,hc,e2⟩:=xJ ys hy;have sl:CO (Aa 2) (some (bC (.int 38))) (some (bC (.int 42))) R1=.ok (il ys,om,R1):=by
  show Rz.ok (PV.lst (By (xs.map PV.int) (some ((38:Nat):Int)) (some ((42:Nat):Int))),d1 (By (xs.map PV.int) (some ((38:Nat):Int)) (some ((42:Nat):Int))),R1)=_;have e:By (xs.map PV.int) (some ((38:Nat):Int)) (some ((42:Nat):Int))=ys.map PV.int:=by
   unfold By;rw [HT.sIx_nat,HT.sIx_nat,Ax,hx,<- List.map_drop,<- SI];rfl
  rw [e,Lw];rfl
 have v1:P1 R1=.nx (S X (some (bx a b c,om)) s4 s5 s6 s7 s8 s9 s10 s11 s12):=setF (BA (BI sl) e2) (show 3 < 13 by decide) rfl;let R3:Ag:=S X (some (bx a b c,om)) s4 s5 s6 s7 s8 s9 s10 s11 s12;obtain ⟨t0,d0,p0,_,e3⟩:=jI xs (by omega) ha hb (show 1<=c/\c<=99 by omega);have m12:=DX (ix 42 R3 (by decide) rfl) (g:=bC (.int 12)) (j:=12) (e:=om) rfl (by decide);obtain ⟨t,d4,p,e4⟩:=zy (w:=xs.getD 42 0 % 12) p0 ha hb hc;have v2:∃ d2 d3,P2 R3=.nx (S (some (il xs,d2)) (some (bx a b c,d3)) (some (tb t,d4)) s5 s6 s7 s8 s9 s10 s11 s12):=by
  have q:=BA (F:=MJ) (CP (f:=Aa 3) (x:=bx a b c) (d:=0) (ρ:=R3) rfl (CP (BA (F:=MK) (fa:=Ad (Aa 3) (Ad (Aa 2) (Ac))) (ρ1:=R3) (xs:=[(bx a b c,0),(il xs,0)]) rfl e3) (BI m12))) e4;rcases Rq (d:=d4) (vs:=[3,3,2,2]) (ρ:=R3) with cl | cl
  ·exact ⟨om,om,setF q (show 4 < 13 by decide) (by rw [cl];rfl)⟩
  ·exact ⟨0,0,setF q (show 4 < 13 by decide) (by rw [cl];rfl)⟩
 obtain ⟨d2,d3,v2⟩:=v2;let f:Fo:=((a,b,c),t)
 have h:FOk f:=⟨p,ha,hb,hc⟩
 have lt:t.length<=1000:=Vy h;let X2:QQ.Slot:=some (il xs,d2);let T (d3 d4:Nat) (s5 s6 s7 s8 s9 s10 s11 s12:QQ.Slot):Ag:=S X2 (some (bx a b c,d3)) (some (tb t,d4)) s5 s6 s7 s8 s9 s10 s11 s12;let H:QQ.Slot:=some (tb t,om);have v3:P3 (T d3 d4 s5 s6 s7 s8 s9 s10 s11 s12)=.nx (T d3 d4 H s6 s7 s8 s9 s10 s11 s12):=setF (Xa (n:=13) (f:=Aa 4) (d:=0) (t:=t) (ρ:=T d3 d4 s5 s6 s7 s8 s9 s10 s11 s12) rfl rfl lt) (show 5 < 13 by decide) rfl;have f1:GW [bx a b c,tb t]=.ok (.lst ((forms f).map fP),om,.non):=ko (f:=f) h;have f2:IW [bx a b c,tb t]=.ok (.lst ((forms f).map fP),1,.non):=qd (f:=f) h;have f3:=w9 (f:=f) h;obtain ⟨L,eL⟩:∃ L:List Fo,L=forms f:=⟨_,rfl⟩
 rw [<- eL] at f1 f2 f3;obtain ⟨l6,okL⟩:=f3;let G:QQ.Slot:=some (.lst (L.map fP),om);have fo:∀ ρ,Aa 3 ρ=.ok (bx a b c,0,ρ)->Aa 5 ρ=.ok (tb t,0,ρ)->Au GW (Ad (Aa 3) (Ad (Aa 5) (Ac))) ρ=.ok (.lst (L.map fP),om,ρ):=λ ρ h1 h2=>BA (CP h1 (BI h2)) f1;have v4:P4 (T d3 d4 H s6 s7 s8 s9 s10 s11 s12)=.nx (T d3 d4 H G s7 s8 s9 s10 s11 s12):=setF (fo _ rfl rfl) (show 6 < 13 by decide) rfl;let E:QQ.Slot:=some (.lst (L.map fP),1);have v5:∃ d3' d4',P5 (T d3 d4 H G s7 s8 s9 s10 s11 s12)=.nx (T d3' d4' H G E s8 s9 s10 s11 s12):=by
  let R:Ag:=T d3 d4 H G s7 s8 s9 s10 s11 s12;have q:=BA (F:=IW) (fa:=Ad (Aa 3) (Ad (Aa 4) (Ac))) (ρ:=R) (ρ1:=R) (xs:=[(bx a b c,0),(tb t,0)]) rfl f2;rcases Rq (d:=1) (vs:=[3,4]) (ρ:=R) with cl | cl
  ·exact ⟨d3,d4,setF q (show 7 < 13 by decide) (by rw [cl];rfl)⟩
  ·exact ⟨0,0,setF q (show 7 < 13 by decide) (by rw [cl];rfl)⟩
 obtain ⟨d3,d4,v5⟩:=v5;have alk:=Zp (M:=L) (by omega) λ x hx=>by
  have:=Wf (okL x hx)
  exact ⟨by omega,λ r hr=>by have:=this.2 r hr;omega⟩
 let R6:Ag:=T d3 d4 H G E s8 s9 s10 s11 s12;have w1:=Ji (BA (F:=HV) (fa:=Ad (Aa 6) (Ad (Aa 7) (Ac))) (ρ:=R6) (ρ1:=R6) (xs:=[(.lst (L.map fP),0),(.lst (L.map fP),0)]) rfl alk);have w2:=UC (neg:=true) (f:=Aa 5) (h:=Aa 4) (ρ:=R6) (ρ1:=R6) (ρ2:=R6) (t:=t) (u:=t) (d:=0) (e:=0) rfl rfl;rw [decide_eq_true rfl] at w2;have v6:P6 R6=.nx R6:=BP (Bk ((XQ w1).trans w2));have e7:=DJ (n:=13) (f:=Aa 7) (ρ:=R6) (ρ1:=R6) (d:=0) (enc:=fP) (q:=fP) (elt:=Al Cd (Ad (Ab Ah (Aa 13) (bC (.int 0))) (Ad (AO (Ab Ah (Aa 13) (bC (.int 1))) 1 (Aj 14) AA (Al EB (Ad (Aa 14) (Ac)))) (Ac)))) L rfl rfl (λ x hx=>by
  let ρ:Ag:=R6++[some (fP x,0)];exact Dt (CP (wF (i:=13) (x:=x) (ρ:=ρ) rfl) (BI (Xa (n:=14) (wD (i:=13) (x:=x) (ρ:=ρ) rfl) rfl (Vy (okL x hx))))) (z:=fP x) (c:=om) rfl) (by omega)
 have v7:P7 R6=.nx (T d3 d4 H G E G s9 s10 s11 s12):=setF e7 (show 8 < 13 by decide) rfl;have v8:P8 (T d3 d4 H G E G s9 s10 s11 s12)=.nx (T d3 d4 H G E G (some (.int ((0:Nat):Int),om)) s10 s11 s12):=by rfl
 obtain ⟨M,n,Ep,DO,g,v9⟩:=jT (a0:=A0) (a1:=A1) (a2:=X2) (a3:=some (bx a b c,d3)) (a4:=some (tb t,d4)) (a5:=H) (s7:=E) (s10:=s10) (s11:=s11) (s12:=s12) (wZ okL) l6;let Q:QQ.Slot:=some (.lst (M.map fP),om);let N:QQ.Slot:=some (.int (n:Int),om);let R9:Ag:=T d3 d4 H Q E Q N Ep DO s12;have v9:IT (T d3 d4 H G E G (some (.int ((0:Nat):Int),om)) s10 s11 s12)=.nx R9:=v9;have w3:=ZW (neg:=true) (f:=Aa 6) (g:=Aa 8) (ρ:=R9) (ρ1:=R9) (ρ2:=R9) (xs:=M) (ys:=M) (d:=0) (e:=0) rfl rfl;rw [decide_eq_true rfl] at w3;have v10:YJ R9=.nx R9:=BP (Bk w3);obtain ⟨zs,e11⟩:=Wa (a0:=A0) (a1:=A1) (a2:=X2) (a3:=some (bx a b c,d3)) (a4:=some (tb t,d4)) (a5:=H) (s7:=E) (s8:=Q) (s9:=N) (s10:=Ep) (s11:=DO) M [];have v11:J2 6 12 (Hh 12) R9=.nx (T d3 d4 H (some (.lst zs,om)) E Q N Ep DO none):=by
  unfold J2;exact e11
 have v12:ER 6 (T d3 d4 H (some (.lst zs,om)) E Q N Ep DO none)=.nx (T d3 d4 H (some (.lst [],om)) E Q N Ep DO none):=by rfl
 let R12:Ag:=T d3 d4 H (some (.lst [],om)) E Q N Ep DO none;have w4:=UC (neg:=true) (f:=Aa 5) (h:=Aa 4) (ρ:=R12) (ρ1:=R12) (ρ2:=R12) (t:=t) (u:=t) (d:=0) (e:=0) rfl rfl;rw [decide_eq_true rfl] at w4;have w5:=Ji (BA (F:=HV) (CP (fo R12 rfl rfl) (BI (f:=Aa 7) (x:=.lst (L.map fP)) (d:=0) rfl)) alk);have v13:YI R12=.nx R12:=BP (Bk ((XQ w4).trans w5));exact ⟨_,_,_,_,_,_,_,_,_,_,_,(AF v0).trans ((AF v1).trans ((AF v2).trans ((AF v3).trans ((AF v4).trans ((AF v5).trans ((AF v6).trans ((AF v7).trans ((AF v8).trans ((AF v9).trans ((AF v10).trans ((AF v11).trans ((AF v12).trans v13))))))))))))⟩
def law_true:∀ ns:List Int,ns.length<=63->∃ d z,F26 [.scr ns]=.ok (.bl true,d,z):=by
 intro ns hns;let R (s1 s2 s3 s4 s5 s6 s7 s8 s9 s10 s11 s12:QQ.Slot):Ag:=[some (.scr ns,om),s1,s2,s3,s4,s5,s6,s7,s8,s9,s10,s11,s12]
 have hF:F26=Ay false 1 12 OW:=rfl;rw [hF,xH];let R0:Ag:=R none none none none none none none none none none none none;let N:Int:=ns.length;have hm:∃ m:Nat,m<=12/\(Ad (Al DL (Ad (bC (.int 1)) (Ad (Al EC (Ad (Al Bj (Ad (Aa 0) (Ac))) (Ad (bC (.int 12)) (Ac)))) (Ac)))) (Ac)) R0=.ok ([(.int (m:Int),om)],R0):=by
  refine ⟨(if (if (12:Int) < N then 12 else N) > 1 then (if (12:Int) < N then 12 else N) else 1).toNat,?_,?_⟩
  ·split <;> split <;> omega
  ·have e:((((if (if (12:Int) < N then 12 else N) > 1 then (if (12:Int) < N then 12 else N) else 1).toNat:Nat)):Int)=(if (if (12:Int) < N then 12 else N) > 1 then (if (12:Int) < N then 12 else N) else 1):=by
    split <;> split <;> omega
   rw [e];rfl
 obtain ⟨m,hm15,em⟩:=hm;obtain ⟨ρ1,l1,r1,r2,r3,r4,r5,r6,r7,r8,r9,r10,r11,r12,rfl⟩:=Gq (i:=1) (body:=LK) (en:=AJ) (ρ:=R0) (lo:=0) (hi:=(m:Int)) (λ _ ρ=>∃ s1 s2 s3 s4 s5 s6 s7 s8 s9 s10 s11 s12,ρ=R s1 s2 s3 s4 s5 s6 s7 s8 s9 s10 s11 s12) em (D8 (by omega) (by omega)) ⟨_,_,_,_,_,_,_,_,_,_,_,_,rfl⟩ (by
  rintro k ρ hk ⟨s1,s2,s3,s4,s5,s6,s7,s8,s9,s10,s11,s12,rfl⟩;obtain ⟨t2,t3,t4,t5,t6,t7,t8,t9,Ep,DO,Iz,e⟩:=Zj (ns:=ns) (k:=k) (s2:=s2) (s3:=s3) (s4:=s4) (s5:=s5) (s6:=s6) (s7:=s7) (s8:=s8) (s9:=s9) (s10:=s10) (s11:=s11) (s12:=s12);refine ⟨show 1 < 13 by decide,_,?_,some (.int (k:Int),om),t2,t3,t4,t5,t6,t7,t8,t9,Ep,DO,Iz,rfl⟩;rw [E8];exact e)
 exact ⟨_,_,CC rfl ((AF l1).trans rfl)⟩
open PySem PySem.Spec PyProof.Rows L2 QQ
section
variable {P:AD}{w:AB}{K:Frag}{mg:Str->Option Ae}
def c0:FnScope S0.N ["thing"] (AE t0):={}
def c1:FnScope S1.N ["thing"] (AE t1):={}
def c2:FnScope S2.N ["box"] (AE t2):={}
def c3:FnScope S3.N ["thing","columns","height"] (AE t3):={}
def c4:FnScope S4.N ["numbers"] (AE t4):={}
def c5:FnScope S5.N ["table","j"] (AE t5):={}
def c6:FnScope S6.N ["box","thing"] (AE t6):={}
def c7:FnScope S7.N ["box","pile"] (AE t7):={}
def c8:FnScope S8.N ["box","pile"] (AE t8):={}
def c9:FnScope S9.N ["numbers","level"] (AE t9):={}
def yq:FnScope S10.N ["box","pile"] (AE Ep):={}
def yp:FnScope S11.N ["pile"] (AE DO):={}
def yo:FnScope S12.N ["form"] (AE Iz):={}
def yn:FnScope S13.N ["form"] (AE NY):={}
def ym:FnScope S14.N ["box","pile"] (AE NX):={}
def yl:FnScope S15.N ["script","k"] (AE NW):={}
def yk:FnScope S16.N ["cell","many"] (AE NV):={}
def yj:FnScope S17.N ["xs"] (AE NU):={}
def yi:FnScope S18.N ["box","xs"] (AE NT):={}
def yh:FnScope S19.N ["pile"] (AE NS):={}
def yg:FnScope S20.N ["box","cubes"] (AE NR):={}
def yf:FnScope S21.N ["box","pile","way"] (AE NQ):={}
def ye:FnScope S22.N ["box","pile"] (AE NP):={}
def yd:FnScope S23.N ["box","pile","way"] (AE NO):={}
def ME:FnScope S24.N ["found","due"] (AE DN):={}
def yc:FnScope S25.N ["box","pile"] (AE NN):={}
def yb:FnScope S26.N ["script"] (AE LX):={}
def all_ok {fa:Addr} (G:Given dfs [] K mg) (hm:mg "law" = some (.ref fa)):
  ∃ fd:Dd,(∀ (s:Ak) (u:Ae),BindsTo s fd ⟨[u],[]⟩ [("script",u)])/\∀ base:Heap,FnOk P w K mg base (Bi P w K) 9 fa fd ["script"] (Bx K false 1 F26):=by
 have hb:=G.bn;have gx:=G.gx;obtain ⟨a0,d0,m0,f0⟩:=G.df 0 _ _ rfl;obtain ⟨a1,d1,m1,f1⟩:=G.df 1 _ _ rfl;obtain ⟨a2,d2,m2,f2⟩:=G.df 2 _ _ rfl;obtain ⟨a3,d3,m3,f3⟩:=G.df 3 _ _ rfl;obtain ⟨a4,d4,m4,f4⟩:=G.df 4 _ _ rfl;obtain ⟨a5,d5,m5,f5⟩:=G.df 5 _ _ rfl;obtain ⟨a6,d6,m6,f6⟩:=G.df 6 _ _ rfl;obtain ⟨a7,d7,m7,f7⟩:=G.df 7 _ _ rfl;obtain ⟨a8,d8,m8,f8⟩:=G.df 8 _ _ rfl;obtain ⟨a9,d9,m9,f9⟩:=G.df 9 _ _ rfl;obtain ⟨a10,d10,m10,f10⟩:=G.df 10 _ _ rfl;obtain ⟨a11,d11,m11,f11⟩:=G.df 11 _ _ rfl;obtain ⟨a12,d12,m12,f12⟩:=G.df 12 _ _ rfl;obtain ⟨a13,d13,m13,f13⟩:=G.df 13 _ _ rfl;obtain ⟨a14,d14,m14,f14⟩:=G.df 14 _ _ rfl;obtain ⟨a15,d15,m15,f15⟩:=G.df 15 _ _ rfl;obtain ⟨a16,d16,m16,f16⟩:=G.df 16 _ _ rfl;obtain ⟨a17,d17,m17,f17⟩:=G.df 17 _ _ rfl;obtain ⟨a18,d18,m18,f18⟩:=G.df 18 _ _ rfl;obtain ⟨a19,d19,m19,f19⟩:=G.df 19 _ _ rfl;obtain ⟨a20,d20,m20,f20⟩:=G.df 20 _ _ rfl;obtain ⟨a21,d21,m21,f21⟩:=G.df 21 _ _ rfl;obtain ⟨a22,d22,m22,f22⟩:=G.df 22 _ _ rfl;obtain ⟨a23,d23,m23,f23⟩:=G.df 23 _ _ rfl;obtain ⟨a24,d24,m24,f24⟩:=G.df 24 _ _ rfl;obtain ⟨a25,d25,m25,f25⟩:=G.df 25 _ _ rfl;obtain ⟨a26,d26,m26,f26⟩:=G.df 26 _ _ rfl;cases hm.symm.trans m26;have B0:=f0.binds (ps:=["thing"]) λ _ _ _ _ _ _ us hl=>by obtain ⟨_,rfl⟩:=Di hl;rfl
 have B1:=f1.binds (ps:=["thing"]) λ _ _ _ _ _ _ us hl=>by obtain ⟨_,rfl⟩:=Di hl;rfl
 have B2:=f2.binds (ps:=["box"]) λ _ _ _ _ _ _ us hl=>by obtain ⟨_,rfl⟩:=Di hl;rfl
 have B3:=f3.binds (ps:=["thing","columns","height"]) λ _ _ _ _ _ _ us hl=>by obtain ⟨_,_,_,rfl⟩:=JB hl;rfl
 have B4:=f4.binds (ps:=["numbers"]) λ _ _ _ _ _ _ us hl=>by obtain ⟨_,rfl⟩:=Di hl;rfl
 have B5:=f5.binds (ps:=["table","j"]) λ _ _ _ _ _ _ us hl=>by obtain ⟨_,_,rfl⟩:=Co hl;rfl
 have B6:=f6.binds (ps:=["box","thing"]) λ _ _ _ _ _ _ us hl=>by obtain ⟨_,_,rfl⟩:=Co hl;rfl
 have B7:=f7.binds (ps:=["box","pile"]) λ _ _ _ _ _ _ us hl=>by obtain ⟨_,_,rfl⟩:=Co hl;rfl
 have B8:=f8.binds (ps:=["box","pile"]) λ _ _ _ _ _ _ us hl=>by obtain ⟨_,_,rfl⟩:=Co hl;rfl
 have B9:=f9.binds (ps:=["numbers","level"]) λ _ _ _ _ _ _ us hl=>by obtain ⟨_,_,rfl⟩:=Co hl;rfl
 have B10:=f10.binds (ps:=["box","pile"]) λ _ _ _ _ _ _ us hl=>by obtain ⟨_,_,rfl⟩:=Co hl;rfl
 have B11:=f11.binds (ps:=["pile"]) λ _ _ _ _ _ _ us hl=>by obtain ⟨_,rfl⟩:=Di hl;rfl
 have B12:=f12.binds (ps:=["form"]) λ _ _ _ _ _ _ us hl=>by obtain ⟨_,rfl⟩:=Di hl;rfl
 have B13:=f13.binds (ps:=["form"]) λ _ _ _ _ _ _ us hl=>by obtain ⟨_,rfl⟩:=Di hl;rfl
 have B14:=f14.binds (ps:=["box","pile"]) λ _ _ _ _ _ _ us hl=>by obtain ⟨_,_,rfl⟩:=Co hl;rfl
 have B15:=f15.binds (ps:=["script","k"]) λ _ _ _ _ _ _ us hl=>by obtain ⟨_,_,rfl⟩:=Co hl;rfl
 have B16:=f16.binds (ps:=["cell","many"]) λ _ _ _ _ _ _ us hl=>by obtain ⟨_,_,rfl⟩:=Co hl;rfl
 have B17:=f17.binds (ps:=["xs"]) λ _ _ _ _ _ _ us hl=>by obtain ⟨_,rfl⟩:=Di hl;rfl
 have B18:=f18.binds (ps:=["box","xs"]) λ _ _ _ _ _ _ us hl=>by obtain ⟨_,_,rfl⟩:=Co hl;rfl
 have B19:=f19.binds (ps:=["pile"]) λ _ _ _ _ _ _ us hl=>by obtain ⟨_,rfl⟩:=Di hl;rfl
 have B20:=f20.binds (ps:=["box","cubes"]) λ _ _ _ _ _ _ us hl=>by obtain ⟨_,_,rfl⟩:=Co hl;rfl
 have B21:=f21.binds (ps:=["box","pile","way"]) λ _ _ _ _ _ _ us hl=>by obtain ⟨_,_,_,rfl⟩:=JB hl;rfl
 have B22:=f22.binds (ps:=["box","pile"]) λ _ _ _ _ _ _ us hl=>by obtain ⟨_,_,rfl⟩:=Co hl;rfl
 have B23:=f23.binds (ps:=["box","pile","way"]) λ _ _ _ _ _ _ us hl=>by obtain ⟨_,_,_,rfl⟩:=JB hl;rfl
 have B24:=f24.binds (ps:=["found","due"]) λ _ _ _ _ _ _ us hl=>by obtain ⟨_,_,rfl⟩:=Co hl;rfl
 have B25:=f25.binds (ps:=["box","pile"]) λ _ _ _ _ _ _ us hl=>by obtain ⟨_,_,rfl⟩:=Co hl;rfl
 refine ⟨d26,?_,λ base=>?_⟩
 ·obtain ⟨_,_,_,_,_,_,_,_,_,rfl,_,_⟩:=f26.ex;exact λ s v=>.of_eq rfl
 have o0:FnOk P w K mg base (Bi P w K) 1 a0 d0 ["thing"] (Bx K false 1 F0):=Cr S0 f0 c0 gx (Ck hb) h0;have o1:FnOk P w K mg base (Bi P w K) 2 a1 d1 ["thing"] (Bx K false 1 F1):=Cr S1 f1 c1 gx (CB (Ck hb) m0 f0 B0 o0) h1;have o2:FnOk P w K mg base (Bi P w K) 3 a2 d2 ["box"] (Bx K false 1 F2):=Cr S2 f2 c2 gx (CB (Ck hb) m1 f1 B1 o1) h2;have o3:FnOk P w K mg base (Bi P w K) 2 a3 d3 ["thing","columns","height"] (Bx K false 3 F3):=Cr S3 f3 c3 gx (CB (Ck hb) m0 f0 B0 o0) h3;have o4:FnOk P w K mg base (Bi P w K) 1 a4 d4 ["numbers"] (Bx K false 1 F4):=Cr S4 f4 c4 gx (Ck hb) h4;have o5:FnOk P w K mg base (Bi P w K) 1 a5 d5 ["table","j"] (Bx K false 2 F5):=Cr S5 f5 c5 gx (Ck hb) h5;have o6:FnOk P w K mg base (Bi P w K) 4 a6 d6 ["box","thing"] (Bx K false 2 F6):=Cr S6 f6 c6 gx (CB (CB (CB (CB (Ck hb) m5 f5 B5 o5) m4 f4 B4 o4) m3 f3 B3 o3) m2 f2 B2 o2) h6;have o7:FnOk P w K mg base (Bi P w K) 5 a7 d7 ["box","pile"] (Bx K false 2 F7):=Cr S7 f7 c7 gx (CB (Ck hb) m6 f6 B6 o6) h7;have o8:FnOk P w K mg base (Bi P w K) 6 a8 d8 ["box","pile"] (Bx K false 2 F8):=Cr S8 f8 c8 gx (CB (CB (Ck hb) m7 f7 B7 o7) m5 f5 B5 o5) h8;have o9:FnOk P w K mg base (Bi P w K) 1 a9 d9 ["numbers","level"] (Bx K false 2 F9):=Cr S9 f9 c9 gx (Ck hb) h9;have o10:FnOk P w K mg base (Bi P w K) 6 a10 d10 ["box","pile"] (Bx K false 2 Pc):=Cr S10 f10 yq gx (CB (CB (CB (Ck hb) m9 f9 B9 o9) m7 f7 B7 o7) m5 f5 B5 o5) wY;have o11:FnOk P w K mg base (Bi P w K) 1 a11 d11 ["pile"] (Bx K false 1 Ld):=Cr S11 f11 yp gx (Ck hb) wX;have o12:FnOk P w K mg base (Bi P w K) 7 a12 d12 ["form"] (Bx K false 1 JV):=Cr S12 f12 yo gx (CB (Ck hb) m8 f8 B8 o8) La;have o13:FnOk P w K mg base (Bi P w K) 7 a13 d13 ["form"] (Bx K false 1 HW):=Cr S13 f13 yn gx (CB (Ck hb) m10 f10 B10 o10) wW;have o14:FnOk P w K mg base (Bi P w K) 8 a14 d14 ["box","pile"] (Bx K false 2 GW):=Cr S14 f14 ym gx (CB (CB (CB (CB (Ck hb) m13 f13 B13 o13) m12 f12 B12 o12) m11 f11 B11 o11) m7 f7 B7 o7) wV;have o15:FnOk P w K mg base (Bi P w K) 1 a15 d15 ["script","k"] (Bx K false 2 Pb):=Cr S15 f15 yl gx (Ck hb) wU;have o16:FnOk P w K mg base (Bi P w K) 1 a16 d16 ["cell","many"] (Bx K false 2 Pa):=Cr S16 f16 yk gx (Ck hb) wR;have o17:FnOk P w K mg base (Bi P w K) 1 a17 d17 ["xs"] (Bx K false 1 OZ):=Cr S17 f17 yj gx (Ck hb) wQ;have o18:FnOk P w K mg base (Bi P w K) 1 a18 d18 ["box","xs"] (Bx K false 2 MK):=Cr S18 f18 yi gx (Ck hb) wO;have o19:FnOk P w K mg base (Bi P w K) 1 a19 d19 ["pile"] (Bx K false 1 T6):=Cr S19 f19 yh gx (Ck hb) wN;have o20:FnOk P w K mg base (Bi P w K) 1 a20 d20 ["box","cubes"] (Bx K false 2 T5):=Cr S20 f20 yg gx (Ck hb) wM;have o21:FnOk P w K mg base (Bi P w K) 2 a21 d21 ["box","pile","way"] (Bx K false 3 JU):=Cr S21 f21 yf gx (CB (CB (Ck hb) m20 f20 B20 o20) m19 f19 B19 o19) wL;have o22:FnOk P w K mg base (Bi P w K) 1 a22 d22 ["box","pile"] (Bx K false 2 YN):=Cr S22 f22 ye gx (Ck hb) wK;have o23:FnOk P w K mg base (Bi P w K) 3 a23 d23 ["box","pile","way"] (Bx K false 3 MJ):=Cr S23 f23 yd gx (CB (CB (CB (CB (Ck hb) m22 f22 B22 o22) m21 f21 B21 o21) m20 f20 B20 o20) m19 f19 B19 o19) wJ;have o24r0:FnOk P w K mg base (Bi P w K) 0 a24 d24 ["found","due"] (Bx K false 2 Ra):=Zy rfl;have o24r1:FnOk P w K mg base (Bi P w K) 1 a24 d24 ["found","due"] (Bx K false 2 Md):=Cr Rb f24 ME gx (E2 (Ck hb) (by decide +kernel) (λ _ _=>rfl) m24 f24 B24 rfl o24r0) Z0;have o24r2:FnOk P w K mg base (Bi P w K) 2 a24 d24 ["found","due"] (Bx K false 2 Me):=Cr Rc f24 ME gx (E2 (Ck hb) (by decide +kernel) EG m24 f24 B24 rfl o24r1) Z1;have o24r3:FnOk P w K mg base (Bi P w K) 3 a24 d24 ["found","due"] (Bx K false 2 Mf):=Cr Rf f24 ME gx (E2 (Ck hb) (by decide +kernel) EG m24 f24 B24 rfl o24r2) Z2;have o24r4:FnOk P w K mg base (Bi P w K) 4 a24 d24 ["found","due"] (Bx K false 2 Mg):=Cr Rg f24 ME gx (E2 (Ck hb) (by decide +kernel) EG m24 f24 B24 rfl o24r3) Z3;have o24r5:FnOk P w K mg base (Bi P w K) 5 a24 d24 ["found","due"] (Bx K false 2 Oa):=Cr Ob f24 ME gx (E2 (Ck hb) (by decide +kernel) EG m24 f24 B24 rfl o24r4) Z4;have o24:=o24r5;have o25:FnOk P w K mg base (Bi P w K) 3 a25 d25 ["box","pile"] (Bx K false 2 IW):=Cr S25 f25 yc gx (CB (Ck hb) m21 f21 B21 o21) wI;exact Cr S26 f26 yb gx (E2 (E2 (E2 (E2 (E2 (E2 (E2 (E2 (Ck hb) (by decide +kernel) EG m25 f25 B25 rfl (o25.mono (by decide))) (by decide +kernel) EG m24 f24 B24 rfl (o24.mono (by decide))) (by decide +kernel) EG m23 f23 B23 rfl (o23.mono (by decide))) (by decide +kernel) EG m18 f18 B18 rfl (o18.mono (by decide))) (by decide +kernel) EG m17 f17 B17 rfl (o17.mono (by decide))) (by decide +kernel) EG m16 f16 B16 rfl (o16.mono (by decide))) (by decide +kernel) EG m15 f15 B15 rfl (o15.mono (by decide))) (by decide +kernel) EG m14 f14 B14 rfl (o14.mono (by decide))) wH
end
end K51
open PySem PySem.W PyProof.Rows
set_option maxRecDepth 100000 in
set_option maxHeartbeats 0 in
theorem PySem.Challenge.cw_cornerpiles_k51_forms_told_holds : PySem.Challenge.rw_cornerpiles_k51_forms_told.Holds := by
 refine QQ.holds_by (l:=PySem.Challenge.rw_cornerpiles_k51_forms_told) (q:=K51.view) (loose:=K51.loose) (N:=20000) (k:=9) (n:=63) (ds:=K51.dfs) (xc:=[]) (F:=K51.F26) (x := "script") ?said rfl rfl (λ _=>rfl) K51.run (by rfl) (by rfl) (by rfl) (by rfl) (by decide +kernel) ⟨rfl,rfl,rfl,rfl,rfl,by decide +kernel⟩ ?hw rfl (by decide) rfl ⟨rfl,by decide,by decide,rfl⟩ (λ _ _ _ _ G hm=>K51.all_ok G hm) (λ _ _ _ ns hl hO hS=>QQ.sp_yes hO hS (K51.law_true ns hl))
 case said=>decide +kernel
 case hw=>w_witness2
