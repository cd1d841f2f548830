import PyProof.Rows.All
import Wide.All
import OpenK.AllK
import Wide.FinOn
import Lean
import PyProof.EqAt
import PyProof.EqKinds
import PyProof.TupleCall
import PySem.Challenge.RW_cornerpiles_k55_texts_of_no_pile
open PySem renaming Value->Af,Shared->Aj,sizeLine->Au,wpAny_bind->AA,starEach->A5,Program->A7,wpAny_pure->Bq,wpAny->As,model->Aq,compareOp->BU,wpAny_mono->CA,World->A6,Around->AZ,wpAny_truthy_bool->Gw,mainGlobals->DM,cellsFrom->CV,Scope->AW,FuncData->CU,NameKind->Dh,assignEach->Ez,foldedSetIterable->Ij,wpAny_holding->GV,wpAny_newObj_type->J8,sysModules->FJ,binaryOp->DX,backTo->Cz,compEnvC->Ey,mem_of_lookup->KH,intItems->EG,ExceptHandler->Ie,wpAny_loadPart_at->KA,intText?->J7,bootBuiltins->Ic,relabel->Ex,wpAny_standAt->J5,cLine->Cn,behindInMarks->J4,typeIs_str->HE,wpAny_passesOwn->K9,sliceBounds->Ib,pushCells_keeps->K8,letOwnedTupleGo->K7,numAt->Cy,passOn->Jz,newFunctionEnv->K5,codeAny->EZ,Comprehension->K4,PyData->Ew,wpAny_execs_nil->M9,assign->EE,PassesOwn->Ia,Keyword->Gs,wpAny_Name->Jw,call_meets->Jv,wpAny_field->K2,wpAny_Constant_int->Pm,wpAny_Call_Name_kw->Pl,tupleKind_room_in1->Pk,noteFrame->Ju,comprehension->M7,attributeBase->M6,wpAny_assign_Name->Pg,notedBy->HD,codeAny_mono->M4,wpAny_execs_cons->OY,noFill_tuple_add->OX,tupleKind->Kz,swapsWith->Ky,seqIndex_of->M1,pushCells->Kx,keywordEach->M0,intItems_at->Mz,importedModules->OV,callerA->HZ,CmpOp->ED
open PySem.Heap renaming get?_push_of_some->CL,lt_size->Bl,get?_push_size->Ea,SameBut->Fd,size_push->Ig,FlyingW->Jx,get?_update_other->Pt,HeldW->K0
open PySem.Txt renaming split->AX,slice->Fc,slice_le->J2,contains->J0
open PySem.W renaming hideAll->E1,findIn->DZ,kia_one->EJ,kitOne->EI,of_hideAll->Ik,mroIn->Gv,boot_heap->DY,keepIn->Ih,hideAll_get->KG,fnOf->Jy,looks_findIn->Pp,hideAll_none->Po,kitAny->M8,methodObj->Pf,kitx_none->Pe,boot_heap->Pd,instObj->OU,lookIn->OS,codeIn->OR
open Ne renaming symm->BF
open PySem.Builtin.Str renaming occurrences->Il,strSub->J9,partsBetween->MC,tooLong->MB
open PySem.PyData renaming eqv->EH,depthAll->Ii,canLay0->J6,strOk->K3,eqvAll->M5,canLayAll0->Pc
open PySem.Builtin.Slice renaming slicePlaces->ME,sliceAdjust->PD,sliceApplied->Tr
open False renaming elim->Gu
open PySem.Builtin.Tuple renaming tupleExact->MD
open PySem.Calls renaming spliced_cons->KC,Constant_str->MA,evalArgs_plain->Pn,spliced_nil->OZ,Name_function_global->Ts
open PySem.SeqAt.EqAt renaming same->K6,of_refs->Pj
open PyProof.Rows renaming callWith_type1->PF,AllBare->EF,subscriptTail_builtinR->Px,slot_tuple_getitem->Tt,envOfC->GU
open PySem.F renaming args_tuple_add_2->PB,entry_tuple_add->Py,slot_tuple_add->Pw,plainAttrs_str->Pu,args_str_split_2->Ph,entry_str_split->Pa,slot_str_split->OW
open PySem.Builtin.List renaming listTooLong->Pz
open PySem.StrLaws renaming occ_length_le->Pr
open PySem.PassesOwn renaming looking->Pb
open PySem.Obj renaming mapSeq->K1
open PySem.SeqAt renaming RcNeAt->M3
open List renaming mem_cons_of_mem->AU,mem_append_right->Bj,getD_eq_getElem?_getD->BI,mem_cons_self->Ba,getElem?_eq_some_iff->ja6,replicate->AM,mem_append_left->BC,getElem?_eq_getElem->Cm,length_map->Bg,mem_cons->jb2,all_eq_true->jb4,getElem?_set_ne->Ct,length_append->Cd,getElem?_append_left->Dw,size_toArray->Cb,mem_singleton->jc0,map_cons->BA,length_cons->Cs,mem_append->jc4,getElem?_set_self->Eg,range->Bw,getElem?_append_right->Gz,getElem?_map->Ef,mem_range->jd0,lookup_cons->EO,getElem_mem->EN,length_take->Fj,replicate_succ->Hg,getElem?_replicate->IJ,map_map->Ec,length_set->FW,all_cons->EL,getElem?_take_of_lt->JM,length_replicate->II,findIdx?_eq_some_iff_getElem->jf0,getElem?_eq_none_iff->jf1,length_singleton->JL,mem_map->jf4,flatten_cons->IH,getElem_of_mem->JK,mem_filter->jf9,map_nil->HG,find?_cons->JI,getElem?_eq_none->NI,mem_of_getElem?->NH,mem_iff_getElem->jh0,drop_eq_getElem_cons->RE,not_mem_nil->Lu,filterMap_cons->NG,map_congr_left->NF,filter_eq_self->jh5,mem_map_of_mem->ND,mem_filterMap->jh7,append_nil->Ls,nil_append->Lr,getElem?_cons_succ->RD,drop_eq_nil_of_le->RB,append_assoc->NC,reverse_cons->NB,all_eq_false->ji5,length_drop->NA,mem_of_mem_drop->R7,mem_of_mem_take->Ry,nodup_cons->jj5,take_succ_cons->Rx,range'->JG,getElem?_concat_length->WI,set_cons_zero->Rw,set_cons_succ->Rv,findIdx?_cons->Ru,mem_or_eq_of_mem_set->WH,any_cons->N8,of_mem_zip->Rq,set_append_right->WG,take_zero->Rp,replicate_zero->WC,take_nil->Ro,getElem?_drop->W8,map_take->Rn,length_range->W6,mem_range'_1->jm8,flatten_nil->W3,cons_append->Wz,range'_succ->Wy,foldl_cons->Wv,forIn_cons->Wu,length_nil->Wt,map_append->Wq,foldl->Rj,drop_nil->Wn,map_drop->Wm,set_nil->Wj,getD->Ri,sum_nil->Wi,all_nil->Wg,map_set->We,map_id'->Wd,map_id->Wc
open Bool renaming and_eq_true->AF,false_ne_true->BN,or_eq_true->Ee,false_and->EM,not_eq_true'->Gy,false_xor->FV,eq_iff_iff->HH,true_xor->Hf,false_or->IG,and_false->Lp,and_eq_false_iff->R8,and_true->N7,and_eq_true_iff->jl4,or_eq_false_iff->WD,true_and->Rm,or_false->Wo,or_true->Wf
open Option renaming map_eq_some_iff->ja5,map_some->Lq,getD_some->N9,isSome_iff_exists->jk4,isSome_map->Rt,isSome_some->W9,getD_none->W5
open Nat renaming lt_of_lt_of_le->Bm,le_refl->AS,le_trans->BH,ne_of_lt->BM,le_of_succ_le->FX,lt_irrefl->Ed,ne_of_gt->Fh,zero_le->Gx,lt_succ_self->JJ,lt_of_succ_lt_succ->NJ,lt_succ_of_lt->Lv,zero_add->Lo,min_le_right->Rr,lt_trans->N6,add_sub_cancel->W7,le_of_lt->Rl,succ_ne_zero->W4,succ_le_succ->W2,le_add_right->Ww,le_succ->Rk,min_le_left->Ws,mul_comm->Wk
open Int renaming toNat_natCast->ER,emod_lt_of_pos->FY,emod_nonneg->Fi,zero_add->JH,le_trans->N5,le_refl->N4,toNat_of_nonneg->WB
open Array renaming length_toList->Lw,getElem?_toList->RA,eq_empty_of_size_eq_zero->WJ,toList_eq_nil_iff->jk7,append_assoc->WA,toList->Wl
set_option Elab.async false
set_option linter.all false
set_option maxRecDepth 100000
set_option autoImplicit false
set_option maxHeartbeats 2000000
namespace L2
open PySem PySem.Spec PyProof.Rows
abbrev AV:=Sum Int Str
inductive V where
 | non | bl (b:Bool) | int (i:Int) | str (x:Str) | byt (b:Array UInt8) | flt (b:UInt64) | ref (a:Addr) | ty (n:String)
 deriving DecidableEq
def Ks (s:Stmt):Arguments:=match s with
 | .FunctionDef _ a _ _ _ _ _ _ _ _=>a
 | _=>{ posonlyargs:=[],args:=[],vararg:=none,kwonlyargs:=[],kw_defaults:=[],kwarg:=none,defaults:=[] }
def Bp (s:Stmt):List Stmt:=match s with
 | .FunctionDef _ _ b _ _ _ _ _ _ _=>b
 | _=>[]
def AD (s:Stmt):AW:=match s with
 | .FunctionDef _ _ _ _ _ _ sc _ _ _=>sc
 | _=>{ kind:=.function,names:=[],isGenerator:=false,isCoroutine:=false }
end L2
namespace QQ
open PySem PySem.Spec PySem.W PySem.Calls PyProof.Rows L2
abbrev Frag:=PySem.W.Frag
inductive PV where
 | non | bl (b:Bool) | int (i:Int) | str (x:Str) | lst (xs:List PV) | tup (xs:List PV) | emp | dko | scr (ns:List Int) | dct (kvs:List (List AV×V)) | exn (c:Nat)
 deriving Inhabited
def XN:List Str:=["PileError","NoBox","NoPile","NoStairs","NoWays","NoRoad","NoNumber","NoPlace","TooMany","NoText","NoName","NoRow"]
def BR (K:Frag) (c:Nat):Option Addr:=match XN[c]? with
 | some x=>(match PySem.W.nsIn K DM x with
  | some (some (.ref C))=>some C
  | _=>none)
 | none=>none
def bmV:List Af:=[.type "ValueError",.type "Exception",.type "BaseException",.type "object"]
def He (K:Frag) (C:Addr):List Af:=match K.lookup C with
 | some ⟨_,_,.cls cd,_⟩=>cd.mro
 | _=>[]
def Dx (c d:Nat):Bool:=c == d || d == 0
def D7 (K:Frag):Bool:=(Bw 12).all λ c=>match BR K c with
 | some C=>PySem.W.excIn K C bmV "ValueError.__new__" && (Bw 12).all λ d=>(match BR K d with
  | some D=>(He K C).contains (.ref D) == Dx c d
  | none=>true)
 | none=>true
def CN:List (Str×PV):=[("FIGURES",.str "0123456789"),("MOST_FIGURES",.int 2),("SIGNS_OF_HEIGHTS",.str ".123456789abcdefghijklmnopqrstuvwxyz"),("MOST_PILES",.int 3000)]
def NM:PV->Af->Bool
 | .str z,.str z' _=>z == z'
 | .int i,.int j _=>i == j
 | _,_=>false
def Jd (K:Frag) (C:Addr):Bool:=(PySem.W.clsIn K C).isSome && Gv K C (.type "object") == some true && Gv K C (.type "BaseException") == some true && DZ K (.ref C) "__class__" == some (some (.builtin "object.__class__")) &&
 DZ K (.ref C) "__getattribute__" == some (some (.builtin "BaseException.__getattribute__")) && DZ K (.ref C) "__getattr__" == some none
def BE (K:Frag):Bool:=EI K (.type "NoneType") (.type "ValueError") == some false && (Bw 12).all λ c=>match BR K c with
 | some C=>Jd K C && EI K (.type "NoneType") (.ref C) == some false && EI K (.ref C) (.type "ValueError") == some true && (Bw 12).all λ d=>(match BR K d with
  | some D=>EI K (.ref C) (.ref D) == some (Dx c d)
  | none=>true)
 | none=>true
def zza:List Str:=["len","isinstance","all","max","min","tuple","list","range","int","bool","str","dict","sum","enumerate","zip","reversed","set","ValueError","sorted","abs"]
def Jf (tb:String->Option Builtin) (p:A7) (w:A6) (n₀:Nat) (ann:Option Af):Nat->SharedT->Thread->Option SharedT
 | 0,_,_=>none
 | n + 1,s,t=>match through t with
  | true=>some s
  | false=>match stepOk n₀ ann t with
   | false=>none
   | true=>match stepT (denote tb) p w s t with
    | some (s',t')=>Jf tb p w n₀ ann n s' t'
    | none=>none
def Wb:List Obj->Nat->BT->BT
 | [],_,t=>t
 | o::r,n,t=>Wb r (n + 1) (t.ins n o)
noncomputable def bootT (P:Params):BT:=Wb (DY P).objs.toList 0 .nil
noncomputable def bootS (P:Params) (os:OsState):SharedT:=⟨bootT P,(DY P).objs.size,(DY P).life,#[],boot_drawn,boot_toks,os⟩
def OC {α:Type} (p q:A7) (loose:List Str) (Xt:Aj->Bool) (Yf:Aj->α) (H:Heap) (s:Aj):=
 ((staticsOk (OV p.main.body) H s.heap && namesBound p s.heap && gensDone s && laidKept H s.heap),openSeen q loose (OV p.main.body) Xt true s,Yf s)
def Ln (h:Heap):Frag:=(Bw h.objs.size).filterMap λ a=>(h.get? a).map λ o=>(a,o)
structure DefSeen where
 name:Str
 qual:Str
 params:Arguments
 body:FuncBody
 scope:AW
 globals:Addr
 closure:List (Str×Addr)
 defaults:Af
 builtins:Addr
 code:Bool
def O9 (K:Frag) (x:Str):Option DefSeen:=match nsIn K DM x with
 | some (some (.ref g))=>(match K.lookup g with
  | some ⟨_,_,.func fd,_⟩=>some ⟨fd.name,fd.qualname,fd.params,fd.body,fd.scope,fd.globals,fd.closure,fd.defaults,fd.builtins,codeIn K fd.code x⟩
  | _=>none)
 | _=>none
def Qy (x:Str) (st:Stmt):DefSeen:=⟨x,x,Ks st,.stmts (Bp st),AD st,mainNs,[],.none,0,true⟩
def Kb (ds:List (Str×Stmt)) (xc:List Nat) (K:Frag):List (Option DefSeen)×List (Option (Option Af))×Bool:=
 (ds.map λ d=>O9 K d.1,zza.map λ x=>nsIn K DM x,xc.isEmpty || (D7 K && BE K && xc.all λ c=>if c < 50 then ((BR K c).isSome && match XN[c]? with
  | some x=>!(x == ("__debug__" : Str))
  | none=>false) else (match CN[c - 50]? with
  | some (x,v)=>!(x == ("__debug__" : Str)) && (match nsIn K DM x with
   | some (some u)=>NM v u
   | _=>false)
  | none=>false)))
def Ki (ds:List (Str×Stmt)):List (Option DefSeen)×List (Option (Option Af))×Bool:=(ds.map λ d=>some (Qy d.1 d.2),zza.map λ _=>some none,true)
end QQ
namespace K55
open PySem PySem.Spec PyProof.Rows L2 QQ
def top (i:Nat):Stmt:=PySem.Challenge.pw_cornerpiles_k55_texts_of_no_pile.main.body.getD i (.Pass ⟨0,0,0,0⟩)
abbrev t0:Stmt:=top 6
abbrev t1:Stmt:=top 7
abbrev t2:Stmt:=top 8
abbrev t3:Stmt:=top 9
abbrev t4:Stmt:=top 10
abbrev t5:Stmt:=top 11
abbrev t6:Stmt:=top 12
abbrev t7:Stmt:=top 16
abbrev t8:Stmt:=top 17
abbrev t9:Stmt:=top 18
abbrev MV:Stmt:=top 19
abbrev MU:Stmt:=top 21
abbrev MT:Stmt:=top 22
abbrev MR:Stmt:=top 23
abbrev MQ:Stmt:=top 24
abbrev E2:Stmt:=top 25
abbrev MP:Stmt:=top 26
abbrev MN:Stmt:=top 27
abbrev MM:Stmt:=top 28
abbrev ML:Stmt:=top 29
abbrev MK:Stmt:=top 30
abbrev MJ:Stmt:=top 31
abbrev MI:Stmt:=top 32
abbrev MH:Stmt:=top 33
abbrev KO:Stmt:=top 34
def dfs:List (Str×Stmt):=[(("is_whole_number" : Str),t0),(("is_box" : Str),t1),(("must_be_box" : Str),t2),(("is_row_of_heights" : Str),t3),(("never_rises" : Str),t4),(("column_of" : Str),t5),(("is_pile" : Str),t6),(("is_written_number" : Str),t7),(("read_numbers" : Str),t8),(("must_be_text" : Str),t9),(("read_pile" : Str),MV),(("_law_cell_at" : Str),MU),(("_law_numbers" : Str),MT),(("_law_box" : Str),MR),(("_law_pile" : Str),MQ),(("_law_alike" : Str),E2),(("_law_written" : Str),MP),(("_law_is_pile" : Str),MN),(("_law_number" : Str),MM),(("_law_changed" : Str),ML),(("_law_no_box" : Str),MK),(("_law_due" : Str),MJ),(("_law_asked" : Str),MI),(("_law_any" : Str),MH),(("law" : Str),KO)]
def view:A7:={ PySem.Challenge.pw_cornerpiles_k55_texts_of_no_pile with main:={ PySem.Challenge.pw_cornerpiles_k55_texts_of_no_pile.main with body:=[KO] } }
def loose:List Str:=(PySem.Challenge.pw_cornerpiles_k55_texts_of_no_pile.main.scope.names.map λ x=>x.1).filter λ x=>!(x == ("law" : Str))
def run:∀ (w:PySem.World) (os:PySem.OsState),(Jf PySem.treeTable PySem.Challenge.rw_cornerpiles_k55_texts_of_no_pile.prog w (Pd w.params).objs.size ((Pd w.params).nsMap DM "__annotations__") 20000 (bootS w.params os) (PySem.W.topStub PySem.Challenge.rw_cornerpiles_k55_texts_of_no_pile.prog)).map (λ s=>OC PySem.Challenge.rw_cornerpiles_k55_texts_of_no_pile.prog view loose (λ s=>PySem.W.xlAt view [] s && PySem.W.recOk (PySem.W.RowW.records PySem.Challenge.rw_cornerpiles_k55_texts_of_no_pile.row.toRowW) s) (λ s=>Kb dfs [0,1,2,9,50,51] (Ln s.heap)) (Pd w.params) s.abs)=some (true,PySem.W.openGood view loose,Ki dfs):=λ w os=>by kernel_rfl
end K55
namespace L2
open PySem PySem.Spec PyProof.Rows
def JA:AV->Af->Bool
 | .inl k,v=>Value.isInt k v
 | .inr x,v=>Value.isStrOf x v
def Rg (w:A6):AV->Int
 | .inl k=>hashInt k
 | .inr x=>hashStr w x
theorem GH:∀ {k:AV}{v:Af},JA k v=true->(∃ i t,k=Sum.inl i/\v=Value.int i t)\/(∃ x t,k=Sum.inr x/\v=Value.str x t)
 | .inl i,v,h=>by
  obtain ⟨t,e⟩:=Value.isInt_shape (k:=i) (v:=v) h;exact .inl ⟨i,t,rfl,e⟩
 | .inr x,v,h=>by
  obtain ⟨t,e⟩:=Value.isStrOf_shape (x:=x) (v:=v) h;exact .inr ⟨x,t,rfl,e⟩
def jj (i:Int) (t:Tok):JA (.inl i) (.int i t)=true:=by simp [JA,Value.isInt]
def jk (x:Str) (t:Tok):JA (.inr x) (.str x t)=true:=by simp [JA,Value.isStrOf]
def YO (a b:Int):decide ((Sum.inl a:AV)=Sum.inl b)=(a == b):=by
 by_cases e:a=b
 ·subst e;simp
 ·have h:¬ (Sum.inl a:AV)=Sum.inl b:=λ q=>e (Sum.inl.inj q);rw [decide_eq_false h];exact (beq_eq_false_iff_ne.mpr e).symm
def YS (a b:Str):decide ((Sum.inr a:AV)=Sum.inr b)=decide (a=b):=by
 by_cases e:a=b
 ·subst e;simp
 ·have h:¬ (Sum.inr a:AV)=Sum.inr b:=λ q=>e (Sum.inr.inj q);rw [decide_eq_false h,decide_eq_false e]
def YQ (a:Int) (b:Str):decide ((Sum.inl a:AV)=Sum.inr b)=false:=decide_eq_false (λ q=>nomatch q)
def YR (a:Str) (b:Int):decide ((Sum.inr a:AV)=Sum.inl b)=false:=decide_eq_false (λ q=>nomatch q)
def D0 (prog:A7) (w:A6):PySem.KeyKind prog w AV where
 is:=JA
 hash:=Rg w
 inj:=λ v a b ha hb=>by
  rcases GH ha with ⟨i,t,rfl,rfl⟩ | ⟨x,t,rfl,rfl⟩
  ·rcases GH hb with ⟨j,u,rfl,e⟩ | ⟨y,u,rfl,e⟩
   ·injection e with e1 _;rw [e1]
   ·exact nomatch e
  ·rcases GH hb with ⟨j,u,rfl,e⟩ | ⟨y,u,rfl,e⟩
   ·exact nomatch e
   ·injection e with e1 _;rw [e1]
 byValue:=λ k v h=>by
  rcases GH h with ⟨i,t,rfl,rfl⟩ | ⟨x,t,rfl,rfl⟩ <;> rfl
 pyHash:=λ hv h=>by
  rcases GH hv with ⟨i,t,rfl,rfl⟩ | ⟨x,t,rfl,rfl⟩
  ·exact wpAny_pyHash_int h
  ·exact wpAny_pyHash_str h
 eqBool:=λ hu hv h=>by
  rcases GH hu with ⟨i,t,rfl,rfl⟩ | ⟨x,t,rfl,rfl⟩
  ·rcases GH hv with ⟨j,u,rfl,rfl⟩ | ⟨y,u,rfl,rfl⟩
   ·rw [YO] at h;exact wpAny_eqBool_int h
   ·rw [YQ] at h;exact SeqAt.EqAt.int_str i t y u _ _ _ _ h
  ·rcases GH hv with ⟨j,u,rfl,rfl⟩ | ⟨y,u,rfl,rfl⟩
   ·rw [YR] at h;exact SeqAt.EqAt.str_int x t j u _ _ _ _ h
   ·rw [YS] at h;exact wpAny_eqBool_str h
 «strs»:=λ k x t v h=>by
  rcases GH h with ⟨i,u,rfl,e⟩ | ⟨y,u,rfl,e⟩
  ·exact nomatch e
  ·injection e with e1 _
   subst e1;cases v <;> rfl
def Xc (prog:A7) (w:A6) (i:Int) (t:Tok):(D0 prog w).is (.inl i) (.int i t)=true:=jj i t
def Xd (prog:A7) (w:A6) (x:Str) (t:Tok):(D0 prog w).is (.inr x) (.str x t)=true:=jk x t
def RelV:V->Af->Prop
 | .non,u=>u=Value.none
 | .bl b,u=>u=Value.bool b
 | .int i,u=>∃ t,u=Value.int i t
 | .str x,u=>∃ t,u=Value.str x t
 | .byt b,u=>∃ t,u=Value.bytes b t
 | .flt b,u=>∃ t,u=Value.float b t
 | .ref a,u=>u=Value.ref a
 | .ty n,u=>u=Value.type n
abbrev Vals:List V->List Af->Prop:=Paired RelV
def Vals.length {xs:List V}{us:List Af} (r:Vals xs us):xs.length=us.length:=Paired.length r
theorem Vals.get:∀ {xs:List V}{us:List Af}{i:Nat}{x:V},Vals xs us->xs[i]?=some x->∃ u,us[i]?=some u/\RelV x u
 | _,_,_,_,.nil,e=>by simp at e
 | _,_,0,_,.cons r _,e=>by simp at e;subst e;exact ⟨_,rfl,r⟩
 | _,_,i + 1,x,.cons _ t,e=>by
  obtain ⟨u,h1,h2⟩:=Vals.get (i:=i) (x:=x) t (by simpa using e);exact ⟨u,by simpa using h1,h2⟩
theorem Vals.set {x:V}{u:Af} (r:RelV x u):∀ {xs:List V}{us:List Af} (i:Nat),Vals xs us->Vals (xs.set i x) (us.set i u)
 | _,_,_,.nil=>.nil
 | _,_,0,.cons _ t=>.cons r t
 | _,_,i + 1,.cons q t=>.cons q (Vals.set r i t)
theorem Vals.append:∀ {xs ys:List V}{us ws:List Af},Vals xs us->Vals ys ws->Vals (xs++ys) (us++ws)
 | _,_,_,_,.nil,s=>s
 | _,_,_,_,.cons r t,s=>.cons r (Vals.append t s)
theorem Vals.take:∀ {xs:List V}{us:List Af} (n:Nat),Vals xs us->Vals (xs.take n) (us.take n)
 | _,_,0,_=>.nil
 | _,_,_ + 1,.nil=>.nil
 | _,_,n + 1,.cons r t=>.cons r (Vals.take n t)
theorem Vals.drop:∀ {xs:List V}{us:List Af} (n:Nat),Vals xs us->Vals (xs.drop n) (us.drop n)
 | _,_,0,r=>r
 | _,_,_ + 1,.nil=>.nil
 | _,_,n + 1,.cons _ t=>Vals.drop n t
def RelO:Option V->Option Af->Prop
 | some v,some u=>RelV v u
 | none,none=>True
 | _,_=>False
def KV {κ:Type}:List (κ×V)->List (κ×Af)->Prop:=Paired λ (p:κ×V) (q:κ×Af)=>p.1=q.1/\RelV p.2 q.2
def kV:AV->V
 | .inl i=>.int i
 | .inr x=>.str x
inductive HO where
 | lst (xs:List V)
 | tup (xs:List V)
 | dK (kvs:List (AV×V)) | dT (kvs:List (List AV×V))
 | set (S:Int->Bool) (n:Nat)
 | ins (C dx:Addr) (fs:List (Str×V))
 | own (x:Addr)
 | xd (fs:List (Str×V))
 | met (f x:Addr)
 | rng (lo hi:Int)
 | frz (o:Obj) (u:HO)
 | tbl (ps:Array Af)
 | ext (φ:Heap->Prop)
abbrev Hp:=Addr->Option HO
def Aw (H:Hp) (a:Addr) (o:HO):Hp:=λ b=>if b=a then some o else H b
def BS {H:Hp}{a:Addr}{o:HO}:Aw H a o a=some o:=by unfold Aw;rw [if_pos rfl]
def AR {H:Hp}{a b:Addr}{o:HO} (h:b≠a):Aw H a o b=H b:=by unfold Aw;rw [if_neg h]
def X8 {H:Hp}{a b:Addr}{o u:HO} (h:H a=some o) (h':H b=some u) (d:o≠u):a≠b:=by
 intro e;subst e;rw [h] at h';exact d (Option.some.inj h')
def Jb {H:Hp}{a b:Addr}{o:HO} (h:H a=some o) (h':H b=none):a≠b:=by
 intro e;subst e;rw [h] at h';cases h'
section
variable (P:A7) (w:A6)
def zwl (H:Hp) (h:Heap) (a:Addr):HO->Prop
 | .lst xs=>xs.length<=Au/\∃ (its:List Af) (n:Nat),Vals xs its/\h.get? a=some { cls:=.type "list",data:=.seq its.toArray n }
 | .tup xs=>xs.length<=Au/\∃ its:List Af,Vals xs its/\IsTup h a its.toArray
 | .dK kvs=>kvs.length<=Au/\(a == FJ)=false/\∃ vs,KV kvs vs/\h.DictOf (D0 P w) a vs
 | .dT kvs=>kvs.length<=Au/\(a == FJ)=false/\∃ xs:List (List AV×Addr×Af),
   Paired (λ (p:List AV×V) (q:List AV×Addr×Af)=>p.1=q.1/\H q.2.1=some (.tup (p.1.map kV))/\RelV p.2 q.2.2) kvs xs /\
   ∃ o es ep,h.get? a=some o/\o.ExactDict/\o.data=.dict es ep/\es.toList=xs.map (entryOfKey (Kz (D0 P w)))/\(xs.map (·.1)).Nodup
 | .set S n=>h.SetOf (intKind P w) a S n
 | .ins C dx fs=>H dx=some (.own a)/\fs.length<=1000/\dx≠a/\h.get? a=some (OU C dx) /\
   ∃ mA,h.Ns1 dx mA/\(∀ f,RelO (fs.lookup f) (mA f))/\PySem.Within mA (fs.map (·.1))
 | .own _=>∃ o,h.get? a=some o
 | .xd fs=>∃ mA,h.Ns1 a mA/\∀ f,RelO (fs.lookup f) (mA f)
 | .rng lo hi=>∃ t u v,h.get? a=some { cls:=.type "range",data:=.fields #[.int lo t,.int hi u,.int 1 v] }
 | .frz o u=>h.get? a=some o/\zwl H h a u
 | .tbl ps=>h.get? a=some { cls:=.none,data:=.fields ps }
 | .met f x=>h.get? a=some (Pf (.ref f) (.ref x))
 | .ext φ=>φ h/\(∃ o,h.get? a=some o)/\∀ h1 h2:Heap,φ h1->(∀ o,h1.get? a=some o->h2.get? a=some o)->φ h2
def HOk (H:Hp) (h:Heap):Prop:=∀ a o,H a=some o->zwl P w H h a o
end
section
variable {P:A7}{w:A6}{H H':Hp}{h h':Heap}{a:Addr}{o:HO}
theorem zwl.lt (x:zwl P w H h a o):a < h.objs.size:=by
 cases o with
 | lst xs=>obtain ⟨_,_,_,_,e⟩:=x;exact Bl e
 | tup xs=>obtain ⟨_,_,_,p⟩:=x;exact p.lt
 | dK kvs=>obtain ⟨_,_,_,_,o,_,_,e,_⟩:=x;exact Bl e
 | dT kvs=>obtain ⟨_,_,_,_,o,_,_,e,_⟩:=x;exact Bl e
 | set S n=>obtain ⟨o,_,_,_,e,_⟩:=x;exact Bl e
 | ins C dx fs=>obtain ⟨_,_,_,e,_⟩:=x;exact Bl e
 | own y=>obtain ⟨_,e⟩:=x;exact Bl e
 | xd fs=>obtain ⟨_,⟨_,_,_,e,_⟩,_⟩:=x;exact Bl e
 | rng lo hi=>obtain ⟨_,_,_,e⟩:=x;exact Bl e
 | frz ob u=>obtain ⟨e,_⟩:=x;exact Bl e
 | tbl ps=>exact Bl (show h.get? a=some _ from x)
 | met f y=>exact Bl (show h.get? a=some _ from x)
 | ext φ=>obtain ⟨_,⟨_,e⟩,_⟩:=x;exact Bl e
theorem Paired.mapP {α β:Type}{F G:α->β->Prop}:∀ {l₁:List α}{l₂:List β},Paired F l₁ l₂->(∀ a b,F a b->G a b)->Paired G l₁ l₂
 | _,_,.nil,_=>.nil
 | _,_,.cons r t,f=>.cons (f _ _ r) (Paired.mapP t f)
theorem zwl.stay (x:zwl P w H h a o) (k:∀ b u,(b=a\/H b=some (.own a))->h.get? b=some u->h'.get? b=some u)
  (ho:∀ b,H b=some (.own a)->H' b=some (.own a)) (ht:∀ b xs,H b=some (.tup xs)->H' b=some (.tup xs)):zwl P w H' h' a o:=by
 induction o with
 | lst xs=>obtain ⟨z,its,n,r,e⟩:=x;exact ⟨z,its,n,r,k _ _ (.inl rfl) e⟩
 | tup xs=>obtain ⟨z,its,r,ob,e,c⟩:=x;exact ⟨z,its,r,ob,k _ _ (.inl rfl) e,c⟩
 | dK kvs=>obtain ⟨z,y,vs,r,ob,es,ep,e,c⟩:=x;exact ⟨z,y,vs,r,ob,es,ep,k _ _ (.inl rfl) e,c⟩
 | dT kvs=>
  obtain ⟨z,y,xs,r,ob,es,ep,e,c⟩:=x;exact ⟨z,y,xs,Paired.mapP r λ p q z=>⟨z.1,ht _ _ z.2.1,z.2.2⟩,ob,es,ep,k _ _ (.inl rfl) e,c⟩
 | set S n=>obtain ⟨ob,es,ep,t,e,c⟩:=x;exact ⟨ob,es,ep,t,k _ _ (.inl rfl) e,c⟩
 | ins C dx fs=>
  obtain ⟨d,z,ne,e,mA,⟨od,es,ep,e2,c⟩,r⟩:=x;exact ⟨ho _ d,z,ne,k _ _ (.inl rfl) e,mA,⟨od,es,ep,k _ _ (.inr d) e2,c⟩,r⟩
 | own y=>obtain ⟨ob,e⟩:=x;exact ⟨ob,k _ _ (.inl rfl) e⟩
 | xd fs=>obtain ⟨mA,⟨od,es,ep,e,c⟩,r⟩:=x;exact ⟨mA,⟨od,es,ep,k _ _ (.inl rfl) e,c⟩,r⟩
 | rng lo hi=>obtain ⟨t,u,v,e⟩:=x;exact ⟨t,u,v,k _ _ (.inl rfl) e⟩
 | frz ob u ih=>obtain ⟨e,q⟩:=x;exact ⟨k _ _ (.inl rfl) e,ih q⟩
 | tbl ps=>
  have e:h.get? a=some { cls:=.none,data:=.fields ps }:=x;show h'.get? a=some { cls:=.none,data:=.fields ps };exact k a _ (.inl rfl) e
 | met f y=>
  have e:h.get? a=some (Pf (.ref f) (.ref y)):=x;show h'.get? a=some (Pf (.ref f) (.ref y));exact k a _ (.inl rfl) e
 | ext φ=>obtain ⟨p,⟨o,e⟩,st⟩:=x;exact ⟨st _ _ p λ o q=>k _ _ (.inl rfl) q,⟨o,k _ _ (.inl rfl) e⟩,st⟩
def HOk.lt (x:HOk P w H h) (e:H a=some o):a < h.objs.size:=(x a o e).lt
theorem HOk.fresh (x:HOk P w H h) (e:h.objs.size<=a):H a=none:=by
 cases q:H a with
 | none=>rfl
 | some u=>exact absurd (Bm (x.lt q) e) (Ed _)
def HOk.kept (x:HOk P w H h) (k:∀ b u,h.get? b=some u->h'.get? b=some u):HOk P w H h':=λ a o e=>
 (x a o e).stay (λ b u _ q=>k b u q) (λ _ q=>q) λ _ _ q=>q
def HOk.laid (x:HOk P w H h) (k:∀ b u,h.get? b=some u->h'.get? b=some u) (hp:h.objs.size<=a) (new:zwl P w (Aw H a o) h' a o):HOk P w (Aw H a o) h':=λ b u e=>by
 have hn:=x.fresh hp;by_cases hb:b=a
 ·subst hb;rw [BS] at e;cases e;exact new
 ·rw [AR hb] at e;exact (x b u e).stay (λ c v _ q=>k c v q) (λ c q=>by rw [AR (Jb q hn)];exact q) λ c xs q=>by rw [AR (Jb q hn)];exact q
end
def Rd (H:Hp) (a:Addr) (u:HO):Prop:=H a=some u\/∃ o,H a=some (.frz o u)
def Rd.ok {P:A7}{w:A6}{H:Hp}{h:Heap}{a:Addr}{u:HO} (r:Rd H a u) (x:HOk P w H h):zwl P w H h a u:=by
 rcases r with r | ⟨o,r⟩
 ·exact x a u r
 ·obtain ⟨_,q⟩:=x a _ r;exact q
def LB:Option HO->Prop
 | some (.lst _)=>True
 | some (.dK _)=>True
 | some (.dT _)=>True
 | some (.set _ _)=>True
 | some (.ins _ _ _)=>True
 | some (.ext _)=>True
 | _=>False
section
variable {P:A7}{w:A6}{H:Hp}{h h':Heap}{x e:Addr}{o':HO}
def HOk.write (ok:HOk P w H h) (mu:LB (H x)) (he:e=x\/H e=some (.own x)) (k:∀ b u,b≠e->h.get? b=some u->h'.get? b=some u) (heo:∃ u,h'.get? e=some u)
  (new:zwl P w (Aw H x o') h' x o'):HOk P w (Aw H x o') h':=λ b u q=>by
 have nown:∀ c y,H c=some (.own y)->c≠x:=λ c y r z=>by subst z;rw [r] at mu;exact mu
 have ntup:∀ c xs,H c=some (.tup xs)->c≠x:=λ c xs r z=>by subst z;rw [r] at mu;exact mu
 by_cases hb:b=x
 ·subst hb;rw [BS] at q;cases q;exact new
 ·rw [AR hb] at q;by_cases hbe:b=e
  ·have q':H b=some (.own x):=by
    rcases he with z | z
    ·exact absurd (hbe.trans z) hb
    ·rw [hbe];exact z
   rw [q] at q';cases q';obtain ⟨v,hv⟩:=heo;exact ⟨v,by rw [hbe];exact hv⟩
  ·refine (ok b u q).stay (λ c v hc r=>k c v ?_ r) (λ c r=>by rw [AR (nown c b r)];exact r) λ c xs r=>by rw [AR (ntup c xs r)];exact r
   rcases hc with rfl | hc
   ·exact hbe
   ·rintro rfl;rcases he with z | z
    ·exact nown c b hc z
    ·rw [hc] at z;cases z;exact hb rfl
end
structure Un (fs ex:List Addr) (H H':Hp) (h h':Heap):Prop where
 keep:∀ b o,h.get? b=some o->H b=none->b∉fs->b∉ex->h'.get? b=some o
 slot:∀ b o,h.get? b=some o->H b=none->b∈fs->b∉ex->∃ sl,h'.get? b=some { o with slots:=sl }
 free:∀ b o,h.get? b=some o->H b=none->b∉ex->H' b=none
 there:∀ b o,h.get? b=some o->b∉ex->∃ o',h'.get? b=some o'
 tups:∀ b xs,H b=some (.tup xs)->H' b=some (.tup xs)
 frzs:∀ b o u,H b=some (.frz o u)->H' b=some (.frz o u)
 tbls:∀ b ps,H b=some (.tbl ps)->∃ more,H' b=some (.tbl (ps++more))
section
variable {fs fs' ex ex':List Addr}{H H1 H2:Hp}{h h1 h2 h':Heap}{a x e:Addr}{o:HO}
def Un.any (u:Un fs ex H H1 h h1) {b:Addr}{ob:Obj} (q:h.get? b=some ob) (n:H b=none) (hx:b∉ex):∃ sl,h1.get? b=some { ob with slots:=sl }:=by
 by_cases hb:b∈fs
 ·exact u.slot b ob q n hb hx
 ·exact ⟨ob.slots,u.keep b ob q n hb hx⟩
def Un.kept (k:∀ b u,h.get? b=some u->h'.get? b=some u):Un fs ex H H h h':=
 ⟨λ b ob q _ _ _=>k b ob q,λ b ob q _ _ _=>⟨ob.slots,k b ob q⟩,λ _ _ _ n _=>n,λ b ob q _=>⟨ob,k b ob q⟩,λ _ _ q=>q,λ _ _ _ q=>q,λ _ ps q=>⟨#[],by rw [q];simp⟩⟩
def Un.refl:Un fs ex H H h h:=Un.kept λ _ _ q=>q
def Un.laid (k:∀ b u,h.get? b=some u->h'.get? b=some u) (hp:h.objs.size<=a) (hn:H a=none):Un fs ex H (Aw H a o) h h' where
 keep:=λ b u q _ _ _=>k b u q
 slot:=λ b u q _ _ _=>⟨u.slots,k b u q⟩
 free:=λ b u q n _=>by rw [AR (BM (Bm (Bl q) hp))];exact n
 there:=λ b u q _=>⟨u,k b u q⟩
 tups:=λ b xs q=>by rw [AR (Jb q hn)];exact q
 frzs:=λ b u xs q=>by rw [AR (Jb q hn)];exact q
 tbls:=λ b ps q=>⟨#[],by rw [AR (Jb q hn),q];simp⟩
def Un.write (mu:LB (H x)) (he:e=x\/H e=some (.own x)) (k:∀ b u,b≠e->h.get? b=some u->h'.get? b=some u) (heo:∃ u,h'.get? e=some u):Un fs ex H (Aw H x o) h h':=by
 have hx:∀ b,H b=none->b≠x:=λ b n z=>by subst z;rw [n] at mu;exact mu
 have hb:∀ b,H b=none->b≠e:=λ b n z=>by
  subst z;rcases he with r | r
  ·exact hx b n r
  ·rw [n] at r;cases r
 have hm:∀ b u,H b=some u->¬ LB (some u)->b≠x:=λ b u q nm z=>by subst z;rw [q] at mu;exact nm mu
 refine ⟨λ b u q n _ _=>k b u (hb b n) q,λ b u q n _ _=>⟨u.slots,k b u (hb b n) q⟩,λ b u q n _=>by rw [AR (hx b n)];exact n,λ b u q _=>?_,
  λ b xs q=>by rw [AR (hm b _ q λ z=>z)];exact q,λ b u xs q=>by rw [AR (hm b _ q λ z=>z)];exact q,λ b ps q=>⟨#[],by rw [AR (hm b _ q λ z=>z),q];simp⟩⟩
 by_cases hbe:b=e
 ·subst hbe;exact heo
 ·exact ⟨u,k b u hbe q⟩
end
def D8 (h:Heap) (H:Hp):List Addr:=(Bw h.objs.size).filter λ a=>(H a).isSome
def Dr (h:Heap) (H:Hp):Heap:=E1 h (D8 h H)
def jf (h:Heap) (H:Hp):(Dr h H).objs.size=h.objs.size:=PySem.W.hideAll_size _ _
def z9 {h:Heap}{H:Hp}{b:Addr}{o:Obj} (e:h.get? b=some o) (n:H b=none):(Dr h H).get? b=some o:=
 KG _ e λ hm=>by
  have q:(H b).isSome=true:=(jf9.mp hm).2;rw [n] at q;simp at q
theorem qg {h:Heap}{H:Hp}{b:Addr}{o:Obj} (e:(Dr h H).get? b=some o):h.get? b=some o/\H b=none:=by
 have e':h.get? b=some o:=Ik (D8 h H) e;refine ⟨e',?_⟩;cases q:H b with
 | none=>rfl
 | some x=>
  have hm:b∈D8 h H:=jf9.mpr ⟨jd0.mpr (Bl e'),by simp [q]⟩;have z:(Dr h H).get? b=none:=Po (D8 h H) hm;rw [z] at e;cases e
def Z5 (g h:Heap) (L:Addr):List (Addr×Obj):=(Bw h.objs.size).filterMap λ a=>if a=L\/(g.get? a).isSome=true then none else (h.get? a).map λ o=>(a,o)
def rest (g h:Heap) (L d:Addr):List (Addr×Obj):=(Z5 g h L).filter λ p=>decide (p.1≠d)
structure Mod (K:PySem.W.Frag) (mg:Str->Option Af) (base:Heap):Prop where
 kin:K.In base
 glob:base.Ns DM mg
 blt:∃ mb,base.Ns builtinsNs mb/\∀ x:Str,x ≠ "__name__" -> mb x=Ic x
 nolimit:base.NoLimit
structure Cx where
 prog:A7
 w:A6
 K:PySem.W.Frag
 mg:Str->Option Af
 base:Heap
 A:AZ
 N:List Str
 s₀:Aj
 H₀:Hp
 env:Env
 outer:List Env
 stack:List Env
 ex:List Addr
 fn:Str->Bool
 calm:Bool
 pn:List (Addr×Obj)
 xe:Af->Aj->Prop
def BO (l:List Env):List Addr:=l.filterMap (·.frame)
abbrev Cx.fs (X:Cx):List Addr:=BO X.outer
def GB (sc:AW) (x:Str):Prop:=sc.names.lookup x=some .local\/sc.names.lookup x=some .cell\/sc.names.lookup x=some .free
def Ej (sc:AW) (x:Str):Prop:=sc.names.lookup x=some .local\/sc.names.lookup x=some .cell
def Sb (env:Env) (h:Heap) (m:Str->Option Af) (x:Str) (u:Af):Prop:=
 (env.kindOf x=some .local/\m x=some u)\/((env.kindOf x=some .cell\/env.kindOf x=some .free)/\∃ c,env.cells.lookup x=some c/\h.IsCell c (some u))
structure Cx.Ok (X:Cx):Prop where
 mod:Mod X.K X.mg X.base
 kind:X.env.scope.kind=.function
 glob:X.env.globals=DM
 blt:X.env.builtins=builtinsNs
 above:X.s₀.heap.objs.size<=X.env.locals
 inj:∀ x y c,X.env.cells.lookup x=some c->X.env.cells.lookup y=some c->x=y
 has:∀ x,(X.env.kindOf x=some .cell\/X.env.kindOf x=some .free)->∃ c,X.env.cells.lookup x=some c
 cab:∀ x c,X.fn x=true->X.env.cells.lookup x=some c->X.s₀.heap.objs.size<=c
 hd:X.calm=true->X.A.handled=none
 frames:X.A.frames=some X.stack
 stk:X.stack=X.outer\/(X.stack=X.env::X.outer/\X.env.frame=some X.env.locals)
 exf:∀ b∈X.ex,b≠X.env.locals/\∀ x c,X.env.cells.lookup x=some c->c≠b
 bs:∀ b o,X.base.get? b=some o->X.s₀.heap.get? b=some o/\X.H₀ b=none
 bsz:X.base.objs.size<=X.s₀.heap.objs.size
 noex:∀ b o,X.base.get? b=some o->b∉X.ex
 exfs:∀ b∈X.ex,b∉X.fs
 funs:X.s₀.heap.FunFrames X.base X.outer
 frf:∀ b∈X.fs,X.H₀ b=none
structure Inv (X:Cx) (pins:List (Addr×Obj)) (σ:List (Option V)) (H:Hp) (s:Aj):Prop where
 ok:X.Ok
 os:s.os=X.s₀.os
 bare:EF s.gens
 base:Un X.fs X.ex X.H₀ H X.s₀.heap s.heap
 loc:∃ m,s.heap.Ns X.env.locals m/\∀ (i:Nat) (x:Str) (v:V),X.N[i]?=some x->σ[i]?=some (some v)->GB X.env.scope x->∃ u,RelV v u/\Sb X.env s.heap m x u
 cell:∀ x c,X.env.cells.lookup x=some c->∃ v,s.heap.IsCell c v
 free:H X.env.locals=none
 freeC:∀ x c,X.env.cells.lookup x=some c->H c=none
 pin:∀ p∈X.pn++pins,s.heap.get? p.1=some p.2/\H p.1=none/\p.1≠X.env.locals/\p.1∉X.fs/\∀ v,p.2.data≠.cell v
 hok:HOk X.prog X.w H s.heap
 len:σ.length=X.N.length
section
variable {X:Cx}{pins:List (Addr×Obj)}{σ:List (Option V)}{H H':Hp}{s:Aj}{h':Heap}
def Cx.Ok.nofr (ok:X.Ok) {b:Addr}{o:Obj} (e:X.base.get? b=some o):b∉X.fs:=λ hb=>by
 have:=(ok.funs.mem hb).1
 rw [e] at this;cases this
def Inv.bs (I:Inv X pins σ H s):∀ b o,X.base.get? b=some o->s.heap.get? b=some o/\H b=none:=λ b o e=>
 ⟨I.base.keep b o (I.ok.bs b o e).1 (I.ok.bs b o e).2 (I.ok.nofr e) (I.ok.noex b o e),I.base.free b o (I.ok.bs b o e).1 (I.ok.bs b o e).2 (I.ok.noex b o e)⟩
def Inv.bk (I:Inv X pins σ H s):∀ b o,X.base.get? b=some o->s.heap.get? b=some o:=λ b o e=>(I.bs b o e).1
def Inv.mod (I:Inv X pins σ H s):Mod X.K X.mg X.base:=I.ok.mod
def Inv.kIn (I:Inv X pins σ H s):X.K.In s.heap:=I.ok.mod.kin.keeps I.bk
def Inv.lt (I:Inv X pins σ H s):X.env.locals < s.heap.objs.size:=let ⟨_,hn,_⟩:=I.loc;hn.lt
def Inv.sz (I:Inv X pins σ H s):X.s₀.heap.objs.size<=s.heap.objs.size:=BH I.ok.above (Rl I.lt)
def Inv.nofs (I:Inv X pins σ H s) {a:Addr} (h:s.heap.objs.size<=a):a∉X.fs:=λ hb=>by
 obtain ⟨_,o,ho,_⟩:=I.ok.funs.mem hb;exact absurd (Bm (Bl ho) (BH I.sz h)) (Ed _)
def Inv.cne (I:Inv X pins σ H s):∀ x c,X.env.cells.lookup x=some c->c≠X.env.locals:=λ x c e z=>by
 obtain ⟨v,o,ho,hd⟩:=I.cell x c e;obtain ⟨m,⟨o',es,ep,ho',hd',_⟩,_⟩:=I.loc;rw [z,ho'] at ho;cases ho;rw [hd'] at hd;cases hd
def Inv.funs (I:Inv X pins σ H s):s.heap.FunFrames X.base X.outer:=by
 have all:∀ (l:List Env),(∀ b∈BO l,b∈X.fs)->X.s₀.heap.FunFrames X.base l->s.heap.FunFrames X.base l:=by
  intro l;induction l with
  | nil=>intro _ _;trivial
  | cons env r ih=>
   intro hs hl;obtain ⟨hk,⟨L,o,hf,hn,ho,hd⟩,hr⟩:=hl;have hL:L∈X.fs:=hs L (by unfold BO;rw [NG,hf];exact Ba);obtain ⟨sl,e⟩:=I.base.slot L o ho (I.ok.frf L hL) hL λ z=>I.ok.exfs L z hL;exact ⟨hk,⟨L,_,hf,hn,e,hd⟩,ih (λ b hb=>hs b (by unfold BO;rw [NG,hf];exact AU _ hb)) hr⟩
 exact all X.outer (λ _ hb=>hb) I.ok.funs
def Inv.stack (I:Inv X pins σ H s):s.heap.FunFrames X.base X.stack:=by
 rcases I.ok.stk with e | ⟨e,hf⟩
 ·rw [e];exact I.funs
 ·rw [e];obtain ⟨m,hn,_⟩:=I.loc;refine .cons (by rw [I.ok.kind];decide) hf hn ?_ I.funs;exact Heap.get?_none_of_le (BH I.ok.bsz I.ok.above)
def Inv.stkSub (I:Inv X pins σ H s):∀ b∈BO X.stack,b∈X.env.locals::X.fs:=λ b hb=>by
 rcases I.ok.stk with e | ⟨e,hf⟩
 ·rw [e] at hb;exact AU _ hb
 ·rw [e] at hb;unfold BO at hb;rw [NG,hf] at hb;exact hb
def Inv.stkFree (I:Inv X pins σ H s):∀ b∈BO X.stack,H b=none:=λ b hb=>by
 rcases jb2.mp (I.stkSub b hb) with e | hb
 ·rw [e];exact I.free
 ·obtain ⟨_,o,ho,_⟩:=I.ok.funs.mem hb;exact I.base.free b o ho (I.ok.frf b hb) λ z=>I.ok.exfs b z hb
def Inv.step {g':Array GenState}{t':Nat}{d':Drawn}{ch:List Addr} (I:Inv X pins σ H s)
  (hch:∀ b∈ch,(b∈X.ex\/X.s₀.heap.objs.size<=b)/\b≠X.env.locals/\(∀ x c,X.env.cells.lookup x=some c->c≠b)/\∀ p∈X.pn++pins,p.1≠b)
  (keep:∀ b o,b≠X.env.locals->b∉X.fs->b∉ch->s.heap.get? b=some o->H b=none->h'.get? b=some o)
  (slot:∀ b o,b≠X.env.locals->b∈X.fs->b∉ch->s.heap.get? b=some o->H b=none->∃ sl,h'.get? b=some { o with slots:=sl }) (free:∀ b o,b∉ch->s.heap.get? b=some o->H b=none->H' b=none)
  (there:∀ b o,b∉ch->s.heap.get? b=some o->∃ o',h'.get? b=some o')
  (tups:∀ b xs,H b=some (.tup xs)->H' b=some (.tup xs)) (frzs:∀ b o u,H b=some (.frz o u)->H' b=some (.frz o u)) (tbls:∀ b ps,H b=some (.tbl ps)->∃ more,H' b=some (.tbl (ps++more)))
  (ns:∀ m,s.heap.Ns X.env.locals m->h'.Ns X.env.locals m) (hok:HOk X.prog X.w H' h') (hg:EF g'):
  Inv X pins σ H' { s with heap:=h',gens:=g',drawn:=d',toks:=t' }:=by
 have neL:∀ b o,X.s₀.heap.get? b=some o->b≠X.env.locals:=λ b o e=>BM (Bm (Bl e) I.ok.above);have neC:∀ b o,X.s₀.heap.get? b=some o->b∉X.ex->b∉ch:=λ b o e hx hb=>by
  rcases (hch b hb).1 with z | z
  ·exact hx z
  ·exact absurd (Bm (Bl e) z) (Ed _)
 have cellK:∀ x c,X.env.cells.lookup x=some c->∀ v,s.heap.IsCell c v->h'.IsCell c v:=λ x c e v ⟨o,ho,hd⟩=>by
  have nch:c∉ch:=λ z=>(hch c z).2.2.1 x c e rfl;by_cases hc:c∈X.fs
  ·obtain ⟨sl,q⟩:=slot c o (I.cne x c e) hc nch ho (I.freeC x c e);exact ⟨_,q,hd⟩
  ·exact ⟨o,keep c o (I.cne x c e) hc nch ho (I.freeC x c e),hd⟩
 refine ⟨I.ok,I.os,hg,⟨λ b o e n hb hx=>?_,λ b o e n hb hx=>?_,λ b o e n hx=>?_,λ b o e hx=>?_,λ b xs e=>tups b xs (I.base.tups b xs e),λ b o xs e=>frzs b o xs (I.base.frzs b o xs e),λ b ps e=>?_⟩,?_,λ x c e=>?_,?_,λ x c e=>?_,λ p hp=>?_,hok,I.len⟩
 ·exact keep b o (neL b o e) hb (neC b o e hx) (I.base.keep b o e n hb hx) (I.base.free b o e n hx)
 ·obtain ⟨sl,e1⟩:=I.base.slot b o e n hb hx;obtain ⟨sl',e2⟩:=slot b _ (neL b o e) hb (neC b o e hx) e1 (I.base.free b o e n hx);exact ⟨sl',e2⟩
 ·obtain ⟨o',e1⟩:=I.base.there b o e hx;exact free b o' (neC b o e hx) e1 (I.base.free b o e n hx)
 ·obtain ⟨o',e1⟩:=I.base.there b o e hx;exact there b o' (neC b o e hx) e1
 ·obtain ⟨m1,e1⟩:=I.base.tbls b ps e;obtain ⟨m2,e2⟩:=tbls b _ e1;exact ⟨m1++m2,by rw [e2,WA]⟩
 ·obtain ⟨m,hn,hl⟩:=I.loc;refine ⟨m,ns m hn,λ i x v e1 e2 e3=>?_⟩;obtain ⟨u,r,l⟩:=hl i x v e1 e2 e3;refine ⟨u,r,?_⟩;rcases l with l | ⟨k,c,e,z⟩
  ·exact .inl l
  ·exact .inr ⟨k,c,e,cellK x c e _ z⟩
 ·obtain ⟨v,z⟩:=I.cell x c e;exact ⟨v,cellK x c e v z⟩
 ·obtain ⟨m,⟨o,_,_,ho,_⟩,_⟩:=I.loc;exact free _ o (λ z=>(hch _ z).2.1 rfl) ho I.free
 ·obtain ⟨v,o,ho,hd⟩:=I.cell x c e;exact free c o (λ z=>(hch c z).2.2.1 x c e rfl) ho (I.freeC x c e)
 ·obtain ⟨e,n,ne,nf,d⟩:=I.pin p hp;have nch:p.1∉ch:=λ z=>(hch p.1 z).2.2.2 p hp rfl;exact ⟨keep p.1 p.2 ne nf nch e n,free p.1 p.2 nch e n,ne,nf,d⟩
def Inv.un {t':Nat} (I:Inv X pins σ H s) (u:Un X.fs [] H H' s.heap h') (hok:HOk X.prog X.w H' h'):Inv X pins σ H' { s with heap:=h',toks:=t' }:=by
 obtain ⟨m,⟨o,es,ep,ho,r⟩,_⟩:=id I.loc;obtain ⟨sl,hL⟩:=u.any ho I.free (by simp);exact I.step (g':=s.gens) (d':=s.drawn) (ch:=[]) (λ _ z=>nomatch z) (λ b o _ hb _ e n=>u.keep b o e n hb (by simp)) (λ b o _ hb _ e n=>u.slot b o e n hb (by simp)) (λ b o _ e n=>u.free b o e n (by simp)) (λ b o _ e=>u.there b o e (by simp)) u.tups u.frzs u.tbls (λ m' hm=>by
  obtain ⟨o',es',ep',ho',r'⟩:=hm;rw [ho] at ho';cases ho';exact ⟨_,es',ep',hL,r'⟩) hok I.bare
def Inv.call {g':Array GenState}{t':Nat}{d':Drawn}{ch:List Addr} (I:Inv X pins σ H s) (u:Un (BO X.stack) ch H H' s.heap h') (hok:HOk X.prog X.w H' h') (hg:EF g')
  (hch:∀ b∈ch,(b∈X.ex\/X.s₀.heap.objs.size<=b)/\b≠X.env.locals/\(∀ x c,X.env.cells.lookup x=some c->c≠b)/\∀ p∈X.pn++pins,p.1≠b):
  Inv X pins σ H' { s with heap:=h',gens:=g',drawn:=d',toks:=t' }:=by
 obtain ⟨m,⟨o,es,ep,ho,r⟩,_⟩:=id I.loc;obtain ⟨sl,hL⟩:=u.any ho I.free λ z=>(hch _ z).2.1 rfl;exact I.step (ch:=ch) hch (λ b o hL hb hc e n=>u.keep b o e n (λ z=>(jb2.mp (I.stkSub b z)).elim hL hb) hc) (λ b o _ _ hc e n=>u.any e n hc) (λ b o hc e n=>u.free b o e n hc) (λ b o hc e=>u.there b o e hc) u.tups u.frzs u.tbls (λ m' hm=>by
  obtain ⟨o',es',ep',ho',r'⟩:=hm;rw [ho] at ho';cases ho';exact ⟨_,es',ep',hL,r'⟩) hok hg
def Inv.turned {t':Nat}{it:Addr} (I:Inv X pins σ H s) (k:∀ b o,b≠it->s.heap.get? b=some o->h'.get? b=some o) (hn:H it=none) (hL:it≠X.env.locals)
  (h1:it∈X.ex\/X.s₀.heap.objs.size<=it) (h2:∀ x c,X.env.cells.lookup x=some c->c≠it) (h3:∀ p∈X.pn++pins,p.1≠it):Inv X pins σ H { s with heap:=h',toks:=t' }:=by
 have nit:∀ b u,H b=some u->b≠it:=λ b u e z=>by rw [z,hn] at e;cases e
 refine I.step (g':=s.gens) (d':=s.drawn) (ch:=[it]) (λ b hb=>?_) (λ b o _ _ hc e _=>k b o (λ z=>hc (by simp [z])) e) (λ b o _ _ hc e _=>⟨o.slots,k b o (λ z=>hc (by simp [z])) e⟩) (λ _ _ _ _ n=>n)
  (λ b o hc e=>⟨o,k b o (λ z=>hc (by simp [z])) e⟩) (λ _ _ e=>e) (λ _ _ _ e=>e) (λ b ps e=>⟨#[],by rw [e];simp⟩) (λ m hm=>?_) (λ b u e=>?_) I.bare
 ·have e:b=it:=by simpa using hb
  subst e;exact ⟨h1,hL,h2,h3⟩
 ·obtain ⟨o,es,ep,ho,r⟩:=hm;exact ⟨o,es,ep,k _ o (BF hL) ho,r⟩
 ·refine (I.hok b u e).stay (λ c v hc q=>k c v ?_ q) (λ _ q=>q) λ _ _ q=>q;rcases hc with z | z
  ·rw [z];exact nit b u e
  ·exact nit c _ z
def Inv.tok (I:Inv X pins σ H s) (t:Nat):Inv X pins σ H { s with toks:=t }:=I.un (h':=s.heap) (t':=t) Un.refl I.hok
def Inv.kept {t':Nat} (I:Inv X pins σ H s) (k:∀ b u,s.heap.get? b=some u->h'.get? b=some u):Inv X pins σ H { s with heap:=h',toks:=t' }:=I.un (Un.kept k) (I.hok.kept k)
def Inv.laid {a:Addr}{o:HO}{t':Nat} (I:Inv X pins σ H s) (k:∀ b u,s.heap.get? b=some u->h'.get? b=some u) (hp:s.heap.objs.size<=a) (new:zwl X.prog X.w (Aw H a o) h' a o):
  Inv X pins σ (Aw H a o) { s with heap:=h',toks:=t' }:=I.un (Un.laid k hp (I.hok.fresh hp)) (I.hok.laid k hp new)
def Inv.write {x e:Addr}{o:HO}{t':Nat} (I:Inv X pins σ H s) (mu:LB (H x)) (he:e=x\/H e=some (.own x)) (k:∀ b u,b≠e->s.heap.get? b=some u->h'.get? b=some u) (heo:∃ u,h'.get? e=some u)
  (new:zwl X.prog X.w (Aw H x o) h' x o):Inv X pins σ (Aw H x o) { s with heap:=h',toks:=t' }:=I.un (Un.write mu he k heo) (I.hok.write mu he k heo new)
def Inv.pins_of {pins':List (Addr×Obj)} (I:Inv X pins σ H s) (h:∀ p∈pins',s.heap.get? p.1=some p.2/\H p.1=none/\p.1≠X.env.locals/\p.1∉X.fs/\∀ v,p.2.data≠.cell v):Inv X pins' σ H s:=
 ⟨I.ok,I.os,I.bare,I.base,I.loc,I.cell,I.free,I.freeC,λ p hp=>(jc4.mp hp).elim (λ z=>I.pin p (BC _ z)) (h p),I.hok,I.len⟩
def Ow {N:List Str} (hN:N.Nodup) {i j:Nat}{x:Str} (a:N[i]?=some x) (b:N[j]?=some x):i=j:=by
 obtain ⟨h1,e1⟩:=ja6.mp a;obtain ⟨h2,e2⟩:=ja6.mp b;exact (List.getElem_inj hN).mp (e1.trans e2.symm)
def O5 {M:Model}{A:AZ}{E:Af->Aj->Prop}{i:Nat}{x:Str}{v:V}{u:Af}{Q:Unit->Aj->Prop} (I:Inv X pins σ H s) (hN:X.N.Nodup) (hi:X.N[i]?=some x) (hx:Ej X.env.scope x) (r:RelV v u)
  (h:∀ s',Inv X pins (σ.set i (some v)) H s'->(∃ a,Fd a s.heap s'.heap/\(a=X.env.locals\/X.env.cells.lookup x=some a))->Q () s') (hf:X.fn x=true\/X.env.scope.names.lookup x=some .local:=by first | exact .inl rfl | exact .inr rfl | assumption):As M A (storeName X.env x u) Q E s:=by
 obtain ⟨m,hn,hl⟩:=id I.loc;have hcls:(X.env.scope.kind == .class || (X.env.scope.kind == .module && X.env.locals != X.env.globals))=false:=by rw [I.ok.kind];rfl
 have hiσ:i < σ.length:=by rw [I.len];exact (ja6.mp hi).1
 have cne:=I.cne;have tracked:∀ {a:Addr}{h':Heap},(∃ o,s.heap.get? a=some o/\H a=none)->Fd a s.heap h'->HOk X.prog X.w H h':=λ {a h'} ha hs b ob e=>by
  obtain ⟨_,_,hfree⟩:=ha;refine (I.hok b ob e).stay (λ c w' hc q=>(hs.2 c ?_).trans q) (λ _ q=>q) λ _ _ q=>q;rintro rfl;rcases hc with rfl | hc
  ·rw [hfree] at e;cases e
  ·rw [hfree] at hc;cases hc
 rcases hx with hk | hk
 ·refine wpAny_storeName_local hk hn (λ h' hn' hs=>?_) hcls;obtain ⟨oL,_,_,hoL,_⟩:=id hn;refine h _ ⟨I.ok,I.os,I.bare,⟨λ b o e n hb hx=>?_,λ b o e n hb hx=>?_,I.base.free,λ b o e hx=>?_,I.base.tups,I.base.frzs,I.base.tbls⟩,⟨_,hn',λ j y v' e1 e2 e3=>?_⟩,λ y c e=>?_,I.free,I.freeC,λ p hp=>?_,tracked ⟨oL,hoL,I.free⟩ hs,by simpa using I.len⟩ ⟨_,hs,.inl rfl⟩
  ·exact (hs.2 b (BM (Bm (Bl e) I.ok.above))).trans (I.base.keep b o e n hb hx)
  ·obtain ⟨sl,e1⟩:=I.base.slot b o e n hb hx;exact ⟨sl,(hs.2 b (BM (Bm (Bl e) I.ok.above))).trans e1⟩
  ·obtain ⟨o',e1⟩:=I.base.there b o e hx;exact ⟨o',(hs.2 b (BM (Bm (Bl e) I.ok.above))).trans e1⟩
  ·by_cases hj:j=i
   ·subst hj;rw [hi] at e1;cases e1;rw [Eg hiσ] at e2;cases e2;exact ⟨u,r,.inl ⟨hk,by simp⟩⟩
   ·rw [Ct (BF hj)] at e2;obtain ⟨u',r',q⟩:=hl j y v' e1 e2 e3;refine ⟨u',r',?_⟩;rcases q with ⟨k,e⟩ | ⟨k,c,e,z⟩
    ·refine .inl ⟨k,?_⟩
     have:y≠x:=λ e=>hj (Ow hN e1 (e ▸ hi))
     simp [this,e]
    ·exact .inr ⟨k,c,e,z.sameBut hs (cne y c e)⟩
  ·obtain ⟨w',z⟩:=I.cell y c e;exact ⟨w',z.sameBut hs (cne y c e)⟩
  ·obtain ⟨e,n,ne,nf,d⟩:=I.pin p hp;exact ⟨(hs.2 p.1 ne).trans e,n,ne,nf,d⟩
 ·have hfn:X.fn x=true:=by
   rcases hf with z | z
   ·exact z
   ·rw [z] at hk;cases hk
  obtain ⟨c,hc⟩:=I.ok.has x (.inl hk);obtain ⟨w',z⟩:=I.cell x c hc;refine wpAny_storeName_cell I.ok.kind hk hc z (λ h' hc' hs=>?_);obtain ⟨oc,hoc,hocd⟩:=id z;refine h { s with heap:=h' } ⟨I.ok,I.os,I.bare,⟨λ b o e n hb hx=>?_,λ b o e n hb hx=>?_,I.base.free,λ b o e hx=>?_,I.base.tups,I.base.frzs,I.base.tbls⟩,⟨m,hn.sameBut hs (BF (cne x c hc)),λ j y v' e1 e2 e3=>?_⟩,λ y c' e=>?_,I.free,I.freeC,λ p hp=>?_,tracked ⟨oc,hoc,I.freeC x c hc⟩ hs,by simpa using I.len⟩ ⟨c,hs,.inr hc⟩
  ·exact (hs.2 b (BM (Bm (Bl e) (I.ok.cab x c hfn hc)))).trans (I.base.keep b o e n hb hx)
  ·obtain ⟨sl,e1⟩:=I.base.slot b o e n hb hx;exact ⟨sl,(hs.2 b (BM (Bm (Bl e) (I.ok.cab x c hfn hc)))).trans e1⟩
  ·obtain ⟨o',e1⟩:=I.base.there b o e hx;exact ⟨o',(hs.2 b (BM (Bm (Bl e) (I.ok.cab x c hfn hc)))).trans e1⟩
  ·by_cases hj:j=i
   ·subst hj;rw [hi] at e1;cases e1;rw [Eg hiσ] at e2;cases e2;exact ⟨u,r,.inr ⟨.inl hk,c,hc,hc'⟩⟩
   ·rw [Ct (BF hj)] at e2;obtain ⟨u',r',q⟩:=hl j y v' e1 e2 e3;refine ⟨u',r',?_⟩;rcases q with q | ⟨k,c',e,z'⟩
    ·exact .inl q
    ·refine .inr ⟨k,c',e,z'.sameBut hs ?_⟩;rintro rfl;exact hj (Ow hN e1 (I.ok.inj _ _ _ e hc ▸ hi))
  ·by_cases hcc:c'=c
   ·subst hcc;exact ⟨_,hc'⟩
   ·obtain ⟨w2,z2⟩:=I.cell y c' e;exact ⟨w2,z2.sameBut hs hcc⟩
  ·obtain ⟨e,n,ne,nf,d⟩:=I.pin p hp;refine ⟨(hs.2 p.1 ?_).trans e,n,ne,nf,d⟩;intro q;rw [q,hoc] at e;have q':oc=p.2:=Option.some.inj e;exact d w' (by rw [<- q'];exact hocd)
def Oh {M:Model}{A:AZ}{E:Af->Aj->Prop}{i:Nat}{x:Str}{v:V}{u:Af}{Q:Unit->Aj->Prop} (I:Inv X pins σ H s) (hN:X.N.Nodup) (hi:X.N[i]?=some x) (hx:Ej X.env.scope x) (r:RelV v u)
  (h:∀ s',Inv X pins (σ.set i (some v)) H s'->Q () s') (hf:X.fn x=true\/X.env.scope.names.lookup x=some .local:=by first | exact .inl rfl | exact .inr rfl | assumption):As M A (storeName X.env x u) Q E s:=
 O5 I hN hi hx r (λ s' I' _=>h s' I') hf
def Inv.call' {s':Aj}{ch:List Addr} (I:Inv X pins σ H s) (ho:s'.os=s.os) (u:Un (BO X.stack) ch H H' s.heap s'.heap) (hok:HOk X.prog X.w H' s'.heap) (hg:EF s'.gens)
  (hch:∀ b∈ch,(b∈X.ex\/X.s₀.heap.objs.size<=b)/\b≠X.env.locals/\(∀ x c,X.env.cells.lookup x=some c->c≠b)/\∀ p∈X.pn++pins,p.1≠b):Inv X pins σ H' s':=by
 obtain ⟨h',g',d',t',o'⟩:=s';have e:o'=s.os:=ho;subst e;exact I.call (g':=g') (t':=t') (d':=d') u hok hg hch
end
abbrev XK:=Af->Option Addr->Hp->Prop
abbrev St:=List (Option V)
abbrev VK:=V->Hp->Prop
abbrev TE:=St->Hp->VK->Prop
abbrev TT:=St->Hp->(Bool->Hp->Prop)->Prop
abbrev TA:=St->Hp->(List V->Hp->Prop)->Prop
structure Ends where
 nx:St->Hp->Prop
 rt:VK
 bk:St->Hp->Prop:=λ _ _=>False
 ct:St->Hp->Prop:=λ _ _=>False
abbrev TS:=Ends->St->Hp->Prop
def EP (X:Cx) (pins:List (Addr×Obj)) (σ:St) (Q:VK) (u:Af) (s':Aj):Prop:=∃ v H',Inv X pins σ H' s'/\RelV v u/\Q v H'
def TP (X:Cx) (pins:List (Addr×Obj)) (σ:St) (Q:Bool->Hp->Prop) (b:Bool) (s':Aj):Prop:=∃ H',Inv X pins σ H' s'/\Q b H'
def AP (X:Cx) (pins:List (Addr×Obj)) (σ:St) (Q:List V->Hp->Prop) (us:List Af) (s':Aj):Prop:=∃ vs H',Inv X pins σ H' s'/\Vals vs us/\Q vs H'
def SP (X:Cx) (pins:List (Addr×Obj)) (D:Ends) (f:Flow) (s':Aj):Prop:=
 match f with
 | .next=>∃ σ' H',Inv X pins σ' H' s'/\D.nx σ' H'
 | .brk=>∃ σ' H',Inv X pins σ' H' s'/\D.bk σ' H'
 | .cont=>∃ σ' H',Inv X pins σ' H' s'/\D.ct σ' H'
 | .ret u=>∃ v σ' H',Inv X pins σ' H' s'/\RelV v u/\D.rt v H'
def PE (X:Cx) (e:Expr) (t:TE):Prop:=
 ∀ (pins:List (Addr×Obj)) (s:Aj) (σ:St) (H:Hp) (Q:VK),Inv X pins σ H s->t σ H Q->As (Aq X.prog X.w) X.A (eval e X.env) (EP X pins σ Q) X.xe s
def PT (X:Cx) (e:Expr) (t:TT):Prop:=
 ∀ (pins:List (Addr×Obj)) (s:Aj) (σ:St) (H:Hp) (Q:Bool->Hp->Prop),Inv X pins σ H s->t σ H Q->As (Aq X.prog X.w) X.A (isTrue e X.env (eval e X.env)) (TP X pins σ Q) X.xe s
def PW (X:Cx) (e:Expr) (t:TT):Prop:=
 ∀ (whole:Sem Af) (pins:List (Addr×Obj)) (s:Aj) (σ:St) (H:Hp) (Q:Bool->Hp->Prop),Inv X pins σ H s->t σ H Q->As (Aq X.prog X.w) X.A (isTrue e X.env whole) (TP X pins σ Q) X.xe s
def PW.pt {X:Cx}{e:Expr}{t:TT} (h:PW X e t):PT X e t:=h _
def PA (X:Cx) (es:List Expr) (t:TA):Prop:=
 ∀ (pos:Pos) (pins:List (Addr×Obj)) (s:Aj) (σ:St) (H:Hp) (Q:List V->Hp->Prop),Inv X pins σ H s->t σ H Q->As (Aq X.prog X.w) X.A (spliced (Cz pos (A5 es X.env))) (AP X pins σ Q) X.xe s
def PS (X:Cx) (st:Stmt) (t:TS):Prop:=
 ∀ (pins:List (Addr×Obj)) (s:Aj) (σ:St) (H:Hp) (D:Ends),Inv X pins σ H s->t D σ H->As (Aq X.prog X.w) X.A (exec st X.env) (SP X pins D) X.xe s
def DH (X:Cx) (st:List Stmt) (t:TS):Prop:=
 ∀ (pins:List (Addr×Obj)) (s:Aj) (σ:St) (H:Hp) (D:Ends),Inv X pins σ H s->t D σ H->As (Aq X.prog X.w) X.A (execs st X.env) (SP X pins D) X.xe s
def A3 {α:Type}{t:Sem α}{Q Q':α->Aj->Prop}{M:Model}{A:AZ}{E:Af->Aj->Prop}{s:Aj} (h:As M A t Q E s) (hQ:∀ a s,Q a s->Q' a s):As M A t Q' E s:=CA h hQ λ _ _ x=>x
section
variable {X:Cx}
def vq {a b:Expr}{ta tb:TE} (ha:PE X a ta) (hb:PE X b tb) {pins:List (Addr×Obj)}{s:Aj}{σ:St}{H:Hp}{R:V->V->Hp->Prop} (I:Inv X pins σ H s) (h:ta σ H λ x H1=>tb σ H1 λ y H2=>R x y H2)
  {α:Type}{Q:α->Aj->Prop}{f:Af->Af->Sem α}
  (hf:∀ v u s2 x y H2,Inv X pins σ H2 s2->RelV x v->RelV y u->R x y H2->As (Aq X.prog X.w) X.A (f v u) Q X.xe s2):
  As (Aq X.prog X.w) X.A (eval a X.env) (λ v s₁=>As (Aq X.prog X.w) X.A (eval b X.env) (λ u s₂=>As (Aq X.prog X.w) X.A (f v u) Q X.xe s₂) X.xe s₁) X.xe s:=by
 refine A3 (ha pins s σ H _ I h) λ v s1 ⟨x,H1,I1,r1,q1⟩=>?_;refine A3 (hb pins s1 σ H1 _ I1 q1) λ u s2 ⟨y,H2,I2,r2,q2⟩=>?_;exact hf v u s2 x y H2 I2 r1 r2 q2
def D9 (i:Nat):TE:=λ σ H Q=>∃ v,σ[i]?=some (some v)/\Q v H
def tC (v:V):TE:=λ _ H Q=>Q v H
def U0 {i:Nat}{x:Str}{pos:Pos} (hN:X.N[i]?=some x) (hv:GB X.env.scope x) (hd:(x == ("__debug__" : Str))=false:=by decide) (hcd:(x == ("__classdict__" : Str))=false:=by decide):PE X (.Name x pos) (D9 i):=by
 intro pins s σ H Q I h;obtain ⟨v,e,h⟩:=h;obtain ⟨m,hn,hl⟩:=I.loc;obtain ⟨u,r,l⟩:=hl i x v hN e hv;have fin:EP X pins σ Q u s:=⟨v,H,I,r,h⟩
 rcases l with ⟨hk,hm⟩ | ⟨hk,c,hc,hcell⟩
 ·exact Jw (wpAny_loadName_local I.ok.kind hk hn hm fin) hd
 ·rcases hk with hk | hk
  ·exact Jw (wpAny_loadName_cell I.ok.kind hk hc hcell fin) hd
  ·exact Jw (wpAny_loadName_free I.ok.kind hk hc hcell fin hcd) hd
def Q8 {i j pos}:PE X (.Constant (.int i) j pos) (tC (.int i)):=λ _ _ _ H _ I h=>Pm ⟨.int i,H,I.tok _,⟨_,rfl⟩,h⟩
def XD {b j pos}:PE X (.Constant (.bool b) j pos) (tC (.bl b)):=λ _ _ _ H _ I h=>Constant_bool ⟨.bl b,H,I,rfl,h⟩
def YE {j pos}:PE X (.Constant .none j pos) (tC .non):=λ _ _ _ H _ I h=>Constant_none ⟨.non,H,I,rfl,h⟩
def QA {x j pos}:PE X (.Constant (.str x) j pos) (tC (.str x)):=λ _ _ _ H _ I h=>MA ⟨.str x,H,I.tok _,⟨_,rfl⟩,h⟩
def Gl (X:Cx) (x:Str):Prop:=X.env.kindOf x=some .globalImplicit
def Ma {E:Af->Aj->Prop}{pins:List (Addr×Obj)}{s:Aj}{σ:St}{H:Hp}{x:Str}{u:Af}{pos:Pos}{Q:Af->Aj->Prop} (I:Inv X pins σ H s) (hg:Gl X x) (hm:X.mg x=some u) (h:Q u s)
  (hd:(x == ("__debug__" : Str))=false:=by decide):As (Aq X.prog X.w) X.A (eval (.Name x pos) X.env) Q E s:=
 Ts I.ok.kind hg (Calls.loadGlobal_global (by rw [I.ok.glob];exact I.mod.glob.keeps I.bk) hm h) hd
def Kj {E:Af->Aj->Prop}{pins:List (Addr×Obj)}{s:Aj}{σ:St}{H:Hp}{x:Str}{u:Af}{pos:Pos}{Q:Af->Aj->Prop} (I:Inv X pins σ H s) (hg:Gl X x) (hm:X.mg x=none) (hv:Ic x=some u) (h:Q u s)
  (hn:x ≠ "__name__" := by decide) (hd:(x == ("__debug__" : Str))=false:=by decide):As (Aq X.prog X.w) X.A (eval (.Name x pos) X.env) Q E s:=by
 obtain ⟨mb,h1,h2⟩:=I.mod.blt;exact Ts I.ok.kind hg (Calls.loadGlobal_builtin (by rw [I.ok.glob];exact I.mod.glob.keeps I.bk) hm (by rw [I.ok.blt];exact h1.keeps I.bk) ((h2 x hn).trans hv) h) hd
def OH {x:Str}{v:V}{u:Af}{pos:Pos} (hg:Gl X x) (hm:X.mg x=some u) (r:RelV v u) (hd:(x == ("__debug__" : Str))=false:=by decide):PE X (.Name x pos) (tC v):=
 λ _ _ _ H _ I h=>Ma I hg hm ⟨v,H,I,r,h⟩ hd
def OG {x:Str}{v:V}{u:Af}{pos:Pos} (hg:Gl X x) (hm:X.mg x=none) (hv:Ic x=some u) (r:RelV v u) (hn:x ≠ "__name__" := by decide) (hd:(x == ("__debug__" : Str))=false:=by decide):PE X (.Name x pos) (tC v):=
 λ _ _ _ H _ I h=>Kj I hg hm hv ⟨v,H,I,r,h⟩ hn hd
variable {a b:Expr}{ta tb:TE}{pos:Pos}
def PC (X:Cx) (op:ED) (a b:Expr) (t:TE):Prop:=
 ∀ (pins:List (Addr×Obj)) (s:Aj) (σ:St) (H:Hp) (Q:VK),Inv X pins σ H s->t σ H Q ->
  As (Aq X.prog X.w) X.A (eval a X.env) (λ v s₁=>As (Aq X.prog X.w) X.A (eval b X.env) (λ u s₂=>As (Aq X.prog X.w) X.A (BU op v u) (EP X pins σ Q) X.xe s₂) X.xe s₁) X.xe s
def Gf (b:Expr) {op:ED} (h:op≠.In) (h2:op≠.NotIn):J4 op b=false:=by
 have e1:(op == CmpOp.In)=false:=by cases op <;> first | rfl | exact absurd rfl h
 have e2:(op == CmpOp.NotIn)=false:=by cases op <;> first | rfl | exact absurd rfl h2
 cases b <;> simp [J4,e1,e2]
def tB (t:TE):TT:=λ σ H Q=>t σ H λ x H1=>∃ c,x=.bl c/\Q c H1
def YL {e:Expr}{t:TE} (h:PE X e t) (he:∀ whole,isTrue e X.env whole=(do let v<-whole;standAt e.pos;holding [v] (truthy v)):=by intro _;rfl):PT X e (tB t):=by
 intro pins s σ H Q I hw;refine isTrue_plain (A3 (h pins s σ H _ I hw) λ v s1 ⟨x,H1,I1,r1,q1⟩=>?_) (he _);obtain ⟨d,rfl,q⟩:=q1;cases r1;exact Gw ⟨H1,I1,q⟩
variable {tA tB':TT}{rest:List Expr}
def Iu (t u:TT):TT:=λ σ H Q=>t σ H λ c H1=>if c=true then u σ H1 Q else Q false H1
def PL (t u:TT):TT:=λ σ H Q=>t σ H λ c H1=>if c=true then Q true H1 else u σ H1 Q
def Iq (t:TT):TT:=λ σ H Q=>t σ H λ c H1=>Q (!c) H1
theorem xa (ha:PT X a tA):PW X (.BoolOp .And [a] pos) tA:=by
 intro wh pins s σ H Q I h;refine isTrue_and (A3 (ha pins s σ H Q I h) λ c s1 e=>?_);cases c with
 | true=>exact isTrue_and_nil e
 | false=>exact e
theorem YN (ha:PT X a tA):PW X (.BoolOp .Or [a] pos) tA:=by
 intro wh pins s σ H Q I h;refine isTrue_or (A3 (ha pins s σ H Q I h) λ c s1 e=>?_);cases c with
 | false=>exact isTrue_or_nil e
 | true=>exact e
theorem YM (ha:PT X a tA) (hb:PW X (.BoolOp .And (b::rest) pos) tB'):PW X (.BoolOp .And (a::b::rest) pos) (Iu tA tB'):=by
 intro wh pins s σ H Q I h;refine isTrue_and (A3 (ha pins s σ H _ I h) λ c s1 ⟨H1,I1,q1⟩=>?_);cases c with
 | true=>exact hb wh pins s1 σ H1 Q I1 q1
 | false=>exact ⟨H1,I1,q1⟩
theorem XG (ha:PT X a tA) (hb:PW X (.BoolOp .Or (b::rest) pos) tB'):PW X (.BoolOp .Or (a::b::rest) pos) (PL tA tB'):=by
 intro wh pins s σ H Q I h;refine isTrue_or (A3 (ha pins s σ H _ I h) λ c s1 ⟨H1,I1,q1⟩=>?_);cases c with
 | true=>exact ⟨H1,I1,q1⟩
 | false=>exact hb wh pins s1 σ H1 Q I1 q1
def YK (ha:PT X a tA):PT X (.UnaryOp .Not a pos) (Iq tA):=by
 intro pins s σ H Q I h;exact isTrue_not (ha pins s σ H (λ c H1=>Q (!c) H1) I h)
def TL (ta tb:TE):TE:=λ σ H Q=>ta σ H λ x H1=>∃ c,x=.bl c/\if c=true then tb σ H1 Q else Q (.bl false) H1
def KN (ta tb:TE):TE:=λ σ H Q=>ta σ H λ x H1=>∃ c,x=.bl c/\if c=true then Q (.bl true) H1 else tb σ H1 Q
def TN (ta:TE):TE:=λ σ H Q=>ta σ H λ x H1=>∃ c,x=.bl c/\Q (.bl (!c)) H1
def Q9 {op}{t:TE} (h:PE X a t):PE X (.BoolOp op [a] pos) t:=λ pins s σ H Q I hw=>BoolOp_one (h pins s σ H Q I hw)
theorem Uv (ha:PE X a ta) (hb:PE X (.BoolOp .And (b::rest) pos) tb):PE X (.BoolOp .And (a::b::rest) pos) (TL ta tb):=by
 intro pins s σ H Q I h;refine BoolOp_and (A3 (ha pins s σ H _ I h) λ v s1 ⟨x,H1,I1,r1,q1⟩=>?_);obtain ⟨c,rfl,q1⟩:=q1;cases r1;refine Gw ?_;cases c with
 | true=>exact hb pins s1 σ H1 Q I1 q1
 | false=>exact ⟨.bl false,H1,I1,rfl,q1⟩
theorem XE (ha:PE X a ta) (hb:PE X (.BoolOp .Or (b::rest) pos) tb):PE X (.BoolOp .Or (a::b::rest) pos) (KN ta tb):=by
 intro pins s σ H Q I h;refine BoolOp_or (A3 (ha pins s σ H _ I h) λ v s1 ⟨x,H1,I1,r1,q1⟩=>?_);obtain ⟨c,rfl,q1⟩:=q1;cases r1;refine Gw ?_;cases c with
 | false=>exact hb pins s1 σ H1 Q I1 q1
 | true=>exact ⟨.bl true,H1,I1,rfl,q1⟩
def Uy (ha:PE X a ta):PE X (.UnaryOp .Not a pos) (TN ta):=by
 intro pins s σ H Q I h;refine UnaryOp_ (A3 (ha pins s σ H _ I h) λ v s1 ⟨x,H1,I1,r1,q1⟩=>?_);obtain ⟨c,rfl,q1⟩:=q1;cases r1;exact not_of (Gw ⟨.bl (!c),H1,I1,rfl,q1⟩)
end
def Cf (K:PySem.W.Frag) (H:Hp) (a:Addr) (xs:List V):Prop:=
 Rd H a (.lst xs) \/
  ∃ (o:Obj) (its:Array Af) (n:Nat),K.lookup a=some o/\o.cls=.type "list" /\ o.dict=none/\o.data=.seq its n/\its.size<=Au/\Vals xs its.toList
def Dc (K:PySem.W.Frag) (H:Hp) (a:Addr) (xs:List V):Prop:=
 Rd H a (.tup xs) \/
  ∃ (o:Obj) (its:Array Af) (n:Nat),K.lookup a=some o/\o.cls=.type "tuple" /\ o.data=.seq its n/\its.size<=Au/\Vals xs its.toList
def RY:Af->Option V
 | .none=>some .non
 | .bool b=>some (.bl b)
 | .int i _=>some (.int i)
 | .str x _=>some (.str x)
 | .bytes b _=>some (.byt b)
 | .float b _=>some (.flt b)
 | .ref a=>some (.ref a)
 | .type n=>some (.ty n)
 | _=>none
theorem RelV.abs {x:V}{u:Af} (r:RelV x u):RY u=some x:=by
 cases x with
 | non=>cases r;rfl
 | bl _=>cases r;rfl
 | int _=>obtain ⟨t,rfl⟩:=r;rfl
 | str _=>obtain ⟨t,rfl⟩:=r;rfl
 | byt _=>obtain ⟨t,rfl⟩:=r;rfl
 | flt _=>obtain ⟨t,rfl⟩:=r;rfl
 | ref _=>cases r;rfl
 | ty _=>cases r;rfl
def RelV.inj {x y:V}{u:Af} (r:RelV x u) (q:RelV y u):x=y:=Option.some.inj (r.abs.symm.trans q.abs)
theorem Vals.inj:∀ {xs ys:List V}{us:List Af},Vals xs us->Vals ys us->xs=ys
 | _,_,_,.nil,.nil=>rfl
 | _,_,_,.cons r t,.cons r' t'=>by rw [r.inj r',Vals.inj t t']
section
variable {X:Cx}{pins:List (Addr×Obj)}{σ:St}{H:Hp}{s:Aj}{a:Addr}{xs ys:List V}
def Inv.list (I:Inv X pins σ H s) (h:Cf X.K H a xs):∃ its:List Af,Vals xs its/\PlainL s.heap a its.toArray/\xs.length<=Au:=by
 rcases h with h | ⟨o,its,n,hk,hc,hd,hs,hz,r⟩
 ·obtain ⟨z,its,n,r,e⟩:=h.ok I.hok;exact ⟨its,r,⟨_,n,e,rfl,rfl,rfl⟩,z⟩
 ·refine ⟨its.toList,r,⟨o,n,I.kIn a o hk,hc,hd,by simpa using hs⟩,?_⟩;have e:=r.length;simp only [Lw] at e;omega
def Inv.tuple (I:Inv X pins σ H s) (h:Dc X.K H a xs):∃ its:List Af,Vals xs its/\IsTup s.heap a its.toArray/\xs.length<=Au:=by
 rcases h with h | ⟨o,its,n,hk,hc,hs,hz,r⟩
 ·obtain ⟨z,its,r,p⟩:=h.ok I.hok;exact ⟨its,r,p,z⟩
 ·refine ⟨its.toList,r,⟨o,I.kIn a o hk,hc,n,by simpa using hs⟩,?_⟩;have e:=r.length;simp only [Lw] at e;omega
def Inv.list_inj (I:Inv X pins σ H s) (h:Cf X.K H a xs) (h':Cf X.K H a ys):xs=ys:=by
 obtain ⟨its,r,⟨o,n,e,_,_,d⟩,_⟩:=I.list h;obtain ⟨its',r',⟨o',n',e',_,_,d'⟩,_⟩:=I.list h';rw [e] at e';cases e';rw [d] at d';injection d' with d1 _
 have:its=its':=by simpa using congrArg Wl d1
 subst this;exact r.inj r'
def Inv.tuple_inj (I:Inv X pins σ H s) (h:Dc X.K H a xs) (h':Dc X.K H a ys):xs=ys:=by
 obtain ⟨its,r,⟨o,e,_,n,d⟩,_⟩:=I.tuple h;obtain ⟨its',r',⟨o',e',_,n',d'⟩,_⟩:=I.tuple h';rw [e] at e';cases e';rw [d] at d';injection d' with d1 _
 have:its=its':=by simpa using congrArg Wl d1
 subst this;exact r.inj r'
end
abbrev Cx.wish (X:Cx) (E:Af->Aj->Prop):Cx:={ X with xe:=E }
def Cx.Ok.wish {X:Cx} (ok:X.Ok) (E:Af->Aj->Prop):(X.wish E).Ok:=
 ⟨ok.mod,ok.kind,ok.glob,ok.blt,ok.above,ok.inj,ok.has,ok.cab,ok.hd,ok.frames,ok.stk,ok.exf,ok.bs,ok.bsz,ok.noex,ok.exfs,ok.funs,ok.frf⟩
def Cx.Ok.unwish {X:Cx}{E:Af->Aj->Prop} (ok:(X.wish E).Ok):X.Ok:=
 ⟨ok.mod,ok.kind,ok.glob,ok.blt,ok.above,ok.inj,ok.has,ok.cab,ok.hd,ok.frames,ok.stk,ok.exf,ok.bs,ok.bsz,ok.noex,ok.exfs,ok.funs,ok.frf⟩
section
variable {X:Cx}{pins:List (Addr×Obj)}{σ:St}{H:Hp}{s:Aj}{E:Af->Aj->Prop}
def Inv.wish (I:Inv X pins σ H s) (E:Af->Aj->Prop):Inv (X.wish E) pins σ H s:=⟨I.ok.wish E,I.os,I.bare,I.base,I.loc,I.cell,I.free,I.freeC,I.pin,I.hok,I.len⟩
def Inv.unwish (I:Inv (X.wish E) pins σ H s):Inv X pins σ H s:=⟨I.ok.unwish,I.os,I.bare,I.base,I.loc,I.cell,I.free,I.freeC,I.pin,I.hok,I.len⟩
end
section
variable {X:Cx}{st:Stmt}{rest:List Stmt}{t u:TS}{e:Expr}{te:TE}{pos:Pos}
def TM:TS:=λ D σ H=>D.nx σ H
def KJ (t u:TS):TS:=λ D σ H=>t { D with nx:=u D } σ H
def OI:DH X [] TM:=λ _ _ σ H _ I h=>M9 ⟨σ,H,I,h⟩
theorem VN (h1:PS X st t) (h2:DH X rest u):DH X (st::rest) (KJ t u):=by
 intro pins s σ H D I h;refine OY (A3 (h1 pins s σ H { D with nx:=u D } I h) λ f s1 q=>?_);cases f with
 | next=>
  obtain ⟨σ',H',I',q⟩:=q;exact h2 pins s1 σ' H' D I' q
 | ret v=>exact q
 | brk=>exact q
 | cont=>exact q
theorem Kf (h1:PS X st t):DH X [st] t:=by
 intro pins s σ H D I h;refine OY (A3 (h1 pins s σ H D I h) λ f s1 q=>?_);cases f with
 | next=>exact M9 q
 | ret v=>exact q
 | brk=>exact q
 | cont=>exact q
def Inv.quiet {pins:List (Addr×Obj)}{σ:St}{H:Hp}{s:Aj} (I:Inv X pins σ H s):interactive X.env=false:=by simp [interactive,I.ok.kind]
def Li (te:TE):TS:=λ D σ H=>te σ H λ _ H1=>D.nx σ H1
def Mg (he:PE X e te) (hs:Ky e none pos.line X.env=pure false:=by rfl):PS X (.Expr e pos) (Li te):=by
 intro pins s σ H D I h;exact wpAny_Expr_any (A3 (he pins s σ H _ I h) λ v s1 ⟨x,H1,I1,r1,q1⟩=>⟨σ,H1,I1,q1⟩) I.quiet hs
def Io (te:TE):TS:=λ D σ H=>te σ H D.rt
def U8 (he:PE X e te):PS X (.Return (some e) pos) (Io te):=by
 intro pins s σ H D I h;exact wpAny_Return_some (A3 (he pins s σ H _ I h) λ v s1 ⟨x,H1,I1,r1,q1⟩=>⟨x,σ,H1,I1,r1,q1⟩)
def Ir (c:TT) (t u:TS):TS:=λ D σ H=>c σ H λ b H1=>if b=true then t D σ H1 else u D σ H1
theorem TK {c:Expr}{a b:List Stmt}{tc:TT} (hc:PT X c tc) (ha:DH X a t) (hb:DH X b u):PS X (.If c a b pos) (Ir tc t u):=by
 intro pins s σ H D I h;refine wpAny_If (A3 (hc pins s σ H _ I h) λ d s1 ⟨H1,I1,q1⟩=>?_);cases d with
 | true=>exact ha pins s1 σ H1 D I1 q1
 | false=>exact hb pins s1 σ H1 D I1 q1
def Nw:TS:=λ _ _ _=>False
def Oy:PS X st Nw:=λ _ _ _ _ _ _ h=>h.elim
end
abbrev TG:=V->St->Hp->(St->Hp->Prop)->Prop
abbrev HI:=List V->St->Hp->(St->Hp->Prop)->Prop
def PG (X:Cx) (target:Expr) (t:TG):Prop:=
 ∀ (pins:List (Addr×Obj)) (s:Aj) (σ:St) (H:Hp) (v:V) (u:Af) (Q:St->Hp->Prop),Inv X pins σ H s->RelV v u->t v σ H Q ->
  As (Aq X.prog X.w) X.A (EE target X.env u) (λ _ s'=>∃ σ' H',Inv X pins σ' H' s'/\Q σ' H') X.xe s
def JO (X:Cx) (ts:List Expr) (t:HI):Prop:=
 ∀ (pins:List (Addr×Obj)) (s:Aj) (σ:St) (H:Hp) (vs:List V) (us:List Af) (Q:St->Hp->Prop),Inv X pins σ H s->Vals vs us->t vs σ H Q ->
  As (Aq X.prog X.w) X.A (assignInOrder ((Ez ts X.env).map (·.2)) us) (λ _ s'=>∃ σ' H',Inv X pins σ' H' s'/\Q σ' H') X.xe s
abbrev EU:=V->V->V->Hp->(Hp->Prop)->Prop
def PSet (X:Cx) (t:EU):Prop:=
 ∀ (pins:List (Addr×Obj)) (s:Aj) (σ:St) (H:Hp) (o i v:V) (ov iv u:Af) (Q:Hp->Prop),Inv X pins σ H s->RelV o ov->RelV i iv->RelV v u->t o i v H Q ->
  As (Aq X.prog X.w) X.A (setItem ov iv u) (λ _ s'=>∃ H',Inv X pins σ H' s'/\Q H') X.xe s
section
variable {X:Cx}{pos:Pos}
def Es (i:Nat):TG:=λ v σ H Q=>Q (σ.set i (some v)) H
def Kd {i:Nat}{x:Str} (hN:X.N.Nodup) (hi:X.N[i]?=some x) (hx:Ej X.env.scope x) (hf:X.fn x=true\/X.env.scope.names.lookup x=some .local:=by first | exact .inl rfl | exact .inr rfl | assumption):PG X (.Name x pos) (Es i):=by
 intro pins s σ H v u Q I r h;exact Pg (Oh I hN hi hx r (λ s' I'=>⟨_,H,I',h⟩) hf)
def Lz:HI:=λ vs σ H Q=>vs=[]/\Q σ H
def T6 (t:TG) (u:HI):HI:=λ vs σ H Q=>∃ v r,vs=v::r/\t v σ H λ σ' H'=>u r σ' H' Q
def Vc:JO X [] Lz:=by
 intro pins s σ H vs us Q I r h;obtain ⟨e,h⟩:=h;subst e;cases r;exact assignInOrder_nil ⟨σ,H,I,h⟩
theorem VM {e:Expr}{es:List Expr}{t:TG}{u:HI} (h1:PG X e t) (h2:JO X es u)
  (hs:(Ez (e::es) X.env).map (·.2)=EE e X.env::(Ez es X.env).map (·.2):=by rfl):JO X (e::es) (T6 t u):=by
 intro pins s σ H vs us Q I r h;obtain ⟨v,vr,e1,h⟩:=h;subst e1;cases r with
 | cons r rr=>
  rw [hs];refine assignInOrder_cons (A3 (h1 pins s σ H _ _ _ I r h) λ _ s1 ⟨σ1,H1,I1,q1⟩=>?_);exact h2 pins s1 σ1 H1 _ _ Q I1 rr q1
def IM (K:PySem.W.Frag) (n:Nat) (t:HI):TG:=λ v σ H Q=>∃ a xs,v=.ref a/\Dc K H a xs/\xs.length=n/\t xs σ H Q
def QB {es:List Expr}{k:Nat}{t:HI}{n:Nat} (hc:X.calm=true) (h:JO X es t)
  (hn:(Ez es X.env).length=n:=by rfl) (hst:(Ez es X.env).findIdx? (·.1)=none:=by rfl):PG X (.Tuple es k pos) (IM X.K n t):=by
 intro pins s σ H v u Q I r hw;obtain ⟨a,xs,e1,hq,hl,hw⟩:=hw;subst e1;cases r;obtain ⟨its,rv,ht,hz⟩:=I.tuple hq;refine assign_Tuple_tuple (I.ok.hd hc) ht (by simp [hn,<- hl,rv.length]) hst λ h' hx=>?_;have I1:Inv X pins σ H { s with heap:=h' }:=I.kept (t':=s.toks) λ b o e=>hx b o (BM (Bl e)) e;exact h pins _ σ H xs _ Q I1 (by simpa using rv) hw
def Ly (to ti:TE) (t:EU):TG:=λ v σ H Q=>to σ H λ o H1=>ti σ H1 λ i H2=>t o i v H2 λ H3=>Q σ H3
def YF {o i:Expr}{to ti:TE}{t:EU} (ho:PE X o to) (hi:PE X i ti) (hs:PSet X t)
  (ha:∀ v,EE (.Subscript o i pos) X.env v=(do
   let ov<-holding [v] (eval o X.env);let iv<-holding [v,ov] (eval i X.env)
   standAt pos
   holding [v,ov,iv] (setItem ov iv v)
   release [v,ov,iv] []):=by intro _;rfl):PG X (.Subscript o i pos) (Ly to ti t):=by
 intro pins s σ H v u Q I r h;rw [ha];refine AA (GV (A3 (ho pins s σ H _ I h) λ ov s1 ⟨x,H1,I1,r1,q1⟩=>?_));refine AA (GV (A3 (hi pins s1 σ H1 _ I1 q1) λ iv s2 ⟨y,H2,I2,r2,q2⟩=>?_));refine AA (J5 (AA (GV (A3 (hs pins s2 σ H2 x y v ov iv u _ I2 r1 r2 r q2) λ _ s3 ⟨H3,I3,q3⟩=>?_))));exact wpAny_release ⟨σ,H3,I3,q3⟩
def DA (te:TE) (g:TG):TS:=λ D σ H=>te σ H λ x H1=>g x σ H1 D.nx
def U6 {tg e:Expr}{te:TE}{g:TG} (he:PE X e te) (hg:PG X tg g) (hs:swapsWithSole [tg] e pos.line X.env=pure false:=by rfl) (hw:swappedStores [tg] e X.env=pure none:=by rfl)
  (h1:(Ez [tg] X.env).map (·.2)=[EE tg X.env]:=by rfl):PS X (.Assign [tg] e pos) (DA te g):=by
 intro pins s σ H D I h;refine wpAny_Assign_stores (A3 (he pins s σ H _ I h) λ v s1 ⟨x,H1,I1,r1,q1⟩=>?_) hs hw;rw [h1];exact A3 (hg pins s1 σ H1 x v _ I1 r1 q1) λ _ s2 q=>q
def Kk {i:Nat}{x:Str}{e:Expr}{te:TE}{pos':Pos} (hN:X.N.Nodup) (hi:X.N[i]?=some x) (hx:Ej X.env.scope x) (he:PE X e te) (hs:Ky e (some (.Name x pos')) pos.line X.env=pure false:=by rfl) (hf:X.fn x=true\/X.env.scope.names.lookup x=some .local:=by first | exact .inl rfl | exact .inr rfl | assumption):
  PS X (.Assign [.Name x pos'] e pos) (DA te (Es i)):=by
 intro pins s σ H D I h;refine wpAny_Assign_Name (A3 (he pins s σ H _ I h) λ v s1 ⟨y,H1,I1,r1,q1⟩=>?_) hs;exact Oh I1 hN hi hx r1 (λ s2 I2=>⟨_,H1,I2,q1⟩) hf
end
section
variable {X:Cx}{pos:Pos}
end
structure It where
 go:Nat->Hp->Prop
 yld:Nat->Hp->V->Hp->Prop
 stop:Nat->Hp->Prop
def BZ (X:Cx) (pins:List (Addr×Obj)) (H:Hp) (b:Addr):Prop:=
 H b=none/\b≠X.env.locals/\b∉X.fs/\(b∈X.ex\/X.s₀.heap.objs.size<=b)/\(∀ x c,X.env.cells.lookup x=some c->c≠b)/\∀ p∈X.pn++pins,p.1≠b
def Inv.fpOk {X:Cx}{pins:List (Addr×Obj)}{σ:St}{H H':Hp}{s:Aj}{b:Addr} (I:Inv X pins σ H s) (hb:s.heap.objs.size<=b) (hn:H' b=none):BZ X pins H' b:=by
 refine ⟨hn,Fh (Bm I.lt hb),I.nofs hb,.inr (BH I.sz hb),λ x c e z=>?_,λ p hp z=>?_⟩
 ·obtain ⟨v,q⟩:=I.cell x c e;exact absurd (Bm q.lt (by rw [z];exact hb)) (Ed _)
 ·exact absurd (Bm (Bl (I.pin p hp).1) (by rw [z];exact hb)) (Ed _)
structure Turn (P:A7) (w:A6) (K:PySem.W.Frag) (tg:Expr) (J:It) (fp:List Addr) (it:Addr) (tn:Nat->Heap->Prop):Prop where
 mem:it∈fp
 obj:∀ i h,tn i h->∀ b∈fp,∃ o,h.get? b=some o/\∀ v,o.data≠.cell v
 keep:∀ i h h',tn i h->(∀ b∈fp,∀ o,h.get? b=some o->h'.get? b=some o)->tn i h'
 item:∀ (X:Cx),X.prog=P->X.w=w->X.K=K->X.calm=true->∀ (i:Nat) (pins:List (Addr×Obj)) (s:Aj) (σ:St) (H:Hp) (E:Af->Aj->Prop),Inv X pins σ H s->(∀ b∈fp,BZ X pins H b)->tn i s.heap->J.go i H ->
  As (Aq P w) X.A (pyNext (.ref it)) (λ r s1=>∃ u,r=some u /\
   As (Aq P w) X.A (K7 tg (.ref it) u) (λ _ s2=>∃ x H',Inv X pins σ H' s2/\RelV x u/\J.yld i H x H'/\tn (i + 1) s2.heap/\∀ b∈fp,H' b=none) E s1) E s
 done:∀ (X:Cx),X.prog=P->X.w=w->X.K=K->X.calm=true->∀ (i:Nat) (pins:List (Addr×Obj)) (s:Aj) (σ:St) (H:Hp) (E:Af->Aj->Prop),Inv X pins σ H s->(∀ b∈fp,BZ X pins H b)->tn i s.heap->J.stop i H ->
  As (Aq P w) X.A (pyNext (.ref it)) (λ r s1=>r=none/\Inv X pins σ H s1) E s
 self:∀ (A:AZ) (i:Nat) (s:Aj) (Q:Af->Aj->Prop) (E:Af->Aj->Prop),tn i s.heap->Q (.ref it) s->As (Aq P w) A (pyIter (.ref it)) Q E s
abbrev TI:=St->Hp->(It->Hp->Prop)->Prop
def WQ (X:Cx) (pins:List (Addr×Obj)) (σ:St) (tg:Expr) (R:It->Hp->Prop) (itv:Af) (s2:Aj):Prop:=
 ∃ (it:Addr) (fp:List Addr) (tn:Nat->Heap->Prop) (J:It) (H':Hp),itv=.ref it/\Inv X pins σ H' s2/\Turn X.prog X.w X.K tg J fp it tn/\tn 0 s2.heap/\(∀ b∈fp,BZ X pins H' b)/\R J H'
def PI (X:Cx) (tg iter:Expr) (wi:TI):Prop:=
 ∀ (pins:List (Addr×Obj)) (s:Aj) (σ:St) (H:Hp) (R:It->Hp->Prop),Inv X pins σ H s->wi σ H R ->
  As (Aq X.prog X.w) X.A (eval iter X.env) (λ v s1=>As (Aq X.prog X.w) X.A (pyIter v) (WQ X pins σ tg R) X.xe s1) X.xe s
def Ni {M:Model}{A:AZ}{E:Af->Aj->Prop}{s:Aj}{tg:Expr}{it:Addr}{u:Af}{o:Obj}{n:String}{vs:Array Af}{Q:Unit->Aj->Prop} (ho:s.heap.get? it=some o) (hc:o.cls=.type n) (hd:o.data=.fields vs)
  (hn:["enumerate","zip","dict_itemiterator","dict_reverseitemiterator","odict_iterator","itertools.zip_longest","itertools.pairwise"].contains n=false) (hQ:Q () s):As M A (K7 tg (.ref it) u) Q E s:=by
 unfold K7;cases tg <;> first
  | exact Bq hQ
  | (cases u <;> first
    | exact Bq hQ
    | (refine AA (wpAny_load ho ?_);rw [hc,hd];show As M A (if (["enumerate","zip","dict_itemiterator","dict_reverseitemiterator","odict_iterator","itertools.zip_longest","itertools.pairwise"].contains n && vs[0]? == some (rawInt _))=true then _ else _) Q E s;rw [if_neg (by intro h;rw [hn,EM] at h;cases h)];exact Bq hQ))
def WS (K:PySem.W.Frag) (a:Addr):It:=
 ⟨λ i H=>∃ xs x,Cf K H a xs/\xs[i]?=some x,λ i H x H'=>H'=H/\∀ xs,Cf K H a xs->xs[i]?=some x,λ i H=>∃ xs,Cf K H a xs/\xs.length<=i⟩
def WR (K:PySem.W.Frag) (a:Addr):It:=
 ⟨λ i H=>∃ xs x,Dc K H a xs/\xs[i]?=some x,λ i H x H'=>H'=H/\∀ xs,Dc K H a xs->xs[i]?=some x,λ i H=>∃ xs,Dc K H a xs/\xs.length<=i⟩
def GC (lo:Int) (n:Nat):It:=⟨λ i _=>i < n,λ i H x H'=>H'=H/\x=.int (lo + i),λ i _=>n<=i⟩
def jC {P:A7}{w:A6}{K:PySem.W.Frag}{tg:Expr} (a it:Addr):Turn P w K tg (WS K a) [it] it (λ i h=>h.IsListIter it a i) where
 mem:=by simp
 obj:=λ i h st b hb=>by
  have e:b=it:=by simpa using hb
  subst e;obtain ⟨o,e,c,d⟩:=st;exact ⟨o,e,λ v z=>by rw [d] at z;cases z⟩
 keep:=λ i h h' st k=>st.at λ o e=>k it (by simp) o e
 item:=by
  intro X hP hw hK hc i pins s σ H E I hf st hg;subst hP hw hK;obtain ⟨xs,x,hq,hx⟩:=hg;obtain ⟨its,rv,p,hz⟩:=I.list hq;obtain ⟨u,hu,ru⟩:=rv.get hx;obtain ⟨f0,f1,f2,f3,f4,f5⟩:=hf it (by simp);refine wpAny_pyNext_list_item st p.isList (x:=u) (by simpa using hu) λ h' st' sb=>?_;have I1:Inv X pins σ H { s with heap:=h' }:=I.turned (t':=s.toks) (λ b o hb e=>(sb.2 b hb).trans e) f0 f1 f3 f4 f5;obtain ⟨o,e,c,d⟩:=id st';exact ⟨u,rfl,Ni (s:={ s with heap:=h' }) e c d (by decide) ⟨x,H,I1,ru,⟨rfl,λ ys hy=>by rw [I.list_inj hy hq];exact hx⟩,st',λ b hb=>(hf b hb).1⟩⟩
 done:=by
  intro X hP hw hK hc i pins s σ H E I hf st hg;subst hP hw hK;obtain ⟨xs,hq,hx⟩:=hg;obtain ⟨its,rv,p,hz⟩:=I.list hq;obtain ⟨f0,f1,f2,f3,f4,f5⟩:=hf it (by simp);have hl:=rv.length;exact wpAny_pyNext_list_end (I.ok.hd hc) st p.isList (by simp;omega) λ h' eb=>⟨rfl,I.turned (t':=s.toks) (λ b o hb e=>eb b o hb e) f0 f1 f3 f4 f5⟩
 self:=λ _ _ _ _ _ st h=>wpAny_pyIter_listiter st h
def jU {P:A7}{w:A6}{K:PySem.W.Frag}{tg:Expr} (a it:Addr):Turn P w K tg (WR K a) [it] it (λ i h=>h.IsTupleIter it a i) where
 mem:=by simp
 obj:=λ i h st b hb=>by
  have e:b=it:=by simpa using hb
  subst e;obtain ⟨o,e,c,d⟩:=st;exact ⟨o,e,λ v z=>by rw [d] at z;cases z⟩
 keep:=λ i h h' st k=>st.at λ o e=>k it (by simp) o e
 item:=by
  intro X hP hw hK hc i pins s σ H E I hf st hg;subst hP hw hK;obtain ⟨xs,x,hq,hx⟩:=hg;obtain ⟨its,rv,p,hz⟩:=I.tuple hq;obtain ⟨u,hu,ru⟩:=rv.get hx;obtain ⟨f0,f1,f2,f3,f4,f5⟩:=hf it (by simp);refine wpAny_pyNext_tuple_item st (show s.heap.IsTuple a its.toArray from p) (x:=u) (by simpa using hu) λ h' st' sb=>?_;have I1:Inv X pins σ H { s with heap:=h' }:=I.turned (t':=s.toks) (λ b o hb e=>(sb.2 b hb).trans e) f0 f1 f3 f4 f5;obtain ⟨o,e,c,d⟩:=id st';exact ⟨u,rfl,Ni (s:={ s with heap:=h' }) e c d (by decide) ⟨x,H,I1,ru,⟨rfl,λ ys hy=>by rw [I.tuple_inj hy hq];exact hx⟩,st',λ b hb=>(hf b hb).1⟩⟩
 done:=by
  intro X hP hw hK hc i pins s σ H E I hf st hg;subst hP hw hK;obtain ⟨xs,hq,hx⟩:=hg;obtain ⟨its,rv,p,hz⟩:=I.tuple hq;obtain ⟨f0,f1,f2,f3,f4,f5⟩:=hf it (by simp);have hl:=rv.length;exact wpAny_pyNext_tuple_end (I.ok.hd hc) st (show s.heap.IsTuple a its.toArray from p) (by simp;omega) λ h' eb=>⟨rfl,I.turned (t':=s.toks) (λ b o hb e=>eb b o hb e) f0 f1 f3 f4 f5⟩
 self:=λ _ _ _ _ _ st h=>wpAny_pyIter_tupleiter st h
def jT {P:A7}{w:A6}{K:PySem.W.Frag}{tg:Expr} (it:Addr) (lo:Int) (n:Nat):Turn P w K tg (GC lo n) [it] it (λ i h=>IsRangeIter h it (lo + (i:Nat) * 1) ((n:Int) - (i:Nat)) 1) where
 mem:=by simp
 obj:=λ i h st b hb=>by
  have e:b=it:=by simpa using hb
  subst e;exact ⟨_,st,λ v z=>by
   have z':Data.fields _=Data.cell v:=z;cases z'⟩
 keep:=λ i h h' st k=>k it (by simp) _ st
 item:=by
  intro X hP hw hK hc i pins s σ H E I hf st hg;subst hP hw hK;obtain ⟨f0,f1,f2,f3,f4,f5⟩:=hf it (by simp);have W:=Walks.range (prog:=X.prog) (w:=X.w) (I.ok.hd hc) it lo 1 n;refine W.item i s _ _ hg st λ v h' tk hv st' kk=>?_;obtain ⟨t,rfl⟩:=hv;have I1:Inv X pins σ H { s with heap:=h',toks:=tk }:=I.turned (λ b o hb e=>kk b o (by simpa using hb) e) f0 f1 f3 f4 f5;refine ⟨_,rfl,Ni (s:={ s with heap:=h',toks:=tk }) (n := "range_iterator") st' rfl rfl (by decide) ⟨.int (lo + i),H,I1,⟨t,?_⟩,⟨rfl,rfl⟩,st',λ b hb=>(hf b hb).1⟩⟩;rw [Int.mul_one]
 done:=by
  intro X hP hw hK hc i pins s σ H E I hf st hg;subst hP hw hK;obtain ⟨f0,f1,f2,f3,f4,f5⟩:=hf it (by simp);exact wpAny_pyNext_range_end (I.ok.hd hc) st (by have:n<=i:=hg;omega) λ h' eb=>⟨rfl,I.turned (t':=s.toks) (λ b o hb e=>eb b o hb e) f0 f1 f3 f4 f5⟩
 self:=λ _ _ _ _ _ st h=>wpAny_pyIter_rangeiter st h
section
variable {X:Cx}{tg:Expr}
def VP {pins:List (Addr×Obj)}{σ:St}{H:Hp}{s:Aj}{R:It->Hp->Prop}{E:Af->Aj->Prop}{lo hi:Int}{t u v:Tok}{tk:Nat} (I:Inv X pins σ H s) (h1:-(2 ^ 62)<=lo) (h2:lo < 2 ^ 62) (h3:-(2 ^ 62)<=hi) (h4:hi < 2 ^ 62)
  (q:R (GC lo (hi - lo).toNat) H):As (Aq X.prog X.w) X.A (pyIter (.ref s.heap.objs.size)) (WQ X pins σ tg R) E { s with heap:=s.heap.push { cls:=.type "range",data:=.fields #[.int lo t,.int hi u,.int 1 v] },toks:=tk }:=by
 refine wpAny_pyIter_range (IsRange.new ..) (small_one h1 h2 h3 h4) ?_;have I1:Inv X pins σ H { s with heap:=s.heap.push { cls:=.type "range",data:=.fields #[.int lo t,.int hi u,.int 1 v] },toks:=tk }:=I.kept λ b o e=>CL _ e;refine ⟨(s.heap.push { cls:=.type "range",data:=.fields #[.int lo t,.int hi u,.int 1 v] }).objs.size,[(s.heap.push { cls:=.type "range",data:=.fields #[.int lo t,.int hi u,.int 1 v] }).objs.size],_,_,H,rfl,
  I1.kept (t':=tk) λ b o e=>CL _ e,jT _ lo (hi - lo).toNat,?_,λ b hb=>?_,q⟩
 ·have e1:lo + ((0:Nat):Int) * 1=lo:=by simp
  have e2:(((hi - lo).toNat:Nat):Int) - ((0:Nat):Int)=Builtin.Range.rangeSize lo hi 1:=by rw [rangeSize_one];split <;> omega
  show IsRangeIter _ _ (lo + ((0:Nat):Int) * 1) ((((hi - lo).toNat:Nat):Int) - ((0:Nat):Int)) 1;rw [e1,e2];exact Ea _ rfl
 ·have e:b=(s.heap.push { cls:=.type "range",data:=.fields #[.int lo t,.int hi u,.int 1 v] }).objs.size:=by simpa using hb
  subst e;exact I1.fpOk (AS _) (I1.hok.fresh (AS _))
def Nj (ta:TA):TI:=λ σ H R=>ta σ H λ vs H1=>∃ j:Int,vs=[.int j]/\-(2 ^ 62)<=j/\j < 2 ^ 62/\R (GC 0 j.toNat) H1
def Nk (ta:TA):TI:=λ σ H R=>ta σ H λ vs H1=>∃ i j:Int,vs=[.int i,.int j]/\(-(2 ^ 62)<=i/\i < 2 ^ 62/\-(2 ^ 62)<=j/\j < 2 ^ 62)/\R (GC i (j - i).toNat) H1
theorem jx {a:Expr}{ta:TA}{p pos:Pos} (hg:Gl X "range") (hm:X.mg "range" = none) (ha:PA X [a] ta) (hs:A5 [a] X.env=[(false,eval a X.env)]:=by rfl):PI X tg (.Call (.Name "range" p) [a] [] pos) (Nj ta):=by
 intro pins s σ H R I h;refine Call_ (Kj I hg hm boot_range (PF (A3 (ha pos pins s σ H _ I h) λ us s1 ⟨vs,H1,I1,r1,q1⟩=>?_) hs rfl));obtain ⟨j,e,q1,q2,q⟩:=q1;subst e;cases r1 with
 | cons r rr=>
  cases rr;obtain ⟨t,rfl⟩:=r;exact call_range_1 (VP I1 (by omega) (by omega) q1 q2 (by simpa using q))
theorem jy {a b:Expr}{ta:TA}{p pos:Pos} (hg:Gl X "range") (hm:X.mg "range" = none) (ha:PA X [a,b] ta) (hs:A5 [a,b] X.env=[(false,eval a X.env),(false,eval b X.env)]:=by rfl) (hs2:A5 [b] X.env=[(false,eval b X.env)]:=by rfl):
  PI X tg (.Call (.Name "range" p) [a,b] [] pos) (Nk ta):=by
 intro pins s σ H R I h;refine Call_ (Kj I hg hm boot_range (PF (A3 (ha pos pins s σ H _ I h) λ us s1 ⟨vs,H1,I1,r1,q1⟩=>?_) (by rw [hs,hs2]) (by rw [hs2];rfl)));obtain ⟨i,j,e,⟨q1,q2,q3,q4⟩,q⟩:=q1;subst e;cases r1 with
 | cons r rr=>
  cases rr with
  | cons r' rr=>
   cases rr;obtain ⟨t,rfl⟩:=r;obtain ⟨t',rfl⟩:=r';exact call_range_2 (VP I1 q1 q2 q3 q4 q)
def GY (wi:TI) (g:TG) (tb:TS):TS:=λ D σ H=>wi σ H λ J H1=>∃ W:Nat->Nat->St->Hp->Prop,(∃ m,W 0 m σ H1)/\∀ i m σ H,W i m σ H ->
 (J.stop i H/\D.nx σ H)\/(J.go i H/\∃ N:St->Hp->Prop,(∀ σ' H',N σ' H'->∃ m',m' < m/\W (i + 1) m' σ' H')/\∀ x H',J.yld i H x H'->g x σ H' λ σ2 H2=>tb { D with nx:=N,ct:=N,bk:=D.nx } σ2 H2)
def Jp (fp:List Addr) (h:Heap):List (Addr×Obj):=fp.filterMap λ b=>(h.get? b).map λ o=>(b,o)
def Ja {fp:List Addr}{h:Heap}{b:Addr}{o:Obj} (hb:b∈fp) (e:h.get? b=some o):(b,o)∈Jp fp h:=jh7.mpr ⟨b,hb,by rw [e];rfl⟩
theorem j9 {fp:List Addr}{h:Heap}{p:Addr×Obj} (hp:p∈Jp fp h):p.1∈fp/\h.get? p.1=some p.2:=by
 obtain ⟨b,hb,e⟩:=jh7.mp hp;cases q:h.get? b with
 | none=>rw [q] at e;cases e
 | some o=>
  rw [q] at e;have e':(b,o)=p:=Option.some.inj e;subst e';exact ⟨hb,q⟩
def Inv.pinned {pins:List (Addr×Obj)}{σ:St}{H:Hp}{s:Aj}{fp:List Addr} (I:Inv X pins σ H s) (hf:∀ b∈fp,BZ X pins H b) (ho:∀ b∈fp,∃ o,s.heap.get? b=some o/\∀ v,o.data≠.cell v):Inv X (pins++Jp fp s.heap) σ H s:=
 I.pins_of λ p hp=>(jc4.mp hp).elim (λ z=>I.pin p (Bj _ z)) λ z=>by
  obtain ⟨hb,e⟩:=j9 z;obtain ⟨f0,f1,f2,_⟩:=hf p.1 hb;obtain ⟨o,e',d⟩:=ho p.1 hb;rw [e] at e';cases e';exact ⟨e,f0,f1,f2,d⟩
def Inv.unpinned {pins pl:List (Addr×Obj)}{σ:St}{H:Hp}{s:Aj} (I:Inv X (pins++pl) σ H s):Inv X pins σ H s:=I.pins_of λ p hp=>I.pin p (Bj _ (BC _ hp))
def Jq {iter:Expr}{body:List Stmt}{wi:TI}{g:TG}{tb:TS}{pos:Pos} (hp:Ia (Aq X.prog X.w) X.A X.env X.xe) (hc:X.calm=true) (hi:PI X tg iter wi) (hg:PG X tg g) (hb:DH X body tb)
  (hs:∀ x,Ij iter X.env x=pure x:=by intro _;rfl):PS X (.For tg iter body [] pos) (GY wi g tb):=by
 intro pins s σ H D I h;refine wpAny_For (A3 (hi pins s σ H _ I h) λ v s1 h1=>A3 h1 λ itv s2 h2=>?_) hs;obtain ⟨it,fp,tn,J,H2,e,I2,T,st2,f2,W,⟨m0,w0⟩,turn⟩:=h2;subst e;have stat:∀ {H':Hp},(∀ b∈fp,H' b=none)->∀ b∈fp,BZ X pins H' b:=λ hn b hb=>⟨hn b hb,(f2 b hb).2⟩
 refine codeAny_forLoop_any (λ n s'=>∃ i σ' H',Inv X pins σ' H' s'/\tn i s'.heap/\(∀ b∈fp,H' b=none)/\W i n σ' H') ?_ m0 ⟨0,σ,H2,I2,st2,λ b hb=>(f2 b hb).1,w0⟩;rintro n s3 ⟨i,σ3,H3,I3,st3,fr3,w3⟩;rcases turn i n σ3 H3 w3 with ⟨stop,qn⟩ | ⟨go,N,hN,step⟩
 ·refine K9 hp (A3 (T.done X rfl rfl rfl hc i pins s3 σ3 H3 X.xe I3 (stat fr3) st3 stop) λ r s4 ⟨hr,I4⟩=>?_);subst hr;exact M9 ⟨σ3,H3,I4,qn⟩
 ·refine K9 hp (A3 (T.item X rfl rfl rfl hc i pins s3 σ3 H3 X.xe I3 (stat fr3) st3 go) λ r s4 ⟨u,hr,h4⟩=>?_);subst hr;refine K9 hp (A3 h4 λ _ s5 ⟨x,H5,I5,r5,y5,st5,fr5⟩=>?_);have I5':=I5.pinned (stat fr5) (T.obj _ _ st5);refine K9 hp (A3 (hg _ s5 σ3 H5 x u _ I5' r5 (step x H5 y5)) λ _ s6 ⟨σ6,H6,I6,q6⟩=>?_);refine K9 hp (A3 (hb _ s6 σ6 H6 _ I6 q6) λ f s7 q7=>?_);have again:∀ {σ7:St}{H7:Hp},Inv X (pins++Jp fp s5.heap) σ7 H7 s7->N σ7 H7->∃ m,m < n/\∃ i σ' H',Inv X pins σ' H' s7/\tn i s7.heap/\(∀ b∈fp,H' b=none)/\W i m σ' H':=λ {σ7 H7} I7 n7=>by
   obtain ⟨m',hm,w7⟩:=hN σ7 H7 n7;refine ⟨m',hm,i + 1,σ7,H7,I7.unpinned,T.keep _ _ _ st5 λ b hb o e=>(I7.pin (b,o) (Bj _ (Bj _ (Ja hb e)))).1,λ b hb=>?_,w7⟩;obtain ⟨o,e,d⟩:=T.obj _ _ st5 b hb;exact (I7.pin (b,o) (Bj _ (Bj _ (Ja hb e)))).2.1
  cases f with
  | next=>obtain ⟨σ7,H7,I7,n7⟩:=q7;exact again I7 n7
  | cont=>obtain ⟨σ7,H7,I7,n7⟩:=q7;exact again I7 n7
  | brk=>obtain ⟨σ7,H7,I7,q7⟩:=q7;exact ⟨σ7,H7,I7.unpinned,q7⟩
  | ret v=>obtain ⟨x7,σ7,H7,I7,r7,q7⟩:=q7;exact ⟨x7,σ7,H7,I7.unpinned,r7,q7⟩
end
abbrev R2:=V->V->Hp->VK->Prop
def OpR (X:Cx) (f:Af->Af->Sem Af) (r:R2):Prop:=
 ∀ (pins:List (Addr×Obj)) (s:Aj) (σ:St) (H:Hp) (x y:V) (v u:Af) (Q:VK),Inv X pins σ H s->RelV x v->RelV y u->r x y H Q ->
  As (Aq X.prog X.w) X.A (f v u) (EP X pins σ Q) X.xe s
def RZ (X:Cx) (f:Af->Sem Af) (r:V->Hp->VK->Prop):Prop:=
 ∀ (pins:List (Addr×Obj)) (s:Aj) (σ:St) (H:Hp) (x:V) (v:Af) (Q:VK),Inv X pins σ H s->RelV x v->r x H Q ->
  As (Aq X.prog X.w) X.A (f v) (EP X pins σ Q) X.xe s
def zzr (X:Cx) (f:Af) (r:List V->Hp->VK->Prop):Prop:=
 ∀ (pins:List (Addr×Obj)) (s:Aj) (σ:St) (H:Hp) (xs:List V) (us:List Af) (Q:VK),Inv X pins σ H s->Vals xs us->r xs H Q ->
  As (Aq X.prog X.w) X.A (call f us) (EP X pins σ Q) X.xe s
def Ip (r:R2) (ta tb:TE):TE:=λ σ H Q=>ta σ H λ x H1=>tb σ H1 λ y H2=>r x y H2 Q
def Tv (r:V->Hp->VK->Prop) (ta:TE):TE:=λ σ H Q=>ta σ H λ x H1=>r x H1 Q
def rI (C:Int->Int->Prop) (g:Int->Int->V):R2:=λ x y H Q=>∃ i j,x=.int i/\y=.int j/\C i j/\Q (g i j) H
def Fe (g:Int->Int->V):R2:=λ x y H Q=>∃ i j,x=.int i/\y=.int j/\Q (g i j) H
def rU (g:Int->V):V->Hp->VK->Prop:=λ x H Q=>∃ i,x=.int i/\Q (g i) H
section
variable {X:Cx}{a b c:Expr}{ta tb tc:TE}{pos:Pos}
def IU (ha:PE X a ta) (hb:PE X b tb) {pins:List (Addr×Obj)}{s:Aj}{σ:St}{H:Hp}{R:V->V->Hp->Prop} (I:Inv X pins σ H s)
  (h:ta σ H λ x H1=>tb σ H1 λ y H2=>R x y H2) {Q:Af->Aj->Prop}{f:Af->Af->Sem Af}
  (hf:∀ v u s2 x y H2,Inv X pins σ H2 s2->RelV x v->RelV y u->R x y H2->As (Aq X.prog X.w) X.A (f v u) Q X.xe s2):
  As (Aq X.prog X.w) X.A (eval a X.env) (λ v s₁=>As (Aq X.prog X.w) X.A (eval b X.env) (λ u s₂=>As (Aq X.prog X.w) X.A (f v u) Q X.xe s₂) X.xe s₁) X.xe s:=by
 refine A3 (ha pins s σ H _ I h) λ v s1 ⟨x,H1,I1,r1,q1⟩=>?_;refine A3 (hb pins s1 σ H1 _ I1 q1) λ u s2 ⟨y,H2,I2,r2,q2⟩=>?_;exact hf v u s2 x y H2 I2 r1 r2 q2
def Nh {op:Operator}{r:R2} (ho:OpR X (DX op) r) (ha:PE X a ta) (hb:PE X b tb):PE X (.BinOp a op b pos) (Ip r ta tb):=by
 intro pins s σ H Q I h;exact wpAny_BinOp (IU ha hb I h λ v u s2 x y H2 I2 rx ry q=>ho pins s2 σ H2 x y v u Q I2 rx ry q)
def XF {op:UnaryOp}{r:V->Hp->VK->Prop} (ho:RZ X (unaryOp op) r) (ha:PE X a ta):PE X (.UnaryOp op a pos) (Tv r ta):=by
 intro pins s σ H Q I h;exact UnaryOp_ (A3 (ha pins s σ H _ I h) λ v s1 ⟨x,H1,I1,r1,q1⟩=>ho pins s1 σ H1 x v Q I1 r1 q1)
def Lk {f:Af->Af->Sem Af}{C:Int->Int->Prop}{g:Int->Int->Int}
  (rule:∀ (i j:Int) (t u:Tok) (s:Aj) (Q:Af->Aj->Prop) (E:Af->Aj->Prop),C i j->Q (.int (g i j) s.toks) { s with toks:=s.toks + 1 }->As (Aq X.prog X.w) X.A (f (.int i t) (.int j u)) Q E s):
  OpR X f (rI C λ i j=>.int (g i j)):=by
 intro pins s σ H x y v u Q I rx ry h;obtain ⟨i,j,rfl,rfl,hc,q⟩:=h;obtain ⟨t,rfl⟩:=rx;obtain ⟨t',rfl⟩:=ry;exact rule i j t t' s _ _ hc ⟨.int (g i j),H,I.tok _,⟨_,rfl⟩,q⟩
def Rc {f:Af->Af->Sem Af}{g:Int->Int->Int}
  (rule:∀ (i j:Int) (t u:Tok) (s:Aj) (Q:Af->Aj->Prop) (E:Af->Aj->Prop),Q (.int (g i j) s.toks) { s with toks:=s.toks + 1 }->As (Aq X.prog X.w) X.A (f (.int i t) (.int j u)) Q E s):
  OpR X f (Fe λ i j=>.int (g i j)):=by
 intro pins s σ H x y v u Q I rx ry h;obtain ⟨i,j,rfl,rfl,q⟩:=h;obtain ⟨t,rfl⟩:=rx;obtain ⟨t',rfl⟩:=ry;exact rule i j t t' s _ _ ⟨.int (g i j),H,I.tok _,⟨_,rfl⟩,q⟩
def Hc {f:Af->Af->Sem Af}{g:Int->Int->Bool}
  (rule:∀ (i j:Int) (t u:Tok) (s:Aj) (Q:Af->Aj->Prop) (E:Af->Aj->Prop),Q (.bool (g i j)) s->As (Aq X.prog X.w) X.A (f (.int i t) (.int j u)) Q E s):
  OpR X f (Fe λ i j=>.bl (g i j)):=by
 intro pins s σ H x y v u Q I rx ry h;obtain ⟨i,j,rfl,rfl,q⟩:=h;obtain ⟨t,rfl⟩:=rx;obtain ⟨t',rfl⟩:=ry;exact rule i j t t' s _ _ ⟨.bl (g i j),H,I,rfl,q⟩
def LG (i j:Int):Prop:=0<=j/\j<=1000000/\i.natAbs < 2 ^ 64
def CMul (i j:Int):Prop:=(-(2 ^ 64) < i/\i < 2 ^ 64)\/(-(2 ^ 64) < j/\j < 2 ^ 64)
def CMul.ok {i j:Int} (h:CMul i j):IntMulOk i j:=by
 rcases h with ⟨h1,h2⟩ | ⟨h1,h2⟩
 ·exact .of_left (intBits_le_64 h1 h2)
 ·exact .of_right (intBits_le_64 h1 h2)
def qn0:OpR X (DX .Add) (Fe λ i j=>.int (i + j)):=Rc λ _ _ _ _ _ _ _ q=>add_int q
def qnp:OpR X (DX .Mult) (rI CMul λ i j=>.int (i * j)):=Lk λ _ _ _ _ _ _ _ hc q=>mul_int q hc.ok
def Y8:OpR X (DX .Mod) (rI (λ _ j=>0 < j) λ i j=>.int (i % j)):=Lk λ i j _ _ _ _ _ hc q=>by
 have h1:(0:Int) < j:=hc;exact mod_int' (by omega) (by rw [Int.fmod_eq_emod_of_nonneg i (by omega)];exact q)
def YA:OpR X (DX .Pow) (rI LG λ i j=>.int (i ^ j.toNat)):=Lk λ _ _ _ _ _ _ _ hc q=>pow_int_small hc.1 hc.2.1 hc.2.2 q
def Xm {f:Af->Sem Af}{g:Int->Int}
  (rule:∀ (i:Int) (t:Tok) (s:Aj) (Q:Af->Aj->Prop) (E:Af->Aj->Prop),Q (.int (g i) s.toks) { s with toks:=s.toks + 1 }->As (Aq X.prog X.w) X.A (f (.int i t)) Q E s):
  RZ X f (rU λ i=>.int (g i)):=by
 intro pins s σ H x v Q I rx h;obtain ⟨i,rfl,q⟩:=h;obtain ⟨t,rfl⟩:=rx;exact rule i t s _ _ ⟨.int (g i),H,I.tok _,⟨_,rfl⟩,q⟩
def ZR:RZ X (unaryOp .USub) (rU λ i=>.int (-i)):=Xm λ _ _ _ _ _ q=>neg_int q
end
def PR:V->V->Bool
 | .non,.non=>true | .non,.int _=>true | .int _,.non=>true | .non,.bl _=>true | .bl _,.non=>true | .non,.str _=>true | .str _,.non=>true
 | .int _,.int _=>true | .bl _,.bl _=>true | .str _,.str _=>true | .byt _,.byt _=>true
 | .int _,.str _=>true | .str _,.int _=>true | .bl _,.str _=>true | .str _,.bl _=>true
 | _,_=>false
def Xr:R2:=λ x y H Q=>PR x y=true/\Q (.bl (decide (x=y))) H
def UL {i j:Int}:decide (V.int i=V.int j)=(i == j):=by
 rw [HH];simp
def Yh {i j:Bool}:decide (V.bl i=V.bl j)=(i == j):=by
 rw [HH];simp
def qv {i j:Str}:decide (V.str i=V.str j)=(i == j):=by
 rw [HH];simp
def ZP {i j:Array UInt8}:decide (V.byt i=V.byt j)=(i.toList == j.toList):=by
 rw [HH];cases i;cases j;simp
section
variable {X:Cx}{a b c:Expr}{ta tb tc:TE}{pos:Pos}
def D5 {pins:List (Addr×Obj)}{σ:St}{H:Hp}{s:Aj}{Q:VK}{k k':Bool} (I:Inv X pins σ H s) (q:Q (.bl k) H) (e:k=k'):EP X pins σ Q (.bool k') s:=by
 subst e;exact ⟨.bl k,H,I,rfl,q⟩
theorem XB:OpR X (BU .Eq) Xr:=by
 intro pins s σ H x y v u Q I rx ry h;obtain ⟨hs,q⟩:=h;cases x with
 | non=>
  cases rx;cases y with
  | non=>cases ry;exact PySem.EqNone.eq_none_none (D5 I q (by simp))
  | bl j=>cases ry;exact PySem.EqNone.eq_none_bool (D5 I q (by simp))
  | int j=>obtain ⟨t',rfl⟩:=ry;exact PySem.EqNone.eq_none_int (D5 I q (by simp))
  | str j=>obtain ⟨t',rfl⟩:=ry;exact PySem.EqNone.eq_none_str (D5 I q (by simp))
  | _=>exact absurd (show false=true from hs) BN
 | bl i=>
  cases rx;cases y with
  | non=>cases ry;exact PySem.EqNone.eq_bool_none (D5 I q (by simp))
  | bl j=>cases ry;exact eq_bool (D5 I q Yh)
  | str j=>obtain ⟨t',rfl⟩:=ry;exact PySem.EqMixed.eq_bool_str (D5 I q (by simp))
  | _=>exact absurd (show false=true from hs) BN
 | int i=>
  obtain ⟨t,rfl⟩:=rx;cases y with
  | non=>cases ry;exact PySem.EqNone.eq_int_none (D5 I q (by simp))
  | int j=>obtain ⟨t',rfl⟩:=ry;exact eq_int (D5 I q UL)
  | str j=>obtain ⟨t',rfl⟩:=ry;exact PySem.EqMixed.eq_int_str (D5 I q (by simp))
  | _=>exact absurd (show false=true from hs) BN
 | str i=>
  obtain ⟨t,rfl⟩:=rx;cases y with
  | non=>cases ry;exact PySem.EqNone.eq_str_none (D5 I q (by simp))
  | bl j=>cases ry;exact PySem.EqMixed.eq_str_bool (D5 I q (by simp))
  | int j=>obtain ⟨t',rfl⟩:=ry;exact PySem.EqMixed.eq_str_int (D5 I q (by simp))
  | str j=>obtain ⟨t',rfl⟩:=ry;exact eq_str (D5 I q qv)
  | _=>exact absurd (show false=true from hs) BN
 | byt i=>
  obtain ⟨t,rfl⟩:=rx;cases y with
  | byt j=>obtain ⟨t',rfl⟩:=ry;exact PySem.W.eq_bytes (D5 I q ZP)
  | _=>exact absurd (show false=true from hs) BN
 | _=>cases y <;> exact absurd (show false=true from hs) BN
def TJ:OpR X (BU .Lt) (Fe λ i j=>.bl (decide (i < j))):=Hc λ _ _ _ _ _ _ _ q=>lt_int q
def TH:OpR X (BU .LtE) (Fe λ i j=>.bl (decide (i<=j))):=Hc λ _ _ _ _ _ _ _ q=>le_int q
def TF:OpR X (BU .Gt) (Fe λ i j=>.bl (decide (j < i))):=Hc λ _ _ _ _ _ _ _ q=>gt_int q
def TC:OpR X (BU .GtE) (Fe λ i j=>.bl (decide (j<=i))):=Hc λ _ _ _ _ _ _ _ q=>ge_int q
def Y7:OpR X (BU .Is) (λ x y H Q=>y=.non/\Q (.bl (decide (x=.non))) H):=by
 intro pins s σ H x y v u Q I rx ry h;obtain ⟨rfl,q⟩:=h;cases ry;refine is_none_gen (D5 I q ?_);cases x <;> first
  | (cases rx;rfl)
  | (obtain ⟨t,rfl⟩:=rx;rfl)
def qi:OpR X (BU .IsNot) (λ x y H Q=>y=.non/\Q (.bl (!decide (x=.non))) H):=by
 intro pins s σ H x y v u Q I rx ry h;obtain ⟨rfl,q⟩:=h;cases ry;refine isnot_none_gen (D5 I q ?_);cases x <;> first
  | (cases rx;rfl)
  | (obtain ⟨t,rfl⟩:=rx;rfl)
def OpR.or {f:Af->Af->Sem Af}{r r':R2} (h:OpR X f r) (h':OpR X f r'):OpR X f (λ x y H Q=>r x y H Q\/r' x y H Q):=by
 intro pins s σ H x y v u Q I rx ry q;rcases q with q | q
 ·exact h pins s σ H x y v u Q I rx ry q
 ·exact h' pins s σ H x y v u Q I rx ry q
def qp {op:ED}{r:R2} (ho:OpR X (BU op) r) (ha:PE X a ta) (hb:PE X b tb) (hm:J4 op b=false):PE X (.Compare a [op] [b] pos) (Ip r ta tb):=by
 intro pins s σ H Q I h;exact wpAny_Compare1 (IU ha hb I h λ v u s2 x y H2 I2 rx ry q=>ho pins s2 σ H2 x y v u Q I2 rx ry q) hm
def TZ (t:TE):TT:=λ σ H Q=>t σ H λ x H'=>∃ k,x=.bl k/\Q k H'
def qY {op:ED}{r:R2} (ho:OpR X (BU op) r) (ha:PE X a ta) (hb:PE X b tb) (hm:J4 op b=false):PT X (.Compare a [op] [b] pos) (TZ (Ip r ta tb)):=by
 intro pins s σ H Q I h;refine wpAny_isTrue_Compare1 (A3 (ha pins s σ H _ I h) λ v s1 ⟨x,H1,I1,r1,q1⟩=>A3 (hb pins s1 σ H1 _ I1 q1) λ u s2 ⟨y,H2,I2,r2,q2⟩=>
  A3 (ho pins s2 σ H2 x y v u _ I2 r1 r2 q2) λ c s3 ⟨z,H3,I3,r3,k,e,q3⟩=>?_) hm
 subst e;cases r3;exact Gw ⟨H3,I3,q3⟩
def QO (r r':R2) (ta tb tc:TE):TE:=λ σ H Q=>ta σ H λ x H1=>tb σ H1 λ y H2=>r x y H2 λ z H3=>∃ k,z=.bl k /\
 (if k=true then tc σ H3 λ w' H4=>r' y w' H4 Q else Q (.bl false) H3)
theorem zh {op op':ED}{r r':R2} (ho:OpR X (BU op) r) (ho':OpR X (BU op') r') (ha:PE X a ta) (hb:PE X b tb) (hc:PE X c tc)
  (hm:lastMarks [op,op'] [b,c]=false:=by with_unfolding_all rfl):PE X (.Compare a [op,op'] [b,c] pos) (QO r r' ta tb tc):=by
 intro pins s σ H Q I h;refine Compare_chain (A3 (ha pins s σ H _ I h) λ v s1 ⟨x,H1,I1,r1,q1⟩=>chain_link (A3 (hb pins s1 σ H1 _ I1 q1) λ u s2 ⟨y,H2,I2,r2,q2⟩=>
  A3 (ho pins s2 σ H2 x y v u _ I2 r1 r2 q2) λ d s3 ⟨z,H3,I3,r3,k,e,q3⟩=>?_)) hm
 subst e;cases r3;refine Gw ?_;cases k with
 | false=>exact ite_ff ⟨.bl false,H3,I3,rfl,q3⟩
 | true=>exact ite_tt (chain_last (A3 (hc pins s3 σ H3 _ I3 q3) λ w' s4 ⟨z',H4,I4,r4,q4⟩=>ho' pins s4 σ H4 y z' u w' Q I4 r2 r4 q4))
theorem zu {op op':ED}{r r':R2} (ho:OpR X (BU op) r) (ho':OpR X (BU op') r') (ha:PE X a ta) (hb:PE X b tb) (hc:PE X c tc)
  (hm:lastMarks [op,op'] [b,c]=false:=by with_unfolding_all rfl):PT X (.Compare a [op,op'] [b,c] pos) (TZ (QO r r' ta tb tc)):=by
 intro pins s σ H Q I h;refine isTrue_chain (A3 (ha pins s σ H _ I h) λ v s1 ⟨x,H1,I1,r1,q1⟩=>test_link (A3 (hb pins s1 σ H1 _ I1 q1) λ u s2 ⟨y,H2,I2,r2,q2⟩=>
  A3 (ho pins s2 σ H2 x y v u _ I2 r1 r2 q2) λ d s3 ⟨z,H3,I3,r3,k,e,q3⟩=>?_)) hm
 subst e;cases r3;refine Gw ?_;cases k with
 | false=>
  obtain ⟨k',e',q'⟩:=q3;cases e';exact ite_ff ⟨H3,I3,q'⟩
 | true=>
  refine ite_tt (test_last (A3 (hc pins s3 σ H3 _ I3 q3) λ w' s4 ⟨z',H4,I4,r4,q4⟩=>A3 (ho' pins s4 σ H4 y z' u w' _ I4 r2 r4 q4) λ d' s5 ⟨z2,H5,I5,r5,k2,e2,q5⟩=>?_));subst e2;cases r5;exact Gw ⟨H5,I5,q5⟩
def Jn:(Au:Nat) < 2 ^ 63:=by rw [sizeLine_eq];decide
def jN:OpR X (DX .Add) (λ x y H Q=>∃ i j,x=.str i/\y=.str j/\i.length + j.length<=Au/\Q (.str (i++j)) H):=by
 intro pins s σ H x y v u Q I rx ry h;obtain ⟨i,j,rfl,rfl,hz,q⟩:=h;obtain ⟨t,rfl⟩:=rx;obtain ⟨t',rfl⟩:=ry;exact add_str (λ t' tk=>⟨.str (i++j),H,I.tok _,⟨_,rfl⟩,q⟩) hz
theorem Eu {x:V}{us:List Af} (r:Vals [x] us):∃ u,us=[u]/\RelV x u:=by
 cases r with
 | cons r1 r2=>cases r2;exact ⟨_,rfl,r1⟩
theorem Lj {x y:V}{us:List Af} (r:Vals [x,y] us):∃ u w',us=[u,w']/\RelV x u/\RelV y w':=by
 cases r with
 | cons r1 r2=>
  cases r2 with
  | cons r3 r4=>cases r4;exact ⟨_,_,rfl,r1,r3⟩
def zJ (hc:X.calm=true):zzr X (.builtin "max") (λ xs H Q=>∃ i j,xs=[.int i,.int j]/\Q (.int (if j > i then j else i)) H):=by
 intro pins s σ H xs us Q I r h;obtain ⟨i,j,rfl,q⟩:=h;obtain ⟨u,w',rfl,⟨t,rfl⟩,⟨t',rfl⟩⟩:=Lj r;refine max_two_ints (I.ok.hd hc) λ h' tk k=>⟨_,H,I.kept k,?_,q⟩
 by_cases hj:j > i
 ·rw [if_pos hj,if_pos hj];exact ⟨_,rfl⟩
 ·rw [if_neg hj,if_neg hj];exact ⟨_,rfl⟩
def zL (hc:X.calm=true):zzr X (.builtin "min") (λ xs H Q=>∃ i j,xs=[.int i,.int j]/\Q (.int (if j < i then j else i)) H):=by
 intro pins s σ H xs us Q I r h;obtain ⟨i,j,rfl,q⟩:=h;obtain ⟨u,w',rfl,⟨t,rfl⟩,⟨t',rfl⟩⟩:=Lj r;refine min_two_ints (I.ok.hd hc) λ h' tk k=>⟨_,H,I.kept k,?_,q⟩
 by_cases hj:j < i
 ·rw [if_pos hj,if_pos hj];exact ⟨_,rfl⟩
 ·rw [if_neg hj,if_neg hj];exact ⟨_,rfl⟩
def qfm:zzr X (.type "int") (λ xs H Q=>(∃ i,xs=[.int i]/\Q (.int i) H)\/∃ k,xs=[.bl k]/\Q (.int (if k then 1 else 0)) H):=by
 intro pins s σ H xs us Q I r h;rcases h with ⟨i,rfl,q⟩ | ⟨k,rfl,q⟩
 ·obtain ⟨u,rfl,t,rfl⟩:=Eu r;exact call_int_int ⟨.int i,H,I,⟨_,rfl⟩,q⟩
 ·obtain ⟨u,rfl,r1⟩:=Eu r;cases r1;exact call_int_bool ⟨.int (if k then 1 else 0),H,I.tok _,⟨_,rfl⟩,q⟩
end
structure ObjM (h:Heap) (x dx C:Addr) (mA:Str->Option Af):Prop where
 obj:h.get? x=some (OU C dx)
 ns:h.Ns1 dx mA
 ne:dx≠x
def j8 {h:Heap}{dx:Addr}{mA:Str->Option Af} (n:h.Ns1 dx mA):∃ od,h.get? dx=some od/\∀ name,OS name od=some (mA name):=by
 obtain ⟨o,es,ep,ho,hd,hk,_,hm⟩:=n;refine ⟨o,ho,λ name=>?_⟩;have e:=hm name;unfold nsFind findBy at e;rw [<- Array.find?_toList] at e;unfold OS;rw [hd];dsimp only;split
 ·rename_i y q;rw [q] at e;exact congrArg some e
 ·rename_i q;rw [q] at e;have a:es.toList.any (·.refKey)=false:=by
   rw [List.any_eq_false];intro y hy;obtain ⟨z,t,hkey⟩:=hk y (Array.mem_toList_iff.mp hy);simp [DictEntry.refKey,hkey]
  have a':¬ es.toList.any (·.refKey)=true:=by rw [a];exact BN
  rw [if_neg a'];exact congrArg some e
def ObjM.look {h:Heap}{x dx C:Addr}{mA:Str->Option Af} (I:ObjM h x dx C mA):∃ od,PySem.W.InstAt h x (OU C dx) C (some od)/\∀ name,OS name od=some (mA name):=
 let ⟨od,ho,hl⟩:=j8 I.ns
 ⟨od,⟨I.obj,rfl,rfl,ho⟩,hl⟩
section
variable {prog:A7}{w:A6}{A:AZ}{E:Af->Aj->Prop}{s:Aj}{K:PySem.W.Frag}{x dx C f:Addr}{mA:Str->Option Af}{name:Str}{v:Af}
end
section
variable {P:A7}{w:A6}{H H':Hp}{h h':Heap}{a C dx:Addr}{fs fs':List (Str×V)}
def ZV (hok:HOk P w H h) (e:H a=some (.ins C dx fs)):∃ mA,ObjM h a dx C mA/\(∀ f,RelO (fs.lookup f) (mA f))/\PySem.Within mA (fs.map (·.1))/\fs.length<=1000/\H dx=some (.own a):=by
 obtain ⟨d,z,ne,ob,mA,n,r,q⟩:=(show zwl P w H h a (.ins C dx fs) from hok a _ e)
 exact ⟨mA,⟨ob,n,ne⟩,r,q,z,d⟩
end
structure Cls (K:PySem.W.Frag) (C:Addr):Prop where
 pg:PySem.W.plainGet K C Str.empty=true
 hd:PySem.W.hasDictIn K C=true
 po:PySem.W.plainOver K C=true
 sa:DZ K (.ref C) "__setattr__" = some (some (.builtin "object.__setattr__"))
def Cls.get {K:PySem.W.Frag}{C:Addr} (c:Cls K C) (f:Str):PySem.W.plainGet K C f=true:=c.pg
structure Con (K:PySem.W.Frag) (C:Addr) (f:Str) (v:V) (u:Af):Prop where
 at_:DZ K (.ref C) f=some (some u)
 rel:RelV v u
 get:PySem.W.specialIn K u "__get__" = some none
 cp:PySem.W.copiedNames.contains f=false
structure Meth (K:PySem.W.Frag) (C:Addr) (m:Str) (f:Addr):Prop where
 at_:DZ K (.ref C) m=some (some (.ref f))
 fn:PySem.W.isFn K (.ref f)=true
 kp:Ih K (.ref f)=true
section
variable {X:Cx}{pins:List (Addr×Obj)}{σ:St}{H:Hp}{s:Aj}{a C dx:Addr}{fs:List (Str×V)}{f:Str}{v:V}{A:AZ}{E:Af->Aj->Prop}
end
section
variable {X:Cx}{o e value:Expr}{f:Str}{pos pos' tpos:Pos}{ta tv:TE}
end
section
variable {X:Cx}{pins:List (Addr×Obj)}{σ:St}{H:Hp}{s:Aj}{A:AZ}{E:Af->Aj->Prop}{Q:Af->Aj->Prop}{c:Af}{b:Bool}
inductive TyOf (K:PySem.W.Frag) (H:Hp):V->Af->Prop where
 | non:TyOf K H .non (.type "NoneType")
 | bl (x:Bool):TyOf K H (.bl x) (.type "bool")
 | int (i:Int):TyOf K H (.int i) (.type "int")
 | str (x:Str):TyOf K H (.str x) (.type "str")
 | flt (x:UInt64):TyOf K H (.flt x) (.type "float")
 | lst {a:Addr}{xs:List V} (e:H a=some (.lst xs)):TyOf K H (.ref a) (.type "list")
 | frz {a:Addr}{o:Obj}{xs:List V} (e:H a=some (.frz o (.lst xs))):TyOf K H (.ref a) (.type "list")
 | tup {a:Addr}{xs:List V} (e:H a=some (.tup xs)):TyOf K H (.ref a) (.type "tuple")
 | dK {a:Addr}{kvs:List (AV×V)} (e:H a=some (.dK kvs)):TyOf K H (.ref a) (.type "dict")
 | dT {a:Addr}{kvs:List (List AV×V)} (e:H a=some (.dT kvs)):TyOf K H (.ref a) (.type "dict")
 | ins {a C dx:Addr}{fs:List (Str×V)} (e:H a=some (.ins C dx fs)) (cl:Cls K C) (ha:DZ K (.ref C) "__class__" = some (some (.builtin "object.__class__")))
   (hn:PySem.W.specialIn K (.builtin "object.__class__") "__get__" = some (some (.builtin "getset_descriptor.__get__"))) (htk:PySem.W.takesIn K (.builtin "object.__class__")=some true)
   (hm:Gv K C (.type "object")=some true):TyOf K H (.ref a) (.ref C)
theorem ji {x:V}{u t:Af} (I:Inv X pins σ H s) (rx:RelV x u) (ty:TyOf X.K H x t) (e:EI X.K t c=some b) (h:∀ tk,Q (.bool b) { s with toks:=tk }):
  As (Aq X.prog X.w) A (call (.builtin "isinstance") [u,c]) Q E s:=by
 cases ty with
 | non=>cases (show u=Value.none from rx);exact EJ Pe I.kIn True.intro e (λ z=>nomatch z) h
 | bl y=>cases (show u=Value.bool y from rx);exact EJ PySem.W.kitx_bool I.kIn True.intro e (λ z=>nomatch z) h
 | int i=>obtain ⟨t,q⟩:=(show ∃ t,u=Value.int i t from rx);cases q;exact EJ PySem.W.kitx_int I.kIn True.intro e (λ z=>nomatch z) h
 | str y=>obtain ⟨t,q⟩:=(show ∃ t,u=Value.str y t from rx);cases q;exact EJ PySem.W.kitx_str I.kIn True.intro e (λ z=>nomatch z) h
 | flt y=>obtain ⟨t,q⟩:=(show ∃ t,u=Value.float y t from rx);cases q;exact EJ PySem.W.kitx_float I.kIn True.intro e (λ z=>nomatch z) h
 | @lst a xs ea=>
  cases (show u=Value.ref a from rx);obtain ⟨_,_,n,_,h1⟩:=(show zwl X.prog X.w H s.heap a (.lst xs) from I.hok a _ ea)
  exact EJ PySem.W.kitx_list I.kIn ⟨_,h1,rfl⟩ e (λ z=>nomatch z) h
 | @frz a ob xs ea=>
  cases (show u=Value.ref a from rx);obtain ⟨_,_,_,n,_,h1⟩:=(show zwl X.prog X.w H s.heap a (.frz ob (.lst xs)) from I.hok a _ ea)
  exact EJ PySem.W.kitx_list I.kIn ⟨_,h1,rfl⟩ e (λ z=>nomatch z) h
 | @tup a xs ea=>
  cases (show u=Value.ref a from rx);obtain ⟨_,_,_,p⟩:=(show zwl X.prog X.w H s.heap a (.tup xs) from I.hok a _ ea)
  obtain ⟨o,h1,h2,_⟩:=p;exact EJ PySem.W.kitx_tuple I.kIn ⟨o,h1,h2⟩ e (λ z=>nomatch z) h
 | @dK a kvs ea=>
  cases (show u=Value.ref a from rx);obtain ⟨_,_,vs,_,p⟩:=(show zwl X.prog X.w H s.heap a (.dK kvs) from I.hok a _ ea)
  obtain ⟨o,es,ep,h1,h2,_⟩:=p;exact EJ PySem.W.kitx_dict I.kIn ⟨o,h1,h2.1⟩ e (λ z=>nomatch z) h
 | @dT a kvs ea=>
  cases (show u=Value.ref a from rx);obtain ⟨_,_,xs,_,o,es,ep,h1,h2,_⟩:=(show zwl X.prog X.w H s.heap a (.dT kvs) from I.hok a _ ea)
  exact EJ PySem.W.kitx_dict I.kIn ⟨o,h1,h2.1⟩ e (λ z=>nomatch z) h
 | @ins a C dx fs ea cl ha hn htk hm=>
  cases (show u=Value.ref a from rx);obtain ⟨mA,O,_⟩:=ZV I.hok ea;obtain ⟨od,J,_⟩:=O.look;exact EJ (PySem.W.kitx_own (cl.get _) cl.hd ha hn htk hm) I.kIn J e (λ z=>nomatch z) h
end
structure Room (k:Nat) (A:AZ):Prop where
 hd:A.handled=none
 dp:A.depth + 3 * k + 5 < recursionLimit
 un:A.units + 16 * k + 200 < Cn
 gd:A.guards=some []
def Room.mono {j k:Nat}{A:AZ} (r:Room k A) (h:j<=k):Room j A:=⟨r.hd,by have:=r.dp;omega,by have:=r.un;omega,r.gd⟩
def Room.deeper {k:Nat}{A:AZ} (r:Room (k + 1) A) (env:Env):Room k (A.deeper env):=
 ⟨r.hd,by have:=r.dp;show A.depth + 1 + 3 * k + 5 < _;omega,by have:=r.un;show A.units + 3 + 16 * k + 200 < _;omega,r.gd⟩
def Room.depth {k:Nat}{A:AZ} (r:Room k A):A.depth < recursionLimit:=by have:=r.dp;omega
def Room.units {k:Nat}{A:AZ} (r:Room k A):A.units + 64 < Cn:=by have:=r.un;omega
def FN:TA:=λ _ H Q=>Q [] H
def Lh (ta:TE) (tr:TA):TA:=λ σ H Q=>ta σ H λ x H1=>tr σ H1 λ xs H2=>Q (x::xs) H2
section
variable {X:Cx}{e:Expr}{es:List Expr}{te:TE}{t:TA}{pos:Pos}
def Gj:PA X [] FN:=λ _ _ _ _ H Q I h=>OZ ⟨[],H,I,.nil,h⟩
def Eo (ha:PE X e te) (hr:PA X es t) (hs:A5 (e::es) X.env=(false,eval e X.env)::A5 es X.env:=by rfl):PA X (e::es) (Lh te t):=by
 intro pos pins s σ H Q I h;rw [hs];show As _ _ (spliced ((false,eval e X.env)::Cz pos (A5 es X.env))) _ _ s;refine KC (A3 (ha pins s σ H _ I h) λ u s1 ⟨x,H1,I1,r1,q1⟩=>?_);exact A3 (hr pos pins s1 σ H1 _ I1 q1) λ us s2 ⟨xs,H2,I2,r2,q2⟩=>⟨x::xs,H2,I2,.cons r1 r2,q2⟩
def PJ (t:TA):TE:=λ σ H Q=>t σ H λ xs H1=>xs.length<=Au/\∀ p,H1 p=none->Q (.ref p) (Aw H1 p (.tup xs))
def PM (t:TA):TE:=λ σ H Q=>t σ H λ xs H1=>xs.length<=Au/\∀ p,H1 p=none->Q (.ref p) (Aw H1 p (.lst xs))
def Uz {x1} (h:PA X es t):PE X (.Tuple es x1 pos) (PJ t):=by
 intro pins s σ H Q I hq;refine wpAny_Tuple_spliced (A3 (h pos pins s σ H _ I hq) λ us s1 ⟨xs,H1,I1,r,z,q⟩=>⟨by rw [<- r.length];exact z,?_⟩);have hf:H1 s1.heap.objs.size=none:=I1.hok.fresh (AS _);refine ⟨.ref s1.heap.objs.size,Aw H1 s1.heap.objs.size (.tup xs),I1.laid (t':=s1.toks) (λ b u e=>CL _ e) (AS _) ?_,rfl,q _ hf⟩;exact ⟨z,us,r,⟨_,Ea _ rfl,rfl,_,rfl⟩⟩
def Ux (h:PA X es t):PE X (.List es pos) (PM t):=by
 intro pins s σ H Q I hq;refine wpAny_List_spliced (A3 (h pos pins s σ H _ I hq) λ us s1 ⟨xs,H1,I1,r,z,q⟩=>⟨by rw [<- r.length];exact z,?_⟩);have hf:H1 s1.heap.objs.size=none:=I1.hok.fresh (AS _);refine ⟨.ref s1.heap.objs.size,Aw H1 s1.heap.objs.size (.lst xs),I1.laid (t':=s1.toks) (λ b u e=>CL _ e) (AS _) ?_,rfl,q _ hf⟩;exact ⟨z,us,0,r,Ea _ rfl⟩
end
abbrev Sp:=List V->Hp->VK->XK->Prop
abbrev Fo:=List Env->Hp->Aj->XK->Af->Aj->Prop
structure Env0 (P:A7) (w:A6) (K:PySem.W.Frag) (mg:Str->Option Af) (base:Heap) (A:AZ) (outer:List Env) (s:Aj) (H:Hp):Prop where
 frames:A.frames=some outer
 mod:Mod K mg base
 bs:∀ b o,base.get? b=some o->s.heap.get? b=some o/\H b=none
 bsz:base.objs.size<=s.heap.objs.size
 funs:s.heap.FunFrames base outer
 frf:∀ b∈BO outer,H b=none
 hok:HOk P w H s.heap
 bare:EF s.gens
def CE (outer:List Env) (P:A7) (w:A6) (H:Hp) (s:Aj) (Q:VK) (u:Af) (s':Aj):Prop:=
 ∃ v H',s'.os=s.os/\EF s'.gens/\Un (BO outer) [] H H' s.heap s'.heap/\HOk P w H' s'.heap/\RelV v u/\Q v H'
def CR (CX:Fo) (outer:List Env) (P:A7) (w:A6) (H:Hp) (s:Aj) (Q:VK) (E:XK) (r:Result) (s':Aj):Prop:=
 match r with
 | .ok (.ret u)=>CE outer P w H s Q u s'
 | .ok _=>False
 | .error e=>CX outer H s E e s'
structure FnOk (P:A7) (w:A6) (K:PySem.W.Frag) (mg:Str->Option Af) (base:Heap) (CX:Fo) (k:Nat) (f:Addr) (fd:CU) (ps:List Str) (sp:Sp):Prop where
 len:∀ vs H Q E,sp vs H Q E->vs.length=ps.length
 run:∀ (A:AZ) (outer:List Env) (s:Aj) (H:Hp) (args:Args) (us:List Af) (vs:List V) (Q:VK) (E:XK),Room k A->Env0 P w K mg base A outer s H->BindsTo s fd args (ps.zip us)->Vals vs us->sp vs H Q E ->
  EZ (Aq P w) A (.call (.ref f) args) (CR CX outer P w H s Q E) s
def FnOk.mono {P:A7}{w:A6}{K:PySem.W.Frag}{mg:Str->Option Af}{base:Heap}{CX:Fo}{j k:Nat}{f:Addr}{fd:CU}{ps:List Str}{sp:Sp} (F:FnOk P w K mg base CX j f fd ps sp) (h:j<=k):
  FnOk P w K mg base CX k f fd ps sp:=⟨F.len,λ A outer s H args us vs Q E hr=>F.run A outer s H args us vs Q E (hr.mono h)⟩
section
variable {X:Cx}{pins:List (Addr×Obj)}{σ:St}{H:Hp}{s s':Aj}
def Inv.env0 (I:Inv X pins σ H s):Env0 X.prog X.w X.K X.mg X.base X.A X.stack s H:=
 ⟨I.ok.frames,I.ok.mod,I.bs,BH I.ok.bsz I.sz,I.stack,I.stkFree,I.hok,I.bare⟩
def Inv.after {Q:VK}{u:Af} (I:Inv X pins σ H s) (h:CE X.stack X.prog X.w H s Q u s'):EP X pins σ Q u s':=by
 obtain ⟨v,H',os,bare,un,hok,r,q⟩:=h;obtain ⟨hh,g,d,t,os'⟩:=s';obtain rfl:os'=s.os:=os;exact ⟨v,H',I.call (h':=hh) (g':=g) (d':=d) (t':=t) (ch:=[]) un hok bare (λ b z=>absurd z (by simp)),r,q⟩
end
def zgw (K:PySem.W.Frag) (fd:CU) (ps:List Str) (ds:List Af):Prop:=
 ∀ (s:Aj) (us:List Af),K.In s.heap->(us++ds).length=ps.length->BindsTo s fd ⟨us,[]⟩ (ps.zip (us++ds))
def zgw.all {K:PySem.W.Frag}{fd:CU}{ps:List Str} (h:∀ us:List Af,us.length=ps.length->bindArgs fd ⟨us,[]⟩=pure (ps.zip us)):zgw K fd ps []:=λ s us _ hl=>by
 rw [Ls] at hl ⊢;exact .of_eq (h us hl)
section
variable {X:Cx}{CX:Fo}{k:Nat}{f C:Addr}{fd:CU}{ps:List Str}{sp:Sp}{dvs:List V}{ds:List Af}{E:XK}{x m:Str}{p pos apos:Pos}{e o:Expr}{es:List Expr}{ta:TE}{t:TA}
structure Mk (K:PySem.W.Frag) (C f:Addr):Prop where
 makes:PySem.W.makesIn K C=true
 init:DZ K (.ref C) "__init__" = some (some (.ref f))
 fn:PySem.W.isFn K (.ref f)=true
 kp:Ih K (.ref C)=true
end
section
variable {X:Cx}{CX:Fo}{k:Nat}{f C:Addr}{fd:CU}{ps ks:List Str}{sp:Sp}{E:XK}{x m:Str}{p pos apos kpos:Pos}{e o:Expr}{es:List Expr}{kws:List Gs}{te ta:TE}{t tk:TA}{nm:Option Str}
structure KBinds (K:PySem.W.Frag) (fd:CU) (ps ks:List Str) (g:List Af->List Af->List Af) (gV:List V->List V->List V):Prop where
 to:∀ (s:Aj) (us ws:List Af),K.In s.heap->(g us ws).length=ps.length->BindsTo s fd ⟨us,ks.zip ws⟩ (ps.zip (g us ws))
 rel:∀ {vs:List V}{us:List Af}{zs:List V}{ws:List Af},Vals vs us->Vals zs ws->Vals (gV vs zs) (g us ws)
variable {g:List Af->List Af->List Af}{gV:List V->List V->List V}
end
structure FnScope (N P:List Str) (sc:AW):Prop where
 kind:sc.kind=.function:=by rfl
 co:sc.isCoroutine=false:=by rfl
 gen:sc.isGenerator=false:=by rfl
 nd:N.Nodup:=by decide +kernel
 pre:N.take P.length=P:=by rfl
 par:∀ x∈P,sc.names.lookup x=some .local\/sc.names.lookup x=some .cell:=by decide +kernel
 nofree:∀ y∈sc.names,y.2≠.free:=by decide +kernel
theorem SH {kindOf:Str->Option Dh}{x:Str}:∀ {binds:List (Str×Af)}{m:Str->Option Af},(∀ v,(x,v)∉binds)->bindL kindOf binds m x=m x
 | [],_,_=>rfl
 | (n,v)::r,m,h=>by
  unfold bindL;rw [SH λ w hw=>h w (AU _ hw)];split
  ·have:x≠n:=by rintro rfl;exact h v Ba
   simp [this]
  ·rfl
theorem SE {kindOf:Str->Option Dh}{x:Str}:∀ {binds:List (Str×Af)}{m:Str->Option Af},(∀ v,(x,v)∉binds)->bindC kindOf binds m x=m x
 | [],_,_=>rfl
 | (n,v)::r,m,h=>by
  unfold bindC;rw [SE λ w hw=>h w (AU _ hw)];split
  ·rfl
  ·have:x≠n:=by rintro rfl;exact h v Ba
   simp [this]
theorem SF {kindOf:Str->Option Dh}{x:Str}{v:Af}:∀ {P:List Str}{vs:List Af}{i:Nat}{m:Str->Option Af},P.Nodup->P[i]?=some x->vs[i]?=some v->kindOf x=some .local ->
  bindL kindOf (P.zip vs) m x=some v
 | [],_,_,_,_,h,_,_=>by simp at h
 | _::_,[],_,_,_,_,h,_=>by simp at h
 | p::P,w::vs,0,m,nd,h1,h2,hk=>by
  simp at h1 h2;subst h1;subst h2;show bindL kindOf ((p,w)::P.zip vs) m p=_;unfold bindL;rw [SH λ v hv=>(jj5.mp nd).1 (Rq hv).1,if_pos hk];simp
 | p::P,w::vs,i + 1,m,nd,h1,h2,hk=>by
  show bindL kindOf ((p,w)::P.zip vs) m x=_;unfold bindL;exact SF (i:=i) (jj5.mp nd).2 (by simpa using h1) (by simpa using h2) hk
theorem SD {kindOf:Str->Option Dh}{x:Str}{v:Af}:∀ {P:List Str}{vs:List Af}{i:Nat}{m:Str->Option Af},P.Nodup->P[i]?=some x->vs[i]?=some v->kindOf x≠some .local ->
  bindC kindOf (P.zip vs) m x=some v
 | [],_,_,_,_,h,_,_=>by simp at h
 | _::_,[],_,_,_,_,h,_=>by simp at h
 | p::P,w::vs,0,m,nd,h1,h2,hk=>by
  simp at h1 h2;subst h1;subst h2;show bindC kindOf ((p,w)::P.zip vs) m p=_;unfold bindC;rw [SE λ v hv=>(jj5.mp nd).1 (Rq hv).1,if_neg hk];simp
 | p::P,w::vs,i + 1,m,nd,h1,h2,hk=>by
  show bindC kindOf ((p,w)::P.zip vs) m x=_;unfold bindC;exact SD (i:=i) (jj5.mp nd).2 (by simpa using h1) (by simpa using h2) hk
def start (N:List Str) (vs:List V):St:=vs.map some++AM (N.length - vs.length) none
def Bx (CX:Fo) (P:A7) (w:A6) (K:PySem.W.Frag) (mg:Str->Option Af) (base:Heap) (N:List Str) (qual:Str) (scope:AW) (f:Addr) (cd:Af) (A:AZ) (outer:List Env) (s:Aj) (H:Hp) (E:XK):Cx where
 prog:=P
 w:=w
 K:=K
 mg:=mg
 base:=base
 A:=A.deeper (GU qual scope s.heap.objs.size f cd)
 N:=N
 s₀:=s
 H₀:=H
 env:=GU qual scope s.heap.objs.size f cd
 outer:=outer
 stack:=GU qual scope s.heap.objs.size f cd::outer
 ex:=[]
 calm:=true
 fn:=λ _=>true
 pn:=[]
 xe:=λ e s'=>As (Aq P w) (A.deeper (GU qual scope s.heap.objs.size f cd)) (leaving (GU qual scope s.heap.objs.size f cd) e) (λ _ s''=>CX outer H s E e s'') (λ e' s''=>CX outer H s E e' s'') s'
def V4 {sc:AW}{n:Nat}{x:Str} (h:sc.names.lookup x=some .cell):∃ c,(CV n sc.names []).lookup x=some c:=by
 have q:=PySem.W.cellsFrom_some sc.names n [] (.inl h);exact jk4.mp q
def jg {CX:Fo}{P:A7}{w:A6}{K:PySem.W.Frag}{mg:Str->Option Af}{base:Heap}{N ps:List Str}{qual:Str}{scope:AW}{f:Addr}{cd:Af}{A:AZ}{outer:List Env}{s s1:Aj}{H:Hp}{E:XK}{us:List Af}{vs:List V}
  (S:FnScope N ps scope) (hd:A.handled=none) (e0:Env0 P w K mg base A outer s H) (hl:vs.length=ps.length) (r:Vals vs us)
  (x:InCallC s s.heap.objs.size (bindL (GU qual scope s.heap.objs.size f cd).kindOf (ps.zip us) λ _=>none) (CV (s.heap.objs.size + 1) scope.names []) (bindC (GU qual scope s.heap.objs.size f cd).kindOf (ps.zip us) λ _=>none) s1):
  Inv (Bx CX P w K mg base N qual scope f cd A outer s H E) [] (start N vs) H s1:=by
 have hpl:ps.length<=N.length:=by have:=congrArg List.length S.pre;rw [Fj] at this;omega
 obtain ⟨h1,tk,rfl,hk⟩:=x.done;have noA:∀ b:Addr,b∉(Bx CX P w K mg base N qual scope f cd A outer s H E).ex:=λ b z=>absurd (show b∈([]:List Addr) from z) (by simp);refine ⟨⟨e0.mod,S.kind,rfl,rfl,AS _,λ y z c h1 h2=>?_,λ y hy=>?_,λ y c _ h=>?_,λ _=>hd,Around.frames_deeper e0.frames,.inr ⟨rfl,rfl⟩,λ b z=>absurd z (noA b),e0.bs,e0.bsz,λ b _ _=>noA b,λ b z=>absurd z (noA b),e0.funs,e0.frf⟩,
  rfl,e0.bare,Un.kept hk,⟨_,x.toInCall.ns,λ i y v h1 h2 h3=>?_⟩,λ y c h=>⟨_,x.cell y c h⟩,e0.hok.fresh (AS _),λ y c h=>?_,λ p hp=>absurd (show p∈([]:List (Addr×Obj)) from hp) (by simp),e0.hok.kept hk,?_⟩
 ·exact name_of_addr x.apart (KH h1) (KH h2)
 ·have hy:scope.names.lookup y=some .cell\/scope.names.lookup y=some .free:=hy;rcases hy with hy | hy
  ·exact V4 hy
  ·exact absurd rfl (S.nofree _ (KH hy))
 ·exact Rl (x.above y c (KH h))
 ·have hi:i < vs.length:=by
   unfold start at h2;by_cases hi:i < vs.length
   ·exact hi
   ·rw [Gz (by simpa using hi)] at h2;rw [IJ] at h2;split at h2 <;> cases h2
  have ha:vs[i]?=some v:=by
   unfold start at h2;rw [Dw (by simpa using hi),Ef] at h2;cases e:vs[i]? with
   | none=>rw [e] at h2;cases h2
   | some a=>rw [e] at h2;cases h2;rfl
  obtain ⟨u,hu,rv⟩:=r.get ha;have hp:ps[i]?=some y:=by
   rw [<- S.pre,JM (by omega)];exact h1
  have ndP:ps.Nodup:=by rw [<- S.pre];exact S.nd.sublist (List.take_sublist _ _)
  refine ⟨u,rv,?_⟩;rcases S.par y (NH hp) with k | k
  ·exact .inl ⟨k,SF ndP hp hu k⟩
  ·obtain ⟨c,e⟩:=V4 (n:=s.heap.objs.size + 1) k;refine .inr ⟨.inl k,c,e,?_⟩;have q:=x.cell y c e;rw [SD ndP hp hu (by show scope.names.lookup y≠_;rw [k];decide)] at q;exact q
 ·exact e0.hok.fresh (Rl (x.above y c (KH h)))
 ·unfold start;show _=N.length;rw [Cd,Bg,II];omega
theorem X1 {CX:Fo}{P:A7}{w:A6}{K:PySem.W.Frag}{mg:Str->Option Af}{base:Heap}{k:Nat}{f:Addr}{name qual:Str}{params:Arguments}{body:List Stmt}{scope:AW}{dV kV doc pm cdv ct oc:Af}{an od:Option Addr}
  {osl:Array (Option Af)}{N ps:List Str}{sp:Sp} (lk:K.lookup f=some ⟨oc,od,.func (Jy name qual params body scope dV kV doc pm an cdv ct),osl⟩) (hcd:OR K cdv qual=true) (S:FnScope N ps scope)
  (len:∀ vs H Q E,sp vs H Q E->vs.length=ps.length)
  (hbody:∀ (A:AZ) (outer:List Env) (s:Aj) (H:Hp) (vs:List V) (Q:VK) (E:XK),Room k (A.deeper (GU qual scope s.heap.objs.size f cdv))->sp vs H Q E ->
   ∃ t,DH (Bx CX P w K mg base N qual scope f cdv A outer s H E) body t/\t { nx:=λ _ H'=>Q .non H',rt:=Q } (start N vs) H):
  FnOk P w K mg base CX (k + 1) f (Jy name qual params body scope dV kV doc pm an cdv ct) ps sp:=by
 refine ⟨len,λ A outer s H args us vs Q E hr e0 hb r hsp=>?_⟩;have hl:=len _ _ _ _ hsp;have KX:K.In s.heap:=e0.mod.kin.keeps λ b o e=>(e0.bs b o e).1;have lim:s.heap.NoLimit:=e0.mod.nolimit.keeps λ b o e=>(e0.bs b o e).1;have hkind:∀ y∈ps.zip us,scope.names.lookup y.1=some .local\/(scope.names.lookup y.1=some .cell/\((CV (s.heap.objs.size + 1) scope.names []).lookup y.1).isSome=true):=λ ⟨n,v⟩ hy=>by
  rcases S.par n (Rq hy).1 with q | q
  ·exact .inl q
  ·exact .inr ⟨q,PySem.W.cellsFrom_some _ _ _ (.inl q)⟩
 refine codeAny_call_function hr.depth (KX _ _ lk) rfl S.co S.gen rfl (PySem.W.codeRec_of KX hcd) (hb _ _ _ _ ?_);refine wpAny_newFunctionEnv_cells S.kind hkind λ env he s1 x=>?_;subst he;refine ⟨lim.keeps x.toInCall.keep,codeAny_func ?_⟩;obtain ⟨t,ht,hq⟩:=hbody A outer s H vs Q E (hr.deeper _) hsp;have I:Inv (Bx CX P w K mg base N qual scope f cdv A outer s H E) [] (start N vs) H s1:=jg S hr.hd e0 hl r x;refine CA (ht [] s1 (start N vs) H _ I hq) (λ fl s' hs=>?_) λ e s' hs=>hs;have fin:∀ {σ':St}{H':Hp}{v:V}{u:Af},Inv (Bx CX P w K mg base N qual scope f cdv A outer s H E) [] σ' H' s'->RelV v u->Q v H'->CE outer P w H s Q u s':=
  λ {σ' H' v u} J rv q=>⟨v,H',J.os,J.bare,J.base,J.hok,rv,q⟩
 cases fl with
 | ret u=>
  obtain ⟨v,σ',H',J,rv,q⟩:=hs;exact fin J rv q
 | next=>
  obtain ⟨σ',H',J,q⟩:=hs;exact fin (v:=V.non) (u:=Value.none) J rfl q
 | brk=>
  obtain ⟨_,_,_,q⟩:=hs;exact Gu q
 | cont=>
  obtain ⟨_,_,_,q⟩:=hs;exact Gu q
section
variable {X:Cx}{x:Str}{p pos:Pos}{e:Expr}{es:List Expr}{t:TA}{id T:String}{r:List V->Hp->VK->Prop}
def PQ (r:List V->Hp->VK->Prop) (t:TA):TE:=λ σ H Q=>t σ H λ vs H1=>r vs H1 Q
def Hw (hc:zzr X (.builtin id) r) (hg:Gl X x) (hm:X.mg x=none) (hv:Ic x=some (.builtin id)) (ha:PA X (e::es) t) (hn:x ≠ "__name__" := by decide) (hdb:(x == ("__debug__" : Str))=false:=by decide)
  (he:A5 (e::es) X.env=(false,eval e X.env)::A5 es X.env:=by rfl) (hpl:(Cz pos (A5 es X.env)).any (·.1)=false:=by rfl):PE X (.Call (.Name x p) (e::es) [] pos) (PQ r t):=by
 intro pins s σ H Q I h;refine Pl (Kj I hg hm hv ?_ hn hdb);exact PyProof.Rows.callWith_builtin1 (A3 (ha pos pins s σ H _ I h) λ us s1 ⟨vs,H1,I1,r1,q1⟩=>hc pins s1 σ H1 vs us Q I1 r1 q1) he hpl
def Mj (hc:zzr X (.type T) r) (hg:Gl X x) (hm:X.mg x=none) (hv:Ic x=some (.type T)) (ha:PA X (e::es) t) (hn:x ≠ "__name__" := by decide) (hdb:(x == ("__debug__" : Str))=false:=by decide)
  (he:A5 (e::es) X.env=(false,eval e X.env)::A5 es X.env:=by rfl) (hpl:(Cz pos (A5 es X.env)).any (·.1)=false:=by rfl):PE X (.Call (.Name x p) (e::es) [] pos) (PQ r t):=by
 intro pins s σ H Q I h;refine Pl (Kj I hg hm hv ?_ hn hdb);exact PF (A3 (ha pos pins s σ H _ I h) λ us s1 ⟨vs,H1,I1,r1,q1⟩=>hc pins s1 σ H1 vs us Q I1 r1 q1) he hpl
end
end L2
namespace HT
open PySem PyProof.Rows
section
open PySem.SeqAt
open PySem.AutoSeq1 (wpAny_loadPart')
open PySem.MeetsSeq PySem.MeetsSeq2 PySem.MeetsSeq3
end
section
variable {prog:A7}{w:A6}{A:AZ}{E:Af->Aj->Prop}{s:Aj}
def cat_tup {t b:Addr}{vs ws:List Af}{Q:Af->Aj->Prop} (ht:IsTup s.heap t vs.toArray) (hb:IsTup s.heap b ws.toArray) (hv:vs≠[])
  (h1:ws=[]->Q (.ref t) s) (h2:ws≠[]->Q (.ref s.heap.objs.size) { s with heap:=s.heap.push { cls:=.type "tuple",data:=.seq (vs++ws).toArray } })
  (hsz:vs.length + ws.length<=Au):As (Aq prog w) A (DX .Add (.ref t) (.ref b)) Q E s:=by
 obtain ⟨⟨cls,dd,data,sl⟩,ho,hc,n,hd⟩:=id ht;obtain ⟨⟨cls2,dd2,data2,sl2⟩,ho2,hc2,n2,hd2⟩:=id hb;simp only at hc hd hc2 hd2;subst hc hd hc2 hd2;have e:vs.toArray++ws.toArray=(vs++ws).toArray:=by simp
 by_cases hw:ws=[]
 ·exact concat_meets ⟨_,ho,rfl⟩ ⟨_,ho2,rfl⟩ OX seq_tuple_add Pw Py (PB _ _)
   (tuple_addW1 t b vs.toArray ws.toArray n n2 dd dd2 sl sl2 (by simpa using hv) (by simp [hw])) ⟨ho,ho2,h1 hw⟩
 ·refine concat_meets ⟨_,ho,rfl⟩ ⟨_,ho2,rfl⟩ OX seq_tuple_add Pw Py (PB _ _)
   (tuple_addW2 t b vs.toArray ws.toArray n n2 dd dd2 sl sl2 (by simpa using hv) (by simpa using hw) (by rw [Cb,Cb];exact hsz)) ⟨ho,ho2,?_⟩
  rw [e];exact h2 hw
def sIx (n d:Nat):Option Int->Nat
 | none=>d
 | some v=>if v < 0 then (v + (n:Int)).toNat else min v.toNat n
def sIx_nat (n d k:Nat):sIx n d (some (k:Int))=min k n:=by
 show (if (k:Int) < 0 then ((k:Int) + (n:Int)).toNat else min (k:Int).toNat n)=min k n;rw [if_neg (by omega),ER]
theorem Z2 (n d:Nat) (hd:d<=n) (o:Option Int):sIx n d o<=n:=by
 cases o with
 | none=>exact hd
 | some v=>
  show (if v < 0 then (v + (n:Int)).toNat else min v.toNat n)<=n;by_cases hv:v < 0
  ·rw [if_pos hv];omega
  ·rw [if_neg hv];exact Rr _ _
def UX (v:Int) (n d:Nat):(if v < 0 then max (v + (n:Int)) 0 else min v (n:Int))=((sIx n d (some v):Nat):Int):=by
 show (if v < 0 then max (v + (n:Int)) 0 else min v (n:Int))=(((if v < 0 then (v + (n:Int)).toNat else min v.toNat n):Nat):Int);by_cases hv:v < 0
 ·simp only [if_pos hv];omega
 ·simp only [if_neg hv];omega
def jW (lo hi:Option Int) (n:Nat):PD lo hi 1 (n:Int)=(((sIx n 0 lo:Nat):Int),((sIx n n hi:Nat):Int)):=by
 have h1:¬ ((1:Int) < 0):=by omega
 unfold PD;simp only [h1,if_false];refine Prod.ext ?_ ?_
 ·cases lo with
  | none=>rfl
  | some v=>exact UX v n 0
 ·cases hi with
  | none=>rfl
  | some v=>exact UX v n n
def jP (i j:Nat):ME (i:Int) (j:Int) 1=j - i:=by
 unfold ME;have h1:(1:Int) > 0:=by omega
 simp only [h1,if_true,Int.ediv_one];split <;> omega
theorem Ti {v:Af}{o:Option Int}{Q:Option Int->Aj->Prop} (p:IsPart v o) (h:Q o s):As (Aq prog w) A (Builtin.Slice.slicePartIndex v) Q E s:=by
 cases p with
 | none=>exact slicePart_none h
 | int i t=>exact slicePart_int h
def WV {sl:Addr}{vl vu:Af}{lo hi:Option Int}{n:Nat}{Q:Int×Int×Nat->Aj->Prop} (hs:s.heap.IsSliceOf sl vl vu .none) (pl:IsPart vl lo) (pu:IsPart vu hi)
  (h:Q (((sIx n 0 lo:Nat):Int),1,sIx n n hi - sIx n 0 lo) s):As (Aq prog w) A (Tr (.ref sl) (pure (n:Int))) Q E s:=by
 obtain ⟨os,hos,hcs,hds⟩:=id hs;unfold Tr Builtin.Slice.sliceFields;refine AA (AA (K2 hos hds (x:=vl) rfl (AA (K2 hos hds (x:=vu) rfl (AA (K2 hos hds (x:=.none) rfl (Bq ?_)))))));refine AA (slicePart_none ?_);show As _ _ (if ((1:Int) == 0)=true then _ else _) _ _ s;rw [if_neg (by decide)];refine AA (Ti pl (AA (Ti pu (AA (Bq ?_)))));show As _ _ (match PD lo hi 1 (n:Int) with | (lo,hi)=>pure (lo,(1:Int),ME lo hi 1)) _ _ s;rw [jW lo hi n];show As _ _ (pure (((sIx n 0 lo:Nat):Int),(1:Int),ME ((sIx n 0 lo:Nat):Int) ((sIx n n hi:Nat):Int) 1)) _ _ s;rw [jP];exact Bq h
def zk (xs:Array Af) (i k:Nat):((Bw k).filterMap λ (m:Nat)=>xs[((i:Int) + (m:Int) * 1).toNat]?).toArray=((xs.toList.drop i).take k).toArray:=by
 have e:(λ (m:Nat)=>xs[((i:Int) + (m:Int) * 1).toNat]?)=λ m=>xs[i + m]?:=by
  funext m
  have:((i:Int) + (m:Int) * 1).toNat=i + m:=by omega
  rw [this]
 rw [e]
 have:=pick_run xs i k
 rw [List.filterMap_map] at this;have e2:((λ x=>xs[x]?) ∘ λ x=>i + x)=λ m=>xs[i + m]?:=rfl;rw [e2] at this;rw [this]
def getItem_tuple_cut {t sl:Addr}{items:Array Af}{vl vu:Af}{lo hi:Option Int}{Q:Af->Aj->Prop} (ht:IsTup s.heap t items) (hs:s.heap.IsSliceOf sl vl vu .none) (pl:IsPart vl lo) (pu:IsPart vu hi)
  (hw:¬ (sIx items.size 0 lo=0/\sIx items.size items.size hi=items.size))
  (h:Q (.ref s.heap.objs.size) { s with heap:=s.heap.push { cls:=.type "tuple",data:=.seq ((items.toList.drop (sIx items.size 0 lo)).take (sIx items.size items.size hi - sIx items.size 0 lo)).toArray } })
  (hsz:items.size<=Au):As (Aq prog w) A (getItem (.ref t) (.ref sl)) Q E s:=by
 have htake:sizeOk (.seq ((items.toList.drop (sIx items.size 0 lo)).take (sIx items.size items.size hi - sIx items.size 0 lo)).toArray):=by
  show ((items.toList.drop (sIx items.size 0 lo)).take (sIx items.size items.size hi - sIx items.size 0 lo)).toArray.size<=Au;rw [Cb,Fj,NA,Lw];omega
 have hj:sIx items.size items.size hi<=items.size:=Z2 _ _ (AS _) hi;obtain ⟨os,hos,hcs,hds⟩:=id hs;have hTs:s.TypeIs (.ref sl) "slice" := ⟨os,hos,hcs⟩
 unfold getItem
 try with_reducible refine GV ?_
 first | refine AA (Bq ?_) | skip
 refine AA (wpAny_sequenceKey ht.typeIs (by decide) ?_);refine AA (wpAny_callSpecial?_slot (name:=Str.ofString "__getitem__") ht.typeIs Tt
  (wpAny_call_entry Tt ht.typeIs entry_tuple_getitem ?_ (args_tuple_getitem _ _)))
 show As _ _ (Builtin.Tuple.tupleItemsOf (.ref t) >>= _) _ _ s;refine AA (tupleItemsOf_ ht ?_);refine AA (wpAny_typeOf hTs ?_);rw [if_pos (by decide)];refine AA (WV hs pl pu ?_);have hno:¬ ((((sIx items.size 0 lo:Nat):Int) == 0 && (1:Int) == 1 && (sIx items.size items.size hi - sIx items.size 0 lo) == items.size)=true):=by
  intro q;rw [AF,AF] at q;have q1:((sIx items.size 0 lo:Nat):Int)=0:=eq_of_beq q.1.1;have q2:sIx items.size items.size hi - sIx items.size 0 lo=items.size:=eq_of_beq q.2;exact hw ⟨by omega,by omega⟩
 show As _ _ (if (((sIx items.size 0 lo:Nat):Int) == 0 && (1:Int) == 1 && (sIx items.size items.size hi - sIx items.size 0 lo) == items.size)=true then _ else _) _ _ s;rw [if_neg hno,zk]
 first
  | exact AA (m:=MD _) (J8 (Bq ⟨_,rfl,Bq h⟩) htake)
  | exact AA (m:=MD _) (J8 (AA (Bq (Bq ⟨_,rfl,Bq h⟩))) htake)
  | exact AA (AA (m:=MD _) (J8 (Bq (Bq ⟨_,rfl,Bq h⟩)) htake))
  | exact AA (AA (m:=MD _) (J8 (Bq ⟨_,rfl,Bq h⟩) htake))
end
end HT
namespace L2
open PySem PySem.Spec PyProof.Rows
abbrev TO:=St->Hp->(Option Int->Hp->Prop)->Prop
def PO (X:Cx) (e:Option Expr) (t:TO):Prop:=
 ∀ (pins:List (Addr×Obj)) (s:Aj) (σ:St) (H:Hp) (Q:Option Int->Hp->Prop),Inv X pins σ H s->t σ H Q ->
  As (Aq X.prog X.w) X.A (evalPart e X.env) (λ u s'=>∃ o H',Inv X pins σ H' s'/\IsPart u o/\Q o H') X.xe s
def Vp:TO:=λ _ H Q=>Q none H
def TQ (t:TE):TO:=λ σ H Q=>t σ H λ x H1=>∃ i,x=.int i/\Q (some i) H1
section
variable {X:Cx}{e:Expr}{te:TE}{lo hi:Option Expr}{tl th:TO}{pos p2:Pos}
def Vd:PO X none Vp:=by
 intro pins s σ H Q I h;rw [evalPart_none];exact Bq ⟨none,H,I,.none,h⟩
def Mf (h:PE X e te):PO X (some e) (TQ te):=by
 intro pins s σ H Q I hw;rw [evalPart_some];refine A3 (h pins s σ H _ I hw) λ u s1 ⟨x,H1,I1,r1,q1⟩=>?_;obtain ⟨i,rfl,q⟩:=q1;obtain ⟨t,rfl⟩:=r1;exact ⟨some i,H1,I1,.int i t,q⟩
def SlR (X:Cx) (r:V->Option Int->Option Int->Hp->VK->Prop):Prop:=
 ∀ (pins:List (Addr×Obj)) (s:Aj) (σ:St) (H:Hp) (x:V) (v vl vu:Af) (lo hi:Option Int) (sl:Addr) (Q:VK),Inv X pins σ H s->RelV x v->s.heap.IsSliceOf sl vl vu .none->IsPart vl lo->IsPart vu hi->r x lo hi H Q ->
  ∃ T id,typeLookup (.type T) "__getitem__" = pure (some (.builtin id))/\s.TypeIs v T/\As (Aq X.prog X.w) X.A (getItem v (.ref sl)) (EP X pins σ Q) X.xe s
def SlR.or {r r':V->Option Int->Option Int->Hp->VK->Prop} (h:SlR X r) (h':SlR X r'):SlR X (λ x lo hi H Q=>r x lo hi H Q\/r' x lo hi H Q):=by
 intro pins s σ H x v vl vu lo hi sl Q I rx hs pl pu q;rcases q with q | q
 ·exact h pins s σ H x v vl vu lo hi sl Q I rx hs pl pu q
 ·exact h' pins s σ H x v vl vu lo hi sl Q I rx hs pl pu q
def Tw (r:V->Option Int->Option Int->Hp->VK->Prop) (te:TE) (tl th:TO):TE:=λ σ H Q=>te σ H λ x H1=>tl σ H1 λ l H2=>th σ H2 λ u H3=>r x l u H3 Q
def Ox {r:V->Option Int->Option Int->Hp->VK->Prop} (hr:SlR X r) (he:PE X e te) (hl:PO X lo tl) (hu:PO X hi th):PE X (.Subscript e (.Slice lo hi none p2) pos) (Tw r te tl th):=by
 intro pins s σ H Q I h;refine Subscript_ (A3 (he pins s σ H _ I h) λ v s1 ⟨x,H1,I1,r1,q1⟩=>?_);refine wpAny_Slice (A3 (hl pins s1 σ H1 _ I1 q1) λ vl s2 ⟨l,H2,I2,pl,q2⟩=>A3 (hu pins s2 σ H2 _ I2 q2) λ vu s3 ⟨u,H3,I3,pu,q3⟩=>?_);rw [evalPart_none];refine Bq ?_;have I4:Inv X pins σ H3 { s3 with heap:=s3.heap.push { cls:=.type "slice",data:=.fields #[vl,vu,.none] } }:=I3.kept (t':=s3.toks) λ b ob q=>CL _ q;obtain ⟨T,id,hT,ht,hg⟩:=hr pins { s3 with heap:=s3.heap.push { cls:=.type "slice",data:=.fields #[vl,vu,.none] } } σ H3 x v vl vu l u s3.heap.objs.size Q I4 r1 (Heap.IsSliceOf.new ..) pl pu q3;show As (Aq X.prog X.w) X.A (subscriptTail e (.Slice lo hi none p2) v (.ref s3.heap.objs.size)) (EP X pins σ Q) X.xe { s3 with heap:=s3.heap.push { cls:=.type "slice",data:=.fields #[vl,vu,.none] } };exact tail_any (ops:=[.ref s3.heap.objs.size,v]) ht hT hg (by with_unfolding_all rfl)
def CZ (xs:List V) (lo hi:Option Int):List V:=(xs.drop (HT.sIx xs.length 0 lo)).take (HT.sIx xs.length xs.length hi - HT.sIx xs.length 0 lo)
def Tq (xs:List V) (lo hi:Option Int):(CZ xs lo hi).length<=xs.length:=by
 unfold CZ;rw [Fj,NA];omega
def KQ (K:PySem.W.Frag):V->Option Int->Option Int->Hp->VK->Prop:=λ x lo hi H Q=>∃ a xs,x=.ref a/\Dc K H a xs /\
 ¬ (HT.sIx xs.length 0 lo=0/\HT.sIx xs.length xs.length hi=xs.length)/\∀ p,H p=none->Q (.ref p) (Aw H p (.tup (CZ xs lo hi)))
def qc0:SlR X (KQ X.K):=by
 intro pins s σ H x v vl vu lo hi sl Q I rx hs pl pu h;obtain ⟨a,xs,rfl,hx,hw,q⟩:=h;cases rx;obtain ⟨its,r,ht,hz⟩:=I.tuple hx;have hlen:its.toArray.size=xs.length:=by rw [Cb];exact r.length.symm
 refine ⟨"tuple",_,PyProof.Rows.slot_tuple_getitem.lookup,ht.typeIs,?_⟩;refine HT.getItem_tuple_cut ht hs pl pu (by rw [hlen];exact hw) ?_ (by rw [hlen];exact hz);rw [hlen];refine ⟨.ref s.heap.objs.size,_,I.laid (t':=s.toks) (o:=.tup (CZ xs lo hi)) (λ b ob q=>CL _ q) (AS _) ?_,rfl,q _ (I.hok.fresh (AS _))⟩;exact ⟨BH (Tq xs lo hi) hz,_,(r.drop (HT.sIx xs.length 0 lo)).take (HT.sIx xs.length xs.length hi - HT.sIx xs.length 0 lo),IsTup.new _ _⟩
def XH (K:PySem.W.Frag):R2:=λ x y H Q=>∃ a b xs ys,x=.ref a/\y=.ref b/\Dc K H a xs/\Dc K H b ys/\xs≠[]/\xs.length + ys.length<=Au /\
 (ys=[]->Q (.ref a) H)/\(ys≠[]->∀ p,H p=none->Q (.ref p) (Aw H p (.tup (xs++ys))))
theorem Vals.nil_iff {xs:List V}{us:List Af} (r:Vals xs us):us=[]↔xs=[]:=by
 cases r with
 | nil=>simp
 | cons _ _=>simp
def qkk:OpR X (DX .Add) (XH X.K):=by
 intro pins s σ H x y v u Q I rx ry h;obtain ⟨a,b,xs,ys,rfl,rfl,ha,hb,hx,hz,q1,q2⟩:=h;cases rx;cases ry;obtain ⟨its,r1,p1,_⟩:=I.tuple ha;obtain ⟨its2,r2,p2,_⟩:=I.tuple hb;refine HT.cat_tup p1 p2 (λ z=>hx (r1.nil_iff.mp z)) (λ z=>⟨.ref a,H,I,rfl,q1 (r2.nil_iff.mp z)⟩) (λ z=>?_) (by rw [<- r1.length,<- r2.length];exact hz);refine ⟨.ref s.heap.objs.size,_,I.laid (t':=s.toks) (o:=.tup (xs++ys)) (λ b ob q=>CL _ q) (AS _) ?_,rfl,q2 (λ w=>z (r2.nil_iff.mpr w)) _ (I.hok.fresh (AS _))⟩;exact ⟨by rw [Cd];exact hz,_,r1.append r2,IsTup.new _ _⟩
end
def Dq (n:Nat) (i:Int):Option Nat:=if 0<=i then (if i < n then some i.toNat else none) else if -(n:Int)<=i then some (i + n).toNat else none
def Bk {α:Type} (xs:List α) (i:Int):Option α:=(Dq xs.length i).bind λ j=>xs[j]?
def UR {n:Nat}{i:Int}{j:Nat} (h:Dq n i=some j):seqIndex? i n=some j/\j < n/\-(n:Int)<=i/\i < n:=by
 unfold Dq at h;by_cases h0:0<=i
 ·rw [if_pos h0] at h;by_cases h1:i < n
  ·rw [if_pos h1] at h;have e:i.toNat=j:=Option.some.inj h;exact ⟨by rw [M1 h0 h1,e],by omega,by omega,h1⟩
  ·rw [if_neg h1] at h;cases h
 ·rw [if_neg h0] at h;by_cases h1:-(n:Int)<=i
  ·rw [if_pos h1] at h;have e:(i + n).toNat=j:=Option.some.inj h;exact ⟨by rw [seqIndex_neg (by omega) h1,e],by omega,h1,by omega⟩
  ·rw [if_neg h1] at h;cases h
theorem Mw {α:Type}{xs:List α}{i:Int}{v:α} (h:Bk xs i=some v):∃ j,seqIndex? i xs.length=some j/\xs[j]?=some v/\j < xs.length/\-(xs.length:Int)<=i/\i < xs.length:=by
 unfold Bk at h;cases e:Dq xs.length i with
 | none=>rw [e] at h;cases h
 | some j=>
  rw [e] at h;obtain ⟨h1,h2,h3,h4⟩:=UR e;exact ⟨j,h1,h,h2,h3,h4⟩
def Kq (b:Expr):Prop:=∀ o i,subscripted b false o i=operate [o,i] (getItem o i)
def IxR (X:Cx) (r:R2):Prop:=
 ∀ (value slice:Expr) (pins:List (Addr×Obj)) (s:Aj) (σ:St) (H:Hp) (x y:V) (v u:Af) (Q:VK),Inv X pins σ H s->RelV x v->RelV y u->r x y H Q ->
  subscripted slice false v u=operate [v,u] (getItem v u)->As (Aq X.prog X.w) X.A (subscriptTail value slice v u) (EP X pins σ Q) X.xe s
def Sa (X:Cx) (id:String) (r:V->List V->Hp->VK->Prop):Prop:=
 ∀ (pins:List (Addr×Obj)) (s:Aj) (σ:St) (H:Hp) (x:V) (xs:List V) (v:Af) (us:List Af) (Q:VK),Inv X pins σ H s->RelV x v->Vals xs us->r x xs H Q ->
  As (Aq X.prog X.w) X.A (call (.builtin id) (v::us)) (EP X pins σ Q) X.xe s
section
variable {X:Cx}{a b:Expr}{ta tb:TE}{pos:Pos}
def IxR.or {r r':R2} (h:IxR X r) (h':IxR X r'):IxR X (λ x y H Q=>r x y H Q\/r' x y H Q):=by
 intro value slice pins s σ H x y v u Q I rx ry q hs;rcases q with q | q
 ·exact h value slice pins s σ H x y v u Q I rx ry q hs
 ·exact h' value slice pins s σ H x y v u Q I rx ry q hs
def Ng {r:R2} (hr:IxR X r) (ha:PE X a ta) (hb:PE X b tb) (hs:Kq b):PE X (.Subscript a b pos) (Ip r ta tb):=by
 intro pins s σ H Q I h;exact Subscript_ (IU ha hb I h λ v u s2 x y H2 I2 rx ry q=>hr a b pins s2 σ H2 x y v u Q I2 rx ry q (hs _ _))
def I0 (K:PySem.W.Frag):R2:=λ x y H Q=>∃ p xs i v,x=.ref p/\y=.int i/\Cf K H p xs/\Bk xs i=some v/\Q v H
def KW (K:PySem.W.Frag):R2:=λ x y H Q=>∃ p xs i v,x=.ref p/\y=.int i/\Dc K H p xs/\Bk xs i=some v/\Q v H
def KY:R2:=λ x y H Q=>∃ z i c,x=.str z/\y=.int i/\z.length<=Au/\Bk z.cps.toList i=some c/\Q (.str ⟨#[c]⟩) H
def zhl:IxR X (I0 X.K):=by
 intro value slice pins s σ H x y v u Q I rx ry h hs;obtain ⟨p,xs,i,z,rfl,rfl,hq,he,q⟩:=h;cases rx;obtain ⟨t,rfl⟩:=ry;obtain ⟨its,r,pl,hz⟩:=I.list hq;obtain ⟨j,h1,h2,h3,h4,h5⟩:=Mw he;obtain ⟨w,ew,rw'⟩:=r.get h2;have hl:=r.length;have hn:=Jn;have fin:EP X pins σ Q w s:=⟨z,H,I,rw',q⟩
 by_cases h0:0<=i
 ·have hj:i.toNat=j:=by
   rw [M1 h0 h5] at h1;exact Option.some.inj h1
  exact item_listR pl.isList h0 (by omega) (by rw [hj];simpa using ew) fin hs
 ·have hj:(i + (its.toArray.size:Int)).toNat=j:=by
   rw [seqIndex_neg (by omega) h4] at h1;rw [Cb,<- hl];exact Option.some.inj h1
  exact Px (x:=w) pl.isList.typeIs slot_list_getitem.lookup
   (wpAny_getItem_list_neg (Q:=λ r s'=>r=w/\EP X pins σ Q r s') pl.isList (by omega) (by rw [Cb] <;> omega) (by omega) (by rw [hj];simpa using ew) ⟨rfl,fin⟩) hs
def qoa:IxR X (KW X.K):=by
 intro value slice pins s σ H x y v u Q I rx ry h hs;obtain ⟨p,xs,i,z,rfl,rfl,hq,he,q⟩:=h;cases rx;obtain ⟨t,rfl⟩:=ry;obtain ⟨its,r,pl,hz⟩:=I.tuple hq;obtain ⟨j,h1,h2,h3,h4,h5⟩:=Mw he;obtain ⟨w,ew,rw'⟩:=r.get h2;have hl:=r.length;have hn:=Jn;have fin:EP X pins σ Q w s:=⟨z,H,I,rw',q⟩
 exact Px (x:=w) pl.typeIs slot_tuple_getitem.lookup
  (getItem_tuple (j:=j) (Q:=λ r s'=>r=w/\EP X pins σ Q r s') pl (by omega) (by omega) (by rw [Cb,<- hl];exact h1) (by simpa using ew) ⟨rfl,fin⟩) hs
def Ys:IxR X KY:=by
 intro value slice pins s σ H x y v u Q I rx ry h hs;obtain ⟨z,i,c,rfl,rfl,hz,he,q⟩:=h;obtain ⟨t,rfl⟩:=rx;obtain ⟨t',rfl⟩:=ry;obtain ⟨j,h1,h2,h3,h4,h5⟩:=Mw he;have hl:z.cps.toList.length=z.length:=by simp [Str.length]
 rw [hl] at h1 h4 h5;have hn:=Jn;exact tail_any (HE s z t) slot_str_getitem.lookup (getItem_str (c:=c) (by
  have e1:decide (i < -(2 ^ 63:Int))=false:=decide_eq_false (by omega);have e2:decide (i ≥ 2 ^ 63)=false:=decide_eq_false (by omega);rw [e1,e2,Wo]) (by rw [h1];simpa using h2) ⟨.str ⟨#[c]⟩,H,I.tok _,⟨_,rfl⟩,q⟩) hs
def Xq (K:PySem.W.Frag):R2:=λ x y H Q=>I0 K x y H Q\/KW K x y H Q\/KY x y H Q
def Ur:IxR X (Xq X.K):=zhl.or (qoa.or Ys)
def jJ (its:List Af) (n j:Nat) (u:Af):K1 (·.setIfInBounds j u) { cls:=.type "list",data:=.seq its.toArray n }={ cls:=.type "list",data:=.seq (its.set j u).toArray n }:=by
 simp [K1]
def Inv.lst {pins:List (Addr×Obj)}{σ:St}{H:Hp}{s:Aj}{p:Addr}{xs:List V} (I:Inv X pins σ H s) (h:H p=some (.lst xs)):
  ∃ (its:List Af) (n:Nat),Vals xs its/\s.heap.get? p=some { cls:=.type "list",data:=.seq its.toArray n }/\xs.length<=Au:=by
 obtain ⟨z,its,n,r,e⟩:=I.hok p _ h;exact ⟨its,n,r,e,z⟩
def Inv.lstUpd {pins:List (Addr×Obj)}{σ:St}{H:Hp}{s:Aj}{p:Addr}{xs ys:List V}{its its':List Af}{n n':Nat}{f:Obj->Obj} (I:Inv X pins σ H s) (h:H p=some (.lst xs))
  (ho:s.heap.get? p=some { cls:=.type "list",data:=.seq its.toArray n }) (hf:f { cls:=.type "list",data:=.seq its.toArray n }={ cls:=.type "list",data:=.seq its'.toArray n' }) (r:Vals ys its') (hz:ys.length<=Au) (t:Nat):
  Inv X pins σ (Aw H p (.lst ys)) { s with heap:=s.heap.update p f,toks:=t }:=by
 have e:(s.heap.update p f).get? p=some { cls:=.type "list",data:=.seq its'.toArray n' }:=by
  rw [Heap.get?_update_self f ho (by rw [hf] <;> rfl),hf]
 refine I.write (x:=p) (e:=p) (by rw [h];trivial) (.inl rfl) (λ b u hb q=>(Pt _ _ (BF hb)).trans q) ⟨_,e⟩ ?_;exact ⟨hz,its',n',r,e⟩
def TU:V->V->V->Hp->(Hp->Prop)->Prop:=λ o i v H Q=>∃ p xs k j,o=.ref p/\i=.int k/\H p=some (.lst xs)/\Dq xs.length k=some j/\Q (Aw H p (.lst (xs.set j v)))
def zR:PSet X TU:=by
 intro pins s σ H o i v ov iv u Q I ro ri rv h;obtain ⟨p,xs,k,j,rfl,rfl,hp,hj,q⟩:=h;cases ro;obtain ⟨t,rfl⟩:=ri;obtain ⟨its,n,r,ho,hz⟩:=I.lst hp;obtain ⟨h1,h2,h3,h4⟩:=UR hj;have hl:=r.length;have hn:=Jn;have I':Inv X pins σ (Aw H p (.lst (xs.set j v))) { s with heap:=s.heap.update p (K1 (·.setIfInBounds j u)) }:=
  I.lstUpd hp ho (jJ its n j u) (r.set rv j) (by rw [FW];exact hz) s.toks
 by_cases h0:0<=k
 ·have hk:k.toNat=j:=by
   rw [M1 h0 h4] at h1;exact Option.some.inj h1
  exact PySem.W.ki_setAt ho h0 (by omega) (by rw [Cb,<- hl];exact h4) (by rw [hk];exact ⟨_,I',q⟩)
 ·have hk:(k + (its.toArray.size:Int)).toNat=j:=by
   rw [seqIndex_neg (by omega) h3] at h1;rw [Cb,<- hl];exact Option.some.inj h1
  exact PySem.W.ki_setBack ho (by omega) (by rw [Cb,<- hl];exact h3) (by omega) (by rw [hk];exact ⟨_,I',q⟩)
def Xk (lo hi:Option Int) (n:Nat):(Ib lo hi none n).1=((HT.sIx n 0 lo:Nat):Int)/\(Ib lo hi none n).2.1=((HT.sIx n n hi:Nat):Int)/\(Ib lo hi none n).2.2=1:=by
 refine ⟨?_,?_,rfl⟩
 ·cases lo with
  | none=>simp [Ib,HT.sIx]
  | some i=>
   simp only [Ib,HT.sIx,W5,show (1:Int) > 0 by decide,if_true];by_cases h:i < 0
   ·simp only [h,if_true] <;> omega
   ·simp only [h,if_false] <;> omega
 ·cases hi with
  | none=>simp [Ib,HT.sIx]
  | some i=>
   simp only [Ib,HT.sIx,W5,show (1:Int) > 0 by decide,if_true];by_cases h:i < 0
   ·simp only [h,if_true] <;> omega
   ·simp only [h,if_false] <;> omega
def WW (its:List Af) (lo hi:Option Int):slicePick its.toArray lo hi none=((its.drop (HT.sIx its.length 0 lo)).take (HT.sIx its.length its.length hi - HT.sIx its.length 0 lo)).toArray:=by
 obtain ⟨h1,h2,h3⟩:=Xk lo hi its.toArray.size;unfold slicePick;rw [h1,h2,h3];simp only [sliceRange_one,pick_run,Cb] <;> rfl
def KU (K:PySem.W.Frag):V->Option Int->Option Int->Hp->VK->Prop:=λ x lo hi H Q=>∃ a xs,x=.ref a/\Cf K H a xs/\∀ p,H p=none->Q (.ref p) (Aw H p (.lst (CZ xs lo hi)))
def zgz:SlR X (KU X.K):=by
 intro pins s σ H x v vl vu lo hi sl Q I rx hs pl pu h;obtain ⟨a,xs,rfl,hx,q⟩:=h;cases rx;obtain ⟨its,r,ht,hz⟩:=I.list hx;have hlen:=r.length;refine ⟨"list",_,slot_list_getitem.lookup,ht.isList.typeIs,?_⟩;refine wpAny_getItem_list_slice ht.isList hs pl pu .none (by simp) ?_ (by rw [Cb] <;> omega);rw [WW,<- hlen];refine ⟨.ref s.heap.objs.size,_,I.laid (t':=s.toks) (o:=.lst (CZ xs lo hi)) (λ b ob q=>CL _ q) (AS _) ?_,rfl,q _ (I.hok.fresh (AS _))⟩;exact ⟨BH (Tq xs lo hi) hz,_,0,(r.drop (HT.sIx xs.length 0 lo)).take (HT.sIx xs.length xs.length hi - HT.sIx xs.length 0 lo),Ea _ rfl⟩
def zgo:zzr X (.builtin "len") (λ xs H Q=>∃ p ys,xs=[.ref p]/\(Cf X.K H p ys\/Dc X.K H p ys)/\Q (.int ys.length) H):=by
 intro pins s σ H xs us Q I r h;obtain ⟨p,ys,rfl,hq,q⟩:=h;obtain ⟨u,rfl,rx⟩:=Eu r;cases rx;have hn:=Jn;rcases hq with hq | hq
 ·obtain ⟨its,r',pl,hz⟩:=I.list hq;have hlen:=r'.length;exact Calls.call_len_list pl.isList (by simp only [Cb] <;> omega) ⟨.int ys.length,H,I.tok _,⟨s.toks + 1,by rw [Cb,hlen]⟩,q⟩
 ·obtain ⟨its,r',pl,hz⟩:=I.tuple hq;have hlen:=r'.length;exact len_tuple pl (by simp only [Cb] <;> omega) ⟨.int ys.length,H,I.tok _,⟨s.toks + 1,by rw [Cb,hlen]⟩,q⟩
def Xg:zzr X (.builtin "len") (λ xs H Q=>∃ z,xs=[.str z]/\z.length<=Au/\Q (.int z.length) H):=by
 intro pins s σ H xs us Q I r h;obtain ⟨z,rfl,hz,q⟩:=h;obtain ⟨u,rfl,t,rfl⟩:=Eu r;have hn:=Jn;exact len_str (by omega) ⟨.int z.length,H,I.tok _,⟨_,rfl⟩,q⟩
def zzr.or {f:Af}{r r':List V->Hp->VK->Prop} (h:zzr X f r) (h':zzr X f r'):zzr X f (λ xs H Q=>r xs H Q\/r' xs H Q):=by
 intro pins s σ H xs us Q I rs q;rcases q with q | q
 ·exact h pins s σ H xs us Q I rs q
 ·exact h' pins s σ H xs us Q I rs q
def Xh:zzr X (.type "list") (λ xs H Q=>∃ p ys,xs=[.ref p]/\(Cf X.K H p ys\/Dc X.K H p ys)/\∀ l,H l=none->Q (.ref l) (Aw H l (.lst ys))):=by
 intro pins s σ H xs us Q I r h;obtain ⟨p,ys,rfl,hq,q⟩:=h;obtain ⟨u,rfl,rx⟩:=Eu r;cases rx;have fin:∀ (its:List Af),Vals ys its->ys.length<=Au->∀ (h':Heap) (c':Nat),(∀ b o',s.heap.get? b=some o'->h'.get? b=some o') ->
   h'.get? s.heap.objs.size=some { cls:=.type "list",dict:=none,data:=.seq its.toArray c',slots:=#[] }->EP X pins σ Q (.ref s.heap.objs.size) { s with heap:=h' }:=λ its r' hz h' c' kp e=>
  ⟨.ref s.heap.objs.size,_,I.laid (t':=s.toks) kp (AS _) (show zwl X.prog X.w _ h' _ (.lst ys) from ⟨hz,its,c',r',e⟩),rfl,q _ (I.hok.fresh (AS _))⟩
 rcases hq with hq | hq
 ·obtain ⟨its,r',pl,hz⟩:=I.list hq;have hlen:=r'.length;obtain ⟨o,ho,hc,n,hd⟩:=pl.isList;exact call_list_seq p (.inl rfl) ho hc hd (λ h' c' kp e=>fin its r' hz h' c' kp e) (by simp only [Cb] <;> omega)
 ·obtain ⟨its,r',pl,hz⟩:=I.tuple hq;have hlen:=r'.length;obtain ⟨o,ho,hc,n,hd⟩:=pl;exact call_list_seq p (.inr rfl) ho hc hd (λ h' c' kp e=>fin its r' hz h' c' kp e) (by simp only [Cb] <;> omega)
def Xl:zzr X (.type "tuple") (λ xs H Q=>∃ p ys,xs=[.ref p]/\((Cf X.K H p ys/\∀ l,H l=none->Q (.ref l) (Aw H l (.tup ys)))\/(Dc X.K H p ys/\Q (.ref p) H))):=by
 intro pins s σ H xs us Q I r h;obtain ⟨p,ys,rfl,h⟩:=h;obtain ⟨u,rfl,rx⟩:=Eu r;cases rx;rcases h with ⟨hq,q⟩ | ⟨hq,q⟩
 ·obtain ⟨its,r',pl,hz⟩:=I.list hq;have hlen:=r'.length;refine call_tuple_list pl.isList (λ h' kp=>?_) (by simp only [Cb] <;> omega);have I1:Inv X pins σ H { s with heap:=h' }:=I.kept (t':=s.toks) kp;have I2:Inv X pins σ (Aw H h'.objs.size (.tup ys)) { s with heap:=h'.push { cls:=.type "tuple",data:=.seq its.toArray } }:=
   I1.laid (t':=s.toks) (λ b o e=>CL _ e) (AS _) (show zwl X.prog X.w _ _ _ (.tup ys) from ⟨hz,its,r',IsTup.new _ _⟩)
  exact ⟨.ref h'.objs.size,_,I2,rfl,q _ (I1.hok.fresh (AS _))⟩
 ·obtain ⟨its,r',pl,hz⟩:=I.tuple hq;exact call_tuple_same pl ⟨.ref p,H,I,rfl,q⟩
def PH (K:PySem.W.Frag) (T:String) (x:V) (H:Hp):Prop:=match x with
 | .str _=>T = "str"
 | .int _=>T = "int"
 | .ref p=>(T = "list" /\ ∃ xs,Cf K H p xs)\/(T = "tuple" /\ ∃ o,K.lookup p=some o/\o.cls=.type "tuple" /\ o.dict=none) \/
   (T = "dict" /\ ((∃ kvs,H p=some (.dK kvs))\/∃ kvs,H p=some (.dT kvs)))\/(T = "set" /\ ∃ S n,H p=some (.set S n))
 | _=>False
theorem ZQ {pins:List (Addr×Obj)}{σ:St}{H:Hp}{s:Aj}{T:String}{x:V}{v:Af} (I:Inv X pins σ H s) (r:RelV x v) (ty:PH X.K T x H):
  s.TypeIs v T/\∀ a,v=.ref a->∃ ob,s.heap.get? a=some ob/\ob.dict=none:=by
 cases x with
 | str z=>
  obtain ⟨t,rfl⟩:=r;cases (show T = "str" from ty);exact ⟨HE s z t,λ _ e=>nomatch e⟩
 | int i=>
  obtain ⟨t,rfl⟩:=r;cases (show T = "int" from ty);exact ⟨typeIs_int s i t,λ _ e=>nomatch e⟩
 | ref p=>
  cases r;rcases ty with ⟨rfl,xs,hq⟩ | ⟨rfl,o,hk,hc,hd⟩ | ⟨rfl,hk⟩ | ⟨rfl,S,n,hk⟩
  ·obtain ⟨its,_,pl,_⟩:=I.list hq;refine ⟨pl.isList.typeIs,λ a e=>?_⟩;cases e;obtain ⟨o,n,e,c,hd,_⟩:=pl;exact ⟨o,e,hd⟩
  ·refine ⟨⟨o,I.kIn p o hk,hc⟩,λ a e=>?_⟩;cases e;exact ⟨o,I.kIn _ o hk,hd⟩
  ·have z:∃ o,s.heap.get? p=some o/\o.ExactDict:=by
    rcases hk with ⟨kvs,hk⟩ | ⟨kvs,hk⟩
    ·obtain ⟨_,_,_,_,o,_,_,e,ex,_⟩:=I.hok p _ hk;exact ⟨o,e,ex⟩
    ·obtain ⟨_,_,_,_,o,_,_,e,ex,_⟩:=I.hok p _ hk;exact ⟨o,e,ex⟩
   obtain ⟨o,e,ex⟩:=z;refine ⟨⟨o,e,ex.1⟩,λ a e2=>?_⟩;cases e2;exact ⟨o,e,ex.2.1⟩
  ·obtain ⟨o,_,_,_,e,ex,_⟩:=I.hok p _ hk;refine ⟨⟨o,e,ex.1⟩,λ a e2=>?_⟩;cases e2;exact ⟨o,e,ex.2.1⟩
 | _=>exact Gu ty
def MG (K:PySem.W.Frag) (T:String) (r:V->List V->Hp->VK->Prop) (to:TE) (t:TA):TE:=λ σ H Q=>to σ H λ x H1=>PH K T x H1/\t σ H1 λ xs H2=>r x xs H2 Q
variable {o e:Expr}{es:List Expr}{to:TE}{t:TA}{name:Str}{apos cpos:Pos}{T id:String}{r:V->List V->Hp->VK->Prop}
def Nf (pa:PlainAttrs T) (slot:Slot T name id) (hty:typeOf (.builtin id)=pure (.type "method_descriptor")) (hm:Sa X id r) (ho:PE X o to) (ha:PA X (e::es) t)
  (hbase:M6 o name X.env (eval o X.env)=eval o X.env:=by rfl)
  (hfew:((Cz cpos (A5 (e::es) X.env)).all (λ x=>!x.1) && (backToKw cpos (M0 [] X.env)).all (λ x=>x.1.isSome)
   && decide ((e::es).length + ([]:List Gs).length + (if ([]:List Gs).isEmpty then 0 else 1) < 30))=true:=by rfl)
  (hline:(apos.endLine == cpos.line)=true:=by rfl) (hs:A5 (e::es) X.env=(false,eval e X.env)::A5 es X.env:=by rfl) (hplain:(Cz cpos (A5 es X.env)).any (·.1)=false:=by rfl):
  PE X (.Call (.Attribute o name apos) (e::es) [] cpos) (MG X.K T r to t):=by
 intro pins s σ H Q I h;refine wpAny_Call_method_late hbase hfew hline rfl (A3 (ho pins s σ H _ I h) λ v s1 ⟨x,H1,I1,r1,ty,q1⟩=>?_);obtain ⟨h1,h2⟩:=ZQ I1 r1 ty;refine ⟨T,id,pa,slot,hty,h1,h2,?_⟩;have hA:=ha cpos pins s1 σ H1 _ I1 q1;rw [hs] at hA ⊢;refine Calls.callWith_builtin (by show (false || (Cz cpos (A5 es X.env)).any (·.1))=false;rw [hplain] <;> rfl) (Pn ?_);exact A3 hA λ us s2 ⟨vs,H2,I2,r2,q2⟩=>hm pins s2 σ H2 x vs v us Q I2 r1 r2 q2
end
def kT (X:Cx) (id:String) (r:V->List V->Hp->VK->Prop):Prop:=
 ∀ (pins:List (Addr×Obj)) (s:Aj) (σ:St) (H:Hp) (x:V) (xs:List V) (v:Af) (us:List Af) (Q:VK),Inv X pins σ H s->RelV x v->Vals xs us->r x xs H Q ->
  As (Aq X.prog X.w) X.A (call (.builtin id) (v::us)) (EP X pins σ Q) X.xe s
theorem Vals.one:∀ {x:V}{us:List Af},Vals [x] us->∃ u,us=[u]/\RelV x u
 | _,_,.cons r .nil=>⟨_,rfl,r⟩
theorem Vals.rep {xs:List V}{us:List Af} (h:Vals xs us):∀ k:Nat,Vals (AM k xs).flatten (AM k us).flatten
 | 0=>.nil
 | k + 1=>by
  rw [Hg,Hg,IH,IH];exact Vals.append h (Vals.rep h k)
theorem SO (its:List Af):∀ (k:Nat) (acc:List Af),
  Rj (λ x1 x2=>x1++x2) acc.toArray (AM k its.toArray)=(acc++(AM k its).flatten).toArray
 | 0,acc=>by simp
 | k + 1,acc=>by
  have e:acc.toArray++its.toArray=(acc++its).toArray:=by simp
  have e2:(acc++its)++(AM k its).flatten=acc++(AM (k + 1) its).flatten:=by
   rw [Hg,IH,NC]
  rw [<- e2,<- SO its k (acc++its),<- e,Hg,Wv]
section
variable {X:Cx}{pins:List (Addr×Obj)}{σ:St}{H:Hp}{s:Aj}{l b:Addr}{xs ys zs:List V}
def Inv.lset {its its':List Af}{n:Nat}{f:Array Af->Array Af}{t':Nat} (I:Inv X pins σ H s) (hH:H l=some (.lst xs))
  (e:s.heap.get? l=some { cls:=.type "list",data:=.seq its.toArray n }) (hf:f its.toArray=its'.toArray) (hv:Vals ys its') (hz:ys.length<=Au):
  Inv X pins σ (Aw H l (.lst ys)) { s with heap:=s.heap.update l (K1 f),toks:=t' }:=by
 have q:=PySem.IsL.update e f;rw [hf] at q;refine I.write (x:=l) (e:=l) (by rw [hH];exact trivial) (.inl rfl) (λ b' u hb hu=>(Pt s.heap (K1 f) (BF hb)).trans hu) ⟨_,q⟩ ?_;exact ⟨hz,its',_,hv,q⟩
def Inv.lnew {its:List Af}{t':Nat} (I:Inv X pins σ H s) (hv:Vals ys its) (hz:ys.length<=Au):
  Inv X pins σ (Aw H s.heap.objs.size (.lst ys)) { s with heap:=s.heap.push { cls:=.type "list",data:=.seq its.toArray },toks:=t' }:=
 I.laid (λ _ _ q=>CL _ q) (AS _) ⟨hz,its,0,hv,Ea _ rfl⟩
def Inv.fresh (I:Inv X pins σ H s):H s.heap.objs.size=none:=I.hok.fresh (AS _)
def Inv.lstM (I:Inv X pins σ H s) (hH:H l=some (.lst xs)):xs.length<=Au/\∃ (its:List Af) (n:Nat),Vals xs its/\xs.length=its.length/\s.heap.get? l=some { cls:=.type "list",data:=.seq its.toArray n }:=by
 obtain ⟨z,its,n,r,e⟩:=I.hok l _ hH;exact ⟨z,its,n,r,r.length,e⟩
def xZ {n:Nat} (h:n<=Au):Pz n=false:=by
 unfold Pz;exact decide_eq_false (by omega)
end
section
variable {X:Cx}
def OJ:V->List V->Hp->VK->Prop:=λ x vs H Q=>∃ l xs y,x=.ref l/\vs=[y]/\H l=some (.lst xs)/\xs.length < Au/\Q .non (Aw H l (.lst (xs++[y])))
def Mi:kT X "list.append" OJ:=by
 intro pins s σ H x vs v us Q I rx rv h;obtain ⟨l,xs,y,rfl,rfl,hH,hz,q⟩:=h;cases rx;obtain ⟨u,rfl,ru⟩:=rv.one;obtain ⟨z,its,n,r,hl,e⟩:=I.lstM hH;refine Jv F.slot_list_append ⟨_,e,rfl⟩ F.entry_list_append (F.args_list_append_2 _ _) (PySem.list_append l its.toArray n u (by rw [Cb];omega)) ⟨e,?_⟩;refine ⟨.non,_,I.lset (its':=its++[u]) hH e (by simp) (r.append (.cons ru .nil)) ?_,rfl,q⟩;rw [Cd,JL];omega
def PY:R2:=λ x y H Q=>∃ l b xs zs,x=.ref l/\y=.ref b/\H l=some (.lst xs)/\H b=some (.lst zs)/\xs.length + zs.length<=Au/\∀ p,H p=none->Q (.ref p) (Aw H p (.lst (xs++zs)))
def qih:OpR X (DX .Add) PY:=by
 intro pins s σ H x y v u Q I rx ry h;obtain ⟨l,b,xs,zs,rfl,rfl,hH,hB,hz,q⟩:=h;cases rx;cases ry;obtain ⟨z,its,n,r,hl,e⟩:=I.lstM hH;obtain ⟨z2,its2,n2,r2,hl2,e2⟩:=I.lstM hB;refine PySem.P.add_list e e2 ?_ (by rw [Cb,Cb];omega);have ea:its.toArray++its2.toArray=(its++its2).toArray:=by simp
 rw [ea];exact ⟨.ref _,_,I.lnew (t':=s.toks) (r.append r2) (by rw [Cd];omega),rfl,q _ I.fresh⟩
def PX:R2:=λ x y H Q=>∃ l k xs,x=.ref l/\y=.int k/\H l=some (.lst xs)/\-(2 ^ 63)<=k/\k < 2 ^ 63/\xs.length * k.toNat<=Au /\
 ∀ p,H p=none->Q (.ref p) (Aw H p (.lst (AM k.toNat xs).flatten))
theorem ZX {α:Type} (xs:List α) (k:Nat):(AM k xs).flatten.length=k * xs.length:=by
 induction k with
 | zero=>simp
 | succ k ih=>rw [Hg,IH,Cd,ih,Nat.succ_mul,Nat.add_comm]
def qnm:OpR X (DX .Mult) PX:=by
 intro pins s σ H x y v u Q I rx ry h;obtain ⟨l,k,xs,rfl,rfl,hH,h1,h2,hz,q⟩:=h;cases rx;obtain ⟨t,rfl⟩:=ry;obtain ⟨z,its,n,r,hl,e⟩:=I.lstM hH;have hlen:its.toArray.size * k.toNat<=Au:=by rw [Cb,<- hl];exact hz
 have hcap:¬ its.toArray.size * k.toNat > (2 ^ 63 - 1) / 8:=by
  have:(Au:Nat)<=(2 ^ 63 - 1) / 8:=by decide
  omega
 have hfit:¬ (!Builtin.List.listFitsIndex k)=true:=by
  rw [fitsIndex_both h1 h2];exact BN
 have hlong:¬ Pz (its.toArray.size * k.toNat)=true:=by
  rw [xZ hlen];exact BN
 have hnew:Rj (λ x1 x2=>x1++x2) #[] (AM (if its.toArray.isEmpty=true then 0 else k.toNat) its.toArray)=(AM k.toNat its).flatten.toArray:=by
  have f0:∀ m:Nat,Rj (λ x1 x2=>x1++x2) #[] (AM m its.toArray)=(AM m its).flatten.toArray:=λ m=>by
   have:=SO its m []
   rw [Lr] at this;exact this
  rw [f0];cases its with
  | nil=>simp
  | cons a r'=>rw [if_neg (by simp)]
 refine wpAny_binaryOp_repeat_ref (T := "list") (U := "int") (by decide) ⟨_,e,rfl⟩ (λ s'=>typeIs_int s' k t) noFill_list_mul F.fills_int_mul F.slot_int_rmul repeat_list F.slot_int_index.lookup
  (Jv F.slot_int_rmul (typeIs_int s k t) F.entry_int_rmul (F.args_int_rmul_2 _ _) (int___rmul___int_list k t l its.toArray n)
   ⟨e,rfl,⟨_,e,rfl⟩,Jv F.slot_list_mul ⟨_,e,rfl⟩ F.entry_list_mul (F.args_list_mul_2 _ _) (AutoListH.list___mul___list_int_3 l its.toArray n k t hfit hcap hlong) ⟨e,?_⟩⟩)
 rw [hnew];exact ⟨.ref _,_,I.lnew (t':=s.toks) (r.rep k.toNat) (by rw [ZX,Wk];exact hz),rfl,q _ I.fresh⟩
end
section
variable {prog:A7}{w:A6}{A:AZ}{E:Af->Aj->Prop}{s:Aj}
end
section
variable {X:Cx}
end
end L2
namespace Att
open PySem PySem.W PySem.Calls PyProof.Rows
theorem WY {P:Params}{h:Heap}:∀ (ns:List Int) (vs:List Af),WellAll P h vs (ns.map WData.int)->IntsAre vs ns:=by
 intro ns;induction ns with
 | nil=>
  intro vs w;rw [HG] at w;cases w;exact .nil
 | cons n ns ih=>
  intro vs w;rw [BA] at w;cases w with
  | cons a b=>
   cases a;exact .cons _ _ (ih _ b)
theorem jG {l:OpenLaw}{n:Nat} (hn:l.most=some n) {P:Params}{h:Heap}{args:List WData}{vals:List Af}
  (hpre:l.row.toRowW.claim.pre args=true) (hwl:WellAll P h vals args):
  ∃ a vs ns,vals=[Value.ref a]/\args=[WData.list (ns.map WData.int)]/\h.get? a=some { cls:=.type "list",data:=.seq vs.toArray }/\IntsAre vs ns/\ns.length<=n:=by
 have hsh:WShape.hasAll [] args [.list .int]=true:=(pre_splitW hpre).1;have hc:l.pre.holds [] { args:=args }=true:=(pre_splitW hpre).2;obtain ⟨d,r,rfl,h1,h2⟩:=hasAllW_cons hsh;obtain rfl:=hasAllW_nil h2;obtain ⟨xs,rfl,h3⟩:=hasW_list h1;obtain ⟨ns,rfl⟩:=items_int h3;have hlen:ns.length<=n:=by
  unfold OpenLaw.pre at hc;have h4:(WTm.not (.lt (.lit (.int (n:Int))) (.len (.arg 0)))).holds [] { args:=[.list (ns.map .int)] }=true:=by
   have h4:=(holds_andW hc).1;rw [hn] at h4;exact h4
  have h5:=condW_of h4 (w_not (w_lt w_lit (w_len_list (w_arg rfl))));rw [Bg] at h5;refine Nat.le_of_not_lt λ q=>?_;have q':(n:Int) < ((ns.length:Nat):Int):=by omega
  first
   | (rw [decide_eq_true q'] at h5;exact absurd h5 (by decide))
   | (simp at h5;omega)
 cases hwl with
 | cons w1 w2=>
  cases w2;cases w1 with
  | list ho hall=>exact ⟨_,_,ns,rfl,rfl,ho,WY ns _ hall,hlen⟩
def j4 (l:OpenLaw) (args:List WData):l.row.toRowW.claim.post args (.bool true) args=true:=
 postW_of (r:=l.row.toRowW) (X:=(true == true))
  (show WShape.has [] (.bool true) .bool=true by first | rfl | decide | simp [WShape.has,WShape.arms,WShape.armsAll])
  (show (WTm.eq .res (.lit (.bool true))).value [] { args:=args,res:=some (.bool true),after:=args }=some (.bool (true == true)) from w_eq_bool (w_res rfl) w_lit) rfl
def attach_call {l:OpenLaw}{n:Nat}{q:A7}{loose:List Str}{XP:(Str->Option Af)->Heap->Prop}{YP:A6->Heap->Prop}{d:DefRec}
  (hn:l.most=some n) (hdf:d.params.defaults=[])
  (call:∀ (w:A6) (s₀ s₁:Aj) (mg mb:Str->Option Af) (fa:Addr) (o:Obj) (pm cd doc:Af) (a:Addr) (vs:List Af) (ns:List Int),
   Ground q loose [] XP w s₀ mg mb s₁.heap->YP w s₁.heap ->
   s₁.heap.get? fa=some o->o.data=.func (docDef d.name d.params d.body d.scope pm cd doc)->s₁.heap.CodeRec cd d.name->mg d.name=some (.ref fa) ->
   s₁.heap.get? a=some { cls:=.type "list",data:=.seq vs.toArray }->IntsAre vs ns->ns.length<=n->s₁.gens=#[] ->
   EZ (Aq l.prog w) HZ (.call (.ref fa) ⟨[.ref a],[]⟩) (λ r s'=>r=.ok (.ret (.bool true))/\OldK s₁.heap s'.heap/\s'.os=s₁.os/\EF s'.gens) s₁):
  WalkO q loose XP YP l.row.toRowW d [] (λ f vs=>PySem.call f vs):=by
 intro w s₀ s₁ mg mb G Y fa o pm cd doc dV kV ho hd hcd hD hmg hg args vals as hpre hlay hrd hwl hlo;obtain rfl:dV=.none:=Dflts.none hD hdf;obtain rfl:kV=.none:=Dflts.noKw hD;obtain ⟨a,vs,ns,rfl,rfl,hobj,hints,hlen⟩:=jG hn hpre hwl;refine enter_call (M4 (call w s₀ s₁ mg mb fa o pm cd doc a vs ns G Y ho (fd_plain hd) hcd hmg hobj hints hlen hg) λ r s' hq=>?_);obtain ⟨rfl,h2,h3,h4⟩:=hq;exact ⟨.inl ⟨.bool true,.bool true,[],rfl,λ _=>rfl,.bool true,j4 l _,λ _=>⟨List.Pairwise.nil,λ _ hm=>(nomatch hm)⟩⟩,h2,h3,h4⟩
section
variable {prog:A7}{w:A6}{A:AZ}{E:Af->Aj->Prop}{s:Aj}{K:Frag}
end
end Att
namespace L2
open PySem PySem.Spec PyProof.Rows
theorem Te:∀ {vs:List Af}{ns:List Int},IntsAre vs ns->Vals (ns.map V.int) vs
 | _,_,.nil=>.nil
 | _,_,.cons n t h=>.cons ⟨t,rfl⟩ (Te h)
def Hr (H:Hp):Prop:=∀ b,H b=none\/∃ o xs,H b=some (.frz o (.lst xs))
theorem zA {P:A7}{w:A6}{K:PySem.W.Frag}{mg mb:Str->Option Af}{CX:Fo}{k:Nat}{fa a:Addr}{fd:CU}{x:Str}{sp:Sp}{s₁:Aj}{vs:List Af}{ns:List Int}
  (KX:K.In s₁.heap) (hns:s₁.heap.Ns DM mg) (hb:s₁.heap.Ns builtinsNs mb) (hbb:∀ x:Str,x ≠ "__name__" -> mb x=Ic x) (hlim:s₁.heap.NoLimit) (hg:s₁.gens=#[])
  (ha:s₁.heap.get? a=some { cls:=.type "list",data:=.seq vs.toArray }) (hi:IntsAre vs ns) (hl:ns.length<=Au) (hr:Room k HZ)
  (F:∀ base:Heap,K.In base->base.Ns DM mg->FnOk P w K mg base CX k fa fd [x] sp) (hbind:∀ (s:Aj) (u:Af),BindsTo s fd ⟨[u],[]⟩ [(x,u)])
  (hsp:∀ H:Hp,Hr H->Cf K H a (ns.map V.int)->sp [.ref a] H (λ v _=>v=.bl true) λ _ _ _=>False)
  (hCX:∀ H e s',CX [] H s₁ (λ _ _ _=>False) e s'->False):
  EZ (Aq P w) HZ (.call (.ref fa) ⟨[.ref a],[]⟩) (λ r s'=>r=.ok (.ret (.bool true))/\OldK s₁.heap s'.heap/\s'.os=s₁.os/\EF s'.gens) s₁:=by
 have rv:=Te hi;have lenV:=hi.length;have core:∀ H:Hp,Hr H->Cf K H a (ns.map V.int)->HOk P w H s₁.heap->(∀ b,H b≠none->b=a)->(H a≠none->K.lookup a=none) ->
   EZ (Aq P w) HZ (.call (.ref fa) ⟨[.ref a],[]⟩) (λ r s'=>r=.ok (.ret (.bool true))/\OldK s₁.heap s'.heap/\s'.os=s₁.os/\EF s'.gens) s₁:=by
  intro H hO hS hok hA hK;have base_of:∀ {b:Addr}{o:Obj},s₁.heap.get? b=some o->H b=none->(Dr s₁.heap H).get? b=some o:=λ e n=>z9 e n;have noA:∀ {b:Addr}{o:Obj}{es:Array DictEntry}{ep:Nat},s₁.heap.get? b=some o->o.data=.dict es ep->H b=none:=λ {b o es ep} e d=>by
   cases q:H b with
   | none=>rfl
   | some u=>
    have e':b=a:=hA b (by rw [q];simp);subst e';rw [ha] at e;cases e;have d':Data.seq vs.toArray _=Data.dict es ep:=d;cases d'
  have nsK:∀ {b:Addr}{m:Str->Option Af},s₁.heap.Ns b m->(Dr s₁.heap H).Ns b m:=λ {b m} ⟨o,es,ep,e,d,r⟩=>⟨o,es,ep,base_of e (noA e d),d,r⟩
  have hKb:K.In (Dr s₁.heap H):=λ b o e=>base_of (KX b o e) (by
   cases q:H b with
   | none=>rfl
   | some u=>
    have e':b=a:=hA b (by rw [q];simp);subst e';rw [hK (by rw [q];simp)] at e;cases e)
  have hM:Mod K mg (Dr s₁.heap H):=⟨hKb,nsK hns,⟨mb,nsK hb,hbb⟩,let ⟨mc,h1,h2⟩:=hlim;⟨mc,nsK h1,h2⟩⟩
  have e0:Env0 P w K mg (Dr s₁.heap H) HZ [] s₁ H:=⟨rfl,hM,λ b o e=>qg e,Nat.le_of_eq (jf _ _),trivial,λ b hb=>absurd (show b∈([]:List Addr) from hb) (by simp),hok,.of_eq hg⟩
  refine M4 ((F _ hKb (nsK hns)).run HZ [] s₁ H ⟨[.ref a],[]⟩ [.ref a] [.ref a] _ _ hr e0 (hbind s₁ (.ref a)) (.cons rfl .nil) (hsp H hO hS)) λ r s' h=>?_;cases r with
  | error e=>exact (hCX H e s' h).elim
  | ok fl=>
   cases fl with
   | next=>exact Gu h
   | brk=>exact Gu h
   | cont=>exact Gu h
   | ret u=>
    obtain ⟨v,H',os,bare,un,hok',r',q⟩:=h;have q':v=.bl true:=q;subst q';obtain rfl:u=Value.bool true:=r';refine ⟨rfl,OldK.of_keep λ b o e=>?_,os,bare⟩;cases q:H b with
    | none=>exact un.keep b o e q (by intro z;exact absurd (show b∈([]:List Addr) from z) (by simp)) (by simp)
    | some u=>
     rcases hO b with z | ⟨ob,xs,z⟩
     ·rw [q] at z;cases z
     ·have z2:=un.frzs b ob _ z;obtain ⟨e1,_⟩:=hok b _ z;obtain ⟨e2,_⟩:=hok' b _ z2;rw [e] at e1;cases e1;exact e2
 cases hk:K.lookup a with
 | some o=>
  have e:=KX a o hk;rw [ha] at e;cases e;refine core (λ _=>none) (λ _=>.inl rfl) (.inr ⟨_,vs.toArray,_,hk,rfl,rfl,rfl,by rw [Cb,lenV];exact hl,by simpa using rv⟩) (λ b u z=>by have z':(none:Option HO)=some u:=z;cases z') (λ b z=>absurd rfl z) λ z=>absurd rfl z
 | none=>
  refine core (λ b=>if b=a then some (.frz { cls:=.type "list",data:=.seq vs.toArray } (.lst (ns.map V.int))) else none) (λ b=>?_) (.inl (.inr ⟨{ cls:=.type "list",data:=.seq vs.toArray },if_pos rfl⟩)) (λ b u z=>?_) (λ b z=>?_) λ _=>hk
  ·by_cases hb:b=a
   ·exact .inr ⟨_,_,if_pos hb⟩
   ·exact .inl (if_neg hb)
  ·by_cases hb:b=a
   ·have z':=(if_pos hb).symm.trans z;cases z';subst hb;exact ⟨ha,by rw [Bg];exact hl,vs,_,rv,ha⟩
   ·have z':=(if_neg hb).symm.trans z;cases z'
  ·by_cases hb:b=a
   ·exact hb
   ·exact absurd (if_neg hb) z
structure Fun (K:PySem.W.Frag) (x qual:Str) (st:Stmt) (f:Addr) (fd:CU):Prop where
 ex:∃ (oc:Af) (od:Option Addr) (kV doc pm:Af) (an:Option Addr) (cdv ct:Af) (osl:Array (Option Af)),
  fd=Jy x qual (Ks st) (Bp st) (AD st) .none kV doc pm an cdv ct/\K.lookup f=some ⟨oc,od,.func fd,osl⟩/\OR K cdv qual=true
 kp:Ih K (.ref f)=true
section
variable {P:A7}{w:A6}{K:PySem.W.Frag}{mg:Str->Option Af}{base:Heap}
def Fun.binds {x qual:Str}{st:Stmt}{f:Addr}{fd:CU}{ps:List Str} (F:Fun K x qual st f fd)
  (h:∀ (kV doc pm:Af) (an:Option Addr) (cdv ct:Af) (us:List Af),us.length=ps.length->bindArgs (Jy x qual (Ks st) (Bp st) (AD st) .none kV doc pm an cdv ct) ⟨us,[]⟩=pure (ps.zip us)):zgw K fd ps []:=by
 obtain ⟨oc,od,kV,doc,pm,an,cdv,ct,osl,rfl,lk,hcd⟩:=F.ex;exact .all (h kV doc pm an cdv ct)
def Yo {x qual:Str}{st:Stmt}{f:Addr}{oc:Af}{od an:Option Addr}{osl:Array (Option Af)}{kV doc pm cdv ct:Af} (l:K.lookup f=some ⟨oc,od,.func (Jy x qual (Ks st) (Bp st) (AD st) .none kV doc pm an cdv ct),osl⟩)
  (c:OR K cdv qual=true) (k:Ih K (.ref f)=true):Fun K x qual st f (Jy x qual (Ks st) (Bp st) (AD st) .none kV doc pm an cdv ct):=⟨⟨oc,od,kV,doc,pm,an,cdv,ct,osl,rfl,l,c⟩,k⟩
end
section
variable {X:Cx}
end
end L2
namespace QQ
open PySem PySem.Spec PyProof.Rows L2
abbrev St:=L2.St
def KL (K:Frag) (a:Addr) (xs:List V):Prop:=∃ (o:Obj) (its:Array Af) (n:Nat),K.lookup a=some o/\o.cls=.type "list" /\ o.dict=none/\o.data=.seq its n/\its.size<=Au/\Vals xs its.toList
def Vv {K:Frag}{H:Hp}{a:Addr}{xs:List V} (h:Cf K H a xs):PH K "list" (.ref a) H:=.inl ⟨rfl,xs,h⟩
def WU (z:Str):It:=⟨λ i _=>i < z.cps.size,λ i H v H'=>H'=H/\∃ c,z.cps[i]?=some c/\v=.str ⟨#[c]⟩,λ i _=>z.cps.size<=i⟩
def Bn (z:Str):Bool:=z.cps.all (·< 128)
def ES (K:Frag) (tl:TE):TI:=λ σ H R=>tl σ H λ x H1=>(∃ a,x=.ref a/\(((∃ xs,Cf K H1 a xs)/\R (WS K a) H1)\/((∃ xs,Dc K H1 a xs)/\R (WR K a) H1)))\/∃ z,x=.str z/\Bn z=true/\R (WU z) H1
def GJ (k:Nat) (wi:TI) (g:TG) (tc:TT) (te:TE):TE:=λ σ H Q=>wi σ H λ J H1=>∀ D,H1 D=none->∃ W:Nat->Nat->List V->Hp->Prop,(∃ m,W 0 m [] (Aw H1 D (.lst [])))/\∀ i m ys H,W i m ys H->H D=some (.lst ys) /\
 ((J.stop i H/\Q (.ref D) H)\/(J.go i H/\∀ x H',J.yld i H x H'->g x (σ++AM k none) H' λ σ2 H2=>tc σ2 H2 λ b H3=>if b=true then te σ2 H3 λ y H4=>H4 D=some (.lst ys)/\ys.length < Au/\∃ m',m' < m/\W (i + 1) m' (ys++[y]) (Aw H4 D (.lst (ys++[y]))) else ∃ m',m' < m/\W (i + 1) m' ys H3))
inductive MO where
 | l (xs:List V) | d (kvs:List (List AV×V))
def MO.ho:MO->HO
 | .l xs=>.lst xs
 | .d kvs=>.dT kvs
def EV (a C:Addr) (h:Heap):Prop:=∃ o vs,h.get? a=some o/\o.cls=.ref C/\o.data=.fields vs
def om:Nat:=1000
def pd (d:Nat):Nat:=if d=om then om else d - 1
def Lg:pd om=om:=rfl
def qo:pd 0=0:=rfl
mutual
def Own (K:Frag) (H:Hp) (Z:Addr->Prop):PV->Nat->V->List Addr->Prop
 | .non,_,v,fp=>v=.non/\fp=[]
 | .bl b,_,v,fp=>v=.bl b/\fp=[]
 | .int i,_,v,fp=>v=.int i/\fp=[]
 | .str x,_,v,fp=>v=.str x/\fp=[]
 | .emp,_,v,fp=>fp=[]/\∃ a,v=.ref a/\H a=some (.dK [])
 | .dko,_,v,fp=>fp=[]/\∃ a,v=.ref a/\∃ kvs,H a=some (.dK kvs)
 | .scr ns,_,v,fp=>fp=[]/\∃ a,v=.ref a/\((∃ o,H a=some (.frz o (.lst (ns.map V.int))))\/KL K a (ns.map V.int))
 | .exn c,_,v,fp=>fp=[]/\∃ a C,v=.ref a/\BR K c=some C/\H a=some (.ext (EV a C))
 | .dct kvs,d,v,fp=>∃ a,v=.ref a/\((d=0/\(H a=some (.dT kvs)/\¬ Z a)/\fp=[])\/(d≠0/\H a=some (.dT kvs)/\fp=[a]))
 | .lst xs,d,v,fp=>∃ a vs,v=.ref a/\((d=0/\(H a=some (.lst vs)/\¬ Z a)/\fp=[]/\OwnL K H Z xs 0 vs [])\/(d≠0/\∃ f,H a=some (.lst vs)/\fp=a::f/\a∉f/\OwnL K H Z xs (pd d) vs f))
 | .tup xs,d,v,fp=>∃ a vs,v=.ref a/\H a=some (.tup vs)/\OwnL K H Z xs (pd d) vs fp
def OwnL (K:Frag) (H:Hp) (Z:Addr->Prop):List PV->Nat->List V->List Addr->Prop
 | [],_,vs,fp=>vs=[]/\fp=[]
 | x::xs,d,vs,fp=>∃ v r f1 f2,vs=v::r/\fp=f1++f2/\(∀ a∈f1,a∉f2)/\Own K H Z x d v f1/\OwnL K H Z xs d r f2
end
def CO (S:Addr->Prop) (H H':Hp):Prop:=∀ a o,H a=some o->¬ S a->H' a=some o
section
variable {K:Frag}{H H':Hp}{Z Z' S:Addr->Prop}
mutual
theorem Own.lsts:∀ (x:PV) (d:Nat) (v:V) (fp:List Addr),Own K H Z x d v fp->∀ a∈fp,∃ o:MO,H a=some o.ho
 | .non,_,_,_,h,a,ha=>by rw [Own] at h;rw [h.2] at ha;cases ha
 | .bl _,_,_,_,h,a,ha=>by rw [Own] at h;rw [h.2] at ha;cases ha
 | .int _,_,_,_,h,a,ha=>by rw [Own] at h;rw [h.2] at ha;cases ha
 | .str _,_,_,_,h,a,ha=>by rw [Own] at h;rw [h.2] at ha;cases ha
 | .emp,_,_,_,h,a,ha=>by rw [Own] at h;rw [h.1] at ha;cases ha
 | .dko,_,_,_,h,a,ha=>by rw [Own] at h;rw [h.1] at ha;cases ha
 | .scr _,_,_,_,h,a,ha=>by rw [Own] at h;rw [h.1] at ha;cases ha
 | .exn _,_,_,_,h,a,ha=>by rw [Own] at h;rw [h.1] at ha;cases ha
 | .dct kvs,d,v,fp,h,a,ha=>by
  rw [Own] at h;obtain ⟨b,_,⟨_,_,e⟩ | ⟨_,hb,e⟩⟩:=h
  ·rw [e] at ha;cases ha
  ·rw [e] at ha;rw [jc0.mp ha];exact ⟨.d kvs,hb⟩
 | .lst xs,d,v,fp,h,a,ha=>by
  rw [Own] at h;obtain ⟨b,vs,_,⟨_,_,e,_⟩ | ⟨_,f,hb,e,_,hl⟩⟩:=h
  ·rw [e] at ha;cases ha
  ·rw [e] at ha;rcases jb2.mp ha with z | z
   ·exact ⟨.l vs,by rw [z];exact hb⟩
   ·exact OwnL.lsts xs _ vs f hl a z
 | .tup xs,d,v,fp,h,a,ha=>by
  rw [Own] at h;obtain ⟨b,vs,_,_,hl⟩:=h;exact OwnL.lsts xs _ vs fp hl a ha
theorem OwnL.lsts:∀ (xs:List PV) (d:Nat) (vs:List V) (fp:List Addr),OwnL K H Z xs d vs fp->∀ a∈fp,∃ o:MO,H a=some o.ho
 | [],_,_,_,h,a,ha=>by rw [OwnL] at h;rw [h.2] at ha;cases ha
 | x::xs,d,vs,fp,h,a,ha=>by
  rw [OwnL] at h;obtain ⟨v,r,f1,f2,_,e,_,h1,h2⟩:=h;rw [e] at ha;rcases jc4.mp ha with z | z
  ·exact Own.lsts x d v f1 h1 a z
  ·exact OwnL.lsts xs d r f2 h2 a z
end
mutual
theorem Own.move (k:CO S H H') (hS:∀ a,S a->Z a/\∃ o:MO,H a=some o.ho) (hz:∀ a,H a≠none->¬ Z a->¬ Z' a):
  ∀ (x:PV) (d:Nat) (v:V) (fp:List Addr),(∀ a∈fp,¬ S a)->Own K H Z x d v fp->Own K H' Z' x d v fp
 | .non,_,_,_,_,h=>by rw [Own] at h ⊢;exact h
 | .bl _,_,_,_,_,h=>by rw [Own] at h ⊢;exact h
 | .int _,_,_,_,_,h=>by rw [Own] at h ⊢;exact h
 | .str _,_,_,_,_,h=>by rw [Own] at h ⊢;exact h
 | .emp,_,_,_,_,h=>by
  rw [Own] at h ⊢;obtain ⟨e,a,ev,ha⟩:=h;exact ⟨e,a,ev,k a _ ha λ s=>by obtain ⟨_,o,e⟩:=hS a s;rw [ha] at e;cases o <;> cases e⟩
 | .dko,_,_,_,_,h=>by
  rw [Own] at h ⊢;obtain ⟨e,a,ev,kvs,ha⟩:=h;exact ⟨e,a,ev,kvs,k a _ ha λ s=>by obtain ⟨_,o,e⟩:=hS a s;rw [ha] at e;cases o <;> cases e⟩
 | .scr ns,_,_,_,_,h=>by
  rw [Own] at h ⊢;obtain ⟨e,a,ev,⟨o,ha⟩ | ha⟩:=h
  ·exact ⟨e,a,ev,.inl ⟨o,k a _ ha λ s=>by obtain ⟨_,q,e⟩:=hS a s;rw [ha] at e;cases q <;> cases e⟩⟩
  ·exact ⟨e,a,ev,.inr ha⟩
 | .exn c,_,_,_,_,h=>by
  rw [Own] at h ⊢;obtain ⟨e,a,C,ev,hc,ha⟩:=h;exact ⟨e,a,C,ev,hc,k a _ ha λ s=>by obtain ⟨_,q,e⟩:=hS a s;rw [ha] at e;cases q <;> cases e⟩
 | .dct kvs,d,v,fp,hf,h=>by
  rw [Own] at h ⊢;obtain ⟨b,ev,⟨d0,hr,e⟩ | ⟨d0,hb,e⟩⟩:=h
  ·exact ⟨b,ev,.inl ⟨d0,⟨k b _ hr.1 λ s=>hr.2 (hS b s).1,hz b (by rw [hr.1];simp) hr.2⟩,e⟩⟩
  ·exact ⟨b,ev,.inr ⟨d0,k b _ hb (hf b (by rw [e];exact Ba)),e⟩⟩
 | .lst xs,d,v,fp,hf,h=>by
  rw [Own] at h ⊢;obtain ⟨b,vs,ev,⟨d0,hr,e,hl⟩ | ⟨d0,f,hb,e,nb,hl⟩⟩:=h
  ·refine ⟨b,vs,ev,.inl ⟨d0,?_,e,OwnL.move k hS hz xs 0 vs [] (λ _ z=>nomatch z) hl⟩⟩;exact ⟨k b _ hr.1 λ s=>hr.2 (hS b s).1,hz b (by rw [hr.1];simp) hr.2⟩
  ·refine ⟨b,vs,ev,.inr ⟨d0,f,k b _ hb (hf b (by rw [e];exact Ba)),e,nb,?_⟩⟩;exact OwnL.move k hS hz xs _ vs f (λ a ha=>hf a (by rw [e];exact AU _ ha)) hl
 | .tup xs,d,v,fp,hf,h=>by
  rw [Own] at h ⊢;obtain ⟨b,vs,ev,hr,hl⟩:=h;exact ⟨b,vs,ev,k b _ hr (λ s=>by obtain ⟨_,o,e⟩:=hS b s;rw [hr] at e;cases o <;> cases e),OwnL.move k hS hz xs _ vs fp hf hl⟩
theorem OwnL.move (k:CO S H H') (hS:∀ a,S a->Z a/\∃ o:MO,H a=some o.ho) (hz:∀ a,H a≠none->¬ Z a->¬ Z' a):
  ∀ (xs:List PV) (d:Nat) (vs:List V) (fp:List Addr),(∀ a∈fp,¬ S a)->OwnL K H Z xs d vs fp->OwnL K H' Z' xs d vs fp
 | [],_,_,_,_,h=>by rw [OwnL] at h ⊢;exact h
 | x::xs,d,vs,fp,hf,h=>by
  rw [OwnL] at h ⊢;obtain ⟨v,r,f1,f2,e1,e,dj,h1,h2⟩:=h;exact ⟨v,r,f1,f2,e1,e,dj,Own.move k hS hz x d v f1 (λ a ha=>hf a (by rw [e];exact BC _ ha)) h1,OwnL.move k hS hz xs d r f2 (λ a ha=>hf a (by rw [e];exact Bj _ ha)) h2⟩
end
mutual
theorem Own.freeze (hz:∀ a,Z' a->Z a):∀ (x:PV) (d:Nat) (v:V) (fp:List Addr),(∀ a∈fp,¬ Z' a)->Own K H Z x d v fp->Own K H Z' x 0 v []
 | .non,_,_,_,_,h=>by rw [Own] at h ⊢;exact ⟨h.1,rfl⟩
 | .bl _,_,_,_,_,h=>by rw [Own] at h ⊢;exact ⟨h.1,rfl⟩
 | .int _,_,_,_,_,h=>by rw [Own] at h ⊢;exact ⟨h.1,rfl⟩
 | .str _,_,_,_,_,h=>by rw [Own] at h ⊢;exact ⟨h.1,rfl⟩
 | .emp,_,_,_,_,h=>by rw [Own] at h ⊢;exact ⟨rfl,h.2⟩
 | .dko,_,_,_,_,h=>by rw [Own] at h ⊢;exact ⟨rfl,h.2⟩
 | .scr _,_,_,_,_,h=>by rw [Own] at h ⊢;exact ⟨rfl,h.2⟩
 | .exn _,_,_,_,_,h=>by rw [Own] at h ⊢;exact ⟨rfl,h.2⟩
 | .dct kvs,d,v,fp,hf,h=>by
  rw [Own] at h ⊢;obtain ⟨b,ev,⟨d0,hr,e⟩ | ⟨d0,hb,e⟩⟩:=h
  ·exact ⟨b,ev,.inl ⟨rfl,⟨hr.1,λ z=>hr.2 (hz b z)⟩,rfl⟩⟩
  ·exact ⟨b,ev,.inl ⟨rfl,⟨hb,hf b (by rw [e];exact Ba)⟩,rfl⟩⟩
 | .lst xs,d,v,fp,hf,h=>by
  rw [Own] at h ⊢;obtain ⟨b,vs,ev,⟨d0,hr,e,hl⟩ | ⟨d0,f,hb,e,nb,hl⟩⟩:=h
  ·refine ⟨b,vs,ev,.inl ⟨rfl,?_,rfl,OwnL.freeze hz xs 0 vs [] (λ _ z=>nomatch z) hl⟩⟩;exact ⟨hr.1,λ z=>hr.2 (hz b z)⟩
  ·exact ⟨b,vs,ev,.inl ⟨rfl,⟨hb,hf b (by rw [e];exact Ba)⟩,rfl,OwnL.freeze hz xs _ vs f (λ a ha=>hf a (by rw [e];exact AU _ ha)) hl⟩⟩
 | .tup xs,d,v,fp,hf,h=>by
  rw [Own] at h ⊢;obtain ⟨b,vs,ev,hr,hl⟩:=h;exact ⟨b,vs,ev,hr,OwnL.freeze hz xs _ vs fp hf hl⟩
theorem OwnL.freeze (hz:∀ a,Z' a->Z a):∀ (xs:List PV) (d:Nat) (vs:List V) (fp:List Addr),(∀ a∈fp,¬ Z' a)->OwnL K H Z xs d vs fp->OwnL K H Z' xs 0 vs []
 | [],_,_,_,_,h=>by rw [OwnL] at h ⊢;exact ⟨h.1,rfl⟩
 | x::xs,d,vs,fp,hf,h=>by
  rw [OwnL] at h ⊢;obtain ⟨v,r,f1,f2,e1,e,dj,h1,h2⟩:=h;exact ⟨v,r,[],[],e1,rfl,λ _ z=>(nomatch z),Own.freeze hz x d v f1 (λ a ha=>hf a (by rw [e];exact BC _ ha)) h1,OwnL.freeze hz xs d r f2 (λ a ha=>hf a (by rw [e];exact Bj _ ha)) h2⟩
end
mutual
theorem Own.full:∀ (x:PV) (v:V) (fp:List Addr),Own K H Z x om v fp->Own K H Z' x om v fp
 | .non,_,_,h=>by rw [Own] at h ⊢;exact h
 | .bl _,_,_,h=>by rw [Own] at h ⊢;exact h
 | .int _,_,_,h=>by rw [Own] at h ⊢;exact h
 | .str _,_,_,h=>by rw [Own] at h ⊢;exact h
 | .emp,_,_,h=>by rw [Own] at h ⊢;exact h
 | .dko,_,_,h=>by rw [Own] at h ⊢;exact h
 | .scr _,_,_,h=>by rw [Own] at h ⊢;exact h
 | .exn _,_,_,h=>by rw [Own] at h ⊢;exact h
 | .dct kvs,v,fp,h=>by
  rw [Own] at h ⊢;obtain ⟨b,ev,⟨d0,_⟩ | ⟨d0,hb,e⟩⟩:=h
  ·exact absurd d0 (by decide)
  ·exact ⟨b,ev,.inr ⟨d0,hb,e⟩⟩
 | .lst xs,v,fp,h=>by
  rw [Own] at h ⊢;obtain ⟨b,vs,ev,⟨d0,_⟩ | ⟨d0,f,hb,e,nb,hl⟩⟩:=h
  ·exact absurd d0 (by decide)
  ·exact ⟨b,vs,ev,.inr ⟨d0,f,hb,e,nb,OwnL.full xs vs f hl⟩⟩
 | .tup xs,v,fp,h=>by
  rw [Own] at h ⊢;obtain ⟨b,vs,ev,hr,hl⟩:=h;exact ⟨b,vs,ev,hr,OwnL.full xs vs fp hl⟩
theorem OwnL.full:∀ (xs:List PV) (vs:List V) (fp:List Addr),OwnL K H Z xs om vs fp->OwnL K H Z' xs om vs fp
 | [],_,_,h=>by rw [OwnL] at h ⊢;exact h
 | x::xs,vs,fp,h=>by
  rw [OwnL] at h ⊢;obtain ⟨v,r,f1,f2,e1,e,dj,h1,h2⟩:=h;exact ⟨v,r,f1,f2,e1,e,dj,Own.full x v f1 h1,OwnL.full xs r f2 h2⟩
end
def Own.weak (hz:∀ a,Z' a->Z a) {x:PV}{d:Nat}{v:V}{fp:List Addr} (h:Own K H Z x d v fp):Own K H Z' x d v fp:=
 Own.move (S:=λ _=>False) (λ _ _ h _=>h) (λ _ z=>z.elim) (λ a _ n z=>n (hz a z)) x d v fp (λ _ _ z=>z) h
def OwnL.weak (hz:∀ a,Z' a->Z a) {xs:List PV}{d:Nat}{vs:List V}{fp:List Addr} (h:OwnL K H Z xs d vs fp):OwnL K H Z' xs d vs fp:=
 OwnL.move (S:=λ _=>False) (λ _ _ h _=>h) (λ _ z=>z.elim) (λ a _ n z=>n (hz a z)) xs d vs fp (λ _ _ z=>z) h
end
abbrev Slot:=Option (PV×Nat)
abbrev Ag:=List Slot
inductive Rz (α:Type) where
 | ok (a:α) | exc (c:Nat) | no
def Rz.bind {α β:Type} (r:Rz α) (f:α->Rz β):Rz β:=match r with
 | .ok a=>f a
 | .exc c=>.exc c
 | .no=>.no
abbrev Fx:=Ag->Rz (PV×Nat×Ag)
abbrev Fa:=Ag->Rz (List (PV×Nat)×Ag)
abbrev Fb:=Ag->Rz (Bool×Ag)
structure Fm where
 K:Frag
 Ms:Nat->Bool
 Zo:Addr->Prop
 H₀:Hp
 W:St->Nat->Hp->Prop
 io:Option V
 al:Nat->List Nat
 pn:List (Nat×V):=[]
abbrev AI:=Nat->List Addr
def Fm.Fre (M:Fm) (i:Nat):Prop:=(M.io≠none->i≠0)/\∀ p∈M.pn,p.1≠i
def Zf (M:Fm) (fps:AI):Addr->Prop:=λ a=>M.Zo a\/∃ i,a∈fps i
def Zv (M:Fm) (vs:List Nat) (fps:AI):Addr->Prop:=λ a=>M.Zo a\/∃ i,i∉vs/\a∈fps i
def Za (M:Fm) (fps:AI) (i:Nat):Addr->Prop:=λ a=>M.Zo a\/∃ j,j∉M.al i/\a∈fps j
def Zt (M:Fm) (vs:List Nat) (fps:AI) (fp:List Addr):Addr->Prop:=λ a=>Zv M vs fps a\/a∈fp
def Fm.plus (M:Fm) (fp:List Addr):Fm:={ M with Zo:=λ a=>M.Zo a\/a∈fp }
structure Rep (M:Fm) (ρ:Ag) (σ:St) (H:Hp) (fps:AI):Prop where
 own:∀ i x d,ρ[i]?=some (some (x,d))->∃ v,σ[i]?=some (some v)/\Own M.K H (Za M fps i) x d v (fps i)
 non:∀ i,(∀ p,ρ[i]?≠some (some p))->fps i=[]
 dj:∀ i j,i≠j->∀ a∈fps i,a∉fps j
 zo:∀ i,∀ a∈fps i,¬ M.Zo a
 fr:∀ i,M.Ms i=false->∀ a∈fps i,M.H₀ a=none
 zd:∀ a,M.Zo a->H a≠none
 len:ρ.length=σ.length
 msf:∀ i x d,M.Ms i=true->ρ[i]?=some (some (x,d))->d=om
 h0:∀ a,M.H₀ a≠none->H a≠none
 iov:(∀ v,M.io=some v->σ[0]?=some (some v)/\M.Ms 0=true)/\∀ p∈M.pn,σ[p.1]?=some (some p.2)
def Agr (M:Fm) (ρ ρ':Ag):Prop:=(∀ i,M.Ms i=false->ρ'[i]?=ρ[i]?)/\ρ'.length=ρ.length
structure KD (M:Fm) (H:Hp) (fps:AI) (H':Hp) (fps':AI):Prop where
 keep:CO (λ a=>∃ i,M.Ms i=true/\a∈fps i) H H'
 dom:∀ a,H a≠none->H' a≠none
 sub:∀ i,∀ a∈fps' i,a∈fps i\/H a=none
 same:∀ i,M.Ms i=false->fps' i=fps i
def Tmps (K:Frag) (H:Hp) (Z:Addr->Prop):List (PV×Nat)->List V->List Addr->Prop
 | [],vs,fp=>vs=[]/\fp=[]
 | (x,d)::xs,vs,fp=>∃ v r f1 f2,vs=v::r/\fp=f1++f2/\(∀ a∈f1,a∉f2)/\Own K H (λ a=>Z a\/a∈f1) x d v f1/\Tmps K H Z xs r f2
structure Temp (M:Fm) (vs:List Nat) (H:Hp) (H':Hp) (fps':AI) (fp:List Addr):Prop where
 new:∀ a∈fp,H a=none
 ndj:∀ a∈fp,¬ Zf M fps' a
section
variable {M:Fm}{ρ ρ':Ag}{σ:St}{H H' H'':Hp}{fps fps' fps'':AI}{vs vs':List Nat}
def Agr.refl:Agr M ρ ρ:=⟨λ _ _=>rfl,rfl⟩
def Agr.trans {ρ'':Ag} (a:Agr M ρ ρ') (b:Agr M ρ' ρ''):Agr M ρ ρ'':=⟨λ i hi=>(b.1 i hi).trans (a.1 i hi),b.2.trans a.2⟩
def KD.refl:KD M H fps H fps:=⟨λ _ _ h _=>h,λ _ h=>h,λ _ _ h=>.inl h,λ _ _=>rfl⟩
def KD.trans (a:KD M H fps H' fps') (b:KD M H' fps' H'' fps''):KD M H fps H'' fps'' where
 keep:=λ x o h n=>b.keep x o (a.keep x o h n) λ ⟨i,hi,hx⟩=>(a.sub i x hx).elim (λ z=>n ⟨i,hi,z⟩) λ z=>by rw [z] at h;cases h
 dom:=λ x h=>b.dom x (a.dom x h)
 sub:=λ i x hx=>(b.sub i x hx).elim (λ z=>a.sub i x z) λ z=>.inr (by
  cases e:H x with
  | none=>rfl
  | some o=>exact absurd z (a.dom x (by rw [e];simp)))
 same:=λ i hi=>(b.same i hi).trans (a.same i hi)
def Za.zf {i:Nat}{a:Addr} (h:Za M fps i a):Zf M fps a:=h.elim .inl λ ⟨j,_,h⟩=>.inr ⟨j,h⟩
def Za.of {i:Nat} (hal:M.al i=[]) {a:Addr} (h:Zf M fps a):Za M fps i a:=h.elim .inl λ ⟨j,h⟩=>.inr ⟨j,(by rw [hal];simp),h⟩
def Rep.own0 (r:Rep M ρ σ H fps) (hal:∀ i,M.al i=[]) (i:Nat) (x:PV) (d:Nat) (e:ρ[i]?=some (some (x,d))):∃ v,σ[i]?=some (some v)/\Own M.K H (Zf M fps) x d v (fps i):=
 let ⟨v,h1,h2⟩:=r.own i x d e;⟨v,h1,h2.weak λ _ h=>Za.of (hal i) h⟩
def Rep.lsts (r:Rep M ρ σ H fps) {i:Nat}{a:Addr} (h:a∈fps i):∃ o:MO,H a=some o.ho:=by
 by_cases hp:∃ p,ρ[i]?=some (some p)
 ·obtain ⟨⟨x,d⟩,e⟩:=hp;obtain ⟨v,_,o⟩:=r.own i x d e;exact Own.lsts x d v _ o a h
 ·rw [r.non i λ p e=>hp ⟨p,e⟩] at h;cases h
def Rep.zdom (r:Rep M ρ σ H fps) {a:Addr} (h:Zf M fps a):H a≠none:=by
 rcases h with h | ⟨i,h⟩
 ·exact r.zd a h
 ·obtain ⟨xs,e⟩:=r.lsts h;rw [e];simp
def Rep.nz (r:Rep M ρ σ H fps) {a:Addr} (h:H a=none):¬ Zf M fps a:=λ z=>r.zdom z h
def Zv.zf {a:Addr} (h:Zv M vs fps a):Zf M fps a:=h.elim .inl λ ⟨i,_,h⟩=>.inr ⟨i,h⟩
def Zv.mono (hv:∀ i∈vs',i∈vs) {a:Addr} (h:Zv M vs fps a):Zv M vs' fps a:=h.elim .inl λ ⟨i,n,h⟩=>.inr ⟨i,λ z=>n (hv i z),h⟩
def Zt.mono (hv:∀ i∈vs',i∈vs) {a:Addr}{fp:List Addr} (h:Zt M vs fps fp a):Zt M vs' fps fp a:=h.elim (λ h=>.inl (h.mono hv)) .inr
def KD.stay (k:KD M H fps H' fps') (r:Rep M ρ σ H fps) (hv:∀ i∈vs,M.Ms i=false) {x:PV}{d:Nat}{v:V}{fp:List Addr} (h:Own M.K H (Zt M vs fps fp) x d v fp) (hf:∀ a∈fp,¬ Zf M fps a):Own M.K H' (Zt M vs fps' fp) x d v fp:=by
 have h1:∀ a,(∃ i,M.Ms i=true/\a∈fps i)->Zt M vs fps fp a/\∃ o:MO,H a=some o.ho:=by
  rintro a ⟨i,hi,ha⟩;exact ⟨.inl (.inr ⟨i,λ z=>(by rw [hv i z] at hi;cases hi),ha⟩),r.lsts ha⟩
 have h2:∀ a,H a≠none->¬ Zt M vs fps fp a->¬ Zt M vs fps' fp a:=by
  intro a hd nz z;rcases z with (z | ⟨i,ni,hx⟩) | z
  ·exact nz (.inl (.inl z))
  ·rcases k.sub i a hx with z | z
   ·exact nz (.inl (.inr ⟨i,ni,z⟩))
   ·exact hd z
  ·exact nz (.inr z)
 exact Own.move k.keep h1 h2 x d v fp (λ a ha ⟨i,_,hx⟩=>hf a ha (.inr ⟨i,hx⟩)) h
theorem KD.stays (k:KD M H fps H' fps') (r:Rep M ρ σ H fps) (hv:∀ i∈vs,M.Ms i=false):∀ {xs:List (PV×Nat)}{ws:List V}{fp:List Addr},Tmps M.K H (Zv M vs fps) xs ws fp->(∀ a∈fp,¬ Zf M fps a)->Tmps M.K H' (Zv M vs fps') xs ws fp
 | [],_,_,h,_=>h
 | (x,d)::xs,ws,fp,h,hf=>by
  obtain ⟨v,s,f1,f2,e1,e2,dj,h1,h2⟩:=h;exact ⟨v,s,f1,f2,e1,e2,dj,k.stay r hv h1 λ a ha=>hf a (by rw [e2];exact BC _ ha),k.stays r hv h2 λ a ha=>hf a (by rw [e2];exact Bj _ ha)⟩
theorem Tmps.weak {K:Frag}{Z Z':Addr->Prop} (hz:∀ a,Z' a->Z a):∀ {xs:List (PV×Nat)}{ws:List V}{fp:List Addr},Tmps K H Z xs ws fp->Tmps K H Z' xs ws fp
 | [],_,_,h=>h
 | (x,d)::xs,ws,fp,h=>by
  obtain ⟨v,s,f1,f2,e1,e2,dj,h1,h2⟩:=h;exact ⟨v,s,f1,f2,e1,e2,dj,h1.weak λ a h=>h.elim (λ h=>.inl (hz a h)) .inr,h2.weak hz⟩
theorem KD.grow (k:∀ a o,H a=some o->H' a=some o):KD M H fps H' fps:=⟨λ a o h _=>k a o h,λ a h=>by
 cases e:H a with
 | none=>exact absurd e h
 | some o=>rw [k a o e];simp,λ _ _ h=>.inl h,λ _ _=>rfl⟩
def Rep.grow (r:Rep M ρ σ H fps) (k:∀ a o,H a=some o->H' a=some o):Rep M ρ σ H' fps where
 own:=λ i x d e=>by
  obtain ⟨v,hv,o⟩:=r.own i x d e;exact ⟨v,hv,Own.move (S:=λ _=>False) (λ a o h _=>k a o h) (λ _ z=>z.elim) (λ _ _ n=>n) x d v _ (λ _ _ z=>z) o⟩
 non:=r.non
 dj:=r.dj
 zo:=r.zo
 fr:=r.fr
 zd:=λ a h=>(KD.grow (M:=M) (fps:=fps) k).dom a (r.zd a h)
 len:=r.len
 msf:=r.msf
 h0:=λ a h=>(KD.grow (M:=M) (fps:=fps) k).dom a (r.h0 a h)
 iov:=r.iov
end
def tE (M:Fm) (f:Fx) (vs:List Nat):TE:=λ σ H Q=>∃ ρ fps,Rep M ρ σ H fps/\(match f ρ with
 | .ok (x,d,ρ')=>∀ v H' fps' fp,KD M H fps H' fps'->Agr M ρ ρ'->Rep M ρ' σ H' fps'->Own M.K H' (Zt M vs fps' fp) x d v fp->Temp M vs H H' fps' fp->Q v H'
 | .exc c=>∀ H' fps',KD M H fps H' fps'->M.W σ c H'
 | .no=>False)
def tL (M:Fm) (f:Fa) (vs:List Nat):TA:=λ σ H Q=>∃ ρ fps,Rep M ρ σ H fps/\(match f ρ with
 | .ok (xs,ρ')=>∀ ws H' fps' fp,KD M H fps H' fps'->Agr M ρ ρ'->Rep M ρ' σ H' fps'->Tmps M.K H' (Zv M vs fps') xs ws fp->Temp M vs H H' fps' fp->Q ws H'
 | .exc c=>∀ H' fps',KD M H fps H' fps'->M.W σ c H'
 | .no=>False)
def tT (M:Fm) (f:Fb):TT:=λ σ H Q=>∃ ρ fps,Rep M ρ σ H fps/\(match f ρ with
 | .ok (b,ρ')=>∀ H' fps',KD M H fps H' fps'->Agr M ρ ρ'->Rep M ρ' σ H' fps'->Q b H'
 | .exc c=>∀ H' fps',KD M H fps H' fps'->M.W σ c H'
 | .no=>False)
def Bf (M:Fm) (H:Hp) (fps:AI) (vs:List Nat) (F:List Addr) (z:PV) (d:Nat) (Q:VK):Prop:=
 ∀ u H' fp,(∀ a o,H a=some o->H' a=some o)->Own M.K H' (Zt M vs fps fp) z d u fp->(∀ a∈fp,a∈F\/H a=none)->Q u H'
section
variable {M:Fm}{ρ ρ':Ag}{σ:St}{H H' H'':Hp}{fps fps' fps'':AI}{vs vs':List Nat}{f g:Fx}{fa:Fa}{fb:Fb}{Q:VK}
def bC (x:PV):Fx:=λ ρ=>.ok (x,om,ρ)
def HB {x:PV}{v:V} (h:∀ K H Z,Own K H Z x om v []) {σ:St}{H:Hp}{Q:VK} (hq:tE M (bC x) [] σ H Q):tC v σ H Q:=by
 obtain ⟨ρ,fps,rep,q⟩:=hq;exact q v H fps [] KD.refl Agr.refl rep (h _ _ _) ⟨λ _ z=>(nomatch z),λ _ z=>nomatch z⟩
def dv:PV->Nat
 | .lst _=>0
 | .tup _=>0
 | .dct _=>0
 | _=>om
def Aa (i:Nat):Fx:=λ ρ=>match ρ[i]? with
 | some (some (x,_))=>.ok (x,dv x,ρ)
 | _=>.no
theorem Own.view {K:Frag}{Z Z':Addr->Prop}{x:PV}{d:Nat}{v:V}{fp:List Addr} (hz:∀ a,Z' a->Z a) (hf:∀ a∈fp,¬ Z' a) (h:Own K H Z x d v fp):Own K H Z' x (dv x) v []:=by
 have q:=Own.freeze hz x d v fp hf h;cases x with
 | lst xs=>exact q
 | tup xs=>exact q
 | dct kvs=>exact q
 | exn _=>rw [Own] at q ⊢;exact q
 | non=>rw [Own] at q ⊢;exact q
 | bl _=>rw [Own] at q ⊢;exact q
 | int _=>rw [Own] at q ⊢;exact q
 | str _=>rw [Own] at q ⊢;exact q
 | emp=>rw [Own] at q ⊢;exact q
 | dko=>rw [Own] at q ⊢;exact q
 | scr _=>rw [Own] at q ⊢;exact q
theorem QR {i:Nat}{σ:St}{H:Hp}{Q:VK} (hq:tE M (Aa i) (i::M.al i) σ H Q):D9 i σ H Q:=by
 obtain ⟨ρ,fps,rep,q⟩:=hq;unfold Aa at q;cases e0:ρ[i]? with
 | none=>rw [e0] at q;exact q.elim
 | some sl=>
  cases sl with
  | none=>rw [e0] at q;exact q.elim
  | some p=>
   obtain ⟨x0,d0⟩:=p;rw [e0] at q;obtain ⟨v,hv,o⟩:=rep.own i x0 d0 e0;refine ⟨v,hv,q v H fps [] KD.refl Agr.refl rep ((o.view (Z':=Zv M (i::M.al i) fps) (λ a h=>h.elim .inl λ ⟨j,n,h⟩=>.inr ⟨j,λ z=>n (AU _ z),h⟩) λ a ha z=>?_).weak λ a h=>h.elim id λ z=>nomatch z) ⟨λ _ z=>(nomatch z),λ _ z=>nomatch z⟩⟩;rcases z with z | ⟨j,nj,hj⟩
   ·exact rep.zo i a ha z
   ·exact rep.dj i j (λ e=>nj (by simp [e])) a ha hj
def Ab (op:PV->Nat->PV->Nat->Option (PV×Nat)) (f g:Fx):Fx:=λ ρ=>(f ρ).bind λ (x,d,ρ1)=>(g ρ1).bind λ (y,e,ρ2)=>match op x d y e with
 | some (z,c)=>.ok (z,c,ρ2)
 | none=>.no
theorem DL {op:PV->Nat->PV->Nat->Option (PV×Nat)}{r:R2} (hv:∀ i∈vs,M.Ms i=false)
  (leaf:∀ x d y e z c v w H fps f1 f2 Q,op x d y e=some (z,c)->Own M.K H (Zt M (vs++vs') fps f1) x d v f1->Own M.K H (Zt M (vs++vs') fps f2) y e w f2->(∀ a∈f1,a∉f2)->(∀ a∈f1++f2,¬ Zf M fps a)->(∀ a,Zf M fps a->H a≠none)->Bf M H fps (vs++vs') (f1++f2) z c Q->r v w H Q)
  {σ:St}{H:Hp}{Q:VK} (hq:tE M (Ab op f g) (vs++vs') σ H Q):Ip r (tE M f vs) (tE M g vs') σ H Q:=by
 obtain ⟨ρ,fps,rep,q⟩:=hq;refine ⟨ρ,fps,rep,?_⟩;unfold Ab at q;cases ef:f ρ with
 | no=>rw [ef] at q;exact q
 | exc c=>rw [ef] at q;exact q
 | ok p=>
  obtain ⟨x,d,ρ1⟩:=p;rw [ef] at q;intro v H1 fps1 f1 k1 g1 rep1 o1 t1;refine ⟨ρ1,fps1,rep1,?_⟩;dsimp only [Rz.bind] at q;cases eg:g ρ1 with
  | no=>rw [eg] at q;exact q
  | exc c=>rw [eg] at q;exact λ H' fps' k=>q H' fps' (k1.trans k)
  | ok p2=>
   obtain ⟨y,e,ρ2⟩:=p2;rw [eg] at q;intro w H2 fps2 f2 k2 g2 rep2 o2 t2;dsimp only at q;cases eo:op x d y e with
   | none=>rw [eo] at q;exact q.elim
   | some zc=>
    obtain ⟨z,c⟩:=zc;rw [eo] at q;have o1':=k2.stay rep1 hv o1 t1.ndj;have n1:∀ a∈f1,¬ Zf M fps2 a:=λ a ha z=>by
     rcases z with z | ⟨i,z⟩
     ·exact t1.ndj a ha (.inl z)
     ·rcases k2.sub i a z with z | z
      ·exact t1.ndj a ha (.inr ⟨i,z⟩)
      ·obtain ⟨xs,e⟩:=Own.lsts x d v f1 o1 a ha;rw [z] at e;cases e
    refine leaf x d y e z c v w H2 fps2 f1 f2 Q eo (o1'.weak λ a h=>Zt.mono (λ i hi=>BC _ hi) h) (o2.weak λ a h=>Zt.mono (λ i hi=>Bj _ hi) h) (λ a h1 h2=>?_) (λ a ha=>?_) (λ a h=>rep2.zdom h) λ u H3 fp k3 o3 hfp=>?_
    ·obtain ⟨xs,e⟩:=Own.lsts x d v f1 o1 a h1;rw [t2.new a h2] at e;cases e
    ·rcases jc4.mp ha with z | z
     ·exact n1 a z
     ·exact t2.ndj a z
    ·have new:∀ a∈fp,H a=none:=λ a ha=>by
      have back:H1 a=none->H a=none:=λ e=>by
       cases e':H a with
       | none=>rfl
       | some o=>exact absurd e (k1.dom a (by rw [e'];simp))
      have back2:H2 a=none->H1 a=none:=λ e=>by
       cases e':H1 a with
       | none=>rfl
       | some o=>exact absurd e (k2.dom a (by rw [e'];simp))
      rcases hfp a ha with z | z
      ·rcases jc4.mp z with z | z
       ·exact t1.new a z
       ·exact back (t2.new a z)
      ·exact back (back2 z)
     refine q u H3 fps2 fp ((k1.trans k2).trans (KD.grow k3)) (g1.trans g2) (rep2.grow k3) o3 ⟨new,λ a ha=>?_⟩;rcases hfp a ha with z | z
     ·rcases jc4.mp z with z | z
      ·exact n1 a z
      ·exact t2.ndj a z
     ·exact rep2.nz z
end
section
variable {M:Fm}{vs vs':List Nat}{f g:Fx}{fa:Fa}{fb gb:Fb}
def Ap (op:PV->Nat->Option (PV×Nat)) (f:Fx):Fx:=λ ρ=>(f ρ).bind λ (x,d,ρ1)=>match op x d with
 | some (z,c)=>.ok (z,c,ρ1)
 | none=>.no
theorem JC {op:PV->Nat->Option (PV×Nat)}{r:V->Hp->VK->Prop}
  (leaf:∀ x d z c v H fps f1 Q,op x d=some (z,c)->Own M.K H (Zt M vs fps f1) x d v f1->(∀ a∈f1,¬ Zf M fps a)->(∀ a,Zf M fps a->H a≠none)->Bf M H fps vs f1 z c Q->r v H Q)
  {σ:St}{H:Hp}{Q:VK} (hq:tE M (Ap op f) vs σ H Q):Tv r (tE M f vs) σ H Q:=by
 obtain ⟨ρ,fps,rep,q⟩:=hq;refine ⟨ρ,fps,rep,?_⟩;unfold Ap at q;cases ef:f ρ with
 | no=>rw [ef] at q;exact q
 | exc c=>rw [ef] at q;exact q
 | ok p=>
  obtain ⟨x,d,ρ1⟩:=p;rw [ef] at q;intro v H1 fps1 f1 k1 g1 rep1 o1 t1;dsimp only [Rz.bind] at q;cases eo:op x d with
  | none=>rw [eo] at q;exact q.elim
  | some zc=>
   obtain ⟨z,c⟩:=zc;rw [eo] at q;refine leaf x d z c v H1 fps1 f1 Q eo o1 t1.ndj (λ a h=>rep1.zdom h) λ u H3 fp k3 o3 hfp=>?_;have back:∀ a,H1 a=none->H a=none:=λ a e=>by
    cases e':H a with
    | none=>rfl
    | some o=>exact absurd e (k1.dom a (by rw [e'];simp))
   refine q u H3 fps1 fp (k1.trans (KD.grow k3)) g1 (rep1.grow k3) o3 ⟨λ a ha=>(hfp a ha).elim (t1.new a) (back a),λ a ha=>(hfp a ha).elim (t1.ndj a) λ z=>rep1.nz z⟩
def Ac:Fa:=λ ρ=>.ok ([],ρ)
def Ad (f:Fx) (fa:Fa):Fa:=λ ρ=>(f ρ).bind λ (x,d,ρ1)=>(fa ρ1).bind λ (xs,ρ2)=>.ok ((x,d)::xs,ρ2)
def Zp {σ:St}{H:Hp}{Q:List V->Hp->Prop} (hq:tL M Ac [] σ H Q):FN σ H Q:=by
 obtain ⟨ρ,fps,rep,q⟩:=hq;exact q [] H fps [] KD.refl Agr.refl rep ⟨rfl,rfl⟩ ⟨λ _ z=>(nomatch z),λ _ z=>nomatch z⟩
theorem qQ (hv:∀ i∈vs,M.Ms i=false) {σ:St}{H:Hp}{Q:List V->Hp->Prop} (hq:tL M (Ad f fa) (vs++vs') σ H Q):Lh (tE M f vs) (tL M fa vs') σ H Q:=by
 obtain ⟨ρ,fps,rep,q⟩:=hq;refine ⟨ρ,fps,rep,?_⟩;unfold Ad at q;cases ef:f ρ with
 | no=>rw [ef] at q;exact q
 | exc c=>rw [ef] at q;exact q
 | ok p=>
  obtain ⟨x,d,ρ1⟩:=p;rw [ef] at q;intro v H1 fps1 f1 k1 g1 rep1 o1 t1;refine ⟨ρ1,fps1,rep1,?_⟩;dsimp only [Rz.bind] at q;cases eg:fa ρ1 with
  | no=>rw [eg] at q;exact q
  | exc c=>rw [eg] at q;exact λ H' fps' k=>q H' fps' (k1.trans k)
  | ok p2=>
   obtain ⟨ys,ρ2⟩:=p2;rw [eg] at q;intro ws H2 fps2 f2 k2 g2 rep2 o2 t2;dsimp only at q;have o1':=k2.stay rep1 hv o1 t1.ndj;have n1:∀ a∈f1,¬ Zf M fps2 a:=λ a ha z=>by
    rcases z with z | ⟨i,z⟩
    ·exact t1.ndj a ha (.inl z)
    ·rcases k2.sub i a z with z | z
     ·exact t1.ndj a ha (.inr ⟨i,z⟩)
     ·obtain ⟨xs,e⟩:=Own.lsts x d v f1 o1 a ha;rw [z] at e;cases e
   have back:∀ a,H1 a=none->H a=none:=λ a e=>by
    cases e':H a with
    | none=>rfl
    | some o=>exact absurd e (k1.dom a (by rw [e'];simp))
   refine q (v::ws) H2 fps2 (f1++f2) (k1.trans k2) (g1.trans g2) rep2 ⟨v,ws,f1,f2,rfl,rfl,λ a h1 h2=>?_,o1'.weak λ a h=>Zt.mono (λ i hi=>BC _ hi) h,o2.weak λ a h=>h.mono λ i hi=>Bj _ hi⟩ ⟨λ a ha=>?_,λ a ha=>?_⟩
   ·obtain ⟨xs,e⟩:=Own.lsts x d v f1 o1 a h1;rw [t2.new a h2] at e;cases e
   ·rcases jc4.mp ha with z | z
    ·exact t1.new a z
    ·exact back a (t2.new a z)
   ·rcases jc4.mp ha with z | z
    ·exact n1 a z
    ·exact t2.ndj a z
def Am (op:List (PV×Nat)->Option (PV×Nat)) (fa:Fa):Fx:=λ ρ=>(fa ρ).bind λ (xs,ρ1)=>match op xs with
 | some (z,c)=>.ok (z,c,ρ1)
 | none=>.no
theorem LS {op:List (PV×Nat)->Option (PV×Nat)}{r:List V->Hp->VK->Prop}
  (leaf:∀ xs z c ws H fps fp Q,op xs=some (z,c)->Tmps M.K H (Zv M vs fps) xs ws fp->(∀ a∈fp,¬ Zf M fps a)->(∀ a,Zf M fps a->H a≠none)->Bf M H fps vs fp z c Q->r ws H Q)
  {σ:St}{H:Hp}{Q:VK} (hq:tE M (Am op fa) vs σ H Q):tL M fa vs σ H λ ws H1=>r ws H1 Q:=by
 obtain ⟨ρ,fps,rep,q⟩:=hq;refine ⟨ρ,fps,rep,?_⟩;unfold Am at q;cases ef:fa ρ with
 | no=>rw [ef] at q;exact q
 | exc c=>rw [ef] at q;exact q
 | ok p=>
  obtain ⟨xs,ρ1⟩:=p;rw [ef] at q;intro ws H1 fps1 f1 k1 g1 rep1 o1 t1;dsimp only [Rz.bind] at q;cases eo:op xs with
  | none=>rw [eo] at q;exact q.elim
  | some zc=>
   obtain ⟨z,c⟩:=zc;rw [eo] at q;refine leaf xs z c ws H1 fps1 f1 Q eo o1 t1.ndj (λ a h=>rep1.zdom h) λ u H3 fp k3 o3 hfp=>?_;have back:∀ a,H1 a=none->H a=none:=λ a e=>by
    cases e':H a with
    | none=>rfl
    | some o=>exact absurd e (k1.dom a (by rw [e'];simp))
   refine q u H3 fps1 fp (k1.trans (KD.grow k3)) g1 (rep1.grow k3) o3 ⟨λ a ha=>(hfp a ha).elim (t1.new a) (back a),λ a ha=>(hfp a ha).elim (t1.ndj a) λ z=>rep1.nz z⟩
def bT (f:Fx):Fb:=λ ρ=>(f ρ).bind λ (x,_,ρ1)=>match x with
 | .bl b=>.ok (b,ρ1)
 | _=>.no
theorem QU {σ:St}{H:Hp}{Q:Bool->Hp->Prop} (hq:tT M (bT f) σ H Q):tB (tE M f vs) σ H Q:=by
 obtain ⟨ρ,fps,rep,q⟩:=hq;refine ⟨ρ,fps,rep,?_⟩;unfold bT at q;cases ef:f ρ with
 | no=>rw [ef] at q;exact q
 | exc c=>rw [ef] at q;exact q
 | ok p=>
  obtain ⟨x,d,ρ1⟩:=p;rw [ef] at q;intro v H1 fps1 f1 k1 g1 rep1 o1 t1;dsimp only [Rz.bind] at q;cases x with
  | bl b=>
   rw [Own] at o1;exact ⟨b,o1.1,q H1 fps1 k1 g1 rep1⟩
  | _=>exact q.elim
def Ho (f g:Fb):Fb:=λ ρ=>(f ρ).bind λ (b,ρ1)=>if b=true then g ρ1 else .ok (false,ρ1)
def NO (f g:Fb):Fb:=λ ρ=>(f ρ).bind λ (b,ρ1)=>if b=true then .ok (true,ρ1) else g ρ1
def Hn (f:Fb):Fb:=λ ρ=>(f ρ).bind λ (b,ρ1)=>.ok (!b,ρ1)
theorem Zx {σ:St}{H:Hp}{Q:Bool->Hp->Prop} (hq:tT M (Ho fb gb) σ H Q):Iu (tT M fb) (tT M gb) σ H Q:=by
 obtain ⟨ρ,fps,rep,q⟩:=hq;refine ⟨ρ,fps,rep,?_⟩;unfold Ho at q;cases ef:fb ρ with
 | no=>rw [ef] at q;exact q
 | exc c=>rw [ef] at q;exact q
 | ok p=>
  obtain ⟨b,ρ1⟩:=p;rw [ef] at q;intro H1 fps1 k1 g1 rep1;dsimp only [Rz.bind] at q;cases b with
  | false=>exact (q H1 fps1 k1 g1 rep1)
  | true=>
   refine ⟨ρ1,fps1,rep1,?_⟩;rw [if_pos rfl] at q;cases eg:gb ρ1 with
   | no=>rw [eg] at q;exact q
   | exc c=>rw [eg] at q;exact λ H' fps' k=>q H' fps' (k1.trans k)
   | ok p2=>rw [eg] at q;exact λ H' fps' k g r=>q H' fps' (k1.trans k) (g1.trans g) r
theorem Yx {σ:St}{H:Hp}{Q:Bool->Hp->Prop} (hq:tT M (NO fb gb) σ H Q):PL (tT M fb) (tT M gb) σ H Q:=by
 obtain ⟨ρ,fps,rep,q⟩:=hq;refine ⟨ρ,fps,rep,?_⟩;unfold NO at q;cases ef:fb ρ with
 | no=>rw [ef] at q;exact q
 | exc c=>rw [ef] at q;exact q
 | ok p=>
  obtain ⟨b,ρ1⟩:=p;rw [ef] at q;intro H1 fps1 k1 g1 rep1;dsimp only [Rz.bind] at q;cases b with
  | true=>exact (q H1 fps1 k1 g1 rep1)
  | false=>
   refine ⟨ρ1,fps1,rep1,?_⟩;rw [if_neg BN] at q;cases eg:gb ρ1 with
   | no=>rw [eg] at q;exact q
   | exc c=>rw [eg] at q;exact λ H' fps' k=>q H' fps' (k1.trans k)
   | ok p2=>rw [eg] at q;exact λ H' fps' k g r=>q H' fps' (k1.trans k) (g1.trans g) r
theorem Zy {σ:St}{H:Hp}{Q:Bool->Hp->Prop} (hq:tT M (Hn fb) σ H Q):Iq (tT M fb) σ H Q:=by
 obtain ⟨ρ,fps,rep,q⟩:=hq;refine ⟨ρ,fps,rep,?_⟩;unfold Hn at q;cases ef:fb ρ with
 | no=>rw [ef] at q;exact q
 | exc c=>rw [ef] at q;exact q
 | ok p=>obtain ⟨b,ρ1⟩:=p;rw [ef] at q;exact q
theorem Tmps.all {K:Frag}{H:Hp}{Z:Addr->Prop}:∀ {xs:List (PV×Nat)}{ws:List V}{fp:List Addr},Tmps K H Z xs ws fp->(∀ p∈xs,p.2=om)->OwnL K H Z (xs.map (·.1)) om ws fp
 | [],_,_,h,_=>by rw [HG,OwnL];exact h
 | (x,d)::xs,ws,fp,h,ha=>by
  obtain ⟨v,s,f1,f2,e1,e2,dj,h1,h2⟩:=h;have e:d=om:=ha (x,d) Ba;subst e;rw [BA,OwnL];exact ⟨v,s,f1,f2,e1,e2,dj,Own.full x v f1 h1,h2.all λ p hp=>ha p (AU _ hp)⟩
theorem Tmps.cold {K:Frag}{H:Hp}{Z:Addr->Prop}:∀ {xs:List (PV×Nat)}{ws:List V}{fp:List Addr},Tmps K H Z xs ws fp->(∀ a∈fp,¬ Z a)->OwnL K H Z (xs.map (·.1)) 0 ws []
 | [],_,_,h,_=>by rw [HG,OwnL];exact ⟨h.1,rfl⟩
 | (x,d)::xs,ws,fp,h,ha=>by
  obtain ⟨v,s,f1,f2,e1,e2,dj,h1,h2⟩:=h;rw [BA,OwnL];exact ⟨v,s,[],[],e1,rfl,λ _ z=>(nomatch z),Own.freeze (λ _ z=>.inl z) x d v f1 (λ a z=>ha a (by rw [e2];exact BC _ z)) h1,h2.cold λ a z=>ha a (by rw [e2];exact Bj _ z)⟩
theorem Tmps.length {K:Frag}{H:Hp}{Z:Addr->Prop}:∀ {xs:List (PV×Nat)}{ws:List V}{fp:List Addr},Tmps K H Z xs ws fp->ws.length=xs.length
 | [],_,_,h=>by rw [h.1];rfl
 | (x,d)::xs,ws,fp,h=>by
  obtain ⟨v,s,f1,f2,e1,e2,dj,h1,h2⟩:=h;rw [e1,Cs,Cs,h2.length]
theorem OwnL.length {K:Frag}{H:Hp}{Z:Addr->Prop}:∀ {xs:List PV}{d:Nat}{ws:List V}{fp:List Addr},OwnL K H Z xs d ws fp->ws.length=xs.length
 | [],_,_,_,h=>by rw [OwnL] at h;rw [h.1];rfl
 | x::xs,d,ws,fp,h=>by
  rw [OwnL] at h;obtain ⟨v,s,f1,f2,e1,e2,dj,h1,h2⟩:=h;rw [e1,Cs,Cs,h2.length]
end
inductive Rs where
 | nx (ρ:Ag) | rt (x:PV) (d:Nat) (ρ:Ag) | bk (ρ:Ag) | ct (ρ:Ag) | exc (c:Nat) | no
abbrev Fs:=Ag->Rs
structure KS (M:Fm) (H:Hp) (fps:AI) (H':Hp) (fps':AI):Prop where
 keep:CO (λ a=>∃ i,a∈fps i) H H'
 dom:∀ a,H a≠none->H' a≠none
 sub:∀ i,∀ a∈fps' i,(∃ j,a∈fps j)\/H a=none
def Zr (M:Fm) (fps:AI):Addr->Prop:=λ a=>M.Zo a\/(M.io≠none/\a∈fps 0)
def RsOk (M:Fm) (D:Ends) (H:Hp) (fps:AI):Rs->Prop
 | .nx ρ'=>∀ σ' H' fps',KS M H fps H' fps'->Rep M ρ' σ' H' fps'->D.nx σ' H'
 | .bk ρ'=>∀ σ' H' fps',KS M H fps H' fps'->Rep M ρ' σ' H' fps'->D.bk σ' H'
 | .ct ρ'=>∀ σ' H' fps',KS M H fps H' fps'->Rep M ρ' σ' H' fps'->D.ct σ' H'
 | .rt x d ρ'=>∀ v σ' H' fps' fp,KS M H fps H' fps'->Rep M ρ' σ' H' fps'->Own M.K H' (λ a=>Zr M fps' a\/a∈fp) x d v fp->(∀ a∈fp,M.H₀ a=none/\¬ Zr M fps' a)->D.rt v H'
 | .exc c=>∀ σ' H' fps',KS M H fps H' fps'->M.W σ' c H'
 | .no=>False
def tS (M:Fm) (f:Fs):TS:=λ D σ H=>∃ ρ fps,Rep M ρ σ H fps/\RsOk M D H fps (f ρ)
section
variable {M:Fm}{ρ ρ':Ag}{σ σ':St}{H H' H'':Hp}{fps fps' fps'':AI}{vs vs':List Nat}
def KS.refl:KS M H fps H fps:=⟨λ _ _ h _=>h,λ _ h=>h,λ i _ h=>.inl ⟨i,h⟩⟩
def KD.ks (k:KD M H fps H' fps'):KS M H fps H' fps':=⟨λ a o h n=>k.keep a o h λ ⟨i,_,z⟩=>n ⟨i,z⟩,k.dom,λ i a h=>(k.sub i a h).elim (λ z=>.inl ⟨i,z⟩) .inr⟩
def KS.trans (a:KS M H fps H' fps') (b:KS M H' fps' H'' fps''):KS M H fps H'' fps'' where
 keep:=λ x o h n=>b.keep x o (a.keep x o h n) λ ⟨i,hx⟩=>(a.sub i x hx).elim (λ z=>n z) λ z=>by rw [z] at h;cases h
 dom:=λ x h=>b.dom x (a.dom x h)
 sub:=λ i x hx=>(b.sub i x hx).elim (λ ⟨j,z⟩=>a.sub j x z) λ z=>.inr (by
  cases e:H x with
  | none=>rfl
  | some o=>exact absurd z (a.dom x (by rw [e];simp)))
def KS.stay0 (k:KS M H fps H' fps') (r:Rep M ρ σ H fps) {x:PV}{v:V} (h:Own M.K H (Zf M fps) x 0 v []):Own M.K H' (Zf M fps') x 0 v []:=by
 refine Own.move k.keep (λ a ⟨i,ha⟩=>⟨.inr ⟨i,ha⟩,r.lsts ha⟩) ?_ x 0 v [] (λ _ z=>nomatch z) h;intro a hd nz z;rcases z with z | ⟨i,hx⟩
 ·exact nz (.inl z)
 ·rcases k.sub i a hx with z | z
  ·exact nz (.inr z)
  ·exact hd z
def Al:Fs:=λ ρ=>.nx ρ
def Ae (f g:Fs):Fs:=λ ρ=>match f ρ with
 | .nx ρ1=>g ρ1
 | r=>r
def QT {D:Ends} (hq:tS M Al D σ H):TM D σ H:=by
 obtain ⟨ρ,fps,rep,q⟩:=hq;exact q σ H fps KS.refl rep
def Ax (c:Fb) (f g:Fs):Fs:=λ ρ=>match c ρ with
 | .ok (b,ρ1)=>if b=true then f ρ1 else g ρ1
 | .exc e=>.exc e
 | .no=>.no
theorem RsOk.from {D:Ends}{r:Rs} (k1:KS M H fps H' fps') (q:RsOk M D H fps r):RsOk M D H' fps' r:=by
 cases r with
 | no=>exact q
 | exc c=>exact λ σ' H' fps' k=>q σ' H' fps' (k1.trans k)
 | rt x d ρ2=>exact λ v σ' H' fps' fp k=>q v σ' H' fps' fp (k1.trans k)
 | bk ρ2=>exact λ σ' H' fps' k=>q σ' H' fps' (k1.trans k)
 | ct ρ2=>exact λ σ' H' fps' k=>q σ' H' fps' (k1.trans k)
 | nx ρ2=>exact λ σ' H' fps' k=>q σ' H' fps' (k1.trans k)
theorem UE {f g:Fs}{D:Ends} (hq:tS M (Ae f g) D σ H):KJ (tS M f) (tS M g) D σ H:=by
 obtain ⟨ρ,fps,rep,q⟩:=hq;refine ⟨ρ,fps,rep,?_⟩;unfold Ae at q;cases ef:f ρ with
 | no=>rw [ef] at q;exact q
 | exc c=>rw [ef] at q;exact q
 | rt x d ρ1=>rw [ef] at q;exact q
 | bk ρ1=>rw [ef] at q;exact q
 | ct ρ1=>rw [ef] at q;exact q
 | nx ρ1=>
  rw [ef] at q;exact λ σ1 H1 fps1 k1 rep1=>⟨ρ1,fps1,rep1,RsOk.from k1 q⟩
theorem Yw {c:Fb}{f g:Fs}{D:Ends} (hq:tS M (Ax c f g) D σ H):Ir (tT M c) (tS M f) (tS M g) D σ H:=by
 obtain ⟨ρ,fps,rep,q⟩:=hq;refine ⟨ρ,fps,rep,?_⟩;unfold Ax at q;cases ef:c ρ with
 | no=>rw [ef] at q;exact q
 | exc c=>rw [ef] at q;exact λ H' fps' k=>q _ H' fps' k.ks
 | ok p=>
  obtain ⟨b,ρ1⟩:=p;rw [ef] at q;intro H1 fps1 k1 g1 rep1;dsimp only at q;cases b with
  | true=>
   rw [if_pos rfl] at q ⊢;exact ⟨ρ1,fps1,rep1,RsOk.from k1.ks q⟩
  | false=>
   rw [if_neg BN] at q ⊢;exact ⟨ρ1,fps1,rep1,RsOk.from k1.ks q⟩
def cool (vs:List Nat):Nat->Ag->Ag
 | _,[]=>[]
 | k,s::r=>(if vs.contains k then s.map λ p=>(p.1,0) else s)::cool vs (k + 1) r
def CI (d:Nat) (vs:List Nat) (ρ:Ag):Ag:=if d=om then ρ else cool vs 0 ρ
theorem Mr (vs:List Nat):∀ (ρ:Ag) (k i:Nat),(cool vs k ρ)[i]?=(ρ[i]?).map λ s=>if vs.contains (k + i) then s.map λ p=>(p.1,0) else s
 | [],k,i=>by simp [cool]
 | s::r,k,0=>by simp [cool]
 | s::r,k,i + 1=>by
  rw [cool,RD,Mr vs r (k + 1) i,RD]
  have:k + 1 + i=k + (i + 1):=by omega
  rw [this]
theorem Oq (vs:List Nat):∀ (ρ:Ag) (k:Nat),(cool vs k ρ).length=ρ.length
 | [],_=>rfl
 | s::r,k=>by rw [cool,Cs,Oq vs r (k + 1),Cs]
def Ep (vs:List Nat) (fps:AI):AI:=λ i=>if vs.contains i then [] else fps i
def Gh {a:Addr}{i:Nat} (h:a∈Ep vs fps i):a∈fps i/\i∉vs:=by
 unfold Ep at h;split at h
 ·cases h
 ·rename_i n;exact ⟨h,λ z=>n (by simpa using z)⟩
def HR {a:Addr} (h:Zf M (Ep vs fps) a):Zv M vs fps a:=h.elim .inl λ ⟨i,z⟩=>.inr ⟨i,(Gh z).2,(Gh z).1⟩
def Rep.cool (r:Rep M ρ σ H fps) (hal:∀ i,M.al i=[]) (hv:∀ i∈vs,M.Ms i=false):Rep M (cool vs 0 ρ) σ H (Ep vs fps) where
 own:=λ i x d e=>by
  rw [Mr] at e;cases e1:ρ[i]? with
  | none=>rw [e1] at e;cases e
  | some s=>
   rw [e1] at e;simp only [Lq,Lo] at e;by_cases hc:vs.contains i=true
   ·rw [if_pos hc] at e;cases s with
    | none=>cases e
    | some p=>
     obtain ⟨x0,d0⟩:=p;simp only [Lq,Option.some.injEq,Prod.mk.injEq] at e;obtain ⟨rfl,rfl⟩:=e;obtain ⟨v,hσ,o⟩:=r.own0 hal i x0 d0 e1;refine ⟨v,hσ,Own.weak (Z:=Zf M (Ep vs fps)) (λ a h=>h.zf) ?_⟩
     have:Ep vs fps i=[]:=by unfold Ep;rw [if_pos hc]
     rw [this];exact Own.freeze (λ a h=>Zv.zf (HR h)) x0 d0 v _ (λ a ha z=>by
      rcases z with z | ⟨j,z⟩
      ·exact r.zo i a ha z
      ·obtain ⟨z1,z2⟩:=Gh z;exact r.dj i j (λ e=>z2 (by rw [<- e];simpa using hc)) a ha z1) o
   ·rw [if_neg hc] at e;cases e;obtain ⟨v,hσ,o⟩:=r.own0 hal i x d e1;refine ⟨v,hσ,Own.weak (Z:=Zf M (Ep vs fps)) (λ a h=>h.zf) ?_⟩
    have:Ep vs fps i=fps i:=by unfold Ep;rw [if_neg hc]
    rw [this];exact o.weak λ a h=>Zv.zf (HR h)
 non:=λ i h=>by
  unfold Ep;split
  ·rfl
  ·rename_i hc;refine r.non i λ p e=>h p ?_;rw [Mr,e];simp only [Lq,Lo];rw [if_neg hc]
 dj:=λ i j hij a ha hb=>r.dj i j hij a (Gh ha).1 (Gh hb).1
 zo:=λ i a ha=>r.zo i a (Gh ha).1
 fr:=λ i hi a ha=>r.fr i hi a (Gh ha).1
 zd:=r.zd
 len:=by rw [Oq];exact r.len
 msf:=λ i x d hi e=>by
  rw [Mr] at e;cases e1:ρ[i]? with
  | none=>rw [e1] at e;cases e
  | some s=>
   rw [e1] at e;simp only [Lq,Lo] at e;have hc:¬ vs.contains i=true:=λ z=>by rw [hv i (by simpa using z)] at hi;cases hi
   rw [if_neg hc] at e;cases e;exact r.msf i x d hi e1
 h0:=r.h0
 iov:=r.iov
def KS.cool (k:KS M H fps H' fps'):KS M H fps H' (Ep vs fps'):=⟨k.keep,k.dom,λ i a h=>k.sub i a (Gh h).1⟩
def Rep.wide {fp:List Addr} (hal:∀ i,∀ j∈M.al i,M.Ms j=false) (r:Rep M ρ σ H fps) (k:KD M H fps H' fps') (g:Agr M ρ ρ') (r':Rep M ρ' σ H' fps') (hf:∀ a∈fp,H a=none/\H' a≠none/\¬ Zf M fps' a):Rep (M.plus fp) ρ' σ H' fps' where
 own:=λ i x d e=>by
  by_cases hm:M.Ms i=true
  ·obtain ⟨v,hv,o⟩:=r'.own i x d e;have hd:=r'.msf i x d hm e;subst hd;exact ⟨v,hv,Own.full x v _ o⟩
  ·have hm':M.Ms i=false:=by simpa using hm
   rw [g.1 i hm'] at e;obtain ⟨v,hv,o⟩:=r.own i x d e;refine ⟨v,hv,?_⟩;rw [k.same i hm'];refine Own.move k.keep (λ a ⟨j,hj,ha⟩=>⟨.inr ⟨j,λ z=>(by rw [hal i j z] at hj;cases hj),ha⟩,r.lsts ha⟩) ?_ x d v _ ?_ o
   ·intro a hd nz z;rcases z with (z | z) | ⟨j,nj,z⟩
    ·exact nz (.inl z)
    ·exact hd (hf a z).1
    ·rcases k.sub j a z with z | z
     ·exact nz (.inr ⟨j,nj,z⟩)
     ·exact hd z
   ·rintro a ha ⟨j,hj,hx⟩;exact r.dj i j (λ e=>by rw [e,hj] at hm';cases hm') a ha hx
 non:=r'.non
 dj:=r'.dj
 zo:=λ i a ha z=>z.elim (r'.zo i a ha) λ z=>(hf a z).2.2 (.inr ⟨i,ha⟩)
 fr:=r'.fr
 zd:=λ a z=>z.elim (r'.zd a) λ z=>(hf a z).2.1
 len:=r'.len
 msf:=r'.msf
 h0:=r'.h0
 iov:=r'.iov
def Rep.put {i:Nat}{x:PV}{d:Nat}{v:V}{fp:List Addr} (r:Rep (M.plus fp) ρ σ H fps) (h:Own M.K H (λ a=>Za M fps i a\/a∈fp) x d v fp) (hf:∀ a∈fp,M.H₀ a=none/\¬ M.Zo a) (hi:i < ρ.length) (hm:M.Ms i=true->d=om) (hio:M.Fre i):
  Rep M (ρ.set i (some (x,d))) (σ.set i (some v)) H (λ j=>if j=i then fp else fps j):=by
 have zz:∀ a,Zf M (λ j=>if j=i then fp else fps j) a->Zf M fps a\/a∈fp:=λ a h=>by
  rcases h with z | ⟨j,z⟩
  ·exact .inl (.inl z)
  ·by_cases e:j=i
   ·simp only [if_pos e] at z;exact .inr z
   ·simp only [if_neg e] at z;exact .inl (.inr ⟨j,z⟩)
 have zz2:∀ a,Zf M fps a\/a∈fp->Zf (M.plus fp) fps a:=λ a h=>h.elim (λ h=>h.elim (λ z=>.inl (.inl z)) λ z=>.inr z) λ z=>.inl (.inr z);refine ⟨λ j y e hj=>?_,λ j hj=>?_,λ j k hjk a ha hb=>?_,λ j a ha z=>?_,λ j hj a ha=>?_,λ a z=>r.zd a (.inl z),?_,λ j y e hj he=>?_,r.h0,?_⟩
 ·by_cases e:j=i
  ·subst e;rw [Eg hi] at hj;cases hj;refine ⟨v,by rw [Eg (by rw [<- r.len];exact hi)],?_⟩;rw [if_pos rfl];refine h.weak λ a h=>?_;rcases h with z | ⟨k,nk,z⟩
   ·exact .inl (.inl z)
   ·by_cases ek:k=j
    ·simp only [if_pos ek] at z;exact .inr z
    ·simp only [if_neg ek] at z;exact .inl (.inr ⟨k,nk,z⟩)
  ·rw [Ct (BF e)] at hj;obtain ⟨w,hw,o⟩:=r.own j y _ hj;refine ⟨w,by rw [Ct (BF e)];exact hw,?_⟩;rw [if_neg e];refine o.weak λ a h=>?_;rcases h with z | ⟨k,nk,z⟩
   ·exact .inl (.inl z)
   ·by_cases ek:k=i
    ·simp only [if_pos ek] at z;exact .inl (.inr z)
    ·simp only [if_neg ek] at z;exact .inr ⟨k,nk,z⟩
 ·by_cases e:j=i
  ·subst e;exact absurd (Eg hi) (hj _)
  ·rw [if_neg e];exact r.non j λ p hp=>hj p (by rw [Ct (BF e)];exact hp)
 ·by_cases e1:j=i
  ·by_cases e2:k=i
   ·exact hjk (e1.trans e2.symm)
   ·rw [if_pos e1] at ha;rw [if_neg e2] at hb;exact r.zo k a hb (.inr ha)
  ·rw [if_neg e1] at ha;by_cases e2:k=i
   ·rw [if_pos e2] at hb;exact r.zo j a ha (.inr hb)
   ·rw [if_neg e2] at hb;exact r.dj j k hjk a ha hb
 ·by_cases e:j=i
  ·rw [if_pos e] at ha;exact (hf a ha).2 z
  ·rw [if_neg e] at ha;exact r.zo j a ha (.inl z)
 ·by_cases e:j=i
  ·rw [if_pos e] at ha;exact (hf a ha).1
  ·rw [if_neg e] at ha;exact r.fr j hj a ha
 ·rw [FW,FW];exact r.len
 ·by_cases e:j=i
  ·subst e;rw [Eg hi] at he;cases he;exact hm hj
  ·rw [Ct (BF e)] at he;exact r.msf j y _ hj he
 ·refine ⟨λ w hw=>?_,λ p hp=>?_⟩
  ·have h0:i≠0:=hio.1 (by rw [hw];simp);rw [Ct h0];exact r.iov.1 w hw
  ·rw [Ct (hio.2 p hp).symm];exact r.iov.2 p hp
def Ai (ms:Bool) (i:Nat) (f:Fx) (vs:List Nat):Fs:=λ ρ=>match f ρ with
 | .ok (x,d,ρ1)=>if i < ρ1.length/\(ms=true->d=om) then .nx ((CI d vs ρ1).set i (some (x,d))) else .no
 | .exc c=>.exc c
 | .no=>.no
def Rep.store {i:Nat}{x:PV}{d:Nat}{v:V}{fp:List Addr} (rep:Rep M ρ σ H fps) (k:KD M H fps H' fps') (g:Agr M ρ ρ') (r':Rep M ρ' σ H' fps') (o:Own M.K H' (Zt M vs fps' fp) x d v fp) (t:Temp M vs H H' fps' fp)
  (hal:∀ i,M.al i=[]) (hv:∀ i∈vs,M.Ms i=false) (hi:i < ρ'.length) (hm:M.Ms i=true->d=om) (hio:M.Fre i):
  ∃ fps2,KS M H fps H' fps2/\Rep M ((CI d vs ρ').set i (some (x,d))) (σ.set i (some v)) H' fps2:=by
 have back:∀ a,H a=none->M.H₀ a=none:=λ a e=>by
  cases e':M.H₀ a with
  | none=>rfl
  | some o=>exact absurd e (rep.h0 a (by rw [e'];simp))
 have w:Rep (M.plus fp) ρ' σ H' fps':=rep.wide (λ i j hj=>by rw [hal i] at hj;cases hj) k g r' λ a ha=>⟨t.new a ha,by obtain ⟨xs,e⟩:=Own.lsts x d v fp o a ha;rw [e];simp,t.ndj a ha⟩
 have hf:∀ a∈fp,M.H₀ a=none/\¬ M.Zo a:=λ a ha=>⟨back a (t.new a ha),λ z=>t.ndj a ha (.inl z)⟩
 have ks2:∀ {fps2:AI},(∀ i a,a∈fps2 i->a∈fps' i)->KS M H fps H' (λ j=>if j=i then fp else fps2 j):=λ {fps2} h2=>⟨k.ks.keep,k.dom,λ j a ha=>by
  by_cases e:j=i
  ·simp only [if_pos e] at ha;exact .inr (t.new a ha)
  ·simp only [if_neg e] at ha;exact k.ks.sub j a (h2 j a ha)⟩
 unfold CI;by_cases hd:d=om
 ·rw [if_pos hd];refine ⟨_,ks2 λ _ _ h=>h,w.put (i:=i) (x:=x) (d:=d) (v:=v) ?_ hf hi hm hio⟩;rw [hd] at o ⊢;exact Own.full x v fp o
 ·rw [if_neg hd];refine ⟨_,ks2 λ _ _ h=>(Gh h).1,(w.cool (vs:=vs) hal hv).put (i:=i) (x:=x) (d:=d) (v:=v) ?_ hf (by rw [Oq];exact hi) hm hio⟩;exact o.weak λ a h=>h.elim (λ h=>.inl (HR h.zf)) .inr
theorem Km {f:Fx}{i:Nat}{ms:Bool}{D:Ends} (hal:∀ i,M.al i=[]) (hv:∀ i∈vs,M.Ms i=false) (hms:M.Ms i=ms) (hio:M.Fre i) (hq:tS M (Ai ms i f vs) D σ H):DA (tE M f vs) (Es i) D σ H:=by
 obtain ⟨ρ,fps,rep,q⟩:=hq;refine ⟨ρ,fps,rep,?_⟩;unfold Ai at q;cases ef:f ρ with
 | no=>rw [ef] at q;exact q
 | exc c=>rw [ef] at q;exact λ H' fps' k=>q _ H' fps' k.ks
 | ok p=>
  obtain ⟨x,d,ρ1⟩:=p;rw [ef] at q;intro v H1 fps1 f1 k1 g1 rep1 o1 t1;dsimp only at q;by_cases hc:i < ρ1.length/\(ms=true->d=om)
  ·rw [if_pos hc] at q;obtain ⟨fps2,k2,r2⟩:=Rep.store rep k1 g1 rep1 o1 t1 hal hv hc.1 (λ h=>hc.2 (by rw [<- hms];exact h)) hio;exact q _ _ _ k2 r2
  ·rw [if_neg hc] at q;exact q.elim
end
section
variable {M:Fm}{ρ ρ':Ag}{σ σ':St}{H H' H'':Hp}{fps fps' fps'':AI}{vs vs':List Nat}
def Zr.zf {a:Addr} (h:Zr M fps a):Zf M fps a:=h.elim .inl λ h=>.inr ⟨0,h.2⟩
def Rep.zr (r:Rep M ρ σ H fps) (hv:∀ i∈vs,M.Ms i=false) {a:Addr} (h:Zr M fps a):Zv M vs fps a:=by
 rcases h with h | ⟨h1,h2⟩
 ·exact .inl h
 ·refine .inr ⟨0,λ z=>?_,h2⟩;cases e:M.io with
  | none=>exact h1 e
  | some v=>have:=(r.iov.1 v e).2;rw [hv 0 z] at this;cases this
theorem Rep.h0' (r:Rep M ρ σ H fps) {a:Addr} (e:H a=none):M.H₀ a=none:=by
 cases e':M.H₀ a with
 | none=>rfl
 | some o=>exact absurd e (r.h0 a (by rw [e'];simp))
def An (f:Fx):Fs:=λ ρ=>match f ρ with
 | .ok (x,d,ρ1)=>.rt x d ρ1
 | .exc c=>.exc c
 | .no=>.no
theorem UD {f:Fx}{D:Ends} (hv:∀ i∈vs,M.Ms i=false) (hq:tS M (An f) D σ H):Io (tE M f vs) D σ H:=by
 obtain ⟨ρ,fps,rep,q⟩:=hq;refine ⟨ρ,fps,rep,?_⟩;unfold An at q;cases ef:f ρ with
 | no=>rw [ef] at q;exact q
 | exc c=>rw [ef] at q;exact λ H' fps' k=>q _ H' fps' k.ks
 | ok p=>
  obtain ⟨x,d,ρ1⟩:=p;rw [ef] at q;intro v H1 fps1 f1 k1 g1 rep1 o1 t1;exact q v σ H1 fps1 f1 k1.ks rep1 (o1.weak λ a h=>h.elim (λ h=>.inl (rep1.zr hv h)) .inr) λ a ha=>⟨rep.h0' (t1.new a ha),λ z=>t1.ndj a ha z.zf⟩
def FA (i:Nat):Fs:=λ ρ=>match ρ[i]? with
 | some (some (x,d))=>.rt x d ρ
 | _=>.no
theorem qU {i:Nat}{D:Ends} (hal:∀ i,M.al i=[]) (hm:M.Ms i=false) (hq:tS M (FA i) D σ H):Io (D9 i) D σ H:=by
 obtain ⟨ρ,fps,rep,q⟩:=hq;unfold FA at q;cases e0:ρ[i]? with
 | none=>rw [e0] at q;exact q.elim
 | some sl=>
  cases sl with
  | none=>rw [e0] at q;exact q.elim
  | some p=>
   obtain ⟨x,d⟩:=p;rw [e0] at q;obtain ⟨v,hv,o⟩:=rep.own0 hal i x d e0;refine ⟨v,hv,q v σ H fps (fps i) KS.refl rep (o.weak λ a h=>h.elim Zr.zf λ z=>.inr ⟨i,z⟩) λ a ha=>⟨rep.fr i hm a ha,λ z=>?_⟩⟩;rcases z with z | ⟨z1,z2⟩
   ·exact rep.zo i a ha z
   ·cases e:M.io with
    | none=>exact z1 e
    | some w=>exact rep.dj i 0 (λ e'=>by rw [e',(rep.iov.1 w e).2] at hm;cases hm) a ha z2
def Dd (f:Fx):Fs:=λ ρ=>match f ρ with
 | .ok (_,_,ρ1)=>.nx ρ1
 | .exc c=>.exc c
 | .no=>.no
theorem Vr {f:Fx}{D:Ends} (hq:tS M (Dd f) D σ H):Li (tE M f vs) D σ H:=by
 obtain ⟨ρ,fps,rep,q⟩:=hq;refine ⟨ρ,fps,rep,?_⟩;unfold Dd at q;cases ef:f ρ with
 | no=>rw [ef] at q;exact q
 | exc c=>rw [ef] at q;exact λ H' fps' k=>q _ H' fps' k.ks
 | ok p=>
  obtain ⟨x,d,ρ1⟩:=p;rw [ef] at q;intro v H1 fps1 f1 k1 g1 rep1 o1 t1;exact q σ H1 fps1 k1.ks rep1
theorem OwnL.snoc {K:Frag}{Z:Addr->Prop}{y:PV}{d:Nat}{w:V}{fy:List Addr}:∀ {xs:List PV}{ws:List V}{f:List Addr},OwnL K H Z xs d ws f->Own K H Z y d w fy->(∀ a∈f,a∉fy)->OwnL K H Z (xs++[y]) d (ws++[w]) (f++fy)
 | [],ws,f,h,hy,_=>by
  rw [OwnL] at h;obtain ⟨rfl,rfl⟩:=h;show OwnL K H Z [y] d [w] fy;rw [OwnL];refine ⟨w,[],fy,[],rfl,by simp,λ _ _ z=>(nomatch z),hy,?_⟩;rw [OwnL];exact ⟨rfl,rfl⟩
 | x::xs,ws,f,h,hy,hd=>by
  rw [OwnL] at h;obtain ⟨v,s,f1,f2,rfl,rfl,dj,h1,h2⟩:=h;show OwnL K H Z (x::(xs++[y])) d (v::(s++[w])) (f1++f2++fy);rw [OwnL];refine ⟨v,s++[w],f1,f2++fy,rfl,by rw [NC],λ a ha hb=>?_,h1,h2.snoc hy λ a ha=>hd a (Bj _ ha)⟩;rcases jc4.mp hb with z | z
  ·exact dj a ha z
  ·exact hd a (BC _ ha) z
def Own.at {K:Frag}{Z Z':Addr->Prop}{a:Addr}{o:HO}{x:PV}{d:Nat}{v:V}{fp:List Addr} (h:Own K H Z x d v fp) (hZ:Z a) (hl:∃ o:MO,H a=some o.ho) (hf:a∉fp) (hz:∀ b,H b≠none->¬ Z b->¬ Z' b):Own K (Aw H a o) Z' x d v fp:=
 Own.move (S:=λ b=>b=a) (λ b u hb n=>by rw [AR n];exact hb) (λ b e=>by rw [e];exact ⟨hZ,hl⟩) hz x d v fp (λ b hb e=>hf (by rw [<- e];exact hb)) h
def OwnL.at {K:Frag}{Z Z':Addr->Prop}{a:Addr}{o:HO}{x:List PV}{d:Nat}{v:List V}{fp:List Addr} (h:OwnL K H Z x d v fp) (hZ:Z a) (hl:∃ o:MO,H a=some o.ho) (hf:a∉fp) (hz:∀ b,H b≠none->¬ Z b->¬ Z' b):OwnL K (Aw H a o) Z' x d v fp:=
 OwnL.move (S:=λ b=>b=a) (λ b u hb n=>by rw [AR n];exact hb) (λ b e=>by rw [e];exact ⟨hZ,hl⟩) hz x d v fp (λ b hb e=>hf (by rw [<- e];exact hb)) h
def Rep.rewrite {i:Nat}{xs:List PV}{d:Nat}{a:Addr}{ws:List V}{zs:List PV}{us:List V}{e:Nat}{f f' fp:List Addr} (hal:∀ i,M.al i=[]) (r:Rep (M.plus fp) ρ σ H fps) (hi:ρ[i]?=some (some (.lst xs,d))) (hσ:σ[i]?=some (some (.ref a)))
  (ha:H a=some (.lst ws)) (hfp:fps i=a::f) (hn:a∉f') (hsub:∀ b∈f',b∈f\/b∈fp) (he:e≠0) (hm:M.Ms i=true->e=om) (hH:∀ b∈fp,M.H₀ b=none/\¬ M.Zo b)
  (hnew:OwnL M.K (Aw H a (.lst us)) (Zf M (λ j=>if j=i then a::f' else fps j)) zs (pd e) us f'):
  Rep M (ρ.set i (some (.lst zs,e))) σ (Aw H a (.lst us)) (λ j=>if j=i then a::f' else fps j):=by
 have hlen:i < ρ.length:=(ja6.mp hi).1;have hai:a∈fps i:=by rw [hfp];exact Ba
 have zz:∀ b,Zf M (λ j=>if j=i then a::f' else fps j) b->Zf (M.plus fp) fps b:=λ b h=>by
  rcases h with z | ⟨j,z⟩
  ·exact .inl (.inl z)
  ·by_cases ej:j=i
   ·simp only [if_pos ej] at z;rcases jb2.mp z with z | z
    ·exact .inr ⟨i,by rw [z];exact hai⟩
    ·rcases hsub b z with z | z
     ·exact .inr ⟨i,by rw [hfp];exact AU _ z⟩
     ·exact .inl (.inr z)
   ·simp only [if_neg ej] at z;exact .inr ⟨j,z⟩
 have dm:∀ b,H b≠none->(Aw H a (.lst us)) b≠none:=λ b h=>by
  by_cases eb:b=a
  ·rw [eb,BS];simp
  ·rw [AR eb];exact h
 have inI:∀ b,b∈a::f'->b∈fps i\/b∈fp:=λ b hb=>by
  rcases jb2.mp hb with z | z
  ·exact .inl (by rw [z];exact hai)
  ·rcases hsub b z with z | z
   ·exact .inl (by rw [hfp];exact AU _ z)
   ·exact .inr z
 refine ⟨λ j y c hj=>?_,λ j hj=>?_,λ j k hjk b hb hc=>?_,λ j b hb z=>?_,λ j hj b hb=>?_,λ b z=>dm b (r.zd b (.inl z)),by rw [FW];exact r.len,λ j y c hj hc=>?_,λ b z=>dm b (r.h0 b z),r.iov⟩
 ·by_cases ej:j=i
  ·subst ej;rw [Eg hlen] at hj;cases hj;refine ⟨_,hσ,?_⟩;rw [if_pos rfl,Own];exact ⟨a,us,rfl,.inr ⟨he,f',BS,rfl,hn,hnew.weak λ _ h=>h.zf⟩⟩
  ·rw [Ct (BF ej)] at hj;obtain ⟨w,hw,ow⟩:=r.own0 hal j y c hj;refine ⟨w,hw,?_⟩;rw [if_neg ej];exact ow.at (.inr ⟨i,hai⟩) ⟨.l ws,ha⟩ (λ z=>r.dj j i ej a z hai) λ b _ nz z=>nz (zz b z.zf)
 ·by_cases ej:j=i
  ·subst ej;exact absurd (Eg hlen) (hj _)
  ·rw [if_neg ej];exact r.non j λ p hp=>hj p (by rw [Ct (BF ej)];exact hp)
 ·have one:∀ k,k≠i->∀ b,b∈a::f'->b∈fps k->False:=λ k hk b h1 h2=>(inI b h1).elim (λ z=>r.dj i k (BF hk) b z h2) λ z=>r.zo k b h2 (.inr z);by_cases e1:j=i
  ·by_cases e2:k=i
   ·exact hjk (e1.trans e2.symm)
   ·rw [if_pos e1] at hb;rw [if_neg e2] at hc;exact one k e2 b hb hc
  ·rw [if_neg e1] at hb;by_cases e2:k=i
   ·rw [if_pos e2] at hc;exact one j e1 b hc hb
   ·rw [if_neg e2] at hc;exact r.dj j k hjk b hb hc
 ·by_cases ej:j=i
  ·rw [if_pos ej] at hb;rcases inI b hb with y | y
   ·exact r.zo i b y (.inl z)
   ·exact (hH b y).2 z
  ·rw [if_neg ej] at hb;exact r.zo j b hb (.inl z)
 ·by_cases ej:j=i
  ·rw [if_pos ej] at hb;rcases inI b hb with y | y
   ·exact r.fr i (by rw [<- ej];exact hj) b y
   ·exact (hH b y).1
  ·rw [if_neg ej] at hb;exact r.fr j hj b hb
 ·by_cases ej:j=i
  ·subst ej;rw [Eg hlen] at hc;cases hc;exact hm hj
  ·rw [Ct (BF ej)] at hc;exact r.msf j y c hj hc
end
section
variable {M:Fm}{ρ ρ':Ag}{σ σ':St}{H H' H'':Hp}{fps fps' fps'':AI}{vs vs':List Nat}
def KS.write {a:Addr}{o:HO}{i:Nat}{f' fp:List Addr} (k:KS M H fps H' fps') (ha:∃ j,a∈fps j) (hs:∀ b∈a::f',b∈fps' i\/H b=none):
  KS M H fps (Aw H' a o) (λ j=>if j=i then a::f' else fps' j) where
 keep:=λ b u hb n=>by rw [AR (λ e=>n (by rw [e];exact ha))];exact k.keep b u hb n
 dom:=λ b hb=>by
  by_cases e:b=a
  ·rw [e,BS];simp
  ·rw [AR e];exact k.dom b hb
 sub:=λ j b hb=>by
  by_cases e:j=i
  ·simp only [if_pos e] at hb;rcases hs b hb with z | z
   ·exact k.sub i b z
   ·exact .inr z
  ·simp only [if_neg e] at hb;exact k.sub j b hb
def Rep.behind {x:PV}{d:Nat}{v:V}{fp:List Addr} (rep:Rep M ρ σ H fps) (k:KD M H fps H' fps') (g:Agr M ρ ρ') (r':Rep M ρ' σ H' fps') (o:Own M.K H' (Zt M vs fps' fp) x d v fp) (t:Temp M vs H H' fps' fp)
  (hal:∀ i,M.al i=[]) (hv:∀ i∈vs,M.Ms i=false):∃ fps2,KS M H fps H' fps2/\Rep (M.plus fp) (CI d vs ρ') σ H' fps2/\Own M.K H' (λ a=>Zf M fps2 a\/a∈fp) x d v fp/\(∀ a∈fp,¬ Zf M fps2 a)/\(∀ i a,a∈fps2 i->a∈fps' i)/\(∀ a∈fp,M.H₀ a=none/\¬ M.Zo a):=by
 have w:Rep (M.plus fp) ρ' σ H' fps':=rep.wide (λ i j hj=>by rw [hal i] at hj;cases hj) k g r' λ a ha=>⟨t.new a ha,by obtain ⟨xs,e⟩:=Own.lsts x d v fp o a ha;rw [e];simp,t.ndj a ha⟩
 have hf:∀ a∈fp,M.H₀ a=none/\¬ M.Zo a:=λ a ha=>⟨rep.h0' (t.new a ha),λ z=>t.ndj a ha (.inl z)⟩
 unfold CI;by_cases hd:d=om
 ·rw [if_pos hd];refine ⟨fps',k.ks,w,?_,t.ndj,λ _ _ h=>h,hf⟩;rw [hd] at o ⊢;exact Own.full x v fp o
 ·rw [if_neg hd];exact ⟨Ep vs fps',k.ks.cool,w.cool hal hv,o.weak λ a h=>h.elim (λ h=>.inl (HR h)) .inr,λ a ha z=>t.ndj a ha (HR z).zf,λ _ _ h=>(Gh h).1,hf⟩
def BW (i:Nat) (f:Fx) (vs:List Nat):Fs:=λ ρ=>match ρ[i]? with
 | some (some (.lst _,0))=>.no
 | some (some (.lst _,_ + 1))=>(match f ρ with
  | .ok (y,e,ρ1)=>(match (CI e vs ρ1)[i]? with
   | some (some (.lst xs,d))=>if d≠0/\xs.length < Au then .nx ((CI e vs ρ1).set i (some (.lst (xs++[y]),if d=om/\e=om then om else 1))) else .no
   | _=>.no)
  | .exc c=>.exc c
  | .no=>.no)
 | _=>.no
def Nq:pd 1=0:=by decide
def Own.list {K:Frag}{Z:Addr->Prop}{xs:List PV}{d:Nat}{v:V}{fp:List Addr} (h:Own K H Z (.lst xs) d v fp) (hd:d≠0):∃ a ws f,v=.ref a/\H a=some (.lst ws)/\fp=a::f/\a∉f/\OwnL K H Z xs (pd d) ws f:=by
 rw [Own] at h;obtain ⟨a,ws,e,⟨d0,_⟩ | ⟨_,f,h1,h2,h3,h4⟩⟩:=h
 ·exact absurd d0 hd
 ·exact ⟨a,ws,f,e,h1,h2,h3,h4⟩
def Zs {f:Fx}{i:Nat}{D:Ends} (hal:∀ i,M.al i=[]) (hv:∀ i∈vs,M.Ms i=false) (hm:M.Ms i=false) (hq:tS M (BW i f vs) D σ H):Li (MG M.K "list" OJ (D9 i) (Lh (tE M f vs) FN)) D σ H:=by
 obtain ⟨ρ,fps,rep,q⟩:=hq;unfold BW at q;split at q
 ·exact q.elim
 ·rename_i xs0 d0 e0;obtain ⟨v,hσ,o⟩:=rep.own0 hal i _ _ e0;obtain ⟨a,ws0,fc0,rfl,ha0,hfp0,_,_⟩:=o.list (W4 _);refine ⟨_,hσ,Vv (.inl (.inl ha0)),ρ,fps,rep,?_⟩;cases ef:f ρ with
  | no=>rw [ef] at q;exact q
  | exc c=>rw [ef] at q;exact λ H' fps' k=>q _ H' fps' k.ks
  | ok p=>
   obtain ⟨y,e,ρ1⟩:=p;rw [ef] at q;intro w H1 fps1 fp k1 g1 rep1 o1 t1;dsimp only at q;split at q
   ·rename_i xs d es;split at q
    ·rename_i hc;obtain ⟨fps2,k2,r2,o2,n2,s2,h2⟩:=Rep.behind rep k1 g1 rep1 o1 t1 hal hv;obtain ⟨v',hσ',ol⟩:=r2.own0 hal i _ _ es;rw [hσ] at hσ';cases hσ';obtain ⟨a',ws,fc,ev,ha,hfp,nac,hol⟩:=ol.list hc.1;cases ev;have hai:a∈fps2 i:=by rw [hfp];exact Ba
     have hafp:a∉fp:=λ z=>n2 a z (.inr ⟨i,hai⟩);have hst:∃ j,a∈fps j:=⟨i,by have:=s2 i a hai;rw [k1.same i hm] at this;exact this⟩
     refine ⟨a,ws,w,rfl,rfl,ha,by rw [hol.length];exact hc.2,?_⟩;by_cases ho:d=om/\e=om
     ·rw [if_pos ho] at q;obtain ⟨rfl,rfl⟩:=ho;refine q σ _ _ (k2.write (i:=i) (f':=fc++fp) (fp:=fp) hst λ b hb=>?_) (r2.rewrite hal es hσ ha hfp (λ z=>(jc4.mp z).elim nac hafp) (λ b hb=>jc4.mp hb) (by decide) (λ _=>rfl) h2 ?_)
      ·rcases jb2.mp hb with z | z
       ·exact .inl (by rw [z];exact hai)
       ·rcases jc4.mp z with z | z
        ·exact .inl (by rw [hfp];exact AU _ z)
        ·exact .inr (t1.new b z)
      ·have u1:OwnL M.K (Aw H1 a (.lst (ws++[w]))) (λ _=>True) xs om ws fc:=(OwnL.full (Z':=λ _=>True) xs ws fc hol).at trivial ⟨.l ws,ha⟩ nac λ _ _ n=>absurd trivial n;have u2:Own M.K (Aw H1 a (.lst (ws++[w]))) (λ _=>True) y om w fp:=(Own.full (Z':=λ _=>True) y w fp o2).at trivial ⟨.l ws,ha⟩ hafp λ _ _ n=>absurd trivial n;exact OwnL.full _ _ _ (u1.snoc u2 λ b hb z=>n2 b z (.inr ⟨i,by rw [hfp];exact AU _ hb⟩))
     ·rw [if_neg ho] at q;refine q σ _ _ (k2.write (i:=i) (f':=[]) (fp:=fp) hst λ b hb=>?_) (r2.rewrite hal es hσ ha hfp (λ z=>nomatch z) (λ b hb=>nomatch hb) (by decide) (λ h=>by rw [hm] at h;cases h) h2 ?_)
      ·rcases jb2.mp hb with z | z
       ·exact .inl (by rw [z];exact hai)
       ·cases z
      ·rw [Nq];have zsub:∀ b,Zf M (λ j=>if j=i then [a] else fps2 j) b->Zf (M.plus fp) fps2 b:=λ b h=>by
        rcases h with z | ⟨j,z⟩
        ·exact .inl (.inl z)
        ·by_cases ej:j=i
         ·simp only [if_pos ej] at z;rw [jc0.mp z];exact .inr ⟨i,hai⟩
         ·simp only [if_neg ej] at z;exact .inr ⟨j,z⟩
       have nf:∀ b∈fc,¬ Zf M (λ j=>if j=i then [a] else fps2 j) b:=λ b hb z=>by
        have hbi:b∈fps2 i:=by rw [hfp];exact AU _ hb
        rcases z with z | ⟨j,z⟩
        ·exact r2.zo i b hbi (.inl z)
        ·by_cases ej:j=i
         ·simp only [if_pos ej] at z;rw [jc0.mp z] at hb;exact nac hb
         ·simp only [if_neg ej] at z;exact r2.dj i j (BF ej) b hbi z
       have nfp:∀ b∈fp,¬ Zf M (λ j=>if j=i then [a] else fps2 j) b:=λ b hb z=>by
        rcases z with z | ⟨j,z⟩
        ·exact n2 b hb (.inl z)
        ·by_cases ej:j=i
         ·simp only [if_pos ej] at z;rw [jc0.mp z] at hb;exact hafp hb
         ·simp only [if_neg ej] at z;exact n2 b hb (.inr ⟨j,z⟩)
       have za:Zf M (λ j=>if j=i then [a] else fps2 j) a:=.inr ⟨i,by simp⟩;have u1:=(OwnL.freeze (Z':=Zf M (λ j=>if j=i then [a] else fps2 j)) zsub xs _ ws fc nf hol)
       have u2:=(Own.freeze (Z':=Zf M (λ j=>if j=i then [a] else fps2 j)) (λ b h=>by
        rcases h with z | ⟨j,z⟩
        ·exact .inl (.inl z)
        ·by_cases ej:j=i
         ·simp only [if_pos ej] at z;rw [jc0.mp z];exact .inl (.inr ⟨i,hai⟩)
         ·simp only [if_neg ej] at z;exact .inl (.inr ⟨j,z⟩)) y _ w fp nfp o2)
       exact (u1.at za ⟨.l ws,ha⟩ (λ z=>nomatch z) λ _ _ n=>n).snoc (u2.at za ⟨.l ws,ha⟩ (λ z=>nomatch z) λ _ _ n=>n) λ _ z=>nomatch z
    ·exact q.elim
   ·exact q.elim
 ·exact q.elim
def Hx:PV->Bool
 | .lst _=>false
 | .tup _=>false
 | .dct _=>false
 | _=>true
theorem OwnL.set {K:Frag}{Z:Addr->Prop}{y:PV}{d:Nat}{w:V} (hy:Own K H Z y d w []):∀ {xs:List PV}{ws:List V}{f:List Addr} (k:Nat),OwnL K H Z xs d ws f->∃ f',(∀ b∈f',b∈f)/\OwnL K H Z (xs.set k y) d (ws.set k w) f'
 | [],ws,f,k,h=>by
  rw [OwnL] at h;obtain ⟨rfl,rfl⟩:=h;refine ⟨[],λ _ z=>z,?_⟩;rw [Wj,Wj,OwnL];exact ⟨rfl,rfl⟩
 | x::xs,ws,f,0,h=>by
  rw [OwnL] at h;obtain ⟨v,s,f1,f2,rfl,rfl,dj,h1,h2⟩:=h;refine ⟨f2,λ b hb=>Bj _ hb,?_⟩;rw [Rw,Rw,OwnL];exact ⟨w,s,[],f2,rfl,rfl,λ _ z=>(nomatch z),hy,h2⟩
 | x::xs,ws,f,k + 1,h=>by
  rw [OwnL] at h;obtain ⟨v,s,f1,f2,rfl,rfl,dj,h1,h2⟩:=h;obtain ⟨f',hs,h'⟩:=h2.set hy k;refine ⟨f1++f',λ b hb=>(jc4.mp hb).elim (λ z=>BC _ z) λ z=>Bj _ (hs b z),?_⟩;rw [Rv,Rv,OwnL];exact ⟨v,s.set k w,f1,f',rfl,rfl,λ b hb hc=>dj b hb (hs b hc),h1,h'⟩
theorem Own.atom {K:Frag}{Z Z':Addr->Prop}{y:PV}{d d':Nat}{w:V}{fp:List Addr} (hy:Hx y=true) (h:Own K H Z y d w fp):fp=[]/\Own K H Z' y d' w []:=by
 cases y with
 | lst _=>cases hy
 | tup _=>cases hy
 | dct _=>cases hy
 | exn _=>rw [Own] at h ⊢;exact ⟨h.1,rfl,h.2⟩
 | emp=>rw [Own] at h ⊢;exact ⟨h.1,rfl,h.2⟩
 | dko=>rw [Own] at h ⊢;exact ⟨h.1,rfl,h.2⟩
 | scr _=>rw [Own] at h ⊢;exact ⟨h.1,rfl,h.2⟩
 | non=>rw [Own] at h ⊢;exact ⟨h.2,h.1,rfl⟩
 | bl _=>rw [Own] at h ⊢;exact ⟨h.2,h.1,rfl⟩
 | int _=>rw [Own] at h ⊢;exact ⟨h.2,h.1,rfl⟩
 | str _=>rw [Own] at h ⊢;exact ⟨h.2,h.1,rfl⟩
end
section
variable {is:List Nat}{M:Fm}{ρ ρ':Ag}{σ σ':St}{H H' H'':Hp}{fps fps' fps'':AI}{vs vs':List Nat}
def Rep.plus0 (hal:∀ i,∀ j∈M.al i,M.Ms j=false) (r:Rep M ρ σ H fps):Rep (M.plus []) ρ σ H fps:=r.wide hal KD.refl Agr.refl r (λ _ z=>nomatch z)
def DI (M:Fm) (al is:List Nat) (g:TG) (asg:PV->Ag->Option Ag):Prop:=∀ y v ρ σ H fps ρ' (Q:St->Hp->Prop),Rep M ρ σ H fps->Own M.K H (Zv M al fps) y 0 v []->asg y ρ=some ρ'->(∀ σ' fps',(∀ i,∀ a∈fps' i,a∈fps i)->(∀ i,i∉is->ρ'[i]?=ρ[i]?/\fps' i=fps i/\σ'[i]?=σ[i]?)->ρ'.length=ρ.length->Rep M ρ' σ' H fps'->Q σ' H)->g v σ H Q
def Ao (i:Nat):PV->Ag->Option Ag:=λ y ρ=>if i < ρ.length then some (ρ.set i (some (y,dv y))) else none
def Own.dv {K:Frag}{Z:Addr->Prop}{x:PV}{v:V} (h:Own K H Z x 0 v []):Own K H Z x (dv x) v []:=Own.view (fp:=[]) (λ _ z=>z) (λ _ z=>nomatch z) h
structure Bd (M:Fm) (al:List Nat) (i:Nat):Prop where
 ms:M.Ms i=false
 io:M.Fre i
 al:M.al i=al
 als:∀ i,∀ j∈M.al i,M.Ms j=false
def Rep.bind1 {al:List Nat}{i:Nat}{y:PV}{v:V} (r:Rep M ρ σ H fps) (o:Own M.K H (Zv M al fps) y 0 v []) (hi:i < ρ.length) (b:Bd M al i):
  Rep M (ρ.set i (some (y,dv y))) (σ.set i (some v)) H (λ j=>if j=i then [] else fps j):=by
 refine (r.plus0 b.als).put (o.dv.weak λ a h=>h.elim (λ h=>?_) λ z=>nomatch z) (λ _ z=>nomatch z) hi (λ h=>by rw [b.ms] at h;cases h) b.io;rcases h with h | ⟨j,nj,h⟩
 ·exact .inl h
 ·exact .inr ⟨j,by rw [b.al] at nj;exact nj,h⟩
def Qz {al:List Nat}{i:Nat} (b:Bd M al i):DI M al [i] (Es i) (Ao i):=by
 intro y v ρ σ H fps ρ' Q r o e q;unfold Ao at e;split at e
 ·rename_i hi;cases e;refine q _ _ (λ j a ha=>?_) (λ j nj=>?_) (by rw [FW]) (r.bind1 o hi b)
  ·by_cases e:j=i
   ·simp only [if_pos e] at ha;cases ha
   ·simp only [if_neg e] at ha;exact ha
  ·have e:j≠i:=λ e=>nj (by simp [e]);exact ⟨Ct (BF e),if_neg e,Ct (BF e)⟩
 ·cases e
def Jm:List Nat->HI
 | []=>Lz
 | i::is=>T6 (Es i) (Jm is)
def Hq:List Nat->List PV->Ag->Option Ag
 | [],[],ρ=>some ρ
 | i::is,y::ys,ρ=>(Ao i y ρ).bind (Hq is ys)
 | _,_,_=>none
def Dt (is:List Nat):PV->Ag->Option Ag:=λ y ρ=>match y with
 | .tup ys=>Hq is ys ρ
 | _=>none
theorem UN {al:List Nat}:∀ (is:List Nat) (ys:List PV) (ws:List V) (ρ:Ag) (σ:St) (H:Hp) (fps:AI) (ρ':Ag) (Q:St->Hp->Prop),(∀ i∈is,Bd M al i)->Rep M ρ σ H fps->OwnL M.K H (Zv M al fps) ys 0 ws []->Hq is ys ρ=some ρ' ->
  (∀ σ' fps',(∀ i,∀ a∈fps' i,a∈fps i)->(∀ i,i∉is->ρ'[i]?=ρ[i]?/\fps' i=fps i/\σ'[i]?=σ[i]?)->ρ'.length=ρ.length->Rep M ρ' σ' H fps'->Q σ' H)->ws.length=is.length/\Jm is ws σ H Q
 | [],[],ws,ρ,σ,H,fps,ρ',Q,_,r,o,e,q=>by
  rw [OwnL] at o;obtain ⟨rfl,_⟩:=o;cases e;exact ⟨rfl,rfl,q σ fps (λ _ _ h=>h) (λ _ _=>⟨rfl,rfl,rfl⟩) rfl r⟩
 | [],_::_,_,_,_,_,_,_,_,_,_,_,e,_=>by cases e
 | _::_,[],_,_,_,_,_,_,_,_,_,_,e,_=>by cases e
 | i::is,y::ys,ws,ρ,σ,H,fps,ρ',Q,hs,r,o,e,q=>by
  rw [OwnL] at o;obtain ⟨v,s,f1,f2,rfl,ef,_,o1,o2⟩:=o;obtain ⟨rfl,rfl⟩:f1=[]/\f2=[]:=by simpa using ef.symm
  unfold Hq at e;cases e1:Ao i y ρ with
  | none=>rw [e1] at e;cases e
  | some ρ1=>
   rw [e1] at e;unfold Ao at e1;split at e1
   ·rename_i hi;cases e1;have bi:=hs i Ba;have r':=r.bind1 o1 hi bi;have sub:∀ j a,a∈(λ j=>if j=i then [] else fps j) j->a∈fps j:=λ j a z=>by
     by_cases ej:j=i
     ·simp only [if_pos ej] at z;cases z
     ·simp only [if_neg ej] at z;exact z
    have o2':OwnL M.K H (Zv M al (λ j=>if j=i then [] else fps j)) ys 0 s []:=o2.weak λ a h=>h.elim .inl λ ⟨j,nj,z⟩=>.inr ⟨j,nj,sub j a z⟩;obtain ⟨hl,hg⟩:=UN is ys s _ _ H _ ρ' Q (λ j hj=>hs j (AU _ hj)) r' o2' e λ σ' fps' k' a' l' r''=>q σ' fps' (λ j a ha=>sub j a (k' j a ha)) (λ j hj=>by
     have ej:j≠i:=λ e=>hj (by rw [e];exact Ba);obtain ⟨z1,z2,z3⟩:=a' j λ z=>hj (AU _ z);rw [if_neg ej] at z2;exact ⟨z1.trans (Ct (BF ej)),z2,z3.trans (Ct (BF ej))⟩) (l'.trans (by rw [FW])) r''
    exact ⟨by rw [Cs,Cs,hl],v,s,rfl,hg⟩
   ·cases e1
def Qn {al:List Nat}{is:List Nat} (hs:∀ i∈is,Bd M al i):DI M al is (IM M.K is.length (Jm is)) (Dt is):=by
 intro y v ρ σ H fps ρ' Q r o e q;unfold Dt at e;split at e
 ·rename_i ys;rw [Own] at o;obtain ⟨a,ws,rfl,hr,ol⟩:=o;obtain ⟨hl,hg⟩:=UN is ys ws ρ σ H fps ρ' Q hs r ol e q;exact ⟨a,ws,rfl,.inl (.inl hr),hl,hg⟩
 ·cases e
def Ci (asg:PV->Ag->Option Ag) (body:Fs):List PV->Ag->Rs
 | [],ρ=>.nx ρ
 | x::xs,ρ=>match asg x ρ with
  | none=>.no
  | some ρ1=>match body ρ1 with
   | .nx ρ2=>Ci asg body xs ρ2
   | .ct ρ2=>Ci asg body xs ρ2
   | .bk ρ2=>.nx ρ2
   | .rt x d ρ2=>.rt x d ρ2
   | .exc c=>.exc c
   | .no=>.no
def LY {g:TG}{asg:PV->Ag->Option Ag}{body:Fs}{D:Ends}{J:It}{els:List PV}{Pq:Hp->AI->Prop} (hg:DI M [] is g asg)
  (hP:∀ {ρ σ H fps H' fps'},Rep M ρ σ H fps->KS M H fps H' fps'->Pq H fps->Pq H' fps') (hgo:∀ {H fps i},Pq H fps->i < els.length->J.go i H) (hst:∀ {H fps i},Pq H fps->els.length<=i->J.stop i H)
  (hy:∀ {ρ σ H fps i x H'},Rep M ρ σ H fps->Pq H fps->i < els.length->J.yld i H x H'->(∀ a o,H a=some o->H' a=some o)/\∃ y,els[i]?=some y/\Own M.K H' (Zf M fps) y 0 x [])
  (rep:Rep M ρ σ H fps) (p:Pq H fps) (q:RsOk M D H fps (Ci asg body els ρ)):
  ∃ W:Nat->Nat->St->Hp->Prop,(∃ m,W 0 m σ H)/\∀ i m σ H,W i m σ H ->
   (J.stop i H/\D.nx σ H)\/(J.go i H/\∃ N:St->Hp->Prop,(∀ σ' H',N σ' H'->∃ m',m' < m/\W (i + 1) m' σ' H')/\∀ x H',J.yld i H x H'->g x σ H' λ σ2 H2=>(tS M body) { D with nx:=N,ct:=N,bk:=D.nx } σ2 H2):=by
 let W:Nat->Nat->St->Hp->Prop:=λ i m σ H=>m=els.length - i/\∃ ρ fps,Rep M ρ σ H fps/\Pq H fps/\RsOk M D H fps (Ci asg body (els.drop i) ρ);refine ⟨W,⟨els.length,by simp,ρ,fps,rep,p,by simpa using q⟩,?_⟩;rintro i m σ H ⟨rfl,ρ,fps,r,p,q⟩;by_cases hi:i < els.length
 ·right
  refine ⟨hgo p hi,W (i + 1) (els.length - (i + 1)),λ σ' H' w=>⟨_,by omega,w⟩,λ x H' y=>?_⟩;obtain ⟨kx,z,ez,oz⟩:=hy r p hi y;have k0:KS M H fps H' fps:=(KD.grow kx).ks;have p:=hP r k0 p;have r:=r.grow kx;have q:=RsOk.from k0 q;have ed:els.drop i=z::els.drop (i + 1):=by
   obtain ⟨h1,h2⟩:=ja6.mp ez;rw [<- h2];exact RE h1
  rw [ed] at q;unfold Ci at q;cases ea:asg z ρ with
  | none=>rw [ea] at q;exact q.elim
  | some ρ1=>
   rw [ea] at q;dsimp only at q;refine hg z x ρ σ _ fps ρ1 _ r (oz.weak λ a h=>h.zf) ea λ σ1 fps1 s1 _ _ r1=>⟨ρ1,fps1,r1,?_⟩
   have k1:KS M H' fps H' fps1:=⟨λ _ _ h _=>h,λ _ h=>h,λ j a ha=>.inl ⟨j,s1 j a ha⟩⟩
   have p1:=hP r k1 p;cases eb:body ρ1 with
   | no=>rw [eb] at q;exact q
   | exc c=>rw [eb] at q;exact RsOk.from (r:=.exc c) k1 q
   | rt x d ρ2=>rw [eb] at q;exact RsOk.from (r:=.rt x d ρ2) k1 q
   | bk ρ2=>rw [eb] at q;exact λ σ' H' fps' k=>q σ' H' fps' (k1.trans k)
   | nx ρ2=>rw [eb] at q;exact λ σ' H' fps' k r'=>⟨rfl,ρ2,fps',r',hP r1 k p1,RsOk.from (k1.trans k) q⟩
   | ct ρ2=>rw [eb] at q;exact λ σ' H' fps' k r'=>⟨rfl,ρ2,fps',r',hP r1 k p1,RsOk.from (k1.trans k) q⟩
 ·left
  have ed:els.drop i=[]:=RB (by omega);rw [ed] at q;exact ⟨hst p (by omega),q σ H fps KS.refl r⟩
def Fw (lo:Int) (n:Nat):List PV:=(Bw n).map λ (i:Nat)=>PV.int (lo + (i:Int))
def Jc (lo:Int) (n:Nat):(Fw lo n).length=n:=by simp [Fw]
def Bo:List (PV×Nat)->Option (Int×Int)
 | [(.int j,_)]=>if -(2 ^ 62)<=j/\j < 2 ^ 62 then some (0,j) else none
 | _=>none
def FI:List (PV×Nat)->Option (Int×Int)
 | [(.int i,_),(.int j,_)]=>if -(2 ^ 62)<=i/\i < 2 ^ 62/\-(2 ^ 62)<=j/\j < 2 ^ 62 then some (i,j) else none
 | _=>none
def CF (en:List (PV×Nat)->Option (Int×Int)) (fa:Fa) (asg:PV->Ag->Option Ag) (body:Fs):Fs:=λ ρ=>match fa ρ with
 | .ok (xs,ρ1)=>(match en xs with
  | some (i,j)=>Ci asg body (Fw i (j - i).toNat) ρ1
  | none=>.no)
 | .exc c=>.exc c
 | .no=>.no
def Ss {g:TG}{asg:PV->Ag->Option Ag}{body:Fs}{D:Ends}{lo:Int}{n:Nat} (hg:DI M [] is g asg) (rep:Rep M ρ σ H fps) (q:RsOk M D H fps (Ci asg body (Fw lo n) ρ)):
  ∃ W:Nat->Nat->St->Hp->Prop,(∃ m,W 0 m σ H)/\∀ i m σ H,W i m σ H ->
   ((GC lo n).stop i H/\D.nx σ H)\/((GC lo n).go i H/\∃ N:St->Hp->Prop,(∀ σ' H',N σ' H'->∃ m',m' < m/\W (i + 1) m' σ' H')/\∀ x H',(GC lo n).yld i H x H'->g x σ H' λ σ2 H2=>(tS M body) { D with nx:=N,ct:=N,bk:=D.nx } σ2 H2):=by
 refine LY (Pq:=λ _ _=>True) hg (λ _ _ _=>trivial) (λ {H fps i} _ h=>?_) (λ {H fps i} _ h=>?_) (λ {ρ σ H fps i x H'} _ _ h y=>?_) rep trivial q
 ·rw [Jc] at h;exact h
 ·rw [Jc] at h;exact h
 ·rw [Jc] at h;obtain ⟨e1,e2⟩:=y;subst e1;exact ⟨λ _ _ h=>h,.int (lo + i),by simp [Fw,h],by rw [e2,Own];exact ⟨rfl,rfl⟩⟩
theorem Vs {g:TG}{asg:PV->Ag->Option Ag}{body:Fs}{fa:Fa}{D:Ends} (hg:DI M [] is g asg) (hq:tS M (CF Bo fa asg body) D σ H):GY (Nj (tL M fa vs)) g (tS M body) D σ H:=by
 obtain ⟨ρ,fps,rep,q⟩:=hq;refine ⟨ρ,fps,rep,?_⟩;unfold CF at q;cases ef:fa ρ with
 | no=>rw [ef] at q;exact q
 | exc c=>rw [ef] at q;exact λ H' fps' k=>q _ H' fps' k.ks
 | ok p=>
  obtain ⟨xs,ρ1⟩:=p;rw [ef] at q;intro ws H1 fps1 f1 k1 g1 rep1 o1 t1;dsimp only at q;cases ee:Bo xs with
  | none=>rw [ee] at q;exact q.elim
  | some ij=>
   obtain ⟨i,j⟩:=ij;rw [ee] at q;unfold Bo at ee;split at ee
   ·rename_i j' d;split at ee
    ·rename_i hb;cases ee;obtain ⟨v,r,f1,f2,rfl,_,_,h1,h2⟩:=o1;obtain ⟨rfl,_⟩:=h2;rw [Own] at h1;obtain ⟨rfl,_⟩:=h1;refine ⟨j,rfl,hb.1,hb.2,?_⟩;have e:(j - 0).toNat=j.toNat:=by omega
     dsimp only at q;rw [e] at q;exact Ss hg rep1 (RsOk.from k1.ks q)
    ·cases ee
   ·cases ee
theorem Vt {g:TG}{asg:PV->Ag->Option Ag}{body:Fs}{fa:Fa}{D:Ends} (hg:DI M [] is g asg) (hq:tS M (CF FI fa asg body) D σ H):GY (Nk (tL M fa vs)) g (tS M body) D σ H:=by
 obtain ⟨ρ,fps,rep,q⟩:=hq;refine ⟨ρ,fps,rep,?_⟩;unfold CF at q;cases ef:fa ρ with
 | no=>rw [ef] at q;exact q
 | exc c=>rw [ef] at q;exact λ H' fps' k=>q _ H' fps' k.ks
 | ok p=>
  obtain ⟨xs,ρ1⟩:=p;rw [ef] at q;intro ws H1 fps1 f1 k1 g1 rep1 o1 t1;dsimp only at q;cases ee:FI xs with
  | none=>rw [ee] at q;exact q.elim
  | some ij=>
   obtain ⟨i,j⟩:=ij;rw [ee] at q;unfold FI at ee;split at ee
   ·rename_i i' d j' d';split at ee
    ·rename_i hb;cases ee;obtain ⟨v,r,f1,f2,rfl,_,_,h1,h2⟩:=o1;obtain ⟨v2,r2,f3,f4,rfl,_,_,h3,h4⟩:=h2;obtain ⟨rfl,_⟩:=h4;rw [Own] at h1 h3;obtain ⟨rfl,_⟩:=h1;obtain ⟨rfl,_⟩:=h3;exact ⟨i,j,rfl,hb,Ss hg rep1 (RsOk.from k1.ks q)⟩
    ·cases ee
   ·cases ee
def FD (z:Str):List PV:=z.cps.toList.map λ c=>.str ⟨#[c]⟩
def Fz (f:Fx) (vs:List Nat) (asg:PV->Ag->Option Ag) (body:Fs):Fs:=λ ρ=>match f ρ with
 | .ok (.str z,d,ρ1)=>if Bn z=true then Ci asg body (FD z) (CI d vs ρ1) else .no
 | .ok (.lst xs,d,ρ1)=>Ci asg body xs (CI d vs ρ1)
 | .ok (.tup xs,d,ρ1)=>Ci asg body xs (CI d vs ρ1)
 | .ok _=>.no
 | .exc c=>.exc c
 | .no=>.no
theorem OwnL.get {K:Frag}{Z:Addr->Prop}:∀ {xs:List PV}{ws:List V}{i:Nat}{w:V},OwnL K H Z xs 0 ws []->ws[i]?=some w->∃ x,xs[i]?=some x/\Own K H Z x 0 w []
 | [],ws,i,w,h,e=>by
  rw [OwnL] at h;obtain ⟨rfl,_⟩:=h;simp at e
 | x::xs,ws,i,w,h,e=>by
  rw [OwnL] at h;obtain ⟨v,s,f1,f2,rfl,ef,_,o1,o2⟩:=h;obtain ⟨rfl,rfl⟩:f1=[]/\f2=[]:=by simpa using ef.symm
  cases i with
  | zero=>simp at e;subst e;exact ⟨x,by simp,o1⟩
  | succ i=>obtain ⟨y,e1,e2⟩:=o2.get (i:=i) (w:=w) (by simpa using e);exact ⟨y,by simpa using e1,e2⟩
def Rep.seen {x:PV}{d:Nat}{v:V}{fp:List Addr} (rep:Rep M ρ σ H fps) (k:KD M H fps H' fps') (g:Agr M ρ ρ') (r':Rep M ρ' σ H' fps') (o:Own M.K H' (Zt M vs fps' fp) x d v fp) (t:Temp M vs H H' fps' fp)
  (hal:∀ i,M.al i=[]) (hv:∀ i∈vs,M.Ms i=false):∃ fps2,KS M H fps H' fps2/\Rep M (CI d vs ρ') σ H' fps2/\Own M.K H' (Zf M fps2) x 0 v []:=by
 unfold CI;by_cases hd:d=om
 ·rw [if_pos hd];rw [hd] at o;exact ⟨fps',k.ks,r',Own.freeze (λ _ z=>z) x om v fp (λ a ha=>t.ndj a ha) (Own.full x v fp o)⟩
 ·rw [if_neg hd];exact ⟨Ep vs fps',k.ks.cool,r'.cool hal hv,Own.freeze (λ a h=>.inl (HR h)) x d v fp (λ a ha z=>t.ndj a ha (HR z).zf) o⟩
theorem Vu {g:TG}{asg:PV->Ag->Option Ag}{body:Fs}{f:Fx}{D:Ends} (hal:∀ i,M.al i=[]) (hv:∀ i∈vs,M.Ms i=false) (hg:DI M [] is g asg) (hq:tS M (Fz f vs asg body) D σ H):GY (ES M.K (tE M f vs)) g (tS M body) D σ H:=by
 obtain ⟨ρ,fps,rep,q⟩:=hq;refine ⟨ρ,fps,rep,?_⟩;unfold Fz at q;cases ef:f ρ with
 | no=>rw [ef] at q;exact q
 | exc c=>rw [ef] at q;exact λ H' fps' k=>q _ H' fps' k.ks
 | ok p=>
  obtain ⟨x,d,ρ1⟩:=p;rw [ef] at q;intro v H1 fps1 f1 k1 g1 rep1 o1 t1;obtain ⟨fps2,k2,r2,o2⟩:=Rep.seen rep k1 g1 rep1 o1 t1 hal hv;cases x with
  | lst xs=>
   have o2':=o2;rw [Own] at o2';obtain ⟨a,ws,rfl,⟨_,hr,_,ol⟩ | ⟨h,_⟩⟩:=o2'
   ·have sq:Cf M.K H1 a ws:=.inl (.inl hr.1);refine .inl ⟨a,rfl,.inl ⟨⟨ws,sq⟩,?_⟩⟩;have one:∀ {H:Hp}{fps:AI},Own M.K H (Zf M fps) (.lst xs) 0 (.ref a) []->∃ ws,Cf M.K H a ws/\OwnL M.K H (Zf M fps) xs 0 ws []:=λ o=>by
     rw [Own] at o;obtain ⟨b,ws,e,⟨_,hr,_,ol⟩ | ⟨h,_⟩⟩:=o
     ·cases e;exact ⟨ws,.inl (.inl hr.1),ol⟩
     ·exact absurd rfl h
    refine LY (Pq:=λ H fps=>Own M.K H (Zf M fps) (.lst xs) 0 (.ref a) []) (els:=xs) hg (λ r k o=>k.stay0 r o) (λ {H fps i} o h=>?_) (λ {H fps i} o h=>?_) (λ {ρ σ H fps i x H'} _ o h y=>?_) r2 o2 (RsOk.from k2 q)
    ·obtain ⟨ws,s,ol⟩:=one o;exact ⟨ws,ws[i]'(by rw [ol.length];exact h),s,by simp⟩
    ·obtain ⟨ws,s,ol⟩:=one o;exact ⟨ws,s,by rw [ol.length];exact h⟩
    ·obtain ⟨ws,s,ol⟩:=one o;obtain ⟨e1,e2⟩:=y;subst e1;exact ⟨λ _ _ h=>h,ol.get (e2 ws s)⟩
   ·exact absurd rfl h
  | tup xs=>
   have o2':=o2;rw [Own] at o2';obtain ⟨a,ws,rfl,hr,ol⟩:=o2';refine .inl ⟨a,rfl,.inr ⟨⟨ws,.inl (.inl hr)⟩,?_⟩⟩;have one:∀ {H:Hp}{fps:AI},Own M.K H (Zf M fps) (.tup xs) 0 (.ref a) []->∃ ws,Dc M.K H a ws/\OwnL M.K H (Zf M fps) xs 0 ws []:=λ o=>by
    rw [Own] at o;obtain ⟨b,ws,e,hr,ol⟩:=o;cases e;exact ⟨ws,.inl (.inl hr),ol⟩
   refine LY (Pq:=λ H fps=>Own M.K H (Zf M fps) (.tup xs) 0 (.ref a) []) (els:=xs) hg (λ r k o=>k.stay0 r o) (λ {H fps i} o h=>?_) (λ {H fps i} o h=>?_) (λ {ρ σ H fps i x H'} _ o h y=>?_) r2 o2 (RsOk.from k2 q)
   ·obtain ⟨ws,s,ol⟩:=one o;exact ⟨ws,ws[i]'(by rw [ol.length];exact h),s,by simp⟩
   ·obtain ⟨ws,s,ol⟩:=one o;exact ⟨ws,s,by rw [ol.length];exact h⟩
   ·obtain ⟨ws,s,ol⟩:=one o;obtain ⟨e1,e2⟩:=y;subst e1;exact ⟨λ _ _ h=>h,ol.get (e2 ws s)⟩
  | str z=>
   have o2':=o2;rw [Own] at o2';obtain ⟨rfl,_⟩:=o2';dsimp only at q;split at q
   ·rename_i ha;refine .inr ⟨z,rfl,ha,?_⟩;have hl:(FD z).length=z.cps.size:=by unfold FD;rw [Bg,Lw]
    refine LY (Pq:=λ _ _=>True) (els:=FD z) hg (λ _ _ _=>trivial) (λ {H fps i} _ h=>?_) (λ {H fps i} _ h=>?_) (λ {ρ σ H fps i x H'} _ _ h y=>?_) r2 trivial (RsOk.from k2 q)
    ·show i < z.cps.size;omega
    ·show z.cps.size<=i;omega
    ·obtain ⟨rfl,c,hc,rfl⟩:=y;refine ⟨λ _ _ h=>h,.str ⟨#[c]⟩,?_,by rw [Own];exact ⟨rfl,rfl⟩⟩;unfold FD;rw [Ef,RA,hc];rfl
   ·exact q.elim
  | _=>exact q.elim
end
section
variable {M:Fm}{ρ ρ':Ag}{σ σ':St}{H H' H'':Hp}{fps fps' fps'':AI}{vs vs':List Nat}
def Fm.comp (M:Fm) (D:Addr) (n:Nat) (vI:List Nat):Fm:={ M.plus [D] with W:=λ _ _ _=>False,al:=λ j=>if j < n then M.al j else vI }
def Rep.minus {fp:List Addr} (r:Rep (M.plus fp) ρ σ H fps):Rep M ρ σ H fps where
 own:=λ i x d e=>let ⟨v,h1,h2⟩:=r.own i x d e;⟨v,h1,h2.weak λ a h=>h.elim (λ h=>.inl (.inl h)) .inr⟩
 non:=r.non
 dj:=r.dj
 zo:=λ i a ha z=>r.zo i a ha (.inl z)
 fr:=r.fr
 zd:=λ a z=>r.zd a (.inl z)
 len:=r.len
 msf:=r.msf
 h0:=r.h0
 iov:=r.iov
def Rep.far (r:Rep M ρ σ H fps) {j:Nat} (h:ρ.length<=j):fps j=[]:=r.non j λ p e=>by
 rw [jf1.mpr h] at e;cases e
def Rep.ext {D:Addr}{k:Nat}{vI:List Nat} (r:Rep (M.plus [D]) ρ σ H fps):Rep (M.comp D ρ.length vI) (ρ++AM k none) (σ++AM k none) H fps where
 own:=λ i x d e=>by
  by_cases hi:i < ρ.length
  ·rw [Dw hi] at e;obtain ⟨v,h1,h2⟩:=r.own i x d e;refine ⟨v,by rw [Dw (by rw [<- r.len];exact hi)];exact h1,h2.weak λ a h=>?_⟩;rcases h with h | ⟨j,nj,h⟩
   ·exact .inl h
   ·refine .inr ⟨j,?_,h⟩
    have:(M.comp D ρ.length vI).al i=M.al i:=if_pos hi
    rw [this] at nj;exact nj
  ·rw [Gz (by omega),IJ] at e;split at e <;> cases e
 non:=λ i h=>by
  by_cases hi:i < ρ.length
  ·exact r.non i λ p e=>h p (by rw [Dw hi];exact e)
  ·exact r.far (by omega)
 dj:=r.dj
 zo:=r.zo
 fr:=r.fr
 zd:=r.zd
 len:=by simp [r.len]
 msf:=λ i x d hm e=>by
  by_cases hi:i < ρ.length
  ·rw [Dw hi] at e;exact r.msf i x d hm e
  ·rw [Gz (by omega),IJ] at e;split at e <;> cases e
 h0:=r.h0
 iov:=⟨λ v hv=>by
  have h:=r.iov.1 v hv;refine ⟨?_,h.2⟩
  have:0 < σ.length:=(ja6.mp h.1).1
  rw [Dw this];exact h.1,λ p hp=>by
  have h:=r.iov.2 p hp;rw [Dw (ja6.mp h).1];exact h⟩
def BQ (n:Nat) (fps:AI):AI:=λ j=>if j < n then fps j else []
def En {n i:Nat}{a:Addr} (h:a∈BQ n fps i):a∈fps i/\i < n:=by
 unfold BQ at h;split at h
 ·rename_i hi;exact ⟨h,hi⟩
 ·cases h
def Rep.take {D:Addr}{n:Nat}{vI:List Nat} (r:Rep (M.comp D n vI) ρ σ H fps) (hσ:∀ i,i < n->σ[i]?=σ'[i]?) (hl:σ'.length=n) (hn:n<=ρ.length) (hio:(M.io≠none->0 < n)/\∀ p∈M.pn,p.1 < n):Rep (M.plus [D]) (ρ.take n) σ' H (BQ n fps) where
 own:=λ i x d e=>by
  have hi:i < n:=by
   have:=(ja6.mp e).1
   rw [Fj] at this;omega
  rw [JM hi] at e;obtain ⟨v,h1,h2⟩:=r.own i x d e;refine ⟨v,by rw [<- hσ i hi];exact h1,?_⟩
  have:BQ n fps i=fps i:=if_pos hi
  rw [this];refine h2.weak λ a h=>?_;rcases h with h | ⟨j,nj,h⟩
  ·exact .inl h
  ·refine .inr ⟨j,?_,(En h).1⟩
   have:(M.comp D n vI).al i=M.al i:=if_pos hi
   rw [this];exact nj
 non:=λ i h=>by
  unfold BQ;split
  ·rename_i hi;exact r.non i λ p e=>h p (by rw [JM hi];exact e)
  ·rfl
 dj:=λ i j hij a ha hb=>r.dj i j hij a (En ha).1 (En hb).1
 zo:=λ i a ha=>r.zo i a (En ha).1
 fr:=λ i hi a ha=>r.fr i hi a (En ha).1
 zd:=r.zd
 len:=by rw [Fj,hl];omega
 msf:=λ i x d hm e=>by
  have hi:i < n:=by
   have:=(ja6.mp e).1
   rw [Fj] at this;omega
  rw [JM hi] at e;exact r.msf i x d hm e
 h0:=r.h0
 iov:=⟨λ v hv=>by
  have h:=r.iov.1 v hv;refine ⟨?_,h.2⟩;have h0:0 < n:=hio.1 (by
   have hv':M.io=some v:=hv;rw [hv'];simp)
  rw [<- hσ 0 h0];exact h.1,λ p hp=>by rw [<- hσ p.1 (hio.2 p hp)];exact r.iov.2 p hp⟩
def Rep.touch {D:Addr}{us ws:List V} (r:Rep (M.plus [D]) ρ σ H fps) (hD:H D=some (.lst ws)):Rep (M.plus [D]) ρ σ (Aw H D (.lst us)) fps:=by
 have zD:(M.plus [D]).Zo D:=.inr (by simp);have dm:∀ b,H b≠none->(Aw H D (.lst us)) b≠none:=λ b h=>by
  by_cases eb:b=D
  ·rw [eb,BS];simp
  ·rw [AR eb];exact h
 exact ⟨λ i x d e=>let ⟨v,h1,h2⟩:=r.own i x d e;⟨v,h1,h2.at (.inl zD) ⟨.l ws,hD⟩ (λ z=>r.zo i D z zD) λ _ _ n=>n⟩,r.non,r.dj,r.zo,r.fr,λ a z=>dm a (r.zd a z),r.len,r.msf,λ a z=>dm a (r.h0 a z),r.iov⟩
theorem Tmps.snoc {K:Frag}{Z:Addr->Prop}{y:PV}{e:Nat}{w:V}{fe:List Addr} (hy:Own K H (λ a=>Z a\/a∈fe) y e w fe):∀ {xs:List (PV×Nat)}{ws:List V}{fp:List Addr},Tmps K H Z xs ws fp->(∀ a∈fp,a∉fe)->Tmps K H Z (xs++[(y,e)]) (ws++[w]) (fp++fe)
 | [],ws,fp,h,_=>by
  obtain ⟨rfl,rfl⟩:=h;exact ⟨w,[],fe,[],rfl,by simp,λ _ _ z=>(nomatch z),hy,rfl,rfl⟩
 | (x,d)::xs,ws,fp,h,hd=>by
  obtain ⟨v,s,f1,f2,rfl,rfl,dj,h1,h2⟩:=h;refine ⟨v,s++[w],f1,f2++fe,rfl,by rw [NC],λ a ha hb=>?_,h1,h2.snoc hy λ a ha=>hd a (Bj _ ha)⟩;rcases jc4.mp hb with z | z
  ·exact dj a ha z
  ·exact hd a (BC _ ha) z
theorem Tmps.at {K:Frag}{Z:Addr->Prop}{a:Addr}{o:HO} (hZ:Z a) (hl:∃ o:MO,H a=some o.ho):∀ {xs:List (PV×Nat)}{ws:List V}{fp:List Addr},Tmps K H Z xs ws fp->a∉fp->Tmps K (Aw H a o) Z xs ws fp
 | [],_,_,h,_=>h
 | (x,d)::xs,ws,fp,h,hf=>by
  obtain ⟨v,s,f1,f2,e1,rfl,dj,h1,h2⟩:=h;exact ⟨v,s,f1,f2,e1,rfl,dj,h1.at (.inl hZ) hl (λ z=>hf (BC _ z)) λ _ _ n=>n,h2.at hZ hl λ z=>hf (Bj _ z)⟩
theorem Tmps.lsts {K:Frag}{Z:Addr->Prop}:∀ {xs:List (PV×Nat)}{ws:List V}{fp:List Addr},Tmps K H Z xs ws fp->∀ a∈fp,∃ o:MO,H a=some o.ho
 | [],_,_,h,a,ha=>by rw [h.2] at ha;cases ha
 | (x,d)::xs,ws,fp,h,a,ha=>by
  obtain ⟨v,s,f1,f2,e1,rfl,dj,h1,h2⟩:=h;rcases jc4.mp ha with z | z
  ·exact Own.lsts x d v f1 h1 a z
  ·exact h2.lsts a z
def Rz.bindN {α β:Type} (r:Rz α) (f:α->Rz β):Rz β:=match r with
 | .ok a=>f a
 | _=>.no
def CC (k:Nat) (asg:PV->Ag->Option Ag) (test:Fb) (elt:Fx):List PV->Ag->List (PV×Nat)->Rz (List (PV×Nat)×Ag)
 | [],ρ,acc=>.ok (acc,ρ)
 | x::xs,ρ,acc=>match asg x (ρ++AM k none) with
  | none=>.no
  | some ρ1=>(test ρ1).bindN λ (b,ρ2)=>if b=true then (elt ρ2).bindN λ (y,e,ρ3)=>(if acc.length < Au then CC k asg test elt xs (ρ3.take ρ.length) (acc++[(y,e)]) else .no) else CC k asg test elt xs (ρ2.take ρ.length) acc
def KD.seen {D:Addr}{x:PV}{v:V} (r:Rep M ρ σ H fps) (k:KD M H fps H' fps') (hD:H D=none) (hv:∀ i∈vs,M.Ms i=false) (o:Own M.K H (Zv M vs fps) x 0 v []):Own M.K H' (Zv (M.plus [D]) vs fps') x 0 v []:=by
 refine Own.move k.keep ?_ ?_ x 0 v [] (λ _ z=>nomatch z) o
 ·rintro a ⟨i,hi,ha⟩;exact ⟨.inr ⟨i,λ z=>(by rw [hv i z] at hi;cases hi),ha⟩,r.lsts ha⟩
 ·intro a hd nz z;rcases z with (z | z) | ⟨i,ni,hx⟩
  ·exact nz (.inl z)
  ·rw [jc0.mp z] at hd;exact hd hD
  ·rcases k.sub i a hx with z | z
   ·exact nz (.inr ⟨i,ni,z⟩)
   ·exact hd z
def Mq {g:TG}{is vI vE vo:List Nat}{asg:PV->Ag->Option Ag}{test:Fb}{elt:Fx}{k:Nat}{J:It}{els:List PV}{Q:VK}{n:Nat}{P:Fm->Prop}
  (hP:∀ D,P (M.comp D n vI)) (hn:n=ρ.length) (hal:∀ i,∀ j∈M.al i,M.Ms j=false) (hvI:∀ i∈vI,M.Ms i=false) (hvE:∀ i∈vE,M.Ms i=false) (his:∀ i∈is,n<=i) (hg:∀ D,DI (M.comp D n vI) vI is g asg) (hvo:∀ i,i∈vE->i < n->i∈vo) (hvo2:∀ i∈vo,M.Ms i=false)
  (rep:Rep M ρ σ H fps)
  (hgo:∀ {D H' fps' i},H D=none->KD M H fps H' fps'->i < els.length->J.go i H') (hst:∀ {D H' fps' i},H D=none->KD M H fps H' fps'->els.length<=i->J.stop i H')
  (hy:∀ {D H' fps' i x H''},H D=none->KD M H fps H' fps'->i < els.length->J.yld i H' x H''->(∀ a o,H' a=some o->H'' a=some o)/\∃ z,els[i]?=some z/\Own M.K H'' (Zv (M.plus [D]) vI fps') z 0 x [])
  (q:match CC k asg test elt els ρ [] with
   | .ok (acc,ρ')=>∀ D ws H' fps' fpl,KD M H fps H' fps'->Agr M ρ ρ'->Rep (M.plus [D]) ρ' σ H' fps'->H D=none->H' D=some (.lst ws)->Tmps M.K H' (Zv (M.plus [D]) vo fps') acc ws fpl->(∀ a∈fpl,H a=none/\¬ Zf (M.plus [D]) fps' a)->Q (.ref D) H'
   | _=>False):
  ∀ D,H D=none->∃ W:Nat->Nat->List V->Hp->Prop,(∃ m,W 0 m [] (Aw H D (.lst [])))/\∀ i m ys H1,W i m ys H1->H1 D=some (.lst ys) /\
   ((J.stop i H1/\Q (.ref D) H1)\/(J.go i H1/\∀ x H',J.yld i H1 x H'->g x (σ++AM k none) H' λ σ2 H2=>∃ M',P M'/\tT M' test σ2 H2 λ b H3=>if b=true then ∃ M',P M'/\tE M' elt vE σ2 H3 λ y H4=>H4 D=some (.lst ys)/\ys.length < Au/\∃ m',m' < m/\W (i + 1) m' (ys++[y]) (Aw H4 D (.lst (ys++[y]))) else ∃ m',m' < m/\W (i + 1) m' ys H3)):=by
 intro D hD;subst hn;let W:Nat->Nat->List V->Hp->Prop:=λ i m ys H1=>m=els.length - i/\∃ ρ1 fps1 acc fpl,Rep (M.plus [D]) ρ1 σ H1 fps1/\KD M H fps H1 fps1/\Agr M ρ ρ1/\Tmps M.K H1 (Zv (M.plus [D]) vo fps1) acc ys fpl/\(∀ a∈fpl,H a=none/\¬ Zf (M.plus [D]) fps1 a)/\H1 D=some (.lst ys)/\CC k asg test elt (els.drop i) ρ1 acc=CC k asg test elt els ρ [];have k0:KD M H fps (Aw H D (.lst [])) fps:=KD.grow λ a o h=>by rw [AR (λ e=>by rw [e,hD] at h;cases h)];exact h
 have r0:Rep (M.plus [D]) ρ σ (Aw H D (.lst [])) fps:=by
  refine rep.wide hal k0 Agr.refl (rep.grow λ a o h=>by rw [AR (λ e=>by rw [e,hD] at h;cases h)];exact h) λ a ha=>?_;rw [jc0.mp ha];exact ⟨hD,by rw [BS];simp,rep.nz hD⟩
 refine ⟨W,⟨els.length,by simp,ρ,fps,[],[],r0,k0,Agr.refl,⟨rfl,rfl⟩,λ _ z=>(nomatch z),BS,by simp⟩,?_⟩;rintro i m ys H1 ⟨rfl,ρ1,fps1,acc,fpl,r1,k1,g1,tm,hf,h1D,ec⟩;refine ⟨h1D,?_⟩;have hlen:ρ1.length=ρ.length:=g1.2;by_cases hi:i < els.length
 ·right
  refine ⟨hgo hD k1 hi,λ x H' hyl=>?_⟩;obtain ⟨kx,z,ez,oz⟩:=hy hD k1 hi hyl;have tm:=KD.stays (M:=M.plus [D]) (KD.grow kx) r1 hvo2 tm λ a ha=>(hf a ha).2;have r1:=r1.grow kx;have k1:=k1.trans (KD.grow (M:=M) (fps:=fps1) kx);have h1D:=kx D _ h1D;have ed:els.drop i=z::els.drop (i + 1):=by
   obtain ⟨h1,h2⟩:=ja6.mp ez;rw [<- h2];exact RE h1
  rw [ed] at ec;have good:∃ a r,CC k asg test elt els ρ []=.ok (a,r):=by
   cases e:CC k asg test elt els ρ [] with
   | ok p=>exact ⟨p.1,p.2,rfl⟩
   | exc c=>rw [e] at q;exact q.elim
   | no=>rw [e] at q;exact q.elim
  obtain ⟨accF,ρF,eF⟩:=good;rw [eF] at ec;unfold CC at ec;cases ea:asg z (ρ1++AM k none) with
  | none=>rw [ea] at ec;cases ec
  | some ρ2=>
   rw [ea] at ec;dsimp only at ec;have rx:Rep (M.comp D ρ.length vI) (ρ1++AM k none) (σ++AM k none) H' fps1:=by rw [<- hlen];exact r1.ext
   refine hg D z x _ _ H' fps1 ρ2 _ rx oz ea λ σ2 fps2 s2 a2 l2 r2=>⟨_,hP D,ρ2,fps2,r2,?_⟩
   have hl2:ρ2.length=ρ.length + k:=by rw [l2,Cd,II,hlen]
   have same2:∀ j,j < ρ.length->ρ2[j]?=ρ1[j]?/\fps2 j=fps1 j/\σ2[j]?=σ[j]?:=λ j hj=>by
    obtain ⟨z1,z2,z3⟩:=a2 j λ z=>absurd (his j z) (by omega);rw [Dw (by omega)] at z1;rw [Dw (by rw [<- rep.len];omega)] at z3;exact ⟨z1,z2,z3⟩
   have kd2:KD (M.comp D ρ.length vI) H' fps1 H' fps2->True:=λ _=>trivial;cases et:test ρ2 with
   | exc c=>rw [et] at ec;cases ec
   | no=>rw [et] at ec;cases ec
   | ok p=>
    obtain ⟨b,ρ3⟩:=p;rw [et] at ec;intro H3 fps3 k3 g3 r3;dsimp only [Rz.bindN] at ec;have far:∀ {ρ4:Ag}{H4:Hp}{fps4:AI},KD (M.comp D ρ.length vI) H' fps2 H4 fps4->Agr (M.comp D ρ.length vI) ρ2 ρ4->Rep (M.comp D ρ.length vI) ρ4 σ2 H4 fps4 ->
      KD M H fps H4 (BQ ρ.length fps4)/\KD M H' fps1 H4 (BQ ρ.length fps4)/\Agr M ρ (ρ4.take ρ.length)/\Rep (M.plus [D]) (ρ4.take ρ.length) σ H4 (BQ ρ.length fps4)/\H4 D=some (.lst ys):=λ {ρ4 H4 fps4} k4 g4 r4=>by
     have kk:KD M H' fps1 H4 (BQ ρ.length fps4):=by
      refine ⟨λ a o ha hn=>k4.keep a o ha λ ⟨j,hj,hx⟩=>hn ⟨j,hj,s2 j a hx⟩,k4.dom,λ j a ha=>?_,λ j hj=>?_⟩
      ·rcases k4.sub j a (En ha).1 with z | z
       ·exact .inl (s2 j a z)
       ·exact .inr z
      ·unfold BQ;by_cases hjl:j < ρ.length
       ·rw [if_pos hjl,k4.same j hj];exact (same2 j hjl).2.1
       ·rw [if_neg hjl];exact (r1.far (by omega)).symm
     refine ⟨k1.trans kk,kk,?_,r4.take (σ':=σ) (λ j hj=>(same2 j hj).2.2) rep.len.symm (by rw [g4.2,hl2];omega) ⟨λ hio=>?_,λ p hp=>by rw [rep.len];exact (ja6.mp (rep.iov.2 p hp)).1⟩,?_⟩
     ·refine ⟨λ j hj=>?_,by rw [Fj,g4.2,hl2];omega⟩;by_cases hjl:j < ρ.length
      ·rw [JM hjl,g4.1 j hj,(same2 j hjl).1];exact g1.1 j hj
      ·rw [jf1.mpr (by rw [Fj];omega),jf1.mpr (by omega)]
     ·cases e:M.io with
      | none=>exact absurd e hio
      | some v=>
       have:=(ja6.mp (rep.iov.1 v e).1).1
       rw [rep.len];exact this
     ·exact k4.keep D _ h1D λ ⟨j,_,hx⟩=>r2.zo j D hx (.inr (by simp))
    have notZ:∀ {H4:Hp}{fps4:AI},KD M H' fps1 H4 fps4->∀ {a},a∈fpl->¬ Zf (M.plus [D]) fps4 a:=λ {H4 fps4} k4 a ha z=>by
     rcases z with z | ⟨j,z⟩
     ·exact (hf a ha).2 (.inl z)
     ·rcases k4.sub j a z with z | z
      ·exact (hf a ha).2 (.inr ⟨j,z⟩)
      ·obtain ⟨xs,e⟩:=tm.lsts a ha;rw [z] at e;cases e
    cases b with
    | false=>
     rw [if_neg BN] at ec ⊢;obtain ⟨f1,f2,f3,f4,f5⟩:=far k3 g3 r3;refine ⟨els.length - (i + 1),by omega,rfl,ρ3.take ρ.length,BQ ρ.length fps3,acc,fpl,f4,f1,f3,?_,λ a ha=>⟨(hf a ha).1,λ z=>?_⟩,f5,by rw [eF,<- hlen];exact ec⟩
     ·exact KD.stays (M:=M.plus [D]) (σ:=σ) (ρ:=ρ1) ⟨f2.keep,f2.dom,f2.sub,f2.same⟩ r1 hvo2 tm λ a ha=>(hf a ha).2
     ·exact notZ f2 ha z
    | true=>
     rw [if_pos rfl] at ec ⊢;refine ⟨_,hP D,ρ3,fps3,r3,?_⟩;cases ee:elt ρ3 with
     | exc c=>rw [ee] at ec;cases ec
     | no=>rw [ee] at ec;cases ec
     | ok p=>
      obtain ⟨y,e,ρ4⟩:=p;rw [ee] at ec;intro w H4 fps4 fe k4 g4 r4 o4 t4;dsimp only at ec;by_cases hz:acc.length < Au
      ·rw [if_pos hz] at ec;obtain ⟨f1,f2,f3,f4,f5⟩:=far (k3.trans k4) (g3.trans g4) r4;have tm4:Tmps M.K H4 (Zv (M.plus [D]) vo (BQ ρ.length fps4)) acc ys fpl:=KD.stays (M:=M.plus [D]) (σ:=σ) (ρ:=ρ1) ⟨f2.keep,f2.dom,f2.sub,f2.same⟩ r1 hvo2 tm λ a ha=>(hf a ha).2;have zD:Zv (M.plus [D]) vo (BQ ρ.length fps4) D:=.inl (.inr (by simp));have hDe:D∉fe:=λ z=>t4.ndj D z (.inl (.inr (by simp)));have hDl:D∉fpl:=λ z=>(hf D z).2 (.inl (.inr (by simp)));have oy:Own M.K H4 (λ a=>Zv (M.plus [D]) vo (BQ ρ.length fps4) a\/a∈fe) y e w fe:=o4.weak λ a h=>h.elim (λ h=>.inl (h.elim .inl λ ⟨j,nj,hx⟩=>.inr ⟨j,λ z=>nj (hvo j z (En hx).2),(En hx).1⟩)) .inr;have back3:∀ a,H3 a=none->H' a=none:=λ a e=>by
        cases e':H' a with
        | none=>rfl
        | some o=>exact absurd e (k3.dom a (by rw [e'];simp))
       have back1:∀ a,H' a=none->H a=none:=λ a e=>by
        cases e':H a with
        | none=>rfl
        | some o=>exact absurd e (k1.dom a (by rw [e'];simp))
       have kt:KD M H fps (Aw H4 D (.lst (ys++[w]))) (BQ ρ.length fps4):=⟨λ a o ha hn=>by rw [AR (λ e=>by rw [e,hD] at ha;cases ha)];exact f1.keep a o ha hn,λ a ha=>by
        by_cases eb:a=D
        ·rw [eb,BS];simp
        ·rw [AR eb];exact f1.dom a ha,f1.sub,f1.same⟩
       refine ⟨f5,by rw [tm.length];exact hz,els.length - (i + 1),by omega,rfl,ρ4.take ρ.length,BQ ρ.length fps4,acc++[(y,e)],fpl++fe,f4.touch f5,kt,f3,?_,λ a ha=>?_,BS,by rw [eF,<- hlen];exact ec⟩
       ·exact (tm4.at zD ⟨.l ys,f5⟩ hDl).snoc (oy.at (.inl zD) ⟨.l ys,f5⟩ hDe λ _ _ n=>n) λ a ha hb=>by
         obtain ⟨xs,e⟩:=tm.lsts a ha;rw [back3 a (t4.new a hb)] at e;cases e
       ·rcases jc4.mp ha with z | z
        ·exact ⟨(hf a z).1,notZ f2 z⟩
        ·refine ⟨back1 a (back3 a (t4.new a z)),λ hz=>t4.ndj a z ?_⟩;rcases hz with hz | ⟨j,hz⟩
         ·exact .inl hz
         ·exact .inr ⟨j,(En hz).1⟩
      ·rw [if_neg hz] at ec;cases ec
 ·left
  have ed:els.drop i=[]:=RB (by omega);rw [ed] at ec;rw [<- ec] at q;unfold CC at q;exact ⟨hst hD k1 (by omega),q D ys H1 fps1 fpl k1 g1 r1 hD h1D tm hf⟩
end
section
variable {M:Fm}{ρ ρ':Ag}{σ σ':St}{H H' H'':Hp}{fps fps' fps'':AI}{vs vs':List Nat}
def E4:List (PV×Nat)->Bool
 | []=>true
 | p::r=>(p.2 == om) && E4 r
theorem LO:∀ {xs:List (PV×Nat)},E4 xs=true->∀ p∈xs,p.2=om
 | [],_,_,h=>nomatch h
 | p::r,h,q,hq=>by
  unfold E4 at h;rw [AF] at h;rcases jb2.mp hq with e | e
  ·rw [e];exact eq_of_beq h.1
  ·exact LO h.2 q e
def Cv (acc:List (PV×Nat)) (ρ:Ag):Rz (PV×Nat×Ag):=.ok (.lst (acc.map (·.1)),if E4 acc then om else 1,ρ)
def BK (f:Fx) (k:Nat) (asg:PV->Ag->Option Ag) (test:Fb) (elt:Fx):Fx:=λ ρ=>match f ρ with
 | .ok (.lst xs,_,ρ1)=>(CC k asg test elt xs ρ1 []).bindN λ (acc,ρ2)=>Cv acc ρ2
 | .ok (.tup xs,_,ρ1)=>(CC k asg test elt xs ρ1 []).bindN λ (acc,ρ2)=>Cv acc ρ2
 | .ok (.str z,_,ρ1)=>if Bn z=true then (CC k asg test elt (FD z) ρ1 []).bindN λ (acc,ρ2)=>Cv acc ρ2 else .no
 | .ok _=>.no
 | .exc c=>.exc c
 | .no=>.no
def Du (en:List (PV×Nat)->Option (Int×Int)) (fa:Fa) (k:Nat) (asg:PV->Ag->Option Ag) (test:Fb) (elt:Fx):Fx:=λ ρ=>match fa ρ with
 | .ok (xs,ρ1)=>(match en xs with
  | some (i,j)=>(CC k asg test elt (Fw i (j - i).toNat) ρ1 []).bindN λ (acc,ρ2)=>Cv acc ρ2
  | none=>.no)
 | .exc c=>.exc c
 | .no=>.no
theorem Oo {D:Addr}{acc:List (PV×Nat)}{ws:List V}{fpl:List Addr}{vo:List Nat}{Q:VK}{H0:Hp}{fps0:AI}{ρ0:Ag}
  (rep0:Rep M ρ σ H fps) (k0:KD M H0 fps0 H fps) (g0:Agr M ρ0 ρ) (q:∀ v H' fps' fp,KD M H0 fps0 H' fps'->Agr M ρ0 ρ'->Rep M ρ' σ H' fps'->Own M.K H' (Zt M vo fps' fp) (.lst (acc.map (·.1))) (if E4 acc then om else 1) v fp->Temp M vo H0 H' fps' fp->Q v H')
  (k:KD M H fps H' fps') (g:Agr M ρ ρ') (r:Rep (M.plus [D]) ρ' σ H' fps') (hD:H D=none) (hD':H' D=some (.lst ws)) (tm:Tmps M.K H' (Zv (M.plus [D]) vo fps') acc ws fpl) (hf:∀ a∈fpl,H a=none/\¬ Zf (M.plus [D]) fps' a):Q (.ref D) H':=by
 have back:∀ a,H a=none->H0 a=none:=λ a e=>by
  cases e':H0 a with
  | none=>rfl
  | some o=>exact absurd e (k0.dom a (by rw [e'];simp))
 have nD:¬ Zf M fps' D:=λ z=>by
  rcases z with z | ⟨j,z⟩
  ·exact rep0.zd D z hD
  ·exact r.zo j D z (.inr (by simp))
 have hDl:D∉fpl:=λ z=>(hf D z).2 (.inl (.inr (by simp)));have zt:∀ a,Zt M vo fps' [D] a->Zv (M.plus [D]) vo fps' a:=λ a h=>h.elim (λ h=>h.elim (λ h=>.inl (.inl h)) .inr) λ h=>.inl (.inr h);cases ho:E4 acc with
 | true=>
  rw [ho] at q;refine q (.ref D) H' fps' (D::fpl) (k0.trans k) (g0.trans g) r.minus ?_ ⟨λ a ha=>?_,λ a ha=>?_⟩
  ·rw [Own];exact ⟨D,ws,rfl,.inr ⟨(by decide),fpl,hD',rfl,hDl,OwnL.full _ ws fpl (tm.all (LO ho))⟩⟩
  ·rcases jb2.mp ha with z | z
   ·rw [z];exact back D hD
   ·exact back a (hf a z).1
  ·rcases jb2.mp ha with z | z
   ·rw [z];exact nD
   ·exact λ y=>(hf a z).2 (y.elim (λ y=>.inl (.inl y)) .inr)
 | false=>
  rw [ho] at q;refine q (.ref D) H' fps' [D] (k0.trans k) (g0.trans g) r.minus ?_ ⟨λ a ha=>?_,λ a ha=>?_⟩
  ·show Own M.K H' (Zt M vo fps' [D]) (.lst (acc.map (·.1))) 1 (.ref D) [D];rw [Own];refine ⟨D,ws,rfl,.inr ⟨(by decide),[],hD',rfl,(λ z=>nomatch z),?_⟩⟩;rw [Nq];exact (tm.cold λ a ha z=>(hf a ha).2 z.zf).weak zt
  ·rw [jc0.mp ha];exact back D hD
  ·rw [jc0.mp ha];exact nD
theorem zX {g:TG}{is vI vE vo:List Nat}{asg:PV->Ag->Option Ag}{test:Fb}{elt f:Fx}{k n:Nat}{Q:VK}{P:Fm->Prop}
  (hn:σ.length=n) (hP:∀ D,P (M.comp D n vI)) (hal:∀ i,∀ j∈M.al i,M.Ms j=false) (hvI:∀ i∈vI,M.Ms i=false) (hvE:∀ i∈vE,M.Ms i=false) (his:∀ i∈is,n<=i) (hg:∀ D,DI (M.comp D n vI) vI is g asg)
  (hvo:∀ i,i∈vE->i < n->i∈vo) (hvo2:∀ i∈vo,M.Ms i=false) (hq:tE M (BK f k asg test elt) vo σ H Q):
  GJ k (ES M.K (tE M f vI)) g (λ σ H Q=>∃ M',P M'/\tT M' test σ H Q) (λ σ H Q=>∃ M',P M'/\tE M' elt vE σ H Q) σ H Q:=by
 obtain ⟨ρ,fps,rep,q⟩:=hq;refine ⟨ρ,fps,rep,?_⟩;unfold BK at q;cases ef:f ρ with
 | no=>rw [ef] at q;exact q
 | exc c=>rw [ef] at q;exact q
 | ok p=>
  obtain ⟨x,d,ρ1⟩:=p;rw [ef] at q;intro v H1 fps1 f1 k1 g1 rep1 o1 t1;have o0:Own M.K H1 (Zv M vI fps1) x 0 v []:=Own.freeze (λ _ z=>.inl z) x d v f1 (λ a ha z=>t1.ndj a ha z.zf) o1;have hl:n=ρ1.length:=by rw [rep1.len];exact hn.symm
  have fin:∀ (els:List PV),(match (CC k asg test elt els ρ1 []).bindN λ (acc,ρ2)=>Cv acc ρ2 with
    | .ok (x,d,ρ')=>∀ v H' fps' fp,KD M H fps H' fps'->Agr M ρ ρ'->Rep M ρ' σ H' fps'->Own M.K H' (Zt M vo fps' fp) x d v fp->Temp M vo H H' fps' fp->Q v H'
    | .exc c=>∀ H' fps',KD M H fps H' fps'->M.W σ c H'
    | .no=>False)->(match CC k asg test elt els ρ1 [] with
    | .ok (acc,ρ')=>∀ D ws H' fps' fpl,KD M H1 fps1 H' fps'->Agr M ρ1 ρ'->Rep (M.plus [D]) ρ' σ H' fps'->H1 D=none->H' D=some (.lst ws)->Tmps M.K H' (Zv (M.plus [D]) vo fps') acc ws fpl->(∀ a∈fpl,H1 a=none/\¬ Zf (M.plus [D]) fps' a)->Q (.ref D) H'
    | _=>False):=λ els q=>by
   cases ec:CC k asg test elt els ρ1 [] with
   | no=>rw [ec] at q;exact q.elim
   | exc c=>rw [ec] at q;exact q.elim
   | ok p=>
    obtain ⟨acc,ρ2⟩:=p;rw [ec] at q;exact λ D ws H' fps' fpl k g r hD hD' tm hf=>Oo rep1 k1 g1 q k g r hD hD' tm hf
  cases x with
  | lst xs=>
   have one:∀ {Z:Addr->Prop}{H:Hp},Own M.K H Z (.lst xs) 0 v []->∃ a ws,v=.ref a/\Cf M.K H a ws/\OwnL M.K H Z xs 0 ws []:=λ o=>by
    rw [Own] at o;obtain ⟨b,ws,e,⟨_,hr,_,ol⟩ | ⟨h,_⟩⟩:=o
    ·exact ⟨b,ws,e,.inl (.inl hr.1),ol⟩
    ·exact absurd rfl h
   obtain ⟨a,ws,rfl,sq,ol⟩:=one o0;refine .inl ⟨a,rfl,.inl ⟨⟨ws,sq⟩,?_⟩⟩;refine Mq (els:=xs) hP hl hal hvI hvE his hg hvo hvo2 rep1 (λ {D H' fps' i} hD k' h=>?_) (λ {D H' fps' i} hD k' h=>?_) (λ {D H' fps' i x H''} hD k' h y=>?_) (fin xs q)
   ·obtain ⟨a',ws,e,s,ol⟩:=one (KD.seen rep1 k' hD hvI o0);cases e;exact ⟨ws,ws[i]'(by rw [ol.length];exact h),s,by simp⟩
   ·obtain ⟨a',ws,e,s,ol⟩:=one (KD.seen rep1 k' hD hvI o0);cases e;exact ⟨ws,s,by rw [ol.length];exact h⟩
   ·obtain ⟨a',ws,e,s,ol⟩:=one (KD.seen rep1 k' hD hvI o0);cases e;obtain ⟨e1,e2⟩:=y;subst e1;exact ⟨λ _ _ h=>h,ol.get (e2 ws s)⟩
  | tup xs=>
   have one:∀ {Z:Addr->Prop}{H:Hp},Own M.K H Z (.tup xs) 0 v []->∃ a ws,v=.ref a/\Dc M.K H a ws/\OwnL M.K H Z xs 0 ws []:=λ o=>by
    rw [Own] at o;obtain ⟨a,ws,e,hr,ol⟩:=o;exact ⟨a,ws,e,.inl (.inl hr),ol⟩
   obtain ⟨a,ws,rfl,sq,ol⟩:=one o0;refine .inl ⟨a,rfl,.inr ⟨⟨ws,sq⟩,?_⟩⟩;refine Mq (els:=xs) hP hl hal hvI hvE his hg hvo hvo2 rep1 (λ {D H' fps' i} hD k' h=>?_) (λ {D H' fps' i} hD k' h=>?_) (λ {D H' fps' i x H''} hD k' h y=>?_) (fin xs q)
   ·obtain ⟨a',ws,e,s,ol⟩:=one (KD.seen rep1 k' hD hvI o0);cases e;exact ⟨ws,ws[i]'(by rw [ol.length];exact h),s,by simp⟩
   ·obtain ⟨a',ws,e,s,ol⟩:=one (KD.seen rep1 k' hD hvI o0);cases e;exact ⟨ws,s,by rw [ol.length];exact h⟩
   ·obtain ⟨a',ws,e,s,ol⟩:=one (KD.seen rep1 k' hD hvI o0);cases e;obtain ⟨e1,e2⟩:=y;subst e1;exact ⟨λ _ _ h=>h,ol.get (e2 ws s)⟩
  | str z=>
   have o0':=o0;rw [Own] at o0';obtain ⟨rfl,_⟩:=o0';dsimp only at q;by_cases ha:Bn z=true
   ·rw [if_pos ha] at q;refine .inr ⟨z,rfl,ha,?_⟩;have hl':(FD z).length=z.cps.size:=by unfold FD;rw [Bg,Lw]
    refine Mq (els:=FD z) hP hl hal hvI hvE his hg hvo hvo2 rep1 (λ {D H' fps' i} hD k' h=>?_) (λ {D H' fps' i} hD k' h=>?_) (λ {D H' fps' i x H''} hD k' h y=>?_) (fin (FD z) q)
    ·show i < z.cps.size;omega
    ·show z.cps.size<=i;omega
    ·obtain ⟨rfl,c,hc,rfl⟩:=y;refine ⟨λ _ _ h=>h,.str ⟨#[c]⟩,?_,by rw [Own];exact ⟨rfl,rfl⟩⟩;unfold FD;rw [Ef,RA,hc];rfl
   ·rw [if_neg ha] at q;exact q.elim
  | _=>exact q.elim
def Sk {g:TG}{is vI vE vo:List Nat}{asg:PV->Ag->Option Ag}{test:Fb}{elt:Fx}{k n:Nat}{Q:VK}{P:Fm->Prop}{lo:Int}{m:Nat}{H0:Hp}{fps0:AI}{ρ0:Ag}
  (hn:σ.length=n) (hP:∀ D,P (M.comp D n vI)) (hal:∀ i,∀ j∈M.al i,M.Ms j=false) (hvI:∀ i∈vI,M.Ms i=false) (hvE:∀ i∈vE,M.Ms i=false) (his:∀ i∈is,n<=i) (hg:∀ D,DI (M.comp D n vI) vI is g asg)
  (hvo:∀ i,i∈vE->i < n->i∈vo) (hvo2:∀ i∈vo,M.Ms i=false) (k0:KD M H0 fps0 H fps) (g0:Agr M ρ0 ρ) (rep:Rep M ρ σ H fps)
  (q:match (CC k asg test elt (Fw lo m) ρ []).bindN λ (acc,ρ2)=>Cv acc ρ2 with
    | .ok (x,d,ρ')=>∀ v H' fps' fp,KD M H0 fps0 H' fps'->Agr M ρ0 ρ'->Rep M ρ' σ H' fps'->Own M.K H' (Zt M vo fps' fp) x d v fp->Temp M vo H0 H' fps' fp->Q v H'
    | .exc c=>∀ H' fps',KD M H0 fps0 H' fps'->M.W σ c H'
    | .no=>False):
  ∀ D,H D=none->∃ W:Nat->Nat->List V->Hp->Prop,(∃ m,W 0 m [] (Aw H D (.lst [])))/\∀ i j ys H1,W i j ys H1->H1 D=some (.lst ys) /\
   (((GC lo m).stop i H1/\Q (.ref D) H1)\/((GC lo m).go i H1/\∀ x H',(GC lo m).yld i H1 x H'->g x (σ++AM k none) H' λ σ2 H2=>∃ M',P M'/\tT M' test σ2 H2 λ b H3=>if b=true then ∃ M',P M'/\tE M' elt vE σ2 H3 λ y H4=>H4 D=some (.lst ys)/\ys.length < Au/\∃ m',m' < j/\W (i + 1) m' (ys++[y]) (Aw H4 D (.lst (ys++[y]))) else ∃ m',m' < j/\W (i + 1) m' ys H3)):=by
 have hl:n=ρ.length:=by rw [rep.len];exact hn.symm
 refine Mq (els:=Fw lo m) hP hl hal hvI hvE his hg hvo hvo2 rep (λ {D H' fps' i} hD k' h=>?_) (λ {D H' fps' i} hD k' h=>?_) (λ {D H' fps' i x H''} hD k' h y=>?_) ?_
 ·rw [Jc] at h;exact h
 ·rw [Jc] at h;exact h
 ·rw [Jc] at h;obtain ⟨e1,e2⟩:=y;subst e1;exact ⟨λ _ _ h=>h,.int (lo + i),by simp [Fw,h],by rw [e2,Own];exact ⟨rfl,rfl⟩⟩
 ·cases ec:CC k asg test elt (Fw lo m) ρ [] with
  | no=>rw [ec] at q;exact q.elim
  | exc c=>rw [ec] at q;exact q.elim
  | ok p=>
   obtain ⟨acc,ρ2⟩:=p;rw [ec] at q;exact λ D ws H' fps' fpl k g r hD hD' tm hf=>Oo rep k0 g0 q k g r hD hD' tm hf
theorem zV {g:TG}{is vI vE vo:List Nat}{asg:PV->Ag->Option Ag}{test:Fb}{elt:Fx}{fa:Fa}{k n:Nat}{Q:VK}{P:Fm->Prop}
  (hn:σ.length=n) (hP:∀ D,P (M.comp D n vI)) (hal:∀ i,∀ j∈M.al i,M.Ms j=false) (hvI:∀ i∈vI,M.Ms i=false) (hvE:∀ i∈vE,M.Ms i=false) (his:∀ i∈is,n<=i) (hg:∀ D,DI (M.comp D n vI) vI is g asg)
  (hvo:∀ i,i∈vE->i < n->i∈vo) (hvo2:∀ i∈vo,M.Ms i=false) (hq:tE M (Du Bo fa k asg test elt) vo σ H Q):
  GJ k (Nj (tL M fa vs)) g (λ σ H Q=>∃ M',P M'/\tT M' test σ H Q) (λ σ H Q=>∃ M',P M'/\tE M' elt vE σ H Q) σ H Q:=by
 obtain ⟨ρ,fps,rep,q⟩:=hq;refine ⟨ρ,fps,rep,?_⟩;unfold Du at q;cases ef:fa ρ with
 | no=>rw [ef] at q;exact q
 | exc c=>rw [ef] at q;exact q
 | ok p=>
  obtain ⟨xs,ρ1⟩:=p;rw [ef] at q;intro ws H1 fps1 f1 k1 g1 rep1 o1 t1;dsimp only at q;cases ee:Bo xs with
  | none=>rw [ee] at q;exact q.elim
  | some ij=>
   obtain ⟨i,j⟩:=ij;rw [ee] at q;unfold Bo at ee;split at ee
   ·rename_i j' d;split at ee
    ·rename_i hb;cases ee;obtain ⟨v,r,f1,f2,rfl,_,_,h1,h2⟩:=o1;obtain ⟨rfl,_⟩:=h2;rw [Own] at h1;obtain ⟨rfl,_⟩:=h1;refine ⟨j,rfl,hb.1,hb.2,?_⟩;have e:(j - 0).toNat=j.toNat:=by omega
     dsimp only at q;rw [e] at q;exact Sk hn hP hal hvI hvE his hg hvo hvo2 k1 g1 rep1 q
    ·cases ee
   ·cases ee
theorem zW {g:TG}{is vI vE vo:List Nat}{asg:PV->Ag->Option Ag}{test:Fb}{elt:Fx}{fa:Fa}{k n:Nat}{Q:VK}{P:Fm->Prop}
  (hn:σ.length=n) (hP:∀ D,P (M.comp D n vI)) (hal:∀ i,∀ j∈M.al i,M.Ms j=false) (hvI:∀ i∈vI,M.Ms i=false) (hvE:∀ i∈vE,M.Ms i=false) (his:∀ i∈is,n<=i) (hg:∀ D,DI (M.comp D n vI) vI is g asg)
  (hvo:∀ i,i∈vE->i < n->i∈vo) (hvo2:∀ i∈vo,M.Ms i=false) (hq:tE M (Du FI fa k asg test elt) vo σ H Q):
  GJ k (Nk (tL M fa vs)) g (λ σ H Q=>∃ M',P M'/\tT M' test σ H Q) (λ σ H Q=>∃ M',P M'/\tE M' elt vE σ H Q) σ H Q:=by
 obtain ⟨ρ,fps,rep,q⟩:=hq;refine ⟨ρ,fps,rep,?_⟩;unfold Du at q;cases ef:fa ρ with
 | no=>rw [ef] at q;exact q
 | exc c=>rw [ef] at q;exact q
 | ok p=>
  obtain ⟨xs,ρ1⟩:=p;rw [ef] at q;intro ws H1 fps1 f1 k1 g1 rep1 o1 t1;dsimp only at q;cases ee:FI xs with
  | none=>rw [ee] at q;exact q.elim
  | some ij=>
   obtain ⟨i,j⟩:=ij;rw [ee] at q;unfold FI at ee;split at ee
   ·rename_i i' d j' d';split at ee
    ·rename_i hb;cases ee;obtain ⟨v,r,f1,f2,rfl,_,_,h1,h2⟩:=o1;obtain ⟨v2,r2,f3,f4,rfl,_,_,h3,h4⟩:=h2;obtain ⟨rfl,_⟩:=h4;rw [Own] at h1 h3;obtain ⟨rfl,_⟩:=h1;obtain ⟨rfl,_⟩:=h3;exact ⟨i,j,rfl,hb,Sk hn hP hal hvI hvE his hg hvo hvo2 k1 g1 rep1 q⟩
    ·cases ee
   ·cases ee
end
def Mp {K:Frag}{c:Nat}{C:Addr} (e:BR K c=some C):c < 12:=by
 unfold BR at e;split at e
 ·rename_i x h;exact (ja6.mp h).1
 ·cases e
structure XC (h:Heap) (K:Frag) (c:Nat) (C:Addr):Prop where
 obj:∃ bm N nm q bs hdct sn sub ab col dd k0 k1 k2 k3 k5 mN,h.get? C=some (excClassObj nm q C N bs bm hdct sn sub ab col dd k0 k1 k2 k3 k5 "ValueError.__new__")/\h.Ns N mN/\mN "__init__" = none/\OwnTail h bmV bm/\∀ d D,BR K d=some D->(Value.ref C::bm).contains (.ref D)=Dx c d
def x3 {K:Frag}{c:Nat}{C:Addr} (t:D7 K=true) (e:BR K c=some C):PySem.W.excIn K C bmV "ValueError.__new__" = true/\∀ d D,BR K d=some D->(He K C).contains (.ref D)=Dx c d:=by
 unfold D7 at t;have h:=jb4.mp t c (jd0.mpr (Mp e));rw [e] at h;dsimp only at h;rw [AF] at h;refine ⟨h.1,λ d D ed=>?_⟩;have h2:=jb4.mp h.2 d (jd0.mpr (Mp ed));rw [ed] at h2;exact eq_of_beq h2
def Qt {K:Frag}{h:Heap}{c:Nat}{C:Addr} (X:K.In h) (t:D7 K=true) (e:BR K c=some C):XC h K c C:=by
 obtain ⟨q,ht⟩:=x3 t e;refine ⟨?_⟩;unfold PySem.W.excIn at q;split at q
 ·rename_i dd cd sl ho;split at q
  ·rename_i C' bm k0 k1 k2 k3 n k5 hm hs;simp only [AF,beq_iff_eq,Gy] at q;obtain ⟨⟨⟨⟨⟨rfl,rfl⟩,hdel⟩,htl⟩,hok⟩,hni⟩:=q;have hmro:He K C'=.ref C'::bm:=by unfold He;rw [ho];exact hm
   rw [hmro] at ht;obtain ⟨nm,bs,mro,ns,qn,hd,sn,sub,ab,col,del⟩:=cd;dsimp only at hm hdel hok hni;subst hm hdel;have hsl:sl=#[k0,k1,k2,k3,some (.builtin "ValueError.__new__"),k5]:=by
    obtain ⟨l⟩:=sl;simp only at hs;rw [hs]
   subst hsl;exact ⟨bm,ns,nm,qn,bs,hd,sn,sub,ab,col,dd,k0,k1,k2,k3,k5,_,X _ _ ho,.of_isNs (PySem.W.isNs_of_in X hok),PySem.W.nsMap_none_of_in X hok hni,PySem.W.tail_of_in X htl,ht⟩
  ·cases q
 ·cases q
def Ei (W:Nat->Hp->Prop):XK:=λ v _ H'=>match v with
 | .int c _=>W c.toNat H'
 | _=>False
def AL (P:A7) (w:A6) (K:Frag):Fo:=λ outer H s E e s'=>∃ (a C:Addr) (c:Nat) (H':Hp) (B:Heap) (a0:Af),e=.ref a/\BR K c=some C/\s'.os=s.os/\EF s'.gens/\Un (BO outer) [] H H' s.heap s'.heap/\HOk P w H' s'.heap/\H' a=none/\s.heap.get? a=none /\
 Jx B outer a (.ref C) a0 s'.heap/\(∀ b o,s'.heap.get? b=some o->H' b≠none->B.get? b=some o)/\(∀ b o,s.heap.get? b=some o->H b=none->b∉BO outer->B.get? b=some o)/\(∀ b,H b≠none->H' b≠none)/\E (.int (c:Int) 0) none H'
theorem LM {P:A7}{w:A6}{H:Hp}{h:Heap}{a:Addr}{o:HO} (x:zwl P w H h a o):∃ u,h.get? a=some u:=by
 cases o with
 | lst xs=>obtain ⟨_,_,_,_,e⟩:=x;exact ⟨_,e⟩
 | tup xs=>obtain ⟨_,_,_,o,e,_⟩:=x;exact ⟨_,e⟩
 | dK kvs=>obtain ⟨_,_,_,_,o,_,_,e,_⟩:=x;exact ⟨_,e⟩
 | dT kvs=>obtain ⟨_,_,_,_,o,_,_,e,_⟩:=x;exact ⟨_,e⟩
 | set S n=>obtain ⟨o,_,_,_,e,_⟩:=x;exact ⟨_,e⟩
 | ins C dx fs=>obtain ⟨_,_,_,e,_⟩:=x;exact ⟨_,e⟩
 | own y=>exact x
 | xd fs=>obtain ⟨_,⟨_,_,_,e,_⟩,_⟩:=x;exact ⟨_,e⟩
 | rng lo hi=>obtain ⟨_,_,_,e⟩:=x;exact ⟨_,e⟩
 | frz ob u=>obtain ⟨e,_⟩:=x;exact ⟨_,e⟩
 | tbl ps=>exact ⟨_,(show h.get? a=some _ from x)⟩
 | met f y=>exact ⟨_,(show h.get? a=some _ from x)⟩
 | ext φ=>exact x.2.1
section
variable {X:Cx}{pins:List (Addr×Obj)}{σ:St}{H H1:Hp}{s s2:Aj}{h1 B:Heap}{a C:Addr}{a0:Af}{c:Nat}{E:XK}{P:A7}{w:A6}{K:Frag}
def Ou (I:L2.Inv X pins σ H s) (hex:X.ex=[]) (u:Un (BO X.stack) [] H H1 s.heap h1) (hok:HOk X.prog X.w H1 h1) (fl:Jx B X.outer a (.ref C) a0 s2.heap) (up:h1.UpToSlots s2.heap)
  (i1:∀ b o,h1.get? b=some o->H1 b≠none->B.get? b=some o) (i2:∀ b o,s.heap.get? b=some o->H b=none->b∉BO X.stack->B.get? b=some o) (ha:H1 a=none) (hn:s.heap.get? a=none)
  (hE:E (.int (c:Int) 0) none H1) (hd:∀ b,X.H₀ b≠none->H1 b≠none) (hc:BR X.K c=some C) (ho:s2.os=s.os) (hg:EF s2.gens):AL X.prog X.w X.K X.outer X.H₀ X.s₀ E (.ref a) s2:=by
 have nx:∀ b:Addr,b∉X.ex:=λ b z=>by rw [hex] at z;cases z
 have key:∀ b o,X.s₀.heap.get? b=some o->X.H₀ b=none->b∉BO X.outer->B.get? b=some o:=λ b o e n hb=>by
  refine i2 b o (I.base.keep b o e n hb (nx b)) (I.base.free b o e n (nx b)) λ z=>?_;rcases jb2.mp (I.stkSub b z) with z | z
  ·exact absurd (Bm (Bl e) I.ok.above) (by rw [z];exact Ed _)
  ·exact hb z
 have fr:∀ b o,X.s₀.heap.get? b=some o->X.H₀ b=none->b∈BO X.outer->∃ sl,s2.heap.get? b=some { o with slots:=sl }:=λ b o e n hb=>by
  obtain ⟨sl,e1⟩:=I.base.slot b o e n hb (nx b);obtain ⟨sl',e2⟩:=u.any e1 (I.base.free b o e n (nx b)) (by simp);obtain ⟨_,o',ho',hnf⟩:=I.ok.funs.mem hb;rw [e] at ho';cases ho';obtain ⟨sl2,e3⟩:=up b _ e2 hnf;exact ⟨sl2,e3⟩
 have D8:∀ b v,H1 b≠none->h1.get? b=some v->s2.heap.get? b=some v:=λ b v hb e=>fl.1 b v (i1 b v e hb);have un:Un (BO X.outer) [] X.H₀ H1 X.s₀.heap s2.heap:=by
  refine ⟨λ b o e n hb _=>fl.1 b o (key b o e n hb),λ b o e n hb _=>fr b o e n hb,λ b o e n _=>?_,λ b o e _=>?_,λ b xs e=>u.tups b xs (I.base.tups b xs e),λ b o xs e=>u.frzs b o xs (I.base.frzs b o xs e),λ b ps e=>?_⟩
  ·obtain ⟨o',e'⟩:=I.base.there b o e (nx b);exact u.free b o' e' (I.base.free b o e n (nx b)) (by simp)
  ·by_cases h0:X.H₀ b=none
   ·by_cases hb:b∈BO X.outer
    ·obtain ⟨sl,e2⟩:=fr b o e h0 hb;exact ⟨_,e2⟩
    ·exact ⟨o,fl.1 b o (key b o e h0 hb)⟩
   ·obtain ⟨o',e'⟩:=I.base.there b o e (nx b);obtain ⟨o2,e2⟩:=u.there b o' e' (by simp);exact ⟨o2,D8 b o2 (hd b h0) e2⟩
  ·obtain ⟨m1,e1⟩:=I.base.tbls b ps e;obtain ⟨m2,e2⟩:=u.tbls b _ e1;exact ⟨m1++m2,by rw [e2,WA]⟩
 refine ⟨a,C,c,H1,B,a0,rfl,hc,ho.trans I.os,hg,un,λ b o e=>?_,ha,?_,fl,λ b o e hb=>?_,key,hd,hE⟩
 ·refine (hok b o e).stay (λ d v hd q=>D8 d v ?_ q) (λ _ q=>q) λ _ _ q=>q;rcases hd with rfl | hd
  ·rw [e];simp
  ·rw [hd];simp
 ·cases q:X.s₀.heap.get? a with
  | none=>rfl
  | some o=>
   obtain ⟨o',e'⟩:=I.base.there a o q (nx a);rw [hn] at e';cases e'
 ·cases q:H1 b with
  | none=>exact absurd q hb
  | some o1=>
   obtain ⟨v,hv⟩:=LM (hok b o1 q);have e2:=D8 b v hb hv;rw [e] at e2;cases e2;exact i1 b o hv hb
end
def HQ (CX:Fo) (X:Cx) (W:St->Nat->Hp->Prop):Prop:=∀ (pins:List (Addr×Obj)) (σ:St) (H:Hp) (s:Aj) (e:Af) (s':Aj),L2.Inv X pins σ H s->CX X.stack H s (Ei (W σ)) e s'->X.xe e s'
def O6 (X:Cx) (W:St->Nat->Hp->Prop):Prop:=∀ (pins:List (Addr×Obj)) (σ:St) (H:Hp) (s:Aj) (c:Nat) (C a:Addr) (h':Heap) (args:List Af),L2.Inv X pins σ H s->BR X.K c=some C->Heap.MadeExcOf s.heap h' a (.ref C) args->W σ c H->X.xe (.ref a) { s with heap:=h' }
abbrev W0:St->Nat->Hp->Prop:=λ _ _ _=>False
def YD {P:A7}{w:A6}{K:Frag}{X:Cx}:HQ (AL P w K) X W0:=λ _ _ _ _ _ _ _ h=>by
 obtain ⟨a,C,c,H',B,a0,_,_,_,_,_,_,_,_,_,_,_,_,hE⟩:=h;exact Gu hE
def WE (E:XK) (H:Hp):St->Nat->Hp->Prop:=λ _ c H'=>E (.int (c:Int) 0) none H'/\∀ b,H b≠none->H' b≠none
section
variable {P:A7}{w:A6}{K:Frag}{mg:Str->Option Af}{base:Heap}{N:List Str}{qual:Str}{scope:AW}{f:Addr}{cd:Af}{A:AZ}{outer:List Env}{s:Aj}{H:Hp}{E:XK}
def ze:HQ (AL P w K) (Bx (AL P w K) P w K mg base N qual scope f cd A outer s H E) (WE E H):=by
 intro pins σ H1 s1 e s' I h;obtain ⟨a,C,c,H',B,a0,rfl,hc,ho,hg,un,hok,ha,hn,fl,i1,i2,hd,hE⟩:=h;have hE':WE E H σ c H':=hE;refine wpAny_leaves_onW (by exact I.ok.frames) rfl fl λ h2 f2 up=>?_;exact Ou (s2:={ s' with heap:=h2 }) I rfl un hok f2 up i1 i2 ha hn hE'.1 hE'.2 hc ho hg
def jE:O6 (Bx (AL P w K) P w K mg base N qual scope f cd A outer s H E) (WE E H):=by
 intro pins σ H1 s1 c C a h' args I hc hx hW;have hin:∀ env∈(Bx (AL P w K) P w K mg base N qual scope f cd A outer s H E).stack,∀ b,env.frame=some b->b∈BO (Bx (AL P w K) P w K mg base N qual scope f cd A outer s H E).stack:=λ env he b hb=>jh7.mpr ⟨env,he,hb⟩;have D8:∀ b,H1 b≠none->∃ o,s1.heap.get? b=some o:=λ b hb=>by
  cases q:H1 b with
  | none=>exact absurd q hb
  | some u=>exact LM (I.hok b u q)
 have nfr:∀ b,H1 b≠none->b∉BO (Bx (AL P w K) P w K mg base N qual scope f cd A outer s H E).stack:=λ b hb z=>hb (I.stkFree b z);refine wpAny_leaves_madeW (base:=E1 s1.heap (BO (Bx (AL P w K) P w K mg base N qual scope f cd A outer s H E).stack)) (h:=s1.heap) (by exact I.ok.frames) rfl (λ b o q=>Ik _ q) (PySem.W.funFrames_hide I.stack hin) hx λ h2 t f2 _ _ up=>?_;refine Ou (s2:={ s1 with heap:=h2 }) I rfl (Un.kept hx.keeps) (I.hok.kept hx.keeps) f2 up (λ b o e hb=>?_) (λ b o e _ hb=>KG _ e hb) ?_ hx.new hW.1 hW.2 hc rfl I.bare
 ·obtain ⟨o1,e1⟩:=D8 b hb;have e2:=hx.keeps b o1 e1;rw [e] at e2;cases e2;exact KG _ e1 (nfr b hb)
 ·cases q:H1 a with
  | none=>rfl
  | some u=>
   obtain ⟨o,e⟩:=LM (I.hok a u q);rw [hx.new] at e;cases e
def qk:Ia (Aq P w) (Bx (AL P w K) P w K mg base N qual scope f cd A outer s H E).A (Bx (AL P w K) P w K mg base N qual scope f cd A outer s H E).env (Bx (AL P w K) P w K mg base N qual scope f cd A outer s H E).xe:=PassesOwn.leaving
end
section
variable {X:Cx}{CX:Fo}{k:Nat}{f:Addr}{fd:CU}{ps:List Str}{sp:Sp}{x:Str}{p pos:Pos}{e:Expr}{es:List Expr}{t:TA}{W:St->Nat->Hp->Prop}
def UB (sp:Sp) (W:St->Nat->Hp->Prop) (t:TA):TE:=λ σ H Q=>t σ H λ vs H1=>sp vs H1 Q (Ei (W σ))
theorem zg (F:FnOk X.prog X.w X.K X.mg X.base CX k f fd ps sp) (hr:Room k X.A) (hg:Gl X x) (hm:X.mg x=some (.ref f)) (hk:Ih X.K (.ref f)=true) (hb:zgw X.K fd ps []) (hx:HQ CX X W) (ha:PA X (e::es) t) (hdb:(x == ("__debug__" : Str))=false)
  (he:A5 (e::es) X.env=(false,eval e X.env)::A5 es X.env) (hpl:(Cz pos (A5 es X.env)).any (·.1)=false):PE X (.Call (.Name x p) (e::es) [] pos) (UB sp W t):=by
 intro pins s σ H Q I h;refine Pl (Ma I hg hm ?_ hdb);refine PySem.W.callWith_K (h₀:=X.base) I.ok.mod.kin hk (A3 (ha pos pins s σ H _ I h) λ us s1 ⟨vs,H1,I1,r,q⟩=>⟨I1.kIn,?_⟩) he hpl;have q':sp vs H1 Q (Ei (W σ)):=q;have hl:(us++[]).length=ps.length:=by rw [Ls,<- r.length];exact F.len _ _ _ _ q'
 have hbd:=hb s1 us I1.kIn hl;rw [Ls] at hbd;refine wpAny_call (M4 (F.run X.A X.stack s1 H1 ⟨us,[]⟩ us vs Q (Ei (W σ)) hr I1.env0 hbd r q') λ r s' hq=>?_);cases r with
 | error e=>exact hx pins σ H1 s1 e s' I1 hq
 | ok fl=>
  cases fl with
  | ret u=>exact I1.after hq
  | next=>exact Gu hq
  | brk=>exact Gu hq
  | cont=>exact Gu hq
end
def CP (cells:List (Str×Addr)):List (Str×Dh)->List (Str×Addr)->List (Str×Addr)
 | [],cs=>cs
 | (n,k)::r,cs=>if k == .free then CP cells r ((n,(cells.lookup n).getD 0)::cs) else CP cells r cs
def Sr {scope:AW}{env:Env} (h:∀ x∈scope.names,x.2=.free->∃ c,env.cells.lookup x.1=some c):closureFor scope env=pure (CP env.cells scope.names []):=by
 unfold closureFor;have all:∀ (l:List (Str×Dh)) (cs:List (Str×Addr)),(∀ x∈l,x.2=.free->∃ c,env.cells.lookup x.1=some c) ->
   (forIn l cs λ (x:Str×Dh) (cs:List (Str×Addr))=>if (x.2 == NameKind.free)=true then (do let a<-cellOf env x.1;pure (ForInStep.yield ((x.1,a)::cs))) else pure (ForInStep.yield cs):Sem (List (Str×Addr)))=pure (CP env.cells l cs):=by
  intro l;induction l with
  | nil=>intro cs _;rfl
  | cons x r ih=>
   intro cs hl;obtain ⟨n,k⟩:=x;rw [Wu];have ih':=λ cs=>ih cs λ y hy=>hl y (AU _ hy);by_cases hk:(k == NameKind.free)=true
   ·obtain ⟨c,hc⟩:=hl (n,k) Ba (by simpa using hk);have e1:cellOf env n=pure c:=by unfold cellOf;rw [hc]
    rw [if_pos hk,e1];simp only [pure_bind];rw [ih',CP,if_pos hk,hc];rfl
   ·rw [if_neg hk];simp only [pure_bind];rw [ih',CP,if_neg hk]
 have:=all scope.names [] h
 simp only [bind_pure] at this ⊢;exact this
theorem Gk (cells:List (Str×Addr)) (x:Str) (c:Addr):∀ (l:List (Str×Dh)) (cs:List (Str×Addr)),(∀ y∈l,y.2=.free->∃ c,cells.lookup y.1=some c)->(cs.lookup x=some c->cells.lookup x=some c)->(CP cells l cs).lookup x=some c->cells.lookup x=some c
 | [],cs,_,h,e=>h e
 | (n,k)::r,cs,hl,h,e=>by
  unfold CP at e;split at e
  ·rename_i hk;refine Gk cells x c r _ (λ y hy=>hl y (AU _ hy)) (λ e'=>?_) e;rw [EO] at e';split at e'
   ·rename_i hx;obtain ⟨c',hc⟩:=hl (n,k) Ba (by simpa using hk);rw [hc] at e';cases e';rw [eq_of_beq hx];exact hc
   ·exact h e'
  ·exact Gk cells x c r cs (λ y hy=>hl y (AU _ hy)) h e
theorem Ob (cells:List (Str×Addr)) (x:Str):∀ (l:List (Str×Dh)) (cs:List (Str×Addr)),(∃ c,cs.lookup x=some c)->∃ c,(CP cells l cs).lookup x=some c
 | [],cs,h=>h
 | (n,k)::r,cs,h=>by
  unfold CP;split
  ·refine Ob cells x r _ ?_;rw [EO];split
   ·exact ⟨_,rfl⟩
   ·exact h
  ·exact Ob cells x r cs h
theorem OQ (cells:List (Str×Addr)) (x:Str):∀ (l:List (Str×Dh)) (cs:List (Str×Addr)),(x,NameKind.free)∈l->∃ c,(CP cells l cs).lookup x=some c
 | [],_,h=>nomatch h
 | (n,k)::r,cs,h=>by
  unfold CP;rcases jb2.mp h with e | e
  ·cases e;rw [if_pos (show (NameKind.free == NameKind.free)=true by decide)];exact Ob cells x r _ ⟨_,by rw [EO,beq_self_eq_true]⟩
  ·split
   ·exact OQ cells x r _ e
   ·exact OQ cells x r cs e
theorem OP:∀ (names:List (Str×Dh)) (n:Nat) (acc:List (Str×Addr)) (x:Str) (c:Addr),(CV n names acc).lookup x=some c->acc.lookup x=some c\/(n<=c/\(x,NameKind.cell)∈names)
 | [],n,acc,x,c,h=>.inl h
 | (m,k)::r,n,acc,x,c,h=>by
  unfold CV at h;split at h
  ·rename_i hk;have hk':k=.cell:=by simpa using hk
   rcases OP r _ _ x c h with z | ⟨z,y⟩
   ·rw [EO] at z;split at z
    ·rename_i hx;cases z;exact .inr ⟨AS _,by rw [eq_of_beq hx,hk'];exact Ba⟩
    ·exact .inl z
   ·exact .inr ⟨FX z,AU _ y⟩
  ·rcases OP r _ _ x c h with z | ⟨z,y⟩
   ·exact .inl z
   ·exact .inr ⟨z,AU _ y⟩
theorem Mx:∀ (names:List (Str×Dh)) (n:Nat) (acc:List (Str×Addr)) (x:Str),(x,NameKind.cell)∉names->(CV n names acc).lookup x=acc.lookup x
 | [],n,acc,x,h=>rfl
 | (m,k)::r,n,acc,x,h=>by
  unfold CV;split
  ·rename_i hk;have hk':k=.cell:=by simpa using hk
   rw [Mx r _ _ x λ z=>h (AU _ z),EO];split
   ·rename_i hx;exact absurd (by rw [eq_of_beq hx,hk'];exact Ba) h
   ·rfl
  ·exact Mx r _ _ x λ z=>h (AU _ z)
theorem Nm:∀ (names:List (Str×Dh)) (n:Nat) (acc:List (Str×Addr)) (x:Str),(x,NameKind.cell)∈names->∃ c,(CV n names acc).lookup x=some c/\n<=c
 | [],n,acc,x,h=>nomatch h
 | (m,k)::r,n,acc,x,h=>by
  by_cases hr:(x,NameKind.cell)∈r
  ·unfold CV;split
   ·obtain ⟨c,e,l⟩:=Nm r (n + 1) ((m,n)::acc) x hr;exact ⟨c,e,FX l⟩
   ·exact Nm r n acc x hr
  ·rcases jb2.mp h with e | e
   ·cases e;unfold CV;rw [if_pos (by decide),Mx r _ _ _ hr,EO,beq_self_eq_true];exact ⟨n,rfl,AS _⟩
   ·exact absurd e hr
theorem Qw:∀ (names:List (Str×Dh)) (n:Nat) (acc:List (Str×Addr)),(∀ x y c,acc.lookup x=some c->acc.lookup y=some c->x=y)->(∀ x c,acc.lookup x=some c->c < n)->∀ x y c,(CV n names acc).lookup x=some c->(CV n names acc).lookup y=some c->x=y
 | [],n,acc,hi,_,x,y,c,h1,h2=>hi x y c h1 h2
 | (m,k)::r,n,acc,hi,hl,x,y,c,h1,h2=>by
  unfold CV at h1 h2;split at h1
  ·rename_i hk;rw [if_pos hk] at h2;refine Qw r (n + 1) ((m,n)::acc) (λ x y c h1 h2=>?_) (λ x c h=>?_) x y c h1 h2
   ·rw [EO] at h1 h2;split at h1
    ·rename_i e1;cases h1;split at h2
     ·rename_i e2;rw [eq_of_beq e1,eq_of_beq e2]
     ·exact absurd (hl y _ h2) (Ed _)
    ·split at h2
     ·cases h2;exact absurd (hl x _ h1) (Ed _)
     ·exact hi x y c h1 h2
   ·rw [EO] at h;split at h
    ·cases h;exact JJ _
    ·exact Lv (hl x c h)
  ·rename_i hk;rw [if_neg hk] at h2;exact Qw r n acc hi hl x y c h1 h2
theorem Me:∀ (names:List (Str×Dh)) (h:Heap) (acc:List (Str×Addr)) (x:Str) (c:Addr),(CV h.objs.size names acc).lookup x=some c->acc.lookup x=some c\/(Kx h names).IsCell c none
 | [],h,acc,x,c,e=>.inl e
 | (m,k)::r,h,acc,x,c,e=>by
  unfold CV at e;unfold Kx;split at e
  ·rename_i hk;rw [if_pos hk];have hs:(h.push { cls:=.type "cell",data:=.cell none }).objs.size=h.objs.size + 1:=Ig ..;have e':(CV (h.push { cls:=.type "cell",data:=.cell none }).objs.size r ((m,h.objs.size)::acc)).lookup x=some c:=by rw [hs];exact e
   rcases Me r _ _ x c e' with z | z
   ·rw [EO] at z;split at z
    ·cases z;exact .inr ⟨_,K8 _ _ _ _ (Ea _ rfl),rfl⟩
    ·exact .inl z
   ·exact .inr z
  ·rename_i hk;rw [if_neg hk];exact Me r h acc x c e
def Sg {M:Model}{A:AZ}{E:Af->Aj->Prop}{s:Aj}{scope:AW}{globals:Addr}{cl:List (Str×Addr)}{qual:Str}{func:Option Addr}{code:Af}{around:Env}{builtins:Addr}{Q:Env->Aj->Prop}
  (hQ:Q (newEnv scope s.heap.objs.size globals (CV (s.heap.objs.size + 1) scope.names cl) qual func code (some around) builtins) { s with heap:=Kx (s.heap.push { cls:=.type "dict",data:=.dict #[] }) scope.names }):
  As M A (K5 scope globals cl [] qual func code (some around) builtins) Q E s:=by
 simp only [K5,W9,if_true];refine AA (wpAny_alloc ?_);refine AA (wpAny_layCells _ (λ name kind cells=>by cases hkc:kind == NameKind.cell <;> simp [hkc]) _ _ _ _ ?_);rw [show ({ s with heap:=s.heap.push { cls:=.type "dict",data:=.dict #[] } }:Aj).heap.objs.size=s.heap.objs.size + 1 from Ig ..];exact AA (Bq (Bq hQ))
def D4 (X:Cx) (scope:AW) (C:Addr):List (Str×Addr):=CV (C + 1) scope.names (CP X.env.cells scope.names [])
def AE (X:Cx) (s2:Aj) (H2:Hp) (scope:AW) (C:Addr) (N':List Str) (fp:List Addr) (pins:List (Addr×Obj)):Cx:=
 { X with N:=N',s₀:=s2,H₀:=H2,env:=Ey scope (D4 X scope C) C X.env,outer:=X.stack,stack:=X.stack,ex:=fp,fn:=λ x=>scope.names.contains (x,NameKind.cell),pn:=X.pn++pins,xe:=λ _ _=>False }
structure CompOk (X:Cx) (scope:AW) (N':List Str) (k:Nat):Prop where
 kind:scope.kind=.function
 dis:∀ x,(x,NameKind.free)∈scope.names->(x,NameKind.cell)∉scope.names
 names:∀ x∈scope.names,x.2=.local->scope.names.lookup x.1=some .local
 len:N'.length=X.N.length + k
 free:∀ x∈scope.names,x.2=.free->X.env.kindOf x.1=some .cell\/X.env.kindOf x.1=some .free
 kinds:∀ x,(Ex scope X.env).names.lookup x=some .cell\/(Ex scope X.env).names.lookup x=some .free->(x,NameKind.free)∈scope.names\/(x,NameKind.cell)∈scope.names
 capt:∀ (i:Nat) (x:Str),i < X.N.length->N'[i]?=some x->GB (Ex scope X.env) x->X.N[i]?=some x/\GB X.env.scope x/\(x,NameKind.free)∈scope.names/\(Ex scope X.env).names.lookup x≠some .local
section
variable {X:Cx}{scope:AW}{N':List Str}{k:Nat}{pins:List (Addr×Obj)}{σ:St}{H2:Hp}{s2:Aj}{fp:List Addr}{C:Addr}
def CompOk.cells (c:CompOk X scope N' k) (I:Inv X pins σ H2 s2):∀ x∈scope.names,x.2=.free->∃ a,X.env.cells.lookup x.1=some a:=λ x hx hf=>I.ok.has x.1 (c.free x hx hf)
def CompOk.cl (c:CompOk X scope N' k) (I:Inv X pins σ H2 s2) {x:Str}{a:Addr} (h:(D4 X scope C).lookup x=some a):X.env.cells.lookup x=some a\/(C + 1<=a/\(x,NameKind.cell)∈scope.names):=
 (OP _ _ _ x a h).imp (λ z=>Gk _ x a _ [] (c.cells I) (λ z=>nomatch z) z) id
def CompOk.old (c:CompOk X scope N' k) (I:Inv X pins σ H2 s2) {x:Str}{a:Addr} (h:X.env.cells.lookup x=some a):a < s2.heap.objs.size:=by
 obtain ⟨v,o,ho,_⟩:=I.cell x a h;exact Bl ho
def CompOk.cap (c:CompOk X scope N' k) {x:Str} (h:(x,NameKind.free)∈scope.names):∃ a,(D4 X scope C).lookup x=some a/\(CP X.env.cells scope.names []).lookup x=some a:=by
 obtain ⟨a,ha⟩:=OQ X.env.cells x scope.names [] h;exact ⟨a,(Mx _ _ _ x (c.dis x h)).trans ha,ha⟩
def CompOk.ok (c:CompOk X scope N' k) (I:Inv X pins σ H2 s2) (hf:∀ b∈fp,BZ X pins H2 b) (hC:s2.heap.objs.size<=C) (hfp:∀ b∈fp,b < s2.heap.objs.size):(AE X s2 H2 scope C N' fp pins).Ok where
 mod:=I.ok.mod
 kind:=c.kind
 glob:=I.ok.glob
 blt:=I.ok.blt
 above:=hC
 inj:=λ x y a h1 h2=>Qw scope.names (C + 1) _ (λ x y a h1 h2=>I.ok.inj x y a (Gk _ x a _ [] (c.cells I) (λ z=>nomatch z) h1) (Gk _ y a _ [] (c.cells I) (λ z=>nomatch z) h2))
  (λ x a h=>Lv (Bm (c.old I (Gk _ x a _ [] (c.cells I) (λ z=>nomatch z) h)) hC)) x y a h1 h2
 has:=λ x hx=>(c.kinds x hx).elim (λ z=>let ⟨a,h,_⟩:=c.cap (C:=C) z;⟨a,h⟩) λ z=>let ⟨a,h,_⟩:=Nm scope.names (C + 1) (CP X.env.cells scope.names []) x z;⟨a,h⟩
 cab:=λ x a h e=>by
  have hx:(x,NameKind.cell)∈scope.names:=by
   have h':scope.names.contains (x,NameKind.cell)=true:=h;simpa using h'
  obtain ⟨a',e',l⟩:=Nm scope.names (C + 1) (CP X.env.cells scope.names []) x hx;have e2:(CV (C + 1) scope.names (CP X.env.cells scope.names [])).lookup x=some a:=e;rw [e'] at e2;cases e2;exact BH hC (FX l)
 hd:=I.ok.hd
 frames:=I.ok.frames
 stk:=.inl rfl
 exf:=λ b hb=>⟨BM (Bm (hfp b hb) hC),λ x a h=>(c.cl I h).elim (λ z=>(hf b hb).2.2.2.2.1 x a z) λ z=>Fh (Bm (hfp b hb) (BH hC (FX z.1)))⟩
 bs:=I.bs
 bsz:=BH I.ok.bsz I.sz
 noex:=λ b o e hb=>by
  rcases (hf b hb).2.2.2.1 with z | z
  ·exact I.ok.noex b o e z
  ·exact absurd (Bm (Bl e) (BH I.ok.bsz z)) (Ed _)
 exfs:=λ b hb hz=>by
  rcases jb2.mp (I.stkSub b hz) with z | z
  ·exact (hf b hb).2.1 z
  ·exact (hf b hb).2.2.1 z
 funs:=I.stack
 frf:=I.stkFree
def CompOk.inv (c:CompOk X scope N' k) (I:Inv X pins σ H2 s2) (hf:∀ b∈fp,BZ X pins H2 b) (hfp:∀ b∈fp,b < s2.heap.objs.size) {H3:Hp}{h':Heap}{t':Nat}{m:Str->Option Af}{D:Addr} (hCD:D≠C) (hD:s2.heap.objs.size<=D) (hC:s2.heap.objs.size<=C)
  (keep:∀ b o,s2.heap.get? b=some o->h'.get? b=some o) (ns:h'.Ns C m) (hH:∀ b,b≠D->H3 b=H2 b) (hok:HOk X.prog X.w H3 h') (hC3:H3 C=none) (hDC:D < C) (hcN:∀ x a,(D4 X scope C).lookup x=some a->C + 1<=a->h'.IsCell a none):
  Inv (AE X s2 H2 scope C N' fp pins) [] (σ++AM k none) H3 { s2 with heap:=h',toks:=t' } where
 ok:=c.ok I hf hC hfp
 os:=rfl
 bare:=I.bare
 base:=by
  have nD:∀ b o,s2.heap.get? b=some o->b≠D:=λ b o e=>BM (Bm (Bl e) hD);refine ⟨λ b o e _ _ _=>keep b o e,λ b o e _ _ _=>⟨o.slots,keep b o e⟩,λ b o e n _=>by rw [hH b (nD b o e)];exact n,λ b o e _=>⟨o,keep b o e⟩,λ b xs e=>?_,λ b o u e=>?_,λ b ps e=>⟨#[],?_⟩⟩
  ·have e:H2 b=some (.tup xs):=e;rw [hH b (λ z=>by rw [z,I.hok.fresh hD] at e;cases e)];exact e
  ·have e:H2 b=some (.frz o u):=e;rw [hH b (λ z=>by rw [z,I.hok.fresh hD] at e;cases e)];exact e
  ·have e:H2 b=some (.tbl ps):=e;rw [hH b (λ z=>by rw [z,I.hok.fresh hD] at e;cases e)];simpa using e
 loc:=by
  refine ⟨m,ns,λ i x v e1 e2 e3=>?_⟩;have hi:i < σ.length:=by
   by_cases hi:i < σ.length
   ·exact hi
   ·rw [Gz (by omega),IJ] at e2;split at e2 <;> cases e2
  rw [Dw hi] at e2;obtain ⟨n1,n2,n3,n4⟩:=c.capt i x (by rw [<- I.len];exact hi) e1 e3;obtain ⟨m0,ns0,hl⟩:=I.loc;obtain ⟨u,r,lk⟩:=hl i x v n1 e2 n2;refine ⟨u,r,.inr ⟨?_,?_⟩⟩
  ·rcases e3 with z | z | z
   ·exact absurd z n4
   ·exact .inl z
   ·exact .inr z
  ·obtain ⟨a,ha,hb⟩:=c.cap (C:=C) n3;have ha':=Gk _ x a _ [] (c.cells I) (λ z=>nomatch z) hb;refine ⟨a,ha,?_⟩;rcases lk with ⟨hk,_⟩ | ⟨hk,a2,ha2,hc⟩
   ·rcases c.free _ n3 rfl with z | z <;> rw [hk] at z <;> cases z
   ·rw [ha'] at ha2;cases ha2;obtain ⟨o,ho,hd⟩:=hc;exact ⟨o,keep _ _ ho,hd⟩
 cell:=λ x a h=>by
  rcases c.cl I h with z | z
  ·obtain ⟨v,o,ho,hd⟩:=I.cell x a z;exact ⟨v,o,keep _ _ ho,hd⟩
  ·exact ⟨none,hcN x a h z.1⟩
 free:=hC3
 freeC:=λ x a h=>by
  rcases c.cl I h with ha | z
  ·obtain ⟨v,o,ho,hd⟩:=I.cell x a ha;rw [hH a (BM (Bm (Bl ho) hD))];exact I.freeC x a ha
  ·rw [hH a (Fh (Bm hDC (FX z.1)))];exact I.hok.fresh (BH hC (FX z.1))
 pin:=λ p hp=>by
  have hp':p∈X.pn++pins:=by simpa [AE] using hp
  obtain ⟨e,n,ne,nf,d⟩:=I.pin p hp';have hlt:=Bl e;exact ⟨keep _ _ e,by rw [hH p.1 (BM (Bm hlt hD))];exact n,BM (Bm hlt hC),λ z=>(jb2.mp (I.stkSub p.1 z)).elim ne nf,d⟩
 hok:=hok
 len:=by
  show (σ++AM k none).length=N'.length;rw [Cd,II,c.len,I.len]
def Fl (X:Cx) (ifs:List Expr) (t:TT):Prop:=
 ∀ (pins:List (Addr×Obj)) (s:Aj) (σ:St) (H:Hp) (Q:Bool->Hp->Prop),Inv X pins σ H s->t σ H Q ->
  As (Aq X.prog X.w) X.A (forIn ifs true λ c r=>if r=true then do let ok<-isTrue c X.env (eval c X.env);pure (ForInStep.yield ok) else pure (ForInStep.yield r)) (TP X pins σ Q) X.xe s
def Vy {X:Cx}:Fl X [] (λ _ H Q=>Q true H):=λ _ _ _ H _ I h=>Bq ⟨H,I,h⟩
def qZ {X:Cx}{c:Expr}{t:TT} (hc:PT X c t):Fl X [c] t:=by
 intro pins s σ H Q I h;rw [Wu];refine AA ?_;rw [if_pos rfl];refine AA (A3 (hc pins s σ H Q I h) λ b s1 q=>Bq ?_);exact Bq q
def CompOk.again (c:CompOk X scope N' k) (I:Inv X pins σ H2 s2) {σ':St}{H':Hp}{s':Aj}{ps:List (Addr×Obj)} (hfp:∀ b∈fp,BZ X pins H2 b) (J:Inv (AE X s2 H2 scope C N' fp pins) ps σ' H' s'):Inv (AE X s2 H2 scope C N' fp pins) ps (σ++AM k none) H' s' where
 ok:=J.ok
 os:=J.os
 bare:=J.bare
 base:=J.base
 loc:=by
  obtain ⟨m,ns,_⟩:=J.loc;refine ⟨m,ns,λ i x v e1 e2 e3=>?_⟩;have hi:i < σ.length:=by
   by_cases hi:i < σ.length
   ·exact hi
   ·rw [Gz (by omega),IJ] at e2;split at e2 <;> cases e2
  rw [Dw hi] at e2;obtain ⟨n1,n2,n3,n4⟩:=c.capt i x (by rw [<- I.len];exact hi) e1 e3;obtain ⟨m0,ns0,hl⟩:=I.loc;obtain ⟨u,r,lk⟩:=hl i x v n1 e2 n2;refine ⟨u,r,.inr ⟨?_,?_⟩⟩
  ·rcases e3 with z | z | z
   ·exact absurd z n4
   ·exact .inl z
   ·exact .inr z
  ·obtain ⟨a,ha,hb⟩:=c.cap (C:=C) n3;have ha':=Gk _ x a _ [] (c.cells I) (λ z=>nomatch z) hb;refine ⟨a,ha,?_⟩;rcases lk with ⟨hk,_⟩ | ⟨hk,a2,ha2,hc⟩
   ·rcases c.free _ n3 rfl with z | z <;> rw [hk] at z <;> cases z
   ·rw [ha'] at ha2;cases ha2;obtain ⟨o,ho,hd⟩:=hc;obtain ⟨sl,ho'⟩:=J.base.any (b:=a) (ob:=o) ho (I.freeC x a ha') λ z=>(hfp a z).2.2.2.2.1 x a ha' rfl;exact ⟨_,ho',hd⟩
 cell:=J.cell
 free:=J.free
 freeC:=J.freeC
 pin:=J.pin
 hok:=J.hok
 len:=by
  show (σ++AM k none).length=N'.length;rw [Cd,II,c.len,I.len]
theorem WX {prog:A7}{w:A6}{A:AZ}{R:Result->Aj->Prop}{s:Aj}{elt target iter:Expr}{ifs:List Expr}{scope:AW}{pos:Pos}{it acc:Af}{env:Env} (I:Nat->Aj->Prop)
  (turn:∀ n s,I n s->As (Aq prog w) A (pyNext it) (λ r s₁=>match r with
   | none=>R (.ok .next) s₁
   | some v=>As (Aq prog w) A (K7 target it v) (λ _ s₁'=>As (Aq prog w) A (EE target env v) (λ _ s₂=>
     As (Aq prog w) A (forIn ifs true λ c r=>if r=true then do let ok<-isTrue c env (eval c env);pure (ForInStep.yield ok) else pure (ForInStep.yield r)) (λ ok s₃=>
      if ok=true then As (Aq prog w) A (eval elt env) (λ x s₄=>
       As (Aq prog w) A (call (.builtin "list.append") [acc,x]) (λ _ s₅=>∃ m,m < n/\I m s₅) (λ _ _=>False) s₄) (λ _ _=>False) s₃
      else ∃ m,m < n/\I m s₃) (λ _ _=>False) s₂) (λ _ _=>False) s₁') (λ _ _=>False) s₁) (λ _ _=>False) s)
  (n:Nat) (h:I n s):
  EZ (Aq prog w) A (.compLoop (.ListComp elt [⟨target,iter,ifs,0⟩] scope pos) 0 it acc env) R s:=by
 refine codeAny_loop rfl I (λ n s hI=>?_) n h;show As _ A ((compTurn (.ListComp elt [⟨target,iter,ifs,0⟩] scope pos) 0 it acc env).onRaise (λ x=>do Ju x env;theTreesLotGoes x)) _ _ s;refine wpAny_noted ?_;rw [compTurn_list];refine AA (J5 (AA (CA (turn n s hI) (λ r s₁ h₁=>?_) λ _ _ h'=>h'.elim)));cases r with
 | none=>exact Bq h₁
 | some v=>
  refine AA (CA h₁ (λ _ s₁' h₁'=>?_) λ _ _ h'=>h'.elim);refine AA (CA h₁' (λ _ s₂ h₂=>AA (CA h₂ (λ ok s₃ h₃=>?_) λ _ _ h'=>h'.elim)) λ _ _ h'=>h'.elim);cases ok with
  | false=>exact Bq ⟨rfl,h₃⟩
  | true=>
   exact AA (AA (CA h₃ (λ x s₄ h₄=>AA (CA h₄ (λ _ s₅ h₅=>Bq (Bq ⟨rfl,h₅⟩)) λ _ _ h'=>h'.elim)) λ _ _ h'=>h'.elim))
def Si {elt iter tg:Expr}{ifs:List Expr}{pos:Pos}{J:It}{it:Addr}{tn:Nat->Heap->Prop}{g:TG}{tc:TT}{te:TE}{RR:Af->Addr->Result->Aj->Prop}{Q:VK}{E:Af->Aj->Prop}
  (c:CompOk X scope N' k) (hcalm:X.calm=true) (I:Inv X pins σ H2 s2) (T:Turn X.prog X.w X.K tg J fp it tn) (st:tn 0 s2.heap) (hf:∀ b∈fp,BZ X pins H2 b)
  (hg:∀ C fp,PG (AE X s2 H2 scope C N' fp pins) tg g) (hc:∀ C fp,Fl (AE X s2 H2 scope C N' fp pins) ifs tc) (he:∀ C fp,PE (AE X s2 H2 scope C N' fp pins) elt te)
  (h:∀ D,H2 D=none->∃ W:Nat->Nat->List V->Hp->Prop,(∃ m,W 0 m [] (Aw H2 D (.lst [])))/\∀ i m ys H,W i m ys H->H D=some (.lst ys) /\
   ((J.stop i H/\Q (.ref D) H)\/(J.go i H/\∀ x H',J.yld i H x H'->g x (σ++AM k none) H' λ σ2 H2=>tc σ2 H2 λ b H3=>if b=true then te σ2 H3 λ y H4=>H4 D=some (.lst ys)/\ys.length < Au/\∃ m',m' < m/\W (i + 1) m' (ys++[y]) (Aw H4 D (.lst (ys++[y]))) else ∃ m',m' < m/\W (i + 1) m' ys H3)))
  (hRR:∀ D C σ' H' s',s2.heap.objs.size<=C->Inv (AE X s2 H2 scope C N' fp pins) [] σ' H' s'->Q (.ref D) H'->RR (.ref D) C (.ok .next) s')
  :
  As (Aq X.prog X.w) X.A (newList []) (λ acc s₃=>As (Aq X.prog X.w) X.A (K5 scope X.env.globals (CP X.env.cells scope.names []) [] X.env.qual none .none (some X.env)) (λ cenv s₄=>
   EZ (Aq X.prog X.w) X.A (.compStart (.ListComp elt [⟨tg,iter,ifs,0⟩] scope pos) 0 (.ref it) acc { cenv with scope:=Ex scope X.env }) (RR acc cenv.locals) s₄) E s₃) E s2:=by
 refine J8 (Sg ?_);dsimp only;generalize hH2:s2.heap.push { cls:=.type "list",dict:=none,data:=.seq ([]:List Af).toArray }=HP;obtain ⟨h₁,hh₁⟩:∃ h₁,h₁=Kx (HP.push { cls:=.type "dict",data:=.dict #[] }) scope.names:=⟨_,rfl⟩
 rw [<- hh₁];have kk:∀ b o,HP.get? b=some o->h₁.get? b=some o:=λ b o e=>by rw [hh₁];exact K8 _ _ b o (CL _ e)
 have hns₁:h₁.Ns HP.objs.size (λ _=>none):=by rw [hh₁];exact (Heap.Ns.new HP (.type "dict")).keeps (K8 _ _)
 have hC:HP.objs.size=s2.heap.objs.size + 1:=by rw [<- hH2,Ig]
 have hDC:s2.heap.objs.size≠HP.objs.size:=by rw [hC];exact BM (JJ _)
 have hCle:s2.heap.objs.size<=HP.objs.size:=by rw [hC];exact Rk _
 have hfp:∀ b∈fp,b < s2.heap.objs.size:=λ b hb=>by
  obtain ⟨o,e,_⟩:=T.obj 0 _ st b hb;exact Bl e
 have below:∀ b,b < s2.heap.objs.size->b≠HP.objs.size:=λ b hb=>by rw [hC];exact BM (Lv hb)
 have old:∀ b o,s2.heap.get? b=some o->h₁.get? b=some o:=λ b o e=>kk b o (hH2 ▸ CL _ e);have hacc:h₁.get? s2.heap.objs.size=some { cls:=.type "list",dict:=none,data:=.seq ([]:List Af).toArray }:=kk _ _ (hH2 ▸ Ea _ rfl);have fD:H2 s2.heap.objs.size=none:=I.hok.fresh (AS _);obtain ⟨W,⟨m0,w0⟩,hW⟩:=h _ fD;have hok3:HOk X.prog X.w (Aw H2 s2.heap.objs.size (.lst [])) h₁:=I.hok.laid old (AS _) ⟨Gx _,[],0,.nil,hacc⟩;have st1:tn 0 h₁:=T.keep _ _ _ st λ b hb o e=>old b o e;have I3:Inv (AE X s2 H2 scope HP.objs.size N' fp pins) [] (σ++AM k none) (Aw H2 s2.heap.objs.size (.lst [])) { s2 with heap:=h₁ }:=
  c.inv I hf hfp (t':=s2.toks) hDC (AS _) hCle old hns₁ (λ b hb=>AR hb) hok3 (by rw [AR (BF hDC)];exact I.hok.fresh hCle) (by rw [hC];exact JJ _) (λ x a h l=>by
   have hs:(HP.push { cls:=.type "dict",data:=.dict #[] }).objs.size=HP.objs.size + 1:=Ig ..;have h':(CV (HP.push { cls:=.type "dict",data:=.dict #[] }).objs.size scope.names (CP X.env.cells scope.names [])).lookup x=some a:=by rw [hs];exact h
   rcases Me scope.names _ _ x a h' with z | z
   ·exact absurd (Bm (c.old I (Gk _ x a _ [] (c.cells I) (λ z=>nomatch z) z)) (BH hCle (FX l))) (Ed _)
   ·rw [hh₁];exact z)
 have fx:∀ {H':Hp},(∀ b∈fp,H' b=none)->∀ b∈fp,BZ (AE X s2 H2 scope HP.objs.size N' fp pins) [] H' b:=λ hn b hb=>by
  obtain ⟨f0,f1,f2,f3,f4,f5⟩:=hf b hb;refine ⟨hn b hb,BM (Bm (hfp b hb) hCle),λ hz=>?_,.inl hb,λ x a h=>(c.cl I h).elim (λ z=>f4 x a z) λ z=>Fh (Bm (hfp b hb) (BH hCle (FX z.1))),λ p hp=>f5 p (by simpa [AE] using hp)⟩;rcases jb2.mp (I.stkSub b hz) with z | z
  ·exact f1 z
  ·exact f2 z
 have f0:∀ b∈fp,(Aw H2 s2.heap.objs.size (.lst [])) b=none:=λ b hb=>by rw [AR (BM (hfp b hb))];exact (hf b hb).1
 have loop:∀ s₃:Aj,s₃={ s2 with heap:=h₁ } ->
   EZ (Aq X.prog X.w) X.A (.compLoop (.ListComp elt [⟨tg,iter,ifs,0⟩] scope pos) 0 (.ref it) (.ref s2.heap.objs.size) (Ey scope (D4 X scope HP.objs.size) HP.objs.size X.env))
    (RR (.ref s2.heap.objs.size) HP.objs.size) s₃:=by
  rintro s₃ rfl;refine WX (λ n s'=>∃ i H' ys,Inv (AE X s2 H2 scope HP.objs.size N' fp pins) [] (σ++AM k none) H' s'/\tn i s'.heap/\(∀ b∈fp,H' b=none)/\W i n ys H') ?_ m0 ⟨0,_,[],I3,st1,f0,w0⟩;rintro n s4 ⟨i,H4,ys,I4,st4,fr4,w4⟩;obtain ⟨hD4,hcase⟩:=hW i n ys H4 w4;rcases hcase with ⟨stop,qn⟩ | ⟨go,step⟩
  ·refine A3 (T.done (AE X s2 H2 scope HP.objs.size N' fp pins) rfl rfl rfl hcalm i [] s4 _ H4 (λ _ _=>False) I4 (fx fr4) st4 stop) λ r s5 ⟨hr,I5⟩=>?_;subst hr;exact hRR _ _ _ _ _ hCle I5 qn
  ·refine A3 (T.item (AE X s2 H2 scope HP.objs.size N' fp pins) rfl rfl rfl hcalm i [] s4 _ H4 (λ _ _=>False) I4 (fx fr4) st4 go) λ r s5 ⟨u,hr,h5⟩=>?_;subst hr;refine A3 h5 λ _ s6 ⟨x,H6,I6,r6,y6,st6,fr6⟩=>?_;have I6':=I6.pinned (fx fr6) (T.obj _ _ st6);have stays:∀ {σ':St}{H':Hp}{s':Aj},Inv (AE X s2 H2 scope HP.objs.size N' fp pins) ([]++Jp fp s6.heap) σ' H' s'->Inv (AE X s2 H2 scope HP.objs.size N' fp pins) [] (σ++AM k none) H' s'/\tn (i + 1) s'.heap/\∀ b∈fp,H' b=none:=λ {σ' H' s'} J=>by
    refine ⟨c.again I hf J.unpinned,T.keep _ _ _ st6 λ b hb o e=>(J.pin (b,o) (Bj _ (Bj _ (Ja hb e)))).1,λ b hb=>?_⟩;obtain ⟨o,e,d⟩:=T.obj _ _ st6 b hb;exact (J.pin (b,o) (Bj _ (Bj _ (Ja hb e)))).2.1
   refine A3 (hg _ _ _ s6 _ H6 x u _ I6' r6 (step x H6 y6)) λ _ s7 ⟨σ7,H7,I7,q7⟩=>?_;refine A3 (hc _ _ _ s7 σ7 H7 _ I7 q7) λ b s8 ⟨H8,I8,q8⟩=>?_;cases b with
   | false=>
    rw [if_neg BN] at q8 ⊢;obtain ⟨m',hm,w'⟩:=q8;obtain ⟨j1,j2,j3⟩:=stays I8;exact ⟨m',hm,i + 1,H8,ys,j1,j2,j3,w'⟩
   | true=>
    rw [if_pos rfl] at q8 ⊢;refine A3 (he _ _ _ s8 σ7 H8 _ I8 q8) λ y s9 ⟨z,H9,I9,r9,hD9,hz9,m',hm,w'⟩=>?_;refine A3 (Mi (X:=AE X s2 H2 scope HP.objs.size N' fp pins) _ s9 σ7 H9 (.ref s2.heap.objs.size) [z] (.ref s2.heap.objs.size) [y] (λ _ H'=>H'=Aw H9 s2.heap.objs.size (.lst (ys++[z]))) I9 rfl (.cons r9 .nil) ⟨_,ys,z,rfl,rfl,hD9,hz9,rfl⟩) λ _ s10 ⟨_,H10,I10,_,e10⟩=>?_;subst e10;obtain ⟨j1,j2,j3⟩:=stays I10;exact ⟨m',hm,i + 1,_,_,j1,j2,j3,w'⟩
 exact codeAny_compStart_list (loop _ rfl) (T.self _ 0 _ _ _ st1 (loop _ rfl))
def CompOk.out (I:Inv X pins σ H2 s2) (hf:∀ b∈fp,BZ X pins H2 b) {σ':St}{H':Hp}{s':Aj} (J:Inv (AE X s2 H2 scope C N' fp pins) [] σ' H' s'):Inv X pins σ H' s':=
 I.call' (ch:=fp) J.os J.base J.hok J.bare λ b hb=>⟨(hf b hb).2.2.2.1,(hf b hb).2.1,(hf b hb).2.2.2.2.1,(hf b hb).2.2.2.2.2⟩
def CompOk.away (I:Inv X pins σ H2 s2) (hC:s2.heap.objs.size<=C) {σ':St}{H':Hp}{s':Aj} (J:Inv X pins σ' H' s') (hC':H' C=none) {h':Heap} (sb:Fd C s'.heap h'):Inv X pins σ' H' { s' with heap:=h' }:=by
 have lt:∀ b o,s2.heap.get? b=some o->b≠C:=λ b o e=>BM (Bm (Bl e) hC);refine J.turned (t':=s'.toks) (it:=C) (λ b o hb e=>(sb.2 b hb).trans e) hC' (Fh (Bm I.lt hC)) (.inr (BH I.sz hC)) (λ x c h=>?_) λ p hp=>?_
 ·obtain ⟨v,o,ho,_⟩:=I.cell x c h;exact lt c o ho
 ·exact lt p.1 p.2 (I.pin p hp).1
variable {elt iter tg:Expr}{ifs:List Expr}{pos:Pos}{wi:TI}{g:TG}{tc:TT}{te:TE}
def Vb (c:CompOk X scope N' k) (hcalm:X.calm=true) (hi:PI X tg iter wi) (hg:∀ s2 H2 C fp pins,PG (AE X s2 H2 scope C N' fp pins) tg g) (hc:∀ s2 H2 C fp pins,Fl (AE X s2 H2 scope C N' fp pins) ifs tc)
  (he:∀ s2 H2 C fp pins,PE (AE X s2 H2 scope C N' fp pins) elt te) (hs:∀ x,Ij iter X.env x=pure x):PE X (.ListComp elt [⟨tg,iter,ifs,0⟩] scope pos) (GJ k wi g tc te):=by
 intro pins s σ H Q I h;rw [eval_ListComp];refine wpAny_comprehension_free (use:=none) rfl hs (Sr (c.cells I)) c.kind c.names ?_;refine A3 (hi pins s σ H _ I h) λ v s1 h1=>A3 h1 λ itv s2 h2=>?_;obtain ⟨it,fp,tn,J,H',e,I2,T,st2,f2,W⟩:=h2;subst e;refine Si (RR:=λ acc C=>compPost (Aq X.prog X.w) X.A X.xe none (EP X pins σ Q) acc C) c hcalm I2 T st2 f2 (λ C fp=>hg s2 H' C fp pins) (λ C fp=>hc s2 H' C fp pins) (λ C fp=>he s2 H' C fp pins) W λ D C σ' H3 s' hC J3 q=>?_;obtain ⟨m,ns,_⟩:=J3.loc;exact ⟨m,ns,λ h' sb=>⟨.ref D,H3,CompOk.away I2 hC (CompOk.out I2 f2 J3) J3.free sb,rfl,q⟩⟩
theorem jQ {i:Nat}{x:Str}{pos' spos:Pos} (hN:X.N.Nodup) (hi':X.N[i]?=some x) (hx:Ej X.env.scope x) (hfn:X.fn x=true\/X.env.scope.names.lookup x=some .local) (c:CompOk X scope N' k) (hcalm:X.calm=true) (hi:PI X tg iter wi) (hg:∀ s2 H2 C fp pins,PG (AE X s2 H2 scope C N' fp pins) tg g) (hc:∀ s2 H2 C fp pins,Fl (AE X s2 H2 scope C N' fp pins) ifs tc)
  (he:∀ s2 H2 C fp pins,PE (AE X s2 H2 scope C N' fp pins) elt te) (hs:∀ x,Ij iter X.env x=pure x):PS X (.Assign [.Name x pos'] (.ListComp elt [⟨tg,iter,ifs,0⟩] scope pos) spos) (DA (GJ k wi g tc te) (Es i)):=by
 have hsw:∃ b,Ky (.ListComp elt [⟨tg,iter,ifs,0⟩] scope pos) (some (.Name x pos')) spos.line X.env=pure b:=⟨_,rfl⟩
 obtain ⟨b,hsw⟩:=hsw;cases b with
 | false=>exact Kk hN hi' hx (Vb c hcalm hi hg hc he hs) hsw hfn
 | true=>
  intro pins s σ H D I h;rw [exec_Assign_Name_used _ _ _ _ hsw];refine AA (J5 (AA ?_));show As _ X.A (do let _<-M7 (.ListComp elt [⟨tg,iter,ifs,0⟩] scope pos) scope X.env _ (newList []) false (eval iter X.env) (some (EE (.Name x pos') X.env))) _ _ s;refine AA (CA (wpAny_comprehension_free (use:=some (EE (.Name x pos') X.env)) (Q:=λ _ s'=>SP X pins D .next s') rfl hs (Sr (c.cells I)) c.kind c.names ?_) (λ _ s' hq=>Bq (Bq hq)) λ _ _ e=>e);refine A3 (hi pins s σ H _ I h) λ v s1 h1=>A3 h1 λ itv s2 h2=>?_;obtain ⟨it,fp,tn,J,H',e,I2,T,st2,f2,W⟩:=h2;subst e;refine Si (Q:=λ x H1=>Es i x σ H1 D.nx) (RR:=λ acc C=>compPost (Aq X.prog X.w) X.A X.xe (some (EE (.Name x pos') X.env)) (λ _ s'=>SP X pins D .next s') acc C) c hcalm I2 T st2 f2 (λ C fp=>hg s2 H' C fp pins) (λ C fp=>hc s2 H' C fp pins) (λ C fp=>he s2 H' C fp pins) W λ E C σ' H3 s' hC J3 q=>?_;obtain ⟨m,ns,_⟩:=J3.loc;have I3:=CompOk.out I2 f2 J3;show As _ X.A (EE (.Name x pos') X.env (.ref E)) _ _ _;refine Pg (O5 I3 hN hi' hx (v:=.ref E) rfl (λ s'' I4 hsb=>?_) hfn);obtain ⟨a,sb,ha⟩:=hsb;have hCa:C≠a:=by
   rcases ha with z | z
   ·rw [z];exact Fh (Bm I2.lt hC)
   ·obtain ⟨v,o,ho,_⟩:=I2.cell x a z;exact Fh (Bm (Bl ho) hC)
  exact ⟨m,ns.sameBut sb hCa,λ h' sb'=>⟨_,H3,CompOk.away I2 hC I4 J3.free sb',q⟩⟩
def zC {P:A7}{w:A6}{K:Frag}{tg:Expr} (z:Str) (tk:Tok) (it:Addr):Turn P w K tg (WU z) [it] it (λ i h=>h.IsStrIter it "str_ascii_iterator" z tk i) where
 mem:=by simp
 obj:=λ i h st b hb=>by
  have e:b=it:=by simpa using hb
  subst e;obtain ⟨o,e,c,d⟩:=st;exact ⟨o,e,λ v z=>by rw [d] at z;cases z⟩
 keep:=λ i h h' st k=>by
  obtain ⟨o,e,r⟩:=st;exact ⟨o,k it (by simp) o e,r⟩
 item:=by
  intro X hP hw hK hc i pins s σ H E I hf st hg;subst hP hw hK;have hi:i < z.cps.size:=hg;obtain ⟨f0,f1,f2,f3,f4,f5⟩:=hf it (by simp);refine wpAny_pyNext_ascii_item st (c:=z.cps[i]) (by simp [hi]) λ h' st' sb=>?_;have I1:Inv X pins σ H { s with heap:=h',toks:=s.toks + 1 }:=I.turned (t':=s.toks + 1) (λ b o hb e=>(sb.2 b hb).trans e) f0 f1 f3 f4 f5;obtain ⟨o,e,c,d⟩:=id st';exact ⟨_,rfl,Ni (s:={ s with heap:=h',toks:=s.toks + 1 }) e c d (by decide) ⟨.str ⟨#[z.cps[i]]⟩,H,I1,⟨_,rfl⟩,⟨rfl,z.cps[i],by simp [hi],rfl⟩,st',λ b hb=>(hf b hb).1⟩⟩
 done:=by
  intro X hP hw hK hc i pins s σ H E I hf st hg;subst hP hw hK;have hi:z.cps.size<=i:=hg;obtain ⟨f0,f1,f2,f3,f4,f5⟩:=hf it (by simp);exact wpAny_pyNext_ascii_end (I.ok.hd hc) st (by simp;omega) λ h' eb=>⟨rfl,I.turned (t':=s.toks) (λ b o hb e=>eb b o hb e) f0 f1 f3 f4 f5⟩
 self:=λ _ _ _ _ _ st h=>wpAny_pyIter_striter_ascii st h
def YG {l:Expr}{tl:TE} (hl:PE X l tl):PI X tg l (ES X.K tl):=by
 intro pins s σ H R I h;refine A3 (hl pins s σ H _ I h) λ v s1 ⟨x,H1,I1,r1,q1⟩=>?_;obtain ⟨a,e,⟨⟨xs,hq⟩,q⟩ | ⟨⟨xs,hq⟩,q⟩⟩ | ⟨z,e,ha,q⟩:=q1
 ·subst e;cases r1;obtain ⟨its,rv,p,hz⟩:=I1.list hq;refine wpAny_pyIter_list p.isList ?_;refine ⟨s1.heap.objs.size,[s1.heap.objs.size],_,_,H1,rfl,I1.kept (t':=s1.toks) λ b o e=>CL _ e,jC a _,⟨_,Ea _ rfl,rfl,rfl⟩,λ b hb=>?_,q⟩;have e:b=s1.heap.objs.size:=by simpa using hb
  subst e;exact I1.fpOk (AS _) (I1.hok.fresh (AS _))
 ·subst e;cases r1;obtain ⟨its,rv,p,hz⟩:=I1.tuple hq;refine wpAny_pyIter_tuple (show s1.heap.IsTuple a its.toArray from p) ?_;refine ⟨s1.heap.objs.size,[s1.heap.objs.size],_,_,H1,rfl,I1.kept (t':=s1.toks) λ b o e=>CL _ e,jU a _,⟨_,Ea _ rfl,rfl,rfl⟩,λ b hb=>?_,q⟩;have e:b=s1.heap.objs.size:=by simpa using hb
  subst e;exact I1.fpOk (AS _) (I1.hok.fresh (AS _))
 ·subst e;obtain ⟨tk,rfl⟩:=r1;refine wpAny_pyIter_ascii ha ?_;refine ⟨s1.heap.objs.size,[s1.heap.objs.size],_,_,H1,rfl,I1.kept (t':=s1.toks) λ b o e=>CL _ e,zC z tk _,⟨_,Ea _ rfl,rfl,rfl⟩,λ b hb=>?_,q⟩;have e:b=s1.heap.objs.size:=by simpa using hb
  subst e;exact I1.fpOk (AS _) (I1.hok.fresh (AS _))
end
end QQ
namespace L2
open PySem PySem.Spec PyProof.Rows
section
variable {κ:Type} [DecidableEq κ]
def Cq (kvs:List (κ×V)) (k:κ):Option V:=(kvs.find? λ kv=>decide (kv.1=k)).map (·.2)
def BX (kvs:List (κ×V)) (k:κ) (v:V):List (κ×V):=
 if (kvs.any λ kv=>decide (kv.1=k))=true then kvs.map (λ kv=>if kv.1=k then (kv.1,v) else kv) else kvs++[(k,v)]
def Ol {p:κ×V}{r:List (κ×V)}{k:κ} (e:p.1=k):Cq (p::r) k=some p.2:=by simp [Cq,JI,e]
def Oj {p:κ×V}{r:List (κ×V)}{k:κ} (e:¬ p.1=k):Cq (p::r) k=Cq r k:=by simp [Cq,JI,e]
theorem Sy (k:κ):∀ kvs:List (κ×V),(kvs.any λ kv=>decide (kv.1=k))=(Cq kvs k).isSome
 | []=>rfl
 | p::r=>by
  rw [N8];by_cases e:p.1=k
  ·simp only [Ol e,decide_eq_true e,Bool.true_or,W9]
  ·rw [Oj e,decide_eq_false e,IG];exact Sy k r
def Sv (kvs:List (κ×V)) (k:κ) (v:V):(BX kvs k v).length<=kvs.length + 1:=by
 unfold BX;split
 ·rw [Bg];omega
 ·rw [Cd,Cs,Wt];omega
theorem RelO.isSome_eq {o:Option V}{u:Option Af} (r:RelO o u):o.isSome=u.isSome:=by
 cases o with
 | none=>cases u with
  | none=>rfl
  | some _=>exact (show False from r).elim
 | some _=>cases u with
  | none=>exact (show False from r).elim
  | some _=>rfl
theorem KV.val {kvs:List (κ×V)}{vs:List (κ×Af)} (r:KV kvs vs) (k:κ):RelO (Cq kvs k) (valueAt vs k):=by
 unfold KV at r;induction r with
 | nil=>exact True.intro
 | @cons p q ps qs h t ih=>
  obtain ⟨h1,h2⟩:=h;by_cases e:p.1=k
  ·have e':q.1=k:=h1.symm.trans e;have b:valueAt (q::qs) k=some q.2:=by simp [valueAt,JI,e']
   rw [Ol e,b];exact h2
  ·have e':¬ q.1=k:=λ z=>e (h1.trans z);have b:valueAt (q::qs) k=valueAt qs k:=by simp [valueAt,JI,e']
   rw [Oj e,b];exact ih
theorem KV.any {kvs:List (κ×V)}{vs:List (κ×Af)} (r:KV kvs vs) (k:κ):(kvs.any λ kv=>decide (kv.1=k))=vs.any λ kv=>decide (kv.1=k):=by
 unfold KV at r;induction r with
 | nil=>rfl
 | cons h t ih=>rw [N8,N8,ih,h.1]
theorem KV.repl {kvs:List (κ×V)}{vs:List (κ×Af)} (r:KV kvs vs) (k:κ) {y:V}{u:Af} (ry:RelV y u):
  KV (kvs.map λ kv=>if kv.1=k then (kv.1,y) else kv) (vs.map λ kv=>if kv.1=k then (kv.1,u) else kv):=by
 unfold KV at r ⊢;induction r with
 | nil=>exact .nil
 | @cons p q ps qs h t ih=>
  rw [BA,BA];refine .cons ?_ ih;obtain ⟨h1,h2⟩:=h;by_cases e:p.1=k
  ·rw [if_pos e,if_pos (h1.symm.trans e)];exact ⟨h1,ry⟩
  ·rw [if_neg e,if_neg (λ z=>e (h1.trans z))];exact ⟨h1,h2⟩
def KV.put {kvs:List (κ×V)}{vs:List (κ×Af)} (r:KV kvs vs) (k:κ) {y:V}{u:Af} (ry:RelV y u):KV (BX kvs k y) (stored vs k u):=by
 unfold BX stored;rw [r.any k];by_cases e:(vs.any λ kv=>decide (kv.1=k))=true
 ·rw [if_pos e,if_pos e];exact r.repl k ry
 ·rw [if_neg e,if_neg e];exact Paired.snoc r ⟨rfl,ry⟩
def KV.length {kvs:List (κ×V)}{vs:List (κ×Af)} (r:KV kvs vs):kvs.length=vs.length:=Paired.length r
end
theorem Nl {P:A7}{w:A6}{k:AV}{u:Af} (r:RelV (kV k) u):(D0 P w).is k u=true:=by
 cases k with
 | inl i=>obtain ⟨t,e⟩:=(show ∃ t,u=Value.int i t from r);subst e;exact Xc P w i t
 | inr x=>obtain ⟨t,e⟩:=(show ∃ t,u=Value.str x t from r);subst e;exact Xd P w x t
theorem SR {P:A7}{w:A6}:∀ {ks:List AV}{us:List Af},Vals (ks.map kV) us->ItemsAre (D0 P w) ks us
 | [],_,r=>by rw [HG] at r;cases r;exact .nil
 | k::ks,_,r=>by
  rw [BA] at r;cases r with
  | cons h t=>exact .cons (Nl h) (SR t)
abbrev KT (H:Hp):List (List AV×V)->List (List AV×Addr×Af)->Prop:=Paired λ p q=>p.1=q.1/\H q.2.1=some (.tup (p.1.map kV))/\RelV p.2 q.2.2
theorem KT.val {H:Hp}{kvs:List (List AV×V)}{xs:List (List AV×Addr×Af)} (r:KT H kvs xs) (k:List AV):RelO (Cq kvs k) ((atKey xs k).map (·.2)):=by
 induction r with
 | nil=>exact True.intro
 | @cons p q ps qs h t ih=>
  obtain ⟨h1,_,h2⟩:=h;by_cases e:p.1=k
  ·have e':q.1=k:=h1.symm.trans e;have b:atKey (q::qs) k=some q.2:=by simp [atKey,JI,e']
   rw [Ol e,b];exact h2
  ·have e':¬ q.1=k:=λ z=>e (h1.trans z);have b:atKey (q::qs) k=atKey qs k:=by simp [atKey,JI,e']
   rw [Oj e,b];exact ih
theorem KT.repl {H:Hp}{kvs:List (List AV×V)}{xs:List (List AV×Addr×Af)} (r:KT H kvs xs) (k:List AV) {y:V}{u:Af} (ry:RelV y u):
  KT H (kvs.map λ kv=>if kv.1=k then (kv.1,y) else kv) (xs.map (putAt k u)):=by
 induction r with
 | nil=>exact .nil
 | @cons p q ps qs h t ih=>
  rw [BA,BA];refine .cons ?_ ih;obtain ⟨h1,h2,h3⟩:=h;unfold putAt;by_cases e:p.1=k
  ·rw [if_pos e,if_pos (h1.symm.trans e)];exact ⟨h1,h2,ry⟩
  ·rw [if_neg e,if_neg (λ z=>e (h1.trans z))];exact ⟨h1,h2,h3⟩
def KT.put {H:Hp}{kvs:List (List AV×V)}{xs:List (List AV×Addr×Af)} (r:KT H kvs xs) (k:List AV) {b:Addr}{y:V}{u:Af} (hb:H b=some (.tup (k.map kV))) (ry:RelV y u):
  KT H (BX kvs k y) (storedH xs k b u):=by
 have e:(kvs.any λ kv=>decide (kv.1=k))=(atKey xs k).isSome:=by
  rw [Sy,(r.val k).isSome_eq,Rt]
 unfold BX storedH;rw [e];by_cases q:(atKey xs k).isSome=true
 ·rw [if_pos q,if_pos q];exact r.repl k ry
 ·rw [if_neg q,if_neg q];exact Paired.snoc r ⟨rfl,hb,ry⟩
def KT.keeps {H H':Hp}{kvs:List (List AV×V)}{xs:List (List AV×Addr×Af)} (r:KT H kvs xs) (ht:∀ b ys,H b=some (.tup ys)->H' b=some (.tup ys)):KT H' kvs xs:=
 Paired.mapP r λ _ _ z=>⟨z.1,ht _ _ z.2.1,z.2.2⟩
section
variable {P:A7}{w:A6}{H:Hp}{h:Heap}{a:Addr}
def TV {u:HO} (ok:HOk P w H h) (e:Rd H a u):zwl P w H h a u:=e.ok ok
def Ql {kvs:List (AV×V)} (ok:HOk P w H h) (e:Rd H a (.dK kvs)):kvs.length<=Au/\(a == FJ)=false/\∃ vs,KV kvs vs/\h.DictOf (D0 P w) a vs:=
 show zwl P w H h a (.dK kvs) from TV ok e
def JD {kvs:List (AV×V)} (ok:HOk P w H h) (e:H a=some (.dK kvs)):kvs.length<=Au/\(a == FJ)=false/\∃ vs,KV kvs vs/\h.DictOf (D0 P w) a vs:=Ql ok (.inl e)
def Np {ks:List AV} (ok:HOk P w H h) (e:H a=some (.tup (ks.map kV))):(Kz (D0 P w)).is h ks a:=by
 obtain ⟨_,its,r,o,h1,h2,n,h3⟩:=(show zwl P w H h a (.tup (ks.map kV)) from ok a _ e)
 exact ⟨o,its.toArray,n,h1,h2,h3,by simpa using SR r⟩
def Qm {kvs:List (List AV×V)} (ok:HOk P w H h) (e:Rd H a (.dT kvs)):kvs.length<=Au/\(a == FJ)=false /\
  ∃ xs,KT H kvs xs/\h.DictOfH (Kz (D0 P w)) a xs:=by
 obtain ⟨z,y,xs,r,o,es,ep,h1,h2,h3,h4,h5⟩:=(show zwl P w H h a (.dT kvs) from TV ok e)
 refine ⟨z,y,xs,r,o,es,ep,h1,h2,h3,h4,λ x hx=>?_,h5⟩;have all:∀ {l:List (List AV×V)}{m:List (List AV×Addr×Af)},KT H l m->∀ x∈m,(Kz (D0 P w)).is h x.1 x.2.1:=by
  intro l m q;induction q with
  | nil=>intro x hx;exact nomatch hx
  | @cons p q ps qs hq t ih=>
   intro x hx;rcases jb2.mp hx with e | hx
   ·subst e;exact Np ok (by rw [<- hq.1];exact hq.2.1)
   ·exact ih x hx
 exact all r x hx
def Xv {kvs:List (List AV×V)} (ok:HOk P w H h) (e:H a=some (.dT kvs)):kvs.length<=Au/\(a == FJ)=false /\
  ∃ xs,KT H kvs xs/\h.DictOfH (Kz (D0 P w)) a xs:=Qm ok (.inl e)
end
def DGet (H:Hp) (a:Addr) (y:V) (r:Option V):Prop:=
 (∃ kvs k,Rd H a (.dK kvs)/\y=kV k/\r=Cq kvs k)\/∃ kvs k b,Rd H a (.dT kvs)/\y=.ref b/\H b=some (.tup (k.map kV))/\r=Cq kvs k
def DPut (H:Hp) (a:Addr) (y v:V) (H':Hp):Prop:=
 (∃ kvs k,H a=some (.dK kvs)/\y=kV k/\kvs.length < Au/\H'=Aw H a (.dK (BX kvs k v))) \/
 ∃ kvs k b,H a=some (.dT kvs)/\y=.ref b/\H b=some (.tup (k.map kV))/\kvs.length < Au/\H'=Aw H a (.dT (BX kvs k v))
def DGet.t {H:Hp}{a b:Addr}{kvs:List (List AV×V)}{k:List AV} (e:H a=some (.dT kvs)) (eb:H b=some (.tup (k.map kV))):DGet H a (.ref b) (Cq kvs k):=.inr ⟨kvs,k,b,.inl e,rfl,eb,rfl⟩
def DPut.t {H:Hp}{a b:Addr}{kvs:List (List AV×V)}{k:List AV}{v:V} (e:H a=some (.dT kvs)) (eb:H b=some (.tup (k.map kV))) (hl:kvs.length < Au):
  DPut H a (.ref b) v (Aw H a (.dT (BX kvs k v))):=.inr ⟨kvs,k,b,e,rfl,eb,hl,rfl⟩
section
variable {X:Cx}{pins:List (Addr×Obj)}{σ:St}{H:Hp}{s:Aj}{a:Addr}{y v:V}{u r:Af}{o:Option V}{A:AZ}{E:Af->Aj->Prop}
def Inv.big (I:Inv X pins σ H s):FJ < s.heap.objs.size:=by
 have h:DM < s.heap.objs.size:=(I.mod.glob.keeps I.bk).lt;exact N6 (by decide) h
def RO {Q:Af->Aj->Prop} (hu:A.units + 1 < Cn) (I:Inv X pins σ H s) (g:DGet H a y o) (ry:RelV y u) (h:∀ s',Inv X pins σ H s'->Q (.bool o.isSome) s'):
  As (Aq X.prog X.w) A (BU .In u (.ref a)) Q E s:=by
 rcases g with ⟨kvs,k,e,ey,l⟩ | ⟨kvs,k,b,e,ey,eb,l⟩
 ·subst ey;obtain ⟨z,hd,vs,rel,dd⟩:=Ql I.hok e;refine wpAny_in_of (Nl ry) hd dd.mapOf ?_;rw [<- (rel.val k).isSome_eq,<- l];exact h _ (I.tok _)
 ·subst ey;cases (show u=Value.ref b from ry);obtain ⟨z,hd,xs,rel,dd⟩:=Qm I.hok e;refine wpAny_in_heap (Pk hu) (Np I.hok eb) hd dd ?_;have q:=(rel.val k).isSome_eq;rw [Rt] at q;rw [<- q,<- l];exact h _ (I.tok _)
def ZO {Q:Af->Aj->Prop} (hu:A.units + 1 < Cn) (I:Inv X pins σ H s) (g:DGet H a y o) (ry:RelV y u) (h:∀ s',Inv X pins σ H s'->Q (.bool (!o.isSome)) s'):
  As (Aq X.prog X.w) A (BU .NotIn u (.ref a)) Q E s:=by
 rcases g with ⟨kvs,k,e,ey,l⟩ | ⟨kvs,k,b,e,ey,eb,l⟩
 ·subst ey;obtain ⟨z,hd,vs,rel,dd⟩:=Ql I.hok e;refine wpAny_notIn_of (Nl ry) hd dd.mapOf ?_;rw [<- (rel.val k).isSome_eq,<- l];exact h _ (I.tok _)
 ·subst ey;cases (show u=Value.ref b from ry);obtain ⟨z,hd,xs,rel,dd⟩:=Qm I.hok e;refine wpAny_notIn_heap (Pk hu) (Np I.hok eb) hd dd ?_;have q:=(rel.val k).isSome_eq;rw [Rt] at q;rw [<- q,<- l];exact h _ (I.tok _)
def UK {h':Heap}{t':Nat}{ob:HO} (I:Inv X pins σ H s) (mu:LB (H a)) (hs:Fd a s.heap h') (he:∃ q,h'.get? a=some q) (new:zwl X.prog X.w (Aw H a ob) h' a ob):
  Inv X pins σ (Aw H a ob) { s with heap:=h',toks:=t' }:=
 I.write (x:=a) (e:=a) mu (.inl rfl) (λ b q hb z=>(hs.2 b hb).trans z) he new
def Yk {P:A7}{w:A6}{H':Hp}{h':Heap}{kvs:List (AV×V)}{vs:List (AV×Af)} (z:kvs.length<=Au) (hd:(a == FJ)=false) (rel:KV kvs vs) (dd:h'.DictOf (D0 P w) a vs):
  zwl P w H' h' a (.dK kvs):=⟨z,hd,vs,rel,dd⟩
def jb {H':Hp}{Q:Unit->Aj->Prop} (hu:A.units + 1 < Cn) (I:Inv X pins σ H s) (g:DPut H a y v H') (ry:RelV y u) (rv:RelV v r) (h:∀ s',Inv X pins σ H' s'->Q () s'):
  As (Aq X.prog X.w) A (setItem (.ref a) u r) Q E s:=by
 rcases g with ⟨kvs,k,e,ey,l,eH⟩ | ⟨kvs,k,b,e,ey,eb,l,eH⟩
 ·subst ey eH;obtain ⟨z,hd,vs,rel,dd⟩:=JD I.hok e;have hz:vs.length<=Au:=by rw [<- rel.length];exact z
  have hl:(BX kvs k v).length<=Au:=by have:=Sv kvs k v;omega
  refine wpAny_setItem_pairs (hsz:=hz) (Nl ry) dd λ h' dd' hs=>h _ ?_;have he:∃ q,h'.get? a=some q:=let ⟨q,_,_,hq,_⟩:=dd';⟨q,hq⟩;exact UK I (by rw [e];exact True.intro) hs he (Yk hl hd (rel.put k rv) dd')
 ·subst ey eH;cases (show u=Value.ref b from ry);obtain ⟨z,hd,xs,rel,dd⟩:=Xv I.hok e;have hz:xs.length<=Au:=by rw [<- Paired.length rel];exact z
  have hl:(BX kvs k v).length<=Au:=by have:=Sv kvs k v;omega
  refine wpAny_setItem_heap (hsz:=hz) (Pk hu) (Np I.hok eb) dd λ h' dd' hs=>h _ ?_;obtain ⟨q,es,ep,hq,h2,h3,h4,_,h5⟩:=dd';refine UK I (by rw [e];exact True.intro) hs ⟨q,hq⟩ ⟨hl,hd,_,(rel.put k eb rv).keeps λ c ys ec=>?_,q,es,ep,hq,h2,h3,h4,h5⟩;rw [AR (X8 ec e (λ z=>nomatch z))];exact ec
end
section
variable {X:Cx}{pins:List (Addr×Obj)}{σ:St}{H:Hp}{s:Aj}{a:Addr}{kvs:List (AV×V)}{k:AV}{u:Af}{A:AZ}{E:Af->Aj->Prop}
end
section
variable {X:Cx}{o i e value:Expr}{pos pos' tpos:Pos}{td ty tv:TE}
end
def xU {P:A7}{w:A6}{H:Hp} (h:Heap) (hb:FJ < h.objs.size):zwl P w H (h.push { cls:=.type "dict",data:=.dict #[] }) h.objs.size (.dT []):=
 ⟨Gx _,beq_eq_false_iff_ne.mpr (BF (BM hb)),[],.nil,_,#[],0,Ea _ rfl,⟨rfl,rfl,rfl⟩,rfl,rfl,List.nodup_nil⟩
def Zm:TE:=λ _ H Q=>∀ p,H p=none->Q (.ref p) (Aw H p (.dT []))
section
variable {X:Cx}{pos:Pos}
def zj:PE X (.Dict [] [] pos) Zm:=λ pins s σ H Q I h=>
 wpAny_Dict_empty ⟨.ref s.heap.objs.size,_,I.laid (a:=s.heap.objs.size) (o:=.dT []) (t':=s.toks) (λ _ _ q=>CL _ q) (AS _) (xU s.heap I.big),rfl,h _ (I.hok.fresh (AS _))⟩
end
end L2
namespace QQ
open PySem PySem.Spec PyProof.Rows L2
section
variable {M:Fm}{vs:List Nat}{H:Hp}{fps:AI}{F:List Addr}{Q:VK}
def D3 {k:Int}{d:Nat} (h:Bf M H fps vs F (.int k) d Q):Q (.int k) H:=h (.int k) H [] (λ _ _ h=>h) (by rw [Own];exact ⟨rfl,rfl⟩) (λ _ z=>nomatch z)
def Dz {k:Bool}{d:Nat} (h:Bf M H fps vs F (.bl k) d Q):Q (.bl k) H:=h (.bl k) H [] (λ _ _ h=>h) (by rw [Own];exact ⟨rfl,rfl⟩) (λ _ z=>nomatch z)
def Jh {k:Str}{d:Nat} (h:Bf M H fps vs F (.str k) d Q):Q (.str k) H:=h (.str k) H [] (λ _ _ h=>h) (by rw [Own];exact ⟨rfl,rfl⟩) (λ _ z=>nomatch z)
def Jj {x:PV}{v:V} (h:Bf M H fps vs F x (dv x) Q) (o:Own M.K H (Zv M vs fps) x 0 v []):Q v H:=h v H [] (λ _ _ h=>h) (o.dv.weak λ a z=>z.elim id λ z=>nomatch z) (λ _ z=>nomatch z)
def Em {p:Addr}{o:HO} (hp:H p=none):∀ a u,H a=some u->Aw H p o a=some u:=λ a u h=>by rw [AR (λ e=>by rw [e,hp] at h;cases h)];exact h
def O2 {xs:List PV}{ws:List V} (h:Bf M H fps vs F (.lst xs) 1 Q) (o:OwnL M.K H (Zv M vs fps) xs 0 ws []) {p:Addr} (hp:H p=none):Q (.ref p) (Aw H p (.lst ws)):=by
 refine h (.ref p) _ [p] (Em hp) ?_ λ a ha=>.inr (by rw [jc0.mp ha];exact hp);rw [Own];refine ⟨p,ws,rfl,.inr ⟨(by decide),[],BS,rfl,(λ z=>nomatch z),?_⟩⟩;rw [Nq];exact OwnL.move (S:=λ _=>False) (λ a u ha _=>Em hp a u ha) (λ _ z=>z.elim) (λ a hd nz z=>z.elim nz λ z=>hd (by rw [jc0.mp z];exact hp)) xs 0 ws [] (λ _ z=>nomatch z) o
def atoms:List PV->Bool
 | []=>true
 | x::xs=>Hx x && atoms xs
def JE:PV->Bool
 | .tup xs=>atoms xs
 | x=>Hx x
def GR:List PV->Bool
 | []=>true
 | x::xs=>JE x && GR xs
def d1 (xs:List PV):Nat:=if GR xs=true then om else 1
theorem OwnL.ats {K:Frag}{H:Hp}{Z Z':Addr->Prop}:∀ {xs:List PV}{ws:List V}{d d':Nat},QQ.atoms xs=true->OwnL K H Z xs d' ws []->OwnL K H Z' xs d ws []
 | [],ws,d,_,_,h=>by rw [OwnL] at h ⊢;exact h
 | x::xs,ws,d,_,ha,h=>by
  unfold QQ.atoms at ha;rw [AF] at ha;rw [OwnL] at h ⊢;obtain ⟨v,s,f1,f2,rfl,ef,dj,h1,h2⟩:=h;obtain ⟨rfl,rfl⟩:f1=[]/\f2=[]:=by simpa using ef.symm
  exact ⟨v,s,[],[],rfl,rfl,dj,(Own.atom ha.1 h1).2,h2.ats ha.2⟩
theorem Own.flat {K:Frag}{H:Hp}{Z Z':Addr->Prop}{x:PV}{v:V}{d d':Nat} (hx:JE x=true) (h:Own K H Z x d' v []):Own K H Z' x d v []:=by
 cases x with
 | tup xs=>
  rw [Own] at h ⊢;obtain ⟨a,vs,e,ha,hl⟩:=h;exact ⟨a,vs,e,ha,hl.ats hx⟩
 | lst _=>cases hx
 | dct _=>cases hx
 | exn _=>exact (Own.atom rfl h).2
 | emp=>exact (Own.atom rfl h).2
 | dko=>exact (Own.atom rfl h).2
 | scr _=>exact (Own.atom rfl h).2
 | non=>exact (Own.atom rfl h).2
 | bl _=>exact (Own.atom rfl h).2
 | int _=>exact (Own.atom rfl h).2
 | str _=>exact (Own.atom rfl h).2
theorem OwnL.ats0 {K:Frag}{H:Hp}{Z:Addr->Prop}:∀ {xs:List PV}{ws:List V}{d:Nat}{f:List Addr},QQ.atoms xs=true->OwnL K H Z xs d ws f->f=[]
 | [],ws,d,f,_,h=>by rw [OwnL] at h;exact h.2
 | x::xs,ws,d,f,ha,h=>by
  unfold QQ.atoms at ha;rw [AF] at ha;rw [OwnL] at h;obtain ⟨v,s,f1,f2,rfl,rfl,dj,h1,h2⟩:=h;rw [(Own.atom (Z':=Z) (d':=d) ha.1 h1).1,h2.ats0 ha.2];rfl
def Own.flatA {K:Frag}{H:Hp}{Z Z':Addr->Prop}{x:PV}{v:V}{d d':Nat}{f:List Addr} (hx:JE x=true) (h:Own K H Z x d v f):f=[]/\Own K H Z' x d' v []:=by
 have e:f=[]:=by
  cases x with
  | tup xs=>
   rw [Own] at h;obtain ⟨a,vs,e,ha,hl⟩:=h;exact hl.ats0 hx
  | lst _=>cases hx
  | dct _=>cases hx
  | exn _=>exact (Own.atom (Z':=Z) (d':=d) rfl h).1
  | emp=>exact (Own.atom (Z':=Z) (d':=d) rfl h).1
  | dko=>exact (Own.atom (Z':=Z) (d':=d) rfl h).1
  | scr _=>exact (Own.atom (Z':=Z) (d':=d) rfl h).1
  | non=>exact (Own.atom (Z':=Z) (d':=d) rfl h).1
  | bl _=>exact (Own.atom (Z':=Z) (d':=d) rfl h).1
  | int _=>exact (Own.atom (Z':=Z) (d':=d) rfl h).1
  | str _=>exact (Own.atom (Z':=Z) (d':=d) rfl h).1
 subst e;exact ⟨rfl,h.flat hx⟩
theorem OwnL.atoms {K:Frag}{H:Hp}{Z Z':Addr->Prop}:∀ {xs:List PV}{ws:List V}{d:Nat},GR xs=true->OwnL K H Z xs 0 ws []->OwnL K H Z' xs d ws []
 | [],ws,d,_,h=>by rw [OwnL] at h ⊢;exact h
 | x::xs,ws,d,ha,h=>by
  unfold GR at ha;rw [AF] at ha;rw [OwnL] at h ⊢;obtain ⟨v,s,f1,f2,rfl,ef,dj,h1,h2⟩:=h;obtain ⟨rfl,rfl⟩:f1=[]/\f2=[]:=by simpa using ef.symm
  exact ⟨v,s,[],[],rfl,rfl,dj,h1.flat ha.1,h2.atoms ha.2⟩
def HL {xs:List PV}{ws:List V} (h:Bf M H fps vs F (.lst xs) (d1 xs) Q) (o:OwnL M.K H (Zv M vs fps) xs 0 ws []) {p:Addr} (hp:H p=none):Q (.ref p) (Aw H p (.lst ws)):=by
 unfold d1 at h;split at h
 ·rename_i ha;refine h (.ref p) _ [p] (Em hp) ?_ λ a ha=>.inr (by rw [jc0.mp ha];exact hp);rw [Own];refine ⟨p,ws,rfl,.inr ⟨(by decide),[],BS,rfl,(λ z=>nomatch z),?_⟩⟩;have o':OwnL M.K (Aw H p (.lst ws)) (Zv M vs fps) xs 0 ws []:=OwnL.move (S:=λ _=>False) (λ a u ha _=>Em hp a u ha) (λ _ z=>z.elim) (λ _ _ n=>n) xs 0 ws [] (λ _ z=>nomatch z) o;exact o'.atoms ha
 ·exact O2 h o hp
def LL {xs:List PV}{ws:List V} (h:Bf M H fps vs F (.tup xs) 0 Q) (o:OwnL M.K H (Zv M vs fps) xs 0 ws []) {p:Addr} (hp:H p=none):Q (.ref p) (Aw H p (.tup ws)):=by
 refine h (.ref p) _ [] (Em hp) ?_ λ a ha=>nomatch ha
 rw [Own];refine ⟨p,ws,rfl,BS,?_⟩;rw [qo];exact OwnL.move (S:=λ _=>False) (λ a u ha _=>Em hp a u ha) (λ _ z=>z.elim) (λ a hd nz z=>z.elim nz λ z=>nomatch z) xs 0 ws [] (λ _ z=>nomatch z) o
def Od {xs:List PV}{ws:List V} (h:Bf M H fps vs F (.lst xs) om Q) {Z:Addr->Prop} (o:OwnL M.K H Z xs om ws F) {p:Addr} (hp:H p=none):Q (.ref p) (Aw H p (.lst ws)):=by
 refine h (.ref p) _ (p::F) (Em hp) ?_ λ a ha=>(jb2.mp ha).elim (λ e=>.inr (by rw [e];exact hp)) .inl;rw [Own];refine ⟨p,ws,rfl,.inr ⟨(by decide),F,BS,rfl,λ z=>?_,?_⟩⟩
 ·obtain ⟨ys,e⟩:=OwnL.lsts xs om ws F o p z;rw [hp] at e;cases e
 ·exact OwnL.full xs ws F (OwnL.move (S:=λ _=>False) (Z':=Z) (λ a u ha _=>Em hp a u ha) (λ _ z=>z.elim) (λ _ _ n=>n) xs om ws F (λ _ _ z=>z) o)
def j7 {xs:List PV}{ws:List V} (h:Bf M H fps vs F (.tup xs) om Q) {Z:Addr->Prop} (o:OwnL M.K H Z xs om ws F) {p:Addr} (hp:H p=none):Q (.ref p) (Aw H p (.tup ws)):=by
 refine h (.ref p) _ F (Em hp) ?_ λ a ha=>.inl ha;rw [Own];exact ⟨p,ws,rfl,BS,OwnL.full xs ws F (OwnL.move (S:=λ _=>False) (Z':=Z) (λ a u ha _=>Em hp a u ha) (λ _ z=>z.elim) (λ _ _ n=>n) xs om ws F (λ _ _ z=>z) o)⟩
end
def Own.seqL {K:Frag}{H:Hp}{Z:Addr->Prop}{xs:List PV}{d:Nat}{v:V}{fp:List Addr} (h:Own K H Z (.lst xs) d v fp):∃ a ws,v=.ref a/\Cf K H a ws/\ws.length=xs.length:=by
 rw [Own] at h;obtain ⟨a,ws,e,⟨_,hr,_,ol⟩ | ⟨_,f,ha,_,_,ol⟩⟩:=h
 ·exact ⟨a,ws,e,.inl (.inl hr.1),ol.length⟩
 ·exact ⟨a,ws,e,.inl (.inl ha),ol.length⟩
def Own.seqT {K:Frag}{H:Hp}{Z:Addr->Prop}{xs:List PV}{d:Nat}{v:V}{fp:List Addr} (h:Own K H Z (.tup xs) d v fp):∃ a ws,v=.ref a/\Dc K H a ws/\ws.length=xs.length:=by
 rw [Own] at h;obtain ⟨a,ws,e,hr,ol⟩:=h;exact ⟨a,ws,e,.inl (.inl hr),ol.length⟩
def Own.coldL {K:Frag}{H:Hp}{Z:Addr->Prop}{xs:List PV}{v:V} (h:Own K H Z (.lst xs) 0 v []):∃ a ws,v=.ref a/\H a=some (.lst ws)/\OwnL K H Z xs 0 ws []:=by
 rw [Own] at h;obtain ⟨a,ws,e,⟨_,hr,_,ol⟩ | ⟨h,_⟩⟩:=h
 ·exact ⟨a,ws,e,hr.1,ol⟩
 ·exact absurd rfl h
def Own.coldT {K:Frag}{H:Hp}{Z:Addr->Prop}{xs:List PV}{v:V} (h:Own K H Z (.tup xs) 0 v []):∃ a ws,v=.ref a/\H a=some (.tup ws)/\OwnL K H Z xs 0 ws []:=by
 rw [Own] at h;exact h
theorem OwnL.app {K:Frag}{H:Hp}{Z:Addr->Prop}:∀ {xs ys:List PV}{ws us:List V},OwnL K H Z xs 0 ws []->OwnL K H Z ys 0 us []->OwnL K H Z (xs++ys) 0 (ws++us) []
 | [],ys,ws,us,h,h'=>by rw [OwnL] at h;obtain ⟨rfl,_⟩:=h;exact h'
 | x::xs,ys,ws,us,h,h'=>by
  rw [OwnL] at h;obtain ⟨v,s,f1,f2,rfl,ef,dj,h1,h2⟩:=h;obtain ⟨rfl,rfl⟩:f1=[]/\f2=[]:=by simpa using ef.symm
  show OwnL K H Z (x::(xs++ys)) 0 (v::(s++us)) [];rw [OwnL];exact ⟨v,s++us,[],[],rfl,rfl,λ _ z=>(nomatch z),h1,h2.app h'⟩
theorem OwnL.drop {K:Frag}{H:Hp}{Z:Addr->Prop}:∀ {xs:List PV}{ws:List V} (n:Nat),OwnL K H Z xs 0 ws []->OwnL K H Z (xs.drop n) 0 (ws.drop n) []
 | xs,ws,0,h=>h
 | [],ws,n + 1,h=>by rw [OwnL] at h;obtain ⟨rfl,_⟩:=h;rw [Wn,Wn,OwnL];exact ⟨rfl,rfl⟩
 | x::xs,ws,n + 1,h=>by
  rw [OwnL] at h;obtain ⟨v,s,f1,f2,rfl,ef,dj,h1,h2⟩:=h;obtain ⟨rfl,rfl⟩:f1=[]/\f2=[]:=by simpa using ef.symm
  exact h2.drop n
theorem OwnL.take {K:Frag}{H:Hp}{Z:Addr->Prop}:∀ {xs:List PV}{ws:List V} (n:Nat),OwnL K H Z xs 0 ws []->OwnL K H Z (xs.take n) 0 (ws.take n) []
 | xs,ws,0,h=>by rw [Rp,Rp,OwnL];exact ⟨rfl,rfl⟩
 | [],ws,n + 1,h=>by rw [OwnL] at h;obtain ⟨rfl,_⟩:=h;rw [Ro,Ro,OwnL];exact ⟨rfl,rfl⟩
 | x::xs,ws,n + 1,h=>by
  rw [OwnL] at h;obtain ⟨v,s,f1,f2,rfl,ef,dj,h1,h2⟩:=h;obtain ⟨rfl,rfl⟩:f1=[]/\f2=[]:=by simpa using ef.symm
  rw [Rx,Rx,OwnL];exact ⟨v,s.take n,[],[],rfl,rfl,λ _ z=>(nomatch z),h1,h2.take n⟩
def OwnL.nth {K:Frag}{H:Hp}{Z:Addr->Prop}{xs:List PV}{ws:List V}{j:Nat}{x:PV} (h:OwnL K H Z xs 0 ws []) (e:xs[j]?=some x):∃ w,ws[j]?=some w/\Own K H Z x 0 w []:=by
 have hj:j < ws.length:=by rw [h.length];exact (ja6.mp e).1
 obtain ⟨y,e1,e2⟩:=h.get (i:=j) (w:=ws[j]) (by simp [hj]);rw [e] at e1;cases e1;exact ⟨_,by simp [hj],e2⟩
def cold {M:Fm}{vs:List Nat}{H:Hp}{fps:AI}{x:PV}{d:Nat}{v:V}{fp:List Addr} (o:Own M.K H (Zt M vs fps fp) x d v fp) (hf:∀ a∈fp,¬ Zf M fps a):Own M.K H (Zv M vs fps) x 0 v []:=
 Own.freeze (λ _ z=>.inl z) x d v fp (λ a ha z=>hf a ha z.zf) o
def A1:PV->Nat->PV->Nat->Option (PV×Nat)
 | .int i,_,.int j,_=>some (.int (i + j),om)
 | .lst xs,_,.lst ys,_=>if xs.length + ys.length<=Au then some (.lst (xs++ys),d1 (xs++ys)) else none
 | .tup xs,_,.tup ys,_=>if xs.length + ys.length<=Au then some (.tup (xs++ys),0) else none
 | .str x,_,.str y,_=>if x.length + y.length<=Au then some (.str (x++y),om) else none
 | _,_,_,_=>none
def JB (p:Int->Int->Bool) (g:Int->Int->Int):PV->Nat->PV->Nat->Option (PV×Nat)
 | .int i,_,.int j,_=>if p i j then some (.int (g i j),om) else none
 | _,_,_,_=>none
def FQ (i j:Int):Bool:=(decide (-(2 ^ 64) < i) && decide (i < 2 ^ 64)) || (decide (-(2 ^ 64) < j) && decide (j < 2 ^ 64))
def FT (_ j:Int):Bool:=decide (0 < j) && decide (j < 2 ^ 128)
def Hb (_ j:Int):Bool:=decide (0 < j)
def ID (i j:Int):Bool:=decide (0<=j) && decide (j<=1000) && decide (i.natAbs < 2 ^ 64)
def CD:=JB (λ _ _=>true) (λ i j=>i - j)
def FO (n:Nat) (xs:List PV):List PV:=(AM n xs).flatten
def DB (x:Str) (n:Nat):Str:=⟨(AM n x.cps.toList).flatten.toArray⟩
def Co:PV->Nat->PV->Nat->Option (PV×Nat)
 | .str x,_,.int n,_=>if -(2 ^ 62)<=n/\n < 2 ^ 62/\x.length * n.toNat<=Au then some (.str (DB x n.toNat),om) else none
 | .int i,_,.int j,_=>if FQ i j then some (.int (i * j),om) else none
 | .lst xs,_,.int k,_=>if 0<=k/\k < 2 ^ 62/\xs.length * k.toNat<=Au then some (.lst (FO k.toNat xs),d1 (FO k.toNat xs)) else none
 | _,_,_,_=>none
def EY:=JB FT (λ i j=>i / j)
def Az:=JB Hb (λ i j=>i % j)
def Nd:=JB ID (λ i j=>i ^ j.toNat)
section
variable {X:Cx}
def zb:OpR X (DX .FloorDiv) (rI (λ _ j=>0 < j/\j < 2 ^ 128) λ i j=>.int (i / j)):=Lk λ i j _ _ _ _ _ hc q=>by
 have h1:(0:Int) < j:=hc.1;have h2:j < 2 ^ 128:=hc.2;refine floordiv_int (by omega) (by rw [Int.fdiv_eq_ediv_of_nonneg i (by omega)];exact q) (.inl (PyProof.noPylong_of_log2 ?_));have h3:j.natAbs < 2 ^ 128:=by omega
 have h4:j.natAbs≠0:=by omega
 have:=(Nat.log2_lt h4).mpr h3
 omega
end
def Bc {X:Cx}{e:Expr}{t t':TE} (h:PE X e t) (i:∀ σ H Q,t' σ H Q->t σ H Q):PE X e t':=λ pins s σ H Q I q=>h pins s σ H Q I (i σ H Q q)
def Kl {X:Cx}{e:Expr}{t t':TT} (h:PT X e t) (i:∀ σ H Q,t' σ H Q->t σ H Q):PT X e t':=λ pins s σ H Q I q=>h pins s σ H Q I (i σ H Q q)
def U9 {X:Cx}{e:Expr}{t t':TT} (h:PW X e t) (i:∀ σ H Q,t' σ H Q->t σ H Q):PW X e t':=λ wh pins s σ H Q I q=>h wh pins s σ H Q I (i σ H Q q)
def Uu {X:Cx}{e:List Expr}{t t':TA} (h:PA X e t) (i:∀ σ H Q,t' σ H Q->t σ H Q):PA X e t':=λ p pins s σ H Q I q=>h p pins s σ H Q I (i σ H Q q)
def CQ {X:Cx}{e:Stmt}{t t':TS} (h:PS X e t) (i:∀ D σ H,t' D σ H->t D σ H):PS X e t':=λ pins s σ H D I q=>h pins s σ H D I (i D σ H q)
def Ke {X:Cx}{e:List Stmt}{t t':TS} (h:DH X e t) (i:∀ D σ H,t' D σ H->t D σ H):DH X e t':=λ pins s σ H D I q=>h pins s σ H D I (i D σ H q)
section
variable {X:Cx}{M:Fm}{a b:Expr}{f g:Fx}{vs vs':List Nat}{pos:Pos}{σ:St}{H:Hp}{Q:VK}
def qgu:OpR X (DX .Add) (λ x y H Q=>∃ a b ys,x=.ref a/\y=.ref b/\Dc X.K H a []/\Dc X.K H b ys/\Q (.ref b) H):=by
 intro pins s σ H x y v u Q I rx ry h;obtain ⟨a,b,ys,rfl,rfl,ha,hb,q⟩:=h;cases rx;cases ry;obtain ⟨its,r1,p1,_⟩:=I.tuple ha;obtain ⟨its2,r2,p2,_⟩:=I.tuple hb;cases r1;obtain ⟨⟨cls,dd,data,sl⟩,ho,hc,n,hd⟩:=id p1;obtain ⟨⟨cls2,dd2,data2,sl2⟩,ho2,hc2,n2,hd2⟩:=id p2;simp only at hc hd hc2 hd2;subst hc hd hc2 hd2;exact concat_meets ⟨_,ho,rfl⟩ ⟨_,ho2,rfl⟩ OX seq_tuple_add Pw Py (PB _ _)
  (tuple_addW0 a b _ its2.toArray n n2 dd dd2 sl sl2 rfl) ⟨ho,ho2,⟨.ref b,H,I,rfl,q⟩⟩
theorem YY (hv:∀ i∈vs,M.Ms i=false) (hK:M.K=X.K) (ha:PE X a (tE M f vs)) (hb:PE X b (tE M g vs')):PE X (.BinOp a .Add b pos) (tE M (Ab A1 f g) (vs++vs')):=by
 refine Bc (Nh (qn0.or (qih.or (qkk.or (qgu.or jN)))) ha hb) λ σ H Q h=>DL hv (λ x d y e z c v w H fps f1 f2 Q ho o1 o2 dj nz zd lf=>?_) h;cases x with
 | int i=>
  cases y with
  | int j=>
   cases ho;rw [Own] at o1 o2;exact .inl ⟨i,j,o1.1,o2.1,D3 lf⟩
  | _=>cases ho
 | lst xs=>
  cases y with
  | lst ys=>
   dsimp only [A1] at ho;split at ho
   ·rename_i hl;cases ho;obtain ⟨p,ws,rfl,hp,ol⟩:=(cold o1 λ a ha=>nz a (BC _ ha)).coldL;obtain ⟨p2,us,rfl,hp2,ol2⟩:=(cold o2 λ a ha=>nz a (Bj _ ha)).coldL;exact .inr (.inl ⟨p,p2,ws,us,rfl,rfl,hp,hp2,by rw [ol.length,ol2.length];exact hl,λ q hq=>HL lf (ol.app ol2) hq⟩)
   ·cases ho
  | _=>cases ho
 | tup xs=>
  cases y with
  | tup ys=>
   dsimp only [A1] at ho;split at ho
   ·rename_i hl;cases ho;obtain ⟨p,ws,rfl,hp,ol⟩:=(cold o1 λ a ha=>nz a (BC _ ha)).coldT;obtain ⟨p2,us,rfl,hp2,ol2⟩:=(cold o2 λ a ha=>nz a (Bj _ ha)).coldT;by_cases hw:ws=[]
    ·subst hw;refine .inr (.inr (.inr (.inl ⟨p,p2,us,rfl,rfl,.inl (.inl hp),.inl (.inl hp2),?_⟩)));have ex:xs=[]:=by
      have:=ol.length
      cases xs with
      | nil=>rfl
      | cons _ _=>simp at this
     subst ex;exact Jj (x:=.tup ys) lf (by rw [Own];exact ⟨p2,us,rfl,hp2,ol2⟩)
    ·refine .inr (.inr (.inl ⟨p,p2,ws,us,rfl,rfl,.inl (.inl hp),.inl (.inl hp2),hw,by rw [ol.length,ol2.length];exact hl,λ hu=>?_,λ hu q hq=>LL lf (ol.app ol2) hq⟩));subst hu;have ey:ys=[]:=by
      have:=ol2.length
      cases ys with
      | nil=>rfl
      | cons _ _=>simp at this
     subst ey;rw [Ls] at lf;exact Jj (x:=.tup xs) lf (by rw [Own];exact ⟨p,ws,rfl,hp,ol⟩)
   ·cases ho
  | _=>cases ho
 | str i=>
  cases y with
  | str j=>
   dsimp only [A1] at ho;split at ho
   ·rename_i hl;cases ho;rw [Own] at o1 o2;exact .inr (.inr (.inr (.inr ⟨i,j,o1.1,o2.1,hl,Jh lf⟩)))
   ·cases ho
  | _=>cases ho
 | _=>cases ho
def Q2:PV->Nat->PV->Nat->Option (PV×Nat)
 | .lst xs,_,.lst ys,e=>if xs.length + ys.length<=Au then some (.lst (xs++ys),if GR xs=true/\e=om then om else d1 (xs++ys)) else none
 | _,_,_,_=>none
theorem OwnL.appF {K:Frag}{H:Hp}{Z:Addr->Prop}{ys:List PV}{us:List V}{fc:List Addr} (h':OwnL K H Z ys om us fc):∀ {xs:List PV}{ws:List V},OwnL K H Z xs om ws []->OwnL K H Z (xs++ys) om (ws++us) fc
 | [],ws,h=>by rw [OwnL] at h;obtain ⟨rfl,_⟩:=h;exact h'
 | x::xs,ws,h=>by
  rw [OwnL] at h;obtain ⟨v,s,f1,f2,rfl,ef,dj,h1,h2⟩:=h;obtain ⟨rfl,rfl⟩:f1=[]/\f2=[]:=by simpa using ef.symm
  show OwnL K H Z (x::(xs++ys)) om (v::(s++us)) fc;rw [OwnL];exact ⟨v,s++us,[],fc,rfl,rfl,λ _ z=>(nomatch z),h1,OwnL.appF h' h2⟩
theorem qE (hv:∀ i∈vs,M.Ms i=false) (hK:M.K=X.K) (ha:PE X a (tE M f vs)) (hb:PE X b (tE M g vs')):PE X (.BinOp a .Add b pos) (tE M (Ab Q2 f g) (vs++vs')):=by
 refine Bc (Nh qih ha hb) λ σ H Q h=>DL hv (λ x d y e z c v w H fps f1 f2 Q ho o1 o2 dj nz zd lf=>?_) h;cases x with
 | lst xs=>
  cases y with
  | lst ys=>
   dsimp only [Q2] at ho;split at ho
   ·rename_i hl;cases ho;obtain ⟨p,ws,rfl,hp,ol⟩:=(cold o1 λ a ha=>nz a (BC _ ha)).coldL;split at lf
    ·rename_i hc;obtain ⟨ht,rfl⟩:=hc;obtain ⟨p2,us,fc,rfl,hp2,ef,na,ol2⟩:=o2.list (by decide);refine ⟨p,p2,ws,us,rfl,rfl,hp,hp2,by rw [ol.length,ol2.length];exact hl,λ q hq=>?_⟩;have lf':Bf M H fps (vs++vs') fc (.lst (xs++ys)) om Q:=λ u H' fp h1 h2 h3=>lf u H' fp h1 h2 λ a ha=>(h3 a ha).elim (λ z=>.inl (Bj _ (by rw [ef];exact AU _ z))) .inr;exact Od lf' (OwnL.appF ol2 (ol.atoms ht)) hq
    ·obtain ⟨p2,us,rfl,hp2,ol2⟩:=(cold o2 λ a ha=>nz a (Bj _ ha)).coldL;exact ⟨p,p2,ws,us,rfl,rfl,hp,hp2,by rw [ol.length,ol2.length];exact hl,λ q hq=>HL lf (ol.app ol2) hq⟩
   ·cases ho
  | _=>cases ho
 | _=>cases ho
theorem Nv {op:Operator}{p:Int->Int->Bool}{k:Int->Int->Int}{C:Int->Int->Prop} (hop:OpR X (DX op) (rI C λ i j=>.int (k i j))) (hC:∀ i j,p i j=true->C i j) (hv:∀ i∈vs,M.Ms i=false) (ha:PE X a (tE M f vs)) (hb:PE X b (tE M g vs')):
  PE X (.BinOp a op b pos) (tE M (Ab (JB p k) f g) (vs++vs')):=by
 refine Bc (Nh hop ha hb) λ σ H Q h=>DL hv (λ x d y e z c v w H fps f1 f2 Q ho o1 o2 dj nz zd lf=>?_) h;cases x with
 | int i=>
  cases y with
  | int j=>
   dsimp only [JB] at ho;split at ho
   ·rename_i hp;cases ho;rw [Own] at o1 o2;exact ⟨i,j,o1.1,o2.1,hC i j hp,D3 lf⟩
   ·cases ho
  | _=>cases ho
 | _=>cases ho
theorem OwnL.rep {K:Frag}{H:Hp}{Z:Addr->Prop}{xs:List PV}{ws:List V} (h:OwnL K H Z xs 0 ws []):∀ n,OwnL K H Z (FO n xs) 0 (AM n ws).flatten []
 | 0=>by
  unfold FO;rw [WC,WC,W3,W3,OwnL];exact ⟨rfl,rfl⟩
 | n + 1=>by
  have:=h.rep n
  unfold FO at this ⊢;rw [Hg,Hg,IH,IH];exact h.app this
def qj:OpR X (DX .Sub) (rI (λ _ _=>True) λ i j=>.int (i - j)):=Lk λ _ _ _ _ _ _ _ _ q=>sub_int q
def RS {i j:Int} (h:FQ i j=true):CMul i j:=by
 unfold FQ at h;simp only [Ee,AF,decide_eq_true_eq] at h;exact h
theorem O4 (a:Array Nat):∀ (n:Nat) (b:Array Nat),(AM n a).foldl (·++·) b=⟨b.toList++(AM n a.toList).flatten⟩
 | 0,b=>by simp
 | n + 1,b=>by
  rw [Hg,Wv,O4 a n,Hg,IH];simp
def jO:OpR X (DX .Mult) (λ x y H Q=>∃ z n,x=.str z/\y=.int n/\-(2 ^ 62)<=n/\n < 2 ^ 62/\z.length * n.toNat<=Au/\Q (.str (DB z n.toNat)) H):=by
 intro pins s σ H x y v u Q I rx ry h;obtain ⟨z,n,rfl,rfl,h1,h2,h3,q⟩:=h;obtain ⟨t1,rfl⟩:=rx;obtain ⟨t2,rfl⟩:=ry;have hz:MB (z.length * n.toNat)=false:=by
  unfold MB;have h40:Au<=2 ^ 40:=by decide
  exact decide_eq_false (by omega)
 refine PySem.P.mul_str (by rw [decide_eq_false (by omega),decide_eq_false (by omega)];rfl) (λ _ _ hc=>?_) (λ _ _=>hz) ?_
 ·have hn:(1:Int)<=n:=by omega
  have hl:z.length * n.toNat<=2 ^ 62:=BH h3 (by decide);have h4:(z.length:Int) * n<=2 ^ 62:=by
   have:((z.length * n.toNat:Nat):Int)<=((2 ^ 62:Nat):Int):=Int.ofNat_le.mpr hl
   rw [Int.natCast_mul,show ((n.toNat:Nat):Int)=n by omega] at this;exact this
  have h5:(2 ^ 63 - 1) / n < (z.length:Int):=hc;have h6:=Int.lt_mul_of_ediv_lt (by omega:(0:Int) < n) h5;omega
 ·by_cases c1:n < 1
  ·rw [if_pos c1];refine ⟨by decide,.str (DB z n.toNat),H,I.tok _,⟨s.toks,?_⟩,q⟩;rw [show n.toNat=0 by omega];rfl
  ·rw [if_neg c1];split
   ·rename_i c2;refine ⟨.str (DB z n.toNat),H,I,⟨t1,?_⟩,q⟩;have e:DB z n.toNat=z:=by
     unfold DB;rcases Ee _ _ ▸ c2 with c | c
     ·have:n=1:=by simpa using c
      subst this;show (⟨([z.cps.toList].flatten).toArray⟩:Str)=z;simp
     ·have e0:z.cps.toList=[]:=by
       have:z.cps.size=0:=eq_of_beq c
       exact jk7.mpr (WJ this)
      rw [e0]
      have:(AM n.toNat ([]:List Nat)).flatten=[]:=by simp
      rw [this];cases z with
      | mk a=>simp at e0;subst e0;rfl
    rw [e]
   ·refine ⟨?_,.str (DB z n.toNat),H,I.tok _,⟨s.toks,?_⟩,q⟩
    ·rw [O4];show (#[].toList++(AM n.toNat z.cps.toList).flatten).length<=Au;simp only [Lr,Cd,List.length_flatten,List.map_replicate,List.sum_replicate_nat];have h4:n.toNat * z.cps.size<=Au:=by rw [Wk];exact h3
     simpa using h4
    ·unfold DB;rw [O4];simp
theorem Zi (hv:∀ i∈vs,M.Ms i=false) (ha:PE X a (tE M f vs)) (hb:PE X b (tE M g vs')):PE X (.BinOp a .Mult b pos) (tE M (Ab Co f g) (vs++vs')):=by
 refine Bc (Nh (qnp.or (qnm.or jO)) ha hb) λ σ H Q h=>DL hv (λ x d y e z c v w H fps f1 f2 Q ho o1 o2 dj nz zd lf=>?_) h;cases x with
 | int i=>
  cases y with
  | int j=>
   dsimp only [Co] at ho;split at ho
   ·rename_i hp;cases ho;rw [Own] at o1 o2;exact .inl ⟨i,j,o1.1,o2.1,RS hp,D3 lf⟩
   ·cases ho
  | _=>cases ho
 | lst xs=>
  cases y with
  | int k=>
   dsimp only [Co] at ho;split at ho
   ·rename_i hl;cases ho;obtain ⟨p,ws,rfl,hp,ol⟩:=(cold o1 λ a ha=>nz a (BC _ ha)).coldL;rw [Own] at o2;exact .inr (.inl ⟨p,k,ws,rfl,o2.1,hp,by omega,by omega,by rw [ol.length];exact hl.2.2,λ q hq=>HL lf (ol.rep k.toNat) hq⟩)
   ·cases ho
  | _=>cases ho
 | str z=>
  cases y with
  | int k=>
   dsimp only [Co] at ho;split at ho
   ·rename_i hl;cases ho;rw [Own] at o1;rw [Own] at o2;exact .inr (.inr ⟨z,k,o1.1,o2.1,hl.1,hl.2.1,hl.2.2,Jh lf⟩)
   ·cases ho
  | _=>cases ho
 | _=>cases ho
def RV {i j:Int} (h:FT i j=true):0 < j/\j < 2 ^ 128:=by
 unfold FT at h;simp only [AF,decide_eq_true_eq] at h;exact h
def RU {i j:Int} (h:Hb i j=true):0 < j:=by
 unfold Hb at h;simpa using h
def RQ {i j:Int} (h:ID i j=true):LG i j:=by
 unfold ID at h;simp only [AF,decide_eq_true_eq] at h;exact ⟨h.1.1,by omega,h.2⟩
def Cp:PV->Nat->Option (PV×Nat)
 | .int i,_=>some (.int (-i),om)
 | _,_=>none
theorem Zj (ha:PE X a (tE M f vs)):PE X (.UnaryOp .USub a pos) (tE M (Ap Cp f) vs):=by
 refine Bc (XF ZR ha) λ σ H Q h=>JC (λ x d z c v H fps f1 Q ho o1 nz zd lf=>?_) h;cases x with
 | int i=>cases ho;rw [Own] at o1;exact ⟨i,o1.1,D3 lf⟩
 | _=>cases ho
def Be (p:Int->Int->Bool):PV->Nat->PV->Nat->Option (PV×Nat)
 | .int i,_,.int j,_=>some (.bl (p i j),om)
 | _,_,_,_=>none
theorem LJ {p:Int->Int->Bool}{x y z:PV}{d e c:Nat}{v w:V}{fps:AI}{f1 f2 F:List Addr}{Z Z':Addr->Prop} (ho:Be p x d y e=some (z,c)) (o1:Own M.K H Z x d v f1) (o2:Own M.K H Z' y e w f2) (lf:Bf M H fps vs F z c Q):Fe (λ i j=>.bl (p i j)) v w H Q:=by
 cases x with
 | int i=>
  cases y with
  | int j=>
   cases ho;rw [Own] at o1 o2;exact ⟨i,j,o1.1,o2.1,Dz lf⟩
  | _=>cases ho
 | _=>cases ho
def sV:PV->Option V
 | .non=>some .non
 | .bl b=>some (.bl b)
 | .int i=>some (.int i)
 | .str x=>some (.str x)
 | _=>none
def Bz (f:PV->Option Ew):List PV->Option (List Ew)
 | []=>some []
 | x::xs=>match f x,Bz f xs with
  | some a,some r=>some (a::r)
  | _,_=>none
def BP:Nat->PV->Option Ew
 | 0,_=>none
 | n + 1,x=>match x with
  | .non=>some .none
  | .bl b=>some (.bool b)
  | .int i=>some (.int i)
  | .str z=>if K3 z=true then some (.str z) else none
  | .lst xs=>(Bz (BP n) xs).map .list
  | .tup xs=>(Bz (BP n) xs).map .tuple
  | _=>none
def E8 (f:PV->PV->Bool):List PV->List PV->Bool
 | [],[]=>true
 | x::xs,y::ys=>f x y && E8 f xs ys
 | _,_=>false
def FC:Nat->PV->PV->Bool
 | 0,_,_=>false
 | n + 1,x,y=>match x,y with
  | .non,.non=>true
  | .bl a,.bl b=>a == b
  | .int a,.int b=>a == b
  | .str a,.str b=>a == b
  | .emp,.emp=>true
  | .lst xs,.lst ys=>E8 (FC n) xs ys
  | .tup xs,.tup ys=>E8 (FC n) xs ys
  | _,_=>false
def Ak (neg:Bool) (x:PV) (_:Nat) (y:PV) (_:Nat):Option (PV×Nat):=match BP 20 x,BP 20 y with
 | some a,some b=>some (.bl (neg^^EH a b),om)
 | _,_=>match x,y with
  | .lst xs,.lst ys=>if E8 (FC 20) xs ys=true then some (.bl (neg^^true),om) else if xs.length≠ys.length then some (.bl (neg^^false),om) else none
  | .str a,.str b=>some (.bl (neg^^(a == b)),om)
  | .emp,.emp=>some (.bl (neg^^true),om)
  | .tup xs,.tup ys=>if E8 (FC 20) xs ys=true then some (.bl (neg^^true),om) else none
  | _,_=>none
theorem Ka {f:PV->Option Ew}{n:Nat} (hf:∀ x D,f x=some D->D.canLay0=true/\D.depth<=n):∀ {xs:List PV}{Ds:List Ew},Bz f xs=some Ds->Pc Ds=true/\Ii Ds<=n
 | [],Ds,h=>by cases h;rw [Pc,Ii];exact ⟨rfl,Gx _⟩
 | x::xs,Ds,h=>by
  unfold Bz at h;split at h
  ·rename_i a r h1 h2;cases h;have h3:=hf x a h1;have h4:=Ka hf h2;rw [Pc,Ii,h3.1,h4.1];exact ⟨rfl,Nat.max_le.mpr ⟨h3.2,h4.2⟩⟩
  ·cases h
theorem Fp:∀ (n:Nat) (x:PV) (D:Ew),BP n x=some D->D.canLay0=true/\D.depth<=n
 | 0,_,_,h=>by cases h
 | n + 1,x,D,h=>by
  unfold BP at h;cases x with
  | non=>cases h;rw [J6,PyData.depth] <;> first | exact ⟨rfl,Gx _⟩ | (intros;contradiction)
  | bl b=>cases h;rw [J6,PyData.depth] <;> first | exact ⟨rfl,Gx _⟩ | (intros;contradiction)
  | int i=>cases h;rw [J6,PyData.depth] <;> first | exact ⟨rfl,Gx _⟩ | (intros;contradiction)
  | str z=>
   dsimp only at h;split at h
   ·rename_i hz;cases h;rw [J6,PyData.depth] <;> first | exact ⟨hz,Gx _⟩ | (intros;contradiction)
   ·cases h
  | lst xs=>
   obtain ⟨Ds,e,rfl⟩:=ja5.mp h
   have:=Ka (Fp n) e
   rw [J6,PyData.depth];exact ⟨this.1,W2 this.2⟩
  | tup xs=>
   obtain ⟨Ds,e,rfl⟩:=ja5.mp h
   have:=Ka (Fp n) e
   rw [J6,PyData.depth];exact ⟨this.1,W2 this.2⟩
  | emp=>cases h
  | dko=>cases h
  | scr ns=>cases h
  | dct _=>cases h
  | exn _=>cases h
theorem Gg {pins:List (Addr×Obj)}{s:Aj}{Z:Addr->Prop} (I:L2.Inv X pins σ H s):∀ (n:Nat) (x:PV) (d:Nat) (v:V) (fp:List Addr) (u:Af) (D:Ew),BP n x=some D->Own X.K H Z x d v fp->RelV v u->∃ as,Reads s.heap u D as
 | 0,_,_,_,_,_,_,h,_,_=>by cases h
 | n + 1,x,d,v,fp,u,D,h,o,r=>by
  have all:∀ (xs:List PV) (d:Nat) (ws:List V) (fp:List Addr) (us:List Af) (Ds:List Ew),Bz (BP n) xs=some Ds->OwnL X.K H Z xs d ws fp->Vals ws us->∃ as,ReadsAll s.heap us Ds as:=λ xs=>by
   induction xs with
   | nil=>
    intro d ws fp us Ds h o r;cases h;rw [OwnL] at o;obtain ⟨rfl,_⟩:=o;cases r;exact ⟨_,.nil⟩
   | cons y ys ih=>
    intro d ws fp us Ds h o r;unfold Bz at h;split at h
    ·rename_i a rr h1 h2;cases h;rw [OwnL] at o;obtain ⟨v,s,f1,f2,rfl,_,_,o1,o2⟩:=o;cases r with
     | cons r1 r2=>
      obtain ⟨as,ra⟩:=Gg I n y d v f1 _ a h1 o1 r1;obtain ⟨bs,rb⟩:=ih d s f2 _ rr h2 o2 r2;exact ⟨_,.cons ra rb⟩
    ·cases h
  unfold BP at h;cases x with
  | non=>cases h;rw [Own] at o;obtain ⟨rfl,_⟩:=o;cases r;exact ⟨_,.none⟩
  | bl b=>cases h;rw [Own] at o;obtain ⟨rfl,_⟩:=o;cases r;exact ⟨_,.bool b⟩
  | int i=>cases h;rw [Own] at o;obtain ⟨rfl,_⟩:=o;obtain ⟨t,rfl⟩:=r;exact ⟨_,.int i t⟩
  | str z=>
   dsimp only at h;split at h
   ·cases h;rw [Own] at o;obtain ⟨rfl,_⟩:=o;obtain ⟨t,rfl⟩:=r;exact ⟨_,.str z t⟩
   ·cases h
  | lst xs=>
   obtain ⟨Ds,e,rfl⟩:=ja5.mp h;have hh:∃ a ws d' f,v=.ref a/\H a=some (.lst ws)/\OwnL X.K H Z xs d' ws f:=by
    rw [Own] at o;obtain ⟨a,ws,ev,⟨_,hr,_,ol⟩ | ⟨_,f,ha,_,_,ol⟩⟩:=o
    ·exact ⟨a,ws,_,_,ev,hr.1,ol⟩
    ·exact ⟨a,ws,_,_,ev,ha,ol⟩
   obtain ⟨a,ws,d',f,rfl,ha,ol⟩:=hh;cases r;obtain ⟨its,rv,⟨ob,nn,e1,e2,e3,e4⟩,_⟩:=I.list (.inl (.inl ha));obtain ⟨as,ra⟩:=all xs d' ws f its Ds e ol rv;exact ⟨_,.list e1 e2 e4 ra⟩
  | tup xs=>
   obtain ⟨Ds,e,rfl⟩:=ja5.mp h;rw [Own] at o;obtain ⟨a,ws,rfl,ha,ol⟩:=o;cases r;obtain ⟨its,rv,⟨ob,e1,e2,nn,e4⟩,_⟩:=I.tuple (.inl (.inl ha));obtain ⟨as,ra⟩:=all xs _ ws fp its Ds e ol rv;exact ⟨_,.tuple e1 e2 e4 ra⟩
  | emp=>cases h
  | dko=>cases h
  | scr ns=>cases h
  | dct _=>cases h
  | exn _=>cases h
def Jk {K':Type} [DecidableEq K'] {prog:A7}{w:A6}{knd:KeyKind prog w K'}{P:A7}{w0:A6}{h:Heap}{a:Addr} (x:h.DictOf (D0 P w0) a []):h.DictOf knd a []:=by
 obtain ⟨o,es,ep,h1,h2,h3,h4,h5,h6⟩:=x;generalize hes:es.toList=l at h5;cases h5;have e:es=#[]:=jk7.mp hes;subst e;exact ⟨o,#[],ep,h1,h2,h3,by intro z hz;simp at hz,.nil,.nil⟩
def Ym {pins:List (Addr×Obj)}{s:Aj} (I:L2.Inv X pins σ H s) {a b:Addr}{A:AZ} (ha:H a=some (.dK [])) (hb:H b=some (.dK [])) (hu:A.units < Cn):SeqAt.EqAt A s (.ref a) (.ref b) true:=by
 by_cases e:a=b
 ·subst e;exact K6 _
 ·refine Pj e λ prog w E Q hq=>?_;obtain ⟨_,z1,vs,k1,d1⟩:=JD I.hok ha;obtain ⟨_,z2,ws,k2,d2⟩:=JD I.hok hb;cases k1;cases k2;exact PySem.W.keq_eq (knd:=D0 prog w) (r:=true) z1 z2 (Jk d1) (Jk d2) hu (λ _=>.nil) (by simpa using hq)
def HM {Z:Addr->Prop}{xs:List PV}{d:Nat}{v:V}{fp:List Addr}{K:Frag} (o:Own K H Z (.lst xs) d v fp):∃ a ws d' f,v=.ref a/\H a=some (.lst ws)/\OwnL K H Z xs d' ws f:=by
 rw [Own] at o;obtain ⟨a,ws,ev,⟨_,hr,_,ol⟩ | ⟨_,f,ha,_,_,ol⟩⟩:=o
 ·exact ⟨a,ws,_,_,ev,hr.1,ol⟩
 ·exact ⟨a,ws,_,_,ev,ha,ol⟩
def Mh {n:Nat}{e:Nat->Bool} (h:∀ j,j < n->e j=true):(Bw n).all e=true:=jb4.mpr λ j hj=>h j (jd0.mp hj)
theorem Vz {pins:List (Addr×Obj)}{s:Aj}{Z Z':Addr->Prop} (I:L2.Inv X pins σ H s):∀ (n:Nat) (x y:PV) (d e:Nat) (v w:V) (f1 f2:List Addr) (u u':Af) (A:AZ),A.units + n < Cn->FC n x y=true->Own X.K H Z x d v f1->Own X.K H Z' y e w f2->RelV v u->RelV w u'->SeqAt.EqAt A s u u' true
 | 0,_,_,_,_,_,_,_,_,_,_,_,_,h,_,_,_,_=>by cases h
 | n + 1,x,y,d,e,v,w,f1,f2,u,u',A,hu,h,o1,o2,r1,r2=>by
  have all:∀ (xs ys:List PV) (d e:Nat) (vs ws:List V) (f1 f2:List Addr) (us us':List Af),E8 (FC n) xs ys=true->OwnL X.K H Z xs d vs f1->OwnL X.K H Z' ys e ws f2->Vals vs us->Vals ws us'->us.length=us'.length/\∀ j (h1:j < us.length) (h2:j < us'.length),SeqAt.EqAt A.in1 s us[j] us'[j] true:=λ xs=>by
   induction xs with
   | nil=>
    intro ys d e vs ws f1 f2 us us' h o1 o2 r1 r2;cases ys with
    | cons _ _=>cases h
    | nil=>
     rw [OwnL] at o1 o2;obtain ⟨rfl,_⟩:=o1;obtain ⟨rfl,_⟩:=o2;cases r1;cases r2;exact ⟨rfl,λ j h1 _=>nomatch h1⟩
   | cons x xs ih=>
    intro ys d e vs ws f1 f2 us us' h o1 o2 r1 r2;cases ys with
    | nil=>cases h
    | cons y ys=>
     unfold E8 at h;rw [AF] at h;rw [OwnL] at o1 o2;obtain ⟨_,_,g1,g2,rfl,_,_,p1,p2⟩:=o1;obtain ⟨_,_,k1,k2,rfl,_,_,q1,q2⟩:=o2;cases r1 with
     | cons a1 a2=>
      cases r2 with
      | cons b1 b2=>
       have t:=ih ys d e _ _ g2 k2 _ _ h.2 p2 q2 a2 b2;refine ⟨congrArg (·+ 1) t.1,λ j h1 h2=>?_⟩;cases j with
       | zero=>exact Vz I n x y d e _ _ g1 k1 _ _ A.in1 (by have e:A.in1.units=A.units + 1:=rfl;omega) h.1 p1 q1 a1 b1
       | succ j=>exact t.2 j (NJ h1) (NJ h2)
  cases x with
  | non=>cases y <;> first | (cases h;done) | (rw [Own] at o1 o2;obtain ⟨rfl,_⟩:=o1;obtain ⟨rfl,_⟩:=o2;cases r1;cases r2;exact K6 _)
  | bl b=>cases y <;> first | (cases h;done) | (rw [Own] at o1 o2;obtain ⟨rfl,_⟩:=o1;obtain ⟨rfl,_⟩:=o2;cases r1;cases r2;have e:=eq_of_beq (show (b == _)=true from h);subst e;exact K6 _)
  | int i=>cases y <;> first | (cases h;done) | (rw [Own] at o1 o2;obtain ⟨rfl,_⟩:=o1;obtain ⟨rfl,_⟩:=o2;obtain ⟨t,rfl⟩:=r1;obtain ⟨t',rfl⟩:=r2;have e:=eq_of_beq (show (i == _)=true from h);subst e;have z:=SeqAt.EqAt.int_int (A:=A) (s:=s) i t i t';rwa [beq_self_eq_true] at z)
  | str i=>cases y <;> first | (cases h;done) | (rw [Own] at o1 o2;obtain ⟨rfl,_⟩:=o1;obtain ⟨rfl,_⟩:=o2;obtain ⟨t,rfl⟩:=r1;obtain ⟨t',rfl⟩:=r2;have e:=eq_of_beq (show (i == _)=true from h);subst e;have z:=SeqAt.EqAt.str_str (A:=A) (s:=s) i t i t';rwa [beq_self_eq_true] at z)
  | emp=>cases y <;> first | (cases h;done) | (rw [Own] at o1 o2;obtain ⟨_,a,rfl,ha⟩:=o1;obtain ⟨_,b,rfl,hb⟩:=o2;cases r1;cases r2;exact Ym I ha hb (by omega))
  | dko=>cases h
  | lst xs=>
   cases y with
   | lst ys=>
    obtain ⟨a,ws,d',f,rfl,ha,ol⟩:=HM o1;obtain ⟨b,ws',e',f',rfl,hb,ol'⟩:=HM o2;cases r1;cases r2;obtain ⟨its,rv,p,_⟩:=I.list (.inl (.inl ha));obtain ⟨its',rv',p',_⟩:=I.list (.inl (.inl hb));have t:=all xs ys d' e' ws ws' f f' its its' h ol ol' rv rv';obtain ⟨ob,nn,e1,e2,e3,e4⟩:=p;obtain ⟨ob',nn',e1',e2',e3',e4'⟩:=p';by_cases e:a=b
    ·subst e;exact K6 _
    ·refine Pj e ?_;have z:=SeqAt.RcAt.lists (A:=A) (s:=s) (l:=a) (b:=b) (items:=its.toArray) (items2:=its'.toArray) (e:=λ _=>true) ⟨ob,e1,e2,nn,e4⟩ ⟨ob',e1',e2',nn',e4'⟩ (by simpa using t.1) (by omega) (λ j h1 h2=>by simpa using t.2 j (by simpa using h1) (by simpa using h2));rwa [Mh λ _ _=>rfl] at z
   | _=>cases h
  | tup xs=>
   cases y with
   | tup ys=>
    rw [Own] at o1 o2;obtain ⟨a,ws,rfl,ha,ol⟩:=o1;obtain ⟨b,ws',rfl,hb,ol'⟩:=o2;cases r1;cases r2;obtain ⟨its,rv,⟨ob,e1,e2,nn,e4⟩,_⟩:=I.tuple (.inl (.inl ha));obtain ⟨its',rv',⟨ob',e1',e2',nn',e4'⟩,_⟩:=I.tuple (.inl (.inl hb));have t:=all xs ys _ _ ws ws' _ _ its its' h ol ol' rv rv';by_cases e:a=b
    ·subst e;exact K6 _
    ·refine Pj e ?_;have z:=SeqAt.RcAt.tuples (A:=A) (s:=s) (l:=a) (b:=b) (items:=its.toArray) (items2:=its'.toArray) (e:=λ _=>true) ⟨ob,e1,e2,nn,e4⟩ ⟨ob',e1',e2',nn',e4'⟩ (by omega) (λ j h1 h2=>by simpa using t.2 j (by simpa using h1) (by simpa using h2));have z2:((its.toArray.size == its'.toArray.size):Bool)=true:=by simpa using t.1
     rwa [Mh λ _ _=>rfl,z2] at z
   | _=>cases h
  | scr ns=>cases y <;> cases h
  | dct _=>cases y <;> cases h
  | exn _=>cases y <;> cases h
theorem VQ {pins:List (Addr×Obj)}{s:Aj}{Z Z':Addr->Prop} (I:L2.Inv X pins σ H s) {A:AZ} (hu:A.units + 64 < Cn):∀ (xs ys:List PV) (d e:Nat) (vs ws:List V) (f1 f2:List Addr) (us us':List Af),E8 (FC 20) xs ys=true->OwnL X.K H Z xs d vs f1->OwnL X.K H Z' ys e ws f2->Vals vs us->Vals ws us'->us.length=us'.length/\∀ j (h1:j < us.length) (h2:j < us'.length),SeqAt.EqAt A.in1 s us[j] us'[j] true:=λ xs=>by
 induction xs with
 | nil=>
  intro ys d e vs ws f1 f2 us us' h o1 o2 r1 r2;cases ys with
  | cons _ _=>cases h
  | nil=>
   rw [OwnL] at o1 o2;obtain ⟨rfl,_⟩:=o1;obtain ⟨rfl,_⟩:=o2;cases r1;cases r2;exact ⟨rfl,λ j h1 _=>nomatch h1⟩
 | cons x xs ih=>
  intro ys d e vs ws f1 f2 us us' h o1 o2 r1 r2;cases ys with
  | nil=>cases h
  | cons y ys=>
   unfold E8 at h;rw [AF] at h;rw [OwnL] at o1 o2;obtain ⟨_,_,g1,g2,rfl,_,_,p1,p2⟩:=o1;obtain ⟨_,_,k1,k2,rfl,_,_,q1,q2⟩:=o2;cases r1 with
   | cons a1 a2=>
    cases r2 with
    | cons b1 b2=>
     have t:=ih ys d e _ _ g2 k2 _ _ h.2 p2 q2 a2 b2;refine ⟨congrArg (·+ 1) t.1,λ j h1 h2=>?_⟩;cases j with
     | zero=>exact Vz I 20 x y d e _ _ g1 k1 _ _ A.in1 (by have e:A.in1.units=A.units + 1:=rfl;omega) h.1 p1 q1 a1 b1
     | succ j=>exact t.2 j (NJ h1) (NJ h2)
def VR {pins:List (Addr×Obj)}{s:Aj}{Z Z':Addr->Prop} (I:L2.Inv X pins σ H s) {xs ys:List PV}{d e:Nat}{v w:V}{f1 f2:List Addr}{u u':Af}{A:AZ} (hu:A.units + 64 < Cn) (h:E8 (FC 20) xs ys=true) (o1:Own X.K H Z (.lst xs) d v f1) (o2:Own X.K H Z' (.lst ys) e w f2) (r1:RelV v u) (r2:RelV w u'):SeqAt.RcAt A s u u' true/\M3 A s u u' false:=by
 obtain ⟨a,ws,d',f,rfl,ha,ol⟩:=HM o1;obtain ⟨b,ws',e',f',rfl,hb,ol'⟩:=HM o2;cases r1;cases r2;obtain ⟨its,rv,⟨ob,nn,e1,e2,e3,e4⟩,_⟩:=I.list (.inl (.inl ha));obtain ⟨its',rv',⟨ob',nn',e1',e2',e3',e4'⟩,_⟩:=I.list (.inl (.inl hb));have t:=VQ I hu xs ys d' e' ws ws' f f' its its' h ol ol' rv rv';have z:=SeqAt.RcAt.lists (A:=A) (s:=s) (l:=a) (b:=b) (items:=its.toArray) (items2:=its'.toArray) (e:=λ _=>true) ⟨ob,e1,e2,nn,e4⟩ ⟨ob',e1',e2',nn',e4'⟩ (by simpa using t.1) (by omega) (λ j h1 h2=>by simpa using t.2 j (by simpa using h1) (by simpa using h2));have z':=SeqAt.RcNeAt.lists (A:=A) (s:=s) (l:=a) (b:=b) (items:=its.toArray) (items2:=its'.toArray) (e:=λ _=>true) ⟨ob,e1,e2,nn,e4⟩ ⟨ob',e1',e2',nn',e4'⟩ (by simpa using t.1) (by omega) (λ j h1 h2=>by simpa using t.2 j (by simpa using h1) (by simpa using h2));rw [Mh λ _ _=>rfl] at z z';exact ⟨z,z'⟩
def Tb {pins:List (Addr×Obj)}{s:Aj}{Z Z':Addr->Prop} (I:L2.Inv X pins σ H s) {xs ys:List PV}{d e:Nat}{v w:V}{f1 f2:List Addr}{u u':Af}{A:AZ} (hu:A.units + 64 < Cn) (h:E8 (FC 20) xs ys=true) (o1:Own X.K H Z (.tup xs) d v f1) (o2:Own X.K H Z' (.tup ys) e w f2) (r1:RelV v u) (r2:RelV w u'):SeqAt.RcAt A s u u' true/\M3 A s u u' false:=by
 rw [Own] at o1;rw [Own] at o2;obtain ⟨a,ws,rfl,ha,ol⟩:=o1;obtain ⟨b,ws',rfl,hb,ol'⟩:=o2;cases r1;cases r2;obtain ⟨its,rv,⟨ob,e1,e2,nn,e4⟩,_⟩:=I.tuple (.inl (.inl ha));obtain ⟨its',rv',⟨ob',e1',e2',nn',e4'⟩,_⟩:=I.tuple (.inl (.inl hb));have t:=VQ I hu xs ys _ _ ws ws' _ _ its its' h ol ol' rv rv';have z:=SeqAt.RcAt.tuples (A:=A) (s:=s) (l:=a) (b:=b) (items:=its.toArray) (items2:=its'.toArray) (e:=λ _=>true) ⟨ob,e1,e2,nn,e4⟩ ⟨ob',e1',e2',nn',e4'⟩ (by omega) (λ j h1 h2=>by simpa using t.2 j (by simpa using h1) (by simpa using h2));have z':=SeqAt.RcNeAt.tuples (A:=A) (s:=s) (l:=a) (b:=b) (items:=its.toArray) (items2:=its'.toArray) (e:=λ _=>true) ⟨ob,e1,e2,nn,e4⟩ ⟨ob',e1',e2',nn',e4'⟩ (by omega) (λ j h1 h2=>by simpa using t.2 j (by simpa using h1) (by simpa using h2));have z2:((its.toArray.size == its'.toArray.size):Bool)=true:=by simpa using t.1
 rw [Mh λ _ _=>rfl,z2] at z z';exact ⟨z,z'⟩
def Vg {pins:List (Addr×Obj)}{s:Aj}{Z Z':Addr->Prop} (I:L2.Inv X pins σ H s) {xs ys:List PV}{d e:Nat}{v w:V}{f1 f2:List Addr}{u u':Af}{A:AZ} (hu:A.units + 64 < Cn) (h:xs.length≠ys.length) (o1:Own X.K H Z (.lst xs) d v f1) (o2:Own X.K H Z' (.lst ys) e w f2) (r1:RelV v u) (r2:RelV w u'):SeqAt.RcAt A s u u' false/\M3 A s u u' true:=by
 obtain ⟨a,ws,d',f,rfl,ha,ol⟩:=HM o1;obtain ⟨b,ws',e',f',rfl,hb,ol'⟩:=HM o2;cases r1;cases r2;obtain ⟨its,rv,⟨ob,nn,e1,e2,e3,e4⟩,_⟩:=I.list (.inl (.inl ha));obtain ⟨its',rv',⟨ob',nn',e1',e2',e3',e4'⟩,_⟩:=I.list (.inl (.inl hb));have hl:(its.toArray.size != its'.toArray.size)=true:=by
  have h1:=rv.length;have h2:=rv'.length;rw [ol.length] at h1;rw [ol'.length] at h2;simp only [Cb,bne_iff_ne];omega
 exact ⟨SeqAt.RcAt.lists_lengths ⟨ob,e1,e2,nn,e4⟩ ⟨ob',e1',e2',nn',e4'⟩ hl (by omega),SeqAt.RcNeAt.lists_lengths ⟨ob,e1,e2,nn,e4⟩ ⟨ob',e1',e2',nn',e4'⟩ hl (by omega)⟩
def UM {pins:List (Addr×Obj)}{s:Aj}{Z Z':Addr->Prop} (I:L2.Inv X pins σ H s) {d e:Nat}{v w:V}{f1 f2:List Addr}{u u':Af}{A:AZ} (hu:A.units < Cn) (o1:Own X.K H Z .emp d v f1) (o2:Own X.K H Z' .emp e w f2) (r1:RelV v u) (r2:RelV w u'):SeqAt.RcAt A s u u' true/\M3 A s u u' false:=by
 rw [Own] at o1;rw [Own] at o2;obtain ⟨_,a,rfl,ha⟩:=o1;obtain ⟨_,b,rfl,hb⟩:=o2;cases r1;cases r2;obtain ⟨_,z1,vs,k1,d1⟩:=JD I.hok ha;obtain ⟨_,z2,ws,k2,d2⟩:=JD I.hok hb;cases k1;cases k2;exact ⟨λ prog w E Q hq=>PySem.W.keq_eq (knd:=D0 prog w) (r:=true) z1 z2 (Jk d1) (Jk d2) hu (λ _=>.nil) (by simpa using hq),λ prog w E Q hq=>PySem.W.keq_ne (knd:=D0 prog w) (r:=true) z1 z2 (Jk d1) (Jk d2) hu (λ _=>.nil) (by simpa using hq)⟩
def IB (K:Frag) (neg:Bool):R2:=λ v w H Q=>∃ x y d e Z Z' f1 f2,Own K H Z x d v f1/\Own K H Z' y e w f2/\((∃ a b,BP 20 x=some a/\BP 20 y=some b/\Q (.bl (neg^^EH a b)) H)\/(∃ xs ys,x=.lst xs/\y=.lst ys/\E8 (FC 20) xs ys=true/\Q (.bl (neg^^true)) H)\/(∃ xs ys,x=.lst xs/\y=.lst ys/\xs.length≠ys.length/\Q (.bl (neg^^false)) H)\/(∃ a b,x=.str a/\y=.str b/\Q (.bl (neg^^(a == b))) H)\/(x=.emp/\y=.emp/\Q (.bl (neg^^true)) H)\/∃ xs ys,x=.tup xs/\y=.tup ys/\E8 (FC 20) xs ys=true/\Q (.bl (neg^^true)) H)
def Y5 (hu:X.A.units + 64 < Cn):OpR X (BU .Eq) (IB X.K false):=by
 intro pins s σ H v w u u' Q I rx ry h;obtain ⟨x,y,d,e,Z,Z',f1,f2,o1,o2,⟨a,b,h1,h2,q⟩ | ⟨xs,ys,rfl,rfl,h,q⟩ | ⟨xs,ys,rfl,rfl,h,q⟩ | ⟨a,b,rfl,rfl,q⟩ | ⟨rfl,rfl,q⟩ | ⟨xs,ys,rfl,rfl,h,q⟩⟩:=h
 ·obtain ⟨as,ra⟩:=Gg I 20 x d v f1 u a h1 o1 rx;obtain ⟨bs,rb⟩:=Gg I 20 y e w f2 u' b h2 o2 ry;have l1:=Fp 20 x a h1;have l2:=Fp 20 y b h2;exact SeqAt.compareEq_reads ra rb l1.1 l2.1 (by have:=Ws a.depth b.depth;omega) ⟨.bl _,H,I,rfl,by simpa using q⟩
 ·exact (VR I hu h o1 o2 rx ry).1 _ _ _ _ ⟨.bl _,H,I,rfl,q⟩
 ·exact (Vg I hu h o1 o2 rx ry).1 _ _ _ _ ⟨.bl _,H,I,rfl,q⟩
 ·rw [Own] at o1 o2;obtain ⟨rfl,_⟩:=o1;obtain ⟨rfl,_⟩:=o2;obtain ⟨t,rfl⟩:=rx;obtain ⟨t',rfl⟩:=ry;exact SeqAt.RcAt.str_str a t b t' _ _ _ _ ⟨.bl _,H,I,rfl,by simpa using q⟩
 ·exact (UM I (by omega) o1 o2 rx ry).1 _ _ _ _ ⟨.bl _,H,I,rfl,q⟩
 ·exact (Tb I hu h o1 o2 rx ry).1 _ _ _ _ ⟨.bl _,H,I,rfl,q⟩
def Y9 (hu:X.A.units + 64 < Cn):OpR X (BU .NotEq) (IB X.K true):=by
 intro pins s σ H v w u u' Q I rx ry h;obtain ⟨x,y,d,e,Z,Z',f1,f2,o1,o2,⟨a,b,h1,h2,q⟩ | ⟨xs,ys,rfl,rfl,h,q⟩ | ⟨xs,ys,rfl,rfl,h,q⟩ | ⟨a,b,rfl,rfl,q⟩ | ⟨rfl,rfl,q⟩ | ⟨xs,ys,rfl,rfl,h,q⟩⟩:=h
 ·obtain ⟨as,ra⟩:=Gg I 20 x d v f1 u a h1 o1 rx;obtain ⟨bs,rb⟩:=Gg I 20 y e w f2 u' b h2 o2 ry;have l1:=Fp 20 x a h1;have l2:=Fp 20 y b h2;exact SeqAt.compareNe_reads ra rb l1.1 l2.1 (by have:=Ws a.depth b.depth;omega) ⟨.bl _,H,I,rfl,by simpa using q⟩
 ·exact (VR I hu h o1 o2 rx ry).2 _ _ _ _ ⟨.bl _,H,I,rfl,q⟩
 ·exact (Vg I hu h o1 o2 rx ry).2 _ _ _ _ ⟨.bl _,H,I,rfl,q⟩
 ·rw [Own] at o1 o2;obtain ⟨rfl,_⟩:=o1;obtain ⟨rfl,_⟩:=o2;obtain ⟨t,rfl⟩:=rx;obtain ⟨t',rfl⟩:=ry;exact SeqAt.RcNeAt.str_str a t b t' _ _ _ _ ⟨.bl _,H,I,rfl,by simpa using q⟩
 ·exact (UM I (by omega) o1 o2 rx ry).2 _ _ _ _ ⟨.bl _,H,I,rfl,q⟩
 ·exact (Tb I hu h o1 o2 rx ry).2 _ _ _ _ ⟨.bl _,H,I,rfl,q⟩
def VE {neg:Bool}{x y z:PV}{d e c:Nat}{v w:V}{fps:AI}{f1 f2 F:List Addr}{Z Z':Addr->Prop} (hK:M.K=X.K) (ho:Ak neg x d y e=some (z,c)) (o1:Own M.K H Z x d v f1) (o2:Own M.K H Z' y e w f2) (lf:Bf M H fps vs F z c Q):IB X.K neg v w H Q:=by
 rw [hK] at o1 o2;refine ⟨x,y,d,e,Z,Z',f1,f2,o1,o2,?_⟩;unfold Ak at ho;split at ho
 ·rename_i a b ea eb;cases ho;exact .inl ⟨a,b,ea,eb,Dz lf⟩
 ·split at ho
  ·rename_i xs ys _;split at ho
   ·rename_i hc;cases ho;exact .inr (.inl ⟨xs,ys,rfl,rfl,hc,Dz lf⟩)
   ·split at ho
    ·rename_i hc;cases ho;exact .inr (.inr (.inl ⟨xs,ys,rfl,rfl,hc,Dz lf⟩))
    ·cases ho
  ·rename_i a b _;cases ho;exact .inr (.inr (.inr (.inl ⟨a,b,rfl,rfl,Dz lf⟩)))
  ·cases ho;exact .inr (.inr (.inr (.inr (.inl ⟨rfl,rfl,Dz lf⟩))))
  ·rename_i xs ys _;split at ho
   ·rename_i hc;cases ho;exact .inr (.inr (.inr (.inr (.inr ⟨xs,ys,rfl,rfl,hc,Dz lf⟩))))
   ·cases ho
  ·cases ho
def isNon:PV->Bool
 | .non=>true
 | _=>false
def Cr (neg:Bool):PV->Nat->PV->Nat->Option (PV×Nat)
 | .bl a,_,.bl b,_=>some (.bl (neg^^(a == b)),om)
 | x,_,.non,_=>some (.bl (neg^^isNon x),om)
 | _,_,_,_=>none
def qnu:OpR X (BU .Is) (λ x y H Q=>∃ i j,x=.bl i/\y=.bl j/\Q (.bl (i == j)) H):=by
 intro pins s σ H x y v u Q I rx ry h;obtain ⟨i,j,rfl,rfl,q⟩:=h;cases rx;cases ry;exact is_bool ⟨.bl _,H,I,rfl,q⟩
def qdr:OpR X (BU .IsNot) (λ x y H Q=>∃ i j,x=.bl i/\y=.bl j/\Q (.bl (i != j)) H):=by
 intro pins s σ H x y v u Q I rx ry h;obtain ⟨i,j,rfl,rfl,q⟩:=h;cases rx;cases ry;exact isnot_bool ⟨.bl _,H,I,rfl,q⟩
theorem Own.isNon {K:Frag}{Z:Addr->Prop}{x:PV}{d:Nat}{v:V}{fp:List Addr} (o:Own K H Z x d v fp):decide (v=.non)=QQ.isNon x:=by
 cases x with
 | non=>rw [Own] at o;rw [o.1];rfl
 | bl b=>rw [Own] at o;rw [o.1];rfl
 | int b=>rw [Own] at o;rw [o.1];rfl
 | str b=>rw [Own] at o;rw [o.1];rfl
 | emp=>rw [Own] at o;obtain ⟨_,a,rfl,_⟩:=o;rfl
 | dko=>rw [Own] at o;obtain ⟨_,a,rfl,_⟩:=o;rfl
 | scr ns=>rw [Own] at o;obtain ⟨_,a,rfl,_⟩:=o;rfl
 | exn c=>rw [Own] at o;obtain ⟨_,a,_,rfl,_⟩:=o;rfl
 | dct kvs=>rw [Own] at o;obtain ⟨a,rfl,_⟩:=o;rfl
 | lst xs=>rw [Own] at o;obtain ⟨a,ws,rfl,_⟩:=o;rfl
 | tup xs=>rw [Own] at o;obtain ⟨a,ws,rfl,_⟩:=o;rfl
def Vf {x y z:PV}{d e c:Nat}{v w:V}{fps:AI}{f1 f2 F:List Addr}{Z Z':Addr->Prop}{neg:Bool} (ho:Cr neg x d y e=some (z,c)) (o1:Own M.K H Z x d v f1) (o2:Own M.K H Z' y e w f2) (lf:Bf M H fps vs F z c Q):(∃ i j,v=.bl i/\w=.bl j/\Q (.bl (neg^^(i == j))) H)\/(w=.non/\Q (.bl (neg^^decide (v=.non))) H):=by
 unfold Cr at ho;split at ho
 ·cases ho;rw [Own] at o1 o2;exact .inl ⟨_,_,o1.1,o2.1,Dz lf⟩
 ·cases ho;rw [Own] at o2;rw [o1.isNon];exact .inr ⟨o2.1,Dz lf⟩
 ·cases ho
def Ah:PV->Nat->PV->Nat->Option (PV×Nat)
 | .lst xs,_,.int i,_=>(Bk xs i).map λ z=>(z,dv z)
 | .tup xs,_,.int i,_=>(Bk xs i).map λ z=>(z,dv z)
 | .scr ns,_,.int i,_=>(Bk ns i).map λ z=>(.int z,om)
 | .str z,_,.int i,_=>if z.length<=Au then (Bk z.cps.toList i).map λ c=>(.str ⟨#[c]⟩,om) else none
 | _,_,_,_=>none
theorem O8 {K:Frag}{Z:Addr->Prop}{xs:List PV}{ws:List V}{i:Int}{z:PV} (ol:OwnL K H Z xs 0 ws []) (e:Bk xs i=some z):∃ w,Bk ws i=some w/\Own K H Z z 0 w []:=by
 unfold Bk at e ⊢;rw [ol.length];cases ej:Dq xs.length i with
 | none=>rw [ej] at e;cases e
 | some j=>rw [ej] at e;exact ol.nth e
theorem UA (hv:∀ i∈vs,M.Ms i=false) (hK:M.K=X.K) (hs:Kq b) (ha:PE X a (tE M f vs)) (hb:PE X b (tE M g vs')):PE X (.Subscript a b pos) (tE M (Ab Ah f g) (vs++vs')):=by
 refine Bc (Ng Ur ha hb hs) λ σ H Q h=>DL hv (λ x d y e z c v w H fps f1 f2 Q ho o1 o2 dj nz zd lf=>?_) h;cases y with
 | int i=>
  rw [Own] at o2;cases x with
  | lst xs=>
   dsimp only [Ah] at ho;obtain ⟨z',ez,e2⟩:=ja5.mp ho;cases e2;obtain ⟨p,ws,rfl,hp,ol⟩:=(cold o1 λ a ha=>nz a (BC _ ha)).coldL;obtain ⟨w',e1,ow⟩:=O8 ol ez;exact .inl ⟨p,ws,i,w',rfl,o2.1,.inl (.inl hp),e1,Jj lf ow⟩
  | tup xs=>
   dsimp only [Ah] at ho;obtain ⟨z',ez,e2⟩:=ja5.mp ho;cases e2;obtain ⟨p,ws,rfl,hp,ol⟩:=(cold o1 λ a ha=>nz a (BC _ ha)).coldT;obtain ⟨w',e1,ow⟩:=O8 ol ez;exact .inr (.inl ⟨p,ws,i,w',rfl,o2.1,.inl (.inl hp),e1,Jj lf ow⟩)
  | scr ns=>
   dsimp only [Ah] at ho;obtain ⟨z',ez,e2⟩:=ja5.mp ho;cases e2;rw [Own] at o1;obtain ⟨_,p,rfl,hp⟩:=o1;refine .inl ⟨p,ns.map V.int,i,.int z',rfl,o2.1,?_,?_,D3 lf⟩
   ·rw [<- hK];exact hp.elim (λ h=>.inl (.inr h)) .inr
   ·unfold Bk at ez ⊢;rw [Bg];cases ej:Dq ns.length i with
    | none=>rw [ej] at ez;cases ez
    | some j=>
     rw [ej] at ez;show (ns.map V.int)[j]?=_;rw [Ef]
     have:ns[j]?=some z':=ez
     rw [this];rfl
  | str z=>
   dsimp only [Ah] at ho;split at ho
   ·rename_i hl;obtain ⟨c',ez,e2⟩:=ja5.mp ho;cases e2;rw [Own] at o1;exact .inr (.inr ⟨z,i,c',o1.1,o2.1,hl,ez,Jh lf⟩)
   ·cases ho
  | _=>cases ho
 | _=>cases x <;> cases ho
def IP:Option Fx->Ag->Rz (Option Int×Ag)
 | none,ρ=>.ok (none,ρ)
 | some f,ρ=>(f ρ).bind λ (x,_,ρ1)=>match x with
  | .int i=>.ok (some i,ρ1)
  | _=>.no
def Bt (xs:List PV) (lo hi:Option Int):List PV:=(xs.drop (HT.sIx xs.length 0 lo)).take (HT.sIx xs.length xs.length hi - HT.sIx xs.length 0 lo)
def Eb (x:PV) (lo hi:Option Int):Option (PV×Nat):=match x with
 | .lst xs=>some (.lst (Bt xs lo hi),d1 (Bt xs lo hi))
 | .tup xs=>if HT.sIx xs.length 0 lo=0/\HT.sIx xs.length xs.length hi=xs.length then none else some (.tup (Bt xs lo hi),0)
 | .str z=>if z.length<=Au then some (.str (Fc z lo hi),om) else none
 | _=>none
def Bu (f:Fx) (lo hi:Option Fx):Fx:=λ ρ=>(f ρ).bind λ (x,_,ρ1)=>(IP lo ρ1).bind λ (l,ρ2)=>(IP hi ρ2).bind λ (u,ρ3)=>match Eb x l u with
 | some (z,c)=>.ok (z,c,ρ3)
 | none=>.no
def tO (M:Fm):Option (Fx×List Nat)->TO
 | none=>Vp
 | some (f,vs)=>TQ (tE M f vs)
theorem Vq {o:Option (Fx×List Nat)}{ρ:Ag}{fps:AI}{R:Option Int->Hp->Prop} (rep:Rep M ρ σ H fps)
  (q:match IP (o.map (·.1)) ρ with
   | .ok (l,ρ')=>∀ H' fps',KD M H fps H' fps'->Agr M ρ ρ'->Rep M ρ' σ H' fps'->R l H'
   | .exc c=>∀ H' fps',KD M H fps H' fps'->M.W σ c H'
   | .no=>False):tO M o σ H R:=by
 cases o with
 | none=>exact q H fps KD.refl Agr.refl rep
 | some p=>
  obtain ⟨f,vs⟩:=p;refine ⟨ρ,fps,rep,?_⟩;dsimp only [Option.map,IP] at q;cases ef:f ρ with
  | no=>rw [ef] at q;exact q
  | exc c=>rw [ef] at q;exact q
  | ok p=>
   obtain ⟨x,d,ρ1⟩:=p;rw [ef] at q;intro v H1 fps1 f1 k1 g1 rep1 o1 t1;dsimp only [Rz.bind] at q;cases x with
   | int i=>rw [Own] at o1;exact ⟨i,o1.1,q H1 fps1 k1 g1 rep1⟩
   | _=>exact q.elim
def KR:V->Option Int->Option Int->Hp->VK->Prop:=λ x lo hi H Q=>∃ z,x=.str z/\z.length<=Au/\Q (.str (Fc z lo hi)) H
theorem Ra:SlR X KR:=by
 intro pins s σ H x v vl vu lo hi sl Q I rx hs pl pu h;obtain ⟨z,rfl,hz,q⟩:=h;obtain ⟨t,rfl⟩:=rx;have go:∀ (l u:Option (Int×Tok)),vl=partValue l->vu=partValue u->l.map (·.1)=lo->u.map (·.1)=hi->∃ T id,typeLookup (.type T) "__getitem__" = pure (some (.builtin id))/\s.TypeIs (.str z t) T/\As (Aq X.prog X.w) X.A (getItem (.str z t) (.ref sl)) (EP X pins σ Q) X.xe s:=by
  rintro l u rfl rfl rfl rfl;refine ⟨"str",_,F.slot_str_getitem.lookup,HE _ _ _,wpAny_getItem_str_slice (l:=l) (u:=u) (st:=none) hs rfl (post_val_or_str ⟨BH (J2 z _ _) hz,λ t' k=>⟨.str _,H,I.tok _,⟨_,rfl⟩,q⟩⟩)⟩
 cases pl with
 | none=>
  cases pu with
  | none=>exact go none none rfl rfl rfl rfl
  | int j uj=>exact go none (some (j,uj)) rfl rfl rfl rfl
 | int i ui=>
  cases pu with
  | none=>exact go (some (i,ui)) none rfl rfl rfl rfl
  | int j uj=>exact go (some (i,ui)) (some (j,uj)) rfl rfl rfl rfl
theorem Qr {lo hi:Option (Fx×List Nat)} (hv:∀ i∈vs,M.Ms i=false) (hK:M.K=X.K) {σ:St}{H:Hp}{Q:VK} (hq:tE M (Bu f (lo.map (·.1)) (hi.map (·.1))) vs σ H Q):Tw (λ x lo hi H Q=>KU X.K x lo hi H Q\/(KQ X.K x lo hi H Q\/KR x lo hi H Q)) (tE M f vs) (tO M lo) (tO M hi) σ H Q:=by
 obtain ⟨ρ,fps,rep,q⟩:=hq;refine ⟨ρ,fps,rep,?_⟩;unfold Bu at q;cases ef:f ρ with
 | no=>rw [ef] at q;exact q
 | exc c=>rw [ef] at q;exact q
 | ok p=>
  obtain ⟨x,d,ρ1⟩:=p;rw [ef] at q;intro v H1 fps1 f1 k1 g1 rep1 o1 t1;dsimp only [Rz.bind] at q;refine Vq rep1 ?_;cases el:IP (lo.map (·.1)) ρ1 with
  | no=>rw [el] at q;exact q
  | exc c=>rw [el] at q;exact λ H' fps' k=>q H' fps' (k1.trans k)
  | ok p2=>
   obtain ⟨l,ρ2⟩:=p2;rw [el] at q;intro H2 fps2 k2 g2 rep2;refine Vq rep2 ?_;dsimp only at q;cases eh:IP (hi.map (·.1)) ρ2 with
   | no=>rw [eh] at q;exact q
   | exc c=>rw [eh] at q;exact λ H' fps' k=>q H' fps' ((k1.trans k2).trans k)
   | ok p3=>
    obtain ⟨u,ρ3⟩:=p3;rw [eh] at q;intro H3 fps3 k3 g3 rep3;dsimp only at q;have kk:=k2.trans k3;have o3:=kk.stay rep1 hv o1 t1.ndj;have n3:∀ a∈f1,¬ Zf M fps3 a:=λ a ha z=>by
     rcases z with z | ⟨i,z⟩
     ·exact t1.ndj a ha (.inl z)
     ·rcases kk.sub i a z with z | z
      ·exact t1.ndj a ha (.inr ⟨i,z⟩)
      ·obtain ⟨xs,e⟩:=Own.lsts x d v f1 o1 a ha;rw [z] at e;cases e
    have back:∀ a,H3 a=none->H a=none:=λ a e=>by
     cases e':H a with
     | none=>rfl
     | some o=>exact absurd e ((k1.trans kk).dom a (by rw [e'];simp))
    cases eo:Eb x l u with
    | none=>rw [eo] at q;exact q.elim
    | some zc=>
     obtain ⟨z,c⟩:=zc;rw [eo] at q;have lf:Bf M H3 fps3 vs f1 z c Q:=λ w H4 fp k4 o4 hfp=>q w H4 fps3 fp ((k1.trans kk).trans (KD.grow k4)) (g1.trans (g2.trans g3)) (rep3.grow k4) o4 ⟨λ a ha=>(hfp a ha).elim (t1.new a) (back a),λ a ha=>(hfp a ha).elim (n3 a) λ z=>rep3.nz z⟩;have c0:=cold o3 n3;unfold Eb at eo;cases x with
     | lst xs=>
      cases eo;obtain ⟨p,ws,rfl,hp,ol⟩:=c0.coldL;refine .inl ⟨p,ws,rfl,.inl (.inl hp),λ q hq=>?_⟩;have e:OwnL M.K H3 (Zv M vs fps3) (Bt xs l u) 0 (CZ ws l u) []:=by
       unfold Bt CZ;rw [ol.length];exact (ol.drop _).take _
      exact HL lf e hq
     | tup xs=>
      dsimp only at eo;split at eo
      ·cases eo
      ·rename_i hw;cases eo;obtain ⟨p,ws,rfl,hp,ol⟩:=c0.coldT;refine .inr (.inl ⟨p,ws,rfl,.inl (.inl hp),by rw [ol.length];exact hw,λ q hq=>?_⟩);have e:OwnL M.K H3 (Zv M vs fps3) (Bt xs l u) 0 (CZ ws l u) []:=by
        unfold Bt CZ;rw [ol.length];exact (ol.drop _).take _
       exact LL lf e hq
     | str z=>
      dsimp only at eo;split at eo
      ·rename_i hz;cases eo;rw [Own] at o3;exact .inr (.inr ⟨z,o3.1,hz,Jh lf⟩)
      ·cases eo
     | _=>cases eo
def Kn:PV->String
 | .non => "NoneType"
 | .bl _ => "bool"
 | .int _ => "int"
 | .str _ => "str"
 | .lst _ => "list"
 | .tup _ => "tuple"
 | .emp => "dict"
 | .dko => "dict"
 | .dct _ => "dict"
 | _ => ""
def IL (t T:String):Bool:=t == T || (t == "bool" && T == "int")
def Hj:List String:=["int","bool","str","list","tuple","dict"]
def AH (T:String) (x:PV) (_:Nat):Option (PV×Nat):=match x with
 | .scr _=>none
 | .exn _=>none
 | _=>some (.bl (IL (Kn x) T),om)
theorem Own.ty {K:Frag}{Z:Addr->Prop}{x:PV}{d:Nat}{v:V}{fp:List Addr} (h:Own K H Z x d v fp) (hs:∀ ns,x≠.scr ns) (hx:∀ c,x≠.exn c):TyOf K H v (.type (Kn x)):=by
 cases x with
 | non=>rw [Own] at h;rw [h.1];exact .non
 | bl b=>rw [Own] at h;rw [h.1];exact .bl b
 | int i=>rw [Own] at h;rw [h.1];exact .int i
 | str s=>rw [Own] at h;rw [h.1];exact .str s
 | emp=>rw [Own] at h;obtain ⟨_,a,e,ha⟩:=h;rw [e];exact .dK ha
 | dko=>rw [Own] at h;obtain ⟨_,a,e,_,ha⟩:=h;rw [e];exact .dK ha
 | scr ns=>exact absurd rfl (hs ns)
 | exn c=>exact absurd rfl (hx c)
 | dct kvs=>
  rw [Own] at h;obtain ⟨a,e,⟨_,hr,_⟩ | ⟨_,ha,_⟩⟩:=h
  ·rw [e];exact .dT hr.1
  ·rw [e];exact .dT ha
 | lst xs=>
  rw [Own] at h;obtain ⟨a,ws,e,⟨_,hr,_,_⟩ | ⟨_,f,ha,_⟩⟩:=h
  ·rw [e];exact .lst hr.1
  ·rw [e];exact .lst ha
 | tup xs=>
  rw [Own] at h;obtain ⟨a,ws,e,hr,_⟩:=h;rw [e];exact .tup hr
end
section
variable {X:Cx}{M:Fm}{a b:Expr}{f g:Fx}{fa:Fa}{vs vs':List Nat}{pos p:Pos}{σ:St}{H:Hp}{Q:VK}{e:Expr}{es:List Expr}
def Z4:PA X [] (tL M Ac []):=Uu Gj λ σ H Q h=>Zp h
def qD (hv:∀ i∈vs,M.Ms i=false) (ha:PE X e (tE M f vs)) (hr:PA X es (tL M fa vs')) (hs:A5 (e::es) X.env=(false,eval e X.env)::A5 es X.env):PA X (e::es) (tL M (Ad f fa) (vs++vs')):=
 Uu (Eo ha hr hs) λ σ H Q h=>qQ hv h
def GF {op:List (PV×Nat)->Option (PV×Nat)}{r:List V->Hp->VK->Prop}
  (leaf:∀ xs z c ws H fps fp Q,op xs=some (z,c)->Tmps M.K H (Zv M vs fps) xs ws fp->(∀ a∈fp,¬ Zf M fps a)->(∀ a,Zf M fps a->H a≠none)->Bf M H fps vs fp z c Q->r ws H Q)
  {σ:St}{H:Hp}{Q:VK} (hq:tE M (Am op fa) vs σ H Q):PQ r (tL M fa vs) σ H Q:=LS leaf hq
def AY (xs:List (PV×Nat)):Option (PV×Nat):=if xs.length<=Au then some (.lst (xs.map (·.1)),if E4 xs then om else 1) else none
def BJ (xs:List (PV×Nat)):Option (PV×Nat):=if xs.length<=Au then some (.tup (xs.map (·.1)),if E4 xs then om else 0) else none
def Zh (h:PA X es (tL M fa vs)):PE X (.List es pos) (tE M (Am AY fa) vs):=by
 refine Bc (Ux h) λ σ H Q h=>LS (r:=λ xs H1 Q=>xs.length<=Au/\∀ p,H1 p=none->Q (.ref p) (Aw H1 p (.lst xs))) (λ xs z c ws H fps fp Q ho tm nz zd lf=>?_) h;unfold AY at ho;split at ho
 ·rename_i hl;refine ⟨by rw [tm.length];exact hl,λ q hq=>?_⟩;cases eo:E4 xs with
  | true=>rw [eo] at ho;cases ho;exact Od lf (tm.all (LO eo)) hq
  | false=>rw [eo] at ho;cases ho;exact O2 lf (tm.cold λ a ha z=>nz a ha z.zf) hq
 ·cases ho
def Zl {x1:_} (h:PA X es (tL M fa vs)):PE X (.Tuple es x1 pos) (tE M (Am BJ fa) vs):=by
 refine Bc (Uz h) λ σ H Q h=>LS (r:=λ xs H1 Q=>xs.length<=Au/\∀ p,H1 p=none->Q (.ref p) (Aw H1 p (.tup xs))) (λ xs z c ws H fps fp Q ho tm nz zd lf=>?_) h;unfold BJ at ho;split at ho
 ·rename_i hl;refine ⟨by rw [tm.length];exact hl,λ q hq=>?_⟩;cases eo:E4 xs with
  | true=>rw [eo] at ho;cases ho;exact j7 lf (tm.all (LO eo)) hq
  | false=>rw [eo] at ho;cases ho;exact LL lf (tm.cold λ a ha z=>nz a ha z.zf) hq
 ·cases ho
def Inv.big {pins:List (Addr×Obj)}{s:Aj} (I:L2.Inv X pins σ H s):FJ < s.heap.objs.size:=by
 have h:DM < s.heap.objs.size:=(I.mod.glob.keeps I.bk).lt;exact N6 (by decide) h
def qr:PE X (.Dict [] [] pos) (λ _ H Q=>∀ p,H p=none->Q (.ref p) (Aw H p (.dK []))):=λ pins s σ H Q I h=>
 wpAny_Dict_empty ⟨.ref s.heap.objs.size,_,I.laid (a:=s.heap.objs.size) (o:=.dK []) (t':=s.toks) (λ _ _ q=>CL _ q) (AS _) ⟨Gx _,beq_eq_false_iff_ne.mpr (BF (BM (Inv.big I))),[],.nil,Heap.DictOf.new s.heap⟩,rfl,h _ (I.hok.fresh (AS _))⟩
def Zd:PE X (.Dict [] [] pos) (tE M (bC .emp) []):=by
 refine Bc qr λ σ H Q h p hp=>?_;obtain ⟨ρ,fps,rep,q⟩:=h;refine q (.ref p) _ fps [] (KD.grow (Em hp)) Agr.refl (rep.grow (Em hp)) ?_ ⟨λ _ z=>(nomatch z),λ _ z=>nomatch z⟩;rw [Own];exact ⟨rfl,p,rfl,BS⟩
def xI:zzr X (.builtin "isinstance") (λ xs H Q=>∃ x t T k,xs=[x,.ty T]/\TyOf X.K H x t/\EI X.K t (.type T)=some k/\Q (.bl k) H):=by
 intro pins s σ H xs us Q I r h;obtain ⟨x,t,T,k,rfl,ty,hk,q⟩:=h;obtain ⟨u,w,rfl,r1,r2⟩:=Lj r;cases r2;exact ji I r1 ty hk λ tk=>⟨.bl k,H,I.tok _,rfl,q⟩
theorem YT (K:Frag) {T:String} (hT:T∈Hj) (x:PV) (hs:∀ ns,x≠.scr ns) (hx:∀ c,x≠.exn c):EI K (.type (Kn x)) (.type T)=some (IL (Kn x) T):=by
 simp only [Hj,jb2,Lu,or_false] at hT;cases x with
 | scr ns=>exact absurd rfl (hs ns)
 | exn c=>exact absurd rfl (hx c)
 | _=>rcases hT with h | h | h | h | h | h <;> subst h <;> rfl
def Ze {T:String}{x T':Str}{p1 p2:Pos} (hT:T∈Hj) (hK:M.K=X.K) (ha:PE X e (tE M f vs)) (hg:Gl X "isinstance") (hm:X.mg "isinstance" = none) (hT':PE X (.Name T' p2) (tC (.ty T)))
  (hs1:A5 [e,.Name T' p2] X.env=[(false,eval e X.env),(false,eval (.Name T' p2) X.env)]) (hs2:A5 [Expr.Name T' p2] X.env=[(false,eval (.Name T' p2) X.env)]):
  PE X (.Call (.Name "isinstance" p1) [e,.Name T' p2] [] pos) (tE M (Ap (AH T) f) vs):=by
 refine Bc (Hw xI hg hm rfl (Eo ha (Eo hT' Gj hs2) (by rw [hs1,hs2])) (he:=by rw [hs1,hs2]) (hpl:=by rw [hs2];rfl)) λ σ H Q h=>?_;refine JC (r:=λ v H Q=>∃ x t T' k,[v,.ty T]=[x,.ty T']/\TyOf X.K H x t/\EI X.K t (.type T')=some k/\Q (.bl k) H) (λ x d z c v H fps f1 Q ho o1 nz zd lf=>?_) h;have hs:∀ ns,x≠.scr ns:=λ ns e=>by subst e;cases ho
 have hx:∀ c,x≠.exn c:=λ c e=>by subst e;cases ho
 have e2:z=.bl (IL (Kn x) T):=by
  cases x with
  | scr ns=>cases ho
  | exn c=>cases ho
  | _=>cases ho;rfl
 subst e2;exact ⟨v,_,T,_,rfl,by rw [<- hK];exact o1.ty hs hx,YT X.K hT x hs hx,Dz lf⟩
def AO:List (PV×Nat)->Option (PV×Nat)
 | [(.lst xs,_)]=>some (.int xs.length,om)
 | [(.tup xs,_)]=>some (.int xs.length,om)
 | [(.scr ns,_)]=>some (.int ns.length,om)
 | [(.str z,_)]=>if z.length<=Au then some (.int z.length,om) else none
 | _=>none
def Zg (hK:M.K=X.K) (hg:Gl X "len") (hm:X.mg "len" = none) (ha:PA X (e::es) (tL M fa vs)) (he:A5 (e::es) X.env=(false,eval e X.env)::A5 es X.env) (hpl:(Cz pos (A5 es X.env)).any (·.1)=false):
  PE X (.Call (.Name "len" p) (e::es) [] pos) (tE M (Am AO fa) vs):=by
 refine Bc (Hw (zgo.or Xg) hg hm PySem.boot_len ha (he:=he) (hpl:=hpl)) λ σ H Q h=>GF (λ xs z c ws H fps fp Q ho tm nz zd lf=>?_) h;unfold AO at ho;split at ho
 ·rename_i xs d;cases ho;obtain ⟨v,r,f1,f2,rfl,_,_,o1,h2⟩:=tm;obtain ⟨rfl,_⟩:=h2;obtain ⟨q,us,rfl,hs,hl⟩:=o1.seqL;exact .inl ⟨q,us,rfl,.inl (by rw [<- hK];exact hs),by rw [hl];exact D3 lf⟩
 ·rename_i xs d;cases ho;obtain ⟨v,r,f1,f2,rfl,_,_,o1,h2⟩:=tm;obtain ⟨rfl,_⟩:=h2;obtain ⟨q,us,rfl,hs,hl⟩:=o1.seqT;exact .inl ⟨q,us,rfl,.inr (by rw [<- hK];exact hs),by rw [hl];exact D3 lf⟩
 ·rename_i ns d;cases ho;obtain ⟨v,r,f1,f2,rfl,_,_,o1,h2⟩:=tm;obtain ⟨rfl,_⟩:=h2;rw [Own] at o1;obtain ⟨_,q,rfl,hp⟩:=o1;refine .inl ⟨q,ns.map V.int,rfl,.inl ?_,by rw [Bg];exact D3 lf⟩;rw [<- hK];exact hp.elim (λ h=>.inl (.inr h)) .inr
 ·rename_i z d;split at ho
  ·rename_i hl;cases ho;obtain ⟨v,r,f1,f2,rfl,_,_,o1,h2⟩:=tm;obtain ⟨rfl,_⟩:=h2;rw [Own] at o1;obtain ⟨rfl,_⟩:=o1;exact .inr ⟨_,rfl,hl,D3 lf⟩
  ·cases ho
 ·cases ho
def N2 (k:Int->Int->Int):List (PV×Nat)->Option (PV×Nat)
 | [(.int i,_),(.int j,_)]=>some (.int (k i j),om)
 | _=>none
def VF {k:Int->Int->Int}{xs:List (PV×Nat)}{z:PV}{c:Nat}{ws:List V}{fps:AI}{fp F:List Addr}{Z:Addr->Prop} (ho:N2 k xs=some (z,c)) (tm:Tmps M.K H Z xs ws fp) (lf:Bf M H fps vs F z c Q):∃ i j,ws=[.int i,.int j]/\Q (.int (k i j)) H:=by
 unfold N2 at ho;split at ho
 ·rename_i i d j e;cases ho;obtain ⟨v,r,f1,f2,rfl,_,_,o1,h2⟩:=tm;obtain ⟨v2,r2,f3,f4,rfl,_,_,o2,h3⟩:=h2;obtain ⟨rfl,_⟩:=h3;rw [Own] at o1 o2;obtain ⟨rfl,_⟩:=o1;obtain ⟨rfl,_⟩:=o2;exact ⟨_,_,rfl,D3 lf⟩
 ·cases ho
def Q7:List (PV×Nat)->Option (PV×Nat)
 | [(.lst xs,_)]=>some (.tup xs,0)
 | [(.tup xs,_)]=>some (.tup xs,0)
 | _=>none
def Q5:List (PV×Nat)->Option (PV×Nat)
 | [(.lst xs,_)]=>some (.lst xs,d1 xs)
 | [(.tup xs,_)]=>some (.lst xs,d1 xs)
 | _=>none
def qN (hK:M.K=X.K) (hg:Gl X "tuple") (hm:X.mg "tuple" = none) (ha:PA X (e::es) (tL M fa vs)) (he:A5 (e::es) X.env=(false,eval e X.env)::A5 es X.env) (hpl:(Cz pos (A5 es X.env)).any (·.1)=false):
  PE X (.Call (.Name "tuple" p) (e::es) [] pos) (tE M (Am Q7 fa) vs):=by
 refine Bc (Mj Xl hg hm rfl ha (he:=he) (hpl:=hpl)) λ σ H Q h=>GF (λ xs z c ws H fps fp Q ho tm nz zd lf=>?_) h;unfold Q7 at ho;split at ho
 ·rename_i xs d;cases ho;obtain ⟨v,r,f1,f2,rfl,rfl,_,o1,h2⟩:=tm;obtain ⟨rfl,rfl⟩:=h2;obtain ⟨q,us,rfl,hs,ol⟩:=(cold (fp:=f1) o1 λ a ha=>nz a (BC _ ha)).coldL;exact ⟨q,us,rfl,.inl ⟨.inl (.inl hs),λ l hl=>LL lf ol hl⟩⟩
 ·rename_i xs d;cases ho;obtain ⟨v,r,f1,f2,rfl,rfl,_,o1,h2⟩:=tm;obtain ⟨rfl,rfl⟩:=h2;have c0:=cold (fp:=f1) o1 λ a ha=>nz a (BC _ ha);obtain ⟨q,us,rfl,hs,ol⟩:=c0.coldT;exact ⟨q,us,rfl,.inr ⟨.inl (.inl hs),Jj (x:=.tup xs) lf c0⟩⟩
 ·cases ho
def qI (hK:M.K=X.K) (hg:Gl X "list") (hm:X.mg "list" = none) (ha:PA X (e::es) (tL M fa vs)) (he:A5 (e::es) X.env=(false,eval e X.env)::A5 es X.env) (hpl:(Cz pos (A5 es X.env)).any (·.1)=false):
  PE X (.Call (.Name "list" p) (e::es) [] pos) (tE M (Am Q5 fa) vs):=by
 refine Bc (Mj Xh hg hm rfl ha (he:=he) (hpl:=hpl)) λ σ H Q h=>GF (λ xs z c ws H fps fp Q ho tm nz zd lf=>?_) h;unfold Q5 at ho;split at ho
 ·rename_i xs d;cases ho;obtain ⟨v,r,f1,f2,rfl,rfl,_,o1,h2⟩:=tm;obtain ⟨rfl,rfl⟩:=h2;obtain ⟨q,us,rfl,hs,ol⟩:=(cold (fp:=f1) o1 λ a ha=>nz a (BC _ ha)).coldL;exact ⟨q,us,rfl,.inl (.inl (.inl hs)),λ l hl=>HL lf ol hl⟩
 ·rename_i xs d;cases ho;obtain ⟨v,r,f1,f2,rfl,rfl,_,o1,h2⟩:=tm;obtain ⟨rfl,rfl⟩:=h2;obtain ⟨q,us,rfl,hs,ol⟩:=(cold (fp:=f1) o1 λ a ha=>nz a (BC _ ha)).coldT;exact ⟨q,us,rfl,.inr (.inl (.inl hs)),λ l hl=>HL lf ol hl⟩
 ·cases ho
end
section
variable {X:Cx}{M:Fm}{a b:Expr}{f g:Fx}{fa:Fa}{vs vs':List Nat}{pos p:Pos}{σ:St}{H:Hp}{Q:VK}{e:Expr}{es:List Expr}
def xH (hc:X.calm=true):zzr X (.builtin "all") (λ xs H Q=>∃ (p:Addr) (bs:List Bool),xs=[.ref p]/\Cf X.K H p (bs.map V.bl)/\Q (.bl (bs.all id)) H):=by
 intro pins s σ H xs us Q I r h;obtain ⟨p,bs,rfl,hq,q⟩:=h;obtain ⟨u,rfl,rx⟩:=Eu r;cases rx;obtain ⟨its,rv,pl,hz⟩:=I.list hq;have hl:=rv.length;rw [Bg] at hl;refine call_all_walk (wpAny_pyIter_list pl.isList ?_);have hlt:p < s.heap.objs.size:=by obtain ⟨o,n,e,_⟩:=pl;exact Bl e
 have hne:p≠s.heap.objs.size:=BM hlt;refine ⟨s.heap.objs.size,_,_,its.toArray.size,_,_,λ i=>bs.getD i true,rfl,Walks.list (A:=X.A.in1) (show X.A.in1.handled=none from I.ok.hd hc) s.heap.objs.size p hne its.toArray,⟨⟨_,Ea _ rfl,rfl,rfl⟩,?_⟩,?_,λ h' tk k=>?_⟩
 ·exact pl.isList.at λ o e=>CL _ e
 ·intro i v s' Q' E' hv hq';have hv':its[i]?=some v:=by simpa using hv
  have hi:i < bs.length:=by rw [hl];exact (ja6.mp hv').1
  obtain ⟨w,e1,e2⟩:=rv.get (i:=i) (x:=.bl bs[i]) (by simp [hi]);rw [hv'] at e1;cases e1;cases e2;refine Gw ?_
  have:bs.getD i true=bs[i]:=by simp [Ri,hi]
  dsimp only at hq';rw [this] at hq';exact hq'
 ·have I1:L2.Inv X pins σ H { s with heap:=s.heap.push { cls:=.type "list_iterator",data:=.fields #[.ref p,rawInt 0] } }:=I.kept (t':=s.toks) λ b o e=>CL _ e;obtain ⟨f0,f1,f2,f3,f4,f5⟩:=I.fpOk (H':=H) (AS s.heap.objs.size) (I.hok.fresh (AS _));have I2:L2.Inv X pins σ H { s with heap:=h',toks:=tk }:=I1.turned (t':=tk) (λ b o hb e=>k b o (by simpa using hb) e) f0 f1 f3 f4 f5;refine ⟨.bl _,H,I2,rfl,?_⟩;have e:(Bw its.toArray.size).all (λ i=>bs.getD i true)=bs.all id:=by
   rw [Cb,<- hl];rw [HH];simp only [jb4,jd0,id];constructor
   ·intro h x hx;obtain ⟨i,hi,rfl⟩:=JK hx
    have:=h i hi
    simpa [Ri,hi] using this
   ·intro h i hi;simp [Ri,hi];exact h _ (EN hi)
  rw [e];exact q
def allB:List PV->Option (List Bool)
 | []=>some []
 | .bl b::r=>(allB r).map (b::·)
 | _=>none
def DV:List (PV×Nat)->Option (PV×Nat)
 | [(.lst xs,_)]=>(allB xs).map λ bs=>(.bl (bs.all id),om)
 | _=>none
theorem V2 {K:Frag}{Z:Addr->Prop}:∀ {xs:List PV}{ws:List V}{bs:List Bool},allB xs=some bs->OwnL K H Z xs 0 ws []->ws=bs.map V.bl
 | [],ws,bs,e,h=>by cases e;rw [OwnL] at h;exact h.1
 | .bl b::r,ws,bs,e,h=>by
  obtain ⟨bs',e1,rfl⟩:=ja5.mp e;rw [OwnL] at h;obtain ⟨v,s,f1,f2,rfl,ef,dj,h1,h2⟩:=h;obtain ⟨rfl,rfl⟩:f1=[]/\f2=[]:=by simpa using ef.symm
  rw [Own] at h1;rw [h1.1,V2 e1 h2];rfl
 | .non::_,_,_,e,_=>by cases e
 | .int _::_,_,_,e,_=>by cases e
 | .str _::_,_,_,e,_=>by cases e
 | .lst _::_,_,_,e,_=>by cases e
 | .tup _::_,_,_,e,_=>by cases e
 | .emp::_,_,_,e,_=>by cases e
 | .dko::_,_,_,e,_=>by cases e
 | .scr _::_,_,_,e,_=>by cases e
 | .dct _::_,_,_,e,_=>by cases e
 | .exn _::_,_,_,e,_=>by cases e
def YZ (hc:X.calm=true) (hg:Gl X "all") (hm:X.mg "all" = none) (ha:PA X (e::es) (tL M fa vs)) (he:A5 (e::es) X.env=(false,eval e X.env)::A5 es X.env) (hpl:(Cz pos (A5 es X.env)).any (·.1)=false):
  PE X (.Call (.Name "all" p) (e::es) [] pos) (tE M (Am DV fa) vs):=by
 refine Bc (Hw (xH hc) hg hm rfl ha (he:=he) (hpl:=hpl)) λ σ H Q h=>GF (λ xs z c ws H fps fp Q ho tm nz zd lf=>?_) h;unfold DV at ho;split at ho
 ·rename_i xs d;obtain ⟨bs,eb,e2⟩:=ja5.mp ho;cases e2;obtain ⟨v,r,f1,f2,rfl,rfl,_,o1,h2⟩:=tm;obtain ⟨rfl,rfl⟩:=h2;obtain ⟨q,us,rfl,hs,ol⟩:=(cold (fp:=f1) o1 λ a ha=>nz a (BC _ ha)).coldL
  have:=V2 eb ol
  subst this;exact ⟨q,bs,rfl,.inl (.inl hs),Dz lf⟩
 ·cases ho
def GQ:List PV->Option (List Int)
 | []=>some []
 | .int i::r=>(GQ r).map (i::·)
 | _=>none
theorem JW {K:Frag}{Z:Addr->Prop}:∀ {xs:List PV}{ws:List V}{ns:List Int},GQ xs=some ns->OwnL K H Z xs 0 ws []->ws=ns.map V.int
 | [],ws,ns,e,h=>by cases e;rw [OwnL] at h;exact h.1
 | .int b::r,ws,ns,e,h=>by
  obtain ⟨ns',e1,rfl⟩:=ja5.mp e;rw [OwnL] at h;obtain ⟨v,s,f1,f2,rfl,ef,dj,h1,h2⟩:=h;obtain ⟨rfl,rfl⟩:f1=[]/\f2=[]:=by simpa using ef.symm
  rw [Own] at h1;rw [h1.1,JW e1 h2];rfl
 | .non::_,_,_,e,_=>by cases e
 | .bl _::_,_,_,e,_=>by cases e
 | .str _::_,_,_,e,_=>by cases e
 | .lst _::_,_,_,e,_=>by cases e
 | .tup _::_,_,_,e,_=>by cases e
 | .emp::_,_,_,e,_=>by cases e
 | .dko::_,_,_,e,_=>by cases e
 | .scr _::_,_,_,e,_=>by cases e
 | .dct _::_,_,_,e,_=>by cases e
 | .exn _::_,_,_,e,_=>by cases e
theorem JX:∀ {ns:List Int}{its:List Af},Vals (ns.map V.int) its->∃ xs:List (Int×Tok),its=xs.map (λ p=>Value.int p.1 p.2)/\xs.map (·.1)=ns
 | [],its,h=>by cases h;exact ⟨[],rfl,rfl⟩
 | n::ns,its,h=>by
  cases h with
  | cons r rr=>
   obtain ⟨t,rfl⟩:=r;obtain ⟨xs,rfl,rfl⟩:=JX rr;exact ⟨(n,t)::xs,rfl,rfl⟩
def zM (hc:X.calm=true):zzr X (.builtin "min") (λ xs H Q=>∃ (p:Addr) (ns:List Int),xs=[.ref p]/\Cf X.K H p (ns.map V.int)/\ns≠[]/\∀ m,m∈ns->(∀ a∈ns,m<=a)->Q (.int m) H):=by
 intro pins s σ H xs us Q I r h;obtain ⟨p,ns,rfl,hq,hn,q⟩:=h;obtain ⟨u,rfl,rx⟩:=Eu r;cases rx;obtain ⟨its,rv,pl,hz⟩:=I.list hq;obtain ⟨zs,rfl,rfl⟩:=JX rv;have e:(zs.map λ p=>Value.int p.1 p.2).toArray=EG zs.toArray:=by simp [EG]
 rw [e] at pl;have h0:0 < zs.length:=by
  cases zs with
  | nil=>exact absurd rfl hn
  | cons _ _=>simp
 refine min_intList (I.ok.hd hc) pl.isList (by simpa using h0) λ v h' tk hv k=>?_;obtain ⟨l1,l2⟩:=argBest_lt (Cy zs.toArray) (zs.toArray.size - 1);have hv':=hv;obtain ⟨t,rfl⟩:=Mz hv;have at':∀ j,j < zs.length->Cy zs.toArray j∈zs.map (·.1):=λ j hj=>by
  unfold Cy;simp [hj];exact ⟨_,EN hj⟩
 refine ⟨.int _,H,I.kept (t':=tk) k,⟨t,rfl⟩,q _ (at' _ ?_) λ a ha=>?_⟩
 ·have:zs.toArray.size=zs.length:=by simp
  omega
 ·obtain ⟨z,hz,rfl⟩:=jf4.mp ha;obtain ⟨j,hj,rfl⟩:=JK hz;have hzs:zs.toArray.size=zs.length:=by simp
  have:=l2 j (by omega)
  have e:Cy zs.toArray j=zs[j].1:=by unfold Cy;simp [hj]
  rw [e] at this;exact this
def jK {prog:A7}{w:A6}{A:AZ}{E:Af->Aj->Prop}{s:Aj}{l:Addr}{xs:Array (Int×Tok)}{Q:Af->Aj->Prop} (hh:A.handled=none) (hl:s.heap.IsTuple l (EG xs)) (hne:0 < xs.size)
  (h:∀ v h' tk,(EG xs)[argBest (λ i j=>decide (Cy xs i < Cy xs j)) (xs.size - 1)]?=some v->(∀ b o,s.heap.get? b=some o->h'.get? b=some o)->Q v { s with heap:=h',toks:=tk }):
  As (Aq prog w) A (call (.builtin "min") [.ref l]) Q E s:=by
 have hlt:l < s.heap.objs.size:=by obtain ⟨_,e,_⟩:=hl;exact Bl e
 refine call_min_walk (wpAny_pyIter_tuple hl ?_);refine ⟨_,[_,l],[_],_,_,_,_,rfl,Walks.tuple (A:=A.in1) hh _ l (BM hlt) (EG xs),⟨⟨_,Ea _ rfl,rfl,rfl⟩,hl.push _⟩,λ c hc=>?_,by simpa [EG] using hne,CmpOf.ints_lt (Cy xs) (λ _ _=>Mz),λ v h' tk hP hk=>?_⟩
 ·show c < (s.heap.push _).objs.size;rw [Ig];rcases jb2.mp hc with rfl | hc
  ·exact JJ _
  ·rcases jb2.mp hc with rfl | hc
   ·exact Lv hlt
   ·cases hc
 ·exact h v h' tk (by simpa [EG] using hP) λ c o e=>by
   refine hk c o (λ hm=>?_) (CL _ e);rcases jb2.mp hm with e1 | hm
   ·exact absurd (e1 ▸ Bl e) (Ed _)
   ·cases hm
def zN (hc:X.calm=true):zzr X (.builtin "min") (λ xs H Q=>∃ (p:Addr) (ns:List Int),xs=[.ref p]/\Dc X.K H p (ns.map V.int)/\ns≠[]/\∀ m,m∈ns->(∀ a∈ns,m<=a)->Q (.int m) H):=by
 intro pins s σ H xs us Q I r h;obtain ⟨p,ns,rfl,hq,hn,q⟩:=h;obtain ⟨u,rfl,rx⟩:=Eu r;cases rx;obtain ⟨its,rv,pl,hz⟩:=I.tuple hq;obtain ⟨zs,rfl,rfl⟩:=JX rv;have e:(zs.map λ p=>Value.int p.1 p.2).toArray=EG zs.toArray:=by simp [EG]
 rw [e] at pl;have h0:0 < zs.length:=by
  cases zs with
  | nil=>exact absurd rfl hn
  | cons _ _=>simp
 refine jK (I.ok.hd hc) pl (by simpa using h0) λ v h' tk hv k=>?_;obtain ⟨l1,l2⟩:=argBest_lt (Cy zs.toArray) (zs.toArray.size - 1);have hv':=hv;obtain ⟨t,rfl⟩:=Mz hv;have at':∀ j,j < zs.length->Cy zs.toArray j∈zs.map (·.1):=λ j hj=>by
  unfold Cy;simp [hj];exact ⟨_,EN hj⟩
 refine ⟨.int _,H,I.kept (t':=tk) k,⟨t,rfl⟩,q _ (at' _ ?_) λ a ha=>?_⟩
 ·have:zs.toArray.size=zs.length:=by simp
  omega
 ·obtain ⟨z,hz,rfl⟩:=jf4.mp ha;obtain ⟨j,hj,rfl⟩:=JK hz;have hzs:zs.toArray.size=zs.length:=by simp
  have:=l2 j (by omega)
  have e:Cy zs.toArray j=zs[j].1:=by unfold Cy;simp [hj]
  rw [e] at this;exact this
def Qq (ns:List Int):Bool:=decide (ns.length<=2 ^ 20) && ns.all λ i=>decide (-(2 ^ 40)<=i) && decide (i<=2 ^ 40)
theorem jB {ns:List Int} (h:∀ i∈ns,-(2 ^ 40)<=i/\i<=2 ^ 40):∀ j:Nat,-(2 ^ 40) * (j:Int)<=(ns.take j).sum/\(ns.take j).sum<=2 ^ 40 * (j:Int):=by
 induction ns with
 | nil=>intro j;rw [Ro,Wi];omega
 | cons n ns ih=>
  intro j;cases j with
  | zero=>rw [Rp,Wi];omega
  | succ j=>
   have:=ih (λ i hi=>h i (AU _ hi)) j
   have hn:=h n Ba;rw [Rx,List.sum_cons];omega
def zP (hc:X.calm=true):zzr X (.builtin "sum") (λ xs H Q=>∃ (p:Addr) (ns:List Int),xs=[.ref p]/\Cf X.K H p (ns.map V.int)/\Qq ns=true/\Q (.int ns.sum) H):=by
 intro pins s σ H xs us Q I r h;obtain ⟨p,ns,rfl,hq,hn,q⟩:=h;obtain ⟨u,rfl,rx⟩:=Eu r;cases rx;obtain ⟨its,rv,pl,hz⟩:=I.list hq;obtain ⟨zs,rfl,rfl⟩:=JX rv;have e:(zs.map λ p=>Value.int p.1 p.2).toArray=EG zs.toArray:=by simp [EG]
 rw [e] at pl;unfold Qq at hn;rw [AF] at hn;have hl:(zs.map (·.1)).length<=2 ^ 20:=by simpa using hn.1
 have hb:∀ i∈zs.map (·.1),-(2 ^ 40)<=i/\i<=2 ^ 40:=λ i hi=>by
  have:=jb4.mp hn.2 i hi
  rw [AF] at this;exact ⟨of_decide_eq_true this.1,of_decide_eq_true this.2⟩
 have sz:zs.toArray.size=zs.length:=by simp
 rw [Bg] at hl;have pre:∀ j,preSum (Cy zs.toArray) j=((zs.map (·.1)).take j).sum:=λ j=>by
  rw [preSum_eq]
 refine sum_intList (I.ok.hd hc) pl.isList (λ j hj=>⟨?_,?_⟩) λ h' tk t' k=>⟨.int _,H,I.kept (t':=tk) k,⟨t',rfl⟩,?_⟩
 ·have e1:Cy zs.toArray j=zs[j].1:=by unfold Cy;simp [show j < zs.length by omega]
  have:=hb (zs[j]'(by omega)).1 (jf4.mpr ⟨_,EN _,rfl⟩)
  rw [e1];unfold InLong;omega
 ·have:=jB hb (j + 1)
  rw [pre];unfold InLong;omega
 ·rw [pre,sz]
  have:((zs.map (·.1)).take zs.length)=zs.map (·.1):=by
   rw [List.take_of_length_le];simp
  rw [this];exact q
def Bv:Int->List Int->Int
 | n,[]=>n
 | n,m::r=>Bv (if m < n then m else n) r
theorem Ov:∀ (r:List Int) (n:Int),Bv n r∈n::r
 | [],n=>Ba
 | m::r,n=>by
  unfold Bv
  have:=Ov r (if m < n then m else n)
  rcases jb2.mp this with h | h
  ·rw [h];split
   ·exact AU _ Ba
   ·exact Ba
  ·exact AU _ (AU _ h)
theorem minI_le:∀ (r:List Int) (n:Int),∀ a∈n::r,Bv n r<=a
 | [],n,a,h=>by
  have:a=n:=by simpa using h
  rw [this];exact N4 _
 | m::r,n,a,h=>by
  unfold Bv;have ih:=minI_le r (if m < n then m else n);have h1:=ih _ Ba;have h2:(if m < n then m else n)<=n/\(if m < n then m else n)<=m:=by split <;> omega
  rcases jb2.mp h with e | h
  ·rw [e];omega
  ·rcases jb2.mp h with e | h
   ·rw [e];omega
   ·exact ih a (AU _ h)
def Sq {ns:List Int}{m m':Int} (h1:m∈ns) (h2:∀ a∈ns,m<=a) (h3:m'∈ns) (h4:∀ a∈ns,m'<=a):m=m':=by
 have:=h2 m' h3
 have:=h4 m h1
 omega
def E5:List (PV×Nat)->Option (PV×Nat)
 | [(.lst xs,_)]=>match GQ xs with
  | some (n::r)=>some (.int (Bv n r),om)
  | _=>none
 | [(.tup xs,_)]=>match GQ xs with
  | some (n::r)=>some (.int (Bv n r),om)
  | _=>none
 | xs=>N2 (λ i j=>if j < i then j else i) xs
def Qk:List (PV×Nat)->Option (PV×Nat)
 | [(.lst xs,_)]=>match GQ xs with
  | some ns=>if Qq ns=true then some (.int ns.sum,om) else none
  | none=>none
 | _=>none
def qL (hc:X.calm=true) (hg:Gl X "min") (hm:X.mg "min" = none) (ha:PA X (e::es) (tL M fa vs)) (he:A5 (e::es) X.env=(false,eval e X.env)::A5 es X.env) (hpl:(Cz pos (A5 es X.env)).any (·.1)=false):
  PE X (.Call (.Name "min" p) (e::es) [] pos) (tE M (Am E5 fa) vs):=by
 refine Bc (Hw (((zL hc).or (zM hc)).or (zN hc)) hg hm rfl ha (he:=he) (hpl:=hpl)) λ σ H Q h=>GF (λ xs z c ws H fps fp Q ho tm nz zd lf=>?_) h;unfold E5 at ho;split at ho
 ·rename_i xs d;split at ho
  ·rename_i n r eb;cases ho;obtain ⟨v,r',f1,f2,rfl,rfl,_,o1,h2⟩:=tm;obtain ⟨rfl,rfl⟩:=h2;obtain ⟨q,us,rfl,hs,ol⟩:=(cold (fp:=f1) o1 λ a ha=>nz a (BC _ ha)).coldL
   have:=JW eb ol
   subst this;refine .inl (.inr ⟨q,n::r,rfl,.inl (.inl hs),by simp,λ m h1 h2=>?_⟩);rw [Sq h1 h2 (Ov r n) (minI_le r n)];exact D3 lf
  ·cases ho
 ·rename_i xs d;split at ho
  ·rename_i n r eb;cases ho;obtain ⟨v,r',f1,f2,rfl,rfl,_,o1,h2⟩:=tm;obtain ⟨rfl,rfl⟩:=h2;obtain ⟨q,us,rfl,hs,ol⟩:=(cold (fp:=f1) o1 λ a ha=>nz a (BC _ ha)).coldT
   have:=JW eb ol
   subst this;refine .inr ⟨q,n::r,rfl,.inl (.inl hs),by simp,λ m h1 h2=>?_⟩;rw [Sq h1 h2 (Ov r n) (minI_le r n)];exact D3 lf
  ·cases ho
 ·exact .inl (.inl (VF ho tm lf))
def qM (hc:X.calm=true) (hg:Gl X "sum") (hm:X.mg "sum" = none) (ha:PA X (e::es) (tL M fa vs)) (he:A5 (e::es) X.env=(false,eval e X.env)::A5 es X.env) (hpl:(Cz pos (A5 es X.env)).any (·.1)=false):
  PE X (.Call (.Name "sum" p) (e::es) [] pos) (tE M (Am Qk fa) vs):=by
 refine Bc (Hw (zP hc) hg hm rfl ha (he:=he) (hpl:=hpl)) λ σ H Q h=>GF (λ xs z c ws H fps fp Q ho tm nz zd lf=>?_) h;unfold Qk at ho;split at ho
 ·rename_i xs d;split at ho
  ·rename_i ns eb;split at ho
   ·rename_i hk;cases ho;obtain ⟨v,r',f1,f2,rfl,rfl,_,o1,h2⟩:=tm;obtain ⟨rfl,rfl⟩:=h2;obtain ⟨q,us,rfl,hs,ol⟩:=(cold (fp:=f1) o1 λ a ha=>nz a (BC _ ha)).coldL
    have:=JW eb ol
    subst this;exact ⟨q,ns,rfl,.inl (.inl hs),hk,D3 lf⟩
   ·cases ho
  ·cases ho
 ·cases ho
abbrev Fn:=List PV->Rz (PV×Nat×PV)
def Br (K:Frag) (io:Bool) (n:Nat) (F:Fn):Sp:=λ ws H Q E=>ws.length=n/\∃ (xs:List PV) (Zo:Addr->Prop) (x0:PV) (v0:V) (fp0:List Addr),
 (∀ a,Zo a->H a≠none)/\(∀ a∈fp0,¬ Zo a)/\(io=false->fp0=[]/\OwnL K H Zo xs 0 ws []) /\
 (io=true->∃ xr wr,xs=x0::xr/\ws=v0::wr/\Own K H (λ _=>True) x0 om v0 fp0/\OwnL K H (λ a=>Zo a\/a∈fp0) xr 0 wr []) /\
 (match F xs with
  | .ok (y,d,z0)=>∀ v H' fp fp0',CO (λ a=>a∈fp0) H H'->(∀ a,H a≠none->H' a≠none)->(∀ a∈fp0',a∈fp0\/H a=none)->(∀ a∈fp0',¬ Zo a)->(io=false->fp0'=[])->(io=true->Own K H' (λ _=>True) z0 om v0 fp0') ->
    Own K H' (λ a=>(Zo a\/a∈fp0')\/a∈fp) y d v fp->(∀ a∈fp,H a=none/\¬ (Zo a\/a∈fp0'))->Q v H'
  | .exc c=>∀ H',CO (λ a=>a∈fp0) H H'->(∀ a,H a≠none->H' a≠none)->E (.int (c:Int) 0) none H'
  | .no=>False)
def A8 (F:Fn) (fa:Fa):Fx:=λ ρ=>(fa ρ).bind λ (xs,ρ1)=>match F (xs.map (·.1)) with
 | .ok (y,d,_)=>.ok (y,d,ρ1)
 | .exc c=>.exc c
 | .no=>.no
theorem qO {F:Fn}{n:Nat} (hF:∀ xs,xs.length≠n->F xs=.no) {σ:St}{H:Hp}{Q:VK} (hq:tE M (A8 F fa) vs σ H Q):UB (Br M.K false n F) M.W (tL M fa vs) σ H Q:=by
 obtain ⟨ρ,fps,rep,q⟩:=hq;refine ⟨ρ,fps,rep,?_⟩;unfold A8 at q;cases ef:fa ρ with
 | no=>rw [ef] at q;exact q
 | exc c=>rw [ef] at q;exact q
 | ok p=>
  obtain ⟨xs,ρ1⟩:=p;rw [ef] at q;intro ws H1 fps1 f1 k1 g1 rep1 o1 t1;dsimp only [Rz.bind] at q;have back:∀ a,H1 a=none->H a=none:=λ a e=>by
   cases e':H a with
   | none=>rfl
   | some o=>exact absurd e (k1.dom a (by rw [e'];simp))
  show Br M.K false n F ws H1 Q (Ei (M.W σ));have hlen:xs.length=n:=by
   by_cases e:xs.length=n
   ·exact e
   ·rw [hF (xs.map (·.1)) (by rw [Bg];exact e)] at q;exact q.elim
  refine ⟨by rw [o1.length,hlen],xs.map (·.1),Zv M vs fps1,.non,.non,[],λ a z=>rep1.zdom z.zf,λ _ z=>(nomatch z),λ _=>⟨rfl,o1.cold λ a ha z=>t1.ndj a ha z.zf⟩,(λ h=>nomatch h),?_⟩;cases eF:F (xs.map (·.1)) with
  | no=>rw [eF] at q;exact q
  | exc c=>
   rw [eF] at q;exact λ H' kp _=>q H' fps1 (k1.trans (KD.grow λ a o h=>kp a o h λ z=>nomatch z))
  | ok r=>
   obtain ⟨y,d,z0⟩:=r;rw [eF] at q;intro v H' fp fp0' kp dm _ _ h0 _ oy hf;have e0:=h0 rfl;subst e0;have kk:∀ a o,H1 a=some o->H' a=some o:=λ a o h=>kp a o h λ z=>nomatch z
   refine q v H' fps1 fp (k1.trans (KD.grow kk)) g1 (rep1.grow kk) (oy.weak λ a h=>h.elim (λ h=>.inl (.inl h)) .inr) ⟨λ a ha=>back a (hf a ha).1,λ a ha=>rep1.nz (hf a ha).1⟩
end
def zH {X:Cx}:zzr X (.type "int") (λ xs H Q=>∃ z n,xs=[.str z]/\J7 z=some n/\z.length<=640/\Q (.int n) H):=by
 intro pins s σ H xs us Q I r h;obtain ⟨z,n,rfl,hn,hl,q⟩:=h;obtain ⟨u,rfl,t,rfl⟩:=Eu r;exact PySem.W.KIN.call_text hn hl ⟨.int n,H,I.tok _,⟨_,rfl⟩,q⟩
def Iz (neg:Bool):R2:=λ v w H Q=>∃ y x,v=.str y/\w=.str x/\Q (.bl (neg^^J0 x y)) H
def YC {X:Cx}:OpR X (BU .In) (Iz false):=by
 intro pins s σ H x y v u Q I rx ry h;obtain ⟨b,a,rfl,rfl,q⟩:=h;obtain ⟨t,rfl⟩:=rx;obtain ⟨t',rfl⟩:=ry;exact SB.contains ⟨.bl _,H,I,rfl,by simpa using q⟩
def jv {X:Cx}:OpR X (BU .NotIn) (Iz true):=by
 intro pins s σ H x y v u Q I rx ry h;obtain ⟨b,a,rfl,rfl,q⟩:=h;obtain ⟨t,rfl⟩:=rx;obtain ⟨t',rfl⟩:=ry;exact SB.notContains ⟨.bl _,H,I,rfl,by simpa using q⟩
def ZF {v:PV}{u:Af} (h:NM v u=true):∃ w:V,RelV w u/\∀ K H Z,Own K H Z v om w []:=by
 unfold NM at h;split at h
 ·rename_i z z' t
  have:=eq_of_beq h
  subst this;exact ⟨.str z,⟨t,rfl⟩,λ K H Z=>by rw [Own];exact ⟨rfl,rfl⟩⟩
 ·rename_i z z' t
  have:=eq_of_beq h
  subst this;exact ⟨.int z,⟨t,rfl⟩,λ K H Z=>by rw [Own];exact ⟨rfl,rfl⟩⟩
 ·cases h
def Q0 {p:Str->Bool}{n:Nat} (h:XN.findIdx? p=some n):n < 50:=by
 have:=(jf0.mp h).1
 exact N6 this (by decide)
section
variable {prog:A7}{w:A6}{A:AZ}{E:Af->Aj->Prop}{s:Aj}
structure ZApart (zz ti to p1 p2 q1 q2:Addr):Prop where
 ne1:ti≠zz
 ne2:to≠zz
 ne3:p1≠zz
 ne4:p2≠zz
 ne5:ti≠to
 ne6:ti≠p1
 ne7:ti≠p2
 ne8:to≠p1
 ne9:to≠p2
 nea:p1≠p2
 neb:q1≠zz
 nec:q1≠to
 ned:q1≠p1
 nee:q1≠p2
 nef:q2≠zz
 neg:q2≠to
 neh:q2≠p1
 nei:q2≠p2
section
variable {zz ti to p1 p2 q1 q2:Addr}{n1 n2:Nat}{us vs:Array Af}{u v a b:Af}
end
end
section
variable {X:Cx}{pins:List (Addr×Obj)}{σ:St}{H:Hp}{s:Aj}{h':Heap}
end
section
variable {X:Cx}{tg:Expr}
end
inductive Vw where
 | rev | enm | zp
def T5:Nat->List PV->List PV
 | _,[]=>[]
 | i,x::xs=>.tup [.int (i:Int),x]::T5 (i + 1) xs
def HU:List PV->List PV->List PV
 | x::xs,y::ys=>.tup [x,y]::HU xs ys
 | _,_=>[]
def Vx:Vw->List PV->Option (List PV)
 | .rev,[.lst xs]=>some xs.reverse
 | .enm,[.lst xs]=>some (T5 0 xs)
 | .zp,[.lst xs,.lst ys]=>some (HU xs ys)
 | .zp,[.tup xs,.tup ys]=>some (HU xs ys)
 | _,_=>none
section
variable {is:List Nat}{M:Fm}{ρ ρ':Ag}{σ σ':St}{H H' H'':Hp}{fps fps' fps'':AI}{vs vs':List Nat}
def XM (v:Vw) (fa:Fa) (vs:List Nat) (asg:PV->Ag->Option Ag) (body:Fs):Fs:=λ ρ=>match fa ρ with
 | .ok (xs,ρ1)=>(match Vx v (xs.map (·.1)) with
  | some els=>Ci asg body els (CI (if E4 xs=true then om else 0) vs ρ1)
  | none=>.no)
 | .exc c=>.exc c
 | .no=>.no
def Y3 (v:Vw) (fa:Fa) (k:Nat) (asg:PV->Ag->Option Ag) (test:Fb) (elt:Fx):Fx:=λ ρ=>match fa ρ with
 | .ok (xs,ρ1)=>(match Vx v (xs.map (·.1)) with
  | some els=>(CC k asg test elt els ρ1 []).bindN λ (acc,ρ2)=>Cv acc ρ2
  | none=>.no)
 | .exc c=>.exc c
 | .no=>.no
end
section
variable {X:Cx}{M:Fm}{f g:Fx}{fa:Fa}{vs vs':List Nat}{a b e:Expr}{es:List Expr}{pos p p2:Pos}{σ:St}{H:Hp}{Q:VK}
theorem zE:∀ {xs:List V}{us:List Af},Vals xs us->Vals xs.reverse us.reverse
 | _,_,.nil=>.nil
 | _,_,.cons r rr=>by rw [NB,NB];exact (zE rr).append (.cons r .nil)
theorem OwnL.snoc0 {K:Frag}{H:Hp}{Z:Addr->Prop}{x:PV}{v:V}:∀ {xs:List PV}{ws:List V},OwnL K H Z xs 0 ws []->Own K H Z x 0 v []->OwnL K H Z (xs++[x]) 0 (ws++[v]) []
 | [],ws,h,o=>by
  rw [OwnL] at h;obtain ⟨rfl,_⟩:=h;rw [Lr,Lr,OwnL];exact ⟨v,[],[],[],rfl,rfl,(λ _ z=>nomatch z),o,by rw [OwnL];exact ⟨rfl,rfl⟩⟩
 | y::xs,ws,h,o=>by
  rw [OwnL] at h;obtain ⟨u,r,f1,f2,rfl,ef,_,o1,o2⟩:=h;obtain ⟨rfl,rfl⟩:f1=[]/\f2=[]:=by simpa using ef.symm
  rw [Wz,Wz,OwnL];exact ⟨u,r++[v],[],[],rfl,rfl,(λ _ z=>nomatch z),o1,OwnL.snoc0 o2 o⟩
theorem OwnL.rev {K:Frag}{H:Hp}{Z:Addr->Prop}:∀ {xs:List PV}{ws:List V},OwnL K H Z xs 0 ws []->OwnL K H Z xs.reverse 0 ws.reverse []
 | [],ws,h=>by
  rw [OwnL] at h;obtain ⟨rfl,_⟩:=h;rw [List.reverse_nil,OwnL];exact ⟨rfl,rfl⟩
 | y::xs,ws,h=>by
  rw [OwnL] at h;obtain ⟨u,r,f1,f2,rfl,ef,_,o1,o2⟩:=h;obtain ⟨rfl,rfl⟩:f1=[]/\f2=[]:=by simpa using ef.symm
  rw [NB,NB];exact OwnL.snoc0 (OwnL.rev o2) o1
def Ft:List (PV×Nat)->Option (PV×Nat)
 | [(.bl b,_)]=>some (.int (if b then 1 else 0),om)
 | [(.int i,_)]=>some (.int i,om)
 | [(.str z,_)]=>if z.length<=640 then (J7 z).map λ n=>(.int n,om) else none
 | _=>none
def qG (hg:Gl X "int") (hm:X.mg "int" = none) (ha:PA X (e::es) (tL M fa vs)) (he:A5 (e::es) X.env=(false,eval e X.env)::A5 es X.env) (hpl:(Cz pos (A5 es X.env)).any (·.1)=false):
  PE X (.Call (.Name "int" p) (e::es) [] pos) (tE M (Am Ft fa) vs):=by
 refine Bc (Mj (qfm.or zH) hg hm rfl ha (he:=he) (hpl:=hpl)) λ σ H Q h=>GF (λ xs z c ws H fps fp Q ho tm nz zd lf=>?_) h;unfold Ft at ho;split at ho
 ·cases ho;obtain ⟨v,r,f1,f2,rfl,rfl,_,o1,h2⟩:=tm;obtain ⟨rfl,rfl⟩:=h2;rw [Own] at o1;exact .inl (.inr ⟨_,by rw [o1.1],D3 lf⟩)
 ·cases ho;obtain ⟨v,r,f1,f2,rfl,rfl,_,o1,h2⟩:=tm;obtain ⟨rfl,rfl⟩:=h2;rw [Own] at o1;exact .inl (.inl ⟨_,by rw [o1.1],D3 lf⟩)
 ·rename_i z0 d0;split at ho
  ·rename_i hl;obtain ⟨n,hn,e2⟩:=ja5.mp ho;cases e2;obtain ⟨v,r,f1,f2,rfl,rfl,_,o1,h2⟩:=tm;obtain ⟨rfl,rfl⟩:=h2;rw [Own] at o1;exact .inr ⟨z0,n,by rw [o1.1],hn,hl,D3 lf⟩
  ·cases ho
 ·cases ho
end
section
variable {M:Fm}{fa:Fa}{vs:List Nat}
def Xo (K:Frag) (F:Fn):Sp:=λ ws H Q _=>∃ x0 v0 fp0,ws=[v0]/\Own K H (λ _=>True) x0 om v0 fp0/\(match F [x0] with
 | .ok (y,_,_)=>Hx y=true/\∀ v H',CO (λ a=>a∈fp0) H H'->(∀ a,H a≠none->H' a≠none)->Own K H' (λ _=>True) y om v []->Q v H'
 | _=>False)
end
section
variable {X:Cx}{M:Fm}{f g:Fx}{vs vs':List Nat}{σ:St}{H:Hp}{Q:VK}
end
section
variable {pg:A7}{wd:A6}{Ar:AZ}{Er:Af->Aj->Prop}{st:Aj}
end
section
variable {X:Cx}{M:Fm}{f:Fx}{vs:List Nat}{a:Expr}{pos p p2 pos2:Pos}
end
section
variable {prog:A7}{w:A6}{A:AZ}{E:Af->Aj->Prop}{s:Aj}{a₀:Array Keyed}
end
section
variable {prog:A7}{w:A6}{A:AZ}{E:Af->Aj->Prop}{s:Aj}
end
section
variable {X:Cx}{M:Fm}{fa:Fa}{vs:List Nat}{e:Expr}{es:List Expr}{pos p:Pos}
def XU (ns:List Int):Prop:=ns.length < 64\/(ns.Pairwise (·<=·)/\ns.length<=Au)
instance (ns:List Int):Decidable (XU ns):=inferInstanceAs (Decidable (_\/_))
def DF:Int->List Int->Int
 | n,[]=>n
 | n,m::r=>DF (if m > n then m else n) r
theorem VH:∀ (r:List Int) (n:Int),DF n r∈n::r
 | [],n=>Ba
 | m::r,n=>by
  have q:=VH r (if m > n then m else n);show DF (if m > n then m else n) r∈_;rcases jb2.mp q with z | z
  ·rw [z];split <;> simp
  ·simp [z]
theorem Vh:∀ (r:List Int) (n:Int),∀ a∈n::r,a<=DF n r
 | [],n,a,h=>by
  have e:a=n:=by simpa using h
  rw [e];exact N4 _
 | m::r,n,a,h=>by
  show a<=DF (if m > n then m else n) r;have q:=Vh r (if m > n then m else n);have q1:=q _ Ba;have q2:n<=(if m > n then m else n)/\m<=(if m > n then m else n):=by split <;> omega
  simp only [jb2] at h;rcases h with z | z | z
  ·omega
  ·omega
  ·exact q a (AU _ z)
def zK (hc:X.calm=true):zzr X (.builtin "max") (λ xs H Q=>∃ (q:Addr) (n:Int) (r:List Int),xs=[.ref q]/\Cf X.K H q ((n::r).map V.int)/\Q (.int (DF n r)) H):=by
 intro pins s σ H xs us Q I rv h;obtain ⟨q,n,r,rfl,hq,k0⟩:=h;obtain ⟨u,rfl,rx⟩:=Eu rv;cases rx;obtain ⟨its,rv2,pl,hz⟩:=I.list hq;obtain ⟨zs,rfl,ez⟩:=JX rv2;have e:(zs.map λ p=>Value.int p.1 p.2).toArray=EG zs.toArray:=by simp [EG]
 rw [e] at pl;have hsz:zs.toArray.size=zs.length:=by simp
 have h0:0 < zs.length:=by
  cases zs with
  | nil=>cases ez
  | cons _ _=>simp
 refine max_intList (I.ok.hd hc) pl.isList (by simpa using h0) λ v h' tk hv k=>?_;obtain ⟨l1,l2⟩:=argBest_gt (Cy zs.toArray) (zs.toArray.size - 1);obtain ⟨t,rfl⟩:=Mz hv;generalize argBest (λ i j=>decide (Cy zs.toArray i > Cy zs.toArray j)) (zs.toArray.size - 1)=b at *;have num:∀ j,(hj:j < zs.length)->Cy zs.toArray j=zs[j].1:=λ j hj=>by unfold Cy;simp [hj]
 have hm:Cy zs.toArray b∈n::r:=by
  rw [num b (by omega),<- ez];exact jf4.mpr ⟨_,EN _,rfl⟩
 have hg:∀ a∈n::r,a<=Cy zs.toArray b:=λ a ha=>by
  rw [<- ez] at ha;obtain ⟨z,hz',rfl⟩:=jf4.mp ha;obtain ⟨j,hj,rfl⟩:=JK hz';rw [<- num j hj];exact l2 j (by omega)
 have eb:Cy zs.toArray b=DF n r:=Int.le_antisymm (Vh r n _ hm) (hg _ (VH r n));exact ⟨.int _,H,I.kept (t':=tk) k,⟨t,rfl⟩,by rw [eb];exact k0⟩
def Gr:List (PV×Nat)->Option (PV×Nat)
 | [(.lst xs,_)]=>match GQ xs with
  | some (n::r)=>some (.int (DF n r),om)
  | _=>none
 | xs=>N2 (λ i j=>if j > i then j else i) xs
def qK (hc:X.calm=true) (hg:Gl X "max") (hm:X.mg "max" = none) (ha:PA X (e::es) (tL M fa vs)) (he:A5 (e::es) X.env=(false,eval e X.env)::A5 es X.env) (hpl:(Cz pos (A5 es X.env)).any (·.1)=false):
  PE X (.Call (.Name "max" p) (e::es) [] pos) (tE M (Am Gr fa) vs):=by
 refine Bc (Hw ((zJ hc).or (zK hc)) hg hm rfl ha (he:=he) (hpl:=hpl)) λ σ H Q h=>GF (λ xs z c ws H fps fp Q ho tm nz zd lf=>?_) h;unfold Gr at ho;split at ho
 ·rename_i xs d;split at ho
  ·rename_i n r eb;cases ho;obtain ⟨v,r',f1,f2,rfl,rfl,_,o1,h2⟩:=tm;obtain ⟨rfl,rfl⟩:=h2;obtain ⟨q,us,rfl,hs,ol⟩:=(cold (fp:=f1) o1 λ a ha=>nz a (BC _ ha)).coldL
   have:=JW eb ol
   subst this;exact .inr ⟨q,n,r,rfl,.inl (.inl hs),D3 lf⟩
  ·cases ho
 ·exact .inl (VF ho tm lf)
end
def Jr (x:PV):Option Str:=match x with
 | .non=>some "None"
 | .bl b=>some (if b then "True" else "False")
 | .int i=>if i.natAbs.log2 < 1920 then some (toString i) else none
 | .str s=>some s
 | .emp=>some (PyData.shown (.dict []))
 | .lst xs=>match BP 20 (.lst xs) with
  | some D=>if D.showable=true/\D.shown.length<=Au then some D.shown else none
  | none=>none
 | .tup xs=>match BP 20 (.tup xs) with
  | some D=>if D.showable=true/\D.shown.length<=Au then some D.shown else none
  | none=>none
 | _=>none
def GO:List (PV×Nat)->Option (PV×Nat)
 | [(x,_)]=>(Jr x).map λ s=>(.str s,om)
 | _=>none
section
variable {X:Cx}{M:Fm}{H:Hp}{σ:St}
def PU (K:Frag):List V->Hp->VK->Prop:=λ ws H Q=>∃ x d v Z f T,ws=[v]/\Own K H Z x d v f/\Jr x=some T/\Q (.str T) H
def VU {pins:List (Addr×Obj)}{s:Aj}{Z:Addr->Prop}{x:PV}{d:Nat}{v:V}{f:List Addr}{D:Ew}{a:Addr}{Q:VK} (hu:X.A.units + 64 < Cn) (hg:X.A.guards=some []) (I:L2.Inv X pins σ H s) (o:Own X.K H Z x d v f) (hD:BP 20 x=some D) (hs:D.showable=true) (hz:D.shown.length<=Au) (r:RelV v (.ref a)) (q:Q (.str D.shown) H):As (Aq X.prog X.w) X.A (call (.type "str") [.ref a]) (EP X pins σ Q) X.xe s:=by
 obtain ⟨as,ra⟩:=Gg I 20 x d v f (.ref a) D hD o r;have l:=Fp 20 x D hD;exact PySem.str_of_reads ra hs (PyData.noDict_hsm (PyData.hasDict_of_canLay D l.1)) hg (by omega) (λ _ _ e=>e) (λ h' u tk hk=>⟨.str D.shown,H,I.kept (t':=tk) hk,⟨u,rfl⟩,q⟩) hz
theorem xJ (hu:X.A.units + 64 < Cn) (hg:X.A.guards=some []):zzr X (.type "str") (PU X.K):=by
 intro pins s σ H ws us Q I rv h;obtain ⟨x,d,v,Z,f,T,rfl,o,hT,q⟩:=h;cases rv with
 | cons r rr=>
  cases rr;cases x with
  | non=>
   rw [Own] at o;obtain ⟨rfl,_⟩:=o;cases r;cases hT;exact P.str_of_none ⟨.str "None",H,I.tok _,⟨_,rfl⟩,q⟩
  | bl b=>
   rw [Own] at o;obtain ⟨rfl,_⟩:=o;cases r;cases hT;exact P.str_of_bool ⟨.str _,H,I.tok _,⟨_,rfl⟩,q⟩
  | int i=>
   rw [Own] at o;obtain ⟨rfl,_⟩:=o;obtain ⟨t,rfl⟩:=r;dsimp only [Jr] at hT;split at hT
   ·rename_i hi;cases hT;exact P.str_of_int hi ⟨.str _,H,I.tok _,⟨_,rfl⟩,q⟩
   ·cases hT
  | str z=>
   rw [Own] at o;obtain ⟨rfl,_⟩:=o;obtain ⟨t,rfl⟩:=r;cases hT;exact P.str_of_str ⟨.str _,H,I,⟨_,rfl⟩,q⟩
  | dko=>cases hT
  | emp=>
   rw [Own] at o;obtain ⟨_,a,rfl,ha⟩:=o;cases r;cases hT;obtain ⟨_,z1,vs,k1,⟨o,es,ep,h1,h2,h3,h4,h5,h6⟩⟩:=JD I.hok ha;cases k1;generalize hes:es.toList=l at h5;cases h5;have rd:Reads s.heap (.ref a) (.dict []) (a::[]++[]):=Reads.dict (es:=es) (kvs:=[]) h1 h2.1 h3 (by rw [hes];exact .nil) (by rw [hes];exact .nil);have h9:PyData.depth (.dict []) + 3<=64:=by decide
   have hroom:X.A.units + (PyData.depth (.dict []) + 3) < Cn:=Nat.lt_of_le_of_lt (Nat.add_le_add_left h9 _) hu;refine PySem.str_of_reads rd rfl (λ _ hm=>?_) hg hroom (λ _ _ e=>e) (λ h' u tk hk=>⟨.str _,H,I.kept (t':=tk) hk,⟨u,rfl⟩,q⟩) (by decide +kernel);have e9:FJ=a:=by simpa using hm
   rw [<- e9] at z1;simp at z1
  | lst xs=>
   dsimp only [Jr] at hT;split at hT
   ·rename_i D hD;split at hT
    ·rename_i hc;cases hT;obtain ⟨a,ws,d',f',rfl,ha,ol⟩:=HM o;cases r;exact VU hu hg I o hD hc.1 hc.2 rfl q
    ·cases hT
   ·cases hT
  | tup xs=>
   dsimp only [Jr] at hT;split at hT
   ·rename_i D hD;split at hT
    ·rename_i hc;cases hT;have o':=o;rw [Own] at o';obtain ⟨a,ws,rfl,ha,ol⟩:=o';cases r;exact VU hu hg I o hD hc.1 hc.2 rfl q
    ·cases hT
   ·cases hT
  | scr ns=>cases hT
  | dct _=>cases hT
  | exn _=>cases hT
variable {e:Expr}{es:List Expr}{fa:Fa}{vs:List Nat}{p pos:Pos}
def Zk (hu:X.A.units + 64 < Cn) (hgd:X.A.guards=some []) (hK:M.K=X.K) (hg:Gl X "str") (hm:X.mg "str" = none) (ha:PA X (e::es) (tL M fa vs)) (he:A5 (e::es) X.env=(false,eval e X.env)::A5 es X.env) (hpl:(Cz pos (A5 es X.env)).any (·.1)=false):
  PE X (.Call (.Name "str" p) (e::es) [] pos) (tE M (Am GO fa) vs):=by
 refine Bc (Mj (xJ hu hgd) hg hm rfl ha (he:=he) (hpl:=hpl)) λ σ H Q h=>GF (λ xs z c ws H fps fp Q ho tm nz zd lf=>?_) h;unfold GO at ho;split at ho
 ·rename_i x d;obtain ⟨T,hT,eT⟩:=ja5.mp ho;cases eT;obtain ⟨v,r,f1,f2,rfl,rfl,_,o1,h2⟩:=tm;obtain ⟨rfl,rfl⟩:=h2;rw [hK] at o1;exact ⟨x,_,v,_,f1,T,rfl,o1,hT,Jh lf⟩
 ·cases ho
end
open PySem PySem.Spec PyProof.Rows L2 PySem.Builtin PySem.Builtin.ObjectAttr PySem.Builtin.Getset_descriptor
section
variable {prog:A7}{w:A6}{A:AZ}{E:Af->Aj->Prop}{K:Frag}{h:Heap}{g:Array GenState}{d:Drawn}{t:Nat}{os:OsState}{a C:Addr}{oe:Obj}
def Ye {R:Result->Aj->Prop} (X:K.In h) (he:h.get? a=some oe) (hc:oe.cls=.ref C) (hm:Gv K C (.type "object")=some true) (hq:R (.ok (.ret (.ref C))) ⟨h,g,d,t,os⟩):
  EZ (Aq prog w) A (.call (.builtin "getset_descriptor.__get__") ⟨[.builtin "object.__class__",.ref a,.ref C],[]⟩) R ⟨h,g,d,t,os⟩:=by
 have ty:PySem.W.Looks (Aq prog w) h (typeOf (.ref a)) (.ref C):=hc ▸ (PySem.W.Looks.ld he).andThen .now;have mr:=PySem.W.looks_mroIn (M:=Aq prog w) X hm;have pl:=PySem.W.KF.slot_gs.plain;have en:=PySem.W.KF.entry_gs;refine codeAny_call_builtin pl en (PySem.W.KF.slot_gs.check _ _ _ _ _ _ _ _
  PySem.W.KF.type_class (PySem.W.KF.args_gs _ _ _) ?_)
 unfold Builtin.«getset_descriptor.__get__»;unfold descrGet;rw [PySem.W.dga_obj];refine AA (Bq ?_);unfold descrGetter descrCheckInstance;unfold descrNameAndClass isInstance;simp only [PySem.W.KF.owner_class]
 repeat lk
 refine ⟨Code.quiet_builtin _ (by decide +kernel),codeAny_builtin PySem.W.KF.entry_class ?_⟩;unfold Builtin.«object.__class__»;unfold shownTypeOf
 repeat lk
 exact hq
def xN {tk:Tok}{Q:Fin->Aj->Prop} (X:K.In h) (he:h.get? a=some oe) (hc:oe.cls=.ref C) (hm:Gv K C (.type "object")=some true) (hl:DZ K (.ref C) "__class__" = some (some (.builtin "object.__class__")))
  (hq:Q (.done (.ret (.ref C))) ⟨h,g,d,t,os⟩):As (Aq prog w) A (Builtin.«object.__getattribute__» ⟨[.ref a,.str "__class__" tk],[]⟩) Q E ⟨h,g,d,t,os⟩:=by
 have hT5:(⟨h,g,d,t,os⟩:Aj).TypeIs (.builtin "object.__class__") "getset_descriptor" := F.typeOf_object_class;have f5:=F.typeOf_object_class;have f6:=F.slot_gs_get.lookup;have f7:=F.slot_gs_set.lookup;have L1:=Pp (M:=Aq prog w) X hl
 repeat (any_goals (first | assumption | (with_reducible refine KA he ?_;rw [hc]) | with_reducible refine L1.at ?_ | wp_step))
 refine Ye X he hc hm ?_
 repeat (any_goals (first | assumption | wp_step))
def xM {nameV:Af}{Q:Unit->Aj->Prop}{M:Model} (X:K.In h) (he:h.get? a=some oe) (hc:oe.cls=.ref C) (hb:Gv K C (.type "BaseException")=some true) (hq:Q () ⟨h,g,d,t,os⟩):
  As M A (checkBuiltinCall "BaseException.__getattribute__" ⟨[.ref a,nameV],[]⟩) Q E ⟨h,g,d,t,os⟩:=by
 have hk:builtinKind "BaseException.__getattribute__" = some .slot:=by decide +kernel
 have hsp:splitId "BaseException.__getattribute__" = some ("BaseException","__getattribute__"):=by decide +kernel
 have ha:=F.args_bexc_ga (.ref a) nameV;have L1:=PySem.W.looks_mroIn (M:=M) X hb;simp only [checkBuiltinCall,hk,hsp];refine AA ?_;unfold isInstance
 repeat (first | (with_reducible refine KA he ?_;rw [hc]) | with_reducible refine L1.at ?_ | wp_step)
 exact hq
def Yb {tk:Tok}{Q:Af->Aj->Prop} (X:K.In h) (he:h.get? a=some oe) (hc:oe.cls=.ref C) (hm:Gv K C (.type "object")=some true) (hb:Gv K C (.type "BaseException")=some true)
  (hl:DZ K (.ref C) "__class__" = some (some (.builtin "object.__class__"))) (hga:DZ K (.ref C) "__getattribute__" = some (some (.builtin "BaseException.__getattribute__"))) (hgh:DZ K (.ref C) "__getattr__" = some none)
  (hq:Q (.ref C) ⟨h,g,d,t,os⟩):As (Aq prog w) A (getAttrBy (.ref a) (.str "__class__" tk) false) Q E ⟨h,g,d,t,os⟩:=by
 have f3:=PySem.F.attrBase_ValueError.ga.bind (.ref a);have L1:=Pp (M:=Aq prog w) X hga;have L2':=Pp (M:=Aq prog w) X hgh;have hx2:(Value.builtin "BaseException.__getattribute__" == Value.builtin "object.__getattribute__")=false:=by decide +kernel
 have hx1:(onTheHeap (Value.ref C) && Value.builtin "BaseException.__getattribute__" == Value.builtin "object.__getattribute__")=false:=by rw [hx2];rfl
 repeat (any_goals (first | assumption | (with_reducible refine KA he ?_;rw [hc]) | with_reducible refine L1.at ?_ | with_reducible refine L2'.at ?_ | wp_step))
 refine codeAny_call_builtin PySem.F.attrBase_ValueError.ga.plain F.entry_bexc_ga (xM X he hc hb (xN X he hc hm hl ?_))
 repeat (any_goals (first | assumption | wp_step))
def ZK {Q:Option Af->Aj->Prop} (X:K.In h) (he:h.get? a=some oe) (hc:oe.cls=.ref C) (hm:Gv K C (.type "object")=some true) (hb:Gv K C (.type "BaseException")=some true)
  (hl:DZ K (.ref C) "__class__" = some (some (.builtin "object.__class__"))) (hga:DZ K (.ref C) "__getattribute__" = some (some (.builtin "BaseException.__getattribute__"))) (hgh:DZ K (.ref C) "__getattr__" = some none)
  (hq:Q (some (.ref C)) ⟨h,g,d,t + 1,os⟩):As (Aq prog w) A (getAttr? (.ref a) "__class__") Q E ⟨h,g,d,t,os⟩:=by
 unfold getAttr?;unfold getAttrBy?
 repeat (any_goals (first | assumption | with_reducible apply Yb X he hc hm hb hl hga hgh | wp_step))
end
def BY (K:Frag) (d:Nat) (u:Af):Bool:=(u == .type "ValueError" && d == 0) || (match BR K d with
 | some D=>u == .ref D
 | none=>false)
section
variable {K:Frag}{a C:Addr}{c d:Nat}{u:Af}
def LU (t:BE K=true) (e:BR K c=some C):Jd K C=true/\EI K (.type "NoneType") (.ref C)=some false/\EI K (.ref C) (.type "ValueError")=some true/\∀ d D,BR K d=some D->EI K (.ref C) (.ref D)=some (Dx c d):=by
 unfold BE at t;rw [AF] at t;have h:=jb4.mp t.2 c (jd0.mpr (Mp e));rw [e] at h;dsimp only at h;simp only [AF] at h;refine ⟨h.1.1.1,eq_of_beq h.1.1.2,eq_of_beq h.1.2,λ d D ed=>?_⟩;have h2:=jb4.mp h.2 d (jd0.mpr (Mp ed));rw [ed] at h2;exact eq_of_beq h2
def UU (t:BE K=true) (e:BR K c=some C) (hu:BY K d u=true):EI K (.ref C) u=some (Dx c d):=by
 obtain ⟨_,_,h3,h4⟩:=LU t e;unfold BY at hu;rw [Ee] at hu;rcases hu with hu | hu
 ·rw [AF] at hu;rw [eq_of_beq hu.1,h3,eq_of_beq hu.2];simp [Dx]
 ·split at hu
  ·rename_i D hD;rw [eq_of_beq hu];exact h4 d D hD
  ·cases hu
def UW (t:BE K=true) (hu:BY K d u=true):EI K (.type "NoneType") u=some false:=by
 unfold BY at hu;rw [Ee] at hu;rcases hu with hu | hu
 ·rw [AF] at hu;rw [eq_of_beq hu.1];unfold BE at t;rw [AF] at t;exact eq_of_beq t.1
 ·split at hu
  ·rename_i D hD;rw [eq_of_beq hu];exact (LU t hD).2.1
  ·cases hu
def FF (K:Frag):List Nat->List Af->Bool
 | [],[]=>true
 | d::ds,u::us=>BY K d u && FF K ds us
 | _,_=>false
theorem VB (t:BE K=true) (e:BR K c=some C):∀ {ds:List Nat}{us:List Af},FF K ds us=true->M8 K (.ref C) us=some (ds.any (Dx c))
 | [],[],_=>rfl
 | [],_::_,h=>by cases h
 | _::_,[],h=>by cases h
 | d::ds,u::us,h=>by
  unfold FF at h;rw [AF] at h;unfold M8;rw [UU t e h.1,N8];cases Dx c d with
  | true=>rfl
  | false=>exact VB t e h.2
theorem VC (t:BE K=true):∀ {ds:List Nat}{us:List Af},FF K ds us=true->M8 K (.type "NoneType") us=some false
 | [],[],_=>rfl
 | [],_::_,h=>by cases h
 | _::_,[],h=>by cases h
 | d::ds,u::us,h=>by
  unfold FF at h;rw [AF] at h;unfold M8;rw [UW t h.1];exact VC t h.2
def jm (g:Jd K C=true):∃ c0 dd cd sl,K.lookup C=some ⟨c0,dd,.cls cd,sl⟩:=by
 unfold Jd at g;simp only [AF] at g;have h:=g.1.1.1.1.1;unfold PySem.W.clsIn at h;split at h
 ·rename_i q;exact ⟨_,_,_,_,q⟩
 ·cases h
def VA (g:Jd K C=true):PySem.W.KitX K (.ref a) (.ref C) (EV a C):=by
 obtain ⟨c0,dd,cd,sl,hl⟩:=jm g;unfold Jd at g;simp only [AF] at g;obtain ⟨⟨⟨⟨⟨_,g1⟩,g2⟩,g3⟩,g4⟩,g5⟩:=g;refine ⟨λ M h _ p=>?_,λ M h X _=>?_,λ h tp dd' its n sl' X htp=>?_,λ {prog w A E Q s} X p k=>?_⟩
 ·obtain ⟨o,vs,h1,h2,_⟩:=p;exact h2 ▸ (PySem.W.Looks.ld h1).andThen .now
 ·intro A' Q' E' s' kp q;unfold isType;unfold loadHead;exact AA (wpAny_loadPart (kp _ _ (X _ _ hl)) (Bq q))
 ·cases hb:(Value.ref C == Value.ref tp) with
  | false=>rfl
  | true=>
   have ec:C=tp:=Value.ref.inj (eq_of_beq hb);have z:=X _ _ hl;rw [ec,htp] at z;cases z
 ·obtain ⟨o,vs,h1,h2,_⟩:=p;obtain ⟨hp,gg,dr,tt,oo⟩:=s;exact ZK X h1 h2 (eq_of_beq g1) (eq_of_beq g2) (eq_of_beq g3) (eq_of_beq g4) (eq_of_beq g5) k
end
section
variable {X:Cx}
def LC (K:Frag) (v:V) (H:Hp) (Q:VK) (ds:List Nat):Prop:=(v=.non/\Q (.bl false) H)\/∃ a C c,v=.ref a/\BR K c=some C/\H a=some (.ext (EV a C))/\Q (.bl (ds.any (Dx c))) H
def VX {pins:List (Addr×Obj)}{σ:St}{H:Hp}{s:Aj}{a C:Addr} (I:L2.Inv X pins σ H s) (h:H a=some (.ext (EV a C))):EV a C s.heap:=(I.hok a _ h).1
def zI (t:BE X.K=true):zzr X (.builtin "isinstance") (λ xs H Q=>∃ v cv d,xs=[v,cv]/\(∀ u,RelV cv u->BY X.K d u=true)/\LC X.K v H Q [d]):=by
 intro pins s σ H xs us Q I r h;obtain ⟨v,cv,d,rfl,hcv,h⟩:=h;obtain ⟨u,w,rfl,r1,r2⟩:=Lj r;have hw:=hcv w r2;rcases h with ⟨rfl,q⟩ | ⟨a,C,c,rfl,hC,ha,q⟩
 ·cases r1;exact EJ Pe I.kIn True.intro (UW t hw) (λ z=>nomatch z) λ tk=>⟨.bl false,H,I.tok _,rfl,q⟩
 ·obtain rfl:u=Value.ref a:=r1;exact EJ (VA (LU t hC).1) I.kIn (VX I ha) (UU t hC hw) (λ z=>nomatch z) λ tk=>⟨.bl (Dx c d),H,I.tok _,rfl,by simpa using q⟩
def jY (t:BE X.K=true):zzr X (.builtin "isinstance") (λ xs H Q=>∃ v p cvs ds,xs=[v,.ref p]/\H p=some (.tup cvs)/\(∀ us,Vals cvs us->FF X.K ds us=true)/\LC X.K v H Q ds):=by
 intro pins s σ H xs us Q I r h;obtain ⟨v,p,cvs,ds,rfl,hp,hcv,h⟩:=h;obtain ⟨u,w,rfl,r1,r2⟩:=Lj r;obtain rfl:w=Value.ref p:=r2;obtain ⟨_,its,rv,o,ho,hc,n,hd⟩:=I.hok p _ hp;have hi:=hcv its rv;have ho':s.heap.get? p=some ⟨.type "tuple",o.dict,.seq its.toArray n,o.slots⟩:=by
  rw [ho];obtain ⟨oc,od,oda,os⟩:=o;dsimp only at hc hd;rw [hc,hd]
 rcases h with ⟨rfl,q⟩ | ⟨a,C,c,rfl,hC,ha,q⟩
 ·cases r1;exact PySem.W.kia_tup Pe I.kIn True.intro ho' (VC t hi) (λ z=>nomatch z) λ tk=>⟨.bl false,H,I.tok _,rfl,q⟩
 ·obtain rfl:u=Value.ref a:=r1;exact PySem.W.kia_tup (VA (LU t hC).1) I.kIn (VX I ha) ho' (VB t hC hi) (λ z=>nomatch z) λ tk=>⟨.bl (ds.any (Dx c)),H,I.tok _,rfl,q⟩
end
section
variable {X:Cx}{M:Fm}{f g:Fx}{vs vs':List Nat}{e:Expr}{es:List Expr}{pos p:Pos}{σ:St}{H:Hp}{Q:VK}
def D6 (ds:List Nat) (x:PV) (_:Nat):Option (PV×Nat):=match x with
 | .exn c=>some (.bl (ds.any (Dx c)),om)
 | .non=>some (.bl false,om)
 | _=>none
theorem Uq {K:Frag}{x z:PV}{ds:List Nat}{d c:Nat}{v:V}{Z:Addr->Prop}{H H':Hp}{f1:List Addr} (ho:D6 ds x d=some (z,c)) (o1:Own K H Z x d v f1) (k:∀ a o,H a=some o->H' a=some o) (q:∀ b,z=.bl b->Q (.bl b) H'):LC K v H' Q ds:=by
 cases x with
 | exn n=>
  cases ho;rw [Own] at o1;obtain ⟨_,a,C,rfl,hC,ha⟩:=o1;exact .inr ⟨a,C,n,rfl,hC,k _ _ ha,q _ rfl⟩
 | non=>
  cases ho;rw [Own] at o1;obtain ⟨rfl,_⟩:=o1;exact .inl ⟨rfl,q _ rfl⟩
 | _=>cases ho
theorem SW {ds:List Nat}{x z:PV}{d c:Nat} (ho:D6 ds x d=some (z,c)):∃ b,z=.bl b/\c=om:=by
 cases x with
 | exn n=>cases ho;exact ⟨_,rfl,rfl⟩
 | non=>cases ho;exact ⟨_,rfl,rfl⟩
 | _=>cases ho
def V0 {cv:V}{d:Nat}{T':Str}{p1 p2:Pos} (t:BE X.K=true) (hK:M.K=X.K) (ha:PE X e (tE M f vs)) (hg:Gl X "isinstance") (hm:X.mg "isinstance" = none) (hc:PE X (.Name T' p2) (tC cv)) (hcv:∀ u,RelV cv u->BY X.K d u=true)
  (hs1:A5 [e,.Name T' p2] X.env=[(false,eval e X.env),(false,eval (.Name T' p2) X.env)]) (hs2:A5 [Expr.Name T' p2] X.env=[(false,eval (.Name T' p2) X.env)]):
  PE X (.Call (.Name "isinstance" p1) [e,.Name T' p2] [] pos) (tE M (Ap (D6 [d]) f) vs):=by
 refine Bc (Hw (zI t) hg hm rfl (Eo ha (Eo hc Gj hs2) (by rw [hs1,hs2])) (he:=by rw [hs1,hs2]) (hpl:=by rw [hs2];rfl)) λ σ H Q h=>?_;refine JC (r:=λ v H Q=>∃ x c n,[v,cv]=[x,c]/\(∀ u,RelV c u->BY X.K n u=true)/\LC X.K x H Q [n]) (λ x d' z c v H fps f1 Q ho o1 nz zd lf=>?_) h;obtain ⟨b,rfl,rfl⟩:=SW ho;exact ⟨v,cv,d,rfl,hcv,by rw [<- hK];exact Uq ho o1 (λ _ _ h=>h) λ b' e=>by cases e;exact Dz lf⟩
def Tu (cvs:List V):TA:=λ _ H Q=>Q cvs H
def z4 {cvs:List V}{ds:List Nat}{p1 p2:Pos}{k:Nat} (t:BE X.K=true) (hK:M.K=X.K) (ha:PE X e (tE M f vs)) (hg:Gl X "isinstance") (hm:X.mg "isinstance" = none) (hc:PA X es (Tu cvs)) (hl:cvs.length<=Au) (hcv:∀ us,Vals cvs us->FF X.K ds us=true)
  (hs1:A5 [e,.Tuple es k p2] X.env=[(false,eval e X.env),(false,eval (.Tuple es k p2) X.env)]) (hs2:A5 [Expr.Tuple es k p2] X.env=[(false,eval (.Tuple es k p2) X.env)]):
  PE X (.Call (.Name "isinstance" p1) [e,.Tuple es k p2] [] pos) (tE M (Ap (D6 ds) f) vs):=by
 refine Bc (Hw (jY t) hg hm rfl (Eo ha (Eo (Uz hc) Gj hs2) (by rw [hs1,hs2])) (he:=by rw [hs1,hs2]) (hpl:=by rw [hs2];rfl)) λ σ H Q h=>?_;refine JC (r:=λ v H Q=>cvs.length<=Au/\∀ q,H q=none->∃ x p' cvs' ds',[v,V.ref q]=[x,.ref p']/\Aw H q (.tup cvs) p'=some (.tup cvs')/\(∀ us,Vals cvs' us->FF X.K ds' us=true)/\LC X.K x (Aw H q (.tup cvs)) Q ds') (λ x d' z c v H fps f1 Q ho o1 nz zd lf=>?_) h;obtain ⟨b,rfl,rfl⟩:=SW ho;refine ⟨hl,λ q hq=>⟨v,q,cvs,ds,rfl,BS,hcv,?_⟩⟩;have kk:∀ a o,H a=some o->Aw H q (.tup cvs) a=some o:=λ a o h=>by rw [AR (λ z=>by rw [z,hq] at h;cases h)];exact h
 rw [<- hK];exact Uq ho o1 kk λ b' e=>by cases e;exact lf (.bl b) _ [] kk (by rw [Own];exact ⟨rfl,rfl⟩) (λ _ z=>nomatch z)
end
section
variable {X:Cx}{M:Fm}{a b:Expr}{f g:Fx}{fa:Fa}{vs vs':List Nat}{pos p:Pos}{σ:St}{H:Hp}{Q:VK}{e:Expr}{es:List Expr}
def FU:List PV->Option (List AV)
 | []=>some []
 | .int i::r=>(FU r).map (.inl i::·)
 | .str x::r=>(FU r).map (.inr x::·)
 | _=>none
theorem LI {K:Frag}{Z:Addr->Prop}:∀ {xs:List PV}{ws:List V}{d:Nat}{fp:List Addr}{k:List AV},FU xs=some k->OwnL K H Z xs d ws fp->ws=k.map kV
 | [],ws,d,fp,k,e,h=>by cases e;rw [OwnL] at h;exact h.1
 | .int i::r,ws,d,fp,k,e,h=>by
  obtain ⟨k',e1,rfl⟩:=ja5.mp e;rw [OwnL] at h;obtain ⟨v,s,f1,f2,rfl,ef,dj,h1,h2⟩:=h;rw [Own] at h1;rw [h1.1,LI e1 h2];rfl
 | .str i::r,ws,d,fp,k,e,h=>by
  obtain ⟨k',e1,rfl⟩:=ja5.mp e;rw [OwnL] at h;obtain ⟨v,s,f1,f2,rfl,ef,dj,h1,h2⟩:=h;rw [Own] at h1;rw [h1.1,LI e1 h2];rfl
 | .non::_,_,_,_,_,e,_=>by cases e
 | .bl _::_,_,_,_,_,e,_=>by cases e
 | .lst _::_,_,_,_,_,e,_=>by cases e
 | .tup _::_,_,_,_,_,e,_=>by cases e
 | .emp::_,_,_,_,_,e,_=>by cases e
 | .dko::_,_,_,_,_,e,_=>by cases e
 | .scr _::_,_,_,_,_,e,_=>by cases e
 | .dct _::_,_,_,_,_,e,_=>by cases e
 | .exn _::_,_,_,_,_,e,_=>by cases e
def Ck (neg:Bool) (x:PV) (_:Nat) (y:PV) (_:Nat):Option (PV×Nat):=match x,y with
 | .tup ks,.dct kvs=>(FU ks).map λ k=>(.bl (neg^^(Cq kvs k).isSome),om)
 | .str y,.str x=>some (.bl (neg^^J0 x y),om)
 | x,.lst ys=>(match BP 20 x,Bz (BP 20) ys with
  | some a,some bs=>some (.bl (neg^^bs.any λ b=>EH b a),om)
  | _,_=>none)
 | x,.tup ys=>(match BP 20 x,Bz (BP 20) ys with
  | some a,some bs=>some (.bl (neg^^bs.any λ b=>EH b a),om)
  | _,_=>none)
 | _,_=>none
def IC (neg:Bool):R2:=λ v w H Q=>∃ a o,w=.ref a/\DGet H a v o/\Q (.bl (neg^^o.isSome)) H
def Y4 (hu:X.A.units + 1 < Cn):OpR X (BU .In) (IC false):=by
 intro pins s σ H x y v u Q I rx ry h;obtain ⟨a,o,rfl,g,q⟩:=h;obtain rfl:u=Value.ref a:=ry;exact RO hu I g rx λ s3 I3=>⟨.bl o.isSome,H,I3,rfl,by simpa using q⟩
def jt (hu:X.A.units + 1 < Cn):OpR X (BU .NotIn) (IC true):=by
 intro pins s σ H x y v u Q I rx ry h;obtain ⟨a,o,rfl,g,q⟩:=h;obtain rfl:u=Value.ref a:=ry;exact ZO hu I g rx λ s3 I3=>⟨.bl (!o.isSome),H,I3,rfl,by simpa using q⟩
def MW (tp:Bool) (ys:List PV):PV:=match tp with
 | true=>.tup ys
 | false=>.lst ys
def Xn (tp:Bool) (ys:List Ew):Ew:=match tp with
 | true=>.tuple ys
 | false=>.list ys
def IA (K:Frag) (neg:Bool):R2:=λ v w H Q=>∃ tp x ys d e Z Z' f1 f2 a bs,BP 20 x=some a/\Bz (BP 20) ys=some bs/\Own K H Z x d v f1/\Own K H Z' (MW tp ys) e w f2/\Q (.bl (neg^^bs.any λ b=>EH b a)) H
theorem UG {tp:Bool}{ys:List PV}{bs:List Ew} (h:Bz (BP 20) ys=some bs):BP 21 (MW tp ys)=some (Xn tp bs):=by
 cases tp with
 | true=>
  show (Bz (BP 20) ys).map PyData.tuple=_;rw [h];rfl
 | false=>
  show (Bz (BP 20) ys).map PyData.list=_;rw [h];rfl
theorem Y6 (hu:X.A.units + 64 < Cn):OpR X (BU .In) (IA X.K false):=by
 intro pins s σ H v w u u' Q I rx ry h;obtain ⟨tp,x,ys,d,e,Z,Z',f1,f2,a,bs,h1,h2,o1,o2,q⟩:=h;obtain ⟨as,ra⟩:=Gg I 20 x d v f1 u a h1 o1 rx;obtain ⟨bs',rb⟩:=Gg I 21 (MW tp ys) e w f2 u' _ (UG h2) o2 ry;have l1:=Fp 20 x a h1;have l2:=Ka (λ x D h=>Fp 20 x D h) h2;have hm:X.A.units + 1 + min (Ii bs) a.depth < Cn:=by have:=Rr (Ii bs) a.depth;omega
 cases tp with
 | false=>exact SeqAt.in_list_reads rb ra l2.1 l1.1 hm ⟨.bl _,H,I,rfl,by simpa using q⟩
 | true=>exact SeqAt.in_tuple_reads rb ra l2.1 l1.1 hm ⟨.bl _,H,I,rfl,by simpa using q⟩
theorem ju (hu:X.A.units + 64 < Cn):OpR X (BU .NotIn) (IA X.K true):=by
 intro pins s σ H v w u u' Q I rx ry h;obtain ⟨tp,x,ys,d,e,Z,Z',f1,f2,a,bs,h1,h2,o1,o2,q⟩:=h;obtain ⟨as,ra⟩:=Gg I 20 x d v f1 u a h1 o1 rx;obtain ⟨bs',rb⟩:=Gg I 21 (MW tp ys) e w f2 u' _ (UG h2) o2 ry;have l1:=Fp 20 x a h1;have l2:=Ka (λ x D h=>Fp 20 x D h) h2;have hm:X.A.units + 1 + min (Ii bs) a.depth < Cn:=by have:=Rr (Ii bs) a.depth;omega
 cases tp with
 | false=>exact SeqAt.notIn_list_reads rb ra l2.1 l1.1 hm ⟨.bl _,H,I,rfl,by simpa using q⟩
 | true=>exact SeqAt.notIn_tuple_reads rb ra l2.1 l1.1 hm ⟨.bl _,H,I,rfl,by simpa using q⟩
def VD {x y z:PV}{d e c:Nat}{v w:V}{fps:AI}{f1 f2 F:List Addr}{Z Z':Addr->Prop}{neg:Bool} (hK:M.K=X.K) (ho:Ck neg x d y e=some (z,c)) (o1:Own M.K H Z x d v f1) (o2:Own M.K H Z' y e w f2) (lf:Bf M H fps vs F z c Q):(IC neg v w H Q\/Iz neg v w H Q)\/IA X.K neg v w H Q:=by
 unfold Ck at ho;split at ho
 ·rename_i ks kvs;obtain ⟨k,ek,e2⟩:=ja5.mp ho;cases e2;rw [Own] at o1;rw [Own] at o2;obtain ⟨b,ws,rfl,hb,ol⟩:=o1
  have:=LI ek ol
  subst this;have h2:∃ a,w=.ref a/\H a=some (.dT kvs):=by
   obtain ⟨a,ea,⟨_,hr,_⟩ | ⟨_,ha,_⟩⟩:=o2
   ·exact ⟨a,ea,hr.1⟩
   ·exact ⟨a,ea,ha⟩
  obtain ⟨a,rfl,ha⟩:=h2;exact .inl (.inl ⟨a,_,rfl,DGet.t ha hb,Dz lf⟩)
 ·rename_i y0 x0;cases ho;rw [Own] at o1;rw [Own] at o2;exact .inl (.inr ⟨y0,x0,o1.1,o2.1,Dz lf⟩)
 ·rename_i ys;split at ho
  ·rename_i a bs ea eb;cases ho;rw [hK] at o1;rw [hK] at o2;exact .inr ⟨false,_,ys,d,e,Z,Z',f1,f2,a,bs,ea,eb,o1,o2,Dz lf⟩
  ·cases ho
 ·rename_i ys;split at ho
  ·rename_i a bs ea eb;cases ho;rw [hK] at o1;rw [hK] at o2;exact .inr ⟨true,_,ys,d,e,Z,Z',f1,f2,a,bs,ea,eb,o1,o2,Dz lf⟩
  ·cases ho
 ·cases ho
def L6:Fx:=λ ρ=>.ok (.dct [],om,ρ)
def Zc:PE X (.Dict [] [] pos) (tE M L6 []):=by
 refine Bc zj λ σ H Q h p hp=>?_;obtain ⟨ρ,fps,rep,q⟩:=h;refine q (.ref p) _ fps [p] (KD.grow (Em hp)) Agr.refl (rep.grow (Em hp)) ?_ ⟨λ a ha=>by rw [jc0.mp ha];exact hp,λ a ha=>by rw [jc0.mp ha];exact rep.nz hp⟩;rw [Own];exact ⟨p,rfl,.inr ⟨by decide,BS,rfl⟩⟩
end
def qe {e:Af}{env env':Env} (h:env.frame=env'.frame):Ju e env=Ju e env':=by
 unfold Ju PySem.frameOf;rw [h]
section
variable {M:Model}{A:AZ}{E:Af->Aj->Prop}{s:Aj}
def jw {base:Heap}{l:List Env}{e L:Addr}{cls a0:Af}{α:Type}{Q:α->Aj->Prop}{what:String}{env:Env} (hfr:env.frame=some L) (R:K0 base l e cls a0 L s.heap)
  (h:∀ h',K0 base l e cls a0 L h'->s.heap.UpToSlots h'->E (.ref e) { s with heap:=h' }):As M A (Jz (α:=α) what (.ref e) env) Q E s:=by
 obtain ⟨hkb,hen,hl,oe,vs,T,oT,ts,he,hcls,hd,h1,hnT,hTe,hT,hdT,h3⟩:=R;have hsz3:3 < ts.size:=(Array.getElem?_eq_some_iff.mp h3).1;have other:∀ b,b≠T->(s.heap.update T (Obj.mapFields (·.setIfInBounds 3 ((some L).elim Value.none λ f=>rawInt f)))).get? b=s.heap.get? b:=λ b hb=>Pt _ _ (BF hb);have noRecord:∀ b o,s.heap.get? b=some o->(∀ vs,o.data≠.fields vs)->b≠T:=λ b o hb hnf q=>by
  rw [q,hT] at hb;injection hb with hb;subst hb;exact hnf ts hdT
 unfold Jz;refine AA (K2 he hd h1 ?_);rw [if_neg (show ¬ (Value.ref T == Value.none)=true from by simp),hfr];unfold setFlight;refine AA (AA (K2 he hd h1 ?_));rw [if_pos (show (Value.ref T != Value.none)=true from by simp)];refine wpAny_setField hT hdT hsz3 (wpAny_throw (h _ ⟨λ b o hbo=>(other b λ q=>by rw [q,hnT] at hbo;cases hbo).trans (hkb b o hbo),hen,hl.of_keeps λ b o hb hnf=>⟨o,(other b (noRecord b o hb hnf)).trans hb,rfl⟩,?_⟩ λ b o hb hnf=>⟨o.slots,(other b (noRecord b o hb hnf)).trans hb⟩));exact ⟨oe,vs,T,_,_,(other e (BF hTe)).trans he,hcls,hd,h1,hnT,hTe,Heap.get?_update_self _ hT (Obj.isFreed_of_fields (Obj.data_mapFields hdT _)),Obj.data_mapFields hdT _,by simp [hsz3]⟩
def Xb {base:Heap}{env:Env}{outer:List Env}{L e:Addr}{cls a0:Af}{Q:Unit->Aj->Prop} (hf:env.frame=some L) (hh:K0 base (env::outer) e cls a0 L s.heap)
  (hQ:∀ h',Jx base outer e cls a0 h'->s.heap.UpToSlots h'->Q () { s with heap:=h' }):As M A (leaving env (.ref e)) Q E s:=by
 unfold leaving;refine AA (wpAny_noteFrame_againW hf hh.2.2.2 ?_);refine wpAny_landsW hh λ h' hfl up=>?_;obtain ⟨k1,k2,⟨_,_,k3⟩,k4⟩:=hfl;exact hQ h' ⟨k1,k2,k3,k4⟩ up
end
def vn (P:A7) (w:A6) (K:Frag) (outer:List Env) (L:Addr) (H:Hp) (s:Aj) (E:XK) (e:Af) (s':Aj):Prop:=∃ (a C:Addr) (c:Nat) (H':Hp) (B:Heap) (a0:Af),e=.ref a/\BR K c=some C/\s'.os=s.os/\EF s'.gens/\Un (BO outer) [] H H' s.heap s'.heap/\HOk P w H' s'.heap/\H' a=none/\s.heap.get? a=none /\
 K0 B outer a (.ref C) a0 L s'.heap/\(∀ b o,s'.heap.get? b=some o->H' b≠none->B.get? b=some o)/\(∀ b o,s.heap.get? b=some o->H b=none->b∉BO outer->B.get? b=some o)/\(∀ b,H b≠none->H' b≠none)/\E (.int (c:Int) 0) none H'
def Kp (X:Cx) (W:St->Nat->Hp->Prop):Prop:=∀ (pins:List (Addr×Obj)) (σ:St) (H:Hp) (s:Aj) (e:Af) (s':Aj) (L:Addr),L2.Inv X pins σ H s->X.env.frame=some L->vn X.prog X.w X.K X.stack L H s (Ei (W σ)) e s'->X.xe e s'
section
variable {P:A7}{w:A6}{K:Frag}{mg:Str->Option Af}{base:Heap}{N:List Str}{qual:Str}{scope:AW}{f:Addr}{cd:Af}{A:AZ}{outer:List Env}{s:Aj}{H:Hp}{E:XK}
def z8:Kp (Bx (AL P w K) P w K mg base N qual scope f cd A outer s H E) (WE E H):=by
 intro pins σ H1 s1 e s' L I hL h;obtain ⟨a,C,c,H',B,a0,rfl,hc,ho,hg,un,hok,ha,hn,fl,i1,i2,hd,hE⟩:=h;have hE':WE E H σ c H':=hE;refine Xb hL fl λ h2 f2 up=>?_;exact Ou (s2:={ s' with heap:=h2 }) I rfl un hok f2 up i1 i2 ha hn hE'.1 hE'.2 hc ho hg
end
section
variable {X:Cx}{pins:List (Addr×Obj)}{σ:St}{H:Hp}{s s':Aj}{C L:Addr}{W:St->Nat->Hp->Prop}{e:Af}
def V8 {α:Type}{Q:α->Aj->Prop}{what:String}{cenv:Env} (hst:X.stack=X.env::X.outer) (hfr:X.env.frame=some L) (hce:cenv.frame=some L) (I:L2.Inv X pins σ H s) (nsC:∃ m,s.heap.Ns C m) (hHC:H C=none) (hC:C∉BO X.stack)
  (away:∀ h',Fd C s.heap h'->L2.Inv X pins σ H { s with heap:=h' }) (ph:Kp X W) (hx:AL X.prog X.w X.K X.stack H s (Ei (W σ)) e s'):
  HD (Aq X.prog X.w) X.A cenv (λ x s5=>∃ m,s5.heap.Ns C m/\∀ h',Fd C s5.heap h'->As (Aq X.prog X.w) X.A (Jz (α:=α) what x cenv) Q X.xe { s5 with heap:=h' }) e s':=by
 obtain ⟨a,Cc,c,H',B,a0,rfl,hc,ho,hg,un,hok,ha,hn,fl,i1,i2,hd,hE⟩:=hx;obtain ⟨m,oC,es,ep,hoC,rC⟩:=nsC;have bC:B.get? C=some oC:=i2 C oC hoC hHC hC;have hC':H' C=none:=un.free C oC hoC hHC (by simp);show As _ _ (Ju (.ref a) cenv) _ _ s';rw [qe (env':=X.env) (hce.trans hfr.symm)];have fl':Jx B (X.env::X.outer) a (.ref Cc) a0 s'.heap:=by rw [<- hst];exact fl
 refine wpAny_looks_onW (by rw [I.ok.frames,hst]) hfr fl' λ h4 held4 up4=>?_;refine ⟨m,⟨oC,es,ep,held4.1 C oC bC,rC⟩,λ h' sb=>?_⟩;have hid:∀ b o,b≠C->B.get? b=some o->(E1 B [C]).get? b=some o:=λ b o hb q=>KG _ q λ z=>hb (jc0.mp z);have neC:∀ b,B.get? b=none->b≠C:=λ b q z=>by rw [z,bC] at q;cases q
 have hno:∀ b,B.get? b=none->(E1 B [C]).get? b=none:=λ b q=>by
  cases z:(E1 B [C]).get? b with
  | none=>rfl
  | some o=>rw [Ik _ z] at q;cases q
 have hnC:(E1 B [C]).get? C=none:=Po _ Ba;have ff:∀ l:List Env,h4.FunFrames B l->h'.FunFrames (E1 B [C]) l:=by
  intro l;induction l with
  | nil=>exact λ z=>z
  | cons env r ih=>exact λ ⟨k1,⟨L',o,k2,k3,k4,k5⟩,k6⟩=>⟨k1,⟨L',o,k2,hno _ k3,(sb.2 L' (neC _ k3)).trans k4,k5⟩,ih k6⟩
 have held':K0 (E1 B [C]) X.stack a (.ref Cc) a0 L h':=by
  obtain ⟨k1,k2,k3,oe,vs,T,oT,ts,q1,q2,q3,q4,q5,q6,q7,q8,q9⟩:=held4;rw [hst];exact ⟨λ b o q=>by
   have bb:b≠C:=λ z=>by rw [z,hnC] at q;cases q
   exact (sb.2 b bb).trans (k1 b o (Ik _ q)),hno a k2,ff _ k3,oe,vs,T,oT,ts,(sb.2 a (neC a k2)).trans q1,q2,q3,q4,hno T q5,q6,(sb.2 T (neC T q5)).trans q7,q8,q9⟩
 refine jw hce held' λ h6 held6 up6=>?_;have sb2:Fd C s.heap (E1 s.heap [C]):=⟨PySem.W.hideAll_size _ _,λ b hb=>by
  cases q:s.heap.get? b with
  | some o=>exact KG _ q λ z=>hb (jc0.mp z)
  | none=>
   cases z:(E1 s.heap [C]).get? b with
   | none=>rfl
   | some o=>rw [Ik _ z] at q;cases q⟩
 have I2:=away _ sb2;have sC:(E1 s.heap [C]).get? C=none:=Po _ Ba;have old:∀ b o,(E1 s.heap [C]).get? b=some o->s.heap.get? b=some o/\b≠C:=λ b o q=>⟨Ik _ q,λ z=>by rw [z,sC] at q;cases q⟩
 have D8:∀ b v,H' b≠none->s'.heap.get? b=some v->h6.get? b=some v:=λ b v hb q=>held6.1 b v (hid b v (λ z=>hb (z ▸ hC')) (i1 b v q hb));have fr:∀ b o,s.heap.get? b=some o->b≠C->H b=none->b∈BO X.stack->∃ sl,h6.get? b=some { o with slots:=sl }:=λ b o q bb n hb=>by
  obtain ⟨sl,e2⟩:=un.any q n (by simp);obtain ⟨_,o',ho',hnf⟩:=I.stack.mem hb;rw [q] at ho';cases ho';obtain ⟨sl2,e3⟩:=up4 b _ e2 hnf;obtain ⟨sl3,e4⟩:=up6 b _ ((sb.2 b bb).trans e3) hnf;exact ⟨sl3,e4⟩
 refine ph pins σ H _ _ _ L I2 hfr ⟨a,Cc,c,H',E1 B [C],a0,rfl,hc,ho,hg,⟨λ b o q n hb _=>?_,λ b o q n hb _=>?_,λ b o q n _=>?_,λ b o q _=>?_,un.tups,un.frzs,un.tbls⟩,λ b o q=>?_,ha,?_,held6,λ b o q hb=>?_,λ b o q n hb=>?_,hd,hE⟩
 ·obtain ⟨q',bb⟩:=old b o q;exact held6.1 b o (hid b o bb (i2 b o q' n hb))
 ·obtain ⟨q',bb⟩:=old b o q;exact fr b o q' bb n hb
 ·exact un.free b o (old b o q).1 n (by simp)
 ·obtain ⟨q',bb⟩:=old b o q;by_cases h0:H b=none
  ·by_cases hb:b∈BO X.stack
   ·obtain ⟨sl,e2⟩:=fr b o q' bb h0 hb;exact ⟨_,e2⟩
   ·exact ⟨o,held6.1 b o (hid b o bb (i2 b o q' h0 hb))⟩
  ·obtain ⟨o2,e2⟩:=un.there b o q' (by simp);exact ⟨o2,D8 b o2 (hd b h0) e2⟩
 ·refine (hok b o q).stay (λ d v hd' q'=>D8 d v ?_ q') (λ _ q=>q) λ _ _ q=>q;rcases hd' with rfl | hd'
  ·rw [q];simp
  ·rw [hd'];simp
 ·cases z:(E1 s.heap [C]).get? a with
  | none=>rfl
  | some o=>rw [Ik _ z] at hn;cases hn
 ·cases q1:H' b with
  | none=>exact absurd q1 hb
  | some o1=>
   obtain ⟨v,hv⟩:=LM (hok b o1 q1);have e2:=D8 b v hb hv;rw [q] at e2;cases e2;exact hid b o (λ z=>hb (z ▸ hC')) (i1 b o hv hb)
 ·obtain ⟨q',bb⟩:=old b o q;exact hid b o bb (i2 b o q' n hb)
end
def Jt (X:Cx) (scope:AW) (C:Addr) (R:Result->Aj->Prop):Af->Aj->Prop:=HD (Aq X.prog X.w) X.A (Ey scope (D4 X scope C) C X.env) λ e s'=>R (.error e) s'
section
variable {X:Cx}{scope:AW}{N':List Str}{k:Nat}{pins:List (Addr×Obj)}{σ:St}{H2:Hp}{s2:Aj}{fp:List Addr}{C:Addr}
theorem Xi {prog:A7}{w:A6}{A:AZ}{R:Result->Aj->Prop}{s:Aj}{elt target iter:Expr}{ifs:List Expr}{scope:AW}{pos:Pos}{it acc:Af}{env:Env} (I:Nat->Aj->Prop)
  (turn:∀ n s,I n s->As (Aq prog w) A (pyNext it) (λ r s₁=>match r with
   | none=>R (.ok .next) s₁
   | some v=>As (Aq prog w) A (K7 target it v) (λ _ s₁'=>As (Aq prog w) A (EE target env v) (λ _ s₂=>
     As (Aq prog w) A (forIn ifs true λ c r=>if r=true then do let ok<-isTrue c env (eval c env);pure (ForInStep.yield ok) else pure (ForInStep.yield r)) (λ ok s₃=>
      if ok=true then As (Aq prog w) A (eval elt env) (λ x s₄=>
       As (Aq prog w) A (call (.builtin "list.append") [acc,x]) (λ _ s₅=>∃ m,m < n/\I m s₅) (HD (Aq prog w) A env λ e s'=>R (.error e) s') s₄) (HD (Aq prog w) A env λ e s'=>R (.error e) s') s₃
      else ∃ m,m < n/\I m s₃) (HD (Aq prog w) A env λ e s'=>R (.error e) s') s₂) (HD (Aq prog w) A env λ e s'=>R (.error e) s') s₁') (HD (Aq prog w) A env λ e s'=>R (.error e) s') s₁) (HD (Aq prog w) A env λ e s'=>R (.error e) s') s)
  (n:Nat) (h:I n s):
  EZ (Aq prog w) A (.compLoop (.ListComp elt [⟨target,iter,ifs,0⟩] scope pos) 0 it acc env) R s:=by
 refine codeAny_loop rfl I (λ n s hI=>?_) n h;show As _ A ((compTurn (.ListComp elt [⟨target,iter,ifs,0⟩] scope pos) 0 it acc env).onRaise (λ x=>do Ju x env;theTreesLotGoes x)) _ _ s;refine wpAny_noted ?_;rw [compTurn_list];refine AA (J5 (AA (CA (turn n s hI) (λ r s₁ h₁=>?_) λ _ _ h'=>h')));cases r with
 | none=>exact Bq h₁
 | some v=>
  refine AA (CA h₁ (λ _ s₁' h₁'=>?_) λ _ _ h'=>h');refine AA (CA h₁' (λ _ s₂ h₂=>AA (CA h₂ (λ ok s₃ h₃=>?_) λ _ _ h'=>h')) λ _ _ h'=>h');cases ok with
  | false=>exact Bq ⟨rfl,h₃⟩
  | true=>
   exact AA (AA (CA h₃ (λ x s₄ h₄=>AA (CA h₄ (λ _ s₅ h₅=>Bq (Bq ⟨rfl,h₅⟩)) λ _ _ h'=>h')) λ _ _ h'=>h'))
def Tp {elt iter tg:Expr}{ifs:List Expr}{pos:Pos}{J:It}{it:Addr}{tn:Nat->Heap->Prop}{g:TG}{tc:TT}{te:TE}{RR:Af->Env->Result->Aj->Prop}{Q:VK}{E:Af->Aj->Prop}
  (c:CompOk X scope N' k) (hcalm:X.calm=true) (I:Inv X pins σ H2 s2) (T:Turn X.prog X.w X.K tg J fp it tn) (st:tn 0 s2.heap) (hf:∀ b∈fp,BZ X pins H2 b)
  (hg:∀ C D,s2.heap.objs.size<=C->PG ((AE X s2 H2 scope C N' fp pins).wish (Jt X scope C (RR D (Ey scope (D4 X scope C) C X.env)))) tg g) (hc:∀ C D,s2.heap.objs.size<=C->Fl ((AE X s2 H2 scope C N' fp pins).wish (Jt X scope C (RR D (Ey scope (D4 X scope C) C X.env)))) ifs tc) (he:∀ C D,s2.heap.objs.size<=C->PE ((AE X s2 H2 scope C N' fp pins).wish (Jt X scope C (RR D (Ey scope (D4 X scope C) C X.env)))) elt te)
  (h:∀ D,H2 D=none->∃ W:Nat->Nat->List V->Hp->Prop,(∃ m,W 0 m [] (Aw H2 D (.lst [])))/\∀ i m ys H,W i m ys H->H D=some (.lst ys) /\
   ((J.stop i H/\Q (.ref D) H)\/(J.go i H/\∀ x H',J.yld i H x H'->g x (σ++AM k none) H' λ σ2 H2=>tc σ2 H2 λ b H3=>if b=true then te σ2 H3 λ y H4=>H4 D=some (.lst ys)/\ys.length < Au/\∃ m',m' < m/\W (i + 1) m' (ys++[y]) (Aw H4 D (.lst (ys++[y]))) else ∃ m',m' < m/\W (i + 1) m' ys H3)))
  (hRR:∀ D C σ' H' s',s2.heap.objs.size<=C->Inv (AE X s2 H2 scope C N' fp pins) [] σ' H' s'->Q (.ref D) H'->RR (.ref D) (Ey scope (D4 X scope C) C X.env) (.ok .next) s')
  :
  As (Aq X.prog X.w) X.A (newList []) (λ acc s₃=>As (Aq X.prog X.w) X.A (K5 scope X.env.globals (CP X.env.cells scope.names []) [] X.env.qual none .none (some X.env)) (λ cenv s₄=>
   EZ (Aq X.prog X.w) X.A (.compStart (.ListComp elt [⟨tg,iter,ifs,0⟩] scope pos) 0 (.ref it) acc { cenv with scope:=Ex scope X.env }) (RR acc { cenv with scope:=Ex scope X.env }) s₄) E s₃) E s2:=by
 refine J8 (Sg ?_);dsimp only;generalize hH2:s2.heap.push { cls:=.type "list",dict:=none,data:=.seq ([]:List Af).toArray }=HP;obtain ⟨h₁,hh₁⟩:∃ h₁,h₁=Kx (HP.push { cls:=.type "dict",data:=.dict #[] }) scope.names:=⟨_,rfl⟩
 rw [<- hh₁];have kk:∀ b o,HP.get? b=some o->h₁.get? b=some o:=λ b o e=>by rw [hh₁];exact K8 _ _ b o (CL _ e)
 have hns₁:h₁.Ns HP.objs.size (λ _=>none):=by rw [hh₁];exact (Heap.Ns.new HP (.type "dict")).keeps (K8 _ _)
 have hC:HP.objs.size=s2.heap.objs.size + 1:=by rw [<- hH2,Ig]
 have hDC:s2.heap.objs.size≠HP.objs.size:=by rw [hC];exact BM (JJ _)
 have hCle:s2.heap.objs.size<=HP.objs.size:=by rw [hC];exact Rk _
 have hfp:∀ b∈fp,b < s2.heap.objs.size:=λ b hb=>by
  obtain ⟨o,e,_⟩:=T.obj 0 _ st b hb;exact Bl e
 have below:∀ b,b < s2.heap.objs.size->b≠HP.objs.size:=λ b hb=>by rw [hC];exact BM (Lv hb)
 have old:∀ b o,s2.heap.get? b=some o->h₁.get? b=some o:=λ b o e=>kk b o (hH2 ▸ CL _ e);have hacc:h₁.get? s2.heap.objs.size=some { cls:=.type "list",dict:=none,data:=.seq ([]:List Af).toArray }:=kk _ _ (hH2 ▸ Ea _ rfl);have fD:H2 s2.heap.objs.size=none:=I.hok.fresh (AS _);obtain ⟨W,⟨m0,w0⟩,hW⟩:=h _ fD;have hok3:HOk X.prog X.w (Aw H2 s2.heap.objs.size (.lst [])) h₁:=I.hok.laid old (AS _) ⟨Gx _,[],0,.nil,hacc⟩;have st1:tn 0 h₁:=T.keep _ _ _ st λ b hb o e=>old b o e;have I3:Inv (AE X s2 H2 scope HP.objs.size N' fp pins) [] (σ++AM k none) (Aw H2 s2.heap.objs.size (.lst [])) { s2 with heap:=h₁ }:=
  c.inv I hf hfp (t':=s2.toks) hDC (AS _) hCle old hns₁ (λ b hb=>AR hb) hok3 (by rw [AR (BF hDC)];exact I.hok.fresh hCle) (by rw [hC];exact JJ _) (λ x a h l=>by
   have hs:(HP.push { cls:=.type "dict",data:=.dict #[] }).objs.size=HP.objs.size + 1:=Ig ..;have h':(CV (HP.push { cls:=.type "dict",data:=.dict #[] }).objs.size scope.names (CP X.env.cells scope.names [])).lookup x=some a:=by rw [hs];exact h
   rcases Me scope.names _ _ x a h' with z | z
   ·exact absurd (Bm (c.old I (Gk _ x a _ [] (c.cells I) (λ z=>nomatch z) z)) (BH hCle (FX l))) (Ed _)
   ·rw [hh₁];exact z)
 have fx:∀ {H':Hp},(∀ b∈fp,H' b=none)->∀ b∈fp,BZ (AE X s2 H2 scope HP.objs.size N' fp pins) [] H' b:=λ hn b hb=>by
  obtain ⟨f0,f1,f2,f3,f4,f5⟩:=hf b hb;refine ⟨hn b hb,BM (Bm (hfp b hb) hCle),λ hz=>?_,.inl hb,λ x a h=>(c.cl I h).elim (λ z=>f4 x a z) λ z=>Fh (Bm (hfp b hb) (BH hCle (FX z.1))),λ p hp=>f5 p (by simpa [AE] using hp)⟩;rcases jb2.mp (I.stkSub b hz) with z | z
  ·exact f1 z
  ·exact f2 z
 have f0:∀ b∈fp,(Aw H2 s2.heap.objs.size (.lst [])) b=none:=λ b hb=>by rw [AR (BM (hfp b hb))];exact (hf b hb).1
 have loop:∀ s₃:Aj,s₃={ s2 with heap:=h₁ } ->
   EZ (Aq X.prog X.w) X.A (.compLoop (.ListComp elt [⟨tg,iter,ifs,0⟩] scope pos) 0 (.ref it) (.ref s2.heap.objs.size) (Ey scope (D4 X scope HP.objs.size) HP.objs.size X.env))
    (RR (.ref s2.heap.objs.size) (Ey scope (D4 X scope HP.objs.size) HP.objs.size X.env)) s₃:=by
  rintro s₃ rfl;refine Xi (λ n s'=>∃ i H' ys,Inv (AE X s2 H2 scope HP.objs.size N' fp pins) [] (σ++AM k none) H' s'/\tn i s'.heap/\(∀ b∈fp,H' b=none)/\W i n ys H') ?_ m0 ⟨0,_,[],I3,st1,f0,w0⟩;rintro n s4 ⟨i,H4,ys,I4,st4,fr4,w4⟩;obtain ⟨hD4,hcase⟩:=hW i n ys H4 w4;rcases hcase with ⟨stop,qn⟩ | ⟨go,step⟩
  ·refine A3 (T.done (AE X s2 H2 scope HP.objs.size N' fp pins) rfl rfl rfl hcalm i [] s4 _ H4 (Jt X scope HP.objs.size (RR (.ref s2.heap.objs.size) (Ey scope (D4 X scope HP.objs.size) HP.objs.size X.env))) I4 (fx fr4) st4 stop) λ r s5 ⟨hr,I5⟩=>?_;subst hr;exact hRR _ _ _ _ _ hCle I5 qn
  ·refine A3 (T.item (AE X s2 H2 scope HP.objs.size N' fp pins) rfl rfl rfl hcalm i [] s4 _ H4 (Jt X scope HP.objs.size (RR (.ref s2.heap.objs.size) (Ey scope (D4 X scope HP.objs.size) HP.objs.size X.env))) I4 (fx fr4) st4 go) λ r s5 ⟨u,hr,h5⟩=>?_;subst hr;refine A3 h5 λ _ s6 ⟨x,H6,I6,r6,y6,st6,fr6⟩=>?_;have I6':=I6.pinned (fx fr6) (T.obj _ _ st6);have stays:∀ {σ':St}{H':Hp}{s':Aj},Inv (AE X s2 H2 scope HP.objs.size N' fp pins) ([]++Jp fp s6.heap) σ' H' s'->Inv (AE X s2 H2 scope HP.objs.size N' fp pins) [] (σ++AM k none) H' s'/\tn (i + 1) s'.heap/\∀ b∈fp,H' b=none:=λ {σ' H' s'} J=>by
    refine ⟨c.again I hf J.unpinned,T.keep _ _ _ st6 λ b hb o e=>(J.pin (b,o) (Bj _ (Bj _ (Ja hb e)))).1,λ b hb=>?_⟩;obtain ⟨o,e,d⟩:=T.obj _ _ st6 b hb;exact (J.pin (b,o) (Bj _ (Bj _ (Ja hb e)))).2.1
   refine A3 (hg _ (.ref s2.heap.objs.size) hCle _ s6 _ H6 x u _ (I6'.wish _) r6 (step x H6 y6)) λ _ s7 ⟨σ7,H7,I7,q7⟩=>?_;refine A3 (hc _ (.ref s2.heap.objs.size) hCle _ s7 σ7 H7 _ I7 q7) λ b s8 ⟨H8,I8,q8⟩=>?_;cases b with
   | false=>
    rw [if_neg BN] at q8 ⊢;obtain ⟨m',hm,w'⟩:=q8;obtain ⟨j1,j2,j3⟩:=stays I8.unwish;exact ⟨m',hm,i + 1,H8,ys,j1,j2,j3,w'⟩
   | true=>
    rw [if_pos rfl] at q8 ⊢;refine A3 (he _ (.ref s2.heap.objs.size) hCle _ s8 σ7 H8 _ I8 q8) λ y s9 ⟨z,H9,I9,r9,hD9,hz9,m',hm,w'⟩=>?_;refine A3 (Mi (X:=(AE X s2 H2 scope HP.objs.size N' fp pins).wish (Jt X scope HP.objs.size (RR (.ref s2.heap.objs.size) (Ey scope (D4 X scope HP.objs.size) HP.objs.size X.env)))) _ s9 σ7 H9 (.ref s2.heap.objs.size) [z] (.ref s2.heap.objs.size) [y] (λ _ H'=>H'=Aw H9 s2.heap.objs.size (.lst (ys++[z]))) I9 rfl (.cons r9 .nil) ⟨_,ys,z,rfl,rfl,hD9,hz9,rfl⟩) λ _ s10 ⟨_,H10,I10,_,e10⟩=>?_;subst e10;obtain ⟨j1,j2,j3⟩:=stays I10.unwish;exact ⟨m',hm,i + 1,_,_,j1,j2,j3,w'⟩
 exact codeAny_compStart_list (loop _ rfl) (T.self _ 0 _ _ _ st1 (loop _ rfl))
theorem Of (cells:List (Str×Addr)):∀ (l:List (Str×Dh)) (acc:List (Str×Addr)),(∀ x∈l,x.2≠NameKind.free)->CP cells l acc=acc
 | [],_,_=>rfl
 | (x,kd)::r,acc,h=>by
  have h0:kd≠.free:=h (x,kd) Ba;have ih:=Of cells r acc λ y hy=>h y (AU _ hy);cases kd with
  | free=>exact absurd rfl h0
  | _=>exact ih
def Sh {scope:AW}{env:Env} (h:∀ x∈scope.names,x.2≠NameKind.free):Ex scope env=scope:=by
 unfold Ex
 have:scope.names.map (λ (n,k)=>if (k == NameKind.free && env.scope.kind == .function && env.kindOf n == some .cell) then (n,NameKind.cell) else (n,k))=scope.names:=by
  refine (NF (g:=λ x=>x) λ x hx=>?_).trans (Wc _);have h0:=h x hx;obtain ⟨n,kd⟩:=x;cases kd with
  | free=>exact absurd rfl h0
  | _=>rfl
 rw [this]
variable {elt iter tg:Expr}{ifs:List Expr}{pos:Pos}{wi:TI}{g:TG}{L:Addr}{W:St->Nat->Hp->Prop}{tc:(St->Nat->Hp->Prop)->TT}{te:(St->Nat->Hp->Prop)->TE}
def zi (c:CompOk X scope N' k) (hcalm:X.calm=true) (hi:PI X tg iter wi) (nofree:∀ x∈scope.names,x.2≠NameKind.free) (hst:X.stack=X.env::X.outer) (hfr:X.env.frame=some L) (ph:Kp X W)
  (hg:∀ s2 H2 C fp pins xe',PG ((AE X s2 H2 scope C N' fp pins).wish xe') tg g) (hc:∀ s2 H2 C fp pins xe' W',Fl ((AE X s2 H2 scope C N' fp pins).wish xe') ifs (tc W'))
  (he:∀ s2 H2 C fp pins xe' W',Ia (Aq X.prog X.w) X.A (Ey scope (D4 X scope C) C X.env) xe'->HQ (AL X.prog X.w X.K) ((AE X s2 H2 scope C N' fp pins).wish xe') W'->PE ((AE X s2 H2 scope C N' fp pins).wish xe') elt (te W')) (hs:∀ x,Ij iter X.env x=pure x):
  PE X (.ListComp elt [⟨tg,iter,ifs,0⟩] scope pos) (λ σ H Q=>GJ k wi g (tc λ _=>W σ) (te λ _=>W σ) σ H Q):=by
 intro pins s σ H Q I h;rw [eval_ListComp];refine wpAny_comprehension rfl hs nofree c.kind c.names ?_;refine A3 (hi pins s σ H _ I h) λ v s1 h1=>A3 h1 λ itv s2 h2=>?_;obtain ⟨it,fp,tn,J,H',e,I2,T,st2,f2,Wh⟩:=h2;subst e;have blk:=Tp (elt:=elt) (iter:=iter) (pos:=pos) (E:=X.xe) (RR:=λ acc cenv r s'=>∃ m,s'.heap.Ns cenv.locals m/\∀ h',Fd cenv.locals s'.heap h'->match r with
  | .ok _=>EP X pins σ Q acc { s' with heap:=h' }
  | .error x=>As (Aq X.prog X.w) X.A (Jz "comprehension.variables-let-go" x cenv) (EP X pins σ Q) X.xe { s' with heap:=h' }) c hcalm I2 T st2 f2 (λ C D _=>hg s2 H' C fp pins _) (λ C D _=>hc s2 H' C fp pins _ λ _=>W σ) (λ C D hC=>he s2 H' C fp pins _ (λ _=>W σ) Pb λ pins1 σ1 H1 s1 e s' I1 hx=>by
   have J1:L2.Inv (AE X s2 H' scope C N' fp pins) [] σ1 H1 s1:=I1.unwish.pins_of λ _ z=>nomatch z
   obtain ⟨m,ns,_⟩:=J1.loc;refine V8 (C:=C) hst hfr hfr (CompOk.out I2 f2 J1) ⟨m,ns⟩ J1.free (λ z=>?_) (λ h' sb=>CompOk.away I2 hC (CompOk.out I2 f2 J1) J1.free sb) ph hx;rcases jb2.mp (I2.stkSub C z) with z | z
   ·exact Ed _ (Bm I2.lt (z ▸ hC))
   ·exact I2.nofs hC z) Wh λ D C σ' H3 s' hC J3 q=>by
   obtain ⟨m,ns,_⟩:=J3.loc;exact ⟨m,ns,λ h' sb=>⟨.ref D,H3,CompOk.away I2 hC (CompOk.out I2 f2 J3) J3.free sb,rfl,q⟩⟩
 rw [Of _ _ _ nofree,Sh nofree] at blk;exact blk
theorem Yc {M:Model}{A:AZ}{E:Af->Aj->Prop}{s:Aj}{env:Env}{e:Expr}{sc:AW}{pp:Pos}{nA fst:Sem Af}{g0:K4}{gr:List K4}{Qu:Af->Aj->Prop}{u:Af->Sem Unit}
  (e1:clausesOf e=g0::gr) (e2:∀ x,Ij g0.iter env x=pure x) (e3:∀ x∈sc.names,x.2≠NameKind.free) (e4:sc.kind=.function) (e5:∀ x∈sc.names,x.2=.local->sc.names.lookup x.1=some .local)
  (go:As M A fst (λ x t1=>As M A (pyIter x) (λ it t2=>As M A nA (λ acc t3=>As M A (K5 sc env.globals [] [] env.qual none .none (some env)) (λ ce t4=>
    EZ M A (.compStart e 0 it acc { ce with scope:=sc }) (λ r t=>match r with
     | .ok _=>As M A (u acc) (λ _ t'=>∃ m,t'.heap.Ns ce.locals m/\∀ hh,Fd ce.locals t'.heap hh->Qu .none { t' with heap:=hh }) E t
     | .error x=>∃ m,t.heap.Ns ce.locals m/\∀ hh,Fd ce.locals t.heap hh->As M A (Jz "comprehension.variables-let-go" x { ce with scope:=sc }) Qu E { t with heap:=hh }) t4) E t3) E t2) E t1) E s):
  As M A (M7 e sc env pp nA false fst (some u)) Qu E s:=by
 unfold M7;rw [closureFor_none e3,e1];refine AA (CA go (λ x t1 k1=>?_) λ _ _ y=>y);refine AA (J5 (AA (wpAny_of_eq (e2 x) ?_)));refine AA (GV (CA k1 (λ it t2 k2=>?_) λ _ _ y=>y));refine wpAny_standIf (AA (CA k2 (λ acc t3 k3=>?_) λ _ _ y=>y));refine AA (Bq (AA (CA k3 (λ ce t4 k4=>?_) λ _ _ y=>y)));dsimp only;rw [show (sc.names.map λ (n,k)=>if (k == NameKind.free && env.scope.kind == .function && env.kindOf n == some .cell) then (n,NameKind.cell) else (n,k))=sc.names from by
  refine (NF (g:=λ x=>x) λ y hy=>?_).trans (Wc _);have h0:=e3 y hy;obtain ⟨n,kd⟩:=y;cases kd with
  | free=>exact absurd rfl h0
  | _=>rfl]
 have v1:∀ y∈(sc.names.filter λ y=>(y.2 == .local || y.2 == .cell) && y.1 != (".0" : Str)).reverse,y.2=.local->Env.kindOf { ce with scope:=sc } y.1=some .local:=λ y hy hl=>
  e5 y (jf9.mp (List.mem_reverse.mp hy)).1 hl
 refine GV (AA (wpAny_attempt (GV (wpAny_run (M4 k4 λ r t kr=>?_)))));cases r with
 | ok f=>
  refine AA (wpAny_rule (AA (GV (CA kr (λ _ t' kr'=>?_) λ _ _ y=>y))));obtain ⟨m,hn,kr'⟩:=kr';refine AA (wpAny_comp_letGo (cenv:={ ce with scope:=sc }) e4 _ t' m (λ y hy hl=>?_) hn λ hh _ _ sb=>Bq (kr' hh sb));rcases jc4.mp hy with z | z
  ·exact v1 y (R7 z) hl
  ·exact v1 y (Ry z) hl
 | error x=>
  obtain ⟨m,hn,kr⟩:=kr;exact AA (GV (wpAny_comp_letGo (cenv:={ ce with scope:=sc }) e4 _ t m v1 hn λ hh _ _ sb=>kr hh sb))
theorem Xe {i:Nat}{x:Str}{pos' spos:Pos} (hN:X.N.Nodup) (hi':X.N[i]?=some x) (hx:Ej X.env.scope x) (hfn:X.fn x=true\/X.env.scope.names.lookup x=some .local) (c:CompOk X scope N' k) (hcalm:X.calm=true) (hi:PI X tg iter wi) (nofree:∀ x∈scope.names,x.2≠NameKind.free) (hst:X.stack=X.env::X.outer) (hfr:X.env.frame=some L) (ph:Kp X W)
  (hg:∀ s2 H2 C fp pins xe',PG ((AE X s2 H2 scope C N' fp pins).wish xe') tg g) (hc:∀ s2 H2 C fp pins xe' W',Fl ((AE X s2 H2 scope C N' fp pins).wish xe') ifs (tc W'))
  (he:∀ s2 H2 C fp pins xe' W',Ia (Aq X.prog X.w) X.A (Ey scope (D4 X scope C) C X.env) xe'->HQ (AL X.prog X.w X.K) ((AE X s2 H2 scope C N' fp pins).wish xe') W'->PE ((AE X s2 H2 scope C N' fp pins).wish xe') elt (te W')) (hs:∀ x,Ij iter X.env x=pure x):
  PS X (.Assign [.Name x pos'] (.ListComp elt [⟨tg,iter,ifs,0⟩] scope pos) spos) (DA (λ σ H Q=>GJ k wi g (tc λ _=>W σ) (te λ _=>W σ) σ H Q) (Es i)):=by
 have hsw:∃ b,Ky (.ListComp elt [⟨tg,iter,ifs,0⟩] scope pos) (some (.Name x pos')) spos.line X.env=pure b:=⟨_,rfl⟩
 obtain ⟨b,hsw⟩:=hsw;cases b with
 | false=>exact Kk hN hi' hx (zi c hcalm hi nofree hst hfr ph hg hc he hs) hsw hfn
 | true=>
  intro pins s σ H D I h;rw [exec_Assign_Name_used _ _ _ _ hsw];refine AA (J5 (AA ?_));show As _ X.A (do let _<-M7 (.ListComp elt [⟨tg,iter,ifs,0⟩] scope pos) scope X.env _ (newList []) false (eval iter X.env) (some (EE (.Name x pos') X.env))) _ _ s;refine AA (CA (Yc (Qu:=λ _ s'=>SP X pins D .next s') rfl hs nofree c.kind c.names ?_) (λ _ s' hq=>Bq (Bq hq)) λ _ _ e=>e);refine A3 (hi pins s σ H _ I h) λ v s1 h1=>A3 h1 λ itv s2 h2=>?_;obtain ⟨it,fp,tn,J,H',e,I2,T,st2,f2,Wh⟩:=h2;subst e;have blk:=Tp (elt:=elt) (iter:=iter) (pos:=pos) (E:=X.xe) (Q:=λ x H1=>Es i x σ H1 D.nx) (RR:=λ acc cenv r s'=>match r with
   | .ok _=>As (Aq X.prog X.w) X.A (EE (.Name x pos') X.env acc) (λ _ t'=>∃ m,t'.heap.Ns cenv.locals m/\∀ hh,Fd cenv.locals t'.heap hh->SP X pins D .next { t' with heap:=hh }) X.xe s'
   | .error x=>∃ m,s'.heap.Ns cenv.locals m/\∀ h',Fd cenv.locals s'.heap h'->As (Aq X.prog X.w) X.A (Jz "comprehension.variables-let-go" x cenv:Sem Af) (λ _ t=>SP X pins D .next t) X.xe { s' with heap:=h' }) c hcalm I2 T st2 f2 (λ C D _=>hg s2 H' C fp pins _) (λ C D _=>hc s2 H' C fp pins _ λ _=>W σ) (λ C D hC=>he s2 H' C fp pins _ (λ _=>W σ) Pb λ pins1 σ1 H1 s1 e s' I1 hx=>by
    have J1:L2.Inv (AE X s2 H' scope C N' fp pins) [] σ1 H1 s1:=I1.unwish.pins_of λ _ z=>nomatch z
    obtain ⟨m,ns,_⟩:=J1.loc;refine V8 (C:=C) hst hfr hfr (CompOk.out I2 f2 J1) ⟨m,ns⟩ J1.free (λ z=>?_) (λ h' sb=>CompOk.away I2 hC (CompOk.out I2 f2 J1) J1.free sb) ph hx;rcases jb2.mp (I2.stkSub C z) with z | z
    ·exact Ed _ (Bm I2.lt (z ▸ hC))
    ·exact I2.nofs hC z) Wh λ E C σ' H3 s' hC J3 q=>by
    obtain ⟨m,ns,_⟩:=J3.loc;have I3:=CompOk.out I2 f2 J3;show As _ X.A (EE (.Name x pos') X.env (.ref E)) _ _ _;refine Pg (O5 I3 hN hi' hx (v:=.ref E) rfl (λ s'' I4 hsb=>?_) hfn);obtain ⟨a,sb,ha⟩:=hsb;have hCa:C≠a:=by
     rcases ha with z | z
     ·rw [z];exact Fh (Bm I2.lt hC)
     ·obtain ⟨v,o,ho,_⟩:=I2.cell x a z;exact Fh (Bm (Bl ho) hC)
    exact ⟨m,ns.sameBut sb hCa,λ h' sb'=>⟨_,H3,CompOk.away I2 hC I4 J3.free sb',q⟩⟩
  rw [Of _ _ _ nofree,Sh nofree] at blk;exact blk
end
def DQ (k:Nat) (asg:PV->Ag->Option Ag) (test:Fb) (elt:Fx):List PV->Ag->List (PV×Nat)->Rz (List (PV×Nat)×Ag)
 | [],ρ,acc=>.ok (acc,ρ)
 | x::xs,ρ,acc=>match asg x (ρ++AM k none) with
  | none=>.no
  | some ρ1=>(test ρ1).bindN λ (b,ρ2)=>if b=true then (elt ρ2).bind λ (y,e,ρ3)=>(if acc.length < Au then DQ k asg test elt xs (ρ3.take ρ.length) (acc++[(y,e)]) else .no) else DQ k asg test elt xs (ρ2.take ρ.length) acc
def Fm.compX (M:Fm) (D:Addr) (n:Nat) (vI:List Nat) (σ:St):Fm:={ M.comp D n vI with W:=λ _ c H'=>M.W σ c H' }
section
variable {M:Fm}{ρ ρ':Ag}{σ σ':St}{H H' H'':Hp}{fps fps' fps'':AI}{vs vs':List Nat}
def Rep.toX {D:Addr}{n:Nat}{vI:List Nat}{τ:St} (r:Rep (M.comp D n vI) ρ σ H fps):Rep (M.compX D n vI τ) ρ σ H fps:=⟨r.own,r.non,r.dj,r.zo,r.fr,r.zd,r.len,r.msf,r.h0,r.iov⟩
def Rep.ofX {D:Addr}{n:Nat}{vI:List Nat}{τ:St} (r:Rep (M.compX D n vI τ) ρ σ H fps):Rep (M.comp D n vI) ρ σ H fps:=⟨r.own,r.non,r.dj,r.zo,r.fr,r.zd,r.len,r.msf,r.h0,r.iov⟩
def jr {g:TG}{is vI vE vo:List Nat}{asg:PV->Ag->Option Ag}{test:Fb}{elt:Fx}{k:Nat}{J:It}{els:List PV}{Q:VK}{n:Nat}{P:Fm->Prop}
  (hP:∀ D,P (M.compX D n vI σ)) (hn:n=ρ.length) (hal:∀ i,∀ j∈M.al i,M.Ms j=false) (hvI:∀ i∈vI,M.Ms i=false) (hvE:∀ i∈vE,M.Ms i=false) (his:∀ i∈is,n<=i) (hg:∀ D,DI (M.compX D n vI σ) vI is g asg) (hvo:∀ i,i∈vE->i < n->i∈vo) (hvo2:∀ i∈vo,M.Ms i=false)
  (rep:Rep M ρ σ H fps)
  (hgo:∀ {D H' fps' i},H D=none->KD M H fps H' fps'->i < els.length->J.go i H') (hst:∀ {D H' fps' i},H D=none->KD M H fps H' fps'->els.length<=i->J.stop i H')
  (hy:∀ {D H' fps' i x H''},H D=none->KD M H fps H' fps'->i < els.length->J.yld i H' x H''->(∀ a o,H' a=some o->H'' a=some o)/\∃ z,els[i]?=some z/\Own M.K H'' (Zv (M.plus [D]) vI fps') z 0 x [])
  (q:match DQ k asg test elt els ρ [] with
   | .ok (acc,ρ')=>∀ D ws H' fps' fpl,KD M H fps H' fps'->Agr M ρ ρ'->Rep (M.plus [D]) ρ' σ H' fps'->H D=none->H' D=some (.lst ws)->Tmps M.K H' (Zv (M.plus [D]) vo fps') acc ws fpl->(∀ a∈fpl,H a=none/\¬ Zf (M.plus [D]) fps' a)->Q (.ref D) H'
   | .exc c=>∀ H' fps',KD M H fps H' fps'->M.W σ c H'
   | .no=>False):
  ∀ D,H D=none->∃ W:Nat->Nat->List V->Hp->Prop,(∃ m,W 0 m [] (Aw H D (.lst [])))/\∀ i m ys H1,W i m ys H1->H1 D=some (.lst ys) /\
   ((J.stop i H1/\Q (.ref D) H1)\/(J.go i H1/\∀ x H',J.yld i H1 x H'->g x (σ++AM k none) H' λ σ2 H2=>∃ M',P M'/\tT M' test σ2 H2 λ b H3=>if b=true then ∃ M',P M'/\tE M' elt vE σ2 H3 λ y H4=>H4 D=some (.lst ys)/\ys.length < Au/\∃ m',m' < m/\W (i + 1) m' (ys++[y]) (Aw H4 D (.lst (ys++[y]))) else ∃ m',m' < m/\W (i + 1) m' ys H3)):=by
 intro D hD;subst hn;let W:Nat->Nat->List V->Hp->Prop:=λ i m ys H1=>m=els.length - i/\∃ ρ1 fps1 acc fpl,Rep (M.plus [D]) ρ1 σ H1 fps1/\KD M H fps H1 fps1/\Agr M ρ ρ1/\Tmps M.K H1 (Zv (M.plus [D]) vo fps1) acc ys fpl/\(∀ a∈fpl,H a=none/\¬ Zf (M.plus [D]) fps1 a)/\H1 D=some (.lst ys)/\DQ k asg test elt (els.drop i) ρ1 acc=DQ k asg test elt els ρ [];have k0:KD M H fps (Aw H D (.lst [])) fps:=KD.grow λ a o h=>by rw [AR (λ e=>by rw [e,hD] at h;cases h)];exact h
 have r0:Rep (M.plus [D]) ρ σ (Aw H D (.lst [])) fps:=by
  refine rep.wide hal k0 Agr.refl (rep.grow λ a o h=>by rw [AR (λ e=>by rw [e,hD] at h;cases h)];exact h) λ a ha=>?_;rw [jc0.mp ha];exact ⟨hD,by rw [BS];simp,rep.nz hD⟩
 refine ⟨W,⟨els.length,by simp,ρ,fps,[],[],r0,k0,Agr.refl,⟨rfl,rfl⟩,λ _ z=>(nomatch z),BS,by simp⟩,?_⟩;rintro i m ys H1 ⟨rfl,ρ1,fps1,acc,fpl,r1,k1,g1,tm,hf,h1D,ec⟩;refine ⟨h1D,?_⟩;have hlen:ρ1.length=ρ.length:=g1.2;by_cases hi:i < els.length
 ·right
  refine ⟨hgo hD k1 hi,λ x H' hyl=>?_⟩;obtain ⟨kx,z,ez,oz⟩:=hy hD k1 hi hyl;have tm:=KD.stays (M:=M.plus [D]) (KD.grow kx) r1 hvo2 tm λ a ha=>(hf a ha).2;have r1:=r1.grow kx;have k1:=k1.trans (KD.grow (M:=M) (fps:=fps1) kx);have h1D:=kx D _ h1D;have ed:els.drop i=z::els.drop (i + 1):=by
   obtain ⟨h1,h2⟩:=ja6.mp ez;rw [<- h2];exact RE h1
  rw [ed] at ec;obtain ⟨R0,hR⟩:∃ R0,R0=DQ k asg test elt els ρ []:=⟨_,rfl⟩
  rw [<- hR] at ec q;unfold DQ at ec;cases ea:asg z (ρ1++AM k none) with
  | none=>rw [ea] at ec;rw [<- ec] at q;exact (show False from q).elim
  | some ρ2=>
   rw [ea] at ec;dsimp only at ec;have rx:Rep (M.compX D ρ.length vI σ) (ρ1++AM k none) (σ++AM k none) H' fps1:=by rw [<- hlen];exact r1.ext.toX
   refine hg D z x _ _ H' fps1 ρ2 _ rx oz ea λ σ2 fps2 s2 a2 l2 r2=>⟨_,hP D,ρ2,fps2,r2,?_⟩
   have hl2:ρ2.length=ρ.length + k:=by rw [l2,Cd,II,hlen]
   have same2:∀ j,j < ρ.length->ρ2[j]?=ρ1[j]?/\fps2 j=fps1 j/\σ2[j]?=σ[j]?:=λ j hj=>by
    obtain ⟨z1,z2,z3⟩:=a2 j λ z=>absurd (his j z) (by omega);rw [Dw (by omega)] at z1;rw [Dw (by rw [<- rep.len];omega)] at z3;exact ⟨z1,z2,z3⟩
   have kd2:KD (M.compX D ρ.length vI σ) H' fps1 H' fps2->True:=λ _=>trivial;cases et:test ρ2 with
   | exc c=>rw [et] at ec;rw [<- ec] at q;exact (show False from q).elim
   | no=>rw [et] at ec;rw [<- ec] at q;exact (show False from q).elim
   | ok p=>
    obtain ⟨b,ρ3⟩:=p;rw [et] at ec;intro H3 fps3 k3 g3 r3;dsimp only [Rz.bindN] at ec;have far:∀ {ρ4:Ag}{H4:Hp}{fps4:AI},KD (M.compX D ρ.length vI σ) H' fps2 H4 fps4->Agr (M.compX D ρ.length vI σ) ρ2 ρ4->Rep (M.compX D ρ.length vI σ) ρ4 σ2 H4 fps4 ->
      KD M H fps H4 (BQ ρ.length fps4)/\KD M H' fps1 H4 (BQ ρ.length fps4)/\Agr M ρ (ρ4.take ρ.length)/\Rep (M.plus [D]) (ρ4.take ρ.length) σ H4 (BQ ρ.length fps4)/\H4 D=some (.lst ys):=λ {ρ4 H4 fps4} k4 g4 r4=>by
     have kk:KD M H' fps1 H4 (BQ ρ.length fps4):=by
      refine ⟨λ a o ha hn=>k4.keep a o ha λ ⟨j,hj,hx⟩=>hn ⟨j,hj,s2 j a hx⟩,k4.dom,λ j a ha=>?_,λ j hj=>?_⟩
      ·rcases k4.sub j a (En ha).1 with z | z
       ·exact .inl (s2 j a z)
       ·exact .inr z
      ·unfold BQ;by_cases hjl:j < ρ.length
       ·rw [if_pos hjl,k4.same j hj];exact (same2 j hjl).2.1
       ·rw [if_neg hjl];exact (r1.far (by omega)).symm
     refine ⟨k1.trans kk,kk,?_,r4.ofX.take (σ':=σ) (λ j hj=>(same2 j hj).2.2) rep.len.symm (by rw [g4.2,hl2];omega) ⟨λ hio=>?_,λ p hp=>by rw [rep.len];exact (ja6.mp (rep.iov.2 p hp)).1⟩,?_⟩
     ·refine ⟨λ j hj=>?_,by rw [Fj,g4.2,hl2];omega⟩;by_cases hjl:j < ρ.length
      ·rw [JM hjl,g4.1 j hj,(same2 j hjl).1];exact g1.1 j hj
      ·rw [jf1.mpr (by rw [Fj];omega),jf1.mpr (by omega)]
     ·cases e:M.io with
      | none=>exact absurd e hio
      | some v=>
       have:=(ja6.mp (rep.iov.1 v e).1).1
       rw [rep.len];exact this
     ·exact k4.keep D _ h1D λ ⟨j,_,hx⟩=>r2.zo j D hx (.inr (by simp))
    have farK:∀ {H4:Hp}{fps4:AI},KD (M.compX D ρ.length vI σ) H' fps2 H4 fps4->KD M H fps H4 (BQ ρ.length fps4):=λ {H4 fps4} k4=>by
     refine k1.trans ⟨λ a o ha hn=>k4.keep a o ha λ ⟨j,hj,hx⟩=>hn ⟨j,hj,s2 j a hx⟩,k4.dom,λ j a ha=>?_,λ j hj=>?_⟩
     ·rcases k4.sub j a (En ha).1 with z | z
      ·exact .inl (s2 j a z)
      ·exact .inr z
     ·unfold BQ;by_cases hjl:j < ρ.length
      ·rw [if_pos hjl,k4.same j hj];exact (same2 j hjl).2.1
      ·rw [if_neg hjl];exact (r1.far (by omega)).symm
    have notZ:∀ {H4:Hp}{fps4:AI},KD M H' fps1 H4 fps4->∀ {a},a∈fpl->¬ Zf (M.plus [D]) fps4 a:=λ {H4 fps4} k4 a ha z=>by
     rcases z with z | ⟨j,z⟩
     ·exact (hf a ha).2 (.inl z)
     ·rcases k4.sub j a z with z | z
      ·exact (hf a ha).2 (.inr ⟨j,z⟩)
      ·obtain ⟨xs,e⟩:=tm.lsts a ha;rw [z] at e;cases e
    cases b with
    | false=>
     rw [if_neg BN] at ec ⊢;obtain ⟨f1,f2,f3,f4,f5⟩:=far k3 g3 r3;refine ⟨els.length - (i + 1),by omega,rfl,ρ3.take ρ.length,BQ ρ.length fps3,acc,fpl,f4,f1,f3,?_,λ a ha=>⟨(hf a ha).1,λ z=>?_⟩,f5,by rw [<- hR,<- hlen];exact ec⟩
     ·exact KD.stays (M:=M.plus [D]) (σ:=σ) (ρ:=ρ1) ⟨f2.keep,f2.dom,f2.sub,f2.same⟩ r1 hvo2 tm λ a ha=>(hf a ha).2
     ·exact notZ f2 ha z
    | true=>
     rw [if_pos rfl] at ec ⊢;refine ⟨_,hP D,ρ3,fps3,r3,?_⟩;cases ee:elt ρ3 with
     | exc c=>
      rw [ee] at ec;rw [<- ec] at q;intro H4 fps4 k4;exact q H4 (BQ ρ.length fps4) (farK (k3.trans k4))
     | no=>rw [ee] at ec;rw [<- ec] at q;exact (show False from q).elim
     | ok p=>
      obtain ⟨y,e,ρ4⟩:=p;rw [ee] at ec;intro w H4 fps4 fe k4 g4 r4 o4 t4;dsimp only [Rz.bind] at ec;by_cases hz:acc.length < Au
      ·rw [if_pos hz] at ec;obtain ⟨f1,f2,f3,f4,f5⟩:=far (k3.trans k4) (g3.trans g4) r4;have tm4:Tmps M.K H4 (Zv (M.plus [D]) vo (BQ ρ.length fps4)) acc ys fpl:=KD.stays (M:=M.plus [D]) (σ:=σ) (ρ:=ρ1) ⟨f2.keep,f2.dom,f2.sub,f2.same⟩ r1 hvo2 tm λ a ha=>(hf a ha).2;have zD:Zv (M.plus [D]) vo (BQ ρ.length fps4) D:=.inl (.inr (by simp));have hDe:D∉fe:=λ z=>t4.ndj D z (.inl (.inr (by simp)));have hDl:D∉fpl:=λ z=>(hf D z).2 (.inl (.inr (by simp)));have oy:Own M.K H4 (λ a=>Zv (M.plus [D]) vo (BQ ρ.length fps4) a\/a∈fe) y e w fe:=o4.weak λ a h=>h.elim (λ h=>.inl (h.elim .inl λ ⟨j,nj,hx⟩=>.inr ⟨j,λ z=>nj (hvo j z (En hx).2),(En hx).1⟩)) .inr;have back3:∀ a,H3 a=none->H' a=none:=λ a e=>by
        cases e':H' a with
        | none=>rfl
        | some o=>exact absurd e (k3.dom a (by rw [e'];simp))
       have back1:∀ a,H' a=none->H a=none:=λ a e=>by
        cases e':H a with
        | none=>rfl
        | some o=>exact absurd e (k1.dom a (by rw [e'];simp))
       have kt:KD M H fps (Aw H4 D (.lst (ys++[w]))) (BQ ρ.length fps4):=⟨λ a o ha hn=>by rw [AR (λ e=>by rw [e,hD] at ha;cases ha)];exact f1.keep a o ha hn,λ a ha=>by
        by_cases eb:a=D
        ·rw [eb,BS];simp
        ·rw [AR eb];exact f1.dom a ha,f1.sub,f1.same⟩
       refine ⟨f5,by rw [tm.length];exact hz,els.length - (i + 1),by omega,rfl,ρ4.take ρ.length,BQ ρ.length fps4,acc++[(y,e)],fpl++fe,f4.touch f5,kt,f3,?_,λ a ha=>?_,BS,by rw [<- hR,<- hlen];exact ec⟩
       ·exact (tm4.at zD ⟨.l ys,f5⟩ hDl).snoc (oy.at (.inl zD) ⟨.l ys,f5⟩ hDe λ _ _ n=>n) λ a ha hb=>by
         obtain ⟨xs,e⟩:=tm.lsts a ha;rw [back3 a (t4.new a hb)] at e;cases e
       ·rcases jc4.mp ha with z | z
        ·exact ⟨(hf a z).1,notZ f2 z⟩
        ·refine ⟨back1 a (back3 a (t4.new a z)),λ hz=>t4.ndj a z ?_⟩;rcases hz with hz | ⟨j,hz⟩
         ·exact .inl hz
         ·exact .inr ⟨j,(En hz).1⟩
      ·rw [if_neg hz] at ec;rw [<- ec] at q;exact (show False from q).elim
 ·left
  have ed:els.drop i=[]:=RB (by omega);rw [ed] at ec;rw [<- ec] at q;unfold DQ at q;exact ⟨hst hD k1 (by omega),q D ys H1 fps1 fpl k1 g1 r1 hD h1D tm hf⟩
def HX (f:Fx) (k:Nat) (asg:PV->Ag->Option Ag) (test:Fb) (elt:Fx):Fx:=λ ρ=>match f ρ with
 | .ok (.lst xs,_,ρ1)=>(DQ k asg test elt xs ρ1 []).bind λ (acc,ρ2)=>Cv acc ρ2
 | .ok _=>.no
 | .exc c=>.exc c
 | .no=>.no
theorem zY {g:TG}{is vI vE vo:List Nat}{asg:PV->Ag->Option Ag}{test:Fb}{elt f:Fx}{k n:Nat}{Q:VK}{P:Fm->Prop}
  (hn:σ.length=n) (hP:∀ D,P (M.compX D n vI σ)) (hal:∀ i,∀ j∈M.al i,M.Ms j=false) (hvI:∀ i∈vI,M.Ms i=false) (hvE:∀ i∈vE,M.Ms i=false) (his:∀ i∈is,n<=i) (hg:∀ D,DI (M.compX D n vI σ) vI is g asg)
  (hvo:∀ i,i∈vE->i < n->i∈vo) (hvo2:∀ i∈vo,M.Ms i=false) (hq:tE M (HX f k asg test elt) vo σ H Q):
  GJ k (ES M.K (tE M f vI)) g (λ σ H Q=>∃ M',P M'/\tT M' test σ H Q) (λ σ H Q=>∃ M',P M'/\tE M' elt vE σ H Q) σ H Q:=by
 obtain ⟨ρ,fps,rep,q⟩:=hq;refine ⟨ρ,fps,rep,?_⟩;unfold HX at q;cases ef:f ρ with
 | no=>rw [ef] at q;exact q
 | exc c=>rw [ef] at q;exact q
 | ok p=>
  obtain ⟨x,d,ρ1⟩:=p;rw [ef] at q;intro v H1 fps1 f1 k1 g1 rep1 o1 t1;have o0:Own M.K H1 (Zv M vI fps1) x 0 v []:=Own.freeze (λ _ z=>.inl z) x d v f1 (λ a ha z=>t1.ndj a ha z.zf) o1;have hl:n=ρ1.length:=by rw [rep1.len];exact hn.symm
  have fin:∀ (els:List PV),(match (DQ k asg test elt els ρ1 []).bind λ (acc,ρ2)=>Cv acc ρ2 with
    | .ok (x,d,ρ')=>∀ v H' fps' fp,KD M H fps H' fps'->Agr M ρ ρ'->Rep M ρ' σ H' fps'->Own M.K H' (Zt M vo fps' fp) x d v fp->Temp M vo H H' fps' fp->Q v H'
    | .exc c=>∀ H' fps',KD M H fps H' fps'->M.W σ c H'
    | .no=>False)->(match DQ k asg test elt els ρ1 [] with
    | .ok (acc,ρ')=>∀ D ws H' fps' fpl,KD M H1 fps1 H' fps'->Agr M ρ1 ρ'->Rep (M.plus [D]) ρ' σ H' fps'->H1 D=none->H' D=some (.lst ws)->Tmps M.K H' (Zv (M.plus [D]) vo fps') acc ws fpl->(∀ a∈fpl,H1 a=none/\¬ Zf (M.plus [D]) fps' a)->Q (.ref D) H'
    | .exc c=>∀ H' fps',KD M H1 fps1 H' fps'->M.W σ c H'
    | .no=>False):=λ els q=>by
   cases ec:DQ k asg test elt els ρ1 [] with
   | no=>rw [ec] at q;exact q.elim
   | exc c=>rw [ec] at q;exact λ H' fps' k=>q H' fps' (k1.trans k)
   | ok p=>
    obtain ⟨acc,ρ2⟩:=p;rw [ec] at q;exact λ D ws H' fps' fpl k g r hD hD' tm hf=>Oo rep1 k1 g1 q k g r hD hD' tm hf
  cases x with
  | lst xs=>
   have one:∀ {Z:Addr->Prop}{H:Hp},Own M.K H Z (.lst xs) 0 v []->∃ a ws,v=.ref a/\Cf M.K H a ws/\OwnL M.K H Z xs 0 ws []:=λ o=>by
    rw [Own] at o;obtain ⟨b,ws,e,⟨_,hr,_,ol⟩ | ⟨h,_⟩⟩:=o
    ·exact ⟨b,ws,e,.inl (.inl hr.1),ol⟩
    ·exact absurd rfl h
   obtain ⟨a,ws,rfl,sq,ol⟩:=one o0;refine .inl ⟨a,rfl,.inl ⟨⟨ws,sq⟩,?_⟩⟩;refine jr (els:=xs) hP hl hal hvI hvE his hg hvo hvo2 rep1 (λ {D H' fps' i} hD k' h=>?_) (λ {D H' fps' i} hD k' h=>?_) (λ {D H' fps' i x H''} hD k' h y=>?_) (fin xs q)
   ·obtain ⟨a',ws,e,s,ol⟩:=one (KD.seen rep1 k' hD hvI o0);cases e;exact ⟨ws,ws[i]'(by rw [ol.length];exact h),s,by simp⟩
   ·obtain ⟨a',ws,e,s,ol⟩:=one (KD.seen rep1 k' hD hvI o0);cases e;exact ⟨ws,s,by rw [ol.length];exact h⟩
   ·obtain ⟨a',ws,e,s,ol⟩:=one (KD.seen rep1 k' hD hvI o0);cases e;obtain ⟨e1,e2⟩:=y;subst e1;exact ⟨λ _ _ h=>h,ol.get (e2 ws s)⟩
  | _=>exact q.elim
end
structure Sx where
 N:List Str
 sc:AW
 ms:List Nat
 al:List (List Nat)
 Γ:List (Str×(Bool×Nat×Fn))
 Γm:List (Str×Fn)
 rz:Bool
 xc:List Nat
 pn:List Nat
def Sx.alF (S:Sx) (i:Nat):List Nat:=S.al.getD i []
def Sx.msF (S:Sx) (i:Nat):Bool:=S.ms.contains i
def Dv (sc:AW) (x:Str) (k:Dh):Bool:=sc.names.lookup x == some k
def Dl (sc:AW) (x:Str):Bool:=Dv sc x .local || Dv sc x .cell || Dv sc x .free
def IK (N:List Str) (x:Str):Option Nat:=N.findIdx? (·== x)
def Sx.slot (S:Sx) (x:Str):Option Nat:=if Dl S.sc x && !(x == ("__debug__" : Str)) && !(x == ("__classdict__" : Str)) then IK S.N x else none
def Sx.glob (S:Sx) (x:Str):Bool:=Dv S.sc x .globalImplicit
structure XS (X:Cx) (P:A7) (w:A6) (K:Frag) (mg:Str->Option Af) (base:Heap) (lvl:Nat) (S:Sx) (Wx:St->Nat->Hp->Prop):Prop where
 prog:X.prog=P
 w:X.w=w
 K:X.K=K
 mg:X.mg=mg
 base:X.base=base
 N:X.N=S.N
 sc:X.env.scope=S.sc
 calm:X.calm=true
 room:Room lvl X.A
 po:Ia (Aq X.prog X.w) X.A X.env X.xe
 ps:HQ (AL X.prog X.w X.K) X Wx
 rs:S.rz=true->O6 X Wx/\Kp X Wx/\X.stack=X.env::X.outer/\∃ L,X.env.frame=some L
structure MS (M:Fm) (K:Frag) (S:Sx) (Wx:St->Nat->Hp->Prop):Prop where
 K:M.K=K
 ms:M.Ms=S.msF
 al:∀ i,i < S.N.length->M.al i=S.alF i
 als:∀ i,∀ j∈M.al i,M.Ms j=false
 W:M.W=Wx
 pn:∀ p∈M.pn,p.1 < S.N.length
def Ek (P:A7) (w:A6) (K:Frag) (mg:Str->Option Af) (base:Heap) (lvl:Nat) (Γm:List (Str×Fn)):Prop:=
 ∀ x F,Γm.lookup x=some F->(x == ("__debug__" : Str))=false/\∃ fa fd ps,mg x=some (.ref fa)/\Ih K (.ref fa)=true/\zgw K fd ps []/\FnOk P w K mg base (AL P w K) lvl fa fd ps (Xo K F)
def GX (K:Frag) (mg:Str->Option Af) (xc:List Nat):Prop:=xc≠[]->D7 K=true/\BE K=true/\∀ c∈xc,(c < 50->∃ x C,XN[c]?=some x/\BR K c=some C/\mg x=some (.ref C)/\(x == ("__debug__" : Str))=false)/\(50<=c->∃ x v u,CN[c - 50]?=some (x,v)/\NM v u=true/\mg x=some u/\(x == ("__debug__" : Str))=false)
def GS (P:A7) (w:A6) (K:Frag) (mg:Str->Option Af) (base:Heap) (lvl:Nat) (Γ:List (Str×(Bool×Nat×Fn))):Prop:=
 (∀ x∈zza,mg x=none)/\∀ x io n F,Γ.lookup x=some (io,n,F)->(x == ("__debug__" : Str))=false/\(∀ xs,xs.length≠n->F xs=.no) /\
  ∃ fa fd ps,mg x=some (.ref fa)/\Ih K (.ref fa)=true/\zgw K fd ps []/\ps.length=n/\FnOk P w K mg base (AL P w K) lvl fa fd ps (Br K io n F)
section
variable {X:Cx}{P:A7}{w:A6}{K:Frag}{mg:Str->Option Af}{base:Heap}{lvl:Nat}{S:Sx}{Wx:St->Nat->Hp->Prop}{M:Fm}
def GG {sc:AW}{x:Str}{k:Dh} (h:Dv sc x k=true):sc.names.lookup x=some k:=by
 unfold Dv at h;exact eq_of_beq h
def Mv {sc:AW}{x:Str} (h:Dl sc x=true):GB sc x:=by
 unfold Dl at h;rw [Ee,Ee] at h;rcases h with (h | h) | h
 ·exact .inl (GG h)
 ·exact .inr (.inl (GG h))
 ·exact .inr (.inr (GG h))
def Jg {N:List Str}{x:Str}{i:Nat} (h:IK N x=some i):N[i]?=some x:=by
 unfold IK at h;rw [jf0] at h;obtain ⟨hi,e,_⟩:=h
 have:N[i]=x:=eq_of_beq e
 rw [Cm hi,this]
def XS.var (xs:XS X P w K mg base lvl S Wx) {x:Str}{i:Nat}{pos:Pos} (h:S.slot x=some i):PE X (.Name x pos) (D9 i):=by
 unfold Sx.slot at h;split at h
 ·rename_i hc;simp only [AF,Gy] at hc;exact U0 (by rw [xs.N];exact Jg h) (by rw [xs.sc];exact Mv hc.1.1) hc.1.2 hc.2
 ·cases h
def XS.gl (xs:XS X P w K mg base lvl S Wx) {x:Str} (h:S.glob x=true):Gl X x:=by
 show X.env.scope.names.lookup x=_;rw [xs.sc];exact GG h
theorem Df {e:Expr}{es:List Expr}{env:Env} (h:∀ x p,e≠.Starred x p):A5 (e::es) env=(false,eval e env)::A5 es env:=by
 cases e with
 | Starred x p=>exact absurd rfl (h x p)
 | _=>rfl
def Gi:Expr->Bool
 | .Starred _ _=>false
 | _=>true
def Dg {e:Expr} (h:Gi e=true):∀ x p,e≠.Starred x p:=λ x p z=>by rw [z] at h;cases h
theorem Og {env:Env}{pos:Pos}:∀ {es:List Expr},es.all Gi=true->(Cz pos (A5 es env)).any (·.1)=false
 | [],_=>rfl
 | e::es,h=>by
  rw [EL,AF] at h;rw [Df (Dg h.1)];show (false || (Cz pos (A5 es env)).any (·.1))=false;rw [Og h.2];rfl
def Je:Expr->Bool
 | .Slice _ _ _ _=>false
 | _=>true
theorem JS {b:Expr} (h:Je b=true):Kq b:=by
 intro o i;cases b with
 | Slice _ _ _ _=>cases h
 | _=>rfl
def X6:Expr->Bool
 | .List _ _=>true
 | _=>false
def X9:Expr->Bool
 | .List es _=>es.any X6
 | _=>false
def Tz (b:Expr):Operator->Option (PV->Nat->PV->Nat->Option (PV×Nat))
 | .Add=>some (if X9 b=true then Q2 else A1)
 | .Sub=>some CD
 | .Mult=>some Co
 | .FloorDiv=>some EY
 | .Mod=>some Az
 | .Pow=>some Nd
 | _=>none
def Yt {a b:Expr}{op:Operator}{o:PV->Nat->PV->Nat->Option (PV×Nat)}{f g:Fx}{vs vs':List Nat}{pos:Pos} (h:Tz b op=some o) (hv:∀ i∈vs,M.Ms i=false) (hK:M.K=X.K) (ha:PE X a (tE M f vs)) (hb:PE X b (tE M g vs')):PE X (.BinOp a op b pos) (tE M (Ab o f g) (vs++vs')):=by
 cases op <;> cases h
 ·split
  ·exact qE hv hK ha hb
  ·exact YY hv hK ha hb
 ·exact Nv qj (λ _ _ _=>trivial) hv ha hb
 ·exact Zi hv ha hb
 ·exact Nv Y8 (λ _ _=>RU) hv ha hb
 ·exact Nv YA (λ _ _=>RQ) hv ha hb
 ·exact Nv zb (λ _ _=>RV) hv ha hb
def FZ:Expr->Bool
 | .Set _ _ _=>false
 | _=>true
def Qe (b:Expr):ED->Option (PV->Nat->PV->Nat->Option (PV×Nat))
 | .Lt=>some (Be λ i j=>decide (i < j))
 | .LtE=>some (Be λ i j=>decide (i<=j))
 | .Gt=>some (Be λ i j=>decide (j < i))
 | .GtE=>some (Be λ i j=>decide (j<=i))
 | .Eq=>some (Ak false)
 | .NotEq=>some (Ak true)
 | .Is=>some (Cr false)
 | .IsNot=>some (Cr true)
 | .In=>if FZ b=true then some (Ck false) else none
 | .NotIn=>if FZ b=true then some (Ck true) else none
theorem UQ {op:ED}{b:Expr} (h:FZ b=true):J4 op b=false:=by
 cases b with
 | Set _ _ _=>cases h
 | _=>rfl
def xO {op:ED}{o:PV->Nat->PV->Nat->Option (PV×Nat)}{f g:Fx}{vs vs':List Nat}{b:Expr} (h:Qe b op=some o) (hu:X.A.units + 64 < Cn) (hv:∀ i∈vs,M.Ms i=false) (hK:M.K=X.K):
  ∃ r,OpR X (BU op) r/\J4 op b=false/\∀ σ H Q,tE M (Ab o f g) (vs++vs') σ H Q->Ip r (tE M f vs) (tE M g vs') σ H Q:=by
 cases op
 ·cases h;exact ⟨_,Y5 hu,Gf _ (by decide) (by decide),λ σ H Q h=>DL hv (λ x d y e z c v w H fps f1 f2 Q ho o1 o2 dj nz zd lf=>VE hK ho o1 o2 lf) h⟩
 ·cases h;exact ⟨_,Y9 hu,Gf _ (by decide) (by decide),λ σ H Q h=>DL hv (λ x d y e z c v w H fps f1 f2 Q ho o1 o2 dj nz zd lf=>VE hK ho o1 o2 lf) h⟩
 ·cases h;exact ⟨_,TJ,Gf _ (by decide) (by decide),λ σ H Q h=>DL hv (λ x d y e z c v w H fps f1 f2 Q ho o1 o2 dj nz zd lf=>LJ ho o1 o2 lf) h⟩
 ·cases h;exact ⟨_,TH,Gf _ (by decide) (by decide),λ σ H Q h=>DL hv (λ x d y e z c v w H fps f1 f2 Q ho o1 o2 dj nz zd lf=>LJ ho o1 o2 lf) h⟩
 ·cases h;exact ⟨_,TF,Gf _ (by decide) (by decide),λ σ H Q h=>DL hv (λ x d y e z c v w H fps f1 f2 Q ho o1 o2 dj nz zd lf=>LJ ho o1 o2 lf) h⟩
 ·cases h;exact ⟨_,TC,Gf _ (by decide) (by decide),λ σ H Q h=>DL hv (λ x d y e z c v w H fps f1 f2 Q ho o1 o2 dj nz zd lf=>LJ ho o1 o2 lf) h⟩
 ·cases h;refine ⟨_,qnu.or Y7,Gf _ (by decide) (by decide),λ σ H Q h=>DL hv (λ x d y e z c v w H fps f1 f2 Q ho o1 o2 dj nz zd lf=>?_) h⟩;rcases Vf ho o1 o2 lf with ⟨i,j,e1,e2,q⟩ | ⟨e1,q⟩
  ·exact .inl ⟨i,j,e1,e2,by simpa using q⟩
  ·exact .inr ⟨e1,by rw [FV] at q;exact q⟩
 ·cases h;refine ⟨_,qdr.or qi,Gf _ (by decide) (by decide),λ σ H Q h=>DL hv (λ x d y e z c v w H fps f1 f2 Q ho o1 o2 dj nz zd lf=>?_) h⟩;rcases Vf ho o1 o2 lf with ⟨i,j,e1,e2,q⟩ | ⟨e1,q⟩
  ·exact .inl ⟨i,j,e1,e2,by simpa [bne] using q⟩
  ·exact .inr ⟨e1,by rw [Hf] at q;exact q⟩
 ·replace h:(if FZ b=true then some (Ck false) else none)=some o:=h;split at h
  ·rename_i hb;cases h;exact ⟨_,((Y4 (by omega)).or YC).or (Y6 hu),UQ hb,λ σ H Q h=>DL hv (λ x d y e z c v w H fps f1 f2 Q ho o1 o2 dj nz zd lf=>VD hK ho o1 o2 lf) h⟩
  ·cases h
 ·replace h:(if FZ b=true then some (Ck true) else none)=some o:=h;split at h
  ·rename_i hb;cases h;exact ⟨_,((jt (by omega)).or jv).or (ju hu),UQ hb,λ σ H Q h=>DL hv (λ x d y e z c v w H fps f1 f2 Q ho o1 o2 dj nz zd lf=>VD hK ho o1 o2 lf) h⟩
  ·cases h
def Ga:ED->Option (Int->Int->Bool)
 | .Lt=>some λ i j=>decide (i < j)
 | .LtE=>some λ i j=>decide (i<=j)
 | .Gt=>some λ i j=>decide (j < i)
 | .GtE=>some λ i j=>decide (j<=i)
 | .Eq=>some λ i j=>decide (i=j)
 | _=>none
def qh:OpR X (BU .Eq) (Fe λ i j=>.bl (decide (i=j))):=λ pins s σ H x y v u Q I rx ry h=>XB pins s σ H x y v u Q I rx ry (by
 obtain ⟨i,j,rfl,rfl,q⟩:=h;refine ⟨rfl,?_⟩;rw [UL];exact q)
def SQ {op:ED}{p:Int->Int->Bool} (h:Ga op=some p):OpR X (BU op) (Fe λ i j=>.bl (p i j))/\op≠.In/\op≠.NotIn:=by
 cases op <;> cases h
 ·exact ⟨qh,by decide,by decide⟩
 ·exact ⟨TJ,by decide,by decide⟩
 ·exact ⟨TH,by decide,by decide⟩
 ·exact ⟨TF,by decide,by decide⟩
 ·exact ⟨TC,by decide,by decide⟩
def Gn (p q:Int->Int->Bool) (f g h:Fx):Fx:=λ ρ=>(f ρ).bind λ (x,_,ρ1)=>(g ρ1).bind λ (y,_,ρ2)=>match x,y with
 | .int i,.int j=>if p i j=true then (h ρ2).bind λ (z,_,ρ3)=>(match z with
  | .int k=>.ok (.bl (q j k),om,ρ3)
  | _=>.no) else .ok (.bl false,om,ρ2)
 | _,_=>.no
theorem VS {p q:Int->Int->Bool}{f g h:Fx}{vs v1 v2 v3:List Nat}{σ:St}{H:Hp}{Q:VK} (hq:tE M (Gn p q f g h) vs σ H Q):QO (Fe λ i j=>.bl (p i j)) (Fe λ i j=>.bl (q i j)) (tE M f v1) (tE M g v2) (tE M h v3) σ H Q:=by
 obtain ⟨ρ,fps,rep,qq⟩:=hq;refine ⟨ρ,fps,rep,?_⟩;unfold Gn at qq;cases ef:f ρ with
 | no=>rw [ef] at qq;exact qq
 | exc c=>rw [ef] at qq;exact qq
 | ok p0=>
  obtain ⟨x,d,ρ1⟩:=p0;rw [ef] at qq;intro v H1 fps1 f1 k1 g1 rep1 o1 t1;refine ⟨ρ1,fps1,rep1,?_⟩;dsimp only [Rz.bind] at qq;cases eg:g ρ1 with
  | no=>rw [eg] at qq;exact qq
  | exc c=>rw [eg] at qq;exact λ H' fps' k=>qq H' fps' (k1.trans k)
  | ok p2=>
   obtain ⟨y,e,ρ2⟩:=p2;rw [eg] at qq;intro w H2 fps2 f2 k2 g2 rep2 o2 t2;cases x with
   | int i=>
    cases y with
    | int j=>
     dsimp only at qq;rw [Own] at o1 o2;obtain ⟨rfl,rfl⟩:=o1;obtain ⟨rfl,rfl⟩:=o2;refine ⟨i,j,rfl,rfl,p i j,rfl,?_⟩;by_cases hp:p i j=true
     ·rw [if_pos hp] at qq ⊢;refine ⟨ρ2,fps2,rep2,?_⟩;cases eh:h ρ2 with
      | no=>rw [eh] at qq;exact qq
      | exc c=>rw [eh] at qq;exact λ H' fps' k=>qq H' fps' ((k1.trans k2).trans k)
      | ok p3=>
       obtain ⟨z,c,ρ3⟩:=p3;rw [eh] at qq;intro u H3 fps3 f3 k3 g3 rep3 o3 t3;cases z with
       | int k=>
        dsimp only at qq;rw [Own] at o3;obtain ⟨rfl,rfl⟩:=o3;exact ⟨j,k,rfl,rfl,qq _ H3 fps3 [] ((k1.trans k2).trans k3) ((g1.trans g2).trans g3) rep3 (by rw [Own];exact ⟨rfl,rfl⟩) ⟨λ _ z=>(nomatch z),λ _ z=>nomatch z⟩⟩
       | _=>exact qq.elim
     ·rw [if_neg hp] at qq ⊢;exact qq _ H2 fps2 [] (k1.trans k2) (g1.trans g2) rep2 (by rw [Own];exact ⟨rfl,rfl⟩) ⟨λ _ z=>(nomatch z),λ _ z=>nomatch z⟩
    | _=>exact qq.elim
   | _=>exact qq.elim
def Bb (f g:Fx):Fx:=λ ρ=>(f ρ).bind λ (x,_,ρ1)=>match x with
 | .bl true=>g ρ1
 | .bl false=>.ok (.bl false,om,ρ1)
 | _=>.no
def Ay (f g:Fx):Fx:=λ ρ=>(f ρ).bind λ (x,_,ρ1)=>match x with
 | .bl true=>.ok (.bl true,om,ρ1)
 | .bl false=>g ρ1
 | _=>.no
def AQ:PV->Nat->Option (PV×Nat)
 | .bl b,_=>some (.bl (!b),om)
 | _,_=>none
variable {f g:Fx}{vs vs':List Nat}{σ:St}{H:Hp}{Q:VK}
theorem Vn {f:Fx}{ρ ρ1:Ag}{fps fps1:AI}{H H1:Hp} (k1:KD M H fps H1 fps1) (g1:Agr M ρ ρ1) (rep1:Rep M ρ1 σ H1 fps1) (hs:∀ i∈vs,i∈vs')
  (q:match f ρ1 with
   | .ok (x,d,ρ')=>∀ v H' fps' fp,KD M H fps H' fps'->Agr M ρ ρ'->Rep M ρ' σ H' fps'->Own M.K H' (Zt M vs' fps' fp) x d v fp->Temp M vs' H H' fps' fp->Q v H'
   | .exc c=>∀ H' fps',KD M H fps H' fps'->M.W σ c H'
   | .no=>False):tE M f vs σ H1 Q:=by
 refine ⟨ρ1,fps1,rep1,?_⟩;cases eg:f ρ1 with
 | no=>rw [eg] at q;exact q
 | exc c=>rw [eg] at q;exact λ H' fps' k=>q H' fps' (k1.trans k)
 | ok p2=>
  obtain ⟨x,d,ρ2⟩:=p2;rw [eg] at q;exact λ v H' fps' fp k g r o t=>q v H' fps' fp (k1.trans k) (g1.trans g) r (o.weak λ a h=>Zt.mono hs h) ⟨λ a ha=>(by
   have e:=t.new a ha;cases e':H a with
   | none=>rfl
   | some o=>exact absurd e (k1.dom a (by rw [e'];simp))),t.ndj⟩
theorem Vm (hq:tE M (Bb f g) (vs++vs') σ H Q):TL (tE M f vs) (tE M g vs') σ H Q:=by
 obtain ⟨ρ,fps,rep,q⟩:=hq;refine ⟨ρ,fps,rep,?_⟩;unfold Bb at q;cases ef:f ρ with
 | no=>rw [ef] at q;exact q
 | exc c=>rw [ef] at q;exact q
 | ok p=>
  obtain ⟨x,d,ρ1⟩:=p;rw [ef] at q;intro v H1 fps1 f1 k1 g1 rep1 o1 t1;dsimp only [Rz.bind] at q;cases x with
  | bl b=>
   rw [Own] at o1;refine ⟨b,o1.1,?_⟩;cases b with
   | true=>exact Vn k1 g1 rep1 (λ i hi=>Bj _ hi) q
   | false=>exact q (.bl false) H1 fps1 [] k1 g1 rep1 (by rw [Own];exact ⟨rfl,rfl⟩) ⟨λ _ z=>(nomatch z),λ _ z=>nomatch z⟩
  | _=>exact q.elim
theorem Zn (hq:tE M (Ay f g) (vs++vs') σ H Q):KN (tE M f vs) (tE M g vs') σ H Q:=by
 obtain ⟨ρ,fps,rep,q⟩:=hq;refine ⟨ρ,fps,rep,?_⟩;unfold Ay at q;cases ef:f ρ with
 | no=>rw [ef] at q;exact q
 | exc c=>rw [ef] at q;exact q
 | ok p=>
  obtain ⟨x,d,ρ1⟩:=p;rw [ef] at q;intro v H1 fps1 f1 k1 g1 rep1 o1 t1;dsimp only [Rz.bind] at q;cases x with
  | bl b=>
   rw [Own] at o1;refine ⟨b,o1.1,?_⟩;cases b with
   | false=>exact Vn k1 g1 rep1 (λ i hi=>Bj _ hi) q
   | true=>exact q (.bl true) H1 fps1 [] k1 g1 rep1 (by rw [Own];exact ⟨rfl,rfl⟩) ⟨λ _ z=>(nomatch z),λ _ z=>nomatch z⟩
  | _=>exact q.elim
theorem Vo (hq:tE M (Ap AQ f) vs σ H Q):TN (tE M f vs) σ H Q:=by
 refine JC (r:=λ x H1 Q=>∃ c,x=.bl c/\Q (.bl (!c)) H1) (λ x d z c v H fps f1 Q ho o1 nz zd lf=>?_) hq;cases x with
 | bl b=>cases ho;rw [Own] at o1;exact ⟨b,o1.1,Dz lf⟩
 | _=>cases ho
end
def BB (op:Str->PV->Nat->Option (PV×Nat)) (f g:Fx):Fx:=λ ρ=>(f ρ).bind λ (x,_,ρ1)=>match x with
 | .str z=>(g ρ1).bind λ (y,e,ρ2)=>match op z y e with
  | some (r,c)=>.ok (r,c,ρ2)
  | none=>.no
 | _=>.no
section
variable {X:Cx}{M:Fm}{f g:Fx}{vs vs':List Nat}{σ:St}{H:Hp}{Q:VK}
theorem UC {op:Str->PV->Nat->Option (PV×Nat)}{r:V->List V->Hp->VK->Prop}
  (leaf:∀ z y d u c w H fps f1 Q,op z y d=some (u,c)->Own M.K H (Zt M vs' fps f1) y d w f1->(∀ a∈f1,¬ Zf M fps a)->(∀ a,Zf M fps a->H a≠none)->Bf M H fps vs' f1 u c Q->r (.str z) [w] H Q)
  (hq:tE M (BB op f g) (vs++vs') σ H Q):MG M.K "str" r (tE M f vs) (Lh (tE M g vs') FN) σ H Q:=by
 obtain ⟨ρ,fps,rep,q⟩:=hq;refine ⟨ρ,fps,rep,?_⟩;unfold BB at q;cases ef:f ρ with
 | no=>rw [ef] at q;exact q
 | exc c=>rw [ef] at q;exact q
 | ok p=>
  obtain ⟨x,d,ρ1⟩:=p;rw [ef] at q;intro v H1 fps1 f1 k1 g1 rep1 o1 t1;dsimp only [Rz.bind] at q;cases x with
  | str z=>
   rw [Own] at o1;obtain ⟨rfl,_⟩:=o1;refine ⟨rfl,?_⟩;have un:tE M (Ap (op z) g) vs' σ H1 Q:=by
    refine ⟨ρ1,fps1,rep1,?_⟩;unfold Ap;cases eg:g ρ1 with
    | no=>rw [eg] at q;exact q
    | exc c=>rw [eg] at q;exact λ H' fps' k=>q H' fps' (k1.trans k)
    | ok p2=>
     obtain ⟨y,e,ρ2⟩:=p2;rw [eg] at q;dsimp only [Rz.bind] at q ⊢;cases eo:op z y e with
     | none=>rw [eo] at q;exact q
     | some uc=>
      obtain ⟨u,c⟩:=uc;rw [eo] at q;dsimp only at q ⊢;exact λ w H2 fps2 fp k2 g2 rep2 o2 t2=>q w H2 fps2 fp (k1.trans k2) (g1.trans g2) rep2 (o2.weak λ a h=>Zt.mono (λ i hi=>Bj _ hi) h) ⟨λ a ha=>by
       cases e':H a with
       | none=>rfl
       | some o=>exact absurd (t2.new a ha) (k1.dom a (by rw [e'];simp)),t2.ndj⟩
   exact JC (r:=λ w H2 Q=>r (.str z) [w] H2 Q) (λ y d u c w H fps f1 Q ho o nz zd lf=>leaf z y d u c w H fps f1 Q ho o nz zd lf) un
  | _=>exact q.elim
end
def QN:List PV->Option (List Str)
 | []=>some []
 | .str x::r=>(QN r).map (x::·)
 | _=>none
theorem Tn {K:Frag}{H:Hp}{Z:Addr->Prop}:∀ {xs:List PV}{ws:List V}{d:Nat}{fp:List Addr}{zs:List Str},QN xs=some zs->OwnL K H Z xs d ws fp->ws=zs.map V.str
 | [],ws,d,fp,zs,e,h=>by cases e;rw [OwnL] at h;exact h.1
 | x::r,ws,d,fp,zs,e,h=>by
  cases x with
  | str z=>
   obtain ⟨k',e1,rfl⟩:=ja5.mp e;rw [OwnL] at h;obtain ⟨v,s,f1,f2,rfl,ef,dj,h1,h2⟩:=h;rw [Own] at h1;rw [h1.1,Tn e1 h2];rfl
  | _=>cases e
theorem To:∀ {zs:List Str}{its:List Af},Vals (zs.map V.str) its->∃ l:List (Str×Tok),its=strValues l/\l.map (·.1)=zs
 | [],its,h=>by cases h;exact ⟨[],rfl,rfl⟩
 | z::zs,its,h=>by
  cases h with
  | cons r rr=>
   obtain ⟨t,rfl⟩:=r;obtain ⟨l,rfl,rfl⟩:=To rr;exact ⟨(z,t)::l,rfl,rfl⟩
theorem Tf:∀ (l:List (Str×Tok)),Vals ((l.map (·.1)).map V.str) (strValues l)
 | []=>.nil
 | (_,t)::l=>.cons ⟨t,rfl⟩ (Tf l)
def XI (K:Frag):V->List V->Hp->VK->Prop:=λ x vs H Q=>∃ z q zs,x=.str z/\vs=[.ref q]/\Cf K H q (zs.map V.str)/\JoinOk z zs=true/\Q (.str (Txt.join z zs)) H
def ZZ {X:Cx}:Sa X "str.join" (XI X.K):=by
 intro pins s σ H x vs v us Q I rx rv h;obtain ⟨z,a,zs,rfl,rfl,hs,hj,q⟩:=h;obtain ⟨t,rfl⟩:=rx;obtain ⟨u,rfl,ru⟩:=Eu rv;cases ru;obtain ⟨its,rv2,pl,hz⟩:=I.list hs;obtain ⟨l,rfl,hl⟩:=To rv2;exact SC.join pl.isList hl hj λ t' k=>⟨.str _,H,I.tok _,⟨t',rfl⟩,q⟩
def Q4 (z:Str) (y:PV) (_:Nat):Option (PV×Nat):=match y with
 | .lst xs=>(match QN xs with
  | some zs=>if JoinOk z zs=true then some (.str (Txt.join z zs),om) else none
  | none=>none)
 | _=>none
def Z0:V->List V->Hp->VK->Prop:=λ x vs H Q=>∃ z y,x=.str z/\vs=[.str y]/\(y.length == 0)=false/\z.length<=Au/\(MC z (Il z y 0 z.length (z.length + 1)) y.length).length<=Au/\(AX z y).length<=Au/\∀ l,H l=none->Q (.ref l) (Aw H l (.lst ((AX z y).map V.str)))
theorem xX {X:Cx}:Sa X "str.split" Z0:=by
 intro pins s σ H x vs v us Q I rx rv h;obtain ⟨z,y,rfl,rfl,hy,hz,hz2,hz3,q⟩:=h;obtain ⟨t,rfl⟩:=rx;obtain ⟨w,rfl,rw'⟩:=Eu rv;obtain ⟨u,rfl⟩:=rw';have fin:∀ (l:List (Str×Tok)) (tk:Nat),l.map (·.1)=AX z y->EP X pins σ Q (.ref s.heap.objs.size) { s with heap:=s.heap.push { cls:=.type "list",data:=.seq (strValues l).toArray },toks:=tk }:=λ l tk e=>by
  have hv:=Tf l;rw [e] at hv;exact ⟨.ref _,_,I.lnew (t':=tk) hv (by rw [Bg];exact hz3),rfl,q _ I.fresh⟩
 cases h1:(decide (z.length < y.length) || decide (Builtin.Str.strKind z < Builtin.Str.strKind y)) with
 | true=>exact Jv OW (HE s z t) Pa (Ph _ _) (meets_str_split_cannot_occur z y t u h1) (fin [(z,t)] s.toks (if_pos h1).symm)
 | false=>
  cases hf:(Il z y 0 z.length (z.length + 1)).isEmpty with
  | true=>exact Jv OW (HE s z t) Pa (Ph _ _) (meets_str_split_not_found z y t u h1 hy hf) (fin [(z,t)] s.toks ((if_neg (ne_true_of_eq_false h1)).trans (if_pos hf)).symm)
  | false=>
   refine Jv OW (HE s z t) Pa (Ph _ _) (meets_str_split_sep z y t u h1 hy hf hz hz2) ?_;have f2:=fin (numbered s.toks (MC z (Il z y 0 z.length (z.length + 1)) y.length));rw [<- strsFrom_eq] at f2;exact f2 _ ((numbered_texts _ _).trans ((if_neg (ne_true_of_eq_false h1)).trans (if_neg (ne_true_of_eq_false hf))).symm)
def D1 (z:Str) (y:PV) (_:Nat):Option (PV×Nat):=match y with
 | .str y=>if (y.length == 0)=false/\z.length<=Au/\(MC z (Il z y 0 z.length (z.length + 1)) y.length).length<=Au/\(AX z y).length<=Au then some (.lst ((AX z y).map PV.str),om) else none
 | _=>none
theorem Vj:∀ zs:List Str,GR (zs.map PV.str)=true
 | []=>rfl
 | z::r=>by rw [BA];unfold GR;rw [Vj r];rfl
def ZN (zs:List Str):d1 (zs.map PV.str)=om:=by unfold d1;rw [if_pos (Vj zs)]
theorem VL {K:Frag}{H:Hp}{Z:Addr->Prop}:∀ (zs:List Str),OwnL K H Z (zs.map PV.str) 0 (zs.map V.str) []
 | []=>by rw [HG,HG,OwnL];exact ⟨rfl,rfl⟩
 | z::r=>by
  rw [BA,BA,OwnL];exact ⟨_,_,[],[],rfl,rfl,λ _ z=>(nomatch z),by rw [Own];exact ⟨rfl,rfl⟩,VL r⟩
section
variable {X:Cx}{M:Fm}{f g:Fx}{vs vs':List Nat}{o e:Expr}{apos cpos:Pos}
def qH (hK:M.K=X.K) (ho:PE X o (tE M f vs)) (he:PE X e (tE M g vs')) (hb:M6 o "join" X.env (eval o X.env)=eval o X.env) (hs:A5 [e] X.env=[(false,eval e X.env)]) (hf:((Cz cpos (A5 [e] X.env)).all (λ x=>!x.1) && (backToKw cpos (M0 [] X.env)).all (λ x=>x.1.isSome) && decide (([e]:List Expr).length + ([]:List Gs).length + (if ([]:List Gs).isEmpty then 0 else 1) < 30))=true) (hl:(apos.endLine == cpos.line)=true):
  PE X (.Call (.Attribute o "join" apos) [e] [] cpos) (tE M (BB Q4 f g) (vs++vs')):=by
 refine Bc (Nf Pu PySem.F.slot_str_join PySem.F.type_str_join ZZ ho (Eo he Gj hs) hb hf hl hs rfl) λ σ H Q h=>?_;rw [<- hK];refine UC (λ z y d u c w H fps f1 Q hop o1 nz zd lf=>?_) h;unfold Q4 at hop;split at hop
 ·rename_i xs;split at hop
  ·rename_i zs hz;split at hop
   ·rename_i hj;cases hop;obtain ⟨p,ws,rfl,hp,ol⟩:=(cold o1 nz).coldL
    have:=Tn hz ol
    subst this;exact ⟨z,p,zs,rfl,rfl,.inl (.inl hp),hj,Jh lf⟩
   ·cases hop
  ·cases hop
 ·cases hop
def z5 (hK:M.K=X.K) (ho:PE X o (tE M f vs)) (he:PE X e (tE M g vs')) (hb:M6 o "split" X.env (eval o X.env)=eval o X.env) (hs:A5 [e] X.env=[(false,eval e X.env)]) (hf:((Cz cpos (A5 [e] X.env)).all (λ x=>!x.1) && (backToKw cpos (M0 [] X.env)).all (λ x=>x.1.isSome) && decide (([e]:List Expr).length + ([]:List Gs).length + (if ([]:List Gs).isEmpty then 0 else 1) < 30))=true) (hl:(apos.endLine == cpos.line)=true):
  PE X (.Call (.Attribute o "split" apos) [e] [] cpos) (tE M (BB D1 f g) (vs++vs')):=by
 refine Bc (Nf Pu PySem.F.slot_str_split PySem.F.type_str_split xX ho (Eo he Gj hs) hb hf hl hs rfl) λ σ H Q h=>?_;rw [<- hK];refine UC (λ z y d u c w H fps f1 Q hop o1 nz zd lf=>?_) h;unfold D1 at hop;split at hop
 ·rename_i y0;split at hop
  ·rename_i hc;cases hop;rw [Own] at o1;obtain ⟨rfl,_⟩:=o1;refine ⟨z,y0,rfl,rfl,hc.1,hc.2.1,hc.2.2.1,hc.2.2.2,λ l hl=>?_⟩;have lf':Bf M H fps vs' f1 (.lst ((AX z y0).map PV.str)) (d1 ((AX z y0).map PV.str)) Q:=by rw [ZN];exact lf
   exact HL lf' (VL _) hl
  ·cases hop
 ·cases hop
end
abbrev D2:=Fx×List Nat
def Gp (d:Expr->Option D2):List Expr->Option (Fa×List Nat)
 | []=>some (Ac,[])
 | e::es=>match d e,Gp d es with
  | some (f,v),some (fa,u)=>some (Ad f fa,v++u)
  | _,_=>none
def HY (d:Expr->Option D2):List Expr->Option D2
 | []=>none
 | [e]=>d e
 | e::es=>match d e,HY d es with
  | some (f,v),some (g,u)=>some (Bb f g,v++u)
  | _,_=>none
def Nb (d:Expr->Option D2):List Expr->Option D2
 | []=>none
 | [e]=>d e
 | e::es=>match d e,Nb d es with
  | some (f,v),some (g,u)=>some (Ay f g,v++u)
  | _,_=>none
def L5:Const->Option D2
 | .int i=>some (bC (.int i),[])
 | .bool b=>some (bC (.bl b),[])
 | .none=>some (bC .non,[])
 | .str x=>some (bC (.str x),[])
 | _=>none
def Im (x:Str):Option String:=if x = "int" then some "int" else if x = "bool" then some "bool" else if x = "str" then some "str" else if x = "list" then some "list" else if x = "tuple" then some "tuple" else if x = "dict" then some "dict" else none
def Qd (x:Str):Option (List (PV×Nat)->Option (PV×Nat)):=
 if x = "len" then some AO else if x = "all" then some DV else if x = "max" then some Gr else if x = "min" then some E5 else if x = "sum" then some Qk
 else if x = "tuple" then some Q7 else if x = "list" then some Q5 else if x = "int" then some Ft else if x = "str" then some GO else none
def E9 (scope sc:AW):AW:={ scope with names:=scope.names.map λ (n,k)=>if (k == .free && sc.kind == .function && sc.names.lookup n == some .cell) then (n,.cell) else (n,k) }
def Rh (i:Nat):Str:=⟨#[2000000 + i]⟩
def GL (sc':AW):Nat->List Str->List Str
 | _,[]=>[]
 | i,x::r=>(if Dv sc' x .cell || Dv sc' x .free then x else Rh i)::GL sc' (i + 1) r
def Mc:List Expr->Option (List Str)
 | []=>some []
 | .Name x _::r=>(Mc r).map (x::·)
 | _=>none
def MF (n:Nat):Expr->Option (List Str×(PV->Ag->Option Ag))
 | .Name x _=>some ([x],Ao n)
 | .Tuple es _ _=>(Mc es).map λ xs=>(xs,Dt (JG n xs.length))
 | _=>none
def Lx:Expr->Bool
 | .Tuple _ _ _=>true
 | _=>false
def AJ (S:Sx) (scope:AW) (xs:List Str) (vI:List Nat):Sx:=⟨GL (E9 scope S.sc) 0 S.N++xs,E9 scope S.sc,S.ms,(Bw S.N.length).map S.alF++AM xs.length vI,S.Γ,S.Γm,false,S.xc,S.pn⟩
def Kr (S:Sx) (scope:AW) (xs:List Str) (vI:List Nat):Bool:=
 let S':=AJ S scope xs vI;decide (scope.kind=.function) && scope.names.all (λ x=>x.2 != .free || !(scope.names.contains (x.1,.cell))) && scope.names.all (λ x=>x.2 != .local || scope.names.lookup x.1 == some .local)
 && scope.names.all (λ x=>x.2 != .free || (S.sc.names.lookup x.1 == some .cell || S.sc.names.lookup x.1 == some .free))
 && (Bw S.N.length).all (λ i=>match S'.N[i]? with
  | some x=>!Dl S'.sc x || (decide (S.N[i]?=some x) && Dl S.sc x && scope.names.contains (x,.free) && !Dv S'.sc x .local)
  | none=>true)
 && decide S'.N.Nodup && xs.all (λ x=>Dv S'.sc x .local || (Dv S'.sc x .cell && scope.names.contains (x,.cell))) && decide (S.N.length≠0) && (S.ms.all λ i=>decide (i < S.N.length))
inductive Iw where
 | rng (en:List (PV×Nat)->Option (Int×Int)) (fa:Fa) (vs:List Nat)
 | seq (f:Fx) (vs:List Nat)
 | vw (v:Vw) (fa:Fa) (vs:List Nat)
def Iw.vs:Iw->List Nat
 | .rng _ _ _=>[]
 | .seq _ vs=>vs
 | .vw _ _ vs=>vs
def GW (tg:Expr):Iw->Bool
 | .vw .enm _ _=>Lx tg
 | .vw .zp _ _=>Lx tg
 | _=>true
def ET (d:Expr->Option D2) (S:Sx) (it:Expr):Option Iw:=match it with
 | .Call (.Name x _) [a] [] _=>if x = "range" /\ S.glob "range" = true then (match Gp d [a] with
   | some (fa,vs)=>some (.rng Bo fa vs)
   | none=>none) else (match d it with
   | some (f,vs)=>some (.seq f vs)
   | none=>none)
 | .Call (.Name x _) [a,b] [] _=>if x = "range" /\ S.glob "range" = true then (match Gp d [a,b] with
   | some (fa,vs)=>some (.rng FI fa vs)
   | none=>none) else (match d it with
   | some (f,vs)=>some (.seq f vs)
   | none=>none)
 | _=>match d it with
   | some (f,vs)=>some (.seq f vs)
   | none=>none
def Ld (iw:Iw) (k:Nat) (asg:PV->Ag->Option Ag) (test:Fb) (elt:Fx):Fx:=match iw with
 | .rng en fa _=>Du en fa k asg test elt
 | .seq f _=>BK f k asg test elt
 | .vw v fa _=>Y3 v fa k asg test elt
def By:Fb:=λ ρ=>.ok (true,ρ)
def Ny (d:Expr->Option D2):List Expr->Option Fb
 | []=>some By
 | [c]=>(d c).map λ p=>bT p.1
 | _=>none
def RW (j:Nat) (i:Int):Fx:=λ ρ=>match ρ[j]? with
 | some (some (.lst xs,_))=>(match Bk xs i with
  | some z=>if Hx z=true then .ok (z,om,ρ) else .no
  | none=>.no)
 | _=>.no
def Up:Expr->Bool
 | .UnaryOp .USub c _=>(match c with
  | .Constant k _ _=>(match k with
   | .int i=>i == 1
   | _=>false)
  | _=>false)
 | _=>false
def vp {e:Expr} (h:Up e=true):∃ k p3 p4,e=.UnaryOp .USub (.Constant (.int 1) k p3) p4:=by
 unfold Up at h;split at h
 ·split at h
  ·split at h
   ·rename_i i
    have:i=1:=eq_of_beq h
    subst this;exact ⟨_,_,_,rfl⟩
   ·cases h
  ·cases h
 ·cases h
def DN:Expr->Option Str
 | .Name x _=>some x
 | _=>none
def EC {e:Expr}{x:Str} (h:DN e=some x):∃ p,e=.Name x p:=by
 cases e <;> first | (cases h;exact ⟨_,rfl⟩) | (cases h)
def RF:Expr->Option Int
 | .Constant c _ _=>(match c with
  | .int i=>some i
  | _=>none)
 | _=>none
def Yr {e:Expr}{i:Int} (h:RF e=some i):∃ k p,e=.Constant (.int i) k p:=by
 unfold RF at h;split at h
 ·split at h
  ·cases h;exact ⟨_,_,rfl⟩
  ·cases h
 ·cases h
def Uk (d:Sx->Expr->Option D2) (S:Sx) (a:Expr):Option Expr->Option Expr->Option Expr->Option D2
 | none,some hi,none=>match d S a,d S hi with
  | some (f,v),some (g,_)=>some (Bu f none (some g),v)
  | _,_=>none
 | some lo,none,none=>match d S a,d S lo with
  | some (f,v),some (g,_)=>some (Bu f (some g) none,v)
  | _,_=>none
 | some lo,some hi,none=>match d S a,d S lo,d S hi with
  | some (f,v),some (g,_),some (h,_)=>some (Bu f (some g) (some h),v)
  | _,_,_=>none
 | _,_,_=>none
def Ul (d:Sx->Expr->Option D2) (S:Sx) (a b:Expr):Option D2:=match b with
 | .Slice lo hi st _=>Uk d S a lo hi st
 | b=>match DN a,RF b with
  | some x,some i=>(match S.slot x with
   | some j=>if S.msF j=true then some (RW j i,[]) else some (Ab Ah (Aa j) (bC (.int i)),(j::S.alF j)++[])
   | none=>none)
  | _,_=>match d S a,d S b with
   | some (f,v),some (g,u)=>if Je b=true then some (Ab Ah f g,v++u) else none
   | _,_=>none
def HV (S:Sx) (T:Str):Option Nat:=if S.glob T=true/\S.xc≠[] then (if T = "ValueError" then some 0 else match XN.findIdx? (·== T) with
 | some c=>if S.xc.contains c=true then some c else none
 | none=>none) else none
def Nn (S:Sx):List Expr->Option (List Nat)
 | []=>some []
 | e::r=>match DN e,Nn S r with
  | some T,some ds=>(HV S T).map (·::ds)
  | _,_=>none
def Ug (d:Expr->Option D2) (S:Sx) (e c:Expr):Option D2:=match d e with
 | some (f,v)=>if S.glob "isinstance" = true then (match c with
  | .Name T _=>(match Im T with
   | some t=>if S.glob T=true then some (Ap (AH t) f,v) else none
   | none=>(HV S T).map λ n=>(Ap (D6 [n]) f,v))
  | .Tuple es _ _=>if es.length<=100/\es≠[] then (Nn S es).map λ ns=>(Ap (D6 ns) f,v) else none
  | _=>none) else none
 | none=>none
def L4 (S:Sx) (x:Str):Option D2:=match CN.findIdx? (λ p=>p.1 == x) with
 | some k=>if S.xc.contains (50 + k)=true/\S.glob x=true then (CN[k]?).map λ p=>(bC p.2,[]) else none
 | none=>none
def Yd:Expr->Bool
 | .Name _ _=>true
 | .Constant _ _ _=>true
 | _=>false
def Uh (d:Expr->Option D2) (o e:Expr) (at':Str) (ok:Bool):Option D2:=match d o,d e with
 | some (f,v),some (g,u)=>if Yd o=true/\ok=true then (if at' = "join" then some (BB Q4 f g,v++u) else if at' = "split" then some (BB D1 f g,v++u) else none) else none
 | _,_=>none
def GI (d:Sx->Expr->Option D2) (S:Sx):Expr->Option D2
 | .Constant c _ _=>L5 c
 | .Name x _=>match S.slot x with
  | some i=>if S.msF i=true then none else some (Aa i,i::S.alF i)
  | none=>L4 S x
 | .BinOp a op b _=>match d S a,d S b,Tz b op with
  | some (f,v),some (g,u),some o=>some (Ab o f g,v++u)
  | _,_,_=>none
 | .UnaryOp .USub a _=>match d S a with
  | some (f,v)=>some (Ap Cp f,v)
  | none=>none
 | .UnaryOp .Not a _=>match d S a with
  | some (f,v)=>some (Ap AQ f,v)
  | none=>none
 | .BoolOp .And es _=>HY (d S) es
 | .BoolOp .Or es _=>Nb (d S) es
 | .Compare a [op] [b] _=>match d S a,d S b,Qe b op with
  | some (f,v),some (g,u),some o=>some (Ab o f g,v++u)
  | _,_,_=>none
 | .Compare a [op,op'] [b,c] _=>match d S a,d S b,d S c,Ga op,Ga op' with
  | some (f,_),some (g,_),some (h,_),some p,some q=>some (Gn p q f g h,[])
  | _,_,_,_,_=>none
 | .List es _=>match Gp (d S) es with
  | some (fa,v)=>some (Am AY fa,v)
  | none=>none
 | .Tuple es _ _=>match Gp (d S) es with
  | some (fa,v)=>some (Am BJ fa,v)
  | none=>none
 | .Dict [] [] _=>some (bC .emp,[])
 | .Subscript a b _=>Ul d S a b
 | .Call (.Name x _) args [] _=>
  if x = "isinstance" then (match args with
   | [e,c]=>Ug (d S) S e c
   | _=>none)
  else match Qd x with
  | some o=>(match args with
   | e::es=>(match Gp (d S) (e::es) with
    | some (fa,v)=>if S.glob x=true then some (Am o fa,v) else none
    | none=>none)
   | []=>none)
  | none=>match S.Γ.lookup x with
   | some (false,_,F)=>(match args with
    | e::es=>(match Gp (d S) (e::es) with
     | some (fa,v)=>if S.glob x=true then some (A8 F fa,v) else none
     | none=>none)
    | []=>none)
   | some (true,_,F)=>none
   | none=>none
 | .Call (.Attribute o at' apos) [e] [] cpos=>Uh (d S) o e at' (apos.endLine == cpos.line)
 | .ListComp elt [⟨tg,it,ifs,0⟩] scope _=>match MF S.N.length tg,ET (d S) S it with
  | some (xs,asg),some iw=>if Kr S scope xs iw.vs=true/\GW tg iw=true then (match Ny (d (AJ S scope xs iw.vs)) ifs,d (AJ S scope xs iw.vs) elt with
   | some t,some (g,vE)=>some (Ld iw xs.length asg t g,iw.vs++vE.filter (λ i=>decide (i < S.N.length)))
   | _,_=>none) else none
  | _,_=>none
 | _=>none
def Bh:Nat->Sx->Expr->Option D2
 | 0,_,_=>none
 | n + 1,S,e=>GI (Bh n) S e
section
variable {X:Cx}{P:A7}{w:A6}{K:Frag}{mg:Str->Option Af}{base:Heap}{lvl:Nat}{S:Sx}{Wx:St->Nat->Hp->Prop}{M:Fm}{f g:Fx}{vs vs':List Nat}{σ:St}{H:Hp}{Q:VK}
def qW {Q:Bool->Hp->Prop} (hq:tT M (bT (Bb f g)) σ H Q):Iu (tT M (bT f)) (tT M (bT g)) σ H Q:=by
 refine Zx ?_;have e:bT (Bb f g)=Ho (bT f) (bT g):=by
  funext ρ;unfold bT Bb Ho;dsimp only;cases f ρ with
  | no=>rfl
  | exc c=>rfl
  | ok p=>
   obtain ⟨x,d,ρ1⟩:=p;cases x with
   | bl b=>cases b <;> rfl
   | _=>rfl
 rw [<- e];exact hq
def Zz {Q:Bool->Hp->Prop} (hq:tT M (bT (Ay f g)) σ H Q):PL (tT M (bT f)) (tT M (bT g)) σ H Q:=by
 refine Yx ?_;have e:bT (Ay f g)=NO (bT f) (bT g):=by
  funext ρ;unfold bT Ay NO;dsimp only;cases f ρ with
  | no=>rfl
  | exc c=>rfl
  | ok p=>
   obtain ⟨x,d,ρ1⟩:=p;cases x with
   | bl b=>cases b <;> rfl
   | _=>rfl
 rw [<- e];exact hq
def xn {Q:Bool->Hp->Prop} (hq:tT M (bT (Ap AQ f)) σ H Q):Iq (tT M (bT f)) σ H Q:=by
 refine Zy ?_;have e:bT (Ap AQ f)=Hn (bT f):=by
  funext ρ;unfold bT Ap Hn;dsimp only;cases f ρ with
  | no=>rfl
  | exc c=>rfl
  | ok p=>
   obtain ⟨x,d,ρ1⟩:=p;cases x with
   | bl b=>cases b <;> rfl
   | _=>rfl
 rw [<- e];exact hq
theorem OwnL.getAny {K:Frag}{Z:Addr->Prop}:∀ {xs:List PV}{d:Nat}{ws:List V}{fp:List Addr}{i:Nat}{x:PV},OwnL K H Z xs d ws fp->xs[i]?=some x->∃ u f',ws[i]?=some u/\Own K H Z x d u f'
 | [],d,ws,fp,i,x,h,e=>by simp at e
 | y::xs,d,ws,fp,i,x,h,e=>by
  rw [OwnL] at h;obtain ⟨v,s,f1,f2,rfl,ef,_,o1,o2⟩:=h;cases i with
  | zero=>simp at e;subst e;exact ⟨v,f1,by simp,o1⟩
  | succ i=>obtain ⟨u,f',e1,e2⟩:=o2.getAny (i:=i) (x:=x) (by simpa using e);exact ⟨u,f',by simpa using e1,e2⟩
theorem XO {x:Str}{j:Nat}{i:Int}{p0 p1 pos:Pos}{k:Nat} (xs:XS X P w K mg base lvl S Wx) (h:S.slot x=some j) (hK:M.K=X.K):PE X (.Subscript (.Name x p0) (.Constant (.int i) k p1) pos) (tE M (RW j i) []):=by
 refine Bc (Ng zhl (xs.var h) Q8 λ _ _=>rfl) λ σ H Q hq=>?_;obtain ⟨ρ,fps,rep,q⟩:=hq;unfold RW at q;cases e0:ρ[j]? with
 | none=>rw [e0] at q;exact q.elim
 | some s0=>
  rw [e0] at q;cases s0 with
  | none=>exact q.elim
  | some p=>
   obtain ⟨z,d⟩:=p;obtain ⟨v,hσ,o⟩:=rep.own j _ _ e0;cases z with
   | lst ys=>
    dsimp only at q;cases ea:Bk ys i with
    | none=>rw [ea] at q;exact q.elim
    | some z=>
     rw [ea] at q;dsimp only at q;by_cases hz:Hx z=true
     ·rw [if_pos hz] at q;have nx:∃ a ws d' f',v=.ref a/\H a=some (.lst ws)/\OwnL M.K H (Za M fps j) ys d' ws f':=by
       rw [Own] at o;obtain ⟨a,ws,e,⟨_,hr,_,ol⟩ | ⟨_,f',ha,_,_,ol⟩⟩:=o
       ·exact ⟨a,ws,_,_,e,hr.1,ol⟩
       ·exact ⟨a,ws,_,_,e,ha,ol⟩
      obtain ⟨a,ws,d',f',rfl,ha,ol⟩:=nx;have hw:∃ u f'',Bk ws i=some u/\Own M.K H (Za M fps j) z d' u f'':=by
       unfold Bk at ea ⊢;rw [ol.length];cases ej:Dq ys.length i with
       | none=>rw [ej] at ea;cases ea
       | some m=>rw [ej] at ea;exact ol.getAny ea
      obtain ⟨u,f'',eu,ou⟩:=hw;refine ⟨_,hσ,a,ws,i,u,rfl,rfl,.inl (.inl ha),eu,q u H fps [] KD.refl Agr.refl rep (Own.atom hz ou).2 ⟨λ _ z=>(nomatch z),λ _ z=>nomatch z⟩⟩
     ·rw [if_neg hz] at q;exact q.elim
   | _=>exact q.elim
def AG (P:A7) (w:A6) (K:Frag) (mg:Str->Option Af) (base:Heap) (lvl:Nat) (S:Sx) (e:Expr) (f:Fx) (vs:List Nat):Prop:=
 (∀ i∈vs,S.msF i=false)/\Gi e=true/\∀ {Wx} X M,XS X P w K mg base lvl S Wx->MS M K S Wx->PE X e (tE M f vs)/\PT X e (tT M (bT f))
def MS.v (m:MS M K S Wx) (h:∀ i∈vs,S.msF i=false):∀ i∈vs,M.Ms i=false:=λ i hi=>by rw [m.ms];exact h i hi
def MS.k (m:MS M K S Wx) (xs:XS X P w K mg base lvl S Wx):M.K=X.K:=m.K.trans xs.K.symm
def Cj {e:Expr} (h1:∀ i∈vs,S.msF i=false) (h2:Gi e=true) (h3:∀ env whole,isTrue e env whole=(do let v<-whole;standAt e.pos;holding [v] (truthy v)))
  (h:∀ {Wx} X M,XS X P w K mg base lvl S Wx->MS M K S Wx->PE X e (tE M f vs)):AG P w K mg base lvl S e f vs:=
 ⟨h1,h2,λ X M xs m=>⟨h X M xs m,Kl (YL (h X M xs m) λ wh=>h3 _ wh) λ σ H Q q=>QU q⟩⟩
def EX {vs vs':List Nat} (h1:∀ i∈vs,S.msF i=false) (h2:∀ i∈vs',S.msF i=false):∀ i∈vs++vs',S.msF i=false:=λ i hi=>(jc4.mp hi).elim (h1 i) (h2 i)
def z6 {a b:Expr}{op:ED}{o:PV->Nat->PV->Nat->Option (PV×Nat)}{pos:Pos} (ho:Qe b op=some o) (ga:AG P w K mg base lvl S a f vs) (gb:AG P w K mg base lvl S b g vs'):AG P w K mg base lvl S (.Compare a [op] [b] pos) (Ab o f g) (vs++vs'):=by
 refine ⟨EX ga.1 gb.1,rfl,λ X M xs m=>?_⟩;obtain ⟨r,hr,hn,hi⟩:=xO (X:=X) (M:=M) (f:=f) (g:=g) (vs:=vs) (vs':=vs') ho xs.room.units (m.v ga.1) (m.k xs);have ha:=(ga.2.2 X M xs m).1;have hb:=(gb.2.2 X M xs m).1;exact ⟨Bc (qp hr ha hb hn) hi,Kl (qY hr ha hb hn) λ σ H Q q=>hi σ H _ (QU q)⟩
def ka {a b c:Expr}{op op':ED}{p q:Int->Int->Bool}{h:Fx}{v3:List Nat}{pos:Pos} (h1:Ga op=some p) (h2:Ga op'=some q) (ga:AG P w K mg base lvl S a f vs) (gb:AG P w K mg base lvl S b g vs') (gc:AG P w K mg base lvl S c h v3):AG P w K mg base lvl S (.Compare a [op,op'] [b,c] pos) (Gn p q f g h) []:=by
 refine ⟨λ _ z=>(nomatch z),rfl,λ X M xs m=>?_⟩;have r1:=SQ (X:=X) h1;have r2:=SQ (X:=X) h2;have ha:=(ga.2.2 X M xs m).1;have hb:=(gb.2.2 X M xs m).1;have hc:=(gc.2.2 X M xs m).1;exact ⟨Bc (zh r1.1 r2.1 ha hb hc (Gf _ r2.2.1 r2.2.2)) λ σ H Q q=>VS q,Kl (zu r1.1 r2.1 ha hb hc (Gf _ r2.2.1 r2.2.2)) λ σ H Q q=>VS (vs:=[]) (QU q)⟩
def z7 {a:Expr}{pos:Pos} (ga:AG P w K mg base lvl S a f vs):AG P w K mg base lvl S (.UnaryOp .Not a pos) (Ap AQ f) vs:=
 ⟨ga.1,rfl,λ X M xs m=>⟨Bc (Uy (ga.2.2 X M xs m).1) λ σ H Q q=>Vo q,Kl (YK (ga.2.2 X M xs m).2) λ σ H Q q=>xn q⟩⟩
theorem SK {d:Expr->Option D2} (hd:∀ e f vs,d e=some (f,vs)->AG P w K mg base lvl S e f vs) {pos:Pos}:∀ (es:List Expr) (f:Fx) (vs:List Nat),HY d es=some (f,vs)->(∀ i∈vs,S.msF i=false)/\∀ {Wx} X M,XS X P w K mg base lvl S Wx->MS M K S Wx->PE X (.BoolOp .And es pos) (tE M f vs)/\PW X (.BoolOp .And es pos) (tT M (bT f))
 | [],f,vs,h=>by cases h
 | [e],f,vs,h=>by
  have g:=hd e f vs h;exact ⟨g.1,λ X M xs m=>⟨Q9 (g.2.2 X M xs m).1,xa (g.2.2 X M xs m).2⟩⟩
 | e::e'::es,f,vs,h=>by
  unfold HY at h;split at h
  ·rename_i f1 v1 f2 v2 h1 h2;cases h;have g1:=hd e f1 v1 h1;have g2:=SK hd (pos:=pos) (e'::es) f2 v2 h2;exact ⟨EX g1.1 g2.1,λ X M xs m=>⟨Bc (Uv (g1.2.2 X M xs m).1 (g2.2 X M xs m).1) λ σ H Q q=>Vm q,U9 (YM (g1.2.2 X M xs m).2 (g2.2 X M xs m).2) λ σ H Q q=>qW q⟩⟩
  ·cases h
theorem VW {d:Expr->Option D2} (hd:∀ e f vs,d e=some (f,vs)->AG P w K mg base lvl S e f vs) {pos:Pos}:∀ (es:List Expr) (f:Fx) (vs:List Nat),Nb d es=some (f,vs)->(∀ i∈vs,S.msF i=false)/\∀ {Wx} X M,XS X P w K mg base lvl S Wx->MS M K S Wx->PE X (.BoolOp .Or es pos) (tE M f vs)/\PW X (.BoolOp .Or es pos) (tT M (bT f))
 | [],f,vs,h=>by cases h
 | [e],f,vs,h=>by
  have g:=hd e f vs h;exact ⟨g.1,λ X M xs m=>⟨Q9 (g.2.2 X M xs m).1,YN (g.2.2 X M xs m).2⟩⟩
 | e::e'::es,f,vs,h=>by
  unfold Nb at h;split at h
  ·rename_i f1 v1 f2 v2 h1 h2;cases h;have g1:=hd e f1 v1 h1;have g2:=VW hd (pos:=pos) (e'::es) f2 v2 h2;exact ⟨EX g1.1 g2.1,λ X M xs m=>⟨Bc (XE (g1.2.2 X M xs m).1 (g2.2 X M xs m).1) λ σ H Q q=>Zn q,U9 (XG (g1.2.2 X M xs m).2 (g2.2 X M xs m).2) λ σ H Q q=>Zz q⟩⟩
  ·cases h
theorem Hu {d:Expr->Option D2} (hd:∀ e f vs,d e=some (f,vs)->AG P w K mg base lvl S e f vs):∀ (es:List Expr) (fa:Fa) (vs:List Nat),Gp d es=some (fa,vs)->(∀ i∈vs,S.msF i=false)/\es.all Gi=true/\∀ {Wx} X M,XS X P w K mg base lvl S Wx->MS M K S Wx->PA X es (tL M fa vs)
 | [],fa,vs,h=>by cases h;exact ⟨λ _ z=>(nomatch z),rfl,λ X M _ _=>Z4⟩
 | e::es,fa,vs,h=>by
  unfold Gp at h;split at h
  ·rename_i f1 v1 f2 v2 h1 h2;cases h;have g1:=hd e f1 v1 h1;have g2:=Hu hd es f2 v2 h2;exact ⟨EX g1.1 g2.1,by rw [EL,g1.2.1,g2.2.1];rfl,λ X M xs m=>qD (m.v g1.1) (g1.2.2 X M xs m).1 (g2.2.2 X M xs m) (Df (Dg g1.2.1))⟩
  ·cases h
def JT (scope:AW) (env:Env):Ex scope env=E9 scope env.scope:=rfl
theorem O0 {x:Str}{k:Dh}{sc:AW}:∀ (l:List (Str×Dh)),(k=.cell\/k=.free)->(l.map λ (n,k)=>if (k == NameKind.free && sc.kind == .function && sc.names.lookup n == some .cell) then (n,NameKind.cell) else (n,k)).lookup x=some k->(x,NameKind.free)∈l\/(x,NameKind.cell)∈l
 | [],_,h=>by simp at h
 | (n,j)::r,hk,h=>by
  rw [BA] at h;have ih:=O0 (x:=x) (k:=k) (sc:=sc) r hk;dsimp only at h;by_cases hj:(j == NameKind.free && sc.kind == .function && sc.names.lookup n == some .cell)=true
  ·rw [if_pos hj,EO] at h;split at h
   ·rename_i hx;rw [AF,AF] at hj;have e1:x=n:=eq_of_beq hx;have e2:j=.free:=eq_of_beq hj.1.1;rw [e1,e2];exact .inl Ba
   ·exact (ih h).imp (AU _) (AU _)
  ·rw [if_neg hj,EO] at h;split at h
   ·rename_i hx;have e1:x=n:=eq_of_beq hx;have e2:j=k:=Option.some.inj h;rcases hk with z | z
    ·rw [e1,e2,z];exact .inr Ba
    ·rw [e1,e2,z];exact .inl Ba
   ·exact (ih h).imp (AU _) (AU _)
theorem Hz (sc':AW):∀ (N:List Str) (i:Nat),(GL sc' i N).length=N.length
 | [],_=>rfl
 | x::r,i=>by rw [GL,Cs,Hz sc' r (i + 1),Cs]
structure ChkOk (S:Sx) (scope:AW) (xs:List Str) (vI:List Nat):Prop where
 kind:scope.kind=.function
 dis:∀ x,(x,NameKind.free)∈scope.names->(x,NameKind.cell)∉scope.names
 names:∀ x∈scope.names,x.2=.local->scope.names.lookup x.1=some .local
 free:∀ x∈scope.names,x.2=.free->S.sc.names.lookup x.1=some .cell\/S.sc.names.lookup x.1=some .free
 capt:∀ (i:Nat) (x:Str),i < S.N.length->(AJ S scope xs vI).N[i]?=some x->GB (E9 scope S.sc) x->S.N[i]?=some x/\GB S.sc x/\(x,NameKind.free)∈scope.names/\(E9 scope S.sc).names.lookup x≠some .local
 nd:(AJ S scope xs vI).N.Nodup
 loc:∀ x∈xs,(E9 scope S.sc).names.lookup x=some .local\/((E9 scope S.sc).names.lookup x=some .cell/\(x,NameKind.cell)∈scope.names)
 pos:S.N.length≠0
 ms:∀ i∈S.ms,i < S.N.length
def xx {sc:AW}{x:Str} (h:GB sc x):Dl sc x=true:=by
 unfold Dl Dv;rcases h with h | h | h <;> rw [h] <;> simp
def Qx {scope:AW}{xs:List Str}{vI:List Nat} (h:Kr S scope xs vI=true):ChkOk S scope xs vI:=by
 unfold Kr at h;simp only [AF,decide_eq_true_eq,jb4,bne_iff_ne,ne_eq,Ee] at h;obtain ⟨⟨⟨⟨⟨⟨⟨⟨h1,h2⟩,h3⟩,h4⟩,h5⟩,h6⟩,h7⟩,h8⟩,h9⟩:=h;refine ⟨h1,λ x hx hz=>(h2 (x,.free) hx).elim (λ z=>z rfl) λ z=>?_,λ x hx he=>(h3 x hx).elim (λ z=>absurd he z) λ z=>eq_of_beq z,λ x hx he=>(h4 x hx).elim (λ z=>absurd he z) λ z=>z.elim (λ z=>.inl (eq_of_beq z)) λ z=>.inr (eq_of_beq z),λ i x hi e hv=>?_,h6,λ x hx=>(h7 x hx).imp GG λ z=>⟨GG z.1,by simpa using z.2⟩,h8,h9⟩
 ·have z':(!(scope.names.contains (x,NameKind.cell)))=true:=z
  have:scope.names.contains (x,NameKind.cell)=true:=by simpa using hz
  rw [this] at z';cases z'
 have q:=h5 i (jd0.mpr hi);rw [e] at q;dsimp only at q;rw [Ee] at q;rcases q with q | q
 ·have:Dl (E9 scope S.sc) x=true:=xx hv
  have q':(!Dl (E9 scope S.sc) x)=true:=q;rw [this] at q';cases q'
 ·simp only [AF,decide_eq_true_eq,Gy] at q;obtain ⟨⟨⟨q1,q2⟩,q3⟩,q4⟩:=q;refine ⟨q1,Mv q2,by simpa using q3,λ z=>?_⟩
  have:Dv (E9 scope S.sc) x .local=true:=by unfold Dv;rw [z];simp
  have q4':Dv (E9 scope S.sc) x .local=false:=q4;rw [this] at q4';cases q4'
def ChkOk.comp {scope:AW}{ys:List Str}{vI:List Nat} (c:ChkOk S scope ys vI) (xs:XS X P w K mg base lvl S Wx):CompOk X scope (AJ S scope ys vI).N ys.length where
 kind:=c.kind
 dis:=c.dis
 names:=c.names
 len:=by
  show (GL _ 0 S.N++ys).length=_;rw [Cd,Hz,xs.N]
 free:=λ x hx he=>by
  show X.env.scope.names.lookup x.1=_\/X.env.scope.names.lookup x.1=_;rw [xs.sc];exact c.free x hx he
 kinds:=λ x h=>by
  rcases h with h | h
  ·exact O0 (sc:=X.env.scope) scope.names (.inl rfl) h
  ·exact O0 (sc:=X.env.scope) scope.names (.inr rfl) h
 capt:=λ i x hi e hv=>by
  rw [JT,xs.sc] at hv ⊢;rw [xs.N] at hi ⊢;exact c.capt i x hi e hv
def ChkOk.xs {scope:AW}{ys:List Str}{vI:List Nat} (c:ChkOk S scope ys vI) (xs:XS X P w K mg base lvl S Wx) (s2:Aj) (H2:Hp) (C:Addr) (fp:List Addr) (pins:List (Addr×Obj)):XS (AE X s2 H2 scope C (AJ S scope ys vI).N fp pins) P w K mg base lvl (AJ S scope ys vI) W0:=
 ⟨xs.prog,xs.w,xs.K,xs.mg,xs.base,rfl,by show Ex scope X.env=_;rw [JT,xs.sc];rfl,xs.calm,xs.room,PassesOwn.never,YD,λ h=>nomatch h⟩
def Mo {scope:AW}{ys:List Str}{vI:List Nat} (i:Nat):(AJ S scope ys vI).alF i=if i < S.N.length then S.alF i else if i < S.N.length + ys.length then vI else []:=by
 unfold Sx.alF AJ;dsimp only;rw [BI];by_cases h:i < S.N.length
 ·rw [Dw (by simpa using h),if_pos h];simp [h,Sx.alF,BI]
 ·rw [Gz (by simpa using h),if_neg h,IJ];simp only [Bg,W6];by_cases h2:i < S.N.length + ys.length
  ·rw [if_pos h2,if_pos (by omega)];rfl
  ·rw [if_neg h2,if_neg (by omega)];rfl
def ChkOk.ms' {scope:AW}{ys:List Str}{vI:List Nat} (c:ChkOk S scope ys vI) (m:MS M K S Wx) (hv:∀ i∈vI,S.msF i=false) (D:Addr):MS (M.comp D S.N.length vI) K (AJ S scope ys vI) W0 where
 W:=rfl
 K:=m.K
 ms:=m.ms
 al:=λ i hi=>by
  rw [Mo];show (if i < S.N.length then M.al i else vI)=_;have hl:(AJ S scope ys vI).N.length=S.N.length + ys.length:=by
   show (GL _ 0 S.N++ys).length=_;rw [Cd,Hz]
  rw [hl] at hi;by_cases h:i < S.N.length
  ·rw [if_pos h,if_pos h];exact m.al i h
  ·rw [if_neg h,if_neg h,if_pos hi]
 pn:=λ p hp=>by
  have h:=m.pn p hp;show p.1 < (GL _ 0 S.N++ys).length;rw [Cd,Hz];omega
 als:=λ i j hj=>by
  have hj':j∈(if i < S.N.length then M.al i else vI):=hj;show M.Ms j=false;by_cases h:i < S.N.length
  ·rw [if_pos h] at hj';exact m.als i j hj'
  ·rw [if_neg h] at hj';rw [m.ms];exact hv j hj'
theorem Kv {n:Nat}{iter:Expr}{env:Env}{f:Fx}{vs:List Nat} (h:(∀ a b c,iter≠.Set a b c)):∀ x,Ij iter env x=pure x:=by
 intro x;cases iter with
 | Set a b c=>exact absurd rfl (h a b c)
 | _=>rfl
end
section
variable {X:Cx}{P:A7}{w:A6}{K:Frag}{mg:Str->Option Af}{base:Heap}{lvl:Nat}{S:Sx}{Wx:St->Nat->Hp->Prop}{M:Fm}{f g:Fx}{vs vs':List Nat}{σ:St}{H:Hp}{Q:VK}
def xu {T:Str}{t:String} (h:Im T=some t):t∈Hj/\T∈zza/\Ic T=some (.type t)/\(T == ("__debug__" : Str))=false/\T ≠ "__name__" := by
 unfold Im at h;split at h
 ·rename_i e;cases h;rw [e];exact ⟨by decide,by decide +kernel,rfl,by decide +kernel,by decide +kernel⟩
 ·split at h
  ·rename_i e;cases h;rw [e];exact ⟨by decide,by decide +kernel,rfl,by decide +kernel,by decide +kernel⟩
  ·split at h
   ·rename_i e;cases h;rw [e];exact ⟨by decide,by decide +kernel,rfl,by decide +kernel,by decide +kernel⟩
   ·split at h
    ·rename_i e;cases h;rw [e];exact ⟨by decide,by decide +kernel,rfl,by decide +kernel,by decide +kernel⟩
    ·split at h
     ·rename_i e;cases h;rw [e];exact ⟨by decide,by decide +kernel,rfl,by decide +kernel,by decide +kernel⟩
     ·split at h
      ·rename_i e;cases h;rw [e];exact ⟨by decide,by decide +kernel,rfl,by decide +kernel,by decide +kernel⟩
      ·cases h
def Zb {x:Str}{o:List (PV×Nat)->Option (PV×Nat)}{e:Expr}{es:List Expr}{fa:Fa}{p pos:Pos} (h:Qd x=some o) (xs:XS X P w K mg base lvl S Wx) (m:MS M K S Wx) (hb:∀ x∈zza,mg x=none) (hg:S.glob x=true) (hs:(e::es).all Gi=true) (ha:PA X (e::es) (tL M fa vs)):
  PE X (.Call (.Name x p) (e::es) [] pos) (tE M (Am o fa) vs):=by
 rw [EL,AF] at hs;have h1:A5 (e::es) X.env=(false,eval e X.env)::A5 es X.env:=Df (Dg hs.1);have h2:(Cz pos (A5 es X.env)).any (·.1)=false:=Og hs.2;have hm:∀ x∈zza,X.mg x=none:=λ x hx=>by rw [xs.mg];exact hb x hx
 unfold Qd at h;split at h
 ·rename_i ex;cases h;subst ex;exact Zg (m.k xs) (xs.gl hg) (hm _ (by decide +kernel)) ha h1 h2
 ·split at h
  ·rename_i ex;cases h;subst ex;exact YZ xs.calm (xs.gl hg) (hm _ (by decide +kernel)) ha h1 h2
  ·split at h
   ·rename_i ex;cases h;subst ex;exact qK xs.calm (xs.gl hg) (hm _ (by decide +kernel)) ha h1 h2
   ·split at h
    ·rename_i ex;cases h;subst ex;exact qL xs.calm (xs.gl hg) (hm _ (by decide +kernel)) ha h1 h2
    ·split at h
     ·rename_i ex;cases h;subst ex;exact qM xs.calm (xs.gl hg) (hm _ (by decide +kernel)) ha h1 h2
     ·split at h
      ·rename_i ex;cases h;subst ex;exact qN (m.k xs) (xs.gl hg) (hm _ (by decide +kernel)) ha h1 h2
      ·split at h
       ·rename_i ex;cases h;subst ex;exact qI (m.k xs) (xs.gl hg) (hm _ (by decide +kernel)) ha h1 h2
       ·split at h
        ·rename_i ex;cases h;subst ex;exact qG (xs.gl hg) (hm _ (by decide +kernel)) ha h1 h2
        ·split at h
         ·rename_i ex;cases h;subst ex;exact Zk xs.room.units xs.room.gd (m.k xs) (xs.gl hg) (hm _ (by decide +kernel)) ha h1 h2
         ·cases h
def Hs (P:A7) (w:A6) (K:Frag) (mg:Str->Option Af) (base:Heap) (lvl:Nat) (S:Sx) (it:Expr) (iw:Iw):Prop:=
 (∀ i∈iw.vs,S.msF i=false)/\(∀ a b c,it≠.Set a b c)/\∀ {Wx} X M,XS X P w K mg base lvl S Wx->MS M K S Wx->∀ tg,(match iw with
  | .rng en fa vs=>(en=Bo/\PI X tg it (Nj (tL M fa vs)))\/(en=FI/\PI X tg it (Nk (tL M fa vs)))
  | .seq f vs=>PI X tg it (ES M.K (tE M f vs))
  | .vw v fa vs=>False)
def VZ {it:Expr} (g:AG P w K mg base lvl S it f vs) (hs:∀ a b c,it≠.Set a b c):Hs P w K mg base lvl S it (.seq f vs):=
 ⟨g.1,hs,λ X M xs m tg=>by
  show PI X tg it (ES M.K (tE M f vs));rw [m.k xs];exact YG (g.2.2 X M xs m).1⟩
def LV {d:Expr->Option D2} (hd:∀ e f vs,d e=some (f,vs)->AG P w K mg base lvl S e f vs) (hset:∀ a b c,d (.Set a b c)=none) (hb:∀ x∈zza,mg x=none) {it:Expr}{iw:Iw} (h:ET d S it=some iw):Hs P w K mg base lvl S it iw:=by
 have seq:∀ {it:Expr}{iw:Iw},(match d it with
   | some (f,vs)=>some (Iw.seq f vs)
   | none=>none)=some iw->Hs P w K mg base lvl S it iw:=λ {it iw} h=>by
  cases e:d it with
  | none=>rw [e] at h;cases h
  | some p=>
   obtain ⟨f,vs⟩:=p;rw [e] at h;cases h;exact VZ (hd _ _ _ e) λ a b c z=>by rw [z,hset] at e;cases e
 unfold ET at h;split at h
 ·rename_i x p a pos;split at h
  ·rename_i hc;obtain ⟨rfl,hg⟩:=hc;split at h
   ·rename_i fa vs e;cases h;have g:=Hu hd _ _ _ e;refine ⟨λ _ z=>(nomatch z),λ _ _ _ z=>(nomatch z),λ X M xs m tg=>.inl ⟨rfl,?_⟩⟩;have hs:=g.2.1;simp only [EL,Wg,N7] at hs;exact jx (xs.gl hg) (by rw [xs.mg];exact hb _ (by decide +kernel)) (g.2.2 X M xs m) (Df (Dg hs))
   ·cases h
  ·exact seq h
 ·rename_i x p a b pos;split at h
  ·rename_i hc;obtain ⟨rfl,hg⟩:=hc;split at h
   ·rename_i fa vs e;cases h;have g:=Hu hd _ _ _ e;refine ⟨λ _ z=>(nomatch z),λ _ _ _ z=>(nomatch z),λ X M xs m tg=>.inr ⟨rfl,?_⟩⟩;have hs:=g.2.1;simp only [EL,Wg,N7,AF] at hs;have s2:A5 [b] X.env=[(false,eval b X.env)]:=Df (Dg hs.2);exact jy (xs.gl hg) (by rw [xs.mg];exact hb _ (by decide +kernel)) (g.2.2 X M xs m) (by rw [Df (Dg hs.1),s2]) s2
   ·cases h
  ·exact seq h
 ·exact seq h
def VT {σ:St}{H:Hp}{Q:Bool->Hp->Prop} (h:∃ M',MS M' K S Wx/\tT M' By σ H Q):Q true H:=by
 obtain ⟨M',_,ρ,fps,rep,q⟩:=h;exact q H fps KD.refl Agr.refl rep
structure CompParts (P:A7) (w:A6) (K:Frag) (mg:Str->Option Af) (base:Heap) (lvl:Nat) (S:Sx) (scope:AW) (tg:Expr) (ys:List Str) (asg:PV->Ag->Option Ag) (it elt:Expr) (ifs:List Expr) (iw:Iw) (t:Fb) (g:Fx) (vE:List Nat):Prop where
 tga:MF S.N.length tg=some (ys,asg)
 two:GW tg iw=true
 chk:ChkOk S scope ys iw.vs
 iwo:Hs P w K mg base lvl S it iw
 elt:AG P w K mg base lvl (AJ S scope ys iw.vs) elt g vE
 ifs:∀ {Wx} X M,XS X P w K mg base lvl (AJ S scope ys iw.vs) Wx->MS M K (AJ S scope ys iw.vs) Wx->Fl X ifs (λ σ H Q=>∃ M',MS M' K (AJ S scope ys iw.vs) Wx/\tT M' t σ H Q)
def UZ {scope:AW}{tg:Expr}{ys:List Str}{asg:PV->Ag->Option Ag}{it elt:Expr}{ifs:List Expr}{iw:Iw}{t:Fb}{vE:List Nat} (c:CompParts P w K mg base lvl S scope tg ys asg it elt ifs iw t g vE):∀ i∈iw.vs++vE.filter (λ i=>decide (i < S.N.length)),S.msF i=false:=
 EX c.iwo.1 λ i hi=>c.elt.1 i (jf9.mp hi).1
theorem SX {X':Cx}:∀ {es:List Expr}{ys:List Str}{n:Nat},Mc es=some ys->X'.N.Nodup->(∀ j y,ys[j]?=some y->X'.N[n + j]?=some y)->(∀ y∈ys,Ej X'.env.scope y/\(X'.fn y=true\/X'.env.scope.names.lookup y=some .local))->JO X' es (Jm (JG n ys.length))/\(Ez es X'.env).length=ys.length/\(Ez es X'.env).findIdx? (·.1)=none
 | [],ys,n,h,_,_,_=>by cases h;exact ⟨Vc,rfl,rfl⟩
 | e::es,ys,n,h,hN,hi,hl=>by
  unfold Mc at h;split at h
  ·cases ‹_::_=[]›
  ·rename_i x px r heq;cases heq;obtain ⟨zs,h2,rfl⟩:=ja5.mp h;have hx:=hl x Ba;obtain ⟨h1,h3,h4⟩:=SX (n:=n + 1) h2 hN (λ j y e=>by rw [show n + 1 + j=n + (j + 1) by omega];exact hi (j + 1) y (by simpa using e)) λ y hy=>hl y (AU _ hy);rw [Cs,Wy];refine ⟨VM (Kd hN (by have:=hi 0 x rfl;simpa using this) hx.1 hx.2) h1 rfl,by rw [Ez,Cs,h3] <;> (intros;contradiction),?_⟩;rw [Ez,Ru,h4] <;> first | rfl | (intros;contradiction)
  ·cases h
theorem Sj {scope:AW}{tg:Expr}{ys:List Str}{asg:PV->Ag->Option Ag}{pos:Pos}{it elt:Expr}{ifs:List Expr}{iw:Iw}{t:Fb}{vE:List Nat} (c:CompParts P w K mg base lvl S scope tg ys asg it elt ifs iw t g vE) (xs:XS X P w K mg base lvl S Wx) (m:MS M K S Wx):
  ∃ wi gg,PI X tg it wi/\CompOk X scope (AJ S scope ys iw.vs).N ys.length/\(∀ s2 H2 C fp pins,PG (AE X s2 H2 scope C (AJ S scope ys iw.vs).N fp pins) tg gg) /\
   (∀ s2 H2 C fp pins,Fl (AE X s2 H2 scope C (AJ S scope ys iw.vs).N fp pins) ifs (λ σ H Q=>∃ M',MS M' K (AJ S scope ys iw.vs) W0/\tT M' t σ H Q)) /\
   (∀ s2 H2 C fp pins,PE (AE X s2 H2 scope C (AJ S scope ys iw.vs).N fp pins) elt (λ σ H Q=>∃ M',MS M' K (AJ S scope ys iw.vs) W0/\tE M' g vE σ H Q)) /\
   ∀ σ H Q,σ.length=S.N.length->tE M (Ld iw ys.length asg t g) (iw.vs++vE.filter (λ i=>decide (i < S.N.length))) σ H Q ->
    GJ ys.length wi gg (λ σ H Q=>∃ M',MS M' K (AJ S scope ys iw.vs) W0/\tT M' t σ H Q) (λ σ H Q=>∃ M',MS M' K (AJ S scope ys iw.vs) W0/\tE M' g vE σ H Q) σ H Q:=by
 have hvI:=m.v c.iwo.1;have hP:∀ D,MS (M.comp D S.N.length iw.vs) K (AJ S scope ys iw.vs) W0:=λ D=>c.chk.ms' m c.iwo.1 D;have hvE:∀ i∈vE,M.Ms i=false:=λ i hi=>by rw [m.ms];exact c.elt.1 i hi
 have hvo:∀ i,i∈vE->i < S.N.length->i∈iw.vs++vE.filter (λ i=>decide (i < S.N.length)):=λ i h1 h2=>Bj _ (jf9.mpr ⟨h1,by simpa using h2⟩);have hvo2:=m.v (UZ c);have bd:∀ D i,S.N.length<=i->Bd (M.comp D S.N.length iw.vs) iw.vs i:=λ D i hi=>⟨by
   show M.Ms i=false;rw [m.ms];unfold Sx.msF;cases e:S.ms.contains i with
   | false=>rfl
   | true=>exact absurd (c.chk.ms _ (by simpa using e)) (by omega),⟨λ _=>by have:=c.chk.pos;omega,λ p hp=>by have:=m.pn p hp;omega⟩,if_neg (by omega),(hP D).als⟩
 have hix:∀ j y,ys[j]?=some y->(AJ S scope ys iw.vs).N[S.N.length + j]?=some y:=λ j y e=>by
  show (GL _ 0 S.N++ys)[S.N.length + j]?=some y;rw [Gz (by rw [Hz];omega),Hz];simpa using e
 have hloc:∀ s2 H2 C fp pins,∀ y∈ys,Ej (AE X s2 H2 scope C (AJ S scope ys iw.vs).N fp pins).env.scope y/\((AE X s2 H2 scope C (AJ S scope ys iw.vs).N fp pins).fn y=true\/(AE X s2 H2 scope C (AJ S scope ys iw.vs).N fp pins).env.scope.names.lookup y=some .local):=λ s2 H2 C fp pins y hy=>by
  have e:(AE X s2 H2 scope C (AJ S scope ys iw.vs).N fp pins).env.scope=E9 scope S.sc:=by
   show Ex scope X.env=_;rw [JT,xs.sc]
  rw [e];rcases c.chk.loc y hy with z | z
  ·exact ⟨.inl z,.inr z⟩
  ·exact ⟨.inr z.1,.inl (by show scope.names.contains (y,NameKind.cell)=true;simpa using z.2)⟩
 have hpe:∀ s2 H2 C fp pins,PE (AE X s2 H2 scope C (AJ S scope ys iw.vs).N fp pins) elt (λ σ H Q=>∃ M',MS M' K (AJ S scope ys iw.vs) W0/\tE M' g vE σ H Q):=λ s2 H2 C fp pins pi s σ H Q I ⟨M',m',q⟩=>
  (c.elt.2.2 _ M' (c.chk.xs xs s2 H2 C fp pins) m').1 pi s σ H Q I q
 have hpt:∀ s2 H2 C fp pins,Fl (AE X s2 H2 scope C (AJ S scope ys iw.vs).N fp pins) ifs (λ σ H Q=>∃ M',MS M' K (AJ S scope ys iw.vs) W0/\tT M' t σ H Q):=λ s2 H2 C fp pins=>c.ifs _ (M.comp 0 S.N.length iw.vs) (c.chk.xs xs s2 H2 C fp pins) (hP 0);have tgp:∃ is gg,(∀ i∈is,S.N.length<=i)/\(∀ D,DI (M.comp D S.N.length iw.vs) iw.vs is gg asg)/\∀ s2 H2 C fp pins,PG (AE X s2 H2 scope C (AJ S scope ys iw.vs).N fp pins) tg gg:=by
  have ht:=c.tga;unfold MF at ht;split at ht
  ·rename_i y py;cases ht;refine ⟨[S.N.length],Es S.N.length,λ i hi=>by rw [jc0.mp hi];exact AS _,λ D=>Qz (bd D _ (AS _)),λ s2 H2 C fp pins=>?_⟩;exact Kd c.chk.nd (hix 0 y rfl) (hloc s2 H2 C fp pins y (by simp)).1 (hloc s2 H2 C fp pins y (by simp)).2
  ·rename_i es k tp;obtain ⟨zs,h2,e⟩:=ja5.mp ht;cases e;refine ⟨JG S.N.length ys.length,IM M.K ys.length (Jm (JG S.N.length ys.length)),λ i hi=>(jm8.mp hi).1,λ D=>?_,λ s2 H2 C fp pins=>?_⟩
   ·have:=Qn (M:=M.comp D S.N.length iw.vs) (al:=iw.vs) (is:=JG S.N.length ys.length) λ i hi=>bd D i (jm8.mp hi).1
    rw [List.length_range'] at this;exact this
   ·obtain ⟨h1,h3,h4⟩:=SX (X':=AE X s2 H2 scope C (AJ S scope ys iw.vs).N fp pins) (n:=S.N.length) h2 c.chk.nd hix (hloc s2 H2 C fp pins)
    have:=QB (X:=AE X s2 H2 scope C (AJ S scope ys iw.vs).N fp pins) (pos:=tp) (k:=k) xs.calm h1 h3 h4
    have e:(AE X s2 H2 scope C (AJ S scope ys iw.vs).N fp pins).K=M.K:=(m.k xs).symm;rw [e] at this;exact this
  ·cases ht
 obtain ⟨is,gg,his,hg,hpg⟩:=tgp;have hw:=c.iwo.2.2 X M xs m tg;have htw:=c.two;cases iw with
 | rng en fa vs=>
  rcases hw with ⟨rfl,hw⟩ | ⟨rfl,hw⟩
  ·exact ⟨_,gg,hw,c.chk.comp xs,hpg,hpt,hpe,λ σ H Q hl hq=>zV hl hP m.als hvI hvE his hg hvo hvo2 hq⟩
  ·exact ⟨_,gg,hw,c.chk.comp xs,hpg,hpt,hpe,λ σ H Q hl hq=>zW hl hP m.als hvI hvE his hg hvo hvo2 hq⟩
 | seq f vs=>exact ⟨_,gg,hw,c.chk.comp xs,hpg,hpt,hpe,λ σ H Q hl hq=>zX hl hP m.als hvI hvE his hg hvo hvo2 hq⟩
 | vw v fa vs=>exact hw.elim
def Uw {e:Expr}{t t':TE} (h:PE X e t) (i:∀ σ H Q,σ.length=X.N.length->t' σ H Q->t σ H Q):PE X e t':=λ pins s σ H Q I q=>h pins s σ H Q I (i σ H Q I.len q)
def U7 {e:Stmt}{t t':TS} (h:PS X e t) (i:∀ D σ H,σ.length=X.N.length->t' D σ H->t D σ H):PS X e t':=λ pins s σ H D I q=>h pins s σ H D I (i D σ H I.len q)
def je {scope:AW}{tg:Expr}{ys:List Str}{asg:PV->Ag->Option Ag}{pos:Pos}{it elt:Expr}{ifs:List Expr}{iw:Iw}{t:Fb}{vE:List Nat} (c:CompParts P w K mg base lvl S scope tg ys asg it elt ifs iw t g vE):AG P w K mg base lvl S (.ListComp elt [⟨tg,it,ifs,0⟩] scope pos) (Ld iw ys.length asg t g) (iw.vs++vE.filter (λ i=>decide (i < S.N.length))):=by
 refine Cj (UZ c) rfl (λ _ _=>rfl) λ X M xs m=>?_;obtain ⟨wi,gg,h1,h2,h3,h4,h5,h6⟩:=Sj (pos:=pos) c xs m;exact Uw (Vb h2 xs.calm h1 h3 h4 h5 (Kv (n:=0) (f:=g) (vs:=[]) c.iwo.2.1)) λ σ H Q hl q=>h6 σ H Q (by rw [hl,xs.N]) q
def SN {d:Expr->Option D2} (hd:∀ e f vs,d e=some (f,vs)->AG P w K mg base lvl S e f vs) {ifs:List Expr}{t:Fb} (h:Ny d ifs=some t) (X:Cx) (M:Fm) (xs:XS X P w K mg base lvl S Wx) (m:MS M K S Wx):Fl X ifs (λ σ H Q=>∃ M',MS M' K S Wx/\tT M' t σ H Q):=by
 unfold Ny at h;split at h
 ·cases h;intro pins s σ H Q I q;exact Vy pins s σ H Q I (VT q)
 ·obtain ⟨p,e,rfl⟩:=ja5.mp h;obtain ⟨f,vs⟩:=p;have g:=hd _ _ _ e;intro pins s σ H Q I ⟨M',m',q⟩;exact qZ (g.2.2 X M' xs m').2 pins s σ H Q I q
 ·cases h
def Kt (n:Nat) (S:Sx) (a:List Expr) (b:Nat) (c:Pos):Bh n S (.Set a b c)=none:=by
 cases n <;> rfl
def LP {e:Expr} (h:Gi e=true) (env:Env) (cpos:Pos):((Cz cpos (A5 [e] env)).all (λ x=>!x.1) && (backToKw cpos (M0 [] env)).all (λ x=>x.1.isSome)
   && decide (([e]:List Expr).length + ([]:List Gs).length + (if ([]:List Gs).isEmpty then 0 else 1) < 30))=true:=by
 have:A5 [e] env=[(false,eval e env)]:=Df (Dg h)
 rw [this];rfl
def Sf {T:Str}{c:Nat} (h:XN.findIdx? (·== T)=some c):XN[c]?=some T:=by
 obtain ⟨hlt,h1,_⟩:=jf0.mp h;rw [Cm hlt];exact congrArg some (eq_of_beq h1)
def V5 {T:Str}{n:Nat} (GX:GX K mg S.xc) (hb:∀ x∈zza,mg x=none) (h:HV S T=some n) (xs:XS X P w K mg base lvl S Wx):BE X.K=true/\∃ cv,(∀ p2,PE X (.Name T p2) (tC cv))/\∀ u,RelV cv u->BY X.K n u=true:=by
 unfold HV at h;split at h
 ·rename_i hc;obtain ⟨hg,hx⟩:=hc;obtain ⟨_,hk,hcs⟩:=GX hx;refine ⟨by rw [xs.K];exact hk,?_⟩;split at h
  ·rename_i eT;subst eT;cases h;refine ⟨.ty "ValueError",λ p2=>OG (xs.gl hg) (by rw [xs.mg];exact hb _ (by decide +kernel)) (u:=.type "ValueError") rfl rfl (by decide) (by decide),λ u r=>?_⟩;cases r;unfold BY;rfl
  ·split at h
   ·rename_i hc;split at h
    ·rename_i hm;cases h;obtain ⟨x',C,h1,h2,h3,h4⟩:=(hcs n (by simpa using hm)).1 (Q0 hc);have ex:x'=T:=by
      have:=Sf hc
      rw [h1] at this;exact Option.some.inj this
     subst ex;refine ⟨.ref C,λ p2=>OH (xs.gl hg) (by rw [xs.mg];exact h3) rfl h4,λ u r=>?_⟩;cases r;unfold BY;rw [xs.K,h2];simp
    ·cases h
   ·cases h
 ·cases h
theorem SI (GX:GX K mg S.xc) (hb:∀ x∈zza,mg x=none) (xs:XS X P w K mg base lvl S Wx):∀ {es:List Expr}{ns:List Nat},Nn S es=some ns->es≠[]->BE X.K=true/\∃ cvs,cvs.length=es.length/\PA X es (Tu cvs)/\∀ us,Vals cvs us->FF X.K ns us=true
 | [],_,_,hn=>absurd rfl hn
 | e::r,ns,h,_=>by
  unfold Nn at h;split at h
  ·rename_i T ds h1 h2;obtain ⟨n,h3,rfl⟩:=ja5.mp h;obtain ⟨p2,rfl⟩:=EC h1;obtain ⟨hk,cv,c1,c2⟩:=V5 GX hb h3 xs;refine ⟨hk,?_⟩;have st:A5 (Expr.Name T p2::r) X.env=(false,eval (.Name T p2) X.env)::A5 r X.env:=rfl;by_cases hr:r=[]
   ·subst hr;cases h2;refine ⟨[cv],rfl,λ a b c d e f g h=>(Eo (c1 p2) Gj st) a b c d e f g h,λ us v=>?_⟩;cases v with
    | cons r rr=>
     cases rr;unfold FF;rw [c2 _ r];rfl
   ·obtain ⟨_,cvs,l1,pa,l2⟩:=SI GX hb xs h2 hr;refine ⟨cv::cvs,by rw [Cs,Cs,l1],λ a b c d e f g h=>(Eo (c1 p2) pa st) a b c d e f g h,λ us v=>?_⟩;cases v with
    | cons r rr=>
     unfold FF;rw [c2 _ r,l2 _ rr];rfl
  ·cases h
theorem GP (GX:GX K mg S.xc) (G:GS P w K mg base lvl S.Γ) (Gm:Ek P w K mg base lvl S.Γm):∀ (n:Nat) (S':Sx) (e:Expr) (f:Fx) (vs:List Nat),S'.Γ=S.Γ->S'.Γm=S.Γm->S'.xc=S.xc->(∀ i,∀ j∈S'.alF i,S'.msF j=false)->Bh n S' e=some (f,vs)->AG P w K mg base lvl S' e f vs:=by
 intro n;induction n with
 | zero=>intro S' e f vs _ _ _ _ h;cases h
 | succ n ih=>
  intro S' e f vs hΓ hΓm hX hS h;have hd:∀ e f vs,Bh n S' e=some (f,vs)->AG P w K mg base lvl S' e f vs:=λ e f vs h=>ih S' e f vs hΓ hΓm hX hS h;replace h:GI (Bh n) S' e=some (f,vs):=h;unfold GI at h;split at h
  ·unfold L5 at h;split at h
   ·cases h;exact Cj (λ _ z=>(nomatch z)) rfl (λ _ _=>rfl) λ X M xs m=>Bc Q8 λ σ H Q q=>HB (λ K H Z=>by rw [Own];exact ⟨rfl,rfl⟩) q
   ·cases h;exact Cj (λ _ z=>(nomatch z)) rfl (λ _ _=>rfl) λ X M xs m=>Bc XD λ σ H Q q=>HB (λ K H Z=>by rw [Own];exact ⟨rfl,rfl⟩) q
   ·cases h;exact Cj (λ _ z=>(nomatch z)) rfl (λ _ _=>rfl) λ X M xs m=>Bc YE λ σ H Q q=>HB (λ K H Z=>by rw [Own];exact ⟨rfl,rfl⟩) q
   ·cases h;exact Cj (λ _ z=>(nomatch z)) rfl (λ _ _=>rfl) λ X M xs m=>Bc QA λ σ H Q q=>HB (λ K H Z=>by rw [Own];exact ⟨rfl,rfl⟩) q
   ·cases h
  ·split at h
   ·rename_i i hi;split at h
    ·cases h
    ·rename_i hm;cases h;refine Cj (λ j hj=>?_) rfl (λ _ _=>rfl) λ X M xs m=>Uw (xs.var hi) λ σ H Q hl q=>?_
     ·rcases jb2.mp hj with z | z
      ·rw [z];simpa using hm
      ·exact hS i j z
     ·have hlt:i < S'.N.length:=by
       unfold Sx.slot at hi;split at hi
       ·exact (ja6.mp (Jg hi)).1
       ·cases hi
      rw [<- m.al i hlt] at q;exact QR q
   ·unfold L4 at h;split at h
    ·rename_i kk hkk;split at h
     ·rename_i hc;obtain ⟨pv,hp,e2⟩:=ja5.mp h;cases e2;have hm:(50 + kk)∈S'.xc:=by simpa using hc.1
      have hne:S.xc≠[]:=λ z=>by rw [hX,z] at hm;cases hm
      obtain ⟨_,_,hcs⟩:=GX hne;obtain ⟨x',v,u,c1,c2,c3,c4⟩:=(hcs (50 + kk) (by rw [<- hX];exact hm)).2 (Ww _ _);rw [Nat.add_sub_cancel_left,hp] at c1;cases c1;obtain ⟨hlt,h1,_⟩:=jf0.mp hkk;rw [Cm hlt] at hp;have ex:CN[kk]=(x',v):=Option.some.inj hp;rw [ex] at h1;have ex2:x'=_:=eq_of_beq h1;subst ex2;obtain ⟨w',r',ow⟩:=ZF c2;exact Cj (λ _ z=>(nomatch z)) rfl (λ _ _=>rfl) λ X M xs m=>Bc (OH (xs.gl hc.2) (by rw [xs.mg];exact c3) r' c4) λ σ H Q q=>HB ow q
     ·cases h
    ·cases h
  ·split at h
   ·rename_i f1 v1 f2 v2 o h1 h2 h3;cases h;have g1:=hd _ _ _ h1;have g2:=hd _ _ _ h2;exact Cj (EX g1.1 g2.1) rfl (λ _ _=>rfl) λ X M xs m=>Yt h3 (m.v g1.1) (m.k xs) (g1.2.2 X M xs m).1 (g2.2.2 X M xs m).1
   ·cases h
  ·split at h
   ·rename_i f1 v1 h1;cases h;have g1:=hd _ _ _ h1;exact Cj g1.1 rfl (λ _ _=>rfl) λ X M xs m=>Zj (g1.2.2 X M xs m).1
   ·cases h
  ·split at h
   ·rename_i f1 v1 h1;cases h;exact z7 (hd _ _ _ h1)
   ·cases h
  ·rename_i es pos;have g:=SK hd (pos:=pos) _ _ _ h;exact ⟨g.1,rfl,λ X M xs m=>⟨(g.2 X M xs m).1,(g.2 X M xs m).2.pt⟩⟩
  ·rename_i es pos;have g:=VW hd (pos:=pos) _ _ _ h;exact ⟨g.1,rfl,λ X M xs m=>⟨(g.2 X M xs m).1,(g.2 X M xs m).2.pt⟩⟩
  ·split at h
   ·rename_i f1 v1 f2 v2 o h1 h2 h3;cases h;exact z6 h3 (hd _ _ _ h1) (hd _ _ _ h2)
   ·cases h
  ·split at h
   ·rename_i f1 v1 f2 v2 f3 v3 p q h1 h2 h3 h4 h5;cases h;exact ka h4 h5 (hd _ _ _ h1) (hd _ _ _ h2) (hd _ _ _ h3)
   ·cases h
  ·split at h
   ·rename_i fa v h1;cases h;have g:=Hu hd _ _ _ h1;exact Cj g.1 rfl (λ _ _=>rfl) λ X M xs m=>Zh (g.2.2 X M xs m)
   ·cases h
  ·split at h
   ·rename_i fa v h1;cases h;have g:=Hu hd _ _ _ h1;exact Cj g.1 rfl (λ _ _=>rfl) λ X M xs m=>Zl (g.2.2 X M xs m)
   ·cases h
  ·cases h;exact Cj (λ _ z=>(nomatch z)) rfl (λ _ _=>rfl) λ X M xs m=>Zd
  ·rename_i a b pos;unfold Ul at h;split at h
   ·rename_i lo hi st p2;unfold Uk at h;split at h
    ·split at h
     ·rename_i f1 v1 f2 v2 h1 h2;cases h;have g1:=hd _ _ _ h1;have g2:=hd _ _ _ h2;exact Cj g1.1 rfl (λ _ _=>rfl) λ X M xs m=>Bc (Ox (zgz.or (qc0.or Ra)) (g1.2.2 X M xs m).1 Vd (Mf (g2.2.2 X M xs m).1)) λ σ H Q q=>Qr (lo:=none) (hi:=some (f2,v2)) (m.v g1.1) (m.k xs) q
     ·cases h
    ·split at h
     ·rename_i f1 v1 f2 v2 h1 h2;cases h;have g1:=hd _ _ _ h1;have g2:=hd _ _ _ h2;exact Cj g1.1 rfl (λ _ _=>rfl) λ X M xs m=>Bc (Ox (zgz.or (qc0.or Ra)) (g1.2.2 X M xs m).1 (Mf (g2.2.2 X M xs m).1) Vd) λ σ H Q q=>Qr (lo:=some (f2,v2)) (hi:=none) (m.v g1.1) (m.k xs) q
     ·cases h
    ·split at h
     ·rename_i f1 v1 f2 v2 f3 v3 h1 h2 h3;cases h;have g1:=hd _ _ _ h1;have g2:=hd _ _ _ h2;have g3:=hd _ _ _ h3;exact Cj g1.1 rfl (λ _ _=>rfl) λ X M xs m=>Bc (Ox (zgz.or (qc0.or Ra)) (g1.2.2 X M xs m).1 (Mf (g2.2.2 X M xs m).1) (Mf (g3.2.2 X M xs m).1)) λ σ H Q q=>Qr (lo:=some (f2,v2)) (hi:=some (f3,v3)) (m.v g1.1) (m.k xs) q
     ·cases h
    ·cases h
   ·split at h
    ·rename_i x i hx hi;obtain ⟨px,rfl⟩:=EC hx;obtain ⟨k,pi,rfl⟩:=Yr hi;split at h
     ·rename_i j hj;split at h
      ·cases h;exact Cj (λ _ z=>(nomatch z)) rfl (λ _ _=>rfl) λ X M xs m=>XO xs hj (m.k xs)
      ·rename_i hm;cases h;have hlt:j < S'.N.length:=by
        unfold Sx.slot at hj;split at hj
        ·exact (ja6.mp (Jg hj)).1
        ·cases hj
       have hv:∀ i∈j::S'.alF j,S'.msF i=false:=λ i hi=>by
        rcases jb2.mp hi with z | z
        ·rw [z];simpa using hm
        ·exact hS j i z
       refine Cj (EX hv λ _ z=>(nomatch z)) rfl (λ _ _=>rfl) λ X M xs m=>UA (m.v hv) (m.k xs) (JS rfl) (Bc (xs.var hj) λ σ H Q q=>?_) (Bc Q8 λ σ H Q q=>HB (λ K H Z=>by rw [Own];exact ⟨rfl,rfl⟩) q);rw [<- m.al j hlt] at q;exact QR q
     ·cases h
    ·split at h
     ·rename_i f1 v1 f2 v2 h1 h2;split at h
      ·rename_i hn;cases h;have g1:=hd _ _ _ h1;have g2:=hd _ _ _ h2;exact Cj (EX g1.1 g2.1) rfl (λ _ _=>rfl) λ X M xs m=>UA (m.v g1.1) (m.k xs) (JS hn) (g1.2.2 X M xs m).1 (g2.2.2 X M xs m).1
      ·cases h
     ·cases h
  ·split at h
   ·rename_i x p args pos _ hx;subst hx;split at h
    ·rename_i e c;unfold Ug at h;split at h
     ·rename_i f1 v1 h1;split at h
      ·rename_i hgi;have g1:=hd _ _ _ h1;split at h
       ·rename_i T pT;have s2:∀ {X:Cx},A5 [Expr.Name T pT] X.env=[(false,eval (.Name T pT) X.env)]:=rfl;split at h
        ·rename_i t h2;split at h
         ·rename_i hg;cases h;obtain ⟨t1,t2,t3,t4,t5⟩:=xu h2;refine Cj g1.1 rfl (λ _ _=>rfl) λ X M xs m=>?_;exact Ze (x:=T) t1 (m.k xs) (g1.2.2 X M xs m).1 (xs.gl hgi) (by rw [xs.mg];exact G.1 _ (by decide +kernel)) (OG (xs.gl hg) (by rw [xs.mg];exact G.1 _ t2) t3 rfl t5 t4) (by rw [Df (Dg g1.2.1),s2]) s2
         ·cases h
        ·obtain ⟨n,h3,e2⟩:=ja5.mp h;cases e2;refine Cj g1.1 rfl (λ _ _=>rfl) λ X M xs m=>?_;obtain ⟨hk,cv,c1,c2⟩:=V5 (by rw [hX];exact GX) G.1 h3 xs;exact V0 hk (m.k xs) (g1.2.2 X M xs m).1 (xs.gl hgi) (by rw [xs.mg];exact G.1 _ (by decide +kernel)) (c1 pT) c2 (by rw [Df (Dg g1.2.1),s2]) s2
       ·rename_i es k p2;split at h
        ·rename_i hl;obtain ⟨ns,h3,e2⟩:=ja5.mp h;cases e2;obtain ⟨hl,hne⟩:=hl;refine Cj g1.1 rfl (λ _ _=>rfl) λ X M xs m=>?_;have s2:A5 [Expr.Tuple es k p2] X.env=[(false,eval (.Tuple es k p2) X.env)]:=rfl;obtain ⟨hk,cvs,l1,pa,l2⟩:=SI (by rw [hX];exact GX) G.1 xs h3 hne;exact z4 hk (m.k xs) (g1.2.2 X M xs m).1 (xs.gl hgi) (by rw [xs.mg];exact G.1 _ (by decide +kernel)) pa (by rw [l1];exact BH hl (by decide)) l2 (by rw [Df (Dg g1.2.1),s2]) s2
        ·cases h
       ·cases h
      ·cases h
     ·cases h
    ·cases h
   ·split at h
    ·rename_i o ho;split at h
     ·rename_i e es;split at h
      ·rename_i fa v h1;split at h
       ·rename_i hg;cases h;have g:=Hu hd _ _ _ h1;exact Cj g.1 rfl (λ _ _=>rfl) λ X M xs m=>Zb ho xs m G.1 hg g.2.1 (g.2.2 X M xs m)
       ·cases h
      ·cases h
     ·cases h
    ·split at h
     ·rename_i x p args pos _ _ _ _ nn F hF;split at h
      ·rename_i e es;split at h
       ·rename_i fa v h1;split at h
        ·rename_i hg;cases h;have g:=Hu hd _ _ _ h1;rw [hΓ] at hF;obtain ⟨d1,d2,fa',fd,ps,d3,d4,d5,d6,d7⟩:=G.2 _ _ _ _ hF;refine Cj g.1 rfl (λ _ _=>rfl) λ X M xs m=>?_;have hs:=g.2.1;rw [EL,AF] at hs;obtain ⟨xp,xw,xK,xm,xb,_,_,_,xr,_⟩:=id xs;subst xp xw xK xm xb;have mk:M.K=X.K:=m.K;have hps:=xs.ps;rw [<- m.W] at hps;refine Bc (zg d7 xr (xs.gl hg) d3 d4 d5 hps (g.2.2 X M xs m) d1 (Df (Dg hs.1)) (Og hs.2)) λ σ H Q q=>?_
         have:=qO d2 q
         rw [mk] at this;exact this
        ·cases h
       ·cases h
      ·cases h
     ·cases h
     ·cases h
  ·rename_i o at' apos e cpos;unfold Uh at h;split at h
   ·rename_i f1 v1 f2 v2 h1 h2;split at h
    ·rename_i hc;have g1:=hd _ _ _ h1;have g2:=hd _ _ _ h2;have hb:∀ (nm:Str) (X:Cx),M6 o nm X.env (eval o X.env)=eval o X.env:=λ nm X=>by
      have:=hc.1
      cases o <;> first | rfl | (cases this)
     split at h
     ·rename_i ea;subst ea;cases h;exact Cj (EX g1.1 g2.1) rfl (λ _ _=>rfl) λ X M xs m=>qH (m.k xs) (g1.2.2 X M xs m).1 (g2.2.2 X M xs m).1 (hb _ X) (Df (Dg g2.2.1)) (LP g2.2.1 X.env cpos) hc.2
     ·split at h
      ·rename_i ea;subst ea;cases h;exact Cj (EX g1.1 g2.1) rfl (λ _ _=>rfl) λ X M xs m=>z5 (m.k xs) (g1.2.2 X M xs m).1 (g2.2.2 X M xs m).1 (hb _ X) (Df (Dg g2.2.1)) (LP g2.2.1 X.env cpos) hc.2
      ·cases h
    ·cases h
   ·cases h
  ·split at h
   ·rename_i elt tg it ifs scope pos _ _ ys asg iw ht hi;split at h
    ·rename_i hc;split at h
     ·rename_i t g vE h1 h2;cases h;have ck:=Qx hc.1;have giw:=LV hd (Kt n S') G.1 hi;have hS2:∀ i,∀ j∈(AJ S' scope ys iw.vs).alF i,(AJ S' scope ys iw.vs).msF j=false:=λ i j hj=>by
       rw [Mo] at hj;show S'.msF j=false;split at hj
       ·exact hS i j hj
       ·split at hj
        ·exact giw.1 j hj
        ·cases hj
      have hd2:∀ e f vs,Bh n (AJ S' scope ys iw.vs) e=some (f,vs)->AG P w K mg base lvl (AJ S' scope ys iw.vs) e f vs:=λ e f vs h=>ih _ e f vs hΓ hΓm hX hS2 h;exact je ⟨ht,hc.2,ck,giw,hd2 _ _ _ h2,SN hd2 h1⟩
     ·cases h
    ·cases h
   ·cases h
  ·cases h
end
section
variable {is:List Nat}{M:Fm}{ρ ρ':Ag}{σ σ':St}{H H' H'':Hp}{fps fps' fps'':AI}{vs vs':List Nat}
def KP:Fs:=λ _=>.no
def Qs {t:TS}{D:Ends} (hq:tS M KP D σ H):t D σ H:=by
 obtain ⟨ρ,fps,rep,q⟩:=hq;exact q.elim
def Dm (asg:PV->Ag->Option Ag) (f:Fx) (vs:List Nat):Fs:=λ ρ=>match f ρ with
 | .ok (x,d,ρ1)=>(match asg x (CI d vs ρ1) with
  | some ρ2=>.nx ρ2
  | none=>.no)
 | .exc c=>.exc c
 | .no=>.no
theorem Zw {g:TG}{asg:PV->Ag->Option Ag}{f:Fx}{D:Ends} (hal:∀ i,M.al i=[]) (hv:∀ i∈vs,M.Ms i=false) (hg:DI M [] is g asg) (hq:tS M (Dm asg f vs) D σ H):DA (tE M f vs) g D σ H:=by
 obtain ⟨ρ,fps,rep,q⟩:=hq;refine ⟨ρ,fps,rep,?_⟩;unfold Dm at q;cases ef:f ρ with
 | no=>rw [ef] at q;exact q
 | exc c=>rw [ef] at q;exact λ H' fps' k=>q _ H' fps' k.ks
 | ok p=>
  obtain ⟨x,d,ρ1⟩:=p;rw [ef] at q;intro v H1 fps1 f1 k1 g1 rep1 o1 t1;obtain ⟨fps2,k2,r2,o2⟩:=Rep.seen rep k1 g1 rep1 o1 t1 hal hv;dsimp only at q;cases ea:asg x (CI d vs ρ1) with
  | none=>rw [ea] at q;exact q.elim
  | some ρ2=>
   rw [ea] at q;refine hg x v _ σ H1 fps2 ρ2 _ r2 (o2.weak λ a h=>h.zf) ea λ σ' fps' s1 _ _ r'=>q σ' H1 fps' (k2.trans ⟨λ _ _ h _=>h,λ _ h=>h,λ j a ha=>.inl ⟨j,s1 j a ha⟩⟩) r'
def Rep.change {i:Nat}{x x':PV}{d d':Nat}{v:V}{f':List Addr} (hal:∀ i,M.al i=[]) (r:Rep M ρ σ H fps) (hi:ρ[i]?=some (some (x,d))) (hσ:σ[i]?=some (some v)) (k:CO (λ a=>a∈fps i) H H') (dm:∀ a,H a≠none->H' a≠none) (hs:∀ b∈f',b∈fps i)
  (hm:M.Ms i=true->d'=om) (o:Own M.K H' (Zf M (λ j=>if j=i then f' else fps j)) x' d' v f'):Rep M (ρ.set i (some (x',d'))) σ H' (λ j=>if j=i then f' else fps j):=by
 have hlen:i < ρ.length:=(ja6.mp hi).1;have inI:∀ j,∀ b∈(if j=i then f' else fps j),b∈fps j:=λ j b hb=>by
  by_cases e:j=i
  ·rw [if_pos e] at hb;rw [e];exact hs b hb
  ·rw [if_neg e] at hb;exact hb
 refine ⟨λ j y c hj=>?_,λ j hj=>?_,λ j k hjk b hb hc=>r.dj j k hjk b (inI j b hb) (inI k b hc),λ j b hb z=>r.zo j b (inI j b hb) z,λ j hj b hb=>r.fr j hj b (inI j b hb),λ b z=>dm b (r.zd b z),by rw [FW];exact r.len,λ j y c hj hc=>?_,λ b z=>dm b (r.h0 b z),r.iov⟩
 ·by_cases ej:j=i
  ·subst ej;rw [Eg hlen] at hj;cases hj;refine ⟨v,hσ,?_⟩;rw [if_pos rfl];exact o.weak λ a h=>h.zf
  ·rw [Ct (BF ej)] at hj;obtain ⟨u,hu,ou⟩:=r.own j y c hj;refine ⟨u,hu,?_⟩;rw [if_neg ej];refine Own.move (S:=λ a=>a∈fps i) k (λ a ha=>⟨.inr ⟨i,(by rw [hal j];intro z;cases z),ha⟩,r.lsts ha⟩) (λ a _ nz z=>nz ?_) y c u (fps j) (λ a ha z=>r.dj j i ej a ha z) ou;rcases z with z | ⟨l,nl,z⟩
   ·exact .inl z
   ·exact .inr ⟨l,nl,inI l a z⟩
 ·by_cases ej:j=i
  ·subst ej;exact absurd (Eg hlen) (hj (x',d'))
  ·rw [if_neg ej];exact r.non j λ p hp=>hj p (by rw [Ct (BF ej)];exact hp)
 ·by_cases ej:j=i
  ·subst ej;rw [Eg hlen] at hc;cases hc;exact hm hj
  ·rw [Ct (BF ej)] at hc;exact r.msf j y c hj hc
def OwnL.full' {K:Frag}{Z Z':Addr->Prop}{xs:List PV}{ws:List V}{f:List Addr} (h:OwnL K H Z xs om ws f):OwnL K H Z' xs om ws f:=OwnL.full xs ws f h
theorem OwnL.row {K:Frag}{Z:Addr->Prop}:∀ {xs:List PV}{ws:List V}{f:List Addr}{p:Nat}{cells:List PV},OwnL K H Z xs om ws f->xs[p]?=some (.lst cells)->∃ a us fc,ws[p]?=some (.ref a)/\H a=some (.lst us)/\a∈f/\OwnL K H Z cells om us fc/\(∀ b∈fc,b∈f)/\a∉fc /\
  ∀ (cells':List PV) (us':List V) (fc':List Addr),OwnL K (Aw H a (.lst us')) (λ _=>True) cells' om us' fc'->(∀ b∈fc',b∈fc)->∃ f',(∀ b∈f',b∈f)/\OwnL K (Aw H a (.lst us')) (λ _=>True) (xs.set p (.lst cells')) om ws f'
 | [],ws,f,p,cells,h,e=>by cases e
 | x::xs,ws,f,0,cells,h,e=>by
  cases e;rw [OwnL] at h;obtain ⟨v,s,f1,f2,rfl,rfl,dj,h1,h2⟩:=h;obtain ⟨a,us,fc,rfl,ha,rfl,na,ol⟩:=h1.list (by decide:om≠0);rw [Lg] at ol;refine ⟨a,us,fc,rfl,ha,by simp,ol,λ b hb=>by simp [hb],na,λ cells' us' fc' o hs=>⟨(a::fc')++f2,λ b hb=>?_,?_⟩⟩
  ·rcases jc4.mp hb with z | z
   ·rcases jb2.mp z with z | z
    ·simp [z]
    ·exact BC _ (AU _ (hs b z))
   ·exact Bj _ z
  ·have n2:a∉f2:=dj a Ba;rw [Rw,OwnL];refine ⟨.ref a,s,a::fc',f2,rfl,rfl,λ b hb=>?_,?_,?_⟩
   ·rcases jb2.mp hb with z | z
    ·rw [z];exact n2
    ·exact dj b (AU _ (hs b z))
   ·rw [Own];exact ⟨a,us',rfl,.inr ⟨by decide,fc',BS,rfl,λ z=>na (hs a z),by rw [Lg];exact o⟩⟩
   ·exact (h2.full' (Z':=λ _=>True)).at trivial ⟨.l us,ha⟩ n2 λ _ _ n=>absurd trivial n
 | x::xs,ws,f,p + 1,cells,h,e=>by
  rw [OwnL] at h;obtain ⟨v,s,f1,f2,rfl,rfl,dj,h1,h2⟩:=h;obtain ⟨a,us,fc,e1,ha,hf,ol,hs,na,nx⟩:=h2.row (by simpa using e);refine ⟨a,us,fc,by simpa using e1,ha,Bj _ hf,ol,λ b hb=>Bj _ (hs b hb),na,λ cells' us' fc' o hs'=>?_⟩;obtain ⟨f',s',o'⟩:=nx cells' us' fc' o hs';refine ⟨f1++f',λ b hb=>(jc4.mp hb).elim (λ z=>BC _ z) λ z=>Bj _ (s' b z),?_⟩;rw [Rv,OwnL];refine ⟨v,s,f1,f',rfl,rfl,λ b hb z=>dj b hb (s' b z),?_,o'⟩;exact (Own.full (Z':=λ _=>True) x v f1 h1).at trivial ⟨.l us,ha⟩ (λ z=>dj a z hf) λ _ _ n=>absurd trivial n
def KD.top (k:KD M H fps H' fps') (r:Rep M ρ σ H fps) {i:Nat}{a:Addr}{o:HO} (hm:M.Ms i=false) (ha:a∈fps i) (h:H a=some o):H' a=some o:=
 k.keep a o h λ ⟨j,hj,hb⟩=>r.dj i j (λ e=>by rw [e,hj] at hm;cases hm) a ha hb
def Xz {P:A7}{w:A6}{K:Frag}{mg:Str->Option Af}{base:Heap}{lvl:Nat}{fa:Addr}{fd:CU}{ps:List Str}{io:Bool}{np:Nat} (h:ps.length=np):FnOk P w K mg base (AL P w K) lvl fa fd ps (Br K io np (λ _=>.no)):=
 ⟨λ vs H Q E h1=>h1.1.trans h.symm,λ A outer s H args us vs Q E _ _ _ _ h1=>by
  obtain ⟨_,_,_,_,_,_,_,_,_,_,z⟩:=h1;exact z.elim⟩
end
section
variable {M:Fm}{ρ ρ':Ag}{σ σ':St}{H H' H'':Hp}{fps fps' fps'':AI}{vs vs':List Nat}
def qm {i p:Nat}{rows cells:List PV}{v:V} (hal:∀ i,M.al i=[]) (rep:Rep M ρ σ H fps) (e:ρ[i]?=some (some (.lst rows,om))) (hσ:σ[i]?=some (some v)) (er:rows[p]?=some (.lst cells)):
  ∃ a0 ws f r us fc,v=.ref a0/\H a0=some (.lst ws)/\fps i=a0::f/\a0∉f/\OwnL M.K H (Zf M fps) rows om ws f/\ws[p]?=some (.ref r)/\H r=some (.lst us)/\r∈f/\OwnL M.K H (Zf M fps) cells om us fc:=by
 obtain ⟨v2,hσ2,ol⟩:=rep.own0 hal i _ _ e;rw [hσ] at hσ2;cases hσ2;obtain ⟨a0,ws,f,rfl,ha,hf,na,hol⟩:=ol.list (by decide:om≠0);rw [Lg] at hol;obtain ⟨r,us,fc,ew,hr,hrf,oc,_⟩:=hol.row er;exact ⟨a0,ws,f,r,us,fc,rfl,ha,hf,na,hol,ew,hr,hrf,oc⟩
def IX (x:PV) (a:Int) (y:PV):Option PV:=match x with
 | .lst rows=>(match Dq rows.length a with
  | some p=>(match rows[p]? with
   | some (.lst cells)=>if cells.length < Au then some (.lst (rows.set p (.lst (cells++[y])))) else none
   | _=>none)
  | none=>none)
 | _=>none
def zG {x x' y:PV}{a:Int} (h:IX x a y=some x'):∃ rows p cells,x=.lst rows/\Dq rows.length a=some p/\rows[p]?=some (.lst cells)/\cells.length < Au/\x'=.lst (rows.set p (.lst (cells++[y]))):=by
 unfold IX at h;split at h
 ·rename_i rows;split at h
  ·rename_i p ep;split at h
   ·rename_i cells er;split at h
    ·rename_i hl;cases h;exact ⟨rows,p,cells,rfl,ep,er,hl,rfl⟩
    ·cases h
   ·cases h
  ·cases h
 ·cases h
def Qo (i:Nat) (fi f:Fx):Fs:=λ ρ=>match ρ[i]?,fi ρ with
 | some (some (x,d)),.ok (.int a,_,ρ1)=>(match f ρ1 with
  | .ok (y,_,ρ2)=>(match IX x a y with
   | some x'=>if d=om/\Hx y=true then .nx (ρ2.set i (some (x',om))) else .no
   | none=>.no)
  | _=>.no)
 | _,_=>.no
def qS {f fi:Fx}{vi:List Nat}{i:Nat}{D:Ends} (hal:∀ i,M.al i=[]) (hm:M.Ms i=false) (hq:tS M (Qo i fi f) D σ H):Li (MG M.K "list" OJ (Ip (I0 M.K) (D9 i) (tE M fi vi)) (Lh (tE M f vs) FN)) D σ H:=by
 obtain ⟨ρ,fps,rep,q⟩:=hq;unfold Qo at q;split at q
 ·rename_i x d a da ρ1 ei e1;split at q
  ·rename_i y dy ρ2 e2;split at q
   ·rename_i x' ex;split at q
    ·rename_i hc;obtain ⟨rfl,hy⟩:=hc;obtain ⟨rows,p,cells,rfl,ep,er,hl,rfl⟩:=zG ex;obtain ⟨v,hσ,_⟩:=rep.own0 hal i _ _ ei;refine ⟨v,hσ,ρ,fps,rep,?_⟩;rw [e1];intro va H1 fps1 fpa k1 g1 rep1 oa ta;rw [Own] at oa;obtain ⟨rfl,rfl⟩:=oa;have ei1:ρ1[i]?=some (some (.lst rows,om)):=by rw [g1.1 i hm];exact ei
     obtain ⟨a0,ws,f1,r,us,fc,rfl,ha1,hf1,na1,hol1,ew,hr1,hrf1,oc1⟩:=qm hal rep1 ei1 hσ er;refine ⟨a0,ws,a,.ref r,rfl,rfl,.inl (.inl ha1),(by unfold Bk;rw [hol1.length,ep];exact ew),Vv (.inl (.inl hr1)),ρ1,fps1,rep1,?_⟩;rw [e2];intro w H2 fps2 fp k2 g2 rep2 oy ty;obtain ⟨rfl,oy2⟩:=Own.atom (Z':=λ _=>True) (d':=om) hy oy;have ei2:ρ2[i]?=some (some (.lst rows,om)):=by rw [g2.1 i hm];exact ei1
     obtain ⟨v3,hσ3,ol3⟩:=rep2.own0 hal i _ _ ei2;rw [hσ] at hσ3;cases hσ3;obtain ⟨a',ws3,f3,ev,ha3,hf3,na3,hol3⟩:=ol3.list (by decide:om≠0);cases ev;have ht:=k2.top rep1 hm (show a0∈fps1 i by rw [hf1];exact Ba) ha1;rw [ha3] at ht;cases ht;rw [Lg] at hol3;obtain ⟨r',us3,fc3,ew3,hr3,hrf3,oc3,sc3,nrc3,nx⟩:=hol3.row er;rw [ew] at ew3;cases ew3;have hri:r∈fps2 i:=by rw [hf3];exact AU _ hrf3
     refine ⟨r,us3,w,rfl,rfl,hr3,by rw [oc3.length];exact hl,?_⟩;have oc':OwnL M.K H2 (λ _=>True) (cells++[y]) om (us3++[w]) (fc3++[]):=(oc3.full' (Z':=λ _=>True)).snoc oy2 λ _ _ z=>nomatch z
     rw [Ls] at oc';have oc4:OwnL M.K (Aw H2 r (.lst (us3++[w]))) (λ _=>True) (cells++[y]) om (us3++[w]) fc3:=oc'.at trivial ⟨.l us3,hr3⟩ nrc3 λ _ _ n=>absurd trivial n;obtain ⟨f',s',o'⟩:=nx _ _ fc3 oc4 λ _ z=>z;have nea:a0≠r:=λ e=>na3 (by rw [e];exact hrf3);have dm:∀ b,H2 b≠none->(Aw H2 r (.lst (us3++[w]))) b≠none:=λ b h=>by
      by_cases eb:b=r
      ·rw [eb,BS];simp
      ·rw [AR eb];exact h
     have hsub:∀ b∈a0::f',b∈fps2 i:=λ b hb=>by
      rw [hf3];exact (jb2.mp hb).elim (λ z=>by rw [z];exact Ba) λ z=>AU _ (s' b z)
     have kw:KS M H2 fps2 (Aw H2 r (.lst (us3++[w]))) (λ j=>if j=i then a0::f' else fps2 j):=⟨λ b u hb n=>by rw [AR (λ e=>n ⟨i,by rw [e];exact hri⟩)];exact hb,dm,λ j b hb=>by
      by_cases ej:j=i
      ·simp only [if_pos ej] at hb;exact .inl ⟨i,hsub b hb⟩
      ·simp only [if_neg ej] at hb;exact .inl ⟨j,hb⟩⟩
     refine q σ _ _ ((k1.ks.trans k2.ks).trans kw) (rep2.change hal ei2 hσ (λ b u hb n=>by rw [AR (λ e=>n (by rw [e];exact hri))];exact hb) dm hsub (λ _=>rfl) ?_);rw [Own];exact ⟨a0,ws,rfl,.inr ⟨by decide,f',by rw [AR nea];exact ha3,rfl,λ z=>na3 (s' a0 z),o'.full'⟩⟩
    ·exact q.elim
   ·exact q.elim
  ·exact q.elim
 ·exact q.elim
end
section
variable {is:List Nat}{M:Fm}{ρ ρ':Ag}{σ σ':St}{H H' H'':Hp}{fps fps' fps'':AI}{vs vs':List Nat}{D:Ends}
end
section
variable {is:List Nat}{M:Fm}{ρ ρ':Ag}{σ σ':St}{H H' H'':Hp}{fps fps' fps'':AI}{vs vs':List Nat}{D:Ends}
end
section
variable {is:List Nat}{X:Cx}{M:Fm}{ρ ρ':Ag}{σ σ':St}{H H' H'':Hp}{fps fps' fps'':AI}{vs vs':List Nat}{D:Ends}
def TR:EU:=λ o i v H Q=>∃ a H',o=.ref a/\DPut H a i v H'/\Q H'
def XJ:EU:=λ o i v H Q=>TU o i v H Q\/TR o i v H Q
def Yu (hu:X.A.units + 1 < Cn):PSet X TR:=by
 intro pins s σ H o i v ov iv u Q I ro ri rv h;obtain ⟨a,H',rfl,g,q⟩:=h;obtain rfl:ov=Value.ref a:=ro;exact jb hu I g ri rv λ s' I'=>⟨H',I',q⟩
def PSet.or {t t':EU} (h:PSet X t) (h':PSet X t'):PSet X (λ o i v H Q=>t o i v H Q\/t' o i v H Q):=by
 intro pins s σ H o i v ov iv u Q I ro ri rv q;rcases q with q | q
 ·exact h pins s σ H o i v ov iv u Q I ro ri rv q
 ·exact h' pins s σ H o i v ov iv u Q I ro ri rv q
def Z3 {K:Frag}{Z:Addr->Prop}{y:PV}{u:V}{d:Nat}{w:V}{fp:List Addr} (h:sV y=some u) (o:Own K H Z y d w fp):w=u/\Hx y=true:=by
 cases y <;> cases h <;> (rw [Own] at o;exact ⟨o.1,rfl⟩)
def FP (x:PV) (k y:PV):Option PV:=match x,k with
 | .lst xs,.int i=>(match Dq xs.length i with
  | some j=>some (.lst (xs.set j y))
  | none=>none)
 | .dct kvs,.tup ks=>(match FU ks,sV y with
  | some k,some u=>if kvs.length < Au then some (.dct (BX kvs k u)) else none
  | _,_=>none)
 | _,_=>none
def ke:PV->Bool
 | .lst _=>true
 | _=>false
def E6 (i:Nat) (fk f:Fx):Fs:=λ ρ=>match f ρ with
 | .ok (y,e,ρ1)=>(match ρ1[i]? with
  | some (some _)=>(match fk ρ1 with
   | .ok (k,_,ρ2)=>(match ρ2[i]? with
    | some (some (x,d))=>(match FP x k y with
     | some x'=>if d≠0/\JE y=true then .nx (ρ2.set i (some (x',d))) else if d≠0/\e=om/\ke x=true then .nx (ρ2.set i (some (x',1))) else .no
     | none=>.no)
    | _=>.no)
   | _=>.no)
  | _=>.no)
 | .exc c=>.exc c
 | .no=>.no
def Rep.poke {i:Nat}{x x':PV}{d:Nat}{a:Addr}{o':HO}{f':List Addr}{H0:Hp}{fps0:AI} (hal:∀ i,M.al i=[]) (k0:KS M H0 fps0 H fps) (r:Rep M ρ σ H fps) (hi:ρ[i]?=some (some (x,d))) (hσ:σ[i]?=some (some (.ref a))) (ha:a∈fps i) (hs:∀ b∈f',b∈fps i)
  (o:Own M.K (Aw H a o') (Zf M (λ j=>if j=i then f' else fps j)) x' d (.ref a) f'):KS M H0 fps0 (Aw H a o') (λ j=>if j=i then f' else fps j)/\Rep M (ρ.set i (some (x',d))) σ (Aw H a o') (λ j=>if j=i then f' else fps j):=by
 have dm:∀ b,H b≠none->Aw H a o' b≠none:=λ b hb=>by
  by_cases eb:b=a
  ·rw [eb,BS];simp
  ·rw [AR eb];exact hb
 refine ⟨⟨λ b u hb n=>?_,λ b hb=>dm b (k0.dom b hb),λ j b hb=>?_⟩,r.change hal hi hσ (λ b u hb n=>?_) dm hs (λ h=>r.msf i _ _ h hi) o⟩
 ·have hb1:=k0.keep b u hb n;rw [AR]
  ·exact hb1
  ·rintro rfl;rcases k0.sub i b ha with z | z
   ·exact n z
   ·rw [z] at hb;cases hb
 ·by_cases ej:j=i
  ·simp only [if_pos ej] at hb;exact k0.sub i b (hs b hb)
  ·simp only [if_neg ej] at hb;exact k0.sub j b hb
 ·rw [AR]
  ·exact hb
  ·rintro rfl;exact n ha
theorem qT {f fk:Fx}{vk:List Nat}{i:Nat} (hal:∀ i,M.al i=[]) (hm:M.Ms i=false) (hv:∀ i∈vs,M.Ms i=false) (hq:tS M (E6 i fk f) D σ H):DA (tE M f vs) (Ly (D9 i) (tE M fk vk) XJ) D σ H:=by
 obtain ⟨ρ,fps,rep,q⟩:=hq;refine ⟨ρ,fps,rep,?_⟩;unfold E6 at q;cases ef:f ρ with
 | no=>rw [ef] at q;exact q
 | exc c=>rw [ef] at q;exact λ H' fps' k=>q _ H' fps' k.ks
 | ok p=>
  obtain ⟨y,e,ρ1⟩:=p;rw [ef] at q;intro w H1 fps1 fp k1 g1 rep1 o1 t1;dsimp only at q;cases e1:ρ1[i]? with
  | none=>rw [e1] at q;exact q.elim
  | some s1=>
   rw [e1] at q;cases s1 with
   | none=>exact q.elim
   | some p1=>
   obtain ⟨x1,d1⟩:=p1;dsimp only at q;obtain ⟨v0,hσ,_⟩:=rep1.own i _ _ e1;refine ⟨v0,hσ,ρ1,fps1,rep1,?_⟩;cases ek:fk ρ1 with
   | no=>rw [ek] at q;exact q.elim
   | exc c=>rw [ek] at q;exact q.elim
   | ok p2=>
    obtain ⟨k,ek',ρ2⟩:=p2;rw [ek] at q;intro kv H2 fps2 f2 k2 g2 rep2 o2 t2;dsimp only at q;cases e2:ρ2[i]? with
    | none=>rw [e2] at q;exact q.elim
    | some s2=>
     rw [e2] at q;cases s2 with
     | none=>exact q.elim
     | some p3=>
      obtain ⟨x,d⟩:=p3;dsimp only at q;cases ep:FP x k y with
      | none=>rw [ep] at q;exact q.elim
      | some x'=>
       rw [ep] at q;dsimp only at q;split at q
       ·rename_i hc;obtain ⟨hd,hy⟩:=hc;obtain ⟨v1,hσ1,ox⟩:=rep2.own0 hal i _ _ e2;rw [hσ] at hσ1;cases hσ1;have k12:KS M H fps H2 fps2:=k1.ks.trans k2.ks;unfold FP at ep;split at ep
        ·rename_i xs n;split at ep
         ·rename_i j ej;cases ep;rw [Own] at o2;obtain ⟨rfl,_⟩:=o2;obtain ⟨a,ws,fc,rfl,ha,hfp,nac,hol⟩:=ox.list hd;have hai:a∈fps2 i:=by rw [hfp];exact Ba
          have ow:Own M.K H2 (Zf M fps2) y (pd d) w []:=(Own.flatA (d':=pd d) hy (k2.stay rep1 hv o1 t1.ndj)).2;obtain ⟨fc',hs',hset⟩:=hol.set ow j;have inI:∀ b,b∈a::fc'->b∈fps2 i:=λ b hb=>(jb2.mp hb).elim (λ z=>by rw [z];exact hai) λ z=>by rw [hfp];exact AU _ (hs' b z)
          have nz:∀ b,Zf M (λ j=>if j=i then a::fc' else fps2 j) b->Zf M fps2 b:=λ b h=>by
           rcases h with z | ⟨j,z⟩
           ·exact .inl z
           ·by_cases ej:j=i
            ·simp only [if_pos ej] at z;exact .inr ⟨i,inI b z⟩
            ·simp only [if_neg ej] at z;exact .inr ⟨j,z⟩
          refine .inl ⟨a,ws,n,j,rfl,rfl,ha,by rw [hol.length];exact ej,?_⟩;have pk:=rep2.poke (o':=.lst (ws.set j w)) (x':=.lst (xs.set j y)) (f':=a::fc') hal k12 e2 hσ hai inI (by
           rw [Own];exact ⟨a,_,rfl,.inr ⟨hd,fc',BS,rfl,λ z=>nac (hs' a z),hset.at (.inr ⟨i,hai⟩) ⟨.l ws,ha⟩ (λ z=>nac (hs' a z)) λ b _ n z=>n (nz b z)⟩⟩)
          exact q σ _ _ pk.1 pk.2
         ·cases ep
        ·rename_i kvs ks;split at ep
         ·rename_i kk u ekk eu;split at ep
          ·rename_i hl;cases ep;obtain ⟨rfl,_⟩:=Z3 eu o1;rw [Own] at o2;obtain ⟨b,ws,rfl,hb,ol⟩:=o2
           have:=LI ekk ol
           subst this;have hx:∃ a,v0=.ref a/\H2 a=some (.dT kvs)/\fps2 i=[a]:=by
            rw [Own] at ox;obtain ⟨a,ea,⟨d0,_⟩ | ⟨_,ha,hf⟩⟩:=ox
            ·exact absurd d0 hd
            ·exact ⟨a,ea,ha,hf⟩
           obtain ⟨a,rfl,ha,hf⟩:=hx;have hai:a∈fps2 i:=by rw [hf];exact Ba
           refine .inr ⟨a,_,rfl,DPut.t ha hb hl,?_⟩;have pk:=rep2.poke (o':=.dT (BX kvs kk w)) (x':=.dct (BX kvs kk w)) (f':=[a]) hal k12 e2 hσ hai (λ b hb=>by rw [jc0.mp hb];exact hai) (by
            rw [Own];exact ⟨a,rfl,.inr ⟨hd,BS,rfl⟩⟩)
           exact q σ _ _ pk.1 pk.2
          ·cases ep
         ·cases ep
        ·cases ep
       ·split at q
        ·rename_i hc;obtain ⟨hd,rfl,hx⟩:=hc;obtain ⟨v1,hσ1,ox⟩:=rep2.own0 hal i _ _ e2;rw [hσ] at hσ1;cases hσ1;cases x with
         | lst xs=>
          unfold FP at ep;cases k with
          | int n=>
           dsimp only at ep;split at ep
           ·rename_i j ej;cases ep;rw [Own] at o2;obtain ⟨rfl,_⟩:=o2;obtain ⟨a,ws,fc,rfl,ha,hfp,nac,hol⟩:=ox.list hd;have hai:a∈fps2 i:=by rw [hfp];exact Ba
            have oy:=k2.stay rep1 hv o1 t1.ndj;have n2:∀ b∈fp,¬ Zf M fps2 b:=λ b hb z=>by
             rcases z with z | ⟨j,z⟩
             ·exact t1.ndj b hb (.inl z)
             ·rcases k2.sub j b z with z | z
              ·exact t1.ndj b hb (.inr ⟨j,z⟩)
              ·obtain ⟨o,ho⟩:=Own.lsts y _ w fp o1 b hb;rw [ho] at z;cases z
            have hafp:a∉fp:=λ z=>n2 a z (.inr ⟨i,hai⟩);have hst:∃ j,a∈fps j:=⟨i,by have:=(k1.trans k2).same i hm;rw [<- this];exact hai⟩
            have rw2:Rep (M.plus fp) ρ2 σ H2 fps2:=rep.wide (λ i j hj=>by rw [hal i] at hj;cases hj) (k1.trans k2) (g1.trans g2) rep2 λ b hb=>⟨t1.new b hb,by obtain ⟨o,ho⟩:=Own.lsts y _ w fp oy b hb;rw [ho];simp,n2 b hb⟩
            have h2:∀ b∈fp,M.H₀ b=none/\¬ M.Zo b:=λ b hb=>⟨rep.h0' (t1.new b hb),λ z=>n2 b hb (.inl z)⟩
            let Z:Addr->Prop:=Zf M (λ j=>if j=i then [a] else fps2 j);have zsub:∀ b,Z b->Zf M fps2 b:=λ b h=>by
             rcases h with z | ⟨j,z⟩
             ·exact .inl z
             ·by_cases ej:j=i
              ·simp only [if_pos ej] at z;rw [jc0.mp z];exact .inr ⟨i,hai⟩
              ·simp only [if_neg ej] at z;exact .inr ⟨j,z⟩
            have nf:∀ b∈fc,¬ Z b:=λ b hb z=>by
             have hbi:b∈fps2 i:=by rw [hfp];exact AU _ hb
             rcases z with z | ⟨j,z⟩
             ·exact rep2.zo i b hbi z
             ·by_cases ej:j=i
              ·simp only [if_pos ej] at z;rw [jc0.mp z] at hb;exact nac hb
              ·simp only [if_neg ej] at z;exact rep2.dj i j (BF ej) b hbi z
            have za:Z a:=.inr ⟨i,by simp⟩;have u1:=OwnL.freeze (Z':=Z) zsub xs _ ws fc nf hol;have u2:=Own.freeze (Z':=Z) (λ b _=>trivial) y _ w fp (λ b hb z=>n2 b hb (zsub b z)) (Own.full (Z':=λ _=>True) y w fp oy);obtain ⟨f',hs',u3⟩:=(u1.at za ⟨.l ws,ha⟩ (λ z=>nomatch z) λ _ _ n=>n).set (u2.at (o:=.lst (ws.set j w)) za ⟨.l ws,ha⟩ (λ z=>nomatch z) λ _ _ n=>n) j;obtain rfl:f'=[]:=List.eq_nil_iff_forall_not_mem.mpr λ b hb=>nomatch hs' b hb
            refine .inl ⟨a,ws,n,j,rfl,rfl,ha,by rw [hol.length];exact ej,?_⟩;refine q σ _ _ ((k1.ks.trans k2.ks).write (i:=i) (f':=[]) (fp:=fp) hst λ b hb=>?_) (rw2.rewrite hal e2 hσ ha hfp (λ z=>nomatch z) (λ b hb=>nomatch hb) (by decide) (λ h=>by rw [hm] at h;cases h) h2 ?_)
            ·rcases jb2.mp hb with z | z
             ·exact .inl (by rw [z];exact hai)
             ·cases z
            ·rw [Nq];exact u3
           ·cases ep
          | _=>cases ep
         | _=>cases hx
        ·exact q.elim
end
section
variable {X:Cx}{W:St->Nat->Hp->Prop}
def zq (hr:O6 X W) (t:D7 X.K=true) (hcalm:X.calm=true) {c:Nat}{C:Addr}{x m:Str}{np cpos pos p:Pos}{j:_} (e:BR X.K c=some C) (hg:Gl X x) (hm:X.mg x=some (.ref C)) (hdb:(x == ("__debug__" : Str))=false):
  PS X (.Raise (some (.Call (.Name x np) [.Constant (.str m) j p] [] cpos)) none pos) (λ D σ H=>W σ c H):=by
 intro pins s σ H D I h;obtain ⟨bm,N,nm,q,bs,hdct,sn,sub,ab,col,dd,k0,k1,k2,k3,k5,mN,hC,hN,hni,T,_⟩:=(Qt I.ok.mod.kin t e).obj;have FB:=PySem.F.excBase_ValueError;have he:A5 [Expr.Constant (.str m) j p] X.env=(false,eval (.Constant (.str m) j p) X.env)::A5 [] X.env:=rfl;refine wpAny_Raise_call_subU (C:=C) (nm:=nm) (q:=q) (N:=N) (bs:=bs) (bm:=bm) (hdct:=hdct) (sn:=sn) (sub:=sub) (ab:=ab) (col:=col) (dd:=dd) (k0:=k0) (k1:=k1) (k2:=k2) (k3:=k3) (k5:=k5)
  FB (show bmV.contains (.type "ValueError")=true by decide +kernel) FB (mN:=mN) (T.hasType FB.hasBase) (I.ok.hd hcalm) rfl hni (Ma I hg hm ⟨rfl,?_⟩ hdb)
 rw [he];refine Pn (CA ((Eo QA Gj (by rfl)) cpos pins s σ H (λ vs H'=>H'=H/\vs.length=1) I ⟨rfl,rfl⟩) (λ us s2 hu=>?_) λ _ _ y=>y);obtain ⟨vs,H2,I2,rv,eH,hl⟩:=hu;subst eH;refine ⟨rfl,?_,I2.bk _ _ hC,hN.keeps I2.bk,T.keeps I2.bk,λ h' a hx=>hr pins σ H2 s2 c C a h' us I2 e hx h⟩;show us.length<=Au;rw [<- rv.length,hl];decide
end
section
variable {X:Cx}{pins pins1:List (Addr×Obj)}{σ:St}{H:Hp}{s:Aj}{e:Af->Aj->Prop}
def Cx.Ok.wish2 {p:List (Addr×Obj)} (o:X.Ok):L2.Cx.Ok { X with pn:=p,xe:=e }:=⟨o.mod,o.kind,o.glob,o.blt,o.above,o.inj,o.has,o.cab,o.hd,o.frames,o.stk,o.exf,o.bs,o.bsz,o.noex,o.exfs,o.funs,o.frf⟩
def Inv.into (I:L2.Inv X pins σ H s):L2.Inv { X with pn:=X.pn++pins,xe:=e } [] σ H s:=
 ⟨Cx.Ok.wish2 I.ok,I.os,I.bare,I.base,I.loc,I.cell,I.free,I.freeC,λ p hp=>I.pin p (by simpa using hp),I.hok,I.len⟩
def Inv.outof (ok:X.Ok) (I:L2.Inv { X with pn:=X.pn++pins,xe:=e } pins1 σ H s):L2.Inv X pins σ H s:=
 ⟨ok,I.os,I.bare,I.base,I.loc,I.cell,I.free,I.freeC,λ p hp=>I.pin p (BC _ hp),I.hok,I.len⟩
abbrev Cx.inh (X:Cx) (v:Af):Cx:={ X with A:=X.A.mark (some v),calm:=false,xe:=λ _ _=>False }
def Inv.inh (v:Af) (I:L2.Inv X pins σ H s):L2.Inv (Cx.inh X v) pins σ H s:=
 ⟨⟨I.ok.mod,I.ok.kind,I.ok.glob,I.ok.blt,I.ok.above,I.ok.inj,I.ok.has,I.ok.cab,(λ h=>nomatch h),I.ok.frames,I.ok.stk,I.ok.exf,I.ok.bs,I.ok.bsz,I.ok.noex,I.ok.exfs,I.ok.funs,I.ok.frf⟩,I.os,I.bare,I.base,I.loc,I.cell,I.free,I.freeC,I.pin,I.hok,I.len⟩
def Inv.outh {v:Af} (ok:X.Ok) (I:L2.Inv (Cx.inh X v) pins σ H s):L2.Inv X pins σ H s:=
 ⟨ok,I.os,I.bare,I.base,I.loc,I.cell,I.free,I.freeC,I.pin,I.hok,I.len⟩
def qA {M:Model}{A:AZ}{E:Af->Aj->Prop}{i:Nat}{x:Str}{pos:Pos}{Q:Unit->Aj->Prop} (I:L2.Inv X pins σ H s) (hN:X.N.Nodup) (hi:X.N[i]?=some x) (hk:X.env.kindOf x=some .local)
  (h:∀ s',L2.Inv X pins (σ.set i none) H s'->Q () s'):As M A (do bindName X.env x .none;unbindBehindTheSuite X.env x pos) Q E s:=by
 obtain ⟨m,hn,hl⟩:=id I.loc;have hcls:(X.env.scope.kind == .class || (X.env.scope.kind == .module && X.env.locals != X.env.globals))=false:=by rw [I.ok.kind];rfl
 have hiσ:i < σ.length:=by rw [I.len];exact (ja6.mp hi).1
 have cne:=I.cne;refine wpAny_nameGoes_keeps hk hn hcls λ h' v hn' hs=>?_;have tracked:HOk X.prog X.w H h':=λ b ob e=>by
  refine (I.hok b ob e).stay (λ c w' hc q=>(hs.2 c ?_).trans q) (λ _ q=>q) λ _ _ q=>q;rintro rfl;rcases hc with rfl | hc
  ·rw [I.free] at e;cases e
  ·rw [I.free] at hc;cases hc
 refine h _ ⟨I.ok,I.os,I.bare,⟨λ b o e n hb hx=>?_,λ b o e n hb hx=>?_,I.base.free,λ b o e hx=>?_,I.base.tups,I.base.frzs,I.base.tbls⟩,⟨_,hn',λ j y v' e1 e2 e3=>?_⟩,λ y c e=>?_,I.free,I.freeC,λ p hp=>?_,tracked,by simpa using I.len⟩
 ·exact (hs.2 b (BM (Bm (Bl e) I.ok.above))).trans (I.base.keep b o e n hb hx)
 ·obtain ⟨sl,e1⟩:=I.base.slot b o e n hb hx;exact ⟨sl,(hs.2 b (BM (Bm (Bl e) I.ok.above))).trans e1⟩
 ·obtain ⟨o',e1⟩:=I.base.there b o e hx;exact ⟨o',(hs.2 b (BM (Bm (Bl e) I.ok.above))).trans e1⟩
 ·by_cases hj:j=i
  ·subst hj;rw [Eg hiσ] at e2;cases e2
  ·rw [Ct (BF hj)] at e2;obtain ⟨u',r',q⟩:=hl j y v' e1 e2 e3;refine ⟨u',r',?_⟩;rcases q with ⟨k,e⟩ | ⟨k,c,e,z⟩
   ·refine .inl ⟨k,?_⟩
    have:y≠x:=λ e=>hj (Ow hN e1 (e ▸ hi))
    simp [this,e]
   ·exact .inr ⟨k,c,e,z.sameBut hs (cne y c e)⟩
 ·obtain ⟨w',z⟩:=I.cell y c e;exact ⟨w',z.sameBut hs (cne y c e)⟩
 ·obtain ⟨e,n,ne,nf,d⟩:=I.pin p hp;exact ⟨(hs.2 p.1 ne).trans e,n,ne,nf,d⟩
end
section
variable {M:Model}{A:AZ}{E:Af->Aj->Prop}{K:Frag}
def jd {s:Aj}{a C D:Addr}{c d:Nat}{Q:Bool->Aj->Prop} (xc:XC s.heap K c C) (xd:XC s.heap K d D) (ed:BR K d=some D) (he:EV a C s.heap) (hq:Q (Dx c d) s):As M A (excMatches (.ref a) (.ref D)) Q E s:=by
 obtain ⟨bm,N,nm,q,bs,hdct,sn,sub,ab,col,dd,k0,k1,k2,k3,k5,mN,hC,hN,hni,T,hin⟩:=xc.obj;obtain ⟨bm',N',nm',q',bs',hdct',sn',sub',ab',col',dd',k0',k1',k2',k3',k5',mN',hD,hN',hni',T',_⟩:=xd.obj;obtain ⟨oe,vs,hoe,hcls,hdt⟩:=he;have hcB:(Value.ref D::bm').contains (.type "BaseException")=true:=by rw [List.contains_cons,T'.hasType PySem.F.excBase_ValueError.hasBase,Wf]
 have hcC:=hin d D ed;have f:=tc_notTuple;obtain ⟨h,g,dr,t,os⟩:=s;unfold excMatches
 repeat (first | (with_reducible refine KA hoe ?_;rw [hcls]) | with_reducible refine KA hD ?_ | (with_reducible refine wpAny_isSubtype_exc hD ?_;rw [hcB]) | (with_reducible refine wpAny_isSubtype_exc hC ?_;rw [hcC]) | wp_step)
 cases hb:Dx c d <;> (rw [hb] at hq;wp_walk;exact hq)
end
section
variable {X:Cx}{pins:List (Addr×Obj)}{σ:St}{H H1:Hp}{s:Aj}{B:Heap}{a C:Addr}{a0:Af}{c:Nat}
def Sn {s':Aj}{h:Heap} (I:L2.Inv X pins σ H s) (un:Un (BO X.stack) [] H H1 s.heap s'.heap) (hok:HOk X.prog X.w H1 s'.heap) (fl:Jx B X.stack a (.ref C) a0 h) (up:s'.heap.UpToSlots h)
  (i1:∀ b o,s'.heap.get? b=some o->H1 b≠none->B.get? b=some o) (i2:∀ b o,s.heap.get? b=some o->H b=none->b∉BO X.stack->B.get? b=some o) (ha:H1 a=none) (hn:s.heap.get? a=none) (hd:∀ b,H b≠none->H1 b≠none) (ho:s'.os=s.os) (hg:EF s'.gens):
  L2.Inv X pins σ (Aw H1 a (.ext (EV a C))) { s' with heap:=h }/\EV a C h:=by
 have ex:EV a C h:=by
  obtain ⟨oe,vs,e1,e2,e3,_⟩:=fl.first;exact ⟨oe,vs,e1,e2,e3⟩
 have D8:∀ b v,H1 b≠none->s'.heap.get? b=some v->h.get? b=some v:=λ b v hb e=>fl.1 b v (i1 b v e hb);have nea:∀ b o,s.heap.get? b=some o->b≠a:=λ b o e z=>by rw [z,hn] at e;cases e
 have nea1:∀ b o,H1 b=some o->b≠a:=λ b o e z=>by rw [z,ha] at e;cases e
 have fr:∀ b o,s.heap.get? b=some o->H b=none->b∈BO X.stack->∃ sl,h.get? b=some { o with slots:=sl }:=λ b o e n hb=>by
  obtain ⟨sl,e2⟩:=un.any e n (by simp);obtain ⟨_,o',ho',hnf⟩:=I.stack.mem hb;rw [e] at ho';cases ho';obtain ⟨sl2,e3⟩:=up b _ e2 hnf;exact ⟨sl2,e3⟩
 refine ⟨I.call' (s':={ s' with heap:=h }) (ch:=[]) ho ⟨λ b o e n hb _=>fl.1 b o (i2 b o e n hb),λ b o e n hb _=>fr b o e n hb,λ b o e n _=>?_,λ b o e _=>?_,λ b xs e=>?_,λ b o xs e=>?_,λ b ps e=>?_⟩ (λ b o e=>?_) hg (λ b z=>absurd z (by simp)),ex⟩
 ·rw [AR (nea b o e)];exact un.free b o e n (by simp)
 ·by_cases h0:H b=none
  ·by_cases hb:b∈BO X.stack
   ·obtain ⟨sl,e2⟩:=fr b o e h0 hb;exact ⟨_,e2⟩
   ·exact ⟨o,fl.1 b o (i2 b o e h0 hb)⟩
  ·obtain ⟨o2,e2⟩:=un.there b o e (by simp);exact ⟨o2,D8 b o2 (hd b h0) e2⟩
 ·have:=un.tups b xs e
  rw [AR (nea1 b _ this)];exact this
 ·have:=un.frzs b o xs e
  rw [AR (nea1 b _ this)];exact this
 ·obtain ⟨m,e1⟩:=un.tbls b ps e;exact ⟨m,by rw [AR (nea1 b _ e1)];exact e1⟩
 ·by_cases eb:b=a
  ·subst eb;rw [BS] at e;cases e;refine ⟨ex,?_,λ h1 h2 x k=>?_⟩
   ·obtain ⟨o,_,e1,_⟩:=ex;exact ⟨o,e1⟩
   ·obtain ⟨o,vs,e1,e2⟩:=x;exact ⟨o,vs,k o e1,e2⟩
  ·rw [AR eb] at e;refine (hok b o e).stay (λ d v hd q=>D8 d v ?_ q) (λ d q=>?_) λ d xs q=>?_
   ·rcases hd with rfl | hd
    ·rw [e];simp
    ·rw [hd];simp
   ·rw [AR (nea1 d _ q)];exact q
   ·rw [AR (nea1 d _ q)];exact q
end
section
variable {is:List Nat}{X:Cx}{M:Fm}{ρ ρ':Ag}{σ σ':St}{H H' H'':Hp}{fps fps' fps'':AI}{vs vs':List Nat}{D:Ends}
def Dn (c:Nat):Fs:=λ _=>.exc c
def Zu {c:Nat} (hq:tS M (Dn c) D σ H):M.W σ c H:=by
 obtain ⟨ρ,fps,rep,q⟩:=hq;exact q σ H fps KS.refl
def RrOk (M:Fm) (D:Ends) (σ:St) (H:Hp) (fps:AI):Rs->Prop
 | .exc c=>∀ H' fps',KD M H fps H' fps'->M.W σ c H'
 | .nx ρ'=>RsOk M D H fps (.nx ρ')
 | .rt x d ρ'=>RsOk M D H fps (.rt x d ρ')
 | _=>False
def tR (M:Fm) (f:Fs):TS:=λ D σ H=>∃ ρ fps,Rep M ρ σ H fps/\RrOk M D σ H fps (f ρ)
theorem RrOk.from {r:Rs} (k1:KD M H fps H' fps') (q:RrOk M D σ H fps r):RrOk M D σ H' fps' r:=by
 cases r with
 | no=>exact q
 | exc c=>exact λ H2 fps2 k=>q H2 fps2 (k1.trans k)
 | rt x d ρ2=>exact RsOk.from (r:=.rt x d ρ2) k1.ks q
 | nx ρ2=>exact RsOk.from (r:=.nx ρ2) k1.ks q
 | bk ρ2=>exact q
 | ct ρ2=>exact q
theorem qR {f:Fx} (hq:tR M (Dd f) D σ H):Li (tE M f vs) D σ H:=by
 obtain ⟨ρ,fps,rep,q⟩:=hq;cases ef:f ρ with
 | ok p=>
  refine Vr (M:=M) ⟨ρ,fps,rep,?_⟩;unfold Dd at q ⊢;rw [ef] at q ⊢;exact q
 | no=>
  unfold Dd at q;rw [ef] at q;exact q.elim
 | exc c=>
  unfold Dd at q;rw [ef] at q;refine ⟨ρ,fps,rep,?_⟩;rw [ef];exact q
theorem Zq {f:Fx}{i:Nat}{ms:Bool} (hal:∀ i,M.al i=[]) (hv:∀ i∈vs,M.Ms i=false) (hms:M.Ms i=ms) (hio:M.Fre i) (hq:tR M (Ai ms i f vs) D σ H):DA (tE M f vs) (Es i) D σ H:=by
 obtain ⟨ρ,fps,rep,q⟩:=hq;cases ef:f ρ with
 | ok p=>
  refine Km hal hv hms hio ⟨ρ,fps,rep,?_⟩;cases er:Ai ms i f vs ρ with
  | nx ρ'=>rw [er] at q;exact q
  | rt x d ρ'=>rw [er] at q;exact q
  | exc c=>
   obtain ⟨x,d,ρ1⟩:=p;unfold Ai at er;rw [ef] at er;dsimp only at er;split at er <;> cases er
  | no=>rw [er] at q;exact q.elim
  | bk ρ'=>rw [er] at q;exact q.elim
  | ct ρ'=>rw [er] at q;exact q.elim
 | no=>
  unfold Ai at q;rw [ef] at q;exact q.elim
 | exc c=>
  unfold Ai at q;rw [ef] at q;refine ⟨ρ,fps,rep,?_⟩;rw [ef];exact q
theorem Yv {c:Fb}{f g:Fs} (hq:tR M (Ax c f g) D σ H):Ir (tT M c) (tR M f) (tR M g) D σ H:=by
 obtain ⟨ρ,fps,rep,q⟩:=hq;refine ⟨ρ,fps,rep,?_⟩;unfold Ax at q;cases ec:c ρ with
 | no=>rw [ec] at q;exact q
 | exc c=>rw [ec] at q;exact q
 | ok p=>
  obtain ⟨b,ρ1⟩:=p;rw [ec] at q;intro H1 fps1 k1 g1 rep1;dsimp only at q;cases b with
  | true=>exact ⟨ρ1,fps1,rep1,RrOk.from k1 q⟩
  | false=>exact ⟨ρ1,fps1,rep1,RrOk.from k1 q⟩
def k7 (ms:List Nat) (ρ:Ag):Bool:=ms.all λ k=>match ρ[k]? with
 | some (some (.non,_))=>true
 | some (some _)=>false
 | _=>true
def Fm.want (M:Fm) (W':St->Nat->Hp->Prop):Fm:={ M with W:=W' }
def Rep.want {W':St->Nat->Hp->Prop} (r:Rep M ρ σ H fps):Rep (M.want W') ρ σ H fps:=⟨r.own,r.non,r.dj,r.zo,r.fr,r.zd,r.len,r.msf,r.h0,r.iov⟩
def Rep.unwant {W':St->Nat->Hp->Prop} (r:Rep (M.want W') ρ σ H fps):Rep M ρ σ H fps:=⟨r.own,r.non,r.dj,r.zo,r.fr,r.zd,r.len,r.msf,r.h0,r.iov⟩
def Rep.gone {j:Nat} (hal:∀ i,M.al i=[]) (r:Rep M ρ σ H fps) (hio:M.Fre j):Rep M (ρ.set j none) (σ.set j none) H (λ k=>if k=j then [] else fps k):=by
 have sub:∀ k,∀ a∈(if k=j then [] else fps k),a∈fps k:=λ k a h=>by
  by_cases e:k=j
  ·rw [if_pos e] at h;cases h
  ·rw [if_neg e] at h;exact h
 have get:∀ k p,(ρ.set j none)[k]?=some (some p)->k≠j/\ρ[k]?=some (some p):=λ k p e=>by
  by_cases ek:k=j
  ·subst ek;by_cases hl:k < ρ.length
   ·rw [Eg hl] at e;cases e
   ·rw [List.set_eq_of_length_le (by omega)] at e;rw [NI (by omega)] at e;cases e
  ·rw [Ct (BF ek)] at e;exact ⟨ek,e⟩
 refine ⟨λ k x d e=>?_,λ k h=>?_,λ k l hkl a ha hb=>r.dj k l hkl a (sub k a ha) (sub l a hb),λ k a ha=>r.zo k a (sub k a ha),λ k hk a ha=>r.fr k hk a (sub k a ha),r.zd,by rw [FW,FW];exact r.len,λ k x d hk e=>r.msf k x d hk (get k _ e).2,r.h0,?_⟩
 ·obtain ⟨ek,e'⟩:=get k _ e;obtain ⟨v,hv,o⟩:=r.own k x d e';refine ⟨v,by rw [Ct (BF ek)];exact hv,?_⟩;rw [if_neg ek];refine o.weak λ a h=>?_;rcases h with h | ⟨l,nl,h⟩
  ·exact .inl h
  ·exact .inr ⟨l,nl,sub l a h⟩
 ·by_cases ek:k=j
  ·rw [if_pos ek]
  ·rw [if_neg ek];exact r.non k λ p e=>h p (by rw [Ct (BF ek)];exact e)
 ·refine ⟨λ v hv=>?_,λ p hp=>?_⟩
  ·have:=r.iov.1 v hv
   have h0:=hio.1 (by rw [hv];simp);rw [Ct h0];exact this
  ·rw [Ct (hio.2 p hp).symm];exact r.iov.2 p hp
end
structure Hd where
 y:Str
 np:Pos
 hpos:Pos
 px:Pos
 pa:Pos
 pn:Pos
 jc:Nat
 z:Str
 d:Nat
 D:Addr
section
variable {X:Cx}
structure Hd.Ok (X:Cx) (h:Hd):Prop where
 ed:BR X.K h.d=some h.D
 hg:Gl X h.y
 hm:X.mg h.y=some (.ref h.D)
 db:(h.y == ("__debug__" : Str))=false
end
section
variable {is:List Nat}{X:Cx}{M:Fm}{ρ ρ':Ag}{σ σ':St}{H H' H'':Hp}{fps fps' fps'':AI}{vs vs':List Nat}{D:Ends}
end
structure Hh where
 y:Str
 np:Pos
 hpos:Pos
 b:Stmt
 bs:List Stmt
 d:Nat
 D:Addr
 T:TS
def Hh.stm (n:Str) (h:Hh):Ie:=.ExceptHandler (some (.Name h.y h.np)) (some n) (h.b::h.bs) h.hpos
def EW {α:Type}:List (Nat×α)->Nat->Option α
 | [],_=>none
 | (d,z)::r,c=>if Dx c d=true then some z else EW r c
def T4 (D:Ends) (j:Nat):Ends:={ nx:=λ σ' H''=>D.nx (σ'.set j none) H'',rt:=λ _ _=>False }
section
variable {X:Cx}
structure Hh.Ok (X:Cx) (h:Hh):Prop where
 ed:BR X.K h.d=some h.D
 hg:Gl X h.y
 hm:X.mg h.y=some (.ref h.D)
 db:(h.y == ("__debug__" : Str))=false
 run:∀ a,DH (Cx.inh X (.ref a)) (h.b::h.bs) h.T
def L9 (K:Frag) (hs:List (Nat×TS)) (j:Nat) (D:Ends) (σ₀:St):St->Nat->Hp->Prop:=λ σ c H'=>σ=σ₀/\∃ T,EW hs c=some T/\∀ a C,H' a=none->BR K c=some C->T (T4 D j) (σ.set j (some (.ref a))) (Aw H' a (.ext (EV a C)))
def qX {tb:(St->Nat->Hp->Prop)->TS}{body:List Stmt}{n:Str}{pos:Pos}{h0:Hh}{hs:List Hh}{j:Nat} (t:D7 X.K=true) (hst:X.stack=X.env::X.outer) (hfr:X.env.frame=some X.env.locals) (hN:X.N.Nodup) (hj:X.N[j]?=some n)
  (hn:X.env.kindOf n=some .local) (hfn:∀ z,X.fn z=true) (ok:∀ h∈h0::hs,h.Ok X)
  (hb:∀ pn' xe' W',HQ (AL X.prog X.w X.K) { X with pn:=pn',xe:=xe' } W'->Ia (Aq X.prog X.w) X.A X.env xe'->DH { X with pn:=pn',xe:=xe' } body (tb W')):
  PS X (.Try body (h0.stm n::hs.map (Hh.stm n)) [] [] pos) (λ D σ H=>tb (L9 X.K ((h0::hs).map λ h:Hh=>(h.d,h.T)) j D σ) D σ H):=by
 intro pins s σ H D I h;refine wpAny_Try_except (CA (hb (X.pn++pins) _ (L9 X.K ((h0::hs).map λ h:Hh=>(h.d,h.T)) j D σ) ?_ Pb [] s σ H D (Inv.into I) h) (λ f s1 hs=>?_) λ e s1 he=>he)
 ·intro pins1 σ1 H1 s1 e s' I1 hx';obtain ⟨a,C,c,H',B,a0,rfl,hc,ho,hg',un,hok,ha,hn',fl,i1,i2,hd,hE⟩:=hx';obtain ⟨rfl,z,hz,hD⟩:L9 X.K ((h0::hs).map λ h:Hh=>(h.d,h.T)) j D σ σ1 c H':=hE;have I2:L2.Inv X pins σ1 H1 s1:=Inv.outof I.ok I1;have fl':Jx B (X.env::X.outer) a (.ref C) a0 s'.heap:=by rw [<- hst];exact fl
  refine wpAny_looks_onW (by rw [I.ok.frames,hst]) hfr fl' λ h4 held4 up4=>?_;refine wpAny_landsW held4 λ h5 fl5 up5=>?_;have up45:=up4.trans up5;obtain ⟨I5,x5⟩:=Sn I2 un hok (by rw [hst];exact fl5) up45 i1 i2 ha hn' hd ho hg';have I5':=Inv.inh (.ref a) I5;show As _ _ (handleBy _ _ ((h0::hs).map (Hh.stm n))) _ _ _;revert hz ok;generalize h0::hs=l;intro ok hz;induction l with
  | nil=>cases hz
  | cons h r ih=>
   have o:=ok h Ba;rw [BA];refine wpAny_handleBy_cons (codeAny_handlers_test (Ma I5' o.hg o.hm ?_ o.db)) (by intro q;cases q);refine jd (Qt I5.kIn t hc) (Qt I5.kIn t o.ed) o.ed x5 ?_;have hz':(if Dx c h.d=true then some h.T else EW (r.map λ h:Hh=>(h.d,h.T)) c)=some z:=hz;cases hcd:Dx c h.d with
   | false=>
    rw [hcd,if_neg BN] at hz';exact ih (λ h' hh=>ok h' (AU _ hh)) hz'
   | true=>
    rw [hcd,if_pos rfl] at hz';cases hz';refine codeAny_handlers_suite_as ?_;refine lands_againW fl5 λ h6 fl6 up6=>?_;obtain ⟨I6,x6⟩:=Sn I2 un hok (by rw [hst];exact fl6) (up45.trans up6) i1 i2 ha hn' hd ho hg';refine Oh (v:=.ref a) I6 hN hj (.inl hn) rfl (λ s7 I7=>?_) (.inl (hfn n));refine CA (o.run a pins s7 _ _ (T4 D j) (Inv.inh (.ref a) I7) (hD a C ha hc)) (λ f s8 hs=>?_) λ _ _ z=>z.elim;cases f with
    | next=>
     obtain ⟨σ',H'',I8,q⟩:=hs;refine qA (Inv.outh I.ok I8) hN hj hn λ s9 I9=>?_;exact ⟨_,_,I9,q⟩
    | brk=>obtain ⟨_,_,_,z⟩:=hs;exact z.elim
    | cont=>obtain ⟨_,_,_,z⟩:=hs;exact z.elim
    | ret u=>obtain ⟨_,_,_,_,_,z⟩:=hs;exact z.elim
 ·cases f with
  | next=>
   obtain ⟨σ',H',I',q⟩:=hs;exact M9 ⟨σ',H',Inv.outof I.ok I',q⟩
  | brk=>
   obtain ⟨σ',H',I',q⟩:=hs;exact ⟨σ',H',Inv.outof I.ok I',q⟩
  | cont=>
   obtain ⟨σ',H',I',q⟩:=hs;exact ⟨σ',H',Inv.outof I.ok I',q⟩
  | ret u=>
   obtain ⟨v,σ',H',I',r,q⟩:=hs;exact ⟨v,σ',H',Inv.outof I.ok I',r,q⟩
end
def E7 (hs:List (Nat×Fs)) (j:Nat) (ms:List Nat) (b:Fs):Fs:=λ ρ=>match b ρ with
 | .nx ρ'=>.nx ρ'
 | .rt y e ρ'=>.rt y e ρ'
 | .exc c=>(match EW hs c with
  | some h=>if j < ρ.length/\k7 ms ρ=true then (match h (ρ.set j (some (.exn c,om))) with
   | .nx ρ'=>.nx (ρ'.set j none)
   | _=>.no) else .no
  | none=>.no)
 | _=>.no
theorem SY {α β:Type} (g:α->β):∀ (hs:List (Nat×α)) (c:Nat),EW (hs.map λ p=>(p.1,g p.2)) c=(EW hs c).map g
 | [],_=>rfl
 | (d,z)::r,c=>by
  rw [BA];unfold EW;split
  ·rfl
  ·exact SY g r c
section
variable {is:List Nat}{X:Cx}{M:Fm}{ρ ρ':Ag}{σ σ':St}{H H' H'':Hp}{fps fps' fps'':AI}{vs vs':List Nat}{D:Ends}
theorem qV {hs:List (Nat×Fs)}{j:Nat}{ms:List Nat}{b:Fs} (hal:∀ i,M.al i=[]) (hms:∀ i,M.Ms i=ms.contains i) (hmj:M.Ms j=false) (hoj:M.Fre j) (hq:tS M (E7 hs j ms b) D σ H):tR (M.want (L9 M.K (hs.map λ p=>(p.1,tS M p.2)) j D σ)) b D σ H:=by
 obtain ⟨ρ,fps,rep,q⟩:=hq;refine ⟨ρ,fps,rep.want,?_⟩;unfold E7 at q;have ks:∀ {H':Hp}{fps':AI},KS (M.want (L9 M.K (hs.map λ p=>(p.1,tS M p.2)) j D σ)) H fps H' fps'->KS M H fps H' fps':=λ k=>⟨k.keep,k.dom,k.sub⟩
 cases eb:b ρ with
 | no=>rw [eb] at q;exact q
 | bk ρ'=>rw [eb] at q;exact q
 | ct ρ'=>rw [eb] at q;exact q
 | nx ρ'=>rw [eb] at q;exact λ σ' H' fps' k r=>q σ' H' fps' (ks k) r.unwant
 | rt x e ρ'=>rw [eb] at q;exact λ v σ' H' fps' fp k r o hf=>q v σ' H' fps' fp (ks k) r.unwant o hf
 | exc c=>
  rw [eb] at q;dsimp only at q;cases ep:EW hs c with
  | none=>rw [ep] at q;exact q.elim
  | some h=>
  rw [ep] at q;dsimp only at q;split at q
  ·rename_i hc;cases eh:h (ρ.set j (some (.exn c,om))) with
   | nx ρ'=>
    rw [eh] at q;intro H' fps' k;refine ⟨rfl,tS M h,by rw [SY,ep];rfl,λ a C ha hC=>?_⟩;have kk:∀ b o,H b=some o->H' b=some o:=λ b o h=>k.keep b o h λ ⟨l,hl,hb⟩=>by
     have hl:M.Ms l=true:=hl;rw [hms l] at hl;have hm:l∈ms:=by simpa using hl
     have hc3:=jb4.mp hc.2 l hm;have e:fps l=[]:=by
      cases el:ρ[l]? with
      | none=>exact rep.non l λ p z=>by rw [el] at z;cases z
      | some q=>
       cases q with
       | none=>exact rep.non l λ p z=>by rw [el] at z;cases z
       | some p=>
        obtain ⟨x,dx⟩:=p;rw [el] at hc3;cases x <;> first | (obtain ⟨v,_,o⟩:=rep.own l _ _ el;rw [Own] at o;exact o.2) | exact nomatch hc3
     rw [e] at hb;cases hb
    have k2:∀ b o,H b=some o->Aw H' a (.ext (EV a C)) b=some o:=λ b o h=>by
     rw [AR (Jb (kk b o h) ha)];exact kk b o h
    have r2:=(rep.grow k2).bind1 (al:=[]) (i:=j) (y:=.exn c) (v:=.ref a) (by rw [Own];exact ⟨rfl,a,C,rfl,hC,BS⟩) hc.1 ⟨hmj,hoj,hal j,λ l m hm=>by rw [hal l] at hm;cases hm⟩;refine ⟨_,_,r2,?_⟩;rw [show dv (.exn c)=om from rfl,eh];intro σ' H2 fps2 k3 r3;refine q _ _ _ (KS.trans (H':=Aw H' a (.ext (EV a C))) (fps':=λ k=>if k=j then [] else fps k) ⟨λ b o h _=>k2 b o h,λ b h=>?_,λ l b hb=>?_⟩ (k3.trans ⟨λ _ _ h _=>h,λ _ h=>h,λ l b hb=>?_⟩)) (r3.gone (j:=j) hal hoj)
    ·cases e:H b with
     | none=>exact absurd e h
     | some o=>rw [k2 b o e];simp
    ·by_cases e1:l=j
     ·simp only [if_pos e1] at hb;cases hb
     ·simp only [if_neg e1] at hb;exact .inl ⟨l,hb⟩
    ·by_cases e1:l=j
     ·simp only [if_pos e1] at hb;cases hb
     ·simp only [if_neg e1] at hb;exact .inl ⟨l,hb⟩
   | _=>rw [eh] at q;exact q.elim
  ·exact q.elim
end
def T1 (S:Sx) (n:Str) (j:Nat) (g:Expr) (es:List Expr) (ks:List Gs):Option D2:=match DN g,es,ks with
 | some x,[e,c],[]=>(match DN e,DN c with
  | some n',some T=>if x = "isinstance" /\ n'=n/\S.glob "isinstance" = true then (HV S T).map λ d=>(Ap (D6 [d]) (Aa j),[j]) else none
  | _,_=>none)
 | _,_,_=>none
def GK (S:Sx) (n:Str) (j:Nat):Nat->Expr->Option D2
 | 0,_=>none
 | _ + 1,.Constant c _ _=>(match c with
  | .str z=>some (bC (.str z),[])
  | _=>none)
 | k + 1,.UnaryOp op a _=>(match op with
  | .Not=>(GK S n j k a).map λ p=>(Ap AQ p.1,p.2)
  | _=>none)
 | k + 1,.BoolOp op es _=>(match op with
  | .And=>HY (GK S n j k) es
  | _=>none)
 | _ + 1,.Call g es ks _=>T1 S n j g es ks
 | _,_=>none
section
variable {P:A7}{w:A6}{K:Frag}{mg:Str->Option Af}{base:Heap}{lvl:Nat}{S:Sx}{Wx:St->Nat->Hp->Prop}{X:Cx}{M:Fm}{n:Str}{j:Nat}{a:Addr}
def jl {T:Str}{d:Nat} (GX:GX K mg S.xc) (hb:∀ x∈zza,mg x=none) (h:HV S T=some d) (xs:XS X P w K mg base lvl S Wx):BE X.K=true/\∃ cv,(∀ p2,PE (Cx.inh X (.ref a)) (.Name T p2) (tC cv))/\∀ u,RelV cv u->BY X.K d u=true:=by
 unfold HV at h;split at h
 ·rename_i hc;obtain ⟨hg,hx⟩:=hc;obtain ⟨_,hk,hcs⟩:=GX hx;refine ⟨by rw [xs.K];exact hk,?_⟩;split at h
  ·rename_i eT;subst eT;cases h;refine ⟨.ty "ValueError",λ p2=>OG (X:=Cx.inh X (.ref a)) (xs.gl hg) (by show X.mg _=none;rw [xs.mg];exact hb _ (by decide +kernel)) (u:=.type "ValueError") rfl rfl (by decide) (by decide),λ u r=>?_⟩;cases r;unfold BY;rfl
  ·split at h
   ·rename_i hc;split at h
    ·rename_i hm;cases h;obtain ⟨x',C,h1,h2,h3,h4⟩:=(hcs d (by simpa using hm)).1 (Q0 hc);have ex:x'=T:=by
      have:=Sf hc
      rw [h1] at this;exact Option.some.inj this
     subst ex;refine ⟨.ref C,λ p2=>OH (X:=Cx.inh X (.ref a)) (xs.gl hg) (by show X.mg _=_;rw [xs.mg];exact h3) rfl h4,λ u r=>?_⟩;cases r;unfold BY;rw [xs.K,h2];simp
    ·cases h
   ·cases h
 ·cases h
def xv (xs:XS X P w K mg base lvl S Wx) {x:Str}{i:Nat}{pos:Pos} (h:S.slot x=some i):PE (Cx.inh X (.ref a)) (.Name x pos) (D9 i):=by
 unfold Sx.slot at h;split at h
 ·rename_i hc;simp only [AF,Gy] at hc;exact U0 (X:=Cx.inh X (.ref a)) (by show X.N[i]?=_;rw [xs.N];exact Jg h) (by show GB X.env.scope x;rw [xs.sc];exact Mv hc.1.1) hc.1.2 hc.2
 ·cases h
theorem Mt (GX:GX K mg S.xc) (hb:∀ x∈zza,mg x=none) (hj:S.slot n=some j) (xs:XS X P w K mg base lvl S Wx) (hK:M.K=X.K) (hal:M.al j=[]):∀ (k:Nat) (e:Expr) (f:Fx) (vs:List Nat),GK S n j k e=some (f,vs)->(∀ i∈vs,i=j)/\PE (Cx.inh X (.ref a)) e (tE M f vs)
 | 0,e,f,vs,h=>by cases h
 | k + 1,e,f,vs,h=>by
  cases e with
  | Constant c k0 pos=>
   unfold GK at h;split at h
   ·cases h;exact ⟨λ _ z=>(nomatch z),Bc QA λ σ H Q q=>HB (λ K H Z=>by rw [Own];exact ⟨rfl,rfl⟩) q⟩
   ·cases h
  | UnaryOp op a0 pos=>
   unfold GK at h;split at h
   ·obtain ⟨p,h1,e2⟩:=ja5.mp h;cases e2;have g:=Mt GX hb hj xs hK hal _ _ p.1 p.2 h1;exact ⟨g.1,Bc (Uy g.2) λ σ H Q q=>Vo q⟩
   ·cases h
  | BoolOp op es pos=>
   unfold GK at h;split at h
   ·have all:∀ (es:List Expr) (f:Fx) (vs:List Nat),HY (GK S n j k) es=some (f,vs)->(∀ i∈vs,i=j)/\PE (Cx.inh X (.ref a)) (.BoolOp .And es pos) (tE M f vs):=by
     intro es;induction es with
     | nil=>intro f vs h;cases h
     | cons e es ih=>
      intro f vs h;cases es with
      | nil=>
       have g:=Mt GX hb hj xs hK hal _ e f vs h;exact ⟨g.1,Q9 g.2⟩
      | cons e' es=>
       unfold HY at h;split at h
       ·rename_i f1 v1 f2 v2 h1 h2;cases h;have g1:=Mt GX hb hj xs hK hal _ e f1 v1 h1;have g2:=ih f2 v2 h2;exact ⟨λ i hi=>(jc4.mp hi).elim (g1.1 i) (g2.1 i),Bc (Uv g1.2 g2.2) λ σ H Q q=>Vm q⟩
       ·cases h
    exact all _ _ _ h
   ·cases h
  | Call g0 es ks pos=>
   unfold GK T1 at h;split at h
   ·rename_i x e c hx;obtain ⟨px,rfl⟩:=EC hx;split at h
    ·rename_i n' T hn' hT;obtain ⟨pn,rfl⟩:=EC hn';obtain ⟨pT,rfl⟩:=EC hT;split at h
     ·rename_i hc;obtain ⟨rfl,rfl,hg⟩:=hc;obtain ⟨d,h1,e2⟩:=ja5.mp h;cases e2;obtain ⟨hk,cv,c1,c2⟩:=jl (a:=a) GX hb h1 xs;refine ⟨λ i hi=>jc0.mp hi,V0 (X:=Cx.inh X (.ref a)) hk hK (Bc (xv xs hj) λ σ H Q q=>QR (by rw [hal];exact q)) (xs.gl hg) (by show X.mg _=none;rw [xs.mg];exact hb _ (by decide +kernel)) (c1 pT) c2 rfl rfl⟩
     ·cases h
    ·cases h
   ·cases h
  | _=>cases h
end
section
variable {X:Cx}{M:Fm}{f:Fx}{fa:Fa}{vs vs':List Nat}{σ:St}{H:Hp}{Q:VK}
end
open Builtin Builtin.Str in
section
variable {X:Cx}{M:Fm}{f:Fx}{fa:Fa}{vs vs':List Nat}{o e:Expr}{es:List Expr}{apos cpos:Pos}
end
section
open Builtin Builtin.Str
def rep1 (x y z:Str):Str:=if (occurrences x y 0 x.length 1).isEmpty=true then x else glued z (partsBetween x (occurrences x y 0 x.length 1) y.length)
def Xa (x y z:Str) (t u v k:Tok) (h0:(u == 0 || v == 0)=false) (huv:(u == v)=false) (hyz:(y == z)=false) (hy:(y.length == 0)=false) (hl:tooLong (x.length + (occurrences x y 0 x.length 1).length * z.length)=false):
  Gives («str.replace» ⟨[.str x t,.str y u,.str z v,.int 1 k],[]⟩) (if (occurrences x y 0 x.length 1).isEmpty=true then .val (.str x t) else .str (glued z (partsBetween x (occurrences x y 0 x.length 1) y.length))):=by
 show Gives (if ((occurrences x y 0 x.length 1).isEmpty || (y.length == 0 && z.length == 0))=true then (do rule "str.replace.nothing";ret (.str x t)) else (do let same<-isSame (.str y u) (.str z v);if same=true then (do rule "str.replace.old-is-new";ret (.str x t)) else (if tooLong (x.length + (occurrences x y 0 x.length 1).length * z.length)=true then unsupported "str.replace:memory" else retStr (glued z (partsBetween x (occurrences x y 0 x.length 1) y.length))))) _;rw [hy,EM,Wo];cases hc:(occurrences x y 0 x.length 1).isEmpty
 ·rw [isSame_str_other y z u v h0 huv hyz,hl];exact .of_eq rfl
 ·exact .rule (.of_eq rfl)
end
section
variable {X:Cx}{pins:List (Addr×Obj)}{σ:St}{H:Hp}{s:Aj}
def zO {x y z:Str}{t u v k:Tok}{Q:Af->Aj->Prop}{A:AZ}{E:Af->Aj->Prop}{P:A7}{w:A6} (hu:u≠0) (hv:v≠0) (huv:u≠v) (hyz:(y == z)=false) (hy:(y.length == 0)=false) (hl:x.length + z.length<=1000000) (hr:(rep1 x y z).length<=Au)
  (hq:∀ t' k,Q (.str (rep1 x y z) t') { s with toks:=k }):As (Aq P w) A (call (.builtin "str.replace") [.str x t,.str y u,.str z v,.int 1 k]) Q E s:=by
 have hlen:=Pr x y 0 x.length 1;have ht:MB (x.length + (Il x y 0 x.length 1).length * z.length)=false:=by
  unfold MB;have h2:(Il x y 0 x.length 1).length * z.length<=1 * z.length:=Nat.mul_le_mul_right _ hlen;have hs:Au=16777216:=sizeLine_eq;exact decide_eq_false (by omega)
 refine call_gives F.slot_str_replace (HE _ _ _) F.entry_str_replace (F.args_str_replace_4 _ _ _ _) (Xa x y z t u v k (by simp [hu,hv]) (by simp [huv]) hyz hy ht) ?_;unfold rep1 at hr hq;split
 ·rename_i hc;rw [if_pos hc] at hq;exact hq t s.toks
 ·rename_i hc;rw [if_neg hc] at hq hr;exact ⟨hr,hq _ _⟩
def PN (X:Cx) (e:Expr) (t:TE):Prop:=∀ (pins:List (Addr×Obj)) (s:Aj) (σ:St) (H:Hp) (Q:VK),Inv X pins σ H s->t σ H Q ->
 As (Aq X.prog X.w) X.A (eval e X.env) (λ u s'=>∃ c tk H',u=.str c tk/\s.toks<=tk/\Inv X pins σ H' s'/\Q (.str c) H') X.xe s
def YI {x j pos}:PN X (.Constant (.str x) j pos) (tC (.str x)):=λ _ _ _ H _ I h=>MA ⟨x,_,H,rfl,AS _,I.tok _,h⟩
def FK:List Expr->Option (List Str)
 | []=>some []
 | .Constant (.str x) _ _::es=>(FK es).map λ l=>x::l
 | _=>none
def TxR (n:Nat):List Str->List Af->Prop
 | [],us=>us=[]
 | x::l,us=>∃ t r,us=.str x t::r/\n<=t/\TxR n l r
theorem TxR.up {n m:Nat} (h:n<=m):∀ {l:List Str}{us:List Af},TxR m l us->TxR n l us
 | [],_,e=>e
 | _::_,_,e=>let ⟨t,r,e1,e2,e3⟩:=e;⟨t,r,e1,BH h e2,TxR.up h e3⟩
theorem TxR.len {n:Nat}:∀ {l:List Str}{us:List Af},TxR n l us->l.length=us.length
 | [],_,e=>by subst e;rfl
 | _::_,_,e=>by obtain ⟨t,r,rfl,_,e3⟩:=e;rw [Cs,Cs,TxR.len e3]
theorem TxR.get {n:Nat}:∀ {l:List Str}{us:List Af},TxR n l us->∀ (j:Nat) x,l[j]?=some x->∃ t,us[j]?=some (.str x t)/\n<=t
 | [],_,_,_,_,h=>by simp at h
 | _::_,_,e,0,_,h=>by obtain ⟨t,r,rfl,e2,e3⟩:=e;simp at h;subst h;exact ⟨t,rfl,e2⟩
 | _::_,_,e,j + 1,x,h=>by obtain ⟨t,r,rfl,e2,e3⟩:=e;simpa using TxR.get e3 j x (by simpa using h)
theorem zU {pos:Pos}:∀ {es:List Expr}{l:List Str}{s:Aj}{Q:List Af->Aj->Prop},FK es=some l->(∀ us k,TxR s.toks l us->Q us { s with toks:=k })->As (Aq X.prog X.w) X.A (spliced (Cz pos (A5 es X.env))) Q X.xe s:=by
 intro es;induction es with
 | nil=>intro l s Q h q;cases h;exact OZ (q [] s.toks rfl)
 | cons e es ih=>
  intro l s Q h q;unfold FK at h;split at h
  ·rename_i h0;cases h0
  ·rename_i x j p es' h0;cases h0;obtain ⟨l',e1,rfl⟩:=ja5.mp h;refine KC (MA (k:=j) (pos:=p) ?_);exact ih e1 λ us k hu=>q _ k ⟨s.toks,us,rfl,AS _,hu.up (Rk _)⟩
  ·cases h
def HC (l:List Str) (f:Fx):Fx:=λ ρ=>(f ρ).bind λ (x,_,ρ1)=>match x with
 | .int i=>(match Bk l i with
  | some c=>.ok (.str c,om,ρ1)
  | none=>.no)
 | _=>.no
theorem qP {M:Fm}{l:List Str}{f:Fx}{vs:List Nat}{Q:VK} (hq:tE M (HC l f) vs σ H Q):tE M f vs σ H λ v H'=>∃ i c,v=.int i/\Bk l i=some c/\Q (.str c) H':=by
 obtain ⟨ρ,fps,rep,q⟩:=hq;refine ⟨ρ,fps,rep,?_⟩;unfold HC at q;cases ef:f ρ with
 | no=>rw [ef] at q;exact q
 | exc c=>rw [ef] at q;exact q
 | ok p=>
  obtain ⟨x,d,ρ1⟩:=p;rw [ef] at q;intro v H1 fps1 f1 k1 g1 rep1 o1 t1;dsimp only [Rz.bind] at q;cases x with
  | int i=>
   rw [Own] at o1;obtain ⟨rfl,_⟩:=o1;dsimp only at q;cases e:Bk l i with
   | none=>rw [e] at q;exact q.elim
   | some c=>
    rw [e] at q;exact ⟨i,c,rfl,e,q (.str c) H1 fps1 [] k1 g1 rep1 (by rw [Own];exact ⟨rfl,rfl⟩) ⟨λ _ z=>(nomatch z),λ _ z=>nomatch z⟩⟩
  | _=>exact q.elim
def qu {M:Fm}{es:List Expr}{l:List Str}{b:Expr}{f:Fx}{vs:List Nat}{lp pos:Pos} (he:FK es=some l) (hl:l.length<=100) (hb:PE X b (tE M f vs)) (hs:Kq b):PN X (.Subscript (.List es lp) b pos) (tE M (HC l f) vs):=by
 intro pins s σ H Q I h;refine Subscript_ (wpAny_List_spliced (zU he λ us k hu=>?_));have hz:l.length=us.length:=hu.len;have hsz:Au=16777216:=sizeLine_eq;refine ⟨by omega,?_⟩;have I1:Inv X pins σ H { s with heap:=s.heap.push { cls:=Value.type "list",data:=Data.seq us.toArray },toks:=k }:=I.kept λ b u e=>CL _ e;have I2:Inv X ((s.heap.objs.size,{ cls:=Value.type "list",data:=Data.seq us.toArray })::pins) σ H { s with heap:=s.heap.push { cls:=Value.type "list",data:=Data.seq us.toArray },toks:=k }:=I1.pins_of λ p hp=>by
  rcases jb2.mp hp with rfl | hp
  ·exact ⟨Ea _ rfl,I.fresh,λ z=>Ed _ (z ▸ I.lt),I.nofs (AS _),λ v z=>nomatch z⟩
  ·exact I1.pin p (Bj _ hp)
 refine A3 (hb _ _ σ H _ I2 (qP h)) λ u s2 ⟨y,H2,I3,ry,i,c,hy,hc,q⟩=>?_;subst hy;obtain ⟨t,rfl⟩:=ry;obtain ⟨j,h1,h2,h3,h4,h5⟩:=Mw hc;obtain ⟨t',ew,ht⟩:=hu.get j c h2;have hg:=(I3.pin _ (Bj _ Ba)).1;have pl:PlainL s2.heap s.heap.objs.size us.toArray:=⟨_,_,hg,rfl,rfl,rfl⟩
 have fin:∃ c' tk H',Value.str c t'=.str c' tk/\s.toks<=tk/\Inv X pins σ H' s2/\Q (.str c') H':=⟨c,t',H2,rfl,ht,I3.pins_of λ p hp=>I3.pin p (Bj _ (AU _ hp)),q⟩
 by_cases h0:0<=i
 ·have hj:i.toNat=j:=by
   rw [M1 h0 h5] at h1;exact Option.some.inj h1
  exact item_listR pl.isList h0 (by omega) (by rw [hj];simpa using ew) fin (hs _ _)
 ·have hj:(i + (us.toArray.size:Int)).toNat=j:=by
   rw [seqIndex_neg (by omega) h4] at h1;rw [Cb,<- hz];exact Option.some.inj h1
  exact Px (x:=.str c t') pl.isList.typeIs slot_list_getitem.lookup
   (wpAny_getItem_list_neg (Q:=λ r s'=>r=.str c t'/\∃ c' tk H',r=.str c' tk/\s.toks<=tk/\Inv X pins σ H' s'/\Q (.str c') H') pl.isList (by omega) (by rw [Cb] <;> omega) (by omega) (by rw [hj];simpa using ew) ⟨rfl,fin⟩) (hs _ _)
end
section
variable {X:Cx}{P:A7}{w:A6}{K:Frag}{mg:Str->Option Af}{base:Heap}{lvl:Nat}{S:Sx}{Wx:St->Nat->Hp->Prop}{M:Fm}{pins:List (Addr×Obj)}{σ:St}{H:Hp}{s:Aj}
def XS.at (xs:XS X P w K mg base lvl S Wx) {x:Str}{i:Nat}{pos:Pos}{v:V}{Q:Af->Aj->Prop} (h:S.slot x=some i) (I:Inv X pins σ H s) (e:σ[i]?=some (some v)) (q:∀ u,RelV v u->Q u s):As (Aq X.prog X.w) X.A (eval (.Name x pos) X.env) Q X.xe s:=by
 unfold Sx.slot at h;split at h
 ·rename_i hc;simp only [AF,Gy] at hc;have hN:X.N[i]?=some x:=by rw [xs.N];exact Jg h
  have hv:GB X.env.scope x:=by rw [xs.sc];exact Mv hc.1.1
  obtain ⟨m,hn,hl⟩:=I.loc;obtain ⟨u,r,l⟩:=hl i x v hN e hv;rcases l with ⟨hk,hm⟩ | ⟨hk,c,hc',hcell⟩
  ·exact Jw (wpAny_loadName_local I.ok.kind hk hn hm (q u r)) hc.1.2
  ·rcases hk with hk | hk
   ·exact Jw (wpAny_loadName_cell I.ok.kind hk hc' hcell (q u r)) hc.1.2
   ·exact Jw (wpAny_loadName_free I.ok.kind hk hc' hcell (q u r) hc.2) hc.1.2
 ·cases h
def CM (j:Nat) (old:Str) (g:Fx):Fx:=λ ρ=>match ρ[j]? with
 | some (some (.str z,_))=>(g ρ).bind λ (x,_,ρ1)=>match x with
  | .str c=>if (old == c)=false/\(old.length == 0)=false/\z.length + c.length<=1000000/\(rep1 z old c).length<=Au then .ok (.str (rep1 z old c),om,ρ1) else .no
  | _=>.no
 | _=>.no
theorem zw (xs:XS X P w K mg base lvl S Wx) {y old:Str}{py apos cpos p1 p3:Pos}{j1 j3:Nat}{new:Expr}{j:Nat}{g:Fx}{vs:List Nat}{Q:VK} (hy:S.slot y=some j) (hn:PN X new (tE M g vs)) (hs:Gi new=true) (hline:(apos.endLine == cpos.line)=true)
  (I:Inv X pins σ H s) (h0:0 < s.toks) (q:tE M (CM j old g) vs σ H Q):
  As (Aq X.prog X.w) X.A (eval (.Call (.Attribute (.Name y py) "replace" apos) [.Constant (.str old) j1 p1,new,.Constant (.int 1) j3 p3] [] cpos) X.env) (EP X pins σ Q) X.xe s:=by
 obtain ⟨ρ,fps,rep,q⟩:=q;unfold CM at q;cases e0:ρ[j]? with
 | none=>rw [e0] at q;exact q.elim
 | some sl=>
  cases sl with
  | none=>rw [e0] at q;exact q.elim
  | some p=>
   obtain ⟨x0,d0⟩:=p;cases x0 with
   | str z=>
    rw [e0] at q;obtain ⟨v,hv,o⟩:=rep.own j _ d0 e0;rw [Own] at o;obtain ⟨rfl,_⟩:=o;have hg:tE M g vs σ H λ v H'=>∃ c,v=.str c/\(old == c)=false/\(old.length == 0)=false/\z.length + c.length<=1000000/\(rep1 z old c).length<=Au/\Q (.str (rep1 z old c)) H':=by
     refine ⟨ρ,fps,rep,?_⟩;dsimp only at q;cases ef:g ρ with
     | no=>rw [ef] at q;exact q
     | exc c=>rw [ef] at q;exact q
     | ok p=>
      obtain ⟨x,d,ρ1⟩:=p;rw [ef] at q;intro v H1 fps1 f1 k1 g1 rep1' o1 t1;dsimp only [Rz.bind] at q;cases x with
      | str c=>
       rw [Own] at o1;obtain ⟨rfl,_⟩:=o1;dsimp only at q;by_cases hc:(old == c)=false/\(old.length == 0)=false/\z.length + c.length<=1000000/\(rep1 z old c).length<=Au
       ·rw [if_pos hc] at q;exact ⟨c,rfl,hc.1,hc.2.1,hc.2.2.1,hc.2.2.2,q _ H1 fps1 [] k1 g1 rep1' (by rw [Own];exact ⟨rfl,rfl⟩) ⟨λ _ z=>(nomatch z),λ _ z=>nomatch z⟩⟩
       ·rw [if_neg hc] at q;exact q.elim
      | _=>exact q.elim
    have st:A5 [.Constant (.str old) j1 p1,new,.Constant (.int 1) j3 p3] X.env=[(false,eval (.Constant (.str old) j1 p1) X.env),(false,eval new X.env),(false,eval (.Constant (.int 1) j3 p3) X.env)]:=by
     rw [Df (Dg rfl),Df (Dg hs),Df (Dg rfl)];rfl
    refine wpAny_Call_method_late rfl (by rw [st];rfl) hline rfl (xs.at hy I hv λ u ⟨t,eu⟩=>?_);subst eu;refine ⟨"str","str.replace",Pu,PySem.F.slot_str_replace,PySem.F.type_str_replace,HE s z t,λ _ e=>(nomatch e),?_⟩;rw [st];refine Calls.callWith_builtin rfl (Pn (KC (MA (k:=j1) (pos:=p1) ?_)));refine KC (A3 (hn pins _ σ H _ (I.tok _) hg) λ u s2 ⟨c,tk,H2,e1,e2,I2,c',ec,h1,h2,h3,h4,h5⟩=>?_);subst e1;cases ec;refine KC (Pm (k:=j3) (pos:=p3) (OZ ?_));have e3:s.toks + 1<=tk:=e2;exact zO (Fh h0) (Fh (Bm h0 (FX e3))) (BM e3) h1 h2 h3 h4 λ t' k=>⟨.str _,H2,I2.tok _,⟨t',rfl⟩,h5⟩
   | _=>rw [e0] at q;exact q.elim
def DC (i:Nat) (n:Int) (g:Fx):Fs:=λ ρ=>match ρ[i]? with
 | some (some (.int m,_))=>if m=n then An g ρ else .nx ρ
 | _=>.no
theorem YJ (xs:XS X P w K mg base lvl S Wx) {x y old:Str}{px pn py apos cpos p1 p3 pc pr pi:Pos}{j0 j1 j3:Nat}{n:Int}{new:Expr}{i j:Nat}{g:Fx}{vs:List Nat} (hx:S.slot x=some i) (hy:S.slot y=some j) (hn:PN X new (tE M g vs)) (hs:Gi new=true) (hline:(apos.endLine == cpos.line)=true) (hv:∀ i∈vs,M.Ms i=false):
  PS X (.If (.Compare (.Name x px) [.Eq] [.Constant (.int n) j0 pn] pc) [.Return (some (.Call (.Attribute (.Name y py) "replace" apos) [.Constant (.str old) j1 p1,new,.Constant (.int 1) j3 p3] [] cpos)) pr] [] pi) (tS M (DC i n (CM j old g))):=by
 intro pins s σ H D I h;obtain ⟨ρ,fps,rep,q⟩:=h;unfold DC at q;cases e0:ρ[i]? with
 | none=>rw [e0] at q;exact q.elim
 | some sl=>
  cases sl with
  | none=>rw [e0] at q;exact q.elim
  | some p=>
   obtain ⟨x0,d0⟩:=p;cases x0 with
   | int m=>
    rw [e0] at q;obtain ⟨v,hv1,o⟩:=rep.own i _ d0 e0;rw [Own] at o;obtain ⟨rfl,_⟩:=o;refine wpAny_If (wpAny_isTrue_Compare1 (xs.at hx I hv1 λ u ⟨t,eu⟩=>Pm (k:=j0) (pos:=pn) ?_) rfl);subst eu;refine eq_int (Gw ?_);dsimp only at q;have I1:=I.tok (s.toks + 1);by_cases hm:m=n
    ·rw [if_pos hm] at q;rw [if_pos (by simp [hm])];have h1:=UD (vs:=vs) hv (D:=D) (σ:=σ) (H:=H) (f:=CM j old g) ⟨ρ,fps,rep,q⟩;refine OY (wpAny_Return_some (A3 (zw xs hy hn hs hline I1 (Nat.succ_pos _) h1) λ v s1 ⟨x,H1,I1,r1,q1⟩=>?_));exact ⟨x,σ,H1,I1,r1,q1⟩
    ·rw [if_neg hm] at q;rw [if_neg (by simp [hm])];exact Ke (X:=X) OI (λ D σ H q=>QT q) pins _ σ H D I1 ⟨ρ,fps,rep,q⟩
   | _=>rw [e0] at q;exact q.elim
end
section
variable {M:Fm}{ρ ρ':Ag}{σ σ':St}{H H':Hp}{fps fps':AI}{F F':Addr->Prop}{P P':List (Nat×V)}
end
section
variable {X:Cx}{M:Fm}{ρ:Ag}{σ:St}{H:Hp}{fps:AI}
end
def Kh:Expr->Bool
 | .ListComp _ _ _ _=>true
 | .SetComp _ _ _ _=>true
 | .DictComp _ _ _ _ _=>true
 | _=>false
def X7:Expr->Bool
 | .Tuple _ _ _=>true
 | .List _ _=>true
 | _=>false
def Bi (d:Stmt->Option Fs):List Stmt->Option Fs
 | []=>some Al
 | [s]=>d s
 | s::r=>match d s,Bi d r with
  | some f,some g=>some (Ae f g)
  | _,_=>none
def DG (S:Sx) (x:Str):Bool:=Dv S.sc x .local || Dv S.sc x .cell
def GN (S:Sx) (i:Nat):Bool:=(decide (i≠0) || !S.msF 0) && !S.pn.contains i
def TY (iw:Iw) (asg:PV->Ag->Option Ag) (body:Fs):Fs:=match iw with
 | .rng en fa _=>CF en fa asg body
 | .seq f vs=>Fz f vs asg body
 | .vw v fa vs=>XM v fa vs asg body
def Kg (S:Sx):List Expr->Option (List Nat)
 | []=>some []
 | .Name x _::r=>match S.slot x,Kg S r with
  | some i,some is=>if DG S x=true/\GN S i=true/\S.msF i=false then some (i::is) else none
  | _,_=>none
 | _=>none
def LR (S:Sx) (x:Str):Option Nat:=match XN.findIdx? (·== x) with
 | some c=>if S.rz=true/\S.xc.contains c=true/\S.glob x=true then some c else none
 | none=>none
def Sx.nr (S:Sx):Sx:={ S with rz:=false }
def Lf:Nat->Sx->List Stmt->Option Fs
 | 0,_,_=>none
 | n + 1,S,sts=>match sts with
  | [.Expr (.Call (.Name x p) es [] p1) _]=>(match Bh 60 S (.Call (.Name x p) es [] p1) with
   | some (f,_)=>some (Dd f)
   | none=>none)
  | [.Assign [.Name x _] e _]=>(match S.slot x,Bh 60 S e with
   | some i,some (f,vs)=>if DG S x=true/\GN S i=true/\Kh e=false then some (Ai (S.msF i) i f vs) else none
   | _,_=>none)
  | [.If c a b _]=>(match Bh 60 S c,Lf n S a,Lf n S b with
   | some (f,_),some s,some t=>some (Ax (bT f) s t)
   | _,_,_=>none)
  | _=>none
def Gb (S:Sx):Expr->Option D2
 | .Dict [] [] _=>some (L6,[])
 | e=>Bh 60 S e
def T2 (S:Sx) (x at':Str) (apos:Pos) (e:Expr) (cpos:Pos):Option Fs:=if at' = "append" then (match S.slot x,Bh 60 S e with
   | some i,some (f,vs)=>if S.msF i=false/\(apos.endLine == cpos.line)=true then some (BW i f vs) else none
   | _,_=>none) else none
def T3 (S:Sx) (o:Expr) (at':Str) (apos:Pos) (e:Expr) (cpos:Pos):Option Fs:=match o with
 | .Subscript b i _=>(match DN b with
  | some x=>(match S.slot x,Bh 60 S i,Bh 60 S e with
   | some s,some (fi,_),some (f,_)=>if at' = "append" /\ S.msF s=false/\Je i=true/\(apos.endLine == cpos.line)=true then some (Qo s fi f) else none
   | _,_,_=>none)
  | none=>none)
 | _=>none
def L3 (S:Sx):Expr->Option Fs
 | .Call fn es [] p1=>(match fn with
  | .Attribute o at' apos=>(match DN o,es with
   | some x,[e]=>T2 S x at' apos e p1
   | none,[e]=>T3 S o at' apos e p1
   | _,_=>none)
  | .Name x p=>(match Bh 60 S (.Call (.Name x p) es [] p1) with
   | some (f,_)=>some (Dd f)
   | none=>none)
  | _=>none)
 | _=>none
def Q3:PV->Nat->PV->Nat->Option (PV×Nat)
 | .lst xs,d,.int i,_=>(Bk xs i).map λ z=>(z,if d=om then om else dv z)
 | _,_,_,_=>none
theorem OwnL.nthF {K:Frag}{H:Hp}{Z:Addr->Prop}{d:Nat}{x:PV}:∀ {xs:List PV}{ws:List V}{f:List Addr}{j:Nat},OwnL K H Z xs d ws f->xs[j]?=some x->∃ w fx,ws[j]?=some w/\Own K H Z x d w fx/\∀ a∈fx,a∈f
 | [],_,_,_,_,e=>by cases e
 | y::ys,ws,f,j,h,e=>by
  rw [OwnL] at h;obtain ⟨v,s,f1,f2,rfl,rfl,_,h1,h2⟩:=h;cases j with
  | zero=>cases e;exact ⟨v,f1,rfl,h1,λ a ha=>BC _ ha⟩
  | succ j=>
   obtain ⟨w,fx,e1,o,s'⟩:=h2.nthF (j:=j) (by simpa using e);exact ⟨w,fx,by simpa using e1,o,λ a ha=>Bj _ (s' a ha)⟩
def Lm:List (PV×Nat)->Bool
 | []=>true
 | p::r=>((p.2 == om) || JE p.1) && Lm r
def Q6 (xs:List (PV×Nat)):Option (PV×Nat):=if xs.length<=Au then some (.lst (xs.map (·.1)),if Lm xs then om else 1) else none
theorem Tmps.allF {K:Frag}{H:Hp}{Z:Addr->Prop}:∀ {xs:List (PV×Nat)}{ws:List V}{fp:List Addr},Tmps K H Z xs ws fp->Lm xs=true->OwnL K H Z (xs.map (·.1)) om ws fp
 | [],_,_,h,_=>by rw [HG,OwnL];exact h
 | (x,d)::xs,ws,fp,h,ha=>by
  obtain ⟨v,s,f1,f2,e1,e2,dj,h1,h2⟩:=h;unfold Lm at ha;rw [AF,Ee] at ha;rw [BA,OwnL];rcases ha.1 with e | e
  ·have e:d=om:=eq_of_beq e;subst e;exact ⟨v,s,f1,f2,e1,e2,dj,Own.full x v f1 h1,h2.allF ha.2⟩
  ·obtain ⟨rfl,o⟩:=Own.flatA (Z':=Z) (d':=om) e h1;exact ⟨v,s,[],f2,e1,e2,dj,o,h2.allF ha.2⟩
section
variable {X:Cx}{M:Fm}{a b:Expr}{es:List Expr}{fa:Fa}{f g:Fx}{vs vs':List Nat}{pos:Pos}
def qJ (h:PA X es (tL M fa vs)):PE X (.List es pos) (tE M (Am Q6 fa) vs):=by
 refine Bc (Ux h) λ σ H Q h=>LS (r:=λ xs H1 Q=>xs.length<=Au/\∀ p,H1 p=none->Q (.ref p) (Aw H1 p (.lst xs))) (λ xs z c ws H fps fp Q ho tm nz zd lf=>?_) h;unfold Q6 at ho;split at ho
 ·rename_i hl;refine ⟨by rw [tm.length];exact hl,λ q hq=>?_⟩;cases eo:Lm xs with
  | true=>rw [eo] at ho;cases ho;exact Od lf (tm.allF eo) hq
  | false=>rw [eo] at ho;cases ho;exact O2 lf (tm.cold λ a ha z=>nz a ha z.zf) hq
 ·cases ho
def qF (hv:∀ i∈vs,M.Ms i=false) (hs:Kq b) (ha:PE X a (tE M f vs)) (hb:PE X b (tE M g vs')):PE X (.Subscript a b pos) (tE M (Ab Q3 f g) (vs++vs')):=by
 refine Bc (Ng Ur ha hb hs) λ σ H Q h=>DL hv (λ x d y e z c v w H fps f1 f2 Q ho o1 o2 dj nz zd lf=>?_) h;unfold Q3 at ho;split at ho
 ·rename_i xs i;obtain ⟨z',ez,e2⟩:=ja5.mp ho;rw [Own] at o2;by_cases hd:d=om
  ·subst hd;rw [if_pos rfl] at e2;cases e2;obtain ⟨p,ws,fc,rfl,hp,rfl,nac,ol⟩:=o1.list (by decide:om≠0);rw [Lg] at ol;unfold Bk at ez;cases ej:Dq xs.length i with
   | none=>rw [ej] at ez;cases ez
   | some j=>
    rw [ej] at ez;obtain ⟨w',fz,e1,ow,sb⟩:=ol.nthF ez;refine .inl ⟨p,ws,i,w',rfl,o2.1,.inl (.inl hp),?_,lf w' H fz (λ _ _ h=>h) (Own.full _ _ _ ow) λ a ha=>.inl (BC _ (AU _ (sb a ha)))⟩;unfold Bk;rw [ol.length,ej];exact e1
  ·rw [if_neg hd] at e2;cases e2;obtain ⟨p,ws,rfl,hp,ol⟩:=(cold o1 λ a ha=>nz a (BC _ ha)).coldL;obtain ⟨w',e1,ow⟩:=O8 ol ez;exact .inl ⟨p,ws,i,w',rfl,o2.1,.inl (.inl hp),e1,Jj lf ow⟩
 ·cases ho
end
def Hm (S:Sx) (e:Expr):Option D2:=match e with
 | .Subscript (.List es _) b _=>(match Gp (Bh 60 S) es,Bh 60 S b with
  | some (fa,v),some (g,u)=>if Je b=true then some (Ab Q3 (Am Q6 fa) g,v++u) else none
  | _,_=>none)
 | e=>Bh 60 S e
def Ui (S:Sx) (t k e:Expr):Option Fs:=match t with
 | .Name x _=>(match S.slot x,Bh 60 S k,Hm S e with
  | some i,some (fk,_),some (f,_)=>if S.msF i=false/\Je k=true then some (E6 i fk f) else none
  | _,_,_=>none)
 | _=>none
def Ud (S:Sx) (t e:Expr):Option Fs:=match t with
 | .Tuple es k p=>(match Kg S es,Bh 60 S e with
   | some is,some (f,vs)=>if Kh e=false/\X7 e=false then some (Dm (Dt is) f vs) else none
   | _,_=>none)
 | .Name x _=>(match S.slot x,Gb S e with
   | some i,some (f,vs)=>if DG S x=true/\GN S i=true then some (Ai (S.msF i) i f vs) else none
   | _,_=>none)
 | .Subscript t k _=>Ui S t k e
 | _=>none
def OA (d:Stmt->Option Fs) (S:Sx) (body:List Stmt):Option Fs:=Bi d body
def Ue (d:Stmt->Option Fs) (S:Sx) (t it:Expr) (body:List Stmt):Option Fs:=match t with
 | .Name x p=>(match S.slot x,ET (Bh 60 S) S it,OA d S body with
    | some i,some iw,some b=>if DG S x=true/\GN S i=true/\S.msF i=false/\GW (.Name x p) iw=true then some (TY iw (Ao i) b) else none
    | _,_,_=>none)
 | .Tuple es k p=>(match Kg S es,ET (Bh 60 S) S it,OA d S body with
   | some is,some iw,some b=>some (TY iw (Dt is) b)
   | _,_,_=>none)
 | _=>none
def Uj (S:Sx) (e:Expr):Option Fs:=match DN e with
 | some x=>(match S.slot x with
   | some i=>if S.msF i=true then none else some (FA i)
   | none=>none)
 | none=>(match Bh 60 S e with
   | some (f,vs)=>some (An f)
   | none=>none)
def Yj (_:Sx) (_:Expr) (_:Operator) (_:Expr):Option Fs:=none
def Sx.bare (S:Sx):Sx:={ S with ms:=[] }
def IQ (S:Sx) (c:Expr):Option D2:=(Bh 60 S c).or (Bh 60 S.bare c)
def RX:Stmt->Option (Str×Expr)
 | .Assign ts e _=>(match ts with
  | [t]=>(DN t).map λ x=>(x,e)
  | _=>none)
 | _=>none
def Y0 {st:Stmt}{x:Str}{e:Expr} (h:RX st=some (x,e)):∃ px pa,st=.Assign [.Name x px] e pa:=by
 unfold RX at h;split at h
 ·split at h
  ·obtain ⟨y,hy,e2⟩:=ja5.mp h;cases e2;obtain ⟨px,rfl⟩:=EC hy;exact ⟨_,_,rfl⟩
  ·cases h
 ·cases h
def Nx (S:Sx) (n:Str) (j:Nat) (st:Stmt):Option Fs:=match RX st with
 | some (x,e)=>(match S.slot x,GK S n j 20 e with
  | some i,some (f,v)=>if DG S x=true/\GN S i=true/\S.msF i=false/\Kh e=false then some (Ai false i f v) else none
  | _,_=>none)
 | none=>none
def NK:Ie->Option (Str×Str×Stmt×List Stmt)
 | .ExceptHandler ty nm body _=>(match ty,nm,body with
  | some e,some n,b::bs=>(DN e).map λ y=>(y,n,b,bs)
  | _,_,_=>none)
def Yp {hh:Ie}{y n:Str}{b:Stmt}{bs:List Stmt} (h:NK hh=some (y,n,b,bs)):∃ np hpos,hh=.ExceptHandler (some (.Name y np)) (some n) (b::bs) hpos:=by
 unfold NK at h;split at h;split at h
 ·obtain ⟨y',hy,e2⟩:=ja5.mp h;cases e2;obtain ⟨np,rfl⟩:=EC hy;exact ⟨_,_,rfl⟩
 ·cases h
def Hk (S:Sx) (n:Str) (j:Nat):List Ie->Option (List (Nat×Fs))
 | []=>some []
 | h::r=>match NK h,Hk S n j r with
  | some (y,n',b,bs),some l=>(match XN.findIdx? (·== y),Bi (Nx S n j) (b::bs) with
   | some d,some f=>if n'=n/\S.xc.contains d=true/\S.glob y=true then some ((d,f)::l) else none
   | _,_=>none)
  | _,_=>none
def OB (S:Sx) (body:List Stmt) (hs:List Ie) (o fi:List Stmt):Option Fs:=match hs,o,fi with
 | h::r,[],[]=>(match NK h with
  | some (_,n,_,_)=>(match S.slot n,Lf 10 S.nr body with
   | some j,some b=>if Dv S.sc n .local=true/\GN S j=true/\S.msF j=false then (Hk S n j (h::r)).map λ l=>E7 l j S.ms b else none
   | _,_=>none)
  | none=>none)
 | _,_,_=>none
def JY (d:Stmt->Option Fs) (S:Sx):Stmt->Option Fs
 | .Raise (some (.Call (.Name x _) [.Constant (.str _) _ _] [] _)) none _=>match LR S x with
  | some c=>some (Dn c)
  | none=>some KP
 | .Raise _ _ _=>some KP
 | .Try body hs o fi _=>OB S body hs o fi
 | .Expr v _=>L3 S v
 | .Assign [t] e _=>Ud S t e
 | .If c a b _=>match IQ S c,Bi d a,Bi d b with
  | some (f,_),some s,some t=>some (Ax (bT f) s t)
  | _,_,_=>none
 | .For t it body [] _=>Ue d S t it body
 | .AugAssign t op e _=>Yj S t op e
 | .Return (some e) _=>Uj S e
 | _=>none
def Le:Nat->Sx->Stmt->Option Fs
 | 0,_,_=>none
 | n + 1,S,st=>some ((JY (Le n S) S st).getD KP)
section
variable {X:Cx}{P:A7}{w:A6}{K:Frag}{mg:Str->Option Af}{base:Heap}{lvl:Nat}{S:Sx}{Wx:St->Nat->Hp->Prop}{M:Fm}{f g:Fx}{vs vs':List Nat}{σ:St}{H:Hp}{Q:VK}
structure SM (X:Cx) (M:Fm) (K:Frag) (S:Sx) (Wx:St->Nat->Hp->Prop):Prop where
 ms:MS M K S Wx
 al:∀ i,M.al i=[]
 io:M.io≠none->S.msF 0=true
 pn:∀ p∈M.pn,p.1∈S.pn
 fn:∀ x,X.fn x=true
 nd:S.N.Nodup
 st:X.stack=X.env::X.outer
 fr:X.env.frame=some X.env.locals
def FE (P:A7) (w:A6) (K:Frag) (mg:Str->Option Af) (base:Heap) (lvl:Nat) (S:Sx) (st:Stmt) (f:Fs):Prop:=∀ {Wx} X M,XS X P w K mg base lvl S Wx->SM X M K S Wx->PS X st (tS M f)
theorem JV {d:Stmt->Option Fs} (hd:∀ st f,d st=some f->FE P w K mg base lvl S st f):∀ (sts:List Stmt) (f:Fs),Bi d sts=some f->∀ {Wx} X M,XS X P w K mg base lvl S Wx->SM X M K S Wx->DH X sts (tS M f)
 | [],f,h=>by cases h;exact λ X M xs sm=>Ke OI λ D σ H q=>QT q
 | [s],f,h=>λ X M xs sm=>Kf (hd s f h X M xs sm)
 | s::s'::r,f,h=>by
  unfold Bi at h;split at h
  ·rename_i f1 f2 h1 h2;cases h;exact λ X M xs sm=>Ke (VN (hd s f1 h1 X M xs sm) (JV hd (s'::r) f2 h2 X M xs sm)) λ D σ H q=>UE q
  ·cases h
def HN {x:Str}{i:Nat} (h:S.slot x=some i):S.N[i]?=some x:=by
 unfold Sx.slot at h;split at h
 ·exact Jg h
 ·cases h
def Jo {x:Str} (h:DG S x=true):Ej S.sc x:=by
 unfold DG at h;rw [Ee] at h;exact h.elim (λ h=>.inl (GG h)) λ h=>.inr (GG h)
def Hv {i:Nat} (h:GN S i=true) (sm:SM X M K S Wx):M.Fre i:=by
 unfold GN at h;rw [AF,Ee] at h;refine ⟨λ hio=>?_,λ p hp e=>?_⟩
 ·rcases h.1 with h | h
  ·simpa using h
  ·rw [sm.io hio] at h;cases h
 ·have z:=sm.pn p hp;rw [e] at z;have h2:=h.2;rw [List.contains_iff_mem.mpr z] at h2;cases h2
theorem OL {e:Expr}{t:Option Expr}{l:Nat}{env:Env} (h:Kh e=false):Ky e t l env=pure false:=by
 cases e with
 | ListComp _ _ _ _=>cases h
 | SetComp _ _ _ _=>cases h
 | DictComp _ _ _ _ _=>cases h
 | _=>rfl
theorem xT (GX:GX K mg S.xc) (G:GS P w K mg base lvl S.Γ) (Gm:Ek P w K mg base lvl S.Γm) (hS:∀ i,∀ j∈S.alF i,S.msF j=false) {n:Nat}{elt:Expr}{gs:List K4}{scope:AW}{pos:Pos} (h:Bh (n + 1) S (.ListComp elt gs scope pos)=some (f,vs)):
  ∃ tg ys asg it ifs iw t g vE,gs=[⟨tg,it,ifs,0⟩]/\CompParts P w K mg base lvl S scope tg ys asg it elt ifs iw t g vE/\f=Ld iw ys.length asg t g/\vs=iw.vs++vE.filter (λ i=>decide (i < S.N.length)):=by
 have hd:∀ e f vs,Bh n S e=some (f,vs)->AG P w K mg base lvl S e f vs:=λ e f vs h=>GP GX G Gm n S e f vs rfl rfl rfl hS h;replace h:GI (Bh n) S (.ListComp elt gs scope pos)=some (f,vs):=h
 match gs,h with
 | [],h=>simp [GI] at h
 | _::_::_,h=>simp [GI] at h
 | [⟨tg,it,ifs,a⟩],h=>
  by_cases ha:a=0
  ·subst ha;replace h:(match MF S.N.length tg,ET (Bh n S) S it with
    | some (xs,asg),some iw=>if Kr S scope xs iw.vs=true/\GW tg iw=true then (match Ny (Bh n (AJ S scope xs iw.vs)) ifs,Bh n (AJ S scope xs iw.vs) elt with
     | some t,some (g,vE)=>some (Ld iw xs.length asg t g,iw.vs++vE.filter (λ i=>decide (i < S.N.length)))
     | _,_=>none) else none
    | _,_=>none)=some (f,vs):=h
   split at h
   ·rename_i ys asg iw ht hi;split at h
    ·rename_i hc;split at h
     ·rename_i t g vE h1 h2;cases h;have ck:=Qx hc.1;have giw:=LV hd (Kt n S) G.1 hi;have hS2:∀ i,∀ j∈(AJ S scope ys iw.vs).alF i,(AJ S scope ys iw.vs).msF j=false:=λ i j hj=>by
       rw [Mo] at hj;show S.msF j=false;split at hj
       ·exact hS i j hj
       ·split at hj
        ·exact giw.1 j hj
        ·cases hj
      have hd2:∀ e f vs,Bh n (AJ S scope ys iw.vs) e=some (f,vs)->AG P w K mg base lvl (AJ S scope ys iw.vs) e f vs:=λ e f vs h=>GP GX G Gm n _ e f vs rfl rfl rfl hS2 h;exact ⟨tg,ys,asg,it,ifs,iw,t,g,vE,rfl,⟨ht,hc.2,ck,giw,hd2 _ _ _ h2,SN hd2 h1⟩,rfl,rfl⟩
     ·cases h
    ·cases h
   ·cases h
  ·simp [GI,ha] at h
def Ji (xs:XS X P w K mg base lvl S Wx):Ia (Aq X.prog X.w) X.A X.env X.xe:=xs.po
theorem Sw {es:List Expr}{is:List Nat} (h:Kg S es=some is) (xs:XS X P w K mg base lvl S Wx) (sm:SM X M K S Wx):JO X es (Jm is)/\(Ez es X.env).length=is.length/\(Ez es X.env).findIdx? (·.1)=none/\∀ i∈is,Bd M [] i:=by
 induction es generalizing is with
 | nil=>cases h;exact ⟨Vc,rfl,rfl,λ _ z=>nomatch z⟩
 | cons e es ih=>
  unfold Kg at h;split at h
  ·cases ‹_::_=[]›
  ·rename_i x px r heq;cases heq;split at h
   ·rename_i i js hi hr;split at h
    ·rename_i hc;cases h;obtain ⟨h1,h2,h3,h4⟩:=ih hr;have hN:X.N.Nodup:=by rw [xs.N];exact sm.nd
     have hi':X.N[i]?=some x:=by rw [xs.N];exact HN hi
     have hx:Ej X.env.scope x:=by rw [xs.sc];exact Jo hc.1
     refine ⟨VM (Kd hN hi' hx (.inl (sm.fn x))) h1 rfl,by rw [Ez,Cs,h2,Cs] <;> (intros;contradiction),?_,λ j hj=>?_⟩
     ·rw [Ez,Ru,h3] <;> first | rfl | (intros;contradiction)
     ·rcases jb2.mp hj with z | z
      ·rw [z];exact ⟨by rw [sm.ms.ms];exact hc.2.2,Hv hc.2.1 sm,sm.al i,sm.ms.als⟩
      ·exact h4 j z
    ·cases h
   ·cases h
  ·cases h
theorem Oz {x:Str}:∀ {l:List Str}{c:Nat},l.findIdx? (·== x)=some c->l[c]?=some x
 | [],c,h=>by simp at h
 | y::r,c,h=>by
  rw [Ru] at h;split at h
  ·rename_i e;cases h;rw [List.getElem?_cons_zero,eq_of_beq e]
  ·cases e:r.findIdx? (·== x) with
   | none=>rw [e] at h;cases h
   | some k=>
    rw [e] at h;cases h;rw [RD];exact Oz e
def jR {x:Str}{c:Nat} (h:LR S x=some c):S.rz=true/\c∈S.xc/\S.glob x=true/\XN[c]?=some x:=by
 unfold LR at h;split at h
 ·rename_i c' e;split at h
  ·rename_i hc;cases h;exact ⟨hc.1,by simpa using hc.2.1,hc.2.2,Oz e⟩
  ·cases h
 ·cases h
def zv {x m:Str}{c:Nat}{np cpos pos p:Pos}{j:Nat}{t:TS} (GX:GX K mg S.xc) (h:LR S x=some c) (xs:XS X P w K mg base lvl S Wx) (hW:M.W=Wx) (hq:∀ D σ H,t D σ H->M.W σ c H):PS X (.Raise (some (.Call (.Name x np) [.Constant (.str m) j p] [] cpos)) none pos) t:=by
 obtain ⟨h1,h2,h3,h4⟩:=jR h;obtain ⟨ht,_,hc⟩:=GX (λ z=>by rw [z] at h2;cases h2);have hlt:c < 50:=N6 (ja6.mp h4).1 (by decide);obtain ⟨x',C,e1,e2,e3,e4⟩:=(hc c h2).1 hlt;rw [h4] at e1;cases e1;refine CQ (zq (W:=Wx) (xs.rs h1).1 (by rw [xs.K];exact ht) xs.calm (by rw [xs.K];exact e2) (xs.gl h3) (by rw [xs.mg];exact e3) e4) λ D σ H q=>?_;rw [<- hW];exact hq D σ H q
theorem xS (GX:GX K mg S.xc) (G:GS P w K mg base lvl S.Γ) (Gm:Ek P w K mg base lvl S.Γm) (hS:∀ i,∀ j∈S.alF i,S.msF j=false):∀ (n:Nat) (sts:List Stmt) (f:Fs),Lf n S sts=some f->∀ {Wx} X M,XS X P w K mg base lvl S Wx->SM X M K S Wx->DH X sts (tR M f):=by
 have hd:∀ e f vs,Bh 60 S e=some (f,vs)->AG P w K mg base lvl S e f vs:=λ e f vs h=>GP GX G Gm 60 S e f vs rfl rfl rfl hS h;intro n;induction n with
 | zero=>intro sts f h;cases h
 | succ n ih=>
  intro sts f h;unfold Lf at h;split at h
  ·split at h
   ·rename_i f1 v1 he;cases h;intro Wx X M xs sm;exact Kf (CQ (Mg ((hd _ _ _ he).2.2 X M xs sm.ms).1 rfl) λ D σ H q=>qR q)
   ·cases h
  ·rename_i x px e pos;split at h
   ·rename_i i f1 v1 hi he;split at h
    ·rename_i hc;cases h;have g:=hd _ _ _ he;intro Wx X M xs sm;have hN:X.N.Nodup:=by rw [xs.N];exact sm.nd
     have hi':X.N[i]?=some x:=by rw [xs.N];exact HN hi
     have hx:Ej X.env.scope x:=by rw [xs.sc];exact Jo hc.1
     have mi:M.Ms i=S.msF i:=by rw [sm.ms.ms]
     exact Kf (CQ (Kk hN hi' hx (g.2.2 X M xs sm.ms).1 (OL hc.2.2) (.inl (sm.fn x))) λ D σ H q=>Zq sm.al (sm.ms.v g.1) mi (Hv hc.2.1 sm) q)
    ·cases h
   ·cases h
  ·split at h
   ·rename_i f1 v1 s t hc ha hb;cases h;intro Wx X M xs sm;exact Kf (CQ (TK ((hd _ _ _ hc).2.2 X M xs sm.ms).2 (ih _ _ ha X M xs sm) (ih _ _ hb X M xs sm)) λ D σ H q=>Yv q)
   ·cases h
  ·cases h
def Fm.bare (M:Fm):Fm:={ M with Ms:=λ _=>false,H₀:=λ _=>none,io:=none,pn:=[] }
def Rep.bare {ρ:Ag}{fps:AI} (r:Rep M ρ σ H fps):Rep M.bare ρ σ H fps where
 own:=r.own
 non:=r.non
 dj:=r.dj
 zo:=r.zo
 fr:=λ _ _ _ _=>rfl
 zd:=r.zd
 len:=r.len
 msf:=λ _ _ _ h=>nomatch h
 h0:=λ _ h=>absurd rfl h
 iov:=And.intro (λ _ h=>nomatch h) (λ _ h=>nomatch h)
theorem xl {fb:Fb}{Q:Bool->Hp->Prop} (hq:tT M fb σ H Q):tT M.bare fb σ H Q:=by
 obtain ⟨ρ,fps,rep,q⟩:=hq;refine ⟨ρ,fps,rep.bare,?_⟩;have gr:∀ H' fps',KD M.bare H fps H' fps'->∀ a o,H a=some o->H' a=some o:=λ H' fps' k a o h=>k.keep a o h λ ⟨_,z,_⟩=>nomatch z
 cases e:fb ρ with
 | ok p=>
  obtain ⟨b,ρ'⟩:=p;rw [e] at q;intro H' fps' k ag _;have e1:ρ'=ρ:=List.ext_getElem? λ i=>ag.1 i rfl;subst e1;exact q H' fps (KD.grow (gr H' fps' k)) Agr.refl (rep.grow (gr H' fps' k))
 | exc c=>
  rw [e] at q;intro H' fps' k;exact q H' fps (KD.grow (gr H' fps' k))
 | no=>rw [e] at q;exact q
theorem qy (GX:GX K mg S.xc) (G:GS P w K mg base lvl S.Γ) (Gm:Ek P w K mg base lvl S.Γm) (hS:∀ i,∀ j∈S.alF i,S.msF j=false) {c:Expr}{f:Fx}{vs:List Nat} (h:IQ S c=some (f,vs)) (xs:XS X P w K mg base lvl S Wx) (m:MS M K S Wx):PT X c (tT M (bT f)):=by
 unfold IQ at h;cases e:Bh 60 S c with
 | some p=>
  rw [e] at h;cases h;exact ((GP GX G Gm 60 S c f vs rfl rfl rfl hS e).2.2 X M xs m).2
 | none=>
  rw [e] at h;have h2:Bh 60 S.bare c=some (f,vs):=h;have gd:=(GP (S:=S) GX G Gm 60 S.bare c f vs rfl rfl rfl (λ _ _ _=>rfl) h2).2.2 X M.bare ⟨xs.prog,xs.w,xs.K,xs.mg,xs.base,xs.N,xs.sc,xs.calm,xs.room,xs.po,xs.ps,xs.rs⟩ ⟨m.K,rfl,m.al,λ _ _ _=>rfl,m.W,λ _ h=>nomatch h⟩;exact Kl gd.2 λ σ H Q q=>xl q
def Sl {d:Stmt->Option Fs}{body:List Stmt}{f:Fs} (hd:∀ e f vs,Bh 60 S e=some (f,vs)->AG P w K mg base lvl S e f vs) (ih:∀ st f,d st=some f->FE P w K mg base lvl S st f) (h:OA d S body=some f):∀ {Wx} X M,XS X P w K mg base lvl S Wx->SM X M K S Wx->DH X body (tS M f):=by
 exact JV ih _ _ h
def qw {e:Expr}{f:Fx}{vs:List Nat} (hd:∀ e f vs,Bh 60 S e=some (f,vs)->AG P w K mg base lvl S e f vs) (h:Hm S e=some (f,vs)):AG P w K mg base lvl S e f vs:=by
 unfold Hm at h;split at h
 ·split at h
  ·rename_i f1 v1 f2 v2 h1 h2;split at h
   ·rename_i hn;cases h;have g1:=Hu hd _ _ _ h1;have g2:=hd _ _ _ h2;exact Cj (EX g1.1 g2.1) rfl (λ _ _=>rfl) λ X M xs m=>qF (m.v g1.1) (JS hn) (qJ (g1.2.2 X M xs m)) (g2.2.2 X M xs m).1
   ·cases h
  ·cases h
 ·exact hd _ _ _ h
def Uo (GX:GX K mg S.xc) (hb:∀ x∈zza,mg x=none) {n:Str}{j:Nat} (hj:S.slot n=some j) (hmj:S.msF j=false) (xs:XS X P w K mg base lvl S Wx) (sm:SM X M K S Wx) {a:Addr}{st:Stmt}{f:Fs} (h:Nx S n j st=some f):PS (Cx.inh X (.ref a)) st (tS M f):=by
 unfold Nx at h;split at h
 ·rename_i x e he;obtain ⟨px,pa,rfl⟩:=Y0 he;split at h
  ·rename_i i f1 v1 hi h1;split at h
   ·rename_i hc;cases h;have g:=Mt (a:=a) GX hb hj xs (sm.ms.k xs) (sm.al j) _ _ _ _ h1;have hN:X.N.Nodup:=by rw [xs.N];exact sm.nd
    exact CQ (Kk (X:=Cx.inh X (.ref a)) hN (by show X.N[i]?=_;rw [xs.N];exact HN hi) (by show Ej X.env.scope x;rw [xs.sc];exact Jo hc.1) g.2 (OL hc.2.2.2) (.inl (sm.fn x))) λ D σ H q=>Km sm.al (λ i hi=>by rw [g.1 i hi,sm.ms.ms];exact hmj) (by rw [sm.ms.ms];exact hc.2.2.1) (Hv hc.2.1 sm) q
   ·cases h
  ·cases h
 ·cases h
theorem Um (GX:GX K mg S.xc) (hb:∀ x∈zza,mg x=none) {n:Str}{j:Nat} (hj:S.slot n=some j) (hmj:S.msF j=false) (xs:XS X P w K mg base lvl S Wx) (sm:SM X M K S Wx) {a:Addr}:∀ (sts:List Stmt) (f:Fs),Bi (Nx S n j) sts=some f->DH (Cx.inh X (.ref a)) sts (tS M f)
 | [],f,h=>by cases h;exact Ke OI λ D σ H q=>QT q
 | [s],f,h=>Kf (Uo GX hb hj hmj xs sm h)
 | s::s'::r,f,h=>by
  unfold Bi at h;split at h
  ·rename_i f1 f2 h1 h2;cases h;exact Ke (VN (Uo GX hb hj hmj xs sm h1) (Um GX hb hj hmj xs sm (s'::r) f2 h2)) λ D σ H q=>UE q
  ·cases h
theorem UO (GX:GX K mg S.xc) (hb:∀ x∈zza,mg x=none) {n:Str}{j:Nat} (hj:S.slot n=some j) (hmj:S.msF j=false) (xs:XS X P w K mg base lvl S Wx) (sm:SM X M K S Wx):∀ {hs:List Ie}{l:List (Nat×Fs)},Hk S n j hs=some l->∃ L:List Hh,hs=L.map (Hh.stm n)/\L.map (λ h:Hh=>(h.d,h.T))=l.map (λ p=>(p.1,tS M p.2))/\∀ h∈L,h.Ok X/\h.d∈S.xc
 | [],l,h=>by
  cases h;exact ⟨[],rfl,rfl,λ _ z=>nomatch z⟩
 | hh::r,l,h=>by
  unfold Hk at h;split at h
  ·rename_i y n' b bs l' e1 e2;split at h
   ·rename_i d f f1 f2;split at h
    ·rename_i hc;cases h;obtain ⟨rfl,hx,hy⟩:=hc;obtain ⟨L,g1,g2,g3⟩:=UO GX hb hj hmj xs sm e2;obtain ⟨np,hpos,rfl⟩:=Yp e1;have hdm:d∈S.xc:=by simpa using hx
     obtain ⟨ht,_,hcs⟩:=GX (λ z=>by rw [z] at hdm;cases hdm);obtain ⟨y',C,hx',hC,hmg,hdb⟩:=(hcs d hdm).1 (Q0 f1);have ey:y'=y:=by
      have:=Oz f1
      rw [hx'] at this;exact Option.some.inj this
     subst ey;refine ⟨⟨y',np,hpos,b,bs,d,C,tS M f⟩::L,by rw [BA,<- g1];rfl,by rw [BA,BA,g2],λ h hh=>?_⟩;rcases jb2.mp hh with e | hh
     ·rw [e];exact ⟨⟨by rw [xs.K];exact hC,xs.gl hy,by rw [xs.mg];exact hmg,hdb,λ a=>Um GX hb hj hmj xs sm _ _ f2⟩,hdm⟩
     ·exact g3 h hh
    ·cases h
   ·cases h
  ·cases h
def jZ (GX:GX K mg S.xc) (G:GS P w K mg base lvl S.Γ) (Gm:Ek P w K mg base lvl S.Γm) (hS:∀ i,∀ j∈S.alF i,S.msF j=false) {body:List Stmt}{hs:List Ie}{o fi:List Stmt}{pos:Pos}{f:Fs} (h:OB S body hs o fi=some f):FE P w K mg base lvl S (.Try body hs o fi pos) f:=by
 unfold OB at h;split at h
 ·rename_i h0 r;split at h
  ·rename_i y n b0 bs0 e0;split at h
   ·rename_i j b hj hbd;split at h
    ·rename_i hc;obtain ⟨l,hl,e2⟩:=ja5.mp h;cases e2;intro Wx X M xs sm;obtain ⟨L,e1,e2,e3⟩:=UO GX G.1 hj hc.2.2 xs sm hl;cases L with
     | nil=>cases e1
     | cons L0 L=>
      rw [BA] at e1;have ht:D7 K=true:=by
       have:=(e3 L0 Ba).2
       exact (GX (λ z=>by rw [z] at this;cases this)).1
      have nms:∀ i,M.Ms i=S.ms.contains i:=λ i=>by rw [sm.ms.ms];rfl
      have hN:X.N.Nodup:=by rw [xs.N];exact sm.nd
      have base:=qX (X:=X) (tb:=λ W'=>tR (M.want W') b) (body:=body) (n:=n) (pos:=pos) (h0:=L0) (hs:=L) (j:=j)
       (by rw [xs.K];exact ht) sm.st sm.fr hN (by rw [xs.N];exact HN hj) (by show X.env.scope.names.lookup n=_;rw [xs.sc];exact GG hc.1) sm.fn (λ h hh=>(e3 h hh).1) (λ pn' xe' W' hp ho=>?_)
      ·rw [<- e1] at base;refine CQ base λ D σ H q=>?_;have mk:=sm.ms.k xs;rw [<- mk,e2];exact qV sm.al nms (by rw [sm.ms.ms];exact hc.2.2) (Hv hc.2.1 sm) q
      ·refine xS (S:=S.nr) GX G Gm hS 10 body b hbd _ _ (Wx:=W') ⟨xs.prog,xs.w,xs.K,xs.mg,xs.base,xs.N,xs.sc,xs.calm,xs.room,ho,hp,λ z=>nomatch z⟩ ⟨⟨sm.ms.K,sm.ms.ms,sm.ms.al,sm.ms.als,rfl,sm.ms.pn⟩,sm.al,sm.io,sm.pn,sm.fn,sm.nd,sm.st,sm.fr⟩
    ·cases h
   ·cases h
  ·cases h
 ·cases h
def WZ (GX:GX K mg S.xc) (G:GS P w K mg base lvl S.Γ) (Gm:Ek P w K mg base lvl S.Γm) (hS:∀ i,∀ j∈S.alF i,S.msF j=false) {d:Stmt->Option Fs} (ih:∀ (st:Stmt) (f:Fs),d st=some f->FE P w K mg base lvl S st f):∀ (st:Stmt) (f:Fs),JY d S st=some f->FE P w K mg base lvl S st f:=by
 have hd:∀ e f vs,Bh 60 S e=some (f,vs)->AG P w K mg base lvl S e f vs:=λ e f vs h=>GP GX G Gm 60 S e f vs rfl rfl rfl hS h;have hdO:∀ e f vs,Hm S e=some (f,vs)->AG P w K mg base lvl S e f vs:=λ e f vs h=>qw hd h;have hdA:∀ e f vs,Gb S e=some (f,vs)->AG P w K mg base lvl S e f vs:=λ e f vs h=>by
  unfold Gb at h;split at h
  ·cases h;exact Cj (λ _ z=>nomatch z) rfl (λ _ _=>rfl) λ X M xs m=>Zc
  ·exact hd _ _ _ h
 intro st f h;have core:True->FE P w K mg base lvl S st f:=λ _=>by
  unfold JY at h;split at h
  ·rename_i x np m j p cpos pos;split at h
   ·rename_i c hc;cases h;intro Wx X M xs sm;exact zv GX hc xs sm.ms.W λ D σ H q=>Zu q
   ·cases h;intro Wx X M xs sm pins s σ H D I q;exact (Oy pins s σ H D I (Qs (t:=Nw) q))
  ·cases h;intro Wx X M xs sm pins s σ H D I q;exact (Oy pins s σ H D I (Qs (t:=Nw) q))
  ·exact λ {Wx}=>jZ GX G Gm hS h
  ·rename_i v pos;unfold L3 at h;split at h
   ·rename_i fn es cpos;split at h
    ·rename_i o at' apos;split at h
     ·rename_i x e hx;obtain ⟨px,rfl⟩:=EC hx;unfold T2 at h;split at h
      ·rename_i hat;subst hat;split at h
       ·rename_i i f1 v1 hi he;split at h
        ·rename_i hc;cases h;have g:=hd _ _ _ he;intro Wx X M xs sm;have hb:=Nf (X:=X) (cpos:=cpos) PySem.F.plainAttrs_list PySem.F.slot_list_append PySem.F.type_list_append Mi (xs.var (pos:=px) hi) (Eo (g.2.2 X M xs sm.ms).1 Gj (Df (Dg g.2.1))) rfl (LP g.2.1 X.env cpos) hc.2 (Df (Dg g.2.1)) rfl;refine CQ (Mg hb rfl) λ D σ H q=>?_
         have:=Zs (D:=D) sm.al (sm.ms.v g.1) (by rw [sm.ms.ms];exact hc.1) q
         rw [sm.ms.k xs] at this;exact this
        ·cases h
       ·cases h
      ·cases h
     ·rename_i e hx;unfold T3 at h;split at h
      ·rename_i b i pi;split at h
       ·rename_i x hb;obtain ⟨px,rfl⟩:=EC hb;split at h
        ·rename_i s fi vi f1 v1 hs hi he;split at h
         ·rename_i hc;obtain ⟨rfl,hm,hi2,hln⟩:=hc;cases h;have g:=hd _ _ _ he;intro Wx X M xs sm;have hb:=Nf (X:=X) (cpos:=cpos) PySem.F.plainAttrs_list PySem.F.slot_list_append PySem.F.type_list_append Mi (Ng (pos:=pi) zhl (xs.var (pos:=px) hs) ((hd _ _ _ hi).2.2 X M xs sm.ms).1 (JS hi2)) (Eo (g.2.2 X M xs sm.ms).1 Gj (Df (Dg g.2.1))) rfl (LP g.2.1 X.env cpos) hln (Df (Dg g.2.1)) rfl;refine CQ (Mg hb rfl) λ D σ H q=>?_
          have:=qS (D:=D) (vs:=v1) (vi:=vi) sm.al (by rw [sm.ms.ms];exact hm) q
          rw [sm.ms.k xs] at this;exact this
         ·cases h
        ·cases h
       ·cases h
      ·cases h
     ·cases h
    ·rename_i x p;split at h
     ·rename_i f1 v1 he;cases h;intro Wx X M xs sm;exact CQ (Mg ((hd _ _ _ he).2.2 X M xs sm.ms).1 rfl) λ D σ H q=>Vr q
     ·cases h
    ·cases h
   ·cases h
  ·rename_i t e pos;unfold Ud at h;split at h
   ·rename_i es k p;split at h
    ·rename_i is f1 v1 hs he;split at h
     ·rename_i hc;cases h;have g:=hd _ _ _ he;intro Wx X M xs sm;obtain ⟨h1,h2,h3,h4⟩:=Sw hs xs sm;have mk:M.K=X.K:=sm.ms.k xs;refine CQ (U6 (g.2.2 X M xs sm.ms).1 (QB xs.calm h1 h2 h3) ?_ ?_ ?_) λ D σ H q=>?_
      ·cases e <;> first | rfl | (cases hc.1)
      ·cases e <;> first | rfl | (cases hc.2)
      ·rfl
      ·have:=Zw sm.al (sm.ms.v g.1) (Qn h4) q
       rw [mk] at this;exact this
     ·cases h
    ·cases h
   ·rename_i x px;split at h
    ·rename_i i f1 v1 hi he;split at h
     ·rename_i hc;cases h;have g:=hdA _ _ _ he;intro Wx X M xs sm;have hN:X.N.Nodup:=by rw [xs.N];exact sm.nd
      have hi':X.N[i]?=some x:=by rw [xs.N];exact HN hi
      have hx:Ej X.env.scope x:=by rw [xs.sc];exact Jo hc.1
      have mi:M.Ms i=S.msF i:=by rw [sm.ms.ms]
      cases hcp:Kh e with
      | false=>exact CQ (Kk hN hi' hx (g.2.2 X M xs sm.ms).1 (OL hcp) (.inl (sm.fn x))) λ D σ H q=>Km sm.al (sm.ms.v g.1) mi (Hv hc.2 sm) q
      | true=>
       cases e with
       | ListComp elt gs scope cpos=>
        obtain ⟨tg,ys,asg,it,ifs,iw,t,g2,vE,rfl,cp,rfl,rfl⟩:=xT GX G Gm hS (show Bh 60 S _=_ from he);obtain ⟨wi,gg,h1,h2,h3,h4,h5,h6⟩:=Sj (pos:=cpos) cp xs sm.ms;refine U7 (jQ hN hi' hx (.inl (sm.fn x)) h2 xs.calm h1 h3 h4 h5 (Kv (n:=0) (f:=g2) (vs:=[]) cp.iwo.2.1)) λ D σ H hl q=>?_;exact h6 σ H _ (by rw [hl,xs.N]) (Km sm.al (sm.ms.v g.1) mi (Hv hc.2 sm) q)
       | SetComp _ _ _ _=>simp [Gb,Bh,GI] at he
       | DictComp _ _ _ _ _=>simp [Gb,Bh,GI] at he
       | _=>cases hcp
     ·cases h
    ·cases h
   ·rename_i t k ps;unfold Ui at h;split at h
    ·rename_i x px;split at h
     ·rename_i i fk vk f1 v1 hi hk he;split at h
      ·rename_i hc;cases h;have g:=hdO _ _ _ he;intro Wx X M xs sm;refine CQ (U6 (g.2.2 X M xs sm.ms).1 (YF (xs.var hi) ((hd _ _ _ hk).2.2 X M xs sm.ms).1 (PSet.or zR (Yu (by have:=xs.room.units;omega))) ?_) ?_ ?_ rfl) λ D σ H q=>qT sm.al (by rw [sm.ms.ms];exact hc.1) (sm.ms.v g.1) q
       ·intro v;cases k <;> first | rfl | (cases hc.2)
       ·cases e <;> rfl
       ·cases e <;> rfl
      ·cases h
     ·cases h
    ·cases h
   ·cases h
  ·split at h
   ·rename_i f1 v1 s t hc ha hb;cases h;intro Wx X M xs sm;exact CQ (TK (qy GX G Gm hS hc xs sm.ms) (JV ih _ _ ha X M xs sm) (JV ih _ _ hb X M xs sm)) λ D σ H q=>Yw q
   ·cases h
  ·rename_i t it body pos;unfold Ue at h;split at h
   ·rename_i x px;split at h
    ·rename_i i iw b hi hw hb;split at h
     ·rename_i hc;cases h;intro Wx X M xs sm;have hN:X.N.Nodup:=by rw [xs.N];exact sm.nd
      have hi':X.N[i]?=some x:=by rw [xs.N];exact HN hi
      have hx:Ej X.env.scope x:=by rw [xs.sc];exact Jo hc.1
      have giw:=LV hd (Kt 60 S) G.1 hw;have hbd:=Sl hd ih hb X M xs sm;have hg:DI M [] [i] (Es i) (Ao i):=Qz ⟨by rw [sm.ms.ms];exact hc.2.2.1,Hv hc.2.1 sm,sm.al i,sm.ms.als⟩;have hpg:PG X (.Name x px) (Es i):=Kd hN hi' hx (.inl (sm.fn x));have hpi:=giw.2.2 X M xs sm.ms (.Name x px);have hf:=Kv (n:=0) (env:=X.env) (f:=Aa 0) (vs:=[]) giw.2.1;cases iw with
      | rng en fa vs=>
       rcases hpi with ⟨rfl,hpi⟩ | ⟨rfl,hpi⟩
       ·exact CQ (Jq (Ji xs) xs.calm hpi hpg hbd hf) λ D σ H q=>Vs hg q
       ·exact CQ (Jq (Ji xs) xs.calm hpi hpg hbd hf) λ D σ H q=>Vt hg q
      | seq f vs=>exact CQ (Jq (Ji xs) xs.calm hpi hpg hbd hf) λ D σ H q=>Vu sm.al (sm.ms.v giw.1) hg q
      | vw v fa vs=>exact hpi.elim
     ·cases h
    ·cases h
   ·rename_i es k p;split at h
    ·rename_i is iw b hs hw hb;cases h;intro Wx X M xs sm;have giw:=LV hd (Kt 60 S) G.1 hw;have hbd:=Sl hd ih hb X M xs sm;obtain ⟨h1,h2,h3,h4⟩:=Sw hs xs sm;have mk:M.K=X.K:=sm.ms.k xs;have hg:=Qn (M:=M) (al:=[]) h4;have hpg:=QB (pos:=p) (k:=k) xs.calm h1 h2 h3;rw [<- mk] at hpg;have hpi:=giw.2.2 X M xs sm.ms (.Tuple es k p);have hf:=Kv (n:=0) (env:=X.env) (f:=Aa 0) (vs:=[]) giw.2.1;cases iw with
     | rng en fa vs=>
      rcases hpi with ⟨rfl,hpi⟩ | ⟨rfl,hpi⟩
      ·exact CQ (Jq (Ji xs) xs.calm hpi hpg hbd hf) λ D σ H q=>Vs hg q
      ·exact CQ (Jq (Ji xs) xs.calm hpi hpg hbd hf) λ D σ H q=>Vt hg q
     | seq f vs=>exact CQ (Jq (Ji xs) xs.calm hpi hpg hbd hf) λ D σ H q=>Vu sm.al (sm.ms.v giw.1) hg q
     | vw v fa vs=>exact hpi.elim
    ·cases h
   ·cases h
  ·rename_i t op e pos;cases h
  ·rename_i e pos;unfold Uj at h;split at h
   ·rename_i x hx;obtain ⟨px,rfl⟩:=EC hx;split at h
    ·rename_i i hi;split at h
     ·cases h
     ·rename_i hm;cases h;intro Wx X M xs sm;exact CQ (U8 (xs.var hi)) λ D σ H q=>qU sm.al (by rw [sm.ms.ms];simpa using hm) q
    ·cases h
   ·rename_i hx;split at h
    ·rename_i f1 v1 he;cases h;intro Wx X M xs sm;exact CQ (U8 ((hd _ _ _ he).2.2 X M xs sm.ms).1) λ D σ H q=>UD (sm.ms.v (hd _ _ _ he).1) q
    ·cases h
  ·cases h
 exact λ {Wx}=>core trivial
theorem xR (GX:GX K mg S.xc) (G:GS P w K mg base lvl S.Γ) (Gm:Ek P w K mg base lvl S.Γm) (hS:∀ i,∀ j∈S.alF i,S.msF j=false):∀ (n:Nat) (st:Stmt) (f:Fs),Le n S st=some f->FE P w K mg base lvl S st f:=by
 intro n;induction n with
 | zero=>intro st f h;cases h
 | succ n ih=>
  intro st f h;replace h:some ((JY (Le n S) S st).getD KP)=some f:=h;cases e0:JY (Le n S) S st with
  | none=>
   rw [e0] at h;cases h;intro Wx X M xs sm pins s σ H D I q;exact (Oy pins s σ H D I (Qs (t:=Nw) q))
  | some f'=>
   rw [e0] at h;cases h;exact λ {Wx}=>WZ GX G Gm hS ih _ _ e0
def RI:Expr->Option (Str×Int)
 | .Compare (.Name x _) [.Eq] [.Constant (.int n) _ _] _=>some (x,n)
 | _=>none
def Yn {e:Expr}{x:Str}{n:Int} (h:RI e=some (x,n)):∃ p1 p2 p3 k,e=.Compare (.Name x p1) [.Eq] [.Constant (.int n) k p2] p3:=by
 unfold RI at h;split at h
 ·cases h;exact ⟨_,_,_,_,rfl⟩
 ·cases h
def Iv:List Stmt->Option Expr
 | [.Return (some e) _]=>some e
 | _=>none
def xj {a:List Stmt}{e:Expr} (h:Iv a=some e):∃ p,a=[.Return (some e) p]:=by
 unfold Iv at h;split at h
 ·cases h;exact ⟨_,rfl⟩
 ·cases h
def Ll:Expr->Bool
 | .Constant (.int 1) _ _=>true
 | _=>false
def KI:Expr->Option Str
 | .Constant (.str x) _ _=>some x
 | _=>none
def Iy:Expr->Option (Str×Str×Expr)
 | .Call (.Attribute o nm ap) [a,b,c] [] cp=>match DN o,KI a with
  | some y,some z=>if nm = "replace" /\ Ll c=true/\(ap.endLine == cp.line)=true then some (y,z,b) else none
  | _,_=>none
 | _=>none
def xi {e b:Expr}{y z:Str} (h:Iy e=some (y,z,b)):∃ p1 ap cp k1 p2 k3 p3,e=.Call (.Attribute (.Name y p1) "replace" ap) [.Constant (.str z) k1 p2,b,.Constant (.int 1) k3 p3] [] cp/\(ap.endLine == cp.line)=true:=by
 unfold Iy at h;split at h
 ·rename_i o nm ap a b' c cp;split at h
  ·rename_i y' z' h1 h2;split at h
   ·rename_i hc;cases h;obtain ⟨p1,rfl⟩:=EC h1;obtain ⟨rfl,h3,h4⟩:=hc;unfold KI at h2;split at h2
    ·cases h2;unfold Ll at h3;split at h3
     ·exact ⟨_,_,_,_,_,_,_,rfl,h4⟩
     ·cases h3
    ·cases h2
   ·cases h
  ·cases h
 ·cases h
def IF (S:Sx):Expr->Option Fx
 | .Constant (.str x) _ _=>some (bC (.str x))
 | .Subscript (.List es _) b _=>match FK es,Bh 60 S b with
  | some l,some (f,_)=>if l.length<=100/\Je b=true then some (HC l f) else none
  | _,_=>none
 | _=>none
def qd (GX:GX K mg S.xc) (G:GS P w K mg base lvl S.Γ) (Gm:Ek P w K mg base lvl S.Γm) (hS:∀ i,∀ j∈S.alF i,S.msF j=false) {e:Expr}{g:Fx} (h:IF S e=some g):Gi e=true/\∃ vs,(∀ i∈vs,S.msF i=false)/\∀ {Wx} X M,XS X P w K mg base lvl S Wx->MS M K S Wx->PN X e (tE M g vs):=by
 unfold IF at h;split at h
 ·cases h;exact ⟨rfl,[],λ _ z=>(nomatch z),λ X M xs m pins s σ H Q I q=>YI pins s σ H Q I (HB (λ K H Z=>by rw [Own];exact ⟨rfl,rfl⟩) q)⟩
 ·rename_i es p b p2;split at h
  ·rename_i l f v h1 h2;split at h
   ·rename_i hc;cases h;have g:=GP GX G Gm 60 S b f v rfl rfl rfl hS h2;exact ⟨rfl,v,g.1,λ X M xs m=>qu h1 hc.1 (g.2.2 X M xs m).1 (JS hc.2)⟩
   ·cases h
  ·cases h
 ·cases h
def RG (S:Sx) (c:Expr) (a b:List Stmt):Option Fs:=match RI c,Iv a with
 | some (x,n),some e=>(match Iy e with
  | some (y,old,new)=>(match S.slot x,S.slot y,IF S new with
   | some i,some j,some g=>if b.isEmpty=true then some (DC i n (CM j old g)) else none
   | _,_,_=>none)
  | none=>none)
 | _,_=>none
def Yq (GX:GX K mg S.xc) (G:GS P w K mg base lvl S.Γ) (Gm:Ek P w K mg base lvl S.Γm) (hS:∀ i,∀ j∈S.alF i,S.msF j=false) {c:Expr}{a b:List Stmt}{f:Fs}{pos:Pos} (h:RG S c a b=some f):FE P w K mg base lvl S (.If c a b pos) f:=by
 unfold RG at h;split at h
 ·rename_i x n e h1 h2;split at h
  ·rename_i y old new h3;split at h
   ·rename_i i j g hi hj h4;split at h
    ·rename_i hb;cases h;obtain ⟨_,_,_,_,rfl⟩:=Yn h1;obtain ⟨_,rfl⟩:=xj h2;obtain ⟨_,_,_,_,_,_,_,rfl,hl⟩:=xi h3;obtain ⟨ns,vs,hv,hp⟩:=qd GX G Gm hS h4;cases b with
     | cons _ _=>cases hb
     | nil=>
      intro Wx X M xs sm;exact YJ xs hi hj (hp X M xs sm.ms) ns hl (sm.ms.v hv)
    ·cases h
   ·cases h
  ·cases h
 ·cases h
def nofr (sc:AW):Bool:=sc.names.all λ x=>!(x.2 == NameKind.free)
def RP:Expr->Option Str
 | .Call f _ _ _=>DN f
 | _=>none
def IV (S:Sx) (x:Str) (elt:Expr) (g:K4) (scope:AW):Option Fs:=match DN g.target,RP elt with
 | some y,some q=>(match S.slot x,Bh 59 S g.iter with
  | some i,some (f,vs)=>if ((S.rz=true/\nofr scope=true/\(S.Γ.lookup q).isSome=true)/\g.ifs.isEmpty=true/\g.is_async=0)/\Kr S scope [y] vs=true/\DG S x=true/\GN S i=true then (match Bh 59 (AJ S scope [y] vs) elt with
   | some (h,vE)=>some (Ai (S.msF i) i (HX f 1 (Ao S.N.length) By h) (vs++vE.filter (λ i=>decide (i < S.N.length))))
   | none=>none) else none
  | _,_=>none)
 | _,_=>none
def Z7 (GX:GX K mg S.xc) (G:GS P w K mg base lvl S.Γ) (Gm:Ek P w K mg base lvl S.Γm) (hS:∀ i,∀ j∈S.alF i,S.msF j=false) {x:Str}{elt:Expr}{g:K4}{scope:AW}{f:Fs}{px cpos spos:Pos} (h:IV S x elt g scope=some f):FE P w K mg base lvl S (.Assign [.Name x px] (.ListComp elt [g] scope cpos) spos) f:=by
 unfold IV at h;split at h
 ·rename_i y q hy hq;split at h
  ·rename_i i f1 v1 hi he;split at h
   ·rename_i hc;obtain ⟨⟨⟨hrz,hnf,_⟩,hif,has⟩,hck,hlo,hok⟩:=hc;split at h
    ·rename_i g2 vE hg2;cases h;obtain ⟨tg,it,ifs,a⟩:=g;obtain ⟨py,rfl⟩:=EC (show DN tg=some y from hy);cases ifs with
     | cons _ _=>cases hif
     | nil=>
     replace has:a=0:=has;subst has;have ge:AG P w K mg base lvl S it f1 v1:=GP GX G Gm 59 S it f1 v1 rfl rfl rfl hS he;have ck:=Qx hck;have hns:∀ a b c,it≠.Set a b c:=λ a b c e=>by
      have he':Bh 59 S it=some (f1,v1):=he;rw [e,Kt] at he';cases he'
     have giw:=VZ ge hns;have hS2:∀ i,∀ j∈(AJ S scope [y] v1).alF i,(AJ S scope [y] v1).msF j=false:=λ i j hj=>by
      rw [Mo] at hj;show S.msF j=false;split at hj
      ·exact hS i j hj
      ·split at hj
       ·exact ge.1 j hj
       ·cases hj
     have gel:AG P w K mg base lvl (AJ S scope [y] v1) elt g2 vE:=GP GX G Gm 59 (AJ S scope [y] v1) elt g2 vE rfl rfl rfl hS2 hg2;intro Wx X M xs sm;obtain ⟨_,ph,hst,L,hL⟩:=xs.rs hrz;have hN:X.N.Nodup:=by rw [xs.N];exact sm.nd
     have hi':X.N[i]?=some x:=by rw [xs.N];exact HN hi
     have hx:Ej X.env.scope x:=by rw [xs.sc];exact Jo hlo
     have mi:M.Ms i=S.msF i:=by rw [sm.ms.ms]
     have nofree:∀ x∈scope.names,x.2≠NameKind.free:=λ x hx e=>by
      have z:=jb4.mp hnf x hx;rw [e] at z;cases z
     have hix:(AJ S scope [y] v1).N[S.N.length]?=some y:=by
      show (GL _ 0 S.N++[y])[S.N.length]?=some y;rw [Gz (by rw [Hz];exact AS _),Hz];simp
     have hpg:∀ s2 H2 C fp pins xe',PG ((AE X s2 H2 scope C (AJ S scope [y] v1).N fp pins).wish xe') (.Name y py) (Es S.N.length):=λ s2 H2 C fp pins xe'=>by
      have e:((AE X s2 H2 scope C (AJ S scope [y] v1).N fp pins).wish xe').env.scope=E9 scope S.sc:=by
       show Ex scope X.env=_;rw [JT,xs.sc]
      refine Kd ck.nd hix ?_ ?_
      ·rw [e];rcases ck.loc y (by simp) with z | z
       ·exact .inl z
       ·exact .inr z.1
      ·rw [e];rcases ck.loc y (by simp) with z | z
       ·exact .inr z
       ·exact .inl (by show scope.names.contains (y,NameKind.cell)=true;simpa using z.2)
     refine U7 (Xe (W:=Wx) (tc:=λ W' σ H Q=>∃ M',MS M' K (AJ S scope [y] v1) W'/\tT M' By σ H Q) (te:=λ W' σ H Q=>∃ M',MS M' K (AJ S scope [y] v1) W'/\tE M' g2 vE σ H Q) hN hi' hx (.inl (sm.fn x)) (ck.comp xs) xs.calm (giw.2.2 X M xs sm.ms _) nofree hst hL ph hpg (λ s2 H2 C fp pins xe' W' pi s σ H Q I q=>Vy pi s σ H Q I (VT q)) (λ s2 H2 C fp pins xe' W' po ps pi s σ H Q I q=>?_) (Kv (n:=0) (f:=g2) (vs:=[]) hns)) λ D σ H hl q=>?_
     ·obtain ⟨M',m',q⟩:=q;exact (gel.2.2 ((AE X s2 H2 scope C (AJ S scope [y] v1).N fp pins).wish xe') M' ⟨xs.prog,xs.w,xs.K,xs.mg,xs.base,rfl,by show Ex scope X.env=_;rw [JT,xs.sc];rfl,xs.calm,xs.room,po,ps,λ z=>nomatch z⟩ m').1 pi s σ H Q I q
     ·have hP:∀ D,MS (M.compX D S.N.length v1 σ) K (AJ S scope [y] v1) (λ _=>Wx σ):=λ D=>by
       have m':=ck.ms' sm.ms ge.1 D;exact ⟨m'.K,m'.ms,m'.al,m'.als,by show (λ _ c H'=>M.W σ c H')=_;rw [sm.ms.W],m'.pn⟩
      have hvo:∀ i∈v1++vE.filter (λ i=>decide (i < S.N.length)),S.msF i=false:=EX ge.1 λ i hi=>gel.1 i (jf9.mp hi).1;refine zY (P:=λ M'=>MS M' K (AJ S scope [y] v1) λ _=>Wx σ) (is:=[S.N.length]) (by rw [hl,xs.N]) hP sm.ms.als (sm.ms.v ge.1) (λ i hi=>by rw [sm.ms.ms];exact gel.1 i hi) (λ i hi=>by rw [jc0.mp hi];exact AS _) (λ D=>Qz ⟨?_,⟨λ _=>by have:=ck.pos;omega,λ p hp=>by have:=sm.ms.pn p hp;omega⟩,if_neg (by omega),(hP D).als⟩) (λ i h1 h2=>Bj _ (jf9.mpr ⟨h1,by simpa using h2⟩)) (sm.ms.v hvo) (Km sm.al (sm.ms.v hvo) mi (Hv hok sm) q);show M.Ms S.N.length=false;rw [sm.ms.ms];unfold Sx.msF;cases e:S.ms.contains S.N.length with
      | false=>rfl
      | true=>exact absurd (ck.ms _ (by simpa using e)) (by omega)
    ·cases h
   ·cases h
  ·cases h
 ·cases h
def IW (S:Sx) (t e:Expr):Option Fs:=match e with
 | .ListComp elt gs scope _=>(match gs with
  | [g]=>(DN t).bind λ x=>IV S x elt g scope
  | _=>none)
 | _=>none
def Z6 (GX:GX K mg S.xc) (G:GS P w K mg base lvl S.Γ) (Gm:Ek P w K mg base lvl S.Γm) (hS:∀ i,∀ j∈S.alF i,S.msF j=false) {t e:Expr}{f:Fs}{pos:Pos} (h:IW S t e=some f):FE P w K mg base lvl S (.Assign [t] e pos) f:=by
 unfold IW at h;split at h
 ·split at h
  ·obtain ⟨x,e1,h⟩:=Option.bind_eq_some_iff.mp h;obtain ⟨px,rfl⟩:=EC e1;exact λ {Wx}=>Z7 GX G Gm hS h
  ·cases h
 ·cases h
def IS (S:Sx):Stmt->Option Fs
 | .If c a b _=>RG S c a b
 | .Assign ts e _=>(match ts with
  | [t]=>IW S t e
  | _=>none)
 | _=>none
def A9 (n:Nat) (S:Sx) (st:Stmt):Option Fs:=(IS S st).or (Le n S st)
theorem qx (GX:GX K mg S.xc) (G:GS P w K mg base lvl S.Γ) (Gm:Ek P w K mg base lvl S.Γm) (hS:∀ i,∀ j∈S.alF i,S.msF j=false) (n:Nat) (st:Stmt) (f:Fs) (h:A9 n S st=some f):FE P w K mg base lvl S st f:=by
 unfold A9 at h;cases eL:IS S st with
 | some f1=>
  rw [eL] at h;cases h;unfold IS at eL;split at eL
  ·exact λ {Wx}=>Yq GX G Gm hS eL
  ·split at eL
   ·exact λ {Wx}=>Z6 GX G Gm hS eL
   ·cases eL
  ·cases eL
 | none=>
  rw [eL,Option.none_or] at h;exact λ {Wx}=>xR GX G Gm hS n st f h
def DR:Bool->List PV->Ag
 | true,x::xr=>some (x,om)::xr.map λ x=>some (x,dv x)
 | _,xs=>xs.map λ x=>some (x,dv x)
def Hl (io:Bool) (y:PV) (d:Nat) (ρ:Ag):Rz (PV×Nat×PV):=match io with
 | false=>.ok (y,d,.non)
 | true=>match ρ[0]? with
  | some (some (z,_))=>.ok (y,d,z)
  | _=>.no
def A0 (io:Bool) (np k:Nat) (b:Fs):Fn:=λ xs=>if xs.length=np then (match b (DR io xs++AM k none) with
 | .rt y d ρ=>Hl io y d ρ
 | .nx ρ=>Hl io .non om ρ
 | .exc c=>.exc c
 | _=>.no) else .no
def DT {io:Bool}{np k:Nat}{b:Fs}:∀ xs,xs.length≠np->A0 io np k b xs=.no:=λ xs h=>by
 unfold A0;rw [if_neg h]
theorem Tj {io:Bool}{xs:List PV}{i:Nat}{x:PV}{d:Nat} (h:(DR io xs)[i]?=some (some (x,d))):xs[i]?=some x/\(d=dv x\/(io=true/\i=0/\d=om)):=by
 cases io with
 | false=>
  have h':(xs.map λ x=>(some (x,dv x):Slot))[i]?=some (some (x,d)):=h;rw [Ef] at h';cases e:xs[i]? with
  | none=>rw [e] at h';cases h'
  | some y=>rw [e] at h';cases h';exact ⟨rfl,.inl rfl⟩
 | true=>
  cases xs with
  | nil=>simp [DR] at h
  | cons y r=>
   cases i with
   | zero=>
    have h':some (some (y,om):Slot)=some (some (x,d)):=h;cases h';exact ⟨rfl,.inr ⟨rfl,rfl,rfl⟩⟩
   | succ i=>
    have h':(r.map λ x=>(some (x,dv x):Slot))[i]?=some (some (x,d)):=h;rw [Ef] at h';cases e:r[i]? with
    | none=>rw [e] at h';cases h'
    | some y'=>rw [e] at h';cases h';exact ⟨by simpa using e,.inl rfl⟩
def jS (io:Bool) (xs:List PV):(DR io xs).length=xs.length:=by
 cases io <;> cases xs <;> simp [DR]
def qz {x qual:Str}{st:Stmt}{f:Addr}{fd:CU}{N ps:List Str}{k:Nat}{sp:Sp} (F:Fun K x qual st f fd) (S:FnScope N ps (AD st)) (len:∀ vs H Q E,sp vs H Q E->vs.length=ps.length)
  (hbody:∀ (cdv:Af) (A:AZ) (outer:List Env) (s:Aj) (H:Hp) (vs:List V) (Q:VK) (E:XK),Room k (A.deeper (GU qual (AD st) s.heap.objs.size f cdv))->sp vs H Q E ->
   ∃ t,DH (Bx (AL P w K) P w K mg base N qual (AD st) f cdv A outer s H E) (Bp st) t/\t { nx:=λ _ H'=>Q .non H',rt:=Q } (L2.start N vs) H):FnOk P w K mg base (AL P w K) (k + 1) f fd ps sp:=by
 obtain ⟨oc,od,kV,doc,pm,an,cdv,ct,osl,rfl,lk,hcd⟩:=F.ex;exact X1 lk hcd S len λ A outer s H vs Q E hr hsp=>hbody cdv A outer s H vs Q E hr hsp
def Xy {x qual:Str}{st:Stmt}{fa:Addr}{fd:CU}{ps:List Str}{np k:Nat}{io:Bool}{b:Fs} (Fu:Fun K x qual st fa fd) (FS:FnScope S.N ps (AD st)) (hsc:S.sc=AD st) (hal:S.al=[]) (hnp:ps.length=np) (hk:S.N.length=np + k)
  (hms:∀ i∈S.ms,i < np->i=0/\io=true) (hio:io=true->S.msF 0=true/\0 < np) (GX:GX K mg S.xc) (G:GS P w K mg base lvl S.Γ) (Gm:Ek P w K mg base lvl S.Γm) (hb:Bi (A9 60 S) (Bp st)=some b):
  FnOk P w K mg base (AL P w K) (lvl + 1) fa fd ps (Br K io np (A0 io np k b)):=by
 have hS:∀ i,∀ j∈S.alF i,S.msF j=false:=λ i j hj=>by
  unfold Sx.alF at hj;rw [hal] at hj;simp at hj
 refine qz Fu FS (λ vs H Q E h=>h.1.trans hnp.symm) λ cdv A outer s H vs Q E hr h=>?_;obtain ⟨hl,xs,Zo,x0,v0,fp0,hZ,hz0,h1,h2,q⟩:=h;let M:Fm:={ K:=K,Ms:=S.msF,Zo:=Zo,H₀:=H,W:=WE E H,io:=if io=true then some v0 else none,al:=λ _=>[] }
 have hxs:XS (Bx (AL P w K) P w K mg base S.N qual (AD st) fa cdv A outer s H E) P w K mg base lvl S (WE E H):=⟨rfl,rfl,rfl,rfl,rfl,rfl,hsc.symm,rfl,hr,qk,ze,λ _=>⟨jE,z8,rfl,_,rfl⟩⟩
 have hsm:SM (Bx (AL P w K) P w K mg base S.N qual (AD st) fa cdv A outer s H E) M K S (WE E H):=by
  refine ⟨⟨rfl,rfl,λ i _=>?_,(λ i j hj=>nomatch hj),rfl,λ _ h=>nomatch h⟩,λ _=>rfl,λ h=>?_,(λ _ h=>nomatch h),λ _=>rfl,FS.nd,rfl,rfl⟩
  ·show []=S.al.getD i [];rw [hal];rfl
  ·have h':(if io=true then some v0 else none)≠none:=h;cases io with
   | true=>exact (hio rfl).1
   | false=>exact absurd rfl h'
 refine ⟨tS M b,JV (qx GX G Gm hS 60) _ _ hb _ M hxs hsm,DR io xs++AM k none,λ i=>if i=0 then fp0 else [],?_,?_⟩
 ·have hlen:xs.length=vs.length:=by
   cases io with
   | false=>exact (h1 rfl).2.length.symm
   | true=>obtain ⟨xr,wr,rfl,rfl,_,o⟩:=h2 rfl;rw [Cs,Cs,o.length]
  have each:∀ i y d,(DR io xs)[i]?=some (some (y,d))->∃ v,vs[i]?=some v/\Own K H (λ a=>Zo a\/a∈fp0) y d v (if i=0 then fp0 else []):=λ i y d e=>by
   obtain ⟨e1,e2⟩:=Tj e;cases io with
   | false=>
    obtain ⟨rfl,o⟩:=h1 rfl;obtain ⟨v,ev,ov⟩:=o.nth e1;rcases e2 with rfl | ⟨z,_⟩
    ·refine ⟨v,ev,?_⟩;rw [ite_self];exact ov.dv.weak λ a h=>h.elim id λ z=>nomatch z
    ·cases z
   | true=>
    obtain ⟨xr,wr,rfl,rfl,o0,o⟩:=h2 rfl;cases i with
    | zero=>
     simp [DR] at e;obtain ⟨rfl,rfl⟩:=e;exact ⟨v0,rfl,Own.full _ _ _ o0⟩
    | succ i=>
     obtain ⟨v,ev,ov⟩:=o.nth (j:=i) (by simpa using e1);rcases e2 with rfl | ⟨_,z,_⟩
     ·refine ⟨v,by simpa using ev,?_⟩;rw [if_neg (W4 i)];exact ov.dv
     ·cases z
  have inl:∀ i p,(DR io xs++AM k none)[i]?=some (some p)->(DR io xs)[i]?=some (some p):=λ i p e=>by
   by_cases hi:i < (DR io xs).length
   ·rw [Dw hi] at e;exact e
   ·rw [Gz (by omega),IJ] at e;split at e <;> cases e
  have domF:∀ a∈fp0,H a≠none:=λ a ha=>by
   cases io with
   | false=>rw [(h1 rfl).1] at ha;cases ha
   | true=>
    obtain ⟨xr,wr,rfl,rfl,o0,o⟩:=h2 rfl;obtain ⟨ys,e⟩:=Own.lsts _ _ _ _ o0 a ha;rw [e];simp
  refine ⟨λ i y d e=>?_,λ i h=>?_,λ i j hij a ha hb'=>?_,λ i a ha=>?_,λ i hi a ha=>?_,hZ,?_,λ i y d hi e=>?_,λ a h=>h,⟨λ v hv=>?_,λ _ h=>(nomatch h)⟩⟩
  ·obtain ⟨v,ev,ov⟩:=each i y d (inl i _ e);refine ⟨v,?_,ov.weak λ a h=>?_⟩
   ·unfold L2.start;rw [Dw (by rw [Bg];exact (ja6.mp ev).1),Ef,ev];rfl
   ·rcases h with h | ⟨j,_,h⟩
    ·exact .inl h
    ·by_cases ej:j=0
     ·simp only [if_pos ej] at h;exact .inr h
     ·simp only [if_neg ej] at h;cases h
  ·by_cases hi:i=0
   ·subst hi;rw [if_pos rfl];cases io with
    | false=>exact (h1 rfl).1
    | true=>
     obtain ⟨xr,wr,rfl,rfl,_,_⟩:=h2 rfl;exact absurd rfl (h (x0,om))
   ·rw [if_neg hi]
  ·by_cases e1:i=0
   ·by_cases e2:j=0
    ·exact hij (e1.trans e2.symm)
    ·rw [if_neg e2] at hb';cases hb'
   ·simp only [if_neg e1] at ha;cases ha
  ·by_cases e1:i=0
   ·simp only [if_pos e1] at ha;exact hz0 a ha
   ·simp only [if_neg e1] at ha;cases ha
  ·by_cases e1:i=0
   ·simp only [if_pos e1] at ha;cases io with
    | false=>rw [(h1 rfl).1] at ha;cases ha
    | true=>
     have:=(hio rfl).1
     have hi':S.msF i=false:=hi;rw [e1,this] at hi';cases hi'
   ·simp only [if_neg e1] at ha;cases ha
  ·unfold L2.start;rw [Cd,jS,II,Cd,Bg,II,hlen,hl,hk];omega
  ·have hm:i∈S.ms:=by
    have hi':S.msF i=true:=hi;unfold Sx.msF at hi';simpa using hi'
   obtain ⟨e1,e2⟩:=Tj (inl i _ e);have hlt:i < np:=by
    have:=(ja6.mp e1).1
    rw [hlen,hl] at this;exact this
   obtain ⟨rfl,rfl⟩:=hms i hm hlt;obtain ⟨xr,wr,rfl,rfl,_,_⟩:=h2 rfl;have e':=inl 0 _ e;simp [DR] at e';exact e'.2.symm
  ·have hv':(if io=true then some v0 else none)=some v:=hv;cases io with
   | false=>cases hv'
   | true=>
    cases hv';obtain ⟨xr,wr,rfl,rfl,_,_⟩:=h2 rfl;exact ⟨rfl,(hio rfl).1⟩
 ·unfold A0 at q;have hlen:xs.length=np:=by
   by_cases e:xs.length=np
   ·exact e
   ·rw [if_neg e] at q;exact q.elim
  rw [if_pos hlen] at q;have fin:∀ {y:PV}{d:Nat}{ρ':Ag}{v:V}{σ':St}{H':Hp}{fps':AI}{fp:List Addr},(match Hl io y d ρ' with
    | .ok (y,d,z0)=>∀ v H' fp fp0',CO (λ a=>a∈fp0) H H'->(∀ a,H a≠none->H' a≠none)->(∀ a∈fp0',a∈fp0\/H a=none)->(∀ a∈fp0',¬ Zo a)->(io=false->fp0'=[])->(io=true->Own K H' (λ _=>True) z0 om v0 fp0') ->
      Own K H' (λ a=>(Zo a\/a∈fp0')\/a∈fp) y d v fp->(∀ a∈fp,H a=none/\¬ (Zo a\/a∈fp0'))->Q v H'
    | .exc c=>∀ H',CO (λ a=>a∈fp0) H H'->(∀ a,H a≠none->H' a≠none)->E (.int (c:Int) 0) none H'
    | .no=>False)->KS M H (λ i=>if i=0 then fp0 else []) H' fps'->Rep M ρ' σ' H' fps'->Own M.K H' (λ a=>Zr M fps' a\/a∈fp) y d v fp->(∀ a∈fp,M.H₀ a=none/\¬ Zr M fps' a)->Q v H':=λ {y d ρ' v σ' H' fps' fp} q ks rp oy hf=>by
   have kp:CO (λ a=>a∈fp0) H H':=λ a o h n=>ks.keep a o h λ ⟨i,hi⟩=>by
    by_cases e:i=0
    ·simp only [if_pos e] at hi;exact n hi
    ·simp only [if_neg e] at hi;cases hi
   cases io with
   | false=>
    refine q v H' fp [] kp ks.dom (λ _ z=>(nomatch z)) (λ _ z=>(nomatch z)) (λ _=>rfl) (λ h=>(nomatch h)) (oy.weak λ a h=>?_) λ a ha=>⟨(hf a ha).1,λ z=>(hf a ha).2 ?_⟩
    ·rcases h with (h | h) | h
     ·exact .inl (.inl h)
     ·cases h
     ·exact .inr h
    ·rcases z with z | z
     ·exact .inl z
     ·cases z
   | true=>
    unfold Hl at q;cases e0:ρ'[0]? with
    | none=>dsimp only at q;rw [e0] at q;exact q.elim
    | some s0=>
     dsimp only at q;rw [e0] at q;cases s0 with
     | none=>exact q.elim
     | some p0=>
      obtain ⟨z,dz⟩:=p0;have hdz:=rp.msf 0 z dz (hio rfl).1 e0;subst hdz;obtain ⟨u,hu,ou⟩:=rp.own 0 z om e0;have hu0:=(rp.iov.1 v0 rfl).1;rw [hu] at hu0;cases hu0;refine q v H' fp (fps' 0) kp ks.dom (λ a ha=>?_) (λ a ha=>rp.zo 0 a ha) (λ h=>(nomatch h)) (λ _=>Own.full _ _ _ ou) (oy.weak λ a h=>?_) λ a ha=>⟨(hf a ha).1,λ z=>(hf a ha).2 ?_⟩
      ·rcases ks.sub 0 a ha with ⟨j,hj⟩ | z
       ·by_cases e:j=0
        ·simp only [if_pos e] at hj;exact .inl hj
        ·simp only [if_neg e] at hj;cases hj
       ·exact .inr z
      ·rcases h with (h | h) | h
       ·exact .inl (.inl h)
       ·exact .inl (.inr ⟨(λ z=>nomatch z),h⟩)
       ·exact .inr h
      ·rcases z with z | z
       ·exact .inl z
       ·exact .inr ⟨(λ z=>nomatch z),z⟩
  cases eb:b (DR io xs++AM k none) with
  | no=>rw [eb] at q;exact q
  | exc c=>
   rw [eb] at q;refine λ σ' H' fps' ks=>⟨q H' (λ a o h n=>ks.keep a o h λ ⟨i,hi⟩=>?_) ks.dom,ks.dom⟩
   by_cases e:i=0
   ·simp only [if_pos e] at hi;exact n hi
   ·simp only [if_neg e] at hi;cases hi
  | bk ρ=>rw [eb] at q;exact q.elim
  | ct ρ=>rw [eb] at q;exact q.elim
  | rt y d ρ'=>
   rw [eb] at q;exact λ v σ' H' fps' fp ks rp oy hf=>fin q ks rp oy hf
  | nx ρ'=>
   rw [eb] at q;exact λ σ' H' fps' ks rp=>fin (fp:=[]) q ks rp (by rw [Own];exact ⟨rfl,rfl⟩) λ _ z=>nomatch z
end
open PySem PySem.Spec PySem.W PySem.Calls PyProof.Rows L2
theorem Td {tb:String->Option Builtin}{p:A7}{w:A6}{n₀:Nat}{ann:Option Af}:∀ {n:Nat}{s r:SharedT}{t:Thread},Jf tb p w n₀ ann n s t=some r->topRun tb p w n₀ ann n s.abs t=some r.abs
 | 0,_,_,_,h=>by cases h
 | n + 1,s,r,t,h=>by
  unfold Jf at h;unfold topRun;cases e1:through t with
  | true=>rw [e1] at h;cases h;rfl
  | false=>
   rw [e1] at h;cases e2:stepOk n₀ ann t with
   | false=>rw [e2] at h;cases h
   | true=>
    rw [e2] at h;cases e3:stepT (denote tb) p w s t with
    | none=>rw [e3] at h;cases h
    | some z=>obtain ⟨s₂,t₂⟩:=z;rw [e3] at h;rw [stepT_spec e3];exact Td h
def xG (P:Params) (os:OsState):(bootS P os).abs=⟨DY P,#[],boot_drawn,boot_toks,os⟩:=by kernel_rfl
def ZD (P:Params):(DY P).isNs DM=true:=by kernel_rfl
def ZW {p q:A7}{loose:List Str}{Xt:Aj->Bool}{α:Type}{Yf:Aj->α}{Ya:A6->α}{N:Nat} (e:opening p=plainProg p.main.scope.names) (hN:Nat.ble 600 N=true) (f:∀ s,fenceModules? p s=some s)
  (run:∀ (w:A6) (os:OsState),(Jf treeTable p w (DY w.params).objs.size ((DY w.params).nsMap DM "__annotations__") N (bootS w.params os) (topStub p)).map (λ s=>OC p q loose Xt Yf (DY w.params) s.abs)=some (true,openGood q loose,Ya w)):
  LeftO p q loose Xt Yf Ya N:=λ w=>by
 obtain ⟨⟨h,gs,d,k,os⟩,e1,e2⟩:=ja5.mp (boot_open e hN f w);obtain ⟨rfl,rfl,rfl,rfl⟩:h=DY w.params/\gs=#[]/\d=boot_drawn/\k=boot_toks:=by simpa using e2
 obtain ⟨s,r1,r2⟩:=ja5.mp (run w os);have r:=Td r1;rw [xG] at r;have r3:(_=_)/\(_ ,_)=(_,_):=Prod.mk.inj r2;obtain ⟨l1,l23⟩:=r3;obtain ⟨l2,l3⟩:=Prod.mk.inj l23;have t:topFrom treeTable p w N ⟨DY w.params,#[],boot_drawn,boot_toks,os⟩=some s.abs:=by
  unfold topFrom;dsimp only;rw [ZD,r];show (match staticsOk (OV p.main.body) (DY w.params) s.abs.heap && namesBound p s.abs.heap && gensDone s.abs && laidKept (DY w.params) s.abs.heap with | true=>_ | false=>_)=_;rw [l1]
 unfold openEnds;rw [e1];show (topFrom treeTable p w N _).map _=_;rw [t];exact congrArg some (Prod.ext l2 l3)
theorem YU (h:Heap):(Ln h).In h:=by
 intro a o;unfold Ln;generalize Bw h.objs.size=l;induction l with
 | nil=>intro e;cases e
 | cons b l ih=>
  intro e;rw [NG] at e;cases g:h.get? b with
  | none=>rw [g] at e;exact ih e
  | some z=>
   rw [g] at e;dsimp only [Lq] at e;rw [EO] at e;split at e
   ·rename_i q;cases e;rw [beq_iff_eq.mp q];exact g
   ·exact ih e
def Yi {K:Frag}{x:Str}{st:Stmt} (e:O9 K x=some (Qy x st)):∃ (g:Addr) (fd:CU),nsIn K DM x=some (some (.ref g))/\Fun K x x st g fd:=by
 unfold O9 at e;split at e
 ·rename_i g hg;split at e
  ·rename_i oc od fd sl hl;cases fd;unfold Qy at e;simp only [Option.some.injEq,DefSeen.mk.injEq] at e;obtain ⟨rfl,rfl,rfl,rfl,rfl,rfl,rfl,rfl,rfl,hc⟩:=e;refine ⟨g,_,hg,Yo hl hc ?_⟩;unfold keepIn;dsimp only;rw [hl]
  ·cases e
 ·cases e
structure Given (ds:List (Str×Stmt)) (xc:List Nat) (K:Frag) (mg:Str->Option Af):Prop where
 df:∀ (i:Nat) (x:Str) (st:Stmt),ds[i]?=some (x,st)->∃ (g:Addr) (fd:CU),mg x=some (.ref g)/\Fun K x x st g fd
 bn:∀ x∈zza,mg x=none
 gx:GX K mg xc
theorem QH {α β:Type}{f g:α->β}:∀ {l:List α},l.map f=l.map g->∀ {i:Nat}{a:α},l[i]?=some a->f a=g a
 | [],_,_,_,h=>by cases h
 | b::l,e,0,a,h=>by
  cases h;exact (List.cons.inj e).1
 | b::l,e,i + 1,a,h=>QH (List.cons.inj e).2 h
def xW {ds:List (Str×Stmt)}{xc:List Nat}{K:Frag}{mg:Str->Option Af}{h:Heap} (X:K.In h) (G:h.Ns DM mg) (e:Kb ds xc K=Ki ds):Given ds xc K mg:=by
 obtain ⟨e1,e2⟩:=Prod.mk.inj e;obtain ⟨e2,e3⟩:=Prod.mk.inj e2;refine ⟨λ i x st hi=>?_,λ x hx=>?_,λ hne=>?_⟩
 ·obtain ⟨g,fd,a,b⟩:=Yi (QH e1 hi);exact ⟨g,fd,mg_of X G a,b⟩
 ·obtain ⟨i,hi⟩:=List.getElem?_of_mem hx;exact mg_none_of X G (QH e2 hi)
 ·have hm:xc.isEmpty=false:=by
   cases xc with
   | nil=>exact absurd rfl hne
   | cons _ _=>rfl
  rw [hm,IG,AF,AF] at e3;refine ⟨e3.1.1,e3.1.2,λ c hc=>?_⟩;have h0:=jb4.mp e3.2 c hc;refine ⟨λ hlt=>?_,λ hge=>?_⟩
  rotate_left
  ·rw [if_neg (Nat.not_lt.mpr hge)] at h0;split at h0
   ·rename_i x v hx;rw [AF] at h0;have h2:=h0.2;split at h2
    ·rename_i u hu;exact ⟨x,v,u,hx,h2,mg_of X G hu,by simpa using h0.1⟩
    ·cases h2
   ·cases h0
  rw [if_pos hlt] at h0;have h1:=h0;rw [AF] at h1;obtain ⟨C,hC⟩:=jk4.mp h1.1;have hC':=hC;unfold BR at hC';cases hx:XN[c]? with
  | none=>rw [hx] at hC';cases hC'
  | some x=>
   rw [hx] at hC';dsimp only at hC';have h2:=h1.2;rw [hx] at h2;dsimp only at h2;refine ⟨x,C,rfl,hC,?_,by simpa using h2⟩;split at hC'
   ·rename_i D hD;cases hC';exact mg_of X G hD
   ·cases hC'
def ZM {P:A7}{w:A6}{K:Frag}{outer:List Env}{H:Hp}{s:Aj}{e:Af}{s2:Aj} (z:AL P w K outer H s (λ _ _ _=>False) e s2):False:=by
 obtain ⟨_,_,_,_,_,_,_,_,_,_,_,_,_,_,_,_,_,_,z⟩:=z;exact z
def holds_by {l:OpenLaw}{q:A7}{loose:List Str}{d:DefRec}{N k n:Nat}{ds:List (Str×Stmt)}{xc:List Nat}{F:Fn}{x:Str} (said:l.wellSaid=true)
  (e:opening l.prog=plainProg l.prog.main.scope.names) (hN:Nat.ble 600 N=true) (f:∀ s,fenceModules? l.prog s=some s)
  (run:∀ (w:A6) (os:OsState),(Jf treeTable l.prog w (DY w.params).objs.size ((DY w.params).nsMap DM "__annotations__") N (bootS w.params os) (topStub l.prog)).map
   (λ s=>OC l.prog q loose (λ s=>xlAt q [] s && recOk (RowW.records l.row.toRowW) s) (λ s=>Kb ds xc (Ln s.heap)) (DY w.params) s.abs)=some (true,openGood q loose,Ki ds))
  (hdef:defOf q l.row.name=some (d,[])) (hp:l.row.prog.theDef l.row.name=some (d.params,d.body,d.scope)) (hk:kwWritten? d.params.kwonlyargs d.params.kw_defaults=some []) (hwr:(!l.row.writes || l.row.records.isEmpty)=true)
  (ok:(chainsOk q && opensWell l.row.prog && (frees l.row.toRowW && l.row.within.isEmpty))=true) (hb:l.row.prog.bare) (hw:l.row.toRowW.promised)
  (hn:l.most=some n) (hn2:n<=Au) (hdf:d.params.defaults=[]) (hr:Room k HZ)
  (law:∀ (K:Frag) (w:A6) (mg:Str->Option Af) (fa:Addr),Given ds xc K mg->mg d.name=some (.ref fa)->∃ fd:CU,(∀ (s:Aj) (u:Af),BindsTo s fd ⟨[u],[]⟩ [(x,u)]) /\
   ∀ base:Heap,FnOk l.prog w K mg base (AL l.prog w K) k fa fd [x] (Br K false 1 F))
  (yes:∀ (K:Frag) (H:Hp) (a:Addr) (ns:List Int),ns.length<=n->Hr H->Cf K H a (ns.map V.int)->Br K false 1 F [.ref a] H (λ v _=>v=.bl true) λ _ _ _=>False):l.Holds:=by
 refine holds_law said λ ws=>?_;refine holds_open (q:=q) (loose:=loose) (Xt:=λ s=>xlAt q [] s && recOk (RowW.records l.row.toRowW) s) (XP:=XL q []) (Yf:=λ s=>Kb ds xc (Ln s.heap)) (Ya:=λ _=>Ki ds) (YP:=λ _ h=>∃ K:Frag,K.In h/\Kb ds xc K=Ki ds) (N:=N)
  (ZW e hN f run) (λ _ s z=>⟨_,YU _,z⟩) (λ _ _ _ ⟨K,a,b⟩ kp=>⟨K,a.keeps kp,b⟩) (λ s e=>xl_of s (jl4.mp e).1) XL.keeps hdef hp hk (λ s e=>recFacts_of (jl4.mp e).2) hwr ws ok hb hw ?_
 refine Att.attach_call hn hdf λ w s₀ s₁ mg mb fa o pm cd doc a vs ns G Y ho hd hcd hmg hobj hints hlen hg=>?_;obtain ⟨K,KX,hf⟩:=Y;obtain ⟨fd,hbd,hF⟩:=law K w mg fa (xW KX G.T.g hf) hmg;exact zA KX G.T.g G.T.b G.T.builtins G.T.nolimit hg hobj hints (BH hlen hn2) hr (λ base _ _=>hF base) hbd (λ H hO hS=>yes K H a ns hlen hO hS) λ H e s'=>ZM
section
variable {P:A7}{w:A6}{K:Frag}{mg:Str->Option Af}{base:Heap}
def CY {us:List Af} (h:us.length=1):∃ a,us=[a]:=List.length_eq_one_iff.mp h
theorem BL {us:List Af} (h:us.length=2):∃ a b,us=[a,b]:=by
 cases us with
 | nil=>cases h
 | cons a r=>obtain ⟨b,rfl⟩:=CY (Nat.succ.inj h);exact ⟨a,b,rfl⟩
theorem Rf {us:List Af} (h:us.length=3):∃ a b c,us=[a,b,c]:=by
 cases us with
 | nil=>cases h
 | cons a r=>obtain ⟨b,c,rfl⟩:=BL (Nat.succ.inj h);exact ⟨a,b,c,rfl⟩
def Ca {lvl:Nat} (hb:∀ x∈zza,mg x=none):GS P w K mg base lvl []:=⟨hb,λ x io n F h=>by cases h⟩
def DK {lvl:Nat}{x qual:Str}{st:Stmt}{fa:Addr}{fd:CU}{ps:List Str}{io:Bool}{n:Nat}{F:Fn}{Γ:List (Str×(Bool×Nat×Fn))} (g:GS P w K mg base lvl Γ) (hx:(x == ("__debug__" : Str))=false) (hF:∀ xs,xs.length≠n->F xs=.no)
  (hm:mg x=some (.ref fa)) (Fu:Fun K x qual st fa fd) (hbd:zgw K fd ps []) (hn:ps.length=n) (ok:FnOk P w K mg base (AL P w K) lvl fa fd ps (Br K io n F)):GS P w K mg base lvl ((x,(io,n,F))::Γ):=by
 refine ⟨g.1,λ y io' n' F' h=>?_⟩;rw [EO] at h;split at h
 ·rename_i e;cases h
  have:y=x:=eq_of_beq e
  subst this;exact ⟨hx,hF,fa,fd,ps,hm,Fu.kp,hbd,hn,ok⟩
 ·exact g.2 y io' n' F' h
def qB {lvl:Nat}:Ek P w K mg base lvl []:=λ x F h=>by cases h
def DO {lvl j:Nat}{x qual:Str}{st:Stmt}{fa:Addr}{fd:CU}{ps:List Str}{io:Bool}{n:Nat}{F:Fn}{Γ:List (Str×(Bool×Nat×Fn))} (g:GS P w K mg base lvl Γ) (hm:mg x=some (.ref fa)) (Fu:Fun K x qual st fa fd) (hbd:zgw K fd ps []) (ok:FnOk P w K mg base (AL P w K) j fa fd ps (Br K io n F)) (hl:j<=lvl:=by decide) (hx:(x == ("__debug__" : Str))=false:=by decide +kernel) (hF:∀ xs,xs.length≠n->F xs=.no:=by exact DT) (hn:ps.length=n:=by rfl):GS P w K mg base lvl ((x,(io,n,F))::Γ):=DK g hx hF hm Fu hbd hn (ok.mono hl)
def Ce (S:Sx) {lvl:Nat}{x qual:Str}{st:Stmt}{fa:Addr}{fd:CU}{ps:List Str}{np k:Nat}{io:Bool}{b:Fs} (Fu:Fun K x qual st fa fd) (FS:FnScope S.N ps (AD st)) (gX:GX K mg S.xc) (G:GS P w K mg base lvl S.Γ) (hb:Bi (A9 60 S) (Bp st)=some b) (hsc:S.sc=AD st:=by rfl) (hal:S.al=[]:=by rfl) (hnp:ps.length=np:=by rfl) (hk:S.N.length=np + k:=by rfl) (hms:∀ i∈S.ms,i < np->i=0/\io=true:=by decide) (hio:io=true->S.msF 0=true/\0 < np:=by first | exact λ h=>Bool.noConfusion h | exact λ _=>⟨rfl,by decide⟩) (Gm:Ek P w K mg base lvl S.Γm:=by exact qB):FnOk P w K mg base (AL P w K) (lvl + 1) fa fd ps (Br K io np (A0 io np k b)):=Xy (S:=S) Fu FS hsc hal hnp hk hms hio gX G Gm hb
end
def sp_yes {K:Frag}{H:Hp}{a:Addr}{ns:List Int}{F:Fn} (hO:Hr H) (hS:Cf K H a (ns.map V.int)) (h:∃ d z,F [.scr ns]=.ok (.bl true,d,z)):Br K false 1 F [.ref a] H (λ v _=>v=.bl true) λ _ _ _=>False:=by
 refine ⟨rfl,[.scr ns],λ _=>False,.non,.non,[],λ _ z=>z.elim,λ _ z=>(nomatch z),λ _=>⟨rfl,?_⟩,(λ h=>nomatch h),?_⟩
 ·rw [OwnL];refine ⟨.ref a,[],[],[],rfl,rfl,λ _ z=>(nomatch z),?_,by rw [OwnL];exact ⟨rfl,rfl⟩⟩;rw [Own];refine ⟨rfl,a,rfl,?_⟩;rcases hS with (h | h) | h
  ·rcases hO a with z | ⟨ob,xs,z⟩
   ·rw [h] at z;cases z
   ·rw [h] at z;cases z
  ·exact .inl h
  ·exact .inr h
 ·obtain ⟨d,z,e⟩:=h;rw [e];intro v H' fp fp0' _ _ _ _ _ _ o _;rw [Own] at o;exact o.1
end QQ
namespace QV
open PySem PySem.Spec PyProof.Rows L2 QQ
def CG {op:PV->Nat->PV->Nat->Option (PV×Nat)}{f g:Fx}{ρ ρ1 ρ2:Ag}{x y z:PV}{d e c:Nat} (h1:f ρ=.ok (x,d,ρ1)) (h2:g ρ1=.ok (y,e,ρ2)) (h3:op x d y e=some (z,c)):Ab op f g ρ=.ok (z,c,ρ2):=by
 unfold Ab;rw [h1];dsimp only [Rz.bind];rw [h2];dsimp only;rw [h3]
def Yy {op:PV->Nat->Option (PV×Nat)}{f:Fx}{ρ ρ1:Ag}{x z:PV}{d c:Nat} (h1:f ρ=.ok (x,d,ρ1)) (h3:op x d=some (z,c)):Ap op f ρ=.ok (z,c,ρ1):=by
 unfold Ap;rw [h1];dsimp only [Rz.bind];rw [h3]
def De {f:Fx}{fa:Fa}{ρ ρ1 ρ2:Ag}{x:PV}{d:Nat}{xs:List (PV×Nat)} (h1:f ρ=.ok (x,d,ρ1)) (h2:fa ρ1=.ok (xs,ρ2)):Ad f fa ρ=.ok ((x,d)::xs,ρ2):=by
 unfold Ad;rw [h1];dsimp only [Rz.bind];rw [h2]
def Cw {f:Fx}{ρ ρ1:Ag}{x:PV}{d:Nat} (h1:f ρ=.ok (x,d,ρ1)):Ad f Ac ρ=.ok ([(x,d)],ρ1):=De h1 rfl
def Dy {op:List (PV×Nat)->Option (PV×Nat)}{fa:Fa}{ρ ρ1:Ag}{xs:List (PV×Nat)}{z:PV}{c:Nat} (h1:fa ρ=.ok (xs,ρ1)) (h2:op xs=some (z,c)):Am op fa ρ=.ok (z,c,ρ1):=by
 unfold Am;rw [h1];dsimp only [Rz.bind];rw [h2]
def BD {F:Fn}{fa:Fa}{ρ ρ1:Ag}{xs:List (PV×Nat)}{y z:PV}{d:Nat} (h1:fa ρ=.ok (xs,ρ1)) (h2:F (xs.map (·.1))=.ok (y,d,z)):A8 F fa ρ=.ok (y,d,ρ1):=by
 unfold A8;rw [h1];dsimp only [Rz.bind];rw [h2]
def CT {f:Fx}{ρ ρ1:Ag}{x:PV}{d:Nat} (h:f ρ=.ok (x,d,ρ1)):An f ρ=.rt x d ρ1:=by
 unfold An;rw [h]
def LW {f:Fx}{ρ ρ1:Ag}{x:PV}{d:Nat} (h:f ρ=.ok (x,d,ρ1)):Dd f ρ=.nx ρ1:=by
 unfold Dd;rw [h]
def AB {i:Nat}{f:Fx}{vs:List Nat}{ρ ρ1 ρ2:Ag}{x:PV}{d:Nat} (h:f ρ=.ok (x,d,ρ1)) (hc:i < ρ1.length) (e:(CI d vs ρ1).set i (some (x,d))=ρ2):Ai false i f vs ρ=.nx ρ2:=by
 unfold Ai;rw [h];dsimp only;rw [if_pos ⟨hc,λ h=>nomatch h⟩,e]
def U5 {asg:PV->Ag->Option Ag}{f:Fx}{vs:List Nat}{ρ ρ1 ρ2:Ag}{x:PV}{d:Nat} (h:f ρ=.ok (x,d,ρ1)) (e:asg x (CI d vs ρ1)=some ρ2):Dm asg f vs ρ=.nx ρ2:=by
 unfold Dm;rw [h];dsimp only;rw [e]
def Qv {i:Nat}{f:Fx}{vs:List Nat}{ρ ρ1 ρ2:Ag}{y:PV}{e:Nat}{xs:List PV}{d0 d:Nat}{xs0:List PV} (h0:ρ[i]?=some (some (.lst xs0,d0 + 1))) (h:f ρ=.ok (y,e,ρ1)) (h1:(CI e vs ρ1)[i]?=some (some (.lst xs,d))) (hd:d≠0) (hl:xs.length < Au)
  (e2:(CI e vs ρ1).set i (some (.lst (xs++[y]),if d=om/\e=om then om else 1))=ρ2):BW i f vs ρ=.nx ρ2:=by
 unfold BW;rw [h0];dsimp only;rw [h];dsimp only;rw [h1];dsimp only;rw [if_pos ⟨hd,hl⟩,e2]
def A2 {f g:Fs}{ρ ρ1:Ag} (h:f ρ=.nx ρ1):Ae f g ρ=g ρ1:=by
 unfold Ae;rw [h]
def T8 {c:Fb}{f g:Fs}{ρ ρ1:Ag}{b:Bool} (hc:c ρ=.ok (b,ρ1)):Ax c f g ρ=if b=true then f ρ1 else g ρ1:=by
 unfold Ax;rw [hc]
def A4 {c:Fb}{f g:Fs}{ρ ρ1:Ag} (hc:c ρ=.ok (true,ρ1)):Ax c f g ρ=f ρ1:=by rw [T8 hc];rfl
def AK {c:Fb}{f g:Fs}{ρ ρ1:Ag} (hc:c ρ=.ok (false,ρ1)):Ax c f g ρ=g ρ1:=by rw [T8 hc];rfl
def DW {c:Fb}{f g:Fs}{ρ ρ1:Ag} (hc:c ρ=.ok (false,ρ1)):Ae (Ax c f Al) g ρ=g ρ1:=A2 (by rw [AK hc];rfl)
def CJ {f g:Fs}{ρ ρ1:Ag}{x:PV}{d:Nat} (h:f ρ=.rt x d ρ1):Ae f g ρ=.rt x d ρ1:=by
 unfold Ae;rw [h]
def Av {f:Fx}{ρ ρ1:Ag}{b:Bool}{d:Nat} (h:f ρ=.ok (.bl b,d,ρ1)):bT f ρ=.ok (b,ρ1):=by
 unfold bT;rw [h];rfl
def E3 {f:Fx}{ρ ρ1:Ag}{b:Bool}{d:Nat} (h:f ρ=.ok (.bl b,d,ρ1)):Ap AQ f ρ=.ok (.bl (!b),om,ρ1):=Yy h rfl
theorem DJ {f g:Fx}{ρ ρ1:Ag}{a b:Bool}{d:Nat} (h:f ρ=.ok (.bl a,d,ρ1)) (h2:a=true->g ρ1=.ok (.bl b,om,ρ1)) (hd:d=om):Bb f g ρ=.ok (.bl (a && b),om,ρ1):=by
 subst hd;unfold Bb;rw [h];cases a with
 | false=>rfl
 | true=>exact h2 rfl
theorem Et {f g:Fx}{ρ ρ1:Ag}{a b:Bool}{d:Nat} (h:f ρ=.ok (.bl a,d,ρ1)) (h2:a=false->g ρ1=.ok (.bl b,om,ρ1)) (hd:d=om):Ay f g ρ=.ok (.bl (a || b),om,ρ1):=by
 subst hd;unfold Ay;rw [h];cases a with
 | true=>rfl
 | false=>exact h2 rfl
def HS {f g:Fx}{ρ ρ1 ρ2:Ag}{i j:Int}{d e:Nat} (h1:f ρ=.ok (.int i,d,ρ1)) (h2:g ρ1=.ok (.int j,e,ρ2)) (h:(-(2 ^ 64) < i/\i < 2 ^ 64)\/(-(2 ^ 64) < j/\j < 2 ^ 64)):Ab Co f g ρ=.ok (.int (i * j),om,ρ2):=by
 refine CG h1 h2 ?_;show (if FQ i j=true then _ else _)=_;rw [if_pos];unfold FQ;rcases h with h | h
 ·rw [decide_eq_true h.1,decide_eq_true h.2];rfl
 ·rw [decide_eq_true h.1,decide_eq_true h.2];simp
def Cg {f g:Fx}{ρ ρ1 ρ2:Ag}{i j:Int}{d e:Nat} (h1:f ρ=.ok (.int i,d,ρ1)) (h2:g ρ1=.ok (.int j,e,ρ2)) (h:0 < j):Ab Az f g ρ=.ok (.int (i % j),om,ρ2):=by
 refine CG h1 h2 ?_;show (if Hb i j=true then _ else _)=_;rw [if_pos];exact decide_eq_true h
def Nz {f g:Fx}{ρ ρ1 ρ2:Ag}{i j:Int}{d e:Nat} (h1:f ρ=.ok (.int i,d,ρ1)) (h2:g ρ1=.ok (.int j,e,ρ2)) (h:0 < j) (h':j < 2 ^ 128):Ab EY f g ρ=.ok (.int (i / j),om,ρ2):=by
 refine CG h1 h2 ?_;show (if FT i j=true then _ else _)=_;rw [if_pos];unfold FT;rw [decide_eq_true h,decide_eq_true h'];rfl
def DP {f g:Fx}{ρ ρ1 ρ2:Ag}{i j:Int}{d e:Nat} (h1:f ρ=.ok (.int i,d,ρ1)) (h2:g ρ1=.ok (.int j,e,ρ2)):Ab A1 f g ρ=.ok (.int (i + j),om,ρ2):=CG h1 h2 rfl
def Js {f g:Fx}{ρ ρ1 ρ2:Ag}{i j:Int}{d e:Nat} (h1:f ρ=.ok (.int i,d,ρ1)) (h2:g ρ1=.ok (.int j,e,ρ2)):Ab CD f g ρ=.ok (.int (i - j),om,ρ2):=CG h1 h2 rfl
def Hy {p:Int->Int->Bool}{f g:Fx}{ρ ρ1 ρ2:Ag}{i j:Int}{d e:Nat} (h1:f ρ=.ok (.int i,d,ρ1)) (h2:g ρ1=.ok (.int j,e,ρ2)):Ab (Be p) f g ρ=.ok (.bl (p i j),om,ρ2):=CG h1 h2 rfl
def OO {p q:Int->Int->Bool}{f g h:Fx}{ρ:Ag}{i j k:Int}{d e c:Nat} (h1:f ρ=.ok (.int i,d,ρ)) (h2:g ρ=.ok (.int j,e,ρ)) (h3:h ρ=.ok (.int k,c,ρ)):Gn p q f g h ρ=.ok (.bl (p i j && q j k),om,ρ):=by
 unfold Gn;rw [h1];dsimp only [Rz.bind];rw [h2];dsimp only;by_cases hp:p i j=true
 ·rw [if_pos hp,h3,hp];rfl
 ·rw [if_neg hp]
  have:p i j=false:=by simpa using hp
  rw [this];rfl
def kz {neg:Bool}{i j:Int}{d e:Nat}:Ak neg (.int i) d (.int j) e=some (.bl (neg^^decide (i=j)),om):=by
 show some (PV.bl (neg^^EH (.int i) (.int j)),om)=_
 have:EH (.int i) (.int j)=decide (i=j):=by
  show (i == j)=_;rfl
 rw [this]
def Dk {neg:Bool}{f g:Fx}{ρ ρ1 ρ2:Ag}{i j:Int}{d e:Nat} (h1:f ρ=.ok (.int i,d,ρ1)) (h2:g ρ1=.ok (.int j,e,ρ2)):Ab (Ak neg) f g ρ=.ok (.bl (neg^^decide (i=j)),om,ρ2):=CG h1 h2 kz
def il (xs:List Int):PV:=.lst (xs.map .int)
def tb (t:List (List Int)):PV:=.lst (t.map il)
abbrev bx (a b c:Int):PV:=.tup [.int a,.int b,.int c]
def CK {α:Type}{xs:List α}{k:Int}{x:α} (h0:0<=k) (h:xs[k.toNat]?=some x):Bk xs k=some x:=by
 have hl:=(ja6.mp h).1;unfold Bk Dq;rw [if_pos h0,if_pos (by omega)];exact h
def EB {f g:Fx}{ρ ρ1 ρ2:Ag}{xs:List Int}{k x:Int}{d e:Nat} (h1:f ρ=.ok (il xs,d,ρ1)) (h2:g ρ1=.ok (.int k,e,ρ2)) (h:Bk xs k=some x):Ab Ah f g ρ=.ok (.int x,om,ρ2):=by
 refine CG h1 h2 ?_;show (Bk (xs.map PV.int) k).map _=_
 have:Bk (xs.map PV.int) k=some (.int x):=by
  unfold Bk at h ⊢;rw [Bg];cases e:Dq xs.length k with
  | none=>rw [e] at h;cases h
  | some j=>
   rw [e] at h;have h':xs[j]?=some x:=h;show (xs.map PV.int)[j]?=_;rw [Ef,h'];rfl
 rw [this];rfl
def N1 {f g:Fx}{ρ ρ1 ρ2:Ag}{t:List (List Int)}{k:Int}{r:List Int}{d e:Nat} (h1:f ρ=.ok (tb t,d,ρ1)) (h2:g ρ1=.ok (.int k,e,ρ2)) (h:Bk t k=some r):Ab Ah f g ρ=.ok (il r,0,ρ2):=by
 refine CG h1 h2 ?_;show (Bk (t.map il) k).map _=_
 have:Bk (t.map il) k=some (il r):=by
  unfold Bk at h ⊢;rw [Bg];cases e:Dq t.length k with
  | none=>rw [e] at h;cases h
  | some j=>
   rw [e] at h;have h':t[j]?=some r:=h;show (t.map il)[j]?=_;rw [Ef,h'];rfl
 rw [this];rfl
def QD {fa:Fa}{ρ ρ1:Ag}{xs:List Int}{d:Nat} (h:fa ρ=.ok ([(il xs,d)],ρ1)):Am AO fa ρ=.ok (.int xs.length,om,ρ1):=by
 refine Dy h ?_;show some (PV.int ((xs.map PV.int).length:Nat),om)=_;rw [Bg]
def Us {fa:Fa}{ρ ρ1:Ag}{t:List (List Int)}{d:Nat} (h:fa ρ=.ok ([(tb t,d)],ρ1)):Am AO fa ρ=.ok (.int t.length,om,ρ1):=by
 refine Dy h ?_;show some (PV.int ((t.map il).length:Nat),om)=_;rw [Bg]
theorem HK {α:Type}{n:Nat}{test:Fb}{elt:Fx}{enc q:α->PV}{e:α->Nat}{p:α->Bool}:∀ (xs:List α) (ρ:Ag) (acc:List (PV×Nat)),ρ.length=n->(∀ x∈xs,test (ρ++[some (enc x,dv (enc x))])=.ok (p x,ρ++[some (enc x,dv (enc x))])) ->
  (∀ x∈xs,p x=true->elt (ρ++[some (enc x,dv (enc x))])=.ok (q x,e x,ρ++[some (enc x,dv (enc x))]))->acc.length + xs.length<=Au->CC 1 (Ao n) test elt (xs.map enc) ρ acc=.ok (acc++(xs.filter p).map (λ x=>(q x,e x)),ρ)
 | [],ρ,acc,_,_,_,_=>by simp [CC]
 | x::xs,ρ,acc,hn,ht,he,hl=>by
  have ea:Ao n (enc x) (ρ++AM 1 none)=some (ρ++[some (enc x,dv (enc x))]):=by
   unfold Ao;rw [if_pos (by rw [Cd,hn];simp),WG _ _ (by omega),hn];simp
  have ih:=λ acc h=>HK (n:=n) (test:=test) (elt:=elt) (p:=p) (q:=q) (e:=e) (enc:=enc) xs ρ acc hn (λ y hy=>ht y (AU _ hy)) (λ y hy=>he y (AU _ hy)) h;have tk:(ρ++[some (enc x,dv (enc x))]).take ρ.length=ρ:=by simp
  rw [Cs] at hl;rw [BA];unfold CC;rw [ea];dsimp only;rw [ht x Ba];dsimp only [Rz.bindN];cases hp:p x with
  | false=>
   rw [if_neg BN,tk,ih acc (by omega),List.filter_cons_of_neg (by simp [hp])]
  | true=>
   rw [if_pos rfl,he x Ba hp];dsimp only;rw [if_pos (by omega),tk,ih _ (by rw [Cd,JL];omega),List.filter_cons_of_pos hp];simp
theorem HJ {α:Type} (q:α->PV):∀ xs:List α,E4 (xs.map λ x=>(q x,om))=true
 | []=>rfl
 | x::xs=>by rw [BA];unfold E4;rw [HJ q xs];rfl
def Ge {α:Type}{n:Nat}{f elt:Fx}{enc q:α->PV}{ρ ρ1:Ag}{d:Nat} (xs:List α) (hf:f ρ=.ok (.lst (xs.map enc),d,ρ1)) (hn:ρ1.length=n) (he:∀ x∈xs,elt (ρ1++[some (enc x,dv (enc x))])=.ok (q x,om,ρ1++[some (enc x,dv (enc x))])) (hl:xs.length<=Au):
  BK f 1 (Ao n) By elt ρ=.ok (.lst (xs.map q),om,ρ1):=by
 unfold BK;rw [hf];dsimp only;rw [HK (p:=λ _=>true) (q:=q) (e:=λ _=>om) xs ρ1 [] hn (λ _ _=>rfl) (λ x hx _=>he x hx) (by simpa using hl),jh5.mpr (λ _ _=>rfl)];show Cv (xs.map λ x=>(q x,om)) ρ1=_;unfold Cv;rw [HJ,Ec];rfl
def V6 {α:Type}{n:Nat}{f elt:Fx}{enc q:α->PV}{ρ ρ1:Ag}{d:Nat} (xs:List α) (hf:f ρ=.ok (.tup (xs.map enc),d,ρ1)) (hn:ρ1.length=n) (he:∀ x∈xs,elt (ρ1++[some (enc x,dv (enc x))])=.ok (q x,om,ρ1++[some (enc x,dv (enc x))])) (hl:xs.length<=Au):
  BK f 1 (Ao n) By elt ρ=.ok (.lst (xs.map q),om,ρ1):=by
 unfold BK;rw [hf];dsimp only;rw [HK (p:=λ _=>true) (q:=q) (e:=λ _=>om) xs ρ1 [] hn (λ _ _=>rfl) (λ x hx _=>he x hx) (by simpa using hl),jh5.mpr (λ _ _=>rfl)];show Cv (xs.map λ x=>(q x,om)) ρ1=_;unfold Cv;rw [HJ,Ec];rfl
def Ml (lo:Int) (n:Nat):Fw lo n=(Bw n).map λ (k:Nat)=>PV.int (lo + (k:Int)):=rfl
def Om {n:Nat}{en:List (PV×Nat)->Option (Int×Int)}{fa:Fa}{elt:Fx}{q:Nat->PV}{ρ ρ1:Ag}{as:List (PV×Nat)}{lo hi:Int} (hf:fa ρ=.ok (as,ρ1)) (hen:en as=some (lo,hi)) (hn:ρ1.length=n) (he:∀ k,k < (hi - lo).toNat->elt (ρ1++[some (.int (lo + (k:Int)),om)])=.ok (q k,om,ρ1++[some (.int (lo + (k:Int)),om)])) (hl:(hi - lo).toNat<=Au):
  Du en fa 1 (Ao n) By elt ρ=.ok (.lst ((Bw (hi - lo).toNat).map q),om,ρ1):=by
 unfold Du;rw [hf];dsimp only;rw [hen];dsimp only;rw [Ml,HK (enc:=λ (k:Nat)=>PV.int (lo + (k:Int))) (p:=λ _=>true) (q:=q) (e:=λ _=>om) (Bw (hi - lo).toNat) ρ1 [] hn (λ _ _=>rfl) (λ x hx _=>he x (jd0.mp hx)) (by simpa using hl),jh5.mpr (λ _ _=>rfl)];show Cv ((Bw (hi - lo).toNat).map λ x=>(q x,om)) ρ1=_;unfold Cv;rw [HJ,Ec];rfl
theorem xA {α:Type} (g:α->Bool) (xs:List α):QQ.allB (xs.map λ x=>.bl (g x))=some (xs.map g):=by
 induction xs with
 | nil=>rfl
 | cons x r ih=>rw [BA,BA,QQ.allB,ih];rfl
def all_ok {α:Type}{f:Fx}{ρ ρ1:Ag}{d:Nat}{g:α->Bool}{xs:List α} (h:f ρ=.ok (.lst (xs.map λ x=>.bl (g x)),d,ρ1)):Am DV (Ad f Ac) ρ=.ok (.bl (xs.all g),om,ρ1):=by
 refine Dy (Cw h) ?_;show (QQ.allB _).map _=_;rw [xA];simp
theorem VG {i:Nat}{body:Fs}{lo:Int} (I:Nat->Ag->Prop):∀ (m k:Nat) (ρ:Ag),I k ρ->(∀ j ρ,k<=j->j < k + m->I j ρ->i < ρ.length/\∃ ρ2,body (ρ.set i (some (.int (lo + (j:Int)),om)))=.nx ρ2/\I (j + 1) ρ2) ->
  ∃ ρ',Ci (Ao i) body ((JG k m).map λ (k:Nat)=>PV.int (lo + (k:Int))) ρ=.nx ρ'/\I (k + m) ρ'
 | 0,k,ρ,hi,_=>⟨ρ,rfl,hi⟩
 | m + 1,k,ρ,hi,hb=>by
  obtain ⟨h1,ρ2,e2,h2⟩:=hb k ρ (AS _) (by omega) hi;obtain ⟨ρ',e',h'⟩:=VG (i:=i) (body:=body) (lo:=lo) I m (k + 1) ρ2 h2 λ j ρ a b=>hb j ρ (by omega) (by omega);refine ⟨ρ',?_,by rw [show k + (m + 1)=k + 1 + m by omega];exact h'⟩;rw [Wy,BA];unfold Ci
  have:Ao i (PV.int (lo + (k:Int))) ρ=some (ρ.set i (some (.int (lo + (k:Int)),om))):=by
   unfold Ao;rw [if_pos h1];rfl
  rw [this];dsimp only;rw [e2];exact e'
def Mu {i:Nat}{body:Fs}{en:List (PV×Nat)->Option (Int×Int)}{fa:Fa}{ρ ρ1:Ag}{as:List (PV×Nat)}{lo hi:Int} (I:Nat->Ag->Prop) (hf:fa ρ=.ok (as,ρ1)) (hen:en as=some (lo,hi)) (h0:I 0 ρ1)
  (hb:∀ j ρ,j < (hi - lo).toNat->I j ρ->i < ρ.length/\∃ ρ2,body (ρ.set i (some (.int (lo + (j:Int)),om)))=.nx ρ2/\I (j + 1) ρ2):∃ ρ',CF en fa (Ao i) body ρ=.nx ρ'/\I (hi - lo).toNat ρ':=by
 obtain ⟨ρ',e,h⟩:=VG (i:=i) (body:=body) (lo:=lo) I (hi - lo).toNat 0 ρ1 h0 λ j ρ _ h hi=>hb j ρ (by omega) hi;refine ⟨ρ',?_,by rw [Lo] at h;exact h⟩;unfold CF;rw [hf];dsimp only;rw [hen];dsimp only;rw [Ml,List.range_eq_range'];exact e
def Fq {j:Int}{d:Nat} (h1:-(2 ^ 62)<=j) (h2:j < 2 ^ 62):Bo [(.int j,d)]=some (0,j):=by
 show (if -(2 ^ 62)<=j/\j < 2 ^ 62 then some ((0:Int),j) else none)=_;rw [if_pos ⟨h1,h2⟩]
def xV {i j:Int}{d e:Nat} (h1:-(2 ^ 62)<=i) (h2:i < 2 ^ 62) (h3:-(2 ^ 62)<=j) (h4:j < 2 ^ 62):FI [(.int i,d),(.int j,e)]=some (i,j):=by
 show (if -(2 ^ 62)<=i/\i < 2 ^ 62/\-(2 ^ 62)<=j/\j < 2 ^ 62 then some (i,j) else none)=_;rw [if_pos ⟨h1,h2,h3,h4⟩]
def BG {np k:Nat}{b:Fs}{xs:List PV}{ρ':Ag}{y:PV}{d:Nat} (hl:xs.length=np) (h:b (xs.map (λ x=>some (x,dv x))++AM k none)=.rt y d ρ'):A0 false np k b xs=.ok (y,d,.non):=by
 unfold A0;rw [if_pos hl]
 have:DR false xs=xs.map λ x=>some (x,dv x):=rfl
 rw [this,h];rfl
def X0 {np k:Nat}{b:Fs}{xs:List PV}{ρ':Ag} (hl:xs.length=np) (h:b (xs.map (λ x=>some (x,dv x))++AM k none)=.nx ρ'):A0 false np k b xs=.ok (.non,om,.non):=by
 unfold A0;rw [if_pos hl]
 have:DR false xs=xs.map λ x=>some (x,dv x):=rfl
 rw [this,h];rfl
def Xf_is_whole_number:Fs:=(An (Bb (Ap (AH "int") (Aa 0)) (Ap AQ (Ap (AH "bool") (Aa 0)))))
def f_is_whole_number:Fn:=A0 false 1 0 Xf_is_whole_number
def Xf_is_box:Fs:=(Ae (Ax (bT (Ay (Ap AQ (Ap (AH "tuple") (Aa 0))) (Ab (Ak true) (Am AO (Ad (Aa 0) (Ac))) (bC (.int 3))))) (An (bC (.bl false))) Al)
 (An (Am DV (Ad (BK (Aa 0) 1 (Ao 1) By (Bb (A8 f_is_whole_number (Ad (Aa 1) (Ac))) (Ab (Be λ i j=>decide (j<=i)) (Aa 1) (bC (.int 1))))) (Ac)))))
def f_is_box:Fn:=A0 false 1 0 Xf_is_box
def Xf_must_be_box:Fs:=(Ax (bT (Ap AQ (A8 f_is_box (Ad (Aa 0) (Ac))))) (Dn 1) Al)
def f_must_be_box:Fn:=A0 false 1 0 Xf_must_be_box
def Xf_is_row_of_heights:Fs:=(Ae (Ax (bT (Ay (Ap AQ (Ap (AH "list") (Aa 0))) (Ab (Ak true) (Am AO (Ad (Aa 0) (Ac))) (Aa 1)))) (An (bC (.bl false))) Al)
 (An (Am DV (Ad (BK (Aa 0) 1 (Ao 3) By (Bb (A8 f_is_whole_number (Ad (Aa 3) (Ac))) (Gn (λ i j=>decide (i<=j)) (λ i j=>decide (i<=j)) (bC (.int 0)) (Aa 3) (Aa 2)))) (Ac)))))
def f_is_row_of_heights:Fn:=A0 false 3 0 Xf_is_row_of_heights
def Xf_never_rises:Fs:=(An (Am DV (Ad (Du FI (Ad (bC (.int 1)) (Ad (Am AO (Ad (Aa 0) (Ac))) (Ac))) 1 (Ao 1) By (Ab (Be λ i j=>decide (i<=j)) (Ab Ah (Aa 0) (Aa 1)) (Ab Ah (Aa 0) (Ab CD (Aa 1) (bC (.int 1)))))) (Ac))))
def f_never_rises:Fn:=A0 false 1 0 Xf_never_rises
def Xf_column_of:Fs:=(An (BK (Aa 0) 1 (Ao 2) By (Ab Ah (Aa 2) (Aa 1))))
def f_column_of:Fn:=A0 false 2 0 Xf_column_of
def Xf_is_pile:Fs:=(Ae (Dd (A8 f_must_be_box (Ad (Aa 0) (Ac))))
 (Ae (Dm (Dt [2,3,4]) (Aa 0) [0])
 (Ae (Ax (bT (Ay (Ap AQ (Ap (AH "list") (Aa 1))) (Ab (Ak true) (Am AO (Ad (Aa 1) (Ac))) (Aa 2)))) (An (bC (.bl false))) Al)
 (Ae (Ax (bT (Ap AQ (Am DV (Ad (BK (Aa 1) 1 (Ao 5) By (A8 f_is_row_of_heights (Ad (Aa 5) (Ad (Aa 3) (Ad (Aa 4) (Ac)))))) (Ac))))) (An (bC (.bl false))) Al)
 (Ae (Ax (bT (Ap AQ (Am DV (Ad (BK (Aa 1) 1 (Ao 5) By (A8 f_never_rises (Ad (Aa 5) (Ac)))) (Ac))))) (An (bC (.bl false))) Al)
 (An (Am DV (Ad (Du Bo (Ad (Aa 3) (Ac)) 1 (Ao 5) By (A8 f_never_rises (Ad (A8 f_column_of (Ad (Aa 1) (Ad (Aa 5) (Ac)))) (Ac)))) (Ac)))))))))
def f_is_pile:Fn:=A0 false 2 3 Xf_is_pile
def Xb_cell_at:Fs:=(Ae (Ax (bT (Ab (Be λ i j=>decide (i < j)) (Aa 1) (Am AO (Ad (Aa 0) (Ac))))) (An (Ab Ah (Aa 0) (Aa 1))) Al)
 (An (bC (.int 0))))
def b_cell_at:Fn:=A0 false 2 0 Xb_cell_at
def Xc_numbers:Fs:=(Ae (Ai false 2 (Am AY (Ac)) [])
 (Ae (Ai false 3 (Aa 0) [0])
 (Ae (Ai false 4 (Ab Az (Aa 0) (bC (.int 2147483647))) [0])
 (Ae (CF Bo (Ad (Aa 1) (Ac)) (Ao 5) (Ax (bT (Bb (Ab (Be λ i j=>decide (j<=i)) (Aa 0) (Ab Nd (bC (.int 10)) (bC (.int 18)))) (Ab (Be λ i j=>decide (j < i)) (Aa 3) (bC (.int 0))))) (Ae (BW 2 (Ab Az (Aa 3) (bC (.int 64))) [3])
 (Ai false 3 (Ab EY (Aa 3) (bC (.int 64))) [3])) (Ae (Ai false 4 (Ab Az (Ab Co (Ab A1 (Ab A1 (Aa 4) (Ab Co (bC (.int 7)) (Aa 5))) (bC (.int 3))) (bC (.int 48271))) (bC (.int 2147483647))) [4,5])
 (Ae (Ai false 6 (Ab Az (Ab Co (Ab Az (Ab Co (Aa 4) (Aa 4)) (bC (.int 2147483629))) (bC (.int 69621))) (bC (.int 2147483587))) [4,4])
 (BW 2 (Ab Az (Ab EY (Aa 6) (bC (.int 8))) (bC (.int 720720))) [6])))))
 (FA 2)))))
def c_numbers:Fn:=A0 false 2 5 Xc_numbers
def Xc_box:Fs:=(Ae (Ai false 1 (Am BJ (Ad (Ab A1 (bC (.int 1)) (Ab Az (Ab Ah (Aa 0) (bC (.int 0))) (bC (.int 3)))) (Ad (Ab A1 (bC (.int 1)) (Ab Az (Ab Ah (Aa 0) (bC (.int 1))) (bC (.int 3)))) (Ad (Ab A1 (bC (.int 1)) (Ab Az (Ab Ah (Aa 0) (bC (.int 2))) (bC (.int 3)))) (Ac))))) [0,0,0])
 (Ae (Ax (bT (Ab (Ak false) (Ab Az (Ab Ah (Aa 0) (bC (.int 3))) (bC (.int 4))) (bC (.int 1)))) (Ai false 1 (Am BJ (Ad (Ab A1 (bC (.int 1)) (Ab Az (Ab Ah (Aa 0) (bC (.int 0))) (bC (.int 6)))) (Ad (Ab A1 (bC (.int 1)) (Ab Az (Ab Ah (Aa 0) (bC (.int 1))) (bC (.int 6)))) (Ad (Ab A1 (bC (.int 1)) (Ab Az (Ab Ah (Aa 0) (bC (.int 2))) (bC (.int 6)))) (Ac))))) [0,0,0]) Al)
 (Ae (Ax (bT (Ab (Ak false) (Ab Az (Ab Ah (Aa 0) (bC (.int 3))) (bC (.int 4))) (bC (.int 2)))) (Ai false 1 (Am BJ (Ad (Ab Ah (Aa 1) (bC (.int 0))) (Ad (Ab Ah (Aa 1) (bC (.int 0))) (Ad (Ab Ah (Aa 1) (bC (.int 0))) (Ac))))) [1,1,1]) Al)
 (Ae (Ax (bT (Ab (Ak false) (Ab Az (Ab Ah (Aa 0) (bC (.int 3))) (bC (.int 8))) (bC (.int 3)))) (Ai false 1 (Am BJ (Ad (Ab Ah (Aa 1) (bC (.int 0))) (Ad (Ab Ah (Aa 1) (bC (.int 0))) (Ad (Ab Ah (Aa 1) (bC (.int 2))) (Ac))))) [1,1,1]) Al)
 (FA 1)))))
def c_box:Fn:=A0 false 1 1 Xc_box
def Xc_pile:Fs:=(Ae (Ai false 2 (Am AY (Ac)) [])
 (Ae (CF Bo (Ad (Ab Ah (Aa 0) (bC (.int 0))) (Ac)) (Ao 3) (Ae (Ai false 4 (Am AY (Ac)) [])
 (Ae (CF Bo (Ad (Ab Ah (Aa 0) (bC (.int 1))) (Ac)) (Ao 5) (Ae (Ai false 6 (Ab Ah (Aa 0) (bC (.int 2))) [0])
 (Ae (Ax (bT (Ab (Be λ i j=>decide (j < i)) (Aa 3) (bC (.int 0)))) (Ai false 6 (Ab Ah (Ab Ah (Aa 2) (Ab CD (Aa 3) (bC (.int 1)))) (Aa 5)) [2,3,5]) Al)
 (Ae (Ax (bT (Ab (Be λ i j=>decide (j < i)) (Aa 5) (bC (.int 0)))) (Ai false 6 (Am E5 (Ad (Aa 6) (Ad (Ab Ah (Aa 4) (Ab CD (Aa 5) (bC (.int 1)))) (Ac)))) [6,4,5]) Al)
 (Ae (Ai false 7 (Ab Ah (Aa 1) (Ab A1 (Ab Co (bC (.int 6)) (Aa 3)) (Aa 5))) [1,3,5])
 (BW 4 (Ab Ah (Am AY (Ad (Ab Az (Aa 7) (Ab A1 (Aa 6) (bC (.int 1)))) (Ad (Am Gr (Ad (bC (.int 0)) (Ad (Ab CD (Aa 6) (Ab EY (Ab Az (Aa 7) (bC (.int 3))) (bC (.int 2)))) (Ac)))) (Ad (Ab Az (Aa 7) (Ab A1 (Aa 6) (bC (.int 1)))) (Ad (Aa 6) (Ac)))))) (Ab Az (Ab Ah (Aa 1) (bC (.int 36))) (bC (.int 4)))) [7,6,6,7,7,6,6,1]))))))
 (BW 2 (Aa 4) [4]))))
 (Ae (Ax (bT (Ab (Ak false) (Ab Az (Ab Ah (Aa 1) (bC (.int 36))) (bC (.int 4))) (bC (.int 3)))) (Ae (E6 2 (Ap Cp (bC (.int 1))) (BK (Ab Ah (Aa 2) (Ap Cp (bC (.int 1)))) 1 (Ao 8) By (Ab CD (Aa 8) (Ab Az (Ab Ah (Aa 1) (bC (.int 37))) (Ab A1 (Aa 8) (bC (.int 1)))))))
 (E6 2 (Ap Cp (bC (.int 1))) (Du Bo (Ad (Ab Ah (Aa 0) (bC (.int 1))) (Ac)) 1 (Ao 8) By (Am E5 (Ad (Bu (Ab Ah (Aa 2) (Ap Cp (bC (.int 1)))) none (some (Ab A1 (Aa 8) (bC (.int 1))))) (Ac)))))) Al)
 (FA 2))))
def c_pile:Fn:=A0 false 2 6 Xc_pile
def sz:(1000000:Nat)<=Au:=by decide
def zF (i:Int):f_is_whole_number [.int i]=.ok (.bl true,om,.non):=by kernel_rfl
def Eh (a b c:Int):Bool:=decide (1<=a) && (decide (1<=b) && decide (1<=c))
def jh (a b c:Int):f_is_box [bx a b c]=.ok (.bl (Eh a b c),om,.non):=by
 have e0:∀ x∈[a,b,c],(Bb (A8 f_is_whole_number (Ad (Aa 1) (Ac))) (Ab (Be λ i j=>decide (j<=i)) (Aa 1) (bC (.int 1)))) ([some (bx a b c,0)]++[some (.int x,om)])=.ok (.bl (decide (1<=x)),om,[some (bx a b c,0)]++[some (.int x,om)]):=λ x _=>by kernel_rfl
 have e1:=V6 (n:=1) (f:=Aa 0) (ρ:=[some (bx a b c,0)]) (enc:=PV.int) (q:=λ x=>.bl (decide (1<=x))) (d:=0) [a,b,c] rfl rfl e0 (by have:=sz;show 3<=Au;omega);refine BG rfl (ρ':=[some (bx a b c,0)]) ?_;show Xf_is_box [some (bx a b c,0)]=_;refine (DW (ρ1:=[some (bx a b c,0)]) (by kernel_rfl)).trans (CT ?_);rw [all_ok e1];show Rz.ok (PV.bl (decide (1<=a) && (decide (1<=b) && (decide (1<=c) && true))),om,_)=_;rw [N7];rfl
def LQ {a b c:Int} (h:Eh a b c=true):f_must_be_box [bx a b c]=.ok (.non,om,.non):=by
 refine X0 rfl (ρ':=[some (bx a b c,0)]) ?_;have hb:=jh a b c;rw [h] at hb;exact AK (f:=Dn 1) (g:=Al) (Av (E3 (BD (F:=f_is_box) (fa:=Ad (Aa 0) Ac) (ρ:=[some (bx a b c,0)]) (xs:=[(bx a b c,0)]) rfl hb)))
def DE (xs:List Int) (c h:Int):Bool:=decide ((xs.length:Int)=c) && xs.all λ x=>decide (0<=x) && decide (x<=h)
def Z1 (xs:List Int) (c h:Int) (hl:xs.length<=1000):f_is_row_of_heights [il xs,.int c,.int h]=.ok (.bl (DE xs c h),om,.non):=by
 have e0:∀ x∈xs,(Bb (A8 f_is_whole_number (Ad (Aa 3) (Ac))) (Gn (λ i j=>decide (i<=j)) (λ i j=>decide (i<=j)) (bC (.int 0)) (Aa 3) (Aa 2))) ([some (il xs,0),some (.int c,om),some (.int h,om)]++[some (.int x,om)])=.ok (.bl (decide (0<=x) && decide (x<=h)),om,[some (il xs,0),some (.int c,om),some (.int h,om)]++[some (.int x,om)]):=λ x _=>
  DJ (a:=true) (BD (xs:=[(.int x,om)]) rfl (zF x)) (λ _=>OO (i:=0) (j:=x) (k:=h) rfl rfl rfl) rfl
 have e1:=Ge (n:=3) (f:=Aa 0) (ρ:=[some (il xs,0),some (.int c,om),some (.int h,om)]) (enc:=PV.int) (q:=λ x=>.bl (decide (0<=x) && decide (x<=h))) (d:=0) xs rfl rfl e0 (by have:=sz;omega);have t:bT (Ay (Ap AQ (Ap (AH "list") (Aa 0))) (Ab (Ak true) (Am AO (Ad (Aa 0) (Ac))) (Aa 1))) [some (il xs,0),some (.int c,om),some (.int h,om)]=.ok (!decide ((xs.length:Int)=c),[some (il xs,0),some (.int c,om),some (.int h,om)]):=by
  refine Av (d:=om) ((Et (a:=false) rfl (λ _=>Dk (QD (xs:=xs) (d:=0) rfl) (j:=c) rfl) rfl).trans ?_);rw [IG,Hf]
 refine BG rfl (ρ':=[some (il xs,0),some (.int c,om),some (.int h,om)]) ?_;show Xf_is_row_of_heights [some (il xs,0),some (.int c,om),some (.int h,om)]=_;unfold DE;by_cases hc:(xs.length:Int)=c
 ·rw [decide_eq_true hc] at t ⊢;refine (DW t).trans (CT ?_);rw [all_ok e1];rfl
 ·rw [decide_eq_false hc] at t ⊢;exact CJ ((A4 t).trans rfl)
def Ff (xs:List Int):Bool:=(Bw ((xs.length:Int) - 1).toNat).all λ k=>decide (xs.getD (k + 1) 0<=xs.getD k 0)
def VJ (xs:List Int) (hl:xs.length<=1000):f_never_rises [il xs]=.ok (.bl (Ff xs),om,.non):=by
 have e0:∀ k,k < ((xs.length:Int) - 1).toNat->(Ab (Be λ i j=>decide (i<=j)) (Ab Ah (Aa 0) (Aa 1)) (Ab Ah (Aa 0) (Ab CD (Aa 1) (bC (.int 1))))) ([some (il xs,0)]++[some (.int (1 + (k:Int)),om)])=.ok (.bl (decide (xs.getD (k + 1) 0<=xs.getD k 0)),om,[some (il xs,0)]++[some (.int (1 + (k:Int)),om)]):=λ k hk=>by
  refine Hy (i:=xs.getD (k + 1) 0) (j:=xs.getD k 0) (EB (xs:=xs) (k:=1 + (k:Int)) rfl rfl (CK (by omega) ?_)) (EB (xs:=xs) (k:=1 + (k:Int) - 1) rfl rfl (CK (by omega) ?_))
  ·rw [show (1 + (k:Int)).toNat=k + 1 by omega,Cm (show k + 1 < xs.length by omega),BI,Cm (show k + 1 < xs.length by omega)];rfl
  ·rw [show (1 + (k:Int) - 1).toNat=k by omega,Cm (show k < xs.length by omega),BI,Cm (show k < xs.length by omega)];rfl
 have e1:=Om (n:=1) (en:=FI) (ρ:=[some (il xs,0)]) (q:=λ k=>.bl (decide (xs.getD (k + 1) 0<=xs.getD k 0))) (De (f:=bC (.int 1)) (d:=om) (x:=.int 1) rfl (Cw (QD (fa:=Ad (Aa 0) Ac) (xs:=xs) (d:=0) rfl))) (xV (by decide) (by decide) (by omega) (by omega)) rfl e0 (by have:=sz;omega);exact BG rfl (ρ':=[some (il xs,0)]) (CT (all_ok e1))
def FH (t:List (List Int)) (j:Nat):List Int:=t.map λ r=>r.getD j 0
def DS {xs:List Int}{j:Nat} (h:j < xs.length):xs[j]?=some (xs.getD j 0):=by
 rw [BI,Cm h];rfl
def O1 {xs:List (List Int)}{j:Nat} (h:j < xs.length):xs[j]?=some (xs.getD j []):=by
 rw [BI,Cm h];rfl
def jn (t:List (List Int)) (j:Nat) (hl:t.length<=1000) (hr:∀ r∈t,j < r.length):f_column_of [tb t,.int (j:Int)]=.ok (il (FH t j),om,.non):=by
 have e0:∀ r∈t,(Ab Ah (Aa 2) (Aa 1)) ([some (tb t,0),some (.int (j:Int),om)]++[some (il r,0)])=.ok (.int (r.getD j 0),om,[some (tb t,0),some (.int (j:Int),om)]++[some (il r,0)]):=λ r hm=>
  EB (xs:=r) (k:=(j:Int)) rfl rfl (CK (by omega) (DS (hr r hm)))
 have e1:=Ge (n:=2) (f:=Aa 0) (ρ:=[some (tb t,0),some (.int (j:Int),om)]) (enc:=il) (q:=λ r=>.int (r.getD j 0)) (d:=0) t rfl rfl e0 (by have:=sz;omega);refine BG rfl (ρ':=[some (tb t,0),some (.int (j:Int),om)]) ((CT e1).trans ?_);unfold FH il;rw [Ec];rfl
def Tab (a b:Nat) (t:List (List Int)):Prop:=t.length=a/\∀ r∈t,r.length=b
def Fy (a b:Nat) (c:Int) (t:List (List Int)):Bool:=(t.all λ r=>DE r b c) && ((t.all Ff) && ((Bw b).all λ j=>Ff (FH t j)))
theorem kb {a b:Nat}{c:Int}{t:List (List Int)} (ht:Tab a b t) (ha:1<=a/\a<=100) (hb:1<=b/\b<=100) (hc:1<=c):f_is_pile [bx a b c,tb t]=.ok (.bl (Fy a b c t),om,.non):=by
 let R0:Ag:=[some (bx a b c,0),some (tb t,0),none,none,none]
 let R1:Ag:=[some (bx a b c,0),some (tb t,0),some (.int a,om),some (.int b,om),some (.int c,om)]
 have hbx:Eh a b c=true:=by unfold Eh;rw [decide_eq_true (by omega),decide_eq_true (by omega),decide_eq_true hc];rfl
 have hs:=sz;have l1:=ht.1;have s1:Dd (A8 f_must_be_box (Ad (Aa 0) (Ac))) R0=.nx R0:=LW (BD (xs:=[(bx a b c,0)]) rfl (LQ hbx));have s2:Dm (Dt [2,3,4]) (Aa 0) [0] R0=.nx R1:=by kernel_rfl
 have t3:bT (Ay (Ap AQ (Ap (AH "list") (Aa 1))) (Ab (Ak true) (Am AO (Ad (Aa 1) (Ac))) (Aa 2))) R1=.ok (false,R1):=by
  refine Av (d:=om) ((Et (a:=false) rfl (λ _=>Dk (Us (t:=t) (d:=0) rfl) (j:=(a:Int)) rfl) rfl).trans ?_);rw [l1];simp
 have e4:∀ r∈t,(A8 f_is_row_of_heights (Ad (Aa 5) (Ad (Aa 3) (Ad (Aa 4) (Ac))))) (R1++[some (il r,0)])=.ok (.bl (DE r b c),om,R1++[some (il r,0)]):=λ r hr=>
  BD (xs:=[(il r,0),(.int b,om),(.int c,om)]) rfl (Z1 r b c (by rw [ht.2 r hr];omega))
 have t4:=Av (E3 (all_ok (Ge (n:=5) (f:=Aa 1) (ρ:=R1) (enc:=il) (q:=λ r=>.bl (DE r b c)) (d:=0) t rfl rfl e4 (by omega))));have e5:∀ r∈t,(A8 f_never_rises (Ad (Aa 5) (Ac))) (R1++[some (il r,0)])=.ok (.bl (Ff r),om,R1++[some (il r,0)]):=λ r hr=>
  BD (xs:=[(il r,0)]) rfl (VJ r (by rw [ht.2 r hr];omega))
 have t5:=Av (E3 (all_ok (Ge (n:=5) (f:=Aa 1) (ρ:=R1) (enc:=il) (q:=λ r=>.bl (Ff r)) (d:=0) t rfl rfl e5 (by omega))));have e6:∀ k,k < ((b:Int) - 0).toNat->(A8 f_never_rises (Ad (A8 f_column_of (Ad (Aa 1) (Ad (Aa 5) (Ac)))) (Ac))) (R1++[some (.int (0 + (k:Int)),om)])=.ok (.bl (Ff (FH t k)),om,R1++[some (.int (0 + (k:Int)),om)]):=λ k hk=>by
  have e:=jn t k (by omega) λ r hr=>by rw [ht.2 r hr];omega
  rw [JH];exact BD (xs:=[(il (FH t k),om)]) (Cw (BD (xs:=[(tb t,0),(.int (k:Int),om)]) rfl e)) (VJ _ (by unfold FH;rw [Bg];omega))
 have e7:=Om (n:=5) (en:=Bo) (fa:=Ad (Aa 3) Ac) (ρ:=R1) (q:=λ k=>.bl (Ff (FH t k))) (as:=[(.int (b:Int),om)]) rfl (Fq (by omega) (by omega)) rfl e6 (by omega);rw [show ((b:Int) - 0).toNat=b by omega] at e7;refine BG rfl (ρ':=R1) ?_;show Xf_is_pile R0=_;unfold Fy;refine (A2 s1).trans ((A2 s2).trans ((DW t3).trans ?_));cases h1:t.all λ r=>DE r b c with
 | false=>
  rw [h1] at t4;exact CJ ((A4 t4).trans rfl)
 | true=>
  rw [h1] at t4;refine (DW t4).trans ?_;cases h2:t.all Ff with
  | false=>
   have h2':t.all (λ r=>Ff r)=false:=h2;rw [h2'] at t5;exact CJ ((A4 t5).trans rfl)
  | true=>
   have h2':t.all (λ r=>Ff r)=true:=h2;rw [h2'] at t5;exact (DW t5).trans (CT (all_ok e7))
def xt (t:List (List Int)) (r:List Int):PV.lst ((t.map il)++[il r])=tb (t++[r]):=by
 unfold tb;rw [Wq];rfl
def g (t:List (List Int)) (i j:Nat):Int:=(t.getD i []).getD j 0
structure Pile (a b:Nat) (c:Int) (t:List (List Int)):Prop where
 tab:Tab a b t
 lo:∀ i j,i < a->j < b->0<=g t i j
 hi:∀ i j,i < a->j < b->g t i j<=c
 dn:∀ i j,i + 1 < a->j < b->g t (i + 1) j<=g t i j
 rt:∀ i j,i < a->j + 1 < b->g t i (j + 1)<=g t i j
def OK {t:List (List Int)}{i:Nat} (h:i < t.length):t.getD i []∈t:=by
 rw [BI,Cm h];exact EN h
def Tab.row {a b:Nat}{t:List (List Int)} (h:Tab a b t) {i:Nat} (hi:i < a):(t.getD i []).length=b:=h.2 _ (OK (by rw [h.1];exact hi))
def LH {xs:List Int}{i:Nat} (h:i < xs.length):xs.getD i 0∈xs:=by
 rw [BI,Cm h];exact EN h
def mem_getD {xs:List Int}{x:Int} (h:x∈xs):∃ i,i < xs.length/\xs.getD i 0=x:=by
 obtain ⟨i,hi,e⟩:=JK h;exact ⟨i,hi,by rw [BI,Cm hi];exact e⟩
def SV {t:List (List Int)}{r:List Int} (h:r∈t):∃ i,i < t.length/\t.getD i []=r:=by
 obtain ⟨i,hi,e⟩:=JK h;exact ⟨i,hi,by rw [BI,Cm hi];exact e⟩
def qag {xs:List Int}{c h:Int}:DE xs c h=true↔(xs.length:Int)=c/\∀ x∈xs,0<=x/\x<=h:=by
 unfold DE;rw [AF,decide_eq_true_iff,jb4];constructor
 ·rintro ⟨h1,h2⟩;refine ⟨h1,λ x hx=>?_⟩
  have:=h2 x hx
  rw [AF,decide_eq_true_iff,decide_eq_true_iff] at this;exact this
 ·rintro ⟨h1,h2⟩;refine ⟨h1,λ x hx=>?_⟩;rw [AF,decide_eq_true_iff,decide_eq_true_iff];exact h2 x hx
def zmi {xs:List Int}:Ff xs=true↔∀ k,k + 1 < xs.length->xs.getD (k + 1) 0<=xs.getD k 0:=by
 unfold Ff;rw [jb4];constructor
 ·intro h k hk;exact of_decide_eq_true (h k (jd0.mpr (by omega)))
 ·intro h k hk
  have:=jd0.mp hk
  exact decide_eq_true (h k (by omega))
def My {t:List (List Int)}{i j:Nat} (h:i < t.length):(FH t j).getD i 0=g t i j:=by
 unfold FH g;rw [BI,Ef,Cm h,BI (l:=t),Cm h];rfl
def UY {t:List (List Int)}{j:Nat}:(FH t j).length=t.length:=by unfold FH;rw [Bg]
def Ta {a b:Nat}{c:Int}{t:List (List Int)} (ht:Tab a b t):Fy a b c t=true↔Pile a b c t:=by
 unfold Fy;rw [AF,AF,jb4,jb4,jb4];constructor
 ·rintro ⟨h1,h2,h3⟩;have q:∀ i j,i < a->j < b->0<=g t i j/\g t i j<=c:=λ i j hi hj=>(qag.mp (h1 _ (OK (by rw [ht.1];exact hi)))).2 _ (LH (by rw [ht.row hi];exact hj));refine ⟨ht,λ i j hi hj=>(q i j hi hj).1,λ i j hi hj=>(q i j hi hj).2,λ i j hi hj=>?_,λ i j hi hj=>?_⟩
  ·have:=zmi.mp (h3 j (jd0.mpr hj)) i (by rw [UY,ht.1];exact hi)
   rw [My (by rw [ht.1];exact hi),My (by rw [ht.1];omega)] at this;exact this
  ·exact zmi.mp (h2 _ (OK (by rw [ht.1];exact hi))) j (by rw [ht.row hi];exact hj)
 ·intro p;refine ⟨λ r hr=>qag.mpr ⟨by rw [ht.2 r hr],λ x hx=>?_⟩,λ r hr=>zmi.mpr λ k hk=>?_,λ j hj=>zmi.mpr λ k hk=>?_⟩
  ·obtain ⟨i,hi,rfl⟩:=SV hr;obtain ⟨j,hj,rfl⟩:=mem_getD hx;have hi':i < a:=by rw [<- ht.1];exact hi
   rw [ht.row hi'] at hj;exact ⟨p.lo i j hi' hj,p.hi i j hi' hj⟩
  ·obtain ⟨i,hi,rfl⟩:=SV hr;have hi':i < a:=by rw [<- ht.1];exact hi
   rw [ht.row hi'] at hk;exact p.rt i k hi' hk
  ·rw [UY,ht.1] at hk;rw [My (by rw [ht.1];exact hk),My (by rw [ht.1];omega)];exact p.dn k j hk (jd0.mp hj)
def ZY {b j:Nat}{f:Nat->Int} (hj:j < b):((Bw b).map f).getD j 0=f j:=by
 rw [BI,Ef,List.getElem?_range hj];rfl
def Nr (r:List Int):Prop:=∀ k,k + 1 < r.length->r.getD (k + 1) 0<=r.getD k 0
def Su {α:Type}{xs:List α}{i:Nat}{x d:α} (h:i < xs.length):(xs.set i x).getD i d=x:=by
 rw [BI,Eg h];rfl
def Xf {α:Type}{xs:List α}{i j:Nat}{x d:α} (h:i≠j):(xs.set i x).getD j d=xs.getD j d:=by
 rw [BI,Ct h,BI]
theorem Oi {α:Type}{f:PV->Option Ew}{e:α->PV}{q:α->Ew} (h:∀ x,f (e x)=some (q x)):∀ xs:List α,Bz f (xs.map e)=some (xs.map q)
 | []=>rfl
 | x::xs=>by rw [BA,Bz,h,Oi h xs];rfl
def QY (n:Nat) (xs:List Int):BP (n + 2) (il xs)=some (.list (xs.map .int)):=by
 show (Bz (BP (n + 1)) (xs.map PV.int)).map PyData.list=_;rw [Oi (q:=PyData.int) (λ x=>rfl)];rfl
def U4 (n:Nat) (t:List (List Int)):BP (n + 3) (tb t)=some (.list (t.map λ r=>.list (r.map .int))):=by
 show (Bz (BP (n + 2)) (t.map il)).map PyData.list=_;rw [Oi (λ x=>QY n x)];rfl
theorem Oc:∀ xs ys:List Int,M5 (xs.map .int) (ys.map .int)=decide (xs=ys)
 | [],[]=>rfl
 | [],y::ys=>rfl
 | x::xs,[]=>rfl
 | x::xs,y::ys=>by
  rw [BA,BA,M5,Oc xs ys];show ((x == y) && _)=_;by_cases h:x=y
  ·subst h;by_cases h2:xs=ys
   ·subst h2;simp
   ·simp [h2]
  ·simp [h]
theorem Sm:∀ t u:List (List Int),M5 (t.map λ r=>.list (r.map .int)) (u.map λ r=>.list (r.map .int))=decide (t=u)
 | [],[]=>rfl
 | [],y::ys=>rfl
 | x::xs,[]=>rfl
 | x::xs,y::ys=>by
  rw [BA,BA,M5,Sm xs ys,EH,Oc];by_cases h:x=y
  ·subst h;by_cases h2:xs=ys
   ·subst h2;simp
   ·simp [h2]
  ·simp [h]
def Xw {neg:Bool}{f h:Fx}{ρ ρ1 ρ2:Ag}{xs ys:List Int}{d e:Nat} (h1:f ρ=.ok (il xs,d,ρ1)) (h2:h ρ1=.ok (il ys,e,ρ2)):Ab (Ak neg) f h ρ=.ok (.bl (neg^^decide (xs=ys)),om,ρ2):=by
 refine CG h1 h2 ?_;unfold Ak;rw [QY 18,QY 18];show some (PV.bl (neg^^EH _ _),om)=_;rw [EH,Oc]
def Xx {neg:Bool}{f h:Fx}{ρ ρ1 ρ2:Ag}{t u:List (List Int)}{d e:Nat} (h1:f ρ=.ok (tb t,d,ρ1)) (h2:h ρ1=.ok (tb u,e,ρ2)):Ab (Ak neg) f h ρ=.ok (.bl (neg^^decide (t=u)),om,ρ2):=by
 refine CG h1 h2 ?_;unfold Ak;rw [U4 17,U4 17];show some (PV.bl (neg^^EH _ _),om)=_;rw [EH,Sm]
def ZU {f h:Fx}{ρ ρ1 ρ2:Ag}{xs:List Int}{k x:Int}{d e:Nat} (h1:f ρ=.ok (.scr xs,d,ρ1)) (h2:h ρ1=.ok (.int k,e,ρ2)) (hx:Bk xs k=some x):Ab Ah f h ρ=.ok (.int x,om,ρ2):=by
 refine CG h1 h2 ?_;show (Bk xs k).map _=_;rw [hx];rfl
def ZI (ns:List Int) (k:Nat):b_cell_at [.scr ns,.int (k:Int)]=.ok (.int (ns.getD k 0),om,.non):=by
 let R:Ag:=[some (.scr ns,om),some (.int (k:Int),om)]
 have t1:bT (Ab (Be λ i j=>decide (i < j)) (Aa 1) (Am AO (Ad (Aa 0) (Ac)))) R=.ok (decide ((k:Int) < (ns.length:Int)),R):=rfl;refine BG rfl (ρ':=R) ?_;by_cases h:(k:Int) < (ns.length:Int)
 ·rw [decide_eq_true h] at t1;exact CJ ((A4 t1).trans (CT (ZU (xs:=ns) (k:=(k:Int)) (d:=om) rfl rfl (CK (by omega) (DS (by omega))))))
 ·rw [decide_eq_false h] at t1;refine (DW t1).trans ((CT (d:=om) rfl).trans ?_);rw [BI,NI (by omega)];rfl
def UP (xs:List Int) (x:Int):PV.lst (xs.map PV.int++[.int x])=il (xs++[x]):=by unfold il;rw [Wq];rfl
def V3 {α:Type}{xs:List α}{x:α} (h:xs[xs.length - 1]?=some x):Bk xs (-1)=some x:=by
 have hl:=(ja6.mp h).1;unfold Bk Dq;rw [if_neg (by decide),if_pos (by omega),show (-1 + (xs.length:Int)).toNat=xs.length - 1 by omega];exact h
theorem So:∀ xs:List Int,GQ (xs.map PV.int)=some xs
 | []=>rfl
 | x::xs=>by rw [BA,GQ,So xs];rfl
def YV {fa:Fa}{ρ ρ1:Ag}{x:Int}{xs:List Int}{d:Nat} (h:fa ρ=.ok ([(il (x::xs),d)],ρ1)):Am E5 fa ρ=.ok (.int (Bv x xs),om,ρ1):=by
 refine Dy h ?_;show (match GQ ((x::xs).map PV.int) with | some (n::r)=>some (PV.int (Bv n r),om) | _=>none)=_;rw [So]
def Di (c:Int) (t:List (List Int)) (j:Nat):Int:=if t.length=0 then c else g t (t.length - 1) j
def CW (c:Int) (t:List (List Int)) (r:List Int) (j:Nat):Int:=if r.length=0 then Di c t j else min (Di c t j) (r.getD (r.length - 1) 0)
def zT {t:List (List Int)}{r:List Int}{i:Nat}:(t++[r]).getD i []=if i < t.length then t.getD i [] else if i=t.length then r else []:=by
 by_cases h:i < t.length
 ·rw [if_pos h,BI,Dw h,BI]
 ·rw [if_neg h];by_cases h2:i=t.length
  ·rw [if_pos h2,h2,BI,WI];rfl
  ·rw [if_neg h2,BI,NI (by rw [Cd,JL];omega)];rfl
def LN {r:List Int}{x:Int}{i:Nat}:(r++[x]).getD i 0=if i < r.length then r.getD i 0 else if i=r.length then x else 0:=by
 by_cases h:i < r.length
 ·rw [if_pos h,BI,Dw h,BI]
 ·rw [if_neg h];by_cases h2:i=r.length
  ·rw [if_pos h2,h2,BI,WI];rfl
  ·rw [if_neg h2,BI,NI (by rw [Cd,JL];omega)];rfl
def Pile.snoc {k b:Nat}{c:Int}{t:List (List Int)}{r:List Int} (p:Pile k b c t) (hr:r.length=b) (h:∀ y,y < b->0<=r.getD y 0/\r.getD y 0<=Di c t y) (hn:Nr r):Pile (k + 1) b c (t++[r]):=by
 have l:=p.tab.1;have e:∀ i j,g (t++[r]) i j=if i < k then g t i j else if i=k then r.getD j 0 else 0:=λ i j=>by
  unfold g;rw [zT,l];split
  ·rfl
  ·split <;> rfl
 have u:∀ y,y < b->Di c t y<=c:=λ y hy=>by
  unfold Di;split
  ·exact N4 _
  ·exact p.hi _ _ (by omega) hy
 refine ⟨⟨by rw [Cd,l];rfl,λ x hx=>?_⟩,λ i j hi hj=>?_,λ i j hi hj=>?_,λ i j hi hj=>?_,λ i j hi hj=>?_⟩
 ·rcases jc4.mp hx with z | z
  ·exact p.tab.2 x z
  ·rw [jc0.mp z,hr]
 ·rw [e];by_cases z:i < k
  ·rw [if_pos z];exact p.lo i j z hj
  ·rw [if_neg z,if_pos (by omega)];exact (h j hj).1
 ·rw [e];by_cases z:i < k
  ·rw [if_pos z];exact p.hi i j z hj
  ·rw [if_neg z,if_pos (by omega)];exact N5 (h j hj).2 (u j hj)
 ·rw [e,e];by_cases z:i + 1 < k
  ·rw [if_pos z,if_pos (by omega)];exact p.dn i j z hj
  ·rw [if_neg z,if_pos (by omega),if_pos (by omega)]
   have:=(h j hj).2
   unfold Di at this;rw [if_neg (by omega),l,show k - 1=i by omega] at this;exact this
 ·rw [e,e];by_cases z:i < k
  ·rw [if_pos z,if_pos z];exact p.rt i j z hj
  ·rw [if_neg z,if_neg z,if_pos (by omega),if_pos (by omega)];exact hn j (by rw [hr];exact hj)
theorem Sz:∀ xs:List Int,GR (xs.map PV.int)=true
 | []=>rfl
 | x::xs=>by rw [BA,GR,Sz xs];rfl
def Q1 (xs:List Int):d1 (xs.map PV.int)=om:=by unfold d1;rw [Sz];rfl
def LZ {f h k:Fx}{ρ ρ1 ρ2 ρ3:Ag}{t:List (List Int)}{a b i j:Nat}{d e e':Nat} (ht:Tab a b t) (h1:f ρ=.ok (tb t,d,ρ1)) (h2:h ρ1=.ok (.int (i:Int),e,ρ2)) (h3:k ρ2=.ok (.int (j:Int),e',ρ3)) (hi:i < a) (hj:j < b):Ab Ah (Ab Ah f h) k ρ=.ok (.int (g t i j),om,ρ3):=
 EB (xs:=t.getD i []) (k:=(j:Int)) (N1 (t:=t) (k:=(i:Int)) h1 h2 (CK (by omega) (O1 (by rw [ER,ht.1];exact hi)))) h3 (CK (by omega) (DS (by rw [ER,ht.row hi];exact hj)))
theorem SS {asg:PV->Ag->Option Ag}{body:Fs}:∀ (els:List PV) (I:Nat->Ag->Prop) (ρ:Ag),I 0 ρ->(∀ j x ρ,els[j]?=some x->I j ρ->∃ ρ1 ρ2,asg x ρ=some ρ1/\body ρ1=.nx ρ2/\I (j + 1) ρ2)->∃ ρ',Ci asg body els ρ=.nx ρ'/\I els.length ρ'
 | [],I,ρ,h,_=>⟨ρ,rfl,h⟩
 | x::xs,I,ρ,h,hb=>by
  obtain ⟨ρ1,ρ2,e1,e2,h2⟩:=hb 0 x ρ rfl h;obtain ⟨ρ',e',h'⟩:=SS xs (λ j=>I (j + 1)) ρ2 h2 λ j y ρ hy hi=>hb (j + 1) y ρ (by simpa using hy) hi;refine ⟨ρ',?_,h'⟩;unfold Ci;rw [e1];dsimp only;rw [e2];exact e'
def VY {f:Fx}{vs:List Nat}{asg:PV->Ag->Option Ag}{body:Fs}{ρ ρ1 ρ2:Ag}{els:List PV}{d:Nat} (I:Nat->Ag->Prop) (hf:f ρ=.ok (.lst els,d,ρ1)) (ec:CI d vs ρ1=ρ2) (h0:I 0 ρ2)
  (hb:∀ j x ρ,els[j]?=some x->I j ρ->∃ ρ1 ρ2,asg x ρ=some ρ1/\body ρ1=.nx ρ2/\I (j + 1) ρ2):∃ ρ',Fz f vs asg body ρ=.nx ρ'/\I els.length ρ':=by
 obtain ⟨ρ',e,h⟩:=SS els I ρ2 h0 hb;refine ⟨ρ',?_,h⟩;unfold Fz;rw [hf];dsimp only;rw [ec];exact e
abbrev C3:=Nat×Nat×Nat
def LX {en:List (PV×Nat)->Option (Int×Int)}{fa:Fa}{asg:PV->Ag->Option Ag}{body:Fs}{ρ ρ1:Ag}{r:Rs}{as:List (PV×Nat)}{n:Nat} (hf:fa ρ=.ok (as,ρ1)) (hen:en as=some (0,(n:Int))) (h:Ci asg body ((Bw n).map λ (k:Nat)=>.int (k:Int)) ρ1=r):CF en fa asg body ρ=r:=by
 unfold CF;rw [hf];dsimp only;rw [hen];dsimp only;rw [Ml,show ((n:Int) - 0).toNat=n by omega,<- h];congr 2;funext k;rw [JH]
def CN:Fs:=(Ax (bT (Bb (Ab (Be λ i j=>decide (j<=i)) (Aa 0) (Ab Nd (bC (.int 10)) (bC (.int 18)))) (Ab (Be λ i j=>decide (j < i)) (Aa 3) (bC (.int 0))))) (Ae (BW 2 (Ab Az (Aa 3) (bC (.int 64))) [3])
 (Ai false 3 (Ab EY (Aa 3) (bC (.int 64))) [3])) (Ae (Ai false 4 (Ab Az (Ab Co (Ab A1 (Ab A1 (Aa 4) (Ab Co (bC (.int 7)) (Aa 5))) (bC (.int 3))) (bC (.int 48271))) (bC (.int 2147483647))) [4,5])
 (Ae (Ai false 6 (Ab Az (Ab Co (Ab Az (Ab Co (Aa 4) (Aa 4)) (bC (.int 2147483629))) (bC (.int 69621))) (bC (.int 2147483587))) [4,4])
 (BW 2 (Ab Az (Ab EY (Aa 6) (bC (.int 8))) (bC (.int 720720))) [6]))))
def ZL (c:Int) (m:Nat) (hm:m<=1000):∃ ns:List Int,ns.length=m/\c_numbers [.int c,.int (m:Int)]=.ok (il ns,om,.non):=by
 have z:=sz;let R (xs:List Int) (v w:Int) (s5 s6:QQ.Slot):Ag:=[some (.int c,om),some (.int (m:Int),om),some (il xs,om),some (.int v,om),some (.int w,om),s5,s6]
 let R0 (s2 s3 s4:QQ.Slot):Ag:=[some (.int c,om),some (.int (m:Int),om),s2,s3,s4,none,none]
 have s1:Ai false 2 (Am AY (Ac)) [] (R0 none none none)=.nx (R0 (some (il [],om)) none none):=by kernel_rfl
 have s2:Ai false 3 (Aa 0) [0] (R0 (some (il [],om)) none none)=.nx (R0 (some (il [],om)) (some (.int c,om)) none):=by kernel_rfl
 have s3:Ai false 4 (Ab Az (Aa 0) (bC (.int 2147483647))) [0] (R0 (some (il [],om)) (some (.int c,om)) none)=.nx (R [] c (c % 2147483647) none none):=AB (Cg (i:=c) rfl rfl (by decide)) (show 4 < 7 by decide) rfl;obtain ⟨ρ',e6,xs,v,w,s5,s6,rfl,hl⟩:=Mu (i:=5) (body:=CN) (en:=Bo) (fa:=Ad (Aa 1) (Ac)) (ρ:=R [] c (c % 2147483647) none none) (ρ1:=R [] c (c % 2147483647) none none) (as:=[(.int (m:Int),om)]) (lo:=0) (hi:=(m:Int))
  (λ k ρ=>∃ xs v w s5 s6,ρ=R xs v w s5 s6/\xs.length=k) rfl (Fq (by omega) (by omega)) ⟨[],c,_,none,none,rfl,rfl⟩ (by
   rintro j ρ hj ⟨xs,v,w,s5,s6,rfl,hl⟩;let Q (xs:List Int) (v w:Int) (s6:QQ.Slot):Ag:=R xs v w (some (.int (0 + (j:Int)),om)) s6;have app:∀ {f:Fx}{vs:List Nat}{v w:Int}{s6:QQ.Slot}{x:Int},f (Q xs v w s6)=.ok (.int x,om,Q xs v w s6)->BW 2 f vs (Q xs v w s6)=.nx (Q (xs++[x]) v w s6):=λ {f vs v w s6 x} h=>by
    refine (Qv (i:=2) (d0:=999) (d:=om) (y:=.int x) (e:=om) (xs:=xs.map PV.int) (xs0:=xs.map PV.int) rfl h rfl (by decide) (by rw [Bg];omega) rfl).trans ?_;rw [UP];rfl
   have tt:bT (Bb (Ab (Be λ i j=>decide (j<=i)) (Aa 0) (Ab Nd (bC (.int 10)) (bC (.int 18)))) (Ab (Be λ i j=>decide (j < i)) (Aa 3) (bC (.int 0)))) (Q xs v w s6)=.ok (decide ((10:Int) ^ 18<=c) && decide (0 < v),Q xs v w s6):=Av (DJ (b:=decide (0 < v)) (a:=decide ((10:Int) ^ 18<=c)) (d:=om) (by kernel_rfl) (λ _=>rfl) rfl);refine ⟨show 5 < 7 by decide,?_⟩;cases hd:decide ((10:Int) ^ 18<=c) && decide (0 < v) with
   | true=>
    rw [hd] at tt;refine ⟨Q (xs++[v % 64]) (v / 64) w s6,(A4 tt).trans ((A2 (app (Cg (i:=v) rfl rfl (by decide)))).trans (AB (Nz (i:=v) rfl rfl (by decide) (by decide)) (show 3 < 7 by decide) rfl)),_,_,_,_,_,rfl,?_⟩;rw [Cd,hl];rfl
   | false=>
    rw [hd] at tt;let w':=(w + 7 * (0 + (j:Int)) + 3) * 48271 % 2147483647;have w0:=Fi ((w + 7 * (0 + (j:Int)) + 3) * 48271) (show (2147483647:Int)≠0 by decide);have w1:=FY ((w + 7 * (0 + (j:Int)) + 3) * 48271) (show (0:Int) < 2147483647 by decide);have u1:Ai false 4 (Ab Az (Ab Co (Ab A1 (Ab A1 (Aa 4) (Ab Co (bC (.int 7)) (Aa 5))) (bC (.int 3))) (bC (.int 48271))) (bC (.int 2147483647))) [4,5] (Q xs v w s6)=.nx (Q xs v w' s6):=AB (Cg (HS (DP (DP (i:=w) rfl (HS (i:=7) (j:=0 + (j:Int)) rfl rfl (.inl (by decide)))) (j:=3) rfl) (j:=48271) rfl (.inr (by decide))) (j:=2147483647) rfl (by decide)) (show 4 < 7 by decide) rfl;let y:=w' * w' % 2147483629 * 69621 % 2147483587;have u2:Ai false 6 (Ab Az (Ab Co (Ab Az (Ab Co (Aa 4) (Aa 4)) (bC (.int 2147483629))) (bC (.int 69621))) (bC (.int 2147483587))) [4,4] (Q xs v w' s6)=.nx (Q xs v w' (some (.int y,om))):=AB (Cg (HS (Cg (HS (i:=w') (j:=w') rfl rfl (.inl (by show -(2 ^ 64) < w'/\w' < 2 ^ 64;omega))) (j:=2147483629) rfl (by decide)) (j:=69621) rfl (.inr (by decide))) (j:=2147483587) rfl (by decide)) (show 6 < 7 by decide) rfl;refine ⟨_,(AK tt).trans ((A2 u1).trans ((A2 u2).trans (app (Cg (Nz (i:=y) rfl rfl (by decide) (by decide)) (j:=720720) rfl (by decide))))),_,_,_,_,_,rfl,?_⟩;rw [Cd,hl];rfl)
 rw [show ((m:Int) - 0).toNat=m by omega] at hl;exact ⟨xs,hl,BG rfl ((A2 s1).trans ((A2 s2).trans ((A2 s3).trans ((A2 e6).trans rfl))))⟩
def Mb (x:Int) (m:Nat) (hm:0 < m):∃ n:Nat,1 + x % (m:Int)=(n:Int)/\1<=n/\n<=m:=by
 have h0:=Fi x (show (m:Int)≠0 by omega);have h1:=FY x (show (0:Int) < m by omega);exact ⟨(1 + x % (m:Int)).toNat,by omega,by omega,by omega⟩
def ZG (ys:List Int) (hl:ys.length=4):∃ a b c:Nat,(1<=a/\a<=6)/\(1<=b/\b<=6)/\(1<=c/\c<=6)/\c_box [il ys]=.ok (bx a b c,om,.non):=by
 let R (a b c:Nat):Ag:=[some (il ys,0),some (bx a b c,om)]
 have ix:∀ (k:Nat) (ρ:Ag),k < 4->Aa 0 ρ=.ok (il ys,0,ρ)->Ab Ah (Aa 0) (bC (.int (k:Int))) ρ=.ok (.int (ys.getD k 0),om,ρ):=λ k ρ hk h=>EB (xs:=ys) (k:=(k:Int)) h rfl (CK (by omega) (DS (by rw [ER];omega)));have tup:∀ (m:Nat) (ρ:Ag),0 < m->m<=6->Aa 0 ρ=.ok (il ys,0,ρ)->∃ a b c:Nat,(1<=a/\a<=6)/\(1<=b/\b<=6)/\(1<=c/\c<=6)/\Am BJ (Ad (Ab A1 (bC (.int 1)) (Ab Az (Ab Ah (Aa 0) (bC (.int 0))) (bC (.int (m:Int))))) (Ad (Ab A1 (bC (.int 1)) (Ab Az (Ab Ah (Aa 0) (bC (.int 1))) (bC (.int (m:Int))))) (Ad (Ab A1 (bC (.int 1)) (Ab Az (Ab Ah (Aa 0) (bC (.int 2))) (bC (.int (m:Int))))) (Ac)))) ρ=.ok (bx a b c,om,ρ):=λ m ρ h0 h6 hρ=>by
  obtain ⟨a,ea,ha⟩:=Mb (ys.getD 0 0) m h0;obtain ⟨b,eb,hb⟩:=Mb (ys.getD 1 0) m h0;obtain ⟨c,ec,hc⟩:=Mb (ys.getD 2 0) m h0;refine ⟨a,b,c,by omega,by omega,by omega,?_⟩;rw [<- ea,<- eb,<- ec];exact Dy (De (DP (i:=1) (d:=om) rfl (Cg (ix 0 ρ (by decide) hρ) rfl (by omega))) (De (DP (i:=1) (d:=om) rfl (Cg (ix 1 ρ (by decide) hρ) rfl (by omega))) (Cw (DP (i:=1) (d:=om) rfl (Cg (ix 2 ρ (by decide) hρ) rfl (by omega)))))) rfl
 obtain ⟨a,b,c,ha,hb,hc,e1⟩:=tup 3 [some (il ys,0),none] (by decide) (by decide) rfl;have tst:∀ (m r:Int) (ρ:Ag),0 < m->Aa 0 ρ=.ok (il ys,0,ρ)->bT (Ab (Ak false) (Ab Az (Ab Ah (Aa 0) (bC (.int 3))) (bC (.int m))) (bC (.int r))) ρ=.ok (decide (ys.getD 3 0 % m=r),ρ):=λ m r ρ hm h=>by
  have:=Av (Dk (neg:=false) (Cg (ix 3 ρ (by decide) h) (g:=bC (.int m)) (j:=m) (e:=om) rfl hm) (g:=bC (.int r)) (j:=r) (e:=om) rfl)
  rw [FV] at this;exact this
 have v1:Ai false 1 (Am BJ (Ad (Ab A1 (bC (.int 1)) (Ab Az (Ab Ah (Aa 0) (bC (.int 0))) (bC (.int 3)))) (Ad (Ab A1 (bC (.int 1)) (Ab Az (Ab Ah (Aa 0) (bC (.int 1))) (bC (.int 3)))) (Ad (Ab A1 (bC (.int 1)) (Ab Az (Ab Ah (Aa 0) (bC (.int 2))) (bC (.int 3)))) (Ac))))) [0,0,0] [some (il ys,0),none]=.nx (R a b c):=AB e1 (show 1 < 2 by decide) rfl;have v2:∃ a' b' c':Nat,(1<=a'/\a'<=6)/\(1<=b'/\b'<=6)/\(1<=c'/\c'<=6)/\(Ax (bT (Ab (Ak false) (Ab Az (Ab Ah (Aa 0) (bC (.int 3))) (bC (.int 4))) (bC (.int 1)))) (Ai false 1 (Am BJ (Ad (Ab A1 (bC (.int 1)) (Ab Az (Ab Ah (Aa 0) (bC (.int 0))) (bC (.int 6)))) (Ad (Ab A1 (bC (.int 1)) (Ab Az (Ab Ah (Aa 0) (bC (.int 1))) (bC (.int 6)))) (Ad (Ab A1 (bC (.int 1)) (Ab Az (Ab Ah (Aa 0) (bC (.int 2))) (bC (.int 6)))) (Ac))))) [0,0,0]) Al) (R a b c)=.nx (R a' b' c'):=by
  have tt:=tst 4 1 (R a b c) (by decide) rfl;cases hd:decide (ys.getD 3 0 % 4=1) with
  | true=>
   rw [hd] at tt;obtain ⟨a',b',c',ha',hb',hc',e2⟩:=tup 6 (R a b c) (by decide) (by decide) rfl;exact ⟨a',b',c',ha',hb',hc',(A4 tt).trans (AB e2 (show 1 < 2 by decide) rfl)⟩
  | false=>rw [hd] at tt;exact ⟨a,b,c,ha,hb,hc,(AK tt).trans rfl⟩
 obtain ⟨a1,b1,c1,ha1,hb1,hc1,v2⟩:=v2;have v3:∃ a' b' c':Nat,(1<=a'/\a'<=6)/\(1<=b'/\b'<=6)/\(1<=c'/\c'<=6)/\(Ax (bT (Ab (Ak false) (Ab Az (Ab Ah (Aa 0) (bC (.int 3))) (bC (.int 4))) (bC (.int 2)))) (Ai false 1 (Am BJ (Ad (Ab Ah (Aa 1) (bC (.int 0))) (Ad (Ab Ah (Aa 1) (bC (.int 0))) (Ad (Ab Ah (Aa 1) (bC (.int 0))) (Ac))))) [1,1,1]) Al) (R a1 b1 c1)=.nx (R a' b' c'):=by
  have tt:=tst 4 2 (R a1 b1 c1) (by decide) rfl;cases hd:decide (ys.getD 3 0 % 4=2) with
  | true=>rw [hd] at tt;exact ⟨a1,a1,a1,ha1,ha1,ha1,(A4 tt).trans rfl⟩
  | false=>rw [hd] at tt;exact ⟨a1,b1,c1,ha1,hb1,hc1,(AK tt).trans rfl⟩
 obtain ⟨a2,b2,c2,ha2,hb2,hc2,v3⟩:=v3;have v4:∃ a' b' c':Nat,(1<=a'/\a'<=6)/\(1<=b'/\b'<=6)/\(1<=c'/\c'<=6)/\(Ax (bT (Ab (Ak false) (Ab Az (Ab Ah (Aa 0) (bC (.int 3))) (bC (.int 8))) (bC (.int 3)))) (Ai false 1 (Am BJ (Ad (Ab Ah (Aa 1) (bC (.int 0))) (Ad (Ab Ah (Aa 1) (bC (.int 0))) (Ad (Ab Ah (Aa 1) (bC (.int 2))) (Ac))))) [1,1,1]) Al) (R a2 b2 c2)=.nx (R a' b' c'):=by
  have tt:=tst 8 3 (R a2 b2 c2) (by decide) rfl;cases hd:decide (ys.getD 3 0 % 8=3) with
  | true=>rw [hd] at tt;exact ⟨a2,a2,c2,ha2,ha2,hc2,(A4 tt).trans rfl⟩
  | false=>rw [hd] at tt;exact ⟨a2,b2,c2,ha2,hb2,hc2,(AK tt).trans rfl⟩
 obtain ⟨a3,b3,c3,ha3,hb3,hc3,v4⟩:=v4;exact ⟨a3,b3,c3,ha3,hb3,hc3,BG rfl ((A2 v1).trans ((A2 v2).trans ((A2 v3).trans ((A2 v4).trans rfl))))⟩
def VO {i:Nat}{fk f:Fx}{ρ ρ1 ρ2 ρ3:Ag}{y:PV}{xs:List PV}{k:Int}{j d d2:Nat} (h:f ρ=.ok (y,om,ρ1)) (h0:ρ1[i]?=some (some (.lst xs,d))) (hk:fk ρ1=.ok (.int k,d2,ρ2)) (h1:ρ2[i]?=some (some (.lst xs,d))) (hj:Dq xs.length k=some j) (hd:d≠0) (hy:JE y=false) (e:ρ2.set i (some (.lst (xs.set j y),1))=ρ3):E6 i fk f ρ=.nx ρ3:=by
 unfold E6;rw [h];dsimp only;rw [h0];dsimp only;rw [hk];dsimp only;rw [h1];dsimp only [FP];rw [hj];dsimp only;rw [if_neg (λ z=>by rw [hy] at z;cases z.2),if_pos ⟨hd,rfl,rfl⟩,e]
def CH:Fx:=Ab Ah (Am AY (Ad (Ab Az (Aa 7) (Ab A1 (Aa 6) (bC (.int 1)))) (Ad (Am Gr (Ad (bC (.int 0)) (Ad (Ab CD (Aa 6) (Ab EY (Ab Az (Aa 7) (bC (.int 3))) (bC (.int 2)))) (Ac)))) (Ad (Ab Az (Aa 7) (Ab A1 (Aa 6) (bC (.int 1)))) (Ad (Aa 6) (Ac)))))) (Ab Az (Ab Ah (Aa 1) (bC (.int 36))) (bC (.int 4)))
def CS:Fs:=(Ae (Ai false 6 (Ab Ah (Aa 0) (bC (.int 2))) [0])
 (Ae (Ax (bT (Ab (Be λ i j=>decide (j < i)) (Aa 3) (bC (.int 0)))) (Ai false 6 (Ab Ah (Ab Ah (Aa 2) (Ab CD (Aa 3) (bC (.int 1)))) (Aa 5)) [2,3,5]) Al)
 (Ae (Ax (bT (Ab (Be λ i j=>decide (j < i)) (Aa 5) (bC (.int 0)))) (Ai false 6 (Am E5 (Ad (Aa 6) (Ad (Ab Ah (Aa 4) (Ab CD (Aa 5) (bC (.int 1)))) (Ac)))) [6,4,5]) Al)
 (Ae (Ai false 7 (Ab Ah (Aa 1) (Ab A1 (Ab Co (bC (.int 6)) (Aa 3)) (Aa 5))) [1,3,5])
 (BW 4 CH [7,6,6,7,7,6,6,1])))))
def CR:Fs:=(Ae (Ai false 4 (Am AY (Ac)) [])
 (Ae (CF Bo (Ad (Ab Ah (Aa 0) (bC (.int 1))) (Ac)) (Ao 5) CS)
 (BW 2 (Aa 4) [4])))
def NZ:Fx:=BK (Ab Ah (Aa 2) (Ap Cp (bC (.int 1)))) 1 (Ao 8) By (Ab CD (Aa 8) (Ab Az (Ab Ah (Aa 1) (bC (.int 37))) (Ab A1 (Aa 8) (bC (.int 1)))))
def NY:Fx:=Du Bo (Ad (Ab Ah (Aa 0) (bC (.int 1))) (Ac)) 1 (Ao 8) By (Am E5 (Ad (Bu (Ab Ah (Aa 2) (Ap Cp (bC (.int 1)))) none (some (Ab A1 (Aa 8) (bC (.int 1))))) (Ac)))
def jV:Xc_pile=(Ae (Ai false 2 (Am AY (Ac)) [])
 (Ae (CF Bo (Ad (Ab Ah (Aa 0) (bC (.int 0))) (Ac)) (Ao 3) CR)
 (Ae (Ax (bT (Ab (Ak false) (Ab Az (Ab Ah (Aa 1) (bC (.int 36))) (bC (.int 4))) (bC (.int 3)))) (Ae (E6 2 (Ap Cp (bC (.int 1))) NZ) (E6 2 (Ap Cp (bC (.int 1))) NY)) Al)
 (FA 2)))):=rfl
def Xj {a b c:Nat}{t:List (List Int)}{r:List Int} (p:Pile a b c t) (ha:1<=a) (hr:r.length=b) (hn:Nr r) (h:∀ y,y < b->0<=r.getD y 0/\r.getD y 0<=g t (a - 1) y):Pile a b c (t.set (a - 1) r):=by
 have l:=p.tab.1;have e:∀ x y,x < a->g (t.set (a - 1) r) x y=if x=a - 1 then r.getD y 0 else g t x y:=λ x y hx=>by
  show ((t.set (a - 1) r).getD x []).getD y 0=_;by_cases z:x=a - 1
  ·rw [if_pos z,z,Su (by omega)]
  ·rw [if_neg z,Xf (λ q=>z q.symm)];rfl
 refine ⟨⟨by rw [FW];exact l,λ s hs=>?_⟩,λ x y hx hy=>?_,λ x y hx hy=>?_,λ x y hx hy=>?_,λ x y hx hy=>?_⟩
 ·rcases WH hs with z | z
  ·exact p.tab.2 s z
  ·rw [z];exact hr
 ·rw [e x y hx]
  have:=p.lo x y hx hy
  have:=h y hy
  split <;> omega
 ·rw [e x y hx]
  have:=p.hi x y hx hy
  have:=p.hi (a - 1) y (by omega) hy
  have:=h y hy
  split <;> omega
 ·rw [e (x + 1) y hx,e x y (by omega)];have k:=p.dn x y hx hy
  have:=h y hy
  rw [if_neg (show ¬ x=a - 1 by omega)];split
  ·rename_i z;rw [z] at k;omega
  ·exact k
 ·rw [e x (y + 1) hx,e x y hx]
  have:=p.rt x y hx hy
  split
  ·exact hn y (by rw [hr];exact hy)
  ·omega
def Fv (r:List Int) (j:Nat):Int:=Bv (r.getD 0 0) ((r.drop 1).take j)
theorem Vi {m:Int}:∀ {xs:List Int}{n:Int},m<=n->(∀ x∈xs,m<=x)->m<=Bv n xs
 | [],n,h,_=>h
 | x::xs,n,h,hx=>by
  show m<=Bv (if x < n then x else n) xs;refine Vi ?_ λ y hy=>hx y (AU _ hy)
  have:=hx x Ba
  split <;> omega
theorem Oe:∀ {xs:List Int}{n:Int},Bv n xs<=n
 | [],n=>N4 _
 | x::xs,n=>by
  show Bv (if x < n then x else n) xs<=n;refine N5 (Oe (xs:=xs)) ?_;split <;> omega
theorem minI_le:∀ {xs:List Int}{n:Int}{x:Int},x∈xs->Bv n xs<=x
 | y::xs,n,x,h=>by
  show Bv (if y < n then y else n) xs<=x;rcases jb2.mp h with rfl | h
  ·refine N5 (Oe (xs:=xs)) ?_;split <;> omega
  ·exact minI_le h
theorem VI:∀ {xs:List Int}{n x:Int},Bv n (xs++[x])<=Bv n xs
 | [],n,x=>by
  show (if x < n then x else n)<=n;split <;> omega
 | y::xs,n,x=>VI (xs:=xs) (n:=if y < n then y else n)
theorem jD {r:List Int}{j:Nat} (hj:j < r.length):Fv r j<=r.getD j 0:=by
 unfold Fv;cases j with
 | zero=>exact Oe
 | succ j=>
  refine minI_le (List.mem_iff_getElem?.mpr ⟨j,?_⟩);rw [List.getElem?_take,if_pos (by omega),W8,show 1 + j=j + 1 by omega];exact DS hj
def j6 {r:List Int}{j:Nat}{m:Int} (h0:0 < r.length) (h:∀ x∈r,m<=x):m<=Fv r j:=Vi (h _ (LH h0)) λ x hx=>h x (R7 (Ry hx))
def j5 {r:List Int}{j:Nat} (hj:j + 1 < r.length):Fv r (j + 1)<=Fv r j:=by
 unfold Fv
 have:(r.drop 1).take (j + 1)=(r.drop 1).take j++[r.getD (j + 1) 0]:=by
  rw [List.take_add_one,W8,show 1 + j=j + 1 by omega,DS hj];rfl
 rw [this];exact VI
theorem ja {r:List Int}{j:Nat} (h0:0 < r.length):r.take (j + 1)=r.getD 0 0::(r.drop 1).take j:=by
 cases r with
 | nil=>cases h0
 | cons x r=>rfl
def xQ {a b c:Nat} (xs:List Int) (hx:44<=xs.length) (ha:1<=a/\a<=6) (hb:1<=b/\b<=6) (hc:1<=c/\c<=99):∃ t d,Pile a b c t/\d≠0/\c_pile [bx a b c,il xs]=.ok (tb t,d,.non):=by
 have z:=sz;let R (t:List (List Int)) (d2:Nat) (s3 s4 s5 s6 s7:QQ.Slot):Ag:=[some (bx a b c,0),some (il xs,0),some (tb t,d2),s3,s4,s5,s6,s7]
 have ix:∀ (k:Nat) (f:Fx) (ρ:Ag),k < 44->Aa 1 ρ=.ok (il xs,0,ρ)->f ρ=.ok (.int (k:Int),om,ρ)->Ab Ah (Aa 1) f ρ=.ok (.int (xs.getD k 0),om,ρ):=λ k f ρ hk h h2=>EB (xs:=xs) (k:=(k:Int)) h h2 (CK (by omega) (DS (by rw [ER];omega)));let m:Int:=xs.getD 36 0 % 4;have m0:=Fi (xs.getD 36 0) (show (4:Int)≠0 by decide);have m1:=FY (xs.getD 36 0) (show (0:Int) < 4 by decide);have em:∀ ρ,Aa 1 ρ=.ok (il xs,0,ρ)->Ab Az (Ab Ah (Aa 1) (bC (.int 36))) (bC (.int 4)) ρ=.ok (.int m,om,ρ):=λ ρ h=>Cg (ix 36 (bC (.int 36)) ρ (by decide) h rfl) rfl (by decide);have s1:Ai false 2 (Am AY (Ac)) [] [some (bx a b c,0),some (il xs,0),none,none,none,none,none,none]=.nx (R [] om none none none none none):=by kernel_rfl
 have step:∀ (t:List (List Int)) (d2 k j:Nat) (r:List Int) (s6 s7:QQ.Slot),k < a->j < b->Pile k b c t->r.length=j->(∀ y,y < j->0<=r.getD y 0)->∃ h s6' s7',(0<=h/\h<=CW c t r j)/\CS (R t d2 (some (.int (k:Int),om)) (some (il r,om)) (some (.int (j:Int),om)) s6 s7)=.nx (R t d2 (some (.int (k:Int),om)) (some (il (r++[h]),om)) (some (.int (j:Int),om)) s6' s7'):=by
  intro t d2 k j r s6 s7 hk hj p hr hr0;let Q (s6 s7:QQ.Slot):Ag:=R t d2 (some (.int (k:Int),om)) (some (il r,om)) (some (.int (j:Int),om)) s6 s7;have l:=p.tab.1;have v1:Ai false 6 (Ab Ah (Aa 0) (bC (.int 2))) [0] (Q s6 s7)=.nx (Q (some (.int (c:Int),om)) s7):=rfl;have v2:Ax (bT (Ab (Be λ i j=>decide (j < i)) (Aa 3) (bC (.int 0)))) (Ai false 6 (Ab Ah (Ab Ah (Aa 2) (Ab CD (Aa 3) (bC (.int 1)))) (Aa 5)) [2,3,5]) Al (Q (some (.int (c:Int),om)) s7)=.nx (Q (some (.int (Di c t j),om)) s7):=by
   have tt:bT (Ab (Be λ i j=>decide (j < i)) (Aa 3) (bC (.int 0))) (Q (some (.int (c:Int),om)) s7)=.ok (decide ((0:Int) < (k:Int)),Q (some (.int (c:Int),om)) s7):=rfl;by_cases h0:k=0
   ·rw [decide_eq_false (by omega)] at tt;refine (AK tt).trans ?_;unfold Di;rw [if_pos (by omega)];rfl
   ·rw [decide_eq_true (by omega)] at tt;refine (A4 tt).trans ?_;unfold Di;rw [if_neg (by omega),l];have q:Ab CD (Aa 3) (bC (.int 1)) (Q (some (.int (c:Int),om)) s7)=.ok (.int ((k - 1:Nat):Int),om,Q (some (.int (c:Int),om)) s7):=by
     rw [show ((k - 1:Nat):Int)=(k:Int) - 1 by omega];exact Js (i:=(k:Int)) (j:=1) rfl rfl
    exact AB (LZ (i:=k - 1) (j:=j) p.tab (d:=0) (e':=om) rfl q rfl (by omega) hj) (show 6 < 8 by decide) rfl
  have v3:Ax (bT (Ab (Be λ i j=>decide (j < i)) (Aa 5) (bC (.int 0)))) (Ai false 6 (Am E5 (Ad (Aa 6) (Ad (Ab Ah (Aa 4) (Ab CD (Aa 5) (bC (.int 1)))) (Ac)))) [6,4,5]) Al (Q (some (.int (Di c t j),om)) s7)=.nx (Q (some (.int (CW c t r j),om)) s7):=by
   have tt:bT (Ab (Be λ i j=>decide (j < i)) (Aa 5) (bC (.int 0))) (Q (some (.int (Di c t j),om)) s7)=.ok (decide ((0:Int) < (j:Int)),Q (some (.int (Di c t j),om)) s7):=rfl;by_cases h0:j=0
   ·rw [decide_eq_false (by omega)] at tt;refine (AK tt).trans ?_;unfold CW;rw [if_pos (by omega)];rfl
   ·rw [decide_eq_true (by omega)] at tt;refine (A4 tt).trans ?_;have q:Ab CD (Aa 5) (bC (.int 1)) (Q (some (.int (Di c t j),om)) s7)=.ok (.int ((j - 1:Nat):Int),om,Q (some (.int (Di c t j),om)) s7):=by
     rw [show ((j - 1:Nat):Int)=(j:Int) - 1 by omega];exact Js (i:=(j:Int)) (j:=1) rfl rfl
    have e1:CW c t r j=if r.getD (j - 1) 0 < Di c t j then r.getD (j - 1) 0 else Di c t j:=by
     unfold CW;rw [if_neg (by omega),hr];split <;> omega
    rw [e1];exact AB (Dy (De (x:=.int (Di c t j)) (d:=om) rfl (Cw (EB (xs:=r) (k:=((j - 1:Nat):Int)) (d:=0) rfl q (CK (by omega) (DS (by rw [ER];omega)))))) rfl) (show 6 < 8 by decide) rfl
  have u0:0<=Di c t j:=by
   unfold Di;split
   ·omega
   ·exact p.lo _ _ (by omega) hj
  have t0:0<=CW c t r j:=by
   unfold CW;split
   ·exact u0
   ·have:=hr0 (r.length - 1) (by omega)
    omega
  let T:=CW c t r j;let n:Int:=xs.getD (6 * k + j) 0;have v4:Ai false 7 (Ab Ah (Aa 1) (Ab A1 (Ab Co (bC (.int 6)) (Aa 3)) (Aa 5))) [1,3,5] (Q (some (.int T,om)) s7)=.nx (Q (some (.int T,om)) (some (.int n,om))):=by
   refine AB (ix (6 * k + j) _ _ (by omega) rfl ?_) (show 7 < 8 by decide) rfl;rw [show ((6 * k + j:Nat):Int)=6 * (k:Int) + (j:Int) by omega];exact DP (HS (i:=6) (j:=(k:Int)) rfl rfl (.inl (by decide))) (j:=(j:Int)) rfl
  let W:Ag:=Q (some (.int T,om)) (some (.int n,om));have a0:=Fi n (show T + 1≠0 by omega);have a1:=FY n (show 0 < T + 1 by omega);have b0:=Fi n (show (3:Int)≠0 by decide);have b1:=FY n (show (0:Int) < 3 by decide);let mx:Int:=if T - n % 3 / 2 > 0 then T - n % 3 / 2 else 0
  let ch:List Int:=[n % (T + 1),mx,n % (T + 1),T]
  have hmx:0<=mx/\mx<=T:=by
   show 0<=(if T - n % 3 / 2 > 0 then T - n % 3 / 2 else 0)/\(if T - n % 3 / 2 > 0 then T - n % 3 / 2 else 0)<=T;split <;> omega
  have hch:∀ x∈ch,0<=x/\x<=T:=by
   intro x hx;simp only [ch,jb2,Lu,or_false] at hx;rcases hx with e | e | e | e <;> omega
  have f1:Ab Az (Aa 7) (Ab A1 (Aa 6) (bC (.int 1))) W=.ok (.int (n % (T + 1)),om,W):=Cg (i:=n) rfl (DP (i:=T) (j:=1) rfl rfl) (by omega);have f2:Am Gr (Ad (bC (.int 0)) (Ad (Ab CD (Aa 6) (Ab EY (Ab Az (Aa 7) (bC (.int 3))) (bC (.int 2)))) (Ac))) W=.ok (.int mx,om,W):=Dy (De (x:=.int 0) (d:=om) rfl (Cw (Js (i:=T) rfl (Nz (Cg (i:=n) (j:=3) rfl rfl (by decide)) (j:=2) rfl (by decide) (by decide))))) rfl;have f5:Am AY (Ad (Ab Az (Aa 7) (Ab A1 (Aa 6) (bC (.int 1)))) (Ad (Am Gr (Ad (bC (.int 0)) (Ad (Ab CD (Aa 6) (Ab EY (Ab Az (Aa 7) (bC (.int 3))) (bC (.int 2)))) (Ac)))) (Ad (Ab Az (Aa 7) (Ab A1 (Aa 6) (bC (.int 1)))) (Ad (Aa 6) (Ac))))) W=.ok (il ch,om,W):=Dy (De f1 (De f2 (De f1 (Cw (x:=.int T) (d:=om) rfl)))) rfl;have f6:CH W=.ok (.int (ch.getD m.toNat 0),om,W):=EB f5 (k:=m) (em W rfl) (CK m0 (DS (by show m.toNat < 4;omega)));have hm:=hch _ (LH (xs:=ch) (i:=m.toNat) (by show m.toNat < 4;omega));refine ⟨ch.getD m.toNat 0,some (.int T,om),some (.int n,om),hm,(A2 v1).trans ((A2 v2).trans ((A2 v3).trans ((A2 v4).trans ((Qv (i:=4) (d0:=999) (d:=om) (xs:=r.map PV.int) (xs0:=r.map PV.int) rfl f6 rfl (by decide) (by rw [Bg];omega) rfl).trans ?_))))⟩;rw [UP];rfl
 obtain ⟨ρ',e6,t,d2,s3,s4,s5,s6,s7,rfl,pt,hd2⟩:=Mu (i:=3) (body:=CR) (en:=Bo) (fa:=Ad (Ab Ah (Aa 0) (bC (.int 0))) (Ac)) (ρ:=R [] om none none none none none) (ρ1:=R [] om none none none none none) (as:=[(.int (a:Int),om)]) (lo:=0) (hi:=(a:Int))
  (λ k ρ=>∃ t d2 s3 s4 s5 s6 s7,ρ=R t d2 s3 s4 s5 s6 s7/\Pile k b c t/\d2≠0) rfl (Fq (by omega) (by omega)) ⟨[],om,none,none,none,none,none,rfl,⟨⟨rfl,λ _ h=>nomatch h⟩,λ _ _ h=>absurd h (by omega),λ _ _ h=>absurd h (by omega),λ _ _ h=>absurd h (by omega),λ _ _ h=>absurd h (by omega)⟩,by decide⟩ (by
   rintro k ρ hk ⟨t,d2,s3,s4,s5,s6,s7,rfl,pt,hd2⟩;have hk':k < a:=by omega
   rw [JH];let K:QQ.Slot:=some (.int (k:Int),om);have u1:Ai false 4 (Am AY (Ac)) [] (R t d2 K s4 s5 s6 s7)=.nx (R t d2 K (some (il [],om)) s5 s6 s7):=rfl;obtain ⟨ρ2,e2,r,t5,t6,t7,rfl,hr,hr0,hr1,hrn⟩:=Mu (i:=5) (body:=CS) (en:=Bo) (fa:=Ad (Ab Ah (Aa 0) (bC (.int 1))) (Ac)) (ρ:=R t d2 K (some (il [],om)) s5 s6 s7) (ρ1:=R t d2 K (some (il [],om)) s5 s6 s7) (as:=[(.int (b:Int),om)]) (lo:=0) (hi:=(b:Int))
    (λ j ρ=>∃ r s5 s6 s7,ρ=R t d2 K (some (il r,om)) s5 s6 s7/\r.length=j/\(∀ y,y < j->0<=r.getD y 0)/\(∀ y,y < j->r.getD y 0<=Di c t y)/\Nr r) rfl (Fq (by omega) (by omega)) ⟨[],s5,s6,s7,rfl,rfl,λ _ h=>absurd h (by omega),λ _ h=>absurd h (by omega),λ _ h=>absurd h (by simp)⟩ (by
     rintro j ρ hj ⟨r,s5,s6,s7,rfl,hr,hr0,hr1,hrn⟩;obtain ⟨h,t6,t7,hh,eh⟩:=step t d2 k j r s6 s7 hk' (by omega) pt hr hr0;refine ⟨show 5 < 8 by decide,R t d2 K (some (il (r++[h]),om)) (some (.int (j:Int),om)) t6 t7,?_,r++[h],some (.int (j:Int),om),t6,t7,rfl,by rw [Cd,hr];rfl,λ y hy=>?_,λ y hy=>?_,λ y hy=>?_⟩
     ·rw [JH];exact eh
     ·rw [LN];by_cases e:y < r.length
      ·rw [if_pos e];exact hr0 y (by omega)
      ·rw [if_neg e,if_pos (by omega)];exact hh.1
     ·rw [LN];by_cases e:y < r.length
      ·rw [if_pos e];exact hr1 y (by omega)
      ·rw [if_neg e,if_pos (by omega),show y=j by omega]
       have:=hh.2
       unfold CW at this;split at this <;> omega
     ·rw [Cd,JL] at hy;rw [LN,LN];by_cases e:y + 1 < r.length
      ·rw [if_pos e,if_pos (by omega)];exact hrn y e
      ·rw [if_neg e,if_pos (by omega),if_pos (by omega)]
       have:=hh.2
       unfold CW at this;rw [if_neg (by omega),show r.length - 1=y by omega] at this
       omega)
   rw [show ((b:Int) - 0).toNat=b by omega] at hr hr0 hr1;refine ⟨show 3 < 8 by decide,R (t++[r]) 1 K (some (il r,0)) t5 t6 t7,?_,t++[r],1,_,_,_,_,_,rfl,pt.snoc hr (λ y hy=>⟨hr0 y hy,hr1 y hy⟩) hrn,by decide⟩;refine (A2 u1).trans ((A2 e2).trans ?_);obtain ⟨d0,rfl⟩:∃ d0,d2=d0 + 1:=⟨d2 - 1,by omega⟩
   refine (Qv (i:=2) (d0:=d0) (d:=d0 + 1) (y:=il r) (e:=0) (xs:=t.map il) (xs0:=t.map il) rfl rfl rfl hd2 (by rw [Bg,pt.tab.1];omega) rfl).trans ?_;rw [xt,if_neg (λ h=>absurd h.2 (by decide))]
   rfl)
 rw [show ((a:Int) - 0).toNat=a by omega] at pt;let W (t:List (List Int)) (d:Nat):Ag:=R t d s3 s4 s5 s6 s7;have l:=pt.tab.1;have tt:=Av (Dk (neg:=false) (em (W t d2) rfl) (g:=bC (.int 3)) (j:=3) (e:=om) rfl);rw [FV] at tt;have fin:∃ t' d,Pile a b c t'/\d≠0/\Ax (bT (Ab (Ak false) (Ab Az (Ab Ah (Aa 1) (bC (.int 36))) (bC (.int 4))) (bC (.int 3)))) (Ae (E6 2 (Ap Cp (bC (.int 1))) NZ) (E6 2 (Ap Cp (bC (.int 1))) NY)) Al (W t d2)=.nx (W t' d):=by
  cases hd:decide (m=3) with
  | false=>rw [hd] at tt;exact ⟨t,d2,pt,hd2,(AK tt).trans rfl⟩
  | true=>
   rw [hd] at tt;have last:∀ (t:List (List Int)) (d:Nat),Tab a b t->Ab Ah (Aa 2) (Ap Cp (bC (.int 1))) (W t d)=.ok (il (t.getD (a - 1) []),0,W t d):=λ t d ht=>N1 (t:=t) (k:=-1) (d:=0) rfl rfl (V3 (by rw [ht.1];exact O1 (by rw [ht.1];omega)));let r:=t.getD (a - 1) [];have hr:r.length=b:=pt.tab.row (by omega);let w:Int:=xs.getD 37 0;let r1:List Int:=r.map λ x=>x - w % (x + 1);have r0:∀ x∈r,0<=x:=λ x hx=>by
    obtain ⟨y,hy,e⟩:=QV.mem_getD hx;rw [<- e];exact pt.lo (a - 1) y (by omega) (by omega)
   have c1:NZ (W t d2)=.ok (il r1,om,W t d2):=by
    have k:=Ge (n:=8) (elt:=Ab CD (Aa 8) (Ab Az (Ab Ah (Aa 1) (bC (.int 37))) (Ab A1 (Aa 8) (bC (.int 1))))) (enc:=PV.int) (q:=λ x=>.int (x - w % (x + 1))) r (last t d2 pt.tab) rfl (λ x hx=>by
     have:=r0 x hx
     exact Js (i:=x) (d:=om) rfl (Cg (ix 37 (bC (.int 37)) _ (by decide) rfl rfl) (DP (i:=x) (j:=1) (d:=om) (e:=om) rfl rfl) (by omega))) (by omega)
    refine k.trans ?_;show Rz.ok (PV.lst _,om,_)=Rz.ok (PV.lst ((r.map λ x=>x - w % (x + 1)).map PV.int),om,_);rw [Ec];rfl
   have ij:∀ t:List (List Int),t.length=a->Dq (t.map il).length (-1)=some (a - 1):=λ t h=>by
    unfold Dq;rw [Bg,h,if_neg (by decide),if_pos (by omega),show (-1 + (a:Int)).toNat=a - 1 by omega]
   have p1:E6 2 (Ap Cp (bC (.int 1))) NZ (W t d2)=.nx (W (t.set (a - 1) r1) 1):=VO (ρ1:=W t d2) (ρ2:=W t d2) (xs:=t.map il) (d:=d2) (k:=-1) c1 rfl rfl rfl (ij t l) hd2 rfl (by
    show [some (bx a b c,0),some (il xs,0),some (PV.lst ((t.map il).set (a - 1) (il r1)),1),s3,s4,s5,s6,s7]=_;rw [<- We]
    rfl)
   let t1:=t.set (a - 1) r1;have l1:t1.length=a:=by show (t.set (a - 1) r1).length=a;rw [FW];exact l
   have hr1:r1.length=b:=by show (r.map _).length=b;rw [Bg];exact hr
   have ht1:Tab a b t1:=⟨l1,λ s hs=>(WH hs).elim (pt.tab.2 s) λ e=>by rw [e];exact hr1⟩
   have g1:t1.getD (a - 1) []=r1:=Su (by omega);let r2:List Int:=(Bw b).map λ j=>Fv r1 j;have c2:NY (W t1 1)=.ok (il r2,om,W t1 1):=by
    have k:=Om (n:=8) (en:=Bo) (fa:=Ad (Ab Ah (Aa 0) (bC (.int 1))) (Ac)) (elt:=Am E5 (Ad (Bu (Ab Ah (Aa 2) (Ap Cp (bC (.int 1)))) none (some (Ab A1 (Aa 8) (bC (.int 1))))) (Ac))) (ρ:=W t1 1) (ρ1:=W t1 1) (as:=[(.int (b:Int),om)]) (lo:=0) (hi:=(b:Int)) (q:=λ j=>.int (Fv r1 j)) rfl (Fq (by omega) (by omega)) rfl (λ j hj=>by
     rw [JH];let V:Ag:=W t1 1++[some (.int (j:Int),om)];have la:Ab Ah (Aa 2) (Ap Cp (bC (.int 1))) V=.ok (il r1,0,V):=by
      rw [<- g1];exact N1 (t:=t1) (k:=-1) (d:=0) rfl rfl (V3 (by rw [l1];exact O1 (by omega)))
     have ad:Ab A1 (Aa 8) (bC (.int 1)) V=.ok (.int ((j + 1:Nat):Int),om,V):=by
      rw [show ((j + 1:Nat):Int)=(j:Int) + 1 by omega];exact DP (i:=(j:Int)) (j:=1) rfl rfl
     have sl:Bu (Ab Ah (Aa 2) (Ap Cp (bC (.int 1)))) none (some (Ab A1 (Aa 8) (bC (.int 1)))) V=.ok (il (r1.getD 0 0::(r1.drop 1).take j),om,V):=by
      unfold Bu;rw [la];dsimp only [Rz.bind,IP];rw [ad];show Rz.ok (PV.lst (Bt (r1.map PV.int) none (some ((j + 1:Nat):Int))),d1 (Bt (r1.map PV.int) none (some ((j + 1:Nat):Int))),V)=_;have e:Bt (r1.map PV.int) none (some ((j + 1:Nat):Int))=(r1.getD 0 0::(r1.drop 1).take j).map PV.int:=by
       unfold Bt;rw [HT.sIx_nat];show ((r1.map PV.int).drop 0).take (min (j + 1) (r1.map PV.int).length - 0)=_;rw [List.drop_zero,Nat.sub_zero,Bg,Nat.min_eq_left (by omega),<- Rn,ja (by omega)]
      rw [e,Q1];rfl
     exact YV (Cw sl)) (by omega)
    refine k.trans ?_;show Rz.ok (PV.lst ((Bw ((b:Int) - 0).toNat).map λ j=>PV.int (Fv r1 j)),om,_)=Rz.ok (PV.lst (((Bw b).map λ j=>Fv r1 j).map PV.int),om,_);rw [Ec,show ((b:Int) - 0).toNat=b by omega];rfl
   have p2:E6 2 (Ap Cp (bC (.int 1))) NY (W t1 1)=.nx (W (t1.set (a - 1) r2) 1):=VO (ρ1:=W t1 1) (ρ2:=W t1 1) (xs:=t1.map il) (d:=1) (k:=-1) c2 rfl rfl rfl (ij t1 l1) (by decide) rfl (by
    show [some (bx a b c,0),some (il xs,0),some (PV.lst ((t1.map il).set (a - 1) (il r2)),1),s3,s4,s5,s6,s7]=_;rw [<- We]
    rfl)
   have et:t1.set (a - 1) r2=t.set (a - 1) r2:=by
    show (t.set (a - 1) r1).set (a - 1) r2=_;rw [List.set_set]
   rw [et] at p2;have hr2:r2.length=b:=by show ((Bw b).map _).length=b;rw [Bg,W6]
   have rl:∀ y,y < b->r1.getD y 0<=g t (a - 1) y/\0<=r1.getD y 0:=λ y hy=>by
    have e:r1.getD y 0=r.getD y 0 - w % (r.getD y 0 + 1):=by
     show (r.map _).getD y 0=_;rw [BI,Ef,DS (by omega)];rfl
    have h0:=r0 _ (LH (xs:=r) (i:=y) (by omega));have q0:=Fi w (show r.getD y 0 + 1≠0 by omega);have q1:=FY w (show 0 < r.getD y 0 + 1 by omega);rw [e]
    have:g t (a - 1) y=r.getD y 0:=rfl
    omega
   have e2:∀ y,y < b->r2.getD y 0=Fv r1 y:=λ y hy=>ZY hy;refine ⟨t.set (a - 1) r2,1,Xj pt ha.1 hr2 (λ y hy=>?_) (λ y hy=>?_),by decide,(A4 tt).trans ((A2 p1).trans p2)⟩
   ·rw [hr2] at hy;rw [e2 _ hy,e2 y (by omega)];exact j5 (by omega)
   ·rw [e2 y hy];refine ⟨j6 (by omega) λ x hx=>?_,N5 (jD (by omega)) (rl y hy).1⟩;obtain ⟨q,hq,e⟩:=QV.mem_getD hx;rw [<- e];exact (rl q (by omega)).2
 obtain ⟨t',d,pt',hd,ef⟩:=fin;refine ⟨t',d,pt',hd,?_⟩;show A0 false 2 6 Xc_pile _=_;rw [jV];exact BG rfl ((A2 s1).trans ((A2 e6).trans ((A2 ef).trans rfl)))
def Rb {f g:Fx}{ρ ρ1:Ag}{d:Nat} (h:f ρ=.ok (.bl false,d,ρ1)):Ay f g ρ=g ρ1:=by
 unfold Ay;rw [h];rfl
section
variable {a b c:Nat}{t:List (List Int)}
end
def Gq (c:Int) (u:List (List Int)) (i j:Nat):Int:=
 let m:=if 0 < i then (if g u (i - 1) j < c then g u (i - 1) j else c) else c
 if 0 < j then (if g u i (j - 1) < m then g u i (j - 1) else m) else m
def jL {a b c:Nat}{u:List (List Int)} (p:Pile a b c u) {i j:Nat} (hi:i < a) (hj:j < b):Gq c u i j<=c/\(0 < i->Gq c u i j<=g u (i - 1) j)/\(0 < j->Gq c u i j<=g u i (j - 1))/\g u i j<=Gq c u i j:=by
 have h1:=p.hi i j hi hj;have h2:0 < i->g u i j<=g u (i - 1) j:=λ h=>by have:=p.dn (i - 1) j (by omega) hj;rwa [show i - 1 + 1=i by omega] at this
 have h3:0 < j->g u i j<=g u i (j - 1):=λ h=>by have:=p.rt i (j - 1) hi (by omega);rwa [show j - 1 + 1=j by omega] at this
 unfold Gq;dsimp only;refine ⟨?_,λ _=>?_,λ _=>?_,?_⟩ <;> (repeat' split) <;> first | omega | (have:=h2 (by assumption);omega) | (have:=h3 (by assumption);omega) | (have:=h2 (by assumption);have:=h3 (by assumption);omega)
theorem O3 {α:Type}{asg:PV->Ag->Option Ag}{body:Fs}{enc:α->PV} (ok:α->Bool) (I:Ag->Prop):∀ (xs:List α) (ρ:Ag),I ρ->(∀ x∈xs,∀ ρ,I ρ->∃ ρ1,asg (enc x) ρ=some ρ1/\((ok x=true/\∃ ρ2,body ρ1=.nx ρ2/\I ρ2)\/(ok x=false/\∃ ρ2,body ρ1=.rt (.bl false) om ρ2))) ->
  (xs.all ok=true/\∃ ρ',Ci asg body (xs.map enc) ρ=.nx ρ'/\I ρ')\/(xs.all ok=false/\∃ ρ',Ci asg body (xs.map enc) ρ=.rt (.bl false) om ρ')
 | [],ρ,h,_=>.inl ⟨rfl,ρ,rfl,h⟩
 | x::xs,ρ,h,hb=>by
  obtain ⟨ρ1,e1,⟨hx,ρ2,e2,h2⟩ | ⟨hx,ρ2,e2⟩⟩:=hb x Ba ρ h
  ·rcases O3 ok I xs ρ2 h2 λ y hy=>hb y (AU _ hy) with ⟨ha,ρ',e,h'⟩ | ⟨ha,ρ',e⟩
   ·refine .inl ⟨by rw [EL,hx,ha];rfl,ρ',?_,h'⟩;rw [BA];unfold Ci;rw [e1];dsimp only;rw [e2];exact e
   ·refine .inr ⟨by rw [EL,hx,ha];rfl,ρ',?_⟩;rw [BA];unfold Ci;rw [e1];dsimp only;rw [e2];exact e
  ·refine .inr ⟨by rw [EL,hx];rfl,ρ2,?_⟩;rw [BA];unfold Ci;rw [e1];dsimp only;rw [e2]
def EA (c:Int) (t:List (List Int)) (i j:Nat):Bool:=decide (0<=g t i j) && decide (g t i j<=Gq c t i j)
def zQ {a b c:Nat}{t:List (List Int)} (ht:Tab a b t):((Bw a).all λ i=>(Bw b).all λ j=>EA c t i j)=Fy a b c t:=by
 rw [HH,Ta ht];simp only [jb4,jd0,EA,AF,decide_eq_true_iff];constructor
 ·intro h;refine ⟨ht,λ i j hi hj=>(h i hi j hj).1,λ i j hi hj=>?_,λ i j hi hj=>?_,λ i j hi hj=>?_⟩
  ·have:=(h i hi j hj).2
   unfold Gq at this;dsimp only at this
   (repeat' split at this) <;> omega
  ·have:=(h (i + 1) hi j hj).2
   unfold Gq at this;dsimp only at this;rw [if_pos (by omega:0 < i + 1)] at this;rw [W7] at this
   (repeat' split at this) <;> omega
  ·have:=(h i hi (j + 1) hj).2
   unfold Gq at this;dsimp only at this;rw [if_pos (by omega:0 < j + 1)] at this;rw [W7] at this
   (repeat' split at this) <;> omega
 ·intro p i hi j hj;exact ⟨p.lo i j hi hj,(jL p hi hj).2.2.2⟩
section
variable {a b c:Nat}{t u l:List (List Int)}
end
section
variable {a b c:Nat}{t:List (List Int)}
end
section
variable {a b c:Nat}{t u l:List (List Int)}
end
section
variable {a b c:Nat}{t u:List (List Int)}
end
section
variable {a b c:Nat}{t:List (List Int)}
end
section
variable {a b c:Nat}{t:List (List Int)}
end
section
variable {a b c:Nat}{t:List (List Int)}
end
end QV
namespace K55
open PySem PySem.Spec PyProof.Rows L2 QQ
theorem Mm {α:Type}{x:Option α}{d:α} (h:x.isSome=true):x=some (x.getD d):=by
 cases x with
 | none=>cases h
 | some a=>rfl
abbrev GT:=List (Str×(Bool×Nat×Fn))
abbrev mS (N:List Str) (t:Stmt) (m:List Nat) (G:GT):Sx:=⟨N,AD t,m,[],G,[],true,[0,1,2,3,4,5,6,7,8,9,10,11],[]⟩
def G0:GT:=[]
def S0:Sx:=⟨["thing"],AD t0,[],[],G0,[],true,[0,1,2,9,50,51],[]⟩
abbrev b0:Fs:=QV.Xf_is_whole_number
abbrev F0:Fn:=QV.f_is_whole_number
def h0:Bi (A9 60 S0) (Bp t0)=some b0:=by kernel_rfl
def G1:GT:=[("is_whole_number",(false,1,F0))]
def S1:Sx:=⟨["thing"],AD t1,[],[],G1,[],true,[0,1,2,9,50,51],[]⟩
abbrev b1:Fs:=QV.Xf_is_box
abbrev F1:Fn:=QV.f_is_box
def h1:Bi (A9 60 S1) (Bp t1)=some b1:=by kernel_rfl
def G2:GT:=[("is_box",(false,1,F1))]
def S2:Sx:=⟨["box"],AD t2,[],[],G2,[],true,[0,1,2,9,50,51],[]⟩
abbrev b2:Fs:=QV.Xf_must_be_box
abbrev F2:Fn:=QV.f_must_be_box
def h2:Bi (A9 60 S2) (Bp t2)=some b2:=by kernel_rfl
def G3:GT:=[("is_whole_number",(false,1,F0))]
def S3:Sx:=⟨["thing","columns","height"],AD t3,[],[],G3,[],true,[0,1,2,9,50,51],[]⟩
abbrev b3:Fs:=QV.Xf_is_row_of_heights
abbrev F3:Fn:=QV.f_is_row_of_heights
def h3:Bi (A9 60 S3) (Bp t3)=some b3:=by kernel_rfl
def G4:GT:=[]
def S4:Sx:=⟨["numbers"],AD t4,[],[],G4,[],true,[0,1,2,9,50,51],[]⟩
abbrev b4:Fs:=QV.Xf_never_rises
abbrev F4:Fn:=QV.f_never_rises
def h4:Bi (A9 60 S4) (Bp t4)=some b4:=by kernel_rfl
def G5:GT:=[]
def S5:Sx:=⟨["table","j"],AD t5,[],[],G5,[],true,[0,1,2,9,50,51],[]⟩
abbrev b5:Fs:=QV.Xf_column_of
abbrev F5:Fn:=QV.f_column_of
def h5:Bi (A9 60 S5) (Bp t5)=some b5:=by kernel_rfl
def G6:GT:=[("must_be_box",(false,1,F2)),("is_row_of_heights",(false,3,F3)),("never_rises",(false,1,F4)),("column_of",(false,2,F5))]
def S6:Sx:=⟨["box","thing","rows","columns","height"],AD t6,[],[],G6,[],true,[0,1,2,9,50,51],[]⟩
abbrev b6:Fs:=QV.Xf_is_pile
abbrev F6:Fn:=QV.f_is_pile
def h6:Bi (A9 60 S6) (Bp t6)=some b6:=by kernel_rfl
def G7:GT:=[]
def S7:Sx:=⟨["text","most_figures"],AD t7,[],[],G7,[],true,[0,1,2,9,50,51],[]⟩
def b7:Fs:=(Ae (Ax (bT (Ap AQ (Gn (λ i j=>decide (i<=j)) (λ i j=>decide (i<=j)) (bC (.int 1)) (Am AO (Ad (Aa 0) (Ac))) (Aa 1)))) (An (bC (.bl false))) Al)
 (Ae (Ax (bT (Ap AQ (Am DV (Ad (BK (Aa 0) 1 (Ao 2) By (Ab (Ck false) (Aa 2) (bC (.str "0123456789")))) (Ac))))) (An (bC (.bl false))) Al)
 (An (Ay (Ab (Ak false) (Am AO (Ad (Aa 0) (Ac))) (bC (.int 1))) (Ab (Ak true) (Ab Ah (Aa 0) (bC (.int 0))) (bC (.str "0")))))))
def F7:Fn:=A0 false 2 0 b7
def h7:Bi (A9 60 S7) (Bp t7)=some b7:=by kernel_rfl
def G8:GT:=[("is_written_number",(false,2,F7))]
def S8:Sx:=⟨["text","parting","words"],AD t8,[],[],G8,[],true,[0,1,2,9,50,51],[]⟩
def b8:Fs:=(Ae (Ai false 2 (BB D1 (Aa 0) (Aa 1)) [0,1])
 (Ae (Ax (bT (Ap AQ (Am DV (Ad (BK (Aa 2) 1 (Ao 3) By (A8 F7 (Ad (Aa 3) (Ad (bC (.int 2)) (Ac))))) (Ac))))) (Dn 9) Al)
 (An (BK (Aa 2) 1 (Ao 3) By (Am Ft (Ad (Aa 3) (Ac)))))))
def F8:Fn:=A0 false 2 1 b8
def h8:Bi (A9 60 S8) (Bp t8)=some b8:=by kernel_rfl
def G9:GT:=[]
def S9:Sx:=⟨["thing"],AD t9,[],[],G9,[],true,[0,1,2,9,50,51],[]⟩
def b9:Fs:=(Ax (bT (Ap AQ (Ap (AH "str") (Aa 0)))) (Dn 9) Al)
def F9:Fn:=A0 false 1 0 b9
def h9:Bi (A9 60 S9) (Bp t9)=some b9:=by kernel_rfl
def vm:GT:=[("must_be_box",(false,1,F2)),("is_pile",(false,2,F6)),("read_numbers",(false,2,F8)),("must_be_text",(false,1,F9))]
def S10:Sx:=⟨["box","text","pile"],AD MV,[],[],vm,[],true,[0,1,2,9,50,51],[]⟩
def WO:Fs:=(Ae (Dd (A8 F2 (Ad (Aa 0) (Ac))))
 (Ae (Dd (A8 F9 (Ad (Aa 1) (Ac))))
 (Ae (Ai false 2 (HX (BB D1 (Aa 1) (bC (.str "/"))) 1 (Ao 3) By (A8 F8 (Ad (Aa 3) (Ad (bC (.str " ")) (Ac))))) [1,1])
 (Ae (Ax (bT (Ap AQ (A8 F6 (Ad (Aa 0) (Ad (Aa 2) (Ac)))))) (Dn 9) Al)
 (FA 2)))))
def El:Fn:=A0 false 2 1 WO
def NL:Bi (A9 60 S10) (Bp MV)=some WO:=by kernel_rfl
def vj:GT:=[]
def S11:Sx:=⟨["script","k"],AD MU,[],[],vj,[],true,[0,1,2,9,50,51],[]⟩
abbrev kP:Fs:=QV.Xb_cell_at
abbrev NX:Fn:=QV.b_cell_at
def ky:Bi (A9 60 S11) (Bp MU)=some kP:=by kernel_rfl
def vh:GT:=[]
def S12:Sx:=⟨["cell","many","found","rest","stir","k","again"],AD MT,[],[],vh,[],true,[0,1,2,9,50,51],[]⟩
abbrev kO:Fs:=QV.Xc_numbers
abbrev NW:Fn:=QV.c_numbers
def ku:Bi (A9 60 S12) (Bp MT)=some kO:=by kernel_rfl
def vg:GT:=[]
def S13:Sx:=⟨["xs","box"],AD MR,[],[],vg,[],true,[0,1,2,9,50,51],[]⟩
abbrev kN:Fs:=QV.Xc_box
abbrev NV:Fn:=QV.c_box
def kq:Bi (A9 60 S13) (Bp MR)=some kN:=by kernel_rfl
def vf:GT:=[]
def S14:Sx:=⟨["box","xs","pile","i","row","j","top","number"],AD MQ,[],[],vf,[],true,[0,1,2,9,50,51],[]⟩
abbrev kM:Fs:=QV.Xc_pile
abbrev LF:Fn:=QV.c_pile
def ko:Bi (A9 60 S14) (Bp MQ)=some kM:=by kernel_rfl
def Qf:Fn:=λ _=>.no
def Xs:GT:=[("_law_alike",(false,2,Qf))]
def Qg:Sx:=⟨["found","due"],AD E2,[],[],Xs,[],true,[0,1,2,9,50,51],[]⟩
def PZ:Fs:=(Bi (A9 60 Qg) (Bp E2)).getD Al
def KZ:Fn:=A0 false 2 0 PZ
def X2:Bi (A9 60 Qg) (Bp E2)=some PZ:=Mm (by decide +kernel)
def Xu:GT:=[("_law_alike",(false,2,KZ))]
def Qh:Sx:=⟨["found","due"],AD E2,[],[],Xu,[],true,[0,1,2,9,50,51],[]⟩
def Qa:Fs:=(Bi (A9 60 Qh) (Bp E2)).getD Al
def La:Fn:=A0 false 2 0 Qa
def X3:Bi (A9 60 Qh) (Bp E2)=some Qa:=Mm (by decide +kernel)
def XQ:GT:=[("_law_alike",(false,2,La))]
def Qi:Sx:=⟨["found","due"],AD E2,[],[],XQ,[],true,[0,1,2,9,50,51],[]⟩
def Qb:Fs:=(Bi (A9 60 Qi) (Bp E2)).getD Al
def Lb:Fn:=A0 false 2 0 Qb
def X4:Bi (A9 60 Qi) (Bp E2)=some Qb:=Mm (by decide +kernel)
def XR:GT:=[("_law_alike",(false,2,Lb))]
def Na:Sx:=⟨["found","due"],AD E2,[],[],XR,[],true,[0,1,2,9,50,51],[]⟩
def Qc:Fs:=(Bi (A9 60 Na) (Bp E2)).getD Al
def MZ:Fn:=A0 false 2 0 Qc
def X5:Bi (A9 60 Na) (Bp E2)=some Qc:=Mm (by decide +kernel)
abbrev JR:Fn:=MZ
abbrev S15:Sx:=Na
def ve:GT:=[]
def S16:Sx:=⟨["pile","found","row","words","one"],AD MP,[],[],ve,[],true,[0,1,2,9,50,51],[]⟩
def WN:Fs:=(Ae (Ai false 1 (bC (.str "")) [])
 (Ae (Fz (Aa 0) [0] (Ao 2) (Ae (Ai false 3 (bC (.str "")) [])
 (Ae (Fz (Aa 2) [2] (Ao 4) (Ai false 3 (Ab A1 (Ab A1 (Aa 3) (bC (.str " "))) (Am GO (Ad (Aa 4) (Ac)))) [3,4]))
 (Ai false 1 (Ab A1 (Ab A1 (Aa 1) (bC (.str "/"))) (Bu (Aa 3) (some (bC (.int 1))) none)) [1,3]))))
 (An (Bu (Aa 1) (some (bC (.int 1))) none))))
def LD:Fn:=A0 false 1 4 WN
def kn:Bi (A9 60 S16) (Bp MP)=some WN:=by kernel_rfl
def vd:GT:=[]
def S17:Sx:=⟨["box","pile","i","j"],AD MN,[],[],vd,[],true,[0,1,2,9,50,51],[]⟩
def L8:Fs:=(Ae (Ax (bT (Ay (Ab (Ak true) (Am AO (Ad (Aa 1) (Ac))) (Ab Ah (Aa 0) (bC (.int 0)))) (Ab (Ak true) (BK (Aa 1) 1 (Ao 4) (bT (Ab (Ak true) (Am AO (Ad (Aa 4) (Ac))) (Ab Ah (Aa 0) (bC (.int 1))))) (Aa 4)) (Am AY (Ac))))) (An (bC (.bl false))) Al)
 (Ae (CF Bo (Ad (Ab Ah (Aa 0) (bC (.int 0))) (Ac)) (Ao 2) (CF Bo (Ad (Ab Ah (Aa 0) (bC (.int 1))) (Ac)) (Ao 3) (Ae (Ax (bT (Ay (Ab (Be λ i j=>decide (i < j)) (Ab Ah (Ab Ah (Aa 1) (Aa 2)) (Aa 3)) (bC (.int 0))) (Ay (Ab (Be λ i j=>decide (j < i)) (Ab Ah (Ab Ah (Aa 1) (Aa 2)) (Aa 3)) (Ab Ah (Aa 0) (bC (.int 2)))) (Bb (Ab (Be λ i j=>decide (j < i)) (Aa 2) (bC (.int 0))) (Ab (Be λ i j=>decide (j < i)) (Ab Ah (Ab Ah (Aa 1) (Aa 2)) (Aa 3)) (Ab Ah (Ab Ah (Aa 1) (Ab CD (Aa 2) (bC (.int 1)))) (Aa 3))))))) (An (bC (.bl false))) Al)
 (Ax (bT (Bb (Ab (Be λ i j=>decide (j < i)) (Aa 3) (bC (.int 0))) (Ab (Be λ i j=>decide (j < i)) (Ab Ah (Ab Ah (Aa 1) (Aa 2)) (Aa 3)) (Ab Ah (Ab Ah (Aa 1) (Aa 2)) (Ab CD (Aa 3) (bC (.int 1))))))) (An (bC (.bl false))) Al))))
 (An (bC (.bl true)))))
def IZ:Fn:=A0 false 2 2 L8
def km:Bi (A9 60 S17) (Bp MN)=some L8:=by kernel_rfl
def vc:GT:=[]
def S18:Sx:=⟨["word","sign"],AD MM,[],[],vc,[],true,[0,1,2,9,50,51],[]⟩
def WM:Fs:=(Ae (Ax (bT (Ay (Ab (Ak false) (Aa 0) (bC (.str ""))) (Ay (Ab (Be λ i j=>decide (j < i)) (Am AO (Ad (Aa 0) (Ac))) (bC (.int 2))) (Bb (Ab (Ak false) (Am AO (Ad (Aa 0) (Ac))) (bC (.int 2))) (Ab (Ak false) (Ab Ah (Aa 0) (bC (.int 0))) (bC (.str "0"))))))) (An (Ap Cp (bC (.int 1)))) Al)
 (Ae (Fz (Aa 0) [0] (Ao 1) (Ax (bT (Ab (Ck true) (Aa 1) (bC (.str "0123456789")))) (An (Ap Cp (bC (.int 1)))) Al))
 (An (Am Ft (Ad (Aa 0) (Ac))))))
def IY:Fn:=A0 false 1 1 WM
def kl:Bi (A9 60 S18) (Bp MM)=some WM:=by kernel_rfl
def vb:GT:=[]
def S19:Sx:=⟨["text","xs","at","sign","way","odd"],AD ML,[],[],vb,[],true,[0,1,2,9,50,51],[]⟩
def NR:Fs:=(Ae (Ai false 2 (Ab Az (Ab A1 (Ab Ah (Aa 1) (bC (.int 0))) (Ab Co (bC (.int 64)) (Ab Ah (Aa 1) (bC (.int 1))))) (Ab A1 (Am AO (Ad (Aa 0) (Ac))) (bC (.int 1)))) [1,1,0])
 (Ae (Ai false 3 (Ab Ah (bC (.str "0123456789 /x-+._\n\tab")) (Ab Az (Ab Ah (Aa 1) (bC (.int 2))) (bC (.int 21)))) [1])
 (Ae (Ai false 4 (Ab Az (Ab Ah (Aa 1) (bC (.int 3))) (bC (.int 8))) [1])
 (Ae (Ax (bT (Ab (Ak false) (Aa 4) (bC (.int 0)))) (An (Ab A1 (Bu (Aa 0) none (some (Aa 2))) (Bu (Aa 0) (some (Ab A1 (Aa 2) (bC (.int 1)))) none))) Al)
 (Ae (Ax (bT (Ab (Ak false) (Aa 4) (bC (.int 1)))) (An (Ab A1 (Ab A1 (Bu (Aa 0) none (some (Aa 2))) (Aa 3)) (Bu (Aa 0) (some (Aa 2)) none))) Al)
 (Ae (Ax (bT (Ab (Ak false) (Aa 4) (bC (.int 2)))) (An (Ab A1 (Ab A1 (Bu (Aa 0) none (some (Aa 2))) (Aa 3)) (Bu (Aa 0) (some (Ab A1 (Aa 2) (bC (.int 1)))) none))) Al)
 (Ae (Ax (bT (Ab (Ak false) (Aa 4) (bC (.int 3)))) (An (Ab A1 (Aa 0) (Ab Ah (Am AY (Ad (bC (.str " ")) (Ad (bC (.str "/")) (Ad (bC (.str "\n")) (Ad (bC (.str " 0")) (Ad (bC (.str "/0")) (Ad (bC (.str "x1")) (Ad (bC (.str "0")) (Ac))))))))) (Ab Az (Ab Ah (Aa 1) (bC (.int 4))) (bC (.int 7)))))) Al)
 (Ae (Ax (bT (Ab (Ak false) (Aa 4) (bC (.int 4)))) (An (Ab A1 (Ab Ah (Am AY (Ad (bC (.str " ")) (Ad (bC (.str "/")) (Ad (bC (.str "\n")) (Ad (bC (.str "0")) (Ad (bC (.str "0 ")) (Ad (bC (.str "1x")) (Ac)))))))) (Ab Az (Ab Ah (Aa 1) (bC (.int 4))) (bC (.int 6)))) (Aa 0))) Al)
 (Ae (Ax (bT (Bb (Ab (Ak false) (Aa 4) (bC (.int 5))) (Ab (Ak false) (Ab Az (Ab Ah (Aa 1) (bC (.int 4))) (bC (.int 2))) (bC (.int 0))))) (An (Ab A1 (Ab A1 (Bu (Aa 0) none (some (Aa 2))) (Ab Ah (Am AY (Ad (bC (.str "0")) (Ad (bC (.str "00")) (Ad (bC (.str "1")) (Ad (bC (.str "100")) (Ac)))))) (Ab Az (Ab EY (Ab Ah (Aa 1) (bC (.int 4))) (bC (.int 2))) (bC (.int 4))))) (Bu (Aa 0) (some (Aa 2)) none))) Al)
 (Ae (DC 4 5 (CM 0 " " (bC (.str "  "))))
 (Ae (DC 4 6 (CM 0 "/" (HC [" / ","//","\n"," "] (Ab Az (Ab Ah (Aa 1) (bC (.int 4))) (bC (.int 4))))))
 (Ae (Ai false 5 (Am AY (Ad (bC (.str "")) (Ad (bC (.str " ")) (Ad (bC (.str "/")) (Ad (bC (.str "x")) (Ad (bC (.str "1")) (Ad (bC (.str "01")) (Ad (bC (.str "1x1")) (Ad (bC (.str "1x1x1x1")) (Ad (bC (.str "0x1x1")) (Ad (bC (.str "1X1X1")) (Ad (bC (.str "99x99x99")) (Ad (bC (.str "100x1x1")) (Ad (bC (.str "1x01x1")) (Ad (bC (.str "pile")) (Ac)))))))))))))))) [])
 (An (Ab Ah (Aa 5) (Ab Az (Ab Ah (Aa 1) (bC (.int 4))) (bC (.int 14)))))))))))))))))
def JQ:Fn:=A0 false 2 4 NR
def kj:Bi (A9 60 S19) (Bp ML)=some NR:=by kernel_rfl
def kZ:GT:=[]
def S20:Sx:=⟨["number","some"],AD MK,[],[],kZ,[],true,[0,1,2,9,50,51],[]⟩
def WL:Fs:=(Ae (Ai false 1 (Am AY (Ad (Am BJ (Ad (bC (.int 0)) (Ad (bC (.int 1)) (Ad (bC (.int 1)) (Ac))))) (Ad (Am BJ (Ad (bC (.int 1)) (Ad (bC (.int 2)) (Ac)))) (Ad (Am BJ (Ad (bC (.int 1)) (Ad (bC (.int 2)) (Ad (bC (.int 3)) (Ad (bC (.int 4)) (Ac)))))) (Ad (Am AY (Ad (bC (.int 1)) (Ad (bC (.int 1)) (Ad (bC (.int 1)) (Ac))))) (Ad (bC .non) (Ad (Am BJ (Ad (bC (.int 1)) (Ad (bC (.bl true)) (Ad (bC (.int 1)) (Ac))))) (Ad (Am BJ (Ad (bC (.int 2)) (Ad (Ap Cp (bC (.int 1))) (Ad (bC (.int 2)) (Ac))))) (Ad (bC (.str "111")) (Ad (Am BJ (Ad (bC (.str "1")) (Ad (bC (.int 1)) (Ad (bC (.int 1)) (Ac))))) (Ad (bC (.int 7)) (Ad (Am BJ (Ac)) (Ac))))))))))))) [])
 (An (Ab Ah (Aa 1) (Ab Az (Aa 0) (Am AO (Ad (Aa 1) (Ac)))))))
def JP:Fn:=A0 false 1 1 WL
def ki:Bi (A9 60 S20) (Bp MK)=some WL:=by kernel_rfl
def kY:GT:=[("_law_is_pile",(false,2,IZ)),("_law_number",(false,1,IY))]
def S21:Sx:=⟨["box","text","pile"],AD MJ,[],[],kY,[],true,[0,1,2,9,50,51],[]⟩
def WK:Fs:=(Ae (Ax (bT (Ap AQ (Ap (AH "str") (Aa 1)))) (An (bC .non)) Al)
 (Ae (Ai false 2 (BK (BB D1 (Aa 1) (bC (.str "/"))) 1 (Ao 3) By (BK (BB D1 (Aa 3) (bC (.str " "))) 1 (Ao 4) By (A8 IY (Ad (Aa 4) (Ac))))) [1,1,1])
 (Ae (Ax (bT (Ap AQ (A8 IZ (Ad (Aa 0) (Ad (Aa 2) (Ac)))))) (An (bC .non)) Al)
 (FA 2))))
def Gd:Fn:=A0 false 2 1 WK
def RH:Bi (A9 60 S21) (Bp MJ)=some WK:=by kernel_rfl
def kX:GT:=[("read_pile",(false,2,El))]
def S22:Sx:=⟨["box","text","word","found","apart","e"],AD MI,[],[],kX,[],true,[0,1,2,9,50,51],[]⟩
def L7:Fs:=(Ae (Ai false 2 (bC (.str "told")) [])
 (Ae (Ai false 3 (bC .non) [])
 (Ae (Ai false 4 (bC (.bl true)) [])
 (Ae (E7 [(1,(Ae (Ai false 2 (bC (.str "NoBox")) [])
 (Ai false 4 (Bb (Ap AQ (Ap (D6 [9]) (Aa 5))) (Ap AQ (Ap (D6 [2]) (Aa 5)))) [5,5]))),(9,(Ae (Ai false 2 (bC (.str "NoText")) [])
 (Ai false 4 (Bb (Ap AQ (Ap (D6 [1]) (Aa 5))) (Ap AQ (Ap (D6 [2]) (Aa 5)))) [5,5])))] 5 [] (Ai false 3 (A8 El (Ad (Aa 0) (Ad (Aa 1) (Ac)))) [0,1]))
 (An (Am BJ (Ad (Ab A1 (Aa 2) (Ab Ah (Am AY (Ad (bC (.str "odd")) (Ad (bC (.str "")) (Ac)))) (Am Ft (Ad (Aa 4) (Ac))))) (Ad (Aa 3) (Ac)))))))))
def GD:Fn:=A0 false 2 4 L7
def kh:Bi (A9 60 S22) (Bp MI)=some L7:=by kernel_rfl
def kW:GT:=[("read_pile",(false,2,El))]
def S23:Sx:=⟨["box","text","found","e"],AD MH,[],[],kW,[],true,[0,1,2,9,50,51],[]⟩
def NQ:Fs:=(Ae (Ai false 2 (bC (.bl false)) [])
 (Ae (E7 [(0,(Ai false 2 (Ap (D6 [0]) (Aa 3)) [3]))] 3 [] (Dd (A8 El (Ad (Aa 0) (Ad (Aa 1) (Ac))))))
 (FA 2)))
def Ht:Fn:=A0 false 2 2 NQ
def kg:Bi (A9 60 S23) (Bp MH)=some NQ:=by kernel_rfl
def kU:GT:=[("_law_cell_at",(false,2,NX)),("_law_numbers",(false,2,NW)),("_law_box",(false,1,NV)),("_law_pile",(false,2,LF)),("_law_alike",(false,2,JR)),("_law_written",(false,1,LD)),("_law_changed",(false,2,JQ)),("_law_no_box",(false,1,JP)),("_law_due",(false,2,Gd)),("_law_asked",(false,2,GD)),("_law_any",(false,2,Ht))]
def S24:Sx:=⟨["script","k","xs","box","other","text","due","word","found"],AD KO,[],[],kU,[],true,[0,1,2,9,50,51],[]⟩
def NP:Fs:=(Ae (CF Bo (Ad (Am Gr (Ad (bC (.int 1)) (Ad (Am E5 (Ad (Am AO (Ad (Aa 0) (Ac))) (Ad (bC (.int 20)) (Ac)))) (Ac)))) (Ac)) (Ao 1) (Ae (Ai false 2 (A8 NW (Ad (A8 NX (Ad (Aa 0) (Ad (Aa 1) (Ac)))) (Ad (bC (.int 54)) (Ac)))) [0,1])
 (Ae (Ai false 3 (A8 NV (Ad (Bu (Aa 2) (some (bC (.int 38))) (some (bC (.int 42)))) (Ac))) [2])
 (Ae (Ax (bT (Ab (Ak false) (Ab Az (Ab Ah (Aa 2) (bC (.int 53))) (bC (.int 8))) (bC (.int 3)))) (Ai false 3 (Am BJ (Ad (Ab Ah (Aa 3) (bC (.int 0))) (Ad (Ab Ah (Aa 3) (bC (.int 1))) (Ad (Ab A1 (bC (.int 1)) (Ab Az (Ab A1 (Ab Ah (Aa 2) (bC (.int 53))) (Ab Co (bC (.int 64)) (Ab Ah (Aa 2) (bC (.int 52))))) (bC (.int 98)))) (Ac))))) [3,3,2,2]) Al)
 (Ae (Ai false 4 (Ab Ah (Am AY (Ad (Aa 3) (Ad (Aa 3) (Ad (Am BJ (Ad (Ab Ah (Aa 3) (bC (.int 1))) (Ad (Ab Ah (Aa 3) (bC (.int 0))) (Ad (Ab Ah (Aa 3) (bC (.int 2))) (Ac))))) (Ad (Am BJ (Ad (Ab Ah (Aa 3) (bC (.int 0))) (Ad (Ab Ah (Aa 3) (bC (.int 1))) (Ad (Ab A1 (Ab Ah (Aa 3) (bC (.int 2))) (bC (.int 1))) (Ac))))) (Ac)))))) (Ab Az (Ab Ah (Aa 2) (bC (.int 42))) (bC (.int 4)))) [3,3,3,3,3,3,3,3,2])
 (Ae (Ai false 5 (A8 LD (Ad (A8 LF (Ad (Aa 4) (Ad (Aa 2) (Ac)))) (Ac))) [4,2])
 (Ae (Ax (bT (Ab (Be λ i j=>decide (j < i)) (Ab Az (Ab Ah (Aa 2) (bC (.int 43))) (bC (.int 3))) (bC (.int 0)))) (Ai false 5 (A8 JQ (Ad (Aa 5) (Ad (Bu (Aa 2) (some (bC (.int 44))) (some (bC (.int 49)))) (Ac)))) [5,2]) Al)
 (Ae (Ax (bT (Ab (Ak false) (Ab Az (Ab Ah (Aa 2) (bC (.int 49))) (bC (.int 8))) (bC (.int 3)))) (Ai false 5 (Ab Ah (Am AY (Ad (bC .non) (Ad (bC (.int 7)) (Ad (Am AY (Ad (Am AY (Ad (bC (.int 1)) (Ac))) (Ac))) (Ad (Am BJ (Ad (bC (.str "1")) (Ac))) (Ad (bC (.bl true)) (Ad (bC .emp) (Ac)))))))) (Ab Az (Ab Ah (Aa 2) (bC (.int 50))) (bC (.int 6)))) [2]) Al)
 (Ae (Ai false 6 (A8 Gd (Ad (Aa 3) (Ad (Aa 5) (Ac)))) [3,5])
 (Ae (Ax (bT (Ab (Ak false) (Ab Az (Ab Ah (Aa 2) (bC (.int 51))) (bC (.int 8))) (bC (.int 1)))) (Ai false 3 (A8 JP (Ad (Ab Ah (Aa 2) (bC (.int 52))) (Ac))) [2]) Al)
 (Ae (Dm (Dt [7,8]) (A8 GD (Ad (Aa 3) (Ad (Aa 5) (Ac)))) [3,5])
 (Ax (bT (Ab (Ak false) (Ab Az (Ab Ah (Aa 2) (bC (.int 51))) (bC (.int 8))) (bC (.int 1)))) (Ax (bT (Ay (Ab (Ak true) (Aa 7) (bC (.str "NoBox"))) (Ap AQ (A8 Ht (Ad (Aa 3) (Ad (Aa 5) (Ac))))))) (An (bC (.bl false))) Al) (Ax (bT (Bb (Ab (Cr false) (Aa 6) (bC .non)) (Ay (Ab (Ak true) (Aa 7) (bC (.str "NoText"))) (Ap AQ (A8 Ht (Ad (Aa 3) (Ad (Aa 5) (Ac)))))))) (An (bC (.bl false))) (Ax (bT (Bb (Ab (Cr true) (Aa 6) (bC .non)) (Ay (Ab (Ak true) (Aa 7) (bC (.str "told"))) (Ap AQ (A8 JR (Ad (Aa 8) (Ad (Aa 6) (Ac)))))))) (An (bC (.bl false))) Al))))))))))))))
 (An (bC (.bl true))))
def F24:Fn:=A0 false 1 8 NP
def kf:Bi (A9 60 S24) (Bp KO)=some NP:=by kernel_rfl
def xC:PZ=(Ae (Ax (bT (Ay (Ap (AH "tuple") (Aa 1)) (Ap (AH "list") (Aa 1)))) (Ae (Ax (bT (Ay (Ab (Ak true) (Ap (AH "tuple") (Aa 0)) (Ap (AH "tuple") (Aa 1))) (Ab (Ak true) (Ap (AH "list") (Aa 0)) (Ap (AH "list") (Aa 1))))) (An (bC (.bl false))) Al)
 (Ae (Ax (bT (Ab (Ak true) (Am AO (Ad (Aa 0) (Ac))) (Am AO (Ad (Aa 1) (Ac))))) (An (bC (.bl false))) Al)
 (An (Ab (Ak false) (Du Bo (Ad (Am AO (Ad (Aa 1) (Ac))) (Ac)) 1 (Ao 2) (bT (Ap AQ (A8 Qf (Ad (Ab Ah (Aa 0) (Aa 2)) (Ad (Ab Ah (Aa 1) (Aa 2)) (Ac)))))) (Aa 2)) (Am AY (Ac)))))) Al)
 (An (Bb (Ap (AH "int") (Aa 0)) (Bb (Ap AQ (Ap (AH "bool") (Aa 0))) (Ab (Ak false) (Aa 0) (Aa 1)))))):=by kernel_rfl
def xD:Qa=(Ae (Ax (bT (Ay (Ap (AH "tuple") (Aa 1)) (Ap (AH "list") (Aa 1)))) (Ae (Ax (bT (Ay (Ab (Ak true) (Ap (AH "tuple") (Aa 0)) (Ap (AH "tuple") (Aa 1))) (Ab (Ak true) (Ap (AH "list") (Aa 0)) (Ap (AH "list") (Aa 1))))) (An (bC (.bl false))) Al)
 (Ae (Ax (bT (Ab (Ak true) (Am AO (Ad (Aa 0) (Ac))) (Am AO (Ad (Aa 1) (Ac))))) (An (bC (.bl false))) Al)
 (An (Ab (Ak false) (Du Bo (Ad (Am AO (Ad (Aa 1) (Ac))) (Ac)) 1 (Ao 2) (bT (Ap AQ (A8 KZ (Ad (Ab Ah (Aa 0) (Aa 2)) (Ad (Ab Ah (Aa 1) (Aa 2)) (Ac)))))) (Aa 2)) (Am AY (Ac)))))) Al)
 (An (Bb (Ap (AH "int") (Aa 0)) (Bb (Ap AQ (Ap (AH "bool") (Aa 0))) (Ab (Ak false) (Aa 0) (Aa 1)))))):=by kernel_rfl
def xE:Qb=(Ae (Ax (bT (Ay (Ap (AH "tuple") (Aa 1)) (Ap (AH "list") (Aa 1)))) (Ae (Ax (bT (Ay (Ab (Ak true) (Ap (AH "tuple") (Aa 0)) (Ap (AH "tuple") (Aa 1))) (Ab (Ak true) (Ap (AH "list") (Aa 0)) (Ap (AH "list") (Aa 1))))) (An (bC (.bl false))) Al)
 (Ae (Ax (bT (Ab (Ak true) (Am AO (Ad (Aa 0) (Ac))) (Am AO (Ad (Aa 1) (Ac))))) (An (bC (.bl false))) Al)
 (An (Ab (Ak false) (Du Bo (Ad (Am AO (Ad (Aa 1) (Ac))) (Ac)) 1 (Ao 2) (bT (Ap AQ (A8 La (Ad (Ab Ah (Aa 0) (Aa 2)) (Ad (Ab Ah (Aa 1) (Aa 2)) (Ac)))))) (Aa 2)) (Am AY (Ac)))))) Al)
 (An (Bb (Ap (AH "int") (Aa 0)) (Bb (Ap AQ (Ap (AH "bool") (Aa 0))) (Ab (Ak false) (Aa 0) (Aa 1)))))):=by kernel_rfl
def xF:Qc=(Ae (Ax (bT (Ay (Ap (AH "tuple") (Aa 1)) (Ap (AH "list") (Aa 1)))) (Ae (Ax (bT (Ay (Ab (Ak true) (Ap (AH "tuple") (Aa 0)) (Ap (AH "tuple") (Aa 1))) (Ab (Ak true) (Ap (AH "list") (Aa 0)) (Ap (AH "list") (Aa 1))))) (An (bC (.bl false))) Al)
 (Ae (Ax (bT (Ab (Ak true) (Am AO (Ad (Aa 0) (Ac))) (Am AO (Ad (Aa 1) (Ac))))) (An (bC (.bl false))) Al)
 (An (Ab (Ak false) (Du Bo (Ad (Am AO (Ad (Aa 1) (Ac))) (Ac)) 1 (Ao 2) (bT (Ap AQ (A8 Lb (Ad (Ab Ah (Aa 0) (Aa 2)) (Ad (Ab Ah (Aa 1) (Aa 2)) (Ac)))))) (Aa 2)) (Am AY (Ac)))))) Al)
 (An (Bb (Ap (AH "int") (Aa 0)) (Bb (Ap AQ (Ap (AH "bool") (Aa 0))) (Ab (Ak false) (Aa 0) (Aa 1)))))):=by kernel_rfl
end K55
namespace QV
open PySem PySem.Spec PyProof.Rows L2 QQ
def zzo {z:Str}:Bn z=true↔∀ c∈z.cps.toList,c < 128:=by
 unfold Bn;rw [<- Array.all_toList,jb4];exact ⟨λ h c hc=>of_decide_eq_true (h c hc),λ h c hc=>decide_eq_true (h c hc)⟩
def O7 (x y:Str):(x++y).cps.toList=x.cps.toList++y.cps.toList:=Array.toList_append
def OF (x:Str):x.cps.toList.length=x.length:=rfl
def Dj (x y:Str):(x++y).length=x.length + y.length:=Array.size_append
def DU {x y:Str} (hx:Bn x=true) (hy:Bn y=true):Bn (x++y)=true:=zzo.mpr λ c hc=>by
 rw [O7] at hc;exact (jc4.mp hc).elim (zzo.mp hx c) (zzo.mp hy c)
def jA {x:Str}{l u:Option Int}{c:Nat} (h:c∈(Fc x l u).cps.toList):c∈x.cps.toList:=by
 unfold Fc at h;split at h
 ·exact h
 ·obtain ⟨i,_,e⟩:=jh7.mp h;exact NH (i:=i) (by rw [RA];exact e)
def JU {x:Str}{l u:Option Int} (hx:Bn x=true):Bn (Fc x l u)=true:=zzo.mpr λ c hc=>zzo.mp hx c (jA hc)
def Fg (c:Nat):List (List Nat)->List Nat
 | []=>[]
 | [x]=>x
 | x::y::r=>x++c::Fg c (y::r)
theorem V9 (c:Nat):∀ l:List Str,(Str.join ⟨#[c]⟩ l).cps.toList=Fg c (l.map (·.cps.toList))
 | []=>rfl
 | [x]=>rfl
 | x::y::r=>by
  show ((x++⟨#[c]⟩)++Str.join ⟨#[c]⟩ (y::r)).cps.toList=_;rw [O7,O7,V9 c (y::r)];show (x.cps.toList++[c])++Fg c ((y::r).map (·.cps.toList))=x.cps.toList++c::Fg c ((y::r).map (·.cps.toList));rw [NC];rfl
theorem UT {c d:Nat}:∀ {l:List (List Nat)}{p:List Nat},p∈l->d∈p->d∈Fg c l
 | [x],p,hp,hd=>by rw [jc0.mp hp] at hd;exact hd
 | x::y::r,p,hp,hd=>by
  show d∈x++c::Fg c (y::r);rcases jb2.mp hp with e | hp
  ·rw [e] at hd;exact BC _ hd
  ·exact Bj _ (AU _ (UT hp hd))
theorem US {c:Nat}:∀ (l:List (List Nat)),l.length<=(Fg c l).length + 1/\∀ p∈l,p.length<=(Fg c l).length
 | []=>⟨Gx _,λ _ z=>nomatch z⟩
 | [x]=>⟨Nat.le_add_left _ _,λ p hp=>by rw [jc0.mp hp];exact AS _⟩
 | x::y::r=>by
  have ih:=US (c:=c) (y::r);have e:(Fg c (x::y::r)).length=x.length + ((Fg c (y::r)).length + 1):=by
   show (x++c::Fg c (y::r)).length=_;rw [Cd,Cs]
  refine ⟨by rw [e,Cs];have:=ih.1;omega,λ p hp=>?_⟩;rcases jb2.mp hp with z | hp
  ·rw [z,e];omega
  ·have:=ih.2 p hp
   omega
def Tc (z:Str) (c:Nat):Fg c ((AX z ⟨#[c]⟩).map (·.cps.toList))=z.cps.toList:=by
 have e:=StrLaws.join_split z ⟨#[c]⟩;change Str.join ⟨#[c]⟩ (AX z ⟨#[c]⟩)=z at e
 have:=V9 c (AX z ⟨#[c]⟩)
 rw [e] at this;exact this.symm
def Mn {z p:Str}{c:Nat} (hz:Bn z=true) (hp:p∈AX z ⟨#[c]⟩):Bn p=true:=zzo.mpr λ d hd=>by
 refine zzo.mp hz d ?_;rw [<- Tc z c];exact UT (ND hp) hd
def HA (z:Str) (c:Nat):(AX z ⟨#[c]⟩).length<=z.length + 1/\∀ p∈AX z ⟨#[c]⟩,p.length<=z.length:=by
 have h:=US (c:=c) ((AX z ⟨#[c]⟩).map (·.cps.toList));rw [Tc,Bg] at h;exact ⟨h.1,λ p hp=>h.2 _ (ND hp)⟩
def FG:Str := "0123456789"
def GA (c:Nat):Bool:=J0 FG ⟨#[c]⟩
def figL:List Nat:=[48,49,50,51,52,53,54,55,56,57]
def OE {c:Nat} (h:GA c=true):c∈figL:=by
 unfold GA J0 at h;rw [StrLaws.found_one] at h
 have:=of_decide_eq_true h
 rw [show FG.cps.toList=figL by decide +kernel] at this;exact this
def JN (z:Str):Bool:=(⟨#[z.cps.toList.getD 0 0]⟩:Str) == "0"
def Wr (z:Str):Bool:=decide (1<=z.length) && decide (z.length<=2) && z.cps.toList.all GA && (decide (z.length=1) || !JN z)
def Bs (z:Str):Int:=(J7 z).getD 0
def N3 (z:Str):Bool:=match J7 z with
 | some n=>decide (0<=n) && decide (n<=99)
 | none=>false
def qa:figL.all (λ c=>N3 ⟨#[c]⟩)=true:=by decide +kernel
def qb:figL.all (λ c=>figL.all λ d=>N3 ⟨#[c,d]⟩)=true:=by decide +kernel
def qc {z:Str} (h:N3 z=true):J7 z=some (Bs z)/\0<=Bs z/\Bs z<=99:=by
 unfold N3 at h;split at h
 ·rename_i n e;rw [AF] at h;have e2:Bs z=n:=by unfold Bs;rw [e];rfl
  rw [e2];exact ⟨e,of_decide_eq_true h.1,of_decide_eq_true h.2⟩
 ·cases h
theorem Ub {z:Str} (h:Wr z=true):J7 z=some (Bs z)/\0<=Bs z/\Bs z<=99:=by
 refine qc ?_;unfold Wr at h;rw [AF,AF,AF] at h;obtain ⟨⟨⟨h1,h2⟩,h3⟩,_⟩:=h;have h1:=of_decide_eq_true h1;have h2:=of_decide_eq_true h2;have ez:z=⟨z.cps.toList.toArray⟩:=rfl;rw [<- OF] at h1 h2;rw [jb4] at h3;rw [ez];generalize z.cps.toList=l at h1 h2 h3
 match l with
 | []=>cases h1
 | [c]=>exact jb4.mp qa c (OE (h3 c Ba))
 | [c,d]=>exact jb4.mp (jb4.mp qb c (OE (h3 c Ba))) d (OE (h3 d (AU _ Ba)))
 | _::_::_::_=>simp at h2
def wv (z:Str):Int:=if Wr z=true then Bs z else -1
def Dp:Nat->PV->Bool
 | 0,_=>false
 | n + 1,x=>match x with
  | .lst xs=>decide (xs.length<=1000) && xs.all (Dp n)
  | .tup xs=>decide (xs.length<=1000) && xs.all (Dp n)
  | .scr _=>false
  | .exn _=>false
  | .dct _=>false
  | .dko=>false
  | _=>true
def Md {n:Nat}{xs:List PV} (h:Dp (n + 1) (.lst xs)=true):xs.length<=1000/\∀ x∈xs,Dp n x=true:=by
 unfold Dp at h;dsimp only at h;rw [AF,jb4] at h;exact ⟨of_decide_eq_true h.1,h.2⟩
def Va {n:Nat}{xs:List PV} (h:Dp (n + 1) (.tup xs)=true):xs.length<=1000/\∀ x∈xs,Dp n x=true:=by
 unfold Dp at h;dsimp only at h;rw [AF,jb4] at h;exact ⟨of_decide_eq_true h.1,h.2⟩
def Ut {n:Nat}{xs:List PV} (hl:xs.length<=1000) (h:∀ x∈xs,Dp n x=true):Dp (n + 1) (.lst xs)=true:=by
 unfold Dp;dsimp only;rw [AF,jb4];exact ⟨decide_eq_true hl,h⟩
def ZS:PV->Bool
 | .int _=>true
 | _=>false
theorem Tg {n:Nat} (x:PV) (h:Dp n x=true):f_is_whole_number [x]=.ok (.bl (ZS x),om,.non):=by
 cases n with
 | zero=>cases h
 | succ n=>
  cases x with
  | non=>kernel_rfl
  | bl b=>cases b <;> kernel_rfl
  | int i=>kernel_rfl
  | str s=>kernel_rfl
  | lst xs=>kernel_rfl
  | tup xs=>kernel_rfl
  | emp=>kernel_rfl
  | dko=>cases h
  | scr _=>cases h
  | exn _=>cases h
  | dct _=>cases h
def Qp:PV->Bool
 | .int i=>decide (1<=i)
 | _=>false
def IT:PV->Bool
 | .tup xs=>decide (xs.length=3) && xs.all Qp
 | _=>false
theorem zS {n:Nat}{y x:PV} (h:Dp n x=true):(Bb (A8 f_is_whole_number (Ad (Aa 1) (Ac))) (Ab (Be λ i j=>decide (j<=i)) (Aa 1) (bC (.int 1)))) ([some (y,dv y)]++[some (x,dv x)])=.ok (.bl (Qp x),om,[some (y,dv y)]++[some (x,dv x)]):=by
 have w:=BD (F:=f_is_whole_number) (fa:=Ad (Aa 1) Ac) (ρ:=[some (y,dv y)]++[some (x,dv x)]) (xs:=[(x,dv x)]) rfl (Tg x h);cases n with
 | zero=>cases h
 | succ n=>
  cases x with
  | int i=>exact DJ (a:=true) w (λ _=>Hy (i:=i) (j:=1) rfl rfl) rfl
  | scr _=>cases h
  | exn _=>cases h
  | dct _=>cases h
  | _=>exact DJ (a:=false) (b:=false) w (λ e=>nomatch e) rfl
def V7 {n:Nat}{f elt:Fx}{ρ ρ1:Ag}{d:Nat}{g:PV->Bool} (xs:List PV) (hf:f ρ=.ok (.lst xs,d,ρ1)) (hn:ρ1.length=n) (he:∀ x∈xs,elt (ρ1++[some (x,dv x)])=.ok (.bl (g x),om,ρ1++[some (x,dv x)])) (hl:xs.length<=1000):Am DV (Ad (BK f 1 (Ao n) By elt) Ac) ρ=.ok (.bl (xs.all g),om,ρ1):=by
 have z:=sz;exact all_ok (Ge (enc:=λ x=>x) (q:=λ x=>.bl (g x)) xs (by rw [Wd];exact hf) hn he (by omega))
def jq {n:Nat}{f elt:Fx}{ρ ρ1:Ag}{d:Nat}{g:PV->Bool} (xs:List PV) (hf:f ρ=.ok (.tup xs,d,ρ1)) (hn:ρ1.length=n) (he:∀ x∈xs,elt (ρ1++[some (x,dv x)])=.ok (.bl (g x),om,ρ1++[some (x,dv x)])) (hl:xs.length<=1000):Am DV (Ad (BK f 1 (Ao n) By elt) Ac) ρ=.ok (.bl (xs.all g),om,ρ1):=by
 have z:=sz;exact all_ok (V6 (enc:=λ x=>x) (q:=λ x=>.bl (g x)) xs (by rw [Wd];exact hf) hn he (by omega))
theorem ZE {n:Nat}{y:PV} (h:Dp n y=true):f_is_box [y]=.ok (.bl (IT y),om,.non):=by
 have z:=sz;refine BG rfl (ρ':=[some (y,dv y)]) ?_;show Xf_is_box [some (y,dv y)]=_;cases n with
 | zero=>cases h
 | succ n=>
  cases y with
  | tup xs=>
   have t:bT (Ay (Ap AQ (Ap (AH "tuple") (Aa 0))) (Ab (Ak true) (Am AO (Ad (Aa 0) (Ac))) (bC (.int 3)))) [some (.tup xs,0)]=.ok (!decide (xs.length=3),[some (.tup xs,0)]):=by
    refine Av (d:=om) ((Et (a:=false) rfl (λ _=>Dk (i:=(xs.length:Int)) (j:=3) rfl rfl) rfl).trans ?_);rw [IG,Hf];have e:decide ((xs.length:Int)=3)=decide (xs.length=3):=decide_eq_decide.mpr (by omega);rw [e]
   dsimp only [IT];by_cases hc:xs.length=3
   ·rw [decide_eq_true hc] at t ⊢;refine (DW t).trans (CT ?_);exact jq (g:=Qp) xs (d:=0) rfl rfl (λ x hx=>zS ((Va h).2 x hx)) (Va h).1
   ·rw [decide_eq_false hc] at t ⊢;exact CJ ((A4 t).trans rfl)
  | scr _=>cases h
  | exn _=>cases h
  | dct _=>cases h
  | _=>exact CJ ((A4 (Av (d:=om) (Et (a:=true) (b:=false) rfl (λ e=>nomatch e) rfl))).trans rfl)
def RJ (h:Int):PV->Bool
 | .int i=>decide (0<=i) && decide (i<=h)
 | _=>false
def DD (c h:Int):PV->Bool
 | .lst xs=>decide ((xs.length:Int)=c) && xs.all (RJ h)
 | _=>false
theorem Yl {n:Nat}{y x:PV}{c h:Int} (hx:Dp n x=true):(Bb (A8 f_is_whole_number (Ad (Aa 3) (Ac))) (Gn (λ i j=>decide (i<=j)) (λ i j=>decide (i<=j)) (bC (.int 0)) (Aa 3) (Aa 2))) ([some (y,dv y),some (.int c,om),some (.int h,om)]++[some (x,dv x)])=.ok (.bl (RJ h x),om,[some (y,dv y),some (.int c,om),some (.int h,om)]++[some (x,dv x)]):=by
 have w:=BD (F:=f_is_whole_number) (fa:=Ad (Aa 3) Ac) (ρ:=[some (y,dv y),some (.int c,om),some (.int h,om)]++[some (x,dv x)]) (xs:=[(x,dv x)]) rfl (Tg x hx);cases n with
 | zero=>cases hx
 | succ n=>
  cases x with
  | int i=>exact DJ (a:=true) w (λ _=>OO (i:=0) (j:=i) (k:=h) rfl rfl rfl) rfl
  | scr _=>cases hx
  | exn _=>cases hx
  | dct _=>cases hx
  | _=>exact DJ (a:=false) (b:=false) w (λ e=>nomatch e) rfl
theorem xk {n:Nat}{y:PV}{c h:Int} (hy:Dp n y=true):f_is_row_of_heights [y,.int c,.int h]=.ok (.bl (DD c h y),om,.non):=by
 refine BG rfl (ρ':=[some (y,dv y),some (.int c,om),some (.int h,om)]) ?_;show Xf_is_row_of_heights [some (y,dv y),some (.int c,om),some (.int h,om)]=_;cases n with
 | zero=>cases hy
 | succ n=>
  cases y with
  | lst xs=>
   have t:bT (Ay (Ap AQ (Ap (AH "list") (Aa 0))) (Ab (Ak true) (Am AO (Ad (Aa 0) (Ac))) (Aa 1))) [some (.lst xs,0),some (.int c,om),some (.int h,om)]=.ok (!decide ((xs.length:Int)=c),[some (.lst xs,0),some (.int c,om),some (.int h,om)]):=by
    refine Av (d:=om) ((Et (a:=false) rfl (λ _=>Dk (i:=(xs.length:Int)) (j:=c) rfl rfl) rfl).trans ?_);rw [IG,Hf]
   dsimp only [DD];by_cases hc:(xs.length:Int)=c
   ·rw [decide_eq_true hc] at t ⊢;refine (DW t).trans (CT ?_);exact V7 (g:=RJ h) xs (d:=0) rfl rfl (λ x hx=>Yl ((Md hy).2 x hx)) (Md hy).1
   ·rw [decide_eq_false hc] at t ⊢;exact CJ ((A4 t).trans rfl)
  | scr _=>cases hy
  | exn _=>cases hy
  | dct _=>cases hy
  | _=>exact CJ ((A4 (Av (d:=om) (Et (a:=true) (b:=false) rfl (λ e=>nomatch e) rfl))).trans rfl)
def Ha (a b c:Int):PV->Bool
 | .lst xs=>decide ((xs.length:Int)=a) && xs.all (DD b c)
 | _=>false
theorem jz {n:Nat}{x:PV}{a b c:Int} (hb:Eh a b c=true) (hx:Dp n x=true) (h:Ha a b c x=false):f_is_pile [bx a b c,x]=.ok (.bl false,om,.non):=by
 let R:Ag:=[some (bx a b c,0),some (x,dv x),some (.int a,om),some (.int b,om),some (.int c,om)]
 refine BG rfl (ρ':=R) ?_;show Xf_is_pile [some (bx a b c,0),some (x,dv x),none,none,none]=_;refine (A2 (LW (BD (xs:=[(bx a b c,0)]) rfl (LQ hb)))).trans ?_;refine (A2 (ρ1:=R) rfl).trans ?_;cases n with
 | zero=>cases hx
 | succ n=>
  cases x with
  | lst xs=>
   have t:bT (Ay (Ap AQ (Ap (AH "list") (Aa 1))) (Ab (Ak true) (Am AO (Ad (Aa 1) (Ac))) (Aa 2))) R=.ok (!decide ((xs.length:Int)=a),R):=by
    refine Av (d:=om) ((Et (a:=false) rfl (λ _=>Dk (i:=(xs.length:Int)) (j:=a) rfl rfl) rfl).trans ?_);rw [IG,Hf]
   dsimp only [Ha] at h;by_cases hc:(xs.length:Int)=a
   ·rw [decide_eq_true hc] at t h;refine (DW t).trans ?_;have e:=V7 (g:=DD b c) (f:=Aa 1) (elt:=A8 f_is_row_of_heights (Ad (Aa 5) (Ad (Aa 3) (Ad (Aa 4) (Ac))))) (ρ:=R) xs (d:=0) rfl rfl (λ y hy=>BD (xs:=[(y,dv y),(.int b,om),(.int c,om)]) rfl (xk ((Md hx).2 y hy))) (Md hx).1;rw [show xs.all (DD b c)=false from h] at e;exact CJ ((A4 (Av (E3 e))).trans rfl)
   ·rw [decide_eq_false hc] at t;exact CJ ((A4 t).trans rfl)
  | scr _=>cases hx
  | exn _=>cases hx
  | dct _=>cases hx
  | _=>exact CJ ((A4 (Av (d:=om) (Et (a:=true) (b:=false) rfl (λ e=>nomatch e) rfl))).trans rfl)
def zy {c h:Int}{xs:List PV} (hl:(xs.length:Int)≠c):DD c h (.lst xs)=false:=by
 show (decide _ && _)=false;rw [decide_eq_false hl];rfl
def zl {a b c:Int}{xs:List PV} (hl:(xs.length:Int)≠a):Ha a b c (.lst xs)=false:=by
 show (decide _ && _)=false;rw [decide_eq_false hl];rfl
def zm {a b c:Int}{xs:List PV}{x:PV} (hx:x∈xs) (he:DD b c x=false):Ha a b c (.lst xs)=false:=by
 show (_ && List.all _ _)=false;rw [show xs.all (DD b c)=false from ji5.mpr ⟨x,hx,by rw [he];exact BN⟩,Lp]
def ON {a b c:Nat} (ha:1<=a) (hb:1<=b) (hc:1<=c):Eh a b c=true:=by
 unfold Eh;rw [decide_eq_true (show (1:Int)<=a by omega),decide_eq_true (show (1:Int)<=b by omega),decide_eq_true (show (1:Int)<=c by omega)];rfl
def XA {n:Nat}{r:List Int} (h:r.length<=1000):Dp (n + 2) (il r)=true:=Ut (by rw [Bg];exact h) λ x hx=>by
 obtain ⟨i,_,rfl⟩:=jf4.mp hx;rfl
def Ku {f g:Fs}{ρ:Ag}{c:Nat} (h:f ρ=.exc c):Ae f g ρ=.exc c:=by unfold Ae;rw [h]
def JZ {F:Fn}{fa:Fa}{ρ ρ1:Ag}{xs:List (PV×Nat)}{c:Nat} (h1:fa ρ=.ok (xs,ρ1)) (h2:F (xs.map (·.1))=.exc c):A8 F fa ρ=.exc c:=by
 unfold A8;rw [h1];dsimp only [Rz.bind];rw [h2]
def Ot {f:Fx}{ρ:Ag}{c:Nat} (h:f ρ=.exc c):Dd f ρ=.exc c:=by unfold Dd;rw [h]
def Jl {np k:Nat}{b:Fs}{xs:List PV}{c:Nat} (hl:xs.length=np) (h:b (xs.map (λ x=>some (x,dv x))++AM k none)=.exc c):A0 false np k b xs=.exc c:=by
 unfold A0;rw [if_pos hl];show (match b (xs.map (λ x=>some (x,dv x))++AM k none) with | .rt y d ρ=>_ | .nx ρ=>_ | .exc c=>_ | _=>_)=_;rw [h]
def jM {y:PV} (h:f_is_box [y]=.ok (.bl false,om,.non)):f_must_be_box [y]=.exc 1:=
 Jl rfl ((A4 (f:=Dn 1) (g:=Al) (Av (E3 (BD (F:=f_is_box) (fa:=Ad (Aa 0) Ac) (ρ:=[some (y,dv y)]) (xs:=[(y,dv y)]) rfl h)))).trans rfl)
end QV
namespace K55
open PySem PySem.Spec PyProof.Rows L2 QQ QV
def xP {n:Nat}{f elt:Fx}{q:Nat->PV}{ρ ρ1:Ag}{d:Nat} (z:Str) (hf:f ρ=.ok (.str z,d,ρ1)) (ha:Bn z=true) (hn:ρ1.length=n) (he:∀ c∈z.cps.toList,elt (ρ1++[some (.str ⟨#[c]⟩,om)])=.ok (q c,om,ρ1++[some (.str ⟨#[c]⟩,om)])) (hl:z.length<=1000):
  BK f 1 (Ao n) By elt ρ=.ok (.lst (z.cps.toList.map q),om,ρ1):=by
 have s:=sz;unfold BK;rw [hf];dsimp only;rw [if_pos ha];show (CC 1 (Ao n) By elt (z.cps.toList.map λ c=>PV.str ⟨#[c]⟩) ρ1 []).bindN _=_;rw [HK (enc:=λ c=>PV.str ⟨#[c]⟩) (p:=λ _=>true) (q:=q) (e:=λ _=>om) z.cps.toList ρ1 [] hn (λ _ _=>rfl) (λ x hx _=>he x hx) (by rw [OF];simpa using (show z.length<=Au by omega)),jh5.mpr (λ _ _=>rfl)];show Cv (z.cps.toList.map λ x=>(q x,om)) ρ1=_;unfold Cv;rw [HJ,Ec];rfl
def Qj {f:Fx}{ρ:Ag}{z:Str}{d:Nat} (h:f ρ=.ok (.str z,d,ρ)) (hl:z.length<=1000):Am AO (Ad f Ac) ρ=.ok (.int (z.length:Int),om,ρ):=by
 have s:=sz;exact Dy (Cw h) (by unfold AO;dsimp only;rw [if_pos (by omega)])
def N0 {neg:Bool}{f g:Fx}{ρ ρ1 ρ2:Ag}{x y:Str}{d e:Nat} (h1:f ρ=.ok (.str x,d,ρ1)) (h2:g ρ1=.ok (.str y,e,ρ2)):Ab (Ak neg) f g ρ=.ok (.bl (neg^^(x == y)),om,ρ2):=by
 refine CG h1 h2 ?_;unfold Ak;rw [show BP 20 (.str x)=if K3 x=true then some (.str x) else none from rfl,show BP 20 (.str y)=if K3 y=true then some (.str y) else none from rfl];by_cases hx:K3 x=true
 ·rw [if_pos hx];by_cases hy:K3 y=true
  ·rw [if_pos hy];dsimp only;rw [EH]
  ·rw [if_neg hy]
 ·rw [if_neg hx]
def T7 {f:Fx}{ρ:Ag}{z:Str}{d:Nat} (h:f ρ=.ok (.str z,d,ρ)) (hl:1<=z.length/\z.length<=1000):Ab Ah f (bC (.int 0)) ρ=.ok (.str ⟨#[z.cps.toList.getD 0 0]⟩,om,ρ):=by
 have s:=sz;refine CG h (y:=.int 0) (e:=om) rfl ?_;unfold Ah;dsimp only;rw [if_pos (by omega),CK (x:=z.cps.toList.getD 0 0) (by decide) (by
  have:0 < z.cps.toList.length:=by rw [OF];omega
  show z.cps.toList[0]?=_;rw [BI,Cm this]
  rfl)]
 rfl
theorem jH {w:Str} (ha:Bn w=true) (hl:w.length<=1000):F7 [.str w,.int 2]=.ok (.bl (Wr w),om,.non):=by
 let R:Ag:=[some (.str w,om),some (.int 2,om)]
 refine BG rfl (ρ':=R) ?_;have ln:=Qj (f:=Aa 0) (ρ:=R) (z:=w) (d:=om) rfl hl;have c1:=E3 (OO (p:=λ i j=>decide (i<=j)) (q:=λ i j=>decide (i<=j)) (f:=bC (.int 1)) (i:=1) (d:=om) rfl ln (h:=Aa 1) (k:=2) (c:=om) rfl);rw [show decide ((1:Int)<=(w.length:Int))=decide (1<=w.length) from decide_eq_decide.mpr (by omega),show decide ((w.length:Int)<=2)=decide (w.length<=2) from decide_eq_decide.mpr (by omega)] at c1;have e2:=xP (n:=2) (f:=Aa 0) (ρ:=R) (ρ1:=R) (d:=om) (q:=λ c=>.bl (GA c)) (elt:=Ab (Ck false) (Aa 2) (bC (.str "0123456789"))) w rfl ha rfl (λ c _=>CG (x:=.str ⟨#[c]⟩) (y:=.str FG) (d:=om) (e:=om) rfl rfl (by
  show some (PV.bl (false^^J0 FG ⟨#[c]⟩),om)=_;rw [FV]
  rfl)) hl
 have c2:=E3 (all_ok (g:=GA) e2);cases h1:(decide (1<=w.length) && decide (w.length<=2)) with
 | false=>
  rw [h1] at c1;have ew:Wr w=false:=by unfold Wr;rw [h1,EM,EM]
  rw [ew];exact CJ ((A4 (Av c1)).trans rfl)
 | true=>
  rw [h1] at c1;refine (A2 ((AK (Av c1)).trans rfl)).trans ?_;cases h2:w.cps.toList.all GA with
  | false=>
   rw [h2] at c2;have ew:Wr w=false:=by unfold Wr;rw [h2,Lp,EM]
   rw [ew];exact CJ ((A4 (Av c2)).trans rfl)
  | true=>
   rw [h2] at c2;refine (A2 ((AK (Av c2)).trans rfl)).trans ?_;rw [AF] at h1;have l1:=of_decide_eq_true h1.1;have e3:=Dk (neg:=false) ln (g:=bC (.int 1)) (j:=1) (e:=om) rfl;rw [FV,show decide ((w.length:Int)=1)=decide (w.length=1) from decide_eq_decide.mpr (by omega)] at e3;have e4:=N0 (neg:=true) (T7 (f:=Aa 0) (ρ:=R) (z:=w) (d:=om) rfl ⟨l1,hl⟩) (g:=bC (.str "0")) (y := "0") (e:=om) rfl;have e5:=Et e3 (λ _=>e4) rfl;have ew:Wr w=(decide (w.length=1) || (true^^JN w)):=by
    unfold Wr;rw [h1.1,h1.2,h2,Hf];rfl
   rw [ew];exact CT e5
theorem SU {asg:PV->Ag->Option Ag}{body:Fs}{v:PV} (ok:PV->Bool) (I:Ag->Prop):∀ (els:List PV) (ρ:Ag),I ρ->(∀ x∈els,∀ ρ,I ρ->∃ ρ1,asg x ρ=some ρ1/\((ok x=true/\∃ ρ2,body ρ1=.nx ρ2/\I ρ2)\/(ok x=false/\∃ ρ2,body ρ1=.rt v om ρ2))) ->
  (els.all ok=true/\∃ ρ',Ci asg body els ρ=.nx ρ'/\I ρ')\/(els.all ok=false/\∃ ρ',Ci asg body els ρ=.rt v om ρ')
 | [],ρ,h,_=>.inl ⟨rfl,ρ,rfl,h⟩
 | x::xs,ρ,h,hb=>by
  obtain ⟨ρ1,e1,⟨hx,ρ2,e2,h2⟩ | ⟨hx,ρ2,e2⟩⟩:=hb x Ba ρ h
  ·rcases SU ok I xs ρ2 h2 (λ y hy=>hb y (AU _ hy)) with ⟨ha,ρ',e,h'⟩ | ⟨ha,ρ',e⟩
   ·exact .inl ⟨by rw [EL,hx,ha];rfl,ρ',by unfold Ci;rw [e1];dsimp only;rw [e2];exact e,h'⟩
   ·exact .inr ⟨by rw [EL,ha,Lp],ρ',by unfold Ci;rw [e1];dsimp only;rw [e2];exact e⟩
  ·exact .inr ⟨by rw [EL,hx,EM],ρ2,by unfold Ci;rw [e1];dsimp only;rw [e2]⟩
def MY (z:Str):List PV:=z.cps.toList.map λ c=>.str ⟨#[c]⟩
def Wa:PV->Bool
 | .str z=>J0 FG z
 | _=>false
theorem jI {w:Str} (ha:Bn w=true) (hl:w.length<=1000):IY [.str w]=.ok (.int (wv w),om,.non):=by
 let R (s:QQ.Slot):Ag:=[some (.str w,om),s]
 have ln:=Qj (f:=Aa 0) (ρ:=R none) (z:=w) (d:=om) rfl hl;have e0:=N0 (neg:=false) (f:=Aa 0) (g:=bC (.str "")) (ρ:=R none) (ρ1:=R none) (ρ2:=R none) (x:=w) (y := "") (d:=om) (e:=om) rfl rfl;have e1:=Hy (p:=λ i j=>decide (j < i)) ln (g:=bC (.int 2)) (j:=2) (e:=om) rfl;have e2:=Dk (neg:=false) ln (g:=bC (.int 2)) (j:=2) (e:=om) rfl;rw [FV] at e0 e2;have hemp:(w == "")=decide (w.length=0):=by
  cases h:decide (w.length=0) with
  | true=>
   have h:=of_decide_eq_true h
   have:w = "" := by
    have e:w.cps=#[]:=WJ h;exact congrArg Str.mk e
   rw [this];rfl
  | false=>
   have h:=of_decide_eq_false h;cases hb:(w == "") with
   | false=>rfl
   | true=>exact absurd (by rw [eq_of_beq hb];rfl) h
 rw [hemp] at e0;rw [show decide ((2:Int) < (w.length:Int))=decide (2 < w.length) from decide_eq_decide.mpr (by omega)] at e1;rw [show decide ((w.length:Int)=2)=decide (w.length=2) from decide_eq_decide.mpr (by omega)] at e2;have first:(Ay (Ab (Ak false) (Aa 0) (bC (.str ""))) (Ay (Ab (Be λ i j=>decide (j < i)) (Am AO (Ad (Aa 0) (Ac))) (bC (.int 2))) (Bb (Ab (Ak false) (Am AO (Ad (Aa 0) (Ac))) (bC (.int 2))) (Ab (Ak false) (Ab Ah (Aa 0) (bC (.int 0))) (bC (.str "0")))))) (R none)=.ok (.bl (decide (w.length=0) || (decide (2 < w.length) || (decide (w.length=2) && JN w))),om,R none):=by
  refine Et e0 (λ h0=>Et e1 (λ _=>DJ e2 (λ _=>?_) rfl) rfl) rfl
  have:=of_decide_eq_false h0
  have e4:=N0 (neg:=false) (T7 (f:=Aa 0) (ρ:=R none) (z:=w) (d:=om) rfl ⟨by omega,hl⟩) (g:=bC (.str "0")) (y := "0") (e:=om) rfl;rw [FV] at e4;exact e4
 have bad:Wr w=false->PV.int (wv w)=.int (-1):=λ h=>by unfold wv;rw [h];rfl
 cases hc:(decide (w.length=0) || (decide (2 < w.length) || (decide (w.length=2) && JN w))) with
 | true=>
  rw [hc] at first
  have ew:Wr w=false:=by
   unfold Wr;rcases Ee _ _ |>.mp hc with h | h
   ·rw [decide_eq_false (show ¬ (1<=w.length) by have:=of_decide_eq_true h;omega),EM,EM,EM]
   ·rcases Ee _ _ |>.mp h with h | h
    ·rw [decide_eq_false (show ¬ (w.length<=2) by have:=of_decide_eq_true h;omega),Lp,EM,EM]
    ·rw [AF] at h;rw [h.2,decide_eq_false (show ¬ (w.length=1) by have:=of_decide_eq_true h.1;omega)];exact Lp _
  rw [bad ew];exact BG rfl (ρ':=R none) (CJ ((A4 (Av first)).trans rfl))
 | false=>
  rw [hc] at first
  rw [WD,WD] at hc;have l0:=of_decide_eq_false hc.1;have l2:=of_decide_eq_false hc.2.1;have hp:(decide (w.length=1) || !JN w)=true:=by
   by_cases h1:w.length=1
   ·rw [decide_eq_true h1];rfl
   ·have:=hc.2.2
    rw [decide_eq_true (show w.length=2 by omega),Rm] at this;rw [this];exact Wf _
  have ew:Wr w=w.cps.toList.all GA:=by
   unfold Wr;rw [hp,decide_eq_true (show 1<=w.length by omega),decide_eq_true (show w.length<=2 by omega),N7];rfl
  have s1:Ax (bT (Ay (Ab (Ak false) (Aa 0) (bC (.str ""))) (Ay (Ab (Be λ i j=>decide (j < i)) (Am AO (Ad (Aa 0) (Ac))) (bC (.int 2))) (Bb (Ab (Ak false) (Am AO (Ad (Aa 0) (Ac))) (bC (.int 2))) (Ab (Ak false) (Ab Ah (Aa 0) (bC (.int 0))) (bC (.str "0"))))))) (An (Ap Cp (bC (.int 1)))) Al (R none)=.nx (R none):=(AK (Av first)).trans rfl;have sg:(MY w).all Wa=w.cps.toList.all GA:=by
   unfold MY;rw [List.all_map];rfl
  have sf:Fz (Aa 0) [0] (Ao 1) (Ax (bT (Ab (Ck true) (Aa 1) (bC (.str "0123456789")))) (An (Ap Cp (bC (.int 1)))) Al) (R none)=Ci (Ao 1) (Ax (bT (Ab (Ck true) (Aa 1) (bC (.str "0123456789")))) (An (Ap Cp (bC (.int 1)))) Al) (MY w) (R none):=by
   show (if Bn w=true then _ else _)=_;rw [if_pos ha];rfl
  rcases SU (v:=.int (-1)) (asg:=Ao 1) (body:=Ax (bT (Ab (Ck true) (Aa 1) (bC (.str "0123456789")))) (An (Ap Cp (bC (.int 1)))) Al) Wa (λ ρ=>∃ s,ρ=R s) (MY w) (R none) ⟨none,rfl⟩ (by
   rintro x hx ρ ⟨s,rfl⟩;obtain ⟨c,_,rfl⟩:=jf4.mp hx;let ρ1:Ag:=R (some (.str ⟨#[c]⟩,om));have ei:Ab (Ck true) (Aa 1) (bC (.str "0123456789")) ρ1=.ok (.bl (true^^GA c),om,ρ1):=CG (x:=.str ⟨#[c]⟩) (y:=.str FG) (d:=om) (e:=om) rfl rfl rfl;refine ⟨ρ1,rfl,?_⟩;cases hf:GA c with
   | true=>rw [hf] at ei;exact .inl ⟨hf,_,(AK (Av ei)).trans rfl,_,rfl⟩
   | false=>rw [hf] at ei;exact .inr ⟨hf,_,(A4 (Av ei)).trans rfl⟩) with ⟨ha',ρ',e,s',rfl⟩ | ⟨ha',ρ',e⟩
  ·rw [sg] at ha';rw [ha'] at ew;have v:=(Ub ew).1;have ev:wv w=Bs w:=by unfold wv;rw [ew];rfl
   rw [ev];refine BG rfl (ρ':=R s') ((A2 s1).trans ((A2 (sf.trans e)).trans (CT (Dy (Cw (x:=.str w) (d:=om) rfl) (by
    unfold Ft;dsimp only;rw [if_pos (by omega),v]
    rfl)))))
  ·rw [sg] at ha';rw [ha'] at ew;rw [bad ew];exact BG rfl (ρ':=ρ') ((A2 s1).trans (CJ (sf.trans e)))
def Yg {α:Type}{n:Nat}{f elt:Fx}{test:Fb}{enc q:α->PV}{e:α->Nat}{p:α->Bool}{ρ ρ1:Ag}{d:Nat} (xs:List α) (hf:f ρ=.ok (.lst (xs.map enc),d,ρ1)) (hn:ρ1.length=n) (ht:∀ x∈xs,test (ρ1++[some (enc x,dv (enc x))])=.ok (p x,ρ1++[some (enc x,dv (enc x))])) (he:∀ x∈xs,p x=true->elt (ρ1++[some (enc x,dv (enc x))])=.ok (q x,e x,ρ1++[some (enc x,dv (enc x))])) (hl:xs.length<=Au):
  ∃ d',BK f 1 (Ao n) test elt ρ=.ok (.lst ((xs.filter p).map q),d',ρ1):=by
 unfold BK;rw [hf];dsimp only;rw [HK (p:=p) (q:=q) (e:=e) xs ρ1 [] hn ht he (by simpa using hl)];show ∃ d',Cv ((xs.filter p).map λ x=>(q x,e x)) ρ1=_;unfold Cv;rw [Ec];exact ⟨_,rfl⟩
def Y1:Fx:=Ay (Ab (Be λ i j=>decide (i < j)) (Ab Ah (Ab Ah (Aa 1) (Aa 2)) (Aa 3)) (bC (.int 0))) (Ay (Ab (Be λ i j=>decide (j < i)) (Ab Ah (Ab Ah (Aa 1) (Aa 2)) (Aa 3)) (Ab Ah (Aa 0) (bC (.int 2)))) (Bb (Ab (Be λ i j=>decide (j < i)) (Aa 2) (bC (.int 0))) (Ab (Be λ i j=>decide (j < i)) (Ab Ah (Ab Ah (Aa 1) (Aa 2)) (Aa 3)) (Ab Ah (Ab Ah (Aa 1) (Ab CD (Aa 2) (bC (.int 1)))) (Aa 3)))))
def Y2:Fx:=Bb (Ab (Be λ i j=>decide (j < i)) (Aa 3) (bC (.int 0))) (Ab (Be λ i j=>decide (j < i)) (Ab Ah (Ab Ah (Aa 1) (Aa 2)) (Aa 3)) (Ab Ah (Ab Ah (Aa 1) (Aa 2)) (Ab CD (Aa 3) (bC (.int 1)))))
def YB:Fs:=Ae (Ax (bT Y1) (An (bC (.bl false))) Al) (Ax (bT Y2) (An (bC (.bl false))) Al)
def YH:Fx:=Ay (Ab (Ak true) (Am AO (Ad (Aa 1) (Ac))) (Ab Ah (Aa 0) (bC (.int 0)))) (Ab (Ak true) (BK (Aa 1) 1 (Ao 4) (bT (Ab (Ak true) (Am AO (Ad (Aa 4) (Ac))) (Ab Ah (Aa 0) (bC (.int 1))))) (Aa 4)) (Am AY (Ac)))
def UI:L8=Ae (Ax (bT YH) (An (bC (.bl false))) Al) (Ae (CF Bo (Ad (Ab Ah (Aa 0) (bC (.int 0))) (Ac)) (Ao 2) (CF Bo (Ad (Ab Ah (Aa 0) (bC (.int 1))) (Ac)) (Ao 3) YB)) (An (bC (.bl true)))):=rfl
variable {a b c:Nat}{t:List (List Int)}
def FR (a b c:Nat) (t:List (List Int)) (s2 s3:QQ.Slot):Ag:=[some (bx a b c,0),some (tb t,0),s2,s3]
def ZH {i j:Nat}:(!EA c t i j)=((decide (g t i j < 0) || (decide ((c:Int) < g t i j) || (decide ((0:Int) < (i:Int)) && decide (g t (i - 1) j < g t i j)))) || (decide ((0:Int) < (j:Int)) && decide (g t i (j - 1) < g t i j))):=by
 rw [HH];unfold EA Gq;simp only [Gy,R8,Ee,AF,decide_eq_true_iff,decide_eq_false_iff_not]
 (repeat' split) <;> omega
theorem XW (ht:Tab a b t) {i j:Nat} (hi:i < a) (hj:j < b):YB (FR a b c t (some (.int (i:Int),om)) (some (.int (j:Int),om)))=if EA c t i j=true then .nx (FR a b c t (some (.int (i:Int),om)) (some (.int (j:Int),om))) else .rt (.bl false) om (FR a b c t (some (.int (i:Int),om)) (some (.int (j:Int),om))):=by
 let Q:Ag:=FR a b c t (some (.int (i:Int),om)) (some (.int (j:Int),om));have v:Ab Ah (Ab Ah (Aa 1) (Aa 2)) (Aa 3) Q=.ok (.int (g t i j),om,Q):=LZ (i:=i) (j:=j) ht (d:=0) rfl (e:=om) rfl (e':=om) rfl hi hj;have ci:Ab (Be λ i j=>decide (j < i)) (Aa 2) (bC (.int 0)) Q=.ok (.bl (decide ((0:Int) < (i:Int))),om,Q):=rfl;have cj:Ab (Be λ i j=>decide (j < i)) (Aa 3) (bC (.int 0)) Q=.ok (.bl (decide ((0:Int) < (j:Int))),om,Q):=rfl;have y1:Y1 Q=.ok (.bl (decide (g t i j < 0) || (decide ((c:Int) < g t i j) || (decide ((0:Int) < (i:Int)) && decide (g t (i - 1) j < g t i j)))),om,Q):=by
  refine Et (Hy v (g:=bC (.int 0)) (j:=0) (e:=om) rfl) (λ _=>Et (Hy v (j:=(c:Int)) (e:=om) rfl) (λ _=>DJ ci (λ h=>?_) rfl) rfl) rfl;have h:=of_decide_eq_true h;have k:=Js (f:=Aa 2) (g:=bC (.int 1)) (ρ:=Q) (ρ1:=Q) (ρ2:=Q) (i:=(i:Int)) (j:=1) (d:=om) (e:=om) rfl rfl;rw [show (i:Int) - 1=((i - 1:Nat):Int) by omega] at k;exact Hy v (LZ (i:=i - 1) (j:=j) ht (d:=0) rfl k (e':=om) rfl (by omega) hj)
 have y2:Y2 Q=.ok (.bl (decide ((0:Int) < (j:Int)) && decide (g t i (j - 1) < g t i j)),om,Q):=by
  refine DJ cj (λ h=>?_) rfl;have h:=of_decide_eq_true h;have k:=Js (f:=Aa 3) (g:=bC (.int 1)) (ρ:=Q) (ρ1:=Q) (ρ2:=Q) (i:=(j:Int)) (j:=1) (d:=om) (e:=om) rfl rfl;rw [show (j:Int) - 1=((j - 1:Nat):Int) by omega] at k;exact Hy v (LZ (i:=i) (j:=j - 1) ht (d:=0) rfl (e:=om) rfl k hi (by omega))
 have no:=ZH (c:=c) (t:=t) (i:=i) (j:=j);unfold YB;cases h1:(decide (g t i j < 0) || (decide ((c:Int) < g t i j) || (decide ((0:Int) < (i:Int)) && decide (g t (i - 1) j < g t i j)))) with
 | true=>
  rw [h1] at y1 no;have hc:EA c t i j=false:=by simpa using no
  rw [hc,if_neg BN];exact CJ ((A4 (Av y1)).trans rfl)
 | false=>
  rw [h1] at y1 no;rw [IG] at no;refine (DW (Av y1)).trans ?_;cases h2:(decide ((0:Int) < (j:Int)) && decide (g t i (j - 1) < g t i j)) with
  | true=>
   rw [h2] at y2 no;have hc:EA c t i j=false:=by simpa using no
   rw [hc,if_neg BN];exact (A4 (Av y2)).trans rfl
  | false=>
   rw [h2] at y2 no;have hc:EA c t i j=true:=by simpa using no
   rw [hc,if_pos rfl];exact (AK (Av y2)).trans rfl
def BV (a b:Nat) (t:List (List Int)):Bool:=decide (t.length=a) && t.all λ r=>decide (r.length=b)
def zpt:BV a b t=true↔Tab a b t:=by
 unfold BV Tab;rw [AF,jb4,decide_eq_true_iff];exact ⟨λ h=>⟨h.1,λ r hr=>of_decide_eq_true (h.2 r hr)⟩,λ h=>⟨h.1,λ r hr=>decide_eq_true (h.2 r hr)⟩⟩
theorem zB (ha:a<=100) (hb:b<=100) (hl:t.length<=1000):IZ [bx a b c,tb t]=.ok (.bl (BV a b t && Fy a b c t),om,.non):=by
 have z:=sz;let R0:Ag:=FR a b c t none none;have e1:=Dk (neg:=true) (Us (fa:=Ad (Aa 1) Ac) (ρ:=R0) (ρ1:=R0) (t:=t) (d:=0) rfl) (g:=Ab Ah (Aa 0) (bC (.int 0))) (j:=(a:Int)) (e:=om) rfl;obtain ⟨d2,e2⟩:=Yg (e:=λ _=>0) (n:=4) (f:=Aa 1) (elt:=Aa 4) (test:=bT (Ab (Ak true) (Am AO (Ad (Aa 4) (Ac))) (Ab Ah (Aa 0) (bC (.int 1))))) (ρ:=R0) (ρ1:=R0) (enc:=il) (q:=il) (p:=λ r=>true^^decide ((r.length:Int)=(b:Int))) (d:=0) t rfl rfl (λ r _=>Av (Dk (neg:=true) (QD (xs:=r) (d:=0) rfl) (j:=(b:Int)) (e:=om) rfl)) (λ r _ _=>rfl) (by omega);have e3:=Xx (neg:=true) (t:=t.filter λ r=>true^^decide ((r.length:Int)=(b:Int))) (u:=[]) e2 (h:=Am AY (Ac)) (e:=om) rfl;have eh:YH R0=.ok (.bl (!BV a b t),om,R0):=by
  refine (Et e1 (λ _=>e3) rfl).trans ?_
  have:((true^^decide ((t.length:Int)=(a:Int))) || (true^^decide ((t.filter λ r=>true^^decide ((r.length:Int)=(b:Int)))=[])))=!BV a b t:=by
   rw [HH];unfold BV;rw [Hf,Hf,Ee,Gy,Gy,Gy,decide_eq_false_iff_not,decide_eq_false_iff_not,R8,decide_eq_false_iff_not,List.filter_eq_nil_iff];refine or_congr (by omega) ?_;rw [<- Bool.not_eq_true,jb4];refine not_congr (forall_congr' λ r=>imp_congr_right λ _=>?_);rw [Hf,Gy,decide_eq_false_iff_not,decide_eq_true_iff];omega
  rw [this]
 cases ht:BV a b t with
 | false=>
  rw [ht] at eh;have hF:IZ=A0 false 2 2 L8:=rfl;rw [hF,UI,EM];exact BG rfl (ρ':=R0) (CJ ((A4 (Av eh)).trans rfl))
 | true=>
  rw [ht] at eh;have tab:=zpt.mp ht;have inner:∀ i,i < a->∀ s3,(((Bw b).all λ j=>EA c t i j)=true/\∃ ρ',CF Bo (Ad (Ab Ah (Aa 0) (bC (.int 1))) (Ac)) (Ao 3) YB (FR a b c t (some (.int (i:Int),om)) s3)=.nx ρ'/\∃ s3,ρ'=FR a b c t (some (.int (i:Int),om)) s3)\/(((Bw b).all λ j=>EA c t i j)=false/\∃ ρ',CF Bo (Ad (Ab Ah (Aa 0) (bC (.int 1))) (Ac)) (Ao 3) YB (FR a b c t (some (.int (i:Int),om)) s3)=.rt (.bl false) om ρ'):=by
   intro i hi s3;rcases O3 (asg:=Ao 3) (body:=YB) (enc:=λ (k:Nat)=>.int (k:Int)) (λ j=>EA c t i j) (λ ρ=>∃ s3,ρ=FR a b c t (some (.int (i:Int),om)) s3) (Bw b) (FR a b c t (some (.int (i:Int),om)) s3) ⟨_,rfl⟩ (by
    rintro j hj _ ⟨s3,rfl⟩;have em:=XW (c:=c) tab hi (jd0.mp hj);refine ⟨FR a b c t (some (.int (i:Int),om)) (some (.int (j:Int),om)),rfl,?_⟩;cases hc:EA c t i j with
    | true=>rw [hc] at em;exact .inl ⟨rfl,_,em,_,rfl⟩
    | false=>rw [hc] at em;exact .inr ⟨rfl,_,em⟩) with ⟨h1,ρ',h2,h3⟩ | ⟨h1,ρ',h2⟩
   ·exact .inl ⟨h1,ρ',LX (n:=b) (as:=[(.int (b:Int),om)]) rfl (Fq (by omega) (by omega)) h2,h3⟩
   ·exact .inr ⟨h1,ρ',LX (n:=b) (as:=[(.int (b:Int),om)]) rfl (Fq (by omega) (by omega)) h2⟩
  have hF:IZ=A0 false 2 2 L8:=rfl;rw [hF,UI,Rm,<- zQ tab];rcases O3 (asg:=Ao 2) (body:=CF Bo (Ad (Ab Ah (Aa 0) (bC (.int 1))) (Ac)) (Ao 3) YB) (enc:=λ (k:Nat)=>.int (k:Int)) (λ i=>(Bw b).all λ j=>EA c t i j) (λ ρ=>∃ s2 s3,ρ=FR a b c t s2 s3) (Bw a) R0 ⟨_,_,rfl⟩ (by
    rintro i hi _ ⟨s2,s3,rfl⟩;refine ⟨FR a b c t (some (.int (i:Int),om)) s3,rfl,?_⟩;rcases inner i (jd0.mp hi) s3 with ⟨h1,ρ',h2,s3',rfl⟩ | ⟨h1,ρ',h2⟩
    ·exact .inl ⟨h1,_,h2,_,_,rfl⟩
    ·exact .inr ⟨h1,_,h2⟩) with ⟨h1,ρ',h2,s2,s3,rfl⟩ | ⟨h1,ρ',h2⟩
  ·rw [h1];have h4:=LX (en:=Bo) (fa:=Ad (Ab Ah (Aa 0) (bC (.int 0))) Ac) (n:=a) (as:=[(.int (a:Int),om)]) (ρ:=R0) rfl (Fq (by omega) (by omega)) h2;exact BG rfl ((DW (Av eh)).trans ((A2 h4).trans rfl))
  ·rw [h1];have h4:=LX (en:=Bo) (fa:=Ad (Ab Ah (Aa 0) (bC (.int 0))) Ac) (n:=a) (as:=[(.int (a:Int),om)]) (ρ:=R0) rfl (Fq (by omega) (by omega)) h2;exact BG rfl ((DW (Av eh)).trans (CJ h4))
def SP:Str:=⟨#[32]⟩
def SL:Str:=⟨#[47]⟩
def Nc {op:Str->PV->Nat->Option (PV×Nat)}{f g:Fx}{ρ ρ1 ρ2:Ag}{z:Str}{d e c:Nat}{y r:PV} (h1:f ρ=.ok (.str z,d,ρ1)) (h2:g ρ1=.ok (y,e,ρ2)) (h3:op z y e=some (r,c)):BB op f g ρ=.ok (r,c,ρ2):=by
 unfold BB;rw [h1];dsimp only [Rz.bind];rw [h2];dsimp only;rw [h3]
def GZ {z:Str}{c d:Nat} (h:z.length<=900):D1 z (.str ⟨#[c]⟩) d=some (.lst ((AX z ⟨#[c]⟩).map PV.str),om):=by
 have s:=sz;have h0:=(HA z c).1;have h1:=Pr z ⟨#[c]⟩ 0 z.length (z.length + 1);unfold D1;dsimp only;rw [if_pos ⟨rfl,by omega,by rw [length_partsBetween];omega,by omega⟩]
variable {z:Str}
theorem jF (ha:Bn z=true) (hl:z.length<=900):F8 [.str z,.str SP]=if (AX z SP).all Wr=true then .ok (il ((AX z SP).map Bs),om,.non) else .exc 9:=by
 have s:=sz;have ll:=HA z 32;let ws:=AX z SP;let R (s:QQ.Slot):Ag:=[some (.str z,om),some (.str SP,om),s]
 have s1:Ai false 2 (BB D1 (Aa 0) (Aa 1)) [0,1] (R none)=.nx (R (some (.lst (ws.map PV.str),om))):=AB (Nc (z:=z) (d:=om) (e:=om) (y:=.str SP) rfl rfl (GZ hl)) (show 2 < 3 by decide) rfl;let R1:Ag:=R (some (.lst (ws.map PV.str),om));have e1:=Ge (n:=3) (f:=Aa 2) (ρ:=R1) (ρ1:=R1) (d:=0) (enc:=PV.str) (q:=λ w=>.bl (Wr w)) (elt:=A8 F7 (Ad (Aa 3) (Ad (bC (.int 2)) (Ac)))) ws rfl rfl (λ w hw=>BD (xs:=[(.str w,om),(.int 2,om)]) rfl (jH (Mn ha hw) (by have:=ll.2 w hw;omega))) (by have:=ll.1;show (AX z SP).length<=_;exact BH ll.1 (by omega));have e2:=E3 (all_ok e1);cases h:ws.all Wr with
 | false=>
  rw [h] at e2;rw [if_neg BN];exact Jl rfl ((A2 s1).trans (Ku ((A4 (Av e2)).trans rfl)))
 | true=>
  rw [h] at e2;rw [if_pos rfl];have s2:Ax (bT (Ap AQ (Am DV (Ad (BK (Aa 2) 1 (Ao 3) By (A8 F7 (Ad (Aa 3) (Ad (bC (.int 2)) (Ac))))) (Ac))))) (Dn 9) Al R1=.nx R1:=(AK (Av e2)).trans rfl;have e3:=Ge (n:=3) (f:=Aa 2) (ρ:=R1) (ρ1:=R1) (d:=0) (enc:=PV.str) (q:=λ w=>.int (Bs w)) (elt:=Am Ft (Ad (Aa 3) (Ac))) ws rfl rfl (λ w hw=>Dy (Cw (x:=.str w) (d:=om) rfl) (by
   have v:=(Ub (jb4.mp h w hw)).1
   have:=ll.2 w hw
   have w2:w.length<=2:=by
    have hw:=jb4.mp h w hw;unfold Wr at hw;rw [AF,AF,AF] at hw;exact of_decide_eq_true hw.1.1.2
   unfold Ft;dsimp only;rw [if_pos (by omega),v]
   rfl)) (by exact BH ll.1 (by omega))
  rw [show ws.map (λ w=>PV.int (Bs w))=(ws.map Bs).map PV.int by rw [Ec];rfl] at e3;exact BG rfl (ρ':=R1) ((A2 s1).trans ((A2 s2).trans (CT e3)))
def CB (z:Str):List (List Int):=(AX z SL).map λ r=>(AX r SP).map wv
def HF (a b c:Nat) (z:Str):Bool:=BV a b (CB z) && Fy a b c (CB z)
theorem Ve {a b c:Nat} (h1:a<=100) (h2:b<=100) (ha:Bn z=true) (hl:z.length<=900):Gd [bx a b c,.str z]=.ok (if HF a b c z=true then tb (CB z) else .non,om,.non):=by
 have s:=sz;have ll:=HA z 47;let ws:=AX z SL;let R (s:QQ.Slot):Ag:=[some (bx a b c,0),some (.str z,om),s]
 have s1:Ax (bT (Ap AQ (Ap (AH "str") (Aa 1)))) (An (bC .non)) Al (R none)=.nx (R none):=by rfl
 have e0:=Nc (op:=D1) (f:=Aa 1) (g:=bC (.str "/")) (ρ:=R none) (ρ1:=R none) (ρ2:=R none) (z:=z) (d:=om) (e:=om) (y:=.str SL) rfl rfl (GZ hl);have e1:=Ge (n:=3) (enc:=PV.str) (q:=λ r=>il ((AX r SP).map wv)) (elt:=BK (BB D1 (Aa 3) (bC (.str " "))) 1 (Ao 4) By (A8 IY (Ad (Aa 4) (Ac)))) ws e0 rfl (λ r hr=>by
  have hr1:=ll.2 r hr;have lr:=HA r 32;let R2:Ag:=R none++[some (.str r,om)];have f0:=Nc (op:=D1) (f:=Aa 3) (g:=bC (.str " ")) (ρ:=R2) (ρ1:=R2) (ρ2:=R2) (z:=r) (d:=om) (e:=om) (y:=.str SP) rfl rfl (GZ (by omega));have f1:=Ge (n:=4) (enc:=PV.str) (q:=λ w=>.int (wv w)) (elt:=A8 IY (Ad (Aa 4) (Ac))) (AX r SP) f0 rfl (λ w hw=>BD (xs:=[(.str w,om)]) rfl (jI (Mn (Mn ha hr) hw) (by have:=lr.2 w hw;omega))) (by exact BH lr.1 (by omega));rw [show (AX r SP).map (λ w=>PV.int (wv w))=((AX r SP).map wv).map PV.int by rw [Ec];rfl] at f1;exact f1) (by exact BH ll.1 (by omega))
 have em:ws.map (λ r=>il ((AX r SP).map wv))=(CB z).map il:=by
  show _=((AX z SL).map λ r=>(AX r SP).map wv).map il;rw [Ec];rfl
 rw [em] at e1;let t:=CB z;have s2:Ai false 2 (BK (BB D1 (Aa 1) (bC (.str "/"))) 1 (Ao 3) By (BK (BB D1 (Aa 3) (bC (.str " "))) 1 (Ao 4) By (A8 IY (Ad (Aa 4) (Ac))))) [1,1,1] (R none)=.nx (R (some (tb t,om))):=AB e1 (show 2 < 3 by decide) rfl;let R1:Ag:=R (some (tb t,om));have lt:t.length<=1000:=by
  show ((AX z SL).map _).length<=_;rw [Bg];exact BH ll.1 (by omega)
 have e3:=E3 (BD (F:=IZ) (fa:=Ad (Aa 0) (Ad (Aa 2) (Ac))) (ρ:=R1) (ρ1:=R1) (xs:=[(bx a b c,0),(tb t,0)]) rfl (zB (c:=c) h1 h2 lt));show _=Rz.ok (if (BV a b t && Fy a b c t)=true then tb t else PV.non,om,PV.non);cases hb:(BV a b t && Fy a b c t) with
 | false=>
  rw [hb] at e3;exact BG rfl (ρ':=R1) ((A2 s1).trans ((A2 s2).trans (CJ ((A4 (Av e3)).trans rfl))))
 | true=>
  rw [hb] at e3;exact BG rfl (ρ':=R1) ((A2 s1).trans ((A2 s2).trans ((DW (Av e3)).trans rfl)))
def Vl {x:Str}{i j c:Nat} (h:c∈(J9 x i j).cps.toList):c∈x.cps.toList:=by
 unfold J9 at h;rw [Array.toList_extract] at h;exact R7 (Ry h)
def Vk (x:Str) (i j:Nat):(J9 x i j).length=min j x.length - i:=by
 unfold J9;exact Array.size_extract ..
theorem xh {x y z:Str} (hx:Bn x=true) (hz:Bn z=true):Bn (rep1 x y z)=true/\(rep1 x y z).length<=x.length + z.length:=by
 unfold rep1;have hl:=Pr x y 0 x.length 1;generalize Il x y 0 x.length 1=l at hl
 match l,hl with
 | [],_=>exact ⟨hx,Ww _ _⟩
 | [k],_=>
  rw [if_neg (by simp)];have e:Builtin.Str.glued z (MC x [k] y.length)=(J9 x 0 k++z)++J9 x (k + y.length) x.length:=rfl;rw [e];refine ⟨DU (DU (zzo.mpr λ c hc=>zzo.mp hx c (Vl hc)) hz) (zzo.mpr λ c hc=>zzo.mp hx c (Vl hc)),?_⟩;rw [Dj,Dj,Vk,Vk];omega
 | _::_::_,h=>simp at h
def C0:Fs:=Ai false 2 (Ab Az (Ab A1 (Ab Ah (Aa 1) (bC (.int 0))) (Ab Co (bC (.int 64)) (Ab Ah (Aa 1) (bC (.int 1))))) (Ab A1 (Am AO (Ad (Aa 0) (Ac))) (bC (.int 1)))) [1,1,0]
def C1:Fs:=Ai false 3 (Ab Ah (bC (.str "0123456789 /x-+._\n\tab")) (Ab Az (Ab Ah (Aa 1) (bC (.int 2))) (bC (.int 21)))) [1]
def C2:Fs:=Ai false 4 (Ab Az (Ab Ah (Aa 1) (bC (.int 3))) (bC (.int 8))) [1]
def C3:Fs:=Ax (bT (Ab (Ak false) (Aa 4) (bC (.int 0)))) (An (Ab A1 (Bu (Aa 0) none (some (Aa 2))) (Bu (Aa 0) (some (Ab A1 (Aa 2) (bC (.int 1)))) none))) Al
def C4:Fs:=Ax (bT (Ab (Ak false) (Aa 4) (bC (.int 1)))) (An (Ab A1 (Ab A1 (Bu (Aa 0) none (some (Aa 2))) (Aa 3)) (Bu (Aa 0) (some (Aa 2)) none))) Al
def C5:Fs:=Ax (bT (Ab (Ak false) (Aa 4) (bC (.int 2)))) (An (Ab A1 (Ab A1 (Bu (Aa 0) none (some (Aa 2))) (Aa 3)) (Bu (Aa 0) (some (Ab A1 (Aa 2) (bC (.int 1)))) none))) Al
def C6:Fs:=Ax (bT (Ab (Ak false) (Aa 4) (bC (.int 3)))) (An (Ab A1 (Aa 0) (Ab Ah (Am AY (Ad (bC (.str " ")) (Ad (bC (.str "/")) (Ad (bC (.str "\n")) (Ad (bC (.str " 0")) (Ad (bC (.str "/0")) (Ad (bC (.str "x1")) (Ad (bC (.str "0")) (Ac))))))))) (Ab Az (Ab Ah (Aa 1) (bC (.int 4))) (bC (.int 7)))))) Al
def C7:Fs:=Ax (bT (Ab (Ak false) (Aa 4) (bC (.int 4)))) (An (Ab A1 (Ab Ah (Am AY (Ad (bC (.str " ")) (Ad (bC (.str "/")) (Ad (bC (.str "\n")) (Ad (bC (.str "0")) (Ad (bC (.str "0 ")) (Ad (bC (.str "1x")) (Ac)))))))) (Ab Az (Ab Ah (Aa 1) (bC (.int 4))) (bC (.int 6)))) (Aa 0))) Al
def C8:Fs:=Ax (bT (Bb (Ab (Ak false) (Aa 4) (bC (.int 5))) (Ab (Ak false) (Ab Az (Ab Ah (Aa 1) (bC (.int 4))) (bC (.int 2))) (bC (.int 0))))) (An (Ab A1 (Ab A1 (Bu (Aa 0) none (some (Aa 2))) (Ab Ah (Am AY (Ad (bC (.str "0")) (Ad (bC (.str "00")) (Ad (bC (.str "1")) (Ad (bC (.str "100")) (Ac)))))) (Ab Az (Ab EY (Ab Ah (Aa 1) (bC (.int 4))) (bC (.int 2))) (bC (.int 4))))) (Bu (Aa 0) (some (Aa 2)) none))) Al
def C9:Fs:=DC 4 5 (CM 0 " " (bC (.str "  ")))
def Se:Fs:=DC 4 6 (CM 0 "/" (HC [" / ","//","\n"," "] (Ab Az (Ab Ah (Aa 1) (bC (.int 4))) (bC (.int 4)))))
def Oa:Fs:=Ai false 5 (Am AY (Ad (bC (.str "")) (Ad (bC (.str " ")) (Ad (bC (.str "/")) (Ad (bC (.str "x")) (Ad (bC (.str "1")) (Ad (bC (.str "01")) (Ad (bC (.str "1x1")) (Ad (bC (.str "1x1x1x1")) (Ad (bC (.str "0x1x1")) (Ad (bC (.str "1X1X1")) (Ad (bC (.str "99x99x99")) (Ad (bC (.str "100x1x1")) (Ad (bC (.str "1x01x1")) (Ad (bC (.str "pile")) (Ac)))))))))))))))) []
def Sd:Fs:=An (Ab Ah (Aa 5) (Ab Az (Ab Ah (Aa 1) (bC (.int 4))) (bC (.int 14))))
def Z8:NR=Ae C0 (Ae C1 (Ae C2 (Ae C3 (Ae C4 (Ae C5 (Ae C6 (Ae C7 (Ae C8 (Ae C9 (Ae Se (Ae Oa Sd))))))))))):=rfl
variable {z:Str}{ys:List Int}{k:Nat}{w:Int}{g:Str}
def RC (z:Str) (ys:List Int) (k:Nat) (g:Str) (w:Int) (s:QQ.Slot):Ag:=[some (.str z,om),some (il ys,0),some (.int (k:Int),om),some (.str g,om),some (.int w,om),s]
def Cu {f h:Fx}{ρ:Ag}{x y:Str}{d e:Nat} (h1:f ρ=.ok (.str x,d,ρ)) (h2:h ρ=.ok (.str y,e,ρ)) (hl:x.length + y.length<=1000):Ab A1 f h ρ=.ok (.str (x++y),om,ρ):=by
 have z:=sz;exact CG h1 h2 (by unfold A1;dsimp only;rw [if_pos (by omega)])
def Xp {f h:Fx}{ρ:Ag}{x:Str}{d e:Nat}{i:Int} (h1:f ρ=.ok (.str x,d,ρ)) (h2:h ρ=.ok (.int i,e,ρ)) (hl:x.length<=1000):Bu f none (some h) ρ=.ok (.str (Fc x none (some i)),om,ρ):=by
 have z:=sz;unfold Bu;rw [h1];show (((h ρ).bind λ (x,_,ρ1)=>match x with
  | .int i=>Rz.ok (some i,ρ1)
  | _=>.no).bind _)=_
 rw [h2];show (match Eb (.str x) none (some i) with
  | some (z,c)=>Rz.ok (z,c,ρ)
  | none=>.no)=_
 unfold Eb;dsimp only;rw [if_pos (by omega)]
def MX {f h:Fx}{ρ:Ag}{x:Str}{d e:Nat}{i:Int} (h1:f ρ=.ok (.str x,d,ρ)) (h2:h ρ=.ok (.int i,e,ρ)) (hl:x.length<=1000):Bu f (some h) none ρ=.ok (.str (Fc x (some i) none),om,ρ):=by
 have z:=sz;unfold Bu;rw [h1];show (((h ρ).bind λ (x,_,ρ1)=>match x with
  | .int i=>Rz.ok (some i,ρ1)
  | _=>.no).bind _)=_
 rw [h2];show (match Eb (.str x) (some i) none with
  | some (z,c)=>Rz.ok (z,c,ρ)
  | none=>.no)=_
 unfold Eb;dsimp only;rw [if_pos (by omega)]
def Ko {ρ:Ag}{m:Nat} (k:Nat) (hy:ys.length=5) (hk:k < 5) (hm:0 < m) (hv:Aa 1 ρ=.ok (il ys,0,ρ)):∃ n:Nat,n < m/\Ab Az (Ab Ah (Aa 1) (bC (.int (k:Int)))) (bC (.int (m:Int))) ρ=.ok (.int (n:Int),om,ρ):=by
 have h0:=Fi (ys.getD k 0) (show (m:Int)≠0 by omega);have h1:=FY (ys.getD k 0) (show (0:Int) < m by omega);refine ⟨(ys.getD k 0 % m).toNat,by omega,?_⟩;rw [WB h0];exact Cg (EB (xs:=ys) (k:=(k:Int)) hv rfl (CK (by omega) (DS (by rw [ER];omega)))) (j:=(m:Int)) (e:=om) rfl (by omega)
def Nu {f h:Fx}{ρ:Ag}{L:List Str}{n d e:Nat} (h1:f ρ=.ok (.lst (L.map PV.str),d,ρ)) (h2:h ρ=.ok (.int (n:Int),e,ρ)) (hn:n < L.length):∃ s∈L,Ab Ah f h ρ=.ok (.str s,om,ρ):=by
 refine ⟨L[n],EN hn,CG h1 h2 ?_⟩;show (Bk (L.map PV.str) (n:Int)).map (λ z=>(z,dv z))=_;rw [CK (x:=.str L[n]) (by omega) (by rw [ER,Ef,Cm hn];rfl)];rfl
def Ok (x:Str):Prop:=Bn x=true/\x.length<=400
def kc (L:List Str):Bool:=L.all λ s=>Bn s && decide (s.length<=10)
def Kc {L:List Str} (h:kc L=true):∀ s∈L,Bn s=true/\s.length<=10:=λ s hs=>by
 have:=jb4.mp h s hs
 rw [AF] at this;exact ⟨this.1,of_decide_eq_true this.2⟩
def Ua {j:Int}{s:QQ.Slot}:bT (Ab (Ak false) (Aa 4) (bC (.int j))) (RC z ys k g w s)=.ok (decide (w=j),RC z ys k g w s):=by
 have:=Av (Dk (neg:=false) (f:=Aa 4) (g:=bC (.int j)) (ρ:=RC z ys k g w s) (ρ1:=RC z ys k g w s) (ρ2:=RC z ys k g w s) (i:=w) (j:=j) (d:=om) (e:=om) rfl rfl)
 rw [FV] at this;exact this
def Kw {j:Int}{s:QQ.Slot}{E:Fx}{T:Fs}{x:Str} (hx:Ok x) (hE:E (RC z ys k g w s)=.ok (.str x,om,RC z ys k g w s)) (hT:w≠j->∃ x ρ',Ok x/\T (RC z ys k g w s)=.rt (.str x) om ρ'):∃ x ρ',Ok x/\Ae (Ax (bT (Ab (Ak false) (Aa 4) (bC (.int j)))) (An E) Al) T (RC z ys k g w s)=.rt (.str x) om ρ':=by
 by_cases h:w=j
 ·exact ⟨x,_,hx,CJ ((A4 (by rw [Ua,decide_eq_true h])).trans (CT hE))⟩
 ·obtain ⟨x,ρ',h1,h2⟩:=hT h;exact ⟨x,ρ',h1,(A2 ((AK (by rw [Ua,decide_eq_false h])).trans rfl)).trans h2⟩
def Tx {j:Int}{s:QQ.Slot}{E:Fx}{T:Fs}{old c:Str} (ha:Bn z=true) (hl:z.length<=150) (hc:Bn c=true/\c.length<=10) (ho:(old == c)=false/\(old.length == 0)=false) (hE:E (RC z ys k g w s)=.ok (.str c,om,RC z ys k g w s)) (hT:w≠j->∃ x ρ',Ok x/\T (RC z ys k g w s)=.rt (.str x) om ρ'):∃ x ρ',Ok x/\Ae (DC 4 j (CM 0 old E)) T (RC z ys k g w s)=.rt (.str x) om ρ':=by
 have sz':=sz;by_cases h:w=j
 ·have r:=xh (y:=old) ha hc.1;refine ⟨rep1 z old c,RC z ys k g w s,⟨r.1,by omega⟩,CJ ?_⟩;show (if w=j then An (CM 0 old E) (RC z ys k g w s) else _)=_;rw [if_pos h];refine CT ?_;show (E (RC z ys k g w s)).bind _=_;rw [hE];show (if _ then _ else _)=_;rw [if_pos ⟨ho.1,ho.2,by omega,by omega⟩]
 ·obtain ⟨x,ρ',h1,h2⟩:=hT h;refine ⟨x,ρ',h1,(A2 (ρ1:=RC z ys k g w s) ?_).trans h2⟩;show (if w=j then _ else Rs.nx (RC z ys k g w s))=_;rw [if_neg h]
def qt {f:Fx}{ρ:Ag}{L:List Str}{n e:Nat} (h2:f ρ=.ok (.int (n:Int),e,ρ)) (hn:n < L.length):∃ s∈L,HC L f ρ=.ok (.str s,om,ρ):=by
 refine ⟨L[n],EN hn,?_⟩;unfold HC;rw [h2];show (match Bk L (n:Int) with
  | some c=>Rz.ok (PV.str c,om,ρ)
  | none=>.no)=_
 rw [CK (x:=L[n]) (by omega) (by rw [ER,Cm hn])]
theorem zx (ha:Bn z=true) (hl:z.length<=150) (hg:Bn g=true/\g.length<=10) (hy:ys.length=5):∃ x ρ',Ok x/\Ae C3 (Ae C4 (Ae C5 (Ae C6 (Ae C7 (Ae C8 (Ae C9 (Ae Se (Ae Oa Sd)))))))) (RC z ys k g w none)=.rt (.str x) om ρ':=by
 let R:Ag:=RC z ys k g w none;have one:=DP (f:=Aa 2) (i:=(k:Int)) (d:=om) (ρ:=R) rfl (g:=bC (.int 1)) (j:=1) (e:=om) rfl;have a1:=Xp (f:=Aa 0) (h:=Aa 2) (ρ:=R) (x:=z) (d:=om) (e:=om) (i:=(k:Int)) rfl rfl (by omega);have a2:=MX (f:=Aa 0) (ρ:=R) (x:=z) (d:=om) rfl one (by omega);have a3:=MX (f:=Aa 0) (h:=Aa 2) (ρ:=R) (x:=z) (d:=om) (e:=om) (i:=(k:Int)) rfl rfl (by omega);have l1:=J2 z none (some (k:Int));have l2:=J2 z (some ((k:Int) + 1)) none;have l3:=J2 z (some (k:Int)) none;have s1:Bn (Fc z none (some (k:Int)))=true:=JU ha;have s2:Bn (Fc z (some ((k:Int) + 1)) none)=true:=JU ha;have s3:Bn (Fc z (some (k:Int)) none)=true:=JU ha;have sg:=Cu a1 (h:=Aa 3) (y:=g) (e:=om) rfl (by omega);have lg:=Dj (Fc z none (some (k:Int))) g;refine Kw ⟨DU s1 s2,?_⟩ (Cu a1 a2 ?_) λ _=>Kw ⟨DU (DU s1 hg.1) s3,?_⟩ (Cu sg a3 ?_) λ _=>Kw ⟨DU (DU s1 hg.1) s2,?_⟩ (Cu sg a2 ?_) λ _=>?_
 ·rw [Dj];omega
 ·omega
 ·rw [Dj,Dj];omega
 ·rw [Dj];omega
 ·rw [Dj,Dj];omega
 ·rw [Dj];omega
 obtain ⟨n7,hn7,m7⟩:=Ko (ρ:=R) (m:=7) 4 hy (by decide) (by decide) rfl;obtain ⟨x7,hx7,e7⟩:=Nu (f:=Am AY (Ad (bC (.str " ")) (Ad (bC (.str "/")) (Ad (bC (.str "\n")) (Ad (bC (.str " 0")) (Ad (bC (.str "/0")) (Ad (bC (.str "x1")) (Ad (bC (.str "0")) (Ac)))))))) ) (L:=[" ","/","\n"," 0","/0","x1","0"]) (d:=om) rfl m7 hn7;have o7:=Kc (L:=[" ","/","\n"," 0","/0","x1","0"]) (by decide +kernel) x7 hx7;obtain ⟨n6,hn6,m6⟩:=Ko (ρ:=R) (m:=6) 4 hy (by decide) (by decide) rfl;obtain ⟨x6,hx6,e6⟩:=Nu (f:=Am AY (Ad (bC (.str " ")) (Ad (bC (.str "/")) (Ad (bC (.str "\n")) (Ad (bC (.str "0")) (Ad (bC (.str "0 ")) (Ad (bC (.str "1x")) (Ac))))))) ) (L:=[" ","/","\n","0","0 ","1x"]) (d:=om) rfl m6 hn6;have o6:=Kc (L:=[" ","/","\n","0","0 ","1x"]) (by decide +kernel) x6 hx6;obtain ⟨n4,hn4,m4⟩:=Ko (ρ:=R) (m:=4) 4 hy (by decide) (by decide) rfl;obtain ⟨x4,hx4,e4⟩:=qt (L:=[" / ","//","\n"," "]) m4 hn4;have o4:=Kc (L:=[" / ","//","\n"," "]) (by decide +kernel) x4 hx4;have d4:("/" == x4)=false:=by
  have:([" / ","//","\n"," "]:List Str).all (λ s=>!("/" == s))=true:=by decide +kernel
  simpa using jb4.mp this x4 hx4
 have v0:Aa 0 R=.ok (.str z,om,R):=rfl;refine Kw ⟨DU ha o7.1,by rw [Dj];omega⟩ (Cu v0 e7 (by omega)) λ _=>Kw ⟨DU o6.1 ha,by rw [Dj];omega⟩ (Cu e6 v0 (by omega)) λ _=>?_;have i4:Ab Ah (Aa 1) (bC (.int 4)) R=.ok (.int (ys.getD 4 0),om,R):=EB (xs:=ys) (k:=((4:Nat):Int)) (d:=0) (e:=om) rfl rfl (CK (by omega) (DS (by rw [ER];omega)));have t8:=DJ (Dk (neg:=false) (f:=Aa 4) (g:=bC (.int 5)) (ρ:=R) (ρ1:=R) (ρ2:=R) (i:=w) (j:=5) (d:=om) (e:=om) rfl rfl) (λ _=>Dk (neg:=false) (Cg i4 (g:=bC (.int 2)) (j:=2) (e:=om) rfl (by decide)) (g:=bC (.int 0)) (j:=0) (e:=om) rfl) rfl;have rest:∃ x ρ',Ok x/\Ae C9 (Ae Se (Ae Oa Sd)) R=.rt (.str x) om ρ':=by
  refine Tx (c := "  ") ha hl ⟨by decide +kernel,by decide +kernel⟩ ⟨by decide +kernel,by decide +kernel⟩ rfl λ _=>Tx ha hl o4 ⟨d4,by decide +kernel⟩ e4 λ _=>?_;let OD:List Str:=[""," ","/","x","1","01","1x1","1x1x1x1","0x1x1","1X1X1","99x99x99","100x1x1","1x01x1","pile"]
  let R9:Ag:=RC z ys k g w (some (.lst (OD.map PV.str),om));have v10:Oa R=.nx R9:=by kernel_rfl
  obtain ⟨n9,hn9,m9⟩:=Ko (ρ:=R9) (m:=14) 4 hy (by decide) (by decide) rfl;obtain ⟨x9,hx9,e9⟩:=Nu (f:=Aa 5) (L:=OD) (d:=0) (ρ:=R9) rfl m9 hn9;have o9:=Kc (L:=OD) (by decide +kernel) x9 hx9;exact ⟨x9,_,⟨o9.1,by omega⟩,(A2 v10).trans (CT e9)⟩
 cases hb:((false^^decide (w=5)) && (false^^decide (ys.getD 4 0 % 2=0))) with
 | true=>
  rw [hb] at t8;have f4:=Cg (Nz i4 (g:=bC (.int 2)) (j:=2) (e:=om) rfl (by decide) (by decide)) (g:=bC (.int 4)) (j:=4) (e:=om) rfl (by decide);have h0:=Fi (ys.getD 4 0 / 2) (show (4:Int)≠0 by decide);have h1:=FY (ys.getD 4 0 / 2) (show (0:Int) < 4 by decide);rw [show ys.getD 4 0 / 2 % 4=((ys.getD 4 0 / 2 % 4).toNat:Int) by omega] at f4;obtain ⟨x8,hx8,e8⟩:=Nu (f:=Am AY (Ad (bC (.str "0")) (Ad (bC (.str "00")) (Ad (bC (.str "1")) (Ad (bC (.str "100")) (Ac)))))) (L:=["0","00","1","100"]) (d:=om) rfl f4 (by show _ < 4;omega);have o8:=Kc (L:=["0","00","1","100"]) (by decide +kernel) x8 hx8;have sg8:=Cu a1 e8 (by omega);exact ⟨_,_,⟨DU (DU s1 o8.1) s3,by rw [Dj,Dj];omega⟩,CJ ((A4 (Av t8)).trans (CT (Cu sg8 a3 (by rw [Dj];omega))))⟩
 | false=>
  rw [hb] at t8;obtain ⟨x,ρ',h1,h2⟩:=rest;exact ⟨x,ρ',h1,(DW (Av t8)).trans h2⟩
def SG:Str := "0123456789 /x-+._\n\tab"
def ZJ (ha:Bn z=true) (hl:z.length<=150) (hy:ys.length=5):∃ x,Ok x/\JQ [.str z,il ys]=.ok (.str x,om,.non):=by
 have s:=sz;let S (s2 s3 s4:QQ.Slot):Ag:=[some (.str z,om),some (il ys,0),s2,s3,s4,none]
 have ix:∀ (n:Nat) (ρ:Ag),n < 5->Aa 1 ρ=.ok (il ys,0,ρ)->Ab Ah (Aa 1) (bC (.int (n:Int))) ρ=.ok (.int (ys.getD n 0),om,ρ):=λ n ρ hn h=>EB (xs:=ys) (k:=(n:Int)) h rfl (CK (by omega) (DS (by rw [ER];omega)));let a:Int:=(ys.getD 0 0 + 64 * ys.getD 1 0) % ((z.length:Int) + 1);have a0:0<=a:=Fi _ (by omega);have v0:C0 (S none none none)=.nx (S (some (.int (a.toNat:Int),om)) none none):=by
  have q:=Cg (DP (ix 0 (S none none none) (by decide) rfl) (HS (f:=bC (.int 64)) (i:=64) (d:=om) rfl (ix 1 (S none none none) (by decide) rfl) (.inl (by decide)))) (DP (Qj (f:=Aa 0) (ρ:=S none none none) (z:=z) (d:=om) rfl (by omega)) (g:=bC (.int 1)) (j:=1) (e:=om) rfl) (by omega);rw [WB a0];exact AB q (show 2 < 6 by decide) rfl
 let I:QQ.Slot:=some (.int (a.toNat:Int),om);obtain ⟨n,hn,em⟩:=Ko (ρ:=S I none none) (m:=21) 2 hy (by decide) (by decide) rfl;have ls:SG.cps.toList.length=21:=by decide +kernel
 have sa:(Bw 21).all (λ n=>Bn ⟨#[SG.cps.toList.getD n 0]⟩)=true:=by decide +kernel
 have e1:Ab Ah (bC (.str SG)) (Ab Az (Ab Ah (Aa 1) (bC (.int 2))) (bC (.int 21))) (S I none none)=.ok (.str ⟨#[SG.cps.toList.getD n 0]⟩,om,S I none none):=by
  refine CG (x:=.str SG) (d:=om) rfl em ?_;unfold Ah;dsimp only;rw [if_pos (show SG.length<=Au by show SG.cps.toList.length<=_;omega),CK (x:=SG.cps.toList.getD n 0) (by omega) (by
   rw [ER,BI,Cm (by omega)]
   rfl)]
  rfl
 let G:Str:=⟨#[SG.cps.toList.getD n 0]⟩
 have v1:C1 (S I none none)=.nx (S I (some (.str G,om)) none):=AB e1 (show 3 < 6 by decide) rfl;have e2:=Cg (ix 3 (S I (some (.str G,om)) none) (by decide) rfl) (g:=bC (.int 8)) (j:=8) (e:=om) rfl (by decide);have v2:C2 (S I (some (.str G,om)) none)=.nx (RC z ys a.toNat G (ys.getD 3 0 % 8) none):=AB e2 (show 4 < 6 by decide) rfl;obtain ⟨x,ρ',hx,e⟩:=zx (k:=a.toNat) (w:=ys.getD 3 0 % 8) (g:=G) ha hl ⟨jb4.mp sa n (jd0.mpr hn),show 1<=10 by decide⟩ hy;have hF:JQ=A0 false 2 4 NR:=rfl;rw [hF,Z8];exact ⟨x,hx,BG rfl ((A2 v0).trans ((A2 v1).trans ((A2 v2).trans e)))⟩
def EK (n:Int):Str:=(toString n:String)
def n1 (n:Nat):Bool:=decide ((EK n).length<=2) && decide (n.log2 < 1920) && Bn (EK n)
def YW:(Bw 100).all n1=true:=by decide +kernel
def YX {i:Int} (h:0<=i/\i<=99):(EK i).length<=2/\Bn (EK i)=true/\Jr (.int i)=some (EK i):=by
 obtain ⟨n,rfl⟩:=Int.eq_ofNat_of_zero_le h.1;have h1:=jb4.mp YW n (jd0.mpr (by omega));unfold n1 at h1;rw [AF,AF] at h1;obtain ⟨⟨a,f⟩,b⟩:=h1;refine ⟨of_decide_eq_true a,b,?_⟩;show (if _ then _ else _)=_;rw [Int.natAbs_natCast,if_pos (of_decide_eq_true f)];rfl
def NU (n:Nat) (z:Str):Prop:=Bn z=true/\z.length<=n
def kQ:Bn SP=true:=by decide +kernel
def kR:Bn SL=true:=by decide +kernel
def aE:Bn ("" : Str)=true:=by decide +kernel
def xy {t:List (List Int)} (hl:t.length<=6) (hr:∀ r∈t,r.length<=6/\∀ x∈r,0<=x/\x<=99):∃ z,NU 120 z/\LD [tb t]=.ok (.str z,om,.non):=by
 have z:=sz;let R (s1 s2 s3 s4:QQ.Slot):Ag:=[some (tb t,0),s1,s2,s3,s4]
 have s1:Ai false 1 (bC (.str "")) [] (R none none none none)=.nx (R (some (.str "",om)) none none none):=by rfl
 have inner:∀ (T:Str) (r:List Int) (s4:QQ.Slot),r∈t->∃ s4' W,NU 18 W/\Fz (Aa 2) [2] (Ao 4) (Ai false 3 (Ab A1 (Ab A1 (Aa 3) (bC (.str " "))) (Am GO (Ad (Aa 4) (Ac)))) [3,4]) (R (some (.str T,om)) (some (il r,0)) (some (.str "",om)) s4)=.nx (R (some (.str T,om)) (some (il r,0)) (some (.str W,om)) s4'):=by
  intro T r s4 hm;have q:=hr r hm;obtain ⟨ρ',e,W,s4',hW,rfl⟩:=VY (f:=Aa 2) (vs:=[2]) (asg:=Ao 4) (body:=Ai false 3 (Ab A1 (Ab A1 (Aa 3) (bC (.str " "))) (Am GO (Ad (Aa 4) (Ac)))) [3,4]) (ρ:=R (some (.str T,om)) (some (il r,0)) (some (.str "",om)) s4) (els:=r.map PV.int) (d:=0)
   (λ j ρ=>∃ W s4,NU (3 * j) W/\ρ=R (some (.str T,om)) (some (il r,0)) (some (.str W,om)) s4) rfl rfl ⟨"",s4,⟨aE,AS _⟩,rfl⟩ (by
    rintro j x ρ hx ⟨W,s4,hW,rfl⟩;rw [Ef] at hx;obtain ⟨i,hi,rfl⟩:=ja5.mp hx;have n:=YX (q.2 i (NH hi));have hj:j < r.length:=(ja6.mp hi).1;have wl:=hW.2;have nl:=n.1;have ql:=q.1;let ρ1:Ag:=R (some (.str T,om)) (some (il r,0)) (some (.str W,om)) (some (.int i,om));have e1:=Cu (f:=Aa 3) (h:=bC (.str " ")) (ρ:=ρ1) (x:=W) (y:=SP) (d:=om) (e:=om) rfl rfl (by show _ + 1<=1000;omega);have e2:Am GO (Ad (Aa 4) (Ac)) ρ1=.ok (.str (EK i),om,ρ1):=Dy (Cw (x:=.int i) (d:=om) rfl) (by unfold GO;dsimp only;rw [n.2.2];rfl);have l2:(W++SP).length=W.length + 1:=Dj W SP;have e3:=Cu e1 e2 (by omega);exact ⟨ρ1,_,rfl,AB e3 (show 3 < 5 by decide) rfl,_,_,⟨DU (DU hW.1 kQ) n.2.1,by rw [Dj,l2];omega⟩,rfl⟩)
  rw [Bg] at hW;have ql:=q.1;exact ⟨s4',W,⟨hW.1,by have:=hW.2;omega⟩,e⟩
 obtain ⟨ρ',e,T,s2,s3,s4,hT,rfl⟩:=VY (f:=Aa 0) (vs:=[0]) (asg:=Ao 2) (body:=Ae (Ai false 3 (bC (.str "")) [])
  (Ae (Fz (Aa 2) [2] (Ao 4) (Ai false 3 (Ab A1 (Ab A1 (Aa 3) (bC (.str " "))) (Am GO (Ad (Aa 4) (Ac)))) [3,4]))
  (Ai false 1 (Ab A1 (Ab A1 (Aa 1) (bC (.str "/"))) (Bu (Aa 3) (some (bC (.int 1))) none)) [1,3]))) (ρ:=R (some (.str "",om)) none none none) (els:=t.map il) (d:=0)
  (λ k ρ=>∃ T s2 s3 s4,NU (19 * k) T/\ρ=R (some (.str T,om)) s2 s3 s4) rfl rfl ⟨"",_,_,_,⟨aE,AS _⟩,rfl⟩ (by
   rintro k x ρ hx ⟨T,s2,s3,s4,hT,rfl⟩;rw [Ef] at hx;obtain ⟨r,hi,rfl⟩:=ja5.mp hx;have hk:k < t.length:=(ja6.mp hi).1;obtain ⟨s4',W,hW,e2⟩:=inner T r s4 (NH hi);have tl:=hT.2;have wl:=hW.2;let ρ1:Ag:=R (some (.str T,om)) (some (il r,0)) (some (.str W,om)) s4';have e3:=Cu (f:=Aa 1) (h:=bC (.str "/")) (ρ:=ρ1) (x:=T) (y:=SL) (d:=om) (e:=om) rfl rfl (by show _ + 1<=1000;omega);have l2:(T++SL).length=T.length + 1:=Dj T SL;have e4:=MX (f:=Aa 3) (h:=bC (.int 1)) (ρ:=ρ1) (x:=W) (d:=om) (e:=om) (i:=1) rfl rfl (by omega);have sl:=J2 W (some 1) none;have e5:=Cu e3 e4 (by omega);exact ⟨R (some (.str T,om)) (some (il r,0)) s3 s4,_,rfl,(A2 (ρ1:=R (some (.str T,om)) (some (il r,0)) (some (.str "",om)) s4) rfl).trans ((A2 e2).trans (AB e5 (show 1 < 5 by decide) rfl)),_,_,_,_,⟨DU (DU hT.1 kR) (JU hW.1),by rw [Dj,l2];omega⟩,rfl⟩)
 rw [Bg] at hT;have tl:=hT.2;have sl:=J2 T (some 1) none;have e7:=MX (f:=Aa 1) (h:=bC (.int 1)) (ρ:=R (some (.str T,om)) s2 s3 s4) (x:=T) (d:=om) (e:=om) (i:=1) rfl rfl (by omega);refine ⟨Fc T (some 1) none,⟨JU hT.1,by omega⟩,BG rfl (ρ':=R (some (.str T,om)) s2 s3 s4) ?_⟩;exact (A2 s1).trans ((A2 e).trans (CT e7))
end K55
namespace QV
open PySem PySem.Spec PyProof.Rows L2 QQ
def jo {n:Nat}{en:List (PV×Nat)->Option (Int×Int)}{fa:Fa}{test:Fb}{p:Nat->Bool}{ρ ρ1:Ag}{as:List (PV×Nat)}{lo hi:Int} (hf:fa ρ=.ok (as,ρ1)) (hen:en as=some (lo,hi)) (hn:ρ1.length=n) (ht:∀ k,k < (hi - lo).toNat->test (ρ1++[some (.int (lo + (k:Int)),om)])=.ok (p k,ρ1++[some (.int (lo + (k:Int)),om)])) (hl:(hi - lo).toNat<=Au):
  Du en fa 1 (Ao n) test (Aa n) ρ=.ok (il (((Bw (hi - lo).toNat).filter p).map λ (k:Nat)=>lo + (k:Int)),om,ρ1):=by
 unfold Du;rw [hf];dsimp only;rw [hen];dsimp only;rw [Ml,HK (enc:=λ (k:Nat)=>PV.int (lo + (k:Int))) (p:=p) (q:=λ (k:Nat)=>PV.int (lo + (k:Int))) (e:=λ _=>om) (Bw (hi - lo).toNat) ρ1 [] hn (λ x hx=>ht x (jd0.mp hx)) (λ x hx _=>by
  unfold Aa;rw [Gz (by omega),hn,Nat.sub_self]
  rfl) (by simpa using hl)]
 show Cv _ ρ1=_;rw [Lr];unfold Cv;rw [HJ,Ec];unfold il;rw [Ec];rfl
end QV
namespace K55
open PySem PySem.Spec PyProof.Rows L2 QQ QV
def V1 {m:Bool}{i:Nat}{f:Fx}{vs:List Nat}{ρ:Ag}{c:Nat} (h:f ρ=.exc c):Ai m i f vs ρ=.exc c:=by unfold Ai;rw [h]
theorem SJ {n c:Nat}{elt:Fx}{q:Str->PV}{p:Str->Bool}:∀ (xs:List Str) (ρ:Ag) (acc:List (PV×Nat)),ρ.length=n->(∀ x∈xs,elt (ρ++[some (.str x,om)])=if p x=true then .ok (q x,om,ρ++[some (.str x,om)]) else .exc c)->acc.length + xs.length<=Au->DQ 1 (Ao n) By elt (xs.map PV.str) ρ acc=if xs.all p=true then .ok (acc++xs.map (λ x=>(q x,om)),ρ) else .exc c
 | [],ρ,acc,_,_,_=>by simp [DQ]
 | x::xs,ρ,acc,hn,he,hl=>by
  have ea:Ao n (PV.str x) (ρ++AM 1 none)=some (ρ++[some (PV.str x,om)]):=by
   unfold Ao;rw [if_pos (by rw [Cd,hn];simp),WG _ _ (by omega),hn];simp [dv]
  have ih:=λ acc h=>SJ (n:=n) (c:=c) (elt:=elt) (p:=p) (q:=q) xs ρ acc hn (λ y hy=>he y (AU _ hy)) h;have tk:(ρ++[some (PV.str x,om)]).take ρ.length=ρ:=by simp
  rw [Cs] at hl;rw [BA];unfold DQ;rw [ea];dsimp only;rw [show By (ρ++[some (PV.str x,om)])=.ok (true,ρ++[some (PV.str x,om)]) from rfl];dsimp only [Rz.bindN];rw [if_pos rfl,he x Ba,EL];cases hp:p x with
  | false=>
   rw [if_neg BN,EM,if_neg BN];rfl
  | true=>
   rw [if_pos rfl,Rm];dsimp only [Rz.bind];rw [if_pos (by omega),tk,ih _ (by rw [Cd,JL];omega)];simp
variable {z:Str}{a b c:Nat}
def JF (z:Str):Bool:=(AX z SL).all λ r=>(AX r SP).all Wr
theorem ZC (h:JF z=false):HF a b c z=false:=by
 unfold JF at h;obtain ⟨r,hr,h⟩:=ji5.mp h;have h:(AX r SP).all Wr=false:=by simpa using h
 obtain ⟨w,hw,h⟩:=ji5.mp h;have hm:(AX r SP).map wv∈CB z:=ND (f:=λ r=>(AX r SP).map wv) hr;have hv:(-1:Int)∈(AX r SP).map wv:=jf4.mpr ⟨w,hw,by unfold wv;rw [if_neg h]⟩;cases e:HF a b c z with
 | false=>rfl
 | true=>
  unfold HF at e;rw [AF] at e;have t:=zpt.mp e.1;have p:=(Ta t).mp e.2;obtain ⟨i,hi,ei⟩:=jh0.mp hm;obtain ⟨j,hj,ej⟩:=jh0.mp hv;have h1:=t.1;have h2:=t.2 _ hm;have g0:=(p.lo i j (by omega) (by omega))
  exfalso
  have:g (CB z) i j=-1:=by
   unfold g;rw [BI,BI,Cm hi,N9,ei,Cm hj,N9,ej]
  omega
theorem xB {t:List (List Int)} (ha:1<=a/\a<=100) (hb:1<=b/\b<=100) (hc:1<=c) (hl:t.length<=1000) (hr:∀ r∈t,r.length<=1000):F6 [bx a b c,tb t]=.ok (.bl (BV a b t && Fy a b c t),om,.non):=by
 cases ht:BV a b t with
 | true=>exact kb (zpt.mp ht) ha hb (by omega)
 | false=>
  refine jz (n:=10) (ON ha.1 hb.1 hc) (Ut (by rw [Bg];exact hl) λ x hx=>?_) ?_
  ·obtain ⟨r,h,rfl⟩:=jf4.mp hx;exact XA (hr r h)
  ·unfold BV at ht;rw [R8] at ht;rcases ht with h | h
   ·exact zl (by rw [Bg];have:=of_decide_eq_false h;omega)
   ·obtain ⟨r,hm,h⟩:=ji5.mp h;have h:r.length≠b:=by simpa using h
    exact zm (ND hm) (zy (by rw [Bg];omega))
def ZT {r:Str} (h:(AX r SP).all Wr=true):(AX r SP).map Bs=(AX r SP).map wv:=NF λ w hw=>by
 unfold wv;rw [if_pos (jb4.mp h w hw)]
theorem read_pile (h1:1<=a/\a<=100) (h2:1<=b/\b<=100) (h3:1<=c) (ha:Bn z=true) (hl:z.length<=900):El [bx a b c,.str z]=if HF a b c z=true then .ok (tb (CB z),om,.non) else .exc 9:=by
 have s:=sz;have ll:=HA z 47;let R (s:QQ.Slot):Ag:=[some (bx a b c,0),some (.str z,om),s]
 have s1:Dd (A8 F2 (Ad (Aa 0) (Ac))) (R none)=.nx (R none):=LW (BD (xs:=[(bx a b c,0)]) rfl (LQ (ON h1.1 h2.1 h3)));have s2:Dd (A8 F9 (Ad (Aa 1) (Ac))) (R none)=.nx (R none):=by rfl
 have e0:=Nc (op:=D1) (f:=Aa 1) (g:=bC (.str "/")) (ρ:=R none) (ρ1:=R none) (ρ2:=R none) (z:=z) (d:=om) (e:=om) (y:=.str SL) rfl rfl (GZ hl);have e1:=SJ (n:=3) (c:=9) (elt:=A8 F8 (Ad (Aa 3) (Ad (bC (.str " ")) (Ac)))) (q:=λ r=>il ((AX r SP).map Bs)) (p:=λ r=>(AX r SP).all Wr) (AX z SL) (R none) [] rfl (λ r hr=>by
  have hr1:=ll.2 r hr;have rn:=jF (z:=r) (Mn ha hr) (by omega);cases h:(AX r SP).all Wr with
  | true=>
   rw [h,if_pos rfl] at rn;rw [if_pos rfl];exact BD (xs:=[(.str r,om),(.str SP,om)]) rfl rn
  | false=>
   rw [h,if_neg BN] at rn;rw [if_neg BN];exact JZ (xs:=[(.str r,om),(.str SP,om)]) rfl rn) (by rw [Wt,Lo];exact BH ll.1 (by omega))
 let E:Fx:=HX (BB D1 (Aa 1) (bC (.str "/"))) 1 (Ao 3) By (A8 F8 (Ad (Aa 3) (Ad (bC (.str " ")) (Ac))));have e2:E (R none)=if JF z=true then .ok (tb (CB z),om,R none) else .exc 9:=by
  show HX _ 1 (Ao 3) By _ (R none)=_;unfold HX;rw [e0];dsimp only;refine (congrArg (λ q:Rz (List (PV×Nat)×Ag)=>q.bind λ (acc,ρ2)=>Cv acc ρ2) e1).trans ?_;show (if JF z=true then _ else _:Rz _).bind _=_;cases hg:JF z with
  | false=>rw [if_neg BN,if_neg BN];rfl
  | true=>
   rw [if_pos rfl,if_pos rfl];show Cv ((AX z SL).map λ r=>(il ((AX r SP).map Bs),om)) (R none)=_;unfold Cv;rw [HJ (λ r=>il ((AX r SP).map Bs)),Ec]
   have:(AX z SL).map ((λ x:PV×Nat=>x.1) ∘ λ r=>(il ((AX r SP).map Bs),om))=(CB z).map il:=by
    unfold CB;rw [Ec];exact NF λ r hr=>by
     show il _=il _;rw [ZT (jb4.mp hg r hr)]
   rw [this];rfl
 cases hg:JF z with
 | false=>
  rw [hg,if_neg BN] at e2;rw [ZC hg,if_neg BN];exact Jl rfl ((A2 s1).trans ((A2 s2).trans (Ku (V1 e2))))
 | true=>
  rw [hg,if_pos rfl] at e2;have s3:Ai false 2 E [1,1] (R none)=.nx (R (some (tb (CB z),om))):=AB e2 (show 2 < 3 by decide) rfl;let R1:Ag:=R (some (tb (CB z),om));have lt:(CB z).length<=1000:=by
   show ((AX z SL).map _).length<=_;rw [Bg];exact BH ll.1 (by omega)
  have lr:∀ r∈CB z,r.length<=1000:=λ r hr=>by
   obtain ⟨y,hy,rfl⟩:=jf4.mp hr;rw [Bg];exact BH (HA y 32).1 (by have:=ll.2 y hy;omega)
  have e3:=E3 (BD (F:=F6) (fa:=Ad (Aa 0) (Ad (Aa 2) (Ac))) (ρ:=R1) (ρ1:=R1) (xs:=[(bx a b c,0),(tb (CB z),0)]) rfl (xB h1 h2 h3 lt lr));rw [show (BV a b (CB z) && Fy a b c (CB z))=HF a b c z from rfl] at e3;cases hb:HF a b c z with
  | false=>
   rw [hb] at e3;rw [if_neg BN];exact Jl rfl ((A2 s1).trans ((A2 s2).trans ((A2 s3).trans (Ku ((A4 (Av e3)).trans rfl)))))
  | true=>
   rw [hb] at e3;rw [if_pos rfl];exact BG rfl (ρ':=R1) ((A2 s1).trans ((A2 s2).trans ((A2 s3).trans ((DW (Av e3)).trans rfl))))
def odds:List PV:=[.tup [.int 0,.int 1,.int 1],.tup [.int 1,.int 2],.tup [.int 1,.int 2,.int 3,.int 4],.lst [.int 1,.int 1,.int 1],.non,.tup [.int 1,.bl true,.int 1],.tup [.int 2,.int (-1),.int 2],.str "111",.tup [.str "1",.int 1,.int 1],.int 7,.tup []]
def qf:∀ y∈odds,f_is_box [y]=.ok (.bl false,om,.non):=λ y hy=>by
 have h:Dp 10 y=true/\IT y=false:=by
  unfold odds at hy;simp only [jb2,Lu,or_false] at hy;rcases hy with rfl | rfl | rfl | rfl | rfl | rfl | rfl | rfl | rfl | rfl | rfl
  all_goals exact ⟨rfl,rfl⟩
 have:=ZE h.1
 rw [h.2] at this;exact this
def xY (n:Int):∃ y d,f_is_box [y]=.ok (.bl false,om,.non)/\JP [.int n]=.ok (y,d,.non):=by
 have h0:=Fi n (show (11:Int)≠0 by decide);have h1:=FY n (show (0:Int) < 11 by decide);have hk:(n % 11).toNat < odds.length:=by show _ < 11;omega
 let R (s:QQ.Slot):Ag:=[some (.int n,om),s]
 refine ⟨odds[(n % 11).toNat],dv odds[(n % 11).toNat],qf _ (EN hk),?_⟩;have s1:(Ab Ah (Aa 1) (Ab Az (Aa 0) (Am AO (Ad (Aa 1) (Ac))))) (R (some (.lst odds,om)))=.ok (odds[(n % 11).toNat],dv odds[(n % 11).toNat],R (some (.lst odds,om))):=by
  refine CG (x:=.lst odds) (d:=0) rfl (Cg (i:=n) (j:=11) (d:=om) (e:=om) rfl (by kernel_rfl) (by decide)) ?_;show (Bk odds (n % 11)).map _=_;rw [CK h0 (Cm hk)];rfl
 refine BG rfl (ρ':=R (some (.lst odds,om))) ((A2 (ρ1:=R (some (.lst odds,om))) ?_).trans (CT s1))
 kernel_rfl
def xf {y x:PV} (h:f_is_box [y]=.ok (.bl false,om,.non)):El [y,x]=.exc 1:=Jl rfl (Ku (Ot (JZ (xs:=[(y,dv y)]) rfl (jM h))))
def TB:Fs:=Ai false 3 (A8 El (Ad (Aa 0) (Ad (Aa 1) (Ac)))) [0,1]
def H1:Fs:=Ae (Ai false 2 (bC (.str "NoBox")) []) (Ai false 4 (Bb (Ap AQ (Ap (D6 [9]) (Aa 5))) (Ap AQ (Ap (D6 [2]) (Aa 5)))) [5,5])
def H2:Fs:=Ae (Ai false 2 (bC (.str "NoText")) []) (Ai false 4 (Bb (Ap AQ (Ap (D6 [1]) (Aa 5))) (Ap AQ (Ap (D6 [2]) (Aa 5)))) [5,5])
def RT:Fs:=An (Am BJ (Ad (Ab A1 (Aa 2) (Ab Ah (Am AY (Ad (bC (.str "odd")) (Ad (bC (.str "")) (Ac)))) (Am Ft (Ad (Aa 4) (Ac))))) (Ad (Aa 3) (Ac))))
def UJ:L7=Ae (Ai false 2 (bC (.str "told")) []) (Ae (Ai false 3 (bC .non) []) (Ae (Ai false 4 (bC (.bl true)) []) (Ae (E7 [(1,H1),(9,H2)] 5 [] TB) RT))):=rfl
def NS (w:Str) (v:PV):PV:=.tup [.str w,v]
def TX {s0 s1 s5:QQ.Slot}{w:Str}{v:PV}{d:Nat} (hw:w.length<=10):∃ d',RT [s0,s1,some (.str w,om),some (v,d),some (.bl true,om),s5]=.rt (NS w v) d' [s0,s1,some (.str w,om),some (v,d),some (.bl true,om),s5]:=by
 have z:=sz;let R:Ag:=[s0,s1,some (.str w,om),some (v,d),some (.bl true,om),s5]
 have e1:Ab A1 (Aa 2) (Ab Ah (Am AY (Ad (bC (.str "odd")) (Ad (bC (.str "")) (Ac)))) (Am Ft (Ad (Aa 4) (Ac)))) R=.ok (.str w,om,R):=by
  refine CG (x:=.str w) (d:=om) (y:=.str "") (e:=om) rfl rfl ?_;unfold A1;dsimp only;rw [if_pos (by show w.length + 0<=_;omega)]
  have:w ++ "" = w:=congrArg Str.mk (Array.append_empty)
  rw [this]
 exact ⟨_,CT (Dy (De e1 (Cw (x:=v) (d:=dv v) rfl)) rfl)⟩
variable {x y v:PV}
def HW {d:Nat}{vs:List Nat}{ρ:Ag}:CI d vs ρ=ρ\/CI d vs ρ=cool vs 0 ρ:=by
 unfold CI;split
 ·exact .inl rfl
 ·exact .inr rfl
def jX {d:Nat} (h:El [x,y]=.ok (v,d,.non)):∃ d',GD [x,y]=.ok (NS "told" v,d',.non):=by
 let R (d0 d1:Nat) (s2 s3 s4 s5:QQ.Slot):Ag:=[some (x,d0),some (y,d1),s2,s3,s4,s5]
 let W:QQ.Slot:=some (.str "told",om);let A:QQ.Slot:=some (.bl true,om);have e:∃ d0 d1,TB (R (dv x) (dv y) W (some (.non,om)) A none)=.nx (R d0 d1 W (some (v,d)) A none):=by
  let R0:Ag:=R (dv x) (dv y) W (some (.non,om)) A none;have q:=BD (F:=El) (fa:=Ad (Aa 0) (Ad (Aa 1) (Ac))) (ρ:=R0) (ρ1:=R0) (xs:=[(x,dv x),(y,dv y)]) rfl h;rcases HW (d:=d) (vs:=[0,1]) (ρ:=R0) with cl | cl
  ·exact ⟨dv x,dv y,AB q (show 3 < 6 by decide) (by rw [cl];rfl)⟩
  ·exact ⟨0,0,AB q (show 3 < 6 by decide) (by rw [cl];rfl)⟩
 obtain ⟨d0,d1,e⟩:=e;have s3:E7 [(1,H1),(9,H2)] 5 [] TB (R (dv x) (dv y) W (some (.non,om)) A none)=.nx (R d0 d1 W (some (v,d)) A none):=by
  unfold E7;rw [e]
 obtain ⟨d',e4⟩:=TX (s0:=some (x,d0)) (s1:=some (y,d1)) (s5:=none) (w := "told") (v:=v) (d:=d) (by decide +kernel);have hF:GD=A0 false 2 4 L7:=rfl;rw [hF,UJ];refine ⟨d',BG rfl ((A2 (ρ1:=R (dv x) (dv y) W none none none) rfl).trans ((A2 (ρ1:=R (dv x) (dv y) W (some (.non,om)) none none) rfl).trans ((A2 (ρ1:=R (dv x) (dv y) W (some (.non,om)) A none) rfl).trans ((A2 s3).trans e4))))⟩
def SA {e:Nat}{w:Str} (h:El [x,y]=.exc e) (hw:e=1/\w = "NoBox" \/ e=9/\w = "NoText"):∃ d',GD [x,y]=.ok (NS w .non,d',.non):=by
 let R (s2 s3 s4 s5:QQ.Slot):Ag:=[some (x,dv x),some (y,dv y),s2,s3,s4,s5]
 let W:QQ.Slot:=some (.str "told",om);let A:QQ.Slot:=some (.bl true,om);let R0:Ag:=R W (some (.non,om)) A none;have et:TB R0=.exc e:=V1 (JZ (xs:=[(x,dv x),(y,dv y)]) rfl h);have s3:E7 [(1,H1),(9,H2)] 5 [] TB R0=.nx (R (some (.str w,om)) (some (.non,om)) A none):=by
  unfold E7;rw [et];dsimp only;rcases hw with ⟨rfl,rfl⟩ | ⟨rfl,rfl⟩
  ·rw [show EW [(1,H1),(9,H2)] 1=some H1 from rfl];dsimp only;rw [if_pos ⟨show 5 < 6 by decide,rfl⟩]
   have:H1 (R0.set 5 (some (.exn 1,om)))=.nx (R (some (.str "NoBox",om)) (some (.non,om)) A (some (.exn 1,om))):=by rfl
   rw [this];rfl
  ·rw [show EW [(1,H1),(9,H2)] 9=some H2 from rfl];dsimp only;rw [if_pos ⟨show 5 < 6 by decide,rfl⟩]
   have:H2 (R0.set 5 (some (.exn 9,om)))=.nx (R (some (.str "NoText",om)) (some (.non,om)) A (some (.exn 9,om))):=by rfl
   rw [this];rfl
 obtain ⟨d',e4⟩:=TX (s0:=some (x,dv x)) (s1:=some (y,dv y)) (s5:=none) (w:=w) (v:=.non) (d:=om) (by rcases hw with ⟨_,rfl⟩ | ⟨_,rfl⟩ <;> decide +kernel);have hF:GD=A0 false 2 4 L7:=rfl;rw [hF,UJ];refine ⟨d',BG rfl ((A2 (ρ1:=R W none none none) rfl).trans ((A2 (ρ1:=R W (some (.non,om)) none none) rfl).trans ((A2 (ρ1:=R0) rfl).trans ((A2 s3).trans e4))))⟩
def TA:Fs:=Dd (A8 El (Ad (Aa 0) (Ad (Aa 1) (Ac))))
def H3:Fs:=Ai false 2 (Ap (D6 [0]) (Aa 3)) [3]
def Z9:NQ=Ae (Ai false 2 (bC (.bl false)) []) (Ae (E7 [(0,H3)] 3 [] TA) (FA 2)):=rfl
def UH {e:Nat} (h:El [x,y]=.exc e) (hw:e=1\/e=9):Ht [x,y]=.ok (.bl true,om,.non):=by
 let R (s2 s3:QQ.Slot):Ag:=[some (x,dv x),some (y,dv y),s2,s3]
 let R0:Ag:=R (some (.bl false,om)) none;have et:TA R0=.exc e:=Ot (JZ (xs:=[(x,dv x),(y,dv y)]) rfl h);have s3:E7 [(0,H3)] 3 [] TA R0=.nx (R (some (.bl true,om)) none):=by
  unfold E7;rw [et];dsimp only;rcases hw with rfl | rfl
  ·rw [show EW [(0,H3)] 1=some H3 from rfl];dsimp only;rw [if_pos ⟨show 3 < 4 by decide,rfl⟩]
   have:H3 (R0.set 3 (some (.exn 1,om)))=.nx (R (some (.bl true,om)) (some (.exn 1,om))):=by rfl
   rw [this];rfl
  ·rw [show EW [(0,H3)] 9=some H3 from rfl];dsimp only;rw [if_pos ⟨show 3 < 4 by decide,rfl⟩]
   have:H3 (R0.set 3 (some (.exn 9,om)))=.nx (R (some (.bl true,om)) (some (.exn 9,om))):=by rfl
   rw [this];rfl
 have hF:Ht=A0 false 2 2 NQ:=rfl;rw [hF,Z9];exact BG rfl (ρ':=R (some (.bl true,om)) none) ((A2 (ρ1:=R0) rfl).trans ((A2 s3).trans rfl))
def Nt (x:PV):Prop:=F9 [x]=.exc 9/\∀ a b c:Nat,Gd [bx a b c,x]=.ok (.non,om,.non)
def xg (h1:1<=a) (h2:1<=b) (h3:1<=c) (h:Nt x):El [bx a b c,x]=.exc 9:=by
 let R:Ag:=[some (bx a b c,0),some (x,dv x),none]
 exact Jl rfl ((A2 (ρ1:=R) (LW (BD (xs:=[(bx a b c,0)]) rfl (LQ (ON h1 h2 h3))))).trans (Ku (Ot (JZ (xs:=[(x,dv x)]) rfl h.1))))
def kS (F:Fn):Fs:=(Ae (Ax (bT (Ay (Ap (AH "tuple") (Aa 1)) (Ap (AH "list") (Aa 1)))) (Ae (Ax (bT (Ay (Ab (Ak true) (Ap (AH "tuple") (Aa 0)) (Ap (AH "tuple") (Aa 1))) (Ab (Ak true) (Ap (AH "list") (Aa 0)) (Ap (AH "list") (Aa 1))))) (An (bC (.bl false))) Al)
 (Ae (Ax (bT (Ab (Ak true) (Am AO (Ad (Aa 0) (Ac))) (Am AO (Ad (Aa 1) (Ac))))) (An (bC (.bl false))) Al)
 (An (Ab (Ak false) (Du Bo (Ad (Am AO (Ad (Aa 1) (Ac))) (Ac)) 1 (Ao 2) (bT (Ap AQ (A8 F (Ad (Ab Ah (Aa 0) (Aa 2)) (Ad (Ab Ah (Aa 1) (Aa 2)) (Ac)))))) (Aa 2)) (Am AY (Ac)))))) Al)
 (An (Bb (Ap (AH "int") (Aa 0)) (Bb (Ap AQ (Ap (AH "bool") (Aa 0))) (Ab (Ak false) (Aa 0) (Aa 1))))))
def al:Nat->Fn
 | 0=>λ _=>.no
 | n + 1=>A0 false 2 0 (kS (al n))
def Yz (n:Nat) (i:Int):al (n + 1) [.int i,.int i]=.ok (.bl true,om,.non):=by
 let R:Ag:=[some (.int i,om),some (.int i,om)]
 have e:(Bb (Ap (AH "int") (Aa 0)) (Bb (Ap AQ (Ap (AH "bool") (Aa 0))) (Ab (Ak false) (Aa 0) (Aa 1)))) R=.ok (.bl (true && (true && (false^^decide (i=i)))),om,R):=
  DJ (a:=true) (d:=om) rfl (λ _=>DJ (a:=true) (d:=om) rfl (λ _=>Dk (i:=i) (j:=i) rfl rfl) rfl) rfl
 rw [decide_eq_true rfl] at e;exact BG rfl (ρ':=R) ((A2 (ρ1:=R) (AK (ρ1:=R) rfl)).trans (CT e))
def Uc {n m:Nat}{xs:List PV} (hm:xs.length=m) (hl:m<=1000) (h:∀ k,k < m->∃ x d,al n [x,x]=.ok (.bl true,om,.non)/\∀ (j:Nat) (ρ:Ag),Aa j ρ=.ok (.lst xs,0,ρ)->Aa 2 ρ=.ok (.int (0 + (k:Int)),om,ρ)->Ab Ah (Aa j) (Aa 2) ρ=.ok (x,d,ρ)):al (n + 1) [.lst xs,.lst xs]=.ok (.bl true,om,.non):=by
 have z:=sz;let R:Ag:=[some (.lst xs,0),some (.lst xs,0)]
 have t1:bT (Ay (Ap (AH "tuple") (Aa 1)) (Ap (AH "list") (Aa 1))) R=.ok (true,R):=by kernel_rfl
 have t3:bT (Ay (Ab (Ak true) (Ap (AH "tuple") (Aa 0)) (Ap (AH "tuple") (Aa 1))) (Ab (Ak true) (Ap (AH "list") (Aa 0)) (Ap (AH "list") (Aa 1)))) R=.ok (false,R):=by kernel_rfl
 have el:∀ j ρ,Aa j ρ=.ok (.lst xs,0,ρ)->Am AO (Ad (Aa j) (Ac)) ρ=.ok (.int (m:Int),om,ρ):=λ j ρ e=>Dy (Cw e) (by rw [<- hm];rfl);have t4:=Av (Dk (neg:=true) (el 0 R rfl) (el 1 R rfl));rw [decide_eq_true rfl] at t4;have e5:=jo (n:=2) (en:=Bo) (fa:=Ad (Am AO (Ad (Aa 1) (Ac))) (Ac)) (ρ:=R) (ρ1:=R) (as:=[(.int (m:Int),om)]) (lo:=0) (hi:=(m:Int)) (p:=λ _=>false)
  (test:=bT (Ap AQ (A8 (al n) (Ad (Ab Ah (Aa 0) (Aa 2)) (Ad (Ab Ah (Aa 1) (Aa 2)) (Ac)))))) (Cw (el 1 R rfl)) (Fq (by omega) (by omega)) rfl (λ k hk=>by
   obtain ⟨x,d,e,f⟩:=h k (by omega);exact Av (E3 (BD (xs:=[(x,d),(x,d)]) (De (f 0 _ rfl rfl) (Cw (f 1 _ rfl rfl))) e))) (by omega)
 rw [show ∀ l:List Nat,l.filter (λ _=>false)=[] from λ l=>by simp,HG] at e5;have e6:=Xw (neg:=false) (ys:=[]) (d:=om) (e:=om) (h:=Am AY (Ac)) e5 rfl;rw [decide_eq_true rfl] at e6;exact BG rfl (ρ':=R) (CJ ((A4 t1).trans ((A2 (AK t3)).trans ((A2 (AK t4)).trans (CT e6)))))
def XX (n:Nat) (r:List Int) (hl:r.length<=1000):al (n + 2) [il r,il r]=.ok (.bl true,om,.non):=
 Uc (m:=r.length) (Bg _) hl λ k hk=>⟨.int (r.getD k 0),om,Yz n _,λ j ρ e1 e2=>EB (xs:=r) e1 e2 (CK (by omega) (by rw [show (0 + (k:Int)).toNat=k by omega];exact DS hk))⟩
def XY (n:Nat) (t:List (List Int)) (hl:t.length<=1000) (hr:∀ r∈t,r.length<=1000):al (n + 3) [tb t,tb t]=.ok (.bl true,om,.non):=
 Uc (m:=t.length) (Bg _) hl λ k hk=>⟨il t[k],0,XX n _ (hr _ (EN hk)),λ j ρ e1 e2=>N1 (t:=t) e1 e2 (CK (by omega) (by rw [show (0 + (k:Int)).toNat=k by omega];exact Cm hk))⟩
def RN:KZ=al 1:=by unfold KZ;rw [xC];rfl
def RM:La=al 2:=by unfold La;rw [xD,RN];rfl
def RL:Lb=al 3:=by unfold Lb;rw [xE,RM];rfl
def RK:JR=al 4:=by show MZ=_;unfold MZ;rw [xF,RL];rfl
def XZ {t:List (List Int)} (hl:t.length<=1000) (hr:∀ r∈t,r.length<=1000):JR [tb t,tb t]=.ok (.bl true,om,.non):=by rw [RK];exact XY 1 t hl hr
def P0:Fs:=Ai false 2 (A8 NW (Ad (A8 NX (Ad (Aa 0) (Ad (Aa 1) (Ac)))) (Ad (bC (.int 54)) (Ac)))) [0,1]
def P1:Fs:=Ai false 3 (A8 NV (Ad (Bu (Aa 2) (some (bC (.int 38))) (some (bC (.int 42)))) (Ac))) [2]
def P2:Fs:=Ax (bT (Ab (Ak false) (Ab Az (Ab Ah (Aa 2) (bC (.int 53))) (bC (.int 8))) (bC (.int 3)))) (Ai false 3 (Am BJ (Ad (Ab Ah (Aa 3) (bC (.int 0))) (Ad (Ab Ah (Aa 3) (bC (.int 1))) (Ad (Ab A1 (bC (.int 1)) (Ab Az (Ab A1 (Ab Ah (Aa 2) (bC (.int 53))) (Ab Co (bC (.int 64)) (Ab Ah (Aa 2) (bC (.int 52))))) (bC (.int 98)))) (Ac))))) [3,3,2,2]) Al
def OT:Fx:=Am AY (Ad (Aa 3) (Ad (Aa 3) (Ad (Am BJ (Ad (Ab Ah (Aa 3) (bC (.int 1))) (Ad (Ab Ah (Aa 3) (bC (.int 0))) (Ad (Ab Ah (Aa 3) (bC (.int 2))) (Ac))))) (Ad (Am BJ (Ad (Ab Ah (Aa 3) (bC (.int 0))) (Ad (Ab Ah (Aa 3) (bC (.int 1))) (Ad (Ab A1 (Ab Ah (Aa 3) (bC (.int 2))) (bC (.int 1))) (Ac))))) (Ac)))))
def P3:Fs:=Ai false 4 (Ab Ah OT (Ab Az (Ab Ah (Aa 2) (bC (.int 42))) (bC (.int 4)))) [3,3,3,3,3,3,3,3,2]
def P4:Fs:=Ai false 5 (A8 LD (Ad (A8 LF (Ad (Aa 4) (Ad (Aa 2) (Ac)))) (Ac))) [4,2]
def P5:Fs:=Ax (bT (Ab (Be λ i j=>decide (j < i)) (Ab Az (Ab Ah (Aa 2) (bC (.int 43))) (bC (.int 3))) (bC (.int 0)))) (Ai false 5 (A8 JQ (Ad (Aa 5) (Ad (Bu (Aa 2) (some (bC (.int 44))) (some (bC (.int 49)))) (Ac)))) [5,2]) Al
def NT:Fx:=Am AY (Ad (bC .non) (Ad (bC (.int 7)) (Ad (Am AY (Ad (Am AY (Ad (bC (.int 1)) (Ac))) (Ac))) (Ad (Am BJ (Ad (bC (.str "1")) (Ac))) (Ad (bC (.bl true)) (Ad (bC .emp) (Ac)))))))
def P6:Fs:=Ax (bT (Ab (Ak false) (Ab Az (Ab Ah (Aa 2) (bC (.int 49))) (bC (.int 8))) (bC (.int 3)))) (Ai false 5 (Ab Ah NT (Ab Az (Ab Ah (Aa 2) (bC (.int 50))) (bC (.int 6)))) [2]) Al
def P7:Fs:=Ai false 6 (A8 Gd (Ad (Aa 3) (Ad (Aa 5) (Ac)))) [3,5]
def TT:Fb:=bT (Ab (Ak false) (Ab Az (Ab Ah (Aa 2) (bC (.int 51))) (bC (.int 8))) (bC (.int 1)))
def P8:Fs:=Ax TT (Ai false 3 (A8 JP (Ad (Ab Ah (Aa 2) (bC (.int 52))) (Ac))) [2]) Al
def P9:Fs:=Dm (Dt [7,8]) (A8 GD (Ad (Aa 3) (Ad (Aa 5) (Ac)))) [3,5]
def AN:Fx:=Ap AQ (A8 Ht (Ad (Aa 3) (Ad (Aa 5) (Ac))))
def U1:Fb:=bT (Ay (Ab (Ak true) (Aa 7) (bC (.str "NoBox"))) AN)
def U2:Fb:=bT (Bb (Ab (Cr false) (Aa 6) (bC .non)) (Ay (Ab (Ak true) (Aa 7) (bC (.str "NoText"))) AN))
def U3:Fb:=bT (Bb (Ab (Cr true) (Aa 6) (bC .non)) (Ay (Ab (Ak true) (Aa 7) (bC (.str "told"))) (Ap AQ (A8 JR (Ad (Aa 8) (Ad (Aa 6) (Ac)))))))
def LA:Fs:=Ax TT (Ax U1 (An (bC (.bl false))) Al) (Ax U2 (An (bC (.bl false))) (Ax U3 (An (bC (.bl false))) Al))
def LK:Fs:=Ae P0 (Ae P1 (Ae P2 (Ae P3 (Ae P4 (Ae P5 (Ae P6 (Ae P7 (Ae P8 (Ae P9 LA)))))))))
def ZA:NP=Ae (CF Bo (Ad (Am Gr (Ad (bC (.int 1)) (Ad (Am E5 (Ad (Am AO (Ad (Aa 0) (Ac))) (Ad (bC (.int 20)) (Ac)))) (Ac)))) (Ac)) (Ao 1) LK) (An (bC (.bl true))):=rfl
def Th (x:PV):Prop:=(∃ z,x=.str z/\Ok z)\/Nt x
section
variable {s0 s1 s4 s6 s7 s8:QQ.Slot}{xs:List Int}{d2 d3 d5:Nat}
def FL (s0 s1:QQ.Slot) (xs:List Int) (d2:Nat) (x:PV) (d3:Nat) (s4:QQ.Slot) (y:PV) (d5:Nat) (s6 s7 s8:QQ.Slot):Ag:=[s0,s1,some (il xs,d2),some (x,d3),s4,some (y,d5),s6,s7,s8]
def Hi {n:Nat} (hx:xs.length=54) (hn:n < 54) {ρ:Ag} (h:Aa 2 ρ=.ok (il xs,0,ρ)):Ab Ah (Aa 2) (bC (.int (n:Int))) ρ=.ok (.int (xs.getD n 0),om,ρ):=EB (xs:=xs) (k:=(n:Int)) h rfl (CK (by omega) (DS (by rw [ER];omega)))
def Lc (hx:xs.length=54) {ρ:Ag} (h:Aa 2 ρ=.ok (il xs,0,ρ)):TT ρ=.ok (decide (xs.getD 51 0 % 8=1),ρ):=by
 have:=Av (Dk (neg:=false) (Cg (Hi (n:=51) hx (by decide) h) (g:=bC (.int 8)) (j:=8) (e:=om) rfl (by decide)) (g:=bC (.int 1)) (j:=1) (e:=om) rfl)
 rw [FV] at this;exact this
def IE {x y v:PV}{w:Str}{d':Nat} (h:GD [x,y]=.ok (NS w v,d',.non)):∃ d3' d5',P9 (FL s0 s1 xs d2 x d3 s4 y d5 s6 s7 s8)=.nx (FL s0 s1 xs d2 x d3' s4 y d5' s6 (some (.str w,om)) (some (v,dv v))):=by
 let R:=FL s0 s1 xs d2 x d3 s4 y d5 s6 s7 s8;have q:=BD (F:=GD) (fa:=Ad (Aa 3) (Ad (Aa 5) (Ac))) (ρ:=R) (ρ1:=R) (xs:=[(x,dv x),(y,dv y)]) rfl h;rcases HW (d:=d') (vs:=[3,5]) (ρ:=R) with cl | cl
 ·exact ⟨d3,d5,U5 q (by rw [cl];rfl)⟩
 ·exact ⟨0,0,U5 q (by rw [cl];rfl)⟩
def T9 {x y:PV} (h:Ht [x,y]=.ok (.bl true,om,.non)):AN (FL s0 s1 xs d2 x d3 s4 y d5 s6 s7 s8)=.ok (.bl false,om,FL s0 s1 xs d2 x d3 s4 y d5 s6 s7 s8):=E3 (BD (F:=Ht) (fa:=Ad (Aa 3) (Ad (Aa 5) (Ac))) (xs:=[(x,dv x),(y,dv y)]) rfl h)
def OM {x y:PV}{w:Str}:Ab (Ak true) (Aa 7) (bC (.str w)) (FL s0 s1 xs d2 x d3 s4 y d5 s6 (some (.str w,om)) s8)=.ok (.bl false,om,FL s0 s1 xs d2 x d3 s4 y d5 s6 (some (.str w,om)) s8):=by
 let R:=FL s0 s1 xs d2 x d3 s4 y d5 s6 (some (.str w,om)) s8;have e:=N0 (neg:=true) (f:=Aa 7) (g:=bC (.str w)) (ρ:=R) (ρ1:=R) (ρ2:=R) (x:=w) (y:=w) (d:=om) (e:=om) rfl rfl;rw [beq_self_eq_true] at e;exact e
def xo (hx:xs.length=54) (ht:decide (xs.getD 51 0 % 8=1)=true) {x y:PV} (hb:f_is_box [x]=.ok (.bl false,om,.non)):∃ t3 t5 t7 t8,Ae P9 LA (FL s0 s1 xs d2 x d3 s4 y d5 s6 s7 s8)=.nx [s0,s1,some (il xs,d2),t3,s4,t5,s6,t7,t8]:=by
 have h:=xf (x:=y) hb;obtain ⟨d',ea⟩:=SA (w := "NoBox") h (.inl ⟨rfl,rfl⟩);obtain ⟨d3',d5',v9⟩:=IE (s0:=s0) (s1:=s1) (xs:=xs) (d2:=d2) (d3:=d3) (s4:=s4) (d5:=d5) (s6:=s6) (s7:=s7) (s8:=s8) ea;have tt:=Lc hx (ρ:=FL s0 s1 xs d2 x d3' s4 y d5' s6 (some (.str "NoBox",om)) (some (.non,om))) rfl;rw [ht] at tt;have u:U1 (FL s0 s1 xs d2 x d3' s4 y d5' s6 (some (.str "NoBox",om)) (some (.non,om)))=.ok (false,FL s0 s1 xs d2 x d3' s4 y d5' s6 (some (.str "NoBox",om)) (some (.non,om))):=Av ((Rb OM).trans (T9 (UH h (.inl rfl))));exact ⟨_,_,_,_,(A2 v9).trans ((A4 tt).trans ((AK u).trans rfl))⟩
def xq (hx:xs.length=54) (ht:decide (xs.getD 51 0 % 8=1)=false) {a b c:Nat} (h1:1<=a/\a<=6) (h2:1<=b/\b<=6) (h3:1<=c) {y:PV} (hy:Th y):∃ t3 t5 t6 t7 t8,Ae P7 (Ae P8 (Ae P9 LA)) (FL s0 s1 xs d2 (bx a b c) d3 s4 y d5 s6 s7 s8)=.nx [s0,s1,some (il xs,d2),t3,s4,t5,t6,t7,t8]:=by
 have seven:∀ (v:PV) (d':Nat),Gd [bx a b c,y]=.ok (v,d',.non)->∃ d3' d5',P7 (FL s0 s1 xs d2 (bx a b c) d3 s4 y d5 s6 s7 s8)=.nx (FL s0 s1 xs d2 (bx a b c) d3' s4 y d5' (some (v,d')) s7 s8):=λ v d' h=>by
  let R:=FL s0 s1 xs d2 (bx a b c) d3 s4 y d5 s6 s7 s8;have q:=BD (F:=Gd) (fa:=Ad (Aa 3) (Ad (Aa 5) (Ac))) (ρ:=R) (ρ1:=R) (xs:=[(bx a b c,0),(y,dv y)]) rfl h;rcases HW (d:=d') (vs:=[3,5]) (ρ:=R) with cl | cl
  ·exact ⟨d3,d5,AB q (show 6 < 9 by decide) (by rw [cl];rfl)⟩
  ·exact ⟨0,0,AB q (show 6 < 9 by decide) (by rw [cl];rfl)⟩
 have eight:∀ (d3' d5':Nat) (s6':QQ.Slot),P8 (FL s0 s1 xs d2 (bx a b c) d3' s4 y d5' s6' s7 s8)=.nx (FL s0 s1 xs d2 (bx a b c) d3' s4 y d5' s6' s7 s8):=λ d3' d5' s6'=>by
  have tt:=Lc hx (ρ:=FL s0 s1 xs d2 (bx a b c) d3' s4 y d5' s6' s7 s8) rfl;rw [ht] at tt;exact (AK tt).trans rfl
 have none_case:El [bx a b c,y]=.exc 9->Gd [bx a b c,y]=.ok (.non,om,.non)->∃ t3 t5 t6 t7 t8,Ae P7 (Ae P8 (Ae P9 LA)) (FL s0 s1 xs d2 (bx a b c) d3 s4 y d5 s6 s7 s8)=.nx [s0,s1,some (il xs,d2),t3,s4,t5,t6,t7,t8]:=λ NL RH=>by
  obtain ⟨e3,e5,v7⟩:=seven _ _ RH;obtain ⟨d',ea⟩:=SA (w := "NoText") NL (.inr ⟨rfl,rfl⟩);obtain ⟨d3',d5',v9⟩:=IE (s0:=s0) (s1:=s1) (xs:=xs) (d2:=d2) (d3:=e3) (s4:=s4) (d5:=e5) (s6:=some (.non,om)) (s7:=s7) (s8:=s8) ea;let R:=FL s0 s1 xs d2 (bx a b c) d3' s4 y d5' (some (.non,om)) (some (.str "NoText",om)) (some (.non,om));have tt:=Lc hx (ρ:=R) rfl;rw [ht] at tt;have u2:U2 R=.ok (false,R):=Av (DJ (f:=Ab (Cr false) (Aa 6) (bC .non)) (a:=true) (b:=false) (d:=om) (ρ:=R) (ρ1:=R) rfl (λ _=>(Rb OM).trans (T9 (UH NL (.inr rfl)))) rfl);have u3:U3 R=.ok (false,R):=Av (DJ (f:=Ab (Cr true) (Aa 6) (bC .non)) (a:=false) (b:=true) (d:=om) (ρ:=R) (ρ1:=R) rfl (λ z=>nomatch z) rfl);exact ⟨_,_,_,_,_,(A2 v7).trans ((A2 (eight e3 e5 _)).trans ((A2 v9).trans ((AK tt).trans ((AK u2).trans ((AK u3).trans rfl)))))⟩
 rcases hy with ⟨z,rfl,ha,hl⟩ | hy
 ·have r1:=read_pile (a:=a) (b:=b) (c:=c) (by omega) (by omega) h3 ha (by omega);have r2:=Ve (a:=a) (b:=b) (c:=c) (by omega) (by omega) ha (by omega);cases hr:HF a b c z with
  | false=>
   rw [hr,if_neg BN] at r1 r2;exact none_case r1 r2
  | true=>
   rw [hr,if_pos rfl] at r1 r2;obtain ⟨e3,e5,v7⟩:=seven _ _ r2;obtain ⟨d',ea⟩:=jX r1;obtain ⟨d3',d5',v9⟩:=IE (s0:=s0) (s1:=s1) (xs:=xs) (d2:=d2) (d3:=e3) (s4:=s4) (d5:=e5) (s6:=some (tb (CB z),om)) (s7:=s7) (s8:=s8) ea;let R:=FL s0 s1 xs d2 (bx a b c) d3' s4 (.str z) d5' (some (tb (CB z),om)) (some (.str "told",om)) (some (tb (CB z),0));have tt:=Lc hx (ρ:=R) rfl;rw [ht] at tt;have ll:=HA z 47;have al:=XZ (t:=CB z) (by
    show ((AX z SL).map _).length<=_;rw [Bg];exact BH ll.1 (by omega)) (λ r hr=>by
    obtain ⟨y,hy,rfl⟩:=jf4.mp hr;rw [Bg];exact BH (HA y 32).1 (by have:=ll.2 y hy;omega))
   have u2:U2 R=.ok (false,R):=Av (DJ (f:=Ab (Cr false) (Aa 6) (bC .non)) (a:=false) (b:=true) (d:=om) (ρ:=R) (ρ1:=R) rfl (λ z=>nomatch z) rfl);have u3:U3 R=.ok (false,R):=Av (DJ (f:=Ab (Cr true) (Aa 6) (bC .non)) (a:=true) (b:=false) (d:=om) (ρ:=R) (ρ1:=R) rfl (λ _=>(Rb OM).trans (E3 (BD (F:=JR) (fa:=Ad (Aa 8) (Ad (Aa 6) (Ac))) (ρ:=R) (ρ1:=R) (xs:=[(tb (CB z),0),(tb (CB z),0)]) rfl al))) rfl);exact ⟨_,_,_,_,_,(A2 v7).trans ((A2 (eight e3 e5 _)).trans ((A2 v9).trans ((AK tt).trans ((AK u2).trans ((AK u3).trans rfl)))))⟩
 ·exact none_case (xg (by omega) (by omega) h3 hy) (hy.2 a b c)
theorem zZ (hx:xs.length=54) {a b c:Nat} (h1:1<=a/\a<=6) (h2:1<=b/\b<=6) (h3:1<=c) {y:PV} (hy:Th y):∃ t2 t3 t5 t6 t7 t8,Ae P7 (Ae P8 (Ae P9 LA)) (FL s0 s1 xs d2 (bx a b c) d3 s4 y d5 s6 s7 s8)=.nx [s0,s1,t2,t3,s4,t5,t6,t7,t8]:=by
 cases ht:decide (xs.getD 51 0 % 8=1) with
 | false=>
  obtain ⟨t3,t5,t6,t7,t8,e⟩:=xq (s0:=s0) (s1:=s1) (d2:=d2) (d3:=d3) (s4:=s4) (d5:=d5) (s6:=s6) (s7:=s7) (s8:=s8) hx ht h1 h2 h3 hy;exact ⟨_,_,_,_,_,_,e⟩
 | true=>
  have due:∃ v d',Gd [bx a b c,y]=.ok (v,d',.non):=by
   rcases hy with ⟨z,rfl,ha,hl⟩ | hy
   ·exact ⟨_,_,Ve (by omega) (by omega) ha (by omega)⟩
   ·exact ⟨_,_,hy.2 a b c⟩
  obtain ⟨v,d',due⟩:=due;let R:=FL s0 s1 xs d2 (bx a b c) d3 s4 y d5 s6 s7 s8;have v7:∃ d3' d5',P7 R=.nx (FL s0 s1 xs d2 (bx a b c) d3' s4 y d5' (some (v,d')) s7 s8):=by
   have q:=BD (F:=Gd) (fa:=Ad (Aa 3) (Ad (Aa 5) (Ac))) (ρ:=R) (ρ1:=R) (xs:=[(bx a b c,0),(y,dv y)]) rfl due;rcases HW (d:=d') (vs:=[3,5]) (ρ:=R) with cl | cl
   ·exact ⟨d3,d5,AB q (show 6 < 9 by decide) (by rw [cl];rfl)⟩
   ·exact ⟨0,0,AB q (show 6 < 9 by decide) (by rw [cl];rfl)⟩
  obtain ⟨e3,e5,v7⟩:=v7;obtain ⟨x,dx,hb,ex⟩:=xY (xs.getD 52 0);let R2:=FL s0 s1 xs d2 (bx a b c) e3 s4 y e5 (some (v,d')) s7 s8;have v8:∃ d2',P8 R2=.nx (FL s0 s1 xs d2' x dx s4 y e5 (some (v,d')) s7 s8):=by
   have tt:=Lc hx (ρ:=R2) rfl;rw [ht] at tt;have q:=BD (F:=JP) (Cw (Hi (n:=52) hx (by decide) (ρ:=R2) rfl)) ex;rcases HW (d:=dx) (vs:=[2]) (ρ:=R2) with cl | cl
   ·exact ⟨d2,(A4 tt).trans (AB q (show 3 < 9 by decide) (by rw [cl];rfl))⟩
   ·exact ⟨0,(A4 tt).trans (AB q (show 3 < 9 by decide) (by rw [cl];rfl))⟩
  obtain ⟨d2',v8⟩:=v8;obtain ⟨t3,t5,t7,t8,e⟩:=xo (s0:=s0) (s1:=s1) (d2:=d2') (d3:=dx) (s4:=s4) (d5:=e5) (s6:=some (v,d')) (s7:=s7) (s8:=s8) (y:=y) hx ht hb;exact ⟨_,_,_,_,_,_,(A2 v7).trans ((A2 v8).trans e)⟩
end
def qC {a b c:Nat}{t:List (List Int)} (p:Pile a b c t) (ha:a<=6) (hb:b<=6) (hc:c<=99):t.length<=6/\∀ r∈t,r.length<=6/\∀ x∈r,0<=x/\x<=99:=by
 have h1:=p.tab.1;refine ⟨by omega,λ r hr=>?_⟩;have h2:=p.tab.2 r hr;refine ⟨by omega,λ x hx=>?_⟩;obtain ⟨i,hi,ei⟩:=jh0.mp hr;obtain ⟨j,hj,ej⟩:=jh0.mp hx;have e:g t i j=x:=by
  unfold g;rw [BI,BI,Cm hi,N9,ei,Cm hj,N9,ej]
 have l:=p.lo i j (by omega) (by omega);have h:=p.hi i j (by omega) (by omega);omega
def XT {ns:List Int}{k:Nat}{s2 s3 s4 s5 s6 s7 s8:QQ.Slot}:∃ t2 t3 t4 t5 t6 t7 t8,LK [some (.scr ns,om),some (.int (k:Int),om),s2,s3,s4,s5,s6,s7,s8]=.nx [some (.scr ns,om),some (.int (k:Int),om),t2,t3,t4,t5,t6,t7,t8]:=by
 have z:=sz;let S (s2 s3 s4 s5:QQ.Slot):Ag:=[some (.scr ns,om),some (.int (k:Int),om),s2,s3,s4,s5,s6,s7,s8]
 obtain ⟨xs,hx,e1⟩:=ZL (ns.getD k 0) 54 (by omega);have v0:P0 (S s2 s3 s4 s5)=.nx (S (some (il xs,om)) s3 s4 s5):=AB (BD (De (BD (xs:=[(.scr ns,om),(.int (k:Int),om)]) rfl (ZI ns k)) (Cw (x:=.int 54) (d:=om) rfl)) e1) (show 2 < 9 by decide) rfl;let ys:List Int:=(xs.drop 38).take 4;have hy:ys.length=4:=by show ((xs.drop 38).take 4).length=4;rw [Fj,NA,hx];decide
 obtain ⟨a,b,c0,ha,hb,hc0,e2⟩:=ZG ys hy;let R1:Ag:=S (some (il xs,om)) s3 s4 s5;have sl:Bu (Aa 2) (some (bC (.int 38))) (some (bC (.int 42))) R1=.ok (il ys,om,R1):=by
  show Rz.ok (PV.lst (Bt (xs.map PV.int) (some ((38:Nat):Int)) (some ((42:Nat):Int))),d1 (Bt (xs.map PV.int) (some ((38:Nat):Int)) (some ((42:Nat):Int))),R1)=_;have e:Bt (xs.map PV.int) (some ((38:Nat):Int)) (some ((42:Nat):Int))=ys.map PV.int:=by
   unfold Bt;rw [HT.sIx_nat,HT.sIx_nat,Bg,hx,<- Wm,<- Rn];rfl
  rw [e,Q1];rfl
 have v1:P1 R1=.nx (S (some (il xs,om)) (some (bx a b c0,om)) s4 s5):=AB (BD (Cw sl) e2) (show 3 < 9 by decide) rfl;have v2:∃ c:Nat,(1<=c/\c<=98)/\P2 (S (some (il xs,om)) (some (bx a b c0,om)) s4 s5)=.nx (S (some (il xs,om)) (some (bx a b c,om)) s4 s5):=by
  let R2:Ag:=S (some (il xs,om)) (some (bx a b c0,om)) s4 s5;have tt:=Av (Dk (neg:=false) (Cg (Hi (n:=53) hx (by decide) (ρ:=R2) rfl) (g:=bC (.int 8)) (j:=8) (e:=om) rfl (by decide)) (g:=bC (.int 3)) (j:=3) (e:=om) rfl);rw [FV] at tt;cases hd:decide (xs.getD 53 0 % 8=3) with
  | true=>
   rw [hd] at tt;obtain ⟨c,ec,hc⟩:=Mb (xs.getD 53 0 + 64 * xs.getD 52 0) 98 (by decide);have q:=DP (f:=bC (.int 1)) (i:=1) (d:=om) (ρ:=R2) rfl (Cg (DP (Hi (n:=53) hx (by decide) (ρ:=R2) rfl) (HS (f:=bC (.int 64)) (i:=64) (d:=om) rfl (Hi (n:=52) hx (by decide) (ρ:=R2) rfl) (.inl (by decide)))) (g:=bC (.int 98)) (j:=98) (e:=om) rfl (by decide));rw [show (1:Int) + (xs.getD 53 0 + 64 * xs.getD 52 0) % 98=(c:Int) from ec] at q;exact ⟨c,hc,(A4 tt).trans (AB (Dy (De (x:=.int (a:Int)) (d:=om) rfl (De (x:=.int (b:Int)) (d:=om) rfl (Cw q))) (z:=bx a b c) (c:=om) rfl) (show 3 < 9 by decide) rfl)⟩
  | false=>rw [hd] at tt;exact ⟨c0,by omega,(AK tt).trans rfl⟩
 obtain ⟨c,hc,v2⟩:=v2;let R3:Ag:=S (some (il xs,om)) (some (bx a b c,om)) s4 s5;have v3:∃ (a' b' c' d2 d3 d4:Nat),(1<=a'/\a'<=6)/\(1<=b'/\b'<=6)/\(1<=c'/\c'<=99)/\P3 R3=.nx (S (some (il xs,d2)) (some (bx a b c,d3)) (some (bx a' b' c',d4)) s5):=by
  let L:List PV:=[bx a b c,bx a b c,bx b a c,bx a b (c + 1:Nat)]
  have q:=DP (f:=Ab Ah (Aa 3) (bC (.int 2))) (ρ:=R3) (ρ1:=R3) (i:=(c:Int)) (d:=om) rfl (g:=bC (.int 1)) (j:=1) (e:=om) (ρ2:=R3) rfl;rw [show (c:Int) + 1=((c + 1:Nat):Int) by omega] at q;have t4:=Dy (op:=BJ) (De (f:=Ab Ah (Aa 3) (bC (.int 0))) (x:=.int (a:Int)) (d:=om) (ρ:=R3) rfl (De (f:=Ab Ah (Aa 3) (bC (.int 1))) (x:=.int (b:Int)) (d:=om) rfl (Cw q))) (z:=bx a b (c + 1:Nat)) (c:=om) rfl;have e0:=De (f:=Aa 3) (x:=bx a b c) (d:=0) (ρ:=R3) (ρ1:=R3) rfl (De (f:=Aa 3) (x:=bx a b c) (d:=0) rfl (De (f:=Am BJ (Ad (Ab Ah (Aa 3) (bC (.int 1))) (Ad (Ab Ah (Aa 3) (bC (.int 0))) (Ad (Ab Ah (Aa 3) (bC (.int 2))) (Ac))))) (x:=bx b a c) (d:=om) rfl (Cw t4)));have e1:∃ d,OT R3=.ok (.lst L,d,R3):=⟨_,Dy e0 (by unfold AY;rw [if_pos (by show 4<=_;omega)];rfl)⟩
  obtain ⟨d,e1⟩:=e1;have m0:=Fi (xs.getD 42 0) (show (4:Int)≠0 by decide);have m1:=FY (xs.getD 42 0) (show (0:Int) < 4 by decide);have em:=Cg (Hi (n:=42) hx (by decide) (ρ:=R3) rfl) (g:=bC (.int 4)) (j:=4) (e:=om) rfl (by decide);have hn:(xs.getD 42 0 % 4).toNat < L.length:=by show _ < 4;omega
  have e2:Ab Ah OT (Ab Az (Ab Ah (Aa 2) (bC (.int 42))) (bC (.int 4))) R3=.ok (L[(xs.getD 42 0 % 4).toNat],dv L[(xs.getD 42 0 % 4).toNat],R3):=by
   refine CG e1 em ?_;show (Bk L (xs.getD 42 0 % 4)).map (λ z=>(z,dv z))=_;rw [CK m0 (Cm hn)];rfl
  have th:∃ a' b' c':Nat,(1<=a'/\a'<=6)/\(1<=b'/\b'<=6)/\(1<=c'/\c'<=99)/\L[(xs.getD 42 0 % 4).toNat]=bx a' b' c':=by
   have hm:L[(xs.getD 42 0 % 4).toNat]∈L:=EN hn;generalize L[(xs.getD 42 0 % 4).toNat]=y at hm;simp only [L,jb2,Lu,or_false] at hm;rcases hm with rfl | rfl | rfl | rfl
   ·exact ⟨a,b,c,ha,hb,by omega,rfl⟩
   ·exact ⟨a,b,c,ha,hb,by omega,rfl⟩
   ·exact ⟨b,a,c,hb,ha,by omega,rfl⟩
   ·exact ⟨a,b,c + 1,ha,hb,by omega,rfl⟩
  obtain ⟨a',b',c',ha',hb',hc',th⟩:=th;rw [th] at e2;rcases HW (d:=dv (bx a' b' c')) (vs:=[3,3,3,3,3,3,3,3,2]) (ρ:=R3) with cl | cl
  ·exact ⟨a',b',c',om,om,dv (bx a' b' c'),ha',hb',hc',AB e2 (show 4 < 9 by decide) (by rw [cl];rfl)⟩
  ·exact ⟨a',b',c',0,0,dv (bx a' b' c'),ha',hb',hc',AB e2 (show 4 < 9 by decide) (by rw [cl];rfl)⟩
 obtain ⟨a',b',c',d2,d3,d4,ha',hb',hc',v3⟩:=v3;obtain ⟨t,d0,p,JN,e3⟩:=xQ xs (by omega) ha' hb' hc';have ro:=qC p (by omega) (by omega) (by omega);obtain ⟨w,hw,ew⟩:=xy ro.1 ro.2;let R4:Ag:=S (some (il xs,d2)) (some (bx a b c,d3)) (some (bx a' b' c',d4)) s5;let R5:Ag:=S (some (il xs,d2)) (some (bx a b c,d3)) (some (bx a' b' c',d4)) (some (.str w,om));have v4:P4 R4=.nx R5:=AB (BD (Cw (BD (F:=LF) (fa:=Ad (Aa 4) (Ad (Aa 2) (Ac))) (ρ:=R4) (ρ1:=R4) (xs:=[(bx a' b' c',0),(il xs,0)]) rfl e3)) ew) (show 5 < 9 by decide) rfl;let us:List Int:=(xs.drop 44).take 5;have hu:us.length=5:=by show ((xs.drop 44).take 5).length=5;rw [Fj,NA,hx];decide
 have v5:∃ (x:Str),Ok x/\P5 R5=.nx (S (some (il xs,d2)) (some (bx a b c,d3)) (some (bx a' b' c',d4)) (some (.str x,om))):=by
  have tt:=Av (Hy (p:=λ i j=>decide (j < i)) (Cg (Hi (n:=43) hx (by decide) (ρ:=R5) rfl) (g:=bC (.int 3)) (j:=3) (e:=om) rfl (by decide)) (g:=bC (.int 0)) (j:=0) (e:=om) rfl);have wl:=hw.2;cases hd:decide (0 < xs.getD 43 0 % 3) with
  | true=>
   rw [hd] at tt;obtain ⟨x,ox,ex⟩:=ZJ (z:=w) (ys:=us) hw.1 (by omega) hu;have sl:Bu (Aa 2) (some (bC (.int 44))) (some (bC (.int 49))) R5=.ok (il us,om,R5):=by
    show Rz.ok (PV.lst (Bt (xs.map PV.int) (some ((44:Nat):Int)) (some ((49:Nat):Int))),d1 (Bt (xs.map PV.int) (some ((44:Nat):Int)) (some ((49:Nat):Int))),R5)=_;have e:Bt (xs.map PV.int) (some ((44:Nat):Int)) (some ((49:Nat):Int))=us.map PV.int:=by
     unfold Bt;rw [HT.sIx_nat,HT.sIx_nat,Bg,hx,<- Wm,<- Rn];rfl
    rw [e,Q1];rfl
   exact ⟨x,ox,(A4 tt).trans (AB (BD (De (f:=Aa 5) (x:=.str w) (d:=om) rfl (Cw sl)) ex) (show 5 < 9 by decide) rfl)⟩
  | false=>
   rw [hd] at tt;exact ⟨w,⟨hw.1,by omega⟩,(AK tt).trans rfl⟩
 obtain ⟨x,ox,v5⟩:=v5;let R6:Ag:=S (some (il xs,d2)) (some (bx a b c,d3)) (some (bx a' b' c',d4)) (some (.str x,om));have v6:∃ (e2:Nat) (y:PV) (d:Nat),Th y/\P6 R6=.nx (S (some (il xs,e2)) (some (bx a b c,d3)) (some (bx a' b' c',d4)) (some (y,d))):=by
  have tt:=Av (Dk (neg:=false) (Cg (Hi (n:=49) hx (by decide) (ρ:=R6) rfl) (g:=bC (.int 8)) (j:=8) (e:=om) rfl (by decide)) (g:=bC (.int 3)) (j:=3) (e:=om) rfl);rw [FV] at tt;cases hd:decide (xs.getD 49 0 % 8=3) with
  | false=>rw [hd] at tt;exact ⟨_,.str x,om,.inl ⟨x,rfl,ox⟩,(AK tt).trans rfl⟩
  | true=>
   rw [hd] at tt;let L:List PV:=[.non,.int 7,.lst [.lst [.int 1]],.tup [.str "1"],.bl true,.emp]
   have e1:∃ d,NT R6=.ok (.lst L,d,R6):=⟨_,rfl⟩
   obtain ⟨d,e1⟩:=e1;have m0:=Fi (xs.getD 50 0) (show (6:Int)≠0 by decide);have m1:=FY (xs.getD 50 0) (show (0:Int) < 6 by decide);have em:=Cg (Hi (n:=50) hx (by decide) (ρ:=R6) rfl) (g:=bC (.int 6)) (j:=6) (e:=om) rfl (by decide);have hn:(xs.getD 50 0 % 6).toNat < L.length:=by show _ < 6;omega
   have e2:Ab Ah NT (Ab Az (Ab Ah (Aa 2) (bC (.int 50))) (bC (.int 6))) R6=.ok (L[(xs.getD 50 0 % 6).toNat],dv L[(xs.getD 50 0 % 6).toNat],R6):=by
    refine CG e1 em ?_;show (Bk L (xs.getD 50 0 % 6)).map (λ z=>(z,dv z))=_;rw [CK m0 (Cm hn)];rfl
   have nt:∀ y∈L,Nt y:=λ y hy=>by
    simp only [L,jb2,Lu,or_false] at hy;rcases hy with rfl | rfl | rfl | rfl | rfl | rfl <;> exact ⟨rfl,λ _ _ _=>rfl⟩
   have th:Th L[(xs.getD 50 0 % 6).toNat]:=.inr (nt _ (EN hn));generalize L[(xs.getD 50 0 % 6).toNat]=y at e2 th;rcases HW (d:=dv y) (vs:=[2]) (ρ:=R6) with cl | cl
   ·exact ⟨d2,y,dv y,th,(A4 tt).trans (AB e2 (show 5 < 9 by decide) (by rw [cl];rfl))⟩
   ·exact ⟨0,y,dv y,th,(A4 tt).trans (AB e2 (show 5 < 9 by decide) (by rw [cl];rfl))⟩
 obtain ⟨e2',y,d5,th,v6⟩:=v6;obtain ⟨t2,t3,t5,t6,t7,t8,v7⟩:=zZ (s0:=some (.scr ns,om)) (s1:=some (.int (k:Int),om)) (d2:=e2') (d3:=d3) (s4:=some (bx a' b' c',d4)) (d5:=d5) (s6:=s6) (s7:=s7) (s8:=s8) hx ha hb (by omega:1<=c) th;exact ⟨_,_,_,_,_,_,_,(A2 v0).trans ((A2 v1).trans ((A2 v2).trans ((A2 v3).trans ((A2 v4).trans ((A2 v5).trans ((A2 v6).trans v7))))))⟩
def law_true:∀ ns:List Int,ns.length<=63->∃ d z,F24 [.scr ns]=.ok (.bl true,d,z):=by
 intro ns hns;let R (s1 s2 s3 s4 s5 s6 s7 s8:QQ.Slot):Ag:=[some (.scr ns,om),s1,s2,s3,s4,s5,s6,s7,s8]
 have hF:F24=A0 false 1 8 NP:=rfl;rw [hF,ZA];let R0:Ag:=R none none none none none none none none;let N:Int:=ns.length;have hm:∃ m:Nat,m<=20/\(Ad (Am Gr (Ad (bC (.int 1)) (Ad (Am E5 (Ad (Am AO (Ad (Aa 0) (Ac))) (Ad (bC (.int 20)) (Ac)))) (Ac)))) (Ac)) R0=.ok ([(.int (m:Int),om)],R0):=by
  refine ⟨(if (if (20:Int) < N then 20 else N) > 1 then (if (20:Int) < N then 20 else N) else 1).toNat,?_,?_⟩
  ·split <;> split <;> omega
  ·have e:((((if (if (20:Int) < N then 20 else N) > 1 then (if (20:Int) < N then 20 else N) else 1).toNat:Nat)):Int)=(if (if (20:Int) < N then 20 else N) > 1 then (if (20:Int) < N then 20 else N) else 1):=by
    split <;> split <;> omega
   rw [e];rfl
 obtain ⟨m,hm15,em⟩:=hm;obtain ⟨ρ1,l1,r1,r2,r3,r4,r5,r6,r7,r8,rfl⟩:=Mu (i:=1) (body:=LK) (en:=Bo) (ρ:=R0) (lo:=0) (hi:=(m:Int)) (λ _ ρ=>∃ s1 s2 s3 s4 s5 s6 s7 s8,ρ=R s1 s2 s3 s4 s5 s6 s7 s8) em (Fq (by omega) (by omega)) ⟨_,_,_,_,_,_,_,_,rfl⟩ (by
  rintro k ρ hk ⟨s1,s2,s3,s4,s5,s6,s7,s8,rfl⟩;obtain ⟨t2,t3,t4,t5,t6,t7,t8,e⟩:=XT (ns:=ns) (k:=k) (s2:=s2) (s3:=s3) (s4:=s4) (s5:=s5) (s6:=s6) (s7:=s7) (s8:=s8);refine ⟨show 1 < 9 by decide,_,?_,some (.int (k:Int),om),t2,t3,t4,t5,t6,t7,t8,rfl⟩;rw [JH];exact e)
 exact ⟨_,_,BG rfl ((A2 l1).trans rfl)⟩
open PySem PySem.Spec PyProof.Rows L2 QQ
section
variable {P:A7}{w:A6}{K:Frag}{mg:Str->Option Af}
def c0:FnScope S0.N ["thing"] (AD t0):={}
def c1:FnScope S1.N ["thing"] (AD t1):={}
def c2:FnScope S2.N ["box"] (AD t2):={}
def c3:FnScope S3.N ["thing","columns","height"] (AD t3):={}
def c4:FnScope S4.N ["numbers"] (AD t4):={}
def c5:FnScope S5.N ["table","j"] (AD t5):={}
def c6:FnScope S6.N ["box","thing"] (AD t6):={}
def c7:FnScope S7.N ["text","most_figures"] (AD t7):={}
def c8:FnScope S8.N ["text","parting"] (AD t8):={}
def c9:FnScope S9.N ["thing"] (AD t9):={}
def kL:FnScope S10.N ["box","text"] (AD MV):={}
def kK:FnScope S11.N ["script","k"] (AD MU):={}
def kJ:FnScope S12.N ["cell","many"] (AD MT):={}
def kI:FnScope S13.N ["xs"] (AD MR):={}
def kH:FnScope S14.N ["box","xs"] (AD MQ):={}
def NN:FnScope S15.N ["found","due"] (AD E2):={}
def kG:FnScope S16.N ["pile"] (AD MP):={}
def kF:FnScope S17.N ["box","pile"] (AD MN):={}
def kE:FnScope S18.N ["word"] (AD MM):={}
def kD:FnScope S19.N ["text","xs"] (AD ML):={}
def kC:FnScope S20.N ["number"] (AD MK):={}
def kB:FnScope S21.N ["box","text"] (AD MJ):={}
def kA:FnScope S22.N ["box","text"] (AD MI):={}
def k9:FnScope S23.N ["box","text"] (AD MH):={}
def k8:FnScope S24.N ["script"] (AD KO):={}
def all_ok {fa:Addr} (G:Given dfs [0,1,2,9,50,51] K mg) (hm:mg "law" = some (.ref fa)):
  ∃ fd:CU,(∀ (s:Aj) (u:Af),BindsTo s fd ⟨[u],[]⟩ [("script",u)])/\∀ base:Heap,FnOk P w K mg base (AL P w K) 7 fa fd ["script"] (Br K false 1 F24):=by
 have hb:=G.bn;have gx:=G.gx;obtain ⟨a0,d0,m0,f0⟩:=G.df 0 _ _ rfl;obtain ⟨a1,d1,m1,f1⟩:=G.df 1 _ _ rfl;obtain ⟨a2,d2,m2,f2⟩:=G.df 2 _ _ rfl;obtain ⟨a3,d3,m3,f3⟩:=G.df 3 _ _ rfl;obtain ⟨a4,d4,m4,f4⟩:=G.df 4 _ _ rfl;obtain ⟨a5,d5,m5,f5⟩:=G.df 5 _ _ rfl;obtain ⟨a6,d6,m6,f6⟩:=G.df 6 _ _ rfl;obtain ⟨a7,d7,m7,f7⟩:=G.df 7 _ _ rfl;obtain ⟨a8,d8,m8,f8⟩:=G.df 8 _ _ rfl;obtain ⟨a9,d9,m9,f9⟩:=G.df 9 _ _ rfl;obtain ⟨a10,d10,m10,f10⟩:=G.df 10 _ _ rfl;obtain ⟨a11,d11,m11,f11⟩:=G.df 11 _ _ rfl;obtain ⟨a12,d12,m12,f12⟩:=G.df 12 _ _ rfl;obtain ⟨a13,d13,m13,f13⟩:=G.df 13 _ _ rfl;obtain ⟨a14,d14,m14,f14⟩:=G.df 14 _ _ rfl;obtain ⟨a15,d15,m15,f15⟩:=G.df 15 _ _ rfl;obtain ⟨a16,d16,m16,f16⟩:=G.df 16 _ _ rfl;obtain ⟨a17,d17,m17,f17⟩:=G.df 17 _ _ rfl;obtain ⟨a18,d18,m18,f18⟩:=G.df 18 _ _ rfl;obtain ⟨a19,d19,m19,f19⟩:=G.df 19 _ _ rfl;obtain ⟨a20,d20,m20,f20⟩:=G.df 20 _ _ rfl;obtain ⟨a21,d21,m21,f21⟩:=G.df 21 _ _ rfl;obtain ⟨a22,d22,m22,f22⟩:=G.df 22 _ _ rfl;obtain ⟨a23,d23,m23,f23⟩:=G.df 23 _ _ rfl;obtain ⟨a24,d24,m24,f24⟩:=G.df 24 _ _ rfl;cases hm.symm.trans m24;have B0:=f0.binds (ps:=["thing"]) λ _ _ _ _ _ _ us hl=>by obtain ⟨_,rfl⟩:=CY hl;rfl
 have B1:=f1.binds (ps:=["thing"]) λ _ _ _ _ _ _ us hl=>by obtain ⟨_,rfl⟩:=CY hl;rfl
 have B2:=f2.binds (ps:=["box"]) λ _ _ _ _ _ _ us hl=>by obtain ⟨_,rfl⟩:=CY hl;rfl
 have B3:=f3.binds (ps:=["thing","columns","height"]) λ _ _ _ _ _ _ us hl=>by obtain ⟨_,_,_,rfl⟩:=Rf hl;rfl
 have B4:=f4.binds (ps:=["numbers"]) λ _ _ _ _ _ _ us hl=>by obtain ⟨_,rfl⟩:=CY hl;rfl
 have B5:=f5.binds (ps:=["table","j"]) λ _ _ _ _ _ _ us hl=>by obtain ⟨_,_,rfl⟩:=BL hl;rfl
 have B6:=f6.binds (ps:=["box","thing"]) λ _ _ _ _ _ _ us hl=>by obtain ⟨_,_,rfl⟩:=BL hl;rfl
 have B7:=f7.binds (ps:=["text","most_figures"]) λ _ _ _ _ _ _ us hl=>by obtain ⟨_,_,rfl⟩:=BL hl;rfl
 have B8:=f8.binds (ps:=["text","parting"]) λ _ _ _ _ _ _ us hl=>by obtain ⟨_,_,rfl⟩:=BL hl;rfl
 have B9:=f9.binds (ps:=["thing"]) λ _ _ _ _ _ _ us hl=>by obtain ⟨_,rfl⟩:=CY hl;rfl
 have B10:=f10.binds (ps:=["box","text"]) λ _ _ _ _ _ _ us hl=>by obtain ⟨_,_,rfl⟩:=BL hl;rfl
 have B11:=f11.binds (ps:=["script","k"]) λ _ _ _ _ _ _ us hl=>by obtain ⟨_,_,rfl⟩:=BL hl;rfl
 have B12:=f12.binds (ps:=["cell","many"]) λ _ _ _ _ _ _ us hl=>by obtain ⟨_,_,rfl⟩:=BL hl;rfl
 have B13:=f13.binds (ps:=["xs"]) λ _ _ _ _ _ _ us hl=>by obtain ⟨_,rfl⟩:=CY hl;rfl
 have B14:=f14.binds (ps:=["box","xs"]) λ _ _ _ _ _ _ us hl=>by obtain ⟨_,_,rfl⟩:=BL hl;rfl
 have B15:=f15.binds (ps:=["found","due"]) λ _ _ _ _ _ _ us hl=>by obtain ⟨_,_,rfl⟩:=BL hl;rfl
 have B16:=f16.binds (ps:=["pile"]) λ _ _ _ _ _ _ us hl=>by obtain ⟨_,rfl⟩:=CY hl;rfl
 have B17:=f17.binds (ps:=["box","pile"]) λ _ _ _ _ _ _ us hl=>by obtain ⟨_,_,rfl⟩:=BL hl;rfl
 have B18:=f18.binds (ps:=["word"]) λ _ _ _ _ _ _ us hl=>by obtain ⟨_,rfl⟩:=CY hl;rfl
 have B19:=f19.binds (ps:=["text","xs"]) λ _ _ _ _ _ _ us hl=>by obtain ⟨_,_,rfl⟩:=BL hl;rfl
 have B20:=f20.binds (ps:=["number"]) λ _ _ _ _ _ _ us hl=>by obtain ⟨_,rfl⟩:=CY hl;rfl
 have B21:=f21.binds (ps:=["box","text"]) λ _ _ _ _ _ _ us hl=>by obtain ⟨_,_,rfl⟩:=BL hl;rfl
 have B22:=f22.binds (ps:=["box","text"]) λ _ _ _ _ _ _ us hl=>by obtain ⟨_,_,rfl⟩:=BL hl;rfl
 have B23:=f23.binds (ps:=["box","text"]) λ _ _ _ _ _ _ us hl=>by obtain ⟨_,_,rfl⟩:=BL hl;rfl
 refine ⟨d24,?_,λ base=>?_⟩
 ·obtain ⟨_,_,_,_,_,_,_,_,_,rfl,_,_⟩:=f24.ex;exact λ s v=>.of_eq rfl
 have o0:FnOk P w K mg base (AL P w K) 1 a0 d0 ["thing"] (Br K false 1 F0):=Ce S0 f0 c0 gx (Ca hb) h0;have o1:FnOk P w K mg base (AL P w K) 2 a1 d1 ["thing"] (Br K false 1 F1):=Ce S1 f1 c1 gx (DO (Ca hb) m0 f0 B0 o0) h1;have o2:FnOk P w K mg base (AL P w K) 3 a2 d2 ["box"] (Br K false 1 F2):=Ce S2 f2 c2 gx (DO (Ca hb) m1 f1 B1 o1) h2;have o3:FnOk P w K mg base (AL P w K) 2 a3 d3 ["thing","columns","height"] (Br K false 3 F3):=Ce S3 f3 c3 gx (DO (Ca hb) m0 f0 B0 o0) h3;have o4:FnOk P w K mg base (AL P w K) 1 a4 d4 ["numbers"] (Br K false 1 F4):=Ce S4 f4 c4 gx (Ca hb) h4;have o5:FnOk P w K mg base (AL P w K) 1 a5 d5 ["table","j"] (Br K false 2 F5):=Ce S5 f5 c5 gx (Ca hb) h5;have o6:FnOk P w K mg base (AL P w K) 4 a6 d6 ["box","thing"] (Br K false 2 F6):=Ce S6 f6 c6 gx (DO (DO (DO (DO (Ca hb) m5 f5 B5 o5) m4 f4 B4 o4) m3 f3 B3 o3) m2 f2 B2 o2) h6;have o7:FnOk P w K mg base (AL P w K) 1 a7 d7 ["text","most_figures"] (Br K false 2 F7):=Ce S7 f7 c7 gx (Ca hb) h7;have o8:FnOk P w K mg base (AL P w K) 2 a8 d8 ["text","parting"] (Br K false 2 F8):=Ce S8 f8 c8 gx (DO (Ca hb) m7 f7 B7 o7) h8;have o9:FnOk P w K mg base (AL P w K) 1 a9 d9 ["thing"] (Br K false 1 F9):=Ce S9 f9 c9 gx (Ca hb) h9;have o10:FnOk P w K mg base (AL P w K) 5 a10 d10 ["box","text"] (Br K false 2 El):=Ce S10 f10 kL gx (DO (DO (DO (DO (Ca hb) m9 f9 B9 o9) m8 f8 B8 o8) m6 f6 B6 o6) m2 f2 B2 o2) NL;have o11:FnOk P w K mg base (AL P w K) 1 a11 d11 ["script","k"] (Br K false 2 NX):=Ce S11 f11 kK gx (Ca hb) ky;have o12:FnOk P w K mg base (AL P w K) 1 a12 d12 ["cell","many"] (Br K false 2 NW):=Ce S12 f12 kJ gx (Ca hb) ku;have o13:FnOk P w K mg base (AL P w K) 1 a13 d13 ["xs"] (Br K false 1 NV):=Ce S13 f13 kI gx (Ca hb) kq;have o14:FnOk P w K mg base (AL P w K) 1 a14 d14 ["box","xs"] (Br K false 2 LF):=Ce S14 f14 kH gx (Ca hb) ko;have o15r0:FnOk P w K mg base (AL P w K) 0 a15 d15 ["found","due"] (Br K false 2 Qf):=Xz rfl;have o15r1:FnOk P w K mg base (AL P w K) 1 a15 d15 ["found","due"] (Br K false 2 KZ):=Ce Qg f15 NN gx (DK (Ca hb) (by decide +kernel) (λ _ _=>rfl) m15 f15 B15 rfl o15r0) X2;have o15r2:FnOk P w K mg base (AL P w K) 2 a15 d15 ["found","due"] (Br K false 2 La):=Ce Qh f15 NN gx (DK (Ca hb) (by decide +kernel) DT m15 f15 B15 rfl o15r1) X3;have o15r3:FnOk P w K mg base (AL P w K) 3 a15 d15 ["found","due"] (Br K false 2 Lb):=Ce Qi f15 NN gx (DK (Ca hb) (by decide +kernel) DT m15 f15 B15 rfl o15r2) X4;have o15r4:FnOk P w K mg base (AL P w K) 4 a15 d15 ["found","due"] (Br K false 2 MZ):=Ce Na f15 NN gx (DK (Ca hb) (by decide +kernel) DT m15 f15 B15 rfl o15r3) X5;have o15:=o15r4;have o16:FnOk P w K mg base (AL P w K) 1 a16 d16 ["pile"] (Br K false 1 LD):=Ce S16 f16 kG gx (Ca hb) kn;have o17:FnOk P w K mg base (AL P w K) 1 a17 d17 ["box","pile"] (Br K false 2 IZ):=Ce S17 f17 kF gx (Ca hb) km;have o18:FnOk P w K mg base (AL P w K) 1 a18 d18 ["word"] (Br K false 1 IY):=Ce S18 f18 kE gx (Ca hb) kl;have o19:FnOk P w K mg base (AL P w K) 1 a19 d19 ["text","xs"] (Br K false 2 JQ):=Ce S19 f19 kD gx (Ca hb) kj;have o20:FnOk P w K mg base (AL P w K) 1 a20 d20 ["number"] (Br K false 1 JP):=Ce S20 f20 kC gx (Ca hb) ki;have o21:FnOk P w K mg base (AL P w K) 2 a21 d21 ["box","text"] (Br K false 2 Gd):=Ce S21 f21 kB gx (DO (DO (Ca hb) m18 f18 B18 o18) m17 f17 B17 o17) RH;have o22:FnOk P w K mg base (AL P w K) 6 a22 d22 ["box","text"] (Br K false 2 GD):=Ce S22 f22 kA gx (DO (Ca hb) m10 f10 B10 o10) kh;have o23:FnOk P w K mg base (AL P w K) 6 a23 d23 ["box","text"] (Br K false 2 Ht):=Ce S23 f23 k9 gx (DO (Ca hb) m10 f10 B10 o10) kg;exact Ce S24 f24 k8 gx (DK (DK (DK (DK (DK (DK (DK (DK (DK (DK (DK (Ca hb) (by decide +kernel) DT m23 f23 B23 rfl (o23.mono (by decide))) (by decide +kernel) DT m22 f22 B22 rfl (o22.mono (by decide))) (by decide +kernel) DT m21 f21 B21 rfl (o21.mono (by decide))) (by decide +kernel) DT m20 f20 B20 rfl (o20.mono (by decide))) (by decide +kernel) DT m19 f19 B19 rfl (o19.mono (by decide))) (by decide +kernel) DT m16 f16 B16 rfl (o16.mono (by decide))) (by decide +kernel) DT m15 f15 B15 rfl (o15.mono (by decide))) (by decide +kernel) DT m14 f14 B14 rfl (o14.mono (by decide))) (by decide +kernel) DT m13 f13 B13 rfl (o13.mono (by decide))) (by decide +kernel) DT m12 f12 B12 rfl (o12.mono (by decide))) (by decide +kernel) DT m11 f11 B11 rfl (o11.mono (by decide))) kf
end
end K55
open PySem PySem.W PyProof.Rows
set_option maxRecDepth 100000 in
set_option maxHeartbeats 0 in
theorem PySem.Challenge.cw_cornerpiles_k55_texts_of_no_pile_holds : PySem.Challenge.rw_cornerpiles_k55_texts_of_no_pile.Holds := by
 refine QQ.holds_by (l:=PySem.Challenge.rw_cornerpiles_k55_texts_of_no_pile) (q:=K55.view) (loose:=K55.loose) (N:=20000) (k:=7) (n:=63) (ds:=K55.dfs) (xc:=[0,1,2,9,50,51]) (F:=K55.F24) (x := "script") ?said rfl rfl (λ _=>rfl) K55.run (by rfl) (by rfl) (by rfl) (by rfl) (by decide +kernel) ⟨rfl,rfl,rfl,rfl,rfl,by decide +kernel⟩ ?hw rfl (by decide) rfl ⟨rfl,by decide,by decide,rfl⟩ (λ _ _ _ _ G hm=>K55.all_ok G hm) (λ _ _ _ ns hl hO hS=>QQ.sp_yes hO hS (K55.law_true ns hl))
 case said=>decide +kernel
 case hw=>w_witness2
