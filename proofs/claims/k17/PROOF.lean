import PyProof.Rows.All
import Wide.All
import OpenK.AllK
import Wide.FinOn
import Lean
import PyProof.EqAt
import PyProof.EqKinds
import PyProof.TupleCall
import PySem.Challenge.RW_cornerpiles_k17_ways_moved_apart
open PySem renaming Value->Ae,Shared->Ai,sizeLine->Am,wpAny_bind->Ax,wpAny_pure->AE,starEach->A6,tupleKeyHash->Bp,Program->A0,wpAny->An,model->Ap,World->Ay,IsTupleKey->C4,Around->AU,compareOp->Cv,cellsFrom->CK,wpAny_truthy_bool->FW,mainGlobals->DT,FuncData->CJ,assignEach->DS,NameKind->CS,wpAny_mono->Ef,Scope->Bc,wpAny_passesOwn->HR,wpAny_holding->Hh,binaryOp->DD,SetTable->DC,mem_of_lookup->Kl,wpAny_setState_of->Kk,wpAny_newObj_type->Kj,wpAny_loadPart_at->Ki,sysModules->FU,cLine->BU,bootBuiltins->HM,behindInMarks->Je,wpAny_execs_nil->Kh,sliceBounds->HK,backTo->Dp,carriedByValue->Kf,ofAClassStatement->Mb,foldedSetIterable->Ma,intItems->FT,PyData->DR,letOwnedTupleGo->LZ,codeAny_mono->Ke,codeAny_builtin->LY,Operator->Hf,codeAny_call_builtin->O6,codeAny->FR,wpAny_Call_Name_kw->O3,tupleKind_room_in1->O2,setSearchFrom->LV,PassesOwn->Jc,ExceptHandler->LU,wpAny_pyIter_list->O0,typeIs_str->Kd,relabel->He,holding->Hd,wpAny_forIn_list->Ov,noFill_tuple_add->Ou,tupleKind->Ka,pushCells_keeps->Ot,numAt->Ee,importedModules->Oq,hashByValue->LP,callerA->HJ,assign->FP,CmpOp->Ed,newFunctionEnv->Om
open PySem.Heap renaming get?_push_of_some->BZ,lt_size->AJ,get?_push_size->Df,size_push->FV,SameBut->HL,FlyingW->LQ
open PySem.Builtin.Str renaming strSliceIndices->FX
open PySem.W renaming findIn->DF,kia_one->Eh,kitOne->Eg,mroIn->Fq,boot_heap->DE,keepIn->HN,fnOf->Jd,looks_findIn->O5,kitAny->LX,hideAll_get->O4,methodObj->Oz,kitx_none->Oy,boot_heap->Ox,instObj->Oo,lookIn->Ol,codeIn->Oj
open Ne renaming symm->BG
open PyProof.Rows renaming callWith_type1->Jg,AllBare->E4,subscriptTail->LW,slot_tuple_getitem->RL,envOfC->FQ
open PySem.PyData renaming depthAll->HQ,canLay0->Jf,eqv->Hg,canLayAll0->Ow,strOk->LR
open PySem.Txt renaming slice->E5
open PySem.Builtin.Slice renaming slicePlaces->Md,sliceAdjust->OC,sliceApplied->RJ
open False renaming elim->Fp
open PySem.Builtin.Tuple renaming tupleExact->Mc
open PySem.SeqAt.EqAt renaming same->Kg,of_refs->O1
open PySem.F renaming args_tuple_add_2->OB,entry_tuple_add->O9,slot_tuple_add->O7
open PySem.Builtin.List renaming listTooLong->OA
open PyProof.Rows.F renaming plain_set_update_loop->O8
open PySem.Obj renaming putSet->Kc,mapSeq->Kb
open PySem.SeqAt renaming RcNeAt->LS
open PySem.Calls renaming Name_function_global->RK
open List renaming mem_cons_of_mem->AQ,length_map->A5,length_append->AV,getElem?_eq_some_iff->ja3,getD_eq_getElem?_getD->Ca,mem_cons_self->Bf,mem_singleton->ja6,mem_append_right->BI,replicate->AK,length_cons->Ba,mem_cons->jb2,mem_append_left->BM,getElem?_set_ne->BL,getElem?_append_left->CF,getElem?_eq_getElem->CD,getElem?_set_self->CC,size_toArray->Ci,getElem?_map->Cs,mem_append->jc2,map_cons->BQ,getElem?_append_right->Ep,range->Bh,length_take->Dh,length_drop->D4,map_append->Du,mem_range->jd5,all_eq_true->jd6,length_set->DI,replicate_succ->EX,lookup_cons->Eo,length_singleton->Gn,not_mem_nil->EA,length_range->EW,mem_of_getElem?->Gk,mem_map->je6,getElem?_replicate->Iy,append_assoc->Gj,count_append->Gi,getElem?_cons_succ->Jv,filterMap_cons->Iu,length_replicate->Ju,getElem?_take_of_lt->KQ,getElem_mem->Hj,flatten_cons->Iq,mem_filterMap->jg8,all_cons->Gf,getElem?_eq_none->KP,drop_eq_getElem_cons->Nc,append_nil->Io,nodup_cons->jh3,find?_cons->Im,count_cons->Il,getElem_of_mem->KO,length_reverse->KN,take_length->Js,reverse_cons->KJ,count_replicate->Na,mem_of_mem_take->MZ,getElem?_eq_none_iff->ji5,getElem?_range->MY,map_map->Ik,filterMap_cons_some->Qa,mem_filter->ji9,nil_append->KH,findIdx?_eq_some_iff_getElem->jj2,filter_cons_of_neg->PZ,filter_cons_of_pos->PY,drop_eq_nil_of_le->PX,take_of_length_le->PR,take_add_one->MW,eq_nil_iff_forall_not_mem->jk4,mem_of_mem_drop->PQ,map_drop->KC,range'->Jo,getElem?_concat_length->Vl,range_succ->MU,map_nil->KA,all_nil->K9,findIdx?_cons->PN,nodup_nil->MT,take_zero->MR,filterMap_cons_none->Vk,nodup_append->PL,length->K8,any_cons->MQ,getElem?_cons_zero->Vj,length_eq_zero_iff->jm5,cons_append->PH,range_succ_eq_map->Vi,length_eq_one_iff->jn0,of_mem_zip->PF,foldl_cons->PD,drop_zero->P8,take_succ->P7,take_succ_cons->Vg,replicate_zero->Vf,filter_eq_self->jo5,reverse_append->Vd,set_cons_zero->Vb,set_cons_succ->Va,map_take->P5,foldl->MJ,mem_range'_1->jp8,flatten_nil->US,range'_succ->UQ,mem_reverse->jq7,forIn_cons->UO,length_nil->UN,filterMap->UK,drop_nil->UJ,take_nil->UI,set_nil->UD,getD->P1
open Option renaming map_eq_some_iff->jb0,map_some->Gh,isSome_iff_exists->jh4,isSome_map->PM,isSome_some->UZ,map->MH,getD_none->UW
open Bool renaming and_eq_true->Be,false_ne_true->Di,false_eq_true->Fw,or_eq_true->EV,eq_iff_iff->KI,and_true->Jr,not_eq_true'->MX,false_xor->KG,not_true->MP,and_eq_true_iff->jn7,false_or->P6,or_true->UC
open Nat renaming le_refl->A7,lt_of_lt_of_le->Bv,ne_of_lt->Bz,le_trans->Cg,zero_le->CV,lt_succ_self->Fv,lt_irrefl->E9,le_of_succ_le->Hk,le_of_lt->E8,lt_succ_of_lt->Ip,ne_of_gt->Ft,le_add_right->Jt,lt_of_succ_lt_succ->Nb,zero_add->Jq,succ_pos->Jp,lt_succ_iff->jk7,not_lt_zero->MV,min_le_right->PJ,sub_self->MN,le_succ->ML,add_sub_cancel'->Ve,mod_lt->MG,lt_succ_of_le->UX,add_zero->P4,le_of_not_lt->UU,succ_ne_zero->UT,succ_le_succ->UR,min_le_left->UM,min_eq_left->UL,succ_mul->UG,mul_comm->UE,not_lt->js2
open Array renaming length_toList->DU,getElem?_eq_getElem->Gp,getD_eq_getD_getElem?->Hm,getElem?_toList->Iv,getElem?_eq_none->PU,toList_eq_nil_iff->jm2,toList_filterMap->Vh,replicate->P9,append_assoc->Vc,forIn_toList->UY,all_toList->UP,toList->UH
open Int renaming emod_lt_of_pos->Hl,emod_nonneg->Gg,toNat_natCast->Ir,natCast_mul->PB,zero_add->MM,le_refl->MK,le_trans->UB,not_lt->js3
set_option Elab.async false
set_option linter.all false
set_option maxRecDepth 100000
set_option autoImplicit false
set_option maxHeartbeats 2000000
namespace L2
open PySem PySem.Spec PyProof.Rows
def JU (s:Stmt):Arguments:=match s with
 | .FunctionDef _ a _ _ _ _ _ _ _ _=>a
 | _=>{ posonlyargs:=[],args:=[],vararg:=none,kwonlyargs:=[],kw_defaults:=[],kwarg:=none,defaults:=[] }
def BP (s:Stmt):List Stmt:=match s with
 | .FunctionDef _ _ b _ _ _ _ _ _ _=>b
 | _=>[]
def Bo (s:Stmt):Bc:=match s with
 | .FunctionDef _ _ _ _ _ _ sc _ _ _=>sc
 | _=>{ kind:=.function,names:=[],isGenerator:=false,isCoroutine:=false }
end L2
namespace QQ
open PySem PySem.Spec PySem.W PySem.Calls PyProof.Rows L2
abbrev Frag:=PySem.W.Frag
def XN:List Str:=["PileError","NoBox","NoPile","NoStairs","NoWays","NoRoad","NoNumber","NoPlace","TooMany","NoText","NoName","NoRow"]
def Cb (K:Frag) (c:Nat):Option Addr:=match XN[c]? with
 | some x=>(match PySem.W.nsIn K DT x with
  | some (some (.ref C))=>some C
  | _=>none)
 | none=>none
def bmV:List Ae:=[.type "ValueError",.type "Exception",.type "BaseException",.type "object"]
def Ge (K:Frag) (C:Addr):List Ae:=match K.lookup C with
 | some ⟨_,_,.cls cd,_⟩=>cd.mro
 | _=>[]
def Bk (c d:Nat):Bool:=c == d || d == 0
def DB (K:Frag):Bool:=(Bh 12).all λ c=>match Cb K c with
 | some C=>PySem.W.excIn K C bmV "ValueError.__new__" && (Bh 12).all λ d=>(match Cb K d with
  | some D=>(Ge K C).contains (.ref D) == Bk c d
  | none=>true)
 | none=>true
def IP (K:Frag) (C:Addr):Bool:=(PySem.W.clsIn K C).isSome && Fq K C (.type "object") == some true && Fq K C (.type "BaseException") == some true && DF K (.ref C) "__class__" == some (some (.builtin "object.__class__")) &&
 DF K (.ref C) "__getattribute__" == some (some (.builtin "BaseException.__getattribute__")) && DF K (.ref C) "__getattr__" == some none
def BK (K:Frag):Bool:=Eg K (.type "NoneType") (.type "ValueError") == some false && (Bh 12).all λ c=>match Cb K c with
 | some C=>IP K C && Eg K (.type "NoneType") (.ref C) == some false && Eg K (.ref C) (.type "ValueError") == some true && (Bh 12).all λ d=>(match Cb K d with
  | some D=>Eg K (.ref C) (.ref D) == some (Bk c d)
  | none=>true)
 | none=>true
def zzy:List Str:=["len","isinstance","all","max","min","tuple","list","range","int","bool","str","dict","sum","enumerate","zip","reversed","set","ValueError","sorted","abs"]
def IQ (tb:String->Option Builtin) (p:A0) (w:Ay) (n₀:Nat) (ann:Option Ae):Nat->SharedT->Thread->Option SharedT
 | 0,_,_=>none
 | n + 1,s,t=>match through t with
  | true=>some s
  | false=>match stepOk n₀ ann t with
   | false=>none
   | true=>match stepT (denote tb) p w s t with
    | some (s',t')=>IQ tb p w n₀ ann n s' t'
    | none=>none
def UA:List Obj->Nat->BT->BT
 | [],_,t=>t
 | o::r,n,t=>UA r (n + 1) (t.ins n o)
noncomputable def bootT (P:Params):BT:=UA (DE P).objs.toList 0 .nil
noncomputable def bootS (P:Params) (os:OsState):SharedT:=⟨bootT P,(DE P).objs.size,(DE P).life,#[],boot_drawn,boot_toks,os⟩
def NT {α:Type} (p q:A0) (loose:List Str) (Xt:Ai->Bool) (Yf:Ai->α) (H:Heap) (s:Ai):=
 ((staticsOk (Oq p.main.body) H s.heap && namesBound p s.heap && gensDone s && laidKept H s.heap),openSeen q loose (Oq p.main.body) Xt true s,Yf s)
def K7 (h:Heap):Frag:=(Bh h.objs.size).filterMap λ a=>(h.get? a).map λ o=>(a,o)
structure DefSeen where
 name:Str
 qual:Str
 params:Arguments
 body:FuncBody
 scope:Bc
 globals:Addr
 closure:List (Str×Addr)
 defaults:Ae
 builtins:Addr
 code:Bool
def NQ (K:Frag) (x:Str):Option DefSeen:=match nsIn K DT x with
 | some (some (.ref g))=>(match K.lookup g with
  | some ⟨_,_,.func fd,_⟩=>some ⟨fd.name,fd.qualname,fd.params,fd.body,fd.scope,fd.globals,fd.closure,fd.defaults,fd.builtins,codeIn K fd.code x⟩
  | _=>none)
 | _=>none
def Pf (x:Str) (st:Stmt):DefSeen:=⟨x,x,JU st,.stmts (BP st),Bo st,mainNs,[],.none,0,true⟩
def JW (ds:List (Str×Stmt)) (xc:List Nat) (K:Frag):List (Option DefSeen)×List (Option (Option Ae))×Bool:=
 (ds.map λ d=>NQ K d.1,zzy.map λ x=>nsIn K DT x,xc.isEmpty || (DB K && BK K && xc.all λ c=>(Cb K c).isSome && match XN[c]? with
  | some x=>!(x == ("__debug__" : Str))
  | none=>false))
def JK (ds:List (Str×Stmt)):List (Option DefSeen)×List (Option (Option Ae))×Bool:=(ds.map λ d=>some (Pf d.1 d.2),zzy.map λ _=>some none,true)
end QQ
namespace K17
open PySem PySem.Spec PyProof.Rows L2 QQ
def top (i:Nat):Stmt:=PySem.Challenge.pw_cornerpiles_k17_ways_moved_apart.main.body.getD i (.Pass ⟨0,0,0,0⟩)
abbrev t0:Stmt:=top 14
abbrev t1:Stmt:=top 15
abbrev t2:Stmt:=top 16
abbrev t3:Stmt:=top 18
abbrev t4:Stmt:=top 19
abbrev t5:Stmt:=top 20
abbrev t6:Stmt:=top 21
abbrev t7:Stmt:=top 23
abbrev t8:Stmt:=top 24
abbrev t9:Stmt:=top 25
abbrev FZ:Stmt:=top 26
abbrev Mq:Stmt:=top 27
abbrev Mp:Stmt:=top 28
abbrev Mo:Stmt:=top 29
abbrev Mn:Stmt:=top 30
abbrev Mm:Stmt:=top 31
abbrev Ml:Stmt:=top 32
abbrev Mj:Stmt:=top 33
abbrev Mi:Stmt:=top 34
abbrev Mh:Stmt:=top 35
abbrev Mg:Stmt:=top 36
abbrev Kp:Stmt:=top 37
def dfs:List (Str×Stmt):=[(("is_whole_number" : Str),t0),(("is_box" : Str),t1),(("must_be_box" : Str),t2),(("is_way" : Str),t3),(("is_list_of_ways" : Str),t4),(("points_moved_apart" : Str),t5),(("never_touch" : Str),t6),(("_law_cell_at" : Str),t7),(("_law_stir" : Str),t8),(("_law_numbers" : Str),t9),(("_law_box" : Str),FZ),(("_law_pile" : Str),Mq),(("_law_stairs" : Str),Mp),(("_law_way" : Str),Mo),(("_law_bad_boxes" : Str),Mn),(("_law_drawn_way" : Str),Mm),(("_law_exchanged" : Str),Ml),(("_law_some_ways" : Str),Mj),(("_law_met" : Str),Mi),(("_law_kinds" : Str),Mh),(("_law_refused" : Str),Mg),(("law" : Str),Kp)]
def view:A0:={ PySem.Challenge.pw_cornerpiles_k17_ways_moved_apart with main:={ PySem.Challenge.pw_cornerpiles_k17_ways_moved_apart.main with body:=[Kp] } }
def loose:List Str:=(PySem.Challenge.pw_cornerpiles_k17_ways_moved_apart.main.scope.names.map λ x=>x.1).filter λ x=>!(x == ("law" : Str))
def run:∀ (w:PySem.World) (os:PySem.OsState),(IQ PySem.treeTable PySem.Challenge.rw_cornerpiles_k17_ways_moved_apart.prog w (Ox w.params).objs.size ((Ox w.params).nsMap DT "__annotations__") 20000 (bootS w.params os) (PySem.W.topStub PySem.Challenge.rw_cornerpiles_k17_ways_moved_apart.prog)).map (λ s=>NT PySem.Challenge.rw_cornerpiles_k17_ways_moved_apart.prog view loose (λ s=>PySem.W.xlAt view [] s && PySem.W.recOk (PySem.W.RowW.records PySem.Challenge.rw_cornerpiles_k17_ways_moved_apart.row.toRowW) s) (λ s=>JW dfs [0,1,2,3,4,5,6,7,8,9,10,11] (K7 s.heap)) (Ox w.params) s.abs)=some (true,PySem.W.openGood view loose,JK dfs):=λ w os=>by kernel_rfl
end K17
namespace L2
open PySem PySem.Spec PyProof.Rows
abbrev AG:=Sum Int Str
def Jk:AG->Ae->Bool
 | .inl k,v=>Value.isInt k v
 | .inr x,v=>Value.isStrOf x v
def Pz (w:Ay):AG->Int
 | .inl k=>hashInt k
 | .inr x=>hashStr w x
theorem FG:∀ {k:AG}{v:Ae},Jk k v=true->(∃ i t,k=Sum.inl i/\v=Value.int i t)\/(∃ x t,k=Sum.inr x/\v=Value.str x t)
 | .inl i,v,h=>by
  obtain ⟨t,e⟩:=Value.isInt_shape (k:=i) (v:=v) h;exact .inl ⟨i,t,rfl,e⟩
 | .inr x,v,h=>by
  obtain ⟨t,e⟩:=Value.isStrOf_shape (x:=x) (v:=v) h;exact .inr ⟨x,t,rfl,e⟩
def xt (i:Int) (t:Tok):Jk (.inl i) (.int i t)=true:=by simp [Jk,Value.isInt]
def xu (x:Str) (t:Tok):Jk (.inr x) (.str x t)=true:=by simp [Jk,Value.isStrOf]
def WD (a b:Int):decide ((Sum.inl a:AG)=Sum.inl b)=(a == b):=by
 by_cases e:a=b
 ·subst e;simp
 ·have h:¬ (Sum.inl a:AG)=Sum.inl b:=λ q=>e (Sum.inl.inj q);rw [decide_eq_false h];exact (beq_eq_false_iff_ne.mpr e).symm
def WI (a b:Str):decide ((Sum.inr a:AG)=Sum.inr b)=decide (a=b):=by
 by_cases e:a=b
 ·subst e;simp
 ·have h:¬ (Sum.inr a:AG)=Sum.inr b:=λ q=>e (Sum.inr.inj q);rw [decide_eq_false h,decide_eq_false e]
def WG (a:Int) (b:Str):decide ((Sum.inl a:AG)=Sum.inr b)=false:=decide_eq_false (λ q=>nomatch q)
def WH (a:Str) (b:Int):decide ((Sum.inr a:AG)=Sum.inl b)=false:=decide_eq_false (λ q=>nomatch q)
def Dm (prog:A0) (w:Ay):PySem.KeyKind prog w AG where
 is:=Jk
 hash:=Pz w
 inj:=λ v a b ha hb=>by
  rcases FG ha with ⟨i,t,rfl,rfl⟩ | ⟨x,t,rfl,rfl⟩
  ·rcases FG hb with ⟨j,u,rfl,e⟩ | ⟨y,u,rfl,e⟩
   ·injection e with e1 _;rw [e1]
   ·exact nomatch e
  ·rcases FG hb with ⟨j,u,rfl,e⟩ | ⟨y,u,rfl,e⟩
   ·exact nomatch e
   ·injection e with e1 _;rw [e1]
 byValue:=λ k v h=>by
  rcases FG h with ⟨i,t,rfl,rfl⟩ | ⟨x,t,rfl,rfl⟩ <;> rfl
 pyHash:=λ hv h=>by
  rcases FG hv with ⟨i,t,rfl,rfl⟩ | ⟨x,t,rfl,rfl⟩
  ·exact wpAny_pyHash_int h
  ·exact wpAny_pyHash_str h
 eqBool:=λ hu hv h=>by
  rcases FG hu with ⟨i,t,rfl,rfl⟩ | ⟨x,t,rfl,rfl⟩
  ·rcases FG hv with ⟨j,u,rfl,rfl⟩ | ⟨y,u,rfl,rfl⟩
   ·rw [WD] at h;exact wpAny_eqBool_int h
   ·rw [WG] at h;exact SeqAt.EqAt.int_str i t y u _ _ _ _ h
  ·rcases FG hv with ⟨j,u,rfl,rfl⟩ | ⟨y,u,rfl,rfl⟩
   ·rw [WH] at h;exact SeqAt.EqAt.str_int x t j u _ _ _ _ h
   ·rw [WI] at h;exact wpAny_eqBool_str h
 «strs»:=λ k x t v h=>by
  rcases FG h with ⟨i,u,rfl,e⟩ | ⟨y,u,rfl,e⟩
  ·exact nomatch e
  ·injection e with e1 _
   subst e1;cases v <;> rfl
def V5 (prog:A0) (w:Ay) (i:Int) (t:Tok):(Dm prog w).is (.inl i) (.int i t)=true:=xt i t
def V6 (prog:A0) (w:Ay) (x:Str) (t:Tok):(Dm prog w).is (.inr x) (.str x t)=true:=xu x t
inductive V where
 | non | bl (b:Bool) | int (i:Int) | str (x:Str) | byt (b:Array UInt8) | flt (b:UInt64) | ref (a:Addr) | ty (n:String)
 deriving DecidableEq
def RelV:V->Ae->Prop
 | .non,u=>u=Value.none
 | .bl b,u=>u=Value.bool b
 | .int i,u=>∃ t,u=Value.int i t
 | .str x,u=>∃ t,u=Value.str x t
 | .byt b,u=>∃ t,u=Value.bytes b t
 | .flt b,u=>∃ t,u=Value.float b t
 | .ref a,u=>u=Value.ref a
 | .ty n,u=>u=Value.type n
abbrev Vals:List V->List Ae->Prop:=Paired RelV
def Vals.length {xs:List V}{us:List Ae} (r:Vals xs us):xs.length=us.length:=Paired.length r
theorem Vals.get:∀ {xs:List V}{us:List Ae}{i:Nat}{x:V},Vals xs us->xs[i]?=some x->∃ u,us[i]?=some u/\RelV x u
 | _,_,_,_,.nil,e=>by simp at e
 | _,_,0,_,.cons r _,e=>by simp at e;subst e;exact ⟨_,rfl,r⟩
 | _,_,i + 1,x,.cons _ t,e=>by
  obtain ⟨u,h1,h2⟩:=Vals.get (i:=i) (x:=x) t (by simpa using e);exact ⟨u,by simpa using h1,h2⟩
theorem Vals.set {x:V}{u:Ae} (r:RelV x u):∀ {xs:List V}{us:List Ae} (i:Nat),Vals xs us->Vals (xs.set i x) (us.set i u)
 | _,_,_,.nil=>.nil
 | _,_,0,.cons _ t=>.cons r t
 | _,_,i + 1,.cons q t=>.cons q (Vals.set r i t)
theorem Vals.append:∀ {xs ys:List V}{us ws:List Ae},Vals xs us->Vals ys ws->Vals (xs++ys) (us++ws)
 | _,_,_,_,.nil,s=>s
 | _,_,_,_,.cons r t,s=>.cons r (Vals.append t s)
theorem Vals.take:∀ {xs:List V}{us:List Ae} (n:Nat),Vals xs us->Vals (xs.take n) (us.take n)
 | _,_,0,_=>.nil
 | _,_,_ + 1,.nil=>.nil
 | _,_,n + 1,.cons r t=>.cons r (Vals.take n t)
theorem Vals.drop:∀ {xs:List V}{us:List Ae} (n:Nat),Vals xs us->Vals (xs.drop n) (us.drop n)
 | _,_,0,r=>r
 | _,_,_ + 1,.nil=>.nil
 | _,_,n + 1,.cons _ t=>Vals.drop n t
def RelO:Option V->Option Ae->Prop
 | some v,some u=>RelV v u
 | none,none=>True
 | _,_=>False
def KV {κ:Type}:List (κ×V)->List (κ×Ae)->Prop:=Paired λ (p:κ×V) (q:κ×Ae)=>p.1=q.1/\RelV p.2 q.2
def kV:AG->V
 | .inl i=>.int i
 | .inr x=>.str x
inductive HO where
 | lst (xs:List V)
 | tup (xs:List V)
 | dK (kvs:List (AG×V)) | dT (kvs:List (List AG×V))
 | set (S:Int->Bool) (n:Nat)
 | ins (C dx:Addr) (fs:List (Str×V))
 | own (x:Addr)
 | xd (fs:List (Str×V))
 | met (f x:Addr)
 | rng (lo hi:Int)
 | frz (o:Obj) (u:HO)
 | tbl (ps:Array Ae)
 | ext (φ:Heap->Prop)
abbrev Hp:=Addr->Option HO
def As (H:Hp) (a:Addr) (o:HO):Hp:=λ b=>if b=a then some o else H b
def Ce {H:Hp}{a:Addr}{o:HO}:As H a o a=some o:=by unfold As;rw [if_pos rfl]
def AN {H:Hp}{a b:Addr}{o:HO} (h:b≠a):As H a o b=H b:=by unfold As;rw [if_neg h]
def VR {H:Hp}{a b:Addr}{o u:HO} (h:H a=some o) (h':H b=some u) (d:o≠u):a≠b:=by
 intro e;subst e;rw [h] at h';exact d (Option.some.inj h')
def IK {H:Hp}{a b:Addr}{o:HO} (h:H a=some o) (h':H b=none):a≠b:=by
 intro e;subst e;rw [h] at h';cases h'
section
variable (P:A0) (w:Ay)
def zwb (H:Hp) (h:Heap) (a:Addr):HO->Prop
 | .lst xs=>xs.length<=Am/\∃ (its:List Ae) (n:Nat),Vals xs its/\h.get? a=some { cls:=.type "list",data:=.seq its.toArray n }
 | .tup xs=>xs.length<=Am/\∃ its:List Ae,Vals xs its/\IsTup h a its.toArray
 | .dK kvs=>kvs.length<=Am/\(a == FU)=false/\∃ vs,KV kvs vs/\h.DictOf (Dm P w) a vs
 | .dT kvs=>kvs.length<=Am/\(a == FU)=false/\∃ xs:List (List AG×Addr×Ae),
   Paired (λ (p:List AG×V) (q:List AG×Addr×Ae)=>p.1=q.1/\H q.2.1=some (.tup (p.1.map kV))/\RelV p.2 q.2.2) kvs xs /\
   ∃ o es ep,h.get? a=some o/\o.ExactDict/\o.data=.dict es ep/\es.toList=xs.map (entryOfKey (Ka (Dm P w)))/\(xs.map (·.1)).Nodup
 | .set S n=>h.SetOf (intKind P w) a S n
 | .ins C dx fs=>H dx=some (.own a)/\fs.length<=1000/\dx≠a/\h.get? a=some (Oo C dx) /\
   ∃ mA,h.Ns1 dx mA/\(∀ f,RelO (fs.lookup f) (mA f))/\PySem.Within mA (fs.map (·.1))
 | .own _=>∃ o,h.get? a=some o
 | .xd fs=>∃ mA,h.Ns1 a mA/\∀ f,RelO (fs.lookup f) (mA f)
 | .rng lo hi=>∃ t u v,h.get? a=some { cls:=.type "range",data:=.fields #[.int lo t,.int hi u,.int 1 v] }
 | .frz o u=>h.get? a=some o/\zwb H h a u
 | .tbl ps=>h.get? a=some { cls:=.none,data:=.fields ps }
 | .met f x=>h.get? a=some (Oz (.ref f) (.ref x))
 | .ext φ=>φ h/\(∃ o,h.get? a=some o)/\∀ h1 h2:Heap,φ h1->(∀ o,h1.get? a=some o->h2.get? a=some o)->φ h2
def HOk (H:Hp) (h:Heap):Prop:=∀ a o,H a=some o->zwb P w H h a o
end
section
variable {P:A0}{w:Ay}{H H':Hp}{h h':Heap}{a:Addr}{o:HO}
theorem zwb.lt (x:zwb P w H h a o):a < h.objs.size:=by
 cases o with
 | lst xs=>obtain ⟨_,_,_,_,e⟩:=x;exact AJ e
 | tup xs=>obtain ⟨_,_,_,p⟩:=x;exact p.lt
 | dK kvs=>obtain ⟨_,_,_,_,o,_,_,e,_⟩:=x;exact AJ e
 | dT kvs=>obtain ⟨_,_,_,_,o,_,_,e,_⟩:=x;exact AJ e
 | set S n=>obtain ⟨o,_,_,_,e,_⟩:=x;exact AJ e
 | ins C dx fs=>obtain ⟨_,_,_,e,_⟩:=x;exact AJ e
 | own y=>obtain ⟨_,e⟩:=x;exact AJ e
 | xd fs=>obtain ⟨_,⟨_,_,_,e,_⟩,_⟩:=x;exact AJ e
 | rng lo hi=>obtain ⟨_,_,_,e⟩:=x;exact AJ e
 | frz ob u=>obtain ⟨e,_⟩:=x;exact AJ e
 | tbl ps=>exact AJ (show h.get? a=some _ from x)
 | met f y=>exact AJ (show h.get? a=some _ from x)
 | ext φ=>obtain ⟨_,⟨_,e⟩,_⟩:=x;exact AJ e
theorem Paired.mapP {α β:Type}{F G:α->β->Prop}:∀ {l₁:List α}{l₂:List β},Paired F l₁ l₂->(∀ a b,F a b->G a b)->Paired G l₁ l₂
 | _,_,.nil,_=>.nil
 | _,_,.cons r t,f=>.cons (f _ _ r) (Paired.mapP t f)
theorem zwb.stay (x:zwb P w H h a o) (k:∀ b u,(b=a\/H b=some (.own a))->h.get? b=some u->h'.get? b=some u)
  (ho:∀ b,H b=some (.own a)->H' b=some (.own a)) (ht:∀ b xs,H b=some (.tup xs)->H' b=some (.tup xs)):zwb P w H' h' a o:=by
 induction o with
 | lst xs=>obtain ⟨z,its,n,r,e⟩:=x;exact ⟨z,its,n,r,k _ _ (.inl rfl) e⟩
 | tup xs=>obtain ⟨z,its,r,ob,e,c⟩:=x;exact ⟨z,its,r,ob,k _ _ (.inl rfl) e,c⟩
 | dK kvs=>obtain ⟨z,y,vs,r,ob,es,ep,e,c⟩:=x;exact ⟨z,y,vs,r,ob,es,ep,k _ _ (.inl rfl) e,c⟩
 | dT kvs=>
  obtain ⟨z,y,xs,r,ob,es,ep,e,c⟩:=x;exact ⟨z,y,xs,Paired.mapP r λ p q z=>⟨z.1,ht _ _ z.2.1,z.2.2⟩,ob,es,ep,k _ _ (.inl rfl) e,c⟩
 | set S n=>obtain ⟨ob,es,ep,t,e,c⟩:=x;exact ⟨ob,es,ep,t,k _ _ (.inl rfl) e,c⟩
 | ins C dx fs=>
  obtain ⟨d,z,ne,e,mA,⟨od,es,ep,e2,c⟩,r⟩:=x;exact ⟨ho _ d,z,ne,k _ _ (.inl rfl) e,mA,⟨od,es,ep,k _ _ (.inr d) e2,c⟩,r⟩
 | own y=>obtain ⟨ob,e⟩:=x;exact ⟨ob,k _ _ (.inl rfl) e⟩
 | xd fs=>obtain ⟨mA,⟨od,es,ep,e,c⟩,r⟩:=x;exact ⟨mA,⟨od,es,ep,k _ _ (.inl rfl) e,c⟩,r⟩
 | rng lo hi=>obtain ⟨t,u,v,e⟩:=x;exact ⟨t,u,v,k _ _ (.inl rfl) e⟩
 | frz ob u ih=>obtain ⟨e,q⟩:=x;exact ⟨k _ _ (.inl rfl) e,ih q⟩
 | tbl ps=>
  have e:h.get? a=some { cls:=.none,data:=.fields ps }:=x;show h'.get? a=some { cls:=.none,data:=.fields ps };exact k a _ (.inl rfl) e
 | met f y=>
  have e:h.get? a=some (Oz (.ref f) (.ref y)):=x;show h'.get? a=some (Oz (.ref f) (.ref y));exact k a _ (.inl rfl) e
 | ext φ=>obtain ⟨p,⟨o,e⟩,st⟩:=x;exact ⟨st _ _ p λ o q=>k _ _ (.inl rfl) q,⟨o,k _ _ (.inl rfl) e⟩,st⟩
def HOk.lt (x:HOk P w H h) (e:H a=some o):a < h.objs.size:=(x a o e).lt
theorem HOk.fresh (x:HOk P w H h) (e:h.objs.size<=a):H a=none:=by
 cases q:H a with
 | none=>rfl
 | some u=>exact absurd (Bv (x.lt q) e) (E9 _)
def HOk.kept (x:HOk P w H h) (k:∀ b u,h.get? b=some u->h'.get? b=some u):HOk P w H h':=λ a o e=>
 (x a o e).stay (λ b u _ q=>k b u q) (λ _ q=>q) λ _ _ q=>q
def HOk.laid (x:HOk P w H h) (k:∀ b u,h.get? b=some u->h'.get? b=some u) (hp:h.objs.size<=a) (new:zwb P w (As H a o) h' a o):HOk P w (As H a o) h':=λ b u e=>by
 have hn:=x.fresh hp;by_cases hb:b=a
 ·subst hb;rw [Ce] at e;cases e;exact new
 ·rw [AN hb] at e;exact (x b u e).stay (λ c v _ q=>k c v q) (λ c q=>by rw [AN (IK q hn)];exact q) λ c xs q=>by rw [AN (IK q hn)];exact q
end
def Rd (H:Hp) (a:Addr) (u:HO):Prop:=H a=some u\/∃ o,H a=some (.frz o u)
def Rd.ok {P:A0}{w:Ay}{H:Hp}{h:Heap}{a:Addr}{u:HO} (r:Rd H a u) (x:HOk P w H h):zwb P w H h a u:=by
 rcases r with r | ⟨o,r⟩
 ·exact x a u r
 ·obtain ⟨_,q⟩:=x a _ r;exact q
def La:Option HO->Prop
 | some (.lst _)=>True
 | some (.dK _)=>True
 | some (.dT _)=>True
 | some (.set _ _)=>True
 | some (.ins _ _ _)=>True
 | some (.ext _)=>True
 | _=>False
section
variable {P:A0}{w:Ay}{H:Hp}{h h':Heap}{x e:Addr}{o':HO}
def HOk.write (ok:HOk P w H h) (mu:La (H x)) (he:e=x\/H e=some (.own x)) (k:∀ b u,b≠e->h.get? b=some u->h'.get? b=some u) (heo:∃ u,h'.get? e=some u)
  (new:zwb P w (As H x o') h' x o'):HOk P w (As H x o') h':=λ b u q=>by
 have nown:∀ c y,H c=some (.own y)->c≠x:=λ c y r z=>by subst z;rw [r] at mu;exact mu
 have ntup:∀ c xs,H c=some (.tup xs)->c≠x:=λ c xs r z=>by subst z;rw [r] at mu;exact mu
 by_cases hb:b=x
 ·subst hb;rw [Ce] at q;cases q;exact new
 ·rw [AN hb] at q;by_cases hbe:b=e
  ·have q':H b=some (.own x):=by
    rcases he with z | z
    ·exact absurd (hbe.trans z) hb
    ·rw [hbe];exact z
   rw [q] at q';cases q';obtain ⟨v,hv⟩:=heo;exact ⟨v,by rw [hbe];exact hv⟩
  ·refine (ok b u q).stay (λ c v hc r=>k c v ?_ r) (λ c r=>by rw [AN (nown c b r)];exact r) λ c xs r=>by rw [AN (ntup c xs r)];exact r
   rcases hc with rfl | hc
   ·exact hbe
   ·rintro rfl;rcases he with z | z
    ·exact nown c b hc z
    ·rw [hc] at z;cases z;exact hb rfl
end
structure Un (fs ex:List Addr) (H H':Hp) (h h':Heap):Prop where
 keep:∀ b o,h.get? b=some o->H b=none->b∉fs->b∉ex->h'.get? b=some o
 slot:∀ b o,h.get? b=some o->H b=none->b∈fs->b∉ex->∃ sl,h'.get? b=some { o with slots:=sl }
 free:∀ b o,h.get? b=some o->H b=none->b∉ex->H' b=none
 there:∀ b o,h.get? b=some o->b∉ex->∃ o',h'.get? b=some o'
 tups:∀ b xs,H b=some (.tup xs)->H' b=some (.tup xs)
 frzs:∀ b o u,H b=some (.frz o u)->H' b=some (.frz o u)
 tbls:∀ b ps,H b=some (.tbl ps)->∃ more,H' b=some (.tbl (ps++more))
section
variable {fs fs' ex ex':List Addr}{H H1 H2:Hp}{h h1 h2 h':Heap}{a x e:Addr}{o:HO}
def Un.any (u:Un fs ex H H1 h h1) {b:Addr}{ob:Obj} (q:h.get? b=some ob) (n:H b=none) (hx:b∉ex):∃ sl,h1.get? b=some { ob with slots:=sl }:=by
 by_cases hb:b∈fs
 ·exact u.slot b ob q n hb hx
 ·exact ⟨ob.slots,u.keep b ob q n hb hx⟩
def Un.kept (k:∀ b u,h.get? b=some u->h'.get? b=some u):Un fs ex H H h h':=
 ⟨λ b ob q _ _ _=>k b ob q,λ b ob q _ _ _=>⟨ob.slots,k b ob q⟩,λ _ _ _ n _=>n,λ b ob q _=>⟨ob,k b ob q⟩,λ _ _ q=>q,λ _ _ _ q=>q,λ _ ps q=>⟨#[],by rw [q];simp⟩⟩
def Un.refl:Un fs ex H H h h:=Un.kept λ _ _ q=>q
def Un.laid (k:∀ b u,h.get? b=some u->h'.get? b=some u) (hp:h.objs.size<=a) (hn:H a=none):Un fs ex H (As H a o) h h' where
 keep:=λ b u q _ _ _=>k b u q
 slot:=λ b u q _ _ _=>⟨u.slots,k b u q⟩
 free:=λ b u q n _=>by rw [AN (Bz (Bv (AJ q) hp))];exact n
 there:=λ b u q _=>⟨u,k b u q⟩
 tups:=λ b xs q=>by rw [AN (IK q hn)];exact q
 frzs:=λ b u xs q=>by rw [AN (IK q hn)];exact q
 tbls:=λ b ps q=>⟨#[],by rw [AN (IK q hn),q];simp⟩
def Un.write (mu:La (H x)) (he:e=x\/H e=some (.own x)) (k:∀ b u,b≠e->h.get? b=some u->h'.get? b=some u) (heo:∃ u,h'.get? e=some u):Un fs ex H (As H x o) h h':=by
 have hx:∀ b,H b=none->b≠x:=λ b n z=>by subst z;rw [n] at mu;exact mu
 have hb:∀ b,H b=none->b≠e:=λ b n z=>by
  subst z;rcases he with r | r
  ·exact hx b n r
  ·rw [n] at r;cases r
 have hm:∀ b u,H b=some u->¬ La (some u)->b≠x:=λ b u q nm z=>by subst z;rw [q] at mu;exact nm mu
 refine ⟨λ b u q n _ _=>k b u (hb b n) q,λ b u q n _ _=>⟨u.slots,k b u (hb b n) q⟩,λ b u q n _=>by rw [AN (hx b n)];exact n,λ b u q _=>?_,
  λ b xs q=>by rw [AN (hm b _ q λ z=>z)];exact q,λ b u xs q=>by rw [AN (hm b _ q λ z=>z)];exact q,λ b ps q=>⟨#[],by rw [AN (hm b _ q λ z=>z),q];simp⟩⟩
 by_cases hbe:b=e
 ·subst hbe;exact heo
 ·exact ⟨u,k b u hbe q⟩
end
def Ei (h:Heap) (H:Hp):List Addr:=(Bh h.objs.size).filter λ a=>(H a).isSome
def CW (h:Heap) (H:Hp):Heap:=PySem.W.hideAll h (Ei h H)
def xj (h:Heap) (H:Hp):(CW h H).objs.size=h.objs.size:=PySem.W.hideAll_size _ _
def q9 {h:Heap}{H:Hp}{b:Addr}{o:Obj} (e:h.get? b=some o) (n:H b=none):(CW h H).get? b=some o:=
 O4 _ e λ hm=>by
  have q:(H b).isSome=true:=(ji9.mp hm).2;rw [n] at q;simp at q
theorem YD {h:Heap}{H:Hp}{b:Addr}{o:Obj} (e:(CW h H).get? b=some o):h.get? b=some o/\H b=none:=by
 have e':h.get? b=some o:=PySem.W.of_hideAll (Ei h H) e;refine ⟨e',?_⟩;cases q:H b with
 | none=>rfl
 | some x=>
  have hm:b∈Ei h H:=ji9.mpr ⟨jd5.mpr (AJ e'),by simp [q]⟩;have z:(CW h H).get? b=none:=PySem.W.hideAll_none (Ei h H) hm;rw [z] at e;cases e
def XZ (g h:Heap) (L:Addr):List (Addr×Obj):=(Bh h.objs.size).filterMap λ a=>if a=L\/(g.get? a).isSome=true then none else (h.get? a).map λ o=>(a,o)
def AL (g h:Heap) (L d:Addr):List (Addr×Obj):=(XZ g h L).filter λ p=>decide (p.1≠d)
structure Mod (K:PySem.W.Frag) (mg:Str->Option Ae) (base:Heap):Prop where
 kin:K.In base
 glob:base.Ns DT mg
 blt:∃ mb,base.Ns builtinsNs mb/\∀ x:Str,x ≠ "__name__" -> mb x=HM x
 nolimit:base.NoLimit
structure Cx where
 prog:A0
 w:Ay
 K:PySem.W.Frag
 mg:Str->Option Ae
 base:Heap
 A:AU
 N:List Str
 s₀:Ai
 H₀:Hp
 env:Env
 outer:List Env
 stack:List Env
 ex:List Addr
 fn:Str->Bool
 calm:Bool
 pn:List (Addr×Obj)
 xe:Ae->Ai->Prop
def Cn (l:List Env):List Addr:=l.filterMap (·.frame)
abbrev Cx.fs (X:Cx):List Addr:=Cn X.outer
def GC (sc:Bc) (x:Str):Prop:=sc.names.lookup x=some .local\/sc.names.lookup x=some .cell\/sc.names.lookup x=some .free
def DJ (sc:Bc) (x:Str):Prop:=sc.names.lookup x=some .local\/sc.names.lookup x=some .cell
def Qr (env:Env) (h:Heap) (m:Str->Option Ae) (x:Str) (u:Ae):Prop:=
 (env.kindOf x=some .local/\m x=some u)\/((env.kindOf x=some .cell\/env.kindOf x=some .free)/\∃ c,env.cells.lookup x=some c/\h.IsCell c (some u))
structure Cx.Ok (X:Cx):Prop where
 mod:Mod X.K X.mg X.base
 kind:X.env.scope.kind=.function
 glob:X.env.globals=DT
 blt:X.env.builtins=builtinsNs
 above:X.s₀.heap.objs.size<=X.env.locals
 inj:∀ x y c,X.env.cells.lookup x=some c->X.env.cells.lookup y=some c->x=y
 has:∀ x,(X.env.kindOf x=some .cell\/X.env.kindOf x=some .free)->∃ c,X.env.cells.lookup x=some c
 cab:∀ x c,X.fn x=true->X.env.cells.lookup x=some c->X.s₀.heap.objs.size<=c
 hd:X.calm=true->X.A.handled=none
 frames:X.A.frames=some X.stack
 stk:X.stack=X.outer\/(X.stack=X.env::X.outer/\X.env.frame=some X.env.locals)
 exf:∀ b∈X.ex,b≠X.env.locals/\∀ x c,X.env.cells.lookup x=some c->c≠b
 bs:∀ b o,X.base.get? b=some o->X.s₀.heap.get? b=some o/\X.H₀ b=none
 bsz:X.base.objs.size<=X.s₀.heap.objs.size
 noex:∀ b o,X.base.get? b=some o->b∉X.ex
 exfs:∀ b∈X.ex,b∉X.fs
 funs:X.s₀.heap.FunFrames X.base X.outer
 frf:∀ b∈X.fs,X.H₀ b=none
structure Inv (X:Cx) (pins:List (Addr×Obj)) (σ:List (Option V)) (H:Hp) (s:Ai):Prop where
 ok:X.Ok
 os:s.os=X.s₀.os
 bare:E4 s.gens
 base:Un X.fs X.ex X.H₀ H X.s₀.heap s.heap
 loc:∃ m,s.heap.Ns X.env.locals m/\∀ (i:Nat) (x:Str) (v:V),X.N[i]?=some x->σ[i]?=some (some v)->GC X.env.scope x->∃ u,RelV v u/\Qr X.env s.heap m x u
 cell:∀ x c,X.env.cells.lookup x=some c->∃ v,s.heap.IsCell c v
 free:H X.env.locals=none
 freeC:∀ x c,X.env.cells.lookup x=some c->H c=none
 pin:∀ p∈X.pn++pins,s.heap.get? p.1=some p.2/\H p.1=none/\p.1≠X.env.locals/\p.1∉X.fs/\∀ v,p.2.data≠.cell v
 hok:HOk X.prog X.w H s.heap
 len:σ.length=X.N.length
section
variable {X:Cx}{pins:List (Addr×Obj)}{σ:List (Option V)}{H H':Hp}{s:Ai}{h':Heap}
def Cx.Ok.nofr (ok:X.Ok) {b:Addr}{o:Obj} (e:X.base.get? b=some o):b∉X.fs:=λ hb=>by
 have:=(ok.funs.mem hb).1
 rw [e] at this;cases this
def Inv.bs (I:Inv X pins σ H s):∀ b o,X.base.get? b=some o->s.heap.get? b=some o/\H b=none:=λ b o e=>
 ⟨I.base.keep b o (I.ok.bs b o e).1 (I.ok.bs b o e).2 (I.ok.nofr e) (I.ok.noex b o e),I.base.free b o (I.ok.bs b o e).1 (I.ok.bs b o e).2 (I.ok.noex b o e)⟩
def Inv.bk (I:Inv X pins σ H s):∀ b o,X.base.get? b=some o->s.heap.get? b=some o:=λ b o e=>(I.bs b o e).1
def Inv.mod (I:Inv X pins σ H s):Mod X.K X.mg X.base:=I.ok.mod
def Inv.kIn (I:Inv X pins σ H s):X.K.In s.heap:=I.ok.mod.kin.keeps I.bk
def Inv.lt (I:Inv X pins σ H s):X.env.locals < s.heap.objs.size:=let ⟨_,hn,_⟩:=I.loc;hn.lt
def Inv.sz (I:Inv X pins σ H s):X.s₀.heap.objs.size<=s.heap.objs.size:=Cg I.ok.above (E8 I.lt)
def Inv.nofs (I:Inv X pins σ H s) {a:Addr} (h:s.heap.objs.size<=a):a∉X.fs:=λ hb=>by
 obtain ⟨_,o,ho,_⟩:=I.ok.funs.mem hb;exact absurd (Bv (AJ ho) (Cg I.sz h)) (E9 _)
def Inv.cne (I:Inv X pins σ H s):∀ x c,X.env.cells.lookup x=some c->c≠X.env.locals:=λ x c e z=>by
 obtain ⟨v,o,ho,hd⟩:=I.cell x c e;obtain ⟨m,⟨o',es,ep,ho',hd',_⟩,_⟩:=I.loc;rw [z,ho'] at ho;cases ho;rw [hd'] at hd;cases hd
def Inv.funs (I:Inv X pins σ H s):s.heap.FunFrames X.base X.outer:=by
 have all:∀ (l:List Env),(∀ b∈Cn l,b∈X.fs)->X.s₀.heap.FunFrames X.base l->s.heap.FunFrames X.base l:=by
  intro l;induction l with
  | nil=>intro _ _;trivial
  | cons env r ih=>
   intro hs hl;obtain ⟨hk,⟨L,o,hf,hn,ho,hd⟩,hr⟩:=hl;have hL:L∈X.fs:=hs L (by unfold Cn;rw [Iu,hf];exact Bf);obtain ⟨sl,e⟩:=I.base.slot L o ho (I.ok.frf L hL) hL λ z=>I.ok.exfs L z hL;exact ⟨hk,⟨L,_,hf,hn,e,hd⟩,ih (λ b hb=>hs b (by unfold Cn;rw [Iu,hf];exact AQ _ hb)) hr⟩
 exact all X.outer (λ _ hb=>hb) I.ok.funs
def Inv.stack (I:Inv X pins σ H s):s.heap.FunFrames X.base X.stack:=by
 rcases I.ok.stk with e | ⟨e,hf⟩
 ·rw [e];exact I.funs
 ·rw [e];obtain ⟨m,hn,_⟩:=I.loc;refine .cons (by rw [I.ok.kind];decide) hf hn ?_ I.funs;exact Heap.get?_none_of_le (Cg I.ok.bsz I.ok.above)
def Inv.stkSub (I:Inv X pins σ H s):∀ b∈Cn X.stack,b∈X.env.locals::X.fs:=λ b hb=>by
 rcases I.ok.stk with e | ⟨e,hf⟩
 ·rw [e] at hb;exact AQ _ hb
 ·rw [e] at hb;unfold Cn at hb;rw [Iu,hf] at hb;exact hb
def Inv.stkFree (I:Inv X pins σ H s):∀ b∈Cn X.stack,H b=none:=λ b hb=>by
 rcases jb2.mp (I.stkSub b hb) with e | hb
 ·rw [e];exact I.free
 ·obtain ⟨_,o,ho,_⟩:=I.ok.funs.mem hb;exact I.base.free b o ho (I.ok.frf b hb) λ z=>I.ok.exfs b z hb
def Inv.step {g':Array GenState}{t':Nat}{d':Drawn}{ch:List Addr} (I:Inv X pins σ H s)
  (hch:∀ b∈ch,(b∈X.ex\/X.s₀.heap.objs.size<=b)/\b≠X.env.locals/\(∀ x c,X.env.cells.lookup x=some c->c≠b)/\∀ p∈X.pn++pins,p.1≠b)
  (keep:∀ b o,b≠X.env.locals->b∉X.fs->b∉ch->s.heap.get? b=some o->H b=none->h'.get? b=some o)
  (slot:∀ b o,b≠X.env.locals->b∈X.fs->b∉ch->s.heap.get? b=some o->H b=none->∃ sl,h'.get? b=some { o with slots:=sl }) (free:∀ b o,b∉ch->s.heap.get? b=some o->H b=none->H' b=none)
  (there:∀ b o,b∉ch->s.heap.get? b=some o->∃ o',h'.get? b=some o')
  (tups:∀ b xs,H b=some (.tup xs)->H' b=some (.tup xs)) (frzs:∀ b o u,H b=some (.frz o u)->H' b=some (.frz o u)) (tbls:∀ b ps,H b=some (.tbl ps)->∃ more,H' b=some (.tbl (ps++more)))
  (ns:∀ m,s.heap.Ns X.env.locals m->h'.Ns X.env.locals m) (hok:HOk X.prog X.w H' h') (hg:E4 g'):
  Inv X pins σ H' { s with heap:=h',gens:=g',drawn:=d',toks:=t' }:=by
 have neL:∀ b o,X.s₀.heap.get? b=some o->b≠X.env.locals:=λ b o e=>Bz (Bv (AJ e) I.ok.above);have neC:∀ b o,X.s₀.heap.get? b=some o->b∉X.ex->b∉ch:=λ b o e hx hb=>by
  rcases (hch b hb).1 with z | z
  ·exact hx z
  ·exact absurd (Bv (AJ e) z) (E9 _)
 have cellK:∀ x c,X.env.cells.lookup x=some c->∀ v,s.heap.IsCell c v->h'.IsCell c v:=λ x c e v ⟨o,ho,hd⟩=>by
  have nch:c∉ch:=λ z=>(hch c z).2.2.1 x c e rfl;by_cases hc:c∈X.fs
  ·obtain ⟨sl,q⟩:=slot c o (I.cne x c e) hc nch ho (I.freeC x c e);exact ⟨_,q,hd⟩
  ·exact ⟨o,keep c o (I.cne x c e) hc nch ho (I.freeC x c e),hd⟩
 refine ⟨I.ok,I.os,hg,⟨λ b o e n hb hx=>?_,λ b o e n hb hx=>?_,λ b o e n hx=>?_,λ b o e hx=>?_,λ b xs e=>tups b xs (I.base.tups b xs e),λ b o xs e=>frzs b o xs (I.base.frzs b o xs e),λ b ps e=>?_⟩,?_,λ x c e=>?_,?_,λ x c e=>?_,λ p hp=>?_,hok,I.len⟩
 ·exact keep b o (neL b o e) hb (neC b o e hx) (I.base.keep b o e n hb hx) (I.base.free b o e n hx)
 ·obtain ⟨sl,e1⟩:=I.base.slot b o e n hb hx;obtain ⟨sl',e2⟩:=slot b _ (neL b o e) hb (neC b o e hx) e1 (I.base.free b o e n hx);exact ⟨sl',e2⟩
 ·obtain ⟨o',e1⟩:=I.base.there b o e hx;exact free b o' (neC b o e hx) e1 (I.base.free b o e n hx)
 ·obtain ⟨o',e1⟩:=I.base.there b o e hx;exact there b o' (neC b o e hx) e1
 ·obtain ⟨m1,e1⟩:=I.base.tbls b ps e;obtain ⟨m2,e2⟩:=tbls b _ e1;exact ⟨m1++m2,by rw [e2,Vc]⟩
 ·obtain ⟨m,hn,hl⟩:=I.loc;refine ⟨m,ns m hn,λ i x v e1 e2 e3=>?_⟩;obtain ⟨u,r,l⟩:=hl i x v e1 e2 e3;refine ⟨u,r,?_⟩;rcases l with l | ⟨k,c,e,z⟩
  ·exact .inl l
  ·exact .inr ⟨k,c,e,cellK x c e _ z⟩
 ·obtain ⟨v,z⟩:=I.cell x c e;exact ⟨v,cellK x c e v z⟩
 ·obtain ⟨m,⟨o,_,_,ho,_⟩,_⟩:=I.loc;exact free _ o (λ z=>(hch _ z).2.1 rfl) ho I.free
 ·obtain ⟨v,o,ho,hd⟩:=I.cell x c e;exact free c o (λ z=>(hch c z).2.2.1 x c e rfl) ho (I.freeC x c e)
 ·obtain ⟨e,n,ne,nf,d⟩:=I.pin p hp;have nch:p.1∉ch:=λ z=>(hch p.1 z).2.2.2 p hp rfl;exact ⟨keep p.1 p.2 ne nf nch e n,free p.1 p.2 nch e n,ne,nf,d⟩
def Inv.un {t':Nat} (I:Inv X pins σ H s) (u:Un X.fs [] H H' s.heap h') (hok:HOk X.prog X.w H' h'):Inv X pins σ H' { s with heap:=h',toks:=t' }:=by
 obtain ⟨m,⟨o,es,ep,ho,r⟩,_⟩:=id I.loc;obtain ⟨sl,hL⟩:=u.any ho I.free (by simp);exact I.step (g':=s.gens) (d':=s.drawn) (ch:=[]) (λ _ z=>nomatch z) (λ b o _ hb _ e n=>u.keep b o e n hb (by simp)) (λ b o _ hb _ e n=>u.slot b o e n hb (by simp)) (λ b o _ e n=>u.free b o e n (by simp)) (λ b o _ e=>u.there b o e (by simp)) u.tups u.frzs u.tbls (λ m' hm=>by
  obtain ⟨o',es',ep',ho',r'⟩:=hm;rw [ho] at ho';cases ho';exact ⟨_,es',ep',hL,r'⟩) hok I.bare
def Inv.call {g':Array GenState}{t':Nat}{d':Drawn}{ch:List Addr} (I:Inv X pins σ H s) (u:Un (Cn X.stack) ch H H' s.heap h') (hok:HOk X.prog X.w H' h') (hg:E4 g')
  (hch:∀ b∈ch,(b∈X.ex\/X.s₀.heap.objs.size<=b)/\b≠X.env.locals/\(∀ x c,X.env.cells.lookup x=some c->c≠b)/\∀ p∈X.pn++pins,p.1≠b):
  Inv X pins σ H' { s with heap:=h',gens:=g',drawn:=d',toks:=t' }:=by
 obtain ⟨m,⟨o,es,ep,ho,r⟩,_⟩:=id I.loc;obtain ⟨sl,hL⟩:=u.any ho I.free λ z=>(hch _ z).2.1 rfl;exact I.step (ch:=ch) hch (λ b o hL hb hc e n=>u.keep b o e n (λ z=>(jb2.mp (I.stkSub b z)).elim hL hb) hc) (λ b o _ _ hc e n=>u.any e n hc) (λ b o hc e n=>u.free b o e n hc) (λ b o hc e=>u.there b o e hc) u.tups u.frzs u.tbls (λ m' hm=>by
  obtain ⟨o',es',ep',ho',r'⟩:=hm;rw [ho] at ho';cases ho';exact ⟨_,es',ep',hL,r'⟩) hok hg
def Inv.turned {t':Nat}{it:Addr} (I:Inv X pins σ H s) (k:∀ b o,b≠it->s.heap.get? b=some o->h'.get? b=some o) (hn:H it=none) (hL:it≠X.env.locals)
  (h1:it∈X.ex\/X.s₀.heap.objs.size<=it) (h2:∀ x c,X.env.cells.lookup x=some c->c≠it) (h3:∀ p∈X.pn++pins,p.1≠it):Inv X pins σ H { s with heap:=h',toks:=t' }:=by
 have nit:∀ b u,H b=some u->b≠it:=λ b u e z=>by rw [z,hn] at e;cases e
 refine I.step (g':=s.gens) (d':=s.drawn) (ch:=[it]) (λ b hb=>?_) (λ b o _ _ hc e _=>k b o (λ z=>hc (by simp [z])) e) (λ b o _ _ hc e _=>⟨o.slots,k b o (λ z=>hc (by simp [z])) e⟩) (λ _ _ _ _ n=>n)
  (λ b o hc e=>⟨o,k b o (λ z=>hc (by simp [z])) e⟩) (λ _ _ e=>e) (λ _ _ _ e=>e) (λ b ps e=>⟨#[],by rw [e];simp⟩) (λ m hm=>?_) (λ b u e=>?_) I.bare
 ·have e:b=it:=by simpa using hb
  subst e;exact ⟨h1,hL,h2,h3⟩
 ·obtain ⟨o,es,ep,ho,r⟩:=hm;exact ⟨o,es,ep,k _ o (BG hL) ho,r⟩
 ·refine (I.hok b u e).stay (λ c v hc q=>k c v ?_ q) (λ _ q=>q) λ _ _ q=>q;rcases hc with z | z
  ·rw [z];exact nit b u e
  ·exact nit c _ z
def Inv.tok (I:Inv X pins σ H s) (t:Nat):Inv X pins σ H { s with toks:=t }:=I.un (h':=s.heap) (t':=t) Un.refl I.hok
def Inv.kept {t':Nat} (I:Inv X pins σ H s) (k:∀ b u,s.heap.get? b=some u->h'.get? b=some u):Inv X pins σ H { s with heap:=h',toks:=t' }:=I.un (Un.kept k) (I.hok.kept k)
def Inv.laid {a:Addr}{o:HO}{t':Nat} (I:Inv X pins σ H s) (k:∀ b u,s.heap.get? b=some u->h'.get? b=some u) (hp:s.heap.objs.size<=a) (new:zwb X.prog X.w (As H a o) h' a o):
  Inv X pins σ (As H a o) { s with heap:=h',toks:=t' }:=I.un (Un.laid k hp (I.hok.fresh hp)) (I.hok.laid k hp new)
def Inv.write {x e:Addr}{o:HO}{t':Nat} (I:Inv X pins σ H s) (mu:La (H x)) (he:e=x\/H e=some (.own x)) (k:∀ b u,b≠e->s.heap.get? b=some u->h'.get? b=some u) (heo:∃ u,h'.get? e=some u)
  (new:zwb X.prog X.w (As H x o) h' x o):Inv X pins σ (As H x o) { s with heap:=h',toks:=t' }:=I.un (Un.write mu he k heo) (I.hok.write mu he k heo new)
def Inv.pins_of {pins':List (Addr×Obj)} (I:Inv X pins σ H s) (h:∀ p∈pins',s.heap.get? p.1=some p.2/\H p.1=none/\p.1≠X.env.locals/\p.1∉X.fs/\∀ v,p.2.data≠.cell v):Inv X pins' σ H s:=
 ⟨I.ok,I.os,I.bare,I.base,I.loc,I.cell,I.free,I.freeC,λ p hp=>(jc2.mp hp).elim (λ z=>I.pin p (BM _ z)) (h p),I.hok,I.len⟩
def N6 {N:List Str} (hN:N.Nodup) {i j:Nat}{x:Str} (a:N[i]?=some x) (b:N[j]?=some x):i=j:=by
 obtain ⟨h1,e1⟩:=ja3.mp a;obtain ⟨h2,e2⟩:=ja3.mp b;exact (List.getElem_inj hN).mp (e1.trans e2.symm)
def QB {M:Model}{A:AU}{E:Ae->Ai->Prop}{i:Nat}{x:Str}{v:V}{u:Ae}{Q:Unit->Ai->Prop} (I:Inv X pins σ H s) (hN:X.N.Nodup) (hi:X.N[i]?=some x) (hx:DJ X.env.scope x) (r:RelV v u)
  (h:∀ s',Inv X pins (σ.set i (some v)) H s'->(∃ a,HL a s.heap s'.heap/\(a=X.env.locals\/X.env.cells.lookup x=some a))->Q () s') (hf:X.fn x=true\/X.env.scope.names.lookup x=some .local:=by first | exact .inl rfl | exact .inr rfl | assumption):An M A (storeName X.env x u) Q E s:=by
 obtain ⟨m,hn,hl⟩:=id I.loc;have hcls:(X.env.scope.kind == .class || (X.env.scope.kind == .module && X.env.locals != X.env.globals))=false:=by rw [I.ok.kind];rfl
 have hiσ:i < σ.length:=by rw [I.len];exact (ja3.mp hi).1
 have cne:=I.cne;have tracked:∀ {a:Addr}{h':Heap},(∃ o,s.heap.get? a=some o/\H a=none)->HL a s.heap h'->HOk X.prog X.w H h':=λ {a h'} ha hs b ob e=>by
  obtain ⟨_,_,hfree⟩:=ha;refine (I.hok b ob e).stay (λ c w' hc q=>(hs.2 c ?_).trans q) (λ _ q=>q) λ _ _ q=>q;rintro rfl;rcases hc with rfl | hc
  ·rw [hfree] at e;cases e
  ·rw [hfree] at hc;cases hc
 rcases hx with hk | hk
 ·refine wpAny_storeName_local hk hn (λ h' hn' hs=>?_) hcls;obtain ⟨oL,_,_,hoL,_⟩:=id hn;refine h _ ⟨I.ok,I.os,I.bare,⟨λ b o e n hb hx=>?_,λ b o e n hb hx=>?_,I.base.free,λ b o e hx=>?_,I.base.tups,I.base.frzs,I.base.tbls⟩,⟨_,hn',λ j y v' e1 e2 e3=>?_⟩,λ y c e=>?_,I.free,I.freeC,λ p hp=>?_,tracked ⟨oL,hoL,I.free⟩ hs,by simpa using I.len⟩ ⟨_,hs,.inl rfl⟩
  ·exact (hs.2 b (Bz (Bv (AJ e) I.ok.above))).trans (I.base.keep b o e n hb hx)
  ·obtain ⟨sl,e1⟩:=I.base.slot b o e n hb hx;exact ⟨sl,(hs.2 b (Bz (Bv (AJ e) I.ok.above))).trans e1⟩
  ·obtain ⟨o',e1⟩:=I.base.there b o e hx;exact ⟨o',(hs.2 b (Bz (Bv (AJ e) I.ok.above))).trans e1⟩
  ·by_cases hj:j=i
   ·subst hj;rw [hi] at e1;cases e1;rw [CC hiσ] at e2;cases e2;exact ⟨u,r,.inl ⟨hk,by simp⟩⟩
   ·rw [BL (BG hj)] at e2;obtain ⟨u',r',q⟩:=hl j y v' e1 e2 e3;refine ⟨u',r',?_⟩;rcases q with ⟨k,e⟩ | ⟨k,c,e,z⟩
    ·refine .inl ⟨k,?_⟩
     have:y≠x:=λ e=>hj (N6 hN e1 (e ▸ hi))
     simp [this,e]
    ·exact .inr ⟨k,c,e,z.sameBut hs (cne y c e)⟩
  ·obtain ⟨w',z⟩:=I.cell y c e;exact ⟨w',z.sameBut hs (cne y c e)⟩
  ·obtain ⟨e,n,ne,nf,d⟩:=I.pin p hp;exact ⟨(hs.2 p.1 ne).trans e,n,ne,nf,d⟩
 ·have hfn:X.fn x=true:=by
   rcases hf with z | z
   ·exact z
   ·rw [z] at hk;cases hk
  obtain ⟨c,hc⟩:=I.ok.has x (.inl hk);obtain ⟨w',z⟩:=I.cell x c hc;refine wpAny_storeName_cell I.ok.kind hk hc z (λ h' hc' hs=>?_);obtain ⟨oc,hoc,hocd⟩:=id z;refine h { s with heap:=h' } ⟨I.ok,I.os,I.bare,⟨λ b o e n hb hx=>?_,λ b o e n hb hx=>?_,I.base.free,λ b o e hx=>?_,I.base.tups,I.base.frzs,I.base.tbls⟩,⟨m,hn.sameBut hs (BG (cne x c hc)),λ j y v' e1 e2 e3=>?_⟩,λ y c' e=>?_,I.free,I.freeC,λ p hp=>?_,tracked ⟨oc,hoc,I.freeC x c hc⟩ hs,by simpa using I.len⟩ ⟨c,hs,.inr hc⟩
  ·exact (hs.2 b (Bz (Bv (AJ e) (I.ok.cab x c hfn hc)))).trans (I.base.keep b o e n hb hx)
  ·obtain ⟨sl,e1⟩:=I.base.slot b o e n hb hx;exact ⟨sl,(hs.2 b (Bz (Bv (AJ e) (I.ok.cab x c hfn hc)))).trans e1⟩
  ·obtain ⟨o',e1⟩:=I.base.there b o e hx;exact ⟨o',(hs.2 b (Bz (Bv (AJ e) (I.ok.cab x c hfn hc)))).trans e1⟩
  ·by_cases hj:j=i
   ·subst hj;rw [hi] at e1;cases e1;rw [CC hiσ] at e2;cases e2;exact ⟨u,r,.inr ⟨.inl hk,c,hc,hc'⟩⟩
   ·rw [BL (BG hj)] at e2;obtain ⟨u',r',q⟩:=hl j y v' e1 e2 e3;refine ⟨u',r',?_⟩;rcases q with q | ⟨k,c',e,z'⟩
    ·exact .inl q
    ·refine .inr ⟨k,c',e,z'.sameBut hs ?_⟩;rintro rfl;exact hj (N6 hN e1 (I.ok.inj _ _ _ e hc ▸ hi))
  ·by_cases hcc:c'=c
   ·subst hcc;exact ⟨_,hc'⟩
   ·obtain ⟨w2,z2⟩:=I.cell y c' e;exact ⟨w2,z2.sameBut hs hcc⟩
  ·obtain ⟨e,n,ne,nf,d⟩:=I.pin p hp;refine ⟨(hs.2 p.1 ?_).trans e,n,ne,nf,d⟩;intro q;rw [q,hoc] at e;have q':oc=p.2:=Option.some.inj e;exact d w' (by rw [<- q'];exact hocd)
def Lo {M:Model}{A:AU}{E:Ae->Ai->Prop}{i:Nat}{x:Str}{v:V}{u:Ae}{Q:Unit->Ai->Prop} (I:Inv X pins σ H s) (hN:X.N.Nodup) (hi:X.N[i]?=some x) (hx:DJ X.env.scope x) (r:RelV v u)
  (h:∀ s',Inv X pins (σ.set i (some v)) H s'->Q () s') (hf:X.fn x=true\/X.env.scope.names.lookup x=some .local:=by first | exact .inl rfl | exact .inr rfl | assumption):An M A (storeName X.env x u) Q E s:=
 QB I hN hi hx r (λ s' I' _=>h s' I') hf
def Inv.call' {s':Ai}{ch:List Addr} (I:Inv X pins σ H s) (ho:s'.os=s.os) (u:Un (Cn X.stack) ch H H' s.heap s'.heap) (hok:HOk X.prog X.w H' s'.heap) (hg:E4 s'.gens)
  (hch:∀ b∈ch,(b∈X.ex\/X.s₀.heap.objs.size<=b)/\b≠X.env.locals/\(∀ x c,X.env.cells.lookup x=some c->c≠b)/\∀ p∈X.pn++pins,p.1≠b):Inv X pins σ H' s':=by
 obtain ⟨h',g',d',t',o'⟩:=s';have e:o'=s.os:=ho;subst e;exact I.call (g':=g') (t':=t') (d':=d') u hok hg hch
end
abbrev XK:=Ae->Option Addr->Hp->Prop
abbrev St:=List (Option V)
abbrev VK:=V->Hp->Prop
abbrev TE:=St->Hp->VK->Prop
abbrev TT:=St->Hp->(Bool->Hp->Prop)->Prop
abbrev TA:=St->Hp->(List V->Hp->Prop)->Prop
structure Ends where
 nx:St->Hp->Prop
 rt:VK
 bk:St->Hp->Prop:=λ _ _=>False
 ct:St->Hp->Prop:=λ _ _=>False
abbrev TS:=Ends->St->Hp->Prop
def EP (X:Cx) (pins:List (Addr×Obj)) (σ:St) (Q:VK) (u:Ae) (s':Ai):Prop:=∃ v H',Inv X pins σ H' s'/\RelV v u/\Q v H'
def TP (X:Cx) (pins:List (Addr×Obj)) (σ:St) (Q:Bool->Hp->Prop) (b:Bool) (s':Ai):Prop:=∃ H',Inv X pins σ H' s'/\Q b H'
def AP (X:Cx) (pins:List (Addr×Obj)) (σ:St) (Q:List V->Hp->Prop) (us:List Ae) (s':Ai):Prop:=∃ vs H',Inv X pins σ H' s'/\Vals vs us/\Q vs H'
def SP (X:Cx) (pins:List (Addr×Obj)) (D:Ends) (f:Flow) (s':Ai):Prop:=
 match f with
 | .next=>∃ σ' H',Inv X pins σ' H' s'/\D.nx σ' H'
 | .brk=>∃ σ' H',Inv X pins σ' H' s'/\D.bk σ' H'
 | .cont=>∃ σ' H',Inv X pins σ' H' s'/\D.ct σ' H'
 | .ret u=>∃ v σ' H',Inv X pins σ' H' s'/\RelV v u/\D.rt v H'
def PE (X:Cx) (e:Expr) (t:TE):Prop:=
 ∀ (pins:List (Addr×Obj)) (s:Ai) (σ:St) (H:Hp) (Q:VK),Inv X pins σ H s->t σ H Q->An (Ap X.prog X.w) X.A (eval e X.env) (EP X pins σ Q) X.xe s
def PT (X:Cx) (e:Expr) (t:TT):Prop:=
 ∀ (pins:List (Addr×Obj)) (s:Ai) (σ:St) (H:Hp) (Q:Bool->Hp->Prop),Inv X pins σ H s->t σ H Q->An (Ap X.prog X.w) X.A (isTrue e X.env (eval e X.env)) (TP X pins σ Q) X.xe s
def PW (X:Cx) (e:Expr) (t:TT):Prop:=
 ∀ (whole:Sem Ae) (pins:List (Addr×Obj)) (s:Ai) (σ:St) (H:Hp) (Q:Bool->Hp->Prop),Inv X pins σ H s->t σ H Q->An (Ap X.prog X.w) X.A (isTrue e X.env whole) (TP X pins σ Q) X.xe s
def PW.pt {X:Cx}{e:Expr}{t:TT} (h:PW X e t):PT X e t:=h _
def PA (X:Cx) (es:List Expr) (t:TA):Prop:=
 ∀ (pos:Pos) (pins:List (Addr×Obj)) (s:Ai) (σ:St) (H:Hp) (Q:List V->Hp->Prop),Inv X pins σ H s->t σ H Q->An (Ap X.prog X.w) X.A (spliced (Dp pos (A6 es X.env))) (AP X pins σ Q) X.xe s
def PS (X:Cx) (st:Stmt) (t:TS):Prop:=
 ∀ (pins:List (Addr×Obj)) (s:Ai) (σ:St) (H:Hp) (D:Ends),Inv X pins σ H s->t D σ H->An (Ap X.prog X.w) X.A (exec st X.env) (SP X pins D) X.xe s
def D6 (X:Cx) (st:List Stmt) (t:TS):Prop:=
 ∀ (pins:List (Addr×Obj)) (s:Ai) (σ:St) (H:Hp) (D:Ends),Inv X pins σ H s->t D σ H->An (Ap X.prog X.w) X.A (execs st X.env) (SP X pins D) X.xe s
def Av {α:Type}{t:Sem α}{Q Q':α->Ai->Prop}{M:Model}{A:AU}{E:Ae->Ai->Prop}{s:Ai} (h:An M A t Q E s) (hQ:∀ a s,Q a s->Q' a s):An M A t Q' E s:=Ef h hQ λ _ _ x=>x
section
variable {X:Cx}
def jk {a b:Expr}{ta tb:TE} (ha:PE X a ta) (hb:PE X b tb) {pins:List (Addr×Obj)}{s:Ai}{σ:St}{H:Hp}{R:V->V->Hp->Prop} (I:Inv X pins σ H s) (h:ta σ H λ x H1=>tb σ H1 λ y H2=>R x y H2)
  {α:Type}{Q:α->Ai->Prop}{f:Ae->Ae->Sem α}
  (hf:∀ v u s2 x y H2,Inv X pins σ H2 s2->RelV x v->RelV y u->R x y H2->An (Ap X.prog X.w) X.A (f v u) Q X.xe s2):
  An (Ap X.prog X.w) X.A (eval a X.env) (λ v s₁=>An (Ap X.prog X.w) X.A (eval b X.env) (λ u s₂=>An (Ap X.prog X.w) X.A (f v u) Q X.xe s₂) X.xe s₁) X.xe s:=by
 refine Av (ha pins s σ H _ I h) λ v s1 ⟨x,H1,I1,r1,q1⟩=>?_;refine Av (hb pins s1 σ H1 _ I1 q1) λ u s2 ⟨y,H2,I2,r2,q2⟩=>?_;exact hf v u s2 x y H2 I2 r1 r2 q2
def Cw (i:Nat):TE:=λ σ H Q=>∃ v,σ[i]?=some (some v)/\Q v H
def tC (v:V):TE:=λ _ H Q=>Q v H
def To {i:Nat}{x:Str}{pos:Pos} (hN:X.N[i]?=some x) (hv:GC X.env.scope x) (hd:(x == ("__debug__" : Str))=false:=by decide) (hcd:(x == ("__classdict__" : Str))=false:=by decide):PE X (.Name x pos) (Cw i):=by
 intro pins s σ H Q I h;obtain ⟨v,e,h⟩:=h;obtain ⟨m,hn,hl⟩:=I.loc;obtain ⟨u,r,l⟩:=hl i x v hN e hv;have fin:EP X pins σ Q u s:=⟨v,H,I,r,h⟩
 rcases l with ⟨hk,hm⟩ | ⟨hk,c,hc,hcell⟩
 ·exact wpAny_Name (wpAny_loadName_local I.ok.kind hk hn hm fin) hd
 ·rcases hk with hk | hk
  ·exact wpAny_Name (wpAny_loadName_cell I.ok.kind hk hc hcell fin) hd
  ·exact wpAny_Name (wpAny_loadName_free I.ok.kind hk hc hcell fin hcd) hd
def LA {i j pos}:PE X (.Constant (.int i) j pos) (tC (.int i)):=λ _ _ _ H _ I h=>wpAny_Constant_int ⟨.int i,H,I.tok _,⟨_,rfl⟩,h⟩
def VX {b j pos}:PE X (.Constant (.bool b) j pos) (tC (.bl b)):=λ _ _ _ H _ I h=>Constant_bool ⟨.bl b,H,I,rfl,h⟩
def Xb {j pos}:PE X (.Constant .none j pos) (tC .non):=λ _ _ _ H _ I h=>Constant_none ⟨.non,H,I,rfl,h⟩
def Te {x j pos}:PE X (.Constant (.str x) j pos) (tC (.str x)):=λ _ _ _ H _ I h=>Calls.Constant_str ⟨.str x,H,I.tok _,⟨_,rfl⟩,h⟩
def Gl (X:Cx) (x:Str):Prop:=X.env.kindOf x=some .globalImplicit
def L4 {E:Ae->Ai->Prop}{pins:List (Addr×Obj)}{s:Ai}{σ:St}{H:Hp}{x:Str}{u:Ae}{pos:Pos}{Q:Ae->Ai->Prop} (I:Inv X pins σ H s) (hg:Gl X x) (hm:X.mg x=some u) (h:Q u s)
  (hd:(x == ("__debug__" : Str))=false:=by decide):An (Ap X.prog X.w) X.A (eval (.Name x pos) X.env) Q E s:=
 RK I.ok.kind hg (Calls.loadGlobal_global (by rw [I.ok.glob];exact I.mod.glob.keeps I.bk) hm h) hd
def Ha {E:Ae->Ai->Prop}{pins:List (Addr×Obj)}{s:Ai}{σ:St}{H:Hp}{x:Str}{u:Ae}{pos:Pos}{Q:Ae->Ai->Prop} (I:Inv X pins σ H s) (hg:Gl X x) (hm:X.mg x=none) (hv:HM x=some u) (h:Q u s)
  (hn:x ≠ "__name__" := by decide) (hd:(x == ("__debug__" : Str))=false:=by decide):An (Ap X.prog X.w) X.A (eval (.Name x pos) X.env) Q E s:=by
 obtain ⟨mb,h1,h2⟩:=I.mod.blt;exact RK I.ok.kind hg (Calls.loadGlobal_builtin (by rw [I.ok.glob];exact I.mod.glob.keeps I.bk) hm (by rw [I.ok.blt];exact h1.keeps I.bk) ((h2 x hn).trans hv) h) hd
def Zw {x:Str}{v:V}{u:Ae}{pos:Pos} (hg:Gl X x) (hm:X.mg x=some u) (r:RelV v u) (hd:(x == ("__debug__" : Str))=false:=by decide):PE X (.Name x pos) (tC v):=
 λ _ _ _ H _ I h=>L4 I hg hm ⟨v,H,I,r,h⟩ hd
def TU {x:Str}{v:V}{u:Ae}{pos:Pos} (hg:Gl X x) (hm:X.mg x=none) (hv:HM x=some u) (r:RelV v u) (hn:x ≠ "__name__" := by decide) (hd:(x == ("__debug__" : Str))=false:=by decide):PE X (.Name x pos) (tC v):=
 λ _ _ _ H _ I h=>Ha I hg hm hv ⟨v,H,I,r,h⟩ hn hd
variable {a b:Expr}{ta tb:TE}{pos:Pos}
def PC (X:Cx) (op:Ed) (a b:Expr) (t:TE):Prop:=
 ∀ (pins:List (Addr×Obj)) (s:Ai) (σ:St) (H:Hp) (Q:VK),Inv X pins σ H s->t σ H Q ->
  An (Ap X.prog X.w) X.A (eval a X.env) (λ v s₁=>An (Ap X.prog X.w) X.A (eval b X.env) (λ u s₂=>An (Ap X.prog X.w) X.A (Cv op v u) (EP X pins σ Q) X.xe s₂) X.xe s₁) X.xe s
def GQ (b:Expr) {op:Ed} (h:op≠.In) (h2:op≠.NotIn):Je op b=false:=by
 have e1:(op == CmpOp.In)=false:=by cases op <;> first | rfl | exact absurd rfl h
 have e2:(op == CmpOp.NotIn)=false:=by cases op <;> first | rfl | exact absurd rfl h2
 cases b <;> simp [Je,e1,e2]
def tB (t:TE):TT:=λ σ H Q=>t σ H λ x H1=>∃ c,x=.bl c/\Q c H1
def Xj {e:Expr}{t:TE} (h:PE X e t) (he:∀ whole,isTrue e X.env whole=(do let v<-whole;standAt e.pos;Hd [v] (truthy v)):=by intro _;rfl):PT X e (tB t):=by
 intro pins s σ H Q I hw;refine isTrue_plain (Av (h pins s σ H _ I hw) λ v s1 ⟨x,H1,I1,r1,q1⟩=>?_) (he _);obtain ⟨d,rfl,q⟩:=q1;cases r1;exact FW ⟨H1,I1,q⟩
variable {tA tB':TT}{AL:List Expr}
def HZ (t u:TT):TT:=λ σ H Q=>t σ H λ c H1=>if c=true then u σ H1 Q else Q false H1
def OF (t u:TT):TT:=λ σ H Q=>t σ H λ c H1=>if c=true then Q true H1 else u σ H1 Q
def HX (t:TT):TT:=λ σ H Q=>t σ H λ c H1=>Q (!c) H1
theorem Z3 (ha:PT X a tA):PW X (.BoolOp .And [a] pos) tA:=by
 intro wh pins s σ H Q I h;refine isTrue_and (Av (ha pins s σ H Q I h) λ c s1 e=>?_);cases c with
 | true=>exact isTrue_and_nil e
 | false=>exact e
theorem Xm (ha:PT X a tA):PW X (.BoolOp .Or [a] pos) tA:=by
 intro wh pins s σ H Q I h;refine isTrue_or (Av (ha pins s σ H Q I h) λ c s1 e=>?_);cases c with
 | false=>exact isTrue_or_nil e
 | true=>exact e
theorem Xl (ha:PT X a tA) (hb:PW X (.BoolOp .And (b::AL) pos) tB'):PW X (.BoolOp .And (a::b::AL) pos) (HZ tA tB'):=by
 intro wh pins s σ H Q I h;refine isTrue_and (Av (ha pins s σ H _ I h) λ c s1 ⟨H1,I1,q1⟩=>?_);cases c with
 | true=>exact hb wh pins s1 σ H1 Q I1 q1
 | false=>exact ⟨H1,I1,q1⟩
theorem Wa (ha:PT X a tA) (hb:PW X (.BoolOp .Or (b::AL) pos) tB'):PW X (.BoolOp .Or (a::b::AL) pos) (OF tA tB'):=by
 intro wh pins s σ H Q I h;refine isTrue_or (Av (ha pins s σ H _ I h) λ c s1 ⟨H1,I1,q1⟩=>?_);cases c with
 | true=>exact ⟨H1,I1,q1⟩
 | false=>exact hb wh pins s1 σ H1 Q I1 q1
def Xi (ha:PT X a tA):PT X (.UnaryOp .Not a pos) (HX tA):=by
 intro pins s σ H Q I h;exact isTrue_not (ha pins s σ H (λ c H1=>Q (!c) H1) I h)
def Sj (ta tb:TE):TE:=λ σ H Q=>ta σ H λ x H1=>∃ c,x=.bl c/\if c=true then tb σ H1 Q else Q (.bl false) H1
def Kn (ta tb:TE):TE:=λ σ H Q=>ta σ H λ x H1=>∃ c,x=.bl c/\if c=true then Q (.bl true) H1 else tb σ H1 Q
def Sl (ta:TE):TE:=λ σ H Q=>ta σ H λ x H1=>∃ c,x=.bl c/\Q (.bl (!c)) H1
def Td {op}{t:TE} (h:PE X a t):PE X (.BoolOp op [a] pos) t:=λ pins s σ H Q I hw=>BoolOp_one (h pins s σ H Q I hw)
theorem Xa (ha:PE X a ta) (hb:PE X (.BoolOp .And (b::AL) pos) tb):PE X (.BoolOp .And (a::b::AL) pos) (Sj ta tb):=by
 intro pins s σ H Q I h;refine BoolOp_and (Av (ha pins s σ H _ I h) λ v s1 ⟨x,H1,I1,r1,q1⟩=>?_);obtain ⟨c,rfl,q1⟩:=q1;cases r1;refine FW ?_;cases c with
 | true=>exact hb pins s1 σ H1 Q I1 q1
 | false=>exact ⟨.bl false,H1,I1,rfl,q1⟩
theorem VY (ha:PE X a ta) (hb:PE X (.BoolOp .Or (b::AL) pos) tb):PE X (.BoolOp .Or (a::b::AL) pos) (Kn ta tb):=by
 intro pins s σ H Q I h;refine BoolOp_or (Av (ha pins s σ H _ I h) λ v s1 ⟨x,H1,I1,r1,q1⟩=>?_);obtain ⟨c,rfl,q1⟩:=q1;cases r1;refine FW ?_;cases c with
 | false=>exact hb pins s1 σ H1 Q I1 q1
 | true=>exact ⟨.bl true,H1,I1,rfl,q1⟩
def Xc (ha:PE X a ta):PE X (.UnaryOp .Not a pos) (Sl ta):=by
 intro pins s σ H Q I h;refine UnaryOp_ (Av (ha pins s σ H _ I h) λ v s1 ⟨x,H1,I1,r1,q1⟩=>?_);obtain ⟨c,rfl,q1⟩:=q1;cases r1;exact not_of (FW ⟨.bl (!c),H1,I1,rfl,q1⟩)
end
def AX (K:PySem.W.Frag) (H:Hp) (a:Addr) (xs:List V):Prop:=
 Rd H a (.lst xs) \/
  ∃ (o:Obj) (its:Array Ae) (n:Nat),K.lookup a=some o/\o.cls=.type "list" /\ o.dict=none/\o.data=.seq its n/\its.size<=Am/\Vals xs its.toList
def CL (K:PySem.W.Frag) (H:Hp) (a:Addr) (xs:List V):Prop:=
 Rd H a (.tup xs) \/
  ∃ (o:Obj) (its:Array Ae) (n:Nat),K.lookup a=some o/\o.cls=.type "tuple" /\ o.data=.seq its n/\its.size<=Am/\Vals xs its.toList
def Qn:Ae->Option V
 | .none=>some .non
 | .bool b=>some (.bl b)
 | .int i _=>some (.int i)
 | .str x _=>some (.str x)
 | .bytes b _=>some (.byt b)
 | .float b _=>some (.flt b)
 | .ref a=>some (.ref a)
 | .type n=>some (.ty n)
 | _=>none
theorem RelV.abs {x:V}{u:Ae} (r:RelV x u):Qn u=some x:=by
 cases x with
 | non=>cases r;rfl
 | bl _=>cases r;rfl
 | int _=>obtain ⟨t,rfl⟩:=r;rfl
 | str _=>obtain ⟨t,rfl⟩:=r;rfl
 | byt _=>obtain ⟨t,rfl⟩:=r;rfl
 | flt _=>obtain ⟨t,rfl⟩:=r;rfl
 | ref _=>cases r;rfl
 | ty _=>cases r;rfl
def RelV.inj {x y:V}{u:Ae} (r:RelV x u) (q:RelV y u):x=y:=Option.some.inj (r.abs.symm.trans q.abs)
theorem Vals.inj:∀ {xs ys:List V}{us:List Ae},Vals xs us->Vals ys us->xs=ys
 | _,_,_,.nil,.nil=>rfl
 | _,_,_,.cons r t,.cons r' t'=>by rw [r.inj r',Vals.inj t t']
section
variable {X:Cx}{pins:List (Addr×Obj)}{σ:St}{H:Hp}{s:Ai}{a:Addr}{xs ys:List V}
def Inv.list (I:Inv X pins σ H s) (h:AX X.K H a xs):∃ its:List Ae,Vals xs its/\PlainL s.heap a its.toArray/\xs.length<=Am:=by
 rcases h with h | ⟨o,its,n,hk,hc,hd,hs,hz,r⟩
 ·obtain ⟨z,its,n,r,e⟩:=h.ok I.hok;exact ⟨its,r,⟨_,n,e,rfl,rfl,rfl⟩,z⟩
 ·refine ⟨its.toList,r,⟨o,n,I.kIn a o hk,hc,hd,by simpa using hs⟩,?_⟩;have e:=r.length;simp only [DU] at e;omega
def Inv.tuple (I:Inv X pins σ H s) (h:CL X.K H a xs):∃ its:List Ae,Vals xs its/\IsTup s.heap a its.toArray/\xs.length<=Am:=by
 rcases h with h | ⟨o,its,n,hk,hc,hs,hz,r⟩
 ·obtain ⟨z,its,r,p⟩:=h.ok I.hok;exact ⟨its,r,p,z⟩
 ·refine ⟨its.toList,r,⟨o,I.kIn a o hk,hc,n,by simpa using hs⟩,?_⟩;have e:=r.length;simp only [DU] at e;omega
def Inv.list_inj (I:Inv X pins σ H s) (h:AX X.K H a xs) (h':AX X.K H a ys):xs=ys:=by
 obtain ⟨its,r,⟨o,n,e,_,_,d⟩,_⟩:=I.list h;obtain ⟨its',r',⟨o',n',e',_,_,d'⟩,_⟩:=I.list h';rw [e] at e';cases e';rw [d] at d';injection d' with d1 _
 have:its=its':=by simpa using congrArg UH d1
 subst this;exact r.inj r'
def Inv.tuple_inj (I:Inv X pins σ H s) (h:CL X.K H a xs) (h':CL X.K H a ys):xs=ys:=by
 obtain ⟨its,r,⟨o,e,_,n,d⟩,_⟩:=I.tuple h;obtain ⟨its',r',⟨o',e',_,n',d'⟩,_⟩:=I.tuple h';rw [e] at e';cases e';rw [d] at d';injection d' with d1 _
 have:its=its':=by simpa using congrArg UH d1
 subst this;exact r.inj r'
end
section
variable {X:Cx}{pins:List (Addr×Obj)}{σ:St}{H:Hp}{s:Ai}{E:Ae->Ai->Prop}
end
section
variable {X:Cx}{st:Stmt}{AL:List Stmt}{t u:TS}{e:Expr}{te:TE}{pos:Pos}
def Sk:TS:=λ D σ H=>D.nx σ H
def Km (t u:TS):TS:=λ D σ H=>t { D with nx:=u D } σ H
def Zz:D6 X [] Sk:=λ _ _ σ H _ I h=>Kh ⟨σ,H,I,h⟩
theorem qo (h1:PS X st t) (h2:D6 X AL u):D6 X (st::AL) (Km t u):=by
 intro pins s σ H D I h;refine wpAny_execs_cons (Av (h1 pins s σ H { D with nx:=u D } I h) λ f s1 q=>?_);cases f with
 | next=>
  obtain ⟨σ',H',I',q⟩:=q;exact h2 pins s1 σ' H' D I' q
 | ret v=>exact q
 | brk=>exact q
 | cont=>exact q
theorem J9 (h1:PS X st t):D6 X [st] t:=by
 intro pins s σ H D I h;refine wpAny_execs_cons (Av (h1 pins s σ H D I h) λ f s1 q=>?_);cases f with
 | next=>exact Kh q
 | ret v=>exact q
 | brk=>exact q
 | cont=>exact q
def Inv.quiet {pins:List (Addr×Obj)}{σ:St}{H:Hp}{s:Ai} (I:Inv X pins σ H s):interactive X.env=false:=by simp [interactive,I.ok.kind]
def M5 (te:TE):TS:=λ D σ H=>te σ H λ _ H1=>D.nx σ H1
def Ob (he:PE X e te) (hs:swapsWith e none pos.line X.env=pure false:=by rfl):PS X (.Expr e pos) (M5 te):=by
 intro pins s σ H D I h;exact wpAny_Expr_any (Av (he pins s σ H _ I h) λ v s1 ⟨x,H1,I1,r1,q1⟩=>⟨σ,H1,I1,q1⟩) I.quiet hs
def HW (te:TE):TS:=λ D σ H=>te σ H D.rt
def Tp (he:PE X e te):PS X (.Return (some e) pos) (HW te):=by
 intro pins s σ H D I h;exact wpAny_Return_some (Av (he pins s σ H _ I h) λ v s1 ⟨x,H1,I1,r1,q1⟩=>⟨x,σ,H1,I1,r1,q1⟩)
def HY (c:TT) (t u:TS):TS:=λ D σ H=>c σ H λ b H1=>if b=true then t D σ H1 else u D σ H1
theorem Sg {c:Expr}{a b:List Stmt}{tc:TT} (hc:PT X c tc) (ha:D6 X a t) (hb:D6 X b u):PS X (.If c a b pos) (HY tc t u):=by
 intro pins s σ H D I h;refine wpAny_If (Av (hc pins s σ H _ I h) λ d s1 ⟨H1,I1,q1⟩=>?_);cases d with
 | true=>exact ha pins s1 σ H1 D I1 q1
 | false=>exact hb pins s1 σ H1 D I1 q1
def LJ:TS:=λ _ _ _=>False
def Of:PS X st LJ:=λ _ _ _ _ _ _ h=>h.elim
end
abbrev TG:=V->St->Hp->(St->Hp->Prop)->Prop
abbrev Hn:=List V->St->Hp->(St->Hp->Prop)->Prop
def PG (X:Cx) (target:Expr) (t:TG):Prop:=
 ∀ (pins:List (Addr×Obj)) (s:Ai) (σ:St) (H:Hp) (v:V) (u:Ae) (Q:St->Hp->Prop),Inv X pins σ H s->RelV v u->t v σ H Q ->
  An (Ap X.prog X.w) X.A (FP target X.env u) (λ _ s'=>∃ σ' H',Inv X pins σ' H' s'/\Q σ' H') X.xe s
def Jy (X:Cx) (ts:List Expr) (t:Hn):Prop:=
 ∀ (pins:List (Addr×Obj)) (s:Ai) (σ:St) (H:Hp) (vs:List V) (us:List Ae) (Q:St->Hp->Prop),Inv X pins σ H s->Vals vs us->t vs σ H Q ->
  An (Ap X.prog X.w) X.A (assignInOrder ((DS ts X.env).map (·.2)) us) (λ _ s'=>∃ σ' H',Inv X pins σ' H' s'/\Q σ' H') X.xe s
abbrev TSet:=V->V->V->Hp->(Hp->Prop)->Prop
def PSet (X:Cx) (t:TSet):Prop:=
 ∀ (pins:List (Addr×Obj)) (s:Ai) (σ:St) (H:Hp) (o i v:V) (ov iv u:Ae) (Q:Hp->Prop),Inv X pins σ H s->RelV o ov->RelV i iv->RelV v u->t o i v H Q ->
  An (Ap X.prog X.w) X.A (setItem ov iv u) (λ _ s'=>∃ H',Inv X pins σ H' s'/\Q H') X.xe s
abbrev KZ:=V->V->Hp->VK->Prop
def Jx (X:Cx) (op:Hf) (t:KZ):Prop:=
 ∀ (pins:List (Addr×Obj)) (s:Ai) (σ:St) (H:Hp) (x y:V) (v u:Ae) (Q:VK),Inv X pins σ H s->RelV x v->RelV y u->t x y H Q ->
  An (Ap X.prog X.w) X.A (inplaceOp op v u) (EP X pins σ Q) X.xe s
section
variable {X:Cx}{pos:Pos}
def E1 (i:Nat):TG:=λ v σ H Q=>Q (σ.set i (some v)) H
def LK {i:Nat}{x:Str} (hN:X.N.Nodup) (hi:X.N[i]?=some x) (hx:DJ X.env.scope x) (hf:X.fn x=true\/X.env.scope.names.lookup x=some .local:=by first | exact .inl rfl | exact .inr rfl | assumption):PG X (.Name x pos) (E1 i):=by
 intro pins s σ H v u Q I r h;exact wpAny_assign_Name (Lo I hN hi hx r (λ s' I'=>⟨_,H,I',h⟩) hf)
def KU:Hn:=λ vs σ H Q=>vs=[]/\Q σ H
def RU (t:TG) (u:Hn):Hn:=λ vs σ H Q=>∃ v r,vs=v::r/\t v σ H λ σ' H'=>u r σ' H' Q
def TX:Jy X [] KU:=by
 intro pins s σ H vs us Q I r h;obtain ⟨e,h⟩:=h;subst e;cases r;exact assignInOrder_nil ⟨σ,H,I,h⟩
theorem Rn {e:Expr}{es:List Expr}{t:TG}{u:Hn} (h1:PG X e t) (h2:Jy X es u)
  (hs:(DS (e::es) X.env).map (·.2)=FP e X.env::(DS es X.env).map (·.2):=by rfl):Jy X (e::es) (RU t u):=by
 intro pins s σ H vs us Q I r h;obtain ⟨v,vr,e1,h⟩:=h;subst e1;cases r with
 | cons r rr=>
  rw [hs];refine assignInOrder_cons (Av (h1 pins s σ H _ _ _ I r h) λ _ s1 ⟨σ1,H1,I1,q1⟩=>?_);exact h2 pins s1 σ1 H1 _ _ Q I1 rr q1
def IC (K:PySem.W.Frag) (n:Nat) (t:Hn):TG:=λ v σ H Q=>∃ a xs,v=.ref a/\CL K H a xs/\xs.length=n/\t xs σ H Q
def Pm {es:List Expr}{k:Nat}{t:Hn}{n:Nat} (hc:X.calm=true) (h:Jy X es t)
  (hn:(DS es X.env).length=n:=by rfl) (hst:(DS es X.env).findIdx? (·.1)=none:=by rfl):PG X (.Tuple es k pos) (IC X.K n t):=by
 intro pins s σ H v u Q I r hw;obtain ⟨a,xs,e1,hq,hl,hw⟩:=hw;subst e1;cases r;obtain ⟨its,rv,ht,hz⟩:=I.tuple hq;refine assign_Tuple_tuple (I.ok.hd hc) ht (by simp [hn,<- hl,rv.length]) hst λ h' hx=>?_;have I1:Inv X pins σ H { s with heap:=h' }:=I.kept (t':=s.toks) λ b o e=>hx b o (Bz (AJ e)) e;exact h pins _ σ H xs _ Q I1 (by simpa using rv) hw
def Gr (to ti:TE) (t:TSet):TG:=λ v σ H Q=>to σ H λ o H1=>ti σ H1 λ i H2=>t o i v H2 λ H3=>Q σ H3
def Pl {o i:Expr}{to ti:TE}{t:TSet} (ho:PE X o to) (hi:PE X i ti) (hs:PSet X t)
  (ha:∀ v,FP (.Subscript o i pos) X.env v=(do
   let ov<-Hd [v] (eval o X.env);let iv<-Hd [v,ov] (eval i X.env)
   standAt pos
   Hd [v,ov,iv] (setItem ov iv v)
   release [v,ov,iv] []):=by intro _;rfl):PG X (.Subscript o i pos) (Gr to ti t):=by
 intro pins s σ H v u Q I r h;rw [ha];refine Ax (Hh (Av (ho pins s σ H _ I h) λ ov s1 ⟨x,H1,I1,r1,q1⟩=>?_));refine Ax (Hh (Av (hi pins s1 σ H1 _ I1 q1) λ iv s2 ⟨y,H2,I2,r2,q2⟩=>?_));refine Ax (wpAny_standAt (Ax (Hh (Av (hs pins s2 σ H2 x y v ov iv u _ I2 r1 r2 r q2) λ _ s3 ⟨H3,I3,q3⟩=>?_))));exact wpAny_release ⟨σ,H3,I3,q3⟩
def C9 (te:TE) (g:TG):TS:=λ D σ H=>te σ H λ x H1=>g x σ H1 D.nx
def LB {tg e:Expr}{te:TE}{g:TG} (he:PE X e te) (hg:PG X tg g) (hs:swapsWithSole [tg] e pos.line X.env=pure false:=by rfl) (hw:swappedStores [tg] e X.env=pure none:=by rfl)
  (h1:(DS [tg] X.env).map (·.2)=[FP tg X.env]:=by rfl):PS X (.Assign [tg] e pos) (C9 te g):=by
 intro pins s σ H D I h;refine wpAny_Assign_stores (Av (he pins s σ H _ I h) λ v s1 ⟨x,H1,I1,r1,q1⟩=>?_) hs hw;rw [h1];exact Av (hg pins s1 σ H1 x v _ I1 r1 q1) λ _ s2 q=>q
def LD {i:Nat}{x:Str}{e:Expr}{te:TE}{pos':Pos} (hN:X.N.Nodup) (hi:X.N[i]?=some x) (hx:DJ X.env.scope x) (he:PE X e te) (hs:swapsWith e (some (.Name x pos')) pos.line X.env=pure false:=by rfl) (hf:X.fn x=true\/X.env.scope.names.lookup x=some .local:=by first | exact .inl rfl | exact .inr rfl | assumption):
  PS X (.Assign [.Name x pos'] e pos) (C9 te (E1 i)):=by
 intro pins s σ H D I h;refine wpAny_Assign_Name (Av (he pins s σ H _ I h) λ v s1 ⟨y,H1,I1,r1,q1⟩=>?_) hs;exact Lo I1 hN hi hx r1 (λ s2 I2=>⟨_,H1,I2,q1⟩) hf
def Ko (i:Nat) (te:TE) (ti:KZ):TS:=λ D σ H=>∃ x,σ[i]?=some (some x)/\te σ H λ y H1=>ti x y H1 λ z H2=>D.nx (σ.set i (some z)) H2
def Xg {i:Nat}{x:Str}{e:Expr}{te:TE}{op:Hf}{ti:KZ}{pos':Pos} (hN:X.N.Nodup) (hi:X.N[i]?=some x) (hx:DJ X.env.scope x) (he:PE X e te) (ho:Jx X op ti) (hf:X.fn x=true\/X.env.scope.names.lookup x=some .local:=by first | exact .inl rfl | exact .inr rfl | assumption):
  PS X (.AugAssign (.Name x pos') op e pos) (Ko i te ti):=by
 intro pins s σ H D I h;obtain ⟨v,e1,h⟩:=h;obtain ⟨m,hn,hl⟩:=I.loc;have vis:GC X.env.scope x:=by rcases hx with k | k;exact .inl k;exact .inr (.inl k)
 obtain ⟨u,r,l⟩:=hl i x v hi e1 vis;refine wpAny_AugAssign_Name ?_;have go:An (Ap X.prog X.w) X.A (eval e X.env) (λ w s₂=>An (Ap X.prog X.w) X.A (inplaceOp op u w) (λ r s₃=>An (Ap X.prog X.w) X.A (storeName X.env x r) (λ _=>SP X pins D .next) X.xe s₃) X.xe s₂) X.xe s:=by
  refine Av (he pins s σ H _ I h) λ w s1 ⟨y,H1,I1,r1,q1⟩=>?_;refine Av (ho pins s1 σ H1 v y u w _ I1 r r1 q1) λ z s2 ⟨zv,H2,I2,r2,q2⟩=>?_;exact Lo I2 hN hi hx r2 (λ s3 I3=>⟨_,H2,I3,q2⟩) hf
 rcases l with ⟨hk,hm⟩ | ⟨hk,c,hc,hcell⟩
 ·exact wpAny_loadName_local I.ok.kind hk hn hm go
 ·rcases hk with hk | hk
  ·exact wpAny_loadName_cell I.ok.kind hk hc hcell go
  ·rcases hx with k | k
   ·have:X.env.scope.names.lookup x=some .free:=hk
    rw [k] at this;cases this
   ·have:X.env.scope.names.lookup x=some .free:=hk
    rw [k] at this;cases this
def Qb (f:Int->Int->Int):KZ:=λ x y H Q=>∃ i j,x=.int i/\y=.int j/\Q (.int (f i j)) H
def W8:Jx X .Add (Qb λ i j=>i + j):=by
 intro pins s σ H x y v u Q I r1 r2 h;obtain ⟨i,j,e1,e2,q⟩:=h;subst e1;subst e2;obtain ⟨t,rfl⟩:=r1;obtain ⟨t',rfl⟩:=r2;exact iadd_int ⟨.int _,H,I.tok _,⟨_,rfl⟩,q⟩
def W9:Jx X .Sub (Qb λ i j=>i - j):=by
 intro pins s σ H x y v u Q I r1 r2 h;obtain ⟨i,j,e1,e2,q⟩:=h;subst e1;subst e2;obtain ⟨t,rfl⟩:=r1;obtain ⟨t',rfl⟩:=r2;exact isub_int ⟨.int _,H,I.tok _,⟨_,rfl⟩,q⟩
end
section
variable {X:Cx}{pos:Pos}
def Tg (c:TT) (tb:TS):TS:=λ D σ H=>∃ W:Nat->St->Hp->Prop,(∃ m,W m σ H)/\∀ m σ H,W m σ H ->
 c σ H λ b H1=>if b=true then ∃ N:St->Hp->Prop,(∀ σ' H',N σ' H'->∃ m',m' < m/\W m' σ' H')/\tb { D with nx:=N,ct:=N,bk:=D.nx } σ H1 else D.nx σ H1
theorem qm {c:Expr}{body:List Stmt}{tc:TT}{tb:TS} (hp:Jc (Ap X.prog X.w) X.A X.env X.xe) (hc:PT X c tc) (hb:D6 X body tb):PS X (.While c body [] pos) (Tg tc tb):=by
 intro pins s σ H D I h;obtain ⟨W,⟨m0,w0⟩,turn⟩:=h;refine wpAny_While (codeAny_whileLoop (λ n s'=>∃ σ' H',Inv X pins σ' H' s'/\W n σ' H') ?_ m0 ⟨σ,H,I,w0⟩);rintro n s1 ⟨σ1,H1,I1,w1⟩;refine HR hp (Av (hc pins s1 σ1 H1 _ I1 (turn n σ1 H1 w1)) λ b s2 ⟨H2,I2,q2⟩=>?_);cases b with
 | true=>
  obtain ⟨N,hN,q2⟩:=q2;rw [if_pos rfl];refine HR hp (Av (hb pins s2 σ1 H2 _ I2 q2) λ f s3 q3=>?_);cases f with
  | next=>
   obtain ⟨σ3,H3,I3,n3⟩:=q3;obtain ⟨m',hm,w3⟩:=hN σ3 H3 n3;exact ⟨m',hm,σ3,H3,I3,w3⟩
  | cont=>
   obtain ⟨σ3,H3,I3,n3⟩:=q3;obtain ⟨m',hm,w3⟩:=hN σ3 H3 n3;exact ⟨m',hm,σ3,H3,I3,w3⟩
  | brk=>exact q3
  | ret v=>exact q3
 | false=>
  rw [if_neg Di];exact Kh ⟨σ1,H2,I2,q2⟩
end
structure It where
 go:Nat->Hp->Prop
 yld:Nat->Hp->V->Hp->Prop
 stop:Nat->Hp->Prop
def BX (X:Cx) (pins:List (Addr×Obj)) (H:Hp) (b:Addr):Prop:=
 H b=none/\b≠X.env.locals/\b∉X.fs/\(b∈X.ex\/X.s₀.heap.objs.size<=b)/\(∀ x c,X.env.cells.lookup x=some c->c≠b)/\∀ p∈X.pn++pins,p.1≠b
def Inv.fpOk {X:Cx}{pins:List (Addr×Obj)}{σ:St}{H H':Hp}{s:Ai}{b:Addr} (I:Inv X pins σ H s) (hb:s.heap.objs.size<=b) (hn:H' b=none):BX X pins H' b:=by
 refine ⟨hn,Ft (Bv I.lt hb),I.nofs hb,.inr (Cg I.sz hb),λ x c e z=>?_,λ p hp z=>?_⟩
 ·obtain ⟨v,q⟩:=I.cell x c e;exact absurd (Bv q.lt (by rw [z];exact hb)) (E9 _)
 ·exact absurd (Bv (AJ (I.pin p hp).1) (by rw [z];exact hb)) (E9 _)
structure Turn (P:A0) (w:Ay) (K:PySem.W.Frag) (tg:Expr) (J:It) (fp:List Addr) (it:Addr) (tn:Nat->Heap->Prop):Prop where
 mem:it∈fp
 obj:∀ i h,tn i h->∀ b∈fp,∃ o,h.get? b=some o/\∀ v,o.data≠.cell v
 keep:∀ i h h',tn i h->(∀ b∈fp,∀ o,h.get? b=some o->h'.get? b=some o)->tn i h'
 item:∀ (X:Cx),X.prog=P->X.w=w->X.K=K->X.calm=true->∀ (i:Nat) (pins:List (Addr×Obj)) (s:Ai) (σ:St) (H:Hp) (E:Ae->Ai->Prop),Inv X pins σ H s->(∀ b∈fp,BX X pins H b)->tn i s.heap->J.go i H ->
  An (Ap P w) X.A (pyNext (.ref it)) (λ r s1=>∃ u,r=some u /\
   An (Ap P w) X.A (LZ tg (.ref it) u) (λ _ s2=>∃ x H',Inv X pins σ H' s2/\RelV x u/\J.yld i H x H'/\tn (i + 1) s2.heap/\∀ b∈fp,H' b=none) E s1) E s
 done:∀ (X:Cx),X.prog=P->X.w=w->X.K=K->X.calm=true->∀ (i:Nat) (pins:List (Addr×Obj)) (s:Ai) (σ:St) (H:Hp) (E:Ae->Ai->Prop),Inv X pins σ H s->(∀ b∈fp,BX X pins H b)->tn i s.heap->J.stop i H ->
  An (Ap P w) X.A (pyNext (.ref it)) (λ r s1=>r=none/\Inv X pins σ H s1) E s
 self:∀ (A:AU) (i:Nat) (s:Ai) (Q:Ae->Ai->Prop) (E:Ae->Ai->Prop),tn i s.heap->Q (.ref it) s->An (Ap P w) A (pyIter (.ref it)) Q E s
abbrev TI:=St->Hp->(It->Hp->Prop)->Prop
def Vo (X:Cx) (pins:List (Addr×Obj)) (σ:St) (tg:Expr) (R:It->Hp->Prop) (itv:Ae) (s2:Ai):Prop:=
 ∃ (it:Addr) (fp:List Addr) (tn:Nat->Heap->Prop) (J:It) (H':Hp),itv=.ref it/\Inv X pins σ H' s2/\Turn X.prog X.w X.K tg J fp it tn/\tn 0 s2.heap/\(∀ b∈fp,BX X pins H' b)/\R J H'
def PI (X:Cx) (tg iter:Expr) (wi:TI):Prop:=
 ∀ (pins:List (Addr×Obj)) (s:Ai) (σ:St) (H:Hp) (R:It->Hp->Prop),Inv X pins σ H s->wi σ H R ->
  An (Ap X.prog X.w) X.A (eval iter X.env) (λ v s1=>An (Ap X.prog X.w) X.A (pyIter v) (Vo X pins σ tg R) X.xe s1) X.xe s
def K0 {M:Model}{A:AU}{E:Ae->Ai->Prop}{s:Ai}{tg:Expr}{it:Addr}{u:Ae}{o:Obj}{n:String}{vs:Array Ae}{Q:Unit->Ai->Prop} (ho:s.heap.get? it=some o) (hc:o.cls=.type n) (hd:o.data=.fields vs)
  (hn:["enumerate","zip","dict_itemiterator","dict_reverseitemiterator","odict_iterator","itertools.zip_longest","itertools.pairwise"].contains n=false) (hQ:Q () s):An M A (LZ tg (.ref it) u) Q E s:=by
 unfold LZ;cases tg <;> first
  | exact AE hQ
  | (cases u <;> first
    | exact AE hQ
    | (refine Ax (wpAny_load ho ?_);rw [hc,hd];show An M A (if (["enumerate","zip","dict_itemiterator","dict_reverseitemiterator","odict_iterator","itertools.zip_longest","itertools.pairwise"].contains n && vs[0]? == some (rawInt _))=true then _ else _) Q E s;rw [if_neg (by intro h;rw [hn,Bool.false_and] at h;cases h)];exact AE hQ))
def Vr (K:PySem.W.Frag) (a:Addr):It:=
 ⟨λ i H=>∃ xs x,AX K H a xs/\xs[i]?=some x,λ i H x H'=>H'=H/\∀ xs,AX K H a xs->xs[i]?=some x,λ i H=>∃ xs,AX K H a xs/\xs.length<=i⟩
def Vq (K:PySem.W.Frag) (a:Addr):It:=
 ⟨λ i H=>∃ xs x,CL K H a xs/\xs[i]?=some x,λ i H x H'=>H'=H/\∀ xs,CL K H a xs->xs[i]?=some x,λ i H=>∃ xs,CL K H a xs/\xs.length<=i⟩
def Fy (lo:Int) (n:Nat):It:=⟨λ i _=>i < n,λ i H x H'=>H'=H/\x=.int (lo + i),λ i _=>n<=i⟩
def xM {P:A0}{w:Ay}{K:PySem.W.Frag}{tg:Expr} (a it:Addr):Turn P w K tg (Vr K a) [it] it (λ i h=>h.IsListIter it a i) where
 mem:=by simp
 obj:=λ i h st b hb=>by
  have e:b=it:=by simpa using hb
  subst e;obtain ⟨o,e,c,d⟩:=st;exact ⟨o,e,λ v z=>by rw [d] at z;cases z⟩
 keep:=λ i h h' st k=>st.at λ o e=>k it (by simp) o e
 item:=by
  intro X hP hw hK hc i pins s σ H E I hf st hg;subst hP hw hK;obtain ⟨xs,x,hq,hx⟩:=hg;obtain ⟨its,rv,p,hz⟩:=I.list hq;obtain ⟨u,hu,ru⟩:=rv.get hx;obtain ⟨f0,f1,f2,f3,f4,f5⟩:=hf it (by simp);refine wpAny_pyNext_list_item st p.isList (x:=u) (by simpa using hu) λ h' st' sb=>?_;have I1:Inv X pins σ H { s with heap:=h' }:=I.turned (t':=s.toks) (λ b o hb e=>(sb.2 b hb).trans e) f0 f1 f3 f4 f5;obtain ⟨o,e,c,d⟩:=id st';exact ⟨u,rfl,K0 (s:={ s with heap:=h' }) e c d (by decide) ⟨x,H,I1,ru,⟨rfl,λ ys hy=>by rw [I.list_inj hy hq];exact hx⟩,st',λ b hb=>(hf b hb).1⟩⟩
 done:=by
  intro X hP hw hK hc i pins s σ H E I hf st hg;subst hP hw hK;obtain ⟨xs,hq,hx⟩:=hg;obtain ⟨its,rv,p,hz⟩:=I.list hq;obtain ⟨f0,f1,f2,f3,f4,f5⟩:=hf it (by simp);have hl:=rv.length;exact wpAny_pyNext_list_end (I.ok.hd hc) st p.isList (by simp;omega) λ h' eb=>⟨rfl,I.turned (t':=s.toks) (λ b o hb e=>eb b o hb e) f0 f1 f3 f4 f5⟩
 self:=λ _ _ _ _ _ st h=>wpAny_pyIter_listiter st h
def zl {P:A0}{w:Ay}{K:PySem.W.Frag}{tg:Expr} (a it:Addr):Turn P w K tg (Vq K a) [it] it (λ i h=>h.IsTupleIter it a i) where
 mem:=by simp
 obj:=λ i h st b hb=>by
  have e:b=it:=by simpa using hb
  subst e;obtain ⟨o,e,c,d⟩:=st;exact ⟨o,e,λ v z=>by rw [d] at z;cases z⟩
 keep:=λ i h h' st k=>st.at λ o e=>k it (by simp) o e
 item:=by
  intro X hP hw hK hc i pins s σ H E I hf st hg;subst hP hw hK;obtain ⟨xs,x,hq,hx⟩:=hg;obtain ⟨its,rv,p,hz⟩:=I.tuple hq;obtain ⟨u,hu,ru⟩:=rv.get hx;obtain ⟨f0,f1,f2,f3,f4,f5⟩:=hf it (by simp);refine wpAny_pyNext_tuple_item st (show s.heap.IsTuple a its.toArray from p) (x:=u) (by simpa using hu) λ h' st' sb=>?_;have I1:Inv X pins σ H { s with heap:=h' }:=I.turned (t':=s.toks) (λ b o hb e=>(sb.2 b hb).trans e) f0 f1 f3 f4 f5;obtain ⟨o,e,c,d⟩:=id st';exact ⟨u,rfl,K0 (s:={ s with heap:=h' }) e c d (by decide) ⟨x,H,I1,ru,⟨rfl,λ ys hy=>by rw [I.tuple_inj hy hq];exact hx⟩,st',λ b hb=>(hf b hb).1⟩⟩
 done:=by
  intro X hP hw hK hc i pins s σ H E I hf st hg;subst hP hw hK;obtain ⟨xs,hq,hx⟩:=hg;obtain ⟨its,rv,p,hz⟩:=I.tuple hq;obtain ⟨f0,f1,f2,f3,f4,f5⟩:=hf it (by simp);have hl:=rv.length;exact wpAny_pyNext_tuple_end (I.ok.hd hc) st (show s.heap.IsTuple a its.toArray from p) (by simp;omega) λ h' eb=>⟨rfl,I.turned (t':=s.toks) (λ b o hb e=>eb b o hb e) f0 f1 f3 f4 f5⟩
 self:=λ _ _ _ _ _ st h=>wpAny_pyIter_tupleiter st h
def zk {P:A0}{w:Ay}{K:PySem.W.Frag}{tg:Expr} (it:Addr) (lo:Int) (n:Nat):Turn P w K tg (Fy lo n) [it] it (λ i h=>IsRangeIter h it (lo + (i:Nat) * 1) ((n:Int) - (i:Nat)) 1) where
 mem:=by simp
 obj:=λ i h st b hb=>by
  have e:b=it:=by simpa using hb
  subst e;exact ⟨_,st,λ v z=>by
   have z':Data.fields _=Data.cell v:=z;cases z'⟩
 keep:=λ i h h' st k=>k it (by simp) _ st
 item:=by
  intro X hP hw hK hc i pins s σ H E I hf st hg;subst hP hw hK;obtain ⟨f0,f1,f2,f3,f4,f5⟩:=hf it (by simp);have W:=Walks.range (prog:=X.prog) (w:=X.w) (I.ok.hd hc) it lo 1 n;refine W.item i s _ _ hg st λ v h' tk hv st' kk=>?_;obtain ⟨t,rfl⟩:=hv;have I1:Inv X pins σ H { s with heap:=h',toks:=tk }:=I.turned (λ b o hb e=>kk b o (by simpa using hb) e) f0 f1 f3 f4 f5;refine ⟨_,rfl,K0 (s:={ s with heap:=h',toks:=tk }) (n := "range_iterator") st' rfl rfl (by decide) ⟨.int (lo + i),H,I1,⟨t,?_⟩,⟨rfl,rfl⟩,st',λ b hb=>(hf b hb).1⟩⟩;rw [Int.mul_one]
 done:=by
  intro X hP hw hK hc i pins s σ H E I hf st hg;subst hP hw hK;obtain ⟨f0,f1,f2,f3,f4,f5⟩:=hf it (by simp);exact wpAny_pyNext_range_end (I.ok.hd hc) st (by have:n<=i:=hg;omega) λ h' eb=>⟨rfl,I.turned (t':=s.toks) (λ b o hb e=>eb b o hb e) f0 f1 f3 f4 f5⟩
 self:=λ _ _ _ _ _ st h=>wpAny_pyIter_rangeiter st h
section
variable {X:Cx}{tg:Expr}
def Ro {pins:List (Addr×Obj)}{σ:St}{H:Hp}{s:Ai}{R:It->Hp->Prop}{E:Ae->Ai->Prop}{lo hi:Int}{t u v:Tok}{tk:Nat} (I:Inv X pins σ H s) (h1:-(2 ^ 62)<=lo) (h2:lo < 2 ^ 62) (h3:-(2 ^ 62)<=hi) (h4:hi < 2 ^ 62)
  (q:R (Fy lo (hi - lo).toNat) H):An (Ap X.prog X.w) X.A (pyIter (.ref s.heap.objs.size)) (Vo X pins σ tg R) E { s with heap:=s.heap.push { cls:=.type "range",data:=.fields #[.int lo t,.int hi u,.int 1 v] },toks:=tk }:=by
 refine wpAny_pyIter_range (IsRange.new ..) (small_one h1 h2 h3 h4) ?_;have I1:Inv X pins σ H { s with heap:=s.heap.push { cls:=.type "range",data:=.fields #[.int lo t,.int hi u,.int 1 v] },toks:=tk }:=I.kept λ b o e=>BZ _ e;refine ⟨(s.heap.push { cls:=.type "range",data:=.fields #[.int lo t,.int hi u,.int 1 v] }).objs.size,[(s.heap.push { cls:=.type "range",data:=.fields #[.int lo t,.int hi u,.int 1 v] }).objs.size],_,_,H,rfl,
  I1.kept (t':=tk) λ b o e=>BZ _ e,zk _ lo (hi - lo).toNat,?_,λ b hb=>?_,q⟩
 ·have e1:lo + ((0:Nat):Int) * 1=lo:=by simp
  have e2:(((hi - lo).toNat:Nat):Int) - ((0:Nat):Int)=Builtin.Range.rangeSize lo hi 1:=by rw [rangeSize_one];split <;> omega
  show IsRangeIter _ _ (lo + ((0:Nat):Int) * 1) ((((hi - lo).toNat:Nat):Int) - ((0:Nat):Int)) 1;rw [e1,e2];exact Df _ rfl
 ·have e:b=(s.heap.push { cls:=.type "range",data:=.fields #[.int lo t,.int hi u,.int 1 v] }).objs.size:=by simpa using hb
  subst e;exact I1.fpOk (A7 _) (I1.hok.fresh (A7 _))
def My (ta:TA):TI:=λ σ H R=>ta σ H λ vs H1=>∃ j:Int,vs=[.int j]/\-(2 ^ 62)<=j/\j < 2 ^ 62/\R (Fy 0 j.toNat) H1
def Mz (ta:TA):TI:=λ σ H R=>ta σ H λ vs H1=>∃ i j:Int,vs=[.int i,.int j]/\(-(2 ^ 62)<=i/\i < 2 ^ 62/\-(2 ^ 62)<=j/\j < 2 ^ 62)/\R (Fy i (j - i).toNat) H1
theorem x8 {a:Expr}{ta:TA}{p pos:Pos} (hg:Gl X "range") (hm:X.mg "range" = none) (ha:PA X [a] ta) (hs:A6 [a] X.env=[(false,eval a X.env)]:=by rfl):PI X tg (.Call (.Name "range" p) [a] [] pos) (My ta):=by
 intro pins s σ H R I h;refine Call_ (Ha I hg hm boot_range (Jg (Av (ha pos pins s σ H _ I h) λ us s1 ⟨vs,H1,I1,r1,q1⟩=>?_) hs rfl));obtain ⟨j,e,q1,q2,q⟩:=q1;subst e;cases r1 with
 | cons r rr=>
  cases rr;obtain ⟨t,rfl⟩:=r;exact call_range_1 (Ro I1 (by omega) (by omega) q1 q2 (by simpa using q))
theorem x9 {a b:Expr}{ta:TA}{p pos:Pos} (hg:Gl X "range") (hm:X.mg "range" = none) (ha:PA X [a,b] ta) (hs:A6 [a,b] X.env=[(false,eval a X.env),(false,eval b X.env)]:=by rfl) (hs2:A6 [b] X.env=[(false,eval b X.env)]:=by rfl):
  PI X tg (.Call (.Name "range" p) [a,b] [] pos) (Mz ta):=by
 intro pins s σ H R I h;refine Call_ (Ha I hg hm boot_range (Jg (Av (ha pos pins s σ H _ I h) λ us s1 ⟨vs,H1,I1,r1,q1⟩=>?_) (by rw [hs,hs2]) (by rw [hs2];rfl)));obtain ⟨i,j,e,⟨q1,q2,q3,q4⟩,q⟩:=q1;subst e;cases r1 with
 | cons r rr=>
  cases rr with
  | cons r' rr=>
   cases rr;obtain ⟨t,rfl⟩:=r;obtain ⟨t',rfl⟩:=r';exact call_range_2 (Ro I1 q1 q2 q3 q4 q)
def EM (wi:TI) (g:TG) (tb:TS):TS:=λ D σ H=>wi σ H λ J H1=>∃ W:Nat->Nat->St->Hp->Prop,(∃ m,W 0 m σ H1)/\∀ i m σ H,W i m σ H ->
 (J.stop i H/\D.nx σ H)\/(J.go i H/\∃ N:St->Hp->Prop,(∀ σ' H',N σ' H'->∃ m',m' < m/\W (i + 1) m' σ' H')/\∀ x H',J.yld i H x H'->g x σ H' λ σ2 H2=>tb { D with nx:=N,ct:=N,bk:=D.nx } σ2 H2)
def JM (fp:List Addr) (h:Heap):List (Addr×Obj):=fp.filterMap λ b=>(h.get? b).map λ o=>(b,o)
def Lq {fp:List Addr}{h:Heap}{b:Addr}{o:Obj} (hb:b∈fp) (e:h.get? b=some o):(b,o)∈JM fp h:=jg8.mpr ⟨b,hb,by rw [e];rfl⟩
theorem xI {fp:List Addr}{h:Heap}{p:Addr×Obj} (hp:p∈JM fp h):p.1∈fp/\h.get? p.1=some p.2:=by
 obtain ⟨b,hb,e⟩:=jg8.mp hp;cases q:h.get? b with
 | none=>rw [q] at e;cases e
 | some o=>
  rw [q] at e;have e':(b,o)=p:=Option.some.inj e;subst e';exact ⟨hb,q⟩
def Inv.pinned {pins:List (Addr×Obj)}{σ:St}{H:Hp}{s:Ai}{fp:List Addr} (I:Inv X pins σ H s) (hf:∀ b∈fp,BX X pins H b) (ho:∀ b∈fp,∃ o,s.heap.get? b=some o/\∀ v,o.data≠.cell v):Inv X (pins++JM fp s.heap) σ H s:=
 I.pins_of λ p hp=>(jc2.mp hp).elim (λ z=>I.pin p (BI _ z)) λ z=>by
  obtain ⟨hb,e⟩:=xI z;obtain ⟨f0,f1,f2,_⟩:=hf p.1 hb;obtain ⟨o,e',d⟩:=ho p.1 hb;rw [e] at e';cases e';exact ⟨e,f0,f1,f2,d⟩
def Inv.unpinned {pins pl:List (Addr×Obj)}{σ:St}{H:Hp}{s:Ai} (I:Inv X (pins++pl) σ H s):Inv X pins σ H s:=I.pins_of λ p hp=>I.pin p (BI _ (BM _ hp))
def Hb {iter:Expr}{body:List Stmt}{wi:TI}{g:TG}{tb:TS}{pos:Pos} (hp:Jc (Ap X.prog X.w) X.A X.env X.xe) (hc:X.calm=true) (hi:PI X tg iter wi) (hg:PG X tg g) (hb:D6 X body tb)
  (hs:∀ x,Ma iter X.env x=pure x:=by intro _;rfl):PS X (.For tg iter body [] pos) (EM wi g tb):=by
 intro pins s σ H D I h;refine wpAny_For (Av (hi pins s σ H _ I h) λ v s1 h1=>Av h1 λ itv s2 h2=>?_) hs;obtain ⟨it,fp,tn,J,H2,e,I2,T,st2,f2,W,⟨m0,w0⟩,turn⟩:=h2;subst e;have stat:∀ {H':Hp},(∀ b∈fp,H' b=none)->∀ b∈fp,BX X pins H' b:=λ hn b hb=>⟨hn b hb,(f2 b hb).2⟩
 refine codeAny_forLoop_any (λ n s'=>∃ i σ' H',Inv X pins σ' H' s'/\tn i s'.heap/\(∀ b∈fp,H' b=none)/\W i n σ' H') ?_ m0 ⟨0,σ,H2,I2,st2,λ b hb=>(f2 b hb).1,w0⟩;rintro n s3 ⟨i,σ3,H3,I3,st3,fr3,w3⟩;rcases turn i n σ3 H3 w3 with ⟨stop,qn⟩ | ⟨go,N,hN,step⟩
 ·refine HR hp (Av (T.done X rfl rfl rfl hc i pins s3 σ3 H3 X.xe I3 (stat fr3) st3 stop) λ r s4 ⟨hr,I4⟩=>?_);subst hr;exact Kh ⟨σ3,H3,I4,qn⟩
 ·refine HR hp (Av (T.item X rfl rfl rfl hc i pins s3 σ3 H3 X.xe I3 (stat fr3) st3 go) λ r s4 ⟨u,hr,h4⟩=>?_);subst hr;refine HR hp (Av h4 λ _ s5 ⟨x,H5,I5,r5,y5,Hi,fr5⟩=>?_);have I5':=I5.pinned (stat fr5) (T.obj _ _ Hi);refine HR hp (Av (hg _ s5 σ3 H5 x u _ I5' r5 (step x H5 y5)) λ _ s6 ⟨σ6,H6,I6,q6⟩=>?_);refine HR hp (Av (hb _ s6 σ6 H6 _ I6 q6) λ f s7 q7=>?_);have again:∀ {σ7:St}{H7:Hp},Inv X (pins++JM fp s5.heap) σ7 H7 s7->N σ7 H7->∃ m,m < n/\∃ i σ' H',Inv X pins σ' H' s7/\tn i s7.heap/\(∀ b∈fp,H' b=none)/\W i m σ' H':=λ {σ7 H7} I7 n7=>by
   obtain ⟨m',hm,w7⟩:=hN σ7 H7 n7;refine ⟨m',hm,i + 1,σ7,H7,I7.unpinned,T.keep _ _ _ Hi λ b hb o e=>(I7.pin (b,o) (BI _ (BI _ (Lq hb e)))).1,λ b hb=>?_,w7⟩;obtain ⟨o,e,d⟩:=T.obj _ _ Hi b hb;exact (I7.pin (b,o) (BI _ (BI _ (Lq hb e)))).2.1
  cases f with
  | next=>obtain ⟨σ7,H7,I7,n7⟩:=q7;exact again I7 n7
  | cont=>obtain ⟨σ7,H7,I7,n7⟩:=q7;exact again I7 n7
  | brk=>obtain ⟨σ7,H7,I7,q7⟩:=q7;exact ⟨σ7,H7,I7.unpinned,q7⟩
  | ret v=>obtain ⟨x7,σ7,H7,I7,r7,q7⟩:=q7;exact ⟨x7,σ7,H7,I7.unpinned,r7,q7⟩
end
abbrev R2:=V->V->Hp->VK->Prop
def OpR (X:Cx) (f:Ae->Ae->Sem Ae) (r:R2):Prop:=
 ∀ (pins:List (Addr×Obj)) (s:Ai) (σ:St) (H:Hp) (x y:V) (v u:Ae) (Q:VK),Inv X pins σ H s->RelV x v->RelV y u->r x y H Q ->
  An (Ap X.prog X.w) X.A (f v u) (EP X pins σ Q) X.xe s
def Qo (X:Cx) (f:Ae->Sem Ae) (r:V->Hp->VK->Prop):Prop:=
 ∀ (pins:List (Addr×Obj)) (s:Ai) (σ:St) (H:Hp) (x:V) (v:Ae) (Q:VK),Inv X pins σ H s->RelV x v->r x H Q ->
  An (Ap X.prog X.w) X.A (f v) (EP X pins σ Q) X.xe s
def zzo (X:Cx) (f:Ae) (r:List V->Hp->VK->Prop):Prop:=
 ∀ (pins:List (Addr×Obj)) (s:Ai) (σ:St) (H:Hp) (xs:List V) (us:List Ae) (Q:VK),Inv X pins σ H s->Vals xs us->r xs H Q ->
  An (Ap X.prog X.w) X.A (call f us) (EP X pins σ Q) X.xe s
def Jh (r:R2) (ta tb:TE):TE:=λ σ H Q=>ta σ H λ x H1=>tb σ H1 λ y H2=>r x y H2 Q
def OD (r:V->Hp->VK->Prop) (ta:TE):TE:=λ σ H Q=>ta σ H λ x H1=>r x H1 Q
def rI (C:Int->Int->Prop) (g:Int->Int->V):R2:=λ x y H Q=>∃ i j,x=.int i/\y=.int j/\C i j/\Q (g i j) H
def E6 (g:Int->Int->V):R2:=λ x y H Q=>∃ i j,x=.int i/\y=.int j/\Q (g i j) H
def rU (g:Int->V):V->Hp->VK->Prop:=λ x H Q=>∃ i,x=.int i/\Q (g i) H
section
variable {X:Cx}{a b c:Expr}{ta tb tc:TE}{pos:Pos}
def IE (ha:PE X a ta) (hb:PE X b tb) {pins:List (Addr×Obj)}{s:Ai}{σ:St}{H:Hp}{R:V->V->Hp->Prop} (I:Inv X pins σ H s)
  (h:ta σ H λ x H1=>tb σ H1 λ y H2=>R x y H2) {Q:Ae->Ai->Prop}{f:Ae->Ae->Sem Ae}
  (hf:∀ v u s2 x y H2,Inv X pins σ H2 s2->RelV x v->RelV y u->R x y H2->An (Ap X.prog X.w) X.A (f v u) Q X.xe s2):
  An (Ap X.prog X.w) X.A (eval a X.env) (λ v s₁=>An (Ap X.prog X.w) X.A (eval b X.env) (λ u s₂=>An (Ap X.prog X.w) X.A (f v u) Q X.xe s₂) X.xe s₁) X.xe s:=by
 refine Av (ha pins s σ H _ I h) λ v s1 ⟨x,H1,I1,r1,q1⟩=>?_;refine Av (hb pins s1 σ H1 _ I1 q1) λ u s2 ⟨y,H2,I2,r2,q2⟩=>?_;exact hf v u s2 x y H2 I2 r1 r2 q2
def Mw {op:Hf}{r:R2} (ho:OpR X (DD op) r) (ha:PE X a ta) (hb:PE X b tb):PE X (.BinOp a op b pos) (Jh r ta tb):=by
 intro pins s σ H Q I h;exact wpAny_BinOp (IE ha hb I h λ v u s2 x y H2 I2 rx ry q=>ho pins s2 σ H2 x y v u Q I2 rx ry q)
def Sf {op:UnaryOp}{r:V->Hp->VK->Prop} (ho:Qo X (unaryOp op) r) (ha:PE X a ta):PE X (.UnaryOp op a pos) (OD r ta):=by
 intro pins s σ H Q I h;exact UnaryOp_ (Av (ha pins s σ H _ I h) λ v s1 ⟨x,H1,I1,r1,q1⟩=>ho pins s1 σ H1 x v Q I1 r1 q1)
def K5 {f:Ae->Ae->Sem Ae}{C:Int->Int->Prop}{g:Int->Int->Int}
  (rule:∀ (i j:Int) (t u:Tok) (s:Ai) (Q:Ae->Ai->Prop) (E:Ae->Ai->Prop),C i j->Q (.int (g i j) s.toks) { s with toks:=s.toks + 1 }->An (Ap X.prog X.w) X.A (f (.int i t) (.int j u)) Q E s):
  OpR X f (rI C λ i j=>.int (g i j)):=by
 intro pins s σ H x y v u Q I rx ry h;obtain ⟨i,j,rfl,rfl,hc,q⟩:=h;obtain ⟨t,rfl⟩:=rx;obtain ⟨t',rfl⟩:=ry;exact rule i j t t' s _ _ hc ⟨.int (g i j),H,I.tok _,⟨_,rfl⟩,q⟩
def Pw {f:Ae->Ae->Sem Ae}{g:Int->Int->Int}
  (rule:∀ (i j:Int) (t u:Tok) (s:Ai) (Q:Ae->Ai->Prop) (E:Ae->Ai->Prop),Q (.int (g i j) s.toks) { s with toks:=s.toks + 1 }->An (Ap X.prog X.w) X.A (f (.int i t) (.int j u)) Q E s):
  OpR X f (E6 λ i j=>.int (g i j)):=by
 intro pins s σ H x y v u Q I rx ry h;obtain ⟨i,j,rfl,rfl,q⟩:=h;obtain ⟨t,rfl⟩:=rx;obtain ⟨t',rfl⟩:=ry;exact rule i j t t' s _ _ ⟨.int (g i j),H,I.tok _,⟨_,rfl⟩,q⟩
def Gd {f:Ae->Ae->Sem Ae}{g:Int->Int->Bool}
  (rule:∀ (i j:Int) (t u:Tok) (s:Ai) (Q:Ae->Ai->Prop) (E:Ae->Ai->Prop),Q (.bool (g i j)) s->An (Ap X.prog X.w) X.A (f (.int i t) (.int j u)) Q E s):
  OpR X f (E6 λ i j=>.bl (g i j)):=by
 intro pins s σ H x y v u Q I rx ry h;obtain ⟨i,j,rfl,rfl,q⟩:=h;obtain ⟨t,rfl⟩:=rx;obtain ⟨t',rfl⟩:=ry;exact rule i j t t' s _ _ ⟨.bl (g i j),H,I,rfl,q⟩
def Lc (i j:Int):Prop:=0<=j/\j<=1000000/\i.natAbs < 2 ^ 64
def CMul (i j:Int):Prop:=(-(2 ^ 64) < i/\i < 2 ^ 64)\/(-(2 ^ 64) < j/\j < 2 ^ 64)
def CMul.ok {i j:Int} (h:CMul i j):IntMulOk i j:=by
 rcases h with ⟨h1,h2⟩ | ⟨h1,h2⟩
 ·exact .of_left (intBits_le_64 h1 h2)
 ·exact .of_right (intBits_le_64 h1 h2)
def qm4:OpR X (DD .Add) (E6 λ i j=>.int (i + j)):=Pw λ _ _ _ _ _ _ _ q=>add_int q
def qmv:OpR X (DD .Mult) (rI CMul λ i j=>.int (i * j)):=K5 λ _ _ _ _ _ _ _ hc q=>mul_int q hc.ok
def WW:OpR X (DD .Mod) (rI (λ _ j=>0 < j) λ i j=>.int (i % j)):=K5 λ i j _ _ _ _ _ hc q=>by
 have h1:(0:Int) < j:=hc;exact mod_int' (by omega) (by rw [Int.fmod_eq_emod_of_nonneg i (by omega)];exact q)
def WY:OpR X (DD .Pow) (rI Lc λ i j=>.int (i ^ j.toNat)):=K5 λ _ _ _ _ _ _ _ hc q=>pow_int_small hc.1 hc.2.1 hc.2.2 q
def VF {f:Ae->Sem Ae}{g:Int->Int}
  (rule:∀ (i:Int) (t:Tok) (s:Ai) (Q:Ae->Ai->Prop) (E:Ae->Ai->Prop),Q (.int (g i) s.toks) { s with toks:=s.toks + 1 }->An (Ap X.prog X.w) X.A (f (.int i t)) Q E s):
  Qo X f (rU λ i=>.int (g i)):=by
 intro pins s σ H x v Q I rx h;obtain ⟨i,rfl,q⟩:=h;obtain ⟨t,rfl⟩:=rx;exact rule i t s _ _ ⟨.int (g i),H,I.tok _,⟨_,rfl⟩,q⟩
def Ti:Qo X (unaryOp .USub) (rU λ i=>.int (-i)):=VF λ _ _ _ _ _ q=>neg_int q
end
def OJ:V->V->Bool
 | .non,.non=>true | .non,.int _=>true | .int _,.non=>true | .non,.bl _=>true | .bl _,.non=>true | .non,.str _=>true | .str _,.non=>true
 | .int _,.int _=>true | .bl _,.bl _=>true | .str _,.str _=>true | .byt _,.byt _=>true
 | .int _,.str _=>true | .str _,.int _=>true | .bl _,.str _=>true | .str _,.bl _=>true
 | _,_=>false
def VL:R2:=λ x y H Q=>OJ x y=true/\Q (.bl (decide (x=y))) H
def TL {i j:Int}:decide (V.int i=V.int j)=(i == j):=by
 rw [KI];simp
def Ww {i j:Bool}:decide (V.bl i=V.bl j)=(i == j):=by
 rw [KI];simp
def Yl {i j:Str}:decide (V.str i=V.str j)=(i == j):=by
 rw [KI];simp
def Yk {i j:Array UInt8}:decide (V.byt i=V.byt j)=(i.toList == j.toList):=by
 rw [KI];cases i;cases j;simp
section
variable {X:Cx}{a b c:Expr}{ta tb tc:TE}{pos:Pos}
def D7 {pins:List (Addr×Obj)}{σ:St}{H:Hp}{s:Ai}{Q:VK}{k k':Bool} (I:Inv X pins σ H s) (q:Q (.bl k) H) (e:k=k'):EP X pins σ Q (.bool k') s:=by
 subst e;exact ⟨.bl k,H,I,rfl,q⟩
theorem VU:OpR X (Cv .Eq) VL:=by
 intro pins s σ H x y v u Q I rx ry h;obtain ⟨hs,q⟩:=h;cases x with
 | non=>
  cases rx;cases y with
  | non=>cases ry;exact PySem.EqNone.eq_none_none (D7 I q (by simp))
  | bl j=>cases ry;exact PySem.EqNone.eq_none_bool (D7 I q (by simp))
  | int j=>obtain ⟨t',rfl⟩:=ry;exact PySem.EqNone.eq_none_int (D7 I q (by simp))
  | str j=>obtain ⟨t',rfl⟩:=ry;exact PySem.EqNone.eq_none_str (D7 I q (by simp))
  | _=>exact absurd (show false=true from hs) Di
 | bl i=>
  cases rx;cases y with
  | non=>cases ry;exact PySem.EqNone.eq_bool_none (D7 I q (by simp))
  | bl j=>cases ry;exact eq_bool (D7 I q Ww)
  | str j=>obtain ⟨t',rfl⟩:=ry;exact PySem.EqMixed.eq_bool_str (D7 I q (by simp))
  | _=>exact absurd (show false=true from hs) Di
 | int i=>
  obtain ⟨t,rfl⟩:=rx;cases y with
  | non=>cases ry;exact PySem.EqNone.eq_int_none (D7 I q (by simp))
  | int j=>obtain ⟨t',rfl⟩:=ry;exact eq_int (D7 I q TL)
  | str j=>obtain ⟨t',rfl⟩:=ry;exact PySem.EqMixed.eq_int_str (D7 I q (by simp))
  | _=>exact absurd (show false=true from hs) Di
 | str i=>
  obtain ⟨t,rfl⟩:=rx;cases y with
  | non=>cases ry;exact PySem.EqNone.eq_str_none (D7 I q (by simp))
  | bl j=>cases ry;exact PySem.EqMixed.eq_str_bool (D7 I q (by simp))
  | int j=>obtain ⟨t',rfl⟩:=ry;exact PySem.EqMixed.eq_str_int (D7 I q (by simp))
  | str j=>obtain ⟨t',rfl⟩:=ry;exact eq_str (D7 I q Yl)
  | _=>exact absurd (show false=true from hs) Di
 | byt i=>
  obtain ⟨t,rfl⟩:=rx;cases y with
  | byt j=>obtain ⟨t',rfl⟩:=ry;exact PySem.W.eq_bytes (D7 I q Yk)
  | _=>exact absurd (show false=true from hs) Di
 | _=>cases y <;> exact absurd (show false=true from hs) Di
def Sb:OpR X (Cv .Lt) (E6 λ i j=>.bl (decide (i < j))):=Gd λ _ _ _ _ _ _ _ q=>lt_int q
def Sa:OpR X (Cv .LtE) (E6 λ i j=>.bl (decide (i<=j))):=Gd λ _ _ _ _ _ _ _ q=>le_int q
def Si:OpR X (Cv .Gt) (E6 λ i j=>.bl (decide (j < i))):=Gd λ _ _ _ _ _ _ _ q=>gt_int q
def Sh:OpR X (Cv .GtE) (E6 λ i j=>.bl (decide (j<=i))):=Gd λ _ _ _ _ _ _ _ q=>ge_int q
def OpR.or {f:Ae->Ae->Sem Ae}{r r':R2} (h:OpR X f r) (h':OpR X f r'):OpR X f (λ x y H Q=>r x y H Q\/r' x y H Q):=by
 intro pins s σ H x y v u Q I rx ry q;rcases q with q | q
 ·exact h pins s σ H x y v u Q I rx ry q
 ·exact h' pins s σ H x y v u Q I rx ry q
def YJ {op:Ed}{r:R2} (ho:OpR X (Cv op) r) (ha:PE X a ta) (hb:PE X b tb) (hm:Je op b=false):PE X (.Compare a [op] [b] pos) (Jh r ta tb):=by
 intro pins s σ H Q I h;exact wpAny_Compare1 (IE ha hb I h λ v u s2 x y H2 I2 rx ry q=>ho pins s2 σ H2 x y v u Q I2 rx ry q) hm
def Sw (t:TE):TT:=λ σ H Q=>t σ H λ x H'=>∃ k,x=.bl k/\Q k H'
def Z0 {op:Ed}{r:R2} (ho:OpR X (Cv op) r) (ha:PE X a ta) (hb:PE X b tb) (hm:Je op b=false):PT X (.Compare a [op] [b] pos) (Sw (Jh r ta tb)):=by
 intro pins s σ H Q I h;refine wpAny_isTrue_Compare1 (Av (ha pins s σ H _ I h) λ v s1 ⟨x,H1,I1,r1,q1⟩=>Av (hb pins s1 σ H1 _ I1 q1) λ u s2 ⟨y,H2,I2,r2,q2⟩=>
  Av (ho pins s2 σ H2 x y v u _ I2 r1 r2 q2) λ c s3 ⟨z,H3,I3,r3,k,e,q3⟩=>?_) hm
 subst e;cases r3;exact FW ⟨H3,I3,q3⟩
def Pu (r r':R2) (ta tb tc:TE):TE:=λ σ H Q=>ta σ H λ x H1=>tb σ H1 λ y H2=>r x y H2 λ z H3=>∃ k,z=.bl k /\
 (if k=true then tc σ H3 λ w' H4=>r' y w' H4 Q else Q (.bl false) H3)
theorem qh {op op':Ed}{r r':R2} (ho:OpR X (Cv op) r) (ho':OpR X (Cv op') r') (ha:PE X a ta) (hb:PE X b tb) (hc:PE X c tc)
  (hm:lastMarks [op,op'] [b,c]=false:=by with_unfolding_all rfl):PE X (.Compare a [op,op'] [b,c] pos) (Pu r r' ta tb tc):=by
 intro pins s σ H Q I h;refine Compare_chain (Av (ha pins s σ H _ I h) λ v s1 ⟨x,H1,I1,r1,q1⟩=>chain_link (Av (hb pins s1 σ H1 _ I1 q1) λ u s2 ⟨y,H2,I2,r2,q2⟩=>
  Av (ho pins s2 σ H2 x y v u _ I2 r1 r2 q2) λ d s3 ⟨z,H3,I3,r3,k,e,q3⟩=>?_)) hm
 subst e;cases r3;refine FW ?_;cases k with
 | false=>exact ite_ff ⟨.bl false,H3,I3,rfl,q3⟩
 | true=>exact ite_tt (chain_last (Av (hc pins s3 σ H3 _ I3 q3) λ w' s4 ⟨z',H4,I4,r4,q4⟩=>ho' pins s4 σ H4 y z' u w' Q I4 r2 r4 q4))
theorem qp {op op':Ed}{r r':R2} (ho:OpR X (Cv op) r) (ho':OpR X (Cv op') r') (ha:PE X a ta) (hb:PE X b tb) (hc:PE X c tc)
  (hm:lastMarks [op,op'] [b,c]=false:=by with_unfolding_all rfl):PT X (.Compare a [op,op'] [b,c] pos) (Sw (Pu r r' ta tb tc)):=by
 intro pins s σ H Q I h;refine isTrue_chain (Av (ha pins s σ H _ I h) λ v s1 ⟨x,H1,I1,r1,q1⟩=>test_link (Av (hb pins s1 σ H1 _ I1 q1) λ u s2 ⟨y,H2,I2,r2,q2⟩=>
  Av (ho pins s2 σ H2 x y v u _ I2 r1 r2 q2) λ d s3 ⟨z,H3,I3,r3,k,e,q3⟩=>?_)) hm
 subst e;cases r3;refine FW ?_;cases k with
 | false=>
  obtain ⟨k',e',q'⟩:=q3;cases e';exact ite_ff ⟨H3,I3,q'⟩
 | true=>
  refine ite_tt (test_last (Av (hc pins s3 σ H3 _ I3 q3) λ w' s4 ⟨z',H4,I4,r4,q4⟩=>Av (ho' pins s4 σ H4 y z' u w' _ I4 r2 r4 q4) λ d' s5 ⟨z2,H5,I5,r5,k2,e2,q5⟩=>?_));subst e2;cases r5;exact FW ⟨H5,I5,q5⟩
def IZ:(Am:Nat) < 2 ^ 63:=by rw [sizeLine_eq];decide
def xW:OpR X (DD .Add) (λ x y H Q=>∃ i j,x=.str i/\y=.str j/\i.length + j.length<=Am/\Q (.str (i++j)) H):=by
 intro pins s σ H x y v u Q I rx ry h;obtain ⟨i,j,rfl,rfl,hz,q⟩:=h;obtain ⟨t,rfl⟩:=rx;obtain ⟨t',rfl⟩:=ry;exact add_str (λ t' tk=>⟨.str (i++j),H,I.tok _,⟨_,rfl⟩,q⟩) hz
def V4:OpR X (inplaceOp .Add) (λ x y H Q=>∃ i j,x=.str i/\y=.str j/\i.length + j.length<=Am/\Q (.str (i++j)) H):=by
 intro pins s σ H x y v u Q I rx ry h;obtain ⟨i,j,rfl,rfl,hz,q⟩:=h;obtain ⟨t,rfl⟩:=rx;obtain ⟨t',rfl⟩:=ry;exact iadd_str (λ t' tk=>⟨.str (i++j),H,I.tok _,⟨_,rfl⟩,q⟩) hz
theorem Fo {x:V}{us:List Ae} (r:Vals [x] us):∃ u,us=[u]/\RelV x u:=by
 cases r with
 | cons r1 r2=>cases r2;exact ⟨_,rfl,r1⟩
theorem M3 {x y:V}{us:List Ae} (r:Vals [x,y] us):∃ u w',us=[u,w']/\RelV x u/\RelV y w':=by
 cases r with
 | cons r1 r2=>
  cases r2 with
  | cons r3 r4=>cases r4;exact ⟨_,_,rfl,r1,r3⟩
def qM (hc:X.calm=true):zzo X (.builtin "min") (λ xs H Q=>∃ i j,xs=[.int i,.int j]/\Q (.int (if j < i then j else i)) H):=by
 intro pins s σ H xs us Q I r h;obtain ⟨i,j,rfl,q⟩:=h;obtain ⟨u,w',rfl,⟨t,rfl⟩,⟨t',rfl⟩⟩:=M3 r;refine min_two_ints (I.ok.hd hc) λ h' tk k=>⟨_,H,I.kept k,?_,q⟩
 by_cases hj:j < i
 ·rw [if_pos hj,if_pos hj];exact ⟨_,rfl⟩
 ·rw [if_neg hj,if_neg hj];exact ⟨_,rfl⟩
def qJ:zzo X (.type "int") (λ xs H Q=>(∃ i,xs=[.int i]/\Q (.int i) H)\/∃ k,xs=[.bl k]/\Q (.int (if k then 1 else 0)) H):=by
 intro pins s σ H xs us Q I r h;rcases h with ⟨i,rfl,q⟩ | ⟨k,rfl,q⟩
 ·obtain ⟨u,rfl,t,rfl⟩:=Fo r;exact call_int_int ⟨.int i,H,I,⟨_,rfl⟩,q⟩
 ·obtain ⟨u,rfl,r1⟩:=Fo r;cases r1;exact call_int_bool ⟨.int (if k then 1 else 0),H,I.tok _,⟨_,rfl⟩,q⟩
end
structure ObjM (h:Heap) (x dx C:Addr) (mA:Str->Option Ae):Prop where
 obj:h.get? x=some (Oo C dx)
 ns:h.Ns1 dx mA
 ne:dx≠x
def xF {h:Heap}{dx:Addr}{mA:Str->Option Ae} (n:h.Ns1 dx mA):∃ od,h.get? dx=some od/\∀ name,Ol name od=some (mA name):=by
 obtain ⟨o,es,ep,ho,hd,hk,_,hm⟩:=n;refine ⟨o,ho,λ name=>?_⟩;have e:=hm name;unfold nsFind findBy at e;rw [<- Array.find?_toList] at e;unfold Ol;rw [hd];dsimp only;split
 ·rename_i y q;rw [q] at e;exact congrArg some e
 ·rename_i q;rw [q] at e;have a:es.toList.any (·.refKey)=false:=by
   rw [List.any_eq_false];intro y hy;obtain ⟨z,t,hkey⟩:=hk y (Array.mem_toList_iff.mp hy);simp [DictEntry.refKey,hkey]
  have a':¬ es.toList.any (·.refKey)=true:=by rw [a];exact Di
  rw [if_neg a'];exact congrArg some e
def ObjM.look {h:Heap}{x dx C:Addr}{mA:Str->Option Ae} (I:ObjM h x dx C mA):∃ od,PySem.W.InstAt h x (Oo C dx) C (some od)/\∀ name,Ol name od=some (mA name):=
 let ⟨od,ho,hl⟩:=xF I.ns
 ⟨od,⟨I.obj,rfl,rfl,ho⟩,hl⟩
section
variable {prog:A0}{w:Ay}{A:AU}{E:Ae->Ai->Prop}{s:Ai}{K:PySem.W.Frag}{x dx C f:Addr}{mA:Str->Option Ae}{name:Str}{v:Ae}
end
section
variable {P:A0}{w:Ay}{H H':Hp}{h h':Heap}{a C dx:Addr}{fs fs':List (Str×V)}
def Y2 (hok:HOk P w H h) (e:H a=some (.ins C dx fs)):∃ mA,ObjM h a dx C mA/\(∀ f,RelO (fs.lookup f) (mA f))/\PySem.Within mA (fs.map (·.1))/\fs.length<=1000/\H dx=some (.own a):=by
 obtain ⟨d,z,ne,ob,mA,n,r,q⟩:=(show zwb P w H h a (.ins C dx fs) from hok a _ e)
 exact ⟨mA,⟨ob,n,ne⟩,r,q,z,d⟩
end
structure Cls (K:PySem.W.Frag) (C:Addr):Prop where
 pg:PySem.W.plainGet K C Str.empty=true
 hd:PySem.W.hasDictIn K C=true
 po:PySem.W.plainOver K C=true
 sa:DF K (.ref C) "__setattr__" = some (some (.builtin "object.__setattr__"))
def Cls.get {K:PySem.W.Frag}{C:Addr} (c:Cls K C) (f:Str):PySem.W.plainGet K C f=true:=c.pg
structure Con (K:PySem.W.Frag) (C:Addr) (f:Str) (v:V) (u:Ae):Prop where
 at_:DF K (.ref C) f=some (some u)
 rel:RelV v u
 get:PySem.W.specialIn K u "__get__" = some none
 cp:PySem.W.copiedNames.contains f=false
structure Meth (K:PySem.W.Frag) (C:Addr) (m:Str) (f:Addr):Prop where
 at_:DF K (.ref C) m=some (some (.ref f))
 fn:PySem.W.isFn K (.ref f)=true
 kp:HN K (.ref f)=true
section
variable {X:Cx}{pins:List (Addr×Obj)}{σ:St}{H:Hp}{s:Ai}{a C dx:Addr}{fs:List (Str×V)}{f:Str}{v:V}{A:AU}{E:Ae->Ai->Prop}
end
section
variable {X:Cx}{o e value:Expr}{f:Str}{pos pos' tpos:Pos}{ta tv:TE}
end
section
variable {X:Cx}{pins:List (Addr×Obj)}{σ:St}{H:Hp}{s:Ai}{A:AU}{E:Ae->Ai->Prop}{Q:Ae->Ai->Prop}{c:Ae}{b:Bool}
inductive TyOf (K:PySem.W.Frag) (H:Hp):V->Ae->Prop where
 | non:TyOf K H .non (.type "NoneType")
 | bl (x:Bool):TyOf K H (.bl x) (.type "bool")
 | int (i:Int):TyOf K H (.int i) (.type "int")
 | str (x:Str):TyOf K H (.str x) (.type "str")
 | flt (x:UInt64):TyOf K H (.flt x) (.type "float")
 | lst {a:Addr}{xs:List V} (e:H a=some (.lst xs)):TyOf K H (.ref a) (.type "list")
 | frz {a:Addr}{o:Obj}{xs:List V} (e:H a=some (.frz o (.lst xs))):TyOf K H (.ref a) (.type "list")
 | tup {a:Addr}{xs:List V} (e:H a=some (.tup xs)):TyOf K H (.ref a) (.type "tuple")
 | dK {a:Addr}{kvs:List (AG×V)} (e:H a=some (.dK kvs)):TyOf K H (.ref a) (.type "dict")
 | dT {a:Addr}{kvs:List (List AG×V)} (e:H a=some (.dT kvs)):TyOf K H (.ref a) (.type "dict")
 | ins {a C dx:Addr}{fs:List (Str×V)} (e:H a=some (.ins C dx fs)) (cl:Cls K C) (ha:DF K (.ref C) "__class__" = some (some (.builtin "object.__class__")))
   (hn:PySem.W.specialIn K (.builtin "object.__class__") "__get__" = some (some (.builtin "getset_descriptor.__get__"))) (htk:PySem.W.takesIn K (.builtin "object.__class__")=some true)
   (hm:Fq K C (.type "object")=some true):TyOf K H (.ref a) (.ref C)
theorem xq {x:V}{u t:Ae} (I:Inv X pins σ H s) (rx:RelV x u) (ty:TyOf X.K H x t) (e:Eg X.K t c=some b) (h:∀ tk,Q (.bool b) { s with toks:=tk }):
  An (Ap X.prog X.w) A (call (.builtin "isinstance") [u,c]) Q E s:=by
 cases ty with
 | non=>cases (show u=Value.none from rx);exact Eh Oy I.kIn True.intro e (λ z=>nomatch z) h
 | bl y=>cases (show u=Value.bool y from rx);exact Eh PySem.W.kitx_bool I.kIn True.intro e (λ z=>nomatch z) h
 | int i=>obtain ⟨t,q⟩:=(show ∃ t,u=Value.int i t from rx);cases q;exact Eh PySem.W.kitx_int I.kIn True.intro e (λ z=>nomatch z) h
 | str y=>obtain ⟨t,q⟩:=(show ∃ t,u=Value.str y t from rx);cases q;exact Eh PySem.W.kitx_str I.kIn True.intro e (λ z=>nomatch z) h
 | flt y=>obtain ⟨t,q⟩:=(show ∃ t,u=Value.float y t from rx);cases q;exact Eh PySem.W.kitx_float I.kIn True.intro e (λ z=>nomatch z) h
 | @lst a xs ea=>
  cases (show u=Value.ref a from rx);obtain ⟨_,_,n,_,h1⟩:=(show zwb X.prog X.w H s.heap a (.lst xs) from I.hok a _ ea)
  exact Eh PySem.W.kitx_list I.kIn ⟨_,h1,rfl⟩ e (λ z=>nomatch z) h
 | @frz a ob xs ea=>
  cases (show u=Value.ref a from rx);obtain ⟨_,_,_,n,_,h1⟩:=(show zwb X.prog X.w H s.heap a (.frz ob (.lst xs)) from I.hok a _ ea)
  exact Eh PySem.W.kitx_list I.kIn ⟨_,h1,rfl⟩ e (λ z=>nomatch z) h
 | @tup a xs ea=>
  cases (show u=Value.ref a from rx);obtain ⟨_,_,_,p⟩:=(show zwb X.prog X.w H s.heap a (.tup xs) from I.hok a _ ea)
  obtain ⟨o,h1,h2,_⟩:=p;exact Eh PySem.W.kitx_tuple I.kIn ⟨o,h1,h2⟩ e (λ z=>nomatch z) h
 | @dK a kvs ea=>
  cases (show u=Value.ref a from rx);obtain ⟨_,_,vs,_,p⟩:=(show zwb X.prog X.w H s.heap a (.dK kvs) from I.hok a _ ea)
  obtain ⟨o,es,ep,h1,h2,_⟩:=p;exact Eh PySem.W.kitx_dict I.kIn ⟨o,h1,h2.1⟩ e (λ z=>nomatch z) h
 | @dT a kvs ea=>
  cases (show u=Value.ref a from rx);obtain ⟨_,_,xs,_,o,es,ep,h1,h2,_⟩:=(show zwb X.prog X.w H s.heap a (.dT kvs) from I.hok a _ ea)
  exact Eh PySem.W.kitx_dict I.kIn ⟨o,h1,h2.1⟩ e (λ z=>nomatch z) h
 | @ins a C dx fs ea cl ha hn htk hm=>
  cases (show u=Value.ref a from rx);obtain ⟨mA,O,_⟩:=Y2 I.hok ea;obtain ⟨od,J,_⟩:=O.look;exact Eh (PySem.W.kitx_own (cl.get _) cl.hd ha hn htk hm) I.kIn J e (λ z=>nomatch z) h
end
structure Room (k:Nat) (A:AU):Prop where
 hd:A.handled=none
 dp:A.depth + 3 * k + 5 < recursionLimit
 un:A.units + 16 * k + 200 < BU
 gd:A.guards=some []
def Room.mono {j k:Nat}{A:AU} (r:Room k A) (h:j<=k):Room j A:=⟨r.hd,by have:=r.dp;omega,by have:=r.un;omega,r.gd⟩
def Room.deeper {k:Nat}{A:AU} (r:Room (k + 1) A) (env:Env):Room k (A.deeper env):=
 ⟨r.hd,by have:=r.dp;show A.depth + 1 + 3 * k + 5 < _;omega,by have:=r.un;show A.units + 3 + 16 * k + 200 < _;omega,r.gd⟩
def Room.depth {k:Nat}{A:AU} (r:Room k A):A.depth < recursionLimit:=by have:=r.dp;omega
def Room.units {k:Nat}{A:AU} (r:Room k A):A.units + 64 < BU:=by have:=r.un;omega
def FY:TA:=λ _ H Q=>Q [] H
def M4 (ta:TE) (tr:TA):TA:=λ σ H Q=>ta σ H λ x H1=>tr σ H1 λ xs H2=>Q (x::xs) H2
section
variable {X:Cx}{e:Expr}{es:List Expr}{te:TE}{t:TA}{pos:Pos}
def Fl:PA X [] FY:=λ _ _ _ _ H Q I h=>Calls.spliced_nil ⟨[],H,I,.nil,h⟩
def DL (ha:PE X e te) (hr:PA X es t) (hs:A6 (e::es) X.env=(false,eval e X.env)::A6 es X.env:=by rfl):PA X (e::es) (M4 te t):=by
 intro pos pins s σ H Q I h;rw [hs];show An _ _ (spliced ((false,eval e X.env)::Dp pos (A6 es X.env))) _ _ s;refine Calls.spliced_cons (Av (ha pins s σ H _ I h) λ u s1 ⟨x,H1,I1,r1,q1⟩=>?_);exact Av (hr pos pins s1 σ H1 _ I1 q1) λ us s2 ⟨xs,H2,I2,r2,q2⟩=>⟨x::xs,H2,I2,.cons r1 r2,q2⟩
def OE (t:TA):TE:=λ σ H Q=>t σ H λ xs H1=>xs.length<=Am/\∀ p,H1 p=none->Q (.ref p) (As H1 p (.tup xs))
def OG (t:TA):TE:=λ σ H Q=>t σ H λ xs H1=>xs.length<=Am/\∀ p,H1 p=none->Q (.ref p) (As H1 p (.lst xs))
def Tn {x1} (h:PA X es t):PE X (.Tuple es x1 pos) (OE t):=by
 intro pins s σ H Q I hq;refine wpAny_Tuple_spliced (Av (h pos pins s σ H _ I hq) λ us s1 ⟨xs,H1,I1,r,z,q⟩=>⟨by rw [<- r.length];exact z,?_⟩);have hf:H1 s1.heap.objs.size=none:=I1.hok.fresh (A7 _);refine ⟨.ref s1.heap.objs.size,As H1 s1.heap.objs.size (.tup xs),I1.laid (t':=s1.toks) (λ b u e=>BZ _ e) (A7 _) ?_,rfl,q _ hf⟩;exact ⟨z,us,r,⟨_,Df _ rfl,rfl,_,rfl⟩⟩
def Tc (h:PA X es t):PE X (.List es pos) (OG t):=by
 intro pins s σ H Q I hq;refine wpAny_List_spliced (Av (h pos pins s σ H _ I hq) λ us s1 ⟨xs,H1,I1,r,z,q⟩=>⟨by rw [<- r.length];exact z,?_⟩);have hf:H1 s1.heap.objs.size=none:=I1.hok.fresh (A7 _);refine ⟨.ref s1.heap.objs.size,As H1 s1.heap.objs.size (.lst xs),I1.laid (t':=s1.toks) (λ b u e=>BZ _ e) (A7 _) ?_,rfl,q _ hf⟩;exact ⟨z,us,0,r,Df _ rfl⟩
end
abbrev Sp:=List V->Hp->VK->XK->Prop
abbrev EB:=List Env->Hp->Ai->XK->Ae->Ai->Prop
structure Env0 (P:A0) (w:Ay) (K:PySem.W.Frag) (mg:Str->Option Ae) (base:Heap) (A:AU) (outer:List Env) (s:Ai) (H:Hp):Prop where
 frames:A.frames=some outer
 mod:Mod K mg base
 bs:∀ b o,base.get? b=some o->s.heap.get? b=some o/\H b=none
 bsz:base.objs.size<=s.heap.objs.size
 funs:s.heap.FunFrames base outer
 frf:∀ b∈Cn outer,H b=none
 hok:HOk P w H s.heap
 bare:E4 s.gens
def CE (outer:List Env) (P:A0) (w:Ay) (H:Hp) (s:Ai) (Q:VK) (u:Ae) (s':Ai):Prop:=
 ∃ v H',s'.os=s.os/\E4 s'.gens/\Un (Cn outer) [] H H' s.heap s'.heap/\HOk P w H' s'.heap/\RelV v u/\Q v H'
def CR (CX:EB) (outer:List Env) (P:A0) (w:Ay) (H:Hp) (s:Ai) (Q:VK) (E:XK) (r:Result) (s':Ai):Prop:=
 match r with
 | .ok (.ret u)=>CE outer P w H s Q u s'
 | .ok _=>False
 | .error e=>CX outer H s E e s'
structure FnOk (P:A0) (w:Ay) (K:PySem.W.Frag) (mg:Str->Option Ae) (base:Heap) (CX:EB) (k:Nat) (f:Addr) (fd:CJ) (ps:List Str) (sp:Sp):Prop where
 len:∀ vs H Q E,sp vs H Q E->vs.length=ps.length
 run:∀ (A:AU) (outer:List Env) (s:Ai) (H:Hp) (args:Args) (us:List Ae) (vs:List V) (Q:VK) (E:XK),Room k A->Env0 P w K mg base A outer s H->BindsTo s fd args (ps.zip us)->Vals vs us->sp vs H Q E ->
  FR (Ap P w) A (.call (.ref f) args) (CR CX outer P w H s Q E) s
def FnOk.mono {P:A0}{w:Ay}{K:PySem.W.Frag}{mg:Str->Option Ae}{base:Heap}{CX:EB}{j k:Nat}{f:Addr}{fd:CJ}{ps:List Str}{sp:Sp} (F:FnOk P w K mg base CX j f fd ps sp) (h:j<=k):
  FnOk P w K mg base CX k f fd ps sp:=⟨F.len,λ A outer s H args us vs Q E hr=>F.run A outer s H args us vs Q E (hr.mono h)⟩
section
variable {X:Cx}{pins:List (Addr×Obj)}{σ:St}{H:Hp}{s s':Ai}
def Inv.env0 (I:Inv X pins σ H s):Env0 X.prog X.w X.K X.mg X.base X.A X.stack s H:=
 ⟨I.ok.frames,I.ok.mod,I.bs,Cg I.ok.bsz I.sz,I.stack,I.stkFree,I.hok,I.bare⟩
def Inv.after {Q:VK}{u:Ae} (I:Inv X pins σ H s) (h:CE X.stack X.prog X.w H s Q u s'):EP X pins σ Q u s':=by
 obtain ⟨v,H',os,bare,un,hok,r,q⟩:=h;obtain ⟨hh,g,d,t,os'⟩:=s';obtain rfl:os'=s.os:=os;exact ⟨v,H',I.call (h':=hh) (g':=g) (d':=d) (t':=t) (ch:=[]) un hok bare (λ b z=>absurd z (by simp)),r,q⟩
end
def zfp (K:PySem.W.Frag) (fd:CJ) (ps:List Str) (ds:List Ae):Prop:=
 ∀ (s:Ai) (us:List Ae),K.In s.heap->(us++ds).length=ps.length->BindsTo s fd ⟨us,[]⟩ (ps.zip (us++ds))
def zfp.all {K:PySem.W.Frag}{fd:CJ}{ps:List Str} (h:∀ us:List Ae,us.length=ps.length->bindArgs fd ⟨us,[]⟩=pure (ps.zip us)):zfp K fd ps []:=λ s us _ hl=>by
 rw [Io] at hl ⊢;exact .of_eq (h us hl)
section
variable {X:Cx}{CX:EB}{k:Nat}{f C:Addr}{fd:CJ}{ps:List Str}{sp:Sp}{dvs:List V}{ds:List Ae}{E:XK}{x m:Str}{p pos apos:Pos}{e o:Expr}{es:List Expr}{ta:TE}{t:TA}
structure Mk (K:PySem.W.Frag) (C f:Addr):Prop where
 makes:PySem.W.makesIn K C=true
 init:DF K (.ref C) "__init__" = some (some (.ref f))
 fn:PySem.W.isFn K (.ref f)=true
 kp:HN K (.ref C)=true
end
section
variable {X:Cx}{CX:EB}{k:Nat}{f C:Addr}{fd:CJ}{ps ks:List Str}{sp:Sp}{E:XK}{x m:Str}{p pos apos kpos:Pos}{e o:Expr}{es:List Expr}{kws:List Keyword}{te ta:TE}{t tk:TA}{nm:Option Str}
structure KBinds (K:PySem.W.Frag) (fd:CJ) (ps ks:List Str) (g:List Ae->List Ae->List Ae) (gV:List V->List V->List V):Prop where
 to:∀ (s:Ai) (us ws:List Ae),K.In s.heap->(g us ws).length=ps.length->BindsTo s fd ⟨us,ks.zip ws⟩ (ps.zip (g us ws))
 rel:∀ {vs:List V}{us:List Ae}{zs:List V}{ws:List Ae},Vals vs us->Vals zs ws->Vals (gV vs zs) (g us ws)
variable {g:List Ae->List Ae->List Ae}{gV:List V->List V->List V}
end
structure FnScope (N P:List Str) (sc:Bc):Prop where
 kind:sc.kind=.function:=by rfl
 co:sc.isCoroutine=false:=by rfl
 gen:sc.isGenerator=false:=by rfl
 nd:N.Nodup:=by decide +kernel
 pre:N.take P.length=P:=by rfl
 par:∀ x∈P,sc.names.lookup x=some .local\/sc.names.lookup x=some .cell:=by decide +kernel
 nofree:∀ y∈sc.names,y.2≠.free:=by decide +kernel
theorem R6 {kindOf:Str->Option CS}{x:Str}:∀ {binds:List (Str×Ae)}{m:Str->Option Ae},(∀ v,(x,v)∉binds)->bindL kindOf binds m x=m x
 | [],_,_=>rfl
 | (n,v)::r,m,h=>by
  unfold bindL;rw [R6 λ w hw=>h w (AQ _ hw)];split
  ·have:x≠n:=by rintro rfl;exact h v Bf
   simp [this]
  ·rfl
theorem R4 {kindOf:Str->Option CS}{x:Str}:∀ {binds:List (Str×Ae)}{m:Str->Option Ae},(∀ v,(x,v)∉binds)->bindC kindOf binds m x=m x
 | [],_,_=>rfl
 | (n,v)::r,m,h=>by
  unfold bindC;rw [R4 λ w hw=>h w (AQ _ hw)];split
  ·rfl
  ·have:x≠n:=by rintro rfl;exact h v Bf
   simp [this]
theorem R5 {kindOf:Str->Option CS}{x:Str}{v:Ae}:∀ {P:List Str}{vs:List Ae}{i:Nat}{m:Str->Option Ae},P.Nodup->P[i]?=some x->vs[i]?=some v->kindOf x=some .local ->
  bindL kindOf (P.zip vs) m x=some v
 | [],_,_,_,_,h,_,_=>by simp at h
 | _::_,[],_,_,_,_,h,_=>by simp at h
 | p::P,w::vs,0,m,nd,h1,h2,hk=>by
  simp at h1 h2;subst h1;subst h2;show bindL kindOf ((p,w)::P.zip vs) m p=_;unfold bindL;rw [R6 λ v hv=>(jh3.mp nd).1 (PF hv).1,if_pos hk];simp
 | p::P,w::vs,i + 1,m,nd,h1,h2,hk=>by
  show bindL kindOf ((p,w)::P.zip vs) m x=_;unfold bindL;exact R5 (i:=i) (jh3.mp nd).2 (by simpa using h1) (by simpa using h2) hk
theorem R3 {kindOf:Str->Option CS}{x:Str}{v:Ae}:∀ {P:List Str}{vs:List Ae}{i:Nat}{m:Str->Option Ae},P.Nodup->P[i]?=some x->vs[i]?=some v->kindOf x≠some .local ->
  bindC kindOf (P.zip vs) m x=some v
 | [],_,_,_,_,h,_,_=>by simp at h
 | _::_,[],_,_,_,_,h,_=>by simp at h
 | p::P,w::vs,0,m,nd,h1,h2,hk=>by
  simp at h1 h2;subst h1;subst h2;show bindC kindOf ((p,w)::P.zip vs) m p=_;unfold bindC;rw [R4 λ v hv=>(jh3.mp nd).1 (PF hv).1,if_neg hk];simp
 | p::P,w::vs,i + 1,m,nd,h1,h2,hk=>by
  show bindC kindOf ((p,w)::P.zip vs) m x=_;unfold bindC;exact R3 (i:=i) (jh3.mp nd).2 (by simpa using h1) (by simpa using h2) hk
def start (N:List Str) (vs:List V):St:=vs.map some++AK (N.length - vs.length) none
def Bw (CX:EB) (P:A0) (w:Ay) (K:PySem.W.Frag) (mg:Str->Option Ae) (base:Heap) (N:List Str) (qual:Str) (scope:Bc) (f:Addr) (cd:Ae) (A:AU) (outer:List Env) (s:Ai) (H:Hp) (E:XK):Cx where
 prog:=P
 w:=w
 K:=K
 mg:=mg
 base:=base
 A:=A.deeper (FQ qual scope s.heap.objs.size f cd)
 N:=N
 s₀:=s
 H₀:=H
 env:=FQ qual scope s.heap.objs.size f cd
 outer:=outer
 stack:=FQ qual scope s.heap.objs.size f cd::outer
 ex:=[]
 calm:=true
 fn:=λ _=>true
 pn:=[]
 xe:=λ e s'=>An (Ap P w) (A.deeper (FQ qual scope s.heap.objs.size f cd)) (leaving (FQ qual scope s.heap.objs.size f cd) e) (λ _ s''=>CX outer H s E e s'') (λ e' s''=>CX outer H s E e' s'') s'
def Uw {sc:Bc}{n:Nat}{x:Str} (h:sc.names.lookup x=some .cell):∃ c,(CK n sc.names []).lookup x=some c:=by
 have q:=PySem.W.cellsFrom_some sc.names n [] (.inl h);exact jh4.mp q
def xk {CX:EB}{P:A0}{w:Ay}{K:PySem.W.Frag}{mg:Str->Option Ae}{base:Heap}{N ps:List Str}{qual:Str}{scope:Bc}{f:Addr}{cd:Ae}{A:AU}{outer:List Env}{s s1:Ai}{H:Hp}{E:XK}{us:List Ae}{vs:List V}
  (S:FnScope N ps scope) (hd:A.handled=none) (e0:Env0 P w K mg base A outer s H) (hl:vs.length=ps.length) (r:Vals vs us)
  (x:InCallC s s.heap.objs.size (bindL (FQ qual scope s.heap.objs.size f cd).kindOf (ps.zip us) λ _=>none) (CK (s.heap.objs.size + 1) scope.names []) (bindC (FQ qual scope s.heap.objs.size f cd).kindOf (ps.zip us) λ _=>none) s1):
  Inv (Bw CX P w K mg base N qual scope f cd A outer s H E) [] (start N vs) H s1:=by
 have hpl:ps.length<=N.length:=by have:=congrArg K8 S.pre;rw [Dh] at this;omega
 obtain ⟨h1,tk,rfl,hk⟩:=x.done;have noA:∀ b:Addr,b∉(Bw CX P w K mg base N qual scope f cd A outer s H E).ex:=λ b z=>absurd (show b∈([]:List Addr) from z) (by simp);refine ⟨⟨e0.mod,S.kind,rfl,rfl,A7 _,λ y z c h1 h2=>?_,λ y hy=>?_,λ y c _ h=>?_,λ _=>hd,Around.frames_deeper e0.frames,.inr ⟨rfl,rfl⟩,λ b z=>absurd z (noA b),e0.bs,e0.bsz,λ b _ _=>noA b,λ b z=>absurd z (noA b),e0.funs,e0.frf⟩,
  rfl,e0.bare,Un.kept hk,⟨_,x.toInCall.ns,λ i y v h1 h2 h3=>?_⟩,λ y c h=>⟨_,x.cell y c h⟩,e0.hok.fresh (A7 _),λ y c h=>?_,λ p hp=>absurd (show p∈([]:List (Addr×Obj)) from hp) (by simp),e0.hok.kept hk,?_⟩
 ·exact name_of_addr x.apart (Kl h1) (Kl h2)
 ·have hy:scope.names.lookup y=some .cell\/scope.names.lookup y=some .free:=hy;rcases hy with hy | hy
  ·exact Uw hy
  ·exact absurd rfl (S.nofree _ (Kl hy))
 ·exact E8 (x.above y c (Kl h))
 ·have hi:i < vs.length:=by
   unfold start at h2;by_cases hi:i < vs.length
   ·exact hi
   ·rw [Ep (by simpa using hi)] at h2;rw [Iy] at h2;split at h2 <;> cases h2
  have ha:vs[i]?=some v:=by
   unfold start at h2;rw [CF (by simpa using hi),Cs] at h2;cases e:vs[i]? with
   | none=>rw [e] at h2;cases h2
   | some a=>rw [e] at h2;cases h2;rfl
  obtain ⟨u,hu,rv⟩:=r.get ha;have hp:ps[i]?=some y:=by
   rw [<- S.pre,KQ (by omega)];exact h1
  have ndP:ps.Nodup:=by rw [<- S.pre];exact S.nd.sublist (List.take_sublist _ _)
  refine ⟨u,rv,?_⟩;rcases S.par y (Gk hp) with k | k
  ·exact .inl ⟨k,R5 ndP hp hu k⟩
  ·obtain ⟨c,e⟩:=Uw (n:=s.heap.objs.size + 1) k;refine .inr ⟨.inl k,c,e,?_⟩;have q:=x.cell y c e;rw [R3 ndP hp hu (by show scope.names.lookup y≠_;rw [k];decide)] at q;exact q
 ·exact e0.hok.fresh (E8 (x.above y c (Kl h)))
 ·unfold start;show _=N.length;rw [AV,A5,Ju];omega
theorem VM {CX:EB}{P:A0}{w:Ay}{K:PySem.W.Frag}{mg:Str->Option Ae}{base:Heap}{k:Nat}{f:Addr}{name qual:Str}{params:Arguments}{body:List Stmt}{scope:Bc}{dV kV doc pm cdv ct oc:Ae}{an od:Option Addr}
  {osl:Array (Option Ae)}{N ps:List Str}{sp:Sp} (lk:K.lookup f=some ⟨oc,od,.func (Jd name qual params body scope dV kV doc pm an cdv ct),osl⟩) (hcd:Oj K cdv qual=true) (S:FnScope N ps scope)
  (len:∀ vs H Q E,sp vs H Q E->vs.length=ps.length)
  (hbody:∀ (A:AU) (outer:List Env) (s:Ai) (H:Hp) (vs:List V) (Q:VK) (E:XK),Room k (A.deeper (FQ qual scope s.heap.objs.size f cdv))->sp vs H Q E ->
   ∃ t,D6 (Bw CX P w K mg base N qual scope f cdv A outer s H E) body t/\t { nx:=λ _ H'=>Q .non H',rt:=Q } (start N vs) H):
  FnOk P w K mg base CX (k + 1) f (Jd name qual params body scope dV kV doc pm an cdv ct) ps sp:=by
 refine ⟨len,λ A outer s H args us vs Q E hr e0 hb r hsp=>?_⟩;have hl:=len _ _ _ _ hsp;have KX:K.In s.heap:=e0.mod.kin.keeps λ b o e=>(e0.bs b o e).1;have lim:s.heap.NoLimit:=e0.mod.nolimit.keeps λ b o e=>(e0.bs b o e).1;have hkind:∀ y∈ps.zip us,scope.names.lookup y.1=some .local\/(scope.names.lookup y.1=some .cell/\((CK (s.heap.objs.size + 1) scope.names []).lookup y.1).isSome=true):=λ ⟨n,v⟩ hy=>by
  rcases S.par n (PF hy).1 with q | q
  ·exact .inl q
  ·exact .inr ⟨q,PySem.W.cellsFrom_some _ _ _ (.inl q)⟩
 refine codeAny_call_function hr.depth (KX _ _ lk) rfl S.co S.gen rfl (PySem.W.codeRec_of KX hcd) (hb _ _ _ _ ?_);refine wpAny_newFunctionEnv_cells S.kind hkind λ env he s1 x=>?_;subst he;refine ⟨lim.keeps x.toInCall.keep,codeAny_func ?_⟩;obtain ⟨t,ht,hq⟩:=hbody A outer s H vs Q E (hr.deeper _) hsp;have I:Inv (Bw CX P w K mg base N qual scope f cdv A outer s H E) [] (start N vs) H s1:=xk S hr.hd e0 hl r x;refine Ef (ht [] s1 (start N vs) H _ I hq) (λ fl s' hs=>?_) λ e s' hs=>hs;have fin:∀ {σ':St}{H':Hp}{v:V}{u:Ae},Inv (Bw CX P w K mg base N qual scope f cdv A outer s H E) [] σ' H' s'->RelV v u->Q v H'->CE outer P w H s Q u s':=
  λ {σ' H' v u} J rv q=>⟨v,H',J.os,J.bare,J.base,J.hok,rv,q⟩
 cases fl with
 | ret u=>
  obtain ⟨v,σ',H',J,rv,q⟩:=hs;exact fin J rv q
 | next=>
  obtain ⟨σ',H',J,q⟩:=hs;exact fin (v:=V.non) (u:=Value.none) J rfl q
 | brk=>
  obtain ⟨_,_,_,q⟩:=hs;exact Fp q
 | cont=>
  obtain ⟨_,_,_,q⟩:=hs;exact Fp q
section
variable {X:Cx}{x:Str}{p pos:Pos}{e:Expr}{es:List Expr}{t:TA}{id T:String}{r:List V->Hp->VK->Prop}
def OH (r:List V->Hp->VK->Prop) (t:TA):TE:=λ σ H Q=>t σ H λ vs H1=>r vs H1 Q
def Hs (hc:zzo X (.builtin id) r) (hg:Gl X x) (hm:X.mg x=none) (hv:HM x=some (.builtin id)) (ha:PA X (e::es) t) (hn:x ≠ "__name__" := by decide) (hdb:(x == ("__debug__" : Str))=false:=by decide)
  (he:A6 (e::es) X.env=(false,eval e X.env)::A6 es X.env:=by rfl) (hpl:(Dp pos (A6 es X.env)).any (·.1)=false:=by rfl):PE X (.Call (.Name x p) (e::es) [] pos) (OH r t):=by
 intro pins s σ H Q I h;refine O3 (Ha I hg hm hv ?_ hn hdb);exact PyProof.Rows.callWith_builtin1 (Av (ha pos pins s σ H _ I h) λ us s1 ⟨vs,H1,I1,r1,q1⟩=>hc pins s1 σ H1 vs us Q I1 r1 q1) he hpl
def Nq (hc:zzo X (.type T) r) (hg:Gl X x) (hm:X.mg x=none) (hv:HM x=some (.type T)) (ha:PA X (e::es) t) (hn:x ≠ "__name__" := by decide) (hdb:(x == ("__debug__" : Str))=false:=by decide)
  (he:A6 (e::es) X.env=(false,eval e X.env)::A6 es X.env:=by rfl) (hpl:(Dp pos (A6 es X.env)).any (·.1)=false:=by rfl):PE X (.Call (.Name x p) (e::es) [] pos) (OH r t):=by
 intro pins s σ H Q I h;refine O3 (Ha I hg hm hv ?_ hn hdb);exact Jg (Av (ha pos pins s σ H _ I h) λ us s1 ⟨vs,H1,I1,r1,q1⟩=>hc pins s1 σ H1 vs us Q I1 r1 q1) he hpl
end
end L2
namespace HT
open PySem PyProof.Rows
section
open PySem.SeqAt
open PySem.AutoSeq1 (wpAny_loadPart')
open PySem.MeetsSeq PySem.MeetsSeq2 PySem.MeetsSeq3
end
section
variable {prog:A0}{w:Ay}{A:AU}{E:Ae->Ai->Prop}{s:Ai}
def cat_tup {t b:Addr}{vs ws:List Ae}{Q:Ae->Ai->Prop} (ht:IsTup s.heap t vs.toArray) (hb:IsTup s.heap b ws.toArray) (hv:vs≠[])
  (h1:ws=[]->Q (.ref t) s) (h2:ws≠[]->Q (.ref s.heap.objs.size) { s with heap:=s.heap.push { cls:=.type "tuple",data:=.seq (vs++ws).toArray } })
  (hsz:vs.length + ws.length<=Am):An (Ap prog w) A (DD .Add (.ref t) (.ref b)) Q E s:=by
 obtain ⟨⟨cls,dd,data,sl⟩,ho,hc,n,hd⟩:=id ht;obtain ⟨⟨cls2,dd2,data2,sl2⟩,ho2,hc2,n2,hd2⟩:=id hb;simp only at hc hd hc2 hd2;subst hc hd hc2 hd2;have e:vs.toArray++ws.toArray=(vs++ws).toArray:=by simp
 by_cases hw:ws=[]
 ·exact concat_meets ⟨_,ho,rfl⟩ ⟨_,ho2,rfl⟩ Ou seq_tuple_add O7 O9 (OB _ _)
   (tuple_addW1 t b vs.toArray ws.toArray n n2 dd dd2 sl sl2 (by simpa using hv) (by simp [hw])) ⟨ho,ho2,h1 hw⟩
 ·refine concat_meets ⟨_,ho,rfl⟩ ⟨_,ho2,rfl⟩ Ou seq_tuple_add O7 O9 (OB _ _)
   (tuple_addW2 t b vs.toArray ws.toArray n n2 dd dd2 sl sl2 (by simpa using hv) (by simpa using hw) (by rw [Ci,Ci];exact hsz)) ⟨ho,ho2,?_⟩
  rw [e];exact h2 hw
def sIx (n d:Nat):Option Int->Nat
 | none=>d
 | some v=>if v < 0 then (v + (n:Int)).toNat else min v.toNat n
def sIx_none (n d:Nat):sIx n d none=d:=rfl
def sIx_nat (n d k:Nat):sIx n d (some (k:Int))=min k n:=by
 show (if (k:Int) < 0 then ((k:Int) + (n:Int)).toNat else min (k:Int).toNat n)=min k n;rw [if_neg (by omega),Ir]
theorem XM (n d:Nat) (hd:d<=n) (o:Option Int):sIx n d o<=n:=by
 cases o with
 | none=>exact hd
 | some v=>
  show (if v < 0 then (v + (n:Int)).toNat else min v.toNat n)<=n;by_cases hv:v < 0
  ·rw [if_pos hv];omega
  ·rw [if_neg hv];exact PJ _ _
def Tx (v:Int) (n d:Nat):(if v < 0 then max (v + (n:Int)) 0 else min v (n:Int))=((sIx n d (some v):Nat):Int):=by
 show (if v < 0 then max (v + (n:Int)) 0 else min v (n:Int))=(((if v < 0 then (v + (n:Int)).toNat else min v.toNat n):Nat):Int);by_cases hv:v < 0
 ·simp only [if_pos hv];omega
 ·simp only [if_neg hv];omega
def xP (lo hi:Option Int) (n:Nat):OC lo hi 1 (n:Int)=(((sIx n 0 lo:Nat):Int),((sIx n n hi:Nat):Int)):=by
 have h1:¬ ((1:Int) < 0):=by omega
 unfold OC;simp only [h1,if_false];refine Prod.ext ?_ ?_
 ·cases lo with
  | none=>rfl
  | some v=>exact Tx v n 0
 ·cases hi with
  | none=>rfl
  | some v=>exact Tx v n n
def ze (i j:Nat):Md (i:Int) (j:Int) 1=j - i:=by
 unfold Md;have h1:(1:Int) > 0:=by omega
 simp only [h1,if_true,Int.ediv_one];split <;> omega
theorem QR {v:Ae}{o:Option Int}{Q:Option Int->Ai->Prop} (p:IsPart v o) (h:Q o s):An (Ap prog w) A (Builtin.Slice.slicePartIndex v) Q E s:=by
 cases p with
 | none=>exact slicePart_none h
 | int i t=>exact slicePart_int h
def Vz {sl:Addr}{vl vu:Ae}{lo hi:Option Int}{n:Nat}{Q:Int×Int×Nat->Ai->Prop} (hs:s.heap.IsSliceOf sl vl vu .none) (pl:IsPart vl lo) (pu:IsPart vu hi)
  (h:Q (((sIx n 0 lo:Nat):Int),1,sIx n n hi - sIx n 0 lo) s):An (Ap prog w) A (RJ (.ref sl) (pure (n:Int))) Q E s:=by
 obtain ⟨os,hos,hcs,hds⟩:=id hs;unfold RJ Builtin.Slice.sliceFields;refine Ax (Ax (wpAny_field hos hds (x:=vl) rfl (Ax (wpAny_field hos hds (x:=vu) rfl (Ax (wpAny_field hos hds (x:=.none) rfl (AE ?_)))))));refine Ax (slicePart_none ?_);show An _ _ (if ((1:Int) == 0)=true then _ else _) _ _ s;rw [if_neg (by decide)];refine Ax (QR pl (Ax (QR pu (Ax (AE ?_)))));show An _ _ (match OC lo hi 1 (n:Int) with | (lo,hi)=>pure (lo,(1:Int),Md lo hi 1)) _ _ s;rw [xP lo hi n];show An _ _ (pure (((sIx n 0 lo:Nat):Int),(1:Int),Md ((sIx n 0 lo:Nat):Int) ((sIx n n hi:Nat):Int) 1)) _ _ s;rw [ze];exact AE h
def qj (xs:Array Ae) (i k:Nat):((Bh k).filterMap λ (m:Nat)=>xs[((i:Int) + (m:Int) * 1).toNat]?).toArray=((xs.toList.drop i).take k).toArray:=by
 have e:(λ (m:Nat)=>xs[((i:Int) + (m:Int) * 1).toNat]?)=λ m=>xs[i + m]?:=by
  funext m
  have:((i:Int) + (m:Int) * 1).toNat=i + m:=by omega
  rw [this]
 rw [e]
 have:=pick_run xs i k
 rw [List.filterMap_map] at this;have e2:((λ x=>xs[x]?) ∘ λ x=>i + x)=λ m=>xs[i + m]?:=rfl;rw [e2] at this;rw [this]
def getItem_tuple_cut {t sl:Addr}{items:Array Ae}{vl vu:Ae}{lo hi:Option Int}{Q:Ae->Ai->Prop} (ht:IsTup s.heap t items) (hs:s.heap.IsSliceOf sl vl vu .none) (pl:IsPart vl lo) (pu:IsPart vu hi)
  (hw:¬ (sIx items.size 0 lo=0/\sIx items.size items.size hi=items.size))
  (h:Q (.ref s.heap.objs.size) { s with heap:=s.heap.push { cls:=.type "tuple",data:=.seq ((items.toList.drop (sIx items.size 0 lo)).take (sIx items.size items.size hi - sIx items.size 0 lo)).toArray } })
  (hsz:items.size<=Am):An (Ap prog w) A (getItem (.ref t) (.ref sl)) Q E s:=by
 have htake:sizeOk (.seq ((items.toList.drop (sIx items.size 0 lo)).take (sIx items.size items.size hi - sIx items.size 0 lo)).toArray):=by
  show ((items.toList.drop (sIx items.size 0 lo)).take (sIx items.size items.size hi - sIx items.size 0 lo)).toArray.size<=Am;rw [Ci,Dh,D4,DU];omega
 have hj:sIx items.size items.size hi<=items.size:=XM _ _ (A7 _) hi;obtain ⟨os,hos,hcs,hds⟩:=id hs;have hTs:s.TypeIs (.ref sl) "slice" := ⟨os,hos,hcs⟩
 unfold getItem
 try with_reducible refine Hh ?_
 first | refine Ax (AE ?_) | skip
 refine Ax (wpAny_sequenceKey ht.typeIs (by decide) ?_);refine Ax (wpAny_callSpecial?_slot (name:=Str.ofString "__getitem__") ht.typeIs RL
  (wpAny_call_entry RL ht.typeIs entry_tuple_getitem ?_ (args_tuple_getitem _ _)))
 show An _ _ (Builtin.Tuple.tupleItemsOf (.ref t) >>= _) _ _ s;refine Ax (tupleItemsOf_ ht ?_);refine Ax (wpAny_typeOf hTs ?_);rw [if_pos (by decide)];refine Ax (Vz hs pl pu ?_);have hno:¬ ((((sIx items.size 0 lo:Nat):Int) == 0 && (1:Int) == 1 && (sIx items.size items.size hi - sIx items.size 0 lo) == items.size)=true):=by
  intro q;rw [Be,Be] at q;have q1:((sIx items.size 0 lo:Nat):Int)=0:=eq_of_beq q.1.1;have q2:sIx items.size items.size hi - sIx items.size 0 lo=items.size:=eq_of_beq q.2;exact hw ⟨by omega,by omega⟩
 show An _ _ (if (((sIx items.size 0 lo:Nat):Int) == 0 && (1:Int) == 1 && (sIx items.size items.size hi - sIx items.size 0 lo) == items.size)=true then _ else _) _ _ s;rw [if_neg hno,qj]
 first
  | exact Ax (m:=Mc _) (Kj (AE ⟨_,rfl,AE h⟩) htake)
  | exact Ax (m:=Mc _) (Kj (Ax (AE (AE ⟨_,rfl,AE h⟩))) htake)
  | exact Ax (Ax (m:=Mc _) (Kj (AE (AE ⟨_,rfl,AE h⟩)) htake))
  | exact Ax (Ax (m:=Mc _) (Kj (AE ⟨_,rfl,AE h⟩) htake))
end
end HT
namespace L2
open PySem PySem.Spec PyProof.Rows
abbrev TO:=St->Hp->(Option Int->Hp->Prop)->Prop
def PO (X:Cx) (e:Option Expr) (t:TO):Prop:=
 ∀ (pins:List (Addr×Obj)) (s:Ai) (σ:St) (H:Hp) (Q:Option Int->Hp->Prop),Inv X pins σ H s->t σ H Q ->
  An (Ap X.prog X.w) X.A (evalPart e X.env) (λ u s'=>∃ o H',Inv X pins σ H' s'/\IsPart u o/\Q o H') X.xe s
def Oe:TO:=λ _ H Q=>Q none H
def Sm (t:TE):TO:=λ σ H Q=>t σ H λ x H1=>∃ i,x=.int i/\Q (some i) H1
section
variable {X:Cx}{e:Expr}{te:TE}{lo hi:Option Expr}{tl th:TO}{pos p2:Pos}
def Oa:PO X none Oe:=by
 intro pins s σ H Q I h;rw [evalPart_none];exact AE ⟨none,H,I,.none,h⟩
def J8 (h:PE X e te):PO X (some e) (Sm te):=by
 intro pins s σ H Q I hw;rw [evalPart_some];refine Av (h pins s σ H _ I hw) λ u s1 ⟨x,H1,I1,r1,q1⟩=>?_;obtain ⟨i,rfl,q⟩:=q1;obtain ⟨t,rfl⟩:=r1;exact ⟨some i,H1,I1,.int i t,q⟩
def SlR (X:Cx) (r:V->Option Int->Option Int->Hp->VK->Prop):Prop:=
 ∀ (pins:List (Addr×Obj)) (s:Ai) (σ:St) (H:Hp) (x:V) (v vl vu:Ae) (lo hi:Option Int) (sl:Addr) (Q:VK),Inv X pins σ H s->RelV x v->s.heap.IsSliceOf sl vl vu .none->IsPart vl lo->IsPart vu hi->r x lo hi H Q ->
  ∃ T id,typeLookup (.type T) "__getitem__" = pure (some (.builtin id))/\s.TypeIs v T/\An (Ap X.prog X.w) X.A (getItem v (.ref sl)) (EP X pins σ Q) X.xe s
def SlR.or {r r':V->Option Int->Option Int->Hp->VK->Prop} (h:SlR X r) (h':SlR X r'):SlR X (λ x lo hi H Q=>r x lo hi H Q\/r' x lo hi H Q):=by
 intro pins s σ H x v vl vu lo hi sl Q I rx hs pl pu q;rcases q with q | q
 ·exact h pins s σ H x v vl vu lo hi sl Q I rx hs pl pu q
 ·exact h' pins s σ H x v vl vu lo hi sl Q I rx hs pl pu q
def RO (r:V->Option Int->Option Int->Hp->VK->Prop) (te:TE) (tl th:TO):TE:=λ σ H Q=>te σ H λ x H1=>tl σ H1 λ l H2=>th σ H2 λ u H3=>r x l u H3 Q
def N8 {r:V->Option Int->Option Int->Hp->VK->Prop} (hr:SlR X r) (he:PE X e te) (hl:PO X lo tl) (hu:PO X hi th):PE X (.Subscript e (.Slice lo hi none p2) pos) (RO r te tl th):=by
 intro pins s σ H Q I h;refine Subscript_ (Av (he pins s σ H _ I h) λ v s1 ⟨x,H1,I1,r1,q1⟩=>?_);refine wpAny_Slice (Av (hl pins s1 σ H1 _ I1 q1) λ vl s2 ⟨l,H2,I2,pl,q2⟩=>Av (hu pins s2 σ H2 _ I2 q2) λ vu s3 ⟨u,H3,I3,pu,q3⟩=>?_);rw [evalPart_none];refine AE ?_;have I4:Inv X pins σ H3 { s3 with heap:=s3.heap.push { cls:=.type "slice",data:=.fields #[vl,vu,.none] } }:=I3.kept (t':=s3.toks) λ b ob q=>BZ _ q;obtain ⟨T,id,hT,ht,hg⟩:=hr pins { s3 with heap:=s3.heap.push { cls:=.type "slice",data:=.fields #[vl,vu,.none] } } σ H3 x v vl vu l u s3.heap.objs.size Q I4 r1 (Heap.IsSliceOf.new ..) pl pu q3;show An (Ap X.prog X.w) X.A (LW e (.Slice lo hi none p2) v (.ref s3.heap.objs.size)) (EP X pins σ Q) X.xe { s3 with heap:=s3.heap.push { cls:=.type "slice",data:=.fields #[vl,vu,.none] } };exact tail_any (ops:=[.ref s3.heap.objs.size,v]) ht hT hg (by with_unfolding_all rfl)
def CG (xs:List V) (lo hi:Option Int):List V:=(xs.drop (HT.sIx xs.length 0 lo)).take (HT.sIx xs.length xs.length hi - HT.sIx xs.length 0 lo)
def Ra (xs:List V) (lo hi:Option Int):(CG xs lo hi).length<=xs.length:=by
 unfold CG;rw [Dh,D4];omega
def Kr (K:PySem.W.Frag):V->Option Int->Option Int->Hp->VK->Prop:=λ x lo hi H Q=>∃ a xs,x=.ref a/\CL K H a xs /\
 ¬ (HT.sIx xs.length 0 lo=0/\HT.sIx xs.length xs.length hi=xs.length)/\∀ p,H p=none->Q (.ref p) (As H p (.tup (CG xs lo hi)))
def qb6:SlR X (Kr X.K):=by
 intro pins s σ H x v vl vu lo hi sl Q I rx hs pl pu h;obtain ⟨a,xs,rfl,hx,hw,q⟩:=h;cases rx;obtain ⟨its,r,ht,hz⟩:=I.tuple hx;have hlen:its.toArray.size=xs.length:=by rw [Ci];exact r.length.symm
 refine ⟨"tuple",_,PyProof.Rows.slot_tuple_getitem.lookup,ht.typeIs,?_⟩;refine HT.getItem_tuple_cut ht hs pl pu (by rw [hlen];exact hw) ?_ (by rw [hlen];exact hz);rw [hlen];refine ⟨.ref s.heap.objs.size,_,I.laid (t':=s.toks) (o:=.tup (CG xs lo hi)) (λ b ob q=>BZ _ q) (A7 _) ?_,rfl,q _ (I.hok.fresh (A7 _))⟩;exact ⟨Cg (Ra xs lo hi) hz,_,(r.drop (HT.sIx xs.length 0 lo)).take (HT.sIx xs.length xs.length hi - HT.sIx xs.length 0 lo),IsTup.new _ _⟩
def Wb (K:PySem.W.Frag):R2:=λ x y H Q=>∃ a b xs ys,x=.ref a/\y=.ref b/\CL K H a xs/\CL K H b ys/\xs≠[]/\xs.length + ys.length<=Am /\
 (ys=[]->Q (.ref a) H)/\(ys≠[]->∀ p,H p=none->Q (.ref p) (As H p (.tup (xs++ys))))
theorem Vals.nil_iff {xs:List V}{us:List Ae} (r:Vals xs us):us=[]↔xs=[]:=by
 cases r with
 | nil=>simp
 | cons _ _=>simp
def qjf:OpR X (DD .Add) (Wb X.K):=by
 intro pins s σ H x y v u Q I rx ry h;obtain ⟨a,b,xs,ys,rfl,rfl,ha,hb,hx,hz,q1,q2⟩:=h;cases rx;cases ry;obtain ⟨its,r1,p1,_⟩:=I.tuple ha;obtain ⟨its2,r2,p2,_⟩:=I.tuple hb;refine HT.cat_tup p1 p2 (λ z=>hx (r1.nil_iff.mp z)) (λ z=>⟨.ref a,H,I,rfl,q1 (r2.nil_iff.mp z)⟩) (λ z=>?_) (by rw [<- r1.length,<- r2.length];exact hz);refine ⟨.ref s.heap.objs.size,_,I.laid (t':=s.toks) (o:=.tup (xs++ys)) (λ b ob q=>BZ _ q) (A7 _) ?_,rfl,q2 (λ w=>z (r2.nil_iff.mpr w)) _ (I.hok.fresh (A7 _))⟩;exact ⟨by rw [AV];exact hz,_,r1.append r2,IsTup.new _ _⟩
end
def Dj (n:Nat) (i:Int):Option Nat:=if 0<=i then (if i < n then some i.toNat else none) else if -(n:Int)<=i then some (i + n).toNat else none
def BE {α:Type} (xs:List α) (i:Int):Option α:=(Dj xs.length i).bind λ j=>xs[j]?
def TF {n:Nat}{i:Int}{j:Nat} (h:Dj n i=some j):seqIndex? i n=some j/\j < n/\-(n:Int)<=i/\i < n:=by
 unfold Dj at h;by_cases h0:0<=i
 ·rw [if_pos h0] at h;by_cases h1:i < n
  ·rw [if_pos h1] at h;have e:i.toNat=j:=Option.some.inj h;exact ⟨by rw [seqIndex_of h0 h1,e],by omega,by omega,h1⟩
  ·rw [if_neg h1] at h;cases h
 ·rw [if_neg h0] at h;by_cases h1:-(n:Int)<=i
  ·rw [if_pos h1] at h;have e:(i + n).toNat=j:=Option.some.inj h;exact ⟨by rw [seqIndex_neg (by omega) h1,e],by omega,h1,by omega⟩
  ·rw [if_neg h1] at h;cases h
theorem NN {α:Type}{xs:List α}{i:Int}{v:α} (h:BE xs i=some v):∃ j,seqIndex? i xs.length=some j/\xs[j]?=some v/\j < xs.length/\-(xs.length:Int)<=i/\i < xs.length:=by
 unfold BE at h;cases e:Dj xs.length i with
 | none=>rw [e] at h;cases h
 | some j=>
  rw [e] at h;obtain ⟨h1,h2,h3,h4⟩:=TF e;exact ⟨j,h1,h,h2,h3,h4⟩
def Lu (b:Expr):Prop:=∀ o i,subscripted b false o i=operate [o,i] (getItem o i)
def IxR (X:Cx) (r:R2):Prop:=
 ∀ (value slice:Expr) (pins:List (Addr×Obj)) (s:Ai) (σ:St) (H:Hp) (x y:V) (v u:Ae) (Q:VK),Inv X pins σ H s->RelV x v->RelV y u->r x y H Q ->
  subscripted slice false v u=operate [v,u] (getItem v u)->An (Ap X.prog X.w) X.A (LW value slice v u) (EP X pins σ Q) X.xe s
def Vp (X:Cx) (id:String) (r:V->List V->Hp->VK->Prop):Prop:=
 ∀ (pins:List (Addr×Obj)) (s:Ai) (σ:St) (H:Hp) (x:V) (xs:List V) (v:Ae) (us:List Ae) (Q:VK),Inv X pins σ H s->RelV x v->Vals xs us->r x xs H Q ->
  An (Ap X.prog X.w) X.A (call (.builtin id) (v::us)) (EP X pins σ Q) X.xe s
section
variable {X:Cx}{a b:Expr}{ta tb:TE}{pos:Pos}
def IxR.or {r r':R2} (h:IxR X r) (h':IxR X r'):IxR X (λ x y H Q=>r x y H Q\/r' x y H Q):=by
 intro value slice pins s σ H x y v u Q I rx ry q hs;rcases q with q | q
 ·exact h value slice pins s σ H x y v u Q I rx ry q hs
 ·exact h' value slice pins s σ H x y v u Q I rx ry q hs
def Se {r:R2} (hr:IxR X r) (ha:PE X a ta) (hb:PE X b tb) (hs:Lu b):PE X (.Subscript a b pos) (Jh r ta tb):=by
 intro pins s σ H Q I h;exact Subscript_ (IE ha hb I h λ v u s2 x y H2 I2 rx ry q=>hr a b pins s2 σ H2 x y v u Q I2 rx ry q (hs _ _))
def Kw (K:PySem.W.Frag):R2:=λ x y H Q=>∃ p xs i v,x=.ref p/\y=.int i/\AX K H p xs/\BE xs i=some v/\Q v H
def Ku (K:PySem.W.Frag):R2:=λ x y H Q=>∃ p xs i v,x=.ref p/\y=.int i/\CL K H p xs/\BE xs i=some v/\Q v H
def Kv:R2:=λ x y H Q=>∃ z i c,x=.str z/\y=.int i/\z.length<=Am/\BE z.cps.toList i=some c/\Q (.str ⟨#[c]⟩) H
def qjr:IxR X (Kw X.K):=by
 intro value slice pins s σ H x y v u Q I rx ry h hs;obtain ⟨p,xs,i,z,rfl,rfl,hq,he,q⟩:=h;cases rx;obtain ⟨t,rfl⟩:=ry;obtain ⟨its,r,pl,hz⟩:=I.list hq;obtain ⟨j,h1,h2,h3,h4,h5⟩:=NN he;obtain ⟨w,ew,rw'⟩:=r.get h2;have hl:=r.length;have hn:=IZ;have fin:EP X pins σ Q w s:=⟨z,H,I,rw',q⟩
 by_cases h0:0<=i
 ·have hj:i.toNat=j:=by
   rw [seqIndex_of h0 h5] at h1;exact Option.some.inj h1
  exact item_listR pl.isList h0 (by omega) (by rw [hj];simpa using ew) fin hs
 ·have hj:(i + (its.toArray.size:Int)).toNat=j:=by
   rw [seqIndex_neg (by omega) h4] at h1;rw [Ci,<- hl];exact Option.some.inj h1
  exact subscriptTail_builtinR (x:=w) pl.isList.typeIs slot_list_getitem.lookup
   (wpAny_getItem_list_neg (Q:=λ r s'=>r=w/\EP X pins σ Q r s') pl.isList (by omega) (by rw [Ci] <;> omega) (by omega) (by rw [hj];simpa using ew) ⟨rfl,fin⟩) hs
def qnh:IxR X (Ku X.K):=by
 intro value slice pins s σ H x y v u Q I rx ry h hs;obtain ⟨p,xs,i,z,rfl,rfl,hq,he,q⟩:=h;cases rx;obtain ⟨t,rfl⟩:=ry;obtain ⟨its,r,pl,hz⟩:=I.tuple hq;obtain ⟨j,h1,h2,h3,h4,h5⟩:=NN he;obtain ⟨w,ew,rw'⟩:=r.get h2;have hl:=r.length;have hn:=IZ;have fin:EP X pins σ Q w s:=⟨z,H,I,rw',q⟩
 exact subscriptTail_builtinR (x:=w) pl.typeIs slot_tuple_getitem.lookup
  (getItem_tuple (j:=j) (Q:=λ r s'=>r=w/\EP X pins σ Q r s') pl (by omega) (by omega) (by rw [Ci,<- hl];exact h1) (by simpa using ew) ⟨rfl,fin⟩) hs
def WB:IxR X Kv:=by
 intro value slice pins s σ H x y v u Q I rx ry h hs;obtain ⟨z,i,c,rfl,rfl,hz,he,q⟩:=h;obtain ⟨t,rfl⟩:=rx;obtain ⟨t',rfl⟩:=ry;obtain ⟨j,h1,h2,h3,h4,h5⟩:=NN he;have hl:z.cps.toList.length=z.length:=by simp [Str.length]
 rw [hl] at h1 h4 h5;have hn:=IZ;exact tail_any (Kd s z t) slot_str_getitem.lookup (getItem_str (c:=c) (by
  have e1:decide (i < -(2 ^ 63:Int))=false:=decide_eq_false (by omega);have e2:decide (i ≥ 2 ^ 63)=false:=decide_eq_false (by omega);rw [e1,e2,Bool.or_false]) (by rw [h1];simpa using h2) ⟨.str ⟨#[c]⟩,H,I.tok _,⟨_,rfl⟩,q⟩) hs
def VJ (K:PySem.W.Frag):R2:=λ x y H Q=>Kw K x y H Q\/Ku K x y H Q\/Kv x y H Q
def SW:IxR X (VJ X.K):=qjr.or (qnh.or WB)
def xT (its:List Ae) (n j:Nat) (u:Ae):Kb (·.setIfInBounds j u) { cls:=.type "list",data:=.seq its.toArray n }={ cls:=.type "list",data:=.seq (its.set j u).toArray n }:=by
 simp [Kb]
def Inv.lst {pins:List (Addr×Obj)}{σ:St}{H:Hp}{s:Ai}{p:Addr}{xs:List V} (I:Inv X pins σ H s) (h:H p=some (.lst xs)):
  ∃ (its:List Ae) (n:Nat),Vals xs its/\s.heap.get? p=some { cls:=.type "list",data:=.seq its.toArray n }/\xs.length<=Am:=by
 obtain ⟨z,its,n,r,e⟩:=I.hok p _ h;exact ⟨its,n,r,e,z⟩
def Inv.lstUpd {pins:List (Addr×Obj)}{σ:St}{H:Hp}{s:Ai}{p:Addr}{xs ys:List V}{its its':List Ae}{n n':Nat}{f:Obj->Obj} (I:Inv X pins σ H s) (h:H p=some (.lst xs))
  (ho:s.heap.get? p=some { cls:=.type "list",data:=.seq its.toArray n }) (hf:f { cls:=.type "list",data:=.seq its.toArray n }={ cls:=.type "list",data:=.seq its'.toArray n' }) (r:Vals ys its') (hz:ys.length<=Am) (t:Nat):
  Inv X pins σ (As H p (.lst ys)) { s with heap:=s.heap.update p f,toks:=t }:=by
 have e:(s.heap.update p f).get? p=some { cls:=.type "list",data:=.seq its'.toArray n' }:=by
  rw [Heap.get?_update_self f ho (by rw [hf] <;> rfl),hf]
 refine I.write (x:=p) (e:=p) (by rw [h];trivial) (.inl rfl) (λ b u hb q=>(Heap.get?_update_other _ _ (BG hb)).trans q) ⟨_,e⟩ ?_;exact ⟨hz,its',n',r,e⟩
def Mx:V->V->V->Hp->(Hp->Prop)->Prop:=λ o i v H Q=>∃ p xs k j,o=.ref p/\i=.int k/\H p=some (.lst xs)/\Dj xs.length k=some j/\Q (As H p (.lst (xs.set j v)))
def Og:PSet X Mx:=by
 intro pins s σ H o i v ov iv u Q I ro ri rv h;obtain ⟨p,xs,k,j,rfl,rfl,hp,hj,q⟩:=h;cases ro;obtain ⟨t,rfl⟩:=ri;obtain ⟨its,n,r,ho,hz⟩:=I.lst hp;obtain ⟨h1,h2,h3,h4⟩:=TF hj;have hl:=r.length;have hn:=IZ;have I':Inv X pins σ (As H p (.lst (xs.set j v))) { s with heap:=s.heap.update p (Kb (·.setIfInBounds j u)) }:=
  I.lstUpd hp ho (xT its n j u) (r.set rv j) (by rw [DI];exact hz) s.toks
 by_cases h0:0<=k
 ·have hk:k.toNat=j:=by
   rw [seqIndex_of h0 h4] at h1;exact Option.some.inj h1
  exact PySem.W.ki_setAt ho h0 (by omega) (by rw [Ci,<- hl];exact h4) (by rw [hk];exact ⟨_,I',q⟩)
 ·have hk:(k + (its.toArray.size:Int)).toNat=j:=by
   rw [seqIndex_neg (by omega) h3] at h1;rw [Ci,<- hl];exact Option.some.inj h1
  exact PySem.W.ki_setBack ho (by omega) (by rw [Ci,<- hl];exact h3) (by omega) (by rw [hk];exact ⟨_,I',q⟩)
def Vy (lo hi:Option Int) (n:Nat):(HK lo hi none n).1=((HT.sIx n 0 lo:Nat):Int)/\(HK lo hi none n).2.1=((HT.sIx n n hi:Nat):Int)/\(HK lo hi none n).2.2=1:=by
 refine ⟨?_,?_,rfl⟩
 ·cases lo with
  | none=>simp [HK,HT.sIx]
  | some i=>
   simp only [HK,HT.sIx,UW,show (1:Int) > 0 by decide,if_true];by_cases h:i < 0
   ·simp only [h,if_true] <;> omega
   ·simp only [h,if_false] <;> omega
 ·cases hi with
  | none=>simp [HK,HT.sIx]
  | some i=>
   simp only [HK,HT.sIx,UW,show (1:Int) > 0 by decide,if_true];by_cases h:i < 0
   ·simp only [h,if_true] <;> omega
   ·simp only [h,if_false] <;> omega
def VD (its:List Ae) (lo hi:Option Int):slicePick its.toArray lo hi none=((its.drop (HT.sIx its.length 0 lo)).take (HT.sIx its.length its.length hi - HT.sIx its.length 0 lo)).toArray:=by
 obtain ⟨h1,h2,h3⟩:=Vy lo hi its.toArray.size;unfold slicePick;rw [h1,h2,h3];simp only [sliceRange_one,pick_run,Ci] <;> rfl
def Kt (K:PySem.W.Frag):V->Option Int->Option Int->Hp->VK->Prop:=λ x lo hi H Q=>∃ a xs,x=.ref a/\AX K H a xs/\∀ p,H p=none->Q (.ref p) (As H p (.lst (CG xs lo hi)))
def zfv:SlR X (Kt X.K):=by
 intro pins s σ H x v vl vu lo hi sl Q I rx hs pl pu h;obtain ⟨a,xs,rfl,hx,q⟩:=h;cases rx;obtain ⟨its,r,ht,hz⟩:=I.list hx;have hlen:=r.length;refine ⟨"list",_,slot_list_getitem.lookup,ht.isList.typeIs,?_⟩;refine wpAny_getItem_list_slice ht.isList hs pl pu .none (by simp) ?_ (by rw [Ci] <;> omega);rw [VD,<- hlen];refine ⟨.ref s.heap.objs.size,_,I.laid (t':=s.toks) (o:=.lst (CG xs lo hi)) (λ b ob q=>BZ _ q) (A7 _) ?_,rfl,q _ (I.hok.fresh (A7 _))⟩;exact ⟨Cg (Ra xs lo hi) hz,_,0,(r.drop (HT.sIx xs.length 0 lo)).take (HT.sIx xs.length xs.length hi - HT.sIx xs.length 0 lo),Df _ rfl⟩
def zfi:zzo X (.builtin "len") (λ xs H Q=>∃ p ys,xs=[.ref p]/\(AX X.K H p ys\/CL X.K H p ys)/\Q (.int ys.length) H):=by
 intro pins s σ H xs us Q I r h;obtain ⟨p,ys,rfl,hq,q⟩:=h;obtain ⟨u,rfl,rx⟩:=Fo r;cases rx;have hn:=IZ;rcases hq with hq | hq
 ·obtain ⟨its,r',pl,hz⟩:=I.list hq;have hlen:=r'.length;exact Calls.call_len_list pl.isList (by simp only [Ci] <;> omega) ⟨.int ys.length,H,I.tok _,⟨s.toks + 1,by rw [Ci,hlen]⟩,q⟩
 ·obtain ⟨its,r',pl,hz⟩:=I.tuple hq;have hlen:=r'.length;exact len_tuple pl (by simp only [Ci] <;> omega) ⟨.int ys.length,H,I.tok _,⟨s.toks + 1,by rw [Ci,hlen]⟩,q⟩
def VB:zzo X (.builtin "len") (λ xs H Q=>∃ z,xs=[.str z]/\z.length<=Am/\Q (.int z.length) H):=by
 intro pins s σ H xs us Q I r h;obtain ⟨z,rfl,hz,q⟩:=h;obtain ⟨u,rfl,t,rfl⟩:=Fo r;have hn:=IZ;exact len_str (by omega) ⟨.int z.length,H,I.tok _,⟨_,rfl⟩,q⟩
def zzo.or {f:Ae}{r r':List V->Hp->VK->Prop} (h:zzo X f r) (h':zzo X f r'):zzo X f (λ xs H Q=>r xs H Q\/r' xs H Q):=by
 intro pins s σ H xs us Q I rs q;rcases q with q | q
 ·exact h pins s σ H xs us Q I rs q
 ·exact h' pins s σ H xs us Q I rs q
def VC:zzo X (.type "list") (λ xs H Q=>∃ p ys,xs=[.ref p]/\(AX X.K H p ys\/CL X.K H p ys)/\∀ l,H l=none->Q (.ref l) (As H l (.lst ys))):=by
 intro pins s σ H xs us Q I r h;obtain ⟨p,ys,rfl,hq,q⟩:=h;obtain ⟨u,rfl,rx⟩:=Fo r;cases rx;have fin:∀ (its:List Ae),Vals ys its->ys.length<=Am->∀ (h':Heap) (c':Nat),(∀ b o',s.heap.get? b=some o'->h'.get? b=some o') ->
   h'.get? s.heap.objs.size=some { cls:=.type "list",dict:=none,data:=.seq its.toArray c',slots:=#[] }->EP X pins σ Q (.ref s.heap.objs.size) { s with heap:=h' }:=λ its r' hz h' c' kp e=>
  ⟨.ref s.heap.objs.size,_,I.laid (t':=s.toks) kp (A7 _) (show zwb X.prog X.w _ h' _ (.lst ys) from ⟨hz,its,c',r',e⟩),rfl,q _ (I.hok.fresh (A7 _))⟩
 rcases hq with hq | hq
 ·obtain ⟨its,r',pl,hz⟩:=I.list hq;have hlen:=r'.length;obtain ⟨o,ho,hc,n,hd⟩:=pl.isList;exact call_list_seq p (.inl rfl) ho hc hd (λ h' c' kp e=>fin its r' hz h' c' kp e) (by simp only [Ci] <;> omega)
 ·obtain ⟨its,r',pl,hz⟩:=I.tuple hq;have hlen:=r'.length;obtain ⟨o,ho,hc,n,hd⟩:=pl;exact call_list_seq p (.inr rfl) ho hc hd (λ h' c' kp e=>fin its r' hz h' c' kp e) (by simp only [Ci] <;> omega)
def Me (K:PySem.W.Frag) (T:String) (x:V) (H:Hp):Prop:=match x with
 | .str _=>T = "str"
 | .int _=>T = "int"
 | .ref p=>(T = "list" /\ ∃ xs,AX K H p xs)\/(T = "tuple" /\ ∃ o,K.lookup p=some o/\o.cls=.type "tuple" /\ o.dict=none) \/
   (T = "dict" /\ ((∃ kvs,H p=some (.dK kvs))\/∃ kvs,H p=some (.dT kvs)))\/(T = "set" /\ ∃ S n,H p=some (.set S n))
 | _=>False
theorem XT {pins:List (Addr×Obj)}{σ:St}{H:Hp}{s:Ai}{T:String}{x:V}{v:Ae} (I:Inv X pins σ H s) (r:RelV x v) (ty:Me X.K T x H):
  s.TypeIs v T/\∀ a,v=.ref a->∃ ob,s.heap.get? a=some ob/\ob.dict=none:=by
 cases x with
 | str z=>
  obtain ⟨t,rfl⟩:=r;cases (show T = "str" from ty);exact ⟨Kd s z t,λ _ e=>nomatch e⟩
 | int i=>
  obtain ⟨t,rfl⟩:=r;cases (show T = "int" from ty);exact ⟨typeIs_int s i t,λ _ e=>nomatch e⟩
 | ref p=>
  cases r;rcases ty with ⟨rfl,xs,hq⟩ | ⟨rfl,o,hk,hc,hd⟩ | ⟨rfl,hk⟩ | ⟨rfl,S,n,hk⟩
  ·obtain ⟨its,_,pl,_⟩:=I.list hq;refine ⟨pl.isList.typeIs,λ a e=>?_⟩;cases e;obtain ⟨o,n,e,c,hd,_⟩:=pl;exact ⟨o,e,hd⟩
  ·refine ⟨⟨o,I.kIn p o hk,hc⟩,λ a e=>?_⟩;cases e;exact ⟨o,I.kIn _ o hk,hd⟩
  ·have z:∃ o,s.heap.get? p=some o/\o.ExactDict:=by
    rcases hk with ⟨kvs,hk⟩ | ⟨kvs,hk⟩
    ·obtain ⟨_,_,_,_,o,_,_,e,ex,_⟩:=I.hok p _ hk;exact ⟨o,e,ex⟩
    ·obtain ⟨_,_,_,_,o,_,_,e,ex,_⟩:=I.hok p _ hk;exact ⟨o,e,ex⟩
   obtain ⟨o,e,ex⟩:=z;refine ⟨⟨o,e,ex.1⟩,λ a e2=>?_⟩;cases e2;exact ⟨o,e,ex.2.1⟩
  ·obtain ⟨o,_,_,_,e,ex,_⟩:=I.hok p _ hk;refine ⟨⟨o,e,ex.1⟩,λ a e2=>?_⟩;cases e2;exact ⟨o,e,ex.2.1⟩
 | _=>exact Fp ty
def OI (K:PySem.W.Frag) (T:String) (r:V->List V->Hp->VK->Prop) (to:TE) (t:TA):TE:=λ σ H Q=>to σ H λ x H1=>Me K T x H1/\t σ H1 λ xs H2=>r x xs H2 Q
variable {o e:Expr}{es:List Expr}{to:TE}{t:TA}{name:Str}{apos cpos:Pos}{T id:String}{r:V->List V->Hp->VK->Prop}
def Sd (pa:PlainAttrs T) (slot:Slot T name id) (hty:typeOf (.builtin id)=pure (.type "method_descriptor")) (hm:Vp X id r) (ho:PE X o to) (ha:PA X (e::es) t)
  (hbase:attributeBase o name X.env (eval o X.env)=eval o X.env:=by rfl)
  (hfew:((Dp cpos (A6 (e::es) X.env)).all (λ x=>!x.1) && (backToKw cpos (keywordEach [] X.env)).all (λ x=>x.1.isSome)
   && decide ((e::es).length + ([]:List Keyword).length + (if ([]:List Keyword).isEmpty then 0 else 1) < 30))=true:=by rfl)
  (hline:(apos.endLine == cpos.line)=true:=by rfl) (hs:A6 (e::es) X.env=(false,eval e X.env)::A6 es X.env:=by rfl) (hplain:(Dp cpos (A6 es X.env)).any (·.1)=false:=by rfl):
  PE X (.Call (.Attribute o name apos) (e::es) [] cpos) (OI X.K T r to t):=by
 intro pins s σ H Q I h;refine wpAny_Call_method_late hbase hfew hline rfl (Av (ho pins s σ H _ I h) λ v s1 ⟨x,H1,I1,r1,ty,q1⟩=>?_);obtain ⟨h1,h2⟩:=XT I1 r1 ty;refine ⟨T,id,pa,slot,hty,h1,h2,?_⟩;have hA:=ha cpos pins s1 σ H1 _ I1 q1;rw [hs] at hA ⊢;refine Calls.callWith_builtin (by show (false || (Dp cpos (A6 es X.env)).any (·.1))=false;rw [hplain] <;> rfl) (Calls.evalArgs_plain ?_);exact Av hA λ us s2 ⟨vs,H2,I2,r2,q2⟩=>hm pins s2 σ H2 x vs v us Q I2 r1 r2 q2
end
def zW (X:Cx) (id:String) (r:V->List V->Hp->VK->Prop):Prop:=
 ∀ (pins:List (Addr×Obj)) (s:Ai) (σ:St) (H:Hp) (x:V) (xs:List V) (v:Ae) (us:List Ae) (Q:VK),Inv X pins σ H s->RelV x v->Vals xs us->r x xs H Q ->
  An (Ap X.prog X.w) X.A (call (.builtin id) (v::us)) (EP X pins σ Q) X.xe s
theorem Vals.one:∀ {x:V}{us:List Ae},Vals [x] us->∃ u,us=[u]/\RelV x u
 | _,_,.cons r .nil=>⟨_,rfl,r⟩
theorem Vals.rep {xs:List V}{us:List Ae} (h:Vals xs us):∀ k:Nat,Vals (AK k xs).flatten (AK k us).flatten
 | 0=>.nil
 | k + 1=>by
  rw [EX,EX,Iq,Iq];exact Vals.append h (Vals.rep h k)
theorem Q0 (its:List Ae):∀ (k:Nat) (acc:List Ae),
  MJ (λ x1 x2=>x1++x2) acc.toArray (AK k its.toArray)=(acc++(AK k its).flatten).toArray
 | 0,acc=>by simp
 | k + 1,acc=>by
  have e:acc.toArray++its.toArray=(acc++its).toArray:=by simp
  have e2:(acc++its)++(AK k its).flatten=acc++(AK (k + 1) its).flatten:=by
   rw [EX,Iq,Gj]
  rw [<- e2,<- Q0 its k (acc++its),<- e,EX,PD]
section
variable {X:Cx}{pins:List (Addr×Obj)}{σ:St}{H:Hp}{s:Ai}{l b:Addr}{xs ys zs:List V}
def Inv.lset {its its':List Ae}{n:Nat}{f:Array Ae->Array Ae}{t':Nat} (I:Inv X pins σ H s) (hH:H l=some (.lst xs))
  (e:s.heap.get? l=some { cls:=.type "list",data:=.seq its.toArray n }) (hf:f its.toArray=its'.toArray) (hv:Vals ys its') (hz:ys.length<=Am):
  Inv X pins σ (As H l (.lst ys)) { s with heap:=s.heap.update l (Kb f),toks:=t' }:=by
 have q:=PySem.IsL.update e f;rw [hf] at q;refine I.write (x:=l) (e:=l) (by rw [hH];exact trivial) (.inl rfl) (λ b' u hb hu=>(Heap.get?_update_other s.heap (Kb f) (BG hb)).trans hu) ⟨_,q⟩ ?_;exact ⟨hz,its',_,hv,q⟩
def Inv.lnew {its:List Ae}{t':Nat} (I:Inv X pins σ H s) (hv:Vals ys its) (hz:ys.length<=Am):
  Inv X pins σ (As H s.heap.objs.size (.lst ys)) { s with heap:=s.heap.push { cls:=.type "list",data:=.seq its.toArray },toks:=t' }:=
 I.laid (λ _ _ q=>BZ _ q) (A7 _) ⟨hz,its,0,hv,Df _ rfl⟩
def Inv.fresh (I:Inv X pins σ H s):H s.heap.objs.size=none:=I.hok.fresh (A7 _)
def Inv.lstM (I:Inv X pins σ H s) (hH:H l=some (.lst xs)):xs.length<=Am/\∃ (its:List Ae) (n:Nat),Vals xs its/\xs.length=its.length/\s.heap.get? l=some { cls:=.type "list",data:=.seq its.toArray n }:=by
 obtain ⟨z,its,n,r,e⟩:=I.hok l _ hH;exact ⟨z,its,n,r,r.length,e⟩
def qc {n:Nat} (h:n<=Am):OA n=false:=by
 unfold OA;exact decide_eq_false (by omega)
end
section
variable {X:Cx}
def Ua:V->List V->Hp->VK->Prop:=λ x vs H Q=>∃ l xs y,x=.ref l/\vs=[y]/\H l=some (.lst xs)/\xs.length < Am/\Q .non (As H l (.lst (xs++[y])))
def Q3:zW X "list.append" Ua:=by
 intro pins s σ H x vs v us Q I rx rv h;obtain ⟨l,xs,y,rfl,rfl,hH,hz,q⟩:=h;cases rx;obtain ⟨u,rfl,ru⟩:=rv.one;obtain ⟨z,its,n,r,hl,e⟩:=I.lstM hH;refine call_meets F.slot_list_append ⟨_,e,rfl⟩ F.entry_list_append (F.args_list_append_2 _ _) (PySem.list_append l its.toArray n u (by rw [Ci];omega)) ⟨e,?_⟩;refine ⟨.non,_,I.lset (its':=its++[u]) hH e (by simp) (r.append (.cons ru .nil)) ?_,rfl,q⟩;rw [AV,Gn];omega
def OM:R2:=λ x y H Q=>∃ l b xs zs,x=.ref l/\y=.ref b/\H l=some (.lst xs)/\H b=some (.lst zs)/\xs.length + zs.length<=Am/\∀ p,H p=none->Q (.ref p) (As H p (.lst (xs++zs)))
def qhg:OpR X (DD .Add) OM:=by
 intro pins s σ H x y v u Q I rx ry h;obtain ⟨l,b,xs,zs,rfl,rfl,hH,hB,hz,q⟩:=h;cases rx;cases ry;obtain ⟨z,its,n,r,hl,e⟩:=I.lstM hH;obtain ⟨z2,its2,n2,r2,hl2,e2⟩:=I.lstM hB;refine PySem.P.add_list e e2 ?_ (by rw [Ci,Ci];omega);have ea:its.toArray++its2.toArray=(its++its2).toArray:=by simp
 rw [ea];exact ⟨.ref _,_,I.lnew (t':=s.toks) (r.append r2) (by rw [AV];omega),rfl,q _ I.fresh⟩
def OL:R2:=λ x y H Q=>∃ l k xs,x=.ref l/\y=.int k/\H l=some (.lst xs)/\-(2 ^ 63)<=k/\k < 2 ^ 63/\xs.length * k.toNat<=Am /\
 ∀ p,H p=none->Q (.ref p) (As H p (.lst (AK k.toNat xs).flatten))
theorem YA {α:Type} (xs:List α) (k:Nat):(AK k xs).flatten.length=k * xs.length:=by
 induction k with
 | zero=>simp
 | succ k ih=>rw [EX,Iq,AV,ih,UG,Nat.add_comm]
def qms:OpR X (DD .Mult) OL:=by
 intro pins s σ H x y v u Q I rx ry h;obtain ⟨l,k,xs,rfl,rfl,hH,h1,h2,hz,q⟩:=h;cases rx;obtain ⟨t,rfl⟩:=ry;obtain ⟨z,its,n,r,hl,e⟩:=I.lstM hH;have hlen:its.toArray.size * k.toNat<=Am:=by rw [Ci,<- hl];exact hz
 have hcap:¬ its.toArray.size * k.toNat > (2 ^ 63 - 1) / 8:=by
  have:(Am:Nat)<=(2 ^ 63 - 1) / 8:=by decide
  omega
 have hfit:¬ (!Builtin.List.listFitsIndex k)=true:=by
  rw [fitsIndex_both h1 h2];exact Di
 have hlong:¬ OA (its.toArray.size * k.toNat)=true:=by
  rw [qc hlen];exact Di
 have hnew:MJ (λ x1 x2=>x1++x2) #[] (AK (if its.toArray.isEmpty=true then 0 else k.toNat) its.toArray)=(AK k.toNat its).flatten.toArray:=by
  have f0:∀ m:Nat,MJ (λ x1 x2=>x1++x2) #[] (AK m its.toArray)=(AK m its).flatten.toArray:=λ m=>by
   have:=Q0 its m []
   rw [KH] at this;exact this
  rw [f0];cases its with
  | nil=>simp
  | cons a r'=>rw [if_neg (by simp)]
 refine wpAny_binaryOp_repeat_ref (T := "list") (U := "int") (by decide) ⟨_,e,rfl⟩ (λ s'=>typeIs_int s' k t) noFill_list_mul F.fills_int_mul F.slot_int_rmul repeat_list F.slot_int_index.lookup
  (call_meets F.slot_int_rmul (typeIs_int s k t) F.entry_int_rmul (F.args_int_rmul_2 _ _) (int___rmul___int_list k t l its.toArray n)
   ⟨e,rfl,⟨_,e,rfl⟩,call_meets F.slot_list_mul ⟨_,e,rfl⟩ F.entry_list_mul (F.args_list_mul_2 _ _) (AutoListH.list___mul___list_int_3 l its.toArray n k t hfit hcap hlong) ⟨e,?_⟩⟩)
 rw [hnew];exact ⟨.ref _,_,I.lnew (t':=s.toks) (r.rep k.toNat) (by rw [YA,UE];exact hz),rfl,q _ I.fresh⟩
end
section
variable {prog:A0}{w:Ay}{A:AU}{E:Ae->Ai->Prop}{s:Ai}
end
section
variable {X:Cx}
end
end L2
namespace Att
open PySem PySem.W PySem.Calls PyProof.Rows
theorem V0 {P:Params}{h:Heap}:∀ (ns:List Int) (vs:List Ae),WellAll P h vs (ns.map WData.int)->IntsAre vs ns:=by
 intro ns;induction ns with
 | nil=>
  intro vs w;rw [KA] at w;cases w;exact .nil
 | cons n ns ih=>
  intro vs w;rw [BQ] at w;cases w with
  | cons a b=>
   cases a;exact .cons _ _ (ih _ b)
theorem xY {l:OpenLaw}{n:Nat} (hn:l.most=some n) {P:Params}{h:Heap}{args:List WData}{vals:List Ae}
  (hpre:l.row.toRowW.claim.pre args=true) (hwl:WellAll P h vals args):
  ∃ a vs ns,vals=[Value.ref a]/\args=[WData.list (ns.map WData.int)]/\h.get? a=some { cls:=.type "list",data:=.seq vs.toArray }/\IntsAre vs ns/\ns.length<=n:=by
 have hsh:WShape.hasAll [] args [.list .int]=true:=(pre_splitW hpre).1;have hc:l.pre.holds [] { args:=args }=true:=(pre_splitW hpre).2;obtain ⟨d,r,rfl,h1,h2⟩:=hasAllW_cons hsh;obtain rfl:=hasAllW_nil h2;obtain ⟨xs,rfl,h3⟩:=hasW_list h1;obtain ⟨ns,rfl⟩:=items_int h3;have hlen:ns.length<=n:=by
  unfold OpenLaw.pre at hc;have h4:(WTm.not (.lt (.lit (.int (n:Int))) (.len (.arg 0)))).holds [] { args:=[.list (ns.map .int)] }=true:=by
   have h4:=(holds_andW hc).1;rw [hn] at h4;exact h4
  have h5:=condW_of h4 (w_not (w_lt w_lit (w_len_list (w_arg rfl))));rw [A5] at h5;refine UU λ q=>?_;have q':(n:Int) < ((ns.length:Nat):Int):=by omega
  first
   | (rw [decide_eq_true q'] at h5;exact absurd h5 (by decide))
   | (simp at h5;omega)
 cases hwl with
 | cons w1 w2=>
  cases w2;cases w1 with
  | list ho hall=>exact ⟨_,_,ns,rfl,rfl,ho,V0 ns _ hall,hlen⟩
def xA (l:OpenLaw) (args:List WData):l.row.toRowW.claim.post args (.bool true) args=true:=
 postW_of (r:=l.row.toRowW) (X:=(true == true))
  (show WShape.has [] (.bool true) .bool=true by first | rfl | decide | simp [WShape.has,WShape.arms,WShape.armsAll])
  (show (WTm.eq .res (.lit (.bool true))).value [] { args:=args,res:=some (.bool true),after:=args }=some (.bool (true == true)) from w_eq_bool (w_res rfl) w_lit) rfl
def attach_call {l:OpenLaw}{n:Nat}{q:A0}{loose:List Str}{XP:(Str->Option Ae)->Heap->Prop}{YP:Ay->Heap->Prop}{d:DefRec}
  (hn:l.most=some n) (hdf:d.params.defaults=[])
  (call:∀ (w:Ay) (s₀ s₁:Ai) (mg mb:Str->Option Ae) (fa:Addr) (o:Obj) (pm cd doc:Ae) (a:Addr) (vs:List Ae) (ns:List Int),
   Ground q loose [] XP w s₀ mg mb s₁.heap->YP w s₁.heap ->
   s₁.heap.get? fa=some o->o.data=.func (docDef d.name d.params d.body d.scope pm cd doc)->s₁.heap.CodeRec cd d.name->mg d.name=some (.ref fa) ->
   s₁.heap.get? a=some { cls:=.type "list",data:=.seq vs.toArray }->IntsAre vs ns->ns.length<=n->s₁.gens=#[] ->
   FR (Ap l.prog w) HJ (.call (.ref fa) ⟨[.ref a],[]⟩) (λ r s'=>r=.ok (.ret (.bool true))/\OldK s₁.heap s'.heap/\s'.os=s₁.os/\E4 s'.gens) s₁):
  WalkO q loose XP YP l.row.toRowW d [] (λ f vs=>PySem.call f vs):=by
 intro w s₀ s₁ mg mb G Y fa o pm cd doc dV kV ho hd hcd hD hmg hg args vals as hpre hlay hrd hwl hlo;obtain rfl:dV=.none:=Dflts.none hD hdf;obtain rfl:kV=.none:=Dflts.noKw hD;obtain ⟨a,vs,ns,rfl,rfl,hobj,hints,hlen⟩:=xY hn hpre hwl;refine enter_call (Ke (call w s₀ s₁ mg mb fa o pm cd doc a vs ns G Y ho (fd_plain hd) hcd hmg hobj hints hlen hg) λ r s' hq=>?_);obtain ⟨rfl,h2,h3,h4⟩:=hq;exact ⟨.inl ⟨.bool true,.bool true,[],rfl,λ _=>rfl,.bool true,xA l _,λ _=>⟨List.Pairwise.nil,λ _ hm=>(nomatch hm)⟩⟩,h2,h3,h4⟩
section
variable {prog:A0}{w:Ay}{A:AU}{E:Ae->Ai->Prop}{s:Ai}{K:Frag}
end
end Att
namespace L2
open PySem PySem.Spec PyProof.Rows
theorem Qw:∀ {vs:List Ae}{ns:List Int},IntsAre vs ns->Vals (ns.map V.int) vs
 | _,_,.nil=>.nil
 | _,_,.cons n t h=>.cons ⟨t,rfl⟩ (Qw h)
def GF (H:Hp):Prop:=∀ b,H b=none\/∃ o xs,H b=some (.frz o (.lst xs))
theorem qC {P:A0}{w:Ay}{K:PySem.W.Frag}{mg mb:Str->Option Ae}{CX:EB}{k:Nat}{fa a:Addr}{fd:CJ}{x:Str}{sp:Sp}{s₁:Ai}{vs:List Ae}{ns:List Int}
  (KX:K.In s₁.heap) (hns:s₁.heap.Ns DT mg) (hb:s₁.heap.Ns builtinsNs mb) (hbb:∀ x:Str,x ≠ "__name__" -> mb x=HM x) (hlim:s₁.heap.NoLimit) (hg:s₁.gens=#[])
  (ha:s₁.heap.get? a=some { cls:=.type "list",data:=.seq vs.toArray }) (hi:IntsAre vs ns) (hl:ns.length<=Am) (hr:Room k HJ)
  (F:∀ base:Heap,K.In base->base.Ns DT mg->FnOk P w K mg base CX k fa fd [x] sp) (hbind:∀ (s:Ai) (u:Ae),BindsTo s fd ⟨[u],[]⟩ [(x,u)])
  (hsp:∀ H:Hp,GF H->AX K H a (ns.map V.int)->sp [.ref a] H (λ v _=>v=.bl true) λ _ _ _=>False)
  (hCX:∀ H e s',CX [] H s₁ (λ _ _ _=>False) e s'->False):
  FR (Ap P w) HJ (.call (.ref fa) ⟨[.ref a],[]⟩) (λ r s'=>r=.ok (.ret (.bool true))/\OldK s₁.heap s'.heap/\s'.os=s₁.os/\E4 s'.gens) s₁:=by
 have rv:=Qw hi;have lenV:=hi.length;have core:∀ H:Hp,GF H->AX K H a (ns.map V.int)->HOk P w H s₁.heap->(∀ b,H b≠none->b=a)->(H a≠none->K.lookup a=none) ->
   FR (Ap P w) HJ (.call (.ref fa) ⟨[.ref a],[]⟩) (λ r s'=>r=.ok (.ret (.bool true))/\OldK s₁.heap s'.heap/\s'.os=s₁.os/\E4 s'.gens) s₁:=by
  intro H hO hS hok hA hK;have base_of:∀ {b:Addr}{o:Obj},s₁.heap.get? b=some o->H b=none->(CW s₁.heap H).get? b=some o:=λ e n=>q9 e n;have noA:∀ {b:Addr}{o:Obj}{es:Array DictEntry}{ep:Nat},s₁.heap.get? b=some o->o.data=.dict es ep->H b=none:=λ {b o es ep} e d=>by
   cases q:H b with
   | none=>rfl
   | some u=>
    have e':b=a:=hA b (by rw [q];simp);subst e';rw [ha] at e;cases e;have d':Data.seq vs.toArray _=Data.dict es ep:=d;cases d'
  have nsK:∀ {b:Addr}{m:Str->Option Ae},s₁.heap.Ns b m->(CW s₁.heap H).Ns b m:=λ {b m} ⟨o,es,ep,e,d,r⟩=>⟨o,es,ep,base_of e (noA e d),d,r⟩
  have hKb:K.In (CW s₁.heap H):=λ b o e=>base_of (KX b o e) (by
   cases q:H b with
   | none=>rfl
   | some u=>
    have e':b=a:=hA b (by rw [q];simp);subst e';rw [hK (by rw [q];simp)] at e;cases e)
  have hM:Mod K mg (CW s₁.heap H):=⟨hKb,nsK hns,⟨mb,nsK hb,hbb⟩,let ⟨mc,h1,h2⟩:=hlim;⟨mc,nsK h1,h2⟩⟩
  have e0:Env0 P w K mg (CW s₁.heap H) HJ [] s₁ H:=⟨rfl,hM,λ b o e=>YD e,Nat.le_of_eq (xj _ _),trivial,λ b hb=>absurd (show b∈([]:List Addr) from hb) (by simp),hok,.of_eq hg⟩
  refine Ke ((F _ hKb (nsK hns)).run HJ [] s₁ H ⟨[.ref a],[]⟩ [.ref a] [.ref a] _ _ hr e0 (hbind s₁ (.ref a)) (.cons rfl .nil) (hsp H hO hS)) λ r s' h=>?_;cases r with
  | error e=>exact (hCX H e s' h).elim
  | ok fl=>
   cases fl with
   | next=>exact Fp h
   | brk=>exact Fp h
   | cont=>exact Fp h
   | ret u=>
    obtain ⟨v,H',os,bare,un,hok',r',q⟩:=h;have q':v=.bl true:=q;subst q';obtain rfl:u=Value.bool true:=r';refine ⟨rfl,OldK.of_keep λ b o e=>?_,os,bare⟩;cases q:H b with
    | none=>exact un.keep b o e q (by intro z;exact absurd (show b∈([]:List Addr) from z) (by simp)) (by simp)
    | some u=>
     rcases hO b with z | ⟨ob,xs,z⟩
     ·rw [q] at z;cases z
     ·have z2:=un.frzs b ob _ z;obtain ⟨e1,_⟩:=hok b _ z;obtain ⟨e2,_⟩:=hok' b _ z2;rw [e] at e1;cases e1;exact e2
 cases hk:K.lookup a with
 | some o=>
  have e:=KX a o hk;rw [ha] at e;cases e;refine core (λ _=>none) (λ _=>.inl rfl) (.inr ⟨_,vs.toArray,_,hk,rfl,rfl,rfl,by rw [Ci,lenV];exact hl,by simpa using rv⟩) (λ b u z=>by have z':(none:Option HO)=some u:=z;cases z') (λ b z=>absurd rfl z) λ z=>absurd rfl z
 | none=>
  refine core (λ b=>if b=a then some (.frz { cls:=.type "list",data:=.seq vs.toArray } (.lst (ns.map V.int))) else none) (λ b=>?_) (.inl (.inr ⟨{ cls:=.type "list",data:=.seq vs.toArray },if_pos rfl⟩)) (λ b u z=>?_) (λ b z=>?_) λ _=>hk
  ·by_cases hb:b=a
   ·exact .inr ⟨_,_,if_pos hb⟩
   ·exact .inl (if_neg hb)
  ·by_cases hb:b=a
   ·have z':=(if_pos hb).symm.trans z;cases z';subst hb;exact ⟨ha,by rw [A5];exact hl,vs,_,rv,ha⟩
   ·have z':=(if_neg hb).symm.trans z;cases z'
  ·by_cases hb:b=a
   ·exact hb
   ·exact absurd (if_neg hb) z
structure Fun (K:PySem.W.Frag) (x qual:Str) (st:Stmt) (f:Addr) (fd:CJ):Prop where
 ex:∃ (oc:Ae) (od:Option Addr) (kV doc pm:Ae) (an:Option Addr) (cdv ct:Ae) (osl:Array (Option Ae)),
  fd=Jd x qual (JU st) (BP st) (Bo st) .none kV doc pm an cdv ct/\K.lookup f=some ⟨oc,od,.func fd,osl⟩/\Oj K cdv qual=true
 kp:HN K (.ref f)=true
section
variable {P:A0}{w:Ay}{K:PySem.W.Frag}{mg:Str->Option Ae}{base:Heap}
def Fun.binds {x qual:Str}{st:Stmt}{f:Addr}{fd:CJ}{ps:List Str} (F:Fun K x qual st f fd)
  (h:∀ (kV doc pm:Ae) (an:Option Addr) (cdv ct:Ae) (us:List Ae),us.length=ps.length->bindArgs (Jd x qual (JU st) (BP st) (Bo st) .none kV doc pm an cdv ct) ⟨us,[]⟩=pure (ps.zip us)):zfp K fd ps []:=by
 obtain ⟨oc,od,kV,doc,pm,an,cdv,ct,osl,rfl,lk,hcd⟩:=F.ex;exact .all (h kV doc pm an cdv ct)
def W5 {x qual:Str}{st:Stmt}{f:Addr}{oc:Ae}{od an:Option Addr}{osl:Array (Option Ae)}{kV doc pm cdv ct:Ae} (l:K.lookup f=some ⟨oc,od,.func (Jd x qual (JU st) (BP st) (Bo st) .none kV doc pm an cdv ct),osl⟩)
  (c:Oj K cdv qual=true) (k:HN K (.ref f)=true):Fun K x qual st f (Jd x qual (JU st) (BP st) (Bo st) .none kV doc pm an cdv ct):=⟨⟨oc,od,kV,doc,pm,an,cdv,ct,osl,rfl,l,c⟩,k⟩
end
section
variable {X:Cx}
end
end L2
namespace QQ
open PySem PySem.Spec PyProof.Rows L2
abbrev St:=L2.St
def KL (K:Frag) (a:Addr) (xs:List V):Prop:=∃ (o:Obj) (its:Array Ae) (n:Nat),K.lookup a=some o/\o.cls=.type "list" /\ o.dict=none/\o.data=.seq its n/\its.size<=Am/\Vals xs its.toList
def ZA {K:Frag}{H:Hp}{a:Addr}{xs:List V} (h:AX K H a xs):Me K "list" (.ref a) H:=.inl ⟨rfl,xs,h⟩
def Vs (z:Str):It:=⟨λ i _=>i < z.cps.size,λ i H v H'=>H'=H/\∃ c,z.cps[i]?=some c/\v=.str ⟨#[c]⟩,λ i _=>z.cps.size<=i⟩
def HB (z:Str):Bool:=z.cps.all (·< 128)
def Fc (K:Frag) (tl:TE):TI:=λ σ H R=>tl σ H λ x H1=>(∃ a,x=.ref a/\(((∃ xs,AX K H1 a xs)/\R (Vr K a) H1)\/((∃ xs,CL K H1 a xs)/\R (Vq K a) H1)))\/∃ z,x=.str z/\HB z=true/\R (Vs z) H1
def HH (k:Nat) (wi:TI) (g:TG) (tc:TT) (te:TE):TE:=λ σ H Q=>wi σ H λ J H1=>∀ D,H1 D=none->∃ W:Nat->Nat->List V->Hp->Prop,(∃ m,W 0 m [] (As H1 D (.lst [])))/\∀ i m ys H,W i m ys H->H D=some (.lst ys) /\
 ((J.stop i H/\Q (.ref D) H)\/(J.go i H/\∀ x H',J.yld i H x H'->g x (σ++AK k none) H' λ σ2 H2=>tc σ2 H2 λ b H3=>if b=true then te σ2 H3 λ y H4=>H4 D=some (.lst ys)/\ys.length < Am/\∃ m',m' < m/\W (i + 1) m' (ys++[y]) (As H4 D (.lst (ys++[y]))) else ∃ m',m' < m/\W (i + 1) m' ys H3))
inductive PV where
 | non | bl (b:Bool) | int (i:Int) | str (x:Str) | lst (xs:List PV) | tup (xs:List PV) | emp | dko | scr (ns:List Int) | dct (kvs:List (List AG×V)) | exn (c:Nat)
 deriving Inhabited
inductive MO where
 | l (xs:List V) | d (kvs:List (List AG×V))
def MO.ho:MO->HO
 | .l xs=>.lst xs
 | .d kvs=>.dT kvs
def Ez (a C:Addr) (h:Heap):Prop:=∃ o vs,h.get? a=some o/\o.cls=.ref C/\o.data=.fields vs
def om:Nat:=1000
def pd (d:Nat):Nat:=if d=om then om else d - 1
def VW:pd om=om:=rfl
def TR:pd 0=0:=rfl
mutual
def Own (K:Frag) (H:Hp) (Z:Addr->Prop):PV->Nat->V->List Addr->Prop
 | .non,_,v,fp=>v=.non/\fp=[]
 | .bl b,_,v,fp=>v=.bl b/\fp=[]
 | .int i,_,v,fp=>v=.int i/\fp=[]
 | .str x,_,v,fp=>v=.str x/\fp=[]
 | .emp,_,v,fp=>fp=[]/\∃ a,v=.ref a/\H a=some (.dK [])
 | .dko,_,v,fp=>fp=[]/\∃ a,v=.ref a/\∃ kvs,H a=some (.dK kvs)
 | .scr ns,_,v,fp=>fp=[]/\∃ a,v=.ref a/\((∃ o,H a=some (.frz o (.lst (ns.map V.int))))\/KL K a (ns.map V.int))
 | .exn c,_,v,fp=>fp=[]/\∃ a C,v=.ref a/\Cb K c=some C/\H a=some (.ext (Ez a C))
 | .dct kvs,d,v,fp=>∃ a,v=.ref a/\((d=0/\(H a=some (.dT kvs)/\¬ Z a)/\fp=[])\/(d≠0/\H a=some (.dT kvs)/\fp=[a]))
 | .lst xs,d,v,fp=>∃ a vs,v=.ref a/\((d=0/\(H a=some (.lst vs)/\¬ Z a)/\fp=[]/\OwnL K H Z xs 0 vs [])\/(d≠0/\∃ f,H a=some (.lst vs)/\fp=a::f/\a∉f/\OwnL K H Z xs (pd d) vs f))
 | .tup xs,d,v,fp=>∃ a vs,v=.ref a/\H a=some (.tup vs)/\OwnL K H Z xs (pd d) vs fp
def OwnL (K:Frag) (H:Hp) (Z:Addr->Prop):List PV->Nat->List V->List Addr->Prop
 | [],_,vs,fp=>vs=[]/\fp=[]
 | x::xs,d,vs,fp=>∃ v r f1 f2,vs=v::r/\fp=f1++f2/\(∀ a∈f1,a∉f2)/\Own K H Z x d v f1/\OwnL K H Z xs d r f2
end
def C0 (S:Addr->Prop) (H H':Hp):Prop:=∀ a o,H a=some o->¬ S a->H' a=some o
section
variable {K:Frag}{H H':Hp}{Z Z' S:Addr->Prop}
mutual
theorem Own.lsts:∀ (x:PV) (d:Nat) (v:V) (fp:List Addr),Own K H Z x d v fp->∀ a∈fp,∃ o:MO,H a=some o.ho
 | .non,_,_,_,h,a,ha=>by rw [Own] at h;rw [h.2] at ha;cases ha
 | .bl _,_,_,_,h,a,ha=>by rw [Own] at h;rw [h.2] at ha;cases ha
 | .int _,_,_,_,h,a,ha=>by rw [Own] at h;rw [h.2] at ha;cases ha
 | .str _,_,_,_,h,a,ha=>by rw [Own] at h;rw [h.2] at ha;cases ha
 | .emp,_,_,_,h,a,ha=>by rw [Own] at h;rw [h.1] at ha;cases ha
 | .dko,_,_,_,h,a,ha=>by rw [Own] at h;rw [h.1] at ha;cases ha
 | .scr _,_,_,_,h,a,ha=>by rw [Own] at h;rw [h.1] at ha;cases ha
 | .exn _,_,_,_,h,a,ha=>by rw [Own] at h;rw [h.1] at ha;cases ha
 | .dct kvs,d,v,fp,h,a,ha=>by
  rw [Own] at h;obtain ⟨b,_,⟨_,_,e⟩ | ⟨_,hb,e⟩⟩:=h
  ·rw [e] at ha;cases ha
  ·rw [e] at ha;rw [ja6.mp ha];exact ⟨.d kvs,hb⟩
 | .lst xs,d,v,fp,h,a,ha=>by
  rw [Own] at h;obtain ⟨b,vs,_,⟨_,_,e,_⟩ | ⟨_,f,hb,e,_,hl⟩⟩:=h
  ·rw [e] at ha;cases ha
  ·rw [e] at ha;rcases jb2.mp ha with z | z
   ·exact ⟨.l vs,by rw [z];exact hb⟩
   ·exact OwnL.lsts xs _ vs f hl a z
 | .tup xs,d,v,fp,h,a,ha=>by
  rw [Own] at h;obtain ⟨b,vs,_,_,hl⟩:=h;exact OwnL.lsts xs _ vs fp hl a ha
theorem OwnL.lsts:∀ (xs:List PV) (d:Nat) (vs:List V) (fp:List Addr),OwnL K H Z xs d vs fp->∀ a∈fp,∃ o:MO,H a=some o.ho
 | [],_,_,_,h,a,ha=>by rw [OwnL] at h;rw [h.2] at ha;cases ha
 | x::xs,d,vs,fp,h,a,ha=>by
  rw [OwnL] at h;obtain ⟨v,r,f1,f2,_,e,_,h1,h2⟩:=h;rw [e] at ha;rcases jc2.mp ha with z | z
  ·exact Own.lsts x d v f1 h1 a z
  ·exact OwnL.lsts xs d r f2 h2 a z
end
mutual
theorem Own.move (k:C0 S H H') (hS:∀ a,S a->Z a/\∃ o:MO,H a=some o.ho) (hz:∀ a,H a≠none->¬ Z a->¬ Z' a):
  ∀ (x:PV) (d:Nat) (v:V) (fp:List Addr),(∀ a∈fp,¬ S a)->Own K H Z x d v fp->Own K H' Z' x d v fp
 | .non,_,_,_,_,h=>by rw [Own] at h ⊢;exact h
 | .bl _,_,_,_,_,h=>by rw [Own] at h ⊢;exact h
 | .int _,_,_,_,_,h=>by rw [Own] at h ⊢;exact h
 | .str _,_,_,_,_,h=>by rw [Own] at h ⊢;exact h
 | .emp,_,_,_,_,h=>by
  rw [Own] at h ⊢;obtain ⟨e,a,ev,ha⟩:=h;exact ⟨e,a,ev,k a _ ha λ s=>by obtain ⟨_,o,e⟩:=hS a s;rw [ha] at e;cases o <;> cases e⟩
 | .dko,_,_,_,_,h=>by
  rw [Own] at h ⊢;obtain ⟨e,a,ev,kvs,ha⟩:=h;exact ⟨e,a,ev,kvs,k a _ ha λ s=>by obtain ⟨_,o,e⟩:=hS a s;rw [ha] at e;cases o <;> cases e⟩
 | .scr ns,_,_,_,_,h=>by
  rw [Own] at h ⊢;obtain ⟨e,a,ev,⟨o,ha⟩ | ha⟩:=h
  ·exact ⟨e,a,ev,.inl ⟨o,k a _ ha λ s=>by obtain ⟨_,q,e⟩:=hS a s;rw [ha] at e;cases q <;> cases e⟩⟩
  ·exact ⟨e,a,ev,.inr ha⟩
 | .exn c,_,_,_,_,h=>by
  rw [Own] at h ⊢;obtain ⟨e,a,C,ev,hc,ha⟩:=h;exact ⟨e,a,C,ev,hc,k a _ ha λ s=>by obtain ⟨_,q,e⟩:=hS a s;rw [ha] at e;cases q <;> cases e⟩
 | .dct kvs,d,v,fp,hf,h=>by
  rw [Own] at h ⊢;obtain ⟨b,ev,⟨d0,hr,e⟩ | ⟨d0,hb,e⟩⟩:=h
  ·exact ⟨b,ev,.inl ⟨d0,⟨k b _ hr.1 λ s=>hr.2 (hS b s).1,hz b (by rw [hr.1];simp) hr.2⟩,e⟩⟩
  ·exact ⟨b,ev,.inr ⟨d0,k b _ hb (hf b (by rw [e];exact Bf)),e⟩⟩
 | .lst xs,d,v,fp,hf,h=>by
  rw [Own] at h ⊢;obtain ⟨b,vs,ev,⟨d0,hr,e,hl⟩ | ⟨d0,f,hb,e,nb,hl⟩⟩:=h
  ·refine ⟨b,vs,ev,.inl ⟨d0,?_,e,OwnL.move k hS hz xs 0 vs [] (λ _ z=>nomatch z) hl⟩⟩;exact ⟨k b _ hr.1 λ s=>hr.2 (hS b s).1,hz b (by rw [hr.1];simp) hr.2⟩
  ·refine ⟨b,vs,ev,.inr ⟨d0,f,k b _ hb (hf b (by rw [e];exact Bf)),e,nb,?_⟩⟩;exact OwnL.move k hS hz xs _ vs f (λ a ha=>hf a (by rw [e];exact AQ _ ha)) hl
 | .tup xs,d,v,fp,hf,h=>by
  rw [Own] at h ⊢;obtain ⟨b,vs,ev,hr,hl⟩:=h;exact ⟨b,vs,ev,k b _ hr (λ s=>by obtain ⟨_,o,e⟩:=hS b s;rw [hr] at e;cases o <;> cases e),OwnL.move k hS hz xs _ vs fp hf hl⟩
theorem OwnL.move (k:C0 S H H') (hS:∀ a,S a->Z a/\∃ o:MO,H a=some o.ho) (hz:∀ a,H a≠none->¬ Z a->¬ Z' a):
  ∀ (xs:List PV) (d:Nat) (vs:List V) (fp:List Addr),(∀ a∈fp,¬ S a)->OwnL K H Z xs d vs fp->OwnL K H' Z' xs d vs fp
 | [],_,_,_,_,h=>by rw [OwnL] at h ⊢;exact h
 | x::xs,d,vs,fp,hf,h=>by
  rw [OwnL] at h ⊢;obtain ⟨v,r,f1,f2,e1,e,dj,h1,h2⟩:=h;exact ⟨v,r,f1,f2,e1,e,dj,Own.move k hS hz x d v f1 (λ a ha=>hf a (by rw [e];exact BM _ ha)) h1,OwnL.move k hS hz xs d r f2 (λ a ha=>hf a (by rw [e];exact BI _ ha)) h2⟩
end
mutual
theorem Own.freeze (hz:∀ a,Z' a->Z a):∀ (x:PV) (d:Nat) (v:V) (fp:List Addr),(∀ a∈fp,¬ Z' a)->Own K H Z x d v fp->Own K H Z' x 0 v []
 | .non,_,_,_,_,h=>by rw [Own] at h ⊢;exact ⟨h.1,rfl⟩
 | .bl _,_,_,_,_,h=>by rw [Own] at h ⊢;exact ⟨h.1,rfl⟩
 | .int _,_,_,_,_,h=>by rw [Own] at h ⊢;exact ⟨h.1,rfl⟩
 | .str _,_,_,_,_,h=>by rw [Own] at h ⊢;exact ⟨h.1,rfl⟩
 | .emp,_,_,_,_,h=>by rw [Own] at h ⊢;exact ⟨rfl,h.2⟩
 | .dko,_,_,_,_,h=>by rw [Own] at h ⊢;exact ⟨rfl,h.2⟩
 | .scr _,_,_,_,_,h=>by rw [Own] at h ⊢;exact ⟨rfl,h.2⟩
 | .exn _,_,_,_,_,h=>by rw [Own] at h ⊢;exact ⟨rfl,h.2⟩
 | .dct kvs,d,v,fp,hf,h=>by
  rw [Own] at h ⊢;obtain ⟨b,ev,⟨d0,hr,e⟩ | ⟨d0,hb,e⟩⟩:=h
  ·exact ⟨b,ev,.inl ⟨rfl,⟨hr.1,λ z=>hr.2 (hz b z)⟩,rfl⟩⟩
  ·exact ⟨b,ev,.inl ⟨rfl,⟨hb,hf b (by rw [e];exact Bf)⟩,rfl⟩⟩
 | .lst xs,d,v,fp,hf,h=>by
  rw [Own] at h ⊢;obtain ⟨b,vs,ev,⟨d0,hr,e,hl⟩ | ⟨d0,f,hb,e,nb,hl⟩⟩:=h
  ·refine ⟨b,vs,ev,.inl ⟨rfl,?_,rfl,OwnL.freeze hz xs 0 vs [] (λ _ z=>nomatch z) hl⟩⟩;exact ⟨hr.1,λ z=>hr.2 (hz b z)⟩
  ·exact ⟨b,vs,ev,.inl ⟨rfl,⟨hb,hf b (by rw [e];exact Bf)⟩,rfl,OwnL.freeze hz xs _ vs f (λ a ha=>hf a (by rw [e];exact AQ _ ha)) hl⟩⟩
 | .tup xs,d,v,fp,hf,h=>by
  rw [Own] at h ⊢;obtain ⟨b,vs,ev,hr,hl⟩:=h;exact ⟨b,vs,ev,hr,OwnL.freeze hz xs _ vs fp hf hl⟩
theorem OwnL.freeze (hz:∀ a,Z' a->Z a):∀ (xs:List PV) (d:Nat) (vs:List V) (fp:List Addr),(∀ a∈fp,¬ Z' a)->OwnL K H Z xs d vs fp->OwnL K H Z' xs 0 vs []
 | [],_,_,_,_,h=>by rw [OwnL] at h ⊢;exact ⟨h.1,rfl⟩
 | x::xs,d,vs,fp,hf,h=>by
  rw [OwnL] at h ⊢;obtain ⟨v,r,f1,f2,e1,e,dj,h1,h2⟩:=h;exact ⟨v,r,[],[],e1,rfl,λ _ z=>(nomatch z),Own.freeze hz x d v f1 (λ a ha=>hf a (by rw [e];exact BM _ ha)) h1,OwnL.freeze hz xs d r f2 (λ a ha=>hf a (by rw [e];exact BI _ ha)) h2⟩
end
mutual
theorem Own.full:∀ (x:PV) (v:V) (fp:List Addr),Own K H Z x om v fp->Own K H Z' x om v fp
 | .non,_,_,h=>by rw [Own] at h ⊢;exact h
 | .bl _,_,_,h=>by rw [Own] at h ⊢;exact h
 | .int _,_,_,h=>by rw [Own] at h ⊢;exact h
 | .str _,_,_,h=>by rw [Own] at h ⊢;exact h
 | .emp,_,_,h=>by rw [Own] at h ⊢;exact h
 | .dko,_,_,h=>by rw [Own] at h ⊢;exact h
 | .scr _,_,_,h=>by rw [Own] at h ⊢;exact h
 | .exn _,_,_,h=>by rw [Own] at h ⊢;exact h
 | .dct kvs,v,fp,h=>by
  rw [Own] at h ⊢;obtain ⟨b,ev,⟨d0,_⟩ | ⟨d0,hb,e⟩⟩:=h
  ·exact absurd d0 (by decide)
  ·exact ⟨b,ev,.inr ⟨d0,hb,e⟩⟩
 | .lst xs,v,fp,h=>by
  rw [Own] at h ⊢;obtain ⟨b,vs,ev,⟨d0,_⟩ | ⟨d0,f,hb,e,nb,hl⟩⟩:=h
  ·exact absurd d0 (by decide)
  ·exact ⟨b,vs,ev,.inr ⟨d0,f,hb,e,nb,OwnL.full xs vs f hl⟩⟩
 | .tup xs,v,fp,h=>by
  rw [Own] at h ⊢;obtain ⟨b,vs,ev,hr,hl⟩:=h;exact ⟨b,vs,ev,hr,OwnL.full xs vs fp hl⟩
theorem OwnL.full:∀ (xs:List PV) (vs:List V) (fp:List Addr),OwnL K H Z xs om vs fp->OwnL K H Z' xs om vs fp
 | [],_,_,h=>by rw [OwnL] at h ⊢;exact h
 | x::xs,vs,fp,h=>by
  rw [OwnL] at h ⊢;obtain ⟨v,r,f1,f2,e1,e,dj,h1,h2⟩:=h;exact ⟨v,r,f1,f2,e1,e,dj,Own.full x v f1 h1,OwnL.full xs r f2 h2⟩
end
def Own.weak (hz:∀ a,Z' a->Z a) {x:PV}{d:Nat}{v:V}{fp:List Addr} (h:Own K H Z x d v fp):Own K H Z' x d v fp:=
 Own.move (S:=λ _=>False) (λ _ _ h _=>h) (λ _ z=>z.elim) (λ a _ n z=>n (hz a z)) x d v fp (λ _ _ z=>z) h
def OwnL.weak (hz:∀ a,Z' a->Z a) {xs:List PV}{d:Nat}{vs:List V}{fp:List Addr} (h:OwnL K H Z xs d vs fp):OwnL K H Z' xs d vs fp:=
 OwnL.move (S:=λ _=>False) (λ _ _ h _=>h) (λ _ z=>z.elim) (λ a _ n z=>n (hz a z)) xs d vs fp (λ _ _ z=>z) h
end
abbrev Slot:=Option (PV×Nat)
abbrev Ah:=List Slot
inductive Rz (α:Type) where
 | ok (a:α) | exc (c:Nat) | no
def Rz.bind {α β:Type} (r:Rz α) (f:α->Rz β):Rz β:=match r with
 | .ok a=>f a
 | .exc c=>.exc c
 | .no=>.no
abbrev Fx:=Ah->Rz (PV×Nat×Ah)
abbrev Fa:=Ah->Rz (List (PV×Nat)×Ah)
abbrev Fb:=Ah->Rz (Bool×Ah)
structure Fm where
 K:Frag
 Ms:Nat->Bool
 Zo:Addr->Prop
 H₀:Hp
 W:St->Nat->Hp->Prop
 io:Option V
 al:Nat->List Nat
 pn:List (Nat×V):=[]
abbrev AF:=Nat->List Addr
def Fm.Fre (M:Fm) (i:Nat):Prop:=(M.io≠none->i≠0)/\∀ p∈M.pn,p.1≠i
def Zf (M:Fm) (fps:AF):Addr->Prop:=λ a=>M.Zo a\/∃ i,a∈fps i
def Zv (M:Fm) (vs:List Nat) (fps:AF):Addr->Prop:=λ a=>M.Zo a\/∃ i,i∉vs/\a∈fps i
def Za (M:Fm) (fps:AF) (i:Nat):Addr->Prop:=λ a=>M.Zo a\/∃ j,j∉M.al i/\a∈fps j
def Zt (M:Fm) (vs:List Nat) (fps:AF) (fp:List Addr):Addr->Prop:=λ a=>Zv M vs fps a\/a∈fp
def Fm.plus (M:Fm) (fp:List Addr):Fm:={ M with Zo:=λ a=>M.Zo a\/a∈fp }
structure Rep (M:Fm) (ρ:Ah) (σ:St) (H:Hp) (fps:AF):Prop where
 own:∀ i x d,ρ[i]?=some (some (x,d))->∃ v,σ[i]?=some (some v)/\Own M.K H (Za M fps i) x d v (fps i)
 non:∀ i,(∀ p,ρ[i]?≠some (some p))->fps i=[]
 dj:∀ i j,i≠j->∀ a∈fps i,a∉fps j
 zo:∀ i,∀ a∈fps i,¬ M.Zo a
 fr:∀ i,M.Ms i=false->∀ a∈fps i,M.H₀ a=none
 zd:∀ a,M.Zo a->H a≠none
 len:ρ.length=σ.length
 msf:∀ i x d,M.Ms i=true->ρ[i]?=some (some (x,d))->d=om
 h0:∀ a,M.H₀ a≠none->H a≠none
 iov:(∀ v,M.io=some v->σ[0]?=some (some v)/\M.Ms 0=true)/\∀ p∈M.pn,σ[p.1]?=some (some p.2)
def Agr (M:Fm) (ρ ρ':Ah):Prop:=(∀ i,M.Ms i=false->ρ'[i]?=ρ[i]?)/\ρ'.length=ρ.length
structure KD (M:Fm) (H:Hp) (fps:AF) (H':Hp) (fps':AF):Prop where
 keep:C0 (λ a=>∃ i,M.Ms i=true/\a∈fps i) H H'
 dom:∀ a,H a≠none->H' a≠none
 sub:∀ i,∀ a∈fps' i,a∈fps i\/H a=none
 same:∀ i,M.Ms i=false->fps' i=fps i
def Tmps (K:Frag) (H:Hp) (Z:Addr->Prop):List (PV×Nat)->List V->List Addr->Prop
 | [],vs,fp=>vs=[]/\fp=[]
 | (x,d)::xs,vs,fp=>∃ v r f1 f2,vs=v::r/\fp=f1++f2/\(∀ a∈f1,a∉f2)/\Own K H (λ a=>Z a\/a∈f1) x d v f1/\Tmps K H Z xs r f2
structure Temp (M:Fm) (vs:List Nat) (H:Hp) (H':Hp) (fps':AF) (fp:List Addr):Prop where
 new:∀ a∈fp,H a=none
 ndj:∀ a∈fp,¬ Zf M fps' a
section
variable {M:Fm}{ρ ρ':Ah}{σ:St}{H H' H'':Hp}{fps fps' fps'':AF}{vs vs':List Nat}
def Agr.refl:Agr M ρ ρ:=⟨λ _ _=>rfl,rfl⟩
def Agr.trans {ρ'':Ah} (a:Agr M ρ ρ') (b:Agr M ρ' ρ''):Agr M ρ ρ'':=⟨λ i hi=>(b.1 i hi).trans (a.1 i hi),b.2.trans a.2⟩
def KD.refl:KD M H fps H fps:=⟨λ _ _ h _=>h,λ _ h=>h,λ _ _ h=>.inl h,λ _ _=>rfl⟩
def KD.trans (a:KD M H fps H' fps') (b:KD M H' fps' H'' fps''):KD M H fps H'' fps'' where
 keep:=λ x o h n=>b.keep x o (a.keep x o h n) λ ⟨i,hi,hx⟩=>(a.sub i x hx).elim (λ z=>n ⟨i,hi,z⟩) λ z=>by rw [z] at h;cases h
 dom:=λ x h=>b.dom x (a.dom x h)
 sub:=λ i x hx=>(b.sub i x hx).elim (λ z=>a.sub i x z) λ z=>.inr (by
  cases e:H x with
  | none=>rfl
  | some o=>exact absurd z (a.dom x (by rw [e];simp)))
 same:=λ i hi=>(b.same i hi).trans (a.same i hi)
def Za.zf {i:Nat}{a:Addr} (h:Za M fps i a):Zf M fps a:=h.elim .inl λ ⟨j,_,h⟩=>.inr ⟨j,h⟩
def Za.of {i:Nat} (hal:M.al i=[]) {a:Addr} (h:Zf M fps a):Za M fps i a:=h.elim .inl λ ⟨j,h⟩=>.inr ⟨j,(by rw [hal];simp),h⟩
def Rep.own0 (r:Rep M ρ σ H fps) (hal:∀ i,M.al i=[]) (i:Nat) (x:PV) (d:Nat) (e:ρ[i]?=some (some (x,d))):∃ v,σ[i]?=some (some v)/\Own M.K H (Zf M fps) x d v (fps i):=
 let ⟨v,h1,h2⟩:=r.own i x d e;⟨v,h1,h2.weak λ _ h=>Za.of (hal i) h⟩
def Rep.lsts (r:Rep M ρ σ H fps) {i:Nat}{a:Addr} (h:a∈fps i):∃ o:MO,H a=some o.ho:=by
 by_cases hp:∃ p,ρ[i]?=some (some p)
 ·obtain ⟨⟨x,d⟩,e⟩:=hp;obtain ⟨v,_,o⟩:=r.own i x d e;exact Own.lsts x d v _ o a h
 ·rw [r.non i λ p e=>hp ⟨p,e⟩] at h;cases h
def Rep.zdom (r:Rep M ρ σ H fps) {a:Addr} (h:Zf M fps a):H a≠none:=by
 rcases h with h | ⟨i,h⟩
 ·exact r.zd a h
 ·obtain ⟨xs,e⟩:=r.lsts h;rw [e];simp
def Rep.nz (r:Rep M ρ σ H fps) {a:Addr} (h:H a=none):¬ Zf M fps a:=λ z=>r.zdom z h
def Zv.zf {a:Addr} (h:Zv M vs fps a):Zf M fps a:=h.elim .inl λ ⟨i,_,h⟩=>.inr ⟨i,h⟩
def Zv.mono (hv:∀ i∈vs',i∈vs) {a:Addr} (h:Zv M vs fps a):Zv M vs' fps a:=h.elim .inl λ ⟨i,n,h⟩=>.inr ⟨i,λ z=>n (hv i z),h⟩
def Zt.mono (hv:∀ i∈vs',i∈vs) {a:Addr}{fp:List Addr} (h:Zt M vs fps fp a):Zt M vs' fps fp a:=h.elim (λ h=>.inl (h.mono hv)) .inr
def KD.stay (k:KD M H fps H' fps') (r:Rep M ρ σ H fps) (hv:∀ i∈vs,M.Ms i=false) {x:PV}{d:Nat}{v:V}{fp:List Addr} (h:Own M.K H (Zt M vs fps fp) x d v fp) (hf:∀ a∈fp,¬ Zf M fps a):Own M.K H' (Zt M vs fps' fp) x d v fp:=by
 have h1:∀ a,(∃ i,M.Ms i=true/\a∈fps i)->Zt M vs fps fp a/\∃ o:MO,H a=some o.ho:=by
  rintro a ⟨i,hi,ha⟩;exact ⟨.inl (.inr ⟨i,λ z=>(by rw [hv i z] at hi;cases hi),ha⟩),r.lsts ha⟩
 have h2:∀ a,H a≠none->¬ Zt M vs fps fp a->¬ Zt M vs fps' fp a:=by
  intro a hd nz z;rcases z with (z | ⟨i,ni,hx⟩) | z
  ·exact nz (.inl (.inl z))
  ·rcases k.sub i a hx with z | z
   ·exact nz (.inl (.inr ⟨i,ni,z⟩))
   ·exact hd z
  ·exact nz (.inr z)
 exact Own.move k.keep h1 h2 x d v fp (λ a ha ⟨i,_,hx⟩=>hf a ha (.inr ⟨i,hx⟩)) h
theorem KD.stays (k:KD M H fps H' fps') (r:Rep M ρ σ H fps) (hv:∀ i∈vs,M.Ms i=false):∀ {xs:List (PV×Nat)}{ws:List V}{fp:List Addr},Tmps M.K H (Zv M vs fps) xs ws fp->(∀ a∈fp,¬ Zf M fps a)->Tmps M.K H' (Zv M vs fps') xs ws fp
 | [],_,_,h,_=>h
 | (x,d)::xs,ws,fp,h,hf=>by
  obtain ⟨v,s,f1,f2,e1,e2,dj,h1,h2⟩:=h;exact ⟨v,s,f1,f2,e1,e2,dj,k.stay r hv h1 λ a ha=>hf a (by rw [e2];exact BM _ ha),k.stays r hv h2 λ a ha=>hf a (by rw [e2];exact BI _ ha)⟩
theorem Tmps.weak {K:Frag}{Z Z':Addr->Prop} (hz:∀ a,Z' a->Z a):∀ {xs:List (PV×Nat)}{ws:List V}{fp:List Addr},Tmps K H Z xs ws fp->Tmps K H Z' xs ws fp
 | [],_,_,h=>h
 | (x,d)::xs,ws,fp,h=>by
  obtain ⟨v,s,f1,f2,e1,e2,dj,h1,h2⟩:=h;exact ⟨v,s,f1,f2,e1,e2,dj,h1.weak λ a h=>h.elim (λ h=>.inl (hz a h)) .inr,h2.weak hz⟩
theorem KD.grow (k:∀ a o,H a=some o->H' a=some o):KD M H fps H' fps:=⟨λ a o h _=>k a o h,λ a h=>by
 cases e:H a with
 | none=>exact absurd e h
 | some o=>rw [k a o e];simp,λ _ _ h=>.inl h,λ _ _=>rfl⟩
def Rep.grow (r:Rep M ρ σ H fps) (k:∀ a o,H a=some o->H' a=some o):Rep M ρ σ H' fps where
 own:=λ i x d e=>by
  obtain ⟨v,hv,o⟩:=r.own i x d e;exact ⟨v,hv,Own.move (S:=λ _=>False) (λ a o h _=>k a o h) (λ _ z=>z.elim) (λ _ _ n=>n) x d v _ (λ _ _ z=>z) o⟩
 non:=r.non
 dj:=r.dj
 zo:=r.zo
 fr:=r.fr
 zd:=λ a h=>(KD.grow (M:=M) (fps:=fps) k).dom a (r.zd a h)
 len:=r.len
 msf:=r.msf
 h0:=λ a h=>(KD.grow (M:=M) (fps:=fps) k).dom a (r.h0 a h)
 iov:=r.iov
end
def tE (M:Fm) (f:Fx) (vs:List Nat):TE:=λ σ H Q=>∃ ρ fps,Rep M ρ σ H fps/\(match f ρ with
 | .ok (x,d,ρ')=>∀ v H' fps' fp,KD M H fps H' fps'->Agr M ρ ρ'->Rep M ρ' σ H' fps'->Own M.K H' (Zt M vs fps' fp) x d v fp->Temp M vs H H' fps' fp->Q v H'
 | .exc c=>∀ H' fps',KD M H fps H' fps'->M.W σ c H'
 | .no=>False)
def tL (M:Fm) (f:Fa) (vs:List Nat):TA:=λ σ H Q=>∃ ρ fps,Rep M ρ σ H fps/\(match f ρ with
 | .ok (xs,ρ')=>∀ ws H' fps' fp,KD M H fps H' fps'->Agr M ρ ρ'->Rep M ρ' σ H' fps'->Tmps M.K H' (Zv M vs fps') xs ws fp->Temp M vs H H' fps' fp->Q ws H'
 | .exc c=>∀ H' fps',KD M H fps H' fps'->M.W σ c H'
 | .no=>False)
def tT (M:Fm) (f:Fb):TT:=λ σ H Q=>∃ ρ fps,Rep M ρ σ H fps/\(match f ρ with
 | .ok (b,ρ')=>∀ H' fps',KD M H fps H' fps'->Agr M ρ ρ'->Rep M ρ' σ H' fps'->Q b H'
 | .exc c=>∀ H' fps',KD M H fps H' fps'->M.W σ c H'
 | .no=>False)
def Bl (M:Fm) (H:Hp) (fps:AF) (vs:List Nat) (F:List Addr) (z:PV) (d:Nat) (Q:VK):Prop:=
 ∀ u H' fp,(∀ a o,H a=some o->H' a=some o)->Own M.K H' (Zt M vs fps fp) z d u fp->(∀ a∈fp,a∈F\/H a=none)->Q u H'
section
variable {M:Fm}{ρ ρ':Ah}{σ:St}{H H' H'':Hp}{fps fps' fps'':AF}{vs vs':List Nat}{f g:Fx}{fa:Fa}{fb:Fb}{Q:VK}
def bC (x:PV):Fx:=λ ρ=>.ok (x,om,ρ)
def JB {x:PV}{v:V} (h:∀ K H Z,Own K H Z x om v []) {σ:St}{H:Hp}{Q:VK} (hq:tE M (bC x) [] σ H Q):tC v σ H Q:=by
 obtain ⟨ρ,fps,rep,q⟩:=hq;exact q v H fps [] KD.refl Agr.refl rep (h _ _ _) ⟨λ _ z=>(nomatch z),λ _ z=>nomatch z⟩
def dv:PV->Nat
 | .lst _=>0
 | .tup _=>0
 | .dct _=>0
 | _=>om
def Aa (i:Nat):Fx:=λ ρ=>match ρ[i]? with
 | some (some (x,_))=>.ok (x,dv x,ρ)
 | _=>.no
theorem Own.view {K:Frag}{Z Z':Addr->Prop}{x:PV}{d:Nat}{v:V}{fp:List Addr} (hz:∀ a,Z' a->Z a) (hf:∀ a∈fp,¬ Z' a) (h:Own K H Z x d v fp):Own K H Z' x (dv x) v []:=by
 have q:=Own.freeze hz x d v fp hf h;cases x with
 | lst xs=>exact q
 | tup xs=>exact q
 | dct kvs=>exact q
 | exn _=>rw [Own] at q ⊢;exact q
 | non=>rw [Own] at q ⊢;exact q
 | bl _=>rw [Own] at q ⊢;exact q
 | int _=>rw [Own] at q ⊢;exact q
 | str _=>rw [Own] at q ⊢;exact q
 | emp=>rw [Own] at q ⊢;exact q
 | dko=>rw [Own] at q ⊢;exact q
 | scr _=>rw [Own] at q ⊢;exact q
theorem Tw {i:Nat}{σ:St}{H:Hp}{Q:VK} (hq:tE M (Aa i) (i::M.al i) σ H Q):Cw i σ H Q:=by
 obtain ⟨ρ,fps,rep,q⟩:=hq;unfold Aa at q;cases e0:ρ[i]? with
 | none=>rw [e0] at q;exact q.elim
 | some sl=>
  cases sl with
  | none=>rw [e0] at q;exact q.elim
  | some p=>
   obtain ⟨x0,d0⟩:=p;rw [e0] at q;obtain ⟨v,hv,o⟩:=rep.own i x0 d0 e0;refine ⟨v,hv,q v H fps [] KD.refl Agr.refl rep ((o.view (Z':=Zv M (i::M.al i) fps) (λ a h=>h.elim .inl λ ⟨j,n,h⟩=>.inr ⟨j,λ z=>n (AQ _ z),h⟩) λ a ha z=>?_).weak λ a h=>h.elim id λ z=>nomatch z) ⟨λ _ z=>(nomatch z),λ _ z=>nomatch z⟩⟩;rcases z with z | ⟨j,nj,hj⟩
   ·exact rep.zo i a ha z
   ·exact rep.dj i j (λ e=>nj (by simp [e])) a ha hj
def Ab (op:PV->Nat->PV->Nat->Option (PV×Nat)) (f g:Fx):Fx:=λ ρ=>(f ρ).bind λ (x,d,ρ1)=>(g ρ1).bind λ (y,e,ρ2)=>match op x d y e with
 | some (z,c)=>.ok (z,c,ρ2)
 | none=>.no
theorem DO {op:PV->Nat->PV->Nat->Option (PV×Nat)}{r:R2} (hv:∀ i∈vs,M.Ms i=false)
  (leaf:∀ x d y e z c v w H fps f1 f2 Q,op x d y e=some (z,c)->Own M.K H (Zt M (vs++vs') fps f1) x d v f1->Own M.K H (Zt M (vs++vs') fps f2) y e w f2->(∀ a∈f1,a∉f2)->(∀ a∈f1++f2,¬ Zf M fps a)->(∀ a,Zf M fps a->H a≠none)->Bl M H fps (vs++vs') (f1++f2) z c Q->r v w H Q)
  {σ:St}{H:Hp}{Q:VK} (hq:tE M (Ab op f g) (vs++vs') σ H Q):Jh r (tE M f vs) (tE M g vs') σ H Q:=by
 obtain ⟨ρ,fps,rep,q⟩:=hq;refine ⟨ρ,fps,rep,?_⟩;unfold Ab at q;cases ef:f ρ with
 | no=>rw [ef] at q;exact q
 | exc c=>rw [ef] at q;exact q
 | ok p=>
  obtain ⟨x,d,ρ1⟩:=p;rw [ef] at q;intro v H1 fps1 f1 k1 g1 rep1 o1 t1;refine ⟨ρ1,fps1,rep1,?_⟩;dsimp only [Rz.bind] at q;cases eg:g ρ1 with
  | no=>rw [eg] at q;exact q
  | exc c=>rw [eg] at q;exact λ H' fps' k=>q H' fps' (k1.trans k)
  | ok p2=>
   obtain ⟨y,e,ρ2⟩:=p2;rw [eg] at q;intro w H2 fps2 f2 k2 g2 rep2 o2 t2;dsimp only at q;cases eo:op x d y e with
   | none=>rw [eo] at q;exact q.elim
   | some zc=>
    obtain ⟨z,c⟩:=zc;rw [eo] at q;have o1':=k2.stay rep1 hv o1 t1.ndj;have n1:∀ a∈f1,¬ Zf M fps2 a:=λ a ha z=>by
     rcases z with z | ⟨i,z⟩
     ·exact t1.ndj a ha (.inl z)
     ·rcases k2.sub i a z with z | z
      ·exact t1.ndj a ha (.inr ⟨i,z⟩)
      ·obtain ⟨xs,e⟩:=Own.lsts x d v f1 o1 a ha;rw [z] at e;cases e
    refine leaf x d y e z c v w H2 fps2 f1 f2 Q eo (o1'.weak λ a h=>Zt.mono (λ i hi=>BM _ hi) h) (o2.weak λ a h=>Zt.mono (λ i hi=>BI _ hi) h) (λ a h1 h2=>?_) (λ a ha=>?_) (λ a h=>rep2.zdom h) λ u H3 fp k3 o3 hfp=>?_
    ·obtain ⟨xs,e⟩:=Own.lsts x d v f1 o1 a h1;rw [t2.new a h2] at e;cases e
    ·rcases jc2.mp ha with z | z
     ·exact n1 a z
     ·exact t2.ndj a z
    ·have new:∀ a∈fp,H a=none:=λ a ha=>by
      have back:H1 a=none->H a=none:=λ e=>by
       cases e':H a with
       | none=>rfl
       | some o=>exact absurd e (k1.dom a (by rw [e'];simp))
      have back2:H2 a=none->H1 a=none:=λ e=>by
       cases e':H1 a with
       | none=>rfl
       | some o=>exact absurd e (k2.dom a (by rw [e'];simp))
      rcases hfp a ha with z | z
      ·rcases jc2.mp z with z | z
       ·exact t1.new a z
       ·exact back (t2.new a z)
      ·exact back (back2 z)
     refine q u H3 fps2 fp ((k1.trans k2).trans (KD.grow k3)) (g1.trans g2) (rep2.grow k3) o3 ⟨new,λ a ha=>?_⟩;rcases hfp a ha with z | z
     ·rcases jc2.mp z with z | z
      ·exact n1 a z
      ·exact t2.ndj a z
     ·exact rep2.nz z
end
section
variable {M:Fm}{vs vs':List Nat}{f g:Fx}{fa:Fa}{fb gb:Fb}
def Aq (op:PV->Nat->Option (PV×Nat)) (f:Fx):Fx:=λ ρ=>(f ρ).bind λ (x,d,ρ1)=>match op x d with
 | some (z,c)=>.ok (z,c,ρ1)
 | none=>.no
theorem HI {op:PV->Nat->Option (PV×Nat)}{r:V->Hp->VK->Prop}
  (leaf:∀ x d z c v H fps f1 Q,op x d=some (z,c)->Own M.K H (Zt M vs fps f1) x d v f1->(∀ a∈f1,¬ Zf M fps a)->(∀ a,Zf M fps a->H a≠none)->Bl M H fps vs f1 z c Q->r v H Q)
  {σ:St}{H:Hp}{Q:VK} (hq:tE M (Aq op f) vs σ H Q):OD r (tE M f vs) σ H Q:=by
 obtain ⟨ρ,fps,rep,q⟩:=hq;refine ⟨ρ,fps,rep,?_⟩;unfold Aq at q;cases ef:f ρ with
 | no=>rw [ef] at q;exact q
 | exc c=>rw [ef] at q;exact q
 | ok p=>
  obtain ⟨x,d,ρ1⟩:=p;rw [ef] at q;intro v H1 fps1 f1 k1 g1 rep1 o1 t1;dsimp only [Rz.bind] at q;cases eo:op x d with
  | none=>rw [eo] at q;exact q.elim
  | some zc=>
   obtain ⟨z,c⟩:=zc;rw [eo] at q;refine leaf x d z c v H1 fps1 f1 Q eo o1 t1.ndj (λ a h=>rep1.zdom h) λ u H3 fp k3 o3 hfp=>?_;have back:∀ a,H1 a=none->H a=none:=λ a e=>by
    cases e':H a with
    | none=>rfl
    | some o=>exact absurd e (k1.dom a (by rw [e'];simp))
   refine q u H3 fps1 fp (k1.trans (KD.grow k3)) g1 (rep1.grow k3) o3 ⟨λ a ha=>(hfp a ha).elim (t1.new a) (back a),λ a ha=>(hfp a ha).elim (t1.ndj a) λ z=>rep1.nz z⟩
def Ac:Fa:=λ ρ=>.ok ([],ρ)
def Ad (f:Fx) (fa:Fa):Fa:=λ ρ=>(f ρ).bind λ (x,d,ρ1)=>(fa ρ1).bind λ (xs,ρ2)=>.ok ((x,d)::xs,ρ2)
def XA {σ:St}{H:Hp}{Q:List V->Hp->Prop} (hq:tL M Ac [] σ H Q):FY σ H Q:=by
 obtain ⟨ρ,fps,rep,q⟩:=hq;exact q [] H fps [] KD.refl Agr.refl rep ⟨rfl,rfl⟩ ⟨λ _ z=>(nomatch z),λ _ z=>nomatch z⟩
theorem Zl (hv:∀ i∈vs,M.Ms i=false) {σ:St}{H:Hp}{Q:List V->Hp->Prop} (hq:tL M (Ad f fa) (vs++vs') σ H Q):M4 (tE M f vs) (tL M fa vs') σ H Q:=by
 obtain ⟨ρ,fps,rep,q⟩:=hq;refine ⟨ρ,fps,rep,?_⟩;unfold Ad at q;cases ef:f ρ with
 | no=>rw [ef] at q;exact q
 | exc c=>rw [ef] at q;exact q
 | ok p=>
  obtain ⟨x,d,ρ1⟩:=p;rw [ef] at q;intro v H1 fps1 f1 k1 g1 rep1 o1 t1;refine ⟨ρ1,fps1,rep1,?_⟩;dsimp only [Rz.bind] at q;cases eg:fa ρ1 with
  | no=>rw [eg] at q;exact q
  | exc c=>rw [eg] at q;exact λ H' fps' k=>q H' fps' (k1.trans k)
  | ok p2=>
   obtain ⟨ys,ρ2⟩:=p2;rw [eg] at q;intro ws H2 fps2 f2 k2 g2 rep2 o2 t2;dsimp only at q;have o1':=k2.stay rep1 hv o1 t1.ndj;have n1:∀ a∈f1,¬ Zf M fps2 a:=λ a ha z=>by
    rcases z with z | ⟨i,z⟩
    ·exact t1.ndj a ha (.inl z)
    ·rcases k2.sub i a z with z | z
     ·exact t1.ndj a ha (.inr ⟨i,z⟩)
     ·obtain ⟨xs,e⟩:=Own.lsts x d v f1 o1 a ha;rw [z] at e;cases e
   have back:∀ a,H1 a=none->H a=none:=λ a e=>by
    cases e':H a with
    | none=>rfl
    | some o=>exact absurd e (k1.dom a (by rw [e'];simp))
   refine q (v::ws) H2 fps2 (f1++f2) (k1.trans k2) (g1.trans g2) rep2 ⟨v,ws,f1,f2,rfl,rfl,λ a h1 h2=>?_,o1'.weak λ a h=>Zt.mono (λ i hi=>BM _ hi) h,o2.weak λ a h=>h.mono λ i hi=>BI _ hi⟩ ⟨λ a ha=>?_,λ a ha=>?_⟩
   ·obtain ⟨xs,e⟩:=Own.lsts x d v f1 o1 a h1;rw [t2.new a h2] at e;cases e
   ·rcases jc2.mp ha with z | z
    ·exact t1.new a z
    ·exact back a (t2.new a z)
   ·rcases jc2.mp ha with z | z
    ·exact n1 a z
    ·exact t2.ndj a z
def Aj (op:List (PV×Nat)->Option (PV×Nat)) (fa:Fa):Fx:=λ ρ=>(fa ρ).bind λ (xs,ρ1)=>match op xs with
 | some (z,c)=>.ok (z,c,ρ1)
 | none=>.no
theorem LN {op:List (PV×Nat)->Option (PV×Nat)}{r:List V->Hp->VK->Prop}
  (leaf:∀ xs z c ws H fps fp Q,op xs=some (z,c)->Tmps M.K H (Zv M vs fps) xs ws fp->(∀ a∈fp,¬ Zf M fps a)->(∀ a,Zf M fps a->H a≠none)->Bl M H fps vs fp z c Q->r ws H Q)
  {σ:St}{H:Hp}{Q:VK} (hq:tE M (Aj op fa) vs σ H Q):tL M fa vs σ H λ ws H1=>r ws H1 Q:=by
 obtain ⟨ρ,fps,rep,q⟩:=hq;refine ⟨ρ,fps,rep,?_⟩;unfold Aj at q;cases ef:fa ρ with
 | no=>rw [ef] at q;exact q
 | exc c=>rw [ef] at q;exact q
 | ok p=>
  obtain ⟨xs,ρ1⟩:=p;rw [ef] at q;intro ws H1 fps1 f1 k1 g1 rep1 o1 t1;dsimp only [Rz.bind] at q;cases eo:op xs with
  | none=>rw [eo] at q;exact q.elim
  | some zc=>
   obtain ⟨z,c⟩:=zc;rw [eo] at q;refine leaf xs z c ws H1 fps1 f1 Q eo o1 t1.ndj (λ a h=>rep1.zdom h) λ u H3 fp k3 o3 hfp=>?_;have back:∀ a,H1 a=none->H a=none:=λ a e=>by
    cases e':H a with
    | none=>rfl
    | some o=>exact absurd e (k1.dom a (by rw [e'];simp))
   refine q u H3 fps1 fp (k1.trans (KD.grow k3)) g1 (rep1.grow k3) o3 ⟨λ a ha=>(hfp a ha).elim (t1.new a) (back a),λ a ha=>(hfp a ha).elim (t1.ndj a) λ z=>rep1.nz z⟩
def bT (f:Fx):Fb:=λ ρ=>(f ρ).bind λ (x,_,ρ1)=>match x with
 | .bl b=>.ok (b,ρ1)
 | _=>.no
theorem Pr {σ:St}{H:Hp}{Q:Bool->Hp->Prop} (hq:tT M (bT f) σ H Q):tB (tE M f vs) σ H Q:=by
 obtain ⟨ρ,fps,rep,q⟩:=hq;refine ⟨ρ,fps,rep,?_⟩;unfold bT at q;cases ef:f ρ with
 | no=>rw [ef] at q;exact q
 | exc c=>rw [ef] at q;exact q
 | ok p=>
  obtain ⟨x,d,ρ1⟩:=p;rw [ef] at q;intro v H1 fps1 f1 k1 g1 rep1 o1 t1;dsimp only [Rz.bind] at q;cases x with
  | bl b=>
   rw [Own] at o1;exact ⟨b,o1.1,q H1 fps1 k1 g1 rep1⟩
  | _=>exact q.elim
def GA (f g:Fb):Fb:=λ ρ=>(f ρ).bind λ (b,ρ1)=>if b=true then g ρ1 else .ok (false,ρ1)
def Ng (f g:Fb):Fb:=λ ρ=>(f ρ).bind λ (b,ρ1)=>if b=true then .ok (true,ρ1) else g ρ1
def Gy (f:Fb):Fb:=λ ρ=>(f ρ).bind λ (b,ρ1)=>.ok (!b,ρ1)
theorem Yu {σ:St}{H:Hp}{Q:Bool->Hp->Prop} (hq:tT M (GA fb gb) σ H Q):HZ (tT M fb) (tT M gb) σ H Q:=by
 obtain ⟨ρ,fps,rep,q⟩:=hq;refine ⟨ρ,fps,rep,?_⟩;unfold GA at q;cases ef:fb ρ with
 | no=>rw [ef] at q;exact q
 | exc c=>rw [ef] at q;exact q
 | ok p=>
  obtain ⟨b,ρ1⟩:=p;rw [ef] at q;intro H1 fps1 k1 g1 rep1;dsimp only [Rz.bind] at q;cases b with
  | false=>exact (q H1 fps1 k1 g1 rep1)
  | true=>
   refine ⟨ρ1,fps1,rep1,?_⟩;rw [if_pos rfl] at q;cases eg:gb ρ1 with
   | no=>rw [eg] at q;exact q
   | exc c=>rw [eg] at q;exact λ H' fps' k=>q H' fps' (k1.trans k)
   | ok p2=>rw [eg] at q;exact λ H' fps' k g r=>q H' fps' (k1.trans k) (g1.trans g) r
theorem Wm {σ:St}{H:Hp}{Q:Bool->Hp->Prop} (hq:tT M (Ng fb gb) σ H Q):OF (tT M fb) (tT M gb) σ H Q:=by
 obtain ⟨ρ,fps,rep,q⟩:=hq;refine ⟨ρ,fps,rep,?_⟩;unfold Ng at q;cases ef:fb ρ with
 | no=>rw [ef] at q;exact q
 | exc c=>rw [ef] at q;exact q
 | ok p=>
  obtain ⟨b,ρ1⟩:=p;rw [ef] at q;intro H1 fps1 k1 g1 rep1;dsimp only [Rz.bind] at q;cases b with
  | true=>exact (q H1 fps1 k1 g1 rep1)
  | false=>
   refine ⟨ρ1,fps1,rep1,?_⟩;rw [if_neg Di] at q;cases eg:gb ρ1 with
   | no=>rw [eg] at q;exact q
   | exc c=>rw [eg] at q;exact λ H' fps' k=>q H' fps' (k1.trans k)
   | ok p2=>rw [eg] at q;exact λ H' fps' k g r=>q H' fps' (k1.trans k) (g1.trans g) r
theorem Yv {σ:St}{H:Hp}{Q:Bool->Hp->Prop} (hq:tT M (Gy fb) σ H Q):HX (tT M fb) σ H Q:=by
 obtain ⟨ρ,fps,rep,q⟩:=hq;refine ⟨ρ,fps,rep,?_⟩;unfold Gy at q;cases ef:fb ρ with
 | no=>rw [ef] at q;exact q
 | exc c=>rw [ef] at q;exact q
 | ok p=>obtain ⟨b,ρ1⟩:=p;rw [ef] at q;exact q
theorem Tmps.all {K:Frag}{H:Hp}{Z:Addr->Prop}:∀ {xs:List (PV×Nat)}{ws:List V}{fp:List Addr},Tmps K H Z xs ws fp->(∀ p∈xs,p.2=om)->OwnL K H Z (xs.map (·.1)) om ws fp
 | [],_,_,h,_=>by rw [KA,OwnL];exact h
 | (x,d)::xs,ws,fp,h,ha=>by
  obtain ⟨v,s,f1,f2,e1,e2,dj,h1,h2⟩:=h;have e:d=om:=ha (x,d) Bf;subst e;rw [BQ,OwnL];exact ⟨v,s,f1,f2,e1,e2,dj,Own.full x v f1 h1,h2.all λ p hp=>ha p (AQ _ hp)⟩
theorem Tmps.cold {K:Frag}{H:Hp}{Z:Addr->Prop}:∀ {xs:List (PV×Nat)}{ws:List V}{fp:List Addr},Tmps K H Z xs ws fp->(∀ a∈fp,¬ Z a)->OwnL K H Z (xs.map (·.1)) 0 ws []
 | [],_,_,h,_=>by rw [KA,OwnL];exact ⟨h.1,rfl⟩
 | (x,d)::xs,ws,fp,h,ha=>by
  obtain ⟨v,s,f1,f2,e1,e2,dj,h1,h2⟩:=h;rw [BQ,OwnL];exact ⟨v,s,[],[],e1,rfl,λ _ z=>(nomatch z),Own.freeze (λ _ z=>.inl z) x d v f1 (λ a z=>ha a (by rw [e2];exact BM _ z)) h1,h2.cold λ a z=>ha a (by rw [e2];exact BI _ z)⟩
theorem Tmps.length {K:Frag}{H:Hp}{Z:Addr->Prop}:∀ {xs:List (PV×Nat)}{ws:List V}{fp:List Addr},Tmps K H Z xs ws fp->ws.length=xs.length
 | [],_,_,h=>by rw [h.1];rfl
 | (x,d)::xs,ws,fp,h=>by
  obtain ⟨v,s,f1,f2,e1,e2,dj,h1,h2⟩:=h;rw [e1,Ba,Ba,h2.length]
theorem OwnL.length {K:Frag}{H:Hp}{Z:Addr->Prop}:∀ {xs:List PV}{d:Nat}{ws:List V}{fp:List Addr},OwnL K H Z xs d ws fp->ws.length=xs.length
 | [],_,_,_,h=>by rw [OwnL] at h;rw [h.1];rfl
 | x::xs,d,ws,fp,h=>by
  rw [OwnL] at h;obtain ⟨v,s,f1,f2,e1,e2,dj,h1,h2⟩:=h;rw [e1,Ba,Ba,h2.length]
end
inductive Rs where
 | nx (ρ:Ah) | rt (x:PV) (d:Nat) (ρ:Ah) | bk (ρ:Ah) | ct (ρ:Ah) | exc (c:Nat) | no
abbrev Fs:=Ah->Rs
structure KS (M:Fm) (H:Hp) (fps:AF) (H':Hp) (fps':AF):Prop where
 keep:C0 (λ a=>∃ i,a∈fps i) H H'
 dom:∀ a,H a≠none->H' a≠none
 sub:∀ i,∀ a∈fps' i,(∃ j,a∈fps j)\/H a=none
def Zr (M:Fm) (fps:AF):Addr->Prop:=λ a=>M.Zo a\/(M.io≠none/\a∈fps 0)
def RsOk (M:Fm) (D:Ends) (H:Hp) (fps:AF):Rs->Prop
 | .nx ρ'=>∀ σ' H' fps',KS M H fps H' fps'->Rep M ρ' σ' H' fps'->D.nx σ' H'
 | .bk ρ'=>∀ σ' H' fps',KS M H fps H' fps'->Rep M ρ' σ' H' fps'->D.bk σ' H'
 | .ct ρ'=>∀ σ' H' fps',KS M H fps H' fps'->Rep M ρ' σ' H' fps'->D.ct σ' H'
 | .rt x d ρ'=>∀ v σ' H' fps' fp,KS M H fps H' fps'->Rep M ρ' σ' H' fps'->Own M.K H' (λ a=>Zr M fps' a\/a∈fp) x d v fp->(∀ a∈fp,M.H₀ a=none/\¬ Zr M fps' a)->D.rt v H'
 | .exc c=>∀ σ' H' fps',KS M H fps H' fps'->M.W σ' c H'
 | .no=>False
def tS (M:Fm) (f:Fs):TS:=λ D σ H=>∃ ρ fps,Rep M ρ σ H fps/\RsOk M D H fps (f ρ)
section
variable {M:Fm}{ρ ρ':Ah}{σ σ':St}{H H' H'':Hp}{fps fps' fps'':AF}{vs vs':List Nat}
def KS.refl:KS M H fps H fps:=⟨λ _ _ h _=>h,λ _ h=>h,λ i _ h=>.inl ⟨i,h⟩⟩
def KD.ks (k:KD M H fps H' fps'):KS M H fps H' fps':=⟨λ a o h n=>k.keep a o h λ ⟨i,_,z⟩=>n ⟨i,z⟩,k.dom,λ i a h=>(k.sub i a h).elim (λ z=>.inl ⟨i,z⟩) .inr⟩
def KS.trans (a:KS M H fps H' fps') (b:KS M H' fps' H'' fps''):KS M H fps H'' fps'' where
 keep:=λ x o h n=>b.keep x o (a.keep x o h n) λ ⟨i,hx⟩=>(a.sub i x hx).elim (λ z=>n z) λ z=>by rw [z] at h;cases h
 dom:=λ x h=>b.dom x (a.dom x h)
 sub:=λ i x hx=>(b.sub i x hx).elim (λ ⟨j,z⟩=>a.sub j x z) λ z=>.inr (by
  cases e:H x with
  | none=>rfl
  | some o=>exact absurd z (a.dom x (by rw [e];simp)))
def KS.stay0 (k:KS M H fps H' fps') (r:Rep M ρ σ H fps) {x:PV}{v:V} (h:Own M.K H (Zf M fps) x 0 v []):Own M.K H' (Zf M fps') x 0 v []:=by
 refine Own.move k.keep (λ a ⟨i,ha⟩=>⟨.inr ⟨i,ha⟩,r.lsts ha⟩) ?_ x 0 v [] (λ _ z=>nomatch z) h;intro a hd nz z;rcases z with z | ⟨i,hx⟩
 ·exact nz (.inl z)
 ·rcases k.sub i a hx with z | z
  ·exact nz (.inr z)
  ·exact hd z
def A4:Fs:=λ ρ=>.nx ρ
def Ag (f g:Fs):Fs:=λ ρ=>match f ρ with
 | .nx ρ1=>g ρ1
 | r=>r
def XG {D:Ends} (hq:tS M A4 D σ H):Sk D σ H:=by
 obtain ⟨ρ,fps,rep,q⟩:=hq;exact q σ H fps KS.refl rep
def AW (c:Fb) (f g:Fs):Fs:=λ ρ=>match c ρ with
 | .ok (b,ρ1)=>if b=true then f ρ1 else g ρ1
 | .exc e=>.exc e
 | .no=>.no
theorem RsOk.from {D:Ends}{r:Rs} (k1:KS M H fps H' fps') (q:RsOk M D H fps r):RsOk M D H' fps' r:=by
 cases r with
 | no=>exact q
 | exc c=>exact λ σ' H' fps' k=>q σ' H' fps' (k1.trans k)
 | rt x d ρ2=>exact λ v σ' H' fps' fp k=>q v σ' H' fps' fp (k1.trans k)
 | bk ρ2=>exact λ σ' H' fps' k=>q σ' H' fps' (k1.trans k)
 | ct ρ2=>exact λ σ' H' fps' k=>q σ' H' fps' (k1.trans k)
 | nx ρ2=>exact λ σ' H' fps' k=>q σ' H' fps' (k1.trans k)
theorem Yr {f g:Fs}{D:Ends} (hq:tS M (Ag f g) D σ H):Km (tS M f) (tS M g) D σ H:=by
 obtain ⟨ρ,fps,rep,q⟩:=hq;refine ⟨ρ,fps,rep,?_⟩;unfold Ag at q;cases ef:f ρ with
 | no=>rw [ef] at q;exact q
 | exc c=>rw [ef] at q;exact q
 | rt x d ρ1=>rw [ef] at q;exact q
 | bk ρ1=>rw [ef] at q;exact q
 | ct ρ1=>rw [ef] at q;exact q
 | nx ρ1=>
  rw [ef] at q;exact λ σ1 H1 fps1 k1 rep1=>⟨ρ1,fps1,rep1,RsOk.from k1 q⟩
theorem Wl {c:Fb}{f g:Fs}{D:Ends} (hq:tS M (AW c f g) D σ H):HY (tT M c) (tS M f) (tS M g) D σ H:=by
 obtain ⟨ρ,fps,rep,q⟩:=hq;refine ⟨ρ,fps,rep,?_⟩;unfold AW at q;cases ef:c ρ with
 | no=>rw [ef] at q;exact q
 | exc c=>rw [ef] at q;exact λ H' fps' k=>q _ H' fps' k.ks
 | ok p=>
  obtain ⟨b,ρ1⟩:=p;rw [ef] at q;intro H1 fps1 k1 g1 rep1;dsimp only at q;cases b with
  | true=>
   rw [if_pos rfl] at q ⊢;exact ⟨ρ1,fps1,rep1,RsOk.from k1.ks q⟩
  | false=>
   rw [if_neg Di] at q ⊢;exact ⟨ρ1,fps1,rep1,RsOk.from k1.ks q⟩
def cool (vs:List Nat):Nat->Ah->Ah
 | _,[]=>[]
 | k,s::r=>(if vs.contains k then s.map λ p=>(p.1,0) else s)::cool vs (k + 1) r
def Bg (d:Nat) (vs:List Nat) (ρ:Ah):Ah:=if d=om then ρ else cool vs 0 ρ
theorem JC (vs:List Nat):∀ (ρ:Ah) (k i:Nat),(cool vs k ρ)[i]?=(ρ[i]?).map λ s=>if vs.contains (k + i) then s.map λ p=>(p.1,0) else s
 | [],k,i=>by simp [cool]
 | s::r,k,0=>by simp [cool]
 | s::r,k,i + 1=>by
  rw [cool,Jv,JC vs r (k + 1) i,Jv]
  have:k + 1 + i=k + (i + 1):=by omega
  rw [this]
theorem Lg (vs:List Nat):∀ (ρ:Ah) (k:Nat),(cool vs k ρ).length=ρ.length
 | [],_=>rfl
 | s::r,k=>by rw [cool,Ba,Lg vs r (k + 1),Ba]
def DA (vs:List Nat) (fps:AF):AF:=λ i=>if vs.contains i then [] else fps i
def Fg {a:Addr}{i:Nat} (h:a∈DA vs fps i):a∈fps i/\i∉vs:=by
 unfold DA at h;split at h
 ·cases h
 ·rename_i n;exact ⟨h,λ z=>n (by simpa using z)⟩
def GU {a:Addr} (h:Zf M (DA vs fps) a):Zv M vs fps a:=h.elim .inl λ ⟨i,z⟩=>.inr ⟨i,(Fg z).2,(Fg z).1⟩
def Rep.cool (r:Rep M ρ σ H fps) (hal:∀ i,M.al i=[]) (hv:∀ i∈vs,M.Ms i=false):Rep M (cool vs 0 ρ) σ H (DA vs fps) where
 own:=λ i x d e=>by
  rw [JC] at e;cases e1:ρ[i]? with
  | none=>rw [e1] at e;cases e
  | some s=>
   rw [e1] at e;simp only [Gh,Jq] at e;by_cases hc:vs.contains i=true
   ·rw [if_pos hc] at e;cases s with
    | none=>cases e
    | some p=>
     obtain ⟨x0,d0⟩:=p;simp only [Gh,Option.some.injEq,Prod.mk.injEq] at e;obtain ⟨rfl,rfl⟩:=e;obtain ⟨v,hσ,o⟩:=r.own0 hal i x0 d0 e1;refine ⟨v,hσ,Own.weak (Z:=Zf M (DA vs fps)) (λ a h=>h.zf) ?_⟩
     have:DA vs fps i=[]:=by unfold DA;rw [if_pos hc]
     rw [this];exact Own.freeze (λ a h=>Zv.zf (GU h)) x0 d0 v _ (λ a ha z=>by
      rcases z with z | ⟨j,z⟩
      ·exact r.zo i a ha z
      ·obtain ⟨z1,z2⟩:=Fg z;exact r.dj i j (λ e=>z2 (by rw [<- e];simpa using hc)) a ha z1) o
   ·rw [if_neg hc] at e;cases e;obtain ⟨v,hσ,o⟩:=r.own0 hal i x d e1;refine ⟨v,hσ,Own.weak (Z:=Zf M (DA vs fps)) (λ a h=>h.zf) ?_⟩
    have:DA vs fps i=fps i:=by unfold DA;rw [if_neg hc]
    rw [this];exact o.weak λ a h=>Zv.zf (GU h)
 non:=λ i h=>by
  unfold DA;split
  ·rfl
  ·rename_i hc;refine r.non i λ p e=>h p ?_;rw [JC,e];simp only [Gh,Jq];rw [if_neg hc]
 dj:=λ i j hij a ha hb=>r.dj i j hij a (Fg ha).1 (Fg hb).1
 zo:=λ i a ha=>r.zo i a (Fg ha).1
 fr:=λ i hi a ha=>r.fr i hi a (Fg ha).1
 zd:=r.zd
 len:=by rw [Lg];exact r.len
 msf:=λ i x d hi e=>by
  rw [JC] at e;cases e1:ρ[i]? with
  | none=>rw [e1] at e;cases e
  | some s=>
   rw [e1] at e;simp only [Gh,Jq] at e;have hc:¬ vs.contains i=true:=λ z=>by rw [hv i (by simpa using z)] at hi;cases hi
   rw [if_neg hc] at e;cases e;exact r.msf i x d hi e1
 h0:=r.h0
 iov:=r.iov
def KS.cool (k:KS M H fps H' fps'):KS M H fps H' (DA vs fps'):=⟨k.keep,k.dom,λ i a h=>k.sub i a (Fg h).1⟩
def Rep.wide {fp:List Addr} (hal:∀ i,∀ j∈M.al i,M.Ms j=false) (r:Rep M ρ σ H fps) (k:KD M H fps H' fps') (g:Agr M ρ ρ') (r':Rep M ρ' σ H' fps') (hf:∀ a∈fp,H a=none/\H' a≠none/\¬ Zf M fps' a):Rep (M.plus fp) ρ' σ H' fps' where
 own:=λ i x d e=>by
  by_cases hm:M.Ms i=true
  ·obtain ⟨v,hv,o⟩:=r'.own i x d e;have hd:=r'.msf i x d hm e;subst hd;exact ⟨v,hv,Own.full x v _ o⟩
  ·have hm':M.Ms i=false:=by simpa using hm
   rw [g.1 i hm'] at e;obtain ⟨v,hv,o⟩:=r.own i x d e;refine ⟨v,hv,?_⟩;rw [k.same i hm'];refine Own.move k.keep (λ a ⟨j,hj,ha⟩=>⟨.inr ⟨j,λ z=>(by rw [hal i j z] at hj;cases hj),ha⟩,r.lsts ha⟩) ?_ x d v _ ?_ o
   ·intro a hd nz z;rcases z with (z | z) | ⟨j,nj,z⟩
    ·exact nz (.inl z)
    ·exact hd (hf a z).1
    ·rcases k.sub j a z with z | z
     ·exact nz (.inr ⟨j,nj,z⟩)
     ·exact hd z
   ·rintro a ha ⟨j,hj,hx⟩;exact r.dj i j (λ e=>by rw [e,hj] at hm';cases hm') a ha hx
 non:=r'.non
 dj:=r'.dj
 zo:=λ i a ha z=>z.elim (r'.zo i a ha) λ z=>(hf a z).2.2 (.inr ⟨i,ha⟩)
 fr:=r'.fr
 zd:=λ a z=>z.elim (r'.zd a) λ z=>(hf a z).2.1
 len:=r'.len
 msf:=r'.msf
 h0:=r'.h0
 iov:=r'.iov
def Rep.put {i:Nat}{x:PV}{d:Nat}{v:V}{fp:List Addr} (r:Rep (M.plus fp) ρ σ H fps) (h:Own M.K H (λ a=>Za M fps i a\/a∈fp) x d v fp) (hf:∀ a∈fp,M.H₀ a=none/\¬ M.Zo a) (hi:i < ρ.length) (hm:M.Ms i=true->d=om) (hio:M.Fre i):
  Rep M (ρ.set i (some (x,d))) (σ.set i (some v)) H (λ j=>if j=i then fp else fps j):=by
 have zz:∀ a,Zf M (λ j=>if j=i then fp else fps j) a->Zf M fps a\/a∈fp:=λ a h=>by
  rcases h with z | ⟨j,z⟩
  ·exact .inl (.inl z)
  ·by_cases e:j=i
   ·simp only [if_pos e] at z;exact .inr z
   ·simp only [if_neg e] at z;exact .inl (.inr ⟨j,z⟩)
 have zz2:∀ a,Zf M fps a\/a∈fp->Zf (M.plus fp) fps a:=λ a h=>h.elim (λ h=>h.elim (λ z=>.inl (.inl z)) λ z=>.inr z) λ z=>.inl (.inr z);refine ⟨λ j y e hj=>?_,λ j hj=>?_,λ j k hjk a ha hb=>?_,λ j a ha z=>?_,λ j hj a ha=>?_,λ a z=>r.zd a (.inl z),?_,λ j y e hj he=>?_,r.h0,?_⟩
 ·by_cases e:j=i
  ·subst e;rw [CC hi] at hj;cases hj;refine ⟨v,by rw [CC (by rw [<- r.len];exact hi)],?_⟩;rw [if_pos rfl];refine h.weak λ a h=>?_;rcases h with z | ⟨k,nk,z⟩
   ·exact .inl (.inl z)
   ·by_cases ek:k=j
    ·simp only [if_pos ek] at z;exact .inr z
    ·simp only [if_neg ek] at z;exact .inl (.inr ⟨k,nk,z⟩)
  ·rw [BL (BG e)] at hj;obtain ⟨w,hw,o⟩:=r.own j y _ hj;refine ⟨w,by rw [BL (BG e)];exact hw,?_⟩;rw [if_neg e];refine o.weak λ a h=>?_;rcases h with z | ⟨k,nk,z⟩
   ·exact .inl (.inl z)
   ·by_cases ek:k=i
    ·simp only [if_pos ek] at z;exact .inl (.inr z)
    ·simp only [if_neg ek] at z;exact .inr ⟨k,nk,z⟩
 ·by_cases e:j=i
  ·subst e;exact absurd (CC hi) (hj _)
  ·rw [if_neg e];exact r.non j λ p hp=>hj p (by rw [BL (BG e)];exact hp)
 ·by_cases e1:j=i
  ·by_cases e2:k=i
   ·exact hjk (e1.trans e2.symm)
   ·rw [if_pos e1] at ha;rw [if_neg e2] at hb;exact r.zo k a hb (.inr ha)
  ·rw [if_neg e1] at ha;by_cases e2:k=i
   ·rw [if_pos e2] at hb;exact r.zo j a ha (.inr hb)
   ·rw [if_neg e2] at hb;exact r.dj j k hjk a ha hb
 ·by_cases e:j=i
  ·rw [if_pos e] at ha;exact (hf a ha).2 z
  ·rw [if_neg e] at ha;exact r.zo j a ha (.inl z)
 ·by_cases e:j=i
  ·rw [if_pos e] at ha;exact (hf a ha).1
  ·rw [if_neg e] at ha;exact r.fr j hj a ha
 ·rw [DI,DI];exact r.len
 ·by_cases e:j=i
  ·subst e;rw [CC hi] at he;cases he;exact hm hj
  ·rw [BL (BG e)] at he;exact r.msf j y _ hj he
 ·refine ⟨λ w hw=>?_,λ p hp=>?_⟩
  ·have h0:i≠0:=hio.1 (by rw [hw];simp);rw [BL h0];exact r.iov.1 w hw
  ·rw [BL (hio.2 p hp).symm];exact r.iov.2 p hp
def Af (ms:Bool) (i:Nat) (f:Fx) (vs:List Nat):Fs:=λ ρ=>match f ρ with
 | .ok (x,d,ρ1)=>if i < ρ1.length/\(ms=true->d=om) then .nx ((Bg d vs ρ1).set i (some (x,d))) else .no
 | .exc c=>.exc c
 | .no=>.no
def Rep.store {i:Nat}{x:PV}{d:Nat}{v:V}{fp:List Addr} (rep:Rep M ρ σ H fps) (k:KD M H fps H' fps') (g:Agr M ρ ρ') (r':Rep M ρ' σ H' fps') (o:Own M.K H' (Zt M vs fps' fp) x d v fp) (t:Temp M vs H H' fps' fp)
  (hal:∀ i,M.al i=[]) (hv:∀ i∈vs,M.Ms i=false) (hi:i < ρ'.length) (hm:M.Ms i=true->d=om) (hio:M.Fre i):
  ∃ fps2,KS M H fps H' fps2/\Rep M ((Bg d vs ρ').set i (some (x,d))) (σ.set i (some v)) H' fps2:=by
 have back:∀ a,H a=none->M.H₀ a=none:=λ a e=>by
  cases e':M.H₀ a with
  | none=>rfl
  | some o=>exact absurd e (rep.h0 a (by rw [e'];simp))
 have w:Rep (M.plus fp) ρ' σ H' fps':=rep.wide (λ i j hj=>by rw [hal i] at hj;cases hj) k g r' λ a ha=>⟨t.new a ha,by obtain ⟨xs,e⟩:=Own.lsts x d v fp o a ha;rw [e];simp,t.ndj a ha⟩
 have hf:∀ a∈fp,M.H₀ a=none/\¬ M.Zo a:=λ a ha=>⟨back a (t.new a ha),λ z=>t.ndj a ha (.inl z)⟩
 have ks2:∀ {fps2:AF},(∀ i a,a∈fps2 i->a∈fps' i)->KS M H fps H' (λ j=>if j=i then fp else fps2 j):=λ {fps2} h2=>⟨k.ks.keep,k.dom,λ j a ha=>by
  by_cases e:j=i
  ·simp only [if_pos e] at ha;exact .inr (t.new a ha)
  ·simp only [if_neg e] at ha;exact k.ks.sub j a (h2 j a ha)⟩
 unfold Bg;by_cases hd:d=om
 ·rw [if_pos hd];refine ⟨_,ks2 λ _ _ h=>h,w.put (i:=i) (x:=x) (d:=d) (v:=v) ?_ hf hi hm hio⟩;rw [hd] at o ⊢;exact Own.full x v fp o
 ·rw [if_neg hd];refine ⟨_,ks2 λ _ _ h=>(Fg h).1,(w.cool (vs:=vs) hal hv).put (i:=i) (x:=x) (d:=d) (v:=v) ?_ hf (by rw [Lg];exact hi) hm hio⟩;exact o.weak λ a h=>h.elim (λ h=>.inl (GU h.zf)) .inr
theorem Pp {f:Fx}{i:Nat}{ms:Bool}{D:Ends} (hal:∀ i,M.al i=[]) (hv:∀ i∈vs,M.Ms i=false) (hms:M.Ms i=ms) (hio:M.Fre i) (hq:tS M (Af ms i f vs) D σ H):C9 (tE M f vs) (E1 i) D σ H:=by
 obtain ⟨ρ,fps,rep,q⟩:=hq;refine ⟨ρ,fps,rep,?_⟩;unfold Af at q;cases ef:f ρ with
 | no=>rw [ef] at q;exact q
 | exc c=>rw [ef] at q;exact λ H' fps' k=>q _ H' fps' k.ks
 | ok p=>
  obtain ⟨x,d,ρ1⟩:=p;rw [ef] at q;intro v H1 fps1 f1 k1 g1 rep1 o1 t1;dsimp only at q;by_cases hc:i < ρ1.length/\(ms=true->d=om)
  ·rw [if_pos hc] at q;obtain ⟨fps2,k2,r2⟩:=Rep.store rep k1 g1 rep1 o1 t1 hal hv hc.1 (λ h=>hc.2 (by rw [<- hms];exact h)) hio;exact q _ _ _ k2 r2
  ·rw [if_neg hc] at q;exact q.elim
end
section
variable {M:Fm}{ρ ρ':Ah}{σ σ':St}{H H' H'':Hp}{fps fps' fps'':AF}{vs vs':List Nat}
def Zr.zf {a:Addr} (h:Zr M fps a):Zf M fps a:=h.elim .inl λ h=>.inr ⟨0,h.2⟩
def Rep.zr (r:Rep M ρ σ H fps) (hv:∀ i∈vs,M.Ms i=false) {a:Addr} (h:Zr M fps a):Zv M vs fps a:=by
 rcases h with h | ⟨h1,h2⟩
 ·exact .inl h
 ·refine .inr ⟨0,λ z=>?_,h2⟩;cases e:M.io with
  | none=>exact h1 e
  | some v=>have:=(r.iov.1 v e).2;rw [hv 0 z] at this;cases this
theorem Rep.h0' (r:Rep M ρ σ H fps) {a:Addr} (e:H a=none):M.H₀ a=none:=by
 cases e':M.H₀ a with
 | none=>rfl
 | some o=>exact absurd e (r.h0 a (by rw [e'];simp))
def A8 (f:Fx):Fs:=λ ρ=>match f ρ with
 | .ok (x,d,ρ1)=>.rt x d ρ1
 | .exc c=>.exc c
 | .no=>.no
theorem Yq {f:Fx}{D:Ends} (hv:∀ i∈vs,M.Ms i=false) (hq:tS M (A8 f) D σ H):HW (tE M f vs) D σ H:=by
 obtain ⟨ρ,fps,rep,q⟩:=hq;refine ⟨ρ,fps,rep,?_⟩;unfold A8 at q;cases ef:f ρ with
 | no=>rw [ef] at q;exact q
 | exc c=>rw [ef] at q;exact λ H' fps' k=>q _ H' fps' k.ks
 | ok p=>
  obtain ⟨x,d,ρ1⟩:=p;rw [ef] at q;intro v H1 fps1 f1 k1 g1 rep1 o1 t1;exact q v σ H1 fps1 f1 k1.ks rep1 (o1.weak λ a h=>h.elim (λ h=>.inl (rep1.zr hv h)) .inr) λ a ha=>⟨rep.h0' (t1.new a ha),λ z=>t1.ndj a ha z.zf⟩
def E3 (i:Nat):Fs:=λ ρ=>match ρ[i]? with
 | some (some (x,d))=>.rt x d ρ
 | _=>.no
theorem Zq {i:Nat}{D:Ends} (hal:∀ i,M.al i=[]) (hm:M.Ms i=false) (hq:tS M (E3 i) D σ H):HW (Cw i) D σ H:=by
 obtain ⟨ρ,fps,rep,q⟩:=hq;unfold E3 at q;cases e0:ρ[i]? with
 | none=>rw [e0] at q;exact q.elim
 | some sl=>
  cases sl with
  | none=>rw [e0] at q;exact q.elim
  | some p=>
   obtain ⟨x,d⟩:=p;rw [e0] at q;obtain ⟨v,hv,o⟩:=rep.own0 hal i x d e0;refine ⟨v,hv,q v σ H fps (fps i) KS.refl rep (o.weak λ a h=>h.elim Zr.zf λ z=>.inr ⟨i,z⟩) λ a ha=>⟨rep.fr i hm a ha,λ z=>?_⟩⟩;rcases z with z | ⟨z1,z2⟩
   ·exact rep.zo i a ha z
   ·cases e:M.io with
    | none=>exact z1 e
    | some w=>exact rep.dj i 0 (λ e'=>by rw [e',(rep.iov.1 w e).2] at hm;cases hm) a ha z2
def Dk (f:Fx):Fs:=λ ρ=>match f ρ with
 | .ok (_,_,ρ1)=>.nx ρ1
 | .exc c=>.exc c
 | .no=>.no
theorem Ui {f:Fx}{D:Ends} (hq:tS M (Dk f) D σ H):M5 (tE M f vs) D σ H:=by
 obtain ⟨ρ,fps,rep,q⟩:=hq;refine ⟨ρ,fps,rep,?_⟩;unfold Dk at q;cases ef:f ρ with
 | no=>rw [ef] at q;exact q
 | exc c=>rw [ef] at q;exact λ H' fps' k=>q _ H' fps' k.ks
 | ok p=>
  obtain ⟨x,d,ρ1⟩:=p;rw [ef] at q;intro v H1 fps1 f1 k1 g1 rep1 o1 t1;exact q σ H1 fps1 k1.ks rep1
theorem OwnL.snoc {K:Frag}{Z:Addr->Prop}{y:PV}{d:Nat}{w:V}{fy:List Addr}:∀ {xs:List PV}{ws:List V}{f:List Addr},OwnL K H Z xs d ws f->Own K H Z y d w fy->(∀ a∈f,a∉fy)->OwnL K H Z (xs++[y]) d (ws++[w]) (f++fy)
 | [],ws,f,h,hy,_=>by
  rw [OwnL] at h;obtain ⟨rfl,rfl⟩:=h;show OwnL K H Z [y] d [w] fy;rw [OwnL];refine ⟨w,[],fy,[],rfl,by simp,λ _ _ z=>(nomatch z),hy,?_⟩;rw [OwnL];exact ⟨rfl,rfl⟩
 | x::xs,ws,f,h,hy,hd=>by
  rw [OwnL] at h;obtain ⟨v,s,f1,f2,rfl,rfl,dj,h1,h2⟩:=h;show OwnL K H Z (x::(xs++[y])) d (v::(s++[w])) (f1++f2++fy);rw [OwnL];refine ⟨v,s++[w],f1,f2++fy,rfl,by rw [Gj],λ a ha hb=>?_,h1,h2.snoc hy λ a ha=>hd a (BI _ ha)⟩;rcases jc2.mp hb with z | z
  ·exact dj a ha z
  ·exact hd a (BM _ ha) z
def Own.at {K:Frag}{Z Z':Addr->Prop}{a:Addr}{o:HO}{x:PV}{d:Nat}{v:V}{fp:List Addr} (h:Own K H Z x d v fp) (hZ:Z a) (hl:∃ o:MO,H a=some o.ho) (hf:a∉fp) (hz:∀ b,H b≠none->¬ Z b->¬ Z' b):Own K (As H a o) Z' x d v fp:=
 Own.move (S:=λ b=>b=a) (λ b u hb n=>by rw [AN n];exact hb) (λ b e=>by rw [e];exact ⟨hZ,hl⟩) hz x d v fp (λ b hb e=>hf (by rw [<- e];exact hb)) h
def OwnL.at {K:Frag}{Z Z':Addr->Prop}{a:Addr}{o:HO}{x:List PV}{d:Nat}{v:List V}{fp:List Addr} (h:OwnL K H Z x d v fp) (hZ:Z a) (hl:∃ o:MO,H a=some o.ho) (hf:a∉fp) (hz:∀ b,H b≠none->¬ Z b->¬ Z' b):OwnL K (As H a o) Z' x d v fp:=
 OwnL.move (S:=λ b=>b=a) (λ b u hb n=>by rw [AN n];exact hb) (λ b e=>by rw [e];exact ⟨hZ,hl⟩) hz x d v fp (λ b hb e=>hf (by rw [<- e];exact hb)) h
def Rep.rewrite {i:Nat}{xs:List PV}{d:Nat}{a:Addr}{ws:List V}{zs:List PV}{us:List V}{e:Nat}{f f' fp:List Addr} (hal:∀ i,M.al i=[]) (r:Rep (M.plus fp) ρ σ H fps) (hi:ρ[i]?=some (some (.lst xs,d))) (hσ:σ[i]?=some (some (.ref a)))
  (ha:H a=some (.lst ws)) (hfp:fps i=a::f) (hn:a∉f') (hsub:∀ b∈f',b∈f\/b∈fp) (he:e≠0) (hm:M.Ms i=true->e=om) (hH:∀ b∈fp,M.H₀ b=none/\¬ M.Zo b)
  (hnew:OwnL M.K (As H a (.lst us)) (Zf M (λ j=>if j=i then a::f' else fps j)) zs (pd e) us f'):
  Rep M (ρ.set i (some (.lst zs,e))) σ (As H a (.lst us)) (λ j=>if j=i then a::f' else fps j):=by
 have hlen:i < ρ.length:=(ja3.mp hi).1;have hai:a∈fps i:=by rw [hfp];exact Bf
 have zz:∀ b,Zf M (λ j=>if j=i then a::f' else fps j) b->Zf (M.plus fp) fps b:=λ b h=>by
  rcases h with z | ⟨j,z⟩
  ·exact .inl (.inl z)
  ·by_cases ej:j=i
   ·simp only [if_pos ej] at z;rcases jb2.mp z with z | z
    ·exact .inr ⟨i,by rw [z];exact hai⟩
    ·rcases hsub b z with z | z
     ·exact .inr ⟨i,by rw [hfp];exact AQ _ z⟩
     ·exact .inl (.inr z)
   ·simp only [if_neg ej] at z;exact .inr ⟨j,z⟩
 have dm:∀ b,H b≠none->(As H a (.lst us)) b≠none:=λ b h=>by
  by_cases eb:b=a
  ·rw [eb,Ce];simp
  ·rw [AN eb];exact h
 have inI:∀ b,b∈a::f'->b∈fps i\/b∈fp:=λ b hb=>by
  rcases jb2.mp hb with z | z
  ·exact .inl (by rw [z];exact hai)
  ·rcases hsub b z with z | z
   ·exact .inl (by rw [hfp];exact AQ _ z)
   ·exact .inr z
 refine ⟨λ j y c hj=>?_,λ j hj=>?_,λ j k hjk b hb hc=>?_,λ j b hb z=>?_,λ j hj b hb=>?_,λ b z=>dm b (r.zd b (.inl z)),by rw [DI];exact r.len,λ j y c hj hc=>?_,λ b z=>dm b (r.h0 b z),r.iov⟩
 ·by_cases ej:j=i
  ·subst ej;rw [CC hlen] at hj;cases hj;refine ⟨_,hσ,?_⟩;rw [if_pos rfl,Own];exact ⟨a,us,rfl,.inr ⟨he,f',Ce,rfl,hn,hnew.weak λ _ h=>h.zf⟩⟩
  ·rw [BL (BG ej)] at hj;obtain ⟨w,hw,ow⟩:=r.own0 hal j y c hj;refine ⟨w,hw,?_⟩;rw [if_neg ej];exact ow.at (.inr ⟨i,hai⟩) ⟨.l ws,ha⟩ (λ z=>r.dj j i ej a z hai) λ b _ nz z=>nz (zz b z.zf)
 ·by_cases ej:j=i
  ·subst ej;exact absurd (CC hlen) (hj _)
  ·rw [if_neg ej];exact r.non j λ p hp=>hj p (by rw [BL (BG ej)];exact hp)
 ·have one:∀ k,k≠i->∀ b,b∈a::f'->b∈fps k->False:=λ k hk b h1 h2=>(inI b h1).elim (λ z=>r.dj i k (BG hk) b z h2) λ z=>r.zo k b h2 (.inr z);by_cases e1:j=i
  ·by_cases e2:k=i
   ·exact hjk (e1.trans e2.symm)
   ·rw [if_pos e1] at hb;rw [if_neg e2] at hc;exact one k e2 b hb hc
  ·rw [if_neg e1] at hb;by_cases e2:k=i
   ·rw [if_pos e2] at hc;exact one j e1 b hc hb
   ·rw [if_neg e2] at hc;exact r.dj j k hjk b hb hc
 ·by_cases ej:j=i
  ·rw [if_pos ej] at hb;rcases inI b hb with y | y
   ·exact r.zo i b y (.inl z)
   ·exact (hH b y).2 z
  ·rw [if_neg ej] at hb;exact r.zo j b hb (.inl z)
 ·by_cases ej:j=i
  ·rw [if_pos ej] at hb;rcases inI b hb with y | y
   ·exact r.fr i (by rw [<- ej];exact hj) b y
   ·exact (hH b y).1
  ·rw [if_neg ej] at hb;exact r.fr j hj b hb
 ·by_cases ej:j=i
  ·subst ej;rw [CC hlen] at hc;cases hc;exact hm hj
  ·rw [BL (BG ej)] at hc;exact r.msf j y c hj hc
end
section
variable {M:Fm}{ρ ρ':Ah}{σ σ':St}{H H' H'':Hp}{fps fps' fps'':AF}{vs vs':List Nat}
def KS.write {a:Addr}{o:HO}{i:Nat}{f' fp:List Addr} (k:KS M H fps H' fps') (ha:∃ j,a∈fps j) (hs:∀ b∈a::f',b∈fps' i\/H b=none):
  KS M H fps (As H' a o) (λ j=>if j=i then a::f' else fps' j) where
 keep:=λ b u hb n=>by rw [AN (λ e=>n (by rw [e];exact ha))];exact k.keep b u hb n
 dom:=λ b hb=>by
  by_cases e:b=a
  ·rw [e,Ce];simp
  ·rw [AN e];exact k.dom b hb
 sub:=λ j b hb=>by
  by_cases e:j=i
  ·simp only [if_pos e] at hb;rcases hs b hb with z | z
   ·exact k.sub i b z
   ·exact .inr z
  ·simp only [if_neg e] at hb;exact k.sub j b hb
def Rep.behind {x:PV}{d:Nat}{v:V}{fp:List Addr} (rep:Rep M ρ σ H fps) (k:KD M H fps H' fps') (g:Agr M ρ ρ') (r':Rep M ρ' σ H' fps') (o:Own M.K H' (Zt M vs fps' fp) x d v fp) (t:Temp M vs H H' fps' fp)
  (hal:∀ i,M.al i=[]) (hv:∀ i∈vs,M.Ms i=false):∃ fps2,KS M H fps H' fps2/\Rep (M.plus fp) (Bg d vs ρ') σ H' fps2/\Own M.K H' (λ a=>Zf M fps2 a\/a∈fp) x d v fp/\(∀ a∈fp,¬ Zf M fps2 a)/\(∀ i a,a∈fps2 i->a∈fps' i)/\(∀ a∈fp,M.H₀ a=none/\¬ M.Zo a):=by
 have w:Rep (M.plus fp) ρ' σ H' fps':=rep.wide (λ i j hj=>by rw [hal i] at hj;cases hj) k g r' λ a ha=>⟨t.new a ha,by obtain ⟨xs,e⟩:=Own.lsts x d v fp o a ha;rw [e];simp,t.ndj a ha⟩
 have hf:∀ a∈fp,M.H₀ a=none/\¬ M.Zo a:=λ a ha=>⟨rep.h0' (t.new a ha),λ z=>t.ndj a ha (.inl z)⟩
 unfold Bg;by_cases hd:d=om
 ·rw [if_pos hd];refine ⟨fps',k.ks,w,?_,t.ndj,λ _ _ h=>h,hf⟩;rw [hd] at o ⊢;exact Own.full x v fp o
 ·rw [if_neg hd];exact ⟨DA vs fps',k.ks.cool,w.cool hal hv,o.weak λ a h=>h.elim (λ h=>.inl (GU h)) .inr,λ a ha z=>t.ndj a ha (GU z).zf,λ _ _ h=>(Fg h).1,hf⟩
def A2 (i:Nat) (f:Fx) (vs:List Nat):Fs:=λ ρ=>match ρ[i]? with
 | some (some (.lst _,0))=>.no
 | some (some (.lst _,_ + 1))=>(match f ρ with
  | .ok (y,e,ρ1)=>(match (Bg e vs ρ1)[i]? with
   | some (some (.lst xs,d))=>if d≠0/\xs.length < Am then .nx ((Bg e vs ρ1).set i (some (.lst (xs++[y]),if d=om/\e=om then om else 1))) else .no
   | _=>.no)
  | .exc c=>.exc c
  | .no=>.no)
 | _=>.no
def JL:pd 1=0:=by decide
def Own.list {K:Frag}{Z:Addr->Prop}{xs:List PV}{d:Nat}{v:V}{fp:List Addr} (h:Own K H Z (.lst xs) d v fp) (hd:d≠0):∃ a ws f,v=.ref a/\H a=some (.lst ws)/\fp=a::f/\a∉f/\OwnL K H Z xs (pd d) ws f:=by
 rw [Own] at h;obtain ⟨a,ws,e,⟨d0,_⟩ | ⟨_,f,h1,h2,h3,h4⟩⟩:=h
 ·exact absurd d0 hd
 ·exact ⟨a,ws,f,e,h1,h2,h3,h4⟩
def XD {f:Fx}{i:Nat}{D:Ends} (hal:∀ i,M.al i=[]) (hv:∀ i∈vs,M.Ms i=false) (hm:M.Ms i=false) (hq:tS M (A2 i f vs) D σ H):M5 (OI M.K "list" Ua (Cw i) (M4 (tE M f vs) FY)) D σ H:=by
 obtain ⟨ρ,fps,rep,q⟩:=hq;unfold A2 at q;split at q
 ·exact q.elim
 ·rename_i xs0 d0 e0;obtain ⟨v,hσ,o⟩:=rep.own0 hal i _ _ e0;obtain ⟨a,ws0,fc0,rfl,ha0,hfp0,_,_⟩:=o.list (UT _);refine ⟨_,hσ,ZA (.inl (.inl ha0)),ρ,fps,rep,?_⟩;cases ef:f ρ with
  | no=>rw [ef] at q;exact q
  | exc c=>rw [ef] at q;exact λ H' fps' k=>q _ H' fps' k.ks
  | ok p=>
   obtain ⟨y,e,ρ1⟩:=p;rw [ef] at q;intro w H1 fps1 fp k1 g1 rep1 o1 t1;dsimp only at q;split at q
   ·rename_i xs d es;split at q
    ·rename_i hc;obtain ⟨fps2,k2,r2,o2,n2,s2,h2⟩:=Rep.behind rep k1 g1 rep1 o1 t1 hal hv;obtain ⟨v',hσ',ol⟩:=r2.own0 hal i _ _ es;rw [hσ] at hσ';cases hσ';obtain ⟨a',ws,fc,ev,ha,hfp,nac,hol⟩:=ol.list hc.1;cases ev;have hai:a∈fps2 i:=by rw [hfp];exact Bf
     have hafp:a∉fp:=λ z=>n2 a z (.inr ⟨i,hai⟩);have hst:∃ j,a∈fps j:=⟨i,by have:=s2 i a hai;rw [k1.same i hm] at this;exact this⟩
     refine ⟨a,ws,w,rfl,rfl,ha,by rw [hol.length];exact hc.2,?_⟩;by_cases ho:d=om/\e=om
     ·rw [if_pos ho] at q;obtain ⟨rfl,rfl⟩:=ho;refine q σ _ _ (k2.write (i:=i) (f':=fc++fp) (fp:=fp) hst λ b hb=>?_) (r2.rewrite hal es hσ ha hfp (λ z=>(jc2.mp z).elim nac hafp) (λ b hb=>jc2.mp hb) (by decide) (λ _=>rfl) h2 ?_)
      ·rcases jb2.mp hb with z | z
       ·exact .inl (by rw [z];exact hai)
       ·rcases jc2.mp z with z | z
        ·exact .inl (by rw [hfp];exact AQ _ z)
        ·exact .inr (t1.new b z)
      ·have u1:OwnL M.K (As H1 a (.lst (ws++[w]))) (λ _=>True) xs om ws fc:=(OwnL.full (Z':=λ _=>True) xs ws fc hol).at trivial ⟨.l ws,ha⟩ nac λ _ _ n=>absurd trivial n;have u2:Own M.K (As H1 a (.lst (ws++[w]))) (λ _=>True) y om w fp:=(Own.full (Z':=λ _=>True) y w fp o2).at trivial ⟨.l ws,ha⟩ hafp λ _ _ n=>absurd trivial n;exact OwnL.full _ _ _ (u1.snoc u2 λ b hb z=>n2 b z (.inr ⟨i,by rw [hfp];exact AQ _ hb⟩))
     ·rw [if_neg ho] at q;refine q σ _ _ (k2.write (i:=i) (f':=[]) (fp:=fp) hst λ b hb=>?_) (r2.rewrite hal es hσ ha hfp (λ z=>nomatch z) (λ b hb=>nomatch hb) (by decide) (λ h=>by rw [hm] at h;cases h) h2 ?_)
      ·rcases jb2.mp hb with z | z
       ·exact .inl (by rw [z];exact hai)
       ·cases z
      ·rw [JL];have zsub:∀ b,Zf M (λ j=>if j=i then [a] else fps2 j) b->Zf (M.plus fp) fps2 b:=λ b h=>by
        rcases h with z | ⟨j,z⟩
        ·exact .inl (.inl z)
        ·by_cases ej:j=i
         ·simp only [if_pos ej] at z;rw [ja6.mp z];exact .inr ⟨i,hai⟩
         ·simp only [if_neg ej] at z;exact .inr ⟨j,z⟩
       have nf:∀ b∈fc,¬ Zf M (λ j=>if j=i then [a] else fps2 j) b:=λ b hb z=>by
        have hbi:b∈fps2 i:=by rw [hfp];exact AQ _ hb
        rcases z with z | ⟨j,z⟩
        ·exact r2.zo i b hbi (.inl z)
        ·by_cases ej:j=i
         ·simp only [if_pos ej] at z;rw [ja6.mp z] at hb;exact nac hb
         ·simp only [if_neg ej] at z;exact r2.dj i j (BG ej) b hbi z
       have nfp:∀ b∈fp,¬ Zf M (λ j=>if j=i then [a] else fps2 j) b:=λ b hb z=>by
        rcases z with z | ⟨j,z⟩
        ·exact n2 b hb (.inl z)
        ·by_cases ej:j=i
         ·simp only [if_pos ej] at z;rw [ja6.mp z] at hb;exact hafp hb
         ·simp only [if_neg ej] at z;exact n2 b hb (.inr ⟨j,z⟩)
       have za:Zf M (λ j=>if j=i then [a] else fps2 j) a:=.inr ⟨i,by simp⟩;have u1:=(OwnL.freeze (Z':=Zf M (λ j=>if j=i then [a] else fps2 j)) zsub xs _ ws fc nf hol)
       have u2:=(Own.freeze (Z':=Zf M (λ j=>if j=i then [a] else fps2 j)) (λ b h=>by
        rcases h with z | ⟨j,z⟩
        ·exact .inl (.inl z)
        ·by_cases ej:j=i
         ·simp only [if_pos ej] at z;rw [ja6.mp z];exact .inl (.inr ⟨i,hai⟩)
         ·simp only [if_neg ej] at z;exact .inl (.inr ⟨j,z⟩)) y _ w fp nfp o2)
       exact (u1.at za ⟨.l ws,ha⟩ (λ z=>nomatch z) λ _ _ n=>n).snoc (u2.at za ⟨.l ws,ha⟩ (λ z=>nomatch z) λ _ _ n=>n) λ _ z=>nomatch z
    ·exact q.elim
   ·exact q.elim
 ·exact q.elim
def GY:PV->Bool
 | .lst _=>false
 | .tup _=>false
 | .dct _=>false
 | _=>true
theorem OwnL.set {K:Frag}{Z:Addr->Prop}{y:PV}{d:Nat}{w:V} (hy:Own K H Z y d w []):∀ {xs:List PV}{ws:List V}{f:List Addr} (k:Nat),OwnL K H Z xs d ws f->∃ f',(∀ b∈f',b∈f)/\OwnL K H Z (xs.set k y) d (ws.set k w) f'
 | [],ws,f,k,h=>by
  rw [OwnL] at h;obtain ⟨rfl,rfl⟩:=h;refine ⟨[],λ _ z=>z,?_⟩;rw [UD,UD,OwnL];exact ⟨rfl,rfl⟩
 | x::xs,ws,f,0,h=>by
  rw [OwnL] at h;obtain ⟨v,s,f1,f2,rfl,rfl,dj,h1,h2⟩:=h;refine ⟨f2,λ b hb=>BI _ hb,?_⟩;rw [Vb,Vb,OwnL];exact ⟨w,s,[],f2,rfl,rfl,λ _ z=>(nomatch z),hy,h2⟩
 | x::xs,ws,f,k + 1,h=>by
  rw [OwnL] at h;obtain ⟨v,s,f1,f2,rfl,rfl,dj,h1,h2⟩:=h;obtain ⟨f',hs,h'⟩:=h2.set hy k;refine ⟨f1++f',λ b hb=>(jc2.mp hb).elim (λ z=>BM _ z) λ z=>BI _ (hs b z),?_⟩;rw [Va,Va,OwnL];exact ⟨v,s.set k w,f1,f',rfl,rfl,λ b hb hc=>dj b hb (hs b hc),h1,h'⟩
theorem Own.atom {K:Frag}{Z Z':Addr->Prop}{y:PV}{d d':Nat}{w:V}{fp:List Addr} (hy:GY y=true) (h:Own K H Z y d w fp):fp=[]/\Own K H Z' y d' w []:=by
 cases y with
 | lst _=>cases hy
 | tup _=>cases hy
 | dct _=>cases hy
 | exn _=>rw [Own] at h ⊢;exact ⟨h.1,rfl,h.2⟩
 | emp=>rw [Own] at h ⊢;exact ⟨h.1,rfl,h.2⟩
 | dko=>rw [Own] at h ⊢;exact ⟨h.1,rfl,h.2⟩
 | scr _=>rw [Own] at h ⊢;exact ⟨h.1,rfl,h.2⟩
 | non=>rw [Own] at h ⊢;exact ⟨h.2,h.1,rfl⟩
 | bl _=>rw [Own] at h ⊢;exact ⟨h.2,h.1,rfl⟩
 | int _=>rw [Own] at h ⊢;exact ⟨h.2,h.1,rfl⟩
 | str _=>rw [Own] at h ⊢;exact ⟨h.2,h.1,rfl⟩
def Ia (i:Nat) (k:Int) (f:Fx):Fs:=λ ρ=>match f ρ with
 | .ok (y,_,ρ1)=>(match ρ1[i]? with
  | some (some (.lst xs,d))=>(match Dj xs.length k with
   | some j=>if d≠0/\GY y=true then .nx (ρ1.set i (some (.lst (xs.set j y),d))) else .no
   | none=>.no)
  | _=>.no)
 | .exc c=>.exc c
 | .no=>.no
theorem XH {f:Fx}{i:Nat}{k:Int}{D:Ends} (hal:∀ i,M.al i=[]) (hv:∀ i∈vs,M.Ms i=false) (hq:tS M (Ia i k f) D σ H):C9 (tE M f vs) (Gr (Cw i) (tC (.int k)) Mx) D σ H:=by
 obtain ⟨ρ,fps,rep,q⟩:=hq;refine ⟨ρ,fps,rep,?_⟩;unfold Ia at q;cases ef:f ρ with
 | no=>rw [ef] at q;exact q
 | exc c=>rw [ef] at q;exact λ H' fps' k=>q _ H' fps' k.ks
 | ok p=>
  obtain ⟨y,e,ρ1⟩:=p;rw [ef] at q;intro w H1 fps1 fp k1 g1 rep1 o1 t1;dsimp only at q;split at q
  ·rename_i xs d es;split at q
   ·rename_i j ej;split at q
    ·rename_i hc;obtain ⟨rfl,_⟩:=Own.atom (Z':=λ _=>True) (d':=0) hc.2 o1;obtain ⟨v',hσ',ol⟩:=rep1.own0 hal i _ _ es;obtain ⟨a,ws,fc,rfl,ha,hfp,nac,hol⟩:=ol.list hc.1;have hai:a∈fps1 i:=by rw [hfp];exact Bf
     refine ⟨_,hσ',a,ws,k,j,rfl,rfl,ha,by rw [hol.length];exact ej,?_⟩;have rp:Rep (M.plus []) ρ1 σ H1 fps1:=rep.wide (λ i j hj=>by rw [hal i] at hj;cases hj) k1 g1 rep1 λ b hb=>nomatch hb
     obtain ⟨fc',hs',hset⟩:=hol.set (Own.atom (d':=pd d) hc.2 o1).2 j;have inI:∀ b,b∈a::fc'->b∈fps1 i:=λ b hb=>(jb2.mp hb).elim (λ z=>by rw [z];exact hai) λ z=>by rw [hfp];exact AQ _ (hs' b z)
     have hst:KS M H fps (As H1 a (.lst (ws.set j w))) (λ j=>if j=i then a::fc' else fps1 j):=by
      refine ⟨λ b u hb n=>?_,λ b hb=>?_,λ j b hb=>?_⟩
      ·have hb1:=k1.ks.keep b u hb n;rw [AN]
       ·exact hb1
       ·rintro rfl;rcases k1.ks.sub i b hai with z | z
        ·exact n z
        ·rw [z] at hb;cases hb
      ·by_cases eb:b=a
       ·rw [eb,Ce];simp
       ·rw [AN eb];exact k1.dom b hb
      ·by_cases ej:j=i
       ·simp only [if_pos ej] at hb;exact k1.ks.sub i b (inI b hb)
       ·simp only [if_neg ej] at hb;exact k1.ks.sub j b hb
     refine q σ _ _ hst (rp.rewrite hal es hσ' ha hfp (λ z=>nac (hs' a z)) (λ b hb=>.inl (hs' b hb)) hc.1 (λ h=>rep1.msf i _ _ h es) (λ b hb=>nomatch hb) ?_);have nz:∀ b,Zf M (λ j=>if j=i then a::fc' else fps1 j) b->Zf M fps1 b:=λ b h=>by
      rcases h with z | ⟨j,z⟩
      ·exact .inl z
      ·by_cases ej:j=i
       ·simp only [if_pos ej] at z;exact .inr ⟨i,inI b z⟩
       ·simp only [if_neg ej] at z;exact .inr ⟨j,z⟩
     exact hset.at (.inr ⟨i,hai⟩) ⟨.l ws,ha⟩ (λ z=>nac (hs' a z)) λ b _ n z=>n (nz b z)
    ·exact q.elim
   ·exact q.elim
  ·exact q.elim
end
section
variable {is:List Nat}{M:Fm}{ρ ρ':Ah}{σ σ':St}{H H' H'':Hp}{fps fps' fps'':AF}{vs vs':List Nat}
def Rep.plus0 (hal:∀ i,∀ j∈M.al i,M.Ms j=false) (r:Rep M ρ σ H fps):Rep (M.plus []) ρ σ H fps:=r.wide hal KD.refl Agr.refl r (λ _ z=>nomatch z)
def Dz (M:Fm) (al is:List Nat) (g:TG) (asg:PV->Ah->Option Ah):Prop:=∀ y v ρ σ H fps ρ' (Q:St->Hp->Prop),Rep M ρ σ H fps->Own M.K H (Zv M al fps) y 0 v []->asg y ρ=some ρ'->(∀ σ' fps',(∀ i,∀ a∈fps' i,a∈fps i)->(∀ i,i∉is->ρ'[i]?=ρ[i]?/\fps' i=fps i/\σ'[i]?=σ[i]?)->ρ'.length=ρ.length->Rep M ρ' σ' H fps'->Q σ' H)->g v σ H Q
def asgN (i:Nat):PV->Ah->Option Ah:=λ y ρ=>if i < ρ.length then some (ρ.set i (some (y,dv y))) else none
def Own.dv {K:Frag}{Z:Addr->Prop}{x:PV}{v:V} (h:Own K H Z x 0 v []):Own K H Z x (dv x) v []:=Own.view (fp:=[]) (λ _ z=>z) (λ _ z=>nomatch z) h
structure Bd (M:Fm) (al:List Nat) (i:Nat):Prop where
 ms:M.Ms i=false
 io:M.Fre i
 al:M.al i=al
 als:∀ i,∀ j∈M.al i,M.Ms j=false
def Rep.bind1 {al:List Nat}{i:Nat}{y:PV}{v:V} (r:Rep M ρ σ H fps) (o:Own M.K H (Zv M al fps) y 0 v []) (hi:i < ρ.length) (b:Bd M al i):
  Rep M (ρ.set i (some (y,dv y))) (σ.set i (some v)) H (λ j=>if j=i then [] else fps j):=by
 refine (r.plus0 b.als).put (o.dv.weak λ a h=>h.elim (λ h=>?_) λ z=>nomatch z) (λ _ z=>nomatch z) hi (λ h=>by rw [b.ms] at h;cases h) b.io;rcases h with h | ⟨j,nj,h⟩
 ·exact .inl h
 ·exact .inr ⟨j,by rw [b.al] at nj;exact nj,h⟩
def SS {al:List Nat}{i:Nat} (b:Bd M al i):Dz M al [i] (E1 i) (asgN i):=by
 intro y v ρ σ H fps ρ' Q r o e q;unfold asgN at e;split at e
 ·rename_i hi;cases e;refine q _ _ (λ j a ha=>?_) (λ j nj=>?_) (by rw [DI]) (r.bind1 o hi b)
  ·by_cases e:j=i
   ·simp only [if_pos e] at ha;cases ha
   ·simp only [if_neg e] at ha;exact ha
  ·have e:j≠i:=λ e=>nj (by simp [e]);exact ⟨BL (BG e),if_neg e,BL (BG e)⟩
 ·cases e
def IY:List Nat->Hn
 | []=>KU
 | i::is=>RU (E1 i) (IY is)
def GB:List Nat->List PV->Ah->Option Ah
 | [],[],ρ=>some ρ
 | i::is,y::ys,ρ=>(asgN i y ρ).bind (GB is ys)
 | _,_,_=>none
def BN (is:List Nat):PV->Ah->Option Ah:=λ y ρ=>match y with
 | .tup ys=>GB is ys ρ
 | _=>none
theorem T8 {al:List Nat}:∀ (is:List Nat) (ys:List PV) (ws:List V) (ρ:Ah) (σ:St) (H:Hp) (fps:AF) (ρ':Ah) (Q:St->Hp->Prop),(∀ i∈is,Bd M al i)->Rep M ρ σ H fps->OwnL M.K H (Zv M al fps) ys 0 ws []->GB is ys ρ=some ρ' ->
  (∀ σ' fps',(∀ i,∀ a∈fps' i,a∈fps i)->(∀ i,i∉is->ρ'[i]?=ρ[i]?/\fps' i=fps i/\σ'[i]?=σ[i]?)->ρ'.length=ρ.length->Rep M ρ' σ' H fps'->Q σ' H)->ws.length=is.length/\IY is ws σ H Q
 | [],[],ws,ρ,σ,H,fps,ρ',Q,_,r,o,e,q=>by
  rw [OwnL] at o;obtain ⟨rfl,_⟩:=o;cases e;exact ⟨rfl,rfl,q σ fps (λ _ _ h=>h) (λ _ _=>⟨rfl,rfl,rfl⟩) rfl r⟩
 | [],_::_,_,_,_,_,_,_,_,_,_,_,e,_=>by cases e
 | _::_,[],_,_,_,_,_,_,_,_,_,_,e,_=>by cases e
 | i::is,y::ys,ws,ρ,σ,H,fps,ρ',Q,hs,r,o,e,q=>by
  rw [OwnL] at o;obtain ⟨v,s,f1,f2,rfl,ef,_,o1,o2⟩:=o;obtain ⟨rfl,rfl⟩:f1=[]/\f2=[]:=by simpa using ef.symm
  unfold GB at e;cases e1:asgN i y ρ with
  | none=>rw [e1] at e;cases e
  | some ρ1=>
   rw [e1] at e;unfold asgN at e1;split at e1
   ·rename_i hi;cases e1;have bi:=hs i Bf;have r':=r.bind1 o1 hi bi;have sub:∀ j a,a∈(λ j=>if j=i then [] else fps j) j->a∈fps j:=λ j a z=>by
     by_cases ej:j=i
     ·simp only [if_pos ej] at z;cases z
     ·simp only [if_neg ej] at z;exact z
    have o2':OwnL M.K H (Zv M al (λ j=>if j=i then [] else fps j)) ys 0 s []:=o2.weak λ a h=>h.elim .inl λ ⟨j,nj,z⟩=>.inr ⟨j,nj,sub j a z⟩;obtain ⟨hl,hg⟩:=T8 is ys s _ _ H _ ρ' Q (λ j hj=>hs j (AQ _ hj)) r' o2' e λ σ' fps' k' a' l' r''=>q σ' fps' (λ j a ha=>sub j a (k' j a ha)) (λ j hj=>by
     have ej:j≠i:=λ e=>hj (by rw [e];exact Bf);obtain ⟨z1,z2,z3⟩:=a' j λ z=>hj (AQ _ z);rw [if_neg ej] at z2;exact ⟨z1.trans (BL (BG ej)),z2,z3.trans (BL (BG ej))⟩) (l'.trans (by rw [DI])) r''
    exact ⟨by rw [Ba,Ba,hl],v,s,rfl,hg⟩
   ·cases e1
def OU {al:List Nat}{is:List Nat} (hs:∀ i∈is,Bd M al i):Dz M al is (IC M.K is.length (IY is)) (BN is):=by
 intro y v ρ σ H fps ρ' Q r o e q;unfold BN at e;split at e
 ·rename_i ys;rw [Own] at o;obtain ⟨a,ws,rfl,hr,ol⟩:=o;obtain ⟨hl,hg⟩:=T8 is ys ws ρ σ H fps ρ' Q hs r ol e q;exact ⟨a,ws,rfl,.inl (.inl hr),hl,hg⟩
 ·cases e
def Bm (asg:PV->Ah->Option Ah) (body:Fs):List PV->Ah->Rs
 | [],ρ=>.nx ρ
 | x::xs,ρ=>match asg x ρ with
  | none=>.no
  | some ρ1=>match body ρ1 with
   | .nx ρ2=>Bm asg body xs ρ2
   | .ct ρ2=>Bm asg body xs ρ2
   | .bk ρ2=>.nx ρ2
   | .rt x d ρ2=>.rt x d ρ2
   | .exc c=>.exc c
   | .no=>.no
def JV {g:TG}{asg:PV->Ah->Option Ah}{body:Fs}{D:Ends}{J:It}{els:List PV}{Pq:Hp->AF->Prop} (hg:Dz M [] is g asg)
  (hP:∀ {ρ σ H fps H' fps'},Rep M ρ σ H fps->KS M H fps H' fps'->Pq H fps->Pq H' fps') (hgo:∀ {H fps i},Pq H fps->i < els.length->J.go i H) (hst:∀ {H fps i},Pq H fps->els.length<=i->J.stop i H)
  (hy:∀ {ρ σ H fps i x H'},Rep M ρ σ H fps->Pq H fps->i < els.length->J.yld i H x H'->(∀ a o,H a=some o->H' a=some o)/\∃ y,els[i]?=some y/\Own M.K H' (Zf M fps) y 0 x [])
  (rep:Rep M ρ σ H fps) (p:Pq H fps) (q:RsOk M D H fps (Bm asg body els ρ)):
  ∃ W:Nat->Nat->St->Hp->Prop,(∃ m,W 0 m σ H)/\∀ i m σ H,W i m σ H ->
   (J.stop i H/\D.nx σ H)\/(J.go i H/\∃ N:St->Hp->Prop,(∀ σ' H',N σ' H'->∃ m',m' < m/\W (i + 1) m' σ' H')/\∀ x H',J.yld i H x H'->g x σ H' λ σ2 H2=>(tS M body) { D with nx:=N,ct:=N,bk:=D.nx } σ2 H2):=by
 let W:Nat->Nat->St->Hp->Prop:=λ i m σ H=>m=els.length - i/\∃ ρ fps,Rep M ρ σ H fps/\Pq H fps/\RsOk M D H fps (Bm asg body (els.drop i) ρ);refine ⟨W,⟨els.length,by simp,ρ,fps,rep,p,by simpa using q⟩,?_⟩;rintro i m σ H ⟨rfl,ρ,fps,r,p,q⟩;by_cases hi:i < els.length
 ·right
  refine ⟨hgo p hi,W (i + 1) (els.length - (i + 1)),λ σ' H' w=>⟨_,by omega,w⟩,λ x H' y=>?_⟩;obtain ⟨kx,z,ez,oz⟩:=hy r p hi y;have k0:KS M H fps H' fps:=(KD.grow kx).ks;have p:=hP r k0 p;have r:=r.grow kx;have q:=RsOk.from k0 q;have ed:els.drop i=z::els.drop (i + 1):=by
   obtain ⟨h1,h2⟩:=ja3.mp ez;rw [<- h2];exact Nc h1
  rw [ed] at q;unfold Bm at q;cases ea:asg z ρ with
  | none=>rw [ea] at q;exact q.elim
  | some ρ1=>
   rw [ea] at q;dsimp only at q;refine hg z x ρ σ _ fps ρ1 _ r (oz.weak λ a h=>h.zf) ea λ σ1 fps1 s1 _ _ r1=>⟨ρ1,fps1,r1,?_⟩
   have k1:KS M H' fps H' fps1:=⟨λ _ _ h _=>h,λ _ h=>h,λ j a ha=>.inl ⟨j,s1 j a ha⟩⟩
   have p1:=hP r k1 p;cases eb:body ρ1 with
   | no=>rw [eb] at q;exact q
   | exc c=>rw [eb] at q;exact RsOk.from (r:=.exc c) k1 q
   | rt x d ρ2=>rw [eb] at q;exact RsOk.from (r:=.rt x d ρ2) k1 q
   | bk ρ2=>rw [eb] at q;exact λ σ' H' fps' k=>q σ' H' fps' (k1.trans k)
   | nx ρ2=>rw [eb] at q;exact λ σ' H' fps' k r'=>⟨rfl,ρ2,fps',r',hP r1 k p1,RsOk.from (k1.trans k) q⟩
   | ct ρ2=>rw [eb] at q;exact λ σ' H' fps' k r'=>⟨rfl,ρ2,fps',r',hP r1 k p1,RsOk.from (k1.trans k) q⟩
 ·left
  have ed:els.drop i=[]:=PX (by omega);rw [ed] at q;exact ⟨hst p (by omega),q σ H fps KS.refl r⟩
def EC (lo:Int) (n:Nat):List PV:=(Bh n).map λ (i:Nat)=>PV.int (lo + (i:Int))
def IL (lo:Int) (n:Nat):(EC lo n).length=n:=by simp [EC]
def C6:List (PV×Nat)->Option (Int×Int)
 | [(.int j,_)]=>if -(2 ^ 62)<=j/\j < 2 ^ 62 then some (0,j) else none
 | _=>none
def Hc:List (PV×Nat)->Option (Int×Int)
 | [(.int i,_),(.int j,_)]=>if -(2 ^ 62)<=i/\i < 2 ^ 62/\-(2 ^ 62)<=j/\j < 2 ^ 62 then some (i,j) else none
 | _=>none
def CZ (en:List (PV×Nat)->Option (Int×Int)) (fa:Fa) (asg:PV->Ah->Option Ah) (body:Fs):Fs:=λ ρ=>match fa ρ with
 | .ok (xs,ρ1)=>(match en xs with
  | some (i,j)=>Bm asg body (EC i (j - i).toNat) ρ1
  | none=>.no)
 | .exc c=>.exc c
 | .no=>.no
def Qu {g:TG}{asg:PV->Ah->Option Ah}{body:Fs}{D:Ends}{lo:Int}{n:Nat} (hg:Dz M [] is g asg) (rep:Rep M ρ σ H fps) (q:RsOk M D H fps (Bm asg body (EC lo n) ρ)):
  ∃ W:Nat->Nat->St->Hp->Prop,(∃ m,W 0 m σ H)/\∀ i m σ H,W i m σ H ->
   ((Fy lo n).stop i H/\D.nx σ H)\/((Fy lo n).go i H/\∃ N:St->Hp->Prop,(∀ σ' H',N σ' H'->∃ m',m' < m/\W (i + 1) m' σ' H')/\∀ x H',(Fy lo n).yld i H x H'->g x σ H' λ σ2 H2=>(tS M body) { D with nx:=N,ct:=N,bk:=D.nx } σ2 H2):=by
 refine JV (Pq:=λ _ _=>True) hg (λ _ _ _=>trivial) (λ {H fps i} _ h=>?_) (λ {H fps i} _ h=>?_) (λ {ρ σ H fps i x H'} _ _ h y=>?_) rep trivial q
 ·rw [IL] at h;exact h
 ·rw [IL] at h;exact h
 ·rw [IL] at h;obtain ⟨e1,e2⟩:=y;subst e1;exact ⟨λ _ _ h=>h,.int (lo + i),by simp [EC,h],by rw [e2,Own];exact ⟨rfl,rfl⟩⟩
theorem Uj {g:TG}{asg:PV->Ah->Option Ah}{body:Fs}{fa:Fa}{D:Ends} (hg:Dz M [] is g asg) (hq:tS M (CZ C6 fa asg body) D σ H):EM (My (tL M fa vs)) g (tS M body) D σ H:=by
 obtain ⟨ρ,fps,rep,q⟩:=hq;refine ⟨ρ,fps,rep,?_⟩;unfold CZ at q;cases ef:fa ρ with
 | no=>rw [ef] at q;exact q
 | exc c=>rw [ef] at q;exact λ H' fps' k=>q _ H' fps' k.ks
 | ok p=>
  obtain ⟨xs,ρ1⟩:=p;rw [ef] at q;intro ws H1 fps1 f1 k1 g1 rep1 o1 t1;dsimp only at q;cases ee:C6 xs with
  | none=>rw [ee] at q;exact q.elim
  | some ij=>
   obtain ⟨i,j⟩:=ij;rw [ee] at q;unfold C6 at ee;split at ee
   ·rename_i j' d;split at ee
    ·rename_i hb;cases ee;obtain ⟨v,r,f1,f2,rfl,_,_,h1,h2⟩:=o1;obtain ⟨rfl,_⟩:=h2;rw [Own] at h1;obtain ⟨rfl,_⟩:=h1;refine ⟨j,rfl,hb.1,hb.2,?_⟩;have e:(j - 0).toNat=j.toNat:=by omega
     dsimp only at q;rw [e] at q;exact Qu hg rep1 (RsOk.from k1.ks q)
    ·cases ee
   ·cases ee
theorem Uk {g:TG}{asg:PV->Ah->Option Ah}{body:Fs}{fa:Fa}{D:Ends} (hg:Dz M [] is g asg) (hq:tS M (CZ Hc fa asg body) D σ H):EM (Mz (tL M fa vs)) g (tS M body) D σ H:=by
 obtain ⟨ρ,fps,rep,q⟩:=hq;refine ⟨ρ,fps,rep,?_⟩;unfold CZ at q;cases ef:fa ρ with
 | no=>rw [ef] at q;exact q
 | exc c=>rw [ef] at q;exact λ H' fps' k=>q _ H' fps' k.ks
 | ok p=>
  obtain ⟨xs,ρ1⟩:=p;rw [ef] at q;intro ws H1 fps1 f1 k1 g1 rep1 o1 t1;dsimp only at q;cases ee:Hc xs with
  | none=>rw [ee] at q;exact q.elim
  | some ij=>
   obtain ⟨i,j⟩:=ij;rw [ee] at q;unfold Hc at ee;split at ee
   ·rename_i i' d j' d';split at ee
    ·rename_i hb;cases ee;obtain ⟨v,r,f1,f2,rfl,_,_,h1,h2⟩:=o1;obtain ⟨v2,r2,f3,f4,rfl,_,_,h3,h4⟩:=h2;obtain ⟨rfl,_⟩:=h4;rw [Own] at h1 h3;obtain ⟨rfl,_⟩:=h1;obtain ⟨rfl,_⟩:=h3;exact ⟨i,j,rfl,hb,Qu hg rep1 (RsOk.from k1.ks q)⟩
    ·cases ee
   ·cases ee
def signs (z:Str):List PV:=z.cps.toList.map λ c=>.str ⟨#[c]⟩
def Cc (f:Fx) (vs:List Nat) (asg:PV->Ah->Option Ah) (body:Fs):Fs:=λ ρ=>match f ρ with
 | .ok (.str z,d,ρ1)=>if HB z=true then Bm asg body (signs z) (Bg d vs ρ1) else .no
 | .ok (.lst xs,d,ρ1)=>Bm asg body xs (Bg d vs ρ1)
 | .ok (.tup xs,d,ρ1)=>Bm asg body xs (Bg d vs ρ1)
 | .ok _=>.no
 | .exc c=>.exc c
 | .no=>.no
theorem OwnL.get {K:Frag}{Z:Addr->Prop}:∀ {xs:List PV}{ws:List V}{i:Nat}{w:V},OwnL K H Z xs 0 ws []->ws[i]?=some w->∃ x,xs[i]?=some x/\Own K H Z x 0 w []
 | [],ws,i,w,h,e=>by
  rw [OwnL] at h;obtain ⟨rfl,_⟩:=h;simp at e
 | x::xs,ws,i,w,h,e=>by
  rw [OwnL] at h;obtain ⟨v,s,f1,f2,rfl,ef,_,o1,o2⟩:=h;obtain ⟨rfl,rfl⟩:f1=[]/\f2=[]:=by simpa using ef.symm
  cases i with
  | zero=>simp at e;subst e;exact ⟨x,by simp,o1⟩
  | succ i=>obtain ⟨y,e1,e2⟩:=o2.get (i:=i) (w:=w) (by simpa using e);exact ⟨y,by simpa using e1,e2⟩
def Rep.seen {x:PV}{d:Nat}{v:V}{fp:List Addr} (rep:Rep M ρ σ H fps) (k:KD M H fps H' fps') (g:Agr M ρ ρ') (r':Rep M ρ' σ H' fps') (o:Own M.K H' (Zt M vs fps' fp) x d v fp) (t:Temp M vs H H' fps' fp)
  (hal:∀ i,M.al i=[]) (hv:∀ i∈vs,M.Ms i=false):∃ fps2,KS M H fps H' fps2/\Rep M (Bg d vs ρ') σ H' fps2/\Own M.K H' (Zf M fps2) x 0 v []:=by
 unfold Bg;by_cases hd:d=om
 ·rw [if_pos hd];rw [hd] at o;exact ⟨fps',k.ks,r',Own.freeze (λ _ z=>z) x om v fp (λ a ha=>t.ndj a ha) (Own.full x v fp o)⟩
 ·rw [if_neg hd];exact ⟨DA vs fps',k.ks.cool,r'.cool hal hv,Own.freeze (λ a h=>.inl (GU h)) x d v fp (λ a ha z=>t.ndj a ha (GU z).zf) o⟩
theorem Ul {g:TG}{asg:PV->Ah->Option Ah}{body:Fs}{f:Fx}{D:Ends} (hal:∀ i,M.al i=[]) (hv:∀ i∈vs,M.Ms i=false) (hg:Dz M [] is g asg) (hq:tS M (Cc f vs asg body) D σ H):EM (Fc M.K (tE M f vs)) g (tS M body) D σ H:=by
 obtain ⟨ρ,fps,rep,q⟩:=hq;refine ⟨ρ,fps,rep,?_⟩;unfold Cc at q;cases ef:f ρ with
 | no=>rw [ef] at q;exact q
 | exc c=>rw [ef] at q;exact λ H' fps' k=>q _ H' fps' k.ks
 | ok p=>
  obtain ⟨x,d,ρ1⟩:=p;rw [ef] at q;intro v H1 fps1 f1 k1 g1 rep1 o1 t1;obtain ⟨fps2,k2,r2,o2⟩:=Rep.seen rep k1 g1 rep1 o1 t1 hal hv;cases x with
  | lst xs=>
   have o2':=o2;rw [Own] at o2';obtain ⟨a,ws,rfl,⟨_,hr,_,ol⟩ | ⟨h,_⟩⟩:=o2'
   ·have sq:AX M.K H1 a ws:=.inl (.inl hr.1);refine .inl ⟨a,rfl,.inl ⟨⟨ws,sq⟩,?_⟩⟩;have one:∀ {H:Hp}{fps:AF},Own M.K H (Zf M fps) (.lst xs) 0 (.ref a) []->∃ ws,AX M.K H a ws/\OwnL M.K H (Zf M fps) xs 0 ws []:=λ o=>by
     rw [Own] at o;obtain ⟨b,ws,e,⟨_,hr,_,ol⟩ | ⟨h,_⟩⟩:=o
     ·cases e;exact ⟨ws,.inl (.inl hr.1),ol⟩
     ·exact absurd rfl h
    refine JV (Pq:=λ H fps=>Own M.K H (Zf M fps) (.lst xs) 0 (.ref a) []) (els:=xs) hg (λ r k o=>k.stay0 r o) (λ {H fps i} o h=>?_) (λ {H fps i} o h=>?_) (λ {ρ σ H fps i x H'} _ o h y=>?_) r2 o2 (RsOk.from k2 q)
    ·obtain ⟨ws,s,ol⟩:=one o;exact ⟨ws,ws[i]'(by rw [ol.length];exact h),s,by simp⟩
    ·obtain ⟨ws,s,ol⟩:=one o;exact ⟨ws,s,by rw [ol.length];exact h⟩
    ·obtain ⟨ws,s,ol⟩:=one o;obtain ⟨e1,e2⟩:=y;subst e1;exact ⟨λ _ _ h=>h,ol.get (e2 ws s)⟩
   ·exact absurd rfl h
  | tup xs=>
   have o2':=o2;rw [Own] at o2';obtain ⟨a,ws,rfl,hr,ol⟩:=o2';refine .inl ⟨a,rfl,.inr ⟨⟨ws,.inl (.inl hr)⟩,?_⟩⟩;have one:∀ {H:Hp}{fps:AF},Own M.K H (Zf M fps) (.tup xs) 0 (.ref a) []->∃ ws,CL M.K H a ws/\OwnL M.K H (Zf M fps) xs 0 ws []:=λ o=>by
    rw [Own] at o;obtain ⟨b,ws,e,hr,ol⟩:=o;cases e;exact ⟨ws,.inl (.inl hr),ol⟩
   refine JV (Pq:=λ H fps=>Own M.K H (Zf M fps) (.tup xs) 0 (.ref a) []) (els:=xs) hg (λ r k o=>k.stay0 r o) (λ {H fps i} o h=>?_) (λ {H fps i} o h=>?_) (λ {ρ σ H fps i x H'} _ o h y=>?_) r2 o2 (RsOk.from k2 q)
   ·obtain ⟨ws,s,ol⟩:=one o;exact ⟨ws,ws[i]'(by rw [ol.length];exact h),s,by simp⟩
   ·obtain ⟨ws,s,ol⟩:=one o;exact ⟨ws,s,by rw [ol.length];exact h⟩
   ·obtain ⟨ws,s,ol⟩:=one o;obtain ⟨e1,e2⟩:=y;subst e1;exact ⟨λ _ _ h=>h,ol.get (e2 ws s)⟩
  | str z=>
   have o2':=o2;rw [Own] at o2';obtain ⟨rfl,_⟩:=o2';dsimp only at q;split at q
   ·rename_i ha;refine .inr ⟨z,rfl,ha,?_⟩;have hl:(signs z).length=z.cps.size:=by unfold signs;rw [A5,DU]
    refine JV (Pq:=λ _ _=>True) (els:=signs z) hg (λ _ _ _=>trivial) (λ {H fps i} _ h=>?_) (λ {H fps i} _ h=>?_) (λ {ρ σ H fps i x H'} _ _ h y=>?_) r2 trivial (RsOk.from k2 q)
    ·show i < z.cps.size;omega
    ·show z.cps.size<=i;omega
    ·obtain ⟨rfl,c,hc,rfl⟩:=y;refine ⟨λ _ _ h=>h,.str ⟨#[c]⟩,?_,by rw [Own];exact ⟨rfl,rfl⟩⟩;unfold signs;rw [Cs,Iv,hc];rfl
   ·exact q.elim
  | _=>exact q.elim
end
section
variable {M:Fm}{ρ ρ':Ah}{σ σ':St}{H H' H'':Hp}{fps fps' fps'':AF}{vs vs':List Nat}
def Fm.comp (M:Fm) (D:Addr) (n:Nat) (vI:List Nat):Fm:={ M.plus [D] with W:=λ _ _ _=>False,al:=λ j=>if j < n then M.al j else vI }
def Rep.minus {fp:List Addr} (r:Rep (M.plus fp) ρ σ H fps):Rep M ρ σ H fps where
 own:=λ i x d e=>let ⟨v,h1,h2⟩:=r.own i x d e;⟨v,h1,h2.weak λ a h=>h.elim (λ h=>.inl (.inl h)) .inr⟩
 non:=r.non
 dj:=r.dj
 zo:=λ i a ha z=>r.zo i a ha (.inl z)
 fr:=r.fr
 zd:=λ a z=>r.zd a (.inl z)
 len:=r.len
 msf:=r.msf
 h0:=r.h0
 iov:=r.iov
def Rep.far (r:Rep M ρ σ H fps) {j:Nat} (h:ρ.length<=j):fps j=[]:=r.non j λ p e=>by
 rw [ji5.mpr h] at e;cases e
def Rep.ext {D:Addr}{k:Nat}{vI:List Nat} (r:Rep (M.plus [D]) ρ σ H fps):Rep (M.comp D ρ.length vI) (ρ++AK k none) (σ++AK k none) H fps where
 own:=λ i x d e=>by
  by_cases hi:i < ρ.length
  ·rw [CF hi] at e;obtain ⟨v,h1,h2⟩:=r.own i x d e;refine ⟨v,by rw [CF (by rw [<- r.len];exact hi)];exact h1,h2.weak λ a h=>?_⟩;rcases h with h | ⟨j,nj,h⟩
   ·exact .inl h
   ·refine .inr ⟨j,?_,h⟩
    have:(M.comp D ρ.length vI).al i=M.al i:=if_pos hi
    rw [this] at nj;exact nj
  ·rw [Ep (by omega),Iy] at e;split at e <;> cases e
 non:=λ i h=>by
  by_cases hi:i < ρ.length
  ·exact r.non i λ p e=>h p (by rw [CF hi];exact e)
  ·exact r.far (by omega)
 dj:=r.dj
 zo:=r.zo
 fr:=r.fr
 zd:=r.zd
 len:=by simp [r.len]
 msf:=λ i x d hm e=>by
  by_cases hi:i < ρ.length
  ·rw [CF hi] at e;exact r.msf i x d hm e
  ·rw [Ep (by omega),Iy] at e;split at e <;> cases e
 h0:=r.h0
 iov:=⟨λ v hv=>by
  have h:=r.iov.1 v hv;refine ⟨?_,h.2⟩
  have:0 < σ.length:=(ja3.mp h.1).1
  rw [CF this];exact h.1,λ p hp=>by
  have h:=r.iov.2 p hp;rw [CF (ja3.mp h).1];exact h⟩
def D5 (n:Nat) (fps:AF):AF:=λ j=>if j < n then fps j else []
def FC {n i:Nat}{a:Addr} (h:a∈D5 n fps i):a∈fps i/\i < n:=by
 unfold D5 at h;split at h
 ·rename_i hi;exact ⟨h,hi⟩
 ·cases h
def Rep.take {D:Addr}{n:Nat}{vI:List Nat} (r:Rep (M.comp D n vI) ρ σ H fps) (hσ:∀ i,i < n->σ[i]?=σ'[i]?) (hl:σ'.length=n) (hn:n<=ρ.length) (hio:(M.io≠none->0 < n)/\∀ p∈M.pn,p.1 < n):Rep (M.plus [D]) (ρ.take n) σ' H (D5 n fps) where
 own:=λ i x d e=>by
  have hi:i < n:=by
   have:=(ja3.mp e).1
   rw [Dh] at this;omega
  rw [KQ hi] at e;obtain ⟨v,h1,h2⟩:=r.own i x d e;refine ⟨v,by rw [<- hσ i hi];exact h1,?_⟩
  have:D5 n fps i=fps i:=if_pos hi
  rw [this];refine h2.weak λ a h=>?_;rcases h with h | ⟨j,nj,h⟩
  ·exact .inl h
  ·refine .inr ⟨j,?_,(FC h).1⟩
   have:(M.comp D n vI).al i=M.al i:=if_pos hi
   rw [this];exact nj
 non:=λ i h=>by
  unfold D5;split
  ·rename_i hi;exact r.non i λ p e=>h p (by rw [KQ hi];exact e)
  ·rfl
 dj:=λ i j hij a ha hb=>r.dj i j hij a (FC ha).1 (FC hb).1
 zo:=λ i a ha=>r.zo i a (FC ha).1
 fr:=λ i hi a ha=>r.fr i hi a (FC ha).1
 zd:=r.zd
 len:=by rw [Dh,hl];omega
 msf:=λ i x d hm e=>by
  have hi:i < n:=by
   have:=(ja3.mp e).1
   rw [Dh] at this;omega
  rw [KQ hi] at e;exact r.msf i x d hm e
 h0:=r.h0
 iov:=⟨λ v hv=>by
  have h:=r.iov.1 v hv;refine ⟨?_,h.2⟩;have h0:0 < n:=hio.1 (by
   have hv':M.io=some v:=hv;rw [hv'];simp)
  rw [<- hσ 0 h0];exact h.1,λ p hp=>by rw [<- hσ p.1 (hio.2 p hp)];exact r.iov.2 p hp⟩
def Rep.touch {D:Addr}{us ws:List V} (r:Rep (M.plus [D]) ρ σ H fps) (hD:H D=some (.lst ws)):Rep (M.plus [D]) ρ σ (As H D (.lst us)) fps:=by
 have zD:(M.plus [D]).Zo D:=.inr (by simp);have dm:∀ b,H b≠none->(As H D (.lst us)) b≠none:=λ b h=>by
  by_cases eb:b=D
  ·rw [eb,Ce];simp
  ·rw [AN eb];exact h
 exact ⟨λ i x d e=>let ⟨v,h1,h2⟩:=r.own i x d e;⟨v,h1,h2.at (.inl zD) ⟨.l ws,hD⟩ (λ z=>r.zo i D z zD) λ _ _ n=>n⟩,r.non,r.dj,r.zo,r.fr,λ a z=>dm a (r.zd a z),r.len,r.msf,λ a z=>dm a (r.h0 a z),r.iov⟩
theorem Tmps.snoc {K:Frag}{Z:Addr->Prop}{y:PV}{e:Nat}{w:V}{fe:List Addr} (hy:Own K H (λ a=>Z a\/a∈fe) y e w fe):∀ {xs:List (PV×Nat)}{ws:List V}{fp:List Addr},Tmps K H Z xs ws fp->(∀ a∈fp,a∉fe)->Tmps K H Z (xs++[(y,e)]) (ws++[w]) (fp++fe)
 | [],ws,fp,h,_=>by
  obtain ⟨rfl,rfl⟩:=h;exact ⟨w,[],fe,[],rfl,by simp,λ _ _ z=>(nomatch z),hy,rfl,rfl⟩
 | (x,d)::xs,ws,fp,h,hd=>by
  obtain ⟨v,s,f1,f2,rfl,rfl,dj,h1,h2⟩:=h;refine ⟨v,s++[w],f1,f2++fe,rfl,by rw [Gj],λ a ha hb=>?_,h1,h2.snoc hy λ a ha=>hd a (BI _ ha)⟩;rcases jc2.mp hb with z | z
  ·exact dj a ha z
  ·exact hd a (BM _ ha) z
theorem Tmps.at {K:Frag}{Z:Addr->Prop}{a:Addr}{o:HO} (hZ:Z a) (hl:∃ o:MO,H a=some o.ho):∀ {xs:List (PV×Nat)}{ws:List V}{fp:List Addr},Tmps K H Z xs ws fp->a∉fp->Tmps K (As H a o) Z xs ws fp
 | [],_,_,h,_=>h
 | (x,d)::xs,ws,fp,h,hf=>by
  obtain ⟨v,s,f1,f2,e1,rfl,dj,h1,h2⟩:=h;exact ⟨v,s,f1,f2,e1,rfl,dj,h1.at (.inl hZ) hl (λ z=>hf (BM _ z)) λ _ _ n=>n,h2.at hZ hl λ z=>hf (BI _ z)⟩
theorem Tmps.lsts {K:Frag}{Z:Addr->Prop}:∀ {xs:List (PV×Nat)}{ws:List V}{fp:List Addr},Tmps K H Z xs ws fp->∀ a∈fp,∃ o:MO,H a=some o.ho
 | [],_,_,h,a,ha=>by rw [h.2] at ha;cases ha
 | (x,d)::xs,ws,fp,h,a,ha=>by
  obtain ⟨v,s,f1,f2,e1,rfl,dj,h1,h2⟩:=h;rcases jc2.mp ha with z | z
  ·exact Own.lsts x d v f1 h1 a z
  ·exact h2.lsts a z
def Rz.bindN {α β:Type} (r:Rz α) (f:α->Rz β):Rz β:=match r with
 | .ok a=>f a
 | _=>.no
def Ct (k:Nat) (asg:PV->Ah->Option Ah) (test:Fb) (elt:Fx):List PV->Ah->List (PV×Nat)->Rz (List (PV×Nat)×Ah)
 | [],ρ,acc=>.ok (acc,ρ)
 | x::xs,ρ,acc=>match asg x (ρ++AK k none) with
  | none=>.no
  | some ρ1=>(test ρ1).bindN λ (b,ρ2)=>if b=true then (elt ρ2).bindN λ (y,e,ρ3)=>(if acc.length < Am then Ct k asg test elt xs (ρ3.take ρ.length) (acc++[(y,e)]) else .no) else Ct k asg test elt xs (ρ2.take ρ.length) acc
def KD.seen {D:Addr}{x:PV}{v:V} (r:Rep M ρ σ H fps) (k:KD M H fps H' fps') (hD:H D=none) (hv:∀ i∈vs,M.Ms i=false) (o:Own M.K H (Zv M vs fps) x 0 v []):Own M.K H' (Zv (M.plus [D]) vs fps') x 0 v []:=by
 refine Own.move k.keep ?_ ?_ x 0 v [] (λ _ z=>nomatch z) o
 ·rintro a ⟨i,hi,ha⟩;exact ⟨.inr ⟨i,λ z=>(by rw [hv i z] at hi;cases hi),ha⟩,r.lsts ha⟩
 ·intro a hd nz z;rcases z with (z | z) | ⟨i,ni,hx⟩
  ·exact nz (.inl z)
  ·rw [ja6.mp z] at hd;exact hd hD
  ·rcases k.sub i a hx with z | z
   ·exact nz (.inr ⟨i,ni,z⟩)
   ·exact hd z
def JQ {g:TG}{is vI vE vo:List Nat}{asg:PV->Ah->Option Ah}{test:Fb}{elt:Fx}{k:Nat}{J:It}{els:List PV}{Q:VK}{n:Nat}{P:Fm->Prop}
  (hP:∀ D,P (M.comp D n vI)) (hn:n=ρ.length) (hal:∀ i,∀ j∈M.al i,M.Ms j=false) (hvI:∀ i∈vI,M.Ms i=false) (hvE:∀ i∈vE,M.Ms i=false) (his:∀ i∈is,n<=i) (hg:∀ D,Dz (M.comp D n vI) vI is g asg) (hvo:∀ i,i∈vE->i < n->i∈vo) (hvo2:∀ i∈vo,M.Ms i=false)
  (rep:Rep M ρ σ H fps)
  (hgo:∀ {D H' fps' i},H D=none->KD M H fps H' fps'->i < els.length->J.go i H') (hst:∀ {D H' fps' i},H D=none->KD M H fps H' fps'->els.length<=i->J.stop i H')
  (hy:∀ {D H' fps' i x H''},H D=none->KD M H fps H' fps'->i < els.length->J.yld i H' x H''->(∀ a o,H' a=some o->H'' a=some o)/\∃ z,els[i]?=some z/\Own M.K H'' (Zv (M.plus [D]) vI fps') z 0 x [])
  (q:match Ct k asg test elt els ρ [] with
   | .ok (acc,ρ')=>∀ D ws H' fps' fpl,KD M H fps H' fps'->Agr M ρ ρ'->Rep (M.plus [D]) ρ' σ H' fps'->H D=none->H' D=some (.lst ws)->Tmps M.K H' (Zv (M.plus [D]) vo fps') acc ws fpl->(∀ a∈fpl,H a=none/\¬ Zf (M.plus [D]) fps' a)->Q (.ref D) H'
   | _=>False):
  ∀ D,H D=none->∃ W:Nat->Nat->List V->Hp->Prop,(∃ m,W 0 m [] (As H D (.lst [])))/\∀ i m ys H1,W i m ys H1->H1 D=some (.lst ys) /\
   ((J.stop i H1/\Q (.ref D) H1)\/(J.go i H1/\∀ x H',J.yld i H1 x H'->g x (σ++AK k none) H' λ σ2 H2=>∃ M',P M'/\tT M' test σ2 H2 λ b H3=>if b=true then ∃ M',P M'/\tE M' elt vE σ2 H3 λ y H4=>H4 D=some (.lst ys)/\ys.length < Am/\∃ m',m' < m/\W (i + 1) m' (ys++[y]) (As H4 D (.lst (ys++[y]))) else ∃ m',m' < m/\W (i + 1) m' ys H3)):=by
 intro D hD;subst hn;let W:Nat->Nat->List V->Hp->Prop:=λ i m ys H1=>m=els.length - i/\∃ ρ1 fps1 acc fpl,Rep (M.plus [D]) ρ1 σ H1 fps1/\KD M H fps H1 fps1/\Agr M ρ ρ1/\Tmps M.K H1 (Zv (M.plus [D]) vo fps1) acc ys fpl/\(∀ a∈fpl,H a=none/\¬ Zf (M.plus [D]) fps1 a)/\H1 D=some (.lst ys)/\Ct k asg test elt (els.drop i) ρ1 acc=Ct k asg test elt els ρ [];have k0:KD M H fps (As H D (.lst [])) fps:=KD.grow λ a o h=>by rw [AN (λ e=>by rw [e,hD] at h;cases h)];exact h
 have r0:Rep (M.plus [D]) ρ σ (As H D (.lst [])) fps:=by
  refine rep.wide hal k0 Agr.refl (rep.grow λ a o h=>by rw [AN (λ e=>by rw [e,hD] at h;cases h)];exact h) λ a ha=>?_;rw [ja6.mp ha];exact ⟨hD,by rw [Ce];simp,rep.nz hD⟩
 refine ⟨W,⟨els.length,by simp,ρ,fps,[],[],r0,k0,Agr.refl,⟨rfl,rfl⟩,λ _ z=>(nomatch z),Ce,by simp⟩,?_⟩;rintro i m ys H1 ⟨rfl,ρ1,fps1,acc,fpl,r1,k1,g1,tm,hf,h1D,ec⟩;refine ⟨h1D,?_⟩;have hlen:ρ1.length=ρ.length:=g1.2;by_cases hi:i < els.length
 ·right
  refine ⟨hgo hD k1 hi,λ x H' hyl=>?_⟩;obtain ⟨kx,z,ez,oz⟩:=hy hD k1 hi hyl;have tm:=KD.stays (M:=M.plus [D]) (KD.grow kx) r1 hvo2 tm λ a ha=>(hf a ha).2;have r1:=r1.grow kx;have k1:=k1.trans (KD.grow (M:=M) (fps:=fps1) kx);have h1D:=kx D _ h1D;have ed:els.drop i=z::els.drop (i + 1):=by
   obtain ⟨h1,h2⟩:=ja3.mp ez;rw [<- h2];exact Nc h1
  rw [ed] at ec;have good:∃ a r,Ct k asg test elt els ρ []=.ok (a,r):=by
   cases e:Ct k asg test elt els ρ [] with
   | ok p=>exact ⟨p.1,p.2,rfl⟩
   | exc c=>rw [e] at q;exact q.elim
   | no=>rw [e] at q;exact q.elim
  obtain ⟨accF,ρF,eF⟩:=good;rw [eF] at ec;unfold Ct at ec;cases ea:asg z (ρ1++AK k none) with
  | none=>rw [ea] at ec;cases ec
  | some ρ2=>
   rw [ea] at ec;dsimp only at ec;have rx:Rep (M.comp D ρ.length vI) (ρ1++AK k none) (σ++AK k none) H' fps1:=by rw [<- hlen];exact r1.ext
   refine hg D z x _ _ H' fps1 ρ2 _ rx oz ea λ σ2 fps2 s2 a2 l2 r2=>⟨_,hP D,ρ2,fps2,r2,?_⟩
   have hl2:ρ2.length=ρ.length + k:=by rw [l2,AV,Ju,hlen]
   have same2:∀ j,j < ρ.length->ρ2[j]?=ρ1[j]?/\fps2 j=fps1 j/\σ2[j]?=σ[j]?:=λ j hj=>by
    obtain ⟨z1,z2,z3⟩:=a2 j λ z=>absurd (his j z) (by omega);rw [CF (by omega)] at z1;rw [CF (by rw [<- rep.len];omega)] at z3;exact ⟨z1,z2,z3⟩
   have kd2:KD (M.comp D ρ.length vI) H' fps1 H' fps2->True:=λ _=>trivial;cases et:test ρ2 with
   | exc c=>rw [et] at ec;cases ec
   | no=>rw [et] at ec;cases ec
   | ok p=>
    obtain ⟨b,ρ3⟩:=p;rw [et] at ec;intro H3 fps3 k3 g3 r3;dsimp only [Rz.bindN] at ec;have far:∀ {ρ4:Ah}{H4:Hp}{fps4:AF},KD (M.comp D ρ.length vI) H' fps2 H4 fps4->Agr (M.comp D ρ.length vI) ρ2 ρ4->Rep (M.comp D ρ.length vI) ρ4 σ2 H4 fps4 ->
      KD M H fps H4 (D5 ρ.length fps4)/\KD M H' fps1 H4 (D5 ρ.length fps4)/\Agr M ρ (ρ4.take ρ.length)/\Rep (M.plus [D]) (ρ4.take ρ.length) σ H4 (D5 ρ.length fps4)/\H4 D=some (.lst ys):=λ {ρ4 H4 fps4} k4 g4 r4=>by
     have kk:KD M H' fps1 H4 (D5 ρ.length fps4):=by
      refine ⟨λ a o ha hn=>k4.keep a o ha λ ⟨j,hj,hx⟩=>hn ⟨j,hj,s2 j a hx⟩,k4.dom,λ j a ha=>?_,λ j hj=>?_⟩
      ·rcases k4.sub j a (FC ha).1 with z | z
       ·exact .inl (s2 j a z)
       ·exact .inr z
      ·unfold D5;by_cases hjl:j < ρ.length
       ·rw [if_pos hjl,k4.same j hj];exact (same2 j hjl).2.1
       ·rw [if_neg hjl];exact (r1.far (by omega)).symm
     refine ⟨k1.trans kk,kk,?_,r4.take (σ':=σ) (λ j hj=>(same2 j hj).2.2) rep.len.symm (by rw [g4.2,hl2];omega) ⟨λ hio=>?_,λ p hp=>by rw [rep.len];exact (ja3.mp (rep.iov.2 p hp)).1⟩,?_⟩
     ·refine ⟨λ j hj=>?_,by rw [Dh,g4.2,hl2];omega⟩;by_cases hjl:j < ρ.length
      ·rw [KQ hjl,g4.1 j hj,(same2 j hjl).1];exact g1.1 j hj
      ·rw [ji5.mpr (by rw [Dh];omega),ji5.mpr (by omega)]
     ·cases e:M.io with
      | none=>exact absurd e hio
      | some v=>
       have:=(ja3.mp (rep.iov.1 v e).1).1
       rw [rep.len];exact this
     ·exact k4.keep D _ h1D λ ⟨j,_,hx⟩=>r2.zo j D hx (.inr (by simp))
    have notZ:∀ {H4:Hp}{fps4:AF},KD M H' fps1 H4 fps4->∀ {a},a∈fpl->¬ Zf (M.plus [D]) fps4 a:=λ {H4 fps4} k4 a ha z=>by
     rcases z with z | ⟨j,z⟩
     ·exact (hf a ha).2 (.inl z)
     ·rcases k4.sub j a z with z | z
      ·exact (hf a ha).2 (.inr ⟨j,z⟩)
      ·obtain ⟨xs,e⟩:=tm.lsts a ha;rw [z] at e;cases e
    cases b with
    | false=>
     rw [if_neg Di] at ec ⊢;obtain ⟨f1,f2,f3,f4,f5⟩:=far k3 g3 r3;refine ⟨els.length - (i + 1),by omega,rfl,ρ3.take ρ.length,D5 ρ.length fps3,acc,fpl,f4,f1,f3,?_,λ a ha=>⟨(hf a ha).1,λ z=>?_⟩,f5,by rw [eF,<- hlen];exact ec⟩
     ·exact KD.stays (M:=M.plus [D]) (σ:=σ) (ρ:=ρ1) ⟨f2.keep,f2.dom,f2.sub,f2.same⟩ r1 hvo2 tm λ a ha=>(hf a ha).2
     ·exact notZ f2 ha z
    | true=>
     rw [if_pos rfl] at ec ⊢;refine ⟨_,hP D,ρ3,fps3,r3,?_⟩;cases ee:elt ρ3 with
     | exc c=>rw [ee] at ec;cases ec
     | no=>rw [ee] at ec;cases ec
     | ok p=>
      obtain ⟨y,e,ρ4⟩:=p;rw [ee] at ec;intro w H4 fps4 fe k4 g4 r4 o4 t4;dsimp only at ec;by_cases hz:acc.length < Am
      ·rw [if_pos hz] at ec;obtain ⟨f1,f2,f3,f4,f5⟩:=far (k3.trans k4) (g3.trans g4) r4;have tm4:Tmps M.K H4 (Zv (M.plus [D]) vo (D5 ρ.length fps4)) acc ys fpl:=KD.stays (M:=M.plus [D]) (σ:=σ) (ρ:=ρ1) ⟨f2.keep,f2.dom,f2.sub,f2.same⟩ r1 hvo2 tm λ a ha=>(hf a ha).2;have zD:Zv (M.plus [D]) vo (D5 ρ.length fps4) D:=.inl (.inr (by simp));have hDe:D∉fe:=λ z=>t4.ndj D z (.inl (.inr (by simp)));have hDl:D∉fpl:=λ z=>(hf D z).2 (.inl (.inr (by simp)));have oy:Own M.K H4 (λ a=>Zv (M.plus [D]) vo (D5 ρ.length fps4) a\/a∈fe) y e w fe:=o4.weak λ a h=>h.elim (λ h=>.inl (h.elim .inl λ ⟨j,nj,hx⟩=>.inr ⟨j,λ z=>nj (hvo j z (FC hx).2),(FC hx).1⟩)) .inr;have back3:∀ a,H3 a=none->H' a=none:=λ a e=>by
        cases e':H' a with
        | none=>rfl
        | some o=>exact absurd e (k3.dom a (by rw [e'];simp))
       have back1:∀ a,H' a=none->H a=none:=λ a e=>by
        cases e':H a with
        | none=>rfl
        | some o=>exact absurd e (k1.dom a (by rw [e'];simp))
       have kt:KD M H fps (As H4 D (.lst (ys++[w]))) (D5 ρ.length fps4):=⟨λ a o ha hn=>by rw [AN (λ e=>by rw [e,hD] at ha;cases ha)];exact f1.keep a o ha hn,λ a ha=>by
        by_cases eb:a=D
        ·rw [eb,Ce];simp
        ·rw [AN eb];exact f1.dom a ha,f1.sub,f1.same⟩
       refine ⟨f5,by rw [tm.length];exact hz,els.length - (i + 1),by omega,rfl,ρ4.take ρ.length,D5 ρ.length fps4,acc++[(y,e)],fpl++fe,f4.touch f5,kt,f3,?_,λ a ha=>?_,Ce,by rw [eF,<- hlen];exact ec⟩
       ·exact (tm4.at zD ⟨.l ys,f5⟩ hDl).snoc (oy.at (.inl zD) ⟨.l ys,f5⟩ hDe λ _ _ n=>n) λ a ha hb=>by
         obtain ⟨xs,e⟩:=tm.lsts a ha;rw [back3 a (t4.new a hb)] at e;cases e
       ·rcases jc2.mp ha with z | z
        ·exact ⟨(hf a z).1,notZ f2 z⟩
        ·refine ⟨back1 a (back3 a (t4.new a z)),λ hz=>t4.ndj a z ?_⟩;rcases hz with hz | ⟨j,hz⟩
         ·exact .inl hz
         ·exact .inr ⟨j,(FC hz).1⟩
      ·rw [if_neg hz] at ec;cases ec
 ·left
  have ed:els.drop i=[]:=PX (by omega);rw [ed] at ec;rw [<- ec] at q;unfold Ct at q;exact ⟨hst hD k1 (by omega),q D ys H1 fps1 fpl k1 g1 r1 hD h1D tm hf⟩
end
section
variable {M:Fm}{ρ ρ':Ah}{σ σ':St}{H H' H'':Hp}{fps fps' fps'':AF}{vs vs':List Nat}
def CY:List (PV×Nat)->Bool
 | []=>true
 | p::r=>(p.2 == om) && CY r
theorem J2:∀ {xs:List (PV×Nat)},CY xs=true->∀ p∈xs,p.2=om
 | [],_,_,h=>nomatch h
 | p::r,h,q,hq=>by
  unfold CY at h;rw [Be] at h;rcases jb2.mp hq with e | e
  ·rw [e];exact eq_of_beq h.1
  ·exact J2 h.2 q e
def ED (acc:List (PV×Nat)) (ρ:Ah):Rz (PV×Nat×Ah):=.ok (.lst (acc.map (·.1)),if CY acc then om else 1,ρ)
def CO (f:Fx) (k:Nat) (asg:PV->Ah->Option Ah) (test:Fb) (elt:Fx):Fx:=λ ρ=>match f ρ with
 | .ok (.lst xs,_,ρ1)=>(Ct k asg test elt xs ρ1 []).bindN λ (acc,ρ2)=>ED acc ρ2
 | .ok (.tup xs,_,ρ1)=>(Ct k asg test elt xs ρ1 []).bindN λ (acc,ρ2)=>ED acc ρ2
 | .ok (.str z,_,ρ1)=>if HB z=true then (Ct k asg test elt (signs z) ρ1 []).bindN λ (acc,ρ2)=>ED acc ρ2 else .no
 | .ok _=>.no
 | .exc c=>.exc c
 | .no=>.no
def JX (en:List (PV×Nat)->Option (Int×Int)) (fa:Fa) (k:Nat) (asg:PV->Ah->Option Ah) (test:Fb) (elt:Fx):Fx:=λ ρ=>match fa ρ with
 | .ok (xs,ρ1)=>(match en xs with
  | some (i,j)=>(Ct k asg test elt (EC i (j - i).toNat) ρ1 []).bindN λ (acc,ρ2)=>ED acc ρ2
  | none=>.no)
 | .exc c=>.exc c
 | .no=>.no
theorem N2 {D:Addr}{acc:List (PV×Nat)}{ws:List V}{fpl:List Addr}{vo:List Nat}{Q:VK}{H0:Hp}{fps0:AF}{ρ0:Ah}
  (rep0:Rep M ρ σ H fps) (k0:KD M H0 fps0 H fps) (g0:Agr M ρ0 ρ) (q:∀ v H' fps' fp,KD M H0 fps0 H' fps'->Agr M ρ0 ρ'->Rep M ρ' σ H' fps'->Own M.K H' (Zt M vo fps' fp) (.lst (acc.map (·.1))) (if CY acc then om else 1) v fp->Temp M vo H0 H' fps' fp->Q v H')
  (k:KD M H fps H' fps') (g:Agr M ρ ρ') (r:Rep (M.plus [D]) ρ' σ H' fps') (hD:H D=none) (hD':H' D=some (.lst ws)) (tm:Tmps M.K H' (Zv (M.plus [D]) vo fps') acc ws fpl) (hf:∀ a∈fpl,H a=none/\¬ Zf (M.plus [D]) fps' a):Q (.ref D) H':=by
 have back:∀ a,H a=none->H0 a=none:=λ a e=>by
  cases e':H0 a with
  | none=>rfl
  | some o=>exact absurd e (k0.dom a (by rw [e'];simp))
 have nD:¬ Zf M fps' D:=λ z=>by
  rcases z with z | ⟨j,z⟩
  ·exact rep0.zd D z hD
  ·exact r.zo j D z (.inr (by simp))
 have hDl:D∉fpl:=λ z=>(hf D z).2 (.inl (.inr (by simp)));have zt:∀ a,Zt M vo fps' [D] a->Zv (M.plus [D]) vo fps' a:=λ a h=>h.elim (λ h=>h.elim (λ h=>.inl (.inl h)) .inr) λ h=>.inl (.inr h);cases ho:CY acc with
 | true=>
  rw [ho] at q;refine q (.ref D) H' fps' (D::fpl) (k0.trans k) (g0.trans g) r.minus ?_ ⟨λ a ha=>?_,λ a ha=>?_⟩
  ·rw [Own];exact ⟨D,ws,rfl,.inr ⟨(by decide),fpl,hD',rfl,hDl,OwnL.full _ ws fpl (tm.all (J2 ho))⟩⟩
  ·rcases jb2.mp ha with z | z
   ·rw [z];exact back D hD
   ·exact back a (hf a z).1
  ·rcases jb2.mp ha with z | z
   ·rw [z];exact nD
   ·exact λ y=>(hf a z).2 (y.elim (λ y=>.inl (.inl y)) .inr)
 | false=>
  rw [ho] at q;refine q (.ref D) H' fps' [D] (k0.trans k) (g0.trans g) r.minus ?_ ⟨λ a ha=>?_,λ a ha=>?_⟩
  ·show Own M.K H' (Zt M vo fps' [D]) (.lst (acc.map (·.1))) 1 (.ref D) [D];rw [Own];refine ⟨D,ws,rfl,.inr ⟨(by decide),[],hD',rfl,(λ z=>nomatch z),?_⟩⟩;rw [JL];exact (tm.cold λ a ha z=>(hf a ha).2 z.zf).weak zt
  ·rw [ja6.mp ha];exact back D hD
  ·rw [ja6.mp ha];exact nD
theorem qW {g:TG}{is vI vE vo:List Nat}{asg:PV->Ah->Option Ah}{test:Fb}{elt f:Fx}{k n:Nat}{Q:VK}{P:Fm->Prop}
  (hn:σ.length=n) (hP:∀ D,P (M.comp D n vI)) (hal:∀ i,∀ j∈M.al i,M.Ms j=false) (hvI:∀ i∈vI,M.Ms i=false) (hvE:∀ i∈vE,M.Ms i=false) (his:∀ i∈is,n<=i) (hg:∀ D,Dz (M.comp D n vI) vI is g asg)
  (hvo:∀ i,i∈vE->i < n->i∈vo) (hvo2:∀ i∈vo,M.Ms i=false) (hq:tE M (CO f k asg test elt) vo σ H Q):
  HH k (Fc M.K (tE M f vI)) g (λ σ H Q=>∃ M',P M'/\tT M' test σ H Q) (λ σ H Q=>∃ M',P M'/\tE M' elt vE σ H Q) σ H Q:=by
 obtain ⟨ρ,fps,rep,q⟩:=hq;refine ⟨ρ,fps,rep,?_⟩;unfold CO at q;cases ef:f ρ with
 | no=>rw [ef] at q;exact q
 | exc c=>rw [ef] at q;exact q
 | ok p=>
  obtain ⟨x,d,ρ1⟩:=p;rw [ef] at q;intro v H1 fps1 f1 k1 g1 rep1 o1 t1;have o0:Own M.K H1 (Zv M vI fps1) x 0 v []:=Own.freeze (λ _ z=>.inl z) x d v f1 (λ a ha z=>t1.ndj a ha z.zf) o1;have hl:n=ρ1.length:=by rw [rep1.len];exact hn.symm
  have fin:∀ (els:List PV),(match (Ct k asg test elt els ρ1 []).bindN λ (acc,ρ2)=>ED acc ρ2 with
    | .ok (x,d,ρ')=>∀ v H' fps' fp,KD M H fps H' fps'->Agr M ρ ρ'->Rep M ρ' σ H' fps'->Own M.K H' (Zt M vo fps' fp) x d v fp->Temp M vo H H' fps' fp->Q v H'
    | .exc c=>∀ H' fps',KD M H fps H' fps'->M.W σ c H'
    | .no=>False)->(match Ct k asg test elt els ρ1 [] with
    | .ok (acc,ρ')=>∀ D ws H' fps' fpl,KD M H1 fps1 H' fps'->Agr M ρ1 ρ'->Rep (M.plus [D]) ρ' σ H' fps'->H1 D=none->H' D=some (.lst ws)->Tmps M.K H' (Zv (M.plus [D]) vo fps') acc ws fpl->(∀ a∈fpl,H1 a=none/\¬ Zf (M.plus [D]) fps' a)->Q (.ref D) H'
    | _=>False):=λ els q=>by
   cases ec:Ct k asg test elt els ρ1 [] with
   | no=>rw [ec] at q;exact q.elim
   | exc c=>rw [ec] at q;exact q.elim
   | ok p=>
    obtain ⟨acc,ρ2⟩:=p;rw [ec] at q;exact λ D ws H' fps' fpl k g r hD hD' tm hf=>N2 rep1 k1 g1 q k g r hD hD' tm hf
  cases x with
  | lst xs=>
   have one:∀ {Z:Addr->Prop}{H:Hp},Own M.K H Z (.lst xs) 0 v []->∃ a ws,v=.ref a/\AX M.K H a ws/\OwnL M.K H Z xs 0 ws []:=λ o=>by
    rw [Own] at o;obtain ⟨b,ws,e,⟨_,hr,_,ol⟩ | ⟨h,_⟩⟩:=o
    ·exact ⟨b,ws,e,.inl (.inl hr.1),ol⟩
    ·exact absurd rfl h
   obtain ⟨a,ws,rfl,sq,ol⟩:=one o0;refine .inl ⟨a,rfl,.inl ⟨⟨ws,sq⟩,?_⟩⟩;refine JQ (els:=xs) hP hl hal hvI hvE his hg hvo hvo2 rep1 (λ {D H' fps' i} hD k' h=>?_) (λ {D H' fps' i} hD k' h=>?_) (λ {D H' fps' i x H''} hD k' h y=>?_) (fin xs q)
   ·obtain ⟨a',ws,e,s,ol⟩:=one (KD.seen rep1 k' hD hvI o0);cases e;exact ⟨ws,ws[i]'(by rw [ol.length];exact h),s,by simp⟩
   ·obtain ⟨a',ws,e,s,ol⟩:=one (KD.seen rep1 k' hD hvI o0);cases e;exact ⟨ws,s,by rw [ol.length];exact h⟩
   ·obtain ⟨a',ws,e,s,ol⟩:=one (KD.seen rep1 k' hD hvI o0);cases e;obtain ⟨e1,e2⟩:=y;subst e1;exact ⟨λ _ _ h=>h,ol.get (e2 ws s)⟩
  | tup xs=>
   have one:∀ {Z:Addr->Prop}{H:Hp},Own M.K H Z (.tup xs) 0 v []->∃ a ws,v=.ref a/\CL M.K H a ws/\OwnL M.K H Z xs 0 ws []:=λ o=>by
    rw [Own] at o;obtain ⟨a,ws,e,hr,ol⟩:=o;exact ⟨a,ws,e,.inl (.inl hr),ol⟩
   obtain ⟨a,ws,rfl,sq,ol⟩:=one o0;refine .inl ⟨a,rfl,.inr ⟨⟨ws,sq⟩,?_⟩⟩;refine JQ (els:=xs) hP hl hal hvI hvE his hg hvo hvo2 rep1 (λ {D H' fps' i} hD k' h=>?_) (λ {D H' fps' i} hD k' h=>?_) (λ {D H' fps' i x H''} hD k' h y=>?_) (fin xs q)
   ·obtain ⟨a',ws,e,s,ol⟩:=one (KD.seen rep1 k' hD hvI o0);cases e;exact ⟨ws,ws[i]'(by rw [ol.length];exact h),s,by simp⟩
   ·obtain ⟨a',ws,e,s,ol⟩:=one (KD.seen rep1 k' hD hvI o0);cases e;exact ⟨ws,s,by rw [ol.length];exact h⟩
   ·obtain ⟨a',ws,e,s,ol⟩:=one (KD.seen rep1 k' hD hvI o0);cases e;obtain ⟨e1,e2⟩:=y;subst e1;exact ⟨λ _ _ h=>h,ol.get (e2 ws s)⟩
  | str z=>
   have o0':=o0;rw [Own] at o0';obtain ⟨rfl,_⟩:=o0';dsimp only at q;by_cases ha:HB z=true
   ·rw [if_pos ha] at q;refine .inr ⟨z,rfl,ha,?_⟩;have hl':(signs z).length=z.cps.size:=by unfold signs;rw [A5,DU]
    refine JQ (els:=signs z) hP hl hal hvI hvE his hg hvo hvo2 rep1 (λ {D H' fps' i} hD k' h=>?_) (λ {D H' fps' i} hD k' h=>?_) (λ {D H' fps' i x H''} hD k' h y=>?_) (fin (signs z) q)
    ·show i < z.cps.size;omega
    ·show z.cps.size<=i;omega
    ·obtain ⟨rfl,c,hc,rfl⟩:=y;refine ⟨λ _ _ h=>h,.str ⟨#[c]⟩,?_,by rw [Own];exact ⟨rfl,rfl⟩⟩;unfold signs;rw [Cs,Iv,hc];rfl
   ·rw [if_neg ha] at q;exact q.elim
  | _=>exact q.elim
def RE {g:TG}{is vI vE vo:List Nat}{asg:PV->Ah->Option Ah}{test:Fb}{elt:Fx}{k n:Nat}{Q:VK}{P:Fm->Prop}{lo:Int}{m:Nat}{H0:Hp}{fps0:AF}{ρ0:Ah}
  (hn:σ.length=n) (hP:∀ D,P (M.comp D n vI)) (hal:∀ i,∀ j∈M.al i,M.Ms j=false) (hvI:∀ i∈vI,M.Ms i=false) (hvE:∀ i∈vE,M.Ms i=false) (his:∀ i∈is,n<=i) (hg:∀ D,Dz (M.comp D n vI) vI is g asg)
  (hvo:∀ i,i∈vE->i < n->i∈vo) (hvo2:∀ i∈vo,M.Ms i=false) (k0:KD M H0 fps0 H fps) (g0:Agr M ρ0 ρ) (rep:Rep M ρ σ H fps)
  (q:match (Ct k asg test elt (EC lo m) ρ []).bindN λ (acc,ρ2)=>ED acc ρ2 with
    | .ok (x,d,ρ')=>∀ v H' fps' fp,KD M H0 fps0 H' fps'->Agr M ρ0 ρ'->Rep M ρ' σ H' fps'->Own M.K H' (Zt M vo fps' fp) x d v fp->Temp M vo H0 H' fps' fp->Q v H'
    | .exc c=>∀ H' fps',KD M H0 fps0 H' fps'->M.W σ c H'
    | .no=>False):
  ∀ D,H D=none->∃ W:Nat->Nat->List V->Hp->Prop,(∃ m,W 0 m [] (As H D (.lst [])))/\∀ i j ys H1,W i j ys H1->H1 D=some (.lst ys) /\
   (((Fy lo m).stop i H1/\Q (.ref D) H1)\/((Fy lo m).go i H1/\∀ x H',(Fy lo m).yld i H1 x H'->g x (σ++AK k none) H' λ σ2 H2=>∃ M',P M'/\tT M' test σ2 H2 λ b H3=>if b=true then ∃ M',P M'/\tE M' elt vE σ2 H3 λ y H4=>H4 D=some (.lst ys)/\ys.length < Am/\∃ m',m' < j/\W (i + 1) m' (ys++[y]) (As H4 D (.lst (ys++[y]))) else ∃ m',m' < j/\W (i + 1) m' ys H3)):=by
 have hl:n=ρ.length:=by rw [rep.len];exact hn.symm
 refine JQ (els:=EC lo m) hP hl hal hvI hvE his hg hvo hvo2 rep (λ {D H' fps' i} hD k' h=>?_) (λ {D H' fps' i} hD k' h=>?_) (λ {D H' fps' i x H''} hD k' h y=>?_) ?_
 ·rw [IL] at h;exact h
 ·rw [IL] at h;exact h
 ·rw [IL] at h;obtain ⟨e1,e2⟩:=y;subst e1;exact ⟨λ _ _ h=>h,.int (lo + i),by simp [EC,h],by rw [e2,Own];exact ⟨rfl,rfl⟩⟩
 ·cases ec:Ct k asg test elt (EC lo m) ρ [] with
  | no=>rw [ec] at q;exact q.elim
  | exc c=>rw [ec] at q;exact q.elim
  | ok p=>
   obtain ⟨acc,ρ2⟩:=p;rw [ec] at q;exact λ D ws H' fps' fpl k g r hD hD' tm hf=>N2 rep k0 g0 q k g r hD hD' tm hf
theorem qU {g:TG}{is vI vE vo:List Nat}{asg:PV->Ah->Option Ah}{test:Fb}{elt:Fx}{fa:Fa}{k n:Nat}{Q:VK}{P:Fm->Prop}
  (hn:σ.length=n) (hP:∀ D,P (M.comp D n vI)) (hal:∀ i,∀ j∈M.al i,M.Ms j=false) (hvI:∀ i∈vI,M.Ms i=false) (hvE:∀ i∈vE,M.Ms i=false) (his:∀ i∈is,n<=i) (hg:∀ D,Dz (M.comp D n vI) vI is g asg)
  (hvo:∀ i,i∈vE->i < n->i∈vo) (hvo2:∀ i∈vo,M.Ms i=false) (hq:tE M (JX C6 fa k asg test elt) vo σ H Q):
  HH k (My (tL M fa vs)) g (λ σ H Q=>∃ M',P M'/\tT M' test σ H Q) (λ σ H Q=>∃ M',P M'/\tE M' elt vE σ H Q) σ H Q:=by
 obtain ⟨ρ,fps,rep,q⟩:=hq;refine ⟨ρ,fps,rep,?_⟩;unfold JX at q;cases ef:fa ρ with
 | no=>rw [ef] at q;exact q
 | exc c=>rw [ef] at q;exact q
 | ok p=>
  obtain ⟨xs,ρ1⟩:=p;rw [ef] at q;intro ws H1 fps1 f1 k1 g1 rep1 o1 t1;dsimp only at q;cases ee:C6 xs with
  | none=>rw [ee] at q;exact q.elim
  | some ij=>
   obtain ⟨i,j⟩:=ij;rw [ee] at q;unfold C6 at ee;split at ee
   ·rename_i j' d;split at ee
    ·rename_i hb;cases ee;obtain ⟨v,r,f1,f2,rfl,_,_,h1,h2⟩:=o1;obtain ⟨rfl,_⟩:=h2;rw [Own] at h1;obtain ⟨rfl,_⟩:=h1;refine ⟨j,rfl,hb.1,hb.2,?_⟩;have e:(j - 0).toNat=j.toNat:=by omega
     dsimp only at q;rw [e] at q;exact RE hn hP hal hvI hvE his hg hvo hvo2 k1 g1 rep1 q
    ·cases ee
   ·cases ee
theorem qV {g:TG}{is vI vE vo:List Nat}{asg:PV->Ah->Option Ah}{test:Fb}{elt:Fx}{fa:Fa}{k n:Nat}{Q:VK}{P:Fm->Prop}
  (hn:σ.length=n) (hP:∀ D,P (M.comp D n vI)) (hal:∀ i,∀ j∈M.al i,M.Ms j=false) (hvI:∀ i∈vI,M.Ms i=false) (hvE:∀ i∈vE,M.Ms i=false) (his:∀ i∈is,n<=i) (hg:∀ D,Dz (M.comp D n vI) vI is g asg)
  (hvo:∀ i,i∈vE->i < n->i∈vo) (hvo2:∀ i∈vo,M.Ms i=false) (hq:tE M (JX Hc fa k asg test elt) vo σ H Q):
  HH k (Mz (tL M fa vs)) g (λ σ H Q=>∃ M',P M'/\tT M' test σ H Q) (λ σ H Q=>∃ M',P M'/\tE M' elt vE σ H Q) σ H Q:=by
 obtain ⟨ρ,fps,rep,q⟩:=hq;refine ⟨ρ,fps,rep,?_⟩;unfold JX at q;cases ef:fa ρ with
 | no=>rw [ef] at q;exact q
 | exc c=>rw [ef] at q;exact q
 | ok p=>
  obtain ⟨xs,ρ1⟩:=p;rw [ef] at q;intro ws H1 fps1 f1 k1 g1 rep1 o1 t1;dsimp only at q;cases ee:Hc xs with
  | none=>rw [ee] at q;exact q.elim
  | some ij=>
   obtain ⟨i,j⟩:=ij;rw [ee] at q;unfold Hc at ee;split at ee
   ·rename_i i' d j' d';split at ee
    ·rename_i hb;cases ee;obtain ⟨v,r,f1,f2,rfl,_,_,h1,h2⟩:=o1;obtain ⟨v2,r2,f3,f4,rfl,_,_,h3,h4⟩:=h2;obtain ⟨rfl,_⟩:=h4;rw [Own] at h1 h3;obtain ⟨rfl,_⟩:=h1;obtain ⟨rfl,_⟩:=h3;exact ⟨i,j,rfl,hb,RE hn hP hal hvI hvE his hg hvo hvo2 k1 g1 rep1 q⟩
    ·cases ee
   ·cases ee
end
def Le {K:Frag}{c:Nat}{C:Addr} (e:Cb K c=some C):c < 12:=by
 unfold Cb at e;split at e
 ·rename_i x h;exact (ja3.mp h).1
 ·cases e
structure XC (h:Heap) (K:Frag) (c:Nat) (C:Addr):Prop where
 obj:∃ bm N nm q bs hdct sn sub ab col dd k0 k1 k2 k3 k5 mN,h.get? C=some (excClassObj nm q C N bs bm hdct sn sub ab col dd k0 k1 k2 k3 k5 "ValueError.__new__")/\h.Ns N mN/\mN "__init__" = none/\OwnTail h bmV bm/\∀ d D,Cb K d=some D->(Value.ref C::bm).contains (.ref D)=Bk c d
def ZE {K:Frag}{c:Nat}{C:Addr} (t:DB K=true) (e:Cb K c=some C):PySem.W.excIn K C bmV "ValueError.__new__" = true/\∀ d D,Cb K d=some D->(Ge K C).contains (.ref D)=Bk c d:=by
 unfold DB at t;have h:=jd6.mp t c (jd5.mpr (Le e));rw [e] at h;dsimp only at h;rw [Be] at h;refine ⟨h.1,λ d D ed=>?_⟩;have h2:=jd6.mp h.2 d (jd5.mpr (Le ed));rw [ed] at h2;exact eq_of_beq h2
def OY {K:Frag}{h:Heap}{c:Nat}{C:Addr} (X:K.In h) (t:DB K=true) (e:Cb K c=some C):XC h K c C:=by
 obtain ⟨q,ht⟩:=ZE t e;refine ⟨?_⟩;unfold PySem.W.excIn at q;split at q
 ·rename_i dd cd sl ho;split at q
  ·rename_i C' bm k0 k1 k2 k3 n k5 hm hs;simp only [Be,beq_iff_eq,MX] at q;obtain ⟨⟨⟨⟨⟨rfl,rfl⟩,hdel⟩,htl⟩,hok⟩,hni⟩:=q;have hmro:Ge K C'=.ref C'::bm:=by unfold Ge;rw [ho];exact hm
   rw [hmro] at ht;obtain ⟨nm,bs,mro,ns,qn,hd,sn,sub,ab,col,del⟩:=cd;dsimp only at hm hdel hok hni;subst hm hdel;have hsl:sl=#[k0,k1,k2,k3,some (.builtin "ValueError.__new__"),k5]:=by
    obtain ⟨l⟩:=sl;simp only at hs;rw [hs]
   subst hsl;exact ⟨bm,ns,nm,qn,bs,hd,sn,sub,ab,col,dd,k0,k1,k2,k3,k5,_,X _ _ ho,.of_isNs (PySem.W.isNs_of_in X hok),PySem.W.nsMap_none_of_in X hok hni,PySem.W.tail_of_in X htl,ht⟩
  ·cases q
 ·cases q
def Ff (W:Nat->Hp->Prop):XK:=λ v _ H'=>match v with
 | .int c _=>W c.toNat H'
 | _=>False
def AS (P:A0) (w:Ay) (K:Frag):EB:=λ outer H s E e s'=>∃ (a C:Addr) (c:Nat) (H':Hp) (B:Heap) (a0:Ae),e=.ref a/\Cb K c=some C/\s'.os=s.os/\E4 s'.gens/\Un (Cn outer) [] H H' s.heap s'.heap/\HOk P w H' s'.heap/\H' a=none/\s.heap.get? a=none /\
 LQ B outer a (.ref C) a0 s'.heap/\(∀ b o,s'.heap.get? b=some o->H' b≠none->B.get? b=some o)/\(∀ b o,s.heap.get? b=some o->H b=none->b∉Cn outer->B.get? b=some o)/\(∀ b,H b≠none->H' b≠none)/\E (.int (c:Int) 0) none H'
theorem N7 {P:A0}{w:Ay}{H:Hp}{h:Heap}{a:Addr}{o:HO} (x:zwb P w H h a o):∃ u,h.get? a=some u:=by
 cases o with
 | lst xs=>obtain ⟨_,_,_,_,e⟩:=x;exact ⟨_,e⟩
 | tup xs=>obtain ⟨_,_,_,o,e,_⟩:=x;exact ⟨_,e⟩
 | dK kvs=>obtain ⟨_,_,_,_,o,_,_,e,_⟩:=x;exact ⟨_,e⟩
 | dT kvs=>obtain ⟨_,_,_,_,o,_,_,e,_⟩:=x;exact ⟨_,e⟩
 | set S n=>obtain ⟨o,_,_,_,e,_⟩:=x;exact ⟨_,e⟩
 | ins C dx fs=>obtain ⟨_,_,_,e,_⟩:=x;exact ⟨_,e⟩
 | own y=>exact x
 | xd fs=>obtain ⟨_,⟨_,_,_,e,_⟩,_⟩:=x;exact ⟨_,e⟩
 | rng lo hi=>obtain ⟨_,_,_,e⟩:=x;exact ⟨_,e⟩
 | frz ob u=>obtain ⟨e,_⟩:=x;exact ⟨_,e⟩
 | tbl ps=>exact ⟨_,(show h.get? a=some _ from x)⟩
 | met f y=>exact ⟨_,(show h.get? a=some _ from x)⟩
 | ext φ=>exact x.2.1
section
variable {X:Cx}{pins:List (Addr×Obj)}{σ:St}{H H1:Hp}{s s2:Ai}{h1 B:Heap}{a C:Addr}{a0:Ae}{c:Nat}{E:XK}{P:A0}{w:Ay}{K:Frag}
def U5 (I:L2.Inv X pins σ H s) (hex:X.ex=[]) (u:Un (Cn X.stack) [] H H1 s.heap h1) (hok:HOk X.prog X.w H1 h1) (fl:LQ B X.outer a (.ref C) a0 s2.heap) (up:h1.UpToSlots s2.heap)
  (i1:∀ b o,h1.get? b=some o->H1 b≠none->B.get? b=some o) (i2:∀ b o,s.heap.get? b=some o->H b=none->b∉Cn X.stack->B.get? b=some o) (ha:H1 a=none) (hn:s.heap.get? a=none)
  (hE:E (.int (c:Int) 0) none H1) (hd:∀ b,X.H₀ b≠none->H1 b≠none) (hc:Cb X.K c=some C) (ho:s2.os=s.os) (hg:E4 s2.gens):AS X.prog X.w X.K X.outer X.H₀ X.s₀ E (.ref a) s2:=by
 have nx:∀ b:Addr,b∉X.ex:=λ b z=>by rw [hex] at z;cases z
 have key:∀ b o,X.s₀.heap.get? b=some o->X.H₀ b=none->b∉Cn X.outer->B.get? b=some o:=λ b o e n hb=>by
  refine i2 b o (I.base.keep b o e n hb (nx b)) (I.base.free b o e n (nx b)) λ z=>?_;rcases jb2.mp (I.stkSub b z) with z | z
  ·exact absurd (Bv (AJ e) I.ok.above) (by rw [z];exact E9 _)
  ·exact hb z
 have fr:∀ b o,X.s₀.heap.get? b=some o->X.H₀ b=none->b∈Cn X.outer->∃ sl,s2.heap.get? b=some { o with slots:=sl }:=λ b o e n hb=>by
  obtain ⟨sl,e1⟩:=I.base.slot b o e n hb (nx b);obtain ⟨sl',e2⟩:=u.any e1 (I.base.free b o e n (nx b)) (by simp);obtain ⟨_,o',ho',hnf⟩:=I.ok.funs.mem hb;rw [e] at ho';cases ho';obtain ⟨sl2,e3⟩:=up b _ e2 hnf;exact ⟨sl2,e3⟩
 have Ei:∀ b v,H1 b≠none->h1.get? b=some v->s2.heap.get? b=some v:=λ b v hb e=>fl.1 b v (i1 b v e hb);have un:Un (Cn X.outer) [] X.H₀ H1 X.s₀.heap s2.heap:=by
  refine ⟨λ b o e n hb _=>fl.1 b o (key b o e n hb),λ b o e n hb _=>fr b o e n hb,λ b o e n _=>?_,λ b o e _=>?_,λ b xs e=>u.tups b xs (I.base.tups b xs e),λ b o xs e=>u.frzs b o xs (I.base.frzs b o xs e),λ b ps e=>?_⟩
  ·obtain ⟨o',e'⟩:=I.base.there b o e (nx b);exact u.free b o' e' (I.base.free b o e n (nx b)) (by simp)
  ·by_cases h0:X.H₀ b=none
   ·by_cases hb:b∈Cn X.outer
    ·obtain ⟨sl,e2⟩:=fr b o e h0 hb;exact ⟨_,e2⟩
    ·exact ⟨o,fl.1 b o (key b o e h0 hb)⟩
   ·obtain ⟨o',e'⟩:=I.base.there b o e (nx b);obtain ⟨o2,e2⟩:=u.there b o' e' (by simp);exact ⟨o2,Ei b o2 (hd b h0) e2⟩
  ·obtain ⟨m1,e1⟩:=I.base.tbls b ps e;obtain ⟨m2,e2⟩:=u.tbls b _ e1;exact ⟨m1++m2,by rw [e2,Vc]⟩
 refine ⟨a,C,c,H1,B,a0,rfl,hc,ho.trans I.os,hg,un,λ b o e=>?_,ha,?_,fl,λ b o e hb=>?_,key,hd,hE⟩
 ·refine (hok b o e).stay (λ d v hd q=>Ei d v ?_ q) (λ _ q=>q) λ _ _ q=>q;rcases hd with rfl | hd
  ·rw [e];simp
  ·rw [hd];simp
 ·cases q:X.s₀.heap.get? a with
  | none=>rfl
  | some o=>
   obtain ⟨o',e'⟩:=I.base.there a o q (nx a);rw [hn] at e';cases e'
 ·cases q:H1 b with
  | none=>exact absurd q hb
  | some o1=>
   obtain ⟨v,hv⟩:=N7 (hok b o1 q);have e2:=Ei b v hb hv;rw [e] at e2;cases e2;exact i1 b o hv hb
end
def JR (CX:EB) (X:Cx) (W:St->Nat->Hp->Prop):Prop:=∀ (pins:List (Addr×Obj)) (σ:St) (H:Hp) (s:Ai) (e:Ae) (s':Ai),L2.Inv X pins σ H s->CX X.stack H s (Ff (W σ)) e s'->X.xe e s'
def NM (X:Cx) (W:St->Nat->Hp->Prop):Prop:=∀ (pins:List (Addr×Obj)) (σ:St) (H:Hp) (s:Ai) (c:Nat) (C a:Addr) (h':Heap) (args:List Ae),L2.Inv X pins σ H s->Cb X.K c=some C->Heap.MadeExcOf s.heap h' a (.ref C) args->W σ c H->X.xe (.ref a) { s with heap:=h' }
abbrev W0:St->Nat->Hp->Prop:=λ _ _ _=>False
def WZ {P:A0}{w:Ay}{K:Frag}{X:Cx}:JR (AS P w K) X W0:=λ _ _ _ _ _ _ _ h=>by
 obtain ⟨a,C,c,H',B,a0,_,_,_,_,_,_,_,_,_,_,_,_,hE⟩:=h;exact Fp hE
def WE (E:XK) (H:Hp):St->Nat->Hp->Prop:=λ _ c H'=>E (.int (c:Int) 0) none H'/\∀ b,H b≠none->H' b≠none
section
variable {P:A0}{w:Ay}{K:Frag}{mg:Str->Option Ae}{base:Heap}{N:List Str}{qual:Str}{scope:Bc}{f:Addr}{cd:Ae}{A:AU}{outer:List Env}{s:Ai}{H:Hp}{E:XK}
def qf:JR (AS P w K) (Bw (AS P w K) P w K mg base N qual scope f cd A outer s H E) (WE E H):=by
 intro pins σ H1 s1 e s' I h;obtain ⟨a,C,c,H',B,a0,rfl,hc,ho,hg,un,hok,ha,hn,fl,i1,i2,hd,hE⟩:=h;have hE':WE E H σ c H':=hE;refine wpAny_leaves_onW (by exact I.ok.frames) rfl fl λ h2 f2 up=>?_;exact U5 (s2:={ s' with heap:=h2 }) I rfl un hok f2 up i1 i2 ha hn hE'.1 hE'.2 hc ho hg
def xC:NM (Bw (AS P w K) P w K mg base N qual scope f cd A outer s H E) (WE E H):=by
 intro pins σ H1 s1 c C a h' args I hc hx hW;have hin:∀ env∈(Bw (AS P w K) P w K mg base N qual scope f cd A outer s H E).stack,∀ b,env.frame=some b->b∈Cn (Bw (AS P w K) P w K mg base N qual scope f cd A outer s H E).stack:=λ env he b hb=>jg8.mpr ⟨env,he,hb⟩;have Ei:∀ b,H1 b≠none->∃ o,s1.heap.get? b=some o:=λ b hb=>by
  cases q:H1 b with
  | none=>exact absurd q hb
  | some u=>exact N7 (I.hok b u q)
 have nfr:∀ b,H1 b≠none->b∉Cn (Bw (AS P w K) P w K mg base N qual scope f cd A outer s H E).stack:=λ b hb z=>hb (I.stkFree b z);refine wpAny_leaves_madeW (base:=PySem.W.hideAll s1.heap (Cn (Bw (AS P w K) P w K mg base N qual scope f cd A outer s H E).stack)) (h:=s1.heap) (by exact I.ok.frames) rfl (λ b o q=>PySem.W.of_hideAll _ q) (PySem.W.funFrames_hide I.stack hin) hx λ h2 t f2 _ _ up=>?_;refine U5 (s2:={ s1 with heap:=h2 }) I rfl (Un.kept hx.keeps) (I.hok.kept hx.keeps) f2 up (λ b o e hb=>?_) (λ b o e _ hb=>O4 _ e hb) ?_ hx.new hW.1 hW.2 hc rfl I.bare
 ·obtain ⟨o1,e1⟩:=Ei b hb;have e2:=hx.keeps b o1 e1;rw [e] at e2;cases e2;exact O4 _ e1 (nfr b hb)
 ·cases q:H1 a with
  | none=>rfl
  | some u=>
   obtain ⟨o,e⟩:=N7 (I.hok a u q);rw [hx.new] at e;cases e
def YI:Jc (Ap P w) (Bw (AS P w K) P w K mg base N qual scope f cd A outer s H E).A (Bw (AS P w K) P w K mg base N qual scope f cd A outer s H E).env (Bw (AS P w K) P w K mg base N qual scope f cd A outer s H E).xe:=PassesOwn.leaving
end
section
variable {X:Cx}{CX:EB}{k:Nat}{f:Addr}{fd:CJ}{ps:List Str}{sp:Sp}{x:Str}{p pos:Pos}{e:Expr}{es:List Expr}{t:TA}{W:St->Nat->Hp->Prop}
def Tv (sp:Sp) (W:St->Nat->Hp->Prop) (t:TA):TE:=λ σ H Q=>t σ H λ vs H1=>sp vs H1 Q (Ff (W σ))
theorem qg (F:FnOk X.prog X.w X.K X.mg X.base CX k f fd ps sp) (hr:Room k X.A) (hg:Gl X x) (hm:X.mg x=some (.ref f)) (hk:HN X.K (.ref f)=true) (hb:zfp X.K fd ps []) (hx:JR CX X W) (ha:PA X (e::es) t) (hdb:(x == ("__debug__" : Str))=false)
  (he:A6 (e::es) X.env=(false,eval e X.env)::A6 es X.env) (hpl:(Dp pos (A6 es X.env)).any (·.1)=false):PE X (.Call (.Name x p) (e::es) [] pos) (Tv sp W t):=by
 intro pins s σ H Q I h;refine O3 (L4 I hg hm ?_ hdb);refine PySem.W.callWith_K (h₀:=X.base) I.ok.mod.kin hk (Av (ha pos pins s σ H _ I h) λ us s1 ⟨vs,H1,I1,r,q⟩=>⟨I1.kIn,?_⟩) he hpl;have q':sp vs H1 Q (Ff (W σ)):=q;have hl:(us++[]).length=ps.length:=by rw [Io,<- r.length];exact F.len _ _ _ _ q'
 have hbd:=hb s1 us I1.kIn hl;rw [Io] at hbd;refine wpAny_call (Ke (F.run X.A X.stack s1 H1 ⟨us,[]⟩ us vs Q (Ff (W σ)) hr I1.env0 hbd r q') λ r s' hq=>?_);cases r with
 | error e=>exact hx pins σ H1 s1 e s' I1 hq
 | ok fl=>
  cases fl with
  | ret u=>exact I1.after hq
  | next=>exact Fp hq
  | brk=>exact Fp hq
  | cont=>exact Fp hq
end
def CM (cells:List (Str×Addr)):List (Str×CS)->List (Str×Addr)->List (Str×Addr)
 | [],cs=>cs
 | (n,k)::r,cs=>if k == .free then CM cells r ((n,(cells.lookup n).getD 0)::cs) else CM cells r cs
def QH {scope:Bc}{env:Env} (h:∀ x∈scope.names,x.2=.free->∃ c,env.cells.lookup x.1=some c):closureFor scope env=pure (CM env.cells scope.names []):=by
 unfold closureFor;have all:∀ (l:List (Str×CS)) (cs:List (Str×Addr)),(∀ x∈l,x.2=.free->∃ c,env.cells.lookup x.1=some c) ->
   (forIn l cs λ (x:Str×CS) (cs:List (Str×Addr))=>if (x.2 == NameKind.free)=true then (do let a<-cellOf env x.1;pure (ForInStep.yield ((x.1,a)::cs))) else pure (ForInStep.yield cs):Sem (List (Str×Addr)))=pure (CM env.cells l cs):=by
  intro l;induction l with
  | nil=>intro cs _;rfl
  | cons x r ih=>
   intro cs hl;obtain ⟨n,k⟩:=x;rw [UO];have ih':=λ cs=>ih cs λ y hy=>hl y (AQ _ hy);by_cases hk:(k == NameKind.free)=true
   ·obtain ⟨c,hc⟩:=hl (n,k) Bf (by simpa using hk);have e1:cellOf env n=pure c:=by unfold cellOf;rw [hc]
    rw [if_pos hk,e1];simp only [pure_bind];rw [ih',CM,if_pos hk,hc];rfl
   ·rw [if_neg hk];simp only [pure_bind];rw [ih',CM,if_neg hk]
 have:=all scope.names [] h
 simp only [bind_pure] at this ⊢;exact this
theorem FI (cells:List (Str×Addr)) (x:Str) (c:Addr):∀ (l:List (Str×CS)) (cs:List (Str×Addr)),(∀ y∈l,y.2=.free->∃ c,cells.lookup y.1=some c)->(cs.lookup x=some c->cells.lookup x=some c)->(CM cells l cs).lookup x=some c->cells.lookup x=some c
 | [],cs,_,h,e=>h e
 | (n,k)::r,cs,hl,h,e=>by
  unfold CM at e;split at e
  ·rename_i hk;refine FI cells x c r _ (λ y hy=>hl y (AQ _ hy)) (λ e'=>?_) e;rw [Eo] at e';split at e'
   ·rename_i hx;obtain ⟨c',hc⟩:=hl (n,k) Bf (by simpa using hk);rw [hc] at e';cases e';rw [eq_of_beq hx];exact hc
   ·exact h e'
  ·exact FI cells x c r cs (λ y hy=>hl y (AQ _ hy)) h e
theorem N9 (cells:List (Str×Addr)) (x:Str):∀ (l:List (Str×CS)) (cs:List (Str×Addr)),(∃ c,cs.lookup x=some c)->∃ c,(CM cells l cs).lookup x=some c
 | [],cs,h=>h
 | (n,k)::r,cs,h=>by
  unfold CM;split
  ·refine N9 cells x r _ ?_;rw [Eo];split
   ·exact ⟨_,rfl⟩
   ·exact h
  ·exact N9 cells x r cs h
theorem NI (cells:List (Str×Addr)) (x:Str):∀ (l:List (Str×CS)) (cs:List (Str×Addr)),(x,NameKind.free)∈l->∃ c,(CM cells l cs).lookup x=some c
 | [],_,h=>nomatch h
 | (n,k)::r,cs,h=>by
  unfold CM;rcases jb2.mp h with e | e
  ·cases e;rw [if_pos (show (NameKind.free == NameKind.free)=true by decide)];exact N9 cells x r _ ⟨_,by rw [Eo,beq_self_eq_true]⟩
  ·split
   ·exact NI cells x r _ e
   ·exact NI cells x r cs e
theorem NH:∀ (names:List (Str×CS)) (n:Nat) (acc:List (Str×Addr)) (x:Str) (c:Addr),(CK n names acc).lookup x=some c->acc.lookup x=some c\/(n<=c/\(x,NameKind.cell)∈names)
 | [],n,acc,x,c,h=>.inl h
 | (m,k)::r,n,acc,x,c,h=>by
  unfold CK at h;split at h
  ·rename_i hk;have hk':k=.cell:=by simpa using hk
   rcases NH r _ _ x c h with z | ⟨z,y⟩
   ·rw [Eo] at z;split at z
    ·rename_i hx;cases z;exact .inr ⟨A7 _,by rw [eq_of_beq hx,hk'];exact Bf⟩
    ·exact .inl z
   ·exact .inr ⟨Hk z,AQ _ y⟩
  ·rcases NH r _ _ x c h with z | ⟨z,y⟩
   ·exact .inl z
   ·exact .inr ⟨z,AQ _ y⟩
theorem Lv:∀ (names:List (Str×CS)) (n:Nat) (acc:List (Str×Addr)) (x:Str),(x,NameKind.cell)∉names->(CK n names acc).lookup x=acc.lookup x
 | [],n,acc,x,h=>rfl
 | (m,k)::r,n,acc,x,h=>by
  unfold CK;split
  ·rename_i hk;have hk':k=.cell:=by simpa using hk
   rw [Lv r _ _ x λ z=>h (AQ _ z),Eo];split
   ·rename_i hx;exact absurd (by rw [eq_of_beq hx,hk'];exact Bf) h
   ·rfl
  ·exact Lv r _ _ x λ z=>h (AQ _ z)
theorem M7:∀ (names:List (Str×CS)) (n:Nat) (acc:List (Str×Addr)) (x:Str),(x,NameKind.cell)∈names->∃ c,(CK n names acc).lookup x=some c/\n<=c
 | [],n,acc,x,h=>nomatch h
 | (m,k)::r,n,acc,x,h=>by
  by_cases hr:(x,NameKind.cell)∈r
  ·unfold CK;split
   ·obtain ⟨c,e,l⟩:=M7 r (n + 1) ((m,n)::acc) x hr;exact ⟨c,e,Hk l⟩
   ·exact M7 r n acc x hr
  ·rcases jb2.mp h with e | e
   ·cases e;unfold CK;rw [if_pos (by decide),Lv r _ _ _ hr,Eo,beq_self_eq_true];exact ⟨n,rfl,A7 _⟩
   ·exact absurd e hr
theorem Pa:∀ (names:List (Str×CS)) (n:Nat) (acc:List (Str×Addr)),(∀ x y c,acc.lookup x=some c->acc.lookup y=some c->x=y)->(∀ x c,acc.lookup x=some c->c < n)->∀ x y c,(CK n names acc).lookup x=some c->(CK n names acc).lookup y=some c->x=y
 | [],n,acc,hi,_,x,y,c,h1,h2=>hi x y c h1 h2
 | (m,k)::r,n,acc,hi,hl,x,y,c,h1,h2=>by
  unfold CK at h1 h2;split at h1
  ·rename_i hk;rw [if_pos hk] at h2;refine Pa r (n + 1) ((m,n)::acc) (λ x y c h1 h2=>?_) (λ x c h=>?_) x y c h1 h2
   ·rw [Eo] at h1 h2;split at h1
    ·rename_i e1;cases h1;split at h2
     ·rename_i e2;rw [eq_of_beq e1,eq_of_beq e2]
     ·exact absurd (hl y _ h2) (E9 _)
    ·split at h2
     ·cases h2;exact absurd (hl x _ h1) (E9 _)
     ·exact hi x y c h1 h2
   ·rw [Eo] at h;split at h
    ·cases h;exact Fv _
    ·exact Ip (hl x c h)
  ·rename_i hk;rw [if_neg hk] at h2;exact Pa r n acc hi hl x y c h1 h2
theorem NZ:∀ (names:List (Str×CS)) (h:Heap) (acc:List (Str×Addr)) (x:Str) (c:Addr),(CK h.objs.size names acc).lookup x=some c->acc.lookup x=some c\/(pushCells h names).IsCell c none
 | [],h,acc,x,c,e=>.inl e
 | (m,k)::r,h,acc,x,c,e=>by
  unfold CK at e;unfold pushCells;split at e
  ·rename_i hk;rw [if_pos hk];have hs:(h.push { cls:=.type "cell",data:=.cell none }).objs.size=h.objs.size + 1:=FV ..;have e':(CK (h.push { cls:=.type "cell",data:=.cell none }).objs.size r ((m,h.objs.size)::acc)).lookup x=some c:=by rw [hs];exact e
   rcases NZ r _ _ x c e' with z | z
   ·rw [Eo] at z;split at z
    ·cases z;exact .inr ⟨_,Ot _ _ _ _ (Df _ rfl),rfl⟩
    ·exact .inl z
   ·exact .inr z
  ·rename_i hk;rw [if_neg hk];exact NZ r h acc x c e
def Vx {M:Model}{A:AU}{E:Ae->Ai->Prop}{s:Ai}{scope:Bc}{globals:Addr}{cl:List (Str×Addr)}{qual:Str}{func:Option Addr}{code:Ae}{around:Env}{builtins:Addr}{Q:Env->Ai->Prop}
  (hQ:Q (newEnv scope s.heap.objs.size globals (CK (s.heap.objs.size + 1) scope.names cl) qual func code (some around) builtins) { s with heap:=pushCells (s.heap.push { cls:=.type "dict",data:=.dict #[] }) scope.names }):
  An M A (Om scope globals cl [] qual func code (some around) builtins) Q E s:=by
 simp only [Om,UZ,if_true];refine Ax (wpAny_alloc ?_);refine Ax (wpAny_layCells _ (λ name kind cells=>by cases hkc:kind == NameKind.cell <;> simp [hkc]) _ _ _ _ ?_);rw [show ({ s with heap:=s.heap.push { cls:=.type "dict",data:=.dict #[] } }:Ai).heap.objs.size=s.heap.objs.size + 1 from FV ..];exact Ax (AE (AE hQ))
def JY (X:Cx) (scope:Bc) (C:Addr):List (Str×Addr):=CK (C + 1) scope.names (CM X.env.cells scope.names [])
def Bj (X:Cx) (s2:Ai) (H2:Hp) (scope:Bc) (C:Addr) (N':List Str) (fp:List Addr) (pins:List (Addr×Obj)):Cx:=
 { X with N:=N',s₀:=s2,H₀:=H2,env:=compEnvC scope (JY X scope C) C X.env,outer:=X.stack,stack:=X.stack,ex:=fp,fn:=λ x=>scope.names.contains (x,NameKind.cell),pn:=X.pn++pins,xe:=λ _ _=>False }
structure CompOk (X:Cx) (scope:Bc) (N':List Str) (k:Nat):Prop where
 kind:scope.kind=.function
 dis:∀ x,(x,NameKind.free)∈scope.names->(x,NameKind.cell)∉scope.names
 names:∀ x∈scope.names,x.2=.local->scope.names.lookup x.1=some .local
 len:N'.length=X.N.length + k
 free:∀ x∈scope.names,x.2=.free->X.env.kindOf x.1=some .cell\/X.env.kindOf x.1=some .free
 kinds:∀ x,(He scope X.env).names.lookup x=some .cell\/(He scope X.env).names.lookup x=some .free->(x,NameKind.free)∈scope.names\/(x,NameKind.cell)∈scope.names
 capt:∀ (i:Nat) (x:Str),i < X.N.length->N'[i]?=some x->GC (He scope X.env) x->X.N[i]?=some x/\GC X.env.scope x/\(x,NameKind.free)∈scope.names/\(He scope X.env).names.lookup x≠some .local
section
variable {X:Cx}{scope:Bc}{N':List Str}{k:Nat}{pins:List (Addr×Obj)}{σ:St}{H2:Hp}{s2:Ai}{fp:List Addr}{C:Addr}
def CompOk.cells (c:CompOk X scope N' k) (I:Inv X pins σ H2 s2):∀ x∈scope.names,x.2=.free->∃ a,X.env.cells.lookup x.1=some a:=λ x hx hf=>I.ok.has x.1 (c.free x hx hf)
def CompOk.cl (c:CompOk X scope N' k) (I:Inv X pins σ H2 s2) {x:Str}{a:Addr} (h:(JY X scope C).lookup x=some a):X.env.cells.lookup x=some a\/(C + 1<=a/\(x,NameKind.cell)∈scope.names):=
 (NH _ _ _ x a h).imp (λ z=>FI _ x a _ [] (c.cells I) (λ z=>nomatch z) z) id
def CompOk.old (c:CompOk X scope N' k) (I:Inv X pins σ H2 s2) {x:Str}{a:Addr} (h:X.env.cells.lookup x=some a):a < s2.heap.objs.size:=by
 obtain ⟨v,o,ho,_⟩:=I.cell x a h;exact AJ ho
def CompOk.cap (c:CompOk X scope N' k) {x:Str} (h:(x,NameKind.free)∈scope.names):∃ a,(JY X scope C).lookup x=some a/\(CM X.env.cells scope.names []).lookup x=some a:=by
 obtain ⟨a,ha⟩:=NI X.env.cells x scope.names [] h;exact ⟨a,(Lv _ _ _ x (c.dis x h)).trans ha,ha⟩
def CompOk.ok (c:CompOk X scope N' k) (I:Inv X pins σ H2 s2) (hf:∀ b∈fp,BX X pins H2 b) (hC:s2.heap.objs.size<=C) (hfp:∀ b∈fp,b < s2.heap.objs.size):(Bj X s2 H2 scope C N' fp pins).Ok where
 mod:=I.ok.mod
 kind:=c.kind
 glob:=I.ok.glob
 blt:=I.ok.blt
 above:=hC
 inj:=λ x y a h1 h2=>Pa scope.names (C + 1) _ (λ x y a h1 h2=>I.ok.inj x y a (FI _ x a _ [] (c.cells I) (λ z=>nomatch z) h1) (FI _ y a _ [] (c.cells I) (λ z=>nomatch z) h2))
  (λ x a h=>Ip (Bv (c.old I (FI _ x a _ [] (c.cells I) (λ z=>nomatch z) h)) hC)) x y a h1 h2
 has:=λ x hx=>(c.kinds x hx).elim (λ z=>let ⟨a,h,_⟩:=c.cap (C:=C) z;⟨a,h⟩) λ z=>let ⟨a,h,_⟩:=M7 scope.names (C + 1) (CM X.env.cells scope.names []) x z;⟨a,h⟩
 cab:=λ x a h e=>by
  have hx:(x,NameKind.cell)∈scope.names:=by
   have h':scope.names.contains (x,NameKind.cell)=true:=h;simpa using h'
  obtain ⟨a',e',l⟩:=M7 scope.names (C + 1) (CM X.env.cells scope.names []) x hx;have e2:(CK (C + 1) scope.names (CM X.env.cells scope.names [])).lookup x=some a:=e;rw [e'] at e2;cases e2;exact Cg hC (Hk l)
 hd:=I.ok.hd
 frames:=I.ok.frames
 stk:=.inl rfl
 exf:=λ b hb=>⟨Bz (Bv (hfp b hb) hC),λ x a h=>(c.cl I h).elim (λ z=>(hf b hb).2.2.2.2.1 x a z) λ z=>Ft (Bv (hfp b hb) (Cg hC (Hk z.1)))⟩
 bs:=I.bs
 bsz:=Cg I.ok.bsz I.sz
 noex:=λ b o e hb=>by
  rcases (hf b hb).2.2.2.1 with z | z
  ·exact I.ok.noex b o e z
  ·exact absurd (Bv (AJ e) (Cg I.ok.bsz z)) (E9 _)
 exfs:=λ b hb hz=>by
  rcases jb2.mp (I.stkSub b hz) with z | z
  ·exact (hf b hb).2.1 z
  ·exact (hf b hb).2.2.1 z
 funs:=I.stack
 frf:=I.stkFree
def CompOk.inv (c:CompOk X scope N' k) (I:Inv X pins σ H2 s2) (hf:∀ b∈fp,BX X pins H2 b) (hfp:∀ b∈fp,b < s2.heap.objs.size) {H3:Hp}{h':Heap}{t':Nat}{m:Str->Option Ae}{D:Addr} (hCD:D≠C) (hD:s2.heap.objs.size<=D) (hC:s2.heap.objs.size<=C)
  (keep:∀ b o,s2.heap.get? b=some o->h'.get? b=some o) (ns:h'.Ns C m) (hH:∀ b,b≠D->H3 b=H2 b) (hok:HOk X.prog X.w H3 h') (hC3:H3 C=none) (hDC:D < C) (hcN:∀ x a,(JY X scope C).lookup x=some a->C + 1<=a->h'.IsCell a none):
  Inv (Bj X s2 H2 scope C N' fp pins) [] (σ++AK k none) H3 { s2 with heap:=h',toks:=t' } where
 ok:=c.ok I hf hC hfp
 os:=rfl
 bare:=I.bare
 base:=by
  have nD:∀ b o,s2.heap.get? b=some o->b≠D:=λ b o e=>Bz (Bv (AJ e) hD);refine ⟨λ b o e _ _ _=>keep b o e,λ b o e _ _ _=>⟨o.slots,keep b o e⟩,λ b o e n _=>by rw [hH b (nD b o e)];exact n,λ b o e _=>⟨o,keep b o e⟩,λ b xs e=>?_,λ b o u e=>?_,λ b ps e=>⟨#[],?_⟩⟩
  ·have e:H2 b=some (.tup xs):=e;rw [hH b (λ z=>by rw [z,I.hok.fresh hD] at e;cases e)];exact e
  ·have e:H2 b=some (.frz o u):=e;rw [hH b (λ z=>by rw [z,I.hok.fresh hD] at e;cases e)];exact e
  ·have e:H2 b=some (.tbl ps):=e;rw [hH b (λ z=>by rw [z,I.hok.fresh hD] at e;cases e)];simpa using e
 loc:=by
  refine ⟨m,ns,λ i x v e1 e2 e3=>?_⟩;have hi:i < σ.length:=by
   by_cases hi:i < σ.length
   ·exact hi
   ·rw [Ep (by omega),Iy] at e2;split at e2 <;> cases e2
  rw [CF hi] at e2;obtain ⟨n1,n2,n3,n4⟩:=c.capt i x (by rw [<- I.len];exact hi) e1 e3;obtain ⟨m0,ns0,hl⟩:=I.loc;obtain ⟨u,r,lk⟩:=hl i x v n1 e2 n2;refine ⟨u,r,.inr ⟨?_,?_⟩⟩
  ·rcases e3 with z | z | z
   ·exact absurd z n4
   ·exact .inl z
   ·exact .inr z
  ·obtain ⟨a,ha,hb⟩:=c.cap (C:=C) n3;have ha':=FI _ x a _ [] (c.cells I) (λ z=>nomatch z) hb;refine ⟨a,ha,?_⟩;rcases lk with ⟨hk,_⟩ | ⟨hk,a2,ha2,hc⟩
   ·rcases c.free _ n3 rfl with z | z <;> rw [hk] at z <;> cases z
   ·rw [ha'] at ha2;cases ha2;obtain ⟨o,ho,hd⟩:=hc;exact ⟨o,keep _ _ ho,hd⟩
 cell:=λ x a h=>by
  rcases c.cl I h with z | z
  ·obtain ⟨v,o,ho,hd⟩:=I.cell x a z;exact ⟨v,o,keep _ _ ho,hd⟩
  ·exact ⟨none,hcN x a h z.1⟩
 free:=hC3
 freeC:=λ x a h=>by
  rcases c.cl I h with ha | z
  ·obtain ⟨v,o,ho,hd⟩:=I.cell x a ha;rw [hH a (Bz (Bv (AJ ho) hD))];exact I.freeC x a ha
  ·rw [hH a (Ft (Bv hDC (Hk z.1)))];exact I.hok.fresh (Cg hC (Hk z.1))
 pin:=λ p hp=>by
  have hp':p∈X.pn++pins:=by simpa [Bj] using hp
  obtain ⟨e,n,ne,nf,d⟩:=I.pin p hp';have hlt:=AJ e;exact ⟨keep _ _ e,by rw [hH p.1 (Bz (Bv hlt hD))];exact n,Bz (Bv hlt hC),λ z=>(jb2.mp (I.stkSub p.1 z)).elim ne nf,d⟩
 hok:=hok
 len:=by
  show (σ++AK k none).length=N'.length;rw [AV,Ju,c.len,I.len]
def GD (X:Cx) (ifs:List Expr) (t:TT):Prop:=
 ∀ (pins:List (Addr×Obj)) (s:Ai) (σ:St) (H:Hp) (Q:Bool->Hp->Prop),Inv X pins σ H s->t σ H Q ->
  An (Ap X.prog X.w) X.A (forIn ifs true λ c r=>if r=true then do let ok<-isTrue c X.env (eval c X.env);pure (ForInStep.yield ok) else pure (ForInStep.yield r)) (TP X pins σ Q) X.xe s
def Z1 {X:Cx}:GD X [] (λ _ H Q=>Q true H):=λ _ _ _ H _ I h=>AE ⟨H,I,h⟩
def Z2 {X:Cx}{c:Expr}{t:TT} (hc:PT X c t):GD X [c] t:=by
 intro pins s σ H Q I h;rw [UO];refine Ax ?_;rw [if_pos rfl];refine Ax (Av (hc pins s σ H Q I h) λ b s1 q=>AE ?_);exact AE q
def CompOk.again (c:CompOk X scope N' k) (I:Inv X pins σ H2 s2) {σ':St}{H':Hp}{s':Ai}{ps:List (Addr×Obj)} (hfp:∀ b∈fp,BX X pins H2 b) (J:Inv (Bj X s2 H2 scope C N' fp pins) ps σ' H' s'):Inv (Bj X s2 H2 scope C N' fp pins) ps (σ++AK k none) H' s' where
 ok:=J.ok
 os:=J.os
 bare:=J.bare
 base:=J.base
 loc:=by
  obtain ⟨m,ns,_⟩:=J.loc;refine ⟨m,ns,λ i x v e1 e2 e3=>?_⟩;have hi:i < σ.length:=by
   by_cases hi:i < σ.length
   ·exact hi
   ·rw [Ep (by omega),Iy] at e2;split at e2 <;> cases e2
  rw [CF hi] at e2;obtain ⟨n1,n2,n3,n4⟩:=c.capt i x (by rw [<- I.len];exact hi) e1 e3;obtain ⟨m0,ns0,hl⟩:=I.loc;obtain ⟨u,r,lk⟩:=hl i x v n1 e2 n2;refine ⟨u,r,.inr ⟨?_,?_⟩⟩
  ·rcases e3 with z | z | z
   ·exact absurd z n4
   ·exact .inl z
   ·exact .inr z
  ·obtain ⟨a,ha,hb⟩:=c.cap (C:=C) n3;have ha':=FI _ x a _ [] (c.cells I) (λ z=>nomatch z) hb;refine ⟨a,ha,?_⟩;rcases lk with ⟨hk,_⟩ | ⟨hk,a2,ha2,hc⟩
   ·rcases c.free _ n3 rfl with z | z <;> rw [hk] at z <;> cases z
   ·rw [ha'] at ha2;cases ha2;obtain ⟨o,ho,hd⟩:=hc;obtain ⟨sl,ho'⟩:=J.base.any (b:=a) (ob:=o) ho (I.freeC x a ha') λ z=>(hfp a z).2.2.2.2.1 x a ha' rfl;exact ⟨_,ho',hd⟩
 cell:=J.cell
 free:=J.free
 freeC:=J.freeC
 pin:=J.pin
 hok:=J.hok
 len:=by
  show (σ++AK k none).length=N'.length;rw [AV,Ju,c.len,I.len]
theorem Vu {prog:A0}{w:Ay}{A:AU}{R:Result->Ai->Prop}{s:Ai}{elt target iter:Expr}{ifs:List Expr}{scope:Bc}{pos:Pos}{it acc:Ae}{env:Env} (I:Nat->Ai->Prop)
  (turn:∀ n s,I n s->An (Ap prog w) A (pyNext it) (λ r s₁=>match r with
   | none=>R (.ok .next) s₁
   | some v=>An (Ap prog w) A (LZ target it v) (λ _ s₁'=>An (Ap prog w) A (FP target env v) (λ _ s₂=>
     An (Ap prog w) A (forIn ifs true λ c r=>if r=true then do let ok<-isTrue c env (eval c env);pure (ForInStep.yield ok) else pure (ForInStep.yield r)) (λ ok s₃=>
      if ok=true then An (Ap prog w) A (eval elt env) (λ x s₄=>
       An (Ap prog w) A (call (.builtin "list.append") [acc,x]) (λ _ s₅=>∃ m,m < n/\I m s₅) (λ _ _=>False) s₄) (λ _ _=>False) s₃
      else ∃ m,m < n/\I m s₃) (λ _ _=>False) s₂) (λ _ _=>False) s₁') (λ _ _=>False) s₁) (λ _ _=>False) s)
  (n:Nat) (h:I n s):
  FR (Ap prog w) A (.compLoop (.ListComp elt [⟨target,iter,ifs,0⟩] scope pos) 0 it acc env) R s:=by
 refine codeAny_loop rfl I (λ n s hI=>?_) n h;show An _ A ((compTurn (.ListComp elt [⟨target,iter,ifs,0⟩] scope pos) 0 it acc env).onRaise (λ x=>do noteFrame x env;theTreesLotGoes x)) _ _ s;refine wpAny_noted ?_;rw [compTurn_list];refine Ax (wpAny_standAt (Ax (Ef (turn n s hI) (λ r s₁ h₁=>?_) λ _ _ h'=>h'.elim)));cases r with
 | none=>exact AE h₁
 | some v=>
  refine Ax (Ef h₁ (λ _ s₁' h₁'=>?_) λ _ _ h'=>h'.elim);refine Ax (Ef h₁' (λ _ s₂ h₂=>Ax (Ef h₂ (λ ok s₃ h₃=>?_) λ _ _ h'=>h'.elim)) λ _ _ h'=>h'.elim);cases ok with
  | false=>exact AE ⟨rfl,h₃⟩
  | true=>
   exact Ax (Ax (Ef h₃ (λ x s₄ h₄=>Ax (Ef h₄ (λ _ s₅ h₅=>AE (AE ⟨rfl,h₅⟩)) λ _ _ h'=>h'.elim)) λ _ _ h'=>h'.elim))
def RC {elt iter tg:Expr}{ifs:List Expr}{pos:Pos}{J:It}{it:Addr}{tn:Nat->Heap->Prop}{g:TG}{tc:TT}{te:TE}{RR:Ae->Addr->Result->Ai->Prop}{Q:VK}{E:Ae->Ai->Prop}
  (c:CompOk X scope N' k) (hcalm:X.calm=true) (I:Inv X pins σ H2 s2) (T:Turn X.prog X.w X.K tg J fp it tn) (st:tn 0 s2.heap) (hf:∀ b∈fp,BX X pins H2 b)
  (hg:∀ C fp,PG (Bj X s2 H2 scope C N' fp pins) tg g) (hc:∀ C fp,GD (Bj X s2 H2 scope C N' fp pins) ifs tc) (he:∀ C fp,PE (Bj X s2 H2 scope C N' fp pins) elt te)
  (h:∀ D,H2 D=none->∃ W:Nat->Nat->List V->Hp->Prop,(∃ m,W 0 m [] (As H2 D (.lst [])))/\∀ i m ys H,W i m ys H->H D=some (.lst ys) /\
   ((J.stop i H/\Q (.ref D) H)\/(J.go i H/\∀ x H',J.yld i H x H'->g x (σ++AK k none) H' λ σ2 H2=>tc σ2 H2 λ b H3=>if b=true then te σ2 H3 λ y H4=>H4 D=some (.lst ys)/\ys.length < Am/\∃ m',m' < m/\W (i + 1) m' (ys++[y]) (As H4 D (.lst (ys++[y]))) else ∃ m',m' < m/\W (i + 1) m' ys H3)))
  (hRR:∀ D C σ' H' s',s2.heap.objs.size<=C->Inv (Bj X s2 H2 scope C N' fp pins) [] σ' H' s'->Q (.ref D) H'->RR (.ref D) C (.ok .next) s')
  :
  An (Ap X.prog X.w) X.A (newList []) (λ acc s₃=>An (Ap X.prog X.w) X.A (Om scope X.env.globals (CM X.env.cells scope.names []) [] X.env.qual none .none (some X.env)) (λ cenv s₄=>
   FR (Ap X.prog X.w) X.A (.compStart (.ListComp elt [⟨tg,iter,ifs,0⟩] scope pos) 0 (.ref it) acc { cenv with scope:=He scope X.env }) (RR acc cenv.locals) s₄) E s₃) E s2:=by
 refine Kj (Vx ?_);dsimp only;generalize hH2:s2.heap.push { cls:=.type "list",dict:=none,data:=.seq ([]:List Ae).toArray }=HP;obtain ⟨h₁,hh₁⟩:∃ h₁,h₁=pushCells (HP.push { cls:=.type "dict",data:=.dict #[] }) scope.names:=⟨_,rfl⟩
 rw [<- hh₁];have kk:∀ b o,HP.get? b=some o->h₁.get? b=some o:=λ b o e=>by rw [hh₁];exact Ot _ _ b o (BZ _ e)
 have hns₁:h₁.Ns HP.objs.size (λ _=>none):=by rw [hh₁];exact (Heap.Ns.new HP (.type "dict")).keeps (Ot _ _)
 have hC:HP.objs.size=s2.heap.objs.size + 1:=by rw [<- hH2,FV]
 have hDC:s2.heap.objs.size≠HP.objs.size:=by rw [hC];exact Bz (Fv _)
 have hCle:s2.heap.objs.size<=HP.objs.size:=by rw [hC];exact ML _
 have hfp:∀ b∈fp,b < s2.heap.objs.size:=λ b hb=>by
  obtain ⟨o,e,_⟩:=T.obj 0 _ st b hb;exact AJ e
 have below:∀ b,b < s2.heap.objs.size->b≠HP.objs.size:=λ b hb=>by rw [hC];exact Bz (Ip hb)
 have old:∀ b o,s2.heap.get? b=some o->h₁.get? b=some o:=λ b o e=>kk b o (hH2 ▸ BZ _ e);have hacc:h₁.get? s2.heap.objs.size=some { cls:=.type "list",dict:=none,data:=.seq ([]:List Ae).toArray }:=kk _ _ (hH2 ▸ Df _ rfl);have fD:H2 s2.heap.objs.size=none:=I.hok.fresh (A7 _);obtain ⟨W,⟨m0,w0⟩,hW⟩:=h _ fD;have hok3:HOk X.prog X.w (As H2 s2.heap.objs.size (.lst [])) h₁:=I.hok.laid old (A7 _) ⟨CV _,[],0,.nil,hacc⟩;have st1:tn 0 h₁:=T.keep _ _ _ st λ b hb o e=>old b o e;have I3:Inv (Bj X s2 H2 scope HP.objs.size N' fp pins) [] (σ++AK k none) (As H2 s2.heap.objs.size (.lst [])) { s2 with heap:=h₁ }:=
  c.inv I hf hfp (t':=s2.toks) hDC (A7 _) hCle old hns₁ (λ b hb=>AN hb) hok3 (by rw [AN (BG hDC)];exact I.hok.fresh hCle) (by rw [hC];exact Fv _) (λ x a h l=>by
   have hs:(HP.push { cls:=.type "dict",data:=.dict #[] }).objs.size=HP.objs.size + 1:=FV ..;have h':(CK (HP.push { cls:=.type "dict",data:=.dict #[] }).objs.size scope.names (CM X.env.cells scope.names [])).lookup x=some a:=by rw [hs];exact h
   rcases NZ scope.names _ _ x a h' with z | z
   ·exact absurd (Bv (c.old I (FI _ x a _ [] (c.cells I) (λ z=>nomatch z) z)) (Cg hCle (Hk l))) (E9 _)
   ·rw [hh₁];exact z)
 have fx:∀ {H':Hp},(∀ b∈fp,H' b=none)->∀ b∈fp,BX (Bj X s2 H2 scope HP.objs.size N' fp pins) [] H' b:=λ hn b hb=>by
  obtain ⟨f0,f1,f2,f3,f4,f5⟩:=hf b hb;refine ⟨hn b hb,Bz (Bv (hfp b hb) hCle),λ hz=>?_,.inl hb,λ x a h=>(c.cl I h).elim (λ z=>f4 x a z) λ z=>Ft (Bv (hfp b hb) (Cg hCle (Hk z.1))),λ p hp=>f5 p (by simpa [Bj] using hp)⟩;rcases jb2.mp (I.stkSub b hz) with z | z
  ·exact f1 z
  ·exact f2 z
 have f0:∀ b∈fp,(As H2 s2.heap.objs.size (.lst [])) b=none:=λ b hb=>by rw [AN (Bz (hfp b hb))];exact (hf b hb).1
 have loop:∀ s₃:Ai,s₃={ s2 with heap:=h₁ } ->
   FR (Ap X.prog X.w) X.A (.compLoop (.ListComp elt [⟨tg,iter,ifs,0⟩] scope pos) 0 (.ref it) (.ref s2.heap.objs.size) (compEnvC scope (JY X scope HP.objs.size) HP.objs.size X.env))
    (RR (.ref s2.heap.objs.size) HP.objs.size) s₃:=by
  rintro s₃ rfl;refine Vu (λ n s'=>∃ i H' ys,Inv (Bj X s2 H2 scope HP.objs.size N' fp pins) [] (σ++AK k none) H' s'/\tn i s'.heap/\(∀ b∈fp,H' b=none)/\W i n ys H') ?_ m0 ⟨0,_,[],I3,st1,f0,w0⟩;rintro n s4 ⟨i,H4,ys,I4,st4,fr4,w4⟩;obtain ⟨hD4,hcase⟩:=hW i n ys H4 w4;rcases hcase with ⟨stop,qn⟩ | ⟨go,step⟩
  ·refine Av (T.done (Bj X s2 H2 scope HP.objs.size N' fp pins) rfl rfl rfl hcalm i [] s4 _ H4 (λ _ _=>False) I4 (fx fr4) st4 stop) λ r s5 ⟨hr,I5⟩=>?_;subst hr;exact hRR _ _ _ _ _ hCle I5 qn
  ·refine Av (T.item (Bj X s2 H2 scope HP.objs.size N' fp pins) rfl rfl rfl hcalm i [] s4 _ H4 (λ _ _=>False) I4 (fx fr4) st4 go) λ r s5 ⟨u,hr,h5⟩=>?_;subst hr;refine Av h5 λ _ s6 ⟨x,H6,I6,r6,y6,st6,fr6⟩=>?_;have I6':=I6.pinned (fx fr6) (T.obj _ _ st6);have stays:∀ {σ':St}{H':Hp}{s':Ai},Inv (Bj X s2 H2 scope HP.objs.size N' fp pins) ([]++JM fp s6.heap) σ' H' s'->Inv (Bj X s2 H2 scope HP.objs.size N' fp pins) [] (σ++AK k none) H' s'/\tn (i + 1) s'.heap/\∀ b∈fp,H' b=none:=λ {σ' H' s'} J=>by
    refine ⟨c.again I hf J.unpinned,T.keep _ _ _ st6 λ b hb o e=>(J.pin (b,o) (BI _ (BI _ (Lq hb e)))).1,λ b hb=>?_⟩;obtain ⟨o,e,d⟩:=T.obj _ _ st6 b hb;exact (J.pin (b,o) (BI _ (BI _ (Lq hb e)))).2.1
   refine Av (hg _ _ _ s6 _ H6 x u _ I6' r6 (step x H6 y6)) λ _ s7 ⟨σ7,H7,I7,q7⟩=>?_;refine Av (hc _ _ _ s7 σ7 H7 _ I7 q7) λ b s8 ⟨H8,I8,q8⟩=>?_;cases b with
   | false=>
    rw [if_neg Di] at q8 ⊢;obtain ⟨m',hm,w'⟩:=q8;obtain ⟨j1,j2,j3⟩:=stays I8;exact ⟨m',hm,i + 1,H8,ys,j1,j2,j3,w'⟩
   | true=>
    rw [if_pos rfl] at q8 ⊢;refine Av (he _ _ _ s8 σ7 H8 _ I8 q8) λ y s9 ⟨z,H9,I9,r9,hD9,hz9,m',hm,w'⟩=>?_;refine Av (Q3 (X:=Bj X s2 H2 scope HP.objs.size N' fp pins) _ s9 σ7 H9 (.ref s2.heap.objs.size) [z] (.ref s2.heap.objs.size) [y] (λ _ H'=>H'=As H9 s2.heap.objs.size (.lst (ys++[z]))) I9 rfl (.cons r9 .nil) ⟨_,ys,z,rfl,rfl,hD9,hz9,rfl⟩) λ _ s10 ⟨_,H10,I10,_,e10⟩=>?_;subst e10;obtain ⟨j1,j2,j3⟩:=stays I10;exact ⟨m',hm,i + 1,_,_,j1,j2,j3,w'⟩
 exact codeAny_compStart_list (loop _ rfl) (T.self _ 0 _ _ _ st1 (loop _ rfl))
def CompOk.out (I:Inv X pins σ H2 s2) (hf:∀ b∈fp,BX X pins H2 b) {σ':St}{H':Hp}{s':Ai} (J:Inv (Bj X s2 H2 scope C N' fp pins) [] σ' H' s'):Inv X pins σ H' s':=
 I.call' (ch:=fp) J.os J.base J.hok J.bare λ b hb=>⟨(hf b hb).2.2.2.1,(hf b hb).2.1,(hf b hb).2.2.2.2.1,(hf b hb).2.2.2.2.2⟩
def CompOk.away (I:Inv X pins σ H2 s2) (hC:s2.heap.objs.size<=C) {σ':St}{H':Hp}{s':Ai} (J:Inv X pins σ' H' s') (hC':H' C=none) {h':Heap} (sb:HL C s'.heap h'):Inv X pins σ' H' { s' with heap:=h' }:=by
 have lt:∀ b o,s2.heap.get? b=some o->b≠C:=λ b o e=>Bz (Bv (AJ e) hC);refine J.turned (t':=s'.toks) (it:=C) (λ b o hb e=>(sb.2 b hb).trans e) hC' (Ft (Bv I.lt hC)) (.inr (Cg I.sz hC)) (λ x c h=>?_) λ p hp=>?_
 ·obtain ⟨v,o,ho,_⟩:=I.cell x c h;exact lt c o ho
 ·exact lt p.1 p.2 (I.pin p hp).1
variable {elt iter tg:Expr}{ifs:List Expr}{pos:Pos}{wi:TI}{g:TG}{tc:TT}{te:TE}
def TV (c:CompOk X scope N' k) (hcalm:X.calm=true) (hi:PI X tg iter wi) (hg:∀ s2 H2 C fp pins,PG (Bj X s2 H2 scope C N' fp pins) tg g) (hc:∀ s2 H2 C fp pins,GD (Bj X s2 H2 scope C N' fp pins) ifs tc)
  (he:∀ s2 H2 C fp pins,PE (Bj X s2 H2 scope C N' fp pins) elt te) (hs:∀ x,Ma iter X.env x=pure x):PE X (.ListComp elt [⟨tg,iter,ifs,0⟩] scope pos) (HH k wi g tc te):=by
 intro pins s σ H Q I h;rw [eval_ListComp];refine wpAny_comprehension_free (use:=none) rfl hs (QH (c.cells I)) c.kind c.names ?_;refine Av (hi pins s σ H _ I h) λ v s1 h1=>Av h1 λ itv s2 h2=>?_;obtain ⟨it,fp,tn,J,H',e,I2,T,st2,f2,W⟩:=h2;subst e;refine RC (RR:=λ acc C=>compPost (Ap X.prog X.w) X.A X.xe none (EP X pins σ Q) acc C) c hcalm I2 T st2 f2 (λ C fp=>hg s2 H' C fp pins) (λ C fp=>hc s2 H' C fp pins) (λ C fp=>he s2 H' C fp pins) W λ D C σ' H3 s' hC J3 q=>?_;obtain ⟨m,ns,_⟩:=J3.loc;exact ⟨m,ns,λ h' sb=>⟨.ref D,H3,CompOk.away I2 hC (CompOk.out I2 f2 J3) J3.free sb,rfl,q⟩⟩
theorem zh {i:Nat}{x:Str}{pos' spos:Pos} (hN:X.N.Nodup) (hi':X.N[i]?=some x) (hx:DJ X.env.scope x) (hfn:X.fn x=true\/X.env.scope.names.lookup x=some .local) (c:CompOk X scope N' k) (hcalm:X.calm=true) (hi:PI X tg iter wi) (hg:∀ s2 H2 C fp pins,PG (Bj X s2 H2 scope C N' fp pins) tg g) (hc:∀ s2 H2 C fp pins,GD (Bj X s2 H2 scope C N' fp pins) ifs tc)
  (he:∀ s2 H2 C fp pins,PE (Bj X s2 H2 scope C N' fp pins) elt te) (hs:∀ x,Ma iter X.env x=pure x):PS X (.Assign [.Name x pos'] (.ListComp elt [⟨tg,iter,ifs,0⟩] scope pos) spos) (C9 (HH k wi g tc te) (E1 i)):=by
 have hsw:∃ b,swapsWith (.ListComp elt [⟨tg,iter,ifs,0⟩] scope pos) (some (.Name x pos')) spos.line X.env=pure b:=⟨_,rfl⟩
 obtain ⟨b,hsw⟩:=hsw;cases b with
 | false=>exact LD hN hi' hx (TV c hcalm hi hg hc he hs) hsw hfn
 | true=>
  intro pins s σ H D I h;rw [exec_Assign_Name_used _ _ _ _ hsw];refine Ax (wpAny_standAt (Ax ?_));show An _ X.A (do let _<-comprehension (.ListComp elt [⟨tg,iter,ifs,0⟩] scope pos) scope X.env _ (newList []) false (eval iter X.env) (some (FP (.Name x pos') X.env))) _ _ s;refine Ax (Ef (wpAny_comprehension_free (use:=some (FP (.Name x pos') X.env)) (Q:=λ _ s'=>SP X pins D .next s') rfl hs (QH (c.cells I)) c.kind c.names ?_) (λ _ s' hq=>AE (AE hq)) λ _ _ e=>e);refine Av (hi pins s σ H _ I h) λ v s1 h1=>Av h1 λ itv s2 h2=>?_;obtain ⟨it,fp,tn,J,H',e,I2,T,st2,f2,W⟩:=h2;subst e;refine RC (Q:=λ x H1=>E1 i x σ H1 D.nx) (RR:=λ acc C=>compPost (Ap X.prog X.w) X.A X.xe (some (FP (.Name x pos') X.env)) (λ _ s'=>SP X pins D .next s') acc C) c hcalm I2 T st2 f2 (λ C fp=>hg s2 H' C fp pins) (λ C fp=>hc s2 H' C fp pins) (λ C fp=>he s2 H' C fp pins) W λ E C σ' H3 s' hC J3 q=>?_;obtain ⟨m,ns,_⟩:=J3.loc;have I3:=CompOk.out I2 f2 J3;show An _ X.A (FP (.Name x pos') X.env (.ref E)) _ _ _;refine wpAny_assign_Name (QB I3 hN hi' hx (v:=.ref E) rfl (λ s'' I4 hsb=>?_) hfn);obtain ⟨a,sb,ha⟩:=hsb;have hCa:C≠a:=by
   rcases ha with z | z
   ·rw [z];exact Ft (Bv I2.lt hC)
   ·obtain ⟨v,o,ho,_⟩:=I2.cell x a z;exact Ft (Bv (AJ ho) hC)
  exact ⟨m,ns.sameBut sb hCa,λ h' sb'=>⟨_,H3,CompOk.away I2 hC I4 J3.free sb',q⟩⟩
def qG {P:A0}{w:Ay}{K:Frag}{tg:Expr} (z:Str) (tk:Tok) (it:Addr):Turn P w K tg (Vs z) [it] it (λ i h=>h.IsStrIter it "str_ascii_iterator" z tk i) where
 mem:=by simp
 obj:=λ i h st b hb=>by
  have e:b=it:=by simpa using hb
  subst e;obtain ⟨o,e,c,d⟩:=st;exact ⟨o,e,λ v z=>by rw [d] at z;cases z⟩
 keep:=λ i h h' st k=>by
  obtain ⟨o,e,r⟩:=st;exact ⟨o,k it (by simp) o e,r⟩
 item:=by
  intro X hP hw hK hc i pins s σ H E I hf st hg;subst hP hw hK;have hi:i < z.cps.size:=hg;obtain ⟨f0,f1,f2,f3,f4,f5⟩:=hf it (by simp);refine wpAny_pyNext_ascii_item st (c:=z.cps[i]) (by simp [hi]) λ h' st' sb=>?_;have I1:Inv X pins σ H { s with heap:=h',toks:=s.toks + 1 }:=I.turned (t':=s.toks + 1) (λ b o hb e=>(sb.2 b hb).trans e) f0 f1 f3 f4 f5;obtain ⟨o,e,c,d⟩:=id st';exact ⟨_,rfl,K0 (s:={ s with heap:=h',toks:=s.toks + 1 }) e c d (by decide) ⟨.str ⟨#[z.cps[i]]⟩,H,I1,⟨_,rfl⟩,⟨rfl,z.cps[i],by simp [hi],rfl⟩,st',λ b hb=>(hf b hb).1⟩⟩
 done:=by
  intro X hP hw hK hc i pins s σ H E I hf st hg;subst hP hw hK;have hi:z.cps.size<=i:=hg;obtain ⟨f0,f1,f2,f3,f4,f5⟩:=hf it (by simp);exact wpAny_pyNext_ascii_end (I.ok.hd hc) st (by simp;omega) λ h' eb=>⟨rfl,I.turned (t':=s.toks) (λ b o hb e=>eb b o hb e) f0 f1 f3 f4 f5⟩
 self:=λ _ _ _ _ _ st h=>wpAny_pyIter_striter_ascii st h
def Xe {l:Expr}{tl:TE} (hl:PE X l tl):PI X tg l (Fc X.K tl):=by
 intro pins s σ H R I h;refine Av (hl pins s σ H _ I h) λ v s1 ⟨x,H1,I1,r1,q1⟩=>?_;obtain ⟨a,e,⟨⟨xs,hq⟩,q⟩ | ⟨⟨xs,hq⟩,q⟩⟩ | ⟨z,e,ha,q⟩:=q1
 ·subst e;cases r1;obtain ⟨its,rv,p,hz⟩:=I1.list hq;refine O0 p.isList ?_;refine ⟨s1.heap.objs.size,[s1.heap.objs.size],_,_,H1,rfl,I1.kept (t':=s1.toks) λ b o e=>BZ _ e,xM a _,⟨_,Df _ rfl,rfl,rfl⟩,λ b hb=>?_,q⟩;have e:b=s1.heap.objs.size:=by simpa using hb
  subst e;exact I1.fpOk (A7 _) (I1.hok.fresh (A7 _))
 ·subst e;cases r1;obtain ⟨its,rv,p,hz⟩:=I1.tuple hq;refine wpAny_pyIter_tuple (show s1.heap.IsTuple a its.toArray from p) ?_;refine ⟨s1.heap.objs.size,[s1.heap.objs.size],_,_,H1,rfl,I1.kept (t':=s1.toks) λ b o e=>BZ _ e,zl a _,⟨_,Df _ rfl,rfl,rfl⟩,λ b hb=>?_,q⟩;have e:b=s1.heap.objs.size:=by simpa using hb
  subst e;exact I1.fpOk (A7 _) (I1.hok.fresh (A7 _))
 ·subst e;obtain ⟨tk,rfl⟩:=r1;refine wpAny_pyIter_ascii ha ?_;refine ⟨s1.heap.objs.size,[s1.heap.objs.size],_,_,H1,rfl,I1.kept (t':=s1.toks) λ b o e=>BZ _ e,qG z tk _,⟨_,Df _ rfl,rfl,rfl⟩,λ b hb=>?_,q⟩;have e:b=s1.heap.objs.size:=by simpa using hb
  subst e;exact I1.fpOk (A7 _) (I1.hok.fresh (A7 _))
end
end QQ
namespace L2
open PySem PySem.Spec PyProof.Rows
section
variable {κ:Type} [DecidableEq κ]
def AO (kvs:List (κ×V)) (k:κ):Option V:=(kvs.find? λ kv=>decide (kv.1=k)).map (·.2)
def Bq (kvs:List (κ×V)) (k:κ) (v:V):List (κ×V):=
 if (kvs.any λ kv=>decide (kv.1=k))=true then kvs.map (λ kv=>if kv.1=k then (kv.1,v) else kv) else kvs++[(k,v)]
def EI {p:κ×V}{r:List (κ×V)}{k:κ} (e:p.1=k):AO (p::r) k=some p.2:=by simp [AO,Im,e]
def EH {p:κ×V}{r:List (κ×V)}{k:κ} (e:¬ p.1=k):AO (p::r) k=AO r k:=by simp [AO,Im,e]
theorem L8 (k:κ):∀ kvs:List (κ×V),(kvs.any λ kv=>decide (kv.1=k))=(AO kvs k).isSome
 | []=>rfl
 | p::r=>by
  rw [MQ];by_cases e:p.1=k
  ·simp only [EI e,decide_eq_true e,Bool.true_or,UZ]
  ·rw [EH e,decide_eq_false e,P6];exact L8 k r
theorem Rv (k j:κ) (y:V):∀ kvs:List (κ×V),AO (kvs.map λ kv=>if kv.1=k then (kv.1,y) else kv) j=(AO kvs j).map λ x=>if j=k then y else x
 | []=>rfl
 | p::r=>by
  have ih:=Rv k j y r;rw [BQ];by_cases h:p.1=k
  ·rw [if_pos h];by_cases e:p.1=j
   ·rw [EI (p:=(p.1,y)) e,EI e,Gh,if_pos (e.symm.trans h)]
   ·rw [EH (p:=(p.1,y)) e,EH e,ih]
  ·rw [if_neg h];by_cases e:p.1=j
   ·rw [EI (p:=p) e,EI e,Gh,if_neg (λ z=>h (e.trans z))]
   ·rw [EH (p:=p) e,EH e,ih]
theorem Qv (k j:κ) (y:V):∀ kvs:List (κ×V),AO kvs k=none->AO (kvs++[(k,y)]) j=if j=k then some y else AO kvs j
 | [],_=>by
  by_cases e:k=j
  ·rw [if_pos e.symm];exact EI (p:=(k,y)) e
  ·rw [if_neg (λ z=>e z.symm)];exact EH (p:=(k,y)) e
 | p::r,hn=>by
  rw [PH];have hk:¬ p.1=k:=λ z=>by rw [EI z] at hn;cases hn
  rw [EH hk] at hn;have ih:=Qv k j y r hn;by_cases e:p.1=j
  ·rw [EI e,EI e,if_neg (λ z=>hk (e.trans z))]
  ·rw [EH e,EH e,ih]
def qI (kvs:List (κ×V)) (k j:κ) (y:V):AO (Bq kvs k y) j=if j=k then some y else AO kvs j:=by
 unfold Bq;by_cases a:(kvs.any λ kv=>decide (kv.1=k))=true
 ·rw [if_pos a,Rv];rw [L8] at a;by_cases e:j=k
  ·obtain ⟨x,hx⟩:=jh4.mp a;rw [if_pos e,e,hx,Gh,if_pos rfl]
  ·rw [if_neg e];cases AO kvs j with
   | none=>rfl
   | some x=>rw [Gh,if_neg e]
 ·rw [if_neg a];refine Qv k j y kvs ?_;rw [L8] at a;cases q:AO kvs k with
  | none=>rfl
  | some x=>rw [q] at a;exact (a rfl).elim
def Nw (kvs:List (κ×V)) (k:κ) (v:V):(Bq kvs k v).length<=kvs.length + 1:=by
 unfold Bq;split
 ·rw [A5];omega
 ·rw [AV,Ba,UN];omega
theorem RelO.isSome_eq {o:Option V}{u:Option Ae} (r:RelO o u):o.isSome=u.isSome:=by
 cases o with
 | none=>cases u with
  | none=>rfl
  | some _=>exact (show False from r).elim
 | some _=>cases u with
  | none=>exact (show False from r).elim
  | some _=>rfl
theorem KV.val {kvs:List (κ×V)}{vs:List (κ×Ae)} (r:KV kvs vs) (k:κ):RelO (AO kvs k) (valueAt vs k):=by
 unfold KV at r;induction r with
 | nil=>exact True.intro
 | @cons p q ps qs h t ih=>
  obtain ⟨h1,h2⟩:=h;by_cases e:p.1=k
  ·have e':q.1=k:=h1.symm.trans e;have b:valueAt (q::qs) k=some q.2:=by simp [valueAt,Im,e']
   rw [EI e,b];exact h2
  ·have e':¬ q.1=k:=λ z=>e (h1.trans z);have b:valueAt (q::qs) k=valueAt qs k:=by simp [valueAt,Im,e']
   rw [EH e,b];exact ih
theorem KV.any {kvs:List (κ×V)}{vs:List (κ×Ae)} (r:KV kvs vs) (k:κ):(kvs.any λ kv=>decide (kv.1=k))=vs.any λ kv=>decide (kv.1=k):=by
 unfold KV at r;induction r with
 | nil=>rfl
 | cons h t ih=>rw [MQ,MQ,ih,h.1]
theorem KV.repl {kvs:List (κ×V)}{vs:List (κ×Ae)} (r:KV kvs vs) (k:κ) {y:V}{u:Ae} (ry:RelV y u):
  KV (kvs.map λ kv=>if kv.1=k then (kv.1,y) else kv) (vs.map λ kv=>if kv.1=k then (kv.1,u) else kv):=by
 unfold KV at r ⊢;induction r with
 | nil=>exact .nil
 | @cons p q ps qs h t ih=>
  rw [BQ,BQ];refine .cons ?_ ih;obtain ⟨h1,h2⟩:=h;by_cases e:p.1=k
  ·rw [if_pos e,if_pos (h1.symm.trans e)];exact ⟨h1,ry⟩
  ·rw [if_neg e,if_neg (λ z=>e (h1.trans z))];exact ⟨h1,h2⟩
def KV.put {kvs:List (κ×V)}{vs:List (κ×Ae)} (r:KV kvs vs) (k:κ) {y:V}{u:Ae} (ry:RelV y u):KV (Bq kvs k y) (stored vs k u):=by
 unfold Bq stored;rw [r.any k];by_cases e:(vs.any λ kv=>decide (kv.1=k))=true
 ·rw [if_pos e,if_pos e];exact r.repl k ry
 ·rw [if_neg e,if_neg e];exact Paired.snoc r ⟨rfl,ry⟩
def KV.length {kvs:List (κ×V)}{vs:List (κ×Ae)} (r:KV kvs vs):kvs.length=vs.length:=Paired.length r
end
theorem M0 {P:A0}{w:Ay}{k:AG}{u:Ae} (r:RelV (kV k) u):(Dm P w).is k u=true:=by
 cases k with
 | inl i=>obtain ⟨t,e⟩:=(show ∃ t,u=Value.int i t from r);subst e;exact V5 P w i t
 | inr x=>obtain ⟨t,e⟩:=(show ∃ t,u=Value.str x t from r);subst e;exact V6 P w x t
theorem Q2 {P:A0}{w:Ay}:∀ {ks:List AG}{us:List Ae},Vals (ks.map kV) us->ItemsAre (Dm P w) ks us
 | [],_,r=>by rw [KA] at r;cases r;exact .nil
 | k::ks,_,r=>by
  rw [BQ] at r;cases r with
  | cons h t=>exact .cons (M0 h) (Q2 t)
abbrev KT (H:Hp):List (List AG×V)->List (List AG×Addr×Ae)->Prop:=Paired λ p q=>p.1=q.1/\H q.2.1=some (.tup (p.1.map kV))/\RelV p.2 q.2.2
theorem KT.val {H:Hp}{kvs:List (List AG×V)}{xs:List (List AG×Addr×Ae)} (r:KT H kvs xs) (k:List AG):RelO (AO kvs k) ((atKey xs k).map (·.2)):=by
 induction r with
 | nil=>exact True.intro
 | @cons p q ps qs h t ih=>
  obtain ⟨h1,_,h2⟩:=h;by_cases e:p.1=k
  ·have e':q.1=k:=h1.symm.trans e;have b:atKey (q::qs) k=some q.2:=by simp [atKey,Im,e']
   rw [EI e,b];exact h2
  ·have e':¬ q.1=k:=λ z=>e (h1.trans z);have b:atKey (q::qs) k=atKey qs k:=by simp [atKey,Im,e']
   rw [EH e,b];exact ih
theorem KT.repl {H:Hp}{kvs:List (List AG×V)}{xs:List (List AG×Addr×Ae)} (r:KT H kvs xs) (k:List AG) {y:V}{u:Ae} (ry:RelV y u):
  KT H (kvs.map λ kv=>if kv.1=k then (kv.1,y) else kv) (xs.map (putAt k u)):=by
 induction r with
 | nil=>exact .nil
 | @cons p q ps qs h t ih=>
  rw [BQ,BQ];refine .cons ?_ ih;obtain ⟨h1,h2,h3⟩:=h;unfold putAt;by_cases e:p.1=k
  ·rw [if_pos e,if_pos (h1.symm.trans e)];exact ⟨h1,h2,ry⟩
  ·rw [if_neg e,if_neg (λ z=>e (h1.trans z))];exact ⟨h1,h2,h3⟩
def KT.put {H:Hp}{kvs:List (List AG×V)}{xs:List (List AG×Addr×Ae)} (r:KT H kvs xs) (k:List AG) {b:Addr}{y:V}{u:Ae} (hb:H b=some (.tup (k.map kV))) (ry:RelV y u):
  KT H (Bq kvs k y) (storedH xs k b u):=by
 have e:(kvs.any λ kv=>decide (kv.1=k))=(atKey xs k).isSome:=by
  rw [L8,(r.val k).isSome_eq,PM]
 unfold Bq storedH;rw [e];by_cases q:(atKey xs k).isSome=true
 ·rw [if_pos q,if_pos q];exact r.repl k ry
 ·rw [if_neg q,if_neg q];exact Paired.snoc r ⟨rfl,hb,ry⟩
def KT.keeps {H H':Hp}{kvs:List (List AG×V)}{xs:List (List AG×Addr×Ae)} (r:KT H kvs xs) (ht:∀ b ys,H b=some (.tup ys)->H' b=some (.tup ys)):KT H' kvs xs:=
 Paired.mapP r λ _ _ z=>⟨z.1,ht _ _ z.2.1,z.2.2⟩
section
variable {P:A0}{w:Ay}{H:Hp}{h:Heap}{a:Addr}
def So {u:HO} (ok:HOk P w H h) (e:Rd H a u):zwb P w H h a u:=e.ok ok
def OP {kvs:List (AG×V)} (ok:HOk P w H h) (e:Rd H a (.dK kvs)):kvs.length<=Am/\(a == FU)=false/\∃ vs,KV kvs vs/\h.DictOf (Dm P w) a vs:=
 show zwb P w H h a (.dK kvs) from So ok e
def K3 {kvs:List (AG×V)} (ok:HOk P w H h) (e:H a=some (.dK kvs)):kvs.length<=Am/\(a == FU)=false/\∃ vs,KV kvs vs/\h.DictOf (Dm P w) a vs:=OP ok (.inl e)
def MF {ks:List AG} (ok:HOk P w H h) (e:H a=some (.tup (ks.map kV))):(Ka (Dm P w)).is h ks a:=by
 obtain ⟨_,its,r,o,h1,h2,n,h3⟩:=(show zwb P w H h a (.tup (ks.map kV)) from ok a _ e)
 exact ⟨o,its.toArray,n,h1,h2,h3,by simpa using Q2 r⟩
def OT {kvs:List (List AG×V)} (ok:HOk P w H h) (e:Rd H a (.dT kvs)):kvs.length<=Am/\(a == FU)=false /\
  ∃ xs,KT H kvs xs/\h.DictOfH (Ka (Dm P w)) a xs:=by
 obtain ⟨z,y,xs,r,o,es,ep,h1,h2,h3,h4,h5⟩:=(show zwb P w H h a (.dT kvs) from So ok e)
 refine ⟨z,y,xs,r,o,es,ep,h1,h2,h3,h4,λ x hx=>?_,h5⟩;have all:∀ {l:List (List AG×V)}{m:List (List AG×Addr×Ae)},KT H l m->∀ x∈m,(Ka (Dm P w)).is h x.1 x.2.1:=by
  intro l m q;induction q with
  | nil=>intro x hx;exact nomatch hx
  | @cons p q ps qs hq t ih=>
   intro x hx;rcases jb2.mp hx with e | hx
   ·subst e;exact MF ok (by rw [<- hq.1];exact hq.2.1)
   ·exact ih x hx
 exact all r x hx
def Wt {kvs:List (List AG×V)} (ok:HOk P w H h) (e:H a=some (.dT kvs)):kvs.length<=Am/\(a == FU)=false /\
  ∃ xs,KT H kvs xs/\h.DictOfH (Ka (Dm P w)) a xs:=OT ok (.inl e)
end
def DGet (H:Hp) (a:Addr) (y:V) (r:Option V):Prop:=
 (∃ kvs k,Rd H a (.dK kvs)/\y=kV k/\r=AO kvs k)\/∃ kvs k b,Rd H a (.dT kvs)/\y=.ref b/\H b=some (.tup (k.map kV))/\r=AO kvs k
def DPut (H:Hp) (a:Addr) (y v:V) (H':Hp):Prop:=
 (∃ kvs k,H a=some (.dK kvs)/\y=kV k/\kvs.length < Am/\H'=As H a (.dK (Bq kvs k v))) \/
 ∃ kvs k b,H a=some (.dT kvs)/\y=.ref b/\H b=some (.tup (k.map kV))/\kvs.length < Am/\H'=As H a (.dT (Bq kvs k v))
def DGet.t {H:Hp}{a b:Addr}{kvs:List (List AG×V)}{k:List AG} (e:H a=some (.dT kvs)) (eb:H b=some (.tup (k.map kV))):DGet H a (.ref b) (AO kvs k):=.inr ⟨kvs,k,b,.inl e,rfl,eb,rfl⟩
def DPut.t {H:Hp}{a b:Addr}{kvs:List (List AG×V)}{k:List AG}{v:V} (e:H a=some (.dT kvs)) (eb:H b=some (.tup (k.map kV))) (hl:kvs.length < Am):
  DPut H a (.ref b) v (As H a (.dT (Bq kvs k v))):=.inr ⟨kvs,k,b,e,rfl,eb,hl,rfl⟩
section
variable {X:Cx}{pins:List (Addr×Obj)}{σ:St}{H:Hp}{s:Ai}{a:Addr}{y v:V}{u r:Ae}{o:Option V}{A:AU}{E:Ae->Ai->Prop}
def Inv.big (I:Inv X pins σ H s):FU < s.heap.objs.size:=by
 have h:DT < s.heap.objs.size:=(I.mod.glob.keeps I.bk).lt;exact Nat.lt_trans (by decide) h
def Qi {Q:Ae->Ai->Prop} (hu:A.units + 1 < BU) (I:Inv X pins σ H s) (g:DGet H a y o) (ry:RelV y u) (h:∀ s',Inv X pins σ H s'->Q (.bool o.isSome) s'):
  An (Ap X.prog X.w) A (Cv .In u (.ref a)) Q E s:=by
 rcases g with ⟨kvs,k,e,ey,l⟩ | ⟨kvs,k,b,e,ey,eb,l⟩
 ·subst ey;obtain ⟨z,hd,vs,rel,dd⟩:=OP I.hok e;refine wpAny_in_of (M0 ry) hd dd.mapOf ?_;rw [<- (rel.val k).isSome_eq,<- l];exact h _ (I.tok _)
 ·subst ey;cases (show u=Value.ref b from ry);obtain ⟨z,hd,xs,rel,dd⟩:=OT I.hok e;refine wpAny_in_heap (O2 hu) (MF I.hok eb) hd dd ?_;have q:=(rel.val k).isSome_eq;rw [PM] at q;rw [<- q,<- l];exact h _ (I.tok _)
def Yj {Q:Ae->Ai->Prop} (hu:A.units + 1 < BU) (I:Inv X pins σ H s) (g:DGet H a y o) (ry:RelV y u) (h:∀ s',Inv X pins σ H s'->Q (.bool (!o.isSome)) s'):
  An (Ap X.prog X.w) A (Cv .NotIn u (.ref a)) Q E s:=by
 rcases g with ⟨kvs,k,e,ey,l⟩ | ⟨kvs,k,b,e,ey,eb,l⟩
 ·subst ey;obtain ⟨z,hd,vs,rel,dd⟩:=OP I.hok e;refine wpAny_notIn_of (M0 ry) hd dd.mapOf ?_;rw [<- (rel.val k).isSome_eq,<- l];exact h _ (I.tok _)
 ·subst ey;cases (show u=Value.ref b from ry);obtain ⟨z,hd,xs,rel,dd⟩:=OT I.hok e;refine wpAny_notIn_heap (O2 hu) (MF I.hok eb) hd dd ?_;have q:=(rel.val k).isSome_eq;rw [PM] at q;rw [<- q,<- l];exact h _ (I.tok _)
def TK {h':Heap}{t':Nat}{ob:HO} (I:Inv X pins σ H s) (mu:La (H a)) (hs:HL a s.heap h') (he:∃ q,h'.get? a=some q) (new:zwb X.prog X.w (As H a ob) h' a ob):
  Inv X pins σ (As H a ob) { s with heap:=h',toks:=t' }:=
 I.write (x:=a) (e:=a) mu (.inl rfl) (λ b q hb z=>(hs.2 b hb).trans z) he new
def Wz {P:A0}{w:Ay}{H':Hp}{h':Heap}{kvs:List (AG×V)}{vs:List (AG×Ae)} (z:kvs.length<=Am) (hd:(a == FU)=false) (rel:KV kvs vs) (dd:h'.DictOf (Dm P w) a vs):
  zwb P w H' h' a (.dK kvs):=⟨z,hd,vs,rel,dd⟩
def xx {H':Hp}{Q:Unit->Ai->Prop} (hu:A.units + 1 < BU) (I:Inv X pins σ H s) (g:DPut H a y v H') (ry:RelV y u) (rv:RelV v r) (h:∀ s',Inv X pins σ H' s'->Q () s'):
  An (Ap X.prog X.w) A (setItem (.ref a) u r) Q E s:=by
 rcases g with ⟨kvs,k,e,ey,l,eH⟩ | ⟨kvs,k,b,e,ey,eb,l,eH⟩
 ·subst ey eH;obtain ⟨z,hd,vs,rel,dd⟩:=K3 I.hok e;have hz:vs.length<=Am:=by rw [<- rel.length];exact z
  have hl:(Bq kvs k v).length<=Am:=by have:=Nw kvs k v;omega
  refine wpAny_setItem_pairs (hsz:=hz) (M0 ry) dd λ h' dd' hs=>h _ ?_;have he:∃ q,h'.get? a=some q:=let ⟨q,_,_,hq,_⟩:=dd';⟨q,hq⟩;exact TK I (by rw [e];exact True.intro) hs he (Wz hl hd (rel.put k rv) dd')
 ·subst ey eH;cases (show u=Value.ref b from ry);obtain ⟨z,hd,xs,rel,dd⟩:=Wt I.hok e;have hz:xs.length<=Am:=by rw [<- Paired.length rel];exact z
  have hl:(Bq kvs k v).length<=Am:=by have:=Nw kvs k v;omega
  refine wpAny_setItem_heap (hsz:=hz) (O2 hu) (MF I.hok eb) dd λ h' dd' hs=>h _ ?_;obtain ⟨q,es,ep,hq,h2,h3,h4,_,h5⟩:=dd';refine TK I (by rw [e];exact True.intro) hs ⟨q,hq⟩ ⟨hl,hd,_,(rel.put k eb rv).keeps λ c ys ec=>?_,q,es,ep,hq,h2,h3,h4,h5⟩;rw [AN (VR ec e (λ z=>nomatch z))];exact ec
end
section
variable {X:Cx}{pins:List (Addr×Obj)}{σ:St}{H:Hp}{s:Ai}{a:Addr}{kvs:List (AG×V)}{k:AG}{u:Ae}{A:AU}{E:Ae->Ai->Prop}
end
section
variable {X:Cx}{o i e value:Expr}{pos pos' tpos:Pos}{td ty tv:TE}
end
def ZU {P:A0}{w:Ay}{H:Hp} (h:Heap) (hb:FU < h.objs.size):zwb P w H (h.push { cls:=.type "dict",data:=.dict #[] }) h.objs.size (.dT []):=
 ⟨CV _,beq_eq_false_iff_ne.mpr (BG (Bz hb)),[],.nil,_,#[],0,Df _ rfl,⟨rfl,rfl,rfl⟩,rfl,rfl,MT⟩
def X7:TE:=λ _ H Q=>∀ p,H p=none->Q (.ref p) (As H p (.dT []))
section
variable {X:Cx}{pos:Pos}
def qi:PE X (.Dict [] [] pos) X7:=λ pins s σ H Q I h=>
 wpAny_Dict_empty ⟨.ref s.heap.objs.size,_,I.laid (a:=s.heap.objs.size) (o:=.dT []) (t':=s.toks) (λ _ _ q=>BZ _ q) (A7 _) (ZU s.heap I.big),rfl,h _ (I.hok.fresh (A7 _))⟩
end
end L2
namespace QQ
open PySem PySem.Spec PyProof.Rows L2
section
variable {M:Fm}{vs:List Nat}{H:Hp}{fps:AF}{F:List Addr}{Q:VK}
def DM {k:Int}{d:Nat} (h:Bl M H fps vs F (.int k) d Q):Q (.int k) H:=h (.int k) H [] (λ _ _ h=>h) (by rw [Own];exact ⟨rfl,rfl⟩) (λ _ z=>nomatch z)
def DK {k:Bool}{d:Nat} (h:Bl M H fps vs F (.bl k) d Q):Q (.bl k) H:=h (.bl k) H [] (λ _ _ h=>h) (by rw [Own];exact ⟨rfl,rfl⟩) (λ _ z=>nomatch z)
def JG {k:Str}{d:Nat} (h:Bl M H fps vs F (.str k) d Q):Q (.str k) H:=h (.str k) H [] (λ _ _ h=>h) (by rw [Own];exact ⟨rfl,rfl⟩) (λ _ z=>nomatch z)
def J6 {x:PV}{v:V} (h:Bl M H fps vs F x (dv x) Q) (o:Own M.K H (Zv M vs fps) x 0 v []):Q v H:=h v H [] (λ _ _ h=>h) (o.dv.weak λ a z=>z.elim id λ z=>nomatch z) (λ _ z=>nomatch z)
def DY {p:Addr}{o:HO} (hp:H p=none):∀ a u,H a=some u->As H p o a=some u:=λ a u h=>by rw [AN (λ e=>by rw [e,hp] at h;cases h)];exact h
def NK {xs:List PV}{ws:List V} (h:Bl M H fps vs F (.lst xs) 1 Q) (o:OwnL M.K H (Zv M vs fps) xs 0 ws []) {p:Addr} (hp:H p=none):Q (.ref p) (As H p (.lst ws)):=by
 refine h (.ref p) _ [p] (DY hp) ?_ λ a ha=>.inr (by rw [ja6.mp ha];exact hp);rw [Own];refine ⟨p,ws,rfl,.inr ⟨(by decide),[],Ce,rfl,(λ z=>nomatch z),?_⟩⟩;rw [JL];exact OwnL.move (S:=λ _=>False) (λ a u ha _=>DY hp a u ha) (λ _ z=>z.elim) (λ a hd nz z=>z.elim nz λ z=>hd (by rw [ja6.mp z];exact hp)) xs 0 ws [] (λ _ z=>nomatch z) o
def atoms:List PV->Bool
 | []=>true
 | x::xs=>GY x && atoms xs
def Jj:PV->Bool
 | .tup xs=>atoms xs
 | x=>GY x
def Ji:List PV->Bool
 | []=>true
 | x::xs=>Jj x && Ji xs
def d1 (xs:List PV):Nat:=if Ji xs=true then om else 1
theorem OwnL.ats {K:Frag}{H:Hp}{Z Z':Addr->Prop}:∀ {xs:List PV}{ws:List V}{d d':Nat},QQ.atoms xs=true->OwnL K H Z xs d' ws []->OwnL K H Z' xs d ws []
 | [],ws,d,_,_,h=>by rw [OwnL] at h ⊢;exact h
 | x::xs,ws,d,_,ha,h=>by
  unfold QQ.atoms at ha;rw [Be] at ha;rw [OwnL] at h ⊢;obtain ⟨v,s,f1,f2,rfl,ef,dj,h1,h2⟩:=h;obtain ⟨rfl,rfl⟩:f1=[]/\f2=[]:=by simpa using ef.symm
  exact ⟨v,s,[],[],rfl,rfl,dj,(Own.atom ha.1 h1).2,h2.ats ha.2⟩
theorem Own.flat {K:Frag}{H:Hp}{Z Z':Addr->Prop}{x:PV}{v:V}{d d':Nat} (hx:Jj x=true) (h:Own K H Z x d' v []):Own K H Z' x d v []:=by
 cases x with
 | tup xs=>
  rw [Own] at h ⊢;obtain ⟨a,vs,e,ha,hl⟩:=h;exact ⟨a,vs,e,ha,hl.ats hx⟩
 | lst _=>cases hx
 | dct _=>cases hx
 | exn _=>exact (Own.atom rfl h).2
 | emp=>exact (Own.atom rfl h).2
 | dko=>exact (Own.atom rfl h).2
 | scr _=>exact (Own.atom rfl h).2
 | non=>exact (Own.atom rfl h).2
 | bl _=>exact (Own.atom rfl h).2
 | int _=>exact (Own.atom rfl h).2
 | str _=>exact (Own.atom rfl h).2
theorem OwnL.ats0 {K:Frag}{H:Hp}{Z:Addr->Prop}:∀ {xs:List PV}{ws:List V}{d:Nat}{f:List Addr},QQ.atoms xs=true->OwnL K H Z xs d ws f->f=[]
 | [],ws,d,f,_,h=>by rw [OwnL] at h;exact h.2
 | x::xs,ws,d,f,ha,h=>by
  unfold QQ.atoms at ha;rw [Be] at ha;rw [OwnL] at h;obtain ⟨v,s,f1,f2,rfl,rfl,dj,h1,h2⟩:=h;rw [(Own.atom (Z':=Z) (d':=d) ha.1 h1).1,h2.ats0 ha.2];rfl
def YM {x:PV} (h:GY x=true):Jj x=true:=by
 cases x <;> first | exact h | cases h
def Own.flatA {K:Frag}{H:Hp}{Z Z':Addr->Prop}{x:PV}{v:V}{d d':Nat}{f:List Addr} (hx:Jj x=true) (h:Own K H Z x d v f):f=[]/\Own K H Z' x d' v []:=by
 have e:f=[]:=by
  cases x with
  | tup xs=>
   rw [Own] at h;obtain ⟨a,vs,e,ha,hl⟩:=h;exact hl.ats0 hx
  | lst _=>cases hx
  | dct _=>cases hx
  | exn _=>exact (Own.atom (Z':=Z) (d':=d) rfl h).1
  | emp=>exact (Own.atom (Z':=Z) (d':=d) rfl h).1
  | dko=>exact (Own.atom (Z':=Z) (d':=d) rfl h).1
  | scr _=>exact (Own.atom (Z':=Z) (d':=d) rfl h).1
  | non=>exact (Own.atom (Z':=Z) (d':=d) rfl h).1
  | bl _=>exact (Own.atom (Z':=Z) (d':=d) rfl h).1
  | int _=>exact (Own.atom (Z':=Z) (d':=d) rfl h).1
  | str _=>exact (Own.atom (Z':=Z) (d':=d) rfl h).1
 subst e;exact ⟨rfl,h.flat hx⟩
theorem OwnL.atoms {K:Frag}{H:Hp}{Z Z':Addr->Prop}:∀ {xs:List PV}{ws:List V}{d:Nat},Ji xs=true->OwnL K H Z xs 0 ws []->OwnL K H Z' xs d ws []
 | [],ws,d,_,h=>by rw [OwnL] at h ⊢;exact h
 | x::xs,ws,d,ha,h=>by
  unfold Ji at ha;rw [Be] at ha;rw [OwnL] at h ⊢;obtain ⟨v,s,f1,f2,rfl,ef,dj,h1,h2⟩:=h;obtain ⟨rfl,rfl⟩:f1=[]/\f2=[]:=by simpa using ef.symm
  exact ⟨v,s,[],[],rfl,rfl,dj,h1.flat ha.1,h2.atoms ha.2⟩
def HA {xs:List PV}{ws:List V} (h:Bl M H fps vs F (.lst xs) (d1 xs) Q) (o:OwnL M.K H (Zv M vs fps) xs 0 ws []) {p:Addr} (hp:H p=none):Q (.ref p) (As H p (.lst ws)):=by
 unfold d1 at h;split at h
 ·rename_i ha;refine h (.ref p) _ [p] (DY hp) ?_ λ a ha=>.inr (by rw [ja6.mp ha];exact hp);rw [Own];refine ⟨p,ws,rfl,.inr ⟨(by decide),[],Ce,rfl,(λ z=>nomatch z),?_⟩⟩;have o':OwnL M.K (As H p (.lst ws)) (Zv M vs fps) xs 0 ws []:=OwnL.move (S:=λ _=>False) (λ a u ha _=>DY hp a u ha) (λ _ z=>z.elim) (λ _ _ n=>n) xs 0 ws [] (λ _ z=>nomatch z) o;exact o'.atoms ha
 ·exact NK h o hp
def N4 {xs:List PV}{ws:List V} (h:Bl M H fps vs F (.tup xs) 0 Q) (o:OwnL M.K H (Zv M vs fps) xs 0 ws []) {p:Addr} (hp:H p=none):Q (.ref p) (As H p (.tup ws)):=by
 refine h (.ref p) _ [] (DY hp) ?_ λ a ha=>nomatch ha
 rw [Own];refine ⟨p,ws,rfl,Ce,?_⟩;rw [TR];exact OwnL.move (S:=λ _=>False) (λ a u ha _=>DY hp a u ha) (λ _ z=>z.elim) (λ a hd nz z=>z.elim nz λ z=>nomatch z) xs 0 ws [] (λ _ z=>nomatch z) o
def NC {xs:List PV}{ws:List V} (h:Bl M H fps vs F (.lst xs) om Q) {Z:Addr->Prop} (o:OwnL M.K H Z xs om ws F) {p:Addr} (hp:H p=none):Q (.ref p) (As H p (.lst ws)):=by
 refine h (.ref p) _ (p::F) (DY hp) ?_ λ a ha=>(jb2.mp ha).elim (λ e=>.inr (by rw [e];exact hp)) .inl;rw [Own];refine ⟨p,ws,rfl,.inr ⟨(by decide),F,Ce,rfl,λ z=>?_,?_⟩⟩
 ·obtain ⟨ys,e⟩:=OwnL.lsts xs om ws F o p z;rw [hp] at e;cases e
 ·exact OwnL.full xs ws F (OwnL.move (S:=λ _=>False) (Z':=Z) (λ a u ha _=>DY hp a u ha) (λ _ z=>z.elim) (λ _ _ n=>n) xs om ws F (λ _ _ z=>z) o)
def xE {xs:List PV}{ws:List V} (h:Bl M H fps vs F (.tup xs) om Q) {Z:Addr->Prop} (o:OwnL M.K H Z xs om ws F) {p:Addr} (hp:H p=none):Q (.ref p) (As H p (.tup ws)):=by
 refine h (.ref p) _ F (DY hp) ?_ λ a ha=>.inl ha;rw [Own];exact ⟨p,ws,rfl,Ce,OwnL.full xs ws F (OwnL.move (S:=λ _=>False) (Z':=Z) (λ a u ha _=>DY hp a u ha) (λ _ z=>z.elim) (λ _ _ n=>n) xs om ws F (λ _ _ z=>z) o)⟩
end
def Own.seqL {K:Frag}{H:Hp}{Z:Addr->Prop}{xs:List PV}{d:Nat}{v:V}{fp:List Addr} (h:Own K H Z (.lst xs) d v fp):∃ a ws,v=.ref a/\AX K H a ws/\ws.length=xs.length:=by
 rw [Own] at h;obtain ⟨a,ws,e,⟨_,hr,_,ol⟩ | ⟨_,f,ha,_,_,ol⟩⟩:=h
 ·exact ⟨a,ws,e,.inl (.inl hr.1),ol.length⟩
 ·exact ⟨a,ws,e,.inl (.inl ha),ol.length⟩
def Own.seqT {K:Frag}{H:Hp}{Z:Addr->Prop}{xs:List PV}{d:Nat}{v:V}{fp:List Addr} (h:Own K H Z (.tup xs) d v fp):∃ a ws,v=.ref a/\CL K H a ws/\ws.length=xs.length:=by
 rw [Own] at h;obtain ⟨a,ws,e,hr,ol⟩:=h;exact ⟨a,ws,e,.inl (.inl hr),ol.length⟩
def Own.coldL {K:Frag}{H:Hp}{Z:Addr->Prop}{xs:List PV}{v:V} (h:Own K H Z (.lst xs) 0 v []):∃ a ws,v=.ref a/\H a=some (.lst ws)/\OwnL K H Z xs 0 ws []:=by
 rw [Own] at h;obtain ⟨a,ws,e,⟨_,hr,_,ol⟩ | ⟨h,_⟩⟩:=h
 ·exact ⟨a,ws,e,hr.1,ol⟩
 ·exact absurd rfl h
def Own.coldT {K:Frag}{H:Hp}{Z:Addr->Prop}{xs:List PV}{v:V} (h:Own K H Z (.tup xs) 0 v []):∃ a ws,v=.ref a/\H a=some (.tup ws)/\OwnL K H Z xs 0 ws []:=by
 rw [Own] at h;exact h
theorem OwnL.app {K:Frag}{H:Hp}{Z:Addr->Prop}:∀ {xs ys:List PV}{ws us:List V},OwnL K H Z xs 0 ws []->OwnL K H Z ys 0 us []->OwnL K H Z (xs++ys) 0 (ws++us) []
 | [],ys,ws,us,h,h'=>by rw [OwnL] at h;obtain ⟨rfl,_⟩:=h;exact h'
 | x::xs,ys,ws,us,h,h'=>by
  rw [OwnL] at h;obtain ⟨v,s,f1,f2,rfl,ef,dj,h1,h2⟩:=h;obtain ⟨rfl,rfl⟩:f1=[]/\f2=[]:=by simpa using ef.symm
  show OwnL K H Z (x::(xs++ys)) 0 (v::(s++us)) [];rw [OwnL];exact ⟨v,s++us,[],[],rfl,rfl,λ _ z=>(nomatch z),h1,h2.app h'⟩
theorem OwnL.drop {K:Frag}{H:Hp}{Z:Addr->Prop}:∀ {xs:List PV}{ws:List V} (n:Nat),OwnL K H Z xs 0 ws []->OwnL K H Z (xs.drop n) 0 (ws.drop n) []
 | xs,ws,0,h=>h
 | [],ws,n + 1,h=>by rw [OwnL] at h;obtain ⟨rfl,_⟩:=h;rw [UJ,UJ,OwnL];exact ⟨rfl,rfl⟩
 | x::xs,ws,n + 1,h=>by
  rw [OwnL] at h;obtain ⟨v,s,f1,f2,rfl,ef,dj,h1,h2⟩:=h;obtain ⟨rfl,rfl⟩:f1=[]/\f2=[]:=by simpa using ef.symm
  exact h2.drop n
theorem OwnL.take {K:Frag}{H:Hp}{Z:Addr->Prop}:∀ {xs:List PV}{ws:List V} (n:Nat),OwnL K H Z xs 0 ws []->OwnL K H Z (xs.take n) 0 (ws.take n) []
 | xs,ws,0,h=>by rw [MR,MR,OwnL];exact ⟨rfl,rfl⟩
 | [],ws,n + 1,h=>by rw [OwnL] at h;obtain ⟨rfl,_⟩:=h;rw [UI,UI,OwnL];exact ⟨rfl,rfl⟩
 | x::xs,ws,n + 1,h=>by
  rw [OwnL] at h;obtain ⟨v,s,f1,f2,rfl,ef,dj,h1,h2⟩:=h;obtain ⟨rfl,rfl⟩:f1=[]/\f2=[]:=by simpa using ef.symm
  rw [Vg,Vg,OwnL];exact ⟨v,s.take n,[],[],rfl,rfl,λ _ z=>(nomatch z),h1,h2.take n⟩
def OwnL.nth {K:Frag}{H:Hp}{Z:Addr->Prop}{xs:List PV}{ws:List V}{j:Nat}{x:PV} (h:OwnL K H Z xs 0 ws []) (e:xs[j]?=some x):∃ w,ws[j]?=some w/\Own K H Z x 0 w []:=by
 have hj:j < ws.length:=by rw [h.length];exact (ja3.mp e).1
 obtain ⟨y,e1,e2⟩:=h.get (i:=j) (w:=ws[j]) (by simp [hj]);rw [e] at e1;cases e1;exact ⟨_,by simp [hj],e2⟩
def cold {M:Fm}{vs:List Nat}{H:Hp}{fps:AF}{x:PV}{d:Nat}{v:V}{fp:List Addr} (o:Own M.K H (Zt M vs fps fp) x d v fp) (hf:∀ a∈fp,¬ Zf M fps a):Own M.K H (Zv M vs fps) x 0 v []:=
 Own.freeze (λ _ z=>.inl z) x d v fp (λ a ha z=>hf a ha z.zf) o
def Ao:PV->Nat->PV->Nat->Option (PV×Nat)
 | .int i,_,.int j,_=>some (.int (i + j),om)
 | .lst xs,_,.lst ys,_=>if xs.length + ys.length<=Am then some (.lst (xs++ys),d1 (xs++ys)) else none
 | .tup xs,_,.tup ys,_=>if xs.length + ys.length<=Am then some (.tup (xs++ys),0) else none
 | .str x,_,.str y,_=>if x.length + y.length<=Am then some (.str (x++y),om) else none
 | _,_,_,_=>none
def Jl (p:Int->Int->Bool) (g:Int->Int->Int):PV->Nat->PV->Nat->Option (PV×Nat)
 | .int i,_,.int j,_=>if p i j then some (.int (g i j),om) else none
 | _,_,_,_=>none
def ER (i j:Int):Bool:=(decide (-(2 ^ 64) < i) && decide (i < 2 ^ 64)) || (decide (-(2 ^ 64) < j) && decide (j < 2 ^ 64))
def ES (_ j:Int):Bool:=decide (0 < j) && decide (j < 2 ^ 128)
def Ga (_ j:Int):Bool:=decide (0 < j)
def Ih (i j:Int):Bool:=decide (0<=j) && decide (j<=1000) && decide (i.natAbs < 2 ^ 64)
def Cm:=Jl (λ _ _=>true) (λ i j=>i - j)
def EO (n:Nat) (xs:List PV):List PV:=(AK n xs).flatten
def Dq (x:Str) (n:Nat):Str:=⟨(AK n x.cps.toList).flatten.toArray⟩
def BR:PV->Nat->PV->Nat->Option (PV×Nat)
 | .str x,_,.int n,_=>if -(2 ^ 62)<=n/\n < 2 ^ 62/\x.length * n.toNat<=Am then some (.str (Dq x n.toNat),om) else none
 | .int i,_,.int j,_=>if ER i j then some (.int (i * j),om) else none
 | .lst xs,_,.int k,_=>if 0<=k/\k < 2 ^ 62/\xs.length * k.toNat<=Am then some (.lst (EO k.toNat xs),d1 (EO k.toNat xs)) else none
 | _,_,_,_=>none
def BY:=Jl ES (λ i j=>i / j)
def AI:=Jl Ga (λ i j=>i % j)
def FK:=Jl Ih (λ i j=>i ^ j.toNat)
section
variable {X:Cx}
def qe:OpR X (DD .FloorDiv) (rI (λ _ j=>0 < j/\j < 2 ^ 128) λ i j=>.int (i / j)):=K5 λ i j _ _ _ _ _ hc q=>by
 have h1:(0:Int) < j:=hc.1;have h2:j < 2 ^ 128:=hc.2;refine floordiv_int (by omega) (by rw [Int.fdiv_eq_ediv_of_nonneg i (by omega)];exact q) (.inl (PyProof.noPylong_of_log2 ?_));have h3:j.natAbs < 2 ^ 128:=by omega
 have h4:j.natAbs≠0:=by omega
 have:=(Nat.log2_lt h4).mpr h3
 omega
end
def Bn {X:Cx}{e:Expr}{t t':TE} (h:PE X e t) (i:∀ σ H Q,t' σ H Q->t σ H Q):PE X e t':=λ pins s σ H Q I q=>h pins s σ H Q I (i σ H Q q)
def JN {X:Cx}{e:Expr}{t t':TT} (h:PT X e t) (i:∀ σ H Q,t' σ H Q->t σ H Q):PT X e t':=λ pins s σ H Q I q=>h pins s σ H Q I (i σ H Q q)
def Tq {X:Cx}{e:Expr}{t t':TT} (h:PW X e t) (i:∀ σ H Q,t' σ H Q->t σ H Q):PW X e t':=λ wh pins s σ H Q I q=>h wh pins s σ H Q I (i σ H Q q)
def Ta {X:Cx}{e:List Expr}{t t':TA} (h:PA X e t) (i:∀ σ H Q,t' σ H Q->t σ H Q):PA X e t':=λ p pins s σ H Q I q=>h p pins s σ H Q I (i σ H Q q)
def Co {X:Cx}{e:Stmt}{t t':TS} (h:PS X e t) (i:∀ D σ H,t' D σ H->t D σ H):PS X e t':=λ pins s σ H D I q=>h pins s σ H D I (i D σ H q)
def TY {X:Cx}{e:List Stmt}{t t':TS} (h:D6 X e t) (i:∀ D σ H,t' D σ H->t D σ H):D6 X e t':=λ pins s σ H D I q=>h pins s σ H D I (i D σ H q)
section
variable {X:Cx}{M:Fm}{a b:Expr}{f g:Fx}{vs vs':List Nat}{pos:Pos}{σ:St}{H:Hp}{Q:VK}
def qft:OpR X (DD .Add) (λ x y H Q=>∃ a b ys,x=.ref a/\y=.ref b/\CL X.K H a []/\CL X.K H b ys/\Q (.ref b) H):=by
 intro pins s σ H x y v u Q I rx ry h;obtain ⟨a,b,ys,rfl,rfl,ha,hb,q⟩:=h;cases rx;cases ry;obtain ⟨its,r1,p1,_⟩:=I.tuple ha;obtain ⟨its2,r2,p2,_⟩:=I.tuple hb;cases r1;obtain ⟨⟨cls,dd,data,sl⟩,ho,hc,n,hd⟩:=id p1;obtain ⟨⟨cls2,dd2,data2,sl2⟩,ho2,hc2,n2,hd2⟩:=id p2;simp only at hc hd hc2 hd2;subst hc hd hc2 hd2;exact concat_meets ⟨_,ho,rfl⟩ ⟨_,ho2,rfl⟩ Ou seq_tuple_add O7 O9 (OB _ _)
  (tuple_addW0 a b _ its2.toArray n n2 dd dd2 sl sl2 rfl) ⟨ho,ho2,⟨.ref b,H,I,rfl,q⟩⟩
theorem XR (hv:∀ i∈vs,M.Ms i=false) (hK:M.K=X.K) (ha:PE X a (tE M f vs)) (hb:PE X b (tE M g vs')):PE X (.BinOp a .Add b pos) (tE M (Ab Ao f g) (vs++vs')):=by
 refine Bn (Mw (qm4.or (qhg.or (qjf.or (qft.or xW)))) ha hb) λ σ H Q h=>DO hv (λ x d y e z c v w H fps f1 f2 Q ho o1 o2 dj nz zd lf=>?_) h;cases x with
 | int i=>
  cases y with
  | int j=>
   cases ho;rw [Own] at o1 o2;exact .inl ⟨i,j,o1.1,o2.1,DM lf⟩
  | _=>cases ho
 | lst xs=>
  cases y with
  | lst ys=>
   dsimp only [Ao] at ho;split at ho
   ·rename_i hl;cases ho;obtain ⟨p,ws,rfl,hp,ol⟩:=(cold o1 λ a ha=>nz a (BM _ ha)).coldL;obtain ⟨p2,us,rfl,hp2,ol2⟩:=(cold o2 λ a ha=>nz a (BI _ ha)).coldL;exact .inr (.inl ⟨p,p2,ws,us,rfl,rfl,hp,hp2,by rw [ol.length,ol2.length];exact hl,λ q hq=>HA lf (ol.app ol2) hq⟩)
   ·cases ho
  | _=>cases ho
 | tup xs=>
  cases y with
  | tup ys=>
   dsimp only [Ao] at ho;split at ho
   ·rename_i hl;cases ho;obtain ⟨p,ws,rfl,hp,ol⟩:=(cold o1 λ a ha=>nz a (BM _ ha)).coldT;obtain ⟨p2,us,rfl,hp2,ol2⟩:=(cold o2 λ a ha=>nz a (BI _ ha)).coldT;by_cases hw:ws=[]
    ·subst hw;refine .inr (.inr (.inr (.inl ⟨p,p2,us,rfl,rfl,.inl (.inl hp),.inl (.inl hp2),?_⟩)));have ex:xs=[]:=by
      have:=ol.length
      cases xs with
      | nil=>rfl
      | cons _ _=>simp at this
     subst ex;exact J6 (x:=.tup ys) lf (by rw [Own];exact ⟨p2,us,rfl,hp2,ol2⟩)
    ·refine .inr (.inr (.inl ⟨p,p2,ws,us,rfl,rfl,.inl (.inl hp),.inl (.inl hp2),hw,by rw [ol.length,ol2.length];exact hl,λ hu=>?_,λ hu q hq=>N4 lf (ol.app ol2) hq⟩));subst hu;have ey:ys=[]:=by
      have:=ol2.length
      cases ys with
      | nil=>rfl
      | cons _ _=>simp at this
     subst ey;rw [Io] at lf;exact J6 (x:=.tup xs) lf (by rw [Own];exact ⟨p,ws,rfl,hp,ol⟩)
   ·cases ho
  | _=>cases ho
 | str i=>
  cases y with
  | str j=>
   dsimp only [Ao] at ho;split at ho
   ·rename_i hl;cases ho;rw [Own] at o1 o2;exact .inr (.inr (.inr (.inr ⟨i,j,o1.1,o2.1,hl,JG lf⟩)))
   ·cases ho
  | _=>cases ho
 | _=>cases ho
def Ph:PV->Nat->PV->Nat->Option (PV×Nat)
 | .lst xs,_,.lst ys,e=>if xs.length + ys.length<=Am then some (.lst (xs++ys),if Ji xs=true/\e=om then om else d1 (xs++ys)) else none
 | _,_,_,_=>none
theorem OwnL.appF {K:Frag}{H:Hp}{Z:Addr->Prop}{ys:List PV}{us:List V}{fc:List Addr} (h':OwnL K H Z ys om us fc):∀ {xs:List PV}{ws:List V},OwnL K H Z xs om ws []->OwnL K H Z (xs++ys) om (ws++us) fc
 | [],ws,h=>by rw [OwnL] at h;obtain ⟨rfl,_⟩:=h;exact h'
 | x::xs,ws,h=>by
  rw [OwnL] at h;obtain ⟨v,s,f1,f2,rfl,ef,dj,h1,h2⟩:=h;obtain ⟨rfl,rfl⟩:f1=[]/\f2=[]:=by simpa using ef.symm
  show OwnL K H Z (x::(xs++ys)) om (v::(s++us)) fc;rw [OwnL];exact ⟨v,s++us,[],fc,rfl,rfl,λ _ z=>(nomatch z),h1,OwnL.appF h' h2⟩
theorem YV (hv:∀ i∈vs,M.Ms i=false) (hK:M.K=X.K) (ha:PE X a (tE M f vs)) (hb:PE X b (tE M g vs')):PE X (.BinOp a .Add b pos) (tE M (Ab Ph f g) (vs++vs')):=by
 refine Bn (Mw qhg ha hb) λ σ H Q h=>DO hv (λ x d y e z c v w H fps f1 f2 Q ho o1 o2 dj nz zd lf=>?_) h;cases x with
 | lst xs=>
  cases y with
  | lst ys=>
   dsimp only [Ph] at ho;split at ho
   ·rename_i hl;cases ho;obtain ⟨p,ws,rfl,hp,ol⟩:=(cold o1 λ a ha=>nz a (BM _ ha)).coldL;split at lf
    ·rename_i hc;obtain ⟨ht,rfl⟩:=hc;obtain ⟨p2,us,fc,rfl,hp2,ef,na,ol2⟩:=o2.list (by decide);refine ⟨p,p2,ws,us,rfl,rfl,hp,hp2,by rw [ol.length,ol2.length];exact hl,λ q hq=>?_⟩;have lf':Bl M H fps (vs++vs') fc (.lst (xs++ys)) om Q:=λ u H' fp h1 h2 h3=>lf u H' fp h1 h2 λ a ha=>(h3 a ha).elim (λ z=>.inl (BI _ (by rw [ef];exact AQ _ z))) .inr;exact NC lf' (OwnL.appF ol2 (ol.atoms ht)) hq
    ·obtain ⟨p2,us,rfl,hp2,ol2⟩:=(cold o2 λ a ha=>nz a (BI _ ha)).coldL;exact ⟨p,p2,ws,us,rfl,rfl,hp,hp2,by rw [ol.length,ol2.length];exact hl,λ q hq=>HA lf (ol.app ol2) hq⟩
   ·cases ho
  | _=>cases ho
 | _=>cases ho
theorem LH {op:Hf}{p:Int->Int->Bool}{k:Int->Int->Int}{C:Int->Int->Prop} (hop:OpR X (DD op) (rI C λ i j=>.int (k i j))) (hC:∀ i j,p i j=true->C i j) (hv:∀ i∈vs,M.Ms i=false) (ha:PE X a (tE M f vs)) (hb:PE X b (tE M g vs')):
  PE X (.BinOp a op b pos) (tE M (Ab (Jl p k) f g) (vs++vs')):=by
 refine Bn (Mw hop ha hb) λ σ H Q h=>DO hv (λ x d y e z c v w H fps f1 f2 Q ho o1 o2 dj nz zd lf=>?_) h;cases x with
 | int i=>
  cases y with
  | int j=>
   dsimp only [Jl] at ho;split at ho
   ·rename_i hp;cases ho;rw [Own] at o1 o2;exact ⟨i,j,o1.1,o2.1,hC i j hp,DM lf⟩
   ·cases ho
  | _=>cases ho
 | _=>cases ho
theorem OwnL.rep {K:Frag}{H:Hp}{Z:Addr->Prop}{xs:List PV}{ws:List V} (h:OwnL K H Z xs 0 ws []):∀ n,OwnL K H Z (EO n xs) 0 (AK n ws).flatten []
 | 0=>by
  unfold EO;rw [Vf,Vf,US,US,OwnL];exact ⟨rfl,rfl⟩
 | n + 1=>by
  have:=h.rep n
  unfold EO at this ⊢;rw [EX,EX,Iq,Iq];exact h.app this
def YH:OpR X (DD .Sub) (rI (λ _ _=>True) λ i j=>.int (i - j)):=K5 λ _ _ _ _ _ _ _ _ q=>sub_int q
def Qk {i j:Int} (h:ER i j=true):CMul i j:=by
 unfold ER at h;simp only [EV,Be,decide_eq_true_eq] at h;exact h
theorem Nt (a:Array Nat):∀ (n:Nat) (b:Array Nat),(AK n a).foldl (·++·) b=⟨b.toList++(AK n a.toList).flatten⟩
 | 0,b=>by simp
 | n + 1,b=>by
  rw [EX,PD,Nt a n,EX,Iq];simp
def xX:OpR X (DD .Mult) (λ x y H Q=>∃ z n,x=.str z/\y=.int n/\-(2 ^ 62)<=n/\n < 2 ^ 62/\z.length * n.toNat<=Am/\Q (.str (Dq z n.toNat)) H):=by
 intro pins s σ H x y v u Q I rx ry h;obtain ⟨z,n,rfl,rfl,h1,h2,h3,q⟩:=h;obtain ⟨t1,rfl⟩:=rx;obtain ⟨t2,rfl⟩:=ry;have hz:Builtin.Str.tooLong (z.length * n.toNat)=false:=by
  unfold Builtin.Str.tooLong;have h40:Am<=2 ^ 40:=by decide
  exact decide_eq_false (by omega)
 refine PySem.P.mul_str (by rw [decide_eq_false (by omega),decide_eq_false (by omega)];rfl) (λ _ _ hc=>?_) (λ _ _=>hz) ?_
 ·have hn:(1:Int)<=n:=by omega
  have hl:z.length * n.toNat<=2 ^ 62:=Cg h3 (by decide);have h4:(z.length:Int) * n<=2 ^ 62:=by
   have:((z.length * n.toNat:Nat):Int)<=((2 ^ 62:Nat):Int):=Int.ofNat_le.mpr hl
   rw [PB,show ((n.toNat:Nat):Int)=n by omega] at this;exact this
  have h5:(2 ^ 63 - 1) / n < (z.length:Int):=hc;have h6:=Int.lt_mul_of_ediv_lt (by omega:(0:Int) < n) h5;omega
 ·by_cases c1:n < 1
  ·rw [if_pos c1];refine ⟨by decide,.str (Dq z n.toNat),H,I.tok _,⟨s.toks,?_⟩,q⟩;rw [show n.toNat=0 by omega];rfl
  ·rw [if_neg c1];split
   ·rename_i c2;refine ⟨.str (Dq z n.toNat),H,I,⟨t1,?_⟩,q⟩;have e:Dq z n.toNat=z:=by
     unfold Dq;rcases EV _ _ ▸ c2 with c | c
     ·have:n=1:=by simpa using c
      subst this;show (⟨([z.cps.toList].flatten).toArray⟩:Str)=z;simp
     ·have e0:z.cps.toList=[]:=by
       have:z.cps.size=0:=eq_of_beq c
       exact jm2.mpr (Array.eq_empty_of_size_eq_zero this)
      rw [e0]
      have:(AK n.toNat ([]:List Nat)).flatten=[]:=by simp
      rw [this];cases z with
      | mk a=>simp at e0;subst e0;rfl
    rw [e]
   ·refine ⟨?_,.str (Dq z n.toNat),H,I.tok _,⟨s.toks,?_⟩,q⟩
    ·rw [Nt];show (#[].toList++(AK n.toNat z.cps.toList).flatten).length<=Am;simp only [KH,AV,List.length_flatten,List.map_replicate,List.sum_replicate_nat];have h4:n.toNat * z.cps.size<=Am:=by rw [UE];exact h3
     simpa using h4
    ·unfold Dq;rw [Nt];simp
theorem X2 (hv:∀ i∈vs,M.Ms i=false) (ha:PE X a (tE M f vs)) (hb:PE X b (tE M g vs')):PE X (.BinOp a .Mult b pos) (tE M (Ab BR f g) (vs++vs')):=by
 refine Bn (Mw (qmv.or (qms.or xX)) ha hb) λ σ H Q h=>DO hv (λ x d y e z c v w H fps f1 f2 Q ho o1 o2 dj nz zd lf=>?_) h;cases x with
 | int i=>
  cases y with
  | int j=>
   dsimp only [BR] at ho;split at ho
   ·rename_i hp;cases ho;rw [Own] at o1 o2;exact .inl ⟨i,j,o1.1,o2.1,Qk hp,DM lf⟩
   ·cases ho
  | _=>cases ho
 | lst xs=>
  cases y with
  | int k=>
   dsimp only [BR] at ho;split at ho
   ·rename_i hl;cases ho;obtain ⟨p,ws,rfl,hp,ol⟩:=(cold o1 λ a ha=>nz a (BM _ ha)).coldL;rw [Own] at o2;exact .inr (.inl ⟨p,k,ws,rfl,o2.1,hp,by omega,by omega,by rw [ol.length];exact hl.2.2,λ q hq=>HA lf (ol.rep k.toNat) hq⟩)
   ·cases ho
  | _=>cases ho
 | str z=>
  cases y with
  | int k=>
   dsimp only [BR] at ho;split at ho
   ·rename_i hl;cases ho;rw [Own] at o1;rw [Own] at o2;exact .inr (.inr ⟨z,k,o1.1,o2.1,hl.1,hl.2.1,hl.2.2,JG lf⟩)
   ·cases ho
  | _=>cases ho
 | _=>cases ho
def Qm {i j:Int} (h:ES i j=true):0 < j/\j < 2 ^ 128:=by
 unfold ES at h;simp only [Be,decide_eq_true_eq] at h;exact h
def Ql {i j:Int} (h:Ga i j=true):0 < j:=by
 unfold Ga at h;simpa using h
def Qj {i j:Int} (h:Ih i j=true):Lc i j:=by
 unfold Ih at h;simp only [Be,decide_eq_true_eq] at h;exact ⟨h.1.1,by omega,h.2⟩
def BB:PV->Nat->Option (PV×Nat)
 | .int i,_=>some (.int (-i),om)
 | _,_=>none
theorem X3 (ha:PE X a (tE M f vs)):PE X (.UnaryOp .USub a pos) (tE M (Aq BB f) vs):=by
 refine Bn (Sf Ti ha) λ σ H Q h=>HI (λ x d z c v H fps f1 Q ho o1 nz zd lf=>?_) h;cases x with
 | int i=>cases ho;rw [Own] at o1;exact ⟨i,o1.1,DM lf⟩
 | _=>cases ho
def BA (p:Int->Int->Bool):PV->Nat->PV->Nat->Option (PV×Nat)
 | .int i,_,.int j,_=>some (.bl (p i j),om)
 | _,_,_,_=>none
theorem Ll {p:Int->Int->Bool}{x y z:PV}{d e c:Nat}{v w:V}{fps:AF}{f1 f2 F:List Addr}{Z Z':Addr->Prop} (ho:BA p x d y e=some (z,c)) (o1:Own M.K H Z x d v f1) (o2:Own M.K H Z' y e w f2) (lf:Bl M H fps vs F z c Q):E6 (λ i j=>.bl (p i j)) v w H Q:=by
 cases x with
 | int i=>
  cases y with
  | int j=>
   cases ho;rw [Own] at o1 o2;exact ⟨i,j,o1.1,o2.1,DK lf⟩
  | _=>cases ho
 | _=>cases ho
def sV:PV->Option V
 | .non=>some .non
 | .bl b=>some (.bl b)
 | .int i=>some (.int i)
 | .str x=>some (.str x)
 | _=>none
def BD (f:PV->Option DR):List PV->Option (List DR)
 | []=>some []
 | x::xs=>match f x,BD f xs with
  | some a,some r=>some (a::r)
  | _,_=>none
def Cq:Nat->PV->Option DR
 | 0,_=>none
 | n + 1,x=>match x with
  | .non=>some .none
  | .bl b=>some (.bool b)
  | .int i=>some (.int i)
  | .str z=>if LR z=true then some (.str z) else none
  | .lst xs=>(BD (Cq n) xs).map .list
  | .tup xs=>(BD (Cq n) xs).map .tuple
  | _=>none
def Ec (f:PV->PV->Bool):List PV->List PV->Bool
 | [],[]=>true
 | x::xs,y::ys=>f x y && Ec f xs ys
 | _,_=>false
def EE:Nat->PV->PV->Bool
 | 0,_,_=>false
 | n + 1,x,y=>match x,y with
  | .non,.non=>true
  | .bl a,.bl b=>a == b
  | .int a,.int b=>a == b
  | .str a,.str b=>a == b
  | .emp,.emp=>true
  | .lst xs,.lst ys=>Ec (EE n) xs ys
  | .tup xs,.tup ys=>Ec (EE n) xs ys
  | _,_=>false
def Au (neg:Bool) (x:PV) (_:Nat) (y:PV) (_:Nat):Option (PV×Nat):=match Cq 20 x,Cq 20 y with
 | some a,some b=>some (.bl (neg^^Hg a b),om)
 | _,_=>match x,y with
  | .lst xs,.lst ys=>if Ec (EE 20) xs ys=true then some (.bl (neg^^true),om) else if xs.length≠ys.length then some (.bl (neg^^false),om) else none
  | .str a,.str b=>some (.bl (neg^^(a == b)),om)
  | .emp,.emp=>some (.bl (neg^^true),om)
  | .tup xs,.tup ys=>if Ec (EE 20) xs ys=true then some (.bl (neg^^true),om) else none
  | _,_=>none
theorem JI {f:PV->Option DR}{n:Nat} (hf:∀ x D,f x=some D->D.canLay0=true/\D.depth<=n):∀ {xs:List PV}{Ds:List DR},BD f xs=some Ds->Ow Ds=true/\HQ Ds<=n
 | [],Ds,h=>by cases h;rw [Ow,HQ];exact ⟨rfl,CV _⟩
 | x::xs,Ds,h=>by
  unfold BD at h;split at h
  ·rename_i a r h1 h2;cases h;have h3:=hf x a h1;have h4:=JI hf h2;rw [Ow,HQ,h3.1,h4.1];exact ⟨rfl,Nat.max_le.mpr ⟨h3.2,h4.2⟩⟩
  ·cases h
theorem EJ:∀ (n:Nat) (x:PV) (D:DR),Cq n x=some D->D.canLay0=true/\D.depth<=n
 | 0,_,_,h=>by cases h
 | n + 1,x,D,h=>by
  unfold Cq at h;cases x with
  | non=>cases h;rw [Jf,PyData.depth] <;> first | exact ⟨rfl,CV _⟩ | (intros;contradiction)
  | bl b=>cases h;rw [Jf,PyData.depth] <;> first | exact ⟨rfl,CV _⟩ | (intros;contradiction)
  | int i=>cases h;rw [Jf,PyData.depth] <;> first | exact ⟨rfl,CV _⟩ | (intros;contradiction)
  | str z=>
   dsimp only at h;split at h
   ·rename_i hz;cases h;rw [Jf,PyData.depth] <;> first | exact ⟨hz,CV _⟩ | (intros;contradiction)
   ·cases h
  | lst xs=>
   obtain ⟨Ds,e,rfl⟩:=jb0.mp h
   have:=JI (EJ n) e
   rw [Jf,PyData.depth];exact ⟨this.1,UR this.2⟩
  | tup xs=>
   obtain ⟨Ds,e,rfl⟩:=jb0.mp h
   have:=JI (EJ n) e
   rw [Jf,PyData.depth];exact ⟨this.1,UR this.2⟩
  | emp=>cases h
  | dko=>cases h
  | scr ns=>cases h
  | dct _=>cases h
  | exn _=>cases h
theorem FH {pins:List (Addr×Obj)}{s:Ai}{Z:Addr->Prop} (I:L2.Inv X pins σ H s):∀ (n:Nat) (x:PV) (d:Nat) (v:V) (fp:List Addr) (u:Ae) (D:DR),Cq n x=some D->Own X.K H Z x d v fp->RelV v u->∃ as,Reads s.heap u D as
 | 0,_,_,_,_,_,_,h,_,_=>by cases h
 | n + 1,x,d,v,fp,u,D,h,o,r=>by
  have all:∀ (xs:List PV) (d:Nat) (ws:List V) (fp:List Addr) (us:List Ae) (Ds:List DR),BD (Cq n) xs=some Ds->OwnL X.K H Z xs d ws fp->Vals ws us->∃ as,ReadsAll s.heap us Ds as:=λ xs=>by
   induction xs with
   | nil=>
    intro d ws fp us Ds h o r;cases h;rw [OwnL] at o;obtain ⟨rfl,_⟩:=o;cases r;exact ⟨_,.nil⟩
   | cons y ys ih=>
    intro d ws fp us Ds h o r;unfold BD at h;split at h
    ·rename_i a rr h1 h2;cases h;rw [OwnL] at o;obtain ⟨v,s,f1,f2,rfl,_,_,o1,o2⟩:=o;cases r with
     | cons r1 r2=>
      obtain ⟨as,ra⟩:=FH I n y d v f1 _ a h1 o1 r1;obtain ⟨bs,rb⟩:=ih d s f2 _ rr h2 o2 r2;exact ⟨_,.cons ra rb⟩
    ·cases h
  unfold Cq at h;cases x with
  | non=>cases h;rw [Own] at o;obtain ⟨rfl,_⟩:=o;cases r;exact ⟨_,.none⟩
  | bl b=>cases h;rw [Own] at o;obtain ⟨rfl,_⟩:=o;cases r;exact ⟨_,.bool b⟩
  | int i=>cases h;rw [Own] at o;obtain ⟨rfl,_⟩:=o;obtain ⟨t,rfl⟩:=r;exact ⟨_,.int i t⟩
  | str z=>
   dsimp only at h;split at h
   ·cases h;rw [Own] at o;obtain ⟨rfl,_⟩:=o;obtain ⟨t,rfl⟩:=r;exact ⟨_,.str z t⟩
   ·cases h
  | lst xs=>
   obtain ⟨Ds,e,rfl⟩:=jb0.mp h;have hh:∃ a ws d' f,v=.ref a/\H a=some (.lst ws)/\OwnL X.K H Z xs d' ws f:=by
    rw [Own] at o;obtain ⟨a,ws,ev,⟨_,hr,_,ol⟩ | ⟨_,f,ha,_,_,ol⟩⟩:=o
    ·exact ⟨a,ws,_,_,ev,hr.1,ol⟩
    ·exact ⟨a,ws,_,_,ev,ha,ol⟩
   obtain ⟨a,ws,d',f,rfl,ha,ol⟩:=hh;cases r;obtain ⟨its,rv,⟨ob,nn,e1,e2,e3,e4⟩,_⟩:=I.list (.inl (.inl ha));obtain ⟨as,ra⟩:=all xs d' ws f its Ds e ol rv;exact ⟨_,.list e1 e2 e4 ra⟩
  | tup xs=>
   obtain ⟨Ds,e,rfl⟩:=jb0.mp h;rw [Own] at o;obtain ⟨a,ws,rfl,ha,ol⟩:=o;cases r;obtain ⟨its,rv,⟨ob,e1,e2,nn,e4⟩,_⟩:=I.tuple (.inl (.inl ha));obtain ⟨as,ra⟩:=all xs _ ws fp its Ds e ol rv;exact ⟨_,.tuple e1 e2 e4 ra⟩
  | emp=>cases h
  | dko=>cases h
  | scr ns=>cases h
  | dct _=>cases h
  | exn _=>cases h
def IV {K':Type} [DecidableEq K'] {prog:A0}{w:Ay}{knd:KeyKind prog w K'}{P:A0}{w0:Ay}{h:Heap}{a:Addr} (x:h.DictOf (Dm P w0) a []):h.DictOf knd a []:=by
 obtain ⟨o,es,ep,h1,h2,h3,h4,h5,h6⟩:=x;generalize hes:es.toList=l at h5;cases h5;have e:es=#[]:=jm2.mp hes;subst e;exact ⟨o,#[],ep,h1,h2,h3,by intro z hz;simp at hz,.nil,.nil⟩
def W3 {pins:List (Addr×Obj)}{s:Ai} (I:L2.Inv X pins σ H s) {a b:Addr}{A:AU} (ha:H a=some (.dK [])) (hb:H b=some (.dK [])) (hu:A.units < BU):SeqAt.EqAt A s (.ref a) (.ref b) true:=by
 by_cases e:a=b
 ·subst e;exact Kg _
 ·refine O1 e λ prog w E Q hq=>?_;obtain ⟨_,z1,vs,k1,d1⟩:=K3 I.hok ha;obtain ⟨_,z2,ws,k2,d2⟩:=K3 I.hok hb;cases k1;cases k2;exact PySem.W.keq_eq (knd:=Dm prog w) (r:=true) z1 z2 (IV d1) (IV d2) hu (λ _=>.nil) (by simpa using hq)
def IM {Z:Addr->Prop}{xs:List PV}{d:Nat}{v:V}{fp:List Addr}{K:Frag} (o:Own K H Z (.lst xs) d v fp):∃ a ws d' f,v=.ref a/\H a=some (.lst ws)/\OwnL K H Z xs d' ws f:=by
 rw [Own] at o;obtain ⟨a,ws,ev,⟨_,hr,_,ol⟩ | ⟨_,f,ha,_,_,ol⟩⟩:=o
 ·exact ⟨a,ws,_,_,ev,hr.1,ol⟩
 ·exact ⟨a,ws,_,_,ev,ha,ol⟩
def L9 {n:Nat}{e:Nat->Bool} (h:∀ j,j < n->e j=true):(Bh n).all e=true:=jd6.mpr λ j hj=>h j (jd5.mp hj)
theorem Ud {pins:List (Addr×Obj)}{s:Ai}{Z Z':Addr->Prop} (I:L2.Inv X pins σ H s):∀ (n:Nat) (x y:PV) (d e:Nat) (v w:V) (f1 f2:List Addr) (u u':Ae) (A:AU),A.units + n < BU->EE n x y=true->Own X.K H Z x d v f1->Own X.K H Z' y e w f2->RelV v u->RelV w u'->SeqAt.EqAt A s u u' true
 | 0,_,_,_,_,_,_,_,_,_,_,_,_,h,_,_,_,_=>by cases h
 | n + 1,x,y,d,e,v,w,f1,f2,u,u',A,hu,h,o1,o2,r1,r2=>by
  have all:∀ (xs ys:List PV) (d e:Nat) (vs ws:List V) (f1 f2:List Addr) (us us':List Ae),Ec (EE n) xs ys=true->OwnL X.K H Z xs d vs f1->OwnL X.K H Z' ys e ws f2->Vals vs us->Vals ws us'->us.length=us'.length/\∀ j (h1:j < us.length) (h2:j < us'.length),SeqAt.EqAt A.in1 s us[j] us'[j] true:=λ xs=>by
   induction xs with
   | nil=>
    intro ys d e vs ws f1 f2 us us' h o1 o2 r1 r2;cases ys with
    | cons _ _=>cases h
    | nil=>
     rw [OwnL] at o1 o2;obtain ⟨rfl,_⟩:=o1;obtain ⟨rfl,_⟩:=o2;cases r1;cases r2;exact ⟨rfl,λ j h1 _=>nomatch h1⟩
   | cons x xs ih=>
    intro ys d e vs ws f1 f2 us us' h o1 o2 r1 r2;cases ys with
    | nil=>cases h
    | cons y ys=>
     unfold Ec at h;rw [Be] at h;rw [OwnL] at o1 o2;obtain ⟨_,_,g1,g2,rfl,_,_,p1,p2⟩:=o1;obtain ⟨_,_,k1,k2,rfl,_,_,q1,q2⟩:=o2;cases r1 with
     | cons a1 a2=>
      cases r2 with
      | cons b1 b2=>
       have t:=ih ys d e _ _ g2 k2 _ _ h.2 p2 q2 a2 b2;refine ⟨congrArg (·+ 1) t.1,λ j h1 h2=>?_⟩;cases j with
       | zero=>exact Ud I n x y d e _ _ g1 k1 _ _ A.in1 (by have e:A.in1.units=A.units + 1:=rfl;omega) h.1 p1 q1 a1 b1
       | succ j=>exact t.2 j (Nb h1) (Nb h2)
  cases x with
  | non=>cases y <;> first | (cases h;done) | (rw [Own] at o1 o2;obtain ⟨rfl,_⟩:=o1;obtain ⟨rfl,_⟩:=o2;cases r1;cases r2;exact Kg _)
  | bl b=>cases y <;> first | (cases h;done) | (rw [Own] at o1 o2;obtain ⟨rfl,_⟩:=o1;obtain ⟨rfl,_⟩:=o2;cases r1;cases r2;have e:=eq_of_beq (show (b == _)=true from h);subst e;exact Kg _)
  | int i=>cases y <;> first | (cases h;done) | (rw [Own] at o1 o2;obtain ⟨rfl,_⟩:=o1;obtain ⟨rfl,_⟩:=o2;obtain ⟨t,rfl⟩:=r1;obtain ⟨t',rfl⟩:=r2;have e:=eq_of_beq (show (i == _)=true from h);subst e;have z:=SeqAt.EqAt.int_int (A:=A) (s:=s) i t i t';rwa [beq_self_eq_true] at z)
  | str i=>cases y <;> first | (cases h;done) | (rw [Own] at o1 o2;obtain ⟨rfl,_⟩:=o1;obtain ⟨rfl,_⟩:=o2;obtain ⟨t,rfl⟩:=r1;obtain ⟨t',rfl⟩:=r2;have e:=eq_of_beq (show (i == _)=true from h);subst e;have z:=SeqAt.EqAt.str_str (A:=A) (s:=s) i t i t';rwa [beq_self_eq_true] at z)
  | emp=>cases y <;> first | (cases h;done) | (rw [Own] at o1 o2;obtain ⟨_,a,rfl,ha⟩:=o1;obtain ⟨_,b,rfl,hb⟩:=o2;cases r1;cases r2;exact W3 I ha hb (by omega))
  | dko=>cases h
  | lst xs=>
   cases y with
   | lst ys=>
    obtain ⟨a,ws,d',f,rfl,ha,ol⟩:=IM o1;obtain ⟨b,ws',e',f',rfl,hb,ol'⟩:=IM o2;cases r1;cases r2;obtain ⟨its,rv,p,_⟩:=I.list (.inl (.inl ha));obtain ⟨its',rv',p',_⟩:=I.list (.inl (.inl hb));have t:=all xs ys d' e' ws ws' f f' its its' h ol ol' rv rv';obtain ⟨ob,nn,e1,e2,e3,e4⟩:=p;obtain ⟨ob',nn',e1',e2',e3',e4'⟩:=p';by_cases e:a=b
    ·subst e;exact Kg _
    ·refine O1 e ?_;have z:=SeqAt.RcAt.lists (A:=A) (s:=s) (l:=a) (b:=b) (items:=its.toArray) (items2:=its'.toArray) (e:=λ _=>true) ⟨ob,e1,e2,nn,e4⟩ ⟨ob',e1',e2',nn',e4'⟩ (by simpa using t.1) (by omega) (λ j h1 h2=>by simpa using t.2 j (by simpa using h1) (by simpa using h2));rwa [L9 λ _ _=>rfl] at z
   | _=>cases h
  | tup xs=>
   cases y with
   | tup ys=>
    rw [Own] at o1 o2;obtain ⟨a,ws,rfl,ha,ol⟩:=o1;obtain ⟨b,ws',rfl,hb,ol'⟩:=o2;cases r1;cases r2;obtain ⟨its,rv,⟨ob,e1,e2,nn,e4⟩,_⟩:=I.tuple (.inl (.inl ha));obtain ⟨its',rv',⟨ob',e1',e2',nn',e4'⟩,_⟩:=I.tuple (.inl (.inl hb));have t:=all xs ys _ _ ws ws' _ _ its its' h ol ol' rv rv';by_cases e:a=b
    ·subst e;exact Kg _
    ·refine O1 e ?_;have z:=SeqAt.RcAt.tuples (A:=A) (s:=s) (l:=a) (b:=b) (items:=its.toArray) (items2:=its'.toArray) (e:=λ _=>true) ⟨ob,e1,e2,nn,e4⟩ ⟨ob',e1',e2',nn',e4'⟩ (by omega) (λ j h1 h2=>by simpa using t.2 j (by simpa using h1) (by simpa using h2));have z2:((its.toArray.size == its'.toArray.size):Bool)=true:=by simpa using t.1
     rwa [L9 λ _ _=>rfl,z2] at z
   | _=>cases h
  | scr ns=>cases y <;> cases h
  | dct _=>cases y <;> cases h
  | exn _=>cases y <;> cases h
theorem Rp {pins:List (Addr×Obj)}{s:Ai}{Z Z':Addr->Prop} (I:L2.Inv X pins σ H s) {A:AU} (hu:A.units + 64 < BU):∀ (xs ys:List PV) (d e:Nat) (vs ws:List V) (f1 f2:List Addr) (us us':List Ae),Ec (EE 20) xs ys=true->OwnL X.K H Z xs d vs f1->OwnL X.K H Z' ys e ws f2->Vals vs us->Vals ws us'->us.length=us'.length/\∀ j (h1:j < us.length) (h2:j < us'.length),SeqAt.EqAt A.in1 s us[j] us'[j] true:=λ xs=>by
 induction xs with
 | nil=>
  intro ys d e vs ws f1 f2 us us' h o1 o2 r1 r2;cases ys with
  | cons _ _=>cases h
  | nil=>
   rw [OwnL] at o1 o2;obtain ⟨rfl,_⟩:=o1;obtain ⟨rfl,_⟩:=o2;cases r1;cases r2;exact ⟨rfl,λ j h1 _=>nomatch h1⟩
 | cons x xs ih=>
  intro ys d e vs ws f1 f2 us us' h o1 o2 r1 r2;cases ys with
  | nil=>cases h
  | cons y ys=>
   unfold Ec at h;rw [Be] at h;rw [OwnL] at o1 o2;obtain ⟨_,_,g1,g2,rfl,_,_,p1,p2⟩:=o1;obtain ⟨_,_,k1,k2,rfl,_,_,q1,q2⟩:=o2;cases r1 with
   | cons a1 a2=>
    cases r2 with
    | cons b1 b2=>
     have t:=ih ys d e _ _ g2 k2 _ _ h.2 p2 q2 a2 b2;refine ⟨congrArg (·+ 1) t.1,λ j h1 h2=>?_⟩;cases j with
     | zero=>exact Ud I 20 x y d e _ _ g1 k1 _ _ A.in1 (by have e:A.in1.units=A.units + 1:=rfl;omega) h.1 p1 q1 a1 b1
     | succ j=>exact t.2 j (Nb h1) (Nb h2)
def Rq {pins:List (Addr×Obj)}{s:Ai}{Z Z':Addr->Prop} (I:L2.Inv X pins σ H s) {xs ys:List PV}{d e:Nat}{v w:V}{f1 f2:List Addr}{u u':Ae}{A:AU} (hu:A.units + 64 < BU) (h:Ec (EE 20) xs ys=true) (o1:Own X.K H Z (.lst xs) d v f1) (o2:Own X.K H Z' (.lst ys) e w f2) (r1:RelV v u) (r2:RelV w u'):SeqAt.RcAt A s u u' true/\LS A s u u' false:=by
 obtain ⟨a,ws,d',f,rfl,ha,ol⟩:=IM o1;obtain ⟨b,ws',e',f',rfl,hb,ol'⟩:=IM o2;cases r1;cases r2;obtain ⟨its,rv,⟨ob,nn,e1,e2,e3,e4⟩,_⟩:=I.list (.inl (.inl ha));obtain ⟨its',rv',⟨ob',nn',e1',e2',e3',e4'⟩,_⟩:=I.list (.inl (.inl hb));have t:=Rp I hu xs ys d' e' ws ws' f f' its its' h ol ol' rv rv';have z:=SeqAt.RcAt.lists (A:=A) (s:=s) (l:=a) (b:=b) (items:=its.toArray) (items2:=its'.toArray) (e:=λ _=>true) ⟨ob,e1,e2,nn,e4⟩ ⟨ob',e1',e2',nn',e4'⟩ (by simpa using t.1) (by omega) (λ j h1 h2=>by simpa using t.2 j (by simpa using h1) (by simpa using h2));have z':=SeqAt.RcNeAt.lists (A:=A) (s:=s) (l:=a) (b:=b) (items:=its.toArray) (items2:=its'.toArray) (e:=λ _=>true) ⟨ob,e1,e2,nn,e4⟩ ⟨ob',e1',e2',nn',e4'⟩ (by simpa using t.1) (by omega) (λ j h1 h2=>by simpa using t.2 j (by simpa using h1) (by simpa using h2));rw [L9 λ _ _=>rfl] at z z';exact ⟨z,z'⟩
def Q9 {pins:List (Addr×Obj)}{s:Ai}{Z Z':Addr->Prop} (I:L2.Inv X pins σ H s) {xs ys:List PV}{d e:Nat}{v w:V}{f1 f2:List Addr}{u u':Ae}{A:AU} (hu:A.units + 64 < BU) (h:Ec (EE 20) xs ys=true) (o1:Own X.K H Z (.tup xs) d v f1) (o2:Own X.K H Z' (.tup ys) e w f2) (r1:RelV v u) (r2:RelV w u'):SeqAt.RcAt A s u u' true/\LS A s u u' false:=by
 rw [Own] at o1;rw [Own] at o2;obtain ⟨a,ws,rfl,ha,ol⟩:=o1;obtain ⟨b,ws',rfl,hb,ol'⟩:=o2;cases r1;cases r2;obtain ⟨its,rv,⟨ob,e1,e2,nn,e4⟩,_⟩:=I.tuple (.inl (.inl ha));obtain ⟨its',rv',⟨ob',e1',e2',nn',e4'⟩,_⟩:=I.tuple (.inl (.inl hb));have t:=Rp I hu xs ys _ _ ws ws' _ _ its its' h ol ol' rv rv';have z:=SeqAt.RcAt.tuples (A:=A) (s:=s) (l:=a) (b:=b) (items:=its.toArray) (items2:=its'.toArray) (e:=λ _=>true) ⟨ob,e1,e2,nn,e4⟩ ⟨ob',e1',e2',nn',e4'⟩ (by omega) (λ j h1 h2=>by simpa using t.2 j (by simpa using h1) (by simpa using h2));have z':=SeqAt.RcNeAt.tuples (A:=A) (s:=s) (l:=a) (b:=b) (items:=its.toArray) (items2:=its'.toArray) (e:=λ _=>true) ⟨ob,e1,e2,nn,e4⟩ ⟨ob',e1',e2',nn',e4'⟩ (by omega) (λ j h1 h2=>by simpa using t.2 j (by simpa using h1) (by simpa using h2));have z2:((its.toArray.size == its'.toArray.size):Bool)=true:=by simpa using t.1
 rw [L9 λ _ _=>rfl,z2] at z z';exact ⟨z,z'⟩
def Uh {pins:List (Addr×Obj)}{s:Ai}{Z Z':Addr->Prop} (I:L2.Inv X pins σ H s) {xs ys:List PV}{d e:Nat}{v w:V}{f1 f2:List Addr}{u u':Ae}{A:AU} (hu:A.units + 64 < BU) (h:xs.length≠ys.length) (o1:Own X.K H Z (.lst xs) d v f1) (o2:Own X.K H Z' (.lst ys) e w f2) (r1:RelV v u) (r2:RelV w u'):SeqAt.RcAt A s u u' false/\LS A s u u' true:=by
 obtain ⟨a,ws,d',f,rfl,ha,ol⟩:=IM o1;obtain ⟨b,ws',e',f',rfl,hb,ol'⟩:=IM o2;cases r1;cases r2;obtain ⟨its,rv,⟨ob,nn,e1,e2,e3,e4⟩,_⟩:=I.list (.inl (.inl ha));obtain ⟨its',rv',⟨ob',nn',e1',e2',e3',e4'⟩,_⟩:=I.list (.inl (.inl hb));have hl:(its.toArray.size != its'.toArray.size)=true:=by
  have h1:=rv.length;have h2:=rv'.length;rw [ol.length] at h1;rw [ol'.length] at h2;simp only [Ci,bne_iff_ne];omega
 exact ⟨SeqAt.RcAt.lists_lengths ⟨ob,e1,e2,nn,e4⟩ ⟨ob',e1',e2',nn',e4'⟩ hl (by omega),SeqAt.RcNeAt.lists_lengths ⟨ob,e1,e2,nn,e4⟩ ⟨ob',e1',e2',nn',e4'⟩ hl (by omega)⟩
def T6 {pins:List (Addr×Obj)}{s:Ai}{Z Z':Addr->Prop} (I:L2.Inv X pins σ H s) {d e:Nat}{v w:V}{f1 f2:List Addr}{u u':Ae}{A:AU} (hu:A.units < BU) (o1:Own X.K H Z .emp d v f1) (o2:Own X.K H Z' .emp e w f2) (r1:RelV v u) (r2:RelV w u'):SeqAt.RcAt A s u u' true/\LS A s u u' false:=by
 rw [Own] at o1;rw [Own] at o2;obtain ⟨_,a,rfl,ha⟩:=o1;obtain ⟨_,b,rfl,hb⟩:=o2;cases r1;cases r2;obtain ⟨_,z1,vs,k1,d1⟩:=K3 I.hok ha;obtain ⟨_,z2,ws,k2,d2⟩:=K3 I.hok hb;cases k1;cases k2;exact ⟨λ prog w E Q hq=>PySem.W.keq_eq (knd:=Dm prog w) (r:=true) z1 z2 (IV d1) (IV d2) hu (λ _=>.nil) (by simpa using hq),λ prog w E Q hq=>PySem.W.keq_ne (knd:=Dm prog w) (r:=true) z1 z2 (IV d1) (IV d2) hu (λ _=>.nil) (by simpa using hq)⟩
def Ie (K:Frag) (neg:Bool):R2:=λ v w H Q=>∃ x y d e Z Z' f1 f2,Own K H Z x d v f1/\Own K H Z' y e w f2/\((∃ a b,Cq 20 x=some a/\Cq 20 y=some b/\Q (.bl (neg^^Hg a b)) H)\/(∃ xs ys,x=.lst xs/\y=.lst ys/\Ec (EE 20) xs ys=true/\Q (.bl (neg^^true)) H)\/(∃ xs ys,x=.lst xs/\y=.lst ys/\xs.length≠ys.length/\Q (.bl (neg^^false)) H)\/(∃ a b,x=.str a/\y=.str b/\Q (.bl (neg^^(a == b))) H)\/(x=.emp/\y=.emp/\Q (.bl (neg^^true)) H)\/∃ xs ys,x=.tup xs/\y=.tup ys/\Ec (EE 20) xs ys=true/\Q (.bl (neg^^true)) H)
def Xu (hu:X.A.units + 64 < BU):OpR X (Cv .Eq) (Ie X.K false):=by
 intro pins s σ H v w u u' Q I rx ry h;obtain ⟨x,y,d,e,Z,Z',f1,f2,o1,o2,⟨a,b,h1,h2,q⟩ | ⟨xs,ys,rfl,rfl,h,q⟩ | ⟨xs,ys,rfl,rfl,h,q⟩ | ⟨a,b,rfl,rfl,q⟩ | ⟨rfl,rfl,q⟩ | ⟨xs,ys,rfl,rfl,h,q⟩⟩:=h
 ·obtain ⟨as,ra⟩:=FH I 20 x d v f1 u a h1 o1 rx;obtain ⟨bs,rb⟩:=FH I 20 y e w f2 u' b h2 o2 ry;have l1:=EJ 20 x a h1;have l2:=EJ 20 y b h2;exact SeqAt.compareEq_reads ra rb l1.1 l2.1 (by have:=UM a.depth b.depth;omega) ⟨.bl _,H,I,rfl,by simpa using q⟩
 ·exact (Rq I hu h o1 o2 rx ry).1 _ _ _ _ ⟨.bl _,H,I,rfl,q⟩
 ·exact (Uh I hu h o1 o2 rx ry).1 _ _ _ _ ⟨.bl _,H,I,rfl,q⟩
 ·rw [Own] at o1 o2;obtain ⟨rfl,_⟩:=o1;obtain ⟨rfl,_⟩:=o2;obtain ⟨t,rfl⟩:=rx;obtain ⟨t',rfl⟩:=ry;exact SeqAt.RcAt.str_str a t b t' _ _ _ _ ⟨.bl _,H,I,rfl,by simpa using q⟩
 ·exact (T6 I (by omega) o1 o2 rx ry).1 _ _ _ _ ⟨.bl _,H,I,rfl,q⟩
 ·exact (Q9 I hu h o1 o2 rx ry).1 _ _ _ _ ⟨.bl _,H,I,rfl,q⟩
def WX (hu:X.A.units + 64 < BU):OpR X (Cv .NotEq) (Ie X.K true):=by
 intro pins s σ H v w u u' Q I rx ry h;obtain ⟨x,y,d,e,Z,Z',f1,f2,o1,o2,⟨a,b,h1,h2,q⟩ | ⟨xs,ys,rfl,rfl,h,q⟩ | ⟨xs,ys,rfl,rfl,h,q⟩ | ⟨a,b,rfl,rfl,q⟩ | ⟨rfl,rfl,q⟩ | ⟨xs,ys,rfl,rfl,h,q⟩⟩:=h
 ·obtain ⟨as,ra⟩:=FH I 20 x d v f1 u a h1 o1 rx;obtain ⟨bs,rb⟩:=FH I 20 y e w f2 u' b h2 o2 ry;have l1:=EJ 20 x a h1;have l2:=EJ 20 y b h2;exact SeqAt.compareNe_reads ra rb l1.1 l2.1 (by have:=UM a.depth b.depth;omega) ⟨.bl _,H,I,rfl,by simpa using q⟩
 ·exact (Rq I hu h o1 o2 rx ry).2 _ _ _ _ ⟨.bl _,H,I,rfl,q⟩
 ·exact (Uh I hu h o1 o2 rx ry).2 _ _ _ _ ⟨.bl _,H,I,rfl,q⟩
 ·rw [Own] at o1 o2;obtain ⟨rfl,_⟩:=o1;obtain ⟨rfl,_⟩:=o2;obtain ⟨t,rfl⟩:=rx;obtain ⟨t',rfl⟩:=ry;exact SeqAt.RcNeAt.str_str a t b t' _ _ _ _ ⟨.bl _,H,I,rfl,by simpa using q⟩
 ·exact (T6 I (by omega) o1 o2 rx ry).2 _ _ _ _ ⟨.bl _,H,I,rfl,q⟩
 ·exact (Q9 I hu h o1 o2 rx ry).2 _ _ _ _ ⟨.bl _,H,I,rfl,q⟩
def Rf {neg:Bool}{x y z:PV}{d e c:Nat}{v w:V}{fps:AF}{f1 f2 F:List Addr}{Z Z':Addr->Prop} (hK:M.K=X.K) (ho:Au neg x d y e=some (z,c)) (o1:Own M.K H Z x d v f1) (o2:Own M.K H Z' y e w f2) (lf:Bl M H fps vs F z c Q):Ie X.K neg v w H Q:=by
 rw [hK] at o1 o2;refine ⟨x,y,d,e,Z,Z',f1,f2,o1,o2,?_⟩;unfold Au at ho;split at ho
 ·rename_i a b ea eb;cases ho;exact .inl ⟨a,b,ea,eb,DK lf⟩
 ·split at ho
  ·rename_i xs ys _;split at ho
   ·rename_i hc;cases ho;exact .inr (.inl ⟨xs,ys,rfl,rfl,hc,DK lf⟩)
   ·split at ho
    ·rename_i hc;cases ho;exact .inr (.inr (.inl ⟨xs,ys,rfl,rfl,hc,DK lf⟩))
    ·cases ho
  ·rename_i a b _;cases ho;exact .inr (.inr (.inr (.inl ⟨a,b,rfl,rfl,DK lf⟩)))
  ·cases ho;exact .inr (.inr (.inr (.inr (.inl ⟨rfl,rfl,DK lf⟩))))
  ·rename_i xs ys _;split at ho
   ·rename_i hc;cases ho;exact .inr (.inr (.inr (.inr (.inr ⟨xs,ys,rfl,rfl,hc,DK lf⟩))))
   ·cases ho
  ·cases ho
def Al:PV->Nat->PV->Nat->Option (PV×Nat)
 | .lst xs,_,.int i,_=>(BE xs i).map λ z=>(z,dv z)
 | .tup xs,_,.int i,_=>(BE xs i).map λ z=>(z,dv z)
 | .scr ns,_,.int i,_=>(BE ns i).map λ z=>(.int z,om)
 | .str z,_,.int i,_=>if z.length<=Am then (BE z.cps.toList i).map λ c=>(.str ⟨#[c]⟩,om) else none
 | _,_,_,_=>none
theorem NO {K:Frag}{Z:Addr->Prop}{xs:List PV}{ws:List V}{i:Int}{z:PV} (ol:OwnL K H Z xs 0 ws []) (e:BE xs i=some z):∃ w,BE ws i=some w/\Own K H Z z 0 w []:=by
 unfold BE at e ⊢;rw [ol.length];cases ej:Dj xs.length i with
 | none=>rw [ej] at e;cases e
 | some j=>rw [ej] at e;exact ol.nth e
theorem Tt (hv:∀ i∈vs,M.Ms i=false) (hK:M.K=X.K) (hs:Lu b) (ha:PE X a (tE M f vs)) (hb:PE X b (tE M g vs')):PE X (.Subscript a b pos) (tE M (Ab Al f g) (vs++vs')):=by
 refine Bn (Se SW ha hb hs) λ σ H Q h=>DO hv (λ x d y e z c v w H fps f1 f2 Q ho o1 o2 dj nz zd lf=>?_) h;cases y with
 | int i=>
  rw [Own] at o2;cases x with
  | lst xs=>
   dsimp only [Al] at ho;obtain ⟨z',ez,e2⟩:=jb0.mp ho;cases e2;obtain ⟨p,ws,rfl,hp,ol⟩:=(cold o1 λ a ha=>nz a (BM _ ha)).coldL;obtain ⟨w',e1,ow⟩:=NO ol ez;exact .inl ⟨p,ws,i,w',rfl,o2.1,.inl (.inl hp),e1,J6 lf ow⟩
  | tup xs=>
   dsimp only [Al] at ho;obtain ⟨z',ez,e2⟩:=jb0.mp ho;cases e2;obtain ⟨p,ws,rfl,hp,ol⟩:=(cold o1 λ a ha=>nz a (BM _ ha)).coldT;obtain ⟨w',e1,ow⟩:=NO ol ez;exact .inr (.inl ⟨p,ws,i,w',rfl,o2.1,.inl (.inl hp),e1,J6 lf ow⟩)
  | scr ns=>
   dsimp only [Al] at ho;obtain ⟨z',ez,e2⟩:=jb0.mp ho;cases e2;rw [Own] at o1;obtain ⟨_,p,rfl,hp⟩:=o1;refine .inl ⟨p,ns.map V.int,i,.int z',rfl,o2.1,?_,?_,DM lf⟩
   ·rw [<- hK];exact hp.elim (λ h=>.inl (.inr h)) .inr
   ·unfold BE at ez ⊢;rw [A5];cases ej:Dj ns.length i with
    | none=>rw [ej] at ez;cases ez
    | some j=>
     rw [ej] at ez;show (ns.map V.int)[j]?=_;rw [Cs]
     have:ns[j]?=some z':=ez
     rw [this];rfl
  | str z=>
   dsimp only [Al] at ho;split at ho
   ·rename_i hl;obtain ⟨c',ez,e2⟩:=jb0.mp ho;cases e2;rw [Own] at o1;exact .inr (.inr ⟨z,i,c',o1.1,o2.1,hl,ez,JG lf⟩)
   ·cases ho
  | _=>cases ho
 | _=>cases x <;> cases ho
def Es:Option Fx->Ah->Rz (Option Int×Ah)
 | none,ρ=>.ok (none,ρ)
 | some f,ρ=>(f ρ).bind λ (x,_,ρ1)=>match x with
  | .int i=>.ok (some i,ρ1)
  | _=>.no
def Bt (xs:List PV) (lo hi:Option Int):List PV:=(xs.drop (HT.sIx xs.length 0 lo)).take (HT.sIx xs.length xs.length hi - HT.sIx xs.length 0 lo)
def Gb (x:PV) (lo hi:Option Int):Option (PV×Nat):=match x with
 | .lst xs=>some (.lst (Bt xs lo hi),d1 (Bt xs lo hi))
 | .tup xs=>if HT.sIx xs.length 0 lo=0/\HT.sIx xs.length xs.length hi=xs.length then none else some (.tup (Bt xs lo hi),0)
 | .str z=>if z.length<=Am then some (.str (E5 z lo hi),om) else none
 | _=>none
def AH (f:Fx) (lo hi:Option Fx):Fx:=λ ρ=>(f ρ).bind λ (x,_,ρ1)=>(Es lo ρ1).bind λ (l,ρ2)=>(Es hi ρ2).bind λ (u,ρ3)=>match Gb x l u with
 | some (z,c)=>.ok (z,c,ρ3)
 | none=>.no
def tO (M:Fm):Option (Fx×List Nat)->TO
 | none=>Oe
 | some (f,vs)=>Sm (tE M f vs)
theorem Ut {o:Option (Fx×List Nat)}{ρ:Ah}{fps:AF}{R:Option Int->Hp->Prop} (rep:Rep M ρ σ H fps)
  (q:match Es (o.map (·.1)) ρ with
   | .ok (l,ρ')=>∀ H' fps',KD M H fps H' fps'->Agr M ρ ρ'->Rep M ρ' σ H' fps'->R l H'
   | .exc c=>∀ H' fps',KD M H fps H' fps'->M.W σ c H'
   | .no=>False):tO M o σ H R:=by
 cases o with
 | none=>exact q H fps KD.refl Agr.refl rep
 | some p=>
  obtain ⟨f,vs⟩:=p;refine ⟨ρ,fps,rep,?_⟩;dsimp only [MH,Es] at q;cases ef:f ρ with
  | no=>rw [ef] at q;exact q
  | exc c=>rw [ef] at q;exact q
  | ok p=>
   obtain ⟨x,d,ρ1⟩:=p;rw [ef] at q;intro v H1 fps1 f1 k1 g1 rep1 o1 t1;dsimp only [Rz.bind] at q;cases x with
   | int i=>rw [Own] at o1;exact ⟨i,o1.1,q H1 fps1 k1 g1 rep1⟩
   | _=>exact q.elim
def Ks:V->Option Int->Option Int->Hp->VK->Prop:=λ x lo hi H Q=>∃ z,x=.str z/\z.length<=Am/\Q (.str (E5 z lo hi)) H
theorem Pt:SlR X Ks:=by
 intro pins s σ H x v vl vu lo hi sl Q I rx hs pl pu h;obtain ⟨z,rfl,hz,q⟩:=h;obtain ⟨t,rfl⟩:=rx;have go:∀ (l u:Option (Int×Tok)),vl=partValue l->vu=partValue u->l.map (·.1)=lo->u.map (·.1)=hi->∃ T id,typeLookup (.type T) "__getitem__" = pure (some (.builtin id))/\s.TypeIs (.str z t) T/\An (Ap X.prog X.w) X.A (getItem (.str z t) (.ref sl)) (EP X pins σ Q) X.xe s:=by
  rintro l u rfl rfl rfl rfl;refine ⟨"str",_,F.slot_str_getitem.lookup,Kd _ _ _,wpAny_getItem_str_slice (l:=l) (u:=u) (st:=none) hs rfl (post_val_or_str ⟨Cg (Txt.slice_le z _ _) hz,λ t' k=>⟨.str _,H,I.tok _,⟨_,rfl⟩,q⟩⟩)⟩
 cases pl with
 | none=>
  cases pu with
  | none=>exact go none none rfl rfl rfl rfl
  | int j uj=>exact go none (some (j,uj)) rfl rfl rfl rfl
 | int i ui=>
  cases pu with
  | none=>exact go (some (i,ui)) none rfl rfl rfl rfl
  | int j uj=>exact go (some (i,ui)) (some (j,uj)) rfl rfl rfl rfl
theorem OW {lo hi:Option (Fx×List Nat)} (hv:∀ i∈vs,M.Ms i=false) (hK:M.K=X.K) {σ:St}{H:Hp}{Q:VK} (hq:tE M (AH f (lo.map (·.1)) (hi.map (·.1))) vs σ H Q):RO (λ x lo hi H Q=>Kt X.K x lo hi H Q\/(Kr X.K x lo hi H Q\/Ks x lo hi H Q)) (tE M f vs) (tO M lo) (tO M hi) σ H Q:=by
 obtain ⟨ρ,fps,rep,q⟩:=hq;refine ⟨ρ,fps,rep,?_⟩;unfold AH at q;cases ef:f ρ with
 | no=>rw [ef] at q;exact q
 | exc c=>rw [ef] at q;exact q
 | ok p=>
  obtain ⟨x,d,ρ1⟩:=p;rw [ef] at q;intro v H1 fps1 f1 k1 g1 rep1 o1 t1;dsimp only [Rz.bind] at q;refine Ut rep1 ?_;cases el:Es (lo.map (·.1)) ρ1 with
  | no=>rw [el] at q;exact q
  | exc c=>rw [el] at q;exact λ H' fps' k=>q H' fps' (k1.trans k)
  | ok p2=>
   obtain ⟨l,ρ2⟩:=p2;rw [el] at q;intro H2 fps2 k2 g2 rep2;refine Ut rep2 ?_;dsimp only at q;cases eh:Es (hi.map (·.1)) ρ2 with
   | no=>rw [eh] at q;exact q
   | exc c=>rw [eh] at q;exact λ H' fps' k=>q H' fps' ((k1.trans k2).trans k)
   | ok p3=>
    obtain ⟨u,ρ3⟩:=p3;rw [eh] at q;intro H3 fps3 k3 g3 rep3;dsimp only at q;have kk:=k2.trans k3;have o3:=kk.stay rep1 hv o1 t1.ndj;have n3:∀ a∈f1,¬ Zf M fps3 a:=λ a ha z=>by
     rcases z with z | ⟨i,z⟩
     ·exact t1.ndj a ha (.inl z)
     ·rcases kk.sub i a z with z | z
      ·exact t1.ndj a ha (.inr ⟨i,z⟩)
      ·obtain ⟨xs,e⟩:=Own.lsts x d v f1 o1 a ha;rw [z] at e;cases e
    have back:∀ a,H3 a=none->H a=none:=λ a e=>by
     cases e':H a with
     | none=>rfl
     | some o=>exact absurd e ((k1.trans kk).dom a (by rw [e'];simp))
    cases eo:Gb x l u with
    | none=>rw [eo] at q;exact q.elim
    | some zc=>
     obtain ⟨z,c⟩:=zc;rw [eo] at q;have lf:Bl M H3 fps3 vs f1 z c Q:=λ w H4 fp k4 o4 hfp=>q w H4 fps3 fp ((k1.trans kk).trans (KD.grow k4)) (g1.trans (g2.trans g3)) (rep3.grow k4) o4 ⟨λ a ha=>(hfp a ha).elim (t1.new a) (back a),λ a ha=>(hfp a ha).elim (n3 a) λ z=>rep3.nz z⟩;have c0:=cold o3 n3;unfold Gb at eo;cases x with
     | lst xs=>
      cases eo;obtain ⟨p,ws,rfl,hp,ol⟩:=c0.coldL;refine .inl ⟨p,ws,rfl,.inl (.inl hp),λ q hq=>?_⟩;have e:OwnL M.K H3 (Zv M vs fps3) (Bt xs l u) 0 (CG ws l u) []:=by
       unfold Bt CG;rw [ol.length];exact (ol.drop _).take _
      exact HA lf e hq
     | tup xs=>
      dsimp only at eo;split at eo
      ·cases eo
      ·rename_i hw;cases eo;obtain ⟨p,ws,rfl,hp,ol⟩:=c0.coldT;refine .inr (.inl ⟨p,ws,rfl,.inl (.inl hp),by rw [ol.length];exact hw,λ q hq=>?_⟩);have e:OwnL M.K H3 (Zv M vs fps3) (Bt xs l u) 0 (CG ws l u) []:=by
        unfold Bt CG;rw [ol.length];exact (ol.drop _).take _
       exact N4 lf e hq
     | str z=>
      dsimp only at eo;split at eo
      ·rename_i hz;cases eo;rw [Own] at o3;exact .inr (.inr ⟨z,o3.1,hz,JG lf⟩)
      ·cases eo
     | _=>cases eo
def JJ:PV->String
 | .non => "NoneType"
 | .bl _ => "bool"
 | .int _ => "int"
 | .str _ => "str"
 | .lst _ => "list"
 | .tup _ => "tuple"
 | .emp => "dict"
 | .dko => "dict"
 | .dct _ => "dict"
 | _ => ""
def IA (t T:String):Bool:=t == T || (t == "bool" && T == "int")
def Gq:List String:=["int","bool","str","list","tuple","dict"]
def Eb (T:String) (x:PV) (_:Nat):Option (PV×Nat):=match x with
 | .scr _=>none
 | .exn _=>none
 | _=>some (.bl (IA (JJ x) T),om)
theorem Own.ty {K:Frag}{Z:Addr->Prop}{x:PV}{d:Nat}{v:V}{fp:List Addr} (h:Own K H Z x d v fp) (hs:∀ ns,x≠.scr ns) (hx:∀ c,x≠.exn c):TyOf K H v (.type (JJ x)):=by
 cases x with
 | non=>rw [Own] at h;rw [h.1];exact .non
 | bl b=>rw [Own] at h;rw [h.1];exact .bl b
 | int i=>rw [Own] at h;rw [h.1];exact .int i
 | str s=>rw [Own] at h;rw [h.1];exact .str s
 | emp=>rw [Own] at h;obtain ⟨_,a,e,ha⟩:=h;rw [e];exact .dK ha
 | dko=>rw [Own] at h;obtain ⟨_,a,e,_,ha⟩:=h;rw [e];exact .dK ha
 | scr ns=>exact absurd rfl (hs ns)
 | exn c=>exact absurd rfl (hx c)
 | dct kvs=>
  rw [Own] at h;obtain ⟨a,e,⟨_,hr,_⟩ | ⟨_,ha,_⟩⟩:=h
  ·rw [e];exact .dT hr.1
  ·rw [e];exact .dT ha
 | lst xs=>
  rw [Own] at h;obtain ⟨a,ws,e,⟨_,hr,_,_⟩ | ⟨_,f,ha,_⟩⟩:=h
  ·rw [e];exact .lst hr.1
  ·rw [e];exact .lst ha
 | tup xs=>
  rw [Own] at h;obtain ⟨a,ws,e,hr,_⟩:=h;rw [e];exact .tup hr
end
section
variable {X:Cx}{M:Fm}{a b:Expr}{f g:Fx}{fa:Fa}{vs vs':List Nat}{pos p:Pos}{σ:St}{H:Hp}{Q:VK}{e:Expr}{es:List Expr}
def XQ:PA X [] (tL M Ac []):=Ta Fl λ σ H Q h=>XA h
def YU (hv:∀ i∈vs,M.Ms i=false) (ha:PE X e (tE M f vs)) (hr:PA X es (tL M fa vs')) (hs:A6 (e::es) X.env=(false,eval e X.env)::A6 es X.env):PA X (e::es) (tL M (Ad f fa) (vs++vs')):=
 Ta (DL ha hr hs) λ σ H Q h=>Zl hv h
def JH {op:List (PV×Nat)->Option (PV×Nat)}{r:List V->Hp->VK->Prop}
  (leaf:∀ xs z c ws H fps fp Q,op xs=some (z,c)->Tmps M.K H (Zv M vs fps) xs ws fp->(∀ a∈fp,¬ Zf M fps a)->(∀ a,Zf M fps a->H a≠none)->Bl M H fps vs fp z c Q->r ws H Q)
  {σ:St}{H:Hp}{Q:VK} (hq:tE M (Aj op fa) vs σ H Q):OH r (tL M fa vs) σ H Q:=LN leaf hq
def AA (xs:List (PV×Nat)):Option (PV×Nat):=if xs.length<=Am then some (.lst (xs.map (·.1)),if CY xs then om else 1) else none
def BC (xs:List (PV×Nat)):Option (PV×Nat):=if xs.length<=Am then some (.tup (xs.map (·.1)),if CY xs then om else 0) else none
def X1 (h:PA X es (tL M fa vs)):PE X (.List es pos) (tE M (Aj AA fa) vs):=by
 refine Bn (Tc h) λ σ H Q h=>LN (r:=λ xs H1 Q=>xs.length<=Am/\∀ p,H1 p=none->Q (.ref p) (As H1 p (.lst xs))) (λ xs z c ws H fps fp Q ho tm nz zd lf=>?_) h;unfold AA at ho;split at ho
 ·rename_i hl;refine ⟨by rw [tm.length];exact hl,λ q hq=>?_⟩;cases eo:CY xs with
  | true=>rw [eo] at ho;cases ho;exact NC lf (tm.all (J2 eo)) hq
  | false=>rw [eo] at ho;cases ho;exact NK lf (tm.cold λ a ha z=>nz a ha z.zf) hq
 ·cases ho
def X4 {x1:_} (h:PA X es (tL M fa vs)):PE X (.Tuple es x1 pos) (tE M (Aj BC fa) vs):=by
 refine Bn (Tn h) λ σ H Q h=>LN (r:=λ xs H1 Q=>xs.length<=Am/\∀ p,H1 p=none->Q (.ref p) (As H1 p (.tup xs))) (λ xs z c ws H fps fp Q ho tm nz zd lf=>?_) h;unfold BC at ho;split at ho
 ·rename_i hl;refine ⟨by rw [tm.length];exact hl,λ q hq=>?_⟩;cases eo:CY xs with
  | true=>rw [eo] at ho;cases ho;exact xE lf (tm.all (J2 eo)) hq
  | false=>rw [eo] at ho;cases ho;exact N4 lf (tm.cold λ a ha z=>nz a ha z.zf) hq
 ·cases ho
def ZK:zzo X (.builtin "isinstance") (λ xs H Q=>∃ x t T k,xs=[x,.ty T]/\TyOf X.K H x t/\Eg X.K t (.type T)=some k/\Q (.bl k) H):=by
 intro pins s σ H xs us Q I r h;obtain ⟨x,t,T,k,rfl,ty,hk,q⟩:=h;obtain ⟨u,w,rfl,r1,r2⟩:=M3 r;cases r2;exact xq I r1 ty hk λ tk=>⟨.bl k,H,I.tok _,rfl,q⟩
theorem WJ (K:Frag) {T:String} (hT:T∈Gq) (x:PV) (hs:∀ ns,x≠.scr ns) (hx:∀ c,x≠.exn c):Eg K (.type (JJ x)) (.type T)=some (IA (JJ x) T):=by
 simp only [Gq,jb2,EA,or_false] at hT;cases x with
 | scr ns=>exact absurd rfl (hs ns)
 | exn c=>exact absurd rfl (hx c)
 | _=>rcases hT with h | h | h | h | h | h <;> subst h <;> rfl
def Xz {T:String}{x T':Str}{p1 p2:Pos} (hT:T∈Gq) (hK:M.K=X.K) (ha:PE X e (tE M f vs)) (hg:Gl X "isinstance") (hm:X.mg "isinstance" = none) (hT':PE X (.Name T' p2) (tC (.ty T)))
  (hs1:A6 [e,.Name T' p2] X.env=[(false,eval e X.env),(false,eval (.Name T' p2) X.env)]) (hs2:A6 [Expr.Name T' p2] X.env=[(false,eval (.Name T' p2) X.env)]):
  PE X (.Call (.Name "isinstance" p1) [e,.Name T' p2] [] pos) (tE M (Aq (Eb T) f) vs):=by
 refine Bn (Hs ZK hg hm rfl (DL ha (DL hT' Fl hs2) (by rw [hs1,hs2])) (he:=by rw [hs1,hs2]) (hpl:=by rw [hs2];rfl)) λ σ H Q h=>?_;refine HI (r:=λ v H Q=>∃ x t T' k,[v,.ty T]=[x,.ty T']/\TyOf X.K H x t/\Eg X.K t (.type T')=some k/\Q (.bl k) H) (λ x d z c v H fps f1 Q ho o1 nz zd lf=>?_) h;have hs:∀ ns,x≠.scr ns:=λ ns e=>by subst e;cases ho
 have hx:∀ c,x≠.exn c:=λ c e=>by subst e;cases ho
 have e2:z=.bl (IA (JJ x) T):=by
  cases x with
  | scr ns=>cases ho
  | exn c=>cases ho
  | _=>cases ho;rfl
 subst e2;exact ⟨v,_,T,_,rfl,by rw [<- hK];exact o1.ty hs hx,WJ X.K hT x hs hx,DK lf⟩
def BF:List (PV×Nat)->Option (PV×Nat)
 | [(.lst xs,_)]=>some (.int xs.length,om)
 | [(.tup xs,_)]=>some (.int xs.length,om)
 | [(.scr ns,_)]=>some (.int ns.length,om)
 | [(.str z,_)]=>if z.length<=Am then some (.int z.length,om) else none
 | _=>none
def X0 (hK:M.K=X.K) (hg:Gl X "len") (hm:X.mg "len" = none) (ha:PA X (e::es) (tL M fa vs)) (he:A6 (e::es) X.env=(false,eval e X.env)::A6 es X.env) (hpl:(Dp pos (A6 es X.env)).any (·.1)=false):
  PE X (.Call (.Name "len" p) (e::es) [] pos) (tE M (Aj BF fa) vs):=by
 refine Bn (Hs (zfi.or VB) hg hm PySem.boot_len ha (he:=he) (hpl:=hpl)) λ σ H Q h=>JH (λ xs z c ws H fps fp Q ho tm nz zd lf=>?_) h;unfold BF at ho;split at ho
 ·rename_i xs d;cases ho;obtain ⟨v,r,f1,f2,rfl,_,_,o1,h2⟩:=tm;obtain ⟨rfl,_⟩:=h2;obtain ⟨q,us,rfl,hs,hl⟩:=o1.seqL;exact .inl ⟨q,us,rfl,.inl (by rw [<- hK];exact hs),by rw [hl];exact DM lf⟩
 ·rename_i xs d;cases ho;obtain ⟨v,r,f1,f2,rfl,_,_,o1,h2⟩:=tm;obtain ⟨rfl,_⟩:=h2;obtain ⟨q,us,rfl,hs,hl⟩:=o1.seqT;exact .inl ⟨q,us,rfl,.inr (by rw [<- hK];exact hs),by rw [hl];exact DM lf⟩
 ·rename_i ns d;cases ho;obtain ⟨v,r,f1,f2,rfl,_,_,o1,h2⟩:=tm;obtain ⟨rfl,_⟩:=h2;rw [Own] at o1;obtain ⟨_,q,rfl,hp⟩:=o1;refine .inl ⟨q,ns.map V.int,rfl,.inl ?_,by rw [A5];exact DM lf⟩;rw [<- hK];exact hp.elim (λ h=>.inl (.inr h)) .inr
 ·rename_i z d;split at ho
  ·rename_i hl;cases ho;obtain ⟨v,r,f1,f2,rfl,_,_,o1,h2⟩:=tm;obtain ⟨rfl,_⟩:=h2;rw [Own] at o1;obtain ⟨rfl,_⟩:=o1;exact .inr ⟨_,rfl,hl,DM lf⟩
  ·cases ho
 ·cases ho
def Px (k:Int->Int->Int):List (PV×Nat)->Option (PV×Nat)
 | [(.int i,_),(.int j,_)]=>some (.int (k i j),om)
 | _=>none
def ZZ {k:Int->Int->Int}{xs:List (PV×Nat)}{z:PV}{c:Nat}{ws:List V}{fps:AF}{fp F:List Addr}{Z:Addr->Prop} (ho:Px k xs=some (z,c)) (tm:Tmps M.K H Z xs ws fp) (lf:Bl M H fps vs F z c Q):∃ i j,ws=[.int i,.int j]/\Q (.int (k i j)) H:=by
 unfold Px at ho;split at ho
 ·rename_i i d j e;cases ho;obtain ⟨v,r,f1,f2,rfl,_,_,o1,h2⟩:=tm;obtain ⟨v2,r2,f3,f4,rfl,_,_,o2,h3⟩:=h2;obtain ⟨rfl,_⟩:=h3;rw [Own] at o1 o2;obtain ⟨rfl,_⟩:=o1;obtain ⟨rfl,_⟩:=o2;exact ⟨_,_,rfl,DM lf⟩
 ·cases ho
def Fj:List (PV×Nat)->Option (PV×Nat)
 | [(.lst xs,_)]=>some (.lst xs,d1 xs)
 | [(.tup xs,_)]=>some (.lst xs,d1 xs)
 | _=>none
def YZ (hK:M.K=X.K) (hg:Gl X "list") (hm:X.mg "list" = none) (ha:PA X (e::es) (tL M fa vs)) (he:A6 (e::es) X.env=(false,eval e X.env)::A6 es X.env) (hpl:(Dp pos (A6 es X.env)).any (·.1)=false):
  PE X (.Call (.Name "list" p) (e::es) [] pos) (tE M (Aj Fj fa) vs):=by
 refine Bn (Nq VC hg hm rfl ha (he:=he) (hpl:=hpl)) λ σ H Q h=>JH (λ xs z c ws H fps fp Q ho tm nz zd lf=>?_) h;unfold Fj at ho;split at ho
 ·rename_i xs d;cases ho;obtain ⟨v,r,f1,f2,rfl,rfl,_,o1,h2⟩:=tm;obtain ⟨rfl,rfl⟩:=h2;obtain ⟨q,us,rfl,hs,ol⟩:=(cold (fp:=f1) o1 λ a ha=>nz a (BM _ ha)).coldL;exact ⟨q,us,rfl,.inl (.inl (.inl hs)),λ l hl=>HA lf ol hl⟩
 ·rename_i xs d;cases ho;obtain ⟨v,r,f1,f2,rfl,rfl,_,o1,h2⟩:=tm;obtain ⟨rfl,rfl⟩:=h2;obtain ⟨q,us,rfl,hs,ol⟩:=(cold (fp:=f1) o1 λ a ha=>nz a (BM _ ha)).coldT;exact ⟨q,us,rfl,.inr (.inl (.inl hs)),λ l hl=>HA lf ol hl⟩
 ·cases ho
end
section
variable {X:Cx}{M:Fm}{a b:Expr}{f g:Fx}{fa:Fa}{vs vs':List Nat}{pos p:Pos}{σ:St}{H:Hp}{Q:VK}{e:Expr}{es:List Expr}
def ZJ (hc:X.calm=true):zzo X (.builtin "all") (λ xs H Q=>∃ (p:Addr) (bs:List Bool),xs=[.ref p]/\AX X.K H p (bs.map V.bl)/\Q (.bl (bs.all id)) H):=by
 intro pins s σ H xs us Q I r h;obtain ⟨p,bs,rfl,hq,q⟩:=h;obtain ⟨u,rfl,rx⟩:=Fo r;cases rx;obtain ⟨its,rv,pl,hz⟩:=I.list hq;have hl:=rv.length;rw [A5] at hl;refine call_all_walk (O0 pl.isList ?_);have hlt:p < s.heap.objs.size:=by obtain ⟨o,n,e,_⟩:=pl;exact AJ e
 have hne:p≠s.heap.objs.size:=Bz hlt;refine ⟨s.heap.objs.size,_,_,its.toArray.size,_,_,λ i=>bs.getD i true,rfl,Walks.list (A:=X.A.in1) (show X.A.in1.handled=none from I.ok.hd hc) s.heap.objs.size p hne its.toArray,⟨⟨_,Df _ rfl,rfl,rfl⟩,?_⟩,?_,λ h' tk k=>?_⟩
 ·exact pl.isList.at λ o e=>BZ _ e
 ·intro i v s' Q' E' hv hq';have hv':its[i]?=some v:=by simpa using hv
  have hi:i < bs.length:=by rw [hl];exact (ja3.mp hv').1
  obtain ⟨w,e1,e2⟩:=rv.get (i:=i) (x:=.bl bs[i]) (by simp [hi]);rw [hv'] at e1;cases e1;cases e2;refine FW ?_
  have:bs.getD i true=bs[i]:=by simp [P1,hi]
  dsimp only at hq';rw [this] at hq';exact hq'
 ·have I1:L2.Inv X pins σ H { s with heap:=s.heap.push { cls:=.type "list_iterator",data:=.fields #[.ref p,rawInt 0] } }:=I.kept (t':=s.toks) λ b o e=>BZ _ e;obtain ⟨f0,f1,f2,f3,f4,f5⟩:=I.fpOk (H':=H) (A7 s.heap.objs.size) (I.hok.fresh (A7 _));have I2:L2.Inv X pins σ H { s with heap:=h',toks:=tk }:=I1.turned (t':=tk) (λ b o hb e=>k b o (by simpa using hb) e) f0 f1 f3 f4 f5;refine ⟨.bl _,H,I2,rfl,?_⟩;have e:(Bh its.toArray.size).all (λ i=>bs.getD i true)=bs.all id:=by
   rw [Ci,<- hl];rw [KI];simp only [jd6,jd5,id];constructor
   ·intro h x hx;obtain ⟨i,hi,rfl⟩:=KO hx
    have:=h i hi
    simpa [P1,hi] using this
   ·intro h i hi;simp [P1,hi];exact h _ (Hj hi)
  rw [e];exact q
def allB:List PV->Option (List Bool)
 | []=>some []
 | .bl b::r=>(allB r).map (b::·)
 | _=>none
def HE:List (PV×Nat)->Option (PV×Nat)
 | [(.lst xs,_)]=>(allB xs).map λ bs=>(.bl (bs.all id),om)
 | _=>none
theorem Uu {K:Frag}{Z:Addr->Prop}:∀ {xs:List PV}{ws:List V}{bs:List Bool},allB xs=some bs->OwnL K H Z xs 0 ws []->ws=bs.map V.bl
 | [],ws,bs,e,h=>by cases e;rw [OwnL] at h;exact h.1
 | .bl b::r,ws,bs,e,h=>by
  obtain ⟨bs',e1,rfl⟩:=jb0.mp e;rw [OwnL] at h;obtain ⟨v,s,f1,f2,rfl,ef,dj,h1,h2⟩:=h;obtain ⟨rfl,rfl⟩:f1=[]/\f2=[]:=by simpa using ef.symm
  rw [Own] at h1;rw [h1.1,Uu e1 h2];rfl
 | .non::_,_,_,e,_=>by cases e
 | .int _::_,_,_,e,_=>by cases e
 | .str _::_,_,_,e,_=>by cases e
 | .lst _::_,_,_,e,_=>by cases e
 | .tup _::_,_,_,e,_=>by cases e
 | .emp::_,_,_,e,_=>by cases e
 | .dko::_,_,_,e,_=>by cases e
 | .scr _::_,_,_,e,_=>by cases e
 | .dct _::_,_,_,e,_=>by cases e
 | .exn _::_,_,_,e,_=>by cases e
def Xv (hc:X.calm=true) (hg:Gl X "all") (hm:X.mg "all" = none) (ha:PA X (e::es) (tL M fa vs)) (he:A6 (e::es) X.env=(false,eval e X.env)::A6 es X.env) (hpl:(Dp pos (A6 es X.env)).any (·.1)=false):
  PE X (.Call (.Name "all" p) (e::es) [] pos) (tE M (Aj HE fa) vs):=by
 refine Bn (Hs (ZJ hc) hg hm rfl ha (he:=he) (hpl:=hpl)) λ σ H Q h=>JH (λ xs z c ws H fps fp Q ho tm nz zd lf=>?_) h;unfold HE at ho;split at ho
 ·rename_i xs d;obtain ⟨bs,eb,e2⟩:=jb0.mp ho;cases e2;obtain ⟨v,r,f1,f2,rfl,rfl,_,o1,h2⟩:=tm;obtain ⟨rfl,rfl⟩:=h2;obtain ⟨q,us,rfl,hs,ol⟩:=(cold (fp:=f1) o1 λ a ha=>nz a (BM _ ha)).coldL
  have:=Uu eb ol
  subst this;exact ⟨q,bs,rfl,.inl (.inl hs),DK lf⟩
 ·cases ho
def HC:List PV->Option (List Int)
 | []=>some []
 | .int i::r=>(HC r).map (i::·)
 | _=>none
theorem NA {K:Frag}{Z:Addr->Prop}:∀ {xs:List PV}{ws:List V}{ns:List Int},HC xs=some ns->OwnL K H Z xs 0 ws []->ws=ns.map V.int
 | [],ws,ns,e,h=>by cases e;rw [OwnL] at h;exact h.1
 | .int b::r,ws,ns,e,h=>by
  obtain ⟨ns',e1,rfl⟩:=jb0.mp e;rw [OwnL] at h;obtain ⟨v,s,f1,f2,rfl,ef,dj,h1,h2⟩:=h;obtain ⟨rfl,rfl⟩:f1=[]/\f2=[]:=by simpa using ef.symm
  rw [Own] at h1;rw [h1.1,NA e1 h2];rfl
 | .non::_,_,_,e,_=>by cases e
 | .bl _::_,_,_,e,_=>by cases e
 | .str _::_,_,_,e,_=>by cases e
 | .lst _::_,_,_,e,_=>by cases e
 | .tup _::_,_,_,e,_=>by cases e
 | .emp::_,_,_,e,_=>by cases e
 | .dko::_,_,_,e,_=>by cases e
 | .scr _::_,_,_,e,_=>by cases e
 | .dct _::_,_,_,e,_=>by cases e
 | .exn _::_,_,_,e,_=>by cases e
theorem NB:∀ {ns:List Int}{its:List Ae},Vals (ns.map V.int) its->∃ xs:List (Int×Tok),its=xs.map (λ p=>Value.int p.1 p.2)/\xs.map (·.1)=ns
 | [],its,h=>by cases h;exact ⟨[],rfl,rfl⟩
 | n::ns,its,h=>by
  cases h with
  | cons r rr=>
   obtain ⟨t,rfl⟩:=r;obtain ⟨xs,rfl,rfl⟩:=NB rr;exact ⟨(n,t)::xs,rfl,rfl⟩
def qN (hc:X.calm=true):zzo X (.builtin "min") (λ xs H Q=>∃ (p:Addr) (ns:List Int),xs=[.ref p]/\AX X.K H p (ns.map V.int)/\ns≠[]/\∀ m,m∈ns->(∀ a∈ns,m<=a)->Q (.int m) H):=by
 intro pins s σ H xs us Q I r h;obtain ⟨p,ns,rfl,hq,hn,q⟩:=h;obtain ⟨u,rfl,rx⟩:=Fo r;cases rx;obtain ⟨its,rv,pl,hz⟩:=I.list hq;obtain ⟨zs,rfl,rfl⟩:=NB rv;have e:(zs.map λ p=>Value.int p.1 p.2).toArray=FT zs.toArray:=by simp [FT]
 rw [e] at pl;have h0:0 < zs.length:=by
  cases zs with
  | nil=>exact absurd rfl hn
  | cons _ _=>simp
 refine min_intList (I.ok.hd hc) pl.isList (by simpa using h0) λ v h' tk hv k=>?_;obtain ⟨l1,l2⟩:=argBest_lt (Ee zs.toArray) (zs.toArray.size - 1);have hv':=hv;obtain ⟨t,rfl⟩:=intItems_at hv;have at':∀ j,j < zs.length->Ee zs.toArray j∈zs.map (·.1):=λ j hj=>by
  unfold Ee;simp [hj];exact ⟨_,Hj hj⟩
 refine ⟨.int _,H,I.kept (t':=tk) k,⟨t,rfl⟩,q _ (at' _ ?_) λ a ha=>?_⟩
 ·have:zs.toArray.size=zs.length:=by simp
  omega
 ·obtain ⟨z,hz,rfl⟩:=je6.mp ha;obtain ⟨j,hj,rfl⟩:=KO hz;have hzs:zs.toArray.size=zs.length:=by simp
  have:=l2 j (by omega)
  have e:Ee zs.toArray j=zs[j].1:=by unfold Ee;simp [hj]
  rw [e] at this;exact this
def xU {prog:A0}{w:Ay}{A:AU}{E:Ae->Ai->Prop}{s:Ai}{l:Addr}{xs:Array (Int×Tok)}{Q:Ae->Ai->Prop} (hh:A.handled=none) (hl:s.heap.IsTuple l (FT xs)) (hne:0 < xs.size)
  (h:∀ v h' tk,(FT xs)[argBest (λ i j=>decide (Ee xs i < Ee xs j)) (xs.size - 1)]?=some v->(∀ b o,s.heap.get? b=some o->h'.get? b=some o)->Q v { s with heap:=h',toks:=tk }):
  An (Ap prog w) A (call (.builtin "min") [.ref l]) Q E s:=by
 have hlt:l < s.heap.objs.size:=by obtain ⟨_,e,_⟩:=hl;exact AJ e
 refine call_min_walk (wpAny_pyIter_tuple hl ?_);refine ⟨_,[_,l],[_],_,_,_,_,rfl,Walks.tuple (A:=A.in1) hh _ l (Bz hlt) (FT xs),⟨⟨_,Df _ rfl,rfl,rfl⟩,hl.push _⟩,λ c hc=>?_,by simpa [FT] using hne,CmpOf.ints_lt (Ee xs) (λ _ _=>intItems_at),λ v h' tk hP hk=>?_⟩
 ·show c < (s.heap.push _).objs.size;rw [FV];rcases jb2.mp hc with rfl | hc
  ·exact Fv _
  ·rcases jb2.mp hc with rfl | hc
   ·exact Ip hlt
   ·cases hc
 ·exact h v h' tk (by simpa [FT] using hP) λ c o e=>by
   refine hk c o (λ hm=>?_) (BZ _ e);rcases jb2.mp hm with e1 | hm
   ·exact absurd (e1 ▸ AJ e) (E9 _)
   ·cases hm
def qO (hc:X.calm=true):zzo X (.builtin "min") (λ xs H Q=>∃ (p:Addr) (ns:List Int),xs=[.ref p]/\CL X.K H p (ns.map V.int)/\ns≠[]/\∀ m,m∈ns->(∀ a∈ns,m<=a)->Q (.int m) H):=by
 intro pins s σ H xs us Q I r h;obtain ⟨p,ns,rfl,hq,hn,q⟩:=h;obtain ⟨u,rfl,rx⟩:=Fo r;cases rx;obtain ⟨its,rv,pl,hz⟩:=I.tuple hq;obtain ⟨zs,rfl,rfl⟩:=NB rv;have e:(zs.map λ p=>Value.int p.1 p.2).toArray=FT zs.toArray:=by simp [FT]
 rw [e] at pl;have h0:0 < zs.length:=by
  cases zs with
  | nil=>exact absurd rfl hn
  | cons _ _=>simp
 refine xU (I.ok.hd hc) pl (by simpa using h0) λ v h' tk hv k=>?_;obtain ⟨l1,l2⟩:=argBest_lt (Ee zs.toArray) (zs.toArray.size - 1);have hv':=hv;obtain ⟨t,rfl⟩:=intItems_at hv;have at':∀ j,j < zs.length->Ee zs.toArray j∈zs.map (·.1):=λ j hj=>by
  unfold Ee;simp [hj];exact ⟨_,Hj hj⟩
 refine ⟨.int _,H,I.kept (t':=tk) k,⟨t,rfl⟩,q _ (at' _ ?_) λ a ha=>?_⟩
 ·have:zs.toArray.size=zs.length:=by simp
  omega
 ·obtain ⟨z,hz,rfl⟩:=je6.mp ha;obtain ⟨j,hj,rfl⟩:=KO hz;have hzs:zs.toArray.size=zs.length:=by simp
  have:=l2 j (by omega)
  have e:Ee zs.toArray j=zs[j].1:=by unfold Ee;simp [hj]
  rw [e] at this;exact this
def CA:Int->List Int->Int
 | n,[]=>n
 | n,m::r=>CA (if m < n then m else n) r
theorem N5:∀ (r:List Int) (n:Int),CA n r∈n::r
 | [],n=>Bf
 | m::r,n=>by
  unfold CA
  have:=N5 r (if m < n then m else n)
  rcases jb2.mp this with h | h
  ·rw [h];split
   ·exact AQ _ Bf
   ·exact Bf
  ·exact AQ _ (AQ _ h)
theorem NY:∀ (r:List Int) (n:Int),∀ a∈n::r,CA n r<=a
 | [],n,a,h=>by
  have:a=n:=by simpa using h
  rw [this];exact MK _
 | m::r,n,a,h=>by
  unfold CA;have ih:=NY r (if m < n then m else n);have h1:=ih _ Bf;have h2:(if m < n then m else n)<=n/\(if m < n then m else n)<=m:=by split <;> omega
  rcases jb2.mp h with e | h
  ·rw [e];omega
  ·rcases jb2.mp h with e | h
   ·rw [e];omega
   ·exact ih a (AQ _ h)
def QN {ns:List Int}{m m':Int} (h1:m∈ns) (h2:∀ a∈ns,m<=a) (h3:m'∈ns) (h4:∀ a∈ns,m'<=a):m=m':=by
 have:=h2 m' h3
 have:=h4 m h1
 omega
def DQ:List (PV×Nat)->Option (PV×Nat)
 | [(.lst xs,_)]=>match HC xs with
  | some (n::r)=>some (.int (CA n r),om)
  | _=>none
 | [(.tup xs,_)]=>match HC xs with
  | some (n::r)=>some (.int (CA n r),om)
  | _=>none
 | xs=>Px (λ i j=>if j < i then j else i) xs
def Zc (hc:X.calm=true) (hg:Gl X "min") (hm:X.mg "min" = none) (ha:PA X (e::es) (tL M fa vs)) (he:A6 (e::es) X.env=(false,eval e X.env)::A6 es X.env) (hpl:(Dp pos (A6 es X.env)).any (·.1)=false):
  PE X (.Call (.Name "min" p) (e::es) [] pos) (tE M (Aj DQ fa) vs):=by
 refine Bn (Hs (((qM hc).or (qN hc)).or (qO hc)) hg hm rfl ha (he:=he) (hpl:=hpl)) λ σ H Q h=>JH (λ xs z c ws H fps fp Q ho tm nz zd lf=>?_) h;unfold DQ at ho;split at ho
 ·rename_i xs d;split at ho
  ·rename_i n r eb;cases ho;obtain ⟨v,r',f1,f2,rfl,rfl,_,o1,h2⟩:=tm;obtain ⟨rfl,rfl⟩:=h2;obtain ⟨q,us,rfl,hs,ol⟩:=(cold (fp:=f1) o1 λ a ha=>nz a (BM _ ha)).coldL
   have:=NA eb ol
   subst this;refine .inl (.inr ⟨q,n::r,rfl,.inl (.inl hs),by simp,λ m h1 h2=>?_⟩);rw [QN h1 h2 (N5 r n) (NY r n)];exact DM lf
  ·cases ho
 ·rename_i xs d;split at ho
  ·rename_i n r eb;cases ho;obtain ⟨v,r',f1,f2,rfl,rfl,_,o1,h2⟩:=tm;obtain ⟨rfl,rfl⟩:=h2;obtain ⟨q,us,rfl,hs,ol⟩:=(cold (fp:=f1) o1 λ a ha=>nz a (BM _ ha)).coldT
   have:=NA eb ol
   subst this;refine .inr ⟨q,n::r,rfl,.inl (.inl hs),by simp,λ m h1 h2=>?_⟩;rw [QN h1 h2 (N5 r n) (NY r n)];exact DM lf
  ·cases ho
 ·exact .inl (.inl (ZZ ho tm lf))
abbrev Fn:=List PV->Rz (PV×Nat×PV)
def BH (K:Frag) (io:Bool) (n:Nat) (F:Fn):Sp:=λ ws H Q E=>ws.length=n/\∃ (xs:List PV) (Zo:Addr->Prop) (x0:PV) (v0:V) (fp0:List Addr),
 (∀ a,Zo a->H a≠none)/\(∀ a∈fp0,¬ Zo a)/\(io=false->fp0=[]/\OwnL K H Zo xs 0 ws []) /\
 (io=true->∃ xr wr,xs=x0::xr/\ws=v0::wr/\Own K H (λ _=>True) x0 om v0 fp0/\OwnL K H (λ a=>Zo a\/a∈fp0) xr 0 wr []) /\
 (match F xs with
  | .ok (y,d,z0)=>∀ v H' fp fp0',C0 (λ a=>a∈fp0) H H'->(∀ a,H a≠none->H' a≠none)->(∀ a∈fp0',a∈fp0\/H a=none)->(∀ a∈fp0',¬ Zo a)->(io=false->fp0'=[])->(io=true->Own K H' (λ _=>True) z0 om v0 fp0') ->
    Own K H' (λ a=>(Zo a\/a∈fp0')\/a∈fp) y d v fp->(∀ a∈fp,H a=none/\¬ (Zo a\/a∈fp0'))->Q v H'
  | .exc c=>∀ H',C0 (λ a=>a∈fp0) H H'->(∀ a,H a≠none->H' a≠none)->E (.int (c:Int) 0) none H'
  | .no=>False)
def Az (F:Fn) (fa:Fa):Fx:=λ ρ=>(fa ρ).bind λ (xs,ρ1)=>match F (xs.map (·.1)) with
 | .ok (y,d,_)=>.ok (y,d,ρ1)
 | .exc c=>.exc c
 | .no=>.no
theorem Zj {F:Fn}{n:Nat} (hF:∀ xs,xs.length≠n->F xs=.no) {σ:St}{H:Hp}{Q:VK} (hq:tE M (Az F fa) vs σ H Q):Tv (BH M.K false n F) M.W (tL M fa vs) σ H Q:=by
 obtain ⟨ρ,fps,rep,q⟩:=hq;refine ⟨ρ,fps,rep,?_⟩;unfold Az at q;cases ef:fa ρ with
 | no=>rw [ef] at q;exact q
 | exc c=>rw [ef] at q;exact q
 | ok p=>
  obtain ⟨xs,ρ1⟩:=p;rw [ef] at q;intro ws H1 fps1 f1 k1 g1 rep1 o1 t1;dsimp only [Rz.bind] at q;have back:∀ a,H1 a=none->H a=none:=λ a e=>by
   cases e':H a with
   | none=>rfl
   | some o=>exact absurd e (k1.dom a (by rw [e'];simp))
  show BH M.K false n F ws H1 Q (Ff (M.W σ));have hlen:xs.length=n:=by
   by_cases e:xs.length=n
   ·exact e
   ·rw [hF (xs.map (·.1)) (by rw [A5];exact e)] at q;exact q.elim
  refine ⟨by rw [o1.length,hlen],xs.map (·.1),Zv M vs fps1,.non,.non,[],λ a z=>rep1.zdom z.zf,λ _ z=>(nomatch z),λ _=>⟨rfl,o1.cold λ a ha z=>t1.ndj a ha z.zf⟩,(λ h=>nomatch h),?_⟩;cases eF:F (xs.map (·.1)) with
  | no=>rw [eF] at q;exact q
  | exc c=>
   rw [eF] at q;exact λ H' kp _=>q H' fps1 (k1.trans (KD.grow λ a o h=>kp a o h λ z=>nomatch z))
  | ok r=>
   obtain ⟨y,d,z0⟩:=r;rw [eF] at q;intro v H' fp fp0' kp dm _ _ h0 _ oy hf;have e0:=h0 rfl;subst e0;have kk:∀ a o,H1 a=some o->H' a=some o:=λ a o h=>kp a o h λ z=>nomatch z
   refine q v H' fps1 fp (k1.trans (KD.grow kk)) g1 (rep1.grow kk) (oy.weak λ a h=>h.elim (λ h=>.inl (.inl h)) .inr) ⟨λ a ha=>back a (hf a ha).1,λ a ha=>rep1.nz (hf a ha).1⟩
end
section
variable {prog:A0}{w:Ay}{A:AU}{E:Ae->Ai->Prop}{s:Ai}
structure ZApart (zz ti to p1 p2 q1 q2:Addr):Prop where
 ne1:ti≠zz
 ne2:to≠zz
 ne3:p1≠zz
 ne4:p2≠zz
 ne5:ti≠to
 ne6:ti≠p1
 ne7:ti≠p2
 ne8:to≠p1
 ne9:to≠p2
 nea:p1≠p2
 neb:q1≠zz
 nec:q1≠to
 ned:q1≠p1
 nee:q1≠p2
 nef:q2≠zz
 neg:q2≠to
 neh:q2≠p1
 nei:q2≠p2
section
variable {zz ti to p1 p2 q1 q2:Addr}{n1 n2:Nat}{us vs:Array Ae}{u v a b:Ae}
end
end
section
variable {X:Cx}{pins:List (Addr×Obj)}{σ:St}{H:Hp}{s:Ai}{h':Heap}
def RI {fp:List Addr}{a:Addr}{o:HO}{t':Nat} (I:Inv X pins σ H s) (k:∀ b u,b∉fp->s.heap.get? b=some u->h'.get? b=some u) (hf:∀ b∈fp,BX X pins H b) (ha:s.heap.objs.size<=a) (new:zwb X.prog X.w (As H a o) h' a o):
  Inv X pins σ (As H a o) { s with heap:=h',toks:=t' }:=by
 have hn:H a=none:=I.hok.fresh ha;have nfp:∀ b u,H b=some u->b∉fp:=λ b u e z=>by rw [(hf b z).1] at e;cases e
 have up:∀ b u,H b=some u->As H a o b=some u:=λ b u e=>by rw [AN (λ z=>by rw [z,hn] at e;cases e)];exact e
 refine I.step (g':=s.gens) (d':=s.drawn) (ch:=fp) (λ b hb=>?_) (λ b u _ _ hc e _=>k b u hc e) (λ b u _ _ hc e _=>⟨u.slots,k b u hc e⟩) (λ b u _ e n=>?_) (λ b u hc e=>⟨u,k b u hc e⟩) (λ b xs e=>up b _ e) (λ b _ _ e=>up b _ e) (λ b ps e=>⟨#[],by rw [up b _ e];simp⟩) (λ m hm=>?_) (λ b u e=>?_) I.bare
 ·obtain ⟨_,f1,_,f3,f4,f5⟩:=hf b hb;exact ⟨f3,f1,f4,f5⟩
 ·rw [AN (λ z=>by rw [z] at e;exact absurd (AJ e) (js2.mpr ha))];exact n
 ·obtain ⟨u,es,ep,ho,r⟩:=hm;exact ⟨u,es,ep,k _ u (λ z=>(hf _ z).2.1 rfl) ho,r⟩
 ·by_cases eb:b=a
  ·subst eb;rw [Ce] at e;cases e;exact new
  ·rw [AN eb] at e;refine (I.hok b u e).stay (λ c v hc q=>k c v ?_ q) (λ c q=>up c _ q) λ c xs q=>up c _ q;rcases hc with z | z
   ·rw [z];exact nfp b u e
   ·exact nfp c _ z
def Ld {fp:List Addr}{t':Nat} (I:Inv X pins σ H s) (k:∀ b u,b∉fp->s.heap.get? b=some u->h'.get? b=some u) (hf:∀ b∈fp,BX X pins H b):Inv X pins σ H { s with heap:=h',toks:=t' }:=by
 have nfp:∀ b u,H b=some u->b∉fp:=λ b u e z=>by rw [(hf b z).1] at e;cases e
 refine I.step (g':=s.gens) (d':=s.drawn) (ch:=fp) (λ b hb=>?_) (λ b u _ _ hc e _=>k b u hc e) (λ b u _ _ hc e _=>⟨u.slots,k b u hc e⟩) (λ _ _ _ _ n=>n) (λ b u hc e=>⟨u,k b u hc e⟩) (λ _ _ e=>e) (λ _ _ _ e=>e) (λ b ps e=>⟨#[],by rw [e];simp⟩) (λ m hm=>?_) (λ b u e=>?_) I.bare
 ·obtain ⟨_,f1,_,f3,f4,f5⟩:=hf b hb;exact ⟨f3,f1,f4,f5⟩
 ·obtain ⟨u,es,ep,ho,r⟩:=hm;exact ⟨u,es,ep,k _ u (λ z=>(hf _ z).2.1 rfl) ho,r⟩
 ·refine (I.hok b u e).stay (λ c v hc q=>k c v ?_ q) (λ _ q=>q) λ _ _ q=>q;rcases hc with z | z
  ·rw [z];exact nfp b u e
  ·exact nfp c _ z
end
def GJ (K:Frag) (a:Addr) (n:Nat):It:=
 ⟨λ i H=>i < n/\∃ xs x,AX K H a xs/\xs[n - 1 - i]?=some x,λ i H x H'=>H'=H/\∀ xs,AX K H a xs->xs[n - 1 - i]?=some x,λ i _=>n<=i⟩
def qF {P:A0}{w:Ay}{K:Frag}{tg:Expr} (a it:Addr) (n:Nat):Turn P w K tg (GJ K a n) [it] it (λ i h=>i<=n/\h.IsRevIter it a ((n:Int) - 1 - (i:Int))) where
 mem:=by simp
 obj:=λ i h st b hb=>by
  have e:b=it:=by simpa using hb
  subst e;obtain ⟨_,o,e,c,d⟩:=st;exact ⟨o,e,λ v z=>by rw [d] at z;cases z⟩
 keep:=λ i h h' st k=>⟨st.1,st.2.at λ o e=>k it (by simp) o e⟩
 item:=by
  intro X hP hw hK hc i pins s σ H E I hf st hg;subst hP hw hK;obtain ⟨hn,xs,x,hq,hx⟩:=hg;obtain ⟨its,rv,p,hz⟩:=I.list hq;obtain ⟨u,hu,ru⟩:=rv.get hx;have st2:=st.2;rw [show (n:Int) - 1 - (i:Int)=((n - 1 - i:Nat):Int) by omega] at st2;refine wpAny_pyNext_rev_item st2 p.isList (x:=u) (by simpa using hu) λ h' st' sb=>?_;have I1:Inv X pins σ H { s with heap:=h' }:=Ld (t':=s.toks) I (λ b o hb e=>(sb.2 b (λ z=>hb (by simp [z]))).trans e) hf;obtain ⟨o,e,c,d⟩:=id st';refine ⟨u,rfl,K0 (s:={ s with heap:=h' }) e c d (by decide) ⟨x,H,I1,ru,⟨rfl,λ ys hy=>by rw [I.list_inj hy hq];exact hx⟩,⟨by omega,?_⟩,λ b hb=>(hf b hb).1⟩⟩;rw [show (n:Int) - 1 - ((i + 1:Nat):Int)=((n - 1 - i:Nat):Int) - 1 by omega];exact st'
 done:=by
  intro X hP hw hK hc i pins s σ H E I hf st hg;subst hP hw hK;have hn:n<=i:=hg;have st2:=st.2;rw [show (n:Int) - 1 - (i:Int)=-1 by have:=st.1;omega] at st2;exact wpAny_pyNext_rev_end (I.ok.hd hc) st2 λ h' eb=>⟨rfl,Ld (t':=s.toks) I (λ b o hb e=>eb b o (λ z=>hb (by simp [z])) e) hf⟩
 self:=λ _ _ _ _ _ st h=>wpAny_pyIter_revIter st.2 h
def GK (K:Frag) (a:Addr):It:=
 ⟨λ i H=>∃ xs x,AX K H a xs/\xs[i]?=some x,λ i H v H'=>∃ T x,H T=none/\v=.ref T/\H'=As H T (.tup [.int (i:Int),x])/\∀ xs,AX K H a xs->xs[i]?=some x,λ i H=>∃ xs,AX K H a xs/\xs.length<=i⟩
def xJ {P:A0}{w:Ay}{K:Frag}{es:List Expr}{k:Nat}{pos:Pos} (a e it:Addr) (hne:e≠it):Turn P w K (.Tuple es k pos) (GK K a) [e,it] e (λ i h=>(∃ old,IsEnum h e it (i:Int) old)/\h.IsListIter it a i) where
 mem:=by simp
 obj:=λ i h st b hb=>by
  obtain ⟨⟨old,he⟩,o,ho,c,d⟩:=st;rcases jb2.mp hb with z | z
  ·rw [z];exact ⟨_,he,λ v z=>by cases z⟩
  ·rw [ja6.mp z];exact ⟨o,ho,λ v z=>by rw [d] at z;cases z⟩
 keep:=λ i h h' st k=>by
  obtain ⟨⟨old,he⟩,hi⟩:=st;exact ⟨⟨old,k e (by simp) _ he⟩,hi.at λ o x=>k it (by simp) o x⟩
 item:=by
  intro X hP hw hK hc i pins s σ H E I hf st hg;subst hP hw hK;obtain ⟨xs,x,hq,hx⟩:=hg;obtain ⟨its,rv,p,hz⟩:=I.list hq;obtain ⟨u,hu,ru⟩:=rv.get hx;obtain ⟨⟨old,he⟩,hit⟩:=st;refine wpAny_pyNext_enum_item he hit p.isList (x:=u) (by simpa using hu) hne λ h' ho hit' hT hsz hk=>⟨_,rfl,?_⟩
  refine wpAny_letOwnedTupleGo_enum ho λ h2 he2 hs2=>?_;have hs0:s.heap.objs.size≠e:=Ft (AJ he);have hn:H s.heap.objs.size=none:=I.hok.fresh (A7 _);have hT2:h2.get? s.heap.objs.size=some { cls:=.type "tuple",data:=.seq #[.int (i:Int) s.toks,u] }:=(hs2.2 _ hs0).trans hT;have I1:Inv X pins σ (As H s.heap.objs.size (.tup [.int (i:Int),x])) { s with heap:=h2,toks:=s.toks + 1 }:=by
   refine RI (fp:=[e,it]) I (λ b u hb q=>(hs2.2 b (λ z=>hb (by simp [z]))).trans (hk b u (λ z=>hb (by simp [z])) (λ z=>hb (by simp [z])) q)) hf (A7 _) ?_;exact ⟨Cg (by decide:2<=1000) (by decide),_,.cons ⟨_,rfl⟩ (.cons ru .nil),⟨_,hT2,rfl,_,rfl⟩⟩
  refine ⟨.ref s.heap.objs.size,_,I1,rfl,⟨_,x,hn,rfl,rfl,λ ys hy=>by rw [I.list_inj hy hq];exact hx⟩,⟨⟨u,?_⟩,hit'.at λ o q=>(hs2.2 it (BG hne)).trans q⟩,λ b hb=>?_⟩
  ·rw [show ((i + 1:Nat):Int)=(i:Int) + 1 by omega];exact he2
  ·have hb':=(hf b hb).1;rw [AN (λ z=>?_)]
   ·exact hb'
   ·rcases jb2.mp hb with y | y
    ·rw [y] at z;exact hs0 z.symm
    ·rw [ja6.mp y] at z;obtain ⟨o,q,_⟩:=hit;exact absurd (AJ q) (by rw [z];exact E9 _)
 done:=by
  intro X hP hw hK hc i pins s σ H E I hf st hg;subst hP hw hK;obtain ⟨xs,hq,hx⟩:=hg;obtain ⟨its,rv,p,hz⟩:=I.list hq;obtain ⟨⟨old,he⟩,hit⟩:=st;have hl:=rv.length;exact wpAny_pyNext_enum_end (I.ok.hd hc) he hit p.isList (PU (by simp;omega)) λ h' eb=>⟨rfl,Ld (t':=s.toks) I (λ b o hb q=>eb b o (λ z=>hb (by simp [z])) q) hf⟩
 self:=λ _ _ _ _ _ st h=>by
  obtain ⟨⟨old,he⟩,_⟩:=st;exact wpAny_pyIter_enum he h
def GI (K:Frag) (a b:Addr):It:=
 ⟨λ i H=>∃ xs ys x y,AX K H a xs/\AX K H b ys/\xs[i]?=some x/\ys[i]?=some y,λ i H v H'=>∃ T x y,H T=none/\v=.ref T/\H'=As H T (.tup [x,y])/\∀ xs ys,AX K H a xs->AX K H b ys->xs[i]?=some x/\ys[i]?=some y,λ i H=>∃ xs ys,AX K H a xs/\AX K H b ys/\(xs.length<=i\/ys.length<=i)⟩
def Qx {h:Heap}{z TI TO i1 i2 l1 l2:Addr}{f0:Ae}{a b c d:Ae}{k1 k2:Nat}{xs ys:Array Ae} (hTT:TI≠TO) (Jw:i1≠i2) (hz:IsZip h z TI TO f0) (hTI:IsPair h TI a b) (hTO:IsPair h TO c d) (h1:h.IsListIter i1 l1 k1) (h2:h.IsListIter i2 l2 k2) (hl1:h.IsList l1 xs) (hl2:h.IsList l2 ys):ZipApart z TI TO i1 i2 l1 l2:=by
 obtain ⟨o1,e1,c1,_⟩:=h1;obtain ⟨o2,e2,c2,_⟩:=h2;obtain ⟨p1,q1,r1,_⟩:=hl1;obtain ⟨p2,q2,r2,_⟩:=hl2;have ne:∀ {x y:Addr}{o o':Obj}{n m:String},h.get? x=some o->h.get? y=some o'->o.cls=.type n->o'.cls=.type m->n≠m->x≠y:=λ {x y o o' n m} ex ey cx cy nm z=>by
  subst z;rw [ex] at ey;cases ey;rw [cx] at cy;injection cy with cy
  exact nm cy
 exact ⟨ne hTI hz rfl rfl (by decide),ne hTO hz rfl rfl (by decide),ne e1 hz c1 rfl (by decide),ne e2 hz c2 rfl (by decide),hTT,ne hTI e1 rfl c1 (by decide),ne hTI e2 rfl c2 (by decide),ne hTO e1 rfl c1 (by decide),ne hTO e2 rfl c2 (by decide),Jw,
  ne q1 hz r1 rfl (by decide),ne q1 hTO r1 rfl (by decide),ne q1 e1 r1 c1 (by decide),ne q1 e2 r1 c2 (by decide),ne q2 hz r2 rfl (by decide),ne q2 hTO r2 rfl (by decide),ne q2 e1 r2 c1 (by decide),ne q2 e2 r2 c2 (by decide)⟩
def qH {P:A0}{w:Ay}{K:Frag}{es:List Expr}{k:Nat}{pos:Pos} (l1 l2 z TI TO i1 i2:Addr) (hTT:TI≠TO) (Jw:i1≠i2):
  Turn P w K (.Tuple es k pos) (GI K l1 l2) [z,TI,TO,i1,i2] z (λ i h=>IsZip h z TI TO .none/\IsPair h TI (.ref i1) (.ref i2)/\(∃ p q,IsPair h TO p q)/\h.IsListIter i1 l1 i/\h.IsListIter i2 l2 i) where
 mem:=by simp
 obj:=λ i h st b hb=>by
  obtain ⟨hz,hTI,⟨p,q,hTO⟩,⟨o1,e1,_,d1⟩,⟨o2,e2,_,d2⟩⟩:=st;simp only [jb2,EA,or_false] at hb;rcases hb with rfl | rfl | rfl | rfl | rfl
  ·exact ⟨_,hz,λ v z=>by cases z⟩
  ·exact ⟨_,hTI,λ v z=>by cases z⟩
  ·exact ⟨_,hTO,λ v z=>by cases z⟩
  ·exact ⟨o1,e1,λ v z=>by rw [d1] at z;cases z⟩
  ·exact ⟨o2,e2,λ v z=>by rw [d2] at z;cases z⟩
 keep:=λ i h h' st k=>by
  obtain ⟨hz,hTI,⟨p,q,hTO⟩,h1,h2⟩:=st;exact ⟨k z (by simp) _ hz,k TI (by simp) _ hTI,⟨p,q,k TO (by simp) _ hTO⟩,h1.at λ o x=>k i1 (by simp) o x,h2.at λ o x=>k i2 (by simp) o x⟩
 item:=by
  intro X hP hw hK hc i pins s σ H E I hf st hg;subst hP hw hK;obtain ⟨xs,ys,x,y,hq1,hq2,hx,hy⟩:=hg;obtain ⟨its1,rv1,p1,hz1⟩:=I.list hq1;obtain ⟨its2,rv2,p2,hz2⟩:=I.list hq2;obtain ⟨u1,hu1,ru1⟩:=rv1.get hx;obtain ⟨u2,hu2,ru2⟩:=rv2.get hy;obtain ⟨hz,hTI,⟨p,q,hTO⟩,h1,h2⟩:=st;have D:=Qx hTT Jw hz hTI hTO h1 h2 p1.isList p2.isList;refine wpAny_pyNext_zip_item D hz hTI hTO h1 h2 p1.isList p2.isList (x:=u1) (y:=u2) (by simpa using hu1) (by simpa using hu2) λ h' a1 a2 a3 a4 a5 a6 hk=>⟨_,rfl,?_⟩
  refine wpAny_letOwnedTupleGo_zip a1 λ h2' hz' hs'=>?_;have hn:H s.heap.objs.size=none:=I.hok.fresh (A7 _);have hs0:s.heap.objs.size≠z:=Ft (AJ hz);have I1:Inv X pins σ (As H s.heap.objs.size (.tup [x,y])) { s with heap:=h2',toks:=s.toks }:=by
   refine RI (fp:=[z,TI,TO,i1,i2]) I (λ b u hb e=>(hs'.2 b (λ z=>hb (by simp [z]))).trans (hk b u (λ z=>hb (by simp [z])) (λ z=>hb (by simp [z])) (λ z=>hb (by simp [z])) (λ z=>hb (by simp [z])) e)) hf (A7 _) ?_;exact ⟨Cg (by decide:2<=1000) (by decide),_,.cons ru1 (.cons ru2 .nil),⟨_,(hs'.2 _ hs0).trans a5,rfl,_,rfl⟩⟩
  refine ⟨.ref s.heap.objs.size,_,I1,rfl,⟨_,x,y,hn,rfl,rfl,λ xs' ys' e1 e2=>⟨by rw [I.list_inj e1 hq1];exact hx,by rw [I.list_inj e2 hq2];exact hy⟩⟩,⟨hz',(hs'.2 _ D.TIz).trans (hk _ _ D.TIz D.TITO D.TIi1 D.TIi2 hTI),⟨_,_,(hs'.2 _ D.TOz).trans a2⟩,a3.at λ o e=>(hs'.2 _ D.i1z).trans e,a4.at λ o e=>(hs'.2 _ D.i2z).trans e⟩,λ b hb=>?_⟩;have hb':=(hf b hb).1;have lt:b < s.heap.objs.size:=by
   simp only [jb2,EA,or_false] at hb;rcases hb with rfl | rfl | rfl | rfl | rfl
   ·exact AJ hz
   ·exact AJ hTI
   ·exact AJ hTO
   ·obtain ⟨_,e,_⟩:=h1;exact AJ e
   ·obtain ⟨_,e,_⟩:=h2;exact AJ e
  rw [AN (Bz lt)];exact hb'
 done:=by
  intro X hP hw hK hc i pins s σ H E I hf st hg;subst hP hw hK;obtain ⟨xs,ys,hq1,hq2,hend⟩:=hg;obtain ⟨its1,rv1,p1,hz1⟩:=I.list hq1;obtain ⟨its2,rv2,p2,hz2⟩:=I.list hq2;obtain ⟨hz,hTI,⟨p,q,hTO⟩,h1,h2⟩:=st;have D:=Qx hTT Jw hz hTI hTO h1 h2 p1.isList p2.isList;have r1:=rv1.length;have r2:=rv2.length;refine wpAny_pyNext_zip_end (I.ok.hd hc) D hz hTI hTO h1 h2 p1.isList p2.isList ?_ λ h' hk=>⟨rfl,Ld (t':=s.toks) I (λ b o hb e=>hk b o (λ z=>hb (by simp [z])) (λ z=>hb (by simp [z])) (λ z=>hb (by simp [z])) (λ z=>hb (by simp [z])) e) hf⟩
  rcases hend with h | h
  ·exact .inl (PU (by simp;omega))
  ·exact .inr (PU (by simp;omega))
 self:=λ _ _ _ _ _ st h=>wpAny_pyIter_zip st.1 h
section
variable {X:Cx}{tg:Expr}
def Qe (K:Frag) (ta:TA):TI:=λ σ H R=>ta σ H λ vs H1=>∃ a xs,vs=[.ref a]/\AX K H1 a xs/\R (GJ K a xs.length) H1
def Qf (K:Frag) (ta:TA):TI:=λ σ H R=>ta σ H λ vs H1=>∃ a xs,vs=[.ref a]/\AX K H1 a xs/\R (GK K a) H1
def Qc (K:Frag) (ta:TA):TI:=λ σ H R=>ta σ H λ vs H1=>∃ a b xs ys,vs=[.ref a,.ref b]/\(AX K H1 a xs/\AX K H1 b ys/\R (GI K a b) H1)
theorem Xd {a:Expr}{ta:TA}{p pos:Pos} (hg:Gl X "reversed") (hm:X.mg "reversed" = none) (ha:PA X [a] ta) (hs:A6 [a] X.env=[(false,eval a X.env)]):PI X tg (.Call (.Name "reversed" p) [a] [] pos) (Qe X.K ta):=by
 intro pins s σ H R I h;refine Call_ (Ha I hg hm boot_reversed (Jg (Av (ha pos pins s σ H _ I h) λ us s1 ⟨vs,H1,I1,r1,q1⟩=>?_) hs rfl));obtain ⟨b,xs,e,hq,q⟩:=q1;subst e;cases r1 with
 | cons r rr=>
  cases rr;cases r;obtain ⟨its,rv,pl,hz⟩:=I1.list hq;have hl:=rv.length;refine call_reversed_list pl.isList ?_;have hT:(s1.heap.push (revObj b ((its.toArray.size:Int) - 1))).IsRevIter s1.heap.objs.size b ((its.toArray.size:Int) - 1):=⟨_,Df _ rfl,rfl,rfl⟩
  refine wpAny_pyIter_revIter (s:={ s1 with heap:=s1.heap.push (revObj b ((its.toArray.size:Int) - 1)) }) hT ?_;refine ⟨s1.heap.objs.size,[s1.heap.objs.size],_,_,H1,rfl,I1.kept (t':=s1.toks) λ b o e=>BZ _ e,qF b _ xs.length,⟨CV _,?_⟩,λ c hc=>?_,q⟩
  ·rw [show (xs.length:Int) - 1 - ((0:Nat):Int)=(its.toArray.size:Int) - 1 by simp;omega];exact hT
  ·have e:c=s1.heap.objs.size:=by simpa using hc
   subst e;exact I1.fpOk (A7 _) (I1.hok.fresh (A7 _))
theorem Zx {a:Expr}{ta:TA}{es:List Expr}{k:Nat}{tp p pos:Pos} (hg:Gl X "enumerate") (hm:X.mg "enumerate" = none) (ha:PA X [a] ta) (hs:A6 [a] X.env=[(false,eval a X.env)]):PI X (.Tuple es k tp) (.Call (.Name "enumerate" p) [a] [] pos) (Qf X.K ta):=by
 intro pins s σ H R I h;refine Call_ (Ha I hg hm boot_enumerate (Jg (Av (ha pos pins s σ H _ I h) λ us s1 ⟨vs,H1,I1,r1,q1⟩=>?_) hs rfl));obtain ⟨b,xs,e,hq,q⟩:=q1;subst e;cases r1 with
 | cons r rr=>
  cases rr;cases r;obtain ⟨its,rv,pl,hz⟩:=I1.list hq;refine call_enumerate_list pl.isList λ h' he hit hsz hk=>?_;refine wpAny_pyIter_enum (s:={ s1 with heap:=h' }) he ?_;refine ⟨s1.heap.objs.size + 1,[s1.heap.objs.size + 1,s1.heap.objs.size],_,_,H1,rfl,I1.kept (t':=s1.toks) hk,xJ b _ _ (Nat.succ_ne_self _),⟨⟨_,he⟩,hit⟩,λ c hc=>?_,q⟩;rcases jb2.mp hc with e | e
  ·rw [e];exact I1.fpOk (ML _) (I1.hok.fresh (ML _))
  ·rw [ja6.mp e];exact I1.fpOk (A7 _) (I1.hok.fresh (A7 _))
def Xf {a b:Expr}{ta:TA}{es:List Expr}{k:Nat}{tp p pos:Pos} (hg:Gl X "zip") (hm:X.mg "zip" = none) (ha:PA X [a,b] ta) (hs:A6 [a,b] X.env=[(false,eval a X.env),(false,eval b X.env)]) (hs2:A6 [b] X.env=[(false,eval b X.env)]):
  PI X (.Tuple es k tp) (.Call (.Name "zip" p) [a,b] [] pos) (Qc X.K ta):=by
 intro pins s σ H R I h;refine Call_ (Ha I hg hm boot_zip (Jg (Av (ha pos pins s σ H _ I h) λ us s1 ⟨vs,H1,I1,r1,q1⟩=>?_) (by rw [hs,hs2]) (by rw [hs2];rfl)));obtain ⟨c,d,xs,ys,e,hq1,hq2,q⟩:=q1
 ·subst e;cases r1 with
  | cons r rr=>
   cases rr with
   | cons r' rr=>
    cases rr;cases r;cases r';obtain ⟨its1,rv1,p1,hz1⟩:=I1.list hq1;obtain ⟨its2,rv2,p2,hz2⟩:=I1.list hq2;refine call_zip_2 p1.isList p2.isList λ h' hz hTI hTO h1 h2 hsz hk=>?_;refine wpAny_pyIter_zip (s:={ s1 with heap:=h' }) hz ?_;refine ⟨s1.heap.objs.size + 4,[s1.heap.objs.size + 4,s1.heap.objs.size + 2,s1.heap.objs.size + 3,s1.heap.objs.size,s1.heap.objs.size + 1],_,_,H1,rfl,I1.kept (t':=s1.toks) hk,qH c d _ _ _ _ _ (Bz (Fv _)) (Bz (Fv _)),⟨hz,hTI,⟨_,_,hTO⟩,h1,h2⟩,λ x hx=>?_,q⟩
    have:s1.heap.objs.size<=x:=by
     simp only [jb2,EA,or_false] at hx;rcases hx with rfl | rfl | rfl | rfl | rfl
     ·exact Jt _ _
     ·exact Jt _ _
     ·exact Jt _ _
     ·exact A7 _
     ·exact Jt _ _
    exact I1.fpOk this (I1.hok.fresh this)
end
inductive Vw where
 | rev | enm | zp
def DP:Nat->List PV->List PV
 | _,[]=>[]
 | i,x::xs=>.tup [.int (i:Int),x]::DP (i + 1) xs
def CP:List PV->List PV->List PV
 | x::xs,y::ys=>.tup [x,y]::CP xs ys
 | _,_=>[]
def GO:Vw->List PV->Option (List PV)
 | .rev,[.lst xs]=>some xs.reverse
 | .enm,[.lst xs]=>some (DP 0 xs)
 | .zp,[.lst xs,.lst ys]=>some (CP xs ys)
 | _,_=>none
def Ss (v:Vw) (K:Frag) (ws:List V) (H:Hp) (R:It->Hp->Prop):Prop:=match v with
 | .rev=>∃ a xs,ws=[.ref a]/\AX K H a xs/\R (GJ K a xs.length) H
 | .enm=>∃ a xs,ws=[.ref a]/\AX K H a xs/\R (GK K a) H
 | .zp=>∃ a b xs ys,ws=[.ref a,.ref b]/\(AX K H a xs/\AX K H b ys/\R (GI K a b) H)
def Qd (v:Vw) (K:Frag) (ta:TA):TI:=λ σ H R=>ta σ H λ ws H1=>Ss v K ws H1 R
theorem Qz:∀ (xs:List PV) (k:Nat),(DP k xs).length=xs.length
 | [],_=>rfl
 | x::xs,k=>by rw [DP,Ba,Qz xs,Ba]
theorem Qy:∀ (xs:List PV) (k i:Nat),(DP k xs)[i]?=(xs[i]?).map λ x=>PV.tup [.int ((k + i:Nat):Int),x]
 | [],_,_=>by simp [DP]
 | x::xs,k,0=>by simp [DP]
 | x::xs,k,i + 1=>by
  rw [DP,Jv,Qy xs (k + 1) i,Jv,show k + 1 + i=k + (i + 1) by omega]
theorem Ry:∀ (xs ys:List PV),(CP xs ys).length=min xs.length ys.length
 | [],ys=>by simp [CP]
 | x::xs,[]=>by simp [CP]
 | x::xs,y::ys=>by rw [CP,Ba,Ry xs ys,Ba,Ba];omega
theorem Rx:∀ (xs ys:List PV) (i:Nat) (x y:PV),xs[i]?=some x->ys[i]?=some y->(CP xs ys)[i]?=some (.tup [x,y])
 | [],ys,i,x,y,h,_=>by simp at h
 | a::xs,[],i,x,y,_,h=>by simp at h
 | a::xs,b::ys,0,x,y,h,h'=>by simp at h h';subst h h';simp [CP]
 | a::xs,b::ys,i + 1,x,y,h,h'=>by
  rw [CP,Jv];exact Rx xs ys i x y (by simpa using h) (by simpa using h')
def Own.growH {K:Frag}{H H':Hp}{Z:Addr->Prop}{x:PV}{v:V} (k:∀ a o,H a=some o->H' a=some o) (h:Own K H Z x 0 v []):Own K H' Z x 0 v []:=
 Own.move (S:=λ _=>False) (λ a o h _=>k a o h) (λ _ z=>z.elim) (λ _ _ n=>n) x 0 v [] (λ _ z=>nomatch z) h
def GN {K:Frag}{H:Hp}{Z:Addr->Prop}{xs:List PV}{v:V} (o:Own K H Z (.lst xs) 0 v []):∃ a ws,v=.ref a/\AX K H a ws/\OwnL K H Z xs 0 ws []:=by
 rw [Own] at o;obtain ⟨b,ws,e,⟨_,hr,_,ol⟩ | ⟨h,_⟩⟩:=o
 ·exact ⟨b,ws,e,.inl (.inl hr.1),ol⟩
 ·exact absurd rfl h
def Rl {K:Frag}{H:Hp}{Z:Addr->Prop}{x y:PV}{u v:V}{T:Addr} (hT:H T=some (.tup [u,v])) (ox:Own K H Z x 0 u []) (oy:Own K H Z y 0 v []):Own K H Z (.tup [x,y]) 0 (.ref T) []:=by
 rw [Own];refine ⟨T,_,rfl,hT,?_⟩;rw [TR,OwnL];refine ⟨u,[v],[],[],rfl,rfl,(λ _ z=>nomatch z),ox,?_⟩;rw [OwnL];exact ⟨v,[],[],[],rfl,rfl,(λ _ z=>nomatch z),oy,by rw [OwnL];exact ⟨rfl,rfl⟩⟩
def OwnL.one {K:Frag}{H:Hp}{Z:Addr->Prop}{x:PV}{ws:List V} (o:OwnL K H Z [x] 0 ws []):∃ v,ws=[v]/\Own K H Z x 0 v []:=by
 rw [OwnL] at o;obtain ⟨v,r,f1,f2,rfl,ef,_,o1,o2⟩:=o;obtain ⟨rfl,rfl⟩:f1=[]/\f2=[]:=by simpa using ef.symm
 rw [OwnL] at o2;exact ⟨v,by rw [o2.1],o1⟩
def OwnL.two {K:Frag}{H:Hp}{Z:Addr->Prop}{x y:PV}{ws:List V} (o:OwnL K H Z [x,y] 0 ws []):∃ u v,ws=[u,v]/\Own K H Z x 0 u []/\Own K H Z y 0 v []:=by
 rw [OwnL] at o;obtain ⟨u,r,f1,f2,rfl,ef,_,o1,o2⟩:=o;obtain ⟨rfl,rfl⟩:f1=[]/\f2=[]:=by simpa using ef.symm
 obtain ⟨v,rfl,o3⟩:=o2.one;exact ⟨u,v,rfl,o1,o3⟩
theorem OwnL.mono0 {K:Frag}{H H':Hp}{Z Z':Addr->Prop} (h:∀ x v,Own K H Z x 0 v []->Own K H' Z' x 0 v []):∀ {xs:List PV}{ws:List V},OwnL K H Z xs 0 ws []->OwnL K H' Z' xs 0 ws []
 | [],ws,o=>by rw [OwnL] at o ⊢;exact o
 | x::xs,ws,o=>by
  rw [OwnL] at o;obtain ⟨u,r,f1,f2,rfl,ef,_,o1,o2⟩:=o;obtain ⟨rfl,rfl⟩:f1=[]/\f2=[]:=by simpa using ef.symm
  rw [OwnL];exact ⟨u,r,[],[],rfl,rfl,(λ _ z=>nomatch z),h _ _ o1,OwnL.mono0 h o2⟩
def Su {v:Vw}{ps els:List PV}{ws:List V}{K:Frag}{H:Hp}{Z:Addr->Prop} (he:GO v ps=some els) (o:OwnL K H Z ps 0 ws []):∃ J,(∀ R:It->Hp->Prop,R J H->Ss v K ws H R)/\∀ H Z,OwnL K H Z ps 0 ws []->∀ i,(i < els.length->J.go i H)/\(els.length<=i->J.stop i H) /\
  (i < els.length->∀ x H',J.yld i H x H'->(∀ a o,H a=some o->H' a=some o)/\∃ y,els[i]?=some y/\Own K H' Z y 0 x []):=by
 unfold GO at he;split at he
 ·rename_i xs;cases he;obtain ⟨v,rfl,o1⟩:=o.one;obtain ⟨a,us,rfl,sq,ol⟩:=GN o1;refine ⟨GJ K a us.length,λ R r=>⟨a,us,rfl,sq,r⟩,λ H' Z' o' i=>?_⟩;obtain ⟨v',e,o1'⟩:=o'.one;cases e;obtain ⟨a',us',e,sq',ol'⟩:=GN o1';cases e;have hl:=ol.length;have hl':=ol'.length;rw [KN];refine ⟨λ h=>⟨by omega,us',us'[us.length - 1 - i]'(by omega),sq',by simp⟩,λ h=>?_,λ h x H2 y=>?_⟩
  ·show us.length<=i;omega
  ·obtain ⟨rfl,e2⟩:=y;refine ⟨λ _ _ h=>h,?_⟩;obtain ⟨z,ez,oz⟩:=ol'.get (e2 us' sq');refine ⟨z,?_,oz⟩;rw [List.getElem?_reverse (by omega),<- ez,hl]
 ·rename_i xs;cases he;obtain ⟨v,rfl,o1⟩:=o.one;obtain ⟨a,us,rfl,sq,ol⟩:=GN o1;refine ⟨GK K a,λ R r=>⟨a,us,rfl,sq,r⟩,λ H' Z' o' i=>?_⟩;obtain ⟨v',e,o1'⟩:=o'.one;cases e;obtain ⟨a',us',e,sq',ol'⟩:=GN o1';cases e;have hl':=ol'.length;rw [Qz];refine ⟨λ h=>⟨us',us'[i]'(by omega),sq',by simp⟩,λ h=>⟨us',sq',by omega⟩,λ h x H2 y=>?_⟩;obtain ⟨T,u,hT,rfl,rfl,e2⟩:=y;have kx:∀ a o,H' a=some o->As H' T (.tup [.int (i:Int),u]) a=some o:=λ a o h=>by rw [AN (λ z=>by rw [z,hT] at h;cases h)];exact h
  refine ⟨kx,?_⟩;obtain ⟨z,ez,oz⟩:=ol'.get (e2 us' sq');refine ⟨.tup [.int (i:Int),z],?_,Rl Ce (by rw [Own];exact ⟨rfl,rfl⟩) (oz.growH kx)⟩;rw [Qy,ez];simp
 ·rename_i xs ys;cases he;obtain ⟨v1,v2,rfl,o1,o2⟩:=o.two;obtain ⟨a,us,rfl,sq,ol⟩:=GN o1;obtain ⟨b,vs,rfl,sq2,ol2⟩:=GN o2;refine ⟨GI K a b,λ R r=>⟨a,b,us,vs,rfl,sq,sq2,r⟩,λ H' Z' o' i=>?_⟩;obtain ⟨v1',v2',e,o1',o2'⟩:=o'.two;cases e;obtain ⟨a',us',e,sq',ol'⟩:=GN o1';cases e;obtain ⟨b',vs',e,sq2',ol2'⟩:=GN o2';cases e;have hl1:=ol'.length;have hl2:=ol2'.length;rw [Ry];refine ⟨λ h=>⟨us',vs',us'[i]'(by omega),vs'[i]'(by omega),sq',sq2',by simp,by simp⟩,λ h=>⟨us',vs',sq',sq2',by omega⟩,λ h x H2 y=>?_⟩;obtain ⟨T,u,w,hT,rfl,rfl,e2⟩:=y;have kx:∀ a o,H' a=some o->As H' T (.tup [u,w]) a=some o:=λ a o h=>by rw [AN (λ z=>by rw [z,hT] at h;cases h)];exact h
  obtain ⟨e3,e4⟩:=e2 us' vs' sq' sq2';obtain ⟨z1,ez1,oz1⟩:=ol'.get e3;obtain ⟨z2,ez2,oz2⟩:=ol2'.get e4;exact ⟨kx,.tup [z1,z2],Rx _ _ _ _ _ ez1 ez2,Rl Ce (oz1.growH kx) (oz2.growH kx)⟩
 ·cases he
section
variable {is:List Nat}{M:Fm}{ρ ρ':Ah}{σ σ':St}{H H' H'':Hp}{fps fps' fps'':AF}{vs vs':List Nat}
def Jn (v:Vw) (fa:Fa) (vs:List Nat) (asg:PV->Ah->Option Ah) (body:Fs):Fs:=λ ρ=>match fa ρ with
 | .ok (xs,ρ1)=>(match GO v (xs.map (·.1)) with
  | some els=>Bm asg body els (Bg (if CY xs=true then om else 0) vs ρ1)
  | none=>.no)
 | .exc c=>.exc c
 | .no=>.no
def OZ (v:Vw) (fa:Fa) (k:Nat) (asg:PV->Ah->Option Ah) (test:Fb) (elt:Fx):Fx:=λ ρ=>match fa ρ with
 | .ok (xs,ρ1)=>(match GO v (xs.map (·.1)) with
  | some els=>(Ct k asg test elt els ρ1 []).bindN λ (acc,ρ2)=>ED acc ρ2
  | none=>.no)
 | .exc c=>.exc c
 | .no=>.no
theorem Rep.seens {xs:List (PV×Nat)}{ws:List V}{fp:List Addr} (rep:Rep M ρ σ H fps) (k:KD M H fps H' fps') (g:Agr M ρ ρ') (r':Rep M ρ' σ H' fps') (o:Tmps M.K H' (Zv M vs fps') xs ws fp) (t:Temp M vs H H' fps' fp)
  (hal:∀ i,M.al i=[]) (hv:∀ i∈vs,M.Ms i=false):∃ fps2,KS M H fps H' fps2/\Rep M (Bg (if CY xs=true then om else 0) vs ρ') σ H' fps2/\OwnL M.K H' (Zf M fps2) (xs.map (·.1)) 0 ws []:=by
 unfold Bg;cases ho:CY xs with
 | true=>
  rw [if_pos rfl,if_pos rfl];refine ⟨fps',k.ks,r',?_⟩;exact OwnL.freeze (λ _ z=>z) _ om ws fp (λ a ha=>t.ndj a ha) (OwnL.full _ ws fp (o.all (J2 ho)))
 | false=>
  rw [if_neg Di,if_neg (by decide)];exact ⟨DA vs fps',k.ks.cool,r'.cool hal hv,(o.cold λ a ha z=>t.ndj a ha z.zf).weak λ a h=>GU h⟩
theorem Um {v:Vw}{g:TG}{asg:PV->Ah->Option Ah}{body:Fs}{fa:Fa}{D:Ends} (hal:∀ i,M.al i=[]) (hv:∀ i∈vs,M.Ms i=false) (hg:Dz M [] is g asg) (hq:tS M (Jn v fa vs asg body) D σ H):EM (Qd v M.K (tL M fa vs)) g (tS M body) D σ H:=by
 obtain ⟨ρ,fps,rep,q⟩:=hq;refine ⟨ρ,fps,rep,?_⟩;unfold Jn at q;cases ef:fa ρ with
 | no=>rw [ef] at q;exact q
 | exc c=>rw [ef] at q;exact λ H' fps' k=>q _ H' fps' k.ks
 | ok p=>
  obtain ⟨xs,ρ1⟩:=p;rw [ef] at q;intro ws H1 fps1 f1 k1 g1 rep1 o1 t1;dsimp only at q;cases ee:GO v (xs.map (·.1)) with
  | none=>rw [ee] at q;exact q.elim
  | some els=>
   rw [ee] at q;obtain ⟨fps2,k2,r2,o2⟩:=Rep.seens rep k1 g1 rep1 o1 t1 hal hv;obtain ⟨J,hpre,hJ⟩:=Su ee o2;refine hpre _ ?_;exact JV (Pq:=λ H fps=>OwnL M.K H (Zf M fps) (xs.map λ (p:PV×Nat)=>p.1) 0 ws []) (els:=els) hg (λ r k o=>o.mono0 λ x v h=>k.stay0 r h) (λ {H fps i} o h=>(hJ H _ o i).1 h) (λ {H fps i} o h=>(hJ H _ o i).2.1 h) (λ {ρ σ H fps i x H'} _ o h y=>(hJ H _ o i).2.2 h x H' y) r2 o2 (RsOk.from k2 q)
theorem qX {v:Vw}{g:TG}{is vI vE vo:List Nat}{asg:PV->Ah->Option Ah}{test:Fb}{elt:Fx}{fa:Fa}{k n:Nat}{Q:VK}{P:Fm->Prop}
  (hn:σ.length=n) (hP:∀ D,P (M.comp D n vI)) (hal:∀ i,∀ j∈M.al i,M.Ms j=false) (hvI:∀ i∈vI,M.Ms i=false) (hvE:∀ i∈vE,M.Ms i=false) (his:∀ i∈is,n<=i) (hg:∀ D,Dz (M.comp D n vI) vI is g asg)
  (hvo:∀ i,i∈vE->i < n->i∈vo) (hvo2:∀ i∈vo,M.Ms i=false) (hq:tE M (OZ v fa k asg test elt) vo σ H Q):
  HH k (Qd v M.K (tL M fa vI)) g (λ σ H Q=>∃ M',P M'/\tT M' test σ H Q) (λ σ H Q=>∃ M',P M'/\tE M' elt vE σ H Q) σ H Q:=by
 obtain ⟨ρ,fps,rep,q⟩:=hq;refine ⟨ρ,fps,rep,?_⟩;unfold OZ at q;cases ef:fa ρ with
 | no=>rw [ef] at q;exact q
 | exc c=>rw [ef] at q;exact q
 | ok p=>
  obtain ⟨xs,ρ1⟩:=p;rw [ef] at q;intro ws H1 fps1 f1 k1 g1 rep1 o1 t1;dsimp only at q;cases ee:GO v (xs.map (·.1)) with
  | none=>rw [ee] at q;exact q.elim
  | some els=>
   rw [ee] at q;have hl:n=ρ1.length:=by rw [rep1.len];exact hn.symm
   have o0:OwnL M.K H1 (Zv M vI fps1) (xs.map (·.1)) 0 ws []:=o1.cold λ a ha z=>t1.ndj a ha z.zf;obtain ⟨J,hpre,hJ⟩:=Su ee o0;refine hpre _ ?_;have stay:∀ {D H' fps'},H1 D=none->KD M H1 fps1 H' fps'->OwnL M.K H' (Zv (M.plus [D]) vI fps') (xs.map (·.1)) 0 ws []:=λ hD k'=>o0.mono0 λ x v h=>KD.seen rep1 k' hD hvI h;refine JQ (els:=els) hP hl hal hvI hvE his hg hvo hvo2 rep1 (λ {D H' fps' i} hD k' h=>(hJ H' _ (stay hD k') i).1 h) (λ {D H' fps' i} hD k' h=>(hJ H' _ (stay hD k') i).2.1 h) (λ {D H' fps' i x H''} hD k' h y=>(hJ H' _ (stay hD k') i).2.2 h x H'' y) ?_;dsimp only at q;cases ec:Ct k asg test elt els ρ1 [] with
   | no=>rw [ec] at q;exact q.elim
   | exc c=>rw [ec] at q;exact q.elim
   | ok p=>
    obtain ⟨acc,ρ2⟩:=p;rw [ec] at q;exact λ D ws H' fps' fpl k g r hD hD' tm hf=>N2 rep1 k1 g1 q k g r hD hD' tm hf
end
section
variable {X:Cx}{M:Fm}{f g:Fx}{fa:Fa}{vs vs':List Nat}{a b e:Expr}{es:List Expr}{pos p p2:Pos}{σ:St}{H:Hp}{Q:VK}
def Em:PV->Nat->Option (PV×Nat)
 | .lst xs,_=>some (.lst xs.reverse,d1 xs.reverse)
 | .str z,_=>if z.length<=Am then some (.str ⟨z.cps.toList.reverse.toArray⟩,om) else none
 | _,_=>none
def VI (K:Frag):V->Hp->VK->Prop:=λ x H1 Q=>(∃ l xs,x=.ref l/\AX K H1 l xs/\∀ p,H1 p=none->Q (.ref p) (As H1 p (.lst xs.reverse)))\/∃ z,x=.str z/\z.length<=Am/\Q (.str ⟨z.cps.toList.reverse.toArray⟩) H1
def Z5 (z:Str) (tk u:Tok):PySem.sliceMade z tk none none (some (-1,u))=.str ⟨z.cps.toList.reverse.toArray⟩:=by
 unfold PySem.sliceMade PySem.slicePicked;rw [if_neg (by simp)];have e:FX none none (-1) z.length=(Bh z.cps.size).reverse:=by
  have e1:FX none none (-1) z.length=sliceRange ((z.length:Int) - 1) (-1) (-1):=rfl;rw [e1,PySem.W.krv_sliceRange,PySem.W.krv_range];rfl
 show Made.str ⟨((FX none none (-1) z.length).filterMap (z.cps[·]?)).toArray⟩=_;rw [e,List.filterMap_reverse,PySem.W.krv_all]
theorem Rw:∀ {xs:List V}{us:List Ae},Vals xs us->Vals xs.reverse us.reverse
 | _,_,.nil=>.nil
 | _,_,.cons r rr=>by rw [KJ,KJ];exact (Rw rr).append (.cons r .nil)
theorem OwnL.snoc0 {K:Frag}{H:Hp}{Z:Addr->Prop}{x:PV}{v:V}:∀ {xs:List PV}{ws:List V},OwnL K H Z xs 0 ws []->Own K H Z x 0 v []->OwnL K H Z (xs++[x]) 0 (ws++[v]) []
 | [],ws,h,o=>by
  rw [OwnL] at h;obtain ⟨rfl,_⟩:=h;rw [KH,KH,OwnL];exact ⟨v,[],[],[],rfl,rfl,(λ _ z=>nomatch z),o,by rw [OwnL];exact ⟨rfl,rfl⟩⟩
 | y::xs,ws,h,o=>by
  rw [OwnL] at h;obtain ⟨u,r,f1,f2,rfl,ef,_,o1,o2⟩:=h;obtain ⟨rfl,rfl⟩:f1=[]/\f2=[]:=by simpa using ef.symm
  rw [PH,PH,OwnL];exact ⟨u,r++[v],[],[],rfl,rfl,(λ _ z=>nomatch z),o1,OwnL.snoc0 o2 o⟩
theorem OwnL.rev {K:Frag}{H:Hp}{Z:Addr->Prop}:∀ {xs:List PV}{ws:List V},OwnL K H Z xs 0 ws []->OwnL K H Z xs.reverse 0 ws.reverse []
 | [],ws,h=>by
  rw [OwnL] at h;obtain ⟨rfl,_⟩:=h;rw [List.reverse_nil,OwnL];exact ⟨rfl,rfl⟩
 | y::xs,ws,h=>by
  rw [OwnL] at h;obtain ⟨u,r,f1,f2,rfl,ef,_,o1,o2⟩:=h;obtain ⟨rfl,rfl⟩:f1=[]/\f2=[]:=by simpa using ef.symm
  rw [KJ,KJ];exact OwnL.snoc0 (OwnL.rev o2) o1
def VZ {te:TE}{k:Nat}{p3 p4:Pos} (he:PE X a te):PE X (.Subscript a (.Slice none none (some (.UnaryOp .USub (.Constant (.int 1) k p3) p4)) p2) pos) (OD (VI X.K) te):=by
 intro pins s σ H Q I h;refine Subscript_ (Av (he pins s σ H _ I h) λ v s1 ⟨x,H1,I1,r1,q1⟩=>?_);have hp:=J8 (Sf (pos:=p4) Ti (LA (X:=X) (i:=1) (j:=k) (pos:=p3)));have hn:PO X none Oe:=Oa;obtain ⟨l,xs,rfl,hq,q⟩ | ⟨z,rfl,hz,q⟩:=q1
 ·cases r1;refine wpAny_Slice (Av (hn pins s1 σ H1 (λ o H'=>o=none/\H'=H1) I1 ⟨rfl,rfl⟩) λ vl s2 ⟨o2,H2,I2,p2',e2⟩=>?_);obtain ⟨rfl,rfl⟩:=e2;refine Av (hn pins s2 σ H2 (λ o H'=>o=none/\H'=H2) I2 ⟨rfl,rfl⟩) λ vu s3 ⟨o3,H3,I3,p3',e3⟩=>?_;obtain ⟨rfl,rfl⟩:=e3;refine Av (hp pins s3 σ H3 (λ o H'=>o=some (-1)/\H'=H3) I3 ⟨1,rfl,-1,rfl,rfl,rfl⟩) λ vk s4 ⟨o4,H4,I4,p4',e4⟩=>?_;obtain ⟨rfl,rfl⟩:=e4;have I5:Inv X pins σ H4 { s4 with heap:=s4.heap.push { cls:=.type "slice",data:=.fields #[vl,vu,vk] } }:=I4.kept (t':=s4.toks) λ b ob q=>BZ _ q;obtain ⟨its,r,ht,hz⟩:=I5.list hq;have hlen:=r.length;show An (Ap X.prog X.w) X.A (LW a (.Slice none none (some (.UnaryOp .USub (.Constant (.int 1) k p3) p4)) p2) (.ref l) (.ref s4.heap.objs.size)) (EP X pins σ Q) X.xe { s4 with heap:=s4.heap.push { cls:=.type "slice",data:=.fields #[vl,vu,vk] } };refine tail_any (ops:=[.ref l,.ref s4.heap.objs.size]) ht.isList.typeIs slot_list_getitem.lookup ?_ (by with_unfolding_all rfl);refine wpAny_getItem_list_slice ht.isList (Heap.IsSliceOf.new ..) p2' p3' p4' (by simp) ?_ (by rw [Ci] <;> omega);rw [PySem.W.krv_pick];refine ⟨.ref _,_,I5.laid (o:=.lst xs.reverse) (λ b ob q=>BZ _ q) (A7 _) ?_,rfl,q _ (I5.hok.fresh (A7 _))⟩;refine ⟨by rw [KN];exact hz,its.reverse,0,Rw r,Df _ rfl⟩
 ·obtain ⟨tk,rfl⟩:=r1;refine wpAny_Slice (Av (hn pins s1 σ H1 (λ o H'=>o=none/\H'=H1) I1 ⟨rfl,rfl⟩) λ vl s2 ⟨o2,H2,I2,p2',e2⟩=>?_);obtain ⟨rfl,rfl⟩:=e2;refine Av (hn pins s2 σ H2 (λ o H'=>o=none/\H'=H2) I2 ⟨rfl,rfl⟩) λ vu s3 ⟨o3,H3,I3,p3',e3⟩=>?_;obtain ⟨rfl,rfl⟩:=e3;refine Av (hp pins s3 σ H3 (λ o H'=>o=some (-1)/\H'=H3) I3 ⟨1,rfl,-1,rfl,rfl,rfl⟩) λ vk s4 ⟨o4,H4,I4,p4',e4⟩=>?_;obtain ⟨rfl,rfl⟩:=e4;cases p2';cases p3';cases p4' with
  | int _ u=>
   have I5:Inv X pins σ H4 { s4 with heap:=s4.heap.push { cls:=.type "slice",data:=.fields #[.none,.none,.int (-1) u] } }:=I4.kept (t':=s4.toks) λ b ob q=>BZ _ q;show An (Ap X.prog X.w) X.A (LW a (.Slice none none (some (.UnaryOp .USub (.Constant (.int 1) k p3) p4)) p2) (.str z tk) (.ref s4.heap.objs.size)) (EP X pins σ Q) X.xe { s4 with heap:=s4.heap.push { cls:=.type "slice",data:=.fields #[.none,.none,.int (-1) u] } };refine tail_any (ops:=[.str z tk,.ref s4.heap.objs.size]) (Kd _ z tk) PySem.F.slot_str_getitem.lookup ?_ (by with_unfolding_all rfl);refine wpAny_getItem_str_slice (l:=none) (u:=none) (st:=some (-1,u)) ⟨_,Df _ rfl,rfl,rfl⟩ rfl ?_;rw [Z5];refine ⟨?_,.str _,H4,I5.tok _,⟨_,rfl⟩,q⟩;show z.cps.toList.reverse.toArray.size<=Am;have hz':z.cps.size<=Am:=hz;simpa using hz'
theorem Wg {k:Nat}{p3 p4:Pos} (hK:M.K=X.K) (ha:PE X a (tE M f vs)):PE X (.Subscript a (.Slice none none (some (.UnaryOp .USub (.Constant (.int 1) k p3) p4)) p2) pos) (tE M (Aq Em f) vs):=by
 refine Bn (VZ ha) λ σ H Q h=>HI (λ x d z c v H fps f1 Q ho o1 nz zd lf=>?_) h;cases x with
 | lst xs=>
  cases ho;obtain ⟨q,us,rfl,hs,ol⟩:=(cold o1 λ a ha=>nz a ha).coldL;exact .inl ⟨q,us,rfl,.inl (.inl hs),λ l hl=>HA lf (OwnL.rev ol) hl⟩
 | str z=>
  dsimp only [Em] at ho;split at ho
  ·rename_i hl;cases ho;rw [Own] at o1;exact .inr ⟨z,o1.1,hl,JG lf⟩
  ·cases ho
 | _=>cases ho
def DW:List (PV×Nat)->Option (PV×Nat)
 | [(.bl b,_)]=>some (.int (if b then 1 else 0),om)
 | [(.int i,_)]=>some (.int i,om)
 | _=>none
def YX (hg:Gl X "int") (hm:X.mg "int" = none) (ha:PA X (e::es) (tL M fa vs)) (he:A6 (e::es) X.env=(false,eval e X.env)::A6 es X.env) (hpl:(Dp pos (A6 es X.env)).any (·.1)=false):
  PE X (.Call (.Name "int" p) (e::es) [] pos) (tE M (Aj DW fa) vs):=by
 refine Bn (Nq qJ hg hm rfl ha (he:=he) (hpl:=hpl)) λ σ H Q h=>JH (λ xs z c ws H fps fp Q ho tm nz zd lf=>?_) h;unfold DW at ho;split at ho
 ·cases ho;obtain ⟨v,r,f1,f2,rfl,rfl,_,o1,h2⟩:=tm;obtain ⟨rfl,rfl⟩:=h2;rw [Own] at o1;exact .inr ⟨_,by rw [o1.1],DM lf⟩
 ·cases ho;obtain ⟨v,r,f1,f2,rfl,rfl,_,o1,h2⟩:=tm;obtain ⟨rfl,rfl⟩:=h2;rw [Own] at o1;exact .inl ⟨_,by rw [o1.1],DM lf⟩
 ·cases ho
end
section
variable {M:Fm}{fa:Fa}{vs:List Nat}
def VH (K:Frag) (F:Fn):Sp:=λ ws H Q _=>∃ x0 v0 fp0,ws=[v0]/\Own K H (λ _=>True) x0 om v0 fp0/\(match F [x0] with
 | .ok (y,_,_)=>GY y=true/\∀ v H',C0 (λ a=>a∈fp0) H H'->(∀ a,H a≠none->H' a≠none)->Own K H' (λ _=>True) y om v []->Q v H'
 | _=>False)
end
section
variable {X:Cx}{M:Fm}{f g:Fx}{vs vs':List Nat}{σ:St}{H:Hp}{Q:VK}
def Dv (c:Nat) (l:List Nat):Nat:=l.count c
theorem Tz (c:Nat):∀ l:List Nat,PyProof.Rows.cnt c l=(Dv c l:Nat)
 | []=>rfl
 | n::r=>by
  rw [PyProof.Rows.cnt_cons,Tz c r];unfold Dv;rw [Il];by_cases h:n=c
  ·subst h;rw [if_pos rfl,if_pos (by simp)];omega
  ·rw [if_neg h,if_neg (by simpa using h)];omega
def Dx (i:Nat) (f:Fx):Fx:=λ ρ=>match ρ[i]? with
 | some (some (.str z,_))=>(match f ρ with
  | .ok (.str y,_,ρ1)=>(match y.cps.toList with
   | [c]=>.ok (.int (Dv c z.cps.toList:Nat),om,ρ1)
   | _=>.no)
  | .ok _=>.no
  | .exc c=>.exc c
  | .no=>.no)
 | _=>.no
def Kx:V->List V->Hp->VK->Prop:=λ x xs H Q=>∃ z c,x=.str z/\xs=[.str ⟨#[c]⟩]/\Q (.int (Dv c z.cps.toList:Nat)) H
theorem qa:Vp X "str.count" Kx:=by
 intro pins s σ H x xs v us Q I rx rs h;obtain ⟨z,c,rfl,rfl,q⟩:=h;obtain ⟨t,rfl⟩:=rx;cases rs with
 | cons r rr=>
  cases rr;obtain ⟨u,rfl⟩:=r;refine call_gives PySem.F.slot_str_count (Kd s z t) PySem.F.entry_str_count (PySem.F.args_str_count_2 _ _) (gives_str_count z ⟨#[c]⟩ t u) ?_;have e:(((Builtin.Str.occurrences z ⟨#[c]⟩ 0 z.length (z.length + 1)).length:Nat):Int)=(Dv c z.cps.toList:Nat):=by
   rw [<- Tz,<- PyProof.Rows.count_cnt];rfl
  rw [e];exact ⟨.int _,H,I.tok _,⟨_,rfl⟩,q⟩
def XU {K:Frag}{H:Hp} (z:Str):Me K "str" (.str z) H:=rfl
theorem X8 {i:Nat} (hal:∀ i,∀ j∈M.al i,M.Ms j=false) (hq:tE M (Dx i f) vs' σ H Q):OI M.K "str" Kx (Cw i) (M4 (tE M f vs) FY) σ H Q:=by
 obtain ⟨ρ,fps,rep,q⟩:=hq;unfold Dx at q;cases e0:ρ[i]? with
 | none=>rw [e0] at q;exact q.elim
 | some s0=>
 rw [e0] at q;cases s0 with
 | none=>exact q.elim
 | some p0=>
 obtain ⟨x0,d0⟩:=p0;cases x0 with
 | str z=>
  obtain ⟨v,hσ,o⟩:=rep.own i _ _ e0;rw [Own] at o;obtain ⟨rfl,_⟩:=o;refine ⟨_,hσ,XU z,ρ,fps,rep,?_⟩;dsimp only at q;cases ef:f ρ with
  | no=>rw [ef] at q;exact q
  | exc c=>rw [ef] at q;exact q
  | ok p=>
   obtain ⟨y,e,ρ1⟩:=p;rw [ef] at q;cases y with
   | str y=>
    intro w H1 fps1 fp k1 g1 rep1 o1 t1;rw [Own] at o1;obtain ⟨rfl,_⟩:=o1;dsimp only at q;cases ec:y.cps.toList with
    | nil=>rw [ec] at q;exact q.elim
    | cons c r=>
    cases r with
    | cons _ _=>rw [ec] at q;exact q.elim
    | nil=>
     rw [ec] at q;refine ⟨z,c,rfl,?_,?_⟩
     ·have:y=⟨#[c]⟩:=by
       cases y with
       | mk a=>
        have:a=#[c]:=Array.toList_inj.mp ec
        rw [this]
      rw [this]
     ·exact q (.int _) H1 fps1 [] k1 g1 rep1 (by rw [Own];exact ⟨rfl,rfl⟩) ⟨(λ _ z=>nomatch z),λ _ z=>nomatch z⟩
   | _=>exact q.elim
 | _=>exact q.elim
end
section
variable {pg:A0}{wd:Ay}{Ar:AU}{Er:Ae->Ai->Prop}{st:Ai}
end
section
variable {X:Cx}{M:Fm}{f:Fx}{vs:List Nat}{a:Expr}{pos p p2 pos2:Pos}
end
section
variable {prog:A0}{w:Ay}{A:AU}{E:Ae->Ai->Prop}{s:Ai}{a₀:Array Keyed}
end
section
variable {prog:A0}{w:Ay}{A:AU}{E:Ae->Ai->Prop}{s:Ai}
end
section
variable {X:Cx}{M:Fm}{fa:Fa}{vs:List Nat}{e:Expr}{es:List Expr}{pos p:Pos}
def Wn (ns:List Int):Prop:=ns.length < 64\/(ns.Pairwise (·<=·)/\ns.length<=Am)
instance (ns:List Int):Decidable (Wn ns):=inferInstanceAs (Decidable (_\/_))
end
section
variable {X:Cx}{M:Fm}{H:Hp}{σ:St}
variable {e:Expr}{es:List Expr}{fa:Fa}{vs:List Nat}{p pos:Pos}
end
open PySem PySem.Spec PyProof.Rows L2 PySem.Builtin PySem.Builtin.ObjectAttr PySem.Builtin.Getset_descriptor
section
variable {prog:A0}{w:Ay}{A:AU}{E:Ae->Ai->Prop}{K:Frag}{h:Heap}{g:Array GenState}{d:Drawn}{t:Nat}{os:OsState}{a C:Addr}{oe:Obj}
def WS {R:Result->Ai->Prop} (X:K.In h) (he:h.get? a=some oe) (hc:oe.cls=.ref C) (hm:Fq K C (.type "object")=some true) (hq:R (.ok (.ret (.ref C))) ⟨h,g,d,t,os⟩):
  FR (Ap prog w) A (.call (.builtin "getset_descriptor.__get__") ⟨[.builtin "object.__class__",.ref a,.ref C],[]⟩) R ⟨h,g,d,t,os⟩:=by
 have ty:PySem.W.Looks (Ap prog w) h (typeOf (.ref a)) (.ref C):=hc ▸ (PySem.W.Looks.ld he).andThen .now;have mr:=PySem.W.looks_mroIn (M:=Ap prog w) X hm;have pl:=PySem.W.KF.slot_gs.plain;have en:=PySem.W.KF.entry_gs;refine O6 pl en (PySem.W.KF.slot_gs.check _ _ _ _ _ _ _ _
  PySem.W.KF.type_class (PySem.W.KF.args_gs _ _ _) ?_)
 unfold Builtin.«getset_descriptor.__get__»;unfold descrGet;rw [PySem.W.dga_obj];refine Ax (AE ?_);unfold descrGetter descrCheckInstance;unfold descrNameAndClass isInstance;simp only [PySem.W.KF.owner_class]
 repeat lk
 refine ⟨Code.quiet_builtin _ (by decide +kernel),LY PySem.W.KF.entry_class ?_⟩;unfold Builtin.«object.__class__»;unfold shownTypeOf
 repeat lk
 exact hq
def ZN {tk:Tok}{Q:Fin->Ai->Prop} (X:K.In h) (he:h.get? a=some oe) (hc:oe.cls=.ref C) (hm:Fq K C (.type "object")=some true) (hl:DF K (.ref C) "__class__" = some (some (.builtin "object.__class__")))
  (hq:Q (.done (.ret (.ref C))) ⟨h,g,d,t,os⟩):An (Ap prog w) A (Builtin.«object.__getattribute__» ⟨[.ref a,.str "__class__" tk],[]⟩) Q E ⟨h,g,d,t,os⟩:=by
 have hT5:(⟨h,g,d,t,os⟩:Ai).TypeIs (.builtin "object.__class__") "getset_descriptor" := F.typeOf_object_class;have f5:=F.typeOf_object_class;have f6:=F.slot_gs_get.lookup;have f7:=F.slot_gs_set.lookup;have L1:=O5 (M:=Ap prog w) X hl
 repeat (any_goals (first | assumption | (with_reducible refine Ki he ?_;rw [hc]) | with_reducible refine L1.at ?_ | wp_step))
 refine WS X he hc hm ?_
 repeat (any_goals (first | assumption | wp_step))
def ZM {nameV:Ae}{Q:Unit->Ai->Prop}{M:Model} (X:K.In h) (he:h.get? a=some oe) (hc:oe.cls=.ref C) (hb:Fq K C (.type "BaseException")=some true) (hq:Q () ⟨h,g,d,t,os⟩):
  An M A (checkBuiltinCall "BaseException.__getattribute__" ⟨[.ref a,nameV],[]⟩) Q E ⟨h,g,d,t,os⟩:=by
 have hk:builtinKind "BaseException.__getattribute__" = some .slot:=by decide +kernel
 have hsp:splitId "BaseException.__getattribute__" = some ("BaseException","__getattribute__"):=by decide +kernel
 have ha:=F.args_bexc_ga (.ref a) nameV;have L1:=PySem.W.looks_mroIn (M:=M) X hb;simp only [checkBuiltinCall,hk,hsp];refine Ax ?_;unfold isInstance
 repeat (first | (with_reducible refine Ki he ?_;rw [hc]) | with_reducible refine L1.at ?_ | wp_step)
 exact hq
def Wq {tk:Tok}{Q:Ae->Ai->Prop} (X:K.In h) (he:h.get? a=some oe) (hc:oe.cls=.ref C) (hm:Fq K C (.type "object")=some true) (hb:Fq K C (.type "BaseException")=some true)
  (hl:DF K (.ref C) "__class__" = some (some (.builtin "object.__class__"))) (hga:DF K (.ref C) "__getattribute__" = some (some (.builtin "BaseException.__getattribute__"))) (hgh:DF K (.ref C) "__getattr__" = some none)
  (hq:Q (.ref C) ⟨h,g,d,t,os⟩):An (Ap prog w) A (getAttrBy (.ref a) (.str "__class__" tk) false) Q E ⟨h,g,d,t,os⟩:=by
 have f3:=PySem.F.attrBase_ValueError.ga.bind (.ref a);have L1:=O5 (M:=Ap prog w) X hga;have L2':=O5 (M:=Ap prog w) X hgh;have hx2:(Value.builtin "BaseException.__getattribute__" == Value.builtin "object.__getattribute__")=false:=by decide +kernel
 have hx1:(onTheHeap (Value.ref C) && Value.builtin "BaseException.__getattribute__" == Value.builtin "object.__getattribute__")=false:=by rw [hx2];rfl
 repeat (any_goals (first | assumption | (with_reducible refine Ki he ?_;rw [hc]) | with_reducible refine L1.at ?_ | with_reducible refine L2'.at ?_ | wp_step))
 refine O6 PySem.F.attrBase_ValueError.ga.plain F.entry_bexc_ga (ZM X he hc hb (ZN X he hc hm hl ?_))
 repeat (any_goals (first | assumption | wp_step))
def Yg {Q:Option Ae->Ai->Prop} (X:K.In h) (he:h.get? a=some oe) (hc:oe.cls=.ref C) (hm:Fq K C (.type "object")=some true) (hb:Fq K C (.type "BaseException")=some true)
  (hl:DF K (.ref C) "__class__" = some (some (.builtin "object.__class__"))) (hga:DF K (.ref C) "__getattribute__" = some (some (.builtin "BaseException.__getattribute__"))) (hgh:DF K (.ref C) "__getattr__" = some none)
  (hq:Q (some (.ref C)) ⟨h,g,d,t + 1,os⟩):An (Ap prog w) A (getAttr? (.ref a) "__class__") Q E ⟨h,g,d,t,os⟩:=by
 unfold getAttr?;unfold getAttrBy?
 repeat (any_goals (first | assumption | with_reducible apply Wq X he hc hm hb hl hga hgh | wp_step))
end
def Cz (K:Frag) (d:Nat) (u:Ae):Bool:=(u == .type "ValueError" && d == 0) || (match Cb K d with
 | some D=>u == .ref D
 | none=>false)
section
variable {K:Frag}{a C:Addr}{c d:Nat}{u:Ae}
def LO (t:BK K=true) (e:Cb K c=some C):IP K C=true/\Eg K (.type "NoneType") (.ref C)=some false/\Eg K (.ref C) (.type "ValueError")=some true/\∀ d D,Cb K d=some D->Eg K (.ref C) (.ref D)=some (Bk c d):=by
 unfold BK at t;rw [Be] at t;have h:=jd6.mp t.2 c (jd5.mpr (Le e));rw [e] at h;dsimp only at h;simp only [Be] at h;refine ⟨h.1.1.1,eq_of_beq h.1.1.2,eq_of_beq h.1.2,λ d D ed=>?_⟩;have h2:=jd6.mp h.2 d (jd5.mpr (Le ed));rw [ed] at h2;exact eq_of_beq h2
def TH (t:BK K=true) (e:Cb K c=some C) (hu:Cz K d u=true):Eg K (.ref C) u=some (Bk c d):=by
 obtain ⟨_,_,h3,h4⟩:=LO t e;unfold Cz at hu;rw [EV] at hu;rcases hu with hu | hu
 ·rw [Be] at hu;rw [eq_of_beq hu.1,h3,eq_of_beq hu.2];simp [Bk]
 ·split at hu
  ·rename_i D hD;rw [eq_of_beq hu];exact h4 d D hD
  ·cases hu
def TJ (t:BK K=true) (hu:Cz K d u=true):Eg K (.type "NoneType") u=some false:=by
 unfold Cz at hu;rw [EV] at hu;rcases hu with hu | hu
 ·rw [Be] at hu;rw [eq_of_beq hu.1];unfold BK at t;rw [Be] at t;exact eq_of_beq t.1
 ·split at hu
  ·rename_i D hD;rw [eq_of_beq hu];exact (LO t hD).2.1
  ·cases hu
def EK (K:Frag):List Nat->List Ae->Bool
 | [],[]=>true
 | d::ds,u::us=>Cz K d u && EK K ds us
 | _,_=>false
theorem U9 (t:BK K=true) (e:Cb K c=some C):∀ {ds:List Nat}{us:List Ae},EK K ds us=true->LX K (.ref C) us=some (ds.any (Bk c))
 | [],[],_=>rfl
 | [],_::_,h=>by cases h
 | _::_,[],h=>by cases h
 | d::ds,u::us,h=>by
  unfold EK at h;rw [Be] at h;unfold LX;rw [TH t e h.1,MQ];cases Bk c d with
  | true=>rfl
  | false=>exact U9 t e h.2
theorem Rb (t:BK K=true):∀ {ds:List Nat}{us:List Ae},EK K ds us=true->LX K (.type "NoneType") us=some false
 | [],[],_=>rfl
 | [],_::_,h=>by cases h
 | _::_,[],h=>by cases h
 | d::ds,u::us,h=>by
  unfold EK at h;rw [Be] at h;unfold LX;rw [TJ t h.1];exact Rb t h.2
def qQ (g:IP K C=true):∃ c0 dd cd sl,K.lookup C=some ⟨c0,dd,.cls cd,sl⟩:=by
 unfold IP at g;simp only [Be] at g;have h:=g.1.1.1.1.1;unfold PySem.W.clsIn at h;split at h
 ·rename_i q;exact ⟨_,_,_,_,q⟩
 ·cases h
def U8 (g:IP K C=true):PySem.W.KitX K (.ref a) (.ref C) (Ez a C):=by
 obtain ⟨c0,dd,cd,sl,hl⟩:=qQ g;unfold IP at g;simp only [Be] at g;obtain ⟨⟨⟨⟨⟨_,g1⟩,g2⟩,g3⟩,g4⟩,g5⟩:=g;refine ⟨λ M h _ p=>?_,λ M h X _=>?_,λ h tp dd' its n sl' X htp=>?_,λ {prog w A E Q s} X p k=>?_⟩
 ·obtain ⟨o,vs,h1,h2,_⟩:=p;exact h2 ▸ (PySem.W.Looks.ld h1).andThen .now
 ·intro A' Q' E' s' kp q;unfold isType;unfold loadHead;exact Ax (wpAny_loadPart (kp _ _ (X _ _ hl)) (AE q))
 ·cases hb:(Value.ref C == Value.ref tp) with
  | false=>rfl
  | true=>
   have ec:C=tp:=Value.ref.inj (eq_of_beq hb);have z:=X _ _ hl;rw [ec,htp] at z;cases z
 ·obtain ⟨o,vs,h1,h2,_⟩:=p;obtain ⟨hp,gg,dr,tt,oo⟩:=s;exact Yg X h1 h2 (eq_of_beq g1) (eq_of_beq g2) (eq_of_beq g3) (eq_of_beq g4) (eq_of_beq g5) k
end
section
variable {X:Cx}
def Lb (K:Frag) (v:V) (H:Hp) (Q:VK) (ds:List Nat):Prop:=(v=.non/\Q (.bl false) H)\/∃ a C c,v=.ref a/\Cb K c=some C/\H a=some (.ext (Ez a C))/\Q (.bl (ds.any (Bk c))) H
def U2 {pins:List (Addr×Obj)}{σ:St}{H:Hp}{s:Ai}{a C:Addr} (I:L2.Inv X pins σ H s) (h:H a=some (.ext (Ez a C))):Ez a C s.heap:=(I.hok a _ h).1
def qK (t:BK X.K=true):zzo X (.builtin "isinstance") (λ xs H Q=>∃ v cv d,xs=[v,cv]/\(∀ u,RelV cv u->Cz X.K d u=true)/\Lb X.K v H Q [d]):=by
 intro pins s σ H xs us Q I r h;obtain ⟨v,cv,d,rfl,hcv,h⟩:=h;obtain ⟨u,w,rfl,r1,r2⟩:=M3 r;have hw:=hcv w r2;rcases h with ⟨rfl,q⟩ | ⟨a,C,c,rfl,hC,ha,q⟩
 ·cases r1;exact Eh Oy I.kIn True.intro (TJ t hw) (λ z=>nomatch z) λ tk=>⟨.bl false,H,I.tok _,rfl,q⟩
 ·obtain rfl:u=Value.ref a:=r1;exact Eh (U8 (LO t hC).1) I.kIn (U2 I ha) (TH t hC hw) (λ z=>nomatch z) λ tk=>⟨.bl (Bk c d),H,I.tok _,rfl,by simpa using q⟩
def xQ (t:BK X.K=true):zzo X (.builtin "isinstance") (λ xs H Q=>∃ v p cvs ds,xs=[v,.ref p]/\H p=some (.tup cvs)/\(∀ us,Vals cvs us->EK X.K ds us=true)/\Lb X.K v H Q ds):=by
 intro pins s σ H xs us Q I r h;obtain ⟨v,p,cvs,ds,rfl,hp,hcv,h⟩:=h;obtain ⟨u,w,rfl,r1,r2⟩:=M3 r;obtain rfl:w=Value.ref p:=r2;obtain ⟨_,its,rv,o,ho,hc,n,hd⟩:=I.hok p _ hp;have hi:=hcv its rv;have ho':s.heap.get? p=some ⟨.type "tuple",o.dict,.seq its.toArray n,o.slots⟩:=by
  rw [ho];obtain ⟨oc,od,oda,os⟩:=o;dsimp only at hc hd;rw [hc,hd]
 rcases h with ⟨rfl,q⟩ | ⟨a,C,c,rfl,hC,ha,q⟩
 ·cases r1;exact PySem.W.kia_tup Oy I.kIn True.intro ho' (Rb t hi) (λ z=>nomatch z) λ tk=>⟨.bl false,H,I.tok _,rfl,q⟩
 ·obtain rfl:u=Value.ref a:=r1;exact PySem.W.kia_tup (U8 (LO t hC).1) I.kIn (U2 I ha) ho' (U9 t hC hi) (λ z=>nomatch z) λ tk=>⟨.bl (ds.any (Bk c)),H,I.tok _,rfl,q⟩
end
section
variable {X:Cx}{M:Fm}{f g:Fx}{vs vs':List Nat}{e:Expr}{es:List Expr}{pos p:Pos}{σ:St}{H:Hp}{Q:VK}
def De (ds:List Nat) (x:PV) (_:Nat):Option (PV×Nat):=match x with
 | .exn c=>some (.bl (ds.any (Bk c)),om)
 | .non=>some (.bl false,om)
 | _=>none
theorem SU {K:Frag}{x z:PV}{ds:List Nat}{d c:Nat}{v:V}{Z:Addr->Prop}{H H':Hp}{f1:List Addr} (ho:De ds x d=some (z,c)) (o1:Own K H Z x d v f1) (k:∀ a o,H a=some o->H' a=some o) (q:∀ b,z=.bl b->Q (.bl b) H'):Lb K v H' Q ds:=by
 cases x with
 | exn n=>
  cases ho;rw [Own] at o1;obtain ⟨_,a,C,rfl,hC,ha⟩:=o1;exact .inr ⟨a,C,n,rfl,hC,k _ _ ha,q _ rfl⟩
 | non=>
  cases ho;rw [Own] at o1;obtain ⟨rfl,_⟩:=o1;exact .inl ⟨rfl,q _ rfl⟩
 | _=>cases ho
theorem Q5 {ds:List Nat}{x z:PV}{d c:Nat} (ho:De ds x d=some (z,c)):∃ b,z=.bl b/\c=om:=by
 cases x with
 | exn n=>cases ho;exact ⟨_,rfl,rfl⟩
 | non=>cases ho;exact ⟨_,rfl,rfl⟩
 | _=>cases ho
def YY {cv:V}{d:Nat}{T':Str}{p1 p2:Pos} (t:BK X.K=true) (hK:M.K=X.K) (ha:PE X e (tE M f vs)) (hg:Gl X "isinstance") (hm:X.mg "isinstance" = none) (hc:PE X (.Name T' p2) (tC cv)) (hcv:∀ u,RelV cv u->Cz X.K d u=true)
  (hs1:A6 [e,.Name T' p2] X.env=[(false,eval e X.env),(false,eval (.Name T' p2) X.env)]) (hs2:A6 [Expr.Name T' p2] X.env=[(false,eval (.Name T' p2) X.env)]):
  PE X (.Call (.Name "isinstance" p1) [e,.Name T' p2] [] pos) (tE M (Aq (De [d]) f) vs):=by
 refine Bn (Hs (qK t) hg hm rfl (DL ha (DL hc Fl hs2) (by rw [hs1,hs2])) (he:=by rw [hs1,hs2]) (hpl:=by rw [hs2];rfl)) λ σ H Q h=>?_;refine HI (r:=λ v H Q=>∃ x c n,[v,cv]=[x,c]/\(∀ u,RelV c u->Cz X.K n u=true)/\Lb X.K x H Q [n]) (λ x d' z c v H fps f1 Q ho o1 nz zd lf=>?_) h;obtain ⟨b,rfl,rfl⟩:=Q5 ho;exact ⟨v,cv,d,rfl,hcv,by rw [<- hK];exact SU ho o1 (λ _ _ h=>h) λ b' e=>by cases e;exact DK lf⟩
def RN (cvs:List V):TA:=λ _ H Q=>Q cvs H
def qu {cvs:List V}{ds:List Nat}{p1 p2:Pos}{k:Nat} (t:BK X.K=true) (hK:M.K=X.K) (ha:PE X e (tE M f vs)) (hg:Gl X "isinstance") (hm:X.mg "isinstance" = none) (hc:PA X es (RN cvs)) (hl:cvs.length<=Am) (hcv:∀ us,Vals cvs us->EK X.K ds us=true)
  (hs1:A6 [e,.Tuple es k p2] X.env=[(false,eval e X.env),(false,eval (.Tuple es k p2) X.env)]) (hs2:A6 [Expr.Tuple es k p2] X.env=[(false,eval (.Tuple es k p2) X.env)]):
  PE X (.Call (.Name "isinstance" p1) [e,.Tuple es k p2] [] pos) (tE M (Aq (De ds) f) vs):=by
 refine Bn (Hs (xQ t) hg hm rfl (DL ha (DL (Tn hc) Fl hs2) (by rw [hs1,hs2])) (he:=by rw [hs1,hs2]) (hpl:=by rw [hs2];rfl)) λ σ H Q h=>?_;refine HI (r:=λ v H Q=>cvs.length<=Am/\∀ q,H q=none->∃ x p' cvs' ds',[v,V.ref q]=[x,.ref p']/\As H q (.tup cvs) p'=some (.tup cvs')/\(∀ us,Vals cvs' us->EK X.K ds' us=true)/\Lb X.K x (As H q (.tup cvs)) Q ds') (λ x d' z c v H fps f1 Q ho o1 nz zd lf=>?_) h;obtain ⟨b,rfl,rfl⟩:=Q5 ho;refine ⟨hl,λ q hq=>⟨v,q,cvs,ds,rfl,Ce,hcv,?_⟩⟩;have kk:∀ a o,H a=some o->As H q (.tup cvs) a=some o:=λ a o h=>by rw [AN (λ z=>by rw [z,hq] at h;cases h)];exact h
 rw [<- hK];exact SU ho o1 kk λ b' e=>by cases e;exact lf (.bl b) _ [] kk (by rw [Own];exact ⟨rfl,rfl⟩) (λ _ z=>nomatch z)
end
section
variable {X:Cx}{M:Fm}{a b:Expr}{f g:Fx}{fa:Fa}{vs vs':List Nat}{pos p:Pos}{σ:St}{H:Hp}{Q:VK}{e:Expr}{es:List Expr}
def EU:List PV->Option (List AG)
 | []=>some []
 | .int i::r=>(EU r).map (.inl i::·)
 | .str x::r=>(EU r).map (.inr x::·)
 | _=>none
theorem Lk {K:Frag}{Z:Addr->Prop}:∀ {xs:List PV}{ws:List V}{d:Nat}{fp:List Addr}{k:List AG},EU xs=some k->OwnL K H Z xs d ws fp->ws=k.map kV
 | [],ws,d,fp,k,e,h=>by cases e;rw [OwnL] at h;exact h.1
 | .int i::r,ws,d,fp,k,e,h=>by
  obtain ⟨k',e1,rfl⟩:=jb0.mp e;rw [OwnL] at h;obtain ⟨v,s,f1,f2,rfl,ef,dj,h1,h2⟩:=h;rw [Own] at h1;rw [h1.1,Lk e1 h2];rfl
 | .str i::r,ws,d,fp,k,e,h=>by
  obtain ⟨k',e1,rfl⟩:=jb0.mp e;rw [OwnL] at h;obtain ⟨v,s,f1,f2,rfl,ef,dj,h1,h2⟩:=h;rw [Own] at h1;rw [h1.1,Lk e1 h2];rfl
 | .non::_,_,_,_,_,e,_=>by cases e
 | .bl _::_,_,_,_,_,e,_=>by cases e
 | .lst _::_,_,_,_,_,e,_=>by cases e
 | .tup _::_,_,_,_,_,e,_=>by cases e
 | .emp::_,_,_,_,_,e,_=>by cases e
 | .dko::_,_,_,_,_,e,_=>by cases e
 | .scr _::_,_,_,_,_,e,_=>by cases e
 | .dct _::_,_,_,_,_,e,_=>by cases e
 | .exn _::_,_,_,_,_,e,_=>by cases e
def CU (neg:Bool) (x:PV) (_:Nat) (y:PV) (_:Nat):Option (PV×Nat):=match x,y with
 | .tup ks,.dct kvs=>(EU ks).map λ k=>(.bl (neg^^(AO kvs k).isSome),om)
 | x,.lst ys=>(match Cq 20 x,BD (Cq 20) ys with
  | some a,some bs=>some (.bl (neg^^bs.any λ b=>Hg b a),om)
  | _,_=>none)
 | x,.tup ys=>(match Cq 20 x,BD (Cq 20) ys with
  | some a,some bs=>some (.bl (neg^^bs.any λ b=>Hg b a),om)
  | _,_=>none)
 | _,_=>none
def Ig (neg:Bool):R2:=λ v w H Q=>∃ a o,w=.ref a/\DGet H a v o/\Q (.bl (neg^^o.isSome)) H
def Xs (hu:X.A.units + 1 < BU):OpR X (Cv .In) (Ig false):=by
 intro pins s σ H x y v u Q I rx ry h;obtain ⟨a,o,rfl,g,q⟩:=h;obtain rfl:u=Value.ref a:=ry;exact Qi hu I g rx λ s3 I3=>⟨.bl o.isSome,H,I3,rfl,by simpa using q⟩
def x3 (hu:X.A.units + 1 < BU):OpR X (Cv .NotIn) (Ig true):=by
 intro pins s σ H x y v u Q I rx ry h;obtain ⟨a,o,rfl,g,q⟩:=h;obtain rfl:u=Value.ref a:=ry;exact Yj hu I g rx λ s3 I3=>⟨.bl (!o.isSome),H,I3,rfl,by simpa using q⟩
def Mr (tp:Bool) (ys:List PV):PV:=match tp with
 | true=>.tup ys
 | false=>.lst ys
def VG (tp:Bool) (ys:List DR):DR:=match tp with
 | true=>.tuple ys
 | false=>.list ys
def Ic (K:Frag) (neg:Bool):R2:=λ v w H Q=>∃ tp x ys d e Z Z' f1 f2 a bs,Cq 20 x=some a/\BD (Cq 20) ys=some bs/\Own K H Z x d v f1/\Own K H Z' (Mr tp ys) e w f2/\Q (.bl (neg^^bs.any λ b=>Hg b a)) H
theorem Th {tp:Bool}{ys:List PV}{bs:List DR} (h:BD (Cq 20) ys=some bs):Cq 21 (Mr tp ys)=some (VG tp bs):=by
 cases tp with
 | true=>
  show (BD (Cq 20) ys).map PyData.tuple=_;rw [h];rfl
 | false=>
  show (BD (Cq 20) ys).map PyData.list=_;rw [h];rfl
theorem WV (hu:X.A.units + 64 < BU):OpR X (Cv .In) (Ic X.K false):=by
 intro pins s σ H v w u u' Q I rx ry h;obtain ⟨tp,x,ys,d,e,Z,Z',f1,f2,a,bs,h1,h2,o1,o2,q⟩:=h;obtain ⟨as,ra⟩:=FH I 20 x d v f1 u a h1 o1 rx;obtain ⟨bs',rb⟩:=FH I 21 (Mr tp ys) e w f2 u' _ (Th h2) o2 ry;have l1:=EJ 20 x a h1;have l2:=JI (λ x D h=>EJ 20 x D h) h2;have hm:X.A.units + 1 + min (HQ bs) a.depth < BU:=by have:=PJ (HQ bs) a.depth;omega
 cases tp with
 | false=>exact SeqAt.in_list_reads rb ra l2.1 l1.1 hm ⟨.bl _,H,I,rfl,by simpa using q⟩
 | true=>exact SeqAt.in_tuple_reads rb ra l2.1 l1.1 hm ⟨.bl _,H,I,rfl,by simpa using q⟩
theorem x4 (hu:X.A.units + 64 < BU):OpR X (Cv .NotIn) (Ic X.K true):=by
 intro pins s σ H v w u u' Q I rx ry h;obtain ⟨tp,x,ys,d,e,Z,Z',f1,f2,a,bs,h1,h2,o1,o2,q⟩:=h;obtain ⟨as,ra⟩:=FH I 20 x d v f1 u a h1 o1 rx;obtain ⟨bs',rb⟩:=FH I 21 (Mr tp ys) e w f2 u' _ (Th h2) o2 ry;have l1:=EJ 20 x a h1;have l2:=JI (λ x D h=>EJ 20 x D h) h2;have hm:X.A.units + 1 + min (HQ bs) a.depth < BU:=by have:=PJ (HQ bs) a.depth;omega
 cases tp with
 | false=>exact SeqAt.notIn_list_reads rb ra l2.1 l1.1 hm ⟨.bl _,H,I,rfl,by simpa using q⟩
 | true=>exact SeqAt.notIn_tuple_reads rb ra l2.1 l1.1 hm ⟨.bl _,H,I,rfl,by simpa using q⟩
def Rc {x y z:PV}{d e c:Nat}{v w:V}{fps:AF}{f1 f2 F:List Addr}{Z Z':Addr->Prop}{neg:Bool} (hK:M.K=X.K) (ho:CU neg x d y e=some (z,c)) (o1:Own M.K H Z x d v f1) (o2:Own M.K H Z' y e w f2) (lf:Bl M H fps vs F z c Q):Ig neg v w H Q\/Ic X.K neg v w H Q:=by
 unfold CU at ho;split at ho
 ·rename_i ks kvs;obtain ⟨k,ek,e2⟩:=jb0.mp ho;cases e2;rw [Own] at o1;rw [Own] at o2;obtain ⟨b,ws,rfl,hb,ol⟩:=o1
  have:=Lk ek ol
  subst this;have h2:∃ a,w=.ref a/\H a=some (.dT kvs):=by
   obtain ⟨a,ea,⟨_,hr,_⟩ | ⟨_,ha,_⟩⟩:=o2
   ·exact ⟨a,ea,hr.1⟩
   ·exact ⟨a,ea,ha⟩
  obtain ⟨a,rfl,ha⟩:=h2;exact .inl ⟨a,_,rfl,DGet.t ha hb,DK lf⟩
 ·rename_i ys;split at ho
  ·rename_i a bs ea eb;cases ho;rw [hK] at o1;rw [hK] at o2;exact .inr ⟨false,_,ys,d,e,Z,Z',f1,f2,a,bs,ea,eb,o1,o2,DK lf⟩
  ·cases ho
 ·rename_i ys;split at ho
  ·rename_i a bs ea eb;cases ho;rw [hK] at o1;rw [hK] at o2;exact .inr ⟨true,_,ys,d,e,Z,Z',f1,f2,a,bs,ea,eb,o1,o2,DK lf⟩
  ·cases ho
 ·cases ho
def Gz:Fx:=λ ρ=>.ok (.dct [],om,ρ)
def Xx:PE X (.Dict [] [] pos) (tE M Gz []):=by
 refine Bn qi λ σ H Q h p hp=>?_;obtain ⟨ρ,fps,rep,q⟩:=h;refine q (.ref p) _ fps [p] (KD.grow (DY hp)) Agr.refl (rep.grow (DY hp)) ?_ ⟨λ a ha=>by rw [ja6.mp ha];exact hp,λ a ha=>by rw [ja6.mp ha];exact rep.nz hp⟩;rw [Own];exact ⟨p,rfl,.inr ⟨by decide,Ce,rfl⟩⟩
end
structure Sx where
 N:List Str
 sc:Bc
 ms:List Nat
 al:List (List Nat)
 Γ:List (Str×(Bool×Nat×Fn))
 Γm:List (Str×Fn)
 rz:Bool
 xc:List Nat
 pn:List Nat
def Sx.alF (S:Sx) (i:Nat):List Nat:=S.al.getD i []
def Sx.msF (S:Sx) (i:Nat):Bool:=S.ms.contains i
def Dc (sc:Bc) (x:Str) (k:CS):Bool:=sc.names.lookup x == some k
def CQ (sc:Bc) (x:Str):Bool:=Dc sc x .local || Dc sc x .cell || Dc sc x .free
def Iz (N:List Str) (x:Str):Option Nat:=N.findIdx? (·== x)
def Sx.slot (S:Sx) (x:Str):Option Nat:=if CQ S.sc x && !(x == ("__debug__" : Str)) && !(x == ("__classdict__" : Str)) then Iz S.N x else none
def Sx.glob (S:Sx) (x:Str):Bool:=Dc S.sc x .globalImplicit
structure XS (X:Cx) (P:A0) (w:Ay) (K:Frag) (mg:Str->Option Ae) (base:Heap) (lvl:Nat) (S:Sx) (Wx:St->Nat->Hp->Prop):Prop where
 prog:X.prog=P
 w:X.w=w
 K:X.K=K
 mg:X.mg=mg
 base:X.base=base
 N:X.N=S.N
 sc:X.env.scope=S.sc
 calm:X.calm=true
 room:Room lvl X.A
 po:Jc (Ap X.prog X.w) X.A X.env X.xe
 ps:JR (AS X.prog X.w X.K) X Wx
 rs:S.rz=true->NM X Wx
structure MS (M:Fm) (K:Frag) (S:Sx) (Wx:St->Nat->Hp->Prop):Prop where
 K:M.K=K
 ms:M.Ms=S.msF
 al:∀ i,i < S.N.length->M.al i=S.alF i
 als:∀ i,∀ j∈M.al i,M.Ms j=false
 W:M.W=Wx
 pn:∀ p∈M.pn,p.1 < S.N.length
def Fz (P:A0) (w:Ay) (K:Frag) (mg:Str->Option Ae) (base:Heap) (lvl:Nat) (Γm:List (Str×Fn)):Prop:=
 ∀ x F,Γm.lookup x=some F->(x == ("__debug__" : Str))=false/\∃ fa fd ps,mg x=some (.ref fa)/\HN K (.ref fa)=true/\zfp K fd ps []/\FnOk P w K mg base (AS P w K) lvl fa fd ps (VH K F)
def GX (K:Frag) (mg:Str->Option Ae) (xc:List Nat):Prop:=xc≠[]->DB K=true/\BK K=true/\∀ c∈xc,∃ x C,XN[c]?=some x/\Cb K c=some C/\mg x=some (.ref C)/\(x == ("__debug__" : Str))=false
def GS (P:A0) (w:Ay) (K:Frag) (mg:Str->Option Ae) (base:Heap) (lvl:Nat) (Γ:List (Str×(Bool×Nat×Fn))):Prop:=
 (∀ x∈zzy,mg x=none)/\∀ x io n F,Γ.lookup x=some (io,n,F)->(x == ("__debug__" : Str))=false/\(∀ xs,xs.length≠n->F xs=.no) /\
  ∃ fa fd ps,mg x=some (.ref fa)/\HN K (.ref fa)=true/\zfp K fd ps []/\ps.length=n/\FnOk P w K mg base (AS P w K) lvl fa fd ps (BH K io n F)
section
variable {X:Cx}{P:A0}{w:Ay}{K:Frag}{mg:Str->Option Ae}{base:Heap}{lvl:Nat}{S:Sx}{Wx:St->Nat->Hp->Prop}{M:Fm}
def FF {sc:Bc}{x:Str}{k:CS} (h:Dc sc x k=true):sc.names.lookup x=some k:=by
 unfold Dc at h;exact eq_of_beq h
def Tj {sc:Bc}{x:Str} (h:CQ sc x=true):GC sc x:=by
 unfold CQ at h;rw [EV,EV] at h;rcases h with (h | h) | h
 ·exact .inl (FF h)
 ·exact .inr (.inl (FF h))
 ·exact .inr (.inr (FF h))
def Lj {N:List Str}{x:Str}{i:Nat} (h:Iz N x=some i):N[i]?=some x:=by
 unfold Iz at h;rw [jj2] at h;obtain ⟨hi,e,_⟩:=h
 have:N[i]=x:=eq_of_beq e
 rw [CD hi,this]
def XS.var (xs:XS X P w K mg base lvl S Wx) {x:Str}{i:Nat}{pos:Pos} (h:S.slot x=some i):PE X (.Name x pos) (Cw i):=by
 unfold Sx.slot at h;split at h
 ·rename_i hc;simp only [Be,MX] at hc;exact To (by rw [xs.N];exact Lj h) (by rw [xs.sc];exact Tj hc.1.1) hc.1.2 hc.2
 ·cases h
def XS.gl (xs:XS X P w K mg base lvl S Wx) {x:Str} (h:S.glob x=true):Gl X x:=by
 show X.env.scope.names.lookup x=_;rw [xs.sc];exact FF h
theorem CH {e:Expr}{es:List Expr}{env:Env} (h:∀ x p,e≠.Starred x p):A6 (e::es) env=(false,eval e env)::A6 es env:=by
 cases e with
 | Starred x p=>exact absurd rfl (h x p)
 | _=>rfl
def Hw:Expr->Bool
 | .Starred _ _=>false
 | _=>true
def CI {e:Expr} (h:Hw e=true):∀ x p,e≠.Starred x p:=λ x p z=>by rw [z] at h;cases h
theorem Oh {env:Env}{pos:Pos}:∀ {es:List Expr},es.all Hw=true->(Dp pos (A6 es env)).any (·.1)=false
 | [],_=>rfl
 | e::es,h=>by
  rw [Gf,Be] at h;rw [CH (CI h.1)];show (false || (Dp pos (A6 es env)).any (·.1))=false;rw [Oh h.2];rfl
def L7:Expr->Bool
 | .Slice _ _ _ _=>false
 | _=>true
theorem ND {b:Expr} (h:L7 b=true):Lu b:=by
 intro o i;cases b with
 | Slice _ _ _ _=>cases h
 | _=>rfl
def VN:Expr->Bool
 | .List _ _=>true
 | _=>false
def VS:Expr->Bool
 | .List es _=>es.any VN
 | _=>false
def RY (b:Expr):Hf->Option (PV->Nat->PV->Nat->Option (PV×Nat))
 | .Add=>some (if VS b=true then Ph else Ao)
 | .Sub=>some Cm
 | .Mult=>some BR
 | .FloorDiv=>some BY
 | .Mod=>some AI
 | .Pow=>some FK
 | _=>none
def Wf {a b:Expr}{op:Hf}{o:PV->Nat->PV->Nat->Option (PV×Nat)}{f g:Fx}{vs vs':List Nat}{pos:Pos} (h:RY b op=some o) (hv:∀ i∈vs,M.Ms i=false) (hK:M.K=X.K) (ha:PE X a (tE M f vs)) (hb:PE X b (tE M g vs')):PE X (.BinOp a op b pos) (tE M (Ab o f g) (vs++vs')):=by
 cases op <;> cases h
 ·split
  ·exact YV hv hK ha hb
  ·exact XR hv hK ha hb
 ·exact LH YH (λ _ _ _=>trivial) hv ha hb
 ·exact X2 hv ha hb
 ·exact LH WW (λ _ _=>Ql) hv ha hb
 ·exact LH WY (λ _ _=>Qj) hv ha hb
 ·exact LH qe (λ _ _=>Qm) hv ha hb
def EY:Expr->Bool
 | .Set _ _ _=>false
 | _=>true
def OO (b:Expr):Ed->Option (PV->Nat->PV->Nat->Option (PV×Nat))
 | .Lt=>some (BA λ i j=>decide (i < j))
 | .LtE=>some (BA λ i j=>decide (i<=j))
 | .Gt=>some (BA λ i j=>decide (j < i))
 | .GtE=>some (BA λ i j=>decide (j<=i))
 | .Eq=>some (Au false)
 | .NotEq=>some (Au true)
 | .In=>if EY b=true then some (CU false) else none
 | .NotIn=>if EY b=true then some (CU true) else none
 | _=>none
theorem TC {op:Ed}{b:Expr} (h:EY b=true):Je op b=false:=by
 cases b with
 | Set _ _ _=>cases h
 | _=>rfl
def ZO {op:Ed}{o:PV->Nat->PV->Nat->Option (PV×Nat)}{f g:Fx}{vs vs':List Nat}{b:Expr} (h:OO b op=some o) (hu:X.A.units + 64 < BU) (hv:∀ i∈vs,M.Ms i=false) (hK:M.K=X.K):
  ∃ r,OpR X (Cv op) r/\Je op b=false/\∀ σ H Q,tE M (Ab o f g) (vs++vs') σ H Q->Jh r (tE M f vs) (tE M g vs') σ H Q:=by
 cases op
 ·cases h;exact ⟨_,Xu hu,GQ _ (by decide) (by decide),λ σ H Q h=>DO hv (λ x d y e z c v w H fps f1 f2 Q ho o1 o2 dj nz zd lf=>Rf hK ho o1 o2 lf) h⟩
 ·cases h;exact ⟨_,WX hu,GQ _ (by decide) (by decide),λ σ H Q h=>DO hv (λ x d y e z c v w H fps f1 f2 Q ho o1 o2 dj nz zd lf=>Rf hK ho o1 o2 lf) h⟩
 ·cases h;exact ⟨_,Sb,GQ _ (by decide) (by decide),λ σ H Q h=>DO hv (λ x d y e z c v w H fps f1 f2 Q ho o1 o2 dj nz zd lf=>Ll ho o1 o2 lf) h⟩
 ·cases h;exact ⟨_,Sa,GQ _ (by decide) (by decide),λ σ H Q h=>DO hv (λ x d y e z c v w H fps f1 f2 Q ho o1 o2 dj nz zd lf=>Ll ho o1 o2 lf) h⟩
 ·cases h;exact ⟨_,Si,GQ _ (by decide) (by decide),λ σ H Q h=>DO hv (λ x d y e z c v w H fps f1 f2 Q ho o1 o2 dj nz zd lf=>Ll ho o1 o2 lf) h⟩
 ·cases h;exact ⟨_,Sh,GQ _ (by decide) (by decide),λ σ H Q h=>DO hv (λ x d y e z c v w H fps f1 f2 Q ho o1 o2 dj nz zd lf=>Ll ho o1 o2 lf) h⟩
 ·cases h
 ·cases h
 ·replace h:(if EY b=true then some (CU false) else none)=some o:=h;split at h
  ·rename_i hb;cases h;exact ⟨_,(Xs (by omega)).or (WV hu),TC hb,λ σ H Q h=>DO hv (λ x d y e z c v w H fps f1 f2 Q ho o1 o2 dj nz zd lf=>Rc hK ho o1 o2 lf) h⟩
  ·cases h
 ·replace h:(if EY b=true then some (CU true) else none)=some o:=h;split at h
  ·rename_i hb;cases h;exact ⟨_,(x3 (by omega)).or (x4 hu),TC hb,λ σ H Q h=>DO hv (λ x d y e z c v w H fps f1 f2 Q ho o1 o2 dj nz zd lf=>Rc hK ho o1 o2 lf) h⟩
  ·cases h
def EZ:Ed->Option (Int->Int->Bool)
 | .Lt=>some λ i j=>decide (i < j)
 | .LtE=>some λ i j=>decide (i<=j)
 | .Gt=>some λ i j=>decide (j < i)
 | .GtE=>some λ i j=>decide (j<=i)
 | .Eq=>some λ i j=>decide (i=j)
 | _=>none
def YG:OpR X (Cv .Eq) (E6 λ i j=>.bl (decide (i=j))):=λ pins s σ H x y v u Q I rx ry h=>VU pins s σ H x y v u Q I rx ry (by
 obtain ⟨i,j,rfl,rfl,q⟩:=h;refine ⟨rfl,?_⟩;rw [TL];exact q)
def Q1 {op:Ed}{p:Int->Int->Bool} (h:EZ op=some p):OpR X (Cv op) (E6 λ i j=>.bl (p i j))/\op≠.In/\op≠.NotIn:=by
 cases op <;> cases h
 ·exact ⟨YG,by decide,by decide⟩
 ·exact ⟨Sb,by decide,by decide⟩
 ·exact ⟨Sa,by decide,by decide⟩
 ·exact ⟨Si,by decide,by decide⟩
 ·exact ⟨Sh,by decide,by decide⟩
def M6 (p q:Int->Int->Bool) (f g h:Fx):Fx:=λ ρ=>(f ρ).bind λ (x,_,ρ1)=>(g ρ1).bind λ (y,_,ρ2)=>match x,y with
 | .int i,.int j=>if p i j=true then (h ρ2).bind λ (z,_,ρ3)=>(match z with
  | .int k=>.ok (.bl (q j k),om,ρ3)
  | _=>.no) else .ok (.bl false,om,ρ2)
 | _,_=>.no
theorem Rr {p q:Int->Int->Bool}{f g h:Fx}{vs v1 v2 v3:List Nat}{σ:St}{H:Hp}{Q:VK} (hq:tE M (M6 p q f g h) vs σ H Q):Pu (E6 λ i j=>.bl (p i j)) (E6 λ i j=>.bl (q i j)) (tE M f v1) (tE M g v2) (tE M h v3) σ H Q:=by
 obtain ⟨ρ,fps,rep,qq⟩:=hq;refine ⟨ρ,fps,rep,?_⟩;unfold M6 at qq;cases ef:f ρ with
 | no=>rw [ef] at qq;exact qq
 | exc c=>rw [ef] at qq;exact qq
 | ok p0=>
  obtain ⟨x,d,ρ1⟩:=p0;rw [ef] at qq;intro v H1 fps1 f1 k1 g1 rep1 o1 t1;refine ⟨ρ1,fps1,rep1,?_⟩;dsimp only [Rz.bind] at qq;cases eg:g ρ1 with
  | no=>rw [eg] at qq;exact qq
  | exc c=>rw [eg] at qq;exact λ H' fps' k=>qq H' fps' (k1.trans k)
  | ok p2=>
   obtain ⟨y,e,ρ2⟩:=p2;rw [eg] at qq;intro w H2 fps2 f2 k2 g2 rep2 o2 t2;cases x with
   | int i=>
    cases y with
    | int j=>
     dsimp only at qq;rw [Own] at o1 o2;obtain ⟨rfl,rfl⟩:=o1;obtain ⟨rfl,rfl⟩:=o2;refine ⟨i,j,rfl,rfl,p i j,rfl,?_⟩;by_cases hp:p i j=true
     ·rw [if_pos hp] at qq ⊢;refine ⟨ρ2,fps2,rep2,?_⟩;cases eh:h ρ2 with
      | no=>rw [eh] at qq;exact qq
      | exc c=>rw [eh] at qq;exact λ H' fps' k=>qq H' fps' ((k1.trans k2).trans k)
      | ok p3=>
       obtain ⟨z,c,ρ3⟩:=p3;rw [eh] at qq;intro u H3 fps3 f3 k3 g3 rep3 o3 t3;cases z with
       | int k=>
        dsimp only at qq;rw [Own] at o3;obtain ⟨rfl,rfl⟩:=o3;exact ⟨j,k,rfl,rfl,qq _ H3 fps3 [] ((k1.trans k2).trans k3) ((g1.trans g2).trans g3) rep3 (by rw [Own];exact ⟨rfl,rfl⟩) ⟨λ _ z=>(nomatch z),λ _ z=>nomatch z⟩⟩
       | _=>exact qq.elim
     ·rw [if_neg hp] at qq ⊢;exact qq _ H2 fps2 [] (k1.trans k2) (g1.trans g2) rep2 (by rw [Own];exact ⟨rfl,rfl⟩) ⟨λ _ z=>(nomatch z),λ _ z=>nomatch z⟩
    | _=>exact qq.elim
   | _=>exact qq.elim
def D1 (f g:Fx):Fx:=λ ρ=>(f ρ).bind λ (x,_,ρ1)=>match x with
 | .bl true=>g ρ1
 | .bl false=>.ok (.bl false,om,ρ1)
 | _=>.no
def Bb (f g:Fx):Fx:=λ ρ=>(f ρ).bind λ (x,_,ρ1)=>match x with
 | .bl true=>.ok (.bl true,om,ρ1)
 | .bl false=>g ρ1
 | _=>.no
def Cu:PV->Nat->Option (PV×Nat)
 | .bl b,_=>some (.bl (!b),om)
 | _,_=>none
variable {f g:Fx}{vs vs':List Nat}{σ:St}{H:Hp}{Q:VK}
theorem Us {f:Fx}{ρ ρ1:Ah}{fps fps1:AF}{H H1:Hp} (k1:KD M H fps H1 fps1) (g1:Agr M ρ ρ1) (rep1:Rep M ρ1 σ H1 fps1) (hs:∀ i∈vs,i∈vs')
  (q:match f ρ1 with
   | .ok (x,d,ρ')=>∀ v H' fps' fp,KD M H fps H' fps'->Agr M ρ ρ'->Rep M ρ' σ H' fps'->Own M.K H' (Zt M vs' fps' fp) x d v fp->Temp M vs' H H' fps' fp->Q v H'
   | .exc c=>∀ H' fps',KD M H fps H' fps'->M.W σ c H'
   | .no=>False):tE M f vs σ H1 Q:=by
 refine ⟨ρ1,fps1,rep1,?_⟩;cases eg:f ρ1 with
 | no=>rw [eg] at q;exact q
 | exc c=>rw [eg] at q;exact λ H' fps' k=>q H' fps' (k1.trans k)
 | ok p2=>
  obtain ⟨x,d,ρ2⟩:=p2;rw [eg] at q;exact λ v H' fps' fp k g r o t=>q v H' fps' fp (k1.trans k) (g1.trans g) r (o.weak λ a h=>Zt.mono hs h) ⟨λ a ha=>(by
   have e:=t.new a ha;cases e':H a with
   | none=>rfl
   | some o=>exact absurd e (k1.dom a (by rw [e'];simp))),t.ndj⟩
theorem Zi (hq:tE M (D1 f g) (vs++vs') σ H Q):Sj (tE M f vs) (tE M g vs') σ H Q:=by
 obtain ⟨ρ,fps,rep,q⟩:=hq;refine ⟨ρ,fps,rep,?_⟩;unfold D1 at q;cases ef:f ρ with
 | no=>rw [ef] at q;exact q
 | exc c=>rw [ef] at q;exact q
 | ok p=>
  obtain ⟨x,d,ρ1⟩:=p;rw [ef] at q;intro v H1 fps1 f1 k1 g1 rep1 o1 t1;dsimp only [Rz.bind] at q;cases x with
  | bl b=>
   rw [Own] at o1;refine ⟨b,o1.1,?_⟩;cases b with
   | true=>exact Us k1 g1 rep1 (λ i hi=>BI _ hi) q
   | false=>exact q (.bl false) H1 fps1 [] k1 g1 rep1 (by rw [Own];exact ⟨rfl,rfl⟩) ⟨λ _ z=>(nomatch z),λ _ z=>nomatch z⟩
  | _=>exact q.elim
theorem X9 (hq:tE M (Bb f g) (vs++vs') σ H Q):Kn (tE M f vs) (tE M g vs') σ H Q:=by
 obtain ⟨ρ,fps,rep,q⟩:=hq;refine ⟨ρ,fps,rep,?_⟩;unfold Bb at q;cases ef:f ρ with
 | no=>rw [ef] at q;exact q
 | exc c=>rw [ef] at q;exact q
 | ok p=>
  obtain ⟨x,d,ρ1⟩:=p;rw [ef] at q;intro v H1 fps1 f1 k1 g1 rep1 o1 t1;dsimp only [Rz.bind] at q;cases x with
  | bl b=>
   rw [Own] at o1;refine ⟨b,o1.1,?_⟩;cases b with
   | false=>exact Us k1 g1 rep1 (λ i hi=>BI _ hi) q
   | true=>exact q (.bl true) H1 fps1 [] k1 g1 rep1 (by rw [Own];exact ⟨rfl,rfl⟩) ⟨λ _ z=>(nomatch z),λ _ z=>nomatch z⟩
  | _=>exact q.elim
theorem Zk (hq:tE M (Aq Cu f) vs σ H Q):Sl (tE M f vs) σ H Q:=by
 refine HI (r:=λ x H1 Q=>∃ c,x=.bl c/\Q (.bl (!c)) H1) (λ x d z c v H fps f1 Q ho o1 nz zd lf=>?_) hq;cases x with
 | bl b=>cases ho;rw [Own] at o1;exact ⟨b,o1.1,DK lf⟩
 | _=>cases ho
end
end QQ
namespace ST
open PySem PySem.SetTable
abbrev El:=Int×Ae
abbrev BW:=Nat->Option El
def D9 (occ:BW) (j:Nat):Option (Nat×El):=(occ j).map λ e=>(j,e)
def Bs (N:Nat) (occ:BW):List (Nat×El):=(Bh N).filterMap (D9 occ)
def Br (N j:Nat) (occ:BW):List (Nat×El):=((Bh (N - j)).map (j + ·)).filterMap (D9 occ)
theorem N3 {α β:Type}{f g:α->Option β}:∀ {l:List α},(∀ x∈l,f x=g x)->l.filterMap f=l.filterMap g
 | [],_=>rfl
 | x::l,h=>by rw [Iu,Iu,h x Bf,N3 λ y hy=>h y (AQ _ hy)]
def J5 {N j:Nat} (h:j<=N) (occ:BW):Bs N occ=Bs j occ++Br N j occ:=by
 unfold Bs Br;rw [<- List.filterMap_append,<- List.range_add,Ve h]
def J4 {N j:Nat} (h:j < N) (occ:BW):Br N j occ=(match occ j with | some e=>[(j,e)] | none=>[])++Br N (j + 1) occ:=by
 unfold Br;obtain ⟨m,hm⟩:∃ m,N - j=m + 1:=⟨N - j - 1,by omega⟩
 rw [hm,show N - (j + 1)=m by omega,Vi,BQ,Ik];have e:((j + ·) ∘ Nat.succ:Nat->Nat)=(j + 1 + ·):=funext λ x=>by simp only [Function.comp];omega
 rw [e,Iu];have e0:D9 occ (j + 0)=(occ j).map λ e=>(j,e):=rfl;rw [e0];cases occ j <;> rfl
def SX {j:Nat}{occ:BW}{p:Nat×El} (h:p∈Bs j occ):p.1 < j/\occ p.1=some p.2:=by
 unfold Bs D9 at h;obtain ⟨k,hk,e⟩:=jg8.mp h;obtain ⟨v,hv,rfl⟩:=jb0.mp e;exact ⟨jd5.mp hk,hv⟩
def Ue {N j:Nat}{occ:BW}{p:Nat×El} (h:p∈Br N j occ):j<=p.1/\occ p.1=some p.2:=by
 unfold Br D9 at h;obtain ⟨k,hk,e⟩:=jg8.mp h;obtain ⟨v,hv,rfl⟩:=jb0.mp e;obtain ⟨m,_,rfl⟩:=je6.mp hk;exact ⟨Jt _ _,hv⟩
def Y8 {N j:Nat}{occ:BW}{e:El} (h:j < N) (he:occ j=some e):(j,e)∈Bs N occ:=by
 unfold Bs D9;exact jg8.mpr ⟨j,jd5.mpr h,by rw [he];rfl⟩
def Qs (xs:List Nat) (j r:Nat):Prop:=r<=xs.length/\(∀ i,i < r->xs.getD i 0 < j)/\∀ i,r<=i->i < xs.length->j<=xs.getD i 0
theorem N1 {xs:Array Nat}{j r:Nat} (h:Qs xs.toList j r):∀ (fuel lo hi:Nat),lo<=r->r<=hi->hi<=xs.size->hi - lo<=fuel->below.go xs j fuel lo hi=r
 | 0,lo,hi,h1,h2,_,h4=>by unfold below.go;omega
 | fuel + 1,lo,hi,h1,h2,h3,h4=>by
  unfold below.go;by_cases hl:lo < hi
  ·rw [if_pos hl];dsimp only;have hm:(lo + hi) / 2 < hi:=by omega
   have hm2:lo<=(lo + hi) / 2:=by omega
   have e:xs.getD ((lo + hi) / 2) j=xs.toList.getD ((lo + hi) / 2) 0:=by
    rw [Hm,Ca,Iv,Gp (by omega)];rfl
   rw [e];by_cases hc:xs.toList.getD ((lo + hi) / 2) 0 < j
   ·rw [if_pos hc];refine N1 h fuel _ hi ?_ h2 h3 (by omega);by_cases q:(lo + hi) / 2 < r
    ·omega
    ·have:=h.2.2 _ (UU q) (by rw [DU];omega)
     omega
   ·rw [if_neg hc];refine N1 h fuel lo _ h1 ?_ (by omega) (by omega);by_cases q:r<=(lo + hi) / 2
    ·exact q
    ·exact absurd (h.2.1 _ (by omega)) hc
  ·rw [if_neg hl];omega
def ZG {xs:Array Nat}{j r:Nat} (h:Qs xs.toList j r):below xs j=r:=by
 unfold below;exact N1 h _ _ _ (CV _) (by rw [<- DU];exact h.1) (A7 _) (by omega)
def cnt (occ:BW) (j:Nat):Nat:=(Bs j occ).length
def Y7 {N j:Nat} (h:j<=N) (occ:BW):Qs ((Bs N occ).map (·.1)) j (cnt occ j):=by
 rw [J5 h,Du];refine ⟨by simp [cnt],λ i hi=>?_,λ i hi hl=>?_⟩
 ·rw [Ca,CF (by rw [A5];exact hi),Cs,CD hi];exact (SX (Hj hi)).1
 ·rw [AV,A5,A5] at hl;have hi':cnt occ j<=i:=hi;unfold cnt at hi';rw [Ca,Ep (by rw [A5];exact hi'),Cs,A5,CD (by omega)];exact (Ue (Hj _)).1
structure Lays (t:DC) (es:Array El) (N:Nat) (occ:BW):Prop where
 mask:t.mask + 1=N
 place:t.place.toList=(Bs N occ).map (·.1)
 els:es.toList=(Bs N occ).map (·.2)
 dum:t.dummies=#[]
variable {t:DC}{es:Array El}{N:Nat}{occ:BW}
def Lays.below (L:Lays t es N occ) {j:Nat} (h:j<=N):below t.place j=cnt occ j:=ZG (by rw [L.place];exact Y7 h occ)
def SD {j:Nat} (h:j < N):(Bs N occ)[cnt occ j]?=(Br N j occ)[0]?:=by
 unfold cnt;rw [J5 (E8 h),Ep (A7 _),MN]
def Lays.live (L:Lays t es N occ) {j:Nat}{e:El} (h:j < N) (he:occ j=some e):t.slot j=.live (cnt occ j)/\es[cnt occ j]?=some e:=by
 have h0:(Bs N occ)[cnt occ j]?=some (j,e):=by rw [SD h,J4 h,he];rfl
 constructor
 ·unfold slot;dsimp only;rw [L.below (E8 h),<- Iv,L.place,Cs,h0];show (if (some j == some j)=true then _ else _)=_;rw [if_pos (by simp)]
 ·rw [<- Iv,L.els,Cs,h0];rfl
def Lays.empty (L:Lays t es N occ) {j:Nat} (h:j < N) (he:occ j=none):t.slot j=.empty:=by
 have h0:∀ x,(Bs N occ)[cnt occ j]?=some x->x.1≠j:=λ x hx z=>by
  rw [SD h,J4 h,he] at hx
  have:=Ue (Gk hx)
  omega
 unfold slot;dsimp only;rw [L.below (E8 h),<- Iv,L.place,Cs,L.dum];have hn:(MH (λ x=>x.1) (Bs N occ)[cnt occ j]? == some j)=false:=by
  cases hx:(Bs N occ)[cnt occ j]? with
  | none=>rfl
  | some x=>
   have:=h0 x hx
   simpa using this
 rw [hn];rfl
def put (occ:BW) (j:Nat) (e:El):BW:=λ i=>if i=j then some e else occ i
def NX {j:Nat}{e:El} (h:j < N) (he:occ j=none):Bs N (put occ j e)=Bs j occ++(j,e)::Br N (j + 1) occ:=by
 have e1:Bs j (put occ j e)=Bs j occ:=by
  unfold Bs;refine N3 λ x hx=>?_
  have:=jd5.mp hx
  unfold D9 put;rw [if_neg (by omega)]
 have e2:Br N (j + 1) (put occ j e)=Br N (j + 1) occ:=by
  unfold Br;refine N3 λ x hx=>?_;obtain ⟨m,_,rfl⟩:=je6.mp hx;unfold D9 put;rw [if_neg (by omega)]
 rw [J5 (E8 h),J4 h,e1,e2]
 have:put occ j e j=some e:=if_pos rfl
 rw [this];rfl
def JF {j:Nat} (h:j < N) (he:occ j=none):Bs N occ=Bs j occ++Br N (j + 1) occ:=by
 rw [J5 (E8 h),J4 h,he];rfl
def Ug {j:Nat}{e:El} (h:j < N) (he:occ j=none):(Bs N (put occ j e)).length=(Bs N occ).length + 1:=by
 rw [NX h he,JF h he,AV,AV,Ba];omega
def Pd {α:Type}{xs:Array α}{a b:List α}{x:α} (h:xs.toList=a++b):(insertAt xs a.length x).toList=a++x::b:=by
 rw [toList_insertAt,h];simp
def Lays.put (L:Lays t es N occ) {j:Nat}{e:El} (h:j < N) (he:occ j=none):∃ t',t.put j=(t',cnt occ j)/\Lays t' (insertAt es (cnt occ j) e) N (ST.put occ j e)/\t'.mask=t.mask/\t'.place.size=t.place.size + 1:=by
 refine ⟨{ t with place:=insertAt t.place (cnt occ j) j,dummies:=#[] },?_,⟨L.mask,?_,?_,rfl⟩,rfl,?_⟩
 ·unfold SetTable.put;dsimp only;rw [L.below (E8 h),L.dum];rfl
 ·show (insertAt t.place (cnt occ j) j).toList=_
  have:=Pd (x:=j) (show t.place.toList=(Bs j occ).map (·.1)++(Br N (j + 1) occ).map (·.1) by rw [L.place,JF h he,Du])
  rw [A5] at this;rw [show cnt occ j=(Bs j occ).length from rfl,this,NX h he,Du,BQ]
 ·have:=Pd (x:=e) (show es.toList=(Bs j occ).map (·.2)++(Br N (j + 1) occ).map (·.2) by rw [L.els,JF h he,Du])
  rw [A5] at this;rw [show cnt occ j=(Bs j occ).length from rfl,this,NX h he,Du,BQ]
 ·show (insertAt t.place (cnt occ j) j).size=_
  have:=Pd (x:=j) (show t.place.toList=(Bs j occ).map (·.1)++(Br N (j + 1) occ).map (·.1) by rw [L.place,JF h he,Du])
  rw [A5] at this;rw [<- DU,<- DU,show cnt occ j=(Bs j occ).length from rfl,this,L.place,JF h he];simp;omega
def Fe (m:Nat) (p:Probe):Probe:=if p.more > 0 then { p with j:=p.j + 1,more:=p.more - 1 } else { p with j:=(leap m p.i p.perturb).1,more:=runEnd m (leap m p.i p.perturb).1 - (leap m p.i p.perturb).1,i:=(leap m p.i p.perturb).1,perturb:=(leap m p.i p.perturb).2 }
def start (m:Nat) (i p:Nat):Probe:={ j:=i,more:=runEnd m i - i,i:=i,perturb:=p,dummy:=none }
def pos (m:Nat) (h:Int):Nat->Probe
 | 0=>start m (bits h % (m + 1)) (bits h)
 | n + 1=>Fe m (pos m h n)
def Tf (t:DC) (p:Probe):t.advance p=Fe t.mask p:=by unfold advance Fe;rfl
def Good (m:Nat) (p:Probe):Prop:=p.j + p.more<=m/\p.dummy=none
def JO {m i:Nat} (h:i<=m):i + (runEnd m i - i)<=m/\runEnd m i - i<=9:=by
 unfold runEnd;split <;> omega
theorem Ht (m:Nat) (h:Int):∀ n,Good m (pos m h n)
 | 0=>⟨(JO (jk7.mp (MG _ (Jp m)))).1,rfl⟩
 | n + 1=>by
  have ih:=Ht m h n;show Good m (Fe m (pos m h n));unfold Fe;split
  ·exact ⟨by have:=ih.1;dsimp only;omega,ih.2⟩
  ·exact ⟨(JO (jk7.mp (MG _ (Jp m)))).1,ih.2⟩
def Ak (m:Nat) (h:Int):Nat->Nat×Nat
 | 0=>(bits h % (m + 1),bits h)
 | k + 1=>leap m (Ak m h k).1 (Ak m h k).2
theorem LM (m:Nat) (h:Int):∀ k,(Ak m h k).1<=m
 | 0=>jk7.mp (MG _ (Jp m))
 | k + 1=>jk7.mp (MG _ (Jp m))
theorem Ky {m:Nat}{h:Int}{T i p r:Nat} (e:pos m h T={ j:=i,more:=r,i:=i,perturb:=p,dummy:=none }):∀ q,q<=r->pos m h (T + q)={ j:=i + q,more:=r - q,i:=i,perturb:=p,dummy:=none }
 | 0,_=>e
 | q + 1,hq=>by
  show Fe m (pos m h (T + q))=_;rw [Ky e q (by omega)];unfold Fe;rw [if_pos (show r - q > 0 by omega)];dsimp only;rw [show r - q - 1=r - (q + 1) by omega,show i + q + 1=i + (q + 1) by omega]
theorem Ts (m:Nat) (h:Int):∀ k,∃ T,T<=10 * k/\pos m h T=start m (Ak m h k).1 (Ak m h k).2
 | 0=>⟨0,A7 _,rfl⟩
 | k + 1=>by
  obtain ⟨T,hT,e⟩:=Ts m h k;have hr:=JO (LM m h k);have a:=Ky e _ (A7 _);refine ⟨T + (runEnd m (Ak m h k).1 - (Ak m h k).1) + 1,by omega,?_⟩;show Fe m (pos m h (T + (runEnd m (Ak m h k).1 - (Ak m h k).1)))=_;rw [a];unfold Fe;rw [if_neg (by dsimp only;omega)];rfl
def Yc (h:Int):bits h < 2 ^ 64:=by
 unfold bits;have h1:=Hl h (show (0:Int) < 2 ^ 64 by decide);have h2:=Gg h (show (2 ^ 64:Int)≠0 by decide);omega
theorem Sq (m:Nat) (h:Int):∀ k,(Ak m h k).2=bits h / 32 ^ k
 | 0=>by show bits h=_;rw [Nat.pow_zero,Nat.div_one]
 | k + 1=>by
  show (Ak m h k).2 / 32=_;rw [Sq m h k,Nat.div_div_eq_div_mul,Nat.pow_succ]
def XI (m:Nat) (h:Int) (k:Nat):(Ak m h (13 + k)).2=0:=by
 rw [Sq,Nat.pow_add];refine Nat.div_eq_of_lt (Bv (Yc h) (Cg (show 2 ^ 64<=32 ^ 13 by decide) (Nat.le_mul_of_pos_right _ (Nat.pow_pos (by decide)))))
def Hi (N x:Nat):Nat:=(x * 5 + 1) % N
def E7 (N:Nat):Nat->Nat->Nat
 | 0,x=>x
 | n + 1,x=>E7 N n (Hi N x)
theorem J7 (N:Nat):∀ (a b x:Nat),E7 N (a + b) x=E7 N b (E7 N a x)
 | 0,b,x=>by rw [Jq];rfl
 | a + 1,b,x=>by rw [Nat.succ_add];exact J7 N a b (Hi N x)
theorem Uc (m:Nat) (h:Int):∀ n,(Ak m h (13 + n)).1=E7 (m + 1) n (Ak m h 13).1
 | 0=>rfl
 | n + 1=>by
  have e:E7 (m + 1) (n + 1) (Ak m h 13).1=Hi (m + 1) (E7 (m + 1) n (Ak m h 13).1):=by rw [J7 (m + 1) n 1];rfl
  rw [e,<- Uc m h n];show ((Ak m h (13 + n)).1 * 5 + 1 + (Ak m h (13 + n)).2 / 32) % (m + 1)=_;rw [XI];rfl
def Ii (N:Nat):Nat->Nat->List Nat
 | 0,_=>[]
 | k + 1,x=>x::Ii N k (Hi N x)
theorem Rj {N:Nat}:∀ {k x y:Nat},y∈Ii N k x->∃ n,n < k/\E7 N n x=y
 | 0,x,y,h=>by cases h
 | k + 1,x,y,h=>by
  rcases jb2.mp h with rfl | h
  ·exact ⟨0,Jp _,rfl⟩
  ·obtain ⟨n,hn,e⟩:=Rj h;exact ⟨n + 1,Nat.succ_lt_succ hn,e⟩
def full (N:Nat):Bool:=(Bh N).all (λ j=>(Ii N N 0).contains j) && (E7 N N 0 == 0)
def Sz (N:Nat):Prop:=N=8\/N=32\/N=128\/N=512
def ZV {N:Nat} (h:Sz N):full N=true:=by
 rcases h with rfl | rfl | rfl | rfl
 ·decide +kernel
 ·decide +kernel
 ·decide +kernel
 ·decide +kernel
def We {N x y:Nat} (h:Sz N) (hx:x < N) (hy:y < N):∃ n,n < N/\E7 N n x=y:=by
 have f:=ZV h;unfold full at f;rw [Be,jd6] at f;have z:E7 N N 0=0:=by simpa using f.2
 have g:∀ v,v < N->∃ n,n < N/\E7 N n 0=v:=λ v hv=>Rj (by simpa using f.1 v (jd5.mpr hv));obtain ⟨a,ha,ea⟩:=g x hx;obtain ⟨b,hb,eb⟩:=g y hy;by_cases hab:a<=b
 ·refine ⟨b - a,by omega,?_⟩;rw [<- ea,<- J7,Ve hab,eb]
 ·refine ⟨b + N - a,by omega,?_⟩;rw [<- ea,<- J7,show a + (b + N - a)=N + b by omega,J7,z,eb]
def RZ {m:Nat} (hm:Sz (m + 1)) (h:Int) {j:Nat} (hj:j<=m):∃ k,k<=13 + m/\(Ak m h k).1=j:=by
 obtain ⟨n,hn,e⟩:=We hm (UX (LM m h 13)) (UX hj);exact ⟨13 + n,by omega,by rw [Uc,e]⟩
def WU {m:Nat} (hm:Sz (m + 1)) (h:Int) {j:Nat} (hj:j<=m):∃ T,T < 10 * turns m/\(pos m h T).j=j:=by
 obtain ⟨k,hk,e⟩:=RZ hm h hj;obtain ⟨T,hT,eT⟩:=Ts m h k;exact ⟨T,by unfold turns;omega,by rw [eT];exact e⟩
section
variable {t:DC}{es:Array El}{occ:BW}{f:Nat->Int}{h:Int}
theorem OQ (L:Lays t es (t.mask + 1) occ) (hf:∀ i e,es[i]?=some e->f i=e.1) (fuel:Nat):∀ (n k:Nat),(∀ q,q < n->∃ e,occ (pos t.mask h (k + q)).j=some e/\e.1≠h)->probe.go t f h (fuel + n) (pos t.mask h k)=probe.go t f h fuel (pos t.mask h (k + n))
 | 0,k,_=>rfl
 | n + 1,k,hq=>by
  obtain ⟨e,he,hne⟩:=hq 0 (Jp _);rw [P4] at he;have hj:(pos t.mask h k).j < t.mask + 1:=by have:=(Ht t.mask h k).1;omega
  obtain ⟨l1,l2⟩:=L.live hj he;have e1:probe.go t f h ((fuel + n) + 1) (pos t.mask h k)=probe.go t f h (fuel + n) (pos t.mask h (k + 1)):=by
   conv=>lhs;unfold probe.go
   rw [l1];dsimp only;rw [hf _ _ l2,if_neg (by simpa using hne),Tf];rfl
  have:=OQ L hf fuel n (k + 1) λ q hq'=>by
   have:=hq (q + 1) (by omega)
   rwa [show k + (q + 1)=k + 1 + q by omega] at this
  rw [show k + (n + 1)=k + 1 + n by omega];exact e1.trans this
def zg (L:Lays t es (t.mask + 1) occ) (hf:∀ i e,es[i]?=some e->f i=e.1) {a n:Nat} (hn:a + n < 10 * turns t.mask) (hq:∀ q,q < n->∃ e,occ (pos t.mask h (a + q)).j=some e/\e.1≠h) (he:occ (pos t.mask h (a + n)).j=none):
  t.probe f h (pos t.mask h a)=some (.empty (pos t.mask h (a + n)).j none):=by
 unfold probe;have e:=OQ L hf (10 * turns t.mask - n) n a hq;rw [show 10 * turns t.mask=(10 * turns t.mask - n) + n by omega,e];obtain ⟨k,hk⟩:∃ k,10 * turns t.mask - n=k + 1:=⟨10 * turns t.mask - n - 1,by omega⟩
 rw [hk];unfold probe.go;have g:=Ht t.mask h (a + n);rw [L.empty (by have:=g.1;omega) he,g.2]
def xB (L:Lays t es (t.mask + 1) occ) (hf:∀ i e,es[i]?=some e->f i=e.1) {a n:Nat} (hn:a + n < 10 * turns t.mask) (hq:∀ q,q < n->∃ e,occ (pos t.mask h (a + q)).j=some e/\e.1≠h) {e:El} (he:occ (pos t.mask h (a + n)).j=some e) (hh:e.1=h):
  ∃ i,t.probe f h (pos t.mask h a)=some (.candidate (pos t.mask h (a + n)).j i (pos t.mask h (a + n + 1)))/\es[i]?=some e/\t.slot (pos t.mask h (a + n)).j=.live i:=by
 unfold probe;have eg:=OQ L hf (10 * turns t.mask - n) n a hq;rw [show 10 * turns t.mask=(10 * turns t.mask - n) + n by omega,eg];obtain ⟨k,hk⟩:∃ k,10 * turns t.mask - n=k + 1:=⟨10 * turns t.mask - n - 1,by omega⟩
 rw [hk];obtain ⟨l1,l2⟩:=L.live (by have:=(Ht t.mask h (a + n)).1;omega) he;unfold probe.go;rw [l1];dsimp only;rw [hf _ _ l2,if_pos (by simp [hh]),Tf];exact ⟨_,rfl,l2,rfl⟩
end
def qbn (m:Nat) (occ:BW):Prop:=∀ j e,occ j=some e->∃ n,n < 10 * turns m/\(pos m e.1 n).j=j/\∀ q,q < n->∃ e',occ (pos m e.1 q).j=some e'
theorem OR (P:Nat->Prop):∀ n,P n->∃ m,m<=n/\P m/\∀ q,q < m->¬ P q
 | 0,h=>⟨0,A7 _,h,λ q hq=>absurd hq (MV _)⟩
 | n + 1,h=>by
  by_cases hx:∃ k,k<=n/\P k
  ·obtain ⟨k,hk,pk⟩:=hx;obtain ⟨m,hm,pm,hq⟩:=OR P k pk;exact ⟨m,by omega,pm,hq⟩
  ·exact ⟨n + 1,A7 _,h,λ q hq z=>hx ⟨q,by omega,z⟩⟩
theorem Qh {m:Nat}{occ:BW} (hm:Sz (m + 1)) (h:Int) (hfree:∃ j,j<=m/\occ j=none):∃ n,n < 10 * turns m/\(∀ q,q < n->∃ e,occ (pos m h q).j=some e)/\occ (pos m h n).j=none:=by
 obtain ⟨j0,hj0,e0⟩:=hfree;obtain ⟨T,hT,eT⟩:=WU hm h hj0;obtain ⟨n,hn,pn,hq⟩:=OR (λ n=>occ (pos m h n).j=none) T (by rw [eT];exact e0);refine ⟨n,by omega,λ q hq1=>?_,pn⟩;cases ho:occ (pos m h q).j with
 | none=>exact absurd ho (hq q hq1)
 | some e=>exact ⟨e,rfl⟩
def qbn.put {m:Nat}{occ:BW} (F:qbn m occ) {h:Int}{v:Ae}{n:Nat} (hn:n < 10 * turns m) (hq:∀ q,q < n->∃ e,occ (pos m h q).j=some e) (he:occ (pos m h n).j=none):qbn m (put occ (pos m h n).j (h,v)):=by
 have mono:∀ j e,occ j=some e->∃ e',ST.put occ (pos m h n).j (h,v) j=some e':=λ j e hj=>by
  unfold ST.put;split
  ·exact ⟨_,rfl⟩
  ·exact ⟨e,hj⟩
 intro j e hj;unfold ST.put at hj;split at hj
 ·rename_i hjj;cases hj;exact ⟨n,hn,hjj.symm,λ q h1=>let ⟨e,h2⟩:=hq q h1;mono _ e h2⟩
 ·obtain ⟨k,hk,ek,h2⟩:=F j e hj;exact ⟨k,hk,ek,λ q h1=>let ⟨e,h3⟩:=h2 q h1;mono _ e h3⟩
def qb {m:Nat}{h:Int}{T k:Nat} (e:pos m h T=start m (Ak m h k).1 (Ak m h k).2):pos m h (T + (runEnd m (Ak m h k).1 - (Ak m h k).1) + 1)=start m (Ak m h (k + 1)).1 (Ak m h (k + 1)).2:=by
 have a:=Ky e _ (A7 _);show Fe m (pos m h (T + (runEnd m (Ak m h k).1 - (Ak m h k).1)))=_;rw [a];unfold Fe;rw [if_neg (by dsimp only;omega)];rfl
abbrev Dy:=Array (Option Nat)
def ow (o:Dy) (j:Nat):Option Nat:=o.getD j none
theorem YQ {m:Nat}{h:Int}{o:Dy} (hs:o.size=m + 1) {ks:Nat} (h0:ow o (Ak m h ks).1=none):∀ (d k T fuel:Nat),k + d=ks->pos m h T=start m (Ak m h k).1 (Ak m h k).2->T<=10 * k->(∀ q,q < T->ow o (pos m h q).j≠none)->d < fuel ->
  ∃ n,n<=10 * ks + 9/\layClean.free m o fuel (Ak m h k).1 (Ak m h k).2=some (pos m h n).j/\ow o (pos m h n).j=none/\∀ q,q < n->ow o (pos m h q).j≠none:=by
 intro d;induction d with
 | zero=>
  intro k T fuel hk e hT hq hf;obtain ⟨fuel,rfl⟩:∃ f,fuel=f + 1:=⟨fuel - 1,by omega⟩
  rw [P4] at hk;subst hk;have hi:=LM m h k;refine ⟨T,by omega,?_,by rw [e];exact h0,hq⟩;unfold layClean.free;have hr:=(JO hi).1;obtain ⟨r,hr2⟩:∃ r,runEnd m (Ak m h k).1 + 1 - (Ak m h k).1=r + 1:=⟨runEnd m (Ak m h k).1 - (Ak m h k).1,by unfold runEnd;split <;> omega⟩
  have hfd:(Bh (runEnd m (Ak m h k).1 + 1 - (Ak m h k).1)).find? (λ q=>(o.getD ((Ak m h k).1 + q) (some 0)).isNone)=some 0:=by
   rw [hr2,Vi,Im]
   have:(o.getD ((Ak m h k).1 + 0) (some 0)).isNone=true:=by
    rw [P4,Hm,Gp (by omega)];have h1:o.getD (Ak m h k).1 none=none:=h0;rw [Hm,Gp (by omega)] at h1;show (o[(Ak m h k).1]'(by omega)).isNone=true;have h2:o[(Ak m h k).1]'(by omega)=none:=h1;rw [h2];rfl
   rw [this]
  rw [hfd];show some ((Ak m h k).1 + 0)=_;rw [e];rfl
 | succ d ih=>
  intro k T fuel hk e hT hq hf;obtain ⟨fuel,rfl⟩:∃ f,fuel=f + 1:=⟨fuel - 1,by omega⟩
  have hi:=LM m h k;have hr:=JO hi;have conv:∀ q,q<=runEnd m (Ak m h k).1 - (Ak m h k).1->(o.getD ((Ak m h k).1 + q) (some 0))=ow o (pos m h (T + q)).j:=λ q hq1=>by
   rw [Ky e q hq1];unfold ow;rw [Hm,Hm,Gp (by omega)];rfl
  have hlen:runEnd m (Ak m h k).1 + 1 - (Ak m h k).1=(runEnd m (Ak m h k).1 - (Ak m h k).1) + 1:=by unfold runEnd;split <;> omega
  unfold layClean.free;cases hfd:(Bh (runEnd m (Ak m h k).1 + 1 - (Ak m h k).1)).find? (λ q=>(o.getD ((Ak m h k).1 + q) (some 0)).isNone) with
  | some q=>
   obtain ⟨hq1,as,bs,hsp,hbef⟩:=List.find?_eq_some_iff_append.mp hfd;have hql:q < runEnd m (Ak m h k).1 + 1 - (Ak m h k).1:=jd5.mp (by rw [hsp];simp);have hlt:∀ p,p < q->p∈as:=λ p hp=>by
    have hmem:p∈Bh (runEnd m (Ak m h k).1 + 1 - (Ak m h k).1):=jd5.mpr (by omega);have hlen2:as.length=q:=by
     have:=congrArg (λ l=>l[as.length]?) hsp
     simp only [Ep (A7 _),MN,Vj] at this;have hl:as.length < runEnd m (Ak m h k).1 + 1 - (Ak m h k).1:=by
      have:=congrArg K8 hsp
      simp at this;omega
     rw [MY hl] at this;exact Option.some.inj this
    have:=congrArg (λ l=>l[p]?) hsp
    simp only [MY (show p < runEnd m (Ak m h k).1 + 1 - (Ak m h k).1 by omega),CF (show p < as.length by omega)] at this;exact Gk this.symm
   refine ⟨T + q,by omega,?_,?_,λ p hp=>?_⟩
   ·show some ((Ak m h k).1 + q)=_;rw [Ky e q (by omega)]
   ·rw [<- conv q (by omega)];simpa using hq1
   ·by_cases h1:p < T
    ·exact hq p h1
    ·have:=hbef (p - T) (hlt _ (by omega))
     rw [conv (p - T) (by omega),show T + (p - T)=p by omega] at this;intro z;rw [z] at this;simp at this
  | none=>
   dsimp only;have hno:=List.find?_eq_none.mp hfd;obtain ⟨n,hn,h1,h2,h3⟩:=ih (k + 1) (T + (runEnd m (Ak m h k).1 - (Ak m h k).1) + 1) fuel (by omega) (qb e) (by omega) (λ p hp=>by
    by_cases h1:p < T
    ·exact hq p h1
    ·have:=hno (p - T) (jd5.mpr (by omega))
     rw [conv (p - T) (by omega),show T + (p - T)=p by omega] at this;intro z;rw [z] at this;exact this rfl) (by omega)
   exact ⟨n,hn,h1,h2,h3⟩
def YR {m:Nat} (hm:Sz (m + 1)) (h:Int) {o:Dy} (hs:o.size=m + 1) (hfree:∃ j,j<=m/\ow o j=none):
  ∃ n,n < 10 * turns m/\layClean.free m o (turns m) (bits h % (m + 1)) (bits h)=some (pos m h n).j/\ow o (pos m h n).j=none/\∀ q,q < n->ow o (pos m h q).j≠none:=by
 obtain ⟨j,hj,e⟩:=hfree;obtain ⟨ks,hk,ek⟩:=RZ hm h hj;obtain ⟨n,hn,h1⟩:=YQ (h:=h) hs (ks:=ks) (by rw [ek];exact e) ks 0 0 (turns m) (by omega) rfl (CV _) (λ q hq=>absurd hq (by omega)) (by unfold turns;omega);exact ⟨n,by unfold turns;omega,h1⟩
def AZ (o:Dy) (es:Array El):BW:=λ j=>(ow o j).bind λ i=>es[i]?
theorem qD {N:Nat}{occ:BW}:(∀ j,j < N->∃ e,occ j=some e)->(Bs N occ).length=N:=λ h=>by
 induction N with
 | zero=>rfl
 | succ n ih=>
  rw [J5 (ML n),AV,ih λ j hj=>h j (by omega),J4 (Fv n)];obtain ⟨e,he⟩:=h n (Fv n);rw [he]
  have:Br (n + 1) (n + 1) occ=[]:=by unfold Br;rw [MN];rfl
  rw [this];rfl
def U7 {N:Nat}{occ:BW} (h:(Bs N occ).length < N):∃ j,j < N/\occ j=none:=by
 by_cases hx:∃ j,j < N/\occ j=none
 ·exact hx
 ·have:=qD (N:=N) (occ:=occ) λ j hj=>by
   cases ho:occ j with
   | none=>exact absurd ⟨j,hj,ho⟩ hx
   | some e=>exact ⟨e,rfl⟩
  omega
structure LC (m:Nat) (es:Array El) (k:Nat) (o:Dy):Prop where
 sz:o.size=m + 1
 lt:∀ j i,ow o j=some i->i < k
 fd:qbn m (AZ o es)
 len:(Bs (m + 1) (AZ o es)).length=k
 mem:∀ j e,AZ o es j=some e->e∈es.toList.take k
 all:∀ e,e∈es.toList.take k->∃ j,j<=m/\AZ o es j=some e
def SY {o:Dy}{j k:Nat} (hj:j < o.size) (i:Nat):ow (o.setIfInBounds j (some k)) i=if i=j then some k else ow o i:=by
 unfold ow;rw [Hm,Hm];by_cases h:i=j
 ·subst h;rw [if_pos rfl,Array.getElem?_setIfInBounds_self_of_lt hj];rfl
 ·rw [if_neg h,Array.getElem?_setIfInBounds_ne (λ z=>h z.symm)]
theorem RB {m:Nat} (hm:Sz (m + 1)) {es:Array El} (hn:es.size<=m):∀ (hs:List Int) (k:Nat) (o:Dy),k<=es.size->LC m es k o->hs=(es.toList.drop k).map (·.1) ->
  ∃ o',LC m es es.size o'/\hs.foldl (λ acc h=>do
   let (owner,k)<-acc;let j<-layClean.free m owner (turns m) (bits h % (m + 1)) (bits h)
   pure (owner.setIfInBounds j (some k),k + 1)) (some (o,k))=some (o',es.size)
 | [],k,o,hk2,I,e=>by
  have hk:es.size<=k:=by
   have:=congrArg K8 e
   simp at this;omega
  have:k=es.size:=by omega
  subst this;exact ⟨o,I,rfl⟩
 | h::hs,k,o,_,I,e=>by
  have hk:k < es.size:=by
   have:=congrArg K8 e
   simp at this;omega
  have hdr:es.toList.drop k=es[k]::es.toList.drop (k + 1):=by
   rw [Nc (by rw [DU];exact hk)];rfl
  rw [hdr,BQ] at e;obtain ⟨e1,e2⟩:=List.cons.inj e;have hfree:∃ j,j<=m/\ow o j=none:=by
   obtain ⟨j,hj,hx⟩:=U7 (N:=m + 1) (occ:=AZ o es) (by rw [I.len];omega);refine ⟨j,by omega,?_⟩;cases ho:ow o j with
   | none=>rfl
   | some i=>
    have hi:=I.lt j i ho;unfold AZ at hx;rw [ho] at hx;rw [show (some i).bind (λ i=>es[i]?)=es[i]? from rfl,Gp (by omega)] at hx;cases hx
  obtain ⟨n,hn1,hf,h0,hq⟩:=YR hm h I.sz hfree;have hjm:(pos m h n).j < m + 1:=by have:=(Ht m h n).1;omega
  have isS:∀ j,ow o j≠none->∃ e,AZ o es j=some e:=λ j hj=>by
   cases ho:ow o j with
   | none=>exact absurd ho hj
   | some i=>
    have hi:=I.lt j i ho;exact ⟨es[i]'(by omega),by unfold AZ;rw [ho];exact Gp (by omega)⟩
  have h0':AZ o es (pos m h n).j=none:=by unfold AZ;rw [h0];rfl
  have eo:AZ (o.setIfInBounds (pos m h n).j (some k)) es=put (AZ o es) (pos m h n).j (h,es[k].2):=funext λ i=>by
   unfold AZ put;rw [SY (by rw [I.sz];exact hjm)];split
   ·show es[k]?=_;rw [Gp hk,e1]
   ·rfl
  have tk:es.toList.take (k + 1)=es.toList.take k++[es[k]]:=by
   rw [MW,Iv,Gp hk];rfl
  have hek:es[k]=(h,es[k].2):=by rw [e1]
  have I':LC m es (k + 1) (o.setIfInBounds (pos m h n).j (some k)):=by
   refine ⟨by rw [Array.size_setIfInBounds];exact I.sz,λ j i hji=>?_,?_,?_,λ j e he=>?_,λ e he=>?_⟩
   ·rw [SY (by rw [I.sz];exact hjm)] at hji;split at hji
    ·cases hji;omega
    ·have:=I.lt j i hji;omega
   ·rw [eo];exact I.fd.put hn1 (λ q h1=>isS _ (hq q h1)) h0'
   ·rw [eo,Ug hjm h0',I.len]
   ·rw [eo] at he;unfold put at he;rw [tk];split at he
    ·cases he;rw [<- hek];simp
    ·exact BM _ (I.mem j e he)
   ·rw [tk] at he;rcases jc2.mp he with he | he
    ·obtain ⟨j,hj,h1⟩:=I.all e he;refine ⟨j,hj,?_⟩;rw [eo];unfold put;rw [if_neg (λ z=>by rw [z,h0'] at h1;cases h1)];exact h1
    ·rw [ja6.mp he];refine ⟨(pos m h n).j,by omega,?_⟩;rw [eo];unfold put;rw [if_pos rfl,<- hek]
  obtain ⟨o',h1,h2⟩:=RB hm hn hs (k + 1) _ hk I' e2;refine ⟨o',h1,?_⟩;rw [PD];show MJ _ ((layClean.free m o (turns m) (bits h % (m + 1)) (bits h)).bind λ j=>some (o.setIfInBounds j (some k),k + 1)) hs=_;rw [hf];exact h2
def NW {N:Nat}{occ:BW} (h:∀ j,occ j=none):Bs N occ=[]:=by
 unfold Bs;rw [List.filterMap_eq_nil_iff];intro x _;unfold D9;rw [h x];rfl
def ZL {m:Nat} (hm:Sz (m + 1)) {es:Array El} (hn:es.size<=m):∃ o,LC m es es.size o/\layClean m (es.map (·.1))=some o:=by
 have o0:∀ j,ow (P9 (m + 1) (none:Option Nat)) j=none:=λ j=>by
  unfold ow;rw [Hm,Array.getElem?_replicate];split <;> rfl
 have c0:∀ j,AZ (P9 (m + 1) none) es j=none:=λ j=>by unfold AZ;rw [o0];rfl
 have I0:LC m es 0 (P9 (m + 1) none):=by
  refine ⟨Array.size_replicate,λ j i h=>?_,λ j e h=>?_,by rw [NW c0];rfl,λ j e h=>?_,λ e h=>?_⟩
  ·rw [o0] at h;cases h
  ·rw [c0] at h;cases h
  ·rw [c0] at h;cases h
  ·rw [MR] at h;cases h
 obtain ⟨o',h1,h2⟩:=RB hm hn (es.toList.map (·.1)) 0 _ (CV _) I0 (by rw [P8]);refine ⟨o',h1,?_⟩;unfold layClean;rw [<- Array.foldl_toList,Array.toList_map,h2];rfl
theorem Ru {o:Dy}{es:Array El} (hl:∀ j i,ow o j=some i->i < es.size):∀ l:List Nat,
  (l.filterMap λ j=>(ow o j).map (j,·)).map (·.1)=(l.filterMap (D9 (AZ o es))).map (·.1)/\((l.filterMap λ j=>(ow o j).map (j,·)).map (·.2)).filterMap (es[·]?)=(l.filterMap (D9 (AZ o es))).map (·.2)
 | []=>⟨rfl,rfl⟩
 | j::l=>by
  obtain ⟨h1,h2⟩:=Ru hl l;cases ho:ow o j with
  | none=>
   have e2:D9 (AZ o es) j=none:=by unfold D9 AZ;rw [ho];rfl
   rw [Vk (f:=λ j=>(ow o j).map (j,·)) (a:=j) (by rw [ho];rfl),Vk e2];exact ⟨h1,h2⟩
  | some i=>
   have hi:=Gp (hl j i ho);have e2:D9 (AZ o es) j=some (j,es[i]'(hl j i ho)):=by
    unfold D9 AZ;rw [ho];show (es[i]?).map _=_;rw [hi];rfl
   rw [Qa (f:=λ j=>(ow o j).map (j,·)) (a:=j) (b:=(j,i)) (by rw [ho];rfl),Qa e2,BQ,BQ,BQ,BQ,Qa hi,h1,h2];exact ⟨rfl,rfl⟩
def xD {t:DC}{es:Array El}{wanted m:Nat} (hw:sizeAbove wanted=m + 1) (hm:Sz (m + 1)) (hn:es.size<=m):
  ∃ t' order occ,t.relaid (es.map (·.1)) wanted=some (t',order)/\t'.mask=m/\(order.filterMap (es[·]?)).size=es.size/\Lays t' (order.filterMap (es[·]?)) (t'.mask + 1) occ/\qbn m occ/\∀ e,(∃ j,occ j=some e)↔e∈es.toList:=by
 obtain ⟨o,I,e⟩:=ZL hm hn;have tm:=Ru (o:=o) (es:=es) I.lt (Bh (m + 1));have ht:es.toList.take es.size=es.toList:=by rw [<- DU,Js]
 have hw':sizeAbove wanted - 1=m:=by omega
 refine ⟨_,_,AZ o es,by unfold relaid laid;rw [hw',e];rfl,rfl,?_,⟨rfl,?_,?_,rfl⟩,I.fd,λ x=>⟨λ ⟨j,hj⟩=>by rw [<- ht];exact I.mem j x hj,λ hx=>by rw [<- ht] at hx;obtain ⟨j,_,h⟩:=I.all x hx;exact ⟨j,h⟩⟩⟩
 ·rw [<- DU,Vh];have h2:(UK (λ x=>es[x]?) (List.map (λ x=>x.2) (UK (λ j=>MH (λ x=>(j,x)) (ow o j)) (Bh (m + 1))))).length=es.size:=by
   rw [tm.2,A5];exact I.len
  exact h2
 ·exact tm.1
 ·rw [Vh];exact tm.2
open PySem PySem.SetTable PyProof.Rows
section
variable {prog:A0}{w:Ay}{K:Type} [DecidableEq K] {knd:KeyKind prog w K}{A:AU}{E:Ae->Ai->Prop}{s:Ai}
theorem Y1 (n:Nat) {v:Ae} (h:Kf v=true):∃ b,LP n v=pure b:=by
 cases v with
 | ref a=>simp [Kf] at h
 | _=>cases n <;> exact ⟨_,by unfold LP;rfl⟩
def xi {ks:List K}{a:Addr}{Q:Bool->Ai->Prop} (hk:C4 knd s.heap ks a) (h:∀ b,Q b s):An (Ap prog w) A (LP 8 (.ref a)) Q E s:=by
 have hT:=hk.typeIs;obtain ⟨o,items,n,ho,_,hd,hi⟩:=hk;unfold LP;refine Ax (wpAny_specialOf hT F.slot_tuple_hash.lookup ?_);dsimp only;refine Ax (wpAny_seqItems ho hd ?_);refine Ax ?_;show An _ _ (forIn items _ _) _ _ s;rw [<- UY];refine Ov _ (λ AL r s'=>r.1=none/\s'=s/\∀ v∈AL,Kf v=true) _ ?_ ?_ _ _ ⟨rfl,rfl,hi.byValue⟩
 ·rintro v AL r s' ⟨hr,rfl,hall⟩;obtain ⟨b,hb⟩:=Y1 7 (hall v Bf);rw [hb];refine Ax (AE ?_);cases b with
  | true=>
   simp only [MP,Fw,if_false];exact AE ⟨rfl,rfl,λ u hu'=>hall u (AQ _ hu')⟩
  | false=>
   simp only [Bool.not_false,if_true];exact AE (AE (h false))
 ·rintro ⟨r1,r2⟩ s' ⟨hr,rfl,_⟩;simp only at hr;subst hr;exact AE (h true)
def R7 {ks:List K}{a:Addr}{Q:Bool->Ai->Prop} (hk:C4 knd s.heap ks a) (h:Q false s):An (Ap prog w) A (Mb 8 (.ref a)) Q E s:=by
 have hT:=hk.typeIs;obtain ⟨o,items,n,ho,_,hd,hi⟩:=hk;unfold Mb;refine Ax (wpAny_typeOf hT ?_);dsimp only;have ht:("tuple" == "tuple")=true:=by decide
 rw [if_pos ht];refine Ax (AE ?_);simp only [MP,Fw,if_false];refine Ax (wpAny_seqItems ho hd ?_);dsimp only;refine Ax ?_;show An _ _ (forIn items _ _) _ _ s;rw [<- UY];refine Ov _ (λ AL r s'=>r.1=none/\s'=s/\∀ v∈AL,Kf v=true) _ ?_ ?_ _ _ ⟨rfl,rfl,hi.byValue⟩
 ·rintro v AL r s' ⟨hr,rfl,hall⟩;have hv:Mb 7 v=pure false:=by
   have:=hall v Bf
   cases v with
   | ref a=>simp [Kf] at this
   | _=>unfold Mb;rfl
  rw [hv];refine Ax (AE ?_);simp only [Fw,if_false];exact AE ⟨rfl,rfl,λ u hu'=>hall u (AQ _ hu')⟩
 ·rintro ⟨r1,r2⟩ s' ⟨hr,rfl,_⟩;simp only at hr;subst hr;exact AE h
def Zd {ks:List K}{b:Addr}{st:List Ae}{Q:Bool->Ai->Prop} (hk:C4 knd s.heap ks b) (hs:∀ y∈st,∃ k' b',y=.ref b'/\C4 knd s.heap k' b') (h:Q false s):An (Ap prog w) A (searchCouldBeSeen (.ref b) st) Q E s:=by
 unfold searchCouldBeSeen;refine Ax ?_;refine Ov _ (λ AL r s'=>r.1=none/\s'=s/\∀ y∈AL,∃ k' b',y=.ref b'/\C4 knd s.heap k' b') _ ?_ ?_ _ _ ⟨rfl,rfl,hs⟩
 ·rintro v AL r s' ⟨hr,rfl,hall⟩;obtain ⟨k',b',rfl,hk'⟩:=hall _ Bf;have hrest:∀ y∈AL,∃ k' b',y=.ref b'/\C4 knd s'.heap k' b':=λ u hu=>hall u (AQ _ hu);dsimp only;split
  ·exact AE ⟨rfl,rfl,hrest⟩
  ·refine Ax (wpAny_eqIsQuiet_tuple hk ?_);simp only [MP,Fw,if_false];refine Ax (wpAny_eqIsQuiet_tuple hk' ?_);simp only [MP,Fw,if_false];refine Ax (R7 hk ?_);simp only [Fw,if_false];refine Ax (R7 hk' ?_);simp only [Fw,if_false];exact AE ⟨rfl,rfl,hrest⟩
 ·rintro ⟨r1,r2⟩ s' ⟨hr,rfl,_⟩;simp only at hr;subst hr;exact AE h
end
section
variable {prog:A0}{w:Ay}{K:Type} [DecidableEq K] {knd:KeyKind prog w K}{A:AU}{E:Ae->Ai->Prop}{s:Ai}
structure Tab (t:DC) (es:Array El) (occ:BW):Prop where
 lays:Lays t es (t.mask + 1) occ
 sz:Sz (t.mask + 1)
 fd:qbn t.mask occ
def Tab.size {t:DC}{es:Array El}{occ:BW} (T:Tab t es occ):t.place.size=es.size/\es.size=(Bs (t.mask + 1) occ).length:=by
 rw [<- DU,<- DU,T.lays.place,T.lays.els,A5,A5];exact ⟨rfl,rfl⟩
def Tab.fits {t:DC}{es:Array El}{occ:BW} (T:Tab t es occ) (h:es.size<=t.mask):t.fits es.size=true:=by
 unfold SetTable.fits SetTable.fill;rw [T.lays.dum,T.size.1];simp [h]
def Tab.mem {t:DC}{es:Array El}{occ:BW} (T:Tab t es occ) {j:Nat}{e:El} (h:occ j=some e):e∈es.toList:=by
 obtain ⟨n,_,hj,_⟩:=T.fd j e h
 have:=(Ht t.mask e.1 n).1
 rw [T.lays.els];exact je6.mpr ⟨(j,e),Y8 (by omega) h,rfl⟩
def Tab.mem' {t:DC}{es:Array El}{occ:BW} (T:Tab t es occ) {e:El} (h:e∈es.toList):∃ j,occ j=some e:=by
 rw [T.lays.els] at h;obtain ⟨p,hp,rfl⟩:=je6.mp h;exact ⟨p.1,(SX hp).2⟩
def sz_odd {m:Nat} (h:Sz (m + 1)):(m % 2 == 0)=false/\7<=m:=by
 rcases h with h | h | h | h
 ·obtain rfl:m=7:=by omega
  exact ⟨rfl,by decide⟩
 ·obtain rfl:m=31:=by omega
  exact ⟨rfl,by decide⟩
 ·obtain rfl:m=127:=by omega
  exact ⟨rfl,by decide⟩
 ·obtain rfl:m=511:=by omega
  exact ⟨rfl,by decide⟩
variable {a:Addr}{o:Obj}{es:Array El}{ep:Nat}{t:DC}{occ:BW}{k:List K}{b:Addr}
def Qp (knd:KeyKind prog w K) (h:Heap) (es:List El):Prop:=∀ e∈es,∃ k b,e=(Bp knd k,.ref b)/\C4 knd h k b
def GL (knd:KeyKind prog w K) (h:Heap) (k:List K) (e:El):Prop:=∃ b,e=(Bp knd k,.ref b)/\C4 knd h k b
theorem xZ (hu:A.units < BU) (ho:s.heap.get? a=some o) (hd:o.data=.set es ep t) (T:Tab t es occ) (hm:es.size < t.mask) (hT:Qp knd s.heap es.toList) (hk:C4 knd s.heap k b) {n:Nat} (hn:n < 10 * turns t.mask) (hocc:∀ q,q < n->∃ e,occ (pos t.mask (Bp knd k) q).j=some e) (hfr:occ (pos t.mask (Bp knd k) n).j=none)
  {Q:SetFound->Ai->Prop}
  (h1:(∃ e∈es.toList,GL knd s.heap k e)->Q (.there none) s)
  (h2:(∀ q,q < n->∀ e,occ (pos t.mask (Bp knd k) q).j=some e->¬ GL knd s.heap k e)->Q (.free (pos t.mask (Bp knd k) n).j false) s):
  ∀ (fuel c:Nat) (st:Option Probe),st.getD (t.probeStart (Bp knd k))=pos t.mask (Bp knd k) c->c<=n->n - c < fuel->(∀ q,q < c->∀ e,occ (pos t.mask (Bp knd k) q).j=some e->¬ GL knd s.heap k e) ->
  An (Ap prog w) A (LV a (.ref b) (Bp knd k) true fuel st) Q E s:=by
 have hfit:=T.fits (E8 hm);intro fuel;induction fuel with
 | zero=>intro c st _ _ h;omega
 | succ fuel ih=>
  intro c st hst hc hf hno;obtain ⟨m,hmn,hm1,hm2⟩:=OR (λ m=>c<=m/\(m=n\/∃ e,occ (pos t.mask (Bp knd k) m).j=some e/\e.1=Bp knd k)) n ⟨hc,.inl rfl⟩;obtain ⟨d,rfl⟩:∃ d,m=c + d:=⟨m - c,by omega⟩
  have hq:∀ q,q < d->∃ e,occ (pos t.mask (Bp knd k) (c + q)).j=some e/\e.1≠Bp knd k:=λ q hq=>by
   obtain ⟨e,he⟩:=hocc (c + q) (by omega);exact ⟨e,he,λ z=>hm2 (c + q) (by omega) ⟨by omega,.inr ⟨e,he,z⟩⟩⟩
  unfold LV;refine Ax (Kk ho hd hfit ?_);dsimp only;have hg:t.gaveWay=false:=(sz_odd T.sz).1;rw [hg,hst];simp only [Fw,↓reduceIte];by_cases hend:c + d=n
  ·have hp:=zg (f:=λ i=>(es[i]?.map (·.1)).getD 0) T.lays (λ i e hi=>by rw [hi];rfl) (show c + d < 10 * turns t.mask by omega) hq (by rw [hend];exact hfr);rw [hend] at hp;generalize hpp:t.probe _ (Bp knd k) (pos t.mask (Bp knd k) c)=P;obtain rfl:P=some (.empty _ none):=hpp.symm.trans hp;refine AE (h2 λ q hq1 e he z=>?_);by_cases hqc:q < c
   ·exact hno q hqc e he z
   ·obtain ⟨e',he',hne⟩:=hq (q - c) (by omega);rw [show c + (q - c)=q by omega,he] at he';cases he';obtain ⟨b',rfl,_⟩:=z;exact hne rfl
  ·obtain ⟨e,he,hh⟩:=hm1.2.resolve_left hend;have hmem:=T.mem he;obtain ⟨i,hp,hi,hsl⟩:=xB (f:=λ i=>(es[i]?.map (·.1)).getD 0) T.lays (λ i e hi=>by rw [hi];rfl) (show c + d < 10 * turns t.mask by omega) hq he hh;obtain ⟨k',b',rfl,hk'⟩:=hT e hmem;generalize hpp:t.probe _ (Bp knd k) (pos t.mask (Bp knd k) c)=P;obtain rfl:P=some (.candidate _ i _):=hpp.symm.trans hp;dsimp only;have eqw:An (Ap prog w) A (Hd [Value.ref b'] (eqBool (.ref b') (.ref b))) (λ r s'=>r=decide (k'=k)/\s'=s) E s:=Hh (wpAny_eqBool_tuple hu hk' hk ⟨rfl,rfl⟩);rw [hi];dsimp only;have go:An (Ap prog w) A (LV a (.ref b) (Bp knd k) true fuel (some (pos t.mask (Bp knd k) (c + d + 1)))) Q E s\/k'=k:=by
    by_cases hkk:k'=k
    ·exact .inr hkk
    ·refine .inl (ih (c + d + 1) _ rfl (by omega) (by omega) λ q hq1 e he' z=>?_);by_cases hqc:q < c
     ·exact hno q hqc e he' z
     ·by_cases hqd:q < c + d
      ·obtain ⟨e',he2,hne⟩:=hq (q - c) (by omega);rw [show c + (q - c)=q by omega,he'] at he2;cases he2;obtain ⟨b2,rfl,_⟩:=z;exact hne rfl
      ·obtain rfl:q=c + d:=by omega
       rw [he] at he';cases he';obtain ⟨b2,e2,hk2⟩:=z;have hb:b'=b2:=by have:=(Prod.mk.inj e2).2;injection this
       subst hb;exact hkk (hk'.inj hk2)
   have AL:∀ (Y:Bool->(Array El×Nat×DC)->Sem SetFound),(∀ y,Y true y=pure (.there none))->(k'≠k->An (Ap prog w) A (Y false (es,ep,t)) Q E s)->An (Ap prog w) A (Hd [Value.ref b'] (eqBool (.ref b') (.ref b)) >>= λ equal=>setState a >>= λ x=>Y equal x) Q E s:=λ Y hY hN=>by
    refine Ax (Ef eqw (λ r s' h=>?_) λ _ _ h=>h);obtain ⟨rfl,rfl⟩:=h;refine Ax (Kk ho hd hfit ?_);by_cases hkk:k'=k
    ·rw [decide_eq_true hkk,hY];subst hkk;exact AE (h1 ⟨_,hmem,b',rfl,hk'⟩)
    ·rw [decide_eq_false hkk];exact hN hkk
   have hsm:t.sameMemory t.moves t.mask=some true:=by unfold sameMemory;simp
   have miss:∀ (Y:Option Nat->Sem SetFound),(∀ q,Y (some q)=LV a (.ref b) (Bp knd k) true fuel (some (pos t.mask (Bp knd k) (c + d + 1))))->k'≠k->An (Ap prog w) A (isSame (.ref b') (.ref b') >>= λ r=>pure (if r=true then some i else none) >>= Y) Q E s:=λ Y hY hkk=>by
    unfold isSame;simp only [beq_self_eq_true,↓reduceIte];refine Ax (AE ?_);refine Ax (AE ?_);rw [if_pos rfl,hY];exact go.resolve_right hkk
   split
   ·refine Ax (Zd hk (λ y hy=>?_) ?_)
    ·obtain ⟨e,he1,rfl⟩:=je6.mp hy;have he2:e∈es.toList:=by
      rw [Array.toList_filter] at he1;exact (ji9.mp he1).1
     obtain ⟨k2,b2,rfl,hk2⟩:=hT e he2;exact ⟨k2,b2,rfl,hk2⟩
    ·simp only [Fw,↓reduceIte];refine AL _ (λ y=>rfl) λ hkk=>?_;dsimp only;rw [hsm];dsimp only;rw [if_pos rfl,hsl];dsimp only;rw [hi];exact miss _ (λ q=>rfl) hkk
   ·refine AL _ (λ y=>rfl) λ hkk=>?_;dsimp only;rw [hsm];dsimp only;rw [if_pos rfl,hsl];dsimp only;rw [hi];exact miss _ (λ q=>rfl) hkk
def once {α:Type} [DecidableEq α] (ks:List α) (k:α):List α:=if k∈ks then ks else ks++[k]
def TSet (knd:KeyKind prog w K) (h:Heap) (a:Addr) (ks:List (List K)):Prop:=∃ o es ep t occ,h.get? a=some o/\o.ExactSet/\o.data=.set es ep t/\Tab t es occ/\es.size * 5 < t.mask * 3/\es.size=ks.length/\(∀ e∈es.toList,∃ k b,k∈ks/\e=(Bp knd k,.ref b)/\C4 knd h k b)/\∀ k∈ks,∃ e∈es.toList,GL knd h k e
def Lp {h h':Heap}{k:List K}{b:Addr} (ho:h.get? a=some o) (hd:o.data=.set es ep t) (hk:C4 knd h k b) (sb:HL a h h'):C4 knd h' k b:=by
 obtain ⟨o',items,n,ho',hc,hd',hi⟩:=hk;have hne:b≠a:=by
  rintro rfl;obtain rfl:o'=o:=Option.some.inj (ho'.symm.trans ho);rw [hd] at hd';exact nomatch hd'
 exact ⟨o',items,n,(sb.2 b hne).trans ho',hc,hd',hi⟩
def qz {m n:Nat} (hm:Sz (m + 1)) (h1:n * 5 < m * 3) (h2:(n + 1) * 5 ≥ m * 3) (h3:n + 1<=200):∃ m',sizeAbove (grown (n + 1))=m' + 1/\Sz (m' + 1)/\n + 1<=m'/\(n + 1) * 5 < m' * 3:=by
 rcases hm with h | h | h | h
 ·obtain rfl:n=4:=by omega
  exact ⟨31,by decide,.inr (.inl rfl),by decide,by decide⟩
 ·obtain rfl:n=18:=by omega
  exact ⟨127,by decide,.inr (.inr (.inl rfl)),by decide,by decide⟩
 ·obtain rfl:n=76:=by omega
  exact ⟨511,by decide,.inr (.inr (.inr rfl)),by decide,by decide⟩
 ·omega
def TZ {h:Heap}{es':Array El}{t':DC} (ho:h.get? a=some o) (hd:o.data=.set es ep t):(h.update a (Kc es' t')).get? a=some { o with data:=.set es' (ep + 1) t' }:=by
 have:=Heap.get?_update_self (Kc es' t') ho (by rw [putSet_of es' t' hd];rfl)
 rw [putSet_of es' t' hd] at this;exact this
def add_ok {ks:List (List K)} (hu:A.units < BU) (hS:TSet knd s.heap a ks) (hk:C4 knd s.heap k b) (hn:ks.length < 200)
  {Q:Bool->Ai->Prop} (h:∀ h' r,HL a s.heap h'->TSet knd h' a (once ks k)->Q r { s with heap:=h' }):An (Ap prog w) A (setAddHashed a (.ref b) (Bp knd k)) Q E s:=by
 obtain ⟨o,es,ep,t,occ,ho,hex,hd,T,hl,hz,hes,hks⟩:=hS;have h7:=(sz_odd T.sz).2;have hm:es.size < t.mask:=by omega
 have hfit:=T.fits (E8 hm);unfold setAddHashed;refine Hh ?_;rw [show (100000:Nat)=99999 + 1 from rfl];unfold setAddHashedIn;refine Ax (Kk ho hd hfit ?_);dsimp only;have hby:byScan (.ref b) es=false:=rfl;rw [hby];simp only [Fw,↓reduceIte];have hfree:∃ j,j<=t.mask/\occ j=none:=by
  obtain ⟨j,hj,e⟩:=U7 (N:=t.mask + 1) (occ:=occ) (by rw [<- T.size.2];omega);exact ⟨j,by omega,e⟩
 obtain ⟨n,hn1,hq,he⟩:=Qh T.sz (Bp knd k) hfree;unfold setSearch;have hfu:n - 0 < 100000:=by
  have:t.mask<=511:=by rcases T.sz with z | z | z | z <;> omega
  unfold turns at hn1;omega
 refine Ax (xZ (knd:=knd) (k:=k) hu ho hd T hm (λ e he=>let ⟨k',b',_,h2,h3⟩:=hes e he;⟨k',b',h2,h3⟩) hk hn1 hq he (λ hx=>?_) (λ hno'=>?_) 100000 0 none rfl (CV _) hfu λ q hq=>absurd hq (MV _))
 ·obtain ⟨e,he,b2,rfl,hk2⟩:=hx;obtain ⟨k3,b3,hm3,e3,hk3⟩:=hes _ he;have hb:b2=b3:=by have:=(Prod.mk.inj e3).2;injection this
  subst hb;have hkk:k=k3:=hk2.inj hk3;rw [<- hkk] at hm3;have es':s={ s with heap:=s.heap }:=by cases s;rfl
  have:=h s.heap false (Heap.SameBut.refl a s.heap) (by unfold once;rw [if_pos hm3];exact ⟨o,es,ep,t,occ,ho,hex,hd,T,hl,hz,hes,hks⟩)
  exact AE (by rw [es'];exact this)
 ·dsimp only;have hkn:k∉ks:=λ hx=>by
   obtain ⟨e,he1,he2⟩:=hks k hx;obtain ⟨j,hj⟩:=T.mem' he1;obtain ⟨m,hm1,hm2,hm3⟩:=T.fd j e hj;have hh:e.1=Bp knd k:=by obtain ⟨_,rfl,_⟩:=he2;rfl
   rw [hh] at hm2 hm3;by_cases h1:m < n
   ·exact hno' m h1 e (by rw [hm2];exact hj) he2
   ·by_cases h2:m=n
    ·subst h2;rw [hm2,hj] at he;cases he
    ·obtain ⟨e',h3⟩:=hm3 n (by omega);rw [he] at h3;cases h3
  unfold once at h;rw [if_neg hkn] at h;refine Ax (Kk ho hd hfit ?_);dsimp only;have hjm:(pos t.mask (Bp knd k) n).j < t.mask + 1:=by have:=(Ht t.mask (Bp knd k) n).1;omega
  obtain ⟨t',hput,L',hmask,hps⟩:=T.lays.put (e:=(Bp knd k,Value.ref b)) hjm he;rw [hput];dsimp only;have hin:∀ e,e∈(insertAt es (cnt occ (pos t.mask (Bp knd k) n).j) (Bp knd k,Value.ref b)).toList↔e=(Bp knd k,Value.ref b)\/e∈es.toList:=λ e=>by
   rw [(SetTable.insertAt_perm es _ _).mem_iff,Array.toList_push,jc2,ja6,or_comm]
  have dn:∀ (h':Heap) (es':Array El) (ep':Nat) (t'':DC) (occ':BW),HL a s.heap h'->h'.get? a=some { o with data:=.set es' ep' t'' }->Tab t'' es' occ'->es'.size=es.size + 1->es'.size * 5 < t''.mask * 3->(∀ e,e∈es'.toList↔e=(Bp knd k,Value.ref b)\/e∈es.toList)->TSet knd h' a (ks++[k]):=λ h' es' ep' t'' occ' sb g T' hs h5 hmem=>by
   refine ⟨_,es',ep',t'',occ',g,hex,rfl,T',h5,by rw [hs,hz,AV];rfl,λ e he1=>?_,λ k2 hk2=>?_⟩
   ·rcases (hmem e).mp he1 with rfl | he1
    ·exact ⟨k,b,BI _ (ja6.mpr rfl),rfl,Lp ho hd hk sb⟩
    ·obtain ⟨k2,b2,hm2,e2,hk2⟩:=hes e he1;exact ⟨k2,b2,BM _ hm2,e2,Lp ho hd hk2 sb⟩
   ·rcases jc2.mp hk2 with hk2 | hk2
    ·obtain ⟨e,he1,he2⟩:=hks k2 hk2;obtain ⟨b2,e2,hk3⟩:=he2;exact ⟨e,(hmem e).mpr (.inr he1),b2,e2,Lp ho hd hk3 sb⟩
    ·rw [ja6.mp hk2];exact ⟨_,(hmem _).mpr (.inl rfl),b,rfl,Lp ho hd hk sb⟩
  generalize insertAt es (cnt occ (pos t.mask (Bp knd k) n).j) (Bp knd k,Value.ref b)=es1 at L' hin ⊢;have fin:∀ t2:DC,t2.mask=t'.mask->t2.place=t'.place->t2.dummies=t'.dummies->An (Ap prog w) A (do
    storeSet a es1 t2
    if (!false && t2.tooFull)=true then (do let _<-setRelay a (grown (es.size + 1));pure true) else pure true) Q E s:=λ t2 m1 m2 m3=>by
   have T1:Tab t2 es1 (put occ (pos t.mask (Bp knd k) n).j (Bp knd k,Value.ref b)):=by
    have mm:t2.mask=t.mask:=by rw [m1,hmask]
    refine ⟨⟨rfl,by rw [m2,mm];exact L'.place,by rw [mm];exact L'.els,by rw [m3];exact L'.dum⟩,by rw [mm];exact T.sz,by rw [mm];exact T.fd.put hn1 hq he⟩
   have mm:t2.mask=t.mask:=by rw [m1,hmask]
   have hs1:es1.size=es.size + 1:=by rw [T1.size.2,mm,Ug hjm he,<- T.size.2]
   have hzl:es1.size<=Am:=Cg (show es1.size<=1000000 by omega) (by decide);refine Ax (wpAny_storeSet_of ho hd ?_ hzl);have ho1:=TZ (es':=es1) (t':=t2) ho hd;have sb1:=Heap.SameBut.update s.heap a (Kc es1 t2);have hf1:t2.fits es1.size=true:=T1.fits (by omega);split
   ·rename_i hful;have hful':(es.size + 1) * 5 ≥ t.mask * 3:=by
     have:t2.fill * 5 ≥ t2.mask * 3:=by
      have:t2.tooFull=true:=by simpa using hful
      unfold tooFull at this;simpa using this
     unfold SetTable.fill at this;rw [T1.size.1,T1.lays.dum,hs1,mm] at this;simpa using this
    obtain ⟨m',hw,hsz',hle,h5⟩:=qz T.sz hl hful' (by omega);obtain ⟨t3,order,occ3,hr,hm3,hsz3,L3,F3,hmem3⟩:=xD (t:=t2) (es:=es1) hw hsz' (by omega);have T3:Tab t3 (order.filterMap (es1[·]?)) occ3:=⟨L3,by rw [hm3];exact hsz',by rw [hm3];exact F3⟩
    unfold setRelay;refine Ax (Ax (Kk ho1 rfl hf1 ?_));dsimp only;rw [if_neg (by rw [hw];exact js2.mpr (Cg (show m' + 1<=1000000 by rcases hsz' with z | z | z | z <;> omega) (by decide))),hr];refine Ax (wpAny_of_eq (a:=(order.filterMap (es1[·]?),t3)) (if_neg (c:=((order.filterMap (es1[·]?)).size != es1.size)=true) (by rw [hsz3];simp)) ?_);refine wpAny_storeSet_of ho1 rfl ?_ (by rw [hsz3];exact hzl);have sb2:=sb1.trans (Heap.SameBut.update (s.heap.update a (Kc es1 t2)) a (Kc (order.filterMap (es1[·]?)) t3));refine AE (h _ true sb2 (dn _ _ _ t3 occ3 sb2 (TZ (o:={ o with data:=.set es1 (ep + 1) t2 }) (es:=es1) (ep:=ep + 1) (t:=t2) ho1 rfl) T3 (by rw [hsz3,hs1]) (by rw [hsz3,hs1,hm3];exact h5) λ e=>?_));rw [<- hin e,<- hmem3 e];exact ⟨λ he1=>T3.mem' he1,λ ⟨j,hj⟩=>T3.mem hj⟩
   ·rename_i hful;have hful':¬ (es.size + 1) * 5 ≥ t.mask * 3:=λ z=>hful (by
     have:t2.fill * 5 ≥ t2.mask * 3:=by
      unfold SetTable.fill;rw [T1.size.1,T1.lays.dum,hs1,mm];simpa using z
     have:t2.tooFull=true:=by unfold tooFull;simpa using this
     rw [this];rfl)
    exact AE (h _ true sb1 (dn _ es1 _ t2 _ sb1 ho1 T1 hs1 (by rw [hs1,mm];omega) hin))
  split
  ·refine Ax (xi hk λ bv=>?_);cases bv with
   | true=>exact fin t' rfl rfl rfl
   | false=>exact fin { t' with plain:=false } rfl rfl rfl
  ·refine Ax (AE ?_);exact fin t' rfl rfl rfl
end
def dist {α:Type} [DecidableEq α] (val:Nat->α):Nat->List α
 | 0=>[]
 | i + 1=>once (dist val i) (val i)
theorem dist_le {α:Type} [DecidableEq α] (val:Nat->α):∀ i,(dist val i).length<=i
 | 0=>A7 _
 | i + 1=>by
  have:=dist_le val i
  show (once _ _).length<=_;unfold once;split
  ·omega
  ·rw [AV];simp;omega
section
variable {prog:A0}{w:Ay}{K:Type} [DecidableEq K] {knd:KeyKind prog w K}{A:AU}{R:Result->Ai->Prop}{I:Addr}{fp wr:List Addr}{G:Array GenState->Array GenState->Prop}{n:Nat}{P:Nat->Ae->Prop}{St:Nat->Ai->Prop}
def TSet.moved {x y:Ai}{D:Addr}{ks:List (List K)} (mv:Moved wr G x y) (hD:D∉wr) (hw:∀ b∈wr,∀ k,¬ C4 knd x.heap k b) (h:TSet knd x.heap D ks):TSet knd y.heap D ks:=by
 have key:∀ {k:List K}{b:Addr},C4 knd x.heap k b->C4 knd y.heap k b:=λ {k b} hb=>by
  have hn:b∉wr:=λ z=>hw b z k hb;obtain ⟨ob,items,m,h1,h2⟩:=hb;exact ⟨ob,items,m,mv.heap _ _ hn h1,h2⟩
 obtain ⟨o,es,ep,t,occ,ho,hex,hd,T,hl,hz,hes,hks⟩:=h;refine ⟨o,es,ep,t,occ,mv.heap _ _ hD ho,hex,hd,T,hl,hz,λ e he=>?_,λ k hk=>?_⟩
 ·obtain ⟨k,b,hk,e1,hb⟩:=hes e he;exact ⟨k,b,hk,e1,key hb⟩
 ·obtain ⟨e,he,b,e1,hb⟩:=hks k hk;exact ⟨e,he,b,e1,key hb⟩
theorem xf (hu:A.in1.units < BU) (W:WalksS prog w A.in1 I fp wr G n P St) (D:Addr) (hD:D∉fp) (val:Nat->List K) (hn:n < 200) (hw:∀ i s,St i s->∀ b∈wr,∀ k,¬ C4 knd s.heap k b):
  ∀ (d i:Nat) (s:Ai),n - i=d->i<=n->St i s->(∀ j v,P j v->∃ b,v=.ref b/\b∉D::wr/\C4 knd s.heap (val j) b)->TSet knd s.heap D (dist val i) ->
   (∀ s',Moved (D::wr) G s s'->TSet knd s'.heap D (dist val n)->R (.ok (.ret .none)) s') ->
   FR (Ap prog w) A (.builtin "set.update.loop" ⟨[.ref D,.ref I],[]⟩) R s:=by
 have hDw:D∉wr:=λ z=>hD (W.sub _ z);have up:∀ c∈wr,c∈D::wr:=λ c z=>AQ _ z;have keyM:∀ {x y:Ai}{k:List K}{b:Addr},Moved (D::wr) G x y->b∉D::wr->C4 knd x.heap k b->C4 knd y.heap k b:=λ mv hb hk=>by
  obtain ⟨ob,items,m,ho,hc,hd,hi⟩:=hk;exact ⟨ob,items,m,mv.heap _ _ hb ho,hc,hd,hi⟩
 intro d;induction d with
 | zero=>
  intro i s hk hi hst hP hS hR;obtain rfl:i=n:=by omega
  refine LY F.entry_set_update_loop ?_;rw [Around.under_plainId O8 _];show An _ A.in1 (pyNext (.ref I) >>= _) _ _ s;refine Ax (W.done s _ _ hst λ z mv=>?_);show An _ A.in1 (ret Value.none) _ _ z;exact AE (hR z (mv.mono up) (hS.moved mv hDw (hw _ _ hst)))
 | succ d ih=>
  intro i s hk hi hst hP hS hR;have hlt:i < n:=by omega
  refine LY F.entry_set_update_loop ?_;rw [Around.under_plainId O8 _];show An _ A.in1 (pyNext (.ref I) >>= _) _ _ s;refine Ax (W.item i s _ _ hlt hst λ v z hPv hst' mv=>?_);obtain ⟨b,rfl,hb,hkey⟩:=hP i v hPv;have hS':=hS.moved mv hDw (hw _ _ hst);have mv':=mv.mono up;have hkey':=keyM mv' hb hkey;show An _ A.in1 (Hd [Value.ref b] (setAdd D (.ref b)) >>= _) _ _ z;refine Ax (Hh ?_);unfold setAdd;refine Hh ?_;refine Ax (wpAny_pyHash_tuple hu hkey' ?_);refine add_ok (s:={ z with toks:=z.toks + ((val i).length + 1) }) hu hS' hkey' (by have:=dist_le val i;omega) λ h' r sb hS2=>?_
  ·have mv2:Moved (D::wr) G s { z with heap:=h',toks:=z.toks + ((val i).length + 1) }:=mv'.then_heap (by omega) λ c oc hc e=>by
    rw [sb.2 c (λ q:c=D=>hc (by rw [q];exact Bf))];exact e
   refine AE ⟨plainId_quiet O8 _,ih (i + 1) _ (by omega) hlt (W.frame _ z _ _ hst' (Jt _ _) λ c hc oc e=>?_) (λ j v hj=>?_) hS2 λ z' mv3 hS3=>hR z' (Moved.trans W.gtrans mv2 mv3) hS3⟩
   ·rw [sb.2 c (λ q:c=D=>hD (by rw [<- q];exact hc))];exact e
   ·obtain ⟨b2,e2,hb2,hk2⟩:=hP j v hj;exact ⟨b2,e2,hb2,keyM mv2 hb2 hk2⟩
end
section
variable {prog:A0}{w:Ay}{K:Type} [DecidableEq K] {knd:KeyKind prog w K}{A:AU}{E:Ae->Ai->Prop}{s:Ai}
def qE {h:Heap}{D:Addr}{led:Bool} (e:h.get? D=some { cls:=.type "set",dict:=none,data:=.set #[] 0 (.fresh 0 0 led) }):TSet knd h D []:=by
 refine ⟨_,#[],0,.fresh 0 0 led,λ _=>none,e,⟨rfl,rfl,rfl⟩,rfl,⟨⟨rfl,?_,?_,rfl⟩,.inl rfl,λ _ _ z=>(nomatch z)⟩,by show 0 * 5 < 7 * 3;decide,rfl,λ _ z=>(nomatch z),λ _ z=>(nomatch z)⟩
 ·rw [NW λ _=>rfl];rfl
 ·rw [NW λ _=>rfl];rfl
theorem call_set {ax:Addr}{its:Array Ae}{val:Nat->List K}{Q:Ae->Ai->Prop} (hh:A.handled=none) (hu:A.units + 20 < BU) (hl:s.heap.IsList ax its) (hv:∀ i v,its[i]?=some v->∃ b,v=.ref b/\C4 knd s.heap (val i) b)
  (hn:its.size < 200)
  (fin:∀ (h':Heap) (tk:Nat),TSet knd h' s.heap.objs.size (dist val its.size)->(∀ c oc,c < s.heap.objs.size->s.heap.get? c=some oc->h'.get? c=some oc)->Q (.ref s.heap.objs.size) { s with heap:=h',toks:=tk }):
  An (Ap prog w) A (call (.type "set") [.ref ax]) Q E s:=by
 obtain ⟨c0,rest0,hmro⟩:=F.called_set.mro;have hmade:=F.called_set.made;have hsub:=F.called_set.sub;refine wpAny_call (codeAny_of_tree ?_);show An _ _ (callAny (.type "set") _) _ _ _;refine AE ⟨Code.quiet_builtin _ (by decide +kernel),LY F.entry_type_call ?_⟩;rw [Around.under_plain (weight_type_call_type "set" [.ref ax] []) rfl];have n1:=F.called_set.notType;have n2:=F.called_set.canCreate;have n3:=F.typeCall_set_1 (.ref ax)
 repeat (any_goals (first | assumption | wp_step))
 refine Ke (code_set_new_1 (.ref ax) (E:=E) (Q₁:=λ ob z=>∃ led:Bool,ob=.ref s.heap.objs.size/\z={ s with heap:=s.heap.push { cls:=.type "set",dict:=none,data:=.set #[] 0 (.fresh 0 0 led) } }) λ led=>⟨led,rfl,rfl⟩) λ r z hr=>?_;cases r with
 | error e=>exact hr
 | ok fl=>
  cases fl with
  | ret ob=>
   obtain ⟨led,rfl,rfl⟩:=hr;have g0:(s.heap.push { cls:=.type "set",dict:=none,data:=.set #[] 0 (.fresh 0 0 led) }).get? s.heap.objs.size=some { cls:=.type "set",dict:=none,data:=.set #[] 0 (.fresh 0 0 led) }:=Df _ rfl;have g1:Shared.TypeIs { s with heap:=s.heap.push { cls:=.type "set",dict:=none,data:=.set #[] 0 (.fresh 0 0 led) } } (.ref s.heap.objs.size) "set" := ⟨_,g0,rfl⟩
   have g2:=F.called_set.init.lookup;have g3:=F.called_set.init.bind (.ref s.heap.objs.size)
   repeat (any_goals (first | assumption | wp_step))
   refine Ke (O6 (R:=wants (λ r z2=>r=.none/\∃ h' tk,z2={ s with heap:=h',toks:=tk }/\TSet knd h' s.heap.objs.size (dist val its.size)/\∀ c oc,c < s.heap.objs.size->s.heap.get? c=some oc->h'.get? c=some oc) E) F.called_set.init.plain F.entry_set_init (check_set_init_1 g1 ?_)) λ r2 z2 hr2=>?_
   ·obtain ⟨ol,hol,hcl,nl,hdl⟩:=hl;obtain ⟨ocls,odict,odata,oslots⟩:=ol;simp only at hcl hdl;subst hcl;subst hdl;have hol1:(s.heap.push { cls:=.type "set",dict:=none,data:=.set #[] 0 (.fresh 0 0 led) }).get? ax=some { cls:=.type "list",dict:=odict,data:=.seq its nl,slots:=oslots }:=BZ _ hol;have b1:=F.sub_list_set;have b2:=F.sub_list_frozenset;have b3:(Value.type "list" == Value.type "dict")=false:=by decide
    have hl2:(s.heap.push { cls:=.type "set",dict:=none,data:=.set #[] 0 (.fresh 0 0 led) }).IsList ax its:=⟨_,hol1,rfl,nl,rfl⟩
    unfold Builtin.«set.__init__» noKeywords Builtin.Frozenset.updateFrom;generalize hPI:pyIter=PI
    wp_walk
    subst hPI;refine O0 hl2 ?_;refine Ax (wpAny_runValue ?_);have lS:ax < s.heap.objs.size:=AJ hol;have hh3:A.in1.in1.in1.handled=none:=by simp [hh]
    have neI:ax≠(s.heap.push { cls:=.type "set",dict:=none,data:=.set #[] 0 (.fresh 0 0 led) }).objs.size:=by
     rw [FV];exact Bz (Ip lS)
    have nD:s.heap.objs.size∉[(s.heap.push { cls:=.type "set",dict:=none,data:=.set #[] 0 (.fresh 0 0 led) }).objs.size,ax]:=by
     rw [FV];simp only [jb2,ja6,EA,or_false,not_or];exact ⟨Bz (Fv _),Ft lS⟩
    refine xf (knd:=knd) (by show A.units + 1 + 1 + 1 < BU;omega) ((Walks.list hh3 _ ax neI its).toS) s.heap.objs.size nD val hn (λ i z hz c hc k hk=>?_) (its.size - 0) 0 _ (by omega) (CV _)
     ⟨⟨_,Df _ rfl,rfl,rfl⟩,(hl2.push _)⟩ (λ j v hj=>?_) ?_ ?_
    ·obtain ⟨⟨oi,e1,e2,e3⟩,_⟩:=hz;rw [ja6.mp hc] at hk;obtain ⟨o2,items,m,f1,f2,f3,_⟩:=hk;rw [e1] at f1;cases f1;rw [e3] at f3;cases f3
    ·obtain ⟨b,rfl,ob,items,m,f1,f2⟩:=hv j v hj;have lb:=AJ f1;refine ⟨b,rfl,?_,ob,items,m,BZ _ (BZ _ f1),f2⟩;rw [FV];simp only [jb2,ja6,EA,or_false,not_or];exact ⟨Bz lb,Bz (Ip lb)⟩
    ·exact qE (BZ _ g0)
    ·intro z mv hS;obtain ⟨h',g',d',tk',os'⟩:=z;have eg:g'=s.gens:=mv.gens;have ed:d'=s.drawn:=mv.drawn;have eo:os'=s.os:=mv.os;subst eg;subst ed;subst eo;show An _ _ _ _ _ _;refine AE ?_;show An _ _ (ret Value.none) _ _ _;refine AE ⟨rfl,h',tk',rfl,hS,λ c oc hc e=>?_⟩;have c1:c≠s.heap.objs.size:=Bz hc;have c2:c≠(s.heap.push { cls:=.type "set",dict:=none,data:=.set #[] 0 (.fresh 0 0 led) }).objs.size:=by
      rw [FV];exact Bz (Ip hc)
     exact mv.heap c oc (by simp only [jb2,ja6,EA,or_false,not_or];exact ⟨c1,c2⟩) (BZ _ (BZ _ e))
   ·cases r2 with
    | error e=>exact hr2
    | ok fl2=>
     cases fl2 with
     | ret r=>
      obtain ⟨rfl,h',tk,rfl,hS',hk'⟩:=hr2
      repeat (any_goals (first | assumption | wp_step))
      exact fin _ _ hS' hk'
     | _=>exact hr2.elim
  | _=>exact hr.elim
end
end ST
namespace QQ
open PySem PySem.Spec PyProof.Rows L2
abbrev P2:=Int×Int
def k2 (z:P2):List Int:=[z.1,z.2]
def Cy (zs:List P2):Nat:=(ST.dist (λ i=>k2 (zs.getD i (0,0))) zs.length).length
def Ew (D:Addr) (n:Nat) (h:Heap):Prop:=∃ o es ep t,h.get? D=some o/\o.ExactSet/\o.data=.set es ep t/\t.fits es.size=true/\es.size=n/\n < 200
section
variable {X:Cx}
def qP (hc:X.calm=true) (hu:X.A.units + 20 < BU):zzo X (.type "set") (λ xs H Q=>∃ p ws zs,xs=[.ref p]/\AX X.K H p ws/\ws.length=zs.length/\(∀ (i:Nat) z,zs[i]?=some z->∃ b,ws[i]?=some (.ref b)/\H b=some (.tup [.int z.1,.int z.2]))/\zs.length < 200/\∀ D,H D=none->Q (.ref D) (As H D (.ext (Ew D (Cy zs))))):=by
 intro pins s σ H xs us Q I r h;obtain ⟨p,ws,zs,rfl,hq,hl,ht,hn,q⟩:=h;obtain ⟨u,rfl,rx⟩:=Fo r;cases rx;obtain ⟨its,r',pl,hz⟩:=I.list hq;have hlen:its.length=zs.length:=by rw [<- r'.length,hl]
 have hval:∀ i v,its.toArray[i]?=some v->∃ b,v=.ref b/\C4 (intKind X.prog X.w) s.heap (k2 (zs.getD i (0,0))) b:=λ i v hv=>by
  rw [List.getElem?_toArray] at hv;have hi:i < zs.length:=by rw [<- hlen];exact (ja3.mp hv).1
  have hzi:zs[i]?=some (zs.getD i (0,0)):=by rw [Ca,CD hi];rfl
  obtain ⟨b,hw,hb⟩:=ht i _ hzi;obtain ⟨u,hu1,hu2⟩:=r'.get hw;rw [hv] at hu1;cases hu1;cases hu2;obtain ⟨_,its2,r2,o,ho,hc2,n,hd⟩:=I.hok b _ hb;refine ⟨b,rfl,o,its2.toArray,n,ho,hc2,hd,?_⟩;cases r2 with
  | cons a1 r3=>
   cases r3 with
   | cons a2 r4=>
    cases r4;obtain ⟨t1,rfl⟩:=a1;obtain ⟨t2,rfl⟩:=a2;exact .cons (intKind_is _ _ _ _) (.cons (intKind_is _ _ _ _) .nil)
 have hsz:its.toArray.size=zs.length:=by rw [Ci,hlen]
 refine ST.call_set (knd:=intKind X.prog X.w) (val:=λ i=>k2 (zs.getD i (0,0))) (I.ok.hd hc) hu pl.isList hval (by omega) λ h' tk hS hk=>?_
 ·rw [hsz] at hS;have hD:H s.heap.objs.size=none:=I.hok.fresh (A7 _);refine ⟨.ref s.heap.objs.size,_,I.laid (o:=.ext (Ew s.heap.objs.size (Cy zs))) (λ b u e=>hk b u (AJ e) e) (A7 _) ?_,rfl,q _ hD⟩;obtain ⟨o,es,ep,t,occ,ho,hex,hd,T,hl5,hz5,_⟩:=hS;have h7:=(ST.sz_odd T.sz).2;have hle:=ST.dist_le (λ i=>k2 (zs.getD i (0,0))) zs.length;exact ⟨⟨o,es,ep,t,ho,hex,hd,T.fits (by omega),hz5,by show (ST.dist _ _).length < 200;omega⟩,⟨o,ho⟩,λ h1 h2 ⟨o,es,ep,t,e1,e2⟩ kk=>⟨o,es,ep,t,kk o e1,e2⟩⟩
def qL:zzo X (.builtin "len") (λ xs H Q=>∃ D n,xs=[.ref D]/\H D=some (.ext (Ew D n))/\Q (.int n) H):=by
 intro pins s σ H xs us Q I r h;obtain ⟨D,n,rfl,hD,q⟩:=h;obtain ⟨u,rfl,rx⟩:=Fo r;cases rx;obtain ⟨⟨o,es,ep,t,ho,hex,hd,hf,rfl,hn⟩,_⟩:=I.hok D _ hD;exact call_len_set ho hex hd hf (Int.lt_of_lt_of_le (show (es.size:Int) < 200 by omega) (by decide)) ⟨.int es.size,H,I.tok _,⟨_,rfl⟩,q⟩
def OS:PV->Option P2
 | .tup [.int x,.int y]=>some (x,y)
 | _=>none
def IS:List PV->Option (List P2)
 | []=>some []
 | x::xs=>match OS x,IS xs with
  | some z,some zs=>some (z::zs)
  | _,_=>none
def HF:PV->Nat->Option (PV×Nat)
 | .lst xs,_=>match IS xs with
  | some zs=>if zs.length < 200 then some (.int (Cy zs:Nat),om) else none
  | none=>none
 | _,_=>none
def zb {x:PV}{z:P2} (h:OS x=some z):x=.tup [.int z.1,.int z.2]:=by
 unfold OS at h;split at h
 ·cases h;rfl
 ·cases h
theorem Q6 {K:Frag}{H:Hp}{Z:Addr->Prop}:∀ {xs:List PV}{zs:List P2}{ws:List V},IS xs=some zs->OwnL K H Z xs 0 ws []->ws.length=zs.length/\∀ (i:Nat) z,zs[i]?=some z->∃ b,ws[i]?=some (.ref b)/\H b=some (.tup [.int z.1,.int z.2])
 | [],zs,ws,h,o=>by
  cases h;rw [OwnL] at o;rw [o.1];exact ⟨rfl,λ i z e=>by cases e⟩
 | x::xs,zs,ws,h,o=>by
  unfold IS at h;split at h
  ·rename_i z zs' h1 h2;cases h;rw [OwnL] at o;obtain ⟨v,r,f1,f2,rfl,ef,_,o1,o2⟩:=o;obtain ⟨rfl,rfl⟩:f1=[]/\f2=[]:=by simpa using ef.symm
   obtain ⟨i1,i2⟩:=Q6 h2 o2;refine ⟨by rw [Ba,Ba,i1],λ i y e=>?_⟩;cases i with
   | zero=>
    cases e;rw [zb h1,Own] at o1;obtain ⟨b,us,rfl,hb,ol⟩:=o1;rw [OwnL] at ol;obtain ⟨v1,r1,g1,g2,rfl,_,_,p1,ol⟩:=ol;rw [OwnL] at ol;obtain ⟨v2,r2,g3,g4,rfl,_,_,p2,ol⟩:=ol;rw [OwnL] at ol;rw [Own] at p1 p2;rw [p1.1,p2.1,ol.1] at hb;exact ⟨b,rfl,hb⟩
   | succ i=>exact i2 i y e
  ·cases h
theorem Xy {M:Fm}{f:Fx}{vs:List Nat}{a:Expr}{p p2 pos pos2:Pos} (hK:M.K=X.K) (hc:X.calm=true) (hu:X.A.units + 20 < BU) (hgL:Gl X "len") (hmL:X.mg "len" = none) (hgR:Gl X "set") (hmR:X.mg "set" = none) (hs:A6 [a] X.env=[(false,eval a X.env)]) (ha:PE X a (tE M f vs)):
  PE X (.Call (.Name "len" p) [.Call (.Name "set" p2) [a] [] pos2] [] pos) (tE M (Aq HF f) vs):=by
 have inner:=Nq (p:=p2) (pos:=pos2) (qP hc hu) hgR hmR (by kernel_rfl) (DL ha Fl hs) (he:=hs);refine Bn (Hs (pos:=pos) (p:=p) qL hgL hmL PySem.boot_len (DL inner Fl)) λ σ H Q h=>?_;refine HI (r:=λ v H1 Q=>∃ q ws zs,[v]=[.ref q]/\AX X.K H1 q ws/\ws.length=zs.length/\(∀ (i:Nat) z,zs[i]?=some z->∃ b,ws[i]?=some (.ref b)/\H1 b=some (.tup [.int z.1,.int z.2]))/\zs.length < 200/\∀ D,H1 D=none->∃ D' n,[V.ref D]=[.ref D']/\As H1 D (.ext (Ew D (Cy zs))) D'=some (.ext (Ew D' n))/\Q (.int n) (As H1 D (.ext (Ew D (Cy zs))))) (λ x d z c v H fps f1 Q ho o1 nz zd lf=>?_) h;cases x with
 | lst xs=>
  unfold HF at ho;dsimp only at ho;split at ho
  ·rename_i zs hz;split at ho
   ·rename_i hcnd;cases ho;obtain ⟨q,us,rfl,hs',ol⟩:=(cold o1 λ a ha=>nz a ha).coldL;obtain ⟨e1,e2⟩:=Q6 hz ol;refine ⟨q,us,zs,rfl,.inl (.inl hs'),e1,e2,hcnd,λ D hD=>⟨D,Cy zs,rfl,Ce,?_⟩⟩;exact lf (.int (Cy zs:Nat)) _ [] (DY hD) (by rw [Own];exact ⟨rfl,rfl⟩) λ a ha=>nomatch ha
   ·cases ho
  ·cases ho
 | _=>cases ho
end
abbrev D2:=Fx×List Nat
def Ea (d:Expr->Option D2):List Expr->Option (Fa×List Nat)
 | []=>some (Ac,[])
 | e::es=>match d e,Ea d es with
  | some (f,v),some (fa,u)=>some (Ad f fa,v++u)
  | _,_=>none
def MB (d:Expr->Option D2):List Expr->Option D2
 | []=>none
 | [e]=>d e
 | e::es=>match d e,MB d es with
  | some (f,v),some (g,u)=>some (D1 f g,v++u)
  | _,_=>none
def Mu (d:Expr->Option D2):List Expr->Option D2
 | []=>none
 | [e]=>d e
 | e::es=>match d e,Mu d es with
  | some (f,v),some (g,u)=>some (Bb f g,v++u)
  | _,_=>none
def KY:Const->Option D2
 | .int i=>some (bC (.int i),[])
 | .bool b=>some (bC (.bl b),[])
 | .none=>some (bC .non,[])
 | .str x=>some (bC (.str x),[])
 | _=>none
def HS (x:Str):Option String:=if x = "int" then some "int" else if x = "bool" then some "bool" else if x = "str" then some "str" else if x = "list" then some "list" else if x = "tuple" then some "tuple" else if x = "dict" then some "dict" else none
def ON (x:Str):Option (List (PV×Nat)->Option (PV×Nat)):=
 if x = "len" then some BF else if x = "all" then some HE else if x = "min" then some DQ else if x = "list" then some Fj else if x = "int" then some DW else none
def Ex (scope sc:Bc):Bc:={ scope with names:=scope.names.map λ (n,k)=>if (k == .free && sc.kind == .function && sc.names.lookup n == some .cell) then (n,.cell) else (n,k) }
def P0 (i:Nat):Str:=⟨#[2000000 + i]⟩
def GW (sc':Bc):Nat->List Str->List Str
 | _,[]=>[]
 | i,x::r=>(if Dc sc' x .cell || Dc sc' x .free then x else P0 i)::GW sc' (i + 1) r
def L6:List Expr->Option (List Str)
 | []=>some []
 | .Name x _::r=>(L6 r).map (x::·)
 | _=>none
def Mf (n:Nat):Expr->Option (List Str×(PV->Ah->Option Ah))
 | .Name x _=>some ([x],asgN n)
 | .Tuple es _ _=>(L6 es).map λ xs=>(xs,BN (Jo n xs.length))
 | _=>none
def KR:Expr->Bool
 | .Tuple _ _ _=>true
 | _=>false
def AR (S:Sx) (scope:Bc) (xs:List Str) (vI:List Nat):Sx:=⟨GW (Ex scope S.sc) 0 S.N++xs,Ex scope S.sc,S.ms,(Bh S.N.length).map S.alF++AK xs.length vI,S.Γ,S.Γm,false,S.xc,S.pn⟩
def Lw (S:Sx) (scope:Bc) (xs:List Str) (vI:List Nat):Bool:=
 let S':=AR S scope xs vI;decide (scope.kind=.function) && scope.names.all (λ x=>x.2 != .free || !(scope.names.contains (x.1,.cell))) && scope.names.all (λ x=>x.2 != .local || scope.names.lookup x.1 == some .local)
 && scope.names.all (λ x=>x.2 != .free || (S.sc.names.lookup x.1 == some .cell || S.sc.names.lookup x.1 == some .free))
 && (Bh S.N.length).all (λ i=>match S'.N[i]? with
  | some x=>!CQ S'.sc x || (decide (S.N[i]?=some x) && CQ S.sc x && scope.names.contains (x,.free) && !Dc S'.sc x .local)
  | none=>true)
 && decide S'.N.Nodup && xs.all (λ x=>Dc S'.sc x .local || (Dc S'.sc x .cell && scope.names.contains (x,.cell))) && decide (S.N.length≠0) && (S.ms.all λ i=>decide (i < S.N.length))
inductive Iw where
 | rng (en:List (PV×Nat)->Option (Int×Int)) (fa:Fa) (vs:List Nat)
 | seq (f:Fx) (vs:List Nat)
 | vw (v:Vw) (fa:Fa) (vs:List Nat)
def Iw.vs:Iw->List Nat
 | .rng _ _ _=>[]
 | .seq _ vs=>vs
 | .vw _ _ vs=>vs
def EL (tg:Expr):Iw->Bool
 | .vw .enm _ _=>KR tg
 | .vw .zp _ _=>KR tg
 | _=>true
def Et (d:Expr->Option D2) (S:Sx) (it:Expr):Option Iw:=match it with
 | .Call (.Name x _) [a] [] _=>if x = "range" /\ S.glob "range" = true then (match Ea d [a] with
   | some (fa,vs)=>some (.rng C6 fa vs)
   | none=>none) else if x = "reversed" /\ S.glob "reversed" = true then (match Ea d [a] with
   | some (fa,vs)=>some (.vw .rev fa vs)
   | none=>none) else if x = "enumerate" /\ S.glob "enumerate" = true then (match Ea d [a] with
   | some (fa,vs)=>some (.vw .enm fa vs)
   | none=>none) else (match d it with
   | some (f,vs)=>some (.seq f vs)
   | none=>none)
 | .Call (.Name x _) [a,b] [] _=>if x = "range" /\ S.glob "range" = true then (match Ea d [a,b] with
   | some (fa,vs)=>some (.rng Hc fa vs)
   | none=>none) else if x = "zip" /\ S.glob "zip" = true then (match Ea d [a,b] with
   | some (fa,vs)=>some (.vw .zp fa vs)
   | none=>none) else (match d it with
   | some (f,vs)=>some (.seq f vs)
   | none=>none)
 | _=>match d it with
   | some (f,vs)=>some (.seq f vs)
   | none=>none
def Kz (iw:Iw) (k:Nat) (asg:PV->Ah->Option Ah) (test:Fb) (elt:Fx):Fx:=match iw with
 | .rng en fa _=>JX en fa k asg test elt
 | .seq f _=>CO f k asg test elt
 | .vw v fa _=>OZ v fa k asg test elt
def D3:Fb:=λ ρ=>.ok (true,ρ)
def MC (d:Expr->Option D2):List Expr->Option Fb
 | []=>some D3
 | [c]=>(d c).map λ p=>bT p.1
 | _=>none
def Pe:Expr->Bool
 | .UnaryOp .USub c _=>(match c with
  | .Constant k _ _=>(match k with
   | .int i=>i == 1
   | _=>false)
  | _=>false)
 | _=>false
def xl {e:Expr} (h:Pe e=true):∃ k p3 p4,e=.UnaryOp .USub (.Constant (.int 1) k p3) p4:=by
 unfold Pe at h;split at h
 ·split at h
  ·split at h
   ·rename_i i
    have:i=1:=eq_of_beq h
    subst this;exact ⟨_,_,_,rfl⟩
   ·cases h
  ·cases h
 ·cases h
def ET:Expr->Option Str
 | .Name x _=>some x
 | _=>none
def Fi {e:Expr}{x:Str} (h:ET e=some x):∃ p,e=.Name x p:=by
 cases e <;> first | (cases h;exact ⟨_,rfl⟩) | (cases h)
def Nd:Expr->Option Int
 | .Constant c _ _=>(match c with
  | .int i=>some i
  | _=>none)
 | _=>none
def SV {e:Expr}{i:Int} (h:Nd e=some i):∃ k p,e=.Constant (.int i) k p:=by
 unfold Nd at h;split at h
 ·split at h
  ·cases h;exact ⟨_,_,rfl⟩
  ·cases h
 ·cases h
def SO (d:Sx->Expr->Option D2) (S:Sx) (a:Expr):Option Expr->Option Expr->Option Expr->Option D2
 | none,some hi,none=>match d S a,d S hi with
  | some (f,v),some (g,_)=>some (AH f none (some g),v)
  | _,_=>none
 | some lo,none,none=>match d S a,d S lo with
  | some (f,v),some (g,_)=>some (AH f (some g) none,v)
  | _,_=>none
 | some lo,some hi,none=>match d S a,d S lo,d S hi with
  | some (f,v),some (g,_),some (h,_)=>some (AH f (some g) (some h),v)
  | _,_,_=>none
 | none,none,some st=>if Pe st=true then (match d S a with
  | some (f,v)=>some (Aq Em f,v)
  | none=>none) else none
 | _,_,_=>none
def SQ (d:Sx->Expr->Option D2) (S:Sx) (a b:Expr):Option D2:=match b with
 | .Slice lo hi st _=>SO d S a lo hi st
 | b=>match ET a,Nd b with
  | some x,some i=>(match S.slot x with
   | some j=>if S.msF j=true then none else some (Ab Al (Aa j) (bC (.int i)),(j::S.alF j)++[])
   | none=>none)
  | _,_=>match d S a,d S b with
   | some (f,v),some (g,u)=>if L7 b=true then some (Ab Al f g,v++u) else none
   | _,_=>none
def Mt (S:Sx) (T:Str):Option Nat:=if S.glob T=true/\S.xc≠[] then (if T = "ValueError" then some 0 else match XN.findIdx? (·== T) with
 | some c=>if S.xc.contains c=true then some c else none
 | none=>none) else none
def M8 (S:Sx):List Expr->Option (List Nat)
 | []=>some []
 | e::r=>match ET e,M8 S r with
  | some T,some ds=>(Mt S T).map (·::ds)
  | _,_=>none
def SJ (d:Expr->Option D2) (S:Sx) (e c:Expr):Option D2:=match d e with
 | some (f,v)=>if S.glob "isinstance" = true then (match c with
  | .Name T _=>(match HS T with
   | some t=>if S.glob T=true then some (Aq (Eb t) f,v) else none
   | none=>(Mt S T).map λ n=>(Aq (De [n]) f,v))
  | .Tuple es _ _=>if es.length<=100/\es≠[] then (M8 S es).map λ ns=>(Aq (De ns) f,v) else none
  | _=>none) else none
 | none=>none
def Pn (x:Str):List Expr->Option Expr
 | [.Call (.Name y _) [a] [] _]=>if x = "len" /\ y = "set" then some a else none
 | _=>none
def YB {x:Str}{args:List Expr}{a:Expr} (h:Pn x args=some a):x = "len" /\ ∃ p pos,args=[.Call (.Name "set" p) [a] [] pos]:=by
 unfold Pn at h;split at h
 ·split at h
  ·rename_i hc;cases h;obtain ⟨rfl,rfl⟩:=hc;exact ⟨rfl,_,_,rfl⟩
  ·cases h
 ·cases h
def FD (d:Sx->Expr->Option D2) (S:Sx):Expr->Option D2
 | .Constant c _ _=>KY c
 | .Name x _=>match S.slot x with
  | some i=>if S.msF i=true then none else some (Aa i,i::S.alF i)
  | none=>none
 | .BinOp a op b _=>match d S a,d S b,RY b op with
  | some (f,v),some (g,u),some o=>some (Ab o f g,v++u)
  | _,_,_=>none
 | .UnaryOp .USub a _=>match d S a with
  | some (f,v)=>some (Aq BB f,v)
  | none=>none
 | .UnaryOp .Not a _=>match d S a with
  | some (f,v)=>some (Aq Cu f,v)
  | none=>none
 | .BoolOp .And es _=>MB (d S) es
 | .BoolOp .Or es _=>Mu (d S) es
 | .Compare a [op] [b] _=>match d S a,d S b,OO b op with
  | some (f,v),some (g,u),some o=>some (Ab o f g,v++u)
  | _,_,_=>none
 | .Compare a [op,op'] [b,c] _=>match d S a,d S b,d S c,EZ op,EZ op' with
  | some (f,_),some (g,_),some (h,_),some p,some q=>some (M6 p q f g h,[])
  | _,_,_,_,_=>none
 | .List es _=>match Ea (d S) es with
  | some (fa,v)=>some (Aj AA fa,v)
  | none=>none
 | .Tuple es _ _=>match Ea (d S) es with
  | some (fa,v)=>some (Aj BC fa,v)
  | none=>none
 | .Subscript a b _=>SQ d S a b
 | .Call (.Name x _) args [] _=>
  if x = "isinstance" then (match args with
   | [e,c]=>SJ (d S) S e c
   | _=>none)
  else match Pn x args with
  | some a=>(match d S a with
   | some (f,v)=>if S.glob "len" = true/\S.glob "set" = true then some (Aq HF f,v) else none
   | none=>none)
  | none=>match ON x with
  | some o=>(match args with
   | e::es=>(match Ea (d S) (e::es) with
    | some (fa,v)=>if S.glob x=true then some (Aj o fa,v) else none
    | none=>none)
   | []=>none)
  | none=>match S.Γ.lookup x with
   | some (false,_,F)=>(match args with
    | e::es=>(match Ea (d S) (e::es) with
     | some (fa,v)=>if S.glob x=true then some (Az F fa,v) else none
     | none=>none)
    | []=>none)
   | some (true,_,F)=>none
   | none=>none
 | .Call (.Attribute (.Name x _) at' apos) [e] [] cpos=>match S.slot x,d S e with
  | some i,some (f,_)=>if at' = "count" /\ S.msF i=false/\(apos.endLine == cpos.line)=true then some (Dx i f,[]) else none
  | _,_=>none
 | .ListComp elt [⟨tg,it,ifs,0⟩] scope _=>match Mf S.N.length tg,Et (d S) S it with
  | some (xs,asg),some iw=>if Lw S scope xs iw.vs=true/\EL tg iw=true then (match MC (d (AR S scope xs iw.vs)) ifs,d (AR S scope xs iw.vs) elt with
   | some t,some (g,vE)=>some (Kz iw xs.length asg t g,iw.vs++vE.filter (λ i=>decide (i < S.N.length)))
   | _,_=>none) else none
  | _,_=>none
 | _=>none
def Bi:Nat->Sx->Expr->Option D2
 | 0,_,_=>none
 | n + 1,S,e=>FD (Bi n) S e
section
variable {X:Cx}{P:A0}{w:Ay}{K:Frag}{mg:Str->Option Ae}{base:Heap}{lvl:Nat}{S:Sx}{Wx:St->Nat->Hp->Prop}{M:Fm}{f g:Fx}{vs vs':List Nat}{σ:St}{H:Hp}{Q:VK}
def Zs {Q:Bool->Hp->Prop} (hq:tT M (bT (D1 f g)) σ H Q):HZ (tT M (bT f)) (tT M (bT g)) σ H Q:=by
 refine Yu ?_;have e:bT (D1 f g)=GA (bT f) (bT g):=by
  funext ρ;unfold bT D1 GA;dsimp only;cases f ρ with
  | no=>rfl
  | exc c=>rfl
  | ok p=>
   obtain ⟨x,d,ρ1⟩:=p;cases x with
   | bl b=>cases b <;> rfl
   | _=>rfl
 rw [<- e];exact hq
def Yw {Q:Bool->Hp->Prop} (hq:tT M (bT (Bb f g)) σ H Q):OF (tT M (bT f)) (tT M (bT g)) σ H Q:=by
 refine Wm ?_;have e:bT (Bb f g)=Ng (bT f) (bT g):=by
  funext ρ;unfold bT Bb Ng;dsimp only;cases f ρ with
  | no=>rfl
  | exc c=>rfl
  | ok p=>
   obtain ⟨x,d,ρ1⟩:=p;cases x with
   | bl b=>cases b <;> rfl
   | _=>rfl
 rw [<- e];exact hq
def Z6 {Q:Bool->Hp->Prop} (hq:tT M (bT (Aq Cu f)) σ H Q):HX (tT M (bT f)) σ H Q:=by
 refine Yv ?_;have e:bT (Aq Cu f)=Gy (bT f):=by
  funext ρ;unfold bT Aq Gy;dsimp only;cases f ρ with
  | no=>rfl
  | exc c=>rfl
  | ok p=>
   obtain ⟨x,d,ρ1⟩:=p;cases x with
   | bl b=>cases b <;> rfl
   | _=>rfl
 rw [<- e];exact hq
def Good (P:A0) (w:Ay) (K:Frag) (mg:Str->Option Ae) (base:Heap) (lvl:Nat) (S:Sx) (e:Expr) (f:Fx) (vs:List Nat):Prop:=
 (∀ i∈vs,S.msF i=false)/\Hw e=true/\∀ {Wx} X M,XS X P w K mg base lvl S Wx->MS M K S Wx->PE X e (tE M f vs)/\PT X e (tT M (bT f))
def MS.v (m:MS M K S Wx) (h:∀ i∈vs,S.msF i=false):∀ i∈vs,M.Ms i=false:=λ i hi=>by rw [m.ms];exact h i hi
def MS.k (m:MS M K S Wx) (xs:XS X P w K mg base lvl S Wx):M.K=X.K:=m.K.trans xs.K.symm
def Cp {e:Expr} (h1:∀ i∈vs,S.msF i=false) (h2:Hw e=true) (h3:∀ env whole,isTrue e env whole=(do let v<-whole;standAt e.pos;Hd [v] (truthy v)))
  (h:∀ {Wx} X M,XS X P w K mg base lvl S Wx->MS M K S Wx->PE X e (tE M f vs)):Good P w K mg base lvl S e f vs:=
 ⟨h1,h2,λ X M xs m=>⟨h X M xs m,JN (Xj (h X M xs m) λ wh=>h3 _ wh) λ σ H Q q=>Pr q⟩⟩
def FE {vs vs':List Nat} (h1:∀ i∈vs,S.msF i=false) (h2:∀ i∈vs',S.msF i=false):∀ i∈vs++vs',S.msF i=false:=λ i hi=>(jc2.mp hi).elim (h1 i) (h2 i)
def ZX {a b:Expr}{op:Ed}{o:PV->Nat->PV->Nat->Option (PV×Nat)}{pos:Pos} (ho:OO b op=some o) (ga:Good P w K mg base lvl S a f vs) (gb:Good P w K mg base lvl S b g vs'):Good P w K mg base lvl S (.Compare a [op] [b] pos) (Ab o f g) (vs++vs'):=by
 refine ⟨FE ga.1 gb.1,rfl,λ X M xs m=>?_⟩;obtain ⟨r,hr,hn,hi⟩:=ZO (X:=X) (M:=M) (f:=f) (g:=g) (vs:=vs) (vs':=vs') ho xs.room.units (m.v ga.1) (m.k xs);have ha:=(ga.2.2 X M xs m).1;have hb:=(gb.2.2 X M xs m).1;exact ⟨Bn (YJ hr ha hb hn) hi,JN (Z0 hr ha hb hn) λ σ H Q q=>hi σ H _ (Pr q)⟩
def xR {a b c:Expr}{op op':Ed}{p q:Int->Int->Bool}{h:Fx}{v3:List Nat}{pos:Pos} (h1:EZ op=some p) (h2:EZ op'=some q) (ga:Good P w K mg base lvl S a f vs) (gb:Good P w K mg base lvl S b g vs') (gc:Good P w K mg base lvl S c h v3):Good P w K mg base lvl S (.Compare a [op,op'] [b,c] pos) (M6 p q f g h) []:=by
 refine ⟨λ _ z=>(nomatch z),rfl,λ X M xs m=>?_⟩;have r1:=Q1 (X:=X) h1;have r2:=Q1 (X:=X) h2;have ha:=(ga.2.2 X M xs m).1;have hb:=(gb.2.2 X M xs m).1;have hc:=(gc.2.2 X M xs m).1;exact ⟨Bn (qh r1.1 r2.1 ha hb hc (GQ _ r2.2.1 r2.2.2)) λ σ H Q q=>Rr q,JN (qp r1.1 r2.1 ha hb hc (GQ _ r2.2.1 r2.2.2)) λ σ H Q q=>Rr (vs:=[]) (Pr q)⟩
def ZY {a:Expr}{pos:Pos} (ga:Good P w K mg base lvl S a f vs):Good P w K mg base lvl S (.UnaryOp .Not a pos) (Aq Cu f) vs:=
 ⟨ga.1,rfl,λ X M xs m=>⟨Bn (Xc (ga.2.2 X M xs m).1) λ σ H Q q=>Zk q,JN (Xi (ga.2.2 X M xs m).2) λ σ H Q q=>Z6 q⟩⟩
theorem R9 {d:Expr->Option D2} (hd:∀ e f vs,d e=some (f,vs)->Good P w K mg base lvl S e f vs) {pos:Pos}:∀ (es:List Expr) (f:Fx) (vs:List Nat),MB d es=some (f,vs)->(∀ i∈vs,S.msF i=false)/\∀ {Wx} X M,XS X P w K mg base lvl S Wx->MS M K S Wx->PE X (.BoolOp .And es pos) (tE M f vs)/\PW X (.BoolOp .And es pos) (tT M (bT f))
 | [],f,vs,h=>by cases h
 | [e],f,vs,h=>by
  have g:=hd e f vs h;exact ⟨g.1,λ X M xs m=>⟨Td (g.2.2 X M xs m).1,Z3 (g.2.2 X M xs m).2⟩⟩
 | e::e'::es,f,vs,h=>by
  unfold MB at h;split at h
  ·rename_i f1 v1 f2 v2 h1 h2;cases h;have g1:=hd e f1 v1 h1;have g2:=R9 hd (pos:=pos) (e'::es) f2 v2 h2;exact ⟨FE g1.1 g2.1,λ X M xs m=>⟨Bn (Xa (g1.2.2 X M xs m).1 (g2.2 X M xs m).1) λ σ H Q q=>Zi q,Tq (Xl (g1.2.2 X M xs m).2 (g2.2 X M xs m).2) λ σ H Q q=>Zs q⟩⟩
  ·cases h
theorem U0 {d:Expr->Option D2} (hd:∀ e f vs,d e=some (f,vs)->Good P w K mg base lvl S e f vs) {pos:Pos}:∀ (es:List Expr) (f:Fx) (vs:List Nat),Mu d es=some (f,vs)->(∀ i∈vs,S.msF i=false)/\∀ {Wx} X M,XS X P w K mg base lvl S Wx->MS M K S Wx->PE X (.BoolOp .Or es pos) (tE M f vs)/\PW X (.BoolOp .Or es pos) (tT M (bT f))
 | [],f,vs,h=>by cases h
 | [e],f,vs,h=>by
  have g:=hd e f vs h;exact ⟨g.1,λ X M xs m=>⟨Td (g.2.2 X M xs m).1,Xm (g.2.2 X M xs m).2⟩⟩
 | e::e'::es,f,vs,h=>by
  unfold Mu at h;split at h
  ·rename_i f1 v1 f2 v2 h1 h2;cases h;have g1:=hd e f1 v1 h1;have g2:=U0 hd (pos:=pos) (e'::es) f2 v2 h2;exact ⟨FE g1.1 g2.1,λ X M xs m=>⟨Bn (VY (g1.2.2 X M xs m).1 (g2.2 X M xs m).1) λ σ H Q q=>X9 q,Tq (Wa (g1.2.2 X M xs m).2 (g2.2 X M xs m).2) λ σ H Q q=>Yw q⟩⟩
  ·cases h
theorem EF {d:Expr->Option D2} (hd:∀ e f vs,d e=some (f,vs)->Good P w K mg base lvl S e f vs):∀ (es:List Expr) (fa:Fa) (vs:List Nat),Ea d es=some (fa,vs)->(∀ i∈vs,S.msF i=false)/\es.all Hw=true/\∀ {Wx} X M,XS X P w K mg base lvl S Wx->MS M K S Wx->PA X es (tL M fa vs)
 | [],fa,vs,h=>by cases h;exact ⟨λ _ z=>(nomatch z),rfl,λ X M _ _=>XQ⟩
 | e::es,fa,vs,h=>by
  unfold Ea at h;split at h
  ·rename_i f1 v1 f2 v2 h1 h2;cases h;have g1:=hd e f1 v1 h1;have g2:=EF hd es f2 v2 h2;exact ⟨FE g1.1 g2.1,by rw [Gf,g1.2.1,g2.2.1];rfl,λ X M xs m=>YU (m.v g1.1) (g1.2.2 X M xs m).1 (g2.2.2 X M xs m) (CH (CI g1.2.1))⟩
  ·cases h
def NF (scope:Bc) (env:Env):He scope env=Ex scope env.scope:=rfl
theorem Ny {x:Str}{k:CS}{sc:Bc}:∀ (l:List (Str×CS)),(k=.cell\/k=.free)->(l.map λ (n,k)=>if (k == NameKind.free && sc.kind == .function && sc.names.lookup n == some .cell) then (n,NameKind.cell) else (n,k)).lookup x=some k->(x,NameKind.free)∈l\/(x,NameKind.cell)∈l
 | [],_,h=>by simp at h
 | (n,j)::r,hk,h=>by
  rw [BQ] at h;have ih:=Ny (x:=x) (k:=k) (sc:=sc) r hk;dsimp only at h;by_cases hj:(j == NameKind.free && sc.kind == .function && sc.names.lookup n == some .cell)=true
  ·rw [if_pos hj,Eo] at h;split at h
   ·rename_i hx;rw [Be,Be] at hj;have e1:x=n:=eq_of_beq hx;have e2:j=.free:=eq_of_beq hj.1.1;rw [e1,e2];exact .inl Bf
   ·exact (ih h).imp (AQ _) (AQ _)
  ·rw [if_neg hj,Eo] at h;split at h
   ·rename_i hx;have e1:x=n:=eq_of_beq hx;have e2:j=k:=Option.some.inj h;rcases hk with z | z
    ·rw [e1,e2,z];exact .inr Bf
    ·rw [e1,e2,z];exact .inl Bf
   ·exact (ih h).imp (AQ _) (AQ _)
theorem IJ (sc':Bc):∀ (N:List Str) (i:Nat),(GW sc' i N).length=N.length
 | [],_=>rfl
 | x::r,i=>by rw [GW,Ba,IJ sc' r (i + 1),Ba]
structure ChkOk (S:Sx) (scope:Bc) (xs:List Str) (vI:List Nat):Prop where
 kind:scope.kind=.function
 dis:∀ x,(x,NameKind.free)∈scope.names->(x,NameKind.cell)∉scope.names
 names:∀ x∈scope.names,x.2=.local->scope.names.lookup x.1=some .local
 free:∀ x∈scope.names,x.2=.free->S.sc.names.lookup x.1=some .cell\/S.sc.names.lookup x.1=some .free
 capt:∀ (i:Nat) (x:Str),i < S.N.length->(AR S scope xs vI).N[i]?=some x->GC (Ex scope S.sc) x->S.N[i]?=some x/\GC S.sc x/\(x,NameKind.free)∈scope.names/\(Ex scope S.sc).names.lookup x≠some .local
 nd:(AR S scope xs vI).N.Nodup
 loc:∀ x∈xs,(Ex scope S.sc).names.lookup x=some .local\/((Ex scope S.sc).names.lookup x=some .cell/\(x,NameKind.cell)∈scope.names)
 pos:S.N.length≠0
 ms:∀ i∈S.ms,i < S.N.length
def ZC {sc:Bc}{x:Str} (h:GC sc x):CQ sc x=true:=by
 unfold CQ Dc;rcases h with h | h | h <;> rw [h] <;> simp
def SE {scope:Bc}{xs:List Str}{vI:List Nat} (h:Lw S scope xs vI=true):ChkOk S scope xs vI:=by
 unfold Lw at h;simp only [Be,decide_eq_true_eq,jd6,bne_iff_ne,ne_eq,EV] at h;obtain ⟨⟨⟨⟨⟨⟨⟨⟨h1,h2⟩,h3⟩,h4⟩,h5⟩,h6⟩,h7⟩,h8⟩,h9⟩:=h;refine ⟨h1,λ x hx hz=>(h2 (x,.free) hx).elim (λ z=>z rfl) λ z=>?_,λ x hx he=>(h3 x hx).elim (λ z=>absurd he z) λ z=>eq_of_beq z,λ x hx he=>(h4 x hx).elim (λ z=>absurd he z) λ z=>z.elim (λ z=>.inl (eq_of_beq z)) λ z=>.inr (eq_of_beq z),λ i x hi e hv=>?_,h6,λ x hx=>(h7 x hx).imp FF λ z=>⟨FF z.1,by simpa using z.2⟩,h8,h9⟩
 ·have z':(!(scope.names.contains (x,NameKind.cell)))=true:=z
  have:scope.names.contains (x,NameKind.cell)=true:=by simpa using hz
  rw [this] at z';cases z'
 have q:=h5 i (jd5.mpr hi);rw [e] at q;dsimp only at q;rw [EV] at q;rcases q with q | q
 ·have:CQ (Ex scope S.sc) x=true:=ZC hv
  have q':(!CQ (Ex scope S.sc) x)=true:=q;rw [this] at q';cases q'
 ·simp only [Be,decide_eq_true_eq,MX] at q;obtain ⟨⟨⟨q1,q2⟩,q3⟩,q4⟩:=q;refine ⟨q1,Tj q2,by simpa using q3,λ z=>?_⟩
  have:Dc (Ex scope S.sc) x .local=true:=by unfold Dc;rw [z];simp
  have q4':Dc (Ex scope S.sc) x .local=false:=q4;rw [this] at q4';cases q4'
def ChkOk.comp {scope:Bc}{ys:List Str}{vI:List Nat} (c:ChkOk S scope ys vI) (xs:XS X P w K mg base lvl S Wx):CompOk X scope (AR S scope ys vI).N ys.length where
 kind:=c.kind
 dis:=c.dis
 names:=c.names
 len:=by
  show (GW _ 0 S.N++ys).length=_;rw [AV,IJ,xs.N]
 free:=λ x hx he=>by
  show X.env.scope.names.lookup x.1=_\/X.env.scope.names.lookup x.1=_;rw [xs.sc];exact c.free x hx he
 kinds:=λ x h=>by
  rcases h with h | h
  ·exact Ny (sc:=X.env.scope) scope.names (.inl rfl) h
  ·exact Ny (sc:=X.env.scope) scope.names (.inr rfl) h
 capt:=λ i x hi e hv=>by
  rw [NF,xs.sc] at hv ⊢;rw [xs.N] at hi ⊢;exact c.capt i x hi e hv
def ChkOk.xs {scope:Bc}{ys:List Str}{vI:List Nat} (c:ChkOk S scope ys vI) (xs:XS X P w K mg base lvl S Wx) (s2:Ai) (H2:Hp) (C:Addr) (fp:List Addr) (pins:List (Addr×Obj)):XS (Bj X s2 H2 scope C (AR S scope ys vI).N fp pins) P w K mg base lvl (AR S scope ys vI) W0:=
 ⟨xs.prog,xs.w,xs.K,xs.mg,xs.base,rfl,by show He scope X.env=_;rw [NF,xs.sc];rfl,xs.calm,xs.room,PassesOwn.never,WZ,λ h=>nomatch h⟩
def Nz {scope:Bc}{ys:List Str}{vI:List Nat} (i:Nat):(AR S scope ys vI).alF i=if i < S.N.length then S.alF i else if i < S.N.length + ys.length then vI else []:=by
 unfold Sx.alF AR;dsimp only;rw [Ca];by_cases h:i < S.N.length
 ·rw [CF (by simpa using h),if_pos h];simp [h,Sx.alF,Ca]
 ·rw [Ep (by simpa using h),if_neg h,Iy];simp only [A5,EW];by_cases h2:i < S.N.length + ys.length
  ·rw [if_pos h2,if_pos (by omega)];rfl
  ·rw [if_neg h2,if_neg (by omega)];rfl
def ChkOk.ms' {scope:Bc}{ys:List Str}{vI:List Nat} (c:ChkOk S scope ys vI) (m:MS M K S Wx) (hv:∀ i∈vI,S.msF i=false) (D:Addr):MS (M.comp D S.N.length vI) K (AR S scope ys vI) W0 where
 W:=rfl
 K:=m.K
 ms:=m.ms
 al:=λ i hi=>by
  rw [Nz];show (if i < S.N.length then M.al i else vI)=_;have hl:(AR S scope ys vI).N.length=S.N.length + ys.length:=by
   show (GW _ 0 S.N++ys).length=_;rw [AV,IJ]
  rw [hl] at hi;by_cases h:i < S.N.length
  ·rw [if_pos h,if_pos h];exact m.al i h
  ·rw [if_neg h,if_neg h,if_pos hi]
 pn:=λ p hp=>by
  have h:=m.pn p hp;show p.1 < (GW _ 0 S.N++ys).length;rw [AV,IJ];omega
 als:=λ i j hj=>by
  have hj':j∈(if i < S.N.length then M.al i else vI):=hj;show M.Ms j=false;by_cases h:i < S.N.length
  ·rw [if_pos h] at hj';exact m.als i j hj'
  ·rw [if_neg h] at hj';rw [m.ms];exact hv j hj'
theorem Lz {n:Nat}{iter:Expr}{env:Env}{f:Fx}{vs:List Nat} (h:(∀ a b c,iter≠.Set a b c)):∀ x,Ma iter env x=pure x:=by
 intro x;cases iter with
 | Set a b c=>exact absurd rfl (h a b c)
 | _=>rfl
end
section
variable {X:Cx}{P:A0}{w:Ay}{K:Frag}{mg:Str->Option Ae}{base:Heap}{lvl:Nat}{S:Sx}{Wx:St->Nat->Hp->Prop}{M:Fm}{f g:Fx}{vs vs':List Nat}{σ:St}{H:Hp}{Q:VK}
def Z9 {T:Str}{t:String} (h:HS T=some t):t∈Gq/\T∈zzy/\HM T=some (.type t)/\(T == ("__debug__" : Str))=false/\T ≠ "__name__" := by
 unfold HS at h;split at h
 ·rename_i e;cases h;rw [e];exact ⟨by decide,by decide +kernel,rfl,by decide +kernel,by decide +kernel⟩
 ·split at h
  ·rename_i e;cases h;rw [e];exact ⟨by decide,by decide +kernel,rfl,by decide +kernel,by decide +kernel⟩
  ·split at h
   ·rename_i e;cases h;rw [e];exact ⟨by decide,by decide +kernel,rfl,by decide +kernel,by decide +kernel⟩
   ·split at h
    ·rename_i e;cases h;rw [e];exact ⟨by decide,by decide +kernel,rfl,by decide +kernel,by decide +kernel⟩
    ·split at h
     ·rename_i e;cases h;rw [e];exact ⟨by decide,by decide +kernel,rfl,by decide +kernel,by decide +kernel⟩
     ·split at h
      ·rename_i e;cases h;rw [e];exact ⟨by decide,by decide +kernel,rfl,by decide +kernel,by decide +kernel⟩
      ·cases h
def Xw {x:Str}{o:List (PV×Nat)->Option (PV×Nat)}{e:Expr}{es:List Expr}{fa:Fa}{p pos:Pos} (h:ON x=some o) (xs:XS X P w K mg base lvl S Wx) (m:MS M K S Wx) (hb:∀ x∈zzy,mg x=none) (hg:S.glob x=true) (hs:(e::es).all Hw=true) (ha:PA X (e::es) (tL M fa vs)):
  PE X (.Call (.Name x p) (e::es) [] pos) (tE M (Aj o fa) vs):=by
 rw [Gf,Be] at hs;have h1:A6 (e::es) X.env=(false,eval e X.env)::A6 es X.env:=CH (CI hs.1);have h2:(Dp pos (A6 es X.env)).any (·.1)=false:=Oh hs.2;have hm:∀ x∈zzy,X.mg x=none:=λ x hx=>by rw [xs.mg];exact hb x hx
 unfold ON at h;split at h
 ·rename_i ex;cases h;subst ex;exact X0 (m.k xs) (xs.gl hg) (hm _ (by decide +kernel)) ha h1 h2
 ·split at h
  ·rename_i ex;cases h;subst ex;exact Xv xs.calm (xs.gl hg) (hm _ (by decide +kernel)) ha h1 h2
  ·split at h
   ·rename_i ex;cases h;subst ex;exact Zc xs.calm (xs.gl hg) (hm _ (by decide +kernel)) ha h1 h2
   ·split at h
    ·rename_i ex;cases h;subst ex;exact YZ (m.k xs) (xs.gl hg) (hm _ (by decide +kernel)) ha h1 h2
    ·split at h
     ·rename_i ex;cases h;subst ex;exact YX (xs.gl hg) (hm _ (by decide +kernel)) ha h1 h2
     ·cases h
def GH (P:A0) (w:Ay) (K:Frag) (mg:Str->Option Ae) (base:Heap) (lvl:Nat) (S:Sx) (it:Expr) (iw:Iw):Prop:=
 (∀ i∈iw.vs,S.msF i=false)/\(∀ a b c,it≠.Set a b c)/\∀ {Wx} X M,XS X P w K mg base lvl S Wx->MS M K S Wx->∀ tg,(match iw with
  | .rng en fa vs=>(en=C6/\PI X tg it (My (tL M fa vs)))\/(en=Hc/\PI X tg it (Mz (tL M fa vs)))
  | .seq f vs=>PI X tg it (Fc M.K (tE M f vs))
  | .vw v fa vs=>EL tg (.vw v fa vs)=true->PI X tg it (Qd v M.K (tL M fa vs)))
def qy {it:Expr} (g:Good P w K mg base lvl S it f vs) (hs:∀ a b c,it≠.Set a b c):GH P w K mg base lvl S it (.seq f vs):=
 ⟨g.1,hs,λ X M xs m tg=>by
  show PI X tg it (Fc M.K (tE M f vs));rw [m.k xs];exact Xe (g.2.2 X M xs m).1⟩
def Lx {d:Expr->Option D2} (hd:∀ e f vs,d e=some (f,vs)->Good P w K mg base lvl S e f vs) (hset:∀ a b c,d (.Set a b c)=none) (hb:∀ x∈zzy,mg x=none) {it:Expr}{iw:Iw} (h:Et d S it=some iw):GH P w K mg base lvl S it iw:=by
 have seq:∀ {it:Expr}{iw:Iw},(match d it with
   | some (f,vs)=>some (Iw.seq f vs)
   | none=>none)=some iw->GH P w K mg base lvl S it iw:=λ {it iw} h=>by
  cases e:d it with
  | none=>rw [e] at h;cases h
  | some p=>
   obtain ⟨f,vs⟩:=p;rw [e] at h;cases h;exact qy (hd _ _ _ e) λ a b c z=>by rw [z,hset] at e;cases e
 unfold Et at h;split at h
 ·rename_i x p a pos;split at h
  ·rename_i hc;obtain ⟨rfl,hg⟩:=hc;split at h
   ·rename_i fa vs e;cases h;have g:=EF hd _ _ _ e;refine ⟨λ _ z=>(nomatch z),λ _ _ _ z=>(nomatch z),λ X M xs m tg=>.inl ⟨rfl,?_⟩⟩;have hs:=g.2.1;simp only [Gf,K9,Jr] at hs;exact x8 (xs.gl hg) (by rw [xs.mg];exact hb _ (by decide +kernel)) (g.2.2 X M xs m) (CH (CI hs))
   ·cases h
  ·split at h
   ·rename_i hc;obtain ⟨rfl,hg⟩:=hc;split at h
    ·rename_i fa vs e;cases h;have g:=EF hd _ _ _ e;refine ⟨g.1,λ _ _ _ z=>(nomatch z),λ X M xs m tg _=>?_⟩;have hs:=g.2.1;simp only [Gf,K9,Jr] at hs;rw [m.k xs];exact Xd (xs.gl hg) (by rw [xs.mg];exact hb _ (by decide +kernel)) (g.2.2 X M xs m) (CH (CI hs))
    ·cases h
   ·split at h
    ·rename_i hc;obtain ⟨rfl,hg⟩:=hc;split at h
     ·rename_i fa vs e;cases h;have g:=EF hd _ _ _ e;refine ⟨g.1,λ _ _ _ z=>(nomatch z),λ X M xs m tg ht=>?_⟩;have hs:=g.2.1;simp only [Gf,K9,Jr] at hs;rw [m.k xs];cases tg with
      | Tuple es k tp=>exact Zx (xs.gl hg) (by rw [xs.mg];exact hb _ (by decide +kernel)) (g.2.2 X M xs m) (CH (CI hs))
      | _=>cases ht
     ·cases h
    ·exact seq h
 ·rename_i x p a b pos;split at h
  ·rename_i hc;obtain ⟨rfl,hg⟩:=hc;split at h
   ·rename_i fa vs e;cases h;have g:=EF hd _ _ _ e;refine ⟨λ _ z=>(nomatch z),λ _ _ _ z=>(nomatch z),λ X M xs m tg=>.inr ⟨rfl,?_⟩⟩;have hs:=g.2.1;simp only [Gf,K9,Jr,Be] at hs;have s2:A6 [b] X.env=[(false,eval b X.env)]:=CH (CI hs.2);exact x9 (xs.gl hg) (by rw [xs.mg];exact hb _ (by decide +kernel)) (g.2.2 X M xs m) (by rw [CH (CI hs.1),s2]) s2
   ·cases h
  ·split at h
   ·rename_i hc;obtain ⟨rfl,hg⟩:=hc;split at h
    ·rename_i fa vs e;cases h;have g:=EF hd _ _ _ e;refine ⟨g.1,λ _ _ _ z=>(nomatch z),λ X M xs m tg ht=>?_⟩;have hs:=g.2.1;simp only [Gf,K9,Jr,Be] at hs;have s2:A6 [b] X.env=[(false,eval b X.env)]:=CH (CI hs.2);rw [m.k xs];cases tg with
     | Tuple es k tp=>exact Xf (xs.gl hg) (by rw [xs.mg];exact hb _ (by decide +kernel)) (g.2.2 X M xs m) (by rw [CH (CI hs.1),s2]) s2
     | _=>cases ht
    ·cases h
   ·exact seq h
 ·exact seq h
def qZ {σ:St}{H:Hp}{Q:Bool->Hp->Prop} (h:∃ M',MS M' K S Wx/\tT M' D3 σ H Q):Q true H:=by
 obtain ⟨M',_,ρ,fps,rep,q⟩:=h;exact q H fps KD.refl Agr.refl rep
structure CompParts (P:A0) (w:Ay) (K:Frag) (mg:Str->Option Ae) (base:Heap) (lvl:Nat) (S:Sx) (scope:Bc) (tg:Expr) (ys:List Str) (asg:PV->Ah->Option Ah) (it elt:Expr) (ifs:List Expr) (iw:Iw) (t:Fb) (g:Fx) (vE:List Nat):Prop where
 tga:Mf S.N.length tg=some (ys,asg)
 two:EL tg iw=true
 chk:ChkOk S scope ys iw.vs
 iwo:GH P w K mg base lvl S it iw
 elt:Good P w K mg base lvl (AR S scope ys iw.vs) elt g vE
 ifs:∀ {Wx} X M,XS X P w K mg base lvl (AR S scope ys iw.vs) Wx->MS M K (AR S scope ys iw.vs) Wx->GD X ifs (λ σ H Q=>∃ M',MS M' K (AR S scope ys iw.vs) Wx/\tT M' t σ H Q)
def T2 {scope:Bc}{tg:Expr}{ys:List Str}{asg:PV->Ah->Option Ah}{it elt:Expr}{ifs:List Expr}{iw:Iw}{t:Fb}{vE:List Nat} (c:CompParts P w K mg base lvl S scope tg ys asg it elt ifs iw t g vE):∀ i∈iw.vs++vE.filter (λ i=>decide (i < S.N.length)),S.msF i=false:=
 FE c.iwo.1 λ i hi=>c.elt.1 i (ji9.mp hi).1
theorem Q7 {X':Cx}:∀ {es:List Expr}{ys:List Str}{n:Nat},L6 es=some ys->X'.N.Nodup->(∀ j y,ys[j]?=some y->X'.N[n + j]?=some y)->(∀ y∈ys,DJ X'.env.scope y/\(X'.fn y=true\/X'.env.scope.names.lookup y=some .local))->Jy X' es (IY (Jo n ys.length))/\(DS es X'.env).length=ys.length/\(DS es X'.env).findIdx? (·.1)=none
 | [],ys,n,h,_,_,_=>by cases h;exact ⟨TX,rfl,rfl⟩
 | e::es,ys,n,h,hN,hi,hl=>by
  unfold L6 at h;split at h
  ·cases ‹_::_=[]›
  ·rename_i x px r heq;cases heq;obtain ⟨zs,h2,rfl⟩:=jb0.mp h;have hx:=hl x Bf;obtain ⟨h1,h3,h4⟩:=Q7 (n:=n + 1) h2 hN (λ j y e=>by rw [show n + 1 + j=n + (j + 1) by omega];exact hi (j + 1) y (by simpa using e)) λ y hy=>hl y (AQ _ hy);rw [Ba,UQ];refine ⟨Rn (LK hN (by have:=hi 0 x rfl;simpa using this) hx.1 hx.2) h1 rfl,by rw [DS,Ba,h3] <;> (intros;contradiction),?_⟩;rw [DS,PN,h4] <;> first | rfl | (intros;contradiction)
  ·cases h
theorem RD {scope:Bc}{tg:Expr}{ys:List Str}{asg:PV->Ah->Option Ah}{pos:Pos}{it elt:Expr}{ifs:List Expr}{iw:Iw}{t:Fb}{vE:List Nat} (c:CompParts P w K mg base lvl S scope tg ys asg it elt ifs iw t g vE) (xs:XS X P w K mg base lvl S Wx) (m:MS M K S Wx):
  ∃ wi gg,PI X tg it wi/\CompOk X scope (AR S scope ys iw.vs).N ys.length/\(∀ s2 H2 C fp pins,PG (Bj X s2 H2 scope C (AR S scope ys iw.vs).N fp pins) tg gg) /\
   (∀ s2 H2 C fp pins,GD (Bj X s2 H2 scope C (AR S scope ys iw.vs).N fp pins) ifs (λ σ H Q=>∃ M',MS M' K (AR S scope ys iw.vs) W0/\tT M' t σ H Q)) /\
   (∀ s2 H2 C fp pins,PE (Bj X s2 H2 scope C (AR S scope ys iw.vs).N fp pins) elt (λ σ H Q=>∃ M',MS M' K (AR S scope ys iw.vs) W0/\tE M' g vE σ H Q)) /\
   ∀ σ H Q,σ.length=S.N.length->tE M (Kz iw ys.length asg t g) (iw.vs++vE.filter (λ i=>decide (i < S.N.length))) σ H Q ->
    HH ys.length wi gg (λ σ H Q=>∃ M',MS M' K (AR S scope ys iw.vs) W0/\tT M' t σ H Q) (λ σ H Q=>∃ M',MS M' K (AR S scope ys iw.vs) W0/\tE M' g vE σ H Q) σ H Q:=by
 have hvI:=m.v c.iwo.1;have hP:∀ D,MS (M.comp D S.N.length iw.vs) K (AR S scope ys iw.vs) W0:=λ D=>c.chk.ms' m c.iwo.1 D;have hvE:∀ i∈vE,M.Ms i=false:=λ i hi=>by rw [m.ms];exact c.elt.1 i hi
 have hvo:∀ i,i∈vE->i < S.N.length->i∈iw.vs++vE.filter (λ i=>decide (i < S.N.length)):=λ i h1 h2=>BI _ (ji9.mpr ⟨h1,by simpa using h2⟩);have hvo2:=m.v (T2 c);have bd:∀ D i,S.N.length<=i->Bd (M.comp D S.N.length iw.vs) iw.vs i:=λ D i hi=>⟨by
   show M.Ms i=false;rw [m.ms];unfold Sx.msF;cases e:S.ms.contains i with
   | false=>rfl
   | true=>exact absurd (c.chk.ms _ (by simpa using e)) (by omega),⟨λ _=>by have:=c.chk.pos;omega,λ p hp=>by have:=m.pn p hp;omega⟩,if_neg (by omega),(hP D).als⟩
 have hix:∀ j y,ys[j]?=some y->(AR S scope ys iw.vs).N[S.N.length + j]?=some y:=λ j y e=>by
  show (GW _ 0 S.N++ys)[S.N.length + j]?=some y;rw [Ep (by rw [IJ];omega),IJ];simpa using e
 have hloc:∀ s2 H2 C fp pins,∀ y∈ys,DJ (Bj X s2 H2 scope C (AR S scope ys iw.vs).N fp pins).env.scope y/\((Bj X s2 H2 scope C (AR S scope ys iw.vs).N fp pins).fn y=true\/(Bj X s2 H2 scope C (AR S scope ys iw.vs).N fp pins).env.scope.names.lookup y=some .local):=λ s2 H2 C fp pins y hy=>by
  have e:(Bj X s2 H2 scope C (AR S scope ys iw.vs).N fp pins).env.scope=Ex scope S.sc:=by
   show He scope X.env=_;rw [NF,xs.sc]
  rw [e];rcases c.chk.loc y hy with z | z
  ·exact ⟨.inl z,.inr z⟩
  ·exact ⟨.inr z.1,.inl (by show scope.names.contains (y,NameKind.cell)=true;simpa using z.2)⟩
 have hpe:∀ s2 H2 C fp pins,PE (Bj X s2 H2 scope C (AR S scope ys iw.vs).N fp pins) elt (λ σ H Q=>∃ M',MS M' K (AR S scope ys iw.vs) W0/\tE M' g vE σ H Q):=λ s2 H2 C fp pins pi s σ H Q I ⟨M',m',q⟩=>
  (c.elt.2.2 _ M' (c.chk.xs xs s2 H2 C fp pins) m').1 pi s σ H Q I q
 have hpt:∀ s2 H2 C fp pins,GD (Bj X s2 H2 scope C (AR S scope ys iw.vs).N fp pins) ifs (λ σ H Q=>∃ M',MS M' K (AR S scope ys iw.vs) W0/\tT M' t σ H Q):=λ s2 H2 C fp pins=>c.ifs _ (M.comp 0 S.N.length iw.vs) (c.chk.xs xs s2 H2 C fp pins) (hP 0);have tgp:∃ is gg,(∀ i∈is,S.N.length<=i)/\(∀ D,Dz (M.comp D S.N.length iw.vs) iw.vs is gg asg)/\∀ s2 H2 C fp pins,PG (Bj X s2 H2 scope C (AR S scope ys iw.vs).N fp pins) tg gg:=by
  have ht:=c.tga;unfold Mf at ht;split at ht
  ·rename_i y py;cases ht;refine ⟨[S.N.length],E1 S.N.length,λ i hi=>by rw [ja6.mp hi];exact A7 _,λ D=>SS (bd D _ (A7 _)),λ s2 H2 C fp pins=>?_⟩;exact LK c.chk.nd (hix 0 y rfl) (hloc s2 H2 C fp pins y (by simp)).1 (hloc s2 H2 C fp pins y (by simp)).2
  ·rename_i es k tp;obtain ⟨zs,h2,e⟩:=jb0.mp ht;cases e;refine ⟨Jo S.N.length ys.length,IC M.K ys.length (IY (Jo S.N.length ys.length)),λ i hi=>(jp8.mp hi).1,λ D=>?_,λ s2 H2 C fp pins=>?_⟩
   ·have:=OU (M:=M.comp D S.N.length iw.vs) (al:=iw.vs) (is:=Jo S.N.length ys.length) λ i hi=>bd D i (jp8.mp hi).1
    rw [List.length_range'] at this;exact this
   ·obtain ⟨h1,h3,h4⟩:=Q7 (X':=Bj X s2 H2 scope C (AR S scope ys iw.vs).N fp pins) (n:=S.N.length) h2 c.chk.nd hix (hloc s2 H2 C fp pins)
    have:=Pm (X:=Bj X s2 H2 scope C (AR S scope ys iw.vs).N fp pins) (pos:=tp) (k:=k) xs.calm h1 h3 h4
    have e:(Bj X s2 H2 scope C (AR S scope ys iw.vs).N fp pins).K=M.K:=(m.k xs).symm;rw [e] at this;exact this
  ·cases ht
 obtain ⟨is,gg,his,hg,hpg⟩:=tgp;have hw:=c.iwo.2.2 X M xs m tg;have htw:=c.two;cases iw with
 | rng en fa vs=>
  rcases hw with ⟨rfl,hw⟩ | ⟨rfl,hw⟩
  ·exact ⟨_,gg,hw,c.chk.comp xs,hpg,hpt,hpe,λ σ H Q hl hq=>qU hl hP m.als hvI hvE his hg hvo hvo2 hq⟩
  ·exact ⟨_,gg,hw,c.chk.comp xs,hpg,hpt,hpe,λ σ H Q hl hq=>qV hl hP m.als hvI hvE his hg hvo hvo2 hq⟩
 | seq f vs=>exact ⟨_,gg,hw,c.chk.comp xs,hpg,hpt,hpe,λ σ H Q hl hq=>qW hl hP m.als hvI hvE his hg hvo hvo2 hq⟩
 | vw v fa vs=>exact ⟨_,gg,hw htw,c.chk.comp xs,hpg,hpt,hpe,λ σ H Q hl hq=>qX hl hP m.als hvI hvE his hg hvo hvo2 hq⟩
def Tb {e:Expr}{t t':TE} (h:PE X e t) (i:∀ σ H Q,σ.length=X.N.length->t' σ H Q->t σ H Q):PE X e t':=λ pins s σ H Q I q=>h pins s σ H Q I (i σ H Q I.len q)
def Xh {e:Stmt}{t t':TS} (h:PS X e t) (i:∀ D σ H,σ.length=X.N.length->t' D σ H->t D σ H):PS X e t':=λ pins s σ H D I q=>h pins s σ H D I (i D σ H I.len q)
def xh {scope:Bc}{tg:Expr}{ys:List Str}{asg:PV->Ah->Option Ah}{pos:Pos}{it elt:Expr}{ifs:List Expr}{iw:Iw}{t:Fb}{vE:List Nat} (c:CompParts P w K mg base lvl S scope tg ys asg it elt ifs iw t g vE):Good P w K mg base lvl S (.ListComp elt [⟨tg,it,ifs,0⟩] scope pos) (Kz iw ys.length asg t g) (iw.vs++vE.filter (λ i=>decide (i < S.N.length))):=by
 refine Cp (T2 c) rfl (λ _ _=>rfl) λ X M xs m=>?_;obtain ⟨wi,gg,h1,h2,h3,h4,h5,h6⟩:=RD (pos:=pos) c xs m;exact Tb (TV h2 xs.calm h1 h3 h4 h5 (Lz (n:=0) (f:=g) (vs:=[]) c.iwo.2.1)) λ σ H Q hl q=>h6 σ H Q (by rw [hl,xs.N]) q
def RA {d:Expr->Option D2} (hd:∀ e f vs,d e=some (f,vs)->Good P w K mg base lvl S e f vs) {ifs:List Expr}{t:Fb} (h:MC d ifs=some t) (X:Cx) (M:Fm) (xs:XS X P w K mg base lvl S Wx) (m:MS M K S Wx):GD X ifs (λ σ H Q=>∃ M',MS M' K S Wx/\tT M' t σ H Q):=by
 unfold MC at h;split at h
 ·cases h;intro pins s σ H Q I q;exact Z1 pins s σ H Q I (qZ q)
 ·obtain ⟨p,e,rfl⟩:=jb0.mp h;obtain ⟨f,vs⟩:=p;have g:=hd _ _ _ e;intro pins s σ H Q I ⟨M',m',q⟩;exact Z2 (g.2.2 X M' xs m').2 pins s σ H Q I q
 ·cases h
def Ly (n:Nat) (S:Sx) (a:List Expr) (b:Nat) (c:Pos):Bi n S (.Set a b c)=none:=by
 cases n <;> rfl
def QO {e:Expr} (h:Hw e=true) (env:Env) (cpos:Pos):((Dp cpos (A6 [e] env)).all (λ x=>!x.1) && (backToKw cpos (keywordEach [] env)).all (λ x=>x.1.isSome)
   && decide (([e]:List Expr).length + ([]:List Keyword).length + (if ([]:List Keyword).isEmpty then 0 else 1) < 30))=true:=by
 have:A6 [e] env=[(false,eval e env)]:=CH (CI h)
 rw [this];rfl
def Vv {T:Str}{c:Nat} (h:XN.findIdx? (·== T)=some c):XN[c]?=some T:=by
 obtain ⟨hlt,h1,_⟩:=jj2.mp h;rw [CD hlt];exact congrArg some (eq_of_beq h1)
def Ux {T:Str}{n:Nat} (GX:GX K mg S.xc) (hb:∀ x∈zzy,mg x=none) (h:Mt S T=some n) (xs:XS X P w K mg base lvl S Wx):BK X.K=true/\∃ cv,(∀ p2,PE X (.Name T p2) (tC cv))/\∀ u,RelV cv u->Cz X.K n u=true:=by
 unfold Mt at h;split at h
 ·rename_i hc;obtain ⟨hg,hx⟩:=hc;obtain ⟨_,hk,hcs⟩:=GX hx;refine ⟨by rw [xs.K];exact hk,?_⟩;split at h
  ·rename_i eT;subst eT;cases h;refine ⟨.ty "ValueError",λ p2=>TU (xs.gl hg) (by rw [xs.mg];exact hb _ (by decide +kernel)) (u:=.type "ValueError") rfl rfl (by decide) (by decide),λ u r=>?_⟩;cases r;unfold Cz;rfl
  ·split at h
   ·rename_i hc;split at h
    ·rename_i hm;cases h;obtain ⟨x',C,h1,h2,h3,h4⟩:=hcs n (by simpa using hm);have ex:x'=T:=by
      have:=Vv hc
      rw [h1] at this;exact Option.some.inj this
     subst ex;refine ⟨.ref C,λ p2=>Zw (xs.gl hg) (by rw [xs.mg];exact h3) rfl h4,λ u r=>?_⟩;cases r;unfold Cz;rw [xs.K,h2];simp
    ·cases h
   ·cases h
 ·cases h
theorem R8 (GX:GX K mg S.xc) (hb:∀ x∈zzy,mg x=none) (xs:XS X P w K mg base lvl S Wx):∀ {es:List Expr}{ns:List Nat},M8 S es=some ns->es≠[]->BK X.K=true/\∃ cvs,cvs.length=es.length/\PA X es (RN cvs)/\∀ us,Vals cvs us->EK X.K ns us=true
 | [],_,_,hn=>absurd rfl hn
 | e::r,ns,h,_=>by
  unfold M8 at h;split at h
  ·rename_i T ds h1 h2;obtain ⟨n,h3,rfl⟩:=jb0.mp h;obtain ⟨p2,rfl⟩:=Fi h1;obtain ⟨hk,cv,c1,c2⟩:=Ux GX hb h3 xs;refine ⟨hk,?_⟩;have st:A6 (Expr.Name T p2::r) X.env=(false,eval (.Name T p2) X.env)::A6 r X.env:=rfl;by_cases hr:r=[]
   ·subst hr;cases h2;refine ⟨[cv],rfl,λ a b c d e f g h=>(DL (c1 p2) Fl st) a b c d e f g h,λ us v=>?_⟩;cases v with
    | cons r rr=>
     cases rr;unfold EK;rw [c2 _ r];rfl
   ·obtain ⟨_,cvs,l1,pa,l2⟩:=R8 GX hb xs h2 hr;refine ⟨cv::cvs,by rw [Ba,Ba,l1],λ a b c d e f g h=>(DL (c1 p2) pa st) a b c d e f g h,λ us v=>?_⟩;cases v with
    | cons r rr=>
     unfold EK;rw [c2 _ r,l2 _ rr];rfl
  ·cases h
theorem IW (GX:GX K mg S.xc) (G:GS P w K mg base lvl S.Γ) (Gm:Fz P w K mg base lvl S.Γm):∀ (n:Nat) (S':Sx) (e:Expr) (f:Fx) (vs:List Nat),S'.Γ=S.Γ->S'.Γm=S.Γm->S'.xc=S.xc->(∀ i,∀ j∈S'.alF i,S'.msF j=false)->Bi n S' e=some (f,vs)->Good P w K mg base lvl S' e f vs:=by
 intro n;induction n with
 | zero=>intro S' e f vs _ _ _ _ h;cases h
 | succ n ih=>
  intro S' e f vs hΓ hΓm hX hS h;have hd:∀ e f vs,Bi n S' e=some (f,vs)->Good P w K mg base lvl S' e f vs:=λ e f vs h=>ih S' e f vs hΓ hΓm hX hS h;replace h:FD (Bi n) S' e=some (f,vs):=h;unfold FD at h;split at h
  ·unfold KY at h;split at h
   ·cases h;exact Cp (λ _ z=>(nomatch z)) rfl (λ _ _=>rfl) λ X M xs m=>Bn LA λ σ H Q q=>JB (λ K H Z=>by rw [Own];exact ⟨rfl,rfl⟩) q
   ·cases h;exact Cp (λ _ z=>(nomatch z)) rfl (λ _ _=>rfl) λ X M xs m=>Bn VX λ σ H Q q=>JB (λ K H Z=>by rw [Own];exact ⟨rfl,rfl⟩) q
   ·cases h;exact Cp (λ _ z=>(nomatch z)) rfl (λ _ _=>rfl) λ X M xs m=>Bn Xb λ σ H Q q=>JB (λ K H Z=>by rw [Own];exact ⟨rfl,rfl⟩) q
   ·cases h;exact Cp (λ _ z=>(nomatch z)) rfl (λ _ _=>rfl) λ X M xs m=>Bn Te λ σ H Q q=>JB (λ K H Z=>by rw [Own];exact ⟨rfl,rfl⟩) q
   ·cases h
  ·split at h
   ·rename_i i hi;split at h
    ·cases h
    ·rename_i hm;cases h;refine Cp (λ j hj=>?_) rfl (λ _ _=>rfl) λ X M xs m=>Tb (xs.var hi) λ σ H Q hl q=>?_
     ·rcases jb2.mp hj with z | z
      ·rw [z];simpa using hm
      ·exact hS i j z
     ·have hlt:i < S'.N.length:=by
       unfold Sx.slot at hi;split at hi
       ·exact (ja3.mp (Lj hi)).1
       ·cases hi
      rw [<- m.al i hlt] at q;exact Tw q
   ·cases h
  ·split at h
   ·rename_i f1 v1 f2 v2 o h1 h2 h3;cases h;have g1:=hd _ _ _ h1;have g2:=hd _ _ _ h2;exact Cp (FE g1.1 g2.1) rfl (λ _ _=>rfl) λ X M xs m=>Wf h3 (m.v g1.1) (m.k xs) (g1.2.2 X M xs m).1 (g2.2.2 X M xs m).1
   ·cases h
  ·split at h
   ·rename_i f1 v1 h1;cases h;have g1:=hd _ _ _ h1;exact Cp g1.1 rfl (λ _ _=>rfl) λ X M xs m=>X3 (g1.2.2 X M xs m).1
   ·cases h
  ·split at h
   ·rename_i f1 v1 h1;cases h;exact ZY (hd _ _ _ h1)
   ·cases h
  ·rename_i es pos;have g:=R9 hd (pos:=pos) _ _ _ h;exact ⟨g.1,rfl,λ X M xs m=>⟨(g.2 X M xs m).1,(g.2 X M xs m).2.pt⟩⟩
  ·rename_i es pos;have g:=U0 hd (pos:=pos) _ _ _ h;exact ⟨g.1,rfl,λ X M xs m=>⟨(g.2 X M xs m).1,(g.2 X M xs m).2.pt⟩⟩
  ·split at h
   ·rename_i f1 v1 f2 v2 o h1 h2 h3;cases h;exact ZX h3 (hd _ _ _ h1) (hd _ _ _ h2)
   ·cases h
  ·split at h
   ·rename_i f1 v1 f2 v2 f3 v3 p q h1 h2 h3 h4 h5;cases h;exact xR h4 h5 (hd _ _ _ h1) (hd _ _ _ h2) (hd _ _ _ h3)
   ·cases h
  ·split at h
   ·rename_i fa v h1;cases h;have g:=EF hd _ _ _ h1;exact Cp g.1 rfl (λ _ _=>rfl) λ X M xs m=>X1 (g.2.2 X M xs m)
   ·cases h
  ·split at h
   ·rename_i fa v h1;cases h;have g:=EF hd _ _ _ h1;exact Cp g.1 rfl (λ _ _=>rfl) λ X M xs m=>X4 (g.2.2 X M xs m)
   ·cases h
  ·rename_i a b pos;unfold SQ at h;split at h
   ·rename_i lo hi st p2;unfold SO at h;split at h
    ·split at h
     ·rename_i f1 v1 f2 v2 h1 h2;cases h;have g1:=hd _ _ _ h1;have g2:=hd _ _ _ h2;exact Cp g1.1 rfl (λ _ _=>rfl) λ X M xs m=>Bn (N8 (zfv.or (qb6.or Pt)) (g1.2.2 X M xs m).1 Oa (J8 (g2.2.2 X M xs m).1)) λ σ H Q q=>OW (lo:=none) (hi:=some (f2,v2)) (m.v g1.1) (m.k xs) q
     ·cases h
    ·split at h
     ·rename_i f1 v1 f2 v2 h1 h2;cases h;have g1:=hd _ _ _ h1;have g2:=hd _ _ _ h2;exact Cp g1.1 rfl (λ _ _=>rfl) λ X M xs m=>Bn (N8 (zfv.or (qb6.or Pt)) (g1.2.2 X M xs m).1 (J8 (g2.2.2 X M xs m).1) Oa) λ σ H Q q=>OW (lo:=some (f2,v2)) (hi:=none) (m.v g1.1) (m.k xs) q
     ·cases h
    ·split at h
     ·rename_i f1 v1 f2 v2 f3 v3 h1 h2 h3;cases h;have g1:=hd _ _ _ h1;have g2:=hd _ _ _ h2;have g3:=hd _ _ _ h3;exact Cp g1.1 rfl (λ _ _=>rfl) λ X M xs m=>Bn (N8 (zfv.or (qb6.or Pt)) (g1.2.2 X M xs m).1 (J8 (g2.2.2 X M xs m).1) (J8 (g3.2.2 X M xs m).1)) λ σ H Q q=>OW (lo:=some (f2,v2)) (hi:=some (f3,v3)) (m.v g1.1) (m.k xs) q
     ·cases h
    ·rename_i st;split at h
     ·rename_i hst;obtain ⟨k,p3,p4,rfl⟩:=xl hst;split at h
      ·rename_i f1 v1 h1;cases h;have g1:=hd _ _ _ h1;exact Cp g1.1 rfl (λ _ _=>rfl) λ X M xs m=>Wg (m.k xs) (g1.2.2 X M xs m).1
      ·cases h
     ·cases h
    ·cases h
   ·split at h
    ·rename_i x i hx hi;obtain ⟨px,rfl⟩:=Fi hx;obtain ⟨k,pi,rfl⟩:=SV hi;split at h
     ·rename_i j hj;split at h
      ·cases h
      ·rename_i hm;cases h;have hlt:j < S'.N.length:=by
        unfold Sx.slot at hj;split at hj
        ·exact (ja3.mp (Lj hj)).1
        ·cases hj
       have hv:∀ i∈j::S'.alF j,S'.msF i=false:=λ i hi=>by
        rcases jb2.mp hi with z | z
        ·rw [z];simpa using hm
        ·exact hS j i z
       refine Cp (FE hv λ _ z=>(nomatch z)) rfl (λ _ _=>rfl) λ X M xs m=>Tt (m.v hv) (m.k xs) (ND rfl) (Bn (xs.var hj) λ σ H Q q=>?_) (Bn LA λ σ H Q q=>JB (λ K H Z=>by rw [Own];exact ⟨rfl,rfl⟩) q);rw [<- m.al j hlt] at q;exact Tw q
     ·cases h
    ·split at h
     ·rename_i f1 v1 f2 v2 h1 h2;split at h
      ·rename_i hn;cases h;have g1:=hd _ _ _ h1;have g2:=hd _ _ _ h2;exact Cp (FE g1.1 g2.1) rfl (λ _ _=>rfl) λ X M xs m=>Tt (m.v g1.1) (m.k xs) (ND hn) (g1.2.2 X M xs m).1 (g2.2.2 X M xs m).1
      ·cases h
     ·cases h
  ·split at h
   ·rename_i x p args pos _ hx;subst hx;split at h
    ·rename_i e c;unfold SJ at h;split at h
     ·rename_i f1 v1 h1;split at h
      ·rename_i hgi;have g1:=hd _ _ _ h1;split at h
       ·rename_i T pT;have s2:∀ {X:Cx},A6 [Expr.Name T pT] X.env=[(false,eval (.Name T pT) X.env)]:=rfl;split at h
        ·rename_i t h2;split at h
         ·rename_i hg;cases h;obtain ⟨t1,t2,t3,t4,t5⟩:=Z9 h2;refine Cp g1.1 rfl (λ _ _=>rfl) λ X M xs m=>?_;exact Xz (x:=T) t1 (m.k xs) (g1.2.2 X M xs m).1 (xs.gl hgi) (by rw [xs.mg];exact G.1 _ (by decide +kernel)) (TU (xs.gl hg) (by rw [xs.mg];exact G.1 _ t2) t3 rfl t5 t4) (by rw [CH (CI g1.2.1),s2]) s2
         ·cases h
        ·obtain ⟨n,h3,e2⟩:=jb0.mp h;cases e2;refine Cp g1.1 rfl (λ _ _=>rfl) λ X M xs m=>?_;obtain ⟨hk,cv,c1,c2⟩:=Ux (by rw [hX];exact GX) G.1 h3 xs;exact YY hk (m.k xs) (g1.2.2 X M xs m).1 (xs.gl hgi) (by rw [xs.mg];exact G.1 _ (by decide +kernel)) (c1 pT) c2 (by rw [CH (CI g1.2.1),s2]) s2
       ·rename_i es k p2;split at h
        ·rename_i hl;obtain ⟨ns,h3,e2⟩:=jb0.mp h;cases e2;obtain ⟨hl,hne⟩:=hl;refine Cp g1.1 rfl (λ _ _=>rfl) λ X M xs m=>?_;have s2:A6 [Expr.Tuple es k p2] X.env=[(false,eval (.Tuple es k p2) X.env)]:=rfl;obtain ⟨hk,cvs,l1,pa,l2⟩:=R8 (by rw [hX];exact GX) G.1 xs h3 hne;exact qu hk (m.k xs) (g1.2.2 X M xs m).1 (xs.gl hgi) (by rw [xs.mg];exact G.1 _ (by decide +kernel)) pa (by rw [l1];exact Cg hl (by decide)) l2 (by rw [CH (CI g1.2.1),s2]) s2
        ·cases h
       ·cases h
      ·cases h
     ·cases h
    ·cases h
   ·split at h
    ·rename_i a ha;split at h
     ·rename_i f1 v1 h1;split at h
      ·rename_i hc;cases h;obtain ⟨rfl,p2,pos2,rfl⟩:=YB ha;have g1:=hd _ _ _ h1;exact Cp g1.1 rfl (λ _ _=>rfl) λ X M xs m=>Xy (m.k xs) xs.calm (by have:=xs.room.un;omega) (xs.gl hc.1) (by rw [xs.mg];exact G.1 _ (by decide +kernel)) (xs.gl hc.2) (by rw [xs.mg];exact G.1 _ (by decide +kernel)) (by rw [CH (CI g1.2.1)];rfl) (g1.2.2 X M xs m).1
      ·cases h
     ·cases h
    split at h
    ·rename_i o ho;split at h
     ·rename_i e es;split at h
      ·rename_i fa v h1;split at h
       ·rename_i hg;cases h;have g:=EF hd _ _ _ h1;exact Cp g.1 rfl (λ _ _=>rfl) λ X M xs m=>Xw ho xs m G.1 hg g.2.1 (g.2.2 X M xs m)
       ·cases h
      ·cases h
     ·cases h
    ·split at h
     ·rename_i x p args pos _ _ _ _ nn F hF;split at h
      ·rename_i e es;split at h
       ·rename_i fa v h1;split at h
        ·rename_i hg;cases h;have g:=EF hd _ _ _ h1;rw [hΓ] at hF;obtain ⟨d1,d2,fa',fd,ps,d3,d4,d5,d6,d7⟩:=G.2 _ _ _ _ hF;refine Cp g.1 rfl (λ _ _=>rfl) λ X M xs m=>?_;have hs:=g.2.1;rw [Gf,Be] at hs;obtain ⟨xp,xw,xK,xm,xb,_,_,_,xr,_⟩:=id xs;subst xp xw xK xm xb;have mk:M.K=X.K:=m.K;have hps:=xs.ps;rw [<- m.W] at hps;refine Bn (qg d7 xr (xs.gl hg) d3 d4 d5 hps (g.2.2 X M xs m) d1 (CH (CI hs.1)) (Oh hs.2)) λ σ H Q q=>?_
         have:=Zj d2 q
         rw [mk] at this;exact this
        ·cases h
       ·cases h
      ·cases h
     ·cases h
     ·cases h
  ·rename_i x px at' apos e cpos;split at h
   ·rename_i i f1 v1 hi he;split at h
    ·rename_i hc;obtain ⟨rfl,hm,hl⟩:=hc;cases h;have g:=hd _ _ _ he;refine Cp (λ _ z=>(nomatch z)) rfl (λ _ _=>rfl) λ X M xs m=>?_;have hb:=Sd (X:=X) (cpos:=cpos) PySem.F.plainAttrs_str PySem.F.slot_str_count PySem.F.type_str_count qa (xs.var (pos:=px) hi) (DL (g.2.2 X M xs m).1 Fl (CH (CI g.2.1))) rfl (QO g.2.1 X.env cpos) hl (CH (CI g.2.1)) rfl;refine Bn hb λ σ H Q q=>?_
     have:=X8 (vs:=v1) m.als q
     rw [m.k xs] at this;exact this
    ·cases h
   ·cases h
  ·split at h
   ·rename_i elt tg it ifs scope pos _ _ ys asg iw ht hi;split at h
    ·rename_i hc;split at h
     ·rename_i t g vE h1 h2;cases h;have ck:=SE hc.1;have giw:=Lx hd (Ly n S') G.1 hi;have hS2:∀ i,∀ j∈(AR S' scope ys iw.vs).alF i,(AR S' scope ys iw.vs).msF j=false:=λ i j hj=>by
       rw [Nz] at hj;show S'.msF j=false;split at hj
       ·exact hS i j hj
       ·split at hj
        ·exact giw.1 j hj
        ·cases hj
      have hd2:∀ e f vs,Bi n (AR S' scope ys iw.vs) e=some (f,vs)->Good P w K mg base lvl (AR S' scope ys iw.vs) e f vs:=λ e f vs h=>ih _ e f vs hΓ hΓm hX hS2 h;exact xh ⟨ht,hc.2,ck,giw,hd2 _ _ _ h2,RA hd2 h1⟩
     ·cases h
    ·cases h
   ·cases h
  ·cases h
end
section
variable {is:List Nat}{M:Fm}{ρ ρ':Ah}{σ σ':St}{H H' H'':Hp}{fps fps' fps'':AF}{vs vs':List Nat}
def Kq:Fs:=λ _=>.no
def OX {t:TS}{D:Ends} (hq:tS M Kq D σ H):t D σ H:=by
 obtain ⟨ρ,fps,rep,q⟩:=hq;exact q.elim
def EN (asg:PV->Ah->Option Ah) (f:Fx) (vs:List Nat):Fs:=λ ρ=>match f ρ with
 | .ok (x,d,ρ1)=>(match asg x (Bg d vs ρ1) with
  | some ρ2=>.nx ρ2
  | none=>.no)
 | .exc c=>.exc c
 | .no=>.no
theorem Yt {g:TG}{asg:PV->Ah->Option Ah}{f:Fx}{D:Ends} (hal:∀ i,M.al i=[]) (hv:∀ i∈vs,M.Ms i=false) (hg:Dz M [] is g asg) (hq:tS M (EN asg f vs) D σ H):C9 (tE M f vs) g D σ H:=by
 obtain ⟨ρ,fps,rep,q⟩:=hq;refine ⟨ρ,fps,rep,?_⟩;unfold EN at q;cases ef:f ρ with
 | no=>rw [ef] at q;exact q
 | exc c=>rw [ef] at q;exact λ H' fps' k=>q _ H' fps' k.ks
 | ok p=>
  obtain ⟨x,d,ρ1⟩:=p;rw [ef] at q;intro v H1 fps1 f1 k1 g1 rep1 o1 t1;obtain ⟨fps2,k2,r2,o2⟩:=Rep.seen rep k1 g1 rep1 o1 t1 hal hv;dsimp only at q;cases ea:asg x (Bg d vs ρ1) with
  | none=>rw [ea] at q;exact q.elim
  | some ρ2=>
   rw [ea] at q;refine hg x v _ σ H1 fps2 ρ2 _ r2 (o2.weak λ a h=>h.zf) ea λ σ' fps' s1 _ _ r'=>q σ' H1 fps' (k2.trans ⟨λ _ _ h _=>h,λ _ h=>h,λ j a ha=>.inl ⟨j,s1 j a ha⟩⟩) r'
def Rep.change {i:Nat}{x x':PV}{d d':Nat}{v:V}{f':List Addr} (hal:∀ i,M.al i=[]) (r:Rep M ρ σ H fps) (hi:ρ[i]?=some (some (x,d))) (hσ:σ[i]?=some (some v)) (k:C0 (λ a=>a∈fps i) H H') (dm:∀ a,H a≠none->H' a≠none) (hs:∀ b∈f',b∈fps i)
  (hm:M.Ms i=true->d'=om) (o:Own M.K H' (Zf M (λ j=>if j=i then f' else fps j)) x' d' v f'):Rep M (ρ.set i (some (x',d'))) σ H' (λ j=>if j=i then f' else fps j):=by
 have hlen:i < ρ.length:=(ja3.mp hi).1;have inI:∀ j,∀ b∈(if j=i then f' else fps j),b∈fps j:=λ j b hb=>by
  by_cases e:j=i
  ·rw [if_pos e] at hb;rw [e];exact hs b hb
  ·rw [if_neg e] at hb;exact hb
 refine ⟨λ j y c hj=>?_,λ j hj=>?_,λ j k hjk b hb hc=>r.dj j k hjk b (inI j b hb) (inI k b hc),λ j b hb z=>r.zo j b (inI j b hb) z,λ j hj b hb=>r.fr j hj b (inI j b hb),λ b z=>dm b (r.zd b z),by rw [DI];exact r.len,λ j y c hj hc=>?_,λ b z=>dm b (r.h0 b z),r.iov⟩
 ·by_cases ej:j=i
  ·subst ej;rw [CC hlen] at hj;cases hj;refine ⟨v,hσ,?_⟩;rw [if_pos rfl];exact o.weak λ a h=>h.zf
  ·rw [BL (BG ej)] at hj;obtain ⟨u,hu,ou⟩:=r.own j y c hj;refine ⟨u,hu,?_⟩;rw [if_neg ej];refine Own.move (S:=λ a=>a∈fps i) k (λ a ha=>⟨.inr ⟨i,(by rw [hal j];intro z;cases z),ha⟩,r.lsts ha⟩) (λ a _ nz z=>nz ?_) y c u (fps j) (λ a ha z=>r.dj j i ej a ha z) ou;rcases z with z | ⟨l,nl,z⟩
   ·exact .inl z
   ·exact .inr ⟨l,nl,inI l a z⟩
 ·by_cases ej:j=i
  ·subst ej;exact absurd (CC hlen) (hj (x',d'))
  ·rw [if_neg ej];exact r.non j λ p hp=>hj p (by rw [BL (BG ej)];exact hp)
 ·by_cases ej:j=i
  ·subst ej;rw [CC hlen] at hc;cases hc;exact hm hj
  ·rw [BL (BG ej)] at hc;exact r.msf j y c hj hc
def CT (g:Int->Int->Int) (sd:Bool) (i:Nat) (f:Fx):Fs:=λ ρ=>match ρ[i]? with
 | some (some (.int a,_))=>(match f ρ with
  | .ok (.int b,_,ρ1)=>if i < ρ1.length then .nx (ρ1.set i (some (.int (g a b),om))) else .no
  | .ok _=>.no
  | .exc c=>.exc c
  | .no=>.no)
 | some (some (.str a,_))=>(match f ρ with
  | .ok (.str b,_,ρ1)=>if i < ρ1.length/\sd=true/\a.length + b.length<=Am then .nx (ρ1.set i (some (.str (a++b),om))) else .no
  | .ok _=>.no
  | .exc c=>.exc c
  | .no=>.no)
 | _=>.no
def Nf (g:Int->Int->Int) (sd:Bool):KZ:=λ x y H Q=>Qb g x y H Q\/(sd=true/\∃ i j,x=.str i/\y=.str j/\i.length + j.length<=Am/\Q (.str (i++j)) H)
def Y3 {X:Cx}:Jx X .Add (Nf (λ i j=>i + j) true):=by
 intro pins s σ H x y v u Q I rx ry h;rcases h with h | ⟨_,h⟩
 ·exact W8 pins s σ H x y v u Q I rx ry h
 ·exact V4 pins s σ H x y v u Q I rx ry h
def Y4 {X:Cx}:Jx X .Sub (Nf (λ i j=>i - j) false):=by
 intro pins s σ H x y v u Q I rx ry h;rcases h with h | ⟨z,_⟩
 ·exact W9 pins s σ H x y v u Q I rx ry h
 ·cases z
def XE {g:Int->Int->Int}{sd:Bool}{f:Fx}{i:Nat}{D:Ends} (hal:∀ i,M.al i=[]) (hm:M.Ms i=false) (hio:M.Fre i) (hq:tS M (CT g sd i f) D σ H):Ko i (tE M f vs) (Nf g sd) D σ H:=by
 obtain ⟨ρ,fps,rep,q⟩:=hq;unfold CT at q;split at q
 ·rename_i a d0 e0;obtain ⟨v,hσ,o⟩:=rep.own0 hal i _ _ e0;rw [Own] at o;obtain ⟨rfl,_⟩:=o;refine ⟨_,hσ,ρ,fps,rep,?_⟩;cases ef:f ρ with
  | no=>rw [ef] at q;exact q
  | exc c=>rw [ef] at q;exact λ H' fps' k=>q _ H' fps' k.ks
  | ok p=>
   obtain ⟨y,e,ρ1⟩:=p;rw [ef] at q;cases y with
   | int b=>
    intro w H1 fps1 fp k1 g1 rep1 o1 t1;rw [Own] at o1;obtain ⟨rfl,_⟩:=o1;refine .inl ⟨a,b,rfl,rfl,?_⟩;dsimp only at q;split at q
    ·rename_i hl;have bd:Bd M [] i:=⟨hm,hio,hal i,λ i j hj=>by rw [hal i] at hj;cases hj⟩
     have r2:=rep1.bind1 (y:=.int (g a b)) (v:=.int (g a b)) (al:=[]) (by rw [Own];exact ⟨rfl,rfl⟩) hl bd;refine q _ H1 _ (k1.ks.trans ⟨λ _ _ h _=>h,λ _ h=>h,λ j b hb=>.inl ⟨j,?_⟩⟩) r2;by_cases ej:j=i
     ·simp only [if_pos ej] at hb;cases hb
     ·simp only [if_neg ej] at hb;exact hb
    ·exact q.elim
   | _=>exact q.elim
 ·rename_i a d0 e0;obtain ⟨v,hσ,o⟩:=rep.own0 hal i _ _ e0;rw [Own] at o;obtain ⟨rfl,_⟩:=o;refine ⟨_,hσ,ρ,fps,rep,?_⟩;cases ef:f ρ with
  | no=>rw [ef] at q;exact q
  | exc c=>rw [ef] at q;exact λ H' fps' k=>q _ H' fps' k.ks
  | ok p=>
   obtain ⟨y,e,ρ1⟩:=p;rw [ef] at q;cases y with
   | str b=>
    intro w H1 fps1 fp k1 g1 rep1 o1 t1;rw [Own] at o1;obtain ⟨rfl,_⟩:=o1;dsimp only at q;split at q
    ·rename_i hl;refine .inr ⟨hl.2.1,a,b,rfl,rfl,hl.2.2,?_⟩;have bd:Bd M [] i:=⟨hm,hio,hal i,λ i j hj=>by rw [hal i] at hj;cases hj⟩
     have r2:=rep1.bind1 (y:=.str (a++b)) (v:=.str (a++b)) (al:=[]) (by rw [Own];exact ⟨rfl,rfl⟩) hl.1 bd;refine q _ H1 _ (k1.ks.trans ⟨λ _ _ h _=>h,λ _ h=>h,λ j b hb=>.inl ⟨j,?_⟩⟩) r2;by_cases ej:j=i
     ·simp only [if_pos ej] at hb;cases hb
     ·simp only [if_neg ej] at hb;exact hb
    ·exact q.elim
   | _=>exact q.elim
 ·exact q.elim
end
section
variable {M:Fm}{ρ ρ':Ah}{σ σ':St}{H H' H'':Hp}{fps fps' fps'':AF}{vs vs':List Nat}
end
section
variable {is:List Nat}{M:Fm}{ρ ρ':Ah}{σ σ':St}{H H' H'':Hp}{fps fps' fps'':AF}{vs vs':List Nat}{D:Ends}
end
section
variable {is:List Nat}{M:Fm}{ρ ρ':Ah}{σ σ':St}{H H' H'':Hp}{fps fps' fps'':AF}{vs vs':List Nat}{D:Ends}
end
section
variable {is:List Nat}{X:Cx}{M:Fm}{ρ ρ':Ah}{σ σ':St}{H H' H'':Hp}{fps fps' fps'':AF}{vs vs':List Nat}{D:Ends}
def Sn:TSet:=λ o i v H Q=>∃ a H',o=.ref a/\DPut H a i v H'/\Q H'
def Wc:TSet:=λ o i v H Q=>Mx o i v H Q\/Sn o i v H Q
def Wh (hu:X.A.units + 1 < BU):PSet X Sn:=by
 intro pins s σ H o i v ov iv u Q I ro ri rv h;obtain ⟨a,H',rfl,g,q⟩:=h;obtain rfl:ov=Value.ref a:=ro;exact xx hu I g ri rv λ s' I'=>⟨H',I',q⟩
def PSet.or {t t':TSet} (h:PSet X t) (h':PSet X t'):PSet X (λ o i v H Q=>t o i v H Q\/t' o i v H Q):=by
 intro pins s σ H o i v ov iv u Q I ro ri rv q;rcases q with q | q
 ·exact h pins s σ H o i v ov iv u Q I ro ri rv q
 ·exact h' pins s σ H o i v ov iv u Q I ro ri rv q
def XO {K:Frag}{Z:Addr->Prop}{y:PV}{u:V}{d:Nat}{w:V}{fp:List Addr} (h:sV y=some u) (o:Own K H Z y d w fp):w=u/\GY y=true:=by
 cases y <;> cases h <;> (rw [Own] at o;exact ⟨o.1,rfl⟩)
def DH (x:PV) (k y:PV):Option PV:=match x,k with
 | .lst xs,.int i=>(match Dj xs.length i with
  | some j=>some (.lst (xs.set j y))
  | none=>none)
 | .dct kvs,.tup ks=>(match EU ks,sV y with
  | some k,some u=>if kvs.length < Am then some (.dct (Bq kvs k u)) else none
  | _,_=>none)
 | _,_=>none
def zq:PV->Bool
 | .lst _=>true
 | _=>false
def CN (i:Nat) (fk f:Fx):Fs:=λ ρ=>match f ρ with
 | .ok (y,e,ρ1)=>(match ρ1[i]? with
  | some (some _)=>(match fk ρ1 with
   | .ok (k,_,ρ2)=>(match ρ2[i]? with
    | some (some (x,d))=>(match DH x k y with
     | some x'=>if d≠0/\Jj y=true then .nx (ρ2.set i (some (x',d))) else if d≠0/\e=om/\zq x=true then .nx (ρ2.set i (some (x',1))) else .no
     | none=>.no)
    | _=>.no)
   | _=>.no)
  | _=>.no)
 | .exc c=>.exc c
 | .no=>.no
def Rep.poke {i:Nat}{x x':PV}{d:Nat}{a:Addr}{o':HO}{f':List Addr}{H0:Hp}{fps0:AF} (hal:∀ i,M.al i=[]) (k0:KS M H0 fps0 H fps) (r:Rep M ρ σ H fps) (hi:ρ[i]?=some (some (x,d))) (hσ:σ[i]?=some (some (.ref a))) (ha:a∈fps i) (hs:∀ b∈f',b∈fps i)
  (o:Own M.K (As H a o') (Zf M (λ j=>if j=i then f' else fps j)) x' d (.ref a) f'):KS M H0 fps0 (As H a o') (λ j=>if j=i then f' else fps j)/\Rep M (ρ.set i (some (x',d))) σ (As H a o') (λ j=>if j=i then f' else fps j):=by
 have dm:∀ b,H b≠none->As H a o' b≠none:=λ b hb=>by
  by_cases eb:b=a
  ·rw [eb,Ce];simp
  ·rw [AN eb];exact hb
 refine ⟨⟨λ b u hb n=>?_,λ b hb=>dm b (k0.dom b hb),λ j b hb=>?_⟩,r.change hal hi hσ (λ b u hb n=>?_) dm hs (λ h=>r.msf i _ _ h hi) o⟩
 ·have hb1:=k0.keep b u hb n;rw [AN]
  ·exact hb1
  ·rintro rfl;rcases k0.sub i b ha with z | z
   ·exact n z
   ·rw [z] at hb;cases hb
 ·by_cases ej:j=i
  ·simp only [if_pos ej] at hb;exact k0.sub i b (hs b hb)
  ·simp only [if_neg ej] at hb;exact k0.sub j b hb
 ·rw [AN]
  ·exact hb
  ·rintro rfl;exact n ha
theorem Zp {f fk:Fx}{vk:List Nat}{i:Nat} (hal:∀ i,M.al i=[]) (hm:M.Ms i=false) (hv:∀ i∈vs,M.Ms i=false) (hq:tS M (CN i fk f) D σ H):C9 (tE M f vs) (Gr (Cw i) (tE M fk vk) Wc) D σ H:=by
 obtain ⟨ρ,fps,rep,q⟩:=hq;refine ⟨ρ,fps,rep,?_⟩;unfold CN at q;cases ef:f ρ with
 | no=>rw [ef] at q;exact q
 | exc c=>rw [ef] at q;exact λ H' fps' k=>q _ H' fps' k.ks
 | ok p=>
  obtain ⟨y,e,ρ1⟩:=p;rw [ef] at q;intro w H1 fps1 fp k1 g1 rep1 o1 t1;dsimp only at q;cases e1:ρ1[i]? with
  | none=>rw [e1] at q;exact q.elim
  | some s1=>
   rw [e1] at q;cases s1 with
   | none=>exact q.elim
   | some p1=>
   obtain ⟨x1,d1⟩:=p1;dsimp only at q;obtain ⟨v0,hσ,_⟩:=rep1.own i _ _ e1;refine ⟨v0,hσ,ρ1,fps1,rep1,?_⟩;cases ek:fk ρ1 with
   | no=>rw [ek] at q;exact q.elim
   | exc c=>rw [ek] at q;exact q.elim
   | ok p2=>
    obtain ⟨k,ek',ρ2⟩:=p2;rw [ek] at q;intro kv H2 fps2 f2 k2 g2 rep2 o2 t2;dsimp only at q;cases e2:ρ2[i]? with
    | none=>rw [e2] at q;exact q.elim
    | some s2=>
     rw [e2] at q;cases s2 with
     | none=>exact q.elim
     | some p3=>
      obtain ⟨x,d⟩:=p3;dsimp only at q;cases ep:DH x k y with
      | none=>rw [ep] at q;exact q.elim
      | some x'=>
       rw [ep] at q;dsimp only at q;split at q
       ·rename_i hc;obtain ⟨hd,hy⟩:=hc;obtain ⟨v1,hσ1,ox⟩:=rep2.own0 hal i _ _ e2;rw [hσ] at hσ1;cases hσ1;have k12:KS M H fps H2 fps2:=k1.ks.trans k2.ks;unfold DH at ep;split at ep
        ·rename_i xs n;split at ep
         ·rename_i j ej;cases ep;rw [Own] at o2;obtain ⟨rfl,_⟩:=o2;obtain ⟨a,ws,fc,rfl,ha,hfp,nac,hol⟩:=ox.list hd;have hai:a∈fps2 i:=by rw [hfp];exact Bf
          have ow:Own M.K H2 (Zf M fps2) y (pd d) w []:=(Own.flatA (d':=pd d) hy (k2.stay rep1 hv o1 t1.ndj)).2;obtain ⟨fc',hs',hset⟩:=hol.set ow j;have inI:∀ b,b∈a::fc'->b∈fps2 i:=λ b hb=>(jb2.mp hb).elim (λ z=>by rw [z];exact hai) λ z=>by rw [hfp];exact AQ _ (hs' b z)
          have nz:∀ b,Zf M (λ j=>if j=i then a::fc' else fps2 j) b->Zf M fps2 b:=λ b h=>by
           rcases h with z | ⟨j,z⟩
           ·exact .inl z
           ·by_cases ej:j=i
            ·simp only [if_pos ej] at z;exact .inr ⟨i,inI b z⟩
            ·simp only [if_neg ej] at z;exact .inr ⟨j,z⟩
          refine .inl ⟨a,ws,n,j,rfl,rfl,ha,by rw [hol.length];exact ej,?_⟩;have pk:=rep2.poke (o':=.lst (ws.set j w)) (x':=.lst (xs.set j y)) (f':=a::fc') hal k12 e2 hσ hai inI (by
           rw [Own];exact ⟨a,_,rfl,.inr ⟨hd,fc',Ce,rfl,λ z=>nac (hs' a z),hset.at (.inr ⟨i,hai⟩) ⟨.l ws,ha⟩ (λ z=>nac (hs' a z)) λ b _ n z=>n (nz b z)⟩⟩)
          exact q σ _ _ pk.1 pk.2
         ·cases ep
        ·rename_i kvs ks;split at ep
         ·rename_i kk u ekk eu;split at ep
          ·rename_i hl;cases ep;obtain ⟨rfl,_⟩:=XO eu o1;rw [Own] at o2;obtain ⟨b,ws,rfl,hb,ol⟩:=o2
           have:=Lk ekk ol
           subst this;have hx:∃ a,v0=.ref a/\H2 a=some (.dT kvs)/\fps2 i=[a]:=by
            rw [Own] at ox;obtain ⟨a,ea,⟨d0,_⟩ | ⟨_,ha,hf⟩⟩:=ox
            ·exact absurd d0 hd
            ·exact ⟨a,ea,ha,hf⟩
           obtain ⟨a,rfl,ha,hf⟩:=hx;have hai:a∈fps2 i:=by rw [hf];exact Bf
           refine .inr ⟨a,_,rfl,DPut.t ha hb hl,?_⟩;have pk:=rep2.poke (o':=.dT (Bq kvs kk w)) (x':=.dct (Bq kvs kk w)) (f':=[a]) hal k12 e2 hσ hai (λ b hb=>by rw [ja6.mp hb];exact hai) (by
            rw [Own];exact ⟨a,rfl,.inr ⟨hd,Ce,rfl⟩⟩)
           exact q σ _ _ pk.1 pk.2
          ·cases ep
         ·cases ep
        ·cases ep
       ·split at q
        ·rename_i hc;obtain ⟨hd,rfl,hx⟩:=hc;obtain ⟨v1,hσ1,ox⟩:=rep2.own0 hal i _ _ e2;rw [hσ] at hσ1;cases hσ1;cases x with
         | lst xs=>
          unfold DH at ep;cases k with
          | int n=>
           dsimp only at ep;split at ep
           ·rename_i j ej;cases ep;rw [Own] at o2;obtain ⟨rfl,_⟩:=o2;obtain ⟨a,ws,fc,rfl,ha,hfp,nac,hol⟩:=ox.list hd;have hai:a∈fps2 i:=by rw [hfp];exact Bf
            have oy:=k2.stay rep1 hv o1 t1.ndj;have n2:∀ b∈fp,¬ Zf M fps2 b:=λ b hb z=>by
             rcases z with z | ⟨j,z⟩
             ·exact t1.ndj b hb (.inl z)
             ·rcases k2.sub j b z with z | z
              ·exact t1.ndj b hb (.inr ⟨j,z⟩)
              ·obtain ⟨o,ho⟩:=Own.lsts y _ w fp o1 b hb;rw [ho] at z;cases z
            have hafp:a∉fp:=λ z=>n2 a z (.inr ⟨i,hai⟩);have hst:∃ j,a∈fps j:=⟨i,by have:=(k1.trans k2).same i hm;rw [<- this];exact hai⟩
            have rw2:Rep (M.plus fp) ρ2 σ H2 fps2:=rep.wide (λ i j hj=>by rw [hal i] at hj;cases hj) (k1.trans k2) (g1.trans g2) rep2 λ b hb=>⟨t1.new b hb,by obtain ⟨o,ho⟩:=Own.lsts y _ w fp oy b hb;rw [ho];simp,n2 b hb⟩
            have h2:∀ b∈fp,M.H₀ b=none/\¬ M.Zo b:=λ b hb=>⟨rep.h0' (t1.new b hb),λ z=>n2 b hb (.inl z)⟩
            let Z:Addr->Prop:=Zf M (λ j=>if j=i then [a] else fps2 j);have zsub:∀ b,Z b->Zf M fps2 b:=λ b h=>by
             rcases h with z | ⟨j,z⟩
             ·exact .inl z
             ·by_cases ej:j=i
              ·simp only [if_pos ej] at z;rw [ja6.mp z];exact .inr ⟨i,hai⟩
              ·simp only [if_neg ej] at z;exact .inr ⟨j,z⟩
            have nf:∀ b∈fc,¬ Z b:=λ b hb z=>by
             have hbi:b∈fps2 i:=by rw [hfp];exact AQ _ hb
             rcases z with z | ⟨j,z⟩
             ·exact rep2.zo i b hbi z
             ·by_cases ej:j=i
              ·simp only [if_pos ej] at z;rw [ja6.mp z] at hb;exact nac hb
              ·simp only [if_neg ej] at z;exact rep2.dj i j (BG ej) b hbi z
            have za:Z a:=.inr ⟨i,by simp⟩;have u1:=OwnL.freeze (Z':=Z) zsub xs _ ws fc nf hol;have u2:=Own.freeze (Z':=Z) (λ b _=>trivial) y _ w fp (λ b hb z=>n2 b hb (zsub b z)) (Own.full (Z':=λ _=>True) y w fp oy);obtain ⟨f',hs',u3⟩:=(u1.at za ⟨.l ws,ha⟩ (λ z=>nomatch z) λ _ _ n=>n).set (u2.at (o:=.lst (ws.set j w)) za ⟨.l ws,ha⟩ (λ z=>nomatch z) λ _ _ n=>n) j;obtain rfl:f'=[]:=jk4.mpr λ b hb=>nomatch hs' b hb
            refine .inl ⟨a,ws,n,j,rfl,rfl,ha,by rw [hol.length];exact ej,?_⟩;refine q σ _ _ ((k1.ks.trans k2.ks).write (i:=i) (f':=[]) (fp:=fp) hst λ b hb=>?_) (rw2.rewrite hal e2 hσ ha hfp (λ z=>nomatch z) (λ b hb=>nomatch hb) (by decide) (λ h=>by rw [hm] at h;cases h) h2 ?_)
            ·rcases jb2.mp hb with z | z
             ·exact .inl (by rw [z];exact hai)
             ·cases z
            ·rw [JL];exact u3
           ·cases ep
          | _=>cases ep
         | _=>cases hx
        ·exact q.elim
def OV (i j:Nat) (f:Fx) (vs:List Nat):Fs:=λ ρ=>match f ρ with
 | .ok (y,e,ρ1)=>(match (Bg e vs ρ1)[i]? with
  | some (some (.lst xs,d))=>(match (Bg e vs ρ1)[j]? with
   | some (some (.int k,_))=>(match Dj xs.length k with
    | some n=>if d≠0 then .nx ((Bg e vs ρ1).set i (some (.lst (xs.set n y),1))) else .no
    | none=>.no)
   | _=>.no)
  | _=>.no)
 | .exc c=>.exc c
 | .no=>.no
theorem Zn {f:Fx}{i j:Nat} (hal:∀ i,M.al i=[]) (hv:∀ i∈vs,M.Ms i=false) (hm:M.Ms i=false) (hq:tS M (OV i j f vs) D σ H):C9 (tE M f vs) (Gr (Cw i) (Cw j) Mx) D σ H:=by
 obtain ⟨ρ,fps,rep,q⟩:=hq;refine ⟨ρ,fps,rep,?_⟩;unfold OV at q;cases ef:f ρ with
 | no=>rw [ef] at q;exact q
 | exc c=>rw [ef] at q;exact λ H' fps' k=>q _ H' fps' k.ks
 | ok p=>
  obtain ⟨y,e,ρ1⟩:=p;rw [ef] at q;intro w H1 fps1 fp k1 g1 rep1 o1 t1;dsimp only at q;split at q
  ·rename_i xs d es;split at q
   ·rename_i k dk ek;split at q
    ·rename_i n en;split at q
     ·rename_i hd;obtain ⟨fps2,k2,r2,o2,n2,s2,h2⟩:=Rep.behind rep k1 g1 rep1 o1 t1 hal hv;obtain ⟨v',hσ,ol⟩:=r2.own0 hal i _ _ es;obtain ⟨a,ws,fc,rfl,ha,hfp,nac,hol⟩:=ol.list hd;obtain ⟨vk,hσk,ok⟩:=r2.own0 hal j _ _ ek;rw [Own] at ok;obtain ⟨rfl,_⟩:=ok;have hai:a∈fps2 i:=by rw [hfp];exact Bf
      have hafp:a∉fp:=λ z=>n2 a z (.inr ⟨i,hai⟩);have hst:∃ j,a∈fps j:=⟨i,by have:=s2 i a hai;rw [k1.same i hm] at this;exact this⟩
      refine ⟨_,hσ,_,hσk,a,ws,k,n,rfl,rfl,ha,by rw [hol.length];exact en,?_⟩;refine q σ _ _ (k2.write (i:=i) (f':=[]) (fp:=fp) hst λ b hb=>?_) (r2.rewrite hal es hσ ha hfp (λ z=>nomatch z) (λ b hb=>nomatch hb) (by decide) (λ h=>by rw [hm] at h;cases h) h2 ?_)
      ·rcases jb2.mp hb with z | z
       ·exact .inl (by rw [z];exact hai)
       ·cases z
      ·rw [JL];have zsub:∀ b,Zf M (λ j=>if j=i then [a] else fps2 j) b->Zf (M.plus fp) fps2 b:=λ b h=>by
        rcases h with z | ⟨j,z⟩
        ·exact .inl (.inl z)
        ·by_cases ej:j=i
         ·simp only [if_pos ej] at z;rw [ja6.mp z];exact .inr ⟨i,hai⟩
         ·simp only [if_neg ej] at z;exact .inr ⟨j,z⟩
       have nf:∀ b∈fc,¬ Zf M (λ j=>if j=i then [a] else fps2 j) b:=λ b hb z=>by
        have hbi:b∈fps2 i:=by rw [hfp];exact AQ _ hb
        rcases z with z | ⟨j,z⟩
        ·exact r2.zo i b hbi (.inl z)
        ·by_cases ej:j=i
         ·simp only [if_pos ej] at z;rw [ja6.mp z] at hb;exact nac hb
         ·simp only [if_neg ej] at z;exact r2.dj i j (BG ej) b hbi z
       have nfp:∀ b∈fp,¬ Zf M (λ j=>if j=i then [a] else fps2 j) b:=λ b hb z=>by
        rcases z with z | ⟨j,z⟩
        ·exact n2 b hb (.inl z)
        ·by_cases ej:j=i
         ·simp only [if_pos ej] at z;rw [ja6.mp z] at hb;exact hafp hb
         ·simp only [if_neg ej] at z;exact n2 b hb (.inr ⟨j,z⟩)
       have za:Zf M (λ j=>if j=i then [a] else fps2 j) a:=.inr ⟨i,by simp⟩;have u1:=(OwnL.freeze (Z':=Zf M (λ j=>if j=i then [a] else fps2 j)) zsub xs _ ws fc nf hol)
       have u2:=(Own.freeze (Z':=Zf M (λ j=>if j=i then [a] else fps2 j)) (λ b h=>by
        rcases h with z | ⟨j,z⟩
        ·exact .inl (.inl z)
        ·by_cases ej:j=i
         ·simp only [if_pos ej] at z;rw [ja6.mp z];exact .inl (.inr ⟨i,hai⟩)
         ·simp only [if_neg ej] at z;exact .inl (.inr ⟨j,z⟩)) y _ w fp nfp o2)
       obtain ⟨f',hs',u3⟩:=(u1.at za ⟨.l ws,ha⟩ (λ z=>nomatch z) λ _ _ n=>n).set (u2.at (o:=.lst (ws.set n w)) za ⟨.l ws,ha⟩ (λ z=>nomatch z) λ _ _ n=>n) n;obtain rfl:f'=[]:=jk4.mpr λ b hb=>nomatch hs' b hb
       exact u3
     ·exact q.elim
    ·exact q.elim
   ·exact q.elim
  ·exact q.elim
end
section
variable {X:Cx}{W:St->Nat->Hp->Prop}
def qk (hr:NM X W) (t:DB X.K=true) (hcalm:X.calm=true) {c:Nat}{C:Addr}{x m:Str}{np cpos pos p:Pos}{j:_} (e:Cb X.K c=some C) (hg:Gl X x) (hm:X.mg x=some (.ref C)) (hdb:(x == ("__debug__" : Str))=false):
  PS X (.Raise (some (.Call (.Name x np) [.Constant (.str m) j p] [] cpos)) none pos) (λ D σ H=>W σ c H):=by
 intro pins s σ H D I h;obtain ⟨bm,N,nm,q,bs,hdct,sn,sub,ab,col,dd,k0,k1,k2,k3,k5,mN,hC,hN,hni,T,_⟩:=(OY I.ok.mod.kin t e).obj;have FB:=PySem.F.excBase_ValueError;have he:A6 [Expr.Constant (.str m) j p] X.env=(false,eval (.Constant (.str m) j p) X.env)::A6 [] X.env:=rfl;refine wpAny_Raise_call_subU (C:=C) (nm:=nm) (q:=q) (N:=N) (bs:=bs) (bm:=bm) (hdct:=hdct) (sn:=sn) (sub:=sub) (ab:=ab) (col:=col) (dd:=dd) (k0:=k0) (k1:=k1) (k2:=k2) (k3:=k3) (k5:=k5)
  FB (show bmV.contains (.type "ValueError")=true by decide +kernel) FB (mN:=mN) (T.hasType FB.hasBase) (I.ok.hd hcalm) rfl hni (L4 I hg hm ⟨rfl,?_⟩ hdb)
 rw [he];refine Calls.evalArgs_plain (Ef ((DL Te Fl (by rfl)) cpos pins s σ H (λ vs H'=>H'=H/\vs.length=1) I ⟨rfl,rfl⟩) (λ us s2 hu=>?_) λ _ _ y=>y);obtain ⟨vs,H2,I2,rv,eH,hl⟩:=hu;subst eH;refine ⟨rfl,?_,I2.bk _ _ hC,hN.keeps I2.bk,T.keeps I2.bk,λ h' a hx=>hr pins σ H2 s2 c C a h' us I2 e hx h⟩;show us.length<=Am;rw [<- rv.length,hl];decide
end
section
variable {X:Cx}{pins pins1:List (Addr×Obj)}{σ:St}{H:Hp}{s:Ai}{e:Ae->Ai->Prop}
def Cx.Ok.wish2 {p:List (Addr×Obj)} (o:X.Ok):L2.Cx.Ok { X with pn:=p,xe:=e }:=⟨o.mod,o.kind,o.glob,o.blt,o.above,o.inj,o.has,o.cab,o.hd,o.frames,o.stk,o.exf,o.bs,o.bsz,o.noex,o.exfs,o.funs,o.frf⟩
def Inv.into (I:L2.Inv X pins σ H s):L2.Inv { X with pn:=X.pn++pins,xe:=e } [] σ H s:=
 ⟨Cx.Ok.wish2 I.ok,I.os,I.bare,I.base,I.loc,I.cell,I.free,I.freeC,λ p hp=>I.pin p (by simpa using hp),I.hok,I.len⟩
def Inv.outof (ok:X.Ok) (I:L2.Inv { X with pn:=X.pn++pins,xe:=e } pins1 σ H s):L2.Inv X pins σ H s:=
 ⟨ok,I.os,I.bare,I.base,I.loc,I.cell,I.free,I.freeC,λ p hp=>I.pin p (BM _ hp),I.hok,I.len⟩
abbrev Cx.inh (X:Cx) (v:Ae):Cx:={ X with A:=X.A.mark (some v),calm:=false,xe:=λ _ _=>False }
def Inv.inh (v:Ae) (I:L2.Inv X pins σ H s):L2.Inv (Cx.inh X v) pins σ H s:=
 ⟨⟨I.ok.mod,I.ok.kind,I.ok.glob,I.ok.blt,I.ok.above,I.ok.inj,I.ok.has,I.ok.cab,(λ h=>nomatch h),I.ok.frames,I.ok.stk,I.ok.exf,I.ok.bs,I.ok.bsz,I.ok.noex,I.ok.exfs,I.ok.funs,I.ok.frf⟩,I.os,I.bare,I.base,I.loc,I.cell,I.free,I.freeC,I.pin,I.hok,I.len⟩
def Inv.outh {v:Ae} (ok:X.Ok) (I:L2.Inv (Cx.inh X v) pins σ H s):L2.Inv X pins σ H s:=
 ⟨ok,I.os,I.bare,I.base,I.loc,I.cell,I.free,I.freeC,I.pin,I.hok,I.len⟩
def Yz {M:Model}{A:AU}{E:Ae->Ai->Prop}{i:Nat}{x:Str}{pos:Pos}{Q:Unit->Ai->Prop} (I:L2.Inv X pins σ H s) (hN:X.N.Nodup) (hi:X.N[i]?=some x) (hk:X.env.kindOf x=some .local)
  (h:∀ s',L2.Inv X pins (σ.set i none) H s'->Q () s'):An M A (do bindName X.env x .none;unbindBehindTheSuite X.env x pos) Q E s:=by
 obtain ⟨m,hn,hl⟩:=id I.loc;have hcls:(X.env.scope.kind == .class || (X.env.scope.kind == .module && X.env.locals != X.env.globals))=false:=by rw [I.ok.kind];rfl
 have hiσ:i < σ.length:=by rw [I.len];exact (ja3.mp hi).1
 have cne:=I.cne;refine wpAny_nameGoes_keeps hk hn hcls λ h' v hn' hs=>?_;have tracked:HOk X.prog X.w H h':=λ b ob e=>by
  refine (I.hok b ob e).stay (λ c w' hc q=>(hs.2 c ?_).trans q) (λ _ q=>q) λ _ _ q=>q;rintro rfl;rcases hc with rfl | hc
  ·rw [I.free] at e;cases e
  ·rw [I.free] at hc;cases hc
 refine h _ ⟨I.ok,I.os,I.bare,⟨λ b o e n hb hx=>?_,λ b o e n hb hx=>?_,I.base.free,λ b o e hx=>?_,I.base.tups,I.base.frzs,I.base.tbls⟩,⟨_,hn',λ j y v' e1 e2 e3=>?_⟩,λ y c e=>?_,I.free,I.freeC,λ p hp=>?_,tracked,by simpa using I.len⟩
 ·exact (hs.2 b (Bz (Bv (AJ e) I.ok.above))).trans (I.base.keep b o e n hb hx)
 ·obtain ⟨sl,e1⟩:=I.base.slot b o e n hb hx;exact ⟨sl,(hs.2 b (Bz (Bv (AJ e) I.ok.above))).trans e1⟩
 ·obtain ⟨o',e1⟩:=I.base.there b o e hx;exact ⟨o',(hs.2 b (Bz (Bv (AJ e) I.ok.above))).trans e1⟩
 ·by_cases hj:j=i
  ·subst hj;rw [CC hiσ] at e2;cases e2
  ·rw [BL (BG hj)] at e2;obtain ⟨u',r',q⟩:=hl j y v' e1 e2 e3;refine ⟨u',r',?_⟩;rcases q with ⟨k,e⟩ | ⟨k,c,e,z⟩
   ·refine .inl ⟨k,?_⟩
    have:y≠x:=λ e=>hj (N6 hN e1 (e ▸ hi))
    simp [this,e]
   ·exact .inr ⟨k,c,e,z.sameBut hs (cne y c e)⟩
 ·obtain ⟨w',z⟩:=I.cell y c e;exact ⟨w',z.sameBut hs (cne y c e)⟩
 ·obtain ⟨e,n,ne,nf,d⟩:=I.pin p hp;exact ⟨(hs.2 p.1 ne).trans e,n,ne,nf,d⟩
end
section
variable {M:Model}{A:AU}{E:Ae->Ai->Prop}{K:Frag}
def xa {s:Ai}{a C D:Addr}{c d:Nat}{Q:Bool->Ai->Prop} (xc:XC s.heap K c C) (xd:XC s.heap K d D) (ed:Cb K d=some D) (he:Ez a C s.heap) (hq:Q (Bk c d) s):An M A (excMatches (.ref a) (.ref D)) Q E s:=by
 obtain ⟨bm,N,nm,q,bs,hdct,sn,sub,ab,col,dd,k0,k1,k2,k3,k5,mN,hC,hN,hni,T,hin⟩:=xc.obj;obtain ⟨bm',N',nm',q',bs',hdct',sn',sub',ab',col',dd',k0',k1',k2',k3',k5',mN',hD,hN',hni',T',_⟩:=xd.obj;obtain ⟨oe,vs,hoe,hcls,hdt⟩:=he;have hcB:(Value.ref D::bm').contains (.type "BaseException")=true:=by rw [List.contains_cons,T'.hasType PySem.F.excBase_ValueError.hasBase,UC]
 have hcC:=hin d D ed;have f:=tc_notTuple;obtain ⟨h,g,dr,t,os⟩:=s;unfold excMatches
 repeat (first | (with_reducible refine Ki hoe ?_;rw [hcls]) | with_reducible refine Ki hD ?_ | (with_reducible refine wpAny_isSubtype_exc hD ?_;rw [hcB]) | (with_reducible refine wpAny_isSubtype_exc hC ?_;rw [hcC]) | wp_step)
 cases hb:Bk c d <;> (rw [hb] at hq;wp_walk;exact hq)
end
section
variable {X:Cx}{pins:List (Addr×Obj)}{σ:St}{H H1:Hp}{s:Ai}{B:Heap}{a C:Addr}{a0:Ae}{c:Nat}
def RG {s':Ai}{h:Heap} (I:L2.Inv X pins σ H s) (un:Un (Cn X.stack) [] H H1 s.heap s'.heap) (hok:HOk X.prog X.w H1 s'.heap) (fl:LQ B X.stack a (.ref C) a0 h) (up:s'.heap.UpToSlots h)
  (i1:∀ b o,s'.heap.get? b=some o->H1 b≠none->B.get? b=some o) (i2:∀ b o,s.heap.get? b=some o->H b=none->b∉Cn X.stack->B.get? b=some o) (ha:H1 a=none) (hn:s.heap.get? a=none) (hd:∀ b,H b≠none->H1 b≠none) (ho:s'.os=s.os) (hg:E4 s'.gens):
  L2.Inv X pins σ (As H1 a (.ext (Ez a C))) { s' with heap:=h }/\Ez a C h:=by
 have ex:Ez a C h:=by
  obtain ⟨oe,vs,e1,e2,e3,_⟩:=fl.first;exact ⟨oe,vs,e1,e2,e3⟩
 have Ei:∀ b v,H1 b≠none->s'.heap.get? b=some v->h.get? b=some v:=λ b v hb e=>fl.1 b v (i1 b v e hb);have nea:∀ b o,s.heap.get? b=some o->b≠a:=λ b o e z=>by rw [z,hn] at e;cases e
 have nea1:∀ b o,H1 b=some o->b≠a:=λ b o e z=>by rw [z,ha] at e;cases e
 have fr:∀ b o,s.heap.get? b=some o->H b=none->b∈Cn X.stack->∃ sl,h.get? b=some { o with slots:=sl }:=λ b o e n hb=>by
  obtain ⟨sl,e2⟩:=un.any e n (by simp);obtain ⟨_,o',ho',hnf⟩:=I.stack.mem hb;rw [e] at ho';cases ho';obtain ⟨sl2,e3⟩:=up b _ e2 hnf;exact ⟨sl2,e3⟩
 refine ⟨I.call' (s':={ s' with heap:=h }) (ch:=[]) ho ⟨λ b o e n hb _=>fl.1 b o (i2 b o e n hb),λ b o e n hb _=>fr b o e n hb,λ b o e n _=>?_,λ b o e _=>?_,λ b xs e=>?_,λ b o xs e=>?_,λ b ps e=>?_⟩ (λ b o e=>?_) hg (λ b z=>absurd z (by simp)),ex⟩
 ·rw [AN (nea b o e)];exact un.free b o e n (by simp)
 ·by_cases h0:H b=none
  ·by_cases hb:b∈Cn X.stack
   ·obtain ⟨sl,e2⟩:=fr b o e h0 hb;exact ⟨_,e2⟩
   ·exact ⟨o,fl.1 b o (i2 b o e h0 hb)⟩
  ·obtain ⟨o2,e2⟩:=un.there b o e (by simp);exact ⟨o2,Ei b o2 (hd b h0) e2⟩
 ·have:=un.tups b xs e
  rw [AN (nea1 b _ this)];exact this
 ·have:=un.frzs b o xs e
  rw [AN (nea1 b _ this)];exact this
 ·obtain ⟨m,e1⟩:=un.tbls b ps e;exact ⟨m,by rw [AN (nea1 b _ e1)];exact e1⟩
 ·by_cases eb:b=a
  ·subst eb;rw [Ce] at e;cases e;refine ⟨ex,?_,λ h1 h2 x k=>?_⟩
   ·obtain ⟨o,_,e1,_⟩:=ex;exact ⟨o,e1⟩
   ·obtain ⟨o,vs,e1,e2⟩:=x;exact ⟨o,vs,k o e1,e2⟩
  ·rw [AN eb] at e;refine (hok b o e).stay (λ d v hd q=>Ei d v ?_ q) (λ d q=>?_) λ d xs q=>?_
   ·rcases hd with rfl | hd
    ·rw [e];simp
    ·rw [hd];simp
   ·rw [AN (nea1 d _ q)];exact q
   ·rw [AN (nea1 d _ q)];exact q
def WT (K:Frag) (d i j:Nat) (D:Ends) (σ₀:St):St->Nat->Hp->Prop:=λ σ c H'=>σ=σ₀/\Bk c d=true/\∀ a C,H' a=none->Cb K c=some C->D.nx (((σ.set j (some (.ref a))).set i (some (.ref a))).set j none) (As H' a (.ext (Ez a C)))
def ql {tb:(St->Nat->Hp->Prop)->TS}{body:List Stmt}{y n x:Str}{np hpos px pn pa pos:Pos}{d:Nat}{Dd:Addr}{i j:Nat} (t:DB X.K=true) (hst:X.stack=X.env::X.outer) (hfr:X.env.frame=some X.env.locals) (hN:X.N.Nodup) (hi:X.N[i]?=some x) (hj:X.N[j]?=some n) (hij:i≠j)
  (hx:DJ X.env.scope x) (hn:X.env.kindOf n=some .local) (hfn:∀ z,X.fn z=true) (ed:Cb X.K d=some Dd) (hg:Gl X y) (hm:X.mg y=some (.ref Dd)) (hdb:(y == ("__debug__" : Str))=false) (hdn:(n == ("__debug__" : Str))=false) (hcn:(n == ("__classdict__" : Str))=false)
  (hb:∀ pn' xe' W',JR (AS X.prog X.w X.K) { X with pn:=pn',xe:=xe' } W'->Jc (Ap X.prog X.w) X.A X.env xe'->D6 { X with pn:=pn',xe:=xe' } body (tb W')):
  PS X (.Try body [.ExceptHandler (some (.Name y np)) (some n) [.Assign [.Name x px] (.Name n pn) pa] hpos] [] [] pos) (λ D σ H=>tb (WT X.K d i j D σ) D σ H):=by
 intro pins s σ H D I h;refine wpAny_Try_except (Ef (hb (X.pn++pins) _ (WT X.K d i j D σ) ?_ PassesOwn.looking [] s σ H D (Inv.into I) h) (λ f s1 hs=>?_) λ e s1 he=>he)
 ·
  intro pins1 σ1 H1 s1 e s' I1 hx';obtain ⟨a,C,c,H',B,a0,rfl,hc,ho,hg',un,hok,ha,hn',fl,i1,i2,hd,hE⟩:=hx';obtain ⟨rfl,hcd,hD⟩:WT X.K d i j D σ σ1 c H':=hE;have I2:L2.Inv X pins σ1 H1 s1:=Inv.outof I.ok I1;have fl':LQ B (X.env::X.outer) a (.ref C) a0 s'.heap:=by rw [<- hst];exact fl
  refine wpAny_looks_onW (by rw [I.ok.frames,hst]) hfr fl' λ h4 held4 up4=>?_;refine wpAny_landsW held4 λ h5 fl5 up5=>?_;have up45:=up4.trans up5;obtain ⟨I5,x5⟩:=RG I2 un hok (by rw [hst];exact fl5) up45 i1 i2 ha hn' hd ho hg';have I5':=Inv.inh (.ref a) I5;refine wpAny_handleBy_cons (codeAny_handlers_test (L4 I5' hg hm ?_ hdb)) (by intro q;cases q);refine xa (OY I5.kIn t hc) (OY I5.kIn t ed) ed x5 ?_;rw [hcd];refine codeAny_handlers_suite_as ?_;refine lands_againW fl5 λ h6 fl6 up6=>?_;obtain ⟨I6,x6⟩:=RG I2 un hok (by rw [hst];exact fl6) (up45.trans up6) i1 i2 ha hn' hd ho hg';refine Lo (v:=.ref a) I6 hN hj (.inl hn) rfl (λ s7 I7=>?_) (.inl (hfn n));have hjl:j < σ1.length:=by rw [I2.len];exact (ja3.mp hj).1
  have pse:PS (Cx.inh X (.ref a)) (.Assign [.Name x px] (.Name n pn) pa) (C9 (Cw j) (E1 i)):=LD hN hi hx (To hj (.inl hn) hdn hcn) rfl (.inl (hfn x));have run:=(J9 pse) pins s7 _ _ { nx:=λ σ' H''=>σ'=(σ1.set j (some (.ref a))).set i (some (.ref a))/\H''=As H' a (.ext (Ez a C)),rt:=λ _ _=>False } (Inv.inh (.ref a) I7) ⟨.ref a,by rw [CC hjl],rfl,rfl⟩;refine Ef run (λ f s8 hs=>?_) λ _ _ z=>z.elim;cases f with
  | next=>
   obtain ⟨σ',H'',I8,rfl,rfl⟩:=hs;refine Yz (Inv.outh I.ok I8) hN hj hn λ s9 I9=>?_;exact ⟨_,_,I9,hD a C ha hc⟩
  | brk=>obtain ⟨_,_,_,z⟩:=hs;exact z.elim
  | cont=>obtain ⟨_,_,_,z⟩:=hs;exact z.elim
  | ret u=>obtain ⟨_,_,_,_,_,z⟩:=hs;exact z.elim
 ·cases f with
  | next=>
   obtain ⟨σ',H',I',q⟩:=hs;exact Kh ⟨σ',H',Inv.outof I.ok I',q⟩
  | brk=>
   obtain ⟨σ',H',I',q⟩:=hs;exact ⟨σ',H',Inv.outof I.ok I',q⟩
  | cont=>
   obtain ⟨σ',H',I',q⟩:=hs;exact ⟨σ',H',Inv.outof I.ok I',q⟩
  | ret u=>
   obtain ⟨v,σ',H',I',r,q⟩:=hs;exact ⟨v,σ',H',Inv.outof I.ok I',r,q⟩
end
section
variable {is:List Nat}{X:Cx}{M:Fm}{ρ ρ':Ah}{σ σ':St}{H H' H'':Hp}{fps fps' fps'':AF}{vs vs':List Nat}{D:Ends}
def Ek (c:Nat):Fs:=λ _=>.exc c
def XF {c:Nat} (hq:tS M (Ek c) D σ H):M.W σ c H:=by
 obtain ⟨ρ,fps,rep,q⟩:=hq;exact q σ H fps KS.refl
def RrOk (M:Fm) (D:Ends) (σ:St) (H:Hp) (fps:AF):Rs->Prop
 | .exc c=>∀ H' fps',KD M H fps H' fps'->M.W σ c H'
 | .nx ρ'=>RsOk M D H fps (.nx ρ')
 | .rt x d ρ'=>RsOk M D H fps (.rt x d ρ')
 | _=>False
def tR (M:Fm) (f:Fs):TS:=λ D σ H=>∃ ρ fps,Rep M ρ σ H fps/\RrOk M D σ H fps (f ρ)
theorem RrOk.from {r:Rs} (k1:KD M H fps H' fps') (q:RrOk M D σ H fps r):RrOk M D σ H' fps' r:=by
 cases r with
 | no=>exact q
 | exc c=>exact λ H2 fps2 k=>q H2 fps2 (k1.trans k)
 | rt x d ρ2=>exact RsOk.from (r:=.rt x d ρ2) k1.ks q
 | nx ρ2=>exact RsOk.from (r:=.nx ρ2) k1.ks q
 | bk ρ2=>exact q
 | ct ρ2=>exact q
theorem Zm {f:Fx} (hq:tR M (Dk f) D σ H):M5 (tE M f vs) D σ H:=by
 obtain ⟨ρ,fps,rep,q⟩:=hq;cases ef:f ρ with
 | ok p=>
  refine Ui (M:=M) ⟨ρ,fps,rep,?_⟩;unfold Dk at q ⊢;rw [ef] at q ⊢;exact q
 | no=>
  unfold Dk at q;rw [ef] at q;exact q.elim
 | exc c=>
  unfold Dk at q;rw [ef] at q;refine ⟨ρ,fps,rep,?_⟩;rw [ef];exact q
theorem XB {f:Fx}{i:Nat}{ms:Bool} (hal:∀ i,M.al i=[]) (hv:∀ i∈vs,M.Ms i=false) (hms:M.Ms i=ms) (hio:M.Fre i) (hq:tR M (Af ms i f vs) D σ H):C9 (tE M f vs) (E1 i) D σ H:=by
 obtain ⟨ρ,fps,rep,q⟩:=hq;cases ef:f ρ with
 | ok p=>
  refine Pp hal hv hms hio ⟨ρ,fps,rep,?_⟩;cases er:Af ms i f vs ρ with
  | nx ρ'=>rw [er] at q;exact q
  | rt x d ρ'=>rw [er] at q;exact q
  | exc c=>
   obtain ⟨x,d,ρ1⟩:=p;unfold Af at er;rw [ef] at er;dsimp only at er;split at er <;> cases er
  | no=>rw [er] at q;exact q.elim
  | bk ρ'=>rw [er] at q;exact q.elim
  | ct ρ'=>rw [er] at q;exact q.elim
 | no=>
  unfold Af at q;rw [ef] at q;exact q.elim
 | exc c=>
  unfold Af at q;rw [ef] at q;refine ⟨ρ,fps,rep,?_⟩;rw [ef];exact q
theorem Wj {c:Fb}{f g:Fs} (hq:tR M (AW c f g) D σ H):HY (tT M c) (tR M f) (tR M g) D σ H:=by
 obtain ⟨ρ,fps,rep,q⟩:=hq;refine ⟨ρ,fps,rep,?_⟩;unfold AW at q;cases ec:c ρ with
 | no=>rw [ec] at q;exact q
 | exc c=>rw [ec] at q;exact q
 | ok p=>
  obtain ⟨b,ρ1⟩:=p;rw [ec] at q;intro H1 fps1 k1 g1 rep1;dsimp only at q;cases b with
  | true=>exact ⟨ρ1,fps1,rep1,RrOk.from k1 q⟩
  | false=>exact ⟨ρ1,fps1,rep1,RrOk.from k1 q⟩
def zC (ms:List Nat) (ρ:Ah):Bool:=ms.all λ k=>match ρ[k]? with
 | some (some (.non,_))=>true
 | some (some _)=>false
 | _=>true
def DG (d i j:Nat) (ms:List Nat) (b:Fs):Fs:=λ ρ=>match b ρ with
 | .nx ρ'=>.nx ρ'
 | .rt y e ρ'=>.rt y e ρ'
 | .exc c=>if Bk c d=true/\i < ρ.length/\zC ms ρ=true then .nx ((ρ.set i (some (.exn c,om))).set j none) else .no
 | _=>.no
def Fm.want (M:Fm) (W':St->Nat->Hp->Prop):Fm:={ M with W:=W' }
def Rep.want {W':St->Nat->Hp->Prop} (r:Rep M ρ σ H fps):Rep (M.want W') ρ σ H fps:=⟨r.own,r.non,r.dj,r.zo,r.fr,r.zd,r.len,r.msf,r.h0,r.iov⟩
def Rep.unwant {W':St->Nat->Hp->Prop} (r:Rep (M.want W') ρ σ H fps):Rep M ρ σ H fps:=⟨r.own,r.non,r.dj,r.zo,r.fr,r.zd,r.len,r.msf,r.h0,r.iov⟩
def Rep.gone {j:Nat} (hal:∀ i,M.al i=[]) (r:Rep M ρ σ H fps) (hio:M.Fre j):Rep M (ρ.set j none) (σ.set j none) H (λ k=>if k=j then [] else fps k):=by
 have sub:∀ k,∀ a∈(if k=j then [] else fps k),a∈fps k:=λ k a h=>by
  by_cases e:k=j
  ·rw [if_pos e] at h;cases h
  ·rw [if_neg e] at h;exact h
 have get:∀ k p,(ρ.set j none)[k]?=some (some p)->k≠j/\ρ[k]?=some (some p):=λ k p e=>by
  by_cases ek:k=j
  ·subst ek;by_cases hl:k < ρ.length
   ·rw [CC hl] at e;cases e
   ·rw [List.set_eq_of_length_le (by omega)] at e;rw [KP (by omega)] at e;cases e
  ·rw [BL (BG ek)] at e;exact ⟨ek,e⟩
 refine ⟨λ k x d e=>?_,λ k h=>?_,λ k l hkl a ha hb=>r.dj k l hkl a (sub k a ha) (sub l a hb),λ k a ha=>r.zo k a (sub k a ha),λ k hk a ha=>r.fr k hk a (sub k a ha),r.zd,by rw [DI,DI];exact r.len,λ k x d hk e=>r.msf k x d hk (get k _ e).2,r.h0,?_⟩
 ·obtain ⟨ek,e'⟩:=get k _ e;obtain ⟨v,hv,o⟩:=r.own k x d e';refine ⟨v,by rw [BL (BG ek)];exact hv,?_⟩;rw [if_neg ek];refine o.weak λ a h=>?_;rcases h with h | ⟨l,nl,h⟩
  ·exact .inl h
  ·exact .inr ⟨l,nl,sub l a h⟩
 ·by_cases ek:k=j
  ·rw [if_pos ek]
  ·rw [if_neg ek];exact r.non k λ p e=>h p (by rw [BL (BG ek)];exact e)
 ·refine ⟨λ v hv=>?_,λ p hp=>?_⟩
  ·have:=r.iov.1 v hv
   have h0:=hio.1 (by rw [hv];simp);rw [BL h0];exact this
  ·rw [BL (hio.2 p hp).symm];exact r.iov.2 p hp
theorem Ys {d i j:Nat}{ms:List Nat}{b:Fs} (hal:∀ i,M.al i=[]) (hms:∀ i,M.Ms i=ms.contains i) (hmi:M.Ms i=false) (hij:i≠j) (hoi:M.Fre i) (hoj:M.Fre j) (hq:tS M (DG d i j ms b) D σ H):tR (M.want (WT M.K d i j D σ)) b D σ H:=by
 obtain ⟨ρ,fps,rep,q⟩:=hq;refine ⟨ρ,fps,rep.want,?_⟩;unfold DG at q;have ks:∀ {H':Hp}{fps':AF},KS (M.want (WT M.K d i j D σ)) H fps H' fps'->KS M H fps H' fps':=λ k=>⟨k.keep,k.dom,k.sub⟩
 cases eb:b ρ with
 | no=>rw [eb] at q;exact q
 | bk ρ'=>rw [eb] at q;exact q
 | ct ρ'=>rw [eb] at q;exact q
 | nx ρ'=>rw [eb] at q;exact λ σ' H' fps' k r=>q σ' H' fps' (ks k) r.unwant
 | rt x e ρ'=>rw [eb] at q;exact λ v σ' H' fps' fp k r o hf=>q v σ' H' fps' fp (ks k) r.unwant o hf
 | exc c=>
  rw [eb] at q;dsimp only at q;split at q
  ·rename_i hc;intro H' fps' k;refine ⟨rfl,hc.1,λ a C ha hC=>?_⟩;have kk:∀ b o,H b=some o->H' b=some o:=λ b o h=>k.keep b o h λ ⟨l,hl,hb⟩=>by
    have hl:M.Ms l=true:=hl;rw [hms l] at hl;have hm:l∈ms:=by simpa using hl
    have hc3:=jd6.mp hc.2.2 l hm;have e:fps l=[]:=by
     cases el:ρ[l]? with
     | none=>exact rep.non l λ p z=>by rw [el] at z;cases z
     | some q=>
      cases q with
      | none=>exact rep.non l λ p z=>by rw [el] at z;cases z
      | some p=>
       obtain ⟨x,dx⟩:=p;rw [el] at hc3;cases x <;> first | (obtain ⟨v,_,o⟩:=rep.own l _ _ el;rw [Own] at o;exact o.2) | exact nomatch hc3
    rw [e] at hb;cases hb
   have k2:∀ b o,H b=some o->As H' a (.ext (Ez a C)) b=some o:=λ b o h=>by
    rw [AN (IK (kk b o h) ha)];exact kk b o h
   have r2:=(rep.grow k2).bind1 (al:=[]) (i:=i) (y:=.exn c) (v:=.ref a) (by rw [Own];exact ⟨rfl,a,C,rfl,hC,Ce⟩) hc.2.1 ⟨hmi,hoi,hal i,λ l m hm=>by rw [hal l] at hm;cases hm⟩;have r3:=r2.gone (j:=j) hal hoj;have es:((σ.set j (some (V.ref a))).set i (some (V.ref a))).set j none=(σ.set i (some (V.ref a))).set j none:=by
    rw [List.set_comm _ _ (BG hij),List.set_set]
   rw [es];refine q _ _ _ ⟨λ b o h _=>k2 b o h,λ b h=>?_,λ l b hb=>?_⟩ r3
   ·cases e:H b with
    | none=>exact absurd e h
    | some o=>rw [k2 b o e];simp
   ·by_cases e1:l=j
    ·simp only [if_pos e1] at hb;cases hb
    ·simp only [if_neg e1] at hb;by_cases e2:l=i
     ·simp only [if_pos e2] at hb;cases hb
     ·simp only [if_neg e2] at hb;exact .inl ⟨l,hb⟩
  ·exact q.elim
end
def E2 (c:Fb) (b:Fs):Nat->Fs
 | 0,_=>.no
 | n + 1,ρ=>match c ρ with
  | .ok (true,ρ1)=>(match b ρ1 with
   | .nx ρ2=>E2 c b n ρ2
   | .ct ρ2=>E2 c b n ρ2
   | .bk ρ2=>.nx ρ2
   | .rt x d ρ2=>.rt x d ρ2
   | .exc e=>.exc e
   | .no=>.no)
  | .ok (false,ρ1)=>.nx ρ1
  | .exc e=>.exc e
  | .no=>.no
def LG (c:Fb) (b:Fs):Fs:=E2 c b 300
theorem qY {M:Fm}{c:Fb}{b:Fs}{n:Nat}{D:Ends}{σ:St}{H:Hp} (hq:tS M (E2 c b n) D σ H):Tg (tT M c) (tS M b) D σ H:=by
 refine ⟨λ m σ H=>tS M (E2 c b m) D σ H,⟨n,hq⟩,?_⟩;rintro m σ H ⟨ρ,fps,rep,q⟩;cases m with
 | zero=>exact q.elim
 | succ m=>
  unfold E2 at q;refine ⟨ρ,fps,rep,?_⟩;cases ec:c ρ with
  | no=>rw [ec] at q;exact q
  | exc x=>rw [ec] at q;exact λ H' fps' k=>q _ H' fps' k.ks
  | ok p=>
   obtain ⟨bb,ρ1⟩:=p;rw [ec] at q;intro H1 fps1 k1 g1 rep1;cases bb with
   | false=>
    rw [if_neg Di];exact q σ H1 fps1 k1.ks rep1
   | true=>
    rw [if_pos rfl];refine ⟨λ σ H=>tS M (E2 c b m) D σ H,λ σ' H' w=>⟨m,Fv m,w⟩,ρ1,fps1,rep1,?_⟩;dsimp only at q;have q:=RsOk.from k1.ks q;cases eb:b ρ1 with
    | no=>rw [eb] at q;exact q
    | exc x=>rw [eb] at q;exact q
    | rt x d ρ2=>rw [eb] at q;exact q
    | bk ρ2=>rw [eb] at q;exact q
    | nx ρ2=>rw [eb] at q;exact λ σ' H' fps' k r'=>⟨ρ2,fps',r',RsOk.from k q⟩
    | ct ρ2=>rw [eb] at q;exact λ σ' H' fps' k r'=>⟨ρ2,fps',r',RsOk.from k q⟩
section
variable {M:Fm}{ρ ρ':Ah}{σ σ':St}{H H':Hp}{fps fps':AF}{F F':Addr->Prop}{P P':List (Nat×V)}
end
section
variable {X:Cx}{M:Fm}{ρ:Ah}{σ:St}{H:Hp}{fps:AF}
end
def ME:Expr->Bool
 | .ListComp _ _ _ _=>true
 | .SetComp _ _ _ _=>true
 | .DictComp _ _ _ _ _=>true
 | _=>false
def VO:Expr->Bool
 | .Tuple _ _ _=>true
 | .List _ _=>true
 | _=>false
def BJ (d:Stmt->Option Fs):List Stmt->Option Fs
 | []=>some A4
 | [s]=>d s
 | s::r=>match d s,BJ d r with
  | some f,some g=>some (Ag f g)
  | _,_=>none
def Dt (S:Sx) (x:Str):Bool:=Dc S.sc x .local || Dc S.sc x .cell
def FJ (S:Sx) (i:Nat):Bool:=(decide (i≠0) || !S.msF 0) && !S.pn.contains i
def Sr (iw:Iw) (asg:PV->Ah->Option Ah) (body:Fs):Fs:=match iw with
 | .rng en fa _=>CZ en fa asg body
 | .seq f vs=>Cc f vs asg body
 | .vw v fa vs=>Jn v fa vs asg body
def RQ:Hf->Option ((Int->Int->Int)×Bool)
 | .Add=>some (λ i j=>i + j,true)
 | .Sub=>some (λ i j=>i - j,false)
 | _=>none
def JA (S:Sx):List Expr->Option (List Nat)
 | []=>some []
 | .Name x _::r=>match S.slot x,JA S r with
  | some i,some is=>if Dt S x=true/\FJ S i=true/\S.msF i=false then some (i::is) else none
  | _,_=>none
 | _=>none
def OK:Expr->Option Str
 | .Call f es ks _=>(match ET f with
  | some x=>(match es with
   | [e]=>(match e with
    | .Constant k _ _=>(match k with
     | .str _=>(match ks with
      | []=>some x
      | _::_=>none)
     | _=>none)
    | _=>none)
   | _=>none)
  | none=>none)
 | _=>none
def XJ {e:Expr}{x:Str} (h:OK e=some x):∃ np m j p cpos,e=.Call (.Name x np) [.Constant (.str m) j p] [] cpos:=by
 unfold OK at h;split at h
 ·split at h
  ·rename_i hx;obtain ⟨np,rfl⟩:=Fi hx;split at h
   ·split at h
    ·split at h
     ·split at h
      ·cases h;exact ⟨_,_,_,_,_,rfl⟩
      ·cases h
     ·cases h
    ·cases h
   ·cases h
  ·cases h
 ·cases h
def Ib:Option Expr->Option Expr->Option Str
 | some e,none=>OK e
 | _,_=>none
def YT {e c:Option Expr}{x:Str} (h:Ib e c=some x):∃ np m j p cpos,e=some (.Call (.Name x np) [.Constant (.str m) j p] [] cpos)/\c=none:=by
 unfold Ib at h;split at h
 ·obtain ⟨np,m,j,p,cpos,rfl⟩:=XJ h;exact ⟨np,m,j,p,cpos,rfl,rfl⟩
 ·cases h
def Nm:Stmt->Option (Str×Expr)
 | .Assign ts e _=>(match ts with
  | [t]=>(ET t).map λ x=>(x,e)
  | _=>none)
 | _=>none
def SA {st:Stmt}{x:Str}{e:Expr} (h:Nm st=some (x,e)):∃ px pa,st=.Assign [.Name x px] e pa:=by
 unfold Nm at h;split at h
 ·split at h
  ·obtain ⟨y,hy,e2⟩:=jb0.mp h;cases e2;obtain ⟨px,rfl⟩:=Fi hy;exact ⟨_,_,rfl⟩
  ·cases h
 ·cases h
def Qg:LU->Option (Str×Option Str×Str×Expr)
 | .ExceptHandler ty n body _=>(match ty with
  | some ty=>(match ET ty with
   | some y=>(match body with
    | [st]=>(Nm st).map λ p=>(y,n,p.1,p.2)
    | _=>none)
   | none=>none)
  | none=>none)
def W6 {hh:LU}{y x:Str}{n:Option Str}{e:Expr} (h:Qg hh=some (y,n,x,e)):∃ np px pa hpos,hh=.ExceptHandler (some (.Name y np)) n [.Assign [.Name x px] e pa] hpos:=by
 unfold Qg at h;split at h;split at h
 ·split at h
  ·rename_i hy;obtain ⟨np,rfl⟩:=Fi hy;split at h
   ·obtain ⟨p,hp,e2⟩:=jb0.mp h;cases e2;obtain ⟨px,pa,rfl⟩:=SA hp;exact ⟨_,_,_,_,rfl⟩
   ·cases h
  ·cases h
 ·cases h
def HU (hs:List LU) (o f:List Stmt):Option (Str×Option Str×Str×Expr):=match hs with
 | [h]=>(match o with
  | []=>(match f with
   | []=>Qg h
   | _::_=>none)
  | _::_=>none)
 | _=>none
def Z8 {hs:List LU}{o f:List Stmt}{y x:Str}{n:Option Str}{e:Expr} (h:HU hs o f=some (y,n,x,e)):∃ np px pa hpos,hs=[.ExceptHandler (some (.Name y np)) n [.Assign [.Name x px] e pa] hpos]/\o=[]/\f=[]:=by
 unfold HU at h;split at h
 ·split at h
  ·split at h
   ·obtain ⟨np,px,pa,hpos,rfl⟩:=W6 h;exact ⟨_,_,_,_,rfl,rfl,rfl⟩
   ·cases h
  ·cases h
 ·cases h
def LL (S:Sx) (x:Str):Option Nat:=match XN.findIdx? (·== x) with
 | some c=>if S.rz=true/\S.xc.contains c=true/\S.glob x=true then some c else none
 | none=>none
def Sx.nr (S:Sx):Sx:={ S with rz:=false }
def IB:Expr->Bool
 | .Call f _ ks _=>(ET f).isSome && ks.isEmpty
 | _=>false
def Y5 {e:Expr} (h:IB e=true):∃ x p es p1,e=.Call (.Name x p) es [] p1:=by
 unfold IB at h;split at h
 ·rw [Be,jh4,List.isEmpty_iff] at h;obtain ⟨⟨x,hx⟩,rfl⟩:=h;obtain ⟨p,rfl⟩:=Fi hx;exact ⟨_,_,_,_,rfl⟩
 ·cases h
def K2:Nat->Sx->List Stmt->Option Fs
 | 0,_,_=>none
 | n + 1,S,sts=>match sts with
  | [st]=>(match st with
   | .Expr v _=>if IB v=true then (match Bi 60 S v with
    | some (f,_)=>some (Dk f)
    | none=>none) else none
   | .If c a b _=>(match Bi 60 S c,K2 n S a,K2 n S b with
    | some (f,_),some s,some t=>some (AW (bT f) s t)
    | _,_,_=>none)
   | st=>(match Nm st with
    | some (x,e)=>(match S.slot x,Bi 60 S e with
     | some i,some (f,vs)=>if Dt S x=true/\FJ S i=true/\ME e=false then some (Af (S.msF i) i f vs) else none
     | _,_=>none)
    | none=>none))
  | _=>none
def Fd (S:Sx):Expr->Option D2
 | .Dict [] [] _=>some (Gz,[])
 | e=>Bi 60 S e
def RT (S:Sx) (x at':Str) (apos:Pos) (e:Expr) (cpos:Pos):Option Fs:=if at' = "append" then (match S.slot x,Bi 60 S e with
   | some i,some (f,vs)=>if S.msF i=false/\(apos.endLine == cpos.line)=true then some (A2 i f vs) else none
   | _,_=>none) else none
def Ws (_:Sx) (_:Expr) (_:Str) (_:Pos) (_:Expr) (_:Pos):Option Fs:=none
def KW (S:Sx):Expr->Option Fs
 | .Call fn es [] p1=>(match fn with
  | .Attribute o at' apos=>(match ET o,es with
   | some x,[e]=>RT S x at' apos e p1
   | none,[e]=>Ws S o at' apos e p1
   | _,_=>none)
  | .Name x p=>(match Bi 60 S (.Call (.Name x p) es [] p1) with
   | some (f,_)=>some (Dk f)
   | none=>none)
  | _=>none)
 | _=>none
def Pj:PV->Nat->PV->Nat->Option (PV×Nat)
 | .lst xs,d,.int i,_=>(BE xs i).map λ z=>(z,if d=om then om else dv z)
 | _,_,_,_=>none
theorem OwnL.nthF {K:Frag}{H:Hp}{Z:Addr->Prop}{d:Nat}{x:PV}:∀ {xs:List PV}{ws:List V}{f:List Addr}{j:Nat},OwnL K H Z xs d ws f->xs[j]?=some x->∃ w fx,ws[j]?=some w/\Own K H Z x d w fx/\∀ a∈fx,a∈f
 | [],_,_,_,_,e=>by cases e
 | y::ys,ws,f,j,h,e=>by
  rw [OwnL] at h;obtain ⟨v,s,f1,f2,rfl,rfl,_,h1,h2⟩:=h;cases j with
  | zero=>cases e;exact ⟨v,f1,rfl,h1,λ a ha=>BM _ ha⟩
  | succ j=>
   obtain ⟨w,fx,e1,o,s'⟩:=h2.nthF (j:=j) (by simpa using e);exact ⟨w,fx,by simpa using e1,o,λ a ha=>BI _ (s' a ha)⟩
def K6:List (PV×Nat)->Bool
 | []=>true
 | p::r=>((p.2 == om) || Jj p.1) && K6 r
def Pk (xs:List (PV×Nat)):Option (PV×Nat):=if xs.length<=Am then some (.lst (xs.map (·.1)),if K6 xs then om else 1) else none
theorem Tmps.allF {K:Frag}{H:Hp}{Z:Addr->Prop}:∀ {xs:List (PV×Nat)}{ws:List V}{fp:List Addr},Tmps K H Z xs ws fp->K6 xs=true->OwnL K H Z (xs.map (·.1)) om ws fp
 | [],_,_,h,_=>by rw [KA,OwnL];exact h
 | (x,d)::xs,ws,fp,h,ha=>by
  obtain ⟨v,s,f1,f2,e1,e2,dj,h1,h2⟩:=h;unfold K6 at ha;rw [Be,EV] at ha;rw [BQ,OwnL];rcases ha.1 with e | e
  ·have e:d=om:=eq_of_beq e;subst e;exact ⟨v,s,f1,f2,e1,e2,dj,Own.full x v f1 h1,h2.allF ha.2⟩
  ·obtain ⟨rfl,o⟩:=Own.flatA (Z':=Z) (d':=om) e h1;exact ⟨v,s,[],f2,e1,e2,dj,o,h2.allF ha.2⟩
section
variable {X:Cx}{M:Fm}{a b:Expr}{es:List Expr}{fa:Fa}{f g:Fx}{vs vs':List Nat}{pos:Pos}
def Zb (h:PA X es (tL M fa vs)):PE X (.List es pos) (tE M (Aj Pk fa) vs):=by
 refine Bn (Tc h) λ σ H Q h=>LN (r:=λ xs H1 Q=>xs.length<=Am/\∀ p,H1 p=none->Q (.ref p) (As H1 p (.lst xs))) (λ xs z c ws H fps fp Q ho tm nz zd lf=>?_) h;unfold Pk at ho;split at ho
 ·rename_i hl;refine ⟨by rw [tm.length];exact hl,λ q hq=>?_⟩;cases eo:K6 xs with
  | true=>rw [eo] at ho;cases ho;exact NC lf (tm.allF eo) hq
  | false=>rw [eo] at ho;cases ho;exact NK lf (tm.cold λ a ha z=>nz a ha z.zf) hq
 ·cases ho
def YW (hv:∀ i∈vs,M.Ms i=false) (hs:Lu b) (ha:PE X a (tE M f vs)) (hb:PE X b (tE M g vs')):PE X (.Subscript a b pos) (tE M (Ab Pj f g) (vs++vs')):=by
 refine Bn (Se SW ha hb hs) λ σ H Q h=>DO hv (λ x d y e z c v w H fps f1 f2 Q ho o1 o2 dj nz zd lf=>?_) h;unfold Pj at ho;split at ho
 ·rename_i xs i;obtain ⟨z',ez,e2⟩:=jb0.mp ho;rw [Own] at o2;by_cases hd:d=om
  ·subst hd;rw [if_pos rfl] at e2;cases e2;obtain ⟨p,ws,fc,rfl,hp,rfl,nac,ol⟩:=o1.list (by decide:om≠0);rw [VW] at ol;unfold BE at ez;cases ej:Dj xs.length i with
   | none=>rw [ej] at ez;cases ez
   | some j=>
    rw [ej] at ez;obtain ⟨w',fz,e1,ow,sb⟩:=ol.nthF ez;refine .inl ⟨p,ws,i,w',rfl,o2.1,.inl (.inl hp),?_,lf w' H fz (λ _ _ h=>h) (Own.full _ _ _ ow) λ a ha=>.inl (BM _ (AQ _ (sb a ha)))⟩;unfold BE;rw [ol.length,ej];exact e1
  ·rw [if_neg hd] at e2;cases e2;obtain ⟨p,ws,rfl,hp,ol⟩:=(cold o1 λ a ha=>nz a (BM _ ha)).coldL;obtain ⟨w',e1,ow⟩:=NO ol ez;exact .inl ⟨p,ws,i,w',rfl,o2.1,.inl (.inl hp),e1,J6 lf ow⟩
 ·cases ho
end
def Gx (S:Sx) (e:Expr):Option D2:=match e with
 | .Subscript (.List es _) b _=>(match Ea (Bi 60 S) es,Bi 60 S b with
  | some (fa,v),some (g,u)=>if L7 b=true then some (Ab Pj (Aj Pk fa) g,v++u) else none
  | _,_=>none)
 | e=>Bi 60 S e
def K4 (S:Sx) (x:Str) (k e:Expr):Option Fs:=match ET k,e with
 | some z,.Subscript (.Name _ _) _ _=>(match S.slot x,S.slot z,Bi 60 S e with
  | some i,some j,some (f,vs)=>if S.msF i=false then some (OV i j f vs) else none
  | _,_,_=>none)
 | _,_=>none
def SK (S:Sx) (t k e:Expr):Option Fs:=match t with
 | .Name x _=>(match Nd k with
  | some k=>(match S.slot x,Bi 60 S e with
    | some i,some (f,vs)=>some (Ia i k f)
    | _,_=>none)
  | none=>(match K4 S x k e with
   | some f=>some f
   | none=>(match S.slot x,Bi 60 S k,Gx S e with
    | some i,some (fk,_),some (f,_)=>if S.msF i=false/\L7 k=true then some (CN i fk f) else none
    | _,_,_=>none)))
 | _=>none
def SG (S:Sx) (t e:Expr):Option Fs:=match t with
 | .Tuple es k p=>(match JA S es,Bi 60 S e with
   | some is,some (f,vs)=>if ME e=false/\VO e=false then some (EN (BN is) f vs) else none
   | _,_=>none)
 | .Name x _=>(match S.slot x,Fd S e with
   | some i,some (f,vs)=>if Dt S x=true/\FJ S i=true then some (Af (S.msF i) i f vs) else none
   | _,_=>none)
 | .Subscript t k _=>SK S t k e
 | _=>none
def NS (d:Stmt->Option Fs) (S:Sx) (body:List Stmt):Option Fs:=BJ d body
def SI (d:Stmt->Option Fs) (S:Sx) (t it:Expr) (body:List Stmt):Option Fs:=match t with
 | .Name x p=>(match S.slot x,Et (Bi 60 S) S it,NS d S body with
    | some i,some iw,some b=>if Dt S x=true/\FJ S i=true/\S.msF i=false/\EL (.Name x p) iw=true then some (Sr iw (asgN i) b) else none
    | _,_,_=>none)
 | .Tuple es k p=>(match JA S es,Et (Bi 60 S) S it,NS d S body with
   | some is,some iw,some b=>some (Sr iw (BN is) b)
   | _,_,_=>none)
 | _=>none
def SN (S:Sx) (e:Expr):Option Fs:=match ET e with
 | some x=>(match S.slot x with
   | some i=>if S.msF i=true then none else some (E3 i)
   | none=>none)
 | none=>(match Bi 60 S e with
   | some (f,vs)=>some (A8 f)
   | none=>none)
def SH (S:Sx) (t:Expr) (op:Hf) (e:Expr):Option Fs:=match t with
 | .Name x _=>(match S.slot x,Bi 60 S e,RQ op with
  | some i,some (f,_),some (g,sd)=>if Dt S x=true/\FJ S i=true/\S.msF i=false then some (CT g sd i f) else none
  | _,_,_=>none)
 | _=>none
def Sx.bare (S:Sx):Sx:={ S with ms:=[] }
def Gu (S:Sx) (c:Expr):Option D2:=(Bi 60 S c).or (Bi 60 S.bare c)
def JD (d:Stmt->Option Fs) (S:Sx):Stmt->Option Fs
 | .Raise e c _=>(match Ib e c with
  | some x=>(match LL S x with
   | some c=>some (Ek c)
   | none=>some Kq)
  | none=>some Kq)
 | .Try body hs o fi _=>(match HU hs o fi with
  | some (y,some n,x,e)=>(match ET e,S.slot x,S.slot n,XN.findIdx? (·== y),K2 10 S.nr body with
   | some n',some i,some j,some d,some b=>if n'=n/\i≠j/\Dt S x=true/\Dc S.sc n .local=true/\FJ S i=true/\FJ S j=true/\S.msF i=false/\S.xc.contains d=true/\S.glob y=true then some (DG d i j S.ms b) else none
   | _,_,_,_,_=>none)
  | some (_,none,_,_)=>none
  | none=>none)
 | .Expr v _=>KW S v
 | .Assign [t] e _=>SG S t e
 | .If c a b _=>match Gu S c,BJ d a,BJ d b with
  | some (f,_),some s,some t=>some (AW (bT f) s t)
  | _,_,_=>none
 | .For t it body [] _=>SI d S t it body
 | .While c body [] _=>match Gu S c,BJ d body with
  | some (f,_),some b=>some (LG (bT f) b)
  | _,_=>none
 | .AugAssign t op e _=>SH S t op e
 | .Return (some e) _=>SN S e
 | _=>none
def K1:Nat->Sx->Stmt->Option Fs
 | 0,_,_=>none
 | n + 1,S,st=>some ((JD (K1 n S) S st).getD Kq)
section
variable {X:Cx}{P:A0}{w:Ay}{K:Frag}{mg:Str->Option Ae}{base:Heap}{lvl:Nat}{S:Sx}{Wx:St->Nat->Hp->Prop}{M:Fm}{f g:Fx}{vs vs':List Nat}{σ:St}{H:Hp}{Q:VK}
structure SM (X:Cx) (M:Fm) (K:Frag) (S:Sx) (Wx:St->Nat->Hp->Prop):Prop where
 ms:MS M K S Wx
 al:∀ i,M.al i=[]
 io:M.io≠none->S.msF 0=true
 pn:∀ p∈M.pn,p.1∈S.pn
 fn:∀ x,X.fn x=true
 nd:S.N.Nodup
 st:X.stack=X.env::X.outer
 fr:X.env.frame=some X.env.locals
def HD (P:A0) (w:Ay) (K:Frag) (mg:Str->Option Ae) (base:Heap) (lvl:Nat) (S:Sx) (st:Stmt) (f:Fs):Prop:=∀ {Wx} X M,XS X P w K mg base lvl S Wx->SM X M K S Wx->PS X st (tS M f)
theorem II {d:Stmt->Option Fs} (hd:∀ st f,d st=some f->HD P w K mg base lvl S st f):∀ (sts:List Stmt) (f:Fs),BJ d sts=some f->∀ {Wx} X M,XS X P w K mg base lvl S Wx->SM X M K S Wx->D6 X sts (tS M f)
 | [],f,h=>by cases h;exact λ X M xs sm=>TY Zz λ D σ H q=>XG q
 | [s],f,h=>λ X M xs sm=>J9 (hd s f h X M xs sm)
 | s::s'::r,f,h=>by
  unfold BJ at h;split at h
  ·rename_i f1 f2 h1 h2;cases h;exact λ X M xs sm=>TY (qo (hd s f1 h1 X M xs sm) (II hd (s'::r) f2 h2 X M xs sm)) λ D σ H q=>Yr q
  ·cases h
def Hu {x:Str}{i:Nat} (h:S.slot x=some i):S.N[i]?=some x:=by
 unfold Sx.slot at h;split at h
 ·exact Lj h
 ·cases h
def Ja {x:Str} (h:Dt S x=true):DJ S.sc x:=by
 unfold Dt at h;rw [EV] at h;exact h.elim (λ h=>.inl (FF h)) λ h=>.inr (FF h)
def GR {i:Nat} (h:FJ S i=true) (sm:SM X M K S Wx):M.Fre i:=by
 unfold FJ at h;rw [Be,EV] at h;refine ⟨λ hio=>?_,λ p hp e=>?_⟩
 ·rcases h.1 with h | h
  ·simpa using h
  ·rw [sm.io hio] at h;cases h
 ·have z:=sm.pn p hp;rw [e] at z;have h2:=h.2;rw [List.contains_iff_mem.mpr z] at h2;cases h2
theorem Ur {e:Expr}{t:Option Expr}{l:Nat}{env:Env} (h:ME e=false):swapsWith e t l env=pure false:=by
 cases e with
 | ListComp _ _ _ _=>cases h
 | SetComp _ _ _ _=>cases h
 | DictComp _ _ _ _ _=>cases h
 | _=>rfl
theorem ZT (GX:GX K mg S.xc) (G:GS P w K mg base lvl S.Γ) (Gm:Fz P w K mg base lvl S.Γm) (hS:∀ i,∀ j∈S.alF i,S.msF j=false) {n:Nat}{elt:Expr}{gs:List Comprehension}{scope:Bc}{pos:Pos} (h:Bi (n + 1) S (.ListComp elt gs scope pos)=some (f,vs)):
  ∃ tg ys asg it ifs iw t g vE,gs=[⟨tg,it,ifs,0⟩]/\CompParts P w K mg base lvl S scope tg ys asg it elt ifs iw t g vE/\f=Kz iw ys.length asg t g/\vs=iw.vs++vE.filter (λ i=>decide (i < S.N.length)):=by
 have hd:∀ e f vs,Bi n S e=some (f,vs)->Good P w K mg base lvl S e f vs:=λ e f vs h=>IW GX G Gm n S e f vs rfl rfl rfl hS h;replace h:FD (Bi n) S (.ListComp elt gs scope pos)=some (f,vs):=h
 match gs,h with
 | [],h=>simp [FD] at h
 | _::_::_,h=>simp [FD] at h
 | [⟨tg,it,ifs,a⟩],h=>
  by_cases ha:a=0
  ·subst ha;replace h:(match Mf S.N.length tg,Et (Bi n S) S it with
    | some (xs,asg),some iw=>if Lw S scope xs iw.vs=true/\EL tg iw=true then (match MC (Bi n (AR S scope xs iw.vs)) ifs,Bi n (AR S scope xs iw.vs) elt with
     | some t,some (g,vE)=>some (Kz iw xs.length asg t g,iw.vs++vE.filter (λ i=>decide (i < S.N.length)))
     | _,_=>none) else none
    | _,_=>none)=some (f,vs):=h
   split at h
   ·rename_i ys asg iw ht hi;split at h
    ·rename_i hc;split at h
     ·rename_i t g vE h1 h2;cases h;have ck:=SE hc.1;have giw:=Lx hd (Ly n S) G.1 hi;have hS2:∀ i,∀ j∈(AR S scope ys iw.vs).alF i,(AR S scope ys iw.vs).msF j=false:=λ i j hj=>by
       rw [Nz] at hj;show S.msF j=false;split at hj
       ·exact hS i j hj
       ·split at hj
        ·exact giw.1 j hj
        ·cases hj
      have hd2:∀ e f vs,Bi n (AR S scope ys iw.vs) e=some (f,vs)->Good P w K mg base lvl (AR S scope ys iw.vs) e f vs:=λ e f vs h=>IW GX G Gm n _ e f vs rfl rfl rfl hS2 h;exact ⟨tg,ys,asg,it,ifs,iw,t,g,vE,rfl,⟨ht,hc.2,ck,giw,hd2 _ _ _ h2,RA hd2 h1⟩,rfl,rfl⟩
     ·cases h
    ·cases h
   ·cases h
  ·simp [FD,ha] at h
def GP (xs:XS X P w K mg base lvl S Wx):Jc (Ap X.prog X.w) X.A X.env X.xe:=xs.po
theorem Qt {es:List Expr}{is:List Nat} (h:JA S es=some is) (xs:XS X P w K mg base lvl S Wx) (sm:SM X M K S Wx):Jy X es (IY is)/\(DS es X.env).length=is.length/\(DS es X.env).findIdx? (·.1)=none/\∀ i∈is,Bd M [] i:=by
 induction es generalizing is with
 | nil=>cases h;exact ⟨TX,rfl,rfl,λ _ z=>nomatch z⟩
 | cons e es ih=>
  unfold JA at h;split at h
  ·cases ‹_::_=[]›
  ·rename_i x px r heq;cases heq;split at h
   ·rename_i i js hi hr;split at h
    ·rename_i hc;cases h;obtain ⟨h1,h2,h3,h4⟩:=ih hr;have hN:X.N.Nodup:=by rw [xs.N];exact sm.nd
     have hi':X.N[i]?=some x:=by rw [xs.N];exact Hu hi
     have hx:DJ X.env.scope x:=by rw [xs.sc];exact Ja hc.1
     refine ⟨Rn (LK hN hi' hx (.inl (sm.fn x))) h1 rfl,by rw [DS,Ba,h2,Ba] <;> (intros;contradiction),?_,λ j hj=>?_⟩
     ·rw [DS,PN,h3] <;> first | rfl | (intros;contradiction)
     ·rcases jb2.mp hj with z | z
      ·rw [z];exact ⟨by rw [sm.ms.ms];exact hc.2.2,GR hc.2.1 sm,sm.al i,sm.ms.als⟩
      ·exact h4 j z
    ·cases h
   ·cases h
  ·cases h
theorem Nv {x:Str}:∀ {l:List Str}{c:Nat},l.findIdx? (·== x)=some c->l[c]?=some x
 | [],c,h=>by simp at h
 | y::r,c,h=>by
  rw [PN] at h;split at h
  ·rename_i e;cases h;rw [Vj,eq_of_beq e]
  ·cases e:r.findIdx? (·== x) with
   | none=>rw [e] at h;cases h
   | some k=>
    rw [e] at h;cases h;rw [Jv];exact Nv e
def zi {x:Str}{c:Nat} (h:LL S x=some c):S.rz=true/\c∈S.xc/\S.glob x=true/\XN[c]?=some x:=by
 unfold LL at h;split at h
 ·rename_i c' e;split at h
  ·rename_i hc;cases h;exact ⟨hc.1,by simpa using hc.2.1,hc.2.2,Nv e⟩
  ·cases h
 ·cases h
def qr {x m:Str}{c:Nat}{np cpos pos p:Pos}{j:Nat}{t:TS} (GX:GX K mg S.xc) (h:LL S x=some c) (xs:XS X P w K mg base lvl S Wx) (hW:M.W=Wx) (hq:∀ D σ H,t D σ H->M.W σ c H):PS X (.Raise (some (.Call (.Name x np) [.Constant (.str m) j p] [] cpos)) none pos) t:=by
 obtain ⟨h1,h2,h3,h4⟩:=zi h;obtain ⟨ht,_,hc⟩:=GX (λ z=>by rw [z] at h2;cases h2);obtain ⟨x',C,e1,e2,e3,e4⟩:=hc c h2;rw [h4] at e1;cases e1;refine Co (qk (W:=Wx) (xs.rs h1) (by rw [xs.K];exact ht) xs.calm (by rw [xs.K];exact e2) (xs.gl h3) (by rw [xs.mg];exact e3) e4) λ D σ H q=>?_;rw [<- hW];exact hq D σ H q
theorem ZS (GX:GX K mg S.xc) (G:GS P w K mg base lvl S.Γ) (Gm:Fz P w K mg base lvl S.Γm) (hS:∀ i,∀ j∈S.alF i,S.msF j=false):∀ (n:Nat) (sts:List Stmt) (f:Fs),K2 n S sts=some f->∀ {Wx} X M,XS X P w K mg base lvl S Wx->SM X M K S Wx->D6 X sts (tR M f):=by
 have hd:∀ e f vs,Bi 60 S e=some (f,vs)->Good P w K mg base lvl S e f vs:=λ e f vs h=>IW GX G Gm 60 S e f vs rfl rfl rfl hS h;intro n;induction n with
 | zero=>intro sts f h;cases h
 | succ n ih=>
  intro sts f h;unfold K2 at h;split at h
  ·rename_i st;split at h
   ·split at h
    ·rename_i v pos hv;obtain ⟨x,p,es,p1,rfl⟩:=Y5 hv;split at h
     ·rename_i f1 v1 he;cases h;intro Wx X M xs sm;exact J9 (Co (Ob ((hd _ _ _ he).2.2 X M xs sm.ms).1 rfl) λ D σ H q=>Zm q)
     ·cases h
    ·cases h
   ·split at h
    ·rename_i f1 v1 s t hc ha hb;cases h;intro Wx X M xs sm;exact J9 (Co (Sg ((hd _ _ _ hc).2.2 X M xs sm.ms).2 (ih _ _ ha X M xs sm) (ih _ _ hb X M xs sm)) λ D σ H q=>Wj q)
    ·cases h
   ·split at h
    ·rename_i x e has;obtain ⟨px,pos,rfl⟩:=SA has;split at h
     ·rename_i i f1 v1 hi he;split at h
      ·rename_i hc;cases h;have g:=hd _ _ _ he;intro Wx X M xs sm;have hN:X.N.Nodup:=by rw [xs.N];exact sm.nd
       have hi':X.N[i]?=some x:=by rw [xs.N];exact Hu hi
       have hx:DJ X.env.scope x:=by rw [xs.sc];exact Ja hc.1
       have mi:M.Ms i=S.msF i:=by rw [sm.ms.ms]
       exact J9 (Co (LD hN hi' hx (g.2.2 X M xs sm.ms).1 (Ur hc.2.2) (.inl (sm.fn x))) λ D σ H q=>XB sm.al (sm.ms.v g.1) mi (GR hc.2.1 sm) q)
      ·cases h
     ·cases h
    ·cases h
  ·cases h
def Fm.bare (M:Fm):Fm:={ M with Ms:=λ _=>false,H₀:=λ _=>none,io:=none,pn:=[] }
def Rep.bare {ρ:Ah}{fps:AF} (r:Rep M ρ σ H fps):Rep M.bare ρ σ H fps where
 own:=r.own
 non:=r.non
 dj:=r.dj
 zo:=r.zo
 fr:=λ _ _ _ _=>rfl
 zd:=r.zd
 len:=r.len
 msf:=λ _ _ _ h=>nomatch h
 h0:=λ _ h=>absurd rfl h
 iov:=And.intro (λ _ h=>nomatch h) (λ _ h=>nomatch h)
theorem Zu {fb:Fb}{Q:Bool->Hp->Prop} (hq:tT M fb σ H Q):tT M.bare fb σ H Q:=by
 obtain ⟨ρ,fps,rep,q⟩:=hq;refine ⟨ρ,fps,rep.bare,?_⟩;have gr:∀ H' fps',KD M.bare H fps H' fps'->∀ a o,H a=some o->H' a=some o:=λ H' fps' k a o h=>k.keep a o h λ ⟨_,z,_⟩=>nomatch z
 cases e:fb ρ with
 | ok p=>
  obtain ⟨b,ρ'⟩:=p;rw [e] at q;intro H' fps' k ag _;have e1:ρ'=ρ:=List.ext_getElem? λ i=>ag.1 i rfl;subst e1;exact q H' fps (KD.grow (gr H' fps' k)) Agr.refl (rep.grow (gr H' fps' k))
 | exc c=>
  rw [e] at q;intro H' fps' k;exact q H' fps (KD.grow (gr H' fps' k))
 | no=>rw [e] at q;exact q
theorem TM (GX:GX K mg S.xc) (G:GS P w K mg base lvl S.Γ) (Gm:Fz P w K mg base lvl S.Γm) (hS:∀ i,∀ j∈S.alF i,S.msF j=false) {c:Expr}{f:Fx}{vs:List Nat} (h:Gu S c=some (f,vs)) (xs:XS X P w K mg base lvl S Wx) (m:MS M K S Wx):PT X c (tT M (bT f)):=by
 unfold Gu at h;cases e:Bi 60 S c with
 | some p=>
  rw [e] at h;cases h;exact ((IW GX G Gm 60 S c f vs rfl rfl rfl hS e).2.2 X M xs m).2
 | none=>
  rw [e] at h;have h2:Bi 60 S.bare c=some (f,vs):=h;have gd:=(IW (S:=S) GX G Gm 60 S.bare c f vs rfl rfl rfl (λ _ _ _=>rfl) h2).2.2 X M.bare ⟨xs.prog,xs.w,xs.K,xs.mg,xs.base,xs.N,xs.sc,xs.calm,xs.room,xs.po,xs.ps,xs.rs⟩ ⟨m.K,rfl,m.al,λ _ _ _=>rfl,m.W,λ _ h=>nomatch h⟩;exact JN gd.2 λ σ H Q q=>Zu q
def RF {d:Stmt->Option Fs}{body:List Stmt}{f:Fs} (hd:∀ e f vs,Bi 60 S e=some (f,vs)->Good P w K mg base lvl S e f vs) (ih:∀ st f,d st=some f->HD P w K mg base lvl S st f) (h:NS d S body=some f):∀ {Wx} X M,XS X P w K mg base lvl S Wx->SM X M K S Wx->D6 X body (tS M f):=by
 exact II ih _ _ h
def Ym {e:Expr}{f:Fx}{vs:List Nat} (hd:∀ e f vs,Bi 60 S e=some (f,vs)->Good P w K mg base lvl S e f vs) (h:Gx S e=some (f,vs)):Good P w K mg base lvl S e f vs:=by
 unfold Gx at h;split at h
 ·split at h
  ·rename_i f1 v1 f2 v2 h1 h2;split at h
   ·rename_i hn;cases h;have g1:=EF hd _ _ _ h1;have g2:=hd _ _ _ h2;exact Cp (FE g1.1 g2.1) rfl (λ _ _=>rfl) λ X M xs m=>YW (m.v g1.1) (ND hn) (Zb (g1.2.2 X M xs m)) (g2.2.2 X M xs m).1
   ·cases h
  ·cases h
 ·exact hd _ _ _ h
def V3 (GX:GX K mg S.xc) (G:GS P w K mg base lvl S.Γ) (Gm:Fz P w K mg base lvl S.Γm) (hS:∀ i,∀ j∈S.alF i,S.msF j=false) {d:Stmt->Option Fs} (ih:∀ (st:Stmt) (f:Fs),d st=some f->HD P w K mg base lvl S st f):∀ (st:Stmt) (f:Fs),JD d S st=some f->HD P w K mg base lvl S st f:=by
 have hd:∀ e f vs,Bi 60 S e=some (f,vs)->Good P w K mg base lvl S e f vs:=λ e f vs h=>IW GX G Gm 60 S e f vs rfl rfl rfl hS h;have hdO:∀ e f vs,Gx S e=some (f,vs)->Good P w K mg base lvl S e f vs:=λ e f vs h=>Ym hd h;have hdA:∀ e f vs,Fd S e=some (f,vs)->Good P w K mg base lvl S e f vs:=λ e f vs h=>by
  unfold Fd at h;split at h
  ·cases h;exact Cp (λ _ z=>nomatch z) rfl (λ _ _=>rfl) λ X M xs m=>Xx
  ·exact hd _ _ _ h
 intro st f h;have core:True->HD P w K mg base lvl S st f:=λ _=>by
  unfold JD at h;split at h
  ·rename_i e0 c0 pos;split at h
   ·rename_i x hx;obtain ⟨np,m,j,p,cpos,rfl,rfl⟩:=YT hx;split at h
    ·rename_i c hc;cases h;intro Wx X M xs sm;exact qr GX hc xs sm.ms.W λ D σ H q=>XF q
    ·cases h;intro Wx X M xs sm pins s σ H D I q;exact (Of pins s σ H D I (OX (t:=LJ) q))
   ·cases h;intro Wx X M xs sm pins s σ H D I q;exact (Of pins s σ H D I (OX (t:=LJ) q))
  ·rename_i body hs o fi pos;split at h
   ·rename_i y n x e0 htr;obtain ⟨np,px,pa,hpos,rfl,rfl,rfl⟩:=Z8 htr;split at h
    ·rename_i n' i j d b hnm hi hj hd' hbd;obtain ⟨pn,rfl⟩:=Fi hnm;split at h
     ·rename_i hc;obtain ⟨rfl,hij,hlx,hln,hoi,hoj,hms,hxc,hgy⟩:=hc;cases h;intro Wx X M xs sm;have hdm:d∈S.xc:=by simpa using hxc
      obtain ⟨ht,_,hcs⟩:=GX (λ z=>by rw [z] at hdm;cases hdm);obtain ⟨y',C,hx',hC,hmg,hdb⟩:=hcs d hdm;have ey:y'=y:=by
       have:=Nv hd'
       rw [hx'] at this;exact Option.some.inj this
      subst ey;have nms:∀ i,M.Ms i=S.ms.contains i:=λ i=>by rw [sm.ms.ms];rfl
      have hN:X.N.Nodup:=by rw [xs.N];exact sm.nd
      have slots:∀ {z:Str}{k:Nat},S.slot z=some k->(z == ("__debug__" : Str))=false/\(z == ("__classdict__" : Str))=false:=λ {z k} h=>by
       unfold Sx.slot at h;split at h
       ·rename_i hv;simp only [Be,MX] at hv;exact ⟨hv.1.2,hv.2⟩
       ·cases h
      have base:=ql (X:=X) (tb:=λ W'=>tR (M.want W') b) (body:=body) (y:=y') (n:=n') (x:=x) (np:=np) (hpos:=hpos) (px:=px) (pn:=pn) (pa:=pa) (pos:=pos) (d:=d) (Dd:=C) (i:=i) (j:=j)
       (by rw [xs.K];exact ht) sm.st sm.fr hN (by rw [xs.N];exact Hu hi) (by rw [xs.N];exact Hu hj) hij (by rw [xs.sc];exact Ja hlx) (by show X.env.scope.names.lookup n'=_;rw [xs.sc];exact FF hln) sm.fn (by rw [xs.K];exact hC) (xs.gl hgy) (by rw [xs.mg];exact hmg) hdb (slots hj).1 (slots hj).2 (λ pn' xe' W' hp ho=>?_)
      ·refine Co base λ D σ H q=>?_;have mk:=sm.ms.k xs;rw [<- mk];exact Ys sm.al nms (by rw [sm.ms.ms];exact hms) hij (GR hoi sm) (GR hoj sm) q
      ·refine ZS (S:=S.nr) GX G Gm hS 10 body b hbd _ _ (Wx:=W') ⟨xs.prog,xs.w,xs.K,xs.mg,xs.base,xs.N,xs.sc,xs.calm,xs.room,ho,hp,λ z=>nomatch z⟩ ⟨⟨sm.ms.K,sm.ms.ms,sm.ms.al,sm.ms.als,rfl,sm.ms.pn⟩,sm.al,sm.io,sm.pn,sm.fn,sm.nd,sm.st,sm.fr⟩
     ·cases h
    ·cases h
   ·cases h
   ·cases h
  ·rename_i v pos;unfold KW at h;split at h
   ·rename_i fn es cpos;split at h
    ·rename_i o at' apos;split at h
     ·rename_i x e hx;obtain ⟨px,rfl⟩:=Fi hx;unfold RT at h;split at h
      ·rename_i hat;subst hat;split at h
       ·rename_i i f1 v1 hi he;split at h
        ·rename_i hc;cases h;have g:=hd _ _ _ he;intro Wx X M xs sm;have hb:=Sd (X:=X) (cpos:=cpos) PySem.F.plainAttrs_list PySem.F.slot_list_append PySem.F.type_list_append Q3 (xs.var (pos:=px) hi) (DL (g.2.2 X M xs sm.ms).1 Fl (CH (CI g.2.1))) rfl (QO g.2.1 X.env cpos) hc.2 (CH (CI g.2.1)) rfl;refine Co (Ob hb rfl) λ D σ H q=>?_
         have:=XD (D:=D) sm.al (sm.ms.v g.1) (by rw [sm.ms.ms];exact hc.1) q
         rw [sm.ms.k xs] at this;exact this
        ·cases h
       ·cases h
      ·cases h
     ·rename_i e hx;cases h
     ·cases h
    ·rename_i x p;split at h
     ·rename_i f1 v1 he;cases h;intro Wx X M xs sm;exact Co (Ob ((hd _ _ _ he).2.2 X M xs sm.ms).1 rfl) λ D σ H q=>Ui q
     ·cases h
    ·cases h
   ·cases h
  ·rename_i t e pos;unfold SG at h;split at h
   ·rename_i es k p;split at h
    ·rename_i is f1 v1 hs he;split at h
     ·rename_i hc;cases h;have g:=hd _ _ _ he;intro Wx X M xs sm;obtain ⟨h1,h2,h3,h4⟩:=Qt hs xs sm;have mk:M.K=X.K:=sm.ms.k xs;refine Co (LB (g.2.2 X M xs sm.ms).1 (Pm xs.calm h1 h2 h3) ?_ ?_ ?_) λ D σ H q=>?_
      ·cases e <;> first | rfl | (cases hc.1)
      ·cases e <;> first | rfl | (cases hc.2)
      ·rfl
      ·have:=Yt sm.al (sm.ms.v g.1) (OU h4) q
       rw [mk] at this;exact this
     ·cases h
    ·cases h
   ·rename_i x px;split at h
    ·rename_i i f1 v1 hi he;split at h
     ·rename_i hc;cases h;have g:=hdA _ _ _ he;intro Wx X M xs sm;have hN:X.N.Nodup:=by rw [xs.N];exact sm.nd
      have hi':X.N[i]?=some x:=by rw [xs.N];exact Hu hi
      have hx:DJ X.env.scope x:=by rw [xs.sc];exact Ja hc.1
      have mi:M.Ms i=S.msF i:=by rw [sm.ms.ms]
      cases hcp:ME e with
      | false=>exact Co (LD hN hi' hx (g.2.2 X M xs sm.ms).1 (Ur hcp) (.inl (sm.fn x))) λ D σ H q=>Pp sm.al (sm.ms.v g.1) mi (GR hc.2 sm) q
      | true=>
       cases e with
       | ListComp elt gs scope cpos=>
        obtain ⟨tg,ys,asg,it,ifs,iw,t,g2,vE,rfl,cp,rfl,rfl⟩:=ZT GX G Gm hS (show Bi 60 S _=_ from he);obtain ⟨wi,gg,h1,h2,h3,h4,h5,h6⟩:=RD (pos:=cpos) cp xs sm.ms;refine Xh (zh hN hi' hx (.inl (sm.fn x)) h2 xs.calm h1 h3 h4 h5 (Lz (n:=0) (f:=g2) (vs:=[]) cp.iwo.2.1)) λ D σ H hl q=>?_;exact h6 σ H _ (by rw [hl,xs.N]) (Pp sm.al (sm.ms.v g.1) mi (GR hc.2 sm) q)
       | SetComp _ _ _ _=>simp [Fd,Bi,FD] at he
       | DictComp _ _ _ _ _=>simp [Fd,Bi,FD] at he
       | _=>cases hcp
     ·cases h
    ·cases h
   ·rename_i t k ps;unfold SK at h;split at h
    ·rename_i x px;split at h
     ·rename_i k hk;obtain ⟨k',pk,rfl⟩:=SV hk;split at h
      ·rename_i i f1 v1 hi he;cases h;have g:=hd _ _ _ he;intro Wx X M xs sm;refine Co (LB (g.2.2 X M xs sm.ms).1 (Pl (xs.var hi) LA Og) ?_ ?_ rfl) λ D σ H q=>XH sm.al (sm.ms.v g.1) q
       ·cases e <;> rfl
       ·cases e <;> rfl
      ·cases h
     ·rename_i hk;split at h
      ·rename_i f' hp;cases h;unfold K4 at hp;split at hp
       ·rename_i z y1 py1 b1 q1 hz;obtain ⟨pz,rfl⟩:=Fi hz;split at hp
        ·rename_i i j f1 v1 hi hj he;split at hp
         ·rename_i hc;cases hp;have g:=hd _ _ _ he;intro Wx X M xs sm;exact Co (LB (g.2.2 X M xs sm.ms).1 (Pl (xs.var hi) (xs.var hj) Og (λ _=>rfl)) rfl rfl rfl) λ D σ H q=>Zn sm.al (sm.ms.v g.1) (by rw [sm.ms.ms];exact hc) q
         ·cases hp
        ·cases hp
       ·cases hp
      split at h
      ·rename_i i fk vk f1 v1 hi hk he;split at h
       ·rename_i hc;cases h;have g:=hdO _ _ _ he;intro Wx X M xs sm;refine Co (LB (g.2.2 X M xs sm.ms).1 (Pl (xs.var hi) ((hd _ _ _ hk).2.2 X M xs sm.ms).1 (PSet.or Og (Wh (by have:=xs.room.units;omega))) ?_) ?_ ?_ rfl) λ D σ H q=>Zp sm.al (by rw [sm.ms.ms];exact hc.1) (sm.ms.v g.1) q
        ·intro v;cases k <;> first | rfl | (cases hc.2)
        ·cases e <;> rfl
        ·cases e <;> rfl
       ·cases h
      ·cases h
    ·cases h
   ·cases h
  ·split at h
   ·rename_i f1 v1 s t hc ha hb;cases h;intro Wx X M xs sm;exact Co (Sg (TM GX G Gm hS hc xs sm.ms) (II ih _ _ ha X M xs sm) (II ih _ _ hb X M xs sm)) λ D σ H q=>Wl q
   ·cases h
  ·rename_i t it body pos;unfold SI at h;split at h
   ·rename_i x px;split at h
    ·rename_i i iw b hi hw hb;split at h
     ·rename_i hc;cases h;intro Wx X M xs sm;have hN:X.N.Nodup:=by rw [xs.N];exact sm.nd
      have hi':X.N[i]?=some x:=by rw [xs.N];exact Hu hi
      have hx:DJ X.env.scope x:=by rw [xs.sc];exact Ja hc.1
      have giw:=Lx hd (Ly 60 S) G.1 hw;have hbd:=RF hd ih hb X M xs sm;have hg:Dz M [] [i] (E1 i) (asgN i):=SS ⟨by rw [sm.ms.ms];exact hc.2.2.1,GR hc.2.1 sm,sm.al i,sm.ms.als⟩;have hpg:PG X (.Name x px) (E1 i):=LK hN hi' hx (.inl (sm.fn x));have hpi:=giw.2.2 X M xs sm.ms (.Name x px);have hf:=Lz (n:=0) (env:=X.env) (f:=Aa 0) (vs:=[]) giw.2.1;cases iw with
      | rng en fa vs=>
       rcases hpi with ⟨rfl,hpi⟩ | ⟨rfl,hpi⟩
       ·exact Co (Hb (GP xs) xs.calm hpi hpg hbd hf) λ D σ H q=>Uj hg q
       ·exact Co (Hb (GP xs) xs.calm hpi hpg hbd hf) λ D σ H q=>Uk hg q
      | seq f vs=>exact Co (Hb (GP xs) xs.calm hpi hpg hbd hf) λ D σ H q=>Ul sm.al (sm.ms.v giw.1) hg q
      | vw v fa vs=>exact Co (Hb (GP xs) xs.calm (hpi hc.2.2.2) hpg hbd hf) λ D σ H q=>Um sm.al (sm.ms.v giw.1) hg q
     ·cases h
    ·cases h
   ·rename_i es k p;split at h
    ·rename_i is iw b hs hw hb;cases h;intro Wx X M xs sm;have giw:=Lx hd (Ly 60 S) G.1 hw;have hbd:=RF hd ih hb X M xs sm;obtain ⟨h1,h2,h3,h4⟩:=Qt hs xs sm;have mk:M.K=X.K:=sm.ms.k xs;have hg:=OU (M:=M) (al:=[]) h4;have hpg:=Pm (pos:=p) (k:=k) xs.calm h1 h2 h3;rw [<- mk] at hpg;have hpi:=giw.2.2 X M xs sm.ms (.Tuple es k p);have hf:=Lz (n:=0) (env:=X.env) (f:=Aa 0) (vs:=[]) giw.2.1;cases iw with
     | rng en fa vs=>
      rcases hpi with ⟨rfl,hpi⟩ | ⟨rfl,hpi⟩
      ·exact Co (Hb (GP xs) xs.calm hpi hpg hbd hf) λ D σ H q=>Uj hg q
      ·exact Co (Hb (GP xs) xs.calm hpi hpg hbd hf) λ D σ H q=>Uk hg q
     | seq f vs=>exact Co (Hb (GP xs) xs.calm hpi hpg hbd hf) λ D σ H q=>Ul sm.al (sm.ms.v giw.1) hg q
     | vw v fa vs=>exact Co (Hb (GP xs) xs.calm (hpi (by cases v <;> rfl)) hpg hbd hf) λ D σ H q=>Um sm.al (sm.ms.v giw.1) hg q
    ·cases h
   ·cases h
  ·split at h
   ·rename_i f1 v1 b hc hb;cases h;intro Wx X M xs sm;exact Co (qm xs.po (TM GX G Gm hS hc xs sm.ms) (II ih _ _ hb X M xs sm)) λ D σ H q=>qY q
   ·cases h
  ·rename_i t op e pos;unfold SH at h;split at h
   ·rename_i x px;split at h
    ·rename_i i f1 v1 g sd hi he hop;split at h
     ·rename_i hc;cases h;intro Wx X M xs sm;have hN:X.N.Nodup:=by rw [xs.N];exact sm.nd
      have hi':X.N[i]?=some x:=by rw [xs.N];exact Hu hi
      have hx:DJ X.env.scope x:=by rw [xs.sc];exact Ja hc.1
      have hp:Jx X op (Nf g sd):=by
       unfold RQ at hop;split at hop
       ·cases hop;exact Y3
       ·cases hop;exact Y4
       ·cases hop
      exact Co (Xg hN hi' hx ((hd _ _ _ he).2.2 X M xs sm.ms).1 hp (.inl (sm.fn x))) λ D σ H q=>XE sm.al (by rw [sm.ms.ms];exact hc.2.2) (GR hc.2.1 sm) q
     ·cases h
    ·cases h
   ·cases h
  ·rename_i e pos;unfold SN at h;split at h
   ·rename_i x hx;obtain ⟨px,rfl⟩:=Fi hx;split at h
    ·rename_i i hi;split at h
     ·cases h
     ·rename_i hm;cases h;intro Wx X M xs sm;exact Co (Tp (xs.var hi)) λ D σ H q=>Zq sm.al (by rw [sm.ms.ms];simpa using hm) q
    ·cases h
   ·rename_i hx;split at h
    ·rename_i f1 v1 he;cases h;intro Wx X M xs sm;exact Co (Tp ((hd _ _ _ he).2.2 X M xs sm.ms).1) λ D σ H q=>Yq (sm.ms.v (hd _ _ _ he).1) q
    ·cases h
  ·cases h
 exact λ {Wx}=>core trivial
theorem ZR (GX:GX K mg S.xc) (G:GS P w K mg base lvl S.Γ) (Gm:Fz P w K mg base lvl S.Γm) (hS:∀ i,∀ j∈S.alF i,S.msF j=false):∀ (n:Nat) (st:Stmt) (f:Fs),K1 n S st=some f->HD P w K mg base lvl S st f:=by
 intro n;induction n with
 | zero=>intro st f h;cases h
 | succ n ih=>
  intro st f h;replace h:some ((JD (K1 n S) S st).getD Kq)=some f:=h;cases e0:JD (K1 n S) S st with
  | none=>
   rw [e0] at h;cases h;intro Wx X M xs sm pins s σ H D I q;exact (Of pins s σ H D I (OX (t:=LJ) q))
  | some f'=>
   rw [e0] at h;cases h;exact λ {Wx}=>V3 GX G Gm hS ih _ _ e0
def AM:Nat->Sx->Stmt->Option Fs:=K1
def Yn (GX:GX K mg S.xc) (G:GS P w K mg base lvl S.Γ) (Gm:Fz P w K mg base lvl S.Γm) (hS:∀ i,∀ j∈S.alF i,S.msF j=false):∀ (n:Nat) (st:Stmt) (f:Fs),AM n S st=some f->HD P w K mg base lvl S st f:=ZR GX G Gm hS
def D8:Bool->List PV->Ah
 | true,x::xr=>some (x,om)::xr.map λ x=>some (x,dv x)
 | _,xs=>xs.map λ x=>some (x,dv x)
def Gs (io:Bool) (y:PV) (d:Nat) (ρ:Ah):Rz (PV×Nat×PV):=match io with
 | false=>.ok (y,d,.non)
 | true=>match ρ[0]? with
  | some (some (z,_))=>.ok (y,d,z)
  | _=>.no
def A1 (io:Bool) (np k:Nat) (b:Fs):Fn:=λ xs=>if xs.length=np then (match b (D8 io xs++AK k none) with
 | .rt y d ρ=>Gs io y d ρ
 | .nx ρ=>Gs io .non om ρ
 | .exc c=>.exc c
 | _=>.no) else .no
def DX {io:Bool}{np k:Nat}{b:Fs}:∀ xs,xs.length≠np->A1 io np k b xs=.no:=λ xs h=>by
 unfold A1;rw [if_neg h]
theorem QT {io:Bool}{xs:List PV}{i:Nat}{x:PV}{d:Nat} (h:(D8 io xs)[i]?=some (some (x,d))):xs[i]?=some x/\(d=dv x\/(io=true/\i=0/\d=om)):=by
 cases io with
 | false=>
  have h':(xs.map λ x=>(some (x,dv x):Slot))[i]?=some (some (x,d)):=h;rw [Cs] at h';cases e:xs[i]? with
  | none=>rw [e] at h';cases h'
  | some y=>rw [e] at h';cases h';exact ⟨rfl,.inl rfl⟩
 | true=>
  cases xs with
  | nil=>simp [D8] at h
  | cons y r=>
   cases i with
   | zero=>
    have h':some (some (y,om):Slot)=some (some (x,d)):=h;cases h';exact ⟨rfl,.inr ⟨rfl,rfl,rfl⟩⟩
   | succ i=>
    have h':(r.map λ x=>(some (x,dv x):Slot))[i]?=some (some (x,d)):=h;rw [Cs] at h';cases e:r[i]? with
    | none=>rw [e] at h';cases h'
    | some y'=>rw [e] at h';cases h';exact ⟨by simpa using e,.inl rfl⟩
def zj (io:Bool) (xs:List PV):(D8 io xs).length=xs.length:=by
 cases io <;> cases xs <;> simp [D8]
def YS {x qual:Str}{st:Stmt}{f:Addr}{fd:CJ}{N ps:List Str}{k:Nat}{sp:Sp} (F:Fun K x qual st f fd) (S:FnScope N ps (Bo st)) (len:∀ vs H Q E,sp vs H Q E->vs.length=ps.length)
  (hbody:∀ (cdv:Ae) (A:AU) (outer:List Env) (s:Ai) (H:Hp) (vs:List V) (Q:VK) (E:XK),Room k (A.deeper (FQ qual (Bo st) s.heap.objs.size f cdv))->sp vs H Q E ->
   ∃ t,D6 (Bw (AS P w K) P w K mg base N qual (Bo st) f cdv A outer s H E) (BP st) t/\t { nx:=λ _ H'=>Q .non H',rt:=Q } (L2.start N vs) H):FnOk P w K mg base (AS P w K) (k + 1) f fd ps sp:=by
 obtain ⟨oc,od,kV,doc,pm,an,cdv,ct,osl,rfl,lk,hcd⟩:=F.ex;exact VM lk hcd S len λ A outer s H vs Q E hr hsp=>hbody cdv A outer s H vs Q E hr hsp
def Wu {x qual:Str}{st:Stmt}{fa:Addr}{fd:CJ}{ps:List Str}{np k:Nat}{io:Bool}{b:Fs} (Fu:Fun K x qual st fa fd) (FS:FnScope S.N ps (Bo st)) (hsc:S.sc=Bo st) (hal:S.al=[]) (hnp:ps.length=np) (hk:S.N.length=np + k)
  (hms:∀ i∈S.ms,i < np->i=0/\io=true) (hio:io=true->S.msF 0=true/\0 < np) (GX:GX K mg S.xc) (G:GS P w K mg base lvl S.Γ) (Gm:Fz P w K mg base lvl S.Γm) (hb:BJ (AM 60 S) (BP st)=some b):
  FnOk P w K mg base (AS P w K) (lvl + 1) fa fd ps (BH K io np (A1 io np k b)):=by
 have hS:∀ i,∀ j∈S.alF i,S.msF j=false:=λ i j hj=>by
  unfold Sx.alF at hj;rw [hal] at hj;simp at hj
 refine YS Fu FS (λ vs H Q E h=>h.1.trans hnp.symm) λ cdv A outer s H vs Q E hr h=>?_;obtain ⟨hl,xs,Zo,x0,v0,fp0,hZ,hz0,h1,h2,q⟩:=h;let M:Fm:={ K:=K,Ms:=S.msF,Zo:=Zo,H₀:=H,W:=WE E H,io:=if io=true then some v0 else none,al:=λ _=>[] }
 have hxs:XS (Bw (AS P w K) P w K mg base S.N qual (Bo st) fa cdv A outer s H E) P w K mg base lvl S (WE E H):=⟨rfl,rfl,rfl,rfl,rfl,rfl,hsc.symm,rfl,hr,YI,qf,λ _=>xC⟩
 have hsm:SM (Bw (AS P w K) P w K mg base S.N qual (Bo st) fa cdv A outer s H E) M K S (WE E H):=by
  refine ⟨⟨rfl,rfl,λ i _=>?_,(λ i j hj=>nomatch hj),rfl,λ _ h=>nomatch h⟩,λ _=>rfl,λ h=>?_,(λ _ h=>nomatch h),λ _=>rfl,FS.nd,rfl,rfl⟩
  ·show []=S.al.getD i [];rw [hal];rfl
  ·have h':(if io=true then some v0 else none)≠none:=h;cases io with
   | true=>exact (hio rfl).1
   | false=>exact absurd rfl h'
 refine ⟨tS M b,II (Yn GX G Gm hS 60) _ _ hb _ M hxs hsm,D8 io xs++AK k none,λ i=>if i=0 then fp0 else [],?_,?_⟩
 ·have hlen:xs.length=vs.length:=by
   cases io with
   | false=>exact (h1 rfl).2.length.symm
   | true=>obtain ⟨xr,wr,rfl,rfl,_,o⟩:=h2 rfl;rw [Ba,Ba,o.length]
  have each:∀ i y d,(D8 io xs)[i]?=some (some (y,d))->∃ v,vs[i]?=some v/\Own K H (λ a=>Zo a\/a∈fp0) y d v (if i=0 then fp0 else []):=λ i y d e=>by
   obtain ⟨e1,e2⟩:=QT e;cases io with
   | false=>
    obtain ⟨rfl,o⟩:=h1 rfl;obtain ⟨v,ev,ov⟩:=o.nth e1;rcases e2 with rfl | ⟨z,_⟩
    ·refine ⟨v,ev,?_⟩;rw [ite_self];exact ov.dv.weak λ a h=>h.elim id λ z=>nomatch z
    ·cases z
   | true=>
    obtain ⟨xr,wr,rfl,rfl,o0,o⟩:=h2 rfl;cases i with
    | zero=>
     simp [D8] at e;obtain ⟨rfl,rfl⟩:=e;exact ⟨v0,rfl,Own.full _ _ _ o0⟩
    | succ i=>
     obtain ⟨v,ev,ov⟩:=o.nth (j:=i) (by simpa using e1);rcases e2 with rfl | ⟨_,z,_⟩
     ·refine ⟨v,by simpa using ev,?_⟩;rw [if_neg (UT i)];exact ov.dv
     ·cases z
  have inl:∀ i p,(D8 io xs++AK k none)[i]?=some (some p)->(D8 io xs)[i]?=some (some p):=λ i p e=>by
   by_cases hi:i < (D8 io xs).length
   ·rw [CF hi] at e;exact e
   ·rw [Ep (by omega),Iy] at e;split at e <;> cases e
  have domF:∀ a∈fp0,H a≠none:=λ a ha=>by
   cases io with
   | false=>rw [(h1 rfl).1] at ha;cases ha
   | true=>
    obtain ⟨xr,wr,rfl,rfl,o0,o⟩:=h2 rfl;obtain ⟨ys,e⟩:=Own.lsts _ _ _ _ o0 a ha;rw [e];simp
  refine ⟨λ i y d e=>?_,λ i h=>?_,λ i j hij a ha hb'=>?_,λ i a ha=>?_,λ i hi a ha=>?_,hZ,?_,λ i y d hi e=>?_,λ a h=>h,⟨λ v hv=>?_,λ _ h=>(nomatch h)⟩⟩
  ·obtain ⟨v,ev,ov⟩:=each i y d (inl i _ e);refine ⟨v,?_,ov.weak λ a h=>?_⟩
   ·unfold L2.start;rw [CF (by rw [A5];exact (ja3.mp ev).1),Cs,ev];rfl
   ·rcases h with h | ⟨j,_,h⟩
    ·exact .inl h
    ·by_cases ej:j=0
     ·simp only [if_pos ej] at h;exact .inr h
     ·simp only [if_neg ej] at h;cases h
  ·by_cases hi:i=0
   ·subst hi;rw [if_pos rfl];cases io with
    | false=>exact (h1 rfl).1
    | true=>
     obtain ⟨xr,wr,rfl,rfl,_,_⟩:=h2 rfl;exact absurd rfl (h (x0,om))
   ·rw [if_neg hi]
  ·by_cases e1:i=0
   ·by_cases e2:j=0
    ·exact hij (e1.trans e2.symm)
    ·rw [if_neg e2] at hb';cases hb'
   ·simp only [if_neg e1] at ha;cases ha
  ·by_cases e1:i=0
   ·simp only [if_pos e1] at ha;exact hz0 a ha
   ·simp only [if_neg e1] at ha;cases ha
  ·by_cases e1:i=0
   ·simp only [if_pos e1] at ha;cases io with
    | false=>rw [(h1 rfl).1] at ha;cases ha
    | true=>
     have:=(hio rfl).1
     have hi':S.msF i=false:=hi;rw [e1,this] at hi';cases hi'
   ·simp only [if_neg e1] at ha;cases ha
  ·unfold L2.start;rw [AV,zj,Ju,AV,A5,Ju,hlen,hl,hk];omega
  ·have hm:i∈S.ms:=by
    have hi':S.msF i=true:=hi;unfold Sx.msF at hi';simpa using hi'
   obtain ⟨e1,e2⟩:=QT (inl i _ e);have hlt:i < np:=by
    have:=(ja3.mp e1).1
    rw [hlen,hl] at this;exact this
   obtain ⟨rfl,rfl⟩:=hms i hm hlt;obtain ⟨xr,wr,rfl,rfl,_,_⟩:=h2 rfl;have e':=inl 0 _ e;simp [D8] at e';exact e'.2.symm
  ·have hv':(if io=true then some v0 else none)=some v:=hv;cases io with
   | false=>cases hv'
   | true=>
    cases hv';obtain ⟨xr,wr,rfl,rfl,_,_⟩:=h2 rfl;exact ⟨rfl,(hio rfl).1⟩
 ·unfold A1 at q;have hlen:xs.length=np:=by
   by_cases e:xs.length=np
   ·exact e
   ·rw [if_neg e] at q;exact q.elim
  rw [if_pos hlen] at q;have fin:∀ {y:PV}{d:Nat}{ρ':Ah}{v:V}{σ':St}{H':Hp}{fps':AF}{fp:List Addr},(match Gs io y d ρ' with
    | .ok (y,d,z0)=>∀ v H' fp fp0',C0 (λ a=>a∈fp0) H H'->(∀ a,H a≠none->H' a≠none)->(∀ a∈fp0',a∈fp0\/H a=none)->(∀ a∈fp0',¬ Zo a)->(io=false->fp0'=[])->(io=true->Own K H' (λ _=>True) z0 om v0 fp0') ->
      Own K H' (λ a=>(Zo a\/a∈fp0')\/a∈fp) y d v fp->(∀ a∈fp,H a=none/\¬ (Zo a\/a∈fp0'))->Q v H'
    | .exc c=>∀ H',C0 (λ a=>a∈fp0) H H'->(∀ a,H a≠none->H' a≠none)->E (.int (c:Int) 0) none H'
    | .no=>False)->KS M H (λ i=>if i=0 then fp0 else []) H' fps'->Rep M ρ' σ' H' fps'->Own M.K H' (λ a=>Zr M fps' a\/a∈fp) y d v fp->(∀ a∈fp,M.H₀ a=none/\¬ Zr M fps' a)->Q v H':=λ {y d ρ' v σ' H' fps' fp} q ks rp oy hf=>by
   have kp:C0 (λ a=>a∈fp0) H H':=λ a o h n=>ks.keep a o h λ ⟨i,hi⟩=>by
    by_cases e:i=0
    ·simp only [if_pos e] at hi;exact n hi
    ·simp only [if_neg e] at hi;cases hi
   cases io with
   | false=>
    refine q v H' fp [] kp ks.dom (λ _ z=>(nomatch z)) (λ _ z=>(nomatch z)) (λ _=>rfl) (λ h=>(nomatch h)) (oy.weak λ a h=>?_) λ a ha=>⟨(hf a ha).1,λ z=>(hf a ha).2 ?_⟩
    ·rcases h with (h | h) | h
     ·exact .inl (.inl h)
     ·cases h
     ·exact .inr h
    ·rcases z with z | z
     ·exact .inl z
     ·cases z
   | true=>
    unfold Gs at q;cases e0:ρ'[0]? with
    | none=>dsimp only at q;rw [e0] at q;exact q.elim
    | some s0=>
     dsimp only at q;rw [e0] at q;cases s0 with
     | none=>exact q.elim
     | some p0=>
      obtain ⟨z,dz⟩:=p0;have hdz:=rp.msf 0 z dz (hio rfl).1 e0;subst hdz;obtain ⟨u,hu,ou⟩:=rp.own 0 z om e0;have hu0:=(rp.iov.1 v0 rfl).1;rw [hu] at hu0;cases hu0;refine q v H' fp (fps' 0) kp ks.dom (λ a ha=>?_) (λ a ha=>rp.zo 0 a ha) (λ h=>(nomatch h)) (λ _=>Own.full _ _ _ ou) (oy.weak λ a h=>?_) λ a ha=>⟨(hf a ha).1,λ z=>(hf a ha).2 ?_⟩
      ·rcases ks.sub 0 a ha with ⟨j,hj⟩ | z
       ·by_cases e:j=0
        ·simp only [if_pos e] at hj;exact .inl hj
        ·simp only [if_neg e] at hj;cases hj
       ·exact .inr z
      ·rcases h with (h | h) | h
       ·exact .inl (.inl h)
       ·exact .inl (.inr ⟨(λ z=>nomatch z),h⟩)
       ·exact .inr h
      ·rcases z with z | z
       ·exact .inl z
       ·exact .inr ⟨(λ z=>nomatch z),z⟩
  cases eb:b (D8 io xs++AK k none) with
  | no=>rw [eb] at q;exact q
  | exc c=>
   rw [eb] at q;refine λ σ' H' fps' ks=>⟨q H' (λ a o h n=>ks.keep a o h λ ⟨i,hi⟩=>?_) ks.dom,ks.dom⟩
   by_cases e:i=0
   ·simp only [if_pos e] at hi;exact n hi
   ·simp only [if_neg e] at hi;cases hi
  | bk ρ=>rw [eb] at q;exact q.elim
  | ct ρ=>rw [eb] at q;exact q.elim
  | rt y d ρ'=>
   rw [eb] at q;exact λ v σ' H' fps' fp ks rp oy hf=>fin q ks rp oy hf
  | nx ρ'=>
   rw [eb] at q;exact λ σ' H' fps' ks rp=>fin (fp:=[]) q ks rp (by rw [Own];exact ⟨rfl,rfl⟩) λ _ z=>nomatch z
end
open PySem PySem.Spec PySem.W PySem.Calls PyProof.Rows L2
theorem QD {tb:String->Option Builtin}{p:A0}{w:Ay}{n₀:Nat}{ann:Option Ae}:∀ {n:Nat}{s r:SharedT}{t:Thread},IQ tb p w n₀ ann n s t=some r->topRun tb p w n₀ ann n s.abs t=some r.abs
 | 0,_,_,_,h=>by cases h
 | n + 1,s,r,t,h=>by
  unfold IQ at h;unfold topRun;cases e1:through t with
  | true=>rw [e1] at h;cases h;rfl
  | false=>
   rw [e1] at h;cases e2:stepOk n₀ ann t with
   | false=>rw [e2] at h;cases h
   | true=>
    rw [e2] at h;cases e3:stepT (denote tb) p w s t with
    | none=>rw [e3] at h;cases h
    | some z=>obtain ⟨s₂,t₂⟩:=z;rw [e3] at h;rw [stepT_spec e3];exact QD h
def ZH (P:Params) (os:OsState):(bootS P os).abs=⟨DE P,#[],boot_drawn,boot_toks,os⟩:=by kernel_rfl
def Yd (P:Params):(DE P).isNs DT=true:=by kernel_rfl
def Y9 {p q:A0}{loose:List Str}{Xt:Ai->Bool}{α:Type}{Yf:Ai->α}{Ya:Ay->α}{N:Nat} (e:opening p=plainProg p.main.scope.names) (hN:Nat.ble 600 N=true) (f:∀ s,fenceModules? p s=some s)
  (run:∀ (w:Ay) (os:OsState),(IQ treeTable p w (DE w.params).objs.size ((DE w.params).nsMap DT "__annotations__") N (bootS w.params os) (topStub p)).map (λ s=>NT p q loose Xt Yf (DE w.params) s.abs)=some (true,openGood q loose,Ya w)):
  LeftO p q loose Xt Yf Ya N:=λ w=>by
 obtain ⟨⟨h,gs,d,k,os⟩,e1,e2⟩:=jb0.mp (boot_open e hN f w);obtain ⟨rfl,rfl,rfl,rfl⟩:h=DE w.params/\gs=#[]/\d=boot_drawn/\k=boot_toks:=by simpa using e2
 obtain ⟨s,r1,r2⟩:=jb0.mp (run w os);have r:=QD r1;rw [ZH] at r;have r3:(_=_)/\(_ ,_)=(_,_):=Prod.mk.inj r2;obtain ⟨l1,l23⟩:=r3;obtain ⟨l2,l3⟩:=Prod.mk.inj l23;have t:topFrom treeTable p w N ⟨DE w.params,#[],boot_drawn,boot_toks,os⟩=some s.abs:=by
  unfold topFrom;dsimp only;rw [Yd,r];show (match staticsOk (Oq p.main.body) (DE w.params) s.abs.heap && namesBound p s.abs.heap && gensDone s.abs && laidKept (DE w.params) s.abs.heap with | true=>_ | false=>_)=_;rw [l1]
 unfold openEnds;rw [e1];show (topFrom treeTable p w N _).map _=_;rw [t];exact congrArg some (Prod.ext l2 l3)
theorem WK (h:Heap):(K7 h).In h:=by
 intro a o;unfold K7;generalize Bh h.objs.size=l;induction l with
 | nil=>intro e;cases e
 | cons b l ih=>
  intro e;rw [Iu] at e;cases g:h.get? b with
  | none=>rw [g] at e;exact ih e
  | some z=>
   rw [g] at e;dsimp only [Gh] at e;rw [Eo] at e;split at e
   ·rename_i q;cases e;rw [beq_iff_eq.mp q];exact g
   ·exact ih e
def Wy {K:Frag}{x:Str}{st:Stmt} (e:NQ K x=some (Pf x st)):∃ (g:Addr) (fd:CJ),nsIn K DT x=some (some (.ref g))/\Fun K x x st g fd:=by
 unfold NQ at e;split at e
 ·rename_i g hg;split at e
  ·rename_i oc od fd sl hl;cases fd;unfold Pf at e;simp only [Option.some.injEq,DefSeen.mk.injEq] at e;obtain ⟨rfl,rfl,rfl,rfl,rfl,rfl,rfl,rfl,rfl,hc⟩:=e;refine ⟨g,_,hg,W5 hl hc ?_⟩;unfold keepIn;dsimp only;rw [hl]
  ·cases e
 ·cases e
structure Given (ds:List (Str×Stmt)) (xc:List Nat) (K:Frag) (mg:Str->Option Ae):Prop where
 df:∀ (i:Nat) (x:Str) (st:Stmt),ds[i]?=some (x,st)->∃ (g:Addr) (fd:CJ),mg x=some (.ref g)/\Fun K x x st g fd
 bn:∀ x∈zzy,mg x=none
 gx:GX K mg xc
theorem Po {α β:Type}{f g:α->β}:∀ {l:List α},l.map f=l.map g->∀ {i:Nat}{a:α},l[i]?=some a->f a=g a
 | [],_,_,_,h=>by cases h
 | b::l,e,0,a,h=>by
  cases h;exact (List.cons.inj e).1
 | b::l,e,i + 1,a,h=>Po (List.cons.inj e).2 h
def ZW {ds:List (Str×Stmt)}{xc:List Nat}{K:Frag}{mg:Str->Option Ae}{h:Heap} (X:K.In h) (G:h.Ns DT mg) (e:JW ds xc K=JK ds):Given ds xc K mg:=by
 obtain ⟨e1,e2⟩:=Prod.mk.inj e;obtain ⟨e2,e3⟩:=Prod.mk.inj e2;refine ⟨λ i x st hi=>?_,λ x hx=>?_,λ hne=>?_⟩
 ·obtain ⟨g,fd,a,b⟩:=Wy (Po e1 hi);exact ⟨g,fd,mg_of X G a,b⟩
 ·obtain ⟨i,hi⟩:=List.getElem?_of_mem hx;exact mg_none_of X G (Po e2 hi)
 ·have hm:xc.isEmpty=false:=by
   cases xc with
   | nil=>exact absurd rfl hne
   | cons _ _=>rfl
  rw [hm,P6,Be,Be] at e3;refine ⟨e3.1.1,e3.1.2,λ c hc=>?_⟩;have h1:=jd6.mp e3.2 c hc;rw [Be] at h1;obtain ⟨C,hC⟩:=jh4.mp h1.1;have hC':=hC;unfold Cb at hC';cases hx:XN[c]? with
  | none=>rw [hx] at hC';cases hC'
  | some x=>
   rw [hx] at hC';dsimp only at hC';have h2:=h1.2;rw [hx] at h2;dsimp only at h2;refine ⟨x,C,rfl,hC,?_,by simpa using h2⟩;split at hC'
   ·rename_i D hD;cases hC';exact mg_of X G hD
   ·cases hC'
def Yi {P:A0}{w:Ay}{K:Frag}{outer:List Env}{H:Hp}{s:Ai}{e:Ae}{s2:Ai} (z:AS P w K outer H s (λ _ _ _=>False) e s2):False:=by
 obtain ⟨_,_,_,_,_,_,_,_,_,_,_,_,_,_,_,_,_,_,z⟩:=z;exact z
def holds_by {l:OpenLaw}{q:A0}{loose:List Str}{d:DefRec}{N k n:Nat}{ds:List (Str×Stmt)}{xc:List Nat}{F:Fn}{x:Str} (said:l.wellSaid=true)
  (e:opening l.prog=plainProg l.prog.main.scope.names) (hN:Nat.ble 600 N=true) (f:∀ s,fenceModules? l.prog s=some s)
  (run:∀ (w:Ay) (os:OsState),(IQ treeTable l.prog w (DE w.params).objs.size ((DE w.params).nsMap DT "__annotations__") N (bootS w.params os) (topStub l.prog)).map
   (λ s=>NT l.prog q loose (λ s=>xlAt q [] s && recOk (RowW.records l.row.toRowW) s) (λ s=>JW ds xc (K7 s.heap)) (DE w.params) s.abs)=some (true,openGood q loose,JK ds))
  (hdef:defOf q l.row.name=some (d,[])) (hp:l.row.prog.theDef l.row.name=some (d.params,d.body,d.scope)) (hk:kwWritten? d.params.kwonlyargs d.params.kw_defaults=some []) (hwr:(!l.row.writes || l.row.records.isEmpty)=true)
  (ok:(chainsOk q && opensWell l.row.prog && (frees l.row.toRowW && l.row.within.isEmpty))=true) (hb:l.row.prog.bare) (hw:l.row.toRowW.promised)
  (hn:l.most=some n) (hn2:n<=Am) (hdf:d.params.defaults=[]) (hr:Room k HJ)
  (law:∀ (K:Frag) (w:Ay) (mg:Str->Option Ae) (fa:Addr),Given ds xc K mg->mg d.name=some (.ref fa)->∃ fd:CJ,(∀ (s:Ai) (u:Ae),BindsTo s fd ⟨[u],[]⟩ [(x,u)]) /\
   ∀ base:Heap,FnOk l.prog w K mg base (AS l.prog w K) k fa fd [x] (BH K false 1 F))
  (yes:∀ (K:Frag) (H:Hp) (a:Addr) (ns:List Int),ns.length<=n->GF H->AX K H a (ns.map V.int)->BH K false 1 F [.ref a] H (λ v _=>v=.bl true) λ _ _ _=>False):l.Holds:=by
 refine holds_law said λ ws=>?_;refine holds_open (q:=q) (loose:=loose) (Xt:=λ s=>xlAt q [] s && recOk (RowW.records l.row.toRowW) s) (XP:=XL q []) (Yf:=λ s=>JW ds xc (K7 s.heap)) (Ya:=λ _=>JK ds) (YP:=λ _ h=>∃ K:Frag,K.In h/\JW ds xc K=JK ds) (N:=N)
  (Y9 e hN f run) (λ _ s z=>⟨_,WK _,z⟩) (λ _ _ _ ⟨K,a,b⟩ kp=>⟨K,a.keeps kp,b⟩) (λ s e=>xl_of s (jn7.mp e).1) XL.keeps hdef hp hk (λ s e=>recFacts_of (jn7.mp e).2) hwr ws ok hb hw ?_
 refine Att.attach_call hn hdf λ w s₀ s₁ mg mb fa o pm cd doc a vs ns G Y ho hd hcd hmg hobj hints hlen hg=>?_;obtain ⟨K,KX,hf⟩:=Y;obtain ⟨fd,hbd,hF⟩:=law K w mg fa (ZW KX G.T.g hf) hmg;exact qC KX G.T.g G.T.b G.T.builtins G.T.nolimit hg hobj hints (Cg hlen hn2) hr (λ base _ _=>hF base) hbd (λ H hO hS=>yes K H a ns hlen hO hS) λ H e s'=>Yi
section
variable {P:A0}{w:Ay}{K:Frag}{mg:Str->Option Ae}{base:Heap}
def En {us:List Ae} (h:us.length=1):∃ a,us=[a]:=jn0.mp h
theorem BV {us:List Ae} (h:us.length=2):∃ a b,us=[a,b]:=by
 cases us with
 | nil=>cases h
 | cons a r=>obtain ⟨b,rfl⟩:=En (Nat.succ.inj h);exact ⟨a,b,rfl⟩
theorem Ij {us:List Ae} (h:us.length=3):∃ a b c,us=[a,b,c]:=by
 cases us with
 | nil=>cases h
 | cons a r=>obtain ⟨b,c,rfl⟩:=BV (Nat.succ.inj h);exact ⟨a,b,c,rfl⟩
theorem Py {us:List Ae} (h:us.length=4):∃ a b c d,us=[a,b,c,d]:=by
 cases us with
 | nil=>cases h
 | cons a r=>obtain ⟨b,c,d,rfl⟩:=Ij (Nat.succ.inj h);exact ⟨a,b,c,d,rfl⟩
def C2 {lvl:Nat} (hb:∀ x∈zzy,mg x=none):GS P w K mg base lvl []:=⟨hb,λ x io n F h=>by cases h⟩
def DZ {lvl:Nat}{x qual:Str}{st:Stmt}{fa:Addr}{fd:CJ}{ps:List Str}{io:Bool}{n:Nat}{F:Fn}{Γ:List (Str×(Bool×Nat×Fn))} (g:GS P w K mg base lvl Γ) (hx:(x == ("__debug__" : Str))=false) (hF:∀ xs,xs.length≠n->F xs=.no)
  (hm:mg x=some (.ref fa)) (Fu:Fun K x qual st fa fd) (hbd:zfp K fd ps []) (hn:ps.length=n) (ok:FnOk P w K mg base (AS P w K) lvl fa fd ps (BH K io n F)):GS P w K mg base lvl ((x,(io,n,F))::Γ):=by
 refine ⟨g.1,λ y io' n' F' h=>?_⟩;rw [Eo] at h;split at h
 ·rename_i e;cases h
  have:y=x:=eq_of_beq e
  subst this;exact ⟨hx,hF,fa,fd,ps,hm,Fu.kp,hbd,hn,ok⟩
 ·exact g.2 y io' n' F' h
def Y0 {lvl:Nat}:Fz P w K mg base lvl []:=λ x F h=>by cases h
def DV {lvl j:Nat}{x qual:Str}{st:Stmt}{fa:Addr}{fd:CJ}{ps:List Str}{io:Bool}{n:Nat}{F:Fn}{Γ:List (Str×(Bool×Nat×Fn))} (g:GS P w K mg base lvl Γ) (hm:mg x=some (.ref fa)) (Fu:Fun K x qual st fa fd) (hbd:zfp K fd ps []) (ok:FnOk P w K mg base (AS P w K) j fa fd ps (BH K io n F)) (hl:j<=lvl:=by decide) (hx:(x == ("__debug__" : Str))=false:=by decide +kernel) (hF:∀ xs,xs.length≠n->F xs=.no:=by exact DX) (hn:ps.length=n:=by rfl):GS P w K mg base lvl ((x,(io,n,F))::Γ):=DZ g hx hF hm Fu hbd hn (ok.mono hl)
def C5 (S:Sx) {lvl:Nat}{x qual:Str}{st:Stmt}{fa:Addr}{fd:CJ}{ps:List Str}{np k:Nat}{io:Bool}{b:Fs} (Fu:Fun K x qual st fa fd) (FS:FnScope S.N ps (Bo st)) (gX:GX K mg S.xc) (G:GS P w K mg base lvl S.Γ) (hb:BJ (AM 60 S) (BP st)=some b) (hsc:S.sc=Bo st:=by rfl) (hal:S.al=[]:=by rfl) (hnp:ps.length=np:=by rfl) (hk:S.N.length=np + k:=by rfl) (hms:∀ i∈S.ms,i < np->i=0/\io=true:=by decide) (hio:io=true->S.msF 0=true/\0 < np:=by first | exact λ h=>Bool.noConfusion h | exact λ _=>⟨rfl,by decide⟩) (Gm:Fz P w K mg base lvl S.Γm:=by exact Y0):FnOk P w K mg base (AS P w K) (lvl + 1) fa fd ps (BH K io np (A1 io np k b)):=Wu (S:=S) Fu FS hsc hal hnp hk hms hio gX G Gm hb
end
def sp_yes {K:Frag}{H:Hp}{a:Addr}{ns:List Int}{F:Fn} (hO:GF H) (hS:AX K H a (ns.map V.int)) (h:∃ d z,F [.scr ns]=.ok (.bl true,d,z)):BH K false 1 F [.ref a] H (λ v _=>v=.bl true) λ _ _ _=>False:=by
 refine ⟨rfl,[.scr ns],λ _=>False,.non,.non,[],λ _ z=>z.elim,λ _ z=>(nomatch z),λ _=>⟨rfl,?_⟩,(λ h=>nomatch h),?_⟩
 ·rw [OwnL];refine ⟨.ref a,[],[],[],rfl,rfl,λ _ z=>(nomatch z),?_,by rw [OwnL];exact ⟨rfl,rfl⟩⟩;rw [Own];refine ⟨rfl,a,rfl,?_⟩;rcases hS with (h | h) | h
  ·rcases hO a with z | ⟨ob,xs,z⟩
   ·rw [h] at z;cases z
   ·rw [h] at z;cases z
  ·exact .inl h
  ·exact .inr h
 ·obtain ⟨d,z,e⟩:=h;rw [e];intro v H' fp fp0' _ _ _ _ _ _ o _;rw [Own] at o;exact o.1
end QQ
namespace QV
open PySem PySem.Spec PyProof.Rows L2 QQ
def C1 {op:PV->Nat->PV->Nat->Option (PV×Nat)}{f g:Fx}{ρ ρ1 ρ2:Ah}{x y z:PV}{d e c:Nat} (h1:f ρ=.ok (x,d,ρ1)) (h2:g ρ1=.ok (y,e,ρ2)) (h3:op x d y e=some (z,c)):Ab op f g ρ=.ok (z,c,ρ2):=by
 unfold Ab;rw [h1];dsimp only [Rz.bind];rw [h2];dsimp only;rw [h3]
def M1 {op:PV->Nat->Option (PV×Nat)}{f:Fx}{ρ ρ1:Ah}{x z:PV}{d c:Nat} (h1:f ρ=.ok (x,d,ρ1)) (h3:op x d=some (z,c)):Aq op f ρ=.ok (z,c,ρ1):=by
 unfold Aq;rw [h1];dsimp only [Rz.bind];rw [h3]
def By {f:Fx}{fa:Fa}{ρ ρ1 ρ2:Ah}{x:PV}{d:Nat}{xs:List (PV×Nat)} (h1:f ρ=.ok (x,d,ρ1)) (h2:fa ρ1=.ok (xs,ρ2)):Ad f fa ρ=.ok ((x,d)::xs,ρ2):=by
 unfold Ad;rw [h1];dsimp only [Rz.bind];rw [h2]
def Bx {f:Fx}{ρ ρ1:Ah}{x:PV}{d:Nat} (h1:f ρ=.ok (x,d,ρ1)):Ad f Ac ρ=.ok ([(x,d)],ρ1):=By h1 rfl
def Dl {op:List (PV×Nat)->Option (PV×Nat)}{fa:Fa}{ρ ρ1:Ah}{xs:List (PV×Nat)}{z:PV}{c:Nat} (h1:fa ρ=.ok (xs,ρ1)) (h2:op xs=some (z,c)):Aj op fa ρ=.ok (z,c,ρ1):=by
 unfold Aj;rw [h1];dsimp only [Rz.bind];rw [h2]
def BO {F:Fn}{fa:Fa}{ρ ρ1:Ah}{xs:List (PV×Nat)}{y z:PV}{d:Nat} (h1:fa ρ=.ok (xs,ρ1)) (h2:F (xs.map (·.1))=.ok (y,d,z)):Az F fa ρ=.ok (y,d,ρ1):=by
 unfold Az;rw [h1];dsimp only [Rz.bind];rw [h2]
def DN {f:Fx}{ρ ρ1:Ah}{x:PV}{d:Nat} (h:f ρ=.ok (x,d,ρ1)):A8 f ρ=.rt x d ρ1:=by
 unfold A8;rw [h]
def Yo {f:Fx}{ρ ρ1:Ah}{x:PV}{d:Nat} (h:f ρ=.ok (x,d,ρ1)):Dk f ρ=.nx ρ1:=by
 unfold Dk;rw [h]
def AB {i:Nat}{f:Fx}{vs:List Nat}{ρ ρ1 ρ2:Ah}{x:PV}{d:Nat} (h:f ρ=.ok (x,d,ρ1)) (hc:i < ρ1.length) (e:(Bg d vs ρ1).set i (some (x,d))=ρ2):Af false i f vs ρ=.nx ρ2:=by
 unfold Af;rw [h];dsimp only;rw [if_pos ⟨hc,λ h=>nomatch h⟩,e]
def FL {i:Nat}{f:Fx}{vs:List Nat}{ρ ρ1 ρ2:Ah}{y:PV}{e:Nat}{xs:List PV}{d0 d:Nat}{xs0:List PV} (h0:ρ[i]?=some (some (.lst xs0,d0 + 1))) (h:f ρ=.ok (y,e,ρ1)) (h1:(Bg e vs ρ1)[i]?=some (some (.lst xs,d))) (hd:d≠0) (hl:xs.length < Am)
  (e2:(Bg e vs ρ1).set i (some (.lst (xs++[y]),if d=om/\e=om then om else 1))=ρ2):A2 i f vs ρ=.nx ρ2:=by
 unfold A2;rw [h0];dsimp only;rw [h];dsimp only;rw [h1];dsimp only;rw [if_pos ⟨hd,hl⟩,e2]
def A3 {f g:Fs}{ρ ρ1:Ah} (h:f ρ=.nx ρ1):Ag f g ρ=g ρ1:=by
 unfold Ag;rw [h]
def RX {c:Fb}{f g:Fs}{ρ ρ1:Ah}{b:Bool} (hc:c ρ=.ok (b,ρ1)):AW c f g ρ=if b=true then f ρ1 else g ρ1:=by
 unfold AW;rw [hc]
def Cj {c:Fb}{f g:Fs}{ρ ρ1:Ah} (hc:c ρ=.ok (true,ρ1)):AW c f g ρ=f ρ1:=by rw [RX hc];rfl
def Cr {c:Fb}{f g:Fs}{ρ ρ1:Ah} (hc:c ρ=.ok (false,ρ1)):AW c f g ρ=g ρ1:=by rw [RX hc];rfl
def HG {c:Fb}{f g:Fs}{ρ ρ1:Ah} (hc:c ρ=.ok (false,ρ1)):Ag (AW c f A4) g ρ=g ρ1:=A3 (by rw [Cr hc];rfl)
def JP {f g:Fs}{ρ ρ1:Ah}{x:PV}{d:Nat} (h:f ρ=.rt x d ρ1):Ag f g ρ=.rt x d ρ1:=by
 unfold Ag;rw [h]
def Bu {f:Fx}{ρ ρ1:Ah}{b:Bool}{d:Nat} (h:f ρ=.ok (.bl b,d,ρ1)):bT f ρ=.ok (b,ρ1):=by
 unfold bT;rw [h];rfl
def Hx {f:Fx}{ρ ρ1:Ah}{b:Bool}{d:Nat} (h:f ρ=.ok (.bl b,d,ρ1)):Aq Cu f ρ=.ok (.bl (!b),om,ρ1):=M1 h rfl
theorem IU {f g:Fx}{ρ ρ1:Ah}{a b:Bool}{d:Nat} (h:f ρ=.ok (.bl a,d,ρ1)) (h2:a=true->g ρ1=.ok (.bl b,om,ρ1)) (hd:d=om):D1 f g ρ=.ok (.bl (a && b),om,ρ1):=by
 subst hd;unfold D1;rw [h];cases a with
 | false=>rfl
 | true=>exact h2 rfl
theorem Jm {f g:Fx}{ρ ρ1:Ah}{a b:Bool}{d:Nat} (h:f ρ=.ok (.bl a,d,ρ1)) (h2:a=false->g ρ1=.ok (.bl b,om,ρ1)) (hd:d=om):Bb f g ρ=.ok (.bl (a || b),om,ρ1):=by
 subst hd;unfold Bb;rw [h];cases a with
 | true=>rfl
 | false=>exact h2 rfl
def Hv {f g:Fx}{ρ ρ1 ρ2:Ah}{i j:Int}{d e:Nat} (h1:f ρ=.ok (.int i,d,ρ1)) (h2:g ρ1=.ok (.int j,e,ρ2)) (h:(-(2 ^ 64) < i/\i < 2 ^ 64)\/(-(2 ^ 64) < j/\j < 2 ^ 64)):Ab BR f g ρ=.ok (.int (i * j),om,ρ2):=by
 refine C1 h1 h2 ?_;show (if ER i j=true then _ else _)=_;rw [if_pos];unfold ER;rcases h with h | h
 ·rw [decide_eq_true h.1,decide_eq_true h.2];rfl
 ·rw [decide_eq_true h.1,decide_eq_true h.2];simp
def Dn {f g:Fx}{ρ ρ1 ρ2:Ah}{i j:Int}{d e:Nat} (h1:f ρ=.ok (.int i,d,ρ1)) (h2:g ρ1=.ok (.int j,e,ρ2)) (h:0 < j):Ab AI f g ρ=.ok (.int (i % j),om,ρ2):=by
 refine C1 h1 h2 ?_;show (if Ga i j=true then _ else _)=_;rw [if_pos];exact decide_eq_true h
def IX {f g:Fx}{ρ ρ1 ρ2:Ah}{i j:Int}{d e:Nat} (h1:f ρ=.ok (.int i,d,ρ1)) (h2:g ρ1=.ok (.int j,e,ρ2)) (h:0 < j) (h':j < 2 ^ 128):Ab BY f g ρ=.ok (.int (i / j),om,ρ2):=by
 refine C1 h1 h2 ?_;show (if ES i j=true then _ else _)=_;rw [if_pos];unfold ES;rw [decide_eq_true h,decide_eq_true h'];rfl
def add_ok {f g:Fx}{ρ ρ1 ρ2:Ah}{i j:Int}{d e:Nat} (h1:f ρ=.ok (.int i,d,ρ1)) (h2:g ρ1=.ok (.int j,e,ρ2)):Ab Ao f g ρ=.ok (.int (i + j),om,ρ2):=C1 h1 h2 rfl
def IT {f g:Fx}{ρ ρ1 ρ2:Ah}{i j:Int}{d e:Nat} (h1:f ρ=.ok (.int i,d,ρ1)) (h2:g ρ1=.ok (.int j,e,ρ2)):Ab Cm f g ρ=.ok (.int (i - j),om,ρ2):=C1 h1 h2 rfl
def FN {p:Int->Int->Bool}{f g:Fx}{ρ ρ1 ρ2:Ah}{i j:Int}{d e:Nat} (h1:f ρ=.ok (.int i,d,ρ1)) (h2:g ρ1=.ok (.int j,e,ρ2)):Ab (BA p) f g ρ=.ok (.bl (p i j),om,ρ2):=C1 h1 h2 rfl
def zB {neg:Bool}{i j:Int}{d e:Nat}:Au neg (.int i) d (.int j) e=some (.bl (neg^^decide (i=j)),om):=by
 show some (PV.bl (neg^^Hg (.int i) (.int j)),om)=_
 have:Hg (.int i) (.int j)=decide (i=j):=by
  show (i == j)=_;rfl
 rw [this]
def GV {neg:Bool}{f g:Fx}{ρ ρ1 ρ2:Ah}{i j:Int}{d e:Nat} (h1:f ρ=.ok (.int i,d,ρ1)) (h2:g ρ1=.ok (.int j,e,ρ2)):Ab (Au neg) f g ρ=.ok (.bl (neg^^decide (i=j)),om,ρ2):=C1 h1 h2 zB
def il (xs:List Int):PV:=.lst (xs.map .int)
def tb (t:List (List Int)):PV:=.lst (t.map il)
abbrev bx (a b c:Int):PV:=.tup [.int a,.int b,.int c]
def Ey {α:Type}{xs:List α}{k:Int}{x:α} (h0:0<=k) (h:xs[k.toNat]?=some x):BE xs k=some x:=by
 have hl:=(ja3.mp h).1;unfold BE Dj;rw [if_pos h0,if_pos (by omega)];exact h
def GZ {f g:Fx}{ρ ρ1 ρ2:Ah}{xs:List Int}{k x:Int}{d e:Nat} (h1:f ρ=.ok (il xs,d,ρ1)) (h2:g ρ1=.ok (.int k,e,ρ2)) (h:BE xs k=some x):Ab Al f g ρ=.ok (.int x,om,ρ2):=by
 refine C1 h1 h2 ?_;show (BE (xs.map PV.int) k).map _=_
 have:BE (xs.map PV.int) k=some (.int x):=by
  unfold BE at h ⊢;rw [A5];cases e:Dj xs.length k with
  | none=>rw [e] at h;cases h
  | some j=>
   rw [e] at h;have h':xs[j]?=some x:=h;show (xs.map PV.int)[j]?=_;rw [Cs,h'];rfl
 rw [this];rfl
def W7 {f g:Fx}{ρ ρ1 ρ2:Ah}{t:List (List Int)}{k:Int}{r:List Int}{d e:Nat} (h1:f ρ=.ok (tb t,d,ρ1)) (h2:g ρ1=.ok (.int k,e,ρ2)) (h:BE t k=some r):Ab Al f g ρ=.ok (il r,0,ρ2):=by
 refine C1 h1 h2 ?_;show (BE (t.map il) k).map _=_
 have:BE (t.map il) k=some (il r):=by
  unfold BE at h ⊢;rw [A5];cases e:Dj t.length k with
  | none=>rw [e] at h;cases h
  | some j=>
   rw [e] at h;have h':t[j]?=some r:=h;show (t.map il)[j]?=_;rw [Cs,h'];rfl
 rw [this];rfl
def Xn {fa:Fa}{ρ ρ1:Ah}{xs:List Int}{d:Nat} (h:fa ρ=.ok ([(il xs,d)],ρ1)):Aj BF fa ρ=.ok (.int xs.length,om,ρ1):=by
 refine Dl h ?_;show some (PV.int ((xs.map PV.int).length:Nat),om)=_;rw [A5]
theorem NJ {α:Type}{n:Nat}{test:Fb}{elt:Fx}{enc q:α->PV}{e:α->Nat}{p:α->Bool}:∀ (xs:List α) (ρ:Ah) (acc:List (PV×Nat)),ρ.length=n->(∀ x∈xs,test (ρ++[some (enc x,dv (enc x))])=.ok (p x,ρ++[some (enc x,dv (enc x))])) ->
  (∀ x∈xs,p x=true->elt (ρ++[some (enc x,dv (enc x))])=.ok (q x,e x,ρ++[some (enc x,dv (enc x))]))->acc.length + xs.length<=Am->Ct 1 (asgN n) test elt (xs.map enc) ρ acc=.ok (acc++(xs.filter p).map (λ x=>(q x,e x)),ρ)
 | [],ρ,acc,_,_,_,_=>by simp [Ct]
 | x::xs,ρ,acc,hn,ht,he,hl=>by
  have ea:asgN n (enc x) (ρ++AK 1 none)=some (ρ++[some (enc x,dv (enc x))]):=by
   unfold asgN;rw [if_pos (by rw [AV,hn];simp),List.set_append_right _ _ (by omega),hn];simp
  have ih:=λ acc h=>NJ (n:=n) (test:=test) (elt:=elt) (p:=p) (q:=q) (e:=e) (enc:=enc) xs ρ acc hn (λ y hy=>ht y (AQ _ hy)) (λ y hy=>he y (AQ _ hy)) h;have tk:(ρ++[some (enc x,dv (enc x))]).take ρ.length=ρ:=by simp
  rw [Ba] at hl;rw [BQ];unfold Ct;rw [ea];dsimp only;rw [ht x Bf];dsimp only [Rz.bindN];cases hp:p x with
  | false=>
   rw [if_neg Di,tk,ih acc (by omega),PZ (by simp [hp])]
  | true=>
   rw [if_pos rfl,he x Bf hp];dsimp only;rw [if_pos (by omega),tk,ih _ (by rw [AV,Gn];omega),PY hp];simp
theorem NG {α:Type} (q:α->PV):∀ xs:List α,CY (xs.map λ x=>(q x,om))=true
 | []=>rfl
 | x::xs=>by rw [BQ];unfold CY;rw [NG q xs];rfl
def Lf {α:Type}{n:Nat}{f elt:Fx}{enc q:α->PV}{ρ ρ1:Ah}{d:Nat} (xs:List α) (hf:f ρ=.ok (.lst (xs.map enc),d,ρ1)) (hn:ρ1.length=n) (he:∀ x∈xs,elt (ρ1++[some (enc x,dv (enc x))])=.ok (q x,om,ρ1++[some (enc x,dv (enc x))])) (hl:xs.length<=Am):
  CO f 1 (asgN n) D3 elt ρ=.ok (.lst (xs.map q),om,ρ1):=by
 unfold CO;rw [hf];dsimp only;rw [NJ (p:=λ _=>true) (q:=q) (e:=λ _=>om) xs ρ1 [] hn (λ _ _=>rfl) (λ x hx _=>he x hx) (by simpa using hl),jo5.mpr (λ _ _=>rfl)];show ED (xs.map λ x=>(q x,om)) ρ1=_;unfold ED;rw [NG,Ik];rfl
def Uz {α:Type}{n:Nat}{f elt:Fx}{enc q:α->PV}{ρ ρ1:Ah}{d:Nat} (xs:List α) (hf:f ρ=.ok (.tup (xs.map enc),d,ρ1)) (hn:ρ1.length=n) (he:∀ x∈xs,elt (ρ1++[some (enc x,dv (enc x))])=.ok (q x,om,ρ1++[some (enc x,dv (enc x))])) (hl:xs.length<=Am):
  CO f 1 (asgN n) D3 elt ρ=.ok (.lst (xs.map q),om,ρ1):=by
 unfold CO;rw [hf];dsimp only;rw [NJ (p:=λ _=>true) (q:=q) (e:=λ _=>om) xs ρ1 [] hn (λ _ _=>rfl) (λ x hx _=>he x hx) (by simpa using hl),jo5.mpr (λ _ _=>rfl)];show ED (xs.map λ x=>(q x,om)) ρ1=_;unfold ED;rw [NG,Ik];rfl
def Q8 (lo:Int) (n:Nat):EC lo n=(Bh n).map λ (k:Nat)=>PV.int (lo + (k:Int)):=rfl
theorem ZF {α:Type} (g:α->Bool) (xs:List α):QQ.allB (xs.map λ x=>.bl (g x))=some (xs.map g):=by
 induction xs with
 | nil=>rfl
 | cons x r ih=>rw [BQ,BQ,QQ.allB,ih];rfl
def all_ok {α:Type}{f:Fx}{ρ ρ1:Ah}{d:Nat}{g:α->Bool}{xs:List α} (h:f ρ=.ok (.lst (xs.map λ x=>.bl (g x)),d,ρ1)):Aj HE (Ad f Ac) ρ=.ok (.bl (xs.all g),om,ρ1):=by
 refine Dl (Bx h) ?_;show (QQ.allB _).map _=_;rw [ZF];simp
theorem Rh {i:Nat}{body:Fs}{lo:Int} (I:Nat->Ah->Prop):∀ (m k:Nat) (ρ:Ah),I k ρ->(∀ j ρ,k<=j->j < k + m->I j ρ->i < ρ.length/\∃ ρ2,body (ρ.set i (some (.int (lo + (j:Int)),om)))=.nx ρ2/\I (j + 1) ρ2) ->
  ∃ ρ',Bm (asgN i) body ((Jo k m).map λ (k:Nat)=>PV.int (lo + (k:Int))) ρ=.nx ρ'/\I (k + m) ρ'
 | 0,k,ρ,hi,_=>⟨ρ,rfl,hi⟩
 | m + 1,k,ρ,hi,hb=>by
  obtain ⟨h1,ρ2,e2,h2⟩:=hb k ρ (A7 _) (by omega) hi;obtain ⟨ρ',e',h'⟩:=Rh (i:=i) (body:=body) (lo:=lo) I m (k + 1) ρ2 h2 λ j ρ a b=>hb j ρ (by omega) (by omega);refine ⟨ρ',?_,by rw [show k + (m + 1)=k + 1 + m by omega];exact h'⟩;rw [UQ,BQ];unfold Bm
  have:asgN i (PV.int (lo + (k:Int))) ρ=some (ρ.set i (some (.int (lo + (k:Int)),om))):=by
   unfold asgN;rw [if_pos h1];rfl
  rw [this];dsimp only;rw [e2];exact e'
def Lh {i:Nat}{body:Fs}{en:List (PV×Nat)->Option (Int×Int)}{fa:Fa}{ρ ρ1:Ah}{as:List (PV×Nat)}{lo hi:Int} (I:Nat->Ah->Prop) (hf:fa ρ=.ok (as,ρ1)) (hen:en as=some (lo,hi)) (h0:I 0 ρ1)
  (hb:∀ j ρ,j < (hi - lo).toNat->I j ρ->i < ρ.length/\∃ ρ2,body (ρ.set i (some (.int (lo + (j:Int)),om)))=.nx ρ2/\I (j + 1) ρ2):∃ ρ',CZ en fa (asgN i) body ρ=.nx ρ'/\I (hi - lo).toNat ρ':=by
 obtain ⟨ρ',e,h⟩:=Rh (i:=i) (body:=body) (lo:=lo) I (hi - lo).toNat 0 ρ1 h0 λ j ρ _ h hi=>hb j ρ (by omega) hi;refine ⟨ρ',?_,by rw [Jq] at h;exact h⟩;unfold CZ;rw [hf];dsimp only;rw [hen];dsimp only;rw [Q8,List.range_eq_range'];exact e
def JE {j:Int}{d:Nat} (h1:-(2 ^ 62)<=j) (h2:j < 2 ^ 62):C6 [(.int j,d)]=some (0,j):=by
 show (if -(2 ^ 62)<=j/\j < 2 ^ 62 then some ((0:Int),j) else none)=_;rw [if_pos ⟨h1,h2⟩]
def C3 {np k:Nat}{b:Fs}{xs:List PV}{ρ':Ah}{y:PV}{d:Nat} (hl:xs.length=np) (h:b (xs.map (λ x=>some (x,dv x))++AK k none)=.rt y d ρ'):A1 false np k b xs=.ok (y,d,.non):=by
 unfold A1;rw [if_pos hl]
 have:D8 false xs=xs.map λ x=>some (x,dv x):=rfl
 rw [this,h];rfl
def Wv {np k:Nat}{b:Fs}{xs:List PV}{ρ':Ah} (hl:xs.length=np) (h:b (xs.map (λ x=>some (x,dv x))++AK k none)=.nx ρ'):A1 false np k b xs=.ok (.non,om,.non):=by
 unfold A1;rw [if_pos hl]
 have:D8 false xs=xs.map λ x=>some (x,dv x):=rfl
 rw [this,h];rfl
def Xf_is_whole_number:Fs:=(A8 (D1 (Aq (Eb "int") (Aa 0)) (Aq Cu (Aq (Eb "bool") (Aa 0)))))
def f_is_whole_number:Fn:=A1 false 1 0 Xf_is_whole_number
def Xf_is_box:Fs:=(Ag (AW (bT (Bb (Aq Cu (Aq (Eb "tuple") (Aa 0))) (Ab (Au true) (Aj BF (Ad (Aa 0) (Ac))) (bC (.int 3))))) (A8 (bC (.bl false))) A4)
 (A8 (Aj HE (Ad (CO (Aa 0) 1 (asgN 1) D3 (D1 (Az f_is_whole_number (Ad (Aa 1) (Ac))) (Ab (BA λ i j=>decide (j<=i)) (Aa 1) (bC (.int 1))))) (Ac)))))
def f_is_box:Fn:=A1 false 1 0 Xf_is_box
def Xf_must_be_box:Fs:=(AW (bT (Aq Cu (Az f_is_box (Ad (Aa 0) (Ac))))) (Ek 1) A4)
def f_must_be_box:Fn:=A1 false 1 0 Xf_must_be_box
def Xb_cell_at:Fs:=(Ag (AW (bT (Ab (BA λ i j=>decide (i < j)) (Aa 1) (Aj BF (Ad (Aa 0) (Ac))))) (A8 (Ab Al (Aa 0) (Aa 1))) A4)
 (A8 (bC (.int 0))))
def b_cell_at:Fn:=A1 false 2 0 Xb_cell_at
def Xb_stir:Fs:=(Ag (Af false 2 (Ab AI (Ab BR (Ab Ao (Ab Ao (Ab AI (Aa 0) (bC (.int 2147483629))) (Ab BR (bC (.int 9973)) (Aa 1))) (bC (.int 5))) (bC (.int 48271))) (bC (.int 2147483647))) [0,1])
 (Ag (Af false 2 (Ab AI (Ab BR (Aa 2) (Aa 2)) (bC (.int 2147483587))) [2,2])
 (A8 (Ab BY (Ab AI (Ab BR (Ab Ao (Aa 2) (Ab BR (bC (.int 7919)) (Aa 1))) (bC (.int 16807))) (bC (.int 2147483563))) (bC (.int 8))))))
def b_stir:Fn:=A1 false 2 1 Xb_stir
def Xb_numbers:Fs:=(Ag (Af false 2 (Aj AA (Ac)) [])
 (Ag (Af false 3 (Aa 0) [0])
 (Ag (CZ C6 (Ad (Aa 1) (Ac)) (asgN 4) (Ag (Af false 5 (Az b_stir (Ad (Aa 0) (Ad (Aa 4) (Ac)))) [0,4])
 (Ag (AW (bT (Ab (BA λ i j=>decide (j<=i)) (Aa 0) (Ab FK (bC (.int 10)) (bC (.int 18))))) (Af false 5 (Ab AI (Aa 3) (bC (.int 720720))) [3]) A4)
 (Ag (Af false 3 (Ab BY (Aa 3) (bC (.int 720720))) [3])
 (A2 2 (Aa 5) [5])))))
 (E3 2))))
def b_numbers:Fn:=A1 false 2 4 Xb_numbers
def Xb_box:Fs:=(Ag (Af false 3 (Az b_numbers (Ad (Aa 0) (Ad (bC (.int 4)) (Ac)))) [0])
 (Ag (AW (bT (Ab (Au false) (Ab AI (Ab Al (Aa 3) (bC (.int 3))) (bC (.int 8))) (bC (.int 3)))) (Af false 1 (Aa 2) [2]) A4)
 (A8 (Aj BC (Ad (Ab Ao (bC (.int 1)) (Ab AI (Ab Al (Aa 3) (bC (.int 0))) (Aa 1))) (Ad (Ab Ao (bC (.int 1)) (Ab AI (Ab Al (Aa 3) (bC (.int 1))) (Aa 1))) (Ad (Ab Ao (bC (.int 1)) (Ab AI (Ab Al (Aa 3) (bC (.int 2))) (Aa 1))) (Ac))))))))
def b_box:Fn:=A1 false 3 1 Xb_box
def Xb_pile:Fs:=(Ag (Af false 4 (Az b_numbers (Ad (Aa 3) (Ad (Ab BR (Ab Al (Aa 0) (bC (.int 0))) (Ab Al (Aa 0) (bC (.int 1)))) (Ac)))) [3,0,0])
 (Ag (Af false 5 (Aj AA (Ac)) [])
 (Ag (CZ C6 (Ad (Ab Al (Aa 0) (bC (.int 0))) (Ac)) (asgN 6) (Ag (Af false 7 (Aj AA (Ac)) [])
 (Ag (CZ C6 (Ad (Ab Al (Aa 0) (bC (.int 1))) (Ac)) (asgN 8) (Ag (Af false 9 (Ab Al (Aa 4) (Ab Ao (Ab BR (Aa 6) (Ab Al (Aa 0) (bC (.int 1)))) (Aa 8))) [4,6,0,8])
 (Ag (AW (bT (Ab (BA λ i j=>decide (i < j)) (Ab Ao (Ab Ao (Aa 2) (Ab BR (Aa 6) (Ab Al (Aa 0) (bC (.int 1))))) (Aa 8)) (Aj BF (Ad (Aa 1) (Ac))))) (Af false 9 (Ab Al (Aa 1) (Ab Ao (Ab Ao (Aa 2) (Ab BR (Aa 6) (Ab Al (Aa 0) (bC (.int 1))))) (Aa 8))) [1,2,6,0,8]) A4)
 (Ag (Af false 10 (Ab Al (Ab Ao (Aj AA (Ad (Ab Al (Aa 0) (bC (.int 2))) (Ac))) (CO (AH (Aa 5) (some (Aq BB (bC (.int 1)))) none) 1 (asgN 11) D3 (Ab Al (Ab Al (Aa 5) (Aq BB (bC (.int 1)))) (Aa 8)))) (Aq BB (bC (.int 1)))) [0,5,5,8])
 (Ag (Af false 10 (Aj DQ (Ad (Ab Ao (Aj AA (Ad (Aa 10) (Ac))) (AH (Aa 7) (some (Aq BB (bC (.int 1)))) none)) (Ac))) [10,7])
 (A2 7 (Ab Cm (Aa 10) (Ab Al (Aj AA (Ad (bC (.int 0)) (Ad (bC (.int 0)) (Ad (Aj DQ (Ad (bC (.int 1)) (Ad (Aa 10) (Ac)))) (Ad (Ab AI (Ab BY (Aa 9) (bC (.int 4))) (Ab Ao (Aa 10) (bC (.int 1)))) (Ac)))))) (Ab AI (Aa 9) (bC (.int 4))))) [10,10,9,10,9]))))))
 (A2 5 (Aa 7) [7]))))
 (E3 5))))
def b_pile:Fn:=A1 false 4 7 Xb_pile
def Xf_is_way:Fs:=(Ag (EN (BN [2,3,4]) (Aa 0) [0])
 (Ag (AW (bT (Bb (Aq Cu (Aq (Eb "str") (Aa 1))) (Ab (Au true) (Aj BF (Ad (Aa 1) (Ac))) (Ab Ao (Aa 2) (Aa 3))))) (A8 (bC (.bl false))) A4)
 (A8 (D1 (Ab (Au false) (Dx 1 (bC (.str "d"))) (Aa 2)) (Ab (Au false) (Dx 1 (bC (.str "r"))) (Aa 3))))))
def f_is_way:Fn:=A1 false 2 3 Xf_is_way
def Xf_is_list_of_ways:Fs:=(A8 (D1 (Aq (Eb "list") (Aa 1)) (Aj HE (Ad (CO (Aa 1) 1 (asgN 2) D3 (Az f_is_way (Ad (Aa 0) (Ad (Aa 2) (Ac))))) (Ac)))))
def f_is_list_of_ways:Fn:=A1 false 2 0 Xf_is_list_of_ways
def Xf_points_moved_apart:Fs:=(Ag (Af false 2 (Aq BB (Aa 1)) [1])
 (Ag (Af false 3 (Aa 1) [1])
 (Ag (Af false 4 (Aj AA (Ad (Aj BC (Ad (Aa 2) (Ad (Aa 3) (Ac)))) (Ac))) [2,3])
 (Ag (Cc (Aa 0) [0] (asgN 5) (Ag (AW (bT (Ab (Au false) (Aa 5) (bC (.str "r")))) (CT (λ i j=>i + j) true 2 (bC (.int 1))) (CT (λ i j=>i + j) true 3 (bC (.int 1))))
 (A2 4 (Aj BC (Ad (Aa 2) (Ad (Aa 3) (Ac)))) [2,3])))
 (E3 4)))))
def f_points_moved_apart:Fn:=A1 false 2 4 Xf_points_moved_apart
def Xf_never_touch:Fs:=(Ag (Dk (Az f_must_be_box (Ad (Aa 0) (Ac))))
 (Ag (AW (bT (Aq Cu (Az f_is_list_of_ways (Ad (Aa 0) (Ad (Aa 1) (Ac)))))) (Ek 4) A4)
 (Ag (Af false 2 Gz [])
 (Ag (Jn .enm (Ad (Aa 1) (Ac)) [1] (BN [3,4]) (Cc (Az f_points_moved_apart (Ad (Aa 4) (Ad (Aa 3) (Ac)))) [4,3] (asgN 5) (Ag (AW (bT (Ab (CU false) (Aa 5) (Aa 2))) (A8 (bC (.bl false))) A4)
 (CN 2 (Aa 5) (bC (.bl true))))))
 (A8 (bC (.bl true)))))))
def f_never_touch:Fn:=A1 false 2 4 Xf_never_touch
def Xb_drawn_way:Fs:=(Ag (Af false 2 (bC (.str "")) [])
 (Ag (Af false 3 (Aj AA (Ad (Ab Al (Aa 0) (bC (.int 0))) (Ad (Ab Al (Aa 0) (bC (.int 1))) (Ac)))) [0,0])
 (Ag (Cc (Az b_numbers (Ad (Aa 1) (Ad (Ab Ao (Ab Al (Aa 0) (bC (.int 0))) (Ab Al (Aa 0) (bC (.int 1)))) (Ac)))) [1,0,0] (asgN 4) (Ag (Af false 5 (Ab AI (Ab BY (Aa 4) (bC (.int 3))) (bC (.int 2))) [4])
 (Ag (AW (bT (Ab (Au false) (Ab Al (Aa 3) (Aa 5)) (bC (.int 0)))) (Af false 5 (Ab Cm (bC (.int 1)) (Aa 5)) [5]) A4)
 (Ag (CN 3 (Aa 5) (Ab Cm (Ab Al (Aa 3) (Aa 5)) (bC (.int 1))))
 (Af false 2 (Ab Ao (Aa 2) (Ab Al (bC (.str "dr")) (Aa 5))) [2,5])))))
 (E3 2))))
def b_drawn_way:Fn:=A1 false 2 4 Xb_drawn_way
def Xb_exchanged:Fs:=(Ag (Af false 2 (Ab AI (Aa 1) (Ab Cm (Aj BF (Ad (Aa 0) (Ac))) (bC (.int 1)))) [1,0])
 (A8 (Ab Ao (Ab Ao (Ab Ao (AH (Aa 0) none (some (Aa 2))) (Ab Al (Aa 0) (Ab Ao (Aa 2) (bC (.int 1))))) (Ab Al (Aa 0) (Aa 2))) (AH (Aa 0) (some (Ab Ao (Aa 2) (bC (.int 2)))) none))))
def b_exchanged:Fn:=A1 false 2 1 Xb_exchanged
def Xb_some_ways:Fs:=(Ag (Af false 3 (Aj Fj (Ad (Aa 1) (Ac))) [1])
 (Ag (Cc (Aa 2) [2] (asgN 4) (Ag (Af false 5 (Ab AI (Aa 4) (Aj BF (Ad (Aa 3) (Ac)))) [4,3])
 (Ag (AW (bT (Ab (BA λ i j=>decide (j < i)) (Ab AI (Ab BY (Aa 4) (bC (.int 7))) (bC (.int 4))) (bC (.int 0)))) (CN 3 (Aa 5) (Az b_exchanged (Ad (Ab Al (Aa 3) (Aa 5)) (Ad (Ab BY (Aa 4) (bC (.int 28))) (Ac))))) A4)
 (AW (bT (Ab (Au false) (Ab AI (Ab BY (Aa 4) (bC (.int 7))) (bC (.int 4))) (bC (.int 0)))) (CN 3 (Aa 5) (Az b_drawn_way (Ad (Aa 0) (Ad (Ab BY (Aa 4) (bC (.int 28))) (Ac))))) A4))))
 (E3 3)))
def b_some_ways:Fn:=A1 false 3 3 Xb_some_ways
def sz:(1000000:Nat)<=Am:=by decide
def ID (a b c:Int):Bool:=decide (1<=a) && (decide (1<=b) && decide (1<=c))
def xn (a b c:Int):f_is_box [bx a b c]=.ok (.bl (ID a b c),om,.non):=by
 have e0:∀ x∈[a,b,c],(D1 (Az f_is_whole_number (Ad (Aa 1) (Ac))) (Ab (BA λ i j=>decide (j<=i)) (Aa 1) (bC (.int 1)))) ([some (bx a b c,0)]++[some (.int x,om)])=.ok (.bl (decide (1<=x)),om,[some (bx a b c,0)]++[some (.int x,om)]):=λ x _=>by kernel_rfl
 have e1:=Uz (n:=1) (f:=Aa 0) (ρ:=[some (bx a b c,0)]) (enc:=PV.int) (q:=λ x=>.bl (decide (1<=x))) (d:=0) [a,b,c] rfl rfl e0 (by have:=sz;show 3<=Am;omega);refine C3 rfl (ρ':=[some (bx a b c,0)]) ?_;show Xf_is_box [some (bx a b c,0)]=_;refine (HG (ρ1:=[some (bx a b c,0)]) (by kernel_rfl)).trans (DN ?_);rw [all_ok e1];show Rz.ok (PV.bl (decide (1<=a) && (decide (1<=b) && (decide (1<=c) && true))),om,_)=_;rw [Jr];rfl
def V7 {a b c:Int} (h:ID a b c=true):f_must_be_box [bx a b c]=.ok (.non,om,.non):=by
 refine Wv rfl (ρ':=[some (bx a b c,0)]) ?_;have hb:=xn a b c;rw [h] at hb;exact Cr (f:=Ek 1) (g:=A4) (Bu (Hx (BO (F:=f_is_box) (fa:=Ad (Aa 0) Ac) (ρ:=[some (bx a b c,0)]) (xs:=[(bx a b c,0)]) rfl hb)))
def Fh {xs:List Int}{j:Nat} (h:j < xs.length):xs[j]?=some (xs.getD j 0):=by
 rw [Ca,CD h];rfl
def xg {xs:List (List Int)}{j:Nat} (h:j < xs.length):xs[j]?=some (xs.getD j []):=by
 rw [Ca,CD h];rfl
def Tab (a b:Nat) (t:List (List Int)):Prop:=t.length=a/\∀ r∈t,r.length=b
def cnt (xs:List Int) (k:Int):Int:=((xs.filter λ x=>decide (k < x)).length:Nat)
def Hy (t:List (List Int)) (k:Int):List Int:=t.map λ r=>cnt r k
def Cd (t:List (List Int)) (c:Nat):List (List Int):=(Bh c).map λ (k:Nat)=>Hy t (k:Int)
def Uo (t:List (List Int)) (r:List Int):PV.lst ((t.map il)++[il r])=tb (t++[r]):=by
 unfold tb;rw [Du];rfl
def g (t:List (List Int)) (i j:Nat):Int:=(t.getD i []).getD j 0
structure Pile (a b:Nat) (c:Int) (t:List (List Int)):Prop where
 tab:Tab a b t
 lo:∀ i j,i < a->j < b->0<=g t i j
 hi:∀ i j,i < a->j < b->g t i j<=c
 dn:∀ i j,i + 1 < a->j < b->g t (i + 1) j<=g t i j
 rt:∀ i j,i < a->j + 1 < b->g t i (j + 1)<=g t i j
def Z4 {t:List (List Int)}{i:Nat} (h:i < t.length):t.getD i []∈t:=by
 rw [Ca,CD h];exact Hj h
def Tab.row {a b:Nat}{t:List (List Int)} (h:Tab a b t) {i:Nat} (hi:i < a):(t.getD i []).length=b:=h.2 _ (Z4 (by rw [h.1];exact hi))
def getD_mem {xs:List Int}{i:Nat} (h:i < xs.length):xs.getD i 0∈xs:=by
 rw [Ca,CD h];exact Hj h
def Ri {xs:List Int}{x:Int} (h:x∈xs):∃ i,i < xs.length/\xs.getD i 0=x:=by
 obtain ⟨i,hi,e⟩:=KO h;exact ⟨i,hi,by rw [Ca,CD hi];exact e⟩
def xG {t:List (List Int)}{r:List Int} (h:r∈t):∃ i,i < t.length/\t.getD i []=r:=by
 obtain ⟨i,hi,e⟩:=KO h;exact ⟨i,hi,by rw [Ca,CD hi];exact e⟩
def YC {a i:Nat}{f:Nat->List Int} (hi:i < a):((Bh a).map f).getD i []=f i:=by
 rw [Ca,Cs,MY hi];rfl
def V9 {a b c:Nat}{t:List (List Int)} (ht:Tab a b t):Tab c a (Cd t c):=by
 refine ⟨by unfold Cd;rw [A5,EW],λ r hr=>?_⟩;obtain ⟨i,_,rfl⟩:=je6.mp hr;unfold Hy;rw [A5,ht.1]
def Hz {a b c k i:Nat}{t:List (List Int)} (ht:Tab a b t) (hk:k < c) (hi:i < a):g (Cd t c) k i=cnt (t.getD i []) k:=by
 unfold g Cd;rw [YC hk];unfold Hy;rw [Ca,Cs,CD (by rw [ht.1];exact hi),Ca,CD (by rw [ht.1];exact hi)];rfl
def cnt_cons {x k:Int}{r:List Int}:cnt (x::r) k=cnt r k + if k < x then 1 else 0:=by
 unfold cnt;by_cases h:k < x
 ·rw [PY (p:=λ x=>decide (k < x)) (decide_eq_true h),Ba,if_pos h];omega
 ·rw [PZ (p:=λ x=>decide (k < x)) (by rw [decide_eq_true_iff];exact h),if_neg h];omega
def M9 (r:List Int) (k:Int):0<=cnt r k:=by unfold cnt;omega
def Pb (r:List Int) (k:Int):cnt r k<=r.length:=by
 unfold cnt
 have:=List.length_filter_le (λ x=>decide (k < x)) r
 omega
def Nr (r:List Int):Prop:=∀ k,k + 1 < r.length->r.getD (k + 1) 0<=r.getD k 0
def Nr.tail {x:Int}{r:List Int} (h:Nr (x::r)):Nr r:=λ k hk=>h (k + 1) (by rw [Ba];omega)
theorem Nr.le {r:List Int} (h:Nr r):∀ {i j:Nat},i<=j->j < r.length->r.getD j 0<=r.getD i 0:=by
 intro i j hij hj;induction j with
 | zero=>
  have:i=0:=by omega
  rw [this];exact MK _
 | succ j ih=>
  by_cases e:i=j + 1
  ·rw [e];exact MK _
  ·exact UB (h j hj) (ih (by omega) (by omega))
theorem Uy {k:Int}:∀ {r:List Int},(∀ x∈r,x<=k)->cnt r k=0
 | [],_=>rfl
 | x::r,h=>by
  rw [cnt_cons,if_neg (by have:=h x Bf;omega),Uy λ y hy=>h y (AQ _ hy)];rfl
theorem SF {k:Int}:∀ {r:List Int},Nr r->∀ {j:Nat},j < r.length->((j:Int) < cnt r k↔k < r.getD j 0)
 | [],_,j,h=>absurd h (by simp)
 | x::r,hn,j,hj=>by
  rw [cnt_cons];by_cases hx:k < x
  ·rw [if_pos hx];cases j with
   | zero=>
    have:=M9 r k
    constructor
    ·intro _;exact hx
    ·intro _;omega
   | succ j=>
    have:=SF (k:=k) hn.tail (j:=j) (by rw [Ba] at hj;omega)
    show ((j + 1:Nat):Int) < _↔k < r.getD j 0;rw [<- this];omega
  ·rw [if_neg hx,Uy]
   ·have:=hn.le (i:=0) (j:=j) (by omega) hj
    have e:(x::r).getD 0 0=x:=rfl;rw [e] at this;constructor <;> intro h <;> omega
   ·intro y hy;obtain ⟨i,hi,rfl⟩:=Ri hy
    have:=hn.le (i:=0) (j:=i + 1) (by omega) (by rw [Ba];omega)
    have e:(x::r).getD 0 0=x:=rfl;have e':(x::r).getD (i + 1) 0=r.getD i 0:=rfl;rw [e,e'] at this;omega
def Pile.nr {a b:Nat}{c:Int}{t:List (List Int)} (p:Pile a b c t) {i:Nat} (hi:i < a):Nr (t.getD i []):=λ k hk=>p.rt i k hi (by rw [p.tab.row hi] at hk;exact hk)
def Ln {a b c:Nat}{t:List (List Int)} (p:Pile a b c t) {i j k:Nat} (hi:i < a) (hj:j < b) (hk:k < c):(j:Int) < g (Cd t c) k i↔(k:Int) < g t i j:=by
 rw [Hz p.tab hk hi];exact SF (p.nr hi) (by rw [p.tab.row hi];exact hj)
def VA {a b c:Nat}{t:List (List Int)} (p:Pile a b c t):Pile c a b (Cd t c):=by
 refine ⟨V9 p.tab,λ k i hk hi=>?_,λ k i hk hi=>?_,λ k i hk hi=>?_,λ k i hk hi=>?_⟩
 ·rw [Hz p.tab hk hi];exact M9 _ _
 ·rw [Hz p.tab hk hi]
  have:=Pb (t.getD i []) k
  rw [p.tab.row hi] at this;exact this
 ·refine js3.mp λ z=>?_;have h0:0<=g (Cd t c) k i:=by rw [Hz p.tab (by omega) hi];exact M9 _ _
  have hb:g (Cd t c) (k + 1) i<=b:=by
   rw [Hz p.tab hk hi]
   have:=Pb (t.getD i []) ((k + 1:Nat):Int)
   rw [p.tab.row hi] at this;exact this
  have h1:=(Ln p (j:=(g (Cd t c) k i).toNat) hi (by omega) hk).mp (by omega);have h2:=(Ln p (j:=(g (Cd t c) k i).toNat) (k:=k) hi (by omega) (by omega)).mpr (by omega);omega
 ·refine js3.mp λ z=>?_;have h0:0<=g (Cd t c) k i:=by rw [Hz p.tab (by omega) (by omega)];exact M9 _ _
  have hb:g (Cd t c) k (i + 1)<=b:=by
   rw [Hz p.tab hk hi]
   have:=Pb (t.getD (i + 1) []) k
   rw [p.tab.row hi] at this;exact this
  have h1:=(Ln p (j:=(g (Cd t c) k i).toNat) (k:=k) hi (by omega) hk).mp (by omega);have h2:=(Ln p (j:=(g (Cd t c) k i).toNat) (k:=k) (i:=i) (by omega) (by omega) (by omega)).mpr (by have:=p.dn i (g (Cd t c) k i).toNat hi (by omega);omega);omega
theorem Rt {α:Type}{f:PV->Option DR}{e:α->PV}{q:α->DR} (h:∀ x,f (e x)=some (q x)):∀ xs:List α,BD f (xs.map e)=some (xs.map q)
 | []=>rfl
 | x::xs=>by rw [BQ,BD,h,Rt h xs];rfl
def T9 {f h:Fx}{ρ ρ1 ρ2:Ah}{xs:List Int}{k x:Int}{d e:Nat} (h1:f ρ=.ok (.scr xs,d,ρ1)) (h2:h ρ1=.ok (.int k,e,ρ2)) (hx:BE xs k=some x):Ab Al f h ρ=.ok (.int x,om,ρ2):=by
 refine C1 h1 h2 ?_;show (BE xs k).map _=_;rw [hx];rfl
def NP (ns:List Int) (k:Nat):b_cell_at [.scr ns,.int (k:Int)]=.ok (.int (ns.getD k 0),om,.non):=by
 let R:Ah:=[some (.scr ns,om),some (.int (k:Int),om)]
 have t1:bT (Ab (BA λ i j=>decide (i < j)) (Aa 1) (Aj BF (Ad (Aa 0) (Ac)))) R=.ok (decide ((k:Int) < (ns.length:Int)),R):=rfl;refine C3 rfl (ρ':=R) ?_;by_cases h:(k:Int) < (ns.length:Int)
 ·rw [decide_eq_true h] at t1;exact JP ((Cj t1).trans (DN (T9 (xs:=ns) (k:=(k:Int)) (d:=om) rfl rfl (Ey (by omega) (Fh (by omega))))))
 ·rw [decide_eq_false h] at t1;refine (HG t1).trans ((DN (d:=om) rfl).trans ?_);rw [Ca,KP (by omega)];rfl
def Zg (c k:Int) (hk:0<=k/\k < 10000):∃ r,b_stir [.int c,.int k]=.ok (.int r,om,.non):=by
 have e1:=Gg (((c % 2147483629 + 9973 * k + 5) * 48271)) (show (2147483647:Int)≠0 by decide);have e2:=Hl (((c % 2147483629 + 9973 * k + 5) * 48271)) (show (0:Int) < 2147483647 by decide);exact ⟨_,C3 rfl ((A3 (AB (Dn (Hv (add_ok (add_ok (Dn (i:=c) rfl rfl (by decide)) (Hv (i:=9973) (j:=k) rfl rfl (.inl (by decide)))) (j:=5) rfl) (j:=48271) rfl (.inr (by decide))) (j:=2147483647) rfl (by decide)) (show 2 < 3 by decide) rfl)).trans ((A3 (AB (Dn (Hv rfl rfl (.inl (by omega))) (j:=2147483587) rfl (by decide)) (show 2 < 3 by decide) rfl)).trans (DN (IX (Dn (Hv (add_ok rfl (Hv (i:=7919) (j:=k) rfl rfl (.inl (by decide)))) (j:=16807) rfl (.inr (by decide))) (j:=2147483563) rfl (by decide)) (j:=8) rfl (by decide) (by decide)))))⟩
def NV (xs:List Int) (x:Int):PV.lst (xs.map PV.int++[.int x])=il (xs++[x]):=by unfold il;rw [Du];rfl
def Lr (c:Int) (m:Nat) (hm:m<=1000):∃ ns:List Int,ns.length=m/\b_numbers [.int c,.int (m:Int)]=.ok (il ns,om,.non):=by
 have z:=sz;let R (xs:List Int) (v:Int) (s4 s5:QQ.Slot):Ah:=[some (.int c,om),some (.int (m:Int),om),some (il xs,om),some (.int v,om),s4,s5]
 have s1:Af false 2 (Aj AA (Ac)) [] [some (.int c,om),some (.int (m:Int),om),none,none,none,none]=.nx [some (.int c,om),some (.int (m:Int),om),some (il [],om),none,none,none]:=by kernel_rfl
 have s2:Af false 3 (Aa 0) [0] [some (.int c,om),some (.int (m:Int),om),some (il [],om),none,none,none]=.nx (R [] c none none):=by kernel_rfl
 obtain ⟨ρ',e6,xs,v,s4,s5,rfl,hl⟩:=Lh (i:=4) (body:=(Ag (Af false 5 (Az b_stir (Ad (Aa 0) (Ad (Aa 4) (Ac)))) [0,4])
 (Ag (AW (bT (Ab (BA λ i j=>decide (j<=i)) (Aa 0) (Ab FK (bC (.int 10)) (bC (.int 18))))) (Af false 5 (Ab AI (Aa 3) (bC (.int 720720))) [3]) A4)
 (Ag (Af false 3 (Ab BY (Aa 3) (bC (.int 720720))) [3])
 (A2 2 (Aa 5) [5]))))) (en:=C6) (fa:=Ad (Aa 1) (Ac)) (ρ:=R [] c none none) (ρ1:=R [] c none none) (as:=[(.int (m:Int),om)]) (lo:=0) (hi:=(m:Int))
  (λ k ρ=>∃ xs v s4 s5,ρ=R xs v s4 s5/\xs.length=k) rfl (JE (by omega) (by omega)) ⟨[],c,none,none,rfl,rfl⟩ (by
   rintro j ρ hj ⟨xs,v,s4,s5,rfl,hl⟩;obtain ⟨r,er⟩:=Zg c (0 + (j:Int)) (by omega);have u1:Af false 5 (Az b_stir (Ad (Aa 0) (Ad (Aa 4) (Ac)))) [0,4] (R xs v (some (.int (0 + (j:Int)),om)) s5)=.nx (R xs v (some (.int (0 + (j:Int)),om)) (some (.int r,om))):=AB (BO (xs:=[(.int c,om),(.int (0 + (j:Int)),om)]) rfl er) (show 5 < 6 by decide) rfl;have u2:∃ r',AW (bT (Ab (BA λ i j=>decide (j<=i)) (Aa 0) (Ab FK (bC (.int 10)) (bC (.int 18))))) (Af false 5 (Ab AI (Aa 3) (bC (.int 720720))) [3]) A4 (R xs v (some (.int (0 + (j:Int)),om)) (some (.int r,om)))=.nx (R xs v (some (.int (0 + (j:Int)),om)) (some (.int r',om))):=by
    have tt:bT (Ab (BA λ i j=>decide (j<=i)) (Aa 0) (Ab FK (bC (.int 10)) (bC (.int 18)))) (R xs v (some (.int (0 + (j:Int)),om)) (some (.int r,om)))=.ok (decide ((10:Int) ^ 18<=c),R xs v (some (.int (0 + (j:Int)),om)) (some (.int r,om))):=by kernel_rfl
    cases hd:decide ((10:Int) ^ 18<=c) with
    | true=>rw [hd] at tt;exact ⟨v % 720720,(Cj tt).trans (AB (Dn rfl rfl (by decide)) (show 5 < 6 by decide) rfl)⟩
    | false=>rw [hd] at tt;exact ⟨r,(Cr tt).trans rfl⟩
   obtain ⟨r',u2⟩:=u2;have u3:Af false 3 (Ab BY (Aa 3) (bC (.int 720720))) [3] (R xs v (some (.int (0 + (j:Int)),om)) (some (.int r',om)))=.nx (R xs (v / 720720) (some (.int (0 + (j:Int)),om)) (some (.int r',om))):=AB (IX (i:=v) rfl rfl (by decide) (by decide)) (show 3 < 6 by decide) rfl;refine ⟨show 4 < 6 by decide,_,(A3 u1).trans ((A3 u2).trans ((A3 u3).trans (FL (i:=2) (d0:=999) (d:=om) (y:=.int r') (e:=om) (xs:=xs.map PV.int) (xs0:=xs.map PV.int) rfl rfl rfl (by decide) (by rw [A5];omega) rfl))),xs++[r'],v / 720720,some (.int (0 + (j:Int)),om),some (.int r',om),?_,by rw [AV,hl];rfl⟩;rw [NV]
   rfl)
 rw [show ((m:Int) - 0).toNat=m by omega] at hl;exact ⟨xs,hl,C3 rfl ((A3 s1).trans ((A3 s2).trans ((A3 e6).trans rfl)))⟩
def WR (c:Int) {most great:Int}{m:Nat} (h1:1<=most/\most<=m) (h2:1<=great/\great<=m):∃ x y z:Nat,(1<=x/\x<=m)/\(1<=y/\y<=m)/\(1<=z/\z<=m)/\b_box [.int c,.int most,.int great]=.ok (bx x y z,om,.non):=by
 obtain ⟨ns,hl,en⟩:=Lr c 4 (by omega);let R (v:Int):Ah:=[some (.int c,om),some (.int v,om),some (.int great,om),some (il ns,om)]
 have s1:Af false 3 (Az b_numbers (Ad (Aa 0) (Ad (bC (.int 4)) (Ac)))) [0] [some (.int c,om),some (.int most,om),some (.int great,om),none]=.nx (R most):=AB (BO (xs:=[(.int c,om),(.int 4,om)]) rfl en) (show 3 < 4 by decide) rfl;have s2:∃ v:Int,(1<=v/\v<=m)/\AW (bT (Ab (Au false) (Ab AI (Ab Al (Aa 3) (bC (.int 3))) (bC (.int 8))) (bC (.int 3)))) (Af false 1 (Aa 2) [2]) A4 (R most)=.nx (R v):=by
  have tt:bT (Ab (Au false) (Ab AI (Ab Al (Aa 3) (bC (.int 3))) (bC (.int 8))) (bC (.int 3))) (R most)=.ok (false^^decide (ns.getD 3 0 % 8=3),R most):=Bu (GV (Dn (GZ (xs:=ns) (k:=3) (d:=0) rfl rfl (Ey (by decide) (Fh (by rw [hl];decide)))) rfl (by decide)) rfl);rw [KG] at tt;cases hd:decide (ns.getD 3 0 % 8=3) with
  | true=>rw [hd] at tt;exact ⟨great,h2,(Cj tt).trans (by kernel_rfl)⟩
  | false=>rw [hd] at tt;exact ⟨most,h1,(Cr tt).trans rfl⟩
 obtain ⟨v,hv,s2⟩:=s2;have q:∀ k:Nat,k < 4->∃ x:Nat,(1<=x/\x<=m)/\(Ab Ao (bC (.int 1)) (Ab AI (Ab Al (Aa 3) (bC (.int (k:Int)))) (Aa 1))) (R v)=.ok (.int (x:Int),om,R v):=λ k hk=>by
  have e1:=Gg (ns.getD k 0) (show v≠0 by omega);have e2:=Hl (ns.getD k 0) (show 0 < v by omega);refine ⟨(1 + ns.getD k 0 % v).toNat,⟨by omega,by omega⟩,?_⟩;rw [show (((1 + ns.getD k 0 % v).toNat:Nat):Int)=1 + ns.getD k 0 % v by omega];exact add_ok rfl (Dn (GZ (xs:=ns) (k:=(k:Int)) (d:=0) rfl rfl (Ey (by omega) (Fh (by omega)))) rfl (by omega))
 obtain ⟨x,hx,ex⟩:=q 0 (by decide);obtain ⟨y,hy,ey⟩:=q 1 (by decide);obtain ⟨z,hz,ez⟩:=q 2 (by decide);refine ⟨x,y,z,hx,hy,hz,C3 rfl (ρ':=R v) ?_⟩;exact (A3 s1).trans ((A3 s2).trans (DN (Dl (By ex (By ey (Bx ez))) (by kernel_rfl))))
def xv (xs:List PV):Bt xs (some (-1)) none=xs.drop (xs.length - 1):=by
 unfold Bt;have e:HT.sIx xs.length 0 (some (-1))=xs.length - 1:=by
  show (if (-1:Int) < 0 then (-1 + (xs.length:Int)).toNat else min (-1:Int).toNat xs.length)=_;rw [if_pos (by decide)];omega
 rw [e,HT.sIx_none];exact PR (by rw [D4];exact A7 _)
def Uv {α:Type}{xs:List α}{x:α} (h:xs[xs.length - 1]?=some x):BE xs (-1)=some x:=by
 have hl:=(ja3.mp h).1;unfold BE Dj;rw [if_neg (by decide),if_pos (by omega),show (-1 + (xs.length:Int)).toNat=xs.length - 1 by omega];exact h
def Od {f:Fx}{ρ ρ1:Ah}{xs:List PV}{d:Nat} (h:f ρ=.ok (.lst xs,d,ρ1)):AH f (some (Aq BB (bC (.int 1)))) none ρ=.ok (.lst (xs.drop (xs.length - 1)),d1 (xs.drop (xs.length - 1)),ρ1):=by
 unfold AH;rw [h];show Rz.ok (PV.lst (Bt xs (some (-1)) none),d1 (Bt xs (some (-1)) none),ρ1)=_;rw [xv]
def JS {f h:Fx}{ρ ρ1 ρ2:Ah}{xs ys:List PV}{d e:Nat} (h1:f ρ=.ok (.lst xs,d,ρ1)) (h2:h ρ1=.ok (.lst ys,e,ρ2)) (hl:xs.length + ys.length<=Am):Ab Ao f h ρ=.ok (.lst (xs++ys),d1 (xs++ys),ρ2):=by
 refine C1 h1 h2 ?_;show (if _ then _ else _)=_;rw [if_pos hl]
theorem RH:∀ xs:List Int,HC (xs.map PV.int)=some xs
 | []=>rfl
 | x::xs=>by rw [BQ,HC,RH xs];rfl
def Xr {fa:Fa}{ρ ρ1:Ah}{x:Int}{xs:List Int}{d:Nat} (h:fa ρ=.ok ([(il (x::xs),d)],ρ1)):Aj DQ fa ρ=.ok (.int (CA x xs),om,ρ1):=by
 refine Dl h ?_;show (match HC ((x::xs).map PV.int) with | some (n::r)=>some (PV.int (CA n r),om) | _=>none)=_;rw [RH]
def C8 (c:Int) (t:List (List Int)) (j:Nat):Int:=if t.length=0 then c else g t (t.length - 1) j
def AY (c:Int) (t:List (List Int)) (r:List Int) (j:Nat):Int:=if r.length=0 then C8 c t j else min (C8 c t j) (r.getD (r.length - 1) 0)
def qS {t:List (List Int)}{r:List Int}{i:Nat}:(t++[r]).getD i []=if i < t.length then t.getD i [] else if i=t.length then r else []:=by
 by_cases h:i < t.length
 ·rw [if_pos h,Ca,CF h,Ca]
 ·rw [if_neg h];by_cases h2:i=t.length
  ·rw [if_pos h2,h2,Ca,Vl];rfl
  ·rw [if_neg h2,Ca,KP (by rw [AV,Gn];omega)];rfl
def Lm {r:List Int}{x:Int}{i:Nat}:(r++[x]).getD i 0=if i < r.length then r.getD i 0 else if i=r.length then x else 0:=by
 by_cases h:i < r.length
 ·rw [if_pos h,Ca,CF h,Ca]
 ·rw [if_neg h];by_cases h2:i=r.length
  ·rw [if_pos h2,h2,Ca,Vl];rfl
  ·rw [if_neg h2,Ca,KP (by rw [AV,Gn];omega)];rfl
def Pile.snoc {k b:Nat}{c:Int}{t:List (List Int)}{r:List Int} (p:Pile k b c t) (hr:r.length=b) (h:∀ y,y < b->0<=r.getD y 0/\r.getD y 0<=C8 c t y) (hn:Nr r):Pile (k + 1) b c (t++[r]):=by
 have l:=p.tab.1;have e:∀ i j,g (t++[r]) i j=if i < k then g t i j else if i=k then r.getD j 0 else 0:=λ i j=>by
  unfold g;rw [qS,l];split
  ·rfl
  ·split <;> rfl
 have u:∀ y,y < b->C8 c t y<=c:=λ y hy=>by
  unfold C8;split
  ·exact MK _
  ·exact p.hi _ _ (by omega) hy
 refine ⟨⟨by rw [AV,l];rfl,λ x hx=>?_⟩,λ i j hi hj=>?_,λ i j hi hj=>?_,λ i j hi hj=>?_,λ i j hi hj=>?_⟩
 ·rcases jc2.mp hx with z | z
  ·exact p.tab.2 x z
  ·rw [ja6.mp z,hr]
 ·rw [e];by_cases z:i < k
  ·rw [if_pos z];exact p.lo i j z hj
  ·rw [if_neg z,if_pos (by omega)];exact (h j hj).1
 ·rw [e];by_cases z:i < k
  ·rw [if_pos z];exact p.hi i j z hj
  ·rw [if_neg z,if_pos (by omega)];exact UB (h j hj).2 (u j hj)
 ·rw [e,e];by_cases z:i + 1 < k
  ·rw [if_pos z,if_pos (by omega)];exact p.dn i j z hj
  ·rw [if_neg z,if_pos (by omega),if_pos (by omega)]
   have:=(h j hj).2
   unfold C8 at this;rw [if_neg (by omega),l,show k - 1=i by omega] at this;exact this
 ·rw [e,e];by_cases z:i < k
  ·rw [if_pos z,if_pos z];exact p.rt i j z hj
  ·rw [if_neg z,if_neg z,if_pos (by omega),if_pos (by omega)];exact hn j (by rw [hr];exact hj)
def Zy {a b c:Nat} (ns:List Int) (st:Nat) (cell:Int) (hst:st<=1000) (ha:1<=a/\a<=30) (hb:1<=b/\b<=30) (hc:1<=c/\c<=1000) (hns:ns.length<=1000):∃ t d,Pile a b c t/\d≠0/\b_pile [bx a b c,.scr ns,.int (st:Int),.int cell]=.ok (tb t,d,.non):=by
 have z:=sz;have hab:a * b<=900:=Cg (Nat.mul_le_mul ha.2 hb.2) (by decide);obtain ⟨nm,hl,en⟩:=Lr cell (a * b) (by omega);let R (t:List (List Int)) (d5:Nat) (s6 s7 s8 s9 s10:QQ.Slot):Ah:=[some (bx a b c,0),some (.scr ns,om),some (.int (st:Int),om),some (.int cell,om),some (il nm,om),some (tb t,d5),s6,s7,s8,s9,s10]
 let R0:Ah:=[some (bx a b c,0),some (.scr ns,om),some (.int (st:Int),om),some (.int cell,om),none,none,none,none,none,none,none]
 have s1:Af false 4 (Az b_numbers (Ad (Aa 3) (Ad (Ab BR (Ab Al (Aa 0) (bC (.int 0))) (Ab Al (Aa 0) (bC (.int 1)))) (Ac)))) [3,0,0] R0=.nx [some (bx a b c,0),some (.scr ns,om),some (.int (st:Int),om),some (.int cell,om),some (il nm,om),none,none,none,none,none,none]:=by
  refine AB (x:=il nm) (d:=om) (ρ1:=R0) (BO (z:=.non) (By (x:=.int cell) (d:=om) rfl (Bx (Hv (i:=(a:Int)) (j:=(b:Int)) rfl rfl (.inl (by omega))))) ?_) (show 4 < 11 by decide) rfl;show b_numbers [.int cell,.int ((a:Int) * (b:Int))]=_;rw [show (a:Int) * (b:Int)=((a * b:Nat):Int) by rw [PB]];exact en
 have s2:Af false 5 (Aj AA (Ac)) [] [some (bx a b c,0),some (.scr ns,om),some (.int (st:Int),om),some (.int cell,om),some (il nm,om),none,none,none,none,none,none]=.nx (R [] om none none none none none):=by kernel_rfl
 have step:∀ (t:List (List Int)) (d5 k j:Nat) (r:List Int) (s9 s10:QQ.Slot),k < a->j < b->Pile k b c t->r.length=j->(∀ y,y < j->0<=r.getD y 0)->(∀ y,y < j->r.getD y 0<=C8 c t y)->∃ h s9' s10',(0<=h/\h<=AY c t r j)/\(Ag (Af false 9 (Ab Al (Aa 4) (Ab Ao (Ab BR (Aa 6) (Ab Al (Aa 0) (bC (.int 1)))) (Aa 8))) [4,6,0,8])
 (Ag (AW (bT (Ab (BA λ i j=>decide (i < j)) (Ab Ao (Ab Ao (Aa 2) (Ab BR (Aa 6) (Ab Al (Aa 0) (bC (.int 1))))) (Aa 8)) (Aj BF (Ad (Aa 1) (Ac))))) (Af false 9 (Ab Al (Aa 1) (Ab Ao (Ab Ao (Aa 2) (Ab BR (Aa 6) (Ab Al (Aa 0) (bC (.int 1))))) (Aa 8))) [1,2,6,0,8]) A4)
 (Ag (Af false 10 (Ab Al (Ab Ao (Aj AA (Ad (Ab Al (Aa 0) (bC (.int 2))) (Ac))) (CO (AH (Aa 5) (some (Aq BB (bC (.int 1)))) none) 1 (asgN 11) D3 (Ab Al (Ab Al (Aa 5) (Aq BB (bC (.int 1)))) (Aa 8)))) (Aq BB (bC (.int 1)))) [0,5,5,8])
 (Ag (Af false 10 (Aj DQ (Ad (Ab Ao (Aj AA (Ad (Aa 10) (Ac))) (AH (Aa 7) (some (Aq BB (bC (.int 1)))) none)) (Ac))) [10,7])
 (A2 7 (Ab Cm (Aa 10) (Ab Al (Aj AA (Ad (bC (.int 0)) (Ad (bC (.int 0)) (Ad (Aj DQ (Ad (bC (.int 1)) (Ad (Aa 10) (Ac)))) (Ad (Ab AI (Ab BY (Aa 9) (bC (.int 4))) (Ab Ao (Aa 10) (bC (.int 1)))) (Ac)))))) (Ab AI (Aa 9) (bC (.int 4))))) [10,10,9,10,9]))))) (R t d5 (some (.int (k:Int),om)) (some (il r,om)) (some (.int (j:Int),om)) s9 s10)=.nx (R t d5 (some (.int (k:Int),om)) (some (il (r++[h]),om)) (some (.int (j:Int),om)) s9' s10'):=by
  intro t d5 k j r s9 s10 hk hj p hr hr0 hr1;let Q (s9 s10:QQ.Slot):Ah:=R t d5 (some (.int (k:Int),om)) (some (il r,om)) (some (.int (j:Int),om)) s9 s10;have hkb:k * b + j < a * b:=by
   have:(k + 1) * b<=a * b:=Nat.mul_le_mul_right b hk
   rw [UG] at this;omega
  have ekb:(k:Int) * (b:Int)=((k * b:Nat):Int):=by rw [PB]
  have m1:∀ s9 s10,Ab BR (Aa 6) (Ab Al (Aa 0) (bC (.int 1))) (Q s9 s10)=.ok (.int ((k * b:Nat):Int),om,Q s9 s10):=λ s9 s10=>by
   rw [<- ekb];exact Hv (i:=(k:Int)) (j:=(b:Int)) rfl rfl (.inl (by omega))
  have v1:Af false 9 (Ab Al (Aa 4) (Ab Ao (Ab BR (Aa 6) (Ab Al (Aa 0) (bC (.int 1)))) (Aa 8))) [4,6,0,8] (Q s9 s10)=.nx (Q (some (.int (nm.getD (k * b + j) 0),om)) s10):=
   AB (GZ (xs:=nm) (d:=0) rfl (add_ok (m1 s9 s10) (j:=(j:Int)) rfl) (Ey (by omega) (by rw [show (((k * b:Nat):Int) + (j:Int)).toNat=k * b + j by omega];exact Fh (by omega)))) (show 9 < 11 by decide) rfl
  have v2:∃ n,AW (bT (Ab (BA λ i j=>decide (i < j)) (Ab Ao (Ab Ao (Aa 2) (Ab BR (Aa 6) (Ab Al (Aa 0) (bC (.int 1))))) (Aa 8)) (Aj BF (Ad (Aa 1) (Ac))))) (Af false 9 (Ab Al (Aa 1) (Ab Ao (Ab Ao (Aa 2) (Ab BR (Aa 6) (Ab Al (Aa 0) (bC (.int 1))))) (Aa 8))) [1,2,6,0,8]) A4 (Q (some (.int (nm.getD (k * b + j) 0),om)) s10)=.nx (Q (some (.int n,om)) s10):=by
   have q:=λ s9 s10=>add_ok (ρ:=Q s9 s10) (add_ok (ρ:=Q s9 s10) (f:=Aa 2) (i:=(st:Int)) (d:=om) rfl (m1 s9 s10)) (g:=Aa 8) (j:=(j:Int)) (e:=om) rfl;have tt:=Bu (FN (p:=λ i j=>decide (i < j)) (q (some (.int (nm.getD (k * b + j) 0),om)) s10) (g:=Aj BF (Ad (Aa 1) (Ac))) (j:=(ns.length:Int)) (e:=om) rfl);by_cases hd:((st:Int) + ((k * b:Nat):Int) + (j:Int)) < (ns.length:Int)
   ·rw [decide_eq_true hd] at tt;refine ⟨ns.getD (st + k * b + j) 0,(Cj tt).trans (AB (T9 (xs:=ns) (d:=om) rfl (q _ _) (Ey (by omega) ?_)) (show 9 < 11 by decide) rfl)⟩;rw [show ((st:Int) + ((k * b:Nat):Int) + (j:Int)).toNat=st + k * b + j by omega];exact Fh (by omega)
   ·rw [decide_eq_false hd] at tt;exact ⟨_,(Cr tt).trans rfl⟩
  obtain ⟨n,v2⟩:=v2;have l:=p.tab.1;have v3:Af false 10 (Ab Al (Ab Ao (Aj AA (Ad (Ab Al (Aa 0) (bC (.int 2))) (Ac))) (CO (AH (Aa 5) (some (Aq BB (bC (.int 1)))) none) 1 (asgN 11) D3 (Ab Al (Ab Al (Aa 5) (Aq BB (bC (.int 1)))) (Aa 8)))) (Aq BB (bC (.int 1)))) [0,5,5,8] (Q (some (.int n,om)) s10)=.nx (Q (some (.int n,om)) (some (.int (C8 c t j),om))):=by
   have f1:AH (Aa 5) (some (Aq BB (bC (.int 1)))) none (Q (some (.int n,om)) s10)=.ok (.lst ((t.drop (t.length - 1)).map il),d1 ((t.map il).drop ((t.map il).length - 1)),Q (some (.int n,om)) s10):=by
    rw [Od (xs:=t.map il) (d:=0) (ρ1:=Q (some (.int n,om)) s10) rfl,A5,KC]
   have f2:=Lf (n:=11) (elt:=Ab Al (Ab Al (Aa 5) (Aq BB (bC (.int 1)))) (Aa 8)) (enc:=il) (q:=λ _=>.int (g t (t.length - 1) j)) (t.drop (t.length - 1)) f1 rfl (λ x hx=>by
    have ht:0 < t.length:=by
     have:=List.length_pos_of_mem hx
     rw [D4] at this;omega
    exact GZ (xs:=t.getD (t.length - 1) []) (k:=(j:Int)) (W7 (t:=t) (k:=-1) (d:=0) rfl rfl (Uv (xg (by omega)))) rfl (Ey (by omega) (Fh (by rw [p.tab.row (by omega)];omega)))) (by rw [D4];omega)
   have f3:Aj AA (Ad (Ab Al (Aa 0) (bC (.int 2))) (Ac)) (Q (some (.int n,om)) s10)=.ok (.lst [.int (c:Int)],om,Q (some (.int n,om)) s10):=by kernel_rfl
   have f4:=JS f3 f2 (by rw [A5,D4,Gn];omega);have f5:PV.lst ([.int (c:Int)]++(t.drop (t.length - 1)).map λ _=>.int (g t (t.length - 1) j))=il ((c:Int)::(t.drop (t.length - 1)).map λ _=>g t (t.length - 1) j):=by
    unfold il;rw [BQ,Ik];rfl
   rw [f5] at f4;refine AB (GZ f4 (k:=-1) rfl (Uv ?_)) (show 10 < 11 by decide) rfl;unfold C8;by_cases e:t.length=0
   ·rw [if_pos e,jm5.mp e];rfl
   ·rw [if_neg e]
    have:(t.drop (t.length - 1)).map (λ _=>g t (t.length - 1) j)=[g t (t.length - 1) j]:=by
     have hl1:(t.drop (t.length - 1)).length=1:=by rw [D4];omega
     obtain ⟨x,hx⟩:=jn0.mp hl1;rw [hx];rfl
    rw [this];rfl
  have v4:Af false 10 (Aj DQ (Ad (Ab Ao (Aj AA (Ad (Aa 10) (Ac))) (AH (Aa 7) (some (Aq BB (bC (.int 1)))) none)) (Ac))) [10,7] (Q (some (.int n,om)) (some (.int (C8 c t j),om)))=.nx (Q (some (.int n,om)) (some (.int (AY c t r j),om))):=by
   have f1:=Od (f:=Aa 7) (xs:=r.map PV.int) (d:=0) (ρ:=Q (some (.int n,om)) (some (.int (C8 c t j),om))) (ρ1:=Q (some (.int n,om)) (some (.int (C8 c t j),om))) rfl;rw [A5,<- KC] at f1;have f4:=JS (f:=Aj AA (Ad (Aa 10) (Ac))) (ρ:=Q (some (.int n,om)) (some (.int (C8 c t j),om))) (xs:=[.int (C8 c t j)]) (d:=om) (by kernel_rfl) f1 (by rw [A5,D4,Gn];omega)
   have:CA (C8 c t j) (r.drop (r.length - 1))=AY c t r j:=by
    unfold AY;by_cases e:r.length=0
    ·rw [if_pos e,jm5.mp e];rfl
    ·rw [if_neg e]
     have:r.drop (r.length - 1)=[r.getD (r.length - 1) 0]:=by
      rw [Nc (show r.length - 1 < r.length by omega),Ca,CD (show r.length - 1 < r.length by omega),PX (by omega)];rfl
     rw [this];show (if r.getD (r.length - 1) 0 < C8 c t j then r.getD (r.length - 1) 0 else C8 c t j)=_;split <;> omega
   rw [<- this];exact AB (Xr (x:=C8 c t j) (xs:=r.drop (r.length - 1)) (Bx f4)) (show 10 < 11 by decide) rfl
  have u0:0<=C8 c t j:=by
   unfold C8;split
   ·omega
   ·exact p.lo _ _ (by omega) hj
  have t0:0<=AY c t r j:=by
   unfold AY;split
   ·exact u0
   ·have:=hr0 (r.length - 1) (by omega)
    omega
  have q0:=Gg n (show (4:Int)≠0 by decide);have q1:=Hl n (show (0:Int) < 4 by decide);have w0:=Gg (n / 4) (show AY c t r j + 1≠0 by omega);have w1:=Hl (n / 4) (show 0 < AY c t r j + 1 by omega);let ch:List Int:=[0,0,if AY c t r j < 1 then AY c t r j else 1,n / 4 % (AY c t r j + 1)]
  have hch:∀ x∈ch,0<=x/\x<=AY c t r j:=by
   intro x hx;rcases jb2.mp hx with e | hx
   ·rw [e];omega
   rcases jb2.mp hx with e | hx
   ·rw [e];omega
   rcases jb2.mp hx with e | hx
   ·rw [e];split <;> omega
   rcases jb2.mp hx with e | hx
   ·rw [e];omega
   ·cases hx
  have hx:=hch _ (getD_mem (xs:=ch) (i:=(n % 4).toNat) (by show (n % 4).toNat < 4;omega));have f5:Aj AA (Ad (bC (.int 0)) (Ad (bC (.int 0)) (Ad (Aj DQ (Ad (bC (.int 1)) (Ad (Aa 10) (Ac)))) (Ad (Ab AI (Ab BY (Aa 9) (bC (.int 4))) (Ab Ao (Aa 10) (bC (.int 1)))) (Ac))))) (Q (some (.int n,om)) (some (.int (AY c t r j),om)))=.ok (il ch,om,Q (some (.int n,om)) (some (.int (AY c t r j),om))):=
   Dl (By (x:=.int 0) (d:=om) rfl (By (x:=.int 0) (d:=om) rfl (By (x:=.int (if AY c t r j < 1 then AY c t r j else 1)) (d:=om) rfl (Bx (Dn (IX (i:=n) rfl rfl (by decide) (by decide)) (add_ok (i:=AY c t r j) rfl rfl) (by omega)))))) (by kernel_rfl)
  refine ⟨AY c t r j - ch.getD (n % 4).toNat 0,some (.int n,om),some (.int (AY c t r j),om),⟨by omega,by omega⟩,?_⟩;refine (A3 v1).trans ((A3 v2).trans ((A3 v3).trans ((A3 v4).trans ?_)));refine (FL (i:=7) (d0:=999) (d:=om) (xs:=r.map PV.int) (xs0:=r.map PV.int) rfl (IT (i:=AY c t r j) rfl (GZ f5 (k:=n % 4) (Dn (i:=n) rfl rfl (by decide)) (Ey q0 (Fh (by show (n % 4).toNat < 4;omega))))) rfl (by decide) (by rw [A5];omega) rfl).trans ?_;rw [NV];rfl
 obtain ⟨ρ',e6,t,d5,s6,s7,s8,s9,s10,rfl,pt,hd5⟩:=Lh (i:=6) (body:=(Ag (Af false 7 (Aj AA (Ac)) [])
 (Ag (CZ C6 (Ad (Ab Al (Aa 0) (bC (.int 1))) (Ac)) (asgN 8) (Ag (Af false 9 (Ab Al (Aa 4) (Ab Ao (Ab BR (Aa 6) (Ab Al (Aa 0) (bC (.int 1)))) (Aa 8))) [4,6,0,8])
 (Ag (AW (bT (Ab (BA λ i j=>decide (i < j)) (Ab Ao (Ab Ao (Aa 2) (Ab BR (Aa 6) (Ab Al (Aa 0) (bC (.int 1))))) (Aa 8)) (Aj BF (Ad (Aa 1) (Ac))))) (Af false 9 (Ab Al (Aa 1) (Ab Ao (Ab Ao (Aa 2) (Ab BR (Aa 6) (Ab Al (Aa 0) (bC (.int 1))))) (Aa 8))) [1,2,6,0,8]) A4)
 (Ag (Af false 10 (Ab Al (Ab Ao (Aj AA (Ad (Ab Al (Aa 0) (bC (.int 2))) (Ac))) (CO (AH (Aa 5) (some (Aq BB (bC (.int 1)))) none) 1 (asgN 11) D3 (Ab Al (Ab Al (Aa 5) (Aq BB (bC (.int 1)))) (Aa 8)))) (Aq BB (bC (.int 1)))) [0,5,5,8])
 (Ag (Af false 10 (Aj DQ (Ad (Ab Ao (Aj AA (Ad (Aa 10) (Ac))) (AH (Aa 7) (some (Aq BB (bC (.int 1)))) none)) (Ac))) [10,7])
 (A2 7 (Ab Cm (Aa 10) (Ab Al (Aj AA (Ad (bC (.int 0)) (Ad (bC (.int 0)) (Ad (Aj DQ (Ad (bC (.int 1)) (Ad (Aa 10) (Ac)))) (Ad (Ab AI (Ab BY (Aa 9) (bC (.int 4))) (Ab Ao (Aa 10) (bC (.int 1)))) (Ac)))))) (Ab AI (Aa 9) (bC (.int 4))))) [10,10,9,10,9]))))))
 (A2 5 (Aa 7) [7])))) (en:=C6) (fa:=Ad (Ab Al (Aa 0) (bC (.int 0))) (Ac)) (ρ:=R [] om none none none none none) (ρ1:=R [] om none none none none none) (as:=[(.int (a:Int),om)]) (lo:=0) (hi:=(a:Int))
  (λ k ρ=>∃ t d5 s6 s7 s8 s9 s10,ρ=R t d5 s6 s7 s8 s9 s10/\Pile k b c t/\d5≠0) (by kernel_rfl) (JE (by omega) (by omega)) ⟨[],om,none,none,none,none,none,rfl,⟨⟨rfl,λ _ h=>nomatch h⟩,λ _ _ h=>absurd h (by omega),λ _ _ h=>absurd h (by omega),λ _ _ h=>absurd h (by omega),λ _ _ h=>absurd h (by omega)⟩,by decide⟩ (by
   rintro k ρ hk ⟨t,d5,s6,s7,s8,s9,s10,rfl,pt,hd5⟩;have hk':k < a:=by omega
   have u1:Af false 7 (Aj AA (Ac)) [] (R t d5 (some (.int (0 + (k:Int)),om)) s7 s8 s9 s10)=.nx (R t d5 (some (.int (0 + (k:Int)),om)) (some (il [],om)) s8 s9 s10):=rfl;obtain ⟨ρ2,e2,r,t8,t9,FZ,rfl,hr,hr0,hr1,hrn⟩:=Lh (i:=8) (body:=(Ag (Af false 9 (Ab Al (Aa 4) (Ab Ao (Ab BR (Aa 6) (Ab Al (Aa 0) (bC (.int 1)))) (Aa 8))) [4,6,0,8])
 (Ag (AW (bT (Ab (BA λ i j=>decide (i < j)) (Ab Ao (Ab Ao (Aa 2) (Ab BR (Aa 6) (Ab Al (Aa 0) (bC (.int 1))))) (Aa 8)) (Aj BF (Ad (Aa 1) (Ac))))) (Af false 9 (Ab Al (Aa 1) (Ab Ao (Ab Ao (Aa 2) (Ab BR (Aa 6) (Ab Al (Aa 0) (bC (.int 1))))) (Aa 8))) [1,2,6,0,8]) A4)
 (Ag (Af false 10 (Ab Al (Ab Ao (Aj AA (Ad (Ab Al (Aa 0) (bC (.int 2))) (Ac))) (CO (AH (Aa 5) (some (Aq BB (bC (.int 1)))) none) 1 (asgN 11) D3 (Ab Al (Ab Al (Aa 5) (Aq BB (bC (.int 1)))) (Aa 8)))) (Aq BB (bC (.int 1)))) [0,5,5,8])
 (Ag (Af false 10 (Aj DQ (Ad (Ab Ao (Aj AA (Ad (Aa 10) (Ac))) (AH (Aa 7) (some (Aq BB (bC (.int 1)))) none)) (Ac))) [10,7])
 (A2 7 (Ab Cm (Aa 10) (Ab Al (Aj AA (Ad (bC (.int 0)) (Ad (bC (.int 0)) (Ad (Aj DQ (Ad (bC (.int 1)) (Ad (Aa 10) (Ac)))) (Ad (Ab AI (Ab BY (Aa 9) (bC (.int 4))) (Ab Ao (Aa 10) (bC (.int 1)))) (Ac)))))) (Ab AI (Aa 9) (bC (.int 4))))) [10,10,9,10,9])))))) (en:=C6) (fa:=Ad (Ab Al (Aa 0) (bC (.int 1))) (Ac)) (ρ:=R t d5 (some (.int (0 + (k:Int)),om)) (some (il [],om)) s8 s9 s10) (ρ1:=R t d5 (some (.int (0 + (k:Int)),om)) (some (il [],om)) s8 s9 s10) (as:=[(.int (b:Int),om)]) (lo:=0) (hi:=(b:Int))
    (λ j ρ=>∃ r s8 s9 s10,ρ=R t d5 (some (.int (0 + (k:Int)),om)) (some (il r,om)) s8 s9 s10/\r.length=j/\(∀ y,y < j->0<=r.getD y 0)/\(∀ y,y < j->r.getD y 0<=C8 c t y)/\Nr r) (by kernel_rfl) (JE (by omega) (by omega)) ⟨[],s8,s9,s10,rfl,rfl,λ _ h=>absurd h (by omega),λ _ h=>absurd h (by omega),λ _ h=>absurd h (by simp)⟩ (by
     rintro j ρ hj ⟨r,s8,s9,s10,rfl,hr,hr0,hr1,hrn⟩;obtain ⟨h,t9,FZ,hh,eh⟩:=step t d5 k j r s9 s10 hk' (by omega) pt hr hr0 hr1;refine ⟨show 8 < 11 by decide,R t d5 (some (.int (0 + (k:Int)),om)) (some (il (r++[h]),om)) (some (.int (0 + (j:Int)),om)) t9 FZ,?_,r++[h],some (.int (0 + (j:Int)),om),t9,FZ,rfl,by rw [AV,hr];rfl,λ y hy=>?_,λ y hy=>?_,λ y hy=>?_⟩
     ·rw [MM,MM];exact eh
     ·rw [Lm];by_cases e:y < r.length
      ·rw [if_pos e];exact hr0 y (by omega)
      ·rw [if_neg e,if_pos (by omega)];exact hh.1
     ·rw [Lm];by_cases e:y < r.length
      ·rw [if_pos e];exact hr1 y (by omega)
      ·rw [if_neg e,if_pos (by omega),show y=j by omega]
       have:=hh.2
       unfold AY at this;split at this <;> omega
     ·rw [AV,Gn] at hy;rw [Lm,Lm];by_cases e:y + 1 < r.length
      ·rw [if_pos e,if_pos (by omega)];exact hrn y e
      ·rw [if_neg e,if_pos (by omega),if_pos (by omega)]
       have:=hh.2
       unfold AY at this;rw [if_neg (by omega),show r.length - 1=y by omega] at this
       omega)
   rw [show ((b:Int) - 0).toNat=b by omega] at hr hr0 hr1;refine ⟨show 6 < 11 by decide,R (t++[r]) 1 (some (.int (0 + (k:Int)),om)) (some (il r,0)) t8 t9 FZ,?_,t++[r],1,_,_,_,_,_,rfl,pt.snoc hr (λ y hy=>⟨hr0 y hy,hr1 y hy⟩) hrn,by decide⟩;refine (A3 u1).trans ((A3 e2).trans ?_);obtain ⟨d0,rfl⟩:∃ d0,d5=d0 + 1:=⟨d5 - 1,by omega⟩
   refine (FL (i:=5) (d0:=d0) (d:=d0 + 1) (y:=il r) (e:=0) (xs:=t.map il) (xs0:=t.map il) rfl rfl rfl hd5 (by rw [A5,pt.tab.1];omega) rfl).trans ?_;rw [Uo,if_neg (λ h=>absurd h.2 (by decide))]
   rfl)
 rw [show ((a:Int) - 0).toNat=a by omega] at pt;exact ⟨t,d5,pt,hd5,C3 rfl ((A3 s1).trans ((A3 s2).trans ((A3 e6).trans rfl)))⟩
theorem NL {asg:PV->Ah->Option Ah}{body:Fs}:∀ (els:List PV) (I:Nat->Ah->Prop) (ρ:Ah),I 0 ρ->(∀ j x ρ,els[j]?=some x->I j ρ->∃ ρ1 ρ2,asg x ρ=some ρ1/\body ρ1=.nx ρ2/\I (j + 1) ρ2)->∃ ρ',Bm asg body els ρ=.nx ρ'/\I els.length ρ'
 | [],I,ρ,h,_=>⟨ρ,rfl,h⟩
 | x::xs,I,ρ,h,hb=>by
  obtain ⟨ρ1,ρ2,e1,e2,h2⟩:=hb 0 x ρ rfl h;obtain ⟨ρ',e',h'⟩:=NL xs (λ j=>I (j + 1)) ρ2 h2 λ j y ρ hy hi=>hb (j + 1) y ρ (by simpa using hy) hi;refine ⟨ρ',?_,h'⟩;unfold Bm;rw [e1];dsimp only;rw [e2];exact e'
def Li {f:Fx}{vs:List Nat}{asg:PV->Ah->Option Ah}{body:Fs}{ρ ρ1 ρ2:Ah}{els:List PV}{d:Nat} (I:Nat->Ah->Prop) (hf:f ρ=.ok (.lst els,d,ρ1)) (ec:Bg d vs ρ1=ρ2) (h0:I 0 ρ2)
  (hb:∀ j x ρ,els[j]?=some x->I j ρ->∃ ρ1 ρ2,asg x ρ=some ρ1/\body ρ1=.nx ρ2/\I (j + 1) ρ2):∃ ρ',Cc f vs asg body ρ=.nx ρ'/\I els.length ρ':=by
 obtain ⟨ρ',e,h⟩:=NL els I ρ2 h0 hb;refine ⟨ρ',?_,h⟩;unfold Cc;rw [hf];dsimp only;rw [ec];exact e
def Ej (b:Bool):Nat:=if b then 114 else 100
def Aw (w:List Bool):Str:=⟨(w.map Ej).toArray⟩
def wd (w:List Bool):PV:=.str (Aw w)
def qT (u v:List Bool):Aw u++Aw v=Aw (u++v):=by
 show (⟨(u.map Ej).toArray++(v.map Ej).toArray⟩:Str)=_;unfold Aw;rw [Du];simp
def EG (w:List Bool):(Aw w).length=w.length:=by
 show (w.map Ej).toArray.size=_;simp
def Yb (w:List Bool):HB (Aw w)=true:=by
 unfold HB Aw;rw [<- UP];rw [jd6];intro x hx;obtain ⟨b,_,rfl⟩:=je6.mp hx;cases b <;> decide
def Ze (w:List Bool):QQ.signs (Aw w)=w.map λ b=>wd [b]:=by
 unfold QQ.signs Aw;show ((w.map Ej).map _)=_;rw [Ik];rfl
theorem Wr (b:Bool) (w:List Bool):Dv (Ej b) (Aw w).cps.toList=w.count b:=by
 unfold Dv Aw;show (w.map Ej).count (Ej b)=_;induction w with
 | nil=>rfl
 | cons x r ih=>
  rw [BQ,Il,Il,ih];cases x <;> cases b <;> rfl
def Zh (w:List Bool):LR (Aw w)=true:=by
 unfold LR Aw;rw [<- UP];rw [jd6];intro x hx;obtain ⟨b,_,rfl⟩:=je6.mp hx;cases b <;> decide
def BS (b:Nat):Nat->List Nat->List Bool
 | k,[]=>AK (b - k) true
 | k,n::r=>AK (n - k) true++false::BS b n r
theorem xN {b k:Nat}:∀ {ns:List Nat},(∀ n∈ns,k + 1<=n)->k + 1<=b->BS b k ns=true::BS b (k + 1) ns
 | [],_,hb=>by
  unfold BS;rw [show b - k=(b - (k + 1)) + 1 by omega,EX]
 | n::r,h,_=>by
  have:=h n Bf
  unfold BS;rw [show n - k=(n - (k + 1)) + 1 by omega,EX];rfl
def Rise (b:Nat):Nat->List Nat->Prop
 | k,[]=>k<=b
 | k,n::r=>k<=n/\Rise b n r
theorem Rise.le {b:Nat}:∀ {ns:List Nat}{k:Nat},Rise b k ns->k<=b
 | [],_,h=>h
 | _::_,_,h=>Cg h.1 h.2.le
theorem T5 {b:Nat}:∀ {ns:List Nat}{k:Nat},Rise b k ns->(BS b k ns).count true=b - k
 | [],k,h=>by unfold BS;rw [Na];simp
 | n::r,k,h=>by
  unfold BS;rw [Gi,Na,Il,T5 h.2];have h1:=h.1;have h2:=h.2.le;simp;omega
theorem T4 {b:Nat}:∀ (ns:List Nat) (k:Nat),(BS b k ns).count false=ns.length
 | [],k=>by unfold BS;rw [Na];simp
 | n::r,k=>by
  unfold BS;rw [Gi,Na,Il,T4 r n];simp
theorem Mv:∀ w:List Bool,w.length=w.count true + w.count false
 | []=>rfl
 | x::r=>by
  rw [Ba,Il,Il,Mv r];cases x <;> simp <;> omega
theorem Rise.all {b:Nat}:∀ {ns:List Nat}{k:Nat},Rise b k ns->∀ n∈ns,k<=n
 | [],_,_,n,h=>by cases h
 | m::r,k,h,n,hn=>by
  rcases jb2.mp hn with rfl | hn
  ·exact h.1
  ·exact Cg h.1 (h.2.all n hn)
def Cf (s:List Int):List Nat:=s.reverse.map Int.toNat
def C7 (b:Nat) (s:List Int):List Bool:=BS b 0 (Cf s)
def StR (b:Nat) (s:List Int):Prop:=Nr s/\∀ x∈s,0<=x/\x<=b
theorem Ub {b:Nat}:∀ {l:List Int}{k:Nat},l.Pairwise (·<=·)->(∀ x∈l,(k:Int)<=x/\x<=b)->k<=b->Rise b k (l.map Int.toNat)
 | [],k,_,_,hb=>hb
 | x::r,k,hp,hx,_=>by
  have h0:=hx x Bf;rw [List.pairwise_cons] at hp;refine ⟨by omega,Ub hp.2 (λ y hy=>⟨?_,(hx y (AQ _ hy)).2⟩) (by omega)⟩
  have:=hp.1 y hy
  omega
def Nr.pw {s:List Int} (h:Nr s):s.Pairwise (·≥ ·):=by
 rw [List.pairwise_iff_getElem];intro i j hi hj hij
 have:=h.le (E8 hij) hj
 rw [Ca,Ca,CD hi,CD hj] at this;exact this
def StR.rise {b:Nat}{s:List Int} (h:StR b s):Rise b 0 (Cf s):=by
 unfold Cf;refine Ub ?_ (λ x hx=>?_) (CV _)
 ·rw [List.pairwise_reverse];exact h.1.pw
 ·have:=h.2 x (jq7.mp hx)
  exact ⟨by omega,this.2⟩
def qd (s:List Int):(Cf s).length=s.length:=by unfold Cf;rw [A5,KN]
def XX {b:Nat}{s:List Int} (h:StR b s):(C7 b s).count true=b:=by
 unfold C7;rw [T5 h.rise];omega
def XW {b:Nat} (s:List Int):(C7 b s).count false=s.length:=by
 unfold C7;rw [T4,qd]
def U6 {f:Fx}{vs:List Nat}{asg:PV->Ah->Option Ah}{body:Fs}{ρ:Ah}{w:List Bool} (I:Nat->Ah->Prop) (hf:f ρ=.ok (wd w,om,ρ)) (h0:I 0 ρ)
  (hb:∀ j x ρ,w[j]?=some x->I j ρ->∃ ρ1 ρ2,asg (wd [x]) ρ=some ρ1/\body ρ1=.nx ρ2/\I (j + 1) ρ2):∃ ρ',Cc f vs asg body ρ=.nx ρ'/\I w.length ρ':=by
 obtain ⟨ρ',e,h⟩:=NL (asg:=asg) (body:=body) (w.map λ b=>wd [b]) I ρ h0 (λ j x ρ hx hi=>by
  rw [Cs] at hx;obtain ⟨b,hb',rfl⟩:=jb0.mp hx;exact hb j b ρ hb' hi)
 rw [A5] at h;refine ⟨ρ',?_,h⟩;unfold Cc;rw [hf];show (if HB (Aw w)=true then Bm asg body (QQ.signs (Aw w)) (Bg om vs ρ) else .no)=_;rw [if_pos (Yb w),Ze];exact e
def JT {f h:Fx}{ρ ρ1 ρ2:Ah}{u v:List Bool}{d e:Nat} (h1:f ρ=.ok (wd u,d,ρ1)) (h2:h ρ1=.ok (wd v,e,ρ2)) (hl:u.length + v.length<=100000):Ab Ao f h ρ=.ok (wd (u++v),om,ρ2):=by
 have z:=sz;refine C1 h1 h2 ?_;show (if (Aw u).length + (Aw v).length<=Am then some (PV.str (Aw u++Aw v),om) else none)=_;rw [EG,EG,if_pos (by omega),qT];rfl
def QA {a b c:Nat}{t:List (List Int)} (p:Pile a b c t) {s:List Int} (hs:s∈Cd t c):StR b s/\s.length=a:=by
 have q:=VA p;obtain ⟨k,hk,rfl⟩:=xG hs;rw [q.tab.1] at hk;refine ⟨⟨q.nr hk,λ x hx=>?_⟩,q.tab.row hk⟩;obtain ⟨i,hi,rfl⟩:=Ri hx;rw [q.tab.row hk] at hi;exact ⟨q.lo k i hk hi,q.hi k i hk hi⟩
def Yx (n:Nat) (w:List Bool):Cq (n + 1) (wd w)=some (.str (Aw w)):=by
 show (if LR (Aw w)=true then some (PyData.str (Aw w)) else none)=_;rw [if_pos (Zh w)]
def zm {f g:Fx}{ρ ρ1:Ah}{d:Nat} (h:f ρ=.ok (.bl false,d,ρ1)):Bb f g ρ=g ρ1:=by
 unfold Bb;rw [h];rfl
def rN (w:List Bool) (n:Nat):Nat:=(w.take n).count true
def dN (w:List Bool) (n:Nat):Nat:=(w.take n).count false
def Wd (a b:Nat) (w:List Bool):Prop:=w.count false=a/\w.count true=b
def Wd.len {a b:Nat}{w:List Bool} (h:Wd a b w):w.length=a + b:=by
 have:=Mv w
 have:=h.1
 have:=h.2
 omega
section
variable {a b c:Nat}{u v w:List Bool}
def AD (k:Nat) (w:List Bool) (n:Nat):Int×Int:=(-(k:Int) + (rN w n:Nat),(k:Int) + (dN w n:Nat))
def Dg (k:Nat) (w:List Bool):List (Int×Int):=(Bh (w.length + 1)).map (AD k w)
def A9:Nat->List (List Bool)->List (Int×Int)
 | _,[]=>[]
 | k,w::ws=>Dg k w++A9 (k + 1) ws
end
def T7 {v:Vw}{fa:Fa}{vs:List Nat}{asg:PV->Ah->Option Ah}{body:Fs}{ρ ρ1 ρ2:Ah}{r:Rs}{xs:List (PV×Nat)}{els:List PV} (hf:fa ρ=.ok (xs,ρ1)) (he:GO v (xs.map (·.1))=some els) (ec:Bg (if CY xs=true then om else 0) vs ρ1=ρ2) (h:Bm asg body els ρ2=r):Jn v fa vs asg body ρ=r:=by
 unfold Jn;rw [hf];dsimp only;rw [he];dsimp only;rw [ec,h]
def NU {f:Fx}{vs:List Nat}{asg:PV->Ah->Option Ah}{body:Fs}{ρ ρ1 ρ2:Ah}{r:Rs}{els:List PV}{d:Nat} (hf:f ρ=.ok (.lst els,d,ρ1)) (ec:Bg d vs ρ1=ρ2) (h:Bm asg body els ρ2=r):Cc f vs asg body ρ=r:=by
 unfold Cc;rw [hf];dsimp only;rw [ec,h]
def YN {en:List (PV×Nat)->Option (Int×Int)}{fa:Fa}{asg:PV->Ah->Option Ah}{body:Fs}{ρ ρ1:Ah}{r:Rs}{as:List (PV×Nat)}{n:Nat} (hf:fa ρ=.ok (as,ρ1)) (hen:en as=some (0,(n:Int))) (h:Bm asg body ((Bh n).map λ (k:Nat)=>.int (k:Int)) ρ1=r):CZ en fa asg body ρ=r:=by
 unfold CZ;rw [hf];dsimp only;rw [hen];dsimp only;rw [Q8,show ((n:Int) - 0).toNat=n by omega,<- h];congr 2;funext k;rw [MM]
def wl (ws:List (List Bool)):PV:=.lst (ws.map wd)
theorem Sv:∀ ws:List (List Bool),Ji (ws.map wd)=true
 | []=>rfl
 | w::ws=>by
  rw [BQ];exact Sv ws
def RS (ws:List (List Bool)):d1 (ws.map wd)=om:=by
 unfold d1;rw [Sv];rfl
section
variable {a b c:Nat}{w:List Bool}{ws:List (List Bool)}
def xo (h:Wd a b w) (hab:a + b<=1000):f_is_way [bx a b c,wd w]=.ok (.bl true,om,.non):=by
 have z:=sz;have hlw:=h.len;let R:Ah:=[some (bx a b c,0),some (wd w,om),some (.int (a:Int),om),some (.int (b:Int),om),some (.int (c:Int),om)]
 have v1:EN (BN [2,3,4]) (Aa 0) [0] [some (bx a b c,0),some (wd w,om),none,none,none]=.nx R:=rfl;have ln:Aj BF (Ad (Aa 1) (Ac)) R=.ok (.int (w.length:Int),om,R):=by
  refine Dl (Bx (x:=wd w) (d:=om) rfl) ?_;show (if (Aw w).length<=Am then some (PV.int ((Aw w).length:Nat),om) else none)=_;rw [if_pos (by rw [EG];omega),EG]
 have t1:=GV (neg:=true) ln (add_ok (f:=Aa 2) (g:=Aa 3) (i:=(a:Int)) (j:=(b:Int)) (d:=om) (e:=om) (ρ2:=R) rfl rfl);rw [decide_eq_true (show (w.length:Int)=(a:Int) + b by have:=h.len;omega)] at t1;have t2:=Bu ((zm (f:=Aq Cu (Aq (Eb "str") (Aa 1))) (ρ:=R) (ρ1:=R) (d:=om) rfl).trans t1);have cn:∀ (x:Bool) (f:Fx),f R=.ok (wd [x],om,R)->Dx 1 f R=.ok (.int (w.count x:Nat),om,R):=λ x f hf=>by
  have:Dx 1 f R=.ok (.int (Dv (Ej x) (Aw w).cps.toList:Nat),om,R):=by
   unfold Dx;show (match f R with | .ok (.str y,_,ρ1)=>_ | .ok _=>_ | .exc c=>_ | .no=>_)=_;rw [hf];rfl
  rw [this,Wr]
 have k1:=GV (neg:=false) (cn false (bC (.str "d")) rfl) (g:=Aa 2) (j:=(a:Int)) (e:=om) rfl;have k2:=GV (neg:=false) (cn true (bC (.str "r")) rfl) (g:=Aa 3) (j:=(b:Int)) (e:=om) rfl;rw [h.1,decide_eq_true rfl] at k1;rw [h.2,decide_eq_true rfl] at k2;exact C3 rfl ((A3 v1).trans ((HG t2).trans (DN (IU k1 (λ _=>k2) rfl))))
def xS (h:∀ w∈ws,Wd a b w) (hab:a + b<=1000) (hl:ws.length<=1000):f_is_list_of_ways [bx a b c,wl ws]=.ok (.bl true,om,.non):=by
 have z:=sz;let R:Ah:=[some (bx a b c,0),some (wl ws,0)]
 have e1:=Lf (n:=2) (f:=Aa 1) (elt:=Az f_is_way (Ad (Aa 0) (Ad (Aa 2) (Ac)))) (enc:=wd) (q:=λ _=>.bl true) (ρ:=R) (ρ1:=R) (d:=0) ws rfl rfl (λ w hw=>BO (xs:=[(bx a b c,0),(wd w,om)]) rfl (xo (h w hw) hab)) (by omega);have e2:=all_ok (g:=λ _=>true) e1;rw [show (ws.all λ _=>true)=true by simp] at e2;exact C3 rfl (DN (IU (f:=Aq (Eb "list") (Aa 1)) (a:=true) (ρ:=R) (ρ1:=R) (d:=om) rfl (λ _=>e2) rfl))
end
def Up (w:List Bool) {n m:Nat} (h1:n<=m) (h2:m<=w.length):E5 (Aw w) (some (n:Int)) (some (m:Int))=Aw ((w.drop n).take (m - n)):=by
 have hl:(Aw w).length=w.length:=EG w;have e:(Aw w).cps.toList=w.map Ej:=rfl;unfold E5;split
 ·rename_i h;rw [StrLaws.strSliceIndices_plain h1 (by omega),A5,EW,hl] at h;simp only [beq_self_eq_true,Bool.true_and,beq_iff_eq] at h
  have:n=0:=by omega
  subst this;rw [P8,PR (by omega)]
 ·rw [StrLaws.sliced_plain _ h1 (by omega),e,<- KC,<- P5];rfl
def qx (x:Str) (j:Option Int):E5 x none j=E5 x (some ((0:Nat):Int)) j:=by
 have:FX none j 1 x.length=FX (some ((0:Nat):Int)) j 1 x.length:=by
  unfold FX;have e:max (0:Int) (min 0 (x.length:Int))=0:=by omega
  simp [e]
 unfold E5;rw [this]
def qw (x:Str) (i:Option Int):E5 x i none=E5 x i (some ((x.length:Nat):Int)):=by
 have:FX i none 1 x.length=FX i (some ((x.length:Nat):Int)) 1 x.length:=by
  unfold FX;have e:max (0:Int) (min (x.length:Int) (x.length:Int))=x.length:=by omega
  have e2:¬ ((x.length:Int) < 0):=by omega
  simp [e,e2]
 unfold E5;rw [this]
def X5 {f h:Fx}{ρ ρ1:Ah}{w:List Bool}{n:Nat}{d e:Nat} (h1:f ρ=.ok (wd w,d,ρ1)) (h2:h ρ1=.ok (.int (n:Int),e,ρ1)) (hn:n<=w.length) (hl:w.length<=1000):AH f none (some h) ρ=.ok (wd (w.take n),om,ρ1):=by
 have z:=sz;unfold AH;rw [h1];dsimp only [Rz.bind,Es];rw [h2];show (match (if (Aw w).length<=Am then some (PV.str (E5 (Aw w) none (some (n:Int))),om) else none) with | some (z,c)=>Rz.ok (z,c,ρ1) | none=>.no)=_;rw [if_pos (by rw [EG];omega),qx,Up w (CV _) hn];rfl
def X6 {f h:Fx}{ρ ρ1:Ah}{w:List Bool}{n:Nat}{d e:Nat} (h1:f ρ=.ok (wd w,d,ρ1)) (h2:h ρ1=.ok (.int (n:Int),e,ρ1)) (hn:n<=w.length) (hl:w.length<=1000):AH f (some h) none ρ=.ok (wd (w.drop n),om,ρ1):=by
 have z:=sz;unfold AH;rw [h1];dsimp only [Rz.bind,Es];rw [h2];show (match (if (Aw w).length<=Am then some (PV.str (E5 (Aw w) (some (n:Int)) none),om) else none) with | some (z,c)=>Rz.ok (z,c,ρ1) | none=>.no)=_;rw [if_pos (by rw [EG];omega),qw,EG,Up w hn (A7 _),PR (by rw [D4];exact A7 _)];rfl
def RV {f h:Fx}{ρ ρ1:Ah}{w:List Bool}{n:Nat}{x:Bool}{d e:Nat} (h1:f ρ=.ok (wd w,d,ρ1)) (h2:h ρ1=.ok (.int (n:Int),e,ρ1)) (hx:w[n]?=some x) (hl:w.length<=1000):Ab Al f h ρ=.ok (wd [x],om,ρ1):=by
 have z:=sz;refine C1 h1 h2 ?_;show (if (Aw w).length<=Am then (BE (Aw w).cps.toList (n:Int)).map λ c=>(PV.str ⟨#[c]⟩,om) else none)=_;have e:(Aw w).cps.toList=w.map Ej:=rfl;rw [if_pos (by rw [EG];omega),e,Ey (by omega) (show (w.map Ej)[((n:Int)).toNat]?=some (Ej x) by rw [Ir,Cs,hx];rfl)];rfl
def Xo {f:Fx}{ρ ρ1:Ah}{w:List Bool}{d:Nat} (h:f ρ=.ok (wd w,d,ρ1)) (hl:w.length<=1000):Aj BF (Ad f Ac) ρ=.ok (.int (w.length:Int),om,ρ1):=by
 have z:=sz;refine Dl (Bx h) ?_;show (if (Aw w).length<=Am then some (PV.int ((Aw w).length:Nat),om) else none)=_;rw [if_pos (by rw [EG];omega),EG]
def Oc {i:Nat}{fk f:Fx}{ρ:Ah}{y:PV}{xs:List PV}{k:Int}{j d d2 e:Nat}{ρ3:Ah} (h:f ρ=.ok (y,e,ρ)) (h0:ρ[i]?=some (some (.lst xs,d))) (hk:fk ρ=.ok (.int k,d2,ρ)) (hj:Dj xs.length k=some j) (hd:d≠0) (hy:GY y=true) (e3:ρ.set i (some (.lst (xs.set j y),d))=ρ3):CN i fk f ρ=.nx ρ3:=by
 unfold CN;rw [h];dsimp only;rw [h0];dsimp only;rw [hk];dsimp only;rw [h0];dsimp only [DH];rw [hj];dsimp only;rw [if_pos ⟨hd,YM hy⟩,e3]
def WA {n k:Nat} (h:k < n):Dj n (k:Int)=some k:=by
 unfold Dj;rw [if_pos (by omega),Ir,if_pos (by omega)]
section
variable {a b c:Nat}{w:List Bool}{ws:List (List Bool)}
def W4 (hw:Wd a b w) (n:Int) (hab:2<=a + b/\a + b<=100):∃ w',Wd a b w'/\b_exchanged [wd w,.int n]=.ok (wd w',om,.non):=by
 have z:=sz;have hl:=hw.len;let R (s2:QQ.Slot):Ah:=[some (wd w,om),some (.int n,om),s2]
 have k0:=Gg n (show ((a + b:Nat):Int) - 1≠0 by omega);have k1:=Hl n (show (0:Int) < ((a + b:Nat):Int) - 1 by omega);obtain ⟨m,em⟩:∃ m:Nat,n % (((a + b:Nat):Int) - 1)=(m:Int):=⟨(n % (((a + b:Nat):Int) - 1)).toNat,by omega⟩
 have hm:m + 1 < a + b:=by omega
 have v1:Af false 2 (Ab AI (Aa 1) (Ab Cm (Aj BF (Ad (Aa 0) (Ac))) (bC (.int 1)))) [1,0] (R none)=.nx (R (some (.int (m:Int),om))):=by
  rw [<- em,<- hl];exact AB (Dn (i:=n) (d:=om) rfl (IT (Xo (w:=w) (d:=om) rfl (by omega)) (j:=1) rfl) (by omega)) (show 2 < 3 by decide) rfl
 let W:Ah:=R (some (.int (m:Int),om));obtain ⟨x,hx⟩:∃ x,w[m]?=some x:=⟨_,CD (by omega)⟩
 obtain ⟨y,hy⟩:∃ y,w[m + 1]?=some y:=⟨_,CD (show m + 1 < w.length by omega)⟩
 have e1:=X5 (f:=Aa 0) (h:=Aa 2) (ρ:=W) (ρ1:=W) (w:=w) (n:=m) (d:=om) (e:=om) rfl rfl (by omega) (by omega);have ad:∀ k:Nat,Ab Ao (Aa 2) (bC (.int (k:Int))) W=.ok (.int ((m + k:Nat):Int),om,W):=λ k=>by
  rw [Int.natCast_add];exact add_ok (i:=(m:Int)) (j:=(k:Int)) rfl rfl
 have e2:=RV (f:=Aa 0) (ρ:=W) (w:=w) (d:=om) rfl (ad 1) hy (by omega);have e3:=RV (f:=Aa 0) (h:=Aa 2) (ρ:=W) (ρ1:=W) (w:=w) (n:=m) (d:=om) (e:=om) rfl rfl hx (by omega);have e4:=X6 (f:=Aa 0) (ρ:=W) (w:=w) (d:=om) rfl (ad 2) (by omega) (by omega);have t1:(w.take m).length=m:=by rw [Dh];omega
 have t2:(w.drop (m + 2)).length=a + b - (m + 2):=by rw [D4];omega
 have e5:=JT e1 e2 (by rw [t1];show m + 1<=_;omega);have e6:=JT e5 e3 (by rw [AV,t1];show m + 1 + 1<=_;omega);have e7:=JT e6 e4 (by rw [AV,AV,t1,t2];show m + 1 + 1 + _<=_;omega);have ew:w=w.take m++[x]++[y]++w.drop (m + 2):=by
  have h1:w.take (m + 1)=w.take m++[x]:=by rw [MW,hx];rfl
  have h2:w.take (m + 2)=w.take m++[x]++[y]:=by rw [MW,hy,h1];rfl
  rw [<- h2,List.take_append_drop]
 refine ⟨_,?_,C3 rfl ((A3 v1).trans (DN e7))⟩;have cc:∀ q:Bool,(w.take m++[y]++[x]++w.drop (m + 2)).count q=w.count q:=λ q=>by
  conv=>rhs;rw [ew]
  simp only [Gi];omega
 exact ⟨by rw [cc];exact hw.1,by rw [cc];exact hw.2⟩
def Eu (x:Bool):Int:=if x then 1 else 0
def jj:Fs:=(Ag (Af false 5 (Ab AI (Ab BY (Aa 4) (bC (.int 3))) (bC (.int 2))) [4])
 (Ag (AW (bT (Ab (Au false) (Ab Al (Aa 3) (Aa 5)) (bC (.int 0)))) (Af false 5 (Ab Cm (bC (.int 1)) (Aa 5)) [5]) A4)
 (Ag (CN 3 (Aa 5) (Ab Cm (Ab Al (Aa 3) (Aa 5)) (bC (.int 1))))
 (Af false 2 (Ab Ao (Aa 2) (Ab Al (bC (.str "dr")) (Aa 5))) [2,5]))))
def Pc (cell:Int) (ha:1<=a/\a<=6) (hb:1<=b/\b<=6):∃ w',Wd a b w'/\b_drawn_way [bx a b c,.int cell]=.ok (wd w',om,.non):=by
 have z:=sz;obtain ⟨ns,hl,en⟩:=Lr cell (a + b) (by omega);let R (u:List Bool) (s4 s5:QQ.Slot):Ah:=[some (bx a b c,0),some (.int cell,om),some (wd u,om),some (il [(a:Int) - (u.count false:Nat),(b:Int) - (u.count true:Nat)],om),s4,s5]
 have v1:Af false 2 (bC (.str "")) [] [some (bx a b c,0),some (.int cell,om),none,none,none,none]=.nx [some (bx a b c,0),some (.int cell,om),some (wd [],om),none,none,none]:=rfl;have v2:Af false 3 (Aj AA (Ad (Ab Al (Aa 0) (bC (.int 0))) (Ad (Ab Al (Aa 0) (bC (.int 1))) (Ac)))) [0,0] [some (bx a b c,0),some (.int cell,om),some (wd [],om),none,none,none]=.nx (R [] none none):=by
  show _=Rs.nx [some (bx a b c,0),some (.int cell,om),some (wd [],om),some (il [(a:Int) - ((0:Nat):Int),(b:Int) - ((0:Nat):Int)],om),none,none];rw [show (a:Int) - ((0:Nat):Int)=a by omega,show (b:Int) - ((0:Nat):Int)=b by omega];rfl
 obtain ⟨ρ',e3,u,s4,s5,rfl,hu,hd,hr⟩:=Li (f:=Az b_numbers (Ad (Aa 1) (Ad (Ab Ao (Ab Al (Aa 0) (bC (.int 0))) (Ab Al (Aa 0) (bC (.int 1)))) (Ac)))) (vs:=[1,0,0]) (asg:=asgN 4) (body:=jj) (ρ:=R [] none none) (ρ1:=R [] none none) (ρ2:=R [] none none) (els:=ns.map PV.int) (d:=om)
  (λ n ρ=>∃ u s4 s5,ρ=R u s4 s5/\u.length=n/\u.count false<=a/\u.count true<=b) (by
   refine BO (z:=.non) (By (x:=.int cell) (d:=om) rfl (Bx (add_ok (i:=(a:Int)) (j:=(b:Int)) (d:=om) (e:=om) rfl rfl))) ?_;show b_numbers [.int cell,.int ((a:Int) + b)]=_;rw [show (a:Int) + (b:Int)=((a + b:Nat):Int) by omega];exact en) rfl ⟨[],none,none,rfl,rfl,CV _,CV _⟩ (by
  rintro n y _ hy ⟨u,s4,s5,rfl,hu,hd,hr⟩;have hn:n < a + b:=by
   have:=(ja3.mp hy).1
   rw [A5,hl] at this;exact this
  obtain ⟨m,_,rfl⟩:=je6.mp (Gk hy);have lu:=Mv u;let Q (u:List Bool) (s5:QQ.Slot):Ah:=R u (some (.int m,om)) s5;have q0:=Gg (m / 3) (show (2:Int)≠0 by decide);have q1:=Hl (m / 3) (show (0:Int) < 2 by decide);obtain ⟨x0,hx0⟩:∃ x0,m / 3 % 2=Eu x0:=by
   by_cases h:m / 3 % 2=0
   ·exact ⟨false,h⟩
   ·exact ⟨true,by show _=(1:Int);omega⟩
  have w1:Af false 5 (Ab AI (Ab BY (Aa 4) (bC (.int 3))) (bC (.int 2))) [4] (Q u s5)=.nx (Q u (some (.int (Eu x0),om))):=by
   rw [<- hx0];exact AB (Dn (IX (i:=m) rfl rfl (by decide) (by decide)) (j:=2) rfl (by decide)) (show 5 < 6 by decide) rfl
  have lf:∀ (x:Bool),Ab Al (Aa 3) (Aa 5) (Q u (some (.int (Eu x),om)))=.ok (.int (if x then (b:Int) - (u.count true:Nat) else (a:Int) - (u.count false:Nat)),om,Q u (some (.int (Eu x),om))):=λ x=>by
   cases x <;> rfl
  have w2:∃ x:Bool,(if x then u.count true < b else u.count false < a)/\AW (bT (Ab (Au false) (Ab Al (Aa 3) (Aa 5)) (bC (.int 0)))) (Af false 5 (Ab Cm (bC (.int 1)) (Aa 5)) [5]) A4 (Q u (some (.int (Eu x0),om)))=.nx (Q u (some (.int (Eu x),om))):=by
   have tt:=Bu (GV (neg:=false) (lf x0) (g:=bC (.int 0)) (j:=0) (e:=om) rfl);rw [KG] at tt;by_cases h:(if x0 then (b:Int) - (u.count true:Nat) else (a:Int) - (u.count false:Nat))=0
   ·rw [decide_eq_true h] at tt;refine ⟨!x0,?_,(Cj tt).trans ?_⟩
    ·cases x0 with
     | true=>
      have h:(b:Int) - (u.count true:Nat)=0:=h;show u.count false < a;omega
     | false=>
      have h:(a:Int) - (u.count false:Nat)=0:=h;show u.count true < b;omega
    ·cases x0 <;> rfl
   ·rw [decide_eq_false h] at tt;refine ⟨x0,?_,(Cr tt).trans rfl⟩;cases x0 with
    | true=>
     have h:¬ (b:Int) - (u.count true:Nat)=0:=h;show u.count true < b;omega
    | false=>
     have h:¬ (a:Int) - (u.count false:Nat)=0:=h;show u.count false < a;omega
  obtain ⟨x,hx,w2⟩:=w2;let V:Ah:=[some (bx a b c,0),some (.int cell,om),some (wd u,om),some (il [(a:Int) - ((u++[x]).count false:Nat),(b:Int) - ((u++[x]).count true:Nat)],om),some (.int m,om),some (.int (Eu x),om)]
  have cT:((u++[x]).count true:Nat)=u.count true + [x].count true:=Gi;have cF:((u++[x]).count false:Nat)=u.count false + [x].count false:=Gi;have w3:CN 3 (Aa 5) (Ab Cm (Ab Al (Aa 3) (Aa 5)) (bC (.int 1))) (Q u (some (.int (Eu x),om)))=.nx V:=by
   have k:=IT (lf x) (g:=bC (.int 1)) (j:=1) (e:=om) rfl;show _=Rs.nx [some (bx a b c,0),some (.int cell,om),some (wd u,om),some (il [(a:Int) - ((u++[x]).count false:Nat),(b:Int) - ((u++[x]).count true:Nat)],om),some (.int m,om),some (.int (Eu x),om)];rw [cT,cF];cases x with
   | true=>
    refine Oc (k:=1) (j:=1) (d:=om) (d2:=om) k rfl rfl rfl (by decide) rfl ?_;show [some (bx a b c,0),some (.int cell,om),some (wd u,om),some (il [(a:Int) - (u.count false:Nat),(b:Int) - (u.count true:Nat) - 1],om),some (.int m,om),some (.int (Eu true),om)]=_;rw [show (a:Int) - ((u.count false + [true].count false:Nat):Int)=(a:Int) - (u.count false:Nat) from rfl,show (b:Int) - ((u.count true + [true].count true:Nat):Int)=(b:Int) - (u.count true:Nat) - 1 by rw [show [true].count true=1 from rfl];omega]
   | false=>
    refine Oc (k:=0) (j:=0) (d:=om) (d2:=om) k rfl rfl rfl (by decide) rfl ?_;show [some (bx a b c,0),some (.int cell,om),some (wd u,om),some (il [(a:Int) - (u.count false:Nat) - 1,(b:Int) - (u.count true:Nat)],om),some (.int m,om),some (.int (Eu false),om)]=_;rw [show (b:Int) - ((u.count true + [false].count true:Nat):Int)=(b:Int) - (u.count true:Nat) from rfl,show (a:Int) - ((u.count false + [false].count false:Nat):Int)=(a:Int) - (u.count false:Nat) - 1 by rw [show [false].count false=1 from rfl];omega]
  have w4:Af false 2 (Ab Ao (Aa 2) (Ab Al (bC (.str "dr")) (Aa 5))) [2,5] V=.nx (Q (u++[x]) (some (.int (Eu x),om))):=by
   have k:Ab Al (bC (.str "dr")) (Aa 5) V=.ok (wd [x],om,V):=by cases x <;> rfl
   exact AB (JT (f:=Aa 2) (u:=u) (d:=om) (ρ:=V) (ρ1:=V) rfl k (by show u.length + 1<=_;omega)) (show 2 < 6 by decide) rfl
  refine ⟨Q u s5,Q (u++[x]) (some (.int (Eu x),om)),rfl,(A3 w1).trans ((A3 w2).trans ((A3 w3).trans w4)),u++[x],_,_,rfl,by rw [AV,hu];rfl,?_,?_⟩
  ·rw [cF];cases x with
   | true=>show u.count false + 0<=a;omega
   | false=>have hx:u.count false < a:=hx;show u.count false + 1<=a;omega
  ·rw [cT];cases x with
   | true=>have hx:u.count true < b:=hx;show u.count true + 1<=b;omega
   | false=>show u.count true + 0<=b;omega)
 rw [A5,hl] at hu;have lu:=Mv u;exact ⟨u,⟨by omega,by omega⟩,C3 rfl ((A3 v1).trans ((A3 v2).trans ((A3 e3).trans rfl)))⟩
end
def pt (z:Int×Int):PV:=.tup [.int z.1,.int z.2]
section
variable {a b c:Nat}{w:List Bool}{ws:List (List Bool)}
def Xk (w:List Bool) (k:Nat) (hw:w.length<=1000):f_points_moved_apart [wd w,.int (k:Int)]=.ok (.lst ((Dg k w).map pt),om,.non):=by
 have z:=sz;let P (n:Nat):List (Int×Int):=(Bh (n + 1)).map (AD k w);let R (n:Nat) (s5:QQ.Slot):Ah:=[some (wd w,om),some (.int (k:Int),om),some (.int (AD k w n).1,om),some (.int (AD k w n).2,om),some (.lst ((P n).map pt),om),s5]
 have v1:Af false 2 (Aq BB (Aa 1)) [1] [some (wd w,om),some (.int (k:Int),om),none,none,none,none]=.nx [some (wd w,om),some (.int (k:Int),om),some (.int (-(k:Int)),om),none,none,none]:=rfl;have v2:Af false 3 (Aa 1) [1] [some (wd w,om),some (.int (k:Int),om),some (.int (-(k:Int)),om),none,none,none]=.nx [some (wd w,om),some (.int (k:Int),om),some (.int (-(k:Int)),om),some (.int (k:Int),om),none,none]:=rfl;have v3:Af false 4 (Aj AA (Ad (Aj BC (Ad (Aa 2) (Ad (Aa 3) (Ac)))) (Ac))) [2,3] [some (wd w,om),some (.int (k:Int),om),some (.int (-(k:Int)),om),some (.int (k:Int),om),none,none]=.nx (R 0 none):=by
  have e1:(AD k w 0).1=-(k:Int):=by show -(k:Int) + ((0:Nat):Int)=_;omega
  have e2:(AD k w 0).2=(k:Int):=by show (k:Int) + ((0:Nat):Int)=_;omega
  show _=Rs.nx [some (wd w,om),some (.int (k:Int),om),some (.int (AD k w 0).1,om),some (.int (AD k w 0).2,om),some (.lst [.tup [.int (AD k w 0).1,.int (AD k w 0).2]],om),none];rw [e1,e2];rfl
 obtain ⟨ρ',v4,s5,rfl⟩:=U6 (f:=Aa 0) (vs:=[0]) (asg:=asgN 5) (body:=Ag (AW (bT (Ab (Au false) (Aa 5) (bC (.str "r")))) (CT (λ i j=>i + j) true 2 (bC (.int 1))) (CT (λ i j=>i + j) true 3 (bC (.int 1)))) (A2 4 (Aj BC (Ad (Aa 2) (Ad (Aa 3) (Ac)))) [2,3])) (ρ:=R 0 none) (w:=w) (λ n ρ=>∃ s5,ρ=R n s5) rfl ⟨none,rfl⟩ (by
  rintro n x ρ hx ⟨s5,rfl⟩;have es:w.take (n + 1)=w.take n++[x]:=by rw [P7,hx];rfl
  have er:rN w (n + 1)=rN w n + [x].count true:=by unfold rN;rw [es,Gi]
  have ed:dN w (n + 1)=dN w n + [x].count false:=by unfold dN;rw [es,Gi]
  have hn:=(ja3.mp hx).1;let S:QQ.Slot:=some (wd [x],om);let M:Ah:=[some (wd w,om),some (.int (k:Int),om),some (.int (AD k w (n + 1)).1,om),some (.int (AD k w (n + 1)).2,om),some (.lst ((P n).map pt),om),S]
  have u1:AW (bT (Ab (Au false) (Aa 5) (bC (.str "r")))) (CT (λ i j=>i + j) true 2 (bC (.int 1))) (CT (λ i j=>i + j) true 3 (bC (.int 1))) (R n S)=.nx M:=by
   have e1:(AD k w (n + 1)).1=(AD k w n).1 + ([x].count true:Nat):=by show -(k:Int) + ((rN w (n + 1):Nat):Int)=-(k:Int) + ((rN w n:Nat):Int) + _;rw [er];omega
   have e2:(AD k w (n + 1)).2=(AD k w n).2 + ([x].count false:Nat):=by show (k:Int) + ((dN w (n + 1):Nat):Int)=(k:Int) + ((dN w n:Nat):Int) + _;rw [ed];omega
   show _=Rs.nx [some (wd w,om),some (.int (k:Int),om),some (.int (AD k w (n + 1)).1,om),some (.int (AD k w (n + 1)).2,om),some (.lst ((P n).map pt),om),S];rw [e1,e2];cases x with
   | true=>
    have t1:bT (Ab (Au false) (Aa 5) (bC (.str "r"))) (R n (some (wd [true],om)))=.ok (true,R n (some (wd [true],om))):=by kernel_rfl
    refine (Cj t1).trans ?_;rw [show ((AD k w n).2 + (([true].count false:Nat):Int))=(AD k w n).2 by show _ + ((0:Nat):Int)=_;omega];rfl
   | false=>
    have t1:bT (Ab (Au false) (Aa 5) (bC (.str "r"))) (R n (some (wd [false],om)))=.ok (false,R n (some (wd [false],om))):=by kernel_rfl
    refine (Cr t1).trans ?_;rw [show ((AD k w n).1 + (([false].count true:Nat):Int))=(AD k w n).1 by show _ + ((0:Nat):Int)=_;omega];rfl
  have eP:P (n + 1)=P n++[AD k w (n + 1)]:=by
   show (Bh (n + 1 + 1)).map (AD k w)=_;rw [MU,Du];rfl
  have u2:A2 4 (Aj BC (Ad (Aa 2) (Ad (Aa 3) (Ac)))) [2,3] M=.nx (R (n + 1) S):=by
   refine (FL (i:=4) (xs:=(P n).map pt) (xs0:=(P n).map pt) (d:=om) (d0:=999) (y:=pt (AD k w (n + 1))) (e:=om) (ρ1:=M) rfl rfl rfl (by decide) (by rw [A5];show ((Bh (n + 1)).map (AD k w)).length < _;rw [A5,EW];omega) rfl).trans ?_;show _=Rs.nx [some (wd w,om),some (.int (k:Int),om),some (.int (AD k w (n + 1)).1,om),some (.int (AD k w (n + 1)).2,om),some (.lst ((P (n + 1)).map pt),om),S];rw [eP,Du];rfl
  exact ⟨R n S,R (n + 1) S,rfl,(A3 u1).trans u2,_,rfl⟩)
 exact C3 rfl ((A3 v1).trans ((A3 v2).trans ((A3 v3).trans ((A3 v4).trans rfl))))
def CB (z:Int×Int):List AG:=[.inl z.1,.inl z.2]
def qA {x y:Int×Int} (h:CB x=CB y):x=y:=by
 unfold CB at h;simp only [List.cons.injEq,Sum.inl.injEq,and_true] at h;exact Prod.ext h.1 h.2
def D0:List (Int×Int)->List (List AG×V)
 | []=>[]
 | x::r=>Bq (D0 r) (CB x) (.bl true)
theorem QU (y:Int×Int):∀ xs:List (Int×Int),(AO (D0 xs) (CB y)).isSome=decide (y∈xs)
 | []=>by simp [D0,AO]
 | x::r=>by
  unfold D0;rw [qI];by_cases e:y=x
  ·subst e;simp
  ·have:¬ CB y=CB x:=λ h=>e (qA h)
   rw [if_neg this,QU y r];simp [e]
theorem QY:∀ xs:List (Int×Int),(D0 xs).length<=xs.length
 | []=>A7 _
 | x::r=>by
  unfold D0
  have:=Nw (D0 r) (CB x) (.bl true)
  have:=QY r
  rw [Ba];omega
def Ho:Fs:=(Ag (AW (bT (Ab (CU false) (Aa 5) (Aa 2))) (A8 (bC (.bl false))) A4) (CN 2 (Aa 5) (bC (.bl true))))
abbrev NR (a b c:Nat) (ws:List (List Bool)) (T:List (Int×Int)) (s3 s4 s5:QQ.Slot):Ah:=[some (bx a b c,0),some (wl ws,0),some (.dct (D0 T),om),s3,s4,s5]
theorem TB {s3 s4:QQ.Slot}:∀ (L T:List (Int×Int)) (s5:QQ.Slot),T.Nodup->T.length + L.length<=100000->((L.reverse++T).Nodup/\∃ s5',Bm (asgN 5) Ho (L.map pt) (NR a b c ws T s3 s4 s5)=.nx (NR a b c ws (L.reverse++T) s3 s4 s5'))\/(¬ (L.reverse++T).Nodup/\∃ ρ',Bm (asgN 5) Ho (L.map pt) (NR a b c ws T s3 s4 s5)=.rt (.bl false) om ρ')
 | [],T,s5,hT,_=>.inl ⟨hT,s5,rfl⟩
 | y::L,T,s5,hT,hl=>by
  have z:=sz;rw [Ba] at hl;let Q:Ah:=NR a b c ws T s3 s4 (some (pt y,0));have tt:bT (Ab (CU false) (Aa 5) (Aa 2)) Q=.ok (decide (y∈T),Q):=by
   refine Bu (d:=om) (C1 (x:=pt y) (d:=0) (y:=.dct (D0 T)) (e:=0) rfl rfl ?_);show some (PV.bl (false^^(AO (D0 T) (CB y)).isSome),om)=_;rw [QU,KG]
  have er:(y::L).reverse++T=L.reverse++(y::T):=by rw [KJ,Gj];rfl
  have el:∀ {r:Rs},Ho Q=r->Bm (asgN 5) Ho ((y::L).map pt) (NR a b c ws T s3 s4 s5)=(match r with | .nx ρ2=>Bm (asgN 5) Ho (L.map pt) ρ2 | .ct ρ2=>Bm (asgN 5) Ho (L.map pt) ρ2 | .bk ρ2=>.nx ρ2 | .rt x d ρ2=>.rt x d ρ2 | .exc c=>.exc c | .no=>.no):=λ {r} h=>by
   subst h;rfl
  by_cases hy:y∈T
  ·rw [decide_eq_true hy] at tt;refine .inr ⟨λ nd=>?_,Q,?_⟩
   ·rw [er,PL] at nd;exact (jh3.mp nd.2.1).1 hy
   ·rw [el (r:=.rt (.bl false) om Q) (JP ((Cj tt).trans rfl))]
  ·rw [decide_eq_false hy] at tt;have hk:(D0 T).length < Am:=by
    have:=QY T
    omega
   have hp:DH (.dct (D0 T)) (pt y) (.bl true)=some (.dct (D0 (y::T))):=by
    show (if (D0 T).length < Am then some (PV.dct (Bq (D0 T) (CB y) (.bl true))) else none)=_;rw [if_pos hk];rfl
   have pu:CN 2 (Aa 5) (bC (.bl true)) Q=.nx (NR a b c ws (y::T) s3 s4 (some (pt y,0))):=by
    unfold CN;show (match DH (.dct (D0 T)) (pt y) (.bl true) with | some x'=>_ | none=>_)=_;rw [hp];rfl
   rw [el ((HG tt).trans pu),er];exact TB L (y::T) _ (jh3.mpr ⟨hy,hT⟩) (by rw [Ba];omega)
def GG:Fs:=Cc (Az f_points_moved_apart (Ad (Aa 4) (Ad (Aa 3) (Ac)))) [4,3] (asgN 5) Ho
theorem Rk {W:List (List Bool)}:∀ (ws:List (List Bool)) (k:Nat) (T:List (Int×Int)) (s3 s4 s5:QQ.Slot),(∀ w∈ws,w.length<=100)->T.Nodup->T.length + 101 * ws.length<=100000->(((A9 k ws).reverse++T).Nodup/\∃ s3' s4' s5',Bm (BN [3,4]) GG (DP k (ws.map wd)) (NR a b c W T s3 s4 s5)=.nx (NR a b c W ((A9 k ws).reverse++T) s3' s4' s5'))\/(¬ ((A9 k ws).reverse++T).Nodup/\∃ ρ',Bm (BN [3,4]) GG (DP k (ws.map wd)) (NR a b c W T s3 s4 s5)=.rt (.bl false) om ρ')
 | [],k,T,s3,s4,s5,_,hT,_=>.inl ⟨hT,s3,s4,s5,rfl⟩
 | w::ws,k,T,s3,s4,s5,hw,hT,hl=>by
  have lw:=hw w Bf;rw [Ba] at hl;have lp:(Dg k w).length=w.length + 1:=by unfold Dg;rw [A5,EW]
  let S3:QQ.Slot:=some (.int (k:Int),om);let S4:QQ.Slot:=some (wd w,om);have er:(A9 k (w::ws)).reverse++T=(A9 (k + 1) ws).reverse++((Dg k w).reverse++T):=by
   show (Dg k w++A9 (k + 1) ws).reverse++T=_;rw [Vd,Gj]
  have el:∀ {r:Rs},GG (NR a b c W T S3 S4 s5)=r->Bm (BN [3,4]) GG (DP k ((w::ws).map wd)) (NR a b c W T s3 s4 s5)=(match r with | .nx ρ2=>Bm (BN [3,4]) GG (DP (k + 1) (ws.map wd)) ρ2 | .ct ρ2=>Bm (BN [3,4]) GG (DP (k + 1) (ws.map wd)) ρ2 | .bk ρ2=>.nx ρ2 | .rt x d ρ2=>.rt x d ρ2 | .exc c=>.exc c | .no=>.no):=λ {r} h=>by
   subst h;rfl
  have pk:=Xk w k (by omega);have go:∀ r,Bm (asgN 5) Ho ((Dg k w).map pt) (NR a b c W T S3 S4 s5)=r->GG (NR a b c W T S3 S4 s5)=r:=λ r h=>NU (ρ1:=NR a b c W T S3 S4 s5) (ρ2:=NR a b c W T S3 S4 s5) (d:=om) (BO (xs:=[(wd w,om),(.int (k:Int),om)]) rfl pk) rfl h;rcases TB (a:=a) (b:=b) (c:=c) (ws:=W) (s3:=S3) (s4:=S4) (Dg k w) T s5 hT (by omega) with ⟨h1,s5',e1⟩ | ⟨h1,ρ',e1⟩
  ·rw [el (go _ e1),er];exact Rk ws (k + 1) _ S3 S4 s5' (λ v hv=>hw v (AQ _ hv)) h1 (by rw [AV,KN];omega)
  ·refine .inr ⟨λ nd=>h1 ?_,ρ',?_⟩
   ·rw [er,PL] at nd;exact nd.2.1
   ·rw [el (go _ e1)]
def xH (h:∀ w∈ws,Wd a b w) (hl:ws.length<=10) (ha:1<=a/\a<=6) (hb:1<=b/\b<=6) (hc:1<=c/\c<=6):f_never_touch [bx a b c,wl ws]=.ok (.bl (decide (A9 0 ws).Nodup),om,.non):=by
 let R (s2:QQ.Slot):Ah:=[some (bx a b c,0),some (wl ws,0),s2,none,none,none]
 have v1:Dk (Az f_must_be_box (Ad (Aa 0) (Ac))) (R none)=.nx (R none):=Yo (BO (xs:=[(bx a b c,0)]) rfl (V7 (by unfold ID;rw [decide_eq_true (by omega),decide_eq_true (by omega),decide_eq_true (by omega)];rfl)));have t1:=Bu (Hx (BO (F:=f_is_list_of_ways) (fa:=Ad (Aa 0) (Ad (Aa 1) Ac)) (ρ:=R none) (xs:=[(bx a b c,0),(wl ws,0)]) rfl (xS h (by omega) (by omega))));have v2:Af false 2 Gz [] (R none)=.nx (NR a b c ws [] none none none):=rfl;have en:GO .enm [wl ws]=some (DP 0 (ws.map wd)):=rfl;have ro:((A9 0 ws).reverse++[]).Nodup↔(A9 0 ws).Nodup:=by rw [Io];exact (List.reverse_perm _).nodup_iff
 rcases Rk (a:=a) (b:=b) (c:=c) (W:=ws) ws 0 [] none none none (λ w hw=>by rw [(h w hw).len];omega) MT (by rw [UN];omega) with ⟨h1,s3,s4,s5,e1⟩ | ⟨h1,ρ',e1⟩
 ·rw [decide_eq_true (ro.mp h1)];have v3:=T7 (v:=.enm) (fa:=Ad (Aa 1) (Ac)) (vs:=[1]) (asg:=BN [3,4]) (body:=GG) (ρ:=NR a b c ws [] none none none) (ρ1:=NR a b c ws [] none none none) (ρ2:=NR a b c ws [] none none none) (xs:=[(wl ws,0)]) rfl en rfl e1;exact C3 rfl ((A3 v1).trans ((HG t1).trans ((A3 v2).trans ((A3 v3).trans rfl))))
 ·rw [decide_eq_false (λ z=>h1 (ro.mpr z))];have v3:=T7 (v:=.enm) (fa:=Ad (Aa 1) (Ac)) (vs:=[1]) (asg:=BN [3,4]) (body:=GG) (ρ:=NR a b c ws [] none none none) (ρ1:=NR a b c ws [] none none none) (ρ2:=NR a b c ws [] none none none) (xs:=[(wl ws,0)]) rfl en rfl e1;exact C3 rfl ((A3 v1).trans ((HG t1).trans ((A3 v2).trans (JP v3))))
def zV:Fs:=(Ag (Af false 5 (Ab AI (Aa 4) (Aj BF (Ad (Aa 3) (Ac)))) [4,3])
 (Ag (AW (bT (Ab (BA λ i j=>decide (j < i)) (Ab AI (Ab BY (Aa 4) (bC (.int 7))) (bC (.int 4))) (bC (.int 0)))) (CN 3 (Aa 5) (Az b_exchanged (Ad (Ab Al (Aa 3) (Aa 5)) (Ad (Ab BY (Aa 4) (bC (.int 28))) (Ac))))) A4)
 (AW (bT (Ab (Au false) (Ab AI (Ab BY (Aa 4) (bC (.int 7))) (bC (.int 4))) (bC (.int 0)))) (CN 3 (Aa 5) (Az b_drawn_way (Ad (Aa 0) (Ad (Ab BY (Aa 4) (bC (.int 28))) (Ac))))) A4)))
def Tu {m:Nat}{w':List Bool} (h:∀ w∈ws,Wd a b w) (hw:Wd a b w'):∀ w∈ws.set m w',Wd a b w:=λ w hm=>(List.mem_or_eq_of_mem_set hm).elim (h w) λ e=>by rw [e];exact hw
def Uq (h:∀ w∈ws,Wd a b w) (hl:ws.length=c) (ha:1<=a/\a<=6) (hb:1<=b/\b<=6) (hc:1<=c/\c<=6) (ns:List Int):∃ vs,(∀ w∈vs,Wd a b w)/\vs.length=c/\b_some_ways [bx a b c,wl ws,il ns]=.ok (wl vs,om,.non):=by
 have z:=sz;let R (vs:List (List Bool)) (s4 s5:QQ.Slot):Ah:=[some (bx a b c,0),some (wl ws,0),some (il ns,0),some (wl vs,om),s4,s5]
 have v1:Af false 3 (Aj Fj (Ad (Aa 1) (Ac))) [1] [some (bx a b c,0),some (wl ws,0),some (il ns,0),none,none,none]=.nx (R ws none none):=by
  refine AB (x:=wl ws) (d:=om) (Dl (Bx (x:=wl ws) (d:=0) rfl) ?_) (show 3 < 6 by decide) rfl;show some (PV.lst (ws.map wd),d1 (ws.map wd))=_;rw [RS];rfl
 obtain ⟨ρ',e2,vs,s4,s5,rfl,hv,hvl⟩:=Li (f:=Aa 2) (vs:=[2]) (asg:=asgN 4) (body:=zV) (ρ:=R ws none none) (ρ1:=R ws none none) (ρ2:=R ws none none) (els:=ns.map PV.int) (d:=0)
  (λ _ ρ=>∃ vs s4 s5,ρ=R vs s4 s5/\(∀ w∈vs,Wd a b w)/\vs.length=c) rfl rfl ⟨ws,none,none,rfl,h,hl⟩ (by
  rintro n y _ hy ⟨vs,s4,s5,rfl,hv,hvl⟩;obtain ⟨q,_,rfl⟩:=je6.mp (Gk hy);have k0:=Gg q (show (c:Int)≠0 by omega);have k1:=Hl q (show (0:Int) < c by omega);obtain ⟨m,em⟩:∃ m:Nat,q % (c:Int)=(m:Int):=⟨(q % (c:Int)).toNat,by omega⟩
  have hm:m < c:=by omega
  let Q (vs:List (List Bool)):Ah:=R vs (some (.int q,om)) (some (.int (m:Int),om));have ln:Aj BF (Ad (Aa 3) (Ac)) (R vs (some (.int q,om)) s5)=.ok (.int (c:Int),om,R vs (some (.int q,om)) s5):=by
   refine Dl (Bx (x:=wl vs) (d:=0) rfl) ?_;show some (PV.int ((vs.map wd).length:Nat),om)=_;rw [A5,hvl]
  have w1:Af false 5 (Ab AI (Aa 4) (Aj BF (Ad (Aa 3) (Ac)))) [4,3] (R vs (some (.int q,om)) s5)=.nx (Q vs):=by
   show _=Rs.nx (R vs (some (.int q,om)) (some (.int (m:Int),om)));rw [<- em];exact AB (Dn (i:=q) (d:=om) rfl ln (by omega)) (show 5 < 6 by decide) rfl
  have md:∀ vs,Ab AI (Ab BY (Aa 4) (bC (.int 7))) (bC (.int 4)) (Q vs)=.ok (.int (q / 7 % 4),om,Q vs):=λ vs=>Dn (IX (i:=q) rfl rfl (by decide) (by decide)) (j:=4) rfl (by decide);have dv28:∀ vs,Ab BY (Aa 4) (bC (.int 28)) (Q vs)=.ok (.int (q / 28),om,Q vs):=λ vs=>IX (i:=q) rfl rfl (by decide) (by decide);have put:∀ {vs:List (List Bool)}{f:Fx}{w':List Bool},vs.length=c->f (Q vs)=.ok (wd w',om,Q vs)->CN 3 (Aa 5) f (Q vs)=.nx (Q (vs.set m w')):=λ {vs f w'} hl' hf=>by
   refine Oc (xs:=vs.map wd) (k:=(m:Int)) (j:=m) (d:=om) (d2:=om) hf rfl rfl (WA (by rw [A5,hl'];exact hm)) (by decide) rfl ?_;show [some (bx a b c,0),some (wl ws,0),some (il ns,0),some (PV.lst ((vs.map wd).set m (wd w')),om),some (.int q,om),some (.int (m:Int),om)]=_;rw [<- List.map_set];rfl
  have w2:∃ vs',(∀ w∈vs',Wd a b w)/\vs'.length=c/\AW (bT (Ab (BA λ i j=>decide (j < i)) (Ab AI (Ab BY (Aa 4) (bC (.int 7))) (bC (.int 4))) (bC (.int 0)))) (CN 3 (Aa 5) (Az b_exchanged (Ad (Ab Al (Aa 3) (Aa 5)) (Ad (Ab BY (Aa 4) (bC (.int 28))) (Ac))))) A4 (Q vs)=.nx (Q vs'):=by
   have tt:=Bu (FN (p:=λ i j=>decide (j < i)) (md vs) (g:=bC (.int 0)) (j:=0) (e:=om) rfl);cases hd:decide ((0:Int) < q / 7 % 4) with
   | true=>
    rw [hd] at tt;obtain ⟨x,hx⟩:∃ x,vs[m]?=some x:=⟨_,CD (by omega)⟩
    obtain ⟨w',hw',ew⟩:=W4 (hv x (Gk hx)) (q / 28) (by omega);have ix:Ab Al (Aa 3) (Aa 5) (Q vs)=.ok (wd x,om,Q vs):=by
     refine C1 (x:=wl vs) (d:=0) (y:=.int (m:Int)) (e:=om) rfl rfl ?_;show (BE (vs.map wd) (m:Int)).map _=_;rw [Ey (by omega) (show (vs.map wd)[((m:Int)).toNat]?=some (wd x) by rw [Ir,Cs,hx];rfl)];rfl
    exact ⟨vs.set m w',Tu hv hw',by rw [DI];exact hvl,(Cj tt).trans (put hvl (BO (By ix (Bx (dv28 vs))) ew))⟩
   | false=>rw [hd] at tt;exact ⟨vs,hv,hvl,(Cr tt).trans rfl⟩
  obtain ⟨vs1,hv1,hl1,w2⟩:=w2;have w3:∃ vs',(∀ w∈vs',Wd a b w)/\vs'.length=c/\AW (bT (Ab (Au false) (Ab AI (Ab BY (Aa 4) (bC (.int 7))) (bC (.int 4))) (bC (.int 0)))) (CN 3 (Aa 5) (Az b_drawn_way (Ad (Aa 0) (Ad (Ab BY (Aa 4) (bC (.int 28))) (Ac))))) A4 (Q vs1)=.nx (Q vs'):=by
   have tt:=Bu (GV (neg:=false) (md vs1) (g:=bC (.int 0)) (j:=0) (e:=om) rfl);rw [KG] at tt;cases hd:decide (q / 7 % 4=0) with
   | true=>
    rw [hd] at tt;obtain ⟨w',hw',ew⟩:=Pc (c:=c) (q / 28) ha hb;exact ⟨vs1.set m w',Tu hv1 hw',by rw [DI];exact hl1,(Cj tt).trans (put hl1 (BO (By (x:=bx a b c) (d:=0) rfl (Bx (dv28 vs1))) ew))⟩
   | false=>rw [hd] at tt;exact ⟨vs1,hv1,hl1,(Cr tt).trans rfl⟩
  obtain ⟨vs2,hv2,hl2,w3⟩:=w3;exact ⟨R vs (some (.int q,om)) s5,Q vs2,rfl,(A3 w1).trans ((A3 w2).trans w3),vs2,_,_,rfl,hv2,hl2⟩)
 exact ⟨vs,hv,hvl,C3 rfl ((A3 v1).trans ((A3 e2).trans rfl))⟩
end
end QV
namespace K17
open PySem PySem.Spec PyProof.Rows L2 QQ
abbrev GT:=List (Str×(Bool×Nat×Fn))
abbrev mS (N:List Str) (t:Stmt) (m:List Nat) (G:GT):Sx:=⟨N,Bo t,m,[],G,[],true,[0,1,2,3,4,5,6,7,8,9,10,11],[]⟩
def G0:GT:=[]
def S0:=mS ["thing"] t0 [] G0
abbrev b0:Fs:=QV.Xf_is_whole_number
abbrev F0:Fn:=QV.f_is_whole_number
def h0:BJ (AM 60 S0) (BP t0)=some b0:=by kernel_rfl
def G1:GT:=[("is_whole_number",(false,1,F0))]
def S1:=mS ["thing"] t1 [] G1
abbrev b1:Fs:=QV.Xf_is_box
abbrev F1:Fn:=QV.f_is_box
def h1:BJ (AM 60 S1) (BP t1)=some b1:=by kernel_rfl
def G2:GT:=[("is_box",(false,1,F1))]
def S2:=mS ["box"] t2 [] G2
abbrev b2:Fs:=QV.Xf_must_be_box
abbrev F2:Fn:=QV.f_must_be_box
def h2:BJ (AM 60 S2) (BP t2)=some b2:=by kernel_rfl
def G3:GT:=[]
def S3:=mS ["box","thing","rows","columns","height"] t3 [] G3
abbrev b3:Fs:=QV.Xf_is_way
abbrev F3:Fn:=QV.f_is_way
def h3:BJ (AM 60 S3) (BP t3)=some b3:=by kernel_rfl
def G4:GT:=[("is_way",(false,2,F3))]
def S4:=mS ["box","thing"] t4 [] G4
abbrev b4:Fs:=QV.Xf_is_list_of_ways
abbrev F4:Fn:=QV.f_is_list_of_ways
def h4:BJ (AM 60 S4) (BP t4)=some b4:=by kernel_rfl
def G5:GT:=[]
def S5:=mS ["way","k","x","y","points","sign"] t5 [] G5
abbrev b5:Fs:=QV.Xf_points_moved_apart
abbrev F5:Fn:=QV.f_points_moved_apart
def h5:BJ (AM 60 S5) (BP t5)=some b5:=by kernel_rfl
def G6:GT:=[("must_be_box",(false,1,F2)),("is_list_of_ways",(false,2,F4)),("points_moved_apart",(false,2,F5))]
def S6:=mS ["box","ways","taken","k","way","point"] t6 [] G6
abbrev b6:Fs:=QV.Xf_never_touch
abbrev F6:Fn:=QV.f_never_touch
def h6:BJ (AM 60 S6) (BP t6)=some b6:=by kernel_rfl
def G7:GT:=[]
def S7:=mS ["script","k"] t7 [] G7
abbrev b7:Fs:=QV.Xb_cell_at
abbrev F7:Fn:=QV.b_cell_at
def h7:BJ (AM 60 S7) (BP t7)=some b7:=by kernel_rfl
def G8:GT:=[]
def S8:=mS ["cell","k","one"] t8 [] G8
abbrev b8:Fs:=QV.Xb_stir
abbrev F8:Fn:=QV.b_stir
def h8:BJ (AM 60 S8) (BP t8)=some b8:=by kernel_rfl
def G9:GT:=[("_law_stir",(false,2,F8))]
def S9:=mS ["cell","many","found","digits","k","number"] t9 [] G9
abbrev b9:Fs:=QV.Xb_numbers
abbrev F9:Fn:=QV.b_numbers
def h9:BJ (AM 60 S9) (BP t9)=some b9:=by kernel_rfl
def ji:GT:=[("_law_numbers",(false,2,F9))]
def S10:=mS ["cell","most","great","numbers"] FZ [] ji
abbrev zU:Fs:=QV.Xb_box
abbrev Np:Fn:=QV.b_box
def zA:BJ (AM 60 S10) (BP FZ)=some zU:=by kernel_rfl
def jh:GT:=[("_law_numbers",(false,2,F9))]
def S11:=mS ["box","script","start","cell","numbers","pile","i","row","j","number","top"] Mq [] jh
abbrev zT:Fs:=QV.Xb_pile
abbrev Nn:Fn:=QV.b_pile
def z9:BJ (AM 60 S11) (BP Mq)=some zT:=by kernel_rfl
def jg:GT:=[]
def S12:=mS ["box","pile","found","k","staircase","row","many","height"] Mp [] jg
def Nl:Fs:=(Ag (Af false 2 (Aj AA (Ac)) [])
 (Ag (CZ C6 (Ad (Ab Al (Aa 0) (bC (.int 2))) (Ac)) (asgN 3) (Ag (Af false 4 (Aj AA (Ac)) [])
 (Ag (Cc (Aa 1) [1] (asgN 5) (Ag (Af false 6 (bC (.int 0)) [])
 (Ag (Cc (Aa 5) [5] (asgN 7) (Af false 6 (Ab Ao (Aa 6) (Aj DW (Ad (Ab (BA λ i j=>decide (j < i)) (Aa 7) (Aa 3)) (Ac)))) [6,7,3]))
 (A2 4 (Aa 6) [6]))))
 (A2 2 (Aa 4) [4]))))
 (E3 2)))
def Hq:Fn:=A1 false 2 6 Nl
def Jw:BJ (AM 60 S12) (BP Mp)=some Nl:=by kernel_rfl
def jf:GT:=[]
def S13:=mS ["staircase","columns","found","place","column"] Mo [] jf
def Nk:Fs:=(Ag (Af false 2 (bC (.str "")) [])
 (Ag (Af false 3 (Ab Cm (Aj BF (Ad (Aa 0) (Ac))) (bC (.int 1))) [0])
 (Ag (Af false 4 (bC (.int 0)) [])
 (Ag (LG (bT (Bb (Ab (BA λ i j=>decide (j<=i)) (Aa 3) (bC (.int 0))) (Ab (BA λ i j=>decide (i < j)) (Aa 4) (Aa 1)))) (AW (bT (D1 (Ab (BA λ i j=>decide (j<=i)) (Aa 3) (bC (.int 0))) (Ab (Au false) (Ab Al (Aa 0) (Aa 3)) (Aa 4)))) (Ag (Af false 2 (Ab Ao (Aa 2) (bC (.str "d"))) [2])
 (Af false 3 (Ab Cm (Aa 3) (bC (.int 1))) [3])) (Ag (Af false 2 (Ab Ao (Aa 2) (bC (.str "r"))) [2])
 (Af false 4 (Ab Ao (Aa 4) (bC (.int 1))) [4]))))
 (E3 2)))))
def IH:Fn:=A1 false 2 3 Nk
def z8:BJ (AM 60 S13) (BP Mo)=some Nk:=by kernel_rfl
def je:GT:=[]
def S14:=mS ["box","far","some","at","one"] Mn [] je
def Vn:Fs:=(Ag (Af false 2 (Aj AA (Ad (Aj BC (Ad (bC (.int 0)) (Ad (bC (.int 1)) (Ad (bC (.int 1)) (Ac))))) (Ad (Aj BC (Ad (bC (.int 1)) (Ad (Ab Cm (bC (.int 0)) (Aa 1)) (Ad (bC (.int 1)) (Ac))))) (Ad (Aj BC (Ad (bC (.int 1)) (Ad (bC (.int 1)) (Ad (Aq BB (bC (.int 1))) (Ac))))) (Ad (AH (Aa 0) none (some (bC (.int 2)))) (Ad (Ab Ao (Aa 0) (Aj BC (Ad (bC (.int 1)) (Ac)))) (Ad (Aj Fj (Ad (Aa 0) (Ac))) (Ad (Aj BC (Ad (bC (.bl true)) (Ad (bC (.int 1)) (Ad (bC (.int 1)) (Ac))))) (Ad (Aj BC (Ad (bC (.int 1)) (Ad (bC (.str "1")) (Ad (bC (.int 1)) (Ac))))) (Ad (bC .non) (Ac))))))))))) [1,0,0,0])
 (Ag (Af false 3 (Ab AI (Aa 1) (bC (.int 3))) [1])
 (Ag (Cc (Aj BC (Ad (bC (.int 0)) (Ad (Ab Cm (Aq BB (bC (.int 1))) (Aa 1)) (Ad (bC (.bl true)) (Ad (bC (.str "1")) (Ad (bC .non) (Ac))))))) [1] (asgN 4) (A2 2 (Ab Ao (Ab Ao (AH (Aa 0) none (some (Aa 3))) (Aj BC (Ad (Aa 4) (Ac)))) (AH (Aa 0) (some (Ab Ao (Aa 3) (bC (.int 1)))) none)) [0,4,0]))
 (A8 (Ab Ao (Aa 2) (Aj AA (Ad (bC (.str "box")) (Ad (bC (.int 3)) (Ac)))))))))
def J1:Fn:=A1 false 2 3 Vn
def z7:BJ (AM 60 S14) (BP Mn)=some Vn:=by kernel_rfl
def jd:GT:=[("_law_numbers",(false,2,F9))]
def S15:=mS ["box","cell","found","left","number","at"] Mm [] jd
abbrev zS:Fs:=QV.Xb_drawn_way
abbrev J0:Fn:=QV.b_drawn_way
def z6:BJ (AM 60 S15) (BP Mm)=some zS:=by kernel_rfl
def jc:GT:=[]
def S16:=mS ["way","number","at"] Ml [] jc
abbrev zR:Fs:=QV.Xb_exchanged
abbrev Vt:Fn:=QV.b_exchanged
def z5:BJ (AM 60 S16) (BP Ml)=some zR:=by kernel_rfl
def jb:GT:=[("_law_drawn_way",(false,2,J0)),("_law_exchanged",(false,2,Vt))]
def S17:=mS ["box","ways","numbers","found","number","k"] Mj [] jb
abbrev zQ:Fs:=QV.Xb_some_ways
abbrev Jz:Fn:=QV.b_some_ways
def z4:BJ (AM 60 S17) (BP Mj)=some zQ:=by kernel_rfl
def ja:GT:=[]
def S18:=mS ["ways","points","k","x","y","sign"] Mi [] ja
def Nj:Fs:=(Ag (Af false 1 (Aj AA (Ac)) [])
 (Ag (CZ C6 (Ad (Aj BF (Ad (Aa 0) (Ac))) (Ac)) (asgN 2) (Ag (Af false 3 (Ab Cm (bC (.int 0)) (Aa 2)) [2])
 (Ag (Af false 4 (Aa 2) [2])
 (Ag (A2 1 (Aj BC (Ad (Aa 3) (Ad (Aa 4) (Ac)))) [3,4])
 (Cc (Ab Al (Aa 0) (Aa 2)) [0,2] (asgN 5) (Ag (Af false 3 (Ab Ao (Aa 3) (Aj DW (Ad (Ab (Au false) (Aa 5) (bC (.str "r"))) (Ac)))) [3,5])
 (Ag (Af false 4 (Ab Ao (Aa 4) (Aj DW (Ad (Ab (Au false) (Aa 5) (bC (.str "d"))) (Ac)))) [4,5])
 (A2 1 (Aj BC (Ad (Aa 3) (Ad (Aa 4) (Ac)))) [3,4]))))))))
 (A8 (Ab (BA λ i j=>decide (i < j)) (Aq HF (Aa 1)) (Aj BF (Ad (Aa 1) (Ac)))))))
def IG:Fn:=A1 false 1 5 Nj
def zy:BJ (AM 60 S18) (BP Mi)=some Nj:=by kernel_rfl
def zZ:GT:=[]
def S19:=mS ["caught","found","other"] Mh [] zZ
def Vm:Fs:=(Ag (Af false 1 (Aj AA (Ad (Aq (De [1]) (Aa 0)) (Ad (Aq (De [2]) (Aa 0)) (Ad (Aq (De [3]) (Aa 0)) (Ac))))) [0,0,0])
 (Ag (Af false 2 (Aq (De [10,6,7,5,11,9,8]) (Aa 0)) [0])
 (A8 (Ab Ao (Aa 1) (Aj AA (Ad (Aq (De [4]) (Aa 0)) (Ad (Aa 2) (Ad (Aq (De [0]) (Aa 0)) (Ac)))))))))
def IF:Fn:=A1 false 1 2 Vm
def zx:BJ (AM 60 S19) (BP Mh)=some Vm:=by kernel_rfl
def zY:GT:=[("never_touch",(false,2,F6)),("_law_kinds",(false,1,IF))]
def S20:=mS ["box","thing","caught","e"] Mg [] zY
def Ni:Fs:=(Ag (Af false 2 (bC .non) [])
 (Ag (DG 0 2 3 [] (Dk (Az F6 (Ad (Aa 0) (Ad (Aa 1) (Ac))))))
 (A8 (Ab (Au false) (Az IF (Ad (Aa 2) (Ac))) (Aj AA (Ad (bC (.bl true)) (Ad (bC (.bl false)) (Ad (bC (.bl false)) (Ad (bC (.bl false)) (Ad (bC (.bl false)) (Ad (bC (.bl true)) (Ac))))))))))))
def FA:Fn:=A1 false 2 2 Ni
def zw:BJ (AM 60 S20) (BP Mg)=some Ni:=by kernel_rfl
def zX:GT:=[("never_touch",(false,2,F6)),("_law_cell_at",(false,2,F7)),("_law_numbers",(false,2,F9)),("_law_box",(false,3,Np)),("_law_pile",(false,4,Nn)),("_law_stairs",(false,2,Hq)),("_law_way",(false,2,IH)),("_law_bad_boxes",(false,2,J1)),("_law_drawn_way",(false,2,J0)),("_law_some_ways",(false,3,Jz)),("_law_met",(false,1,IG)),("_law_refused",(false,2,FA))]
def S21:=mS ["script","cell","box","pile","ways","numbers","lists","some","handed","found","bad"] Kp [] zX
def Nh:Fs:=(Ag (Af false 1 (Az F7 (Ad (Aa 0) (Ad (bC (.int 0)) (Ac)))) [0])
 (Ag (Af false 2 (Az Np (Ad (Aa 1) (Ad (bC (.int 4)) (Ad (bC (.int 6)) (Ac))))) [1])
 (Ag (Af false 3 (Az Nn (Ad (Aa 2) (Ad (Aa 0) (Ad (bC (.int 3)) (Ad (Az F7 (Ad (Aa 0) (Ad (bC (.int 1)) (Ac)))) (Ac)))))) [2,0,0])
 (Ag (Af false 4 (CO (Az Hq (Ad (Aa 2) (Ad (Aa 3) (Ac)))) 1 (asgN 11) D3 (Az IH (Ad (Aa 11) (Ad (Ab Al (Aa 2) (bC (.int 1))) (Ac))))) [2,3,2,3,2])
 (Ag (Af false 5 (Az F9 (Ad (Az F7 (Ad (Aa 0) (Ad (bC (.int 2)) (Ac)))) (Ad (bC (.int 12)) (Ac)))) [0])
 (Ag (Af false 6 (Aj AA (Ad (Aa 4) (Ad (Aj AA (Ac)) (Ad (AH (Aa 4) none (some (bC (.int 1)))) (Ad (AH (Aa 4) (some (bC (.int 1))) none) (Ad (Ab Ao (Aa 4) (AH (Aa 4) (some (Aq BB (bC (.int 1)))) none)) (Ad (Aq Em (Aa 4)) (Ac)))))))) [4,4,4,4,4,4])
 (Ag (A2 6 (Az Jz (Ad (Aa 2) (Ad (Aa 4) (Ad (AH (Aa 5) none (some (bC (.int 1)))) (Ac))))) [2,4,5])
 (Ag (A2 6 (Az Jz (Ad (Aa 2) (Ad (Aa 4) (Ad (AH (Aa 5) (some (bC (.int 1))) (some (Ab Ao (bC (.int 2)) (Ab AI (Ab Al (Aa 5) (bC (.int 11))) (bC (.int 3)))))) (Ac))))) [2,4,5])
 (Ag (A2 6 (CO (AH (Aa 5) (some (bC (.int 4))) (some (Ab Ao (bC (.int 5)) (Ab AI (Ab Al (Aa 5) (bC (.int 10))) (bC (.int 6)))))) 1 (asgN 11) D3 (Az J0 (Ad (Aa 2) (Ad (Aa 11) (Ac))))) [5,2,5])
 (Ag (Cc (Aa 6) [6] (asgN 7) (Ag (Af false 8 (Aj Fj (Ad (Aa 7) (Ac))) [7])
 (Ag (Af false 9 (Az F6 (Ad (Aa 2) (Ad (Aa 8) (Ac)))) [2,8])
 (AW (bT (Bb (Aq Cu (Aq (Eb "bool") (Aa 9))) (Bb (Ab (Au true) (Aa 9) (Aq Cu (Az IG (Ad (Aa 7) (Ac))))) (Ab (Au true) (Aa 8) (Aa 7))))) (A8 (bC (.bl false))) A4))))
 (Ag (Cc (Az J1 (Ad (Aa 2) (Ad (Ab AI (Aa 1) (Ab FK (bC (.int 10)) (bC (.int 30)))) (Ac)))) [2,1] (asgN 10) (AW (bT (Bb (Aq Cu (Az FA (Ad (Aa 10) (Ad (Aa 4) (Ac))))) (Aq Cu (Az FA (Ad (Aa 10) (Ad (Aj AA (Ac)) (Ac))))))) (A8 (bC (.bl false))) A4))
 (A8 (bC (.bl true))))))))))))))
def F21:Fn:=A1 false 1 10 Nh
def zu:BJ (AM 60 S21) (BP Kp)=some Nh:=by kernel_rfl
end K17
namespace QV
open PySem PySem.Spec PyProof.Rows L2 QQ
structure HV (L:List (Option PV)) (O:List Nat) (ρ:Ah):Prop where
 len:ρ.length=L.length
 get:∀ (j:Nat) (x:PV),L[j]?=some (some x)->∃ d,ρ[j]?=some (some (x,d))
 own:∀ j∈O,∃ x d,ρ[j]?=some (some (x,d))/\d≠0
section
variable {L L':List (Option PV)}{O O':List Nat}{ρ:Ah}
theorem HV.of (ρ:Ah):HV (ρ.map λ s=>s.map (·.1)) [] ρ:=by
 refine ⟨by rw [A5],λ j x h=>?_,λ _ h=>nomatch h⟩;rw [Cs] at h;cases e:ρ[j]? with
 | none=>rw [e] at h;cases h
 | some s=>
  rw [e] at h;cases s with
  | none=>cases h
  | some p=>obtain ⟨y,d⟩:=p;cases h;exact ⟨d,rfl⟩
def HV.var {j:Nat}{x:PV} (h:HV L O ρ) (e:L[j]?=some (some x)):Aa j ρ=.ok (x,dv x,ρ):=by
 obtain ⟨d,e⟩:=h.get j x e;unfold Aa;rw [e]
def HV.push {x:PV}{d:Nat} (h:HV L O ρ):HV (L++[some x]) O (ρ++[some (x,d)]):=by
 have hl:=h.len;refine ⟨by rw [AV,AV,hl];rfl,λ j y e=>?_,λ j hj=>?_⟩
 ·by_cases hj:j < L.length
  ·rw [CF hj] at e;obtain ⟨d,e⟩:=h.get j y e;exact ⟨d,by rw [CF (by omega)];exact e⟩
  ·rw [Ep (by omega)] at e;rw [Ep (by omega),hl];cases hk:j - L.length with
   | zero=>rw [hk] at e;cases e;exact ⟨d,rfl⟩
   | succ n=>rw [hk] at e;cases e
 ·obtain ⟨y,d,e,hd⟩:=h.own j hj;exact ⟨y,d,by rw [CF (ja3.mp e).1];exact e,hd⟩
def Wk:List (Option PV)->List (Option PV)->Prop
 | [],[]=>True
 | none::a,_::b=>Wk a b
 | some x::a,some y::b=>x=y/\Wk a b
 | _,_=>False
theorem Wk.get:∀ {a b:List (Option PV)},Wk a b->a.length=b.length/\∀ (j:Nat) (x:PV),a[j]?=some (some x)->b[j]?=some (some x)
 | [],[],_=>⟨rfl,λ j x h=>by cases h⟩
 | none::a,y::b,h=>by
  obtain ⟨h1,h2⟩:=Wk.get (a:=a) (b:=b) (by cases y <;> exact h);refine ⟨by rw [Ba,Ba,h1],λ j x e=>?_⟩;cases j with
  | zero=>cases e
  | succ j=>exact h2 j x e
 | some x::a,some y::b,h=>by
  obtain ⟨h0,h⟩:x=y/\Wk a b:=h;obtain ⟨h1,h2⟩:=Wk.get h;refine ⟨by rw [Ba,Ba,h1],λ j z e=>?_⟩;cases j with
  | zero=>rw [<- h0];exact e
  | succ j=>exact h2 j z e
 | some x::a,none::b,h=>h.elim
 | [],_::_,h=>h.elim
 | some _::_,[],h=>h.elim
 | none::_,[],h=>h.elim
def HV.weak (h:HV L O ρ) (w:Wk L' L) (ho:∀ j∈O',j∈O):HV L' O' ρ:=⟨h.len.trans w.get.1.symm,λ j x e=>h.get j x (w.get.2 j x e),λ j hj=>h.own j (ho j hj)⟩
def ZQ {d j e:Nat}{vs:List Nat}{x:PV} (h:ρ[j]?=some (some (x,e))):∃ e',(Bg d vs ρ)[j]?=some (some (x,e')):=by
 unfold Bg;split
 ·exact ⟨e,h⟩
 ·rw [JC,h];dsimp only [MH];split
  ·exact ⟨0,rfl⟩
  ·exact ⟨e,rfl⟩
def Yh {d:Nat}{vs:List Nat}{ρ:Ah}:(Bg d vs ρ).length=ρ.length:=by
 unfold Bg;split
 ·rfl
 ·exact Lg vs ρ 0
def HV.cool {d:Nat}{vs:List Nat} (h:HV L O ρ):HV L [] (Bg d vs ρ):=⟨by rw [Yh];exact h.len,λ j x e=>by
 obtain ⟨d',e⟩:=h.get j x e;exact ZQ e,λ _ h=>nomatch h⟩
def HV.coolO {vs:List Nat} (h:HV L O ρ):HV L O (Bg om vs ρ):=by
 unfold Bg;rw [if_pos rfl];exact h
def HV.put {i d:Nat}{x:PV} (h:HV L O ρ) (hi:i < L.length) (ho:i∉O\/d≠0):HV (L.set i (some x)) O (ρ.set i (some (x,d))):=by
 have hl:=h.len;refine ⟨by rw [DI,DI,hl],λ j y e=>?_,λ j hj=>?_⟩
 ·by_cases hj:i=j
  ·subst hj;rw [CC hi] at e;cases e;exact ⟨d,CC (by omega)⟩
  ·rw [BL hj] at e;rw [BL hj];exact h.get j y e
 ·by_cases hij:i=j
  ·subst hij;rcases ho with ho | ho
   ·exact absurd hj ho
   ·exact ⟨x,d,CC (by omega),ho⟩
  ·rw [BL hij];exact h.own j hj
def HV.putO {i d:Nat}{x:PV} (h:HV L O ρ) (hi:i < L.length) (hd:d≠0):HV (L.set i (some x)) (i::O) (ρ.set i (some (x,d))):=by
 have h1:=h.put (x:=x) (d:=d) hi (.inr hd);refine ⟨h1.len,h1.get,λ j hj=>?_⟩;rcases jb2.mp hj with rfl | hj
 ·exact ⟨x,d,CC (by rw [h.len];exact hi),hd⟩
 ·exact h1.own j hj
def HV.set {i d:Nat}{f:Fx}{vs:List Nat}{x:PV} (h:HV L O ρ) (hf:f ρ=.ok (x,d,ρ)) (hi:i < L.length):∃ ρ',Af false i f vs ρ=.nx ρ'/\HV (L.set i (some x)) [] ρ':=⟨_,AB hf (by rw [h.len];exact hi) rfl,(h.cool).put hi (.inl (λ h=>nomatch h))⟩
def HV.setO {i:Nat}{f:Fx}{vs:List Nat}{x:PV} (h:HV L O ρ) (hf:f ρ=.ok (x,om,ρ)) (hi:i < L.length):∃ ρ',Af false i f vs ρ=.nx ρ'/\HV (L.set i (some x)) O ρ':=⟨_,AB hf (by rw [h.len];exact hi) rfl,(h.coolO).put hi (.inr (by decide))⟩
def HV.app {i:Nat}{f:Fx}{vs:List Nat}{xs:List PV}{y:PV} (h:HV L O ρ) (hx:L[i]?=some (some (.lst xs))) (ho:i∈O) (hf:f ρ=.ok (y,om,ρ)) (hl:xs.length < Am):∃ ρ',A2 i f vs ρ=.nx ρ'/\HV (L.set i (some (.lst (xs++[y])))) O ρ':=by
 obtain ⟨x,d,e,hd⟩:=h.own i ho;obtain ⟨d',e'⟩:=h.get i _ hx;rw [e] at e';cases e';obtain ⟨d0,rfl⟩:∃ d0,d=d0 + 1:=⟨d - 1,by omega⟩
 have hi:i < L.length:=(ja3.mp hx).1;have c:Bg om vs ρ=ρ:=by unfold Bg;rw [if_pos rfl]
 exact ⟨_,FL (d:=d0 + 1) e hf (by rw [c];exact e) hd hl rfl,by rw [c];exact h.put hi (.inr (by split <;> decide))⟩
def HV.asgN {i:Nat} (x:PV) (h:HV L O ρ) (hi:i < L.length) (ho:i∉O):∃ ρ',asgN i x ρ=some ρ'/\HV (L.set i (some x)) O ρ':=by
 refine ⟨_,?_,h.put (x:=x) (d:=dv x) hi (.inl ho)⟩;unfold QQ.asgN;rw [if_pos (by rw [h.len];exact hi)]
theorem L5 {asg:PV->Ah->Option Ah}{body:Fs}:∀ (els:List PV) (I:Nat->Ah->Prop) (ρ:Ah),I 0 ρ->(∀ j x ρ,els[j]?=some x->I j ρ->∃ ρ1 ρ2,asg x ρ=some ρ1/\body ρ1=.nx ρ2/\I (j + 1) ρ2)->∃ ρ',Bm asg body els ρ=.nx ρ'/\I els.length ρ'
 | [],I,ρ,h0,_=>⟨ρ,rfl,h0⟩
 | x::els,I,ρ,h0,hs=>by
  obtain ⟨ρ1,ρ2,e1,e2,h2⟩:=hs 0 x ρ rfl h0;obtain ⟨ρ',e,h⟩:=L5 els (λ j=>I (j + 1)) ρ2 h2 λ j y ρ hj=>hs (j + 1) y ρ hj;exact ⟨ρ',by rw [Bm,e1];dsimp only;rw [e2];exact e,h⟩
def Gv (s:Fs) (ρ:Ah) (y:PV):Prop:=∃ d ρ',s ρ=.rt y d ρ'
def Gv.nx {s r:Fs}{ρ1:Ah}{y:PV} (e:s ρ=.nx ρ1) (h:Gv r ρ1 y):Gv (Ag s r) ρ y:=by
 obtain ⟨d,ρ',h⟩:=h;exact ⟨d,ρ',(A3 e).trans h⟩
def Gv.ex {s r:Fs}{P:Ah->Prop}{y:PV} (e:∃ ρ1,s ρ=.nx ρ1/\P ρ1) (h:∀ ρ1,P ρ1->Gv r ρ1 y):Gv (Ag s r) ρ y:=by
 obtain ⟨ρ1,e,p⟩:=e;exact Gv.nx e (h ρ1 p)
def Gv.ret {f:Fx}{ρ1:Ah}{d:Nat}{y:PV} (h:f ρ=.ok (y,d,ρ1)):Gv (A8 f) ρ y:=⟨_,_,DN h⟩
def Gv.fn {np k:Nat}{b:Fs}{xs:List PV}{y:PV} (hl:xs.length=np) (h:Gv b (xs.map (λ x=>some (x,dv x))++AK k none) y):∃ d z,A1 false np k b xs=.ok (y,d,z):=by
 obtain ⟨d,ρ',h⟩:=h;exact ⟨_,_,C3 hl h⟩
def Nx (s:Fs) (ρ:Ah) (P:Ah->Prop):Prop:=∃ ρ',s ρ=.nx ρ'/\P ρ'
section
variable {P Q:Ah->Prop}{s r:Fs}
def Nx.loop {asg:PV->Ah->Option Ah}{els:List PV} (I:Nat->Ah->Prop) (h0:I 0 ρ) (hs:∀ k x ρ,els[k]?=some x->I k ρ->∃ ρ1,asg x ρ=some ρ1/\Nx s ρ1 (I (k + 1))):∃ ρ',Bm asg s els ρ=.nx ρ'/\I els.length ρ':=L5 els I ρ h0 λ k x ρ e h=>by
 obtain ⟨ρ1,e1,ρ2,e2,h2⟩:=hs k x ρ e h;exact ⟨ρ1,ρ2,e1,e2,h2⟩
def qt {n k:Nat}{x:PV} (hx:((Bh n).map λ (k:Nat)=>PV.int (k:Int))[k]?=some x):k < n/\x=.int (k:Int):=by
 rw [Cs] at hx;by_cases hk:k < n
 ·rw [MY hk] at hx;cases hx;exact ⟨hk,rfl⟩
 ·rw [KP (by rw [EW];omega)] at hx;cases hx
def Nx.forR {asg:PV->Ah->Option Ah}{f:Fx}{n d:Nat} (I:Nat->Ah->Prop) (hf:f ρ=.ok (.int (n:Int),d,ρ)) (hn:n<=1000) (h0:I 0 ρ) (hs:∀ k ρ,k < n->I k ρ->∃ ρ1,asg (.int (k:Int)) ρ=some ρ1/\Nx s ρ1 (I (k + 1))):Nx (CZ C6 (Ad f Ac) asg s) ρ (I n):=by
 obtain ⟨ρ',e,h⟩:=Nx.loop (els:=(Bh n).map λ (k:Nat)=>.int (k:Int)) I h0 λ k x ρ hx h=>by
  obtain ⟨hk,rfl⟩:=qt hx;exact hs k ρ hk h
 rw [A5,EW] at h;exact ⟨ρ',YN (Bx hf) (JE (by omega) (by omega)) e,h⟩
end
end
end QV
namespace K17
open PySem PySem.Spec PyProof.Rows L2 QQ QV
theorem U1 (val:Nat->List Int):∀ (i:Nat) (k:List Int),k∈ST.dist val i↔∃ j,j < i/\val j=k
 | 0,k=>⟨λ h=>(nomatch h),λ ⟨j,hj,_⟩=>absurd hj (MV _)⟩
 | i + 1,k=>by
  have ih:=U1 val i;have e:ST.dist val (i + 1)=ST.once (ST.dist val i) (val i):=rfl;rw [e];unfold ST.once;constructor
  ·intro h;split at h
   ·obtain ⟨j,hj,e⟩:=(ih k).mp h;exact ⟨j,by omega,e⟩
   ·rcases jc2.mp h with h | h
    ·obtain ⟨j,hj,e⟩:=(ih k).mp h;exact ⟨j,by omega,e⟩
    ·exact ⟨i,by omega,(ja6.mp h).symm⟩
  ·rintro ⟨j,hj,ek⟩;by_cases hji:j=i
   ·subst hji;split
    ·rename_i h;rw [<- ek];exact h
    ·rw [<- ek];exact BI _ (ja6.mpr rfl)
   ·have:=(ih k).mpr ⟨j,by omega,ek⟩
    split
    ·exact this
    ·exact BM _ this
theorem TN (val:Nat->List Int):∀ i,(ST.dist val i).length=i↔((Bh i).map val).Nodup
 | 0=>⟨λ _=>MT,λ _=>rfl⟩
 | i + 1=>by
  have ih:=TN val i;have le:=ST.dist_le val i;have e:ST.dist val (i + 1)=ST.once (ST.dist val i) (val i):=rfl;rw [e,MU,Du];unfold ST.once;have mem:val i∈(Bh i).map val↔val i∈ST.dist val i:=by
   rw [U1,je6];exact ⟨λ ⟨j,hj,e⟩=>⟨j,jd5.mp hj,e⟩,λ ⟨j,hj,e⟩=>⟨j,jd5.mpr hj,e⟩⟩
  rw [PL];split
  ·rename_i h;refine ⟨λ z=>by omega,λ z=>absurd rfl (z.2.2 _ (mem.mpr h) (val i) (ja6.mpr rfl))⟩
  ·rename_i h;rw [AV,Gn];refine ⟨λ z=>⟨ih.mp (by omega),jh3.mpr ⟨(λ z=>nomatch z),MT⟩,λ x hx y hy=>?_⟩,λ z=>by have:=ih.mpr z.1;omega⟩;rw [ja6.mp hy];intro z;exact h (mem.mp (by rw [<- z];exact hx))
def WC {x y:P2} (h:k2 x=k2 y):x=y:=by
 unfold k2 at h;simp only [List.cons.injEq,and_true] at h;exact Prod.ext h.1 h.2
def Yp (zs:List P2):decide ((Cy zs:Int) < (zs.length:Int))=!decide zs.Nodup:=by
 have le:=ST.dist_le (λ i=>k2 (zs.getD i (0,0))) zs.length;have nd:=TN (λ i=>k2 (zs.getD i (0,0))) zs.length;have em:(Bh zs.length).map (λ i=>k2 (zs.getD i (0,0)))=zs.map k2:=by
  refine List.ext_getElem (by simp) λ i h1 h2=>?_;have hi:i < zs.length:=by simpa using h2
  simp [Ca,CD hi]
 rw [em] at nd;have nd2:(zs.map k2).Nodup↔zs.Nodup:=by
  unfold List.Nodup;rw [List.pairwise_map];exact ⟨λ h=>h.imp λ hne e=>hne (by rw [e]),λ h=>h.imp λ hne e=>hne (WC e)⟩
 rw [nd2] at nd;by_cases h:zs.Nodup
 ·rw [decide_eq_true h]
  have:=nd.mpr h
  exact decide_eq_false (by unfold Cy;omega)
 ·rw [decide_eq_false h]
  have:(ST.dist (λ i=>k2 (zs.getD i (0,0))) zs.length).length≠zs.length:=λ z=>h (nd.mp z)
  exact decide_eq_true (by unfold Cy;omega)
theorem Rm:∀ zs:List P2,IS (zs.map pt)=some zs
 | []=>rfl
 | z::zs=>by
  rw [BQ,IS,Rm zs];rfl
theorem R1 (w:List Bool):∀ (xs:List (List Bool)) (k:Nat),A9 k (xs++[w])=A9 k xs++Dg (k + xs.length) w
 | [],k=>by
  show Dg k w++[]=[]++Dg (k + 0) w;rw [Io];rfl
 | x::xs,k=>by
  show Dg k x++A9 (k + 1) (xs++[w])=(Dg k x++A9 (k + 1) xs)++Dg (k + (xs.length + 1)) w;rw [R1 w xs (k + 1),Gj,show k + 1 + xs.length=k + (xs.length + 1) by omega]
theorem N0 {n:Nat}:∀ {xs:List (List Bool)}{k:Nat},(∀ w∈xs,w.length<=n)->(A9 k xs).length<=(n + 1) * xs.length
 | [],k,_=>CV _
 | x::xs,k,h=>by
  have:=N0 (xs:=xs) (k:=k + 1) λ w hw=>h w (AQ _ hw)
  have hx:=h x Bf;show (Dg k x++A9 (k + 1) xs).length<=_;have lp:(Dg k x).length=x.length + 1:=by unfold Dg;rw [A5,EW]
  rw [AV,lp,Ba,Nat.mul_succ];omega
def MI:Fs:=(Ag (Af false 3 (Ab Ao (Aa 3) (Aj DW (Ad (Ab (Au false) (Aa 5) (bC (.str "r"))) (Ac)))) [3,5])
 (Ag (Af false 4 (Ab Ao (Aa 4) (Aj DW (Ad (Ab (Au false) (Aa 5) (bC (.str "d"))) (Ac)))) [4,5])
 (A2 1 (Aj BC (Ad (Aa 3) (Ad (Aa 4) (Ac)))) [3,4])))
def Qq:Fs:=(Ag (Af false 3 (Ab Cm (bC (.int 0)) (Aa 2)) [2])
 (Ag (Af false 4 (Aa 2) [2])
 (Ag (A2 1 (Aj BC (Ad (Aa 3) (Ad (Aa 4) (Ac)))) [3,4])
 (Cc (Ab Al (Aa 0) (Aa 2)) [0,2] (asgN 5) MI))))
def WN:Nj=Ag (Af false 1 (Aj AA (Ac)) []) (Ag (CZ C6 (Ad (Aj BF (Ad (Aa 0) (Ac))) (Ac)) (asgN 2) Qq) (A8 (Ab (BA λ i j=>decide (i < j)) (Aq HF (Aa 1)) (Aj BF (Ad (Aa 1) (Ac)))))):=rfl
def Ck (ws:List (List Bool)) (P:List P2) (s2 s3 s4 s5:QQ.Slot):Ah:=[some (wl ws,0),some (.lst (P.map pt),om),s2,s3,s4,s5]
def Sy {ws:List (List Bool)}{P:List P2}{s2 s5:QQ.Slot}{x y:Int} (hP:P.length<=1000):A2 1 (Aj BC (Ad (Aa 3) (Ad (Aa 4) (Ac)))) [3,4] (Ck ws P s2 (some (.int x,om)) (some (.int y,om)) s5)=.nx (Ck ws (P++[(x,y)]) s2 (some (.int x,om)) (some (.int y,om)) s5):=by
 have z:=sz;refine (FL (i:=1) (xs:=P.map pt) (xs0:=P.map pt) (d:=om) (d0:=999) (y:=pt (x,y)) (e:=om) (ρ1:=Ck ws P s2 (some (.int x,om)) (some (.int y,om)) s5) rfl rfl rfl (by decide) (by rw [A5];omega) rfl).trans ?_;unfold Ck;rw [Du];rfl
def ZD {ws:List (List Bool)}{P:List P2}{k:Nat}{w:List Bool}{s3 s4 s5:QQ.Slot} (hw:ws[k]?=some w) (hl:w.length<=100) (hP:P.length<=800):∃ s3' s4' s5',Qq (Ck ws P (some (.int (k:Int),om)) s3 s4 s5)=.nx (Ck ws (P++Dg k w) (some (.int (k:Int),om)) s3' s4' s5'):=by
 have z:=sz;let S2:QQ.Slot:=some (.int (k:Int),om);have v1:Af false 3 (Ab Cm (bC (.int 0)) (Aa 2)) [2] (Ck ws P S2 s3 s4 s5)=.nx (Ck ws P S2 (some (.int (0 - (k:Int)),om)) s4 s5):=AB (IT (i:=0) (j:=(k:Int)) (d:=om) (e:=om) rfl rfl) (show 3 < 6 by decide) rfl;have v2:Af false 4 (Aa 2) [2] (Ck ws P S2 (some (.int (0 - (k:Int)),om)) s4 s5)=.nx (Ck ws P S2 (some (.int (0 - (k:Int)),om)) (some (.int (k:Int),om)) s5):=rfl;have v3:=Sy (ws:=ws) (P:=P) (s2:=S2) (s5:=s5) (x:=0 - (k:Int)) (y:=(k:Int)) (by omega);let R (n:Nat) (s5:QQ.Slot):Ah:=Ck ws (P++(Bh (n + 1)).map (AD k w)) S2 (some (.int (AD k w n).1,om)) (some (.int (AD k w n).2,om)) s5;have e0:AD k w 0=(0 - (k:Int),(k:Int)):=by
  unfold AD;refine Prod.ext ?_ ?_
  ·show -(k:Int) + ((rN w 0:Nat):Int)=0 - (k:Int)
   have:rN w 0=0:=rfl
   rw [this];omega
  ·show (k:Int) + ((dN w 0:Nat):Int)=(k:Int)
   have:dN w 0=0:=rfl
   rw [this];omega
 have r0:Ck ws (P++[(0 - (k:Int),(k:Int))]) S2 (some (.int (0 - (k:Int)),om)) (some (.int (k:Int),om)) s5=R 0 s5:=by
  show _=Ck ws (P++[AD k w 0]) S2 (some (.int (AD k w 0).1,om)) (some (.int (AD k w 0).2,om)) s5;rw [e0]
 have ix:Ab Al (Aa 0) (Aa 2) (R 0 s5)=.ok (wd w,om,R 0 s5):=by
  have hk:k < (ws.map wd).length:=by rw [A5];exact (ja3.mp hw).1
  refine C1 (x:=wl ws) (d:=0) (y:=.int (k:Int)) (e:=om) rfl rfl ?_;show (BE (ws.map wd) (k:Int)).map (λ x=>(x,dv x))=_;rw [Ey (x:=wd w) (by omega) (by rw [Ir,Cs,hw];rfl)];rfl
 obtain ⟨ρ',v4,s5',rfl⟩:=U6 (f:=Ab Al (Aa 0) (Aa 2)) (vs:=[0,2]) (asg:=asgN 5) (body:=MI) (ρ:=R 0 s5) (w:=w) (λ n ρ=>∃ s5,ρ=R n s5) ix ⟨s5,rfl⟩ (by
  rintro n x ρ hx ⟨s5,rfl⟩;have es:w.take (n + 1)=w.take n++[x]:=by rw [P7,hx];rfl
  have er:rN w (n + 1)=rN w n + [x].count true:=by unfold rN;rw [es,Gi]
  have ed:dN w (n + 1)=dN w n + [x].count false:=by unfold dN;rw [es,Gi]
  have hn:=(ja3.mp hx).1;let S:QQ.Slot:=some (wd [x],om);let Q:List P2:=P++(Bh (n + 1)).map (AD k w);have e1:(AD k w (n + 1)).1=(AD k w n).1 + ([x].count true:Nat):=by show -(k:Int) + ((rN w (n + 1):Nat):Int)=-(k:Int) + ((rN w n:Nat):Int) + _;rw [er];omega
  have e2:(AD k w (n + 1)).2=(AD k w n).2 + ([x].count false:Nat):=by show (k:Int) + ((dN w (n + 1):Nat):Int)=(k:Int) + ((dN w n:Nat):Int) + _;rw [ed];omega
  have i1:∀ {P:List P2}{s3 s4:QQ.Slot},Aj DW (Ad (Ab (Au false) (Aa 5) (bC (.str "r"))) (Ac)) (Ck ws P S2 s3 s4 S)=.ok (.int ([x].count true:Nat),om,Ck ws P S2 s3 s4 S):=by
   intro P s3 s4;cases x <;> kernel_rfl
  have i2:∀ {P:List P2}{s3 s4:QQ.Slot},Aj DW (Ad (Ab (Au false) (Aa 5) (bC (.str "d"))) (Ac)) (Ck ws P S2 s3 s4 S)=.ok (.int ([x].count false:Nat),om,Ck ws P S2 s3 s4 S):=by
   intro P s3 s4;cases x <;> kernel_rfl
  have u1:Af false 3 (Ab Ao (Aa 3) (Aj DW (Ad (Ab (Au false) (Aa 5) (bC (.str "r"))) (Ac)))) [3,5] (R n S)=.nx (Ck ws Q S2 (some (.int (AD k w (n + 1)).1,om)) (some (.int (AD k w n).2,om)) S):=by
   rw [e1];exact AB (add_ok (f:=Aa 3) (i:=(AD k w n).1) (d:=om) rfl i1) (show 3 < 6 by decide) rfl
  have u2:Af false 4 (Ab Ao (Aa 4) (Aj DW (Ad (Ab (Au false) (Aa 5) (bC (.str "d"))) (Ac)))) [4,5] (Ck ws Q S2 (some (.int (AD k w (n + 1)).1,om)) (some (.int (AD k w n).2,om)) S)=.nx (Ck ws Q S2 (some (.int (AD k w (n + 1)).1,om)) (some (.int (AD k w (n + 1)).2,om)) S):=by
   rw [e2];exact AB (add_ok (f:=Aa 4) (i:=(AD k w n).2) (d:=om) rfl i2) (show 4 < 6 by decide) rfl
  have u3:=Sy (ws:=ws) (P:=Q) (s2:=S2) (s5:=S) (x:=(AD k w (n + 1)).1) (y:=(AD k w (n + 1)).2) (by show (P++(Bh (n + 1)).map (AD k w)).length<=1000;rw [AV,A5,EW];omega);have eq:Q++[((AD k w (n + 1)).1,(AD k w (n + 1)).2)]=P++(Bh (n + 1 + 1)).map (AD k w):=by
   show (P++(Bh (n + 1)).map (AD k w))++[AD k w (n + 1)]=_;rw [MU (n:=n + 1),Du,<- Gj];rfl
  rw [eq] at u3;exact ⟨R n S,R (n + 1) S,rfl,(A3 u1).trans ((A3 u2).trans u3),_,rfl⟩)
 refine ⟨some (.int (AD k w w.length).1,om),some (.int (AD k w w.length).2,om),s5',(A3 v1).trans ((A3 v2).trans ((A3 v3).trans ?_))⟩;rw [r0];exact v4
def Xq {ws:List (List Bool)} (hw:∀ w∈ws,w.length<=12) (hl:ws.length<=10):IG [wl ws]=.ok (.bl (!decide (A9 0 ws).Nodup),om,.non):=by
 have z:=sz;have ln:Aj BF (Ad (Aa 0) (Ac)) (Ck ws [] none none none none)=.ok (.int (ws.length:Int),om,Ck ws [] none none none none):=Dl (Bx (f:=Aa 0) (x:=wl ws) (d:=0) rfl) (by show some (PV.int ((ws.map wd).length:Int),om)=_;rw [A5]);obtain ⟨ρ',e,s2,s3,s4,s5,e2⟩:=Nx.forR (asg:=asgN 2) (s:=Qq) (λ k ρ=>∃ s2 s3 s4 s5,ρ=Ck ws (A9 0 (ws.take k)) s2 s3 s4 s5) ln (by omega) ⟨none,none,none,none,rfl⟩ λ k ρ hk ⟨s2,s3,s4,s5,e⟩=>by
  subst e;refine ⟨Ck ws (A9 0 (ws.take k)) (some (.int (k:Int),om)) s3 s4 s5,rfl,?_⟩;have hk':=CD hk;have lp:=N0 (n:=12) (xs:=ws.take k) (k:=0) λ w h=>hw w (MZ h);rw [Dh] at lp;obtain ⟨s3',s4',s5',e⟩:=ZD (P:=A9 0 (ws.take k)) (s3:=s3) (s4:=s4) (s5:=s5) hk' (by have:=hw _ (Hj hk);omega) (by omega);refine ⟨_,e,some (.int (k:Int),om),s3',s4',s5',?_⟩;rw [MW,hk'];show _=Ck ws (A9 0 (ws.take k++[ws[k]])) _ _ _ _;rw [R1,Dh,UL (by omega),Jq]
 subst e2;rw [Js] at e;have lp:=N0 (n:=12) (xs:=ws) (k:=0) hw;let Q:Ah:=Ck ws (A9 0 ws) s2 s3 s4 s5;have d1:Aq HF (Aa 1) Q=.ok (.int (Cy (A9 0 ws):Nat),om,Q):=by
  refine M1 (x:=.lst ((A9 0 ws).map pt)) (d:=0) rfl ?_;unfold HF;dsimp only;rw [Rm];dsimp only;rw [if_pos (by omega)]
 have d2:Aj BF (Ad (Aa 1) (Ac)) Q=.ok (.int ((A9 0 ws).length:Int),om,Q):=Dl (Bx (f:=Aa 1) (x:=.lst ((A9 0 ws).map pt)) (d:=0) rfl) (by show some (PV.int (((A9 0 ws).map pt).length:Int),om)=_;rw [A5]);have r:=DN (FN (p:=λ i j=>decide (i < j)) d1 d2);rw [Yp] at r;refine C3 (ρ':=Q) rfl ?_;show Nj [some (wl ws,0),none,none,none,none,none]=_;rw [WN];exact (A3 (show Af false 1 (Aj AA (Ac)) [] [some (wl ws,0),none,none,none,none,none]=.nx (Ck ws [] none none none none) from rfl)).trans ((A3 e).trans r)
end K17
namespace QV
open PySem PySem.Spec PyProof.Rows L2 QQ
def Dr:Nat->PV->Bool
 | 0,_=>false
 | n + 1,x=>match x with
  | .lst xs=>decide (xs.length<=1000) && xs.all (Dr n)
  | .tup xs=>decide (xs.length<=1000) && xs.all (Dr n)
  | .scr _=>false
  | .exn _=>false
  | .dct _=>false
  | .dko=>false
  | _=>true
def TQ {n:Nat}{xs:List PV} (h:Dr (n + 1) (.tup xs)=true):xs.length<=1000/\∀ x∈xs,Dr n x=true:=by
 unfold Dr at h;dsimp only at h;rw [Be,jd6] at h;exact ⟨of_decide_eq_true h.1,h.2⟩
def YE {n:Nat}{xs:List PV} (hl:xs.length<=1000) (h:∀ x∈xs,Dr n x=true):Dr (n + 1) (.tup xs)=true:=by
 unfold Dr;dsimp only;rw [Be,jd6];exact ⟨decide_eq_true hl,h⟩
def XY:PV->Bool
 | .int _=>true
 | _=>false
theorem xO {n:Nat} (x:PV) (h:Dr n x=true):f_is_whole_number [x]=.ok (.bl (XY x),om,.non):=by
 cases n with
 | zero=>cases h
 | succ n=>
  cases x with
  | non=>kernel_rfl
  | bl b=>cases b <;> kernel_rfl
  | int i=>kernel_rfl
  | str s=>kernel_rfl
  | lst xs=>kernel_rfl
  | tup xs=>kernel_rfl
  | emp=>kernel_rfl
  | dko=>cases h
  | scr _=>cases h
  | exn _=>cases h
  | dct _=>cases h
def FO:PV->Bool
 | .int i=>decide (1<=i)
 | _=>false
def Dw:PV->Bool
 | .tup xs=>decide (xs.length=3) && xs.all FO
 | _=>false
theorem qv {n:Nat}{y x:PV} (h:Dr n x=true):(D1 (Az f_is_whole_number (Ad (Aa 1) (Ac))) (Ab (BA λ i j=>decide (j<=i)) (Aa 1) (bC (.int 1)))) ([some (y,dv y)]++[some (x,dv x)])=.ok (.bl (FO x),om,[some (y,dv y)]++[some (x,dv x)]):=by
 have w:=BO (F:=f_is_whole_number) (fa:=Ad (Aa 1) Ac) (ρ:=[some (y,dv y)]++[some (x,dv x)]) (xs:=[(x,dv x)]) rfl (xO x h);cases n with
 | zero=>cases h
 | succ n=>
  cases x with
  | int i=>exact IU (a:=true) w (λ _=>FN (i:=i) (j:=1) rfl rfl) rfl
  | scr _=>cases h
  | exn _=>cases h
  | dct _=>cases h
  | _=>exact IU (a:=false) (b:=false) w (λ e=>nomatch e) rfl
def qR {n:Nat}{f elt:Fx}{ρ ρ1:Ah}{d:Nat}{g:PV->Bool} (xs:List PV) (hf:f ρ=.ok (.tup xs,d,ρ1)) (hn:ρ1.length=n) (he:∀ x∈xs,elt (ρ1++[some (x,dv x)])=.ok (.bl (g x),om,ρ1++[some (x,dv x)])) (hl:xs.length<=1000):Aj HE (Ad (CO f 1 (asgN n) D3 elt) Ac) ρ=.ok (.bl (xs.all g),om,ρ1):=by
 have z:=sz;exact all_ok (Uz (enc:=λ x=>x) (q:=λ x=>.bl (g x)) xs (by rw [List.map_id'];exact hf) hn he (by omega))
theorem Ye {n:Nat}{y:PV} (h:Dr n y=true):f_is_box [y]=.ok (.bl (Dw y),om,.non):=by
 have z:=sz;refine C3 rfl (ρ':=[some (y,dv y)]) ?_;show Xf_is_box [some (y,dv y)]=_;cases n with
 | zero=>cases h
 | succ n=>
  cases y with
  | tup xs=>
   have t:bT (Bb (Aq Cu (Aq (Eb "tuple") (Aa 0))) (Ab (Au true) (Aj BF (Ad (Aa 0) (Ac))) (bC (.int 3)))) [some (.tup xs,0)]=.ok (!decide (xs.length=3),[some (.tup xs,0)]):=by
    refine Bu (d:=om) ((Jm (a:=false) rfl (λ _=>GV (i:=(xs.length:Int)) (j:=3) rfl rfl) rfl).trans ?_);rw [P6,Bool.true_xor];have e:decide ((xs.length:Int)=3)=decide (xs.length=3):=decide_eq_decide.mpr (by omega);rw [e]
   dsimp only [Dw];by_cases hc:xs.length=3
   ·rw [decide_eq_true hc] at t ⊢;refine (HG t).trans (DN ?_);exact qR (g:=FO) xs (d:=0) rfl rfl (λ x hx=>qv ((TQ h).2 x hx)) (TQ h).1
   ·rw [decide_eq_false hc] at t ⊢;exact JP ((Cj t).trans rfl)
  | scr _=>cases h
  | exn _=>cases h
  | dct _=>cases h
  | _=>exact JP ((Cj (Bu (d:=om) (Jm (a:=true) (b:=false) rfl (λ e=>nomatch e) rfl))).trans rfl)
def Wi {f j:Fx}{ρ ρ1:Ah}{xs:List PV}{n d e:Nat} (h1:f ρ=.ok (.lst xs,d,ρ1)) (h2:j ρ1=.ok (.int (n:Int),e,ρ1)) (hn:n<=xs.length):AH f none (some j) ρ=.ok (.lst (xs.take n),d1 (xs.take n),ρ1):=by
 have ec:Bt xs none (some (n:Int))=xs.take n:=by
  unfold Bt;rw [HT.sIx_nat];show (xs.drop 0).take (min n xs.length - 0)=_;rw [P8,Nat.sub_zero,UL hn]
 unfold AH;rw [h1];dsimp only [Rz.bind,Es];rw [h2];dsimp only [Gb];rw [ec]
def YL {f g:Fs}{ρ:Ah}{c:Nat} (h:f ρ=.exc c):Ag f g ρ=.exc c:=by unfold Ag;rw [h]
def U3 {F:Fn}{fa:Fa}{ρ ρ1:Ah}{xs:List (PV×Nat)}{c:Nat} (h1:fa ρ=.ok (xs,ρ1)) (h2:F (xs.map (·.1))=.exc c):Az F fa ρ=.exc c:=by
 unfold Az;rw [h1];dsimp only [Rz.bind];rw [h2]
def U4 {f:Fx}{ρ:Ah}{c:Nat} (h:f ρ=.exc c):Dk f ρ=.exc c:=by unfold Dk;rw [h]
def SR {np k:Nat}{b:Fs}{xs:List PV}{c:Nat} (hl:xs.length=np) (h:b (xs.map (λ x=>some (x,dv x))++AK k none)=.exc c):A1 false np k b xs=.exc c:=by
 unfold A1;rw [if_pos hl];show (match b (xs.map (λ x=>some (x,dv x))++AK k none) with | .rt y d ρ=>_ | .nx ρ=>_ | .exc c=>_ | _=>_)=_;rw [h]
def xV {y:PV} (h:f_is_box [y]=.ok (.bl false,om,.non)):f_must_be_box [y]=.exc 1:=
 SR rfl ((Cj (f:=Ek 1) (g:=A4) (Bu (Hx (BO (F:=f_is_box) (fa:=Ad (Aa 0) Ac) (ρ:=[some (y,dv y)]) (xs:=[(y,dv y)]) rfl h)))).trans rfl)
theorem Rg {asg:PV->Ah->Option Ah}{body:Fs}{N:Nat} (I:Nat->Ah->Prop) (P:PV->Prop):∀ (els:List PV) (n:Nat) (ρ:Ah),n + els.length<=N->(∀ x∈els,P x)->I n ρ->(∀ x n ρ,n < N->P x->I n ρ->∃ ρ1 ρ2,asg x ρ=some ρ1/\body ρ1=.nx ρ2/\I (n + 1) ρ2)->∃ ρ',Bm asg body els ρ=.nx ρ'/\I (n + els.length) ρ'
 | [],n,ρ,_,_,h,_=>⟨ρ,rfl,h⟩
 | x::xs,n,ρ,hN,hp,h,hb=>by
  rw [Ba] at hN;obtain ⟨ρ1,ρ2,e1,e2,h2⟩:=hb x n ρ (by omega) (hp x Bf) h;obtain ⟨ρ',e,h'⟩:=Rg I P xs (n + 1) ρ2 (by omega) (λ y hy=>hp y (AQ _ hy)) h2 hb;refine ⟨ρ',?_,by rw [Ba,show n + (xs.length + 1)=n + 1 + xs.length by omega];exact h'⟩;unfold Bm;rw [e1];dsimp only;rw [e2];exact e
def YO {f:Fx}{vs:List Nat}{asg:PV->Ah->Option Ah}{body:Fs}{ρ ρ1 ρ2:Ah}{r:Rs}{els:List PV}{d:Nat} (hf:f ρ=.ok (.tup els,d,ρ1)) (ec:Bg d vs ρ1=ρ2) (h:Bm asg body els ρ2=r):Cc f vs asg body ρ=r:=by
 unfold Cc;rw [hf];dsimp only;rw [ec,h]
end QV
namespace K17
open PySem PySem.Spec PyProof.Rows L2 QQ QV
def qB (c:Nat):IF [.exn c]=.ok (.lst [.bl ([1].any (Bk c)),.bl ([2].any (Bk c)),.bl ([3].any (Bk c)),.bl ([4].any (Bk c)),.bl ([10,6,7,5,11,9,8].any (Bk c)),.bl ([0].any (Bk c))],om,.non):=by
 have z:=sz;let x1:List PV:=[.bl ([1].any (Bk c)),.bl ([2].any (Bk c)),.bl ([3].any (Bk c))]
 let x2:List PV:=[.bl ([4].any (Bk c)),.bl ([10,6,7,5,11,9,8].any (Bk c)),.bl ([0].any (Bk c))]
 let R (s1 s2:QQ.Slot):Ah:=[some (.exn c,om),s1,s2]
 have v1:Af false 1 (Aj AA (Ad (Aq (De [1]) (Aa 0)) (Ad (Aq (De [2]) (Aa 0)) (Ad (Aq (De [3]) (Aa 0)) (Ac))))) [0,0,0] (R none none)=.nx (R (some (.lst x1,om)) none):=
  AB (Dl (xs:=[(.bl ([1].any (Bk c)),om),(.bl ([2].any (Bk c)),om),(.bl ([3].any (Bk c)),om)]) rfl (by unfold AA;rw [if_pos (by show 3<=Am;omega)])) (show 1 < 3 by decide) rfl
 have v2:Af false 2 (Aq (De [10,6,7,5,11,9,8]) (Aa 0)) [0] (R (some (.lst x1,om)) none)=.nx (R (some (.lst x1,om)) (some (.bl ([10,6,7,5,11,9,8].any (Bk c)),om))):=rfl;have v3:Aj AA (Ad (Aq (De [4]) (Aa 0)) (Ad (Aa 2) (Ad (Aq (De [0]) (Aa 0)) (Ac)))) (R (some (.lst x1,om)) (some (.bl ([10,6,7,5,11,9,8].any (Bk c)),om)))=.ok (.lst x2,om,R (some (.lst x1,om)) (some (.bl ([10,6,7,5,11,9,8].any (Bk c)),om))):=
  Dl (xs:=[(.bl ([4].any (Bk c)),om),(.bl ([10,6,7,5,11,9,8].any (Bk c)),om),(.bl ([0].any (Bk c)),om)]) rfl (by unfold AA;rw [if_pos (by show 3<=Am;omega)];rfl)
 have v4:=JS (f:=Aa 1) (xs:=x1) (d:=0) (ρ:=R (some (.lst x1,om)) (some (.bl ([10,6,7,5,11,9,8].any (Bk c)),om))) rfl v3 (by show 3 + 3<=Am;omega);have e:d1 (x1++x2)=om:=rfl;rw [e] at v4;exact C3 rfl ((A3 v1).trans ((A3 v2).trans (DN v4)))
def VT:PV:=.lst [.bl true,.bl false,.bl false,.bl false,.bl false,.bl true]
def Hr (a b c:Nat) (far:Int):List PV:=[.tup [.int 0,.int 1,.int 1],.tup [.int 1,.int (0 - far),.int 1],.tup [.int 1,.int 1,.int (-1)],.tup [.int a,.int b],.tup [.int a,.int b,.int c,.int 1],.lst [.int a,.int b,.int c],.tup [.bl true,.int 1,.int 1],.tup [.int 1,.str "1",.int 1],.non]
def Pg (a b c:Nat) (k:Nat) (x:PV):PV:=.tup (([.int a,.int b,.int c].take k++[x])++[.int a,.int b,.int c].drop (k + 1))
def xy {a b c k:Nat}{x:PV} (hk:k < 3) (h:FO x=false):Dw (Pg a b c k x)=false:=by
 show (decide _ && List.all _ FO)=false;rw [show List.all _ FO=false from List.all_eq_false.mpr ⟨x,BM _ (BI _ (ja6.mpr rfl)),by rw [h];exact Di⟩,Bool.and_false]
def V1 {a b c:Nat}{far:Int} (hf:0<=far):∀ y∈Hr a b c far,Dr 3 y=true/\Dw y=false:=by
 intro y hy;have e:FO (.int (0 - far))=false:=decide_eq_false (by omega);have e2:Dw (.tup [.int 1,.int (0 - far),.int 1])=false:=by
  show (true && (true && (FO (.int (0 - far)) && _)))=false;rw [e];rfl
 unfold Hr at hy;simp only [jb2,EA,or_false] at hy;rcases hy with rfl | rfl | rfl | rfl | rfl | rfl | rfl | rfl | rfl
 ·exact ⟨rfl,rfl⟩
 ·exact ⟨rfl,e2⟩
 ·exact ⟨rfl,rfl⟩
 ·exact ⟨rfl,rfl⟩
 ·exact ⟨rfl,rfl⟩
 ·exact ⟨rfl,rfl⟩
 ·exact ⟨rfl,rfl⟩
 ·exact ⟨rfl,rfl⟩
 ·exact ⟨rfl,rfl⟩
def YF {a b c k:Nat}{x:PV}{ρ:Ah}{e:Nat} (hk:k < 3) (h0:Aa 0 ρ=.ok (bx a b c,0,ρ)) (h3:Aa 3 ρ=.ok (.int (k:Int),om,ρ)) (h4:Aa 4 ρ=.ok (x,e,ρ)):∃ d,(Ab Ao (Ab Ao (AH (Aa 0) none (some (Aa 3))) (Aj BC (Ad (Aa 4) (Ac)))) (AH (Aa 0) (some (Ab Ao (Aa 3) (bC (.int 1)))) none)) ρ=.ok (Pg a b c k x,d,ρ):=by
 have z:=sz;have h1:AH (Aa 0) none (some (Aa 3)) ρ=.ok (.tup ([.int a,.int b,.int c].take k),0,ρ):=by
  unfold AH;rw [h0];dsimp only [Rz.bind,Es];rw [h3];dsimp only
  have:k=0\/k=1\/k=2:=by omega
  rcases this with rfl | rfl | rfl <;> rfl
 have h2:Aj BC (Ad (Aa 4) (Ac)) ρ=.ok (.tup [x],(if CY [(x,e)] then om else 0),ρ):=Dl (Bx h4) (by unfold BC;rw [if_pos (by show 1<=Am;omega)];rfl);have h5:AH (Aa 0) (some (Ab Ao (Aa 3) (bC (.int 1)))) none ρ=.ok (.tup ([.int a,.int b,.int c].drop (k + 1)),0,ρ):=by
  unfold AH;rw [h0];dsimp only [Rz.bind,Es];rw [add_ok h3 (j:=1) (e:=om) rfl];dsimp only
  have:k=0\/k=1\/k=2:=by omega
  rcases this with rfl | rfl | rfl <;> rfl
 have l1:([.int a,.int b,.int c].take k:List PV).length + ([x]:List PV).length<=Am:=by rw [Dh];show min k 3 + 1<=_;omega
 have h6:=C1 h1 h2 (op:=Ao) (z:=.tup ([.int a,.int b,.int c].take k++[x])) (c:=0) (by show (if _ then _ else _)=_;rw [if_pos l1]);have l2:([.int a,.int b,.int c].take k++[x]:List PV).length + ([.int a,.int b,.int c].drop (k + 1):List PV).length<=Am:=by rw [AV,Dh,D4];show min k 3 + 1 + (3 - (k + 1))<=_;omega
 exact ⟨0,C1 h6 h5 (by show (if _ then _ else _)=_;rw [if_pos l2];rfl)⟩
def ZI {a b c:Nat}{far:Int} (hf:0<=far):∃ L d,J1 [bx a b c,.int far]=.ok (.lst L,d,.non)/\∀ y∈L,f_is_box [y]=.ok (.bl false,om,.non):=by
 have z:=sz;let k:Nat:=(far % 3).toNat;have hk:k < 3:=by omega
 have ek:far % 3=(k:Int):=by omega
 let R (e0:Nat) (e1:Nat) (L:List PV) (s3 s4:QQ.Slot):Ah:=[some (bx a b c,e0),some (.int far,e1),some (.lst L,1),s3,s4]
 have v1:∃ e0 e1,Af false 2 (Aj AA (Ad (Aj BC (Ad (bC (.int 0)) (Ad (bC (.int 1)) (Ad (bC (.int 1)) (Ac))))) (Ad (Aj BC (Ad (bC (.int 1)) (Ad (Ab Cm (bC (.int 0)) (Aa 1)) (Ad (bC (.int 1)) (Ac))))) (Ad (Aj BC (Ad (bC (.int 1)) (Ad (bC (.int 1)) (Ad (Aq BB (bC (.int 1))) (Ac))))) (Ad (AH (Aa 0) none (some (bC (.int 2)))) (Ad (Ab Ao (Aa 0) (Aj BC (Ad (bC (.int 1)) (Ac)))) (Ad (Aj Fj (Ad (Aa 0) (Ac))) (Ad (Aj BC (Ad (bC (.bl true)) (Ad (bC (.int 1)) (Ad (bC (.int 1)) (Ac))))) (Ad (Aj BC (Ad (bC (.int 1)) (Ad (bC (.str "1")) (Ad (bC (.int 1)) (Ac))))) (Ad (bC .non) (Ac))))))))))) [1,0,0,0] [some (bx a b c,0),some (.int far,om),none,none,none]=.nx (R e0 e1 (Hr a b c far) none none):=⟨_,_,rfl⟩
 obtain ⟨e0,e1,v1⟩:=v1;have v2:Af false 3 (Ab AI (Aa 1) (bC (.int 3))) [1] (R e0 e1 (Hr a b c far) none none)=.nx (R e0 e1 (Hr a b c far) (some (.int (k:Int),om)) none):=
  AB (Dn (i:=far) (j:=3) rfl rfl (by decide)) (show 3 < 5 by decide) (by rw [ek];rfl)
 let els:List PV:=[.int 0,.int (-1 - far),.bl true,.str "1",.non]
 have v3:∃ ρ',Bm (asgN 4) (A2 2 (Ab Ao (Ab Ao (AH (Aa 0) none (some (Aa 3))) (Aj BC (Ad (Aa 4) (Ac)))) (AH (Aa 0) (some (Ab Ao (Aa 3) (bC (.int 1)))) none)) [0,4,0]) els (R e0 e1 (Hr a b c far) (some (.int (k:Int),om)) none)=.nx ρ'/\∃ f0 f1 L f3 s4,ρ'=R f0 f1 L (some (.int (k:Int),f3)) s4/\L.length<=9 + (0 + els.length)/\∀ y∈L,Dr 3 y=true/\Dw y=false:=by
  refine Rg (N:=5) (λ n ρ=>∃ f0 f1 L f3 s4,ρ=R f0 f1 L (some (.int (k:Int),f3)) s4/\L.length<=9 + n/\∀ y∈L,Dr 3 y=true/\Dw y=false) (λ x=>Dr 2 x=true/\FO x=false) els 0 _ (A7 5) ?_ ⟨_,_,_,_,_,rfl,A7 _,V1 hf⟩ ?_
  ·intro x hx;simp only [els,jb2,EA,or_false] at hx;rcases hx with rfl | rfl | rfl | rfl | rfl
   ·exact ⟨rfl,rfl⟩
   ·exact ⟨rfl,decide_eq_false (by omega)⟩
   ·exact ⟨rfl,rfl⟩
   ·exact ⟨rfl,rfl⟩
   ·exact ⟨rfl,rfl⟩
  ·rintro x n ρ hn ⟨hx1,hx2⟩ ⟨f0,f1,L,f3,s4,rfl,hl,hL⟩;refine ⟨R f0 f1 L (some (.int (k:Int),f3)) (some (x,dv x)),?_⟩;obtain ⟨d,ev⟩:=YF (a:=a) (b:=b) (c:=c) (x:=x) (e:=dv x) (ρ:=R f0 f1 L (some (.int (k:Int),f3)) (some (x,dv x))) hk rfl rfl rfl;obtain ⟨g0,s4',ec⟩:∃ g0 s4',Bg d [0,4,0] (R f0 f1 L (some (.int (k:Int),f3)) (some (x,dv x)))=R g0 f1 L (some (.int (k:Int),f3)) s4':=by
    unfold Bg;split
    ·exact ⟨_,_,rfl⟩
    ·exact ⟨_,_,rfl⟩
   refine ⟨R g0 f1 (L++[Pg a b c k x]) (some (.int (k:Int),f3)) s4',rfl,?_,g0,f1,_,f3,s4',rfl,?_,?_⟩
   ·refine FL (xs:=L) (d:=1) (d0:=0) (xs0:=L) rfl ev (by rw [ec];rfl) (by decide) (by omega) ?_;rw [ec];rfl
   ·rw [AV,Gn];omega
   ·intro y hy;rcases jc2.mp hy with hy | hy
    ·exact hL y hy
    ·rw [ja6.mp hy];refine ⟨YE ?_ λ w hw=>?_,xy hk hx2⟩
     ·rw [AV,AV,Dh,D4];show min k 3 + 1 + (3 - (k + 1))<=_;omega
     ·have h3:∀ v∈([.int a,.int b,.int c]:List PV),Dr 2 v=true:=by
       intro v hv;simp only [jb2,EA,or_false] at hv;rcases hv with rfl | rfl | rfl <;> rfl
      rcases jc2.mp hw with hw | hw
      ·rcases jc2.mp hw with hw | hw
       ·exact h3 w (MZ hw)
       ·rw [ja6.mp hw];exact hx1
      ·exact h3 w (PQ hw)
 obtain ⟨ρ',v3,f0,f1,L,f3,s4,rfl,hl,hL⟩:=v3;have v4:=YO (f:=Aj BC (Ad (bC (.int 0)) (Ad (Ab Cm (Aq BB (bC (.int 1))) (Aa 1)) (Ad (bC (.bl true)) (Ad (bC (.str "1")) (Ad (bC .non) (Ac))))))) (vs:=[1]) (ρ:=R e0 e1 (Hr a b c far) (some (.int (k:Int),om)) none) (els:=els) (d:=om) rfl rfl v3;have v5:=JS (f:=Aa 2) (xs:=L) (d:=0) (ρ:=R f0 f1 L (some (.int (k:Int),f3)) s4) (h:=Aj AA (Ad (bC (.str "box")) (Ad (bC (.int 3)) (Ac)))) (ys:=[.str "box",.int 3]) (e:=om) rfl rfl (by show L.length + 2<=Am;have:els.length=5:=rfl;omega);refine ⟨L++[.str "box",.int 3],_,C3 rfl ((A3 v1).trans ((A3 v2).trans ((A3 v4).trans (DN v5)))),?_⟩;intro y hy
 have:Dr 3 y=true/\Dw y=false:=by
  rcases jc2.mp hy with hy | hy
  ·exact hL y hy
  ·simp only [jb2,EA,or_false] at hy;rcases hy with rfl | rfl <;> exact ⟨rfl,rfl⟩
 rw [Ye this.1,this.2]
def ZP (xs:List Int) (x k:Int):QV.cnt (xs++[x]) k=QV.cnt xs k + if decide (k < x)=true then 1 else 0:=by
 unfold QV.cnt;rw [List.filter_append,AV];by_cases h:k < x
 ·rw [PY (by simpa using h),if_pos (decide_eq_true h)];simp
 ·rw [PZ (by simpa using h),if_neg (by simpa using h)];simp
def Nu {α:Type}{xs:List α}{n:Nat}{x:α} (h:xs[n]?=some x):xs.take (n + 1)=xs.take n++[x]:=by
 rw [P7,h];rfl
def m7:Fs:=Af false 6 (Ab Ao (Aa 6) (Aj DW (Ad (Ab (BA λ i j=>decide (j < i)) (Aa 7) (Aa 3)) (Ac)))) [6,7,3]
def m5:Fs:=Ag (Af false 6 (bC (.int 0)) []) (Ag (Cc (Aa 5) [5] (asgN 7) m7) (A2 4 (Aa 6) [6]))
def m3:Fs:=Ag (Af false 4 (Aj AA (Ac)) []) (Ag (Cc (Aa 1) [1] (asgN 5) m5) (A2 2 (Aa 4) [4]))
def WL:Nl=Ag (Af false 2 (Aj AA (Ac)) []) (Ag (CZ C6 (Ad (Ab Al (Aa 0) (bC (.int 2))) (Ac)) (asgN 3) m3) (E3 2)):=rfl
section
variable {a b c:Nat}{t:List (List Int)}
def RM (a b c:Nat) (t:List (List Int)) (s2 s3 s4 s5 s6 s7:QQ.Slot):Ah:=[some (bx a b c,0),some (tb t,0),s2,s3,s4,s5,s6,s7]
def VQ {s2 s6 s7:QQ.Slot}{k:Int}{acc r:List Int} (hr:r.length<=1000) (ha:acc.length<=1000):∃ s6' s7',m5 (RM a b c t s2 (some (.int k,om)) (some (il acc,om)) (some (il r,0)) s6 s7)=.nx (RM a b c t s2 (some (.int k,om)) (some (il (acc++[QV.cnt r k]),om)) (some (il r,0)) s6' s7'):=by
 have z:=sz;let Q (s6 s7:QQ.Slot):Ah:=RM a b c t s2 (some (.int k,om)) (some (il acc,om)) (some (il r,0)) s6 s7;have v1:Af false 6 (bC (.int 0)) [] (Q s6 s7)=.nx (Q (some (.int 0,om)) s7):=rfl;obtain ⟨ρ',v2,s7',rfl⟩:=Li (f:=Aa 5) (vs:=[5]) (asg:=asgN 7) (body:=m7) (ρ:=Q (some (.int 0,om)) s7) (ρ2:=Q (some (.int 0,om)) s7) (els:=r.map .int) (d:=0) (λ n ρ=>∃ s7,ρ=Q (some (.int (QV.cnt (r.take n) k),om)) s7) rfl rfl ⟨s7,rfl⟩ (by
  rintro n x ρ hx ⟨s,rfl⟩;rw [Cs] at hx;obtain ⟨v,hv,rfl⟩:=jb0.mp hx;refine ⟨Q (some (.int (QV.cnt (r.take n) k),om)) (some (.int v,om)),Q (some (.int (QV.cnt (r.take (n + 1)) k),om)) (some (.int v,om)),rfl,?_,_,rfl⟩;refine AB (add_ok (i:=QV.cnt (r.take n) k) (d:=om) rfl (Dl (Bx (FN (i:=v) (j:=k) (d:=om) (e:=om) rfl rfl)) rfl)) (show 6 < 8 by decide) ?_;rw [Nu hv,ZP]
  rfl)
 rw [A5,Js] at v2;have v3:A2 4 (Aa 6) [6] (Q (some (.int (QV.cnt r k),om)) s7')=.nx (RM a b c t s2 (some (.int k,om)) (some (il (acc++[QV.cnt r k]),om)) (some (il r,0)) (some (.int (QV.cnt r k),om)) s7'):=
  FL (xs:=acc.map .int) (d:=om) (d0:=999) (xs0:=acc.map .int) (e:=om) rfl rfl rfl (by decide) (by rw [A5];omega) (by rw [NV];rfl)
 exact ⟨_,_,(A3 v1).trans ((A3 v2).trans v3)⟩
def VP {X:List (List Int)}{d:Nat}{k:Int}{s4 s5 s6 s7:QQ.Slot} (ht:Tab a b t) (ha:a<=100) (hb:b<=100) (hX:X.length<=1000):∃ s4' s5' s6' s7',m3 (RM a b c t (some (tb X,d + 1)) (some (.int k,om)) s4 s5 s6 s7)=.nx (RM a b c t (some (tb (X++[Hy t k]),1)) (some (.int k,om)) s4' s5' s6' s7'):=by
 have z:=sz;let Q (s4 s5 s6 s7:QQ.Slot):Ah:=RM a b c t (some (tb X,d + 1)) (some (.int k,om)) s4 s5 s6 s7;have v1:Af false 4 (Aj AA (Ac)) [] (Q s4 s5 s6 s7)=.nx (Q (some (il [],om)) s5 s6 s7):=rfl;obtain ⟨ρ',v2,s5',s6',s7',rfl⟩:=Li (f:=Aa 1) (vs:=[1]) (asg:=asgN 5) (body:=m5) (ρ:=Q (some (il [],om)) s5 s6 s7) (ρ2:=Q (some (il [],om)) s5 s6 s7) (els:=t.map il) (d:=0) (λ n ρ=>∃ s5 s6 s7,ρ=Q (some (il ((t.take n).map λ r=>QV.cnt r k),om)) s5 s6 s7) rfl rfl ⟨s5,s6,s7,rfl⟩ (by
  rintro n x ρ hx ⟨s5,s6,s7,rfl⟩;rw [Cs] at hx;obtain ⟨r,hr,rfl⟩:=jb0.mp hx;have hm:=Gk hr;obtain ⟨s6',s7',h⟩:=VQ (a:=a) (b:=b) (c:=c) (t:=t) (s2:=some (tb X,d + 1)) (s6:=s6) (s7:=s7) (k:=k) (acc:=(t.take n).map λ r=>QV.cnt r k) (r:=r) (by rw [ht.2 r hm];omega) (by rw [A5,Dh,ht.1];omega);refine ⟨Q (some (il ((t.take n).map λ r=>QV.cnt r k),om)) (some (il r,0)) s6 s7,_,rfl,h,some (il r,0),s6',s7',?_⟩;rw [Nu hr,Du]
  rfl)
 rw [A5,Js] at v2;have v3:A2 2 (Aa 4) [4] (Q (some (il (Hy t k),om)) s5' s6' s7')=.nx (RM a b c t (some (tb (X++[Hy t k]),1)) (some (.int k,om)) (some (il (Hy t k),0)) s5' s6' s7'):=
  FL (xs:=X.map il) (d:=d + 1) (d0:=d) (xs0:=X.map il) (e:=0) rfl rfl rfl (by omega) (by rw [A5];omega) (by rw [Uo,if_neg (λ h=>absurd h.2 (by decide))];rfl)
 exact ⟨_,_,_,_,(A3 v1).trans ((A3 v2).trans v3)⟩
def W2 (ht:Tab a b t) (ha:a<=100) (hb:b<=100) (hc:1<=c/\c<=100):Hq [bx a b c,tb t]=.ok (tb (Cd t c),1,.non):=by
 have v1:Af false 2 (Aj AA (Ac)) [] (RM a b c t none none none none none none)=.nx (RM a b c t (some (tb [],om)) none none none none none):=rfl;have hf:Ad (Ab Al (Aa 0) (bC (.int 2))) Ac (RM a b c t (some (tb [],om)) none none none none none)=.ok ([(.int (c:Int),om)],RM a b c t (some (tb [],om)) none none none none none):=rfl;obtain ⟨ρ',v2,d,s3,s4,s5,s6,s7,rfl,hd⟩:=Lh (i:=3) (body:=m3) (lo:=0) (hi:=(c:Int)) (λ n ρ=>∃ d s3 s4 s5 s6 s7,ρ=RM a b c t (some (tb (Cd t n),d + 1)) s3 s4 s5 s6 s7/\(1<=n->d=0)) hf (JE (by omega) (by omega)) ⟨999,_,_,_,_,_,rfl,λ h=>absurd h (by decide)⟩ (by
  rintro n ρ hn ⟨d,s3,s4,s5,s6,s7,rfl,_⟩;refine ⟨(by decide:3 < 8),?_⟩;rw [MM];obtain ⟨s4',s5',s6',s7',h⟩:=VP (a:=a) (b:=b) (c:=c) (t:=t) (X:=Cd t n) (d:=d) (k:=(n:Int)) (s4:=s4) (s5:=s5) (s6:=s6) (s7:=s7) ht ha hb (by unfold Cd;rw [A5,EW];omega);refine ⟨_,h,0,some (.int (n:Int),om),s4',s5',s6',s7',?_,λ _=>rfl⟩;unfold Cd;rw [MU,Du]
  rfl)
 rw [show ((c:Int) - 0).toNat=c by omega] at v2 hd;have d0:=hd hc.1;subst d0;have hF:Hq=A1 false 2 6 Nl:=rfl;rw [hF,WL];exact C3 rfl ((A3 v1).trans ((A3 v2).trans rfl))
end
def wC:Fb:=bT (Bb (Ab (BA λ i j=>decide (j<=i)) (Aa 3) (bC (.int 0))) (Ab (BA λ i j=>decide (i < j)) (Aa 4) (Aa 1)))
def wD:Fx:=D1 (Ab (BA λ i j=>decide (j<=i)) (Aa 3) (bC (.int 0))) (Ab (Au false) (Ab Al (Aa 0) (Aa 3)) (Aa 4))
def Jb:Fs:=AW (bT wD) (Ag (Af false 2 (Ab Ao (Aa 2) (bC (.str "d"))) [2]) (Af false 3 (Ab Cm (Aa 3) (bC (.int 1))) [3])) (Ag (Af false 2 (Ab Ao (Aa 2) (bC (.str "r"))) [2]) (Af false 4 (Ab Ao (Aa 4) (bC (.int 1))) [4]))
def WM:Nk=(Ag (Af false 2 (bC (.str "")) [])
 (Ag (Af false 3 (Ab Cm (Aj BF (Ad (Aa 0) (Ac))) (bC (.int 1))) [0])
 (Ag (Af false 4 (bC (.int 0)) [])
 (Ag (LG wC Jb)
 (E3 2))))):=rfl
def RW (s:List Int) (b:Nat) (w:List Bool) (p:Int) (k:Nat):Ah:=[some (il s,0),some (.int (b:Int),om),some (wd w,om),some (.int p,om),some (.int (k:Int),om)]
def Q4 {s:List Int}{r:Nat} (h:r < s.length):Cf (s.take (r + 1))=(s.getD r 0).toNat::Cf (s.take r):=by
 unfold Cf;rw [Nu (Fh h),Vd];rfl
section
variable {s:List Int}{b:Nat}
def RP {w:List Bool}{p:Int}{k:Nat} (x:Bool) (hl:w.length<=1000):Af false 2 (Ab Ao (Aa 2) (bC (wd [x]))) [2] (RW s b w p k)=.nx (RW s b (w++[x]) p k):=
 AB (JT (u:=w) (v:=[x]) (d:=om) (e:=om) rfl rfl (by show w.length + 1<=_;omega)) (show 2 < 5 by decide) rfl
theorem Oi (hs:∀ x∈s,0<=x):∀ (m r k:Nat) (w:List Bool),r<=s.length->Rise b k (Cf (s.take r))->r + (b - k) < m->w.length + (r + (b - k))<=1000->∃ p' k',E2 wC Jb m (RW s b w ((r:Int) - 1) k)=.nx (RW s b (w++BS b k (Cf (s.take r))) p' k')
 | 0,_,_,_,_,_,h,_=>absurd h (MV _)
 | m + 1,r,k,w,hr,hR,hm,hl=>by
  have kb:=hR.le;have c1:wC (RW s b w ((r:Int) - 1) k)=.ok (decide ((0:Int)<=(r:Int) - 1) || decide ((k:Int) < b),RW s b w ((r:Int) - 1) k):=
   Bu (Jm (FN (i:=(r:Int) - 1) (j:=0) (d:=om) (e:=om) rfl rfl) (λ _=>FN (i:=(k:Int)) (j:=(b:Int)) (d:=om) (e:=om) rfl rfl) rfl)
  have stepR:(∀ n∈Cf (s.take r),k + 1<=n)->k + 1<=b->Rise b (k + 1) (Cf (s.take r))->wD (RW s b w ((r:Int) - 1) k)=.ok (.bl false,om,RW s b w ((r:Int) - 1) k)->∃ p' k',E2 wC Jb (m + 1) (RW s b w ((r:Int) - 1) k)=.nx (RW s b (w++BS b k (Cf (s.take r))) p' k'):=by
   intro h1 h2 h3 h4;have b1:Jb (RW s b w ((r:Int) - 1) k)=.nx (RW s b (w++[true]) ((r:Int) - 1) (k + 1)):=
    (Cr (Bu h4)).trans ((A3 (RP true (by omega))).trans (AB (add_ok (i:=(k:Int)) (j:=1) (d:=om) (e:=om) rfl rfl) (show 4 < 5 by decide) rfl))
   obtain ⟨p',k',e⟩:=Oi hs m r (k + 1) (w++[true]) hr h3 (by omega) (by rw [AV];show w.length + 1 + _<=_;omega);refine ⟨p',k',?_⟩;have cT:(decide ((0:Int)<=(r:Int) - 1) || decide ((k:Int) < b))=true:=by rw [decide_eq_true (show (k:Int) < b by omega),UC]
   unfold E2;rw [c1,cT];dsimp only;rw [b1];dsimp only;rw [e,xN h1 h2,Gj];rfl
  cases r with
  | zero=>
   rw [MR] at hR ⊢;by_cases h:k < b
   ·exact stepR (λ n hn=>by cases hn) (by omega) (by show k + 1<=b;omega) (IU (a:=false) (b:=false) (FN (i:=((0:Nat):Int) - 1) (j:=0) (d:=om) (e:=om) rfl rfl) (λ e=>nomatch e) rfl)
   ·have cF:(decide ((0:Int)<=((0:Nat):Int) - 1) || decide ((k:Int) < b))=false:=by rw [decide_eq_false (show ¬ (k:Int) < b by omega)];rfl
    refine ⟨((0:Nat):Int) - 1,k,?_⟩;unfold E2;rw [c1,cF];show _=Rs.nx (RW s b (w++AK (b - k) true) _ k);rw [show b - k=0 by omega];show _=Rs.nx (RW s b (w++[]) _ k);rw [Io]
  | succ r=>
   rw [Q4 (by omega)] at hR ⊢;obtain ⟨h1,h2⟩:=hR;have ep:((r + 1:Nat):Int) - 1=(r:Int):=by omega
   have h0:=hs _ (QV.getD_mem (show r < s.length by omega));have eD:wD (RW s b w (((r + 1:Nat):Int) - 1) k)=.ok (.bl (true && decide (s.getD r 0=(k:Int))),om,RW s b w (((r + 1:Nat):Int) - 1) k):=by
    refine IU (a:=true) (d:=om) ?_ (λ _=>?_) rfl
    ·have:=FN (p:=λ i j=>decide (j<=i)) (f:=Aa 3) (g:=bC (.int 0)) (ρ:=RW s b w (((r + 1:Nat):Int) - 1) k) (i:=((r + 1:Nat):Int) - 1) (j:=0) (d:=om) (e:=om) rfl rfl
     rwa [decide_eq_true (show (0:Int)<=((r + 1:Nat):Int) - 1 by omega)] at this
    ·have:=GV (neg:=false) (GZ (f:=Aa 0) (g:=Aa 3) (ρ:=RW s b w (((r + 1:Nat):Int) - 1) k) (xs:=s) (k:=((r + 1:Nat):Int) - 1) (d:=0) (e:=om) rfl rfl (Ey (by omega) (by rw [ep,Ir];exact Fh (by omega)))) (g:=Aa 4) (j:=(k:Int)) (e:=om) rfl
     rwa [KG] at this
   by_cases hk:s.getD r 0=(k:Int)
   ·rw [decide_eq_true hk] at eD;have b1:Jb (RW s b w (((r + 1:Nat):Int) - 1) k)=.nx (RW s b (w++[false]) ((r:Int) - 1) k):=
     (Cj (Bu eD)).trans ((A3 (RP false (by omega))).trans (AB (IT (i:=((r + 1:Nat):Int) - 1) (j:=1) (d:=om) (e:=om) rfl rfl) (show 3 < 5 by decide) (by rw [ep];rfl)))
    have en:(s.getD r 0).toNat=k:=by omega
    rw [en] at h2 ⊢;obtain ⟨p',k',e⟩:=Oi hs m r k (w++[false]) (by omega) h2 (by omega) (by rw [AV];show w.length + 1 + _<=_;omega);refine ⟨p',k',?_⟩;have cT:(decide ((0:Int)<=((r + 1:Nat):Int) - 1) || decide ((k:Int) < b))=true:=by rw [decide_eq_true (show (0:Int)<=((r + 1:Nat):Int) - 1 by omega)];rfl
    unfold E2;rw [c1,cT];dsimp only;rw [b1];dsimp only;rw [e];show Rs.nx (RW s b (w++[false]++_) p' k')=Rs.nx (RW s b (w++(AK (k - k) true++false::_)) p' k');rw [MN,Gj];rfl
   ·rw [decide_eq_false hk] at eD;have hn:k + 1<=(s.getD r 0).toNat:=by omega
    have hb:=h2.le;rw [Q4 (by omega)] at stepR;refine stepR (λ n hn'=>?_) (by omega) ⟨hn,h2⟩ eD;rcases jb2.mp hn' with rfl | hn'
    ·exact hn
    ·have:=h2.all n hn'
     omega
end
def Y6 {s:List Int}{b:Nat} (h:StR b s) (hb:b<=100) (hs:s.length<=100):IH [il s,.int (b:Int)]=.ok (wd (C7 b s),om,.non):=by
 have v1:Af false 2 (bC (.str "")) [] [some (il s,0),some (.int (b:Int),om),none,none,none]=.nx [some (il s,0),some (.int (b:Int),om),some (wd [],om),none,none]:=rfl;have v2:Af false 3 (Ab Cm (Aj BF (Ad (Aa 0) (Ac))) (bC (.int 1))) [0] [some (il s,0),some (.int (b:Int),om),some (wd [],om),none,none]=.nx [some (il s,0),some (.int (b:Int),om),some (wd [],om),some (.int ((s.length:Int) - 1),om),none]:=
  AB (IT (Xn (xs:=s) (d:=0) rfl) (j:=1) (e:=om) rfl) (show 3 < 5 by decide) rfl
 have v3:Af false 4 (bC (.int 0)) [] [some (il s,0),some (.int (b:Int),om),some (wd [],om),some (.int ((s.length:Int) - 1),om),none]=.nx (RW s b [] ((s.length:Int) - 1) 0):=rfl;have hR:=h.rise;obtain ⟨p',k',v4⟩:=Oi (s:=s) (b:=b) (λ x hx=>(h.2 x hx).1) 300 s.length 0 [] (A7 _) (by rw [Js];exact hR) (by omega) (by show 0 + _<=_;omega);rw [Js,KH] at v4;have hF:IH=A1 false 2 3 Nk:=rfl;rw [hF,WM];have v5:LG wC Jb (RW s b [] ((s.length:Int) - 1) 0)=.nx (RW s b (C7 b s) p' k'):=v4;exact C3 rfl ((A3 v1).trans ((A3 v2).trans ((A3 v3).trans ((A3 v5).trans rfl))))
def JZ:Fx:=Aj AA (Ad (bC (.bl true)) (Ad (bC (.bl false)) (Ad (bC (.bl false)) (Ad (bC (.bl false)) (Ad (bC (.bl false)) (Ad (bC (.bl true)) (Ac)))))))
def WO:Ni=(Ag (Af false 2 (bC .non) [])
 (Ag (DG 0 2 3 [] (Dk (Az F6 (Ad (Aa 0) (Ad (Aa 1) (Ac))))))
 (A8 (Ab (Au false) (Az IF (Ad (Aa 2) (Ac))) JZ)))):=rfl
def V8 {y x:PV} (h:f_is_box [y]=.ok (.bl false,om,.non)):f_never_touch [y,x]=.exc 1:=
 SR rfl (YL (U4 (U3 (ρ:=[some (y,dv y),some (x,dv x),none,none,none,none]) (xs:=[(y,dv y)]) rfl (xV h))))
def Tr {y x:PV} (h:f_is_box [y]=.ok (.bl false,om,.non)):FA [y,x]=.ok (.bl true,om,.non):=by
 let R (s2 s3:QQ.Slot):Ah:=[some (y,dv y),some (x,dv x),s2,s3]
 have v1:Af false 2 (bC .non) [] (R none none)=.nx (R (some (.non,om)) none):=rfl;have v2:DG 0 2 3 [] (Dk (Az F6 (Ad (Aa 0) (Ad (Aa 1) (Ac))))) (R (some (.non,om)) none)=.nx (R (some (.exn 1,om)) none):=by
  unfold DG;rw [U4 (U3 (F:=F6) (xs:=[(y,dv y),(x,dv x)]) rfl (V8 h))];rfl
 have v3:Ab (Au false) (Az IF (Ad (Aa 2) (Ac))) JZ (R (some (.exn 1,om)) none)=.ok (.bl true,om,R (some (.exn 1,om)) none):=
  C1 (BO (F:=IF) (xs:=[(.exn 1,om)]) rfl (qB 1)) (y:=VT) (e:=om) rfl (by kernel_rfl)
 have hF:FA=A1 false 2 2 Ni:=rfl;rw [hF,WO];exact C3 rfl ((A3 v1).trans ((A3 v2).trans (DN v3)))
def Yy (n:Nat) (ws:List (List Bool)):∃ D,Cq (n + 2) (wl ws)=some D:=by
 refine ⟨.list (ws.map λ w=>.str (Aw w)),?_⟩;show (BD (Cq (n + 1)) (ws.map wd)).map PyData.list=_;rw [Rt (q:=λ w=>.str (Aw w)) λ w=>Yx n w];rfl
def YK {neg:Bool}{x:PV}{D:DR}{d e:Nat} (h:Cq 20 x=some D):Au neg x d x e=some (.bl (neg^^true),om):=by
 unfold Au;rw [h];show some (PV.bl (neg^^Hg D D),om)=_;rw [SeqAt.eqv_refl D (EJ 20 x D h).1]
def LI {f:Fx}{lo hi:Option Fx}{l u:Option Int}{ρ:Ah}{xs:List PV}{d:Nat} (h1:f ρ=.ok (.lst xs,d,ρ)) (h2:Es lo ρ=.ok (l,ρ)) (h3:Es hi ρ=.ok (u,ρ)):AH f lo hi ρ=.ok (.lst (Bt xs l u),d1 (Bt xs l u),ρ):=by
 unfold AH;rw [h1];dsimp only [Rz.bind];rw [h2];dsimp only [Rz.bind];rw [h3];rfl
def MA {α:Type} (e:α->PV) (xs:List α) (l u:Option Int):∃ ys:List α,Bt (xs.map e) l u=ys.map e/\ys.length<=xs.length/\∀ y∈ys,y∈xs:=by
 refine ⟨(xs.drop (HT.sIx (xs.map e).length 0 l)).take (HT.sIx (xs.map e).length (xs.map e).length u - HT.sIx (xs.map e).length 0 l),?_,?_,λ y hy=>PQ (MZ hy)⟩
 ·unfold Bt;rw [P5,KC]
 ·rw [Dh,D4];omega
def HV.setD {L:List (Option PV)}{O:List Nat}{ρ:Ah}{i d:Nat}{f:Fx}{vs:List Nat}{x:PV} (h:HV L O ρ) (hf:f ρ=.ok (x,d,ρ)) (hi:i < L.length) (hd:d≠0):∃ ρ',Af false i f vs ρ=.nx ρ'/\HV (L.set i (some x)) [i] ρ':=⟨_,AB hf (by rw [h.len];exact hi) rfl,(h.cool).putO hi hd⟩
def B1:Fs:=(Ag (Af false 8 (Aj Fj (Ad (Aa 7) (Ac))) [7])
 (Ag (Af false 9 (Az F6 (Ad (Aa 2) (Ad (Aa 8) (Ac)))) [2,8])
 (AW (bT (Bb (Aq Cu (Aq (Eb "bool") (Aa 9))) (Bb (Ab (Au true) (Aa 9) (Aq Cu (Az IG (Ad (Aa 7) (Ac))))) (Ab (Au true) (Aa 8) (Aa 7))))) (A8 (bC (.bl false))) A4)))
def B2:Fs:=(AW (bT (Bb (Aq Cu (Az FA (Ad (Aa 10) (Ad (Aa 4) (Ac))))) (Aq Cu (Az FA (Ad (Aa 10) (Ad (Aj AA (Ac)) (Ac))))))) (A8 (bC (.bl false))) A4)
def LF:Fx:=(Aj AA (Ad (Aa 4) (Ad (Aj AA (Ac)) (Ad (AH (Aa 4) none (some (bC (.int 1)))) (Ad (AH (Aa 4) (some (bC (.int 1))) none) (Ad (Ab Ao (Aa 4) (AH (Aa 4) (some (Aq BB (bC (.int 1)))) none)) (Ad (Aq Em (Aa 4)) (Ac))))))))
def BT:Fs:=(Ag (Af false 5 (Az F9 (Ad (Az F7 (Ad (Aa 0) (Ad (bC (.int 2)) (Ac)))) (Ad (bC (.int 12)) (Ac)))) [0])
 (Ag (Af false 6 LF [4,4,4,4,4,4])
 (Ag (A2 6 (Az Jz (Ad (Aa 2) (Ad (Aa 4) (Ad (AH (Aa 5) none (some (bC (.int 1)))) (Ac))))) [2,4,5])
 (Ag (A2 6 (Az Jz (Ad (Aa 2) (Ad (Aa 4) (Ad (AH (Aa 5) (some (bC (.int 1))) (some (Ab Ao (bC (.int 2)) (Ab AI (Ab Al (Aa 5) (bC (.int 11))) (bC (.int 3)))))) (Ac))))) [2,4,5])
 (Ag (A2 6 (CO (AH (Aa 5) (some (bC (.int 4))) (some (Ab Ao (bC (.int 5)) (Ab AI (Ab Al (Aa 5) (bC (.int 10))) (bC (.int 6)))))) 1 (asgN 11) D3 (Az J0 (Ad (Aa 2) (Ad (Aa 11) (Ac))))) [5,2,5])
 (Ag (Cc (Aa 6) [6] (asgN 7) B1)
 (Ag (Cc (Az J1 (Ad (Aa 2) (Ad (Ab AI (Aa 1) (Ab FK (bC (.int 10)) (bC (.int 30)))) (Ac)))) [2,1] (asgN 10) B2)
 (A8 (bC (.bl true))))))))))
def VE:Fx:=CO (Az Hq (Ad (Aa 2) (Ad (Aa 3) (Ac)))) 1 (asgN 11) D3 (Az IH (Ad (Aa 11) (Ad (Ab Al (Aa 2) (bC (.int 1))) (Ac))))
def WQ:Nh=(Ag (Af false 1 (Az F7 (Ad (Aa 0) (Ad (bC (.int 0)) (Ac)))) [0])
 (Ag (Af false 2 (Az Np (Ad (Aa 1) (Ad (bC (.int 4)) (Ad (bC (.int 6)) (Ac))))) [1])
 (Ag (Af false 3 (Az Nn (Ad (Aa 2) (Ad (Aa 0) (Ad (bC (.int 3)) (Ad (Az F7 (Ad (Aa 0) (Ad (bC (.int 1)) (Ac)))) (Ac)))))) [2,0,0])
 (Ag (Af false 4 VE [2,3,2,3,2]) BT)))):=rfl
def Fr (ns:List Int) (s1 s2 s3 s4 s5 s6 s7 s8 s9 s10:Option PV):List (Option PV):=[some (.scr ns),s1,s2,s3,s4,s5,s6,s7,s8,s9,s10]
section
variable {a b c:Nat}{t:List (List Int)}{W:List (List Bool)}
def Gw (a b:Nat) (vs:List (List Bool)):Prop:=(∀ w∈vs,Wd a b w)/\vs.length<=7
def Wo {L:List (Option PV)}{ρ:Ah}{vs:List (List Bool)} (h:HV L [] ρ) (hL:L.length=11) (h2:L[2]?=some (some (bx a b c))) (h7:L[7]?=some (some (wl vs))) (hv:Gw a b vs) (ha:1<=a/\a<=6) (hb:1<=b/\b<=6) (hc:1<=c/\c<=6):∃ ρ' x y,B1 ρ=.nx ρ'/\HV ((L.set 8 (some x)).set 9 (some y)) [] ρ':=by
 have z:=sz;have c1:Aj Fj (Ad (Aa 7) (Ac)) ρ=.ok (wl vs,om,ρ):=Dl (Bx (h.var h7)) (by
  show some (PV.lst (vs.map wd),d1 (vs.map wd))=_;rw [RS];rfl)
 obtain ⟨ρ1,v1,k1⟩:=h.setO (i:=8) (vs:=[7]) c1 (by omega);have l2:(L.set 8 (some (wl vs)))[2]?=some (some (bx a b c)):=by rw [BL (by decide)];exact h2
 have l7:(L.set 8 (some (wl vs)))[7]?=some (some (wl vs)):=by rw [BL (by decide)];exact h7
 have l8:(L.set 8 (some (wl vs)))[8]?=some (some (wl vs)):=CC (by omega);have c2:=BO (F:=F6) (fa:=Ad (Aa 2) (Ad (Aa 8) (Ac))) (ρ:=ρ1) (xs:=[(bx a b c,0),(wl vs,0)]) (By (k1.var l2) (Bx (k1.var l8))) (xH hv.1 (by have:=hv.2;omega) ha hb hc);obtain ⟨ρ2,v2,k2'⟩:=k1.setO (i:=9) (vs:=[2,8]) c2 (by rw [DI];omega);have m7:((L.set 8 (some (wl vs))).set 9 (some (.bl (decide (A9 0 vs).Nodup))))[7]?=some (some (wl vs)):=by rw [BL (by decide)];exact l7
 have m8:((L.set 8 (some (wl vs))).set 9 (some (.bl (decide (A9 0 vs).Nodup))))[8]?=some (some (wl vs)):=by rw [BL (by decide)];exact l8
 have m9:((L.set 8 (some (wl vs))).set 9 (some (.bl (decide (A9 0 vs).Nodup))))[9]?=some (some (.bl (decide (A9 0 vs).Nodup))):=CC (by rw [DI];omega);have mt:=Xq (ws:=vs) (λ w hw=>by rw [(hv.1 w hw).len];omega) (by have:=hv.2;omega);have q1:Aq Cu (Aq (Eb "bool") (Aa 9)) ρ2=.ok (.bl false,om,ρ2):=Hx (b:=true) (M1 (k2'.var m9) rfl);have q2:=Hx (BO (F:=IG) (fa:=Ad (Aa 7) (Ac)) (ρ:=ρ2) (xs:=[(wl vs,0)]) (Bx (k2'.var m7)) mt);rw [Bool.not_not] at q2;have q3:Ab (Au true) (Aa 9) (Aq Cu (Az IG (Ad (Aa 7) (Ac)))) ρ2=.ok (.bl false,om,ρ2):=C1 (k2'.var m9) q2 (by cases decide (A9 0 vs).Nodup <;> rfl);obtain ⟨D,hD⟩:=Yy 18 vs;have q4:Ab (Au true) (Aa 8) (Aa 7) ρ2=.ok (.bl false,om,ρ2):=C1 (k2'.var m8) (k2'.var m7) (YK hD);exact ⟨ρ2,_,_,(A3 v1).trans ((A3 v2).trans ((Cr (Bu (Jm q1 (λ _=>Jm q3 (λ _=>q4) rfl) rfl))).trans rfl)),k2'⟩
def Xp {fa:Fa}{ρ ρ1:Ah}{xs:List (PV×Nat)} (h:fa ρ=.ok (xs,ρ1)) (hl:xs.length<=Am):∃ d,d≠0/\Aj AA fa ρ=.ok (.lst (xs.map (·.1)),d,ρ1):=⟨if CY xs then om else 1,by split <;> decide,Dl h (by unfold AA;rw [if_pos hl])⟩
def MD {vs:List (List Bool)} (h:∀ w∈vs,w∈W) (hl:vs.length<=7) (hW:∀ w∈W,Wd a b w):Gw a b vs:=⟨λ w hw=>hW w (h w hw),hl⟩
def Z7 {ns:List Int}{cell:Int}{ρ:Ah} (hW:∀ w∈W,Wd a b w) (lW:W.length=c) (ha:1<=a/\a<=6) (hb:1<=b/\b<=6) (hc:1<=c/\c<=6) (h:HV (Fr ns (some (.int cell)) (some (bx a b c)) none (some (wl W)) none none none none none none) [] ρ):Gv BT ρ (.bl true):=by
 have z:=sz;obtain ⟨ms,hm,em⟩:=Lr (ns.getD 2 0) 12 (by omega);refine Gv.ex (h.setO (x:=il ms) (BO (xs:=[(.int (ns.getD 2 0),om),(.int 12,om)]) (By (BO (F:=F7) (xs:=[(.scr ns,om),(.int 2,om)]) (By (h.var rfl) (Bx rfl)) (NP ns 2)) (Bx rfl)) em) (show 5 < 11 by decide)) λ ρ1 h1=>?_;have w4:Aa 4 ρ1=.ok (wl W,0,ρ1):=h1.var rfl;have hWl:(W.map wd).length=c:=by rw [A5,lW]
 have t1:=Wi (n:=1) (j:=bC (.int 1)) (e:=om) w4 rfl (by omega);have t2:=LI (lo:=some (bC (.int 1))) (hi:=none) (l:=some 1) (u:=none) w4 rfl rfl;obtain ⟨V2,e2,l2,s2⟩:=MA wd W (some 1) none;rw [e2] at t2;have t3:=Od w4;have t4:=JS w4 t3 (by rw [D4];omega);have t5:Aq Em (Aa 4) ρ1=.ok (.lst (W.map wd).reverse,d1 (W.map wd).reverse,ρ1):=M1 w4 rfl;obtain ⟨dl,dl0,el⟩:∃ d,d≠0/\LF ρ1=.ok (.lst ([W,[],W.take 1,V2,W++W.drop (W.length - 1),W.reverse].map wl),d,ρ1):=by
  obtain ⟨d,hd,e⟩:=Xp (By w4 (By (f:=Aj AA (Ac)) (x:=.lst []) (d:=om) rfl (By t1 (By t2 (By t4 (Bx t5)))))) (by show 6<=Am;omega);refine ⟨d,hd,e.trans ?_⟩;show Rz.ok (PV.lst [wl W,.lst [],.lst ((W.map wd).take 1),.lst (V2.map wd),.lst (W.map wd++(W.map wd).drop ((W.map wd).length - 1)),.lst (W.map wd).reverse],d,ρ1)=Rz.ok (PV.lst [wl W,wl [],wl (W.take 1),wl V2,wl (W++W.drop (W.length - 1)),wl W.reverse],d,ρ1);unfold wl;rw [P5,Du,KC,List.map_reverse,A5];rfl
 refine Gv.ex (HV.setD h1 el (show 6 < 11 by decide) dl0) λ ρ2 h2=>?_;have il5:Aa 5 ρ2=.ok (il ms,0,ρ2):=h2.var rfl;have num:∀ {ρ:Ah}{k:Nat},Aa 5 ρ=.ok (il ms,0,ρ)->k < 12->∃ x:Int,Ab Al (Aa 5) (bC (.int (k:Int))) ρ=.ok (.int x,om,ρ):=λ {ρ k} h5 hk=>⟨_,GZ (xs:=ms) (k:=(k:Int)) (g:=bC (.int (k:Int))) (e:=om) h5 rfl (Ey (by omega) (Fh (by rw [Ir,hm];exact hk)))⟩
 have t6:=LI (lo:=none) (hi:=some (bC (.int 1))) (l:=none) (u:=some 1) il5 rfl rfl;obtain ⟨n1,f1,_⟩:=MA PV.int ms none (some 1);rw [f1] at t6;obtain ⟨vs1,g1,k1,c1⟩:=Uq (a:=a) (b:=b) (c:=c) hW lW ha hb hc n1;refine Gv.ex (h2.app (i:=6) (y:=wl vs1) rfl (by decide) (BO (xs:=[(bx a b c,0),(wl W,0),(il n1,_)]) (By (h2.var rfl) (By (h2.var rfl) (Bx t6))) c1) (by show 6 < Am;omega)) λ ρ3 h3=>?_;have il5:Aa 5 ρ3=.ok (il ms,0,ρ3):=h3.var rfl;obtain ⟨x11,e11⟩:=num (k:=11) il5 (by decide);have e11:Ab Al (Aa 5) (bC (.int 11)) ρ3=.ok (.int x11,om,ρ3):=e11;have a11:=add_ok (f:=bC (.int 2)) (i:=2) (d:=om) rfl (Dn e11 (g:=bC (.int 3)) (j:=3) (e:=om) rfl (by decide));have t7:=LI (lo:=some (bC (.int 1))) (l:=some 1) (hi:=some (Ab Ao (bC (.int 2)) (Ab AI (Ab Al (Aa 5) (bC (.int 11))) (bC (.int 3))))) (u:=some (2 + x11 % 3)) il5 rfl (by show Rz.bind _ _=_;rw [a11];rfl);obtain ⟨n2,f2,_⟩:=MA PV.int ms (some 1) (some (2 + x11 % 3));rw [f2] at t7;obtain ⟨vs2,g2,k2',c2⟩:=Uq (a:=a) (b:=b) (c:=c) hW lW ha hb hc n2;refine Gv.ex (h3.app (i:=6) (y:=wl vs2) rfl (by decide) (BO (xs:=[(bx a b c,0),(wl W,0),(il n2,_)]) (By (h3.var rfl) (By (h3.var rfl) (Bx t7))) c2) (by show 7 < Am;omega)) λ ρ4 h4=>?_;have il5:Aa 5 ρ4=.ok (il ms,0,ρ4):=h4.var rfl;obtain ⟨x10,e10⟩:=num (k:=10) il5 (by decide);have e10:Ab Al (Aa 5) (bC (.int 10)) ρ4=.ok (.int x10,om,ρ4):=e10;have a10:=add_ok (f:=bC (.int 5)) (i:=5) (d:=om) rfl (Dn e10 (g:=bC (.int 6)) (j:=6) (e:=om) rfl (by decide));have t8:=LI (lo:=some (bC (.int 4))) (l:=some 4) (hi:=some (Ab Ao (bC (.int 5)) (Ab AI (Ab Al (Aa 5) (bC (.int 10))) (bC (.int 6))))) (u:=some (5 + x10 % 6)) il5 rfl (by show Rz.bind _ _=_;rw [a10];rfl);obtain ⟨n3,f3,_⟩:=MA PV.int ms (some 4) (some (5 + x10 % 6));have ln3:n3.length<=7:=by
  have e:=congrArg K8 f3;rw [A5] at e;unfold Bt at e;rw [Dh,D4,A5,hm] at e;have r0:HT.sIx 12 0 (some 4)=4:=rfl;have r1:HT.sIx 12 12 (some (5 + x10 % 6))<=10:=by
   have:x10 % 6=0\/x10 % 6=1\/x10 % 6=2\/x10 % 6=3\/x10 % 6=4\/x10 % 6=5:=by omega
   rcases this with q | q | q | q | q | q <;> rw [q] <;> decide
  rw [r0] at e;omega
 rw [f3] at t8;let dw:Int->List Bool:=λ n=>Classical.choose (Pc (a:=a) (b:=b) (c:=c) n ha hb);have hdw:∀ n,Wd a b (dw n)/\b_drawn_way [bx a b c,.int n]=.ok (wd (dw n),om,.non):=λ n=>Classical.choose_spec (Pc (a:=a) (b:=b) (c:=c) n ha hb);have c3:=Lf (n:=11) (f:=AH (Aa 5) (some (bC (.int 4))) (some (Ab Ao (bC (.int 5)) (Ab AI (Ab Al (Aa 5) (bC (.int 10))) (bC (.int 6)))))) (elt:=Az J0 (Ad (Aa 2) (Ad (Aa 11) (Ac)))) (enc:=PV.int) (q:=λ n=>wd (dw n)) (ρ:=ρ4) (ρ1:=ρ4) n3 t8 h4.len (λ n _=>BO (xs:=[(bx a b c,0),(.int n,om)]) (By ((h4.push (x:=.int n) (d:=om)).var (j:=2) rfl) (Bx ((h4.push (x:=.int n) (d:=om)).var (j:=11) rfl))) (hdw n).2) (by omega);have w3:PV.lst (n3.map λ n=>wd (dw n))=wl (n3.map dw):=by unfold wl;rw [Ik];rfl
 rw [w3] at c3;refine Gv.ex (h4.app (i:=6) (y:=wl (n3.map dw)) rfl (by decide) c3 (by show 8 < Am;omega)) λ ρ5 h5=>?_;let Ls:List (List (List Bool)):=[W,[],W.take 1,V2,W++W.drop (W.length - 1),W.reverse,vs1,vs2,n3.map dw]
 have hLs:∀ vs∈Ls,Gw a b vs:=λ vs hv=>by
  simp only [Ls,jb2,EA,or_false] at hv;rcases hv with rfl | rfl | rfl | rfl | rfl | rfl | rfl | rfl | rfl
  ·exact ⟨hW,by omega⟩
  ·exact ⟨λ _ h=>(nomatch h),CV _⟩
  ·exact MD (λ w hw=>MZ hw) (by rw [Dh];omega) hW
  ·exact MD s2 (by omega) hW
  ·refine MD (λ w hw=>?_) (by rw [AV,D4];omega) hW;rcases jc2.mp hw with hw | hw
   ·exact hw
   ·exact PQ hw
  ·exact MD (λ w hw=>jq7.mp hw) (by rw [KN];omega) hW
  ·exact ⟨g1,by omega⟩
  ·exact ⟨g2,by omega⟩
  ·refine ⟨λ w hw=>?_,by rw [A5];exact ln3⟩;obtain ⟨n,_,rfl⟩:=je6.mp hw;exact (hdw n).1
 let L0:List (Option PV):=Fr ns (some (.int cell)) (some (bx a b c)) none (some (wl W)) none none none none none none;have h5':HV (Fr ns (some (.int cell)) (some (bx a b c)) none (some (wl W)) (some (il ms)) (some (.lst (Ls.map wl))) none none none none) [6] ρ5:=h5;obtain ⟨ρ6,e6,h6⟩:=L5 (asg:=asgN 7) (body:=B1) (Ls.map wl) (λ _ ρ=>HV L0 [] ρ) (Bg 0 [6] ρ5) ((h5'.cool (d:=0) (vs:=[6])).weak ⟨rfl,rfl,rfl,rfl,trivial⟩ λ _ h=>h) λ j x ρ hj hh=>by
  obtain ⟨vs,hvs,rfl⟩:=je6.mp (Gk hj);obtain ⟨ρa,ea,ha'⟩:=hh.asgN (i:=7) (wl vs) (show 7 < 11 by decide) (λ z=>nomatch z);obtain ⟨ρb,x,y,eb,hb'⟩:=Wo (a:=a) (b:=b) (c:=c) (vs:=vs) ha' rfl rfl rfl (hLs vs hvs) ha hb hc;exact ⟨ρa,ρb,ea,eb,hb'.weak ⟨rfl,rfl,rfl,rfl,trivial⟩ λ _ h=>h⟩
 refine Gv.nx (NU (els:=Ls.map wl) (d:=0) (h5'.var rfl) rfl e6) ?_;obtain ⟨L,dL,eL,hLn⟩:=ZI (a:=a) (b:=b) (c:=c) (far:=cell % 10 ^ 30) (Gg _ (by decide));have cF:=BO (F:=J1) (fa:=Ad (Aa 2) (Ad (Ab AI (Aa 1) (Ab FK (bC (.int 10)) (bC (.int 30)))) (Ac))) (ρ:=ρ6) (By (h6.var rfl) (Bx (Dn (h6.var (j:=1) (x:=.int cell) rfl) (g:=Ab FK (bC (.int 10)) (bC (.int 30))) (j:=10 ^ 30) (e:=om) rfl (by decide)))) eL;obtain ⟨ρ7,e7,h7⟩:=L5 (asg:=asgN 10) (body:=B2) L (λ _ ρ=>HV L0 [] ρ) (Bg dL [2,1] ρ6) (h6.cool (d:=dL) (vs:=[2,1])) λ j x ρ hj hh=>by
  have hx:=hLn x (Gk hj);obtain ⟨ρa,ea,ha'⟩:=hh.asgN (i:=10) x (show 10 < 11 by decide) (λ z=>nomatch z);have q1:=Hx (BO (F:=FA) (fa:=Ad (Aa 10) (Ad (Aa 4) (Ac))) (ρ:=ρa) (xs:=[(x,dv x),(wl W,0)]) (By (ha'.var rfl) (Bx (ha'.var rfl))) (Tr hx));have q2:=Hx (BO (F:=FA) (fa:=Ad (Aa 10) (Ad (Aj AA (Ac)) (Ac))) (ρ:=ρa) (xs:=[(x,dv x),(.lst [],om)]) (By (ha'.var rfl) (Bx rfl)) (Tr hx));exact ⟨ρa,ρa,ea,(Cr (Bu (Jm q1 (λ _=>q2) rfl))).trans rfl,ha'.weak ⟨rfl,rfl,rfl,rfl,trivial⟩ λ _ h=>h⟩
 exact Gv.nx (NU cF rfl e7) (Gv.ret rfl)
def law_true:∀ ns:List Int,ns.length<=63->∃ d z,F21 [.scr ns]=.ok (.bl true,d,z):=by
 intro ns hns;have z:=sz;obtain ⟨a,b,c,ha,hb,hc,ebx⟩:=WR (ns.getD 0 0) (most:=4) (great:=6) (m:=6) (by omega) (by omega);obtain ⟨t,dt,pt,hd,ept⟩:=Zy (a:=a) (b:=b) (c:=c) ns 3 (ns.getD 1 0) (by omega) (by omega) (by omega) (by omega) (by omega);have ht:=pt.tab;refine Gv.fn rfl (show Gv Nh [some (.scr ns,om),none,none,none,none,none,none,none,none,none,none] _ from ?_);have h0:HV (Fr ns none none none none none none none none none none) [] [some (.scr ns,om),none,none,none,none,none,none,none,none,none,none]:=HV.of [some (.scr ns,om),none,none,none,none,none,none,none,none,none,none];rw [WQ];refine Gv.ex (h0.setO (x:=.int (ns.getD 0 0)) (BO (xs:=[(.scr ns,om),(.int 0,om)]) (By (h0.var rfl) (Bx rfl)) (NP ns 0)) (show 1 < 11 by decide)) λ ρ1 h1=>?_;refine Gv.ex (h1.setO (x:=bx a b c) (BO (xs:=[(.int (ns.getD 0 0),om),(.int 4,om),(.int 6,om)]) (By (h1.var rfl) rfl) ebx) (show 2 < 11 by decide)) λ ρ2 h2=>?_;refine Gv.ex (h2.set (x:=tb t) (BO (xs:=[(bx a b c,0),(.scr ns,om),(.int 3,om),(.int (ns.getD 1 0),om)]) (By (h2.var rfl) (By (h2.var rfl) (By (f:=bC (.int 3)) rfl (Bx (BO (F:=F7) (xs:=[(.scr ns,om),(.int 1,om)]) (By (h2.var rfl) (Bx rfl)) (NP ns 1)))))) ept) (show 3 < 11 by decide)) λ ρ3 h3=>?_;let W:List (List Bool):=(Cd t c).map (C7 b);have ew:PV.lst ((Cd t c).map λ s=>wd (C7 b s))=wl W:=by
  unfold wl;rw [Ik];rfl
 have sl:(Cd t c).length=c:=by unfold Cd;rw [A5,EW]
 have lW:W.length=c:=by show ((Cd t c).map (C7 b)).length=c;rw [A5,sl]
 have hW:∀ w∈W,Wd a b w:=λ w hw=>by
  obtain ⟨s,hs,rfl⟩:=je6.mp hw;have h:=QA pt hs;exact ⟨(XW s).trans h.2,XX h.1⟩
 have e4:=Lf (n:=11) (f:=Az Hq (Ad (Aa 2) (Ad (Aa 3) (Ac)))) (elt:=Az IH (Ad (Aa 11) (Ad (Ab Al (Aa 2) (bC (.int 1))) (Ac)))) (enc:=il) (q:=λ s=>wd (C7 b s)) (ρ:=ρ3) (ρ1:=ρ3) (d:=1) (Cd t c) (BO (F:=Hq) (xs:=[(bx a b c,0),(tb t,0)]) (By (h3.var rfl) (Bx (h3.var rfl))) (W2 ht (by omega) (by omega) (by omega))) h3.len (λ s hs=>by
  have h:=QA pt hs;have hp:=h3.push (x:=il s) (d:=0);exact BO (xs:=[(il s,0),(.int (b:Int),om)]) (By (hp.var (j:=11) rfl) (Bx (C1 (hp.var (j:=2) (x:=bx a b c) rfl) (y:=.int 1) (e:=om) rfl rfl))) (Y6 h.1 (by omega) (by rw [h.2];omega))) (by omega)
 rw [ew] at e4;refine Gv.ex (h3.setO (x:=wl W) e4 (show 4 < 11 by decide)) λ ρ4 h4=>?_;exact Z7 hW lW ha hb hc (h4.weak ⟨rfl,rfl,rfl,rfl,trivial⟩ λ _ h=>h)
end
open PySem PySem.Spec PyProof.Rows L2 QQ
section
variable {P:A0}{w:Ay}{K:Frag}{mg:Str->Option Ae}
def c0:FnScope S0.N ["thing"] (Bo t0):={}
def c1:FnScope S1.N ["thing"] (Bo t1):={}
def c2:FnScope S2.N ["box"] (Bo t2):={}
def c3:FnScope S3.N ["box","thing"] (Bo t3):={}
def c4:FnScope S4.N ["box","thing"] (Bo t4):={}
def c5:FnScope S5.N ["way","k"] (Bo t5):={}
def c6:FnScope S6.N ["box","ways"] (Bo t6):={}
def c7:FnScope S7.N ["script","k"] (Bo t7):={}
def c8:FnScope S8.N ["cell","k"] (Bo t8):={}
def c9:FnScope S9.N ["cell","many"] (Bo t9):={}
def zP:FnScope S10.N ["cell","most","great"] (Bo FZ):={}
def zO:FnScope S11.N ["box","script","start","cell"] (Bo Mq):={}
def zN:FnScope S12.N ["box","pile"] (Bo Mp):={}
def zM:FnScope S13.N ["staircase","columns"] (Bo Mo):={}
def zL:FnScope S14.N ["box","far"] (Bo Mn):={}
def zK:FnScope S15.N ["box","cell"] (Bo Mm):={}
def zJ:FnScope S16.N ["way","number"] (Bo Ml):={}
def zI:FnScope S17.N ["box","ways","numbers"] (Bo Mj):={}
def zH:FnScope S18.N ["ways"] (Bo Mi):={}
def zG:FnScope S19.N ["caught"] (Bo Mh):={}
def zF:FnScope S20.N ["box","thing"] (Bo Mg):={}
def zE:FnScope S21.N ["script"] (Bo Kp):={}
def all_ok {fa:Addr} (G:Given dfs [0,1,2,3,4,5,6,7,8,9,10,11] K mg) (hm:mg "law" = some (.ref fa)):
  ∃ fd:CJ,(∀ (s:Ai) (u:Ae),BindsTo s fd ⟨[u],[]⟩ [("script",u)])/\∀ base:Heap,FnOk P w K mg base (AS P w K) 6 fa fd ["script"] (BH K false 1 F21):=by
 have hb:=G.bn;have gx:=G.gx;obtain ⟨a0,d0,m0,f0⟩:=G.df 0 _ _ rfl;obtain ⟨a1,d1,m1,f1⟩:=G.df 1 _ _ rfl;obtain ⟨a2,d2,m2,f2⟩:=G.df 2 _ _ rfl;obtain ⟨a3,d3,m3,f3⟩:=G.df 3 _ _ rfl;obtain ⟨a4,d4,m4,f4⟩:=G.df 4 _ _ rfl;obtain ⟨a5,d5,m5,f5⟩:=G.df 5 _ _ rfl;obtain ⟨a6,d6,m6,f6⟩:=G.df 6 _ _ rfl;obtain ⟨a7,d7,m7,f7⟩:=G.df 7 _ _ rfl;obtain ⟨a8,d8,m8,f8⟩:=G.df 8 _ _ rfl;obtain ⟨a9,d9,m9,f9⟩:=G.df 9 _ _ rfl;obtain ⟨a10,d10,m10,f10⟩:=G.df 10 _ _ rfl;obtain ⟨a11,d11,m11,f11⟩:=G.df 11 _ _ rfl;obtain ⟨a12,d12,m12,f12⟩:=G.df 12 _ _ rfl;obtain ⟨a13,d13,m13,f13⟩:=G.df 13 _ _ rfl;obtain ⟨a14,d14,m14,f14⟩:=G.df 14 _ _ rfl;obtain ⟨a15,d15,m15,f15⟩:=G.df 15 _ _ rfl;obtain ⟨a16,d16,m16,f16⟩:=G.df 16 _ _ rfl;obtain ⟨a17,d17,m17,f17⟩:=G.df 17 _ _ rfl;obtain ⟨a18,d18,m18,f18⟩:=G.df 18 _ _ rfl;obtain ⟨a19,d19,m19,f19⟩:=G.df 19 _ _ rfl;obtain ⟨a20,d20,m20,f20⟩:=G.df 20 _ _ rfl;obtain ⟨a21,d21,m21,f21⟩:=G.df 21 _ _ rfl;cases hm.symm.trans m21;have B0:=f0.binds (ps:=["thing"]) λ _ _ _ _ _ _ us hl=>by obtain ⟨_,rfl⟩:=En hl;rfl
 have B1:=f1.binds (ps:=["thing"]) λ _ _ _ _ _ _ us hl=>by obtain ⟨_,rfl⟩:=En hl;rfl
 have B2:=f2.binds (ps:=["box"]) λ _ _ _ _ _ _ us hl=>by obtain ⟨_,rfl⟩:=En hl;rfl
 have B3:=f3.binds (ps:=["box","thing"]) λ _ _ _ _ _ _ us hl=>by obtain ⟨_,_,rfl⟩:=BV hl;rfl
 have B4:=f4.binds (ps:=["box","thing"]) λ _ _ _ _ _ _ us hl=>by obtain ⟨_,_,rfl⟩:=BV hl;rfl
 have B5:=f5.binds (ps:=["way","k"]) λ _ _ _ _ _ _ us hl=>by obtain ⟨_,_,rfl⟩:=BV hl;rfl
 have B6:=f6.binds (ps:=["box","ways"]) λ _ _ _ _ _ _ us hl=>by obtain ⟨_,_,rfl⟩:=BV hl;rfl
 have B7:=f7.binds (ps:=["script","k"]) λ _ _ _ _ _ _ us hl=>by obtain ⟨_,_,rfl⟩:=BV hl;rfl
 have B8:=f8.binds (ps:=["cell","k"]) λ _ _ _ _ _ _ us hl=>by obtain ⟨_,_,rfl⟩:=BV hl;rfl
 have B9:=f9.binds (ps:=["cell","many"]) λ _ _ _ _ _ _ us hl=>by obtain ⟨_,_,rfl⟩:=BV hl;rfl
 have B10:=f10.binds (ps:=["cell","most","great"]) λ _ _ _ _ _ _ us hl=>by obtain ⟨_,_,_,rfl⟩:=Ij hl;rfl
 have B11:=f11.binds (ps:=["box","script","start","cell"]) λ _ _ _ _ _ _ us hl=>by obtain ⟨_,_,_,_,rfl⟩:=Py hl;rfl
 have B12:=f12.binds (ps:=["box","pile"]) λ _ _ _ _ _ _ us hl=>by obtain ⟨_,_,rfl⟩:=BV hl;rfl
 have B13:=f13.binds (ps:=["staircase","columns"]) λ _ _ _ _ _ _ us hl=>by obtain ⟨_,_,rfl⟩:=BV hl;rfl
 have B14:=f14.binds (ps:=["box","far"]) λ _ _ _ _ _ _ us hl=>by obtain ⟨_,_,rfl⟩:=BV hl;rfl
 have B15:=f15.binds (ps:=["box","cell"]) λ _ _ _ _ _ _ us hl=>by obtain ⟨_,_,rfl⟩:=BV hl;rfl
 have B16:=f16.binds (ps:=["way","number"]) λ _ _ _ _ _ _ us hl=>by obtain ⟨_,_,rfl⟩:=BV hl;rfl
 have B17:=f17.binds (ps:=["box","ways","numbers"]) λ _ _ _ _ _ _ us hl=>by obtain ⟨_,_,_,rfl⟩:=Ij hl;rfl
 have B18:=f18.binds (ps:=["ways"]) λ _ _ _ _ _ _ us hl=>by obtain ⟨_,rfl⟩:=En hl;rfl
 have B19:=f19.binds (ps:=["caught"]) λ _ _ _ _ _ _ us hl=>by obtain ⟨_,rfl⟩:=En hl;rfl
 have B20:=f20.binds (ps:=["box","thing"]) λ _ _ _ _ _ _ us hl=>by obtain ⟨_,_,rfl⟩:=BV hl;rfl
 refine ⟨d21,?_,λ base=>?_⟩
 ·obtain ⟨_,_,_,_,_,_,_,_,_,rfl,_,_⟩:=f21.ex;exact λ s v=>.of_eq rfl
 have o0:FnOk P w K mg base (AS P w K) 1 a0 d0 ["thing"] (BH K false 1 F0):=C5 S0 f0 c0 gx (C2 hb) h0;have o1:FnOk P w K mg base (AS P w K) 2 a1 d1 ["thing"] (BH K false 1 F1):=C5 S1 f1 c1 gx (DV (C2 hb) m0 f0 B0 o0) h1;have o2:FnOk P w K mg base (AS P w K) 3 a2 d2 ["box"] (BH K false 1 F2):=C5 S2 f2 c2 gx (DV (C2 hb) m1 f1 B1 o1) h2;have o3:FnOk P w K mg base (AS P w K) 1 a3 d3 ["box","thing"] (BH K false 2 F3):=C5 S3 f3 c3 gx (C2 hb) h3;have o4:FnOk P w K mg base (AS P w K) 2 a4 d4 ["box","thing"] (BH K false 2 F4):=C5 S4 f4 c4 gx (DV (C2 hb) m3 f3 B3 o3) h4;have o5:FnOk P w K mg base (AS P w K) 1 a5 d5 ["way","k"] (BH K false 2 F5):=C5 S5 f5 c5 gx (C2 hb) h5;have o6:FnOk P w K mg base (AS P w K) 4 a6 d6 ["box","ways"] (BH K false 2 F6):=C5 S6 f6 c6 gx (DV (DV (DV (C2 hb) m5 f5 B5 o5) m4 f4 B4 o4) m2 f2 B2 o2) h6;have o7:FnOk P w K mg base (AS P w K) 1 a7 d7 ["script","k"] (BH K false 2 F7):=C5 S7 f7 c7 gx (C2 hb) h7;have o8:FnOk P w K mg base (AS P w K) 1 a8 d8 ["cell","k"] (BH K false 2 F8):=C5 S8 f8 c8 gx (C2 hb) h8;have o9:FnOk P w K mg base (AS P w K) 2 a9 d9 ["cell","many"] (BH K false 2 F9):=C5 S9 f9 c9 gx (DV (C2 hb) m8 f8 B8 o8) h9;have o10:FnOk P w K mg base (AS P w K) 3 a10 d10 ["cell","most","great"] (BH K false 3 Np):=C5 S10 f10 zP gx (DV (C2 hb) m9 f9 B9 o9) zA;have o11:FnOk P w K mg base (AS P w K) 3 a11 d11 ["box","script","start","cell"] (BH K false 4 Nn):=C5 S11 f11 zO gx (DV (C2 hb) m9 f9 B9 o9) z9;have o12:FnOk P w K mg base (AS P w K) 1 a12 d12 ["box","pile"] (BH K false 2 Hq):=C5 S12 f12 zN gx (C2 hb) Jw;have o13:FnOk P w K mg base (AS P w K) 1 a13 d13 ["staircase","columns"] (BH K false 2 IH):=C5 S13 f13 zM gx (C2 hb) z8;have o14:FnOk P w K mg base (AS P w K) 1 a14 d14 ["box","far"] (BH K false 2 J1):=C5 S14 f14 zL gx (C2 hb) z7;have o15:FnOk P w K mg base (AS P w K) 3 a15 d15 ["box","cell"] (BH K false 2 J0):=C5 S15 f15 zK gx (DV (C2 hb) m9 f9 B9 o9) z6;have o16:FnOk P w K mg base (AS P w K) 1 a16 d16 ["way","number"] (BH K false 2 Vt):=C5 S16 f16 zJ gx (C2 hb) z5;have o17:FnOk P w K mg base (AS P w K) 4 a17 d17 ["box","ways","numbers"] (BH K false 3 Jz):=C5 S17 f17 zI gx (DV (DV (C2 hb) m16 f16 B16 o16) m15 f15 B15 o15) z4;have o18:FnOk P w K mg base (AS P w K) 1 a18 d18 ["ways"] (BH K false 1 IG):=C5 S18 f18 zH gx (C2 hb) zy;have o19:FnOk P w K mg base (AS P w K) 1 a19 d19 ["caught"] (BH K false 1 IF):=C5 S19 f19 zG gx (C2 hb) zx;have o20:FnOk P w K mg base (AS P w K) 5 a20 d20 ["box","thing"] (BH K false 2 FA):=C5 S20 f20 zF gx (DV (DV (C2 hb) m19 f19 B19 o19) m6 f6 B6 o6) zw;exact C5 S21 f21 zE gx (DZ (DZ (DZ (DZ (DZ (DZ (DZ (DZ (DZ (DZ (DZ (DZ (C2 hb) (by decide +kernel) DX m20 f20 B20 rfl (o20.mono (by decide))) (by decide +kernel) DX m18 f18 B18 rfl (o18.mono (by decide))) (by decide +kernel) DX m17 f17 B17 rfl (o17.mono (by decide))) (by decide +kernel) DX m15 f15 B15 rfl (o15.mono (by decide))) (by decide +kernel) DX m14 f14 B14 rfl (o14.mono (by decide))) (by decide +kernel) DX m13 f13 B13 rfl (o13.mono (by decide))) (by decide +kernel) DX m12 f12 B12 rfl (o12.mono (by decide))) (by decide +kernel) DX m11 f11 B11 rfl (o11.mono (by decide))) (by decide +kernel) DX m10 f10 B10 rfl (o10.mono (by decide))) (by decide +kernel) DX m9 f9 B9 rfl (o9.mono (by decide))) (by decide +kernel) DX m7 f7 B7 rfl (o7.mono (by decide))) (by decide +kernel) DX m6 f6 B6 rfl (o6.mono (by decide))) zu
end
end K17
open PySem PySem.W PyProof.Rows
set_option maxRecDepth 100000 in
set_option maxHeartbeats 0 in
theorem PySem.Challenge.cw_cornerpiles_k17_ways_moved_apart_holds : PySem.Challenge.rw_cornerpiles_k17_ways_moved_apart.Holds := by
 refine QQ.holds_by (l:=PySem.Challenge.rw_cornerpiles_k17_ways_moved_apart) (q:=K17.view) (loose:=K17.loose) (N:=20000) (k:=6) (n:=63) (ds:=K17.dfs) (xc:=[0,1,2,3,4,5,6,7,8,9,10,11]) (F:=K17.F21) (x := "script") ?said rfl rfl (λ _=>rfl) K17.run (by rfl) (by rfl) (by rfl) (by rfl) (by decide +kernel) ⟨rfl,rfl,rfl,rfl,rfl,by decide +kernel⟩ ?hw rfl (by decide) rfl ⟨rfl,by decide,by decide,rfl⟩ (λ _ _ _ _ G hm=>K17.all_ok G hm) (λ _ _ _ ns hl hO hS=>QQ.sp_yes hO hS (K17.law_true ns hl))
 case said=>decide +kernel
 case hw=>w_witness2
